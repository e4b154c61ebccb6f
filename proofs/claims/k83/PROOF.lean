import PyProof.Rows.All
import Wide.All
import OpenK.AllK
import Wide.FinOn
import Lean
import PyProof.EqAt
import PyProof.EqKinds
import PyProof.TupleCall
import PyProof.NeKinds
import PyProof.Rows.SumAny
import PyProof.StrBlockL
import PyProof.StrBlockI
import PyProof.FitsReplace
import PyProof.Rows.SeqMore
import PyProof.Rows.TupAdd
import PyProof.Draws
import PyProof.ZipIter
import OpenK.ZGo
import PyProof.ListNew
import PyProof.Rows.SortStr
import PyProof.Rows.SortWalk
import PyProof.IsRules
import KE.KDictLaws
import PyProof.DictWalks
import PyProof.WalkInts
import PyProof.DictItems
import PyProof.Rows.DictItemsRows
import KE.KPairComp
import PyProof.Rows.BitMore
import PyProof.Rows.SetFrom
import PyProof.SetRoads
import PyProof.CollectIter
import PyProof.Rows.SortShellK
import PyProof.SeqRoads2
import PySem.Challenge.RW_slicewise_k83_inputs_that_do_a_row
set_option Elab.async false
set_option linter.all false
set_option genSizeOf false
set_option genSizeOfSpec false
set_option bootstrap.genMatcherCode false
set_option maxRecDepth 100000
set_option maxHeartbeats 8000000
abbrev δ:=@PySem.wpAny_bind
abbrev ε:=@if_pos
abbrev ζ:=@if_neg
abbrev η:=@PySem.wpAny_pure
abbrev ι:=@decide_eq_false
abbrev μ:=@decide_eq_true
abbrev ξ:=@PySem.sizeLine_eq
abbrev π:=@or_false
abbrev χ:=@PySem.wpAny_truthy_bool
abbrev ψ:=@congrArg
abbrev ω:=@PySem.wpAny_mono
abbrev Θ:=@PySem.wpAny_newObj_type
abbrev Λ:=@of_decide_eq_true
abbrev Ξ:=@beq_eq_false_iff_ne
abbrev Φ:=@PySem.wpAny_holding
abbrev Ω:=@PySem.wpAny_specialOf
abbrev P1:=@if_false
abbrev P2:=@PySem.wpAny_call_entry
abbrev aaa:=@PySem.wpAny_passesOwn
abbrev aab:=@PySem.wpAny_getItem_str_slice
abbrev aac:=@PySem.wpAny_forIn_list
abbrev aad:=@PySem.wpAny_callSpecialIfBoundUnlessNone?_slot
abbrev aae:=@PySem.call_meetsIn
abbrev aaf:=@PySem.wpAny_Call_Name_kw
abbrev aag:=@PySem.wpAny_field
abbrev aah:=@PySem.wpAny_callSpecial?_slot
abbrev aai:=@PySem.wpAny_pyIter_enum
abbrev aaj:=@decide_eq_true_eq
abbrev aak:=@PySem.isSubtype_tuple_tuple
abbrev aal:=@PySem.wpAny_execs_nil
abbrev aam:=@PySem.post_val_or_str
abbrev aan:=@if_true
abbrev aao:=@beq_iff_eq
abbrev aap:=@PySem.wpAny_pyIter_tuple
abbrev aaq:=@PySem.tupleKind_room_in1
abbrev aar:=@PySem.wpAny_tupleItemsOf
abbrev aas:=@PySem.wpAny_seqItems
variable{pos p apos bj p2 p1 pos' fW:PySem.Pos}{w:PySem.World}{f a C b dx d:PySem.Addr}{n i j t' m:Nat}{fd:PySem.FuncData}{x qual y:PySem.Str}{e o c iter:PySem.Expr}{P prog:PySem.Program}{A:PySem.Around}{α β:Type}{base h h':PySem.Heap}{u:PySem.Value}{O:HD}{B:Prop}{s':PySem.Shared}{sc:PySem.Scope}
abbrev HD:=List (Option PySem.Addr)
abbrev qaa:=List (PySem.Addr×PySem.Obj)
abbrev qad:=PySem.Value->PySem.Shared->Prop
abbrev qae:=PySem.Str->Option PySem.Value
abbrev Γ:=PySem.W.Frag
abbrev Ψ:=List PySem.Value
abbrev υ:=List PySem.Addr
abbrev ν:=List PySem.Str
abbrev qan:=List Int
abbrev qao:=List Nat
abbrev qap:=List PySem.Expr
abbrev qaq:=List PySem.Stmt
abbrev qar:=Option PySem.Addr
noncomputable abbrev qav:List PySem.Str:=["self","program","most","poke"]
noncomputable abbrev qaw:List PySem.Str:=["call","names"]
noncomputable abbrev qax:List PySem.Str:=["thing"]
noncomputable abbrev qay:List PySem.Str:=["program"]
noncomputable abbrev qaz:List PySem.Str:=["self","program"]
noncomputable abbrev qaA:List PySem.Str:=["layout","place"]
noncomputable abbrev qaB:List PySem.Str:=["number"]
noncomputable abbrev qaC:List PySem.Str:=["value"]
noncomputable abbrev qaD:List PySem.Str:=["one","other"]
noncomputable abbrev qaE:List PySem.Str:=["one","word","other"]
noncomputable abbrev qaF:List PySem.Str:=["self","call","names"]
noncomputable abbrev qaG:List PySem.Str:=["machine","part"]
noncomputable abbrev qaH:List PySem.Str:=["key","used"]
noncomputable abbrev qaI:List PySem.Str:=["machine","row","used"]
noncomputable abbrev qaJ:List PySem.Str:=["machine","row","used","made"]
noncomputable abbrev qaK:List PySem.Str:=["machine","place","call","given"]
noncomputable abbrev qaL:List PySem.Str:=["machine","row"]
noncomputable abbrev qaM:List PySem.Str:=["program","inputs","most","poke"]
noncomputable abbrev qaN:List PySem.Str:=["program","inputs","most"]
noncomputable abbrev qaO:List PySem.Str:=["_law_script","_law_k"]
noncomputable abbrev qaP:List PySem.Str:=["_law_cell","_law_many"]
noncomputable abbrev qaQ:List PySem.Str:=["_law_number","_law_words_here"]
noncomputable abbrev qaR:List PySem.Str:=["_law_number","_law_name","_law_words_here","_law_later"]
noncomputable abbrev qaS:List PySem.Str:=["_law_number","_law_words_here","_law_later"]
noncomputable abbrev qaT:List PySem.Str:=["_law_rows_here","_law_stack","_law_cell","_law_words_here","_law_later"]
noncomputable abbrev qaU:List PySem.Str:=["_law_cell","_law_words_here"]
noncomputable abbrev qaV:List PySem.Str:=["_law_cells","_law_words_here","_law_plan_here"]
noncomputable abbrev qaW:List PySem.Str:=["program","row","some","most"]
noncomputable abbrev qaX:List PySem.Str:=["_law_found"]
noncomputable abbrev qaY:List PySem.Str:=["_law_program_here"]
noncomputable abbrev qaZ:List PySem.Str:=["_law_program_here","_law_row","_law_some","_law_most"]
abbrev qba:List PySem.Str:=["_law_program_here","_law_some","_law_most"]
abbrev qbb:List PySem.Str:=["_law_inputs_here"]
abbrev qbc:List PySem.Str:=["_law_program_here","_law_row","_law_some","_law_most","_law_done"]
abbrev qbd:List PySem.Str:=["_law_script"]
abbrev iq(x:PySem.Str):Prop:=(x==("__debug__":PySem.Str))=false
abbrev uL(x:PySem.Str):Prop:=(x==("__classdict__":PySem.Str))=false
abbrev cb:=@List.mem_append_right
abbrev cW:=@List.mem_append_left
abbrev eE:=@List.getElem?_eq_some_iff
abbrev cu:=@List.length_map
abbrev cR:=@List.mem_append
abbrev dD:=@List.mem_cons_self
abbrev c0:=@List.mem_cons
abbrev iy:=@List.getElem?_eq_getElem
abbrev c9:=@Nat.le_refl
abbrev gM:=@List.mem_of_getElem?
abbrev gT:=@List.mem_cons_of_mem
abbrev fA:=@List.not_mem_nil
abbrev jn:=@PySem.Heap.get?_push_of_some
abbrev hX:=@List.mem_singleton
abbrev iz:=@List.getElem?_map
abbrev iM:=@Bool.false_ne_true
abbrev pf:=@List.getElem?_append_right
abbrev nK:=@List.getElem?_append_left
abbrev jd:=@List.size_toArray
abbrev kr:=@List.filterMap_cons
abbrev gU:=@List.map_cons
abbrev qe:=@PySem.F.slot_list_append
abbrev qf:=@PySem.F.type_list_append
abbrev iw:=@PySem.Heap.lt_size
abbrev nL:=@List.length_append
abbrev ph:=@PySem.Heap.get?_push_size
abbrev hY:=@Nat.zero_le
abbrev lY:=@Bool.and_eq_true
abbrev je:=@Nat.le_trans
abbrev lU:=@List.nodup_cons
abbrev pj:=@Int.emod_lt_of_pos
abbrev xv:=@List.getLast?_eq_getElem?
abbrev nG:=@List.map_append
abbrev nH:=@Int.emod_nonneg
abbrev kG:=@PySem.W.mg_of
abbrev j7:=@Nat.ne_of_lt
abbrev lZ:=@PySem.boot_len
abbrev xi:=@List.getElem?_set_ne
abbrev xj:=@Nat.lt_of_lt_of_le
abbrev Ac:=@List.length_replicate
abbrev zX:=@List.replicate_succ
abbrev Ad:=@List.length_dropLast
abbrev DV:=@List.getElem?_replicate
abbrev xk:=@List.length_cons
abbrev DW:=@List.getElem?_set_self
abbrev zY:=@Int.toNat_natCast
abbrev zZ:=@List.nodup_append
abbrev xl:=@PySem.PassesOwn.never
abbrev Ae:=@PySem.W.mg_none_of
abbrev Gs:=@Int.eq_ofNat_of_zero_le
abbrev xm:=@List.mem_range
abbrev Gu:=@List.getElem?_eq_none
abbrev Cc:=@Nat.lt_succ_self
abbrev xn:=@List.mem_map
abbrev Gf:=@Bool.false_eq_true
abbrev Gv:=@List.set_cons_succ
abbrev DX:=@List.append_nil
abbrev La:=@Array.length_toList
abbrev O9:=@List.length_eq_zero_iff
abbrev Lx:=@List.getLast?_concat
abbrev Gw:=@List.getElem_mem
abbrev QQ:=@List.mem_or_eq_of_mem_set
abbrev Lb:=@Nat.lt_succ_of_lt
abbrev Lc:=@List.length_range
abbrev O_:=@PySem.F.slot_dict_get
abbrev Ly:=@List.zip_cons_cons
abbrev Ld:=@List.lookup_cons
abbrev QR:=@List.getElem?_dropLast
abbrev Lz:=@List.append_assoc
abbrev Pa:=@PySem.mem_of_lookup
abbrev Pb:=@List.length_pos_iff
abbrev Le:=@List.find?_cons
abbrev We:=@List.mem_iff_getElem?
abbrev Pc:=@List.set_cons_zero
abbrev QS:=@List.dropLast_concat
abbrev QT:=@List.map_congr_left
abbrev Vp:=@List.getElem?_range
abbrev Lf:=@Bool.not_true
abbrev QU:=@PySem.Calls.spliced_cons
abbrev LA:=@List.nodup_nil
abbrev Wf:=@Classical.byContradiction
abbrev Lg:=@Nat.ne_of_gt
abbrev Lh:=@List.map_map
abbrev Li:=@Int.zero_add
abbrev QV:=@List.flatten_cons
abbrev LB:=@Nat.lt_irrefl
abbrev LC:=@List.any_cons
abbrev Wg:=@List.getElem?_cons_zero
abbrev Wh:=@PySem.F.plainAttrs_list
abbrev Wi:=@PySem.F.args_dict_get_3
abbrev Wj:=@PySem.F.plainAttrs_dict
abbrev QW:=@List.all_eq_true
abbrev QX:=@List.cons_append
abbrev Wm:=@PySem.Calls.callWith_builtin
abbrev Wn:=@Option.map_eq_some_iff
abbrev Wo:=@PySem.F.entry_dict_get
abbrev ZP:=@PyProof.Rows.callWith_type1
abbrev QY:=@List.length_set
abbrev QZ:=@Bool.eq_iff_iff
abbrev Wq:=@Bool.beq_eq_decide_eq
abbrev Q0:=@PySem.W.kia_one
abbrev Q1:=@List.length_zip
abbrev ZQ:=@List.getD_eq_getElem?_getD
abbrev ZR:=@PySem.F.slot_tuple_iterator_next
abbrev Pd:=@Bool.true_and
abbrev Wr:=@List.getElem?_mapIdx
abbrev ZS:=@List.pairwise_iff_getElem
abbrev abU:=@List.findIdx?_eq_some_iff_getElem
abbrev Q2:=@PySem.Heap.size_push
abbrev Pe:=@List.map_nil
abbrev Pf:=@Nat.min_self
abbrev Vq:=@Option.bind_some
abbrev abZ:=@PyProof.Rows.slot_tuple_getitem
abbrev ZT:=@List.filter_cons_of_pos
abbrev Q3:=@PySem.Paired.length
abbrev Q5:=@Bool.and_self
abbrev Vr:=@List.mem_filter
abbrev Vs:=@Option.map_some
abbrev ZU:=@List.zipWith_cons_cons
abbrev Ws:=@List.ext_getElem?
abbrev Q6:=@Nat.sub_self
abbrev Wt:=@List.length_drop
abbrev ZV:=@PySem.Calls.evalArgs_plain
abbrev Wu:=@Option.getD_some
abbrev ZW:=@PySem.F.slot_NoneType_hash
abbrev acd:=@List.drop_eq_getElem_cons
abbrev ace:=@List.findIdx?_eq_none_iff
abbrev ZX:=@List.mem_filterMap
abbrev ZY:=@PySem.W.callWith_K
abbrev ach:=@PySem.F.args_tuple_add_2
abbrev ZZ:=@List.filterMap_map
abbrev Z0:=@Nat.lt_of_le_of_lt
abbrev Z1:=@List.length_mapIdx
abbrev Wv:=@Bool.false_and
abbrev acn:=@PySem.F.entry_tuple_add
abbrev aco:=@List.filter_cons_of_neg
abbrev Z2:=@List.getElem?_set
abbrev Vt:=@Nat.le_succ
abbrev acr:=@PySem.F.slot_tuple_add
abbrev Z3:=@List.length_take
abbrev Z4:=@Nat.succ_le_succ
namespace HE
open PySem PySem.W PySem.Calls PyProof.Rows
noncomputable def pV(tb:String->Option Builtin)(p:Program)(w:World)(n₀:Nat)(ann:Option Value):Nat->SharedT->Thread->Option SharedT
 |0,_,_=>none
 |n+1,s,t=>match through t with
  |true=>some s
  |false=>match stepOk n₀ ann t with
   |false=>none
   |true=>match stepT (denote tb) p w s t with
    |some (s',t')=>pV tb p w n₀ ann n s' t'
    |none=>none
theorem ue{tb:String->Option Builtin}{p:Program}{w:World}{n₀:Nat}{ann:Option Value}:∀{n:Nat}{s s':SharedT}{t:Thread},pV tb p w n₀ ann n s t=some s'->topRun tb p w n₀ ann n s.abs t=some s'.abs
 |0,_,_,_,h=>by cases h
 |n+1,s,s',t,h=>by
  unfold pV at h;unfold topRun;cases ht:through t with
  |true=>rw[ht] at h;cases h;rfl
  |false=>
   rw[ht] at h;cases hk:stepOk n₀ ann t with
   |false=>rw[hk] at h;cases h
   |true=>
    rw[hk] at h;cases hs:stepT (denote tb) p w s t with
    |none=>rw[hs] at h;cases h
    |some r=>obtain⟨s₂,t₂⟩:=r;rw[hs] at h;rw[stepT_spec hs];exact ue h
noncomputable def mkT(l:List Obj):BT:=(l.foldl (λ(p:BT×Nat) o=>(p.1.ins p.2 o,p.2+1)) (.nil,0)).1
noncomputable def fu(P:Params):BT:=mkT (boot_heap P).objs.toList
noncomputable def st0(T:BT)(os:OsState):SharedT:=⟨T,11,{},Array.mk [],boot_drawn,boot_toks,os⟩
theorem boot_abs(P:Params):absHeap (fu P) 11 {}=boot_heap P:=by kernel_rfl
theorem Ey(P:Params):((boot_heap P).isNs mainGlobals,(boot_heap P).objs.size,(boot_heap P).nsMap mainGlobals "__annotations__")=(true,11,some (.ref 6)):=by kernel_rfl
noncomputable def SG(p:Program)(T:BT)(w:World)(M:Nat)(os:OsState):Option SharedT:=pV treeTable p w 11 (some (.ref 6)) M (st0 T os) (topStub p)
noncomputable def Kf(as:υ)(g:Addr->Option Obj):Frag:=as.filterMap λa=>(g a).map λo=>(a,o)
noncomputable def tg(T:BT)(n:Nat)(a:Addr):Option Obj:=match Nat.blt a n with
 |true=>alive ((T.get a).getD default)
 |false=>none
def XY(T:BT)(n:Nat)(life:Life)(a:Addr):(absHeap T n life).get? a=tg T n a:=by
 unfold tg;cases h:Nat.blt a n with
 |true=>
  have hn:a<n:=Nat.ble_eq.mp h;cases g:T.get a with
  |some o=>rw[abs_get hn g];rfl
  |none=>have e:=absHeap_at T n life a;rw[ε hn,g] at e;unfold Heap.get?;rw[e];rfl
 |false=>
  have hn:¬ a<n:=λz=>by have:Nat.blt a n=true:=Nat.ble_eq.mpr z;rw[h] at this;cases this
  exact abs_get_none hn
noncomputable abbrev MJ(q:Program)(lv:List (Str×WData))(R:WRecords)(s:Shared):Bool:=xlAt q lv s && recOk R s
noncomputable def lookA(p q:Program)(loose:ν)(lv:List (Str×WData))(R:WRecords)(T:BT)(H0:Heap)(w:World)(M:Nat)(os:OsState) :=
 (SG p T w M os).map λs=>((staticsOk (importedModules p.main.body) H0 s.abs.heap && namesBound p s.abs.heap && gensDone s.abs && laidKept H0 s.abs.heap),
  (openSeen q loose (importedModules p.main.body) (MJ q lv R) true s.abs).1,(openSeen q loose (importedModules p.main.body) (MJ q lv R) true s.abs).2.1)
noncomputable def lookB(p q:Program)(loose:ν)(lv:List (Str×WData))(R:WRecords)(T:BT)(w:World)(M:Nat)(os:OsState) :=
 (SG p T w M os).map λs=>(openSeen q loose (importedModules p.main.body) (MJ q lv R) true s.abs).2.2
noncomputable def lookC{β:Type}(p:Program)(as:υ)(F:Frag->β)(T:BT)(w:World)(M:Nat)(os:OsState) :=
 (SG p T w M os).map λs=>F (Kf as (tg s.tree s.n))
noncomputable def vC(p:Program)(N:Nat)(w:World)(a:Addr):Option Obj:=(openEnds treeTable p w N).bind (·.heap.get? a)
def head{p q:Program}{loose:ν}{lv:List (Str×WData)}{R:WRecords}{as:υ}{N M:Nat}{F:Frag->β}{v:World->β}(e:opening p=plainProg p.main.scope.names)(hN:Nat.ble 600 N=true)(f:∀s,fenceModules? p s=some s)(le:Nat.ble M N=true)(ra:∀(w:World) (os:OsState),lookA p q loose lv R (fu w.params) (boot_heap w.params) w M os=some (true,(openGood q loose).1,(openGood q loose).2.1))(rb:∀(w:World) (os:OsState),lookB p q loose lv R (fu w.params) w M os=some (openGood q loose).2.2)(rc:∀(w:World) (os:OsState),lookC p as F (fu w.params) w M os=some (v w)) :
  LeftO p q loose (MJ q lv R) (λs=>as.map s.heap.get?) (λw=>as.map (vC p N w)) N/\∀w,F (Kf as (vC p N w))=v w:=by
 have key:∀w,∃s,openEnds treeTable p w N=some s/\openSeen q loose (importedModules p.main.body) (MJ q lv R) true s=openGood q loose/\F (Kf as s.heap.get?)=v w:=λw=>by
  obtain⟨⟨h,gs,d,k,os⟩,e1,e2⟩:=Wn.mp (boot_open e hN f w);obtain⟨rfl,rfl,rfl,rfl⟩:h=boot_heap w.params/\gs=Array.mk []/\d=boot_drawn/\k=boot_toks:=by simpa using e2
  obtain⟨s,r1,r2⟩:=Wn.mp (ra w os);obtain⟨s',r1',rb'⟩:=Wn.mp (rb w os);obtain⟨W0,adA,rc'⟩:=Wn.mp (rc w os);obtain rfl:s=s':=Option.some.inj (r1.symm.trans r1');obtain rfl:s=W0:=Option.some.inj (r1.symm.trans adA);have r3:=ψ (λx=>x.1) r2;have r4:openSeen q loose (importedModules p.main.body) (MJ q lv R) true s.abs=openGood q loose:=Prod.ext (ψ (λx=>x.2.1) r2) (Prod.ext (ψ (λx=>x.2.2) r2) rb');have r5:F (Kf as s.abs.heap.get?)=v w:=by rw[show s.abs.heap.get?=tg s.tree s.n from funext λa=>XY _ _ _ a];exact rc'
  have t1:=ue r1;have ea:(st0 (fu w.params) os).abs=⟨boot_heap w.params,Array.mk [],boot_drawn,boot_toks,os⟩:=by show (⟨absHeap (fu w.params) 11 {},_,_,_,_⟩:Shared)=_;rw[boot_abs];rfl
  rw[ea] at t1;have t2:=topRun_mono (N-M) _ _ _ _ t1;rw[show M+(N-M)=N by have:=Nat.le_of_ble_eq_true le;omega] at t2;have z:=Ey w.params;have z1:=ψ (λx=>x.1) z;have z2:=ψ (λx=>x.2.1) z;have z3:=ψ (λx=>x.2.2) z;refine⟨s.abs,?_,r4,r5⟩;unfold openEnds;rw[e1];show topFrom treeTable p w N _=_;unfold topFrom;dsimp only at z1 z2 z3 ⊢;rw[z1,z2,z3,t2];show (match staticsOk (importedModules p.main.body) (boot_heap w.params) s.abs.heap && namesBound p s.abs.heap && gensDone s.abs && laidKept (boot_heap w.params) s.abs.heap with|true=>_|false=>_)=_;have r3':(staticsOk (importedModules p.main.body) (boot_heap w.params) s.abs.heap && namesBound p s.abs.heap && gensDone s.abs && laidKept (boot_heap w.params) s.abs.heap)=true:=r3;rw[r3']
 refine⟨λw=>?_,λw=>?_⟩;obtain⟨s,a,b,c⟩:=key w;rw[a];have:vC p N w=s.heap.get?:=by funext x;unfold vC;rw[a];rfl
 show some (openSeen q loose (importedModules p.main.body) (MJ q lv R) true s,as.map s.heap.get?)=some (openGood q loose,as.map (vC p N w));rw[b,this];obtain⟨s,a,b,c⟩:=key w;have:vC p N w=s.heap.get?:=by funext x;unfold vC;rw[a];rfl
 rw[this];exact c
def kf_in{as:υ}{g:Addr->Option Obj}(e:as.map h.get?=as.map g):(Kf as g).In h:=by
 have key:∀{as:υ},as.map h.get?=as.map g->∀a o,(Kf as g).lookup a=some o->h.get? a=some o:=by
  intro as;induction as with
  |nil=>intro _ a o z;cases z
  |cons x as ih=>
   intro e a o z;rw[gU,gU] at e;injection e with e1 e2
   unfold Kf at z;rw[kr] at z;cases hg:g x with
   |none=>rw[hg] at z;exact ih e2 a o z
   |some o'=>
    rw[hg] at z;simp only[Vs,Ld] at z;split at z
    rename_i q
    have:a=x:=by simpa using q
    subst this;cases z;rw[e1,hg];exact ih e2 a o z
 exact λa o z=>key e a o z
def HR{q:Program}{loose:ν}{XP:(qae)->Heap->Prop}{as:υ}{g:World->Addr->Option Obj}{r:RowW}{d:DefRec}{kwd:List (Str×Expr)}{run:Value->Ψ->Sem Value}(h:WalkO q loose XP (λw h=>(Kf as (g w)).In h) r d kwd run):WalkX q loose XP (λs=>as.map s.heap.get?) (λw=>as.map (g w)) r d kwd run :=
 λw s₀ s₁ mg mb G y a o pm cd doc dV kV h1 h2 h3 h4 h5 h6 args vals ud L me Xh hrd Xf hlo=>h w s₀ s₁ mg mb G (λb o' z=>Laid.keeps L _ _ (kf_in y b o' z)) a o pm cd doc dV kV h1 h2 h3 h4 h5 h6 args vals ud me Xh hrd Xf hlo
noncomputable def XZ:Stmt->DefRec
 |.FunctionDef n ps b _ _ _ sc _ _ p=>⟨n,ps,b,sc,p⟩
 |_=>⟨Str.empty,default,[],default,default⟩
end HE
lay_quick HE.lookA HE.lookB HE.lookC
namespace eO
open PySem
noncomputable abbrev pE:Program:=PySem.Challenge.pw_slicewise_k83_inputs_that_do_a_row
noncomputable def qE:Program:=W.view pE [1,2,3,4,5,6,7,8,9,11,12,13,14,16,17,18,19,21,22,23,24,25,26,27,28,29,30,31,32,34,35,36,37,38,39,40,41,42,43,44,45,46,47,48,49,50,52,56,57,58,59,60,61,62,63,64,65,66,67,68,69,70,71,72]
noncomputable def sD:ν:=["USED_PLACES","RECKONERS","FOLLOWERS","run","doers"]
def B3(w:World)(os:OsState):HE.lookA pE qE sD [] [] (HE.fu (w.withFollow "special-get-raises" false).params) (W.boot_heap (w.withFollow "special-get-raises" false).params) (w.withFollow "special-get-raises" false) 2911 os=some (true,(W.openGood qE sD).1,(W.openGood qE sD).2.1):=by
 rw[PySem.W.Fast.te2848547177322276819]
 kernel_rfl
def F7(w:World)(os:OsState):HE.lookA pE qE sD [] [] (HE.fu (w.withFollow "special-get-raises" true).params) (W.boot_heap (w.withFollow "special-get-raises" true).params) (w.withFollow "special-get-raises" true) 2911 os=some (true,(W.openGood qE sD).1,(W.openGood qE sD).2.1):=by
 rw[PySem.W.Fast.te2848547177322276819]
 kernel_rfl
end eO
namespace L2
open PySem PySem.Spec PyProof.Rows
abbrev Key:=Sum Int Str
noncomputable def qg:Key->Value->Bool
 |.inl k,v=>Value.isInt k v
 |.inr x,v=>Value.isStrOf x v
noncomputable def acF(w:World):Key->Int
 |.inl k=>hashInt k
 |.inr x=>hashStr w x
theorem cp:∀{k:Key}{v:Value},qg k v=true->(∃i t,k=Sum.inl i/\v=Value.int i t)\/(∃x t,k=Sum.inr x/\v=Value.str x t)
 |.inl i,v,h=>by obtain⟨t,e⟩:=Value.isInt_shape (k:=i) (v:=v) h;exact .inl ⟨i,t,rfl,e⟩
 |.inr x,v,h=>by obtain⟨t,e⟩:=Value.isStrOf_shape (x:=x) (v:=v) h;exact .inr ⟨x,t,rfl,e⟩
def DY(i:Int)(t:Tok):qg (.inl i) (.int i t)=true:=by simp[qg,Value.isInt]
def DZ(x:Str)(t:Tok):qg (.inr x) (.str x t)=true:=by simp[qg,Value.isStrOf]
def Q7(a b:Int):decide ((Sum.inl a:Key)=Sum.inl b)=(a==b):=by by_cases e:a=b;subst e;simp;have h:¬ (Sum.inl a:Key)=Sum.inl b:=λq=>e (Sum.inl.inj q);rw[ι h];exact (Ξ.mpr e).symm
def Q8(a b:Str):decide ((Sum.inr a:Key)=Sum.inr b)=decide (a=b):=by by_cases e:a=b;subst e;simp;have h:¬ (Sum.inr a:Key)=Sum.inr b:=λq=>e (Sum.inr.inj q);rw[ι h,ι e]
def Q9(a:Int)(b:Str):decide ((Sum.inl a:Key)=Sum.inr b)=false:=ι (λq=>nomatch q)
def Q_(a:Str)(b:Int):decide ((Sum.inr a:Key)=Sum.inl b)=false:=ι (λq=>nomatch q)
noncomputable def aT(prog:Program)(w:World):PySem.KeyKind prog w Key where
 is:=qg
 hash:=acF w
 inj:=λv a b ha hb=>by
  rcases cp ha with⟨i,t,rfl,rfl⟩|⟨x,t,rfl,rfl⟩
  rcases cp hb with⟨j,u,rfl,e⟩|⟨y,u,rfl,e⟩
  injection e with e1 _;rw[e1]
  exact nomatch e;rcases cp hb with⟨j,u,rfl,e⟩|⟨y,u,rfl,e⟩
  exact nomatch e;injection e with e1 _;rw[e1]
 byValue:=λk v h=>by rcases cp h with⟨i,t,rfl,rfl⟩|⟨x,t,rfl,rfl⟩<;>rfl
 pyHash:=λhv h=>by
  rcases cp hv with⟨i,t,rfl,rfl⟩|⟨x,t,rfl,rfl⟩
  exact wpAny_pyHash_int h;exact wpAny_pyHash_str h
 eqBool:=λhu hv h=>by
  rcases cp hu with⟨i,t,rfl,rfl⟩|⟨x,t,rfl,rfl⟩
  rcases cp hv with⟨j,u,rfl,rfl⟩|⟨y,u,rfl,rfl⟩
  rw[Q7] at h;exact wpAny_eqBool_int h;rw[Q9] at h;exact SeqAt.EqAt.int_str i t y u _ _ _ _ h;rcases cp hv with⟨j,u,rfl,rfl⟩|⟨y,u,rfl,rfl⟩
  rw[Q_] at h;exact SeqAt.EqAt.str_int x t j u _ _ _ _ h;rw[Q8] at h;exact wpAny_eqBool_str h
 «strs»:=λk x t v h=>by
  rcases cp h with⟨i,u,rfl,e⟩|⟨y,u,rfl,e⟩
  exact nomatch e;injection e with e1 _
  subst e1;cases v<;>rfl
def xw(prog:Program)(w:World)(i:Int)(t:Tok):(aT prog w).is (.inl i) (.int i t)=true:=DY i t
def xx(prog:Program)(w:World)(x:Str)(t:Tok):(aT prog w).is (.inr x) (.str x t)=true:=DZ x t
inductive V where
 |aO|bl (b:Bool)|int (i:Int)|str (x:Str)|byt (b:Array UInt8)|flt (b:UInt64)|ref (a:Addr)|ty (n:String)
 deriving DecidableEq
def RelV:V->Value->Prop
 |.aO,u=>u=Value.none
 |.bl b,u=>u=Value.bool b
 |.int i,u=>∃t,u=Value.int i t
 |.str x,u=>∃t,u=Value.str x t
 |.byt b,u=>∃t,u=Value.bytes b t
 |.flt b,u=>∃t,u=Value.float b t
 |.ref a,u=>u=Value.ref a
 |.ty n,u=>u=Value.type n
abbrev Vals:List V->Ψ->Prop:=Paired RelV
def Vals.length{xs:List V}{us:Ψ}(r:Vals xs us):xs.length=us.length:=Q3 r
theorem Vals.get:∀{xs:List V}{us:Ψ}{i:Nat}{x:V},Vals xs us->xs[i]?=some x->∃u,us[i]?=some u/\RelV x u
 |_,_,_,_,.nil,e=>by simp at e
 |_,_,0,_,.cons r _,e=>by simp at e;subst e;exact⟨_,rfl,r⟩
 |_,_,i+1,x,.cons _ t,e=>by obtain⟨u,h1,h2⟩:=Vals.get (i:=i) (x:=x) t (by simpa using e);exact⟨u,by simpa using h1,h2⟩
theorem Vals.set{x:V}{u:Value}(r:RelV x u):∀{xs:List V}{us:Ψ}(i:Nat),Vals xs us->Vals (xs.set i x) (us.set i u)
 |_,_,_,.nil=>.nil
 |_,_,0,.cons _ t=>.cons r t
 |_,_,i+1,.cons q t=>.cons q (Vals.set r i t)
theorem Vals.append:∀{xs ys:List V}{us ws:Ψ},Vals xs us->Vals ys ws->Vals (xs++ys) (us++ws)
 |_,_,_,_,.nil,s=>s
 |_,_,_,_,.cons r t,s=>.cons r (Vals.append t s)
theorem Vals.take:∀{xs:List V}{us:Ψ}(n:Nat),Vals xs us->Vals (xs.take n) (us.take n)
 |_,_,0,_=>.nil
 |_,_,_+1,.nil=>.nil
 |_,_,n+1,.cons r t=>.cons r (Vals.take n t)
theorem Vals.drop:∀{xs:List V}{us:Ψ}(n:Nat),Vals xs us->Vals (xs.drop n) (us.drop n)
 |_,_,0,r=>r
 |_,_,_+1,.nil=>.nil
 |_,_,n+1,.cons _ t=>Vals.drop n t
def ku:Option V->Option Value->Prop
 |some v,some u=>RelV v u
 |none,none=>True
 |_,_=>False
def KV{κ:Type}:List (κ×V)->List (κ×Value)->Prop:=Paired λ(p:κ×V) (q:κ×Value)=>p.1=q.1/\RelV p.2 q.2
noncomputable def kV:Key->V
 |.inl i=>.int i
 |.inr x=>.str x
inductive HO where
 |lst (xs:List V)
 |tup (xs:List V)
 |dK (aQ:List (Key×V))|dT (aQ:List (List Key×V))
 |set (S:Int->Bool) (n:Nat)
 |ins (C dx:Addr) (fs:List (Str×V))
 |own (x:Addr)
 |xd (fs:List (Str×V))
 |met (f x:Addr)
 |rng (lo hi:Int)
 |D2 (o:Obj) (u:HO)
 |Ra (ps:Array Value)
 |ext (φ:Heap->Prop)
abbrev Hp:=Addr->Option HO
noncomputable def upd(H:Hp)(a:Addr)(o:HO):Hp:=λb=>if b=a then some o else H b
def aG{H:Hp}{o:HO}:upd H a o a=some o:=by unfold upd;rw[ε rfl]
def aB{H:Hp}{o:HO}(h:b≠a):upd H a o b=H b:=by unfold upd;rw[ζ h]
def Gx{H:Hp}{o u:HO}(h:H a=some o)(h':H b=some u)(d:o≠u):a≠b:=by intro e;subst e;rw[h] at h';exact d (Option.some.inj h')
def bB{H:Hp}{o:HO}(h:H a=some o)(h':H b=none):a≠b:=by intro e;subst e;rw[h] at h';cases h'
section
variable(P:Program)(w:World)
noncomputable def cS(H:Hp)(h:Heap)(a:Addr):HO->Prop
 |.lst xs=>xs.length<=sizeLine/\∃(aW:Ψ)(n:Nat),Vals xs aW/\h.get? a=some {cls:=.type "list",data:=.seq aW.toArray n}
 |.tup xs=>xs.length<=sizeLine/\∃aW:Ψ,Vals xs aW/\IsTup h a aW.toArray
 |.dK aQ=>aQ.length<=sizeLine/\(a==sysModules)=false/\∃vs,KV aQ vs/\h.DictOf (aT P w) a vs
 |.dT aQ=>aQ.length<=sizeLine/\(a==sysModules)=false/\∃xs:List (List Key×Addr×Value),
  Paired (λ(p:List Key×V) (q:List Key×Addr×Value)=>p.1=q.1/\H q.2.1=some (.tup (p.1.map kV))/\RelV p.2 q.2.2) aQ xs /\
  ∃o es ep,h.get? a=some o/\o.ExactDict/\o.data=.dict es ep/\es.toList=xs.map (entryOfKey (tupleKind (aT P w)))/\(xs.map (·.1)).Nodup
 |.set S n=>h.SetOf (intKind P w) a S n
 |.ins C dx fs=>H dx=some (.own a)/\fs.length<=1000/\dx≠a/\h.get? a=some (W.instObj C dx) /\
  ∃mA,h.Ns1 dx mA/\(∀f,ku (fs.lookup f) (mA f))/\PySem.Within mA (fs.map (·.1))
 |.own _=>∃o,h.get? a=some o
 |.xd fs=>∃mA,h.Ns1 a mA/\∀f,ku (fs.lookup f) (mA f)
 |.rng lo hi=>∃t u v,h.get? a=some {cls:=.type "range",data:=.fields #[.int lo t,.int hi u,.int 1 v]}
 |.D2 o u=>h.get? a=some o/\cS H h a u
 |.Ra ps=>h.get? a=some {cls:=.none,data:=.fields ps}
 |.met f x=>h.get? a=some (W.methodObj (.ref f) (.ref x))
 |.ext φ=>φ h/\(∃o,h.get? a=some o)/\∀h1 h2:Heap,φ h1->(∀o,h1.get? a=some o->h2.get? a=some o)->φ h2
def lV(H:Hp)(h:Heap):Prop:=∀a o,H a=some o->cS P w H h a o
end
section
variable{H H':Hp}{o:HO}
def cS.lt(x:cS P w H h a o):a<h.objs.size:=by
 cases o with
 |lst xs=>obtain⟨_,_,_,_,e⟩:=x;exact iw e
 |tup xs=>obtain⟨_,_,_,p⟩:=x;exact p.lt
 |dK aQ=>obtain⟨_,_,_,_,o,_,_,e,_⟩:=x;exact iw e
 |dT aQ=>obtain⟨_,_,_,_,o,_,_,e,_⟩:=x;exact iw e
 |set S n=>obtain⟨o,_,_,_,e,_⟩:=x;exact iw e
 |ins C dx fs=>obtain⟨_,_,_,e,_⟩:=x;exact iw e
 |own y=>obtain⟨_,e⟩:=x;exact iw e
 |xd fs=>obtain⟨_,⟨_,_,_,e,_⟩,_⟩:=x;exact iw e
 |rng lo hi=>obtain⟨_,_,_,e⟩:=x;exact iw e
 |D2 ob u=>obtain⟨e,_⟩:=x;exact iw e
 |Ra ps=>exact iw (show h.get? a=some _ from x)
 |met f y=>exact iw (show h.get? a=some _ from x)
 |ext φ=>obtain⟨_,⟨_,e⟩,_⟩:=x;exact iw e
theorem Paired.nM{α β:Type}{F G:α->β->Prop}:∀{l₁:List α}{l₂:List β},Paired F l₁ l₂->(∀a b,F a b->G a b)->Paired G l₁ l₂
 |_,_,.nil,_=>.nil
 |_,_,.cons r t,f=>.cons (f _ _ r) (Paired.nM t f)
def cS.D3(x:cS P w H h a o)(k:∀b u,(b=a\/H b=some (.own a))->h.get? b=some u->h'.get? b=some u)(ho:∀b,H b=some (.own a)->H' b=some (.own a))(ht:∀b xs,H b=some (.tup xs)->H' b=some (.tup xs)):cS P w H' h' a o:=by
 induction o with
 |lst xs=>obtain⟨z,aW,n,r,e⟩:=x;exact⟨z,aW,n,r,k _ _ (.inl rfl) e⟩
 |tup xs=>obtain⟨z,aW,r,ob,e,c⟩:=x;exact⟨z,aW,r,ob,k _ _ (.inl rfl) e,c⟩
 |dK aQ=>obtain⟨z,y,vs,r,ob,es,ep,e,c⟩:=x;exact⟨z,y,vs,r,ob,es,ep,k _ _ (.inl rfl) e,c⟩
 |dT aQ=>obtain⟨z,y,xs,r,ob,es,ep,e,c⟩:=x;exact⟨z,y,xs,Paired.nM r λp q z=>⟨z.1,ht _ _ z.2.1,z.2.2⟩,ob,es,ep,k _ _ (.inl rfl) e,c⟩
 |set S n=>obtain⟨ob,es,ep,t,e,c⟩:=x;exact⟨ob,es,ep,t,k _ _ (.inl rfl) e,c⟩
 |ins C dx fs=>obtain⟨d,z,ne,e,mA,⟨od,es,ep,e2,c⟩,r⟩:=x;exact⟨ho _ d,z,ne,k _ _ (.inl rfl) e,mA,⟨od,es,ep,k _ _ (.inr d) e2,c⟩,r⟩
 |own y=>obtain⟨ob,e⟩:=x;exact⟨ob,k _ _ (.inl rfl) e⟩
 |xd fs=>obtain⟨mA,⟨od,es,ep,e,c⟩,r⟩:=x;exact⟨mA,⟨od,es,ep,k _ _ (.inl rfl) e,c⟩,r⟩
 |rng lo hi=>obtain⟨t,u,v,e⟩:=x;exact⟨t,u,v,k _ _ (.inl rfl) e⟩
 |D2 ob u ih=>obtain⟨e,q⟩:=x;exact⟨k _ _ (.inl rfl) e,ih q⟩
 |Ra ps=>have e:h.get? a=some {cls:=.none,data:=.fields ps}:=x;show h'.get? a=some {cls:=.none,data:=.fields ps};exact k a _ (.inl rfl) e
 |met f y=>have e:h.get? a=some (W.methodObj (.ref f) (.ref y)):=x;show h'.get? a=some (W.methodObj (.ref f) (.ref y));exact k a _ (.inl rfl) e
 |ext φ=>obtain⟨p,⟨o,e⟩,st⟩:=x;exact⟨st _ _ p λo q=>k _ _ (.inl rfl) q,⟨o,k _ _ (.inl rfl) e⟩,st⟩
def lV.lt(x:lV P w H h)(e:H a=some o):a<h.objs.size:=(x a o e).lt
def lV.fresh(x:lV P w H h)(e:h.objs.size<=a):H a=none:=by
 cases q:H a with
 |none=>rfl
 |some u=>exact absurd (xj (x.lt q) e) (LB _)
def lV.kept(x:lV P w H h)(k:∀b u,h.get? b=some u->h'.get? b=some u):lV P w H h':=λa o e=>
 (x a o e).D3 (λb u _ q=>k b u q) (λ_ q=>q) λ_ _ q=>q
def lV.laid(x:lV P w H h)(k:∀b u,h.get? b=some u->h'.get? b=some u)(hp:h.objs.size<=a)(new:cS P w (upd H a o) h' a o):lV P w (upd H a o) h':=λb u e=>by have hn:=x.fresh hp;by_cases hb:b=a;subst hb;rw[aG] at e;cases e;exact new;rw[aB hb] at e;exact (x b u e).D3 (λc v _ q=>k c v q) (λc q=>by rw[aB (bB q hn)];exact q) λc xs q=>by rw[aB (bB q hn)];exact q
end
def Rd(H:Hp)(a:Addr)(u:HO):Prop:=H a=some u\/∃o,H a=some (.D2 o u)
def Rd.ok{H:Hp}{u:HO}(r:Rd H a u)(x:lV P w H h):cS P w H h a u:=by
 obtain r|⟨o,r⟩:=r
 exact x a u r;obtain⟨_,q⟩:=x a _ r;exact q
def Ww:Option HO->Prop
 |some (.lst _)=>True
 |some (.dK _)=>True
 |some (.dT _)=>True
 |some (.set _ _)=>True
 |some (.ins _ _ _)=>True
 |some (.ext _)=>True
 |_=>False
section
variable{H:Hp}{x e:Addr}{o':HO}
def lV.write(ok:lV P w H h)(mu:Ww (H x))(he:e=x\/H e=some (.own x))(k:∀b u,b≠e->h.get? b=some u->h'.get? b=some u)(Lj:∃u,h'.get? e=some u)(new:cS P w (upd H x o') h' x o'):lV P w (upd H x o') h':=λb u q=>by
 have Wx:∀c y,H c=some (.own y)->c≠x:=λc y r z=>by subst z;rw[r] at mu;exact mu
 have acG:∀c xs,H c=some (.tup xs)->c≠x:=λc xs r z=>by subst z;rw[r] at mu;exact mu
 by_cases hb:b=x;subst hb;rw[aG] at q;cases q;exact new;rw[aB hb] at q;by_cases D4:b=e;have q':H b=some (.own x):=by
  obtain z|z:=he
  exact absurd (D4.trans z) hb;rw[D4];exact z
 rw[q] at q';cases q';obtain⟨v,hv⟩:=Lj;exact⟨v,by rw[D4];exact hv⟩;refine (ok b u q).D3 (λc v hc r=>k c v ?_ r) (λc r=>by rw[aB (Wx c b r)];exact r) λc xs r=>by rw[aB (acG c xs r)];exact r
 obtain rfl|hc:=hc
 exact D4;rintro rfl;obtain z|z:=he
 exact Wx c b hc z;rw[hc] at z;cases z;exact hb rfl
end
structure Un(fs ex:υ)(H H':Hp)(h h':Heap):Prop where
 keep:∀b o,h.get? b=some o->H b=none->b∉fs->b∉ex->h'.get? b=some o
 slot:∀b o,h.get? b=some o->H b=none->b∈fs->b∉ex->∃sl,h'.get? b=some {o with slots:=sl}
 free:∀b o,h.get? b=some o->H b=none->b∉ex->H' b=none
 there:∀b o,h.get? b=some o->b∉ex->∃o',h'.get? b=some o'
 xy:∀b xs,H b=some (.tup xs)->H' b=some (.tup xs)
 uM:∀b o u,H b=some (.D2 o u)->H' b=some (.D2 o u)
 xA:∀b ps,H b=some (.Ra ps)->∃more,H' b=some (.Ra (ps++more))
section
variable{fs fs' ex ex':υ}{H H1 H2:Hp}{h1 h2:Heap}{x e:Addr}{o:HO}
def Un.any(u:Un fs ex H H1 h h1){ob:Obj}(q:h.get? b=some ob)(n:H b=none)(hx:b∉ex):∃sl,h1.get? b=some {ob with slots:=sl}:=by by_cases hb:b∈fs;exact u.slot b ob q n hb hx;exact⟨ob.slots,u.keep b ob q n hb hx⟩
def Un.kept(k:∀b u,h.get? b=some u->h'.get? b=some u):Un fs ex H H h h' :=
 ⟨λb ob q _ _ _=>k b ob q,λb ob q _ _ _=>⟨ob.slots,k b ob q⟩,λ_ _ _ n _=>n,λb ob q _=>⟨ob,k b ob q⟩,λ_ _ q=>q,λ_ _ _ q=>q,λ_ ps q=>⟨#[],by rw[q];simp⟩⟩
def Un.refl:Un fs ex H H h h:=Un.kept λ_ _ q=>q
def Un.laid(k:∀b u,h.get? b=some u->h'.get? b=some u)(hp:h.objs.size<=a)(hn:H a=none):Un fs ex H (upd H a o) h h' where
 keep:=λb u q _ _ _=>k b u q
 slot:=λb u q _ _ _=>⟨u.slots,k b u q⟩
 free:=λb u q n _=>by rw[aB (j7 (xj (iw q) hp))];exact n
 there:=λb u q _=>⟨u,k b u q⟩
 xy:=λb xs q=>by rw[aB (bB q hn)];exact q
 uM:=λb u xs q=>by rw[aB (bB q hn)];exact q
 xA:=λb ps q=>⟨#[],by rw[aB (bB q hn),q];simp⟩
def Un.write(mu:Ww (H x))(he:e=x\/H e=some (.own x))(k:∀b u,b≠e->h.get? b=some u->h'.get? b=some u)(Lj:∃u,h'.get? e=some u):Un fs ex H (upd H x o) h h':=by
 have hx:∀b,H b=none->b≠x:=λb n z=>by subst z;rw[n] at mu;exact mu
 have hb:∀b,H b=none->b≠e:=λb n z=>by
  subst z;obtain r|r:=he
  exact hx b n r;rw[n] at r;cases r
 have hm:∀b u,H b=some u->¬ Ww (some u)->b≠x:=λb u q nm z=>by subst z;rw[q] at mu;exact nm mu
 refine⟨λb u q n _ _=>k b u (hb b n) q,λb u q n _ _=>⟨u.slots,k b u (hb b n) q⟩,λb u q n _=>by rw[aB (hx b n)];exact n,λb u q _=>?_,
  λb xs q=>by rw[aB (hm b _ q λz=>z)];exact q,λb u xs q=>by rw[aB (hm b _ q λz=>z)];exact q,λb ps q=>⟨#[],by rw[aB (hm b _ q λz=>z),q];simp⟩⟩
 by_cases D4:b=e;subst D4;exact Lj;exact⟨u,k b u D4 q⟩
end
noncomputable def Z5(h:Heap)(H:Hp):υ:=(List.range h.objs.size).filter λa=>(H a).isSome
noncomputable def uN(h:Heap)(H:Hp):Heap:=W.hideAll h (Z5 h H)
def D5(h:Heap)(H:Hp):(uN h H).objs.size=h.objs.size:=W.hideAll_size _ _
def Gy{H:Hp}{o:Obj}(e:h.get? b=some o)(n:H b=none):(uN h H).get? b=some o :=
 W.hideAll_get _ e λhm=>by have q:(H b).isSome=true:=(Vr.mp hm).2;rw[n] at q;simp at q
def LD{H:Hp}{o:Obj}(e:(uN h H).get? b=some o):h.get? b=some o/\H b=none:=by
 have e':h.get? b=some o:=W.of_hideAll (Z5 h H) e;refine⟨e',?_⟩;cases q:H b with
 |none=>rfl
 |some x=>have hm:b∈Z5 h H:=Vr.mpr ⟨xm.mpr (iw e'),by simp[q]⟩;have z:(uN h H).get? b=none:=W.hideAll_none (Z5 h H) hm;rw[z] at e;cases e
def LF(g h:Heap)(L:Addr):qaa:=(List.range h.objs.size).filterMap λa=>if a=L\/(g.get? a).isSome=true then none else (h.get? a).map λo=>(a,o)
def rest(g h:Heap)(L d:Addr):qaa:=(LF g h L).filter λp=>decide (p.1≠d)
structure Mod(K:Γ)(mg:qae)(base:Heap):Prop where
 Vu:K.In base
 glob:base.Ns mainGlobals mg
 blt:∃mb,base.Ns builtinsNs mb/\∀x:Str,x≠"__name__"->mb x=bootBuiltins x
 nolimit:base.NoLimit
structure Cx where
 prog:Program
 w:World
 K:Γ
 mg:qae
 base:Heap
 A:Around
 N:ν
 s₀:Shared
 H₀:Hp
 env:Env
 outer:List Env
 stack:List Env
 ex:υ
 fn:Str->Bool
 calm:Bool
 pn:qaa
 xe:qad
noncomputable def Gh(l:List Env):υ:=l.filterMap (·.frame)
noncomputable abbrev Cx.fs(X:Cx):υ:=Gh X.outer
def kH(sc:Scope)(x:Str):Prop:=sc.names.lookup x=some .local\/sc.names.lookup x=some .cell\/sc.names.lookup x=some .free
theorem _root_.jvv{sc x}(h:(match sc.names.lookup x with|some .local|some .cell|some .free=>true|_=>false)=true):kH sc x:=by unfold kH;split at h<;>simp_all
def Loc(sc:Scope)(x:Str):Prop:=sc.names.lookup x=some .local\/sc.names.lookup x=some .cell
def Look(env:Env)(h:Heap)(m:qae)(x:Str)(u:Value):Prop :=
 (env.kindOf x=some .local/\m x=some u)\/((env.kindOf x=some .cell\/env.kindOf x=some .free)/\∃c,env.cells.lookup x=some c/\h.IsCell c (some u))
structure Cx.Ok(X:Cx):Prop where
 mod:Mod X.K X.mg X.base
 kind:X.env.scope.kind=.function
 glob:X.env.globals=mainGlobals
 blt:X.env.builtins=builtinsNs
 above:X.s₀.heap.objs.size<=X.env.locals
 inj:∀x y c,X.env.cells.lookup x=some c->X.env.cells.lookup y=some c->x=y
 has:∀x,(X.env.kindOf x=some .cell\/X.env.kindOf x=some .free)->∃c,X.env.cells.lookup x=some c
 Wy:∀x c,X.fn x=true->X.env.cells.lookup x=some c->X.s₀.heap.objs.size<=c
 hd:X.calm=true->X.A.handled=none
 frames:X.A.frames=some X.stack
 Z6:X.stack=X.outer\/(X.stack=X.env::X.outer/\X.env.frame=some X.env.locals)
 exf:∀b∈X.ex,b≠X.env.locals/\∀x c,X.env.cells.lookup x=some c->c≠b
 bs:∀b o,X.base.get? b=some o->X.s₀.heap.get? b=some o/\X.H₀ b=none
 LG:X.base.objs.size<=X.s₀.heap.objs.size
 Gz:∀b o,X.base.get? b=some o->b∉X.ex
 LH:∀b∈X.ex,b∉X.fs
 pq:X.s₀.heap.FunFrames X.base X.outer
 Rb:∀b∈X.fs,X.H₀ b=none
structure Inv(X:Cx)(γ:qaa)(σ:List (Option V))(H:Hp)(s:Shared):Prop where
 ok:X.Ok
 os:s.os=X.s₀.os
 bare:AllBare s.gens
 base:Un X.fs X.ex X.H₀ H X.s₀.heap s.heap
 loc:∃m,s.heap.Ns X.env.locals m/\∀(i:Nat)(x:Str)(v:V),X.N[i]?=some x->σ[i]?=some (some v)->kH X.env.scope x->∃u,RelV v u/\Look X.env s.heap m x u
 cell:∀x c,X.env.cells.lookup x=some c->∃v,s.heap.IsCell c v
 free:H X.env.locals=none
 jq:∀x c,X.env.cells.lookup x=some c->H c=none
 pin:∀p∈X.pn++γ,s.heap.get? p.1=some p.2/\H p.1=none/\p.1≠X.env.locals/\p.1∉X.fs/\∀v,p.2.data≠.cell v
 cm:lV X.prog X.w H s.heap
 len:σ.length=X.N.length
section
variable{X:Cx}{γ:qaa}{σ:List (Option V)}{H H':Hp}{s:Shared}
def Cx.Ok.acH(ok:X.Ok){o:Obj}(e:X.base.get? b=some o):b∉X.fs:=λhb=>by have:=(ok.pq.mem hb).1;rw[e] at this;cases this
def Inv.bs(I:Inv X γ σ H s):∀b o,X.base.get? b=some o->s.heap.get? b=some o/\H b=none:=λb o e=>
 ⟨I.base.keep b o (I.ok.bs b o e).1 (I.ok.bs b o e).2 (I.ok.acH e) (I.ok.Gz b o e),I.base.free b o (I.ok.bs b o e).1 (I.ok.bs b o e).2 (I.ok.Gz b o e)⟩
def Inv.bk(I:Inv X γ σ H s):∀b o,X.base.get? b=some o->s.heap.get? b=some o:=λb o e=>(I.bs b o e).1
def Inv.mod(I:Inv X γ σ H s):Mod X.K X.mg X.base:=I.ok.mod
def Inv.sM(I:Inv X γ σ H s):X.K.In s.heap:=I.ok.mod.Vu.keeps I.bk
def Inv.lt(I:Inv X γ σ H s):X.env.locals<s.heap.objs.size:=let ⟨_,hn,_⟩:=I.loc;hn.lt
def Inv.sz(I:Inv X γ σ H s):X.s₀.heap.objs.size<=s.heap.objs.size:=je I.ok.above (Nat.le_of_lt I.lt)
def Inv.acI(I:Inv X γ σ H s)(h:s.heap.objs.size<=a):a∉X.fs:=λhb=>by obtain⟨_,o,ho,_⟩:=I.ok.pq.mem hb;exact absurd (xj (iw ho) (je I.sz h)) (LB _)
def Inv.LI(I:Inv X γ σ H s):∀x c,X.env.cells.lookup x=some c->c≠X.env.locals:=λx c e z=>by obtain⟨v,o,ho,hd⟩:=I.cell x c e;obtain⟨m,⟨o',es,ep,kJ,z4,_⟩,_⟩:=I.loc;rw[z,kJ] at ho;cases ho;rw[z4] at hd;cases hd
def Inv.pq(I:Inv X γ σ H s):s.heap.FunFrames X.base X.outer:=by
 have all:∀(l:List Env),(∀b∈Gh l,b∈X.fs)->X.s₀.heap.FunFrames X.base l->s.heap.FunFrames X.base l:=by
  intro l;induction l with
  |nil=>intro _ _;trivial
  |cons env r ih=>intro hs hl;obtain⟨hk,⟨L,o,hf,hn,ho,hd⟩,hr⟩:=hl;have hL:L∈X.fs:=hs L (by unfold Gh;rw[kr,hf];exact dD);obtain⟨sl,e⟩:=I.base.slot L o ho (I.ok.Rb L hL) hL λz=>I.ok.LH L z hL;exact⟨hk,⟨L,_,hf,hn,e,hd⟩,ih (λb hb=>hs b (by unfold Gh;rw[kr,hf];exact gT _ hb)) hr⟩
 exact all X.outer (λ_ hb=>hb) I.ok.pq
def Inv.stack(I:Inv X γ σ H s):s.heap.FunFrames X.base X.stack:=by
 obtain e|⟨e,hf⟩:=I.ok.Z6
 rw[e];exact I.pq;rw[e];obtain⟨m,hn,_⟩:=I.loc;refine .cons (by rw[I.ok.kind];decide) hf hn ?_ I.pq;exact Heap.get?_none_of_le (je I.ok.LG I.ok.above)
def Inv.Af(I:Inv X γ σ H s):∀b∈Gh X.stack,b∈X.env.locals::X.fs:=λb hb=>by
 obtain e|⟨e,hf⟩:=I.ok.Z6
 rw[e] at hb;exact gT _ hb;rw[e] at hb;unfold Gh at hb;rw[kr,hf] at hb;exact hb
def Inv.Cd(I:Inv X γ σ H s):∀b∈Gh X.stack,H b=none:=λb hb=>by
 rcases c0.mp (I.Af b hb) with e|hb
 rw[e];exact I.free;obtain⟨_,o,ho,_⟩:=I.ok.pq.mem hb;exact I.base.free b o ho (I.ok.Rb b hb) λz=>I.ok.LH b z hb
def Inv.step{g':Array GenState}{d':Drawn}{ch:υ}(I:Inv X γ σ H s)(Ll:∀b∈ch,(b∈X.ex\/X.s₀.heap.objs.size<=b)/\b≠X.env.locals/\(∀x c,X.env.cells.lookup x=some c->c≠b)/\∀p∈X.pn++γ,p.1≠b)(keep:∀b o,b≠X.env.locals->b∉X.fs->b∉ch->s.heap.get? b=some o->H b=none->h'.get? b=some o)(slot:∀b o,b≠X.env.locals->b∈X.fs->b∉ch->s.heap.get? b=some o->H b=none->∃sl,h'.get? b=some {o with slots:=sl})(free:∀b o,b∉ch->s.heap.get? b=some o->H b=none->H' b=none)(there:∀b o,b∉ch->s.heap.get? b=some o->∃o',h'.get? b=some o')(xy:∀b xs,H b=some (.tup xs)->H' b=some (.tup xs))(uM:∀b o u,H b=some (.D2 o u)->H' b=some (.D2 o u))(xA:∀b ps,H b=some (.Ra ps)->∃more,H' b=some (.Ra (ps++more)))(ns:∀m,s.heap.Ns X.env.locals m->h'.Ns X.env.locals m)(cm:lV X.prog X.w H' h')(hg:AllBare g') :
  Inv X γ σ H' {s with heap:=h',gens:=g',drawn:=d',toks:=t'}:=by
 have neL:∀b o,X.s₀.heap.get? b=some o->b≠X.env.locals:=λb o e=>j7 (xj (iw e) I.ok.above);have Z7:∀b o,X.s₀.heap.get? b=some o->b∉X.ex->b∉ch:=λb o e hx hb=>by
  rcases (Ll b hb).1 with z|z
  exact hx z;exact absurd (xj (iw e) z) (LB _)
 have cellK:∀x c,X.env.cells.lookup x=some c->∀v,s.heap.IsCell c v->h'.IsCell c v:=λx c e v ⟨o,ho,hd⟩=>by have Pg:c∉ch:=λz=>(Ll c z).2.2.1 x c e rfl;by_cases hc:c∈X.fs;obtain⟨sl,q⟩:=slot c o (I.LI x c e) hc Pg ho (I.jq x c e);exact⟨_,q,hd⟩;exact⟨o,keep c o (I.LI x c e) hc Pg ho (I.jq x c e),hd⟩
 refine⟨I.ok,I.os,hg,⟨λb o e n hb hx=>?_,λb o e n hb hx=>?_,λb o e n hx=>?_,λb o e hx=>?_,λb xs e=>xy b xs (I.base.xy b xs e),λb o xs e=>uM b o xs (I.base.uM b o xs e),λb ps e=>?_⟩,?_,λx c e=>?_,?_,λx c e=>?_,λp hp=>?_,cm,I.len⟩;exact keep b o (neL b o e) hb (Z7 b o e hx) (I.base.keep b o e n hb hx) (I.base.free b o e n hx);obtain⟨sl,e1⟩:=I.base.slot b o e n hb hx;obtain⟨sl',e2⟩:=slot b _ (neL b o e) hb (Z7 b o e hx) e1 (I.base.free b o e n hx);exact⟨sl',e2⟩;obtain⟨o',e1⟩:=I.base.there b o e hx;exact free b o' (Z7 b o e hx) e1 (I.base.free b o e n hx);obtain⟨o',e1⟩:=I.base.there b o e hx;exact there b o' (Z7 b o e hx) e1;obtain⟨m1,e1⟩:=I.base.xA b ps e;obtain⟨m2,e2⟩:=xA b _ e1;exact⟨m1++m2,by rw[e2,Array.append_assoc]⟩;obtain⟨m,hn,hl⟩:=I.loc;refine⟨m,ns m hn,λi x v e1 e2 e3=>?_⟩;obtain⟨u,r,l⟩:=hl i x v e1 e2 e3;refine⟨u,r,?_⟩;obtain l|⟨k,c,e,z⟩:=l
 exact .inl l;exact .inr ⟨k,c,e,cellK x c e _ z⟩;obtain⟨v,z⟩:=I.cell x c e;exact⟨v,cellK x c e v z⟩;obtain⟨m,⟨o,_,_,ho,_⟩,_⟩:=I.loc;exact free _ o (λz=>(Ll _ z).2.1 rfl) ho I.free;obtain⟨v,o,ho,hd⟩:=I.cell x c e;exact free c o (λz=>(Ll c z).2.2.1 x c e rfl) ho (I.jq x c e);obtain⟨e,n,ne,nf,d⟩:=I.pin p hp;have Pg:p.1∉ch:=λz=>(Ll p.1 z).2.2.2 p hp rfl;exact⟨keep p.1 p.2 ne nf Pg e n,free p.1 p.2 Pg e n,ne,nf,d⟩
def Inv.un(I:Inv X γ σ H s)(u:Un X.fs [] H H' s.heap h')(cm:lV X.prog X.w H' h'):Inv X γ σ H' {s with heap:=h',toks:=t'}:=by
 obtain⟨m,⟨o,es,ep,ho,r⟩,_⟩:=id I.loc;obtain⟨sl,hL⟩:=u.any ho I.free (by simp);exact I.step (g':=s.gens) (d':=s.drawn) (ch:=[]) (λ_ z=>nomatch z) (λb o _ hb _ e n=>u.keep b o e n hb (by simp)) (λb o _ hb _ e n=>u.slot b o e n hb (by simp)) (λb o _ e n=>u.free b o e n (by simp)) (λb o _ e=>u.there b o e (by simp)) u.xy u.uM u.xA (λm' hm=>by obtain⟨o',es',ep',kJ,r'⟩:=hm;rw[ho] at kJ;cases kJ;exact⟨_,es',ep',hL,r'⟩) cm I.bare
def Inv.call{g':Array GenState}{d':Drawn}{ch:υ}(I:Inv X γ σ H s)(u:Un (Gh X.stack) ch H H' s.heap h')(cm:lV X.prog X.w H' h')(hg:AllBare g')(Ll:∀b∈ch,(b∈X.ex\/X.s₀.heap.objs.size<=b)/\b≠X.env.locals/\(∀x c,X.env.cells.lookup x=some c->c≠b)/\∀p∈X.pn++γ,p.1≠b) :
  Inv X γ σ H' {s with heap:=h',gens:=g',drawn:=d',toks:=t'}:=by
 obtain⟨m,⟨o,es,ep,ho,r⟩,_⟩:=id I.loc;obtain⟨sl,hL⟩:=u.any ho I.free λz=>(Ll _ z).2.1 rfl;exact I.step (ch:=ch) Ll (λb o hL hb hc e n=>u.keep b o e n (λz=>(c0.mp (I.Af b z)).elim hL hb) hc) (λb o _ _ hc e n=>u.any e n hc) (λb o hc e n=>u.free b o e n hc) (λb o hc e=>u.there b o e hc) u.xy u.uM u.xA (λm' hm=>by obtain⟨o',es',ep',kJ,r'⟩:=hm;rw[ho] at kJ;cases kJ;exact⟨_,es',ep',hL,r'⟩) cm hg
def Inv.turned{it:Addr}(I:Inv X γ σ H s)(k:∀b o,b≠it->s.heap.get? b=some o->h'.get? b=some o)(hn:H it=none)(hL:it≠X.env.locals)(h1:it∈X.ex\/X.s₀.heap.objs.size<=it)(h2:∀x c,X.env.cells.lookup x=some c->c≠it)(h3:∀p∈X.pn++γ,p.1≠it):Inv X γ σ H {s with heap:=h',toks:=t'}:=by
 have nit:∀b u,H b=some u->b≠it:=λb u e z=>by rw[z,hn] at e;cases e
 refine I.step (g':=s.gens) (d':=s.drawn) (ch:=[it]) (λb hb=>?_) (λb o _ _ hc e _=>k b o (λz=>hc (by simp[z])) e) (λb o _ _ hc e _=>⟨o.slots,k b o (λz=>hc (by simp[z])) e⟩) (λ_ _ _ _ n=>n)
  (λb o hc e=>⟨o,k b o (λz=>hc (by simp[z])) e⟩) (λ_ _ e=>e) (λ_ _ _ e=>e) (λb ps e=>⟨#[],by rw[e];simp⟩) (λm hm=>?_) (λb u e=>?_) I.bare
 have e:b=it:=by simpa using hb
 subst e;exact⟨h1,hL,h2,h3⟩;obtain⟨o,es,ep,ho,r⟩:=hm;exact⟨o,es,ep,k _ o (Ne.symm hL) ho,r⟩;refine (I.cm b u e).D3 (λc v hc q=>k c v ?_ q) (λ_ q=>q) λ_ _ q=>q;obtain z|z:=hc
 rw[z];exact nit b u e;exact nit c _ z
def Inv.tok(I:Inv X γ σ H s)(t:Nat):Inv X γ σ H {s with toks:=t}:=I.un (h':=s.heap) (t':=t) Un.refl I.cm
def Inv.kept(I:Inv X γ σ H s)(k:∀b u,s.heap.get? b=some u->h'.get? b=some u):Inv X γ σ H {s with heap:=h',toks:=t'}:=I.un (Un.kept k) (I.cm.kept k)
def Inv.laid{o:HO}(I:Inv X γ σ H s)(k:∀b u,s.heap.get? b=some u->h'.get? b=some u)(hp:s.heap.objs.size<=a)(new:cS X.prog X.w (upd H a o) h' a o) :
 Inv X γ σ (upd H a o) {s with heap:=h',toks:=t'}:=I.un (Un.laid k hp (I.cm.fresh hp)) (I.cm.laid k hp new)
def Inv.write{x e:Addr}{o:HO}(I:Inv X γ σ H s)(mu:Ww (H x))(he:e=x\/H e=some (.own x))(k:∀b u,b≠e->s.heap.get? b=some u->h'.get? b=some u)(Lj:∃u,h'.get? e=some u)(new:cS X.prog X.w (upd H x o) h' x o):Inv X γ σ (upd H x o) {s with heap:=h',toks:=t'}:=I.un (Un.write mu he k Lj) (I.cm.write mu he k Lj new)
def Inv.weak{σ':List (Option V)}(I:Inv X γ σ H s)(hl:σ'.length=σ.length)(w:∀(i:Nat) v,σ'[i]?=some (some v)->σ[i]?=some (some v)):Inv X γ σ' H s :=
 ⟨I.ok,I.os,I.bare,I.base,let ⟨m,hn,z5⟩:=I.loc;⟨m,hn,λi x v e1 e2 e3=>z5 i x v e1 (w i v e2) e3⟩,I.cell,I.free,I.jq,I.pin,I.cm,hl.trans I.len⟩
def Inv.Cf{Cg:qaa}(I:Inv X γ σ H s)(h:∀p∈Cg,s.heap.get? p.1=some p.2/\H p.1=none/\p.1≠X.env.locals/\p.1∉X.fs/\∀v,p.2.data≠.cell v):Inv X Cg σ H s :=
 ⟨I.ok,I.os,I.bare,I.base,I.loc,I.cell,I.free,I.jq,λp hp=>(cR.mp hp).elim (λz=>I.pin p (cW _ z)) (h p),I.cm,I.len⟩
def xB{N:ν}(hN:N.Nodup)(a:N[i]?=some x)(b:N[j]?=some x):i=j:=by obtain⟨h1,e1⟩:=eE.mp a;obtain⟨h2,e2⟩:=eE.mp b;exact (List.getElem_inj hN).mp (e1.trans e2.symm)
def t4{M:Model}{E:qad}{v:V}{Q:Unit->Shared->Prop}(I:Inv X γ σ H s)(hN:X.N.Nodup)(hi:X.N[i]?=some x)(hx:Loc X.env.scope x)(r:RelV v u)(h:∀s',Inv X γ (σ.set i (some v)) H s'->(∃a,Heap.SameBut a s.heap s'.heap/\(a=X.env.locals\/X.env.cells.lookup x=some a))->Q () s')(hf:X.fn x=true\/X.env.scope.names.lookup x=some .local:=by first|exact .inl rfl|assumption):wpAny M A (storeName X.env x u) Q E s:=by
 obtain⟨m,hn,hl⟩:=id I.loc;have acJ:(X.env.scope.kind==.class || (X.env.scope.kind==.module && X.env.locals != X.env.globals))=false:=by rw[I.ok.kind];rfl
 have hiσ:i<σ.length:=by rw[I.len];exact (eE.mp hi).1
 have LI:=I.LI;have tracked:∀{a:Addr}{h':Heap},(∃o,s.heap.get? a=some o/\H a=none)->Heap.SameBut a s.heap h'->lV X.prog X.w H h':=λ{a h'} ha hs b ob e=>by
  obtain⟨_,_,Ph⟩:=ha;refine (I.cm b ob e).D3 (λc w' hc q=>(hs.2 c ?_).trans q) (λ_ q=>q) λ_ _ q=>q;rintro rfl;obtain rfl|hc:=hc
  rw[Ph] at e;cases e;rw[Ph] at hc;cases hc
 obtain hk|hk:=hx
 refine wpAny_storeName_local hk hn (λh' hn' hs=>?_) acJ;obtain⟨oL,_,_,Wz,_⟩:=id hn;refine h _ ⟨I.ok,I.os,I.bare,⟨λb o e n hb hx=>?_,λb o e n hb hx=>?_,I.base.free,λb o e hx=>?_,I.base.xy,I.base.uM,I.base.xA⟩,⟨_,hn',λj y v' e1 e2 e3=>?_⟩,λy c e=>?_,I.free,I.jq,λp hp=>?_,tracked ⟨oL,Wz,I.free⟩ hs,by simpa using I.len⟩ ⟨_,hs,.inl rfl⟩;exact (hs.2 b (j7 (xj (iw e) I.ok.above))).trans (I.base.keep b o e n hb hx);obtain⟨sl,e1⟩:=I.base.slot b o e n hb hx;exact⟨sl,(hs.2 b (j7 (xj (iw e) I.ok.above))).trans e1⟩;obtain⟨o',e1⟩:=I.base.there b o e hx;exact⟨o',(hs.2 b (j7 (xj (iw e) I.ok.above))).trans e1⟩;by_cases hj:j=i;subst hj;rw[hi] at e1;cases e1;rw[DW hiσ] at e2;cases e2;exact⟨u,r,.inl ⟨hk,by simp⟩⟩;rw[xi (Ne.symm hj)] at e2;obtain⟨u',r',q⟩:=hl j y v' e1 e2 e3;refine⟨u',r',?_⟩;obtain⟨k,e⟩|⟨k,c,e,z⟩:=q
 refine .inl ⟨k,?_⟩;have:y≠x:=λe=>hj (xB hN e1 (e▸hi));simp[this,e];exact .inr ⟨k,c,e,z.sameBut hs (LI y c e)⟩;obtain⟨w',z⟩:=I.cell y c e;exact⟨w',z.sameBut hs (LI y c e)⟩;obtain⟨e,n,ne,nf,d⟩:=I.pin p hp;exact⟨(hs.2 p.1 ne).trans e,n,ne,nf,d⟩;have hfn:X.fn x=true:=by
  obtain z|z:=hf
  exact z;rw[z] at hk;cases hk
 obtain⟨c,hc⟩:=I.ok.has x (.inl hk);obtain⟨w',z⟩:=I.cell x c hc;refine wpAny_storeName_cell I.ok.kind hk hc z (λh' sN hs=>?_);obtain⟨oc,hoc,acK⟩:=id z;refine h {s with heap:=h'} ⟨I.ok,I.os,I.bare,⟨λb o e n hb hx=>?_,λb o e n hb hx=>?_,I.base.free,λb o e hx=>?_,I.base.xy,I.base.uM,I.base.xA⟩,⟨m,hn.sameBut hs (Ne.symm (LI x c hc)),λj y v' e1 e2 e3=>?_⟩,λy c' e=>?_,I.free,I.jq,λp hp=>?_,tracked ⟨oc,hoc,I.jq x c hc⟩ hs,by simpa using I.len⟩ ⟨c,hs,.inr hc⟩;exact (hs.2 b (j7 (xj (iw e) (I.ok.Wy x c hfn hc)))).trans (I.base.keep b o e n hb hx);obtain⟨sl,e1⟩:=I.base.slot b o e n hb hx;exact⟨sl,(hs.2 b (j7 (xj (iw e) (I.ok.Wy x c hfn hc)))).trans e1⟩;obtain⟨o',e1⟩:=I.base.there b o e hx;exact⟨o',(hs.2 b (j7 (xj (iw e) (I.ok.Wy x c hfn hc)))).trans e1⟩;by_cases hj:j=i;subst hj;rw[hi] at e1;cases e1;rw[DW hiσ] at e2;cases e2;exact⟨u,r,.inr ⟨.inl hk,c,hc,sN⟩⟩;rw[xi (Ne.symm hj)] at e2;obtain⟨u',r',q⟩:=hl j y v' e1 e2 e3;refine⟨u',r',?_⟩;obtain q|⟨k,c',e,z'⟩:=q
 exact .inl q;refine .inr ⟨k,c',e,z'.sameBut hs ?_⟩;rintro rfl;exact hj (xB hN e1 (I.ok.inj _ _ _ e hc▸hi));by_cases hcc:c'=c;subst hcc;exact⟨_,sN⟩;obtain⟨w2,z2⟩:=I.cell y c' e;exact⟨w2,z2.sameBut hs hcc⟩;obtain⟨e,n,ne,nf,d⟩:=I.pin p hp;refine⟨(hs.2 p.1 ?_).trans e,n,ne,nf,d⟩;intro q;rw[q,hoc] at e;have q':oc=p.2:=Option.some.inj e;exact d w' (by rw[<- q'];exact acK)
def qh{M:Model}{E:qad}{v:V}{Q:Unit->Shared->Prop}(I:Inv X γ σ H s)(hN:X.N.Nodup)(hi:X.N[i]?=some x)(hx:Loc X.env.scope x)(r:RelV v u)(h:∀s',Inv X γ (σ.set i (some v)) H s'->Q () s')(hf:X.fn x=true\/X.env.scope.names.lookup x=some .local:=by first|exact .inl rfl|assumption):wpAny M A (storeName X.env x u) Q E s :=
 t4 I hN hi hx r (λs' I' _=>h s' I') hf
def Inv.WA{ch:υ}(I:Inv X γ σ H s)(ho:s'.os=s.os)(u:Un (Gh X.stack) ch H H' s.heap s'.heap)(cm:lV X.prog X.w H' s'.heap)(hg:AllBare s'.gens)(Ll:∀b∈ch,(b∈X.ex\/X.s₀.heap.objs.size<=b)/\b≠X.env.locals/\(∀x c,X.env.cells.lookup x=some c->c≠b)/\∀p∈X.pn++γ,p.1≠b):Inv X γ σ H' s':=by obtain⟨h',g',d',t',o'⟩:=s';have e:o'=s.os:=ho;subst e;exact I.call (g':=g') (t':=t') (d':=d') u cm hg Ll
end
abbrev XK:=Value->qar->Hp->Prop
abbrev St:=List (Option V)
abbrev VK:=V->Hp->Prop
abbrev TE:=St->Hp->VK->Prop
abbrev TT:=St->Hp->(Bool->Hp->Prop)->Prop
abbrev TA:=St->Hp->(List V->Hp->Prop)->Prop
structure Ends where
 nx:St->Hp->Prop
 rt:VK
 bk:St->Hp->Prop:=λ_ _=>False
 ct:St->Hp->Prop:=λ_ _=>False
abbrev TS:=Ends->St->Hp->Prop
def EP(X:Cx)(γ:qaa)(σ:St)(Q:VK)(u:Value)(s':Shared):Prop:=∃v H',Inv X γ σ H' s'/\RelV v u/\Q v H'
def TP(X:Cx)(γ:qaa)(σ:St)(Q:Bool->Hp->Prop)(b:Bool)(s':Shared):Prop:=∃H',Inv X γ σ H' s'/\Q b H'
def AP(X:Cx)(γ:qaa)(σ:St)(Q:List V->Hp->Prop)(us:Ψ)(s':Shared):Prop:=∃vs H',Inv X γ σ H' s'/\Vals vs us/\Q vs H'
def SP(X:Cx)(γ:qaa)(D:Ends)(f:Flow)(s':Shared):Prop :=
 match f with
 |.next=>∃σ' H',Inv X γ σ' H' s'/\D.nx σ' H'
 |.brk=>∃σ' H',Inv X γ σ' H' s'/\D.bk σ' H'
 |.cont=>∃σ' H',Inv X γ σ' H' s'/\D.ct σ' H'
 |.ret u=>∃v σ' H',Inv X γ σ' H' s'/\RelV v u/\D.rt v H'
def PE(X:Cx)(e:Expr)(t:TE):Prop :=
 ∀(γ:qaa)(s:Shared)(σ:St)(H:Hp)(Q:VK),Inv X γ σ H s->t σ H Q->wpAny (model X.prog X.w) X.A (eval e X.env) (EP X γ σ Q) X.xe s
def PT(X:Cx)(e:Expr)(t:TT):Prop :=
 ∀(γ:qaa)(s:Shared)(σ:St)(H:Hp)(Q:Bool->Hp->Prop),Inv X γ σ H s->t σ H Q->wpAny (model X.prog X.w) X.A (isTrue e X.env (eval e X.env)) (TP X γ σ Q) X.xe s
def PW(X:Cx)(e:Expr)(t:TT):Prop :=
 ∀(whole:Sem Value)(γ:qaa)(s:Shared)(σ:St)(H:Hp)(Q:Bool->Hp->Prop),Inv X γ σ H s->t σ H Q->wpAny (model X.prog X.w) X.A (isTrue e X.env whole) (TP X γ σ Q) X.xe s
def PW.pt{X:Cx}{t:TT}(h:PW X e t):PT X e t:=h _
def PA(X:Cx)(es:qap)(t:TA):Prop :=
 ∀(pos:Pos)(γ:qaa)(s:Shared)(σ:St)(H:Hp)(Q:List V->Hp->Prop),Inv X γ σ H s->t σ H Q->wpAny (model X.prog X.w) X.A (spliced (backTo pos (starEach es X.env))) (AP X γ σ Q) X.xe s
def PS(X:Cx)(st:Stmt)(t:TS):Prop :=
 ∀(γ:qaa)(s:Shared)(σ:St)(H:Hp)(D:Ends),Inv X γ σ H s->t D σ H->wpAny (model X.prog X.w) X.A (exec st X.env) (SP X γ D) X.xe s
def jf(X:Cx)(st:qaq)(t:TS):Prop :=
 ∀(γ:qaa)(s:Shared)(σ:St)(H:Hp)(D:Ends),Inv X γ σ H s->t D σ H->wpAny (model X.prog X.w) X.A (execs st X.env) (SP X γ D) X.xe s
def ck{t:Sem α}{Q Q':α->Shared->Prop}{M:Model}{E:qad}{s:Shared}(h:wpAny M A t Q E s)(hQ:∀a s,Q a s->Q' a s):wpAny M A t Q' E s:=ω h hQ λ_ _ x=>x
section
variable{X:Cx}
def Rc(i:Nat):TE:=λσ H Q=>∃v,σ[i]?=some (some v)/\Q v H
def tC(v:V):TE:=λ_ H Q=>Q v H
def cf(hN:X.N[i]?=some x)(hv:kH X.env.scope x)(hd:iq x:=by decide)(gm:uL x:=by decide):PE X (.Name x pos) (Rc i):=by
 intro γ s σ H Q I h;obtain⟨v,e,h⟩:=h;obtain⟨m,hn,hl⟩:=I.loc;obtain⟨u,r,l⟩:=hl i x v hN e hv;have fin:EP X γ σ Q u s:=⟨v,H,I,r,h⟩;obtain⟨hk,hm⟩|⟨hk,c,hc,Ci⟩:=l
 exact wpAny_Name (wpAny_loadName_local I.ok.kind hk hn hm fin) hd;obtain hk|hk:=hk
 exact wpAny_Name (wpAny_loadName_cell I.ok.kind hk hc Ci fin) hd;exact wpAny_Name (wpAny_loadName_free I.ok.kind hk hc Ci fin gm) hd
def GA{i j pos}:PE X (.Constant (.int i) j pos) (tC (.int i)):=λ_ _ _ H _ I h=>wpAny_Constant_int ⟨.int i,H,I.tok _,⟨_,rfl⟩,h⟩
def WB{b j pos}:PE X (.Constant (.bool b) j pos) (tC (.bl b)):=λ_ _ _ H _ I h=>Constant_bool ⟨.bl b,H,I,rfl,h⟩
def Ag{j pos}:PE X (.Constant .none j pos) (tC .aO):=λ_ _ _ H _ I h=>Constant_none ⟨.aO,H,I,rfl,h⟩
def Rf{x j pos}:PE X (.Constant (.str x) j pos) (tC (.str x)):=λ_ _ _ H _ I h=>Calls.Constant_str ⟨.str x,H,I.tok _,⟨_,rfl⟩,h⟩
def Gl(X:Cx)(x:Str):Prop:=X.env.kindOf x=some .globalImplicit
def uO{E:qad}{γ:qaa}{s:Shared}{σ:St}{H:Hp}{Q:qad}(I:Inv X γ σ H s)(hg:Gl X x)(hm:X.mg x=some u)(h:Q u s)(hd:iq x:=by decide):wpAny (model X.prog X.w) X.A (eval (.Name x pos) X.env) Q E s :=
 Calls.Name_function_global I.ok.kind hg (Calls.loadGlobal_global (by rw[I.ok.glob];exact I.mod.glob.keeps I.bk) hm h) hd
def nN{E:qad}{γ:qaa}{s:Shared}{σ:St}{H:Hp}{Q:qad}(I:Inv X γ σ H s)(hg:Gl X x)(hm:X.mg x=none)(hv:bootBuiltins x=some u)(h:Q u s)(hn:x≠"__name__":=by decide)(hd:iq x:=by decide):wpAny (model X.prog X.w) X.A (eval (.Name x pos) X.env) Q E s:=by obtain⟨mb,h1,h2⟩:=I.mod.blt;exact Calls.Name_function_global I.ok.kind hg (Calls.loadGlobal_builtin (by rw[I.ok.glob];exact I.mod.glob.keeps I.bk) hm (by rw[I.ok.blt];exact h1.keeps I.bk) ((h2 x hn).trans hv) h) hd
def uP{v:V}(hg:Gl X x)(hm:X.mg x=some u)(r:RelV v u)(hd:iq x:=by decide):PE X (.Name x pos) (tC v) :=
 λ_ _ _ H _ I h=>uO I hg hm ⟨v,H,I,r,h⟩ hd
def LJ{v:V}(hg:Gl X x)(hm:X.mg x=none)(hv:bootBuiltins x=some u)(r:RelV v u)(hn:x≠"__name__":=by decide)(hd:iq x:=by decide):PE X (.Name x pos) (tC v) :=
 λ_ _ _ H _ I h=>nN I hg hm hv ⟨v,H,I,r,h⟩ hn hd
variable{a b:Expr}{ta tb:TE}
def tB(t:TE):TT:=λσ H Q=>t σ H λx H1=>∃c,x=.bl c/\Q c H1
def Rh{t:TE}(h:PE X e t)(he:∀whole,isTrue e X.env whole=(do let v <- whole;standAt e.pos;holding [v] (truthy v)):=by intro _;rfl):PT X e (tB t):=by intro γ s σ H Q I hw;refine isTrue_plain (ck (h γ s σ H _ I hw) λv s1 ⟨x,H1,I1,r1,q1⟩=>?_) (he _);obtain⟨d,rfl,q⟩:=q1;cases r1;exact χ ⟨H1,I1,q⟩
variable{tA WC:TT}{rest:qap}
def acL(t u:TT):TT:=λσ H Q=>t σ H λc H1=>if c=true then u σ H1 Q else Q false H1
def tOr(t u:TT):TT:=λσ H Q=>t σ H λc H1=>if c=true then Q true H1 else u σ H1 Q
def acM(t:TT):TT:=λσ H Q=>t σ H λc H1=>Q (!c) H1
def pw_and1(ha:PT X a tA):PW X (.BoolOp .And [a] pos) tA:=by
 intro wh γ s σ H Q I h;refine isTrue_and (ck (ha γ s σ H Q I h) λc s1 e=>?_);cases c with
 |true=>exact isTrue_and_nil e
 |false=>exact e
def pw_or1(ha:PT X a tA):PW X (.BoolOp .Or [a] pos) tA:=by
 intro wh γ s σ H Q I h;refine isTrue_or (ck (ha γ s σ H Q I h) λc s1 e=>?_);cases c with
 |false=>exact isTrue_or_nil e
 |true=>exact e
def pw_and(ha:PT X a tA)(hb:PW X (.BoolOp .And (b::rest) pos) WC):PW X (.BoolOp .And (a::b::rest) pos) (acL tA WC):=by
 intro wh γ s σ H Q I h;refine isTrue_and (ck (ha γ s σ H _ I h) λc s1 ⟨H1,I1,q1⟩=>?_);cases c with
 |true=>exact hb wh γ s1 σ H1 Q I1 q1
 |false=>exact⟨H1,I1,q1⟩
def pw_or(ha:PT X a tA)(hb:PW X (.BoolOp .Or (b::rest) pos) WC):PW X (.BoolOp .Or (a::b::rest) pos) (tOr tA WC):=by
 intro wh γ s σ H Q I h;refine isTrue_or (ck (ha γ s σ H _ I h) λc s1 ⟨H1,I1,q1⟩=>?_);cases c with
 |true=>exact⟨H1,I1,q1⟩
 |false=>exact hb wh γ s1 σ H1 Q I1 q1
def Ri(ha:PT X a tA):PT X (.UnaryOp .Not a pos) (acM tA):=by intro γ s σ H Q I h;exact isTrue_not (ha γ s σ H (λc H1=>Q (!c) H1) I h)
def WD(ta tb:TE):TE:=λσ H Q=>ta σ H λx H1=>∃c,x=.bl c/\if c=true then tb σ H1 Q else Q (.bl false) H1
def WE(ta:TE):TE:=λσ H Q=>ta σ H λx H1=>∃c,x=.bl c/\Q (.bl (!c)) H1
def Rj{op}{t:TE}(h:PE X a t):PE X (.BoolOp op [a] pos) t:=λγ s σ H Q I hw=>BoolOp_one (h γ s σ H Q I hw)
def Rk(ha:PE X a ta)(hb:PE X (.BoolOp .And (b::rest) pos) tb):PE X (.BoolOp .And (a::b::rest) pos) (WD ta tb):=by
 intro γ s σ H Q I h;refine BoolOp_and (ck (ha γ s σ H _ I h) λv s1 ⟨x,H1,I1,r1,q1⟩=>?_);obtain⟨c,rfl,q1⟩:=q1;cases r1;refine χ ?_;cases c with
 |true=>exact hb γ s1 σ H1 Q I1 q1
 |false=>exact⟨.bl false,H1,I1,rfl,q1⟩
def Rl(ha:PE X a ta):PE X (.UnaryOp .Not a pos) (WE ta):=by intro γ s σ H Q I h;refine UnaryOp_ (ck (ha γ s σ H _ I h) λv s1 ⟨x,H1,I1,r1,q1⟩=>?_);obtain⟨c,rfl,q1⟩:=q1;cases r1;exact not_of (χ ⟨.bl (!c),H1,I1,rfl,q1⟩)
def tIf(t:TT)(ta tb:TE):TE:=λσ H Q=>t σ H λc H1=>if c=true then ta σ H1 Q else tb σ H1 Q
def GB(hc:PT X c tA)(ha:PE X a ta)(hb:PE X b tb):PE X (.IfExp c a b pos) (tIf tA ta tb):=by
 intro γ s σ H Q I h;refine wpAny_IfExp (ck (hc γ s σ H _ I h) λd s1 ⟨H1,I1,q1⟩=>?_);cases d with
 |true=>exact ha γ s1 σ H1 Q I1 q1
 |false=>exact hb γ s1 σ H1 Q I1 q1
end
def gN(K:Γ)(H:Hp)(a:Addr)(xs:List V):Prop :=
 Rd H a (.lst xs) \/
  ∃(o:Obj)(aW:Array Value)(n:Nat),K.lookup a=some o/\o.cls=.type "list"/\o.dict=none/\o.data=.seq aW n/\aW.size<=sizeLine/\Vals xs aW.toList
def fB(K:Γ)(H:Hp)(a:Addr)(xs:List V):Prop :=
 Rd H a (.tup xs) \/
  ∃(o:Obj)(aW:Array Value)(n:Nat),K.lookup a=some o/\o.cls=.type "tuple"/\o.data=.seq aW n/\aW.size<=sizeLine/\Vals xs aW.toList
noncomputable def acN:Value->Option V
 |.none=>some .aO
 |.bool b=>some (.bl b)
 |.int i _=>some (.int i)
 |.str x _=>some (.str x)
 |.bytes b _=>some (.byt b)
 |.float b _=>some (.flt b)
 |.ref a=>some (.ref a)
 |.type n=>some (.ty n)
 |_=>none
def RelV.abs{x:V}(r:RelV x u):acN u=some x:=by
 cases x with
 |aO=>cases r;rfl
 |bl _=>cases r;rfl
 |ref _=>cases r;rfl
 |ty _=>cases r;rfl
 |_=>obtain⟨t,rfl⟩:=r;rfl
def RelV.inj{x y:V}(r:RelV x u)(q:RelV y u):x=y:=Option.some.inj (r.abs.symm.trans q.abs)
theorem Vals.inj:∀{xs ys:List V}{us:Ψ},Vals xs us->Vals ys us->xs=ys
 |_,_,_,.nil,.nil=>rfl
 |_,_,_,.cons r t,.cons r' t'=>by rw[r.inj r',Vals.inj t t']
section
variable{X:Cx}{γ:qaa}{σ:St}{H:Hp}{s:Shared}{xs ys:List V}
def gN.of{K:Γ}(h:H a=some (.lst xs)):gN K H a xs:=.inl (.inl h)
def fB.of{K:Γ}(h:H a=some (.tup xs)):fB K H a xs:=.inl (.inl h)
def Inv.list(I:Inv X γ σ H s)(h:gN X.K H a xs):∃aW:Ψ,Vals xs aW/\PlainL s.heap a aW.toArray/\xs.length<=sizeLine:=by
 obtain h|⟨o,aW,n,hk,hc,hd,hs,hz,r⟩:=h
 obtain⟨z,aW,n,r,e⟩:=h.ok I.cm;exact⟨aW,r,⟨_,n,e,rfl,rfl,rfl⟩,z⟩;refine⟨aW.toList,r,⟨o,n,I.sM a o hk,hc,hd,by simpa using hs⟩,?_⟩;have e:=r.length;simp only[La] at e;omega
def Inv.tuple(I:Inv X γ σ H s)(h:fB X.K H a xs):∃aW:Ψ,Vals xs aW/\IsTup s.heap a aW.toArray/\xs.length<=sizeLine:=by
 obtain h|⟨o,aW,n,hk,hc,hs,hz,r⟩:=h
 obtain⟨z,aW,r,p⟩:=h.ok I.cm;exact⟨aW,r,p,z⟩;refine⟨aW.toList,r,⟨o,I.sM a o hk,hc,n,by simpa using hs⟩,?_⟩;have e:=r.length;simp only[La] at e;omega
def Inv.qi(I:Inv X γ σ H s)(h:gN X.K H a xs)(h':gN X.K H a ys):xs=ys:=by
 obtain⟨aW,r,⟨o,n,e,_,_,d⟩,_⟩:=I.list h;obtain⟨its',r',⟨o',n',e',_,_,d'⟩,_⟩:=I.list h';rw[e] at e';cases e';rw[d] at d';injection d' with d1 _
 have:aW=its':=by simpa using ψ Array.toList d1
 subst this;exact r.inj r'
def Inv.nP(I:Inv X γ σ H s)(h:fB X.K H a xs)(h':fB X.K H a ys):xs=ys:=by
 obtain⟨aW,r,⟨o,e,_,n,d⟩,_⟩:=I.tuple h;obtain⟨its',r',⟨o',e',_,n',d'⟩,_⟩:=I.tuple h';rw[e] at e';cases e';rw[d] at d';injection d' with d1 _
 have:aW=its':=by simpa using ψ Array.toList d1
 subst this;exact r.inj r'
end
noncomputable abbrev Cx.sO(X:Cx)(E:qad):Cx:={X with xe:=E}
noncomputable abbrev Cx.pA(X:Cx):Cx:=X.sO λ_ _=>False
def Cx.Ok.sO{X:Cx}(ok:X.Ok)(E:qad):(X.sO E).Ok :=
 ⟨ok.mod,ok.kind,ok.glob,ok.blt,ok.above,ok.inj,ok.has,ok.Wy,ok.hd,ok.frames,ok.Z6,ok.exf,ok.bs,ok.LG,ok.Gz,ok.LH,ok.pq,ok.Rb⟩
def Cx.Ok.nQ{X:Cx}{E:qad}(ok:(X.sO E).Ok):X.Ok :=
 ⟨ok.mod,ok.kind,ok.glob,ok.blt,ok.above,ok.inj,ok.has,ok.Wy,ok.hd,ok.frames,ok.Z6,ok.exf,ok.bs,ok.LG,ok.Gz,ok.LH,ok.pq,ok.Rb⟩
section
variable{X:Cx}{γ:qaa}{σ:St}{H:Hp}{s:Shared}{E:qad}
def Inv.sO(I:Inv X γ σ H s)(E:qad):Inv (X.sO E) γ σ H s:=⟨I.ok.sO E,I.os,I.bare,I.base,I.loc,I.cell,I.free,I.jq,I.pin,I.cm,I.len⟩
def Inv.nQ(I:Inv (X.sO E) γ σ H s):Inv X γ σ H s:=⟨I.ok.nQ,I.os,I.bare,I.base,I.loc,I.cell,I.free,I.jq,I.pin,I.cm,I.len⟩
def SP.nQ{D:Ends}{f:Flow}(h:SP (X.sO E) γ D f s'):SP X γ D f s':=by
 cases f with
 |ret u=>obtain⟨v,σ',H',I,r,q⟩:=h;exact⟨v,σ',H',I.nQ,r,q⟩
 |_=>obtain⟨σ',H',I,q⟩:=h;exact⟨σ',H',I.nQ,q⟩
def jf.pA{st:qaq}{t:TS}(h:jf X.pA st t):jf X st t:=λγ s σ H D I hw=>
 ω (h γ s σ H D (I.sO _) hw) (λ_ _ q=>q.nQ) λ_ _ z=>False.elim z
end
section
variable{X:Cx}{st:Stmt}{rest:qaq}{t u:TS}{te:TE}
def WG:TS:=λD σ H=>D.nx σ H
def acO(t u:TS):TS:=λD σ H=>t {D with nx:=u D} σ H
def Cj:jf X [] WG:=λ_ _ σ H _ I h=>aal ⟨σ,H,I,h⟩
def c4(h1:PS X st t)(h2:jf X rest u):jf X (st::rest) (acO t u):=by
 intro γ s σ H D I h;refine wpAny_execs_cons (ck (h1 γ s σ H {D with nx:=u D} I h) λf s1 q=>?_);cases f with
 |next=>obtain⟨σ',H',I',q⟩:=q;exact h2 γ s1 σ' H' D I' q
 |ret v=>exact q
 |_=>exact q
def j8(h1:PS X st t):jf X [st] t:=by
 intro γ s σ H D I h;refine wpAny_execs_cons (ck (h1 γ s σ H D I h) λf s1 q=>?_);cases f with
 |next=>exact aal q
 |ret v=>exact q
 |_=>exact q
def Inv.quiet{γ:qaa}{σ:St}{H:Hp}{s:Shared}(I:Inv X γ σ H s):interactive X.env=false:=by simp[interactive,I.ok.kind]
def WH(te:TE):TS:=λD σ H=>te σ H λ_ H1=>D.nx σ H1
def l0(he:PE X e te)(hs:swapsWith e none pos.line X.env=pure false:=by rfl):PS X (.Expr e pos) (WH te):=by intro γ s σ H D I h;exact wpAny_Expr_any (ck (he γ s σ H _ I h) λv s1 ⟨x,H1,I1,r1,q1⟩=>⟨σ,H1,I1,q1⟩) I.quiet hs
def acP(te:TE):TS:=λD σ H=>te σ H D.rt
def uQ(he:PE X e te):PS X (.Return (some e) pos) (acP te):=by intro γ s σ H D I h;exact wpAny_Return_some (ck (he γ s σ H _ I h) λv s1 ⟨x,H1,I1,r1,q1⟩=>⟨x,σ,H1,I1,r1,q1⟩)
def acQ(c:TT)(t u:TS):TS:=λD σ H=>c σ H λb H1=>if b=true then t D σ H1 else u D σ H1
def Pj{a b:qaq}{tc:TT}(hc:PT X c tc)(ha:jf X a t)(hb:jf X b u):PS X (.If c a b pos) (acQ tc t u):=by
 intro γ s σ H D I h;refine wpAny_If (ck (hc γ s σ H _ I h) λd s1 ⟨H1,I1,q1⟩=>?_);cases d with
 |true=>exact ha γ s1 σ H1 D I1 q1
 |false=>exact hb γ s1 σ H1 D I1 q1
end
abbrev TG:=V->St->Hp->(St->Hp->Prop)->Prop
abbrev LK:=List V->St->Hp->(St->Hp->Prop)->Prop
def PG(X:Cx)(target:Expr)(t:TG):Prop :=
 ∀(γ:qaa)(s:Shared)(σ:St)(H:Hp)(v:V)(u:Value)(Q:St->Hp->Prop),Inv X γ σ H s->RelV v u->t v σ H Q ->
  wpAny (model X.prog X.w) X.A (assign target X.env u) (λ_ s'=>∃σ' H',Inv X γ σ' H' s'/\Q σ' H') X.xe s
def GC(X:Cx)(ts:qap)(t:LK):Prop :=
 ∀(γ:qaa)(s:Shared)(σ:St)(H:Hp)(vs:List V)(us:Ψ)(Q:St->Hp->Prop),Inv X γ σ H s->Vals vs us->t vs σ H Q ->
  wpAny (model X.prog X.w) X.A (assignInOrder ((assignEach ts X.env).map (·.2)) us) (λ_ s'=>∃σ' H',Inv X γ σ' H' s'/\Q σ' H') X.xe s
abbrev Rm:=V->V->V->Hp->(Hp->Prop)->Prop
def WI(X:Cx)(t:Rm):Prop :=
 ∀(γ:qaa)(s:Shared)(σ:St)(H:Hp)(o i v:V)(ov iv u:Value)(Q:Hp->Prop),Inv X γ σ H s->RelV o ov->RelV i iv->RelV v u->t o i v H Q ->
  wpAny (model X.prog X.w) X.A (setItem ov iv u) (λ_ s'=>∃H',Inv X γ σ H' s'/\Q H') X.xe s
abbrev TIp:=V->V->Hp->VK->Prop
def PIp(X:Cx)(op:Operator)(t:TIp):Prop :=
 ∀(γ:qaa)(s:Shared)(σ:St)(H:Hp)(x y:V)(v u:Value)(Q:VK),Inv X γ σ H s->RelV x v->RelV y u->t x y H Q ->
  wpAny (model X.prog X.w) X.A (inplaceOp op v u) (EP X γ σ Q) X.xe s
section
variable{X:Cx}
def kK(i:Nat):TG:=λv σ H Q=>Q (σ.set i (some v)) H
def LL(hN:X.N.Nodup)(hi:X.N[i]?=some x)(hx:Loc X.env.scope x)(hf:X.fn x=true\/X.env.scope.names.lookup x=some .local:=by first|exact .inl rfl|assumption):PG X (.Name x pos) (kK i):=by intro γ s σ H v u Q I r h;exact wpAny_assign_Name (qh I hN hi hx r (λs' I'=>⟨_,H,I',h⟩) hf)
def acR:LK:=λvs σ H Q=>vs=[]/\Q σ H
def WJ(t:TG)(u:LK):LK:=λvs σ H Q=>∃v r,vs=v::r/\t v σ H λσ' H'=>u r σ' H' Q
def LM:GC X [] acR:=by intro γ s σ H vs us Q I r h;obtain⟨e,h⟩:=h;subst e;cases r;exact assignInOrder_nil ⟨σ,H,I,h⟩
def GD{es:qap}{t:TG}{u:LK}(h1:PG X e t)(h2:GC X es u)(hs:(assignEach (e::es) X.env).map (·.2)=assign e X.env::(assignEach es X.env).map (·.2):=by rfl):GC X (e::es) (WJ t u):=by
 intro γ s σ H vs us Q I r h;obtain⟨v,vr,e1,h⟩:=h;subst e1;cases r with
 |cons r rr=>rw[hs];refine assignInOrder_cons (ck (h1 γ s σ H _ _ _ I r h) λ_ s1 ⟨σ1,H1,I1,q1⟩=>?_);exact h2 γ s1 σ1 H1 _ _ Q I1 rr q1
def acS(K:Γ)(n:Nat)(t:LK):TG:=λv σ H Q=>∃a xs,v=.ref a/\fB K H a xs/\xs.length=n/\t xs σ H Q
def Rn{es:qap}{k:Nat}{t:LK}(hc:X.calm=true)(h:GC X es t)(hn:(assignEach es X.env).length=n:=by rfl)(GF:(assignEach es X.env).findIdx? (·.1)=none:=by rfl):PG X (.Tuple es k pos) (acS X.K n t):=by intro γ s σ H v u Q I r hw;obtain⟨a,xs,e1,hq,hl,hw⟩:=hw;subst e1;cases r;obtain⟨aW,rv,ht,hz⟩:=I.tuple hq;refine assign_Tuple_tuple (I.ok.hd hc) ht (by simp[hn,<- hl,rv.length]) GF λh' hx=>?_;have I1:Inv X γ σ H {s with heap:=h'}:=I.kept (t':=s.toks) λb o e=>hx b o (j7 (iw e)) e;exact h γ _ σ H xs _ Q I1 (by simpa using rv) hw
def acT(to ti:TE)(t:Rm):TG:=λv σ H Q=>to σ H λo H1=>ti σ H1 λi H2=>t o i v H2 λH3=>Q σ H3
def Ro{i:Expr}{to ti:TE}{t:Rm}(ho:PE X o to)(hi:PE X i ti)(hs:WI X t)(ha:∀v,assign (.Subscript o i pos) X.env v=(do
    let ov <- holding [v] (eval o X.env)
    let iv <- holding [v,ov] (eval i X.env)
    standAt pos
    holding [v,ov,iv] (setItem ov iv v)
    release [v,ov,iv] []):=by intro _;rfl):PG X (.Subscript o i pos) (acT to ti t):=by
 intro γ s σ H v u Q I r h;rw[ha];refine δ (Φ (ck (ho γ s σ H _ I h) λov s1 ⟨x,H1,I1,r1,q1⟩=>?_));refine δ (Φ (ck (hi γ s1 σ H1 _ I1 q1) λiv s2 ⟨y,H2,I2,r2,q2⟩=>?_));refine δ (wpAny_standAt (δ (Φ (ck (hs γ s2 σ H2 x y v ov iv u _ I2 r1 r2 r q2) λ_ s3 ⟨H3,I3,q3⟩=>?_))));exact wpAny_release ⟨σ,H3,I3,q3⟩
def LN(te:TE)(g:TG):TS:=λD σ H=>te σ H λx H1=>g x σ H1 D.nx
def GG{tg:Expr}{te:TE}{g:TG}(he:PE X e te)(hg:PG X tg g)(hs:swapsWithSole [tg] e pos.line X.env=pure false:=by rfl)(hw:swappedStores [tg] e X.env=pure none:=by rfl)(h1:(assignEach [tg] X.env).map (·.2)=[assign tg X.env]:=by rfl):PS X (.Assign [tg] e pos) (LN te g):=by intro γ s σ H D I h;refine wpAny_Assign_stores (ck (he γ s σ H _ I h) λv s1 ⟨x,H1,I1,r1,q1⟩=>?_) hs hw;rw[h1];exact ck (hg γ s1 σ H1 x v _ I1 r1 q1) λ_ s2 q=>q
def uR{te:TE}(hN:X.N.Nodup)(hi:X.N[i]?=some x)(hx:Loc X.env.scope x)(he:PE X e te)(hs:swapsWith e (some (.Name x pos')) pos.line X.env=pure false:=by rfl)(hf:X.fn x=true\/X.env.scope.names.lookup x=some .local:=by first|exact .inl rfl|assumption) :
  PS X (.Assign [.Name x pos'] e pos) (LN te (kK i)):=by
 intro γ s σ H D I h;refine wpAny_Assign_Name (ck (he γ s σ H _ I h) λv s1 ⟨y,H1,I1,r1,q1⟩=>?_) hs;exact qh I1 hN hi hx r1 (λs2 I2=>⟨_,H1,I2,q1⟩) hf
def acU(i:Nat)(te:TE)(ti:TIp):TS:=λD σ H=>∃x,σ[i]?=some (some x)/\te σ H λy H1=>ti x y H1 λz H2=>D.nx (σ.set i (some z)) H2
def Rp{te:TE}{op:Operator}{ti:TIp}(hN:X.N.Nodup)(hi:X.N[i]?=some x)(hx:Loc X.env.scope x)(he:PE X e te)(ho:PIp X op ti)(hf:X.fn x=true\/X.env.scope.names.lookup x=some .local:=by first|exact .inl rfl|assumption) :
  PS X (.AugAssign (.Name x pos') op e pos) (acU i te ti):=by
 intro γ s σ H D I h;obtain⟨v,e1,h⟩:=h;obtain⟨m,hn,hl⟩:=I.loc;have vis:kH X.env.scope x:=by obtain k|k:=hx;exact .inl k;exact .inr (.inl k)
 obtain⟨u,r,l⟩:=hl i x v hi e1 vis;refine wpAny_AugAssign_Name ?_;have go:wpAny (model X.prog X.w) X.A (eval e X.env) (λw s₂=>wpAny (model X.prog X.w) X.A (inplaceOp op u w) (λr s₃=>wpAny (model X.prog X.w) X.A (storeName X.env x r) (λ_=>SP X γ D .next) X.xe s₃) X.xe s₂) X.xe s:=by refine ck (he γ s σ H _ I h) λw s1 ⟨y,H1,I1,r1,q1⟩=>?_;refine ck (ho γ s1 σ H1 v y u w _ I1 r r1 q1) λz s2 ⟨zv,H2,I2,r2,q2⟩=>?_;exact qh I2 hN hi hx r2 (λs3 I3=>⟨_,H2,I3,q2⟩) hf
 obtain⟨hk,hm⟩|⟨hk,c,hc,Ci⟩:=l
 exact wpAny_loadName_local I.ok.kind hk hn hm go;obtain hk|hk:=hk
 exact wpAny_loadName_cell I.ok.kind hk hc Ci go;obtain k|k:=hx
 have:X.env.scope.names.lookup x=some .free:=hk;rw[k] at this;cases this;have:X.env.scope.names.lookup x=some .free:=hk;rw[k] at this;cases this
end
section
variable{X:Cx}
def Rq(c:TT)(tb:TS):TS:=λD σ H=>∃W:Nat->St->Hp->Prop,(∃m,W m σ H)/\∀m σ H,W m σ H ->
 c σ H λb H1=>if b=true then ∃N:St->Hp->Prop,(∀σ' H',N σ' H'->∃m',m'<m/\W m' σ' H')/\tb {D with nx:=N,ct:=N,bk:=D.nx} σ H1 else D.nx σ H1
def GH{body:qaq}{tc:TT}{tb:TS}(hp:PassesOwn (model X.prog X.w) X.A X.env X.xe)(hc:PT X c tc)(hb:jf X body tb):PS X (.While c body [] pos) (Rq tc tb):=by
 intro γ s σ H D I h;obtain⟨W,⟨m0,w0⟩,turn⟩:=h;refine wpAny_While (codeAny_whileLoop (λn s'=>∃σ' H',Inv X γ σ' H' s'/\W n σ' H') ?_ m0 ⟨σ,H,I,w0⟩);rintro n s1 ⟨σ1,H1,I1,w1⟩;refine aaa hp (ck (hc γ s1 σ1 H1 _ I1 (turn n σ1 H1 w1)) λb s2 ⟨H2,I2,q2⟩=>?_);cases b with
 |true=>
  obtain⟨N,hN,q2⟩:=q2;rw[ε rfl];refine aaa hp (ck (hb γ s2 σ1 H2 _ I2 q2) λf s3 q3=>?_);cases f with
  |next=>obtain⟨σ3,H3,I3,n3⟩:=q3;obtain⟨m',hm,w3⟩:=hN σ3 H3 n3;exact⟨m',hm,σ3,H3,I3,w3⟩
  |cont=>obtain⟨σ3,H3,I3,n3⟩:=q3;obtain⟨m',hm,w3⟩:=hN σ3 H3 n3;exact⟨m',hm,σ3,H3,I3,w3⟩
  |brk=>exact q3
  |ret v=>exact q3
 |false=>rw[ζ iM];exact aal ⟨σ1,H2,I2,q2⟩
end
structure It where
 go:Nat->Hp->Prop
 WK:Nat->Hp->V->Hp->Prop
 stop:Nat->Hp->Prop
def pB(X:Cx)(γ:qaa)(H:Hp)(b:Addr):Prop :=
 H b=none/\b≠X.env.locals/\b∉X.fs/\(b∈X.ex\/X.s₀.heap.objs.size<=b)/\(∀x c,X.env.cells.lookup x=some c->c≠b)/\∀p∈X.pn++γ,p.1≠b
def Inv.pD{X:Cx}{γ:qaa}{σ:St}{H H':Hp}{s:Shared}(I:Inv X γ σ H s)(hb:s.heap.objs.size<=b)(hn:H' b=none):pB X γ H' b:=by refine⟨hn,Lg (xj I.lt hb),I.acI hb,.inr (je I.sz hb),λx c e z=>?_,λp hp z=>?_⟩;obtain⟨v,q⟩:=I.cell x c e;exact absurd (xj q.lt (by rw[z];exact hb)) (LB _);exact absurd (xj (iw (I.pin p hp).1) (by rw[z];exact hb)) (LB _)
structure Turn(P:Program)(w:World)(K:Γ)(tg:Expr)(J:It)(fp:υ)(it:Addr)(tn:Nat->Heap->Prop):Prop where
 mem:it∈fp
 obj:∀i h,tn i h->∀b∈fp,∃o,h.get? b=some o/\∀v,o.data≠.cell v
 keep:∀i h h',tn i h->(∀b∈fp,∀o,h.get? b=some o->h'.get? b=some o)->tn i h'
 item:∀(X:Cx),X.prog=P->X.w=w->X.K=K->X.calm=true->∀(i:Nat)(γ:qaa)(s:Shared)(σ:St)(H:Hp)(E:qad),Inv X γ σ H s->(∀b∈fp,pB X γ H b)->tn i s.heap->J.go i H ->
  wpAny (model P w) X.A (pyNext (.ref it)) (λr s1=>∃u,r=some u /\
   wpAny (model P w) X.A (letOwnedTupleGo tg (.ref it) u) (λ_ s2=>∃x H',Inv X γ σ H' s2/\RelV x u/\J.WK i H x H'/\tn (i+1) s2.heap/\∀b∈fp,H' b=none) E s1) E s
 done:∀(X:Cx),X.prog=P->X.w=w->X.K=K->X.calm=true->∀(i:Nat)(γ:qaa)(s:Shared)(σ:St)(H:Hp)(E:qad),Inv X γ σ H s->(∀b∈fp,pB X γ H b)->tn i s.heap->J.stop i H ->
  wpAny (model P w) X.A (pyNext (.ref it)) (λr s1=>r=none/\Inv X γ σ H s1) E s
 self:∀(A:Around)(i:Nat)(s:Shared)(Q:qad)(E:qad),tn i s.heap->Q (.ref it) s->wpAny (model P w) A (pyIter (.ref it)) Q E s
abbrev TI:=St->Hp->(It->Hp->Prop)->Prop
def PIE(X:Cx)(γ:qaa)(σ:St)(tg:Expr)(R:It->Hp->Prop)(Z8:Value)(s2:Shared):Prop :=
 ∃(it:Addr)(fp:υ)(tn:Nat->Heap->Prop)(J:It)(H':Hp),Z8=.ref it/\Inv X γ σ H' s2/\Turn X.prog X.w X.K tg J fp it tn/\tn 0 s2.heap/\(∀b∈fp,pB X γ H' b)/\R J H'
def PI(X:Cx)(tg iter:Expr)(wi:TI):Prop :=
 ∀(γ:qaa)(s:Shared)(σ:St)(H:Hp)(R:It->Hp->Prop),Inv X γ σ H s->wi σ H R ->
  wpAny (model X.prog X.w) X.A (eval iter X.env) (λv s1=>wpAny (model X.prog X.w) X.A (pyIter v) (PIE X γ σ tg R) X.xe s1) X.xe s
def Ck{M:Model}{E:qad}{s:Shared}{tg:Expr}{it:Addr}{o:Obj}{n:String}{vs:Array Value}{Q:Unit->Shared->Prop}(ho:s.heap.get? it=some o)(hc:o.cls=.type n)(hd:o.data=.fields vs)(hn:["enumerate","zip","dict_itemiterator","dict_reverseitemiterator","odict_iterator","itertools.zip_longest","itertools.pairwise"].contains n=false)(hQ:Q () s):wpAny M A (letOwnedTupleGo tg (.ref it) u) Q E s:=by
 unfold letOwnedTupleGo;cases tg<;>first
  |exact η hQ
  | (cases u<;>first
      |exact η hQ
      | (refine δ (wpAny_load ho ?_)
         rw[hc,hd];show wpAny M A (if (["enumerate","zip","dict_itemiterator","dict_reverseitemiterator","odict_iterator","itertools.zip_longest","itertools.pairwise"].contains n && vs[0]?==some (rawInt _))=true then _ else _) Q E s;rw[ζ (by intro h;rw[hn,Wv] at h;cases h)];exact η hQ))
def Itl(K:Γ)(a:Addr):It :=
 ⟨λi H=>∃xs x,gN K H a xs/\xs[i]?=some x,λi H x H'=>H'=H/\∀xs,gN K H a xs->xs[i]?=some x,λi H=>∃xs,gN K H a xs/\xs.length<=i⟩
def Itt(K:Γ)(a:Addr):It :=
 ⟨λi H=>∃xs x,fB K H a xs/\xs[i]?=some x,λi H x H'=>H'=H/\∀xs,fB K H a xs->xs[i]?=some x,λi H=>∃xs,fB K H a xs/\xs.length<=i⟩
def Z9(lo:Int)(n:Nat):It:=⟨λi _=>i<n,λi H x H'=>H'=H/\x=.int (lo+i),λi _=>n<=i⟩
def D6{K:Γ}{tg:Expr}(a it:Addr):Turn P w K tg (Itl K a) [it] it (λi h=>h.IsListIter it a i) where
 mem:=by simp
 obj:=λi h st b hb=>by
  have e:b=it:=by simpa using hb
  subst e;obtain⟨o,e,c,d⟩:=st;exact⟨o,e,λv z=>by rw[d] at z;cases z⟩
 keep:=λi h h' st k=>st.at λo e=>k it (by simp) o e
 item:=by intro X hP hw hK hc i γ s σ H E I hf st hg;subst hP hw hK;obtain⟨xs,x,hq,hx⟩:=hg;obtain⟨aW,rv,p,hz⟩:=I.list hq;obtain⟨u,hu,ru⟩:=rv.get hx;obtain⟨f0,f1,f2,f3,f4,f5⟩:=hf it (by simp);refine wpAny_pyNext_list_item st p.isList (x:=u) (by simpa using hu) λh' Ah sb=>?_;have I1:Inv X γ σ H {s with heap:=h'}:=I.turned (t':=s.toks) (λb o hb e=>(sb.2 b hb).trans e) f0 f1 f3 f4 f5;obtain⟨o,e,c,d⟩:=id Ah;exact⟨u,rfl,Ck (s:={s with heap:=h'}) e c d (by decide) ⟨x,H,I1,ru,⟨rfl,λys hy=>by rw[I.qi hy hq];exact hx⟩,Ah,λb hb=>(hf b hb).1⟩⟩
 done:=by intro X hP hw hK hc i γ s σ H E I hf st hg;subst hP hw hK;obtain⟨xs,hq,hx⟩:=hg;obtain⟨aW,rv,p,hz⟩:=I.list hq;obtain⟨f0,f1,f2,f3,f4,f5⟩:=hf it (by simp);have hl:=rv.length;exact wpAny_pyNext_list_end (I.ok.hd hc) st p.isList (by simp;omega) λh' eb=>⟨rfl,I.turned (t':=s.toks) (λb o hb e=>eb b o hb e) f0 f1 f3 f4 f5⟩
 self:=λ_ _ _ _ _ st h=>wpAny_pyIter_listiter st h
def Ai{K:Γ}{tg:Expr}(a it:Addr):Turn P w K tg (Itt K a) [it] it (λi h=>h.IsTupleIter it a i) where
 mem:=by simp
 obj:=λi h st b hb=>by
  have e:b=it:=by simpa using hb
  subst e;obtain⟨o,e,c,d⟩:=st;exact⟨o,e,λv z=>by rw[d] at z;cases z⟩
 keep:=λi h h' st k=>st.at λo e=>k it (by simp) o e
 item:=by intro X hP hw hK hc i γ s σ H E I hf st hg;subst hP hw hK;obtain⟨xs,x,hq,hx⟩:=hg;obtain⟨aW,rv,p,hz⟩:=I.tuple hq;obtain⟨u,hu,ru⟩:=rv.get hx;obtain⟨f0,f1,f2,f3,f4,f5⟩:=hf it (by simp);refine wpAny_pyNext_tuple_item st (show s.heap.IsTuple a aW.toArray from p) (x:=u) (by simpa using hu) λh' Ah sb=>?_;have I1:Inv X γ σ H {s with heap:=h'}:=I.turned (t':=s.toks) (λb o hb e=>(sb.2 b hb).trans e) f0 f1 f3 f4 f5;obtain⟨o,e,c,d⟩:=id Ah;exact⟨u,rfl,Ck (s:={s with heap:=h'}) e c d (by decide) ⟨x,H,I1,ru,⟨rfl,λys hy=>by rw[I.nP hy hq];exact hx⟩,Ah,λb hb=>(hf b hb).1⟩⟩
 done:=by intro X hP hw hK hc i γ s σ H E I hf st hg;subst hP hw hK;obtain⟨xs,hq,hx⟩:=hg;obtain⟨aW,rv,p,hz⟩:=I.tuple hq;obtain⟨f0,f1,f2,f3,f4,f5⟩:=hf it (by simp);have hl:=rv.length;exact wpAny_pyNext_tuple_end (I.ok.hd hc) st (show s.heap.IsTuple a aW.toArray from p) (by simp;omega) λh' eb=>⟨rfl,I.turned (t':=s.toks) (λb o hb e=>eb b o hb e) f0 f1 f3 f4 f5⟩
 self:=λ_ _ _ _ _ st h=>wpAny_pyIter_tupleiter st h
def Aj{K:Γ}{tg:Expr}(it:Addr)(lo:Int)(n:Nat):Turn P w K tg (Z9 lo n) [it] it (λi h=>IsRangeIter h it (lo+(i:Nat) * 1) ((n:Int)-(i:Nat)) 1) where
 mem:=by simp
 obj:=λi h st b hb=>by
  have e:b=it:=by simpa using hb
  subst e;exact⟨_,st,λv z=>by have z':Data.fields _=Data.cell v:=z;cases z'⟩
 keep:=λi h h' st k=>k it (by simp) _ st
 item:=by intro X hP hw hK hc i γ s σ H E I hf st hg;subst hP hw hK;obtain⟨f0,f1,f2,f3,f4,f5⟩:=hf it (by simp);have W:=Walks.range (prog:=X.prog) (w:=X.w) (I.ok.hd hc) it lo 1 n;refine W.item i s _ _ hg st λv h' tk hv Ah kk=>?_;obtain⟨t,rfl⟩:=hv;have I1:Inv X γ σ H {s with heap:=h',toks:=tk}:=I.turned (λb o hb e=>kk b o (by simpa using hb) e) f0 f1 f3 f4 f5;refine⟨_,rfl,Ck (s:={s with heap:=h',toks:=tk}) (n:="range_iterator") Ah rfl rfl (by decide) ⟨.int (lo+i),H,I1,⟨t,?_⟩,⟨rfl,rfl⟩,Ah,λb hb=>(hf b hb).1⟩⟩;rw[Int.mul_one]
 done:=by intro X hP hw hK hc i γ s σ H E I hf st hg;subst hP hw hK;obtain⟨f0,f1,f2,f3,f4,f5⟩:=hf it (by simp);exact wpAny_pyNext_range_end (I.ok.hd hc) st (by have:n<=i:=hg;omega) λh' eb=>⟨rfl,I.turned (t':=s.toks) (λb o hb e=>eb b o hb e) f0 f1 f3 f4 f5⟩
 self:=λ_ _ _ _ _ st h=>wpAny_pyIter_rangeiter st h
section
variable{X:Cx}{tg:Expr}
def GJ{γ:qaa}{σ:St}{H:Hp}{s:Shared}{R:It->Hp->Prop}{E:qad}{lo hi:Int}{t u v:Tok}{tk:Nat}(I:Inv X γ σ H s)(h1 : -(2 ^ 62)<=lo)(h2:lo<2 ^ 62)(h3 : -(2 ^ 62)<=hi)(h4:hi<2 ^ 62)(q:R (Z9 lo (hi-lo).toNat) H):wpAny (model X.prog X.w) X.A (pyIter (.ref s.heap.objs.size)) (PIE X γ σ tg R) E {s with heap:=s.heap.push {cls:=.type "range",data:=.fields #[.int lo t,.int hi u,.int 1 v]},toks:=tk}:=by
 refine wpAny_pyIter_range (IsRange.new ..) (small_one h1 h2 h3 h4) ?_;have I1:Inv X γ σ H {s with heap:=s.heap.push {cls:=.type "range",data:=.fields #[.int lo t,.int hi u,.int 1 v]},toks:=tk}:=I.kept λb o e=>jn _ e;refine⟨(s.heap.push {cls:=.type "range",data:=.fields #[.int lo t,.int hi u,.int 1 v]}).objs.size,[(s.heap.push {cls:=.type "range",data:=.fields #[.int lo t,.int hi u,.int 1 v]}).objs.size],_,_,H,rfl,
  I1.kept (t':=tk) λb o e=>jn _ e,Aj _ lo (hi-lo).toNat,?_,λb hb=>?_,q⟩
 have e1:lo+((0:Nat):Int) * 1=lo:=by simp
 have e2:(((hi-lo).toNat:Nat):Int)-((0:Nat):Int)=Builtin.Range.rangeSize lo hi 1:=by rw[rangeSize_one];split<;>omega
 show IsRangeIter _ _ (lo+((0:Nat):Int) * 1) ((((hi-lo).toNat:Nat):Int)-((0:Nat):Int)) 1;rw[e1,e2];exact ph _ rfl;have e:b=(s.heap.push {cls:=.type "range",data:=.fields #[.int lo t,.int hi u,.int 1 v]}).objs.size:=by simpa using hb
 subst e;exact I1.pD (c9 _) (I1.cm.fresh (c9 _))
def WL(ta:TA):TI:=λσ H R=>ta σ H λvs H1=>∃j:Int,vs=[.int j]/\-(2 ^ 62)<=j/\j<2 ^ 62/\R (Z9 0 j.toNat) H1
def D7{a:Expr}{ta:TA}(hg:Gl X "range")(hm:X.mg "range"=none)(ha:PA X [a] ta)(hs:starEach [a] X.env=[(false,eval a X.env)]:=by rfl):PI X tg (.Call (.Name "range" p) [a] [] pos) (WL ta):=by
 intro γ s σ H R I h;refine Call_ (nN I hg hm boot_range (ZP (ck (ha pos γ s σ H _ I h) λus s1 ⟨vs,H1,I1,r1,q1⟩=>?_) hs rfl));obtain⟨j,e,q1,q2,q⟩:=q1;subst e;cases r1 with
 |cons r rr=>cases rr;obtain⟨t,rfl⟩:=r;exact call_range_1 (GJ I1 (by omega) (by omega) q1 q2 (by simpa using q))
def acV(wi:TI)(g:TG)(tb:TS):TS:=λD σ H=>wi σ H λJ H1=>∃W:Nat->Nat->St->Hp->Prop,(∃m,W 0 m σ H1)/\∀i m σ H,W i m σ H ->
 (J.stop i H/\D.nx σ H)\/(J.go i H/\∃N:St->Hp->Prop,(∀σ' H',N σ' H'->∃m',m'<m/\W (i+1) m' σ' H')/\∀x H',J.WK i H x H'->g x σ H' λσ2 H2=>tb {D with nx:=N,ct:=N,bk:=D.nx} σ2 H2)
noncomputable def qj(fp:υ)(h:Heap):qaa:=fp.filterMap λb=>(h.get? b).map λo=>(b,o)
def iN{fp:υ}{o:Obj}(hb:b∈fp)(e:h.get? b=some o):(b,o)∈qj fp h:=ZX.mpr ⟨b,hb,by rw[e];rfl⟩
def D8{fp:υ}{p:Addr×Obj}(hp:p∈qj fp h):p.1∈fp/\h.get? p.1=some p.2:=by
 obtain⟨b,hb,e⟩:=ZX.mp hp;cases q:h.get? b with
 |none=>rw[q] at e;cases e
 |some o=>rw[q] at e;have e':(b,o)=p:=Option.some.inj e;subst e';exact⟨hb,q⟩
def Inv.pinned{γ:qaa}{σ:St}{H:Hp}{s:Shared}{fp:υ}(I:Inv X γ σ H s)(hf:∀b∈fp,pB X γ H b)(ho:∀b∈fp,∃o,s.heap.get? b=some o/\∀v,o.data≠.cell v):Inv X (γ++qj fp s.heap) σ H s :=
 I.Cf λp hp=>(cR.mp hp).elim (λz=>I.pin p (cb _ z)) λz=>by obtain⟨hb,e⟩:=D8 z;obtain⟨f0,f1,f2,_⟩:=hf p.1 hb;obtain⟨o,e',d⟩:=ho p.1 hb;rw[e] at e';cases e';exact⟨e,f0,f1,f2,d⟩
def Inv.l9{γ pl:qaa}{σ:St}{H:Hp}{s:Shared}(I:Inv X (γ++pl) σ H s):Inv X γ σ H s:=I.Cf λp hp=>I.pin p (cb _ (cW _ hp))
def Rr{body:qaq}{wi:TI}{g:TG}{tb:TS}(hp:PassesOwn (model X.prog X.w) X.A X.env X.xe)(hc:X.calm=true)(hi:PI X tg iter wi)(hg:PG X tg g)(hb:jf X body tb)(hs:∀x,foldedSetIterable iter X.env x=pure x:=by intro _;rfl):PS X (.For tg iter body [] pos) (acV wi g tb):=by
 intro γ s σ H D I h;refine wpAny_For (ck (hi γ s σ H _ I h) λv s1 h1=>ck h1 λZ8 s2 h2=>?_) hs;obtain⟨it,fp,tn,J,H2,e,I2,T,xD,f2,W,⟨m0,w0⟩,turn⟩:=h2;subst e;have Ru:∀{H':Hp},(∀b∈fp,H' b=none)->∀b∈fp,pB X γ H' b:=λhn b hb=>⟨hn b hb,(f2 b hb).2⟩;refine codeAny_forLoop_any (λn s'=>∃i σ' H',Inv X γ σ' H' s'/\tn i s'.heap/\(∀b∈fp,H' b=none)/\W i n σ' H') ?_ m0 ⟨0,σ,H2,I2,xD,λb hb=>(f2 b hb).1,w0⟩;rintro n s3 ⟨i,σ3,H3,I3,WM,WN,w3⟩;rcases turn i n σ3 H3 w3 with⟨stop,qn⟩|⟨go,N,hN,step⟩
 . refine aaa hp (ck (T.done X rfl rfl rfl hc i γ s3 σ3 H3 X.xe I3 (Ru WN) WM stop) λr s4 ⟨hr,I4⟩=>?_);subst hr;exact aal ⟨σ3,H3,I4,qn⟩
 refine aaa hp (ck (T.item X rfl rfl rfl hc i γ s3 σ3 H3 X.xe I3 (Ru WN) WM go) λr s4 ⟨u,hr,h4⟩=>?_);subst hr;refine aaa hp (ck h4 λ_ s5 ⟨x,H5,I5,r5,y5,Rv,fr5⟩=>?_);have I5':=I5.pinned (Ru fr5) (T.obj _ _ Rv);refine aaa hp (ck (hg _ s5 σ3 H5 x u _ I5' r5 (step x H5 y5)) λ_ s6 ⟨σ6,H6,I6,q6⟩=>?_);refine aaa hp (ck (hb _ s6 σ6 H6 _ I6 q6) λf s7 q7=>?_);have again:∀{σ7:St}{H7:Hp},Inv X (γ++qj fp s5.heap) σ7 H7 s7->N σ7 H7->∃m,m<n/\∃i σ' H',Inv X γ σ' H' s7/\tn i s7.heap/\(∀b∈fp,H' b=none)/\W i m σ' H':=λ{σ7 H7} I7 n7=>by obtain⟨m',hm,w7⟩:=hN σ7 H7 n7;refine⟨m',hm,i+1,σ7,H7,I7.l9,T.keep _ _ _ Rv λb hb o e=>(I7.pin (b,o) (cb _ (cb _ (iN hb e)))).1,λb hb=>?_,w7⟩;obtain⟨o,e,d⟩:=T.obj _ _ Rv b hb;exact (I7.pin (b,o) (cb _ (cb _ (iN hb e)))).2.1
 cases f with
 |brk=>obtain⟨σ7,H7,I7,q7⟩:=q7;exact⟨σ7,H7,I7.l9,q7⟩
 |ret v=>obtain⟨x7,σ7,H7,I7,r7,q7⟩:=q7;exact⟨x7,σ7,H7,I7.l9,r7,q7⟩
 |_=>obtain⟨σ7,H7,I7,n7⟩:=q7;exact again I7 n7
end
abbrev R2:=V->V->Hp->VK->Prop
def fS(X:Cx)(f:Value->Value->Sem Value)(r:R2):Prop :=
 ∀(γ:qaa)(s:Shared)(σ:St)(H:Hp)(x y:V)(v u:Value)(Q:VK),Inv X γ σ H s->RelV x v->RelV y u->r x y H Q ->
  wpAny (model X.prog X.w) X.A (f v u) (EP X γ σ Q) X.xe s
def UnR(X:Cx)(f:Value->Sem Value)(r:V->Hp->VK->Prop):Prop :=
 ∀(γ:qaa)(s:Shared)(σ:St)(H:Hp)(x:V)(v:Value)(Q:VK),Inv X γ σ H s->RelV x v->r x H Q ->
  wpAny (model X.prog X.w) X.A (f v) (EP X γ σ Q) X.xe s
def d_(X:Cx)(f:Value)(r:List V->Hp->VK->Prop):Prop :=
 ∀(γ:qaa)(s:Shared)(σ:St)(H:Hp)(xs:List V)(us:Ψ)(Q:VK),Inv X γ σ H s->Vals xs us->r xs H Q ->
  wpAny (model X.prog X.w) X.A (call f us) (EP X γ σ Q) X.xe s
def WO(r:R2)(ta tb:TE):TE:=λσ H Q=>ta σ H λx H1=>tb σ H1 λy H2=>r x y H2 Q
def tUn(r:V->Hp->VK->Prop)(ta:TE):TE:=λσ H Q=>ta σ H λx H1=>r x H1 Q
def rI(C:Int->Int->Prop)(g:Int->Int->V):R2:=λx y H Q=>∃i j,x=.int i/\y=.int j/\C i j/\Q (g i j) H
def uS(g:Int->Int->V):R2:=λx y H Q=>∃i j,x=.int i/\y=.int j/\Q (g i j) H
def rU(g:Int->V):V->Hp->VK->Prop:=λx H Q=>∃i,x=.int i/\Q (g i) H
section
variable{X:Cx}{a b:Expr}{ta tb tc:TE}
def Rx(ha:PE X a ta)(hb:PE X b tb){γ:qaa}{s:Shared}{σ:St}{H:Hp}{R:V->V->Hp->Prop}(I:Inv X γ σ H s)(h:ta σ H λx H1=>tb σ H1 λy H2=>R x y H2){Q:qad}{f:Value->Value->Sem Value}(hf:∀v u s2 x y H2,Inv X γ σ H2 s2->RelV x v->RelV y u->R x y H2->wpAny (model X.prog X.w) X.A (f v u) Q X.xe s2) :
  wpAny (model X.prog X.w) X.A (eval a X.env) (λv s₁=>wpAny (model X.prog X.w) X.A (eval b X.env) (λu s₂=>wpAny (model X.prog X.w) X.A (f v u) Q X.xe s₂) X.xe s₁) X.xe s:=by
 refine ck (ha γ s σ H _ I h) λv s1 ⟨x,H1,I1,r1,q1⟩=>?_;refine ck (hb γ s1 σ H1 _ I1 q1) λu s2 ⟨y,H2,I2,r2,q2⟩=>?_;exact hf v u s2 x y H2 I2 r1 r2 q2
def Pk{op:Operator}{r:R2}(ho:fS X (binaryOp op) r)(ha:PE X a ta)(hb:PE X b tb):PE X (.BinOp a op b pos) (WO r ta tb):=by intro γ s σ H Q I h;exact wpAny_BinOp (Rx ha hb I h λv u s2 x y H2 I2 rx ry q=>ho γ s2 σ H2 x y v u Q I2 rx ry q)
def Pl{op:UnaryOp}{r:V->Hp->VK->Prop}(ho:UnR X (unaryOp op) r)(ha:PE X a ta):PE X (.UnaryOp op a pos) (tUn r ta):=by intro γ s σ H Q I h;exact UnaryOp_ (ck (ha γ s σ H _ I h) λv s1 ⟨x,H1,I1,r1,q1⟩=>ho γ s1 σ H1 x v Q I1 r1 q1)
def LO{f:Value->Value->Sem Value}{C:Int->Int->Prop}{g:Int->Int->Int}(rule:∀(i j:Int) (t u:Tok) (s:Shared) (Q:qad) (E:qad),C i j->Q (.int (g i j) s.toks) {s with toks:=s.toks+1}->wpAny (model X.prog X.w) X.A (f (.int i t) (.int j u)) Q E s) :
  fS X f (rI C λi j=>.int (g i j)):=by
 intro γ s σ H x y v u Q I rx ry h;obtain⟨i,j,rfl,rfl,hc,q⟩:=h;obtain⟨t,rfl⟩:=rx;obtain⟨t',rfl⟩:=ry;exact rule i j t t' s _ _ hc ⟨.int (g i j),H,I.tok _,⟨_,rfl⟩,q⟩
def Ry{f:Value->Value->Sem Value}{g:Int->Int->Int}(rule:∀(i j:Int) (t u:Tok) (s:Shared) (Q:qad) (E:qad),Q (.int (g i j) s.toks) {s with toks:=s.toks+1}->wpAny (model X.prog X.w) X.A (f (.int i t) (.int j u)) Q E s) :
  fS X f (uS λi j=>.int (g i j)):=by
 intro γ s σ H x y v u Q I rx ry h;obtain⟨i,j,rfl,rfl,q⟩:=h;obtain⟨t,rfl⟩:=rx;obtain⟨t',rfl⟩:=ry;exact rule i j t t' s _ _ ⟨.int (g i j),H,I.tok _,⟨_,rfl⟩,q⟩
def LP{f:Value->Value->Sem Value}{g:Int->Int->Bool}(rule:∀(i j:Int) (t u:Tok) (s:Shared) (Q:qad) (E:qad),Q (.bool (g i j)) s->wpAny (model X.prog X.w) X.A (f (.int i t) (.int j u)) Q E s) :
  fS X f (uS λi j=>.bl (g i j)):=by
 intro γ s σ H x y v u Q I rx ry h;obtain⟨i,j,rfl,rfl,q⟩:=h;obtain⟨t,rfl⟩:=rx;obtain⟨t',rfl⟩:=ry;exact rule i j t t' s _ _ ⟨.bl (g i j),H,I,rfl,q⟩
def WQ(i j:Int):Prop:=0<j/\j<1073741824
def WR(i j:Int):Prop:=0<=j/\j<=1000000/\i.natAbs<2 ^ 64
def GK(i j:Int):Prop:=(-(2 ^ 64)<i/\i<2 ^ 64)\/(-(2 ^ 64)<j/\j<2 ^ 64)
def GK.ok{i j:Int}(h:GK i j):IntMulOk i j:=by
 obtain⟨h1,h2⟩|⟨h1,h2⟩:=h
 exact .of_left (intBits_le_64 h1 h2);exact .of_right (intBits_le_64 h1 h2)
def Rz:fS X (binaryOp .Add) (uS λi j=>.int (i+j)):=Ry λ_ _ _ _ _ _ _ q=>add_int q
def RA:fS X (binaryOp .Sub) (uS λi j=>.int (i-j)):=Ry λ_ _ _ _ _ _ _ q=>sub_int q
def RB:fS X (binaryOp .Mult) (rI GK λi j=>.int (i * j)):=LO λ_ _ _ _ _ _ _ hc q=>mul_int q hc.ok
def LQ:fS X (binaryOp .FloorDiv) (rI WQ λi j=>.int (i / j)):=LO λi j _ _ _ _ _ hc q=>by have h1:(0:Int)<j:=hc.1;have h2:j<1073741824:=hc.2;exact floordiv_int (by omega) (by rw[Int.fdiv_eq_ediv_of_nonneg i (by omega)];exact q) (.inl (PyProof.noPylong_small (by omega)))
def RC:fS X (binaryOp .Mod) (rI (λ_ j=>0<j) λi j=>.int (i % j)):=LO λi j _ _ _ _ _ hc q=>by have h1:(0:Int)<j:=hc;exact mod_int' (by omega) (by rw[Int.fmod_eq_emod_of_nonneg i (by omega)];exact q)
def RD:fS X (binaryOp .Pow) (rI WR λi j=>.int (i ^ j.toNat)):=LO λ_ _ _ _ _ _ _ hc q=>pow_int_small hc.1 hc.2.1 hc.2.2 q
def LR:fS X (inplaceOp .Add) (uS λi j=>.int (i+j)):=Ry λ_ _ _ _ _ _ _ q=>iadd_int q
def unI{f:Value->Sem Value}{g:Int->Int}(rule:∀(i:Int) (t:Tok) (s:Shared) (Q:qad) (E:qad),Q (.int (g i) s.toks) {s with toks:=s.toks+1}->wpAny (model X.prog X.w) X.A (f (.int i t)) Q E s) :
  UnR X f (rU λi=>.int (g i)):=by
 intro γ s σ H x v Q I rx h;obtain⟨i,rfl,q⟩:=h;obtain⟨t,rfl⟩:=rx;exact rule i t s _ _ ⟨.int (g i),H,I.tok _,⟨_,rfl⟩,q⟩
def GN:UnR X (unaryOp .USub) (rU λi=>.int (-i)):=unI λ_ _ _ _ _ q=>neg_int q
end
section
variable{X:Cx}{a b:Expr}{ta tb tc:TE}
def Ak{γ:qaa}{σ:St}{H:Hp}{s:Shared}{Q:VK}{k k':Bool}(I:Inv X γ σ H s)(q:Q (.bl k) H)(e:k=k'):EP X γ σ Q (.bool k') s:=by subst e;exact⟨.bl k,H,I,rfl,q⟩
def WS:fS X (compareOp .Lt) (uS λi j=>.bl (decide (i<j))):=LP λ_ _ _ _ _ _ _ q=>lt_int q
def Pm:fS X (compareOp .LtE) (uS λi j=>.bl (decide (i<=j))):=LP λ_ _ _ _ _ _ _ q=>le_int q
def WT:fS X (compareOp .Gt) (uS λi j=>.bl (decide (j<i))):=LP λ_ _ _ _ _ _ _ q=>gt_int q
def WU:fS X (compareOp .GtE) (uS λi j=>.bl (decide (j<=i))):=LP λ_ _ _ _ _ _ _ q=>ge_int q
def D9:fS X (compareOp .In) (λx y H Q=>∃i j,x=.str i/\y=.str j/\Q (.bl (!(Builtin.Str.occurrences j i 0 j.length 1).isEmpty)) H):=by intro γ s σ H x y v u Q I rx ry h;obtain⟨i,j,rfl,rfl,q⟩:=h;obtain⟨t,rfl⟩:=rx;obtain⟨t',rfl⟩:=ry;exact in_str (Ak I q rfl)
def GO:fS X (compareOp .Is) (λx y H Q=>y=.aO/\Q (.bl (decide (x=.aO))) H):=by
 intro γ s σ H x y v u Q I rx ry h;obtain⟨rfl,q⟩:=h;cases ry;refine is_none_gen (Ak I q ?_);cases x<;>first
  | (cases rx;rfl)
  | (obtain⟨t,rfl⟩:=rx;rfl)
def LS:fS X (compareOp .IsNot) (λx y H Q=>y=.aO/\Q (.bl (!decide (x=.aO))) H):=by
 intro γ s σ H x y v u Q I rx ry h;obtain⟨rfl,q⟩:=h;cases ry;refine isnot_none_gen (Ak I q ?_);cases x<;>first
  | (cases rx;rfl)
  | (obtain⟨t,rfl⟩:=rx;rfl)
def fS.or{f:Value->Value->Sem Value}{r r':R2}(h:fS X f r)(h':fS X f r'):fS X f (λx y H Q=>r x y H Q\/r' x y H Q):=by
 intro γ s σ H x y v u Q I rx ry q;obtain q|q:=q
 exact h γ s σ H x y v u Q I rx ry q;exact h' γ s σ H x y v u Q I rx ry q
def iO(b:Expr){op:CmpOp}(h:op≠.In:=by decide)(h2:op≠.NotIn:=by decide):behindInMarks op b=false:=by
 have e1:(op==CmpOp.In)=false:=by cases op<;>first|rfl|exact absurd rfl h
 have e2:(op==CmpOp.NotIn)=false:=by cases op<;>first|rfl|exact absurd rfl h2
 cases b<;>simp[behindInMarks,e1,e2]
def LU{op:CmpOp}{r:R2}(ho:fS X (compareOp op) r)(ha:PE X a ta)(hb:PE X b tb)(hm:behindInMarks op b=false):PE X (.Compare a [op] [b] pos) (WO r ta tb):=by intro γ s σ H Q I h;exact wpAny_Compare1 (Rx ha hb I h λv u s2 x y H2 I2 rx ry q=>ho γ s2 σ H2 x y v u Q I2 rx ry q) hm
def Pn(t:TE):TT:=λσ H Q=>t σ H λx H'=>∃k,x=.bl k/\Q k H'
def LV{op:CmpOp}{r:R2}(ho:fS X (compareOp op) r)(ha:PE X a ta)(hb:PE X b tb)(hm:behindInMarks op b=false):PT X (.Compare a [op] [b] pos) (Pn (WO r ta tb)):=by
 intro γ s σ H Q I h;refine wpAny_isTrue_Compare1 (ck (ha γ s σ H _ I h) λv s1 ⟨x,H1,I1,r1,q1⟩=>ck (hb γ s1 σ H1 _ I1 q1) λu s2 ⟨y,H2,I2,r2,q2⟩ =>
  ck (ho γ s2 σ H2 x y v u _ I2 r1 r2 q2) λc s3 ⟨z,H3,I3,r3,k,e,q3⟩=>?_) hm
 subst e;cases r3;exact χ ⟨H3,I3,q3⟩
def GP(r r':R2)(ta tb tc:TE):TE:=λσ H Q=>ta σ H λx H1=>tb σ H1 λy H2=>r x y H2 λz H3=>∃k,z=.bl k /\
 (if k=true then tc σ H3 λw' H4=>r' y w' H4 Q else Q (.bl false) H3)
def GQ{op RE:CmpOp}{r r':R2}(ho:fS X (compareOp op) r)(kJ:fS X (compareOp RE) r')(ha:PE X a ta)(hb:PE X b tb)(hc:PE X c tc)(hm:lastMarks [op,RE] [b,c]=false:=by with_unfolding_all rfl):PT X (.Compare a [op,RE] [b,c] pos) (Pn (GP r r' ta tb tc)):=by
 intro γ s σ H Q I h;refine isTrue_chain (ck (ha γ s σ H _ I h) λv s1 ⟨x,H1,I1,r1,q1⟩=>test_link (ck (hb γ s1 σ H1 _ I1 q1) λu s2 ⟨y,H2,I2,r2,q2⟩ =>
  ck (ho γ s2 σ H2 x y v u _ I2 r1 r2 q2) λd s3 ⟨z,H3,I3,r3,k,e,q3⟩=>?_)) hm
 subst e;cases r3;refine χ ?_;cases k with
 |false=>obtain⟨k',e',q'⟩:=q3;cases e';exact ite_ff ⟨H3,I3,q'⟩
 |true=>refine ite_tt (test_last (ck (hc γ s3 σ H3 _ I3 q3) λw' s4 ⟨z',H4,I4,r4,q4⟩=>ck (kJ γ s4 σ H4 y z' u w' _ I4 r2 r4 q4) λd' s5 ⟨z2,H5,I5,r5,k2,e2,q5⟩=>?_));subst e2;cases r5;exact χ ⟨H5,I5,q5⟩
def nR:(sizeLine:Nat)<2 ^ 63:=by rw[ξ];decide
def Am:fS X (binaryOp .Add) (λx y H Q=>∃i j,x=.str i/\y=.str j/\i.length+j.length<=sizeLine/\Q (.str (i++j)) H):=by intro γ s σ H x y v u Q I rx ry h;obtain⟨i,j,rfl,rfl,hz,q⟩:=h;obtain⟨t,rfl⟩:=rx;obtain⟨t',rfl⟩:=ry;exact add_str (λt' tk=>⟨.str (i++j),H,I.tok _,⟨_,rfl⟩,q⟩) hz
def vals1{x:V}{us:Ψ}(r:Vals [x] us):∃u,us=[u]/\RelV x u:=by
 cases r with
 |cons r1 r2=>cases r2;exact⟨_,rfl,r1⟩
def vals2{x y:V}{us:Ψ}(r:Vals [x,y] us):∃u w',us=[u,w']/\RelV x u/\RelV y w':=by
 cases r with
 |cons r1 r2=>
  cases r2 with
  |cons r3 r4=>cases r4;exact⟨_,_,rfl,r1,r3⟩
end
structure D_(h:Heap)(x dx C:Addr)(mA:qae):Prop where
 obj:h.get? x=some (W.instObj C dx)
 ns:h.Ns1 dx mA
 ne:dx≠x
def Ea{mA:qae}(n:h.Ns1 dx mA):∃od,h.get? dx=some od/\∀name,W.lookIn name od=some (mA name):=by
 obtain⟨o,es,ep,ho,hd,hk,_,hm⟩:=n;refine⟨o,ho,λname=>?_⟩;have e:=hm name;unfold nsFind findBy at e;rw[<- Array.find?_toList] at e;unfold W.lookIn;rw[hd];dsimp only;split
 rename_i y q
 rw[q] at e;exact ψ some e
 rename_i q
 rw[q] at e;have a:es.toList.any (·.refKey)=false:=by rw[List.any_eq_false];intro y hy;obtain⟨z,t,acW⟩:=hk y (Array.mem_toList_iff.mp hy);simp[DictEntry.refKey,acW]
 have a':¬ es.toList.any (·.refKey)=true:=by rw[a];exact iM
 rw[ζ a'];exact ψ some e
def D_.look{x:Addr}{mA:qae}(I:D_ h x dx C mA):∃od,PySem.W.InstAt h x (W.instObj C dx) C (some od)/\∀name,W.lookIn name od=some (mA name) :=
 let ⟨od,ho,hl⟩:=Ea I.ns
 ⟨od,⟨I.obj,rfl,rfl,ho⟩,hl⟩
section
variable{E:qad}{s:Shared}{K:Γ}{x:Addr}{mA:qae}{name:Str}{v:Value}
def get_map{expr:Bool}{Q:qad}(X:K.In s.heap)(I:D_ s.heap x dx C mA)(hg:W.plainGet K C name=true)(hh:W.hasDictIn K C=true)(ha:W.findIn K (.ref C) name=some none)(hv:mA name=some v)(GR:W.handedIn v=true)(h:Q v {s with toks:=s.toks+1}) :
  wpAny (model prog w) A (getAttr (.ref x) name expr) Q E s:=by
 obtain⟨od,J,hl⟩:=I.look;exact W.get_value X J (W.plainGet_of hg).1 (W.findObj_own hh ha rfl (by rw[hl,hv])) GR h
def LW{ns:ν}{Q:Unit->Shared->Prop}(X:K.In s.heap)(I:D_ s.heap x dx C mA)(hs:W.findIn K (.ref C) "__setattr__"=some (some (.builtin "object.__setattr__")))(hp:W.plainOver K C=true)(ht:W.takerIn K C name=some none)(hh:W.hasDictIn K C=true)(hw:PySem.Within mA ns)(hsz:ns.length<=sizeLine)(h:∀h',D_ h' x dx C (λy=>if y=name then some v else mA y)->Heap.SameBut dx s.heap h'->Q () {s with heap:=h',toks:=s.toks+2}) :
  wpAny (model prog w) A (setAttr (.ref x) name v) Q E s:=by
 obtain⟨od,J,hl⟩:=I.look;refine W.set_plain X J hs (W.osa_open (s:={s with toks:=s.toks+1}) (r:=none) X J hp ht λb=>?_);obtain⟨cd,hc,z4⟩:=W.any_some hh;have hx:s.heap.get? x=some ⟨.ref C,some dx,.plain,#[]⟩:=I.obj;refine δ (η (δ (δ (wpAny_loadPart hx (δ (PySem.W.Looks.here (s:={s with toks:=s.toks+1}) (W.looks_clsIn X hc) ?_))))));rw[z4];refine η (a:=some dx) (δ (η (δ ?_)));refine wpAny_nsSet1 (s:={s with toks:=s.toks+1}) I.ns λh' hn2 Vv=>?_;obtain⟨oD,esD,epD,hoD,hdD,hcD⟩:=hn2.count (PySem.Within.cons name v hw);refine δ (wpAny_lookBehind hoD (by rw[hdD];exact pastItsLine_dict (je hcD (by rw[xk];omega))) ?_);exact η (h _ ⟨(Vv.2 _ (Ne.symm I.ne)).trans I.obj,hn2,I.ne⟩ Vv)
def GS{R:Result->Shared->Prop}{vs:Ψ}{kw:List (Str×Value)}(X:K.In s.heap)(hm:W.makesIn K C=true)(hi:W.findIn K (.ref C) "__init__"=some (some (.ref f)))(hf:W.typeIn K (.ref f)=some (.type "function"))(h:codeAny (model prog w) (A.under (.builtin "type.__call__" ⟨.ref C::vs,kw⟩)) (.call (.ref f) ⟨.ref (s.heap.objs.size+1)::vs,kw⟩) (PySem.W.InitBack (s.heap.objs.size+1) R)
    {s with heap:=(s.heap.push W.emptyDict).push (W.instObj C s.heap.objs.size)}) :
  codeAny (model prog w) A (.call (.ref C) ⟨vs,kw⟩) R s:=by
 obtain⟨hh,g,d,t,os⟩:=s;exact W.make_core (W.makes_of X hm) (W.looks_findIn X hi) (λself=>W.bind_fn X self hf) (.inl rfl) h
end
noncomputable def eA(f:Str)(v:V):List (Str×V)->List (Str×V)
 |[]=>[(f,v)]
 | (g,x)::r=>if g=f then (g,v)::r else (g,x)::eA f v r
theorem oU(f g:Str)(v:V):∀fs:List (Str×V),(eA f v fs).lookup g=if g=f then some v else fs.lookup g
 |[]=>by show List.lookup g [(f,v)]=_;by_cases h:g=f;have hb:(g==f)=true:=aao.mpr h;simp only[List.lookup,hb,ε h];have hb:(g==f)=false:=Ξ.mpr h;simp only[List.lookup,hb,ζ h]
 | (k,x)::r=>by have ih:=oU f g v r;rw[show eA f v ((k,x)::r)=(if k=f then (k,v)::r else (k,x)::eA f v r) from rfl];by_cases hk:k=f;rw[ε hk];by_cases h:g=k;have hb:(g==k)=true:=aao.mpr h;simp only[List.lookup,hb,ε (h.trans hk)];have hb:(g==k)=false:=Ξ.mpr h;simp only[List.lookup,hb,ζ (λe:g=f=>h (e.trans hk.symm))];rw[ζ hk];by_cases h:g=k;have hb:(g==k)=true:=aao.mpr h;simp only[List.lookup,hb,ζ (λe:g=f=>hk (h.symm.trans e))];have hb:(g==k)=false:=Ξ.mpr h;simp only[List.lookup,hb];exact ih
theorem nS(f:Str)(v:V):∀fs:List (Str×V),f∈(eA f v fs).map (·.1)/\∀g,g∈fs.map (·.1)->g∈(eA f v fs).map (·.1)
 |[]=>⟨by simp[eA],λg h=>by simp at h⟩
 | (k,x)::r=>by
  obtain⟨i1,i2⟩:=nS f v r;rw[show eA f v ((k,x)::r)=(if k=f then (k,v)::r else (k,x)::eA f v r) from rfl];by_cases hk:k=f;rw[ε hk];subst hk;exact⟨by simp,λg h=>by simpa using h⟩;rw[ζ hk];refine⟨?_,λg h=>?_⟩;rw[gU];exact gT _ i1;rw[gU] at h ⊢;rcases c0.mp h with e|e
  exact c0.mpr (.inl e);exact gT _ (i2 g e)
theorem oW(f:Str)(v:V):∀fs:List (Str×V),(eA f v fs).length<=fs.length+1
 |[]=>by simp[eA]
 | (k,x)::r=>by have ih:=oW f v r;rw[show eA f v ((k,x)::r)=(if k=f then (k,v)::r else (k,x)::eA f v r) from rfl];by_cases hk:k=f;rw[ε hk,xk,xk];omega;rw[ζ hk,xk,xk];omega
def ku.some_of{v:V}{o:Option Value}(r:ku (some v) o):∃u,o=some u/\RelV v u:=by
 cases o with
 |none=>exact (show False from r).elim
 |some u=>exact⟨u,rfl,r⟩
def Eb{v:V}(r:RelV v u):W.handedIn u=true:=by
 cases v with
 |aO=>cases (show u=Value.none from r);rfl
 |bl b=>cases (show u=Value.bool b from r);rfl
 |int i=>obtain⟨t,e⟩:=(show ∃t,u=Value.int i t from r);cases e;rfl
 |str x=>obtain⟨t,e⟩:=(show ∃t,u=Value.str x t from r);cases e;rfl
 |byt b=>obtain⟨t,e⟩:=(show ∃t,u=Value.bytes b t from r);cases e;rfl
 |flt b=>obtain⟨t,e⟩:=(show ∃t,u=Value.float b t from r);cases e;rfl
 |ref a=>cases (show u=Value.ref a from r);rfl
 |ty n=>cases (show u=Value.type n from r);rfl
section
variable{H H':Hp}{fs fs':List (Str×V)}
def Cm(cm:lV P w H h)(e:H a=some (.ins C dx fs)):∃mA,D_ h a dx C mA/\(∀f,ku (fs.lookup f) (mA f))/\PySem.Within mA (fs.map (·.1))/\fs.length<=1000/\H dx=some (.own a):=by obtain⟨d,z,ne,ob,mA,n,r,q⟩:=(show cS P w H h a (.ins C dx fs) from cm a _ e);exact⟨mA,⟨ob,n,ne⟩,r,q,z,d⟩
end
structure An(K:Γ)(C:Addr):Prop where
 pg:W.plainGet K C Str.empty=true
 hd:W.hasDictIn K C=true
 po:W.plainOver K C=true
 sa:W.findIn K (.ref C) "__setattr__"=some (some (.builtin "object.__setattr__"))
def An.get{K:Γ}{C:Addr}(c:An K C)(f:Str):W.plainGet K C f=true:=c.pg
def bD(K:Γ)(C:Addr)(f:Str):Prop:=W.findIn K (.ref C) f=some none
def bD.WV{K:Γ}{f:Str}(n:bD K C f):W.takerIn K C f=some none:=by unfold W.takerIn;rw[show W.findIn K (.ref C) f=some none from n];rfl
section
variable{X:Cx}{γ:qaa}{σ:St}{H:Hp}{s:Shared}{fs:List (Str×V)}{f:Str}{v:V}{E:qad}
def Ao{b:Bool}{Q:qad}(I:Inv X γ σ H s)(e:H a=some (.ins C dx fs))(c:An X.K C)(n:bD X.K C f)(l:fs.lookup f=some v)(h:∀u s',Inv X γ σ H s'->RelV v u->Q u s'):wpAny (model X.prog X.w) A (getAttr (.ref a) f b) Q E s:=by obtain⟨mA,O,r,_,_,_⟩:=Cm I.cm e;obtain⟨u,hu,ru⟩:=ku.some_of (v:=v) (o:=mA f) (by rw[<- l];exact r f);exact get_map I.sM O (c.get f) c.hd n hu (Eb ru) (h u _ (I.tok _) ru)
def Ap{y:V}{Q:Unit->Shared->Prop}(I:Inv X γ σ H s)(e:H a=some (.ins C dx fs))(c:An X.K C)(n:bD X.K C f)(hl:fs.length<1000)(ry:RelV y u)(h:∀s',Inv X γ σ (upd H a (.ins C dx (eA f y fs))) s'->Q () s'):wpAny (model X.prog X.w) A (setAttr (.ref a) f u) Q E s:=by
 obtain⟨mA,O,r,wi,_,ho⟩:=Cm I.cm e;have hz:(fs.map (·.1)).length<=sizeLine:=by rw[cu,ξ];omega
 refine LW I.sM O c.sa c.po n.WV c.hd wi hz λh' O' sb=>h _ ?_;have hd:∃o,h'.get? dx=some o:=let ⟨o,_,_,e',_⟩:=O'.ns;⟨o,e'⟩;refine I.write (x:=a) (e:=dx) (by rw[e];exact True.intro) (.inr ho) (λb q hb z=>(sb.2 b hb).trans z) hd ?_;refine⟨by rw[aB O.ne];exact ho,?_,O.ne,O'.obj,_,O'.ns,λg=>?_,λg hg=>?_⟩;have:=oW f y fs;omega;show ku ((eA f y fs).lookup g) (if g=f then some u else mA g);rw[oU];by_cases q:g=f;rw[ε q,ε q];exact ry;rw[ζ q,ζ q];exact r g;by_cases q:g=f;rw[q];exact (nS f y fs).1;refine (nS f y fs).2 g (wi g λz=>hg ?_);show (if g=f then some u else mA g)=none;rw[ζ q];exact z
def Inv.made(I:Inv X γ σ H s):Inv X γ σ (upd (upd H s.heap.objs.size (.own (s.heap.objs.size+1))) (s.heap.objs.size+1) (.ins C s.heap.objs.size []))
  {s with heap:=(s.heap.push W.emptyDict).push (W.instObj C s.heap.objs.size)}:=by
 have e1:(s.heap.push W.emptyDict).get? s.heap.objs.size=some W.emptyDict:=ph s.heap rfl;have e2:((s.heap.push W.emptyDict).push (W.instObj C s.heap.objs.size)).get? (s.heap.objs.size+1)=some (W.instObj C s.heap.objs.size):=by
  have:=ph (s.heap.push W.emptyDict) (o:=W.instObj C s.heap.objs.size) rfl
  rwa [Q2] at this
 have e3:(s.heap.push W.emptyDict).Ns s.heap.objs.size (λ_=>none):=⟨W.emptyDict,#[],_,e1,rfl,(λe he=>absurd he (by simp)),λ_=>rfl⟩;have I1:=I.laid (a:=s.heap.objs.size) (o:=.own (s.heap.objs.size+1)) (h':=s.heap.push W.emptyDict) (t':=s.toks) (λb u q=>jn _ q) (c9 _) ⟨_,e1⟩;refine I1.laid (a:=s.heap.objs.size+1) (o:=.ins C s.heap.objs.size []) (t':=s.toks) (λb u q=>jn _ q) (Nat.le_of_eq (Q2 _ _)) ?_;have ne:s.heap.objs.size≠s.heap.objs.size+1:=j7 (Cc _);refine⟨by rw[aB ne,aG],hY _,ne,e2,λ_=>none,(Heap.Ns1.of_empty e3).at λo q=>jn _ q,λ_=>True.intro,λy hy=>absurd rfl hy⟩
def LX{env:Env}{f:Str}{s:Shared}{Q:qad}(hb:attributeBase e f env (eval e env)=eval e env)(h:wpAny (model prog w) A (eval e env) (λo s₁=>wpAny (model prog w) A (getAttr o f true) Q E s₁) E s):wpAny (model prog w) A (eval (.Attribute e f pos) env) Q E s :=
 Attribute_any_ h (by rw[arm_eval_Attribute,hb])
end
def acX(K:Γ)(ta:TE)(f:Str):TE:=λσ H Q=>ta σ H λx H1=>∃a C dx fs v,x=.ref a/\H1 a=some (.ins C dx fs)/\An K C/\bD K C f/\fs.lookup f=some v/\Q v H1
noncomputable def acY(K:Γ)(ta tv:TE)(f:Str):TS:=λD σ H=>tv σ H λy H1=>ta σ H1 λx H2=>∃a C dx fs,x=.ref a/\H2 a=some (.ins C dx fs)/\An K C/\bD K C f/\fs.length<1000 /\
 D.nx σ (upd H2 a (.ins C dx (eA f y fs)))
section
variable{X:Cx}{value:Expr}{f:Str}{ta tv:TE}
def Aq(he:PE X e ta)(hb:attributeBase e f X.env (eval e X.env)=eval e X.env):PE X (.Attribute e f pos) (acX X.K ta f):=by intro γ s σ H Q I h;refine LX hb (ck (he γ s σ H _ I h) λu s1 ⟨x,H1,I1,rx,a,C,dx,fs,v,ex,ea,c,n,l,q⟩=>?_);subst ex;obtain rfl:u=Value.ref a:=rx;exact Ao I1 ea c n l λu' s2 I2 ru=>⟨v,H1,I2,ru,q⟩
def gn(ha:PE X o ta)(hv:PE X value tv)(hs:swapsWith value (some (.Attribute o f pos')) pos.line X.env=pure false):PS X (.Assign [.Attribute o f pos'] value pos) (acY X.K ta tv f):=by intro γ s σ H D I h;refine plainObj_wpAny_Assign_Attribute (ck (hv γ s σ H _ I h) λu s1 ⟨y,H1,I1,ry,q⟩=>ck (ha γ s1 σ H1 _ I1 q) λov s2 ⟨x,H2,I2,rx,a,C,dx,fs,ex,ea,c,n,l,q2⟩=>?_) hs;subst ex;obtain rfl:ov=Value.ref a:=rx;exact Ap I2 ea c n l ry λs3 I3=>⟨σ,_,I3,q2⟩
end
structure bG(k:Nat)(A:Around):Prop where
 hd:A.handled=none
 dp:A.depth+3 * k+5<recursionLimit
 un:A.units+16 * k+200<cLine
def bG.mono{k:Nat}(r:bG k A)(h:j<=k):bG j A:=⟨r.hd,by have:=r.dp;omega,by have:=r.un;omega⟩
def bG.deeper{k:Nat}(r:bG (k+1) A)(env:Env):bG k (A.deeper env) :=
 ⟨r.hd,by have:=r.dp;show A.depth+1+3 * k+5<_;omega,by have:=r.un;show A.units+3+16 * k+200<_;omega⟩
def Ar{us:Ψ}{kw:List (Str×Value)}:(A.under (.builtin "type.__call__" ⟨.ref C::us,kw⟩)).depth=A.depth+1:=by first|rfl|simp[Around.under,Code.weight,Code.isCreation,Code.isGuard,Code.isCaller,Code.frames,Code.isFrame,guardIds]
def As{us:Ψ}{kw:List (Str×Value)}:(A.under (.builtin "type.__call__" ⟨.ref C::us,kw⟩)).units=A.units+1:=by first|rfl|simp[Around.under,Code.cUnits,Code.frames,Code.isFrame]
def bG.make{k:Nat}(r:bG (k+1) A)(C:Addr)(us:Ψ)(kw:List (Str×Value)):bG k (A.under (.builtin "type.__call__" ⟨.ref C::us,kw⟩)) :=
 ⟨r.hd,by have:=r.dp;rw[Ar];omega,by have:=r.un;rw[As];omega⟩
def bG.depth{k:Nat}(r:bG k A):A.depth<recursionLimit:=by have:=r.dp;omega
def acZ:TA:=λ_ H Q=>Q [] H
def WW(ta:TE)(tr:TA):TA:=λσ H Q=>ta σ H λx H1=>tr σ H1 λxs H2=>Q (x::xs) H2
section
variable{X:Cx}{es:qap}{te:TE}{t:TA}
def dy:PA X [] acZ:=λ_ _ _ _ H Q I h=>Calls.spliced_nil ⟨[],H,I,.nil,h⟩
def bO(ha:PE X e te)(hr:PA X es t)(hs:starEach (e::es) X.env=(false,eval e X.env)::starEach es X.env:=by rfl):PA X (e::es) (WW te t):=by intro pos γ s σ H Q I h;rw[hs];show wpAny _ _ (spliced ((false,eval e X.env)::backTo pos (starEach es X.env))) _ _ s;refine QU (ck (ha γ s σ H _ I h) λu s1 ⟨x,H1,I1,r1,q1⟩=>?_);exact ck (hr pos γ s1 σ H1 _ I1 q1) λus s2 ⟨xs,H2,I2,r2,q2⟩=>⟨x::xs,H2,I2,.cons r1 r2,q2⟩
noncomputable def ac0(t:TA):TE:=λσ H Q=>t σ H λxs H1=>xs.length<=sizeLine/\∀p,H1 p=none->Q (.ref p) (upd H1 p (.tup xs))
noncomputable def ac1(t:TA):TE:=λσ H Q=>t σ H λxs H1=>xs.length<=sizeLine/\∀p,H1 p=none->Q (.ref p) (upd H1 p (.lst xs))
def Au{x1}(h:PA X es t):PE X (.Tuple es x1 pos) (ac0 t):=by intro γ s σ H Q I hq;refine wpAny_Tuple_spliced (ck (h pos γ s σ H _ I hq) λus s1 ⟨xs,H1,I1,r,z,q⟩=>⟨by rw[<- r.length];exact z,?_⟩);have hf:H1 s1.heap.objs.size=none:=I1.cm.fresh (c9 _);refine⟨.ref s1.heap.objs.size,upd H1 s1.heap.objs.size (.tup xs),I1.laid (t':=s1.toks) (λb u e=>jn _ e) (c9 _) ?_,rfl,q _ hf⟩;exact⟨z,us,r,⟨_,ph _ rfl,rfl,_,rfl⟩⟩
def Av(h:PA X es t):PE X (.List es pos) (ac1 t):=by intro γ s σ H Q I hq;refine wpAny_List_spliced (ck (h pos γ s σ H _ I hq) λus s1 ⟨xs,H1,I1,r,z,q⟩=>⟨by rw[<- r.length];exact z,?_⟩);have hf:H1 s1.heap.objs.size=none:=I1.cm.fresh (c9 _);refine⟨.ref s1.heap.objs.size,upd H1 s1.heap.objs.size (.lst xs),I1.laid (t':=s1.toks) (λb u e=>jn _ e) (c9 _) ?_,rfl,q _ hf⟩;exact⟨z,us,0,r,ph _ rfl⟩
end
abbrev Sp:=List V->Hp->VK->XK->Prop
abbrev Gi:=List Env->Hp->Shared->XK->qad
structure Aw(P:Program)(w:World)(K:Γ)(mg:qae)(base:Heap)(A:Around)(outer:List Env)(s:Shared)(H:Hp):Prop where
 frames:A.frames=some outer
 mod:Mod K mg base
 bs:∀b o,base.get? b=some o->s.heap.get? b=some o/\H b=none
 LG:base.objs.size<=s.heap.objs.size
 pq:s.heap.FunFrames base outer
 Rb:∀b∈Gh outer,H b=none
 cm:lV P w H s.heap
 bare:AllBare s.gens
def CE(outer:List Env)(P:Program)(w:World)(H:Hp)(s:Shared)(Q:VK)(u:Value)(s':Shared):Prop :=
 ∃v H',s'.os=s.os/\AllBare s'.gens/\Un (Gh outer) [] H H' s.heap s'.heap/\lV P w H' s'.heap/\RelV v u/\Q v H'
def CR(CX:Gi)(outer:List Env)(P:Program)(w:World)(H:Hp)(s:Shared)(Q:VK)(E:XK)(r:Result)(s':Shared):Prop :=
 match r with
 |.ok (.ret u)=>CE outer P w H s Q u s'
 |.ok _=>False
 |.error e=>CX outer H s E e s'
structure cD(P:Program)(w:World)(K:Γ)(mg:qae)(base:Heap)(CX:Gi)(k:Nat)(f:Addr)(fd:FuncData)(ps:ν)(sp:Sp):Prop where
 len:∀vs H Q E,sp vs H Q E->vs.length=ps.length
 run:∀(A:Around)(outer:List Env)(s:Shared)(H:Hp)(args:Args)(us:Ψ)(vs:List V)(Q:VK)(E:XK),bG k A->Aw P w K mg base A outer s H->BindsTo s fd args (ps.zip us)->Vals vs us->sp vs H Q E ->
  codeAny (model P w) A (.call (.ref f) args) (CR CX outer P w H s Q E) s
def Aw.make{K:Γ}{mg:qae}{outer:List Env}{s:Shared}{H:Hp}(e:Aw P w K mg base A outer s H)(C:Addr)(us:Ψ)(kw:List (Str×Value)) :
 Aw P w K mg base (A.under (.builtin "type.__call__" ⟨.ref C::us,kw⟩)) outer s H:=⟨by first|exact e.frames|(simpa[Around.under,Code.envs,Code.isFrame,pushEnvs] using e.frames),e.mod,e.bs,e.LG,e.pq,e.Rb,e.cm,e.bare⟩
section
variable{X:Cx}{γ:qaa}{σ:St}{H:Hp}{s:Shared}
def Inv.WX(I:Inv X γ σ H s):Aw X.prog X.w X.K X.mg X.base X.A X.stack s H :=
 ⟨I.ok.frames,I.ok.mod,I.bs,je I.ok.LG I.sz,I.stack,I.Cd,I.cm,I.bare⟩
def Inv.after{Q:VK}(I:Inv X γ σ H s)(h:CE X.stack X.prog X.w H s Q u s'):EP X γ σ Q u s':=by obtain⟨v,H',os,bare,un,cm,r,q⟩:=h;obtain⟨hh,g,d,t,os'⟩:=s';obtain rfl:os'=s.os:=os;exact⟨v,H',I.call (h':=hh) (g':=g) (d':=d) (t':=t) (ch:=[]) un cm bare (λb z=>absurd z (by simp)),r,q⟩
end
def WY(sp:Sp)(qk:List V)(E:XK)(t:TA):TE:=λσ H Q=>t σ H λvs H1=>sp (vs++qk) H1 Q E
noncomputable def WZ(C:Addr)(sp:Sp)(qk:List V)(E:XK)(t:TA):TE:=λσ H Q=>t σ H λvs H1=>∀x dx,H1 x=none->H1 dx=none->dx≠x ->
 sp (.ref x::(vs++qk)) (upd (upd H1 dx (.own x)) x (.ins C dx [])) (λv H2=>v=.aO/\Q (.ref x) H2) E
def Binds(K:Γ)(fd:FuncData)(ps:ν)(ds:Ψ):Prop :=
 ∀(s:Shared)(us:Ψ),K.In s.heap->(us++ds).length=ps.length->BindsTo s fd ⟨us,[]⟩ (ps.zip (us++ds))
def Binds.all{K:Γ}{ps:ν}(h:∀us:Ψ,us.length=ps.length->bindArgs fd ⟨us,[]⟩=pure (ps.zip us)):Binds K fd ps []:=λs us _ hl=>by rw[DX] at hl ⊢;exact .of_eq (h us hl)
def Passes(CX:Gi)(X:Cx)(E:XK):Prop:=∀(γ:qaa)(σ:St)(H:Hp)(s:Shared)(e:Value)(s':Shared),Inv X γ σ H s->CX X.stack H s E e s'->X.xe e s'
section
variable{X:Cx}{CX:Gi}{k:Nat}{ps:ν}{sp:Sp}{qk:List V}{ds:Ψ}{E:XK}{m:Str}{es:qap}{ta:TE}{t:TA}
def Ax{γ:qaa}{σ:St}{H:Hp}{s:Shared}{Q:VK}{us:Ψ}{vs:List V}(F:cD X.prog X.w X.K X.mg X.base CX k f fd ps sp)(hr:bG k X.A)(hb:Binds X.K fd ps ds)(hd:Vals qk ds)(hx:Passes CX X E)(I:Inv X γ σ H s)(r:Vals vs us)(h:sp (vs++qk) H Q E):wpAny (model X.prog X.w) X.A (call (.ref f) us) (EP X γ σ Q) X.xe s:=by
 have r2:Vals (vs++qk) (us++ds):=r.append hd;have hl:(us++ds).length=ps.length:=by rw[<- r2.length];exact F.len _ _ _ _ h
 refine wpAny_call (codeAny_mono (F.run X.A X.stack s H ⟨us,[]⟩ (us++ds) (vs++qk) Q E hr I.WX (hb s us I.sM hl) r2 h) λr s' hq=>?_);cases r with
 |error e=>exact hx γ σ H s e s' I hq
 |ok fl=>
  cases fl with
  |ret u=>exact I.after hq
  |_=>exact False.elim hq
def j9(F:cD X.prog X.w X.K X.mg X.base CX k f fd ps sp)(hr:bG k X.A)(hg:Gl X x)(hm:X.mg x=some (.ref f))(hk:W.keepIn X.K (.ref f)=true)(hb:Binds X.K fd ps ds)(hd:Vals qk ds)(hx:Passes CX X E)(ha:PA X (e::es) t)(l_:iq x:=by decide)(he:starEach (e::es) X.env=(false,eval e X.env)::starEach es X.env:=by rfl)(gO:(backTo pos (starEach es X.env)).any (·.1)=false:=by rfl) :
  PE X (.Call (.Name x p) (e::es) [] pos) (WY sp qk E t):=by
 intro γ s σ H Q I h;refine aaf (uO I hg hm ?_ l_);refine ZY (h₀:=X.base) I.ok.mod.Vu hk (ck (ha pos γ s σ H _ I h) λus s1 ⟨vs,H1,I1,r,q⟩=>⟨I1.sM,?_⟩) he gO;exact Ax F hr hb hd hx I1 r q
structure Mk(K:Γ)(C f:Addr):Prop where
 makes:W.makesIn K C=true
 init:W.findIn K (.ref C) "__init__"=some (some (.ref f))
 fn:W.isFn K (.ref f)=true
 kp:W.keepIn K (.ref C)=true
theorem GU{γ:qaa}{σ:St}{H:Hp}{s:Shared}{Q:VK}{us:Ψ}{vs:List V}(M:Mk X.K C f)(F:cD X.prog X.w X.K X.mg X.base CX k f fd ps sp)(hr:bG (k+1) X.A)(hb:Binds X.K fd ps ds)(hd:Vals qk ds)(hx:Passes CX X E)(I:Inv X γ σ H s)(r:Vals vs us)(h:∀x dx,H x=none->H dx=none->dx≠x->sp (.ref x::(vs++qk)) (upd (upd H dx (.own x)) x (.ins C dx [])) (λv H2=>v=.aO/\Q (.ref x) H2) E) :
  wpAny (model X.prog X.w) X.A (call (.ref C) us) (EP X γ σ Q) X.xe s:=by
 have hq:=h (s.heap.objs.size+1) s.heap.objs.size (I.cm.fresh (Vt _)) (I.cm.fresh (c9 _)) (j7 (Cc _));have I2:=Inv.made (C:=C) I;have r2:Vals (V.ref (s.heap.objs.size+1)::(vs++qk)) (Value.ref (s.heap.objs.size+1)::(us++ds)):=.cons rfl (r.append hd);have hl:(Value.ref (s.heap.objs.size+1)::us++ds).length=ps.length:=by have e:=r2.length;rw[F.len _ _ _ _ hq] at e;exact e.symm
 refine wpAny_call (GS (f:=f) I.sM M.makes M.init (aao.mp M.fn) (codeAny_mono (F.run _ X.stack _ _ ⟨Value.ref (s.heap.objs.size+1)::us,[]⟩ (Value.ref (s.heap.objs.size+1)::(us++ds)) _ _ E (hr.make C us [])
  (I2.WX.make C us []) (hb _ (Value.ref (s.heap.objs.size+1)::us) I2.sM hl) r2 hq) λr s' eS=>?_))
 cases r with
 |error e=>exact hx γ σ _ _ e s' I2 eS
 |ok fl=>
   cases fl with
   |ret u=>obtain⟨v,H',I3,rv,ev,q3⟩:=I2.after eS;subst ev;exact⟨rv,⟨V.ref (s.heap.objs.size+1),H',I3,rfl,q3⟩⟩
   |_=>exact False.elim eS
def uT(M:Mk X.K C f)(F:cD X.prog X.w X.K X.mg X.base CX k f fd ps sp)(hr:bG (k+1) X.A)(hg:Gl X x)(hm:X.mg x=some (.ref C))(hb:Binds X.K fd ps ds)(hd:Vals qk ds)(hx:Passes CX X E)(ha:PA X (e::es) t)(l_:iq x:=by decide)(he:starEach (e::es) X.env=(false,eval e X.env)::starEach es X.env:=by rfl)(gO:(backTo pos (starEach es X.env)).any (·.1)=false:=by rfl) :
  PE X (.Call (.Name x p) (e::es) [] pos) (WZ C sp qk E t):=by
 intro γ s σ H Q I h;refine aaf (uO I hg hm ?_ l_);refine ZY (h₀:=X.base) I.ok.mod.Vu M.kp (ck (ha pos γ s σ H _ I h) λus s1 ⟨vs,H1,I1,r,q⟩=>⟨I1.sM,?_⟩) he gO;exact GU M F hr hb hd hx I1 r q
end
section
variable{X:Cx}{CX:Gi}{k:Nat}{ps ks:ν}{sp:Sp}{E:XK}{m:Str}{ac2:Pos}{es:qap}{kws:List Keyword}{te ta:TE}{t tk:TA}{nm:Option Str}
variable{g:Ψ->Ψ->Ψ}{gV:List V->List V->List V}
end
structure az(N P:ν)(sc:Scope):Prop where
 kind:sc.kind=.function
 co:sc.isCoroutine=false
 gen:sc.isGenerator=false
 nd:N.Nodup
 pre:N.take P.length=P
 par:∀x∈P,sc.names.lookup x=some .local\/sc.names.lookup x=some .cell
 RF:∀y∈sc.names,y.2≠.free
def fD{N P:ν}(a:sc.kind=.function:=by rfl)(b:sc.isCoroutine=false:=by rfl)(c:sc.isGenerator=false:=by rfl)(d:N.Nodup:=by decide +kernel)(e:N.take P.length=P:=by rfl)(f:∀x∈P,sc.names.lookup x=some .local\/sc.names.lookup x=some .cell:=by decide +kernel)(g:∀y∈sc.names,y.2≠.free:=by decide +kernel):az N P sc:=⟨a,b,c,d,e,f,g⟩
theorem t5{kindOf:Str->Option NameKind}{x:Str}:∀{binds:List (Str×Value)}{m:qae},(∀v,(x,v)∉binds)->bindL kindOf binds m x=m x
 |[],_,_=>rfl
 | (n,v)::r,m,h=>by
  unfold bindL;rw[t5 λw hw=>h w (gT _ hw)];split;have:x≠n:=by rintro rfl;exact h v dD
  simp[this];rfl
theorem t6{kindOf:Str->Option NameKind}{x:Str}:∀{binds:List (Str×Value)}{m:qae},(∀v,(x,v)∉binds)->bindC kindOf binds m x=m x
 |[],_,_=>rfl
 | (n,v)::r,m,h=>by
  unfold bindC;rw[t6 λw hw=>h w (gT _ hw)];split;rfl;have:x≠n:=by rintro rfl;exact h v dD
  simp[this]
theorem t7{kindOf:Str->Option NameKind}{x:Str}{v:Value}:∀{P:ν}{vs:Ψ}{i:Nat}{m:qae},P.Nodup->P[i]?=some x->vs[i]?=some v->kindOf x=some .local ->
  bindL kindOf (P.zip vs) m x=some v
 |[],_,_,_,_,h,_,_=>by simp at h
 |_::_,[],_,_,_,_,h,_=>by simp at h
 |p::P,w::vs,0,m,nd,h1,h2,hk=>by simp at h1 h2;subst h1;subst h2;show bindL kindOf ((p,w)::P.zip vs) m p=_;unfold bindL;rw[t5 λv hv=>(lU.mp nd).1 (List.of_mem_zip hv).1,ε hk];simp
 |p::P,w::vs,i+1,m,nd,h1,h2,hk=>by show bindL kindOf ((p,w)::P.zip vs) m x=_;unfold bindL;exact t7 (i:=i) (lU.mp nd).2 (by simpa using h1) (by simpa using h2) hk
theorem t8{kindOf:Str->Option NameKind}{x:Str}{v:Value}:∀{P:ν}{vs:Ψ}{i:Nat}{m:qae},P.Nodup->P[i]?=some x->vs[i]?=some v->kindOf x≠some .local ->
  bindC kindOf (P.zip vs) m x=some v
 |[],_,_,_,_,h,_,_=>by simp at h
 |_::_,[],_,_,_,_,h,_=>by simp at h
 |p::P,w::vs,0,m,nd,h1,h2,hk=>by simp at h1 h2;subst h1;subst h2;show bindC kindOf ((p,w)::P.zip vs) m p=_;unfold bindC;rw[t6 λv hv=>(lU.mp nd).1 (List.of_mem_zip hv).1,ζ hk];simp
 |p::P,w::vs,i+1,m,nd,h1,h2,hk=>by show bindC kindOf ((p,w)::P.zip vs) m x=_;unfold bindC;exact t8 (i:=i) (lU.mp nd).2 (by simpa using h1) (by simpa using h2) hk
noncomputable def start(N:ν)(vs:List V):St:=vs.map some++List.replicate (N.length-vs.length) none
noncomputable def fN(CX:Gi)(P:Program)(w:World)(K:Γ)(mg:qae)(base:Heap)(N:ν)(qual:Str)(scope:Scope)(f:Addr)(cd:Value)(A:Around)(outer:List Env)(s:Shared)(H:Hp)(E:XK):Cx where
 prog:=P
 w:=w
 K:=K
 mg:=mg
 base:=base
 A:=A.deeper (envOfC qual scope s.heap.objs.size f cd)
 N:=N
 s₀:=s
 H₀:=H
 env:=envOfC qual scope s.heap.objs.size f cd
 outer:=outer
 stack:=envOfC qual scope s.heap.objs.size f cd::outer
 ex:=[]
 calm:=true
 fn:=λ_=>true
 pn:=[]
 xe:=λe s'=>wpAny (model P w) (A.deeper (envOfC qual scope s.heap.objs.size f cd)) (leaving (envOfC qual scope s.heap.objs.size f cd) e) (λ_ W0=>CX outer H s E e W0) (λe' W0=>CX outer H s E e' W0) s'
def xE(h:sc.names.lookup x=some .cell):∃c,(cellsFrom n sc.names []).lookup x=some c:=by have q:=W.cellsFrom_some sc.names n [] (.inl h);exact Option.isSome_iff_exists.mp q
def Ec{CX:Gi}{K:Γ}{mg:qae}{N ps:ν}{scope:Scope}{cd:Value}{outer:List Env}{s s1:Shared}{H:Hp}{E:XK}{us:Ψ}{vs:List V}(S:az N ps scope)(hd:A.handled=none)(e0:Aw P w K mg base A outer s H)(hl:vs.length=ps.length)(r:Vals vs us)(x:InCallC s s.heap.objs.size (bindL (envOfC qual scope s.heap.objs.size f cd).kindOf (ps.zip us) λ_=>none) (cellsFrom (s.heap.objs.size+1) scope.names []) (bindC (envOfC qual scope s.heap.objs.size f cd).kindOf (ps.zip us) λ_=>none) s1) :
  Inv (fN CX P w K mg base N qual scope f cd A outer s H E) [] (start N vs) H s1:=by
 have gO:ps.length<=N.length:=by have:=ψ List.length S.pre;rw[Z3] at this;omega
 obtain⟨h1,tk,rfl,hk⟩:=x.done;have W2:∀b:Addr,b∉(fN CX P w K mg base N qual scope f cd A outer s H E).ex:=λb z=>absurd (show b∈([]:υ) from z) (by simp);refine⟨⟨e0.mod,S.kind,rfl,rfl,c9 _,λy z c h1 h2=>?_,λy hy=>?_,λy c _ h=>?_,λ_=>hd,Around.frames_deeper e0.frames,.inr ⟨rfl,rfl⟩,λb z=>absurd z (W2 b),e0.bs,e0.LG,λb _ _=>W2 b,λb z=>absurd z (W2 b),e0.pq,e0.Rb⟩,
  rfl,e0.bare,Un.kept hk,⟨_,x.toInCall.ns,λi y v h1 h2 h3=>?_⟩,λy c h=>⟨_,x.cell y c h⟩,e0.cm.fresh (c9 _),λy c h=>?_,λp hp=>absurd (show p∈([]:qaa) from hp) (by simp),e0.cm.kept hk,?_⟩
 exact name_of_addr x.apart (Pa h1) (Pa h2);have hy:scope.names.lookup y=some .cell\/scope.names.lookup y=some .free:=hy;obtain hy|hy:=hy
 exact xE hy;exact absurd rfl (S.RF _ (Pa hy));exact Nat.le_of_lt (x.above y c (Pa h));have hi:i<vs.length:=by unfold start at h2;by_cases hi:i<vs.length;exact hi;rw[pf (by simpa using hi)] at h2;rw[DV] at h2;split at h2<;>cases h2
 have ha:vs[i]?=some v:=by
  unfold start at h2;rw[nK (by simpa using hi),iz] at h2;cases e:vs[i]? with
  |none=>rw[e] at h2;cases h2
  |some a=>rw[e] at h2;cases h2;rfl
 obtain⟨u,hu,rv⟩:=r.get ha;have hp:ps[i]?=some y:=by rw[<- S.pre,List.getElem?_take_of_lt (by omega)];exact h1
 have ndP:ps.Nodup:=by rw[<- S.pre];exact S.nd.sublist (List.take_sublist _ _)
 refine⟨u,rv,?_⟩;rcases S.par y (gM hp) with k|k
 exact .inl ⟨k,t7 ndP hp hu k⟩;obtain⟨c,e⟩:=xE (n:=s.heap.objs.size+1) k;refine .inr ⟨.inl k,c,e,?_⟩;have q:=x.cell y c e;rw[t8 ndP hp hu (by show scope.names.lookup y≠_;rw[k];decide)] at q;exact q;exact e0.cm.fresh (Nat.le_of_lt (x.above y c (Pa h)));unfold start;show _=N.length;rw[nL,cu,Ac];omega
theorem Po{CX:Gi}{K:Γ}{mg:qae}{k:Nat}{name:Str}{params:Arguments}{body:qaq}{scope:Scope}{dV kV doc pm bF ct oc:Value}{an od:qar}{Ed:Array (Option Value)}{N ps:ν}{sp:Sp}(lk:K.lookup f=some ⟨oc,od,.func (W.fnOf name qual params body scope dV kV doc pm an bF ct),Ed⟩)(gm:W.codeIn K bF qual=true)(S:az N ps scope)(len:∀vs H Q E,sp vs H Q E->vs.length=ps.length)(dF:∀(A:Around) (outer:List Env) (s:Shared) (H:Hp) (vs:List V) (Q:VK) (E:XK),bG k (A.deeper (envOfC qual scope s.heap.objs.size f bF))->sp vs H Q E ->
    ∃t,jf (fN CX P w K mg base N qual scope f bF A outer s H E) body t/\t {nx:=λ_ H'=>Q .aO H',rt:=Q} (start N vs) H) :
  cD P w K mg base CX (k+1) f (W.fnOf name qual params body scope dV kV doc pm an bF ct) ps sp:=by
 refine⟨len,λA outer s H args us vs Q E hr e0 hb r Lm=>?_⟩;have hl:=len _ _ _ _ Lm;have KX:K.In s.heap:=e0.mod.Vu.keeps λb o e=>(e0.bs b o e).1;have lim:s.heap.NoLimit:=e0.mod.nolimit.keeps λb o e=>(e0.bs b o e).1;have W3:∀y∈ps.zip us,scope.names.lookup y.1=some .local\/(scope.names.lookup y.1=some .cell/\((cellsFrom (s.heap.objs.size+1) scope.names []).lookup y.1).isSome=true):=λ⟨n,v⟩ hy=>by
  rcases S.par n (List.of_mem_zip hy).1 with q|q
  exact .inl q;exact .inr ⟨q,W.cellsFrom_some _ _ _ (.inl q)⟩
 refine codeAny_call_function hr.depth (KX _ _ lk) rfl S.co S.gen rfl (W.codeRec_of KX gm) (hb _ _ _ _ ?_);refine wpAny_newFunctionEnv_cells S.kind W3 λenv he s1 x=>?_;subst he;refine⟨lim.keeps x.toInCall.keep,codeAny_func ?_⟩;obtain⟨t,ht,hq⟩:=dF A outer s H vs Q E (hr.deeper _) Lm;have I:Inv (fN CX P w K mg base N qual scope f bF A outer s H E) [] (start N vs) H s1:=Ec S hr.hd e0 hl r x;refine ω (ht [] s1 (start N vs) H _ I hq) (λfl s' hs=>?_) λe s' hs=>hs;have fin:∀{σ':St}{H':Hp}{v:V}{u:Value},Inv (fN CX P w K mg base N qual scope f bF A outer s H E) [] σ' H' s'->RelV v u->Q v H'->CE outer P w H s Q u s' :=
  λ{σ' H' v u} J rv q=>⟨v,H',J.os,J.bare,J.base,J.cm,rv,q⟩
 cases fl with
 |ret u=>obtain⟨v,σ',H',J,rv,q⟩:=hs;exact fin J rv q
 |next=>obtain⟨σ',H',J,q⟩:=hs;exact fin (v:=V.aO) (u:=Value.none) J rfl q
 |brk=>obtain⟨_,_,_,q⟩:=hs;exact False.elim q
 |cont=>obtain⟨_,_,_,q⟩:=hs;exact False.elim q
section
variable{X:Cx}{es:qap}{t:TA}{id T:String}{r:List V->Hp->VK->Prop}
def tCB(r:List V->Hp->VK->Prop)(t:TA):TE:=λσ H Q=>t σ H λvs H1=>r vs H1 Q
def ql(hc:d_ X (.builtin id) r)(hg:Gl X x)(hm:X.mg x=none)(hv:bootBuiltins x=some (.builtin id))(ha:PA X (e::es) t)(hn:x≠"__name__":=by decide)(l_:iq x:=by decide)(he:starEach (e::es) X.env=(false,eval e X.env)::starEach es X.env:=by rfl)(gO:(backTo pos (starEach es X.env)).any (·.1)=false:=by rfl):PE X (.Call (.Name x p) (e::es) [] pos) (tCB r t):=by intro γ s σ H Q I h;refine aaf (nN I hg hm hv ?_ hn l_);exact PyProof.Rows.callWith_builtin1 (ck (ha pos γ s σ H _ I h) λus s1 ⟨vs,H1,I1,r1,q1⟩=>hc γ s1 σ H1 vs us Q I1 r1 q1) he gO
def Ee(hc:d_ X (.type T) r)(hg:Gl X x)(hm:X.mg x=none)(hv:bootBuiltins x=some (.type T))(ha:PA X (e::es) t)(hn:x≠"__name__":=by decide)(l_:iq x:=by decide)(he:starEach (e::es) X.env=(false,eval e X.env)::starEach es X.env:=by rfl)(gO:(backTo pos (starEach es X.env)).any (·.1)=false:=by rfl):PE X (.Call (.Name x p) (e::es) [] pos) (tCB r t):=by intro γ s σ H Q I h;refine aaf (nN I hg hm hv ?_ hn l_);exact ZP (ck (ha pos γ s σ H _ I h) λus s1 ⟨vs,H1,I1,r1,q1⟩=>hc γ s1 σ H1 vs us Q I1 r1 q1) he gO
end
end L2
variable{X:L2.Cx}{K:Γ}{H H':L2.Hp}{σ:L2.St}{v:L2.V}{E Q:qad}{mg:qae}{γ:qaa}{ps ys:ν}{es:qap}{fp Ox:υ}{te ta:L2.TE}{us:Ψ}{sp:L2.Sp}{is:qao}{ks:List L2.Key}{aQ:List (L2.Key×L2.V)}
abbrev qac:=List (PySem.Str×L2.V)
abbrev v9:=List L2.V
namespace HT
open PySem PyProof.Rows
section
open PySem.SeqAt
open PySem.AutoSeq1 (wpAny_loadPart')
open PySem.MeetsSeq PySem.MeetsSeq2 PySem.MeetsSeq3
end
section
variable{s:Shared}
def LY{t:Addr}{vs ws:Ψ}(ht:IsTup s.heap t vs.toArray)(hb:IsTup s.heap b ws.toArray)(hv:vs≠[])(h1:ws=[]->Q (.ref t) s)(h2:ws≠[]->Q (.ref s.heap.objs.size) {s with heap:=s.heap.push {cls:=.type "tuple",data:=.seq (vs++ws).toArray} })(hsz:vs.length+ws.length<=sizeLine):wpAny (model prog w) A (binaryOp .Add (.ref t) (.ref b)) Q E s:=by
 obtain⟨⟨cls,dd,data,sl⟩,ho,hc,n,hd⟩:=id ht;obtain⟨⟨W4,Vw,data2,Vx⟩,z6,Pp,n2,hd2⟩:=id hb;simp only at hc hd Pp hd2;subst hc hd Pp hd2;have e:vs.toArray++ws.toArray=(vs++ws).toArray:=by simp
 by_cases hw:ws=[];exact concat_meets ⟨_,ho,rfl⟩ ⟨_,z6,rfl⟩ noFill_tuple_add seq_tuple_add acr acn (ach _ _)
  (tuple_addW1 t b vs.toArray ws.toArray n n2 dd Vw sl Vx (by simpa using hv) (by simp[hw])) ⟨ho,z6,h1 hw⟩
 refine concat_meets ⟨_,ho,rfl⟩ ⟨_,z6,rfl⟩ noFill_tuple_add seq_tuple_add acr acn (ach _ _)
  (tuple_addW2 t b vs.toArray ws.toArray n n2 dd Vw sl Vx (by simpa using hv) (by simpa using hw) (by rw[jd,jd];exact hsz)) ⟨ho,z6,?_⟩
 rw[e];exact h2 hw
noncomputable def fj(n d:Nat):Option Int->Nat
 |none=>d
 |some v=>if v<0 then (v+(n:Int)).toNat else min v.toNat n
def GW(n d:Nat):fj n d none=d:=rfl
def LZ(n d k:Nat):fj n d (some (k:Int))=min k n:=by show (if (k:Int)<0 then ((k:Int)+(n:Int)).toNat else min (k:Int).toNat n)=min k n;rw[ζ (by omega),zY]
def RG(n d:Nat)(hd:d<=n)(o:Option Int):fj n d o<=n:=by
 cases o with
 |none=>exact hd
 |some v=>show (if v<0 then (v+(n:Int)).toNat else min v.toNat n)<=n;by_cases hv:v<0;rw[ε hv];omega;rw[ζ hv];exact Nat.min_le_right _ _
def Cn(v:Int)(n d:Nat):(if v<0 then max (v+(n:Int)) 0 else min v (n:Int))=((fj n d (some v):Nat):Int):=by show (if v<0 then max (v+(n:Int)) 0 else min v (n:Int))=(((if v<0 then (v+(n:Int)).toNat else min v.toNat n):Nat):Int);by_cases hv:v<0;simp only[ε hv];omega;simp only[ζ hv];omega
def Ay(lo hi:Option Int)(n:Nat):Builtin.Slice.sliceAdjust lo hi 1 (n:Int)=(((fj n 0 lo:Nat):Int),((fj n n hi:Nat):Int)):=by
 have h1:¬ ((1:Int)<0):=by omega
 unfold Builtin.Slice.sliceAdjust;simp only[h1,P1];refine Prod.ext ?_ ?_;cases lo with
 |none=>rfl
 |some v=>exact Cn v n 0
 cases hi with
 |none=>rfl
 |some v=>exact Cn v n n
def Az(i j:Nat):Builtin.Slice.slicePlaces (i:Int) (j:Int) 1=j-i:=by
 unfold Builtin.Slice.slicePlaces;have h1:(1:Int) > 0:=by omega
 simp only[h1,aan,Int.ediv_one];split<;>omega
def qm{v:Value}{o:Option Int}{Q:Option Int->Shared->Prop}(p:IsPart v o)(h:Q o s):wpAny (model prog w) A (Builtin.Slice.slicePartIndex v) Q E s:=by
 cases p with
 |none=>exact slicePart_none h
 |int i t=>exact slicePart_int h
def nT{sl:Addr}{vl vu:Value}{lo hi:Option Int}{Q:Int×Int×Nat->Shared->Prop}(hs:s.heap.IsSliceOf sl vl vu .none)(pl:IsPart vl lo)(pu:IsPart vu hi)(h:Q (((fj n 0 lo:Nat):Int),1,fj n n hi-fj n 0 lo) s):wpAny (model prog w) A (Builtin.Slice.sliceApplied (.ref sl) (pure (n:Int))) Q E s:=by obtain⟨os,W5,hcs,Z_⟩:=id hs;unfold Builtin.Slice.sliceApplied Builtin.Slice.sliceFields;refine δ (δ (aag W5 Z_ (x:=vl) rfl (δ (aag W5 Z_ (x:=vu) rfl (δ (aag W5 Z_ (x:=.none) rfl (η ?_)))))));refine δ (slicePart_none ?_);show wpAny _ _ (if ((1:Int)==0)=true then _ else _) _ _ s;rw[ζ (by decide)];refine δ (qm pl (δ (qm pu (δ (η ?_)))));show wpAny _ _ (match Builtin.Slice.sliceAdjust lo hi 1 (n:Int) with|(lo,hi)=>pure (lo,(1:Int),Builtin.Slice.slicePlaces lo hi 1)) _ _ s;rw[Ay lo hi n];show wpAny _ _ (pure (((fj n 0 lo:Nat):Int),(1:Int),Builtin.Slice.slicePlaces ((fj n 0 lo:Nat):Int) ((fj n n hi:Nat):Int) 1)) _ _ s;rw[Az];exact η h
def GX(xs:Array Value)(i k:Nat):((List.range k).filterMap λ(m:Nat)=>xs[((i:Int)+(m:Int) * 1).toNat]?).toArray=((xs.toList.drop i).take k).toArray:=by
 have e:(λ(m:Nat)=>xs[((i:Int)+(m:Int) * 1).toNat]?)=λm=>xs[i+m]?:=by
  funext m;have:((i:Int)+(m:Int) * 1).toNat=i+m:=by omega
  rw[this]
 rw[e];have:=pick_run xs i k;rw[ZZ] at this;have e2:((λx=>xs[x]?) ∘ λx=>i+x)=λm=>xs[i+m]?:=rfl;rw[e2] at this;rw[this]
def ma{t sl:Addr}{items:Array Value}{vl vu:Value}{lo hi:Option Int}(ht:IsTup s.heap t items)(hs:s.heap.IsSliceOf sl vl vu .none)(pl:IsPart vl lo)(pu:IsPart vu hi)(hw:¬ (fj items.size 0 lo=0/\fj items.size items.size hi=items.size))(h:Q (.ref s.heap.objs.size) {s with heap:=s.heap.push {cls:=.type "tuple",data:=.seq ((items.toList.drop (fj items.size 0 lo)).take (fj items.size items.size hi-fj items.size 0 lo)).toArray} })(hsz:items.size<=sizeLine):wpAny (model prog w) A (getItem (.ref t) (.ref sl)) Q E s:=by
 have Co:sizeOk (.seq ((items.toList.drop (fj items.size 0 lo)).take (fj items.size items.size hi-fj items.size 0 lo)).toArray):=by show ((items.toList.drop (fj items.size 0 lo)).take (fj items.size items.size hi-fj items.size 0 lo)).toArray.size<=sizeLine;rw[jd,Z3,Wt,La];omega
 have hj:fj items.size items.size hi<=items.size:=RG _ _ (c9 _) hi;obtain⟨os,W5,hcs,Z_⟩:=id hs;have hTs:s.TypeIs (.ref sl) "slice":=⟨os,W5,hcs⟩;unfold getItem
 try with_reducible refine Φ ?_
 first|refine δ (η ?_)|skip
 refine δ (wpAny_sequenceKey ht.typeIs (by decide) ?_);refine δ (aah (name:=Str.ofString "__getitem__") ht.typeIs abZ
  (P2 abZ ht.typeIs entry_tuple_getitem ?_ (args_tuple_getitem _ _)))
 show wpAny _ _ (Builtin.Tuple.tupleItemsOf (.ref t) >>= _) _ _ s;refine δ (tupleItemsOf_ ht ?_);refine δ (wpAny_typeOf hTs ?_);rw[ε (by decide)];refine δ (nT hs pl pu ?_);have hno:¬ ((((fj items.size 0 lo:Nat):Int)==0 && (1:Int)==1 && (fj items.size items.size hi-fj items.size 0 lo)==items.size)=true):=by intro q;rw[lY,lY] at q;have q1:((fj items.size 0 lo:Nat):Int)=0:=eq_of_beq q.1.1;have q2:fj items.size items.size hi-fj items.size 0 lo=items.size:=eq_of_beq q.2;exact hw ⟨by omega,by omega⟩
 show wpAny _ _ (if (((fj items.size 0 lo:Nat):Int)==0 && (1:Int)==1 && (fj items.size items.size hi-fj items.size 0 lo)==items.size)=true then _ else _) _ _ s;rw[ζ hno,GX]
 first
  |exact δ (m:=Builtin.Tuple.tupleExact _) (Θ (η ⟨_,rfl,η h⟩) Co)
  |exact δ (m:=Builtin.Tuple.tupleExact _) (Θ (δ (η (η ⟨_,rfl,η h⟩))) Co)
  |exact δ (δ (m:=Builtin.Tuple.tupleExact _) (Θ (η (η ⟨_,rfl,η h⟩)) Co))
  |exact δ (δ (m:=Builtin.Tuple.tupleExact _) (Θ (η ⟨_,rfl,η h⟩) Co))
end
end HT
variable{vs xs:v9}
namespace L2
open PySem PySem.Spec PyProof.Rows
abbrev TO:=St->Hp->(Option Int->Hp->Prop)->Prop
def PO(X:Cx)(e:Option Expr)(t:TO):Prop :=
 ∀(γ:qaa)(s:Shared)(σ:St)(H:Hp)(Q:Option Int->Hp->Prop),Inv X γ σ H s->t σ H Q ->
  wpAny (model X.prog X.w) X.A (evalPart e X.env) (λu s'=>∃o H',Inv X γ σ H' s'/\IsPart u o/\Q o H') X.xe s
def L0:TO:=λ_ H Q=>Q none H
def W6(t:TE):TO:=λσ H Q=>t σ H λx H1=>∃i,x=.int i/\Q (some i) H1
def intsAre_of{ns:qan}:∀{us:Ψ},Vals (ns.map V.int) us->IntsAre us ns:=by
 induction ns with
 |nil=>intro us r;rw[Pe] at r;cases r;exact .nil
 |cons n ns ih=>
  intro us r;rw[gU] at r;cases r with
  |cons r1 r2=>obtain⟨t,e⟩:=r1;subst e;exact .cons n t (ih r2)
section
variable{lo hi:Option Expr}{tl th:TO}
def L1:PO X none L0:=by intro γ s σ H Q I h;rw[evalPart_none];exact η ⟨none,H,I,.none,h⟩
def L3(h:PE X e te):PO X (some e) (W6 te):=by intro γ s σ H Q I hw;rw[evalPart_some];refine ck (h γ s σ H _ I hw) λu s1 ⟨x,H1,I1,r1,q1⟩=>?_;obtain⟨i,rfl,q⟩:=q1;obtain⟨t,rfl⟩:=r1;exact⟨some i,H1,I1,.int i t,q⟩
def GY(X:Cx)(r:V->Option Int->Option Int->Hp->VK->Prop):Prop :=
 ∀(γ:qaa)(s:Shared)(σ:St)(H:Hp)(x:V)(v vl vu:Value)(lo hi:Option Int)(sl:Addr)(Q:VK),Inv X γ σ H s->RelV x v->s.heap.IsSliceOf sl vl vu .none->IsPart vl lo->IsPart vu hi->r x lo hi H Q ->
  ∃T id,typeLookup (.type T) "__getitem__"=pure (some (.builtin id))/\s.TypeIs v T/\wpAny (model X.prog X.w) X.A (getItem v (.ref sl)) (EP X γ σ Q) X.xe s
def GY.or{r r':V->Option Int->Option Int->Hp->VK->Prop}(h:GY X r)(h':GY X r'):GY X (λx lo hi H Q=>r x lo hi H Q\/r' x lo hi H Q):=by
 intro γ s σ H x v vl vu lo hi sl Q I rx hs pl pu q;obtain q|q:=q
 exact h γ s σ H x v vl vu lo hi sl Q I rx hs pl pu q;exact h' γ s σ H x v vl vu lo hi sl Q I rx hs pl pu q
def tSl(r:V->Option Int->Option Int->Hp->VK->Prop)(te:TE)(tl th:TO):TE:=λσ H Q=>te σ H λx H1=>tl σ H1 λl H2=>th σ H2 λu H3=>r x l u H3 Q
def GZ{r:V->Option Int->Option Int->Hp->VK->Prop}(hr:GY X r)(he:PE X e te)(hl:PO X lo tl)(hu:PO X hi th):PE X (.Subscript e (.Slice lo hi none p2) pos) (tSl r te tl th):=by intro γ s σ H Q I h;refine Subscript_ (ck (he γ s σ H _ I h) λv s1 ⟨x,H1,I1,r1,q1⟩=>?_);refine wpAny_Slice (ck (hl γ s1 σ H1 _ I1 q1) λvl s2 ⟨l,H2,I2,pl,q2⟩=>ck (hu γ s2 σ H2 _ I2 q2) λvu s3 ⟨u,H3,I3,pu,q3⟩=>?_);rw[evalPart_none];refine η ?_;have I4:Inv X γ σ H3 {s3 with heap:=s3.heap.push {cls:=.type "slice",data:=.fields #[vl,vu,.none]} }:=I3.kept (t':=s3.toks) λb ob q=>jn _ q;obtain⟨T,id,hT,ht,hg⟩:=hr γ {s3 with heap:=s3.heap.push {cls:=.type "slice",data:=.fields #[vl,vu,.none]} } σ H3 x v vl vu l u s3.heap.objs.size Q I4 r1 (Heap.IsSliceOf.new ..) pl pu q3;show wpAny (model X.prog X.w) X.A (subscriptTail e (.Slice lo hi none p2) v (.ref s3.heap.objs.size)) (EP X γ σ Q) X.xe {s3 with heap:=s3.heap.push {cls:=.type "slice",data:=.fields #[vl,vu,.none]} };exact tail_any (ops:=[.ref s3.heap.objs.size,v]) ht hT hg (by with_unfolding_all rfl)
noncomputable def xF(xs:v9)(lo hi:Option Int):v9:=(xs.drop (HT.fj xs.length 0 lo)).take (HT.fj xs.length xs.length hi-HT.fj xs.length 0 lo)
def oX(xs:v9)(lo hi:Option Int):(xF xs lo hi).length<=xs.length:=by unfold xF;rw[Z3,Wt];omega
def W7(K:Γ):V->Option Int->Option Int->Hp->VK->Prop:=λx lo hi H Q=>∃a xs,x=.ref a/\fB K H a xs /\
 ¬ (HT.fj xs.length 0 lo=0/\HT.fj xs.length xs.length hi=xs.length)/\∀p,H p=none->Q (.ref p) (upd H p (.tup (xF xs lo hi)))
def RH:GY X (W7 X.K):=by
 intro γ s σ H x v vl vu lo hi sl Q I rx hs pl pu h;obtain⟨a,xs,rfl,hx,hw,q⟩:=h;cases rx;obtain⟨aW,r,ht,hz⟩:=I.tuple hx;have hlen:aW.toArray.size=xs.length:=by rw[jd];exact r.length.symm
 refine⟨"tuple",_,abZ.lookup,ht.typeIs,?_⟩;refine HT.ma ht hs pl pu (by rw[hlen];exact hw) ?_ (by rw[hlen];exact hz);rw[hlen];refine⟨.ref s.heap.objs.size,_,I.laid (t':=s.toks) (o:=.tup (xF xs lo hi)) (λb ob q=>jn _ q) (c9 _) ?_,rfl,q _ (I.cm.fresh (c9 _))⟩;exact⟨je (oX xs lo hi) hz,_,(r.drop (HT.fj xs.length 0 lo)).take (HT.fj xs.length xs.length hi-HT.fj xs.length 0 lo),IsTup.new _ _⟩
def Vals.j_(r:Vals xs us):us=[]↔xs=[]:=by
 cases r with
 |_=>simp
end
noncomputable def xG(n:Nat)(i:Int):Option Nat:=if 0<=i then (if i<n then some i.toNat else none) else if -(n:Int)<=i then some (i+n).toNat else none
noncomputable def jg{α:Type}(xs:List α)(i:Int):Option α:=(xG xs.length i).bind λj=>xs[j]?
def Cp{i:Int}(h:xG n i=some j):seqIndex? i n=some j/\j<n/\-(n:Int)<=i/\i<n:=by unfold xG at h;by_cases h0:0<=i;rw[ε h0] at h;by_cases h1:i<n;rw[ε h1] at h;have e:i.toNat=j:=Option.some.inj h;exact⟨by rw[seqIndex_of h0 h1,e],by omega,by omega,h1⟩;rw[ζ h1] at h;cases h;rw[ζ h0] at h;by_cases h1 : -(n:Int)<=i;rw[ε h1] at h;have e:(i+n).toNat=j:=Option.some.inj h;exact⟨by rw[seqIndex_neg (by omega) h1,e],by omega,h1,by omega⟩;rw[ζ h1] at h;cases h
def uU{xs:List α}{i:Int}{v:α}(h:jg xs i=some v):∃j,seqIndex? i xs.length=some j/\xs[j]?=some v/\j<xs.length/\-(xs.length:Int)<=i/\i<xs.length:=by
 unfold jg at h;cases e:xG xs.length i with
 |none=>rw[e] at h;cases h
 |some j=>rw[e] at h;obtain⟨h1,h2,h3,h4⟩:=Cp e;exact⟨j,h1,h,h2,h3,h4⟩
def aw{xs:List α}{v:α}(h:xs[j]?=some v):jg xs (j:Int)=some v:=by
 have hj:j<xs.length:=(eE.mp h).1;have e:xG xs.length (j:Int)=some j:=by unfold xG;rw[ε (by omega),ε (by omega)];simp
 unfold jg;rw[e];exact h
theorem aat{a:α}{l:List α}:jg (a::l) 0=some a:=aw (j:=0) rfl
theorem aau{a b:α}{l:List α}:jg (a::b::l) 1=some b:=aw (j:=1) rfl
theorem aav{a b c:α}{l:List α}:jg (a::b::c::l) 2=some c:=aw (j:=2) rfl
theorem aaw{a b c d:α}{l:List α}:jg (a::b::c::d::l) 3=some d:=aw (j:=3) rfl
theorem aax{a b c d e:α}{l:List α}:jg (a::b::c::d::e::l) 4=some e:=aw (j:=4) rfl
def jr(xs:List α)(v:α):jg (xs++[v]) (-1)=some v:=by
 have hl:(xs++[v]).length=xs.length+1:=by simp
 have e:xG (xs++[v]).length (-1)=some xs.length:=by
  unfold xG;rw[hl,ζ (by decide),ε (by omega)]
  congr 1
  omega
 unfold jg;rw[e];show (xs++[v])[xs.length]?=some v;simp
def uV(b:Expr):Prop:=∀o i,subscripted b false o i=operate [o,i] (getItem o i)
def L4(X:Cx)(r:R2):Prop :=
 ∀(value slice:Expr)(γ:qaa)(s:Shared)(σ:St)(H:Hp)(x y:V)(v u:Value)(Q:VK),Inv X γ σ H s->RelV x v->RelV y u->r x y H Q ->
  subscripted slice false v u=operate [v,u] (getItem v u)->wpAny (model X.prog X.w) X.A (subscriptTail value slice v u) (EP X γ σ Q) X.xe s
def RJ(X:Cx)(id:String)(r:V->v9->Hp->VK->Prop):Prop :=
 ∀(γ:qaa)(s:Shared)(σ:St)(H:Hp)(x:V)(xs:v9)(v:Value)(us:Ψ)(Q:VK),Inv X γ σ H s->RelV x v->Vals xs us->r x xs H Q ->
  wpAny (model X.prog X.w) X.A (call (.builtin id) (v::us)) (EP X γ σ Q) X.xe s
section
variable{a b:Expr}{tb:TE}
def L4.or{r r':R2}(h:L4 X r)(h':L4 X r'):L4 X (λx y H Q=>r x y H Q\/r' x y H Q):=by
 intro value slice γ s σ H x y v u Q I rx ry q hs;obtain q|q:=q
 exact h value slice γ s σ H x y v u Q I rx ry q hs;exact h' value slice γ s σ H x y v u Q I rx ry q hs
def Pq{r:R2}(hr:L4 X r)(ha:PE X a ta)(hb:PE X b tb)(hs:uV b):PE X (.Subscript a b pos) (WO r ta tb):=by intro γ s σ H Q I h;exact Subscript_ (Rx ha hb I h λv u s2 x y H2 I2 rx ry q=>hr a b γ s2 σ H2 x y v u Q I2 rx ry q (hs _ _))
noncomputable def W8(K:Γ):R2:=λx y H Q=>∃p xs i v,x=.ref p/\y=.int i/\gN K H p xs/\jg xs i=some v/\Q v H
noncomputable def W9(K:Γ):R2:=λx y H Q=>∃p xs i v,x=.ref p/\y=.int i/\fB K H p xs/\jg xs i=some v/\Q v H
noncomputable def W_:R2:=λx y H Q=>∃z i c,x=.str z/\y=.int i/\z.length<=sizeLine/\jg z.cps.toList i=some c/\Q (.str ⟨#[c]⟩) H
def Cq:L4 X (W8 X.K):=by
 intro value slice γ s σ H x y v u Q I rx ry h hs;obtain⟨p,xs,i,z,rfl,rfl,hq,he,q⟩:=h;cases rx;obtain⟨t,rfl⟩:=ry;obtain⟨aW,r,pl,hz⟩:=I.list hq;obtain⟨j,h1,h2,h3,h4,h5⟩:=uU he;obtain⟨w,ew,rw'⟩:=r.get h2;have hl:=r.length;have hn:=nR;have fin:EP X γ σ Q w s:=⟨z,H,I,rw',q⟩;by_cases h0:0<=i;have hj:i.toNat=j:=by rw[seqIndex_of h0 h5] at h1;exact Option.some.inj h1
 exact item_listR pl.isList h0 (by omega) (by rw[hj];simpa using ew) fin hs;have hj:(i+(aW.toArray.size:Int)).toNat=j:=by rw[seqIndex_neg (by omega) h4] at h1;rw[jd,<- hl];exact Option.some.inj h1
 exact subscriptTail_builtinR (x:=w) pl.isList.typeIs slot_list_getitem.lookup
  (wpAny_getItem_list_neg (Q:=λr s'=>r=w/\EP X γ σ Q r s') pl.isList (by omega) (by rw[jd]<;>omega) (by omega) (by rw[hj];simpa using ew) ⟨rfl,fin⟩) hs
def RL:L4 X (W9 X.K):=by
 intro value slice γ s σ H x y v u Q I rx ry h hs;obtain⟨p,xs,i,z,rfl,rfl,hq,he,q⟩:=h;cases rx;obtain⟨t,rfl⟩:=ry;obtain⟨aW,r,pl,hz⟩:=I.tuple hq;obtain⟨j,h1,h2,h3,h4,h5⟩:=uU he;obtain⟨w,ew,rw'⟩:=r.get h2;have hl:=r.length;have hn:=nR;have fin:EP X γ σ Q w s:=⟨z,H,I,rw',q⟩;exact subscriptTail_builtinR (x:=w) pl.typeIs slot_tuple_getitem.lookup
  (getItem_tuple (j:=j) (Q:=λr s'=>r=w/\EP X γ σ Q r s') pl (by omega) (by omega) (by rw[jd,<- hl];exact h1) (by simpa using ew) ⟨rfl,fin⟩) hs
def RM:L4 X W_:=by
 intro value slice γ s σ H x y v u Q I rx ry h hs;obtain⟨z,i,c,rfl,rfl,hz,he,q⟩:=h;obtain⟨t,rfl⟩:=rx;obtain⟨t',rfl⟩:=ry;obtain⟨j,h1,h2,h3,h4,h5⟩:=uU he;have hl:z.cps.toList.length=z.length:=by simp[Str.length]
 rw[hl] at h1 h4 h5;have hn:=nR;exact tail_any (typeIs_str s z t) slot_str_getitem.lookup (getItem_str (c:=c) (by have e1:decide (i < -(2 ^ 63:Int))=false:=ι (by omega);have e2:decide (i ≥ 2 ^ 63)=false:=ι (by omega);rw[e1,e2,Bool.or_false]) (by rw[h1];simpa using h2) ⟨.str ⟨#[c]⟩,H,I.tok _,⟨_,rfl⟩,q⟩) hs
noncomputable def rIx(K:Γ):R2:=λx y H Q=>W8 K x y H Q\/W9 K x y H Q\/W_ x y H Q
def RN:L4 X (rIx X.K):=Cq.or (RL.or RM)
def AA(aW:Ψ)(n j:Nat)(u:Value):Obj.mapSeq (·.setIfInBounds j u) {cls:=.type "list",data:=.seq aW.toArray n}={cls:=.type "list",data:=.seq (aW.set j u).toArray n}:=by simp[Obj.mapSeq]
def Inv.lst{s:Shared}{p:Addr}(I:Inv X γ σ H s)(h:H p=some (.lst xs)) :
  ∃(aW:Ψ)(n:Nat),Vals xs aW/\s.heap.get? p=some {cls:=.type "list",data:=.seq aW.toArray n}/\xs.length<=sizeLine:=by
 obtain⟨z,aW,n,r,e⟩:=I.cm p _ h;exact⟨aW,n,r,e,z⟩
def Inv.RO{s:Shared}{p:Addr}{ys:v9}{aW its':Ψ}{n':Nat}{f:Obj->Obj}(I:Inv X γ σ H s)(h:H p=some (.lst xs))(ho:s.heap.get? p=some {cls:=.type "list",data:=.seq aW.toArray n})(hf:f {cls:=.type "list",data:=.seq aW.toArray n}={cls:=.type "list",data:=.seq its'.toArray n'})(r:Vals ys its')(hz:ys.length<=sizeLine)(t:Nat) :
  Inv X γ σ (upd H p (.lst ys)) {s with heap:=s.heap.update p f,toks:=t}:=by
 have e:(s.heap.update p f).get? p=some {cls:=.type "list",data:=.seq its'.toArray n'}:=by rw[Heap.get?_update_self f ho (by rw[hf]<;>rfl),hf]
 refine I.write (x:=p) (e:=p) (by rw[h];trivial) (.inl rfl) (λb u hb q=>(Heap.get?_update_other _ _ (Ne.symm hb)).trans q) ⟨_,e⟩ ?_;exact⟨hz,its',n',r,e⟩
def W':V->V->V->Hp->(Hp->Prop)->Prop:=λo i v H Q=>∃p xs k j,o=.ref p/\i=.int k/\H p=some (.lst xs)/\xG xs.length k=some j/\Q (upd H p (.lst (xs.set j v)))
def set_list:WI X W':=by
 intro γ s σ H o i v ov iv u Q I ro ri rv h;obtain⟨p,xs,k,j,rfl,rfl,hp,hj,q⟩:=h;cases ro;obtain⟨t,rfl⟩:=ri;obtain⟨aW,n,r,ho,hz⟩:=I.lst hp;obtain⟨h1,h2,h3,h4⟩:=Cp hj;have hl:=r.length;have hn:=nR;have I':Inv X γ σ (upd H p (.lst (xs.set j v))) {s with heap:=s.heap.update p (Obj.mapSeq (·.setIfInBounds j u))} :=
  I.RO hp ho (AA aW n j u) (r.set rv j) (by rw[QY];exact hz) s.toks
 by_cases h0:0<=k;have hk:k.toNat=j:=by rw[seqIndex_of h0 h4] at h1;exact Option.some.inj h1
 exact W.ki_setAt ho h0 (by omega) (by rw[jd,<- hl];exact h4) (by rw[hk];exact⟨_,I',q⟩);have hk:(k+(aW.toArray.size:Int)).toNat=j:=by rw[seqIndex_neg (by omega) h3] at h1;rw[jd,<- hl];exact Option.some.inj h1
 exact W.ki_setBack ho (by omega) (by rw[jd,<- hl];exact h3) (by omega) (by rw[hk];exact⟨_,I',q⟩)
def uW(lo hi:Option Int)(n:Nat):(sliceBounds lo hi none n).1=((HT.fj n 0 lo:Nat):Int)/\(sliceBounds lo hi none n).2.1=((HT.fj n n hi:Nat):Int)/\(sliceBounds lo hi none n).2.2=1:=by
 refine⟨?_,?_,rfl⟩;cases lo with
 |none=>simp[sliceBounds,HT.fj]
 |some i=>simp only[sliceBounds,HT.fj,Option.getD_none,show (1:Int) > 0 by decide,aan];by_cases h:i<0;simp only[h,aan]<;>omega;simp only[h,P1]<;>omega
 cases hi with
 |none=>simp[sliceBounds,HT.fj]
 |some i=>simp only[sliceBounds,HT.fj,Option.getD_none,show (1:Int) > 0 by decide,aan];by_cases h:i<0;simp only[h,aan]<;>omega;simp only[h,P1]<;>omega
def sP(aW:Ψ)(lo hi:Option Int):slicePick aW.toArray lo hi none=((aW.drop (HT.fj aW.length 0 lo)).take (HT.fj aW.length aW.length hi-HT.fj aW.length 0 lo)).toArray:=by obtain⟨h1,h2,h3⟩:=uW lo hi aW.toArray.size;unfold slicePick;rw[h1,h2,h3];simp only[sliceRange_one,pick_run,jd]<;>rfl
def Xa(K:Γ):V->Option Int->Option Int->Hp->VK->Prop:=λx lo hi H Q=>∃a xs,x=.ref a/\gN K H a xs/\∀p,H p=none->Q (.ref p) (upd H p (.lst (xF xs lo hi)))
def L5:GY X (Xa X.K):=by intro γ s σ H x v vl vu lo hi sl Q I rx hs pl pu h;obtain⟨a,xs,rfl,hx,q⟩:=h;cases rx;obtain⟨aW,r,ht,hz⟩:=I.list hx;have hlen:=r.length;refine⟨"list",_,slot_list_getitem.lookup,ht.isList.typeIs,?_⟩;refine wpAny_getItem_list_slice ht.isList hs pl pu .none (by simp) ?_ (by rw[jd]<;>omega);rw[sP,<- hlen];refine⟨.ref s.heap.objs.size,_,I.laid (t':=s.toks) (o:=.lst (xF xs lo hi)) (λb ob q=>jn _ q) (c9 _) ?_,rfl,q _ (I.cm.fresh (c9 _))⟩;exact⟨je (oX xs lo hi) hz,_,0,(r.drop (HT.fj xs.length 0 lo)).take (HT.fj xs.length xs.length hi-HT.fj xs.length 0 lo),ph _ rfl⟩
noncomputable def jt:V->Bool
 |.aO=>true
 |.bl _=>true
 |.int _=>true
 |.str _=>true
 |_=>false
noncomputable def Ln:V->V->Bool
 |.aO,.aO=>true
 |.bl a,.bl b=>a==b
 |.bl a,.int b=>(if a then 1 else 0)==b
 |.int a,.bl b=>a==(if b then 1 else 0)
 |.int a,.int b=>a==b
 |.str a,.str b=>a==b
 |_,_=>false
def RP{s:Shared}{y x:V}{v:Value}(ry:RelV y u)(rx:RelV x v)(fy:jt y=true)(fx:jt x=true):SeqAt.EqAt A s u v (Ln y x):=by
 cases y with
 |aO=>
  cases ry;cases x with
  |aO=>cases rx;exact SeqAt.EqAt.same _
  |bl b=>cases rx;exact SeqAt.EqAt.none_bool b
  |int b=>obtain⟨t,rfl⟩:=rx;exact SeqAt.EqAt.none_int b t
  |str b=>obtain⟨t,rfl⟩:=rx;exact SeqAt.EqAt.none_str b t
  |_=>exact absurd (show false=true from fx) iM
 |bl a=>
  cases ry;cases x with
  |aO=>cases rx;exact SeqAt.EqAt.bool_none a
  |bl b=>cases rx;exact SeqAt.EqAt.bool_bool a b
  |int b=>obtain⟨t,rfl⟩:=rx;exact SeqAt.EqAt.bool_int a b t
  |str b=>obtain⟨t,rfl⟩:=rx;exact SeqAt.EqAt.bool_str a b t
  |_=>exact absurd (show false=true from fx) iM
 |int a=>
  obtain⟨t',rfl⟩:=ry;cases x with
  |aO=>cases rx;exact SeqAt.EqAt.int_none a t'
  |bl b=>cases rx;exact SeqAt.EqAt.int_bool a t' b
  |int b=>obtain⟨t,rfl⟩:=rx;exact SeqAt.EqAt.int_int a t' b t
  |str b=>obtain⟨t,rfl⟩:=rx;exact SeqAt.EqAt.int_str a t' b t
  |_=>exact absurd (show false=true from fx) iM
 |str a=>
  obtain⟨t',rfl⟩:=ry;cases x with
  |aO=>cases rx;exact SeqAt.EqAt.str_none a t'
  |bl b=>cases rx;exact SeqAt.EqAt.str_bool a t' b
  |int b=>obtain⟨t,rfl⟩:=rx;exact SeqAt.EqAt.str_int a t' b t
  |str b=>obtain⟨t,rfl⟩:=rx;exact SeqAt.EqAt.str_str a t' b t
  |_=>exact absurd (show false=true from fx) iM
 |_=>exact absurd (show false=true from fy) iM
noncomputable def AB(x:V)(u:Value):Bool:=match u with
 |.none=>Ln .aO x
 |.bool b=>Ln (.bl b) x
 |.int i _=>Ln (.int i) x
 |.str z _=>Ln (.str z) x
 |_=>false
def G0{x y:V}(r:RelV y u)(f:jt y=true):AB x u=Ln y x:=by
 cases y with
 |aO=>cases r;rfl
 |bl b=>cases r;rfl
 |int i=>obtain⟨t,rfl⟩:=r;rfl
 |str z=>obtain⟨t,rfl⟩:=r;rfl
 |_=>exact absurd (show false=true from f) iM
theorem md{x:V}:∀{xs:v9}{us:Ψ},Vals xs us->xs.all jt=true->us.any (AB x)=xs.any λy=>Ln y x
 |_,_,.nil,_=>rfl
 |y::xs,u::us,.cons r t,f=>by rw[List.all_cons,lY] at f;rw[LC,LC,G0 r f.1,md t f.2]
theorem ju{A:Around}{s:Shared}{x:V}{v:Value}(rx:RelV x v)(fx:jt x=true):∀{xs:v9}{us:Ψ},Vals xs us->xs.all jt=true->∀u∈us,SeqAt.EqAt A s u v (AB x u)
 |_,_,.nil,_=>λu hu=>by cases hu
 |y::xs,u::us,.cons r t,f=>λu' hu=>by
  rw[List.all_cons,lY] at f;rcases c0.mp hu with rfl|hu
  rw[G0 r f.1];exact RP r rx f.1 fx;exact ju rx fx t f.2 u' hu
noncomputable def inV(x:V)(xs:v9):Bool:=xs.any λy=>Ln y x
noncomputable def rIn(K:Γ)(neg:Bool):R2:=λx y H Q=>∃p xs,y=.ref p/\(gN K H p xs\/fB K H p xs)/\jt x=true/\xs.all jt=true/\Q (.bl (if neg then !inV x xs else inV x xs)) H
def Ef:fS X (compareOp .In) (rIn X.K false):=by
 intro γ s σ H x y v u Q I rx ry h;obtain⟨p,xs,rfl,hq,fx,fs,q⟩:=h;cases ry;obtain hq|hq:=hq
 obtain⟨aW,r,pl,hz⟩:=I.list hq;refine SeqAt.in_listAt (AB x) pl.isList (λw hw=>ju rx fx r fs w (by simpa using hw)) ⟨.bl _,H,I,rfl,?_⟩;rw[show aW.toArray.any (AB x)=aW.any (AB x) by simp,md r fs];exact q;obtain⟨aW,r,pl,hz⟩:=I.tuple hq;refine SeqAt.in_tupleAt (AB x) pl (λw hw=>ju rx fx r fs w (by simpa using hw)) ⟨.bl _,H,I,rfl,?_⟩;rw[show aW.toArray.any (AB x)=aW.any (AB x) by simp,md r fs];exact q
def uX:fS X (compareOp .NotIn) (rIn X.K true):=by
 intro γ s σ H x y v u Q I rx ry h;obtain⟨p,xs,rfl,hq,fx,fs,q⟩:=h;cases ry;obtain hq|hq:=hq
 obtain⟨aW,r,pl,hz⟩:=I.list hq;refine SeqAt.notIn_listAt (AB x) pl.isList (λw hw=>ju rx fx r fs w (by simpa using hw)) ⟨.bl _,H,I,rfl,?_⟩;rw[show aW.toArray.any (AB x)=aW.any (AB x) by simp,md r fs];exact q;obtain⟨aW,r,pl,hz⟩:=I.tuple hq;refine SeqAt.notIn_tupleAt (AB x) pl (λw hw=>ju rx fx r fs w (by simpa using hw)) ⟨.bl _,H,I,rfl,?_⟩;rw[show aW.toArray.any (AB x)=aW.any (AB x) by simp,md r fs];exact q
def uY:fS X (compareOp .NotIn) (λx y H Q=>∃i j,x=.str i/\y=.str j/\Q (.bl (!(!(Builtin.Str.occurrences j i 0 j.length 1).isEmpty))) H):=by intro γ s σ H x y v u Q I rx ry h;obtain⟨i,j,rfl,rfl,q⟩:=h;obtain⟨t,rfl⟩:=rx;obtain⟨t',rfl⟩:=ry;exact notIn_str ⟨.bl _,H,I,rfl,q⟩
def uZ:d_ X (.builtin "len") (λxs H Q=>∃p ys,xs=[.ref p]/\(gN X.K H p ys\/fB X.K H p ys)/\Q (.int ys.length) H):=by
 intro γ s σ H xs us Q I r h;obtain⟨p,ys,rfl,hq,q⟩:=h;obtain⟨u,rfl,rx⟩:=vals1 r;cases rx;have hn:=nR;obtain hq|hq:=hq
 obtain⟨aW,r',pl,hz⟩:=I.list hq;have hlen:=r'.length;exact Calls.call_len_list pl.isList (by simp only[jd]<;>omega) ⟨.int ys.length,H,I.tok _,⟨s.toks+1,by rw[jd,hlen]⟩,q⟩;obtain⟨aW,r',pl,hz⟩:=I.tuple hq;have hlen:=r'.length;exact len_tuple pl (by simp only[jd]<;>omega) ⟨.int ys.length,H,I.tok _,⟨s.toks+1,by rw[jd,hlen]⟩,q⟩
def u_:d_ X (.builtin "len") (λxs H Q=>∃z,xs=[.str z]/\z.length<=sizeLine/\Q (.int z.length) H):=by intro γ s σ H xs us Q I r h;obtain⟨z,rfl,hz,q⟩:=h;obtain⟨u,rfl,t,rfl⟩:=vals1 r;have hn:=nR;exact len_str (by omega) ⟨.int z.length,H,I.tok _,⟨_,rfl⟩,q⟩
def d_.or{f:Value}{r r':v9->Hp->VK->Prop}(h:d_ X f r)(h':d_ X f r'):d_ X f (λxs H Q=>r xs H Q\/r' xs H Q):=by
 intro γ s σ H xs us Q I rs q;obtain q|q:=q
 exact h γ s σ H xs us Q I rs q;exact h' γ s σ H xs us Q I rs q
def iP:d_ X (.type "list") (λxs H Q=>∃p ys,xs=[.ref p]/\(gN X.K H p ys\/fB X.K H p ys)/\∀l,H l=none->Q (.ref l) (upd H l (.lst ys))):=by
 intro γ s σ H xs us Q I r h;obtain⟨p,ys,rfl,hq,q⟩:=h;obtain⟨u,rfl,rx⟩:=vals1 r;cases rx;have fin:∀(aW:Ψ),Vals ys aW->ys.length<=sizeLine->∀(h':Heap)(c':Nat),(∀b o',s.heap.get? b=some o'->h'.get? b=some o') ->
   h'.get? s.heap.objs.size=some {cls:=.type "list",dict:=none,data:=.seq aW.toArray c',slots:=#[]}->EP X γ σ Q (.ref s.heap.objs.size) {s with heap:=h'}:=λaW r' hz h' c' kp e=>
  ⟨.ref s.heap.objs.size,_,I.laid (t':=s.toks) kp (c9 _) (show cS X.prog X.w _ h' _ (.lst ys) from⟨hz,aW,c',r',e⟩),rfl,q _ (I.cm.fresh (c9 _))⟩
 obtain hq|hq:=hq
 obtain⟨aW,r',pl,hz⟩:=I.list hq;have hlen:=r'.length;obtain⟨o,ho,hc,n,hd⟩:=pl.isList;exact call_list_seq p (.inl rfl) ho hc hd (λh' c' kp e=>fin aW r' hz h' c' kp e) (by simp only[jd]<;>omega);obtain⟨aW,r',pl,hz⟩:=I.tuple hq;have hlen:=r'.length;obtain⟨o,ho,hc,n,hd⟩:=pl;exact call_list_seq p (.inr rfl) ho hc hd (λh' c' kp e=>fin aW r' hz h' c' kp e) (by simp only[jd]<;>omega)
def h7:d_ X (.type "tuple") (λxs H Q=>∃p ys,xs=[.ref p]/\((gN X.K H p ys/\∀l,H l=none->Q (.ref l) (upd H l (.tup ys)))\/(fB X.K H p ys/\Q (.ref p) H))):=by
 intro γ s σ H xs us Q I r h;obtain⟨p,ys,rfl,h⟩:=h;obtain⟨u,rfl,rx⟩:=vals1 r;cases rx;obtain⟨hq,q⟩|⟨hq,q⟩:=h
 obtain⟨aW,r',pl,hz⟩:=I.list hq;have hlen:=r'.length;refine call_tuple_list pl.isList (λh' kp=>?_) (by simp only[jd]<;>omega);have I1:Inv X γ σ H {s with heap:=h'}:=I.kept (t':=s.toks) kp;have I2:Inv X γ σ (upd H h'.objs.size (.tup ys)) {s with heap:=h'.push {cls:=.type "tuple",data:=.seq aW.toArray} } :=
  I1.laid (t':=s.toks) (λb o e=>jn _ e) (c9 _) (show cS X.prog X.w _ _ _ (.tup ys) from⟨hz,aW,r',IsTup.new _ _⟩)
 exact⟨.ref h'.objs.size,_,I2,rfl,q _ (I1.cm.fresh (c9 _))⟩;obtain⟨aW,r',pl,hz⟩:=I.tuple hq;exact call_tuple_same pl ⟨.ref p,H,I,rfl,q⟩
def tyV(K:Γ)(T:String)(x:V)(H:Hp):Prop:=match x with
 |.str _=>T="str"
 |.int _=>T="int"
 |.ref p=>(T="list"/\∃xs,gN K H p xs)\/(T="tuple"/\∃o,K.lookup p=some o/\o.cls=.type "tuple"/\o.dict=none) \/
  (T="dict"/\((∃aQ,H p=some (.dK aQ))\/∃aQ,H p=some (.dT aQ)))\/(T="set"/\∃S n,H p=some (.set S n))
 |_=>False
theorem G1{s:Shared}{T:String}{x:V}{v:Value}(I:Inv X γ σ H s)(r:RelV x v)(ty:tyV X.K T x H) :
  s.TypeIs v T/\∀a,v=.ref a->∃ob,s.heap.get? a=some ob/\ob.dict=none:=by
 cases x with
 |str z=>obtain⟨t,rfl⟩:=r;cases (show T="str" from ty);exact⟨typeIs_str s z t,λ_ e=>nomatch e⟩
 |int i=>obtain⟨t,rfl⟩:=r;cases (show T="int" from ty);exact⟨typeIs_int s i t,λ_ e=>nomatch e⟩
 |ref p=>
   cases r;obtain⟨rfl,xs,hq⟩|⟨rfl,o,hk,hc,hd⟩|⟨rfl,hk⟩|⟨rfl,S,n,hk⟩:=ty
   obtain⟨aW,_,pl,_⟩:=I.list hq;refine⟨pl.isList.typeIs,λa e=>?_⟩;cases e;obtain⟨o,n,e,c,hd,_⟩:=pl;exact⟨o,e,hd⟩;refine⟨⟨o,I.sM p o hk,hc⟩,λa e=>?_⟩;cases e;exact⟨o,I.sM _ o hk,hd⟩;have z:∃o,s.heap.get? p=some o/\o.ExactDict:=by
    obtain⟨aQ,hk⟩|⟨aQ,hk⟩:=hk
    obtain⟨_,_,_,_,o,_,_,e,ex,_⟩:=I.cm p _ hk;exact⟨o,e,ex⟩;obtain⟨_,_,_,_,o,_,_,e,ex,_⟩:=I.cm p _ hk;exact⟨o,e,ex⟩
   obtain⟨o,e,ex⟩:=z;refine⟨⟨o,e,ex.1⟩,λa e2=>?_⟩;cases e2;exact⟨o,e,ex.2.1⟩;obtain⟨o,_,_,_,e,ex,_⟩:=I.cm p _ hk;refine⟨⟨o,e,ex.1⟩,λa e2=>?_⟩;cases e2;exact⟨o,e,ex.2.1⟩
 |_=>exact False.elim ty
def ac3(K:Γ)(T:String)(r:V->v9->Hp->VK->Prop)(to:TE):TE:=λσ H Q=>to σ H λx H1=>tyV K T x H1/\r x [] H1 Q
def tBM(K:Γ)(T:String)(r:V->v9->Hp->VK->Prop)(to:TE)(t:TA):TE:=λσ H Q=>to σ H λx H1=>tyV K T x H1/\t σ H1 λxs H2=>r x xs H2 Q
variable{to:TE}{t:TA}{name:Str}{T id:String}{r:V->v9->Hp->VK->Prop}
def AD(pa:PlainAttrs T)(slot:Slot T name id)(RQ:typeOf (.builtin id)=pure (.type "method_descriptor"))(hm:RJ X id r)(ho:PE X o to)(eU:attributeBase o name X.env (eval o X.env)=eval o X.env:=by rfl)(eV:(apos.endLine==bj.line)=true:=by rfl):PE X (.Call (.Attribute o name apos) [] [] bj) (ac3 X.K T r to):=by intro γ s σ H Q I h;refine wpAny_Call_method0_late eU eV (ck (ho γ s σ H _ I h) λv s1 ⟨x,H1,I1,r1,ty,q1⟩=>?_);obtain⟨h1,h2⟩:=G1 I1 r1 ty;exact⟨T,id,pa,slot,RQ,h1,h2,Wm rfl (PySem.evalArgs_none (hm γ s1 σ H1 x [] v [] Q I1 r1 .nil q1))⟩
def xH(pa:PlainAttrs T)(slot:Slot T name id)(RQ:typeOf (.builtin id)=pure (.type "method_descriptor"))(hm:RJ X id r)(ho:PE X o to)(ha:PA X (e::es) t)(eU:attributeBase o name X.env (eval o X.env)=eval o X.env:=by rfl)(qo:((backTo bj (starEach (e::es) X.env)).all (λx=>!x.1) && (backToKw bj (keywordEach [] X.env)).all (λx=>x.1.isSome)
    && decide ((e::es).length+([]:List Keyword).length+(if ([]:List Keyword).isEmpty then 0 else 1)<30))=true:=by rfl)(eV:(apos.endLine==bj.line)=true:=by rfl)(hs:starEach (e::es) X.env=(false,eval e X.env)::starEach es X.env:=by rfl)(gp:(backTo bj (starEach es X.env)).any (·.1)=false:=by rfl) :
  PE X (.Call (.Attribute o name apos) (e::es) [] bj) (tBM X.K T r to t):=by
 intro γ s σ H Q I h;refine wpAny_Call_method_late eU qo eV rfl (ck (ho γ s σ H _ I h) λv s1 ⟨x,H1,I1,r1,ty,q1⟩=>?_);obtain⟨h1,h2⟩:=G1 I1 r1 ty;refine⟨T,id,pa,slot,RQ,h1,h2,?_⟩;have hA:=ha bj γ s1 σ H1 _ I1 q1;rw[hs] at hA ⊢;refine Wm (by show (false || (backTo bj (starEach es X.env)).any (·.1))=false;rw[gp]<;>rfl) (ZV ?_);exact ck hA λus s2 ⟨vs,H2,I2,r2,q2⟩=>hm γ s2 σ H2 x vs v us Q I2 r1 r2 q2
end
def MtM(X:Cx)(id:String)(r:V->v9->Hp->VK->Prop):Prop :=
 ∀(γ:qaa)(s:Shared)(σ:St)(H:Hp)(x:V)(xs:v9)(v:Value)(us:Ψ)(Q:VK),Inv X γ σ H s->RelV x v->Vals xs us->r x xs H Q ->
  wpAny (model X.prog X.w) X.A (call (.builtin id) (v::us)) (EP X γ σ Q) X.xe s
theorem Vals.one:∀{x:V}{us:Ψ},Vals [x] us->∃u,us=[u]/\RelV x u
 |_,_,.cons r .nil=>⟨_,rfl,r⟩
theorem Vals.zero:∀{us:Ψ},Vals [] us->us=[]
 |_,.nil=>rfl
def Vals.dropLast(h:Vals xs us):Vals xs.dropLast us.dropLast:=by
 induction h with
 |nil=>exact .nil
 |cons r t ih=>
  cases t with
  |nil=>exact .nil
  |cons q t'=>exact .cons r ih
theorem Vals.rep{xs:v9}{us:Ψ}(h:Vals xs us):∀k:Nat,Vals (List.replicate k xs).flatten (List.replicate k us).flatten
 |0=>.nil
 |k+1=>by rw[zX,zX,QV,QV];exact Vals.append h (Vals.rep h k)
def AE(l:List α):l.eraseIdx (l.length-1)=l.dropLast:=by
 induction l with
 |nil=>rfl
 |cons a r ih=>
  cases r with
  |nil=>rfl
  |cons b r=>
   have e:(a::b::r).length-1=((b::r).length-1)+1:=by have h1:(a::b::r).length=r.length+2:=rfl;have h2:(b::r).length=r.length+1:=rfl;omega
   rw[e,List.eraseIdx_cons_succ,ih]
   all_goals rfl
theorem foldl_rep(aW:Ψ):∀(k:Nat)(acc:Ψ),
  List.foldl (λx1 x2=>x1++x2) acc.toArray (List.replicate k aW.toArray)=(acc++(List.replicate k aW).flatten).toArray
 |0,acc=>by simp
 |k+1,acc=>by
   have e:acc.toArray++aW.toArray=(acc++aW).toArray:=by simp
   have e2:(acc++aW)++(List.replicate k aW).flatten=acc++(List.replicate (k+1) aW).flatten:=by rw[zX,QV,Lz]
   rw[<- e2,<- foldl_rep aW k (acc++aW),<- e,zX,List.foldl_cons]
section
variable{s:Shared}{l:Addr}{ys zs:v9}
def Inv.Xb{aW its':Ψ}{f:Array Value->Array Value}(I:Inv X γ σ H s)(hH:H l=some (.lst xs))(e:s.heap.get? l=some {cls:=.type "list",data:=.seq aW.toArray n})(hf:f aW.toArray=its'.toArray)(hv:Vals ys its')(hz:ys.length<=sizeLine) :
  Inv X γ σ (upd H l (.lst ys)) {s with heap:=s.heap.update l (Obj.mapSeq f),toks:=t'}:=by
 have q:=PySem.IsL.update e f;rw[hf] at q;refine I.write (x:=l) (e:=l) (by rw[hH];exact trivial) (.inl rfl) (λb' u hb hu=>(Heap.get?_update_other s.heap (Obj.mapSeq f) (Ne.symm hb)).trans hu) ⟨_,q⟩ ?_;exact⟨hz,its',_,hv,q⟩
def Inv.Xc{aW:Ψ}(I:Inv X γ σ H s)(hv:Vals ys aW)(hz:ys.length<=sizeLine) :
  Inv X γ σ (upd H s.heap.objs.size (.lst ys)) {s with heap:=s.heap.push {cls:=.type "list",data:=.seq aW.toArray},toks:=t'} :=
 I.laid (λ_ _ q=>jn _ q) (c9 _) ⟨hz,aW,0,hv,ph _ rfl⟩
def Inv.fresh(I:Inv X γ σ H s):H s.heap.objs.size=none:=I.cm.fresh (c9 _)
def Inv.RS(I:Inv X γ σ H s)(hH:H l=some (.lst xs)):xs.length<=sizeLine/\∃(aW:Ψ)(n:Nat),Vals xs aW/\xs.length=aW.length/\s.heap.get? l=some {cls:=.type "list",data:=.seq aW.toArray n}:=by obtain⟨z,aW,n,r,e⟩:=I.cm l _ hH;exact⟨z,aW,n,r,r.length,e⟩
def G2(h:n<=sizeLine):Builtin.List.listTooLong n=false:=by unfold Builtin.List.listTooLong;exact ι (by omega)
end
section
def Cr:V->v9->Hp->VK->Prop:=λx vs H Q=>∃l xs y,x=.ref l/\vs=[y]/\H l=some (.lst xs)/\xs.length<sizeLine/\Q .aO (upd H l (.lst (xs++[y])))
def bq:MtM X "list.append" Cr:=by intro γ s σ H x vs v us Q I rx rv h;obtain⟨l,xs,y,rfl,rfl,hH,hz,q⟩:=h;cases rx;obtain⟨u,rfl,ru⟩:=rv.one;obtain⟨z,aW,n,r,hl,e⟩:=I.RS hH;refine call_meets F.slot_list_append ⟨_,e,rfl⟩ F.entry_list_append (F.args_list_append_2 _ _) (PySem.list_append l aW.toArray n u (by rw[jd];omega)) ⟨e,?_⟩;refine⟨.aO,_,I.Xb (its':=aW++[u]) hH e (by simp) (r.append (.cons ru .nil)) ?_,rfl,q⟩;rw[nL,List.length_singleton];omega
def Xd:V->v9->Hp->VK->Prop:=λx vs H Q=>∃l xs y,x=.ref l/\vs=[]/\H l=some (.lst xs)/\xs[xs.length-1]?=some y/\Q y (upd H l (.lst xs.dropLast))
def AF:MtM X "list.pop" Xd:=by
 intro γ s σ H x vs v us Q I rx rv h;obtain⟨l,xs,y,rfl,rfl,hH,hy,q⟩:=h;cases rx;have RT:=rv.zero;subst RT;obtain⟨z,aW,n,r,hl,e⟩:=I.RS hH;obtain⟨u,hu,ru⟩:=r.get hy;have hy':aW.toArray[aW.toArray.size-1]?=some u:=by show aW.toArray[aW.length-1]?=some u;rw[<- Array.getElem?_toList,<- hl];exact hu
 refine call_meets F.slot_list_pop ⟨_,e,rfl⟩ F.entry_list_pop (F.args_list_pop_1 _) (MeetsSeq.list_pop_last l aW.toArray n u hy' (by rw[jd];omega)) ⟨e,?_⟩;refine⟨y,_,I.Xb (its':=aW.dropLast) hH e ?_ r.dropLast ?_,ru,q⟩;show aW.toArray.eraseIdxIfInBounds (aW.toArray.size-1)=aW.dropLast.toArray;rw[jd,List.eraseIdxIfInBounds_toArray,AE];rw[Ad];omega
noncomputable def ac4:R2:=λx y H Q=>∃l k xs,x=.ref l/\y=.int k/\H l=some (.lst xs)/\-(2 ^ 63)<=k/\k<2 ^ 63/\xs.length * k.toNat<=sizeLine /\
 ∀p,H p=none->Q (.ref p) (upd H p (.lst (List.replicate k.toNat xs).flatten))
def len_rep(xs:List α)(k:Nat):(List.replicate k xs).flatten.length=k * xs.length:=by
 induction k with
 |zero=>simp
 |succ k ih=>rw[zX,QV,nL,ih,Nat.succ_mul,Nat.add_comm]
def RU:fS X (binaryOp .Mult) ac4:=by
 intro γ s σ H x y v u Q I rx ry h;obtain⟨l,k,xs,rfl,rfl,hH,h1,h2,hz,q⟩:=h;cases rx;obtain⟨t,rfl⟩:=ry;obtain⟨z,aW,n,r,hl,e⟩:=I.RS hH;have hlen:aW.toArray.size * k.toNat<=sizeLine:=by rw[jd,<- hl];exact hz
 have ac5:¬ aW.toArray.size * k.toNat > (2 ^ 63-1) / 8:=by
  have:(sizeLine:Nat)<=(2 ^ 63-1) / 8:=by decide
  omega
 have ac6:¬ (!Builtin.List.listFitsIndex k)=true:=by rw[fitsIndex_both h1 h2];exact iM
 have Xe:¬ Builtin.List.listTooLong (aW.toArray.size * k.toNat)=true:=by rw[G2 hlen];exact iM
 have ac7:List.foldl (λx1 x2=>x1++x2) #[] (List.replicate (if aW.toArray.isEmpty=true then 0 else k.toNat) aW.toArray)=(List.replicate k.toNat aW).flatten.toArray:=by
  have f0:∀m:Nat,List.foldl (λx1 x2=>x1++x2) #[] (List.replicate m aW.toArray)=(List.replicate m aW).flatten.toArray:=λm=>by have:=foldl_rep aW m [];rw[List.nil_append] at this;exact this
  rw[f0];cases aW with
  |nil=>simp
  |cons a r'=>rw[ζ (by simp)]
 refine wpAny_binaryOp_repeat_ref (T:="list") (U:="int") (by decide) ⟨_,e,rfl⟩ (λs'=>typeIs_int s' k t) noFill_list_mul F.fills_int_mul F.slot_int_rmul repeat_list F.slot_int_index.lookup
  (call_meets F.slot_int_rmul (typeIs_int s k t) F.entry_int_rmul (F.args_int_rmul_2 _ _) (int___rmul___int_list k t l aW.toArray n)
   ⟨e,rfl,⟨_,e,rfl⟩,call_meets F.slot_list_mul ⟨_,e,rfl⟩ F.entry_list_mul (F.args_list_mul_2 _ _) (AutoListH.list___mul___list_int_3 l aW.toArray n k t ac6 ac5 Xe) ⟨e,?_⟩⟩)
 rw[ac7];exact⟨.ref _,_,I.Xc (t':=s.toks) (r.rep k.toNat) (by rw[len_rep,Nat.mul_comm];exact hz),rfl,q _ I.fresh⟩
end
end L2
namespace Att
open PySem PySem.W PySem.Calls PyProof.Rows
def pF{P:Params}:∀(ns:qan)(vs:Ψ),WellAll P h vs (ns.map WData.int)->IntsAre vs ns:=by
 intro ns;induction ns with
 |nil=>intro vs w;rw[Pe] at w;cases w;exact .nil
 |cons n ns ih=>
  intro vs w;rw[gU] at w;cases w with
  |cons a b=>cases a;exact .cons _ _ (ih _ b)
theorem Eg{l:OpenLaw}(hn:l.most=some n){P:Params}{args:List WData}{vals:Ψ}(me:l.row.toRowW.claim.pre args=true)(Xf:WellAll P h vals args) :
  ∃a vs ns,vals=[Value.ref a]/\args=[WData.list (ns.map WData.int)]/\h.get? a=some {cls:=.type "list",data:=.seq vs.toArray}/\IntsAre vs ns/\ns.length<=n:=by
 have hsh:WShape.hasAll [] args [.list .int]=true:=(pre_splitW me).1;have hc:l.pre.holds [] {args:=args}=true:=(pre_splitW me).2;obtain⟨d,r,rfl,h1,h2⟩:=hasAllW_cons hsh;obtain rfl:=hasAllW_nil h2;obtain⟨xs,rfl,h3⟩:=hasW_list h1;obtain⟨ns,rfl⟩:=items_int h3;have hlen:ns.length<=n:=by
  unfold OpenLaw.pre at hc;have h4:(WTm.not (.lt (.lit (.int (n:Int))) (.len (.arg 0)))).holds [] {args:=[.list (ns.map .int)]}=true:=by have h4:=(holds_andW hc).1;rw[hn] at h4;exact h4
  have h5:=condW_of h4 (w_not (w_lt w_lit (w_len_list (w_arg rfl))));rw[cu] at h5;refine Nat.le_of_not_lt λq=>?_;have q':(n:Int)<((ns.length:Nat):Int):=by omega
  first
   | (rw[μ q'] at h5;exact absurd h5 (by decide))
   | (simp at h5;omega)
 cases Xf with
 |cons w1 w2=>
   cases w2;cases w1 with
   |list ho sQ=>exact⟨_,_,ns,rfl,rfl,ho,pF ns _ sQ,hlen⟩
def Eh(l:OpenLaw)(args:List WData):l.row.toRowW.claim.post args (.bool true) args=true :=
 postW_of (r:=l.row.toRowW) (X:=(true==true))
  (show WShape.has [] (.bool true) .bool=true by first|rfl|decide|simp[WShape.has,WShape.arms,WShape.armsAll])
  (show (WTm.eq .res (.lit (.bool true))).value [] {args:=args,res:=some (.bool true),after:=args}=some (.bool (true==true)) from w_eq_bool (w_res rfl) w_lit) rfl
def xI{l:OpenLaw}{q:Program}{loose:ν}{XP:(qae)->Heap->Prop}{YP:World->Heap->Prop}{d:DefRec}(hn:l.most=some n)(RW:d.params.defaults=[])(call:∀(w:World) (s₀ s₁:Shared) (mg mb:qae) (fa:Addr) (o:Obj) (pm cd doc:Value) (a:Addr) (vs:Ψ) (ns:qan),
    Ground q loose [] XP w s₀ mg mb s₁.heap->YP w s₁.heap ->
    s₁.heap.get? fa=some o->o.data=.func (docDef d.name d.params d.body d.scope pm cd doc)->s₁.heap.CodeRec cd d.name->mg d.name=some (.ref fa) ->
    s₁.heap.get? a=some {cls:=.type "list",data:=.seq vs.toArray}->IntsAre vs ns->ns.length<=n->s₁.gens=#[] ->
    codeAny (model l.prog w) callerA (.call (.ref fa) ⟨[.ref a],[]⟩) (λr s'=>r=.ok (.ret (.bool true))/\OldK s₁.heap s'.heap/\s'.os=s₁.os/\AllBare s'.gens) s₁) :
  WalkO q loose XP YP l.row.toRowW d [] (λf vs=>PySem.call f vs):=by
 intro w s₀ s₁ mg mb G Y fa o pm cd doc dV kV ho hd gm hD Xg hg args vals as me Xh hrd Xf hlo;obtain rfl:dV=.none:=Dflts.none hD RW;obtain rfl:kV=.none:=Dflts.noKw hD;obtain⟨a,vs,ns,rfl,rfl,RX,hints,hlen⟩:=Eg hn me Xf;refine enter_call (codeAny_mono (call w s₀ s₁ mg mb fa o pm cd doc a vs ns G Y ho (fd_plain hd) gm Xg RX hints hlen hg) λr s' hq=>?_);obtain⟨rfl,h2,h3,h4⟩:=hq;exact⟨.inl ⟨.bool true,.bool true,[],rfl,λ_=>rfl,.bool true,Eh l _,λ_=>⟨List.Pairwise.nil,λ_ hm=>(nomatch hm)⟩⟩,h2,h3,h4⟩
end Att
namespace L2
open PySem PySem.Spec PyProof.Rows
theorem t9:∀{vs:Ψ}{ns:qan},IntsAre vs ns->Vals (ns.map V.int) vs
 |_,_,.nil=>.nil
 |_,_,.cons n t h=>.cons ⟨t,rfl⟩ (t9 h)
def Xi(H:Hp):Prop:=∀b,H b=none\/∃o xs,H b=some (.D2 o (.lst xs))
theorem G3{mb:qae}{CX:Gi}{k:Nat}{fa:Addr}{s₁:Shared}{vs:Ψ}{ns:qan}(KX:K.In s₁.heap)(hns:s₁.heap.Ns mainGlobals mg)(hb:s₁.heap.Ns builtinsNs mb)(hbb:∀x:Str,x≠"__name__"->mb x=bootBuiltins x)(ac8:s₁.heap.NoLimit)(hg:s₁.gens=#[])(ha:s₁.heap.get? a=some {cls:=.type "list",data:=.seq vs.toArray})(hi:IntsAre vs ns)(hl:ns.length<=sizeLine)(hr:bG k callerA)(F:∀base:Heap,K.In base->base.Ns mainGlobals mg->cD P w K mg base CX k fa fd [x] sp)(Xj:∀(s:Shared) (u:Value),BindsTo s fd ⟨[u],[]⟩ [(x,u)])(Lm:∀H:Hp,Xi H->gN K H a (ns.map V.int)->sp [.ref a] H (λv _=>v=.bl true) λ_ _ _=>False)(hCX:∀H e s',CX [] H s₁ (λ_ _ _=>False) e s'->False) :
  codeAny (model P w) callerA (.call (.ref fa) ⟨[.ref a],[]⟩) (λr s'=>r=.ok (.ret (.bool true))/\OldK s₁.heap s'.heap/\s'.os=s₁.os/\AllBare s'.gens) s₁:=by
 have rv:=t9 hi;have ac9:=hi.length;have core:∀H:Hp,Xi H->gN K H a (ns.map V.int)->lV P w H s₁.heap->(∀b,H b≠none->b=a)->(H a≠none->K.lookup a=none) ->
   codeAny (model P w) callerA (.call (.ref fa) ⟨[.ref a],[]⟩) (λr s'=>r=.ok (.ret (.bool true))/\OldK s₁.heap s'.heap/\s'.os=s₁.os/\AllBare s'.gens) s₁:=by
  intro H hO hS cm hA hK;have Cs:∀{b:Addr}{o:Obj},s₁.heap.get? b=some o->H b=none->(uN s₁.heap H).get? b=some o:=λe n=>Gy e n;have W2:∀{b:Addr}{o:Obj}{es:Array DictEntry}{ep:Nat},s₁.heap.get? b=some o->o.data=.dict es ep->H b=none:=λ{b o es ep} e d=>by
   cases q:H b with
   |none=>rfl
   |some u=>have e':b=a:=hA b (by rw[q];simp);subst e';rw[ha] at e;cases e;have d':Data.seq vs.toArray _=Data.dict es ep:=d;cases d'
  have nsK:∀{b:Addr}{m:qae},s₁.heap.Ns b m->(uN s₁.heap H).Ns b m:=λ{b m} ⟨o,es,ep,e,d,r⟩=>⟨o,es,ep,Cs e (W2 e d),d,r⟩;have hKb:K.In (uN s₁.heap H):=λb o e=>Cs (KX b o e) (by
   cases q:H b with
   |none=>rfl
   |some u=>have e':b=a:=hA b (by rw[q];simp);subst e';rw[hK (by rw[q];simp)] at e;cases e)
  have hM:Mod K mg (uN s₁.heap H):=⟨hKb,nsK hns,⟨mb,nsK hb,hbb⟩,let ⟨mc,h1,h2⟩:=ac8;⟨mc,nsK h1,h2⟩⟩;have e0:Aw P w K mg (uN s₁.heap H) callerA [] s₁ H:=⟨rfl,hM,λb o e=>LD e,Nat.le_of_eq (D5 _ _),trivial,λb hb=>absurd (show b∈([]:υ) from hb) (by simp),cm,.of_eq hg⟩;refine codeAny_mono ((F _ hKb (nsK hns)).run callerA [] s₁ H ⟨[.ref a],[]⟩ [.ref a] [.ref a] _ _ hr e0 (Xj s₁ (.ref a)) (.cons rfl .nil) (Lm H hO hS)) λr s' h=>?_;cases r with
  |error e=>exact (hCX H e s' h).elim
  |ok fl=>
    cases fl with
    |ret u=>
      obtain⟨v,H',os,bare,un,ada,r',q⟩:=h;have q':v=.bl true:=q;subst q';obtain rfl:u=Value.bool true:=r';refine⟨rfl,OldK.of_keep λb o e=>?_,os,bare⟩;cases q:H b with
      |none=>exact un.keep b o e q (by intro z;exact absurd (show b∈([]:υ) from z) (by simp)) (by simp)
      |some u=>
        rcases hO b with z|⟨ob,xs,z⟩
        rw[q] at z;cases z;have z2:=un.uM b ob _ z;obtain⟨e1,_⟩:=cm b _ z;obtain⟨e2,_⟩:=ada b _ z2;rw[e] at e1;cases e1;exact e2
    |_=>exact False.elim h
 cases hk:K.lookup a with
 |some o=>have e:=KX a o hk;rw[ha] at e;cases e;refine core (λ_=>none) (λ_=>.inl rfl) (.inr ⟨_,vs.toArray,_,hk,rfl,rfl,rfl,by rw[jd,ac9];exact hl,by simpa using rv⟩) (λb u z=>by have z':(none:Option HO)=some u:=z;cases z') (λb z=>absurd rfl z) λz=>absurd rfl z
 |none=>refine core (λb=>if b=a then some (.D2 {cls:=.type "list",data:=.seq vs.toArray} (.lst (ns.map V.int))) else none) (λb=>?_) (.inl (.inr ⟨{cls:=.type "list",data:=.seq vs.toArray},ε rfl⟩)) (λb u z=>?_) (λb z=>?_) λ_=>hk;by_cases hb:b=a;exact .inr ⟨_,_,ε hb⟩;exact .inl (ζ hb);by_cases hb:b=a;have z':=(ε hb).symm.trans z;cases z';subst hb;exact⟨ha,by rw[cu];exact hl,vs,_,rv,ha⟩;have z':=(ζ hb).symm.trans z;cases z';by_cases hb:b=a;exact hb;exact absurd (ζ hb) z
noncomputable def inClass(s:Stmt)(j:Nat):Stmt:=match s with
 |.ClassDef _ _ _ body _ _ _ _ _ _ _=>body.getD j (.Pass ⟨0,0,0,0⟩)
 |_=>.Pass ⟨0,0,0,0⟩
noncomputable def cn(s:Stmt):Arguments:=match s with
 |.FunctionDef _ a _ _ _ _ _ _ _ _=>a
 |_=>{posonlyargs:=[],args:=[],vararg:=none,kwonlyargs:=[],kw_defaults:=[],kwarg:=none,defaults:=[]}
def bE(s:Stmt):qaq:=match s with
 |.FunctionDef _ _ b _ _ _ _ _ _ _=>b
 |_=>[]
noncomputable def ai(s:Stmt):Scope:=match s with
 |.FunctionDef _ _ _ _ _ _ sc _ _ _=>sc
 |_=>{kind:=.function,names:=[],isGenerator:=false,isCoroutine:=false}
abbrev eQ:Gi:=λ_ _ _ _ _ _=>False
abbrev E0:XK:=λ_ _ _=>False
def jw:Passes eQ X E0:=λ_ _ _ _ _ _ _ h=>h.elim
structure Cu(K:Γ)(x qual:Str)(st:Stmt)(f:Addr)(fd:FuncData):Prop where
 ex:∃(oc:Value)(od:qar)(kV doc pm:Value)(an:qar)(bF ct:Value)(Ed:Array (Option Value)),
  fd=W.fnOf x qual (cn st) (bE st) (ai st) .none kV doc pm an bF ct/\K.lookup f=some ⟨oc,od,.func fd,Ed⟩/\W.codeIn K bF qual=true
 kp:W.keepIn K (.ref f)=true
section
def Cu.ok{st:Stmt}{N:ν}{k:Nat}(F:Cu K x qual st f fd)(S:az N ps (ai st))(len:∀vs H Q E,sp vs H Q E->vs.length=ps.length)(dF:∀(bF:Value) (A:Around) (outer:List Env) (s:Shared) (H:Hp) (vs:v9) (Q:VK) (E:XK),bG k (A.deeper (envOfC qual (ai st) s.heap.objs.size f bF))->sp vs H Q E ->
    ∃t,jf (fN eQ P w K mg base N qual (ai st) f bF A outer s H E).pA (bE st) t/\t {nx:=λ_ H'=>Q .aO H',rt:=Q} (start N vs) H):cD P w K mg base eQ (k+1) f fd ps sp:=by
 obtain⟨oc,od,kV,doc,pm,an,bF,ct,Ed,rfl,lk,gm⟩:=F.ex;refine Po lk gm S len λA outer s H vs Q E hr Lm=>?_;obtain⟨t,h,q⟩:=dF bF A outer s H vs Q E hr Lm;exact⟨t,h.pA,q⟩
def Cu.binds{st:Stmt}(F:Cu K x qual st f fd)(h:∀(kV doc pm:Value) (an:qar) (bF ct:Value) (us:Ψ),us.length=ps.length->bindArgs (W.fnOf x qual (cn st) (bE st) (ai st) .none kV doc pm an bF ct) ⟨us,[]⟩=pure (ps.zip us)):Binds K fd ps []:=by obtain⟨oc,od,kV,doc,pm,an,bF,ct,Ed,rfl,lk,gm⟩:=F.ex;exact .all (h kV doc pm an bF ct)
def qp{st:Stmt}{oc:Value}{od an:qar}{Ed:Array (Option Value)}{kV doc pm bF ct:Value}(l:K.lookup f=some ⟨oc,od,.func (W.fnOf x qual (cn st) (bE st) (ai st) .none kV doc pm an bF ct),Ed⟩)(c:W.codeIn K bF qual=true)(k:W.keepIn K (.ref f)=true):Cu K x qual st f (W.fnOf x qual (cn st) (bE st) (ai st) .none kV doc pm an bF ct):=⟨⟨oc,od,kV,doc,pm,an,bF,ct,Ed,rfl,l,c⟩,k⟩
end
def Ei(h:n<=1000):n<sizeLine:=Z0 h (by decide)
section
def pv(i:Nat)(hN:X.N[i]?=some x:=by rfl)(hv:kH X.env.scope x:=by exact jvv rfl)(hd:iq x:=by decide)(gm:uL x:=by decide):PE X (.Name x pos) (Rc i):=cf hN hv hd gm
end
def RY{A:Prop}(h:B):if false=true then A else B:=by rw[ζ iM];exact h
def RZ{A:Prop}(h:A):if true=true then A else B:=by rw[ε rfl];exact h
def vd{c A:Prop}[Decidable c](h1:c->A)(h2:¬ c->B):if c then A else B:=by by_cases h:c;rw[ε h];exact h1 h;rw[ζ h];exact h2 h
def aV(H H':Hp):Prop:=∀b o,H b=some o->H' b=some o
def aV.refl(H:Hp):aV H H:=λ_ _ h=>h
def aV.trans{H1 H2:Hp}(a:aV H H1)(b:aV H1 H2):aV H H2:=λc o h=>b c o (a c o h)
section
theorem iQ{env:Env}{f:Str×NameKind->List (Str×Addr)->Sem (ForInStep (List (Str×Addr)))}:∀(l:List (Str×NameKind))(cs:List (Str×Addr)),
  (∀p∈l,∀r,(p.2=.free->∃c,env.cells.lookup p.1=some c/\f p r=pure (.yield ((p.1,c)::r)))/\(p.2≠.free->f p r=pure (.yield r))) ->
  ∃cl,forIn l cs f=pure cl/\(∀y c,cl.lookup y=some c->cs.lookup y=some c\/env.cells.lookup y=some c)/\(∀y,(cs.lookup y).isSome=true->(cl.lookup y).isSome=true) /\
   ∀p∈l,p.2=.free->(cl.lookup p.1).isSome=true
 |[],cs,_=>⟨cs,by rw[List.forIn_nil],λ_ _ h=>.inl h,λ_ h=>h,λ_ h=>nomatch h⟩
 |p::l,cs,hf=>by
   have hr:∀q∈l,∀r,(q.2=.free->∃c,env.cells.lookup q.1=some c/\f q r=pure (.yield ((q.1,c)::r)))/\(q.2≠.free->f q r=pure (.yield r)):=λq hq r=>hf q (gT _ hq) r;by_cases hp:p.2=.free;obtain⟨c,hc,e⟩:=(hf p dD cs).1 hp;obtain⟨cl,h1,h2,h3,h4⟩:=iQ l ((p.1,c)::cs) hr;refine⟨cl,?_,λy d h=>?_,λy h=>h3 y ?_,λq hq hqf=>?_⟩;rw[List.forIn_cons,e];exact h1;rcases h2 y d h with z|z
   rw[Ld] at z;cases hy:y==p.1 with
   |true=>rw[hy] at z;have ey:y=p.1:=eq_of_beq hy;cases z;rw[ey];exact .inr hc
   |false=>rw[hy] at z;exact .inl z
   exact .inr z;rw[Ld];cases hy:y==p.1 with
   |true=>rfl
   |false=>exact h
   rcases c0.mp hq with z|z
   subst z;refine h3 _ ?_;rw[Ld,beq_self_eq_true];rfl;exact h4 q z hqf;have e:=(hf p dD cs).2 hp;obtain⟨cl,h1,h2,h3,h4⟩:=iQ l cs hr;refine⟨cl,?_,h2,h3,λq hq hqf=>?_⟩;rw[List.forIn_cons,e];exact h1;rcases c0.mp hq with z|z
   subst z;exact absurd hqf hp;exact h4 q z hqf
def jh{scope:Scope}{env:Env}(h:∀p∈scope.names,p.2=.free->∃c,env.cells.lookup p.1=some c) :
  ∃cl,closureFor scope env=pure cl/\(∀y c,cl.lookup y=some c->env.cells.lookup y=some c)/\∀p∈scope.names,p.2=.free->∃c,cl.lookup p.1=some c:=by
 have key:∃cl,closureFor scope env=pure cl/\(∀y c,cl.lookup y=some c->([]:List (Str×Addr)).lookup y=some c\/env.cells.lookup y=some c)/\(∀y,(([]:List (Str×Addr)).lookup y).isSome=true->(cl.lookup y).isSome=true) /\
   ∀p∈scope.names,p.2=.free->(cl.lookup p.1).isSome=true:=by
  simp only[closureFor];have go:=@iQ env (λx r=>if x.2==NameKind.free then (do let c <- cellOf env x.1;pure (ForInStep.yield ((x.1,c)::r))) else pure (ForInStep.yield r)) scope.names [] ?_;obtain⟨cl,h1,h2⟩:=go;refine⟨cl,?_,h2⟩
  first
   | (show (forIn scope.names [] _ >>= λcs=>pure cs)=_;rw[h1];rfl)
   | (rw[h1];rfl)
   |exact ψ (· >>= pure) h1
  intro p hp r;refine⟨λhf=>?_,λhf=>?_⟩;obtain⟨c,hc⟩:=h p hp hf;refine⟨c,hc,?_⟩;have e1:(p.2==NameKind.free)=true:=by rw[hf];rfl
  have e2:cellOf env p.1=pure c:=by unfold cellOf;rw[hc]
  rw[e1,ε rfl,e2];rfl;have e1:(p.2==NameKind.free)=false:=by simpa using hf
  rw[e1,ζ (by decide)]
 obtain⟨cl,h1,h2,h3,h4⟩:=key;refine⟨cl,h1,λy c e=>?_,λp hp hf=>Option.isSome_iff_exists.mp (h4 p hp hf)⟩;rcases h2 y c e with z|z
 rw[List.lookup_nil] at z;cases z;exact z
def mf{scope:Scope}{env:Env}(y:Str):(relabel scope env).names.lookup y =
  (scope.names.lookup y).map λk=>if (k==.free && env.scope.kind==.function && env.kindOf y==some .cell)=true then .cell else k:=by
 have key:∀l:List (Str×NameKind),(l.map λ(n,k)=>if (k==NameKind.free && env.scope.kind==.function && env.kindOf n==some .cell) then (n,NameKind.cell) else (n,k)).lookup y =
   (l.lookup y).map λk=>if (k==.free && env.scope.kind==.function && env.kindOf y==some .cell)=true then .cell else k:=by
  intro l;induction l with
  |nil=>rfl
  |cons p l ih=>
    obtain⟨n,k⟩:=p;rw[gU];show List.lookup y ((if (k==NameKind.free && env.scope.kind==.function && env.kindOf n==some .cell)=true then (n,NameKind.cell) else (n,k))::_)=_;by_cases hc:(k==NameKind.free && env.scope.kind==.function && env.kindOf n==some .cell)=true;rw[ε hc,Ld,Ld];cases hy:y==n with
    |true=>have ey:y=n:=eq_of_beq hy;subst ey;show some NameKind.cell=some (if _ then _ else _);rw[ε hc]
    |false=>exact ih
    rw[ζ hc,Ld,Ld];cases hy:y==n with
    |true=>have ey:y=n:=eq_of_beq hy;subst ey;show some k=some (if _ then _ else _);rw[ζ hc]
    |false=>exact ih
 exact key scope.names
end
noncomputable def kW(N ts:ν)(out sc:Scope):Bool :=
 (sc.kind==.function) && sc.names.all (λp=>(p.2 != .cell) && (p.2 != .free || out.names.lookup p.1==some .cell || out.names.lookup p.1==some .free) && (p.2 != .local || sc.names.lookup p.1==some .local))
  && N.all (λy=>sc.names.lookup y != some .local) && ts.all (λy=>sc.names.lookup y==some .local) && decide ((N++ts).Nodup)
structure qq(N ts:ν)(out sc:Scope):Prop where
 kind:sc.kind=.function
 G4:∀p∈sc.names,p.2≠.cell
 fr:∀p∈sc.names,p.2=.free->out.names.lookup p.1=some .cell\/out.names.lookup p.1=some .free
 names:∀p∈sc.names,p.2=.local->sc.names.lookup p.1=some .local
 own:∀y∈N,sc.names.lookup y≠some .local
 tgt:∀y∈ts,sc.names.lookup y=some .local
 nd:(N++ts).Nodup
def t_{N ts:ν}{out:Scope}(h:kW N ts out sc=true):qq N ts out sc:=by unfold kW at h;rw[lY,lY,lY,lY] at h;obtain⟨⟨⟨⟨h1,h2⟩,h3⟩,h4⟩,h5⟩:=h;rw[QW] at h2 h3 h4;refine⟨eq_of_beq h1,λp hp=>?_,λp hp hf=>?_,λp hp hl=>?_,λy hy=>?_,λy hy=>?_,Λ h5⟩;have:=h2 p hp;rw[lY,lY] at this;simpa using this.1.1;have:=h2 p hp;rw[lY,lY] at this;have q:=this.1.2;rw[hf] at q;simpa using q;have:=h2 p hp;rw[lY,lY] at this;have q:=this.2;rw[hl] at q;simpa using q;simpa using h3 y hy;simpa using h4 y hy
noncomputable def bU(X:Cx)(ts:ν)(sc:Scope)(cl:List (Str×Addr))(C:Addr)(fp:υ)(s:Shared)(H:Hp):Cx where
 prog:=X.prog
 w:=X.w
 K:=X.K
 mg:=X.mg
 base:=X.base
 A:=X.A
 N:=X.N++ts
 s₀:=s
 H₀:=H
 env:=compEnvC sc cl C X.env
 outer:=X.stack
 stack:=X.stack
 ex:=fp
 fn:=λ_=>false
 calm:=X.calm
 pn:=[]
 xe:=λ_ _=>False
section
variable{s:Shared}{ts:ν}{cl:List (Str×Addr)}{D:Addr}
def ua(hS:qq X.N ts X.env.scope sc)(h:kH (relabel sc X.env) y):sc.names.lookup y=some .local\/(sc.names.lookup y=some .free/\((relabel sc X.env).names.lookup y=some .cell\/(relabel sc X.env).names.lookup y=some .free)):=by
 have e:=mf (scope:=sc) (env:=X.env) y;cases hk:sc.names.lookup y with
 |none=>rw[hk] at e;have e':(relabel sc X.env).names.lookup y=none:=e;obtain h|h|h:=h<;>rw[e'] at h<;>cases h
 |some k=>
  have hm:(y,k)∈sc.names:=Pa hk;rw[hk] at e;cases k with
  |«local»=>exact .inl rfl
  |cell=>exact absurd rfl (hS.G4 _ hm)
  |free=>refine .inr ⟨rfl,?_⟩;rw[e,Vs];by_cases hc:(NameKind.free==.free && X.env.scope.kind==.function && X.env.kindOf y==some .cell)=true;rw[ε hc];exact .inl rfl;rw[ζ hc];exact .inr rfl
  |globalExplicit=>have e':(relabel sc X.env).names.lookup y=some .globalExplicit:=e;obtain h|h|h:=h<;>rw[e'] at h<;>cases h
  |globalImplicit=>have e':(relabel sc X.env).names.lookup y=some .globalImplicit:=e;obtain h|h|h:=h<;>rw[e'] at h<;>cases h
def Cv(I:Inv X γ σ H s)(hf:∀b∈fp,pB X γ H b):∀b∈fp,b∉Gh X.stack:=λb hb z=>by
 obtain⟨_,f1,f2,_⟩:=hf b hb;rcases c0.mp (I.Af b z) with e|e
 exact f1 e;exact f2 e
def L6(I:Inv X γ σ H s)(hf:∀b∈fp,pB X γ H b)(R1:∀b∈fp,∃o,s.heap.get? b=some o)(hS:qq X.N ts X.env.scope sc)(c1:∀y c,cl.lookup y=some c->X.env.cells.lookup y=some c)(c2:∀p∈sc.names,p.2=.free->∃c,cl.lookup p.1=some c)(hC:s.heap.objs.size<=C)(hD:s.heap.objs.size<=D)(hDC:D≠C){h1:Heap}{m:qae}{t:Nat}(k:∀b o,s.heap.get? b=some o->h1.get? b=some o)(hn:h1.Ns C m)(hd:h1.get? D=some {cls:=.type "list",data:=.seq ([]:Ψ).toArray n}) :
  Inv (bU X ts sc cl C fp s H) [] (σ++ts.map λ_=>none) (upd H D (.lst [])) {s with heap:=h1,toks:=t}:=by
 have sz:=I.sz;have adb:∀b∈fp,b<s.heap.objs.size:=λb hb=>by obtain⟨o,e⟩:=R1 b hb;exact iw e
 have LI:∀y c,cl.lookup y=some c->c<s.heap.objs.size:=λy c e=>by obtain⟨v,q⟩:=I.cell y c (c1 y c e);exact q.lt
 have ok:(bU X ts sc cl C fp s H).Ok:=by
  refine⟨I.ok.mod,hS.kind,I.ok.glob,I.ok.blt,hC,λx y c e1 e2=>I.ok.inj x y c (c1 x c e1) (c1 y c e2),λx hx=>?_,λx c hx=>absurd hx (by simp[bU]),I.ok.hd,I.ok.frames,.inl rfl,λb hb=>?_,λb o e=>I.bs b o e,
   je I.ok.LG sz,λb o e hb=>?_,Cv I hf,I.stack,λb hb=>I.Cd b hb⟩
  have hv:kH (relabel sc X.env) x:=by
   obtain hx|hx:=hx
   exact .inr (.inl hx);exact .inr (.inr hx)
  rcases ua hS hv with z|⟨z,_⟩
  have e:=mf (scope:=sc) (env:=X.env) x;rw[z] at e;have e':(relabel sc X.env).names.lookup x=some .local:=e;have Vy:(relabel sc X.env).names.lookup x=some .cell\/(relabel sc X.env).names.lookup x=some .free:=hx;rw[e'] at Vy;obtain q|q:=Vy<;>cases q
  exact c2 _ (Pa z) rfl;exact⟨λe=>absurd (xj (adb b hb) hC) (by have e':b=C:=e;rw[e'];exact LB _),λx c e z=>(hf b hb).2.2.2.2.1 x c (c1 x c e) z⟩;rcases (hf b hb).2.2.2.1 with z|z
  exact I.ok.Gz b o e z;exact absurd (xj (iw e) (je I.ok.LG z)) (LB _)
 have hnD:H D=none:=I.cm.fresh hD;refine⟨ok,rfl,I.bare,Un.laid k hD hnD,⟨m,hn,λi x v e1 e2 e3=>?_⟩,λx c e=>?_,?_,λx c e=>?_,λp hp=>absurd (show p∈([]:qaa) from hp) (by simp),I.cm.laid k hD ⟨hY _,[],n,.nil,hd⟩,?_⟩;have hi:i<σ.length:=by
  by_cases hi:i<σ.length;exact hi;rw[pf (by omega),iz] at e2;cases q:ts[i-σ.length]? with
  |none=>rw[q] at e2;cases e2
  |some a=>rw[q] at e2;cases e2
 have Lo:σ[i]?=some (some v):=by rw[nK hi] at e2;exact e2
 have e1':X.N[i]?=some x:=by have Xk:(X.N++ts)[i]?=some x:=e1;rw[nK (by rw[<- I.len];exact hi)] at Xk;exact Xk
 rcases ua hS e3 with z|⟨z,zr⟩
 exact absurd z (hS.own x (gM e1'));have hm:=Pa z;have ho:=hS.fr _ hm rfl;obtain⟨m0,_,hl⟩:=I.loc;obtain⟨u,r,l⟩:=hl i x v e1' Lo (.inr ho);obtain⟨c',sN⟩:=c2 _ hm rfl;obtain⟨l,_⟩|⟨_,c,hc,z2⟩:=l
 have l':X.env.scope.names.lookup x=some .local:=l;rw[l'] at ho;obtain q|q:=ho<;>cases q
 have ec:=c1 x c' sN;rw[hc] at ec;cases ec;exact⟨u,r,.inr ⟨zr,_,sN,z2.keeps k⟩⟩;obtain⟨v,z⟩:=I.cell x c (c1 x c e);exact⟨v,z.keeps k⟩;show upd H D (.lst []) C=none;rw[aB (Ne.symm hDC)];exact I.cm.fresh hC;show upd H D (.lst []) c=none;rw[aB (j7 (xj (LI x c e) hD))];exact I.jq x c (c1 x c e);show (σ++ts.map λ_=>none).length=(X.N++ts).length;rw[nL,nL,cu,I.len]
def xJ(I:Inv X γ σ H s)(hf:∀b∈fp,pB X γ H b){Cg:qaa}{σ':St}(J:Inv (bU X ts sc cl C fp s H) Cg σ' H' s'):Inv X γ σ H' s' :=
 I.WA J.os J.base J.cm J.bare λb hb=>by obtain⟨_,f1,_,f3,f4,f5⟩:=hf b hb;exact⟨f3,f1,f4,f5⟩
end
section
variable{R:Result->Shared->Prop}{s:Shared}
theorem kz{elt target:Expr}{ifs:qap}{scope:Scope}{it acc:Value}{env:Env}(I:Nat->Shared->Prop)(turn:∀n s,I n s->wpAny (model prog w) A (pyNext it) (λr s₁=>match r with
    |none=>R (.ok .next) s₁
    |some v=>wpAny (model prog w) A (letOwnedTupleGo target it v) (λ_ s₁'=>wpAny (model prog w) A (assign target env v) (λ_ s₂=>
       wpAny (model prog w) A (forIn ifs true λc r=>if r=true then do let ok <- isTrue c env (eval c env);pure (ForInStep.yield ok) else pure (ForInStep.yield r)) (λok s₃=>
        if ok=true then wpAny (model prog w) A (eval elt env) (λx s₄=>
         wpAny (model prog w) A (call (.builtin "list.append") [acc,x]) (λ_ s₅=>∃m,m<n/\I m s₅) (notedBy (model prog w) A env λe s'=>R (.error e) s') s₄) (notedBy (model prog w) A env λe s'=>R (.error e) s') s₃
        else ∃m,m<n/\I m s₃) (notedBy (model prog w) A env λe s'=>R (.error e) s') s₂) (notedBy (model prog w) A env λe s'=>R (.error e) s') s₁')
       (notedBy (model prog w) A env λe s'=>R (.error e) s') s₁) (notedBy (model prog w) A env λe s'=>R (.error e) s') s)(n:Nat)(h:I n s):codeAny (model prog w) A (.compLoop (.ListComp elt [⟨target,iter,ifs,0⟩] scope pos) 0 it acc env) R s:=by
 refine codeAny_loop rfl I (λn s hI=>?_) n h;show wpAny _ A ((compTurn (.ListComp elt [⟨target,iter,ifs,0⟩] scope pos) 0 it acc env).onRaise (λx=>do noteFrame x env;theTreesLotGoes x)) _ _ s;refine wpAny_noted ?_;rw[compTurn_list];refine δ (wpAny_standAt (δ (ω (turn n s hI) (λr s₁ h₁=>?_) λ_ _ h'=>h')));cases r with
 |none=>exact η h₁
 |some v=>
   refine δ (ω h₁ (λ_ s₁' h₁'=>?_) λ_ _ h'=>h');refine δ (ω h₁' (λ_ s₂ h₂=>δ (ω h₂ (λok s₃ h₃=>?_) λ_ _ h'=>h')) λ_ _ h'=>h');cases ok with
   |false=>exact η ⟨rfl,h₃⟩
   |true=>exact δ (δ (ω h₃ (λx s₄ h₄=>δ (ω h₄ (λ_ s₅ h₅=>η (η ⟨rfl,h₅⟩)) λ_ _ h'=>h')) λ_ _ h'=>h'))
end
def G5(X:Cx)(ifs:qap)(t:TT):Prop :=
 ∀(γ:qaa)(s:Shared)(σ:St)(H:Hp)(Q:Bool->Hp->Prop),Inv X γ σ H s->t σ H Q ->
  wpAny (model X.prog X.w) X.A (forIn ifs true λc r=>if r=true then do let ok <- isTrue c X.env (eval c X.env);pure (ForInStep.yield ok) else pure (ForInStep.yield r)) (TP X γ σ Q) X.xe s
def ade:TT:=λ_ H Q=>Q true H
def L7:G5 X [] ade:=λ_ _ _ H _ I h=>wpAny_tests_nil ⟨H,I,h⟩
def L8{t:TT}(h:PT X c t):G5 X [c] t:=λγ s σ H Q I hw=>wpAny_tests_one (h γ s σ H Q I hw)
def G6(J:It)(g:TG)(tt:TT)(te:TE)(n:Nat)(σ:St)(D:Addr)(Q:Hp->Prop)(H1:Hp):Prop :=
 ∃W:Nat->Nat->v9->Hp->Prop,(∃m,W 0 m [] (upd H1 D (.lst [])))/\∀i m acc H2,W i m acc H2->H2 D=some (.lst acc) /\
  ((J.stop i H2/\Q H2)\/(J.go i H2/\acc.length<sizeLine/\∀x H3,J.WK i H2 x H3->g x (σ++List.replicate n none) H3 λσ4 H4=>(σ4.length=σ.length+n/\∀(i:Nat) v,σ[i]?=some (some v)->σ4[i]?=some (some v)) /\
   tt σ4 H4 λb H5=>if b=true then te σ4 H5 λy H6=>H6 D=some (.lst acc)/\∃m',m'<m/\W (i+1) m' (acc++[y]) (upd H6 D (.lst (acc++[y]))) else ∃m',m'<m/\W (i+1) m' acc H5))
section
variable{s:Shared}{ts:ν}{cl:List (Str×Addr)}
def Ej{Y:Cx}{pl:qaa}{σ4:St}(I:Inv Y pl σ4 H' s')(hl:σ4.length=σ.length+n)(hs:∀(i:Nat) v,σ[i]?=some (some v)->σ4[i]?=some (some v)) :
  Inv Y pl (σ++List.replicate n none) H' s':=by
 refine I.weak (by rw[nL,Ac,hl]) λi v e=>?_;by_cases hi:i<σ.length;rw[nK hi] at e;exact hs i v e;rw[pf (by omega),DV] at e;split at e<;>cases e
def xK{elt tg:Expr}{ifs:qap}{it:Addr}{tn:Nat->Heap->Prop}{J:It}{g:TG}{tt:TT}{Q:Hp->Prop}{RR:Value->Addr->Result->Shared->Prop}(hc:X.calm=true)(I:Inv X γ σ H s)(T:Turn X.prog X.w X.K tg J fp it tn)(st:tn 0 s.heap)(hf:∀b∈fp,pB X γ H b)(hS:qq X.N ts X.env.scope sc)(c1:∀y c,cl.lookup y=some c->X.env.cells.lookup y=some c)(c2:∀p∈sc.names,p.2=.free->∃c,cl.lookup p.1=some c)(hg:∀C,PG (bU X ts sc cl C fp s H) tg g)(ht:∀C,G5 (bU X ts sc cl C fp s H) ifs tt)(he:∀C,PE (bU X ts sc cl C fp s H) elt te)(hw:G6 J g tt te ts.length σ s.heap.objs.size Q H)(fin:∀(C:Addr) (H':Hp) (s':Shared) (σ':St),s.heap.objs.size<=C->Inv (bU X ts sc cl C fp s H) [] σ' H' s'->Q H'->RR (.ref s.heap.objs.size) C (.ok .next) s') :
  wpAny (model X.prog X.w) X.A (newList []) (λacc s₃=>wpAny (model X.prog X.w) X.A (newFunctionEnv sc X.env.globals cl [] X.env.qual none .none (some X.env)) (λXl s₄=>
   codeAny (model X.prog X.w) X.A (.compStart (.ListComp elt [⟨tg,iter,ifs,0⟩] sc pos) 0 (.ref it) acc {Xl with scope:=relabel sc X.env}) (RR acc Xl.locals) s₄) E s₃) E s:=by
 obtain⟨W,⟨m0,w0⟩,turn⟩:=hw;have adf:=T.obj 0 _ st;have R1:∀b∈fp,∃o,s.heap.get? b=some o:=λb hb=>let ⟨o,e,_⟩:=adf b hb;⟨o,e⟩;refine Θ (wpAny_newFunctionEnv hS.G4 (by intro y hy;simp at hy) (λh₁ R4 L9=>?_) hS.kind);dsimp only at R4 L9 ⊢;generalize hH2:s.heap.push {cls:=.type "list",dict:=none,data:=.seq ([]:Ψ).toArray}=H2 at R4 L9 ⊢;have hC:H2.objs.size=s.heap.objs.size+1:=by rw[<- hH2,Q2]
 have hDC:s.heap.objs.size≠H2.objs.size:=by rw[hC];exact j7 (Cc _)
 have Xm:s.heap.objs.size<=H2.objs.size:=by rw[hC];exact Vt _
 have below:∀b,b<s.heap.objs.size->b≠H2.objs.size/\b≠s.heap.objs.size:=λb hb=>⟨by rw[hC];exact j7 (Lb hb),j7 hb⟩;have old:∀b o,s.heap.get? b=some o->h₁.get? b=some o:=λb o e=>L9.extBut b o (below b (iw e)).1 (jn _ (hH2▸jn _ e));have AG:h₁.get? s.heap.objs.size=some {cls:=.type "list",data:=.seq ([]:Ψ).toArray}:=L9.extBut _ _ hDC (jn _ (hH2▸ph _ rfl));have Xn:tn 0 h₁:=T.keep _ _ _ st λb hb o e=>old b o e;have fresh:H s.heap.objs.size=none:=I.cm.fresh (c9 _);have fq:∀{H':Hp},(∀b∈fp,H' b=none)->∀b∈fp,pB (bU X ts sc cl H2.objs.size fp s H) [] H' b:=λ{H'} hn b hb=>by obtain⟨o,e⟩:=R1 b hb;refine⟨hn b hb,λz=>?_,Cv I hf b hb,.inl hb,λx c e z=>(hf b hb).2.2.2.2.1 x c (c1 x c e) z,λp hp=>absurd (show p∈([]:qaa) from hp) (by simp)⟩;have z':b=H2.objs.size:=z;exact (below b (iw e)).1 z'
 have ub:∀b∈fp,(upd H s.heap.objs.size (.lst [])) b=none:=λb hb=>by obtain⟨o,e⟩:=R1 b hb;rw[aB (j7 (iw e))];exact (hf b hb).1
 have eN:(ts.map λ_=>(none:Option V))=List.replicate ts.length none:=List.map_const';have loop:∀s₃:Shared,s₃={s with heap:=h₁,toks:=s.toks+([]:List (Str×Value)).length} ->
   codeAny (model X.prog X.w) X.A (.compLoop (.ListComp elt [⟨tg,iter,ifs,0⟩] sc pos) 0 (.ref it) (.ref s.heap.objs.size) (compEnvC sc cl H2.objs.size X.env)) (RR (.ref s.heap.objs.size) H2.objs.size) s₃:=by
  rintro s₃ rfl;have J0:=L6 (ts:=ts) (t:=s.toks+([]:List (Str×Value)).length) I hf R1 hS c1 c2 Xm (c9 _) hDC old R4 AG;rw[eN] at J0;refine kz (λn s'=>∃i acc H',Inv (bU X ts sc cl H2.objs.size fp s H) [] (σ++List.replicate ts.length none) H' s'/\tn i s'.heap/\(∀b∈fp,H' b=none)/\W i n acc H') ?_ m0 ⟨0,[],_,J0,Xn,ub,w0⟩;rintro n s3 ⟨i,acc,H3,J3,WM,WN,w3⟩;obtain⟨hD3,alt⟩:=turn i n acc H3 w3;obtain⟨stop,q⟩|⟨go,hz,step⟩:=alt
  . refine ck (T.done (bU X ts sc cl H2.objs.size fp s H) rfl rfl rfl hc i [] s3 _ H3 _ J3 (fq WN) WM stop) λr s4 ⟨hr,J4⟩=>?_;subst hr;exact fin _ H3 s4 _ Xm J4 q
  refine ck (T.item (bU X ts sc cl H2.objs.size fp s H) rfl rfl rfl hc i [] s3 _ H3 _ J3 (fq WN) WM go) λr s4 ⟨u,hr,h4⟩=>?_;subst hr;refine ck h4 λ_ s5 ⟨x,H5,J5,r5,y5,Rv,fr5⟩=>?_;have J5':=J5.pinned (fq fr5) (T.obj _ _ Rv);have again:∀{σ7:St}{H7:Hp}{s7:Shared},Inv (bU X ts sc cl H2.objs.size fp s H) ([]++qj fp s5.heap) σ7 H7 s7->(σ7.length=σ.length+ts.length/\∀(i:Nat) v,σ[i]?=some (some v)->σ7[i]?=some (some v))->∀G7 m',W (i+1) m' G7 H7->m'<n ->
    ∃m,m<n/\∃i acc H',Inv (bU X ts sc cl H2.objs.size fp s H) [] (σ++List.replicate ts.length none) H' s7/\tn i s7.heap/\(∀b∈fp,H' b=none)/\W i m acc H':=λ{σ7 H7 s7} I7 hσ G7 m' w7 hm=>by
   refine⟨m',hm,i+1,G7,H7,Ej I7.l9 hσ.1 hσ.2,T.keep _ _ _ Rv λb hb o e=>(I7.pin (b,o) (cb _ (cb _ (iN hb e)))).1,λb hb=>?_,w7⟩;obtain⟨o,e,d⟩:=T.obj _ _ Rv b hb;exact (I7.pin (b,o) (cb _ (cb _ (iN hb e)))).2.1
  refine ω (hg H2.objs.size _ s5 _ H5 x u _ J5' r5 (step x H5 y5)) (λ_ s6 ⟨σ6,H6,J6,hσ,q6⟩=>?_) λ_ _ z=>False.elim z;refine ω (ht H2.objs.size _ s6 σ6 H6 _ J6 q6) (λb s7 ⟨H7,J7,q7⟩=>?_) λ_ _ z=>False.elim z;cases b with
  |false=>obtain⟨m',hm,w7⟩:=q7;exact again J7 hσ acc m' w7 hm
  |true=>show wpAny _ _ _ _ _ _;refine ω (he H2.objs.size _ s7 σ6 H7 _ J7 q7) (λy s8 ⟨yv,H8,J8,ry,hD8,m',hm,w8⟩=>?_) λ_ _ z=>False.elim z;refine ω (bq (X:=bU X ts sc cl H2.objs.size fp s H) _ s8 σ6 H8 (.ref s.heap.objs.size) [yv] (.ref s.heap.objs.size) [y] (λv H9=>v=.aO/\H9=upd H8 s.heap.objs.size (.lst (acc++[yv]))) J8 rfl (.cons ry .nil) ⟨_,acc,yv,rfl,rfl,hD8,hz,rfl,rfl⟩) (λv9 s9 ⟨v,H9,J9,_,_,e9⟩=>?_) λ_ _ z=>False.elim z;subst e9;exact again J9 hσ (acc++[yv]) m' w8 hm
 exact codeAny_compStart_list (loop _ rfl) (T.self _ 0 _ _ _ Xn (loop _ rfl))
def G8(n:Nat)(wi:TI)(g:TG)(tt:TT)(te:TE):TE:=λσ H Q=>wi σ H λJ H1=>∀D,H1 D=none->G6 J g tt te n σ D (Q (.ref D)) H1
def xM(I:Inv X γ σ H s)(hS:qq X.N ts X.env.scope sc):∀p∈sc.names,p.2=.free->∃c,X.env.cells.lookup p.1=some c:=λp hp hf=>by
 rcases hS.fr p hp hf with z|z
 exact I.ok.has p.1 (.inl z);exact I.ok.has p.1 (.inr z)
def L_{elt tg:Expr}{ifs:qap}{wi:TI}{g:TG}{tt:TT}(hc:X.calm=true)(hS:kW X.N ts X.env.scope sc=true)(hi:PI X tg iter wi)(hg:∀cl C fp s H,PG (bU X ts sc cl C fp s H) tg g)(ht:∀cl C fp s H,G5 (bU X ts sc cl C fp s H) ifs tt)(he:∀cl C fp s H,PE (bU X ts sc cl C fp s H) elt te)(hs:∀x,foldedSetIterable iter X.env x=pure x:=by intro _;rfl):PE X (.ListComp elt [⟨tg,iter,ifs,0⟩] sc pos) (G8 ts.length wi g tt te):=by intro γ s σ H Q I h;have S:=t_ hS;obtain⟨cl,G9,c1,c2⟩:=jh (xM I S);rw[eval_ListComp];refine wpAny_comprehension_free (use:=none) rfl hs G9 S.kind S.names ?_;refine ck (hi γ s σ H _ I h) λv s1 h1=>ck h1 λZ8 s2 h2=>?_;obtain⟨it,fp,tn,J,H2,e,I2,T,xD,f2,q2⟩:=h2;subst e;refine xK (E:=X.xe) (RR:=λacc C=>compPost (model X.prog X.w) X.A X.xe none (EP X γ σ Q) acc C) hc I2 T xD f2 S c1 c2 (λC=>hg cl C fp s2 H2) (λC=>ht cl C fp s2 H2) (λC=>he cl C fp s2 H2) (q2 _ (I2.cm.fresh (c9 _))) ?_;intro C H' s' σ' hC J' q';obtain⟨m,hn,_⟩:=J'.loc;refine⟨m,hn,λh' sb=>?_⟩;have I':=xJ I2 f2 J';have fk:=I2.pD (H':=H') hC J'.free;obtain⟨f0,f1,_,f3,f4,f5⟩:=fk;exact⟨.ref _,H',I'.turned (t':=s'.toks) (λb o hb e=>(sb.2 b hb).trans e) f0 f1 f3 f4 f5,rfl,q'⟩
def L'{py:Pos}{xN:Pos}{elt tg:Expr}{ifs:qap}{wi:TI}{g:TG}{tt:TT}(hN:X.N.Nodup)(hy:X.N[i]?=some y)(hx:Loc X.env.scope y)(hc:X.calm=true)(hS:kW X.N ts X.env.scope sc=true)(hi:PI X tg iter wi)(hg:∀cl C fp s H,PG (bU X ts sc cl C fp s H) tg g)(ht:∀cl C fp s H,G5 (bU X ts sc cl C fp s H) ifs tt)(he:∀cl C fp s H,PE (bU X ts sc cl C fp s H) elt te)(Ma:swapsWith (.ListComp elt [⟨tg,iter,ifs,0⟩] sc pos) (some (.Name y py)) xN.line X.env=pure true:=by rfl)(hs:∀x,foldedSetIterable iter X.env x=pure x:=by intro _;rfl)(hf:X.fn y=true\/X.env.scope.names.lookup y=some .local:=by first|exact .inl rfl|assumption) :
  PS X (.Assign [.Name y py] (.ListComp elt [⟨tg,iter,ifs,0⟩] sc pos) xN) (LN (G8 ts.length wi g tt te) (kK i)):=by
 intro γ s σ H D I h;have S:=t_ hS;obtain⟨cl,G9,c1,c2⟩:=jh (xM I S);rw[exec_Assign_Name_used _ _ _ _ Ma];refine δ (wpAny_standAt (δ ?_));show wpAny _ X.A (do let _ <- comprehension (.ListComp elt [⟨tg,iter,ifs,0⟩] sc pos) sc X.env _ (newList []) false (eval iter X.env) (some (assign (.Name y py) X.env))) _ _ s;refine δ (ω (wpAny_comprehension_free (use:=some (assign (.Name y py) X.env)) (Q:=λ_ s'=>SP X γ D .next s') (E:=X.xe) rfl hs G9 S.kind S.names ?_) (λ_ s' hq=>η (η hq)) λ_ _ e=>e);refine ck (hi γ s σ H _ I h) λv s1 h1=>ck h1 λZ8 s2 h2=>?_;obtain⟨it,fp,tn,J,H2,e,I2,T,xD,f2,q2⟩:=h2;subst e;refine xK (E:=X.xe) (RR:=λacc C=>compPost (model X.prog X.w) X.A X.xe (some (assign (.Name y py) X.env)) (λ_ s'=>SP X γ D .next s') acc C) hc I2 T xD f2 S c1 c2 (λC=>hg cl C fp s2 H2) (λC=>ht cl C fp s2 H2) (λC=>he cl C fp s2 H2) (q2 _ (I2.cm.fresh (c9 _))) ?_;intro C H' s' σ' hC J' q';obtain⟨m,hn,_⟩:=J'.loc;have I':=xJ I2 f2 J';have fk:=I2.pD (H':=H') hC J'.free;obtain⟨f0,f1,_,f3,f4,f5⟩:=fk;show wpAny _ X.A (assign (.Name y py) X.env (.ref s2.heap.objs.size)) _ _ s';refine wpAny_assign_Name (t4 (v:=.ref s2.heap.objs.size) I' hN hy hx rfl (λs3 I3 ⟨a,sb,ha⟩=>?_) hf);have hCa:C≠a:=by
  obtain z|z:=ha
  rw[z];exact f1;exact λe=>f4 y a z e.symm
 refine⟨m,hn.sameBut sb hCa,λh' sb'=>?_⟩;exact⟨_,H',I3.turned (t':=s3.toks) (λb o hb e=>(sb'.2 b hb).trans e) f0 f1 f3 f4 f5,q'⟩
end
noncomputable def Its(x:Str):It:=⟨λi _=>i<x.cps.size,λi H v H'=>H'=H/\∃c,x.cps[i]?=some c/\v=.str ⟨#[c]⟩,λi _=>x.cps.size<=i⟩
def fJ(x:Str):(strIterType x="str_ascii_iterator")\/(strIterType x="str_iterator"):=by unfold strIterType;cases x.cps.all (·<128);exact .inr rfl;exact .inl rfl
def G_{tg:Expr}(x:Str)(t:Tok)(it:Addr):Turn P w K tg (Its x) [it] it (λi h=>h.IsStrIter it (strIterType x) x t i) where
 mem:=by simp
 obj:=λi h st b hb=>by
  have e:b=it:=by simpa using hb
  subst e;obtain⟨o,e,c,d⟩:=st;exact⟨o,e,λv z=>by rw[d] at z;cases z⟩
 keep:=λi h h' st k=>by obtain⟨o,e,c,d⟩:=st;exact⟨o,k it (by simp) o e,c,d⟩
 item:=by
  intro X hP hw hK hc i γ s σ H E I hf st hg;subst hP hw hK;obtain⟨f0,f1,f2,f3,f4,f5⟩:=hf it (by simp);have hi:i<x.cps.size:=hg;have hx:x.cps[i]?=some x.cps[i]:=by simp[hi]
  have fin:∀h',h'.IsStrIter it (strIterType x) x t (i+1)->Heap.SameBut it s.heap h'->∃u,(some (Value.str ⟨#[x.cps[i]]⟩ s.toks):Option Value)=some u /\
    wpAny (model X.prog X.w) X.A (letOwnedTupleGo tg (.ref it) u) (λ_ s2=>∃y H',Inv X γ σ H' s2/\RelV y u/\(Its x).WK i H y H'/\Heap.IsStrIter s2.heap it (strIterType x) x t (i+1)/\∀b∈[it],H' b=none) E {s with heap:=h',toks:=s.toks+1}:=λh' Ah sb=>by
   have I1:Inv X γ σ H {s with heap:=h',toks:=s.toks+1}:=I.turned (t':=s.toks+1) (λb o hb e=>(sb.2 b hb).trans e) f0 f1 f3 f4 f5;obtain⟨o,e,c,d⟩:=id Ah;refine⟨_,rfl,Ck (s:={s with heap:=h',toks:=s.toks+1}) e c d ?_ ⟨.str ⟨#[x.cps[i]]⟩,H,I1,⟨_,rfl⟩,⟨rfl,_,hx,rfl⟩,Ah,λb hb=>(hf b hb).1⟩⟩;rcases fJ x with z|z<;>rw[z]<;>decide
  rcases fJ x with z|z
  rw[z] at st fin;refine wpAny_pyNext_ascii_item st hx λh' Ah sb=>?_;have:=fin h' Ah sb;rw[<- z] at this;simpa[z] using this;rw[z] at st fin;refine wpAny_pyNext_wide_item st hx λh' Ah sb=>?_;have:=fin h' Ah sb;simpa[z] using this
 done:=by
  intro X hP hw hK hc i γ s σ H E I hf st hg;subst hP hw hK;obtain⟨f0,f1,f2,f3,f4,f5⟩:=hf it (by simp);have hi:x.cps.size<=i:=hg;have hx:x.cps[i]?=none:=by simp[hi]
  rcases fJ x with z|z
  rw[z] at st;exact wpAny_pyNext_ascii_end (I.ok.hd hc) st hx λh' eb=>⟨rfl,I.turned (t':=s.toks) (λb o hb e=>eb b o hb e) f0 f1 f3 f4 f5⟩;rw[z] at st;exact wpAny_pyNext_wide_end (I.ok.hd hc) st hx λh' eb=>⟨rfl,I.turned (t':=s.toks) (λb o hb e=>eb b o hb e) f0 f1 f3 f4 f5⟩
 self:=λA i s Q E st h=>by
  rcases fJ x with z|z
  rw[z] at st;exact wpAny_pyIter_striter_ascii st h;rw[z] at st;exact wpAny_pyIter_striter_wide st h
section
variable{tg:Expr}
def qr(hc:X.calm=true):d_ X (.builtin "all") (λxs H Q=>∃(p:Addr)(bs:List Bool),xs=[.ref p]/\gN X.K H p (bs.map V.bl)/\Q (.bl (bs.all id)) H):=by
 intro γ s σ H xs us Q I r h;obtain⟨p,bs,rfl,hq,q⟩:=h;obtain⟨u,rfl,rx⟩:=vals1 r;cases rx;obtain⟨aW,rv,pl,hz⟩:=I.list hq;refine call_all_walk (wpAny_pyIter_list pl.isList ?_);have gq:p<s.heap.objs.size:=by obtain⟨o,n,e,_⟩:=pl;exact iw e
 have gc:p≠s.heap.objs.size:=j7 gq;have hh:X.A.in1.handled=none:=I.ok.hd hc;refine⟨s.heap.objs.size,_,_,_,_,_,λi=>bs.getD i true,rfl,Walks.list hh s.heap.objs.size p gc aW.toArray,⟨⟨_,ph _ rfl,rfl,rfl⟩,pl.isList.push _⟩,?_,λh' tk k=>?_⟩;intro i v s' Q' E' hP hQ;have Pr:aW[i]?=some v:=by simpa using hP
 have hb:i<bs.length:=by have:=rv.length;have h2:=(eE.mp Pr).1;rw[cu] at this;omega
 obtain⟨u,e1,r1⟩:=rv.get (i:=i) (x:=.bl bs[i]) (by simp[hb]);rw[Pr] at e1;cases e1;obtain rfl:v=Value.bool bs[i]:=r1;have e3:bs.getD i true=bs[i]:=by simp[List.getD,hb]
 dsimp only at hQ;rw[e3] at hQ;exact χ hQ;have hl:aW.toArray.size=bs.length:=by have:=rv.length;rw[cu] at this;rw[jd];omega
 have e:(List.range aW.toArray.size).all (λi=>bs.getD i true)=bs.all id:=by rw[hl,QZ,QW,QW];constructor;intro h x hx;obtain⟨i,hi,e⟩:=List.mem_iff_getElem.mp hx;have:=h i (xm.mpr hi);simp only[List.getD,iy hi,Wu] at this;rw[<- e];exact this;intro h i hi;have Ek:=xm.mp hi;simp only[List.getD,iy Ek,Wu];exact h _ (Gw Ek)
 rw[e];refine⟨.bl (bs.all id),H,?_,rfl,q⟩;have I0:Inv X γ σ H {s with heap:=s.heap.push {cls:=.type "list_iterator",data:=.fields #[.ref p,.int 0 0]} }:=I.kept (t':=s.toks) λb o e=>jn _ e;have fk:=I.pD (H':=H) (c9 s.heap.objs.size) I.fresh;obtain⟨f0,f1,_,f3,f4,f5⟩:=fk;exact I0.turned (t':=tk) (λb o hb e=>k b o (by simpa using hb) e) f0 f1 f3 f4 f5
def sR:RJ X "str.startswith" (λx xs H Q=>∃z y,x=.str z/\xs=[.str y]/\Q (.bl (Txt.startswith z y)) H):=by intro γ s σ H x xs v us Q I rx rs h;obtain⟨z,y,rfl,rfl,q⟩:=h;obtain⟨t,rfl⟩:=rx;obtain⟨u,rfl,t',rfl⟩:=vals1 rs;exact SC.startswith ⟨.bl _,H,I,rfl,q⟩
def Xo:V->Option Int->Option Int->Hp->VK->Prop:=λx lo hi H Q=>∃z,x=.str z/\z.length<=sizeLine/\Q (.str (Txt.slice z lo hi)) H
def R5:GY X Xo:=by
 intro γ s σ H x v vl vu lo hi sl Q I rx hs pl pu h;obtain⟨z,rfl,hz,q⟩:=h;obtain⟨t,rfl⟩:=rx;obtain⟨o,e,c,d⟩:=hs;refine⟨"str",_,slot_str_getitem.lookup,typeIs_str _ _ _,?_⟩;cases pl with
 |none=>
  cases pu with
  |none=>exact aab (l:=none) (u:=none) (st:=none) ⟨o,e,c,d⟩ rfl (aam ⟨je (Txt.slice_le z _ _) hz,λt' k=>⟨.str _,H,I.tok _,⟨_,rfl⟩,q⟩⟩)
  |int j tj=>exact aab (l:=none) (u:=some (j,tj)) (st:=none) ⟨o,e,c,d⟩ rfl (aam ⟨je (Txt.slice_le z _ _) hz,λt' k=>⟨.str _,H,I.tok _,⟨_,rfl⟩,q⟩⟩)
 |int i ti=>
  cases pu with
  |none=>exact aab (l:=some (i,ti)) (u:=none) (st:=none) ⟨o,e,c,d⟩ rfl (aam ⟨je (Txt.slice_le z _ _) hz,λt' k=>⟨.str _,H,I.tok _,⟨_,rfl⟩,q⟩⟩)
  |int j tj=>exact aab (l:=some (i,ti)) (u:=some (j,tj)) (st:=none) ⟨o,e,c,d⟩ rfl (aam ⟨je (Txt.slice_le z _ _) hz,λt' k=>⟨.str _,H,I.tok _,⟨_,rfl⟩,q⟩⟩)
end
def aH{D:Addr}{o:HO}(h:H D=none):aV H (upd H D o):=λb u e=>by rw[aB (bB e h)];exact e
section
variable{s:Shared}
def Inv.grown{ch:υ}{t:Addr}{o:HO}(I:Inv X γ σ H s)(k:∀b u,b∉ch->s.heap.get? b=some u->h'.get? b=some u)(hf:∀b∈ch,pB X γ H b)(ht:s.heap.objs.size<=t)(new:cS X.prog X.w (upd H t o) h' t o):Inv X γ σ (upd H t o) {s with heap:=h',toks:=t'}:=by
 have hn:H t=none:=I.cm.fresh ht;have Pg:∀b u,H b=some u->b∉ch:=λb u e z=>by rw[(hf b z).1] at e;cases e
 refine I.step (g':=s.gens) (d':=s.drawn) (ch:=ch) (λb hb=>?_) (λb u _ _ hc e _=>k b u hc e) (λb u _ _ hc e _=>⟨u.slots,k b u hc e⟩) (λb u _ e n=>?_) (λb u hc e=>⟨u,k b u hc e⟩)
  (λb xs e=>?_) (λb u v e=>?_) (λb ps e=>⟨#[],?_⟩) (λm hm=>?_) (λb u e=>?_) I.bare
 obtain⟨_,f1,_,f3,f4,f5⟩:=hf b hb;exact⟨f3,f1,f4,f5⟩;rw[aB (j7 (xj (iw e) ht))];exact n;rw[aB (bB e hn)];exact e;rw[aB (bB e hn)];exact e;rw[aB (bB e hn),e];simp;obtain⟨ob,es,ep,ho,r⟩:=hm;exact⟨ob,es,ep,k _ ob (λz=>(hf _ z).2.1 rfl) ho,r⟩;by_cases hb:b=t;subst hb;rw[aG] at e;cases e;exact new;rw[aB hb] at e;refine (I.cm b u e).D3 (λc v hc q=>k c v ?_ q) (λc q=>by rw[aB (bB q hn)];exact q) λc xs q=>by rw[aB (bB q hn)];exact q
 obtain z|z:=hc
 rw[z];exact Pg b u e;exact Pg c _ z
end
noncomputable def Ite(K:Γ)(a:Addr):It :=
 ⟨λi H=>∃xs x,gN K H a xs/\xs[i]?=some x,λi H v H'=>∃t x,H t=none/\v=.ref t/\(∀xs,gN K H a xs->xs[i]?=some x)/\H'=upd H t (.tup [.int (i:Int),x]),λi H=>∃xs,gN K H a xs/\xs.length<=i⟩
def El{elts:qap}{x1}{tp:Pos}(a e it:Addr)(gc:e≠it) :
  Turn P w K (.Tuple elts x1 tp) (Ite K a) [e,it] e (λi h=>(∃old,IsEnum h e it (i:Int) old)/\h.IsListIter it a i) where
 mem:=by simp
 obj:=λi h st b hb=>by
  obtain⟨⟨old,h1⟩,o,h2,c,d⟩:=st;rcases c0.mp hb with z|z
  subst z;exact⟨_,h1,λv z=>by cases z⟩;have z':b=it:=by simpa using z
  subst z';exact⟨o,h2,λv z=>by rw[d] at z;cases z⟩
 keep:=λi h h' st k=>by obtain⟨⟨old,h1⟩,xD⟩:=st;exact⟨⟨old,k e (by simp) _ h1⟩,xD.at λo q=>k it (by simp) o q⟩
 item:=by
  intro X hP hw hK hc i γ s σ H E I hf st hg;subst hP hw hK;obtain⟨xs,x,hq,hx⟩:=hg;obtain⟨aW,rv,p,hz⟩:=I.list hq;obtain⟨u,hu,ru⟩:=rv.get hx;obtain⟨⟨old,h1⟩,xD⟩:=st;refine wpAny_pyNext_enum_item h1 xD p.isList (x:=u) (by simpa using hu) gc λh₁ Lj R6 ht₁ hz₁ hk₁=>?_;refine⟨_,rfl,wpAny_letOwnedTupleGo_enum Lj λh₂ he₂ hs₂=>?_⟩;have AH:Heap.SameBut e h₁ h₂:=hs₂;have gq:e<s.heap.objs.size:=iw h1;have hte:s.heap.objs.size≠e:=Lg gq;have kk:∀b ob,b∉[e,it]->s.heap.get? b=some ob->h₂.get? b=some ob:=λb ob hb q=>by have D4:b≠e:=λz=>hb (by simp[z]);have hbi:b≠it:=λz=>hb (by simp[z]);exact (AH.2 b D4).trans (hk₁ b ob D4 hbi q)
  have new:cS X.prog X.w (upd H s.heap.objs.size (.tup [.int (i:Int),x])) h₂ s.heap.objs.size (.tup [.int (i:Int),x]) :=
   ⟨by show 2<=sizeLine;rw[ξ];decide,[.int i s.toks,u],.cons ⟨_,rfl⟩ (.cons ru .nil),⟨_,(AH.2 _ hte).trans ht₁,rfl,_,rfl⟩⟩
  refine⟨.ref s.heap.objs.size,upd H s.heap.objs.size (.tup [.int (i:Int),x]),I.grown (t':=s.toks+1) kk hf (c9 _) new,rfl,⟨_,x,I.fresh,rfl,λys hy=>by rw[I.qi hy hq];exact hx,rfl⟩,⟨⟨u,?_⟩,?_⟩,λb hb=>?_⟩;have:((i:Int)+1)=((i+1:Nat):Int):=by omega
  rw[<- this];exact he₂;obtain⟨o,q,r⟩:=R6;exact⟨o,(AH.2 it (Ne.symm gc)).trans q,r⟩;have Vz:b<s.heap.objs.size:=by
   rcases c0.mp hb with z|z
   subst z;exact gq;have z':b=it:=by simpa using z
   subst z';obtain⟨o,q,_⟩:=xD;exact iw q
  rw[aB (j7 Vz)];exact (hf b hb).1
 done:=by intro X hP hw hK hc i γ s σ H E I hf st hg;subst hP hw hK;obtain⟨xs,hq,hx⟩:=hg;obtain⟨aW,rv,p,hz⟩:=I.list hq;have hl:=rv.length;obtain⟨⟨old,h1⟩,xD⟩:=st;obtain⟨f0,f1,f2,f3,f4,f5⟩:=hf it (by simp);exact wpAny_pyNext_enum_end (I.ok.hd hc) h1 xD p.isList (by simp;omega) λh' eb=>⟨rfl,I.turned (t':=s.toks) (λb o hb q=>eb b o hb q) f0 f1 f3 f4 f5⟩
 self:=λ_ _ _ _ _ st h=>by obtain⟨⟨old,h1⟩,_⟩:=st;exact aai h1 h
noncomputable def Xp(K:Γ)(ta:TA):TI:=λσ H R=>ta σ H λvs H1=>∃a,vs=[.ref a]/\(∃xs,gN K H1 a xs)/\R (Ite K a) H1
section
def boot_enumerate:bootBuiltins "enumerate"=some (.type "enumerate"):=by decide +kernel
def Mb{elts:qap}{x1}{tp:Pos}{a:Expr}{ta:TA}(hg:Gl X "enumerate")(hm:X.mg "enumerate"=none)(ha:PA X [a] ta)(hs:starEach [a] X.env=[(false,eval a X.env)]:=by rfl) :
  PI X (.Tuple elts x1 tp) (.Call (.Name "enumerate" p) [a] [] pos) (Xp X.K ta):=by
 intro γ s σ H R I h;refine Call_ (nN I hg hm boot_enumerate (ZP (ck (ha pos γ s σ H _ I h) λus s1 ⟨vs,H1,I1,r1,q1⟩=>?_) hs rfl));obtain⟨b,e,⟨xs,hq⟩,q⟩:=q1;subst e;obtain⟨u,rfl,ru⟩:=vals1 r1;cases ru;obtain⟨aW,rv,pl,hz⟩:=I1.list hq;refine call_enumerate_list pl.isList λh' he hit hsz hk=>?_;have I2:Inv X γ σ H1 {s1 with heap:=h'}:=I1.kept (t':=s1.toks) hk;refine aai he ?_;refine⟨s1.heap.objs.size+1,[s1.heap.objs.size+1,s1.heap.objs.size],_,_,H1,rfl,I2,El b _ _ (Lg (Cc _)),⟨⟨_,he⟩,hit⟩,λc hc=>?_,q⟩;rcases c0.mp hc with z|z
 subst z;exact I1.pD (Vt _) (I1.cm.fresh (Vt _));have z':c=s1.heap.objs.size:=by simpa using z
 subst z';exact I1.pD (c9 _) I1.fresh
end
section
def sS(hc:X.calm=true):d_ X (.builtin "sum") (λxs H Q=>∃(p:Addr)(ns:qan),xs=[.ref p]/\gN X.K H p (ns.map V.int)/\Q (.int ns.sum) H):=by
 intro γ s σ H xs us Q I r h;obtain⟨p,ns,rfl,hq,q⟩:=h;obtain⟨u,rfl,rx⟩:=vals1 r;cases rx;obtain⟨aW,rv,pl,hz⟩:=I.list hq;have hI:IntsAre aW ns:=intsAre_of rv;obtain⟨xs,e⟩:=hI.allInts.items;have hn:=hI.numsOf;have hl:s.heap.IsList p (intItems xs):=by rw[<- e];exact pl.isList
 refine sum_intListG (I.ok.hd hc) hl λh' tk t' hk=>?_;have e2:preSum (numAt xs) xs.size=ns.sum:=by rw[preSum_eq,List.take_of_length_le (by simp),<- nums_intItems,<- e,List.toList_toArray,hn]
 rw[e2];exact⟨.int ns.sum,H,I.kept hk,⟨_,rfl⟩,q⟩
end
end L2
namespace nU
open PySem Builtin Builtin.Str
noncomputable def bY:Str:="abcdefghijklmnopqrstuvwxyz"
noncomputable def Em(c:Nat):Bool:=!(occurrences bY ⟨#[c]⟩ 0 bY.length 1).isEmpty
def Mc:Em 46=false:=by decide +kernel
def AI:((".":String):Str)=⟨#[46]⟩:=by decide +kernel
noncomputable def dm(x:Str):Bool:=decide (1<=(x.length:Int)) && (decide ((x.length:Int)<=8) && x.cps.toList.all Em)
noncomputable def qt(x:Str):Bool:=Txt.startswith x "." && dm (Txt.slice x (some 1) none)
def sT(h:x.cps.toList.all Em=true):Txt.startswith x "."=false:=by
 obtain⟨⟨l⟩⟩:=x;rw[AI];unfold Txt.startswith subAt;cases l with
 |nil=>rfl
 |cons c r=>
  have hc:Em c=true:=by have:=QW.mp h c (by simp);exact this
  have ne:c≠46:=λe=>by rw[e,Mc] at hc;cases hc
  have e1:(Array.extract ({toList:=c::r}:Array Nat) 0 (0+(Str.mk #[46]).length)==(Str.mk #[46]).cps)=false:=by rw[Ξ];intro q;have q2:=ψ (λa=>a[0]?) q;simp[Str.length] at q2;exact ne q2
  show (decide _ && (Array.extract ({toList:=c::r}:Array Nat) 0 (0+(Str.mk #[46]).length)==(Str.mk #[46]).cps))=false;rw[e1,Bool.and_false]
def mh(h:dm x=true):x.cps.toList.all Em=true:=by unfold dm at h;rw[lY,lY] at h;exact h.2.2
def qu(x:Str):Txt.startswith ((".":String)++x) "."=true:=by obtain⟨⟨l⟩⟩:=x;rw[AI];unfold Txt.startswith subAt;rw[lY];refine⟨?_,?_⟩;apply μ;show 0+1<=(#[46]++({toList:=l}:Array Nat)).size;simp;show (Array.extract (#[46]++({toList:=l}:Array Nat)) 0 (0+1)==#[46])=true;rw[aao];apply Array.ext';simp
def uc(x:Str):Txt.slice ((".":String)++x) (some 1) none=x:=by
 obtain⟨⟨l⟩⟩:=x;rw[AI];have hl:(Str.length (Str.mk #[46]++Str.mk {toList:=l}))=l.length+1:=by show (#[46]++({toList:=l}:Array Nat)).size=_;simp
 have hi:strSliceIndices (some 1) none 1 (l.length+1)=(List.range l.length).map (λk=>k+1):=by
  unfold strSliceIndices sliceRange;simp only[show (1:Int) > 0 by decide,aan];have e0:max 0 (min (if (1:Int)<0 then 1+((l.length+1:Nat):Int) else 1) ((l.length+1:Nat):Int))=1:=by rw[ζ (by decide)];omega
  rw[e0];by_cases hn:l.length=0;rw[hn];rfl;have e1:((1:Int)<((l.length+1:Nat):Int)):=by omega
  rw[ε e1];have e2:((((l.length+1:Nat):Int)-1+1-1) / 1).toNat=l.length:=by rw[Int.ediv_one];omega
  rw[e2];apply QT;intro k hk;omega
 unfold Txt.slice;rw[hl,hi];have gc:¬ (((1:Int)==1 && (List.map (λk=>k+1) (List.range l.length)).length==l.length+1)=true):=by rw[lY,cu,Lc];intro q;have:=aao.mp q.2;omega
 rw[ζ gc]
 congr 1
 apply Array.ext';rw[List.toList_toArray];show List.filterMap (λi=>(#[46]++({toList:=l}:Array Nat))[i]?) (List.map (λk=>k+1) (List.range l.length))=l;rw[ZZ];have e:∀k,((λi=>(#[46]++({toList:=l}:Array Nat))[i]?) ∘ λk=>k+1) k=l[k]?:=λk=>by show (#[46]++({toList:=l}:Array Nat))[k+1]?=l[k]?;rw[<- Array.getElem?_toList];simp
 rw[show ((λi=>(#[46]++({toList:=l}:Array Nat))[i]?) ∘ λk=>k+1)=λk=>l[k]? from funext e];clear e gc hi hl;induction l with
 |nil=>rfl
 |cons a r ih=>
  rw[xk,List.range_succ_eq_map,kr];simp only[Wg,ZZ]
  congr 1
end nU
namespace VT
open PySem PySem.Spec PyProof.Rows L2
abbrev St:=L2.St
inductive T where
 |aO|bl (b:Bool)|int (i:Int)|str (x:Str)|tup (l:List T)|lst (l:List T)|dk (ks:List Key) (vs:List T)|dc (nh:List Key×Key->Int) (ks:List (List Key×Key)) (vs:List T)|ins (C:Addr) (ns:ν) (vs:List T)|pin (a:Addr) (t:T)|ob (a:Addr)|ty (n:String)
def sU(K:Γ)(H:Hp)(O:υ)(a:Addr)(vs:v9):Prop :=
 (Rd H a (.lst vs)/\a∉O)\/∃(o:Obj)(aW:Array Value)(n:Nat),K.lookup a=some o/\o.cls=.type "list"/\o.dict=none/\o.data=.seq aW n/\aW.size<=sizeLine/\Vals vs aW.toList
def sU.sq{O:υ}(h:sU K H O a vs):gN K H a vs:=by
 obtain h|h:=h
 exact .inl h.1;exact .inr h
def AJ(H:Hp)(O:υ)(a:Addr)(u:HO):Prop:=H a=some u/\a∉O
def nV(nh:List Key×Key->Int)(a:Addr)(xs:List ((List Key×Key)×Addr×Value)):Heap->Prop:=λh=>∃o es ep,h.get? a=some o/\o.ExactDict/\o.data=.dict es ep/\es.toList=xs.map (λx=>⟨nh x.1,.ref x.2.1,x.2.2⟩)/\(xs.map (·.1)).Nodup
def pG(K:Γ)(H:Hp)(c:List Key×Key)(b:Addr):Prop:=∃d,fB K H b [.ref d,kV c.2]/\fB K H d (c.1.map kV)
mutual
noncomputable def At(K:Γ)(H:Hp)(O:υ):T->V->Prop
 |.aO,v=>v=.aO
 |.bl b,v=>v=.bl b
 |.int i,v=>v=.int i
 |.str x,v=>v=.str x
 |.ob a,v=>v=.ref a
 |.ty n,v=>v=.ty n
 |.tup ts,v=>∃a vs,v=.ref a/\fB K H a vs/\aA K H O ts vs
 |.lst ts,v=>∃a vs,v=.ref a/\sU K H O a vs/\aA K H O ts vs
 |.dk ks ts,v=>∃a vs,v=.ref a/\ks.length=vs.length/\AJ H O a (.dK (ks.zip vs))/\aA K H O ts vs
 |.dc nh ks ts,v=>∃a xs vs,v=.ref a/\AJ H O a (.ext (nV nh a xs))/\ks=xs.map (·.1)/\(a==sysModules)=false/\(∀x∈xs,pG K H x.1 x.2.1)/\Vals vs (xs.map (·.2.2))/\aA K H O ts vs
 |.pin a t,v=>v=.ref a/\At K H O t v
 |.ins C ns ts,v=>∃a dx vs,v=.ref a/\ns.length=vs.length/\AJ H O a (.ins C dx (ns.zip vs))/\aA K H O ts vs
noncomputable def aA(K:Γ)(H:Hp)(O:υ):List T->v9->Prop
 |[],vs=>vs=[]
 |t::ts,vs=>∃v r,vs=v::r/\At K H O t v/\aA K H O ts r
end
section
variable{O O':υ}
mutual
theorem At.map(hl:∀a vs,sU K H O a vs->sU K H' O' a vs)(ht:∀a vs,fB K H a vs->fB K H' a vs)(hd:∀a u,AJ H O a u->AJ H' O' a u):∀{t:T}{v:V},At K H O t v->At K H' O' t v
 |.aO,_,h=>by simpa only[At] using h
 |.bl _,_,h=>by simpa only[At] using h
 |.int _,_,h=>by simpa only[At] using h
 |.str _,_,h=>by simpa only[At] using h
 |.ob _,_,h=>by simpa only[At] using h
 |.ty _,_,h=>by simpa only[At] using h
 |.tup ts,_,h=>by simp only[At] at h ⊢;obtain⟨a,vs,e,h1,h2⟩:=h;exact⟨a,vs,e,ht a vs h1,aA.map hl ht hd h2⟩
 |.lst ts,_,h=>by simp only[At] at h ⊢;obtain⟨a,vs,e,h1,h2⟩:=h;exact⟨a,vs,e,hl a vs h1,aA.map hl ht hd h2⟩
 |.dk ks ts,_,h=>by simp only[At] at h ⊢;obtain⟨a,vs,e,h0,h1,h2⟩:=h;exact⟨a,vs,e,h0,hd _ _ h1,aA.map hl ht hd h2⟩
 |.dc nh ks ts,_,h=>by simp only[At] at h ⊢;obtain⟨a,xs,vs,e,h0,h1,hm,h2,h3,h4⟩:=h;exact⟨a,xs,vs,e,hd _ _ h0,h1,hm,λx hx=>let ⟨d,q1,q2⟩:=h2 x hx;⟨d,ht _ _ q1,ht _ _ q2⟩,h3,aA.map hl ht hd h4⟩
 |.pin a t,_,h=>by simp only[At] at h ⊢;exact⟨h.1,At.map hl ht hd h.2⟩
 |.ins C ns ts,_,h=>by simp only[At] at h ⊢;obtain⟨a,dx,vs,e,h0,h1,h2⟩:=h;exact⟨a,dx,vs,e,h0,hd _ _ h1,aA.map hl ht hd h2⟩
theorem aA.map(hl:∀a vs,sU K H O a vs->sU K H' O' a vs)(ht:∀a vs,fB K H a vs->fB K H' a vs)(hd:∀a u,AJ H O a u->AJ H' O' a u):∀{ts:List T}{vs:v9},aA K H O ts vs->aA K H' O' ts vs
 |[],_,h=>by simpa only[aA] using h
 |t::ts,_,h=>by simp only[aA] at h ⊢;obtain⟨v,r,e,h1,h2⟩:=h;exact⟨v,r,e,At.map hl ht hd h1,aA.map hl ht hd h2⟩
end
def Rd.same{u:HO}(s:aV H H')(h:Rd H a u):Rd H' a u:=by
 obtain h|⟨o,h⟩:=h
 exact .inl (s _ _ h);exact .inr ⟨o,s _ _ h⟩
def fB.same(s:aV H H')(h:fB K H a vs):fB K H' a vs:=by
 obtain h|h:=h
 exact .inl (Rd.same s h);exact .inr h
def sU.same(s:aV H H')(h:sU K H O a vs):sU K H' O a vs:=by
 obtain h|h:=h
 exact .inl ⟨Rd.same s h.1,h.2⟩;exact .inr h
def At.same{t:T}(s:aV H H')(h:At K H O t v):At K H' O t v:=At.map (λ_ _ q=>q.same s) (λ_ _ q=>fB.same s q) (λ_ _ q=>⟨s _ _ q.1,q.2⟩) h
def aA.same{t:List T}{v:v9}(s:aV H H')(h:aA K H O t v):aA K H' O t v:=aA.map (λ_ _ q=>q.same s) (λ_ _ q=>fB.same s q) (λ_ _ q=>⟨s _ _ q.1,q.2⟩) h
def At.bz{t:T}(s:∀a∈O',a∈O)(h:At K H O t v):At K H O' t v :=
 At.map (λa vs q=>q.elim (λz=>.inl ⟨z.1,λm=>z.2 (s a m)⟩) .inr) (λ_ _ q=>q) (λa _ q=>⟨q.1,λm=>q.2 (s a m)⟩) h
def aA.bz{t:List T}{v:v9}(s:∀a∈O',a∈O)(h:aA K H O t v):aA K H O' t v :=
 aA.map (λa vs q=>q.elim (λz=>.inl ⟨z.1,λm=>z.2 (s a m)⟩) .inr) (λ_ _ q=>q) (λa _ q=>⟨q.1,λm=>q.2 (s a m)⟩) h
def Rd.some{u:HO}(h:Rd H a u):H a≠none:=by obtain h|⟨o,h⟩:=h<;>rw[h]<;>simp
def At.more{t:T}(s:∀a∈O',a∈O\/H a=none)(h:At K H O t v):At K H O' t v :=
 At.map (λa vs q=>q.elim (λz=>.inl ⟨z.1,λm=>(s a m).elim z.2 (Rd.some z.1)⟩) .inr) (λ_ _ q=>q) (λa aQ q=>⟨q.1,λm=>(s a m).elim q.2 (by rw[q.1];simp)⟩) h
def aA.more{t:List T}{v:v9}(s:∀a∈O',a∈O\/H a=none)(h:aA K H O t v):aA K H O' t v :=
 aA.map (λa vs q=>q.elim (λz=>.inl ⟨z.1,λm=>(s a m).elim z.2 (Rd.some z.1)⟩) .inr) (λ_ _ q=>q) (λa aQ q=>⟨q.1,λm=>(s a m).elim q.2 (by rw[q.1];simp)⟩) h
noncomputable def kA:HO->Bool
 |.lst _=>true
 |.dK _=>true
 |.dT _=>true
 |.ins _ _ _=>true
 |.ext _=>true
 |_=>false
def At.wrote{t:T}{o u:HO}(ha:a∈O)(hu:H a=some u)(hm:kA u=true)(h:At K H O t v):At K (upd H a o) O t v:=by
 have ne:∀b,b∉O->b≠a:=λb hb e=>hb (by rw[e];exact ha);refine At.map (λb vs q=>?_) (λb vs q=>?_) (λb aQ q=>?_) h;obtain q|q:=q
 refine .inl ⟨?_,q.2⟩;obtain z|⟨o',z⟩:=q.1
 exact .inl (by rw[aB (ne b q.2)];exact z);exact .inr ⟨o',by rw[aB (ne b q.2)];exact z⟩;exact .inr q;obtain z|z:=q
 refine .inl ?_;obtain z|⟨o',z⟩:=z
 exact .inl (by rw[aB (Gx z hu (by intro e;subst e;cases hm))];exact z);exact .inr ⟨o',by rw[aB (Gx z hu (by intro e;subst e;cases hm))];exact z⟩;exact .inr z;exact⟨by rw[aB (ne b q.2)];exact q.1,q.2⟩
def aA.iff{ts:List T}:∀{vs:v9},aA K H O ts vs↔Paired (λv t=>At K H O t v) vs ts:=by
 induction ts with
 |nil=>intro vs;simp only[aA];exact⟨λe=>by subst e;exact .nil,λh=>by cases h;rfl⟩
 |cons t ts ih=>
  intro vs;simp only[aA];constructor;rintro⟨v,r,rfl,h1,h2⟩;exact .cons h1 (ih.mp h2);intro h;cases h with
  |cons h1 h2=>exact⟨_,_,rfl,h1,ih.mpr h2⟩
def aA.wrote{t:List T}{v:v9}{o u:HO}(ha:a∈O)(hu:H a=some u)(hm:kA u=true)(h:aA K H O t v):aA K (upd H a o) O t v :=
 aA.iff.mpr (Paired.nM (aA.iff.mp h) λ_ _ q=>q.wrote ha hu hm)
def aA.length{ts:List T}{vs:v9}(h:aA K H O ts vs):vs.length=ts.length:=Q3 (aA.iff.mp h)
def aA.get{ts:List T}{vs:v9}(h:aA K H O ts vs){i:Nat}{t:T}(e:ts[i]?=some t):∃v,vs[i]?=some v/\At K H O t v:=by
 have q:=aA.iff.mp h;clear h;induction q generalizing i with
 |nil=>simp at e
 |cons r _ ih=>
  cases i with
  |zero=>simp at e;subst e;exact⟨_,rfl,r⟩
  |succ i=>obtain⟨v,h1,h2⟩:=ih (i:=i) (by simpa using e);exact⟨v,by simpa using h1,h2⟩
def aA.cons{t:T}{ts:List T}{v:V}{vs:v9}(h:At K H O t v)(hs:aA K H O ts vs):aA K H O (t::ts) (v::vs):=by simp only[aA];exact⟨v,vs,rfl,h,hs⟩
def aA.nil:aA K H O [] []:=by simp only[aA]
def aA.append{ts us:List T}{ws:v9}(h:aA K H O ts vs)(h':aA K H O us ws):aA K H O (ts++us) (vs++ws):=by
 rw[aA.iff] at h h' ⊢;induction h with
 |nil=>exact h'
 |cons r _ ih=>exact .cons r ih
def aA.drop{ts:List T}(n:Nat)(h:aA K H O ts vs):aA K H O (ts.drop n) (vs.drop n):=by
 rw[aA.iff] at h ⊢;induction h generalizing n with
 |nil=>cases n<;>exact .nil
 |cons r t ih=>cases n with
  |zero=>exact .cons r t
  |succ n=>exact ih n
def aA.take{ts:List T}(n:Nat)(h:aA K H O ts vs):aA K H O (ts.take n) (vs.take n):=by
 rw[aA.iff] at h ⊢;induction h generalizing n with
 |nil=>cases n<;>exact .nil
 |cons r t ih=>cases n with
  |zero=>exact .nil
  |succ n=>exact .cons r (ih n)
def aA.set{ts:List T}{t:T}(i:Nat)(h:aA K H O ts vs)(q:At K H O t v):aA K H O (ts.set i t) (vs.set i v):=by
 rw[aA.iff] at h ⊢;induction h generalizing i with
 |nil=>exact .nil
 |cons r s ih=>cases i with
  |zero=>exact .cons q s
  |succ i=>exact .cons r (ih i)
end
mutual
noncomputable def bZ:T->Bool
 |.tup ts=>eG ts
 |.lst _=>false
 |.dk _ _=>false
 |.dc _ _ _=>false
 |.ins _ _ _=>false
 |.pin _ _=>false
 |_=>true
noncomputable def eG:List T->Bool
 |[]=>true
 |t::ts=>bZ t && eG ts
end
section
variable{O O':υ}
mutual
theorem At.bZ:∀{t:T}{v:V},bZ t=true->At K H O t v->At K H O' t v
 |.aO,_,_,h=>by simpa only[At] using h
 |.bl _,_,_,h=>by simpa only[At] using h
 |.int _,_,_,h=>by simpa only[At] using h
 |.str _,_,_,h=>by simpa only[At] using h
 |.ob _,_,_,h=>by simpa only[At] using h
 |.ty _,_,_,h=>by simpa only[At] using h
 |.tup ts,_,i,h=>by simp only[At] at h ⊢;simp only[VT.bZ] at i;obtain⟨a,vs,e,h1,h2⟩:=h;exact⟨a,vs,e,h1,aA.bZ i h2⟩
 |.lst ts,_,i,h=>by simp only[VT.bZ] at i;cases i
 |.dk _ _,_,i,h=>by simp only[VT.bZ] at i;cases i
 |.dc _ _ _,_,i,h=>by simp only[VT.bZ] at i;cases i
 |.ins _ _ _,_,i,h=>by simp only[VT.bZ] at i;cases i
 |.pin _ _,_,i,h=>by simp only[VT.bZ] at i;cases i
theorem aA.bZ:∀{ts:List T}{vs:v9},eG ts=true->aA K H O ts vs->aA K H O' ts vs
 |[],_,_,h=>by simpa only[aA] using h
 |t::ts,_,i,h=>by simp only[VT.eG,lY] at i;simp only[aA] at h ⊢;obtain⟨v,r,e,h1,h2⟩:=h;exact⟨v,r,e,At.bZ i.1 h1,aA.bZ i.2 h2⟩
end
end
abbrev En:=List (Option (T×Bool))
structure Zc where
 H0:Hp
 P:List (Nat×Addr)
 Ox:υ
noncomputable def Zc.ex(Z:Zc)(a:Addr):Zc:={Z with Ox:=a::Z.Ox}
def c5(K:Γ)(H:Hp)(A:υ)(a:Addr):T->Prop
 |.lst ts=>∃vs,H a=some (.lst vs)/\aA K H A ts vs
 |.dk ks ts=>∃vs,ks.length=vs.length/\H a=some (.dK (ks.zip vs))/\aA K H A ts vs
 |.ins C ns ts=>∃dx vs,ns.length=vs.length/\H a=some (.ins C dx (ns.zip vs))/\aA K H A ts vs
 |_=>False
def nW(K:Γ)(H:Hp)(A:υ):Option (T×Bool)->qar->Option V->Prop
 |none,o,_=>o=none
 |some (t,false),o,s=>o=none/\∃v,s=some v/\At K H A t v
 |some (t,true),o,s=>∃a,o=some a/\s=some (.ref a)/\c5 K H A a t
noncomputable def roots(O:HD):υ:=O.filterMap id
noncomputable def av(Z:Zc)(O:HD):υ:=roots O++Z.Ox
structure ay(K:Γ)(Z:Zc)(tm:List (T×V))(O:HD)(ρ:En)(σ:St)(H:Hp):Prop where
 lσ:σ.length=ρ.length
 lO:O.length=ρ.length
 sl:∀(i:Nat) e,ρ[i]?=some e->∃o s,O[i]?=some o/\σ[i]?=some s/\nW K H (av Z O) e o s
 nd:(roots O).Nodup
 own:∀a∈roots O,(a∈Z.P.map (·.2)\/Z.H0 a=none)/\a∉Z.Ox/\∃u,H a=some u/\kA u=true
 par:∀p∈Z.P,O[p.1]?=some (some p.2)
 ox:∀a∈Z.Ox,H a≠none
 keep:∀b o,Z.H0 b=some o->b∉Z.P.map (·.2)->H b=some o
 sI:∀p∈tm,At K H (av Z O) p.1 p.2
section
variable{Z:Zc}{tm:List (T×V)}{ρ:En}
def c5.map{A A':υ}{t:T}(h:c5 K H A a t)(h1:H' a=H a)(h2:∀ts vs,aA K H A ts vs->aA K H' A' ts vs):c5 K H' A' a t:=by
 cases t with
 |lst ts=>obtain⟨vs,e,q⟩:=h;exact⟨vs,h1.trans e,h2 _ _ q⟩
 |dk ks ts=>obtain⟨vs,l,e,q⟩:=h;exact⟨vs,l,h1.trans e,h2 _ _ q⟩
 |ins C ns ts=>obtain⟨dx,vs,l,e,q⟩:=h;exact⟨dx,vs,l,h1.trans e,h2 _ _ q⟩
 |_=>exact h.elim
def c5.mut{A:υ}{t:T}(h:c5 K H A a t):∃u,H a=some u/\kA u=true:=by
 cases t with
 |lst ts=>obtain⟨vs,e,q⟩:=h;exact⟨_,e,rfl⟩
 |dk ks ts=>obtain⟨vs,l,e,q⟩:=h;exact⟨_,e,rfl⟩
 |ins C ns ts=>obtain⟨dx,vs,l,e,q⟩:=h;exact⟨_,e,rfl⟩
 |_=>exact h.elim
def c5.bz{A A':υ}{t:T}(h:c5 K H A a t)(s:∀b∈A',b∈A):c5 K H A' a t:=h.map rfl λ_ _ q=>q.bz s
def c5.same{A:υ}{t:T}(h:c5 K H A a t)(s:aV H H'):c5 K H' A a t:=by obtain⟨u,e,_⟩:=h.mut;exact h.map (by rw[e];exact s _ _ e) λ_ _ q=>q.same s
def c5.at{A:υ}{t:T}(h:c5 K H A a t)(n:a∉A):At K H A t (.ref a):=by
 cases t with
 |lst ts=>obtain⟨vs,e,q⟩:=h;simp only[At];exact⟨a,vs,rfl,.inl ⟨.inl e,n⟩,q⟩
 |dk ks ts=>obtain⟨vs,l,e,q⟩:=h;simp only[At];exact⟨a,vs,rfl,l,⟨e,n⟩,q⟩
 |ins C ns ts=>obtain⟨dx,vs,l,e,q⟩:=h;simp only[At];exact⟨a,dx,vs,rfl,l,⟨e,n⟩,q⟩
 |_=>exact h.elim
def nW.map{A A':υ}{e:Option (T×Bool)}{o:qar}{s:Option V}(h:nW K H A e o s)(h1:∀t v,At K H A t v->At K H' A' t v)(h2:∀a t,o=some a->c5 K H A a t->c5 K H' A' a t):nW K H' A' e o s:=by
 match e,h with
 |none,h=>exact h
 |some (t,false),⟨e,v,es,q⟩=>exact⟨e,v,es,h1 _ _ q⟩
 |some (t,true),⟨a,e,es,q⟩=>exact⟨a,e,es,h2 _ _ e q⟩
def aN:a∈roots O↔some a∈O:=by unfold roots;rw[ZX];exact⟨λ⟨x,h,e⟩=>by rw[id] at e;rw[<- e];exact h,λh=>⟨_,h,rfl⟩⟩
def ay.z7(I:ay K Z tm O ρ σ H):∀a∈av Z O,H a≠none:=λa h=>by
 rcases cR.mp h with h|h
 obtain⟨_,_,u,e,_⟩:=I.own a h;rw[e];simp;exact I.ox a h
def ay.same(I:ay K Z tm O ρ σ H)(s:aV H H'):ay K Z tm O ρ σ H' :=
 ⟨I.lσ,I.lO,λi e h=>let ⟨o,w,h1,h2,h3⟩:=I.sl i e h;⟨o,w,h1,h2,h3.map (λ_ _ q=>q.same s) λ_ _ _ q=>q.same s⟩,I.nd,
  λa h=>let ⟨h1,h2,u,e,m⟩:=I.own a h;⟨h1,h2,u,s _ _ e,m⟩,I.par,λa h=>by
   cases e:H a with
   |none=>exact absurd e (I.ox a h)
   |some u=>rw[s _ _ e];simp,
  λb o e n=>s _ _ (I.keep b o e n),λp hp=>(I.sI p hp).same s⟩
def cq(i:Nat):∀a∈roots (O.set i none),a∈roots O:=λa h=>by
 rw[aN] at h ⊢;rcases QQ h with z|z
 exact z;cases z
theorem gW:∀(O:HD)(i:Nat),(roots O).Nodup->(roots (O.set i none)).Nodup
 |[],i,h=>by simpa using h
 |o::O,0,h=>by
  cases o with
  |none=>simpa[roots] using h
  |some a=>simp only[roots,Pc,kr,id] at h ⊢;exact (lU.mp h).2
 |o::O,i+1,h=>by
  have key:=gW O i;cases o with
  |none=>simp only[roots,Gv,kr,id] at h ⊢;exact key h
  |some a=>simp only[roots,Gv,kr,id] at h ⊢;rw[lU] at h ⊢;exact⟨λz=>h.1 (cq i a z),key h.2⟩
def c_(i:Nat):∀a∈av Z (O.set i none),a∈av Z O:=λa h=>by
 rcases cR.mp h with h|h
 exact cW _ (cq i a h);exact cb _ h
def get_set{l:List α}{x y:α}(h:(l.set i x)[j]?=some y):(j=i/\y=x/\i<l.length)\/(j≠i/\l[j]?=some y):=by rw[Z2] at h;by_cases e:i=j;rw[ε e] at h;by_cases hl:i<l.length;rw[ε hl] at h;exact .inl ⟨e.symm,(Option.some.inj h).symm,hl⟩;rw[ζ hl] at h;cases h;rw[ζ e] at h;exact .inr ⟨λz=>e z.symm,h⟩
def ay.put(I:ay K Z tm O ρ σ H){t:T}(hp:∀p∈Z.P,p.1≠i)(hv:At K H (av Z O) t v):ay K Z tm (O.set i none) (ρ.set i (some (t,false))) (σ.set i (some v)) H:=by
 have fw:∀{t:T}{v:V},At K H (av Z O) t v->At K H (av Z (O.set i none)) t v:=λq=>q.bz (c_ i);refine⟨by simp[I.lσ],by simp[I.lO],λj e h=>?_,gW _ _ I.nd,λa h=>I.own a (cq i a h),λp q=>?_,I.ox,I.keep,λp q=>fw (I.sI p q)⟩;rcases get_set h with⟨rfl,rfl,hl⟩|⟨ne,h⟩
 exact⟨none,some v,by rw[DW (by rw[I.lO];exact hl)],by rw[DW (by rw[I.lσ];exact hl)],rfl,v,rfl,fw hv⟩;obtain⟨o,s,h1,h2,h3⟩:=I.sl j e h;exact⟨o,s,by rw[xi (Ne.symm ne)];exact h1,by rw[xi (Ne.symm ne)];exact h2,h3.map (λ_ _ q=>fw q) λ_ _ _ q=>q.bz (c_ i)⟩;rw[xi (Ne.symm (hp p q))];exact I.par p q
def ay.forget(I:ay K Z tm O ρ σ H)(hp:∀p∈Z.P,p.1≠i):ay K Z tm (O.set i none) (ρ.set i none) σ H:=by
 have fw:∀{t:T}{v:V},At K H (av Z O) t v->At K H (av Z (O.set i none)) t v:=λq=>q.bz (c_ i);refine⟨by simp[I.lσ],by simp[I.lO],λj e h=>?_,gW _ _ I.nd,λa h=>I.own a (cq i a h),λp q=>?_,I.ox,I.keep,λp q=>fw (I.sI p q)⟩;rcases get_set h with⟨rfl,rfl,hl⟩|⟨ne,h⟩
 obtain⟨s,hs⟩:∃s,σ[j]?=some s:=⟨σ[j]'(by rw[I.lσ];exact hl),by simp⟩;exact⟨none,s,by rw[DW (by rw[I.lO];exact hl)],hs,rfl⟩;obtain⟨o,s,h1,h2,h3⟩:=I.sl j e h;exact⟨o,s,by rw[xi (Ne.symm ne)];exact h1,h2,h3.map (λ_ _ q=>fw q) λ_ _ _ q=>q.bz (c_ i)⟩;rw[xi (Ne.symm (hp p q))];exact I.par p q
theorem oY:∀(O:HD)(i:Nat)(a:Addr),a∉roots O->(roots O).Nodup->(roots (O.set i (some a))).Nodup
 |[],i,a,_,h=>by simpa using h
 |o::O,0,a,n,h=>by
  cases o with
  |none=>simp only[roots,Pc,kr,id] at n h ⊢;exact lU.mpr ⟨n,h⟩
  |some b=>simp only[roots,Pc,kr,id] at n h ⊢;exact lU.mpr ⟨λz=>n (gT _ z),(lU.mp h).2⟩
 |o::O,i+1,a,n,h=>by
  have key:=oY O i a;cases o with
  |none=>simp only[roots,Gv,kr,id] at n h ⊢;exact key n h
  |some b=>
   simp only[roots,Gv,kr,id] at n h ⊢;rw[lU] at h ⊢;refine⟨λz=>?_,key (λz=>n (gT _ z)) h.2⟩;have z':some b∈O.set i (some a):=aN.mp z;rcases QQ z' with q|q
   exact h.1 (aN.mpr q);exact n (by rw[Option.some.inj q];exact dD)
def xO(i:Nat):∀b∈av Z (O.set i (some a)),b∈av (Z.ex a) O:=λb h=>by
 rcases cR.mp h with h|h
 rcases QQ (aN.mp h) with z|z
 exact cW _ (aN.mpr z);exact cb _ (by rw[Option.some.inj z];exact dD);exact cb _ (gT _ h)
def ay.adg(I:ay K (Z.ex a) tm O ρ σ H){t:T}(hp:∀p∈Z.P,p.1≠i)(hv:c5 K H (av (Z.ex a) O) a t)(h0:Z.H0 a=none)(hx:a∉Z.Ox):ay K Z tm (O.set i (some a)) (ρ.set i (some (t,true))) (σ.set i (some (.ref a))) H:=by
 have sub:=xO (Z:=Z) (O:=O) (a:=a) i;have fw:∀{t:T}{v:V},At K H (av (Z.ex a) O) t v->At K H (av Z (O.set i (some a))) t v:=λq=>q.bz sub;have na:a∉roots O:=λz=>(I.own a z).2.1 dD;refine⟨by simp[I.lσ],by simp[I.lO],λj e h=>?_,oY _ _ _ na I.nd,λb h=>?_,λp q=>?_,λb h=>I.ox b (gT _ h),I.keep,λp q=>fw (I.sI p q)⟩;rcases get_set h with⟨rfl,rfl,hl⟩|⟨ne,h⟩
 exact⟨some a,some (.ref a),by rw[DW (by rw[I.lO];exact hl)],by rw[DW (by rw[I.lσ];exact hl)],a,rfl,rfl,hv.bz sub⟩;obtain⟨o,s,h1,h2,h3⟩:=I.sl j e h;exact⟨o,s,by rw[xi (Ne.symm ne)];exact h1,by rw[xi (Ne.symm ne)];exact h2,h3.map (λ_ _ q=>fw q) λ_ _ _ q=>q.bz sub⟩;rcases QQ (aN.mp h) with z|z
 obtain⟨h1,h2,h3⟩:=I.own b (aN.mpr z);exact⟨h1,λq=>h2 (gT _ q),h3⟩;cases z;exact⟨.inr h0,hx,hv.mut⟩;rw[xi (Ne.symm (hp p q))];exact I.par p q
def ay.D2(I:ay K Z tm O ρ σ H){t:T}(hp:∀p∈Z.P,p.1≠i)(hi:ρ[i]?=some (some (t,true))):ay K Z tm (O.set i none) (ρ.set i (some (t,false))) σ H:=by
 have fw:∀{t:T}{v:V},At K H (av Z O) t v->At K H (av Z (O.set i none)) t v:=λq=>q.bz (c_ i);obtain⟨o,s,h1,h2,a,rfl,rfl,hr⟩:=I.sl i _ hi;have ha:a∈roots O:=aN.mpr (gM h1);have na:a∉roots (O.set i none):=λz=>by
  obtain⟨j,hj⟩:=We.mp (aN.mp z);rcases get_set hj with⟨_,q,_⟩|⟨ne,q⟩
  cases q
  -- two places of one root
  have key:∀(O:HD)(i j:Nat),i<j->O[i]?=some (some a)->O[j]?=some (some a)->(roots O).Nodup->False:=by
   intro O;induction O with
   |nil=>intro i j _ h;simp at h
   |cons o O ih=>
    intro i j hij e1 e2 nd;cases j with
    |zero=>omega
    |succ j=>
     have Lo:O[j]?=some (some a):=by simpa using e2
     cases i with
     |zero=>
      have:o=some a:=by simpa using e1
      subst this;simp only[roots,kr,id] at nd;exact (lU.mp nd).1 (aN.mpr (gM Lo))
     |succ i=>
      refine ih i j (by omega) (by simpa using e1) Lo ?_;cases o with
      |none=>simpa[roots] using nd
      |some b=>simp only[roots,kr,id] at nd;exact (lU.mp nd).2
  rcases Nat.lt_or_gt_of_ne ne with l|l
  exact key O j i l q h1 I.nd;exact key O i j l h1 q I.nd
 have nav:a∉av Z (O.set i none):=λz=>by
  rcases cR.mp z with z|z
  exact na z;exact (I.own a ha).2.1 z
 refine⟨by simp[I.lσ],by simp[I.lO],λj e h=>?_,gW _ _ I.nd,λa h=>I.own a (cq i a h),λp q=>?_,I.ox,I.keep,λp q=>fw (I.sI p q)⟩;rcases get_set h with⟨rfl,rfl,hl⟩|⟨ne,h⟩
 exact⟨none,some (.ref a),by rw[DW (by rw[I.lO];exact hl)],h2,rfl,.ref a,rfl,(hr.bz (c_ j)).at nav⟩;obtain⟨o,s,h1,h2,h3⟩:=I.sl j e h;exact⟨o,s,by rw[xi (Ne.symm ne)];exact h1,h2,h3.map (λ_ _ q=>fw q) λ_ _ _ q=>q.bz (c_ i)⟩;rw[xi (Ne.symm (hp p q))];exact I.par p q
def ay.wrote(I:ay K Z tm O ρ σ H){t t':T}{u:HO}(hi:ρ[i]?=some (some (t,true)))(hO:O[i]?=some (some a))(hr:c5 K (upd H a u) (av Z O) a t'):ay K Z tm O (ρ.set i (some (t',true))) σ (upd H a u):=by
 have ha:a∈roots O:=aN.mpr (gM hO);have Md:a∈av Z O:=cW _ ha;obtain⟨hP,hx,u0,e0,m0⟩:=I.own a ha;have inj:∀j b,j≠i->O[j]?=some (some b)->b≠a:=by
  intro j b ne hj e;subst e;have key:∀(O:HD)(i j:Nat),i<j->O[i]?=some (some b)->O[j]?=some (some b)->(roots O).Nodup->False:=by
   intro O;induction O with
   |nil=>intro i j _ h;simp at h
   |cons o O ih=>
    intro i j hij e1 e2 nd;cases j with
    |zero=>omega
    |succ j=>
     have Lo:O[j]?=some (some b):=by simpa using e2
     cases i with
     |zero=>
      have:o=some b:=by simpa using e1
      subst this;simp only[roots,kr,id] at nd;exact (lU.mp nd).1 (aN.mpr (gM Lo))
     |succ i=>
      refine ih i j (by omega) (by simpa using e1) Lo ?_;cases o with
      |none=>simpa[roots] using nd
      |some c=>simp only[roots,kr,id] at nd;exact (lU.mp nd).2
  rcases Nat.lt_or_gt_of_ne ne with l|l
  exact key O j i l hj hO I.nd;exact key O i j l hO hj I.nd
 refine⟨by simp[I.lσ],by simp[I.lO],λj e h=>?_,I.nd,λb h=>?_,I.par,λb h=>?_,λb o e n=>?_,λp q=>(I.sI p q).wrote Md e0 m0⟩;rcases get_set h with⟨rfl,rfl,hl⟩|⟨ne,h⟩
 obtain⟨o,s,h1,h2,a',h4,h5,h6⟩:=I.sl j _ hi;rw[hO] at h1;cases h1;cases h4;exact⟨_,s,hO,h2,a,rfl,h5,hr⟩;obtain⟨o,s,h1,h2,h3⟩:=I.sl j e h;refine⟨o,s,h1,h2,h3.map (λ_ _ q=>q.wrote Md e0 m0) λb t e q=>?_⟩;subst e;exact q.map (aB (inj j b ne h1)) λ_ _ z=>z.wrote Md e0 m0;obtain⟨h1,h2,v,e,m⟩:=I.own b h;by_cases hb:b=a;subst hb;exact⟨h1,h2,hr.mut⟩;exact⟨h1,h2,v,by rw[aB hb];exact e,m⟩;by_cases hb:b=a;subst hb;exact absurd h hx;rw[aB hb];exact I.ox b h;by_cases hb:b=a;subst hb;obtain q|q:=hP
 exact absurd q n;rw[q] at e;cases e;rw[aB hb];exact I.keep b o e n
def ay.fresh(I:ay K Z tm O ρ σ H)(h:H a=none):a∉av Z O/\a∉Z.Ox/\Z.H0 a=none:=by
 refine⟨λz=>I.z7 a z h,λz=>I.ox a z h,?_⟩;cases e:Z.H0 a with
 |none=>rfl
 |some o=>by_cases hp:a∈Z.P.map (·.2);obtain⟨p,R7,rfl⟩:=xn.mp hp;obtain⟨_,_,u,e',_⟩:=I.own p.2 (aN.mpr (gM (I.par p R7)));rw[h] at e';cases e';rw[I.keep a o e hp] at h;cases h
def dQ:∀b∈av (Z.ex a) O,b∈av Z O\/b=a:=λb h=>by
 rcases cR.mp h with h|h
 exact .inl (cW _ h);rcases c0.mp h with h|h
 exact .inr h;exact .inl (cb _ h)
def iB:∀b∈av Z O,b∈av (Z.ex a) O:=λb h=>by
 rcases cR.mp h with h|h
 exact cW _ h;exact cb _ (gT _ h)
def ay.new(I:ay K Z tm O ρ σ H){u:HO}(h:H a=none)(hu:kA u=true):ay K (Z.ex a) tm O ρ σ (upd H a u):=by
 have s:aV H (upd H a u):=aH h;have J:=I.same s;obtain⟨n1,n2,n3⟩:=I.fresh h;have mr:∀b∈av (Z.ex a) O,b∈av Z O\/H b=none:=λb hb=>(dQ b hb).imp id λe=>by rw[e];exact h
 have fw:∀{t:T}{v:V},At K H (av Z O) t v->At K (upd H a u) (av (Z.ex a) O) t v:=λq=>(q.more mr).same s;refine⟨J.lσ,J.lO,λi e hi=>?_,J.nd,λb hb=>?_,J.par,λb hb=>?_,J.keep,λp hp=>fw (I.sI p hp)⟩;obtain⟨o,w,h1,h2,h3⟩:=I.sl i e hi;refine⟨o,w,h1,h2,h3.map (λ_ _ q=>fw q) λb t eo q=>?_⟩;refine c5.same (q.map rfl λ_ _ z=>z.more mr) s;obtain⟨q1,q2,q3⟩:=J.own b hb;refine⟨q1,λz=>?_,q3⟩;rcases c0.mp z with z|z
 exact n1 (by rw[<- z];exact cW _ hb);exact q2 z;rcases c0.mp hb with z|z
 rw[z,aG];simp;exact J.ox b z
def ay.adh(I:ay K (Z.ex a) tm O ρ σ H):ay K Z tm O ρ σ H :=
 ⟨I.lσ,I.lO,λi e h=>let ⟨o,w,h1,h2,h3⟩:=I.sl i e h;⟨o,w,h1,h2,h3.map (λ_ _ q=>q.bz iB) λ_ _ _ q=>q.bz iB⟩,I.nd,
  λb h=>let ⟨q1,q2,q3⟩:=I.own b h;⟨q1,λz=>q2 (gT _ z),q3⟩,I.par,λb h=>I.ox b (gT _ h),I.keep,λp hp=>(I.sI p hp).bz iB⟩
end
inductive Rt where
 |vw (t:T)
 |fr (t:T)
def Rt.t:Rt->T
 |.vw t=>t
 |.fr t=>t
def jo(K:Γ)(H:Hp)(A:υ)(t:T)(v:V):Prop:=At K H A t v\/∃a,v=.ref a/\c5 K H A a t
def iR(K:Γ)(Z:Zc)(tm:List (T×V))(O:HD)(ρ:En)(σ:St)(H:Hp):Rt->V->Prop
 |.vw t,v=>ay K Z tm O ρ σ H/\At K H (av Z O) t v
 |.fr t,v=>∃a,v=.ref a/\ay K (Z.ex a) tm O ρ σ H/\c5 K H (av (Z.ex a) O) a t/\Z.H0 a=none/\a∉Z.Ox
abbrev FE:=En->(T->Prop)->Prop
abbrev FP:=En->(Rt->Prop)->Prop
abbrev FX:=En->(En->Rt->Prop)->Prop
abbrev FB:=En->(Bool->Prop)->Prop
abbrev FA:=En->(List T->Prop)->Prop
section
variable{Z:Zc}{tm:List (T×V)}{ρ:En}{A:υ}
def jo.same{t:T}(s:aV H H')(h:jo K H A t v):jo K H' A t v:=h.imp (λq=>q.same s) λ⟨a,e,q⟩=>⟨a,e,q.same s⟩
def jo.lst{ts:List T}(h:jo K H A (.lst ts) v):∃a vs,v=.ref a/\gN K H a vs/\aA K H A ts vs:=by
 obtain h|⟨a,rfl,vs,e,q⟩:=h
 simp only[At] at h;obtain⟨a,vs,rfl,l,q⟩:=h;exact⟨a,vs,rfl,l.sq,q⟩;exact⟨a,vs,rfl,gN.of e,q⟩
def jo.tup{ts:List T}(h:jo K H A (.tup ts) v):∃a vs,v=.ref a/\fB K H a vs/\aA K H A ts vs:=by
 obtain h|⟨a,rfl,q⟩:=h
 simpa only[At] using h;exact q.elim
def jo.dk{ts:List T}(h:jo K H A (.dk ks ts) v):∃a vs,v=.ref a/\ks.length=vs.length/\H a=some (.dK (ks.zip vs))/\aA K H A ts vs:=by
 obtain h|⟨a,rfl,vs,l,e,q⟩:=h
 simp only[At] at h;obtain⟨a,vs,rfl,l,d,q⟩:=h;exact⟨a,vs,rfl,l,d.1,q⟩;exact⟨a,vs,rfl,l,e,q⟩
def jo.dc{nh:List Key×Key->Int}{ks:List (List Key×Key)}{ts:List T}(h:jo K H A (.dc nh ks ts) v):∃a xs vs,v=.ref a/\H a=some (.ext (nV nh a xs))/\ks=xs.map (·.1)/\(a==sysModules)=false/\(∀x∈xs,pG K H x.1 x.2.1)/\Vals vs (xs.map (·.2.2))/\aA K H A ts vs:=by
 obtain h|⟨a,rfl,q⟩:=h
 simp only[At] at h;obtain⟨a,xs,vs,rfl,d,q⟩:=h;exact⟨a,xs,vs,rfl,d.1,q⟩;exact q.elim
def jo.ins{ns:ν}{ts:List T}(h:jo K H A (.ins C ns ts) v):∃a dx vs,v=.ref a/\ns.length=vs.length/\H a=some (.ins C dx (ns.zip vs))/\aA K H A ts vs:=by
 obtain h|⟨a,rfl,dx,vs,l,e,q⟩:=h
 simp only[At] at h;obtain⟨a,dx,vs,rfl,l,d,q⟩:=h;exact⟨a,dx,vs,rfl,l,d.1,q⟩;exact⟨a,dx,vs,rfl,l,e,q⟩
def jo.int{i:Int}(h:jo K H A (.int i) v):v=.int i:=h.elim (λq=>by simpa only[At] using q) λ⟨_,_,q⟩=>q.elim
def jo.str{i:Str}(h:jo K H A (.str i) v):v=.str i:=h.elim (λq=>by simpa only[At] using q) λ⟨_,_,q⟩=>q.elim
def jo.bl{i:Bool}(h:jo K H A (.bl i) v):v=.bl i:=h.elim (λq=>by simpa only[At] using q) λ⟨_,_,q⟩=>q.elim
def jo.aO(h:jo K H A .aO v):v=.aO:=h.elim (λq=>by simpa only[At] using q) λ⟨_,_,q⟩=>q.elim
def jo.ob(h:jo K H A (.ob a) v):v=.ref a:=h.elim (λq=>by simpa only[At] using q) λ⟨_,_,q⟩=>q.elim
def bC{i:Int}:At K H A (.int i) (.int i):=by simp only[At]
def dZ{i:Str}:At K H A (.str i) (.str i):=by simp only[At]
def dW{i:Bool}:At K H A (.bl i) (.bl i):=by simp only[At]
def AK:At K H A .aO .aO:=by simp only[At]
def cP{ts:List T}(h:fB K H a vs)(q:aA K H A ts vs):At K H A (.tup ts) (.ref a):=by simp only[At];exact⟨a,vs,rfl,h,q⟩
def iR.env{r:Rt}(h:iR K Z tm O ρ σ H r v):ay K Z tm O ρ σ H:=by
 cases r with
 |vw t=>exact h.1
 |fr t=>obtain⟨a,_,I,_⟩:=h;exact I.adh
def iR.at{r:Rt}(h:iR K Z tm O ρ σ H r v):At K H (av Z O) r.t v:=by
 cases r with
 |vw t=>exact h.2
 |fr t=>
  obtain⟨a,rfl,I,q,_,hx⟩:=h;refine (q.bz iB).at λz=>?_;rcases cR.mp z with z|z
  exact (I.own a z).2.1 dD;exact hx z
def ay.xP(I:ay K Z tm O ρ σ H){ts:List T}(h:H a=none)(q:aA K H (av Z O) ts vs):iR K Z tm O ρ σ (upd H a (.lst vs)) (.fr (.lst ts)) (.ref a):=by obtain⟨n1,n2,n3⟩:=I.fresh h;exact⟨a,rfl,I.new h rfl,⟨vs,aG,(q.more λb hb=>(dQ b hb).imp id λe=>by rw[e];exact h).same (aH h)⟩,n3,n2⟩
def ay.newD(I:ay K Z tm O ρ σ H){ts:List T}(h:H a=none)(hl:ks.length=vs.length)(q:aA K H (av Z O) ts vs):iR K Z tm O ρ σ (upd H a (.dK (ks.zip vs))) (.fr (.dk ks ts)) (.ref a):=by obtain⟨n1,n2,n3⟩:=I.fresh h;exact⟨a,rfl,I.new h rfl,⟨vs,hl,aG,(q.more λb hb=>(dQ b hb).imp id λe=>by rw[e];exact h).same (aH h)⟩,n3,n2⟩
end
structure Bx(p:List (T×V)->Prop):Prop where
 h:∀tm,p tm
section
variable(X:Cx)(Z:Zc)
noncomputable def lR(tm:List (T×V))(f:FE):TE:=λσ H Q=>∃ρ O q,ay X.K Z tm O ρ σ H/\f ρ q/\∀t,q t->∀v H',aV H H'->jo X.K H' (av Z O) t v->Q v H'
noncomputable def lE(tm:List (T×V))(f:FE):TE:=λσ H Q=>∃ρ O q,ay X.K Z tm O ρ σ H/\f ρ q/\∀t,q t->∀v H',aV H H'->At X.K H' (av Z O) t v->Q v H'
def lP(tm:List (T×V))(f:FP):TE:=λσ H Q=>∃ρ O q,ay X.K Z tm O ρ σ H/\f ρ q/\∀r,q r->∀v H',aV H H'->iR X.K Z tm O ρ σ H' r v->Q v H'
def lX(tm:List (T×V))(f:FX):TE:=λσ H Q=>∃ρ O q,ay X.K Z tm O ρ σ H/\f ρ q/\∀ρ' r,q ρ' r->∀O' v H',iR X.K Z tm O' ρ' σ H' r v->Q v H'
def lB(tm:List (T×V))(f:FB):TT:=λσ H Q=>∃ρ O q,ay X.K Z tm O ρ σ H/\f ρ q/\∀b,q b->∀H',aV H H'->Q b H'
noncomputable def lA(tm:List (T×V))(f:FA):TA:=λσ H Q=>∃ρ O q,ay X.K Z tm O ρ σ H/\f ρ q/\∀ts,q ts->∀vs H',aV H H'->aA X.K H' (av Z O) ts vs->Q vs H'
noncomputable def lAR(tm:List (T×V))(f:FA):TA:=λσ H Q=>∃ρ O q,ay X.K Z tm O ρ σ H/\f ρ q/\∀ts,q ts->∀vs H',aV H H'->Paired (λv t=>jo X.K H' (av Z O) t v) vs ts->Q vs H'
def VR(e:Expr)(f:FE):Prop:=Bx λtm=>PE X e (lR X Z tm f)
instance{e:Expr}{f:FE}:CoeFun (VR X Z e f) λ_=>∀tm,PE X e (lR X Z tm f):=⟨λh=>Bx.h h⟩
def VE(e:Expr)(f:FE):Prop:=Bx λtm=>PE X e (lE X Z tm f)
instance{e:Expr}{f:FE}:CoeFun (VE X Z e f) λ_=>∀tm,PE X e (lE X Z tm f):=⟨λh=>Bx.h h⟩
def VP(e:Expr)(f:FP):Prop:=Bx λtm=>PE X e (lP X Z tm f)
instance{e:Expr}{f:FP}:CoeFun (VP X Z e f) λ_=>∀tm,PE X e (lP X Z tm f):=⟨λh=>Bx.h h⟩
def VX(e:Expr)(f:FX):Prop:=Bx λtm=>PE X e (lX X Z tm f)
instance{e:Expr}{f:FX}:CoeFun (VX X Z e f) λ_=>∀tm,PE X e (lX X Z tm f):=⟨λh=>Bx.h h⟩
def VC(e:Expr)(f:FB):Prop:=Bx λtm=>PT X e (lB X Z tm f)
instance{e:Expr}{f:FB}:CoeFun (VC X Z e f) λ_=>∀tm,PT X e (lB X Z tm f):=⟨λh=>Bx.h h⟩
def VW(e:Expr)(f:FB):Prop:=Bx λtm=>PW X e (lB X Z tm f)
instance{e:Expr}{f:FB}:CoeFun (VW X Z e f) λ_=>∀tm,PW X e (lB X Z tm f):=⟨λh=>Bx.h h⟩
def VA(es:qap)(f:FA):Prop:=Bx λtm=>PA X es (lA X Z tm f)
instance{es:qap}{f:FA}:CoeFun (VA X Z es f) λ_=>∀tm,PA X es (lA X Z tm f):=⟨λh=>Bx.h h⟩
def VB(es:qap)(f:FA):Prop:=Bx λtm=>PA X es (lAR X Z tm f)
instance{es:qap}{f:FA}:CoeFun (VB X Z es f) λ_=>∀tm,PA X es (lAR X Z tm f):=⟨λh=>Bx.h h⟩
end
def PE.weak{t t':TE}(h:PE X e t)(hw:∀σ H Q,t' σ H Q->t σ H Q):PE X e t':=λγ s σ H Q I q=>h γ s σ H Q I (hw _ _ _ q)
def PT.weak{t t':TT}(h:PT X e t)(hw:∀σ H Q,t' σ H Q->t σ H Q):PT X e t':=λγ s σ H Q I q=>h γ s σ H Q I (hw _ _ _ q)
def PW.weak{t t':TT}(h:PW X e t)(hw:∀σ H Q,t' σ H Q->t σ H Q):PW X e t':=λwh γ s σ H Q I q=>h wh γ s σ H Q I (hw _ _ _ q)
def PA.weak{e:qap}{t t':TA}(h:PA X e t)(hw:∀σ H Q,t' σ H Q->t σ H Q):PA X e t':=λpos γ s σ H Q I q=>h pos γ s σ H Q I (hw _ _ _ q)
def PS.weak{b:Stmt}{t t':TS}(h:PS X b t)(hw:∀D σ H,t' D σ H->t D σ H):PS X b t':=λγ s σ H D I q=>h γ s σ H D I (hw D σ H q)
def jf.ji{b:qaq}{t t':TS}(h:jf X b t)(hw:∀D σ H,t' D σ H->t D σ H):jf X b t':=λγ s σ H D I q=>h γ s σ H D I (hw D σ H q)
section
variable{Z:Zc}{a b:Expr}
def VE.vr{f:FE}(h:VE X Z e f):VR X Z e f:=.mk λtm=>PE.weak (h tm) λσ H Q ⟨ρ,O,q,I,hf,k⟩=>⟨ρ,O,q,I,hf,λt ht v H' s z=>k t ht v H' s (.inl z)⟩
def fT(f:FP):FE:=λρ Q=>f ρ λr=>Q r.t
def fV(f:FE):FP:=λρ Q=>f ρ λt=>Q (.vw t)
def fX(f:FP):FX:=λρ Q=>f ρ λr=>Q ρ r
def VP.ve{f:FP}(h:VP X Z e f):VE X Z e (fT f):=.mk λtm=>PE.weak (h tm) λσ H Q ⟨ρ,O,q,I,hf,k⟩=>⟨ρ,O,λr=>q r.t,I,hf,λr hr v H' s z=>k r.t hr v H' s z.at⟩
def VP.vr{f:FP}(h:VP X Z e f):VR X Z e (fT f):=h.ve.vr
def VP.vx{f:FP}(h:VP X Z e f):VX X Z e (fX f):=.mk λtm=>PE.weak (h tm) λσ H Q ⟨ρ,O,q,I,hf,k⟩=>⟨ρ,O,λr=>q ρ r,I,hf,λr hr v H' s z=>k ρ r hr O v H' z⟩
def VE.vp{f:FE}(h:VE X Z e f):VP X Z e (fV f):=.mk λtm=>PE.weak (h tm) λσ H Q ⟨ρ,O,q,I,hf,k⟩=>⟨ρ,O,λt=>q (.vw t),I,hf,λt hr v H' s z=>k (.vw t) hr v H' s ⟨I.same s,z⟩⟩
def nX(i:Nat):FE:=λρ Q=>match ρ[i]? with
 |some (some (t,false))=>Q t
 |_=>False
def G'(i:Nat):FE:=λρ Q=>match ρ[i]? with
 |some (some (t,_))=>Q t
 |_=>False
def aj(i:Nat)(hN:X.N[i]?=some x:=by rfl)(hv:kH X.env.scope x:=by exact jvv rfl)(hd:iq x:=by decide)(gm:uL x:=by decide):VE X Z (.Name x pos) (nX i):=.mk λtm=>PE.weak (cf hN hv hd gm) λσ H Q ⟨ρ,O,q,I,hf,k⟩=>by
 unfold nX at hf;split at hf
 rename_i t e
 obtain⟨o,s,h1,h2,rfl,v,rfl,h3⟩:=I.sl i _ e;exact⟨v,h2,k t hf v H (aV.refl H) h3⟩;exact hf.elim
def ae(i:Nat)(hN:X.N[i]?=some x:=by rfl)(hv:kH X.env.scope x:=by exact jvv rfl)(hd:iq x:=by decide)(gm:uL x:=by decide):VR X Z (.Name x pos) (G' i):=.mk λtm=>PE.weak (cf hN hv hd gm) λσ H Q ⟨ρ,O,q,I,hf,k⟩=>by
 unfold G' at hf;split at hf
 rename_i t b e
 obtain⟨o,s,h1,h2,h3⟩:=I.sl i _ e;cases b with
 |false=>obtain⟨rfl,v,rfl,h3⟩:=h3;exact⟨v,h2,k t hf v H (aV.refl H) (.inl h3)⟩
 |true=>obtain⟨a,rfl,rfl,h3⟩:=h3;exact⟨_,h2,k t hf _ H (aV.refl H) (.inr ⟨a,rfl,h3⟩)⟩
 exact hf.elim
def fC(t:T):FP:=λ_ Q=>Q (.vw t)
def Ha{t:T}(h:PE X e (tC v))(ht:∀H A,At X.K H A t v):VP X Z e (fC t):=.mk λtm=>PE.weak h λσ H Q ⟨ρ,O,q,I,hf,k⟩=>k _ hf v H (aV.refl H) ⟨I,ht _ _⟩
def ag{i j pos}:VP X Z (.Constant (.int i) j pos) (fC (.int i)):=Ha GA λ_ _=>bC
def kM{i j pos}:VP X Z (.Constant (.bool i) j pos) (fC (.bl i)):=Ha WB λ_ _=>dW
def aC{i j pos}:VP X Z (.Constant (.str i) j pos) (fC (.str i)):=Ha Rf λ_ _=>dZ
def cX{j pos}:VP X Z (.Constant .none j pos) (fC .aO):=Ha Ag λ_ _=>AK
def iS{t:T}(hg:Gl X x)(hm:X.mg x=some u)(r:RelV v u)(ht:∀H A,At X.K H A t v)(hd:iq x:=by decide):VP X Z (.Name x pos) (fC t):=Ha (uP hg hm r hd) ht
def nY(K:Γ)(r:R2)(p:T->T->(Rt->Prop)->Prop):Prop :=
 ∀(Z:Zc)(tm:List (T×V))(O:HD)(ρ:En)(σ:St)(H:Hp)(x y:T)(v w:V)(q:Rt->Prop)(Q:VK),ay K Z tm O ρ σ H->jo K H (av Z O) x v->jo K H (av Z O) y w->p x y q ->
  (∀t,q t->∀u H',aV H H'->iR K Z tm O ρ σ H' t u->Q u H')->r v w H Q
def f2(fa fb:FE)(p:T->T->(Rt->Prop)->Prop):FP:=λρ Q=>fa ρ λx=>fb ρ λy=>p x y Q
def two{r:R2}{fa fb:FE}{p:T->T->(Rt->Prop)->Prop}(ho:nY X.K r p){tm:List (T×V)}:∀σ H Q,lP X Z tm (f2 fa fb p) σ H Q->WO r (lR X Z tm fa) (lR X Z tm fb) σ H Q:=λσ H Q ⟨ρ,O,q,I,hf,k⟩ =>
 ⟨ρ,O,λx=>fb ρ λy=>p x y q,I,hf,λx hx v H1 s1 a1=>⟨ρ,O,λy=>p x y q,I.same s1,hx,λy hy w H2 s2 a2=>
  ho Z tm O ρ σ H2 x y v w q Q ((I.same s1).same s2) (a1.same s2) a2 hy λt ht u H' s a=>k t ht u H' ((s1.trans s2).trans s) a⟩⟩
def gr{op:Operator}{r:R2}{fa fb:FE}{p:T->T->(Rt->Prop)->Prop}(h:fS X (binaryOp op) r)(ho:nY X.K r p)(ha:VR X Z a fa)(hb:VR X Z b fb):VP X Z (.BinOp a op b pos) (f2 fa fb p) :=
 .mk λtm=>PE.weak (Pk h (ha tm) (hb tm)) (two ho)
def AL{op:CmpOp}{r:R2}{fa fb:FE}{p:T->T->(Rt->Prop)->Prop}(h:fS X (compareOp op) r)(ho:nY X.K r p)(ha:VR X Z a fa)(hb:VR X Z b fb)(hm:behindInMarks op b=false):VP X Z (.Compare a [op] [b] pos) (f2 fa fb p) :=
 .mk λtm=>PE.weak (LU h (ha tm) (hb tm) hm) (two ho)
def nZ(f:FP):FB:=λρ Q=>f ρ λr=>match r with
 |.vw (.bl c)=>Q c
 |_=>False
def AN{r:Rt}{Q:Bool->Prop}(h:match r with | .vw (.bl c)=>Q c|_=>False):∃c,r=.vw (.bl c)/\Q c:=by split at h;exact⟨_,rfl,h⟩;exact h.elim
def iT{op:CmpOp}{r:R2}{fa fb:FE}{p:T->T->(Rt->Prop)->Prop}(h:fS X (compareOp op) r)(ho:nY X.K r p)(ha:VR X Z a fa)(hb:VR X Z b fb)(hm:behindInMarks op b=false):VC X Z (.Compare a [op] [b] pos) (nZ (f2 fa fb p)) :=
 .mk λtm=>PT.weak (LV h (ha tm) (hb tm) hm) λσ H Q ⟨ρ,O,q,I,hf,k⟩=>two ho σ H _ ⟨ρ,O,_,I,hf,λt ht u H' s a=>by obtain⟨c,rfl,hc⟩:=AN ht;have e:=a.2;simp only[At] at e;exact⟨c,e,k c hc H' s⟩⟩
def h_{f:FP}(h:VP X Z e f)(he:∀whole,isTrue e X.env whole=(do let v <- whole;standAt e.pos;holding [v] (truthy v)):=by intro _;rfl):VC X Z e (nZ f) :=
 .mk λtm=>PT.weak (Rh (h tm) he) λσ H Q ⟨ρ,O,q,I,hf,k⟩=>⟨ρ,O,_,I,hf,λt ht u H' s a=>by obtain⟨c,rfl,hc⟩:=AN ht;have e:=a.2;simp only[At] at e;exact⟨c,e,k c hc H' s⟩⟩
def adi(f g:FB):FB:=λρ Q=>f ρ λc=>if c=true then g ρ Q else Q false
def fOr(f g:FB):FB:=λρ Q=>f ρ λc=>if c=true then Q true else g ρ Q
def Xq(f:FB):FB:=λρ Q=>f ρ λc=>Q (!c)
def VW.vc{f:FB}(h:VW X Z e f):VC X Z e f:=.mk λtm=>PW.pt (h tm)
def eF{f:FB}(h:VC X Z a f):VW X Z (.BoolOp .And [a] pos) f:=.mk λtm=>pw_and1 (h tm)
def AO{f:FB}(h:VC X Z a f):VW X Z (.BoolOp .Or [a] pos) f:=.mk λtm=>pw_or1 (h tm)
def fE{rest:qap}{f g:FB}(h:VC X Z a f)(h':VW X Z (.BoolOp .And (b::rest) pos) g):VW X Z (.BoolOp .And (a::b::rest) pos) (adi f g) :=
 .mk λtm=>PW.weak (pw_and (h tm) (h' tm)) λσ H Q ⟨ρ,O,q,I,hf,k⟩=>⟨ρ,O,_,I,hf,λc hc H1 s1=>by
  cases c with
  |true=>rw[ε rfl] at hc ⊢;exact⟨ρ,O,q,I.same s1,hc,λb hb H' s=>k b hb H' (s1.trans s)⟩
  |false=>rw[ζ iM] at hc ⊢;exact k false hc H1 s1⟩
def Hb{rest:qap}{f g:FB}(h:VC X Z a f)(h':VW X Z (.BoolOp .Or (b::rest) pos) g):VW X Z (.BoolOp .Or (a::b::rest) pos) (fOr f g) :=
 .mk λtm=>PW.weak (pw_or (h tm) (h' tm)) λσ H Q ⟨ρ,O,q,I,hf,k⟩=>⟨ρ,O,_,I,hf,λc hc H1 s1=>by
  cases c with
  |true=>rw[ε rfl] at hc ⊢;exact k true hc H1 s1
  |false=>rw[ζ iM] at hc ⊢;exact⟨ρ,O,q,I.same s1,hc,λb hb H' s=>k b hb H' (s1.trans s)⟩⟩
def n_{f:FB}(h:VC X Z a f):VC X Z (.UnaryOp .Not a pos) (Xq f) :=
 .mk λtm=>PT.weak (Ri (h tm)) λσ H Q ⟨ρ,O,q,I,hf,k⟩=>⟨ρ,O,_,I,hf,λc hc H1 s1=>k _ hc H1 s1⟩
def Xr(f g:FP):FP:=λρ Q=>f ρ λr=>match r with
 |.vw (.bl true)=>g ρ Q
 |.vw (.bl false)=>Q (.vw (.bl false))
 |_=>False
def Xs(f:FP):FP:=λρ Q=>f ρ λr=>match r with
 |.vw (.bl c)=>Q (.vw (.bl (!c)))
 |_=>False
def AQ{op}{f:FP}(h:VP X Z a f):VP X Z (.BoolOp op [a] pos) f:=.mk λtm=>Rj (h tm)
def vf{rest:qap}{f g:FP}(h:VP X Z a f)(h':VP X Z (.BoolOp .And (b::rest) pos) g):VP X Z (.BoolOp .And (a::b::rest) pos) (Xr f g) :=
 .mk λtm=>PE.weak (Rk (h tm) (h' tm)) λσ H Q ⟨ρ,O,q,I,hf,k⟩=>⟨ρ,O,_,I,hf,λr hr v H1 s1 z=>by split at hr;have e:=z.2;simp only[At] at e;exact⟨true,e,by rw[ε rfl];exact⟨ρ,O,q,I.same s1,hr,λb hb v H' s=>k b hb v H' (s1.trans s)⟩⟩;have e:=z.2;simp only[At] at e;exact⟨false,e,by rw[ζ iM];exact k _ hr _ H1 s1 ⟨I.same s1,dW⟩⟩;exact hr.elim⟩
def R8{f:FP}(h:VP X Z a f):VP X Z (.UnaryOp .Not a pos) (Xs f) :=
 .mk λtm=>PE.weak (Rl (h tm)) λσ H Q ⟨ρ,O,q,I,hf,k⟩=>⟨ρ,O,_,I,hf,λr hr v H1 s1 z=>by split at hr;have e:=z.2;simp only[At] at e;exact⟨_,e,k _ hr _ H1 s1 ⟨I.same s1,dW⟩⟩;exact hr.elim⟩
def fIf(c:FB)(f g:FP):FP:=λρ Q=>c ρ λb=>if b=true then f ρ Q else g ρ Q
def jx{fc:FB}{f g:FP}(hc:VC X Z c fc)(h:VP X Z a f)(h':VP X Z b g):VP X Z (.IfExp c a b pos) (fIf fc f g) :=
 .mk λtm=>PE.weak (GB (hc tm) (h tm) (h' tm)) λσ H Q ⟨ρ,O,q,I,hf,k⟩=>⟨ρ,O,_,I,hf,λc hc H1 s1=>by
  cases c with
  |true=>rw[ε rfl] at hc ⊢;exact⟨ρ,O,q,I.same s1,hc,λb hb v H' s=>k b hb v H' (s1.trans s)⟩
  |false=>rw[ζ iM] at hc ⊢;exact⟨ρ,O,q,I.same s1,hc,λb hb v H' s=>k b hb v H' (s1.trans s)⟩⟩
def vg:FA:=λ_ Q=>Q []
def gu(f:FE)(g:FA):FA:=λρ Q=>f ρ λt=>g ρ λts=>Q (t::ts)
def ak:VA X Z [] vg:=.mk λtm=>PA.weak dy λσ H Q ⟨ρ,O,q,I,hf,k⟩=>k _ hf [] H (aV.refl H) aA.nil
def aa{f:FE}{g:FA}(h:VE X Z e f)(h':VA X Z es g)(hs:starEach (e::es) X.env=(false,eval e X.env)::starEach es X.env:=by rfl):VA X Z (e::es) (gu f g) :=
 .mk λtm=>PA.weak (bO (h tm) (h' tm) hs) λσ H Q ⟨ρ,O,q,I,hf,k⟩=>⟨ρ,O,_,I,hf,λt ht v H1 s1 a1=>⟨ρ,O,_,I.same s1,ht,λts gh vs H2 s2 a2=>k _ gh _ H2 (s1.trans s2) (aA.cons (a1.same s2) a2)⟩⟩
def aX:VB X Z [] vg:=.mk λtm=>PA.weak dy λσ H Q ⟨ρ,O,q,I,hf,k⟩=>k _ hf [] H (aV.refl H) .nil
def aJ{f:FE}{g:FA}(h:VR X Z e f)(h':VB X Z es g)(hs:starEach (e::es) X.env=(false,eval e X.env)::starEach es X.env:=by rfl):VB X Z (e::es) (gu f g) :=
 .mk λtm=>PA.weak (bO (h tm) (h' tm) hs) λσ H Q ⟨ρ,O,q,I,hf,k⟩=>⟨ρ,O,_,I,hf,λt ht v H1 s1 a1=>⟨ρ,O,_,I.same s1,ht,λts gh vs H2 s2 a2=>k _ gh _ H2 (s1.trans s2) (.cons (a1.same s2) a2)⟩⟩
def adj(g:FA):FP:=λρ Q=>g ρ λts=>ts.length<=sizeLine/\Q (.vw (.tup ts))
def adk(g:FA):FP:=λρ Q=>g ρ λts=>ts.length<=sizeLine/\Q (.fr (.lst ts))
def bH{g:FA}{x1}(h:VA X Z es g):VP X Z (.Tuple es x1 pos) (adj g) :=
 .mk λtm=>PE.weak (Au (h tm)) λσ H Q ⟨ρ,O,q,I,hf,k⟩=>⟨ρ,O,_,I,hf,λts gh vs H1 s1 a1=>⟨by rw[a1.length];exact gh.1,λp hp=>k _ gh.2 _ _ (s1.trans (aH hp)) ⟨(I.same s1).same (aH hp),cP (fB.of aG) (a1.same (aH hp))⟩⟩⟩
def cY{g:FA}(h:VA X Z es g):VP X Z (.List es pos) (adk g) :=
 .mk λtm=>PE.weak (Av (h tm)) λσ H Q ⟨ρ,O,q,I,hf,k⟩=>⟨ρ,O,_,I,hf,λts gh vs H1 s1 a1=>⟨by rw[a1.length];exact gh.1,λp hp=>k _ gh.2 _ _ (s1.trans (aH hp)) ((I.same s1).xP hp a1)⟩⟩
end
mutual
noncomputable def eqT:T->T->Bool
 |.aO,.aO=>true
 |.bl a,.bl b=>a==b
 |.bl a,.int b=>(if a then 1 else 0)==b
 |.int a,.bl b=>a==(if b then 1 else 0)
 |.int a,.int b=>a==b
 |.str a,.str b=>a==b
 |.tup a,.tup b=>gd a b
 |.lst a,.lst b=>gd a b
 |_,_=>false
noncomputable def gd:List T->List T->Bool
 |[],[]=>true
 |a::as,b::bs=>eqT a b && gd as bs
 |_,_=>false
end
mutual
noncomputable def plainT:T->Bool
 |.tup l=>dh l
 |.lst l=>dh l
 |.dk _ _=>false
 |.dc _ _ _=>false
 |.ins _ _ _=>false
 |.pin _ _=>false
 |.ob _=>false
 |.ty _=>false
 |_=>true
noncomputable def dh:List T->Bool
 |[]=>true
 |t::ts=>plainT t && dh ts
end
mutual
noncomputable def dep:T->Nat
 |.tup l=>pH l+1
 |.lst l=>pH l+1
 |_=>0
noncomputable def pH:List T->Nat
 |[]=>0
 |t::ts=>max (dep t) (pH ts)
end
mutual
theorem qv:∀(t:T),plainT t=true->eqT t t=true
 |.aO,_=>by simp[eqT]
 |.bl _,_=>by simp[eqT]
 |.int _,_=>by simp[eqT]
 |.str _,_=>by simp[eqT]
 |.tup l,h=>by simp only[plainT] at h;simp only[eqT];exact oe l h
 |.lst l,h=>by simp only[plainT] at h;simp only[eqT];exact oe l h
 |.dk _ _,h=>by simp only[plainT] at h;cases h
 |.dc _ _ _,h=>by simp only[plainT] at h;cases h
 |.ins _ _ _,h=>by simp only[plainT] at h;cases h
 |.pin _ _,h=>by simp only[plainT] at h;cases h
 |.ob _,h=>by simp only[plainT] at h;cases h
 |.ty _,h=>by simp only[plainT] at h;cases h
theorem oe:∀(t:List T),dh t=true->gd t t=true
 |[],_=>by simp[gd]
 |t::ts,h=>by simp only[dh,lY] at h;simp only[gd,lY];exact⟨qv t h.1,oe ts h.2⟩
end
theorem mi:∀{a b:List T},gd a b=true->a.length=b.length
 |[],[],_=>rfl
 |a::as,b::bs,h=>by simp only[gd,lY] at h;simp[mi h.2]
 |[],_::_,h=>by simp[gd] at h
 |_::_,[],h=>by simp[gd] at h
theorem mj:∀{a b:List T},a.length=b.length->gd a b=(List.range a.length).all λj=>match a[j]?,b[j]? with
  |some x,some y=>eqT x y
  |_,_=>true
 |[],[],_=>by simp[gd]
 |a::as,b::bs,h=>by have ih:=mj (a:=as) (b:=bs) (by simpa using h);simp only[gd];rw[ih,xk,List.range_succ_eq_map,List.all_cons,List.all_map];rfl
 |[],_::_,h=>by simp at h
 |_::_,[],h=>by simp at h
theorem xQ:∀{a b:List T},gd a b=((List.range (min a.length b.length)).all (λj=>match a[j]?,b[j]? with
  |some x,some y=>eqT x y
  |_,_=>true) && a.length==b.length)
 |a,b=>by
   by_cases h:a.length=b.length;rw[mj h,h,Pf];simp;have e:(a.length==b.length)=false:=by simpa using h
   rw[e,Bool.and_false];cases q:gd a b with
   |false=>rfl
   |true=>exact absurd (mi q) h
section
variable{s:Shared}{O O':υ}
def xR(I:Inv X γ σ H s){ys:v9}(h:gN X.K H a xs)(h':fB X.K H a ys):False:=by
 obtain⟨aW,_,p,_⟩:=I.list h;obtain⟨kX,_,p2,_⟩:=I.tuple h';obtain⟨o,n,e,c,_⟩:=p;obtain⟨o2,e2,c2,_⟩:=p2;rw[e] at e2;cases e2;rw[c] at c2;injection c2 with c2
 exact absurd c2 (by decide)
mutual
theorem At.inj(I:Inv X γ σ H s):∀{t u:T}{v:V},plainT t=true->plainT u=true->At X.K H O t v->At X.K H O' u v->t=u
 |.aO,u,v,_,pu,h,h'=>by simp only[At] at h;subst h;cases u<;>simp only[At] at h'<;>first|rfl|(simp only[plainT] at pu;cases pu;done)|(obtain⟨_,_,e,_⟩:=h';cases e)|(cases h';done)
 |.bl b,u,v,_,pu,h,h'=>by simp only[At] at h;subst h;cases u<;>simp only[At] at h'<;>first|(simp only[plainT] at pu;cases pu;done)|(obtain⟨_,_,e,_⟩:=h';cases e;done)|(cases h';rfl)|(cases h';done)
 |.int b,u,v,_,pu,h,h'=>by simp only[At] at h;subst h;cases u<;>simp only[At] at h'<;>first|(simp only[plainT] at pu;cases pu;done)|(obtain⟨_,_,e,_⟩:=h';cases e;done)|(cases h';rfl)|(cases h';done)
 |.str b,u,v,_,pu,h,h'=>by simp only[At] at h;subst h;cases u<;>simp only[At] at h'<;>first|(simp only[plainT] at pu;cases pu;done)|(obtain⟨_,_,e,_⟩:=h';cases e;done)|(cases h';rfl)|(cases h';done)
 |.dk _ _,_,_,p,_,_,_=>by simp only[plainT] at p;cases p
 |.dc _ _ _,_,_,p,_,_,_=>by simp only[plainT] at p;cases p
 |.ins _ _ _,_,_,p,_,_,_=>by simp only[plainT] at p;cases p
 |.pin _ _,_,_,p,_,_,_=>by simp only[plainT] at p;cases p
 |.ob _,_,_,p,_,_,_=>by simp only[plainT] at p;cases p
 |.ty _,_,_,p,_,_,_=>by simp only[plainT] at p;cases p
 |.tup ts,u,v,p,pu,h,h'=>by
  simp only[At] at h;obtain⟨a,vs,rfl,h1,h2⟩:=h;cases u with
  |tup us=>simp only[At] at h';obtain⟨b,ws,e,g1,g2⟩:=h';cases e;cases I.nP h1 g1;simp only[plainT] at p pu;rw[aA.inj I p pu h2 g2]
  |lst us=>simp only[At] at h';obtain⟨b,ws,e,g1,g2⟩:=h';cases e;exact (xR I g1.sq h1).elim
  |dk _ _=>simp only[plainT] at pu;cases pu
  |dc _ _ _=>simp only[plainT] at pu;cases pu
  |ins _ _ _=>simp only[plainT] at pu;cases pu
  |pin _ _=>simp only[plainT] at pu;cases pu
  |ob _=>simp only[plainT] at pu;cases pu
  |ty _=>simp only[plainT] at pu;cases pu
  |_=>simp only[At] at h';cases h'
 |.lst ts,u,v,p,pu,h,h'=>by
  simp only[At] at h;obtain⟨a,vs,rfl,h1,h2⟩:=h;cases u with
  |lst us=>simp only[At] at h';obtain⟨b,ws,e,g1,g2⟩:=h';cases e;cases I.qi h1.sq g1.sq;simp only[plainT] at p pu;rw[aA.inj I p pu h2 g2]
  |tup us=>simp only[At] at h';obtain⟨b,ws,e,g1,g2⟩:=h';cases e;exact (xR I h1.sq g1).elim
  |dk _ _=>simp only[plainT] at pu;cases pu
  |dc _ _ _=>simp only[plainT] at pu;cases pu
  |ins _ _ _=>simp only[plainT] at pu;cases pu
  |pin _ _=>simp only[plainT] at pu;cases pu
  |ob _=>simp only[plainT] at pu;cases pu
  |ty _=>simp only[plainT] at pu;cases pu
  |_=>simp only[At] at h';cases h'
theorem aA.inj(I:Inv X γ σ H s):∀{ts us:List T}{vs:v9},dh ts=true->dh us=true->aA X.K H O ts vs->aA X.K H O' us vs->ts=us
 |[],[],_,_,_,_,_=>rfl
 |[],_::_,_,_,_,h,h'=>by simp only[aA] at h h';subst h;obtain⟨_,_,e,_⟩:=h';cases e
 |_::_,[],_,_,_,h,h'=>by simp only[aA] at h h';subst h';obtain⟨_,_,e,_⟩:=h;cases e
 |t::ts,u::us,_,p,pu,h,h'=>by simp only[aA] at h h';simp only[dh,lY] at p pu;obtain⟨v,r,rfl,h1,h2⟩:=h;obtain⟨v',r',e,g1,g2⟩:=h';cases e;rw[At.inj I p.1 pu.1 h1 g1,aA.inj I p.2 pu.2 h2 g2]
end
theorem mm:∀{ts:List T}{j:Nat}{x:T},ts[j]?=some x->dep x<=pH ts
 |[],_,_,h=>by simp at h
 |t::ts,0,x,h=>by simp at h;subst h;simp only[pH];omega
 |t::ts,j+1,x,h=>by have:=mm (ts:=ts) (j:=j) (x:=x) (by simpa using h);simp only[pH];omega
theorem di:∀{ts:List T}{j:Nat}{x:T},dh ts=true->ts[j]?=some x->plainT x=true
 |[],_,_,_,h=>by simp at h
 |t::ts,0,x,p,h=>by simp at h;subst h;simp only[dh,lY] at p;exact p.1
 |t::ts,j+1,x,p,h=>by simp only[dh,lY] at p;exact di (ts:=ts) (j:=j) p.2 (by simpa using h)
def in1_units(A:Around):A.in1.units=A.units+1:=by first|rfl|simp[Around.in1,Around.units]
def mn(I:Inv X γ σ H s){ts us:List T}{ws:v9}{aW kX:Ψ}(h1:aA X.K H O ts vs)(h2:aA X.K H O' us ws)(r1:Vals vs aW)(r2:Vals ws kX)(key:∀(j:Nat) x y v w u u',ts[j]?=some x->us[j]?=some y->At X.K H O x v->At X.K H O' y w->RelV v u->RelV w u'->SeqAt.EqAt A s u u' (eqT x y)) :
  ∀(j:Nat)(g1:j<aW.toArray.size)(g2:j<kX.toArray.size),SeqAt.EqAt A s aW.toArray[j] kX.toArray[j] (match ts[j]?,us[j]? with
   |some x,some y=>eqT x y
   |_,_=>true):=λj g1 g2=>by
 have l1:=h1.length;have l2:=h2.length;have m1:=r1.length;have m2:=r2.length;simp only[jd] at g1 g2;have e1:ts[j]?=some (ts[j]'(by omega)):=by simp
 have e2:us[j]?=some (us[j]'(by omega)):=by simp
 obtain⟨v,a1,a2⟩:=h1.get e1;obtain⟨w,b1,b2⟩:=h2.get e2;obtain⟨u,c1,c2⟩:=r1.get a1;obtain⟨u',d1,d2⟩:=r2.get b1;have f1:aW.toArray[j]=u:=by rw[iy (by omega)] at c1;simpa using c1
 have f2:kX.toArray[j]=u':=by rw[iy (by omega)] at d1;simpa using d1
 rw[f1,f2,e1,e2];exact key j _ _ v w u u' e1 e2 a2 b2 c2 d2
def qw{O:υ}(I:Inv X γ σ H s){u:T}{w:V}{b:Value}(pu:plainT u=true)(hw:At X.K H O u w)(r:RelV w b):(u=.aO/\b=.none)\/(∃c,u=.bl c/\b=.bool c)\/(∃c t,u=.int c/\b=.int c t)\/(∃c t,u=.str c/\b=.str c t)\/(∃l p xs,u=.tup l/\b=.ref p/\s.heap.IsTuple p xs)\/∃l p xs,u=.lst l/\b=.ref p/\s.heap.IsList p xs:=by
 cases u with
 |tup l=>simp only[At] at hw;obtain⟨p,ws,rfl,q,_⟩:=hw;cases r;obtain⟨_,_,p1,_⟩:=I.tuple q;exact .inr (.inr (.inr (.inr (.inl ⟨l,p,_,rfl,rfl,p1⟩))))
 |lst l=>simp only[At] at hw;obtain⟨p,ws,rfl,q,_⟩:=hw;cases r;obtain⟨_,_,p1,_⟩:=I.list q.sq;exact .inr (.inr (.inr (.inr (.inr ⟨l,p,_,rfl,rfl,p1.isList⟩))))
 |aO=>simp only[At] at hw;subst hw;cases r;exact .inl ⟨rfl,rfl⟩
 |bl c=>simp only[At] at hw;subst hw;cases r;exact .inr (.inl ⟨c,rfl,rfl⟩)
 |int c=>simp only[At] at hw;subst hw;obtain⟨t,rfl⟩:=r;exact .inr (.inr (.inl ⟨c,t,rfl,rfl⟩))
 |str c=>simp only[At] at hw;subst hw;obtain⟨t,rfl⟩:=r;exact .inr (.inr (.inr (.inl ⟨c,t,rfl,rfl⟩)))
 |_=>simp only[plainT] at pu;cases pu
def Cw(I:Inv X γ σ H s){t u:T}{w:V}{a b:Value}(gP:A.units<cLine)(key:∀(x y:T) (v w:V) (a b:Value),dep x+1<=dep t->plainT x=true->plainT y=true->At X.K H O x v->At X.K H O' y w->RelV v a->RelV w b->SeqAt.EqAt A.in1 s a b (eqT x y))(pt:plainT t=true)(pu:plainT u=true)(ht:At X.K H O t v)(hw:At X.K H O' u w)(rv:RelV v a)(rw':RelV w b):SeqAt.RcAt A s a b (eqT t u):=by
 rcases qw I pt ht rv with⟨rfl,rfl⟩|⟨d,rfl,rfl⟩|⟨d,_,rfl,rfl⟩|⟨d,_,rfl,rfl⟩|⟨l,p,_,rfl,rfl,h⟩|⟨l,p,_,rfl,rfl,h⟩<;>rcases qw I pu hw rw' with⟨rfl,rfl⟩|⟨c,rfl,rfl⟩|⟨c,_,rfl,rfl⟩|⟨c,_,rfl,rfl⟩|⟨l',p',_,rfl,rfl,h'⟩|⟨l',p',_,rfl,rfl,h'⟩<;>simp only[eqT]
 exact .none_none;exact .none_bool _;exact .none_int _ _;exact .none_str _ _;exact .none_tuple h' gP;exact .none_list h' gP;exact .bool_none _;exact .bool_bool _ _;exact .bool_int _ _ _;exact .bool_str _ _ _;exact .bool_tuple _ h' gP;exact .bool_list _ h' gP;exact .int_none _ _;exact .int_bool _ _ _;exact .int_int _ _ _ _;exact .int_str _ _ _ _;exact .int_tuple _ _ h' gP;exact .int_list _ _ h' gP;exact .str_none _ _;exact .str_bool _ _ _;exact .str_int _ _ _ _;exact .str_str _ _ _ _;exact .str_tuple _ _ h' gP;exact .str_list _ _ h' gP;exact .tuple_none h gP;exact .tuple_bool _ h gP;exact .tuple_int _ _ h gP;exact .tuple_str _ _ h gP;simp only[plainT] at pt pu;simp only[At] at ht hw;obtain⟨_,vs,rfl,h1,h2⟩:=ht;obtain⟨_,ws,rfl,g1,g2⟩:=hw;cases rv;cases rw';have e3:=h2.length;have e4:=g2.length;obtain⟨aW,r1,p1,_⟩:=I.tuple h1;obtain⟨kX,r2,p2,_⟩:=I.tuple g1;have e1:=r1.length;have e2:=r2.length;have:=SeqAt.RcAt.tuples (A:=A) p1 p2 gP (mn I h2 g2 r1 r2 λj x y v w u u' e1 e2 a1 a2 b1 b2=>key x y v w u u' (je (Z4 (mm e1)) (by simp only[dep];omega)) (di pt e1) (di pu e2) a1 a2 b1 b2);simp only[jd] at this;rw[<- e1,<- e2,e3,e4] at this;rw[xQ];exact this;exact .tuple_list h h' gP;exact .list_none h gP;exact .list_bool _ h gP;exact .list_int _ _ h gP;exact .list_str _ _ h gP;exact .list_tuple h h' gP;simp only[plainT] at pt pu;simp only[At] at ht hw;obtain⟨_,vs,rfl,h1,h2⟩:=ht;obtain⟨_,ws,rfl,g1,g2⟩:=hw;cases rv;cases rw';have e3:=h2.length;have e4:=g2.length;obtain⟨aW,r1,p1,_⟩:=I.list h1.sq;obtain⟨kX,r2,p2,_⟩:=I.list g1.sq;have e1:=r1.length;have e2:=r2.length;by_cases hl:l.length=l'.length;have:=SeqAt.RcAt.lists (A:=A) p1.isList p2.isList (by simp only[jd];omega) gP (mn I h2 g2 r1 r2 λj x y v w u u' e1 e2 a1 a2 b1 b2=>key x y v w u u' (je (Z4 (mm e1)) (by simp only[dep];omega)) (di pt e1) (di pu e2) a1 a2 b1 b2);simp only[jd] at this;rw[<- e1,e3] at this;rw[mj hl];exact this;have:gd l l'=false:=by
  cases q:gd l l' with
  |false=>rfl
  |true=>exact absurd (mi q) hl
 rw[this];exact SeqAt.RcAt.lists_lengths p1.isList p2.isList (by simp only[jd];rw[bne_iff_ne];omega) gP
theorem Hc{a b:Value}{k:Bool}(h:SeqAt.RcAt A s a b k)(g:a=b->k=true)(f:∀x t,a≠.float x t):SeqAt.EqAt A s a b k:=λprog w E Q hq=>by
 unfold eqBool;refine Φ (wpAny_ite_split (λe=>?_) λ_=>?_);rw[g (eq_of_beq e)] at hq;exact δ (wpAny_rule (η hq));cases a with
 |float x t=>exact absurd rfl (f x t)
 |_=>exact δ (h prog w E _ (χ hq))
def AR(I:Inv X γ σ H s)(n:Nat):∀(t u:T)(v w:V)(a b:Value)(A:Around),dep t<=n->A.units+n<cLine->plainT t=true->plainT u=true->At X.K H O t v->At X.K H O' u w->RelV v a->RelV w b->SeqAt.EqAt A s a b (eqT t u):=by
 induction n using Nat.strongRecOn with
 |_ n ih=>intro t u v w a b A hd hu pt pu ht hw rv rw';refine Hc (Cw I (by omega) (λx y v w a b h=>?_) pt pu ht hw rv rw') (λe=>?_) λx t e=>?_;exact ih (n-1) (by omega) x y v w a b A.in1 (by omega) (by rw[in1_units];omega);subst e;cases rv.inj rw';cases At.inj I pt pu ht hw;exact qv _ pt;rcases qw I pt ht rv with⟨_,h⟩|⟨_,_,h⟩|⟨_,_,_,h⟩|⟨_,_,_,h⟩|⟨_,_,_,_,h,_⟩|⟨_,_,_,_,h,_⟩<;>cases e.symm.trans h
end
section
variable{s:Shared}{O O':υ}
def R9(I:Inv X γ σ H s)(t u:T)(v w:V)(a b:Value)(A:Around)(hd:dep t<=100)(hu:A.units+101<cLine)(pt:plainT t=true)(pu:plainT u=true)(ht:At X.K H O t v)(hw:At X.K H O' u w)(rv:RelV v a)(rw':RelV w b):SeqAt.RcAt A s a b (eqT t u) :=
 Cw I (by omega) (λx y v w a b h=>AR I 100 x y v w a b A.in1 (by omega) (by rw[in1_units];omega)) pt pu ht hw rv rw'
def R_(I:Inv X γ σ H s)(t u:T)(v w:V)(a b:Value)(A:Around)(hd:dep t<=100)(hu:A.units+101<cLine)(pt:plainT t=true)(pu:plainT u=true)(ht:At X.K H O t v)(hw:At X.K H O' u w)(rv:RelV v a)(rw':RelV w b):SeqAt.RcNeAt A s a b (!eqT t u):=by
 have gP:A.units<cLine:=by omega
 have xo:A.in1.units+100<cLine:=by rw[in1_units];omega
 rcases qw I pt ht rv with⟨rfl,rfl⟩|⟨d,rfl,rfl⟩|⟨d,_,rfl,rfl⟩|⟨d,_,rfl,rfl⟩|⟨l,p,_,rfl,rfl,h⟩|⟨l,p,_,rfl,rfl,h⟩<;>rcases qw I pu hw rw' with⟨rfl,rfl⟩|⟨c,rfl,rfl⟩|⟨c,_,rfl,rfl⟩|⟨c,_,rfl,rfl⟩|⟨l',p',_,rfl,rfl,h'⟩|⟨l',p',_,rfl,rfl,h'⟩<;>simp only[eqT]
 exact .none_none;exact .none_bool _;exact .none_int _ _;exact .none_str _ _;exact .none_tuple h' gP;exact .none_list h' gP;exact .bool_none _;exact .bool_bool _ _;exact .bool_int _ _ _;exact .bool_str _ _ _;exact .bool_tuple _ h' gP;exact .bool_list _ h' gP;exact .int_none _ _;exact .int_bool _ _ _;exact .int_int _ _ _ _;exact .int_str _ _ _ _;exact .int_tuple _ _ h' gP;exact .int_list _ _ h' gP;exact .str_none _ _;exact .str_bool _ _ _;exact .str_int _ _ _ _;exact .str_str _ _ _ _;exact .str_tuple _ _ h' gP;exact .str_list _ _ h' gP;exact .tuple_none h gP;exact .tuple_bool _ h gP;exact .tuple_int _ _ h gP;exact .tuple_str _ _ h gP;simp only[plainT] at pt pu;simp only[dep] at hd;simp only[At] at ht hw;obtain⟨_,vs,rfl,h1,h2⟩:=ht;obtain⟨_,ws,rfl,g1,g2⟩:=hw;cases rv;cases rw';have e3:=h2.length;have e4:=g2.length;obtain⟨aW,r1,p1,_⟩:=I.tuple h1;obtain⟨kX,r2,p2,_⟩:=I.tuple g1;have e1:=r1.length;have e2:=r2.length;have:=SeqAt.RcNeAt.tuples (A:=A) p1 p2 gP (mn I h2 g2 r1 r2 λj x y v w u u' e1 e2 a1 a2 b1 b2=>AR I 100 x y v w u u' A.in1 (je (mm e1) (by omega)) xo (di pt e1) (di pu e2) a1 a2 b1 b2);simp only[jd] at this;rw[<- e1,<- e2,e3,e4] at this;rw[xQ];exact this;exact .tuple_list h h' gP;exact .list_none h gP;exact .list_bool _ h gP;exact .list_int _ _ h gP;exact .list_str _ _ h gP;exact .list_tuple h h' gP;simp only[plainT] at pt pu;simp only[dep] at hd;simp only[At] at ht hw;obtain⟨_,vs,rfl,h1,h2⟩:=ht;obtain⟨_,ws,rfl,g1,g2⟩:=hw;cases rv;cases rw';have e3:=h2.length;have e4:=g2.length;obtain⟨aW,r1,p1,_⟩:=I.list h1.sq;obtain⟨kX,r2,p2,_⟩:=I.list g1.sq;have e1:=r1.length;have e2:=r2.length;by_cases hl:l.length=l'.length;have:=SeqAt.RcNeAt.lists (A:=A) p1.isList p2.isList (by simp only[jd];omega) gP (mn I h2 g2 r1 r2 λj x y v w u u' e1 e2 a1 a2 b1 b2=>AR I 100 x y v w u u' A.in1 (je (mm e1) (by omega)) xo (di pt e1) (di pu e2) a1 a2 b1 b2);simp only[jd] at this;rw[<- e1,e3] at this;rw[mj hl];exact this;have:gd l l'=false:=by
  cases q:gd l l' with
  |false=>rfl
  |true=>exact absurd (mi q) hl
 rw[this];exact SeqAt.RcNeAt.lists_lengths p1.isList p2.isList (by simp only[jd];rw[bne_iff_ne];omega) gP
def jo.bare{A:υ}{t:T}(h:jo K H A t v):At K H [] t v:=by
 obtain h|⟨a,rfl,h⟩:=h
 exact At.bz (O':=[]) (λ_ z=>absurd z fA) h;exact (c5.bz (A':=[]) h (λ_ z=>absurd z fA)).at fA
noncomputable def Me(K:Γ)(neg:Bool):R2:=λx y H Q=>∃t u,At K H [] t x/\At K H [] u y/\plainT t=true/\plainT u=true/\dep t<=100/\Q (.bl (if neg then !eqT t u else eqT t u)) H
def He(hu:X.A.units+101<cLine):fS X (compareOp .Eq) (Me X.K false):=by intro γ s σ H x y v u Q I rx ry ⟨t,t',h1,h2,p1,p2,d,q⟩;exact R9 I t t' x y v u X.A d hu p1 p2 h1 h2 rx ry X.prog X.w X.xe _ ⟨.bl _,H,I,rfl,q⟩
def Sa(hu:X.A.units+101<cLine):fS X (compareOp .NotEq) (Me X.K true):=by intro γ s σ H x y v u Q I rx ry ⟨t,t',h1,h2,p1,p2,d,q⟩;exact R_ I t t' x y v u X.A d hu p1 p2 h1 h2 rx ry X.prog X.w X.xe _ ⟨.bl _,H,I,rfl,q⟩
end
def Mh(x y:T)(q:Rt->Prop):Prop:=match x,y with
 |.int i,.int j=>q (.vw (.bl (decide (i=j))))
 |.str i,.str j=>q (.vw (.bl (decide (i=j))))
 |.bl i,.bl j=>q (.vw (.bl (decide (i=j))))
 |x,y=>plainT x=true/\plainT y=true/\dep x<=100/\q (.vw (.bl (eqT x y)))
def pNe(x y:T)(q:Rt->Prop):Prop:=match x,y with
 |.int i,.int j=>q (.vw (.bl (!decide (i=j))))
 |.str i,.str j=>q (.vw (.bl (!decide (i=j))))
 |.bl i,.bl j=>q (.vw (.bl (!decide (i=j))))
 |x,y=>plainT x=true/\plainT y=true/\dep x<=100/\q (.vw (.bl (!eqT x y)))
def Mi{x y:T}{q:Rt->Prop}(h:Mh x y q):plainT x=true/\plainT y=true/\dep x<=100/\q (.vw (.bl (eqT x y))):=by
 unfold Mh at h;split at h;exact⟨rfl,rfl,hY _,by simp only[eqT,Wq];exact h⟩;refine⟨rfl,rfl,hY _,?_⟩;have e:∀i j:Str,(i==j)=decide (i=j):=λi j=>by rw[QZ];simp
 simp only[eqT,e];exact h;exact⟨rfl,rfl,hY _,by simp only[eqT,Wq];exact h⟩;exact h
def Mj{x y:T}{q:Rt->Prop}(h:pNe x y q):plainT x=true/\plainT y=true/\dep x<=100/\q (.vw (.bl (!eqT x y))):=by
 unfold pNe at h;split at h;exact⟨rfl,rfl,hY _,by simp only[eqT,Wq];exact h⟩;refine⟨rfl,rfl,hY _,?_⟩;have e:∀i j:Str,(i==j)=decide (i=j):=λi j=>by rw[QZ];simp
 simp only[eqT,e];exact h;exact⟨rfl,rfl,hY _,by simp only[eqT,Wq];exact h⟩;exact h
def Hg:nY K (Me K false) Mh:=by intro Z tm O ρ σ H x y v w q Q I h1 h2 h k;obtain⟨p1,p2,d,h⟩:=Mi h;exact⟨x,y,h1.bare,h2.bare,p1,p2,d,k _ h _ H (aV.refl H) ⟨I,by rw[ζ iM];exact dW⟩⟩
def Sb:nY K (Me K true) pNe:=by intro Z tm O ρ σ H x y v w q Q I h1 h2 h k;obtain⟨p1,p2,d,h⟩:=Mj h;exact⟨x,y,h1.bare,h2.bare,p1,p2,d,k _ h _ H (aV.refl H) ⟨I,by rw[ε rfl];exact dW⟩⟩
def Xu(g:Int->Int->Bool)(x y:T)(q:Rt->Prop):Prop:=match x,y with
 |.int i,.int j=>q (.vw (.bl (g i j)))
 |_,_=>False
def Sd(x y:T)(q:Rt->Prop):Prop:=match x,y with
 |.int i,.int j=>q (.vw (.int (i-j)))
 |_,_=>False
def Ml:nY K (uS λi j=>.int (i-j)) Sd:=by intro Z tm O ρ σ H x y v w q Q I h1 h2 h k;unfold Sd at h;split at h;exact⟨_,_,h1.int,h2.int,k _ h _ H (aV.refl H) ⟨I,bC⟩⟩;exact h.elim
def Se(x y:T)(q:Rt->Prop):Prop:=match x,y with
 |.int i,.int j=>GK i j/\q (.vw (.int (i * j)))
 |_,_=>False
def Mm:nY K (rI GK λi j=>.int (i * j)) Se:=by intro Z tm O ρ σ H x y v w q Q I h1 h2 h k;unfold Se at h;split at h;exact⟨_,_,h1.int,h2.int,h.1,k _ h.2 _ H (aV.refl H) ⟨I,bC⟩⟩;exact h.elim
def Sf(x y:T)(q:Rt->Prop):Prop:=match x,y with
 |.int i,.int j=>(0<j/\j<1073741824)/\q (.vw (.int (i / j)))
 |_,_=>False
def Mn:nY K (rI WQ λi j=>.int (i / j)) Sf:=by intro Z tm O ρ σ H x y v w q Q I h1 h2 h k;unfold Sf at h;split at h;exact⟨_,_,h1.int,h2.int,h.1,k _ h.2 _ H (aV.refl H) ⟨I,bC⟩⟩;exact h.elim
def Sg(x y:T)(q:Rt->Prop):Prop:=match x,y with
 |.int i,.int j=>0<j/\q (.vw (.int (i % j)))
 |_,_=>False
def Mo:nY K (rI (λ_ j=>0<j) λi j=>.int (i % j)) Sg:=by intro Z tm O ρ σ H x y v w q Q I h1 h2 h k;unfold Sg at h;split at h;exact⟨_,_,h1.int,h2.int,h.1,k _ h.2 _ H (aV.refl H) ⟨I,bC⟩⟩;exact h.elim
def Sh(x y:T)(q:Rt->Prop):Prop:=match x,y with
 |.int i,.int j=>(0<=j/\j<=1000000/\i.natAbs<2 ^ 64)/\q (.vw (.int (i ^ j.toNat)))
 |_,_=>False
def Mp:nY K (rI WR λi j=>.int (i ^ j.toNat)) Sh:=by intro Z tm O ρ σ H x y v w q Q I h1 h2 h k;unfold Sh at h;split at h;exact⟨_,_,h1.int,h2.int,h.1,k _ h.2 _ H (aV.refl H) ⟨I,bC⟩⟩;exact h.elim
def pLt(x y:T)(q:Rt->Prop):Prop:=match x,y with
 |.int i,.int j=>q (.vw (.bl (decide (i<j))))
 |_,_=>False
def Si:nY K (uS λi j=>.bl (decide (i<j))) pLt:=by intro Z tm O ρ σ H x y v w q Q I h1 h2 h k;unfold pLt at h;split at h;exact⟨_,_,h1.int,h2.int,k _ h _ H (aV.refl H) ⟨I,dW⟩⟩;exact h.elim
def pGt(x y:T)(q:Rt->Prop):Prop:=match x,y with
 |.int i,.int j=>q (.vw (.bl (decide (j<i))))
 |_,_=>False
def Sj:nY K (uS λi j=>.bl (decide (j<i))) pGt:=by intro Z tm O ρ σ H x y v w q Q I h1 h2 h k;unfold pGt at h;split at h;exact⟨_,_,h1.int,h2.int,k _ h _ H (aV.refl H) ⟨I,dW⟩⟩;exact h.elim
def pGe(x y:T)(q:Rt->Prop):Prop:=match x,y with
 |.int i,.int j=>q (.vw (.bl (decide (j<=i))))
 |_,_=>False
def Sk:nY K (uS λi j=>.bl (decide (j<=i))) pGe:=by intro Z tm O ρ σ H x y v w q Q I h1 h2 h k;unfold pGe at h;split at h;exact⟨_,_,h1.int,h2.int,k _ h _ H (aV.refl H) ⟨I,dW⟩⟩;exact h.elim
def Pt(x y:T)(q:Rt->Prop):Prop:=match x,y with
 |.int i,.int j=>q (.vw (.int (i+j)))
 |_,_=>False
def Hh:nY K (uS λi j=>.int (i+j)) Pt:=by intro Z tm O ρ σ H x y v w q Q I h1 h2 h k;unfold Pt at h;split at h;exact⟨_,_,h1.int,h2.int,k _ h _ H (aV.refl H) ⟨I,bC⟩⟩;exact h.elim
noncomputable def Pu(K:Γ):R2:=λx y H Q=>∃l b xs zs,x=.ref l/\y=.ref b/\gN K H l xs/\gN K H b zs/\xs.length+zs.length<=sizeLine/\∀p,H p=none->Q (.ref p) (upd H p (.lst (xs++zs)))
noncomputable def Pw(K:Γ):R2:=λx y H Q=>∃a b xs ys,x=.ref a/\y=.ref b/\fB K H a xs/\fB K H b ys/\xs.length+ys.length<=sizeLine/\(xs=[]->Q (.ref b) H)/\(xs≠[]->ys=[]->Q (.ref a) H)/\(xs≠[]->ys≠[]->∀p,H p=none->Q (.ref p) (upd H p (.tup (xs++ys))))
section
def Mq:fS X (binaryOp .Add) (Pu X.K):=by
 intro γ s σ H x y v u Q I rx ry h;obtain⟨l,b,xs,zs,rfl,rfl,hH,hB,hz,q⟩:=h;cases rx;cases ry;obtain⟨aW,r,p1,z1⟩:=I.list hH;obtain⟨kX,r2,p2,z2⟩:=I.list hB;obtain⟨⟨cls,dd,data,sl⟩,n,ho,hc,_,hd⟩:=p1;obtain⟨⟨W4,Vw,data2,Vx⟩,n2,z6,Pp,_,hd2⟩:=p2;simp only at hc hd Pp hd2;subst hc hd Pp hd2;have l1:=r.length;have l2:=r2.length;have e:aW.toArray++kX.toArray=(aW++kX).toArray:=by simp
 refine concat_meets ⟨_,ho,rfl⟩ ⟨_,z6,rfl⟩ noFill_list_add seq_list_add PySem.F.slot_list_add PySem.F.entry_list_add (PySem.F.args_list_add_2 _ _) (list_addW l b aW.toArray kX.toArray n n2 dd Vw sl Vx (by simp only[jd];omega)) ⟨ho,z6,?_⟩;rw[e];exact⟨.ref _,_,I.Xc (t':=s.toks) (r.append r2) (by rw[nL];omega),rfl,q _ I.fresh⟩
def Mr:fS X (binaryOp .Add) (Pw X.K):=by
 intro γ s σ H x y v u Q I rx ry h;obtain⟨a,b,xs,ys,rfl,rfl,ha,hb,hz,q0,q1,q2⟩:=h;cases rx;cases ry;obtain⟨aW,r1,p1,_⟩:=I.tuple ha;obtain⟨kX,r2,p2,_⟩:=I.tuple hb;by_cases hx:xs=[];obtain⟨⟨cls,dd,data,sl⟩,ho,hc,n,hd⟩:=id p1;obtain⟨⟨W4,Vw,data2,Vx⟩,z6,Pp,n2,hd2⟩:=id p2;simp only at hc hd Pp hd2;subst hc hd Pp hd2;exact concat_meets ⟨_,ho,rfl⟩ ⟨_,z6,rfl⟩ noFill_tuple_add seq_tuple_add acr acn (ach _ _)
  (tuple_addW0 a b aW.toArray kX.toArray n n2 dd Vw sl Vx (by simp[r1.j_.mpr hx])) ⟨ho,z6,⟨.ref b,H,I,rfl,q0 hx⟩⟩
 refine HT.LY p1 p2 (λz=>hx (r1.j_.mp z)) (λz=>⟨.ref a,H,I,rfl,q1 hx (r2.j_.mp z)⟩) (λz=>?_) (by rw[<- r1.length,<- r2.length];exact hz);refine⟨.ref s.heap.objs.size,_,I.laid (t':=s.toks) (o:=.tup (xs++ys)) (λb ob q=>jn _ q) (c9 _) ?_,rfl,q2 hx (λw=>z (r2.j_.mpr w)) _ (I.cm.fresh (c9 _))⟩;exact⟨by rw[nL];exact hz,_,r1.append r2,IsTup.new _ _⟩
end
noncomputable def Px(K:Γ):R2:=λx y H Q=>uS (λi j=>.int (i+j)) x y H Q\/(λx y H Q=>∃i j,x=.str i/\y=.str j/\i.length+j.length<=sizeLine/\Q (.str (i++j)) H) x y H Q\/Pu K x y H Q\/Pw K x y H Q
def Ms:fS X (binaryOp .Add) (Px X.K):=fS.or Rz (fS.or Am (fS.or Mq Mr))
def Sl(x y:T)(q:Rt->Prop):Prop:=match x,y with
 |.int i,.int j=>q (.vw (.int (i+j)))
 |.str i,.str j=>i.length+j.length<=sizeLine/\q (.vw (.str (i++j)))
 |.lst a,.lst b=>a.length+b.length<=sizeLine/\q (.fr (.lst (a++b)))
 |.tup a,.tup b=>a.length+b.length<=sizeLine/\q (.vw (.tup (a++b)))
 |_,_=>False
def Mt:nY K (Px K) Sl:=by
 intro Z tm O ρ σ H x y v w q Q I h1 h2 h k;unfold Sl at h;split at h;exact .inl ⟨_,_,h1.int,h2.int,k _ h _ H (aV.refl H) ⟨I,bC⟩⟩;exact .inr (.inl ⟨_,_,h1.str,h2.str,h.1,k _ h.2 _ H (aV.refl H) ⟨I,dZ⟩⟩);obtain⟨a,vs,rfl,s1,a1⟩:=h1.lst;obtain⟨b,ws,rfl,s2,a2⟩:=h2.lst;exact .inr (.inr (.inl ⟨a,b,vs,ws,rfl,rfl,s1,s2,by rw[a1.length,a2.length];exact h.1,λp hp=>k _ h.2 _ _ (aH hp) (I.xP hp (a1.append a2))⟩));obtain⟨a,vs,rfl,s1,a1⟩:=h1.tup;obtain⟨b,ws,rfl,s2,a2⟩:=h2.tup;refine .inr (.inr (.inr ⟨a,b,vs,ws,rfl,rfl,s1,s2,by rw[a1.length,a2.length];exact h.1,λe=>?_,λ_ e=>?_,λ_ _ p hp=>?_⟩));subst e;have e:=a1.length
 rename_i xs ys
 have e':xs=[]:=O9.mp e.symm;subst e';exact k _ h.2 _ H (aV.refl H) ⟨I,cP s2 a2⟩;subst e;have e:=a2.length
 rename_i xs ys _
 have e':ys=[]:=O9.mp e.symm;subst e';exact k _ h.2 _ H (aV.refl H) ⟨I,by rw[DX];exact cP s1 a1⟩;exact k _ h.2 _ _ (aH hp) ⟨I.same (aH hp),cP (fB.of aG) ((a1.append a2).same (aH hp))⟩;exact h.elim
section
variable{Z:Zc}{a b:Expr}{fa fb:FE}
def bX(ha:VR X Z a fa)(hb:VR X Z b fb):VP X Z (.BinOp a .Add b pos) (f2 fa fb Sl):=gr Ms Mt ha hb
def iU(ha:VR X Z a fa)(hb:VR X Z b fb):VP X Z (.BinOp a .Sub b pos) (f2 fa fb Sd):=gr RA Ml ha hb
def ia(ha:VR X Z a fa)(hb:VR X Z b fb):VP X Z (.BinOp a .Mult b pos) (f2 fa fb Se):=gr RB Mm ha hb
def bW(ha:VR X Z a fa)(hb:VR X Z b fb):VP X Z (.BinOp a .FloorDiv b pos) (f2 fa fb Sf):=gr LQ Mn ha hb
def bo(ha:VR X Z a fa)(hb:VR X Z b fb):VP X Z (.BinOp a .Mod b pos) (f2 fa fb Sg):=gr RC Mo ha hb
def og(ha:VR X Z a fa)(hb:VR X Z b fb):VP X Z (.BinOp a .Pow b pos) (f2 fa fb Sh):=gr RD Mp ha hb
def adl(f:FE):FP:=λρ Q=>f ρ λx=>match x with
 |.int i=>Q (.vw (.int (-i)))
 |_=>False
def iV(ha:VR X Z a fa):VP X Z (.UnaryOp .USub a pos) (adl fa):=.mk λtm=>PE.weak (Pl GN (ha tm)) λσ H Q ⟨ρ,O,q,I,hf,k⟩=>⟨ρ,O,_,I,hf,λt ht v H1 s1 a1=>by split at ht;exact⟨_,a1.int,k _ ht _ H1 s1 ⟨I.same s1,bC⟩⟩;exact ht.elim⟩
def Py(hu:X.A.units+101<cLine)(ha:VR X Z a fa)(hb:VR X Z b fb):VP X Z (.Compare a [.Eq] [b] pos) (f2 fa fb Mh):=AL (He hu) Hg ha hb (iO _)
def bQ(hu:X.A.units+101<cLine)(ha:VR X Z a fa)(hb:VR X Z b fb):VC X Z (.Compare a [.Eq] [b] pos) (nZ (f2 fa fb Mh)):=iT (He hu) Hg ha hb (iO _)
def Cy(hu:X.A.units+101<cLine)(ha:VR X Z a fa)(hb:VR X Z b fb):VC X Z (.Compare a [.NotEq] [b] pos) (nZ (f2 fa fb pNe)):=iT (Sa hu) Sb ha hb (iO _)
def jy(ha:VR X Z a fa)(hb:VR X Z b fb):VC X Z (.Compare a [.Lt] [b] pos) (nZ (f2 fa fb pLt)):=iT WS Si ha hb (iO _)
def Hi(ha:VR X Z a fa)(hb:VR X Z b fb):VC X Z (.Compare a [.Gt] [b] pos) (nZ (f2 fa fb pGt)):=iT WT Sj ha hb (iO _)
def Xv(ha:VR X Z a fa)(hb:VR X Z b fb):VC X Z (.Compare a [.GtE] [b] pos) (nZ (f2 fa fb pGe)):=iT WU Sk ha hb (iO _)
def f3(fa fb fc:FE)(p p':T->T->(Rt->Prop)->Prop):FP:=λρ Q=>fa ρ λx=>fb ρ λy=>p x y λr=>match r with
 |.vw (.bl true)=>fc ρ λz=>p' y z Q
 |.vw (.bl false)=>Q (.vw (.bl false))
 |_=>False
end
def Hj{A:υ}{ts:List T}{i:Int}{t:T}(h:aA K H A ts vs)(e:jg ts i=some t):∃v,jg vs i=some v/\At K H A t v:=by
 unfold jg at e ⊢;rw[h.length];cases q:xG ts.length i with
 |none=>rw[q] at e;cases e
 |some j=>rw[q] at e;obtain⟨v,h1,h2⟩:=h.get (i:=j) e;exact⟨v,h1,h2⟩
def pIx(x y:T)(q:Rt->Prop):Prop:=match x,y with
 |.lst ts,.int i=>∃t,jg ts i=some t/\q (.vw t)
 |.tup ts,.int i=>∃t,jg ts i=some t/\q (.vw t)
 |.str z,.int i=>z.length<=sizeLine/\∃c,jg z.cps.toList i=some c/\q (.vw (.str ⟨#[c]⟩))
 |_,_=>False
def Sm:nY K (rIx K) pIx:=by intro Z tm O ρ σ H x y v w q Q I h1 h2 h k;unfold pIx at h;split at h;obtain⟨t,e,h⟩:=h;obtain⟨a,vs,rfl,s1,a1⟩:=h1.lst;obtain⟨u,e',a2⟩:=Hj a1 e;exact .inl ⟨a,vs,_,u,rfl,h2.int,s1,e',k _ h _ H (aV.refl H) ⟨I,a2⟩⟩;obtain⟨t,e,h⟩:=h;obtain⟨a,vs,rfl,s1,a1⟩:=h1.tup;obtain⟨u,e',a2⟩:=Hj a1 e;exact .inr (.inl ⟨a,vs,_,u,rfl,h2.int,s1,e',k _ h _ H (aV.refl H) ⟨I,a2⟩⟩);obtain⟨hz,c,e,h⟩:=h;exact .inr (.inr ⟨_,_,c,h1.str,h2.int,hz,e,k _ h _ H (aV.refl H) ⟨I,dZ⟩⟩);exact h.elim
section
variable{Z:Zc}{a b:Expr}{fa fb:FE}
def aI(ha:VR X Z a fa)(hb:VR X Z b fb)(hs:uV b:=by intro _ _;rfl):VP X Z (.Subscript a b pos) (f2 fa fb pIx) :=
 .mk λtm=>PE.weak (Pq RN (ha tm) (hb tm) hs) (two Sm)
end
abbrev FO:=En->(Option Int->Prop)->Prop
def lO(X:Cx)(Z:Zc)(tm:List (T×V))(f:FO):TO:=λσ H Q=>∃ρ O q,ay X.K Z tm O ρ σ H/\f ρ q/\∀o,q o->∀H',aV H H'->Q o H'
def VO(X:Cx)(Z:Zc)(e:Option Expr)(f:FO):Prop:=Bx λtm=>PO X e (lO X Z tm f)
instance{X:Cx}{Z:Zc}{e:Option Expr}{f:FO}:CoeFun (VO X Z e f) λ_=>∀tm,PO X e (lO X Z tm f):=⟨λh=>Bx.h h⟩
def PO.weak{e:Option Expr}{t t':TO}(h:PO X e t)(hw:∀σ H Q,t' σ H Q->t σ H Q):PO X e t':=λγ s σ H Q I q=>h γ s σ H Q I (hw _ _ _ q)
def fO0:FO:=λ_ Q=>Q none
def fO1(f:FE):FO:=λρ Q=>f ρ λt=>match t with
 |.int i=>Q (some i)
 |_=>False
noncomputable def qx{α:Type}(xs:List α)(lo hi:Option Int):List α:=(xs.drop (HT.fj xs.length 0 lo)).take (HT.fj xs.length xs.length hi-HT.fj xs.length 0 lo)
def aA.cut{A:υ}{ts:List T}(h:aA K H A ts vs)(lo hi:Option Int):aA K H A (qx ts lo hi) (xF vs lo hi):=by unfold qx xF;rw[h.length];exact (h.drop _).take _
def adm(K:Γ):V->Option Int->Option Int->Hp->VK->Prop:=λx lo hi H Q=>Xa K x lo hi H Q\/W7 K x lo hi H Q\/Xo x lo hi H Q
def adn:GY X (adm X.K):=GY.or L5 (GY.or RH R5)
def pSl(x:T)(lo hi:Option Int)(q:Rt->Prop):Prop:=match x with
 |.lst ts=>q (.fr (.lst (qx ts lo hi)))
 |.tup ts=>¬ (HT.fj ts.length 0 lo=0/\HT.fj ts.length ts.length hi=ts.length)/\q (.vw (.tup (qx ts lo hi)))
 |.str z=>z.length<=sizeLine/\q (.vw (.str (Txt.slice z lo hi)))
 |_=>False
def fSl(fa:FE)(fl fh:FO):FP:=λρ Q=>fa ρ λx=>fl ρ λlo=>fh ρ λhi=>pSl x lo hi Q
section
variable{Z:Zc}{a b:Expr}{lo hi:Option Expr}{fa:FE}{fl fh:FO}
def gX:VO X Z none fO0:=.mk λtm=>PO.weak L1 λσ H Q ⟨ρ,O,q,I,hf,k⟩=>k _ hf H (aV.refl H)
def gY(h:VR X Z e fa):VO X Z (some e) (fO1 fa):=.mk λtm=>PO.weak (L3 (h tm)) λσ H Q ⟨ρ,O,q,I,hf,k⟩=>⟨ρ,O,_,I,hf,λt ht v H' s z=>by split at ht;exact⟨_,z.int,k _ ht H' s⟩;exact ht.elim⟩
def jz(he:VR X Z e fa)(hl:VO X Z lo fl)(hh:VO X Z hi fh):VP X Z (.Subscript e (.Slice lo hi none p2) pos) (fSl fa fl fh) :=
 .mk λtm=>PE.weak (GZ adn (he tm) (hl tm) (hh tm)) λσ H Q ⟨ρ,O,q,I,hf,k⟩=>⟨ρ,O,_,I,hf,λx hx v H1 s1 a1=>⟨ρ,O,_,I.same s1,hx,λl hl H2 s2=>⟨ρ,O,_,(I.same s1).same s2,hl,λu hu H3 s3=>by have J:=((I.same s1).same s2).same s3;have a3:=(a1.same s2).same s3;have S:=(s1.trans s2).trans s3;unfold pSl at hu;split at hu;obtain⟨p,vs,rfl,q1,q2⟩:=a3.lst;exact .inl ⟨p,vs,rfl,q1,λr hr=>k _ hu _ _ (S.trans (aH hr)) (J.xP hr (q2.cut _ _))⟩;obtain⟨p,vs,rfl,q1,q2⟩:=a3.tup;refine .inr (.inl ⟨p,vs,rfl,q1,by rw[q2.length];exact hu.1,λr hr=>k _ hu.2 _ _ (S.trans (aH hr)) ⟨J.same (aH hr),cP (fB.of aG) ((q2.cut _ _).same (aH hr))⟩⟩);exact .inr (.inr ⟨_,a3.str,hu.1,k _ hu.2 _ H3 S ⟨J,dZ⟩⟩);exact hu.elim⟩⟩⟩
end
def Pz(g:FA)(p:List T->(Rt->Prop)->Prop):FP:=λρ Q=>g ρ λts=>p ts Q
def kN(K:Γ)(r:v9->Hp->VK->Prop)(p:List T->(Rt->Prop)->Prop):Prop :=
 ∀(Z:Zc)(tm:List (T×V))(O:HD)(ρ:En)(σ:St)(H:Hp)(ts:List T)(vs:v9)(q:Rt->Prop)(Q:VK),ay K Z tm O ρ σ H->Paired (λv t=>jo K H (av Z O) t v) vs ts->p ts q ->
  (∀t,q t->∀u H',aV H H'->iR K Z tm O ρ σ H' t u->Q u H')->r vs H Q
section
variable{Z:Zc}{a b:Expr}{g:FA}{id Ty:String}{r:v9->Hp->VK->Prop}{pp:List T->(Rt->Prop)->Prop}
def aY(hc:d_ X (.builtin id) r)(ht:kN X.K r pp)(hg:Gl X x)(hm:X.mg x=none)(hv:bootBuiltins x=some (.builtin id))(ha:VB X Z (e::es) g)(hn:x≠"__name__":=by decide)(l_:iq x:=by decide)(hs:starEach (e::es) X.env=(false,eval e X.env)::starEach es X.env:=by rfl)(gO:(backTo pos (starEach es X.env)).any (·.1)=false:=by rfl):VP X Z (.Call (.Name x p) (e::es) [] pos) (Pz g pp) :=
 .mk λtm=>PE.weak (ql hc hg hm hv (ha tm) hn l_ hs gO) λσ H Q ⟨ρ,O,q,I,hf,k⟩=>⟨ρ,O,_,I,hf,λts gh vs H1 s1 a1=>ht Z tm O ρ σ H1 ts vs q _ (I.same s1) a1 gh λt h u H' s z=>k t h u H' (s1.trans s) z⟩
def gi(hc:d_ X (.type Ty) r)(ht:kN X.K r pp)(hg:Gl X x)(hm:X.mg x=none)(hv:bootBuiltins x=some (.type Ty))(ha:VB X Z (e::es) g)(hn:x≠"__name__":=by decide)(l_:iq x:=by decide)(hs:starEach (e::es) X.env=(false,eval e X.env)::starEach es X.env:=by rfl)(gO:(backTo pos (starEach es X.env)).any (·.1)=false:=by rfl):VP X Z (.Call (.Name x p) (e::es) [] pos) (Pz g pp) :=
 .mk λtm=>PE.weak (Ee hc hg hm hv (ha tm) hn l_ hs gO) λσ H Q ⟨ρ,O,q,I,hf,k⟩=>⟨ρ,O,_,I,hf,λts gh vs H1 s1 a1=>ht Z tm O ρ σ H1 ts vs q _ (I.same s1) a1 gh λt h u H' s z=>k t h u H' (s1.trans s) z⟩
end
def Xw(ts:List T)(q:Rt->Prop):Prop:=match ts with
 |[.lst l]=>q (.vw (.int l.length))
 |[.tup l]=>q (.vw (.int l.length))
 |[.str z]=>z.length<=sizeLine/\q (.vw (.int z.length))
 |_=>False
def PB(K:Γ):v9->Hp->VK->Prop:=λxs H Q=>(∃p ys,xs=[.ref p]/\(gN K H p ys\/fB K H p ys)/\Q (.int ys.length) H)\/(∃z,xs=[.str z]/\z.length<=sizeLine/\Q (.int z.length) H)
def aZ:d_ X (.builtin "len") (PB X.K):=d_.or uZ u_
def dz{F:α->β->Prop}{vs:List α}{t:β}(h:Paired F vs [t]):∃v,vs=[v]/\F v t:=by
 cases h with
 |cons r q=>cases q;exact⟨_,rfl,r⟩
def a_:kN K (PB K) Xw:=by intro Z tm O ρ σ H ts vs q Q I h hp k;unfold Xw at hp;split at hp;obtain⟨v,rfl,a⟩:=dz h;obtain⟨p,ws,rfl,q1,q2⟩:=a.lst;exact .inl ⟨p,ws,rfl,.inl q1,k _ hp _ H (aV.refl H) ⟨I,by rw[q2.length];exact bC⟩⟩;obtain⟨v,rfl,a⟩:=dz h;obtain⟨p,ws,rfl,q1,q2⟩:=a.tup;exact .inl ⟨p,ws,rfl,.inr q1,k _ hp _ H (aV.refl H) ⟨I,by rw[q2.length];exact bC⟩⟩;obtain⟨v,rfl,a⟩:=dz h;exact .inr ⟨_,by rw[a.str],hp.1,k _ hp.2 _ H (aV.refl H) ⟨I,bC⟩⟩;exact hp.elim
def PC(ts:List T)(q:Rt->Prop):Prop:=match ts with
 |[.lst l]=>q (.fr (.lst l))
 |[.tup l]=>q (.fr (.lst l))
 |_=>False
def kY:kN K (λxs H Q=>∃p ys,xs=[.ref p]/\(gN K H p ys\/fB K H p ys)/\∀l,H l=none->Q (.ref l) (upd H l (.lst ys))) PC:=by intro Z tm O ρ σ H ts vs q Q I h hp k;unfold PC at hp;split at hp;obtain⟨v,rfl,a⟩:=dz h;obtain⟨p,ws,rfl,q1,q2⟩:=a.lst;exact⟨p,ws,rfl,.inl q1,λl hl=>k _ hp _ _ (aH hl) (I.xP hl q2)⟩;obtain⟨v,rfl,a⟩:=dz h;obtain⟨p,ws,rfl,q1,q2⟩:=a.tup;exact⟨p,ws,rfl,.inr q1,λl hl=>k _ hp _ _ (aH hl) (I.xP hl q2)⟩;exact hp.elim
def Hk(ts:List T)(q:Rt->Prop):Prop:=match ts with
 |[.lst l]=>q (.vw (.tup l))
 |[.tup l]=>q (.vw (.tup l))
 |_=>False
def jA:kN K (λxs H Q=>∃p ys,xs=[.ref p]/\((gN K H p ys/\∀l,H l=none->Q (.ref l) (upd H l (.tup ys)))\/(fB K H p ys/\Q (.ref p) H))) Hk:=by intro Z tm O ρ σ H ts vs q Q I h hp k;unfold Hk at hp;split at hp;obtain⟨v,rfl,a⟩:=dz h;obtain⟨p,ws,rfl,q1,q2⟩:=a.lst;exact⟨p,ws,rfl,.inl ⟨q1,λl hl=>k _ hp _ _ (aH hl) ⟨I.same (aH hl),cP (fB.of aG) (q2.same (aH hl))⟩⟩⟩;obtain⟨v,rfl,a⟩:=dz h;obtain⟨p,ws,rfl,q1,q2⟩:=a.tup;exact⟨p,ws,rfl,.inr ⟨q1,k _ hp _ H (aV.refl H) ⟨I,cP q1 q2⟩⟩⟩;exact hp.elim
structure Gj where
 nx:En->Prop
 rt:En->Rt->Prop
 bk:En->Prop:=λ_=>False
 ct:En->Prop:=λ_=>False
structure Fin(K:Γ)(Z:Zc)(tm:List (T×V))(d:Gj)(D:Ends):Prop where
 nx:∀O ρ σ H,ay K Z tm O ρ σ H->d.nx ρ->D.nx σ H
 rt:∀O ρ σ H r v,iR K Z tm O ρ σ H r v->d.rt ρ r->D.rt v H
 bk:∀O ρ σ H,ay K Z tm O ρ σ H->d.bk ρ->D.bk σ H
 ct:∀O ρ σ H,ay K Z tm O ρ σ H->d.ct ρ->D.ct σ H
abbrev FS:=Gj->En->Prop
def lS(X:Cx)(Z:Zc)(tm:List (T×V))(g:FS):TS:=λD σ H=>∃ρ O d,ay X.K Z tm O ρ σ H/\g d ρ/\Fin X.K Z tm d D
def VS(X:Cx)(Z:Zc)(st:Stmt)(g:FS):Prop:=Bx λtm=>PS X st (lS X Z tm g)
instance{X:Cx}{Z:Zc}{st:Stmt}{g:FS}:CoeFun (VS X Z st g) λ_=>∀tm,PS X st (lS X Z tm g):=⟨λh=>Bx.h h⟩
def j'(X:Cx)(Z:Zc)(st:qaq)(g:FS):Prop:=Bx λtm=>jf X st (lS X Z tm g)
instance{X:Cx}{Z:Zc}{st:qaq}{g:FS}:CoeFun (j' X Z st g) λ_=>∀tm,jf X st (lS X Z tm g):=⟨λh=>Bx.h h⟩
def bN(Z:Zc)(i:Nat):Prop:=∀p∈Z.P,p.1≠i
section
variable{Z:Zc}{st:Stmt}{rest:qaq}{g u:FS}
def Xx:FS:=λd ρ=>d.nx ρ
def Xy(g u:FS):FS:=λd ρ=>g {d with nx:=u d} ρ
def aM:j' X Z [] Xx:=.mk λtm=>jf.ji Cj λD σ H ⟨ρ,O,d,I,h,F⟩=>F.nx O ρ σ H I h
def ah(h1:VS X Z st g)(h2:j' X Z rest u):j' X Z (st::rest) (Xy g u):=.mk λtm=>jf.ji (c4 (h1 tm) (h2 tm)) λD σ H ⟨ρ,O,d,I,h,F⟩ =>
 ⟨ρ,O,{d with nx:=u d},I,h,⟨λO' ρ' σ' H' I' h'=>⟨ρ',O',d,I',h',F⟩,F.rt,F.bk,F.ct⟩⟩
def ar(h1:VS X Z st g):j' X Z [st] g:=.mk λtm=>j8 (h1 tm)
def j'.weak(h:j' X Z rest g)(hw:∀d ρ,u d ρ->g d ρ):j' X Z rest u:=.mk λtm=>jf.ji (h tm) λD σ H ⟨ρ,O,d,I,q,F⟩=>⟨ρ,O,d,I,hw d ρ q,F⟩
def Xz(f:FX):FS:=λd ρ=>f ρ λρ' _=>d.nx ρ'
def bP{f:FX}(h:VX X Z e f)(hs:swapsWith e none pos.line X.env=pure false:=by rfl):VS X Z (.Expr e pos) (Xz f):=.mk λtm=>PS.weak (l0 (h tm) hs) λD σ H ⟨ρ,O,d,I,q,F⟩ =>
 ⟨ρ,O,_,I,q,λρ' r hr O' v H' z=>F.nx O' ρ' σ H' z.env hr⟩
def ado(f:FX):FS:=λd ρ=>f ρ λρ' r=>d.rt ρ' r
def aE{f:FX}(h:VX X Z e f):VS X Z (.Return (some e) pos) (ado f):=.mk λtm=>PS.weak (uQ (h tm)) λD σ H ⟨ρ,O,d,I,q,F⟩ =>
 ⟨ρ,O,_,I,q,λρ' r hr O' v H' z=>F.rt O' ρ' σ H' r v z hr⟩
def gIf(c:FB)(g u:FS):FS:=λd ρ=>c ρ λb=>if b=true then g d ρ else u d ρ
def bA{fc:FB}{a b:qaq}(hc:VC X Z c fc)(ha:j' X Z a g)(hb:j' X Z b u):VS X Z (.If c a b pos) (gIf fc g u):=.mk λtm=>PS.weak (Pj (hc tm) (ha tm) (hb tm)) λD σ H ⟨ρ,O,d,I,q,F⟩ =>
 ⟨ρ,O,_,I,q,λb hb H' s=>by
  cases b with
  |true=>rw[ε rfl] at hb ⊢;exact⟨ρ,O,d,I.same s,hb,F⟩
  |false=>rw[ζ iM] at hb ⊢;exact⟨ρ,O,d,I.same s,hb,F⟩⟩
def XA(i:Nat)(f:FX):FS:=λd ρ=>f ρ λρ' r=>d.nx (ρ'.set i (some (r.t,false)))
def adp(i:Nat)(f:FX):FS:=λd ρ=>f ρ λρ' r=>match r with
 |.fr t=>d.nx (ρ'.set i (some (t,true)))
 |_=>False
def bc{f:FX}(hN:X.N.Nodup)(hi:X.N[i]?=some x)(hx:Loc X.env.scope x)(he:VX X Z e f)(hp:bN Z i)(hs:swapsWith e (some (.Name x pos')) pos.line X.env=pure false:=by rfl)(hf:X.fn x=true\/X.env.scope.names.lookup x=some .local:=by first|exact .inl rfl|assumption):VS X Z (.Assign [.Name x pos'] e pos) (XA i f):=.mk λtm=>PS.weak (uR hN hi hx (he tm) hs hf) λD σ H ⟨ρ,O,d,I,q,F⟩ =>
 ⟨ρ,O,_,I,q,λρ' r hr O' v H' z=>F.nx _ _ _ H' (z.env.put hp z.at) hr⟩
def d9{f:FX}(hN:X.N.Nodup)(hi:X.N[i]?=some x)(hx:Loc X.env.scope x)(he:VX X Z e f)(hp:bN Z i)(hs:swapsWith e (some (.Name x pos')) pos.line X.env=pure false:=by rfl)(hf:X.fn x=true\/X.env.scope.names.lookup x=some .local:=by first|exact .inl rfl|assumption):VS X Z (.Assign [.Name x pos'] e pos) (adp i f):=.mk λtm=>PS.weak (uR hN hi hx (he tm) hs hf) λD σ H ⟨ρ,O,d,I,q,F⟩ =>
 ⟨ρ,O,_,I,q,λρ' r hr O' v H' z=>by split at hr;obtain⟨a,rfl,J,hR,h0,Vy⟩:=z;exact F.nx _ _ _ H' (J.adg hp hR h0 Vy) hr;exact hr.elim⟩
def XB(i:Nat)(f:FE)(p:T->T->(Rt->Prop)->Prop):FS:=λd ρ=>match ρ[i]? with
 |some (some (x,false))=>f ρ λy=>p x y λr=>d.nx (ρ.set i (some (r.t,false)))
 |_=>False
def Sn{f:FE}{op:Operator}{r:R2}{p:T->T->(Rt->Prop)->Prop}(hN:X.N.Nodup)(hi:X.N[i]?=some x)(hx:Loc X.env.scope x)(he:VR X Z e f)(ho:fS X (inplaceOp op) r)(ht:nY X.K r p)(hp:bN Z i)(hf:X.fn x=true\/X.env.scope.names.lookup x=some .local:=by first|exact .inl rfl|assumption):VS X Z (.AugAssign (.Name x pos') op e pos) (XB i f p):=.mk λtm=>PS.weak (Rp hN hi hx (he tm) ho hf) λD σ H ⟨ρ,O,d,I,q,F⟩=>by
 unfold XB at q;split at q
 rename_i t e0
 obtain⟨o,s,h1,h2,rfl,v,rfl,h3⟩:=I.sl i _ e0;refine⟨v,h2,ρ,O,_,I,q,λy hy w H1 s1 a1=>?_⟩;exact ht Z tm O ρ σ H1 t y v w _ _ (I.same s1) (.inl (h3.same s1)) a1 hy λr hr z H2 s2 k=>F.nx _ _ _ H2 (k.env.put hp k.at) hr;exact q.elim
def adq(is:qao)(g:FS):FS:=λd ρ=>g d (is.foldl (λρ i=>match ρ[i]? with
 |some (some (t,true))=>ρ.set i (some (t,false))
 |_=>ρ) ρ)
theorem qy{K:Γ}{tm:List (T×V)}:∀(is:qao){O:HD}{ρ:En}{σ:St}{H:Hp},(∀i∈is,bN Z i)->ay K Z tm O ρ σ H->∃O',ay K Z tm O' (is.foldl (λρ i=>match ρ[i]? with
 |some (some (t,true))=>ρ.set i (some (t,false))
 |_=>ρ) ρ) σ H
 |[],O,ρ,σ,H,_,I=>⟨O,I⟩
 |i::is,O,ρ,σ,H,hp,I=>by
  rw[List.foldl_cons];have R7:∀j∈is,bN Z j:=λj hj=>hp j (gT _ hj);split
  rename_i t e
  exact qy is R7 (I.D2 (hp i dD) e);exact qy is R7 I
def Cz(is:qao)(h:j' X Z rest g)(hp:∀i∈is,bN Z i):j' X Z rest (adq is g):=.mk λtm=>jf.ji (h tm) λD σ H ⟨ρ,O,d,I,q,F⟩=>let ⟨O',I'⟩:=qy is hp I;⟨_,O',d,I',q,F⟩
end
section
variable{Z:Zc}{a b:Expr}
def ay.root{tm:List (T×V)}{ρ:En}(I:ay K Z tm O ρ σ H){k:Nat}{t:T}(e:ρ[k]?=some (some (t,true))):∃a,O[k]?=some (some a)/\σ[k]?=some (some (.ref a))/\c5 K H (av Z O) a t:=by obtain⟨o,s,h1,h2,a,rfl,rfl,h3⟩:=I.sl k _ e;exact⟨a,h1,h2,h3⟩
def CA(k:Nat)(g:FA)(p:List T->List T->(List T->T->Prop)->Prop):FX:=λρ Q=>match ρ[k]? with
 |some (some (.lst ts,true))=>g ρ λvs=>p ts vs λkZ r=>Q (ρ.set k (some (.lst kZ,true))) (.vw r)
 |_=>False
def XC(K:Γ)(r:V->v9->Hp->VK->Prop)(p:List T->List T->(List T->T->Prop)->Prop):Prop :=
 ∀(H:Hp)(A:υ)(l:Addr)(xs:v9)(ts us:List T)(vs:v9)(q:List T->T->Prop)(Q:VK),l∈A->H l=some (.lst xs)->aA K H A ts xs->aA K H A us vs->p ts us q ->
  (∀kZ t,q kZ t->∀Gk v,aA K H A kZ Gk->At K H A t v->Q v (upd H l (.lst Gk)))->r (.ref l) vs H Q
def CB{r:V->v9->Hp->VK->Prop}{p:List T->List T->(List T->T->Prop)->Prop}(hm:XC X.K r p){k:Nat}{g:FA}{tm:List (T×V)}{Q:VK}(h:lX X Z tm (CA k g p) σ H Q) :
  ∃l,σ[k]?=some (some (.ref l))/\(∃xs,gN X.K H l xs)/\lA X Z tm g σ H λvs H1=>r (.ref l) vs H1 Q:=by
 obtain⟨ρ,O,q,I,hf,kk⟩:=h;unfold CA at hf;split at hf
 rename_i ts e0
 obtain⟨l,h1,h2,xs,h3,h4⟩:=I.root e0;refine⟨l,h2,⟨xs,gN.of h3⟩,ρ,O,_,I,hf,λus RT vs H1 s1 a1=>?_⟩;have J:=I.same s1;have ha:l∈av Z O:=cW _ (aN.mpr (gM h1));refine hm H1 (av Z O) l xs ts us vs _ Q ha (s1 _ _ h3) (h4.same s1) a1 RT λkZ t ht Gk v b1 b2=>?_;exact kk _ _ ht O _ _ ⟨J.wrote e0 h1 ⟨Gk,aG,b1.wrote ha (s1 _ _ h3) rfl⟩,b2.wrote ha (s1 _ _ h3) rfl⟩;exact hf.elim
def eB(k:Nat){name:Str}{id:String}{g:FA}{r:V->v9->Hp->VK->Prop}{pp:List T->List T->(List T->T->Prop)->Prop}(slot:Slot "list" name id)(RQ:typeOf (.builtin id)=pure (.type "method_descriptor"))(hm:RJ X id r)(ht:XC X.K r pp)(ha:VA X Z (e::es) g)(hN:X.N[k]?=some x:=by rfl)(hv:kH X.env.scope x:=by exact jvv rfl)(hd:iq x:=by decide)(gm:uL x:=by decide)(eU:attributeBase (.Name x p) name X.env (eval (.Name x p) X.env)=eval (.Name x p) X.env:=by rfl)(qo:((backTo bj (starEach (e::es) X.env)).all (λx=>!x.1) && (backToKw bj (keywordEach [] X.env)).all (λx=>x.1.isSome)
    && decide ((e::es).length+([]:List Keyword).length+(if ([]:List Keyword).isEmpty then 0 else 1)<30))=true:=by rfl)(eV:(apos.endLine==bj.line)=true:=by rfl)(hs:starEach (e::es) X.env=(false,eval e X.env)::starEach es X.env:=by rfl)(gp:(backTo bj (starEach es X.env)).any (·.1)=false:=by rfl) :
  VX X Z (.Call (.Attribute (.Name x p) name apos) (e::es) [] bj) (CA k g pp):=.mk λtm=>
 PE.weak (xH Wh slot RQ hm (cf hN hv hd gm) (ha tm) eU qo eV hs gp) λσ H Q h=>
  let ⟨l,h1,h2,h3⟩:=CB ht h;⟨.ref l,h1,.inl ⟨rfl,h2⟩,h3⟩
def Hl(k:Nat){name:Str}{id:String}{r:V->v9->Hp->VK->Prop}{pp:List T->List T->(List T->T->Prop)->Prop}(slot:Slot "list" name id)(RQ:typeOf (.builtin id)=pure (.type "method_descriptor"))(hm:RJ X id r)(ht:XC X.K r pp)(hN:X.N[k]?=some x:=by rfl)(hv:kH X.env.scope x:=by exact jvv rfl)(hd:iq x:=by decide)(gm:uL x:=by decide)(eU:attributeBase (.Name x p) name X.env (eval (.Name x p) X.env)=eval (.Name x p) X.env:=by rfl)(eV:(apos.endLine==bj.line)=true:=by rfl):VX X Z (.Call (.Attribute (.Name x p) name apos) [] [] bj) (CA k vg pp):=.mk λtm=>
 PE.weak (AD Wh slot RQ hm (cf hN hv hd gm) eU eV) λσ H Q h=>by obtain⟨l,h1,h2,ρ,O,q,I,hf,kk⟩:=CB ht h;exact⟨.ref l,h1,.inl ⟨rfl,h2⟩,kk [] hf [] H (aV.refl H) aA.nil⟩
def CC(ts us:List T)(q:List T->T->Prop):Prop:=match us with
 |[t]=>ts.length<sizeLine/\q (ts++[t]) .aO
 |_=>False
def bp:XC K Cr CC:=by intro H A l xs ts us vs q Q hl hH h1 h2 hp k;unfold CC at hp;split at hp;obtain⟨v,rfl,a⟩:=dz (aA.iff.mp h2);exact⟨l,xs,v,rfl,rfl,hH,by rw[h1.length];exact hp.1,k _ _ hp.2 _ _ (h1.append (aA.cons a aA.nil)) AK⟩;exact hp.elim
def ads(ts us:List T)(q:List T->T->Prop):Prop:=us=[]/\∃t,ts[ts.length-1]?=some t/\q ts.dropLast t
def aA.dropLast{A:υ}{ts:List T}(h:aA K H A ts vs):aA K H A ts.dropLast vs.dropLast:=by rw[List.dropLast_eq_take,List.dropLast_eq_take,h.length];exact h.take _
def CD:XC K Xd ads:=by
 intro H A l xs ts us vs q Q hl hH h1 h2 hp k;obtain⟨rfl,t,e1,hq⟩:=hp;have e:vs=[]:=by simpa only[aA] using h2
 obtain⟨v,e2,a⟩:=h1.get e1;exact⟨l,xs,v,rfl,e,hH,by rw[h1.length];exact e2,k _ _ hq _ _ h1.dropLast a⟩
noncomputable def PD(k:Nat)(f fi:FE):FS:=λd ρ=>match ρ[k]? with
 |some (some (.lst ts,true))=>f ρ λv=>fi ρ λi=>match i with
  |.int j=>∃n,xG ts.length j=some n/\d.nx (ρ.set k (some (.lst (ts.set n v),true)))
  |_=>False
 |_=>False
def k5(k:Nat){f fi:FE}{i:Expr}(he:VE X Z e f)(hi:VR X Z i fi)(hN:X.N[k]?=some x:=by rfl)(hv:kH X.env.scope x:=by exact jvv rfl)(hd:iq x:=by decide)(gm:uL x:=by decide)(ha:∀v,assign (.Subscript (.Name x p) i fW) X.env v=(do
    let ov <- holding [v] (eval (.Name x p) X.env)
    let iv <- holding [v,ov] (eval i X.env)
    standAt fW
    holding [v,ov,iv] (setItem ov iv v)
    release [v,ov,iv] []):=by intro _;rfl)(hs:swapsWithSole [.Subscript (.Name x p) i fW] e pos.line X.env=pure false:=by rfl)(hw:swappedStores [.Subscript (.Name x p) i fW] e X.env=pure none:=by rfl)(h1:(assignEach [.Subscript (.Name x p) i fW] X.env).map (·.2)=[assign (.Subscript (.Name x p) i fW) X.env]:=by rfl):VS X Z (.Assign [.Subscript (.Name x p) i fW] e pos) (PD k f fi):=.mk λtm=>
 PS.weak (GG (he tm) (Ro (cf hN hv hd gm) (hi tm) set_list ha) hs hw h1) λD σ H ⟨ρ,O,d,I,q,F⟩=>by
  unfold PD at q;split at q
  rename_i ts e0
  obtain⟨l,h1,h2,xs,h3,h4⟩:=I.root e0;have ha:l∈av Z O:=cW _ (aN.mpr (gM h1));refine⟨ρ,O,_,I,q,λt ht v H1 s1 a1=>⟨.ref l,h2,ρ,O,_,I.same s1,ht,λj hj w H2 s2 a2=>?_⟩⟩;split at hj;obtain⟨n,e1,hj⟩:=hj;refine⟨l,xs,_,n,rfl,a2.int,s2 _ _ (s1 _ _ h3),by rw[h4.length];exact e1,?_⟩;refine F.nx O _ σ _ (((I.same s1).same s2).wrote (t':=.lst (ts.set n t)) e0 h1 ⟨xs.set n v,aG,?_⟩) hj;exact aA.wrote ha (s2 _ _ (s1 _ _ h3)) rfl (((h4.same s1).same s2).set n (a1.same s2));exact hj.elim;exact q.elim
def ay.give{tm:List (T×V)}{ρ:En}(I:ay K Z tm O ρ σ H){t:T}(hp:bN Z i)(hi:ρ[i]?=some (some (t,true))):∃a,σ[i]?=some (some (.ref a))/\iR K Z tm (O.set i none) (ρ.set i none) σ H (.fr t) (.ref a):=by
 obtain⟨a,h1,h2,h3⟩:=I.root hi;have ha:a∈roots O:=aN.mpr (gM h1);obtain⟨o1,o2,o3⟩:=I.own a ha;have J:=I.forget hp;have J2:=I.D2 hp hi;have na:a∉roots (O.set i none):=λz=>by
  obtain⟨o,s,g1,g2,g3,v,g4,g5⟩:=J2.sl i (some (t,false)) (by rw[DW (by rw[<- I.lO];exact (eE.mp h1).1)]);rw[h2] at g2;cases g2;cases g4;have nn:a∉av Z (O.set i none):=by
   obtain⟨u,eu,mu⟩:=h3.mut;cases t with
   |lst ts=>
    simp only[At] at g5;obtain⟨b,vs,eb,l,_⟩:=g5;cases eb;obtain l|⟨oo,_,_,lk,_⟩:=l
    exact l.2;exact λz2=>by
     have key:∀(O:HD)(i:Nat),O[i]?=some (some a)->(roots O).Nodup->a∉roots (O.set i none):=by
      intro O;induction O with
      |nil=>intro i h;simp at h
      |cons o O ih=>
       intro i h nd;cases i with
       |zero=>
        have:o=some a:=by simpa using h
        subst this;simp only[roots,Pc,kr,id] at nd ⊢;exact (lU.mp nd).1
       |succ i=>
        have h':O[i]?=some (some a):=by simpa using h
        cases o with
        |none=>simp only[roots,Gv,kr,id] at nd ⊢;exact ih i h' nd
        |some b=>
         simp only[roots,Gv,kr,id] at nd ⊢;rw[lU] at nd;intro z;rcases c0.mp z with z|z
         exact nd.1 (by rw[<- z];exact aN.mpr (gM h'));exact ih i h' nd.2 z
     rcases cR.mp z2 with z2|z2
     exact key O i h1 I.nd z2;exact o2 z2
   |dk ks ts=>simp only[At] at g5;obtain⟨b,vs,eb,_,d,_⟩:=g5;cases eb;exact d.2
   |ins C ns ts=>simp only[At] at g5;obtain⟨b,dx,vs,eb,_,d,_⟩:=g5;cases eb;exact d.2
   |_=>exact h3.elim
  exact nn (cW _ z)
 have hP:Z.H0 a=none:=by
  obtain z|z:=o1
  obtain⟨p,hpm,rfl⟩:=xn.mp z;have:=J.par p hpm;exact absurd (aN.mpr (gM this)) na;exact z
 have sub:∀b∈av (Z.ex a) (O.set i none),b∈av Z O:=λb hb=>by
  rcases dQ b hb with z|z
  exact c_ i b z;rw[z];exact cW _ ha
 refine⟨a,h2,a,rfl,⟨J.lσ,J.lO,λj e h=>?_,J.nd,λb hb=>?_,J.par,λb hb=>?_,J.keep,λp hp=>(I.sI p hp).bz sub⟩,h3.bz sub,hP,o2⟩;rcases get_set h with⟨rfl,rfl,hl⟩|⟨ne,h⟩
 obtain⟨o,s,g1,g2,g3⟩:=J.sl j none (by rw[DW hl]);exact⟨o,s,g1,g2,g3⟩;obtain⟨o,s,g1,g2,g3⟩:=I.sl j e h;exact⟨o,s,by rw[xi (Ne.symm ne)];exact g1,g2,g3.map (λ_ _ q=>q.bz sub) λ_ _ _ q=>q.bz sub⟩;obtain⟨q1,q2,q3⟩:=J.own b hb;refine⟨q1,λz=>?_,q3⟩;rcases c0.mp z with z|z
 exact na (by rw[<- z];exact hb);exact q2 z;rcases c0.mp hb with z|z
 obtain⟨u,eu,_⟩:=o3;rw[z,eu];simp;exact I.ox b z
def PF(i:Nat):FX:=λρ Q=>match ρ[i]? with
 |some (some (t,true))=>Q (ρ.set i none) (.fr t)
 |some (some (t,false))=>Q ρ (.vw t)
 |_=>False
def kc(i:Nat)(hp:bN Z i)(hN:X.N[i]?=some x:=by rfl)(hv:kH X.env.scope x:=by exact jvv rfl)(hd:iq x:=by decide)(gm:uL x:=by decide):VX X Z (.Name x pos) (PF i):=.mk λtm=>PE.weak (cf hN hv hd gm) λσ H Q ⟨ρ,O,q,I,hf,k⟩=>by
 unfold PF at hf;split at hf
 rename_i t e
 obtain⟨a,h1,h2⟩:=I.give hp e;exact⟨_,h1,k _ _ hf _ _ H h2⟩
 rename_i t e
 obtain⟨o,s,h1,h2,rfl,v,rfl,h3⟩:=I.sl i _ e;exact⟨v,h2,k _ _ hf O v H ⟨I,h3⟩⟩;exact hf.elim
end
def ay.xS{Z:Zc}{tm tm':List (T×V)}{ρ:En}(I:ay K Z tm O ρ σ H)(h:∀p∈tm',At K H (av Z O) p.1 p.2):ay K Z tm' O ρ σ H :=
 ⟨I.lσ,I.lO,I.sl,I.nd,I.own,I.par,I.ox,I.keep,h⟩
def iR.xS{Z:Zc}{cv tm:List (T×V)}{ρ:En}{r:Rt}(h:iR K Z (cv++tm) O ρ σ H r v):iR K Z tm O ρ σ H r v:=by
 cases r with
 |vw t=>exact⟨h.1.xS λp hp=>h.1.sI p (cb _ hp),h.2⟩
 |fr t=>obtain⟨a,e,I,q⟩:=h;exact⟨a,e,I.xS λp hp=>I.sI p (cb _ hp),q⟩
def Wk(K:Γ)(J:It)(cv:List (T×V))(ts:List T):Prop:=∀H A,(∀a∈A,H a≠none)->(∀p∈cv,At K H A p.1 p.2)->∀i:Nat,
 (i<ts.length->J.go i H)/\(ts.length=i->J.stop i H)/\∀t,ts[i]?=some t->∀x H',J.WK i H x H'->aV H H'/\At K H' A t x
abbrev FI:=En->(List T->Prop)->Prop
noncomputable def lI(X:Cx)(Z:Zc)(tm:List (T×V))(f:FI):TI:=λσ H R=>∃ρ O q,ay X.K Z tm O ρ σ H/\f ρ q/\∀ts,q ts->∀J H' cv,aV H H'->(∀p∈cv,At X.K H' (av Z O) p.1 p.2)->Wk X.K J cv ts->R J H'
def VI(X:Cx)(Z:Zc)(tg iter:Expr)(f:FI):Prop:=Bx λtm=>PI X tg iter (lI X Z tm f)
instance{X:Cx}{Z:Zc}{tg iter:Expr}{f:FI}:CoeFun (VI X Z tg iter f) λ_=>∀tm,PI X tg iter (lI X Z tm f):=⟨λh=>Bx.h h⟩
def PI.weak{tg:Expr}{t t':TI}(h:PI X tg e t)(hw:∀σ H R,t' σ H R->t σ H R):PI X tg e t':=λγ s σ H R I q=>h γ s σ H R I (hw _ _ _ q)
def PG.weak{tg:Expr}{t t':TG}(h:PG X tg t)(hw:∀v σ H Q,t' v σ H Q->t v σ H Q):PG X tg t':=λγ s σ H v u Q I r q=>h γ s σ H v u Q I r (hw _ _ _ _ q)
def GC.weak{tg:qap}{t t':LK}(h:GC X tg t)(hw:∀v σ H Q,t' v σ H Q->t v σ H Q):GC X tg t':=λγ s σ H v u Q I r q=>h γ s σ H v u Q I r (hw _ _ _ _ q)
noncomputable def adt(K:Γ)(tl:TE):TI:=λσ H R=>tl σ H λx H1=>(∃a,x=.ref a/\(∃xs,gN K H1 a xs)/\R (Itl K a) H1)\/(∃a,x=.ref a/\(∃xs,fB K H1 a xs)/\R (Itt K a) H1)\/∃z,x=.str z/\R (Its z) H1
section
variable{Z:Zc}{tg:Expr}
def So{l:Expr}{tl:TE}(hl:PE X l tl):PI X tg l (adt X.K tl):=by
 intro γ s σ H R I h;refine ck (hl γ s σ H _ I h) λv s1 ⟨x,H1,I1,r1,q1⟩=>?_;obtain⟨a,e,hq,q⟩|⟨a,e,hq,q⟩|⟨z,e,q⟩:=q1
 subst e;cases r1;obtain⟨xs,hq⟩:=hq;obtain⟨aW,rv,p,hz⟩:=I1.list hq;refine wpAny_pyIter_list p.isList ?_;refine⟨s1.heap.objs.size,[s1.heap.objs.size],_,_,H1,rfl,I1.kept (t':=s1.toks) λb o e=>jn _ e,D6 a _,⟨_,ph _ rfl,rfl,rfl⟩,λb hb=>?_,q⟩;have e:b=s1.heap.objs.size:=by simpa using hb
 subst e;exact I1.pD (c9 _) (I1.cm.fresh (c9 _));subst e;cases r1;obtain⟨xs,hq⟩:=hq;obtain⟨aW,rv,p,hz⟩:=I1.tuple hq;refine aap (show s1.heap.IsTuple a aW.toArray from p) ?_;refine⟨s1.heap.objs.size,[s1.heap.objs.size],_,_,H1,rfl,I1.kept (t':=s1.toks) λb o e=>jn _ e,Ai a _,⟨_,ph _ rfl,rfl,rfl⟩,λb hb=>?_,q⟩;have e:b=s1.heap.objs.size:=by simpa using hb
 subst e;exact I1.pD (c9 _) (I1.cm.fresh (c9 _));subst e;obtain⟨t,rfl⟩:=r1;refine wpAny_pyIter_strU ?_;have I2:Inv X γ σ H1 {s1 with heap:=s1.heap.push {cls:=.type (strIterType z),data:=.fields #[.str z t,.int 0 0]} }:=I1.kept (t':=s1.toks) λb o e=>jn _ e;refine⟨s1.heap.objs.size,[s1.heap.objs.size],_,_,H1,rfl,I2,G_ z t _,⟨_,ph _ rfl,rfl,rfl⟩,λb hb=>?_,q⟩;have e:b=s1.heap.objs.size:=by simpa using hb
 subst e;exact I1.pD (c9 _) I1.fresh
def adu(f:FE):FI:=λρ Q=>f ρ λt=>match t with
 |.lst ts=>Q ts
 |.tup ts=>Q ts
 |.str z=>Q (z.cps.toList.map λc=>.str ⟨#[c]⟩)
 |_=>False
def Mu{ts:List T}:Wk K (Itl K a) [(.lst ts,.ref a)] ts:=λH A hA h i=>by have h:=h _ dD;simp only[At] at h;obtain⟨b,vs,e,l,q⟩:=h;cases e;have hl:=q.length;refine⟨λhi=>⟨vs,vs[i]'(by omega),l.sq,by simp⟩,λhi=>⟨vs,l.sq,by omega⟩,λt ht x H' y=>?_⟩;obtain⟨rfl,y⟩:=y;obtain⟨v,e1,e2⟩:=q.get ht;have:=y vs l.sq;rw[e1] at this;cases this;exact⟨aV.refl _,e2⟩
def Sq{ts:List T}:Wk K (Itt K a) [(.tup ts,.ref a)] ts:=λH A hA h i=>by have h:=h _ dD;simp only[At] at h;obtain⟨b,vs,e,l,q⟩:=h;cases e;have hl:=q.length;refine⟨λhi=>⟨vs,vs[i]'(by omega),l,by simp⟩,λhi=>⟨vs,l,by omega⟩,λt ht x H' y=>?_⟩;obtain⟨rfl,y⟩:=y;obtain⟨v,e1,e2⟩:=q.get ht;have:=y vs l;rw[e1] at this;cases this;exact⟨aV.refl _,e2⟩
def Sr{z:Str}:Wk K (Its z) [] (z.cps.toList.map λc=>T.str ⟨#[c]⟩):=λH A hA h i=>by refine⟨λhi=>by rw[cu,La] at hi;exact hi,λhi=>by rw[cu,La] at hi;exact Nat.le_of_eq hi,λt ht x H' y=>?_⟩;obtain⟨rfl,c,hc,rfl⟩:=y;rw[iz,Array.getElem?_toList,hc] at ht;cases ht;exact⟨aV.refl _,dZ⟩
def eW{l:Expr}{f:FE}(h:VE X Z l f):VI X Z tg l (adu f):=.mk λtm=>PI.weak (So (h tm)) λσ H R ⟨ρ,O,q,I,hf,k⟩=>⟨ρ,O,_,I,hf,λt ht v H' s a=>by split at ht;have a0:=a;simp only[At] at a;obtain⟨p,vs,rfl,l,_⟩:=a;exact .inl ⟨p,rfl,⟨vs,l.sq⟩,k _ ht _ H' _ s (λp hp=>by rw[hX.mp hp];exact a0) Mu⟩;have a0:=a;simp only[At] at a;obtain⟨p,vs,rfl,l,_⟩:=a;exact .inr (.inl ⟨p,rfl,⟨vs,l⟩,k _ ht _ H' _ s (λp hp=>by rw[hX.mp hp];exact a0) Sq⟩);have e:=a;simp only[At] at e;exact .inr (.inr ⟨_,e,k _ ht _ H' [] s (λp hp=>nomatch hp) Sr⟩);exact ht.elim⟩
noncomputable def rangeT(lo:Int)(n:Nat):List T:=(List.range n).map λi=>T.int (lo+((i:Nat):Int))
theorem Hm{lo:Int}:Wk K (Z9 lo n) [] (rangeT lo n):=λH A hA h i=>by
 unfold rangeT;refine⟨λhi=>by rw[cu,Lc] at hi;exact hi,λhi=>by rw[cu,Lc] at hi;exact Nat.le_of_eq hi,λt ht x H' y=>?_⟩;obtain⟨rfl,rfl⟩:=y;rw[iz] at ht;cases e:(List.range n)[i]? with
 |none=>rw[e] at ht;cases ht
 |some j=>
  rw[e] at ht;have hj:j=i:=by have:=eE.mp e;obtain⟨h1,h2⟩:=this;simpa using h2.symm
  subst hj;cases ht;exact⟨aV.refl _,bC⟩
def pR1(ts:List T)(Q:List T->Prop):Prop:=match ts with
 |[.int j]=>-(2 ^ 62)<=j/\j<2 ^ 62/\Q (rangeT 0 j.toNat)
 |_=>False
def Ss(g:FA)(p:List T->(List T->Prop)->Prop):FI:=λρ Q=>g ρ λts=>p ts Q
def dw{a:Expr}{g:FE}(hg:Gl X "range")(hm:X.mg "range"=none)(ha:VR X Z a g)(hs:starEach [a] X.env=[(false,eval a X.env)]:=by rfl) :
  VI X Z tg (.Call (.Name "range" p) [a] [] pos) (Ss (gu g vg) pR1):=.mk λtm=>PI.weak (D7 hg hm ((aJ ha aX hs) tm) hs) λσ H R ⟨ρ,O,q,I,hf,k⟩=>⟨ρ,O,_,I,hf,λts gh vs H' s a=>by
 unfold pR1 at gh;split at gh;obtain⟨v,rfl,a1⟩:=dz a;exact⟨_,by rw[a1.int],gh.1,gh.2.1,k _ gh.2.2 _ H' [] s (λp hp=>nomatch hp) Hm⟩;exact gh.elim⟩
abbrev FG:=T->En->(En->Prop)->Prop
abbrev Mv:=List T->En->(En->Prop)->Prop
noncomputable def lG(X:Cx)(Z:Zc)(tm:List (T×V))(is:qao)(h:FG):TG:=λv σ H Q=>∃ρ O t q,ay X.K Z tm O ρ σ H/\At X.K H (av Z O) t v/\h t ρ q/\∀ρ',q ρ'->∀O' σ',ay X.K Z tm O' ρ' σ' H->(∀a∈roots O',a∈roots O)->(∀(j:Nat),j∉is->O'[j]?=O[j]?)->σ'.length=σ.length->(∀(j:Nat),j∉is->σ'[j]?=σ[j]?)->Q σ' H
noncomputable def lGs(X:Cx)(Z:Zc)(tm:List (T×V))(is:qao)(h:Mv):LK:=λvs σ H Q=>∃ρ O ts q,ay X.K Z tm O ρ σ H/\aA X.K H (av Z O) ts vs/\h ts ρ q/\∀ρ',q ρ'->∀O' σ',ay X.K Z tm O' ρ' σ' H->(∀a∈roots O',a∈roots O)->(∀(j:Nat),j∉is->O'[j]?=O[j]?)->σ'.length=σ.length->(∀(j:Nat),j∉is->σ'[j]?=σ[j]?)->Q σ' H
def VG(X:Cx)(Z:Zc)(tg:Expr)(is:qao)(h:FG):Prop:=Bx λtm=>PG X tg (lG X Z tm is h)
instance{X:Cx}{Z:Zc}{tg:Expr}{is:qao}{h:FG}:CoeFun (VG X Z tg is h) λ_=>∀tm,PG X tg (lG X Z tm is h):=⟨λh=>Bx.h h⟩
def XD(X:Cx)(Z:Zc)(tgs:qap)(is:qao)(h:Mv):Prop:=Bx λtm=>GC X tgs (lGs X Z tm is h)
instance{X:Cx}{Z:Zc}{tgs:qap}{is:qao}{h:Mv}:CoeFun (XD X Z tgs is h) λ_=>∀tm,GC X tgs (lGs X Z tm is h):=⟨λh=>Bx.h h⟩
def hName(i:Nat):FG:=λt ρ Q=>Q (ρ.set i (some (t,false)))
def br(hN:X.N.Nodup)(hi:X.N[i]?=some x)(hx:Loc X.env.scope x)(hp:bN Z i)(hf:X.fn x=true\/X.env.scope.names.lookup x=some .local:=by first|exact .inl rfl|assumption) :
  VG X Z (.Name x pos) [i] (hName i):=.mk λtm=>PG.weak (LL hN hi hx hf) λv σ H Q ⟨ρ,O,t,q,I,a,h,k⟩ =>
 k _ h _ _ (I.put hp a) (cq i) (λj hj=>xi (λe=>hj (by simp[e]))) (by simp) λj hj=>xi (λe=>hj (by simp[e]))
def adv:Mv:=λts ρ Q=>ts=[]/\Q ρ
def PH(h:FG)(hs:Mv):Mv:=λts ρ Q=>match ts with
 |t::r=>h t ρ λρ'=>hs r ρ' Q
 |[]=>False
def XE(n:Nat)(h:Mv):FG:=λt ρ Q=>match t with
 |.tup ts=>ts.length=n/\h ts ρ Q
 |_=>False
def mq:XD X Z [] [] adv:=.mk λtm=>GC.weak LM λvs σ H Q ⟨ρ,O,ts,q,I,a,h,k⟩=>by
 obtain⟨rfl,h⟩:=h;have e:vs=[]:=by simpa only[aA] using a
 exact⟨e,k _ h O σ I (λ_ z=>z) (λ_ _=>rfl) rfl λ_ _=>rfl⟩
def eC{js:qao}{h:FG}{hs:Mv}(h1:VG X Z e is h)(h2:XD X Z es js hs)(hse:(assignEach (e::es) X.env).map (·.2)=assign e X.env::(assignEach es X.env).map (·.2):=by rfl):XD X Z (e::es) (is++js) (PH h hs):=.mk λtm=>GC.weak (GD (h1 tm) (h2 tm) hse) λvs σ H Q ⟨ρ,O,ts,q,I,a,hh,k⟩=>by
 unfold PH at hh;split at hh;simp only[aA] at a;obtain⟨v,r,rfl,a1,a2⟩:=a;refine⟨v,r,rfl,ρ,O,_,_,I,a1,hh,λρ' hρ O' σ' I' ro eo l e=>⟨ρ',O',_,q,I',a2.bz λb hb=>?_,hρ,λρ2 h2 O2 σ2 I2 ro2 eo2 l2 e2=>k ρ2 h2 O2 σ2 I2 (λa z=>ro a (ro2 a z)) (λj hj=>?_) (l2.trans l) λj hj=>?_⟩⟩;rcases cR.mp hb with z|z
 exact cW _ (ro b z);exact cb _ z;rw[cR,not_or] at hj;exact (eo2 j hj.2).trans (eo j hj.1);rw[cR,not_or] at hj;exact (e2 j hj.2).trans (e j hj.1);exact hh.elim
def qz{k:Nat}{h:Mv}(hc:X.calm=true)(hh:XD X Z es is h)(hn:(assignEach es X.env).length=n:=by rfl)(GF:(assignEach es X.env).findIdx? (·.1)=none:=by rfl):VG X Z (.Tuple es k pos) is (XE n h):=.mk λtm=>PG.weak (Rn hc (hh tm) hn GF) λv σ H Q ⟨ρ,O,t,q,I,a,h',kk⟩=>by unfold XE at h';split at h';simp only[At] at a;obtain⟨p,vs,rfl,s,a⟩:=a;exact⟨p,vs,rfl,s,a.length.trans h'.1,ρ,O,_,q,I,a,h'.2,kk⟩;exact h'.elim
def adw(f:FE)(h:FG):FS:=λd ρ=>f ρ λt=>h t ρ d.nx
def Su{tg:Expr}{f:FE}{h:FG}(he:VE X Z e f)(hg:VG X Z tg is h)(hs:swapsWithSole [tg] e pos.line X.env=pure false:=by rfl)(hw:swappedStores [tg] e X.env=pure none:=by rfl)(h1:(assignEach [tg] X.env).map (·.2)=[assign tg X.env]:=by rfl):VS X Z (.Assign [tg] e pos) (adw f h):=.mk λtm=>PS.weak (GG (he tm) (hg tm) hs hw h1) λD σ H ⟨ρ,O,d,I,q,F⟩ =>
 ⟨ρ,O,_,I,q,λt ht v H' s a=>⟨ρ,O,t,_,I.same s,a,ht,λρ' hρ O' σ' I' _ _ _ _=>F.nx O' ρ' σ' H' I' hρ⟩⟩
def oZ(ts:List T)(h:FG)(g:FS):FS:=λd ρ=>∃Pv:Nat->En->Prop,Pv 0 ρ/\(∀(i:Nat) t ρ',ts[i]?=some t->Pv i ρ'->h t ρ' λρ2=>g {nx:=Pv (i+1),ct:=Pv (i+1),bk:=d.nx,rt:=d.rt} ρ2)/\∀ρ',Pv ts.length ρ'->d.nx ρ'
def adx(f:FI)(h:FG)(g:FS):FS:=λd ρ=>f ρ λts=>oZ ts h g d ρ
def dG{body:qaq}{f:FI}{h:FG}{g:FS}(hp:PassesOwn (model X.prog X.w) X.A X.env X.xe)(hc:X.calm=true)(hi:VI X Z tg iter f)(hg:VG X Z tg is h)(hb:j' X Z body g)(hs:∀x,foldedSetIterable iter X.env x=pure x:=by intro _;rfl):VS X Z (.For tg iter body [] pos) (adx f h g):=by
 refine .mk λtm γ s σ H D I0 hw=>?_;obtain⟨ρ,O,d,I,q,F⟩:=hw;refine Rr (wi:=lI X Z tm f) (g:=λv σ H Q=>∃cv,lG X Z (cv++tm) is h v σ H Q) (tb:=λD σ H=>∃cv,lS X Z (cv++tm) g D σ H) hp hc (hi tm) (λγ s σ H v u Q I r ⟨cv,z⟩=>hg (cv++tm) γ s σ H v u Q I r z) (λγ s σ H D I ⟨cv,z⟩=>hb (cv++tm) γ s σ H D I z) hs γ s σ H D I0 ?_;refine⟨ρ,O,_,I,q,λts gh J H' cv s a wk=>?_⟩;obtain⟨Pv,p0,step,fin⟩:=gh;have J0:ay X.K Z (cv++tm) O ρ σ H':=(I.same s).xS λp hp=>by
  rcases cR.mp hp with z|z
  exact a p z;exact (I.same s).sI p z
 refine⟨λi m σ H=>m=ts.length-i/\i<=ts.length/\∃ρ O,ay X.K Z (cv++tm) O ρ σ H/\Pv i ρ,⟨ts.length,by simp,hY _,ρ,O,J0,p0⟩,?_⟩;rintro i m σ1 H1 ⟨rfl,hi,ρ1,O1,I1,p1⟩;obtain⟨w1,w2,w3⟩:=wk H1 (av Z O1) I1.z7 (λp hp=>I1.sI p (cW _ hp)) i;have un:∀{O:HD}{ρ:En}{σ:St}{H:Hp},ay X.K Z (cv++tm) O ρ σ H->ay X.K Z tm O ρ σ H:=λI=>I.xS λp hp=>I.sI p (cb _ hp);by_cases gq:i<ts.length;refine .inr ⟨w1 gq,λσ' H'=>∃ρ O,ay X.K Z (cv++tm) O ρ σ' H'/\Pv (i+1) ρ,λσ' H' ⟨ρ',O',I',p'⟩=>⟨ts.length-(i+1),by omega,rfl,gq,ρ',O',I',p'⟩,λx H2 y=>?_⟩;have e:ts[i]?=some ts[i]:=by simp[gq]
 obtain⟨s2,a2⟩:=w3 ts[i] e x H2 y;refine⟨cv,ρ1,O1,ts[i],_,I1.same s2,a2,step i _ ρ1 e p1,λρ2 h2 O2 σ2 I2 _ _ _ _=>⟨cv,ρ2,O2,_,I2,h2,?_⟩⟩;exact⟨λO ρ σ H I p=>⟨ρ,O,I,p⟩,λO ρ σ H r v z p=>F.rt O ρ σ H r v z.xS p,λO ρ σ H I p=>F.nx O ρ σ H (un I) p,λO ρ σ H I p=>⟨ρ,O,I,p⟩⟩;have e:i=ts.length:=by omega
 subst e;exact .inl ⟨w2 (rfl),F.nx O1 ρ1 σ1 H1 (un I1) (fin ρ1 p1)⟩
end
def fF(O:HD)(n:Nat):roots (O++List.replicate n none)=roots O:=by
 unfold roots;rw[List.filterMap_append];have:(List.replicate n (none:qar)).filterMap id=[]:=by
  induction n with
  |zero=>rfl
  |succ n ih=>rw[zX,kr];exact ih
 rw[this,DX]
def ay.longer{Z:Zc}{tm:List (T×V)}{ρ:En}(I:ay K Z tm O ρ σ H)(n:Nat){τ:St}(hτ:τ.length=n) :
  ay K Z tm (O++List.replicate n none) (ρ++List.replicate n none) (σ++τ) H:=by
 have ea:av Z (O++List.replicate n none)=av Z O:=by unfold av;rw[fF]
 refine⟨by simp[I.lσ,hτ],by simp[I.lO],λi e h=>?_,by rw[fF];exact I.nd,λa h=>I.own a (by rw[fF] at h;exact h),λp hp=>?_,I.ox,I.keep,λp hp=>by rw[ea];exact I.sI p hp⟩;rw[ea];by_cases hi:i<ρ.length;rw[nK hi] at h;obtain⟨o,s,h1,h2,h3⟩:=I.sl i e h;exact⟨o,s,by rw[nK (by rw[I.lO];exact hi)];exact h1,by rw[nK (by rw[I.lσ];exact hi)];exact h2,h3⟩;rw[pf (by omega),DV] at h;split at h
 rename_i hl
 cases h;refine⟨none,τ[i-σ.length]'(by rw[I.lσ,hτ];exact hl),?_,?_,rfl⟩;rw[pf (by rw[I.lO];omega),DV,ε (by rw[I.lO];exact hl)];rw[pf (by rw[I.lσ];omega)];simp;cases h;have:=I.par p hp;have hl:=(eE.mp this).1;rw[nK hl];exact this
def ay.Hn{Z:Zc}{tm:List (T×V)}{ρ:En}{u o:HO}(I:ay K (Z.ex a) tm O ρ σ H)(hu:H a=some u)(hm:kA u=true)(h0:Z.H0 a=none):ay K (Z.ex a) tm O ρ σ (upd H a o):=by
 have Md:a∈av (Z.ex a) O:=cb _ dD;have nr:∀b∈roots O,b≠a:=λb hb e=>(I.own b hb).2.1 (by rw[e];exact dD);refine⟨I.lσ,I.lO,λi e h=>?_,I.nd,λb hb=>?_,I.par,λb hb=>?_,λb o' e n=>?_,λp hp=>(I.sI p hp).wrote Md hu hm⟩;obtain⟨o',s,h1,h2,h3⟩:=I.sl i e h;refine⟨o',s,h1,h2,h3.map (λ_ _ q=>q.wrote Md hu hm) λb t e q=>?_⟩;subst e;exact q.map (aB (nr b (aN.mpr (gM h1)))) λ_ _ z=>z.wrote Md hu hm;obtain⟨q1,q2,v,e,m⟩:=I.own b hb;exact⟨q1,q2,v,by rw[aB (nr b hb)];exact e,m⟩;by_cases e:b=a;subst e;rw[aG];simp;rw[aB e];exact I.ox b hb;have:b≠a:=λe'=>by subst e';have e2:Z.H0 b=some o':=e;rw[h0] at e2;cases e2
 rw[aB this];exact I.keep b o' e n
noncomputable def c6(h:FG)(fc:FB)(fe:FE)(ρ:En):List T->(List T->Prop)->Prop
 |[],Q=>Q []
 |t::ts,Q=>h t ρ λρ2=>fc ρ2 λb=>if b=true then fe ρ2 λu=>c6 h fc fe ρ ts λus=>Q (u::us) else c6 h fc fe ρ ts Q
def CF(n:Nat)(is:qao)(f:FI)(h:FG)(fc:FB)(fe:FE):FP:=λρ Q=>(is.all λj=>decide (ρ.length<=j))=true/\f ρ λts=>ts.length<=sizeLine/\c6 h fc fe (ρ++List.replicate n none) ts λus=>Q (.fr (.lst us))
def VF(X:Cx)(Z:Zc)(ifs:qap)(f:FB):Prop:=Bx λtm=>G5 X ifs (lB X Z tm f)
instance{X:Cx}{Z:Zc}{ifs:qap}{f:FB}:CoeFun (VF X Z ifs f) λ_=>∀tm,G5 X ifs (lB X Z tm f):=⟨λh=>Bx.h h⟩
def Sw:FB:=λ_ Q=>Q true
def G5.weak{e:qap}{t t':TT}(h:G5 X e t)(hw:∀σ H Q,t' σ H Q->t σ H Q):G5 X e t':=λγ s σ H Q I q=>h γ s σ H Q I (hw _ _ _ q)
section
variable{Z:Zc}
def gf:VF X Z [] Sw:=.mk λtm=>G5.weak L7 λσ H Q ⟨ρ,O,q,I,h,k⟩=>k true h H (aV.refl H)
def CG{f:FB}(h:VC X Z c f):VF X Z [c] f:=.mk λtm=>L8 (h tm)
noncomputable def cG(X:Cx)(Z:Zc)(tm:List (T×V))(is:qao)(h:FG):TG:=λv σ H Q=>∃D cv,lG X (Z.ex D) (cv++tm) is h v σ H Q
noncomputable def cB(X:Cx)(Z:Zc)(tm:List (T×V))(f:FB):TT:=λσ H Q=>∃D cv,lB X (Z.ex D) (cv++tm) f σ H Q
noncomputable def cE(X:Cx)(Z:Zc)(tm:List (T×V))(f:FE):TE:=λσ H Q=>∃D cv,lE X (Z.ex D) (cv++tm) f σ H Q
theorem Sx{Z:Zc}{tm cv:List (T×V)}{ρ:En}{H1:Hp}{D:Addr}{J:It}{ts:List T}{h:FG}{fc:FB}{fe:FE}{q:Rt->Prop}{Q:VK}(X:Cx)(hK:X.K=K)(I:ay K Z (cv++tm) O ρ σ H1)(hD:H1 D=none)(wk:Wk K J cv ts)(hz:ts.length<=sizeLine)(Eo:∀j∈is,ρ.length<=j)(hw:c6 h fc fe (ρ++List.replicate n none) ts λus=>q (.fr (.lst us)))(k:∀r,q r->∀v H',aV H1 H'->iR K Z tm O ρ σ H' r v->Q v H') :
  G6 J (cG X Z tm is h) (cB X Z tm fc) (cE X Z tm fe) n σ D (Q (.ref D)) H1:=by
 subst hK;obtain⟨n1,n2,n3⟩:=I.fresh hD;refine⟨λi m acc H2=>m=ts.length-i/\i<=ts.length/\aV H1 H2/\H2 D=some (.lst acc)/\∃us,aA X.K H2 (av (Z.ex D) O) us acc/\acc.length<=i/\ay X.K (Z.ex D) (cv++tm) O ρ σ H2/\c6 h fc fe (ρ++List.replicate n none) (ts.drop i) λr=>q (.fr (.lst (us++r))),
  ⟨ts.length,by simp,hY _,aH hD,aG,[],aA.nil,hY _,I.new hD rfl,by simpa using hw⟩,?_⟩
 rintro i m acc H2 ⟨rfl,hi,s2,hD2,us,a2,hl,I2,w2⟩;refine⟨hD2,?_⟩;obtain⟨w1,w2',w3⟩:=wk H2 (av (Z.ex D) O) I2.z7 (λp hp=>I2.sI p (cW _ hp)) i;by_cases gq:i<ts.length;refine .inr ⟨w1 gq,by omega,λx H3 y=>?_⟩;have e:ts[i]?=some ts[i]:=by simp[gq]
 obtain⟨s3,a3⟩:=w3 ts[i] e x H3 y;rw[acd gq] at w2;have I3:=(I2.same s3).longer n (τ:=List.replicate n none) (by simp);have ea:av (Z.ex D) (O++List.replicate n none)=av (Z.ex D) O:=by unfold av;rw[fF]
 refine⟨D,cv,_,_,ts[i],_,I3,by rw[ea];exact a3,w2,λρ4 hρ4 O4 σ4 I4 ro4 eo4 l4 e4=>⟨⟨?_,λj v hj=>?_⟩,D,cv,ρ4,O4,_,I4,hρ4,λb hb H5 s5=>?_⟩⟩;rw[l4];simp;have Ep:=(eE.mp hj).1;have:j∉is:=λz=>by have:=Eo j z;have:=I.lσ;omega
 rw[e4 j this,nK Ep];exact hj;have S5:=(s2.trans s3).trans s5;have J5:=(I2.same s3).same s5;cases b with
 |true=>
   rw[ε rfl] at hb;refine RZ ⟨D,cv,ρ4,O4,_,I4.same s5,hb,λu hu y H6 s6 a6=>?_⟩;have hD6:=s6 _ _ (s5 _ _ (s3 _ _ hD2));refine⟨hD6,ts.length-(i+1),by omega,rfl,gq,λb o e=>?_,aG,us++[u],?_,by simp;omega,(J5.same s6).Hn hD6 rfl n3,?_⟩;rw[aB (bB e hD)];exact s6 _ _ (S5 _ _ e);have Md:D∈av (Z.ex D) O:=cb _ dD;have a6':At X.K H6 (av (Z.ex D) O) u y:=a6.bz λb hb=>by
    rcases cR.mp hb with z|z
    obtain⟨j,hj⟩:=We.mp (aN.mp z);have Ep:=(eE.mp hj).1;have nj:j∉is:=λz=>by have:=Eo j z;have:=I.lO;omega
    have:=eo4 j nj;rw[nK Ep,hj] at this;exact cW _ (aN.mpr (gM this));exact cb _ z
   exact aA.wrote Md hD6 rfl ((((a2.same s3).same s5).same s6).append (aA.cons a6' aA.nil));have e2:∀r,(us++[u])++r=us++(u::r):=λr=>by simp
   simp only[e2];exact hu
 |false=>rw[ζ iM] at hb;exact RY ⟨ts.length-(i+1),by omega,rfl,gq,S5,s5 _ _ (s3 _ _ hD2),us,(a2.same s3).same s5,by omega,J5,hb⟩
 have e:i=ts.length:=by omega
 subst e;refine .inl ⟨w2' (rfl),?_⟩;rw[List.drop_length] at w2;simp only[c6,DX] at w2;refine k _ w2 _ H2 s2 ⟨D,rfl,I2.xS λp hp=>I2.sI p (cb _ hp),⟨acc,hD2,a2⟩,n3,n2⟩
def CH{tm:List (T×V)}{f:FI}{h:FG}{fc:FB}{fe:FE}{Q:VK}(hq:lP X Z tm (CF n is f h fc fe) σ H Q):G8 n (lI X Z tm f) (cG X Z tm is h) (cB X Z tm fc) (cE X Z tm fe) σ H Q:=by
 obtain⟨ρ,O,q,I,⟨Eo,hf⟩,k⟩:=hq;refine⟨ρ,O,_,I,hf,λts gh J H' cv s a wk D hD=>?_⟩;have I':ay X.K Z (cv++tm) O ρ σ H':=(I.same s).xS λp hp=>by
  rcases cR.mp hp with z|z
  exact a p z;exact (I.same s).sI p z
 refine Sx X rfl I' hD wk gh.1 (λj hj=>?_) gh.2 λr hr v H2 s2 z=>k r hr v H2 (s.trans s2) z;have:=QW.mp Eo j hj;exact Λ this
variable{ts:ν}{elt tg:Expr}{ifs:qap}{f:FI}{h:FG}{fc:FB}{fe:FE}
def iW(hc:X.calm=true)(hS:kW X.N ts X.env.scope sc=true)(hi:VI X Z tg iter f)(hg:∀D cl C fp s H,VG (bU X ts sc cl C fp s H) (Z.ex D) tg is h)(ht:∀D cl C fp s H,VF (bU X ts sc cl C fp s H) (Z.ex D) ifs fc)(he:∀D cl C fp s H,VE (bU X ts sc cl C fp s H) (Z.ex D) elt fe)(hs:∀x,foldedSetIterable iter X.env x=pure x:=by intro _;rfl):VP X Z (.ListComp elt [⟨tg,iter,ifs,0⟩] sc pos) (CF ts.length is f h fc fe):=.mk λtm=>
 PE.weak (L_ hc hS (hi tm) (λcl C fp s H γ s' σ H' v u Q I r ⟨D,cv,z⟩=>hg D cl C fp s H (cv++tm) γ s' σ H' v u Q I r z) (λcl C fp s H γ s' σ H' Q I ⟨D,cv,z⟩=>ht D cl C fp s H (cv++tm) γ s' σ H' Q I z)
  (λcl C fp s H γ s' σ H' Q I ⟨D,cv,z⟩=>he D cl C fp s H (cv++tm) γ s' σ H' Q I z) hs) λσ H Q hq=>CH hq
def xT{py xN:Pos}(hN:X.N.Nodup)(hy:X.N[i]?=some y)(hx:Loc X.env.scope y)(hc:X.calm=true)(hS:kW X.N ts X.env.scope sc=true)(hi:VI X Z tg iter f)(hg:∀D cl C fp s H,VG (bU X ts sc cl C fp s H) (Z.ex D) tg is h)(ht:∀D cl C fp s H,VF (bU X ts sc cl C fp s H) (Z.ex D) ifs fc)(he:∀D cl C fp s H,VE (bU X ts sc cl C fp s H) (Z.ex D) elt fe)(Ma:swapsWith (.ListComp elt [⟨tg,iter,ifs,0⟩] sc pos) (some (.Name y py)) xN.line X.env=pure true)(hs:∀x,foldedSetIterable iter X.env x=pure x)(hf:X.fn y=true\/X.env.scope.names.lookup y=some .local)(tm:List (T×V)) :
  PS X (.Assign [.Name y py] (.ListComp elt [⟨tg,iter,ifs,0⟩] sc pos) xN) (LN (lP X Z tm (CF ts.length is f h fc fe)) (kK i)) :=
 PS.weak (L' hN hy hx hc hS (hi tm) (λcl C fp s H γ s' σ H' v u Q I r ⟨D,cv,z⟩=>hg D cl C fp s H (cv++tm) γ s' σ H' v u Q I r z) (λcl C fp s H γ s' σ H' Q I ⟨D,cv,z⟩=>ht D cl C fp s H (cv++tm) γ s' σ H' Q I z)
  (λcl C fp s H γ s' σ H' Q I ⟨D,cv,z⟩=>he D cl C fp s H (cv++tm) γ s' σ H' Q I z) Ma hs hf) λD σ H hq=>CH hq
def pS{py xN:Pos}(hN:X.N.Nodup)(hy:X.N[i]?=some y)(hx:Loc X.env.scope y)(hc:X.calm=true)(hS:kW X.N ts X.env.scope sc=true)(hi:VI X Z tg iter f)(hg:∀D cl C fp s H,VG (bU X ts sc cl C fp s H) (Z.ex D) tg is h)(ht:∀D cl C fp s H,VF (bU X ts sc cl C fp s H) (Z.ex D) ifs fc)(he:∀D cl C fp s H,VE (bU X ts sc cl C fp s H) (Z.ex D) elt fe)(hp:bN Z i)(Ma:swapsWith (.ListComp elt [⟨tg,iter,ifs,0⟩] sc pos) (some (.Name y py)) xN.line X.env=pure true:=by rfl)(hs:∀x,foldedSetIterable iter X.env x=pure x:=by intro _;rfl)(hf:X.fn y=true\/X.env.scope.names.lookup y=some .local:=by first|exact .inl rfl|assumption) :
  VS X Z (.Assign [.Name y py] (.ListComp elt [⟨tg,iter,ifs,0⟩] sc pos) xN) (XA i (fX (CF ts.length is f h fc fe))):=.mk λtm=>
 PS.weak (xT hN hy hx hc hS hi hg ht he Ma hs hf tm) λD σ H ⟨ρ,O,d,I,q,F⟩=>⟨ρ,O,_,I,q,λr hr v H' s z=>F.nx _ _ _ H' (z.env.put hp z.at) hr⟩
def oh{h:FG}{fc:FB}{fe:FE}{ρ:En}{ts:List T}{Q:List T->Prop}(p:T->Bool)(u:T->T)(step:∀t∈ts,∀k:List T->Prop,∀r:List T->Prop,(if p t=true then r [u t] else r [])->h t ρ λρ2=>fc ρ2 λb=>if b=true then fe ρ2 λx=>r [x] else r [])(hq:Q ((ts.filter p).map u)):c6 h fc fe ρ ts Q:=by
 induction ts generalizing Q with
 |nil=>exact hq
 |cons t ts ih=>
  have st:=step t dD (λ_=>True) (λl=>match l with
   |[x]=>c6 h fc fe ρ ts λus=>Q (x::us)
   |_=>c6 h fc fe ρ ts Q)
  have rest:∀{Q':List T->Prop},Q' ((ts.filter p).map u)->c6 h fc fe ρ ts Q':=λhq=>ih (λt ht=>step t (gT _ ht)) hq;simp only[c6];refine st ?_;by_cases hp:p t=true;rw[ε hp];refine rest ?_;rw[ZT hp] at hq;exact hq;rw[ζ hp];refine rest ?_;rw[aco hp] at hq;exact hq
end
noncomputable def gv(K:Γ)(H:Hp)(A:υ):List Bool->υ->List T->v9->Prop
 |[],as,ts,vs=>as=[]/\ts=[]/\vs=[]
 |false::fs,as,ts,vs=>∃t kZ v jB,ts=t::kZ/\vs=v::jB/\At K H A t v/\gv K H A fs as kZ jB
 |true::fs,as,ts,vs=>∃a ud t kZ jB,as=a::ud/\ts=t::kZ/\vs=.ref a::jB/\c5 K H A a t/\gv K H A fs ud kZ jB
def XF(K:Γ)(H:Hp)(as Ox:υ)(H':Hp)(us:List T):Rt->V->Prop
 |.vw t,v=>At K H' (as++Ox) t v/\Paired (λa u=>c5 K H' (as++Ox) a u) as us
 |.fr t,v=>∃b,v=.ref b/\H b=none/\b∉as/\c5 K H' (b::(as++Ox)) b t/\Paired (λa u=>c5 K H' (b::(as++Ox)) a u) as us
abbrev GT:=List T->(List T->Rt->Prop)->Prop
def AS(K:Γ)(fs:List Bool)(G:GT):Sp:=λvs H Q _=>∃ts as Ox q,as.Nodup/\(∀a∈as,a∉Ox)/\(∀a∈Ox,H a≠none)/\gv K H (as++Ox) fs as ts vs/\G ts q /\
 ∀us r,q us r->∀v H',(∀b o,H b=some o->b∉as->H' b=some o)->XF K H as Ox H' us r v->Q v H'
noncomputable def ro:List Bool->υ->HD
 |[],_=>[]
 |false::fs,as=>none::ro fs as
 |true::fs,a::as=>some a::ro fs as
 |true::fs,[]=>none::ro fs []
noncomputable def pz:List Bool->υ->Nat->List (Nat×Addr)
 |[],_,_=>[]
 |false::fs,as,k=>pz fs as (k+1)
 |true::fs,a::as,k=>(k,a)::pz fs as (k+1)
 |true::fs,[],k=>pz fs [] (k+1)
noncomputable def vh:List Bool->List T->En
 |f::fs,t::ts=>some (t,f)::vh fs ts
 |_,_=>[]
noncomputable def k6:List Bool->En->List T
 |[],_=>[]
 |false::fs,ρ=>k6 fs ρ.tail
 |true::fs,some (t,_)::ρ=>t::k6 fs ρ
 |true::fs,ρ=>.aO::k6 fs ρ.tail
section
variable{A:υ}
theorem gw:∀{fs:List Bool}{as:υ}{ts:List T}{vs:v9},gv K H A fs as ts vs->ts.length=fs.length/\vs.length=fs.length/\(ro fs as).length=fs.length/\(vh fs ts).length=fs.length/\roots (ro fs as)=as
 |[],as,ts,vs,h=>by obtain⟨rfl,rfl,rfl⟩:=h;exact⟨rfl,rfl,rfl,rfl,rfl⟩
 |false::fs,as,ts,vs,h=>by obtain⟨t,kZ,v,jB,rfl,rfl,_,h⟩:=h;obtain⟨h1,h2,h3,h4,h5⟩:=gw h;exact⟨by simp[h1],by simp[h2],by simp[ro,h3],by simp[vh,h4],by simpa[ro,roots] using h5⟩
 |true::fs,as,ts,vs,h=>by obtain⟨a,ud,t,kZ,jB,rfl,rfl,rfl,_,h⟩:=h;obtain⟨h1,h2,h3,h4,h5⟩:=gw h;refine⟨by simp[h1],by simp[h2],by simp[ro,h3],by simp[vh,h4],?_⟩;simp only[ro,roots,kr,id] at h5 ⊢;rw[h5]
theorem qA:∀{fs:List Bool}{as:υ}{ts:List T}{vs:v9},gv K H A fs as ts vs->∀(i:Nat) e,(vh fs ts)[i]?=some e->∃o s,(ro fs as)[i]?=some o/\(vs.map some)[i]?=some s/\nW K H A e o s
 |[],as,ts,vs,h,i,e,he=>by simp[vh] at he
 |false::fs,as,ts,vs,h,i,e,he=>by
  obtain⟨t,kZ,v,jB,rfl,rfl,a,h⟩:=h;cases i with
  |zero=>simp only[vh,Wg,Option.some.injEq] at he;subst he;exact⟨none,some v,rfl,rfl,rfl,v,rfl,a⟩
  |succ i=>exact qA h i e (by simpa[vh] using he)
 |true::fs,as,ts,vs,h,i,e,he=>by
  obtain⟨a,ud,t,kZ,jB,rfl,rfl,rfl,r,h⟩:=h;cases i with
  |zero=>simp only[vh,Wg,Option.some.injEq] at he;subst he;exact⟨some a,some (.ref a),rfl,rfl,a,rfl,rfl,r⟩
  |succ i=>exact qA h i e (by simpa[vh] using he)
theorem oi:∀{fs:List Bool}{as:υ}{ts:List T}{vs:v9},gv K H A fs as ts vs->∀a∈as,∃t,c5 K H A a t
 |[],as,ts,vs,h,a,ha=>by obtain⟨rfl,rfl,rfl⟩:=h;cases ha
 |false::fs,as,ts,vs,h,a,ha=>by obtain⟨t,kZ,v,jB,rfl,rfl,_,h⟩:=h;exact oi h a ha
 |true::fs,as,ts,vs,h,a,ha=>by
  obtain⟨b,ud,t,kZ,jB,rfl,rfl,rfl,r,h⟩:=h;rcases c0.mp ha with z|z
  subst z;exact⟨t,r⟩;exact oi h a z
theorem Ho:∀{fs:List Bool}{as:υ}{ts:List T}{vs:v9}(k:Nat),gv K H A fs as ts vs->(pz fs as k).map (·.2)=as/\∀p∈pz fs as k,k<=p.1/\(ro fs as)[p.1-k]?=some (some p.2)
 |[],as,ts,vs,k,h=>by obtain⟨rfl,rfl,rfl⟩:=h;exact⟨rfl,λ_ z=>nomatch z⟩
 |false::fs,as,ts,vs,k,h=>by
  obtain⟨t,kZ,v,jB,rfl,rfl,_,h⟩:=h;obtain⟨h1,h2⟩:=Ho (k+1) h;refine⟨h1,λp hp=>?_⟩;obtain⟨l,e⟩:=h2 p hp;refine⟨by omega,?_⟩;have:p.1-k=(p.1-(k+1))+1:=by omega
  rw[this];simpa[ro] using e
 |true::fs,as,ts,vs,k,h=>by
  obtain⟨a,ud,t,kZ,jB,rfl,rfl,rfl,_,h⟩:=h;obtain⟨h1,h2⟩:=Ho (k+1) h;refine⟨by simp[pz,h1],λp hp=>?_⟩;rcases c0.mp hp with z|z
  subst z;exact⟨c9 _,by simp[ro]⟩;obtain⟨l,e⟩:=h2 p z;refine⟨by omega,?_⟩;have:p.1-k=(p.1-(k+1))+1:=by omega
  rw[this];simpa[ro] using e
theorem vi{R:Addr->T->Prop}{ρ:En}:∀{fs:List Bool}{as:υ}{ts:List T}{vs:v9}(k:Nat),gv K H A fs as ts vs->(∀p∈pz fs as k,∃t,ρ[p.1]?=some (some (t,true))/\R p.2 t)->Paired R as (k6 fs (ρ.drop k))
 |[],as,ts,vs,k,h,_=>by obtain⟨rfl,rfl,rfl⟩:=h;exact .nil
 |false::fs,as,ts,vs,k,h,q=>by obtain⟨t,kZ,v,jB,rfl,rfl,_,h⟩:=h;have:=vi (k+1) h q;simp only[k6,List.tail_drop];exact this
 |true::fs,as,ts,vs,k,h,q=>by
  obtain⟨a,ud,t,kZ,jB,rfl,rfl,rfl,_,h⟩:=h;have:=vi (ρ:=ρ) (k+1) h λp hp=>q p (gT _ hp);obtain⟨u,e,r⟩:=q (k,a) dD;have hk:k<ρ.length:=(eE.mp e).1;have e2:ρ[k]=some (u,true):=by rw[iy hk] at e;exact Option.some.inj e
  rw[acd hk,e2];exact .cons r this
end
theorem xU{N:ν}{fs:List Bool}{as:υ}{ts:List T}{Q:VK}{q:List T->Rt->Prop}{g:FS}(nd:as.Nodup)(nx:∀a∈as,a∉Ox)(ox:∀a∈Ox,H a≠none)(ha:gv X.K H (as++Ox) fs as ts vs)(kk:∀us r,q us r->∀v H',(∀b o,H b=some o->b∉as->H' b=some o)->XF X.K H as Ox H' us r v->Q v H')(hq:g {nx:=λρ=>q (k6 fs ρ) (.vw .aO),rt:=λρ r=>q (k6 fs ρ) r} (vh fs ts++List.replicate (N.length-ts.length) none)) :
  lS X ⟨H,pz fs as 0,Ox⟩ [] g {nx:=λ_ H'=>Q .aO H',rt:=Q} (start N vs) H:=by
 obtain⟨K,eK⟩:∃K,K=X.K:=⟨_,rfl⟩;unfold lS;rw[<- eK] at ha kk ⊢;obtain⟨l1,l2,l3,l4,l5⟩:=gw ha;obtain⟨p1,p2⟩:=Ho 0 ha;have ea:av ⟨H,pz fs as 0,Ox⟩ (ro fs as++List.replicate (N.length-ts.length) none)=as++Ox:=by unfold av;rw[fF,l5]
 have aem:∀H0 P (O:HD),av ⟨H0,P,Ox⟩ O=roots O++Ox:=λ_ _ _=>rfl;have I0:ay K ⟨H,pz fs as 0,Ox⟩ [] (ro fs as++List.replicate (N.length-ts.length) none) (vh fs ts++List.replicate (N.length-ts.length) none) (start N vs) H:=by
  refine⟨?_,?_,λi e he=>?_,by rw[fF,l5];exact nd,λa h=>?_,λp hp=>?_,ox,λb o e _=>e,λp hp=>nomatch hp⟩;unfold L2.start;simp[l2,l4,l1];simp[l3,l4];rw[ea];by_cases hi:i<fs.length;rw[nK (by rw[l4];exact hi)] at he;obtain⟨o,s,h1,h2,h3⟩:=qA ha i e he;refine⟨o,s,by rw[nK (by rw[l3];exact hi)];exact h1,?_,h3⟩;unfold L2.start;rw[nK (by rw[cu,l2];exact hi)];exact h2;rw[List.getElem?_append_right (by omega),DV] at he;split at he
  rename_i hl
  cases he;refine⟨none,none,?_,?_,rfl⟩;rw[pf (by omega),DV,ε (by rw[l3];rw[l4] at hl;exact hl)];unfold L2.start;rw[pf (by rw[cu];omega),DV,cu,ε (by rw[l2];rw[l4,l1] at hl;exact hl)];cases he;rw[fF,l5] at h;obtain⟨t,r⟩:=oi ha a h;exact⟨.inl (by show a∈(pz fs as 0).map (·.2);rw[p1];exact h),nx a h,r.mut⟩;obtain⟨_,e⟩:=p2 p hp;rw[Nat.sub_zero] at e;rw[nK (eE.mp e).1];exact e
 have fin:∀{O:HD}{ρ:En}{σ:St}{H':Hp}{Z':Zc},Z'.P=pz fs as 0->ay K Z' [] O ρ σ H'->Paired (λa u=>c5 K H' (av Z' O) a u) as (k6 fs ρ):=λ{O ρ σ H' Z'} eP I=>by
  have:=vi (ρ:=ρ) (R:=λa u=>c5 K H' (av Z' O) a u) 0 ha λp hp=>?_;rw[List.drop_zero] at this;exact this;have e:=I.par p (by rw[eP];exact hp);have hl:=(eE.mp e).1;have z5:p.1<ρ.length:=by rw[<- I.lO];exact hl
  obtain⟨o,s',h1,h2,h3⟩:=I.sl p.1 ρ[p.1] (by simp);rw[e] at h1;cases h1;cases q:ρ[p.1] with
  |none=>rw[q] at h3;cases h3
  |some tb=>
    obtain⟨t,b⟩:=tb;rw[q] at h3;cases b with
    |false=>cases h3.1
    |true=>obtain⟨a',e1,_,r⟩:=h3;cases e1;exact⟨t,by rw[<- q];simp,r⟩
 have keep:∀{O:HD}{ρ:En}{σ:St}{H':Hp}{Z':Zc},Z'.H0=H->Z'.P=pz fs as 0->ay K Z' [] O ρ σ H'->∀b o,H b=some o->b∉as->H' b=some o:=λe0 eP I b o e n=>I.keep b o (by rw[e0];exact e) (by rw[eP,p1];exact n);have sub:∀{O:HD}{ρ:En}{σ:St}{H':Hp}{Z':Zc},Z'.P=pz fs as 0->ay K Z' [] O ρ σ H'->∀a∈as,a∈roots O:=λeP I a h=>by
  have:a∈(pz fs as 0).map (·.2):=by rw[p1];exact h
  obtain⟨p,hp,rfl⟩:=xn.mp this;exact aN.mpr (gM (I.par p (by rw[eP];exact hp)))
 refine⟨_,_,_,I0,hq,⟨λO ρ σ H' I h=>?_,λO ρ σ H' r v z h=>?_,λ_ _ _ _ _ h=>h.elim,λ_ _ _ _ _ h=>h.elim⟩⟩;have sb:∀a∈as++Ox,a∈av ⟨H,pz fs as 0,Ox⟩ O:=λa h=>by
  rcases cR.mp h with h|h
  exact cW _ (sub rfl I a h);exact cb _ h
 exact kk _ _ h .aO H' (keep rfl rfl I) ⟨AK,Paired.nM (fin rfl I) λ_ _ q=>q.bz sb⟩;cases r with
 |vw t=>
   obtain⟨I,a⟩:=z;have sb:∀a∈as++Ox,a∈av ⟨H,pz fs as 0,Ox⟩ O:=λa h=>by
    rcases cR.mp h with h|h
    exact cW _ (sub rfl I a h);exact cb _ h
   exact kk _ _ h v H' (keep rfl rfl I) ⟨a.bz sb,Paired.nM (fin rfl I) λ_ _ q=>q.bz sb⟩
 |fr t=>
   obtain⟨b,rfl,I,hR,h0,hx⟩:=z;have sb:∀a∈b::(as++Ox),a∈av (Zc.ex ⟨H,pz fs as 0,Ox⟩ b) O:=λa h=>by
    rcases c0.mp h with h|h
    rw[h];exact cb _ dD;rcases cR.mp h with h|h
    exact cW _ (sub rfl I a h);exact cb _ (gT _ h)
   exact kk _ _ h (.ref b) H' (keep rfl rfl I) ⟨b,rfl,h0,λhb=>(I.own b (sub rfl I b hb)).2.1 dD,hR.bz sb,Paired.nM (fin rfl I) λ_ _ q=>q.bz sb⟩
section
def fnV{st:Stmt}{N:ν}{k:Nat}{fs:List Bool}{G:GT}(F:Cu K x qual st f fd)(S:az N ps (ai st))(hfs:fs.length=ps.length)(dF:∀(bF:Value) (A:Around) (outer:List Env) (s:Shared) (H:Hp) (E:XK) (as Ox:υ),bG k (A.deeper (envOfC qual (ai st) s.heap.objs.size f bF))->∀ts q,ts.length=fs.length->G ts q ->
    ∃g,j' (fN eQ P w K mg base N qual (ai st) f bF A outer s H E).pA ⟨H,pz fs as 0,Ox⟩ (bE st) g/\g {nx:=λρ=>q (k6 fs ρ) (.vw .aO),rt:=λρ r=>q (k6 fs ρ) r} (vh fs ts++List.replicate (N.length-ts.length) none)) :
  cD P w K mg base eQ (k+1) f fd ps (AS K fs G):=by
 refine F.ok S (λvs H Q E h=>?_) (λbF A outer s H vs Q E hr h=>?_);obtain⟨ts,as,Ox,q,_,_,_,ha,_⟩:=h;rw[<- hfs];exact (gw ha).2.1;obtain⟨ts,as,Ox,q,nd,nx,ox,ha,hG,kk⟩:=h;have l1:=(gw ha).1;obtain⟨g,hg,hq⟩:=dF bF A outer s H E as Ox hr ts q l1 hG;exact⟨_,hg [],xU nd nx ox ha kk hq⟩
end
def cK(K:Γ)(n:Nat)(G:List T->(Rt->Prop)->Prop):Sp:=AS K (List.replicate n false) λts q=>G ts (q [])
section
variable{A:υ}
theorem iX:∀{n:Nat}{ts:List T}{vs:v9},ts.length=n->aA K H A ts vs->gv K H A (List.replicate n false) [] ts vs
 |0,ts,vs,l,h=>by have e:ts=[]:=O9.mp l;subst e;simp only[aA] at h;exact⟨rfl,rfl,h⟩
 |n+1,ts,vs,l,h=>by
  cases ts with
  |nil=>simp at l
  |cons t ts=>simp only[aA] at h;obtain⟨v,r,rfl,h1,h2⟩:=h;exact⟨t,ts,v,r,rfl,rfl,h1,iX (by simpa using l) h2⟩
end
def ay.PJ{Z:Zc}{tm:List (T×V)}{ρ:En}(I:ay K Z tm O ρ σ H)(h:H a=none)(s:aV H H'){u:HO}(hu:H' a=some u):ay K (Z.ex a) tm O ρ σ H':=by
 have J:=I.same s;obtain⟨n1,n2,n3⟩:=I.fresh h;have mr:∀b∈av (Z.ex a) O,b∈av Z O\/H b=none:=λb hb=>(dQ b hb).imp id λe=>by rw[e];exact h
 have fw:∀{t:T}{v:V},At K H (av Z O) t v->At K H' (av (Z.ex a) O) t v:=λq=>(q.more mr).same s;refine⟨J.lσ,J.lO,λi e hi=>?_,J.nd,λb hb=>?_,J.par,λb hb=>?_,J.keep,λp hp=>fw (I.sI p hp)⟩;obtain⟨o,w,h1,h2,h3⟩:=I.sl i e hi;refine⟨o,w,h1,h2,h3.map (λ_ _ q=>fw q) λb t eo q=>?_⟩;exact c5.same (q.map rfl λ_ _ z=>z.more mr) s;obtain⟨q1,q2,q3⟩:=J.own b hb;refine⟨q1,λz=>?_,q3⟩;rcases c0.mp z with z|z
 exact n1 (by rw[<- z];exact cW _ hb);exact q2 z;rcases c0.mp hb with z|z
 rw[z,hu];simp;exact J.ox b z
def AU(n:Nat)(g:FA)(G:List T->(Rt->Prop)->Prop):FP:=λρ Q=>g ρ λts=>ts.length=n/\G ts Q
section
variable{Z:Zc}{k:Nat}{G:List T->(Rt->Prop)->Prop}{g:FA}
def vj{tm:List (T×V)}{ρ:En}{ts:List T}{q:Rt->Prop}{Q:VK}(I:ay X.K Z tm O ρ σ H)(a:aA X.K H (av Z O) ts vs)(hn:ts.length=n)(hG:G ts q)(k:∀r,q r->∀v H',aV H H'->iR X.K Z tm O ρ σ H' r v->Q v H'):cK X.K n G (vs++[]) H Q E0:=by
 rw[DX];refine⟨ts,[],av Z O,λ_ r=>q r,LA,λ_ z=>absurd z fA,I.z7,iX hn a,hG,λus r hr v H' fr z=>?_⟩;have s:aV H H':=λb o e=>fr b o e fA;cases r with
 |vw t=>exact k _ hr v H' s ⟨I.same s,z.1⟩
 |fr t=>
  obtain⟨b,rfl,hb,_,hR,_⟩:=z;obtain⟨n1,n2,n3⟩:=I.fresh hb;obtain⟨u,eu,_⟩:=hR.mut;refine k _ hr _ H' s ⟨b,rfl,I.PJ hb s eu,hR.bz λc hc=>?_,n3,n2⟩;rcases dQ c hc with z|z
  exact gT _ z;rw[z];exact dD
def dA(F:cD X.prog X.w X.K X.mg X.base eQ k f fd ps (cK X.K n G))(hr:bG k X.A)(hg:Gl X x)(hm:X.mg x=some (.ref f))(hk:W.keepIn X.K (.ref f)=true)(hb:Binds X.K fd ps [])(ha:VA X Z (e::es) g)(l_:iq x:=by decide)(he:starEach (e::es) X.env=(false,eval e X.env)::starEach es X.env:=by rfl)(gO:(backTo pos (starEach es X.env)).any (·.1)=false:=by rfl) :
  VP X Z (.Call (.Name x p) (e::es) [] pos) (AU n g G):=.mk λtm=>PE.weak (j9 F hr hg hm hk hb .nil jw (ha tm) l_ he gO) λσ H Q ⟨ρ,O,q,I,hf,k⟩ =>
 ⟨ρ,O,_,I,hf,λts gh vs H1 s1 a1=>vj (I.same s1) a1 gh.1 gh.2 λr hr v H' s z=>k r hr v H' (s1.trans s) z⟩
end
noncomputable def AM(K:Γ)(H:Hp)(A:υ)(O:HD)(ρ:En):List (Option Nat)->List T->v9->Prop
 |[],ts,vs=>ts=[]/\vs=[]
 |none::ms,ts,vs=>∃t kZ v jB,ts=t::kZ/\vs=v::jB/\At K H A t v/\AM K H A O ρ ms kZ jB
 |some k::ms,ts,vs=>∃a t kZ jB,ts=t::kZ/\vs=.ref a::jB/\ρ[k]?=some (some (t,true))/\O[k]?=some (some a)/\AM K H A O ρ ms kZ jB
noncomputable def lAM(X:Cx)(Z:Zc)(tm:List (T×V))(ms:List (Option Nat))(f:FA):TA:=λσ H Q=>∃ρ O q,ay X.K Z tm O ρ σ H/\f ρ q/\∀ts,q ts->∀vs H',aV H H'->AM X.K H' (av Z O) O ρ ms ts vs->Q vs H'
def Sy(X:Cx)(Z:Zc)(es:qap)(ms:List (Option Nat))(f:FA):Prop:=Bx λtm=>PA X es (lAM X Z tm ms f)
instance{X:Cx}{Z:Zc}{es:qap}{ms:List (Option Nat)}{f:FA}:CoeFun (Sy X Z es ms f) λ_=>∀tm,PA X es (lAM X Z tm ms f):=⟨λh=>Bx.h h⟩
def Hq(i:Nat):FE:=λρ Q=>match ρ[i]? with
 |some (some (t,true))=>Q t
 |_=>False
section
variable{Z:Zc}{g:FA}
def Mw:Sy X Z [] [] vg:=.mk λtm=>PA.weak dy λσ H Q ⟨ρ,O,q,I,hf,k⟩=>k _ hf [] H (aV.refl H) ⟨rfl,rfl⟩
def qB{ms:List (Option Nat)}{f:FE}(h:VE X Z e f)(h':Sy X Z es ms g)(hs:starEach (e::es) X.env=(false,eval e X.env)::starEach es X.env:=by rfl):Sy X Z (e::es) (none::ms) (gu f g) :=
 .mk λtm=>PA.weak (bO (h tm) (h' tm) hs) λσ H Q ⟨ρ,O,q,I,hf,k⟩=>⟨ρ,O,_,I,hf,λt ht v H1 s1 a1=>⟨ρ,O,_,I.same s1,ht,λts gh vs H2 s2 a2=>k _ gh _ H2 (s1.trans s2) ⟨t,ts,v,vs,rfl,rfl,a1.same s2,a2⟩⟩⟩
def CI(j:Nat){ms:List (Option Nat)}{py:Pos}(h':Sy X Z es ms g)(hN:X.N[j]?=some y:=by rfl)(hv:kH X.env.scope y:=by exact jvv rfl)(hd:iq y:=by decide)(gm:uL y:=by decide)(hs:starEach (.Name y py::es) X.env=(false,eval (.Name y py) X.env)::starEach es X.env:=by rfl):Sy X Z (.Name y py::es) (some j::ms) (gu (Hq j) g) :=
 .mk λtm=>PA.weak (bO (cf hN hv hd gm) (h' tm) hs) λσ H Q ⟨ρ,O,q,I,hf,k⟩=>by
  have hf':Hq j ρ λt=>g ρ λts=>q (t::ts):=hf;unfold Hq at hf';split at hf'
  rename_i t e0
  obtain⟨a,h1,h2,h3⟩:=I.root e0;exact⟨.ref a,h2,ρ,O,_,I,hf',λts gh vs H2 s2 a2=>k _ gh _ H2 s2 ⟨a,t,ts,vs,rfl,rfl,e0,h1,a2⟩⟩;exact hf'.elim
end
noncomputable def putK:qao->List T->En->En
 |k::ks,u::us,ρ=>putK ks us (ρ.set k (some (u,true)))
 |_,_,ρ=>ρ
theorem qC:∀(ks:qao)(us:List T)(ρ:En),(putK ks us ρ).length=ρ.length
 |[],_,_=>rfl
 |_::_,[],_=>rfl
 |k::ks,u::us,ρ=>by rw[putK,qC];simp
theorem xV:∀{ks:qao}{us:List T}{ρ:En}{i:Nat}{e:Option (T×Bool)},ks.Nodup->ks.length=us.length->(putK ks us ρ)[i]?=some e->(i∉ks/\ρ[i]?=some e)\/∃(j:Nat)(u:T),ks[j]?=some i/\us[j]?=some u/\e=some (u,true)
 |[],us,ρ,i,e,_,_,h=>.inl ⟨fA,h⟩
 |k::ks,[],ρ,i,e,_,l,h=>by simp at l
 |k::ks,u::us,ρ,i,e,nd,l,h=>by
  rw[lU] at nd;rcases xV nd.2 (by simpa using l) (show (putK ks us (ρ.set k (some (u,true))))[i]?=some e from h) with⟨h1,h2⟩|⟨j,u',h1,h2,h3⟩
  rcases get_set h2 with⟨rfl,rfl,_⟩|⟨ne,h2⟩
  exact .inr ⟨0,u,rfl,rfl,rfl⟩;exact .inl ⟨λz=>by rcases c0.mp z with z|z;exact ne z;exact h1 z,h2⟩;exact .inr ⟨j+1,u',by simpa using h1,by simpa using h2,h3⟩
section
variable{A:υ}
def At.qD{as:υ}{t:T}(fr:∀b o,H b=some o->b∉as->H' b=some o)(sub:∀a∈as,a∈A)(mu:∀a∈as,∃u,H a=some u/\kA u=true)(h:At K H A t v):At K H' A t v:=by
 refine At.map (λb vs q=>?_) (λb vs q=>?_) (λb aQ q=>?_) h;obtain q|q:=q
 refine .inl ⟨?_,q.2⟩;have nb:b∉as:=λz=>q.2 (sub b z);obtain z|⟨o',z⟩:=q.1
 exact .inl (fr _ _ z nb);exact .inr ⟨o',fr _ _ z nb⟩;exact .inr q;obtain z|z:=q
 refine .inl ?_;have nb:b∉as:=λm=>by
  obtain⟨u,eu,mu⟩:=mu b m;obtain z|⟨o',z⟩:=z
  rw[z] at eu;cases eu;cases mu;rw[z] at eu;cases eu;cases mu
 obtain z|⟨o',z⟩:=z
 exact .inl (fr _ _ z nb);exact .inr ⟨o',fr _ _ z nb⟩;exact .inr z;exact⟨fr _ _ q.1 λz=>q.2 (sub b z),q.2⟩
theorem AM.args{A':υ}{O:HD}{ρ:En}(sub:∀a∈A',a∈A)(hr:∀(k:Nat) t,ρ[k]?=some (some (t,true))->∃a,O[k]?=some (some a)/\c5 K H A a t):∀{ms:List (Option Nat)}{ts:List T}{vs:v9},AM K H A O ρ ms ts vs ->
  ∃as,gv K H A' (ms.map Option.isSome) as ts vs/\Paired (λa k=>O[k]?=some (some a)) as (ms.filterMap id)
 |[],ts,vs,h=>⟨[],⟨rfl,h.1,h.2⟩,.nil⟩
 |none::ms,ts,vs,h=>by obtain⟨t,kZ,v,jB,rfl,rfl,a,h⟩:=h;obtain⟨as,h1,h2⟩:=AM.args sub hr h;exact⟨as,⟨t,kZ,v,jB,rfl,rfl,a.bz sub,h1⟩,h2⟩
 |some k::ms,ts,vs,h=>by obtain⟨a,t,kZ,jB,rfl,rfl,e0,e1,h⟩:=h;obtain⟨as,h1,h2⟩:=AM.args sub hr h;obtain⟨a',e2,r⟩:=hr k t e0;rw[e1] at e2;cases e2;exact⟨a::as,⟨a,as,t,kZ,jB,rfl,rfl,rfl,r.bz sub,h1⟩,.cons e1 h2⟩
end
noncomputable def Sz(ms:List (Option Nat))(g:FA)(G:GT):FX:=λρ Q=>g ρ λts=>G ts λus r=>Q (putK (ms.filterMap id) us ρ) r
section
variable{Z:Zc}{k:Nat}{fs:List Bool}{G:GT}{g:FA}{ms:List (Option Nat)}
def Hr{tm:List (T×V)}{ρ:En}(I:ay K Z tm O ρ σ H)(h1:O[i]?=some (some a))(h2:O[j]?=some (some a)):i=j:=by
 have key:∀(O:HD)(i j:Nat),i<j->O[i]?=some (some a)->O[j]?=some (some a)->(roots O).Nodup->False:=by
  intro O;induction O with
  |nil=>intro i j _ h;simp at h
  |cons o O ih=>
   intro i j hij e1 e2 nd;cases j with
   |zero=>omega
   |succ j=>
    have Lo:O[j]?=some (some a):=by simpa using e2
    cases i with
    |zero=>
     have:o=some a:=by simpa using e1
     subst this;simp only[roots,kr,id] at nd;exact (lU.mp nd).1 (aN.mpr (gM Lo))
    |succ i=>
     refine ih i j (by omega) (by simpa using e1) Lo ?_;cases o with
     |none=>simpa[roots] using nd
     |some b=>simp only[roots,kr,id] at nd;exact (lU.mp nd).2
 rcases Nat.lt_trichotomy i j with l|l|l
 exact (key O i j l h1 h2 I.nd).elim;exact l;exact (key O j i l h2 h1 I.nd).elim
theorem gx{α β:Type}{F:α->β->Prop}:∀{l₁:List α}{l₂:List β}{a:α},Paired F l₁ l₂->a∈l₁->∃b∈l₂,F a b
 |_,_,_,.nil,h=>nomatch h
 |_,_,a,.cons r t,h=>by
  rcases c0.mp h with z|z
  subst z;exact⟨_,dD,r⟩;obtain⟨b,h1,h2⟩:=gx t z;exact⟨b,gT _ h1,h2⟩
theorem qF{α β:Type}{F:α->β->Prop}:∀{l₁:List α}{l₂:List β}{i:Nat}{b:β},Paired F l₁ l₂->l₂[i]?=some b->∃a,l₁[i]?=some a/\F a b
 |_,_,_,_,.nil,e=>by simp at e
 |_,_,0,_,.cons r _,e=>by simp at e;subst e;exact⟨_,rfl,r⟩
 |_,_,i+1,b,.cons _ t,e=>by obtain⟨a,h1,h2⟩:=qF (i:=i) (b:=b) t (by simpa using e);exact⟨a,by simpa using h1,h2⟩
theorem jC{α β:Type}{F:α->β->Prop}:∀{l₁:List α}{l₂:List β}{i:Nat}{a:α},Paired F l₁ l₂->l₁[i]?=some a->∃b,l₂[i]?=some b/\F a b
 |_,_,_,_,.nil,e=>by simp at e
 |_,_,0,_,.cons r _,e=>by simp at e;subst e;exact⟨_,rfl,r⟩
 |_,_,i+1,b,.cons _ t,e=>by obtain⟨a,h1,h2⟩:=jC (i:=i) (a:=b) t (by simpa using e);exact⟨a,by simpa using h1,h2⟩
def ay.called{Z':Zc}{tm:List (T×V)}{ρ:En}{as:υ}{ks:qao}{us:List T}(I:ay K Z tm O ρ σ H)(hk:Paired (λa k=>O[k]?=some (some a)) as ks)(nk:ks.Nodup)(fr:∀b o,H b=some o->b∉as->H' b=some o)(hu:Paired (λa u=>c5 K H' (av Z' O) a u) as us)(hZ:Z'.H0=Z.H0)(hP:Z'.P=Z.P)(hox:∀a∈Z'.Ox,a∉roots O/\H' a≠none)(more:∀a∈av Z' O,a∈av Z O\/H a=none):ay K Z' tm O (putK ks us ρ) σ H':=by
 have AV:∀a∈as,a∈roots O:=λa h=>by obtain⟨k,_,e⟩:=gx hk h;exact aN.mpr (gM e)
 have sub:∀a∈as,a∈av Z O:=λa h=>cW _ (AV a h);have ady:∀a∈as,a∈av Z' O:=λa h=>cW _ (AV a h);have mu:∀a∈as,∃u,H a=some u/\kA u=true:=λa h=>(I.own a (AV a h)).2.2;have fw:∀{t:T}{v:V},At K H (av Z O) t v->At K H' (av Z' O) t v:=λq=>(q.more more).qD fr ady mu;have fwL:∀{t:List T}{v:v9},aA K H (av Z O) t v->aA K H' (av Z' O) t v:=λq=>aA.iff.mpr (Paired.nM (aA.iff.mp q) λ_ _ z=>fw z);refine⟨by rw[qC];exact I.lσ,by rw[qC];exact I.lO,λi e h=>?_,I.nd,λb hb=>?_,by rw[hP];exact I.par,λa ha=>(hox a ha).2,λb o e n=>?_,λp hp=>fw (I.sI p hp)⟩;rcases xV nk (by rw[<- Q3 hk,Q3 hu]) h with⟨h1,h2⟩|⟨j,u,h1,h2,rfl⟩
 obtain⟨o,s,g1,g2,g3⟩:=I.sl i e h2;refine⟨o,s,g1,g2,g3.map (λ_ _ q=>fw q) λb t eo q=>?_⟩;subst eo;have nb:b∉as:=λm=>by obtain⟨k,kO,XG⟩:=gx hk m;exact h1 (by rw[Hr I g1 XG];exact kO)
 obtain⟨u,eu,_⟩:=q.mut;exact q.map (by rw[eu];exact fr _ _ eu nb) λ_ _ z=>fwL z;obtain⟨a,ha,r⟩:=qF hu h2;obtain⟨k,kO,XG⟩:=jC hk ha;rw[h1] at kO;cases kO;have hl:i<ρ.length:=by rw[<- I.lO];exact (eE.mp XG).1
 obtain⟨o,s,g1,g2,g3⟩:=I.sl i ρ[i] (by simp);rw[XG] at g1;cases g1;refine⟨some a,s,XG,g2,a,rfl,?_,r⟩;cases q:ρ[i] with
 |none=>rw[q] at g3;cases g3
 |some tb=>
  obtain⟨t,b⟩:=tb;rw[q] at g3;cases b with
  |false=>cases g3.1
  |true=>obtain⟨a',e1,e2,_⟩:=g3;cases e1;exact e2
 obtain⟨q1,q2,v,e,m⟩:=I.own b hb;refine⟨by rw[hZ,hP];exact q1,λz=>(hox b z).1 hb,?_⟩;by_cases hba:b∈as;obtain⟨j,hj⟩:=We.mp hba;obtain⟨u,_,r⟩:=jC hu hj;exact r.mut;exact⟨v,fr _ _ e hba,m⟩;rw[hZ] at e;rw[hP] at n;refine fr _ _ (I.keep b o e n) λm=>?_;rcases (I.own b (AV b m)).1 with z|z
 exact n z;rw[z] at e;cases e
def Hs(F:cD X.prog X.w X.K X.mg X.base eQ k f fd ps (AS X.K fs G))(hr:bG k X.A)(hg:Gl X x)(hm:X.mg x=some (.ref f))(hk:W.keepIn X.K (.ref f)=true)(hb:Binds X.K fd ps [])(ha:Sy X Z (e::es) ms g)(hfs:ms.map Option.isSome=fs:=by rfl)(SA:(ms.filterMap id).Nodup:=by decide)(l_:iq x:=by decide)(he:starEach (e::es) X.env=(false,eval e X.env)::starEach es X.env:=by rfl)(gO:(backTo pos (starEach es X.env)).any (·.1)=false:=by rfl) :
  VX X Z (.Call (.Name x p) (e::es) [] pos) (Sz ms g G):=.mk λtm=>PE.weak (j9 F hr hg hm hk hb .nil jw (ha tm) l_ he gO) λσ H Q ⟨ρ,O,q,I,hf,k⟩ =>
 ⟨ρ,O,_,I,hf,λts gh vs H1 s1 a1=>by
   subst hfs;show AS X.K _ G (vs++[]) H1 Q E0;rw[DX];have J:=I.same s1;obtain⟨as,h1,h2⟩:=AM.args (A':=av Z O) (λ_ z=>z) (λk t e=>by obtain⟨a,q1,q2,q3⟩:=J.root e;exact⟨a,q1,q3⟩) a1;have AV:∀a∈as,a∈roots O:=λa h=>by obtain⟨k,_,e⟩:=gx h2 h;exact aN.mpr (gM e)
   have ndA:as.Nodup:=by
    clear h1;have:∀{as:υ}{ks:qao},ks.Nodup->Paired (λa k=>O[k]?=some (some a)) as ks->as.Nodup:=by
     intro as ks nd h;induction h with
     |nil=>exact LA
     |cons r t ih=>rw[lU] at nd ⊢;refine⟨λm=>?_,ih nd.2⟩;obtain⟨k',m1,m2⟩:=gx t m;exact nd.1 (by rw[Hr J r m2];exact m1)
    exact this SA h2
   have mOx:∀b,b∈as++(av Z O).filter (λb=>decide (b∉as))↔b∈av Z O:=λb=>by rw[cR,Vr];constructor;rintro (z|z);exact cW _ (AV b z);exact z.1;intro z;by_cases hb:b∈as;exact .inl hb;exact .inr ⟨z,μ hb⟩
   obtain⟨ud,Ht,Hu⟩:=AM.args (A':=as++(av Z O).filter (λb=>decide (b∉as))) (λb z=>(mOx b).mp z) (λk t e=>by obtain⟨a,q1,q2,q3⟩:=J.root e;exact⟨a,q1,q3⟩) a1;have ee:ud=as:=by
    have:∀{as ud:υ}{ks:qao},Paired (λa k=>O[k]?=some (some a)) as ks->Paired (λa k=>O[k]?=some (some a)) ud ks->ud=as:=by
     intro as ud ks h h';induction h generalizing ud with
     |nil=>cases h';rfl
     |cons r t ih=>
       cases h' with
       |cons r' t'=>rw[r] at r';cases r';rw[ih t']
    exact this h2 Hu
   subst ee;refine⟨ts,ud,(av Z O).filter (λb=>decide (b∉ud)),_,ndA,λa h z=>?_,λa h=>J.z7 a (Vr.mp h).1,Ht,gh,λus r hr v H' fr z=>?_⟩;exact (Λ (Vr.mp z).2) h;have XH:∀a∈Z.Ox,a∉roots O/\H' a≠none:=λa h=>by
    have na:a∉roots O:=λm=>(J.own a m).2.1 h;refine⟨na,?_⟩;cases e:H1 a with
    |none=>exact absurd e (J.ox a h)
    |some u=>rw[fr _ _ e λm=>na (AV a m)];simp
   cases r with
   |vw t=>obtain⟨z1,z2⟩:=z;exact k _ _ hr O v H' ⟨J.called h2 SA fr (Paired.nM z2 λ_ _ q=>q.bz λb hb=>(mOx b).mpr hb) rfl rfl XH λa h=>.inl h,z1.bz λb hb=>(mOx b).mpr hb⟩
   |fr t=>
     obtain⟨b,rfl,hb,nb,hR,z2⟩:=z;obtain⟨n1,n2,n3⟩:=J.fresh hb;have sb:∀c∈av (Z.ex b) O,c∈b::(ud++(av Z O).filter (λb=>decide (b∉ud))):=λc hc=>by
      rcases dQ c hc with z|z
      exact gT _ ((mOx c).mpr z);rw[z];exact dD
     refine k _ _ hr O _ H' ⟨b,rfl,J.called h2 SA fr (Paired.nM z2 λ_ _ q=>q.bz sb) rfl rfl (λa h=>?_) (λa h=>(dQ a h).imp id λe=>by rw[e];exact hb),hR.bz sb,n3,n2⟩;rcases c0.mp h with z|z
     subst z;obtain⟨u,eu,_⟩:=hR.mut;exact⟨λm=>n1 (cW _ m),by rw[eu];simp⟩;exact XH a z⟩
end
section
variable(K:Γ)
theorem xW:PySem.W.kitOne K (.type "int") (.type "int")=some true:=by kernel_rfl
theorem vk:PySem.W.kitOne K (.type "int") (.type "bool")=some false:=by kernel_rfl
theorem xX:PySem.W.kitOne K (.type "int") (.type "str")=some false:=by kernel_rfl
theorem sV:PySem.W.kitOne K (.type "int") (.type "tuple")=some false:=by kernel_rfl
theorem vm:PySem.W.kitOne K (.type "bool") (.type "int")=some true:=by kernel_rfl
theorem sW:PySem.W.kitOne K (.type "bool") (.type "bool")=some true:=by kernel_rfl
theorem vn:PySem.W.kitOne K (.type "bool") (.type "str")=some false:=by kernel_rfl
theorem qG:PySem.W.kitOne K (.type "bool") (.type "tuple")=some false:=by kernel_rfl
theorem xY:PySem.W.kitOne K (.type "str") (.type "int")=some false:=by kernel_rfl
theorem vo:PySem.W.kitOne K (.type "str") (.type "bool")=some false:=by kernel_rfl
theorem xZ:PySem.W.kitOne K (.type "str") (.type "str")=some true:=by kernel_rfl
theorem sX:PySem.W.kitOne K (.type "str") (.type "tuple")=some false:=by kernel_rfl
theorem vq:PySem.W.kitOne K (.type "list") (.type "int")=some false:=by kernel_rfl
theorem sY:PySem.W.kitOne K (.type "list") (.type "bool")=some false:=by kernel_rfl
theorem vt:PySem.W.kitOne K (.type "list") (.type "str")=some false:=by kernel_rfl
theorem qH:PySem.W.kitOne K (.type "list") (.type "tuple")=some false:=by kernel_rfl
theorem sZ:PySem.W.kitOne K (.type "tuple") (.type "int")=some false:=by kernel_rfl
theorem qI:PySem.W.kitOne K (.type "tuple") (.type "bool")=some false:=by kernel_rfl
theorem s_:PySem.W.kitOne K (.type "tuple") (.type "str")=some false:=by kernel_rfl
theorem pI:PySem.W.kitOne K (.type "tuple") (.type "tuple")=some true:=by kernel_rfl
theorem vy:PySem.W.kitOne K (.type "dict") (.type "int")=some false:=by kernel_rfl
theorem tq:PySem.W.kitOne K (.type "dict") (.type "bool")=some false:=by kernel_rfl
theorem vz:PySem.W.kitOne K (.type "dict") (.type "str")=some false:=by kernel_rfl
theorem qJ:PySem.W.kitOne K (.type "dict") (.type "tuple")=some false:=by kernel_rfl
theorem oj:PySem.W.kitOne K (.type "NoneType") (.type "int")=some false:=by kernel_rfl
theorem mw:PySem.W.kitOne K (.type "NoneType") (.type "bool")=some false:=by kernel_rfl
theorem om:PySem.W.kitOne K (.type "NoneType") (.type "str")=some false:=by kernel_rfl
theorem k7:PySem.W.kitOne K (.type "NoneType") (.type "tuple")=some false:=by kernel_rfl
end
def Ty2(K:Γ)(H:Hp):V->String->Prop
 |.aO,t=>t="NoneType"
 |.bl _,t=>t="bool"
 |.int _,t=>t="int"
 |.str _,t=>t="str"
 |.ref a,t=>(t="list"/\∃xs,gN K H a xs)\/(t="tuple"/\∃xs,fB K H a xs)\/(t="dict"/\∃aQ,H a=some (.dK aQ))
 |_,_=>False
def XI(K:Γ):v9->Hp->VK->Prop:=λxs H Q=>∃x n t b,xs=[x,.ty n]/\Ty2 K H x t/\W.kitOne K (.type t) (.type n)=some b/\Q (.bl b) H
def Er:d_ X (.builtin "isinstance") (XI X.K):=by
 intro γ s σ H xs us Q I r h;obtain⟨x,n,t,b,rfl,ty,e,q⟩:=h;obtain⟨u,w',rfl,rx,ry⟩:=vals2 r;obtain rfl:w'=Value.type n:=ry;have fin:∀tk,EP X γ σ Q (.bool b) {s with toks:=tk}:=λtk=>⟨.bl b,H,I.tok _,rfl,q⟩;cases x with
 |aO=>cases (show t=_ from ty);cases (show u=Value.none from rx);exact Q0 W.kitx_none I.sM True.intro e (λz=>nomatch z) fin
 |bl y=>cases (show t=_ from ty);cases (show u=Value.bool y from rx);exact Q0 W.kitx_bool I.sM True.intro e (λz=>nomatch z) fin
 |int i=>cases (show t=_ from ty);obtain⟨t,q⟩:=(show ∃t,u=Value.int i t from rx);cases q;exact Q0 W.kitx_int I.sM True.intro e (λz=>nomatch z) fin
 |str y=>cases (show t=_ from ty);obtain⟨t,q⟩:=(show ∃t,u=Value.str y t from rx);cases q;exact Q0 W.kitx_str I.sM True.intro e (λz=>nomatch z) fin
 |ref a=>
  cases (show u=Value.ref a from rx);obtain⟨rfl,xs,hq⟩|⟨rfl,xs,hq⟩|⟨rfl,aQ,hq⟩:=ty
  obtain⟨aW,_,p,_⟩:=I.list hq;obtain⟨o,n',h1,h2,_⟩:=p;exact Q0 W.kitx_list I.sM ⟨o,h1,h2⟩ e (λz=>nomatch z) fin;obtain⟨aW,_,p,_⟩:=I.tuple hq;obtain⟨o,h1,h2,_⟩:=p;exact Q0 W.kitx_tuple I.sM ⟨o,h1,h2⟩ e (λz=>nomatch z) fin;obtain⟨_,_,vs,_,p⟩:=(show cS X.prog X.w H s.heap a (.dK aQ) from I.cm a _ hq);obtain⟨o,es,ep,h1,h2,_⟩:=p;exact Q0 W.kitx_dict I.sM ⟨o,h1,h2.1⟩ e (λz=>nomatch z) fin
 |_=>exact (show False from ty).elim
def isInt:T->Bool
 |.int _=>true
 |.bl _=>true
 |_=>false
def isBool:T->Bool
 |.bl _=>true
 |_=>false
def isStr:T->Bool
 |.str _=>true
 |_=>false
def Mx:T->Bool
 |.tup _=>true
 |_=>false
noncomputable def known:T->Bool
 |.dc _ _ _=>false
 |.ins _ _ _=>false
 |.pin _ _=>false
 |.ob _=>false
 |.ty _=>false
 |_=>true
def qK(K:Γ)(n:String)(p:T->Bool):Prop:=∀H A t v,known t=true->jo K H A t v->∃ty,Ty2 K H v ty/\W.kitOne K (.type ty) (.type n)=some (p t)
def Hv:qK K "int" isInt:=by
 intro H A t v hk h;cases t with
 |aO=>rw[h.aO];exact⟨_,rfl,oj K⟩
 |bl b=>rw[h.bl];exact⟨_,rfl,vm K⟩
 |int b=>rw[h.int];exact⟨_,rfl,xW K⟩
 |str b=>rw[h.str];exact⟨_,rfl,xY K⟩
 |tup l=>obtain⟨a,vs,rfl,q,_⟩:=h.tup;exact⟨_,.inr (.inl ⟨rfl,_,q⟩),sZ K⟩
 |lst l=>obtain⟨a,vs,rfl,q,_⟩:=h.lst;exact⟨_,.inl ⟨rfl,_,q⟩,vq K⟩
 |dk ks l=>obtain⟨a,vs,rfl,_,q,_⟩:=h.dk;exact⟨_,.inr (.inr ⟨rfl,_,q⟩),vy K⟩
 |_=>simp only[known] at hk;cases hk
def Es:qK K "bool" isBool:=by
 intro H A t v hk h;cases t with
 |aO=>rw[h.aO];exact⟨_,rfl,mw K⟩
 |bl b=>rw[h.bl];exact⟨_,rfl,sW K⟩
 |int b=>rw[h.int];exact⟨_,rfl,vk K⟩
 |str b=>rw[h.str];exact⟨_,rfl,vo K⟩
 |tup l=>obtain⟨a,vs,rfl,q,_⟩:=h.tup;exact⟨_,.inr (.inl ⟨rfl,_,q⟩),qI K⟩
 |lst l=>obtain⟨a,vs,rfl,q,_⟩:=h.lst;exact⟨_,.inl ⟨rfl,_,q⟩,sY K⟩
 |dk ks l=>obtain⟨a,vs,rfl,_,q,_⟩:=h.dk;exact⟨_,.inr (.inr ⟨rfl,_,q⟩),tq K⟩
 |_=>simp only[known] at hk;cases hk
def x4:qK K "str" isStr:=by
 intro H A t v hk h;cases t with
 |aO=>rw[h.aO];exact⟨_,rfl,om K⟩
 |bl b=>rw[h.bl];exact⟨_,rfl,vn K⟩
 |int b=>rw[h.int];exact⟨_,rfl,xX K⟩
 |str b=>rw[h.str];exact⟨_,rfl,xZ K⟩
 |tup l=>obtain⟨a,vs,rfl,q,_⟩:=h.tup;exact⟨_,.inr (.inl ⟨rfl,_,q⟩),s_ K⟩
 |lst l=>obtain⟨a,vs,rfl,q,_⟩:=h.lst;exact⟨_,.inl ⟨rfl,_,q⟩,vt K⟩
 |dk ks l=>obtain⟨a,vs,rfl,_,q,_⟩:=h.dk;exact⟨_,.inr (.inr ⟨rfl,_,q⟩),vz K⟩
 |_=>simp only[known] at hk;cases hk
def AW:qK K "tuple" Mx:=by
 intro H A t v hk h;cases t with
 |aO=>rw[h.aO];exact⟨_,rfl,k7 K⟩
 |bl b=>rw[h.bl];exact⟨_,rfl,qG K⟩
 |int b=>rw[h.int];exact⟨_,rfl,sV K⟩
 |str b=>rw[h.str];exact⟨_,rfl,sX K⟩
 |tup l=>obtain⟨a,vs,rfl,q,_⟩:=h.tup;exact⟨_,.inr (.inl ⟨rfl,_,q⟩),pI K⟩
 |lst l=>obtain⟨a,vs,rfl,q,_⟩:=h.lst;exact⟨_,.inl ⟨rfl,_,q⟩,qH K⟩
 |dk ks l=>obtain⟨a,vs,rfl,_,q,_⟩:=h.dk;exact⟨_,.inr (.inr ⟨rfl,_,q⟩),qJ K⟩
 |_=>simp only[known] at hk;cases hk
noncomputable def XJ(f:FE)(p:T->Bool):FP:=λρ Q=>f ρ λt=>known t=true/\Q (.vw (.bl (p t)))
section
variable{Z:Zc}{a b:Expr}{fa fb fcc:FE}
def vA:bootBuiltins "isinstance"=some (.builtin "isinstance"):=by decide +kernel
def mx{n:String}{q:T->Bool}(hq:qK X.K n q)(hg:Gl X "isinstance")(hm:X.mg "isinstance"=none)(hgy:Gl X y)(hmy:X.mg y=none)(hby:bootBuiltins y=some (.type n))(ha:VR X Z e fa)(hny:y≠"__name__":=by decide)(hdy:iq y:=by decide)(hs:starEach [e,.Name y p2] X.env=(false,eval e X.env)::starEach [.Name y p2] X.env:=by rfl)(Vv:starEach [.Name y p2] X.env=(false,eval (.Name y p2) X.env)::starEach [] X.env:=by rfl)(gO:(backTo pos (starEach [.Name y p2] X.env)).any (·.1)=false:=by rfl) :
  VP X Z (.Call (.Name "isinstance" p) [e,.Name y p2] [] pos) (XJ fa q):=.mk λtm=>
 PE.weak (ql Er hg hm vA (bO (ha tm) (bO (LJ (v:=.ty n) hgy hmy hby rfl hny hdy) dy Vv) hs) (by decide) (by decide) hs gO) λσ H Q ⟨ρ,O,q',I,hf,k⟩=>⟨ρ,O,_,I,hf,λt ht v H1 s1 a1=>by obtain⟨ty,h1,h2⟩:=hq H1 _ t v ht.1 a1;exact⟨v,n,ty,_,rfl,h1,h2,k _ ht.2 _ H1 s1 ⟨I.same s1,dW⟩⟩⟩
noncomputable def gy:T->Bool
 |.aO=>true
 |.bl _=>true
 |.int _=>true
 |.str _=>true
 |_=>false
noncomputable def my:List T->Bool
 |[]=>true
 |t::ts=>gy t && my ts
noncomputable def sJ(x:T):List T->Bool
 |[]=>false
 |t::ts=>eqT t x || sJ x ts
theorem iC{K:Γ}{H:Hp}{A:υ}:∀{ts:List T}{vs:v9}{x:T}{v:V},my ts=true->gy x=true->aA K H A ts vs->At K H A x v->vs.all jt=true/\jt v=true/\inV v vs=sJ x ts
 |[],vs,x,v,_,fx,h,hx=>by simp only[aA] at h;subst h;refine⟨rfl,?_,rfl⟩;cases x<;>simp only[At] at hx<;>first|(subst hx;rfl)|(simp only[gy] at fx;cases fx)
 |t::ts,vs,x,v,f,fx,h,hx=>by
  simp only[aA] at h;obtain⟨u,r,rfl,h1,h2⟩:=h;simp only[my,lY] at f;obtain⟨i1,i2,i3⟩:=iC f.2 fx h2 hx;have ft:jt u=true:=by cases t<;>simp only[At] at h1<;>first|(subst h1;rfl)|(have:=f.1;simp only[gy] at this;cases this)
  have e:Ln u v=eqT t x:=by
   cases t<;>simp only[At] at h1<;>first
    | (have:=f.1;simp only[gy] at this;cases this;done)
    | (subst h1
       cases x<;>simp only[At] at hx<;>first
        | (simp only[gy] at fx;cases fx;done)
        | (subst hx;simp[Ln,eqT];done))
  refine⟨by simp[ft,i1],i2,?_⟩;simp only[sJ,inV,LC];rw[e]
  congr 1
noncomputable def My(K:Γ)(neg:Bool):R2:=λx y H Q=>rIn K neg x y H Q\/∃i j,x=.str i/\y=.str j/\Q (.bl (if neg then !(!(Builtin.Str.occurrences j i 0 j.length 1).isEmpty) else !(Builtin.Str.occurrences j i 0 j.length 1).isEmpty)) H
def Hw:fS X (compareOp .In) (My X.K false):=by
 intro γ s σ H x y v u Q I rx ry h;obtain h|⟨i,j,h1,h2,h⟩:=h
 exact Ef γ s σ H x y v u Q I rx ry h;exact D9 γ s σ H x y v u Q I rx ry ⟨i,j,h1,h2,by simpa using h⟩
def Et:fS X (compareOp .NotIn) (My X.K true):=by
 intro γ s σ H x y v u Q I rx ry h;obtain h|⟨i,j,h1,h2,h⟩:=h
 exact uX γ s σ H x y v u Q I rx ry h;exact uY γ s σ H x y v u Q I rx ry ⟨i,j,h1,h2,by simpa using h⟩
noncomputable def CJ(i j:Str):Bool:=!(Builtin.Str.occurrences j i 0 j.length 1).isEmpty
def pIn(x y:T)(q:Rt->Prop):Prop:=match y with
 |.lst ts=>gy x=true/\my ts=true/\q (.vw (.bl (sJ x ts)))
 |.tup ts=>gy x=true/\my ts=true/\q (.vw (.bl (sJ x ts)))
 |.str j=>∃i,x=.str i/\q (.vw (.bl (CJ i j)))
 |_=>False
def SD(x y:T)(q:Rt->Prop):Prop:=match y with
 |.lst ts=>gy x=true/\my ts=true/\q (.vw (.bl (!sJ x ts)))
 |.tup ts=>gy x=true/\my ts=true/\q (.vw (.bl (!sJ x ts)))
 |.str j=>∃i,x=.str i/\q (.vw (.bl (!CJ i j)))
 |_=>False
def Hx:nY K (My K false) pIn:=by
 intro Z tm O ρ σ H x y v w q Q I h1 h2 h k;have x1:gy x=true->At K H (av Z O) x v:=λf=>by
  obtain h|⟨a,rfl,h⟩:=h1
  exact h;cases x<;>first|exact h.elim|(simp only[gy] at f;cases f)
 unfold pIn at h;split at h;obtain⟨f1,f2,h⟩:=h;obtain⟨a,vs,rfl,q1,q2⟩:=h2.lst;obtain⟨i1,i2,i3⟩:=iC f2 f1 q2 (x1 f1);exact .inl ⟨a,vs,rfl,.inl q1,i2,i1,k _ h _ H (aV.refl H) ⟨I,by rw[ζ iM,i3];exact dW⟩⟩;obtain⟨f1,f2,h⟩:=h;obtain⟨a,vs,rfl,q1,q2⟩:=h2.tup;obtain⟨i1,i2,i3⟩:=iC f2 f1 q2 (x1 f1);exact .inl ⟨a,vs,rfl,.inr q1,i2,i1,k _ h _ H (aV.refl H) ⟨I,by rw[ζ iM,i3];exact dW⟩⟩;obtain⟨i,rfl,h⟩:=h;exact .inr ⟨i,_,h1.str,h2.str,k _ h _ H (aV.refl H) ⟨I,by rw[ζ iM];exact dW⟩⟩;exact h.elim
def MA:nY K (My K true) SD:=by
 intro Z tm O ρ σ H x y v w q Q I h1 h2 h k;have x1:gy x=true->At K H (av Z O) x v:=λf=>by
  obtain h|⟨a,rfl,h⟩:=h1
  exact h;cases x<;>first|exact h.elim|(simp only[gy] at f;cases f)
 unfold SD at h;split at h;obtain⟨f1,f2,h⟩:=h;obtain⟨a,vs,rfl,q1,q2⟩:=h2.lst;obtain⟨i1,i2,i3⟩:=iC f2 f1 q2 (x1 f1);exact .inl ⟨a,vs,rfl,.inl q1,i2,i1,k _ h _ H (aV.refl H) ⟨I,by rw[ε rfl,i3];exact dW⟩⟩;obtain⟨f1,f2,h⟩:=h;obtain⟨a,vs,rfl,q1,q2⟩:=h2.tup;obtain⟨i1,i2,i3⟩:=iC f2 f1 q2 (x1 f1);exact .inl ⟨a,vs,rfl,.inr q1,i2,i1,k _ h _ H (aV.refl H) ⟨I,by rw[ε rfl,i3];exact dW⟩⟩;obtain⟨i,rfl,h⟩:=h;exact .inr ⟨i,_,h1.str,h2.str,k _ h _ H (aV.refl H) ⟨I,by rw[ε rfl];exact dW⟩⟩;exact h.elim
def XM(ha:VR X Z a fa)(hb:VR X Z b fb)(hm:behindInMarks .In b=false:=by rfl):VP X Z (.Compare a [.In] [b] pos) (f2 fa fb pIn):=AL Hw Hx ha hb hm
def qM(ha:VR X Z a fa)(hb:VR X Z b fb)(hm:behindInMarks .In b=false:=by rfl):VC X Z (.Compare a [.In] [b] pos) (nZ (f2 fa fb pIn)):=iT Hw Hx ha hb hm
def SE(ha:VR X Z a fa)(hb:VR X Z b fb)(hm:behindInMarks .NotIn b=false:=by rfl):VC X Z (.Compare a [.NotIn] [b] pos) (nZ (f2 fa fb SD)):=iT Et MA ha hb hm
def qN:T->Bool
 |.aO=>true
 |_=>false
def pIs(x y:T)(q:Rt->Prop):Prop:=match y with
 |.aO=>q (.vw (.bl (qN x)))
 |_=>False
def AX(x y:T)(q:Rt->Prop):Prop:=match y with
 |.aO=>q (.vw (.bl (!qN x)))
 |_=>False
def CM{A:υ}{t:T}(h:jo K H A t v):decide (v=.aO)=qN t:=by
 cases t with
 |aO=>rw[h.aO];rfl
 |bl b=>rw[h.bl];rfl
 |int b=>rw[h.int];rfl
 |str b=>rw[h.str];rfl
 |ob b=>rw[h.ob];rfl
 |ty b=>have:v=.ty b:=h.elim (λq=>by simpa only[At] using q) λ⟨_,_,q⟩=>q.elim;rw[this];rfl
 |tup l=>obtain⟨a,vs,rfl,_⟩:=h.tup;rfl
 |lst l=>obtain⟨a,vs,rfl,_⟩:=h.lst;rfl
 |dk ks l=>obtain⟨a,vs,rfl,_⟩:=h.dk;rfl
 |dc nh ks l=>obtain⟨a,xs,vs,rfl,_⟩:=h.dc;rfl
 |ins C ns l=>obtain⟨a,dx,vs,rfl,_⟩:=h.ins;rfl
 |pin a t=>have e:v=.ref a:=h.elim (λq=>by simp only[At] at q;exact q.1) λ⟨_,_,q⟩=>q.elim;rw[e];rfl
def Hy:nY K (λx y H Q=>y=.aO/\Q (.bl (decide (x=.aO))) H) pIs:=by intro Z tm O ρ σ H x y v w q Q I h1 h2 h k;unfold pIs at h;split at h;exact⟨h2.aO,k _ h _ H (aV.refl H) ⟨I,by rw[CM h1];exact dW⟩⟩;exact h.elim
def Eu:nY K (λx y H Q=>y=.aO/\Q (.bl (!decide (x=.aO))) H) AX:=by intro Z tm O ρ σ H x y v w q Q I h1 h2 h k;unfold AX at h;split at h;exact⟨h2.aO,k _ h _ H (aV.refl H) ⟨I,by rw[CM h1];exact dW⟩⟩;exact h.elim
def XN(ha:VR X Z a fa)(hb:VR X Z b fb):VP X Z (.Compare a [.Is] [b] pos) (f2 fa fb pIs):=AL GO Hy ha hb (iO _)
def x5(ha:VR X Z a fa)(hb:VR X Z b fb):VC X Z (.Compare a [.Is] [b] pos) (nZ (f2 fa fb pIs)):=iT GO Hy ha hb (iO _)
def mz(ha:VR X Z a fa)(hb:VR X Z b fb):VC X Z (.Compare a [.IsNot] [b] pos) (nZ (f2 fa fb AX)):=iT LS Eu ha hb (iO _)
def Hz{g g':Int->Int->Bool}{tm:List (T×V)}{Q:VK}(h:lP X Z tm (f3 fa fb fcc (Xu g) (Xu g')) σ H Q):GP (uS λi j=>.bl (g i j)) (uS λi j=>.bl (g' i j)) (lR X Z tm fa) (lR X Z tm fb) (lR X Z tm fcc) σ H Q:=by
 obtain⟨ρ,O,q,I,hf,k⟩:=h;refine⟨ρ,O,_,I,hf,λx hx v H1 s1 a1=>⟨ρ,O,_,I.same s1,hx,λy hy w H2 s2 a2=>?_⟩⟩;have J:=(I.same s1).same s2;unfold Xu at hy;split at hy
 rename_i i j
 refine⟨i,j,(a1.same s2).int,a2.int,_,rfl,?_⟩;cases e:g i j with
 |true=>
  rw[e] at hy;refine RZ ⟨ρ,O,_,J,hy,λz hz w3 H3 s3 a3=>?_⟩;split at hz
  rename_i e1
  cases e1;exact⟨_,_,(a2.same s3).int,a3.int,k _ hz _ H3 ((s1.trans s2).trans s3) ⟨J.same s3,dW⟩⟩;exact hz.elim
 |false=>rw[e] at hy;exact RY (k _ hy _ H2 (s1.trans s2) ⟨J,dW⟩)
 exact hy.elim
def HA{op RE:CmpOp}{g g':Int->Int->Bool}(ho:fS X (compareOp op) (uS λi j=>.bl (g i j)))(kJ:fS X (compareOp RE) (uS λi j=>.bl (g' i j)))(ha:VR X Z a fa)(hb:VR X Z b fb)(hc:VR X Z c fcc)(hm:lastMarks [op,RE] [b,c]=false:=by with_unfolding_all rfl):VC X Z (.Compare a [op,RE] [b,c] pos) (nZ (f3 fa fb fcc (Xu g) (Xu g'))):=.mk λtm=>PT.weak (GQ ho kJ (ha tm) (hb tm) (hc tm) hm) λσ H Q ⟨ρ,O,q,I,hf,k⟩ =>
 Hz ⟨ρ,O,_,I,hf,λt ht u H' s a=>by obtain⟨c,rfl,hc⟩:=AN ht;have e:=a.2;simp only[At] at e;exact⟨c,e,k c hc H' s⟩⟩
noncomputable def dX(ts:List T):List T:=ts.mapIdx λi t=>.tup [.int (i:Int),t]
noncomputable def XO(f:FE):FI:=λρ Q=>f ρ λt=>match t with
 |.lst ts=>Q (dX ts)
 |_=>False
theorem MB{a:Addr}{ts:List T}:Wk K (Ite K a) [(.lst ts,.ref a)] (dX ts):=λH A hA h i=>by
 have h:=h _ dD;simp only[At] at h;obtain⟨b,vs,e,l,q⟩:=h;cases e;have hl:=q.length;have hle:(dX ts).length=ts.length:=by unfold dX;rw[Z1]
 rw[hle];refine⟨λhi=>⟨vs,vs[i]'(by omega),l.sq,by simp⟩,λhi=>⟨vs,l.sq,by omega⟩,λt ht x H' y=>?_⟩;obtain⟨p,u,hp,rfl,hu,rfl⟩:=y;unfold dX at ht;rw[Wr] at ht;cases e:ts[i]? with
 |none=>rw[e] at ht;cases ht
 |some t'=>rw[e] at ht;cases ht;obtain⟨v,e1,e2⟩:=q.get e;have:=hu vs l.sq;rw[e1] at this;cases this;exact⟨aH hp,cP (fB.of aG) (aA.cons bC (aA.cons (e2.same (aH hp)) aA.nil))⟩
def vB{elts:qap}{x1}{tp:Pos}(hg:Gl X "enumerate")(hm:X.mg "enumerate"=none)(ha:VE X Z a fa)(hs:starEach [a] X.env=[(false,eval a X.env)]:=by rfl) :
  VI X Z (.Tuple elts x1 tp) (.Call (.Name "enumerate" p) [a] [] pos) (XO fa):=.mk λtm=>PI.weak (Mb hg hm (bO (ha tm) dy hs) hs) λσ H R ⟨ρ,O,q,I,hf,k⟩=>⟨ρ,O,_,I,hf,λt ht v H' s a=>by
 split at ht;have a0:=a;simp only[At] at a;obtain⟨p,vs,rfl,l,_⟩:=a;exact⟨p,rfl,⟨vs,l.sq⟩,k _ ht _ H' _ s (λp hp=>by rw[hX.mp hp];exact a0) MB⟩;exact ht.elim⟩
noncomputable def dY:List T->Option (List Bool)
 |[]=>some []
 |.bl b::ts=>(dY ts).map (b::·)
 |_=>none
noncomputable def intsOf:List T->Option (qan)
 |[]=>some []
 |.int b::ts=>(intsOf ts).map (b::·)
 |_=>none
theorem AY{K:Γ}{H:Hp}{A:υ}:∀{ts:List T}{bs:List Bool}{vs:v9},dY ts=some bs->aA K H A ts vs->vs=bs.map V.bl
 |[],bs,vs,e,h=>by simp only[dY] at e;cases e;simp only[aA] at h;rw[h];rfl
 |.bl b::ts,bs,vs,e,h=>by
  simp only[dY] at e;cases q:dY ts with
  |none=>rw[q] at e;cases e
  |some cs=>rw[q] at e;cases e;simp only[aA,At] at h;obtain⟨v,r,rfl,rfl,h⟩:=h;rw[AY q h];rfl
 |.aO::_,_,_,e,_=>by simp[dY] at e
 |.int _::_,_,_,e,_=>by simp[dY] at e
 |.str _::_,_,_,e,_=>by simp[dY] at e
 |.tup _::_,_,_,e,_=>by simp[dY] at e
 |.lst _::_,_,_,e,_=>by simp[dY] at e
 |.dk _ _::_,_,_,e,_=>by simp[dY] at e
 |.dc _ _ _::_,_,_,e,_=>by simp[dY] at e
 |.ins _ _ _::_,_,_,e,_=>by simp[dY] at e
 |.pin _ _::_,_,_,e,_=>by simp[dY] at e
 |.ob _::_,_,_,e,_=>by simp[dY] at e
 |.ty _::_,_,_,e,_=>by simp[dY] at e
theorem CN{K:Γ}{H:Hp}{A:υ}:∀{ts:List T}{bs:qan}{vs:v9},intsOf ts=some bs->aA K H A ts vs->vs=bs.map V.int
 |[],bs,vs,e,h=>by simp only[intsOf] at e;cases e;simp only[aA] at h;rw[h];rfl
 |.int b::ts,bs,vs,e,h=>by
  simp only[intsOf] at e;cases q:intsOf ts with
  |none=>rw[q] at e;cases e
  |some cs=>rw[q] at e;cases e;simp only[aA,At] at h;obtain⟨v,r,rfl,rfl,h⟩:=h;rw[CN q h];rfl
 |.aO::_,_,_,e,_=>by simp[intsOf] at e
 |.bl _::_,_,_,e,_=>by simp[intsOf] at e
 |.str _::_,_,_,e,_=>by simp[intsOf] at e
 |.tup _::_,_,_,e,_=>by simp[intsOf] at e
 |.lst _::_,_,_,e,_=>by simp[intsOf] at e
 |.dk _ _::_,_,_,e,_=>by simp[intsOf] at e
 |.dc _ _ _::_,_,_,e,_=>by simp[intsOf] at e
 |.ins _ _ _::_,_,_,e,_=>by simp[intsOf] at e
 |.pin _ _::_,_,_,e,_=>by simp[intsOf] at e
 |.ob _::_,_,_,e,_=>by simp[intsOf] at e
 |.ty _::_,_,_,e,_=>by simp[intsOf] at e
def XQ(ts:List T)(q:Rt->Prop):Prop:=match ts with
 |[.lst l]=>∃bs,dY l=some bs/\q (.vw (.bl (bs.all id)))
 |_=>False
def Ew:kN K (λxs H Q=>∃(p:Addr)(bs:List Bool),xs=[.ref p]/\gN K H p (bs.map V.bl)/\Q (.bl (bs.all id)) H) XQ:=by intro Z tm O ρ σ H ts vs q Q I h hp k;unfold XQ at hp;split at hp;obtain⟨bs,e,hp⟩:=hp;obtain⟨v,rfl,a⟩:=dz h;obtain⟨p,ws,rfl,q1,q2⟩:=a.lst;rw[AY e q2] at q1;exact⟨p,bs,rfl,q1,k _ hp _ H (aV.refl H) ⟨I,dW⟩⟩;exact hp.elim
def XR(ts:List T)(q:Rt->Prop):Prop:=match ts with
 |[.lst l]=>∃ns,intsOf l=some ns/\q (.vw (.int ns.sum))
 |_=>False
def Ex:kN K (λxs H Q=>∃(p:Addr)(ns:qan),xs=[.ref p]/\gN K H p (ns.map V.int)/\Q (.int ns.sum) H) XR:=by intro Z tm O ρ σ H ts vs q Q I h hp k;unfold XR at hp;split at hp;obtain⟨bs,e,hp⟩:=hp;obtain⟨v,rfl,a⟩:=dz h;obtain⟨p,ws,rfl,q1,q2⟩:=a.lst;rw[CN e q2] at q1;exact⟨p,bs,rfl,q1,k _ hp _ H (aV.refl H) ⟨I,bC⟩⟩;exact hp.elim
def adz(f:FP)(fb:FE):FP:=λρ Q=>f ρ λr=>match r with
 |.fr (.lst ts)=>fb ρ λy=>match y with
  |.int k=>-(2 ^ 63)<=k/\k<2 ^ 63/\ts.length * k.toNat<=sizeLine/\Q (.fr (.lst (List.replicate k.toNat ts).flatten))
  |_=>False
 |_=>False
theorem aA.rep{K:Γ}{H:Hp}{A:υ}{ts:List T}{vs:v9}(h:aA K H A ts vs):∀k:Nat,aA K H A (List.replicate k ts).flatten (List.replicate k vs).flatten
 |0=>aA.nil
 |k+1=>by rw[zX,zX,QV,QV];exact h.append (aA.rep h k)
def qO{f:FP}(ha:VP X Z a f)(hb:VR X Z b fb):VP X Z (.BinOp a .Mult b pos) (adz f fb):=.mk λtm=>PE.weak (Pk RU (ha tm) (hb tm)) λσ H Q ⟨ρ,O,q,I,hf,k⟩=>⟨ρ,O,_,I,hf,λr hr v H1 s1 z=>by split at hr;obtain⟨l,rfl,J,⟨xs,e,q1⟩,_⟩:=z;refine⟨ρ,O,_,I.same s1,hr,λy hy w H2 s2 a2=>?_⟩;split at hy;obtain⟨h1,h2,h3,hy⟩:=hy;have q2:aA X.K H2 (av Z O) _ xs:=(q1.same s2).bz iB;exact⟨l,_,xs,rfl,a2.int,s2 _ _ e,h1,h2,by rw[q2.length];exact h3,λp hp=>k _ hy _ _ ((s1.trans s2).trans (aH hp)) (((I.same s1).same s2).xP hp (q2.rep _))⟩;exact hy.elim;exact hr.elim⟩
end
structure Df(K:Γ)(mg:qae)(x:Str)(st:Stmt)(ps:ν)(f:Addr)(fd:FuncData):Prop where
 F:Cu K x x st f fd
 m:mg x=some (.ref f)
 b:Binds K fd ps []
def bV(P:Program)(w:World)(K:Γ)(mg:qae)(base:Heap)(x:Str)(ps:ν)(k:Nat)(sp:Sp):Prop :=
 ∃f fd,mg x=some (.ref f)/\W.keepIn K (.ref f)=true/\Binds K fd ps []/\cD P w K mg base eQ k f fd ps sp
def Df.fU{st:Stmt}{k:Nat}(D:Df K mg x st ps f fd)(F:cD P w K mg base eQ k f fd ps sp):bV P w K mg base x ps k sp :=
 ⟨f,fd,D.m,D.F.kp,D.b,F⟩
def kP:bN ⟨H,[],Ox⟩ i:=λ_ z=>nomatch z
section
def jD{st:Stmt}{N:ν}{k:Nat}{G:List T->(Rt->Prop)->Prop}(F:Cu K x qual st f fd)(S:az N ps (ai st))(hn:n=ps.length)(dF:∀(bF:Value) (A:Around) (outer:List Env) (s:Shared) (H:Hp) (E:XK) (Ox:υ),bG k (A.deeper (envOfC qual (ai st) s.heap.objs.size f bF))->∀ts q,G ts q ->
    ∃g,j' (fN eQ P w K mg base N qual (ai st) f bF A outer s H E).pA ⟨H,[],Ox⟩ (bE st) g/\(ts.length=n->g {nx:=λ_=>q (.vw .aO),rt:=λ_ r=>q r} (ts.map (λt=>some (t,false))++List.replicate (N.length-ts.length) none))) :
  cD P w K mg base eQ (k+1) f fd ps (cK K n G):=by
 have hp:∀n (as:υ) k,pz (List.replicate n false) as k=[]:=by
  intro n;induction n with
  |zero=>intro as k;rfl
  |succ n ih=>intro as k;exact ih as (k+1)
 have hfi:∀n (ρ:En),k6 (List.replicate n false) ρ=[]:=by
  intro n;induction n with
  |zero=>intro ρ;rfl
  |succ n ih=>intro ρ;exact ih ρ.tail
 have he:∀n (ts:List T),ts.length=n->vh (List.replicate n false) ts=ts.map λt=>some (t,false):=by
  intro n;induction n with
  |zero=>intro ts e;cases ts<;>simp_all [vh]
  |succ n ih=>
    intro ts e;cases ts with
    |nil=>simp at e
    |cons t ts=>rw[zX,vh,ih ts (by simpa using e)];rfl
 refine fnV F S (by rw[Ac];exact hn) λbF A outer s H E as Ox hr ts q hl hG=>?_;rw[Ac] at hl;obtain⟨g,h1,h2⟩:=dF bF A outer s H E Ox hr ts (q []) hG;refine⟨g,by rw[hp];exact h1,?_⟩;rw[he n ts hl];simp only[hfi];exact h2 hl
end
def bG.fm{k:Nat}(r:bG k A):A.units+101<cLine:=by have:=r.un;omega
def AZ:bootBuiltins "list"=some (.type "list"):=by decide +kernel
def pT:bootBuiltins "tuple"=some (.type "tuple"):=by decide +kernel
def XS:bootBuiltins "all"=some (.builtin "all"):=by decide +kernel
def XT:bootBuiltins "sum"=some (.builtin "sum"):=by decide +kernel
def XU:bootBuiltins "min"=some (.builtin "min"):=by decide +kernel
def XW:bootBuiltins "int"=some (.type "int"):=by decide +kernel
def SF:bootBuiltins "bool"=some (.type "bool"):=by decide +kernel
def PK:bootBuiltins "str"=some (.type "str"):=by decide +kernel
theorem pU:∀{fs:List Bool}{as:υ}{k:Nat},∀p∈pz fs as k,k<=p.1/\fs[p.1-k]?=some true
 |[],_,_,p,hp=>nomatch hp
 |false::fs,as,k,p,hp=>by
  obtain⟨h1,h2⟩:=pU (fs:=fs) (as:=as) (k:=k+1) p hp;refine⟨by omega,?_⟩;have:p.1-k=(p.1-(k+1))+1:=by omega
  rw[this];simpa using h2
 |true::fs,a::as,k,p,hp=>by
  rcases c0.mp hp with z|z
  subst z;exact⟨c9 _,by simp⟩;obtain⟨h1,h2⟩:=pU (fs:=fs) (as:=as) (k:=k+1) p z;refine⟨by omega,?_⟩;have:p.1-k=(p.1-(k+1))+1:=by omega
  rw[this];simpa using h2
 |true::fs,[],k,p,hp=>by
  obtain⟨h1,h2⟩:=pU (fs:=fs) (as:=[]) (k:=k+1) p hp;refine⟨by omega,?_⟩;have:p.1-k=(p.1-(k+1))+1:=by omega
  rw[this];simpa using h2
def CO{fs:List Bool}{as:υ}(h:fs[i]?≠some true):bN ⟨H,pz fs as 0,Ox⟩ i:=λp hp e=>by have:=(pU p hp).2;rw[Nat.sub_zero,e] at this;exact h this
def k_(lo:Int)(n:Nat):(rangeT lo n).length=n:=by unfold rangeT;rw[cu,Lc]
def qP{lo:Int}{t:T}(h:(rangeT lo n)[i]?=some t):i<n/\t=.int (lo+(i:Int)):=by
 unfold rangeT at h;rw[iz] at h;cases e:(List.range n)[i]? with
 |none=>rw[e] at h;cases h
 |some j=>rw[e] at h;obtain⟨h1,h2⟩:=eE.mp e;rw[List.getElem_range] at h2;rw[Lc] at h1;subst h2;cases h;exact⟨h1,rfl⟩
def dH{lo:Int}{h:FG}{g:FS}{d:Gj}{ρ:En}(Pv:Nat->En->Prop)(h0:Pv 0 ρ)(hs:∀(i:Nat) ρ',i<n->Pv i ρ'->h (.int (lo+(i:Int))) ρ' λρ2=>g {nx:=Pv (i+1),ct:=Pv (i+1),bk:=d.nx,rt:=d.rt} ρ2)(hd:∀ρ',Pv n ρ'->d.nx ρ'):oZ (rangeT lo n) h g d ρ:=⟨Pv,h0,λi t ρ' e p=>by obtain⟨h1,rfl⟩:=qP e;exact hs i ρ' h1 p,λρ' p=>hd ρ' (by rw[k_] at p;exact p)⟩
theorem mB{f:α->T}{xs:List α}{h:FG}{g:FS}{d:Gj}{ρ:En}(Pv:Nat->En->Prop)(h0:Pv 0 ρ)(hs:∀(i:Nat) x ρ',xs[i]?=some x->Pv i ρ'->h (f x) ρ' λρ2=>g {nx:=Pv (i+1),ct:=Pv (i+1),bk:=d.nx,rt:=d.rt} ρ2)(hd:∀ρ',Pv xs.length ρ'->d.nx ρ'):oZ (xs.map f) h g d ρ:=⟨Pv,h0,λi t ρ' e p=>by
 rw[iz] at e;cases q:xs[i]? with
 |none=>rw[q] at e;cases e
 |some x=>rw[q] at e;cases e;exact hs i x ρ' q p,λρ' p=>hd ρ' (by rw[cu] at p;exact p)⟩
def x6{c:Bool}{A:Prop}(hc:c=true)(h:A):if c=true then A else B:=by rw[ε hc];exact h
def gz{c:Bool}{A:Prop}(hc:c=false)(h:B):if c=true then A else B:=by rw[ζ (by rw[hc];exact iM)];exact h
def cN{c A:Prop}[Decidable c](h1:c->A)(h2:¬ c->B):if decide c=true then A else B:=by by_cases h:c;rw[ε (μ h)];exact h1 h;rw[ζ (by rw[ι h];exact iM)];exact h2 h
def mC(i:Int):Prop:=i.natAbs<2 ^ 2000
def mC.of{i:Int}(h1 : -(10 ^ 200)<=i)(h2:i<=10 ^ 200):mC i:=by
 unfold mC;have e:(10:Nat) ^ 200<2 ^ 2000:=by decide
 have:i.natAbs<=10 ^ 200:=by
  have e2:((10 ^ 200:Nat):Int)=(10:Int) ^ 200:=by rw[Int.natCast_pow];rfl
  generalize (10:Nat) ^ 200=m at *;rw[<- e2] at h1 h2;omega
 exact Z0 this e
def mC.bits{i:Int}(h:mC i):Builtin.Int.intBits i<=2000:=by
 unfold Builtin.Int.intBits;split;exact hY _;have:i.natAbs.log2<2000:=by
  rcases Nat.eq_zero_or_pos i.natAbs with h0|hp
  rw[h0];decide;exact (Nat.log2_lt (Lg hp)).mpr h
 omega
def mC.log{i:Int}(h:mC i):i.natAbs.log2<9000:=by
 rcases Nat.eq_zero_or_pos i.natAbs with h0|hp
 rw[h0];decide;exact Nat.lt_trans ((Nat.log2_lt (Lg hp)).mpr h) (by decide)
def PL(i j:Int):Prop:=mC i/\mC j
def PM(i j:Int):Prop:=0<j/\mC j
def PN(i j:Int):Prop:=j≠0/\mC j
def PQ(i j:Int):Prop:=j≠0
def PR(i j:Int):Prop:=0<=j/\j<=1000/\mC i
section
def MC:fS X (binaryOp .Mult) (rI PL λi j=>.int (i * j)):=LO λ_ _ _ _ _ _ _ hc q=>
 mul_int q (IntMulOk.of_bits (je hc.1.bits (by decide)) (je hc.2.bits (by decide)))
def HB:fS X (binaryOp .FloorDiv) (rI PM λi j=>.int (i / j)):=LO λi j _ _ _ _ _ hc q=>by have h1:(0:Int)<j:=hc.1;exact floordiv_int (by omega) (by rw[Int.fdiv_eq_ediv_of_nonneg i (by omega)];exact q) (.inl (PyProof.noPylong_of_log2 hc.2.log))
def HC:fS X (binaryOp .FloorDiv) (rI PN λi j=>.int (i.fdiv j)):=LO λ_ _ _ _ _ _ _ hc q=>floordiv_int hc.1 q (.inl (PyProof.noPylong_of_log2 hc.2.log))
def MD:fS X (binaryOp .Mod) (rI PQ λi j=>.int (i.fmod j)):=LO λ_ _ _ _ _ _ _ hc q=>mod_int' hc q
def ME:fS X (binaryOp .Pow) (rI PR λi j=>.int (i ^ j.toNat)):=LO λi j _ _ _ _ _ hc q=>pow_int hc.1 (by
 have h1:=hc.2.2.bits;have h2:=hc.2.1;have h0:=hc.1;have e:(2:Int) ^ 27=134217728:=by decide
 have:(Builtin.Int.intBits i:Int) * j<=2000 * 1000:=Int.mul_le_mul (by omega) h2 h0 (by decide);omega) q
end
def HF(x y:T)(q:Rt->Prop):Prop:=match x,y with
 |.int i,.int j=>(mC i/\mC j)/\q (.vw (.int (i * j)))
 |_,_=>False
def HG:nY K (rI PL λi j=>.int (i * j)) HF:=by intro Z tm O ρ σ H x y v w q Q I h1 h2 h k;unfold HF at h;split at h;exact⟨_,_,h1.int,h2.int,h.1,k _ h.2 _ H (aV.refl H) ⟨I,bC⟩⟩;exact h.elim
def HH(x y:T)(q:Rt->Prop):Prop:=match x,y with
 |.int i,.int j=>(0<j/\mC j)/\q (.vw (.int (i / j)))
 |_,_=>False
def HI:nY K (rI PM λi j=>.int (i / j)) HH:=by intro Z tm O ρ σ H x y v w q Q I h1 h2 h k;unfold HH at h;split at h;exact⟨_,_,h1.int,h2.int,h.1,k _ h.2 _ H (aV.refl H) ⟨I,bC⟩⟩;exact h.elim
def HJ(x y:T)(q:Rt->Prop):Prop:=match x,y with
 |.int i,.int j=>(j≠0/\mC j)/\q (.vw (.int (i.fdiv j)))
 |_,_=>False
def HK:nY K (rI PN λi j=>.int (i.fdiv j)) HJ:=by intro Z tm O ρ σ H x y v w q Q I h1 h2 h k;unfold HJ at h;split at h;exact⟨_,_,h1.int,h2.int,h.1,k _ h.2 _ H (aV.refl H) ⟨I,bC⟩⟩;exact h.elim
def HL(x y:T)(q:Rt->Prop):Prop:=match x,y with
 |.int i,.int j=>(j≠0)/\q (.vw (.int (i.fmod j)))
 |_,_=>False
def HM:nY K (rI PQ λi j=>.int (i.fmod j)) HL:=by intro Z tm O ρ σ H x y v w q Q I h1 h2 h k;unfold HL at h;split at h;exact⟨_,_,h1.int,h2.int,h.1,k _ h.2 _ H (aV.refl H) ⟨I,bC⟩⟩;exact h.elim
def HN(x y:T)(q:Rt->Prop):Prop:=match x,y with
 |.int i,.int j=>(0<=j/\j<=1000/\mC i)/\q (.vw (.int (i ^ j.toNat)))
 |_,_=>False
def HP:nY K (rI PR λi j=>.int (i ^ j.toNat)) HN:=by intro Z tm O ρ σ H x y v w q Q I h1 h2 h k;unfold HN at h;split at h;exact⟨_,_,h1.int,h2.int,h.1,k _ h.2 _ H (aV.refl H) ⟨I,bC⟩⟩;exact h.elim
section
variable{Z:Zc}{a b:Expr}{fa fb:FE}
def mE(ha:VR X Z a fa)(hb:VR X Z b fb):VP X Z (.BinOp a .Mult b pos) (f2 fa fb HF):=gr MC HG ha hb
def jE(ha:VR X Z a fa)(hb:VR X Z b fb):VP X Z (.BinOp a .FloorDiv b pos) (f2 fa fb HH):=gr HB HI ha hb
def HQ(ha:VR X Z a fa)(hb:VR X Z b fb):VP X Z (.BinOp a .FloorDiv b pos) (f2 fa fb HJ):=gr HC HK ha hb
def MH(ha:VR X Z a fa)(hb:VR X Z b fb):VP X Z (.BinOp a .Mod b pos) (f2 fa fb HL):=gr MD HM ha hb
def CP(ha:VR X Z a fa)(hb:VR X Z b fb):VP X Z (.BinOp a .Pow b pos) (f2 fa fb HN):=gr ME HP ha hb
end
def nn{a b:Nat}(h:a<b):a≠b:=j7 h
end VT
variable{Z:VT.Zc}{ρ:VT.En}{fa fe fb:VT.FE}{tm:List (VT.T×L2.V)}{g:VT.FA}
abbrev qab:=List (VT.T×L2.V)
abbrev ο:=List VT.T
abbrev qam:=VT.Rt->Prop
abbrev θ:=@VT.VP.vr
abbrev ς:=@VT.VP.ve
abbrev Δ:=@VT.VP.vx
variable{GL:ο->(VT.T->Prop)->Prop}
namespace VT
open PySem PySem.Spec PyProof.Rows L2
section
variable{k k':Nat}{G:ο->(qam)->Prop}
def aK(C:bV X.prog X.w X.K X.mg X.base x ps k (cK X.K n G))(hr:bG k' X.A)(ha:VA X Z (e::es) g)(hg:Gl X x:=by rfl)(hk:k<=k':=by decide)(l_:iq x:=by decide)(he:starEach (e::es) X.env=(false,eval e X.env)::starEach es X.env:=by rfl)(gO:(backTo pos (starEach es X.env)).any (·.1)=false:=by rfl) :
  VP X Z (.Call (.Name x p) (e::es) [] pos) (AU n g G):=by
 obtain⟨f,fd,h1,h2,h3,F⟩:=C;exact dA F (hr.mono hk) hg h1 h2 h3 ha l_ he gO
end
end VT
namespace L2
open PySem PySem.Spec PyProof.Rows
section
variable{a b:Expr}{tb:TE}
variable{tA WC:TT}{rest:qap}
end
section
variable{CX:Gi}{k:Nat}{ks:ν}{E:XK}{m:Str}{ac2:Pos}{kws:List Keyword}{t tk:TA}{nm:Option Str}
variable{g:Ψ->Ψ->Ψ}{gV:v9->v9->v9}
end
section
variable{κ:Type}[DecidableEq κ]
noncomputable def jF(aQ:List (κ×V))(k:κ):Option V:=(aQ.find? λkv=>decide (kv.1=k)).map (·.2)
noncomputable def putK(aQ:List (κ×V))(k:κ)(v:V):List (κ×V) :=
 if (aQ.any λkv=>decide (kv.1=k))=true then aQ.map (λkv=>if kv.1=k then (kv.1,v) else kv) else aQ++[(k,v)]
def mF{p:κ×V}{r:List (κ×V)}{k:κ}(e:p.1=k):jF (p::r) k=some p.2:=by simp[jF,Le,e]
def mG{p:κ×V}{r:List (κ×V)}{k:κ}(e:¬ p.1=k):jF (p::r) k=jF r k:=by simp[jF,Le,e]
theorem qQ(k:κ):∀aQ:List (κ×V),(aQ.any λkv=>decide (kv.1=k))=(jF aQ k).isSome
 |[]=>rfl
 |p::r=>by rw[LC];by_cases e:p.1=k;simp only[mF e,μ e,Bool.true_or,Option.isSome_some];rw[mG e,ι e,Bool.false_or];exact qQ k r
def gZ(aQ:List (κ×V))(k:κ)(v:V):(putK aQ k v).length<=aQ.length+1:=by unfold putK;split;rw[cu];omega;rw[nL,xk,List.length_nil];omega
def HS{aQ:List (κ×V)}{k:κ}(v:V)(h:jF aQ k=none):putK aQ k v=aQ++[(k,v)]:=by unfold putK;rw[qQ,h];exact ζ (by decide)
def ku.Ez{o:Option V}{u:Option Value}(r:ku o u):o.isSome=u.isSome:=by
 cases o with
 |none=>cases u with
  |none=>rfl
  |some _=>exact (show False from r).elim
 |some _=>cases u with
  |none=>exact (show False from r).elim
  |some _=>rfl
def ku.getD{o:Option V}{u:Option Value}{d:V}{d':Value}(r:ku o u)(rd:RelV d d'):RelV (o.getD d) (u.getD d'):=by
 cases o with
 |none=>cases u with
  |none=>exact rd
  |some _=>exact (show False from r).elim
 |some _=>cases u with
  |none=>exact (show False from r).elim
  |some _=>exact r
def KV.val{aQ:List (κ×V)}{vs:List (κ×Value)}(r:KV aQ vs)(k:κ):ku (jF aQ k) (valueAt vs k):=by
 unfold KV at r;induction r with
 |nil=>exact True.intro
 |@cons p q ps qs h t ih=>
  obtain⟨h1,h2⟩:=h;by_cases e:p.1=k;have e':q.1=k:=h1.symm.trans e;have b:valueAt (q::qs) k=some q.2:=by simp[valueAt,Le,e']
  rw[mF e,b];exact h2;have e':¬ q.1=k:=λz=>e (h1.trans z);have b:valueAt (q::qs) k=valueAt qs k:=by simp[valueAt,Le,e']
  rw[mG e,b];exact ih
def KV.any{aQ:List (κ×V)}{vs:List (κ×Value)}(r:KV aQ vs)(k:κ):(aQ.any λkv=>decide (kv.1=k))=vs.any λkv=>decide (kv.1=k):=by
 unfold KV at r;induction r with
 |nil=>rfl
 |cons h t ih=>rw[LC,LC,ih,h.1]
theorem KV.SH{aQ:List (κ×V)}{vs:List (κ×Value)}(r:KV aQ vs)(k:κ){y:V}(ry:RelV y u) :
  KV (aQ.map λkv=>if kv.1=k then (kv.1,y) else kv) (vs.map λkv=>if kv.1=k then (kv.1,u) else kv):=by
 unfold KV at r ⊢;induction r with
 |nil=>exact .nil
 |@cons p q ps qs h t ih=>rw[gU,gU];refine .cons ?_ ih;obtain⟨h1,h2⟩:=h;by_cases e:p.1=k;rw[ε e,ε (h1.symm.trans e)];exact⟨h1,ry⟩;rw[ζ e,ζ (λz=>e (h1.trans z))];exact⟨h1,h2⟩
def KV.put{aQ:List (κ×V)}{vs:List (κ×Value)}(r:KV aQ vs)(k:κ){y:V}(ry:RelV y u):KV (putK aQ k y) (stored vs k u):=by unfold putK stored;rw[r.any k];by_cases e:(vs.any λkv=>decide (kv.1=k))=true;rw[ε e,ε e];exact r.SH k ry;rw[ζ e,ζ e];exact Paired.snoc r ⟨rfl,ry⟩
def KV.length{aQ:List (κ×V)}{vs:List (κ×Value)}(r:KV aQ vs):aQ.length=vs.length:=Q3 r
end
def mJ{k:Key}(r:RelV (kV k) u):(aT P w).is k u=true:=by
 cases k with
 |inl i=>obtain⟨t,e⟩:=(show ∃t,u=Value.int i t from r);subst e;exact xw P w i t
 |inr x=>obtain⟨t,e⟩:=(show ∃t,u=Value.str x t from r);subst e;exact xx P w x t
theorem oq{P:Program}{w:World}:∀{ks:List Key}{us:Ψ},Vals (ks.map kV) us->ItemsAre (aT P w) ks us
 |[],_,r=>by rw[Pe] at r;cases r;exact .nil
 |k::ks,_,r=>by
  rw[gU] at r;cases r with
  |cons h t=>exact .cons (mJ h) (oq t)
abbrev KT(H:Hp):List (List Key×V)->List (List Key×Addr×Value)->Prop:=Paired λp q=>p.1=q.1/\H q.2.1=some (.tup (p.1.map kV))/\RelV p.2 q.2.2
def KT.val{aQ:List (List Key×V)}{xs:List (List Key×Addr×Value)}(r:KT H aQ xs)(k:List Key):ku (jF aQ k) ((atKey xs k).map (·.2)):=by
 induction r with
 |nil=>exact True.intro
 |@cons p q ps qs h t ih=>
  obtain⟨h1,_,h2⟩:=h;by_cases e:p.1=k;have e':q.1=k:=h1.symm.trans e;have b:atKey (q::qs) k=some q.2:=by simp[atKey,Le,e']
  rw[mF e,b];exact h2;have e':¬ q.1=k:=λz=>e (h1.trans z);have b:atKey (q::qs) k=atKey qs k:=by simp[atKey,Le,e']
  rw[mG e,b];exact ih
theorem KT.SH{aQ:List (List Key×V)}{xs:List (List Key×Addr×Value)}(r:KT H aQ xs)(k:List Key){y:V}(ry:RelV y u) :
  KT H (aQ.map λkv=>if kv.1=k then (kv.1,y) else kv) (xs.map (putAt k u)):=by
 induction r with
 |nil=>exact .nil
 |@cons p q ps qs h t ih=>rw[gU,gU];refine .cons ?_ ih;obtain⟨h1,h2,h3⟩:=h;unfold putAt;by_cases e:p.1=k;rw[ε e,ε (h1.symm.trans e)];exact⟨h1,h2,ry⟩;rw[ζ e,ζ (λz=>e (h1.trans z))];exact⟨h1,h2,h3⟩
def KT.put{aQ:List (List Key×V)}{xs:List (List Key×Addr×Value)}(r:KT H aQ xs)(k:List Key){y:V}(hb:H b=some (.tup (k.map kV)))(ry:RelV y u) :
  KT H (putK aQ k y) (storedH xs k b u):=by
 have e:(aQ.any λkv=>decide (kv.1=k))=(atKey xs k).isSome:=by rw[qQ,(r.val k).Ez,Option.isSome_map]
 unfold putK storedH;rw[e];by_cases q:(atKey xs k).isSome=true;rw[ε q,ε q];exact r.SH k ry;rw[ζ q,ζ q];exact Paired.snoc r ⟨rfl,hb,ry⟩
def KT.keeps{aQ:List (List Key×V)}{xs:List (List Key×Addr×Value)}(r:KT H aQ xs)(ht:∀b ys,H b=some (.tup ys)->H' b=some (.tup ys)):KT H' aQ xs :=
 Paired.nM r λ_ _ z=>⟨z.1,ht _ _ z.2.1,z.2.2⟩
section
def CQ{u:HO}(ok:lV P w H h)(e:Rd H a u):cS P w H h a u:=e.ok ok
def uf(ok:lV P w H h)(e:Rd H a (.dK aQ)):aQ.length<=sizeLine/\(a==sysModules)=false/\∃vs,KV aQ vs/\h.DictOf (aT P w) a vs :=
 show cS P w H h a (.dK aQ) from CQ ok e
def ug(ok:lV P w H h)(e:H a=some (.dK aQ)):aQ.length<=sizeLine/\(a==sysModules)=false/\∃vs,KV aQ vs/\h.DictOf (aT P w) a vs:=uf ok (.inl e)
def vD(ok:lV P w H h)(e:H a=some (.tup (ks.map kV))):(tupleKind (aT P w)).is h ks a:=by obtain⟨_,aW,r,o,h1,h2,n,h3⟩:=(show cS P w H h a (.tup (ks.map kV)) from ok a _ e);exact⟨o,aW.toArray,n,h1,h2,h3,by simpa using oq r⟩
def x8{aQ:List (List Key×V)}(ok:lV P w H h)(e:Rd H a (.dT aQ)):aQ.length<=sizeLine/\(a==sysModules)=false /\
  ∃xs,KT H aQ xs/\h.DictOfH (tupleKind (aT P w)) a xs:=by
 obtain⟨z,y,xs,r,o,es,ep,h1,h2,h3,h4,h5⟩:=(show cS P w H h a (.dT aQ) from CQ ok e);refine⟨z,y,xs,r,o,es,ep,h1,h2,h3,h4,λx hx=>?_,h5⟩;have all:∀{l:List (List Key×V)}{m:List (List Key×Addr×Value)},KT H l m->∀x∈m,(tupleKind (aT P w)).is h x.1 x.2.1:=by
  intro l m q;induction q with
  |nil=>intro x hx;exact nomatch hx
  |@cons p q ps qs hq t ih=>
    intro x hx;rcases c0.mp hx with e|hx
    subst e;exact vD ok (by rw[<- hq.1];exact hq.2.1);exact ih x hx
 exact all r x hx
def X0{aQ:List (List Key×V)}(ok:lV P w H h)(e:H a=some (.dT aQ)):aQ.length<=sizeLine/\(a==sysModules)=false /\
 ∃xs,KT H aQ xs/\h.DictOfH (tupleKind (aT P w)) a xs:=x8 ok (.inl e)
end
def vE(H:Hp)(a:Addr)(y:V)(r:Option V):Prop :=
 (∃aQ k,Rd H a (.dK aQ)/\y=kV k/\r=jF aQ k)\/∃aQ k b,Rd H a (.dT aQ)/\y=.ref b/\H b=some (.tup (k.map kV))/\r=jF aQ k
def EA(H:Hp)(a:Addr)(y v:V)(H':Hp):Prop :=
 (∃aQ k,H a=some (.dK aQ)/\y=kV k/\aQ.length<sizeLine/\H'=upd H a (.dK (putK aQ k v))) \/
 ∃aQ k b,H a=some (.dT aQ)/\y=.ref b/\H b=some (.tup (k.map kV))/\aQ.length<sizeLine/\H'=upd H a (.dT (putK aQ k v))
theorem vE.k{k:Key}(e:H a=some (.dK aQ)):vE H a (kV k) (jF aQ k):=.inl ⟨aQ,k,.inl e,rfl,rfl⟩
theorem EA.k{k:Key}(e:H a=some (.dK aQ))(hl:aQ.length<sizeLine):EA H a (kV k) v (upd H a (.dK (putK aQ k v))):=.inl ⟨aQ,k,e,rfl,hl,rfl⟩
section
variable{s:Shared}{y:V}{r:Value}{o:Option V}
def Inv.big(I:Inv X γ σ H s):sysModules<s.heap.objs.size:=by have h:mainGlobals<s.heap.objs.size:=(I.mod.glob.keeps I.bk).lt;exact Nat.lt_trans (by decide) h
def EB(hu:A.units+1<cLine)(I:Inv X γ σ H s)(g:vE H a y (some v))(ry:RelV y u)(h:∀w' s',Inv X γ σ H s'->RelV v w'->Q w' s') :
  wpAny (model X.prog X.w) A (getItem (.ref a) u) Q E s:=by
 obtain⟨aQ,k,e,ey,l⟩|⟨aQ,k,b,e,ey,eb,l⟩:=g
 subst ey;obtain⟨z,hd,vs,rel,dd⟩:=uf I.cm e;obtain⟨w',hw,rw'⟩:=ku.some_of (v:=v) (o:=valueAt vs k) (by rw[l];exact rel.val k);exact wpAny_getItem_of (mJ ry) dd.mapOf hw (h w' _ (I.tok _) rw');subst ey;cases (show u=Value.ref b from ry);obtain⟨z,hd,xs,rel,dd⟩:=x8 I.cm e;obtain⟨w',hw,rw'⟩:=ku.some_of (v:=v) (o:=(atKey xs k).map (·.2)) (by rw[l];exact rel.val k);obtain⟨p,hp,SI⟩:=Wn.mp hw;refine wpAny_getItem_heap (aaq hu) (vD I.cm eb) dd hp ?_;rw[SI];exact h w' _ (I.tok _) rw'
def mK{ob:HO}(I:Inv X γ σ H s)(mu:Ww (H a))(hs:Heap.SameBut a s.heap h')(he:∃q,h'.get? a=some q)(new:cS X.prog X.w (upd H a ob) h' a ob) :
  Inv X γ σ (upd H a ob) {s with heap:=h',toks:=t'} :=
 I.write (x:=a) (e:=a) mu (.inl rfl) (λb q hb z=>(hs.2 b hb).trans z) he new
def A0{vs:List (Key×Value)}(z:aQ.length<=sizeLine)(hd:(a==sysModules)=false)(rel:KV aQ vs)(dd:h'.DictOf (aT P w) a vs) :
 cS P w H' h' a (.dK aQ):=⟨z,hd,vs,rel,dd⟩
def EC{Q:Unit->Shared->Prop}(hu:A.units+1<cLine)(I:Inv X γ σ H s)(g:EA H a y v H')(ry:RelV y u)(rv:RelV v r)(h:∀s',Inv X γ σ H' s'->Q () s') :
  wpAny (model X.prog X.w) A (setItem (.ref a) u r) Q E s:=by
 obtain⟨aQ,k,e,ey,l,eH⟩|⟨aQ,k,b,e,ey,eb,l,eH⟩:=g
 subst ey eH;obtain⟨z,hd,vs,rel,dd⟩:=ug I.cm e;have hz:vs.length<=sizeLine:=by rw[<- rel.length];exact z
 have hl:(putK aQ k v).length<=sizeLine:=by have:=gZ aQ k v;omega
 refine wpAny_setItem_pairs (hsz:=hz) (mJ ry) dd λh' z8 hs=>h _ ?_;have he:∃q,h'.get? a=some q:=let ⟨q,_,_,hq,_⟩:=z8;⟨q,hq⟩;exact mK I (by rw[e];exact True.intro) hs he (A0 hl hd (rel.put k rv) z8);subst ey eH;cases (show u=Value.ref b from ry);obtain⟨z,hd,xs,rel,dd⟩:=X0 I.cm e;have hz:xs.length<=sizeLine:=by rw[<- Q3 rel];exact z
 have hl:(putK aQ k v).length<=sizeLine:=by have:=gZ aQ k v;omega
 refine wpAny_setItem_heap (hsz:=hz) (aaq hu) (vD I.cm eb) dd λh' z8 hs=>h _ ?_;obtain⟨q,es,ep,hq,h2,h3,h4,_,h5⟩:=z8;refine mK I (by rw[e];exact True.intro) hs ⟨q,hq⟩ ⟨hl,hd,_,(rel.put k eb rv).keeps λc ys ec=>?_,q,es,ep,hq,h2,h3,h4,h5⟩;rw[aB (Gx ec e (λz=>nomatch z))];exact ec
end
section
variable{s:Shared}{k:Key}
def X1(I:Inv X γ σ H s)(e:Rd H a (.dK aQ))(h:∀t s',Inv X γ σ H s'->Q (.int aQ.length t) s'):wpAny (model X.prog X.w) A (call (.builtin "len") [.ref a]) Q E s:=by obtain⟨z,hd,vs,rel,dd⟩:=uf I.cm e;refine call_len_dict hd dd (by rw[<- rel.length];rw[ξ] at z;omega) ?_;rw[<- rel.length];exact h _ _ (I.tok _)
end
def MK(i:Expr):Prop:=∀ov iv,subscripted i false ov iv=operate [ov,iv] (getItem ov iv)
def CS{s:Shared}{env:Env}{value slice:Expr}{T id:String}(hl:typeLookup (.type T) "__getitem__"=pure (some (.builtin id)))(hs:MK slice)(h:wpAny (model prog w) A (eval value env) (λo s₁=>wpAny (model prog w) A (eval slice env) (λi s₂=>s₂.TypeIs o T/\wpAny (model prog w) A (getItem o i) Q E s₂) E s₁) E s) :
  wpAny (model prog w) A (eval (.Subscript value slice pos) env) Q E s:=by
 refine Subscript_ (ω h (λo s₁ h₁=>ω h₁ (λi s₂ h₂=>?_) λ_ _ x=>x) λ_ _ x=>x);obtain⟨hT,h₂⟩:=h₂;unfold subscriptTail;refine δ ?_;rw[getitemInPython_of_ne hT.not_modules];refine δ (Ω hT hl ?_);have fin:wpAny (model prog w) A (subscripted slice false o i) (λr s₃=>wpAny (model prog w) A (letTemporaryGo value o r >>= λ_=>pure r) Q E s₃) E s₂:=by rw[hs o i];exact wpAny_operating (ω h₂ (λr s₃ h₃=>δ (wpAny_letTemporaryGo (η h₃))) λ_ _ x=>x)
 first
  |exact η (δ fin)
  |exact δ (η (δ fin))
  |exact δ fin
def x9{s:Shared}{y:V}{o:Option V}(I:Inv X γ σ H s)(g:vE H a y o):s.TypeIs (.ref a) "dict":=by
 obtain⟨aQ,k,e,_,_⟩|⟨aQ,k,b,e,_,_,_⟩:=g
 obtain⟨_,_,vs,_,dd⟩:=uf I.cm e;exact dd.typeIs;obtain⟨_,_,xs,_,dd⟩:=x8 I.cm e;exact dd.typeIs
def X2(td ty:TE):TE:=λσ H Q=>td σ H λx H1=>ty σ H1 λy H2=>∃a v,x=.ref a/\vE H2 a y (some v)/\Q v H2
def X3(td ty tv:TE):TS:=λD σ H=>tv σ H λv H1=>td σ H1 λx H2=>ty σ H2 λy H3=>∃a H4,x=.ref a/\EA H3 a y v H4/\D.nx σ H4
section
variable{i value:Expr}{td ty tv:TE}
def MM(hu:X.A.units+1<cLine)(ho:PE X o td)(hi:PE X i ty)(hs:MK i):PE X (.Subscript o i pos) (X2 td ty):=by intro γ s σ H Q I h;refine CS PySem.F.slot_dict_getitem.lookup hs (ck (ho γ s σ H _ I h) λu s1 ⟨x,H1,I1,rx,q1⟩=>ck (hi γ s1 σ H1 _ I1 q1) λiv s2 ⟨y,H2,I2,ry,a,v,ex,g,q2⟩=>?_);subst ex;obtain rfl:u=Value.ref a:=rx;exact⟨x9 I2 g,EB hu I2 g ry λw' s3 I3 rw'=>⟨v,H2,I3,rw',q2⟩⟩
def CT(hu:X.A.units+1<cLine)(ho:PE X o td)(hi:PE X i ty)(hv:PE X value tv)(hs:swapsWith value (some (.Subscript o i pos')) pos.line X.env=pure false) :
  PS X (.Assign [.Subscript o i pos'] value pos) (X3 td ty tv):=by
 intro γ s σ H D I h;refine wpAny_Assign_Subscript (ck (hv γ s σ H _ I h) λr s1 ⟨v,H1,I1,rv,q1⟩=>ck (ho γ s1 σ H1 _ I1 q1) λu s2 ⟨x,H2,I2,rx,q2⟩=>ck (hi γ s2 σ H2 _ I2 q2) λiv s3 ⟨y,H3,I3,ry,a,H4,ex,g,q3⟩=>?_) hs;subst ex;obtain rfl:u=Value.ref a:=rx;exact EC hu I3 g ry rv λs4 I4=>⟨σ,H4,I4,q3⟩
end
def qR(h:Heap)(hb:sysModules<h.objs.size):cS P w H (h.push {cls:=.type "dict",data:=.dict #[]}) h.objs.size (.dK []) :=
 ⟨hY _,Ξ.mpr (Ne.symm (j7 hb)),[],.nil,Heap.DictOf.new h⟩
noncomputable def SJ:TE:=λ_ H Q=>∀p,H p=none->Q (.ref p) (upd H p (.dK []))
section
def x_:PE X (.Dict [] [] pos) SJ:=λγ s σ H Q I h=>
 wpAny_Dict_empty ⟨.ref s.heap.objs.size,_,I.laid (a:=s.heap.objs.size) (o:=.dK []) (t':=s.toks) (λ_ _ q=>jn _ q) (c9 _) (qR s.heap I.big),rfl,h _ (I.cm.fresh (c9 _))⟩
end
noncomputable def A1:List (TE×TE)->St->Hp->(List (V×V)->Hp->Prop)->Prop
 |[],_,H,Q=>Q [] H
 | (tk,tv)::r,σ,H,Q=>tk σ H λx H1=>tv σ H1 λy H2=>A1 r σ H2 λps H3=>Q ((x,y)::ps) H3
abbrev VV:List (V×V)->List (Value×Value)->Prop:=Paired λp q=>RelV p.1 q.1/\RelV p.2 q.2
def PPs(X:Cx)(pos:Pos)(keys:List (Option Expr))(values:qap)(MN:List (TE×TE)):Prop :=
 ∀(γ:qaa)(s:Shared)(σ:St)(H:Hp)(Q:List (V×V)->Hp->Prop),Inv X γ σ H s->A1 MN σ H Q ->
  wpAny (model X.prog X.w) X.A (evalPairs (pairTrees keys values X.env pos)) (λvs s'=>∃ps H',Inv X γ σ H' s'/\VV ps vs/\Q ps H') X.xe s
def MO:PPs X pos [] [] []:=λγ s σ H Q I h=>pairTrees_nil_walk ⟨[],H,I,.nil,h⟩
def HU{k v:Expr}{ks:List (Option Expr)}{vs:qap}{tk tv:TE}{MN:List (TE×TE)}(hk:PE X k tk)(hv:PE X v tv)(hr:PPs X pos ks vs MN) :
  PPs X pos (some k::ks) (v::vs) ((tk,tv)::MN):=λγ s σ H Q I h=>
 pairTrees_cons_walk (ck (hk γ s σ H _ I h) λu s1 ⟨x,H1,I1,rx,q1⟩=>ck (hv γ s1 σ H1 _ I1 q1) λw2 s2 ⟨y,H2,I2,ry,q2⟩ =>
  ck (hr γ s2 σ H2 _ I2 q2) λws s3 ⟨ps,H3,I3,rel,q3⟩=>⟨(x,y)::ps,H3,I3,.cons ⟨rx,ry⟩ rel,q3⟩)
noncomputable def ot(aQ more:List (Key×V)):List (Key×V):=more.foldl (λacc kv=>putK acc kv.1 kv.2) aQ
def KV.merge:∀{more:List (Key×V)}{rs:List (Key×Value)}{aQ:List (Key×V)}{vs:List (Key×Value)},KV more rs->KV aQ vs->KV (ot aQ more) (merged vs rs):=by
 intro more rs aQ vs r;unfold KV at r;induction r generalizing aQ vs with
 |nil=>intro q;exact q
 |@cons p q ps qs h t ih=>
  intro r0;have e:KV (putK aQ p.1 p.2) (stored vs q.1 q.2):=by have:=r0.put p.1 h.2;rw[<- h.1];exact this
  exact ih e
theorem kQ:∀(more aQ:List (Key×V)),(ot aQ more).length<=aQ.length+more.length
 |[],aQ=>by show aQ.length<=aQ.length+0;omega
 |p::r,aQ=>by have h1:=kQ r (putK aQ p.1 p.2);have h2:=gZ aQ p.1 p.2;show (ot (putK aQ p.1 p.2) r).length<=_;rw[xk];omega
theorem qS{P:Program}{w:World}:∀{aQ:List (Key×V)}{ws:List (Value×Value)},VV (aQ.map λkv=>(kV kv.1,kv.2)) ws->∃rs,Carries (aT P w) ws rs/\KV aQ rs
 |[],_,r=>by rw[Pe] at r;cases r;exact⟨[],True.intro,.nil⟩
 |p::aQ,_,r=>by
  rw[gU] at r;cases r with
  |@cons a b as bs h t=>obtain⟨rs,c,q⟩:=qS (P:=P) (w:=w) t;obtain⟨b1,b2⟩:=b;exact⟨(p.1,b2)::rs,⟨mJ h.1,rfl,c⟩,.cons ⟨rfl,h.2⟩ q⟩
noncomputable def X4(MN:List (TE×TE)):TE:=λσ H Q=>∀p,H p=none->A1 MN σ (upd H p (.dK [])) λps H2=>H2 p=some (.dK [])/\∃aQ:List (Key×V),ps=aQ.map (λkv=>(kV kv.1,kv.2))/\aQ.length<=15/\Q (.ref p) (upd H2 p (.dK (ot [] aQ)))
def MP{keys:List (Option Expr)}{values:qap}{MN:List (TE×TE)}(h:PPs X pos keys values MN)(sQ:keys.all (·.isSome)=true)(hl:keys.length=values.length)(h0:keys≠[])(h15:keys.length<=15):PE X (.Dict keys values pos) (X4 MN):=by
 intro γ s σ H Q I q;have hn:=I.cm.fresh (c9 s.heap.objs.size);have I1:=I.laid (a:=s.heap.objs.size) (o:=.dK []) (h':=s.heap.push {cls:=.type "dict",data:=.dict #[]}) (t':=s.toks) (λ_ _ q=>jn _ q) (c9 _) (qR s.heap I.big);refine wpAny_Dict_walk (knd:=aT X.prog X.w) sQ hl h0 h15 (ck (h γ _ σ _ _ I1 (q _ hn)) λws s2 ⟨ps,H2,I2,rel,e,aQ,ep,lk,q2⟩=>?_);subst ep;obtain⟨rs,c,rk⟩:=qS (P:=X.prog) (w:=X.w) rel;obtain⟨z,hd,SK,r0,dd⟩:=ug I2.cm e;cases r0;refine⟨rs,c,dd,λh' z8 hs=>⟨.ref s.heap.objs.size,_,?_,rfl,q2⟩⟩;have hz:(ot [] aQ).length<=sizeLine:=by have h1:=kQ aQ [];rw[List.length_nil] at h1;rw[ξ];omega
 have he:∃q,h'.get? s.heap.objs.size=some q:=let ⟨q,_,_,hq,_⟩:=z8;⟨q,hq⟩;exact mK I2 (by rw[e];exact True.intro) hs he (A0 hz hd (rk.merge .nil) z8)
structure M2(X:Cx)(o:Expr)(m:Str)(apos:Pos)(e f:Expr)(bj:Pos):Prop where
 base:attributeBase o m X.env (eval o X.env)=eval o X.env
 few:((backTo bj (starEach [e,f] X.env)).all (λx=>!x.1) && (backToKw bj (keywordEach [] X.env)).all (λx=>x.1.isSome)
  && decide (([e,f]:qap).length+([]:List Keyword).length+(if ([]:List Keyword).isEmpty then 0 else 1)<30))=true
 line:(apos.endLine==bj.line)=true
 trees:backTo bj (starEach [e,f] X.env)=[(false,eval e X.env),(false,eval f X.env)]
def IsD(H:Hp)(a:Addr):Prop:=(∃aQ,Rd H a (.dK aQ))\/∃aQ,Rd H a (.dT aQ)
def SM{s:Shared}(I:Inv X γ σ H s)(d:IsD H a) :
  s.TypeIs (.ref a) "dict"/\(∀b,Value.ref a=.ref b->∃ob,s.heap.get? b=some ob/\ob.dict=none)/\(a==sysModules)=false:=by
 obtain⟨aQ,e⟩|⟨aQ,e⟩:=d
 obtain⟨_,hd,vs,_,dd⟩:=uf I.cm e;refine⟨dd.typeIs,λb q=>?_,hd⟩;cases q;obtain⟨ob,_,_,h1,h2,_⟩:=dd;exact⟨ob,h1,h2.2.1⟩;obtain⟨_,hd,xs,_,dd⟩:=x8 I.cm e;refine⟨dd.typeIs,λb q=>?_,hd⟩;cases q;obtain⟨ob,_,_,h1,h2,_⟩:=dd;exact⟨ob,h1,h2.2.1⟩
section
variable{s:Shared}{y d:V}{r:Value}{o:Option V}
def SN(hu:A.units+1<cLine)(I:Inv X γ σ H s)(g:vE H a y o)(ry:RelV y u)(rd:RelV d r)(h:∀w' s',Inv X γ σ H s'->RelV (o.getD d) w'->Q w' s') :
  wpAny (model X.prog X.w) A (call (.builtin "dict.get") [.ref a,u,r]) Q E s:=by
 obtain⟨aQ,k,e,ey,l⟩|⟨aQ,k,b,e,ey,eb,l⟩:=g
 subst ey;obtain⟨z,hd,vs,rel,dd⟩:=uf I.cm e;refine aae O_ dd.typeIs Wo (Wi _ _ _) (meets_dict_get_default (aT X.prog X.w) a (mJ ry) hd r) ⟨_,dd.mapOf,h _ _ (I.tok _) ?_⟩;rw[l];exact (rel.val k).getD rd;subst ey;cases (show u=Value.ref b from ry);obtain⟨z,hd,xs,rel,dd⟩:=x8 I.cm e;refine aae O_ dd.typeIs Wo (Wi _ _ _) (meetsH_dict_get_default (tupleKind (aT X.prog X.w)) a b hd r) ⟨aaq hu,k,xs,vD I.cm eb,dd,h _ _ (I.tok _) ?_⟩;rw[l];exact (rel.val k).getD rd
end
def SO(td ty tx:TE):TE:=λσ H Q=>td σ H λx H1=>∃a,x=.ref a/\IsD H1 a/\ty σ H1 λy H2=>tx σ H2 λz H3=>∃o,vE H3 a y o/\Q (o.getD z) H3
section
variable{f:Expr}{td ty tx:TE}
def HV(hu:X.A.units+1<cLine)(ho:PE X o td)(he:PE X e ty)(hf:PE X f tx)(m:M2 X o "get" apos e f bj):PE X (.Call (.Attribute o "get" apos) [e,f] [] bj) (SO td ty tx):=by
 intro γ s σ H Q I h;refine wpAny_Call_method m.base m.few m.line Wj O_ PySem.F.type_dict_get (ck (ho γ s σ H _ I h) λu s1 ⟨x,H1,I1,rx,a,ex,d,q1⟩=>?_);subst ex;obtain rfl:u=Value.ref a:=rx;obtain⟨t1,t2,_⟩:=SM I1 d;refine⟨t1,t2,?_⟩;rw[m.trees];refine Wm rfl (ZV (QU (ck (he γ s1 σ H1 _ I1 q1) λiv s2 ⟨y,H2,I2,ry,q2⟩ =>
  QU (ck (hf γ s2 σ H2 _ I2 q2) λfv s3 ⟨z,H3,I3,rz,ov,g,q3⟩=>Calls.spliced_nil ?_))))
 exact SN hu I3 g ry rz λw' s4 I4 rw'=>⟨_,H3,I4,rw',q3⟩
end
end L2
namespace Att
open PySem PySem.W PySem.Calls PyProof.Rows
end Att
namespace L2
open PySem PySem.Spec PyProof.Rows
section
def ED:d_ X (.builtin "len") (λxs H Q=>∃a aQ,xs=[V.ref a]/\H a=some (.dK aQ)/\Q (.int aQ.length) H):=by intro γ s σ H xs us Q I r h;obtain⟨a,aQ,rfl,ha,q⟩:=h;obtain⟨u,rfl,ru⟩:=vals1 r;cases ru;exact X1 I (.inl ha) λt s' I'=>⟨.int aQ.length,H,I',⟨t,rfl⟩,q⟩
end
end L2
namespace VT
open PySem PySem.Spec PyProof.Rows L2
noncomputable def ya:T->Option Key
 |.int i=>some (.inl i)
 |.str x=>some (.inr x)
 |_=>none
def ke{A:υ}{t:T}{k:Key}(h:jo K H A t v)(e:ya t=some k):v=kV k:=by
 cases t with
 |int i=>cases e;exact h.int
 |str x=>cases e;exact h.str
 |_=>cases e
noncomputable def dB{α:Type}:List Key->List α->Key->Option α
 |k::ks,t::ts,x=>if k=x then some t else dB ks ts x
 |_,_,_=>none
noncomputable def yb(ks:List Key)(x:Key):Bool:=ks.any λk=>decide (k=x)
noncomputable def gA(ks:List Key)(x:Key):List Key:=if yb ks x=true then ks else ks++[x]
noncomputable def cH{α:Type}(ks:List Key)(ts:List α)(x:Key)(u:α):List α:=if yb ks x=true then List.zipWith (λk t=>if k=x then u else t) ks ts else ts++[u]
theorem fO:∀(ks:List Key)(vs:v9)(x:Key),jF (ks.zip vs) x=dB ks vs x
 |[],vs,x=>rfl
 |k::ks,[],x=>rfl
 |k::ks,v::vs,x=>by simp only[dB,Ly];by_cases e:k=x;rw[ε e,mF (p:=(k,v)) e];rw[ζ e,mG (p:=(k,v)) e];exact fO ks vs x
def yc(ts:List α)(x:Key):dB [] ts x=none:=by cases ts<;>rfl
theorem g9{K:Γ}{H:Hp}{A:υ}:∀{ks:List Key}{ts:ο}{vs:v9}{x:Key},aA K H A ts vs->(∀t,dB ks ts x=some t->∃v,dB ks vs x=some v/\At K H A t v)/\(dB ks ts x=none->dB ks vs x=none)
 |[],ts,vs,x,h=>by rw[yc,yc];refine⟨λt e=>?_,λ_=>rfl⟩;cases e
 |k::ks,[],vs,x,h=>by simp only[aA] at h;subst h;exact⟨λt e=>(by cases e),λ_=>rfl⟩
 |k::ks,t::ts,vs,x,h=>by simp only[aA] at h;obtain⟨v,r,rfl,h1,h2⟩:=h;simp only[dB];by_cases e:k=x;rw[ε e,ε e];exact⟨λt e=>by cases e;exact⟨v,rfl,h1⟩,λq=>by cases q⟩;rw[ζ e,ζ e];exact g9 h2
def MQ(ks:List Key)(vs:v9)(x:Key)(hl:ks.length=vs.length):((ks.zip vs).any λkv=>decide (kv.1=x))=yb ks x:=by
 unfold yb;induction ks generalizing vs with
 |nil=>rfl
 |cons k ks ih=>
  cases vs with
  |nil=>simp at hl
  |cons v vs=>rw[Ly,LC,LC,ih vs (by simpa using hl)]
def zip_map(ks:List Key)(vs:v9)(x:Key)(v:V):(ks.zip vs).map (λkv=>if kv.1=x then (kv.1,v) else kv)=ks.zip (List.zipWith (λk t=>if k=x then v else t) ks vs):=by
 induction ks generalizing vs with
 |nil=>rfl
 |cons k ks ih=>
  cases vs with
  |nil=>rfl
  |cons u vs=>simp only[Ly,gU,ZU];rw[ih vs];by_cases e:k=x;rw[ε e,ε e];rw[ζ e,ζ e]
def HW(ks:List Key)(vs:v9)(x:Key)(v:V)(hl:ks.length=vs.length):L2.putK (ks.zip vs) x v=(gA ks x).zip (cH ks vs x v)/\(gA ks x).length=(cH ks vs x v).length:=by unfold L2.putK gA cH;rw[MQ ks vs x hl];by_cases e:yb ks x=true;rw[ε e,ε e,ε e];exact⟨zip_map ks vs x v,by simp[hl]⟩;rw[ζ e,ζ e,ζ e];refine⟨?_,by simp[hl]⟩;rw[List.zip_append hl];rfl
def yd{A:υ}{ts:ο}{x:Key}{t:T}(h:aA K H A ts vs)(ht:At K H A t v):aA K H A (cH ks ts x t) (cH ks vs x v):=by
 unfold cH;by_cases e:yb ks x=true;rw[ε e,ε e];clear e;induction ks generalizing ts vs with
 |nil=>simp only[List.zipWith_nil_left];exact aA.nil
 |cons k ks ih=>
  cases ts with
  |nil=>simp only[aA] at h;subst h;simp only[List.zipWith_nil_right];exact aA.nil
  |cons t0 ts=>simp only[aA] at h;obtain⟨v0,r,rfl,h1,h2⟩:=h;simp only[ZU];refine aA.cons ?_ (ih h2);by_cases q:k=x;rw[ε q,ε q];exact ht;rw[ζ q,ζ q];exact h1
 rw[ζ e,ζ e];exact h.append (aA.cons ht aA.nil)
section
variable{a b:Expr}{fc:FE}
def X5:FP:=λ_ Q=>Q (.fr (.dk [] []))
def CU:VP X Z (.Dict [] [] pos) X5:=.mk λtm=>PE.weak x_ λσ H Q ⟨ρ,O,q,I,hf,k⟩ p hp=>
 k _ hf _ _ (aH hp) (I.newD (ks:=[]) (ts:=[]) (vs:=[]) hp rfl aA.nil)
noncomputable def X6(fa fb:FE):FP:=λρ Q=>fa ρ λx=>fb ρ λy=>match x,ya y with
 |.dk ks ts,some k=>∃t,dB ks ts k=some t/\Q (.vw t)
 |_,_=>False
def SQ(hu:X.A.units+1<cLine)(ha:VR X Z a fa)(hb:VR X Z b fb)(hs:MK b:=by intro _ _;rfl):VP X Z (.Subscript a b pos) (X6 fa fb):=.mk λtm=>PE.weak (MM hu (ha tm) (hb tm) hs) λσ H Q ⟨ρ,O,q,I,hf,k⟩ =>
 ⟨ρ,O,_,I,hf,λx hx v H1 s1 a1=>⟨ρ,O,_,I.same s1,hx,λy hy w H2 s2 a2=>by
  split at hy
  rename_i ks ts kk e
  obtain⟨t,e1,hq⟩:=hy;obtain⟨l,vs,rfl,hl,hd,hv⟩:=(a1.same s2).dk;obtain⟨u,e2,e3⟩:=(g9 hv).1 t e1;rw[ke a2 e];exact⟨l,u,rfl,by rw[<- e2,<- fO];exact vE.k hd,k _ hq _ H2 (s1.trans s2) ⟨(I.same s1).same s2,e3⟩⟩;exact hy.elim⟩⟩
noncomputable def adB(fa fb fc:FE):FP:=λρ Q=>fa ρ λx=>match x with
 |.dk ks ts=>fb ρ λy=>fc ρ λz=>match ya y with
  |some k=>Q (.vw ((dB ks ts k).getD z))
  |none=>False
 |_=>False
def CV{A:υ}{ts:ο}{k:Key}{z:T}{w:V}(h:aA K H A ts vs)(hz:At K H A z w):At K H A ((dB ks ts k).getD z) ((dB ks vs k).getD w):=by
 cases e:dB ks ts k with
 |none=>rw[(g9 h).2 e];exact hz
 |some t=>obtain⟨v,e1,e2⟩:=(g9 h).1 t e;rw[e1];exact e2
def A3(hu:X.A.units+1<cLine)(ha:VR X Z a fa)(hb:VR X Z b fb)(hc:VE X Z c fc)(m:M2 X a "get" apos b c bj):VP X Z (.Call (.Attribute a "get" apos) [b,c] [] bj) (adB fa fb fc):=.mk λtm=>PE.weak (HV hu (ha tm) (hb tm) (hc tm) m) λσ H Q ⟨ρ,O,q,I,hf,k⟩ =>
 ⟨ρ,O,_,I,hf,λx hx v H1 s1 a1=>by
  split at hx
  rename_i ks ts
  obtain⟨l,vs,rfl,hl,hd,hv⟩:=a1.dk;refine⟨l,rfl,.inl ⟨_,.inl hd⟩,ρ,O,_,I.same s1,hx,λy hy w H2 s2 a2=>⟨ρ,O,_,(I.same s1).same s2,hy,λz hz u H3 s3 a3=>?_⟩⟩;split at hz
  rename_i kk e
  rw[ke a2 e];refine⟨_,vE.k (s3 _ _ (s2 _ _ hd)),?_⟩;rw[fO];exact k _ hz _ H3 ((s1.trans s2).trans s3) ⟨((I.same s1).same s2).same s3,CV ((hv.same s2).same s3) a3⟩;exact hz.elim;exact hx.elim⟩
noncomputable def PU(n:Nat)(f fi:FE):FS:=λd ρ=>match ρ[n]? with
 |some (some (.dk ks ts,true))=>f ρ λv=>fi ρ λi=>match ya i with
  |some k=>ts.length<16777216/\d.nx (ρ.set n (some (.dk (gA ks k) (cH ks ts k v),true)))
  |none=>False
 |_=>False
def CW(n:Nat){f fi:FE}{i:Expr}(hu:X.A.units+1<cLine)(he:VE X Z e f)(hi:VR X Z i fi)(hN:X.N[n]?=some x:=by rfl)(hv:kH X.env.scope x:=by exact jvv rfl)(hd:iq x:=by decide)(gm:uL x:=by decide)(hs:swapsWith e (some (.Subscript (.Name x p) i fW)) pos.line X.env=pure false:=by rfl) :
  VS X Z (.Assign [.Subscript (.Name x p) i fW] e pos) (PU n f fi):=.mk λtm=>
 PS.weak (CT hu (cf hN hv hd gm) (hi tm) (he tm) hs) λD σ H ⟨ρ,O,d,I,q,F⟩=>by
  unfold PU at q;split at q
  rename_i ks ts e0
  obtain⟨l,h1,h2,xs,hl,h3,h4⟩:=I.root e0;have ha:l∈av Z O:=cW _ (aN.mpr (gM h1));refine⟨ρ,O,_,I,q,λt ht v H1 s1 a1=>⟨.ref l,h2,ρ,O,_,I.same s1,ht,λj hj w H2 s2 a2=>?_⟩⟩;split at hj
  rename_i kk ek
  obtain⟨hlen,hj⟩:=hj;have h3':=s2 _ _ (s1 _ _ h3);have q:=HW ks xs kk v hl;have hz:(ks.zip xs).length<sizeLine:=by rw[ξ,Q1,hl,Pf,h4.length];omega
  rw[ke a2 ek];refine⟨l,_,rfl,EA.k h3' hz,?_⟩;rw[q.1];refine F.nx O _ σ _ (((I.same s1).same s2).wrote (t':=.dk (gA ks kk) (cH ks ts kk t)) e0 h1 ⟨cH ks xs kk v,q.2,aG,?_⟩) hj;exact aA.wrote ha h3' rfl (yd ((h4.same s1).same s2) (a1.same s2));exact hj.elim;exact q.elim
end
section
variable{a b:Expr}
def PV(ts:ο)(q:qam):Prop:=match ts with
 |[.dk ks vs]=>q (.vw (.int (vs.length:Int)))
 |_=>False
def A4:kN K (λxs H Q=>∃a aQ,xs=[V.ref a]/\H a=some (.dK aQ)/\Q (.int aQ.length) H) PV:=by intro Z tm O ρ σ H ts vs q Q I h hp k;unfold PV at hp;split at hp;obtain⟨v,rfl,a⟩:=dz h;obtain⟨l,ws,rfl,hl,hd,hv⟩:=a.dk;refine⟨l,_,rfl,hd,?_⟩;rw[Q1,hl,Pf,hv.length];exact k _ hp _ H (aV.refl H) ⟨I,bC⟩;exact hp.elim
end
end VT
namespace RV
open PySem PySem.Spec PyProof.Rows
section
variable{s:Shared}{R:Result->Shared->Prop}
variable{I:Addr}{wr:υ}{G:Array GenState->Array GenState->Prop}{P:Nat->Value->Prop}{St:Nat->Shared->Prop}
end
section
variable{s:Shared}
variable{I:Addr}{wr:υ}{G:Array GenState->Array GenState->Prop}{P:Nat->Value->Prop}{St:Nat->Shared->Prop}
end
end RV
namespace VT
open PySem PySem.Spec PyProof.Rows L2
def o4(h:n+101<cLine):n+1<cLine:=by omega
section
variable{ek ev:Expr}{fk fv:FE}
noncomputable def fD1(fk fv:FE):FP:=λρ Q=>fk ρ λx=>fv ρ λy=>match ya x with
 |some k=>bZ y=true/\Q (.fr (.dk [k] [y]))
 |none=>False
def X7(hk:VR X Z ek fk)(hv:VE X Z ev fv):VP X Z (.Dict [some ek] [ev] pos) (fD1 fk fv):=.mk λtm=>
 PE.weak (MP (HU (hk tm) (hv tm) MO) rfl rfl (by simp) (by simp)) λσ H Q ⟨ρ,O,q,I,hf,k⟩ p hp=>by
  have s0:aV H (upd H p (.dK [])):=aH hp;obtain⟨a,ea,I0,R0,n3,n2⟩:=I.newD (ks:=[]) (ts:=[]) (vs:=[]) hp rfl aA.nil;cases ea;refine⟨ρ,O,_,I.same s0,hf,λx hx v H1 s1 a1=>⟨ρ,O,_,(I.same s0).same s1,hx,λy hy w H2 s2 a2=>?_⟩⟩;split at hy
  rename_i kk ek
  obtain⟨hi,hq⟩:=hy;have SI:H2 p=some (.dK []):=s2 _ _ (s1 _ _ aG);refine⟨SI,[(kk,w)],by rw[ke a1 ek];rfl,by simp,?_⟩;have e:ot [] [(kk,w)]=[(kk,w)]:=rfl;rw[e];refine k _ hq _ _ (λb o hb=>?_) ⟨p,rfl,((I0.same s1).same s2).Hn SI rfl n3,⟨[w],rfl,aG,?_⟩,n3,n2⟩;have gc:b≠p:=λe=>by subst e;rw[hp] at hb;cases hb
  rw[aB gc];exact s2 _ _ (s1 _ _ (s0 _ _ hb));refine aA.cons (At.wrote (u:=.dK []) ?_ SI rfl (a2.bZ hi)) aA.nil;exact cb _ dD;exact hy.elim
end
def PX(w:World)(K:Γ)(e:DictEntry)(p:Str×T):Prop:=e.hash=PyData.keyHash w.params p.1/\(∃t,e.key=.str p.1 t)/\∃v,RelV v e.val/\∀H A,At K H A p.2 v
def qT(w:World)(K:Γ)(a:Addr)(l:List (Str×T)):Prop:=∃es ep,K.lookup a=some ⟨.type "dict",none,.dict es ep,#[]⟩/\(a==sysModules)=false/\Paired (PX w K) es.toList l/\(l.map (·.1)).Nodup
theorem ents{P:Program}{w:World}{K:Γ}:∀{es:List DictEntry}{l:List (Str×T)},Paired (PX w K) es l ->
  ∃(vs:v9)(us:List (Key×Value)),(∀H A,aA K H A (l.map (·.2)) vs)/\KV ((l.map λp=>(Sum.inr p.1:Key)).zip vs) us/\PySem.Pairs (aT P w) es us/\us.map (·.1)=l.map (λp=>(Sum.inr p.1:Key))/\∀e∈es,∃k,(aT P w).is k e.key=true/\e.hash=(aT P w).hash k
 |_,_,.nil=>⟨[],[],λ_ _=>aA.nil,.nil,.nil,rfl,λ_ h=>nomatch h⟩
 |_,_,.cons (a:=e) (b:=p) r t=>by
   obtain⟨vs,us,h1,h2,h3,h4,h5⟩:=ents (P:=P) t;obtain⟨r1,⟨tk,r2⟩,v,r3,r4⟩:=r;have hk:(aT P w).is (Sum.inr p.1) e.key=true:=by rw[r2];show Value.isStrOf p.1 (.str p.1 tk)=true;simp[Value.isStrOf]
   refine⟨v::vs,(Sum.inr p.1,e.val)::us,λH A=>aA.cons (r4 H A) (h1 H A),.cons ⟨rfl,r3⟩ h2,.cons hk rfl h3,by rw[gU,gU,h4],λe' he=>?_⟩;rcases c0.mp he with q|q
   subst q;exact⟨Sum.inr p.1,hk,r1⟩;exact h5 e' q
def qT.of{s:Shared}{l:List (Str×T)}(I:Inv X γ σ H s)(d:qT X.w X.K a l) :
  ∃(vs:v9)(us:List (Key×Value)),(∀H A,aA X.K H A (l.map (·.2)) vs)/\KV ((l.map λp=>(Sum.inr p.1:Key)).zip vs) us/\s.heap.DictOf (aT X.prog X.w) a us/\(a==sysModules)=false:=by
 obtain⟨es,ep,lk,hs,hp,nd⟩:=d;obtain⟨vs,us,h1,h2,h3,h4,h5⟩:=ents (P:=X.prog) hp;refine⟨vs,us,h1,h2,⟨_,es,ep,I.sM a _ lk,⟨rfl,rfl,rfl⟩,rfl,λe he=>h5 e (by simpa using he),h3,?_⟩,hs⟩;rw[h4];have e:(l.map λp=>(Sum.inr p.1:Key))=(l.map (·.1)).map Sum.inr:=by rw[Lh];rfl
 rw[e];exact List.Pairwise.map _ (λa b h z=>h (Sum.inr.inj z)) nd
section
variable{fc:FE}{l:List (Str×T)}
noncomputable def A5(l:List (Str×T))(k:Str):Option T:=dB (l.map λp=>(Sum.inr p.1:Key)) (l.map (·.2)) (Sum.inr k)
def onStr(t:T)(f:Str->Prop):Prop:=match t with
 |.str k=>f k
 |_=>False
def yf{t:T}{f:Str->Prop}(h:onStr t f):∃k,t=.str k/\f k:=by unfold onStr at h;split at h;exact⟨_,rfl,h⟩;exact h.elim
noncomputable def adC(l:List (Str×T))(fe fc:FE):FP:=λρ Q=>fe ρ λy=>fc ρ λz=>onStr y λk=>Q (.vw ((A5 l k).getD z))
def HX(hg:Gl X x)(hm:X.mg x=some (.ref a))(d:qT X.w X.K a l)(he:VR X Z e fe)(hc:VE X Z c fc)(m:M2 X (.Name x p) "get" apos e c bj)(hd:iq x:=by decide) :
  VP X Z (.Call (.Attribute (.Name x p) "get" apos) [e,c] [] bj) (adC l fe fc):=.mk λtm γ s σ H Q I ⟨ρ,O,q,E,hf,k⟩=>by
 refine wpAny_Call_method m.base m.few m.line Wj O_ PySem.F.type_dict_get (ck (uP hg hm (v:=.ref a) rfl hd γ s σ H (λv H'=>v=.ref a/\H'=H) I ⟨rfl,rfl⟩) λu s1 ⟨x',H1,I1,rx,ex,eH⟩=>?_);subst ex eH;obtain rfl:u=Value.ref a:=rx;obtain⟨vs,us,h1,h2,dd,hs⟩:=d.of I1;refine⟨dd.typeIs,λb q=>?_,?_⟩;cases q;obtain⟨ob,_,_,z1,z2,_⟩:=dd;exact⟨ob,z1,z2.2.1⟩;rw[m.trees];refine Wm rfl (ZV (QU (ck (he tm γ s1 σ H1 (λy H2=>∃t,jo X.K H2 (av Z O) t y/\aV H1 H2/\fc ρ λz=>onStr t λk=>q (.vw ((A5 l k).getD z))) I1 ⟨ρ,O,_,E,hf,λt ht v H' s a1=>⟨t,a1,s,ht⟩⟩) λiv s2 ⟨y,H2,I2,ry,t,a1,sa,q2⟩ =>
  QU (ck (hc tm γ s2 σ H2 (λz H3=>∃tz,At X.K H3 (av Z O) tz z/\aV H2 H3/\onStr t λk=>q (.vw ((A5 l k).getD tz))) I2 ⟨ρ,O,_,E.same sa,q2,λtz htz v H' s a2=>⟨tz,a2,s,htz⟩⟩) λfv s3 ⟨z,H3,I3,rz,tz,a2,sb,q3⟩=>Calls.spliced_nil ?_))))
 obtain⟨kk,et,q3⟩:=yf q3;subst et;obtain⟨jB,SR,Ht,Hu,z8,hs'⟩:=d.of I3;have ey:=a1.str;subst ey;refine aae O_ z8.typeIs Wo (Wi _ _ _) (meets_dict_get_default (aT X.prog X.w) a (mJ (k:=Sum.inr kk) ry) hs' fv) ⟨_,z8.mapOf,⟨_,H3,I3.tok _,(Hu.val (Sum.inr kk)).getD rz,?_⟩⟩;rw[fO];exact k _ q3 _ H3 (sa.trans sb) ⟨(E.same sa).same sb,CV (Ht H3 (av Z O)) a2⟩
end
section
theorem mM:∀{us:Ψ}{zs:qan},IntsAre us zs->Vals (zs.map V.int) us
 |_,_,.nil=>.nil
 |_,_,.cons x t h=>.cons ⟨t,rfl⟩ (mM h)
end
section
variable{A:υ}
theorem yg:∀zs:qan,aA K H A (zs.map T.int) (zs.map V.int)
 |[]=>aA.nil
 |z::zs=>aA.cons bC (yg zs)
end
abbrev FPs:=En->(List (Key×T)->Prop)->Prop
section
theorem MT:RJ X "dict.setdefault" (λx xs H Q=>∃(a:Addr)(aQ:List (Key×V))(k:Key)(v:V),x=.ref a/\xs=[kV k,v]/\H a=some (.dK aQ)/\aQ.length<sizeLine /\
  (∀u,jF aQ k=some u->Q u H)/\(jF aQ k=none->Q v (upd H a (.dK (L2.putK aQ k v))))):=by
 intro γ s σ H x xs v us Q I rx rs h;obtain⟨a,aQ,k,y,rfl,rfl,ha,hsz,q1,q2⟩:=h;cases rx;obtain⟨u1,u2,rfl,ru1,ru2⟩:∃u1 u2,us=[u1,u2]/\RelV (kV k) u1/\RelV y u2:=by
  cases rs with
  |cons r1 t=>cases t with
    |cons r2 t2=>cases t2;exact⟨_,_,rfl,r1,r2⟩
 obtain⟨z,hd,vs,rel,dd⟩:=ug I.cm ha;refine aae PySem.F.slot_dict_setdefault dd.typeIs PySem.F.entry_dict_setdefault (PySem.F.args_dict_setdefault_3 _ _ _) (kt_meets_setdefault (aT X.prog X.w) a (mJ ru1) hd u2) ⟨vs,dd,by rw[<- rel.length];omega,λv0 hv=>?_,λhn h' z8 hs=>?_⟩;have GR:=rel.val k;rw[hv] at GR;cases e:jF aQ k with
 |none=>rw[e] at GR;cases GR
 |some w0=>rw[e] at GR;have hr:RelV w0 v0:=GR;exact⟨w0,H,I.tok _,hr,q1 w0 e⟩
 have GR:=rel.val k;rw[hn] at GR;cases e:jF aQ k with
 |some w0=>rw[e] at GR;cases GR
 |none=>
   have he:∃q,h'.get? a=some q:=let ⟨q,_,_,hq,_⟩:=z8;⟨q,hq⟩;have hl:(L2.putK aQ k y).length<=sizeLine:=by have:=gZ aQ k y;omega
   exact⟨y,_,mK (t':=s.toks+1) I (by rw[ha];exact True.intro) hs he (A0 hl hd (rel.put k ru2) z8),ru2,q2 e⟩
end
section
variable{e1 e2:Expr}{f1 f2:FE}
noncomputable def PY(n:Nat)(f1 f2:FE):FX:=λρ Q=>match ρ[n]? with
 |some (some (.dk ks ts,true))=>f1 ρ λx=>f2 ρ λy=>match ya x with
  |some k=>ts.length<16777216/\match dB ks ts k with
   |some t=>Q ρ (.vw t)
   |none=>Q (ρ.set n (some (.dk (ks++[k]) (ts++[y]),true))) (.vw y)
  |none=>False
 |_=>False
def MV(n:Nat)(h1:VE X Z e1 f1)(h2:VE X Z e2 f2)(hN:X.N[n]?=some x:=by rfl)(hv:kH X.env.scope x:=by exact jvv rfl)(hd:iq x:=by decide)(gm:uL x:=by decide)(eU:attributeBase (.Name x p) "setdefault" X.env (eval (.Name x p) X.env)=eval (.Name x p) X.env:=by rfl)(qo:((backTo bj (starEach [e1,e2] X.env)).all (λx=>!x.1) && (backToKw bj (keywordEach [] X.env)).all (λx=>x.1.isSome)
    && decide (([e1,e2]:qap).length+([]:List Keyword).length+(if ([]:List Keyword).isEmpty then 0 else 1)<30))=true:=by rfl)(eV:(apos.endLine==bj.line)=true:=by rfl)(hs:starEach [e1,e2] X.env=(false,eval e1 X.env)::starEach [e2] X.env:=by rfl)(Vv:starEach [e2] X.env=(false,eval e2 X.env)::starEach [] X.env:=by rfl)(gp:(backTo bj (starEach [e2] X.env)).any (·.1)=false:=by rfl) :
  VX X Z (.Call (.Attribute (.Name x p) "setdefault" apos) [e1,e2] [] bj) (PY n f1 f2):=.mk λtm=>
 PE.weak (xH Wj PySem.F.slot_dict_setdefault PySem.F.type_dict_setdefault MT (cf hN hv hd gm) (bO (h1 tm) (bO (h2 tm) dy Vv) hs) eU qo eV hs gp) λσ H Q ⟨ρ,O,q,I,hf,kk⟩=>by
  unfold PY at hf;split at hf
  rename_i ks ts e0
  obtain⟨l,g1,g2,xs,hl,g3,g4⟩:=I.root e0;have ha:l∈av Z O:=cW _ (aN.mpr (gM g1));refine⟨.ref l,g2,.inr (.inr (.inl ⟨rfl,.inl ⟨_,g3⟩⟩)),ρ,O,_,I,hf,λt ht v H1 s1 a1=>⟨ρ,O,_,I.same s1,ht,λy hy w H2 s2 a2=>?_⟩⟩;split at hy
  rename_i VH ek
  obtain⟨hlen,hy⟩:=hy;have ev:v=kV VH:=ke (.inl a1) ek;subst ev;have hz:(ks.zip xs).length<sizeLine:=by rw[ξ,Q1,hl,Pf,g4.length];omega
  have J:=(I.same s1).same s2;have b4:=(g4.same s1).same s2;refine⟨l,ks.zip xs,VH,w,rfl,rfl,s2 _ _ (s1 _ _ g3),hz,λu hu=>?_,λhn=>?_⟩;rw[fO] at hu;cases eg:dB ks ts VH with
  |none=>rw[(g9 b4).2 eg] at hu;cases hu
  |some t0=>rw[eg] at hy;obtain⟨v0,e1,e2⟩:=(g9 b4).1 t0 eg;rw[e1] at hu;cases hu;exact kk _ _ hy O _ _ ⟨J,e2⟩
  rw[fO] at hn;cases eg:dB ks ts VH with
  |some t0=>obtain⟨v0,e1,e2⟩:=(g9 b4).1 t0 eg;rw[e1] at hn;cases hn
  |none=>
    rw[eg] at hy;have e1:L2.putK (ks.zip xs) VH w=(ks++[VH]).zip (xs++[w]):=by rw[HS _ (by rw[fO];exact hn),List.zip_append hl];rfl
    rw[e1];refine kk _ _ hy O _ _ ⟨J.wrote e0 g1 ⟨xs++[w],by simp[hl],aG,?_⟩,a2.wrote ha (s2 _ _ (s1 _ _ g3)) rfl⟩;exact (b4.append (aA.cons a2 aA.nil)).wrote ha (s2 _ _ (s1 _ _ g3)) rfl
  exact hy.elim;exact hf.elim
end
noncomputable def qU{α:Type}(f:Str):ν->List α->Option α
 |n::ns,t::ts=>match f==n with
  |true=>some t
  |false=>qU f ns ts
 |_,_=>none
noncomputable def EF(f:Str):ν->ν
 |[]=>[f]
 |n::ns=>if n=f then n::ns else n::EF f ns
noncomputable def pJ{α:Type}(f:Str)(u:α):ν->List α->List α
 |n::ns,t::ts=>if n=f then u::ts else t::pJ f u ns ts
 |_,_=>[u]
theorem qV(f:Str):∀(ns:ν)(vs:v9),(ns.zip vs).lookup f=qU f ns vs
 |[],vs=>by cases vs<;>rfl
 |n::ns,[]=>rfl
 |n::ns,v::vs=>by
  rw[Ly,Ld];unfold qU;cases f==n with
  |true=>rfl
  |false=>exact qV f ns vs
theorem yh(f:Str)(y:V):∀(ns:ν)(vs:v9),ns.length=vs.length->eA f y (ns.zip vs)=(EF f ns).zip (pJ f y ns vs)/\(EF f ns).length=(pJ f y ns vs).length
 |[],[],_=>⟨rfl,rfl⟩
 |[],v::vs,h=>by simp at h
 |n::ns,[],h=>by simp at h
 |n::ns,v::vs,h=>by have ih:=yh f y ns vs (by simpa using h);rw[Ly];show (if n=f then (n,y)::ns.zip vs else (n,v)::eA f y (ns.zip vs))=_/\_;unfold EF pJ;by_cases e:n=f;rw[ε e,ε e,ε e];exact⟨rfl,by simpa using h⟩;rw[ζ e,ζ e,ζ e,ih.1];exact⟨rfl,by simp[ih.2]⟩
section
variable{A:υ}{f:Str}
theorem yi:∀{ns:ν}{ts:ο}{vs:v9}{t:T},aA K H A ts vs->qU f ns ts=some t->∃v,qU f ns vs=some v/\At K H A t v
 |[],ts,vs,t,_,e=>by cases ts<;>cases e
 |n::ns,[],vs,t,_,e=>by cases e
 |n::ns,t0::ts,vs,t,h,e=>by
  simp only[aA] at h;obtain⟨v,r,rfl,h1,h2⟩:=h;unfold qU at e ⊢;cases q:f==n with
  |true=>rw[q] at e;cases e;exact⟨v,rfl,h1⟩
  |false=>rw[q] at e;exact yi h2 e
theorem CY:∀{ns:ν}{ts:ο}{vs:v9}{t:T}{v:V},aA K H A ts vs->At K H A t v->aA K H A (pJ f t ns ts) (pJ f v ns vs)
 |[],ts,vs,t,v,_,q=>by
  have e1:pJ f t [] ts=[t]:=by cases ts<;>rfl
  have e2:pJ f v [] vs=[v]:=by cases vs<;>rfl
  rw[e1,e2];exact aA.cons q aA.nil
 |n::ns,[],vs,t,v,h,q=>by simp only[aA] at h;subst h;exact aA.cons q aA.nil
 |n::ns,t0::ts,vs,t,v,h,q=>by simp only[aA] at h;obtain⟨v0,r,rfl,h1,h2⟩:=h;unfold pJ;by_cases e:n=f;rw[ε e,ε e];exact aA.cons q h2;rw[ζ e,ζ e];exact aA.cons h1 (CY h2 q)
end
section
variable{f:Str}
noncomputable def adD(C:Addr)(f:Str)(fe:FE):FP:=λρ Q=>fe ρ λt=>match t with
 |.ins C' ns ts=>C'=C/\∃u,qU f ns ts=some u/\Q (.vw u)
 |_=>False
def bf(cl:An X.K C)(na:bD X.K C f)(h:VR X Z e fe)(hb:attributeBase e f X.env (eval e X.env)=eval e X.env:=by rfl):VP X Z (.Attribute e f pos) (adD C f fe):=.mk λtm=>
 PE.weak (Aq (h tm) hb) λσ H Q ⟨ρ,O,q,I,hf,k⟩=>⟨ρ,O,_,I,hf,λt ht v H1 s1 a1=>by
  split at ht
  rename_i C' ns ts
  obtain⟨rfl,u,e1,hq⟩:=ht;obtain⟨a,dx,vs,rfl,hl,hd,hv⟩:=a1.ins;obtain⟨w,e2,e3⟩:=yi hv e1;exact⟨a,_,dx,_,w,rfl,hd,cl,na,by rw[qV];exact e2,k _ hq _ H1 s1 ⟨I.same s1,e3⟩⟩;exact ht.elim⟩
noncomputable def A6(n:Nat)(C:Addr)(f:Str)(fe:FE):FS:=λd ρ=>match ρ[n]? with
 |some (some (.ins C' ns ts,true))=>C'=C/\fe ρ λv=>ts.length<1000/\d.nx (ρ.set n (some (.ins C' (EF f ns) (pJ f v ns ts),true)))
 |_=>False
def iY(n:Nat)(cl:An X.K C)(na:bD X.K C f)(he:VE X Z e fe)(hN:X.N[n]?=some x:=by rfl)(hv:kH X.env.scope x:=by exact jvv rfl)(hd:iq x:=by decide)(gm:uL x:=by decide)(hs:swapsWith e (some (.Attribute (.Name x p) f fW)) pos.line X.env=pure false:=by rfl) :
  VS X Z (.Assign [.Attribute (.Name x p) f fW] e pos) (A6 n C f fe):=.mk λtm=>
 PS.weak (gn (cf hN hv hd gm) (he tm) hs) λD σ H ⟨ρ,O,d,I,q,F⟩=>by
  unfold A6 at q;split at q
  rename_i C' ns ts e0
  obtain⟨rfl,q⟩:=q;obtain⟨l,h1,h2,dx,xs,hl,h3,h4⟩:=I.root e0;have ha:l∈av Z O:=cW _ (aN.mpr (gM h1));refine⟨ρ,O,_,I,q,λt ht v H1 s1 a1=>⟨.ref l,h2,l,_,dx,_,rfl,s1 _ _ h3,cl,na,?_,?_⟩⟩;rw[Q1,hl,Pf,h4.length];exact ht.1;have pz:=yh f v ns xs hl;rw[pz.1];refine F.nx O _ σ _ ((I.same s1).wrote (t':=.ins _ (EF f ns) (pJ f t ns ts)) e0 h1 ⟨dx,pJ f v ns xs,pz.2,aG,?_⟩) ht.2;exact aA.wrote ha (s1 _ _ h3) rfl (CY (h4.same s1) a1);exact q.elim
def PZ(K:Γ)(C:Addr)(n:Nat)(G:ο->(T->Prop)->Prop):Sp:=AS K (true::List.replicate n false) λts q=>match ts with
 |.ins C' [] []::us=>C'=C/\G us λu=>q [u] (.vw .aO)
 |_=>False
def CZ{G:ο->(T->Prop)->Prop}{tm:qab}{ts:ο}{q:qam}{Q:VK}(I:ay X.K Z tm O ρ σ H)(a:aA X.K H (av Z O) ts vs)(hn:ts.length=n)(hG:G ts λu=>q (.fr u))(k:∀r,q r->∀v H',aV H H'->iR X.K Z tm O ρ σ H' r v->Q v H'):∀x dx,H x=none->H dx=none->dx≠x->PZ X.K C n G (.ref x::(vs++[])) (upd (upd H dx (.own x)) x (.ins C dx [])) (λv H2=>v=.aO/\Q (.ref x) H2) E0:=by
 intro x dx hx hdx gc;rw[DX];obtain⟨n1,n2,n3⟩:=I.fresh hx;have s0:aV H (upd (upd H dx (.own x)) x (.ins C dx [])):=λb o e=>by rw[aB (bB e hx),aB (bB e hdx)];exact e
 have a1:aA X.K (upd (upd H dx (.own x)) x (.ins C dx [])) ([x]++av Z O) ts vs:=(a.more λb hb=>by
  rcases cR.mp hb with z|z
  exact .inr (by rw[hX.mp z];exact hx);exact .inl z).same s0
 refine⟨.ins C [] []::ts,[x],av Z O,λus r=>r=.vw .aO/\∃u,us=[u]/\q (.fr u),by simp,λb hb=>by rw[hX.mp hb];exact n1,λb hb=>?_,⟨x,[],_,ts,vs,rfl,rfl,rfl,⟨dx,[],rfl,aG,aA.nil⟩,iX hn a1⟩,⟨rfl,?_⟩,λus r hr v H' fr z=>?_⟩;cases e:H b with
 |none=>exact absurd e (I.z7 b hb)
 |some o=>rw[s0 _ _ e];simp
 have w:(λu=>q (.fr u))=λu=>((.vw .aO:Rt)=.vw .aO/\∃u',[u]=[u']/\q (.fr u')):=by funext u;exact propext ⟨λh=>⟨rfl,u,rfl,h⟩,λ⟨_,u',e,h⟩=>by cases e;exact h⟩
 rw[<- w];exact hG;obtain⟨rfl,u,rfl,hq⟩:=hr;obtain⟨z1,z2⟩:=z;simp only[At] at z1;refine⟨z1,?_⟩;cases z2 with
 |cons r _=>
  have s:aV H H':=λb o e=>fr b o (s0 b o e) (by rw[hX];exact bB e hx);obtain⟨o,eo,_⟩:=r.mut;refine k _ hq _ H' s ⟨x,rfl,I.PJ hx s eo,r.bz λc hc=>?_,n3,n2⟩;rcases dQ c hc with z|z
  exact cb _ z;rw[z];exact cW _ dD
end
structure Dc(K:Γ)(mg:qae)(cls qual:Str)(st:Stmt)(ps:ν)(C f:Addr)(fd:FuncData):Prop where
 F:Cu K "__init__" qual st f fd
 m:mg cls=some (.ref C)
 b:Binds K fd ps []
 M:Mk K C f
def HY(P:Program)(w:World)(K:Γ)(mg:qae)(base:Heap)(cls:Str)(C:Addr)(ps:ν)(k n:Nat)(G:ο->(T->Prop)->Prop):Prop :=
 ∃f fd,Mk K C f/\mg cls=some (.ref C)/\Binds K fd ps []/\cD P w K mg base eQ k f fd ps (PZ K C n G)
section
def Dc.fU{cls:Str}{st:Stmt}{k:Nat}{G:ο->(T->Prop)->Prop}(D:Dc K mg cls qual st ps C f fd)(F:cD P w K mg base eQ k f fd ps (PZ K C n G)):HY P w K mg base cls C ps k n G :=
 ⟨f,fd,D.M,D.m,D.b,F⟩
def fnI{st:Stmt}{N:ν}{k:Nat}{G:ο->(T->Prop)->Prop}(F:Cu K x qual st f fd)(S:az N ps (ai st))(hn:n+1=ps.length)(dF:∀(bF:Value) (A:Around) (outer:List Env) (s:Shared) (H:Hp) (E:XK) (as Ox:υ),bG k (A.deeper (envOfC qual (ai st) s.heap.objs.size f bF))->∀(us:ο) (q:ο->qam),us.length=n->G us (λu=>q [u] (.vw .aO)) ->
    ∃g,j' (fN eQ P w K mg base N qual (ai st) f bF A outer s H E).pA ⟨H,pz (true::List.replicate n false) as 0,Ox⟩ (bE st) g /\
     g {nx:=λρ=>q (k6 (true::List.replicate n false) ρ) (.vw .aO),rt:=λρ r=>q (k6 (true::List.replicate n false) ρ) r} (some (.ins C [] [],true)::vh (List.replicate n false) us++List.replicate (N.length-(us.length+1)) none)) :
  cD P w K mg base eQ (k+1) f fd ps (PZ K C n G) :=
 fnV F S (by rw[<- hn];simp) λbF A outer s H E as Ox hr ts q hl hG=>by
  cases ts with
  |nil=>exact hG.elim
  |cons t us=>cases t with
    |ins C' ns vs=>cases ns with
      |nil=>cases vs with
        |nil=>obtain⟨e,hG'⟩:=hG;subst e;exact dF bF A outer s H E as Ox hr us q (by simpa using hl) hG'
        |cons _ _=>exact hG.elim
      |cons _ _=>exact hG.elim
    |_=>exact hG.elim
end
def C0(a d:Addr):HO:=.ext λh=>h.get? a=some {cls:=.type "dict_values",data:=.fields #[.ref d]}
theorem yj(val:Nat->Int):∀k,∃j≤k,argBest (λi j=>decide (val i<val j)) k=j/\∀i≤k,val j<=val i
 |0=>⟨0,c9 _,rfl,λi hi=>by rw[Nat.le_zero.mp hi];exact Int.le_refl _⟩
 |k+1=>by
  obtain⟨j,hj,e,h⟩:=yj val k;unfold argBest;rw[e];by_cases q:val (k+1)<val j;rw[ε (μ q)];refine⟨k+1,c9 _,rfl,λi hi=>?_⟩;rcases Nat.lt_or_eq_of_le hi with l|l
  exact Int.le_trans (Int.le_of_lt q) (h i (Nat.le_of_lt_succ l));rw[l];exact Int.le_refl _;rw[ζ (by rw[aaj];exact q)];refine⟨j,Nat.le_succ_of_le hj,rfl,λi hi=>?_⟩;rcases Nat.lt_or_eq_of_le hi with l|l
  exact h i (Nat.le_of_lt_succ l);rw[l];exact Int.not_lt.mp q
section
def EG:RJ X "dict.values" (λx xs H Q=>∃(d:Addr)(aQ:List (Key×V)),x=.ref d/\xs=[]/\H d=some (.dK aQ)/\∀a,H a=none->Q (.ref a) (upd H a (C0 a d))):=by intro γ s σ H x xs v us Q I rx rs h;obtain⟨d,aQ,rfl,rfl,hd,q⟩:=h;cases rx;cases rs;obtain⟨z,hs,vs,rel,dd⟩:=ug I.cm hd;refine aae PySem.F.slot_dict_values dd.typeIs PySem.F.entry_dict_values (PySem.F.args_dict_values_1 _) (meets_dict_values (aT X.prog X.w) d hs) ⟨⟨vs,dd⟩,?_⟩;refine⟨.ref s.heap.objs.size,_,I.laid (a:=s.heap.objs.size) (t':=s.toks) (λb o e=>jn _ e) (c9 _) ?_,rfl,q _ I.fresh⟩;exact⟨ph _ rfl,⟨_,ph _ rfl⟩,λh1 h2 z k=>k _ z⟩
def vF(hc:X.calm=true):d_ X (.builtin "min") (λxs H Q=>∃(a d:Addr)(aQ:List (Key×V))(is:qan),xs=[.ref a]/\H a=some (C0 a d)/\H d=some (.dK aQ)/\aQ.map (·.2)=is.map V.int/\is≠[]/\∀m,m∈is->(∀i∈is,m<=i)->Q (.int m) H):=by
 intro γ s σ H xs us Q I r h;obtain⟨a,d,aQ,is,rfl,ha,hd,hv,gc,q⟩:=h;obtain⟨u,rfl,ru⟩:=vals1 r;cases ru;obtain⟨z,hs,vs,rel,dd⟩:=ug I.cm hd;obtain⟨hA,_,_⟩:=(show cS X.prog X.w H s.heap a (C0 a d) from I.cm a _ ha);obtain⟨ep,da⟩:=dd.dictAt;have hh:X.A.in1.handled=none:=by simp[I.ok.hd hc]
 have hlen:vs.length=is.length:=by have:=ψ List.length hv;rw[cu,cu] at this;rw[<- rel.length];exact this
 have X8:∀(i:Nat)(v:Value),(∃k,vs[i]?=some (k,v))->∃t,v=.int (is.getD i 0) t:=by
  intro i v ⟨k,e⟩;have hi:i<vs.length:=(eE.mp e).1;have hi2:i<aQ.length:=by rw[rel.length];exact hi
  have e1:aQ[i]?=some aQ[i]:=by simp[hi2]
  have key:∀{l₁:List (Key×V)}{l₂:List (Key×Value)}{i:Nat}{p:Key×V}{q:Key×Value},KV l₁ l₂->l₁[i]?=some p->l₂[i]?=some q->RelV p.2 q.2:=by
   intro l₁ l₂ i p q h;unfold KV at h;induction h generalizing i with
   |nil=>intro e;simp at e
   |cons r t ih=>
    intro e e';cases i with
    |zero=>simp at e e';subst e;subst e';exact r.2
    |succ i=>exact ih (by simpa using e) (by simpa using e')
  have rr:=key rel e1 e;have e2:(aQ.map (·.2))[i]?=some aQ[i].2:=by rw[iz,e1];rfl
  rw[hv,iz] at e2;cases q2:is[i]? with
  |none=>rw[q2] at e2;cases e2
  |some m=>rw[q2] at e2;have e3:aQ[i].2=V.int m:=(Option.some.inj e2).symm;rw[e3] at rr;obtain⟨t,et⟩:=rr;exact⟨t,by rw[ZQ,q2];exact et⟩
 have SS:0<vs.length:=by rw[hlen];exact Pb.mpr gc
 refine call_min_walk (wpAny_pyIter_values ⟨_,hA,rfl,rfl⟩ da ?_);refine⟨_,_,_,_,_,_,_,rfl,Walks.dictValues hh _ d (j7 da.lt_size) vs ep,⟨⟨_,ph _ rfl,rfl,rfl⟩,da.push _⟩,λb hb=>?_,SS,CmpOf.ints_lt (λi=>is.getD i 0) X8,λv h' tk hP hk=>?_⟩;show b<(s.heap.push _).objs.size;rw[Q2];rcases c0.mp hb with rfl|hb
 exact Cc _;rw[hX.mp hb];exact Lb da.lt_size;obtain⟨j,hj,e,hm⟩:=yj (λi=>is.getD i 0) (vs.length-1);rw[e] at hP;obtain⟨t,rfl⟩:=X8 j v hP;have SU:j<is.length:=by omega
 refine⟨.int (is.getD j 0),H,I.kept (t':=tk) λb u eb=>hk b u (λz=>?_) (jn _ eb),⟨t,rfl⟩,q _ ?_ λi hi=>?_⟩;rw[hX.mp z] at eb;exact absurd (iw eb) (LB _);rw[ZQ,iy SU];exact Gw SU;obtain⟨n,hn⟩:=We.mp hi;have hnl:n<is.length:=(eE.mp hn).1;have:=hm n (by omega);have e5:is.getD n 0=i:=by rw[ZQ,hn];rfl
 rw[e5] at this;exact this
end
section
variable{a:Expr}{EE ye:Pos}
def X9(fa:FE):FP:=λρ Q=>fa ρ λx=>match x with
 |.dk ks ts=>∃is,ts=is.map T.int/\is≠[]/\∀m,m∈is->(∀i∈is,m<=i)->Q (.vw (.int m))
 |_=>False
def A7(hc:X.calm=true)(hgl:Gl X "min")(hml:X.mg "min"=none)(ha:VR X Z a fa)(eU:attributeBase a "values" X.env (eval a X.env)=eval a X.env:=by rfl)(eV:(apos.endLine==ye.line)=true:=by rfl)(he:starEach [.Call (.Attribute a "values" apos) [] [] ye] X.env=(false,eval (.Call (.Attribute a "values" apos) [] [] ye) X.env)::starEach [] X.env:=by rfl)(gO:(backTo EE (starEach [] X.env)).any (·.1)=false:=by rfl) :
  VP X Z (.Call (.Name "min" p1) [.Call (.Attribute a "values" apos) [] [] ye] [] EE) (X9 fa):=.mk λtm=>
 PE.weak (ql (vF hc) hgl hml XU (bO (AD Wj PySem.F.slot_dict_values PySem.F.type_dict_values EG (ha tm) eU eV) dy he) (by decide) (by decide) he gO) λσ H Q ⟨ρ,O,q,I,hf,k⟩ =>
  ⟨ρ,O,_,I,hf,λx hx v H1 s1 a1=>by
    split at hx
    rename_i ks ts
    obtain⟨is,rfl,gc,hq⟩:=hx;obtain⟨d,vs,rfl,hl,hd,hv⟩:=a1.dk;refine⟨.inr (.inr (.inl ⟨rfl,.inl ⟨_,hd⟩⟩)),d,_,rfl,rfl,hd,λb hb=>?_⟩;have sb:aV H1 (upd H1 b (C0 b d)):=aH hb;have ev:vs=is.map V.int:=by
     clear hq gc hl hd a1;induction is generalizing vs with
     |nil=>simpa only[Pe,aA] using hv
     |cons i is ih=>simp only[gU,aA,At] at hv;obtain⟨v,r,rfl,rfl,h2⟩:=hv;rw[ih r h2];rfl
    subst ev;refine⟨b,d,_,is,rfl,aG,sb _ _ hd,?_,gc,λm h1 h2=>k _ (hq m h1 h2) _ _ (s1.trans sb) ⟨(I.same s1).same sb,bC⟩⟩;rw[List.map_snd_zip];rw[hl];exact c9 _;exact hx.elim⟩
end
structure HZ(K:Γ)(H H':Hp)(Ox:υ)(us:ο)(p:Addr)(ls:υ):Prop where
 same:aV H H'
 tup:H' p=some (.tup (ls.map V.ref))
 nd:ls.Nodup
 new:∀a∈ls,H a=none
 rts:Paired (λa t=>c5 K H' (ls++Ox) a t) ls us
def X_(K:Γ)(n:Nat)(G:ο->(ο->Prop)->Prop):Sp:=λvs H Q _=>∃ts Ox q,(∀a∈Ox,H a≠none)/\aA K H Ox ts vs/\ts.length=n/\G ts q /\
 ∀us,q us->∀p ls H',HZ K H H' Ox us p ls->Q (.ref p) H'
structure adE(K:Γ)(Z:Zc)(tm:qab)(d:Gj)(dp:ο->Prop)(D:Ends):Prop where
 fin:Fin K Z tm d D
 dp:∀us,dp us->∀p ls H',HZ K Z.H0 H' Z.Ox us p ls->D.rt (.ref p) H'
abbrev SV:=Gj->(ο->Prop)->En->Prop
def lSD(X:Cx)(Z:Zc)(tm:qab)(g:SV):TS:=λD σ H=>∃ρ O d dp,ay X.K Z tm O ρ σ H/\g d dp ρ/\adE X.K Z tm d dp D
def H_(X:Cx)(Z:Zc)(st:qaq)(g:SV):Prop:=Bx λtm=>jf X st (lSD X Z tm g)
instance{X:Cx}{Z:Zc}{st:qaq}{g:SV}:CoeFun (H_ X Z st g) λ_=>∀tm,jf X st (lSD X Z tm g):=⟨λh=>Bx.h h⟩
noncomputable def MW(ρ:En):qao->Option (ο)
 |[]=>some []
 |i::is=>match ρ[i]?,MW ρ is with
  |some (some (t,true)),some ts=>some (t::ts)
  |_,_=>none
section
variable{st:Stmt}{rest:qaq}{g:FS}{u:SV}
def X'(g:FS)(u:SV):SV:=λd dp ρ=>g {d with nx:=u d dp} ρ
def iD(h1:VS X Z st g)(h2:H_ X Z rest u):H_ X Z (st::rest) (X' g u):=.mk λtm=>jf.ji (c4 (h1 tm) (h2 tm)) λD σ H ⟨ρ,O,d,dp,I,h,F⟩ =>
 ⟨ρ,O,{d with nx:=u d dp},I,h,⟨λO' ρ' σ' H' I' h'=>⟨ρ',O',d,dp,I',h',F⟩,F.fin.rt,F.fin.bk,F.fin.ct⟩⟩
noncomputable def vG(X:Cx):qap->qao->Prop
 |[],is=>is=[]
 |e::es,is=>∃x p i js,e=.Name x p/\is=i::js/\X.N[i]?=some x/\kH X.env.scope x/\(x==("__debug__":Str))=false/\(x==("__classdict__":Str))=false/\starEach (e::es) X.env=(false,eval e X.env)::starEach es X.env/\vG X es js
def Ya(is:qao):TA:=λσ H Q=>∃vs,Paired (λ(i:Nat) (v:V)=>σ[i]?=some (some v)) is vs/\Q vs H
theorem C1:∀{es:qap}{is:qao},vG X es is->PA X es (Ya is)
 |[],is,h=>λpos γ s σ H Q I ⟨vs,hv,q⟩=>by have e:is=[]:=h;subst e;cases hv;exact dy pos γ s σ H Q I q
 |e::es,is,h=>by
  obtain⟨x,p,i,js,rfl,rfl,h1,h2,h3,h4,h5,h6⟩:=h;exact PA.weak (bO (cf h1 h2 h3 h4) (C1 h6) h5) λσ H Q ⟨vs,hv,q⟩=>by
   cases hv with
   |cons r t=>exact⟨_,r,_,t,q⟩
theorem yk{K:Γ}{tm:qab}{O:HD}{ρ:En}{σ:St}{H:Hp}(I:ay K Z tm O ρ σ H):∀{is:qao}{ts:ο},MW ρ is=some ts ->
  ∃ls:υ,Paired (λ(i:Nat) (v:V)=>σ[i]?=some (some v)) is (ls.map V.ref)/\Paired (λ(i:Nat) (a:Addr)=>O[i]?=some (some a)) is ls/\Paired (λa t=>c5 K H (av Z O) a t) ls ts
 |[],ts,h=>by cases h;exact⟨[],.nil,.nil,.nil⟩
 |i::is,ts,h=>by
   simp only[MW] at h;split at h
   rename_i t us e1 e2
   cases h;obtain⟨a,h1,h2,h3⟩:=I.root e1;obtain⟨ls,g1,g2,g3⟩:=yk I e2;exact⟨a::ls,.cons h2 g1,.cons h1 g2,.cons h3 g3⟩;cases h
def ic{R:α->β->Prop}{l:List α}{m:List β}(h:Paired R l m){b:β}(hb:b∈m):∃a∈l,R a b:=by
 induction h with
 |nil=>cases hb
 |cons r t ih=>
  rcases c0.mp hb with e|hb
  subst e;exact⟨_,dD,r⟩;obtain⟨a,h1,h2⟩:=ih hb;exact⟨a,gT _ h1,h2⟩
def A8{tm:qab}(I:ay K Z tm O ρ σ H){ls:υ}(nd:is.Nodup)(h:Paired (λ(i:Nat) (a:Addr)=>O[i]?=some (some a)) is ls):ls.Nodup:=by
 induction h with
 |nil=>exact LA
 |cons r t ih=>rw[lU] at nd ⊢;refine⟨λm=>?_,ih nd.2⟩;obtain⟨j,hj,e⟩:=ic t m;exact nd.1 (by rw[Hr I r e];exact hj)
noncomputable def P0(is:qao):SV:=λ_ dp ρ=>match MW ρ is with
 |some ts=>dp ts
 |none=>False
def MX{x1}(hP:Z.P=[])(hn:vG X es is)(nd:is.Nodup)(hl:is.length<=100):H_ X Z [.Return (some (.Tuple es x1 p)) pos] (P0 is):=.mk λtm=>
 j8 (PS.weak (uQ (Au (C1 hn))) λD σ H ⟨ρ,O,d,dp,I,h,F⟩=>by
  unfold P0 at h;split at h
  rename_i ts e
  obtain⟨ls,g1,g2,g3⟩:=yk I e;refine⟨ls.map V.ref,g1,?_,λq hq=>F.dp ts h q ls _ ⟨?_,aG,A8 I nd g2,λa ha=>?_,?_⟩⟩;rw[cu,<- Q3 g2,ξ];omega;intro b o eb;have:=I.keep b o eb (by rw[hP];exact λz=>nomatch z);rw[aB (bB this hq)];exact this;obtain⟨i,_,e⟩:=ic g2 ha;rcases (I.own a (aN.mpr (gM e))).1 with z|z
  rw[hP] at z;exact nomatch z;exact z;refine Paired.nM g3 λa t r=>(r.same (aH hq)).bz λb hb=>?_;rcases cR.mp hb with z|z
  obtain⟨i,_,e⟩:=ic g2 z;exact cW _ (aN.mpr (gM e));exact cb _ z;exact h.elim)
end
section
def dI(n:Nat):roots (List.replicate n none)=[]:=by
 unfold roots;induction n with
 |zero=>rfl
 |succ n ih=>rw[zX,kr];exact ih
def kf{N:ν}{ts:ο}(hN:ts.length<=N.length)(ox:∀a∈Ox,H a≠none)(h:aA K H Ox ts vs) :
  ay K ⟨H,[],Ox⟩ [] (List.replicate N.length none) (ts.map (λt=>some (t,false))++List.replicate (N.length-ts.length) none) (start N vs) H:=by
 have hl:=h.length;have ea:av ⟨H,[],Ox⟩ (List.replicate N.length none)=Ox:=by unfold av;rw[dI];rfl
 refine⟨?_,by simp;omega,λi e he=>?_,by rw[dI];exact LA,λa ha=>?_,λp hp=>(nomatch hp),ox,λb o e _=>e,λp hp=>(nomatch hp)⟩;unfold L2.start;simp[hl];rw[ea];by_cases hi:i<ts.length;rw[nK (by simpa using hi),iz] at he;have e1:ts[i]?=some ts[i]:=by simp
 rw[e1] at he;cases he;obtain⟨v,h1,h2⟩:=h.get e1;refine⟨none,some v,by rw[DV,ε (by omega)],?_,rfl,v,rfl,h2⟩;unfold L2.start;rw[nK (by rw[cu];omega),iz,h1];rfl;rw[pf (by simpa using hi),DV] at he;split at he
 rename_i gq
 cases he;rw[cu] at gq;refine⟨none,none,by rw[DV,ε (by omega)],?_,rfl⟩;unfold L2.start;rw[pf (by rw[cu];omega),DV,cu,ε (by omega)];cases he;rw[dI] at ha;exact nomatch ha
def fnD{st:Stmt}{N:ν}{k:Nat}{G:ο->(ο->Prop)->Prop}(F:Cu K x qual st f fd)(S:az N ps (ai st))(hn:n=ps.length)(hN:n<=N.length)(dF:∀(bF:Value) (A:Around) (outer:List Env) (s:Shared) (H:Hp) (E:XK) (Ox:υ),bG k (A.deeper (envOfC qual (ai st) s.heap.objs.size f bF))->∀ts q,G ts q ->
    ∃g,H_ (fN eQ P w K mg base N qual (ai st) f bF A outer s H E).pA ⟨H,[],Ox⟩ (bE st) g/\(ts.length=n->g {nx:=λ_=>False,rt:=λ_ _=>False} q (ts.map (λt=>some (t,false))++List.replicate (N.length-ts.length) none))) :
  cD P w K mg base eQ (k+1) f fd ps (X_ K n G):=by
 refine F.ok S (λvs H Q E h=>?_) (λbF A outer s H vs Q E hr h=>?_);obtain⟨ts,Ox,q,_,ha,hl,_⟩:=h;rw[ha.length,hl,hn];obtain⟨ts,Ox,q,ox,ha,hl,hG,kk⟩:=h;obtain⟨g,hg,hq⟩:=dF bF A outer s H E Ox hr ts q hG;exact⟨_,hg [],_,_,_,q,kf (by omega) ox ha,hq hl,⟨⟨λ_ _ _ _ _ h=>h.elim,λ_ _ _ _ _ _ _ h=>h.elim,λ_ _ _ _ _ h=>h.elim,λ_ _ _ _ _ h=>h.elim⟩,λus hu p ls H' D=>kk us hu p ls H' D⟩⟩
end
section
variable{k:Nat}{G:ο->(ο->Prop)->Prop}
noncomputable def lD(X:Cx)(Z:Zc)(tm:qab)(f:En->(ο->Prop)->Prop):TE:=λσ H Q=>∃ρ O q,ay X.K Z tm O ρ σ H/\f ρ q/\∀us,q us->∀p ls H',HZ X.K H H' (av Z O) us p ls->Q (.ref p) H'
def VD(X:Cx)(Z:Zc)(e:Expr)(f:En->(ο->Prop)->Prop):Prop:=Bx λtm=>PE X e (lD X Z tm f)
instance{X:Cx}{Z:Zc}{e:Expr}{f:En->(ο->Prop)->Prop}:CoeFun (VD X Z e f) λ_=>∀tm,PE X e (lD X Z tm f):=⟨λh=>Bx.h h⟩
def SW(n:Nat)(g:FA)(G:ο->(ο->Prop)->Prop):En->(ο->Prop)->Prop:=λρ Q=>g ρ λts=>ts.length=n/\G ts Q
def MY(F:cD X.prog X.w X.K X.mg X.base eQ k f fd ps (X_ X.K n G))(hr:bG k X.A)(hg:Gl X x)(hm:X.mg x=some (.ref f))(hk:W.keepIn X.K (.ref f)=true)(hb:Binds X.K fd ps [])(ha:VA X Z (e::es) g)(l_:iq x:=by decide)(he:starEach (e::es) X.env=(false,eval e X.env)::starEach es X.env:=by rfl)(gO:(backTo pos (starEach es X.env)).any (·.1)=false:=by rfl) :
  VD X Z (.Call (.Name x p) (e::es) [] pos) (SW n g G):=.mk λtm=>PE.weak (j9 F hr hg hm hk hb .nil jw (ha tm) l_ he gO) λσ H Q ⟨ρ,O,q,I,hf,k⟩ =>
 ⟨ρ,O,_,I,hf,λts gh vs H1 s1 a1=>by
   show X_ X.K n G (vs++[]) H1 Q E0;rw[DX];refine⟨ts,av Z O,q,(I.same s1).z7,a1,gh.1,gh.2,λus hu p ls H' D=>k us hu p ls H' ⟨s1.trans D.same,D.tup,D.nd,λa ha=>?_,D.rts⟩⟩;cases z:H a with
   |none=>rfl
   |some o=>have:=D.new a ha;rw[s1 _ _ z] at this;cases this⟩
def HZ.at{tm:qab}{us:ο}{p:Addr}{ls:υ}(I:ay K Z tm O ρ σ H)(D:HZ K H H' (av Z O) us p ls):At K H' (av Z O) (.tup us) (.ref p):=by
 refine cP (fB.of D.tup) (aA.iff.mpr ?_);have key:∀{ls':υ}{SR:ο},(∀a∈ls',a∈ls)->Paired (λa t=>c5 K H' (ls++av Z O) a t) ls' SR->Paired (λv t=>At K H' (av Z O) t v) (ls'.map V.ref) SR:=by
  intro ls' SR sub h;induction h with
  |nil=>exact .nil
  |cons r t ih=>refine .cons ((r.bz λb hb=>cb _ hb).at λz=>?_) (ih λa ha=>sub a (gT _ ha));exact I.z7 _ z (D.new _ (sub _ dD))
 exact key (λ_ h=>h) D.rts
def Yb(f:En->(ο->Prop)->Prop):FP:=λρ Q=>f ρ λus=>Q (.vw (.tup us))
def VD.vp{f:En->(ο->Prop)->Prop}(h:VD X Z e f):VP X Z e (Yb f):=.mk λtm=>PE.weak (h tm) λσ H Q ⟨ρ,O,q,I,hf,k⟩ =>
 ⟨ρ,O,_,I,hf,λus hu p ls H' D=>k _ hu _ H' D.same ⟨I.same D.same,D.at I⟩⟩
end
section
variable{fo:FE}
def MZ(fo fe:FE):FP:=λρ Q=>fo ρ λx=>match x with
 |.str z=>fe ρ λy=>match y with
  |.str y=>Q (.vw (.bl (Txt.startswith z y)))
  |_=>False
 |_=>False
def EH(ho:VR X Z o fo)(he:VR X Z e fe)(eU:attributeBase o "startswith" X.env (eval o X.env)=eval o X.env:=by rfl)(qo:((backTo bj (starEach [e] X.env)).all (λx=>!x.1) && (backToKw bj (keywordEach [] X.env)).all (λx=>x.1.isSome)
    && decide (([e]:qap).length+([]:List Keyword).length+(if ([]:List Keyword).isEmpty then 0 else 1)<30))=true:=by rfl)(eV:(apos.endLine==bj.line)=true:=by rfl)(hs:starEach [e] X.env=(false,eval e X.env)::starEach [] X.env:=by rfl)(gp:(backTo bj (starEach [] X.env)).any (·.1)=false:=by rfl) :
  VP X Z (.Call (.Attribute o "startswith" apos) [e] [] bj) (MZ fo fe):=.mk λtm=>
 PE.weak (xH PySem.F.plainAttrs_str PySem.F.slot_str_startswith PySem.F.type_str_startswith sR (ho tm) (bO (he tm) dy hs) eU qo eV hs gp) λσ H Q ⟨ρ,O,q,I,hf,k⟩ =>
  ⟨ρ,O,_,I,hf,λx hx v H1 s1 a1=>by
    split at hx
    rename_i z
    have ev:=a1.str;subst ev;refine⟨rfl,ρ,O,_,I.same s1,hx,λy hy w H2 s2 a2=>?_⟩;split at hy;have ew:=a2.str;subst ew;exact⟨z,_,rfl,rfl,k _ hy _ H2 (s1.trans s2) ⟨(I.same s1).same s2,dW⟩⟩;exact hy.elim;exact hx.elim⟩
end
inductive S where
 |lf (t:T)
 |lst (xs:List S)
 |dk (ks:List Key) (ts:ο)
 |dc (nh:List Key×Key->Int) (ks:List (List Key×Key)) (ts:ο)
 |ins (C:Addr) (ns:ν) (xs:List S)
mutual
noncomputable def S.t:S->T
 |.lf t=>t
 |.lst xs=>.lst (S.ts xs)
 |.dk ks ts=>.dk ks ts
 |.dc nh ks ts=>.dc nh ks ts
 |.ins C ns xs=>.ins C ns (S.ts xs)
noncomputable def S.ts:List S->ο
 |[]=>[]
 |x::xs=>S.t x::S.ts xs
end
noncomputable def SX:Key->T
 |.inl i=>.int i
 |.inr x=>.str x
noncomputable def Gm(c:List Key×Key):T:=.tup [.tup (c.1.map SX),SX c.2]
def vH{A:υ}(k:Key):At K H A (SX k) v↔v=kV k:=by cases k<;>simp only[SX,At,kV]
theorem pW{K:Γ}{H:Hp}{A:υ}:∀(ks:List Key){vs:v9},aA K H A (ks.map SX) vs↔vs=ks.map kV
 |[],vs=>by simp only[Pe,aA]
 |k::ks,vs=>by simp only[gU,aA];constructor;rintro⟨v,r,rfl,h1,h2⟩;rw[(vH k).mp h1,(pW ks).mp h2];rintro rfl;exact⟨_,_,rfl,(vH k).mpr rfl,(pW ks).mpr rfl⟩
def vI{A:υ}{c:List Key×Key}:At K H A (Gm c) (.ref b)↔pG K H c b:=by unfold Gm pG;simp only[At,aA];constructor;rintro⟨a,vs,e,h1,v,r,rfl,⟨d,ws,rfl,h2,h3⟩,v2,r2,rfl,h4,rfl⟩;cases e;rw[(vH _).mp h4] at h1;rw[(pW _).mp h3] at h2;exact⟨d,h1,h2⟩;rintro⟨d,h1,h2⟩;exact⟨b,_,rfl,h1,_,_,rfl,⟨d,_,rfl,h2,(pW _).mpr rfl⟩,_,_,rfl,(vH _).mpr rfl,rfl⟩
mutual
noncomputable def cw(K:Γ)(H:Hp)(A:υ):S->V->υ->Prop
 |.lf t,v,fp=>fp=[]/\At K H A t v
 |.lst xs,v,fp=>∃a vs fq,v=.ref a/\H a=some (.lst vs)/\fp=a::fq/\bw K H A xs vs fq
 |.dk ks ts,v,fp=>∃a vs,v=.ref a/\fp=[a]/\ks.length=vs.length/\H a=some (.dK (ks.zip vs))/\aA K H A ts vs
 |.dc nh ks ts,v,fp=>∃a xs vs,v=.ref a/\fp=[a]/\H a=some (.ext (nV nh a xs))/\ks=xs.map (·.1)/\(a==sysModules)=false/\(∀x∈xs,At K H A (Gm x.1) (.ref x.2.1))/\Vals vs (xs.map (·.2.2))/\aA K H A ts vs
 |.ins C ns xs,v,fp=>∃a dx vs fq,v=.ref a/\ns.length=vs.length/\H a=some (.ins C dx (ns.zip vs))/\fp=a::fq/\bw K H A xs vs fq
noncomputable def bw(K:Γ)(H:Hp)(A:υ):List S->v9->υ->Prop
 |[],vs,fp=>vs=[]/\fp=[]
 |x::xs,vs,fp=>∃v r f g,vs=v::r/\fp=f++g/\cw K H A x v f/\bw K H A xs r g
end
section
variable{A A':υ}
mutual
theorem cw.map(ha:∀t v,At K H A t v->At K H' A' t v):∀{s:S}{v:V}{fp:υ},(∀b∈fp,H' b=H b)->cw K H A s v fp->cw K H' A' s v fp
 |.lf t,v,fp,hn,h=>by simp only[cw] at h ⊢;exact⟨h.1,ha _ _ h.2⟩
 |.lst xs,v,fp,hn,h=>by simp only[cw] at h ⊢;obtain⟨a,vs,fq,rfl,e,rfl,q⟩:=h;exact⟨a,vs,fq,rfl,(hn a dD).trans e,rfl,bw.map ha (λb hb=>hn b (gT _ hb)) q⟩
 |.dk ks ts,v,fp,hn,h=>by simp only[cw] at h ⊢;obtain⟨a,vs,rfl,rfl,l,e,q⟩:=h;exact⟨a,vs,rfl,rfl,l,(hn a dD).trans e,aA.iff.mpr (Paired.nM (aA.iff.mp q) λ_ _ z=>ha _ _ z)⟩
 |.dc nh ks ts,v,fp,hn,h=>by simp only[cw] at h ⊢;obtain⟨a,xs,vs,rfl,rfl,e,ek,em,hk,hv,q⟩:=h;exact⟨a,xs,vs,rfl,rfl,(hn a dD).trans e,ek,em,λx hx=>ha _ _ (hk x hx),hv,aA.iff.mpr (Paired.nM (aA.iff.mp q) λ_ _ z=>ha _ _ z)⟩
 |.ins C ns xs,v,fp,hn,h=>by simp only[cw] at h ⊢;obtain⟨a,dx,vs,fq,rfl,l,e,rfl,q⟩:=h;exact⟨a,dx,vs,fq,rfl,l,(hn a dD).trans e,rfl,bw.map ha (λb hb=>hn b (gT _ hb)) q⟩
theorem bw.map(ha:∀t v,At K H A t v->At K H' A' t v):∀{xs:List S}{vs:v9}{fp:υ},(∀b∈fp,H' b=H b)->bw K H A xs vs fp->bw K H' A' xs vs fp
 |[],vs,fp,hn,h=>by simpa only[bw] using h
 |x::xs,vs,fp,hn,h=>by simp only[bw] at h ⊢;obtain⟨v,r,f,g,rfl,rfl,h1,h2⟩:=h;exact⟨v,r,f,g,rfl,rfl,cw.map ha (λb hb=>hn b (cW _ hb)) h1,bw.map ha (λb hb=>hn b (cb _ hb)) h2⟩
end
mutual
theorem cw.mut:∀{s:S}{v:V}{fp:υ},cw K H A s v fp->∀b∈fp,∃u,H b=some u/\kA u=true
 |.lf t,v,fp,h,b,hb=>by simp only[cw] at h;rw[h.1] at hb;cases hb
 |.lst xs,v,fp,h,b,hb=>by
  simp only[cw] at h;obtain⟨a,vs,fq,rfl,e,rfl,q⟩:=h;rcases c0.mp hb with z|z
  rw[z];exact⟨_,e,rfl⟩;exact bw.mut q b z
 |.dk ks ts,v,fp,h,b,hb=>by simp only[cw] at h;obtain⟨a,vs,rfl,rfl,l,e,q⟩:=h;rw[hX.mp hb];exact⟨_,e,rfl⟩
 |.dc nh ks ts,v,fp,h,b,hb=>by simp only[cw] at h;obtain⟨a,xs,vs,rfl,rfl,e,_⟩:=h;rw[hX.mp hb];exact⟨_,e,rfl⟩
 |.ins C ns xs,v,fp,h,b,hb=>by
  simp only[cw] at h;obtain⟨a,dx,vs,fq,rfl,l,e,rfl,q⟩:=h;rcases c0.mp hb with z|z
  rw[z];exact⟨_,e,rfl⟩;exact bw.mut q b z
theorem bw.mut:∀{xs:List S}{vs:v9}{fp:υ},bw K H A xs vs fp->∀b∈fp,∃u,H b=some u/\kA u=true
 |[],vs,fp,h,b,hb=>by simp only[bw] at h;rw[h.2] at hb;cases hb
 |x::xs,vs,fp,h,b,hb=>by
  simp only[bw] at h;obtain⟨v,r,f,g,rfl,rfl,h1,h2⟩:=h;rcases cR.mp hb with z|z
  exact cw.mut h1 b z;exact bw.mut h2 b z
end
def cw.same{s:S}(sm:aV H H')(h:cw K H A s v fp):cw K H' A s v fp :=
 h.map (λ_ _ q=>q.same sm) λb hb=>by obtain⟨u,e,_⟩:=h.mut b hb;rw[e];exact sm _ _ e
def cw.more{s:S}(m:∀a∈A',a∈A\/H a=none)(h:cw K H A s v fp):cw K H A' s v fp:=h.map (λ_ _ q=>q.more m) λ_ _=>rfl
def cw.bz{s:S}(m:∀a∈A',a∈A)(h:cw K H A s v fp):cw K H A' s v fp:=h.map (λ_ _ q=>q.bz m) λ_ _=>rfl
mutual
theorem cw.view:∀{s:S}{v:V}{fp:υ},(∀b∈A',b∈A)->(∀b∈fp,b∉A')->cw K H A s v fp->At K H A' s.t v
 |.lf t,v,fp,hs,hn,h=>by simp only[cw,S.t] at h ⊢;exact h.2.bz hs
 |.lst xs,v,fp,hs,hn,h=>by simp only[cw,S.t,At] at h ⊢;obtain⟨a,vs,fq,rfl,e,rfl,q⟩:=h;exact⟨a,vs,rfl,.inl ⟨.inl e,hn a dD⟩,bw.view hs (λb hb=>hn b (gT _ hb)) q⟩
 |.dk ks ts,v,fp,hs,hn,h=>by simp only[cw,S.t,At] at h ⊢;obtain⟨a,vs,rfl,rfl,l,e,q⟩:=h;exact⟨a,vs,rfl,l,⟨e,hn a dD⟩,q.bz hs⟩
 |.dc nh ks ts,v,fp,hs,hn,h=>by simp only[cw,S.t,At] at h ⊢;obtain⟨a,xs,vs,rfl,rfl,e,ek,em,hk,hv,q⟩:=h;exact⟨a,xs,vs,rfl,⟨e,hn a dD⟩,ek,em,λx hx=>vI.mp (hk x hx),hv,q.bz hs⟩
 |.ins C ns xs,v,fp,hs,hn,h=>by simp only[cw,S.t,At] at h ⊢;obtain⟨a,dx,vs,fq,rfl,l,e,rfl,q⟩:=h;exact⟨a,dx,vs,rfl,l,⟨e,hn a dD⟩,bw.view hs (λb hb=>hn b (gT _ hb)) q⟩
theorem bw.view:∀{xs:List S}{vs:v9}{fp:υ},(∀b∈A',b∈A)->(∀b∈fp,b∉A')->bw K H A xs vs fp->aA K H A' (S.ts xs) vs
 |[],vs,fp,hs,hn,h=>by simp only[bw,S.ts,aA] at h ⊢;exact h.1
 |x::xs,vs,fp,hs,hn,h=>by simp only[bw,S.ts,aA] at h ⊢;obtain⟨v,r,f,g,rfl,rfl,h1,h2⟩:=h;exact⟨v,r,rfl,cw.view hs (λb hb=>hn b (cW _ hb)) h1,bw.view hs (λb hb=>hn b (cb _ hb)) h2⟩
end
end
inductive lg where
 |fld (C:Addr) (f:Str)
 |last
noncomputable def lh(f:Str):ν->Option Nat
 |[]=>none
 |n::ns=>match f==n with
  |true=>some 0
  |false=>(lh f ns).map (· + 1)
noncomputable def S.Yc:S->lg->Option Nat
 |.ins C ns xs,.fld C' f=>if C'=C then lh f ns else none
 |.lst xs,.last=>if 0<xs.length then some (xs.length-1) else none
 |_,_=>none
noncomputable def S.kids:S->List S
 |.lst xs=>xs
 |.ins _ _ xs=>xs
 |_=>[]
noncomputable def S.with:S->List S->S
 |.lst _,ys=>.lst ys
 |.ins C ns _,ys=>.ins C ns ys
 |s,_=>s
noncomputable def S.get:S->List lg->Option S
 |s,[]=>some s
 |s,p::ps=>match s.Yc p with
  |some i=>match s.kids[i]? with
   |some x=>x.get ps
   |none=>none
  |none=>none
noncomputable def S.put:S->List lg->S->S
 |_,[],y=>y
 |s,p::ps,y=>match s.Yc p with
  |some i=>match s.kids[i]? with
   |some x=>s.with (s.kids.set i (x.put ps y))
   |none=>s
  |none=>s
noncomputable def gQ(H:Hp)(v:V)(p:lg):Option V:=match v with
 |.ref a=>match H a with
  |some (.ins C _ fs)=>match p with
   |.fld C' f=>if C'=C then fs.lookup f else none
   |.last=>none
  |some (.lst vs)=>match p with
   |.last=>vs.getLast?
   |_=>none
  |_=>none
 |_=>none
noncomputable def valAt(H:Hp):V->List lg->Option V
 |v,[]=>some v
 |v,p::ps=>(gQ H v p).bind λw=>valAt H w ps
theorem ou(H:Hp)(p:lg):∀(ps:List lg)(v:V),valAt H v (ps++[p])=(valAt H v ps).bind λw=>gQ H w p
 |[],v=>by show (gQ H v p).bind (λw=>some w)=(some v).bind λw=>gQ H w p;simp
 |q::ps,v=>by
  show (gQ H v q).bind (λw=>valAt H w (ps++[p]))=((gQ H v q).bind λw=>valAt H w ps).bind λw=>gQ H w p;cases gQ H v q with
  |none=>rfl
  |some w=>exact ou H p ps w
theorem ow(f:Str):∀(ns:ν)(vs:v9){i:Nat},lh f ns=some i->(ns.zip vs).lookup f=vs[i]?
 |[],vs,i,h=>by cases h
 |n::ns,[],i,h=>by simp
 |n::ns,v::vs,i,h=>by
  rw[Ly,Ld];unfold lh at h;cases q:f==n with
  |true=>rw[q] at h;cases h;rfl
  |false=>
   rw[q] at h;dsimp only at h;cases e:lh f ns with
   |none=>rw[e] at h;cases h
   |some j=>rw[e] at h;cases h;exact ow f ns vs e
section
variable{A:υ}
theorem bw.length:∀{xs:List S}{vs:v9}{fp:υ},bw K H A xs vs fp->vs.length=xs.length
 |[],vs,fp,h=>by simp only[bw] at h;rw[h.1];rfl
 |x::xs,vs,fp,h=>by simp only[bw] at h;obtain⟨v,r,f,g,rfl,rfl,h1,h2⟩:=h;simp[bw.length h2]
theorem bw.focus:∀{xs:List S}{vs:v9}{fp:υ}{i:Nat}{x:S},bw K H A xs vs fp->xs[i]?=some x->∃v f1 f f2,vs[i]?=some v/\fp=f1++(f++f2)/\cw K H A x v f /\
  ∀{H':Hp}{A':υ}{y:S}{g:υ},(∀t v,At K H A t v->At K H' A' t v)->(∀b∈f1++f2,H' b=H b)->cw K H' A' y v g->bw K H' A' (xs.set i y) vs (f1++(g++f2))
 |[],vs,fp,i,x,h,e=>by simp at e
 |x0::xs,vs,fp,0,x,h,e=>by simp only[Wg,Option.some.injEq] at e;subst e;simp only[bw] at h;obtain⟨v,r,f,g,rfl,rfl,h1,h2⟩:=h;refine⟨v,[],f,g,rfl,rfl,h1,λha hn hy=>?_⟩;simp only[Pc,bw];exact⟨v,r,_,g,rfl,rfl,hy,bw.map ha (λb hb=>hn b (by simpa using hb)) h2⟩
 |x0::xs,vs,fp,i+1,x,h,e=>by
   simp only[List.getElem?_cons_succ] at e;simp only[bw] at h;obtain⟨v,r,f,g,rfl,rfl,h1,h2⟩:=h;obtain⟨w,f1,f',f2,e1,rfl,h3,k⟩:=bw.focus h2 e;refine⟨w,f++f1,f',f2,by simpa using e1,by rw[Lz],h3,λha hn hy=>?_⟩;simp only[Gv,bw];exact⟨v,r,f,_,rfl,by rw[Lz],cw.map ha (λb hb=>hn b (by simp[hb])) h1,k ha (λb hb=>hn b (by
    rcases cR.mp hb with z|z
    simp[z];simp[z])) hy⟩
theorem cw.focus:∀{ps:List lg}{s x:S}{v:V}{fp:υ},cw K H A s v fp->s.get ps=some x->∃w f1 f f2,fp=f1++(f++f2)/\valAt H v ps=some w/\cw K H A x w f /\
  ∀{H':Hp}{A':υ}{y:S}{g:υ},(∀t v,At K H A t v->At K H' A' t v)->(∀b∈f1++f2,H' b=H b)->cw K H' A' y w g->cw K H' A' (s.put ps y) v (f1++(g++f2))
 |[],s,x,v,fp,h,e=>by cases e;exact⟨v,[],fp,[],by simp,rfl,h,λ_ _ hy=>by simpa[S.put] using hy⟩
 |p::ps,s,x,v,fp,h,e=>by
   unfold S.get at e;cases hk:s.Yc p with
   |none=>rw[hk] at e;cases e
   |some i=>
     rw[hk] at e;dsimp only at e;cases hx:s.kids[i]? with
     |none=>rw[hx] at e;cases e
     |some x0=>
       rw[hx] at e;dsimp only at e
       match s,h with
       |.lf t,h=>cases p<;>cases hk
       |.dk ks ts,h=>cases p<;>cases hk
       |.dc nh ks ts,h=>cases p<;>cases hk
       |.lst xs,h=>
         simp only[cw] at h;obtain⟨a,vs,fq,rfl,ea,rfl,q⟩:=h;obtain⟨v1,f1,f,f2,hv,rfl,h1,k1⟩:=bw.focus q hx;obtain⟨w,g1,g,g2,rfl,ev,h2,k2⟩:=cw.focus h1 e;have e1:gQ H (.ref a) p=some v1:=by
          cases p with
          |fld C f=>cases hk
          |last=>have tu:(if 0<xs.length then some (xs.length-1) else none)=some i:=hk;split at tu;cases tu;unfold gQ;dsimp only;rw[ea];dsimp only;rw[xv,q.length];exact hv;cases tu
         refine⟨w,a::(f1++g1),g,g2++f2,by simp,by show (gQ H (.ref a) p).bind _=_;rw[e1];exact ev,h2,λ{H' A' y g'} ha hn hy=>?_⟩;unfold S.put;rw[hk];dsimp only;rw[hx];dsimp only;have h3:=k1 ha (λb hb=>hn b (by rcases cR.mp hb with z|z<;>simp[z])) (k2 ha (λb hb=>hn b (by rcases cR.mp hb with z|z<;>simp[z])) hy);simp only[S.with,S.kids,cw];exact⟨a,vs,_,rfl,(hn a (by simp)).trans ea,by simp,h3⟩
       |.ins C ns xs,h=>
         simp only[cw] at h;obtain⟨a,dx,vs,fq,rfl,l,ea,rfl,q⟩:=h;obtain⟨v1,f1,f,f2,hv,rfl,h1,k1⟩:=bw.focus q hx;obtain⟨w,g1,g,g2,rfl,ev,h2,k2⟩:=cw.focus h1 e;have e1:gQ H (.ref a) p=some v1:=by
          cases p with
          |last=>cases hk
          |fld C' f=>
            have tu:(if C'=C then lh f ns else none)=some i:=hk;split at tu
            rename_i hC
            unfold gQ;dsimp only;rw[ea];dsimp only;rw[ε hC,ow f ns vs tu];exact hv;cases tu
         refine⟨w,a::(f1++g1),g,g2++f2,by simp,by show (gQ H (.ref a) p).bind _=_;rw[e1];exact ev,h2,λ{H' A' y g'} ha hn hy=>?_⟩;unfold S.put;rw[hk];dsimp only;rw[hx];dsimp only;have h3:=k1 ha (λb hb=>hn b (by rcases cR.mp hb with z|z<;>simp[z])) (k2 ha (λb hb=>hn b (by rcases cR.mp hb with z|z<;>simp[z])) hy);simp only[S.with,S.kids,cw];exact⟨a,dx,vs,_,rfl,l,(hn a (by simp)).trans ea,by simp,h3⟩
end
structure Mz where
 H0:Hp
 ub:υ
 Ox:υ
 a:Addr
 k:Nat
noncomputable def nI(H:Hp)(L:υ):Hp:=λb=>if b∈L then none else H b
def yl{L:υ}{o:HO}(h:nI H L b=some o):H b=some o/\b∉L:=by
 unfold nI at h;split at h;cases h
 rename_i n;exact⟨h,n⟩
def Ia{L:υ}(h:nI H L b=none):b∈L\/H b=none:=by
 unfold nI at h;split at h
 rename_i n;exact .inl n
 exact .inr h
def Ib{L:υ}(h:b∈L):nI H L b=none:=by unfold nI;rw[ε h]
def M6{L:υ}(h:b∉L):nI H L b=H b:=by unfold nI;rw[ζ h]
structure Mf(K:Γ)(M:Mz)(O:HD)(fp:υ)(s:S)(H:Hp):Prop where
 o5:cw K H (roots O++(fp++M.Ox)) s (.ref M.a) fp
 nd:fp.Nodup
 oy:∀b∈fp,b∉roots O/\b∉M.Ox
 fr:∀b∈fp,b∈M.ub\/M.H0 b=none
 kp:∀b o,M.H0 b=some o->b∉M.ub->H b=some o/\b∉roots O
noncomputable abbrev zf(M:Mz)(O:HD)(H:Hp):Zc:=⟨nI H (roots O),[],M.Ox⟩
section
variable{M:Mz}{Of:HD}{s:S}{Hf:Hp}{tm:qab}
def Mf.now(F:Mf K M Of fp s Hf)(I:ay K (zf M Of Hf) tm O ρ σ H)(hr:∀b∈roots Of,∃u,Hf b=some u/\kA u=true):Mf K M O fp s H:=by
 have old:∀b∈roots O,b∈roots Of\/Hf b=none:=λb hb=>by
  rcases (I.own b hb).1 with z|z
  cases z;exact Ia z
 have kept:∀b o,Hf b=some o->b∉roots Of->H b=some o:=λb o e n=>I.keep b o (by show nI Hf (roots Of) b=some o;rw[M6 n];exact e) (by show b∉[];simp);have fq:∀b∈fp,∃u,Hf b=some u/\kA u=true:=F.o5.mut;refine⟨?_,F.nd,λb hb=>⟨λz=>?_,(F.oy b hb).2⟩,F.fr,λb o e n=>?_⟩;refine cw.map (λt v q=>?_) (λb hb=>?_) F.o5;have q1:At K Hf (roots Of++(roots O++(fp++M.Ox))) t v:=q.more λa ha=>by
  rcases cR.mp ha with z|z
  exact .inl (cW _ z);rcases cR.mp z with z|z
  rcases old a z with y|y
  exact .inl (cW _ y);exact .inr y;exact .inl (cb _ z)
 have q2:At K H (roots Of++(roots O++(fp++M.Ox))) t v:=q1.qD (as:=roots Of) kept (λa ha=>cW _ ha) hr;exact q2.bz λa ha=>cb _ ha;obtain⟨u,e,_⟩:=fq b hb;rw[e];exact kept b u e (F.oy b hb).1;rcases old b z with y|y
 exact (F.oy b hb).1 y;obtain⟨u,e,_⟩:=fq b hb;rw[e] at y;cases y;obtain⟨h1,h2⟩:=F.kp b o e n;refine⟨kept b o h1 h2,λz=>?_⟩;rcases old b z with y|y
 exact h2 y;rw[h1] at y;cases y
def ay.rebase(I:ay K Z tm O ρ σ H)(hZ:Z.P=[]):ay K ⟨nI H (roots O),[],Z.Ox⟩ tm O ρ σ H :=
 ⟨I.lσ,I.lO,I.sl,I.nd,λa h=>⟨.inr (Ib h),(I.own a h).2⟩,λp hp=>(nomatch hp),I.ox,λb o e _=>(yl e).1,I.sI⟩
structure mO(K:Γ)(M:Mz)(ρ:En)(s:S)(σ:St)(H:Hp):Prop where
 ex:∃O fp,Mf K M O fp s H/\ay K (zf M O H) [] O ρ σ H
 pin:ρ[M.k]?=some (some (.pin M.a s.t,false))
def mO.of(F:Mf K M Of fp s Hf)(hr:∀b∈roots Of,∃u,Hf b=some u/\kA u=true)(I:ay K (zf M Of Hf) [] O ρ σ H)(hp:ρ[M.k]?=some (some (.pin M.a s.t,false))):mO K M ρ s σ H :=
 ⟨⟨O,fp,F.now I hr,I.rebase (Z:=zf M Of Hf) rfl⟩,hp⟩
def bM(I:ay K (zf M O H) tm O ρ σ H):∀b∈roots O,∃u,H b=some u/\kA u=true:=λb hb=>(I.own b hb).2.2
noncomputable def kg:Option (T×Bool)->Option (T×Bool)
 |some (t,false)=>if bZ t=true then some (t,false) else none
 |e=>e
def fP:Option (T×Bool)->Prop
 |some (.lst ts,true)=>eG ts=true
 |some (.dk _ ts,true)=>eG ts=true
 |some (_,true)=>False
 |_=>True
noncomputable def lj(M:Mz)(ρ:En)(s:S):En:=(ρ.map kg).set M.k (some (.pin M.a s.t,false))
theorem c5.bZ{A A':υ}{t:T}(hi:fP (some (t,true)))(h:c5 K H A a t)(e:H' a=H a)(hm:∀t v,bZ t=true->At K H A t v->At K H' A' t v):c5 K H' A' a t:=by
 have ml:∀{ts:ο}{vs:v9},eG ts=true->aA K H A ts vs->aA K H' A' ts vs:=by
  intro ts;induction ts with
  |nil=>intro vs _ q;simpa only[aA] using q
  |cons t ts ih=>intro vs hi q;simp only[eG,lY] at hi;simp only[aA] at q ⊢;obtain⟨v,r,rfl,q1,q2⟩:=q;exact⟨v,r,rfl,hm _ _ hi.1 q1,ih hi.2 q2⟩
 cases t with
 |lst ts=>obtain⟨vs,e1,q⟩:=h;exact⟨vs,e.trans e1,ml hi q⟩
 |dk ks ts=>obtain⟨vs,l,e1,q⟩:=h;exact⟨vs,l,e.trans e1,ml hi q⟩
 |_=>exact False.elim hi
def Mf.write{fp':υ}{s':S}(F:Mf K M O fp s H)(I:ay K (zf M O H) [] O ρ σ H)(pK:∀e∈ρ,fP e)(hk:ρ[M.k]?≠none)(ho:O[M.k]?=some none)(hσ:σ[M.k]?=some (some (.ref M.a)))(fr:∀b o,H b=some o->b∉fp->H' b=some o)(hS:cw K H' (roots O++(fp'++M.Ox)) s' (.ref M.a) fp')(nd:fp'.Nodup)(oy:∀b∈fp',b∉roots O/\b∉M.Ox)(hfr:∀b∈fp',b∈M.ub\/M.H0 b=none):mO K M (lj M ρ s') s' σ H':=by
 have kept:∀b∈roots O,H' b=H b:=λb hb=>by obtain⟨u,e,_⟩:=bM I b hb;rw[e];exact fr _ _ e λz=>(F.oy b z).1 hb
 have tr:∀t v,bZ t=true->At K H (av (zf M O H) O) t v->At K H' (roots O++M.Ox) t v:=λt v hi q=>by have q1:At K H fp t v:=At.bZ hi q;exact At.bZ hi (q1.qD (as:=fp) fr (λa h=>h) F.o5.mut)
 have adF:M.k<ρ.length:=by
  cases h:ρ[M.k]? with
  |none=>exact absurd h hk
  |some e=>exact (eE.mp h).1
 refine⟨⟨O,fp',⟨hS,nd,oy,hfr,λb o e n=>?_⟩,⟨?_,?_,λj e h=>?_,I.nd,λb hb=>⟨.inr (Ib hb),(I.own b hb).2.1,?_⟩,λp hp=>(nomatch hp),λb hb=>?_,λb o e _=>(yl e).1,λp hp=>(nomatch hp)⟩⟩,?_⟩;obtain⟨h1,h2⟩:=F.kp b o e n;refine⟨fr _ _ h1 λz=>?_,h2⟩;rcases F.fr b z with y|y
 exact n y;rw[e] at y;cases y;unfold lj;rw[QY,cu];exact I.lσ;unfold lj;rw[QY,cu];exact I.lO;unfold lj at h;rcases get_set h with⟨rfl,rfl,hl⟩|⟨ne,h⟩
 refine⟨none,_,ho,hσ,rfl,.ref M.a,rfl,?_⟩;simp only[At];refine⟨trivial,hS.view (λb hb=>?_) (λb hb z=>?_)⟩;rcases cR.mp hb with z|z
 exact cW _ z;exact cb _ (cb _ z);rcases cR.mp z with z|z
 exact (oy b hb).1 z;exact (oy b hb).2 z;rw[List.getElem?_map] at h;cases h0:ρ[j]? with
 |none=>rw[h0] at h;cases h
 |some e0=>
  rw[h0] at h;have he:kg e0=e:=Option.some.inj h;obtain⟨o,w,h1,h2,h3⟩:=I.sl j e0 h0;refine⟨o,w,h1,h2,?_⟩;subst he
  match e0,h3,h0 with
  |none,h3,_=>exact h3
  |some (t,false),h3,_=>obtain⟨rfl,v,rfl,q⟩:=h3;show nW K H' (av (zf M O H') O) (if bZ t=true then some (t,false) else none) none (some v);by_cases hi:bZ t=true;rw[ε hi];exact⟨rfl,v,rfl,tr t v hi q⟩;rw[ζ hi];rfl
  |some (t,true),h3,h0=>obtain⟨c,rfl,rfl,q⟩:=h3;exact⟨c,rfl,rfl,q.bZ (pK _ (gM h0)) (kept c (aN.mpr (gM h1))) tr⟩
 obtain⟨u,e,m⟩:=(I.own b hb).2.2;exact⟨u,(kept b hb).trans e,m⟩;cases e:H b with
 |none=>exact absurd e (I.ox b hb)
 |some u=>rw[fr _ _ e λz=>(F.oy b z).2 hb];simp
 unfold lj;rw[DW (by rw[cu];exact adF)]
end
structure P4 where
 nx:En->S->Prop
 rt:En->S->qam
 bk:En->S->Prop:=λ_ _=>False
 ct:En->S->Prop:=λ_ _=>False
structure SY(K:Γ)(M:Mz)(d:P4)(D:Ends):Prop where
 nx:∀ρ s σ H,mO K M ρ s σ H->d.nx ρ s->D.nx σ H
 rt:∀ρ s σ H r v O fp Of Hf,Mf K M Of fp s Hf->(∀b∈roots Of,∃u,Hf b=some u/\kA u=true)->iR K (zf M Of Hf) [] O ρ σ H r v->d.rt ρ s r->D.rt v H
 bk:∀ρ s σ H,mO K M ρ s σ H->d.bk ρ s->D.bk σ H
 ct:∀ρ s σ H,mO K M ρ s σ H->d.ct ρ s->D.ct σ H
abbrev FM:=P4->En->S->Prop
def lM(X:Cx)(M:Mz)(g:FM):TS:=λD σ H=>∃ρ s d,mO X.K M ρ s σ H/\g d ρ s/\SY X.K M d D
structure Bm(p:Prop):Prop where
 h:p
def MS(X:Cx)(M:Mz)(st:Stmt)(g:FM):Prop:=Bm (PS X st (lM X M g))
def EI(X:Cx)(M:Mz)(st:qaq)(g:FM):Prop:=Bm (jf X st (lM X M g))
section
variable{M:Mz}{st:Stmt}{rest:qaq}{g u:FM}
def Yd:FM:=λd ρ s=>d.nx ρ s
def adG(g u:FM):FM:=λd ρ s=>g {d with nx:=u d} ρ s
def M7:EI X M [] Yd:=⟨jf.ji Cj λD σ H ⟨ρ,s,d,I,h,F⟩=>F.nx ρ s σ H I h⟩
def cJ(h1:MS X M st g)(h2:EI X M rest u):EI X M (st::rest) (adG g u):=⟨jf.ji (c4 h1.h h2.h) λD σ H ⟨ρ,s,d,I,h,F⟩ =>
 ⟨ρ,s,{d with nx:=u d},I,h,⟨λρ' s' σ' H' I' h'=>⟨ρ',s',d,I',h',F⟩,F.rt,F.bk,F.ct⟩⟩⟩
def bT(h1:MS X M st g):EI X M [st] g:=⟨j8 h1.h⟩
def EI.weak(h:EI X M rest g)(hw:∀d ρ s,u d ρ s->g d ρ s):EI X M rest u:=⟨jf.ji h.h λD σ H ⟨ρ,s,d,I,q,F⟩=>⟨ρ,s,d,I,hw d ρ s q,F⟩⟩
noncomputable def dPl(M:Mz)(d:P4)(s:S):Gj:={nx:=λρ'=>ρ'[M.k]?=some (some (.pin M.a s.t,false))/\d.nx ρ' s,rt:=λρ' r=>d.rt ρ' s r,bk:=λρ'=>ρ'[M.k]?=some (some (.pin M.a s.t,false))/\d.bk ρ' s,ct:=λρ'=>ρ'[M.k]?=some (some (.pin M.a s.t,false))/\d.ct ρ' s}
noncomputable def mPl(M:Mz)(g:FS):FM:=λd ρ s=>g (dPl M d s) ρ
def S3{s:S}{d:P4}{D:Ends}(F:Mf K M O fp s H)(I:ay K (zf M O H) [] O ρ σ H)(Fi:SY K M d D):Fin K (zf M O H) [] (dPl M d s) D :=
 ⟨λO' ρ' σ' H' J ⟨h1,h2⟩=>Fi.nx _ _ _ _ (mO.of F (bM I) J h1) h2,λO' ρ' σ' H' r v z h=>Fi.rt _ _ _ _ r v _ _ _ _ F (bM I) z h,λO' ρ' σ' H' J ⟨h1,h2⟩=>Fi.bk _ _ _ _ (mO.of F (bM I) J h1) h2,λO' ρ' σ' H' J ⟨h1,h2⟩=>Fi.ct _ _ _ _ (mO.of F (bM I) J h1) h2⟩
def eX{g:FS}(h:∀H0,VS X ⟨H0,[],M.Ox⟩ st g):MS X M st (mPl M g):=⟨PS.ji λD σ H ⟨ρ,s,d,⟨⟨O,fp,F,I⟩,hp⟩,hg,Fi⟩=>⟨_,h (nI H (roots O)) [],ρ,O,_,I,hg,S3 F I Fi⟩⟩
 where PS.ji {t:TS} (hw:∀D σ H,t D σ H->∃t':TS,PS X st t'/\t' D σ H):PS X st t:=λγ s σ H D I q=>let ⟨t',h1,h2⟩:=hw D σ H q;h1 γ s σ H D I h2
def mIf(c:FB)(g u:FM):FM:=λd ρ s=>c ρ λb=>if b=true then g d ρ s else u d ρ s
def uh{fc:FB}{a b:qaq}(hc:∀H0,VC X ⟨H0,[],M.Ox⟩ c fc)(ha:EI X M a g)(hb:EI X M b u):MS X M (.If c a b pos) (mIf fc g u):=⟨λγ s' σ H D J ⟨ρ,s,d,⟨⟨O,fp,F,I⟩,hp⟩,hg,Fi⟩ =>
 Pj (hc (nI H (roots O)) []) ha.h hb.h γ s' σ H D J ⟨ρ,O,_,I,hg,λb hb H' sm=>by
  have St:mO X.K M ρ s σ H':=mO.of F (bM I) (I.same sm) hp;cases b with
  |true=>rw[ε rfl] at hb;exact RZ ⟨ρ,s,d,St,hb,Fi⟩
  |false=>rw[ζ iM] at hb;exact RY ⟨ρ,s,d,St,hb,Fi⟩⟩⟩
end
noncomputable def jG(k:Nat)(ps:List lg):TE:=λσ H Q=>∃v w,σ[k]?=some (some v)/\valAt H v ps=some w/\Q w H
section
variable{i:Expr}{k:Nat}{ps:List lg}{f:Str}
def ll(hN:X.N[k]?=some x:=by rfl)(hv:kH X.env.scope x:=by exact jvv rfl)(hd:iq x:=by decide)(gm:uL x:=by decide):PE X (.Name x pos) (jG k []):=PE.weak (cf hN hv hd gm) λσ H Q ⟨v,w,h1,h2,q⟩=>by cases h2;exact⟨v,h1,q⟩
def jH(cl:An X.K C)(na:bD X.K C f)(he:PE X e (jG k ps))(hb:attributeBase e f X.env (eval e X.env)=eval e X.env:=by rfl):PE X (.Attribute e f pos) (jG k (ps++[.fld C f])) :=
 PE.weak (Aq he hb) λσ H Q ⟨v,w,h1,h2,q⟩=>by
  rw[ou] at h2;cases e0:valAt H v ps with
  |none=>rw[e0] at h2;cases h2
  |some w0=>
   rw[e0] at h2;have h3:gQ H w0 (.fld C f)=some w:=h2;refine⟨v,w0,h1,e0,?_⟩;unfold gQ at h3;split at h3
   rename_i a
   split at h3
   rename_i C' dx fs ea
   dsimp only at h3;split at h3
   rename_i hC
   subst hC;exact⟨a,_,dx,fs,w,rfl,ea,cl,na,h3,q⟩;cases h3;dsimp only at h3;cases h3;cases h3;cases h3
def M8(he:PE X e (jG k ps))(hi:PE X i (tC (.int (-1))))(hs:uV i:=by intro _ _;rfl):PE X (.Subscript e i pos) (jG k (ps++[.last])) :=
 PE.weak (Pq Cq he hi hs) λσ H Q ⟨v,w,h1,h2,q⟩=>by
  rw[ou] at h2;cases e0:valAt H v ps with
  |none=>rw[e0] at h2;cases h2
  |some w0=>
   rw[e0] at h2;have h3:gQ H w0 .last=some w:=h2;refine⟨v,w0,h1,e0,?_⟩;unfold gQ at h3;split at h3
   rename_i a
   split at h3;dsimp only at h3;cases h3
   rename_i vs ea
   dsimp only at h3;refine⟨a,vs,-1,w,rfl,rfl,gN.of ea,?_,q⟩;have hl:0<vs.length:=by cases vs<;>simp_all
   rw[xv] at h3;unfold jg xG;rw[ζ (by decide),ε (by omega)];have e:(-1+(vs.length:Int)).toNat=vs.length-1:=by omega
   rw[e];exact h3;cases h3;cases h3
end
def Ye{j}{p':Pos}:PE X (.UnaryOp .USub (.Constant (.int 1) j p) p') (tC (.int (-1))):=PE.weak (Pl GN GA) λσ H Q h=>⟨_,rfl,h⟩
section
variable{M:Mz}{s:S}{A:υ}
theorem bw.P5:∀{xs:List S}{vs:v9}{fp:υ}{i:Nat}{t0 t:T}{v:V},bw K H A xs vs fp->xs[i]?=some (.lf t0)->At K H A t v->bw K H A (xs.set i (.lf t)) (vs.set i v) fp
 |[],vs,fp,i,t0,t,v,h,e,q=>by simp at e
 |x::xs,vs,fp,0,t0,t,v,h,e,q=>by cases e;simp only[bw,cw] at h;obtain⟨v0,r,f,g,rfl,rfl,⟨rfl,_⟩,h2⟩:=h;simp only[Pc,bw,cw];exact⟨v,r,[],g,rfl,rfl,⟨rfl,q⟩,h2⟩
 |x::xs,vs,fp,i+1,t0,t,v,h,e,q=>by simp only[bw] at h;obtain⟨v0,r,f,g,rfl,rfl,h1,h2⟩:=h;simp only[Gv,bw];exact⟨v0,r.set i v,f,g,rfl,rfl,h1,h2.P5 (by simpa using e) q⟩
theorem C2(f:Str)(y:V):∀(ns:ν)(vs:v9){i:Nat},ns.length=vs.length->lh f ns=some i->eA f y (ns.zip vs)=ns.zip (vs.set i y)
 |[],vs,i,_,h=>by cases h
 |n::ns,[],i,l,h=>by simp at l
 |n::ns,v::vs,i,l,h=>by
  rw[Ly];show (if n=f then (n,y)::ns.zip vs else (n,v)::eA f y (ns.zip vs))=_;unfold lh at h;cases q:f==n with
  |true=>rw[q] at h;cases h;rw[ε (eq_of_beq q).symm];rfl
  |false=>
   rw[q] at h;have ne:¬ n=f:=λe=>by rw[e] at q;simp at q
   rw[ζ ne];cases z:lh f ns with
   |none=>rw[z] at h;cases h
   |some j=>rw[z] at h;cases h;rw[C2 f y ns vs (by simpa using l) z];rfl
def c7(I:ay K (zf M O H) [] O ρ σ H)(hp:ρ[M.k]?=some (some (.pin M.a s.t,false))):O[M.k]?=some none/\σ[M.k]?=some (some (.ref M.a)):=by obtain⟨o,sv,h1,h2,h3⟩:=I.sl M.k _ hp;obtain⟨rfl,v,rfl,q⟩:=h3;simp only[At] at q;obtain⟨rfl,_⟩:=q;exact⟨h1,h2⟩
def Mf.put{ps:List lg}{x:S}(F:Mf K M O fp s H)(I:ay K (zf M O H) [] O ρ σ H)(hp:ρ[M.k]?=some (some (.pin M.a s.t,false)))(pK:∀e∈ρ,fP e)(hg:s.get ps=some x) :
  ∃w f,valAt H (.ref M.a) ps=some w/\cw K H (roots O++(fp++M.Ox)) x w f/\(∀b∈f,b∈fp)/\f.Nodup /\
   ∀{b:Addr}{u:HO}{y:S},b∈f->cw K (upd H b u) (roots O++(fp++M.Ox)) y w f->mO K M (lj M ρ (s.put ps y)) (s.put ps y) σ (upd H b u):=by
 obtain⟨w,f1,f,f2,A9,ev,hs,back⟩:=F.o5.focus hg;have sub:∀b∈f,b∈fp:=λb hb=>by rw[A9];exact cb _ (cW _ hb)
 have nd:=F.nd;have Ic:=nd;rw[A9] at Ic;have ndf:f.Nodup:=((zZ.mp Ic).2.1 |> zZ.mp).1;refine⟨w,f,ev,hs,sub,ndf,λ{b u y} hb hy=>?_⟩;obtain⟨ho,hσ⟩:=c7 I hp;obtain⟨u0,e0,m0⟩:=F.o5.mut b (sub b hb);have hA:b∈roots O++(fp++M.Ox):=cb _ (cW _ (sub b hb));refine F.write I pK (by rw[hp];simp) ho hσ (λb' o e n=>?_) (fp':=fp) ?_ nd F.oy F.fr;rw[aB (λz=>n (by rw[z];exact sub b hb))];exact e;have r:=back (H':=upd H b u) (A':=roots O++(fp++M.Ox)) (λt v q=>q.wrote hA e0 m0) (λb' M9=>?_) hy;rw[<- A9] at r;exact r;refine aB λz=>?_;subst z;have n1:=zZ.mp Ic;have n2:=zZ.mp n1.2.1;rcases cR.mp M9 with q|q
 exact n1.2.2 _ q _ (cW _ hb) rfl;exact n2.2.2 _ hb _ q rfl
end
section
variable{M:Mz}{f:Str}
noncomputable def adH(M:Mz)(C:Addr)(f:Str)(fe:FE):FM:=λd ρ s=>fe ρ λt=>bZ t=true/\(∀e∈ρ,fP e)/\∃ns xs i t0,s=.ins C ns xs/\xs.length<1000/\lh f ns=some i/\xs[i]?=some (.lf t0)/\d.nx (lj M ρ (.ins C ns (xs.set i (.lf t)))) (.ins C ns (xs.set i (.lf t)))
def ie(cl:An X.K C)(na:bD X.K C f)(he:∀H0,VE X ⟨H0,[],M.Ox⟩ e fe)(hN:X.N[M.k]?=some x)(hv:kH X.env.scope x:=by exact jvv rfl)(hd:iq x:=by decide)(gm:uL x:=by decide)(hs:swapsWith e (some (.Attribute (.Name x p) f fW)) pos.line X.env=pure false:=by rfl) :
  MS X M (.Assign [.Attribute (.Name x p) f fW] e pos) (adH M C f fe):=⟨λγ s' σ H D J ⟨ρ,s,d,⟨⟨O,fp,F,I⟩,hp⟩,hg,Fi⟩=>by
 refine gn (cf hN hv hd gm) (he (nI H (roots O)) []) hs γ s' σ H D J ⟨ρ,O,_,I,hg,λt ht v H1 sm a=>?_⟩;obtain⟨hi,pK,ns,xs,i,t0,rfl,hlen,hix,hx,hq⟩:=ht;have I0:=I.same sm;have F1:=F.now I0 (bM I);have I1:=I0.rebase (Z:=zf M O H) rfl;obtain⟨w,f',ev,hS,sub,nd,wr⟩:=F1.put (ps:=[]) I1 hp pK rfl;cases ev;have uj:=hS;simp only[cw] at uj;obtain⟨a',dx,vs,fq,ea,hl,ha,rfl,hL⟩:=uj;cases ea;obtain⟨_,hσ⟩:=c7 I1 hp;refine⟨.ref M.a,hσ,M.a,C,dx,_,rfl,ha,cl,na,?_,?_⟩;rw[Q1,hl,Pf,hL.length];exact hlen;rw[C2 f v ns vs hl hix];have hA:M.a∈roots O++(fp++M.Ox):=cb _ (cW _ (sub _ dD));refine Fi.nx _ _ σ _ (wr (y:=.ins C ns (xs.set i (.lf t))) dD ?_) hq;simp only[cw];refine⟨M.a,dx,vs.set i v,fq,rfl,by rw[QY];exact hl,aG,rfl,?_⟩;refine (hL.map (λt v q=>q.wrote hA ha rfl) λb hb=>aB λz=>?_).P5 hx ((At.bZ hi a).wrote hA ha rfl);subst z;exact (lU.mp nd).1 hb⟩
end
def EJ(sm:aV H H'){w:V}{p:lg}(h:gQ H v p=some w):gQ H' v p=some w:=by
 unfold gQ at h ⊢;split at h
 rename_i a
 cases e:H a with
 |none=>rw[e] at h;cases h
 |some o=>rw[e] at h;rw[sm _ _ e];exact h
 cases h
theorem gB{H H':Hp}(sm:aV H H'):∀{ps:List lg}{v w:V},valAt H v ps=some w->valAt H' v ps=some w
 |[],v,w,h=>h
 |p::ps,v,w,h=>by
  unfold valAt at h ⊢;cases e:gQ H v p with
  |none=>rw[e] at h;cases h
  |some u=>rw[e] at h;rw[EJ sm e];exact gB sm (ps:=ps) h
section
variable{M:Mz}{i:Expr}{ps:List lg}
noncomputable def Yf(M:Mz)(ps:List lg)(fi fe:FE):FM:=λd ρ s=>fe ρ λt=>(∃x,s.get ps=some x)/\fi ρ λj=>match ya j with
 |some kk=>bZ t=true/\(∀e∈ρ,fP e)/\∃ks ts,s.get ps=some (.dk ks ts)/\ts.length<16777216/\d.nx (lj M ρ (s.put ps (.dk (gA ks kk) (cH ks ts kk t)))) (s.put ps (.dk (gA ks kk) (cH ks ts kk t)))
 |none=>False
def C3{fi:FE}(hu:X.A.units+1<cLine)(ho:PE X o (jG M.k ps))(hi:∀H0,VR X ⟨H0,[],M.Ox⟩ i fi)(he:∀H0,VE X ⟨H0,[],M.Ox⟩ e fe)(hs:swapsWith e (some (.Subscript o i fW)) pos.line X.env=pure false:=by rfl) :
  MS X M (.Assign [.Subscript o i fW] e pos) (Yf M ps fi fe):=⟨λγ s' σ H D J ⟨ρ,s,d,⟨⟨O,fp,F,I⟩,hp⟩,hg,Fi⟩=>by
 refine CT hu ho (hi (nI H (roots O)) []) (he (nI H (roots O)) []) hs γ s' σ H D J ⟨ρ,O,_,I,hg,λt ht v H1 s1 a1=>?_⟩;obtain⟨⟨x,hx⟩,ht⟩:=ht;obtain⟨w,_,_,_,_,ev,_,_⟩:=(F.now (I.same s1) (bM I)).o5.focus hx;obtain⟨_,hσ⟩:=c7 I hp;refine⟨.ref M.a,w,hσ,ev,ρ,O,_,I.same s1,ht,λj hj w' H2 s2 a2=>?_⟩;split at hj
 rename_i kk ek
 obtain⟨Lp,pK,ks,ts,EK,hlen,hq⟩:=hj;have I0:=(I.same s1).same s2;have F2:=F.now I0 (bM I);have I2:=I0.rebase (Z:=zf M O H) rfl;obtain⟨w2,f',Ie,hS,sub,nd,wr⟩:=F2.put (ps:=ps) I2 hp pK EK;rw[gB s2 ev] at Ie;cases Ie;have uj:=hS;simp only[cw] at uj;obtain⟨l,xs,rfl,rfl,hl,h3,h4⟩:=uj;have q:=HW ks xs kk v hl;have hz:(ks.zip xs).length<sizeLine:=by rw[ξ,Q1,hl,Pf,h4.length];omega
 have hA:l∈roots O++(fp++M.Ox):=cb _ (cW _ (sub _ dD));rw[ke a2 ek];refine⟨l,_,rfl,EA.k h3 hz,?_⟩;rw[q.1];refine Fi.nx _ _ σ _ (wr (y:=.dk (gA ks kk) (cH ks ts kk t)) dD ?_) hq;simp only[cw];exact⟨l,cH ks xs kk v,rfl,rfl,q.2,aG,aA.wrote hA h3 rfl (yd h4 (At.bZ Lp (a1.same s2)))⟩;exact hj.elim⟩
end
theorem bw.Ig{A:υ}{t:T}:∀{xs:List S}{vs:v9}{fp:υ},bw K H A xs vs fp->At K H A t v->bw K H A (xs++[.lf t]) (vs++[v]) fp
 |[],vs,fp,h,q=>by simp only[bw] at h;obtain⟨rfl,rfl⟩:=h;simp only[List.nil_append,bw,cw];exact⟨v,[],[],[],rfl,rfl,⟨rfl,q⟩,rfl,rfl⟩
 |x::xs,vs,fp,h,q=>by simp only[bw] at h;obtain⟨v0,r,f,g,rfl,rfl,h1,h2⟩:=h;simp only[QX,bw];exact⟨v0,r++[v],f,g,rfl,rfl,h1,h2.Ig q⟩
section
variable{M:Mz}{ps:List lg}
noncomputable def adI(M:Mz)(ps:List lg)(fe:FE):FM:=λd ρ s=>∃ys,s.get ps=some (.lst ys)/\ys.length<16777216/\fe ρ λt=>bZ t=true/\(∀e∈ρ,fP e)/\d.nx (lj M ρ (s.put ps (.lst (ys++[.lf t])))) (s.put ps (.lst (ys++[.lf t])))
def EL(ho:PE X o (jG M.k ps))(he:∀H0,VE X ⟨H0,[],M.Ox⟩ e fe)(eU:attributeBase o "append" X.env (eval o X.env)=eval o X.env:=by rfl)(qo:((backTo bj (starEach [e] X.env)).all (λx=>!x.1) && (backToKw bj (keywordEach [] X.env)).all (λx=>x.1.isSome)
    && decide (([e]:qap).length+([]:List Keyword).length+(if ([]:List Keyword).isEmpty then 0 else 1)<30))=true:=by rfl)(eV:(apos.endLine==bj.line)=true:=by rfl)(hs:starEach [e] X.env=(false,eval e X.env)::starEach [] X.env:=by rfl)(gp:(backTo bj (starEach [] X.env)).any (·.1)=false:=by rfl)(Ma:swapsWith (.Call (.Attribute o "append" apos) [e] [] bj) none pos.line X.env=pure false:=by rfl) :
  MS X M (.Expr (.Call (.Attribute o "append" apos) [e] [] bj) pos) (adI M ps fe):=⟨λγ s' σ H D J ⟨ρ,s,d,⟨⟨O,fp,F,I⟩,hp⟩,hg,Fi⟩=>by
 obtain⟨ys,EK,hlen,hg⟩:=hg;obtain⟨w,_,f,_,_,ev,Yg,_⟩:=F.o5.focus EK;have ym:=Yg;simp only[cw] at ym;obtain⟨l,xs,fq,rfl,hl,rfl,hL⟩:=ym;obtain⟨_,hσ⟩:=c7 I hp;refine l0 (xH Wh qe qf bq ho (bO (he (nI H (roots O)) []) dy hs) eU qo eV hs gp) Ma γ s' σ H D J
  ⟨.ref M.a,.ref l,hσ,ev,.inl ⟨rfl,xs,gN.of hl⟩,ρ,O,_,I,hg,λt ht v H1 s1 a1=>?_⟩
 obtain⟨Lp,pK,hq⟩:=ht;have I0:=I.same s1;have F1:=F.now I0 (bM I);have I1:=I0.rebase (Z:=zf M O H) rfl;obtain⟨w2,f',Ie,hS,sub,nd,wr⟩:=F1.put (ps:=ps) I1 hp pK EK;rw[gB s1 ev] at Ie;cases Ie;have uj:=hS;simp only[cw] at uj;obtain⟨l',Gk,M_,e',z5,rfl,Yh⟩:=uj;cases e';have hA:l∈roots O++(fp++M.Ox):=cb _ (cW _ (sub _ dD));refine⟨l,Gk,v,rfl,rfl,z5,by rw[ξ,Yh.length];omega,?_⟩;refine Fi.nx _ _ σ _ (wr (y:=.lst (ys++[.lf t])) dD ?_) hq;simp only[cw];refine⟨l,Gk++[v],M_,rfl,aG,rfl,?_⟩;refine (Yh.map (λt v q=>q.wrote hA z5 rfl) λb hb=>aB λz=>?_).Ig ((At.bZ Lp a1).wrote hA z5 rfl);subst z;exact (lU.mp nd).1 hb⟩
end
section
variable{M:Mz}{s:S}{A:υ}
theorem Mf.adJ{ps:List lg}{x:S}(F:Mf K M O fp s H)(I:ay K (zf M O H) [] O ρ σ H)(hp:ρ[M.k]?=some (some (.pin M.a s.t,false)))(pK:∀e∈ρ,fP e)(hg:s.get ps=some x) :
  ∃w f,valAt H (.ref M.a) ps=some w/\cw K H (roots O++(fp++M.Ox)) x w f/\(∀b∈f,b∈fp)/\f.Nodup /\
   ∀{H':Hp}{g:υ}{y:S},(∀b o,H b=some o->b∉f->H' b=some o)->g.Nodup->(∀b∈g,b∈f\/H b=none) ->
    (∀A',(∀t v,At K H (roots O++(fp++M.Ox)) t v->At K H' A' t v)->cw K H' A' y w g)->mO K M (lj M ρ (s.put ps y)) (s.put ps y) σ H':=by
 obtain⟨w,f1,f,f2,A9,ev,hs,back⟩:=F.o5.focus hg;have sub:∀b∈f,b∈fp:=λb hb=>by rw[A9];exact cb _ (cW _ hb)
 have mP:∀b∈f1++f2,b∈fp:=λb hb=>by
  rw[A9];rcases cR.mp hb with z|z
  exact cW _ z;exact cb _ (cb _ z)
 have Ic:=F.nd;rw[A9] at Ic;have n1:=zZ.mp Ic;have n2:=zZ.mp n1.2.1;refine⟨w,f,ev,hs,sub,n2.1,λ{H' g y} fr ndg S4 hy=>?_⟩;obtain⟨ho,hσ⟩:=c7 I hp;have out:∀b∈f1++f2,b∉f:=λb hb z=>by
  rcases cR.mp hb with q|q
  exact n1.2.2 _ q _ (cW _ z) rfl;exact n2.2.2 _ z _ q rfl
 have go:∀t v,At K H (roots O++(fp++M.Ox)) t v->At K H' (roots O++((f1++(g++f2))++M.Ox)) t v:=λt v q=>by
  have q1:At K H (g++(roots O++(fp++M.Ox))) t v:=q.more λa ha=>by
   rcases cR.mp ha with z|z
   rcases S4 a z with y|y
   exact .inl (cb _ (cW _ (sub a y)));exact .inr y;exact .inl z
  have q2:=q1.qD (H':=H') (as:=f) fr (λa ha=>cb _ (cb _ (cW _ (sub a ha)))) λa ha=>F.o5.mut a (sub a ha);refine q2.bz λa ha=>?_;rcases cR.mp ha with z|z
  exact cb _ (cW _ z);rcases cR.mp z with z|z
  rcases cR.mp z with z|z
  exact cb _ (cb _ (cW _ (mP a (cW _ z))));rcases cR.mp z with z|z
  exact cW _ z;exact cb _ (cb _ (cW _ (mP a (cb _ z))));exact cb _ (cb _ (cb _ z))
 have S6:∀b∈fp,H b≠none:=λb hb=>by obtain⟨u,e,_⟩:=F.o5.mut b hb;rw[e];simp
 have each:∀b∈f1++(g++f2),b∈fp\/H b=none:=λb hb=>by
  rcases cR.mp hb with z|z
  exact .inl (mP b (cW _ z));rcases cR.mp z with z|z
  exact (S4 b z).imp (sub b) id;exact .inl (mP b (cb _ z))
 have Ih:∀b∈g,b∉f1++f2:=λb hb z=>by
  rcases S4 b hb with y|y
  exact out b z y;exact S6 b (mP b z) y
 refine F.write I pK (by rw[hp];simp) ho hσ (λb' o e n=>fr b' o e λz=>n (sub b' z)) (fp':=f1++(g++f2)) ?_ ?_ (λb hb=>?_) λb hb=>?_;refine back (H':=H') (A':=roots O++((f1++(g++f2))++M.Ox)) go (λb' M9=>?_) (hy _ go);obtain⟨u,e,_⟩:=F.o5.mut b' (mP b' M9);rw[e];exact fr _ _ e (out b' M9);refine zZ.mpr ⟨n1.1,zZ.mpr ⟨ndg,n2.2.1,λa ha b hb z=>?_⟩,λa ha b hb z=>?_⟩;subst z;exact Ih a ha (cb _ hb);subst z;rcases cR.mp hb with y|y
 exact Ih a y (cW _ ha);exact n1.2.2 _ ha _ (cb _ y) rfl;rcases each b hb with z|z
 exact F.oy b z;refine⟨λy=>I.z7 b (cW _ y) z,λy=>I.z7 b (cb _ y) z⟩;rcases each b hb with z|z
 exact F.fr b z;cases e:M.H0 b with
 |none=>exact .inr rfl
 |some o=>refine .inl (Wf λn=>?_);rw[(F.kp b o e n).1] at z;cases z
def mO.put{t:T}(S:mO K M ρ s σ H)(hj:M.k≠j)(hi:bZ t=true)(a:At K H A t v):mO K M (ρ.set j (some (t,false))) s (σ.set j (some v)) H:=by obtain⟨⟨O,fp,F,I⟩,hp⟩:=S;exact mO.of F (bM I) (I.put (λp hp=>absurd hp fA) (At.bZ hi a)) (by rw[xi (Ne.symm hj)];exact hp)
end
section
variable{A:υ}
theorem bw.Ii{z:S}:∀{ys:List S}{vs:v9}{fp:υ},bw K H A (ys++[z]) vs fp->∃SK v f g,vs=SK++[v]/\fp=f++g/\bw K H A ys SK f/\cw K H A z v g
 |[],vs,fp,h=>by simp only[List.nil_append,bw] at h;obtain⟨v,r,f,g,rfl,rfl,h1,rfl,rfl⟩:=h;exact⟨[],v,[],f,rfl,by simp,by simp[bw],h1⟩
 |x::xs,vs,fp,h=>by simp only[QX,bw] at h;obtain⟨v0,r,f,g,rfl,rfl,h1,h2⟩:=h;obtain⟨SK,v,f',g',rfl,rfl,h3,h4⟩:=bw.Ii h2;refine⟨v0::SK,v,f++f',g',rfl,by simp,?_,h4⟩;simp only[bw];exact⟨v0,SK,f,f',rfl,rfl,h1,h3⟩
def bw.Yi:∀{xs:List S}{vs:v9}{fp:υ}{i:Nat}{t:T},bw K H A xs vs fp->xs[i]?=some (.lf t)->∃v,vs[i]?=some v/\At K H A t v:=λh e=>by obtain⟨v,f1,f,f2,e1,_,h1,_⟩:=h.focus e;simp only[cw] at h1;exact⟨v,e1,h1.2⟩
end
section
variable{M:Mz}{ps:List lg}{f:Str}{Yj Yk:Pos}
noncomputable def Yl(M:Mz)(j:Nat)(ps:List lg)(C:Addr)(f:Str):FM:=λd ρ s=>∃ys ns zs i t,M.k≠j/\s.get ps=some (.lst (ys++[.ins C ns zs]))/\lh f ns=some i/\zs[i]?=some (.lf t)/\bZ t=true/\(∀e∈ρ,fP e)/\d.nx ((lj M ρ (s.put ps (.lst ys))).set j (some (t,false))) (s.put ps (.lst ys))
def M'(hN:X.N.Nodup)(hj:X.N[j]?=some x)(hx:Loc X.env.scope x)(cl:An X.K C)(na:bD X.K C f)(ho:PE X o (jG M.k ps))(eU:attributeBase o "pop" X.env (eval o X.env)=eval o X.env:=by rfl)(eV:(apos.endLine==bj.line)=true:=by rfl)(VJ:attributeBase (.Call (.Attribute o "pop" apos) [] [] bj) f X.env (eval (.Call (.Attribute o "pop" apos) [] [] bj) X.env)=eval (.Call (.Attribute o "pop" apos) [] [] bj) X.env:=by rfl)(hs:swapsWith (.Attribute (.Call (.Attribute o "pop" apos) [] [] bj) f Yj) (some (.Name x Yk)) pos.line X.env=pure false:=by rfl)(hf:X.fn x=true\/X.env.scope.names.lookup x=some .local:=by first|exact .inl rfl|assumption) :
  MS X M (.Assign [.Name x Yk] (.Attribute (.Call (.Attribute o "pop" apos) [] [] bj) f Yj) pos) (Yl M j ps C f):=⟨λγ s' σ H D J ⟨ρ,s,d,⟨⟨O,fp,F,I⟩,hp⟩,hg,Fi⟩=>by
 obtain⟨ys,ns,zs,i,t,hkj,EK,hix,hz,Lp,pK,hq⟩:=hg;obtain⟨w,f',ev,hS,sub,nd,wr⟩:=F.adJ (ps:=ps) I hp pK EK;have uj:=hS;simp only[cw] at uj;obtain⟨l,xs,fq,rfl,hl,rfl,hL⟩:=uj;obtain⟨xs0,v,g1,g2,rfl,rfl,hL1,hZ⟩:=hL.Ii;simp only[cw] at hZ;obtain⟨a,dx,vs,fz,rfl,hlen,ha,rfl,hLz⟩:=hZ;obtain⟨u,eu,au⟩:=hLz.Yi hz;obtain⟨_,hσ⟩:=c7 I hp;have nl:=lU.mp nd;have nal:a≠l:=λz=>nl.1 (by rw[<- z];exact cb _ dD);have hA:l∈roots O++(fp++M.Ox):=cb _ (cW _ (sub _ dD));refine uR hN hj hx (Aq (AD Wh PySem.F.slot_list_pop PySem.F.type_list_pop AF ho eU eV) VJ) hs hf γ s' σ H D J
  ⟨.ref M.a,.ref l,hσ,ev,.inl ⟨rfl,_,gN.of hl⟩,l,_,.ref a,rfl,rfl,hl,by simp,a,C,dx,_,u,rfl,by rw[aB nal];exact ha,cl,na,by rw[ow f ns vs hix];exact eu,?_⟩
 rw[QS];refine Fi.nx _ _ _ _ (mO.put (A:=[]) (wr (H':=upd H l (.lst xs0)) (g:=l::g1) (y:=.lst ys) (λb o e n=>?_) ?_ (λb hb=>?_) λA' go=>?_) hkj Lp (At.bZ Lp (au.wrote hA hl rfl))) hq;rw[aB λz=>n (by rw[z];exact dD)];exact e;refine lU.mpr ⟨λz=>nl.1 (cW _ z),(zZ.mp nl.2).1⟩;rcases c0.mp hb with z|z
 exact .inl (by rw[z];exact dD);exact .inl (gT _ (cW _ z));simp only[cw];refine⟨l,xs0,g1,rfl,aG,rfl,hL1.map go λb hb=>aB λz=>?_⟩;subst z;exact nl.1 (cW _ hb)⟩
end
section
variable{M:Mz}{s:S}{A:υ}
theorem Mf.putN{N:υ}{ps:List lg}{x:S}(F:Mf K M O fp s H)(FN:cw K H (N++(roots O++(fp++M.Ox))) s (.ref M.a) fp)(hN:∀b∈N,b∉fp/\b∉roots O/\b∉M.Ox/\(b∈M.ub\/M.H0 b=none))(I:ay K (zf M O H) [] O ρ σ H)(hp:ρ[M.k]?=some (some (.pin M.a s.t,false)))(pK:∀e∈ρ,fP e)(hg:s.get ps=some x) :
  ∃w f,valAt H (.ref M.a) ps=some w/\cw K H (N++(roots O++(fp++M.Ox))) x w f/\(∀b∈f,b∈fp)/\f.Nodup /\
   ∀{H':Hp}{g:υ}{y:S},(∀b o,H b=some o->b∉f->H' b=some o)->g.Nodup->(∀b∈g,b∈f\/H b=none\/b∈N) ->
    (∀A',(∀t v,At K H (N++(roots O++(fp++M.Ox))) t v->At K H' A' t v)->cw K H' A' y w g)->mO K M (lj M ρ (s.put ps y)) (s.put ps y) σ H':=by
 obtain⟨w,f1,f,f2,A9,ev,hs,back⟩:=FN.focus hg;have sub:∀b∈f,b∈fp:=λb hb=>by rw[A9];exact cb _ (cW _ hb)
 have mP:∀b∈f1++f2,b∈fp:=λb hb=>by
  rw[A9];rcases cR.mp hb with z|z
  exact cW _ z;exact cb _ (cb _ z)
 have Ic:=F.nd;rw[A9] at Ic;have n1:=zZ.mp Ic;have n2:=zZ.mp n1.2.1;refine⟨w,f,ev,hs,sub,n2.1,λ{H' g y} fr ndg S4 hy=>?_⟩;obtain⟨ho,hσ⟩:=c7 I hp;have out:∀b∈f1++f2,b∉f:=λb hb z=>by
  rcases cR.mp hb with q|q
  exact n1.2.2 _ q _ (cW _ z) rfl;exact n2.2.2 _ z _ q rfl
 have go:∀t v,At K H (N++(roots O++(fp++M.Ox))) t v->At K H' (roots O++((f1++(g++f2))++M.Ox)) t v:=λt v q=>by
  have q1:At K H (g++(N++(roots O++(fp++M.Ox)))) t v:=q.more λa ha=>by
   rcases cR.mp ha with z|z
   rcases S4 a z with y|y|y
   exact .inl (cb _ (cb _ (cW _ (sub a y))));exact .inr y;exact .inl (cW _ y);exact .inl z
  have q2:=q1.qD (H':=H') (as:=f) fr (λa ha=>cb _ (cb _ (cb _ (cW _ (sub a ha))))) λa ha=>F.o5.mut a (sub a ha);refine q2.bz λa ha=>?_;rcases cR.mp ha with z|z
  exact cb _ (cb _ (cW _ z));rcases cR.mp z with z|z
  rcases cR.mp z with z|z
  exact cb _ (cb _ (cb _ (cW _ (mP a (cW _ z)))));rcases cR.mp z with z|z
  exact cW _ z;exact cb _ (cb _ (cb _ (cW _ (mP a (cb _ z)))));exact cb _ (cb _ (cb _ (cb _ z)))
 have S6:∀b∈fp,H b≠none:=λb hb=>by obtain⟨u,e,_⟩:=F.o5.mut b hb;rw[e];simp
 have each:∀b∈f1++(g++f2),b∈fp\/H b=none\/b∈N:=λb hb=>by
  rcases cR.mp hb with z|z
  exact .inl (mP b (cW _ z));rcases cR.mp z with z|z
  exact (S4 b z).imp (sub b) id;exact .inl (mP b (cb _ z))
 have Ih:∀b∈g,b∉f1++f2:=λb hb z=>by
  rcases S4 b hb with y|y|y
  exact out b z y;exact S6 b (mP b z) y;exact (hN b y).1 (mP b z)
 refine F.write I pK (by rw[hp];simp) ho hσ (λb' o e n=>fr b' o e λz=>n (sub b' z)) (fp':=f1++(g++f2)) ?_ ?_ (λb hb=>?_) λb hb=>?_;refine back (H':=H') (A':=roots O++((f1++(g++f2))++M.Ox)) go (λb' M9=>?_) (hy _ go);obtain⟨u,e,_⟩:=F.o5.mut b' (mP b' M9);rw[e];exact fr _ _ e (out b' M9);refine zZ.mpr ⟨n1.1,zZ.mpr ⟨ndg,n2.2.1,λa ha b hb z=>?_⟩,λa ha b hb z=>?_⟩;subst z;exact Ih a ha (cb _ hb);subst z;rcases cR.mp hb with y|y
 exact Ih a y (cW _ ha);exact n1.2.2 _ ha _ (cb _ y) rfl;rcases each b hb with z|z|z
 exact F.oy b z;refine⟨λy=>I.z7 b (cW _ y) z,λy=>I.z7 b (cb _ y) z⟩;exact⟨(hN b z).2.1,(hN b z).2.2.1⟩;rcases each b hb with z|z|z
 exact F.fr b z;cases e:M.H0 b with
 |none=>exact .inr rfl
 |some o=>refine .inl (Wf λn=>?_);rw[(F.kp b o e n).1] at z;cases z
 exact (hN b z).2.2.2
end
end VT
variable{M:VT.Mz}
namespace PySem
open Sem (wp)
section
variable{s:Shared}
variable{it:Addr}{o:Obj}{es:Array DictEntry}{ep:Nat}
end
end PySem
namespace VT
open PySem PySem.Spec PyProof.Rows L2
section
variable{a b:Expr}{fc:FE}
def adK:T->T
 |.pin _ t=>t
 |t=>t
def adL(f:FE):FE:=λρ Q=>f ρ λt=>Q (adK t)
theorem bR(h:VR X Z e fa):VR X Z e (adL fa):=.mk λtm=>PE.weak (h tm) λσ H Q ⟨ρ,O,q,I,hf,k⟩=>⟨ρ,O,_,I,hf,λt ht v H' s z=>by
 refine k _ ht v H' s ?_;cases t with
 |pin b t=>
  obtain z|⟨a,_,r⟩:=z
  simp only[At] at z;exact .inl z.2;exact r.elim
 |_=>exact z⟩
end
end VT
namespace PySem
open Sem (wp)
end PySem
namespace VT
open PySem PySem.Spec PyProof.Rows L2
structure MG where
 a:Addr
 dx:Addr
 a1:Addr
 a2:Addr
 C:Addr
 H0:Hp
 n1:a≠a1
 n2:a≠a2
 n3:a1≠a2
structure S2 where
 k1:List (List Key)
 t1:ο
 k2:List (List Key)
 t2:ο
section
variable{M:MG}{tm:qab}{s:S2}
noncomputable def vwO(b:Option T):Option (T×Bool):=b.map λt=>(t,false)
end
structure GEn where
 nx:En->S2->Prop
 rt:S2->T->Prop
 bk:En->S2->Prop:=λ_ _=>False
 ct:En->S2->Prop:=λ_ _=>False
abbrev FG2:=GEn->En->S2->Prop
section
variable{A:υ}
def At.frame{t:T}(here:∀b∈A,∃u,H b=some u/\kA u=true)(fr:∀b o,H b=some o->b∉A->H' b=some o)(h:At K H A t v):At K H' A t v:=by
 have rd:∀{a:Addr}{u:HO},a∉A->Rd H a u->Rd H' a u:=λn q=>q.elim (λz=>.inl (fr _ _ z n)) λ⟨o,z⟩=>.inr ⟨o,fr _ _ z n⟩;refine At.map (λa vs q=>q.elim (λz=>.inl ⟨rd z.2 z.1,z.2⟩) .inr) (λa vs q=>q.elim (λz=>.inl (rd (λm=>?_) z)) .inr) (λa u q=>⟨fr _ _ q.1 q.2,q.2⟩) h;obtain⟨u,e,mu⟩:=here a m;obtain z|⟨o,z⟩:=z
 rw[e] at z;cases z;cases mu;rw[e] at z;cases z;cases mu
end
section
variable{Gg:T->S2->(S2->T->Prop)->Prop}{Gli:ο->(qam)->Prop}
def S7(K:Γ)(H:Hp):ay K ⟨H,[],[]⟩ [] [] [] [] H:=⟨rfl,rfl,λi e h=>by simp at h,LA,λa h=>absurd h fA,λp hp=>absurd hp fA,λa h=>absurd h fA,λb o e _=>e,λp hp=>absurd hp fA⟩
end
section
variable{F1 F2:Str}
noncomputable def Ym(K:Γ)(C:Addr)(F1 F2:Str)(i n:Nat):TE:=λσ H Q=>∃v1 t1 p ks ts,σ[i]?=some (some v1)/\σ[n]?=some (some (.ref p))/\bZ t1=true/\At K H [] t1 v1/\At K H [] (.dk ks ts) (.ref p) /\
 ∀a dx u H3,aV H H3->H a=none->H3 a=some (.ins C dx ([F1,F2].zip [u,.ref p]))->At K H3 [] t1 u->Q (.ref a) H3
def S8{xC:Str}{kC:Nat}{fI:Addr}{Yn:FuncData}{psI:ν}{GI:ο->(T->Prop)->Prop}{pC pd1 VL pc:Pos}(MI:Mk X.K C fI)(FI:cD X.prog X.w X.K X.mg X.base eQ kC fI Yn psI (PZ X.K C 2 GI))(hGI:∀t1 t2 q,q (.ins C [F1,F2] [t1,t2])->GI [t1,t2] q)(rI:bG (kC+1) X.A)(gI:Gl X xC)(mI:X.mg xC=some (.ref C))(bI:Binds X.K Yn psI [])(hN:X.N[i]?=some x:=by rfl)(hv:kH X.env.scope x:=by exact jvv rfl)(hd:iq x:=by decide)(gm:uL x:=by decide)(hN2:X.N[n]?=some y:=by rfl)(hv2:kH X.env.scope y:=by exact jvv rfl)(hd2:iq y:=by decide)(adM:uL y:=by decide)(db1:iq xC:=by decide)(s1:starEach [.Name x pd1,.Name y VL] X.env=(false,eval (.Name x pd1) X.env)::starEach [.Name y VL] X.env:=by rfl)(s2:starEach [.Name y VL] X.env=(false,eval (.Name y VL) X.env)::starEach [] X.env:=by rfl)(s3:(backTo pc (starEach [.Name y VL] X.env)).any (·.1)=false:=by rfl):PE X (.Call (.Name xC pC) [.Name x pd1,.Name y VL] [] pc) (Ym X.K C F1 F2 i n) :=
 PE.weak (uT MI FI rI gI mI bI .nil jw (bO (cf hN hv hd gm) (bO (cf hN2 hv2 hd2 adM) dy s2) s1) db1 s1 s3) λσ H Q h=>by obtain⟨v1,t1,p,ks,ts,e1,e2,hi,a1,a2,k⟩:=h;refine⟨v1,e1,.ref p,e2,?_⟩;refine CZ (X:=X) (Z:=⟨_,[],[]⟩) (C:=C) (G:=GI) (Q:=Q) (q:=λr=>r=.fr (.ins C [F1,F2] [t1,.pin p (.dk ks ts)])) (S7 X.K _) (ts:=[t1,.pin p (.dk ks ts)]) (vs:=[v1,.ref p]) (aA.cons a1 (aA.cons ?_ aA.nil)) rfl (hGI _ _ (λu=>Rt.fr u=.fr (.ins C [F1,F2] [t1,.pin p (.dk ks ts)])) rfl) (λr er v H3 sm z=>?_);unfold At;exact⟨rfl,a2⟩;subst er;obtain⟨a,rfl,_,⟨dx,vs,hl,ea,hv⟩,n0,_⟩:=z;simp only[aA] at hv;obtain⟨u,_,rfl,h1,_,_,rfl,h2,rfl⟩:=hv;unfold At at h2;obtain⟨rfl,_⟩:=h2;exact k a dx u H3 sm n0 ea (At.bZ hi h1)
end
section
variable{A:υ}
theorem bw.snoc{z:S}{g:υ}:∀{xs:List S}{vs:v9}{fp:υ},bw K H A xs vs fp->cw K H A z v g->bw K H A (xs++[z]) (vs++[v]) (fp++g)
 |[],vs,fp,h,q=>by simp only[bw] at h;obtain⟨rfl,rfl⟩:=h;simp only[List.nil_append,bw];exact⟨v,[],g,[],rfl,by simp,q,rfl,rfl⟩
 |x::xs,vs,fp,h,q=>by simp only[bw] at h;obtain⟨v0,r,f,f2,rfl,rfl,h1,h2⟩:=h;simp only[QX,bw];exact⟨v0,r++[v],f,f2++g,rfl,by simp,h1,h2.snoc q⟩
end
theorem lp:∀{O:HD}{n:Nat}{p:Addr},(roots O).Nodup->O[n]?=some (some p)->p∉roots (O.set n none)
 |[],n,p,_,e=>by simp at e
 |o::O,0,p,h,e=>by cases e;simp only[roots,Pc,kr,id] at h ⊢;exact (lU.mp h).1
 |o::O,n+1,p,h,e=>by
  have e':O[n]?=some (some p):=by simpa using e
  cases o with
  |none=>simp only[roots,Gv,kr,id] at h ⊢;exact lp h e'
  |some a=>
   simp only[roots,Gv,kr,id] at h ⊢;have h2:=lU.mp h;intro z;rcases c0.mp z with y|y
   exact h2.1 (by rw[<- y];exact aN.mpr (gM e'));exact lp h2.2 e' y
section
variable{mk:Expr}{ps:List lg}{F1 F2:Str}
noncomputable def Yo(M:Mz)(ps:List lg)(C:Addr)(F1 F2:Str)(i n:Nat):FM:=λd ρ s=>∃ys t1 ks ts,s.get ps=some (.lst ys)/\ys.length<16777216/\M.k≠n/\ρ[i]?=some (some (t1,false))/\bZ t1=true/\ρ[n]?=some (some (.dk ks ts,true))/\eG ts=true/\(∀e∈ρ,fP e) /\
 d.nx (lj M (ρ.set n none) (s.put ps (.lst (ys++[.ins C [F1,F2] [.lf t1,.dk ks ts]])))) (s.put ps (.lst (ys++[.ins C [F1,F2] [.lf t1,.dk ks ts]])))
def Na(ho:PE X o (jG M.k ps))(he:PE X mk (Ym X.K C F1 F2 i n))(eU:attributeBase o "append" X.env (eval o X.env)=eval o X.env:=by rfl)(qo:((backTo bj (starEach [mk] X.env)).all (λx=>!x.1) && (backToKw bj (keywordEach [] X.env)).all (λx=>x.1.isSome)
    && decide (([mk]:qap).length+([]:List Keyword).length+(if ([]:List Keyword).isEmpty then 0 else 1)<30))=true:=by rfl)(eV:(apos.endLine==bj.line)=true:=by rfl)(hs:starEach [mk] X.env=(false,eval mk X.env)::starEach [] X.env:=by rfl)(gp:(backTo bj (starEach [] X.env)).any (·.1)=false:=by rfl)(Ma:swapsWith (.Call (.Attribute o "append" apos) [mk] [] bj) none pos.line X.env=pure false:=by rfl) :
  MS X M (.Expr (.Call (.Attribute o "append" apos) [mk] [] bj) pos) (Yo M ps C F1 F2 i n):=⟨λγ s' σ H D J ⟨ρ,s,d,⟨⟨O,fp,F,I⟩,hp⟩,hg,Fi⟩=>by
 obtain⟨ys,t1,ks,ts,EK,hlen,A_,hi,hi1,hn,gh,pK,hq⟩:=hg;obtain⟨w,f1,f,f2,A9,ev,Yg,_⟩:=F.o5.focus EK;have ym:=Yg;simp only[cw] at ym;obtain⟨l,xs,fq,rfl,hl,rfl,hL⟩:=ym;have hlf:l∈fp:=by rw[A9];simp
 obtain⟨_,hσ⟩:=c7 I hp;obtain⟨_,_,_,z1,rfl,v1,rfl,b1⟩:=I.sl i _ hi;obtain⟨p,hO,z2,hR⟩:=I.root hn;have VM:p∈roots O:=aN.mpr (gM hO);obtain⟨vs,hlk,Yp,hvs⟩:=hR;have npl:p≠l:=λz=>(F.oy l hlf).1 (by rw[<- z];exact VM);refine l0 (xH Wh qe qf bq ho (bO he dy hs) eU qo eV hs gp) Ma γ s' σ H D J
  ⟨.ref M.a,.ref l,hσ,ev,.inl ⟨rfl,xs,gN.of hl⟩,v1,t1,p,ks,ts,z1,z2,hi1,At.bZ hi1 b1,?_,λa dx u H3 sm na ea au=>?_⟩
 simp only[At];exact⟨p,vs,rfl,hlk,⟨Yp,λz=>nomatch z⟩,hvs.bz λb hb=>nomatch hb⟩;have I3f:=(I.same sm).forget (i:=n) (λp hp=>absurd hp fA);have F3:=F.now I3f (bM I);have I3:=I3f.rebase (Z:=zf M O H) rfl;have hp3:(ρ.set n none)[M.k]?=some (some (.pin M.a s.t,false)):=by rw[xi (Ne.symm A_)];exact hp
 have adN:∀e∈ρ.set n none,fP e:=λe he=>by
  rcases QQ he with z|z
  exact pK e z;rw[z];trivial
 have FN:cw X.K H3 ([p,a]++(roots (O.set n none)++(fp++M.Ox))) s (.ref M.a) fp:=(F.o5.more λb hb=>by
  rcases cR.mp hb with z|z
  simp only[c0,fA,π] at z;obtain rfl|rfl:=z
  exact .inl (cW _ VM);exact .inr na;rcases cR.mp z with z|z
  exact .inl (cW _ (cq n b z));exact .inl (cb _ z)).same sm
 have S6:∀b∈fp,H b≠none:=λb hb=>by obtain⟨u,e,_⟩:=F.o5.mut b hb;rw[e];simp
 have hN:∀b∈[p,a],b∉fp/\b∉roots (O.set n none)/\b∉M.Ox/\(b∈M.ub\/M.H0 b=none):=λb hb=>by
  simp only[c0,fA,π] at hb;obtain rfl|rfl:=hb
  refine⟨λz=>(F.oy _ z).1 VM,lp I.nd hO,(I.own _ VM).2.1,?_⟩;cases e:M.H0 b with
  |none=>exact .inr rfl
  |some o=>exact .inl (Wf λn=>(F.kp b o e n).2 VM)
  refine⟨λz=>S6 _ z na,λz=>I.z7 _ (cW _ (cq n _ z)) na,λz=>I.ox _ z na,?_⟩;cases e:M.H0 b with
  |none=>exact .inr rfl
  |some o=>refine .inl (Wf λn=>?_);have:=(F.kp b o e n).1;rw[na] at this;cases this
 obtain⟨w2,f',Ie,hS,sub,nd,wr⟩:=F3.putN FN hN I3 hp3 adN EK;rw[gB sm ev] at Ie;cases Ie;have uj:=hS;simp only[cw] at uj;obtain⟨l',Gk,M_,e',z5,rfl,Yh⟩:=uj;cases e';have nal:a≠l:=λz=>S6 l hlf (by rw[<- z];exact na);have nap:a≠p:=λz=>by rw[z,Yp] at na;cases na
 have nl:=lU.mp nd;refine⟨l,Gk,.ref a,rfl,rfl,z5,by rw[ξ,Yh.length];omega,?_⟩;refine Fi.nx _ _ σ _ (wr (H':=upd H3 l (.lst (Gk++[.ref a]))) (g:=l::(M_++[a,p])) (y:=.lst (ys++[.ins C [F1,F2] [.lf t1,.dk ks ts]])) (λb o e n=>?_) ?_ (λb hb=>?_) λA' go=>?_) hq;rw[aB λz=>n (by rw[z];exact dD)];exact e;refine lU.mpr ⟨λz=>?_,zZ.mpr ⟨nl.2,by simp[nap],λx hx y hy z=>?_⟩⟩;rcases cR.mp z with z|z
 exact nl.1 z;simp only[c0,fA,π] at z;obtain z|z:=z
 exact nal z.symm;exact npl z.symm;subst z;have hxf:x∈fp:=sub x (gT _ hx);simp only[c0,fA,π] at hy;obtain rfl|rfl:=hy
 exact S6 _ hxf na;exact (F.oy _ hxf).1 VM;rcases c0.mp hb with z|z
 exact .inl (by rw[z];exact dD);rcases cR.mp z with z|z
 exact .inl (gT _ z);refine .inr (.inr ?_);simp only[c0,fA,π] at z ⊢;exact z.symm;simp only[cw];refine⟨l,Gk++[.ref a],M_++[a,p],rfl,aG,rfl,(Yh.map go λb hb=>aB λz=>?_).snoc ?_⟩;subst z;exact nl.1 hb;have hR':c5 X.K (upd H3 l (.lst (Gk++[.ref a]))) A' p (.dk ks ts):=c5.bZ (t:=.dk ks ts) (A:=av (zf M O H) O) gh ⟨vs,hlk,Yp,hvs⟩ (by rw[aB npl,sm _ _ Yp,Yp]) λt v hi q=>go t v (At.bZ hi (q.same sm));obtain⟨jB,adO,adP,adQ⟩:=hR';simp only[cw,bw];exact⟨a,dx,[u,.ref p],[p],rfl,rfl,by rw[aB nal];exact ea,rfl,u,[.ref p],[],[p],rfl,rfl,⟨rfl,go t1 u (At.bZ hi1 au)⟩,.ref p,[],[p],[],rfl,rfl,⟨p,jB,rfl,rfl,adO,adP,adQ⟩,rfl,rfl⟩⟩
end
noncomputable def jj(K:Γ)(n:Nat)(G:ο->S->(S->T->Prop)->Prop):Sp:=λvs H Q _=>∃(a:Addr)(Ox fp:υ)(s:S)(us:ο)(ws:v9)(q:S->T->Prop),vs=.ref a::ws/\fp.Nodup/\cw K H (fp++Ox) s (.ref a) fp/\(∀b∈fp,b∉Ox)/\(∀b∈Ox,H b≠none) /\
 us.length=n/\aA K H Ox us ws/\G us s q /\
 ∀s' t,q s' t->∀v H' fp',(∀b o,H b=some o->b∉fp->H' b=some o)->fp'.Nodup->(∀b∈fp',b∈fp\/H b=none)->(∀b∈fp',b∉Ox)->cw K H' (fp'++Ox) s' (.ref a) fp'->bZ t=true->At K H' [] t v->Q v H'
section
def Gn{st:Stmt}{N:ν}{k:Nat}{G:ο->S->(S->T->Prop)->Prop}(F:Cu K x qual st f fd)(S:az N ps (ai st))(hn:n+1=ps.length)(hN:n+1<=N.length)(dF:∀(bF:Value) (A:Around) (outer:List Env) (s:Shared) (H:Hp) (E:XK) (M:Mz),M.k=0->bG k (A.deeper (envOfC qual (ai st) s.heap.objs.size f bF))->∀us s0 q,G us s0 q->us.length=n ->
    ∃g,EI (fN eQ P w K mg base N qual (ai st) f bF A outer s H E).pA M (bE st) g/\g {nx:=λ_ s'=>q s' .aO,rt:=λ_ s' r=>∃t,r=.vw t/\bZ t=true/\q s' t} (some (.pin M.a s0.t,false)::(us.map (λt=>some (t,false))++List.replicate (N.length-(n+1)) none)) s0) :
  cD P w K mg base eQ (k+1) f fd ps (jj K n G):=by
 refine F.ok S (λvs H Q E h=>?_) (λbF A outer s H vs Q E hr h=>?_);obtain⟨a,Ox,fp,s,us,ws,q,rfl,_,_,_,_,hu,hA,_⟩:=h;rw[xk,hA.length,hu];exact hn;obtain⟨a,Ox,fp,s0,us,ws,q,rfl,nd,o5,oy,ox,hu,hA,hG,kk⟩:=h;obtain⟨g,hg,hq⟩:=dF bF A outer s H E ⟨H,fp,Ox,a,0⟩ rfl hr us s0 q hG hu;have view:At K H Ox s0.t (.ref a):=o5.view (λb hb=>cb _ hb) oy;have env:=kf (K:=K) (N:=N) (H:=H) (Ox:=Ox) (ts:=.pin a s0.t::us) (vs:=.ref a::ws) (by rw[xk,hu];exact hN) ox (aA.cons (by simp only[At];exact⟨trivial,view⟩) hA);have fin:∀(ρ:En)(s':VT.S)(σ:St)(H':Hp)(O:HD)(fp':υ)(t:T)(v:V),Mf K ⟨H,fp,Ox,a,0⟩ O fp' s' H'->bZ t=true->(∃A,At K H' A t v)->q s' t->Q v H':=λρ s' σ H' O fp' t v F' hi ⟨A,av⟩ hq=>
  kk s' t hq v H' fp' (λb o e n=>(F'.kp b o e n).1) F'.nd F'.fr (λb hb=>(F'.oy b hb).2) (F'.o5.bz λb hb=>cb _ hb) hi (At.bZ hi av)
 refine⟨_,hg.h,_,s0,_,⟨⟨List.replicate N.length none,fp,⟨?_,nd,λb hb=>⟨by rw[dI];simp,oy b hb⟩,λb hb=>.inl hb,λb o e _=>⟨e,by rw[dI];simp⟩⟩,?_⟩,?_⟩,hq,⟨λρ s' σ H' S' z=>?_,λρ s' σ H' r v O fp' Of Hf F' cT R z=>?_,λ_ _ _ _ _ z=>z.elim,λ_ _ _ _ _ z=>z.elim⟩⟩;rw[dI];exact o5;have e:=env.rebase rfl;have ln:(T.pin a s0.t::us).length=n+1:=by rw[xk,hu]
 rw[ln] at e;exact e;rfl;obtain⟨⟨O,fp',F',I'⟩,_⟩:=S';exact fin ρ s' σ H' O fp' .aO .aO F' rfl ⟨[],by simp only[At]⟩ z;obtain⟨t,rfl,hi,z⟩:=z;exact fin ρ s' σ H' O fp' t v (F'.now R.1 cT) hi ⟨_,R.2⟩ z
end
section
noncomputable def C4(M:Mz)(n:Nat)(G:ο->S->(S->T->Prop)->Prop)(fa:FA):FM:=λd ρ s=>(∀e∈ρ,fP e)/\fa ρ λus=>us.length=n/\G us s λs' _=>d.nx (lj M ρ s') s'
def yn{G:ο->S->(S->T->Prop)->Prop}{s:S}{us:ο}{ws:v9}{q:S->T->Prop}{Q:VK}{E:XK}(F:Mf K M O fp s H)(I:ay K (zf M O H) [] O ρ σ H)(hp:ρ[M.k]?=some (some (.pin M.a s.t,false)))(pK:∀e∈ρ,fP e)(hu:us.length=n)(ha:aA K H (roots O++M.Ox) us ws)(hG:G us s q)(k:∀s' t,q s' t->∀v H',mO K M (lj M ρ s') s' σ H'->bZ t=true->At K H' [] t v->Q v H'):jj K n G (.ref M.a::ws) H Q E:=by
 obtain⟨ho,hσ⟩:=c7 I hp;refine⟨M.a,roots O++M.Ox,fp,s,us,ws,q,rfl,F.nd,F.o5.bz λb hb=>?_,λb hb z=>?_,I.z7,hu,ha,hG,λs' t hq v H' fp' fr nd each oy o5 hi av=>?_⟩;rcases cR.mp hb with z|z
 exact cb _ (cW _ z);rcases cR.mp z with z|z
 exact cW _ z;exact cb _ (cb _ z);rcases cR.mp z with z|z
 exact (F.oy b hb).1 z;exact (F.oy b hb).2 z;refine k s' t hq v H' (F.write I pK (by rw[hp];simp) ho hσ fr (fp':=fp') (o5.bz λb hb=>?_) nd (λb hb=>⟨λz=>oy b hb (cW _ z),λz=>oy b hb (cb _ z)⟩) λb hb=>?_) hi av;rcases cR.mp hb with z|z
 exact cb _ (cW _ z);rcases cR.mp z with z|z
 exact cW _ z;exact cb _ (cb _ z);rcases each b hb with z|z
 exact F.fr b z;cases e:M.H0 b with
 |none=>exact .inr rfl
 |some o=>refine .inl (Wf λn=>?_);rw[(F.kp b o e n).1] at z;cases z
def Nb{k:Nat}{G:ο->S->(S->T->Prop)->Prop}{fa:FA}(Fo:cD X.prog X.w X.K X.mg X.base eQ k f fd ps (jj X.K n G))(hr:bG k X.A)(hg:Gl X x)(hm:X.mg x=some (.ref f))(hk:W.keepIn X.K (.ref f)=true)(hb:Binds X.K fd ps [])(ha:∀H0,VA X ⟨H0,[],M.Ox⟩ es fa)(hN:X.N[M.k]?=some y)(hv:kH X.env.scope y:=by exact jvv rfl)(hd:iq y:=by decide)(gm:uL y:=by decide)(l_:iq x:=by decide)(he:starEach (.Name y p1::es) X.env=(false,eval (.Name y p1) X.env)::starEach es X.env:=by rfl)(gO:(backTo bj (starEach es X.env)).any (·.1)=false:=by rfl)(hs:swapsWith (.Call (.Name x p) (.Name y p1::es) [] bj) none pos.line X.env=pure false:=by rfl) :
  MS X M (.Expr (.Call (.Name x p) (.Name y p1::es) [] bj) pos) (C4 M n G fa):=⟨λγ s' σ H D J ⟨ρ,s,d,⟨⟨O,fp,F,I⟩,hp⟩,Nc,Fi⟩=>by
 obtain⟨pK,Nc⟩:=Nc;obtain⟨_,hσ⟩:=c7 I hp;refine l0 (j9 Fo hr hg hm hk hb .nil jw (bO (cf hN hv hd gm) (ha (nI H (roots O)) []) he) l_ he gO) hs γ s' σ H D J ⟨.ref M.a,hσ,ρ,O,_,I,Nc,λus RT ws H1 s1 a1=>?_⟩;obtain⟨hu,hG⟩:=RT;have I0:=I.same s1;have F1:=F.now I0 (bM I);have I1:=I0.rebase (Z:=zf M O H) rfl;rw[DX];exact yn F1 I1 hp pK hu a1 hG λs2 t hq v H' S' _ _=>Fi.nx _ _ σ H' S' hq⟩
end
section
def eY{k k':Nat}{G:ο->S->(S->T->Prop)->Prop}{fa:FA}(C:bV X.prog X.w X.K X.mg X.base x ps k (jj X.K n G))(hr:bG k' X.A)(ha:∀H0,VA X ⟨H0,[],M.Ox⟩ es fa)(hN:X.N[M.k]?=some y)(hg:Gl X x:=by rfl)(hk:k<=k':=by decide)(hv:kH X.env.scope y:=by exact jvv rfl)(hd:iq y:=by decide)(gm:uL y:=by decide)(l_:iq x:=by decide)(he:starEach (.Name y p1::es) X.env=(false,eval (.Name y p1) X.env)::starEach es X.env:=by rfl)(gO:(backTo bj (starEach es X.env)).any (·.1)=false:=by rfl)(hs:swapsWith (.Call (.Name x p) (.Name y p1::es) [] bj) none pos.line X.env=pure false:=by rfl) :
  MS X M (.Expr (.Call (.Name x p) (.Name y p1::es) [] bj) pos) (C4 M n G fa):=by
 obtain⟨f,fd,h1,h2,h3,F⟩:=C;exact Nb F (hr.mono hk) hg h1 h2 h3 ha hN hv hd gm l_ he gO hs
end
end VT
namespace NK
open PySem PySem.Spec PySem.Calls PyProof.Rows L2
abbrev CK:=List Key×Key
def yo(P:Program)(w:World)(h:Heap)(c:CK)(a:Addr):Prop:=∃o items n b v,h.get? a=some o/\o.cls=.type "tuple"/\o.data=.seq items n/\items.toList=[.ref b,v]/\IsTupleKey (aT P w) h c.1 b/\(aT P w).is c.2 v=true
def yo.typeIs{s:Shared}{c:CK}(x:yo P w s.heap c a):s.TypeIs (.ref a) "tuple":=let ⟨o,_,_,_,_,ho,hc,_⟩:=x;⟨o,ho,hc⟩
def yo.inj{x y:CK}(hx:yo P w h x a)(hy:yo P w h y a):x=y:=by
 obtain⟨o,items,n,b,v,ho,_,hd,hi,h1,h2⟩:=hx;obtain⟨o',adR,n',b',v',kJ,_,z4,Ek,Ht,Hu⟩:=hy;obtain rfl:o=o':=Option.some.inj (ho.symm.trans kJ);rw[hd] at z4;injection z4 with e1 _
 subst e1;rw[hi] at Ek;injection Ek with e2 e3
 injection e2 with e2
 injection e3 with e3 _
 subst e2;subst e3;exact Prod.ext (h1.inj Ht) ((aT P w).inj _ _ _ h2 Hu)
def yo.keeps{c:CK}{o:Obj}{es ep}(x:yo P w h c a)(ho:h.get? d=some o)(hd:o.data=.dict es ep)(hs:Heap.SameBut d h h'):yo P w h' c a:=by
 obtain⟨o',items,n,b,v,kJ,hc,z4,hi,h1,h2⟩:=x;have gc:a≠d:=by rintro rfl;obtain rfl:o'=o:=Option.some.inj (kJ.symm.trans ho);rw[hd] at z4;exact nomatch z4
 exact⟨o',items,n,b,v,(hs.2 a gc).trans kJ,hc,z4,hi,h1.keeps ho hd hs,h2⟩
noncomputable def bJ(P:Program)(w:World)(c:CK):Int:=reduceHash (Builtin.Tuple.tupleHashOf [tupleKeyHash (aT P w) c.1,(aT P w).hash c.2])
variable{s:Shared}
def qW{c:CK}{Q:Int->Shared->Prop}(hu:A.units+2<cLine)(hk:yo P w s.heap c a)(h:Q (bJ P w c) {s with toks:=s.toks+(c.1.length+3)}):wpAny (model P w) A (pyHash (.ref a)) Q E s:=by
 have hT:=hk.typeIs;obtain⟨o,items,n,b,v,ho,_,hd,hi,h1,h2⟩:=hk;unfold pyHash
 first|unfold pyHashByItsType|skip
 first|refine δ (wpAny_cRoomFor_or (.inr (by omega)) ?_)|skip
 refine δ (Ω hT F.slot_tuple_hash.lookup ?_);show wpAny _ _ (if (some (Value.builtin "tuple.__hash__")==some Value.none)=true then _ else _) Q E s;rw[ζ (by rw[beq_builtin_none];exact iM)];refine δ (Ω hT F.slot_tuple_hash.lookup ?_);show wpAny _ _ (callSpecialIfBoundUnlessNone? (.ref a) "__hash__" _ >>= _) Q E s;refine δ (aad hT F.slot_tuple_hash (P2 F.slot_tuple_hash hT F.entry_tuple_hash ?_ (F.args_tuple_hash_1 _)));show wpAny _ _ (Builtin.Tuple.tupleItemsOf (.ref a) >>= _) _ _ s;refine δ (aar ho hd ?_);refine δ ?_;rw[<- Array.forIn_toList,hi];refine aac _
  (λrest (hs:Array Int) s'=>(rest=[.ref b,v]/\hs=#[]/\s'=s)\/(rest=[v]/\hs=#[tupleKeyHash (aT P w) c.1]/\s'={s with toks:=s.toks+(c.1.length+1)})\/(rest=[]/\hs=#[tupleKeyHash (aT P w) c.1,(aT P w).hash c.2]/\s'={s with toks:=s.toks+(c.1.length+1)+1}))
  _ ?_ ?_ _ _ (.inl ⟨rfl,rfl,rfl⟩)
 rintro x rest hs s' (⟨e,rfl,rfl⟩|⟨e,rfl,rfl⟩|⟨e,_⟩);cases e;refine δ (wpAny_pyHash_tuple (knd:=aT P w) (by show A.units+1<cLine;omega) h1 ?_)
 first
  |exact η (.inr (.inl ⟨rfl,rfl,rfl⟩))
  |exact δ (η (η (.inr (.inl ⟨rfl,rfl,rfl⟩))))
 cases e;refine δ ((aT P w).pyHash h2 ?_)
 first
  |exact η (.inr (.inr ⟨rfl,rfl,rfl⟩))
  |exact δ (η (η (.inr (.inr ⟨rfl,rfl,rfl⟩))))
 cases e;rintro hs s' (⟨e,_⟩|⟨e,_⟩|⟨_,rfl,rfl⟩);cases e;cases e;show wpAny _ _ (retInt (Builtin.Tuple.tupleHashOf [tupleKeyHash (aT P w) c.1,(aT P w).hash c.2])) _ _ _;refine wpAny_ret_mkInt ?_;have ht:s.toks+(c.1.length+1)+1+1=s.toks+(c.1.length+3):=by omega
 unfold bJ reduceHash at h;generalize Builtin.Tuple.tupleHashOf [tupleKeyHash (aT P w) c.1,(aT P w).hash c.2]=z at h ⊢;show wpAny _ _ (if (decide (-(2:Int) ^ 63<=z) && decide (z<2 ^ 63))=true then _ else _) Q E _;by_cases hr:(decide (-(2:Int) ^ 63<=z) && decide (z<2 ^ 63))=true;rw[ε hr];rw[ε hr] at h;exact η (by rw[<- ht] at h;exact h);rw[ζ hr];rw[ζ hr] at h;exact δ (wpAny_rule (η (by rw[<- ht] at h;exact h)))
def EM{x y:CK}{R:Fin->Shared->Prop}(hu:A.units<cLine)(hx:yo P w s.heap x a)(hy:yo P w s.heap y b)(h:R (.done (.ret (.bool (decide (x=y))))) s) :
  wpAny (model P w) A (Builtin.«tuple.__eq__» ⟨[.ref a,.ref b],[]⟩) R E s:=by
 have hTb:=hy.typeIs;obtain⟨oa,xs,na,ba,va,hoa,_,hda,hia,ka,la⟩:=hx;obtain⟨ob,ys,nb,bb,vb,hob,_,l_,hib,kb,lb⟩:=hy;show wpAny _ _ (isInstance (.ref b) (.type "tuple") >>= _) _ _ s;refine δ (wpAny_isInstance hTb aak ?_);simp only[Lf,Gf,P1];refine δ (aar hoa hda ?_);refine δ (aar hob l_ ?_);refine δ ?_;have sx:(xs.size==ys.size)=true:=by rw[<- La,<- La,hia,hib];rfl
 have dec:decide (x=y)=(decide (x.1=y.1) && decide (x.2=y.2)):=by rw[QZ];simp[Prod.ext_iff]
 refine aac _
  (λrest r s'=>r.1=none/\s'=s/\((rest=List.zip xs.toList ys.toList)\/(rest=[(va,vb)]/\x.1=y.1)\/(rest=[]/\x=y))) _ ?_ ?_ _ _ ⟨rfl,rfl,.inl rfl⟩
 rintro⟨u,v⟩ rest r s' ⟨hr,rfl,h3⟩;obtain e|⟨e,e1⟩|⟨e,_⟩:=h3
 rw[hia,hib] at e;simp only[Ly,List.zip_nil_right,List.cons.injEq,Prod.mk.injEq] at e;obtain⟨⟨rfl,rfl⟩,rfl⟩:=e;refine δ (wpAny_eqBool_tuple hu ka kb ?_);by_cases hk:x.1=y.1;rw[μ hk];simp only[Lf,Gf,P1];exact η ⟨rfl,rfl,.inr (.inl ⟨trivial,hk⟩)⟩;rw[ι hk];simp only[Bool.not_false,aan];have hf:decide (x=y)=false:=by rw[dec,ι hk];rfl
 rw[hf] at h;exact δ (η (η (η h)));simp only[List.cons.injEq,Prod.mk.injEq] at e;obtain⟨⟨rfl,rfl⟩,rfl⟩:=e;refine δ ((aT P w).eqBool la lb ?_);by_cases hk:x.2=y.2;rw[μ hk];simp only[Lf,Gf,P1];exact η ⟨rfl,rfl,.inr (.inr ⟨trivial,Prod.ext e1 hk⟩)⟩;rw[ι hk];simp only[Bool.not_false,aan];have hf:decide (x=y)=false:=by rw[dec,ι hk,Bool.and_false]
 rw[hf] at h;exact δ (η (η (η h)));cases e
 . rintro⟨r1,r2⟩ s' ⟨hr,rfl,h3⟩;simp only at hr;subst hr;refine η ?_;show R (.done (.ret (.bool (xs.size==ys.size)))) s';rw[sx];obtain e|⟨e,_⟩|⟨_,e⟩:=h3
   rw[hia,hib] at e;cases e;cases e;rw[μ e] at h;exact h
def Ij{x y:CK}{Q:Bool->Shared->Prop}(hu:A.units+2<cLine)(hx:yo P w s.heap x a)(hy:yo P w s.heap y b)(h:Q (decide (x=y)) s) :
  wpAny (model P w) A (eqBool (.ref a) (.ref b)) Q E s:=by
 unfold eqBool
 try with_reducible refine Φ ?_
 show wpAny _ _ (if (Value.ref a==Value.ref b)=true then _ else _) Q E s;by_cases hab:(Value.ref a==Value.ref b)=true;rw[ε hab];have e:a=b:=by have:=eq_of_beq hab;injection this
 subst e;obtain rfl:=hx.inj hy;exact δ (wpAny_rule (η (by simpa using h)));rw[ζ hab];exact δ (wpAny_richCompare_same_room (op:=.Eq) hx.typeIs hy.typeIs F.slot_tuple_eq
  (P2 F.slot_tuple_eq hx.typeIs F.entry_tuple_eq (EM (by show A.units+1<cLine;omega) hx hy ⟨_,rfl,(λe=>nomatch e),χ h⟩) (F.args_tuple_eq_2 _ _)) (by omega))
def S9{Q:Bool->Shared->Prop}(hk:IsTupleKey (aT P w) s.heap ks a)(h:Q true s):wpAny (model P w) A (eqIsQuiet (n+1) (.ref a)) Q E s:=by have hT:=hk.typeIs;obtain⟨o,items,n,ho,_,hd,hi⟩:=hk;unfold eqIsQuiet;refine δ (Ω hT F.slot_tuple_eq.lookup ?_);show wpAny _ _ (isInstance (.ref a) (.type "tuple") >>= _) _ _ s;refine δ (wpAny_isInstance hT aak ?_);simp only[Lf,Gf,P1];refine δ (aas ho hd ?_);refine δ ?_;show wpAny _ _ (forIn items _ _) _ _ s;rw[<- Array.forIn_toList];refine aac _ (λrest r s'=>r.1=none/\s'=s/\∀v∈rest,carriedByValue v=true) _ ?_ ?_ _ _ ⟨rfl,rfl,hi.byValue⟩;rintro v rest r s' ⟨hr,rfl,sQ⟩;rw[eqIsQuiet_byValue _ (sQ v dD)];refine δ (η ?_);simp only[Lf,Gf,P1];exact η ⟨rfl,rfl,λu gP=>sQ u (gT _ gP)⟩;rintro⟨r1,r2⟩ s' ⟨hr,rfl,_⟩;simp only at hr;subst hr;exact η h
def C5{c:CK}{Q:Bool->Shared->Prop}(hk:yo P w s.heap c a)(h:Q true s):wpAny (model P w) A (eqIsQuiet 8 (.ref a)) Q E s:=by have hT:=hk.typeIs;obtain⟨o,items,n,b,v,ho,_,hd,hi,h1,h2⟩:=hk;unfold eqIsQuiet;refine δ (Ω hT F.slot_tuple_eq.lookup ?_);show wpAny _ _ (isInstance (.ref a) (.type "tuple") >>= _) _ _ s;refine δ (wpAny_isInstance hT aak ?_);simp only[Lf,Gf,P1];refine δ (aas ho hd ?_);refine δ ?_;show wpAny _ _ (forIn items _ _) _ _ s;rw[<- Array.forIn_toList,hi];refine aac _ (λrest r s'=>r.1=none/\s'=s/\(rest=[.ref b,v]\/rest=[v]\/rest=[])) _ ?_ ?_ _ _ ⟨rfl,rfl,.inl rfl⟩;rintro u rest r s' ⟨hr,rfl,e|e|e⟩;cases e;refine δ (S9 h1 ?_);simp only[Lf,Gf,P1];exact η ⟨rfl,rfl,.inr (.inl trivial)⟩;cases e;rw[eqIsQuiet_byValue _ ((aT P w).byValue _ _ h2)];refine δ (η ?_);simp only[Lf,Gf,P1];exact η ⟨rfl,rfl,.inr (.inr trivial)⟩;cases e;rintro⟨r1,r2⟩ s' ⟨hr,rfl,_⟩;simp only at hr;subst hr;exact η h
noncomputable def yp(P:Program)(w:World):HeapKind P w CK where
 is:=yo P w
 hash:=bJ P w
 draws:=λc=>c.1.length+3
 room:=λA=>A.units+2<cLine
 inj:=λhx hy=>hx.inj hy
 keeps:=λx ho hd hs=>x.keeps ho hd hs
 pyHash:=λhu hk h=>qW hu hk h
 eqBool:=λhu hx hy h=>Ij hu hx hy h
 quiet:=λhk h=>C5 hk h
variable{s:Shared}
def yq{Q:Int->Shared->Prop}(hu:A.units<cLine)(h:∀z t,Q z {s with toks:=t}):wpAny (model P w) A (pyHash .none) Q E s:=by
 unfold pyHash
 first|unfold pyHashByItsType|skip
 first|refine δ (wpAny_cRoomFor_or (.inr (by omega)) ?_)|skip
 have hT:s.TypeIs .none "NoneType":=rfl;refine δ (Ω hT ZW.lookup ?_);show wpAny _ _ (if (some (Value.builtin "NoneType.__hash__")==some Value.none)=true then _ else _) Q E s;rw[ζ (by rw[beq_builtin_none];exact iM)];refine δ (Ω hT ZW.lookup ?_);show wpAny _ _ (callSpecialIfBoundUnlessNone? .none "__hash__" _ >>= _) Q E s;refine δ (aad hT ZW (P2 ZW hT F.entry_NoneType_hash ?_ (F.args_NoneType_hash_1 _)));show wpAny _ _ (retInt 4238894112) _ _ s;refine wpAny_ret_mkInt ?_;show wpAny _ _ (if (decide (-(2:Int) ^ 63<=4238894112) && decide ((4238894112:Int)<2 ^ 63))=true then _ else _) Q E _;rw[ε (by decide)];exact η (h _ _)
def Ik{κ:Type}{v0:Value}{en:κ×Addr×Value->DictEntry}(h0:v0=.none\/∃i t,v0=.int i t)(hen:∀x,(en x).key=.ref x.2.1){o:Obj}{es ep}{xs:List (κ×Addr×Value)}{z:Int}{Q:Option Nat->Shared->Prop}(ho:s.heap.get? d=some o)(hd:o.data=.dict es ep)(he:es.toList=xs.map en)(Eo:∀x∈xs,SeqAt.EqAt A s (.ref x.2.1) v0 false/\∀{Q:Bool->Shared->Prop},Q true s->wpAny (model P w) A (eqIsQuiet 8 (.ref x.2.1)) Q E s)(hq:Q none s) :
  wpAny (model P w) A (dictFind d v0 z) Q E s:=by
 have hv:carriedByValue v0=true:=by obtain rfl|⟨i',ti,rfl⟩:=h0<;>rfl
 have tell:∀l:Ψ,(∀v∈l,∃x∈xs,v=.ref x.2.1)->∀{Q':Bool->Shared->Prop},Q' false s->wpAny (model P w) A (tableMayTell v0 l) Q' E s:=λl GF Q' eS=>by unfold tableMayTell;split;exact η eS;rw[eqIsQuiet_byValue _ hv];refine δ (η ?_);simp only[Lf,Gf,P1];refine δ ?_;refine aac _ (λrest r s'=>s'=s/\r=(none,())/\∀v∈rest,∃x∈xs,v=.ref x.2.1) _ ?_ ?_ _ _ ⟨rfl,rfl,GF⟩;rintro x rest r s' ⟨rfl,rfl,hr⟩;obtain⟨y,hy,rfl⟩:=hr x dD;refine δ ((Eo y hy).2 ?_);simp only[Lf,Gf,P1];exact η ⟨rfl,rfl,λv hv=>hr v (gT _ hv)⟩;rintro r s' ⟨rfl,rfl,_⟩;exact η eS
 obtain rfl|⟨i',ti,rfl⟩:=h0
 all_goals
  have Il:∀e∈es,∃x∈xs,e=en x:=by intro e VN;have:e∈xs.map en:=he▸Array.mem_toList_iff.mpr VN;obtain⟨x,hx,rfl⟩:=xn.mp this;exact⟨x,hx,rfl⟩
  have GF:∀v∈(placesWithHash es.size (λi=>es[i]?.map (·.hash)) z).filterMap (λi=>es[i]?.map (·.key)),∃x∈xs,v=.ref x.2.1:=by
   intro v hv;obtain⟨i,_,hi⟩:=ZX.mp hv;cases P6:es[i]? with
   |none=>rw[P6] at hi;cases hi
   |some e=>
     rw[P6] at hi;obtain rfl:e.key=v:=by simpa using hi
     obtain⟨x,hx,rfl⟩:=Il e (Array.mem_of_getElem? P6);exact⟨x,hx,hen x⟩
  unfold dictFind
  try with_reducible refine Φ ?_
  refine δ (wpAny_dictEntries ho hd ?_);dsimp only;have gO:∀i∈placesWithHash es.size (λi=>es[i]?.map (·.hash)) z,∃e,es[i]?=some e:=λi hi=>by
   unfold placesWithHash at hi;have:=(Vr.mp hi).2;cases P6:es[i]? with
   |none=>have P7:(es[i]?.map (·.hash)==some z)=true:=this;rw[P6] at P7;simp at P7
   |some e=>exact⟨e,rfl⟩
  generalize placesWithHash es.size (λi=>es[i]?.map (·.hash)) z=places at GF gO ⊢;cases places with
  |nil=>rw[ε (by rfl)];unfold dictWalkPlain;refine δ ?_;rw[List.forIn_nil];exact η (η hq)
  |cons i0 places=>
    obtain⟨e0,h0⟩:=gO i0 dD;have gc:(i0::places).filterMap (λi=>es[i]?.map (·.key))=e0.key::places.filterMap (λi=>es[i]?.map (·.key)):=by rw[kr,h0];rfl
    obtain⟨x0,_,oz⟩:=GF e0.key (by rw[gc];exact dD);rw[ζ (by rw[gc,oz];simp[carriedByValue])];rw[ζ (by rw[gc,oz];intro hc;injection eq_of_beq hc with e1 _;cases e1)];refine δ (tell _ GF ?_);rw[ζ (by simp)];refine δ ?_;refine aac _ (λrest b s'=>s'=s/\b=(none,none)/\∀i∈rest,∃e,es[i]?=some e) _ ?_ ?_ _ _ ⟨rfl,rfl,gO⟩;rintro i rest b s' ⟨rfl,rfl,hr⟩;obtain⟨e,P6⟩:=hr i dD;have cT:∀j∈rest,∃e,es[j]?=some e:=λj hj=>hr j (gT _ hj);obtain⟨x,hx,ex⟩:=Il e (Array.mem_of_getElem? P6);have hk:=Eo x hx;rw[P6];dsimp only;by_cases hh:(e.hash==z)=true;rw[ε hh];rw[ex,hen];refine δ (wpAny_dictEpoch ho hd (δ (hk.1 P w E _ (δ (wpAny_dictEpoch ho hd ?_)))));rw[ζ (by simp)];simp only[Gf,P1,Wv];refine δ (wpAny_rule ?_);exact η ⟨rfl,rfl,cT⟩;rw[ζ hh];exact η ⟨rfl,rfl,cT⟩;rintro b s' ⟨rfl,rfl,_⟩;exact η hq
def find_none{o:Obj}{es ep}{xs:List (CK×Addr×Value)}{z:Int}{Q:Option Nat->Shared->Prop}(hu:A.units<cLine)(ho:s.heap.get? d=some o)(hd:o.data=.dict es ep)(he:es.toList=xs.map (entryOfKey (yp P w)))(Eo:∀x∈xs,yo P w s.heap x.1 x.2.1)(hq:Q none s) :
  wpAny (model P w) A (dictFind d .none z) Q E s :=
 Ik (.inl rfl) (λ_=>rfl) ho hd he (λx hx=>by obtain⟨ox,items,n,bx,vx,g1,g2,g3,g4,g5,g6⟩:=id (Eo x hx);exact⟨SeqAt.EqAt.tuple_none (items:=items) ⟨ox,g1,g2,n,g3⟩ hu,C5 (Eo x hx)⟩) hq
def qX(d:Addr)(hd:(d==sysModules)=false)(dflt:Value) :
  MeetsIn P w (Builtin.«dict.get» ⟨[.ref d,.none,dflt],[]⟩) (λA R s=>A.units+1<cLine/\∃xs,s.heap.DictOfH (yp P w) d xs/\∀t,R (.ok (.ret dflt)) {s with toks:=t}) :=
 .of_wp λA R s ⟨hu,xs,hm,h⟩=>by
  obtain⟨o,es,ep,ho,_,hdd,he,Eo,hn⟩:=hm;show wpAny _ _ (dictGet d .none >>= _) _ _ s;refine δ ?_;unfold dictGet
  try with_reducible refine Φ ?_
  refine δ (yq hu λz t=>δ (find_none (s:={s with toks:=t}) hu ho hdd he Eo ?_));refine η ?_;show wpAny _ _ (Builtin.Dict.missed d .none >>= _) _ _ _;exact δ (wpAny_missed_other hd (η ⟨dflt,rfl,h t⟩))
end NK
namespace VT
open PySem PySem.Spec PyProof.Rows L2
section
variable{g:FM}
def S_(fc:FB)(g:FM):FM:=λd ρ s=>∃Pv:Nat->En->S->Prop,(∃m,Pv m ρ s)/\∀m ρ s,Pv m ρ s->fc ρ λb=>if b=true then g {d with nx:=λρ' s'=>∃m',m'<m/\Pv m' ρ' s',ct:=λρ' s'=>∃m',m'<m/\Pv m' ρ' s',bk:=d.nx} ρ s else d.nx ρ s
theorem Im{body:qaq}{fc:FB}(hp:PassesOwn (model X.prog X.w) X.A X.env X.xe)(hc:∀H0,VC X ⟨H0,[],M.Ox⟩ c fc)(hb:EI X M body g):MS X M (.While c body [] pos) (S_ fc g):=⟨λγ s' σ H D J ⟨ρ,s,d,S0,hg,Fi⟩=>by
 obtain⟨Pv,⟨m0,p0⟩,step⟩:=hg;refine GH (tc:=λσ H Q=>∃H0,lB X ⟨H0,[],M.Ox⟩ [] fc σ H Q) hp (λγ s σ H Q I ⟨H0,h⟩=>(hc H0 []) γ s σ H Q I h) hb.h γ s' σ H D J ⟨λm σ H=>∃ρ s,mO X.K M ρ s σ H/\Pv m ρ s,⟨m0,ρ,s,S0,p0⟩,?_⟩;rintro m σ1 H1 ⟨ρ1,s1,⟨⟨O,fp,F,I⟩,VQ⟩,p1⟩;refine⟨nI H1 (roots O),ρ1,O,_,I,step m ρ1 s1 p1,λb hb H2 s2=>?_⟩;have St:mO X.K M ρ1 s1 σ1 H2:=mO.of F (bM I) (I.same s2) VQ;cases b with
 |true=>rw[ε rfl] at hb;dsimp only;rw[ε rfl];refine⟨λσ' H'=>∃m',m'<m/\∃ρ s,mO X.K M ρ s σ' H'/\Pv m' ρ s,λσ' H' z=>z,ρ1,s1,_,St,hb,?_⟩;exact⟨λρ s σ H I ⟨m',hm,p⟩=>⟨m',hm,ρ,s,I,p⟩,Fi.rt,Fi.nx,λρ s σ H I ⟨m',hm,p⟩=>⟨m',hm,ρ,s,I,p⟩⟩
 |false=>rw[ζ iM] at hb;dsimp only;rw[ζ iM];exact Fi.nx ρ1 s1 σ1 H2 St hb⟩
end
section
variable{k:Nat}
abbrev GV:=ο->(qam)->Prop
end
section
variable{fe:Expr}
abbrev GM:=ο->S->(S->T->Prop)->Prop
def Io{k:Nat}{Fn:Addr->GM->Prop}{tf:TE}{t:TA}(C:∀f G,Fn f G->W.keepIn X.K (.ref f)=true/\∃fd ps,Binds X.K fd ps []/\cD X.prog X.w X.K X.mg X.base eQ k f fd ps (jj X.K n G))(hr:bG k X.A)(hf:PE X fe tf)(ha:PA X (e::es) t)(he:starEach (e::es) X.env=(false,eval e X.env)::starEach es X.env:=by rfl)(gO:(backTo pos (starEach es X.env)).any (·.1)=false:=by rfl)(ht:eval (.Call fe (e::es) [] pos) X.env=(do
    let f <- eval fe X.env
    callWith pos f [] (backTo pos (starEach (e::es) X.env)) (backToKw pos (keywordEach [] X.env))):=by rfl) :
  PE X (.Call fe (e::es) [] pos) (λσ H Q=>tf σ H λv H1=>∃f G,v=.ref f/\Fn f G/\t σ H1 λvs H2=>jj X.K n G (vs++[]) H2 Q E0):=by
 intro γ s σ H Q I h;rw[ht];refine δ (ck (hf γ s σ H _ I h) λu s1 ⟨v,H1,I1,r,f,G,ev,Ta,q1⟩=>?_);subst ev;obtain rfl:u=Value.ref f:=r;obtain⟨hk,fd,ps,hb,F⟩:=C f G Ta;refine ZY (h₀:=X.base) I1.ok.mod.Vu hk (ck (ha pos γ s1 σ H1 _ I1 q1) λus s2 ⟨vs,H2,I2,r2,q2⟩=>⟨I2.sM,?_⟩) he gO;exact Ax F hr hb .nil jw I2 r2 q2
noncomputable def Tb(M:Mz)(n:Nat)(Fn:Addr->GM->Prop)(ff:FE)(fa:FA):FM:=λd ρ s=>(∀e∈ρ,fP e)/\ff ρ λt=>∃f G,t=.ob f/\Fn f G/\fa ρ λus=>us.length=n/\G us s λs' _=>d.nx (lj M ρ s') s'
def Ip{k:Nat}{Fn:Addr->GM->Prop}{ff:FE}{fa:FA}(C:∀f G,Fn f G->W.keepIn X.K (.ref f)=true/\∃fd ps,Binds X.K fd ps []/\cD X.prog X.w X.K X.mg X.base eQ k f fd ps (jj X.K n G))(hr:bG k X.A)(hf:∀H0,VE X ⟨H0,[],M.Ox⟩ fe ff)(ha:∀H0,VA X ⟨H0,[],M.Ox⟩ es fa)(hN:X.N[M.k]?=some y)(hv:kH X.env.scope y:=by exact jvv rfl)(hd:iq y:=by decide)(gm:uL y:=by decide)(he:starEach (.Name y p1::es) X.env=(false,eval (.Name y p1) X.env)::starEach es X.env:=by rfl)(gO:(backTo bj (starEach es X.env)).any (·.1)=false:=by rfl)(ht:eval (.Call fe (.Name y p1::es) [] bj) X.env=(do
    let f <- eval fe X.env
    callWith bj f [] (backTo bj (starEach (.Name y p1::es) X.env)) (backToKw bj (keywordEach [] X.env))):=by rfl)(hs:swapsWith (.Call fe (.Name y p1::es) [] bj) none pos.line X.env=pure false:=by rfl) :
  MS X M (.Expr (.Call fe (.Name y p1::es) [] bj) pos) (Tb M n Fn ff fa):=⟨λγ s' σ H D J ⟨ρ,s,d,⟨⟨O,fp,F,I⟩,hp⟩,Nc,Fi⟩=>by
 obtain⟨pK,Nc⟩:=Nc;obtain⟨_,hσ⟩:=c7 I hp;refine l0 (Io C hr (hf (nI H (roots O)) []) (bO (cf hN hv hd gm) (ha (nI H (roots O)) []) he) he gO ht) hs γ s' σ H D J ⟨ρ,O,_,I,Nc,λt htt v H0 s0 a0=>?_⟩;obtain⟨f,G,rfl,Ta,Nc⟩:=htt;simp only[At] at a0;refine⟨f,G,a0,Ta,.ref M.a,hσ,ρ,O,_,I.same s0,Nc,λus RT ws H1 s1 a1=>?_⟩;obtain⟨hu,hG⟩:=RT;have I0:=(I.same s0).same s1;have F1:=F.now I0 (bM I);have I1:=I0.rebase (Z:=zf M O H) rfl;rw[DX];exact yn F1 I1 hp pK hu a1 hG λs2 t hq v H' S' _ _=>Fi.nx _ _ σ H' S' hq⟩
end
structure pX(K:Γ)(H0:Hp)(Ox:υ)(x C:Addr)(ns:ν)(xs:List S)(H:Hp):Prop where
 ex:∃fp,cw K H (fp++Ox) (.ins C ns xs) (.ref x) fp/\fp.Nodup/\∀b∈fp,b=x\/H0 b=none
 nx:x∉Ox
 ox:∀b∈Ox,H0 b≠none
 fr:∀b o,H0 b=some o->b≠x->H b=some o
theorem yr(f:Str)(y:V):∀(ns:ν)(vs:v9),ns.length=vs.length->f∉ns->eA f y (ns.zip vs)=(ns++[f]).zip (vs++[y])
 |[],[],_,_=>rfl
 |[],v::vs,h,_=>by simp at h
 |n::ns,[],h,_=>by simp at h
 |n::ns,v::vs,h,q=>by rw[Ly];show (if n=f then (n,y)::ns.zip vs else (n,v)::eA f y (ns.zip vs))=_;rw[ζ (λe=>q (by rw[e];exact dD)),yr f y ns vs (by simpa using h) (λz=>q (gT _ z))];rfl
section
variable{H0:Hp}{x:Addr}{ns:ν}{xs:List S}
theorem pX.at(I:pX K H0 Ox x C ns xs H):∃dx fs,H x=some (.ins C dx fs)/\fs.length=xs.length:=by obtain⟨fp,h,_⟩:=I.ex;simp only[cw] at h;obtain⟨a,dx,vs,fq,e,hl,ha,_,hL⟩:=h;cases e;exact⟨dx,_,ha,by rw[Q1,hl,Pf,hL.length]⟩
theorem pX.add{H1:Hp}{f:Str}{z:S}{g:υ}{fs:qac}(I:pX K H0 Ox x C ns xs H)(sm:aV H H1)(hf:f∉ns)(hx:H1 x=some (.ins C dx fs))(hg:∀b∈g,H b=none)(nd:g.Nodup)(hz:∀fp:υ,(∀b∈fp,b=x\/H0 b=none)->x∈fp->(∀t w,At K H (fp++Ox) t w->At K (upd H1 x (.ins C dx (eA f v fs))) ((fp++g)++Ox) t w)->cw K (upd H1 x (.ins C dx (eA f v fs))) ((fp++g)++Ox) z v g) :
  pX K H0 Ox x C (ns++[f]) (xs++[z]) (upd H1 x (.ins C dx (eA f v fs))):=by
 obtain⟨fp,h,n,each⟩:=I.ex;have h':=h;simp only[cw] at h';obtain⟨a,dx',vs,fq,e,hl,ha,rfl,hL⟩:=h';cases e;have hx2:=sm _ _ ha;rw[hx] at hx2;cases hx2;have old:∀b∈x::fq,H b≠none:=λb hb=>by obtain⟨u,e,_⟩:=h.mut b hb;rw[e];simp
 have go:∀t w,At K H ((x::fq)++Ox) t w->At K (upd H1 x (.ins C dx (eA f v (ns.zip vs)))) (((x::fq)++g)++Ox) t w:=λt w q=>by
  have q1:At K H (((x::fq)++g)++Ox) t w:=q.more λb hb=>by
   rcases cR.mp hb with y|y
   rcases cR.mp y with y|y
   exact .inl (cW _ y);exact .inr (hg b y);exact .inl (cb _ y)
  exact (q1.same sm).wrote (cW _ (cW _ dD)) hx rfl
 have z1:=hz (x::fq) each dD go;have nxf:x∉fq:=(lU.mp n).1;have rest:bw K (upd H1 x (.ins C dx (eA f v (ns.zip vs)))) (((x::fq)++g)++Ox) xs vs fq:=hL.map go λb hb=>by obtain⟨u,e,_⟩:=bw.mut hL b hb;rw[aB (λy=>nxf (by rw[<- y];exact hb)),e];exact sm _ _ e
 refine⟨⟨(x::fq)++g,?_,?_,λb hb=>?_⟩,I.nx,I.ox,λb o e ne=>?_⟩;simp only[cw];refine⟨x,dx,vs++[v],fq++g,rfl,by simp[hl],?_,rfl,rest.snoc z1⟩;rw[aG,yr f v ns vs hl hf];exact zZ.mpr ⟨n,nd,λa ha b hb e=>by subst e;exact old a ha (hg a hb)⟩;rcases cR.mp hb with y|y
 exact each b y
 right
 cases e:H0 b with
 |none=>rfl
 |some o=>exfalso;have nb:b≠x:=λz=>old x dD (by rw[<- z];exact hg b y);have:=I.fr b o e nb;rw[hg b y] at this;cases this
 rw[aB ne];exact sm _ _ (I.fr b o e ne)
def pX.lf{H1:Hp}{f:Str}{t:T}{fs:qac}(I:pX K H0 Ox x C ns xs H)(hf:f∉ns)(hi:bZ t=true)(a:At K H [] t v)(hx:H x=some (.ins C dx fs)):pX K H0 Ox x C (ns++[f]) (xs++[.lf t]) (upd H x (.ins C dx (eA f v fs))) :=
 I.add (z:=.lf t) (g:=[]) (λ_ _ e=>e) hf hx (λb hb=>nomatch hb) LA λfp _ _ go=>by simp only[cw];exact⟨trivial,go t v (At.bZ hi a)⟩
def pX.lst{f:Str}{p:Addr}{fs:qac}(I:pX K H0 Ox x C ns xs H)(hf:f∉ns)(hp:H p=none)(hx:upd H p (.lst []) x=some (.ins C dx fs)):pX K H0 Ox x C (ns++[f]) (xs++[.lst []]) (upd (upd H p (.lst [])) x (.ins C dx (eA f (.ref p) fs))) :=
 I.add (z:=.lst []) (g:=[p]) (aH hp) hf hx (λb hb=>by rw[hX.mp hb];exact hp) (by simp) λfp _ _ go=>by
  have ne:p≠x:=λz=>by rw[z,aG] at hx;cases hx
  simp only[cw,bw];exact⟨p,[],[],rfl,by rw[aB ne,aG],rfl,rfl,rfl⟩
def pX.dk{f:Str}{p:Addr}{fs:qac}(I:pX K H0 Ox x C ns xs H)(hf:f∉ns)(hp:H p=none)(hx:upd H p (.dK []) x=some (.ins C dx fs)):pX K H0 Ox x C (ns++[f]) (xs++[.dk [] []]) (upd (upd H p (.dK [])) x (.ins C dx (eA f (.ref p) fs))) :=
 I.add (z:=.dk [] []) (g:=[p]) (aH hp) hf hx (λb hb=>by rw[hX.mp hb];exact hp) (by simp) λfp _ _ go=>by
  have ne:p≠x:=λz=>by rw[z,aG] at hx;cases hx
  simp only[cw];exact⟨p,[],rfl,rfl,rfl,by rw[aB ne,aG];rfl,aA.nil⟩
def pX.first{H1:Hp}{f:Str}{t:T}(nx:x∉Ox)(ox:∀b∈Ox,H b≠none)(hx:H x=some (.ins C dx []))(sm:aV H H1)(a:At K H1 (x::Ox) t v):pX K H Ox x C [f] [.lf t] (upd H1 x (.ins C dx (eA f v []))):=by refine⟨⟨[x],?_,by simp,λb hb=>.inl (hX.mp hb)⟩,nx,ox,λb o e ne=>by rw[aB ne];exact sm _ _ e⟩;simp only[cw,bw];exact⟨x,dx,[v],[],rfl,rfl,aG,rfl,v,[],[],[],rfl,rfl,⟨rfl,a.wrote dD (sm _ _ hx) rfl⟩,rfl,rfl⟩
end
noncomputable def mN:ν:=["layout","most","poke","frames","cells","counts","doings","place","ended"]
def zOk(cz:S):Prop:=cz=.dk [] []\/∃nh,cz=.dc nh [] []
noncomputable def zO:S->Addr->HO
 |.dc nh _ _,p=>.ext (nV nh p [])
 |_,_=>.dK []
noncomputable def Tc(cz:S):TE:=λ_ H Q=>∀p,H p=none->(p==sysModules)=false->Q (.ref p) (upd H p (zO cz p))
def yt{nh:List Key×Key->Int}{xs:List ((List Key×Key)×Addr×Value)}:∀h1 h2:Heap,nV nh a xs h1->(∀o,h1.get? a=some o->h2.get? a=some o)->nV nh a xs h2:=λh1 h2 ⟨o,es,ep,e,q⟩ k=>⟨o,es,ep,k o e,q⟩
def Iq{cz:S}(hz:zOk cz):PE X (.Dict [] [] pos) (Tc cz):=λγ s σ H Q I h=>by
 have nm:(s.heap.objs.size==sysModules)=false:=Ξ.mpr (Ne.symm (j7 I.big));obtain rfl|⟨nh,rfl⟩:=hz
 exact wpAny_Dict_empty ⟨.ref s.heap.objs.size,_,I.laid (a:=s.heap.objs.size) (o:=.dK []) (t':=s.toks) (λ_ _ q=>jn _ q) (c9 _) (qR s.heap I.big),rfl,h _ (I.cm.fresh (c9 _)) nm⟩;exact wpAny_Dict_empty ⟨.ref s.heap.objs.size,_,I.laid (a:=s.heap.objs.size) (o:=.ext (nV nh s.heap.objs.size [])) (t':=s.toks) (λ_ _ q=>jn _ q) (c9 _) ⟨⟨_,#[],0,ph _ rfl,⟨rfl,rfl,rfl⟩,rfl,rfl,LA⟩,⟨_,ph _ rfl⟩,yt⟩,rfl,h _ (I.cm.fresh (c9 _)) nm⟩
theorem pX.cz{H0:Hp}{x:Addr}{ns:ν}{xs:List S}{cz:S}(hz:zOk cz){f:Str}{p:Addr}{fs:qac}(I:pX K H0 Ox x C ns xs H)(hf:f∉ns)(hp:H p=none)(nm:(p==sysModules)=false)(hx:upd H p (zO cz p) x=some (.ins C dx fs)):pX K H0 Ox x C (ns++[f]) (xs++[cz]) (upd (upd H p (zO cz p)) x (.ins C dx (eA f (.ref p) fs))) :=
 I.add (z:=cz) (g:=[p]) (aH hp) hf hx (λb hb=>by rw[hX.mp hb];exact hp) (by simp) λfp _ _ go=>by
  obtain rfl|⟨nh,rfl⟩:=hz
  have ne:p≠x:=λz=>by rw[z,aG] at hx;cases hx
  simp only[cw];exact⟨p,[],rfl,rfl,rfl,by rw[aB ne,aG];rfl,aA.nil⟩;have ne:p≠x:=λz=>by rw[z,aG] at hx;cases hx
  simp only[cw];exact⟨p,[],[],rfl,rfl,by rw[aB ne,aG];rfl,rfl,nm,λx hx=>(nomatch hx),.nil,aA.nil⟩
noncomputable def yu(cz:S)(L t2 t3:T):List S:=[.lf L,.lf t2,.lf t3,.lst [],cz,.dk [] [],.lst [],.lf .aO,.lf .aO]
def Td(K:Γ)(H:Hp)(h:∀a∈Ox,H a≠none):ay K ⟨H,[],Ox⟩ [] [] [] [] H:=⟨rfl,rfl,λi e h=>by simp at h,LA,λa h=>absurd h fA,λp hp=>absurd hp fA,h,λb o e _=>e,λp hp=>absurd hp fA⟩
section
variable{CL:Addr}
def EN{pr:T}{vp:V}{q:T->Prop}{Q:VK}(ox:∀b∈Ox,H b≠none)(a:At X.K H Ox pr vp)(hG:GL [pr] q)(k:∀L,q L->∀v H',aV H H'->At X.K H' Ox L v->Q v H') :
  ∀x dx,H x=none->H dx=none->dx≠x->PZ X.K CL 1 GL (.ref x::([vp]++[])) (upd (upd H dx (.own x)) x (.ins CL dx [])) (λv H2=>v=.aO/\Q (.ref x) H2) E0 :=
 CZ (X:=X) (Z:=⟨H,[],Ox⟩) (q:=λr=>∃L,r=.fr L/\q L) (Td X.K H ox) (aA.cons a aA.nil) rfl (by
  have e:q=λu=>∃L,Rt.fr u=Rt.fr L/\q L:=by funext u;exact propext ⟨λh=>⟨u,rfl,h⟩,λ⟨L,e,h⟩=>by cases e;exact h⟩
  rw[<- e];exact hG) λr hr v H' sm z=>by
  obtain⟨L,rfl,hL⟩:=hr;obtain⟨b,rfl,_,rt,n0,nO⟩:=z;refine k L hL _ H' sm ((rt.bz λc hc=>?_).at nO);exact cb _ (gT _ hc)
def adS(K:Γ)(GL:ο->(T->Prop)->Prop):TE:=λσ H Q=>∃vp pr Ox q,σ[1]?=some (some vp)/\(∀b∈Ox,H b≠none)/\At K H Ox pr vp/\GL [pr] q/\∀L,q L->∀v H',aV H H'->At K H' Ox L v->Q v H'
def Te{kL:Nat}{fL:Addr}{Yq:FuncData}{Yr:ν}{u1 u2 u3:Pos}(ML:Mk X.K CL fL)(FL:cD X.prog X.w X.K X.mg X.base eQ kL fL Yq Yr (PZ X.K CL 1 GL))(rL:bG (kL+1) X.A)(gL:Gl X "Layout")(mL:X.mg "Layout"=some (.ref CL))(bL:Binds X.K Yq Yr [])(h1:X.N[1]?=some ("program":Str))(v1:kH X.env.scope "program")(s1:starEach [.Name "program" u2] X.env=(false,eval (.Name "program" u2) X.env)::starEach [] X.env)(s2:(backTo u3 (starEach [] X.env)).any (·.1)=false):PE X (.Call (.Name "Layout" u1) [.Name "program" u2] [] u3) (adS X.K GL) :=
 PE.weak (uT ML FL rL gL mL bL .nil jw (bO (cf h1 v1 (by decide) (by decide)) dy s1) (by decide) s1 s2) λσ H Q ⟨vp,pr,Ox,q,e1,ox,ap,hG,k⟩=>⟨vp,e1,EN (X:=X) (Q:=Q) ox ap hG k⟩
noncomputable def Ys(X:Cx)(C:Addr)(cz:S)(GL:ο->(T->Prop)->Prop):TS:=λD σ H=>∃x dx Ox pr vp t2 v2 t3 v3 q,σ[0]?=some (some (.ref x))/\σ[1]?=some (some vp)/\σ[2]?=some (some v2)/\σ[3]?=some (some v3)/\H x=some (.ins C dx [])/\x∉Ox/\(∀b∈Ox,H b≠none) /\
 At X.K H (x::Ox) pr vp/\bZ t2=true/\At X.K H [] t2 v2/\bZ t3=true/\At X.K H [] t3 v3/\GL [pr] q/\∀L,q L->∀H',pX X.K H Ox x C mN (yu cz L t2 t3) H'->D.nx σ H'
def jI{fs:List α}{m:Nat}(h:fs.length=n)(h2:n<1000):fs.length<1000:=by omega
def Ir{cz:S}(hz:zOk cz){kL:Nat}{fL:Addr}{Yq:FuncData}{Yr:ν}(ML:Mk X.K CL fL)(FL:cD X.prog X.w X.K X.mg X.base eQ kL fL Yq Yr (PZ X.K CL 1 GL))(rL:bG (kL+1) X.A)(gL:Gl X "Layout")(mL:X.mg "Layout"=some (.ref CL))(bL:Binds X.K Yq Yr [])(cl:An X.K C)(n1:bD X.K C "layout")(n2:bD X.K C "most")(n3:bD X.K C "poke")(n4:bD X.K C "frames")(n5:bD X.K C "cells")(n6:bD X.K C "counts")(n7:bD X.K C "doings")(n8:bD X.K C "place")(n9:bD X.K C "ended"){p3 p4 p5 p6 p7 p8 p9 q1 q2 q3 q4 q5 q6 q7 q8 q9 r1 r2 r3 r4 r5 r6 r7 r8 r9 u1 u2 u3 u4 u5 u6 u7 u8 u9 u10 u11:Pos}{k8 k9}(h0:X.N[0]?=some ("self":Str):=by rfl)(h1:X.N[1]?=some ("program":Str):=by rfl)(h2:X.N[2]?=some ("most":Str):=by rfl)(h3:X.N[3]?=some ("poke":Str):=by rfl)(v0:kH X.env.scope "self":=by exact jvv rfl)(v1:kH X.env.scope "program":=by exact jvv rfl)(v2:kH X.env.scope "most":=by exact jvv rfl)(v3:kH X.env.scope "poke":=by exact jvv rfl)(s1:starEach [.Name "program" u2] X.env=(false,eval (.Name "program" u2) X.env)::starEach [] X.env:=by rfl)(s2:(backTo u3 (starEach [] X.env)).any (·.1)=false:=by rfl)(w1:swapsWith (.Call (.Name "Layout" u1) [.Name "program" u2] [] u3) (some (.Attribute (.Name "self" p1) "layout" q1)) r1.line X.env=pure false:=by rfl)(w2:swapsWith (.Name "most" u4) (some (.Attribute (.Name "self" p2) "most" q2)) r2.line X.env=pure false:=by rfl)(w3:swapsWith (.Name "poke" u5) (some (.Attribute (.Name "self" p3) "poke" q3)) r3.line X.env=pure false:=by rfl)(w4:swapsWith (.List [] u6) (some (.Attribute (.Name "self" p4) "frames" q4)) r4.line X.env=pure false:=by rfl)(w5:swapsWith (.Dict [] [] u7) (some (.Attribute (.Name "self" p5) "cells" q5)) r5.line X.env=pure false:=by rfl)(w6:swapsWith (.Dict [] [] u8) (some (.Attribute (.Name "self" p6) "counts" q6)) r6.line X.env=pure false:=by rfl)(w7:swapsWith (.List [] u9) (some (.Attribute (.Name "self" p7) "doings" q7)) r7.line X.env=pure false:=by rfl)(w8:swapsWith (.Constant .none k8 u10) (some (.Attribute (.Name "self" p8) "place" q8)) r8.line X.env=pure false:=by rfl)(w9:swapsWith (.Constant .none k9 u11) (some (.Attribute (.Name "self" p9) "ended" q9)) r9.line X.env=pure false:=by rfl) :
  jf X [.Assign [.Attribute (.Name "self" p1) "layout" q1] (.Call (.Name "Layout" u1) [.Name "program" u2] [] u3) r1,.Assign [.Attribute (.Name "self" p2) "most" q2] (.Name "most" u4) r2,.Assign [.Attribute (.Name "self" p3) "poke" q3] (.Name "poke" u5) r3,
   .Assign [.Attribute (.Name "self" p4) "frames" q4] (.List [] u6) r4,.Assign [.Attribute (.Name "self" p5) "cells" q5] (.Dict [] [] u7) r5,.Assign [.Attribute (.Name "self" p6) "counts" q6] (.Dict [] [] u8) r6,
   .Assign [.Attribute (.Name "self" p7) "doings" q7] (.List [] u9) r7,.Assign [.Attribute (.Name "self" p8) "place" q8] (.Constant .none k8 u10) r8,.Assign [.Attribute (.Name "self" p9) "ended" q9] (.Constant .none k9 u11) r9] (Ys X C cz GL) :=
 have Sv:∀{p:Pos},PE X (.Name "self" p) (Rc 0):=λ{p}=>cf (X:=X) h0 v0 (by decide) (by decide)
 jf.ji (c4 (gn Sv (Te ML FL rL gL mL bL h1 v1 s1 s2) w1) (c4 (gn Sv (cf h2 v2 (by decide) (by decide)) w2) (c4 (gn Sv (cf h3 v3 (by decide) (by decide)) w3)
  (c4 (gn Sv (Av dy) w4) (c4 (gn Sv (Iq hz) w5) (c4 (gn Sv x_ w6) (c4 (gn Sv (Av dy) w7) (c4 (gn Sv Ag w8) (j8 (gn Sv Ag w9)))))))))) λD σ H h=>by
  obtain⟨x,dx,Ox,pr,vp,t2,v2',t3,v3',q,e0,e1,e2,e3,hx,nx,ox,ap,i2,a2,i3,a3,hG,kk⟩:=h;have ox':∀b∈x::Ox,H b≠none:=λb hb=>by
   rcases c0.mp hb with z|z
   rw[z,hx];simp;exact ox b z
  have P8:∀{H':Hp}{ns:ν}{xs:List S},pX X.K H Ox x C ns xs H'->∀{t:T}{v:V},bZ t=true->At X.K H [] t v->At X.K H' [] t v:=λ{H' ns xs} I {t v} hi a=>At.bZ hi ((At.bZ (O':=[x]) hi a).frame (λb hb=>⟨.ins C dx [],by rw[hX.mp hb];exact hx,rfl⟩) λb o e n=>I.fr b o e (λz=>n (by rw[z];exact dD)));refine⟨vp,pr,x::Ox,q,e1,ox',ap,hG,λL hL v H1 sm aL=>?_⟩;refine⟨.ref x,e0,x,C,dx,[],rfl,sm _ _ hx,cl,n1,by decide,?_⟩;have I1:pX X.K H Ox x C ["layout"] [.lf L] _:=pX.first (f:="layout") nx ox hx sm aL
  obtain⟨d1,f1,g1,l1⟩:=I1.at;refine⟨v2',e2,.ref x,e0,x,C,d1,f1,rfl,g1,cl,n2,jI (n:=1) (m:=0) l1 (by decide),?_⟩;have I2:=I1.lf (H1:=H) (f:="most") (by decide) i2 (P8 I1 i2 a2) g1;obtain⟨d2,f2,g2,l2⟩:=I2.at;refine⟨v3',e3,.ref x,e0,x,C,d2,f2,rfl,g2,cl,n3,jI (n:=2) (m:=0) l2 (by decide),?_⟩;have I3:=I2.lf (H1:=H) (f:="poke") (by decide) i3 (P8 I2 i3 a3) g2;refine⟨hY _,λp4 Yt=>?_⟩;obtain⟨d3,f3,g3,l3⟩:=I3.at;refine⟨.ref x,e0,x,C,d3,f3,rfl,aH Yt _ _ g3,cl,n4,jI (n:=3) (m:=0) l3 (by decide),?_⟩;have I4:=I3.lst (f:="frames") (by decide) Yt (aH Yt _ _ g3);intro p5 hp5 nm5;obtain⟨d4,f4,g4,l4⟩:=I4.at;refine⟨.ref x,e0,x,C,d4,f4,rfl,aH hp5 _ _ g4,cl,n5,jI (n:=4) (m:=0) l4 (by decide),?_⟩;have I5:=I4.cz hz (f:="cells") (by decide) hp5 nm5 (aH hp5 _ _ g4);intro p6 hp6;obtain⟨d5,f5,g5,l5⟩:=I5.at;refine⟨.ref x,e0,x,C,d5,f5,rfl,aH hp6 _ _ g5,cl,n6,jI (n:=5) (m:=0) l5 (by decide),?_⟩;have I6:=I5.dk (f:="counts") (by decide) hp6 (aH hp6 _ _ g5);refine⟨hY _,λp7 hp7=>?_⟩;obtain⟨d6,f6,g6,l6⟩:=I6.at;refine⟨.ref x,e0,x,C,d6,f6,rfl,aH hp7 _ _ g6,cl,n7,jI (n:=6) (m:=0) l6 (by decide),?_⟩;have I7:=I6.lst (f:="doings") (by decide) hp7 (aH hp7 _ _ g6);obtain⟨d7,f7,g7,l7⟩:=I7.at;refine⟨.ref x,e0,x,C,d7,f7,rfl,g7,cl,n8,jI (n:=7) (m:=0) l7 (by decide),?_⟩;have I8:=I7.lf (H1:=H) (f:="place") (t:=.aO) (v:=.aO) (by decide) rfl (by simp only[At]) g7;obtain⟨d8,f8,g8,l8⟩:=I8.at;refine⟨.ref x,e0,x,C,d8,f8,rfl,g8,cl,n9,jI (n:=8) (m:=0) l8 (by decide),?_⟩;exact kk L hL _ (I8.lf (H1:=H) (f:="ended") (t:=.aO) (v:=.aO) (by decide) rfl (by simp only[At]) g8)
noncomputable def spK(K:Γ)(C:Addr)(cz:S)(GL:ο->(T->Prop)->Prop):Sp:=λvs H Q _=>∃x dx Ox pr vp t2 v2 t3 v3 q,vs=[.ref x,vp,v2,v3]/\H x=some (.ins C dx [])/\x∉Ox/\(∀b∈Ox,H b≠none) /\
 At K H (x::Ox) pr vp/\bZ t2=true/\At K H [] t2 v2/\bZ t3=true/\At K H [] t3 v3/\GL [pr] q/\∀L,q L->∀H',pX K H Ox x C mN (yu cz L t2 t3) H'->Q .aO H'
end
section
def fnK{cz:S}{st:Stmt}{N:ν}{k:Nat}(F:Cu K "__init__" qual st f fd)(S:az N qav (ai st))(hN:N.length=4)(dF:∀(bF:Value) (A:Around) (outer:List Env) (s:Shared) (H:Hp) (E:XK),bG k (A.deeper (envOfC qual (ai st) s.heap.objs.size f bF))->jf (fN eQ P w K mg base N qual (ai st) f bF A outer s H E).pA (bE st) (Ys (fN eQ P w K mg base N qual (ai st) f bF A outer s H E).pA C cz GL)) :
  cD P w K mg base eQ (k+1) f fd qav (spK K C cz GL):=by
 refine F.ok S (λvs H Q E h=>?_) (λbF A outer s H vs Q E hr h=>?_);obtain⟨x,dx,Ox,pr,vp,t2,v2,t3,v3,q,rfl,_⟩:=h;rfl;obtain⟨x,dx,Ox,pr,vp,t2,v2,t3,v3,q,rfl,h⟩:=h;refine⟨_,dF bF A outer s H E hr,x,dx,Ox,pr,vp,t2,v2,t3,v3,q,?_,?_,?_,?_,h⟩<;>(unfold L2.start;rfl)
end
end VT
namespace VT
open PySem PySem.Spec PyProof.Rows L2 NK
section
variable{σ:L2.St}{s:Shared}
def Iu(I:Inv X γ σ H s){c:CK}(h:pG X.K H c b):yo X.prog X.w s.heap c b:=by
 obtain⟨d,h1,h2⟩:=h;obtain⟨aW,r,⟨o,e,ec,n,ed⟩,_⟩:=I.tuple h1;obtain⟨jts,r2,⟨o2,e2,ec2,n2,ed2⟩,_⟩:=I.tuple h2;obtain⟨u1,l1,rfl,z1,r⟩:∃u1 r1,aW=u1::r1/\RelV (.ref d) u1/\Vals [kV c.2] r1:=by cases r with|cons a b=>exact⟨_,_,rfl,a,b⟩
 obtain⟨u2,l2,rfl,z2,r⟩:∃u1 r1,l1=u1::r1/\RelV (kV c.2) u1/\Vals [] r1:=by cases r with|cons a b=>exact⟨_,_,rfl,a,b⟩
 cases r;cases (show u1=Value.ref d from z1);exact⟨o,_,n,d,u2,e,ec,ed,rfl,⟨o2,_,n2,e2,ec2,ed2,by simpa using oq r2⟩,mJ z2⟩
def P9(I:Inv X γ σ H s){xs:List (CK×Addr×Value)}(e:H a=some (.ext (nV (bJ X.prog X.w) a xs)))(hk:∀x∈xs,pG X.K H x.1 x.2.1):s.heap.DictOfH (yp X.prog X.w) a xs:=by obtain⟨⟨o,es,ep,ho,hc,hd,he,hn⟩,_⟩:=(show cS X.prog X.w H s.heap a (.ext _) from I.cm a _ e);exact⟨o,es,ep,ho,hc,hd,he,λx hx=>Iu I (hk x hx),hn⟩
def Yu(H:Hp)(a:Addr):Prop:=∃nh xs,H a=some (.ext (nV nh a xs))
def Nd(I:Inv X γ σ H s)(d:Yu H a):s.TypeIs (.ref a) "dict"/\(∀b,Value.ref a=.ref b->∃ob,s.heap.get? b=some ob/\ob.dict=none):=by obtain⟨nh,xs,e⟩:=d;obtain⟨⟨o,es,ep,ho,hc,_⟩,_⟩:=(show cS X.prog X.w H s.heap a (.ext _) from I.cm a _ e);exact⟨⟨o,ho,hc.1⟩,λb q=>by cases q;exact⟨o,ho,hc.2.1⟩⟩
end
section
variable{f i value:Expr}{td ty tx tv:TE}
noncomputable def Yv(X:Cx)(td ty tx:TE):TE:=λσ H Q=>td σ H λx H1=>∃a,x=.ref a/\Yu H1 a/\ty σ H1 λy H2=>tx σ H2 λz H3=>∃xs,H3 a=some (.ext (nV (bJ X.prog X.w) a xs))/\(a==sysModules)=false/\(∀x∈xs,pG X.K H3 x.1 x.2.1) /\
 ((y=.aO/\Q z H3)\/∃b c v,y=.ref b/\pG X.K H3 c b/\(match atKey xs c with|some p=>RelV v p.2|none=>v=z)/\Q v H3)
def Iv(hu:X.A.units+3<cLine)(ho:PE X o td)(he:PE X e ty)(hf:PE X f tx)(m:M2 X o "get" apos e f bj):PE X (.Call (.Attribute o "get" apos) [e,f] [] bj) (Yv X td ty tx):=by
 intro γ s σ H Q I h;refine wpAny_Call_method m.base m.few m.line Wj O_ PySem.F.type_dict_get (ck (ho γ s σ H _ I h) λu s1 ⟨x,H1,I1,rx,a,ex,d,q1⟩=>?_);subst ex;obtain rfl:u=Value.ref a:=rx;obtain⟨t1,t2⟩:=Nd I1 d;refine⟨t1,t2,?_⟩;rw[m.trees];refine Wm rfl (ZV (QU (ck (he γ s1 σ H1 _ I1 q1) λiv s2 ⟨y,H2,I2,ry,q2⟩ =>
  QU (ck (hf γ s2 σ H2 _ I2 q2) λfv s3 ⟨z,H3,I3,rz,xs,ea,nm,hk,q3⟩=>Calls.spliced_nil ?_))))
 have dd:=P9 I3 ea hk;obtain⟨rfl,q3⟩|⟨b,c,v,rfl,hb,hv,q3⟩:=q3
 cases (show iv=Value.none from ry);exact aae O_ dd.typeIs Wo (Wi _ _ _) (qX (P:=X.prog) (w:=X.w) a nm fv) ⟨by omega,xs,dd,λt=>⟨z,H3,I3.tok _,rz,q3⟩⟩;cases (show iv=Value.ref b from ry);refine aae O_ dd.typeIs Wo (Wi _ _ _) (meetsH_dict_get_default (yp X.prog X.w) a b nm fv) ⟨by show X.A.units+1+2<cLine;omega,c,xs,Iu I3 hb,dd,v,H3,I3.tok _,?_,q3⟩;cases e:atKey xs c with
 |none=>rw[e] at hv;subst hv;exact rz
 |some p=>rw[e] at hv;exact hv
noncomputable def Yw(X:Cx)(td ty tv:TE):TS:=λD σ H=>tv σ H λv H1=>td σ H1 λx H2=>ty σ H2 λy H3=>∃a b c xs,x=.ref a/\y=.ref b/\pG X.K H3 c b/\H3 a=some (.ext (nV (bJ X.prog X.w) a xs))/\(∀x∈xs,pG X.K H3 x.1 x.2.1)/\xs.length<=sizeLine /\
 ∀u,RelV v u->D.nx σ (upd H3 a (.ext (nV (bJ X.prog X.w) a (storedH xs c b u))))
def Nf(hu:X.A.units+3<cLine)(ho:PE X o td)(hi:PE X i ty)(hv:PE X value tv)(hs:swapsWith value (some (.Subscript o i pos')) pos.line X.env=pure false) :
  PS X (.Assign [.Subscript o i pos'] value pos) (Yw X td ty tv):=by
 intro γ s σ H D I h;refine wpAny_Assign_Subscript (ck (hv γ s σ H _ I h) λr s1 ⟨v,H1,I1,rv,q1⟩=>ck (ho γ s1 σ H1 _ I1 q1) λu s2 ⟨x,H2,I2,rx,q2⟩=>ck (hi γ s2 σ H2 _ I2 q2) λiv s3 ⟨y,H3,I3,ry,a,b,c,xs,ex,ey,hb,ea,hk,hz,q3⟩=>?_) hs;subst ex ey;cases (show u=Value.ref a from rx);cases (show iv=Value.ref b from ry);refine wpAny_setItem_heap (knd:=yp X.prog X.w) (hsz:=hz) (by show X.A.units+1+2<cLine;omega) (Iu I3 hb) (P9 I3 ea hk) λh' hm hs'=>?_;obtain⟨o',es,ep,kJ,hc,hd,he,Eo,hn⟩:=hm;refine⟨σ,_,mK (ob:=.ext (nV (bJ X.prog X.w) a (storedH xs c b r))) I3 (by rw[ea];trivial) hs' ⟨_,kJ⟩ ⟨⟨o',es,ep,kJ,hc,hd,he,hn⟩,⟨_,kJ⟩,yt⟩,q3 r rv⟩
end
noncomputable def jJ{α:Type}:List CK->List α->CK->Option α
 |k::ks,t::ts,c=>if k=c then some t else jJ ks ts c
 |_,_,_=>none
def EO(ks:List CK)(c:CK):Bool:=ks.any λk=>decide (k=c)
noncomputable def qY(ks:List CK)(c:CK):List CK:=if EO ks c=true then ks else ks++[c]
noncomputable def gb{α:Type}(ks:List CK)(ts:List α)(c:CK)(t:α):List α:=if EO ks c=true then List.zipWith (λk v=>if k=c then t else v) ks ts else ts++[t]
section
variable{A:υ}
theorem C7(c:CK):∀{xs:List (CK×Addr×Value)}{ts:ο}{vs:v9},Vals vs (xs.map (·.2.2))->aA K H A ts vs->match atKey xs c with
  |none=>jJ (xs.map (·.1)) ts c=none
  |some p=>∃t v,jJ (xs.map (·.1)) ts c=some t/\At K H A t v/\RelV v p.2
 |[],ts,vs,hv,ha=>by show jJ [] ts c=none;cases ts<;>rfl
 |x::xs,ts,vs,hv,ha=>by
   rw[gU] at hv;cases hv with
   |@cons v u jB SR r hv=>
     cases ts with
     |nil=>simp only[aA] at ha;cases ha
     |cons t ts=>
       simp only[aA] at ha;obtain⟨v',r',e,h1,h2⟩:=ha;cases e;by_cases hc:x.1=c;have e1:atKey (x::xs) c=some x.2:=by simp[atKey,Le,hc]
       rw[e1];exact⟨t,v,by rw[gU];show (if x.1=c then _ else _)=_;rw[ε hc],h1,r⟩;have e1:atKey (x::xs) c=atKey xs c:=by simp[atKey,Le,hc]
       have e2:jJ ((x::xs).map (·.1)) (t::ts) c=jJ (xs.map (·.1)) ts c:=by rw[gU];show (if x.1=c then _ else _)=_;rw[ζ hc]
       rw[e1,e2];exact C7 c hv h2
def ER{xs:List (CK×Addr×Value)}{c:CK}:(atKey xs c).isSome=EO (xs.map (·.1)) c:=by
 induction xs with
 |nil=>rfl
 |cons x xs ih=>
  by_cases hc:x.1=c;simp[atKey,Le,hc,EO];have e1:atKey (x::xs) c=atKey xs c:=by simp[atKey,Le,hc]
  rw[e1,ih];simp[EO,hc]
def Iw{c:CK}(h:jo K H A (Gm c) v):∃b,v=.ref b/\pG K H c b:=by
 obtain h|⟨a,rfl,q⟩:=h
 have h':=h;unfold Gm at h';simp only[At] at h';obtain⟨a,vs,rfl,_⟩:=h';exact⟨a,rfl,vI.mp h⟩;exact q.elim
theorem ES{xs:List (CK×Addr×Value)}{ts:ο}{c:CK}{t:T}(hv:Vals vs (xs.map (·.2.2)))(ha:aA K H A ts vs)(ht:At K H A t v)(ru:RelV v u) :
  qY (xs.map (·.1)) c=(storedH xs c b u).map (·.1)/\∃jB,Vals jB ((storedH xs c b u).map (·.2.2))/\aA K H A (gb (xs.map (·.1)) ts c t) jB:=by
 unfold qY gb storedH;rw[ER];by_cases h:EO (xs.map (·.1)) c=true;rw[ε h,ε h,ε h];refine⟨(keys_map_putAt xs c u).symm,?_⟩;clear h;induction xs generalizing ts vs with
 |nil=>
   cases hv;cases ts with
   |nil=>exact⟨[],.nil,aA.nil⟩
   |cons t ts=>simp only[aA] at ha;obtain⟨_,_,e,_⟩:=ha;cases e
 |cons x xs ih=>
   rw[gU] at hv;cases hv with
   |@cons v0 u0 SK us0 r hv=>
     cases ts with
     |nil=>simp only[aA] at ha;cases ha
     |cons t0 ts=>simp only[aA] at ha;obtain⟨v',r',e,h1,h2⟩:=ha;cases e;obtain⟨ws,w1,w2⟩:=ih hv h2;simp only[gU,ZU];by_cases hc:x.1=c;refine⟨v::ws,.cons ?_ w1,aA.cons (by rw[ε hc];exact ht) w2⟩;unfold putAt;rw[ε hc];exact ru;refine⟨v0::ws,.cons ?_ w1,aA.cons (by rw[ζ hc];exact h1) w2⟩;unfold putAt;rw[ζ hc];exact r
 rw[ζ h,ζ h,ζ h];refine⟨by simp,vs++[v],?_,ha.append (aA.cons ht aA.nil)⟩;rw[nG];exact Vals.append hv (.cons ru .nil)
end
section
variable{a b:Expr}{fc:FE}
noncomputable def fCG(nh:CK->Int)(fa fb fc:FE):FP:=λρ Q=>fa ρ λx=>match x with
 |.dc nh' ks ts=>nh'=nh/\fb ρ λy=>fc ρ λz=>(y=.aO/\Q (.vw z))\/∃c,y=Gm c/\Q (.vw ((jJ ks ts c).getD z))
 |_=>False
def Tf(hu:X.A.units+3<cLine)(ha:VR X Z a fa)(hb:VR X Z b fb)(hc:VE X Z c fc)(m:M2 X a "get" apos b c bj):VP X Z (.Call (.Attribute a "get" apos) [b,c] [] bj) (fCG (bJ X.prog X.w) fa fb fc):=.mk λtm=>PE.weak (Iv hu (ha tm) (hb tm) (hc tm) m) λσ H Q ⟨ρ,O,q,I,hf,k⟩ =>
 ⟨ρ,O,_,I,hf,λx hx v H1 s1 a1=>by
  split at hx
  rename_i nh ks ts
  obtain⟨rfl,hx⟩:=hx;obtain⟨l,xs,vs,rfl,hd,ek,nm,hk,hv,hl⟩:=a1.dc;refine⟨l,rfl,⟨_,_,hd⟩,ρ,O,_,I.same s1,hx,λy hy w H2 s2 a2=>⟨ρ,O,_,(I.same s1).same s2,hy,λz hz u H3 s3 a3=>?_⟩⟩;have sm:aV H1 H3:=s2.trans s3;have hk3:∀x∈xs,pG X.K H3 x.1 x.2.1:=λx hx=>let ⟨d,g1,g2⟩:=hk x hx;⟨d,fB.same sm g1,fB.same sm g2⟩;refine⟨xs,sm _ _ hd,nm,hk3,?_⟩;obtain⟨rfl,hz⟩|⟨c,rfl,hz⟩:=hz
  have e:w=.aO:=by
   obtain a2|⟨_,_,a2⟩:=a2
   simpa only[At] using a2;exact a2.elim
  exact .inl ⟨e,k _ hz _ H3 ((s1.trans s2).trans s3) ⟨((I.same s1).same s2).same s3,a3⟩⟩;obtain⟨b,rfl,kb⟩:=Iw (a2.same s3);have cg:=C7 c hv (hl.same sm);refine .inr ?_;cases ea:atKey xs c with
  |none=>rw[ea] at cg;rw[ek,cg] at hz;exact⟨b,c,u,rfl,kb,by rw[ea],k _ hz _ H3 ((s1.trans s2).trans s3) ⟨((I.same s1).same s2).same s3,a3⟩⟩
  |some p=>rw[ea] at cg;obtain⟨t,v',e1,e2,e3⟩:=cg;rw[ek,e1] at hz;exact⟨b,c,v',rfl,kb,by rw[ea];exact e3,k _ hz _ H3 ((s1.trans s2).trans s3) ⟨((I.same s1).same s2).same s3,e2⟩⟩
  exact hx.elim⟩
end
section
variable{i:Expr}{ps:List lg}
noncomputable def Yx(M:Mz)(nh:CK->Int)(ps:List lg)(fi fe:FE):FM:=λd ρ s=>fe ρ λt=>(∃x,s.get ps=some x)/\fi ρ λj=>∃c,j=Gm c/\bZ t=true/\(∀e∈ρ,fP e)/\∃ks ts,s.get ps=some (.dc nh ks ts)/\ts.length<16777216 /\
 d.nx (lj M ρ (s.put ps (.dc nh (qY ks c) (gb ks ts c t)))) (s.put ps (.dc nh (qY ks c) (gb ks ts c t)))
def Ng{fi:FE}(hu:X.A.units+3<cLine)(ho:PE X o (jG M.k ps))(hi:∀H0,VR X ⟨H0,[],M.Ox⟩ i fi)(he:∀H0,VE X ⟨H0,[],M.Ox⟩ e fe)(hs:swapsWith e (some (.Subscript o i fW)) pos.line X.env=pure false:=by rfl) :
  MS X M (.Assign [.Subscript o i fW] e pos) (Yx M (bJ X.prog X.w) ps fi fe):=⟨λγ s' σ H D J ⟨ρ,s,d,⟨⟨O,fp,F,I⟩,hp⟩,hg,Fi⟩=>by
 refine Nf hu ho (hi (nI H (roots O)) []) (he (nI H (roots O)) []) hs γ s' σ H D J ⟨ρ,O,_,I,hg,λt ht v H1 s1 a1=>?_⟩;obtain⟨⟨x,hx⟩,ht⟩:=ht;obtain⟨w,_,_,_,_,ev,_,_⟩:=(F.now (I.same s1) (bM I)).o5.focus hx;obtain⟨_,hσ⟩:=c7 I hp;refine⟨.ref M.a,w,hσ,ev,ρ,O,_,I.same s1,ht,λj hj w' H2 s2 a2=>?_⟩;obtain⟨c,rfl,Lp,pK,ks,ts,EK,hlen,hq⟩:=hj;have I0:=(I.same s1).same s2;have F2:=F.now I0 (bM I);have I2:=I0.rebase (Z:=zf M O H) rfl;obtain⟨w2,f',Ie,hS,sub,nd,wr⟩:=F2.put (ps:=ps) I2 hp pK EK;rw[gB s2 ev] at Ie;cases Ie;have uj:=hS;simp only[cw] at uj;obtain⟨l,xs,vs,rfl,rfl,h3,ek,nm,hk,hv,hl⟩:=uj;obtain⟨b,rfl,kb⟩:=Iw a2;have hz:xs.length<=sizeLine:=by have e1:=hv.length;have e2:=hl.length;rw[cu] at e1;rw[ξ];omega
 have hA:l∈roots O++(fp++M.Ox):=cb _ (cW _ (sub _ dD));refine⟨l,b,c,xs,rfl,rfl,kb,h3,λx hx=>vI.mp (hk x hx),hz,λu ru=>?_⟩;obtain⟨e1,jB,e2,e3⟩:=ES (b:=b) (c:=c) hv hl (At.bZ Lp (a1.same s2)) ru;subst ek;refine Fi.nx _ _ σ _ (wr (y:=.dc (bJ X.prog X.w) (qY (xs.map (·.1)) c) (gb (xs.map (·.1)) ts c t)) dD ?_) hq;simp only[cw];refine⟨l,_,jB,rfl,rfl,aG,e1,nm,λx hx=>?_,e2,aA.wrote hA h3 rfl e3⟩;unfold storedH at hx;split at hx;obtain⟨y,hy,rfl⟩:=xn.mp hx;have e4:(putAt c u y).1=y.1/\(putAt c u y).2.1=y.2.1:=by unfold putAt;split<;>exact⟨rfl,rfl⟩
 rw[e4.1,e4.2];exact (hk y hy).wrote hA h3 rfl;rcases cR.mp hx with hx|hx
 exact (hk x hx).wrote hA h3 rfl;rw[hX.mp hx];exact (vI.mpr kb).wrote hA h3 rfl⟩
end
end VT
namespace VT
open PySem PySem.Spec PyProof.Rows L2
structure uk(K:Γ)(H H':Hp)(us:ο)(u:T)(p l:Addr):Prop where
 same:aV H H'
 tup:∃v,H' p=some (.tup [.ref l,v])/\At K H' [] u v
 new:H l=none
 lst:∃vs,H' l=some (.lst vs)/\aA K H' [] us vs
 i1:eG us=true
 i2:bZ u=true
def VU(K:Γ)(n:Nat)(G:ο->(ο->T->Prop)->Prop):Sp:=λvs H Q _=>∃ts Ox q,(∀a∈Ox,H a≠none)/\aA K H Ox ts vs/\ts.length=n/\G ts q /\
 ∀us u,q us u->∀p l H',uk K H H' us u p l->Q (.ref p) H'
abbrev P_:=P4->(ο->T->Prop)->En->S->Prop
structure DpM(K:Γ)(M:Mz)(us:ο)(u:T)(p l:Addr)(H':Hp):Prop where
 kp:∀b o,M.H0 b=some o->b∉M.ub->H' b=some o
 own:l∈M.ub\/M.H0 l=none
 tup:∃v,H' p=some (.tup [.ref l,v])/\At K H' [] u v
 lst:∃vs,H' l=some (.lst vs)/\aA K H' [] us vs
 i1:eG us=true
 i2:bZ u=true
def lMD(X:Cx)(M:Mz)(g:P_):TS:=λD σ H=>∃ρ s d dp,mO X.K M ρ s σ H/\g d dp ρ s/\SY X.K M d D/\∀us u,dp us u->∀p l H',DpM X.K M us u p l H'->D.rt (.ref p) H'
def Nh(X:Cx)(M:Mz)(st:qaq)(g:P_):Prop:=Bm (jf X st (lMD X M g))
section
variable{st:Stmt}{rest:qaq}{g:FM}{u:P_}
def Qa(g:FM)(u:P_):P_:=λd dp ρ s=>g {d with nx:=u d dp} ρ s
def qZ(h1:MS X M st g)(h2:Nh X M rest u):Nh X M (st::rest) (Qa g u):=⟨jf.ji (c4 h1.h h2.h) λD σ H ⟨ρ,s,d,dp,I,h,F,q⟩ =>
 ⟨ρ,s,{d with nx:=u d dp},I,h,⟨λρ' s' σ' H' I' h'=>⟨ρ',s',d,dp,I',h',F,q⟩,F.rt,F.bk,F.ct⟩⟩⟩
noncomputable def Yy(ps:List lg)(fe:FE):P_:=λ_ dp ρ s=>∃ys:ο,s.get ps=some (.lst (ys.map .lf))/\eG ys=true/\fe ρ λu=>bZ u=true/\dp ys u
theorem bw.lfs{K:Γ}{H:Hp}{A:υ}:∀{ys:ο}{vs:v9}{fp:υ},bw K H A (ys.map .lf) vs fp->aA K H A ys vs
 |[],vs,fp,h=>by simp only[Pe,bw] at h;rw[h.1];exact aA.nil
 |y::ys,vs,fp,h=>by simp only[gU,bw,cw] at h;obtain⟨v,r,f,g,rfl,rfl,⟨_,h1⟩,h2⟩:=h;exact aA.cons h1 (bw.lfs h2)
def Ni{ps:List lg}{x1}(ho:PE X o (jG M.k ps))(he:∀H0,VE X ⟨H0,[],M.Ox⟩ e fe)(s1:starEach [o,e] X.env=(false,eval o X.env)::starEach [e] X.env:=by rfl)(s2:starEach [e] X.env=(false,eval e X.env)::starEach [] X.env:=by rfl) :
  Nh X M [.Return (some (.Tuple [o,e] x1 p)) pos] (Yy ps fe):=⟨λγ s' σ H D J ⟨ρ,s,d,dp,⟨⟨O,fp,F,I⟩,hp⟩,hg,Fi,dpk⟩=>by
 obtain⟨ys,EK,hys,hg⟩:=hg;obtain⟨w,f1,f,f2,A9,ev,Yg,_⟩:=F.o5.focus EK;have ym:=Yg;simp only[cw] at ym;obtain⟨l,xs,fq,rfl,hl,rfl,hL⟩:=ym;obtain⟨_,hσ⟩:=c7 I hp;refine j8 (uQ (Au (bO ho (bO (he (nI H (roots O)) []) dy s2) s1))) γ s' σ H D J ⟨.ref M.a,.ref l,hσ,ev,ρ,O,_,I,hg,λt ht v H1 sm a1=>⟨by rw[ξ];simp,λp R7=>?_⟩⟩;obtain⟨hi,hq⟩:=ht;have I0:=I.same sm;have F1:=F.now I0 (bM I);have sp:aV H1 (upd H1 p (.tup [.ref l,v])):=aH R7;have hlf:l∈fp:=by rw[A9];simp
 refine dpk ys t hq p l _ ⟨λb o e n=>sp _ _ (F1.kp b o e n).1,F1.fr l hlf,⟨v,aG,At.bZ hi (a1.same sp)⟩,⟨xs,sp _ _ (sm _ _ hl),?_⟩,hys,hi⟩;exact aA.bZ hys ((hL.lfs.same sm).same sp)⟩
noncomputable def Qb(X:Cx)(k:Nat)(C:Addr)(cz:S)(GL:ο->(T->Prop)->Prop)(g:Hp->υ->υ->Addr->P_):TS:=λD σ H=>∃ρ Ox pr t2 t3 q,ay X.K ⟨H,[],Ox⟩ [] (List.replicate X.N.length none) ρ σ H/\k<ρ.length/\ρ[0]?=some (some (pr,false))/\ρ[2]?=some (some (t2,false))/\ρ[3]?=some (some (t3,false)) /\
 bZ t2=true/\bZ t3=true/\GL [pr] q/\∀L,q L->∀H0 ub a,∃dp,g H0 ub Ox a {nx:=λ_ _=>False,rt:=λ_ _ _=>False} dp (ρ.set k (some (.pin a (S.ins C mN (yu cz L t2 t3)).t,false))) (.ins C mN (yu cz L t2 t3))/\∀us u,dp us u->∀p l H',uk X.K H H' us u p l->D.rt (.ref p) H'
def Iy{cz:S}{k kC:Nat}{fI:Addr}{Yn:FuncData}{g:Hp->υ->υ->Addr->P_}{px pC e1 e2 e3 pc:Pos}(hN:X.N.Nodup)(hk:X.N[k]?=some x)(hx:Loc X.env.scope x)(MI:Mk X.K C fI)(FI:cD X.prog X.w X.K X.mg X.base eQ kC fI Yn qav (spK X.K C cz GL))(rI:bG (kC+1) X.A)(gI:Gl X "Machine")(mI:X.mg "Machine"=some (.ref C))(bI:Binds X.K Yn qav [])(Iz:∀H0 ub Ox a,Nh X ⟨H0,ub,Ox,a,k⟩ rest (g H0 ub Ox a))(h0:X.N[0]?=some ("program":Str):=by rfl)(h2:X.N[2]?=some ("most":Str):=by rfl)(h3:X.N[3]?=some ("poke":Str):=by rfl)(v0:kH X.env.scope "program":=by exact jvv rfl)(v2:kH X.env.scope "most":=by exact jvv rfl)(v3:kH X.env.scope "poke":=by exact jvv rfl)(s1:starEach [.Name "program" e1,.Name "most" e2,.Name "poke" e3] X.env=(false,eval (.Name "program" e1) X.env)::starEach [.Name "most" e2,.Name "poke" e3] X.env:=by rfl)(s2:starEach [.Name "most" e2,.Name "poke" e3] X.env=(false,eval (.Name "most" e2) X.env)::starEach [.Name "poke" e3] X.env:=by rfl)(s3:starEach [.Name "poke" e3] X.env=(false,eval (.Name "poke" e3) X.env)::starEach [] X.env:=by rfl)(s4:(backTo pc (starEach [.Name "most" e2,.Name "poke" e3] X.env)).any (·.1)=false:=by rfl)(hs:swapsWith (.Call (.Name "Machine" pC) [.Name "program" e1,.Name "most" e2,.Name "poke" e3] [] pc) (some (.Name x px)) p1.line X.env=pure false:=by rfl)(hf:X.fn x=true\/X.env.scope.names.lookup x=some .local:=by first|exact .inl rfl|assumption) :
  jf X (.Assign [.Name x px] (.Call (.Name "Machine" pC) [.Name "program" e1,.Name "most" e2,.Name "poke" e3] [] pc) p1::rest) (Qb X k C cz GL g):=λγ s' σ H D J ⟨ρ,Ox,pr,t2,t3,q,I,VY,i0,i2,i3,m2,m3,hG,kk⟩=>by
 obtain⟨_,_,_,z0,rfl,w0,rfl,a0⟩:=I.sl 0 _ i0;obtain⟨_,_,_,z2,rfl,w2,rfl,a2⟩:=I.sl 2 _ i2;obtain⟨_,_,_,z3,rfl,w3,rfl,a3⟩:=I.sl 3 _ i3;have ea:av ⟨H,[],Ox⟩ (List.replicate X.N.length none)=Ox:=by unfold av;rw[dI];rfl
 rw[ea] at a0 a2 a3;have ro:roots ((List.replicate X.N.length (none:qar)).set k none)=[]:=by
  have:(List.replicate X.N.length (none:qar)).set k none=List.replicate X.N.length none:=by
   refine Ws λi=>?_;rw[Z2];split
   rename_i e;subst e;rw[DV,Ac]
   rfl
  rw[this];exact dI _
 refine c4 (uR hN hk hx (uT MI FI rI gI mI bI .nil jw (bO (cf h0 v0 (by decide) (by decide)) (bO (cf h2 v2 (by decide) (by decide)) (bO (cf h3 v3 (by decide) (by decide)) dy s3) s2) s1) (by decide) s1 s4) hs hf)
  (t:=_) (u:=λD σ1 H1=>∃fp a,lMD X ⟨H1,fp,Ox,a,k⟩ (g H1 fp Ox a) D σ1 H1) (λγ s σ1 H1 D1 J1 ⟨fp,a,h⟩=>(Iz H1 fp Ox a).h γ s σ1 H1 D1 J1 h) γ s' σ H D J ⟨w0,z0,w2,z2,w3,z3,λa dx na ndx gc=>?_⟩
 have nO:a∉Ox:=λz=>I.ox a z na;have s0:aV H (upd (upd H dx (.own a)) a (.ins C dx [])):=λb o e=>by rw[aB (bB e na),aB (bB e ndx)];exact e
 refine⟨a,dx,Ox,pr,w0,t2,w2,t3,w3,q,rfl,aG,nO,λb hb=>?_,(a0.more λb hb=>?_).same s0,m2,At.bZ m2 (a2.same s0),m3,At.bZ m3 (a3.same s0),hG,λL hL H1 In=>⟨rfl,?_⟩⟩;cases e:H b with
 |none=>exact absurd e (I.ox b hb)
 |some o=>rw[s0 _ _ e];simp
 rcases c0.mp hb with z|z
 exact .inr (by rw[z];exact na);exact .inl z;obtain⟨fp,hS,nd,each⟩:=In.ex;have ne:∀b∈fp,H b=none:=λb hb=>by
  rcases each b hb with z|z
  rw[z];exact na;cases e:H b with
  |none=>rfl
  |some o=>rw[s0 _ _ e] at z;cases z
 have sm:aV H H1:=λb o e=>In.fr b o (s0 _ _ e) (bB e na);have oy:∀b∈fp,b∉Ox:=λb hb z=>I.ox b z (ne b hb);have view:At X.K H1 Ox (S.ins C mN (yu cz L t2 t3)).t (.ref a):=hS.view (λb hb=>cb _ hb) oy;obtain⟨dp,hg,hd⟩:=kk L hL H1 fp a;have J1:=(I.same sm).put (i:=k) (t:=.pin a (S.ins C mN (yu cz L t2 t3)).t) (v:=.ref a) (λp hp=>absurd hp fA) (by rw[ea];simp only[At];exact⟨trivial,view⟩);refine⟨fp,a,_,_,_,dp,⟨⟨_,fp,⟨?_,nd,λb hb=>⟨by rw[ro];simp,oy b hb⟩,λb hb=>.inl hb,λb o e n=>⟨e,by rw[ro];simp⟩⟩,J1.rebase (Z:=⟨H,[],Ox⟩) rfl⟩,?_⟩,hg,⟨λ_ _ _ _ _ z=>z.elim,λ_ _ _ _ _ _ _ _ _ _ _ _ _ z=>z.elim,λ_ _ _ _ _ z=>z.elim,λ_ _ _ _ _ z=>z.elim⟩,λus u hu p l H' DM=>hd us u hu p l H' ⟨λb o e=>DM.kp b o (sm _ _ e) (λz=>by rw[ne b z] at e;cases e),DM.tup,?_,DM.lst,DM.i1,DM.i2⟩⟩;rw[ro];exact hS;exact DW VY;obtain z|z:=DM.own
 exact ne l z;cases e:H l with
 |none=>rfl
 |some o=>have z':H1 l=none:=z;rw[sm _ _ e] at z';cases z'
end
section
theorem fnR{cz:S}{st:Stmt}{N:ν}{k:Nat}{G:ο->(ο->T->Prop)->Prop}(F:Cu K x qual st f fd)(Sc:az N ps (ai st))(hn:4=ps.length)(hN:4<=N.length)(dF:∀(bF:Value) (A:Around) (outer:List Env) (s:Shared) (H:Hp) (E:XK),bG k (A.deeper (envOfC qual (ai st) s.heap.objs.size f bF))->∀t0 t1 t2 t3 q,G [t0,t1,t2,t3] q->∃g qL,jf (fN eQ P w K mg base N qual (ai st) f bF A outer s H E).pA (bE st) (Qb (fN eQ P w K mg base N qual (ai st) f bF A outer s H E).pA j C cz GL g)/\j<N.length/\bZ t2=true/\bZ t3=true/\GL [t0] qL /\
    ∀L,qL L->∀H0 ub Ox a,g H0 ub Ox a {nx:=λ_ _=>False,rt:=λ_ _ _=>False} q ((some (t0,false)::some (t1,false)::some (t2,false)::some (t3,false)::List.replicate (N.length-4) none:En).set j (some (.pin a (S.ins C mN (yu cz L t2 t3)).t,false))) (.ins C mN (yu cz L t2 t3))) :
  cD P w K mg base eQ (k+1) f fd ps (VU K 4 G):=by
 refine F.ok Sc (λvs H Q E h=>?_) (λbF A outer s H vs Q E hr h=>?_);obtain⟨ts,Ox,q,_,ha,hl,_⟩:=h;rw[ha.length,hl,hn];obtain⟨ts,Ox,q,ox,ha,hl,hG,kk⟩:=h
 match ts,hl with
 |[t0,t1,t2,t3],_=>obtain⟨g,qL,hP,hj,m2,m3,hL,hg⟩:=dF bF A outer s H E hr t0 t1 t2 t3 q hG;refine⟨_,hP,_,Ox,t0,t2,t3,qL,kf (N:=N) (ts:=[t0,t1,t2,t3]) hN ox ha,?_,rfl,rfl,rfl,m2,m3,hL,λL hq H0 ub a=>⟨q,hg L hq H0 ub Ox a,λus u hu p l H' D=>kk us u hu p l H' D⟩⟩;show j<(_::_::_::_::List.replicate (N.length-4) none:En).length;simp only[xk,Ac];omega
end
structure yw(K:Γ)(x qual:Str)(st:Stmt)(f:Addr)(fd:FuncData):Prop where
 ex:∃(oc:Value)(od:qar)(dV kV doc pm:Value)(an:qar)(bF ct:Value)(Ed:Array (Option Value)),
  fd=W.fnOf x qual (cn st) (bE st) (ai st) dV kV doc pm an bF ct/\K.lookup f=some ⟨oc,od,.func fd,Ed⟩/\W.codeIn K bF qual=true
 kp:W.keepIn K (.ref f)=true
section
def yw.ok{st:Stmt}{N:ν}{k:Nat}(F:yw K x qual st f fd)(S:az N ps (ai st))(len:∀vs H Q E,sp vs H Q E->vs.length=ps.length)(dF:∀(bF:Value) (A:Around) (outer:List Env) (s:Shared) (H:Hp) (vs:v9) (Q:VK) (E:XK),bG k (A.deeper (envOfC qual (ai st) s.heap.objs.size f bF))->sp vs H Q E ->
    ∃t,jf (fN eQ P w K mg base N qual (ai st) f bF A outer s H E).pA (bE st) t/\t {nx:=λ_ H'=>Q .aO H',rt:=Q} (start N vs) H):cD P w K mg base eQ (k+1) f fd ps sp:=by
 obtain⟨oc,od,dV,kV,doc,pm,an,bF,ct,Ed,rfl,lk,gm⟩:=F.ex;refine Po lk gm S len λA outer s H vs Q E hr Lm=>?_;obtain⟨t,h,q⟩:=dF bF A outer s H vs Q E hr Lm;exact⟨t,h.pA,q⟩
end
section
variable{k:Nat}{G:ο->(ο->T->Prop)->Prop}{ds:Ψ}{qk:v9}{dts:ο}
def lDR(X:Cx)(Z:Zc)(tm:qab)(f:En->(ο->T->Prop)->Prop):TE:=λσ H Q=>∃ρ O q,ay X.K Z tm O ρ σ H/\f ρ q/\∀us u,q us u->∀p l H',uk X.K H H' us u p l->Q (.ref p) H'
def Qc(X:Cx)(Z:Zc)(e:Expr)(f:En->(ο->T->Prop)->Prop):Prop:=Bx λtm=>PE X e (lDR X Z tm f)
instance{X:Cx}{Z:Zc}{e:Expr}{f:En->(ο->T->Prop)->Prop}:CoeFun (Qc X Z e f) λ_=>∀tm,PE X e (lDR X Z tm f):=⟨λh=>Bx.h h⟩
def Tg(n:Nat)(dts:ο)(g:FA)(G:ο->(ο->T->Prop)->Prop):En->(ο->T->Prop)->Prop:=λρ Q=>g ρ λts=>(ts++dts).length=n/\G (ts++dts) Q
def q_(F:cD X.prog X.w X.K X.mg X.base eQ k f fd ps (VU X.K n G))(hr:bG k X.A)(hg:Gl X x)(hm:X.mg x=some (.ref f))(hk:W.keepIn X.K (.ref f)=true)(hb:Binds X.K fd ps ds)(hd:Vals qk ds)(hdt:∀H A,aA X.K H A dts qk)(ha:VA X Z (e::es) g)(l_:iq x:=by decide)(he:starEach (e::es) X.env=(false,eval e X.env)::starEach es X.env:=by rfl)(gO:(backTo pos (starEach es X.env)).any (·.1)=false:=by rfl) :
  Qc X Z (.Call (.Name x p) (e::es) [] pos) (Tg n dts g G):=.mk λtm=>PE.weak (j9 F hr hg hm hk hb hd jw (ha tm) l_ he gO) λσ H Q ⟨ρ,O,q,I,hf,k⟩ =>
 ⟨ρ,O,_,I,hf,λts gh vs H1 s1 a1=>by
   refine⟨ts++dts,av Z O,q,(I.same s1).z7,a1.append (hdt H1 _),gh.1,gh.2,λus u hu p l H' D=>k us u hu p l H' ⟨s1.trans D.same,D.tup,?_,D.lst,D.i1,D.i2⟩⟩;cases z:H l with
   |none=>rfl
   |some o=>have:=D.new;rw[s1 _ _ z] at this;cases this⟩
def uk.at{tm:qab}{us:ο}{u:T}{p l:Addr}(I:ay K Z tm O ρ σ H)(D:uk K H H' us u p l):At K H' (av Z O) (.tup [.lst us,u]) (.ref p):=by obtain⟨v,h1,h2⟩:=D.tup;obtain⟨vs,h3,h4⟩:=D.lst;refine cP (fB.of h1) (aA.cons ?_ (aA.cons (At.bZ D.i2 h2) aA.nil));simp only[At];exact⟨l,vs,rfl,.inl ⟨.inl h3,λz=>I.z7 _ z D.new⟩,aA.bZ D.i1 h4⟩
def Yz(f:En->(ο->T->Prop)->Prop):FP:=λρ Q=>f ρ λus u=>Q (.vw (.tup [.lst us,u]))
def Qc.vp{f:En->(ο->T->Prop)->Prop}(h:Qc X Z e f):VP X Z e (Yz f):=.mk λtm=>PE.weak (h tm) λσ H Q ⟨ρ,O,q,I,hf,k⟩ =>
 ⟨ρ,O,λus u=>q (.vw (.tup [.lst us,u])),I,hf,λus u hu p l H' D=>k _ hu _ H' D.same ⟨I.same D.same,D.at I⟩⟩
def IA{f:En->(ο->T->Prop)->Prop}(h:Qc X Z e f):jf X [.Return (some e) pos] (λD σ H=>∃ρ O q,ay X.K Z [] O ρ σ H/\f ρ q/\∀us u,q us u->∀p l H',uk X.K H H' us u p l->D.rt (.ref p) H') :=
 j8 (uQ (h []))
end
section
def adT{st:Stmt}{N:ν}{k:Nat}{G:ο->(ο->T->Prop)->Prop}(F:yw K x qual st f fd)(S:az N ps (ai st))(hn:n=ps.length)(hN:n<=N.length)(dF:∀(bF:Value) (A:Around) (outer:List Env) (s:Shared) (H:Hp) (E:XK) (Ox:υ),bG k (A.deeper (envOfC qual (ai st) s.heap.objs.size f bF))->∀ts q,G ts q->ts.length=n->∃e pos f',bE st=[.Return (some e) pos]/\Qc (fN eQ P w K mg base N qual (ai st) f bF A outer s H E).pA ⟨H,[],Ox⟩ e f'/\f' (ts.map (λt=>some (t,false))++List.replicate (N.length-ts.length) none) q) :
  cD P w K mg base eQ (k+1) f fd ps (VU K n G):=by
 refine F.ok S (λvs H Q E h=>?_) (λbF A outer s H vs Q E hr h=>?_);obtain⟨ts,Ox,q,_,ha,hl,_⟩:=h;rw[ha.length,hl,hn];obtain⟨ts,Ox,q,ox,ha,hl,hG,kk⟩:=h;obtain⟨e,pos,f',hb,hV,hf⟩:=dF bF A outer s H E Ox hr ts q hG hl;rw[hb];exact⟨_,IA hV,_,_,q,kf (by omega) ox ha,hf,kk⟩
end
end VT
namespace VT
open PySem PySem.Spec PyProof.Rows L2
open AutoSeq1 (wpAny_loadPart')
theorem ET(b:Addr)(xs:Array Value)(m:Nat)(dq:qar)(sq:Array (Option Value)) :
  Meets (Builtin.«enumerate.__new__» ⟨[.type "enumerate",.ref b],[]⟩) (λ_ R s=>s.heap.get? b=some ⟨.type "tuple",dq,.seq xs m,sq⟩ /\
   R (.ok (.ret (.ref (s.heap.push {cls:=.type "tuple_iterator",data:=.fields #[.ref b,.int 0 0]}).objs.size)))
    {s with heap:=(s.heap.push {cls:=.type "tuple_iterator",data:=.fields #[.ref b,.int 0 0]}).push ⟨.type "enumerate",none,.fields #[.none,.bool false,.ref s.heap.objs.size,rawInt 0,.none,.none],#[]⟩}) :=
 .of_wp λprog w A R s ⟨hb,k⟩=>by
  obtain⟨h0,g0,d0,t0,os0⟩:=s;have aen:=sub_enumerate;have hT:Heap.IsTuple (Shared.heap ⟨h0,g0,d0,t0,os0⟩) b xs:=⟨_,hb,rfl,m,rfl⟩
  wp_walk using wpAny_loadPart' hb
  refine wpAny_stack_any λst=>η ?_;split
  rename_i c _ _ _ _ _
  cases (c==Value.type "enumerate")<;>(wp_walk using wpAny_loadPart' hb,aap hT)<;>exact⟨_,rfl,k⟩
  wp_walk using wpAny_loadPart' hb,aap hT
  exact⟨_,rfl,k⟩
section
variable{s:Shared}
def IB{xs:Array Value}(hT:s.heap.IsTuple b xs)(k:∀h',IsEnum h' (s.heap.objs.size+1) s.heap.objs.size 0 .none->h'.IsTupleIter s.heap.objs.size b 0->(∀c o,s.heap.get? c=some o->h'.get? c=some o)->Q (.ref (s.heap.objs.size+1)) {s with heap:=h'}) :
  wpAny (model prog w) A (call (.type "enumerate") [.ref b]) Q E s:=by
 obtain⟨⟨c,dq,dt,sq⟩,hb,hc,m,hd⟩:=hT;have e1:c=.type "tuple":=hc;have e2:dt=.seq xs m:=hd;subst e1 e2;refine callType_new F.called_enumerate (by decide) (F.typeCall_enumerate_1 _) (F.newCall_enumerate_1 _) (λobj=>F.args_object_init_2 obj _) F.entry_enumerate_new (ET b xs m dq sq) ⟨hb,?_⟩;have z1:(s.heap.push {cls:=.type "tuple_iterator",data:=.fields #[.ref b,.int 0 0]}).objs.size=s.heap.objs.size+1:=Q2 ..;have z2:IsEnum ((s.heap.push {cls:=.type "tuple_iterator",data:=.fields #[.ref b,.int 0 0]}).push ⟨.type "enumerate",none,.fields #[.none,.bool false,.ref s.heap.objs.size,rawInt 0,.none,.none],#[]⟩) (s.heap.objs.size+1) s.heap.objs.size 0 .none:=by rw[<- z1];exact ph _ rfl
 show _/\_;rw[z1];exact⟨⟨_,z2,rfl⟩,k _ z2 ⟨_,jn _ (ph _ rfl),rfl,rfl⟩ λc o q=>jn _ (jn _ q)⟩
def Ba{j:Addr}{xs:Array Value}{y:Value}(hj:s.heap.IsTupleIter j b n)(hb:s.heap.IsTuple b xs)(hy:xs[n]?=some y)(k:∀h',h'.IsTupleIter j b (n+1)->Heap.SameBut j s.heap h'->Q y {s with heap:=h'}):wpAny (model prog w) A (Builtin.SmallTypes.nextOf (.ref j)) Q E s:=by obtain⟨u,g1,g2,g3⟩:=id hj;obtain⟨v,f1,_,q,f2⟩:=hb;unfold Builtin.SmallTypes.nextOf;refine δ (aah (name:=Str.ofString "__next__") hj.typeIs ZR (P2 ZR hj.typeIs F.entry_tuple_iterator_next ?_ (F.args_tuple_iterator_next_1 _)));show wpAny _ _ (field (.ref j) 0 >>= _) _ _ s;refine δ (aag g1 g3 (x:=.ref b) rfl ?_);show wpAny _ _ (if (Value.ref b==Value.none)=true then _ else _) _ _ s;rw[ζ (show ¬ ((Value.ref b==Value.none)=true) from iM)];show wpAny _ _ (field (.ref j) 1 >>= _) _ _ s;refine δ (aag g1 g3 (x:=.int n 0) rfl ?_);show wpAny _ _ (seqItems? (.ref b) >>= _) _ _ s;refine δ (aas f1 f2 ?_);simp only[zY,hy];refine δ (wpAny_setField g1 g3 (by simp) (η ⟨y,rfl,η (k _ ⟨_,Heap.get?_update_self _ g1 (Obj.isFreed_of_fields (Obj.data_mapFields g3 _)),(Obj.cls_mapFields ..).trans g2,by rw[Obj.data_mapFields g3];simp[rawInt]⟩ (Heap.SameBut.update ..))⟩))
theorem um{j:Addr}{xs:Array Value}(hh:A.handled=none)(hj:s.heap.IsTupleIter j b n)(hb:s.heap.IsTuple b xs)(hy:xs[n]?=none)(k:∀h' e,Heap.ExtBut j s.heap h'->(∃o,h'.get? e=some o/\o.cls=.type "StopIteration")->E (.ref e) {s with heap:=h'}):wpAny (model prog w) A (Builtin.SmallTypes.nextOf (.ref j)) Q E s:=by
 obtain⟨u,g1,g2,g3⟩:=id hj;obtain⟨v,f1,_,q,f2⟩:=hb;unfold Builtin.SmallTypes.nextOf;refine δ (aah (name:=Str.ofString "__next__") hj.typeIs ZR (P2 ZR hj.typeIs F.entry_tuple_iterator_next ?_ (F.args_tuple_iterator_next_1 _)));show wpAny _ _ (field (.ref j) 0 >>= _) _ _ s;refine δ (aag g1 g3 (x:=.ref b) rfl ?_);show wpAny _ _ (if (Value.ref b==Value.none)=true then _ else _) _ _ s;rw[ζ (show ¬ ((Value.ref b==Value.none)=true) from iM)];show wpAny _ _ (field (.ref j) 1 >>= _) _ _ s;refine δ (aag g1 g3 (x:=.int n 0) rfl ?_);show wpAny _ _ (seqItems? (.ref b) >>= _) _ _ s;refine δ (aas f1 f2 ?_);simp only[zY,hy];refine δ (wpAny_rule (δ (wpAny_setField g1 g3 (by simp) ?_)));show wpAny _ _ (newExc (.type "StopIteration") [] >>= _) _ _ _;refine δ ?_;simp only[newExc,newTuple];refine δ (Θ ?_ (by size_fits));refine δ (m:=firstArgMember _ _) (wpAny_of_eq (a:=Value.none) (by first|rfl|(simp only[firstArgMember];rfl)) ?_);refine Θ ?_ (by size_fits);simp only[raiseNew];refine δ (wpAny_handled ?_)
 first|rw[show A.in1.handled=none from hh]|rw[hh]
 exact δ (η (wpAny_throw (k _ _ (((Heap.SameBut.update ..).extBut.push _).push _) ⟨_,ph _ rfl,rfl⟩)))
end
def YA(hh:A.handled=none)(j b:Addr)(gc:b≠j)(xs:Array Value):Draws prog w A j [j,b] xs.size (λi v=>xs[i]?=some v) (λi h=>h.IsTupleIter j b i/\h.IsTuple b xs) where
 live:=λ_ _ st=>let ⟨o,ho,_⟩:=st.1;⟨o,ho⟩
 frame:=λ_ _ _ st hk=>⟨let ⟨o,e,r⟩:=st.1;⟨o,hk j (by simp) o e,r⟩,let ⟨o,e,r⟩:=st.2;⟨o,hk b (by simp) o e,r⟩⟩
 item:=λi s Q E hi st k=>Ba st.1 st.2 (y:=xs[i]) (by simp[hi]) λh' h1 h2=>k _ h' s.toks (by simp[hi]) ⟨h1,st.2.extBut h2.extBut gc⟩ h2
 done:=λs Q E st k=>um hh st.1 st.2 (by simp) k
def YB(hh:A.handled=none)(j b:Addr)(xs:Array Value)(i:Nat)(hi:xs[i]?=none):Draws prog w A j [j,b] i (λ_ _=>False) (λk h=>k=i/\h.IsTupleIter j b i/\h.IsTuple b xs) where
 live:=λ_ _ st=>let ⟨o,ho,_⟩:=st.2.1;⟨o,ho⟩
 frame:=λ_ _ _ st hk=>⟨st.1,let ⟨o,e,r⟩:=st.2.1;⟨o,hk j (by simp) o e,r⟩,let ⟨o,e,r⟩:=st.2.2;⟨o,hk b (by simp) o e,r⟩⟩
 item:=λk s Q E hk st _=>absurd st.1 (j7 hk)
 done:=λs Q E st k=>um hh st.2.1 st.2.2 hi k
noncomputable def Th(K:Γ)(a:Addr):It :=
 ⟨λi H=>∃xs x,fB K H a xs/\xs[i]?=some x,λi H v H'=>∃t x,H t=none/\v=.ref t/\(∀xs,fB K H a xs->xs[i]?=some x)/\H'=upd H t (.tup [.int (i:Int),x]),λi H=>∃xs,fB K H a xs/\xs.length<=i⟩
def Bb{elts:qap}{x1}{tp:Pos}(a e it:Addr)(gc:e≠it)(hea:e≠a)(hai:a≠it) :
  Turn P w K (.Tuple elts x1 tp) (Th K a) [e,it] e (λi h=>(∃old,IsEnum h e it (i:Int) old)/\h.IsTupleIter it a i) where
 mem:=by simp
 obj:=λi h st b hb=>by
  obtain⟨⟨old,h1⟩,o,h2,c,d⟩:=st;rcases c0.mp hb with z|z
  subst z;exact⟨_,h1,λv z=>by cases z⟩;have z':b=it:=by simpa using z
  subst z';exact⟨o,h2,λv z=>by rw[d] at z;cases z⟩
 keep:=λi h h' st k=>by obtain⟨⟨old,h1⟩,o,e2,r⟩:=st;exact⟨⟨old,k e (by simp) _ h1⟩,o,k it (by simp) o e2,r⟩
 item:=by
  intro X hP hw hK hc i γ s σ H E I hf st hg;subst hP hw hK;obtain⟨xs,x,hq,hx⟩:=hg;obtain⟨aW,rv,p,hz⟩:=I.tuple hq;obtain⟨u,hu,ru⟩:=rv.get hx;obtain⟨⟨old,h1⟩,xD⟩:=st;have hi:i<aW.toArray.size:=by simp;exact (eE.mp hu).1
  refine wpAny_pyNext_enum_itemD (YA (show X.A.in1.handled=none from I.ok.hd hc) it a hai aW.toArray) h1 ⟨xD,p⟩ hi gc (by simp[gc,hea]) λu' h₁ tk hP Lj R6 ht₁ hz₁ hk₁=>?_;have eu:u'=u:=by
   have Pr:aW[i]?=some u':=by simpa using hP
   rw[hu] at Pr;exact (Option.some.inj Pr).symm
  subst eu;refine⟨_,rfl,wpAny_letOwnedTupleGo_enum Lj λh₂ he₂ hs₂=>?_⟩;have AH:Heap.SameBut e h₁ h₂:=hs₂;have gq:e<s.heap.objs.size:=iw h1;have hte:s.heap.objs.size≠e:=Lg gq;have kk:∀b ob,b∉[e,it]->s.heap.get? b=some ob->h₂.get? b=some ob:=λb ob hb q=>by have D4:b≠e:=λz=>hb (by simp[z]);exact (AH.2 b D4).trans (hk₁ b ob D4 (λz=>hb (by simp[z])) q)
  have new:cS X.prog X.w (upd H s.heap.objs.size (.tup [.int (i:Int),x])) h₂ s.heap.objs.size (.tup [.int (i:Int),x]) :=
   ⟨by show 2<=sizeLine;rw[ξ];decide,[.int i tk,u'],.cons ⟨_,rfl⟩ (.cons ru .nil),⟨_,(AH.2 _ hte).trans ht₁,rfl,_,rfl⟩⟩
  refine⟨.ref s.heap.objs.size,upd H s.heap.objs.size (.tup [.int (i:Int),x]),I.grown (t':=tk+1) kk hf (c9 _) new,rfl,⟨_,x,I.fresh,rfl,λys hy=>by rw[I.nP hy hq];exact hx,rfl⟩,⟨⟨u',?_⟩,?_⟩,λb hb=>?_⟩;have:((i:Int)+1)=((i+1:Nat):Int):=by omega
  rw[<- this];exact he₂;obtain⟨⟨o,q,r⟩,_⟩:=R6;exact⟨o,(AH.2 it (Ne.symm gc)).trans q,r⟩;have Vz:b<s.heap.objs.size:=by
   rcases c0.mp hb with z|z
   subst z;exact gq;have z':b=it:=by simpa using z
   subst z';obtain⟨o,q,_⟩:=xD;exact iw q
  rw[aB (j7 Vz)];exact (hf b hb).1
 done:=by intro X hP hw hK hc i γ s σ H E I hf st hg;subst hP hw hK;obtain⟨xs,hq,hx⟩:=hg;obtain⟨aW,rv,p,hz⟩:=I.tuple hq;have hl:=rv.length;obtain⟨⟨old,h1⟩,xD⟩:=st;obtain⟨f0,f1,f2,f3,f4,f5⟩:=hf it (by simp);exact wpAny_pyNext_enum_endD (YB (show X.A.in1.handled=none from I.ok.hd hc) it a aW.toArray i (by simp;omega)) h1 ⟨rfl,xD,p⟩ λh' eb=>⟨rfl,I.turned (t':=s.toks) (λb o hb q=>eb b o hb q) f0 f1 f3 f4 f5⟩
 self:=λ_ _ _ _ _ st h=>by obtain⟨⟨old,h1⟩,_⟩:=st;exact aai h1 h
section
noncomputable def Ti(K:Γ)(ta:TA):TI:=λσ H R=>ta σ H λvs H1=>∃a,vs=[.ref a]/\(∃xs,fB K H1 a xs)/\R (Th K a) H1
def IC{elts:qap}{x1}{tp:Pos}{a:Expr}{ta:TA}(hg:Gl X "enumerate")(hm:X.mg "enumerate"=none)(ha:PA X [a] ta)(hs:starEach [a] X.env=[(false,eval a X.env)]:=by rfl) :
  PI X (.Tuple elts x1 tp) (.Call (.Name "enumerate" p) [a] [] pos) (Ti X.K ta):=by
 intro γ s σ H R I h;refine Call_ (nN I hg hm L2.boot_enumerate (ZP (ck (ha pos γ s σ H _ I h) λus s1 ⟨vs,H1,I1,r1,q1⟩=>?_) hs rfl));obtain⟨b,e,⟨xs,hq⟩,q⟩:=q1;subst e;obtain⟨u,rfl,ru⟩:=vals1 r1;cases ru;obtain⟨aW,rv,pl,hz⟩:=I1.tuple hq;have hb:b<s1.heap.objs.size:=by obtain⟨o,ho,_⟩:=pl;exact iw ho
 refine IB pl λh' he hit hk=>aai he ?_;refine⟨s1.heap.objs.size+1,[s1.heap.objs.size+1,s1.heap.objs.size],_,_,H1,rfl,I1.kept (t':=s1.toks) hk,Bb b _ _ (Lg (Cc _)) (Lg (Lb hb)) (j7 hb),⟨⟨_,he⟩,hit⟩,λc hc=>?_,q⟩;rcases c0.mp hc with z|z
 subst z;exact I1.pD (Vt _) (I1.cm.fresh (Vt _));have z':c=s1.heap.objs.size:=by simpa using z
 subst z';exact I1.pD (c9 _) I1.fresh
end
noncomputable def Tj(f:FE):FI:=λρ Q=>f ρ λt=>match t with
 |.tup ts=>Q (dX ts)
 |_=>False
theorem ID{ts:ο}:Wk K (Th K a) [(.tup ts,.ref a)] (dX ts):=λH A hA h i=>by
 have h:=h _ dD;simp only[At] at h;obtain⟨b,vs,e,l,q⟩:=h;cases e;have hl:=q.length;have hle:(dX ts).length=ts.length:=by unfold dX;rw[Z1]
 rw[hle];refine⟨λhi=>⟨vs,vs[i]'(by omega),l,by simp⟩,λhi=>⟨vs,l,by omega⟩,λt ht x H' y=>?_⟩;obtain⟨p,u,hp,rfl,hu,rfl⟩:=y;unfold dX at ht;rw[Wr] at ht;cases e:ts[i]? with
 |none=>rw[e] at ht;cases ht
 |some t'=>rw[e] at ht;cases ht;obtain⟨v,e1,e2⟩:=q.get e;have:=hu vs l;rw[e1] at this;cases this;exact⟨aH hp,cP (fB.of aG) (aA.cons bC (aA.cons (e2.same (aH hp)) aA.nil))⟩
def IE{a:Expr}{elts:qap}{x1}{tp:Pos}(hg:Gl X "enumerate")(hm:X.mg "enumerate"=none)(ha:VE X Z a fa)(hs:starEach [a] X.env=[(false,eval a X.env)]:=by rfl) :
  VI X Z (.Tuple elts x1 tp) (.Call (.Name "enumerate" p) [a] [] pos) (Tj fa):=.mk λtm=>PI.weak (IC hg hm (bO (ha tm) dy hs) hs) λσ H R ⟨ρ,O,q,I,hf,k⟩=>⟨ρ,O,_,I,hf,λt ht v H' s a=>by
 split at ht;have a0:=a;simp only[At] at a;obtain⟨p,vs,rfl,l,_⟩:=a;exact⟨p,rfl,⟨vs,l⟩,k _ ht _ H' _ s (λp hp=>by rw[hX.mp hp];exact a0) ID⟩;exact ht.elim⟩
def pY{ds:Ψ}{o:Obj}{xs:Array Value}(h1:fd.defaults=.ref a)(h2:K.lookup a=some o)(h3:o.data=.seq xs n)(hl:ps.length=m+ds.length)(h:∀us:Ψ,us.length=m->∃k,bindArgs fd ⟨us,[]⟩=seqItems? fd.defaults >>= k/\k (some xs)=pure (ps.zip (us++ds))):Binds K fd ps ds:=λs us KX e=>by obtain⟨k,e1,e2⟩:=h us (by rw[nL] at e;omega);exact BindsTo.of_defaults h1 (KX _ _ h2) h3 e1 e2
section
variable{vv sl:Expr}{sp:Pos}{l:List (Str×T)}{k:Nat}
noncomputable def YC(l:List (Str×T))(fe:FE):FP:=λρ Q=>fe ρ λy=>onStr y λk=>∃t,A5 l k=some t/\Q (.vw t)
def IF(hg:Gl X x)(hm:X.mg x=some (.ref a))(d:qT X.w X.K a l)(he:VR X Z e fe)(hs:MK e:=by intro _ _;rfl)(hd:iq x:=by decide) :
  VP X Z (.Subscript (.Name x p) e pos) (YC l fe):=.mk λtm γ s σ H Q I ⟨ρ,O,q,E,hf,k⟩=>by
 refine CS PySem.F.slot_dict_getitem.lookup hs (ck (uP hg hm (v:=.ref a) rfl hd γ s σ H (λv H'=>v=.ref a/\H'=H) I ⟨rfl,rfl⟩) λu s1 ⟨x',H1,I1,rx,ex,eH⟩=>?_);subst ex eH;obtain rfl:u=Value.ref a:=rx;refine ck (he tm γ s1 σ H1 (λy H2=>∃t,jo X.K H2 (av Z O) t y/\aV H1 H2/\onStr t λk=>∃t',A5 l k=some t'/\q (.vw t')) I1 ⟨ρ,O,_,E,hf,λt ht v H' s a1=>⟨t,a1,s,ht⟩⟩) λiv s2 ⟨y,H2,I2,ry,t,a1,sa,q3⟩=>?_;obtain⟨kk,et,t',hg',q4⟩:=yf q3;subst et;obtain⟨jB,SR,Ht,Hu,z8,hs'⟩:=d.of I2;have ey:=a1.str;subst ey;obtain⟨v,ev,av'⟩:=(g9 (Ht H2 (av Z O))).1 t' hg';obtain⟨w',hw,rw'⟩:=ku.some_of (v:=v) (o:=valueAt SR (Sum.inr kk)) (by rw[<- ev,<- fO];exact Hu.val (Sum.inr kk));exact⟨z8.typeIs,wpAny_getItem_of (mJ (k:=Sum.inr kk) ry) z8.mapOf hw ⟨v,H2,I2.tok _,rw',k _ q4 _ H2 sa ⟨E.same sa,av'⟩⟩⟩
def Tn(ff:FP)(n:Nat)(g:FA)(Fn:Addr->GV->Prop):FP:=λρ Q=>ff ρ λr=>match r with
 |.vw (.ob f)=>∃G,Fn f G/\g ρ λts=>ts.length=n/\G ts Q
 |_=>False
def mQ(args:qap)(keywords:List Keyword)(env:Env):eval (.Call (.Subscript vv sl sp) args keywords pos) env=(do
 callWith pos (<- eval (.Subscript vv sl sp) env) [] (backTo pos (starEach args env)) (backToKw pos (keywordEach keywords env))):=rfl
def IG{ff:FP}{Fn:Addr->GV->Prop}(hx:VP X Z (.Subscript vv sl sp) ff)(C:∀f G,Fn f G->W.keepIn X.K (.ref f)=true/\∃fd ps,Binds X.K fd ps []/\cD X.prog X.w X.K X.mg X.base eQ k f fd ps (cK X.K n G))(hr:bG k X.A)(ha:VA X Z (e::es) g)(he:starEach (e::es) X.env=(false,eval e X.env)::starEach es X.env:=by rfl)(gO:(backTo pos (starEach es X.env)).any (·.1)=false:=by rfl) :
  VP X Z (.Call (.Subscript vv sl sp) (e::es) [] pos) (Tn ff n g Fn):=.mk λtm γ s σ H Q I ⟨ρ,O,q,E,hf,kk⟩=>by
 rw[mQ];refine δ (ck (hx tm γ s σ H (λv H'=>∃f G,v=.ref f/\aV H H'/\Fn f G/\g ρ λts=>ts.length=n/\G ts q) I ⟨ρ,O,_,E,hf,λr hr v H' s z=>?_⟩) λu s1 ⟨v,H1,I1,r,f,G,ev,sa,Ta,hg⟩=>?_);split at hr;obtain⟨G,Ta,hg⟩:=hr;have:=z.2;simp only[At] at this;exact⟨_,G,this,s,Ta,hg⟩;exact hr.elim;subst ev;obtain rfl:u=Value.ref f:=r;obtain⟨hk,fd,ps,hb,F⟩:=C f G Ta;have E1:=E.same sa;refine ZY (h₀:=X.base) I1.ok.mod.Vu hk (ck (ha tm pos γ s1 σ H1 (λvs H2=>cK X.K n G (vs++[]) H2 Q E0) I1 ⟨ρ,O,_,E1,hg,λts gh vs H2 s2 a2=>vj (E1.same s2) a2 gh.1 gh.2 λr hr v H' s z=>kk r hr v H' ((sa.trans s2).trans s) z⟩) λus s2 ⟨vs,H2,I2,r2,q2⟩=>⟨I2.sM,?_⟩) he gO;exact Ax F hr hb .nil jw I2 r2 q2
end
end VT
namespace Gen
open PySem L2 VT
open nU (bY)
def small(h:n<=1000):n<=sizeLine:=Nat.le_of_lt (Ei h)
def eR(h:Nat.ble n 1000=true):n<=sizeLine:=small (Nat.le_of_ble_eq_true h)
noncomputable def iE(n:Int):Nat:=bY.cps.toList.getD (n % 26).toNat 0
def yx:bY.cps.toList.length=26:=by decide +kernel
def vJ:bY.length=26:=by decide +kernel
def ig:bY.length<=sizeLine:=by rw[vJ,ξ];decide
def uo(n:Int):jg bY.cps.toList (n % 26)=some (iE n):=by
 have h0:0<=n % 26:=nH n (by decide);have h1:n % 26<26:=pj n (by decide);unfold iE;obtain⟨j,hj⟩:=Gs h0;rw[hj];have gq:j<bY.cps.toList.length:=by rw[yx];omega
 refine aw ?_;rw[zY,List.getD,iy gq];rfl
noncomputable def tw(c:Int):Int:=c % 1000000000000
noncomputable def kB(c:Int):Nat:=(1+tw c % 7).toNat
noncomputable def EU(c:Int):Nat:=(tw c / 7 % (kB c:Int)).toNat
noncomputable def vK(c:Int)(k j:Nat):Int:=tw c / 49 / ((j:Int)+1)+(j:Int) * (j:Int)+(if j=EU c then (k:Int) else 0)
noncomputable def cO(c:Int)(k n:Nat):Str:=⟨((List.range n).map λj=>iE (vK c k j)).toArray⟩
noncomputable def dJ(c:Int)(m:Nat):ν :=
 if tw c / 49 % 3=1 then ((List.range m).map λk=>cO c k (kB c)).set 1 (cO c 0 (kB c)++⟨#[iE (tw c / 147)]⟩) else (List.range m).map λk=>cO c k (kB c)
def Qd(c:Int):((kB c:Nat):Int)=1+tw c % 7:=by unfold kB;have:0<=tw c % 7:=nH _ (by decide);omega
def rf(c:Int):1<=kB c/\kB c<=7:=by have:=Qd c;have h0:0<=tw c % 7:=nH _ (by decide);have h1:tw c % 7<7:=pj _ (by decide);omega
def Qe(c:Int):((EU c:Nat):Int)=tw c / 7 % (kB c:Int):=by unfold EU;have h:=rf c;have:0<=tw c / 7 % (kB c:Int):=nH _ (by omega);omega
def YD(c:Int):EU c<kB c:=by have h:=rf c;have h1:=Qe c;have:tw c / 7 % (kB c:Int)<kB c:=pj _ (by omega);omega
def Bc(c:Int)(k n:Nat):cO c k (n+1)=cO c k n++⟨#[iE (vK c k n)]⟩:=by
 unfold cO;rw[List.range_succ,nG];show _=Str.mk (_++_)
 congr 1
 simp
def gj(c:Int)(k n:Nat):(cO c k n).length=n:=by unfold cO Str.length;simp
def Bd(c:Int)(m:Nat):(dJ c m).length=m:=by unfold dJ;split<;>simp
def YE:(10:Int) ^ (12:Int).toNat=1000000000000:=by decide +kernel
inductive jK where
 |nm (x:Str)
 |nu (i:Int)
inductive Ky where
 |fld (x:Str)
 |op (o:jK)
inductive Rw where
 |df (f:Str) (ps:ν)
 |give (a:jK)
 |put (x:Str) (a:jK)
 |lW (x:Str) (a:jK) (op:Str) (b:jK)
 |new (x:Str)
 |get (x r:Str) (k:Ky)
 |set (r:Str) (k:Ky) (a:jK)
 |call (x f:Str) (as:List jK)
 |fail (w:Str)
 |lq (a:jK)
 |nJ
 |gk (a:jK)
 |fin
 |skip
noncomputable def iF:jK->T
 |.nm x=>.str x
 |.nu i=>.int i
noncomputable def z9:Ky->T
 |.fld x=>.str (((".":String):Str)++x)
 |.op o=>iF o
noncomputable def aP:Rw->T
 |.df f ps=>.tup [.str "def",.str f,.tup (ps.map .str)]
 |.give a=>.tup [.str "give",iF a]
 |.put x a=>.tup [.str "put",.str x,iF a]
 |.lW x a op b=>.tup [.str "do",.str x,iF a,.str op,iF b]
 |.new x=>.tup [.str "new",.str x]
 |.get x r k=>.tup [.str "get",.str x,.str r,z9 k]
 |.set r k a=>.tup [.str "set",.str r,z9 k,iF a]
 |.call x f as=>.tup [.str "call",.str x,.str f,.tup (as.map iF)]
 |.fail w=>.tup [.str "fail",.str w]
 |.lq a=>.tup [.str "if",iF a]
 |.nJ=>.tup [.str "else"]
 |.gk a=>.tup [.str "while",iF a]
 |.fin=>.tup [.str "end"]
 |.skip=>.tup [.str "skip"]
def eD(ys:ν):jK->Prop
 |.nm x=>x∈ys
 |.nu i=>-1000000000000000000000000000000<=i/\i<1000000000000000000000000000000
def EV(ys:ν):Ky->Prop
 |.fld x=>x∈ys
 |.op o=>eD ys o
abbrev Plan:=List (Str×ν)
noncomputable def reckon:ν:=["plus","minus","times","over","rest","less","same"]
def gC(ys:ν)(later:Plan):Rw->Prop
 |.put x a=>x∈ys/\eD ys a
 |.lW x a op b=>x∈ys/\eD ys a/\op∈reckon/\eD ys b
 |.new x=>x∈ys
 |.get x r k=>x∈ys/\r∈ys/\EV ys k
 |.set r k a=>r∈ys/\EV ys k/\eD ys a
 |.call x f as=>x∈ys/\(∃ps,(f,ps)∈later/\as.length=ps.length)/\∀a∈as,eD ys a
 |.fail w=>w∈ys
 |.skip=>True
 |_=>False
noncomputable def bS(p:Str×ν):T:=.tup [.str p.1,.tup (p.2.map .str)]
def mR(hl:ys.length=6){n:Int}(hm:0<m)(hm6:m<=6):∃y∈ys,jg (ys.map T.str) (n % (m:Int))=some (T.str y):=by
 have h0:0<=n % (m:Int):=nH n (by omega);have h1:n % (m:Int)<m:=pj n (by omega);obtain⟨j,hj⟩:=Gs h0;have gq:j<ys.length:=by omega
 refine⟨ys[j],Gw gq,?_⟩;rw[hj];refine aw ?_;rw[iz,iy gq];rfl
def YF:(10:Int) ^ (30:Int).toNat=1000000000000000000000000000000:=by decide +kernel
def YG:(10:Int) ^ (9:Int).toNat=1000000000:=by decide +kernel
def YH:(10:Int) ^ (6:Int).toNat=1000000:=by decide +kernel
def adU:(((".":String):Str)).length=1:=by decide +kernel
def YI(i:Int):∃op∈reckon,jg [T.str "plus",T.str "minus",T.str "times",T.str "over",T.str "rest",T.str "less",T.str "same"] (i % 7)=some (T.str op):=by
 have h0:0<=i % 7:=nH i (by decide);have h1:i % 7<7:=pj i (by decide);obtain⟨j,hj⟩:=Gs h0;rw[hj] at h1 ⊢;have:j=0\/j=1\/j=2\/j=3\/j=4\/j=5\/j=6:=by omega
 obtain rfl|rfl|rfl|rfl|rfl|rfl|rfl:=this
 exact⟨"plus",by simp[reckon],aw rfl⟩;exact⟨"minus",by simp[reckon],aw rfl⟩;exact⟨"times",by simp[reckon],aw rfl⟩;exact⟨"over",by simp[reckon],aw rfl⟩;exact⟨"rest",by simp[reckon],aw rfl⟩;exact⟨"less",by simp[reckon],aw rfl⟩;exact⟨"same",by simp[reckon],aw rfl⟩
def To(hl:ys.length=6)(n:Int):∃y∈ys,jg (ys.map T.str) (4+n % 2)=some (T.str y):=by
 have h0:0<=n % 2:=nH n (by decide);have h1:n % 2<2:=pj n (by decide);obtain⟨j,hj⟩:=Gs h0;have gq:4+j<ys.length:=by omega
 refine⟨ys[4+j],Gw gq,?_⟩;rw[hj];have e:(4:Int)+(j:Int)=((4+j:Nat):Int):=by omega
 rw[e];refine aw ?_;rw[iz,iy gq];rfl
def lr(ys:ν)(pl:Plan)(b_:ν)(new:List Rw)(dR:ν):Prop :=
 (∃o,eD ys o/\new=[.lq o]/\dR=b_++([("if":Str)]:ν))\/(∃o,eD ys o/\new=[.gk o]/\dR=b_++([("while":Str)]:ν)) \/
 (∃y,y∈ys/\new=[.gk (.nm y),.lW y (.nm y) "minus" (.nu 1)]/\dR=b_++([("while":Str)]:ν))\/(∃s0,b_=s0++([("if":Str)]:ν)/\new=[.nJ]/\dR=s0++([("else":Str)]:ν)) \/
 (∃s0 x,b_=s0++[x]/\new=[.fin]/\dR=s0)\/(∃r,gC ys pl r/\new=[r]/\dR=b_)
def Nj{pl:Plan}{b_ new dR}(h:lr ys pl b_ new dR):new.length+dR.length<=b_.length+3:=by obtain⟨o,_,rfl,rfl⟩|⟨o,_,rfl,rfl⟩|⟨y,_,rfl,rfl⟩|⟨s0,rfl,rfl,rfl⟩|⟨s0,x,rfl,rfl,rfl⟩|⟨r,_,rfl,rfl⟩:=h<;>simp<;>omega
def lu(ys:ν)(pl:Plan):Prop:=∀(k:Nat) f ps,pl[k]?=some (f,ps)->ys[k]?=some f/\∃(a:Int)(r:Nat),r<=2/\ps=(List.range r).map λj=>ys.getD ((a+((j:Nat):Int)) % 4).toNat Str.empty
def IH(hl:ys.length=6)(n:Int):jg (ys.map T.str) (n % 4)=some (T.str (ys.getD (n % 4).toNat Str.empty)):=by
 have h0:0<=n % 4:=nH n (by decide);have h1:n % 4<4:=pj n (by decide);obtain⟨j,hj⟩:=Gs h0;have gq:j<ys.length:=by omega
 rw[hj];refine aw ?_;rw[iz,zY,List.getD,iy gq];rfl
inductive Body(ys:ν)(later:Plan):ν->List Rw->Prop
 |nil:Body ys later [] []
 |step {b_ dR:ν} {body new:List Rw}:Body ys later b_ body->lr ys later b_ new dR->Body ys later dR (body++new)
inductive Pre(ys:ν)(pl:Plan):Nat->List Rw->Prop
 |zero:Pre ys pl 0 []
 |succ {k:Nat} {rs:List Rw} {f:Str} {ps:ν} {b_:ν} {body:List Rw} {o:jK} {sk:List Rw}:Pre ys pl k rs->pl[k]?=some (f,ps)->Body ys (pl.drop (k+1)) b_ body->eD ys o->(sk=[]\/sk=[.skip]) ->
  Pre ys pl (k+1) (rs++(.df f ps::(body++(List.replicate b_.length .fin++(.give o::sk)))))
theorem eI{α:Type}{f:α->T}(h:∀x,plainT (f x)=true):∀l:List α,dh (l.map f)=true
 |[]=>by simp[dh]
 |x::l=>by simp only[gU,dh,h x,eI h l,Q5]
theorem gD{α:Type}{f:α->T}{n:Nat}(h:∀x,dep (f x)<=n):∀l:List α,pH (l.map f)<=n
 |[]=>by simp[pH]
 |x::l=>by have:=h x;have:=gD h l;simp only[gU,pH];omega
def Be(p:Str×ν):plainT (bS p)=true:=by simp[bS,plainT,dh,eI (f:=T.str) (λ_=>by simp[plainT])]
def yy(pl:Plan):plainT (.lst (pl.map bS))=true:=by simp only[plainT];exact eI Be pl
def II(p:Str×ν):dep (bS p)<=2:=by have:=gD (f:=T.str) (n:=0) (λ_=>by simp[dep]) p.2;simp only[bS,dep,pH];omega
def EW(pl:Plan):dep (.lst (pl.map bS))<=100:=by have:=gD (f:=bS) (n:=2) II pl;simp only[dep];omega
def vL(o:jK):bZ (iF o)=true:=by cases o<;>simp[iF,bZ]
def Nk(o:Ky):bZ (z9 o)=true:=by cases o with|fld x=>simp[z9,bZ]|op o=>exact vL o
theorem eZ{α:Type}{f:α->T}(h:∀x,bZ (f x)=true):∀l:List α,eG (l.map f)=true
 |[]=>by simp[eG]
 |x::l=>by simp only[gU,eG,h x,eZ h l,Q5]
def mT(r:Rw):bZ (aP r)=true:=by cases r<;>simp[aP,bZ,eG,vL,Nk,eZ (f:=T.str) (λ_=>by simp[bZ]),eZ (f:=iF) vL]
end Gen
variable{r:Gen.Rw}{pl:Gen.Plan}
abbrev S1:=List Gen.Rw
set_option exponentiation.threshold 4000
namespace iL
open PySem L2 VT
noncomputable def fQ(i:Int):Int:=(i+1000000000000000000000000000000) % (2 * 1000000000000000000000000000000)-1000000000000000000000000000000
def RI(i:Int):Prop:=-1000000000000000000000000000000<=i/\i<1000000000000000000000000000000
def RI.big{i:Int}(h:RI i):mC i:=by
 unfold RI at h;unfold mC;have:i.natAbs<=1000000000000000000000000000000:=by omega
 exact Z0 this (by decide +kernel)
inductive Vl where
 |num (i:Int)
 |Gp (p r:Int)
 deriving DecidableEq
noncomputable def vT:Vl->T
 |.num i=>.int i
 |.Gp p r=>.tup [.int p,.int r]
noncomputable def nm:Vl->Int
 |.num i=>i
 |.Gp _ _=>0
inductive EX where
 |plus|minus|times|over|rest|less
noncomputable def jL:EX->Str
 |.plus=>"plus"
 |.minus=>"minus"
 |.times=>"times"
 |.over=>"over"
 |.rest=>"rest"
 |.less=>"less"
def Bf:EX->Bool
 |.over=>true
 |.rest=>true
 |_=>false
noncomputable def Nl:EX->Int->Int->Int
 |.plus,x,y=>x+y
 |.minus,x,y=>x-y
 |.times,x,y=>x * y
 |.over,x,y=>x.fdiv y
 |.rest,x,y=>x.fmod y
 |.less,x,y=>if x<y then 1 else 0
noncomputable def rkT(o:EX)(x y:Int):T:=if Bf o=true/\y=0 then .aO else .int (fQ (Nl o x y))
noncomputable def yz(a b:Vl):T:=.int (if a=b then 1 else 0)
def YJ{i:Int}(h : -100000000000000<=i/\i<=100000000000000):mC i:=by
 unfold mC;have:i.natAbs<=100000000000000:=by omega
 exact Z0 this (by decide +kernel)
def bg(i:Int)(h : -100000000000000<=i/\i<=100000000000000:=by decide):mC i:=YJ h
def YK:mC (10 ^ (30:Int).toNat):=mC.of (by decide +kernel) (by decide +kernel)
def pw(j:Int)(h:0<=j/\j<=1000:=by decide):0<=j/\j<=1000/\mC 10:=⟨h.1,h.2,bg 10⟩
end iL
variable{rs:S1}
namespace Gen
open PySem L2 VT
open nU (bY Em dm)
def C8(n:Int):Em (iE n)=true:=by
 have h0:0<=n % 26:=nH n (by decide);have h1:n % 26<26:=pj n (by decide);have h:∀j<26,Em (bY.cps.toList.getD j 0)=true:=by decide +kernel
 exact h _ (by omega)
def IJ{a b:Int}(h:iE a=iE b):a % 26=b % 26:=by
 have a0:0<=a % 26:=nH a (by decide);have a1:a % 26<26:=pj a (by decide);have b0:0<=b % 26:=nH b (by decide);have b1:b % 26<26:=pj b (by decide);have k:∀i<26,∀j<26,bY.cps.toList.getD i 0=bY.cps.toList.getD j 0->i=j:=by decide +kernel
 have:=k (a % 26).toNat (by omega) (b % 26).toNat (by omega) h;omega
def EY{c:Int}{k k':Nat}(hn:EU c<n)(hk:k<26)(tu:k'<26)(h:cO c k n=cO c k' n):k=k':=by
 have h2:((List.range n).map λj=>iE (vK c k j))=((List.range n).map λj=>iE (vK c k' j)):=by have:=ψ (λy:Str=>y.cps.toList) h;exact this
 have h3:=ψ (λl:qao=>l[EU c]?) h2;simp only[iz,Vp hn,Vs,Option.some.injEq] at h3;have h4:=IJ h3;unfold vK at h4;rw[ε rfl,ε rfl] at h4;omega
def rg{c:Int}{k:Nat}(h1:1<=n)(h8:n<=8):dm (cO c k n)=true:=by unfold dm;rw[gj,μ (by omega),μ (by omega),Pd,Pd];show ((List.range n).map λj=>iE (vK c k j)).all Em=true;rw[List.all_map];exact QW.mpr λj _=>C8 _
def IK{n:Int}(h:dm x=true)(hl:x.length<=7):dm (x++⟨#[iE n]⟩)=true:=by
 have hx:=nU.mh h;have el:(x++(⟨#[iE n]⟩:Str)).length=x.length+1:=by show (x.cps++#[iE n]).size=_;simp[Str.length]
 unfold dm;rw[el,μ (by omega),μ (by omega),Pd,Pd];show (x.cps++#[iE n]).toList.all Em=true;simp only[Array.toList_append,List.all_append,hx,Pd];simp[C8]
def Nn(x:Str)(n:Int):(x++(⟨#[iE n]⟩:Str)).length=x.length+1:=by show (x.cps++#[iE n]).size=_;simp[Str.length]
def EZ{c:Int}(h:y∈dJ c m):(∃k<m,y=cO c k (kB c))\/y=cO c 0 (kB c)++⟨#[iE (tw c / 147)]⟩:=by
 have hz:∀{y},y∈((List.range m).map λk=>cO c k (kB c))->∃k<m,y=cO c k (kB c):=λh=>by obtain⟨k,hk,rfl⟩:=xn.mp h;exact⟨k,xm.mp hk,rfl⟩
 unfold dJ at h;split at h;rcases QQ h with h|h
 exact .inl (hz h);exact .inr h;exact .inl (hz h)
def rh{c:Int}:∀y∈dJ c m,dm y=true:=by
 intro y hy;have hs:=rf c;rcases EZ hy with⟨k,_,rfl⟩|rfl
 exact rg (by omega) (by omega);exact IK (rg (by omega) (by omega)) (by rw[gj];omega)
def yA{c:Int}(hm:m<=26):(dJ c m).Nodup:=by
 have hs:=rf c;have ha:=YD c;have base:((List.range m).map λk=>cO c k (kB c)).Nodup:=by rw[List.Nodup,List.pairwise_map];refine List.Pairwise.imp_of_mem ?_ (List.nodup_range (n:=m));intro a b ha' M9 gc e;exact gc (EY ha (by have:=xm.mp ha';omega) (by have:=xm.mp M9;omega) e)
 unfold dJ;split;generalize hl:((List.range m).map λk=>cO c k (kB c))=l at base;have hv:cO c 0 (kB c)++(⟨#[iE (tw c / 147)]⟩:Str)∉l:=by intro z;rw[<- hl] at z;obtain⟨k,_,e⟩:=xn.mp z;have:=ψ Str.length e;rw[Nn,gj,gj] at this;omega
 rw[List.Nodup,ZS];rw[List.Nodup,ZS] at base;intro i j hi hj hij;rw[QY] at hi hj;have b:=base i j hi hj hij;rw[List.getElem_set,List.getElem_set];split;split;omega;intro z;exact hv (by rw[z];exact Gw _);split;intro z;exact hv (by rw[<- z];exact Gw _);exact b;exact base
def IL(ys:ν):Rw->Prop
 |.df f ps=>f∈ys/\ps.length<=2/\ps.Nodup/\∀p∈ps,p∈ys
 |.give a=>eD ys a
 |.put x a=>x∈ys/\eD ys a
 |.lW x a op b=>x∈ys/\eD ys a/\op∈reckon/\eD ys b
 |.new x=>x∈ys
 |.get x r k=>x∈ys/\r∈ys/\EV ys k
 |.set r k a=>r∈ys/\EV ys k/\eD ys a
 |.call x f as=>x∈ys/\f∈ys/\as.length<=2/\∀a∈as,eD ys a
 |.fail w=>w∈ys
 |.lq a=>eD ys a
 |.gk a=>eD ys a
 |_=>True
def IM{l:ν}(nd:l.Nodup)(hi:i<l.length)(hj:j<l.length)(e:l[i]=l[j]):i=j:=by
 rw[List.Nodup,ZS] at nd;rcases Nat.lt_trichotomy i j with h|h|h
 exact absurd e (nd i j hi hj h);exact h;exact absurd e.symm (nd j i hj hi h)
def E2(hl:ys.length=6)(nd:ys.Nodup){a:Int}{r:Nat}(hr:r<=2):((List.range r).map λj=>ys.getD ((a+((j:Nat):Int)) % 4).toNat Str.empty).Nodup/\∀p∈((List.range r).map λj=>ys.getD ((a+((j:Nat):Int)) % 4).toNat Str.empty),p∈ys:=by
 have hm:∀j:Nat,((a+(j:Int)) % 4).toNat<ys.length:=λj=>by have h0:0<=(a+(j:Int)) % 4:=nH _ (by decide);have h1:(a+(j:Int)) % 4<4:=pj _ (by decide);omega
 have hg:∀j:Nat,ys.getD ((a+(j:Int)) % 4).toNat Str.empty=ys[((a+(j:Int)) % 4).toNat]'(hm j):=λj=>by rw[List.getD,iy (hm j)];rfl
 refine⟨?_,?_⟩;rw[List.Nodup,List.pairwise_map];refine List.Pairwise.imp_of_mem ?_ (List.nodup_range (n:=r));intro i j hi hj gc e;rw[hg,hg] at e;have:=IM nd _ _ e;have Ek:=xm.mp hi;have Ep:=xm.mp hj;have a0:0<=(a+(i:Int)) % 4:=nH _ (by decide);have b0:0<=(a+(j:Int)) % 4:=nH _ (by decide);omega;intro p hp;obtain⟨j,_,rfl⟩:=xn.mp hp;rw[hg];exact Gw _
def E3(hp:∀f ps,(f,ps)∈pl->f∈ys/\ps.length<=2)(h:gC ys pl r):IL ys r:=by
 cases r<;>first
  |exact h
  |exact h.elim
  | (obtain⟨h1,⟨ps,h2,h3⟩,h4⟩:=h
     exact⟨h1,(hp _ _ h2).1,by rw[h3];exact (hp _ _ h2).2,h4⟩)
def Tp(hp:∀f ps,(f,ps)∈pl->f∈ys/\ps.length<=2){b_ new dR}(h:lr ys pl b_ new dR):∀r∈new,IL ys r:=by
 obtain⟨o,ho,rfl,_⟩|⟨o,ho,rfl,_⟩|⟨y,hy,rfl,_⟩|⟨s0,_,rfl,_⟩|⟨s0,x,_,rfl,_⟩|⟨r,hr,rfl,_⟩:=h<;>intro r' cT
 simp only[c0,fA,π] at cT;subst cT;exact ho;simp only[c0,fA,π] at cT;subst cT;exact ho;simp only[c0,fA,π] at cT;obtain rfl|rfl:=cT
 exact hy;exact⟨hy,hy,by simp[reckon],by decide,by decide⟩;simp only[c0,fA,π] at cT;subst cT;trivial;simp only[c0,fA,π] at cT;subst cT;trivial;simp only[c0,fA,π] at cT;subst cT;exact E3 hp hr
def Np(hp:∀f ps,(f,ps)∈pl->f∈ys/\ps.length<=2){b_ body}(h:Body ys pl b_ body):∀r∈body,IL ys r:=by
 induction h with
 |nil=>intro r hr;cases hr
 |step _ h2 ih=>
  intro r hr;rcases cR.mp hr with hr|hr
  exact ih r hr;exact Tp hp h2 r hr
def yB(hl:ys.length=6)(hP:lu ys pl):∀f ps,(f,ps)∈pl->f∈ys/\ps.length<=2:=by intro f ps h;obtain⟨k,hk⟩:=List.getElem?_of_mem h;obtain⟨h1,a,r,hr,rfl⟩:=hP k f ps hk;exact⟨gM h1,by rw[cu,Lc];exact hr⟩
def Tq(hl:ys.length=6)(nd:ys.Nodup)(hP:lu ys pl)(h:Pre ys pl n rs):∀r∈rs,IL ys r:=by
 have hp:=yB hl hP;induction h with
 |zero=>intro r hr;cases hr
 |@succ k rs f ps b_ body o sk _ hk hb ho hs ih=>
  intro r hr;rcases cR.mp hr with hr|hr
  exact ih r hr;rcases List.mem_cons.mp hr with rfl|hr
  obtain⟨h1,a,n,hn,rfl⟩:=hP k f ps hk;have:=E2 hl nd (a:=a) hn;exact⟨gM h1,by rw[cu,Lc];exact hn,this.1,this.2⟩;rcases cR.mp hr with hr|hr
  exact Np (λf ps h=>hp f ps (List.mem_of_mem_drop h)) hb r hr;rcases cR.mp hr with hr|hr
  rw[(List.mem_replicate.mp hr).2];trivial;rcases c0.mp hr with rfl|hr
  exact ho;obtain rfl|rfl:=hs
  cases hr;simp only[c0,fA,π] at hr;subst hr;trivial
noncomputable def wd:Rw->Str
 |.df _ _=>"def"
 |.give _=>"give"
 |.put _ _=>"put"
 |.lW _ _ _ _=>"do"
 |.new _=>"new"
 |.get _ _ _=>"get"
 |.set _ _ _=>"set"
 |.call _ _ _=>"call"
 |.fail _=>"fail"
 |.lq _=>"if"
 |.nJ=>"else"
 |.gk _=>"while"
 |.fin=>"end"
 |.skip=>"skip"
noncomputable def fY(st:ν)(x:Str):Bool:=match st.getLast? with
 |none=>sJ (.str x) [.str "def",.str "skip"]
 |some l=>if x="give" then decide (l="def") else if x="else" then decide (l="if") else if x="end" then !decide (l="def") else !decide (x="def")
noncomputable def lx(st:ν)(x:Str):ν :=
 if x="def"\/x="if"\/x="while" then st++[x] else if x="give"\/x="end" then st.dropLast else if x="else" then st.dropLast++[("else":Str)] else st
theorem C9(x:Str):∀l:ν,sJ (.str x) (l.map .str)=decide (x∈l)
 |[]=>by simp[sJ]
 |y::l=>by rw[gU];show (eqT (.str y) (.str x) || sJ (.str x) (l.map .str))=_;rw[C9 x l];show (decide (y=x) || decide (x∈l))=_;rw[QZ];simp only[Bool.or_eq_true,aaj,c0];constructor;rintro (h|h);exact .inl h.symm;exact .inr h;rintro (h|h);exact .inl h.symm;exact .inr h
def kh(r:Rw):∃l,aP r=.tup (.str (wd r)::l):=by cases r<;>exact⟨_,rfl⟩
theorem uq{f:α->T}{xs:List α}{h:FG}{g:FS}{d:Gj}(Pv:Nat->En->Prop)(h0:Pv 0 ρ)(hs:∀(i:Nat) x ρ',xs[i]?=some x->Pv i ρ'->h (.tup [.int (i:Int),f x]) ρ' λρ2=>g {nx:=Pv (i+1),ct:=Pv (i+1),bk:=d.nx,rt:=d.rt} ρ2)(hd:∀ρ',Pv xs.length ρ'->d.nx ρ'):oZ (dX (xs.map f)) h g d ρ:=⟨Pv,h0,λi t ρ' e p=>by
 unfold dX at e;rw[Wr,iz] at e;cases q:xs[i]? with
 |none=>rw[q] at e;cases e
 |some x=>rw[q] at e;cases e;exact hs i x ρ' q p,λρ' p=>hd ρ' (by unfold dX at p;rw[Z1,cu] at p;exact p)⟩
noncomputable def Nq(o:Option (ν))(r:Rw):Option (ν):=o.bind λst=>if fY st (wd r)=true then some (lx st (wd r)) else none
noncomputable def ki(o:Option (ν))(rs:S1):Option (ν):=rs.foldl Nq o
def iZ(o:Option (ν))(a b:S1):ki o (a++b)=ki (ki o a) b:=List.foldl_append
def yC(rs:S1):ki none rs=none:=by
 induction rs with
 |nil=>rfl
 |cons r rs ih=>exact ih
def E4{st:ν}(h:fY st (wd r)=true):Nq (some st) r=some (lx st (wd r)):=by show (if fY st (wd r)=true then _ else _)=_;rw[ε h]
def dS{st:ν}(h:fY st (wd r)=true):ki (some st) [r]=some (lx st (wd r)):=E4 h
theorem yD{st:ν}(h:ki (some []) rs=some st)(i:Nat)(hr:rs[i]?=some r) :
  ∃s,ki (some []) (rs.take i)=some s/\fY s (wd r)=true/\ki (some []) (rs.take (i+1))=some (lx s (wd r)):=by
 have hi:=(eE.mp hr).1;have e:rs=rs.take i++(r::rs.drop (i+1)):=by have hg:=(eE.mp hr).2;rw[<- hg,List.getElem_cons_drop,List.take_append_drop]
 have e2:rs.take (i+1)=rs.take i++[r]:=by have hg:=(eE.mp hr).2;rw[<- hg,List.take_append_getElem]
 rw[e,iZ] at h;cases hs:ki (some []) (rs.take i) with
 |none=>rw[hs,yC] at h;cases h
 |some s=>
   rw[hs] at h;have h':ki (Nq (some s) r) (rs.drop (i+1))=some st:=h;cases hm:fY s (wd r) with
   |false=>
     have:Nq (some s) r=none:=by show (if fY s (wd r)=true then _ else _)=_;rw[hm];rfl
     rw[this,yC] at h';cases h'
   |true=>exact⟨s,rfl,hm,by rw[e2,iZ,hs];exact dS hm⟩
abbrev pZ:Str:="def"
def Hd(x:Str):Prop:=x="if"\/x="while"\/x="else"
def Hd.ne(h:Hd x):x≠"def":=by obtain rfl|rfl|rfl:=h<;>decide +kernel
def ur(h:gC ys pl r):∀st,st≠[]->fY st (wd r)=true/\lx st (wd r)=st:=by
 intro st GF;obtain⟨l,hl⟩:∃l,st.getLast?=some l:=by
  cases e:st.getLast? with
  |none=>rw[List.getLast?_eq_none_iff] at e;exact absurd e GF
  |some l=>exact⟨l,rfl⟩
 have k:∀x:Str,(x="put"\/x="do"\/x="new"\/x="get"\/x="set"\/x="call"\/x="fail"\/x="skip")->fY st x=true/\lx st x=st:=by intro x hx;unfold fY lx;rw[hl];obtain rfl|rfl|rfl|rfl|rfl|rfl|rfl|rfl:=hx<;>exact⟨(by show (if _ then _ else _)=true;rw[ζ (by decide +kernel),ζ (by decide +kernel),ζ (by decide +kernel)];decide +kernel),(by rw[ζ (by decide +kernel),ζ (by decide +kernel),ζ (by decide +kernel)])⟩
 cases r<;>first
  |exact h.elim
  |exact k _ (by simp[wd])
def IP(st:ν):lx st "if"=st++[("if":Str)]:=by unfold lx;rw[ε (.inr (.inl rfl))]
def oA(st:ν):lx st "while"=st++[("while":Str)]:=by unfold lx;rw[ε (.inr (.inr rfl))]
def C_(st:ν):lx st "def"=st++[pZ]:=by unfold lx;rw[ε (.inl rfl)]
def vM(st:ν):lx st "end"=st.dropLast:=by unfold lx;rw[ζ (by decide +kernel),ε (by decide +kernel)]
def yE(st:ν):lx st "give"=st.dropLast:=by unfold lx;rw[ζ (by decide +kernel),ε (by decide +kernel)]
def yF(st:ν):lx st "else"=st.dropLast++[("else":Str)]:=by unfold lx;rw[ζ (by decide +kernel),ζ (by decide +kernel),ε rfl]
def vN(st:ν)(l x:Str)(hx:x="if"\/x="while"):fY (st++[l]) x=true:=by unfold fY;rw[Lx];obtain rfl|rfl:=hx<;>(show (if _ then _ else _)=true;rw[ζ (by decide +kernel),ζ (by decide +kernel),ζ (by decide +kernel)];decide +kernel)
def E5(st:ν):fY (st++[("if":Str)]) "else"=true:=by unfold fY;rw[Lx];show (if _ then _ else _)=true;rw[ζ (by decide +kernel),ε rfl];decide +kernel
def yG(st:ν){l:Str}(h:l≠"def"):fY (st++[l]) "end"=true:=by unfold fY;rw[Lx];show (if _ then _ else _)=true;rw[ζ (by decide +kernel),ζ (by decide +kernel),ε rfl,ι h];rfl
def E6(st:ν):fY (st++[pZ]) "give"=true:=by unfold fY;rw[Lx];show (if _ then _ else _)=true;rw[ε rfl];decide +kernel
def p_{st:ν}(h:st≠[]):∃s l,st=s++[l]:=⟨st.dropLast,st.getLast h,(List.dropLast_concat_getLast h).symm⟩
def Nr{b_ new dR}(h:lr ys pl b_ new dR)(hs:∀x∈b_,Hd x) :
  ki (some (pZ::b_)) new=some (pZ::dR)/\∀x∈dR,Hd x:=by
 have hd:∀st:ν,∃s l,pZ::st=s++[l]:=λst=>p_ (by simp);obtain⟨o,_,rfl,rfl⟩|⟨o,_,rfl,rfl⟩|⟨y,_,rfl,rfl⟩|⟨s0,rfl,rfl,rfl⟩|⟨s0,x,es,rfl,e'⟩|⟨r,hr,rfl,e'⟩:=h
 obtain⟨s,l,e⟩:=hd b_;refine⟨?_,?_⟩;rw[dS (st:=pZ::b_) (r:=.lq o) (by rw[e];exact vN s l _ (.inl rfl))];show some (lx _ "if")=_;rw[IP];rfl;intro x hx;rcases cR.mp hx with hx|hx
 exact hs x hx;simp only[c0,fA,π] at hx;exact .inl hx;obtain⟨s,l,e⟩:=hd b_;refine⟨?_,?_⟩;rw[dS (st:=pZ::b_) (r:=.gk o) (by rw[e];exact vN s l _ (.inr rfl))];show some (lx _ "while")=_;rw[oA];rfl;intro x hx;rcases cR.mp hx with hx|hx
 exact hs x hx;simp only[c0,fA,π] at hx;exact .inr (.inl hx);obtain⟨s,l,e⟩:=hd b_;refine⟨?_,?_⟩;have h1:ki (some (pZ::b_)) [Rw.gk (.nm y)]=some ((pZ::b_)++[("while":Str)]):=by rw[dS (st:=pZ::b_) (r:=.gk (.nm y)) (by rw[e];exact vN s l _ (.inr rfl))];show some (lx _ "while")=_;rw[oA]
 have h2:=ur (ys:=[y]) (pl:=[]) (r:=.lW y (.nm y) "minus" (.nu 1)) ⟨by simp,by simp[eD],by simp[reckon],by decide,by decide⟩ ((pZ::b_)++[("while":Str)]) (by simp);show ki (ki (some (pZ::b_)) [Rw.gk (.nm y)]) [Rw.lW y (.nm y) "minus" (.nu 1)]=_;rw[h1,dS h2.1,h2.2];rfl;intro x hx;rcases cR.mp hx with hx|hx
 exact hs x hx;simp only[c0,fA,π] at hx;exact .inr (.inl hx);refine⟨?_,?_⟩;have e:pZ::(s0++[("if":Str)])=(pZ::s0)++[("if":Str)]:=rfl;rw[e,dS (E5 _)];show some (lx _ "else")=_;rw[yF,QS];rfl;intro x hx;rcases cR.mp hx with hx|hx
 exact hs x (cW _ hx);simp only[c0,fA,π] at hx;exact .inr (.inr hx);subst es;subst e';refine⟨?_,λy hy=>hs y (cW _ hy)⟩;have e:pZ::(dR++[x])=(pZ::dR)++[x]:=rfl;rw[e,dS (yG _ (hs x (by simp)).ne)];show some (lx _ "end")=_;rw[vM,QS];subst e';have:=ur hr (pZ::dR) (by simp);refine⟨?_,hs⟩;rw[dS this.1,this.2]
def IQ{b_ body}(h:Body ys pl b_ body):ki (some [pZ]) body=some (pZ::b_)/\∀x∈b_,Hd x:=by
 induction h with
 |nil=>exact⟨rfl,λx hx=>nomatch hx⟩
 |step _ h2 ih=>have:=Nr h2 ih.2;exact⟨by rw[iZ,ih.1];exact this.1,this.2⟩
theorem yH:∀(n:Nat)(b_:ν),b_.length=n->(∀x∈b_,Hd x)->ki (some (pZ::b_)) (List.replicate n .fin)=some [pZ]
 |0,b_,hl,_=>by rw[O9] at hl;subst hl;rfl
 |n+1,b_,hl,hs=>by obtain⟨s,l,rfl⟩:=p_ (st:=b_) (by intro z;subst z;cases hl);rw[zX];show ki (ki (some ((pZ::s)++[l])) [Rw.fin]) (List.replicate n .fin)=_;rw[dS (yG _ (hs l (by simp)).ne)];show ki (some (lx _ "end")) _=_;rw[vM,QS];exact yH n s (by simpa using hl) λx hx=>hs x (cW _ hx)
def Nt(h:Pre ys pl n rs):ki (some []) rs=some []:=by
 induction h with
 |zero=>rfl
 |@succ k rs f ps b_ body o sk _ hk hb ho hs ih=>
  rw[iZ,ih];show ki (ki (some []) [Rw.df f ps]) _=_;rw[dS (by show fY [] "def"=true;decide +kernel)];show ki (some (lx [] "def")) _=_;rw[C_,iZ];have hB:=IQ hb;show ki (ki (some [pZ]) body) _=_;rw[hB.1,iZ,yH _ b_ rfl hB.2];show ki (ki (some ([]++[pZ])) [Rw.give o]) sk=_;rw[dS (E6 [])];show ki (some (lx _ "give")) sk=_;rw[yE,QS];obtain rfl|rfl:=hs
  rfl;rw[dS (by show fY [] "skip"=true;decide +kernel)];show some (lx [] "skip")=_;rfl
def uu(n:Nat):ki (some []) (List.replicate n .skip)=some []:=by
 induction n with
 |zero=>rfl
 |succ n ih=>rw[zX];show ki (ki (some []) [Rw.skip]) (List.replicate n .skip)=_;rw[dS (by show fY [] "skip"=true;decide +kernel)];exact ih
noncomputable def xp:List (Str×Nat)->Str->Option Nat
 |[],_=>none
 | (k,i)::l,f=>if k=f then some i else xp l f
theorem vO(l m:List (Str×Nat))(f:Str):xp (l++m) f=match xp l f with
  |some i=>some i
  |none=>xp m f:=by
 induction l with
 |nil=>rfl
 |cons p l ih=>obtain⟨k,i⟩:=p;simp only[QX,xp];by_cases h:k=f;rw[ε h,ε h];rw[ζ h,ζ h];exact ih
noncomputable def Lq(l:List (Str×Nat))(i:Nat):Rw->List (Str×Nat)
 |.df f _=>match xp l f with
  |some _=>l
  |none=>l++[(f,i)]
 |_=>l
noncomputable def bu(rs:S1):Nat->List (Str×Nat)
 |0=>[]
 |n+1=>match rs[n]? with
  |some r=>Lq (bu rs n) n r
  |none=>bu rs n
theorem yI{rs:S1}{f:Str}{j:Nat}:∀n,xp (bu rs n) f=some j->j<n/\∃ps,rs[j]?=some (.df f ps)
 |0,h=>nomatch h
 |n+1,h=>by
  have old:xp (bu rs n) f=some j->j<n+1/\∃ps,rs[j]?=some (.df f ps):=λh=>by have:=yI n h;exact⟨by omega,this.2⟩
  simp only[bu] at h;split at h
  rename_i r hr
  cases r with
  |df g ps=>
   simp only[Lq] at h;split at h;exact old h
   rename_i hn
   rw[vO] at h;split at h
   rename_i i hi
   cases h;exact old hi;simp only[xp] at h;split at h
   rename_i e
   cases h;subst e;exact⟨by omega,ps,hr⟩;cases h
  |_=>exact old h
  exact old h
theorem uv{rs:S1}{f:Str}{i:Nat}{ps:ν}(hi:rs[i]?=some (.df f ps)):∀n,i<n->∃j,xp (bu rs n) f=some j
 |0,h=>absurd h (by omega)
 |n+1,h=>by
  simp only[bu];by_cases e:i=n;subst e;rw[hi];simp only[Lq];cases ha:xp (bu rs i) f with
  |some j=>exact⟨j,ha⟩
  |none=>refine⟨i,?_⟩;simp only;rw[vO,ha];simp only[xp,aan]
  obtain⟨j,hj⟩:=uv hi n (by omega);split
  rename_i r hr
  cases r with
  |df g qs=>simp only[Lq];split;exact⟨j,hj⟩;rw[vO,hj];exact⟨j,rfl⟩
  |_=>exact⟨j,hj⟩
  exact⟨j,hj⟩
structure oB(rs:S1):Prop where
 un:∀(i i':Nat)(f:Str)(ps Nu:ν),rs[i]?=some (Rw.df f ps)->rs[i']?=some (Rw.df f Nu)->i=i'
 ca:∀(i:Nat)(x f:Str)(as:List jK),rs[i]?=some (Rw.call x f as)->∃(j:Nat)(ps:ν),i<j/\rs[j]?=some (Rw.df f ps)/\ps.length=as.length
def oB.first(h:oB rs){f:Str}(hi:rs[i]?=some (.df f ps)):xp (bu rs rs.length) f=some i:=by obtain⟨j,hj⟩:=uv hi rs.length (eE.mp hi).1;obtain⟨_,qs,hq⟩:=yI _ hj;rw[hj,h.un j i f qs ps hq hi]
def Bg(pl:Plan):Rw->Prop
 |.df _ _=>False
 |.call _ f as=>∃ps,(f,ps)∈pl/\as.length=ps.length
 |_=>True
def E7(h:gC ys pl r):Bg pl r:=by
 cases r<;>first
  |exact trivial
  |exact h.elim
  |exact h.2.1
def Nv{b_ body}(h:Body ys pl b_ body):∀r∈body,Bg pl r:=by
 induction h with
 |nil=>intro r hr;cases hr
 |step _ h2 ih=>
  intro r hr;rcases cR.mp hr with hr|hr
  exact ih r hr;obtain⟨o,ho,rfl,_⟩|⟨o,ho,rfl,_⟩|⟨y,hy,rfl,_⟩|⟨s0,_,rfl,_⟩|⟨s0,x,_,rfl,_⟩|⟨r',cT,rfl,_⟩:=h2
  simp only[c0,fA,π] at hr;subst hr;trivial;simp only[c0,fA,π] at hr;subst hr;trivial;simp only[c0,fA,π] at hr;obtain rfl|rfl:=hr<;>trivial
  simp only[c0,fA,π] at hr;subst hr;trivial;simp only[c0,fA,π] at hr;subst hr;trivial;simp only[c0,fA,π] at hr;subst hr;exact E7 cT
structure adV(pl:Plan)(k:Nat)(rs:S1):Prop where
 a:∀(i:Nat)(f:Str)(ps:ν),rs[i]?=some (Rw.df f ps)->∃m,m<k/\pl[m]?=some (f,ps)
 c:∀(i:Nat)(x f:Str)(as:List jK),rs[i]?=some (Rw.call x f as)->∃(m:Nat)(ps:ν),pl[m]?=some (f,ps)/\as.length=ps.length/\(m<k->∃j,i<j/\rs[j]?=some (Rw.df f ps))
 u:∀(i i':Nat)(f:Str)(ps Nu:ν),rs[i]?=some (Rw.df f ps)->rs[i']?=some (Rw.df f Nu)->i=i'
def YL(nd:ys.Nodup)(hP:lu ys pl)(h:Pre ys pl n rs):adV pl n rs:=by
 induction h with
 |zero=>exact⟨λi f ps h=>by simp at h,λi x f as h=>by simp at h,λi i' f ps Nu h=>by simp at h⟩
 |@succ k rs f ps b_ body o sk _ hk hb ho hs ih=>
  have VN:=Nv hb;generalize Iz:body++(List.replicate b_.length Rw.fin++(Rw.give o::sk))=rest;have hR:∀r∈rest,Bg (pl.drop (k+1)) r:=by
   intro r hr;rw[<- Iz] at hr;rcases cR.mp hr with hr|hr
   exact VN r hr;rcases cR.mp hr with hr|hr
   rw[(List.mem_replicate.mp hr).2];trivial;rcases c0.mp hr with rfl|hr
   trivial;obtain rfl|rfl:=hs
   cases hr;simp only[c0,fA,π] at hr;subst hr;trivial
  have split:∀i r,(rs++Rw.df f ps::rest)[i]?=some r->rs[i]?=some r\/(i=rs.length/\r=.df f ps)\/(rs.length<i/\r∈rest):=by
   intro i r hi;rcases Nat.lt_trichotomy i rs.length with h|h|h
   rw[nK h] at hi;exact .inl hi;subst h;rw[pf (c9 _),Q6] at hi;exact .inr (.inl ⟨rfl,(Option.some.inj hi).symm⟩);rw[pf (by omega)] at hi;obtain⟨d,hd⟩:∃d,i-rs.length=d+1:=⟨i-rs.length-1,by omega⟩;rw[hd,List.getElem?_cons_succ] at hi;exact .inr (.inr ⟨h,gM hi⟩)
  have here:(rs++Rw.df f ps::rest)[rs.length]?=some (.df f ps):=by rw[pf (c9 _),Q6];rfl
  have left:∀j r,rs[j]?=some r->(rs++Rw.df f ps::rest)[j]?=some r:=λj r h=>by rw[nK (eE.mp h).1];exact h
  have Qf:∀(i:Nat)(g:Str)(qs:ν),rs[i]?=some (Rw.df g qs)->g≠f:=by intro i g qs hi e;obtain⟨m,hm,hp⟩:=ih.a i g qs hi;have h1:=(hP m g qs hp).1;have h2:=(hP k f ps hk).1;rw[e] at h1;obtain⟨l1,e1⟩:=eE.mp h1;obtain⟨l2,e2⟩:=eE.mp h2;have:=IM nd l1 l2 (e1.trans e2.symm);omega
  refine⟨λi g qs hi=>?_,λi x g as hi=>?_,λi i' g qs qs' hi Ek=>?_⟩;rcases split i _ hi with h|⟨_,e⟩|⟨_,h⟩
  obtain⟨m,hm,hp⟩:=ih.a i g qs h;exact⟨m,by omega,hp⟩;cases e;exact⟨k,by omega,hk⟩;exact (hR _ h).elim;rcases split i _ hi with h|⟨_,e⟩|⟨_,h⟩
  obtain⟨m,qs,hp,hl,hj⟩:=ih.c i x g as h;refine⟨m,qs,hp,hl,λhm=>?_⟩;by_cases e:m=k;subst e;rw[hk] at hp;cases hp;exact⟨rs.length,(eE.mp h).1,here⟩;obtain⟨j,h1,h2⟩:=hj (by omega);exact⟨j,h1,left j _ h2⟩;cases e;obtain⟨qs,hq,hl⟩:=hR _ h;obtain⟨m,hm⟩:=List.getElem?_of_mem hq;rw[List.getElem?_drop] at hm;exact⟨k+1+m,qs,hm,hl,λz=>absurd z (by omega)⟩;rcases split i _ hi with h|⟨h,e⟩|⟨_,h⟩
  rcases split i' _ Ek with h'|⟨h',e'⟩|⟨_,h'⟩
  exact ih.u i i' g qs qs' h h';cases e';exact absurd rfl (Qf i _ _ h);exact (hR _ h').elim;rcases split i' _ Ek with h'|⟨h',e'⟩|⟨_,h'⟩
  cases e;exact absurd rfl (Qf i' _ _ h');omega;exact (hR _ h').elim;exact (hR _ h).elim
def IS(nd:ys.Nodup)(hP:lu ys pl)(h:Pre ys pl pl.length rs):oB rs:=by have P:=YL nd hP h;refine⟨P.u,λi x f as hi=>?_⟩;obtain⟨m,ps,hp,hl,hj⟩:=P.c i x f as hi;obtain⟨j,h1,h2⟩:=hj (eE.mp hp).1;exact⟨j,ps,h1,h2,hl.symm⟩
def Bh(n:Nat)(h:oB rs):oB (List.replicate n .skip++rs):=by
 have sh:∀i r,(List.replicate n Rw.skip++rs)[i]?=some r->r=.skip\/∃d,i=n+d/\rs[d]?=some r:=by intro i r hi;by_cases hl:i<n;rw[nK (by simpa using hl),DV,ε hl] at hi;exact .inl (Option.some.inj hi).symm;rw[pf (by simpa using hl),Ac] at hi;exact .inr ⟨i-n,by omega,hi⟩
 have bk:∀d r,rs[d]?=some r->(List.replicate n Rw.skip++rs)[n+d]?=some r:=λd r hd=>by rw[pf (by simp),Ac,Nat.add_sub_cancel_left];exact hd
 refine⟨λi i' f ps Nu h1 h2=>?_,λi x f as h1=>?_⟩;rcases sh i _ h1 with e|⟨d,rfl,hd⟩
 cases e;rcases sh i' _ h2 with e|⟨d',rfl,z4⟩
 cases e;rw[h.un d d' f ps Nu hd z4];rcases sh i _ h1 with e|⟨d,rfl,hd⟩
 cases e;obtain⟨j,ps,hj,hp,hl⟩:=h.ca d x f as hd;exact⟨n+j,ps,by omega,bk j _ hp,hl⟩
end Gen
namespace K5
structure Kd where
 op:Bool
 cl:Bool
 el:Bool
 df:Bool
deriving DecidableEq,Inhabited
section
variable(kd:Nat->Kd)
noncomputable def st:Nat->qao
 |0=>[]
 |k+1=>let s:=if (kd k).cl=true then (st k).dropLast else st k
  if (kd k).op=true then s++[k] else s
noncomputable def dp(k:Nat):Nat:=(st kd k).length
structure WF(n:Nat):Prop where
 ex:∀k,k<n->(kd k).op=true->(kd k).cl=false
 cl:∀k,k<n->(kd k).cl=true->st kd k≠[]
 el:∀k,k<n->(kd k).el=true->st kd k≠[]
 nc:∀k,k<n->(kd k).el=true->(kd k).cl=false/\(kd k).op=false
 dn:∀k,k<n->(kd k).df=true->(kd k).op=true
 fin:st kd n=[]
end
section
variable{kd:Nat->Kd}
def mU{k:Nat}(h:(kd k).op=true)(h':(kd k).cl=false):st kd (k+1)=st kd k++[k]:=by simp[st,h,h']
def mV{k:Nat}(h:(kd k).cl=true)(h':(kd k).op=false):st kd (k+1)=(st kd k).dropLast:=by simp[st,h,h']
def rj{k:Nat}(h:(kd k).cl=false)(h':(kd k).op=false):st kd (k+1)=st kd k:=by simp[st,h,h']
def WF.ex'(W:WF kd n){k:Nat}(hk:k<n)(h:(kd k).cl=true):(kd k).op=false:=by
 cases q:(kd k).op with
 |false=>rfl
 |true=>rw[W.ex k hk q] at h;cases h
def uw(W:WF kd n){k:Nat}(hk:k<n)(h:(kd k).op=true):dp kd (k+1)=dp kd k+1:=by unfold dp;rw[mU h (W.ex k hk h)];simp
def yJ(W:WF kd n){k:Nat}(hk:k<n)(h:(kd k).cl=true):dp kd (k+1)+1=dp kd k:=by unfold dp;rw[mV h (W.ex' hk h),Ad];have:0<(st kd k).length:=Pb.mpr (W.cl k hk h);omega
def yK{k:Nat}(h:(kd k).cl=false)(h':(kd k).op=false):dp kd (k+1)=dp kd k:=by unfold dp;rw[rj h h']
theorem yL(W:WF kd n):∀k,k<=n->∀i j,(st kd k)[i]?=some j->j<k/\(kd j).op=true/\dp kd j=i/\∀m,j<m->m<=k->i<dp kd m
 |0,_,i,j,h=>by simp[st] at h
 |k+1,hk,i,j,h=>by
  have ih:=yL W k (by omega);have tu:k<n:=by omega
  have ext:∀{i j:Nat},(st kd k)[i]?=some j->i<dp kd (k+1)->j<k+1/\(kd j).op=true/\dp kd j=i/\∀m,j<m->m<=k+1->i<dp kd m:=λ{i j} h hd=>by obtain⟨a,b,c,d⟩:=ih i j h;refine⟨by omega,b,c,λm h1 h2=>?_⟩;by_cases e:m=k+1;rw[e];exact hd;exact d m h1 (by omega)
  by_cases ho:(kd k).op=true;rw[mU ho (W.ex k tu ho)] at h;have hd:=uw W tu ho;by_cases hi:i<(st kd k).length;rw[nK hi] at h;exact ext h (by rw[hd];exact Lb hi);rw[pf (by omega)] at h;have e:i-(st kd k).length=0:=by
   cases q:i-(st kd k).length with
   |zero=>rfl
   |succ r=>rw[q] at h;simp at h
  rw[e] at h;simp at h;subst h;have ei:i=dp kd k:=by unfold dp;omega
  refine⟨by omega,ho,ei.symm,λm h1 h2=>?_⟩;have:m=k+1:=by omega
  rw[this,hd,ei];omega;have kJ:(kd k).op=false:=by cases q:(kd k).op<;>simp_all
  by_cases hc:(kd k).cl=true;rw[mV hc kJ] at h;have hi:i<(st kd k).dropLast.length:=(eE.mp h).1;have hd:dp kd (k+1)=(st kd k).dropLast.length:=by unfold dp;rw[mV hc kJ]
  rw[QR,ε (by rw[Ad] at hi;exact hi)] at h;exact ext h (by rw[hd];exact hi);have sN:(kd k).cl=false:=by cases q:(kd k).cl<;>simp_all
  rw[rj sN kJ] at h;have hd:dp kd (k+1)=dp kd k:=yK sN kJ;exact ext h (by rw[hd];exact (eE.mp h).1)
theorem Qg(W:WF kd n){j:Nat}(ho:(kd j).op=true):∀k,j<k->k<=n->(∀m,j<m->m<=k->dp kd j<dp kd m)->(st kd k)[dp kd j]?=some j
 |0,h,_,_=>by omega
 |k+1,h,hk,hm=>by
  have tu:k<n:=by omega
  by_cases e:j=k;subst e;rw[mU ho (W.ex j tu ho)];unfold dp;rw[pf (c9 _)];simp;have ih:=Qg W ho k (by omega) (by omega) λm h1 h2=>hm m h1 (by omega);have hd:=hm (k+1) (by omega) (c9 _);by_cases kJ:(kd k).op=true;rw[mU kJ (W.ex k tu kJ),nK (eE.mp ih).1];exact ih;have Tr:(kd k).op=false:=by cases q:(kd k).op<;>simp_all
  by_cases hc:(kd k).cl=true;have hl:dp kd (k+1)=(st kd k).length-1:=by unfold dp;rw[mV hc Tr,Ad]
  rw[mV hc Tr,QR,ε (by omega)];exact ih;have sN:(kd k).cl=false:=by cases q:(kd k).cl<;>simp_all
  rw[rj sN Tr];exact ih
noncomputable def kj(kd:Nat->Kd)(n d:Nat):Nat->Nat->Option Nat
 |0,_=>none
 |f+1,k=>if k<n then (if dp kd (k+1)=d then some k else kj kd n d f (k+1)) else none
noncomputable def endOf(kd:Nat->Kd)(n j:Nat):Option Nat:=kj kd n (dp kd j) (n-(j+1)) (j+1)
theorem mW{d:Nat}:∀{f k e:Nat},kj kd n d f k=some e->k<=e/\e<n/\dp kd (e+1)=d/\∀m,k<=m->m<e->dp kd (m+1)≠d
 |0,_,_,h=>by cases h
 |f+1,k,e,h=>by
  simp only[kj] at h;split at h
  rename_i hk
  split at h
  rename_i hd
  cases h;exact⟨c9 _,hk,hd,λm h1 h2=>by omega⟩
  rename_i hd
  obtain⟨a,b,c,r⟩:=mW h;refine⟨by omega,b,c,λm h1 h2=>?_⟩;by_cases em:m=k;rw[em];exact hd;exact r m (by omega) h2;cases h
theorem mX{d:Nat}:∀{f k:Nat},kj kd n d f k=none->∀m,k<=m->m<k+f->m<n->dp kd (m+1)≠d
 |0,k,_,m,h1,h2,_=>by omega
 |f+1,k,h,m,h1,h2,h3=>by
  simp only[kj] at h;split at h;split at h;cases h
  rename_i hd
  by_cases em:m=k;rw[em];exact hd;exact mX h m (by omega) (by omega) h3;omega
def Nw(W:WF kd n){k:Nat}(hk:k<n):dp kd k<=dp kd (k+1)+1:=by
 by_cases ho:(kd k).op=true;rw[uw W hk ho];omega;have kJ:(kd k).op=false:=by cases q:(kd k).op<;>simp_all
 by_cases hc:(kd k).cl=true;rw[yJ W hk hc];exact c9 _;have sN:(kd k).cl=false:=by cases q:(kd k).cl<;>simp_all
 rw[yK sN kJ];omega
theorem above(W:WF kd n){j:Nat}(hj:j<n)(ho:(kd j).op=true):∀k,j<k->k<=n->(∀m,j<m->m<k->dp kd (m+1)≠dp kd j)->∀m,j<m->m<=k->dp kd j<dp kd m
 |0,h,_,_,m,_,_=>by omega
 |k+1,h,hk,gc,m,h1,h2=>by by_cases em:m=k+1;subst em;by_cases e:j=k;subst e;rw[uw W hj ho];omega;have ih:=above W hj ho k (by omega) (by omega) (λm a b=>gc m a (by omega)) k (by omega) (c9 _);have s:=Nw W (k:=k) (by omega);have ne:=gc k (by omega) (by omega);omega;by_cases e:j=k;omega;exact above W hj ho k (by omega) (by omega) (λm a b=>gc m a (by omega)) m h1 (by omega)
def end_is(W:WF kd n)(hj:j<n)(ho:(kd j).op=true):∃e,endOf kd n j=some e/\j<e/\e<n/\dp kd (e+1)=dp kd j/\∀m,j<m->m<e->dp kd (m+1)≠dp kd j:=by
 cases h:endOf kd n j with
 |some e=>obtain⟨a,b,c,d⟩:=mW h;exact⟨e,rfl,by omega,b,c,λm h1 h2=>d m (by omega) h2⟩
 |none=>
  exfalso;have q:=mX h;have a:=above W hj ho n hj (c9 _) (λm h1 h2=>q m (by omega) (by omega) h2) n hj (c9 _);have z:dp kd n=0:=by unfold dp;rw[W.fin];rfl
  omega
theorem km:∀k,(st kd k).Pairwise (·<·)/\∀j∈st kd k,j<k
 |0=>⟨List.Pairwise.nil,λj h=>(by simp[st] at h)⟩
 |k+1=>by
  obtain⟨h1,h2⟩:=km k;have base:∀{s:qao},s.Sublist (st kd k)->s.Pairwise (·<·)/\∀j∈s,j<k:=λsl=>⟨h1.sublist sl,λj h=>h2 j (sl.subset h)⟩;have key:∀{s:qao},s.Sublist (st kd k)->(if (kd k).op=true then s++[k] else s).Pairwise (·<·)/\∀j∈(if (kd k).op=true then s++[k] else s),j<k+1:=λ{s} sl=>by
   obtain⟨a,b⟩:=base sl;split;refine⟨List.pairwise_append.mpr ⟨a,List.pairwise_singleton _ _,λx hx y hy=>by rw[hX.mp hy];exact b x hx⟩,λj hj=>?_⟩;rcases cR.mp hj with h|h
   exact Lb (b j h);rw[hX.mp h];exact Cc _;exact⟨a,λj hj=>Lb (b j hj)⟩
  simp only[st];by_cases hc:(kd k).cl=true;rw[ε hc];exact key (List.dropLast_sublist _);rw[ζ hc];exact key (List.Sublist.refl _)
noncomputable def endsAt(kd:Nat->Kd)(n j:Nat):Option Nat:=if (kd j).op=true then endOf kd n j else none
def Ny(W:WF kd n){k:Nat}(hk:k<n)(hc:(kd k).cl=true)(ht:(st kd k).getLast?=some j):endsAt kd n j=some k/\j<k:=by
 have hl:(st kd k)[(st kd k).length-1]?=some j:=by rw[<- xv];exact ht
 obtain⟨a,b,c,d⟩:=yL W k (by omega) _ j hl;obtain⟨e,h1,h2,h3,h4,h5⟩:=end_is W (by omega) b;refine⟨?_,a⟩;unfold endsAt;rw[ε b,h1]
 congr 1
 have hd:=yJ W hk hc;have kO:dp kd (k+1)=dp kd j:=by rw[c];unfold dp at hd ⊢;omega
 rcases Nat.lt_or_ge e k with l|l
 have:=d (e+1) (by omega) (by omega);omega;rcases Nat.lt_or_ge k e with l2|l2
 exact absurd kO (h5 k a l2);omega
def vP(W:WF kd n){k:Nat}(hk:k<n)(he:endsAt kd n j=some k)(hj:j<n):(kd k).cl=true/\(st kd k).getLast?=some j:=by
 unfold endsAt at he;by_cases ho:(kd j).op=true;rw[ε ho] at he;obtain⟨e,h1,h2,h3,h4,h5⟩:=end_is W hj ho;rw[h1] at he;cases he;have ab:=above W hj ho k h2 (by omega) λm x y=>h5 m x y;have oz:=ab k h2 (c9 _);have hc:(kd k).cl=true:=by
  cases q:(kd k).cl with
  |true=>rfl
  |false=>exfalso;by_cases kJ:(kd k).op=true;rw[uw W hk kJ] at h4;omega;rw[yK q (by cases r:(kd k).op<;>simp_all)] at h4;omega
 refine⟨hc,?_⟩;have hd:=yJ W hk hc;have:=Qg W ho k h2 (by omega) ab;rw[xv];have e:(st kd k).length-1=dp kd j:=by unfold dp at hd h4 ⊢;omega
 rw[e];exact this;rw[ζ ho] at he;cases he
end
end K5
namespace K5
open PySem L2 VT Gen
noncomputable def wordOf:Rw->Str
 |.df _ _=>"def" | .give _=>"give" | .put _ _=>"put" | .lW _ _ _ _=>"do" | .new _=>"new" | .get _ _ _=>"get" | .set _ _ _=>"set" | .call _ _ _=>"call" | .fail _=>"fail"
 |.lq _=>"if" | .nJ=>"else" | .gk _=>"while" | .fin=>"end" | .skip=>"skip"
def iG(r:Rw):∃l,aP r=.tup (.str (wordOf r)::l):=by cases r<;>exact⟨_,rfl⟩
noncomputable def bt:Rw->Kd
 |.df _ _=>⟨true,false,false,true⟩
 |.give _=>⟨false,true,false,false⟩
 |.lq _=>⟨true,false,false,false⟩
 |.nJ=>⟨false,false,true,false⟩
 |.gk _=>⟨true,false,false,false⟩
 |.fin=>⟨false,true,false,false⟩
 |_=>⟨false,false,false,false⟩
def YM(r:Rw):decide (wordOf r="def")=(bt r).df:=by cases r<;>first|rfl|decide +kernel
def YN(r:Rw):decide (wordOf r="else")=(bt r).el:=by cases r<;>first|rfl|decide +kernel
def YO(r:Rw):sJ (.str (wordOf r)) [.str "give",.str "end"]=(bt r).cl:=by cases r<;>first|rfl|decide +kernel
def YQ(r:Rw):sJ (.str (wordOf r)) [.str "def",.str "if",.str "while"]=(bt r).op:=by cases r<;>first|rfl|decide +kernel
noncomputable def bK(rs:S1)(k:Nat):Kd:=match rs[k]? with
 |some r=>bt r
 |none=>⟨false,false,false,false⟩
def fG{k:Nat}(h:rs[k]?=some r):bK rs k=bt r:=by unfold bK;rw[h]
def VZ(rs:S1):Prop:=WF (bK rs) rs.length
noncomputable def oT:Option Nat->T
 |none=>.aO
 |some k=>.int (k:Int)
noncomputable def tab(f:Nat->Option Nat)(n k:Nat):ο:=(List.range n).map λi=>if i<k then oT (f i) else .aO
def jl(e:Nat->Option Nat)(n k:Nat):ο:=(List.range n).map λj=>match e j with
 |some m=>if m<k then .int (m:Int) else .aO
 |none=>.aO
def mY(f n k):(tab f n k).length=n:=by simp[tab]
def yM(f n k):(jl f n k).length=n:=by simp[jl]
def yN(f n):tab f n 0=List.replicate n .aO:=by unfold tab;rw[List.eq_replicate_iff];exact⟨by simp,λx hx=>by simp at hx;exact hx.2.symm⟩
def E8(f n):jl f n 0=List.replicate n .aO:=by unfold jl;rw[List.eq_replicate_iff];refine⟨by simp,λx hx=>?_⟩;obtain⟨j,_,rfl⟩:=xn.mp hx;split<;>simp
def qa{f:Nat->Option Nat}{k:Nat}:(tab f n k).set k (oT (f k))=tab f n (k+1):=by refine Ws λi=>?_;rw[Z2,mY];unfold tab;rw[iz,iz];by_cases hi:i<n;rw[Vp hi];by_cases e:k=i;subst e;rw[ε rfl,ε hi];simp;rw[ζ e];simp only[Vs];by_cases l:i<k;rw[ε l,ε (by omega)];rw[ζ l,ζ (by omega)];rw[Gu (by simp;omega)];split;rw[ζ (by omega)];rfl;rfl
def yO{f:Nat->Option Nat}{k:Nat}(h:f k=none):tab f n k=tab f n (k+1):=by unfold tab;refine QT λi _=>?_;by_cases e:i=k;subst e;rw[ζ (LB _),ε (Cc _),h];rfl;by_cases l:i<k;rw[ε l,ε (by omega)];rw[ζ l,ζ (by omega)]
def yP(f n):tab f n n=(List.range n).map λi=>oT (f i):=by unfold tab;exact QT λi hi=>by rw[ε (xm.mp hi)]
def IT{e:Nat->Option Nat}{k:Nat}(h:e j=some k)(u:∀i,i<n->e i=some k->i=j):(jl e n k).set j (.int (k:Int))=jl e n (k+1):=by
 refine Ws λi=>?_;rw[Z2,yM];unfold jl;rw[iz,iz];by_cases hi:i<n;rw[List.getElem?_range hi];by_cases q:j=i;subst q;rw[ε rfl,ε hi];simp[h];rw[ζ q];simp only[Vs];cases r:e i with
 |none=>rfl
 |some m=>have:m≠k:=λz=>q (u i hi (by rw[r,z])).symm;simp only;by_cases l:m<k;rw[ε l,ε (by omega)];rw[ζ l,ζ (by omega)]
 rw[Gu (by simp;omega)];split;rw[ζ (by omega)];rfl;rfl
def E9{e:Nat->Option Nat}{k:Nat}(u:∀i,i<n->e i≠some k):jl e n k=jl e n (k+1):=by
 unfold jl;refine QT λi hi=>?_;cases r:e i with
 |none=>rfl
 |some m=>have:m≠k:=λz=>u i (xm.mp hi) (by rw[r,z]);simp only;by_cases l:m<k;rw[ε l,ε (by omega)];rw[ζ l,ζ (by omega)]
def E_{e:Nat->Option Nat}(h:∀j m,j<n->e j=some m->m<n):jl e n n=(List.range n).map λi=>oT (e i):=by
 unfold jl;refine QT λi hi=>?_;cases r:e i with
 |none=>rfl
 |some m=>simp only;rw[ε (h i m (xm.mp hi) r)];rfl
section
variable(kd:Nat->Kd)
noncomputable def mZ(k:Nat):Option Nat:=(st kd k).getLast?
noncomputable def z_(k:Nat):Option Nat:=if (kd k).df=true then some k else (st kd k).head?
noncomputable def xq(n:Nat):Nat->ο
 |0=>List.replicate n .aO
 |k+1=>match (kd k).el,mZ kd k with
  |true,some h=>(xq n k).set h (.int (k:Int))
  |_,_=>xq n k
end
theorem qb(kd n):∀k,(xq kd n k).length=n
 |0=>by simp[xq]
 |k+1=>by simp only[xq];split;rw[QY];exact qb kd n k;exact qb kd n k
noncomputable def IU(rs:S1):ο:=[.lst ((List.range rs.length).map λi=>oT (mZ (bK rs) i)),.lst ((List.range rs.length).map λi=>oT (endsAt (bK rs) rs.length i)),.lst (xq (bK rs) rs.length rs.length),.lst ((List.range rs.length).map λi=>oT (z_ (bK rs) i))]
def IV(rs:S1):dX (rs.map aP)=(rs.zipIdx).map λp=>.tup [.int (p.2:Int),aP p.1]:=by unfold dX;refine Ws λi=>?_;rw[Wr,iz,iz,List.getElem?_zipIdx];cases rs[i]?<;>simp
noncomputable def dr:Nat->S1->Option Nat
 |d,[]=>some d
 |d,r::rs=>if (bt r).cl=true then (if d=0 then none else dr (d-1) rs) else if (bt r).el=true then (if d=0 then none else dr d rs) else if (bt r).op=true then dr (d+1) rs else dr d rs
theorem fZ:∀(a b:S1)(d:Nat),dr d (a++b)=(dr d a).bind λe=>dr e b
 |[],b,d=>rfl
 |r::a,b,d=>by simp only[QX,dr];split;split;rfl;exact fZ a b _;split;split;rfl;exact fZ a b _;split;exact fZ a b _;exact fZ a b _
def Ts(rs:S1){k:Nat}(h:rs[k]?=some r):(st (bK rs) (k+1)).length=(if (bt r).cl=true then (st (bK rs) k).length-1 else if (bt r).op=true then (st (bK rs) k).length+1 else (st (bK rs) k).length):=by
 have o6:=fG h;by_cases hc:(bt r).cl=true;have ho:(bt r).op=false:=by cases r<;>first|rfl|(cases hc)
 rw[ε hc,mV (by rw[o6];exact hc) (by rw[o6];exact ho),Ad];have sN:(bt r).cl=false:=by cases q:(bt r).cl<;>simp_all
 rw[ζ hc];by_cases ho:(bt r).op=true;rw[ε ho,mU (by rw[o6];exact ho) (by rw[o6];exact sN)];simp;rw[ζ ho,rj (by rw[o6];exact sN) (by rw[o6];cases q:(bt r).op<;>simp_all)]
theorem qc{rs:S1}(h:dr 0 rs=some 0):∀k,k<=rs.length->dr 0 (rs.take k)=some (st (bK rs) k).length
 |0,_=>rfl
 |k+1,hk=>by
  have ih:=qc h k (by omega);have e:rs[k]?=some rs[k]:=by simp
  have et:rs.take (k+1)=rs.take k++[rs[k]]:=by rw[List.take_succ,e];rfl
  have hs:(dr 0 (rs.take (k+1))).isSome=true:=by
   rw[<- List.take_append_drop (k+1) rs,fZ] at h;cases q:dr 0 (rs.take (k+1)) with
   |some _=>rfl
   |none=>rw[q] at h;cases h
  rw[et,fZ,ih,Vq] at hs ⊢;rw[Ts rs e];simp only[dr] at hs ⊢;by_cases hc:(bt rs[k]).cl=true;rw[ε hc,ε hc] at *;by_cases z:(st (bK rs) k).length=0;rw[ε z] at hs;cases hs;rw[ζ z]
  . rw[ζ hc,ζ hc] at *;by_cases hl:(bt rs[k]).el=true
    . have ho:¬ (bt rs[k]).op=true:=by generalize rs[k]=r at hl;cases r<;>first|(cases hl;done)|(intro z;cases z)
      rw[ε hl,ζ ho] at *;by_cases z:(st (bK rs) k).length=0;rw[ε z] at hs;cases hs;rw[ζ z]
    rw[ζ hl] at *;split<;>rfl
def Qh(h:dr 0 rs=some 0):VZ rs:=by
 have at':∀{k:Nat},k<rs.length->∃r,rs[k]?=some r/\bK rs k=bt r:=λ{k} hk=>⟨rs[k],by simp,fG (by simp)⟩;have step:∀{k:Nat}{r:Rw},rs[k]?=some r->(bt r).cl=true\/(bt r).el=true->st (bK rs) k≠[]:=λ{k r} hr G9 z=>by
  have hk:k<rs.length:=(eE.mp hr).1;have h1:=qc h k (by omega);have h2:=qc h (k+1) (by omega);have et:rs.take (k+1)=rs.take k++[r]:=by rw[List.take_succ,hr];rfl
  rw[et,fZ,h1,Vq,z] at h2;simp only[dr,List.length_nil] at h2;obtain q|q:=G9
  rw[ε q,ε True.intro] at h2;cases h2;by_cases q2:(bt r).cl=true;rw[ε q2,ε True.intro] at h2;cases h2;rw[ζ q2,ε q,ε True.intro] at h2;cases h2
 refine⟨λk hk ho=>?_,λk hk hc=>?_,λk hk hc=>?_,λk hk hc=>?_,λk hk hc=>?_,?_⟩;obtain⟨r,hr,e⟩:=at' hk;rw[e] at ho ⊢;cases r<;>first|rfl|(cases ho)
 obtain⟨r,hr,e⟩:=at' hk;exact step hr (.inl (by rw[<- e];exact hc));obtain⟨r,hr,e⟩:=at' hk;exact step hr (.inr (by rw[<- e];exact hc));obtain⟨r,hr,e⟩:=at' hk;rw[e] at hc ⊢;cases r<;>first|exact⟨rfl,rfl⟩|(cases hc)
 obtain⟨r,hr,e⟩:=at' hk;rw[e] at hc ⊢;cases r<;>first|rfl|(cases hc)
 have:=qc h rs.length (c9 _);rw[List.take_length,h] at this;exact O9.mp (Option.some.inj this).symm
def yQ(h:gC ys pl r):(bt r).cl=false/\(bt r).el=false/\(bt r).op=false:=by cases r<;>first|exact⟨rfl,rfl,rfl⟩|exact h.elim
def Tt{b_ new dR}(h:lr ys pl b_ new dR){d:Nat}(hd:0<d):dr (d+b_.length) new=some (d+dR.length):=by
 obtain⟨o,_,rfl,rfl⟩|⟨o,_,rfl,rfl⟩|⟨y,_,rfl,rfl⟩|⟨s0,rfl,rfl,rfl⟩|⟨s0,x,rfl,rfl,rfl⟩|⟨r,hs,rfl,rfl⟩:=h
 simp[dr,bt];omega;simp[dr,bt];omega;simp[dr,bt];omega;simp[dr,bt];simp[dr,bt];obtain⟨a,b,c⟩:=yQ hs;simp[dr,a,b,c]
def Nz{later:Plan}{b_:ν}{body:S1}(h:Body ys later b_ body){d:Nat}(hd:0<d):dr d body=some (d+b_.length):=by
 induction h with
 |nil=>rfl
 |step _ hl ih=>rw[fZ,ih,Vq];exact Tt hl hd
theorem Dd:∀(n d:Nat),dr (d+n) (List.replicate n Rw.fin)=some d
 |0,d=>rfl
 |n+1,d=>by rw[zX];simp only[dr,bt,aan];rw[ζ (by omega)];exact Dd n d
def Tu{k:Nat}(h:Pre ys pl k rs):dr 0 rs=some 0:=by
 induction h with
 |zero=>rfl
 |succ _ _ hb _ V0 ih=>rw[fZ,ih,Vq];show dr 1 _=some 0;rw[fZ,Nz hb (by decide),Vq,fZ,Dd,Vq];obtain rfl|rfl:=V0<;>rfl
end K5
namespace Lay
open PySem L2 VT Gen K5
noncomputable def V1(l:List (Str×Nat)):T:=.dk (l.map λp=>(Sum.inr p.1:Key)) (l.map λp=>T.int (p.2:Int))
def IW(l:List (Str×Nat))(f:Str):dB (l.map λp=>(Sum.inr p.1:Key)) (l.map λp=>T.int (p.2:Int)) (Sum.inr f)=(xp l f).map λi=>T.int (i:Int):=by
 induction l with
 |nil=>rfl
 |cons p l ih=>obtain⟨k,i⟩:=p;simp only[gU,dB,xp];by_cases h:k=f;rw[ε h,ε (by rw[h])];rfl;rw[ζ h,ζ (λz=>h (Sum.inr.inj z))];exact ih
theorem rm(rs:S1):∀n,(bu rs n).length<=n
 |0=>c9 _
 |n+1=>by
  have:=rm rs n;simp only[bu];split
  rename_i r _
  cases r<;>simp only[Lq]<;>first
   |omega
   | (split<;>simp<;>omega)
  omega
noncomputable def YR:Rw->Bool
 |.df _ _=>true
 |_=>false
noncomputable def g_(rs:S1):Option Nat:=rs.findIdx? YR
theorem ux(rs:S1):∀n,∀p∈bu rs n,p.2<n/\∃ps,rs[p.2]?=some (.df p.1 ps)
 |0,p,h=>nomatch h
 |n+1,p,h=>by
  have old:p∈bu rs n->p.2<n+1/\∃ps,rs[p.2]?=some (.df p.1 ps):=λh=>by have:=ux rs n p h;exact⟨by omega,this.2⟩
  simp only[bu] at h;split at h
  rename_i r hr
  cases r with
  |df g ps=>
   simp only[Lq] at h;split at h;exact old h;rcases cR.mp h with z|z
   exact old z;rw[hX] at z;subst z;exact⟨Cc _,ps,hr⟩
  |_=>exact old h
  exact old h
theorem hE{rs:S1}{i:Nat}(h:∀j,j<i->∀f ps,rs[j]?≠some (.df f ps)):∀n≤i,bu rs n=[]
 |0,_=>rfl
 |n+1,hn=>by
  simp only[bu];split
  rename_i r hr
  rw[hE h n (by omega)];cases r with
  |df g ps=>exact absurd hr (h n (by omega) g ps)
  |_=>rfl
  exact hE h n (by omega)
theorem jM{rs:S1}{i:Nat}{g:Str}{ps:ν}(hi:rs[i]?=some (.df g ps))(h:∀j,j<i->∀f ps,rs[j]?≠some (.df f ps)):∀n,i<n->∃l,bu rs n=(g,i)::l
 |0,hn=>absurd hn (Nat.not_lt_zero _)
 |n+1,hn=>by
  by_cases e:i=n;subst e;refine⟨[],?_⟩;simp only[bu,hi,Lq];rw[hE h i (c9 _)];rfl;obtain⟨l,hl⟩:=jM hi h n (by omega);simp only[bu];rw[hl];split
  rename_i r _
  cases r with
  |df f qs=>simp only[Lq];split;exact⟨l,rfl⟩;exact⟨l++[(f,n)],rfl⟩
  |_=>exact⟨l,rfl⟩
  exact⟨l,rfl⟩
def NA(h:YR r=true):∃f ps,r=.df f ps:=by
 cases r with
 |df f ps=>exact⟨f,ps,rfl⟩
 |_=>cases h
def oC(h:g_ rs=some i):(∃f ps,rs[i]?=some (.df f ps))/\∀j,j<i->∀f ps,rs[j]?≠some (.df f ps):=by unfold g_ at h;rw[abU] at h;obtain⟨hl,h1,h2⟩:=h;obtain⟨f,ps,e⟩:=NA h1;refine⟨⟨f,ps,by rw[iy hl,e]⟩,λj hj f ps e=>?_⟩;obtain⟨SU,ej⟩:=eE.mp e;have:=h2 j hj;rw[ej] at this;exact this rfl
def Fb(h:g_ rs=none):∀(j:Nat) f ps,rs[j]?≠some (Rw.df f ps):=by unfold g_ at h;rw[ace] at h;intro j f ps e;have:=h _ (gM e);cases this
def Bi(h:g_ rs=none):bu rs rs.length=[]:=hE (i:=rs.length) (λj _=>Fb h j) _ (c9 _)
def IX{m:Int}(h1:m∈(bu rs rs.length).map λp=>(p.2:Int))(h2:∀i∈(bu rs rs.length).map λp=>(p.2:Int),m<=i):T.int m=oT (g_ rs):=by
 cases e:g_ rs with
 |none=>rw[Bi e] at h1;cases h1
 |some i=>
  obtain⟨⟨g,ps,hi⟩,hm⟩:=oC e;obtain⟨l,hl⟩:=jM hi hm rs.length (eE.mp hi).1;obtain⟨p,hp,rfl⟩:=xn.mp h1;obtain⟨_,qs,hq⟩:=ux rs _ p hp;have le1:(p.2:Int)<=(i:Int):=h2 _ (xn.mpr ⟨(g,i),by rw[hl];exact dD,rfl⟩);have le2:¬ p.2<i:=λz=>hm _ z _ _ hq;have:p.2=i:=by omega
  rw[this];rfl
noncomputable def NB(rs:S1):ο:=(List.range rs.length).map λi=>oT (mZ (bK rs) i)
noncomputable def De(rs:S1):ο:=(List.range rs.length).map λi=>oT (endsAt (bK rs) rs.length i)
noncomputable def Tv(rs:S1):ο:=xq (bK rs) rs.length rs.length
noncomputable def YS(rs:S1):ο:=(List.range rs.length).map λi=>oT (z_ (bK rs) i)
def IY(rs:S1):IU rs=[.lst (NB rs),.lst (De rs),.lst (Tv rs),.lst (YS rs)]:=rfl
noncomputable def cj(C:Addr)(rs:S1):T:=.ins C ["program","heads","ends","elses","homes","defs","main"] [.lst (rs.map aP),.lst (NB rs),.lst (De rs),.lst (Tv rs),.lst (YS rs),V1 (bu rs rs.length),oT (g_ rs)]
section
def i4(h:rs[i]?=some r):jg (rs.map aP) (i:Int)=some (aP r):=aw (by rw[iz,h];rfl)
def Tw(h:i<rs.length):jg (NB rs) (i:Int)=some (oT (mZ (bK rs) i)):=aw (by unfold NB;rw[iz,Vp h];rfl)
def Dg(h:i<rs.length):jg (De rs) (i:Int)=some (oT (endsAt (bK rs) rs.length i)):=aw (by unfold De;rw[iz,Vp h];rfl)
end
def Ev(rs:S1)(k j:Nat):Prop:=∃k',k'<k/\rs[k']?=some .nJ/\mZ (bK rs) k'=some j
structure Al(rs:S1)(k:Nat)(s:ν):Prop where
 len:s.length=(st (bK rs) k).length
 YT:∀i j:Nat,(st (bK rs) k)[i]?=some j->∃r,rs[j]?=some r/\((¬ Ev rs k j/\s[i]?=some (wd r))\/(Ev rs k j/\s[i]?=some ("else":Str)/\wd r="if"))
 bot:∀(i:Nat)(x:Str),s[i]?=some x->(x=("def":Str)↔i=0)
def YU(h:wd r="if"):∃a,r=.lq a:=by cases r<;>first|exact⟨_,rfl⟩|exact absurd h (by show ¬ ((_:Str)="if");simp only[wd];decide +kernel)
def Ev.succ{rs:S1}{k j:Nat}(h:Ev rs k j):Ev rs (k+1) j:=let ⟨k',a,b⟩:=h;⟨k',Lb a,b⟩
def vQ{k:Nat}(h:rs[k]?≠some .nJ):Ev rs (k+1) j↔Ev rs k j:=by refine⟨λ⟨k',a,b,c⟩=>?_,Ev.succ⟩;by_cases e:k'=k;subst e;exact absurd b h;exact⟨k',by omega,b,c⟩
section
def NC{k:Nat}{s:ν}(A:Al rs k s)(hs:st (bK rs) (k+1)=st (bK rs) k)(he:rs[k]?≠some .nJ):Al rs (k+1) s :=
 ⟨by rw[hs];exact A.len,λi j h=>by rw[hs] at h;obtain⟨r,h1,h2⟩:=A.YT i j h;exact⟨r,h1,by rw[vQ he];exact h2⟩,A.bot⟩
def Dh{k:Nat}{s:ν}(A:Al rs k s)(hs:st (bK rs) (k+1)=(st (bK rs) k).dropLast)(he:rs[k]?≠some .nJ):Al rs (k+1) s.dropLast :=
 ⟨by rw[hs,Ad,Ad,A.len],λi j h=>by
  rw[hs] at h;have hi:=(eE.mp h).1;rw[Ad] at hi;rw[QR,ε hi] at h;obtain⟨r,h1,h2⟩:=A.YT i j h;rw[QR,ε (by rw[A.len];exact hi)];exact⟨r,h1,by rw[vQ he];exact h2⟩,λi x h=>by
  have hi:=(eE.mp h).1;rw[Ad] at hi;rw[QR,ε hi] at h;exact A.bot i x h⟩
def vR{k:Nat}{s:ν}(W:VZ rs)(hk:k<rs.length)(A:Al rs k s)(hr:rs[k]?=some r)(hs:st (bK rs) (k+1)=st (bK rs) k++[k])(he:r≠.nJ)(hb:wd r=("def":Str)↔s=[]):Al rs (k+1) (s++[wd r]):=by
 have he':rs[k]?≠some .nJ:=by rw[hr];intro z;exact he (Option.some.inj z)
 have nev:¬ Ev rs (k+1) k:=λ⟨k',a,b,c⟩=>by
  have tu:k'<=k:=by omega
  unfold mZ at c;have hm:k∈st (bK rs) k':=List.mem_of_getLast? c;have:=(km (kd:=bK rs) k').2 k hm;omega
 refine⟨by rw[hs,nL,nL,A.len];rfl,λi j h=>?_,λi x h=>?_⟩;rw[hs] at h;by_cases hi:i<(st (bK rs) k).length;rw[nK hi] at h;rw[nK (by rw[A.len];exact hi)];obtain⟨r',h1,h2⟩:=A.YT i j h;exact⟨r',h1,by rw[vQ he'];exact h2⟩;rw[pf (by omega)] at h;have e:i-(st (bK rs) k).length=0:=by
  cases q:i-(st (bK rs) k).length with
  |zero=>rfl
  |succ m=>rw[q] at h;simp at h
 rw[e] at h;simp at h;subst h;refine⟨r,hr,.inl ⟨nev,?_⟩⟩;rw[pf (by rw[A.len];omega),A.len,e];rfl;by_cases hi:i<s.length;rw[nK hi] at h;exact A.bot i x h;rw[pf (by omega)] at h;have e:i-s.length=0:=by
  cases q:i-s.length with
  |zero=>rfl
  |succ m=>rw[q] at h;simp at h
 rw[e] at h;simp at h;subst h;rw[hb];constructor;rintro rfl;simpa using e;rintro rfl;have:s.length=0:=by omega
 exact O9.mp this
def ND{k:Nat}{s:ν}(A:Al rs k s)(hr:rs[k]?=some .nJ)(hl:s.getLast?=some ("if":Str))(hs:st (bK rs) (k+1)=st (bK rs) k):Al rs (k+1) (s.dropLast++[("else":Str)]):=by
 have gc:s≠[]:=by rintro rfl;cases hl
 have adW:0<s.length:=Pb.mpr gc;have z5:s[s.length-1]?=some ("if":Str):=by rw[<- xv];exact hl
 refine⟨by rw[hs,nL,Ad,<- A.len];simp;omega,λi j h=>?_,λi x h=>?_⟩;rw[hs] at h;have hi:i<s.length:=by rw[A.len];exact (eE.mp h).1
 obtain⟨r,h1,h2⟩:=A.YT i j h;by_cases e:i=s.length-1;subst e;have hh:mZ (bK rs) k=some j:=by unfold mZ;rw[xv,<- A.len];exact h
 refine⟨r,h1,.inr ⟨⟨k,Cc _,hr,hh⟩,?_,?_⟩⟩;rw[pf (by rw[Ad];omega),Ad,Q6];rfl;obtain⟨_,h2⟩|⟨_,h2,_⟩:=h2
 rw[z5] at h2;exact (Option.some.inj h2).symm;rw[z5] at h2;exact absurd (Option.some.inj h2) (by decide +kernel);have adX:¬ mZ (bK rs) k=some j:=λz=>by unfold mZ at z;rw[xv,<- A.len] at z;have hw:=(km (kd:=bK rs) k).1;obtain⟨a1,b1⟩:=eE.mp h;obtain⟨a2,b2⟩:=eE.mp z;have:=(ZS.mp hw) i (s.length-1) a1 a2 (by omega);omega
 have hev:Ev rs (k+1) j↔Ev rs k j:=by refine⟨λ⟨k',a,b,c⟩=>?_,Ev.succ⟩;by_cases e:k'=k;subst e;exact absurd c adX;exact⟨k',by omega,b,c⟩
 refine⟨r,h1,?_⟩;rw[hev,nK (by rw[Ad];omega),QR,ε (by omega)];exact h2;by_cases hi:i<s.dropLast.length;rw[nK hi] at h;rw[Ad] at hi;rw[QR,ε hi] at h;exact A.bot i x h;rw[pf (by omega)] at h;have e:i-s.dropLast.length=0:=by
  cases q:i-s.dropLast.length with
  |zero=>rfl
  |succ m=>rw[q] at h;simp at h
 rw[e] at h;simp at h;subst h;rw[Ad] at e hi;have ei:i=s.length-1:=by omega
 have hbo:=A.bot (s.length-1) _ z5;constructor;intro z;exact absurd z (by decide +kernel);intro z;rw[ei] at z;exact absurd (hbo.mpr z) (by decide +kernel)
def jN{s:ν}(h:fY s x=true)(e:s=[]):x="def"\/x="skip":=by subst e;have:sJ (.str x) ([("def":Str),"skip"].map T.str)=true:=h;rw[C9] at this;simpa using this
def jO{s:ν}{l:Str}(h:fY s x=true)(e:s.getLast?=some l):(x="give"->l="def")/\(x="else"->l="if")/\(x="end"->l≠"def")/\x≠"def":=by unfold fY at h;rw[e] at h;dsimp only at h;by_cases h1:x="give";rw[ε h1] at h;subst h1;exact⟨λ_=>Λ h,λz=>absurd z (by decide +kernel),λz=>absurd z (by decide +kernel),by decide +kernel⟩;rw[ζ h1] at h;by_cases h2:x="else";rw[ε h2] at h;subst h2;exact⟨λz=>absurd z h1,λ_=>Λ h,λz=>absurd z (by decide +kernel),by decide +kernel⟩;rw[ζ h2] at h;by_cases h3:x="end";rw[ε h3] at h;subst h3;exact⟨λz=>absurd z h1,λz=>absurd z h2,λ_=>by simpa using h,by decide +kernel⟩;rw[ζ h3] at h;exact⟨λz=>absurd z h1,λz=>absurd z h2,λz=>absurd z h3,by simpa using h⟩
def IZ(s:ν)(h1:(bt r).op=false)(h2:(bt r).cl=false)(h3:(bt r).el=false):lx s (wd r)=s:=by
 have k:∀x:Str,(x="put"\/x="do"\/x="new"\/x="get"\/x="set"\/x="call"\/x="fail"\/x="skip")->lx s x=s:=by intro x hx;unfold lx;obtain rfl|rfl|rfl|rfl|rfl|rfl|rfl|rfl:=hx<;>rw[ζ (by decide +kernel),ζ (by decide +kernel),ζ (by decide +kernel)]
 cases r<;>first
  |exact Bool.noConfusion (show true=false from h1)
  |exact Bool.noConfusion (show true=false from h2)
  |exact Bool.noConfusion (show true=false from h3)
  | (refine k _ ?_;simp[wd];done)
theorem I9(W:VZ rs)(hb:ki (some []) rs=some []):∀k,k<=rs.length->∃s,ki (some []) (rs.take k)=some s/\Al rs k s
 |0,_=>⟨[],rfl,⟨rfl,λi j h=>by simp[st] at h,λi x h=>by simp at h⟩⟩
 |k+1,hk=>by
  obtain⟨s,hs,A⟩:=I9 W hb k (by omega);have gq:k<rs.length:=by omega
  have hr:rs[k]?=some rs[k]:=iy gq;obtain⟨s',h1,h2,h3⟩:=yD hb k hr;rw[hs] at h1;cases h1;refine⟨_,h3,?_⟩;generalize rs[k]=r at hr h2;have kk:=fG hr;have nil:s=[]->wd r="def"\/wd r="skip":=jN h2;have ne:s≠[]->∃l,s.getLast?=some l:=λz=>by obtain⟨a,l,e⟩:=p_ z;exact⟨l,by rw[e,Lx]⟩
  cases r with
  |df f ps=>
   have e:s=[]:=by by_cases z:s=[];exact z;obtain⟨l,hl⟩:=ne z;exact absurd rfl (jO h2 hl).2.2.2
   have:=vR W gq A hr (mU (by rw[kk];rfl) (by rw[kk];rfl)) (by simp) ⟨λ_=>e,λ_=>rfl⟩;rw[show wd (.df f ps)="def" from rfl] at this ⊢;rw[C_];exact this
  |lq a=>
   have e:s≠[]:=λz=>by rcases nil z with h|h<;>exact absurd h (by show ¬ (("if":Str)=_);decide +kernel)
   have:=vR W gq A hr (mU (by rw[kk];rfl) (by rw[kk];rfl)) (by simp) ⟨λh=>absurd h (by show ¬ (("if":Str)=_);decide +kernel),λh=>absurd h e⟩;rw[show wd (.lq a)="if" from rfl] at this ⊢;rw[IP];exact this
  |gk a=>
   have e:s≠[]:=λz=>by rcases nil z with h|h<;>exact absurd h (by show ¬ (("while":Str)=_);decide +kernel)
   have:=vR W gq A hr (mU (by rw[kk];rfl) (by rw[kk];rfl)) (by simp) ⟨λh=>absurd h (by show ¬ (("while":Str)=_);decide +kernel),λh=>absurd h e⟩;rw[show wd (.gk a)="while" from rfl] at this ⊢;rw[oA];exact this
  |give a=>have:=Dh A (mV (by rw[kk];rfl) (by rw[kk];rfl)) (by rw[hr];simp);rw[show wd (.give a)="give" from rfl,yE];exact this
  |fin=>have:=Dh A (mV (by rw[kk];rfl) (by rw[kk];rfl)) (by rw[hr];simp);rw[show wd .fin="end" from rfl,vM];exact this
  |nJ=>
   have e:s≠[]:=λz=>by rcases nil z with h|h<;>exact absurd h (by show ¬ (("else":Str)=_);decide +kernel)
   obtain⟨l,hl⟩:=ne e;have NF:=(jO h2 hl).2.1 rfl;rw[NF] at hl;have:=ND A hr hl (rj (by rw[kk];rfl) (by rw[kk];rfl));rw[show wd .nJ="else" from rfl,yF];exact this
  |_=>rw[IZ s rfl rfl rfl];exact NC A (rj (by rw[kk];rfl) (by rw[kk];rfl)) (by rw[hr];simp)
end
structure Bl(rs:S1):Prop where
 W:VZ rs
 b:ki (some []) rs=some []
section
theorem Bl.at(B:Bl rs){k:Nat}(hr:rs[k]?=some r):∃s,Al rs k s/\fY s (wd r)=true:=by have hk:=(eE.mp hr).1;obtain⟨s,hs,A⟩:=I9 B.W B.b k (by omega);obtain⟨s',h1,h2,h3⟩:=yD B.b k hr;rw[hs] at h1;cases h1;exact⟨s,A,h2⟩
def Al.j_{k:Nat}{s:ν}(A:Al rs k s):s=[]↔st (bK rs) k=[]:=by rw[<- O9,<- O9,A.len]
def Al.last{k:Nat}{s:ν}(A:Al rs k s){l:Str}(h:s.getLast?=some l):∃o r,mZ (bK rs) k=some o/\rs[o]?=some r/\((¬ Ev rs k o/\l=wd r)\/(Ev rs k o/\l="else"/\wd r="if")):=by
 rw[xv] at h;have hi:=(eE.mp h).1;have hj:(st (bK rs) k)[s.length-1]?=some ((st (bK rs) k)[s.length-1]'(by rw[<- A.len];exact hi)):=iy _;obtain⟨r,h1,h2⟩:=A.YT _ _ hj;have hh:mZ (bK rs) k=(st (bK rs) k)[s.length-1]?:=by unfold mZ;rw[xv,<- A.len]
 refine⟨_,r,hh.trans hj,h1,?_⟩;rw[h] at h2;obtain⟨a,b⟩|⟨a,b,c⟩:=h2
 exact .inl ⟨a,Option.some.inj b⟩;exact .inr ⟨a,Option.some.inj b,c⟩
def lastOf{s:ν}(z:s≠[]):∃l,s.getLast?=some l:=by obtain⟨a,l,e⟩:=p_ z;exact⟨l,by rw[e,Lx]⟩
def Bl.inn(B:Bl rs){k:Nat}(hr:rs[k]?=some r)(h1:wd r≠"def")(h2:wd r≠"skip"):st (bK rs) k≠[]:=by
 obtain⟨s,A,m⟩:=B.at hr;rw[Ne,<- A.j_];intro z;rcases jN m z with h|h
 exact h1 h;exact h2 h
theorem Bl.give(B:Bl rs){k:Nat}{a}(hr:rs[k]?=some (.give a)):(st (bK rs) k).length=1:=by
 obtain⟨s,A,m⟩:=B.at hr;have z:s≠[]:=λz=>by rcases jN m z with h|h<;>exact absurd h (by show ¬ (("give":Str)=_);decide +kernel)
 obtain⟨l,hl⟩:=lastOf z;have hd:=(jO m hl).1 rfl;rw[xv,hd] at hl;have:=(A.bot _ _ hl).mp rfl;have:=Pb.mpr z;rw[<- A.len];omega
def Bl.fin(B:Bl rs){k:Nat}(hr:rs[k]?=some .fin):2<=dp (bK rs) k/\∃o r,mZ (bK rs) k=some o/\rs[o]?=some r/\wd r≠"def":=by
 obtain⟨s,A,m⟩:=B.at hr;have z:s≠[]:=λz=>by rcases jN m z with h|h<;>exact absurd h (by show ¬ (("end":Str)=_);decide +kernel)
 obtain⟨l,hl⟩:=lastOf z;have hd:=(jO m hl).2.2.1 rfl;obtain⟨o,r,h1,h2,h3⟩:=A.last hl;refine⟨?_,o,r,h1,h2,?_⟩;rw[xv] at hl;have h0:¬ s.length-1=0:=λq=>hd ((A.bot _ _ hl).mpr q);unfold dp;rw[<- A.len];omega;obtain⟨_,q⟩|⟨_,_,q⟩:=h3
 rw[<- q];exact hd;rw[q];decide +kernel
def Bl.nJ(B:Bl rs){k:Nat}(hr:rs[k]?=some .nJ):2<=dp (bK rs) k/\∃o a,mZ (bK rs) k=some o/\rs[o]?=some (.lq a)/\¬ Ev rs k o:=by
 obtain⟨s,A,m⟩:=B.at hr;have z:s≠[]:=λz=>by rcases jN m z with h|h<;>exact absurd h (by show ¬ (("else":Str)=_);decide +kernel)
 obtain⟨l,hl⟩:=lastOf z;have hd:=(jO m hl).2.1 rfl;obtain⟨o,r,h1,h2,h3⟩:=A.last hl;refine⟨?_,?_⟩;rw[xv,hd] at hl;have h0:¬ s.length-1=0:=λq=>absurd ((A.bot _ _ hl).mpr q) (by decide +kernel);unfold dp;rw[<- A.len];omega;obtain⟨a,q⟩|⟨_,q,_⟩:=h3
 rw[hd] at q;obtain⟨x,rfl⟩:=YU q.symm;exact⟨o,x,h1,h2,a⟩;rw[hd] at q;exact absurd q (by decide +kernel)
def Bl.top(B:Bl rs){o e:Nat}(ho:o<rs.length)(Aa:(bK rs o).op=true)(he:endsAt (bK rs) rs.length o=some e):o<e/\e<rs.length/\dp (bK rs) (e+1)=dp (bK rs) o/\(∀m,o<m->m<=e->dp (bK rs) o<dp (bK rs) m)/\(∀m,o<m->m<e->dp (bK rs) (m+1)≠dp (bK rs) o):=by unfold endsAt at he;rw[ε Aa] at he;obtain⟨e',h1,h2,h3,h4,h5⟩:=end_is B.W ho Aa;rw[he] at h1;cases h1;exact⟨h2,h3,h4,above B.W ho Aa e h2 (by omega) h5,h5⟩
end
section
noncomputable def Tx(kd:Nat->Kd):Nat->Nat->Option Nat
 |0,_=>none
 |k+1,j=>if (kd k).el=true/\mZ kd k=some j then some k else Tx kd k j
theorem I_(kd:Nat->Kd)(n:Nat){j:Nat}(hj:j<n):∀k,(xq kd n k)[j]?=some (oT (Tx kd k j))
 |0=>by simp[xq,Tx,oT,hj]
 |k+1=>by
  have ih:=I_ kd n hj k;simp only[xq,Tx];cases hc:(kd k).el with
  |false=>simp only[Gf,false_and,P1];exact ih
  |true=>
   cases hh:mZ kd k with
   |none=>simp only[reduceCtorEq,and_false,P1];exact ih
   |some h=>simp only[Option.some.injEq,true_and];by_cases e:h=j;subst e;rw[ε rfl,DW (by rw[qb];exact hj)];rfl;rw[ζ e,xi e];exact ih
theorem yR{kd:Nat->Kd}{j x:Nat}:∀{k},Tx kd k j=some x->x<k/\(kd x).el=true/\mZ kd x=some j
 |0,h=>by cases h
 |k+1,h=>by
  simp only[Tx] at h;split at h
  rename_i q;cases h;exact⟨Cc _,q⟩
  have:=yR h;exact⟨by omega,this.2⟩
noncomputable def Ja(rs:S1)(j:Nat):Option Nat:=Tx (bK rs) rs.length j
def Tz(hj:j<rs.length):jg (Tv rs) (j:Int)=some (oT (Ja rs j)):=aw (I_ _ _ hj _)
def TB{x:Nat}(h:(bK rs x).el=true):rs[x]?=some .nJ:=by
 unfold bK at h;split at h
 rename_i r hr
 rw[hr];cases r<;>first|rfl|exact Bool.noConfusion (show false=true from h)
 exact Bool.noConfusion (show false=true from h)
structure Blo(rs:S1)(o e:Nat):Prop where
 lt:o<rs.length
 op:(bK rs o).op=true
 en:endsAt (bK rs) rs.length o=some e
 d1:1<=dp (bK rs) o
 le:o<e
 el:e<rs.length
 ab:∀m,o<m->m<=e->dp (bK rs) o<dp (bK rs) m
 fi:∀m,o<m->m<e->dp (bK rs) (m+1)≠dp (bK rs) o
 de:dp (bK rs) e=dp (bK rs) o+1
 re:rs[e]?=some .fin
def Bl.YV(B:Bl rs){o:Nat}(hr:rs[o]?=some r)(hw:wd r="if"\/wd r="while"):∃e,Blo rs o e:=by
 have Aa:(bK rs o).op=true:=by rw[fG hr];cases r<;>first|rfl|exact absurd hw (by show ¬ ((_:Str)="if"\/(_:Str)="while");simp only[wd];decide +kernel)
 have ho:=(eE.mp hr).1;obtain⟨e,h1,h2,h3,h4,h5⟩:=end_is B.W ho Aa;have he:endsAt (bK rs) rs.length o=some e:=by unfold endsAt;rw[ε Aa];exact h1
 obtain⟨a,b,c,d,f⟩:=B.top ho Aa he;have gc:st (bK rs) o≠[]:=B.inn hr (by obtain q|q:=hw<;>rw[q]<;>decide +kernel) (by obtain q|q:=hw<;>rw[q]<;>decide +kernel);have d1:1<=dp (bK rs) o:=by unfold dp;exact Pb.mpr gc
 obtain⟨G9,aeo⟩:=vP B.W b he ho;have gm:=yJ B.W b G9;have re:rs[e]?=some .fin:=by
  have hre:rs[e]?=some rs[e]:=iy b;have kk:=fG hre;rw[kk] at G9;generalize rs[e]=q at hre G9;cases q with
  |fin=>exact hre
  |give x=>have:=B.give hre;unfold dp at gm c d1;omega
  |_=>exact Bool.noConfusion (show false=true from G9)
 exact⟨e,ho,Aa,he,d1,a,b,d,f,by omega,re⟩
noncomputable def pL(rs:S1)(o:Nat):Int:=match endsAt (bK rs) rs.length o with
 |some e=>(e:Int)
 |none=>0
noncomputable def Gq(rs:S1)(j:Nat):Nat:=(mZ (bK rs) j).getD 0
noncomputable def NG(rs:S1)(j:Nat):Int:=match rs[j]? with
 |some (.gk _)=>pL rs j+1
 |_=>match Ja rs j with
  |none=>pL rs j
  |some x=>(x:Int)+1
noncomputable def Bj(rs:S1)(j:Nat):Int:=match rs[j]? with
 |some .nJ=>pL rs (Gq rs j)
 |some .fin=>match rs[Gq rs j]? with
  |some (.gk _)=>(Gq rs j:Int)
  |_=>(j:Int)+1
 |_=>(j:Int)+1
def Jb:Rw->Bool
 |.lq _=>true
 |.gk _=>true
 |_=>false
end
end Lay
namespace BS
open PySem PySem.Builtin PyProof.Rows
def ib(x:Int)(k:Nat):Bool:=decide (x / 2 ^ k % 2=1)
def sub(y x:Int):Prop:=∀k,ib y k=true->ib x k=true
def below(m:Nat)(x:Int):Prop:=0<=x/\x<2 ^ m
def sw(Fc:qan):Nat->Int->Int
 |0,x=>x
 |k+1,x=>if ib (sw Fc k x) k=true then bitOr (sw Fc k x) (Fc.getD k 0) else sw Fc k x
def rounds(Fc:qan):Nat->Int->Int
 |0,x=>x
 |t+1,x=>sw Fc Fc.length (rounds Fc t x)
def mem(x:Int):qao:=(List.range (Builtin.Int.intBits x)).filter (ib x)
def lst(Fc:qan)(x:Int):Int:=rounds Fc Fc.length x
end BS
namespace BS
open PySem PySem.Builtin
end BS
namespace Lay
open PySem L2 VT Gen K5 BS
open PySem.Builtin (bitOr)
end Lay
namespace S30
open PySem L2 VT Gen K5 Lay BS
open PySem.Builtin (bitOr)
def TC(a c:Nat)(f:Str)(ps:ν)(body:S1)(o:jK):S1:=List.replicate a .skip++(.df f ps::(body++(.give o::List.replicate c .skip)))
end S30
set_option exponentiation.threshold 4000
namespace Rg
open PySem L2 VT Gen K5 Lay
open nU (dm)
open iL (Vl vT nm fQ RI)
def ix(h:n<=1000):n<=sizeLine:=Gen.small h
def Jc(i:Int):RI (fQ i):=by unfold RI fQ;omega
def Qi(h:n+101<cLine):n+3<cLine:=by omega
def TF:RI 0:=by unfold RI;decide
def RI1:RI 1:=by unfold RI;decide
theorem rn{α β:Type}(f:α->β):∀(ks:List Key)(is:List α)(k:Key),dB ks (is.map f) k=(dB ks is k).map f
 |[],is,k=>by cases is<;>rfl
 |a::ks,[],k=>rfl
 |a::ks,i::is,k=>by simp only[gU,dB];split;rfl;exact rn f ks is k
def uy(f:α->β)(ks:List Key)(is:List α)(k:Key)(v:α):cH ks (is.map f) k (f v)=(cH ks is k v).map f:=by
 unfold cH;split;rw[List.zipWith_map_right,List.map_zipWith]
 congr 1
 funext a b;split<;>rfl;simp
def oE(ks:List Key)(is:List α)(k:Key)(v:α):(cH ks is k v).length<=is.length+1:=by unfold cH;split;rw[List.length_zipWith];omega;simp
def Fd{is:List α}{k:Key}{v i:α}(h:i∈cH ks is k v):i∈is\/i=v:=by
 unfold cH at h;split at h;rw[List.mem_iff_getElem?] at h;obtain⟨j,hj⟩:=h;rw[List.getElem?_zipWith] at hj;cases e1:ks[j]? with
 |none=>rw[e1] at hj;cases hj
 |some a=>
  cases e2:is[j]? with
  |none=>rw[e1,e2] at hj;cases hj
  |some b=>rw[e1,e2] at hj;have Ep:(if a=k then v else b)=i:=Option.some.inj hj;split at Ep;exact .inr Ep.symm;exact .inl (by rw[<- Ep];exact gM e2)
 rcases cR.mp h with z|z
 exact .inl z;exact .inr (hX.mp z)
theorem yS{α:Type}:∀{ks:List Key}{is:List α}{k:Key}{v:α},dB ks is k=some v->v∈is
 |[],is,k,v,h=>by cases is<;>cases h
 |a::ks,[],k,v,h=>by cases h
 |a::ks,i::is,k,v,h=>by simp only[dB] at h;split at h;cases h;exact dD;exact gT _ (yS h)
structure Ev where
 ks:List Key
 is:List Vl
noncomputable def Ev.ts(e:Ev):ο:=e.is.map vT
noncomputable def Ev.get(e:Ev)(x:Str):Vl:=(dB e.ks e.is (.inr x)).getD (.num 0)
noncomputable def Ev.put(e:Ev)(x:Str)(v:Vl):Ev:=⟨gA e.ks (.inr x),cH e.ks e.is (.inr x) v⟩
noncomputable def ev0:Ev:=⟨[],[]⟩
def TH(e:Ev)(x:Str):(dB e.ks e.ts (.inr x)).getD (.int 0)=vT (e.get x):=by unfold Ev.ts Ev.get;rw[rn];cases dB e.ks e.is (.inr x)<;>rfl
def Bk(e:Ev)(x:Str)(v:Vl):cH e.ks e.ts (.inr x) (vT v)=(e.put x v).ts:=uy vT e.ks e.is (.inr x) v
def eJ(v:Vl):bZ (vT v)=true:=by cases v<;>rfl
def RV(v:Vl):Prop:=RI (nm v)
structure gE(e:Ev)(n:Nat):Prop where
 n:e.is.length<=n
 ri:∀i∈e.is,RV i
def gE.put{e:Ev}(h:gE e n)(x:Str){v:Vl}(hv:RV v):gE (e.put x v) (n+1):=by
 refine⟨?_,λi hi=>?_⟩;have:=oE e.ks e.is (.inr x) v;have:=h.n;show (cH e.ks e.is (.inr x) v).length<=n+1;omega;rcases Fd hi with z|z
 exact h.ri i z;rw[z];exact hv
def gE.get{e:Ev}{n:Nat}(h:gE e n)(x:Str):RV (e.get x):=by
 unfold Ev.get;cases g:dB e.ks e.is (.inr x) with
 |none=>exact TF
 |some v=>exact h.ri v (yS g)
noncomputable def look(e:Ev):jK->Vl
 |.nm x=>e.get x
 |.nu i=>.num i
def rp:jK->Prop
 |.nm x=>dm x=true/\x.length<=100
 |.nu i=>RI i
def Lr:Ky->Prop
 |.fld x=>dm x=true/\x.length<=50
 |.op o=>rp o
theorem gE.look{e:Ev}(h:gE e n){o:jK}(ho:rp o):RV (look e o):=by
 cases o with
 |nm x=>exact h.get x
 |nu i=>exact ho
noncomputable def YW(op:Str)(x y:Int):Option Int :=
 if op="plus" then some (fQ (x+y)) else if op="minus" then some (fQ (x-y)) else if op="times" then some (fQ (x * y)) else if op="less" then some (if x<y then 1 else 0) else if op="same" then some (if x=y then 1 else 0)
 else if y=0 then none else if op="over" then some (fQ (x.fdiv y)) else some (fQ (x.fmod y))
noncomputable def Bn(op:Str)(a b:Vl):Option Int:=if op="same" then some (if a=b then 1 else 0) else YW op (nm a) (nm b)
def TJ{op:Str}{x y v:Int}(h:YW op x y=some v):RI v:=by
 unfold YW at h
 repeat' split at h
 all_goals (cases h)
 all_goals first|exact Jc _|exact TF|exact RI1
def TK{op:Str}{a b:Vl}{v:Int}(h:Bn op a b=some v):RI v:=by
 unfold Bn at h;split at h;cases h;split<;>first|exact TF|exact RI1
 exact TJ h
noncomputable def oV:Option Vl->T
 |some v=>vT v
 |none=>.aO
def Bo(o:Option Vl):bZ (oV o)=true:=by cases o<;>first|rfl|exact eJ _
structure Fr where
 call:Option Nat
 ev:Ev
structure Ct where
 ks:List Key
 is:qan
def Ct.ts(c:Ct):ο:=c.is.map .int
noncomputable def Ct.get(c:Ct)(p:Nat):Int:=(dB c.ks c.is (.inl (p:Int))).getD 0
noncomputable def Ct.up(c:Ct)(p:Nat):Ct:=⟨gA c.ks (.inl (p:Int)),cH c.ks c.is (.inl (p:Int)) (c.get p+1)⟩
def Jd(c:Ct)(p:Nat):(dB c.ks c.ts (.inl (p:Int))).getD (.int 0)=.int (c.get p):=by unfold Ct.ts Ct.get;rw[rn];cases dB c.ks c.is (.inl (p:Int))<;>rfl
def YX(c:Ct)(p:Nat):cH c.ks c.ts (.inl (p:Int)) (.int (c.get p+1))=(c.up p).ts:=uy T.int c.ks c.is (.inl (p:Int)) (c.get p+1)
structure Ce where
 ks:List (List Key×Key)
 is:List Vl
noncomputable def Ce.ts(c:Ce):ο:=c.is.map vT
noncomputable def Ce.get(c:Ce)(k:List Key×Key):Vl:=(jJ c.ks c.is k).getD (.num 0)
noncomputable def Ce.put(c:Ce)(k:List Key×Key)(v:Vl):Ce:=⟨qY c.ks k,gb c.ks c.is k v⟩
noncomputable def Ce.at'(c:Ce):Option (List Key×Key)->Vl
 |some k=>c.get k
 |none=>.num 0
noncomputable def Ce.TL(c:Ce)(v:Vl):Option (List Key×Key)->Ce
 |some k=>c.put k v
 |none=>c
noncomputable def Ce.s(nh:List Key×Key->Int)(c:Ce):S:=.dc nh c.ks c.ts
theorem yT{α β:Type}(f:α->β):∀(ks:List (List Key×Key))(is:List α)(k:List Key×Key),jJ ks (is.map f) k=(jJ ks is k).map f
 |[],is,k=>by cases is<;>rfl
 |a::ks,[],k=>rfl
 |a::ks,i::is,k=>by simp only[gU,jJ];split;rfl;exact yT f ks is k
def Fe(f:α->β)(ks:List (List Key×Key))(is:List α)(k:List Key×Key)(v:α):gb ks (is.map f) k (f v)=(gb ks is k v).map f:=by
 unfold gb;split;rw[List.zipWith_map_right,List.map_zipWith]
 congr 1
 funext a b;split<;>rfl;simp
def TM(c:Ce)(k:List Key×Key):(jJ c.ks c.ts k).getD (.int 0)=vT (c.get k):=by unfold Ce.ts Ce.get;rw[yT];cases jJ c.ks c.is k<;>rfl
def TN(c:Ce)(k:List Key×Key)(v:Vl):gb c.ks c.ts k (vT v)=(c.put k v).ts:=Fe vT c.ks c.is k v
def Ff(ks:List (List Key×Key))(is:List α)(k:List Key×Key)(v:α):(gb ks is k v).length<=is.length+1:=by unfold gb;split;rw[List.length_zipWith];omega;simp
def Fg{ks:List (List Key×Key)}{is:List α}{k:List Key×Key}{v i:α}(h:i∈gb ks is k v):i∈is\/i=v:=by
 unfold gb at h;split at h;rw[List.mem_iff_getElem?] at h;obtain⟨j,hj⟩:=h;rw[List.getElem?_zipWith] at hj;cases e1:ks[j]? with
 |none=>rw[e1] at hj;cases hj
 |some a=>
  cases e2:is[j]? with
  |none=>rw[e1,e2] at hj;cases hj
  |some b=>rw[e1,e2] at hj;have Ep:(if a=k then v else b)=i:=Option.some.inj hj;split at Ep;exact .inr Ep.symm;exact .inl (by rw[<- Ep];exact gM e2)
 rcases cR.mp h with z|z
 exact .inl z;exact .inr (hX.mp z)
theorem yU{α:Type}:∀{ks:List (List Key×Key)}{is:List α}{k:List Key×Key}{v:α},jJ ks is k=some v->v∈is
 |[],is,k,v,h=>by cases is<;>cases h
 |a::ks,[],k,v,h=>by cases h
 |a::ks,i::is,k,v,h=>by simp only[jJ] at h;split at h;cases h;exact dD;exact gT _ (yU h)
def ly(c:Ce)(n:Nat):Prop:=c.is.length<=n/\∀v∈c.is,RV v
def ly.get{c:Ce}{n:Nat}(h:ly c n)(k:List Key×Key):RV (c.get k):=by
 unfold Ce.get;cases g:jJ c.ks c.is k with
 |none=>exact TF
 |some v=>exact h.2 v (yU g)
def ly.put{c:Ce}(h:ly c n)(k:List Key×Key){v:Vl}(hv:RV v):ly (c.put k v) (n+1):=by
 refine⟨?_,λi hi=>?_⟩;have:=Ff c.ks c.is k v;have:=h.1;show (gb c.ks c.is k v).length<=n+1;omega;rcases Fg hi with z|z
 exact h.2 i z;rw[z];exact hv
noncomputable def m4(v:Vl):T:=.tup [.str "done",vT v]
noncomputable def yV:T:=.tup [.str "fault",.str "zero"]
noncomputable def m5:T:=.tup [.str "cut",.int 0]
def Di(w:Str):T:=.tup [.str "fault",.str w]
noncomputable def NH:Ky->List jK
 |.fld _=>[]
 |.op o=>[o]
noncomputable def gR:Rw->List jK
 |.df _ ps=>ps.map .nm
 |.put _ a=>[a]
 |.give a=>[a]
 |.lq a=>[a]
 |.gk a=>[a]
 |.lW _ a _ b=>[a,b]
 |.call _ _ as=>as
 |.get _ r k=>.nm r::NH k
 |.set r k a=>.nm r::(NH k++[a])
 |_=>[]
noncomputable def cellK(e:Ev)(r:Str)(k:Ky):Option (List Key×Key):=match e.get r with
 |.Gp p n=>some ([.inl p,.inl n],match k with
  |.fld x=>.inr (((".":String):Str)++x)
  |.op o=>.inl (nm (look e o)))
 |.num _=>none
noncomputable def Je(e:Ev)(ce:Ce)(c:Ct)(p:Nat):Rw->Option Vl
 |.get _ r k=>some (ce.at' (cellK e r k))
 |.set _ _ a=>some (look e a)
 |.put _ a=>some (look e a)
 |.give a=>some (look e a)
 |.lW _ a op b=>(Bn op (look e a) (look e b)).map .num
 |.new _=>some (.Gp p (c.get p))
 |.lq a=>some (.num (if look e a=.num 0 then 0 else 1))
 |.gk a=>some (.num (if look e a=.num 0 then 0 else 1))
 |_=>none
noncomputable def vS(e:Ev)(ce:Ce)(c:Ct)(p:Nat)(r:Rw):T:=.tup [.int (p:Int),.tup ((gR r).map λo=>vT (look e o)),oV (Je e ce c p r)]
noncomputable def du(ps:ν)(gs:List Vl):Nat->Ev
 |0=>ev0
 |k+1=>match ps[k]? with
  |some x=>(du ps gs k).put x (gs.getD k (.num 0))
  |none=>du ps gs k
structure Lv where
 fs:List Fr
 f:Fr
 ce:Ce
 ct:Ct
 dn:ο
 pl:Nat
abbrev Res:=List T×T
noncomputable def jm:Rw->Bool
 |.nJ=>true
 |.fin=>true
 |.skip=>true
 |_=>false
noncomputable def uz(s:Lv)(x:Str)(v:Vl)(d:T):Lv:={s with f:={s.f with ev:=s.f.ev.put x v},dn:=s.dn++[d],pl:=s.pl+1}
noncomputable def cU(rs:S1)(r:Rw)(s:Lv):Lv ⊕ Res :=
 let e:=s.f.ev
 let d:=vS e s.ce s.ct s.pl r
 match r with
 |.df _ _=>.inl {s with dn:=s.dn++[d],pl:=s.pl+1}
 |.put x a=>.inl (uz s x (look e a) d)
 |.lW x a op b=>match Bn op (look e a) (look e b) with
  |none=>.inr (s.dn++[d],yV)
  |some v=>.inl (uz s x (.num v) d)
 |.new x=>.inl (uz {s with ct:=s.ct.up s.pl} x (.Gp s.pl (s.ct.get s.pl)) d)
 |.lq a=>.inl {s with dn:=s.dn++[d],pl:=if look e a=.num 0 then (NG rs s.pl).toNat else s.pl+1}
 |.gk a=>.inl {s with dn:=s.dn++[d],pl:=if look e a=.num 0 then (NG rs s.pl).toNat else s.pl+1}
 |.get x r k=>.inl (uz s x (s.ce.at' (cellK e r k)) d)
 |.set r k a=>.inl {s with ce:=s.ce.TL (look e a) (cellK e r k),dn:=s.dn++[d],pl:=s.pl+1}
 |.fail w=>.inr (s.dn++[d],Di w)
 |.give a=>match s.f.call,s.fs.getLast? with
  |some c,some g=>match rs[c]? with
   |some (.call x _ _)=>.inl {fs:=s.fs.dropLast,f:={g with ev:=g.ev.put x (look e a)},ce:=s.ce,ct:=s.ct,dn:=s.dn++[d],pl:=c+1}
   |_=>.inr (s.dn,m5)
  |_,_=>.inr (s.dn++[d],m4 (look e a))
 |.call _ g as=>match xp (bu rs rs.length) g with
  |some p=>match rs[p]? with
   |some (.df _ ps)=>.inl {fs:=s.fs++[s.f],f:=⟨some s.pl,du ps (as.map (look e)) ps.length⟩,ce:=s.ce,ct:=s.ct,dn:=s.dn++[d],pl:=p}
   |_=>.inr (s.dn,m5)
  |none=>.inr (s.dn,m5)
 |_=>.inr (s.dn,m5)
noncomputable def iH(rs:S1)(most:Nat)(s:Lv):Lv ⊕ Res:=match rs[s.pl]? with
 |none=>.inr (s.dn,m5)
 |some r=>if jm r=true then .inl {s with pl:=(Bj rs s.pl).toNat} else if most<=s.dn.length then .inr (s.dn,m5) else cU rs r s
noncomputable def xr(cF:Addr)(f:Fr):S:=.ins cF qaw [.lf (oT f.call),.dk f.ev.ks f.ev.ts]
noncomputable def YY(cF:Addr)(f:Fr):T:=.ins cF qaw [oT f.call,.dk f.ev.ks f.ev.ts]
noncomputable def dC(cM cF:Addr)(L:T)(most:Int)(pk:T)(fr:List Fr)(ce:S)(ct:Ct)(dn:ο)(pl en:T):S:=.ins cM mN [.lf L,.lf (.int most),.lf pk,.lst (fr.map (xr cF)),ce,.dk ct.ks ct.ts,.lst (dn.map .lf),.lf pl,.lf en]
noncomputable def V2(cM cF:Addr)(L:T)(most:Int)(pk:T)(fr:List Fr)(ce:S)(ct:Ct)(dn:ο)(pl en:T):T:=.ins cM mN [L,.int most,pk,.lst (fr.map (YY cF)),ce.t,.dk ct.ks ct.ts,.lst dn,pl,en]
theorem Qj(cF:Addr):∀fr:List Fr,S.ts (fr.map (xr cF))=fr.map (YY cF)
 |[]=>by simp[S.ts]
 |e::fr=>by simp[S.ts,Qj cF fr,xr,YY,S.t]
theorem Qk:∀dn:ο,S.ts (dn.map .lf)=dn
 |[]=>by simp[S.ts]
 |e::fr=>by simp[S.ts,Qk fr,S.t]
section
variable{cM cF:Addr}{L:T}{most:Int}{pk:T}{fr fs:List Fr}{f:Fr}{ce:S}{ct:Ct}{dn:ο}{pl en:T}
def gS:(dC cM cF L most pk fr ce ct dn pl en).t=V2 cM cF L most pk fr ce ct dn pl en:=by unfold dC V2;simp only[S.t,S.ts,Qj,Qk]
def Ql(C:Addr)(f:Str)(ns:ν)(xs:List S):(S.ins C ns xs).Yc (.fld C f)=lh f ns:=by show (if C=C then lh f ns else none)=_;rw[ε rfl]
def uA{f:Str}{ns:ν}{xs:List S}{x:S}{ps:List lg}(h1:lh f ns=some i)(h2:xs[i]?=some x):(S.ins C ns xs).get (.fld C f::ps)=x.get ps:=by rw[S.get,Ql,h1];show (match xs[i]? with|some x=>x.get ps|none=>none)=_;rw[h2]
def uB{f:Str}{ns:ν}{xs:List S}{x y:S}{ps:List lg}(h1:lh f ns=some i)(h2:xs[i]?=some x):(S.ins C ns xs).put (.fld C f::ps) y=.ins C ns (xs.set i (x.put ps y)):=by rw[S.put,Ql,h1];show (match xs[i]? with|some x=>S.ins C ns (xs.set i (x.put ps y))|none=>_)=_;rw[h2]
def Qm(xs:List S)(x:S):(S.lst (xs++[x])).Yc .last=some xs.length:=by show (if 0<(xs++[x]).length then some ((xs++[x]).length-1) else none)=_;rw[ε (by simp)];simp
def YZ{xs:List S}{x:S}{ps:List lg}:(S.lst (xs++[x])).get (.last::ps)=x.get ps:=by rw[S.get,Qm];show (match (xs++[x])[xs.length]? with|some x=>x.get ps|none=>none)=_;rw[pf (c9 _),Q6];rfl
def Y0{xs:List S}{x y:S}{ps:List lg}:(S.lst (xs++[x])).put (.last::ps) y=.lst (xs++[x.put ps y]):=by rw[S.put,Qm];show (match (xs++[x])[xs.length]? with|some z=>S.lst ((xs++[x]).set xs.length (z.put ps y))|none=>S.lst (xs++[x]))=_;rw[pf (c9 _),Q6];show S.lst ((xs++[x]).set xs.length (x.put ps y))=_;rw[List.set_append_right _ _ (c9 _),Q6];rfl
def yW(s:S):s.get []=some s:=by cases s<;>rfl
def yX(s y:S):s.put [] y=y:=by cases s<;>rfl
def Jf:(dC cM cF L most pk fr ce ct dn pl en).get [.fld cM "frames"]=some (.lst (fr.map (xr cF))):=by unfold dC;rw[uA (i:=3) rfl rfl,yW]
def Jg{fr':List Fr}:(dC cM cF L most pk fr ce ct dn pl en).put [.fld cM "frames"] (.lst (fr'.map (xr cF)))=dC cM cF L most pk fr' ce ct dn pl en:=by unfold dC;rw[uB (i:=3) rfl rfl,yX];rfl
def Jh:(dC cM cF L most pk fr ce ct dn pl en).get [.fld cM "cells"]=some ce:=by unfold dC;rw[uA (i:=4) rfl rfl,yW]
def TQ{TR:S}:(dC cM cF L most pk fr ce ct dn pl en).put [.fld cM "cells"] TR=dC cM cF L most pk fr TR ct dn pl en:=by unfold dC;rw[uB (i:=4) rfl rfl,yX];rfl
def Ji:(dC cM cF L most pk fr ce ct dn pl en).get [.fld cM "counts"]=some (.dk ct.ks ct.ts):=by unfold dC;rw[uA (i:=5) rfl rfl,yW]
def TU{p:Nat}:(dC cM cF L most pk fr ce ct dn pl en).put [.fld cM "counts"] (.dk (gA ct.ks (.inl (p:Int))) (cH ct.ks ct.ts (.inl (p:Int)) (.int (ct.get p+1))))=dC cM cF L most pk fr ce (ct.up p) dn pl en:=by unfold dC;rw[uB (i:=5) rfl rfl,yX,YX];rfl
def Bp:(dC cM cF L most pk fr ce ct dn pl en).get [.fld cM "doings"]=some (.lst (dn.map .lf)):=by unfold dC;rw[uA (i:=6) rfl rfl,yW]
def TV{t:T}:(dC cM cF L most pk fr ce ct dn pl en).put [.fld cM "doings"] (.lst (dn.map .lf++[.lf t]))=dC cM cF L most pk fr ce ct (dn++[t]) pl en:=by unfold dC;rw[uB (i:=6) rfl rfl,yX,nG];rfl
def Jj:(dC cM cF L most pk (fs++[f]) ce ct dn pl en).get [.fld cM "frames",.last,.fld cF "names"]=some (.dk f.ev.ks f.ev.ts):=by unfold dC;rw[uA (i:=3) rfl rfl,nG];show S.get (.lst (fs.map (xr cF)++[xr cF f])) _=_;rw[YZ];unfold xr;rw[uA (i:=1) rfl rfl,yW]
def TX{v:Vl}:(dC cM cF L most pk (fs++[f]) ce ct dn pl en).put [.fld cM "frames",.last,.fld cF "names"] (.dk (gA f.ev.ks (.inr x)) (cH f.ev.ks f.ev.ts (.inr x) (vT v)))=dC cM cF L most pk (fs++[{f with ev:=f.ev.put x v}]) ce ct dn pl en:=by
 unfold dC;rw[nG,uB (i:=3) (x:=.lst (fs.map (xr cF)++[xr cF f])) rfl rfl,Y0];show S.ins cM mN (List.set _ 3 (.lst (fs.map (xr cF)++[(xr cF f).put _ _])))=_;have e:(xr cF f).put [.fld cF "names"] (.dk (gA f.ev.ks (.inr x)) (cH f.ev.ks f.ev.ts (.inr x) (vT v)))=xr cF {f with ev:=f.ev.put x v}:=by unfold xr;rw[uB (i:=1) rfl rfl,yX,Bk];rfl
 rw[e,nG];rfl
end
end Rg
namespace VT
open PySem PySem.Spec PyProof.Rows L2
theorem eM{α:Type}{f u:α->T}{h:FG}{fe:FE}{ρ:En}:∀{xs:List α}{Q:ο->Prop},(∀x∈xs,∀r:T->Prop,r (u x)->h (f x) ρ λρ2=>fe ρ2 r)->Q (xs.map u)->c6 h Sw fe ρ (xs.map f) Q
 |[],Q,_,hq=>hq
 |x::xs,Q,step,hq=>by simp only[gU,c6];exact step x dD (λy=>c6 h Sw fe ρ (xs.map f) λus=>Q (y::us)) (eM (Q:=λus=>Q (u x::us)) (λy hy=>step y (gT _ hy)) hq)
theorem lz{α:Type}{f u:α->T}{p:α->Bool}{h:FG}{fc:FB}{fe:FE}{ρ:En}:∀{xs:List α}{Q:ο->Prop},(∀x∈xs,∀r s:Prop,(if p x=true then ∀k:T->Prop,(k (u x)->r)->r else s)->True)->(∀x∈xs,∀(k:T->Prop)(s:Prop),(if p x=true then k (u x) else s)->h (f x) ρ λρ2=>fc ρ2 λb=>if b=true then fe ρ2 k else s)->Q ((xs.filter p).map u)->c6 h fc fe ρ (xs.map f) Q
 |[],Q,_,_,hq=>hq
 |x::xs,Q,t0,step,hq=>by simp only[gU,c6];refine step x dD _ _ ?_;by_cases hp:p x=true;rw[ε hp];rw[ZT hp] at hq;exact lz (Q:=λus=>Q (u x::us)) (λ_ _ _ _ _=>trivial) (λy hy=>step y (gT _ hy)) hq;rw[ζ hp];rw[aco hp] at hq;exact lz (λ_ _ _ _ _=>trivial) (λy hy=>step y (gT _ hy)) hq
end VT
namespace VT
open PySem PySem.Spec PyProof.Rows
def ddp{K:Type}[DecidableEq K](l:List K)(v:K):List K:=if v∈l then l else l++[v]
def met{K:Type}[DecidableEq K](val:Nat->K):Nat->List K
 |0=>[]
 |i+1=>ddp (met val i) (val i)
section
variable{R:Result->Shared->Prop}{I:Addr}{wr:υ}{G:Array GenState->Array GenState->Prop}{P:Nat->Value->Prop}{St:Nat->Shared->Prop}
variable{K:Type}[DecidableEq K]{knd:PySem.KeyKind prog w K}
end
end VT
namespace VT
open PySem PySem.Spec PyProof.Rows L2
end VT
namespace Nm
open PySem L2 VT Gen nU
noncomputable def top(i:Nat):Stmt:=PySem.Challenge.pw_slicewise_k83_inputs_that_do_a_row.main.body.getD i (.Pass ⟨0,0,0,0⟩)
noncomputable abbrev kn:Stmt:=top 6
noncomputable abbrev lC:Stmt:=top 7
structure Mg2(mg:qae):Prop where
 NI:∃t,mg "LETTERS"=some (.str bY t)
 vU:∃t,mg "LONGEST_NAME"=some (.int 8 t)
 isinstance:mg "isinstance"=none
 str:mg "str"=none
 len:mg "len"=none
 all:mg "all"=none
def ix(h:n<=1000):n<=sizeLine:=small h
noncomputable def NJ:T->Bool
 |.lst _=>false
 |.dk _ _=>false
 |.dc _ _ _=>false
 |.ins _ _ _=>false
 |.pin _ _=>false
 |.ob _=>false
 |.ty _=>false
 |_=>true
noncomputable def Dj:T->Bool
 |.str x=>dm x
 |_=>false
def kK(ts:ο)(q:qam):Prop:=∃t,ts=[t]/\NJ t=true/\(∀x,t=.str x->x.length<=1000)/\q (.vw (.bl (Dj t)))
def TY(r:Rt)(A:Prop)(B:Prop):Prop:=match r with
 |.vw (.bl true)=>A
 |.vw (.bl false)=>B
 |_=>False
def Jk{c:Bool}{A:Prop}(h1:c=true->A)(h2:c=false->B):TY (.vw (.bl c)) A B:=by
 cases c with
 |true=>exact h1 rfl
 |false=>exact h2 rfl
noncomputable def lF:T->Bool
 |.str x=>qt x
 |_=>false
def yY(t:T):Prop:=(∃x,t=.str x/\x.length<=100)\/∃i,t=.int i
def A6(ts:ο)(q:qam):Prop:=∃t,ts=[t]/\yY t/\q (.vw (.bl (lF t)))
def andM(r:Rt)(A:Prop)(B:Prop):Prop:=match r with
 |.vw (.bl true)=>A
 |.vw (.bl false)=>B
 |_=>False
def NL{c:Bool}{A:Prop}(h1:c=true->A)(h2:c=false->B):andM (.vw (.bl c)) A B:=by
 cases c with
 |true=>exact h1 rfl
 |false=>exact h2 rfl
theorem m6:∀l:qao,dY (l.map ((λt:T=>match t with | .str y=>.bl (CJ y bY)|_=>.aO) ∘ λc=>T.str ⟨#[c]⟩))=some (l.map Em)
 |[]=>rfl
 |c::l=>by rw[gU,gU];show (dY _).map _=_;rw[m6 l];rfl
section
noncomputable abbrev oF:ν:=qax
def rq:az oF qax (ai kn):=L2.fD
def tD:(oF++(["sign"]:ν)).Nodup:=by decide +kernel
def NM(D:Df K mg "is_name" kn qax f fd)(M:Mg2 mg):bV P w K mg base "is_name" qax 1 (cK K 1 kK):=by
 refine D.fU (jD D.F rq rfl λbF A outer s H E Ox hr ts q hG=>?_);have nd:=rq.nd;have np:∀{i:Nat},bN ⟨H,[],Ox⟩ i:=kP;obtain⟨tL,mL⟩:=M.NI;obtain⟨tN,mN⟩:=M.vU;have rA:∀{pos},VP (fN eQ P w K mg base oF "is_name" (ai kn) f bF A outer s H E).pA ⟨H,[],Ox⟩ (.Name "LONGEST_NAME" pos) (fC (.int 8)):=iS (by rfl) mN (v:=.int 8) ⟨tN,rfl⟩ λ_ _=>bC;refine⟨_,(ah (bA (VW.vc (Hb (n_ (h_ (mx x4 (by rfl) M.isinstance (by rfl) M.str PK (ae 0)))) (AO (n_ (HA Pm Pm (θ ag) (θ (aY aZ a_ (by rfl) M.len lZ (aJ (ae 0) aX))) (θ rA))))))
    (ar (aE (Δ kM)))
    aM)
   (ar (aE (Δ (aY (qr rfl) Ew (by rfl) M.all XS (aJ (θ (iW (ts:=["sign"]) rfl (by rfl) (eW (aj 0)) (λ_ _ _ _ _ _=>(br (i:=1) tD rfl (.inl rfl) np (.inr rfl))) (λ_ _ _ _ _ _=>gf) (λ_ _ _ _ _ _=>(ς (XM (ae 1) (θ (iS (by rfl) mL (v:=.str bY) ⟨tL,rfl⟩ λ_ _=>dZ))))))) aX)))))),λ_=>?_⟩
 obtain⟨t,rfl,ht,hx,hq⟩:=hG;cases t with
 |aO=>exact⟨rfl,hq⟩
 |bl b=>exact⟨rfl,hq⟩
 |int x=>exact⟨rfl,hq⟩
 |tup l=>exact⟨rfl,hq⟩
 |str x=>
   have hl:=hx x rfl;have eS:q (.vw (.bl (decide (1<=(x.length:Int)) && (decide ((x.length:Int)<=8) && x.cps.toList.all Em)))):=hq;refine⟨rfl,ix hl,Jk (c:=decide (1<=(x.length:Int))) (λh1=>?_) (λh1=>?_)⟩;rw[h1,Pd] at eS;refine vd (λh2=>?_) (λh2=>?_);have Hu:(!decide ((x.length:Int)<=8))=true:=h2;have h3:decide ((x.length:Int)<=8)=false:=by simpa using Hu
   rw[h3,Wv] at eS;exact eS;have Hu:¬ (!decide ((x.length:Int)<=8))=true:=h2;have h3:decide ((x.length:Int)<=8)=true:=by simpa using Hu
   rw[h3,Pd] at eS;refine⟨rfl,by rw[cu,La];exact ix hl,oh (λ_=>true) (λt=>match t with | .str y=>.bl (CJ y bY)|_=>.aO) (λt ht k r h=>?_) ?_⟩;obtain⟨c,_,rfl⟩:=xn.mp ht;exact⟨_,rfl,h⟩;rw[List.filter_eq_self.mpr (λ_ _=>rfl),Lh];refine⟨x.cps.toList.map Em,m6 x.cps.toList,?_⟩;rw[List.all_map];exact eS;rw[h1,Wv] at eS;exact eS
 |_=>cases ht
noncomputable abbrev Bq:ν:=qax
def o7:az Bq qax (ai lC):=L2.fD
def yZ(D:Df K mg "is_field" lC qax f fd)(M:Mg2 mg)(oG:bV P w K mg base "is_name" qax 1 (cK K 1 kK)):bV P w K mg base "is_field" qax 2 (cK K 1 A6):=by
 refine D.fU (jD D.F o7 rfl λbF A outer s H E Ox hr ts q hG=>?_);have nd:=o7.nd;refine⟨_,(ar (aE (Δ (vf (mx x4 (by rfl) M.isinstance (by rfl) M.str PK (ae 0)) (vf (EH (ae 0) (θ aC)) (AQ (aK oG hr (aa (ς (jz (ae 0) (gY (θ ag)) gX)) ak)))))))),λ_=>?_⟩;obtain⟨t,rfl,ht,hq⟩:=hG;obtain⟨x,rfl,hx⟩|⟨i,rfl⟩:=ht
 refine⟨rfl,?_⟩;have eS:q (.vw (.bl (Txt.startswith x "." && dm (Txt.slice x (some 1) none)))):=hq;refine NL (c:=Txt.startswith x ".") (λh=>?_) (λh=>?_);rw[h,Pd] at eS;refine⟨ix (by omega),rfl,_,rfl,rfl,λy e=>?_,eS⟩;cases e;exact je (Txt.slice_le x _ _) (by omega);rw[h,Wv] at eS;exact eS;exact⟨rfl,hq⟩
end
end Nm
namespace PySem
open Sem (wp)
namespace F
theorem Fh:typeLookup (.type "dict") "__len__"=pure (some (.builtin "dict.__len__")):=by rw[typeLookup_type,builtinLookup_eq_fast];kernel_rfl
end F
section
variable{s:Shared}{K:Type}[DecidableEq K]{knd:KeyKind prog w K}
def lH{aQ:List (K×Value)}{ep:Nat}{Q:(Ψ)->Shared->Prop}(hh:A.in1.handled=none)(hd:(d==sysModules)=false)(hm:s.heap.DictAt knd d aQ ep)(hn:aQ.length<=sizeLine)(hQ:∀h' tk acc,(∀b o,s.heap.get? b=some o->h'.get? b=some o)->s.heap.objs.size<h'.objs.size->ItemsOf (λi v=>∃k x,aQ[i]?=some (k,x)/\knd.is k v=true) acc aQ.length->Q acc.toList {s with heap:=h',toks:=tk}) :
  wpAny (model prog w) A (collect (.ref d)) Q E s:=by
 have gq:=hm.lt_size;unfold collect;refine δ (wpAny_runValue (codeAny_builtin F.entry_proto_collect ?_));rw[Around.under_plainId F.plain_proto_collect _];show wpAny _ A.in1 (newList [] >>= λl=>again (.builtin "list.__iadd__" ⟨[l,.ref d],[]⟩)) _ _ s;refine δ (Θ ?_);refine η ⟨plainId_quiet F.plain_list_iadd _,codeAny_builtin F.entry_list_iadd ?_⟩;rw[Around.under_plainId F.plain_list_iadd _];have hm1:=hm.push {cls:=.type "list",data:=.seq ([]:Ψ).toArray};have hS₁:(s.heap.push {cls:=.type "list",data:=.seq ([]:Ψ).toArray}).get? s.heap.objs.size=some {cls:=.type "list",data:=.seq ([]:Ψ).toArray}:=ph _ rfl;have h1:Builtin.List.listSameRef (.ref s.heap.objs.size) (.ref d)=false:=by simp[Builtin.List.listSameRef,Lg gq]
 show wpAny _ A.in1 (Builtin.List.listExtendWith (.ref s.heap.objs.size) (.ref d) (.ref s.heap.objs.size)) _ _ _;unfold Builtin.List.listExtendWith;refine δ (wpAny_typeOf hm1.dictOf.typeIs ?_);rw[ζ (by rw[h1];decide)];refine δ (wpAny_pyIter_dict hd hm1 ?_);refine δ (Φ ?_);unfold Builtin.List.listLengthHint;have V3:=hm1.push {cls:=.type "dict_keyiterator",data:=.fields #[.ref d,.int 0 0,.int aQ.length 0,.int ep 0]};refine δ (Ω V3.dictOf.typeIs F.Fh ?_)
 (generalize nI:("dict.__len__":String)=id0;(fail_if_success (clear nI id0));wp_delta;rw[show splitId id0=some ("dict","__len__") from by subst nI;decide +kernel];subst nI)
 refine wpAny_bind (wpAny_isInstance (b:=true) V3.dictOf.typeIs (by rw[isSubtype_type];kernel_rfl) ?_);refine wpAny_bind (wpAny_typeOf V3.dictOf.typeIs ?_);refine wpAny_pure ?_;rw[if_pos (by decide +kernel)];refine wpAny_bind (wpAny_rule ?_);have hsz:(s.heap.push {cls:=.type "list",data:=.seq ([]:Ψ).toArray}).objs.size=s.heap.objs.size+1:=Q2 _ _;have z6:=jn {cls:=.type "dict_keyiterator",data:=.fields #[.ref d,.int 0 0,.int aQ.length 0,.int ep 0]} hS₁;have TZ:((s.heap.push {cls:=.type "list",data:=.seq ([]:Ψ).toArray}).push {cls:=.type "dict_keyiterator",data:=.fields #[.ref d,.int 0 0,.int aQ.length 0,.int ep 0]}).IsKeyIter (s.heap.push {cls:=.type "list",data:=.seq ([]:Ψ).toArray}).objs.size d 0 aQ.length ep:=⟨_,ph _ rfl,rfl,rfl⟩;have hold:∀b o,s.heap.get? b=some o->((s.heap.push {cls:=.type "list",data:=.seq ([]:Ψ).toArray}).push {cls:=.type "dict_keyiterator",data:=.fields #[.ref d,.int 0 0,.int aQ.length 0,.int ep 0]}).get? b=some o:=λb o e=>jn _ (jn _ e);generalize ((s.heap.push {cls:=.type "list",data:=.seq ([]:Ψ).toArray}).push {cls:=.type "dict_keyiterator",data:=.fields #[.ref d,.int 0 0,.int aQ.length 0,.int ep 0]})=h2 at V3 z6 TZ hold ⊢;show wpAny _ A.in1 (Builtin.List.listTouch (.ref s.heap.objs.size) >>= λ_=>again (.builtin "list.extend.loop" ⟨[.ref s.heap.objs.size,.ref (s.heap.push {cls:=.type "list",data:=.seq ([]:Ψ).toArray}).objs.size,.ref s.heap.objs.size],[]⟩)) _ _ {s with heap:=h2};rw[hsz] at TZ ⊢;have hS2:h2.get? s.heap.objs.size=some (PyProof.Rows.seqObj "list" #[] 0):=z6;have hS3:=PyProof.Rows.get?_update_seq hS2 (·.push .none);have hS4:=PyProof.Rows.get?_update_seq hS3 (·.pop);have ne1:d≠s.heap.objs.size:=j7 gq;have kp:∀b,b≠s.heap.objs.size->∀o,h2.get? b=some o->((h2.update s.heap.objs.size (Obj.mapSeq (·.push .none))).update s.heap.objs.size (Obj.mapSeq (·.pop))).get? b=some o:=λb hb o e=>by rw[Heap.get?_update_ne _ _ _ _ hb,Heap.get?_update_ne _ _ _ _ hb];exact e
 refine δ ?_;unfold Builtin.List.listTouch;refine δ (PyProof.Rows.listUpdate_at z6 rfl ?_);refine PyProof.Rows.listUpdate_at hS3 rfl ?_;have W:=(Walks.dictKeys (A:=A.in1) (prog:=prog) (w:=w) (knd:=knd) hh (s.heap.objs.size+1) d (j7 (Lb gq)) aQ ep).toS;refine η ⟨plainId_quiet F.plain_extend_loop _,codeAny_extend_loopS W hn s.heap.objs.size ?_ _ aQ.length 0 _ #[] _ rfl (hY _) ?_ hS4 (ItemsOf.nil _) λs' G7 c' hmv uj AG=>?_⟩;intro z;rcases c0.mp z with z|z
 exact absurd z (j7 (Cc _));exact ne1 (hX.mp z).symm;exact⟨TZ.at λo e=>kp _ (Lg (Cc _)) o e,V3.at' λo e=>kp d ne1 o e⟩;show wpAny _ A (load s.heap.objs.size >>= _) _ _ s';refine δ (wpAny_load uj ?_);refine η ?_;have e:s'={s with heap:=s'.heap,toks:=s'.toks}:=by have h1:s'.gens=s.gens:=hmv.gens;have h2:s'.drawn=s.drawn:=hmv.drawn;have h3:s'.os=s.os:=hmv.os;cases s';simp only at h1 h2 h3;subst h1 h2 h3;rfl
 rw[e];refine hQ s'.heap s'.toks G7 (λb o eb=>?_) (iw uj) AG;have hb:b<s.heap.objs.size:=iw eb;refine hmv.heap b o (λz=>?_) (kp b (j7 hb) o (hold b o eb));rcases c0.mp z with z|z
 exact absurd z (j7 hb);exact absurd (hX.mp z) (j7 (Lb hb))
end
end PySem
namespace VT
open PySem PySem.Spec PyProof.Rows L2
def NN{l₁:List (Key×V)}{l₂:List (Key×Value)}(h:KV l₁ l₂):l₂.map (·.1)=l₁.map (·.1):=by
 unfold KV at h;induction h with
 |nil=>rfl
 |cons r t ih=>rw[gU,gU,ih,r.1]
end VT
namespace V4
open PySem L2 VT Gen nU Nm
noncomputable def jP:Rw->ο
 |.give a=>[iF a]
 |.lq a=>[iF a]
 |.gk a=>[iF a]
 |.put _ a=>[iF a]
 |.lW _ a _ b=>[iF a,iF b]
 |.get _ r k=>[.str r,z9 k]
 |.set r k a=>[.str r,z9 k,iF a]
 |.call _ _ as=>as.map iF
 |_=>[]
noncomputable abbrev lJ:Stmt:=top 9
noncomputable def Y1:List (Str×T):=[("give",.tup [.int 1]),("put",.tup [.int 2]),("do",.tup [.int 2,.int 4]),("get",.tup [.int 2,.int 3]),("set",.tup [.int 1,.int 2,.int 3]),("if",.tup [.int 1]),("while",.tup [.int 1])]
structure MgU(w:World)(K:Γ)(mg:qae):Prop where
 list:mg "list"=none
 US:∃a,mg "USED_PLACES"=some (.ref a)/\qT w K a Y1
noncomputable def Dk:Rw->ο
 |.call _ _ as=>as.map iF
 |r=>(jP r).filter λt=>!lF t
def Dl(ts:ο)(q:qam):Prop:=∃r:Rw,ts=[aP r]/\(∀t∈jP r,yY t)/\q (.fr (.lst (Dk r)))
section
noncomputable abbrev lK:ν:=["row","parts"]
def o8:az lK ["row"] (ai lJ):=L2.fD
def rB:(lK++(["place"]:ν)).Nodup:=by decide +kernel
def rC:(lK++(["part"]:ν)).Nodup:=by decide +kernel
def y0(D:Df K mg "operands" lJ ["row"] f fd)(M:MgU w K mg)(lL:bV P w K mg base "is_field" qax 2 (cK K 1 A6)):bV P w K mg base "operands" ["row"] 3 (cK K 1 Dl):=by
 refine D.fU (jD D.F o8 rfl λbF A outer s H E Ox hr ts q hG=>?_);have nd:=o8.nd;have hu:=bG.fm hr;have np:∀{i:Nat},bN ⟨H,[],Ox⟩ i:=kP;obtain⟨aU,tE,rD⟩:=M.US;refine⟨_,(ah (bA (bQ hu (θ (aI (ae 0) (θ ag))) (θ aC))
    (ar (aE (Δ (gi iP kY (by rfl) M.list AZ (aJ (θ (aI (ae 0) (θ ag))) aX)))))
    aM)
   (ah (pS (i:=1) (ts:=["place"]) nd rfl (.inl rfl) rfl (by rfl) (eW (ς (HX (by rfl) tE rD (θ (aI (ae 0) (θ ag))) (ς (bH ak)) ⟨rfl,rfl,rfl,rfl⟩))) (λ_ _ _ _ _ _=>(br (i:=2) rB rfl (.inl rfl) np (.inr rfl))) (λ_ _ _ _ _ _=>gf) (λ_ _ _ _ _ _=>(ς (aI (ae 0) (ae 2)))) np)
   (ar (aE (Δ (iW (ts:=["part"]) rfl (by rfl) (eW (aj 1)) (λ_ _ _ _ _ _=>(br (i:=2) rC rfl (.inl rfl) np (.inr rfl))) (λ_ _ _ _ _ _=>(CG (n_ (h_ (aK lL hr (aa (aj 2) ak)))))) (λ_ _ _ _ _ _=>(aj 2)))))))),λ_=>?_⟩
 obtain⟨r,rfl,hl,hq⟩:=hG;have fin:∀(ps:ο),(∀t∈ps,yY t)->q (.fr (.lst (ps.filter λt=>!lF t)))->c6 (hName 2) (Xq (nZ (AU 1 (gu (nX 2) vg) A6))) (nX 2) [some (aP r,false),some (.lst ps,false),none] ps λus=>q (.fr (.lst us)):=λps Y2 hq=>by refine oh (λt=>!lF t) (λt=>t) (λt ht k r h=>?_) (by rw[List.map_id'];exact hq);refine⟨rfl,t,rfl,Y2 t ht,?_⟩;exact h
 cases r with
 |call x f as=>exact⟨_,aat,_,aaw,hq⟩
 |give a=>refine⟨_,aat,rfl,_,aat,hY _,?_⟩;show ([T.int 1]:ο).length<=sizeLine/\c6 _ _ _ _ [T.int 1] _;exact⟨Gen.eR rfl,_,aau,rfl,Gen.eR rfl,fin _ hl hq⟩
 |lq a=>refine⟨_,aat,rfl,_,aat,hY _,?_⟩;show ([T.int 1]:ο).length<=sizeLine/\c6 _ _ _ _ [T.int 1] _;exact⟨Gen.eR rfl,_,aau,rfl,Gen.eR rfl,fin _ hl hq⟩
 |gk a=>refine⟨_,aat,rfl,_,aat,hY _,?_⟩;show ([T.int 1]:ο).length<=sizeLine/\c6 _ _ _ _ [T.int 1] _;exact⟨Gen.eR rfl,_,aau,rfl,Gen.eR rfl,fin _ hl hq⟩
 |put x a=>refine⟨_,aat,rfl,_,aat,hY _,?_⟩;show ([T.int 2]:ο).length<=sizeLine/\c6 _ _ _ _ [T.int 2] _;exact⟨Gen.eR rfl,_,aav,rfl,Gen.eR rfl,fin _ hl hq⟩
 |lW x a op b=>refine⟨_,aat,rfl,_,aat,hY _,?_⟩;show ([T.int 2,T.int 4]:ο).length<=sizeLine/\c6 _ _ _ _ [T.int 2,T.int 4] _;exact⟨Gen.eR rfl,_,aav,_,aax,rfl,Gen.eR rfl,fin _ hl hq⟩
 |get x y k=>refine⟨_,aat,rfl,_,aat,hY _,?_⟩;show ([T.int 2,T.int 3]:ο).length<=sizeLine/\c6 _ _ _ _ [T.int 2,T.int 3] _;exact⟨Gen.eR rfl,_,aav,_,aaw,rfl,Gen.eR rfl,fin _ hl hq⟩
 |set y k a=>refine⟨_,aat,rfl,_,aat,hY _,?_⟩;show ([T.int 1,T.int 2,T.int 3]:ο).length<=sizeLine/\c6 _ _ _ _ [T.int 1,T.int 2,T.int 3] _;exact⟨Gen.eR rfl,_,aau,_,aav,_,aaw,rfl,Gen.eR rfl,fin _ hl hq⟩
 |_=>refine⟨_,aat,rfl,_,aat,hY _,?_⟩;show ([]:ο).length<=sizeLine/\c6 _ _ _ _ [] _;exact⟨hY _,rfl,hY _,fin _ hl hq⟩
end
end V4
namespace Lay
open PySem L2 VT Gen K5
noncomputable def top(i:Nat):Stmt:=PySem.Challenge.pw_slicewise_k83_inputs_that_do_a_row.main.body.getD i (.Pass ⟨0,0,0,0⟩)
noncomputable abbrev i5:Stmt:=top 13
structure MgF(mg:qae):Prop where
 enumerate:mg "enumerate"=none
def Jl(ts:ο)(q:qam):Prop:=∃rs:S1,ts=[.lst (rs.map aP)]/\rs.length<=100/\q (.fr (V1 (bu rs rs.length)))
section
noncomputable abbrev vV:ν:=["program","firsts","place","row"]
def kR:az vV qay (ai i5):=L2.fD
def tF(D:Df K mg "first_defs" i5 qay f fd)(M:MgF mg):bV P w K mg base "first_defs" qay 1 (cK K 1 Jl):=by
 refine D.fU (jD D.F kR rfl λbF A outer s H E Ox hr ts q hG=>?_);have nd:=kR.nd;have hu:=bG.fm hr;have np:∀{i:Nat},bN ⟨H,[],Ox⟩ i:=kP;refine⟨_,(ah (d9 (i:=1) nd rfl (.inl rfl) (Δ CU) np)
  (ah (dG xl rfl (vB (by rfl) M.enumerate (aj 0)) (qz (n:=2) rfl (eC (br (i:=2) nd rfl (.inl rfl) np) (eC (br (i:=3) nd rfl (.inl rfl) np) mq)))
   (ar (bA (bQ hu (θ (aI (ae 3) (θ ag))) (θ aC))
    (ar (bP (MV 1 (ς (aI (ae 3) (θ ag))) (aj 2))))
    aM)))
  (ar (aE (kc 1 np))))),λ_=>?_⟩
 obtain⟨rs,rfl,hn,hq⟩:=hG;refine uq (λi ρ=>∃b2 b3,ρ=[some (.lst (rs.map aP),false),some (V1 (bu rs i),true),b2,b3]) ⟨_,_,rfl⟩ ?_ ?_;rintro i r ρ hr ⟨b2,b3,rfl⟩;have hi:=(eE.mp hr).1;have hlen:((bu rs i).map λp=>T.int (p.2:Int)).length<16777216:=by rw[cu];have:=rm rs i;omega
 have es:bu rs (i+1)=Lq (bu rs i) i r:=by simp only[bu,hr]
 cases r with
 |df g ps=>
  refine⟨rfl,rfl,_,aat,?_⟩;refine⟨_,aau,hlen,?_⟩;rw[es];simp only[Lq];rw[IW];cases ha:xp (bu rs i) g with
  |some j=>exact⟨_,_,rfl⟩
  |none=>
   show ∃b2 b3,_=[_,some (V1 (bu rs i++[(g,i)]),true),b2,b3];have ef:V1 (bu rs i++[(g,i)])=.dk (((bu rs i).map λp=>(Sum.inr p.1:Key))++[Sum.inr g]) (((bu rs i).map λp=>T.int (p.2:Int))++[T.int (i:Int)]):=by simp only[V1,nG,gU,Pe]
   rw[ef];exact⟨_,_,rfl⟩
 |_=>refine⟨rfl,rfl,_,aat,?_⟩;rw[es];exact⟨_,_,rfl⟩
 rintro ρ ⟨b2,b3,rfl⟩;exact hq
end
end Lay
namespace Y3
open PySem L2 VT Gen K5
noncomputable def top(i:Nat):Stmt:=PySem.Challenge.pw_slicewise_k83_inputs_that_do_a_row.main.body.getD i (.Pass ⟨0,0,0,0⟩)
noncomputable abbrev m7:Stmt:=top 14
structure Mg5(K:Γ)(mg:qae):Prop where
 len:mg "len"=none
 range:mg "range"=none
 enumerate:mg "enumerate"=none
 isinstance:mg "isinstance"=none
 int:mg "int"=none
 bool:mg "bool"=none
 tuple:mg "tuple"=none
 list:mg "list"=none
 zip:mg "zip"=none
 CL:∃a,mg "CLOSERS"=some (.ref a)/\∀H,fB K H a [.str "give",.str "end"]
 OP:∃a,mg "OPENERS"=some (.ref a)/\∀H,fB K H a [.str "def",.str "if",.str "while"]
def Jm(ts:ο)(q:ο->Prop):Prop:=∃rs:S1,ts=[.lst (rs.map aP)]/\VZ rs/\rs.length<=100/\q (IU rs)
def jr{l:ο}{t:T}(h:l.getLast?=some t):jg l (-1)=some t:=by
 have hl:0<l.length:=by cases l<;>simp_all
 rw[xv] at h;unfold jg xG;rw[ζ (by decide),ε (by omega)];have e:(-1+(l.length:Int)).toNat=l.length-1:=by omega
 rw[e];exact h
theorem Jn(kd:Nat->Kd):∀k,(st kd k).length<=k
 |0=>c9 _
 |k+1=>by have:=Jn kd k;simp only[st];split<;>split<;>simp<;>omega
def NO(n:Nat)(t:T):(List.replicate n [t]).flatten=List.replicate n t:=by
 induction n with
 |zero=>rfl
 |succ n ih=>rw[zX,QV,ih];rfl
noncomputable def Jo(rs:S1)(h e l o s:ο)(k:Nat)(r:Rw):En:=[some (.lst (rs.map aP),false),some (.lst h,true),some (.lst e,true),some (.lst l,true),some (.lst o,true),some (.lst s,true),some (.int (k:Int),false),some (aP r,false)]
noncomputable def vW(rs:S1)(k:Nat):ο:=(st (bK rs) k).map λ(j:Nat)=>T.int (j:Int)
def Y4(rs:S1)(k:Nat)(ρ:En):Prop:=∃b6 b7 h e l o s,ρ=[some (.lst (rs.map aP),false),some (.lst h,true),some (.lst e,true),some (.lst l,true),some (.lst o,true),some (.lst s,true),b6,b7]/\h=tab (mZ (bK rs)) rs.length k/\e=jl (endsAt (bK rs) rs.length) rs.length k/\l=xq (bK rs) rs.length k/\o=tab (z_ (bK rs)) rs.length k/\s=vW rs k
noncomputable def Fj(rs:S1)(M:Nat->Rw->ο->ο->ο->ο->ο->Prop):FS:=λd ρ=>∃k r h e l o s,rs[k]?=some r/\ρ=Jo rs h e l o s k r/\h=tab (mZ (bK rs)) rs.length (k+1)/\M k r h e l o s/\∀ρ',Y4 rs (k+1) ρ'->d.nx ρ'
def M1(rs:S1)(k:Nat)(r:Rw)(h e l o s:ο):Prop:=e=jl (endsAt (bK rs) rs.length) rs.length k/\l=xq (bK rs) rs.length k/\s=vW rs k/\o.length=rs.length/\((bt r).df=true->o.set k (.int (k:Int))=tab (z_ (bK rs)) rs.length (k+1))/\((bt r).df=false->o=tab (z_ (bK rs)) rs.length (k+1))
def M2(rs:S1)(k:Nat)(r:Rw)(h e l o s:ο):Prop:=e=jl (endsAt (bK rs) rs.length) rs.length k/\l=xq (bK rs) rs.length k/\s=vW rs k/\o=tab (z_ (bK rs)) rs.length (k+1)
def M3(rs:S1)(k:Nat)(r:Rw)(h e l o s:ο):Prop:=e=jl (endsAt (bK rs) rs.length) rs.length k/\l=xq (bK rs) rs.length (k+1)/\s=vW rs k/\o=tab (z_ (bK rs)) rs.length (k+1)
def M4(rs:S1)(k:Nat)(r:Rw)(h e l o s:ο):Prop:=e=jl (endsAt (bK rs) rs.length) rs.length (k+1)/\l=xq (bK rs) rs.length (k+1)/\o=tab (z_ (bK rs)) rs.length (k+1)/\s=(if (bt r).cl=true then (vW rs k).dropLast else vW rs k)
def rE{k:Nat}(h:k<n):xG n (k:Int)=some k:=by unfold xG;rw[ε (by omega),ε (by omega),zY]
def vX{k:Nat}(h:st (bK rs) k≠[]):∃j,(st (bK rs) k).getLast?=some j/\jg (vW rs k) (-1)=some (.int (j:Int)):=by obtain⟨j,hj⟩:∃j,(st (bK rs) k).getLast?=some j:=⟨_,List.getLast?_eq_some_getLast h⟩;exact⟨j,hj,jr (by unfold vW;rw[List.getLast?_map,hj];rfl)⟩
section
noncomputable abbrev vY:ν:=["program","heads","ends","elses","homes","opened","place","row"]
def y3:az vY qay (ai m7):=L2.fD
def Jp(D:Df K mg "shape" m7 qay f fd)(M:Mg5 K mg):bV P w K mg base "shape" qay 1 (X_ K 1 Jm):=by
 refine D.fU (fnD D.F y3 rfl (by decide) λbF A outer s H E Ox hr ts q hG=>?_);have nd:=y3.nd;have hu:=bG.fm hr;have np:∀{i:Nat},bN ⟨H,[],Ox⟩ i:=kP;obtain⟨ac,mc,hac⟩:=M.CL;obtain⟨ao,mo,hao⟩:=M.OP;have Fl:∀{pos},VP (fN eQ P w K mg base vY "shape" (ai m7) f bF A outer s H E).pA ⟨H,[],Ox⟩ (.Name "CLOSERS" pos) (fC (.tup [.str "give",.str "end"])):=iS (by rfl) mc (v:=.ref ac) rfl λH A=>cP (hac H) (aA.cons dZ (aA.cons dZ aA.nil));have Fm:∀{pos},VP (fN eQ P w K mg base vY "shape" (ai m7) f bF A outer s H E).pA ⟨H,[],Ox⟩ (.Name "OPENERS" pos) (fC (.tup [.str "def",.str "if",.str "while"])):=iS (by rfl) mo (v:=.ref ao) rfl λH A=>cP (hao H) (aA.cons dZ (aA.cons dZ (aA.cons dZ aA.nil)));obtain⟨rs,rfl,W,hn,hq⟩:=hG;refine⟨_,(iD (d9 (i:=1) nd rfl (.inl rfl) (Δ (qO (cY (aa (ς cX) ak)) (θ (aY aZ a_ (by rfl) M.len lZ (aJ (ae 0) aX))))) np)
  (iD (d9 (i:=2) nd rfl (.inl rfl) (Δ (qO (cY (aa (ς cX) ak)) (θ (aY aZ a_ (by rfl) M.len lZ (aJ (ae 0) aX))))) np)
  (iD (d9 (i:=3) nd rfl (.inl rfl) (Δ (qO (cY (aa (ς cX) ak)) (θ (aY aZ a_ (by rfl) M.len lZ (aJ (ae 0) aX))))) np)
  (iD (d9 (i:=4) nd rfl (.inl rfl) (Δ (qO (cY (aa (ς cX) ak)) (θ (aY aZ a_ (by rfl) M.len lZ (aJ (ae 0) aX))))) np)
  (iD (d9 (i:=5) nd rfl (.inl rfl) (Δ (cY ak)) np)
  (iD (dG xl rfl (vB (by rfl) M.enumerate (aj 0)) (qz (n:=2) rfl (eC (br (i:=6) nd rfl (.inl rfl) np) (eC (br (i:=7) nd rfl (.inl rfl) np) mq)))
   (ah (bA (Hi (θ (aY aZ a_ (by rfl) M.len lZ (aJ (ae 5) aX))) (θ ag))
    (ah (k5 1 (ς (aI (ae 5) (θ (iV (θ ag))))) (ae 6))
    (ar (k5 4 (ς (aI (ae 5) (θ ag))) (ae 6))))
    aM)
   (j'.weak (u:=(Fj rs (M1 rs))) (ah (bA (bQ hu (θ (aI (ae 7) (θ ag))) (θ aC))
    (ar (k5 4 (aj 6) (ae 6)))
    aM)
   (j'.weak (u:=(Fj rs (M2 rs))) (ah (bA (bQ hu (θ (aI (ae 7) (θ ag))) (θ aC))
    (ar (k5 3 (aj 6) (θ (aI (ae 5) (θ (iV (θ ag)))))))
    aM)
   (j'.weak (u:=(Fj rs (M3 rs))) (ah (bA (qM (θ (aI (ae 7) (θ ag))) (θ Fl))
    (ah (k5 2 (aj 6) (θ (aI (ae 5) (θ (iV (θ ag))))))
    (ar (bP (Hl 5 PySem.F.slot_list_pop PySem.F.type_list_pop AF CD))))
    aM)
   (j'.weak (u:=(Fj rs (M4 rs))) (ar (bA (qM (θ (aI (ae 7) (θ ag))) (θ Fm))
    (ar (bP (eB 5 qe qf bq bp (aa (aj 6) ak))))
    aM)) ?w4)) ?w3)) ?w2)) ?w1)))
  (MX (is:=[1,2,3,4]) rfl ⟨_,_,1,_,rfl,rfl,rfl,Or.inl rfl,by decide,by decide,rfl,⟨_,_,2,_,rfl,rfl,rfl,Or.inl rfl,by decide,by decide,rfl,⟨_,_,3,_,rfl,rfl,rfl,Or.inl rfl,by decide,by decide,rfl,⟨_,_,4,_,rfl,rfl,rfl,Or.inl rfl,by decide,by decide,rfl,rfl⟩⟩⟩⟩ (by decide) (by decide)))))))),λ_=>?main⟩
 case w4=>
  rintro d ρ ⟨k,r,h,e,l,o,s,cT,rfl,rfl,⟨rfl,rfl,rfl,rfl⟩,fin⟩;have A_:k<rs.length:=(eE.mp cT).1;have o6:=fG cT;obtain⟨rl,er⟩:=iG r;unfold Jo;rw[er];refine⟨_,aat,rfl,rfl,?_⟩;refine vd (λh1=>?_) (λh1=>?_);have ho:(bt r).op=true:=by rw[<- YQ];exact h1
  have hc:(bt r).cl=false:=by have:=W.ex k A_ (by rw[o6];exact ho);rw[o6] at this;exact this
  rw[hc,ζ iM];refine⟨?_,fin _ ⟨_,_,_,_,_,_,_,rfl,rfl,rfl,rfl,rfl,?_⟩⟩;have:=Jn (bK rs) k;unfold vW;rw[cu,ξ];omega;unfold vW;rw[mU (by rw[o6];exact ho) (by rw[o6];exact hc),nG];rfl;have ho:(bt r).op=false:=by
   cases q:(bt r).op with
   |false=>rfl
   |true=>exact (h1 ((YQ r).trans q)).elim
  refine fin _ ⟨_,_,_,_,_,_,_,rfl,rfl,rfl,rfl,rfl,?_⟩;unfold vW;by_cases hc:(bt r).cl=true;rw[ε hc,mV (by rw[o6];exact hc) (by rw[o6];exact ho),List.map_dropLast];rw[ζ hc,rj (by rw[o6];cases q:(bt r).cl<;>simp_all) (by rw[o6];exact ho)]
 case w3=>
  rintro d ρ ⟨k,r,h,e,l,o,s,cT,rfl,rfl,⟨rfl,rfl,rfl,rfl⟩,fin⟩;have A_:k<rs.length:=(eE.mp cT).1;have o6:=fG cT;obtain⟨rl,er⟩:=iG r;unfold Jo;rw[er];refine⟨_,aat,rfl,rfl,?_⟩;refine vd (λh1=>?_) (λh1=>?_);have hc:(bt r).cl=true:=by rw[<- YO];exact h1
  have sN:(bK rs k).cl=true:=by rw[o6];exact hc
  obtain⟨j,hj,ej⟩:=vX (W.cl k A_ sN);obtain⟨te,hjk⟩:=Ny W A_ sN hj;refine⟨_,ej,j,by rw[yM];exact rE (by omega),rfl,.int (j:Int),?_,k,r,_,_,_,_,_,cT,by rw[<- er];rfl,rfl,⟨?_,rfl,rfl,by rw[ε hc]⟩,fin⟩;unfold vW;rw[cu,iz,<- xv,hj];rfl;refine IT te λi hi he=>?_;have:=(vP W A_ he hi).2;rw[hj] at this;exact (Option.some.inj this).symm;have hc:(bt r).cl=false:=by
   cases q:(bt r).cl with
   |false=>rfl
   |true=>exact (h1 ((YO r).trans q)).elim
  refine⟨k,r,_,_,_,_,_,cT,by rw[<- er];rfl,rfl,⟨E9 λi hi he=>?_,rfl,rfl,by rw[hc,ζ iM]⟩,fin⟩;have:=(vP W A_ he hi).1;rw[o6,hc] at this;cases this
 case w2=>
  rintro d ρ ⟨k,r,h,e,l,o,s,cT,rfl,rfl,⟨rfl,rfl,rfl,rfl⟩,fin⟩;have A_:k<rs.length:=(eE.mp cT).1;have o6:=fG cT;obtain⟨rl,er⟩:=iG r;unfold Jo;rw[er];refine⟨_,aat,?_⟩;refine vd (λh1=>?_) (λh1=>?_);have hc:(bt r).el=true:=by rw[<- YN];exact h1
  have sN:(bK rs k).el=true:=by rw[o6];exact hc
  obtain⟨j,hj,ej⟩:=vX (W.el k A_ sN);have SU:j<k:=(km k).2 j (List.mem_of_getLast? hj);refine⟨_,ej,j,by rw[qb];exact rE (by omega),k,r,_,_,_,_,_,cT,by rw[<- er];rfl,rfl,⟨rfl,?_,rfl,rfl⟩,fin⟩;simp only[xq,mZ,sN,hj];have hc:(bt r).el=false:=by
   cases q:(bt r).el with
   |false=>rfl
   |true=>exact (h1 ((YN r).trans q)).elim
  refine⟨k,r,_,_,_,_,_,cT,by rw[<- er];rfl,rfl,⟨rfl,?_,rfl,rfl⟩,fin⟩;simp only[xq,o6,hc]
 case w1=>
  rintro d ρ ⟨k,r,h,e,l,o,s,cT,rfl,rfl,⟨rfl,rfl,rfl,ol,o1,o2⟩,fin⟩;have A_:k<rs.length:=(eE.mp cT).1;obtain⟨rl,er⟩:=iG r;unfold Jo;rw[er];refine⟨_,aat,?_⟩;refine vd (λh1=>?_) (λh1=>?_);exact⟨k,by rw[ol];exact rE A_,k,r,_,_,_,_,_,cT,by rw[<- er];rfl,rfl,⟨rfl,rfl,rfl,o1 (by rw[<- YM];exact h1)⟩,fin⟩;have hc:(bt r).df=false:=by
   cases q:(bt r).df with
   |false=>rfl
   |true=>exact (h1 ((YM r).trans q)).elim
  exact⟨k,r,_,_,_,_,_,cT,by rw[<- er];rfl,rfl,⟨rfl,rfl,rfl,o2 hc⟩,fin⟩
 case main=>
  have hlen:((rs.map aP).length:Int)=(rs.length:Int):=by rw[cu]
  have adY:(List.replicate ((rs.map aP).length:Int).toNat [T.aO]).flatten=List.replicate rs.length T.aO:=by rw[hlen,zY];exact NO _ _
  have hb1 : -(2 ^ 63)<=((rs.map aP).length:Int):=by omega
  have VJ:((rs.map aP).length:Int)<2 ^ 63:=by omega
  have hb3:[T.aO].length * ((rs.map aP).length:Int).toNat<=sizeLine:=by rw[hlen,zY,ξ];simp;omega
  refine⟨Gen.eR rfl,hb1,VJ,hb3,Gen.eR rfl,hb1,VJ,hb3,Gen.eR rfl,hb1,VJ,hb3,Gen.eR rfl,hb1,VJ,hb3,Gen.eR rfl,?_⟩;show oZ (dX (rs.map aP)) _ _ _ [some (.lst (rs.map aP),false),some (.lst (List.replicate ((rs.map aP).length:Int).toNat [T.aO]).flatten,true),some (.lst (List.replicate ((rs.map aP).length:Int).toNat [T.aO]).flatten,true),some (.lst (List.replicate ((rs.map aP).length:Int).toNat [T.aO]).flatten,true),some (.lst (List.replicate ((rs.map aP).length:Int).toNat [T.aO]).flatten,true),some (.lst [],true),none,none];rw[IV,adY];refine mB (Y4 rs)
   ⟨_,_,_,_,_,_,_,rfl,(yN _ _).symm,(E8 _ _).symm,rfl,(yN _ _).symm,rfl⟩ ?_ ?_
  . rintro k ⟨r,k'⟩ ρ hk ⟨b6,b7,_,_,_,_,_,rfl,rfl,rfl,rfl,rfl,rfl⟩;rw[List.getElem?_zipIdx] at hk;cases cT:rs[k]? with
    |none=>rw[cT] at hk;cases hk
    |some r'=>
    rw[cT] at hk;simp at hk;obtain⟨rfl,rfl⟩:=hk;have A_:k<rs.length:=(eE.mp cT).1;obtain⟨rl,er⟩:=iG r';refine⟨rfl,rfl,?_⟩;show Xy _ _ _ [some (.lst (rs.map aP),false),some (.lst (tab (mZ (bK rs)) rs.length k),true),some (.lst (jl (endsAt (bK rs) rs.length) rs.length k),true),some (.lst (xq (bK rs) rs.length k),true),some (.lst (tab (z_ (bK rs)) rs.length k),true),some (.lst (vW rs k),true),some (.int (k:Int),false),some (aP r',false)];rw[er];have o6:=fG cT;refine cN (λh1=>?_) (λh1=>?_);have gc:st (bK rs) k≠[]:=λz=>by have Ht:((vW rs k).length:Int) > 0:=h1;unfold vW at Ht;rw[z] at Ht;simp at Ht
    obtain⟨j,hj,ej⟩:=vX gc;obtain⟨j0,hj0⟩:∃j0,(st (bK rs) k).head?=some j0:=⟨_,List.head?_eq_some_head gc⟩;have ej0:jg (vW rs k) 0=some (.int (j0:Int)):=aw (j:=0) (by unfold vW;rw[iz,<- List.head?_eq_getElem?,hj0];rfl);refine⟨_,ej,k,by rw[mY];exact rE A_,_,ej0,k,by rw[mY];exact rE A_,k,r',_,_,_,_,_,cT,by rw[<- er];rfl,?_,⟨rfl,rfl,rfl,by rw[QY,mY],λhd=>?_,λhd=>?_⟩,λρ' h=>h⟩;have e1:T.int (j:Int)=oT (mZ (bK rs) k):=by unfold mZ;rw[hj];rfl
    rw[e1];exact qa;rw[List.set_set];have e1:T.int (k:Int)=oT (z_ (bK rs) k):=by unfold z_;rw[o6,ε hd];rfl
    rw[e1];exact qa;have e1:T.int (j0:Int)=oT (z_ (bK rs) k):=by unfold z_;rw[o6,hd,ζ iM,hj0];rfl
    rw[e1];exact qa;have gc:st (bK rs) k=[]:=by
     cases q:st (bK rs) k with
     |nil=>rfl
     |cons a b=>exfalso;refine h1 ?_;show ((vW rs k).length:Int) > 0;unfold vW;rw[q];simp
    refine⟨k,r',_,_,_,_,_,cT,by rw[<- er];rfl,yO (by unfold mZ;rw[gc];rfl),⟨rfl,rfl,rfl,by rw[mY],λhd=>?_,λhd=>?_⟩,λρ' h=>h⟩;have e1:T.int (k:Int)=oT (z_ (bK rs) k):=by unfold z_;rw[o6,ε hd];rfl
    rw[e1];exact qa;exact yO (by unfold z_;rw[o6,hd,ζ iM,gc];rfl)
  rintro ρ ⟨b6,b7,_,_,_,_,_,rfl,rfl,rfl,rfl,rfl,rfl⟩;rw[List.length_zipIdx,yP,yP,E_];exact hq;intro j m hj he;unfold endsAt at he;split at he
  rename_i ho
  obtain⟨e,h1,h2,h3,_⟩:=end_is W hj ho;rw[h1] at he;cases he;exact h3;cases he
end
end Y3
namespace Lay
open PySem L2 VT Gen K5
noncomputable abbrev jQ:Stmt:=inClass (top 16) 0
structure Y5(mg:qae):Prop where
 len:mg "len"=none
 min:mg "min"=none
structure NP(K:Γ)(C:Addr):Prop where
 cl:An K C
 dU:bD K C "program"
 Dm:bD K C "heads"
 vZ:bD K C "ends"
 v5:bD K C "elses"
 NQ:bD K C "homes"
 v7:bD K C "defs"
 Jq:bD K C "main"
def m8(C:Addr)(ts:ο)(q:T->Prop):Prop:=∃rs:S1,ts=[.lst (rs.map aP)]/\VZ rs/\rs.length<=100/\q (cj C rs)
section
variable{cLayout:Addr}
noncomputable abbrev Jr:ν:=["self","program","parts"]
def uC:az Jr qaz (ai jQ):=L2.fD
def Fp(D:Dc K mg "Layout" "Layout.__init__" jQ qaz cLayout f fd)(M:Y5 mg)(M1:NP K cLayout)(NR:bV P w K mg base "shape" qay 1 (X_ K 1 Y3.Jm))(v8:bV P w K mg base "first_defs" qay 1 (cK K 1 Jl)):HY P w K mg base "Layout" cLayout qaz 2 1 (m8 cLayout):=by
 obtain⟨acw,Y6,NS,NT,NU,NV⟩:=NR;refine D.fU (fnI D.F uC rfl λbF A outer s H E as Ox hr us q hl hG=>?_);have nd:=uC.nd;have ax:=M1;refine⟨_,(ah (bc (i:=2) nd rfl (.inl rfl) (Δ (VD.vp (MY NV (hr.mono (by decide)) (by rfl) NS NT NU (aa (aj 1) ak)))) (CO (by decide)))
  (ah (iY 0 ax.cl ax.dU (aj 1))
  (ah (iY 0 ax.cl ax.Dm (ς (aI (ae 2) (θ ag))))
  (ah (iY 0 ax.cl ax.vZ (ς (aI (ae 2) (θ ag))))
  (ah (iY 0 ax.cl ax.v5 (ς (aI (ae 2) (θ ag))))
  (ah (iY 0 ax.cl ax.NQ (ς (aI (ae 2) (θ ag))))
  (ah (iY 0 ax.cl ax.v7 (ς (aK v8 hr (aa (aj 1) ak))))
  (ar (iY 0 ax.cl ax.Jq (ς (jx (Hi (θ (aY ED A4 (by rfl) M.len lZ (aJ (θ (bf ax.cl ax.v7 (ae 0))) aX))) (θ ag)) (A7 rfl (by rfl) M.min (θ (bf ax.cl ax.v7 (ae 0)))) cX))))))))))),?_⟩
 obtain⟨rs,rfl,W,hn,hq⟩:=hG;refine⟨rfl,rs,rfl,W,hn,?_⟩;rw[IY];refine⟨rfl,by show 0<1000;decide,?_⟩;refine⟨rfl,_,aat,by show 1<1000;decide,?_⟩;refine⟨rfl,_,aau,by show 2<1000;decide,?_⟩;refine⟨rfl,_,aav,by show 3<1000;decide,?_⟩;refine⟨rfl,_,aaw,by show 4<1000;decide,?_⟩;refine⟨rfl,rfl,rs,rfl,hn,by show 5<1000;decide,?_⟩;refine⟨rfl,?_⟩;refine⟨rfl,_,rfl,?_⟩;refine cN (λh=>?_) (λh=>?_);refine⟨rfl,_,rfl,(bu rs rs.length).map (λp=>(p.2:Int)),?_,?_,λm h1 h2=>?_⟩;rw[Lh];rfl;intro z;rw[List.map_eq_nil_iff] at z;rw[z] at h;exact absurd h (by decide);refine⟨by show 6<1000;decide,?_⟩;have e:=IX h1 h2;show q [_] _;rw[e];exact hq;refine⟨by show 6<1000;decide,?_⟩;have z:bu rs rs.length=[]:=by
  cases e:bu rs rs.length with
  |nil=>rfl
  |cons a b=>exfalso;apply h;rw[e];simp
 have e:g_ rs=none:=by
  cases e:g_ rs with
  |none=>rfl
  |some i=>obtain⟨⟨g,ps,hi⟩,hm⟩:=oC e;obtain⟨l,hl⟩:=jM hi hm rs.length (eE.mp hi).1;rw[z] at hl;cases hl
 have e2:T.aO=oT (g_ rs):=by rw[e];rfl
 unfold cj at hq;rw[<- e2] at hq;exact hq
end
end Lay
namespace PySem
namespace SetTable
end SetTable
end PySem
namespace PySem
section
variable{K:Type}[DecidableEq K](knd:KeyKind prog w K)
variable{knd}
variable{s:Shared}
end
end PySem
namespace VT
open PySem PySem.Spec PyProof.Rows
section
variable{R:Result->Shared->Prop}{I:Addr}{wr:υ}{G:Array GenState->Array GenState->Prop}{P:Nat->Value->Prop}{St:Nat->Shared->Prop}
variable{K:Type}[DecidableEq K]{knd:PySem.KeyKind prog w K}
end
section
variable{s:Shared}
variable{K:Type}[DecidableEq K]{knd:PySem.KeyKind prog w K}
end
end VT
namespace PySem
open Sem (wp)
namespace F
end F
section
variable{s:Shared}
variable{o:Obj}{es:Array (Int×Value)}{ep:Nat}{t:SetTable}
end
end PySem
namespace PySem
open Sem (wp)
section
variable{s:Shared}
variable{it:Addr}{o:Obj}{es:Array (Int×Value)}{ep:Nat}{t:SetTable}{slot:Nat}{ord:List (Int×Value)}
end
end PySem
namespace VT
open PySem PyProof.Rows L2
end VT
namespace PySem
open Sem (wp)
section
variable{s:Shared}
variable{o:Obj}{es:Array (Int×Value)}{ep:Nat}{t:SetTable}
end
end PySem
namespace VT
open PySem PySem.Spec PyProof.Rows L2
end VT
namespace Lay
open PySem L2 VT Gen K5
noncomputable def NW:Rw->Bool
 |.lq _=>false
 |.gk _=>false
 |.nJ=>false
 |.fin=>false
 |.give _=>false
 |_=>true
def rk(r:Rw):(∃a,r=.lq a)\/(∃a,r=.gk a)\/r=.nJ\/r=.fin\/(∃a,r=.give a)\/NW r=true:=by cases r<;>simp[NW]
noncomputable def T1:ν:=["def","put","do","new","get","set","call","fail","skip"]
def T2(h:NW r=true):wd r∈T1:=by cases r<;>first|exact Bool.noConfusion (show false=true from h)|simp[T1,wd]
def T3:∀x∈T1,x≠"give"/\x≠"if"/\x≠"while"/\x≠"else"/\x≠"end":=by decide +kernel
def T4(h:NW r=true):wd r≠"give"/\wd r≠"if"/\wd r≠"while"/\wd r≠"else"/\wd r≠"end":=T3 _ (T2 h)
def Js(hr:rs[j]?=some r)(h:NW r=true):Bj rs j=(j:Int)+1:=by unfold Bj;rw[hr];cases r<;>first|exact Bool.noConfusion (show false=true from h)|rfl
end Lay
namespace VT
open PySem PySem.Spec PyProof.Rows L2
end VT
namespace Nx
open PySem L2 VT Gen K5 Lay
noncomputable abbrev oH:Stmt:=top 17
noncomputable abbrev rF:Stmt:=top 18
noncomputable abbrev i6:Stmt:=top 19
def T5(h:wd r="while"):∃a,r=.gk a:=by cases r<;>first|exact⟨_,rfl⟩|exact absurd h (by show ¬ ((_:Str)="while");simp only[wd];decide +kernel)
def T6(ts:ο)(q:qam):Prop:=∃k:Int,ts=[.int k]/\q (.vw (.int (k+1)))
def gNo(C:Addr)(ts:ο)(q:qam):Prop:=∃(rs:S1)(j:Nat)(r:Rw),ts=[cj C rs,.int (j:Int)]/\Bl rs/\rs[j]?=some r/\Jb r=true/\q (.vw (.int (NG rs j)))
def Fq(C:Addr)(ts:ο)(q:qam):Prop:=∃(rs:S1)(j:Nat)(r:Rw),ts=[cj C rs,.int (j:Int)]/\Bl rs/\rs[j]?=some r/\q (.vw (.int (Bj rs j)))
section
variable{cLayout:Addr}
noncomputable abbrev Fs:ν:=["place"]
def rG:az Fs ["place"] (ai oH):=L2.fD
def Br(D:Df K mg "yes_row" oH ["place"] f fd):bV P w K mg base "yes_row" ["place"] 1 (cK K 1 T6):=by refine D.fU (jD D.F rG rfl λbF A outer s H E Ox hr ts q hG=>?_);have nd:=rG.nd;refine⟨_,(ar (aE (Δ (bX (ae 0) (θ ag))))),λ_=>?_⟩;obtain⟨k,rfl,hq⟩:=hG;exact hq
noncomputable abbrev Jt:ν:=qaA
def uD:az Jt qaA (ai rF):=L2.fD
def Ft(D:Df K mg "no_row" rF qaA f fd)(M:NP K cLayout):bV P w K mg base "no_row" qaA 1 (cK K 2 (gNo cLayout)):=by
 refine D.fU (jD D.F uD rfl λbF A outer s H E Ox hr ts q hG=>?_);have nd:=uD.nd;have hu:=bG.fm hr;have ax:=M;refine⟨_,(ah (bA (bQ hu (θ (aI (θ (aI (θ (bf ax.cl ax.dU (ae 0))) (ae 1))) (θ ag))) (θ aC))
    (ar (aE (Δ (bX (θ (aI (θ (bf ax.cl ax.vZ (ae 0))) (ae 1))) (θ ag)))))
    aM)
   (ah (bA (x5 (θ (aI (θ (bf ax.cl ax.v5 (ae 0))) (ae 1))) (θ cX))
     (ar (aE (Δ (aI (θ (bf ax.cl ax.vZ (ae 0))) (ae 1)))))
     aM)
   (ar (aE (Δ (bX (θ (aI (θ (bf ax.cl ax.v5 (ae 0))) (ae 1))) (θ ag))))))),λ_=>?_⟩
 obtain⟨rs,j,r,rfl,B,cT,hh,hq⟩:=hG;have hj:=(eE.mp cT).1;have he:=Dg hj;have hl:=Tz hj;unfold NG at hq;rw[cT] at hq;cases r with
 |gk a=>obtain⟨e,b⟩:=B.YV cT (.inr rfl);unfold pL at hq;rw[b.en] at hq he;exact⟨rfl,_,rfl,_,i4 cT,_,aat,rfl,_,rfl,_,he,hq⟩
 |lq a=>
   obtain⟨e,b⟩:=B.YV cT (.inl rfl);dsimp only at hq;unfold pL at hq;rw[b.en] at hq he;refine⟨rfl,_,rfl,_,i4 cT,_,aat,rfl,_,rfl,_,hl,?_⟩;cases hv:Ja rs j with
   |none=>rw[hv] at hq;exact⟨rfl,_,rfl,_,he,hq⟩
   |some x=>rw[hv] at hq hl;exact⟨rfl,_,rfl,_,hl,hq⟩
 |_=>cases hh
noncomputable abbrev v_:ν:=["layout","place","word","head"]
def kS:az v_ qaA (ai i6):=L2.fD
def tG(D:Df K mg "row_behind" i6 qaA f fd)(M:NP K cLayout):bV P w K mg base "row_behind" qaA 1 (cK K 2 (Fq cLayout)):=by
 refine D.fU (jD D.F kS rfl λbF A outer s H E Ox hr ts q hG=>?_);have nd:=kS.nd;have hu:=bG.fm hr;have np:∀{i:Nat},bN ⟨H,[],Ox⟩ i:=kP;have ax:=M;refine⟨_,(ah (bc (i:=2) nd rfl (.inl rfl) (Δ (aI (θ (aI (θ (bf ax.cl ax.dU (ae 0))) (ae 1))) (θ ag))) np)
  (ah (bc (i:=3) nd rfl (.inl rfl) (Δ (aI (θ (bf ax.cl ax.Dm (ae 0))) (ae 1))) np)
  (ah (bA (bQ hu (ae 2) (θ aC))
   (ar (aE (Δ (aI (θ (bf ax.cl ax.vZ (ae 0))) (ae 3)))))
   aM)
  (ah (bA (VW.vc (fE (bQ hu (ae 2) (θ aC)) (eF (bQ hu (θ (aI (θ (aI (θ (bf ax.cl ax.dU (ae 0))) (ae 3))) (θ ag))) (θ aC)))))
   (ar (aE (Δ (VE.vp (aj 3)))))
   aM)
  (ar (aE (Δ (bX (ae 1) (θ ag))))))))),λ_=>?_⟩
 obtain⟨rs,j,r,rfl,B,cT,hq⟩:=hG;have hj:=(eE.mp cT).1;have hh:=Tw hj;unfold Bj at hq;rw[cT] at hq;refine⟨rfl,_,rfl,_,i4 cT,?_⟩;rcases rk r with⟨a,rfl⟩|⟨a,rfl⟩|rfl|rfl|⟨a,rfl⟩|ho
 exact⟨_,aat,rfl,_,rfl,_,hh,hq⟩;exact⟨_,aat,rfl,_,rfl,_,hh,hq⟩;obtain⟨_,o,a,h1,h2,_⟩:=B.nJ cT;have ho:=(eE.mp h2).1;obtain⟨e,b⟩:=B.YV h2 (.inl rfl);have he:=Dg ho;unfold pL Gq at hq;rw[h1] at hq hh;simp only[Wu] at hq;rw[b.en] at hq he;exact⟨_,aat,rfl,_,rfl,_,hh,rfl,_,rfl,_,he,hq⟩;obtain⟨_,o,r2,h1,h2,h3⟩:=B.fin cT;unfold Gq at hq;rw[h1] at hq hh;simp only[Wu] at hq;rw[h2] at hq;have hra:=i4 h2;obtain⟨l2,el2⟩:=kh r2;rw[el2] at hra;refine⟨_,aat,rfl,_,rfl,_,hh,rfl,_,rfl,_,hra,_,aat,cN (λz=>?_) (λz=>?_)⟩;have z':wd r2="while":=z;obtain⟨a,rfl⟩:=T5 z';exact hq;have z':¬ wd r2="while":=z;cases r2<;>first|exact hq|exact absurd rfl z'
 exact⟨_,aat,rfl,_,rfl,_,hh,hq⟩;obtain⟨l,el⟩:=kh r;obtain⟨g1,g2,g3,g4,g5⟩:=T4 ho;have hb:=Js cT ho;unfold Bj at hb;rw[cT] at hb;rw[hb] at hq;rw[el];refine⟨_,aat,rfl,_,rfl,_,hh,cN (λz=>absurd z g4) (λ_=>cN (λz=>absurd z g5) (λ_=>gz rfl hq))⟩
end
end Nx
set_option exponentiation.threshold 4000
namespace iL
open PySem L2 VT
noncomputable def top(i:Nat):Stmt:=PySem.Challenge.pw_slicewise_k83_inputs_that_do_a_row.main.body.getD i (.Pass ⟨0,0,0,0⟩)
noncomputable abbrev Dp:Stmt:=top 21
noncomputable abbrev jR:Stmt:=top 22
noncomputable abbrev jS:Stmt:=top 23
noncomputable abbrev Bs:Stmt:=top 24
noncomputable abbrev wa:Stmt:=top 25
noncomputable abbrev wb:Stmt:=top 26
noncomputable abbrev Bt:Stmt:=top 27
noncomputable abbrev Bu:Stmt:=top 28
noncomputable abbrev Bv:Stmt:=top 29
noncomputable abbrev i7:Stmt:=top 31
structure Mg(w:World)(K:Γ)(mg:qae):Prop where
 H:∃t,mg "H"=some (.int 1000000000000000000000000000000 t)
 Fu:∃a,mg "DIVISIONS"=some (.ref a)/\∀H,fB K H a [.str "over",.str "rest"]
 isinstance:mg "isinstance"=none
 int:mg "int"=none
 bool:mg "bool"=none
 tuple:mg "tuple"=none
 len:mg "len"=none
 range:mg "range"=none
 RK:∃(a:Addr)(fo:EX->Addr),mg "RECKONERS"=some (.ref a)/\(∀o,mg (jL o)=some (.ref (fo o)))/\qT w K a [("plus",.ob (fo .plus)),("minus",.ob (fo .minus)),("times",.ob (fo .times)),("over",.ob (fo .over)),("rest",.ob (fo .rest)),("less",.ob (fo .less))]
def Fv(ts:ο)(q:qam):Prop:=∃i,ts=[.int i]/\q (.vw (.int (fQ i)))
def T7(ts:ο)(q:qam):Prop:=∃a:Vl,ts=[vT a]/\q (.vw (.bl (match a with | .num _=>false | .Gp _ _=>true)))
def gNm(ts:ο)(q:qam):Prop:=∃a:Vl,ts=[vT a]/\q (.vw (.int (nm a)))
def NX(o:EX)(ts:ο)(q:qam):Prop:=∃x y:Int,ts=[.int x,.int y]/\mC x/\mC y/\(Bf o=true->y≠0)/\q (.vw (.int (Nl o x y)))
abbrev Qn:=NX .plus
abbrev Ju:=NX .minus
abbrev Jv:=NX .times
abbrev Qo:=NX .over
abbrev Qp:=NX .rest
abbrev Qq:=NX .less
def Jw(ts:ο)(q:qam):Prop:=(∃a b,ts=[vT a,.str "same",vT b]/\q (.vw (yz a b)))\/(∃a b o,ts=[vT a,.str (jL o),vT b]/\RI (nm a)/\RI (nm b)/\q (.vw (rkT o (nm a) (nm b))))
def Y7(a b:Vl):eqT (vT a) (vT b)=decide (a=b):=by cases a<;>cases b<;>simp[vT,eqT,gd]<;>rfl
def Jx{a b:Vl}{q:qam}(h:q (.vw (.bl (decide (a=b))))):Mh (vT a) (vT b) q:=by
 have e:=Y7 a b;cases a with
 |num i=>cases b with
  |num j=>have:decide (i=j)=decide (Vl.num i=Vl.num j):=decide_eq_decide.mpr (by simp);show q (.vw (.bl (decide (i=j))));rw[this];exact h
  |Gp p r=>exact⟨rfl,rfl,by simp[vT,dep],by rw[<- e] at h;exact h⟩
 |Gp p r=>exact⟨rfl,by cases b<;>rfl,by simp[vT,dep,pH],by rw[<- e] at h;exact h⟩
def NY{a b:Vl}{q:qam}(h:q (.vw (yz a b))):if decide (a=b)=true then q (.vw (.int 1)) else q (.vw (.int 0)):=by unfold yz at h;by_cases e:a=b;rw[ε (μ e)];rw[ε e] at h;exact h;rw[ζ (by rw[ι e];exact iM)];rw[ζ e] at h;exact h
def Jy(o:EX):decide (jL o=("same":Str))=false:=by cases o<;>decide +kernel
def Jz(o:EX):sJ (.str (jL o)) [.str "over",.str "rest"]=Bf o:=by cases o<;>first|rfl|decide +kernel
section
noncomputable abbrev Qr:ν:=qaB
def JA:az Qr qaB (ai Dp):=L2.fD
def T8(D:Df K mg "fit" Dp qaB f fd)(M:Mg w K mg):bV P w K mg base "fit" qaB 1 (cK K 1 Fv):=by refine D.fU (jD D.F JA rfl λbF A outer s H E Ox hr ts q hG=>?_);have nd:=JA.nd;obtain⟨tH,mH⟩:=M.H;have g_H:∀{pos},VP (fN eQ P w K mg base Qr "fit" (ai Dp) f bF A outer s H E).pA ⟨H,[],Ox⟩ (.Name "H" pos) (fC (.int 1000000000000000000000000000000)):=iS (by rfl) mH (v:=.int 1000000000000000000000000000000) ⟨_,rfl⟩ λ_ _=>bC;refine⟨_,(ar (aE (Δ (iU (θ (bo (θ (bX (ae 0) (θ g_H))) (θ (mE (θ ag) (θ g_H))))) (θ g_H))))),λ_=>?_⟩;obtain⟨i,rfl,hq⟩:=hG;exact⟨⟨bg 2,mC.of (by decide +kernel) (by decide +kernel)⟩,(by show (0:Int)<2 * 1000000000000000000000000000000;decide),hq⟩
noncomputable abbrev y4:ν:=qaC
def m_:az y4 qaC (ai jR):=L2.fD
def wc(D:Df K mg "is_record" jR qaC f fd)(M:Mg w K mg):bV P w K mg base "is_record" qaC 1 (cK K 1 T7):=by
 refine D.fU (jD D.F m_ rfl λbF A outer s H E Ox hr ts q hG=>?_);have nd:=m_.nd;refine⟨_,(ar (aE (Δ (mx AW (by rfl) M.isinstance (by rfl) M.tuple pT (ae 0))))),λ_=>?_⟩;obtain⟨a,rfl,hq⟩:=hG;cases a with
 |num i=>exact⟨rfl,hq⟩
 |Gp p r=>exact⟨rfl,hq⟩
noncomputable abbrev y7:ν:=qaC
def ng:az y7 qaC (ai jS):=L2.fD
def we(D:Df K mg "number_of" jS qaC f fd)(M:Mg w K mg)(jT:bV P w K mg base "is_record" qaC 1 (cK K 1 T7)):bV P w K mg base "number_of" qaC 2 (cK K 1 gNm):=by
 refine D.fU (jD D.F ng rfl λbF A outer s H E Ox hr ts q hG=>?_);have nd:=ng.nd;refine⟨_,(ar (aE (Δ (jx (h_ (aK jT hr (aa (aj 0) ak))) ag (VE.vp (aj 0)))))),λ_=>?_⟩;obtain⟨a,rfl,hq⟩:=hG;refine⟨rfl,a,rfl,?_⟩;cases a with
 |num i=>exact hq
 |Gp p r=>exact hq
noncomputable abbrev T9:ν:=qaD
def Dq:az T9 qaD (ai Bs):=L2.fD
def NZ(D:Df K mg "plus" Bs qaD f fd)(M:Mg w K mg):bV P w K mg base "plus" qaD 1 (cK K 2 Qn):=by refine D.fU (jD D.F Dq rfl λbF A outer s H E Ox hr ts q hG=>?_);have nd:=Dq.nd;refine⟨_,(ar (aE (Δ (bX (ae 0) (ae 1))))),λ_=>?_⟩;obtain⟨x,y,rfl,hx,hy,_,hq⟩:=hG;exact hq
noncomputable abbrev N0:ν:=qaD
def y8:az N0 qaD (ai wa):=L2.fD
def JB(D:Df K mg "minus" wa qaD f fd)(M:Mg w K mg):bV P w K mg base "minus" qaD 1 (cK K 2 Ju):=by refine D.fU (jD D.F y8 rfl λbF A outer s H E Ox hr ts q hG=>?_);have nd:=y8.nd;refine⟨_,(ar (aE (Δ (iU (ae 0) (ae 1))))),λ_=>?_⟩;obtain⟨x,y,rfl,hx,hy,_,hq⟩:=hG;exact hq
noncomputable abbrev N1:ν:=qaD
def y9:az N1 qaD (ai wb):=L2.fD
def JC(D:Df K mg "times" wb qaD f fd)(M:Mg w K mg):bV P w K mg base "times" qaD 1 (cK K 2 Jv):=by refine D.fU (jD D.F y9 rfl λbF A outer s H E Ox hr ts q hG=>?_);have nd:=y9.nd;refine⟨_,(ar (aE (Δ (mE (ae 0) (ae 1))))),λ_=>?_⟩;obtain⟨x,y,rfl,hx,hy,_,hq⟩:=hG;exact⟨⟨hx,hy⟩,hq⟩
noncomputable abbrev T_:ν:=qaD
def Dr:az T_ qaD (ai Bt):=L2.fD
def N2(D:Df K mg "over" Bt qaD f fd)(M:Mg w K mg):bV P w K mg base "over" qaD 1 (cK K 2 Qo):=by refine D.fU (jD D.F Dr rfl λbF A outer s H E Ox hr ts q hG=>?_);have nd:=Dr.nd;refine⟨_,(ar (aE (Δ (HQ (ae 0) (ae 1))))),λ_=>?_⟩;obtain⟨x,y,rfl,hx,hy,hd,hq⟩:=hG;exact⟨⟨hd rfl,hy⟩,hq⟩
noncomputable abbrev T':ν:=qaD
def Ds:az T' qaD (ai Bu):=L2.fD
def N3(D:Df K mg "rest" Bu qaD f fd)(M:Mg w K mg):bV P w K mg base "rest" qaD 1 (cK K 2 Qp):=by refine D.fU (jD D.F Ds rfl λbF A outer s H E Ox hr ts q hG=>?_);have nd:=Ds.nd;refine⟨_,(ar (aE (Δ (MH (ae 0) (ae 1))))),λ_=>?_⟩;obtain⟨x,y,rfl,hx,hy,hd,hq⟩:=hG;exact⟨hd rfl,hq⟩
noncomputable abbrev Ua:ν:=qaD
def Dt:az Ua qaD (ai Bv):=L2.fD
def N4(D:Df K mg "less" Bv qaD f fd)(M:Mg w K mg):bV P w K mg base "less" qaD 1 (cK K 2 Qq):=by refine D.fU (jD D.F Dt rfl λbF A outer s H E Ox hr ts q hG=>?_);have nd:=Dt.nd;refine⟨_,(ar (aE (Δ (jx (jy (ae 0) (ae 1)) ag ag)))),λ_=>?_⟩;obtain⟨x,y,rfl,hx,hy,_,hq⟩:=hG;have eS:q (.vw (.int (if x<y then 1 else 0))):=hq;refine cN (λh=>?_) (λh=>?_);have h':x<y:=h;rw[ε h'] at eS;exact eS;have h':¬ x<y:=h;rw[ζ h'] at eS;exact eS
noncomputable abbrev rH:ν:=["one","word","other","left","right"]
def o9:az rH qaE (ai i7):=L2.fD
def y_(D:Df K mg "reckoned" i7 qaE f fd)(M:Mg w K mg)(JD:bV P w K mg base "fit" qaB 1 (cK K 1 Fv))(hJ:bV P w K mg base "number_of" qaC 2 (cK K 1 gNm))(Ub:bV P w K mg base "plus" qaD 1 (cK K 2 Qn))(N5:bV P w K mg base "minus" qaD 1 (cK K 2 Ju))(N6:bV P w K mg base "times" qaD 1 (cK K 2 Jv))(Uc:bV P w K mg base "over" qaD 1 (cK K 2 Qo))(Ud:bV P w K mg base "rest" qaD 1 (cK K 2 Qp))(Ue:bV P w K mg base "less" qaD 1 (cK K 2 Qq)):bV P w K mg base "reckoned" qaE 3 (cK K 3 Jw):=by
 obtain⟨adZ,acx,Ug,Uh,Ui,Uj⟩:=Ub;obtain⟨acy,Y8,N7,N8,N9,N_⟩:=N5;obtain⟨acz,Y9,N',Oa,Ob,Oc⟩:=N6;obtain⟨ad0,acA,Uk,Ul,Um,Uo⟩:=Uc;obtain⟨ad1,acB,Up,Uq,Ur,Us⟩:=Ud;obtain⟨ad2,acC,Ut,Uu,Uv,Uw⟩:=Ue;refine D.fU (jD D.F o9 rfl λbF A outer s H E Ox hr ts q hG=>?_);have nd:=o9.nd;have hu:=bG.fm hr;have np:∀{i:Nat},bN ⟨H,[],Ox⟩ i:=kP;obtain⟨aD,mD,hD⟩:=M.Fu;obtain⟨aR,fo,y',R1,wg⟩:=M.RK;have za:∀{pos},VP (fN eQ P w K mg base rH "reckoned" (ai i7) f bF A outer s H E).pA ⟨H,[],Ox⟩ (.Name "DIVISIONS" pos) (fC (.tup [.str "over",.str "rest"])):=iS (by rfl) mD (v:=.ref aD) rfl λH A=>cP (hD H) (aA.cons dZ (aA.cons dZ aA.nil));have zb:∀f' G,(∃o:EX,f'=fo o/\G=NX o)->W.keepIn K (.ref f')=true/\∃fd ps,Binds K fd ps []/\cD P w K mg base eQ 1 f' fd ps (cK K 2 G):=by
  rintro f' G ⟨o,rfl,rfl⟩;have h:=R1 o;cases o with
  |plus=>cases Ug.symm.trans h;exact⟨Uh,_,_,Ui,Uj⟩
  |minus=>cases N7.symm.trans h;exact⟨N8,_,_,N9,N_⟩
  |times=>cases N'.symm.trans h;exact⟨Oa,_,_,Ob,Oc⟩
  |over=>cases Uk.symm.trans h;exact⟨Ul,_,_,Um,Uo⟩
  |rest=>cases Up.symm.trans h;exact⟨Uq,_,_,Ur,Us⟩
  |less=>cases Ut.symm.trans h;exact⟨Uu,_,_,Uv,Uw⟩
 refine⟨_,(ah (bA (bQ hu (ae 1) (θ aC))
    (ar (aE (Δ (jx (bQ hu (ae 0) (ae 2)) ag ag))))
    aM)
   (ah (bc (i:=3) nd rfl (.inl rfl) (Δ (aK hJ hr (aa (aj 0) ak))) np)
   (ah (bc (i:=4) nd rfl (.inl rfl) (Δ (aK hJ hr (aa (aj 2) ak))) np)
   (ah (bA (VW.vc (fE (qM (ae 1) (θ za)) (eF (bQ hu (ae 4) (θ ag)))))
     (ar (aE (Δ cX)))
     aM)
   (ar (aE (Δ (aK JD hr (aa (ς (IG (IF (by rfl) y' wg (ae 1)) zb (hr.mono (by decide)) (aa (aj 3) (aa (aj 4) ak)))) ak))))))))),λ_=>?_⟩
 obtain⟨a,b,rfl,hq⟩|⟨a,b,o,rfl,ha,hb,hq⟩:=hG
 show Mh (vT a) (vT b) (λr=>match r with
  |.vw (.bl c)=>(if c=true then q (.vw (.int 1)) else q (.vw (.int 0)))
  |_=>False)
 exact Jx (NY hq);refine gz (c:=decide (jL o=("same":Str))) (Jy o) ?_;refine⟨rfl,a,rfl,rfl,b,rfl,rfl,rfl,?_⟩;have eS:q (.vw (if Bf o=true/\nm b=0 then .aO else .int (fQ (Nl o (nm a) (nm b))))):=hq;have go:(Bf o=true->nm b≠0)->q (.vw (.int (fQ (Nl o (nm a) (nm b)))))->∃t,A5 [("plus",.ob (fo .plus)),("minus",.ob (fo .minus)),("times",.ob (fo .times)),("over",.ob (fo .over)),("rest",.ob (fo .rest)),("less",.ob (fo .less))] (jL o)=some t/\(match Rt.vw t with
  |.vw (.ob f)=>∃G,(∃o:EX,f=fo o/\G=NX o)/\([T.int (nm a),T.int (nm b)].length=2/\G [T.int (nm a),T.int (nm b)] λr=>([r.t].length=1/\Fv [r.t] q))
  |_=>False):=λhd V5=>by
  refine⟨.ob (fo o),by cases o<;>rfl,NX o,⟨o,rfl,rfl⟩,rfl,nm a,nm b,rfl,ha.big,hb.big,hd,rfl,_,rfl,V5⟩
 refine vd (λh=>?_) (λh=>?_);have h':Bf o=true:=by rw[<- Jz];exact h
 refine cN (λh2=>?_) (λh2=>?_);have h3:nm b=0:=h2;rw[ε ⟨h',h3⟩] at eS;exact eS;have h3:¬ nm b=0:=h2;rw[ζ (λz=>h3 z.2)] at eS;exact go (λ_=>h3) eS;have h':¬ Bf o=true:=λz=>h (by rw[<- Jz] at z;exact z);rw[ζ (λz=>h' z.1)] at eS;exact go (λz=>(h' z).elim) eS
end
end iL
namespace Rg
open PySem L2 VT Gen K5 Lay
open nU (dm)
open Nx (Fq)
open Nm (kK Dj)
open V4 (Dl Dk jP)
open iL (Vl vT nm EX jL rkT yz Jw Fv fQ RI)
noncomputable def top(i:Nat):Stmt:=PySem.Challenge.pw_slicewise_k83_inputs_that_do_a_row.main.body.getD i (.Pass ⟨0,0,0,0⟩)
noncomputable abbrev ni:Stmt:=inClass (top 34) 0
noncomputable abbrev iI:Stmt:=inClass (top 35) 0
noncomputable abbrev wj:Stmt:=top 36
noncomputable abbrev lN:Stmt:=top 37
noncomputable abbrev oI:Stmt:=top 38
noncomputable abbrev gF:Stmt:=top 39
noncomputable abbrev ij:Stmt:=top 40
noncomputable abbrev jU:Stmt:=top 41
noncomputable abbrev ik:Stmt:=top 45
noncomputable abbrev i8:Stmt:=top 42
noncomputable abbrev i9:Stmt:=top 43
noncomputable abbrev oJ:Stmt:=top 32
noncomputable abbrev il:Stmt:=top 44
noncomputable abbrev ip:Stmt:=top 46
noncomputable abbrev f_:Stmt:=top 47
noncomputable abbrev lQ:Stmt:=top 49
noncomputable abbrev wm:Stmt:=top 50
noncomputable abbrev hU:Stmt:=top 52
noncomputable abbrev gG:Stmt:=top 51
structure MgR(mg:qae):Prop where
 len:mg "len"=none
 enumerate:mg "enumerate"=none
 tuple:mg "tuple"=none
structure V6(K:Γ)(C:Addr):Prop where
 cl:An K C
 wo:bD K C "call"
 wq:bD K C "names"
structure zc(K:Γ)(C:Addr):Prop where
 cl:An K C
 e_:bD K C "layout"
 JE:bD K C "most"
 wt:bD K C "poke"
 jV:bD K C "frames"
 wu:bD K C "cells"
 nq:bD K C "counts"
 jW:bD K C "doings"
 cV:bD K C "place"
 hW:bD K C "ended"
def JF(C:Addr)(ts:ο)(q:T->Prop):Prop:=∃t1 t2,ts=[t1,t2]/\q (.ins C qaw [t1,t2])
def Y_(cM cF:Addr)(ts:ο)(q:qam):Prop:=∃a L most pk fs f ce ct dn pl en o n,ts=[.pin a (V2 cM cF L most pk (fs++[f]) ce ct dn pl en),iF o]/\rp o/\gE f.ev n/\n<=1000000/\q (.vw (vT (look f.ev o)))
def RdR:Rw->Prop
 |.nJ=>False
 |.fin=>False
 |.skip=>False
 |.lW _ _ op _=>op∈reckon
 |.get _ _ k=>Lr k
 |.set _ k _=>Lr k
 |_=>True
noncomputable def ckO:Option (List Key×Key)->T
 |none=>.aO
 |some c=>Gm c
def wx(ts:ο)(q:qam):Prop:=∃(e:Ev)(r:Str)(k:Ky)(l:List jK),ts=[z9 k,.tup ((jK.nm r::(NH k++l)).map λo=>vT (look e o))]/\Lr k/\q (.vw (ckO (cellK e r k)))
def Du(cM cF:Addr)(nh:List Key×Key->Int)(ts:ο)(q:qam):Prop:=∃a L most pk fr ce ct dn p en e r n,ts=[.pin a (V2 cM cF L most pk fr (Ce.s nh ce) ct dn (.int ((p:Nat):Int)) en),aP r,.tup ((gR r).map λo=>vT (look e o))]/\RdR r/\(∀o∈gR r,rp o)/\gE e n/\q (.vw (oV (Je e ce ct p r)))
structure Od(rs:S1)(j:Nat)(r:Rw):Prop where
 B:Bl rs
 at':rs[j]?=some r
 o:NW r=true
def oK(cM cF cL:Addr)(us:ο)(s:S)(q:S->T->Prop):Prop:=∃rs r j most pk fr ce ct dn u1 u2 u3,us=[u1,u2,u3]/\s=dC cM cF (cj cL rs) most pk fr ce ct dn (.int ((j:Nat):Int)) .aO/\Od rs j r/\q (dC cM cF (cj cL rs) most pk fr ce ct dn (.int ((j+1:Nat):Int)) .aO) .aO
def mkN:Rw->Str->Prop
 |.put y _,x=>y=x
 |.get y _ _,x=>y=x
 |.lW y _ _ _,x=>y=x
 |.new y,x=>y=x
 |.call y _ _,x=>y=x
 |_,_=>False
def lT(cM cF cL:Addr)(us:ο)(s:S)(q:S->T->Prop):Prop:=∃rs r j most pk fs f ce ct dn u2 x v,us=[aP r,u2,vT v]/\bZ u2=true/\s=dC cM cF (cj cL rs) most pk (fs++[f]) ce ct dn (.int ((j:Nat):Int)) .aO/\Od rs j r/\mkN r x/\f.ev.is.length<=1000000/\q (dC cM cF (cj cL rs) most pk (fs++[{f with ev:=f.ev.put x v}]) ce ct dn (.int ((j+1:Nat):Int)) .aO) .aO
def rJ{o:jK}(h:rp o):Nm.lF (iF o)=false:=by
 cases o with
 |nm x=>have:=nU.sT (nU.mh h.1);show (Txt.startswith x "." && _)=false;rw[this];rfl
 |nu i=>rfl
def wy{o:jK}(h:rp o):Nm.yY (iF o):=by
 cases o with
 |nm x=>exact .inl ⟨x,rfl,h.2⟩
 |nu i=>exact .inr ⟨i,rfl⟩
def Dv(x:Str):(((".":String):Str)++x).length=x.length+1:=by show (((".":String):Str).cps++x.cps).size=_;rw[Array.size_append,show (((".":String):Str).cps).size=1 by decide +kernel,Nat.add_comm];rfl
def Oe(o:EX)(a b:Vl):rkT o (nm a) (nm b)=oV ((Bn (jL o) a b).map .num):=by
 have e:Bn (jL o) a b=YW (jL o) (nm a) (nm b):=by unfold Bn;rw[ζ (by cases o<;>decide +kernel)]
 rw[e];generalize nm a=x;generalize nm b=y;unfold rkT YW;cases o with
 |less=>show T.int (fQ (if x<y then 1 else 0))=T.int (if x<y then 1 else 0);split<;>rfl
 |over=>show (if true=true/\y=0 then T.aO else _)=oV ((if y=0 then none else some (fQ (x.fdiv y))).map .num);by_cases h:y=0;rw[ε ⟨rfl,h⟩,ε h];rfl;rw[ζ (λz=>h z.2),ζ h];rfl
 |rest=>show (if true=true/\y=0 then T.aO else _)=oV ((if y=0 then none else some (fQ (x.fmod y))).map .num);by_cases h:y=0;rw[ε ⟨rfl,h⟩,ε h];rfl;rw[ζ (λz=>h z.2),ζ h];rfl
 |_=>rfl
def Og(a b:Vl):yz a b=oV ((Bn "same" a b).map .num):=rfl
def Y'{op:Str}(h:op∈reckon):op="same"\/∃o:EX,op=jL o:=by
 unfold reckon at h;simp only[c0,fA,π] at h;obtain rfl|rfl|rfl|rfl|rfl|rfl|rfl:=h
 exact .inr ⟨.plus,rfl⟩;exact .inr ⟨.minus,rfl⟩;exact .inr ⟨.times,rfl⟩;exact .inr ⟨.over,rfl⟩;exact .inr ⟨.rest,rfl⟩;exact .inr ⟨.less,rfl⟩;exact .inl rfl
def Od.bh(h:Od rs j r):Bj rs j=((j+1:Nat):Int):=by rw[Js h.at' h.o];push_cast;rfl
section
variable{cLayout cFrame aq:Addr}
noncomputable abbrev Oh:ν:=qaF
def zd:az Oh qaF (ai ni):=L2.fD
def JG(D:Dc K mg "Frame" "Frame.__init__" ni qaF cFrame f fd)(M:V6 K cFrame):HY P w K mg base "Frame" cFrame qaF 1 2 (JF cFrame):=by
 refine D.fU (fnI D.F zd rfl λbF A outer s H E as Ox hr us q hl hG=>?_);have nd:=zd.nd;have cc:=M;refine⟨_,(ah (iY 0 cc.cl cc.wo (aj 1))
  (ar (iY 0 cc.cl cc.wq (aj 2)))),?_⟩
 obtain⟨t1,t2,rfl,hq⟩:=hG;exact⟨rfl,by show 0<1000;decide,rfl,by show 1<1000;decide,hq⟩
noncomputable abbrev Bw:ν:=qaG
def o_:az Bw qaG (ai lN):=L2.fD
def ze(D:Df K mg "value_of" lN qaG f fd)(M:zc K aq)(M1:V6 K cFrame)(oG:bV P w K mg base "is_name" qax 1 (cK K 1 kK)):bV P w K mg base "value_of" qaG 2 (cK K 2 (Y_ aq cFrame)):=by
 refine D.fU (jD D.F o_ rfl λbF A outer s H E Ox hr ts q hG=>?_);have nd:=o_.nd;have hu:=bG.fm hr;have af:=M;have cc:=M1;have xo:=o4 hu;refine⟨_,(ar (aE (Δ (jx (h_ (aK oG hr (aa (aj 1) ak))) (A3 xo (θ (bf cc.cl cc.wq (θ (aI (θ (bf af.cl af.jV (bR (ae 0)))) (θ (iV (θ ag))))))) (ae 1) (ς ag) ⟨rfl,rfl,rfl,rfl⟩) (VE.vp (aj 1)))))),λ_=>?_⟩;obtain⟨a,L,most,pk,fs,f0,ce,ct,dn,pl,en,o,n,rfl,ho,he,hn,hq⟩:=hG;cases o with
 |nm x=>
  refine⟨rfl,.str x,rfl,rfl,(λy z=>by cases z;have:=ho.2;omega),?_⟩;refine x6 (c:=Dj (.str x)) ho.1 ?_;have el:jg ((fs++[f0]).map (YY cFrame)) (-1)=some (YY cFrame f0):=by rw[nG];exact L2.jr _ _
  refine⟨rfl,_,rfl,_,el,rfl,_,rfl,?_⟩;show q (.vw ((dB f0.ev.ks f0.ev.ts (.inr x)).getD (.int 0)));rw[TH];exact hq
 |nu i=>refine⟨rfl,.int i,rfl,rfl,(λy z=>by cases z),?_⟩;exact hq
noncomputable abbrev Fw:ν:=qaH
def rK:az Fw qaH (ai oJ):=L2.fD
def By(D:Df K mg "cell_of" oJ qaH f fd)(M:MgR mg)(jT:bV P w K mg base "is_record" qaC 1 (cK K 1 iL.T7))(lL:bV P w K mg base "is_field" qax 2 (cK K 1 Nm.A6))(hJ:bV P w K mg base "number_of" qaC 2 (cK K 1 iL.gNm)):bV P w K mg base "cell_of" qaH 3 (cK K 2 wx):=by
 refine D.fU (jD D.F rK rfl λbF A outer s H E Ox hr ts q hG=>?_);have nd:=rK.nd;refine⟨_,(ah (bA (n_ (h_ (aK jT hr (aa (ς (aI (ae 1) (θ ag))) ak))))
    (ar (aE (Δ cX)))
    aM)
   (ar (aE (Δ (bH (aa (ς (aI (ae 1) (θ ag))) (aa (ς (jx (h_ (aK lL hr (aa (aj 0) ak))) (VE.vp (aj 0)) (aK hJ hr (aa (ς (aI (ae 1) (θ ag))) ak)))) ak))))))),λ_=>?_⟩
 obtain⟨e,r,k,l,rfl,hk,hq⟩:=hG;unfold cellK at hq;refine⟨_,aat,rfl,e.get r,rfl,?_⟩;cases hv:e.get r with
 |num i=>rw[hv] at hq;exact hq
 |Gp p n=>
   rw[hv] at hq;have hvT:vT (look e (.nm r))=.tup [.int p,.int n]:=by show vT (e.get r)=_;rw[hv];rfl
   cases k with
   |fld x=>
     have hf:Nm.lF (z9 (.fld x))=true:=by show nU.qt (((".":String):Str)++x)=true;unfold nU.qt;rw[nU.uc,hk.1,Bool.and_true];exact nU.qu x
     refine gz (c:=false) rfl ?_;refine⟨_,aat,rfl,_,rfl,.inl ⟨_,rfl,by rw[Dv];have:=hk.2;omega⟩,?_⟩;refine x6 hf ?_;have eS:q (.vw (.tup [vT (look e (.nm r)),z9 (.fld x)])):=by rw[hvT];exact hq
     exact⟨Gen.eR rfl,eS⟩
   |op o=>
     have hf:Nm.lF (z9 (.op o))=false:=rJ hk;refine gz (c:=false) rfl ?_;refine⟨_,aat,rfl,_,rfl,wy hk,?_⟩;refine gz hf ?_;have eS:q (.vw (.tup [vT (look e (.nm r)),.int (nm (look e o))])):=by rw[hvT];exact hq
     exact⟨_,aau,rfl,look e o,rfl,Gen.eR rfl,eS⟩
noncomputable abbrev Fx:ν:=["machine","row","used","word"]
def rM:az Fx qaI (ai oI):=L2.fD
def Bz(D:Df K mg "made_by" oI qaI f fd)(M:zc K aq)(BA:bV P w K mg base "reckoned" qaE 3 (cK K 3 Jw))(oM:bV P w K mg base "cell_of" qaH 3 (cK K 2 wx)):bV P w K mg base "made_by" qaI 4 (cK K 3 (Du aq cFrame (NK.bJ P w))):=by
 refine D.fU (jD D.F rM rfl λbF A outer s H E Ox hr ts q hG=>?_);have nd:=rM.nd;have hu:=bG.fm hr;have np:∀{i:Nat},bN ⟨H,[],Ox⟩ i:=kP;have af:=M;have xo:=o4 hu;have hu3:=Qi hu;refine⟨_,(ah (bc (i:=3) nd rfl (.inl rfl) (Δ (aI (ae 1) (θ ag))) np)
  (ah (bA (bQ hu (ae 3) (θ aC))
   (ar (aE (Δ (aK BA hr (aa (ς (aI (ae 2) (θ ag))) (aa (ς (aI (ae 1) (θ ag))) (aa (ς (aI (ae 2) (θ ag))) ak)))))))
   aM)
  (ah (bA (bQ hu (ae 3) (θ aC))
   (ar (aE (Δ (bH (aa (ς (bf af.cl af.cV (bR (ae 0)))) (aa (ς (A3 xo (θ (bf af.cl af.nq (bR (ae 0)))) (θ (bf af.cl af.cV (bR (ae 0)))) (ς ag) ⟨rfl,rfl,rfl,rfl⟩)) ak))))))
   aM)
  (ah (bA (bQ hu (ae 3) (θ aC))
   (ar (aE (Δ (Tf hu3 (θ (bf af.cl af.wu (bR (ae 0)))) (θ (aK oM hr (aa (ς (aI (ae 1) (θ ag))) (aa (aj 2) ak)))) (ς ag) ⟨rfl,rfl,rfl,rfl⟩))))
   aM)
  (ah (bA (qM (ae 3) (θ (bH (aa (ς aC) (aa (ς aC) ak)))))
   (ar (aE (Δ (jx (bQ hu (θ (aI (ae 2) (θ ag))) (θ ag)) ag ag))))
   aM)
  (ar (aE (Δ (jx (qM (ae 3) (θ (bH (aa (ς aC) (aa (ς aC) (aa (ς aC) ak)))))) (aI (ae 2) (θ (iV (θ ag)))) cX))))))))),λ_=>?_⟩
 obtain⟨a,L,most,pk,fr,ce,ct,dn,p,en,e,r,n,rfl,hk,oO,he,hq⟩:=hG;have ch:∀v:Vl,q (.vw (.int (if v=.num 0 then 0 else 1)))->(if decide (v=.num 0)=true then q (.vw (.int 0)) else q (.vw (.int 1))):=λv h=>by by_cases e:v=.num 0;rw[ε (μ e)];rw[ε e] at h;exact h;rw[ζ (by rw[ι e];exact iM)];rw[ζ e] at h;exact h
 cases r with
 |df f' ps=>exact⟨_,aat,Gen.eR rfl,rfl,rfl,Gen.eR rfl,rfl,rfl,hq⟩
 |put x a=>exact⟨_,aat,Gen.eR rfl,rfl,rfl,Gen.eR rfl,rfl,rfl,_,rfl,hq⟩
 |give a=>exact⟨_,aat,Gen.eR rfl,rfl,rfl,Gen.eR rfl,rfl,rfl,_,rfl,hq⟩
 |call x g as=>exact⟨_,aat,Gen.eR rfl,rfl,rfl,Gen.eR rfl,rfl,rfl,hq⟩
 |fail w=>exact⟨_,aat,Gen.eR rfl,rfl,rfl,Gen.eR rfl,rfl,rfl,hq⟩
 |set y k b=>refine⟨_,aat,Gen.eR rfl,rfl,rfl,Gen.eR rfl,rfl,rfl,_,?_,hq⟩;show jg ((jK.nm y::(NH k++[b])).map λo=>vT (look e o)) (-1)=some (vT (look e b));rw[<- QX,nG];exact L2.jr _ _
 |get x y k=>
  refine⟨_,aat,rfl,_,rfl,rfl,_,aaw,rfl,e,y,k,[],by rw[DX];rfl,hk,?_⟩;have eS:q (.vw (vT (ce.at' (cellK e y k)))):=hq;cases hc:cellK e y k with
  |none=>rw[hc] at eS;exact .inl ⟨rfl,eS⟩
  |some c=>rw[hc] at eS;refine .inr ⟨c,rfl,?_⟩;show q (.vw ((jJ ce.ks ce.ts c).getD (.int 0)));rw[TM];exact eS
 |lW x a op b=>
  have h1:=he.look (oO a (by simp[gR]));have h2:=he.look (oO b (by simp[gR]));refine⟨_,aat,_,aat,_,aaw,_,aau,rfl,?_⟩;rcases Y' hk with rfl|⟨o,rfl⟩
  exact .inl ⟨_,_,rfl,by rw[Og];exact hq⟩;exact .inr ⟨_,_,o,rfl,h1,h2,by rw[Oe];exact hq⟩
 |new x=>refine⟨_,aat,rfl,_,rfl,rfl,_,rfl,rfl,_,rfl,?_⟩;show [T.int (p:Int),(dB ct.ks ct.ts (.inl (p:Int))).getD (.int 0)].length<=sizeLine/\q (.vw (.tup [T.int (p:Int),(dB ct.ks ct.ts (.inl (p:Int))).getD (.int 0)]));rw[Jd];exact⟨Gen.eR rfl,hq⟩
 |lq a=>
  refine⟨_,aat,Gen.eR rfl,rfl,rfl,_,aat,?_⟩;show Mh (vT (look e a)) (vT (.num 0)) (λr=>match r with
   |.vw (.bl c)=>(if c=true then q (.vw (.int 0)) else q (.vw (.int 1)))
   |_=>False)
  exact iL.Jx (ch _ hq)
 |gk a=>
  refine⟨_,aat,Gen.eR rfl,rfl,rfl,_,aat,?_⟩;show Mh (vT (look e a)) (vT (.num 0)) (λr=>match r with
   |.vw (.bl c)=>(if c=true then q (.vw (.int 0)) else q (.vw (.int 1)))
   |_=>False)
  exact iL.Jx (ch _ hq)
 |_=>exact hk.elim
end
end Rg
namespace Rg
open PySem L2 VT Gen K5 Lay
open Nx (Fq T6 gNo)
open iL (Vl vT nm fQ RI)
theorem sL:∀{ρ:En},(ρ.all λe=>match e with|some (_,true)=>false|_=>true)=true->∀e∈ρ,fP e:=λ{ρ} h e he=>by
 have:=QW.mp h e he
 match e,this with
 |none,_=>trivial
 |some (t,false),_=>cases t<;>trivial
def fg{t:T}(h:bZ t=true):kg (some (t,false))=some (t,false):=by show (if bZ t=true then some (t,false) else none)=_;rw[ε h]
def Ux(b:Option T):fP (vwO b):=by
 cases b with
 |none=>trivial
 |some t=>cases t<;>trivial
theorem Za{s:S}(h:∀e∈ρ,fP e):∀e∈lj M ρ s,fP e:=λe he=>by
 unfold lj at he;rcases QQ he with z|z
 obtain⟨e0,h0,rfl⟩:=xn.mp z;have:=h e0 h0
 match e0,this with
 |none,_=>trivial
 |some (t,true),q=>exact q
 |some (t,false),_=>show fP (if bZ t=true then some (t,false) else none);by_cases hi:bZ t=true;rw[ε hi];cases t<;>trivial;rw[ζ hi];trivial
 rw[z];trivial
def BB{d:P4}{ρ':En}{s s':S}(e:s=s')(hρ:lj M ρ s'=ρ')(h:d.nx ρ' s'):d.nx (lj M ρ s) s:=by rw[e,hρ];exact h
def Qs{F:En->S->Prop}{ρ':En}{s s':S}(e:s=s')(hρ:lj M ρ s'=ρ')(h:F ρ' s'):F (lj M ρ s) s:=by rw[e,hρ];exact h
def Oi{d:P4}{ρ':En}{s s':S}{t:T}(e:s=s')(hρ:lj M ρ s'=ρ')(h:d.nx (ρ'.set j (some (t,false))) s'):d.nx ((lj M ρ s).set j (some (t,false))) s:=by rw[e,hρ];exact h
def Zb{d:P4}{s s':S}(e:s=s')(h:d.nx (lj M ρ s') s'):d.nx (lj M ρ s) s:=by rw[e];exact h
def Uy(cM cF cL:Addr)(us:ο)(s:S)(q:S->T->Prop):Prop:=∃rs r j most pk fs f ce ct dn u2 x o,us=[aP r,u2,oV o]/\bZ u2=true/\s=dC cM cF (cj cL rs) most pk (fs++[f]) ce ct dn (.int ((j:Nat):Int)) .aO/\Od rs j r/\mkN r x/\f.ev.is.length<=1000000 /\
 match o with
 |none=>q (dC cM cF (cj cL rs) most pk (fs++[f]) ce ct dn (.int ((j:Nat):Int)) yV) .aO
 |some v=>q (dC cM cF (cj cL rs) most pk (fs++[{f with ev:=f.ev.put x v}]) ce ct dn (.int ((j+1:Nat):Int)) .aO) .aO
def JH(cM cF cL:Addr)(us:ο)(s:S)(q:S->T->Prop):Prop:=∃rs r j most pk fs f ce ct dn u2 x v,us=[aP r,u2,vT v]/\bZ u2=true/\s=dC cM cF (cj cL rs) most pk (fs++[f]) ce ct dn (.int ((j:Nat):Int)) .aO/\Od rs j r/\mkN r x/\f.ev.is.length<=1000000/\ct.is.length<=1000000/\q (dC cM cF (cj cL rs) most pk (fs++[{f with ev:=f.ev.put x v}]) ce (ct.up j) dn (.int ((j+1:Nat):Int)) .aO) .aO
def BC(cM cF cL:Addr)(us:ο)(s:S)(q:S->T->Prop):Prop:=∃L most pk fr ce ct dn pl w u2 u3,us=[aP (.fail w),u2,u3]/\s=dC cM cF L most pk fr ce ct dn pl .aO/\q (dC cM cF L most pk fr ce ct dn pl (Di w)) .aO
def wz(cM cF cL:Addr)(us:ο)(s:S)(q:S->T->Prop):Prop:=∃rs r j most pk fr ce ct dn u1 u2 c,us=[u1,u2,.int c]/\s=dC cM cF (cj cL rs) most pk fr ce ct dn (.int ((j:Nat):Int)) .aO/\Bl rs/\rs[j]?=some r/\Jb r=true/\q (dC cM cF (cj cL rs) most pk fr ce ct dn (.int (if c=1 then (j:Int)+1 else NG rs j)) .aO) .aO
def BD(cM cF cL:Addr)(us:ο)(s:S)(q:S->T->Prop):Prop:=∃rs j f ps gs most pk fr ce ct dn p0 c g,us=[.int ((j:Nat):Int),oT c,g]/\(g=.lst (gs.map vT)\/g=.tup (gs.map vT))/\s=dC cM cF (cj cL rs) most pk fr ce ct dn p0 .aO/\rs[j]?=some (.df f ps)/\ps.length<=100/\fr.length<=1000000 /\
 q (dC cM cF (cj cL rs) most pk (fr++[⟨c,du ps gs ps.length⟩]) ce ct dn (.int ((j:Nat):Int)) .aO) .aO
def BE(cM cF cL:Addr)(us:ο)(s:S)(q:S->T->Prop):Prop:=∃rs j p x g as f ps gs most pk fr ce ct dn u3,us=[aP (.call x g as),.tup (gs.map vT),u3]/\s=dC cM cF (cj cL rs) most pk fr ce ct dn (.int ((j:Nat):Int)) .aO/\xp (bu rs rs.length) g=some p/\rs[p]?=some (.df f ps)/\ps.length<=100/\fr.length<=1000000 /\
 q (dC cM cF (cj cL rs) most pk (fr++[⟨some j,du ps gs ps.length⟩]) ce ct dn (.int ((p:Nat):Int)) .aO) .aO
def BF(cM cF cL:Addr)(us:ο)(s:S)(q:S->T->Prop):Prop:=∃rs most pk fs f ce ct dn pl u1 u2 v,us=[u1,u2,vT v]/\bZ u2=true/\s=dC cM cF (cj cL rs) most pk (fs++[f]) ce ct dn pl .aO /\
 ((f.call=none/\q (dC cM cF (cj cL rs) most pk fs ce ct dn pl (m4 v)) .aO)\/∃c gs g r x,f.call=some c/\fs=gs++[g]/\Od rs c r/\mkN r x/\g.ev.is.length<=1000000/\q (dC cM cF (cj cL rs) most pk (gs++[{g with ev:=g.ev.put x v}]) ce ct dn (.int ((c+1:Nat):Int)) .aO) .aO)
def JI(cM cF cL:Addr)(nh:List Key×Key->Int)(us:ο)(s:S)(q:S->T->Prop):Prop:=∃rs x k a j most pk fr ce ct dn e v,us=[aP (.set x k a),.tup ((gR (.set x k a)).map λo=>vT (look e o)),vT v]/\Lr k/\s=dC cM cF (cj cL rs) most pk fr (Ce.s nh ce) ct dn (.int ((j:Nat):Int)) .aO/\Od rs j (.set x k a)/\ce.is.length<=1000000 /\
 q (dC cM cF (cj cL rs) most pk fr (Ce.s nh (ce.TL v (cellK e x k))) ct dn (.int ((j+1:Nat):Int)) .aO) .aO
def Dw(k:Key):bZ (SX k)=true:=by cases k<;>rfl
def Oj(c:List Key×Key):bZ (Gm c)=true:=by unfold Gm;simp only[bZ,eG,Dw,Bool.and_true];exact eZ (f:=SX) Dw c.1
def JJ(c:Option Nat):bZ (oT c)=true:=by cases c<;>rfl
def i4(h:rs[j]?=some r):jg (rs.map aP) (j:Int)=some (aP r):=aw (by rw[iz,h];rfl)
theorem zg(ps:ν)(gs:List Vl):∀k,(du ps gs k).is.length<=k
 |0=>c9 _
 |k+1=>by have ih:=zg ps gs k;unfold du;split;have:=oE (du ps gs k).ks (du ps gs k).is (.inr ‹Str›) (gs.getD k (.num 0));exact je this (by omega);omega
section
variable{cLayout cFrame aq:Addr}
noncomputable abbrev rN:ν:=qaJ
def jk:az rN qaJ (ai gF):=L2.fD
def pM(D:Df K mg "follow_plain" gF qaJ f fd)(M:zc K aq)(i_:bV P w K mg base "row_behind" qaA 1 (cK K 2 (Fq cLayout))):bV P w K mg base "follow_plain" qaJ 2 (jj K 3 (oK aq cFrame cLayout)):=by refine D.fU (Gn D.F jk rfl (by decide) λbF A outer s H E M0 oz hr us s0 q hG hl=>?_);obtain⟨zh,jX,xt,a0,rO⟩:=M0;have kO:rO=0:=oz;subst kO;have nd:=jk.nd;have af:=M;refine⟨_,(bT (ie af.cl af.cV (λ_=>(ς (aK i_ hr (aa (ς (bf af.cl af.e_ (bR (ae 0)))) (aa (ς (bf af.cl af.cV (bR (ae 0)))) ak))))) rfl)),?_⟩;obtain⟨rs,r,j,most,pk,fr,ce,ct,dn,u1,u2,u3,rfl,rfl,h,hq⟩:=hG;rw[gS];refine⟨rfl,_,rfl,rfl,_,rfl,rfl,rs,j,r,rfl,h.B,h.at',rfl,sL rfl,_,_,7,_,rfl,(by show 9<1000;decide),rfl,rfl,?_⟩;rw[h.bh];exact hq
noncomputable abbrev tI:ν:=qaJ
def jY:az tI qaJ (ai ij):=L2.fD
def rP(D:Df K mg "follow_name" ij qaJ f fd)(M:zc K aq)(M1:V6 K cFrame)(dO:bV P w K mg base "follow_plain" qaJ 2 (jj K 3 (oK aq cFrame cLayout))):bV P w K mg base "follow_name" qaJ 3 (jj K 3 (lT aq cFrame cLayout)):=by
 refine D.fU (Gn D.F jY rfl (by decide) λbF A outer s H E M0 oz hr us s0 q hG hl=>?_);obtain⟨zh,jX,xt,a0,rO⟩:=M0;have kO:rO=0:=oz;subst kO;have nd:=jY.nd;have hu:=bG.fm hr;have xo:=o4 hu;have af:=M;have cc:=M1;refine⟨_,(cJ (C3 xo (jH cc.cl cc.wq (M8 (jH af.cl af.jV (ll)) Ye)) (λ_=>(θ (aI (ae 1) (θ ag)))) (λ_=>(aj 3)))
  (bT (eY dO hr (λ_=>(aa (aj 1) (aa (aj 2) (aa (aj 3) ak)))) rfl))),?_⟩
 obtain⟨rs,r,j,most,pk,fs,f0,ce,ct,dn,u2,x,v,rfl,i2,rfl,h,hx,hn,hq⟩:=hG;have hi:=mT r;obtain⟨y,l,er⟩:∃y l,aP r=.tup (.str y::.str x::l):=by cases r<;>first|exact hx.elim|(cases hx;exact⟨_,_,rfl⟩)
 rw[gS,er];rw[er] at hi;refine⟨⟨_,Jj⟩,_,aau,eJ v,sL rfl,_,_,Jj,(by show (f0.ev.ts).length<_;unfold Ev.ts;rw[cu];omega),?_⟩;refine BB (ρ':=[some (.pin a0 (dC aq cFrame (cj cLayout rs) most pk (fs++[{f0 with ev:=f0.ev.put x v}]) ce ct dn (.int (j:Int)) .aO).t,false),some (.tup (.str y::.str x::l),false),some (u2,false),some (vT v,false)]) (TX (x:=x) (v:=v)) ?_ ?_;show [_,kg (some (.tup (.str y::.str x::l),false)),kg (some (u2,false)),kg (some (vT v,false))]=_;rw[fg hi,fg i2,fg (eJ v)];exact⟨sL rfl,rfl,rs,r,j,most,pk,_,ce,ct,dn,_,_,_,rfl,rfl,h,hq⟩
noncomputable abbrev zi:ν:=qaJ
def nt:az zi qaJ (ai jU):=L2.fD
def wA(D:Df K mg "follow_do" jU qaJ f fd)(M:zc K aq)(cZ:bV P w K mg base "follow_name" qaJ 3 (jj K 3 (lT aq cFrame cLayout))):bV P w K mg base "follow_do" qaJ 4 (jj K 3 (Uy aq cFrame cLayout)):=by
 refine D.fU (Gn D.F nt rfl (by decide) λbF A outer s H E M0 oz hr us s0 q hG hl=>?_);obtain⟨zh,jX,xt,a0,rO⟩:=M0;have kO:rO=0:=oz;subst kO;have nd:=nt.nd;have af:=M;refine⟨_,(bT (uh (λ_=>(x5 (ae 3) (θ cX)))
  (bT (ie af.cl af.hW (λ_=>(ς (bH (aa (ς aC) (aa (ς aC) ak))))) rfl))
  (bT (eY cZ hr (λ_=>(aa (aj 1) (aa (aj 2) (aa (aj 3) ak)))) rfl)))),?_⟩
 obtain⟨rs,r,j,most,pk,fs,f0,ce,ct,dn,u2,x,o,rfl,i2,rfl,h,hx,hn,hq⟩:=hG;cases o with
 |none=>refine⟨Gen.eR rfl,rfl,sL rfl,_,_,8,_,rfl,(by show 9<1000;decide),rfl,rfl,?_⟩;exact hq
 |some v=>
  have hv:qN (vT v)=false:=by cases v<;>rfl
  refine gz (c:=qN (vT v)) hv ?_;exact⟨sL rfl,rfl,rs,r,j,most,pk,fs,f0,ce,ct,dn,u2,x,v,rfl,i2,rfl,h,hx,hn,hq⟩
noncomputable abbrev wB:ν:=qaJ
def kT:az wB qaJ (ai i8):=L2.fD
def tJ(D:Df K mg "follow_new" i8 qaJ f fd)(M:zc K aq)(cZ:bV P w K mg base "follow_name" qaJ 3 (jj K 3 (lT aq cFrame cLayout))):bV P w K mg base "follow_new" qaJ 4 (jj K 3 (JH aq cFrame cLayout)):=by
 refine D.fU (Gn D.F kT rfl (by decide) λbF A outer s H E M0 oz hr us s0 q hG hl=>?_);obtain⟨zh,jX,xt,a0,rO⟩:=M0;have kO:rO=0:=oz;subst kO;have nd:=kT.nd;have hu:=bG.fm hr;have xo:=o4 hu;have af:=M;refine⟨_,(cJ (C3 xo (jH af.cl af.nq (ll)) (λ_=>(θ (bf af.cl af.cV (bR (ae 0))))) (λ_=>(ς (bX (θ (A3 xo (θ (bf af.cl af.nq (bR (ae 0)))) (θ (bf af.cl af.cV (bR (ae 0)))) (ς ag) ⟨rfl,rfl,rfl,rfl⟩)) (θ ag)))))
  (bT (eY cZ hr (λ_=>(aa (aj 1) (aa (aj 2) (aa (aj 3) ak)))) rfl))),?_⟩
 obtain⟨rs,r,j,most,pk,fs,f0,ce,ct,dn,u2,x,v,rfl,i2,rfl,h,hx,hn,hc,hq⟩:=hG;rw[gS];refine⟨rfl,_,rfl,rfl,_,rfl,?_⟩;dsimp only[ya,fT,fC,Rt.t];rw[Jd];refine⟨⟨_,Ji⟩,rfl,_,rfl,rfl,sL rfl,_,_,Ji,(by show ct.ts.length<_;unfold Ct.ts;rw[cu];omega),?_⟩;refine Qs (F:=C4 ⟨zh,jX,xt,a0,0⟩ 3 (lT aq cFrame cLayout) (gu (nX 1) (gu (nX 2) (gu (nX 3) vg))) _) (ρ':=[some (.pin a0 (dC aq cFrame (cj cLayout rs) most pk (fs++[f0]) ce (ct.up j) dn (.int (j:Int)) .aO).t,false),some (aP r,false),some (u2,false),some (vT v,false)]) (TU (p:=j)) ?_ ?_;show [_,kg (some (aP r,false)),kg (some (u2,false)),kg (some (vT v,false))]=_;rw[fg (mT r),fg i2,fg (eJ v)];exact⟨sL rfl,rfl,rs,r,j,most,pk,fs,f0,_,_,dn,_,x,v,rfl,i2,rfl,h,hx,hn,hq⟩
noncomputable abbrev tK:ν:=qaJ
def jZ:az tK qaJ (ai ip):=L2.fD
def rQ(D:Df K mg "follow_fail" ip qaJ f fd)(M:zc K aq):bV P w K mg base "follow_fail" qaJ 1 (jj K 3 (BC aq cFrame cLayout)):=by refine D.fU (Gn D.F jZ rfl (by decide) λbF A outer s H E M0 oz hr us s0 q hG hl=>?_);obtain⟨zh,jX,xt,a0,rO⟩:=M0;have kO:rO=0:=oz;subst kO;have nd:=jZ.nd;have af:=M;refine⟨_,(bT (ie af.cl af.hW (λ_=>(ς (bH (aa (ς aC) (aa (ς (aI (ae 1) (θ ag))) ak))))) rfl)),?_⟩;obtain⟨L,most,pk,fr,ce,ct,dn,pl,w',u2,u3,rfl,rfl,hq⟩:=hG;exact⟨_,aau,Gen.eR rfl,rfl,sL rfl,_,_,8,_,rfl,(by show 9<1000;decide),rfl,rfl,hq⟩
noncomputable abbrev pN:ν:=qaJ
def iJ:az pN qaJ (ai f_):=L2.fD
def oN(D:Df K mg "follow_choice" f_ qaJ f fd)(M:zc K aq)(Fy:bV P w K mg base "yes_row" ["place"] 1 (cK K 1 T6))(JK:bV P w K mg base "no_row" qaA 1 (cK K 2 (gNo cLayout))):bV P w K mg base "follow_choice" qaJ 2 (jj K 3 (wz aq cFrame cLayout)):=by refine D.fU (Gn D.F iJ rfl (by decide) λbF A outer s H E M0 oz hr us s0 q hG hl=>?_);obtain⟨zh,jX,xt,a0,rO⟩:=M0;have kO:rO=0:=oz;subst kO;have nd:=iJ.nd;have hu:=bG.fm hr;have af:=M;refine⟨_,(bT (ie af.cl af.cV (λ_=>(ς (jx (bQ hu (ae 3) (θ ag)) (aK Fy hr (aa (ς (bf af.cl af.cV (bR (ae 0)))) ak)) (aK JK hr (aa (ς (bf af.cl af.e_ (bR (ae 0)))) (aa (ς (bf af.cl af.cV (bR (ae 0)))) ak)))))) rfl)),?_⟩;obtain⟨rs,r,j,most,pk,fr,ce,ct,dn,u1,u2,c,rfl,rfl,B,cT,hh,hq⟩:=hG;rw[gS];refine cN (λe=>?_) (λe=>?_);have e':c=1:=e;rw[ε e'] at hq;exact⟨rfl,_,rfl,rfl,_,rfl,rfl,sL rfl,_,_,7,_,rfl,(by show 9<1000;decide),rfl,rfl,hq⟩;have e':¬ c=1:=e;rw[ζ e'] at hq;exact⟨rfl,_,rfl,rfl,_,rfl,rfl,rs,j,r,rfl,B,cT,hh,rfl,sL rfl,_,_,7,_,rfl,(by show 9<1000;decide),rfl,rfl,hq⟩
noncomputable abbrev wC:ν:=["machine","row","used","made","cell"]
def kU:az wC qaJ (ai i9):=L2.fD
def tM(D:Df K mg "follow_set" i9 qaJ f fd)(M:zc K aq)(oM:bV P w K mg base "cell_of" qaH 3 (cK K 2 wx))(dO:bV P w K mg base "follow_plain" qaJ 2 (jj K 3 (oK aq cFrame cLayout))):bV P w K mg base "follow_set" qaJ 4 (jj K 3 (JI aq cFrame cLayout (NK.bJ P w))):=by
 refine D.fU (Gn D.F kU rfl (by decide) λbF A outer s H E M0 oz hr us s0 q hG hl=>?_);obtain⟨zh,jX,xt,a0,rO⟩:=M0;have kO:rO=0:=oz;subst kO;have nd:=kU.nd;have hu:=bG.fm hr;have af:=M;have hu3:=Qi hu;refine⟨_,(cJ (eX λ_=>(bc (i:=4) nd rfl (.inl rfl) (Δ (aK oM hr (aa (ς (aI (ae 1) (θ ag))) (aa (aj 2) ak)))) kP))
  (cJ (uh (λ_=>(mz (ae 4) (θ cX)))
   (bT (Ng hu3 (jH af.cl af.wu (ll)) (λ_=>(ae 4)) (λ_=>(aj 3))))
   M7)
  (bT (eY dO hr (λ_=>(aa (aj 1) (aa (aj 2) (aa (aj 3) ak)))) rfl)))),?_⟩
 obtain⟨rs,x,k,a,j,most,pk,fr,ce,ct,dn,e,v,rfl,hk,rfl,h,hn,hq⟩:=hG;have iu:bZ (.tup ((gR (.set x k a)).map λo=>vT (look e o)))=true:=by simp only[bZ];exact eZ (f:=λo=>vT (look e o)) (λo=>eJ _) _
 have ir:=mT (.set x k a);refine⟨_,aav,rfl,e,x,k,[a],rfl,hk,rfl,?_⟩;cases hc:cellK e x k with
 |none=>rw[hc] at hq;exact⟨sL rfl,rfl,rs,_,j,most,pk,fr,_,ct,dn,_,_,_,rfl,rfl,h,hq⟩
 |some c=>
  rw[hc] at hq;refine⟨⟨_,Jh⟩,c,rfl,eJ v,sL rfl,ce.ks,ce.ts,Jh,(by show ce.ts.length<_;unfold Ce.ts;rw[cu];omega),?_⟩;have hp:(dC aq cFrame (cj cLayout rs) most pk fr (Ce.s (NK.bJ P w) ce) ct dn (.int (j:Int)) .aO).put [.fld aq "cells"] (.dc (NK.bJ P w) (qY ce.ks c) (gb ce.ks ce.ts c (vT v)))=dC aq cFrame (cj cLayout rs) most pk fr (Ce.s (NK.bJ P w) (ce.put c v)) ct dn (.int (j:Int)) .aO:=by rw[TQ,TN];rfl
  refine Qs (F:=C4 ⟨zh,jX,xt,a0,0⟩ 3 (oK aq cFrame cLayout) (gu (nX 1) (gu (nX 2) (gu (nX 3) vg))) _) (ρ':=[some (.pin a0 (dC aq cFrame (cj cLayout rs) most pk fr (Ce.s (NK.bJ P w) (ce.put c v)) ct dn (.int (j:Int)) .aO).t,false),some (aP (.set x k a),false),some (.tup ((gR (.set x k a)).map λo=>vT (look e o)),false),some (vT v,false),some (Gm c,false)]) hp ?_ ?_;show [_,kg (some (aP (.set x k a),false)),kg (some (.tup ((gR (.set x k a)).map λo=>vT (look e o)),false)),kg (some (vT v,false)),kg (some (Gm c,false))]=_;rw[fg ir,fg iu,fg (eJ v),fg (Oj c)];exact⟨sL rfl,rfl,rs,_,j,most,pk,fr,_,ct,dn,_,_,_,rfl,rfl,h,hq⟩
noncomputable abbrev Ol:ν:=["machine","place","call","given","names","at","name"]
def zj:az Ol qaK (ai wj):=L2.fD
def JL(D:Df K mg "enter" wj qaK f fd)(M:MgR mg)(M1:zc K aq)(M2:V6 K cFrame)(M3:NP K cLayout)(Om:HY P w K mg base "Frame" cFrame qaF 1 2 (JF cFrame)):bV P w K mg base "enter" qaK 3 (jj K 3 (BD aq cFrame cLayout)):=by
 obtain⟨acD,Zd,Oo,Oq,Ot,Ou⟩:=Om;refine D.fU (Gn D.F zj rfl (by decide) λbF A outer s H E M0 oz hr us s0 q hG hl=>?_);obtain⟨zh,jX,xt,a0,rO⟩:=M0;have kO:rO=0:=oz;subst kO;have nd:=zj.nd;have hu:=bG.fm hr;have xo:=o4 hu;have af:=M1;have cc:=M2;have ax:=M3;refine⟨_,(cJ (eX λ_=>(d9 (i:=4) nd rfl (.inl rfl) (Δ CU) kP))
  (cJ (eX λ_=>(dG xl rfl (IE (by rfl) M.enumerate (ς (aI (θ (aI (θ (bf ax.cl ax.dU (θ (bf af.cl af.e_ (bR (ae 0)))))) (ae 1))) (θ ag)))) (qz (n:=2) rfl (eC (br (i:=5) nd rfl (.inl rfl) kP) (eC (br (i:=6) nd rfl (.inl rfl) kP) mq)))
   (ar (CW 4 xo (ς (jx (jy (ae 5) (θ (aY aZ a_ (by rfl) M.len lZ (aJ (ae 3) aX)))) (aI (ae 3) (ae 5)) ag)) (ae 6)))))
  (cJ (Na (i:=2) (n:=4) (jH af.cl af.jV (ll)) (S8 Oo Ou (λt1 t2 q hq=>⟨t1,t2,rfl,hq⟩) (hr.mono (by decide)) (by rfl) Oq Ot))
  (bT (ie af.cl af.cV (λ_=>(aj 1)) rfl))))),?_⟩
 obtain⟨rs,j,f',ps,gs,most,pk,fr,ce,ct,dn,p0,c,g,rfl,hg,rfl,cT,Y2,hfr,hq⟩:=hG;rw[gS];refine⟨by rw[gS];rfl,?_⟩;refine⟨rfl,_,rfl,rfl,_,rfl,_,i4 cT,_,aav,?_⟩;show oZ (dX (ps.map T.str)) _ _ _ [some (.pin a0 (V2 aq cFrame (cj cLayout rs) most pk fr ce ct dn p0 .aO),false),some (.int (j:Int),false),some (oT c,false),some (g,false),some (.dk [] [],true),none,none];refine uq (f:=T.str) (λi ρ=>∃b5 b6,ρ=[some (.pin a0 (V2 aq cFrame (cj cLayout rs) most pk fr ce ct dn p0 .aO),false),some (.int (j:Int),false),some (oT c,false),some (g,false),some (.dk (du ps gs i).ks (du ps gs i).ts,true),vwO b5,vwO b6]) ⟨none,none,rfl⟩ ?_ ?_
 . rintro i x ρ hx ⟨b5,b6,rfl⟩;have es:du ps gs (i+1)=(du ps gs i).put x (gs.getD i (.num 0)):=by simp only[du,hx]
   have Vz:((du ps gs i).ts).length<16777216:=by have:=zg ps gs i;have:=(eE.mp hx).1;unfold Ev.ts;rw[cu];omega
   rw[es];obtain rfl|rfl:=hg
   all_goals
    refine⟨rfl,rfl,cN (λh=>?_) (λh=>?_)⟩;have h':(i:Int)<((gs.map vT).length:Int):=h;rw[cu] at h';have hg':i<gs.length:=by omega
    have ev:gs.getD i (.num 0)=gs[i]:=by rw[List.getD,iy hg'];rfl
    refine⟨vT gs[i],aw (by rw[iz,iy hg'];rfl),Vz,?_⟩;rw[ev,<- Bk];exact⟨some (.int (i:Int)),some (.str x),rfl⟩;have h':¬ ((i:Int)<((gs.map vT).length:Int)):=h;rw[cu] at h';have ev:gs.getD i (.num 0)=.num 0:=by rw[List.getD,Gu (by omega)];rfl
    refine⟨Vz,?_⟩;rw[ev,<- Bk];exact⟨some (.int (i:Int)),some (.str x),rfl⟩
 rintro ρ ⟨b5,b6,rfl⟩;refine⟨by rw[gS];rfl,?_⟩;refine⟨_,oT c,_,_,Jf,by rw[cu];omega,(λz=>nomatch z),rfl,JJ c,rfl,?_,?_,?_⟩;exact eZ (f:=vT) eJ _;intro e he;simp only[c0,fA,π] at he;obtain rfl|rfl|rfl|rfl|rfl|rfl|rfl:=he
 trivial;trivial;cases c<;>trivial;obtain rfl|rfl:=hg<;>trivial
 exact eZ (f:=vT) eJ _;exact Ux b5;exact Ux b6;have e:S.lst (fr.map (xr cFrame)++[.ins cFrame qaw [.lf (oT c),.dk (du ps gs ps.length).ks (du ps gs ps.length).ts]])=.lst ((fr++[Fr.mk c (du ps gs ps.length)]).map (xr cFrame)):=by rw[nG];rfl
 refine Zb (s':=dC aq cFrame (cj cLayout rs) most pk (fr++[Fr.mk c (du ps gs ps.length)]) ce ct dn p0 .aO) (by show S.put _ _ _=_;rw[e];exact Jg) ?_;refine⟨rfl,Za ?_,_,_,7,_,rfl,(by show 9<1000;decide),rfl,rfl,?_⟩;intro e he;simp only[Pc,Gv,c0,fA,π] at he;obtain rfl|rfl|rfl|rfl|rfl|rfl|rfl:=he
 trivial;trivial;cases c<;>trivial;obtain rfl|rfl:=hg<;>trivial
 trivial;exact Ux b5;exact Ux b6;exact hq
noncomputable abbrev tO:ν:=qaJ
def j1:az tO qaJ (ai il):=L2.fD
def rR(D:Df K mg "follow_call" il qaJ f fd)(M:zc K aq)(M1:NP K cLayout)(wD:bV P w K mg base "enter" qaK 3 (jj K 3 (BD aq cFrame cLayout))):bV P w K mg base "follow_call" qaJ 4 (jj K 3 (BE aq cFrame cLayout)):=by
 refine D.fU (Gn D.F j1 rfl (by decide) λbF A outer s H E M0 oz hr us s0 q hG hl=>?_);obtain⟨zh,jX,xt,a0,rO⟩:=M0;have kO:rO=0:=oz;subst kO;have nd:=j1.nd;have hu:=bG.fm hr;have xo:=o4 hu;have af:=M;have ax:=M1;have xo:=o4 hu;refine⟨_,(bT (eY wD hr (λ_=>(aa (ς (SQ xo (θ (bf ax.cl ax.v7 (θ (bf af.cl af.e_ (bR (ae 0)))))) (θ (aI (ae 1) (θ ag))))) (aa (ς (bf af.cl af.cV (bR (ae 0)))) (aa (aj 2) ak)))) rfl)),?_⟩;obtain⟨rs,j,p,x,g,as,f',ps,gs,most,pk,fr,ce,ct,dn,u3,rfl,rfl,hp,cT,Y2,hfr,hq⟩:=hG;rw[gS];have hd:dB ((bu rs rs.length).map λp=>(Sum.inr p.1:Key)) ((bu rs rs.length).map λp=>T.int (p.2:Int)) (Sum.inr g)=some (.int (p:Int)):=by rw[IW,hp];rfl
 refine⟨sL rfl,rfl,_,rfl,rfl,_,rfl,_,aav,_,hd,rfl,_,rfl,rfl,rs,p,f',ps,gs,most,pk,fr,ce,ct,dn,_,some j,_,rfl,.inr rfl,rfl,cT,Y2,hfr,hq⟩
noncomputable abbrev tP:ν:=["machine","row","used","made","call"]
def j2:az tP qaJ (ai ik):=L2.fD
def rS(D:Df K mg "follow_give" ik qaJ f fd)(M:zc K aq)(M1:V6 K cFrame)(M2:NP K cLayout)(cZ:bV P w K mg base "follow_name" qaJ 3 (jj K 3 (lT aq cFrame cLayout))):bV P w K mg base "follow_give" qaJ 4 (jj K 3 (BF aq cFrame cLayout)):=by
 refine D.fU (Gn D.F j2 rfl (by decide) λbF A outer s H E M0 oz hr us s0 q hG hl=>?_);obtain⟨zh,jX,xt,a0,rO⟩:=M0;have kO:rO=0:=oz;subst kO;have nd:=j2.nd;have af:=M;have cc:=M1;have ax:=M2;refine⟨_,(cJ (M' (j:=4) nd rfl (.inl rfl) cc.cl cc.wo (jH af.cl af.jV (ll)))
  (bT (uh (λ_=>(x5 (ae 4) (θ cX)))
   (bT (ie af.cl af.hW (λ_=>(ς (bH (aa (ς aC) (aa (aj 3) ak))))) rfl))
   (cJ (ie af.cl af.cV (λ_=>(aj 4)) rfl)
   (bT (eY cZ hr (λ_=>(aa (ς (aI (θ (bf ax.cl ax.dU (θ (bf af.cl af.e_ (bR (ae 0)))))) (ae 4))) (aa (aj 2) (aa (aj 3) ak)))) rfl)))))),?_⟩
 obtain⟨rs,most,pk,fs,f0,ce,ct,dn,pl,u1,u2,v,rfl,i2,rfl,hq⟩:=hG;refine⟨fs.map (xr cFrame),qaw,[.lf (oT f0.call),.dk f0.ev.ks f0.ev.ts],0,oT f0.call,(λz=>nomatch z),(by show S.get _ [.fld aq "frames"]=_;rw[Jf,nG];rfl),rfl,rfl,JJ _,sL rfl,?_⟩;have hρ:lj ⟨zh,jX,xt,a0,0⟩ [some (.pin a0 (dC aq cFrame (cj cLayout rs) most pk (fs++[f0]) ce ct dn pl .aO).t,false),some (u1,false),some (u2,false),some (vT v,false),none] (dC aq cFrame (cj cLayout rs) most pk fs ce ct dn pl .aO)=[some (.pin a0 (dC aq cFrame (cj cLayout rs) most pk fs ce ct dn pl .aO).t,false),kg (some (u1,false)),some (u2,false),some (vT v,false),none]:=by show [_,kg (some (u1,false)),kg (some (u2,false)),kg (some (vT v,false)),kg none]=_;rw[fg i2,fg (eJ v)];rfl
 have iu1:∀e,e=kg (some (u1,false))->fP e:=λe he=>by rw[he];show fP (if bZ u1=true then some (u1,false) else none);split;cases u1<;>trivial;trivial
 refine Oi (Jg (fr':=fs)) hρ ?_;have iA:∀e∈[some (.pin a0 (dC aq cFrame (cj cLayout rs) most pk fs ce ct dn pl .aO).t,false),kg (some (u1,false)),some (u2,false),some (vT v,false),some (oT f0.call,false)],fP e:=λe he=>by
  simp only[c0,fA,π] at he;obtain rfl|he|rfl|rfl|rfl:=he
  trivial;exact iu1 e he;cases u2<;>trivial;cases v<;>trivial;cases f0.call<;>trivial
 obtain⟨hc,hq⟩|⟨c,gs,g,r,x,hc,rfl,h,hx,hn,hq⟩:=hq
 rw[hc];exact⟨Gen.eR rfl,(by show bZ (.tup [.str "done",vT v])=true;simp only[bZ,eG,eJ];rfl),by rw[hc] at iA;exact iA,_,_,8,_,rfl,(by show 9<1000;decide),rfl,rfl,hq⟩;rw[hc];refine⟨rfl,by rw[hc] at iA;exact iA,_,_,7,_,rfl,(by show 9<1000;decide),rfl,rfl,?_⟩;refine BB (s':=dC aq cFrame (cj cLayout rs) most pk (gs++[g]) ce ct dn (.int (c:Int)) .aO) (ρ':=[some (.pin a0 (dC aq cFrame (cj cLayout rs) most pk (gs++[g]) ce ct dn (.int (c:Int)) .aO).t,false),kg (kg (some (u1,false))),some (u2,false),some (vT v,false),some (.int (c:Int),false)]) rfl ?_ ?_;show [_,kg (kg (some (u1,false))),kg (some (u2,false)),kg (some (vT v,false)),kg (some (.int (c:Int),false))]=_;rw[fg i2,fg (eJ v),fg (t:=.int (c:Int)) rfl];refine⟨λe he=>?_,?_⟩;simp only[c0,fA,π] at he;obtain rfl|he|rfl|rfl|rfl:=he
 trivial;rw[he];show fP (kg (if bZ u1=true then some (u1,false) else none));by_cases h1:bZ u1=true;rw[ε h1,fg h1];cases u1<;>trivial;rw[ζ h1];trivial;cases u2<;>trivial;cases v<;>trivial;trivial;rw[gS];exact⟨rfl,_,rfl,rfl,_,rfl,_,i4 h.at',rfl,rs,r,c,most,pk,gs,g,ce,ct,dn,_,x,v,rfl,i2,rfl,h,hx,hn,hq⟩
end
end Rg
namespace Rg
open PySem L2 VT Gen K5 Lay
open nU (dm)
open iL (Vl vT nm fQ RI)
def V7:Rw->Prop
 |.df _ ps=>ps.length<=50/\∀x∈ps,dm x=true/\x.length<=100
 |.put _ a=>rp a
 |.give a=>rp a
 |.lq a=>rp a
 |.gk a=>rp a
 |.lW _ a op b=>rp a/\op∈reckon/\rp b
 |.get _ r k=>rp (.nm r)/\Lr k
 |.set r k a=>rp (.nm r)/\Lr k/\rp a
 |.call _ _ as=>as.length<=50/\∀o∈as,rp o
 |_=>True
structure Wl(rs:S1):Prop where
 B:Bl rs
 ok:∀r∈rs,V7 r
 D:oB rs
 n:rs.length<=100
inductive gH(rs:S1):List Fr->Fr->Prop
 |main {f:Fr} (h:f.call=none):gH rs [] f
 |sub {gs:List Fr} {g f:Fr} {c:Nat} {x h:Str} {as:List jK} (hc:f.call=some c) (hr:rs[c]?=some (.call x h as)) (hd:1<=dp (bK rs) c) (k:gH rs gs g):gH rs (gs++[g]) f
def gH.inv{fs:List Fr}{f:Fr}(h:gH rs fs f):(fs=[]/\f.call=none)\/∃(gs:List Fr)(g:Fr)(c:Nat)(x y:Str)(as:List jK),fs=gs++[g]/\f.call=some c/\rs[c]?=some (.call x y as)/\1<=dp (bK rs) c/\gH rs gs g:=by
 cases h with
 |main h=>exact .inl ⟨rfl,h⟩
 |sub hc hr hd k=>exact .inr ⟨_,_,_,_,_,_,rfl,hc,hr,hd,k⟩
def gH.same{fs:List Fr}{f g:Fr}(h:gH rs fs f)(e:g.call=f.call):gH rs fs g:=by
 obtain⟨rfl,h1⟩|⟨gs,g',c,x,y,as,rfl,h1,h2,h3,h4⟩:=h.inv
 exact .main (e.trans h1);exact .sub (e.trans h1) h2 h3 h4
structure tQ(rs:S1)(s:Lv):Prop where
 pl:s.pl<rs.length
 ins:1<=dp (bK rs) s.pl\/∃f ps,rs[s.pl]?=some (.df f ps)
 ev:gE s.f.ev (100+s.dn.length)
 fs:∀g∈s.fs,gE g.ev (100+s.dn.length)
 nf:s.fs.length<=s.dn.length
 ce:ly s.ce s.dn.length
 ct:s.ct.is.length<=s.dn.length
 ca:gH rs s.fs s.f
section
def gE.up{e:Ev}(h:gE e n)(hm:n<=m):gE e m:=⟨by have:=h.n;omega,h.ri⟩
def ly.up{c:Ce}(h:ly c n)(hm:n<=m):ly c m:=⟨by have:=h.1;omega,h.2⟩
def zk(B:Bl rs)(hj:j<=rs.length)(h:1<=dp (bK rs) j):j<rs.length:=by
 rcases Nat.lt_or_ge j rs.length with z|z
 exact z;have e:j=rs.length:=by omega
 subst e;unfold dp at h;rw[B.W.fin] at h;exact absurd h (by simp)
def j3(B:Bl rs)(hr:rs[j]?=some r)(ho:NW r=true)(hi:1<=dp (bK rs) j\/∃f ps,rs[j]?=some (.df f ps)):j+1<rs.length/\1<=dp (bK rs) (j+1):=by
 have hj:=(eE.mp hr).1;have kk:=fG hr;have h1:1<=dp (bK rs) (j+1):=by
  by_cases Aa:(bt r).op=true;rw[uw B.W hj (by rw[kk];exact Aa)];omega;obtain hi|⟨f,ps,hd⟩:=hi
  rw[yK (by rw[kk];cases r<;>first|rfl|cases ho) (by rw[kk];simpa using Aa)];exact hi;rw[hr] at hd;cases hd;exact absurd rfl Aa
 exact⟨zk B (by omega) h1,h1⟩
def JM(ho:Jb r=true):wd r="if"\/wd r="while":=by cases r<;>first|(cases ho;done)|exact .inl rfl|exact .inr rfl
def BG(B:Bl rs)(hr:rs[j]?=some r)(ho:Jb r=true):1<=dp (bK rs) j/\j+1<rs.length/\1<=dp (bK rs) (j+1):=by
 have hj:=(eE.mp hr).1;have kk:=fG hr;have h0:1<=dp (bK rs) j:=by have:=B.inn hr (by rcases JM ho with e|e<;>rw[e]<;>decide +kernel) (by rcases JM ho with e|e<;>rw[e]<;>decide +kernel);unfold dp;exact Pb.mpr this
 have Aa:(bt r).op=true:=by cases r<;>first|rfl|cases ho
 have h1:1<=dp (bK rs) (j+1):=by rw[uw B.W hj (by rw[kk];exact Aa)];omega
 exact⟨h0,zk B (by omega) h1,h1⟩
def Dx(B:Bl rs)(hr:rs[j]?=some r)(ho:Jb r=true):∃k:Nat,NG rs j=(k:Int)/\j<k/\k<rs.length/\1<=dp (bK rs) k:=by
 obtain⟨h0,_,_⟩:=BG B hr ho;obtain⟨e,b⟩:=B.YV hr (JM ho);obtain⟨g1,g2,g3,g4,g5⟩:=B.top b.lt b.op b.en;have ee:pL rs j=(e:Int):=by unfold pL;rw[b.en]
 unfold NG;rw[hr];cases r with
 |gk a=>
  refine⟨e+1,by show pL rs j+1=_;rw[ee];push_cast;rfl,by omega,?_⟩;have h1:1<=dp (bK rs) (e+1):=by rw[g3];exact h0
  exact⟨zk B (by omega) h1,h1⟩
 |lq a=>
  show ∃k:Nat,(match Ja rs j with|none=>pL rs j|some x=>(x:Int)+1)=(k:Int)/\_;cases hx:Ja rs j with
  |none=>exact⟨e,ee,by omega,by omega,by rw[b.de];omega⟩
  |some x=>
   obtain⟨x1,x2,x3⟩:=yR hx;have hxe:=TB x2;obtain⟨d2,o,_,q1,_,_⟩:=B.nJ hxe;have hxl:=(eE.mp hxe).1;have kx:=fG hxe;have h1:dp (bK rs) (x+1)=dp (bK rs) x:=yK (by rw[kx];rfl) (by rw[kx];rfl);have h2:1<=dp (bK rs) (x+1):=by omega
   have hjx:j<x:=by unfold mZ at x3;rw[xv] at x3;exact (yL B.W x (by omega) _ _ x3).1
   exact⟨x+1,by push_cast;rfl,by omega,zk B (by omega) h2,h2⟩
 |_=>cases ho
def JN(B:Bl rs)(hr:rs[j]?=some r)(hs:jm r=true)(hi:1<=dp (bK rs) j):∃k:Nat,Bj rs j=(k:Int)/\k<rs.length/\1<=dp (bK rs) k/\(j<k\/∃a,rs[k]?=some (.gk a)):=by
 have hj:=(eE.mp hr).1;have kk:=fG hr;unfold Bj;rw[hr];cases r with
 |skip=>obtain⟨h1,h2⟩:=j3 B hr rfl (.inl hi);exact⟨j+1,by push_cast;rfl,h1,h2,.inl (by omega)⟩
 |nJ=>
  obtain⟨d2,o,a,q1,q2,_⟩:=B.nJ hr;have eh:Gq rs j=o:=by unfold Gq;rw[q1];rfl
  show ∃k:Nat,pL rs (Gq rs j)=(k:Int)/\_;rw[eh];obtain⟨e,b⟩:=B.YV q2 (.inl rfl);have Uz:=q1;unfold mZ at Uz;rw[xv] at Uz;obtain⟨s1,s2,s3,s4⟩:=yL B.W j (by omega) _ _ Uz;have hje:j<e:=by
   rcases Nat.lt_or_ge j e with z|z
   exact z;have h9:=(B.top b.lt b.op b.en).2.2.1;by_cases ej:j=e;subst ej;rw[b.re] at hr;cases hr;have:=s4 (e+1) (by have:=b.le;omega) (by omega);omega
  exact⟨e,by unfold pL;rw[b.en],b.el,by rw[b.de];omega,.inl hje⟩
 |fin=>
  obtain⟨d2,o,r',q1,q2,_⟩:=B.fin hr;have eh:Gq rs j=o:=by unfold Gq;rw[q1];rfl
  show ∃k:Nat,(match rs[Gq rs j]? with|some (.gk _)=>(Gq rs j:Int)|_=>(j:Int)+1)=(k:Int)/\_;rw[eh,q2];have Uz:=q1;unfold mZ at Uz;rw[xv] at Uz;obtain⟨s1,s2,s3,s4⟩:=yL B.W j (by omega) _ _ Uz;have G9:dp (bK rs) (j+1)+1=dp (bK rs) j:=yJ B.W hj (by rw[kk];rfl);have h2:1<=dp (bK rs) (j+1):=by omega
  have nx:∃k:Nat,(j:Int)+1=(k:Int)/\k<rs.length/\1<=dp (bK rs) k/\(j<k\/∃a,rs[k]?=some (.gk a)):=⟨j+1,by push_cast;rfl,zk B (by omega) h2,h2,.inl (by omega)⟩;cases r' with
  |gk a=>exact⟨o,rfl,by omega,by rw[s3];unfold dp at d2;omega,.inr ⟨a,q2⟩⟩
  |_=>exact nx
 |_=>cases hs
theorem wF(ps:ν)(gs:List Vl)(hg:∀g∈gs,RV g):∀k,gE (du ps gs k) k
 |0=>⟨c9 _,λi hi=>nomatch hi⟩
 |k+1=>by
  have ih:=wF ps gs hg k;unfold du;split;refine ih.put _ ?_;rw[List.getD];cases e:gs[k]? with
  |none=>exact TF
  |some g=>exact hg g (gM e)
  exact ih.up (by omega)
def rT(W:Wl rs){s:Lv}(I:tQ rs s)(hr:rs[s.pl]?=some r)(hs:jm r=false):(∃s',cU rs r s=.inl s'/\tQ rs s'/\s'.dn.length=s.dn.length+1)\/∃R,cU rs r s=.inr R:=by
 have Dy:=W.ok r (gM hr);have e1:∀d:T,(s.dn++[d]).length=s.dn.length+1:=λd=>by simp
 have UA:=I.ev;have name:∀(x:Str)(v:Vl)(d:T)(ct':Ct),RV v->ct'.is.length<=s.dn.length+1->NW r=true->tQ rs (uz {s with ct:=ct'} x v d):=λx v d ct' hv hc ho=>by obtain⟨h1,h2⟩:=j3 W.B hr ho I.ins;refine⟨h1,.inl h2,?_,λg hg=>?_,?_,?_,?_,?_⟩;show gE (s.f.ev.put x v) (100+(s.dn++[d]).length);rw[e1];exact UA.put x hv;show gE g.ev (100+(s.dn++[d]).length);rw[e1];exact (I.fs g hg).up (by omega);show s.fs.length<=(s.dn++[d]).length;rw[e1];have:=I.nf;omega;show ly s.ce (s.dn++[d]).length;rw[e1];exact I.ce.up (by omega);show ct'.is.length<=(s.dn++[d]).length;rw[e1];exact hc;show gH rs s.fs {s.f with ev:=s.f.ev.put x v};exact I.ca.same rfl
 have V8:s.ct.is.length<=s.dn.length+1:=by have:=I.ct;omega
 have move:∀(d:T)(TR:Ce)(p:Nat),ly TR (s.dn.length+1)->p<rs.length->1<=dp (bK rs) p->tQ rs {s with ce:=TR,dn:=s.dn++[d],pl:=p}:=λd TR p hc h1 h2=>by refine⟨h1,.inl h2,?_,λg hg=>?_,?_,?_,?_,I.ca⟩;show gE s.f.ev (100+(s.dn++[d]).length);rw[e1];exact UA.up (by omega);show gE g.ev (100+(s.dn++[d]).length);rw[e1];exact (I.fs g hg).up (by omega);show s.fs.length<=(s.dn++[d]).length;rw[e1];have:=I.nf;omega;show ly TR (s.dn++[d]).length;rw[e1];exact hc;show s.ct.is.length<=(s.dn++[d]).length;rw[e1];exact V8
 have V9:ly s.ce (s.dn.length+1):=I.ce.up (by omega);cases r with
 |df f ps=>obtain⟨h1,h2⟩:=j3 W.B hr rfl I.ins;exact .inl ⟨_,rfl,move _ s.ce _ V9 h1 h2,e1 _⟩
 |put x a=>exact .inl ⟨_,rfl,name x _ _ s.ct (UA.look Dy) V8 rfl,e1 _⟩
 |get x y k=>
  refine .inl ⟨_,rfl,name x _ _ s.ct ?_ V8 rfl,e1 _⟩;cases cellK s.f.ev y k with
  |none=>exact TF
  |some c=>exact I.ce.get c
 |set y k a=>
  obtain⟨h1,h2⟩:=j3 W.B hr rfl I.ins;refine .inl ⟨_,rfl,move _ (s.ce.TL (look s.f.ev a) (cellK s.f.ev y k)) _ ?_ h1 h2,e1 _⟩;cases cellK s.f.ev y k with
  |none=>exact V9
  |some c=>exact I.ce.put c (UA.look Dy.2.2)
 |lW x a op b=>
  show (∃s',(match Bn op (look s.f.ev a) (look s.f.ev b) with|none=>Sum.inr _|some v=>Sum.inl _)=Sum.inl s'/\_)\/∃R,(match Bn op (look s.f.ev a) (look s.f.ev b) with|none=>Sum.inr _|some v=>Sum.inl _)=Sum.inr R;cases hk:Bn op (look s.f.ev a) (look s.f.ev b) with
  |none=>exact .inr ⟨_,rfl⟩
  |some v=>exact .inl ⟨_,rfl,name x (.num v) _ s.ct (TK hk) V8 rfl,e1 _⟩
 |new x=>refine .inl ⟨_,rfl,name x _ _ (s.ct.up s.pl) TF ?_ rfl,e1 _⟩;have:=oE s.ct.ks s.ct.is (.inl (s.pl:Int)) (s.ct.get s.pl+1);have:=I.ct;show (cH s.ct.ks s.ct.is (.inl (s.pl:Int)) (s.ct.get s.pl+1)).length<=_;omega
 |lq a=>obtain⟨_,y1,y2⟩:=BG W.B hr rfl;obtain⟨k,n1,_,n3,n4⟩:=Dx W.B hr rfl;refine .inl ⟨_,rfl,move _ s.ce _ V9 ?_ ?_,e1 _⟩;split;rw[n1];exact n3;exact y1;split;rw[n1];exact n4;exact y2
 |gk a=>obtain⟨_,y1,y2⟩:=BG W.B hr rfl;obtain⟨k,n1,_,n3,n4⟩:=Dx W.B hr rfl;refine .inl ⟨_,rfl,move _ s.ce _ V9 ?_ ?_,e1 _⟩;split;rw[n1];exact n3;exact y1;split;rw[n1];exact n4;exact y2
 |fail w=>exact .inr ⟨_,rfl⟩
 |give a=>
  have hv:=UA.look Dy;obtain⟨h0,h1⟩|⟨gs,g,c,x,y,as,h0,h1,h2,h3,h4⟩:=I.ca.inv
  refine .inr ⟨(s.dn++[vS s.f.ev s.ce s.ct s.pl (.give a)],m4 (look s.f.ev a)),?_⟩;unfold cU;dsimp only;rw[h1];have ed:cU rs (.give a) s=.inl {fs:=gs,f:={g with ev:=g.ev.put x (look s.f.ev a)},ce:=s.ce,ct:=s.ct,dn:=s.dn++[vS s.f.ev s.ce s.ct s.pl (.give a)],pl:=c+1}:=by unfold cU;dsimp only;rw[h1,h0,Lx];dsimp only;rw[h2,QS]
  obtain⟨p1,p2⟩:=j3 W.B h2 rfl (.inl h3);refine .inl ⟨_,ed,⟨p1,.inl p2,?_,λg' hg=>?_,?_,?_,?_,?_⟩,e1 _⟩;show gE (g.ev.put x (look s.f.ev a)) (100+(s.dn++[_]).length);rw[e1];exact (I.fs g (by rw[h0];simp)).put x hv;show gE g'.ev (100+(s.dn++[_]).length);rw[e1];exact (I.fs g' (by rw[h0];exact cW _ hg)).up (by omega);show gs.length<=(s.dn++[_]).length;have:=I.nf;rw[h0,nL] at this;rw[e1];omega;show ly s.ce (s.dn++[_]).length;rw[e1];exact V9;show s.ct.is.length<=(s.dn++[_]).length;rw[e1];exact V8;exact h4.same rfl
 |call x g as=>
  obtain⟨p,ps,q1,q2,q3⟩:=W.D.ca s.pl x g as hr;have ef:=W.D.first q2
  have UB:=W.ok _ (gM q2);have hp:=(eE.mp q2).1;have ed:cU rs (.call x g as) s=.inl {fs:=s.fs++[s.f],f:=⟨some s.pl,du ps (as.map (look s.f.ev)) ps.length⟩,ce:=s.ce,ct:=s.ct,dn:=s.dn++[vS s.f.ev s.ce s.ct s.pl (.call x g as)],pl:=p}:=by unfold cU;dsimp only;rw[ef];dsimp only;rw[q2]
  refine .inl ⟨_,ed,⟨hp,.inr ⟨g,ps,q2⟩,?_,λg' hg=>?_,?_,?_,?_,?_⟩,e1 _⟩;show gE (du ps (as.map (look s.f.ev)) ps.length) (100+(s.dn++[_]).length);refine (wF ps _ (λv hv=>?_) ps.length).up (by have:=UB.1;omega);obtain⟨o,ho,rfl⟩:=xn.mp hv;exact UA.look (Dy.2 o ho);show gE g'.ev (100+(s.dn++[_]).length);rw[e1];rcases cR.mp hg with z|z
  exact (I.fs g' z).up (by omega);rw[hX.mp z];exact UA.up (by omega);show (s.fs++[s.f]).length<=(s.dn++[_]).length;rw[e1];have:=I.nf;simp;omega;show ly s.ce (s.dn++[_]).length;rw[e1];exact V9;show s.ct.is.length<=(s.dn++[_]).length;rw[e1];exact V8;refine .sub rfl hr ?_ I.ca;obtain z|⟨f,ps,z⟩:=I.ins
  exact z;rw[hr] at z;cases z
 |_=>cases hs
def rV(W:Wl rs){most:Nat}{s:Lv}(I:tQ rs s):(∃s',iH rs most s=.inl s'/\tQ rs s'/\((s'.dn.length=s.dn.length+1/\s.dn.length<most)\/(s'.dn=s.dn/\(∀a,rs[s.pl]?≠some (.gk a))/\((∃a,rs[s'.pl]?=some (.gk a))\/s.pl<s'.pl))))\/∃R,iH rs most s=.inr R:=by
 obtain⟨r,hr⟩:∃r,rs[s.pl]?=some r:=⟨_,iy I.pl⟩;unfold iH;rw[hr];dsimp only;by_cases hs:jm r=true;rw[ε hs];have hi:1<=dp (bK rs) s.pl:=by
  obtain z|⟨f,ps,z⟩:=I.ins
  exact z;rw[hr] at z;cases z;cases hs
 obtain⟨k,h1,h2,h3,h4⟩:=JN W.B hr hs hi;refine .inl ⟨_,rfl,⟨?_,?_,I.ev,I.fs,I.nf,I.ce,I.ct,I.ca⟩,.inr ⟨rfl,(λa z=>by cases z;cases hs),?_⟩⟩;show (Bj rs s.pl).toNat<_;rw[h1];exact h2;show 1<=dp (bK rs) (Bj rs s.pl).toNat\/_;rw[h1];exact .inl h3;show (∃a,rs[(Bj rs s.pl).toNat]?=_)\/_<(Bj rs s.pl).toNat;rw[h1];obtain z|z:=h4
 exact .inr z;exact .inl z;rw[ζ hs];by_cases hm:most<=s.dn.length;rw[ε hm];exact .inr ⟨_,rfl⟩;rw[ζ hm];rcases rT W I hr (by simpa using hs) with⟨s',h1,h2,h3⟩|⟨R,h⟩
 exact .inl ⟨s',h1,h2,.inl ⟨h3,by omega⟩⟩;exact .inr ⟨R,h⟩
inductive Ls(rs:S1)(most:Nat):Nat->Lv->Res->Prop
 |fin {s:Lv} {R:Res} (h:iH rs most s=.inr R):Ls rs most 0 s R
 |go {n:Nat} {s s':Lv} {R:Res} (h:iH rs most s=.inl s') (k:Ls rs most n s' R):Ls rs most (n+1) s R
noncomputable def rank(rs:S1)(s:Lv):Nat:=match rs[s.pl]? with
 |some (.gk _)=>0
 |_=>rs.length-s.pl+1
def Ov(rs:S1)(s:Lv):rank rs s<=rs.length+1:=by unfold rank;split<;>omega
def JO{s:Lv}{a:jK}(h:rs[s.pl]?=some (.gk a)):rank rs s=0:=by unfold rank;rw[h]
def JP{s:Lv}(h:∀a,rs[s.pl]?≠some (.gk a)):rank rs s=rs.length-s.pl+1:=by
 unfold rank;split
 rename_i a e;exact absurd e (h a)
 rfl
def UC(W:Wl rs){most:Nat}:∀(m:Nat){s:Lv},tQ rs s->(most-s.dn.length) * (rs.length+2)+rank rs s<m->∃n R,Ls rs most n s R:=by
 intro m;induction m with
 |zero=>intro s I h;omega
 |succ m ih=>
  intro s I h;rcases rV W I (most:=most) with⟨s',h1,h2,h3⟩|⟨R,h⟩
  have:(most-s'.dn.length) * (rs.length+2)+rank rs s'<m:=by
   obtain⟨h3,h4⟩|⟨h3,h5,h4⟩:=h3
   have e:most-s.dn.length=(most-s'.dn.length)+1:=by omega
   have:=Ov rs s';rw[e,Nat.add_mul] at h;omega;rw[h3];rw[JP h5] at h;have hp:=I.pl;obtain⟨a,z⟩|z:=h4
   rw[JO z];omega;have R7:=h2.pl;by_cases hw:∃a,rs[s'.pl]?=some (.gk a);obtain⟨a,z⟩:=hw;rw[JO z];omega;rw[JP λa z=>hw ⟨a,z⟩];omega
  obtain⟨n,R,hR⟩:=ih h2 this;exact⟨n+1,R,.go h1 hR⟩;exact⟨0,R,.fin h⟩
def Ow(W:Wl rs)(most:Nat){s:Lv}(I:tQ rs s):∃n R,Ls rs most n s R:=UC W _ I (Cc _)
end
end Rg
namespace Rg
open PySem L2 VT Gen K5 Lay
open nU (dm)
open Nx (Fq)
open Nm (kK Dj yY lF)
open V4 (Dl Dk jP)
open iL (Vl vT nm fQ RI)
structure MgS(K:Γ)(mg:qae):Prop where
 len:mg "len"=none
 tuple:mg "tuple"=none
 UD:∃a,mg "SILENT"=some (.ref a)/\∀H,fB K H a [.str "else",.str "end",.str "skip"]
noncomputable def Lu(cM cF cL:Addr)(nh:List Key×Key->Int)(rs:S1)(most:Nat)(s:Lv):S:=dC cM cF (cj cL rs) (most:Int) .aO (s.fs++[s.f]) (Ce.s nh s.ce) s.ct s.dn (.int ((s.pl:Nat):Int)) .aO
def wG(cM cF cL:Addr)(nh:List Key×Key->Int)(rs:S1)(most:Nat)(q:S->Prop):Lv ⊕ Res->Prop
 |.inl s=>q (Lu cM cF cL nh rs most s)
 |.inr R=>∀fr ce ct pl,q (dC cM cF (cj cL rs) (most:Int) .aO fr ce ct R.1 pl R.2)
def Qt(cM cF cL:Addr)(nh:List Key×Key->Int)(us:ο)(st:S)(q:S->T->Prop):Prop:=∃rs r s most,us=[aP r]/\st=Lu cM cF cL nh rs most s/\Wl rs/\tQ rs s/\rs[s.pl]?=some r/\jm r=false/\s.dn.length<=1000/\wG cM cF cL nh rs most (λs'=>q s' .aO) (cU rs r s)
def Qu(cM cF cL:Addr)(nh:List Key×Key->Int)(us:ο)(st:S)(q:S->T->Prop):Prop:=∃rs s most,us=[]/\st=Lu cM cF cL nh rs most s/\Wl rs/\tQ rs s/\s.dn.length<=1000/\wG cM cF cL nh rs most (λs'=>q s' .aO) (iH rs most s)
def UE(h:dm x=true):lF (z9 (.fld x))=true:=by show nU.qt (((".":String):Str)++x)=true;unfold nU.qt;rw[nU.uc,h,Bool.and_true];exact nU.qu x
def Dz{k:Ky}(h:Lr k):([z9 k].filter λt=>!lF t)=(NH k).map iF:=by
 cases k with
 |fld x=>rw[aco (by rw[UE h.1];decide)];rfl
 |op o=>rw[ZT (by show (!lF (iF o))=true;rw[rJ h];rfl)];rfl
theorem rW:∀{l:List jK},(∀o∈l,rp o)->((l.map iF).filter λt=>!lF t)=l.map iF
 |[],_=>rfl
 |o::l,h=>by rw[gU,ZT (by rw[rJ (h o dD)];rfl),rW λo ho=>h o (gT _ ho)]
def BH(ok:V7 r):∀o∈gR r,rp o:=by
 have kk:∀{k:Ky},Lr k->∀o∈NH k,rp o:=λ{k} h o ho=>by
  cases k with
  |fld x=>cases ho
  |op o'=>rw[hX.mp ho];exact h
 intro o ho;cases r with
 |df f ps=>obtain⟨x,hx,rfl⟩:=xn.mp ho;exact ok.2 x hx
 |put x a=>rw[hX.mp ho];exact ok
 |give a=>rw[hX.mp ho];exact ok
 |lq a=>rw[hX.mp ho];exact ok
 |gk a=>rw[hX.mp ho];exact ok
 |lW x a op b=>
  simp only[gR,c0,fA,π] at ho;obtain rfl|rfl:=ho
  exact ok.1;exact ok.2.2
 |get x y k=>
  rcases c0.mp ho with rfl|ho
  exact ok.1;exact kk ok.2 o ho
 |set y k a=>
  rcases c0.mp ho with rfl|ho
  exact ok.1;rcases cR.mp ho with ho|ho
  exact kk ok.2.1 o ho;rw[hX.mp ho];exact ok.2.2
 |call x f as=>exact ok.2 o ho
 |_=>cases ho
def Oy(ok:V7 r):(gR r).length<=100:=by
 have kk:∀k:Ky,(NH k).length<=1:=λk=>by cases k<;>simp[NH]
 cases r with
 |df f ps=>rw[gR,cu];have:=ok.1;omega
 |call x f as=>have:=ok.1;show as.length<=100;omega
 |get x y k=>have:=kk k;simp only[gR,xk];omega
 |set y k a=>have:=kk k;simp only[gR,xk,nL,List.length_nil];omega
 |_=>simp[gR]
def Oz(ok:V7 r)(hd:∀f ps,r≠.df f ps):Dk r=(gR r).map iF/\∀t∈jP r,yY t:=by
 have ol:∀{o:jK},rp o->yY (iF o):=λh=>wy h;have kl:∀{k:Ky},Lr k->yY (z9 k):=λ{k} h=>by
  cases k with
  |fld x=>exact .inl ⟨_,rfl,by rw[Dv];have:=h.2;omega⟩
  |op o=>exact wy h
 have one:∀{a:jK},rp a->([iF a].filter λt=>!lF t)=[iF a]:=λh=>rW (l:=[_]) λo ho=>by rw[hX.mp ho];exact h
 cases r with
 |df f ps=>exact absurd rfl (hd f ps)
 |put x a=>exact⟨one ok,λt ht=>by rw[hX.mp ht];exact ol ok⟩
 |give a=>exact⟨one ok,λt ht=>by rw[hX.mp ht];exact ol ok⟩
 |lq a=>exact⟨one ok,λt ht=>by rw[hX.mp ht];exact ol ok⟩
 |gk a=>exact⟨one ok,λt ht=>by rw[hX.mp ht];exact ol ok⟩
 |lW x a op b=>
  refine⟨rW (l:=[a,b]) (BH (r:=.lW x a op b) ok),λt ht=>?_⟩;simp only[jP,c0,fA,π] at ht;obtain rfl|rfl:=ht
  exact ol ok.1;exact ol ok.2.2
 |get x y k=>
  refine⟨?_,λt ht=>?_⟩;show (([iF (.nm y)]++[z9 k]).filter λt=>!lF t)=_;rw[List.filter_append,one ok.1,Dz ok.2];rfl;simp only[jP,c0,fA,π] at ht;obtain rfl|rfl:=ht
  exact ol ok.1;exact kl ok.2
 |set y k a=>
  refine⟨?_,λt ht=>?_⟩;show ((([iF (.nm y)]++[z9 k])++[iF a]).filter λt=>!lF t)=_;rw[List.filter_append,List.filter_append,one ok.1,one ok.2.2,Dz ok.2.1];show _=(jK.nm y::(NH k++[a])).map iF;rw[gU,nG];rfl;simp only[jP,c0,fA,π] at ht;obtain rfl|rfl|rfl:=ht
  exact ol ok.1;exact kl ok.2.1;exact ol ok.2.2
 |call x f as=>exact⟨rfl,λt ht=>by obtain⟨o,ho,rfl⟩:=xn.mp ht;exact ol (ok.2 o ho)⟩
 |_=>exact⟨rfl,λt ht=>nomatch ht⟩
def CQ(ok:V7 r)(hs:jm r=false):RdR r:=by
 cases r with
 |nJ=>cases hs
 |fin=>cases hs
 |skip=>cases hs
 |lW x a op b=>exact ok.2.1
 |get x y k=>exact ok.2
 |set y k a=>exact ok.2.1
 |_=>trivial
def cD.up{k k':Nat}(h:cD P w K mg base eQ k f fd ps sp)(hk:k<=k'):cD P w K mg base eQ k' f fd ps sp :=
 ⟨h.len,λA outer s H args us vs Q E hr e0 hb r Lm=>h.run A outer s H args us vs Q E (hr.mono hk) e0 hb r Lm⟩
structure Fos(w:World)(K:Γ)(mg:qae):Prop where
 ex:∃(a:Addr)(f1 f2 f3 f4 f5 f6 f7 f8 f9:Addr),mg "FOLLOWERS"=some (.ref a)/\mg "follow_plain"=some (.ref f1)/\mg "follow_give"=some (.ref f2)/\mg "follow_name"=some (.ref f3)/\mg "follow_do"=some (.ref f4)/\mg "follow_new"=some (.ref f5)/\mg "follow_set"=some (.ref f6)/\mg "follow_call"=some (.ref f7)/\mg "follow_fail"=some (.ref f8)/\mg "follow_choice"=some (.ref f9) /\
  qT w K a [("def",.ob f1),("give",.ob f2),("put",.ob f3),("do",.ob f4),("new",.ob f5),("get",.ob f3),("set",.ob f6),("call",.ob f7),("fail",.ob f8),("if",.ob f9),("while",.ob f9)]
def ja{k k':Nat}{f1:Addr}(C:bV P w K mg base x ps k sp)(e:mg x=some (.ref f1))(hk:k<=k'):W.keepIn K (.ref f1)=true/\∃fd ps,Binds K fd ps []/\cD P w K mg base eQ k' f1 fd ps sp:=by obtain⟨f,fd,h1,h2,h3,F⟩:=C;cases h1.symm.trans e;exact⟨h2,fd,ps,h3,cD.up F hk⟩
inductive Gr(cM cF cL:Addr)(nh:List Key×Key->Int)(f1 f2 f3 f4 f5 f6 f7 f8 f9:Addr):Addr->(ο->S->(S->T->Prop)->Prop)->Prop
 |plain:Gr cM cF cL nh f1 f2 f3 f4 f5 f6 f7 f8 f9 f1 (oK cM cF cL)
 |give:Gr cM cF cL nh f1 f2 f3 f4 f5 f6 f7 f8 f9 f2 (BF cM cF cL)
 |name:Gr cM cF cL nh f1 f2 f3 f4 f5 f6 f7 f8 f9 f3 (lT cM cF cL)
 |do_:Gr cM cF cL nh f1 f2 f3 f4 f5 f6 f7 f8 f9 f4 (Uy cM cF cL)
 |new:Gr cM cF cL nh f1 f2 f3 f4 f5 f6 f7 f8 f9 f5 (JH cM cF cL)
 |set:Gr cM cF cL nh f1 f2 f3 f4 f5 f6 f7 f8 f9 f6 (JI cM cF cL nh)
 |call:Gr cM cF cL nh f1 f2 f3 f4 f5 f6 f7 f8 f9 f7 (BE cM cF cL)
 |fail:Gr cM cF cL nh f1 f2 f3 f4 f5 f6 f7 f8 f9 f8 (BC cM cF cL)
 |choice:Gr cM cF cL nh f1 f2 f3 f4 f5 f6 f7 f8 f9 f9 (wz cM cF cL)
noncomputable abbrev Ze(s:Lv)(r:Rw):T:=.tup ((gR r).map λo=>vT (look s.f.ev o))
noncomputable abbrev mdT(s:Lv)(r:Rw):T:=oV (Je s.f.ev s.ce s.ct s.pl r)
def BI(s:Lv)(r:Rw):bZ (Ze s r)=true:=by simp only[bZ];exact eZ (f:=λo=>vT (look s.f.ev o)) (λo=>eJ _) _
noncomputable def cutD(cM cF cL a0:Addr)(nh:List Key×Key->Int):FM:=λd ρ st=>∃rs r s most P,ρ=[some (.pin a0 st.t,false),some (aP r,false),some (P,false),none,none]/\st=Lu cM cF cL nh rs most s/\(P=.tup ((gR r).map iF)\/P=.lst ((gR r).map iF))/\Wl rs/\tQ rs s/\rs[s.pl]?=some r/\jm r=false/\s.dn.length<=1000/\wG cM cF cL nh rs most (λs'=>∀ρ',d.nx ρ' s') (cU rs r s)
noncomputable def ad3(cM cF cL a0:Addr)(nh:List Key×Key->Int):FM:=λd ρ st=>∃rs r s most P,ρ=[some (.pin a0 st.t,false),some (aP r,false),some (P,false),some (Ze s r,false),none]/\st=Lu cM cF cL nh rs most s/\Wl rs/\tQ rs s/\rs[s.pl]?=some r/\jm r=false/\s.dn.length<=1000/\wG cM cF cL nh rs most (λs'=>∀ρ',d.nx ρ' s') (cU rs r s)
noncomputable abbrev OA(cM cF cL:Addr)(nh:List Key×Key->Int)(rs:S1)(most:Nat)(s:Lv)(r:Rw):S:=dC cM cF (cj cL rs) (most:Int) .aO (s.fs++[s.f]) (Ce.s nh s.ce) s.ct (s.dn++[vS s.f.ev s.ce s.ct s.pl r]) (.int ((s.pl:Nat):Int)) .aO
noncomputable abbrev OB(a:Addr)(st:S)(s:Lv)(r:Rw)(x:Option (T×Bool)):En:=[some (.pin a st.t,false),some (aP r,false),x,some (Ze s r,false),some (mdT s r,false)]
theorem UG{cM cF cL:Addr}{nh:List Key×Key->Int}{f1 f2 f3 f4 f5 f6 f7 f8 f9:Addr}{s:Lv}{most:Nat}{q:S->T->Prop}(W:Wl rs)(I:tQ rs s)(hr:rs[s.pl]?=some r)(hs:jm r=false)(OC:s.dn.length<=1000)(hq:wG cM cF cL nh rs most (λs'=>q s' .aO) (cU rs r s)) :
  ∃f G,A5 [("def",T.ob f1),("give",.ob f2),("put",.ob f3),("do",.ob f4),("new",.ob f5),("get",.ob f3),("set",.ob f6),("call",.ob f7),("fail",.ob f8),("if",.ob f9),("while",.ob f9)] (wd r)=some (.ob f)/\Gr cM cF cL nh f1 f2 f3 f4 f5 f6 f7 f8 f9 f G/\G [aP r,Ze s r,mdT s r] (OA cM cF cL nh rs most s r) q:=by
 have Dy:=W.ok r (gM hr);have hel:s.f.ev.is.length<=1000000:=by have:=I.ev.n;omega
 have hfl:(s.fs++[s.f]).length<=1000000:=by have:=I.nf;simp;omega
 have at':NW r=true->Od rs s.pl r:=λh=>⟨W.B,hr,h⟩;have ui:=BI s r;cases r with
 |df f ps=>exact⟨f1,_,rfl,.plain,rs,_,s.pl,most,.aO,_,_,_,_,_,_,_,rfl,rfl,at' rfl,hq⟩
 |put x a=>exact⟨f3,_,rfl,.name,rs,_,s.pl,most,.aO,s.fs,s.f,_,_,_,_,x,look s.f.ev a,rfl,ui,rfl,at' rfl,rfl,hel,hq⟩
 |get x y k=>exact⟨f3,_,rfl,.name,rs,_,s.pl,most,.aO,s.fs,s.f,_,_,_,_,x,s.ce.at' (cellK s.f.ev y k),rfl,ui,rfl,at' rfl,rfl,hel,hq⟩
 |set y k a=>exact⟨f6,_,rfl,.set,rs,y,k,a,s.pl,most,.aO,_,s.ce,_,_,s.f.ev,look s.f.ev a,rfl,Dy.2.1,rfl,at' rfl,by have:=I.ce.1;omega,hq⟩
 |new x=>exact⟨f5,_,rfl,.new,rs,_,s.pl,most,.aO,s.fs,s.f,_,_,_,_,x,.Gp s.pl (s.ct.get s.pl),rfl,ui,rfl,at' rfl,rfl,hel,by have:=I.ct;omega,hq⟩
 |lW x a op b=>
   refine⟨f4,_,rfl,.do_,rs,_,s.pl,most,.aO,s.fs,s.f,_,_,_,_,x,(Bn op (look s.f.ev a) (look s.f.ev b)).map .num,rfl,ui,rfl,at' rfl,rfl,hel,?_⟩;have eS:wG cM cF cL nh rs most (λs'=>q s' .aO) (match Bn op (look s.f.ev a) (look s.f.ev b) with
    |none=>.inr (s.dn++[vS s.f.ev s.ce s.ct s.pl (.lW x a op b)],yV)
    |some v=>.inl (uz s x (.num v) (vS s.f.ev s.ce s.ct s.pl (.lW x a op b)))):=hq
   cases hk:Bn op (look s.f.ev a) (look s.f.ev b) with
   |none=>rw[hk] at eS;exact eS _ _ _ _
   |some v=>rw[hk] at eS;exact eS
 |lq a=>obtain⟨k,n1,_,_,_⟩:=Dx W.B hr rfl;refine⟨f9,_,rfl,.choice,rs,_,s.pl,most,.aO,_,_,_,_,_,_,(if look s.f.ev a=.num 0 then 0 else 1),rfl,rfl,W.B,hr,rfl,?_⟩;have eS:q (dC cM cF (cj cL rs) (most:Int) .aO (s.fs++[s.f]) (Ce.s nh s.ce) s.ct (s.dn++[vS s.f.ev s.ce s.ct s.pl (.lq a)]) (.int (((if look s.f.ev a=.num 0 then (NG rs s.pl).toNat else s.pl+1:Nat)):Int)) .aO) .aO:=hq;by_cases h:look s.f.ev a=.num 0;rw[ε h] at eS ⊢;rw[ζ (by decide),n1];rw[n1] at eS;exact eS;rw[ζ h] at eS ⊢;rw[ε rfl];exact eS
 |gk a=>obtain⟨k,n1,_,_,_⟩:=Dx W.B hr rfl;refine⟨f9,_,rfl,.choice,rs,_,s.pl,most,.aO,_,_,_,_,_,_,(if look s.f.ev a=.num 0 then 0 else 1),rfl,rfl,W.B,hr,rfl,?_⟩;have eS:q (dC cM cF (cj cL rs) (most:Int) .aO (s.fs++[s.f]) (Ce.s nh s.ce) s.ct (s.dn++[vS s.f.ev s.ce s.ct s.pl (.gk a)]) (.int (((if look s.f.ev a=.num 0 then (NG rs s.pl).toNat else s.pl+1:Nat)):Int)) .aO) .aO:=hq;by_cases h:look s.f.ev a=.num 0;rw[ε h] at eS ⊢;rw[ζ (by decide),n1];rw[n1] at eS;exact eS;rw[ζ h] at eS ⊢;rw[ε rfl];exact eS
 |fail w=>exact⟨f8,_,rfl,.fail,_,most,.aO,_,_,_,_,_,w,_,_,rfl,rfl,hq _ _ _ _⟩
 |give a=>
   obtain⟨h0,h1⟩|⟨gs,g,c,x,y,as,h0,h1,h2,h3,h4⟩:=I.ca.inv
   have ed:cU rs (.give a) s=.inr (s.dn++[vS s.f.ev s.ce s.ct s.pl (.give a)],m4 (look s.f.ev a)):=by unfold cU;dsimp only;rw[h1]
   rw[ed] at hq;exact⟨f2,_,rfl,.give,rs,most,.aO,s.fs,s.f,_,_,_,_,_,_,look s.f.ev a,rfl,ui,rfl,.inl ⟨h1,hq _ _ _ _⟩⟩;have ed:cU rs (.give a) s=.inl {fs:=gs,f:={g with ev:=g.ev.put x (look s.f.ev a)},ce:=s.ce,ct:=s.ct,dn:=s.dn++[vS s.f.ev s.ce s.ct s.pl (.give a)],pl:=c+1}:=by unfold cU;dsimp only;rw[h1,h0,Lx];dsimp only;rw[h2,QS]
   rw[ed] at hq;have hgl:g.ev.is.length<=1000000:=by have:=(I.fs g (by rw[h0];simp)).n;omega
   exact⟨f2,_,rfl,.give,rs,most,.aO,s.fs,s.f,_,_,_,_,_,_,look s.f.ev a,rfl,ui,rfl,.inr ⟨c,gs,g,_,x,h1,h0,⟨W.B,h2,rfl⟩,rfl,hgl,hq⟩⟩
 |call x g as=>
   obtain⟨p,ps,q1,q2,q3⟩:=W.D.ca s.pl x g as hr;have ef:=W.D.first q2
   have UB:=W.ok _ (gM q2);have ed:cU rs (.call x g as) s=.inl {fs:=s.fs++[s.f],f:=⟨some s.pl,du ps (as.map (look s.f.ev)) ps.length⟩,ce:=s.ce,ct:=s.ct,dn:=s.dn++[vS s.f.ev s.ce s.ct s.pl (.call x g as)],pl:=p}:=by unfold cU;dsimp only;rw[ef];dsimp only;rw[q2]
   rw[ed] at hq;exact⟨f7,_,rfl,.call,rs,s.pl,p,x,g,as,g,ps,as.map (look s.f.ev),most,.aO,s.fs++[s.f],_,_,_,_,by rw[Lh];rfl,rfl,ef,q2,by have:=UB.1;omega,hfl,hq⟩
 |_=>cases hs
section
variable{cLayout cFrame aq:Addr}
noncomputable abbrev rX:ν:=["machine","row","parts","used","made"]
def pb:az rX qaL (ai lQ):=L2.fD
def rY:(rX++(["part"]:ν)).Nodup:=by decide +kernel
def zl(D:Df K mg "done_row" lQ qaL f fd)(M:MgS K mg)(M1:zc K aq)(M2:Fos w K mg)(BJ:bV P w K mg base "operands" ["row"] 3 (cK K 1 Dl))(BK:bV P w K mg base "value_of" qaG 2 (cK K 2 (Y_ aq cFrame)))(Fz:bV P w K mg base "made_by" qaI 4 (cK K 3 (Du aq cFrame (NK.bJ P w))))(dO:bV P w K mg base "follow_plain" qaJ 2 (jj K 3 (oK aq cFrame cLayout)))(cZ:bV P w K mg base "follow_name" qaJ 3 (jj K 3 (lT aq cFrame cLayout)))(zm:bV P w K mg base "follow_do" qaJ 4 (jj K 3 (Uy aq cFrame cLayout)))(tR:bV P w K mg base "follow_give" qaJ 4 (jj K 3 (BF aq cFrame cLayout)))(wH:bV P w K mg base "follow_new" qaJ 4 (jj K 3 (JH aq cFrame cLayout)))(wI:bV P w K mg base "follow_set" qaJ 4 (jj K 3 (JI aq cFrame cLayout (NK.bJ P w))))(tS:bV P w K mg base "follow_call" qaJ 4 (jj K 3 (BE aq cFrame cLayout)))(tT:bV P w K mg base "follow_fail" qaJ 1 (jj K 3 (BC aq cFrame cLayout)))(pO:bV P w K mg base "follow_choice" qaJ 2 (jj K 3 (wz aq cFrame cLayout))):bV P w K mg base "done_row" qaL 5 (jj K 1 (Qt aq cFrame cLayout (NK.bJ P w))):=by
 refine D.fU (Gn D.F pb rfl (by decide) λbF A outer s H E M0 oz hr us s0 q hG hl=>?_);obtain⟨zh,jX,xt,a0,rO⟩:=M0;have kO:rO=0:=oz;subst kO;have nd:=pb.nd;have hu:=bG.fm hr;have af:=M1;obtain⟨aF,f1,f2,f3,f4,f5,f6,f7,f8,f9,zo,e1,e2,e3,e4,e5,e6,e7,e8,e9,wJ⟩:=M2.ex;have zp:∀f' G,Gr aq cFrame cLayout (NK.bJ P w) f1 f2 f3 f4 f5 f6 f7 f8 f9 f' G->W.keepIn K (.ref f')=true/\∃fd ps,Binds K fd ps []/\cD P w K mg base eQ 4 f' fd ps (jj K 3 G):=by
  intro f' G h;cases h with
  |plain=>exact ja dO e1 (by decide)
  |give=>exact ja tR e2 (by decide)
  |name=>exact ja cZ e3 (by decide)
  |do_=>exact ja zm e4 (by decide)
  |new=>exact ja wH e5 (by decide)
  |set=>exact ja wI e6 (by decide)
  |call=>exact ja tS e7 (by decide)
  |fail=>exact ja tT e8 (by decide)
  |choice=>exact ja pO e9 (by decide)
 refine⟨_,(cJ (eX λ_=>(bc (i:=2) nd rfl (.inl rfl) (Δ (jx (bQ hu (θ (aI (ae 1) (θ ag))) (θ aC)) (aI (ae 1) (θ ag)) (aK BJ hr (aa (aj 1) ak)))) kP))
  (EI.weak (u:=(cutD aq cFrame cLayout a0 (NK.bJ P w))) (cJ (eX λ_=>(bc (i:=3) nd rfl (.inl rfl) (Δ (gi h7 jA (by rfl) M.tuple pT (aJ (θ (iW (ts:=["part"]) rfl (by rfl) (eW (aj 2)) (λ_ _ _ _ _ _=>(br (i:=5) rY rfl (.inl rfl) kP (.inr rfl))) (λ_ _ _ _ _ _=>gf) (λ_ _ _ _ _ _=>(ς (aK BK hr (aa (aj 0) (aa (aj 5) ak))))))) aX))) kP))
  (EI.weak (u:=(ad3 aq cFrame cLayout a0 (NK.bJ P w))) (cJ (eX λ_=>(bc (i:=4) nd rfl (.inl rfl) (Δ (aK Fz hr (aa (aj 0) (aa (aj 1) (aa (aj 3) ak))))) kP))
  (cJ (eX λ_=>(bA (VW.vc (fE (mz (θ (bf af.cl af.wt (bR (ae 0)))) (θ cX)) (eF (bQ hu (θ (aI (θ (bf af.cl af.wt (bR (ae 0)))) (θ ag))) (θ (aY aZ a_ (by rfl) M.len lZ (aJ (θ (bf af.cl af.jW (bR (ae 0)))) aX)))))))
   (ar (bc (i:=4) nd rfl (.inl rfl) (Δ (aI (θ (bf af.cl af.wt (bR (ae 0)))) (θ ag))) kP))
   aM))
  (cJ (EL (jH af.cl af.jW (ll)) (λ_=>(ς (bH (aa (ς (bf af.cl af.cV (bR (ae 0)))) (aa (aj 3) (aa (aj 4) ak)))))))
  (bT (Ip zp (hr.mono (by decide)) (λ_=>ς (IF (by rfl) zo wJ (θ (aI (ae 1) (θ ag))))) (λ_=>(aa (aj 1) (aa (aj 3) (aa (aj 4) ak)))) rfl))))) ?w2)) ?w1)),?main⟩
 case w1=>
  rintro d ρ st ⟨rs,r,s,most,P',rfl,rfl,hP,W,I,cT,hs,OC,hq⟩;have Dy:=W.ok r (gM cT);have oO:=BH Dy;have oL:=Oy Dy;rw[Lu,gS];obtain rfl|rfl:=hP
  all_goals
   refine⟨rfl,by rw[cu];exact ix (by omega),?_⟩;refine eM (f:=iF) (u:=λo=>vT (look s.f.ev o)) (λo ho k hk=>?_) ?_;exact⟨rfl,a0,_,_,_,s.fs,s.f,_,_,_,_,_,o,_,rfl,oO o ho,I.ev,by omega,hk⟩;exact⟨by rw[gS];rfl,rs,r,s,most,_,by rw[gS];rfl,rfl,W,I,cT,hs,OC,hq⟩
 case w2=>
  rintro d ρ st ⟨rs,r,s,most,P',rfl,rfl,W,I,cT,hs,OC,hq⟩;have Dy:=W.ok r (gM cT);have oO:=BH Dy;have rd:=CQ Dy hs;have Lp:bZ (vS s.f.ev s.ce s.ct s.pl r)=true:=by unfold vS;have:=BI s r;simp only[bZ] at this;simp only[bZ,eG,this,Bo,Q5]
  have fol:∀x2:Option (T×Bool),fT (YC [("def",.ob f1),("give",.ob f2),("put",.ob f3),("do",.ob f4),("new",.ob f5),("get",.ob f3),("set",.ob f6),("call",.ob f7),("fail",.ob f8),("if",.ob f9),("while",.ob f9)] (fT (VT.f2 (G' 1) (fT (fC (.int 0))) pIx))) (OB a0 (OA aq cFrame cLayout (NK.bJ P w) rs most s r) s r x2) λt=>∃f G,t=.ob f/\Gr aq cFrame cLayout (NK.bJ P w) f1 f2 f3 f4 f5 f6 f7 f8 f9 f G/\(gu (nX 1) (gu (nX 3) (gu (nX 4) vg))) (OB a0 (OA aq cFrame cLayout (NK.bJ P w) rs most s r) s r x2) λus=>us.length=3/\G us (OA aq cFrame cLayout (NK.bJ P w) rs most s r) λs' _=>d.nx (lj ⟨zh,jX,xt,a0,0⟩ (OB a0 (OA aq cFrame cLayout (NK.bJ P w) rs most s r) s r x2) s') s':=λx2=>by
   have V5:wG aq cFrame cLayout (NK.bJ P w) rs most (λs'=>d.nx (lj ⟨zh,jX,xt,a0,0⟩ (OB a0 (OA aq cFrame cLayout (NK.bJ P w) rs most s r) s r x2) s') s') (cU rs r s):=by
    cases hd:cU rs r s with
    |inl s'=>rw[hd] at hq;exact hq _
    |inr R=>rw[hd] at hq;exact λfr ce ct pl=>hq fr ce ct pl _
   obtain⟨f',G,h1,h2,h3⟩:=UG (q:=λs' _=>d.nx (lj ⟨zh,jX,xt,a0,0⟩ (OB a0 (OA aq cFrame cLayout (NK.bJ P w) rs most s r) s r x2) s') s') W I cT hs OC V5;obtain⟨l,el⟩:=kh r;unfold OB at h3 ⊢;rw[el] at h3 ⊢;exact⟨_,aat,_,h1,f',G,rfl,h2,rfl,h3⟩
  have ad4:∀t,∀x∈OB a0 (OA aq cFrame cLayout (NK.bJ P w) rs most s r) s r (kg (some (t,false))),fP x:=λt x hx=>by
   simp only[OB,c0,fA,π] at hx;obtain rfl|rfl|rfl|rfl|rfl:=hx
   trivial;exact Ux (some (aP r));show fP (if bZ t=true then some (t,false) else none);split;exact Ux (some t);trivial;trivial;exact Ux (some (mdT s r))
  rw[Lu,gS];refine⟨rfl,a0,_,_,_,_,s.ce,s.ct,s.dn,s.pl,_,s.f.ev,r,_,rfl,rd,oO,I.ev,by rw[gS];rfl,?_⟩;refine⟨rfl,_,rfl,by rw[gS];rfl,?_⟩;refine⟨s.dn.map .lf,Bp,by rw[cu];omega,?_⟩;refine⟨rfl,_,rfl,Gen.eR rfl,Lp,sL rfl,?_⟩;refine BB (ρ':=OB a0 (OA aq cFrame cLayout (NK.bJ P w) rs most s r) s r (kg (some (P',false)))) TV ?_ ?_;show [_,kg (some (aP r,false)),kg (some (_,false)),kg (some (Ze s r,false)),kg (some (mdT s r,false))]=_;rw[fg (mT r),fg (BI s r),fg (Bo _)];rfl;exact⟨ad4 _,fol _⟩
 case main=>
  obtain⟨rs,r,s,most,rfl,rfl,W,I,cT,hs,OC,hq⟩:=hG;have Dy:=W.ok r (gM cT);have V5:wG aq cFrame cLayout (NK.bJ P w) rs most (λs'=>∀ρ':En,q s' .aO) (cU rs r s):=by
   cases hd:cU rs r s with
   |inl s'=>rw[hd] at hq;exact λ_=>hq
   |inr R=>rw[hd] at hq;exact λfr ce ct pl _=>hq fr ce ct pl
  by_cases RW:∃f ps,r=.df f ps;obtain⟨f',ps,rfl⟩:=RW;exact⟨_,aat,_,aav,rfl,rs,_,s,most,_,rfl,rfl,.inl (by rw[gR,Lh];rfl),W,I,cT,hs,OC,V5⟩;obtain⟨l,el⟩:=kh r;have hw:decide (wd r="def")=false:=by cases r<;>first|rfl|exact absurd ⟨_,_,rfl⟩ RW
  obtain⟨o1,o2⟩:=Oz Dy (λf ps z=>RW ⟨f,ps,z⟩);rw[el];refine⟨_,aat,cN (λh=>absurd h (of_decide_eq_false hw)) (λ_=>?_)⟩;exact⟨rfl,r,by rw[el],o2,rfl,rs,r,s,most,_,by rw[el];rfl,rfl,.inr (ψ T.lst o1),W,I,cT,hs,OC,V5⟩
noncomputable abbrev JQ:ν:=qaL
def DA:az JQ ["machine"] (ai wm):=L2.fD
def OD(D:Df K mg "step" wm ["machine"] f fd)(M:MgS K mg)(M1:zc K aq)(M2:NP K cLayout)(i_:bV P w K mg base "row_behind" qaA 1 (cK K 2 (Fq cLayout)))(BL:bV P w K mg base "done_row" qaL 5 (jj K 1 (Qt aq cFrame cLayout (NK.bJ P w)))):bV P w K mg base "step" ["machine"] 6 (jj K 0 (Qu aq cFrame cLayout (NK.bJ P w))):=by
 refine D.fU (Gn D.F DA rfl (by decide) λbF A outer s H E M0 oz hr us s0 q hG hl=>?_);obtain⟨zh,jX,xt,a0,rO⟩:=M0;have kO:rO=0:=oz;subst kO;have nd:=DA.nd;have af:=M1;have ax:=M2;obtain⟨aS,mS,hS⟩:=M.UD;have JR:∀{H':Hp}{pos},VP (fN eQ P w K mg base JQ "step" (ai wm) f bF A outer s H E).pA ⟨H',[],xt⟩ (.Name "SILENT" pos) (fC (.tup [.str "else",.str "end",.str "skip"])):=λ{H' pos}=>iS (by rfl) mS (v:=.ref aS) rfl λH A=>cP (hS H) (aA.cons dZ (aA.cons dZ (aA.cons dZ aA.nil)));refine⟨_,(cJ (eX λ_=>(bc (i:=1) nd rfl (.inl rfl) (Δ (aI (θ (bf ax.cl ax.dU (θ (bf af.cl af.e_ (bR (ae 0)))))) (θ (bf af.cl af.cV (bR (ae 0)))))) kP))
  (bT (uh (λ_=>(qM (θ (aI (ae 1) (θ ag))) (θ JR)))
   (bT (ie af.cl af.cV (λ_=>(ς (aK i_ hr (aa (ς (bf af.cl af.e_ (bR (ae 0)))) (aa (ς (bf af.cl af.cV (bR (ae 0)))) ak))))) rfl))
   (bT (uh (λ_=>(Xv (θ (aY aZ a_ (by rfl) M.len lZ (aJ (θ (bf af.cl af.jW (bR (ae 0)))) aX))) (θ (bf af.cl af.JE (bR (ae 0))))))
    (bT (ie af.cl af.hW (λ_=>(ς (bH (aa (ς aC) (aa (ς ag) ak))))) rfl))
    (bT (eY BL hr (λ_=>(aa (aj 1) ak)) rfl))))))),?_⟩
 obtain⟨rs,l,most,rfl,rfl,W,I,OC,hq⟩:=hG;obtain⟨r,cT⟩:∃r,rs[l.pl]?=some r:=⟨_,iy I.pl⟩;unfold iH at hq;rw[cT] at hq;dsimp only at hq;rw[Lu,gS];refine⟨rfl,_,rfl,rfl,_,rfl,rfl,_,rfl,_,i4 cT,by rw[gS];rfl,?_⟩;have ad5:jm r=true->1<=dp (bK rs) l.pl:=λhs=>by
  obtain z|⟨f,ps,z⟩:=I.ins
  exact z;rw[cT] at z;cases z;cases hs
 have ad6:jm r=true->q (dC aq cFrame (cj cLayout rs) (most:Int) .aO (l.fs++[l.f]) (Ce.s (NK.bJ P w) l.ce) l.ct l.dn (.int (Bj rs l.pl)) .aO) .aO:=λhs=>by obtain⟨k,h1,_,_,_⟩:=JN W.B cT hs (ad5 hs);rw[ε hs] at hq;have eS:q (dC aq cFrame (cj cLayout rs) (most:Int) .aO (l.fs++[l.f]) (Ce.s (NK.bJ P w) l.ce) l.ct l.dn (.int (((Bj rs l.pl).toNat:Nat):Int)) .aO) .aO:=hq;rw[h1] at eS ⊢;exact eS
 have ad7:jm r=false->(most:Int)<=(l.dn.length:Int)->q (dC aq cFrame (cj cLayout rs) (most:Int) .aO (l.fs++[l.f]) (Ce.s (NK.bJ P w) l.ce) l.ct l.dn (.int ((l.pl:Nat):Int)) m5) .aO:=λh1 h2=>by rw[ζ (by rw[h1];exact iM),ε (by omega)] at hq;exact hq _ _ _ _
 have Zf:jm r=false->¬ (most:Int)<=(l.dn.length:Int)->wG aq cFrame cLayout (NK.bJ P w) rs most (λs'=>q s' .aO) (cU rs r l):=λh1 h2=>by rw[ζ (by rw[h1];exact iM),ζ (by omega)] at hq;exact hq
 obtain⟨l',el⟩:=kh r;have hsl:sJ (.str (wd r)) [.str "else",.str "end",.str "skip"]=jm r:=by cases r<;>rfl
 rw[el];cases hs:jm r with
 |true=>refine⟨_,aat,rfl,rfl,x6 (c:=sJ (.str (wd r)) [.str "else",.str "end",.str "skip"]) (hsl.trans hs) ?_⟩;exact⟨rfl,_,rfl,rfl,_,rfl,rfl,rs,l.pl,r,rfl,W.B,cT,rfl,sL rfl,_,_,7,_,rfl,(by show 9<1000;decide),rfl,rfl,ad6 hs⟩
 |false=>refine⟨_,aat,rfl,rfl,gz (c:=sJ (.str (wd r)) [.str "else",.str "end",.str "skip"]) (hsl.trans hs) ?_⟩;refine⟨rfl,_,rfl,rfl,_,rfl,cN (λh=>?_) (λh=>?_)⟩;have h':(most:Int)<=(l.dn.length:Int):=h;refine⟨Gen.eR rfl,rfl,sL rfl,_,_,8,_,rfl,(by show 9<1000;decide),rfl,rfl,?_⟩;exact ad7 hs h';have h':¬ (most:Int)<=(l.dn.length:Int):=h;exact⟨sL rfl,rfl,rs,r,l,most,by rw[el];rfl,rfl,W,I,cT,hs,OC,Zf hs h'⟩
end
def JS(e:Ev)(ce:Ce)(c:Ct)(p:Nat)(r:Rw):bZ (vS e ce c p r)=true:=by unfold vS;have:eG ((gR r).map λo=>vT (look e o))=true:=eZ (f:=λo=>vT (look e o)) (λo=>eJ _) _;simp only[bZ,eG,this,Bo,Q5]
theorem rZ:∀{a b:ο},eG a=true->eG b=true->eG (a++b)=true
 |[],b,_,h=>h
 |t::a,b,h1,h2=>by simp only[eG,lY] at h1;simp only[QX,eG,h1.1,rZ h1.2 h2,Q5]
def OE(t:T):Prop:=(∃v,t=m4 v)\/t=yV\/t=m5\/∃w,t=Di w
theorem OE.bZ{t:T}(h:OE t):bZ t=true/\qN t=false:=by
 obtain⟨v,rfl⟩|rfl|rfl|⟨w,rfl⟩:=h
 exact⟨by unfold m4;simp only[VT.bZ,eG,eJ];rfl,rfl⟩;exact⟨rfl,rfl⟩;exact⟨rfl,rfl⟩;exact⟨rfl,rfl⟩
section
theorem qd(W:Wl rs){s:Lv}(I:tQ rs s)(hr:rs[s.pl]?=some r)(hs:jm r=false):match cU rs r s with
  |.inl s'=>s'.dn=s.dn++[vS s.f.ev s.ce s.ct s.pl r]
  |.inr R=>R.1=s.dn++[vS s.f.ev s.ce s.ct s.pl r]/\OE R.2/\R.2≠m5:=by
 cases r with
 |df f ps=>exact rfl
 |put x a=>exact rfl
 |get x y k=>exact rfl
 |set y k a=>exact rfl
 |new x=>exact rfl
 |lq a=>exact rfl
 |gk a=>exact rfl
 |fail w=>exact⟨rfl,.inr (.inr (.inr ⟨w,rfl⟩)),by unfold Di m5;intro e;injection e with e;injection e with e1 _;injection e1 with e1;exact absurd e1 (by decide +kernel)⟩
 |lW x a op b=>
   unfold cU;dsimp only;cases Bn op (look s.f.ev a) (look s.f.ev b) with
   |none=>exact⟨rfl,.inr (.inl rfl),by unfold yV m5;intro e;injection e with e;injection e with e1 _;injection e1 with e1;exact absurd e1 (by decide +kernel)⟩
   |some v=>exact rfl
 |give a=>
   obtain⟨h0,h1⟩|⟨gs,g,c,x,y,as,h0,h1,h2,h3,h4⟩:=I.ca.inv
   unfold cU;dsimp only;rw[h1];exact⟨rfl,.inl ⟨_,rfl⟩,by unfold m4 m5;intro e;injection e with e;injection e with e1 _;injection e1 with e1;exact absurd e1 (by decide +kernel)⟩;unfold cU;dsimp only;rw[h1,h0,Lx];dsimp only;rw[h2]
 |call x g as=>obtain⟨p,ps,q1,q2,q3⟩:=W.D.ca s.pl x g as hr;unfold cU;dsimp only;rw[W.D.first q2];dsimp only;rw[q2]
 |_=>cases hs
def jb(W:Wl rs){s:Lv}(I:tQ rs s):(∃s',tQ rs s'/\s'.dn=s.dn/\∀most,iH rs most s=.inl s')\/∃r,rs[s.pl]?=some r/\jm r=false/\∀most,iH rs most s=if most<=s.dn.length then .inr (s.dn,m5) else cU rs r s:=by
 obtain⟨r,hr⟩:∃r,rs[s.pl]?=some r:=⟨_,iy I.pl⟩;by_cases hs:jm r=true
 left
 rcases rV W I (most:=0) with⟨s',h1,h2,h3⟩|⟨R,h⟩
 unfold iH at h1;rw[hr] at h1;dsimp only at h1;rw[ε hs] at h1;cases h1;exact⟨_,h2,rfl,λmost=>by unfold iH;rw[hr];dsimp only;rw[ε hs]⟩;unfold iH at h;rw[hr] at h;dsimp only at h;rw[ε hs] at h;cases h;exact .inr ⟨r,hr,by simpa using hs,λmost=>by unfold iH;rw[hr];dsimp only;rw[ζ hs]⟩
def Ls.tells(W:Wl rs){most:Nat}{s:Lv}{R:Res}(h:Ls rs most n s R):tQ rs s->eG s.dn=true->s.dn.length<=most->eG R.1=true/\OE R.2/\R.1.length<=most/\(R.2=m5->R.1.length=most)/\∃l,R.1=s.dn++l:=by
 induction h with
 |@fin s R h=>
  intro I hi hl;rcases jb W I with⟨s',_,_,h2⟩|⟨r,hr,hs,h2⟩
  rw[h2] at h;cases h;rw[h2] at h;split at h
  rename_i hm
  cases h;exact⟨hi,.inr (.inr (.inl rfl)),hl,λ_=>by show s.dn.length=most;omega,[],by simp⟩;have:=qd W I hr hs;rw[h] at this;obtain⟨e1,e2,e3⟩:=this;rw[e1];exact⟨rZ hi (by simp only[eG,JS,Q5]),e2,by simp;omega,λz=>absurd z e3,_,rfl⟩
 |@go n s s' R h k ih=>
  intro I hi hl;rcases jb W I with⟨s2,I2,e2,h2⟩|⟨r,hr,hs,h2⟩
  rw[h2] at h;cases h;have:=ih I2 (by rw[e2];exact hi) (by rw[e2];exact hl);rw[e2] at this;exact this;rw[h2] at h;split at h;cases h;have e:=qd W I hr hs;rw[h] at e;have e':s'.dn=_:=e;rcases rT W I hr hs with⟨s3,h3,I3,_⟩|⟨R3,h3⟩
  rw[h] at h3;cases h3;obtain⟨g1,g2,g3,g4,l,g5⟩:=ih I3 (by rw[e'];exact rZ hi (by simp only[eG,JS,Q5])) (by rw[e'];simp;omega);exact⟨g1,g2,g3,g4,vS s.f.ev s.ce s.ct s.pl r::l,by rw[g5,e'];simp⟩;rw[h] at h3;cases h3
end
end Rg
namespace Rg
open PySem L2 VT Gen K5 Lay
open iL (Fv Vl vT nm fQ RI)
noncomputable def UH(ins:qan):List Vl:=ins.map λi=>.num (fQ i)
noncomputable def lv0(a:Nat)(ps:ν)(ins:qan):Lv:=⟨[],⟨none,du ps (UH ins) ps.length⟩,⟨[],[]⟩,⟨[],[]⟩,[],a⟩
inductive r_(rs:S1)(ins:qan)(most:Nat):Res->Prop where
 |bare (h:g_ rs=none):r_ rs ins most ([],m4 (.num 0))
 |TC {a n:Nat} {f:Str} {ps:ν} {R:Res} (h:g_ rs=some a) (hd:rs[a]?=some (.df f ps)) (k:Ls rs most n (lv0 a ps ins) R):r_ rs ins most R
def gPk(ts:ο)(q:ο->T->Prop):Prop:=∃rs ins most R,ts=[.lst (rs.map aP),.lst (ins.map .int),.int ((most:Nat):Int),.aO]/\Wl rs/\ins.length<=100/\most<=900/\r_ rs ins most R/\q R.1 R.2
def wK(W:Wl rs){a:Nat}{f:Str}(hd:rs[a]?=some (.df f ps))(ins:qan):tQ rs (lv0 a ps ins):=by have UB:=W.ok _ (gM hd);refine⟨(eE.mp hd).1,.inr ⟨f,ps,hd⟩,?_,(λg hg=>nomatch hg),c9 _,⟨c9 _,(λv hv=>nomatch hv)⟩,c9 _,.main rfl⟩;refine (wF ps _ (λv hv=>?_) ps.length).up (by have:=UB.1;show _<=100+0;omega);obtain⟨i,_,rfl⟩:=xn.mp hv;exact Rg.Jc i
def Zg(P:Program)(w:World)(K:Γ)(mg:qae)(base:Heap)(C:Addr)(GL:ο->(T->Prop)->Prop)(k:Nat):Prop :=
 ∃f fd,Mk K C f/\mg "Machine"=some (.ref C)/\Binds K fd qav []/\cD P w K mg base eQ k f fd qav (spK K C (.dc (NK.bJ P w) [] []) GL)
noncomputable def V_(a:Addr)(most:Nat)(m:T)(s:S):En:=[none,none,some (.int (most:Int),false),some (.aO,false),some (.pin a s.t,false),some (m,false)]
section
variable{cLayout cFrame aq:Addr}
noncomputable abbrev FC:ν:=qav
def BM:az FC qav (ai iI):=L2.fD
def BO(D:Dc K mg "Machine" "Machine.__init__" iI qav aq f fd)(L:zc K aq)(JT:HY P w K mg base "Layout" cLayout qaz 2 1 (m8 cLayout)):Zg P w K mg base aq (m8 cLayout) 4:=by obtain⟨Zh,V',JU,JV,JW,JX⟩:=JT;exact⟨f,fd,D.M,D.m,D.b,fnK D.F BM rfl λbF A outer s H E hr=>Ir (.inr ⟨_,rfl⟩) JU JX (hr.mono (by decide)) (by rfl) JV JW L.cl L.e_ L.JE L.wt L.jV L.wu L.nq L.jW L.cV L.hW⟩
noncomputable abbrev j4:ν:=["program","inputs","most","poke","machine","main"]
def ny:az j4 qaM (ai hU):=L2.fD
def pP:(j4++(["number"]:ν)).Nodup:=by decide +kernel
theorem wL(D:Df K mg "run_poked" hU qaM f fd)(af:zc K aq)(ax:NP K cLayout)(FD:Zg P w K mg base aq (m8 cLayout) 4)(wD:bV P w K mg base "enter" qaK 3 (jj K 3 (BD aq cFrame cLayout)))(JD:bV P w K mg base "fit" qaB 1 (cK K 1 Fv))(UI:bV P w K mg base "step" ["machine"] 6 (jj K 0 (Qu aq cFrame cLayout (NK.bJ P w)))) :
  bV P w K mg base "run_poked" qaM 7 (VU K 4 gPk):=by
 obtain⟨Wa,UJ,FH,FJ,FK,FQ⟩:=FD;refine D.fU (fnR (GL:=m8 cLayout) (cz:=.dc (NK.bJ P w) [] []) (j:=4) (C:=aq) D.F ny rfl (by decide) λbF A outer s H E hr t0 t1 t2 t3 q hG=>?_);have nd:=ny.nd;obtain⟨rs,ins,most,R,et,W,VN,hmo,hR,hq⟩:=hG;cases et;refine⟨_,λL=>L=cj cLayout rs,Iy (X:=(fN eQ P w K mg base j4 "run_poked" (ai hU) f bF A outer s H E).pA) (k:=4) nd rfl (.inl rfl) FH FQ (hr.mono (by decide)) (by rfl) FJ FK (λH0 ub Ox a=>(qZ (eX λ_=>(bc (i:=5) nd rfl (.inl rfl) (Δ (bf ax.cl ax.Jq (θ (bf af.cl af.e_ (bR (ae 4)))))) kP))
   (qZ (uh (λ_=>(x5 (ae 5) (θ cX)))
     (bT (ie af.cl af.hW (λ_=>(ς (bH (aa (ς aC) (aa (ς ag) ak))))) rfl))
     (bT (eY wD hr (λ_=>(aa (aj 5) (aa (ς cX) (aa (ς (iW (ts:=qaB) rfl (by rfl) (eW (aj 1)) (λ_ _ _ _ _ _=>(br (i:=6) pP rfl (.inl rfl) kP (.inr rfl))) (λ_ _ _ _ _ _=>gf) (λ_ _ _ _ _ _=>(ς (aK JD hr (aa (aj 6) ak)))))) ak)))) rfl)))
   (qZ (Im xl (λ_=>(x5 (θ (bf af.cl af.hW (bR (ae 4)))) (θ cX)))
     (bT (eY UI hr (λ_=>ak) rfl)))
   (Ni (jH af.cl af.jW (ll)) (λ_=>(ς (bf af.cl af.hW (bR (ae 4)))))))))),by decide,rfl,rfl,⟨rs,rfl,W.B.W,W.n,rfl⟩,?_⟩
 rintro L rfl H0 ub Ox a;show Qa _ _ _ _ [some (.lst (rs.map aP),false),some (.lst (ins.map .int),false),some (.int (most:Int),false),some (.aO,false),some (.pin a (dC aq cFrame (cj cLayout rs) most .aO [] (.dc (NK.bJ P w) [] []) ⟨[],[]⟩ [] .aO .aO).t,false),none] (dC aq cFrame (cj cLayout rs) most .aO [] (.dc (NK.bJ P w) [] []) ⟨[],[]⟩ [] .aO .aO);rw[gS];refine⟨rfl,_,rfl,rfl,_,rfl,by rw[gS];rfl,?_⟩;cases hR with
 |bare h=>rw[h];refine⟨Gen.eR rfl,rfl,sL rfl,_,_,8,_,rfl,(by show 9<1000;decide),rfl,rfl,?_⟩;refine⟨λ_ ρ s=>ρ=V_ a most .aO s/\s=dC aq cFrame (cj cLayout rs) most .aO [] (.dc (NK.bJ P w) [] []) ⟨[],[]⟩ [] .aO (m4 (.num 0)),⟨0,rfl,rfl⟩,?_⟩;rintro m ρ s ⟨rfl,rfl⟩;unfold V_;rw[gS];refine⟨rfl,_,rfl,?_⟩;exact⟨[],Bp,rfl,rfl,_,rfl,rfl,hq⟩
 |@TC a' n f' ps R' h hd k0=>
   rw[h];have UB:=W.ok _ (gM hd);have I0:=wK W hd ins;obtain⟨t1,t2,_⟩:=k0.tells W I0 rfl (hY _);obtain⟨t3,hN⟩:=t2.bZ;refine⟨sL rfl,rfl,ix (by rw[cu];omega),?_⟩;refine eM (f:=T.int) (u:=λi=>.int (fQ i)) (λi _ k hk=>⟨rfl,i,rfl,hk⟩) ?_;refine⟨rfl,rs,a',f',ps,UH ins,most,.aO,[],_,_,_,_,none,_,rfl,.inl (by unfold UH;rw[Lh];rfl),rfl,hd,by have:=UB.1;omega,by decide,?_⟩;refine⟨λm ρ s=>(∃l,ρ=V_ a most (.int ((a':Nat):Int)) s/\s=Lu aq cFrame cLayout (NK.bJ P w) rs most l/\tQ rs l/\l.dn.length<=most/\∃m',m=m'+1/\Ls rs most m' l R)\/(∃fr ce ct pl,ρ=V_ a most (.int ((a':Nat):Int)) s/\s=dC aq cFrame (cj cLayout rs) most .aO fr ce ct R.1 pl R.2/\m=0),
    ⟨_,.inl ⟨lv0 a' ps ins,rfl,rfl,I0,hY _,n,rfl,k0⟩⟩,?_⟩
   rintro m ρ s (⟨l,rfl,rfl,I,hl,m',rfl,hk⟩|⟨fr,ce,ct,pl,rfl,rfl,rfl⟩);unfold V_ Lu;rw[gS];refine⟨rfl,_,rfl,?_⟩;refine⟨sL rfl,rfl,rs,l,most,rfl,rfl,W,I,by omega,?_⟩;cases hk with
   |fin h2=>rw[h2];exact λfr ce ct pl=>⟨0,by omega,.inr ⟨fr,ce,ct,pl,rfl,rfl,rfl⟩⟩
   |@go n' _ s' _ h2 k2=>
     have hs:tQ rs s'/\s'.dn.length<=most:=by
      rcases rV W I (most:=most) with⟨s3,h3,I3,h4⟩|⟨R3,h3⟩
      rw[h2] at h3;cases h3;refine⟨I3,?_⟩;obtain⟨e1,e2⟩|⟨e1,_⟩:=h4
      omega;rw[e1];exact hl;rw[h2] at h3;cases h3
     rw[h2];exact⟨n'+1,by omega,.inl ⟨s',rfl,rfl,hs.1,hs.2,n',rfl,k2⟩⟩
   unfold V_;rw[gS];refine⟨rfl,_,rfl,?_⟩;refine gz (c:=qN R.2) hN ?_;exact⟨R.1,Bp,t1,rfl,_,rfl,t3,hq⟩
noncomputable abbrev Zi:ν:=qaN
def UK:az Zi qaN (ai gG):=L2.fD
def ad8(ts:ο)(q:ο->T->Prop):Prop:=∃rs ins most R,ts=[.lst (rs.map aP),.lst (ins.map .int),.int ((most:Nat):Int)]/\Wl rs/\ins.length<=100/\most<=900/\r_ rs ins most R/\q R.1 R.2
def UL(P:Program)(w:World)(K:Γ)(mg:qae)(base:Heap):Prop :=
 ∃f fd tk,mg "run"=some (.ref f)/\W.keepIn K (.ref f)=true/\Binds K fd qaN []/\Binds K fd qaN [.int 200 tk]/\cD P w K mg base eQ 8 f fd qaN (VU K 3 ad8)
def UM{tk:Tok}(F:yw K "run" "run" gG f fd)(m:mg "run"=some (.ref f))(b:Binds K fd qaN [])(b2:Binds K fd qaN [.int 200 tk])(zq:bV P w K mg base "run_poked" qaM 7 (VU K 4 gPk)):UL P w K mg base:=by obtain⟨Qv,OF,zt,zu,zw,zx⟩:=zq;refine⟨f,fd,tk,m,F.kp,b,b2,adT F UK rfl (by decide) λbF A outer s H E Ox hr ts q hG hl=>?_⟩;obtain⟨rs,ins,most,R,rfl,W,VN,hmo,hR,hq⟩:=hG;exact⟨_,_,_,rfl,q_ zx (hr.mono (by decide)) (by rfl) zt zu zw .nil (dts:=[]) (λ_ _=>aA.nil) (aa (aj 0) (aa (aj 1) (aa (aj 2) (aa (ς cX) ak)))),rfl,rs,ins,most,R,rfl,W,VN,hmo,hR,hq⟩
end
end Rg
namespace cQ
open PySem L2 VT Gen Rg Lay K5
open iL (Vl vT nm fQ RI)
section
def Dn(rs:S1)(t:T):Prop:=∃(p:Nat)(l:ο),t=.tup (.int (p:Int)::l)/\p<rs.length
def UN(W:Wl rs){most:Nat}{s:Lv}{R:Res}(h:Ls rs most n s R):tQ rs s->(∀t∈s.dn,Dn rs t)->∀t∈R.1,Dn rs t:=by
 have add:∀{l:ο}{t:T},(∀u∈l,Dn rs u)->Dn rs t->∀u∈l++[t],Dn rs u:=λ{l t} hl ht u hu=>by
  rcases cR.mp hu with z|z
  exact hl u z;rw[hX.mp z];exact ht
 induction h with
 |@fin s R h=>
  intro I hd;rcases jb W I with⟨s',_,_,h2⟩|⟨r,hr,hs,h2⟩
  rw[h2] at h;cases h;rw[h2] at h;split at h;cases h;exact hd;have:=qd W I hr hs;rw[h] at this;rw[this.1];exact add hd ⟨_,_,rfl,I.pl⟩
 |@go n s s' R h k ih=>
  intro I hd;rcases jb W I with⟨s2,I2,e2,h2⟩|⟨r,hr,hs,h2⟩
  rw[h2] at h;cases h;exact ih I2 (by rw[e2];exact hd);rw[h2] at h;split at h;cases h;have e:=qd W I hr hs;rw[h] at e;have e':s'.dn=_:=e;rcases rT W I hr hs with⟨s3,h3,I3,_⟩|⟨R3,h3⟩
  rw[h] at h3;cases h3;exact ih I3 (by rw[e'];exact add hd ⟨_,_,rfl,I.pl⟩);rw[h] at h3;cases h3
theorem JY:∀(l:ο),(∀t∈l,Dn rs t)->∃tl:List (Nat×ο),l=tl.map (λp=>T.tup (.int (p.1:Int)::p.2))/\∀p∈tl,p.1<rs.length
 |[],_=>⟨[],rfl,λ_ h=>absurd h fA⟩
 |t::l,h=>by
  obtain⟨p,x,rfl,hp⟩:=h t dD;obtain⟨tl,rfl,ht⟩:=JY l λu hu=>h u (gT _ hu);exact⟨(p,x)::tl,rfl,λq hq=>by
   rcases c0.mp hq with z|z
   rw[z];exact hp;exact ht q z⟩
def DB(rs:S1)(m:Nat)(D:qan->qao):Prop:=∀ins,∃(R:Res)(tl:List (Nat×ο)),r_ rs ins m R/\R.1=tl.map (λp=>T.tup (.int (p.1:Int)::p.2))/\D ins=tl.map (·.1)/\R.1.length<=m/\∀p∈D ins,p<rs.length
def JZ(W:Wl rs)(m:Nat):∃D,DB rs m D:=by
 have h:∀ins,∃d:qao,∃(R:Res)(tl:List (Nat×ο)),r_ rs ins m R/\R.1=tl.map (λp=>T.tup (.int (p.1:Int)::p.2))/\d=tl.map (·.1)/\R.1.length<=m/\∀p∈d,p<rs.length:=λins=>by
  have hR:∃R,r_ rs ins m R/\(∀t∈R.1,Dn rs t)/\R.1.length<=m:=by
   cases hm:g_ rs with
   |none=>exact⟨_,.bare hm,λt ht=>(nomatch ht),hY _⟩
   |some a=>obtain⟨⟨f,ps,hd⟩,_⟩:=oC hm;obtain⟨n,R,k⟩:=Ow W m (wK W hd ins);exact⟨R,.TC hm hd k,UN W k (wK W hd ins) (λt ht=>(nomatch ht)),(k.tells W (wK W hd ins) rfl (hY _)).2.2.1⟩
  obtain⟨R,h1,h2,h3⟩:=hR;obtain⟨tl,e,ht⟩:=JY R.1 h2;refine⟨_,R,tl,h1,e,rfl,h3,λp hp=>?_⟩;obtain⟨x,hx,rfl⟩:=xn.mp hp;exact ht x hx
 exact⟨λins=>(h ins).choose,λins=>(h ins).choose_spec⟩
noncomputable def pQ(D:qan->qao)(row:Int)(l:qan):Bool:=(D l).any λp=>decide ((p:Int)=row)
noncomputable def Zj:Option Nat->T
 |none=>.aO
 |some k=>.int (k:Int)
noncomputable def zy(D:qan->qao)(row:Int)(ss:List (qan)):T:=Zj (ss.findIdx? (pQ D row))
noncomputable def kD(l:qan):T:=.lst (l.map .int)
noncomputable def dg(ss:List (qan)):T:=.lst (ss.map kD)
def c8(l:qao):T:=.lst (l.map λp:Nat=>.int (p:Int))
end
end cQ
namespace fR
open PySem L2 VT Gen
open nU (bY)
noncomputable def top(i:Nat):Stmt:=PySem.Challenge.pw_slicewise_k83_inputs_that_do_a_row.main.body.getD i (.Pass ⟨0,0,0,0⟩)
noncomputable abbrev oP:Stmt:=top 56
noncomputable abbrev wM:Stmt:=top 58
noncomputable abbrev oQ:Stmt:=top 59
noncomputable abbrev J_:Stmt:=top 60
noncomputable abbrev s_call:Stmt:=top 61
noncomputable abbrev sd:Stmt:=top 62
noncomputable abbrev Ka:Stmt:=top 63
noncomputable abbrev BP:Stmt:=top 64
noncomputable abbrev oR:Stmt:=top 65
structure UO(mg:qae):Prop where
 len:mg "len"=none
 range:mg "range"=none
 tuple:mg "tuple"=none
 sum:mg "sum"=none
def Qw(ts:ο)(q:qam):Prop:=∃(ns:qan)(j:Nat),ts=[.lst (ns.map .int),.int (j:Int)]/\q (.vw (.int (ns.getD j 0)))
def Kb(ts:ο)(q:qam):Prop:=∃(c:Int)(m:Nat),ts=[.int c,.int (m:Int)]/\2<=m/\m<=20/\q (.fr (.lst ((dJ c m).map .str)))
section
noncomputable abbrev FR:ν:=qaO
def se:az FR qaO (ai oP):=L2.fD
def BQ(D:Df K mg "_law_cell_at" oP qaO f fd)(M:UO mg):bV P w K mg base "_law_cell_at" qaO 1 (cK K 2 Qw):=by
 refine D.fU (jD D.F se rfl λbF A outer s H E Ox hr ts q hG=>?_);have nd:=se.nd;refine⟨_,(ah (bA (jy (ae 1) (θ (aY aZ a_ (by rfl) M.len lZ (aJ (ae 0) aX))))
    (ar (aE (Δ (aI (ae 0) (ae 1)))))
    aM)
   (ar (aE (Δ ag)))),λ_=>?_⟩
 obtain⟨ns,j,rfl,hq⟩:=hG;refine vd (λh=>?_) (λh=>?_);have h':(j:Int)<((ns.map T.int).length:Int):=Λ h;rw[cu] at h';have hj:j<ns.length:=by omega
 refine⟨.int (ns.getD j 0),aw ?_,hq⟩;rw[iz,iy hj,List.getD,iy hj];rfl;have h':¬ ((j:Int)<((ns.map T.int).length:Int)):=λz=>h (μ z);rw[cu] at h';have e:ns.getD j 0=0:=by rw[List.getD,Gu (by omega)];rfl
 rw[e] at hq;exact hq
noncomputable abbrev OG:ν:=["_law_cell","_law_many","_law_letters","_law_size","_law_at","_law_words_here","_law_k","_law_word","_law_j","_law_number"]
def zz:az OG qaP (ai wM):=L2.fD
def Kc(D:Df K mg "_law_words" wM qaP f fd)(M:UO mg):bV P w K mg base "_law_words" qaP 1 (cK K 2 Kb):=by
 refine D.fU (jD D.F zz rfl λbF A outer s H E Ox hr ts q hG=>?_);have nd:=zz.nd;have hu:=bG.fm hr;have np:∀{i:Nat},bN ⟨H,[],Ox⟩ i:=kP;refine⟨_,(ah (bc (i:=2) nd rfl (.inl rfl) (Δ aC) np)
  (ah (bc (i:=0) nd rfl (.inl rfl) (Δ (bo (ae 0) (θ (og (θ ag) (θ ag))))) np)
  (ah (bc (i:=3) nd rfl (.inl rfl) (Δ (bX (θ ag) (θ (bo (ae 0) (θ ag))))) np)
  (ah (bc (i:=4) nd rfl (.inl rfl) (Δ (bo (θ (bW (ae 0) (θ ag))) (ae 3))) np)
  (ah (d9 (i:=5) nd rfl (.inl rfl) (Δ (cY ak)) np)
  (ah (dG xl rfl (dw (by rfl) M.range (ae 1)) (br (i:=6) nd rfl (.inl rfl) np)
   (ah (bc (i:=7) nd rfl (.inl rfl) (Δ aC) np)
   (ah (dG xl rfl (dw (by rfl) M.range (ae 3)) (br (i:=8) nd rfl (.inl rfl) np)
    (ah (bc (i:=9) nd rfl (.inl rfl) (Δ (bX (θ (bW (θ (bW (ae 0) (θ ag))) (θ (bX (ae 8) (θ ag))))) (θ (ia (ae 8) (ae 8))))) np)
    (ah (bA (bQ hu (ae 8) (ae 4))
     (ar (Sn (i:=9) nd rfl (.inl rfl) (ae 6) LR Hh np))
     aM)
    (ar (bc (i:=7) nd rfl (.inl rfl) (Δ (bX (ae 7) (θ (aI (ae 2) (θ (bo (ae 9) (θ ag))))))) np)))))
   (ar (bP (eB 5 qe qf bq bp (aa (aj 7) ak)))))))
  (ah (bA (bQ hu (θ (bo (θ (bW (ae 0) (θ ag))) (θ ag))) (θ ag))
   (ar (k5 5 (ς (bX (θ (aI (ae 5) (θ ag))) (θ (aI (ae 2) (θ (bo (θ (bW (ae 0) (θ ag))) (θ ag))))))) (θ ag)))
   aM)
  (ar (aE (kc 5 np)))))))))),λ_=>?_⟩
 obtain⟨c,m,rfl,V3,aep,hq⟩:=hG;have e12:(10:Int) ^ (12:Int).toNat=1000000000000:=YE;have hz:(1:Int)+c % (10:Int) ^ (12:Int).toNat % 7=(kB c:Int):=by rw[e12];exact (Qd c).symm
 have hsz:=rf c;refine⟨⟨by decide,by decide,by decide⟩,(by show (0:Int)<10 ^ (12:Int).toNat;decide),(by show (0:Int)<7;decide),⟨by decide,by decide⟩,(by show (0:Int)<1+c % 10 ^ (12:Int).toNat % 7;rw[hz];omega),hY _,by omega,by omega,?_⟩;refine dH (λk ρ=>∃kv wv jv nv,ρ=[some (.int (tw c),false),some (.int (m:Int),false),some (.str bY,false),some (.int (kB c:Int),false),some (.int (EU c:Int),false),some (.lst (((List.range k).map λk=>cO c k (kB c)).map .str),true),kv,wv,jv,nv]) ⟨none,none,none,none,?_⟩ ?_ ?_;have ha:c % (10:Int) ^ (12:Int).toNat / 7 % (1+c % (10:Int) ^ (12:Int).toNat % 7)=(EU c:Int):=by rw[hz,e12];exact (Qe c).symm
 show [some (T.int (c % (10:Int) ^ (12:Int).toNat),false),_,_,some (T.int (1+c % (10:Int) ^ (12:Int).toNat % 7),false),some (T.int (c % (10:Int) ^ (12:Int).toNat / 7 % (1+c % (10:Int) ^ (12:Int).toNat % 7)),false),_,_,_,_,_]=_;rw[ha,hz,e12];rfl;rintro k ρ hk ⟨kv,wv,jv,nv,rfl⟩;refine⟨by omega,by omega,?_⟩;refine dH (λj ρ=>∃jv nv,ρ=[some (.int (tw c),false),some (.int (m:Int),false),some (.str bY,false),some (.int (kB c:Int),false),some (.int (EU c:Int),false),some (.lst (((List.range k).map λk=>cO c k (kB c)).map .str),true),some (.int (0+(k:Int)),false),some (.str (cO c k j),false),jv,nv]) ⟨_,_,rfl⟩ ?_ ?_;rintro j ρ hj ⟨jv,nv,rfl⟩;have Ep:j<kB c:=by omega
 refine⟨⟨by decide,by decide⟩,⟨by show (0:Int)<0+(j:Int)+1;omega,by show 0+(j:Int)+1<1073741824;omega⟩,.inl ⟨by show -(2 ^ 64)<0+(j:Int);omega,by show 0+(j:Int)<2 ^ 64;omega⟩,?_⟩;have last:∀n:Int,n=vK c k j->∃c',jg bY.cps.toList (n % 26)=some c'/\(cO c k j).length+(Str.mk #[c']).length<=sizeLine/\(cO c k j++⟨#[c']⟩)=cO c k (j+1):=by rintro n rfl;refine⟨_,uo _,?_,(Bc c k j).symm⟩;rw[gj,ξ];show j+1<=16777216;omega
 refine cN (λh=>?_) (λh=>?_);have hja:j=EU c:=by have h:(0:Int)+(j:Int)=(EU c:Int):=h;omega
 obtain⟨c',h1,h2,h3⟩:=last (tw c / 49 / (0+(j:Int)+1)+(0+(j:Int)) * (0+(j:Int))+(0+(k:Int))) (by unfold vK;rw[ε hja];simp only[Li]);exact⟨by show (0:Int)<26;decide,ig,c',h1,h2,_,_,by rw[<- h3];rfl⟩;have hja:¬ j=EU c:=λz=>h (by show (0:Int)+(j:Int)=(EU c:Int);omega);obtain⟨c',h1,h2,h3⟩:=last (tw c / 49 / (0+(j:Int)+1)+(0+(j:Int)) * (0+(j:Int))) (by unfold vK;rw[ζ hja];simp only[Li,Int.add_zero]);exact⟨by show (0:Int)<26;decide,ig,c',h1,h2,_,_,by rw[<- h3];rfl⟩;rintro ρ ⟨jv,nv,rfl⟩;refine⟨?_,some (.int (0+(k:Int)),false),some (.str (cO c k (kB c)),false),jv,nv,?_⟩;rw[cu,cu,Lc,ξ];omega;rw[List.range_succ,nG,nG];rfl;rintro ρ ⟨kv,wv,jv,nv,rfl⟩;refine⟨⟨by decide,by decide⟩,(by show (0:Int)<3;decide),cN (λh=>?_) (λh=>?_)⟩;have hc:tw c / 49 % 3=1:=h;have e0:jg (((List.range m).map λk=>cO c k (kB c)).map T.str) 0=some (T.str (cO c 0 (kB c))):=by refine aw (j:=0) ?_;rw[iz,iz,Vp (by omega)];rfl
 refine⟨_,e0,⟨by decide,by decide⟩,(by show (0:Int)<26;decide),ig,_,uo _,?_,1,?_,?_⟩;rw[gj,ξ];show kB c+1<=16777216;omega;unfold xG;rw[ε (by decide),ε (by rw[cu,cu,Lc];omega)];rfl;have e:(dJ c m).map T.str=(((List.range m).map λk=>cO c k (kB c)).map T.str).set 1 (T.str (cO c 0 (kB c)++⟨#[iE (tw c / 147)]⟩)):=by unfold dJ;rw[ε hc,List.map_set]
 rw[e] at hq;exact hq;have hc:¬ tw c / 49 % 3=1:=h;have e:(dJ c m).map T.str=(((List.range m).map λk=>cO c k (kB c)).map T.str):=by unfold dJ;rw[ζ hc]
 rw[e] at hq;exact hq
end
def iK(ts:ο)(q:qam):Prop:=∃(n:Int)(ys:ν),ts=[.int n,.lst (ys.map .str)]/\ys.length=6/\0<=n/\n<2147483648/\∀o,eD ys o->q (.vw (iF o))
def Zk(ts:ο)(q:qam):Prop:=∃(n:Int)(ys:ν),ts=[.int n,.lst (ys.map .str)]/\ys.length=6/\(∀y∈ys,y.length<=100)/\0<=n/\n<2147483648/\∀k,EV ys k->q (.vw (z9 k))
def Qx(ts:ο)(q:qam):Prop:=∃(n:Int)(x:Str)(ys:ν)(pl:Plan),ts=[.int n,.str x,.lst (ys.map .str),.lst (pl.map bS)]/\ys.length=6/\pl≠[]/\pl.length<=3/\(∀p∈pl,p.2.length<=4)/\x∈ys/\0<=n/\n<2147483648 /\
 ∀f as,gC ys pl (.call x f as)->q (.vw (aP (.call x f as)))
structure Given(ys:ν)(pl:Plan):Prop where
 y6:ys.length=6
 sm:∀y∈ys,y.length<=100
 p3:pl.length<=3
 p4:∀p∈pl,p.2.length<=4
def DC(ts:ο)(q:qam):Prop:=∃(n:Int)(ys:ν)(pl:Plan),ts=[.int n,.lst (ys.map .str),.lst (pl.map bS)]/\Given ys pl/\0<=n/\n<2147483648/\∀r,gC ys pl r->q (.vw (aP r))
section
noncomputable abbrev FT:ν:=qaQ
def sf:az FT qaQ (ai oQ):=L2.fD
def BR(D:Df K mg "_law_operand" oQ qaQ f fd):bV P w K mg base "_law_operand" qaQ 1 (cK K 2 iK):=by
 refine D.fU (jD D.F sf rfl λbF A outer s H E Ox hr ts q hG=>?_);have nd:=sf.nd;have hu:=bG.fm hr;refine⟨_,(ah (bA (Hi (θ (bo (ae 0) (θ ag))) (θ ag))
    (ar (aE (Δ (aI (ae 1) (θ (bo (θ (bW (ae 0) (θ ag))) (θ ag)))))))
    aM)
   (ah (bA (bQ hu (θ (bo (ae 0) (θ ag))) (θ ag))
     (ar (aE (Δ (iU (θ (bo (θ (bX (θ (ia (θ (ia (ae 0) (θ ag))) (θ (og (θ ag) (θ ag))))) (ae 0))) (θ (ia (θ ag) (θ (og (θ ag) (θ ag))))))) (θ (og (θ ag) (θ ag)))))))
     aM)
   (ar (aE (Δ (iU (θ (bo (θ (bW (ae 0) (θ ag))) (θ ag))) (θ ag))))))),λ_=>?_⟩
 obtain⟨n,ys,rfl,DD,SS,hn1,hq⟩:=hG;refine⟨(by show (0:Int)<3;decide),cN (λ_=>?_) (λ_=>?_)⟩;obtain⟨y,hy,e⟩:=mR DD (n:=n / 3) (m:=4) (by decide) (by decide);exact⟨⟨by decide,by decide⟩,(by show (0:Int)<4;decide),_,e,hq (.nm y) hy⟩;refine⟨(by show (0:Int)<15;decide),cN (λ_=>?_) (λ_=>?_)⟩;refine⟨.inr ⟨by decide,by decide⟩,⟨by decide,by decide,by decide⟩,.inl ⟨by show -(2 ^ 64:Int)<n * 1000003;omega,by show n * 1000003<(2 ^ 64:Int);omega⟩,⟨by decide,by decide,by decide⟩,.inl ⟨by decide,by decide⟩,(by show (0:Int)<2 * 10 ^ (30:Int).toNat;decide),⟨by decide,by decide,by decide⟩,hq (.nu _) ?_⟩;show -1000000000000000000000000000000<=(n * 1000003 * 10 ^ (20:Int).toNat+n) % (2 * 10 ^ (30:Int).toNat)-10 ^ (30:Int).toNat/\(n * 1000003 * 10 ^ (20:Int).toNat+n) % (2 * 10 ^ (30:Int).toNat)-10 ^ (30:Int).toNat<1000000000000000000000000000000;rw[YF];have h0:=nH (n * 1000003 * 10 ^ (20:Int).toNat+n) (show (2 * 1000000000000000000000000000000:Int)≠0 by decide);have h1:=pj (n * 1000003 * 10 ^ (20:Int).toNat+n) (show (0:Int)<2 * 1000000000000000000000000000000 by decide);exact⟨by omega,by omega⟩;refine⟨⟨by decide,by decide⟩,(by show (0:Int)<9;decide),hq (.nu _) ?_⟩;show -1000000000000000000000000000000<=n / 3 % 9-4/\n / 3 % 9-4<1000000000000000000000000000000;have h0:=nH (n / 3) (show (9:Int)≠0 by decide);have h1:=pj (n / 3) (show (0:Int)<9 by decide);exact⟨by omega,by omega⟩
noncomputable abbrev Zl:ν:=qaQ
def Ke:az Zl qaQ (ai J_):=L2.fD
def UP(D:Df K mg "_law_key" J_ qaQ f fd)(c1:bV P w K mg base "_law_operand" qaQ 1 (cK K 2 iK)):bV P w K mg base "_law_key" qaQ 2 (cK K 2 Zk):=by
 obtain⟨ko,jc,cx,cy,cA,cC⟩:=c1;refine D.fU (jD D.F Ke rfl λbF A outer s H E Ox hr ts q hG=>?_);have nd:=Ke.nd;have hu:=bG.fm hr;refine⟨_,(ah (bA (bQ hu (θ (bo (ae 0) (θ ag))) (θ ag))
    (ar (aE (Δ (bX (θ aC) (θ (aI (ae 1) (θ (bo (θ (bW (ae 0) (θ ag))) (θ ag)))))))))
    aM)
   (ar (aE (Δ (dA cC (hr.mono (by decide)) (by rfl) cx cy cA (aa (ς (bW (ae 0) (θ ag))) (aa (aj 1) ak))))))),λ_=>?_⟩
 obtain⟨n,ys,rfl,DD,hsm,SS,hn1,hq⟩:=hG;refine⟨(by show (0:Int)<2;decide),cN (λ_=>?_) (λ_=>?_)⟩;obtain⟨y,hy,e⟩:=mR DD (n:=n / 2) (m:=2) (by decide) (by decide);refine⟨⟨by decide,by decide⟩,(by show (0:Int)<2;decide),_,e,?_,hq (.fld y) hy⟩;rw[adU,ξ];have:=hsm y hy;omega;exact⟨⟨by decide,by decide⟩,rfl,_,ys,rfl,DD,by show 0<=n / 2;omega,by show n / 2<2147483648;omega,λo ho=>hq (.op o) ho⟩
noncomputable abbrev wo:ν:=["_law_number","_law_name","_law_words_here","_law_later","_law_other","_law_parameters","_law_operands","_law_k"]
def DE:az wo qaR (ai s_call):=L2.fD
def OH(D:Df K mg "_law_call" s_call qaR f fd)(M:UO mg)(c1:bV P w K mg base "_law_operand" qaQ 1 (cK K 2 iK)) :
  bV P w K mg base "_law_call" qaR 2 (cK K 4 Qx):=by
 obtain⟨ko,jc,cx,cy,cA,cC⟩:=c1;refine D.fU (jD D.F DE rfl λbF A outer s H E Ox hr ts q hG=>?_);have nd:=DE.nd;have np:∀{i:Nat},bN ⟨H,[],Ox⟩ i:=kP;refine⟨_,(ah (Su (ς (aI (ae 3) (θ (bo (ae 0) (θ (aY aZ a_ (by rfl) M.len lZ (aJ (ae 3) aX))))))) (qz (n:=2) rfl (eC (br (i:=4) nd rfl (.inl rfl) np) (eC (br (i:=5) nd rfl (.inl rfl) np) mq))))
   (ah (d9 (i:=6) nd rfl (.inl rfl) (Δ (cY ak)) np)
   (ah (dG xl rfl (dw (by rfl) M.range (θ (aY aZ a_ (by rfl) M.len lZ (aJ (ae 5) aX)))) (br (i:=7) nd rfl (.inl rfl) np)
     (ar (bP (eB 6 qe qf bq bp (aa (ς (dA cC (hr.mono (by decide)) (by rfl) cx cy cA (aa (ς (bW (ae 0) (θ (bX (θ (aY aZ a_ (by rfl) M.len lZ (aJ (ae 3) aX))) (ae 7))))) (aa (aj 2) ak)))) ak)))))
   (ar (aE (Δ (bH (aa (ς aC) (aa (aj 1) (aa (aj 4) (aa (ς (gi h7 jA (by rfl) M.tuple pT (aJ (ae 6) aX))) ak))))))))))),λ_=>?_⟩
 obtain⟨n,x,ys,pl,rfl,DD,gc,hp3,Yt,hx,SS,hn1,hq⟩:=hG;have adW:0<pl.length:=by cases pl with|nil=>exact absurd rfl gc|cons a r=>simp
 have eL:((pl.map bS).length:Int)=pl.length:=by rw[cu]
 have h0:0<=n % ((pl.map bS).length:Int):=nH n (by omega);have h1:n % ((pl.map bS).length:Int)<pl.length:=by rw[eL];exact pj n (by omega)
 obtain⟨j,hj⟩:=Gs h0;have SU:j<pl.length:=by omega
 obtain⟨p,hp⟩:∃p:Str×ν,p=pl[j]:=⟨_,rfl⟩;obtain⟨fn,ps⟩:=p;have Il:(fn,ps)∈pl:=by rw[hp];exact Gw SU
 have Y2:ps.length<=4:=Yt _ Il;refine⟨(by show (0:Int)<((pl.map bS).length:Int);omega),bS (fn,ps),?_,rfl,?_⟩;rw[hj];refine aw ?_;rw[iz,iy SU,<- hp];rfl;refine⟨rfl,hY _,by omega,by show ((ps.map T.str).length:Int)<2 ^ 62;rw[cu];omega,?_⟩;refine dH (λk ρ=>∃kv os as,ρ=[some (.int n,false),some (.str x,false),some (.lst (ys.map .str),false),some (.lst (pl.map bS),false),some (.str fn,false),some (.tup (ps.map .str),false),some (.lst os,true),kv]/\os=as.map iF/\as.length=k/\∀a∈as,eD ys a)
  ⟨none,[],[],rfl,rfl,rfl,λ_ z=>nomatch z⟩ ?_ ?_
 rintro k ρ hk ⟨kv,_,as,rfl,rfl,rfl,sQ⟩;have tu:as.length<ps.length:=by rw[cu,zY] at hk;exact hk
 clear hk;refine⟨⟨by show (0:Int)<((pl.map bS).length:Int)+(0+(as.length:Int));omega,by show ((pl.map bS).length:Int)+(0+(as.length:Int))<1073741824;omega⟩,rfl,_,ys,rfl,DD,?_,?_,λo ho=>⟨?_,_,_,as++[o],rfl,?_,by simp,λa ha=>?_⟩⟩;exact Int.ediv_nonneg SS (by omega);exact Int.lt_of_le_of_lt (Int.ediv_le_self _ SS) hn1;rw[cu,ξ];omega;rw[nG];rfl;rcases cR.mp ha with z|z
 exact sQ a z;rw[hX.mp z];exact ho;rintro ρ ⟨kv,_,as,rfl,rfl,hlen,sQ⟩;refine⟨by show 4<=sizeLine;rw[ξ];decide,hq fn as ⟨hx,⟨ps,Il,?_⟩,sQ⟩⟩;rw[hlen,cu];rfl
end
def fits(h:n<=1001):n<sizeLine:=by rw[ξ];omega
def ix(h:n<=8):n<=sizeLine:=small (by omega)
noncomputable def Fj(q:qam)(n:Int)(ys:ν)(pl:Plan)(y z:Str):FS:=λd ρ=>(∃wv,ρ=[some (.int n,false),some (.lst (ys.map .str),false),some (.lst (pl.map bS),false),some (.int (n % 13),false),some (.str y,false),some (.str z,false),some (.int (n / 208),false),wv])/\∀ρ r,q r->d.rt ρ r
noncomputable def Zm:GT:=λts q=>∃(rs:S1)(b_:ν)(c:Int)(ys:ν)(pl:Plan),ts=[.lst (rs.map aP),.lst (b_.map .str),.int c,.lst (ys.map .str),.lst (pl.map bS)]/\Given ys pl/\rs.length<=1000/\b_.length<=1000 /\
 ∀new dR,lr ys pl b_ new dR->q [.lst ((rs++new).map aP),.lst (dR.map .str)] (.vw .aO)
section
noncomputable abbrev Kg:ν:=["_law_number","_law_words_here","_law_later","_law_kind","_law_name","_law_other","_law_rest","_law_word"]
def uE:az Kg qaS (ai sd):=L2.fD
theorem FU(D:Df K mg "_law_simple" sd qaS f fd)(c1:bV P w K mg base "_law_operand" qaQ 1 (cK K 2 iK))(c2:bV P w K mg base "_law_key" qaQ 2 (cK K 2 Zk))(c3:bV P w K mg base "_law_call" qaR 2 (cK K 4 Qx)) :
  bV P w K mg base "_law_simple" qaS 3 (cK K 3 DC):=by
 obtain⟨ko,jc,cx,cy,cA,cC⟩:=c1;obtain⟨aek,ad9,Qy,Qz,QA,QB⟩:=c2;obtain⟨aea,acE,UQ,UR,UT,UU⟩:=c3;refine D.fU (jD D.F uE rfl λbF A outer s H E Ox hr ts q hG=>?_);have nd:=uE.nd;have hu:=bG.fm hr;have np:∀{i:Nat},bN ⟨H,[],Ox⟩ i:=kP;obtain⟨n,ys,pl,rfl,G,SS,hn1,hq⟩:=hG;obtain⟨y,hy,ey⟩:=mR G.y6 (n:=n / 13) (m:=4) (by decide) (by decide);obtain⟨z,hz,ez⟩:=mR G.y6 (n:=n / 52) (m:=4) (by decide) (by decide);refine⟨_,(ah (bc (i:=3) nd rfl (.inl rfl) (Δ (bo (ae 0) (θ ag))) np)
   (ah (bc (i:=4) nd rfl (.inl rfl) (Δ (aI (ae 1) (θ (bo (θ (bW (ae 0) (θ ag))) (θ ag))))) np)
   (ah (bc (i:=5) nd rfl (.inl rfl) (Δ (aI (ae 1) (θ (bo (θ (bW (ae 0) (θ ag))) (θ ag))))) np)
   (ah (bc (i:=6) nd rfl (.inl rfl) (Δ (bW (ae 0) (θ ag))) np)
   (ah (bA (jy (ae 3) (θ ag))
     (ar (aE (Δ (bH (aa (ς aC) (aa (aj 4) (aa (ς (dA cC (hr.mono (by decide)) (by rfl) cx cy cA (aa (aj 6) (aa (aj 1) ak)))) ak)))))))
     aM)
   (ah (bA (jy (ae 3) (θ ag))
     (ah (bc (i:=7) nd rfl (.inl rfl) (Δ (aI (θ (cY (aa (ς aC) (aa (ς aC) (aa (ς aC) (aa (ς aC) (aa (ς aC) (aa (ς aC) (aa (ς aC) ak))))))))) (θ (bo (ae 6) (θ ag))))) np)
     (ar (aE (Δ (bH (aa (ς aC) (aa (aj 4) (aa (ς (dA cC (hr.mono (by decide)) (by rfl) cx cy cA (aa (ς (bW (ae 6) (θ ag))) (aa (aj 1) ak)))) (aa (aj 7) (aa (ς (dA cC (hr.mono (by decide)) (by rfl) cx cy cA (aa (ς (bW (ae 6) (θ ag))) (aa (aj 1) ak)))) ak))))))))))
     aM)
   (ah (bA (bQ hu (ae 3) (θ ag))
     (ar (aE (Δ (bH (aa (ς aC) (aa (aj 4) ak))))))
     aM)
   (ah (bA (jy (ae 3) (θ ag))
     (ar (aE (Δ (bH (aa (ς aC) (aa (aj 4) (aa (aj 5) (aa (ς (dA QB (hr.mono (by decide)) (by rfl) Qy Qz QA (aa (aj 6) (aa (aj 1) ak)))) ak))))))))
     aM)
   (ah (bA (jy (ae 3) (θ ag))
     (ar (aE (Δ (bH (aa (ς aC) (aa (aj 5) (aa (ς (dA QB (hr.mono (by decide)) (by rfl) Qy Qz QA (aa (aj 6) (aa (aj 1) ak)))) (aa (ς (dA cC (hr.mono (by decide)) (by rfl) cx cy cA (aa (ς (bW (ae 6) (θ ag))) (aa (aj 1) ak)))) ak))))))))
     aM)
   (ah (bA (VW.vc (fE (bQ hu (ae 3) (θ ag)) (eF (Cy hu (ae 2) (θ (cY ak))))))
     (ar (aE (Δ (dA UU (hr.mono (by decide)) (by rfl) UQ UR UT (aa (aj 6) (aa (aj 4) (aa (aj 1) (aa (aj 2) ak))))))))
     aM)
   (j'.weak (u:=(Fj q n ys pl y z)) (ah (bA (VW.vc (fE (bQ hu (ae 3) (θ ag)) (eF (bQ hu (θ (bo (ae 6) (θ ag))) (θ ag)))))
     (ar (aE (Δ (bH (aa (ς aC) (aa (ς (aI (ae 1) (θ (bX (θ ag) (θ (bo (θ (bW (ae 6) (θ ag))) (θ ag))))))) ak))))))
     aM)
   (ah (bA (VW.vc (fE (bQ hu (ae 3) (θ ag)) (eF (bQ hu (θ (bo (ae 6) (θ ag))) (θ ag)))))
     (ar (aE (Δ (bH (aa (ς aC) ak)))))
     aM)
   (ar (aE (Δ (bH (aa (ς aC) (aa (aj 4) (aa (aj 5) ak))))))))) ?w_cutS))))))))))),λ_=>?_⟩
 case w_cutS=>
  rintro d ρ ⟨⟨wv,rfl⟩,kk⟩;have fin:=kk;refine cN (λ_=>?_) (λ_=>?_);refine⟨(by show (0:Int)<3;decide),cN (λ_=>?_) (λ_=>?_)⟩;obtain⟨x,hx,ex⟩:=To G.y6 (n / 208 / 3);exact⟨⟨by decide,by decide⟩,(by show (0:Int)<2;decide),_,ex,ix (by simp),kk _ _ (hq (.fail x) hx)⟩;refine cN (λ_=>?_) (λ_=>⟨ix (by simp),kk _ _ (hq (.put y (.nm z)) ⟨hy,hz⟩)⟩);exact⟨(by show (0:Int)<2;decide),cN (λ_=>⟨ix (by simp),kk _ _ (hq .skip trivial)⟩) (λ_=>⟨ix (by simp),kk _ _ (hq (.put y (.nm z)) ⟨hy,hz⟩)⟩)⟩;refine gz rfl (cN (λ_=>?_) (λ_=>gz rfl ⟨ix (by simp),kk _ _ (hq (.put y (.nm z)) ⟨hy,hz⟩)⟩));exact⟨(by show (0:Int)<2;decide),cN (λ_=>⟨ix (by simp),kk _ _ (hq .skip trivial)⟩) (λ_=>⟨ix (by simp),kk _ _ (hq (.put y (.nm z)) ⟨hy,hz⟩)⟩)⟩
 have m0:0<=n / 208:=by omega
 have m1:n / 208<2147483648:=by omega
 have dv:∀e:Int,0<e->0<=n / 208 / e/\n / 208 / e<2147483648:=λe he=>⟨Int.ediv_nonneg m0 (by omega),Int.lt_of_le_of_lt (Int.ediv_le_self _ m0) m1⟩;refine⟨(by show (0:Int)<13;decide),⟨by decide,by decide⟩,(by show (0:Int)<4;decide),_,ey,⟨by decide,by decide⟩,(by show (0:Int)<4;decide),_,ez,⟨by decide,by decide⟩,?_⟩;refine cN (λ_=>?_) (λ_=>?_);exact⟨rfl,_,ys,rfl,G.y6,m0,m1,λo ho=>⟨ix (by simp),hq (.put y o) ⟨hy,ho⟩⟩⟩;refine cN (λ_=>?_) (λ_=>?_);obtain⟨op,Aa,eop⟩:=YI (n / 208);exact⟨ix (by simp),(by show (0:Int)<7;decide),_,eop,⟨by decide,by decide⟩,rfl,_,ys,rfl,G.y6,(dv 7 (by decide)).1,(dv 7 (by decide)).2,λo ho=>⟨⟨by decide,by decide⟩,rfl,_,ys,rfl,G.y6,(dv 420 (by decide)).1,(dv 420 (by decide)).2,λo2 z6=>⟨ix (by simp),hq (.lW y o op o2) ⟨hy,ho,Aa,z6⟩⟩⟩⟩;refine cN (λ_=>⟨ix (by simp),hq (.new y) hy⟩) (λ_=>?_);refine cN (λ_=>?_) (λ_=>?_);exact⟨rfl,_,ys,rfl,G.y6,G.sm,m0,m1,λk hk=>⟨ix (by simp),hq (.get y z k) ⟨hy,hz,hk⟩⟩⟩;refine cN (λ_=>?_) (λ_=>?_);exact⟨rfl,_,ys,rfl,G.y6,G.sm,m0,m1,λk hk=>⟨⟨by decide,by decide⟩,rfl,_,ys,rfl,G.y6,(dv 90 (by decide)).1,(dv 90 (by decide)).2,λo ho=>⟨ix (by simp),hq (.set z k o) ⟨hz,hk,ho⟩⟩⟩⟩;refine cN (λ_=>?_) (λ_=>gz rfl ⟨⟨_,rfl⟩,λ_ _ h=>h⟩);refine⟨hY _,yy pl,rfl,EW pl,?_⟩;cases pl with
 |nil=>exact gz rfl ⟨⟨_,rfl⟩,λ_ _ h=>h⟩
 |cons p pl=>exact x6 rfl ⟨rfl,_,y,ys,p::pl,rfl,G.y6,by simp,G.p3,G.p4,hy,m0,m1,λfn as hs=>hq _ hs⟩
end
noncomputable def Kh(q:ο->qam)(rs:S1)(b_:ν)(c n mv:Int)(ys:ν)(pl:Plan):FS:=λd ρ=>(∃nv,ρ=[some (.lst (rs.map aP),true),some (.lst (b_.map .str),true),some (.int c,false),some (.lst (ys.map .str),false),some (.lst (pl.map bS),false),some (.int n,false),some (.int mv,false),nv]) /\
 ∀ρ,q (k6 [true,true,false,false,false] ρ) (.vw .aO)->d.nx ρ
def sg(l:ν):plainT (.lst (l.map .str))=true:=by simp only[plainT];exact eI (λ_=>by simp[plainT]) l
def zA(l:ν):dep (.lst (l.map .str))<=100:=by have:=gD (f:=T.str) (n:=0) (λ_=>by simp[dep]) l;simp only[dep];omega
section
noncomputable abbrev Zn:ν:=["_law_rows_here","_law_stack","_law_cell","_law_words_here","_law_later","_law_number","_law_move","_law_name"]
def Ki:az Zn qaT (ai Ka):=L2.fD
def UW(D:Df K mg "_law_lay" Ka qaT f fd)(M:UO mg)(c1:bV P w K mg base "_law_operand" qaQ 1 (cK K 2 iK))(c2:bV P w K mg base "_law_simple" qaS 3 (cK K 3 DC)) :
  bV P w K mg base "_law_lay" qaT 4 (AS K [true,true,false,false,false] Zm):=by
 obtain⟨ko,jc,cx,cy,cA,cC⟩:=c1;obtain⟨Zo,Wb,Kj,Kk,Kl,Km⟩:=c2;refine D.fU (fnV D.F Ki rfl λbF A outer s H E as Ox hr ts q hl hG=>?_);have nd:=Ki.nd;have hu:=bG.fm hr;obtain⟨rs,b_,c,ys,pl,rfl,G,hr1,hs1,hq⟩:=hG;have n0:0<=c / 8 * 48271 % 2147483647:=nH _ (by decide);have n1:c / 8 * 48271 % 2147483647<2147483647:=pj _ (by decide);have n2:c / 8 * 48271 % 2147483647<2147483648:=by omega
 have d3:0<=c / 8 * 48271 % 2147483647 / 3/\c / 8 * 48271 % 2147483647 / 3<2147483648:=⟨by omega,by omega⟩;have FV:(rs.map aP).length<sizeLine:=by rw[cu];exact fits (by omega)
 have Zp:(b_.map T.str).length<sizeLine:=by rw[cu];exact fits (by omega)
 have one:∀{r:Rw}{dR:ν},lr ys pl b_ [r] dR->q [.lst (rs.map aP++[aP r]),.lst (dR.map .str)] (.vw .aO):=λ{r dR} h=>by have:=hq [r] dR h;rw[nG] at this;exact this
 have push:∀x:Str,(b_++[x]).map T.str=b_.map T.str++[T.str x]:=λx=>by rw[nG];rfl
 refine⟨_,(ah (bc (i:=5) nd rfl (.inl rfl) (Δ (bo (θ (ia (θ (bW (ae 2) (θ ag))) (θ ag))) (θ ag))) (CO (by decide)))
   (ah (bc (i:=6) nd rfl (.inl rfl) (Δ (bo (ae 2) (θ ag))) (CO (by decide)))
   (j'.weak (u:=(Kh q rs b_ c (c / 8 * 48271 % 2147483647) (c % 8) ys pl)) (ar (bA (VW.vc (fE (bQ hu (ae 6) (θ ag)) (eF (jy (θ (aY aZ a_ (by rfl) M.len lZ (aJ (ae 1) aX))) (θ ag)))))
     (ah (bP (eB 0 qe qf bq bp (aa (ς (bH (aa (ς aC) (aa (ς (dA cC (hr.mono (by decide)) (by rfl) cx cy cA (aa (aj 5) (aa (aj 3) ak)))) ak)))) ak)))
     (ar (bP (eB 1 qe qf bq bp (aa (ς aC) ak)))))
     (j'.weak (u:=(Kh q rs b_ c (c / 8 * 48271 % 2147483647) (c % 8) ys pl)) (ar (bA (VW.vc (fE (bQ hu (ae 6) (θ ag)) (eF (jy (θ (aY aZ a_ (by rfl) M.len lZ (aJ (ae 1) aX))) (θ ag)))))
       (ah (bP (eB 1 qe qf bq bp (aa (ς aC) ak)))
       (ar (bA (bQ hu (θ (bo (ae 5) (θ ag))) (θ ag))
         (ar (bP (eB 0 qe qf bq bp (aa (ς (bH (aa (ς aC) (aa (ς (dA cC (hr.mono (by decide)) (by rfl) cx cy cA (aa (ς (bW (ae 5) (θ ag))) (aa (aj 3) ak)))) ak)))) ak))))
         (ah (bc (i:=7) nd rfl (.inl rfl) (Δ (aI (ae 3) (θ (bo (θ (bW (ae 5) (θ ag))) (θ ag))))) (CO (by decide)))
         (ah (bP (eB 0 qe qf bq bp (aa (ς (bH (aa (ς aC) (aa (aj 7) ak)))) ak)))
         (ar (bP (eB 0 qe qf bq bp (aa (ς (bH (aa (ς aC) (aa (aj 7) (aa (aj 7) (aa (ς aC) (aa (ς ag) ak))))))) ak)))))))))
       (j'.weak (u:=(Kh q rs b_ c (c / 8 * 48271 % 2147483647) (c % 8) ys pl)) (ar (bA (VW.vc (fE (bQ hu (ae 6) (θ ag)) (fE (Cy hu (ae 1) (θ (cY ak))) (eF (bQ hu (θ (aI (ae 1) (θ (iV (θ ag))))) (θ aC))))))
         (ah (bP (eB 0 qe qf bq bp (aa (ς (bH (aa (ς aC) ak))) ak)))
         (ar (k5 1 (ς aC) (θ (iV (θ ag))))))
         (j'.weak (u:=(Kh q rs b_ c (c / 8 * 48271 % 2147483647) (c % 8) ys pl)) (ar (bA (VW.vc (fE (bQ hu (ae 6) (θ ag)) (eF (Cy hu (ae 1) (θ (cY ak))))))
           (ah (bP (eB 0 qe qf bq bp (aa (ς (bH (aa (ς aC) ak))) ak)))
           (ar (bP (Hl 1 PySem.F.slot_list_pop PySem.F.type_list_pop AF CD))))
           (j'.weak (u:=(Kh q rs b_ c (c / 8 * 48271 % 2147483647) (c % 8) ys pl)) (ar (bP (eB 0 qe qf bq bp (aa (ς (dA Km (hr.mono (by decide)) (by rfl) Kj Kk Kl (aa (aj 5) (aa (aj 3) (aa (aj 4) ak))))) ak)))) ?w5))) ?w4))) ?w3))) ?w2))) ?w1))),?_⟩
 case w5=>
  rintro d ρ ⟨⟨nv,rfl⟩,kk⟩;exact⟨rfl,_,ys,pl,rfl,G,n0,n2,λr hs=>⟨FV,kk _ (one (.inr (.inr (.inr (.inr (.inr ⟨r,hs,rfl,rfl⟩))))))⟩⟩
 case w4=>
  rintro d ρ ⟨⟨nv,rfl⟩,kk⟩;refine cN (λ_=>?_) (λ_=>gz rfl ⟨⟨nv,rfl⟩,kk⟩);refine⟨hY _,sg b_,rfl,zA b_,?_⟩;rcases List.eq_nil_or_concat b_ with e|⟨s0,x,e⟩
  subst e;exact gz rfl ⟨⟨nv,rfl⟩,kk⟩;have en:eqT (.lst (b_.map .str)) (.lst [])=false:=by rw[e];cases s0<;>simp[eqT,gd]
  refine x6 (by show (!eqT (.lst (b_.map .str)) (.lst []))=true;rw[en];rfl) ⟨ix (by simp),FV,rfl,T.str x,?_,?_⟩;rw[e];simp;have e2:(b_.map T.str).dropLast=s0.map T.str:=by rw[e];simp
  refine kk _ ?_;show q [.lst (rs.map aP++[aP .fin]),.lst ((b_.map T.str).dropLast)] _;rw[e2];exact one (.inr (.inr (.inr (.inr (.inl ⟨s0,x,by rw[e,List.concat_eq_append],rfl,rfl⟩)))))
 case w3=>
  rintro d ρ ⟨⟨nv,rfl⟩,kk⟩;refine cN (λ_=>?_) (λ_=>gz rfl ⟨⟨nv,rfl⟩,kk⟩);refine⟨hY _,sg b_,rfl,zA b_,?_⟩;rcases List.eq_nil_or_concat b_ with e|⟨s0,x,e⟩
  subst e;exact gz rfl (gz rfl ⟨⟨nv,rfl⟩,kk⟩);have en:eqT (.lst (b_.map .str)) (.lst [])=false:=by rw[e];cases s0<;>simp[eqT,gd]
  have ex:jg (b_.map T.str) (-1)=some (T.str x):=by rw[e,List.concat_eq_append,nG];exact jr _ _
  refine x6 (by show (!eqT (.lst (b_.map .str)) (.lst []))=true;rw[en];rfl) ⟨_,ex,cN (λhx=>?_) (λ_=>⟨⟨nv,rfl⟩,kk⟩)⟩;have Vy:x="if":=hx;subst Vy;have Lw:(b_.map T.str).length=s0.length+1:=by rw[e];simp
  refine⟨ix (by simp),FV,s0.length,?_,kk _ ?_⟩;unfold xG;rw[Lw,ζ (by decide),ε (by omega)]
  congr 1
  omega;have e2:(b_.map T.str).set s0.length (T.str "else")=(s0++([("else":Str)]:ν)).map T.str:=by rw[e];simp
  show q [.lst (rs.map aP++[aP .nJ]),.lst ((b_.map T.str).set s0.length (T.str "else"))] _;rw[e2];exact one (.inr (.inr (.inr (.inl ⟨s0,by rw[e];simp,rfl,rfl⟩))))
 case w2=>
  rintro d ρ ⟨⟨nv,rfl⟩,kk⟩;refine cN (λ_=>?_) (λ_=>gz rfl ⟨⟨nv,rfl⟩,kk⟩);refine cN (λ_=>?_) (λ_=>⟨⟨nv,rfl⟩,kk⟩);refine⟨Zp,(by show (0:Int)<3;decide),cN (λ_=>?_) (λ_=>?_)⟩;refine⟨⟨by decide,by decide⟩,rfl,_,ys,rfl,G.y6,d3.1,d3.2,λo ho=>⟨ix (by simp),FV,kk _ ?_⟩⟩;have:=one (r:=.gk o) (.inr (.inl ⟨o,ho,rfl,rfl⟩));rw[push] at this;exact this;obtain⟨y,hy,ey⟩:=mR G.y6 (n:=c / 8 * 48271 % 2147483647 / 3) (m:=4) (by decide) (by decide);refine⟨⟨by decide,by decide⟩,(by show (0:Int)<4;decide),_,ey,ix (by simp),FV,ix (by simp),?_,kk _ ?_⟩;rw[nL,cu];exact fits (by simp;omega);have:=hq [.gk (.nm y),.lW y (.nm y) "minus" (.nu 1)] _ (.inr (.inr (.inl ⟨y,hy,rfl,rfl⟩)));rw[push,nG] at this;show q [.lst ((rs.map aP++[aP (.gk (.nm y))])++[aP (.lW y (.nm y) "minus" (.nu 1))]),_] _;rw[Lz];exact this
 case w1=>
  rintro d ρ ⟨⟨nv,rfl⟩,kk⟩;refine cN (λ_=>?_) (λ_=>gz rfl ⟨⟨nv,rfl⟩,kk⟩);refine cN (λ_=>?_) (λ_=>⟨⟨nv,rfl⟩,kk⟩);refine⟨rfl,_,ys,rfl,G.y6,n0,n2,λo ho=>⟨ix (by simp),FV,Zp,kk _ ?_⟩⟩;have:=one (r:=.lq o) (.inl ⟨o,ho,rfl,rfl⟩);rw[push] at this;exact this
 exact⟨⟨by decide,by decide⟩,.inr ⟨by decide,by decide⟩,(by show (0:Int)<2147483647;decide),(by show (0:Int)<8;decide),⟨none,rfl⟩,λ_ h=>h⟩
end
def QC(ts:ο)(q:qam):Prop:=∃(c:Int)(ys:ν),ts=[.int c,.lst (ys.map .str)]/\ys.length=6/\∀pl,lu ys pl->1<=pl.length->pl.length<=3->q (.fr (.lst (pl.map bS)))
section
noncomputable abbrev Kn:ν:=["_law_cell","_law_words_here","_law_number","_law_plan_here","_law_k","_law_parameters"]
def DF:az Kn qaU (ai BP):=L2.fD
def BU:(Kn++(["_law_j"]:ν)).Nodup:=by decide +kernel
def OI(D:Df K mg "_law_plan" BP qaU f fd)(M:UO mg):bV P w K mg base "_law_plan" qaU 1 (cK K 2 QC):=by
 refine D.fU (jD D.F DF rfl λbF A outer s H E Ox hr ts q hG=>?_);have nd:=DF.nd;have np:∀{i:Nat},bN ⟨H,[],Ox⟩ i:=kP;refine⟨_,(ah (bc (i:=2) nd rfl (.inr rfl) (Δ (bo (ae 0) (θ (og (θ ag) (θ ag))))) np)
  (ah (d9 (i:=3) nd rfl (.inl rfl) (Δ (cY ak)) np)
  (ah (dG xl rfl (dw (by rfl) M.range (θ (bX (θ ag) (θ (bo (ae 2) (θ ag)))))) (br (i:=4) nd rfl (.inl rfl) np)
   (ah (bc (i:=2) nd rfl (.inr rfl) (Δ (bo (θ (bX (θ (bX (θ (ia (ae 2) (ae 2))) (θ (ia (θ ag) (ae 2))))) (ae 4))) (θ ag))) np)
   (ah (pS (i:=5) (ts:=["_law_j"]) nd rfl (.inl rfl) rfl (by rfl) (dw (by rfl) M.range (θ (bo (ae 2) (θ ag)))) (λ_ _ _ _ _ _=>(br (i:=6) BU rfl (.inl rfl) np (.inr rfl))) (λ_ _ _ _ _ _=>gf) (λ_ _ _ _ _ _=>(ς (aI (ae 1) (θ (bo (θ (bX (θ (bW (ae 2) (θ ag))) (ae 6))) (θ ag)))))) np)
   (ar (bP (eB 3 qe qf bq bp (aa (ς (bH (aa (ς (aI (ae 1) (ae 4))) (aa (ς (gi h7 jA (by rfl) M.tuple pT (aJ (ae 5) aX))) ak)))) ak)))))))
  (ar (aE (kc 3 np)))))),λ_=>?_⟩
 obtain⟨c,ys,rfl,DD,hq⟩:=hG;refine⟨⟨by decide,by decide,by decide⟩,(by show (0:Int)<10 ^ (9:Int).toNat;decide),hY _,(by show (0:Int)<3;decide),?_⟩;have m0:0<=c % (10:Int) ^ (9:Int).toNat:=nH _ (by decide);have m1:c % (10:Int) ^ (9:Int).toNat<1000000000:=by rw[YG];exact pj _ (by decide)
 have t0:0<=c % (10:Int) ^ (9:Int).toNat % 3:=nH _ (by decide);have t1:c % (10:Int) ^ (9:Int).toNat % 3<3:=pj _ (by decide);refine⟨(by show -(2 ^ 62:Int)<=1+c % 10 ^ (9:Int).toNat % 3;omega),(by show 1+c % 10 ^ (9:Int).toNat % 3<(2 ^ 62:Int);omega),?_⟩;refine dH (λk ρ=>∃n kv pv ts pl,ρ=[some (.int c,false),some (.lst (ys.map .str),false),some (.int n,false),some (.lst ts,true),kv,pv]/\ts=pl.map bS/\0<=n/\n<2147483648/\pl.length=k/\lu ys pl)
  ⟨_,none,none,_,[],rfl,rfl,m0,by omega,rfl,λk f ps e=>by simp at e⟩ ?_ ?_
 rintro k ρ hk ⟨n,kv,pv,_,pl,rfl,rfl,p0,p1,rfl,cm⟩;have hk3:pl.length<3:=by omega
 refine⟨.inl ⟨by omega,by omega⟩,.inl ⟨by decide,by decide⟩,(by show (0:Int)<2147483647;decide),rfl,(by show (0:Int)<3;decide),?_⟩;have g0:0<=(n * n+48271 * n+(0+(pl.length:Int))) % 2147483647:=nH _ (by decide);have g1:(n * n+48271 * n+(0+(pl.length:Int))) % 2147483647<2147483647:=pj _ (by decide);have u0:0<=(n * n+48271 * n+(0+(pl.length:Int))) % 2147483647 % 3:=nH _ (by decide);have u1:(n * n+48271 * n+(0+(pl.length:Int))) % 2147483647 % 3<3:=pj _ (by decide);refine⟨(by show -(2 ^ 62:Int)<=(n * n+48271 * n+(0+(pl.length:Int))) % 2147483647 % 3;omega),(by show (n * n+48271 * n+(0+(pl.length:Int))) % 2147483647 % 3<(2 ^ 62:Int);omega),?_⟩;refine⟨by rw[k_];exact small (by show ((n * n+48271 * n+(0+(pl.length:Int))) % 2147483647 % 3).toNat<=1000;omega),?_⟩;refine oh (λ_=>true) (λt=>match t with | .int j=>.str (ys.getD (((n * n+48271 * n+(0+(pl.length:Int))) % 2147483647 / 3+j) % 4).toNat Str.empty)|_=>.aO) ?_ ?_;intro t ht _ r hr;obtain⟨i,hi,e⟩:=List.mem_iff_getElem.mp ht;obtain⟨_,rfl⟩:=qP (by rw[iy hi,e]:(rangeT _ _)[i]?=some t);rw[ε rfl] at hr;exact⟨⟨by decide,by decide⟩,(by show (0:Int)<4;decide),_,IH DD _,hr⟩;generalize hn':(n * n+48271 * n+(0+(pl.length:Int))) % 2147483647=n' at g0 g1 u0 u1;have VY:pl.length<ys.length:=by omega
 have ek:jg (ys.map T.str) (0+(pl.length:Int))=some (T.str ys[pl.length]):=by rw[Li];refine aw ?_;rw[iz,iy VY];rfl
 have eps:(((rangeT 0 (n' % 3).toNat).filter λ_=>true).map λt=>match t with | .int j=>T.str (ys.getD ((n' / 3+j) % 4).toNat Str.empty)|_=>.aO)=((List.range (n' % 3).toNat).map λj=>ys.getD ((n' / 3+((j:Nat):Int)) % 4).toNat Str.empty).map T.str:=by unfold rangeT;rw[List.filter_eq_self.mpr (λ_ _=>rfl),Lh,Lh];apply QT;intro j _;show T.str (ys.getD ((n' / 3+(0+(j:Int))) % 4).toNat Str.empty)=T.str (ys.getD ((n' / 3+(j:Int)) % 4).toNat Str.empty);rw[Li]
 rw[eps];refine⟨_,ek,ix (by simp),by rw[cu];exact fits (by omega),n',_,_,_,pl++[(ys[pl.length],(List.range (n' % 3).toNat).map λj=>ys.getD ((n' / 3+((j:Nat):Int)) % 4).toNat Str.empty)],rfl,?_,g0,by omega,by simp,?_⟩;rw[nG];rfl;intro k' f' Nu e;by_cases gq:k'<pl.length;rw[nK gq] at e;exact cm k' f' Nu e;by_cases he:k'=pl.length;subst he;rw[pf (c9 _),Q6] at e;simp only[Wg,Option.some.injEq,Prod.mk.injEq] at e;obtain⟨e1,e2⟩:=e;subst e1 e2;exact⟨iy VY,n' / 3,(n' % 3).toNat,by omega,rfl⟩;rw[Gu (by simp;omega)] at e;cases e;rintro ρ ⟨n,kv,pv,_,pl,rfl,rfl,p0,p1,hlen,cm⟩;exact hq pl cm (by omega) (by omega)
end
def zB(ts:ο)(q:qam):Prop:=∃(ns:qan)(ys:ν)(pl:Plan),ts=[.lst (ns.map .int),.lst (ys.map .str),.lst (pl.map bS)]/\ns.length<=63/\Given ys pl/\1<=pl.length /\
 ∀rs,Pre ys pl pl.length rs->rs.length<=60->q (.fr (.lst (rs.map aP)))
def wN(f:α->T)(ns:List α)(lo hi:Option Int):∃ms:List α,qx (ns.map f) lo hi=ms.map f/\ms.length<=ns.length:=by unfold qx;rw[cu,<- List.map_drop,<- List.map_take];refine⟨_,rfl,?_⟩;rw[Z3,Wt];omega
def Ko(f:α->T)(ts:List α)(k:Nat)(h:k<=ts.length):qx (ts.map f) (some (k:Int)) none=(ts.drop k).map f:=by unfold qx;rw[cu,HT.LZ,HT.GW,Nat.min_eq_left h,<- List.map_drop,<- List.map_take,List.take_of_length_le (by rw[Wt];omega)]
theorem ints_map:∀ms:qan,intsOf (ms.map T.int)=some ms
 |[]=>rfl
 |m::ms=>by simp only[gU,intsOf,ints_map ms];rfl
section
noncomputable abbrev dU:ν:=["_law_cells","_law_words_here","_law_plan_here","_law_rows_here","_law_k","_law_stack","_law_start","_law_stop","_law_share","_law_cell","_law_word"]
def si:az dU qaV (ai oR):=L2.fD
def BV(D:Df K mg "_law_program" oR qaV f fd)(M:UO mg)(c1:bV P w K mg base "_law_operand" qaQ 1 (cK K 2 iK))(c2:bV P w K mg base "_law_lay" qaT 4 (AS K [true,true,false,false,false] Zm)) :
  bV P w K mg base "_law_program" qaV 5 (cK K 3 zB):=by
 obtain⟨ko,jc,cx,cy,cA,cC⟩:=c1;obtain⟨ael,aeb,Zq,Zr,Zs,Zt⟩:=c2;refine D.fU (jD D.F si rfl λbF A outer s H E Ox hr ts q hG=>?_);have nd:=si.nd;have hu:=bG.fm hr;have np:∀{i:Nat},bN ⟨H,[],Ox⟩ i:=kP;have npf:∀{is:qao},∀i∈is,bN ⟨H,[],Ox⟩ i:=λi _=>kP;obtain⟨ns,ys,pl,rfl,hns,G,VQ,hq⟩:=hG;refine⟨_,(ah (d9 (i:=3) nd rfl (.inl rfl) (Δ (cY ak)) np)
   (ah (dG xl rfl (dw (by rfl) M.range (θ (aY aZ a_ (by rfl) M.len lZ (aJ (ae 2) aX)))) (br (i:=4) nd rfl (.inl rfl) np)
     (ah (bP (eB 3 qe qf bq bp (aa (ς (bH (aa (ς aC) (aa (ς (aI (θ (aI (ae 2) (ae 4))) (θ ag))) (aa (ς (aI (θ (aI (ae 2) (ae 4))) (θ ag))) ak))))) ak)))
     (ah (d9 (i:=5) nd rfl (.inl rfl) (Δ (cY ak)) np)
     (ah (bc (i:=6) nd rfl (.inl rfl) (Δ (bW (θ (ia (ae 4) (θ (aY aZ a_ (by rfl) M.len lZ (aJ (ae 0) aX))))) (θ (aY aZ a_ (by rfl) M.len lZ (aJ (ae 2) aX))))) np)
     (ah (bc (i:=7) nd rfl (.inl rfl) (Δ (bW (θ (ia (θ (bX (ae 4) (θ ag))) (θ (aY aZ a_ (by rfl) M.len lZ (aJ (ae 0) aX))))) (θ (aY aZ a_ (by rfl) M.len lZ (aJ (ae 2) aX))))) np)
     (ah (bc (i:=8) nd rfl (.inl rfl) (Δ (jz (ae 0) (gY (ae 6)) (gY (ae 7)))) np)
     (ah (dG xl rfl (eW (aj 8)) (br (i:=9) nd rfl (.inl rfl) np)
       (ar (bA (jy (θ (bX (θ (aY aZ a_ (by rfl) M.len lZ (aJ (ae 3) aX))) (θ (aY aZ a_ (by rfl) M.len lZ (aJ (ae 5) aX))))) (θ (iU (θ ag) (θ (ia (θ ag) (θ (iU (θ (iU (θ (aY aZ a_ (by rfl) M.len lZ (aJ (ae 2) aX))) (θ ag))) (ae 4))))))))
         (ar (bP (Hs Zt (hr.mono (by decide)) (by rfl) Zq Zr Zs (CI 3 (CI 5 (qB (aj 9) (qB (aj 1) (qB (ς (jz (ae 2) (gY (θ (bX (ae 4) (θ ag)))) gX)) Mw))))))))
         aM)))
     (Cz [5] (ah (dG xl rfl (eW (aj 5)) (br (i:=10) nd rfl (.inl rfl) np)
       (ar (bP (eB 3 qe qf bq bp (aa (ς (bH (aa (ς aC) ak))) ak)))))
     (ah (bP (eB 3 qe qf bq bp (aa (ς (bH (aa (ς aC) (aa (ς (dA cC (hr.mono (by decide)) (by rfl) cx cy cA (aa (ς (bo (θ (aY (sS rfl) Ex (by rfl) M.sum XT (aJ (ae 8) aX))) (θ (og (θ ag) (θ ag))))) (aa (aj 1) ak)))) ak)))) ak)))
     (ar (bA (VW.vc (fE (bQ hu (θ (bo (ae 4) (θ ag))) (θ ag)) (eF (bQ hu (θ (bo (θ (aY aZ a_ (by rfl) M.len lZ (aJ (ae 8) aX))) (θ ag))) (θ ag)))))
       (ar (bP (eB 3 qe qf bq bp (aa (ς (bH (aa (ς aC) ak))) ak))))
       aM)))) npf))))))))
   (ar (aE (kc 3 np))))),λ_=>?_⟩
 have hp3:=G.p3;have eT:((pl.map bS).length)=pl.length:=cu _;have eN:((ns.map T.int).length)=ns.length:=cu _;refine⟨hY _,by omega,by omega,?_⟩;refine dH (λk ρ=>∃kv a5 a6 a7 a8 a9 a10 rt rs,ρ=[some (.lst (ns.map .int),false),some (.lst (ys.map .str),false),some (.lst (pl.map bS),false),some (.lst rt,true),kv,a5,a6,a7,a8,a9,a10]/\rt=rs.map aP/\Pre ys pl k rs/\rs.length+3 * (pl.length-k)<=60)
  ⟨none,none,none,none,none,none,none,_,[],rfl,rfl,.zero,by simp;omega⟩ ?_ ?_
 rintro k ρ hk ⟨kv,a5,a6,a7,a8,a9,a10,_,rs,rfl,rfl,me,hlen⟩;rw[eT,zY] at hk;obtain⟨p,hp⟩:∃p:Str×ν,p=pl[k]:=⟨_,rfl⟩;obtain⟨fn,fq⟩:=p;have hpk:pl[k]?=some (fn,fq):=by rw[iy hk,hp]
 have et:jg (pl.map bS) (0+(k:Int))=some (bS (fn,fq)):=by rw[Li];refine aw ?_;rw[iz,hpk];rfl
 have hk3:k<3:=by omega
 have aec:(rs.map aP).length<sizeLine:=by rw[cu];exact fits (by omega)
 refine⟨_,et,_,aat,_,et,_,aau,ix (by simp),aec,hY _,.inl ⟨by show -(2 ^ 64:Int)<0+(k:Int);omega,by show 0+(k:Int)<(2 ^ 64:Int);omega⟩,⟨by show (0:Int)<((pl.map bS).length:Int);omega,by show ((pl.map bS).length:Int)<1073741824;omega⟩,
  .inl ⟨by show -(2 ^ 64:Int)<0+(k:Int)+1;omega,by show 0+(k:Int)+1<(2 ^ 64:Int);omega⟩,⟨by show (0:Int)<((pl.map bS).length:Int);omega,by show ((pl.map bS).length:Int)<1073741824;omega⟩,?_⟩
 obtain⟨ms,ems,hms⟩:=wN T.int ns (some ((0+(k:Int)) * ((ns.map T.int).length:Int) / ((pl.map bS).length:Int))) (some ((0+(k:Int)+1) * ((ns.map T.int).length:Int) / ((pl.map bS).length:Int)));show oZ (qx (ns.map T.int) (some ((0+(k:Int)) * ((ns.map T.int).length:Int) / ((pl.map bS).length:Int))) (some ((0+(k:Int)+1) * ((ns.map T.int).length:Int) / ((pl.map bS).length:Int)))) _ _ _ _;rw[ems];refine mB (λi ρ=>∃b6 b7 b9 QD rt st body b_,ρ=[some (.lst (ns.map .int),false),some (.lst (ys.map .str),false),some (.lst (pl.map bS),false),some (.lst rt,true),some (.int (0+(k:Int)),false),some (.lst st,true),b6,b7,some (.lst (ms.map .int),false),b9,QD]/\rt=(rs++[Rw.df fn fq]++body).map aP/\st=b_.map .str/\Body ys (pl.drop (k+1)) b_ body/\rs.length+1+body.length+b_.length+3 * (pl.length-1-k)<=58)
  ⟨_,_,_,_,_,_,[],[],rfl,by simp;rfl,rfl,.nil,by simp;omega⟩ ?_ ?_
 rintro i z ρ hi ⟨b6,b7,b9,QD,_,_,body,b_,rfl,rfl,rfl,hB,hb⟩;refine⟨.inl ⟨by decide,by decide⟩,cN (λh=>?_) (λ_=>⟨b6,b7,_,QD,_,_,body,b_,rfl,rfl,rfl,hB,hb⟩)⟩;have hg:(((rs++[Rw.df fn fq]++body).map aP).length:Int)+((b_.map T.str).length:Int)<56-3 * (((pl.map bS).length:Int)-1-(0+(k:Int))):=h;have aed:qx (pl.map bS) (some (0+(k:Int)+1)) none=(pl.drop (k+1)).map bS:=by
  have:(0+(k:Int)+1)=((k+1:Nat):Int):=by omega
  rw[this];exact Ko bS pl (k+1) hk
 have Kp:(rs++[Rw.df fn fq]++body).length=rs.length+1+body.length:=by simp only[nL,List.length_singleton]
 rw[cu,cu,eT,Kp] at hg;refine⟨rs++[Rw.df fn fq]++body,b_,z,ys,pl.drop (k+1),?_,⟨G.y6,G.sm,by rw[Wt];omega,λp hp=>G.p4 p (List.mem_of_mem_drop hp)⟩,by rw[Kp];omega,by omega,λnw dR Zu=>?_⟩;rw[<- aed];rfl;have hlr:=Nj Zu;refine⟨b6,b7,_,QD,_,_,body++nw,dR,rfl,?_,rfl,.step hB Zu,by rw[nL];omega⟩;rw[Lz];rintro ρ ⟨b6,b7,b9,QD,_,_,body,b_,rfl,rfl,rfl,hB,hb⟩;have Kp:(rs++[Rw.df fn fq]++body).length=rs.length+1+body.length:=by simp only[nL,List.length_singleton]
 refine mB (f:=T.str) (xs:=b_) (λi ρ=>∃QD rt,ρ=[some (.lst (ns.map .int),false),some (.lst (ys.map .str),false),some (.lst (pl.map bS),false),some (.lst rt,true),some (.int (0+(k:Int)),false),some (.lst (b_.map .str),false),b6,b7,some (.lst (ms.map .int),false),b9,QD]/\rt=(rs++[Rw.df fn fq]++body++List.replicate i Rw.fin).map aP)
  ⟨QD,_,rfl,by simp⟩ ?_ ?_
 rintro i x ρ hi ⟨c10,_,rfl,rfl⟩;have Ek:i<b_.length:=(eE.mp hi).1;refine⟨ix (by simp),by rw[cu,nL,Kp,Ac];exact fits (by omega),_,_,rfl,?_⟩;rw[List.replicate_succ',<- Lz,nG (l₂:=[Rw.fin])];rfl;rintro ρ ⟨c10,_,rfl,rfl⟩;have Zv:(rs++[Rw.df fn fq]++body++List.replicate b_.length Rw.fin).length=rs.length+1+body.length+b_.length:=by rw[nL,Kp,Ac]
 have v0:0<=ms.sum % 10 ^ (6:Int).toNat:=by rw[YH];exact nH _ (by decide)
 have v1:ms.sum % 10 ^ (6:Int).toNat<2147483648:=by rw[YH];have:=pj ms.sum (show (0:Int)<1000000 by decide);omega
 refine⟨ms,ints_map ms,⟨by decide,by decide,by decide⟩,(by show (0:Int)<10 ^ (6:Int).toNat;decide),rfl,_,ys,rfl,G.y6,v0,v1,λo ho=>⟨ix (by simp),by rw[cu,Zv];exact fits (by omega),(by show (0:Int)<2;decide),?_⟩⟩;have fin:∀sk:S1,(sk=[]\/sk=[Rw.skip])->Pre ys pl (k+1) (rs++(Rw.df fn fq::(body++(List.replicate b_.length Rw.fin++(Rw.give o::sk)))))/\(rs++(Rw.df fn fq::(body++(List.replicate b_.length Rw.fin++(Rw.give o::sk))))).length+3 * (pl.length-(k+1))<=60:=λsk V0=>by
  refine⟨.succ me hpk hB ho V0,?_⟩;have:sk.length<=1:=by obtain rfl|rfl:=V0<;>simp
  simp only[nL,xk,Ac];omega
 have e0:(rs++[Rw.df fn fq]++body++List.replicate b_.length Rw.fin).map aP++[aP (Rw.give o)]=(rs++(Rw.df fn fq::(body++(List.replicate b_.length Rw.fin++(Rw.give o::[]))))).map aP:=by simp[Lz]
 have e1:(rs++[Rw.df fn fq]++body++List.replicate b_.length Rw.fin).map aP++[aP (Rw.give o)]++[aP Rw.skip]=(rs++(Rw.df fn fq::(body++(List.replicate b_.length Rw.fin++(Rw.give o::[Rw.skip]))))).map aP:=by simp[Lz]
 refine cN (λ_=>?_) (λ_=>gz rfl ⟨_,_,_,_,_,_,_,_,_,rfl,e0,fin [] (.inl rfl)⟩);refine⟨(by show (0:Int)<2;decide),cN (λ_=>?_) (λ_=>⟨_,_,_,_,_,_,_,_,_,rfl,e0,fin [] (.inl rfl)⟩)⟩;refine⟨ix (by simp),?_,⟨_,_,_,_,_,_,_,_,_,rfl,e1,fin [.skip] (.inr rfl)⟩⟩;rw[nL,cu,Zv];exact fits (by simp;omega);rintro ρ ⟨kv,a5,a6,a7,a8,a9,a10,_,rs,rfl,rfl,me,hlen⟩;rw[eT,zY] at me;exact hq rs me (by omega)
end
end fR
namespace L2
open PySem PySem.Spec PyProof.Rows
section
def sj(hc:X.calm=true):d_ X (.builtin "any") (λxs H Q=>∃(p:Addr)(bs:List Bool),xs=[.ref p]/\gN X.K H p (bs.map V.bl)/\Q (.bl (bs.any id)) H):=by
 intro γ s σ H xs us Q I r h;obtain⟨p,bs,rfl,hq,q⟩:=h;obtain⟨u,rfl,rx⟩:=vals1 r;cases rx;obtain⟨aW,rv,pl,hz⟩:=I.list hq;refine call_any_walk (wpAny_pyIter_list pl.isList ?_);have gq:p<s.heap.objs.size:=by obtain⟨o,n,e,_⟩:=pl;exact iw e
 have gc:p≠s.heap.objs.size:=j7 gq;have hh:X.A.in1.handled=none:=I.ok.hd hc;refine⟨s.heap.objs.size,_,_,_,_,_,λi=>bs.getD i false,rfl,Walks.list hh s.heap.objs.size p gc aW.toArray,⟨⟨_,ph _ rfl,rfl,rfl⟩,pl.isList.push _⟩,?_,λh' tk k=>?_⟩;intro i v s' Q' E' hP hQ;have Pr:aW[i]?=some v:=by simpa using hP
 have hb:i<bs.length:=by have:=rv.length;have h2:=(eE.mp Pr).1;rw[cu] at this;omega
 obtain⟨u,e1,r1⟩:=rv.get (i:=i) (x:=.bl bs[i]) (by simp[hb]);rw[Pr] at e1;cases e1;obtain rfl:v=Value.bool bs[i]:=r1;have e3:bs.getD i false=bs[i]:=by simp[List.getD,hb]
 dsimp only at hQ;rw[e3] at hQ;exact χ hQ;have hl:aW.toArray.size=bs.length:=by have:=rv.length;rw[cu] at this;rw[jd];omega
 have e:(List.range aW.toArray.size).any (λi=>bs.getD i false)=bs.any id:=by rw[hl,QZ,List.any_eq_true,List.any_eq_true];constructor;rintro⟨i,hi,h⟩;have Ek:=xm.mp hi;refine⟨bs[i],Gw Ek,?_⟩;simpa[List.getD,Ek] using h;rintro⟨x,hx,h⟩;obtain⟨i,hi,rfl⟩:=List.mem_iff_getElem.mp hx;exact⟨i,xm.mpr hi,by simpa[List.getD,hi] using h⟩
 rw[e];refine⟨.bl (bs.any id),H,?_,rfl,q⟩;have I0:Inv X γ σ H {s with heap:=s.heap.push {cls:=.type "list_iterator",data:=.fields #[.ref p,.int 0 0]} }:=I.kept (t':=s.toks) λb o e=>jn _ e;have fk:=I.pD (H':=H) (c9 s.heap.objs.size) I.fresh;obtain⟨f0,f1,_,f3,f4,f5⟩:=fk;exact I0.turned (t':=tk) (λb o hb e=>k b o (by simpa using hb) e) f0 f1 f3 f4 f5
end
end L2
namespace VT
open PySem PySem.Spec PyProof.Rows L2
def Zw(ts:ο)(q:qam):Prop:=match ts with
 |[.lst l]=>∃bs,dY l=some bs/\q (.vw (.bl (bs.any id)))
 |_=>False
def FW:kN K (λxs H Q=>∃(p:Addr)(bs:List Bool),xs=[.ref p]/\gN K H p (bs.map V.bl)/\Q (.bl (bs.any id)) H) Zw:=by intro Z tm O ρ σ H ts vs q Q I h hp k;unfold Zw at hp;split at hp;obtain⟨bs,e,hp⟩:=hp;obtain⟨v,rfl,a⟩:=dz h;obtain⟨p,ws,rfl,q1,q2⟩:=a.lst;rw[AY e q2] at q1;exact⟨p,bs,rfl,q1,k _ hp _ H (aV.refl H) ⟨I,dW⟩⟩;exact hp.elim
def Zx:bootBuiltins "any"=some (.builtin "any"):=by decide +kernel
section
variable{s:Shared}
theorem so:∀(vs:Ψ)(ss:qan),vs.length=ss.length->(∀(i:Nat)(v:Value),vs[i]?=some v->∃t,v=.int (ss.getD i 0) t)->IntsAre vs ss
 |[],[],_,_=>.nil
 |[],_::_,h,_=>by cases h
 |_::_,[],h,_=>by cases h
 |v::vs,y::ss,hl,h=>by obtain⟨t,rfl⟩:=h 0 v rfl;exact .cons y t (so vs ss (by simpa using hl) λi v hv=>h (i+1) v (by simpa using hv))
def wO{knd:PySem.KeyKind prog w Key}{aQ:List (Key×Value)}{ep:Nat}{ss:qan}(hA:A.handled=none)(hd:(d==sysModules)=false)(hm:s.heap.DictAt knd d aQ ep)(hl:aQ.length=ss.length)(h64:ss.length<64)(hk:∀(i:Nat) k x v,aQ[i]?=some (k,x)->knd.is k v=true->∃t,v=.int (ss.getD i 0) t)(h:∀(h':Heap) (tk:Nat) (a:Addr) (out:Array Value) (zs:qan),(∀b o,s.heap.get? b=some o->h'.get? b=some o)->s.heap.objs.size<=a->(∃e,h'.get? a=some (seqObj "list" out e))->IntsAre out.toList zs->zs.Perm ss->Q (.ref a) {s with heap:=h',toks:=tk}) :
  wpAny (model prog w) A (call (.builtin "sorted") [.ref d]) Q E s:=by
 refine Calls.call_function_entry kind_sorted plain_sorted entry_sorted (args_sorted1 _) ?_;unfold Builtin.«sorted»;refine δ (m:=checkCount "sorted" 1 1 _) (η ?_);refine δ (lH (by simp[hA]) hd hm (by rw[ξ];omega) λh1 tk acc kp hsz AG=>?_);have hS:IntsAre acc.toList ss:=so _ _ (by rw[La,AG.1,hl]) λi v hv=>by obtain⟨k,x,e1,e2⟩:=AG.2 i v (by simpa using hv);exact hk i k x v e1 e2
 refine δ (wpAny_newList ?_);have Wz:(h1.push (seqObj "list" acc.toList.toArray 0)).get? h1.objs.size=some (seqObj "list" acc.toList.toArray 0):=ph _ rfl;have aee:acc.toList.length<64:=by rw[La,AG.1,hl];exact h64
 show wpAny _ _ _ _ _ {s with heap:=h1.push (seqObj "list" acc.toList.toArray 0),toks:=tk};refine δ (Φ (P2 slot_list_sort ⟨_,Wz,rfl⟩ entry_list_sort (list_sort_tree Wz hS aee λout zs g1 g2 g3=>⟨_,rfl,?_⟩) (args_list_sort _)));refine η ⟨_,rfl,h _ tk h1.objs.size _ zs (λb o eb=>?_) (Nat.le_of_lt hsz) (sortedHeap_at Wz) g1 g2⟩;have e1:=kp b o eb;have gq:=iw e1;rw[sortedHeap_old (j7 gq) (by rw[Q2];exact Lb gq)];exact jn _ e1
end
def OJ{y:Int}{v:Value}(h:(aT P w).is (Sum.inl y) v=true):∃t,v=.int y t:=by
 have h':qg (Sum.inl y) v=true:=h;rcases cp h' with⟨i,t,e,rfl⟩|⟨x,t,e,rfl⟩
 cases e;exact⟨t,rfl⟩;cases e
def nz(hc:X.calm=true):d_ X (.builtin "sorted") (λxs H Q=>∃(d:Addr)(aQ:List (Key×V))(ss:qan),xs=[.ref d]/\H d=some (.dK aQ)/\aQ.map (·.1)=ss.map Sum.inl/\ss.length<64/\∀zs:qan,zs.Perm ss->∀a,H a=none->Q (.ref a) (upd H a (.lst (zs.map V.int)))):=by
 intro γ s σ H xs us Q I r h;obtain⟨d,aQ,ss,rfl,hd,hks,hl,q⟩:=h;obtain⟨u,rfl,ru⟩:=vals1 r;cases ru;obtain⟨z,hs,vs,rel,dd⟩:=ug I.cm hd;obtain⟨ep,da⟩:=dd.dictAt;have hkv:vs.map (·.1)=ss.map Sum.inl:=(NN rel).trans hks;have hlen:vs.length=ss.length:=by simpa using ψ List.length hkv
 refine wO (ss:=ss) (by simp[I.ok.hd hc]) hs da hlen hl (λi k x v e1 e2=>?_) λh' tk a out zs kp ha ⟨e,he⟩ g1 g2=>?_;have e3:=ψ (λl:List Key=>l[i]?) hkv;simp only[iz,e1,Vs] at e3;cases q2:ss[i]? with
 |none=>rw[q2] at e3;cases e3
 |some y=>
  rw[q2] at e3;have e4:k=Sum.inl y:=by simpa using e3
  subst e4;rw[ZQ,q2];exact OJ e2
 refine⟨.ref a,_,I.laid (a:=a) (o:=.lst (zs.map V.int)) (t':=tk) kp ha ⟨?_,out.toList,e,mM g1,?_⟩,rfl,q zs g2 a (I.cm.fresh ha)⟩;rw[cu,g2.length_eq,ξ];omega;rw[he]
def OK(ts:ο)(q:qam):Prop:=∃(ss:qan)(us:ο),ts=[.dk (ss.map Sum.inl) us]/\ss.length<64/\∀zs:qan,zs.Perm ss->q (.fr (.lst (zs.map .int)))
def wQ:kN K (λxs H Q=>∃(d:Addr)(aQ:List (Key×V))(ss:qan),xs=[.ref d]/\H d=some (.dK aQ)/\aQ.map (·.1)=ss.map Sum.inl/\ss.length<64/\∀zs:qan,zs.Perm ss->∀a,H a=none->Q (.ref a) (upd H a (.lst (zs.map V.int)))) OK:=by intro Z tm O ρ σ H ts vs q Q I h hp k;obtain⟨ss,us,rfl,hl,hq⟩:=hp;obtain⟨v,rfl,a⟩:=dz h;obtain⟨l,ws,rfl,hw,hd,hv⟩:=a.dk;exact⟨l,_,ss,rfl,hd,List.map_fst_zip (Nat.le_of_eq hw),hl,λzs h1 b hb=>k _ (hq zs h1) _ _ (aH hb) (I.xP hb (yg zs))⟩
section
theorem QE:∀n (as:υ) k,pz (List.replicate n false) as k=[]
 |0,_,_=>rfl
 |n+1,as,k=>QE n as (k+1)
theorem Kq:∀n (ρ:En),k6 (List.replicate n false) ρ=[]
 |0,_=>rfl
 |n+1,ρ=>Kq n ρ.tail
theorem QF:∀(ts:ο),vh (List.replicate ts.length false) ts=ts.map λt=>some (t,false)
 |[]=>rfl
 |t::ts=>by rw[xk,zX,vh,QF ts];rfl
def aef{st:Stmt}{N:ν}{k:Nat}{G:ο->(qam)->Prop}(F:yw K x qual st f fd)(S:az N ps (ai st))(hn:n=ps.length)(dF:∀(bF:Value) (A:Around) (outer:List Env) (s:Shared) (H:Hp) (E:XK) (Ox:υ),bG k (A.deeper (envOfC qual (ai st) s.heap.objs.size f bF))->∀ts q,G ts q ->
    ∃g,j' (fN eQ P w K mg base N qual (ai st) f bF A outer s H E).pA ⟨H,[],Ox⟩ (bE st) g/\(ts.length=n->g {nx:=λ_=>q (.vw .aO),rt:=λ_ r=>q r} (ts.map (λt=>some (t,false))++List.replicate (N.length-ts.length) none))) :
  cD P w K mg base eQ (k+1) f fd ps (cK K n G):=by
 refine F.ok S (λvs H Q E h=>?_) (λbF A outer s H vs Q E hr h=>?_);obtain⟨ts,as,Ox,q,_,_,_,ha,_⟩:=h;rw[<- hn,(gw ha).2.1,Ac];obtain⟨ts,as,Ox,q,nd,nx,ox,ha,hG,kk⟩:=h;have l1:=(gw ha).1;rw[Ac] at l1;obtain⟨g,hg,hq⟩:=dF bF A outer s H E Ox hr ts (q []) hG;subst l1;have:=xU (X:=(fN eQ P w K mg base N qual (ai st) f bF A outer s H E).pA) (N:=N) (g:=g) nd nx ox ha kk (by rw[QF];simp only[Kq];exact hq rfl);rw[QE] at this;exact⟨_,hg [],this⟩
end
section
variable{k:Nat}{G:ο->(qam)->Prop}{ds:Ψ}{qk:v9}{dts:ο}
def OL(n:Nat)(dts:ο)(g:FA)(G:ο->(qam)->Prop):FP:=λρ Q=>g ρ λts=>(ts++dts).length=n/\G (ts++dts) Q
def kq(F:cD X.prog X.w X.K X.mg X.base eQ k f fd ps (cK X.K n G))(hr:bG k X.A)(hg:Gl X x)(hm:X.mg x=some (.ref f))(hk:W.keepIn X.K (.ref f)=true)(hb:Binds X.K fd ps ds)(hd:Vals qk ds)(hdt:∀H A,aA X.K H A dts qk)(ha:VA X Z (e::es) g)(l_:iq x:=by decide)(he:starEach (e::es) X.env=(false,eval e X.env)::starEach es X.env:=by rfl)(gO:(backTo pos (starEach es X.env)).any (·.1)=false:=by rfl) :
  VP X Z (.Call (.Name x p) (e::es) [] pos) (OL n dts g G):=.mk λtm=>PE.weak (j9 F hr hg hm hk hb hd jw (ha tm) l_ he gO) λσ H Q ⟨ρ,O,q,I,hf,k⟩ =>
 ⟨ρ,O,_,I,hf,λts gh vs H1 s1 a1=>by have:=vj (X:=X) (Z:=Z) (G:=G) (vs:=vs++qk) (I.same s1) (a1.append (hdt H1 _)) gh.1 gh.2 λr hr v H' s z=>k r hr v H' (s1.trans s) z;rw[DX] at this;exact this⟩
end
noncomputable def gJ{α:Type}(xs:List α)(is:qao):List α:=is.filterMap (xs[·]?)
noncomputable def sr(lo hi st:Option Int)(n:Nat):qao:=sliceRange (sliceBounds lo hi st n).1 (sliceBounds lo hi st n).2.1 (sliceBounds lo hi st n).2.2
def OM(aW:Ψ)(lo hi st:Option Int):slicePick aW.toArray lo hi st=(gJ aW (sr lo hi st aW.length)).toArray:=by unfold slicePick gJ sr;simp
theorem uF{vs:v9}{us:Ψ}(r:Vals vs us):∀is:qao,Vals (gJ vs is) (gJ us is)
 |[]=>.nil
 |i::is=>by have ih:=uF r is;unfold gJ at ih ⊢;rw[kr,kr];have hl:=r.length;by_cases h:i<vs.length;obtain⟨u,e1,e2⟩:=r.get (iy h);rw[iy h,e1];exact .cons e2 ih;rw[Gu (by omega),Gu (by omega)];exact ih
theorem zC{K:Γ}{H:Hp}{A:υ}{ts:ο}{vs:v9}(r:aA K H A ts vs):∀is:qao,aA K H A (gJ ts is) (gJ vs is)
 |[]=>aA.nil
 |i::is=>by have ih:=zC r is;unfold gJ at ih ⊢;rw[kr,kr];have hl:=r.length;by_cases h:i<ts.length;obtain⟨v,e1,e2⟩:=r.get (iy h);rw[iy h,e1];exact aA.cons e2 ih;rw[Gu (by omega),Gu (by omega)];exact ih
section
variable{lo hi:Option Expr}{st:Expr}{tl th ts:TO}
noncomputable def aeg(K:Γ)(te:TE)(tl th ts:TO):TE:=λσ H Q=>te σ H λx H1=>tl σ H1 λl H2=>th σ H2 λu H3=>ts σ H3 λs H4=>∃a xs,x=.ref a/\gN K H4 a xs/\s≠some 0/\∀p,H4 p=none->Q (.ref p) (upd H4 p (.lst (gJ xs (sr l u s xs.length))))
def FY(he:PE X e te)(hl:PO X lo tl)(hu:PO X hi th)(hs:PO X (some st) ts):PE X (.Subscript e (.Slice lo hi (some st) p2) pos) (aeg X.K te tl th ts):=by intro γ s σ H Q I h;refine Subscript_ (ck (he γ s σ H _ I h) λv s1 ⟨x,H1,I1,r1,q1⟩=>?_);refine wpAny_Slice (ck (hl γ s1 σ H1 _ I1 q1) λvl s2 ⟨l,H2,I2,pl,q2⟩=>ck (hu γ s2 σ H2 _ I2 q2) λvu s3 ⟨u,H3,I3,pu,q3⟩=>ck (hs γ s3 σ H3 _ I3 q3) λvs s4 ⟨k,H4,I4,pk,q4⟩=>?_);have I5:Inv X γ σ H4 {s4 with heap:=s4.heap.push {cls:=.type "slice",data:=.fields #[vl,vu,vs]} }:=I4.kept (t':=s4.toks) λb ob q=>jn _ q;obtain⟨a,xs,rfl,hx,h0,q⟩:=q4;cases r1;obtain⟨aW,r,ht,hz⟩:=I5.list hx;have hlen:=r.length;show wpAny (model X.prog X.w) X.A (subscriptTail e (.Slice lo hi (some st) p2) (.ref a) (.ref s4.heap.objs.size)) (EP X γ σ Q) X.xe {s4 with heap:=s4.heap.push {cls:=.type "slice",data:=.fields #[vl,vu,vs]} };refine tail_any (ops:=[.ref a,.ref s4.heap.objs.size]) ht.isList.typeIs slot_list_getitem.lookup ?_ (by with_unfolding_all rfl);refine wpAny_getItem_list_slice ht.isList (Heap.IsSliceOf.new ..) pl pu pk h0 ?_ (by rw[jd]<;>omega);have hle:=slicePick_size_le aW.toArray l u k;rw[OM] at hle ⊢;rw[<- hlen] at hle ⊢;refine⟨.ref _,_,I5.laid (o:=.lst (gJ xs (sr l u k xs.length))) (λb ob q=>jn _ q) (c9 _) ?_,rfl,q _ (I5.cm.fresh (c9 _))⟩;have hv:=uF r (sr l u k xs.length);refine⟨?_,_,0,hv,ph _ rfl⟩;rw[hv.length];simp only[jd] at hle;omega
end
section
variable{st:Expr}{lo hi:Option Expr}{fl fh fs:FO}
noncomputable def aeh(fa:FE)(fl fh fs:FO):FP:=λρ Q=>fa ρ λx=>fl ρ λlo=>fh ρ λhi=>fs ρ λst=>match x with
 |.lst ts=>st≠some 0/\Q (.fr (.lst (gJ ts (sr lo hi st ts.length))))
 |_=>False
def uG(he:VR X Z e fa)(hl:VO X Z lo fl)(hh:VO X Z hi fh)(hs:VO X Z (some st) fs):VP X Z (.Subscript e (.Slice lo hi (some st) p2) pos) (aeh fa fl fh fs) :=
 .mk λtm=>PE.weak (FY (he tm) (hl tm) (hh tm) (hs tm)) λσ H Q ⟨ρ,O,q,I,hf,k⟩=>⟨ρ,O,_,I,hf,λx hx v H1 s1 a1=>⟨ρ,O,_,I.same s1,hx,λl hl H2 s2=>⟨ρ,O,_,(I.same s1).same s2,hl,λu hu H3 s3=>⟨ρ,O,_,((I.same s1).same s2).same s3,hu,λt ht H4 s4=>by have J:=(((I.same s1).same s2).same s3).same s4;have a4:=((a1.same s2).same s3).same s4;have S:=((s1.trans s2).trans s3).trans s4;split at ht;obtain⟨p,vs,rfl,q1,q2⟩:=a4.lst;refine⟨p,vs,rfl,q1,ht.1,λr hr=>?_⟩;rw[q2.length];exact k _ ht.2 _ _ (S.trans (aH hr)) (J.xP hr (zC q2 _));exact ht.elim⟩⟩⟩⟩
end
end VT
namespace VT
open PySem PySem.Spec PyProof.Rows L2 PySem.MeetsSeq PySem.SeqAt
end VT
set_option exponentiation.threshold 4000
namespace cQ
open PySem L2 VT Gen Rg Lay K5
open iL (Vl vT nm fQ RI bg YJ pw)
noncomputable def top(i:Nat):Stmt:=PySem.Challenge.pw_slicewise_k83_inputs_that_do_a_row.main.body.getD i (.Pass ⟨0,0,0,0⟩)
noncomputable abbrev wR:Stmt:=top 57
noncomputable abbrev BW:Stmt:=top 66
noncomputable abbrev su:Stmt:=top 68
noncomputable abbrev BX:Stmt:=top 69
noncomputable abbrev BY:Stmt:=top 70
noncomputable abbrev wU:Stmt:=top 71
noncomputable abbrev nA:Stmt:=top 72
noncomputable abbrev dj:Stmt:=top 54
structure QG(mg:qae):Prop where
 isinstance:mg "isinstance"=none
 int:mg "int"=none
 bool:mg "bool"=none
 list:mg "list"=none
 len:mg "len"=none
 range:mg "range"=none
 enumerate:mg "enumerate"=none
 any:mg "any"=none
 sorted:mg "sorted"=none
def ix(h:n<=1000):n<=sizeLine:=Gen.small h
structure zD(rs:S1)(ss:List (qan))(m:Nat)(D:qan->qao):Prop where
 W:Wl rs
 m9:m<=900
 s1:ss.length<=100
 s2:∀l∈ss,l.length<=100
 r:DB rs m D
def UX(ts:ο)(q:qam):Prop:=∃(rs:S1)(row:Int)(ss:List (qan))(m:Nat)(D:qan->qao),ts=[.lst (rs.map aP),.int row,dg ss,.int (m:Int)]/\zD rs ss m D/\q (.vw (zy D row ss))
def Kr(ts:ο)(q:qam):Prop:=∃(o:Option Nat),ts=[Zj o]/\q (.vw (.bl o.isSome))
def Ks(ts:ο)(q:qam):Prop:=∃(rs:S1)(ss:List (qan))(m:Nat)(D:qan->qao),ts=[.lst (rs.map aP),dg ss,.int (m:Int)]/\zD rs ss (if m=61 then 200 else m) D/\q (.fr (.lst (ss.map λl=>c8 (D l))))
def QH(ts:ο)(q:qam):Prop:=∃(rs:S1)(row:Int)(ss:List (qan))(m:Nat)(D:qan->qao),ts=[.lst (rs.map aP),.int row,dg ss,.int (m:Int)]/\zD rs ss (if m=61 then 200 else m) D/\q (.vw (zy D row ss))
def Kt(ts:ο)(q:qam):Prop:=∃(rs:S1)(row:Int)(ss:List (qan))(m:Nat)(D:qan->qao),ts=[.lst (rs.map aP),.int row,dg ss,.int (m:Int),.lst (ss.map λl=>c8 (D l))]/\zD rs ss (if m=61 then 200 else m) D/\q (.vw (.bl true))
def DG(ts:ο)(q:qam):Prop:=∃(c:Int)(m:Nat),ts=[.int c,.int (m:Int)]/\m<=100/\∀l:qan,l.length=m->q (.fr (kD l))
def Ku{f:α->T}{ss:List α}{t:T}(h:(dX (ss.map f))[i]?=some t):∃l,ss[i]?=some l/\t=.tup [.int (i:Int),f l]:=by
 unfold dX at h;rw[Wr,iz] at h;cases e:ss[i]? with
 |none=>rw[e] at h;cases h
 |some l=>rw[e] at h;exact⟨l,rfl,(Option.some.inj h).symm⟩
def Kv{f:α->T}{ss:List α}:(dX (ss.map f)).length=ss.length:=by unfold dX;rw[Z1,cu]
theorem m6{α:Type}(g:α->Bool):∀l:List α,dY (l.map λx=>.bl (g x))=some (l.map g)
 |[]=>rfl
 |x::l=>by simp only[gU,dY,m6 g l];rfl
section
variable{D:qan->qao}{row:Int}
def zE{ss:List (qan)}(h:∀(j:Nat) l,ss[j]?=some l->pQ D row l=false):zy D row ss=.aO:=by
 unfold zy;rw[ace.mpr λl hl=>by obtain⟨j,hj⟩:=We.mp hl;exact h j l hj]
 rfl
def Kw{ss:List (qan)}{l:qan}(hl:ss[i]?=some l)(hb:pQ D row l=true)(h:∀j,j<i->∀l,ss[j]?=some l->pQ D row l=false):zy D row ss=.int (i:Int):=by unfold zy;obtain⟨hi,e⟩:=eE.mp hl;rw[abU.mpr ⟨hi,by rw[e];exact hb,λj hj=>by rw[h j hj _ (iy (Nat.lt_trans hj hi))];decide⟩];rfl
end
theorem DH(row:Int):∀l:qao,sJ (.int row) (l.map λp:Nat=>.int (p:Int))=l.any λp=>decide ((p:Int)=row)
 |[]=>rfl
 |p::l=>by show (eqT (.int (p:Int)) (.int row) || sJ (.int row) (l.map λp:Nat=>.int (p:Int)))=_;rw[DH row l];simp only[eqT,LC,Wq]
theorem sy:∀l:qao,my (l.map λp:Nat=>.int (p:Int))=true
 |[]=>rfl
 |p::l=>by show (gy (.int (p:Int)) && my (l.map λp:Nat=>.int (p:Int)))=true;rw[sy l];rfl
noncomputable def oS(D:qan->qao)(row:Int)(ss:List (qan))(i:Nat):Bool:=match ss[i]? with
 |some l=>pQ D row l
 |none=>false
theorem UY(D:qan->qao)(row:Int)(ss:List (qan)):match ss.findIdx? (pQ D row) with
  |none=>(List.range ss.length).filter (oS D row ss)=[]
  |some k=>∃l,(List.range ss.length).filter (oS D row ss)=k::l:=by
 cases e:ss.findIdx? (pQ D row) with
 |none=>show (List.range ss.length).filter (oS D row ss)=[];rw[List.filter_eq_nil_iff];intro i hi;have h:=ace.mp e;unfold oS;rw[iy (xm.mp hi)];have h9:=h _ (Gw (xm.mp hi));exact λz=>iM (h9.symm.trans z)
 |some k=>
   obtain⟨hk,h1,h2⟩:=abU.mp e;show ∃l,(List.range ss.length).filter (oS D row ss)=k::l;have hh:((List.range ss.length).filter (oS D row ss)).head?=some k:=by rw[List.head?_filter,List.find?_range_eq_some];refine⟨?_,xm.mpr hk,λj hj=>?_⟩;unfold oS;rw[iy hk];exact h1;unfold oS;rw[iy (Nat.lt_trans hj hk)];have:=h2 j hj;simpa using this
   cases f:(List.range ss.length).filter (oS D row ss) with
   |nil=>rw[f] at hh;cases hh
   |cons a l=>rw[f] at hh;cases hh;exact⟨l,rfl⟩
noncomputable def Zy:FS:=λd ρ=>∃(rs:S1)(ss:List (qan))(m:Nat)(D:qan->qao),zD rs ss m D/\ρ=[some (.lst (rs.map aP),false),some (dg ss,false),some (.int (m:Int),false)]/\∀ρ',d.rt ρ' (.fr (.lst (ss.map λl=>c8 (D l))))
noncomputable def BZ(r:Rw):Bool:=sJ (.str (wd r)) [.str "else",.str "end",.str "skip"]
noncomputable def ON(r:Rw):Bool:=decide (wd r="def")
noncomputable def Wc(x:Str)(wi:Bool):Bool:=if x="give" then false else wi
noncomputable def DI:S1->Nat->Bool->qao
 |[],_,_=>[]
 |r::l,k,wi=>(if (wi || ON r) && !BZ r then [k] else [])++DI l (k+1) (Wc (wd r) (wi || ON r))
theorem Kx:∀(l:S1)(k:Nat)(wi:Bool),∀p∈DI l k wi,p<k+l.length
 |[],_,_,p,h=>absurd h fA
 |r::l,k,wi,p,h=>by
  rcases cR.mp h with z|z
  split at z;rw[hX.mp z];simp;cases z;have:=Kx l (k+1) _ p z;rw[xk];omega
theorem Kz:∀(l:S1)(k:Nat)(wi:Bool),(∃f ps,Rw.df f ps∈l)->DI l k wi≠[]
 |[],_,_,h=>by obtain⟨f,ps,z⟩:=h;cases z
 |r::l,k,wi,⟨f,ps,h⟩=>by
  intro e;have e':=List.append_eq_nil_iff.mp e;rcases c0.mp h with z|z
  subst z;have e1:=e'.1;rw[show ON (.df f ps)=true from rfl,Bool.or_true,show BZ (.df f ps)=false by unfold BZ;simp only[wd];decide +kernel] at e1;cases e1;exact Kz l _ _ ⟨f,ps,z⟩ e'.2
def QI(ts:ο)(q:qam):Prop:=∃(rs:S1),ts=[.lst (rs.map aP)]/\rs.length<=100/\q (.fr (c8 (DI rs 0 false)))
inductive IvR(rs:S1)(k:Nat)(ρ:En):Prop
 |mk (l:qao) (wi:Bool) (b3 b4:Option (T×Bool)) (h1:l++DI (rs.drop k) k wi=DI rs 0 false) (h2:l.length<=k) (hρ:ρ=[some (.lst (rs.map aP),false),some (c8 l,true),some (.bl wi,false),b3,b4])
noncomputable def Zz(rs:S1):FS:=λd ρ=>∃(k:Nat)(r:Rw)(l:qao)(wi:Bool),l++((if wi && !BZ r then [k] else [])++DI (rs.drop (k+1)) (k+1) (Wc (wd r) wi))=DI rs 0 false/\l.length<=k/\k<rs.length/\ρ=[some (.lst (rs.map aP),false),some (c8 l,true),some (.bl wi,false),some (.int (k:Int),false),some (.str (wd r),false)]/\∀ρ',IvR rs (k+1) ρ'->d.nx ρ'
noncomputable def QJ(rs:S1):FS:=λd ρ=>∃(k:Nat)(x:Str)(l:qao)(wi:Bool),l++DI (rs.drop (k+1)) (k+1) (Wc x wi)=DI rs 0 false/\l.length<=k+1/\ρ=[some (.lst (rs.map aP),false),some (c8 l,true),some (.bl wi,false),some (.int (k:Int),false),some (.str x,false)]/\∀ρ',IvR rs (k+1) ρ'->d.nx ρ'
section
noncomputable abbrev wV:T:=.int 200
def DJ{tk:Tok}:RelV (.int 200) (.int 200 tk):=⟨_,rfl⟩
def DK{A:υ}:At K H A wV (.int 200):=bC
def KA(P:Program)(w:World)(K:Γ)(mg:qae)(base:Heap):Prop :=
 ∃f fd tk,mg "doers"=some (.ref f)/\W.keepIn K (.ref f)=true/\Binds K fd qaW []/\Binds K fd qaW [.int 200 tk]/\cD P w K mg base eQ 9 f fd qaW (cK K 4 UX)
noncomputable abbrev DN:ν:=["program","row","some","most","number","inputs","doings"]
def zF:az DN qaW (ai dj):=L2.fD
def zG:(DN++(["doing"]:ν)).Nodup:=by decide +kernel
def KC{tk:Tok}(F:yw K "doers" "doers" dj f fd)(m:mg "doers"=some (.ref f))(b:Binds K fd qaW [])(b2:Binds K fd qaW [.int 200 tk])(M:QG mg)(KD:UL P w K mg base):KA P w K mg base:=by
 obtain⟨ZA,UZ,U0,KG,KH,KI,ZC,KJ⟩:=KD;refine⟨f,fd,tk,m,F.kp,b,b2,aef F zF rfl λbF A outer s H E Ox hr ts q hG=>?_⟩;have nd:=zF.nd;have hu:=bG.fm hr;have np:∀{i:Nat},bN ⟨H,[],Ox⟩ i:=kP;refine⟨_,(ah (dG xl rfl (vB (by rfl) M.enumerate (aj 2)) (qz (n:=2) rfl (eC (br (i:=4) nd rfl (.inl rfl) np) (eC (br (i:=5) nd rfl (.inl rfl) np) mq)))
    (ah (bc (i:=6) nd rfl (.inl rfl) (Δ (aI (θ (Qc.vp (q_ KJ (hr.mono (by decide)) (by rfl) KG KH KI .nil (dts:=[]) (λ_ _=>aA.nil) (aa (aj 0) (aa (aj 5) (aa (aj 3) ak)))))) (θ ag))) np)
    (ar (bA (h_ (aY (sj rfl) FW (by rfl) M.any Zx (aJ (θ (iW (ts:=["doing"]) rfl (by rfl) (eW (aj 6)) (λ_ _ _ _ _ _=>(br (i:=7) zG rfl (.inl rfl) np (.inr rfl))) (λ_ _ _ _ _ _=>gf) (λ_ _ _ _ _ _=>(ς (Py hu (θ (aI (ae 7) (θ ag))) (ae 1)))))) aX)))
      (ar (aE (Δ (VE.vp (aj 4)))))
      aM))))
   (ar (aE (Δ cX)))),λ_=>?_⟩
 obtain⟨rs,row,ss,m',D,rfl,A',hq⟩:=hG;refine⟨λi ρ=>∃b4 b5 b6,(∀j,j<i->∀l,ss[j]?=some l->pQ D row l=false)/\ρ=[some (.lst (rs.map aP),false),some (.int row,false),some (dg ss,false),some (.int (m':Int),false),b4,b5,b6],⟨none,none,none,λj hj=>absurd hj (Nat.not_lt_zero _),rfl⟩,?_,?_⟩;rintro i t ρ ht ⟨b4,b5,b6,hb,rfl⟩;obtain⟨l,hl,rfl⟩:=Ku (f:=kD) ht;obtain⟨R,tl,h1,h2,h3,h4,_⟩:=A'.r l;have hl9:=A'.s2 l (gM hl);refine⟨rfl,rfl,rfl,rs,l,m',R,rfl,A'.W,hl9,A'.m9,h1,_,aat,?_⟩;have htl:tl.length<=1000:=by have:=ψ List.length h2;rw[cu] at this;have:=A'.m9;omega
 rw[h2];refine⟨rfl,by rw[cu];exact ix htl,?_⟩;refine eM (f:=λp:Nat×ο=>T.tup (.int (p.1:Int)::p.2)) (u:=λp=>.bl (decide ((p.1:Int)=row))) (λp _ r hr=>⟨_,aat,hr⟩) ?_;have eh:pQ D row l=((tl.map λp=>decide ((p.1:Int)=row)).any id):=by unfold pQ;rw[h3,List.any_map,List.any_map];rfl
 refine⟨_,m6 (λp:Nat×ο=>decide ((p.1:Int)=row)) tl,?_⟩;rw[<- eh];cases hh:pQ D row l with
 |true=>refine x6 rfl ?_;rw[<- Kw hl hh hb];exact hq
 |false=>
   refine gz rfl ⟨_,_,_,λj hj l' z5=>?_,rfl⟩;rcases Nat.lt_succ_iff_lt_or_eq.mp hj with z|z
   exact hb j z l' z5;rw[z,hl] at z5;cases z5;exact hh
 rintro ρ ⟨b4,b5,b6,hb,rfl⟩;rw[<- zE (D:=D) (row:=row) (ss:=ss) λj l hl=>hb j (by show j<(dX (ss.map kD)).length;rw[Kv];exact (eE.mp hl).1) l hl];exact hq
noncomputable abbrev OQ:ν:=qaX
def zH:az OQ qaX (ai wR):=L2.fD
def KL(D:Df K mg "_law_whole" wR qaX f fd)(M:QG mg):bV P w K mg base "_law_whole" qaX 1 (cK K 1 Kr):=by
 refine D.fU (jD D.F zH rfl λbF A outer s H E Ox hr ts q hG=>?_);have nd:=zH.nd;refine⟨_,(ar (aE (Δ (vf (mx Hv (by rfl) M.isinstance (by rfl) M.int XW (ae 0)) (AQ (R8 (mx Es (by rfl) M.isinstance (by rfl) M.bool SF (ae 0)))))))),λ_=>?_⟩;obtain⟨o,rfl,hq⟩:=hG;cases o with
 |none=>exact⟨rfl,hq⟩
 |some k=>exact⟨rfl,rfl,hq⟩
noncomputable abbrev U1:ν:=["_law_program_here","_law_some","_law_within","_law_k","_law_word"]
def DO:az U1 qaY (ai BW):=L2.fD
def OR(D:Df K mg "_law_real" BW qaY f fd)(M:QG mg):bV P w K mg base "_law_real" qaY 1 (cK K 1 QI):=by
 refine D.fU (jD D.F DO rfl λbF A outer s H E Ox hr ts q hG=>?_);have nd:=DO.nd;have hu:=bG.fm hr;have np:∀{i:Nat},bN ⟨H,[],Ox⟩ i:=kP;obtain⟨rs,rfl,hl,hq⟩:=hG;refine⟨_,(ah (d9 (i:=1) nd rfl (.inl rfl) (Δ (cY ak)) np)
  (ah (bc (i:=2) nd rfl (.inl rfl) (Δ kM) np)
  (ah (dG xl rfl (dw (by rfl) M.range (θ (aY aZ a_ (by rfl) M.len lZ (aJ (ae 0) aX)))) (br (i:=3) nd rfl (.inl rfl) np)
   (ah (bc (i:=4) nd rfl (.inl rfl) (Δ (aI (θ (aI (ae 0) (ae 3))) (θ ag))) np)
   (ah (bA (bQ hu (ae 4) (θ aC))
    (ar (bc (i:=2) nd rfl (.inl rfl) (Δ kM) np))
    aM)
   (j'.weak (u:=(Zz rs)) (ah (bA (VW.vc (fE (h_ (VE.vp (aj 2))) (eF (SE (ae 4) (θ (bH (aa (ς aC) (aa (ς aC) (aa (ς aC) ak)))))))))
    (ar (bP (eB 1 qe qf bq bp (aa (aj 3) ak))))
    aM)
   (j'.weak (u:=(QJ rs)) (ar (bA (bQ hu (ae 4) (θ aC))
    (ar (bc (i:=2) nd rfl (.inl rfl) (Δ kM) np))
    aM)) ?w9)) ?w7))))
  (ar (aE (kc 1 np)))))),λ_=>?main⟩
 case w9=>
  rintro d ρ ⟨k,x,l,wi,h1,h2,rfl,kk⟩;refine cN (λz=>kk _ ⟨l,_,_,_,?_,h2,rfl⟩) (λz=>kk _ ⟨l,_,_,_,?_,h2,rfl⟩);unfold Wc at h1;rw[ε z] at h1;exact h1;unfold Wc at h1;rw[ζ z] at h1;exact h1
 case w7=>
  rintro d ρ ⟨k,r,l,wi,h1,h2,hk,rfl,kk⟩;have neg:(wi && !BZ r)=false->QJ rs d [some (.lst (rs.map aP),false),some (c8 l,true),some (.bl wi,false),some (.int (k:Int),false),some (.str (wd r),false)]:=λe=>⟨k,_,l,wi,by rw[e] at h1;exact h1,Nat.le_succ_of_le h2,rfl,kk⟩;cases wi with
  |false=>exact neg rfl
  |true=>refine⟨Gen.eR rfl,rfl,rfl,?_⟩;refine vd (λh=>⟨by rw[cu];exact ix (by omega),?_⟩) (λh=>neg ?_);have h':(!BZ r)=true:=h;rw[h'] at h1;refine⟨k,_,l++[k],true,by rw[Lz];exact h1,by rw[nL];exact Z4 h2,?_,kk⟩;unfold c8;rw[nG];rfl;exact Bool.eq_false_iff.mpr h
 case main=>
 refine⟨Gen.eR rfl,?_⟩;have hb : -(2 ^ 62:Int)<=((rs.map aP).length:Int)/\((rs.map aP).length:Int)<(2 ^ 62:Int):=by rw[cu];exact⟨by omega,by omega⟩
 refine⟨hb.1,hb.2,?_⟩;rw[zY];refine dH (n:=(rs.map aP).length) (IvR rs) ⟨[],false,none,none,rfl,c9 _,rfl⟩ ?_ ?_;rintro k ρ hk ⟨l,wi,b3,b4,Lw,NF,rfl⟩;rw[Li];have tu:k<rs.length:=by rw[<- cu (f:=aP)];exact hk
 obtain⟨r,cT⟩:∃r,rs[k]?=some r:=⟨_,iy tu⟩;have ed:rs.drop k=r::rs.drop (k+1):=by rw[acd tu,(eE.mp cT).2]
 rw[ed] at Lw;have hl5:l++((if (wi || ON r) && !BZ r then [k] else [])++DI (rs.drop (k+1)) (k+1) (Wc (wd r) (wi || ON r)))=DI rs 0 false:=Lw;obtain⟨t1,et1⟩:=kh r;have ZD:=Rg.i4 cT;rw[et1] at ZD;refine⟨_,ZD,_,aat,?_⟩;refine cN (λz=>⟨k,r,l,true,?_,NF,tu,rfl,λ_ h=>h⟩) (λz=>⟨k,r,l,wi,?_,NF,tu,rfl,λ_ h=>h⟩);have e:(wi || ON r)=true:=by unfold ON;rw[μ z,Bool.or_true]
 rw[e] at hl5;exact hl5;have e:(wi || ON r)=wi:=by unfold ON;rw[ι z,Bool.or_false]
 rw[e] at hl5;exact hl5;rintro ρ ⟨l,wi,b3,b4,Lw,NF,rfl⟩;rw[cu,List.drop_length] at Lw;have e:l=DI rs 0 false:=by rw[<- Lw];exact (DX l).symm
 rw[e];exact hq
noncomputable abbrev KN:ν:=["_law_cell","_law_many","_law_some","_law_k","_law_number"]
def uH:az KN qaP (ai su):=L2.fD
def FZ(D:Df K mg "_law_inputs" su qaP f fd)(M:QG mg):bV P w K mg base "_law_inputs" qaP 1 (cK K 2 DG):=by
 refine D.fU (jD D.F uH rfl λbF A outer s H E Ox hr ts q hG=>?_);have nd:=uH.nd;have hu:=bG.fm hr;have np:∀{i:Nat},bN ⟨H,[],Ox⟩ i:=kP;refine⟨_,(ah (d9 (i:=2) nd rfl (.inl rfl) (Δ (cY ak)) np)
  (ah (dG xl rfl (dw (by rfl) M.range (ae 1)) (br (i:=3) nd rfl (.inl rfl) np)
   (ah (bc (i:=4) nd rfl (.inl rfl) (Δ (jE (ae 0) (θ (bX (θ (mE (ae 3) (ae 3))) (θ ag))))) np)
   (ar (bA (bQ hu (θ (bo (ae 0) (θ ag))) (θ ag))
    (ar (bP (eB 2 qe qf bq bp (aa (ς (iU (θ (bo (ae 4) (θ (mE (θ ag) (θ (CP (θ ag) (θ ag))))))) (θ (mE (θ ag) (θ (CP (θ ag) (θ ag))))))) ak))))
    (ar (bP (eB 2 qe qf bq bp (aa (ς (iU (θ (bo (θ (jE (ae 4) (θ ag))) (θ ag))) (θ ag))) ak))))))))
  (ar (aE (kc 2 np))))),λ_=>?_⟩
 obtain⟨c,m,rfl,hm,hq⟩:=hG;refine⟨Gen.eR rfl,by omega,by omega,?_⟩;rw[zY];refine dH (n:=m) (λk ρ=>∃(l:qan)(b3 b4:Option (T×Bool)),l.length=k/\ρ=[some (.int c,false),some (.int (m:Int),false),some (kD l,true),b3,b4]) ⟨[],none,none,rfl,rfl⟩ ?_ ?_;rintro k ρ hk ⟨l,b3,b4,rfl,rfl⟩;rw[Li];have hl9:(l.map T.int).length+1<=sizeLine:=by rw[cu];exact ix (by omega)
 have one:∀i:Int,∃(l':qan)(b3 b4:Option (T×Bool)),l'.length=l.length+1/\[some (T.int c,false),some (.int (m:Int),false),some (.lst (l.map T.int++[.int i]),true),some (.int (l.length:Int),false),some (.int (c / ((l.length:Int) * (l.length:Int)+1)),false)]=[some (.int c,false),some (.int (m:Int),false),some (kD l',true),b3,b4]:=λi=>⟨l++[i],_,_,by rw[nL];rfl,by unfold kD;rw[nG];rfl⟩;have b1:mC (l.length:Int):=YJ (by omega);have kO:0<(l.length:Int) * (l.length:Int)+1:=by have:=Int.mul_nonneg (Int.natCast_nonneg l.length) (Int.natCast_nonneg l.length);omega
 refine⟨⟨b1,b1⟩,⟨kO,?_⟩,?_⟩;refine YJ ⟨by omega,?_⟩;have:(l.length:Int) * (l.length:Int)<=100 * 100:=Int.mul_le_mul (by omega) (by omega) (by omega) (by omega);omega;refine⟨by decide,cN (λ_=>?_) (λ_=>?_)⟩;exact⟨pw 30,⟨bg 4,iL.YK⟩,by decide +kernel,pw 30,⟨bg 2,iL.YK⟩,hl9,one _⟩;exact⟨⟨by decide,bg 3⟩,by decide,hl9,one _⟩;rintro ρ ⟨l,b3,b4,hl,rfl⟩;exact hq l hl
noncomputable abbrev U2:ν:=qaZ
def DP:az U2 qaZ (ai BX):=L2.fD
def OS(D:Df K mg "_law_told" BX qaZ f fd)(wW:KA P w K mg base):bV P w K mg base "_law_told" qaZ 10 (cK K 4 QH):=by
 obtain⟨OT,KO,KP,nB,nC,wX,wY,nD⟩:=wW;refine D.fU (jD D.F DP rfl λbF A outer s H E Ox hr ts q hG=>?_);have nd:=DP.nd;have hu:=bG.fm hr;refine⟨_,(ah (bA (bQ hu (ae 3) (θ ag))
    (ar (aE (Δ (kq nD (hr.mono (by decide)) (by rfl) nB nC wY (.cons DJ .nil) (dts:=[wV]) (λ_ _=>aA.cons DK aA.nil) (aa (aj 0) (aa (aj 1) (aa (aj 2) ak)))))))
    aM)
   (ar (aE (Δ (kq nD (hr.mono (by decide)) (by rfl) nB nC wX .nil (dts:=[]) (λ_ _=>aA.nil) (aa (aj 0) (aa (aj 1) (aa (aj 2) (aa (aj 3) ak))))))))),λ_=>?_⟩
 obtain⟨rs,row,ss,m,D',rfl,A',hq⟩:=hG;by_cases h:m=61;rw[ε h] at A';refine cN (λ_=>?_) (λz=>absurd (by rw[h];rfl) z);exact⟨rfl,rs,row,ss,200,D',rfl,A',hq⟩;rw[ζ h] at A';refine cN (λz=>absurd (Int.ofNat_inj.mp z) h) (λ_=>?_);exact⟨rfl,rs,row,ss,m,D',rfl,A',hq⟩
noncomputable abbrev KQ:ν:=qba
def DQ:az KQ qba (ai BY):=L2.fD
def B0:(KQ++(["_law_inputs_here"]:ν)).Nodup:=by decide +kernel
def B1:((["_law_program_here","_law_some","_law_most","_law_inputs_here"]:ν)++(["_law_doing"]:ν)).Nodup:=by decide +kernel
def OU(D:Df K mg "_law_rows" BY qba f fd)(M:QG mg)(KD:UL P w K mg base):bV P w K mg base "_law_rows" qba 9 (cK K 3 Ks):=by
 obtain⟨ZA,UZ,U0,KG,KH,KI,ZC,KJ⟩:=KD;refine D.fU (jD D.F DQ rfl λbF A outer s H E Ox hr ts q hG=>?_);have nd:=DQ.nd;have hu:=bG.fm hr;have np:∀{i:Nat},bN ⟨H,[],Ox⟩ i:=kP;refine⟨_,(ah (bA (bQ hu (ae 2) (θ ag))
    (ar (bc (i:=2) nd rfl (.inr rfl) (Δ ag) np))
    aM)
   (j'.weak (u:=(Zy)) (ar (aE (Δ (iW (ts:=qbb) rfl (by rfl) (eW (aj 1)) (λ_ _ _ _ _ _=>(br (i:=3) B0 rfl (.inl rfl) np (.inr rfl))) (λ_ _ _ _ _ _=>gf) (λ_ _ _ _ _ _=>(ς (iW (ts:=["_law_doing"]) rfl (by rfl) (eW (ς (aI (θ (Qc.vp (q_ KJ (hr.mono (by decide)) (by rfl) KG KH KI .nil (dts:=[]) (λ_ _=>aA.nil) (aa (aj 0) (aa (ς (gi iP kY (by rfl) M.list AZ (aJ (ae 3) aX))) (aa (aj 2) ak)))))) (θ ag)))) (λ_ _ _ _ _ _=>(br (i:=4) B1 rfl (.inl rfl) np (.inr rfl))) (λ_ _ _ _ _ _=>gf) (λ_ _ _ _ _ _=>(ς (aI (ae 4) (θ ag))))))))))) ?w3)),λ_=>?main⟩
 case w3=>
  rintro d ρ ⟨rs,ss,m,D',A',rfl,fin⟩;refine⟨rfl,by rw[cu];exact ix (je A'.s1 (by decide)),?_⟩;refine eM (f:=kD) (u:=λl=>c8 (D' l)) (λl hl r cT=>?_) (fin _);obtain⟨R,tl,h1,h2,h3,h4,_⟩:=A'.r l;have htl:tl.length<=1000:=by have:=ψ List.length h2;rw[cu] at this;have:=A'.m9;omega
  refine⟨rfl,rfl,rs,l,m,R,rfl,A'.W,A'.s2 l hl,A'.m9,h1,_,aat,?_⟩;rw[h2];refine⟨by rw[cu];exact ix htl,?_⟩;refine eM (f:=λp:Nat×ο=>T.tup (.int (p.1:Int)::p.2)) (u:=λp=>.int (p.1:Int)) (λp _ r hr=>⟨_,aat,hr⟩) ?_;have e:c8 (D' l)=.lst (tl.map λp=>.int (p.1:Int)):=by unfold c8;rw[h3,Lh];rfl
  rw[e] at cT;exact cT
 case main=>
 obtain⟨rs,ss,m,D',rfl,A',hq⟩:=hG;by_cases h:m=61;rw[ε h] at A';exact cN (λ_=>⟨rs,ss,200,D',A',rfl,λ_=>hq⟩) (λz=>absurd (by rw[h];rfl) z);rw[ζ h] at A';exact cN (λz=>absurd (Int.ofNat_inj.mp z) h) (λ_=>⟨rs,ss,m,D',A',rfl,λ_=>hq⟩)
noncomputable abbrev DR:ν:=["_law_program_here","_law_row","_law_some","_law_most","_law_done","_law_due","_law_told_here"]
def zI:az DR qbc (ai wU):=L2.fD
def zJ:(DR++(["_law_k"]:ν)).Nodup:=by decide +kernel
def KR(D:Df K mg "_law_right" wU qbc f fd)(M:QG mg)(U3:bV P w K mg base "_law_told" qaZ 10 (cK K 4 QH))(OW:bV P w K mg base "_law_whole" qaX 1 (cK K 1 Kr)):bV P w K mg base "_law_right" qbc 11 (cK K 5 Kt):=by
 refine D.fU (jD D.F zI rfl λbF A outer s H E Ox hr ts q hG=>?_);have nd:=zI.nd;have hu:=bG.fm hr;have np:∀{i:Nat},bN ⟨H,[],Ox⟩ i:=kP;refine⟨_,(ah (pS (i:=5) (ts:=["_law_k"]) nd rfl (.inl rfl) rfl (by rfl) (dw (by rfl) M.range (θ (aY aZ a_ (by rfl) M.len lZ (aJ (ae 4) aX)))) (λ_ _ _ _ _ _=>(br (i:=7) zJ rfl (.inl rfl) np (.inr rfl))) (λ_ _ _ _ _ _=>(CG (qM (ae 1) (θ (aI (ae 4) (ae 7)))))) (λ_ _ _ _ _ _=>(aj 7)) np)
  (ah (bc (i:=6) nd rfl (.inl rfl) (Δ (aK U3 hr (aa (aj 0) (aa (aj 1) (aa (aj 2) (aa (aj 3) ak)))))) np)
  (ah (bA (bQ hu (ae 5) (θ (cY ak)))
   (ar (aE (Δ (XN (ae 6) (θ cX)))))
   aM)
  (ar (aE (Δ (vf (aK OW hr (aa (aj 6) ak)) (AQ (Py hu (ae 6) (θ (aI (ae 5) (θ ag)))))))))))),λ_=>?_⟩
 obtain⟨rs,row,ss,m,D',rfl,A',hq⟩:=hG;have hs1:=A'.s1;have el:((ss.map λl=>c8 (D' l)).length:Int)=(ss.length:Int):=by rw[cu]
 have el2:((ss.map λl=>c8 (D' l)).length:Int).toNat=ss.length:=by rw[el,zY]
 have hb : -(2 ^ 62:Int)<=((ss.map λl=>c8 (D' l)).length:Int)/\((ss.map λl=>c8 (D' l)).length:Int)<(2 ^ 62:Int):=by rw[el];exact⟨by omega,by omega⟩
 refine⟨rfl,hb.1,hb.2,by rw[k_,el2];exact ix (by omega),?_⟩;have ZE:∀{Q:ο->Prop}{h:FG}{fc:FB}{fe:FE}{ρ:En},c6 h fc fe ρ ((List.range ss.length).map λi:Nat=>T.int (0+(i:Int))) Q->c6 h fc fe ρ (rangeT 0 ((ss.map λl=>c8 (D' l)).length:Int).toNat) Q:=λh=>by rw[el2];exact h
 refine ZE (lz (xs:=List.range ss.length) (f:=λi:Nat=>T.int (0+(i:Int))) (u:=λi:Nat=>T.int (0+(i:Int))) (p:=oS D' row ss) (λ_ _ _ _ _=>trivial) (λi hi k s hk=>?_) ?_);have hil:=xm.mp hi;have e:oS D' row ss i=sJ (.int row) ((D' ss[i]).map λp:Nat=>.int (p:Int)):=by unfold oS;rw[iy hil,DH];rfl
 rw[e] at hk;refine⟨c8 (D' ss[i]),?_,rfl,sy _,hk⟩;rw[Li];refine aw ?_;rw[iz,iy hil];rfl;refine⟨rfl,rs,row,ss,m,D',rfl,A',?_⟩;have hd:=UY D' row ss;unfold zy;cases e:ss.findIdx? (pQ D' row) with
 |none=>rw[e] at hd;have z4:(List.range ss.length).filter (oS D' row ss)=[]:=hd;rw[z4];refine⟨hY _,rfl,rfl,by show dep (.lst [])<=100;simp[dep,pH],?_⟩;refine x6 (c:=eqT (.lst []) (.lst [])) (by simp[eqT,gd]) ?_;exact hq
 |some k=>rw[e] at hd;obtain⟨l,z4⟩:=hd;rw[z4];have hp:=eI (f:=λi:Nat=>T.int (0+(i:Int))) (λ_=>rfl) (k::l);have hdp:=gD (f:=λi:Nat=>T.int (0+(i:Int))) (n:=0) (λ_=>c9 _) (k::l);refine⟨hY _,by show plainT (.lst _)=true;simp only[plainT];exact hp,rfl,by show dep (.lst _)<=100;simp only[dep];exact Z4 (je hdp (by decide)),?_⟩;refine gz (c:=eqT (.lst ((k::l).map λi:Nat=>T.int (0+(i:Int)))) (.lst [])) (by simp[eqT,gd]) ?_;refine⟨rfl,some k,rfl,?_⟩;refine⟨_,aat,?_⟩;show q (.vw (.bl (decide ((k:Int)=0+(k:Int)))));rw[μ (Li _).symm];exact hq
end
end cQ
namespace cQ
open PySem L2 VT Gen Rg Lay K5
open iL (Vl vT nm fQ RI)
def sA(h:nU.dm y=true):y.length<=8:=by unfold nU.dm at h;simp only[lY,aaj] at h;omega
def ZF(hy:∀y∈ys,nU.dm y=true)(h:IL ys r):V7 r:=by
 have nmo:∀{x:Str},x∈ys->rp (.nm x):=λ{x} hx=>⟨hy x hx,by have:=sA (hy x hx);omega⟩;have op:∀{o:jK},eD ys o->rp o:=λ{o} ho=>by
  cases o with
  |nm x=>exact nmo ho
  |nu i=>exact ho
 have ky:∀{k:Ky},EV ys k->Lr k:=λ{k} hk=>by
  cases k with
  |fld x=>exact⟨hy x hk,by have:=sA (hy x hk);omega⟩
  |op o=>exact op hk
 cases r with
 |df f ps=>exact⟨je h.2.1 (by decide),λx hx=>nmo (h.2.2.2 x hx)⟩
 |give a=>exact op h
 |put x a=>exact op h.2
 |lW x a o b=>exact⟨op h.2.1,h.2.2.1,op h.2.2.2⟩
 |get x r k=>exact⟨nmo h.2.1,ky h.2.2⟩
 |set r k a=>exact⟨nmo h.1,ky h.2.1,op h.2.2⟩
 |call x f as=>exact⟨je h.2.2.1 (by decide),λo ho=>op (h.2.2.2 o ho)⟩
 |lq a=>exact op h
 |gk a=>exact op h
 |_=>trivial
theorem sC:∀n,dr 0 (List.replicate n Rw.skip)=some 0
 |0=>rfl
 |n+1=>by rw[zX];simp only[dr,bt];exact sC n
structure ZG(rs:S1):Prop where
 W:Wl rs
 d:∃f ps,Rw.df f ps∈rs
 n:rs.length<=60
def U4{k:Nat}(h:Pre ys pl k rs)(hk:1<=k):∃f ps,Rw.df f ps∈rs:=by
 cases h with
 |zero=>omega
 |@succ k rs f ps b_ body o sk _ _ _ _ _=>exact⟨f,ps,cb _ dD⟩
def ZH(hl:ys.length=6)(nd:ys.Nodup)(hn:∀y∈ys,nU.dm y=true)(hP:lu ys pl)(h1:1<=pl.length)(h:Pre ys pl pl.length rs)(n:Nat)(h60:n+rs.length<=60):ZG (List.replicate n Rw.skip++rs):=by
 have hlen:(List.replicate n Rw.skip++rs).length<=60:=by rw[nL,Ac];exact h60
 refine⟨⟨⟨Qh (by rw[fZ,sC];exact Tu h),by rw[iZ,uu];exact Nt h⟩,λr hr=>ZF hn ?_,Bh _ (IS nd hP h),je hlen (by decide)⟩,?_,hlen⟩;rcases cR.mp hr with z|z
 rw[(List.mem_replicate.mp z).2];trivial;exact Tq hl nd hP h r z;obtain⟨f,ps,z⟩:=U4 h h1;exact⟨f,ps,cb _ z⟩
def KS:Wl [Rw.skip,Rw.skip]:=by
 refine⟨⟨Qh (sC 2),uu 2⟩,λr hr=>?_,?_,by decide⟩;simp only[c0,fA,π,or_self] at hr;rw[hr];trivial;refine⟨λi i' f ps Nu h _=>?_,λi x f as h=>?_⟩;obtain _|_|i:=i<;>cases h
 obtain _|_|i:=i<;>cases h
end cQ
namespace VT
open PySem
theorem KU{α β:Type}(f:α->Option β)(g:α->β):∀l:List α,(∀x∈l,f x=some (g x))->l.filterMap f=l.map g
 |[],_=>rfl
 |x::l,h=>by rw[kr,h x dD,gU,KU f g l λy hy=>h y (gT _ hy)]
def OX(n:Nat):sr none none (some (-1)) n=(List.range n).map λk=>n-1-k:=by
 unfold sr sliceRange sliceBounds;simp only[Wu,show ¬ ((-1:Int) > 0) by decide,P1];cases n with
 |zero=>rfl
 |succ n=>
  rw[ε (by omega)];have e:((((n+1:Nat):Int)-1 - -1 - -1-1) / (- -1)).toNat=n+1:=by rw[show (- (-1):Int)=1 from rfl,Int.ediv_one];omega
  rw[e];refine QT λk hk=>?_;have:=xm.mp hk;omega
def zK(xs:List α):gJ xs (sr none none (some (-1)) xs.length)=xs.reverse:=by unfold gJ;rw[OX,ZZ];refine Ws λi=>?_;by_cases hi:i<xs.length;have e:(List.range xs.length).filterMap ((λx=>xs[x]?) ∘ λk=>xs.length-1-k)=(List.range xs.length).map λk=>xs[xs.length-1-k]'(by omega):=KU _ _ _ λk hk=>iy _;rw[e,iz,Vp hi,List.getElem?_reverse hi,iy (by omega)];rfl;have h1:=je (List.length_filterMap_le ((λx=>xs[x]?) ∘ λk=>xs.length-1-k) (List.range xs.length)) (by rw[Lc];exact Nat.le_of_not_lt hi);rw[Gu h1,Gu (by rw[List.length_reverse];exact Nat.le_of_not_lt hi)]
theorem KW:∀(n:Nat)(ks:qao),ks.Nodup->(∀p∈ks,p<n)->ks.length<=n
 |0,[],_,_=>c9 _
 |0,k::ks,_,h=>absurd (h k dD) (Nat.not_lt_zero _)
 |n+1,ks,nd,h=>by
  have ih:=KW n (ks.erase n) (nd.erase n) λp hp=>by have h1:=nd.mem_erase_iff.mp hp;have:=h p h1.2;omega
  have:=List.le_length_erase (a:=n) (l:=ks);omega
end VT
set_option exponentiation.threshold 4000
namespace cQ
open PySem L2 VT Gen Rg Lay K5
def KY:bootBuiltins "sorted"=some (.builtin "sorted"):=by decide +kernel
open iL (Vl vT nm fQ RI bg YJ pw)
def OY(ts:ο)(q:qam):Prop:=∃ns:qan,ts=[.lst (ns.map .int)]/\ns.length<=63/\q (.vw (.bl true))
noncomputable abbrev vw(t:T):Option (T×Bool):=some (t,false)
def F0(c:Int):∀y∈dJ c 6,y.length<=100:=λy hy=>je (sA (rh y hy)) (by decide)
inductive C6(ns:qan)(d:Gj)(ρ:En):Prop
 |mk (rs:S1) (b1 b3:Option (T×Bool)) (G:ZG rs) (hρ:ρ=[vw (.lst (ns.map .int)),b1,vw (.lst (rs.map aP)),b3,none,none,none,none,none,none,none,none,none,none]) (fin:∀ρ',d.rt ρ' (.vw (.bl true)))
structure ZI(ss:List (qan)):Prop where
 n:ss.length<=5
 l:∀l∈ss,l.length<=3
inductive C12(ns:qan)(d:Gj)(ρ:En):Prop
 |mk (rs:S1) (m:Nat) (ss:List (qan)) (b1 b3 b5 b7 b8:Option (T×Bool)) (G:ZG rs) (S:ZI ss) (hm:m<=61) (hρ:ρ=[vw (.lst (ns.map .int)),b1,vw (.lst (rs.map aP)),b3,vw (.int (m:Int)),b5,some (dg ss,true),b7,b8,none,none,none,none,none]) (fin:∀ρ',d.rt ρ' (.vw (.bl true)))
inductive C15(ns:qan)(d:Gj)(ρ:En):Prop
 |mk (rs:S1) (m:Nat) (ss:List (qan)) (b1 b3 b5 b7 b8:Option (T×Bool)) (G:ZG rs) (S:ZI ss) (hm:m<=61) (hρ:ρ=[vw (.lst (ns.map .int)),b1,vw (.lst (rs.map aP)),b3,vw (.int (m:Int)),b5,vw (dg ss),b7,b8,vw (dg ss),none,none,none,none]) (fin:∀ρ',d.rt ρ' (.vw (.bl true)))
noncomputable def B2(ks:qao):T:=.dk (ks.map λp:Nat=>.inl (p:Int)) (ks.map λ_=>.bl true)
inductive C20(ns:qan)(d:Gj)(ρ:En):Prop
 |mk (rs:S1) (m:Nat) (ss:List (qan)) (D:qan->qao) (ks:qao) (b1 b3 b5 b7 b8 QK zL:Option (T×Bool)) (G:ZG rs) (S:ZI ss) (A':zD rs ss (if m=61 then 200 else m) D) (nd:ks.Nodup) (hk:∀p∈ks,p<rs.length) (hρ:ρ=[vw (.lst (ns.map .int)),b1,vw (.lst (rs.map aP)),b3,vw (.int (m:Int)),b5,vw (dg ss),b7,b8,vw (dg ss),vw (.lst (ss.map λl=>c8 (D l))),some (B2 ks,true),QK,zL]) (fin:∀ρ',d.rt ρ' (.vw (.bl true)))
def ZI.ask{ss:List (qan)}(S:ZI ss)(W:Wl rs)(hm:m<=900){D:qan->qao}(h:DB rs m D):zD rs ss m D:=⟨W,hm,je S.n (by decide),λl hl=>je (S.l l hl) (by decide),h⟩
def KZ(n:Nat):(List.replicate (n:Int).toNat [aP .skip]).flatten=(List.replicate n Rw.skip).map aP:=by rw[zY,List.flatten_replicate_singleton,List.map_replicate]
def OZ{L:qao}(h:L≠[])(n:Int):∃p∈L,jg (L.map λp:Nat=>T.int (p:Int)) (n % ((L.map λp:Nat=>T.int (p:Int)).length:Int))=some (.int (p:Int)):=by
 have hL:=Pb.mpr h;rw[cu];have q1:=nH n (show (L.length:Int)≠0 by omega);have q2:=pj n (show (0:Int)<(L.length:Int) by omega);obtain⟨j,ej⟩:=Gs q1;have hj:j<L.length:=by omega
 refine⟨L[j],Gw hj,?_⟩;rw[ej];refine aw ?_;rw[iz,iy hj];rfl
noncomputable def F4(ks:qao)(p:Nat):qao:=if p∈ks then ks else ks++[p]
def ZJ{ks:qao}{p:Nat}:yb (ks.map λp:Nat=>.inl (p:Int)) (.inl (p:Int))=decide (p∈ks):=by unfold yb;rw[List.any_map,QZ,List.any_eq_true,aaj];constructor;rintro⟨x,hx,h⟩;have h':(Sum.inl (x:Int):Key)=.inl (p:Int):=Λ h;have:x=p:=Int.ofNat_inj.mp (Sum.inl.inj h');rw[<- this];exact hx;exact λh=>⟨p,h,μ rfl⟩
theorem zM:∀(ks:qao)(k:Key),List.zipWith (λ(a:Key) t=>if a=k then T.bl true else t) (ks.map λp:Nat=>.inl (p:Int)) (ks.map λ_=>T.bl true)=ks.map λ_=>T.bl true
 |[],_=>rfl
 |p::ks,k=>by simp only[gU,ZU,zM ks k];split<;>rfl
def O0{ks:qao}{p:Nat}(nd:ks.Nodup)(hk:∀p∈ks,p<n)(hp:p<n):(F4 ks p).Nodup/\(∀q∈F4 ks p,q<n)/\gA (ks.map λp:Nat=>.inl (p:Int)) (.inl (p:Int))=(F4 ks p).map (λp:Nat=>.inl (p:Int))/\cH (ks.map λp:Nat=>.inl (p:Int)) (ks.map λ_=>T.bl true) (.inl (p:Int)) (.bl true)=(F4 ks p).map λ_=>T.bl true:=by
 unfold gA cH F4;rw[ZJ];by_cases h:p∈ks;rw[ε h,ε (μ h),ε (μ h)];exact⟨nd,hk,rfl,zM ks _⟩;rw[ζ h,ζ (by rw[ι h];decide),ζ (by rw[ι h];decide)];refine⟨?_,λq hq=>?_,by rw[nG];rfl,by rw[nG];rfl⟩;rw[zZ];exact⟨nd,by simp,λa ha b hb e=>h (by rw[<- hX.mp hb,<- e];exact ha)⟩;rcases cR.mp hq with z|z
 exact hk q z;rw[hX.mp z];exact hp
section
noncomputable abbrev QL:ν:=["_law_script","_law_words_here","_law_program_here","_law_lead","_law_most","_law_many","_law_some","_law_k","_law_cell","_law_held","_law_done","_law_rows_here","_law_one","_law_row"]
def K0:az QL qbd (ai nA):=L2.fD
def F5:(QL++(["_law_inputs_here"]:ν)).Nodup:=by decide +kernel
def U5(D:Df K mg "law" nA qbd f fd)(M:QG mg)(fH:bV P w K mg base "_law_cell_at" qaO 1 (cK K 2 fR.Qw))(O3:bV P w K mg base "_law_words" qaP 1 (cK K 2 fR.Kb))(U6:bV P w K mg base "_law_plan" qaU 1 (cK K 2 fR.QC))(F6:bV P w K mg base "_law_program" qaV 5 (cK K 3 fR.zB))(wW:KA P w K mg base)(U7:bV P w K mg base "_law_rows" qba 9 (cK K 3 Ks))(DS:bV P w K mg base "_law_right" qbc 11 (cK K 5 Kt))(K1:bV P w K mg base "_law_real" qaY 1 (cK K 1 QI))(K2:bV P w K mg base "_law_inputs" qaP 1 (cK K 2 DG)):cD P w K mg base eQ 12 f fd qbd (cK K 1 OY):=by
 obtain⟨OT,KO,KP,nB,nC,wX,wY,nD⟩:=wW;refine jD D.F K0 rfl λbF A outer s H E Ox hr ts q hG=>?_;obtain⟨ns,rfl,h63,hq⟩:=hG;have nd:=K0.nd;have hu:=bG.fm hr;have np:∀{i:Nat},bN ⟨H,[],Ox⟩ i:=kP;have npf:∀{is:qao},∀i∈is,bN ⟨H,[],Ox⟩ i:=λi _=>kP;have xo:=o4 hu;refine⟨_,(ah (bc (i:=1) nd rfl (.inl rfl) (Δ (aK O3 hr (aa (ς (aK fH hr (aa (aj 0) (aa (ς ag) ak)))) (aa (ς ag) ak)))) np)
  (ah (bc (i:=2) nd rfl (.inl rfl) (Δ (aK F6 hr (aa (ς (jz (ae 0) (gY (θ ag)) gX)) (aa (aj 1) (aa (ς (aK U6 hr (aa (ς (aK fH hr (aa (aj 0) (aa (ς ag) ak)))) (aa (aj 1) ak)))) ak))))) np)
  (ah (bc (i:=3) nd rfl (.inl rfl) (Δ (bo (θ (jE (θ (aK fH hr (aa (aj 0) (aa (ς ag) ak)))) (θ ag))) (θ ag))) np)
  (ah (bA (jy (θ (bX (θ (aY aZ a_ (by rfl) M.len lZ (aJ (ae 2) aX))) (ae 3))) (θ ag))
   (ar (bc (i:=2) nd rfl (.inl rfl) (Δ (bX (θ (qO (cY (aa (ς (bH (aa (ς aC) ak))) ak)) (ae 3))) (ae 2))) np))
   aM)
  (j'.weak (u:=(C6 ns)) (ah (bc (i:=4) nd rfl (.inl rfl) (Δ (bo (θ (aK fH hr (aa (aj 0) (aa (ς ag) ak)))) (θ ag))) np)
  (ah (bc (i:=5) nd rfl (.inl rfl) (Δ (bo (θ (aK fH hr (aa (aj 0) (aa (ς ag) ak)))) (θ ag))) np)
  (ah (d9 (i:=6) nd rfl (.inl rfl) (Δ (cY ak)) np)
  (ah (dG xl rfl (dw (by rfl) M.range (ae 5)) (br (i:=7) nd rfl (.inl rfl) np)
   (ah (bc (i:=8) nd rfl (.inl rfl) (Δ (aK fH hr (aa (aj 0) (aa (ς (bX (θ ag) (ae 7))) ak)))) np)
   (ar (bP (eB 6 qe qf bq bp (aa (ς (aK K2 hr (aa (ς (jE (ae 8) (θ ag))) (aa (ς (bo (θ (bX (ae 7) (ae 8))) (θ ag))) ak)))) ak))))))
  (j'.weak (u:=(C12 ns)) (Cz [6] (ah (pS (i:=9) (ts:=qbb) nd rfl (.inl rfl) rfl (by rfl) (eW (aj 6)) (λ_ _ _ _ _ _=>(br (i:=14) F5 rfl (.inl rfl) np (.inr rfl))) (λ_ _ _ _ _ _=>gf) (λ_ _ _ _ _ _=>(ς (gi iP kY (by rfl) M.list AZ (aJ (ae 14) aX)))) np)
  (ah (bA (VW.vc (Hb (mz (θ (kq nD (hr.mono (by decide)) (by rfl) nB nC wX .nil (dts:=[]) (λ_ _=>aA.nil) (aa (ς (cY (aa (ς (bH (aa (ς aC) ak))) (aa (ς (bH (aa (ς aC) ak))) ak)))) (aa (ς (bo (ae 4) (θ ag))) (aa (aj 6) (aa (aj 4) ak)))))) (θ cX)) (AO (mz (θ (kq nD (hr.mono (by decide)) (by rfl) nB nC wY (.cons DJ .nil) (dts:=[wV]) (λ_ _=>aA.cons DK aA.nil) (aa (aj 2) (aa (ς ag) (aa (ς (cY ak)) ak))))) (θ cX)))))
   (ar (aE (Δ kM)))
   aM)
  (j'.weak (u:=(C15 ns)) (ah (bc (i:=10) nd rfl (.inl rfl) (Δ (aK U7 hr (aa (aj 2) (aa (aj 9) (aa (aj 4) ak))))) np)
  (ah (d9 (i:=11) nd rfl (.inl rfl) (Δ (X7 (θ (aI (θ (aK K1 hr (aa (aj 2) ak))) (θ (bo (θ (jE (θ (aK fH hr (aa (aj 0) (aa (ς ag) ak)))) (θ ag))) (θ (aY aZ a_ (by rfl) M.len lZ (aJ (θ (aK K1 hr (aa (aj 2) ak))) aX))))))) (ς kM))) np)
  (ah (dG xl rfl (eW (aj 10)) (br (i:=12) nd rfl (.inl rfl) np)
   (ar (dG xl rfl (eW (aj 12)) (br (i:=13) nd rfl (.inl rfl) np)
    (ar (CW 11 xo (ς kM) (ae 13))))))
  (j'.weak (u:=(C20 ns)) (ah (dG xl rfl (eW (ς (jz (θ (aY (nz rfl) wQ (by rfl) M.sorted KY (aJ (ae 11) aX))) gX (gY (θ ag))))) (br (i:=13) nd rfl (.inl rfl) np)
   (ah (bA (VW.vc (Hb (n_ (h_ (aK DS hr (aa (aj 2) (aa (aj 13) (aa (aj 6) (aa (aj 4) (aa (aj 10) ak)))))))) (AO (Cy hu (ae 6) (ae 9)))))
    (ar (aE (Δ kM)))
    aM)
   (ar (bA (n_ (h_ (aK DS hr (aa (aj 2) (aa (aj 13) (aa (ς (uG (ae 6) gX gX (gY (θ (iV (θ ag)))))) (aa (aj 4) (aa (ς (uG (ae 10) gX gX (gY (θ (iV (θ ag)))))) ak))))))))
    (ar (aE (Δ kM)))
    aM))))
  (ar (aE (Δ kM)))) ?w20)))) ?w15))) npf) ?w12))))) ?w6))))),λ_=>?main⟩
 case main=>
  have DD:(dJ (ns.getD 0 0) 6).length=6:=Bd _ _;have hnl:=F0 (ns.getD 0 0);have hnm:∀y∈dJ (ns.getD 0 0) 6,nU.dm y=true:=rh;have SA:(dJ (ns.getD 0 0) 6).Nodup:=yA (by decide);refine⟨rfl,ns,0,rfl,rfl,_,6,rfl,by decide,by decide,?_⟩;generalize dJ (ns.getD 0 0) 6=ys at DD hnl hnm SA ⊢;obtain⟨ms,ems,hms⟩:=fR.wN T.int ns (some 8) none;refine⟨rfl,ns,1,rfl,rfl,_,ys,rfl,DD,λpl gO h1 h3=>?_⟩;refine⟨rfl,ms,ys,pl,by rw[<- ems];rfl,je hms h63,⟨DD,hnl,h3,λp hp=>je (yB DD gO p.1 p.2 hp).2 (by decide)⟩,h1,λrs me hlen=>?_⟩;have hpg:=ZH DD SA hnm gO h1 me;refine⟨rfl,ns,1,rfl,⟨by decide,bg 3⟩,by decide,?_⟩;obtain⟨n,en⟩:=Gs (nH (ns.getD 1 0 / 3) (show (4:Int)≠0 by decide));have hn4:n<4:=by have:=pj (ns.getD 1 0 / 3) (show (0:Int)<4 by decide);omega
  rw[en];clear hms ems hnl hnm SA me;refine vd (λh=>?_) (λh=>?_);have h':((rs.map aP).length:Int)+(n:Int)<61:=Λ h;rw[cu] at h';have e1:=KZ n;refine⟨Gen.eR rfl,Gen.eR rfl,by show -(2 ^ 63:Int)<=(n:Int);omega,by show (n:Int)<(2 ^ 63:Int);omega,by show 1 * (n:Int).toNat<=sizeLine;exact ix (by omega),?_⟩;refine⟨ix (by show ((List.replicate (n:Int).toNat [aP .skip]).flatten).length+(rs.map aP).length<=1000;rw[e1,cu,cu,Ac];omega),?_⟩;refine⟨List.replicate n Rw.skip++rs,vw (.lst (ys.map .str)),vw (.int (n:Int)),hpg n (by omega),?_,λ_=>hq⟩;rw[nG,<- e1];rfl;exact⟨rs,_,_,hpg 0 (by omega),rfl,λ_=>hq⟩
 case w6=>
  rintro d ρ ⟨rs,b1,b3,G,rfl,fin⟩;refine⟨rfl,ns,2,rfl,by decide,rfl,ns,3,rfl,by decide,Gen.eR rfl,?_⟩;obtain⟨m,em⟩:=Gs (nH (ns.getD 2 0) (show (62:Int)≠0 by decide));have hm:m<=61:=by have:=pj (ns.getD 2 0) (show (0:Int)<62 by decide);omega
  obtain⟨n,en⟩:=Gs (nH (ns.getD 3 0) (show (6:Int)≠0 by decide));have hn:n<=5:=by have:=pj (ns.getD 3 0) (show (0:Int)<6 by decide);omega
  rw[em,en];clear em en;refine⟨by show -(2 ^ 62:Int)<=(n:Int);omega,by show (n:Int)<(2 ^ 62:Int);omega,?_⟩;rw[zY];refine dH (n:=n) (λk ρ=>∃(ss:List (qan))(b7 b8:Option (T×Bool)),ss.length=k/\(∀l∈ss,l.length<=3)/\ρ=[vw (.lst (ns.map .int)),b1,vw (.lst (rs.map aP)),b3,vw (.int (m:Int)),vw (.int (n:Int)),some (dg ss,true),b7,b8,none,none,none,none,none]) ⟨[],none,none,rfl,λ_ h=>absurd h fA,rfl⟩ ?_ ?_;rintro k ρ hk ⟨ss,b7,b8,Lw,NF,rfl⟩;rw[Li];obtain⟨j,ej⟩:=Gs (nH ((k:Int)+ns.getD (3+k) 0) (show (4:Int)≠0 by decide));have hj:j<=3:=by have:=pj ((k:Int)+ns.getD (3+k) 0) (show (0:Int)<4 by decide);omega
  refine⟨rfl,ns,3+k,by show [T.lst (ns.map T.int),T.int (3+(k:Int))]=_;rw[Int.natCast_add];rfl,⟨by decide,bg 6⟩,by decide,rfl,_,j,by show [T.int _,T.int (((k:Int)+ns.getD (3+k) 0) % 4)]=_;rw[ej],by omega,λl hl=>⟨by rw[cu];exact ix (by omega),?_⟩⟩;refine⟨ss++[l],vw (.int (k:Int)),vw (.int (ns.getD (3+k) 0)),by rw[nL,Lw];rfl,λx hx=>?_,?_⟩;rcases cR.mp hx with z|z
  exact NF x z;rw[hX.mp z,hl];exact hj;unfold dg;rw[nG];rfl;rintro ρ ⟨ss,b7,b8,Lw,NF,rfl⟩;exact⟨rs,m,ss,b1,b3,_,b7,b8,G,⟨by omega,NF⟩,hm,rfl,fin⟩
 case w12=>
  rintro d ρ ⟨rs,m,ss,b1,b3,b5,b7,b8,G,S,hm,rfl,fin⟩;have hn5:=S.n;refine⟨rfl,by rw[cu];exact ix (by omega),?_⟩;refine eM (f:=kD) (u:=kD) (λl hl r cT=>cT) ?_;have V0:DB [Rw.skip,Rw.skip] m (λ_=>[]):=λins=>⟨_,[],.bare rfl,rfl,rfl,hY _,λ_ h=>absurd h fA⟩;have hf0:zy (λ_=>[]) ((m:Int) % 2) ss=.aO:=zE λj l _=>rfl;refine⟨Gen.eR rfl,Gen.eR rfl,Gen.eR rfl,by decide,rfl,[Rw.skip,Rw.skip],_,ss,m,λ_=>[],rfl,S.ask KS (je hm (by decide)) V0,?_⟩;rw[hf0];obtain⟨D0,hD0⟩:=JZ G.W 200;refine⟨hY _,rfl,rs,0,[],200,D0,rfl,⟨G.W,by decide,hY _,λ_ h=>absurd h fA,hD0⟩,?_⟩;exact⟨rs,m,ss,b1,b3,b5,b7,b8,G,S,hm,rfl,fin⟩
 case w15=>
  rintro d ρ ⟨rs,m,ss,b1,b3,b5,b7,b8,G,S,hm,rfl,fin⟩;obtain⟨D',hD⟩:=JZ G.W (if m=61 then 200 else m);have hA:=S.ask G.W (by split;decide;exact je hm (by decide)) hD;refine⟨rfl,rs,ss,m,D',rfl,hA,?_⟩;have hr1:=Kx rs 0 false;have hr2:=Kz rs 0 false G.d;have hr3:rs.length<=100:=G.W.n;obtain⟨p0,hp0,hat⟩:=OZ hr2 (ns.getD 2 0 / 62);have hL0:=Pb.mpr hr2;refine⟨rfl,rs,rfl,hr3,rfl,ns,2,rfl,⟨by decide,bg 62⟩,rfl,rs,rfl,hr3,(by show (0:Int)<(((DI rs 0 false).map λp:Nat=>T.int (p:Int)).length:Int);rw[cu];omega),_,hat,rfl,?_⟩;have gq:p0<rs.length:=by have:=hr1 _ hp0;omega
  clear hat hr1 hr2 hL0 hD;refine⟨λ_ ρ=>∃(ks:qao)(QK zL:Option (T×Bool)),ks.Nodup/\(∀p∈ks,p<rs.length)/\ρ=[vw (.lst (ns.map .int)),b1,vw (.lst (rs.map aP)),b3,vw (.int (m:Int)),b5,vw (dg ss),b7,b8,vw (dg ss),vw (.lst (ss.map λl=>c8 (D' l))),some (B2 ks,true),QK,zL],⟨[p0],none,none,by simp,λp hp=>by rw[hX.mp hp];exact gq,rfl⟩,?_,?_⟩;rintro i t ρ ht ⟨ks,QK,zL,hn,hk,rfl⟩;have ZK:(ss.map λl=>c8 (D' l))[i]?=some t:=ht;rw[iz] at ZK;cases e:ss[i]? with
  |none=>rw[e] at ZK;cases ZK
  |some l=>
   rw[e] at ZK;obtain rfl:=Option.some.inj ZK;obtain⟨R,tl,_,_,_,_,hD5⟩:=hA.r l;refine⟨λ_ ρ=>∃(ks:qao)(zL:Option (T×Bool)),ks.Nodup/\(∀p∈ks,p<rs.length)/\ρ=[vw (.lst (ns.map .int)),b1,vw (.lst (rs.map aP)),b3,vw (.int (m:Int)),b5,vw (dg ss),b7,b8,vw (dg ss),vw (.lst (ss.map λl=>c8 (D' l))),some (B2 ks,true),vw (c8 (D' l)),zL],⟨ks,zL,hn,hk,rfl⟩,?_,?_⟩;rintro i t ρ ht ⟨ks,zL,hn,hk,rfl⟩;have ZL:((D' l).map λp:Nat=>T.int (p:Int))[i]?=some t:=ht;rw[iz] at ZL;cases e2:(D' l)[i]? with
   |none=>rw[e2] at ZL;cases ZL
   |some p=>rw[e2] at ZL;obtain rfl:=Option.some.inj ZL;have hp:=hD5 p (gM e2);obtain⟨k1,k2,k3,k4⟩:=O0 hn hk hp;have VY:ks.length<=100:=je (KW _ ks hn hk) hr3;refine⟨by rw[cu];omega,F4 ks p,vw (.int (p:Int)),k1,k2,?_⟩;unfold B2;rw[<- k3,<- k4];rfl
   rintro ρ ⟨ks,zL,hn,hk,rfl⟩;exact⟨ks,_,zL,hn,hk,rfl⟩
  rintro ρ ⟨ks,QK,zL,hn,hk,rfl⟩;exact⟨rs,m,ss,D',ks,b1,b3,b5,b7,b8,QK,zL,G,S,hA,hn,hk,rfl,fin⟩
 case w20=>
  rintro d ρ ⟨rs,m,ss,D',ks,b1,b3,b5,b7,b8,QK,zL,G,S,A',Ic,hk,rfl,fin⟩;have VY:ks.length<=60:=je (KW _ ks Ic hk) G.n;refine⟨ks.map λp:Nat=>(p:Int),_,by show [B2 ks]=_;unfold B2;rw[Lh];rfl,by rw[cu];omega,λzs hz=>?_⟩;obtain⟨ys,ey,_⟩:=fR.wN T.int zs none (some 5);show oZ (qx (zs.map T.int) none (some 5)) _ _ _ _;rw[ey];have VQ:plainT (dg ss)=true:=by unfold dg;simp only[plainT];exact eI (f:=kD) (λl=>by unfold kD;simp only[plainT];exact eI (f:=T.int) (λ_=>rfl) l) ss
  have SI:dep (dg ss)<=100:=by have:=gD (f:=kD) (n:=1) (λl=>by unfold kD;have:=gD (f:=T.int) (n:=0) (λ_=>c9 _) l;simp only[dep];omega) ss;unfold dg;simp only[dep];omega
  have A2:zD rs ss.reverse (if m=61 then 200 else m) D':=⟨A'.W,A'.m9,by rw[List.length_reverse];exact A'.s1,λl hl=>A'.s2 l (List.mem_reverse.mp hl),A'.r⟩;have e1:T.lst (gJ (ss.map kD) (sr none none (some (-1)) (ss.map kD).length))=dg ss.reverse:=by rw[zK,<- List.map_reverse];rfl
  have e2:T.lst (gJ (ss.map λl=>c8 (D' l)) (sr none none (some (-1)) (ss.map λl=>c8 (D' l)).length))=.lst (ss.reverse.map λl=>c8 (D' l)):=by rw[zK,<- List.map_reverse]
  refine mB (λ_ ρ=>∃zL:Option (T×Bool),ρ=[vw (.lst (ns.map .int)),b1,vw (.lst (rs.map aP)),b3,vw (.int (m:Int)),b5,vw (dg ss),b7,b8,vw (dg ss),vw (.lst (ss.map λl=>c8 (D' l))),some (B2 ks,true),QK,zL]) ⟨_,rfl⟩ ?_ ?_;rintro i z ρ hz2 ⟨zL,rfl⟩;refine⟨rfl,rs,z,ss,m,D',rfl,A',?_⟩;refine⟨VQ,VQ,SI,?_⟩;refine gz (c:=!eqT (dg ss) (dg ss)) (by rw[qv _ VQ];rfl) ?_;refine⟨by decide,by decide,rfl,rs,z,ss.reverse,m,D',?_,A2,?_⟩;rw[<- e1,<- e2];rfl;exact⟨_,rfl⟩;rintro ρ ⟨zL,rfl⟩;exact fin _
end
end cQ
namespace eO
open PySem L2 VT
def ZM(X:K.In h)(G:h.Ns mainGlobals mg){st:Stmt}{oc:Value}{od an:qar}{Ed:Array (Option Value)}{kV doc pm bF ct:Value}(a:W.nsIn K mainGlobals x=some (some (.ref f)))(l:K.lookup f=some ⟨oc,od,.func (W.fnOf x x (cn st) (bE st) (ai st) .none kV doc pm an bF ct),Ed⟩)(c:W.codeIn K bF x=true)(k:W.keepIn K (.ref f)=true)(hb:∀(kV doc pm:Value) (an:qar) (bF ct:Value) (us:Ψ),us.length=ps.length->bindArgs (W.fnOf x x (cn st) (bE st) (ai st) .none kV doc pm an bF ct) ⟨us,[]⟩=pure (ps.zip us)) :
  ∃f fd,Df K mg x st ps f fd:=by
 have F:=qp (st:=st) l c k;exact⟨f,_,F,kG X G a,F.binds hb⟩
theorem K3{C:Ψ->Prop}(h:C []):∀us:Ψ,us.length=0->C us
 |[],_=>h
theorem kF{C:Ψ->Prop}(h:∀a,∀us:Ψ,us.length=n->C (a::us)):∀us:Ψ,us.length=n+1->C us
 |a::us,e=>h a us (Nat.succ.inj e)
def ZN{C:Ψ->Prop}(h:∀a,C [a]):∀us:Ψ,us.length=1->C us:=kF λa=>K3 (h a)
def bn1{C:Ψ->Prop}(h:∀a,C [a]):∀us:Ψ,us.length=1->C us:=ZN h
def bn2{C:Ψ->Prop}(h:∀a b,C [a,b]):∀us:Ψ,us.length=2->C us:=kF λa=>bn1 (h a)
def bn3{C:Ψ->Prop}(h:∀a b c,C [a,b,c]):∀us:Ψ,us.length=3->C us:=kF λa=>bn2 (h a)
def bn4{C:Ψ->Prop}(h:∀a b c d,C [a,b,c,d]):∀us:Ψ,us.length=4->C us:=kF λa=>bn3 (h a)
noncomputable def QM:υ:=[0,1,2,3,4,5,6,7,8,9,10,11,12,13,14,15,16,17,18,19,20,21,22,23,24,25,26,27,28,29,30,31,32,33,34,35,36,37,38,39,40,41,42,43,44,45,46,47,48,49,50,51,52,53,54,55,56,57,65,66,67,68,69,70,71,72,73,74,75,76,79,80,81,82,83,84,85,86,87,88,89,90,91,92,93,94,95,96,97,98,99,100,101,102,103,104,105,106,107,108,109,110,111,112,113,114,115,116,117,118,119,120,121,122,123,124,125,126,127,128,129,130,131,132,133,134,135,136,137,138,139,140,141,142,143,144,145,146,147,148,149,150,151,152,153,154,155,156,157,158,159,160,161,162,163,164,165,166,167,168,169,170,171,172,173,174,175,176,177,185,186,187,188,189,190,191,192,193,194,195,196,206,207,208,209,210,211,212,213,214,215,216,217,220,221,222,223,224,225,226,227,228,229,230,231,232,233,234,235,236,237,238,239,240,241,242,243,244,245,246,247,248,249,250,251,252,253,254,255,256,257,258,259,260,261,262,263,264,265,266,267,268,269,270,271,272,273,274,275,276,277,278,279,280,281,282,283,284,285,286,287,288,289,290,291,292,293,294,295,296,297,298,299,300,301,302,303,304,305,306,307,308,309,310,311,312,313,314,315,316,317,318,319,320,321,322,323,324,325,326,327,328,329,330,331,332,333,334,335,336,337,338,339,340,341,342,343,344,345,346,347,348,349,350,351,352,353,354,355,356,357,358,359,360,361,362,363,364,365,366,367,368,369,370,371,372,373,374,375,376,377,378,379,380,381,382,383,384,385,386,387,388,389,390,391,392,393,394,395,396,397,398,399,400,401,402,403,404,405,406,407,408,409,410,418,419,420,421,422,423,424,425,426,427,428,429,430,431,432,433,434,435,436,437,438,439,440,441,442,443,444,445,446]
abbrev OV:=Option (Option Value)
abbrev OO:=Option Obj
noncomputable abbrev N(K:Γ)(x:Str):=W.nsIn K mainGlobals x
noncomputable abbrev Lk(K:Γ)(a:Addr):=List.lookup a K
noncomputable abbrev R(a:Addr):OV:=some (some (.ref a))
noncomputable abbrev fo(x q:Str)(st:Stmt)(pm:Value)(c:Addr):OO:=some ⟨.type "function",none,.func (W.fnOf x q (cn st) (bE st) (ai st) .none .none .none pm none (.ref c) .none),#[]⟩
noncomputable abbrev cI(K:Γ)(c:Value)(q:Str):=W.codeIn K c q
abbrev kI(K:Γ)(f:Addr):=W.keepIn K (.ref f)
noncomputable abbrev fI(K:Γ)(c:Addr)(x:Str):=W.findIn K (.ref c) x
abbrev Q4:=OV×OO×Bool×Bool
noncomputable def q4(K:Γ)(x:Str)(f c:Addr):Q4:=(N K x,Lk K f,cI K (.ref c) x,kI K f)
noncomputable def v4(x:Str)(st:Stmt)(f:Addr)(pm:Value)(c:Addr):Q4:=(R f,fo x x st pm c,true,true)
noncomputable def BN:ν->(Ψ->Prop)->Prop
 |[],C=>C []
 |_::ps,C=>∀v,BN ps λus=>C (v::us)
theorem bnA:∀{ps:ν}{C:Ψ->Prop},BN ps C->∀us:Ψ,us.length=ps.length->C us
 |[],_,h,[],_=>h
 |_::_,_,h,v::us,e=>bnA (h v) us (Nat.succ.inj e)
def dM{D:Prop}(X:K.In h)(G:h.Ns mainGlobals mg){st:Stmt}{c:Addr}{pm:Value}(e:q4 K x f c=v4 x st f pm c)(k:∀{f:Addr} {fd:FuncData},Df K mg x st ps f fd->D)(hb:∀(kV doc pm:Value) (an:qar) (bF ct:Value),BN ps λus=>bindArgs (W.fnOf x x (cn st) (bE st) (ai st) .none kV doc pm an bF ct) ⟨us,[]⟩=pure (ps.zip us):=by simp only[BN];intros;rfl):D:=by unfold q4 v4 at e;simp only[Prod.mk.injEq] at e;obtain⟨_,_,d⟩:=ZM X G e.1 e.2.1 e.2.2.1 e.2.2.2 λa b c d e f=>bnA (hb a b c d e f);exact k d
def Tk(P:Program)(w:World)(base:Heap):Prop:=True
def dN(z:Tk P w base)(X:K.In h)(G:h.Ns mainGlobals mg){st:Stmt}{c:Addr}{pm:Value}(e:q4 K x f c=v4 x st f pm c)(k:∀{f:Addr} {fd:FuncData},Df K mg x st ps f fd->bV P w K mg base x ps n sp)(hb:∀(kV doc pm:Value) (an:qar) (bF ct:Value),BN ps λus=>bindArgs (W.fnOf x x (cn st) (bE st) (ai st) .none kV doc pm an bF ct) ⟨us,[]⟩=pure (ps.zip us):=by simp only[BN];intros;rfl):bV P w K mg base x ps n sp:=dM X G e k hb
noncomputable abbrev tU(l:Array Value):OO:=some ⟨.type "tuple",none,.seq l 0,#[]⟩
noncomputable abbrev kE(w:World)(x:Str)(t:Tok)(r:Addr):DictEntry:=⟨PyData.keyHash w.params x,.str x t,.ref r⟩
noncomputable abbrev Ab:Value:=.str "law_slicewise_k83_inputs_that_do_a_row" 703
noncomputable abbrev mD1:Value:=.str "slicewise.layouts" 280
noncomputable abbrev mD3:Value:=.str "slicewise.rows" 187
noncomputable abbrev xu:Value:=.str "slicewise.runs" 446
noncomputable abbrev K4:Value:=.str "slicewise.values" 343
abbrev U8:=Q4×(Q4×Q4)
abbrev U9:=OV×(OV×OV)
abbrev QN:=Bool×Bool
abbrev tX3:=((Q4×Q4)×U8)×(U8×U8)
abbrev Wd:=OV×OV
abbrev ZO:=OO×OV
abbrev tX6:=Wd×U9
abbrev tX7:=OV×Bool
abbrev XX:Type:=((((((Wd×(OV×(OV×OO)))×((OV×OO)×(OV×ZO)))×((ZO×(OO×(OO×OO)))×((OO×(OO×OO))×(OO×ZO))))×((tX6×((OV×OO)×U9))×(tX6×((OV×(OV×OO))×U9))))×(((tX6×tX6)×((Wd×(OV×tX7))×((OO×QN)×(Bool×QN))))×(((tX7×(Bool×Wd))×(U9×U9))×((tX7×(OO×QN))×((Bool×QN)×(OV×QN))))))×(((((Wd×(OV×tX7))×((OO×Bool)×(Bool×QN)))×(((Bool×OV)×(Bool×(Bool×OV)))×(U9×U9)))×(((Wd×(OV×(OO×Bool)))×((Bool×ZO)×(OO×QN)))×((ZO×(OO×QN))×(U8×U8))))×(((((Q4×Q4)×U8)×((Q4×Q4)×U8))×tX3)×(tX3×tX3))))
noncomputable def FF(K:Γ):XX:=(((((((N K "LETTERS",N K "LONGEST_NAME"),(N K "H",(N K "DIVISIONS",Lk K 15))),((N K "SILENT",Lk K 16),(N K "CLOSERS",(Lk K 43,N K "OPENERS")))),(((Lk K 42,N K "USED_PLACES"),(Lk K 29,(Lk K 36,Lk K 35))),((Lk K 34,(Lk K 33,Lk K 32)),(Lk K 31,(Lk K 30,N K "plus"))))),((((N K "minus",N K "times"),(N K "over",(N K "rest",N K "less"))),((N K "RECKONERS",Lk K 163),(N K "follow_plain",(N K "follow_give",N K "follow_name")))),(((N K "follow_do",N K "follow_new"),(N K "follow_set",(N K "follow_call",N K "follow_fail"))),((N K "follow_choice",(N K "FOLLOWERS",Lk K 304)),(N K "isinstance",(N K "str",N K "int")))))),(((((N K "bool",N K "len"),(N K "all",(N K "list",N K "tuple"))),((N K "range",N K "enumerate"),(N K "zip",(N K "min",N K "sum")))),(((N K "any",N K "sorted"),(N K "Layout",(fI K 74 "__init__",W.isFn K (.ref 71)))),((Lk K 71,(cI K (.ref 70) "Layout.__init__",kI K 71)),(W.plainGet K 74 Str.empty,(W.hasDictIn K 74,W.plainOver K 74))))),((((fI K 74 "__setattr__",W.makesIn K 74),(kI K 74,(fI K 74 "program",fI K 74 "heads"))),((fI K 74 "ends",(fI K 74 "elses",fI K 74 "homes")),(fI K 74 "defs",(fI K 74 "main",N K "Frame")))),(((fI K 194 "__init__",W.isFn K (.ref 191)),(Lk K 191,(cI K (.ref 190) "Frame.__init__",kI K 191))),((W.plainGet K 194 Str.empty,(W.hasDictIn K 194,W.plainOver K 194)),(fI K 194 "__setattr__",(W.makesIn K 194,kI K 194))))))),((((((fI K 194 "call",fI K 194 "names"),(N K "Machine",(fI K 215 "__init__",W.isFn K (.ref 212)))),((Lk K 212,cI K (.ref 211) "Machine.__init__"),(kI K 212,(W.plainGet K 215 Str.empty,W.hasDictIn K 215)))),(((W.plainOver K 215,fI K 215 "__setattr__"),(W.makesIn K 215,(kI K 215,fI K 215 "layout"))),((fI K 215 "most",(fI K 215 "poke",fI K 215 "frames")),(fI K 215 "cells",(fI K 215 "counts",fI K 215 "doings"))))),((((fI K 215 "place",fI K 215 "ended"),(N K "run",(Lk K 324,cI K (.ref 323) "run"))),((kI K 324,(Lk K 317,N K "doers")),(Lk K 335,(cI K (.ref 334) "doers",kI K 335)))),(((Lk K 330,N K "law"),(Lk K 446,(cI K (.ref 445) "law",kI K 446))),((q4 K "is_name" 21 20,(q4 K "is_field" 28 27,q4 K "operands" 41 40)),(q4 K "shape" 57 56,(q4 K "first_defs" 50 49,q4 K "row_behind" 99 98)))))),(((((q4 K "yes_row" 85 84,q4 K "no_row" 92 91),(q4 K "fit" 106 105,(q4 K "is_record" 113 112,q4 K "number_of" 120 119))),((q4 K "plus" 127 126,q4 K "minus" 134 133),(q4 K "times" 141 140,(q4 K "over" 148 147,q4 K "rest" 155 154)))),(((q4 K "less" 162 161,q4 K "reckoned" 170 169),(q4 K "value_of" 233 232,(q4 K "cell_of" 177 176,q4 K "made_by" 240 239))),((q4 K "follow_plain" 247 246,(q4 K "follow_name" 254 253,q4 K "follow_do" 261 260)),(q4 K "follow_give" 289 288,(q4 K "enter" 226 225,q4 K "follow_new" 268 267))))),((((q4 K "follow_fail" 296 295,q4 K "follow_choice" 303 302),(q4 K "follow_set" 275 274,(q4 K "follow_call" 282 281,q4 K "done_row" 309 308))),((q4 K "step" 316 315,(q4 K "run_poked" 329 328,q4 K "_law_cell_at" 342 341)),(q4 K "_law_words" 356 355,(q4 K "_law_operand" 363 362,q4 K "_law_key" 370 369)))),(((q4 K "_law_call" 377 376,q4 K "_law_simple" 384 383),(q4 K "_law_lay" 391 390,(q4 K "_law_plan" 396 395,q4 K "_law_program" 403 402))),((q4 K "_law_whole" 349 348,(q4 K "_law_real" 410 409,q4 K "_law_inputs" 424 423)),(q4 K "_law_told" 431 430,(q4 K "_law_rows" 436 435,q4 K "_law_right" 441 440))))))))
noncomputable def VV(w:World):XX:=(((((((some (some (.str nU.bY 191)),some (some (.int 8 193))),(some (some (.int 1000000000000000000000000000000 189)),(R 15,tU #[.str "over" 195,.str "rest" 196]))),((R 16,tU #[.str "else" 198,.str "end" 199,.str "skip" 200]),(R 43,(tU #[.str "give" 253,.str "end" 254],R 42)))),(((tU #[.str "def" 249,.str "if" 250,.str "while" 251],R 29),(some ⟨.type "dict",none,.dict #[kE w "give" 215 30,kE w "put" 217 31,kE w "do" 219 32,kE w "get" 222 33,kE w "set" 225 34,kE w "if" 229 35,kE w "while" 231 36] 7,#[]⟩,(tU #[.int (1) 232],tU #[.int (1) 230]))),((tU #[.int (1) 226,.int (2) 227,.int (3) 228],(tU #[.int (2) 223,.int (3) 224],tU #[.int (2) 220,.int (4) 221])),(tU #[.int (2) 218],(tU #[.int (1) 216],R 127))))),((((R 134,R 141),(R 148,(R 155,R 162))),((R 163,some ⟨.type "dict",none,.dict #[kE w "plus" 414 127,kE w "minus" 415 134,kE w "times" 416 141,kE w "over" 417 148,kE w "rest" 418 155,kE w "less" 419 162] 6,#[]⟩),(R 247,(R 289,R 254)))),(((R 261,R 268),(R 275,(R 282,R 296))),((R 303,(R 304,some ⟨.type "dict",none,.dict #[kE w "def" 641 247,kE w "give" 642 289,kE w "put" 643 254,kE w "do" 644 261,kE w "new" 645 268,kE w "get" 646 254,kE w "set" 647 275,kE w "call" 648 282,kE w "fail" 649 296,kE w "if" 650 303,kE w "while" 651 303] 11,#[]⟩)),(some none,(some none,some none)))))),(((((some none,some none),(some none,(some none,some none))),((some none,some none),(some none,(some none,some none)))),(((some none,some none),(R 74,(some (some (.ref 71)),true))),((fo "__init__" "Layout.__init__" Lay.jQ mD1 70,(true,true)),(true,(true,true))))),((((some (some (.builtin "object.__setattr__")),true),(true,(some none,some none))),((some none,(some none,some none)),(some none,(some none,R 194)))),(((some (some (.ref 191)),true),(fo "__init__" "Frame.__init__" Rg.ni xu 190,(true,true))),((true,(true,true)),(some (some (.builtin "object.__setattr__")),(true,true))))))),((((((some none,some none),(R 215,(some (some (.ref 212)),true))),((fo "__init__" "Machine.__init__" Rg.iI xu 211,true),(true,(true,true)))),(((true,some (some (.builtin "object.__setattr__"))),(true,(true,some none))),((some none,(some none,some none)),(some none,(some none,some none))))),((((some none,some none),(R 324,(some ⟨.type "function",none,.func (W.fnOf "run" "run" (cn Rg.gG) (bE Rg.gG) (ai Rg.gG) (.ref 317) (.none) (.none) xu none (.ref 323) (.none)),#[]⟩,true))),((true,(tU #[.int (200) 678],R 335)),(some ⟨.type "function",none,.func (W.fnOf "doers" "doers" (cn cQ.dj) (bE cQ.dj) (ai cQ.dj) (.ref 330) (.none) (.none) (.str "slicewise.whynot" 694) none (.ref 334) (.none)),#[]⟩,(true,true)))),(((tU #[.int (200) 696],R 446),(fo "law" "law" cQ.nA Ab 445,(true,true))),((v4 "is_name" Nm.kn 21 mD3 20,(v4 "is_field" Nm.lC 28 mD3 27,v4 "operands" V4.lJ 41 mD3 40)),(v4 "shape" Y3.m7 57 (.str "slicewise.programs" 247) 56,(v4 "first_defs" Lay.i5 50 (.str "slicewise.programs" 247) 49,v4 "row_behind" Nx.i6 99 mD1 98)))))),(((((v4 "yes_row" Nx.oH 85 mD1 84,v4 "no_row" Nx.rF 92 mD1 91),(v4 "fit" iL.Dp 106 K4 105,(v4 "is_record" iL.jR 113 K4 112,v4 "number_of" iL.jS 120 K4 119))),((v4 "plus" iL.Bs 127 K4 126,v4 "minus" iL.wa 134 K4 133),(v4 "times" iL.wb 141 K4 140,(v4 "over" iL.Bt 148 K4 147,v4 "rest" iL.Bu 155 K4 154)))),(((v4 "less" iL.Bv 162 K4 161,v4 "reckoned" iL.i7 170 K4 169),(v4 "value_of" Rg.lN 233 xu 232,(v4 "cell_of" Rg.oJ 177 K4 176,v4 "made_by" Rg.oI 240 xu 239))),((v4 "follow_plain" Rg.gF 247 xu 246,(v4 "follow_name" Rg.ij 254 xu 253,v4 "follow_do" Rg.jU 261 xu 260)),(v4 "follow_give" Rg.ik 289 xu 288,(v4 "enter" Rg.wj 226 xu 225,v4 "follow_new" Rg.i8 268 xu 267))))),((((v4 "follow_fail" Rg.ip 296 xu 295,v4 "follow_choice" Rg.f_ 303 xu 302),(v4 "follow_set" Rg.i9 275 xu 274,(v4 "follow_call" Rg.il 282 xu 281,v4 "done_row" Rg.lQ 309 xu 308))),((v4 "step" Rg.wm 316 xu 315,(v4 "run_poked" Rg.hU 329 xu 328,v4 "_law_cell_at" fR.oP 342 Ab 341)),(v4 "_law_words" fR.wM 356 Ab 355,(v4 "_law_operand" fR.oQ 363 Ab 362,v4 "_law_key" fR.J_ 370 Ab 369)))),(((v4 "_law_call" fR.s_call 377 Ab 376,v4 "_law_simple" fR.sd 384 Ab 383),(v4 "_law_lay" fR.Ka 391 Ab 390,(v4 "_law_plan" fR.BP 396 Ab 395,v4 "_law_program" fR.oR 403 Ab 402))),((v4 "_law_whole" cQ.wR 349 Ab 348,(v4 "_law_real" cQ.BW 410 Ab 409,v4 "_law_inputs" cQ.su 424 Ab 423)),(v4 "_law_told" cQ.BX 431 Ab 430,(v4 "_law_rows" cQ.BY 436 Ab 435,v4 "_law_right" cQ.wU 441 Ab 440))))))))
def aei(w:World)(os:OsState):HE.lookA pE qE sD [] [] (HE.fu (w).params) (W.boot_heap (w).params) (w) 2911 os=some (true,(W.openGood qE sD).1,(W.openGood qE sD).2.1) :=
 W.byRow2 "special-get-raises" (P:=λw=>∀os,HE.lookA pE qE sD [] [] (HE.fu (w).params) (W.boot_heap (w).params) (w) 2911 os=some (true,(W.openGood qE sD).1,(W.openGood qE sD).2.1)) B3 F7 w os
def B4(w:World)(os:OsState):HE.lookB pE qE sD [] [] (HE.fu (w.withFollow "special-get-raises" false).params) (w.withFollow "special-get-raises" false) 2911 os=some (W.openGood qE sD).2.2:=by
 rw[PySem.W.Fast.te312265020846911052]
 kernel_rfl
def F8(w:World)(os:OsState):HE.lookB pE qE sD [] [] (HE.fu (w.withFollow "special-get-raises" true).params) (w.withFollow "special-get-raises" true) 2911 os=some (W.openGood qE sD).2.2:=by
 rw[PySem.W.Fast.te312265020846911052]
 kernel_rfl
def aej(w:World)(os:OsState):HE.lookB pE qE sD [] [] (HE.fu (w).params) (w) 2911 os=some (W.openGood qE sD).2.2 :=
 W.byRow2 "special-get-raises" (P:=λw=>∀os,HE.lookB pE qE sD [] [] (HE.fu (w).params) (w) 2911 os=some (W.openGood qE sD).2.2) B4 F8 w os
def B5(w:World)(os:OsState):HE.lookC pE QM FF (HE.fu (w.withFollow "special-get-raises" false).params) (w.withFollow "special-get-raises" false) 2911 os=some (VV (w.withFollow "special-get-raises" false)):=by
 rw[PySem.W.Fast.te3135357915001837337]
 kernel_rfl
def F9(w:World)(os:OsState):HE.lookC pE QM FF (HE.fu (w.withFollow "special-get-raises" true).params) (w.withFollow "special-get-raises" true) 2911 os=some (VV (w.withFollow "special-get-raises" true)):=by
 rw[PySem.W.Fast.te3135357915001837337]
 kernel_rfl
def runC(w:World)(os:OsState):HE.lookC pE QM FF (HE.fu (w).params) (w) 2911 os=some (VV (w)) :=
 W.byRow2 "special-get-raises" (P:=λw=>∀os,HE.lookC pE QM FF (HE.fu (w).params) (w) 2911 os=some (VV (w))) B5 F9 w os
theorem U_:PySem.Challenge.rw_slicewise_k83_inputs_that_do_a_row.wellSaid=true:=by kernel_rfl
noncomputable abbrev KE(w:World):Γ:=HE.Kf QM (HE.vC pE 6502 w)
noncomputable abbrev dE:DefRec:=HE.XZ cQ.nA
theorem hd:PySem.W.LeftO pE qE sD (HE.MJ qE [] []) (λs=>QM.map s.heap.get?) (λw=>QM.map (HE.vC pE 6502 w)) 6502/\∀w,FF (KE w)=VV w:=HE.head (p:=pE) (q:=qE) (loose:=sD) (lv:=[]) (R:=[]) (as:=QM) (N:=6502) (M:=2911) (F:=FF) (v:=VV) (by kernel_rfl) rfl (λs=>by kernel_rfl) rfl aei aej runC
def U'{l:PySem.W.OpenLaw}{fa:Addr}(X:K.In h)(G:h.Ns mainGlobals mg)(hfa:mg "law"=some (.ref fa))(hF:FF K=VV w) :
  ∃fd:FuncData,(∀(s:Shared)(v:Value),BindsTo s fd ⟨[v],[]⟩ [("_law_script",v)])/\∀base:Heap,K.In base->base.Ns mainGlobals mg->cD l.prog w K mg base eQ 12 fa fd qbd (cK K 1 cQ.OY):=by
 have Q {β:Type} (f:XX->β):=ψ f hF;have fK:=Ae X G (Q (·.1.1.2.2.2.2.1) :);have Va:=Ae X G (Q (·.1.1.2.2.2.2.2.1) :);have B6:=Ae X G (Q (·.1.1.2.2.2.2.2.2) :);have wZ:=Ae X G (Q (·.1.2.1.1.1.1.1) :);have j5:=Ae X G (Q (·.1.2.1.1.1.1.2) :);have Vb:=Ae X G (Q (·.1.2.1.1.1.2.1) :);have w_:=Ae X G (Q (·.1.2.1.1.1.2.2.1) :);have j6:=Ae X G (Q (·.1.2.1.1.1.2.2.2) :);have nE:=Ae X G (Q (·.1.2.1.1.2.1.1) :);have gg:=Ae X G (Q (·.1.2.1.1.2.1.2) :);have Vc:=Ae X G (Q (·.1.2.1.1.2.2.1) :);have Vd:=Ae X G (Q (·.1.2.1.1.2.2.2.1) :);have Ve:=Ae X G (Q (·.1.2.1.1.2.2.2.2) :);have Vf:=Ae X G (Q (·.1.2.1.2.1.1.1) :);have F_:=Ae X G (Q (·.1.2.1.2.1.1.2) :);have e:=hfa.symm.trans (kG X G (Q (·.2.1.2.2.1.1.2) :));cases e;have ax:Lay.NP K 74:=⟨⟨(Q (·.1.2.1.2.2.2.1) :),(Q (·.1.2.1.2.2.2.2.1) :),(Q (·.1.2.1.2.2.2.2.2) :),(Q (·.1.2.2.1.1.1.1) :)⟩,(Q (·.1.2.2.1.1.2.2.1) :),(Q (·.1.2.2.1.1.2.2.2) :),(Q (·.1.2.2.1.2.1.1) :),(Q (·.1.2.2.1.2.1.2.1) :),(Q (·.1.2.2.1.2.1.2.2) :),(Q (·.1.2.2.1.2.2.1) :),(Q (·.1.2.2.1.2.2.2.1) :)⟩;have uI:=qp (st:=Lay.jQ) (Q (·.1.2.1.2.2.1.1) :) (Q (·.1.2.1.2.2.1.2.1) :) (Q (·.1.2.1.2.2.1.2.2) :);have Ga:Dc K mg "Layout" "Layout.__init__" Lay.jQ qaz 74 71 _:=⟨uI,kG X G (Q (·.1.2.1.2.1.2.1) :),uI.binds (λ_ _ _ _ _ _=>(eO.bn2 λ_ _=>rfl)),⟨(Q (·.1.2.2.1.1.1.2) :),(Q (·.1.2.1.2.1.2.2.1) :),(Q (·.1.2.1.2.1.2.2.2) :),(Q (·.1.2.2.1.1.2.1) :)⟩⟩;have cc:Rg.V6 K 194:=⟨⟨(Q (·.1.2.2.2.2.1.1) :),(Q (·.1.2.2.2.2.1.2.1) :),(Q (·.1.2.2.2.2.1.2.2) :),(Q (·.1.2.2.2.2.2.1) :)⟩,(Q (·.2.1.1.1.1.1.1) :),(Q (·.2.1.1.1.1.1.2) :)⟩;have zN:=qp (st:=Rg.ni) (Q (·.1.2.2.2.1.2.1) :) (Q (·.1.2.2.2.1.2.2.1) :) (Q (·.1.2.2.2.1.2.2.2) :);have K6:Dc K mg "Frame" "Frame.__init__" Rg.ni qaF 194 191 _:=⟨zN,kG X G (Q (·.1.2.2.1.2.2.2.2) :),zN.binds (λ_ _ _ _ _ _=>(eO.bn3 λ_ _ _=>rfl)),⟨(Q (·.1.2.2.2.2.2.2.1) :),(Q (·.1.2.2.2.1.1.1) :),(Q (·.1.2.2.2.1.1.2) :),(Q (·.1.2.2.2.2.2.2.2) :)⟩⟩;have af:Rg.zc K 215:=⟨⟨(Q (·.2.1.1.1.2.2.2.1) :),(Q (·.2.1.1.1.2.2.2.2) :),(Q (·.2.1.1.2.1.1.1) :),(Q (·.2.1.1.2.1.1.2) :)⟩,(Q (·.2.1.1.2.1.2.2.2) :),(Q (·.2.1.1.2.2.1.1) :),(Q (·.2.1.1.2.2.1.2.1) :),(Q (·.2.1.1.2.2.1.2.2) :),(Q (·.2.1.1.2.2.2.1) :),(Q (·.2.1.1.2.2.2.2.1) :),(Q (·.2.1.1.2.2.2.2.2) :),(Q (·.2.1.2.1.1.1.1) :),(Q (·.2.1.2.1.1.1.2) :)⟩;have sE:=qp (st:=Rg.iI) (Q (·.2.1.1.1.2.1.1) :) (Q (·.2.1.1.1.2.1.2) :) (Q (·.2.1.1.1.2.2.1) :);have B7:Dc K mg "Machine" "Machine.__init__" Rg.iI qav 215 212 _:=⟨sE,kG X G (Q (·.2.1.1.1.1.2.1) :),sE.binds (λ_ _ _ _ _ _=>(eO.bn4 λ_ _ _ _=>rfl)),⟨(Q (·.2.1.1.2.1.2.1) :),(Q (·.2.1.1.1.1.2.2.1) :),(Q (·.2.1.1.1.1.2.2.2) :),(Q (·.2.1.1.2.1.2.2.1) :)⟩⟩;have M2:Nm.Mg2 mg:=⟨⟨_,kG X G (Q (·.1.1.1.1.1.1.1) :)⟩,⟨_,kG X G (Q (·.1.1.1.1.1.1.2) :)⟩,fK,Va,j5,Vb⟩;have MU:V4.MgU w K mg:=⟨w_,⟨29,kG X G (Q (·.1.1.1.2.1.1.2) :),⟨_,_,(Q (·.1.1.1.2.1.2.1) :),(by first|rfl|decide),.cons ⟨rfl,⟨_,rfl⟩,.ref 30,rfl,λ_ _=>cP (vs:=[V.int 1]) (.inr ⟨_,_,_,(Q (·.1.1.1.2.2.2.2.1) :),rfl,rfl,Gen.eR rfl,.cons ⟨_,rfl⟩ (.nil)⟩) (aA.cons bC (aA.nil))⟩ (.cons ⟨rfl,⟨_,rfl⟩,.ref 31,rfl,λ_ _=>cP (vs:=[V.int 2]) (.inr ⟨_,_,_,(Q (·.1.1.1.2.2.2.1) :),rfl,rfl,Gen.eR rfl,.cons ⟨_,rfl⟩ (.nil)⟩) (aA.cons bC (aA.nil))⟩ (.cons ⟨rfl,⟨_,rfl⟩,.ref 32,rfl,λ_ _=>cP (vs:=[V.int 2,V.int 4]) (.inr ⟨_,_,_,(Q (·.1.1.1.2.2.1.2.2) :),rfl,rfl,Gen.eR rfl,.cons ⟨_,rfl⟩ (.cons ⟨_,rfl⟩ (.nil))⟩) (aA.cons bC (aA.cons bC (aA.nil)))⟩ (.cons ⟨rfl,⟨_,rfl⟩,.ref 33,rfl,λ_ _=>cP (vs:=[V.int 2,V.int 3]) (.inr ⟨_,_,_,(Q (·.1.1.1.2.2.1.2.1) :),rfl,rfl,Gen.eR rfl,.cons ⟨_,rfl⟩ (.cons ⟨_,rfl⟩ (.nil))⟩) (aA.cons bC (aA.cons bC (aA.nil)))⟩ (.cons ⟨rfl,⟨_,rfl⟩,.ref 34,rfl,λ_ _=>cP (vs:=[V.int 1,V.int 2,V.int 3]) (.inr ⟨_,_,_,(Q (·.1.1.1.2.2.1.1) :),rfl,rfl,Gen.eR rfl,.cons ⟨_,rfl⟩ (.cons ⟨_,rfl⟩ (.cons ⟨_,rfl⟩ (.nil)))⟩) (aA.cons bC (aA.cons bC (aA.cons bC (aA.nil))))⟩ (.cons ⟨rfl,⟨_,rfl⟩,.ref 35,rfl,λ_ _=>cP (vs:=[V.int 1]) (.inr ⟨_,_,_,(Q (·.1.1.1.2.1.2.2.2) :),rfl,rfl,Gen.eR rfl,.cons ⟨_,rfl⟩ (.nil)⟩) (aA.cons bC (aA.nil))⟩ (.cons ⟨rfl,⟨_,rfl⟩,.ref 36,rfl,λ_ _=>cP (vs:=[V.int 1]) (.inr ⟨_,_,_,(Q (·.1.1.1.2.1.2.2.1) :),rfl,rfl,Gen.eR rfl,.cons ⟨_,rfl⟩ (.nil)⟩) (aA.cons bC (aA.nil))⟩ (.nil))))))),by show ([("give":Str),("put":Str),("do":Str),("get":Str),("set":Str),("if":Str),("while":Str)]).Nodup;decide +kernel⟩⟩⟩;have MR:iL.Mg w K mg:=⟨⟨_,kG X G (Q (·.1.1.1.1.1.2.1) :)⟩,⟨15,kG X G (Q (·.1.1.1.1.1.2.2.1) :),λH=>.inr ⟨_,_,_,(Q (·.1.1.1.1.1.2.2.2) :),rfl,rfl,Gen.eR rfl,.cons ⟨_,rfl⟩ (.cons ⟨_,rfl⟩ (.nil))⟩⟩,fK,B6,wZ,j6,j5,nE,⟨163,(λo=>match o with | .plus=>127 | .minus=>134 | .times=>141 | .over=>148 | .rest=>155 | .less=>162),(kG X G (Q (·.1.1.2.1.2.1.1) :)),(λo=>match o with | .plus=>(kG X G (Q (·.1.1.1.2.2.2.2.2) :)) | .minus=>(kG X G (Q (·.1.1.2.1.1.1.1) :)) | .times=>(kG X G (Q (·.1.1.2.1.1.1.2) :)) | .over=>(kG X G (Q (·.1.1.2.1.1.2.1) :)) | .rest=>(kG X G (Q (·.1.1.2.1.1.2.2.1) :)) | .less=>(kG X G (Q (·.1.1.2.1.1.2.2.2) :))),⟨_,_,(Q (·.1.1.2.1.2.1.2) :),(by first|rfl|decide),.cons ⟨rfl,⟨_,rfl⟩,.ref 127,rfl,λ_ _=>by simp only[At]⟩ (.cons ⟨rfl,⟨_,rfl⟩,.ref 134,rfl,λ_ _=>by simp only[At]⟩ (.cons ⟨rfl,⟨_,rfl⟩,.ref 141,rfl,λ_ _=>by simp only[At]⟩ (.cons ⟨rfl,⟨_,rfl⟩,.ref 148,rfl,λ_ _=>by simp only[At]⟩ (.cons ⟨rfl,⟨_,rfl⟩,.ref 155,rfl,λ_ _=>by simp only[At]⟩ (.cons ⟨rfl,⟨_,rfl⟩,.ref 162,rfl,λ_ _=>by simp only[At]⟩ (.nil)))))),by show ([("plus":Str),("minus":Str),("times":Str),("over":Str),("rest":Str),("less":Str)]).Nodup;decide +kernel⟩⟩⟩;have M5:Y3.Mg5 K mg:=⟨j5,nE,gg,fK,B6,wZ,j6,w_,Vc,⟨43,kG X G (Q (·.1.1.1.1.2.2.1) :),λH=>.inr ⟨_,_,_,(Q (·.1.1.1.1.2.2.2.1) :),rfl,rfl,Gen.eR rfl,.cons ⟨_,rfl⟩ (.cons ⟨_,rfl⟩ (.nil))⟩⟩,⟨42,kG X G (Q (·.1.1.1.1.2.2.2.2) :),λH=>.inr ⟨_,_,_,(Q (·.1.1.1.2.1.1.1) :),rfl,rfl,Gen.eR rfl,.cons ⟨_,rfl⟩ (.cons ⟨_,rfl⟩ (.cons ⟨_,rfl⟩ (.nil)))⟩⟩⟩;have MF:Lay.MgF mg:=⟨gg⟩;have MLy:Lay.Y5 mg:=⟨j5,Vd⟩;have MRu:Rg.MgR mg:=⟨j5,gg,j6⟩;have mO:Rg.MgS K mg:=⟨j5,j6,⟨16,kG X G (Q (·.1.1.1.1.2.1.1) :),λH=>.inr ⟨_,_,_,(Q (·.1.1.1.1.2.1.2) :),rfl,rfl,Gen.eR rfl,.cons ⟨_,rfl⟩ (.cons ⟨_,rfl⟩ (.cons ⟨_,rfl⟩ (.nil)))⟩⟩⟩;have FO:Rg.Fos w K mg:=⟨⟨304,247,289,254,261,268,275,282,296,303,(kG X G (Q (·.1.1.2.2.2.1.2.1) :)),(kG X G (Q (·.1.1.2.1.2.2.1) :)),(kG X G (Q (·.1.1.2.1.2.2.2.1) :)),(kG X G (Q (·.1.1.2.1.2.2.2.2) :)),(kG X G (Q (·.1.1.2.2.1.1.1) :)),(kG X G (Q (·.1.1.2.2.1.1.2) :)),(kG X G (Q (·.1.1.2.2.1.2.1) :)),(kG X G (Q (·.1.1.2.2.1.2.2.1) :)),(kG X G (Q (·.1.1.2.2.1.2.2.2) :)),(kG X G (Q (·.1.1.2.2.2.1.1) :)),⟨_,_,(Q (·.1.1.2.2.2.1.2.2) :),(by first|rfl|decide),.cons ⟨rfl,⟨_,rfl⟩,.ref 247,rfl,λ_ _=>by simp only[At]⟩ (.cons ⟨rfl,⟨_,rfl⟩,.ref 289,rfl,λ_ _=>by simp only[At]⟩ (.cons ⟨rfl,⟨_,rfl⟩,.ref 254,rfl,λ_ _=>by simp only[At]⟩ (.cons ⟨rfl,⟨_,rfl⟩,.ref 261,rfl,λ_ _=>by simp only[At]⟩ (.cons ⟨rfl,⟨_,rfl⟩,.ref 268,rfl,λ_ _=>by simp only[At]⟩ (.cons ⟨rfl,⟨_,rfl⟩,.ref 254,rfl,λ_ _=>by simp only[At]⟩ (.cons ⟨rfl,⟨_,rfl⟩,.ref 275,rfl,λ_ _=>by simp only[At]⟩ (.cons ⟨rfl,⟨_,rfl⟩,.ref 282,rfl,λ_ _=>by simp only[At]⟩ (.cons ⟨rfl,⟨_,rfl⟩,.ref 296,rfl,λ_ _=>by simp only[At]⟩ (.cons ⟨rfl,⟨_,rfl⟩,.ref 303,rfl,λ_ _=>by simp only[At]⟩ (.cons ⟨rfl,⟨_,rfl⟩,.ref 303,rfl,λ_ _=>by simp only[At]⟩ (.nil))))))))))),by show ([("def":Str),("give":Str),("put":Str),("do":Str),("new":Str),("get":Str),("set":Str),("call":Str),("fail":Str),("if":Str),("while":Str)]).Nodup;decide +kernel⟩⟩⟩;have MG:fR.UO mg:=⟨j5,nE,j6,Ve⟩;have ML:cQ.QG mg:=⟨fK,B6,wZ,w_,j5,nE,gg,Vf,F_⟩;have F:=qp (st:=cQ.nA) (Q (·.2.1.2.2.1.2.1) :) (Q (·.2.1.2.2.1.2.2.1) :) (Q (·.2.1.2.2.1.2.2.2) :);have DL:Df K mg "law" cQ.nA qbd 446 _:=⟨F,hfa,F.binds (λ_ _ _ _ _ _=>ZN λ_=>rfl)⟩;refine⟨W.fnOf "law" "law" (cn cQ.nA) (bE cQ.nA) (ai cQ.nA) .none (.none) (.none) (.str "law_slicewise_k83_inputs_that_do_a_row" 703) none (.ref 445) (.none),λs v=>.of_eq rfl,λbase _ _=>?_⟩;have zT:Tk l.prog w base:=trivial;have uJ:=dN zT X G (Q (·.2.1.2.2.2.1.1) :) λD=>Nm.NM D M2;have sF:=dM X G (Q (·.2.1.2.2.2.1.2.1) :) λD=>Nm.yZ D M2 uJ;have B8:=dM X G (Q (·.2.1.2.2.2.1.2.2) :) λD=>V4.y0 D MU sF;have O5:=dN zT X G (Q (·.2.1.2.2.2.2.1) :) λD=>Y3.Jp D M5;have xa:=dN zT X G (Q (·.2.1.2.2.2.2.2.1) :) λD=>Lay.tF D MF;have K7:=Lay.Fp Ga MLy ax O5 xa;have nF:=dN zT X G (Q (·.2.1.2.2.2.2.2.2) :) λD=>Nx.tG D ax;have Gb:=dN zT X G (Q (·.2.2.1.1.1.1.1) :) λD=>Nx.Br D;have K8:=dN zT X G (Q (·.2.2.1.1.1.1.2) :) λD=>Nx.Ft D ax;have QO:=dN zT X G (Q (·.2.2.1.1.1.2.1) :) λD=>iL.T8 D MR;have pd:=dN zT X G (Q (·.2.2.1.1.1.2.2.1) :) λD=>iL.wc D MR;have pe:=dM X G (Q (·.2.2.1.1.1.2.2.2) :) λD=>iL.we D MR pd;have Vg:=dN zT X G (Q (·.2.2.1.1.2.1.1) :) λD=>iL.NZ D MR;have O6:=dN zT X G (Q (·.2.2.1.1.2.1.2) :) λD=>iL.JB D MR;have O7:=dN zT X G (Q (·.2.2.1.1.2.2.1) :) λD=>iL.JC D MR;have Vh:=dN zT X G (Q (·.2.2.1.1.2.2.2.1) :) λD=>iL.N2 D MR;have Vi:=dN zT X G (Q (·.2.2.1.1.2.2.2.2) :) λD=>iL.N3 D MR;have Vj:=dN zT X G (Q (·.2.2.1.2.1.1.1) :) λD=>iL.N4 D MR;have B9:=dM X G (Q (·.2.2.1.2.1.1.2) :) λD=>iL.y_ D MR QO pe Vg O6 O7 Vh Vi Vj;have O8:=Rg.JG (P:=l.prog) (w:=w) (base:=base) K6 cc;have B_:=dM X G (Q (·.2.2.1.2.1.2.1) :) λD=>Rg.ze D af cc uJ;have uK:=dM X G (Q (·.2.2.1.2.1.2.2.1) :) λD=>Rg.By D MRu pd sF pe;have Gd:=dM X G (Q (·.2.2.1.2.1.2.2.2) :) λD=>Rg.Bz D (cFrame:=194) af B9 uK;have gK:=dM X G (Q (·.2.2.1.2.2.1.1) :) λD=>Rg.pM D (cFrame:=194) af nF;have fM:=dM X G (Q (·.2.2.1.2.2.1.2.1) :) λD=>Rg.rP D af cc gK;have zP:=dM X G (Q (·.2.2.1.2.2.1.2.2) :) λD=>Rg.wA D af fM;have tV:=dM X G (Q (·.2.2.1.2.2.2.1) :) λD=>Rg.rS D af cc ax fM;have DT:=dM X G (Q (·.2.2.1.2.2.2.2.1) :) λD=>Rg.JL D MRu af cc ax O8;have xb:=dM X G (Q (·.2.2.1.2.2.2.2.2) :) λD=>Rg.tJ D af fM;have tW:=dN zT X G (Q (·.2.2.2.1.1.1.1) :) λD=>Rg.rQ D (cFrame:=194) (cLayout:=74) af;have pR:=dM X G (Q (·.2.2.2.1.1.1.2) :) λD=>Rg.oN D (cFrame:=194) af Gb K8;have xc:=dM X G (Q (·.2.2.2.1.1.2.1) :) λD=>Rg.tM D af uK gK;have tX:=dM X G (Q (·.2.2.2.1.1.2.2.1) :) λD=>Rg.rR D af ax DT;have B':=dM X G (Q (·.2.2.2.1.1.2.2.2) :) λD=>Rg.zl D mO af FO B8 B_ Gd gK fM zP tV xb xc tX tW pR;have Vk:=dM X G (Q (·.2.2.2.1.2.1.1) :) λD=>Rg.OD D mO af ax nF B';have Ge:=Rg.BO B7 af K7;have zQ:=dM X G (Q (·.2.2.2.1.2.1.2.1) :) λD=>Rg.wL D af ax Ge DT QO Vk;have Vm:yw K "run" "run" Rg.gG 324 (W.fnOf "run" "run" (cn Rg.gG) (bE Rg.gG) (ai Rg.gG) (.ref 317) (.none) (.none) (.str "slicewise.runs" 446) none (.ref 323) (.none)):=⟨⟨_,_,_,_,_,_,_,_,_,_,rfl,(Q (·.2.1.2.1.1.2.2.1) :),(Q (·.2.1.2.1.1.2.2.2) :)⟩,(Q (·.2.1.2.1.2.1.1) :)⟩;have Vn:Binds K (W.fnOf "run" "run" (cn Rg.gG) (bE Rg.gG) (ai Rg.gG) (.ref 317) (.none) (.none) (.str "slicewise.runs" 446) none (.ref 323) (.none)) qaN []:=pY (m:=3) rfl (Q (·.2.1.2.1.2.1.2.1) :) rfl rfl (eO.kF λ_=>(eO.kF λ_=>(eO.kF λ_=>(eO.K3 ⟨_,rfl,rfl⟩))));have Vo:Binds K (W.fnOf "run" "run" (cn Rg.gG) (bE Rg.gG) (ai Rg.gG) (.ref 317) (.none) (.none) (.str "slicewise.runs" 446) none (.ref 323) (.none)) qaN [.int (200) 678]:=pY (m:=2) rfl (Q (·.2.1.2.1.2.1.2.1) :) rfl rfl (eO.kF λ_=>(eO.kF λ_=>(eO.K3 ⟨_,rfl,rfl⟩)));have QP:=Rg.UM (P:=l.prog) (w:=w) (base:=base) Vm (kG X G (Q (·.2.1.2.1.1.2.1) :)) Vn Vo zQ;have K9:yw K "doers" "doers" cQ.dj 335 (W.fnOf "doers" "doers" (cn cQ.dj) (bE cQ.dj) (ai cQ.dj) (.ref 330) (.none) (.none) (.str "slicewise.whynot" 694) none (.ref 334) (.none)):=⟨⟨_,_,_,_,_,_,_,_,_,_,rfl,(Q (·.2.1.2.1.2.2.1) :),(Q (·.2.1.2.1.2.2.2.1) :)⟩,(Q (·.2.1.2.1.2.2.2.2) :)⟩;have K_:Binds K (W.fnOf "doers" "doers" (cn cQ.dj) (bE cQ.dj) (ai cQ.dj) (.ref 330) (.none) (.none) (.str "slicewise.whynot" 694) none (.ref 334) (.none)) qaW []:=pY (m:=4) rfl (Q (·.2.1.2.2.1.1.1) :) rfl rfl (eO.kF λ_=>(eO.kF λ_=>(eO.kF λ_=>(eO.kF λ_=>(eO.K3 ⟨_,rfl,rfl⟩)))));have K':Binds K (W.fnOf "doers" "doers" (cn cQ.dj) (bE cQ.dj) (ai cQ.dj) (.ref 330) (.none) (.none) (.str "slicewise.whynot" 694) none (.ref 334) (.none)) qaW [.int (200) 696]:=pY (m:=3) rfl (Q (·.2.1.2.2.1.1.1) :) rfl rfl (eO.kF λ_=>(eO.kF λ_=>(eO.kF λ_=>(eO.K3 ⟨_,rfl,rfl⟩))));have DU:=cQ.KC (P:=l.prog) (w:=w) (base:=base) K9 (kG X G (Q (·.2.1.2.1.2.1.2.2) :)) K_ K' ML QP;have sG:=dN zT X G (Q (·.2.2.2.1.2.1.2.2) :) λD=>fR.BQ D MG;have xf:=dN zT X G (Q (·.2.2.2.1.2.2.1) :) λD=>fR.Kc D MG;have dP:=dN zT X G (Q (·.2.2.2.1.2.2.2.1) :) λD=>fR.BR D;have Ca:=dM X G (Q (·.2.2.2.1.2.2.2.2) :) λD=>fR.UP D dP;have zR:=dM X G (Q (·.2.2.2.2.1.1.1) :) λD=>fR.OH D MG dP;have tY:=dM X G (Q (·.2.2.2.2.1.1.2) :) λD=>fR.FU D dP Ca zR;have Cb:=dM X G (Q (·.2.2.2.2.1.2.1) :) λD=>fR.UW D MG dP tY;have zS:=dN zT X G (Q (·.2.2.2.2.1.2.2.1) :) λD=>fR.OI D MG;have sH:=dM X G (Q (·.2.2.2.2.1.2.2.2) :) λD=>fR.BV D MG dP Cb;have xg:=dN zT X G (Q (·.2.2.2.2.2.1.1) :) λD=>cQ.KL D ML;have zU:=dN zT X G (Q (·.2.2.2.2.2.1.2.1) :) λD=>cQ.OR D ML;have tZ:=dN zT X G (Q (·.2.2.2.2.2.1.2.2) :) λD=>cQ.FZ D ML;have zV:=dM X G (Q (·.2.2.2.2.2.2.1) :) λD=>cQ.OS D DU;have zW:=dM X G (Q (·.2.2.2.2.2.2.2.1) :) λD=>cQ.OU D ML QP;have xh:=dM X G (Q (·.2.2.2.2.2.2.2.2) :) λD=>cQ.KR D ML zV xg;exact cQ.U5 DL ML sG xf zS sH DU zW xh zU tZ
def walk{l:PySem.W.OpenLaw}{q:Program}{loose:ν}{XP:(qae)->Heap->Prop}{d:DefRec}{K:World->Γ}(hn:l.most=some 63)(RW:d.params.defaults=[])(F:∀(w:World) (mg:qae) (fa:Addr) (h:Heap),(K w).In h->h.Ns mainGlobals mg->mg d.name=some (.ref fa) ->
    ∃fd:FuncData,(∀(s:Shared) (u:Value),BindsTo s fd ⟨[u],[]⟩ [("_law_script",u)])/\∀base:Heap,(K w).In base->base.Ns mainGlobals mg->cD l.prog w (K w) mg base eQ 12 fa fd qbd (cK (K w) 1 cQ.OY)) :
  PySem.W.WalkO q loose XP (λw h=>(K w).In h) l.row.toRowW d [] (λf vs=>PySem.call f vs):=by
 refine Att.xI hn RW λw s₀ s₁ mg mb fa o pm cd doc a vs ns G Y ho hd gm Xg RX hints hlen hg=>?_;obtain⟨fd,hb,hF⟩:=F w mg fa _ Y G.T.g Xg;exact G3 (CX:=eQ) (sp:=cK (K w) 1 cQ.OY) (k:=12) Y G.T.g G.T.b G.T.builtins G.T.nolimit hg RX hints (je hlen (by decide)) ⟨rfl,by decide,by decide⟩ hF hb (λH _ hS=>
  ⟨[.lst (ns.map .int)],[],[],λ_ r=>r=.vw (.bl true),LA,λ_ z=>(nomatch z),λ_ z=>(nomatch z),iX rfl (aA.cons (by
     simp only[At];refine⟨a,ns.map V.int,rfl,hS.imp (λz=>⟨z,λm=>nomatch m⟩) id,?_⟩;clear hS;clear hints hlen;induction ns with
     |nil=>exact aA.nil
     |cons n ns ih=>exact aA.cons bC ih) aA.nil),⟨ns,rfl,hlen,rfl⟩,λus r hr v H' _ z=>by
     subst hr;have:=z.1;simpa only[At] using this⟩) λ_ _ _ z=>z
end eO
open PySem PySem.W PyProof.Rows
set_option maxRecDepth 100000 in
set_option maxHeartbeats 0 in
theorem PySem.Challenge.cw_slicewise_k83_inputs_that_do_a_row_holds : PySem.Challenge.rw_slicewise_k83_inputs_that_do_a_row.Holds := by
 w_on
 refine PySem.W.holds_law eO.U_ λU_=>?_;refine PySem.W.holds_openX (q:=eO.qE) (loose:=eO.sD) (Xt:=HE.MJ eO.qE [] []) (XP:=PySem.W.XL eO.qE []) (d:=eO.dE) (kwd:=[]) (N:=6502) eO.hd.1 (λs e=>PySem.W.xl_of s (Bool.and_eq_true_iff.mp e).1) PySem.W.XL.keeps (by kernel_rfl) (by kernel_rfl) (by kernel_rfl) (λs e=>PySem.W.recFacts_of (Bool.and_eq_true_iff.mp e).2) (by kernel_rfl) U_ (by kernel_rfl) ⟨rfl,rfl,rfl,rfl,rfl,by decide +kernel⟩ ?hw ?hc
 (case hw=>w_witness2)
 exact HE.HR (eO.walk (l:=PySem.Challenge.rw_slicewise_k83_inputs_that_do_a_row) (K:=eO.KE) rfl rfl (λw mg fa h KX G Xg=>eO.U' KX G Xg (eO.hd.2 w)))
