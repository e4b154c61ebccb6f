import PyProof.Rows.All
import Wide.All
import OpenK.AllK
import Wide.FinOn
import Lean
import PyProof.EqAt
import PyProof.EqKinds
import PyProof.TupleCall
import PyProof.NeKinds
import PyProof.Rows.SumAny
import PyProof.StrBlockL
import PyProof.StrBlockI
import PyProof.FitsReplace
import PyProof.Rows.SeqMore
import PyProof.Rows.TupAdd
import PyProof.Draws
import PyProof.ZipIter
import OpenK.ZGo
import PyProof.ListNew
import PyProof.Rows.SortStr
import PyProof.Rows.SortWalk
import PyProof.IsRules
import KE.KDictLaws
import PyProof.DictWalks
import PyProof.WalkInts
import PyProof.Rows.SetFrom
import PyProof.SetRoads
import PyProof.DictItems
import PyProof.Rows.DictItemsRows
import KE.KPairComp
import PyProof.Rows.SortShellK
import PyProof.Rows.SortKeyStr
import PyProof.Rows.BitMore
import PyProof.Rows.SortRuns
import PyProof.Rows.SortPure
import PySem.Challenge.RW_slicewise_k23_tables_of_programs
set_option Elab.async false
set_option linter.all false
set_option genSizeOf false
set_option genSizeOfSpec false
set_option bootstrap.genMatcherCode false
set_option maxRecDepth 100000
set_option maxHeartbeats 8000000
abbrev ζ:=@PySem.wpAny_bind
abbrev η:=@if_neg
abbrev θ:=@PySem.wpAny_pure
abbrev ι:=@if_pos
abbrev μ:=@PyProof.Rows.wpS_bind
abbrev ν:=@decide_eq_true
abbrev ξ:=@PyProof.Rows.wpS_pure
abbrev π:=@decide_eq_false
abbrev ς:=@PySem.sizeLine_eq
abbrev υ:=@of_decide_eq_true
abbrev ψ:=@PySem.wpAny_call_entry
abbrev Γ:=@PySem.wpAny_callSpecial?_slot
abbrev Δ:=@PySem.wpAny_newObj_type
abbrev Θ:=@PySem.wpAny_setField_rec
abbrev Λ:=@PySem.wpAny_field
abbrev Ξ:=@PySem.wpAny_truthy_bool
abbrev Φ:=@PySem.wpAny_mono
abbrev rk:=@congrArg
abbrev v9:=@beq_eq_false_iff_ne
abbrev aaa:=@PySem.wpAny_typeNameOfWhole_itemiter
abbrev aab:=@PyProof.Rows.wpS_forRange
abbrev aac:=@PySem.wpAny_typeNameOfWhole_keyiter
abbrev aad:=@PySem.wpAny_holding
abbrev aae:=@PyProof.Rows.bitNot_nonneg
abbrev aaf:=@PySem.wpAny_seqItems
abbrev aag:=@or_false
abbrev aah:=@PySem.wpAny_typeNameOf_itemiter
abbrev aai:=@PySem.wpAny_passesOwn
abbrev aaj:=@PySem.wpAny_dictEntries
abbrev aak:=@PySem.wpAny_rule
abbrev aal:=@PySem.wpAny_getItem_str_slice
abbrev aam:=@getElem?_pos
abbrev aan:=@PyProof.Rows.wpS_modify
abbrev aao:=@PySem.wpAny_dictEpoch
abbrev aap:=@PySem.wpAny_attempt
abbrev aaq:=@PyProof.Rows.bitNot_bitNot
abbrev aar:=@PySem.wpAny_Call_Name_kw
abbrev aas:=@PySem.wpAny_setField
abbrev aat:=@PySem.wpAny_isOneOf_itemiter
abbrev aau:=@PyProof.Rows.wpS_mono
abbrev aav:=@if_true
abbrev aaw:=@if_false
abbrev aax:=@PySem.wpAny_updateSeq_pair
abbrev aay:=@PySem.wpAny_execs_nil
abbrev aaz:=@PySem.post_val_or_str
abbrev aaA:=@beq_iff_eq
abbrev aaB:=@PySem.typeIs_int
abbrev aaC:=@PySem.tupleKind_room_in1
abbrev aaD:=@PySem.wpAny_fieldsOf
abbrev aaE:=@decide_eq_true_eq
abbrev aaF:=@bne_self_eq_false
abbrev aaG:=@PySem.wpAny_onRaise
variable{w:PySem.World}{s s':PySem.Shared}{x y qual:PySem.Str}{n i j m lo t':Nat}{A:PySem.Around}{f C dx it:PySem.Addr}{e c iter l:PySem.Expr}{P prog:PySem.Program}{fd:PySem.FuncData}{α β:Type}{base h h':PySem.Heap}{p apos bG p2 pos' d9 tp:PySem.Pos}{u:PySem.Value}{O:HD}{o:PySem.Obj}{B:Prop}{sc:PySem.Scope}
abbrev HD:=List (Option PySem.Addr)
abbrev qaa:=List (PySem.Addr×PySem.Obj)
abbrev qad:=PySem.Value->PySem.Shared->Prop
abbrev qae:=PySem.Str->Option PySem.Value
abbrev zm:=PySem.W.Frag
abbrev qag:=List PySem.Value
abbrev Ω:=List PySem.Addr
abbrev ω:=List PySem.Str
abbrev qan:=List Int
abbrev qao:=List Nat
abbrev qap:=List PySem.Expr
abbrev qaq:=List PySem.Stmt
abbrev qar:=Option PySem.Addr
abbrev qav:List PySem.Str:=["program"]
abbrev qaw:List PySem.Str:=["self","program"]
abbrev qax:List PySem.Str:=["thing"]
abbrev qay:List PySem.Str:=["rows","row"]
abbrev qaz:List PySem.Str:=["self","names","cells"]
abbrev qaA:List PySem.Str:=["sets","rows","kind"]
abbrev qaB:List PySem.Str:=["layout","names","place"]
abbrev qaC:List PySem.Str:=["layout","sets","place"]
abbrev qaD:List PySem.Str:=["_law_script","_law_k"]
abbrev qaE:List PySem.Str:=["_law_cell","_law_many"]
abbrev qaF:List PySem.Str:=["_law_number","_law_words_here"]
abbrev qaG:List PySem.Str:=["_law_number","_law_name","_law_words_here","_law_later"]
abbrev qaH:List PySem.Str:=["_law_number","_law_words_here","_law_later"]
abbrev qaI:List PySem.Str:=["_law_rows","_law_stack","_law_cell","_law_words_here","_law_later"]
abbrev qaJ:List PySem.Str:=["_law_cell","_law_words_here"]
abbrev qaK:List PySem.Str:=["_law_cells","_law_words_here","_law_plan_here"]
abbrev qaL:List PySem.Str:=["_law_key_here"]
abbrev qaM:List PySem.Str:=["_law_program_here"]
abbrev qaN:List PySem.Str:=["_law_program_here","_law_home","_law_row"]
abbrev qaO:List PySem.Str:=["_law_names","_law_cells","_law_origin"]
abbrev qaP:List PySem.Str:=["_law_names","_law_goal"]
abbrev qaQ:List PySem.Str:=["_law_names","_law_cells","_law_move"]
abbrev qaR:List PySem.Str:=["_law_names","_law_cells"]
abbrev qaS:List PySem.Str:=["_law_names","_law_cells","_law_moves_here"]
abbrev qaT:List PySem.Str:=["_law_found","_law_due"]
abbrev qaU:List PySem.Str:=["_law_script"]
abbrev f7(x:PySem.Str):Prop:=(x==("__debug__":PySem.Str))=false
abbrev qd(x:PySem.Str):Prop:=(x==("__classdict__":PySem.Str))=false
abbrev dz:=@List.getElem?_eq_some_iff
abbrev bX:=@List.length_map
abbrev dR:=@PySem.Heap.get?_push_of_some
abbrev cc:=@Nat.le_refl
abbrev f_:=@List.mem_of_getElem?
abbrev dg:=@List.mem_cons
abbrev fB:=@List.mem_cons_self
abbrev gz:=@List.mem_cons_of_mem
abbrev jj:=@List.getElem?_eq_getElem
abbrev fD:=@List.getElem?_map
abbrev hX:=@List.mem_append_left
abbrev fE:=@List.not_mem_nil
abbrev iN:=@List.mem_append_right
abbrev mK:=@List.getElem?_append_left
abbrev hY:=@List.mem_singleton
abbrev iO:=@PySem.Heap.get?_push_size
abbrev gU:=@List.size_toArray
abbrev mM:=@PySem.F.slot_list_append
abbrev mO:=@PySem.F.type_list_append
abbrev gx:=@List.mem_append
abbrev p8:=@List.getElem?_append_right
abbrev ja:=@Bool.false_ne_true
abbrev eJ:=@PySem.Heap.lt_size
abbrev ij:=@Bool.and_eq_true
abbrev p9:=@Int.eq_ofNat_of_zero_le
abbrev lh:=@Int.toNat_natCast
abbrev jk:=@List.map_cons
abbrev nX:=@List.length_append
abbrev h_:=@Nat.zero_le
abbrev qS:=@List.filterMap_cons
abbrev sg:=@List.getElem?_set_ne
abbrev qe:=@Nat.lt_of_lt_of_le
abbrev jX:=@Nat.ne_of_lt
abbrev qT:=@Int.emod_lt_of_pos
abbrev nz:=@PySem.PassesOwn.never
abbrev jZ:=@List.mem_map
abbrev nY:=@List.nodup_cons
abbrev nA:=@PySem.boot_len
abbrev p_:=@List.map_append
abbrev ll:=@Nat.le_trans
abbrev qf:=@Int.emod_nonneg
abbrev z6:=@List.getElem?_set_self
abbrev ye:=@List.length_dropLast
abbrev DU:=@List.getLast?_eq_getElem?
abbrev DV:=@List.getElem?_replicate
abbrev z7:=@PySem.W.mg_none_of
abbrev BF:=@List.replicate_succ
abbrev yf:=@List.length_cons
abbrev z8:=@List.length_range
abbrev sr:=@List.map_map
abbrev yg:=@List.mem_range
abbrev DW:=@List.map_congr_left
abbrev BG:=@List.mem_flatMap
abbrev IQ:=@Option.map_eq_some_iff
abbrev BH:=@List.append_nil
abbrev yh:=@Bool.true_and
abbrev DA:=@Nat.lt_succ_self
abbrev Iw:=@Array.toList_append
abbrev IS:=@Array.getElem?_toList
abbrev DX:=@List.append_assoc
abbrev Mr:=@List.length_eq_zero_iff
abbrev DB:=@List.mem_filter
abbrev BI:=@List.any_cons
abbrev Ms:=@List.length_replicate
abbrev Mt:=@List.mem_iff_getElem?
abbrev RJ:=@PySem.F.slot_dict_keyiterator_next
abbrev DY:=@List.length_zip
abbrev DC:=@Nat.lt_irrefl
abbrev DZ:=@PySem.Heap.size_push
abbrev NZ:=@List.getElem?_dropLast
abbrev Mu:=@PySem.mem_of_lookup
abbrev Sr:=@PySem.F.slot_dict_itemiterator_next
abbrev IT:=@List.length_take
abbrev IU:=@List.lookup_cons
abbrev IV:=@List.all_eq_true
abbrev Iy:=@Bool.false_and
abbrev N0:=@Array.length_toList
abbrev RK:=@List.take_of_length_le
abbrev D0:=@Int.zero_add
abbrev Ss:=@Array.perm_iff_toList_perm
abbrev Mw:=@List.take_length
abbrev IW:=@List.nodup_nil
abbrev N4:=@List.zip_cons_cons
abbrev Su:=@List.mem_or_eq_of_mem_set
abbrev Sv:=@List.drop_eq_getElem_cons
abbrev Sw:=@Classical.byContradiction
abbrev Iz:=@Nat.ne_of_gt
abbrev RL:=@List.getLast?_concat
abbrev N5:=@Nat.lt_succ_of_lt
abbrev N6:=@List.foldl_append
abbrev N7:=@List.take_add_one
abbrev IX:=@PySem.Paired.length
abbrev Sx:=@List.getElem?_range
abbrev WR:=@PyProof.Rows.callWith_type1
abbrev RM:=@List.set_cons_succ
abbrev N8:=@PySem.W.kia_one
abbrev Sy:=@List.take_append_drop
abbrev Sz:=@List.getElem?_eq_none
abbrev SA:=@List.length_filter_le
abbrev WS:=@PySem.F.slot_tuple_iterator_next
abbrev Mx:=@PySem.W.mg_of
abbrev SE:=@List.mem_iff_getElem
abbrev SF:=@List.pairwise_append
abbrev RN:=@List.getElem_mem
abbrev My:=@Nat.min_self
abbrev RO:=@Option.bind_some
abbrev RP:=@List.any_eq_true
abbrev SH:=@PySem.Heap.SameBut.update
abbrev X5:=@PyProof.Rows.slot_tuple_getitem
abbrev WT:=@List.getElem?_cons_zero
abbrev WU:=@PySem.F.plainAttrs_list
abbrev WV:=@PySem.F.plainAttrs_dict
abbrev N9:=@Bool.false_or
abbrev RQ:=@List.foldl_cons
abbrev RS:=@List.range_succ
abbrev RT:=@List.find?_cons
abbrev SI:=@Bool.false_eq_true
abbrev Mz:=@Nat.le_succ
abbrev WW:=@PySem.Calls.callWith_builtin
abbrev SJ:=@List.flatten_cons
abbrev WX:=@Bool.beq_eq_decide_eq
abbrev IA:=@Prod.ext
abbrev SK:=@List.length_drop
abbrev WY:=@List.getElem?_mapIdx
abbrev WZ:=@List.dropLast_concat
abbrev W0:=@Array.toList_extract
abbrev X6:=@List.getD_eq_getElem?_getD
abbrev W2:=@List.length_pos_iff
abbrev SM:=@List.forIn_cons
abbrev X7:=@List.getElem?_zip_eq_some
abbrev X8:=@List.pairwise_iff_getElem
abbrev W3:=@List.mem_filterMap
abbrev X9:=@PySem.F.args_tuple_add_2
abbrev W4:=@List.filterMap_map
abbrev RU:=@List.map_nil
abbrev W5:=@PySem.Obj.data_mapFields
abbrev SN:=@Bool.and_false
abbrev X_:=@PySem.F.entry_tuple_add
abbrev W6:=@List.pairwise_map
abbrev X':=@PySem.F.slot_tuple_add
abbrev Ya:=@List.zipWith_cons_cons
abbrev W7:=@List.filter_cons
namespace L2
open PySem PySem.Spec PyProof.Rows
abbrev Key:=Sum Int Str
def qU:Key->Value->Bool
 |.inl k,v=>Value.isInt k v
 |.inr x,v=>Value.isStrOf x v
def Yb(w:World):Key->Int
 |.inl k=>hashInt k
 |.inr x=>hashStr w x
theorem bZ:∀{k:Key}{v:Value},qU k v=true->(∃i t,k=Sum.inl i/\v=Value.int i t)\/(∃x t,k=Sum.inr x/\v=Value.str x t)
 |.inl i,v,h=>by obtain⟨t,e⟩:=Value.isInt_shape h;exact .inl ⟨i,t,rfl,e⟩
 |.inr x,v,h=>by obtain⟨t,e⟩:=Value.isStrOf_shape h;exact .inr ⟨x,t,rfl,e⟩
def BJ(i:Int)(t:Tok):qU (.inl i) (.int i t)=true:=by simp[qU,Value.isInt]
def BK(x:Str)(t:Tok):qU (.inr x) (.str x t)=true:=by simp[qU,Value.isStrOf]
def N_(a b:Int):decide ((Sum.inl a:Key)=Sum.inl b)=(a==b):=by by_cases e:a=b;subst e;simp;have h:¬ (Sum.inl a:Key)=Sum.inl b:=λq=>e (Sum.inl.inj q);rw[π h];exact (v9.mpr e).symm
def N'(a b:Str):decide ((Sum.inr a:Key)=Sum.inr b)=decide (a=b):=by by_cases e:a=b;subst e;simp;have h:¬ (Sum.inr a:Key)=Sum.inr b:=λq=>e (Sum.inr.inj q);rw[π h,π e]
def Oa(a:Int)(b:Str):decide ((Sum.inl a:Key)=Sum.inr b)=false:=π (λq=>nomatch q)
def Ob(a:Str)(b:Int):decide ((Sum.inr a:Key)=Sum.inl b)=false:=π (λq=>nomatch q)
noncomputable def bQ(prog:Program)(w:World):PySem.KeyKind prog w Key where
 is:=qU
 hash:=Yb w
 inj:=λv a b ha hb=>by
  rcases bZ ha with⟨i,t,rfl,rfl⟩|⟨x,t,rfl,rfl⟩
  rcases bZ hb with⟨j,u,rfl,e⟩|⟨y,u,rfl,e⟩
  injection e with e1 _;rw[e1]
  exact nomatch e;rcases bZ hb with⟨j,u,rfl,e⟩|⟨y,u,rfl,e⟩
  exact nomatch e;injection e with e1 _;rw[e1]
 byValue:=λk v h=>by rcases bZ h with⟨i,t,rfl,rfl⟩|⟨x,t,rfl,rfl⟩<;>rfl
 pyHash:=λhv h=>by
  rcases bZ hv with⟨i,t,rfl,rfl⟩|⟨x,t,rfl,rfl⟩
  exact wpAny_pyHash_int h;exact wpAny_pyHash_str h
 eqBool:=λhu hv h=>by
  rcases bZ hu with⟨i,t,rfl,rfl⟩|⟨x,t,rfl,rfl⟩
  rcases bZ hv with⟨j,u,rfl,rfl⟩|⟨y,u,rfl,rfl⟩
  rw[N_] at h;exact wpAny_eqBool_int h;rw[Oa] at h;exact SeqAt.EqAt.int_str i t y u _ _ _ _ h;rcases bZ hv with⟨j,u,rfl,rfl⟩|⟨y,u,rfl,rfl⟩
  rw[Ob] at h;exact SeqAt.EqAt.str_int x t j u _ _ _ _ h;rw[N'] at h;exact wpAny_eqBool_str h
 «strs»:=λk x t v h=>by
  rcases bZ h with⟨i,u,rfl,e⟩|⟨y,u,rfl,e⟩
  exact nomatch e;injection e with e1 _
  subst e1;cases v<;>rfl
def vG(prog:Program)(w:World)(i:Int)(t:Tok):(bQ prog w).is (.inl i) (.int i t)=true:=BJ i t
def vH(prog:Program)(w:World)(x:Str)(t:Tok):(bQ prog w).is (.inr x) (.str x t)=true:=BK x t
inductive V where
 |bB|bl (b:Bool)|int (i:Int)|str (x:Str)|Yc (b:Array UInt8)|Yd (b:UInt64)|ref (a:Addr)|ty (n:String)
 deriving DecidableEq
def RelV:V->Value->Prop
 |.bB,u=>u=Value.none
 |.bl b,u=>u=Value.bool b
 |.int i,u=>∃t,u=Value.int i t
 |.str x,u=>∃t,u=Value.str x t
 |.Yc b,u=>∃t,u=Value.bytes b t
 |.Yd b,u=>∃t,u=Value.float b t
 |.ref a,u=>u=Value.ref a
 |.ty n,u=>u=Value.type n
abbrev Vals:List V->qag->Prop:=Paired RelV
def Vals.length{xs:List V}{us:qag}(r:Vals xs us):xs.length=us.length:=IX r
theorem Vals.get:∀{xs:List V}{us:qag}{i:Nat}{x:V},Vals xs us->xs[i]?=some x->∃u,us[i]?=some u/\RelV x u
 |_,_,_,_,.nil,e=>by simp at e
 |_,_,0,_,.cons r _,e=>by simp at e;subst e;exact⟨_,rfl,r⟩
 |_,_,i+1,x,.cons _ t,e=>by obtain⟨u,h1,h2⟩:=Vals.get t (by simpa using e);exact⟨u,by simpa using h1,h2⟩
theorem Vals.set{x:V}{u:Value}(r:RelV x u):∀{xs:List V}{us:qag}(i:Nat),Vals xs us->Vals (xs.set i x) (us.set i u)
 |_,_,_,.nil=>.nil
 |_,_,0,.cons _ t=>.cons r t
 |_,_,i+1,.cons q t=>.cons q (Vals.set r i t)
theorem Vals.append:∀{xs ys:List V}{us ws:qag},Vals xs us->Vals ys ws->Vals (xs++ys) (us++ws)
 |_,_,_,_,.nil,s=>s
 |_,_,_,_,.cons r t,s=>.cons r (Vals.append t s)
theorem Vals.take:∀{xs:List V}{us:qag}(n:Nat),Vals xs us->Vals (xs.take n) (us.take n)
 |_,_,0,_=>.nil
 |_,_,_+1,.nil=>.nil
 |_,_,n+1,.cons r t=>.cons r (Vals.take n t)
theorem Vals.drop:∀{xs:List V}{us:qag}(n:Nat),Vals xs us->Vals (xs.drop n) (us.drop n)
 |_,_,0,r=>r
 |_,_,_+1,.nil=>.nil
 |_,_,n+1,.cons _ t=>Vals.drop n t
def j1:Option V->Option Value->Prop
 |some v,some u=>RelV v u
 |none,none=>True
 |_,_=>False
def KV{κ:Type}:List (κ×V)->List (κ×Value)->Prop:=Paired λ(p:κ×V) (q:κ×Value)=>p.1=q.1/\RelV p.2 q.2
noncomputable def kV:Key->V
 |.inl i=>.int i
 |.inr x=>.str x
inductive HO where
 |lst (xs:List V)
 |tup (xs:List V)
 |dK (aV:List (Key×V))|dT (aV:List (List Key×V))
 |set (S:Int->Bool) (n:Nat)
 |ins (C dx:Addr) (fs:List (Str×V))
 |own (x:Addr)
 |xd (fs:List (Str×V))
 |met (f x:Addr)
 |Ye (lo hi:Int)
 |fF (o:Obj) (u:HO)
 |Oc (ps:Array Value)
 |ext (φ:Heap->Prop)
abbrev Hp:=Addr->Option HO
def upd(H:Hp)(a:Addr)(o:HO):Hp:=λb=>if b=a then some o else H b
def aA{H:Hp}{a:Addr}{o:HO}:upd H a o a=some o:=by unfold upd;rw[ι rfl]
def ar{H:Hp}{a b:Addr}{o:HO}(h:b≠a):upd H a o b=H b:=by unfold upd;rw[η h]
def D1{H:Hp}{a b:Addr}{o u:HO}(h:H a=some o)(h':H b=some u)(d:o≠u):a≠b:=by intro e;subst e;rw[h] at h';exact d (Option.some.inj h')
def bt{H:Hp}{a b:Addr}{o:HO}(h:H a=some o)(h':H b=none):a≠b:=by intro e;subst e;rw[h] at h';cases h'
section
variable(P:Program)(w:World)
def bH(H:Hp)(h:Heap)(a:Addr):HO->Prop
 |.lst xs=>xs.length<=sizeLine/\∃(aT:qag)(n:Nat),Vals xs aT/\h.get? a=some {cls:=.type "list",data:=.seq aT.toArray n}
 |.tup xs=>xs.length<=sizeLine/\∃aT:qag,Vals xs aT/\IsTup h a aT.toArray
 |.dK aV=>aV.length<=sizeLine/\(a==sysModules)=false/\∃vs,KV aV vs/\h.DictOf (bQ P w) a vs
 |.dT aV=>aV.length<=sizeLine/\(a==sysModules)=false/\∃xs:List (List Key×Addr×Value),
  Paired (λ(p:List Key×V) (q:List Key×Addr×Value)=>p.1=q.1/\H q.2.1=some (.tup (p.1.map kV))/\RelV p.2 q.2.2) aV xs /\
  ∃o es ep,h.get? a=some o/\o.ExactDict/\o.data=.dict es ep/\es.toList=xs.map (entryOfKey (tupleKind (bQ P w)))/\(xs.map (·.1)).Nodup
 |.set S n=>h.SetOf (intKind P w) a S n
 |.ins C dx fs=>H dx=some (.own a)/\fs.length<=1000/\dx≠a/\h.get? a=some (W.instObj C dx) /\
  ∃mA,h.Ns1 dx mA/\(∀f,j1 (fs.lookup f) (mA f))/\PySem.Within mA (fs.map (·.1))
 |.own _=>∃o,h.get? a=some o
 |.xd fs=>∃mA,h.Ns1 a mA/\∀f,j1 (fs.lookup f) (mA f)
 |.Ye lo hi=>∃t u v,h.get? a=some {cls:=.type "range",data:=.fields #[.int lo t,.int hi u,.int 1 v]}
 |.fF o u=>h.get? a=some o/\bH H h a u
 |.Oc ps=>h.get? a=some {cls:=.none,data:=.fields ps}
 |.met f x=>h.get? a=some (W.methodObj (.ref f) (.ref x))
 |.ext φ=>φ h/\(∃o,h.get? a=some o)/\∀h1 h2:Heap,φ h1->(∀o,h1.get? a=some o->h2.get? a=some o)->φ h2
def jb(H:Hp)(h:Heap):Prop:=∀a o,H a=some o->bH P w H h a o
end
section
variable{H H':Hp}{a:Addr}{o:HO}
def bH.lt(x:bH P w H h a o):a<h.objs.size:=by
 cases o with
 |lst xs=>obtain⟨_,_,_,_,e⟩:=x;exact eJ e
 |tup xs=>obtain⟨_,_,_,p⟩:=x;exact p.lt
 |dK aV=>obtain⟨_,_,_,_,o,_,_,e,_⟩:=x;exact eJ e
 |dT aV=>obtain⟨_,_,_,_,o,_,_,e,_⟩:=x;exact eJ e
 |set S n=>obtain⟨o,_,_,_,e,_⟩:=x;exact eJ e
 |ins C dx fs=>obtain⟨_,_,_,e,_⟩:=x;exact eJ e
 |own y=>obtain⟨_,e⟩:=x;exact eJ e
 |xd fs=>obtain⟨_,⟨_,_,_,e,_⟩,_⟩:=x;exact eJ e
 |Ye lo hi=>obtain⟨_,_,_,e⟩:=x;exact eJ e
 |fF ob u=>obtain⟨e,_⟩:=x;exact eJ e
 |Oc ps=>exact eJ (show h.get? a=some _ from x)
 |met f y=>exact eJ (show h.get? a=some _ from x)
 |ext φ=>obtain⟨_,⟨_,e⟩,_⟩:=x;exact eJ e
theorem Paired.j3{α β:Type}{F G:α->β->Prop}:∀{l₁:List α}{l₂:List β},Paired F l₁ l₂->(∀a b,F a b->G a b)->Paired G l₁ l₂
 |_,_,.nil,_=>.nil
 |_,_,.cons r t,f=>.cons (f _ _ r) (Paired.j3 t f)
def bH.vI(x:bH P w H h a o)(k:∀b u,(b=a\/H b=some (.own a))->h.get? b=some u->h'.get? b=some u)(ho:∀b,H b=some (.own a)->H' b=some (.own a))(ht:∀b xs,H b=some (.tup xs)->H' b=some (.tup xs)):bH P w H' h' a o:=by
 induction o with
 |lst xs=>obtain⟨z,aT,n,r,e⟩:=x;exact⟨z,aT,n,r,k _ _ (.inl rfl) e⟩
 |tup xs=>obtain⟨z,aT,r,ob,e,c⟩:=x;exact⟨z,aT,r,ob,k _ _ (.inl rfl) e,c⟩
 |dK aV=>obtain⟨z,y,vs,r,ob,es,ep,e,c⟩:=x;exact⟨z,y,vs,r,ob,es,ep,k _ _ (.inl rfl) e,c⟩
 |dT aV=>obtain⟨z,y,xs,r,ob,es,ep,e,c⟩:=x;exact⟨z,y,xs,Paired.j3 r λp q z=>⟨z.1,ht _ _ z.2.1,z.2.2⟩,ob,es,ep,k _ _ (.inl rfl) e,c⟩
 |set S n=>obtain⟨ob,es,ep,t,e,c⟩:=x;exact⟨ob,es,ep,t,k _ _ (.inl rfl) e,c⟩
 |ins C dx fs=>obtain⟨d,z,ne,e,mA,⟨od,es,ep,e2,c⟩,r⟩:=x;exact⟨ho _ d,z,ne,k _ _ (.inl rfl) e,mA,⟨od,es,ep,k _ _ (.inr d) e2,c⟩,r⟩
 |own y=>obtain⟨ob,e⟩:=x;exact⟨ob,k _ _ (.inl rfl) e⟩
 |xd fs=>obtain⟨mA,⟨od,es,ep,e,c⟩,r⟩:=x;exact⟨mA,⟨od,es,ep,k _ _ (.inl rfl) e,c⟩,r⟩
 |Ye lo hi=>obtain⟨t,u,v,e⟩:=x;exact⟨t,u,v,k _ _ (.inl rfl) e⟩
 |fF ob u ih=>obtain⟨e,q⟩:=x;exact⟨k _ _ (.inl rfl) e,ih q⟩
 |Oc ps=>have e:=x;exact k a _ (.inl rfl) e
 |met f y=>have e:=x;exact k a _ (.inl rfl) e
 |ext φ=>obtain⟨p,⟨o,e⟩,st⟩:=x;exact⟨st _ _ p λo q=>k _ _ (.inl rfl) q,⟨o,k _ _ (.inl rfl) e⟩,st⟩
def jb.lt(x:jb P w H h)(e:H a=some o):a<h.objs.size:=(x a o e).lt
def jb.fresh(x:jb P w H h)(e:h.objs.size<=a):H a=none:=by
 cases q:H a with
 |none=>rfl
 |some u=>exact absurd (qe (x.lt q) e) (DC _)
def jb.kept(x:jb P w H h)(k:∀b u,h.get? b=some u->h'.get? b=some u):jb P w H h':=λa o e=>
 (x a o e).vI (λb u _ q=>k b u q) (λ_ q=>q) λ_ _ q=>q
def jb.laid(x:jb P w H h)(k:∀b u,h.get? b=some u->h'.get? b=some u)(hp:h.objs.size<=a)(new:bH P w (upd H a o) h' a o):jb P w (upd H a o) h':=λb u e=>by have hn:=x.fresh hp;by_cases hb:b=a;subst hb;rw[aA] at e;cases e;exact new;rw[ar hb] at e;exact (x b u e).vI (λc v _ q=>k c v q) (λc q=>by rw[ar (bt q hn)];exact q) λc xs q=>by rw[ar (bt q hn)];exact q
end
def Rd(H:Hp)(a:Addr)(u:HO):Prop:=H a=some u\/∃o,H a=some (.fF o u)
def Rd.ok{H:Hp}{a:Addr}{u:HO}(r:Rd H a u)(x:jb P w H h):bH P w H h a u:=by
 obtain r|⟨o,r⟩:=r
 exact x a u r;obtain⟨_,q⟩:=x a _ r;exact q
def SQ:Option HO->Prop
 |some (.lst _)=>True
 |some (.dK _)=>True
 |some (.dT _)=>True
 |some (.set _ _)=>True
 |some (.ins _ _ _)=>True
 |some (.ext _)=>True
 |_=>False
section
variable{H:Hp}{x e:Addr}{o':HO}
def jb.write(ok:jb P w H h)(mu:SQ (H x))(he:e=x\/H e=some (.own x))(k:∀b u,b≠e->h.get? b=some u->h'.get? b=some u)(MA:∃u,h'.get? e=some u)(new:bH P w (upd H x o') h' x o'):jb P w (upd H x o') h':=λb u q=>by
 have SR:∀c y,H c=some (.own y)->c≠x:=λc y r z=>by subst z;rw[r] at mu;exact mu
 have Oe:∀c xs,H c=some (.tup xs)->c≠x:=λc xs r z=>by subst z;rw[r] at mu;exact mu
 by_cases hb:b=x;subst hb;rw[aA] at q;cases q;exact new;rw[ar hb] at q;by_cases DE:b=e;have q':H b=some (.own x):=by
  obtain z|z:=he
  exact absurd (DE.trans z) hb;rw[DE];exact z
 rw[q] at q';cases q';obtain⟨v,hv⟩:=MA;exact⟨v,by rw[DE];exact hv⟩;refine (ok b u q).vI (λc v hc r=>k c v ?_ r) (λc r=>by rw[ar (SR c b r)];exact r) λc xs r=>by rw[ar (Oe c xs r)];exact r
 obtain rfl|hc:=hc
 exact DE;rintro rfl;obtain z|z:=he
 exact SR c b hc z;rw[hc] at z;cases z;exact hb rfl
end
structure Un(fs ex:Ω)(H H':Hp)(h h':Heap):Prop where
 keep:∀b o,h.get? b=some o->H b=none->b∉fs->b∉ex->h'.get? b=some o
 slot:∀b o,h.get? b=some o->H b=none->b∈fs->b∉ex->∃sl,h'.get? b=some {o with slots:=sl}
 free:∀b o,h.get? b=some o->H b=none->b∉ex->H' b=none
 there:∀b o,h.get? b=some o->b∉ex->∃o',h'.get? b=some o'
 su:∀b xs,H b=some (.tup xs)->H' b=some (.tup xs)
 nZ:∀b o u,H b=some (.fF o u)->H' b=some (.fF o u)
 sx:∀b ps,H b=some (.Oc ps)->∃more,H' b=some (.Oc (ps++more))
section
variable{fs Yf ex Yg:Ω}{H H1 H2:Hp}{h1 h2:Heap}{a x e:Addr}{o:HO}
def Un.any(u:Un fs ex H H1 h h1){b:Addr}{ob:Obj}(q:h.get? b=some ob)(n:H b=none)(hx:b∉ex):∃sl,h1.get? b=some {ob with slots:=sl}:=by by_cases hb:b∈fs;exact u.slot b ob q n hb hx;exact⟨ob.slots,u.keep b ob q n hb hx⟩
def Un.kept(k:∀b u,h.get? b=some u->h'.get? b=some u):Un fs ex H H h h' :=
 ⟨λb ob q _ _ _=>k b ob q,λb ob q _ _ _=>⟨ob.slots,k b ob q⟩,λ_ _ _ n _=>n,λb ob q _=>⟨ob,k b ob q⟩,λ_ _ q=>q,λ_ _ _ q=>q,λ_ ps q=>⟨#[],by rw[q];simp⟩⟩
def Un.refl:Un fs ex H H h h:=Un.kept λ_ _ q=>q
def Un.laid(k:∀b u,h.get? b=some u->h'.get? b=some u)(hp:h.objs.size<=a)(hn:H a=none):Un fs ex H (upd H a o) h h' where
 keep:=λb u q _ _ _=>k b u q
 slot:=λb u q _ _ _=>⟨u.slots,k b u q⟩
 free:=λb u q n _=>by rw[ar (jX (qe (eJ q) hp))];exact n
 there:=λb u q _=>⟨u,k b u q⟩
 su:=λb xs q=>by rw[ar (bt q hn)];exact q
 nZ:=λb u xs q=>by rw[ar (bt q hn)];exact q
 sx:=λb ps q=>⟨#[],by rw[ar (bt q hn),q];simp⟩
def Un.write(mu:SQ (H x))(he:e=x\/H e=some (.own x))(k:∀b u,b≠e->h.get? b=some u->h'.get? b=some u)(MA:∃u,h'.get? e=some u):Un fs ex H (upd H x o) h h':=by
 have hx:∀b,H b=none->b≠x:=λb n z=>by subst z;rw[n] at mu;exact mu
 have hb:∀b,H b=none->b≠e:=λb n z=>by
  subst z;obtain r|r:=he
  exact hx b n r;rw[n] at r;cases r
 have hm:∀b u,H b=some u->¬ SQ (some u)->b≠x:=λb u q nm z=>by subst z;rw[q] at mu;exact nm mu
 refine⟨λb u q n _ _=>k b u (hb b n) q,λb u q n _ _=>⟨u.slots,k b u (hb b n) q⟩,λb u q n _=>by rw[ar (hx b n)];exact n,λb u q _=>?_,
  λb xs q=>by rw[ar (hm b _ q λz=>z)];exact q,λb u xs q=>by rw[ar (hm b _ q λz=>z)];exact q,λb ps q=>⟨#[],by rw[ar (hm b _ q λz=>z),q];simp⟩⟩
 by_cases DE:b=e;subst DE;exact MA;exact⟨u,k b u DE q⟩
end
def W8(h:Heap)(H:Hp):Ω:=(List.range h.objs.size).filter λa=>(H a).isSome
def vJ(h:Heap)(H:Hp):Heap:=W.hideAll h (W8 h H)
def BL(h:Heap)(H:Hp):(vJ h H).objs.size=h.objs.size:=W.hideAll_size _ _
def D2{H:Hp}{b:Addr}(e:h.get? b=some o)(n:H b=none):(vJ h H).get? b=some o :=
 W.hideAll_get _ e λhm=>by have q:=(DB.mp hm).2;rw[n] at q;simp at q
def IY{H:Hp}{b:Addr}(e:(vJ h H).get? b=some o):h.get? b=some o/\H b=none:=by
 have e':=W.of_hideAll (W8 h H) e;refine⟨e',?_⟩;cases q:H b with
 |none=>rfl
 |some x=>have hm:b∈W8 h H:=DB.mpr ⟨yg.mpr (eJ e'),by simp[q]⟩;have z:(vJ h H).get? b=none:=W.hideAll_none (W8 h H) hm;rw[z] at e;cases e
structure Mod(K:zm)(mg:qae)(base:Heap):Prop where
 W9:K.In base
 glob:base.Ns mainGlobals mg
 blt:∃mb,base.Ns builtinsNs mb/\∀x:Str,x≠"__name__"->mb x=bootBuiltins x
 nolimit:base.NoLimit
structure Cx where
 prog:Program
 w:World
 K:zm
 mg:qae
 base:Heap
 A:Around
 N:ω
 s₀:Shared
 H₀:Hp
 env:Env
 outer:List Env
 stack:List Env
 ex:Ω
 fn:Str->Bool
 calm:Bool
 pn:qaa
 xe:qad
def DF(l:List Env):Ω:=l.filterMap (·.frame)
abbrev Cx.fs(X:Cx):Ω:=DF X.outer
def mP(sc:Scope)(x:Str):Prop:=sc.names.lookup x=some .local\/sc.names.lookup x=some .cell\/sc.names.lookup x=some .free
def Loc(sc:Scope)(x:Str):Prop:=sc.names.lookup x=some .local\/sc.names.lookup x=some .cell
def Look(env:Env)(h:Heap)(m:qae)(x:Str)(u:Value):Prop :=
 (env.kindOf x=some .local/\m x=some u)\/((env.kindOf x=some .cell\/env.kindOf x=some .free)/\∃c,env.cells.lookup x=some c/\h.IsCell c (some u))
structure Cx.Ok(X:Cx):Prop where
 mod:Mod X.K X.mg X.base
 kind:X.env.scope.kind=.function
 glob:X.env.globals=mainGlobals
 blt:X.env.builtins=builtinsNs
 above:X.s₀.heap.objs.size<=X.env.locals
 inj:∀x y c,X.env.cells.lookup x=some c->X.env.cells.lookup y=some c->x=y
 has:∀x,(X.env.kindOf x=some .cell\/X.env.kindOf x=some .free)->∃c,X.env.cells.lookup x=some c
 SS:∀x c,X.fn x=true->X.env.cells.lookup x=some c->X.s₀.heap.objs.size<=c
 hd:X.calm=true->X.A.handled=none
 frames:X.A.frames=some X.stack
 W_:X.stack=X.outer\/(X.stack=X.env::X.outer/\X.env.frame=some X.env.locals)
 exf:∀b∈X.ex,b≠X.env.locals/\∀x c,X.env.cells.lookup x=some c->c≠b
 bs:∀b o,X.base.get? b=some o->X.s₀.heap.get? b=some o/\X.H₀ b=none
 IZ:X.base.objs.size<=X.s₀.heap.objs.size
 D3:∀b o,X.base.get? b=some o->b∉X.ex
 I8:∀b∈X.ex,b∉X.fs
 m5:X.s₀.heap.FunFrames X.base X.outer
 Of:∀b∈X.fs,X.H₀ b=none
structure Inv(X:Cx)(ε:qaa)(σ:List (Option V))(H:Hp)(s:Shared):Prop where
 ok:X.Ok
 os:s.os=X.s₀.os
 bare:AllBare s.gens
 base:Un X.fs X.ex X.H₀ H X.s₀.heap s.heap
 loc:∃m,s.heap.Ns X.env.locals m/\∀(i:Nat)(x:Str)(v:V),X.N[i]?=some x->σ[i]?=some (some v)->mP X.env.scope x->∃u,RelV v u/\Look X.env s.heap m x u
 cell:∀x c,X.env.cells.lookup x=some c->∃v,s.heap.IsCell c v
 free:H X.env.locals=none
 gc:∀x c,X.env.cells.lookup x=some c->H c=none
 pin:∀p∈X.pn++ε,s.heap.get? p.1=some p.2/\H p.1=none/\p.1≠X.env.locals/\p.1∉X.fs/\∀v,p.2.data≠.cell v
 bF:jb X.prog X.w H s.heap
 len:σ.length=X.N.length
section
variable{X:Cx}{ε:qaa}{σ:List (Option V)}{H H':Hp}
def Cx.Ok.Yh(ok:X.Ok){b:Addr}(e:X.base.get? b=some o):b∉X.fs:=λhb=>by have:=(ok.m5.mem hb).1;rw[e] at this;cases this
def Inv.bs(I:Inv X ε σ H s):∀b o,X.base.get? b=some o->s.heap.get? b=some o/\H b=none:=λb o e=>
 ⟨I.base.keep b o (I.ok.bs b o e).1 (I.ok.bs b o e).2 (I.ok.Yh e) (I.ok.D3 b o e),I.base.free b o (I.ok.bs b o e).1 (I.ok.bs b o e).2 (I.ok.D3 b o e)⟩
def Inv.bk(I:Inv X ε σ H s):∀b o,X.base.get? b=some o->s.heap.get? b=some o:=λb o e=>(I.bs b o e).1
def Inv.mod(I:Inv X ε σ H s):Mod X.K X.mg X.base:=I.ok.mod
def Inv.vt(I:Inv X ε σ H s):X.K.In s.heap:=I.ok.mod.W9.keeps I.bk
def Inv.lt(I:Inv X ε σ H s):X.env.locals<s.heap.objs.size:=let ⟨_,hn,_⟩:=I.loc;hn.lt
def Inv.sz(I:Inv X ε σ H s):X.s₀.heap.objs.size<=s.heap.objs.size:=ll I.ok.above (Nat.le_of_lt I.lt)
def Inv.Yi(I:Inv X ε σ H s){a:Addr}(h:s.heap.objs.size<=a):a∉X.fs:=λhb=>by obtain⟨_,o,ho,_⟩:=I.ok.m5.mem hb;exact absurd (qe (eJ ho) (ll I.sz h)) (DC _)
def Inv.I9(I:Inv X ε σ H s):∀x c,X.env.cells.lookup x=some c->c≠X.env.locals:=λx c e z=>by obtain⟨v,o,ho,hd⟩:=I.cell x c e;obtain⟨m,⟨o',es,ep,n5,Yj,_⟩,_⟩:=I.loc;rw[z,n5] at ho;cases ho;rw[Yj] at hd;cases hd
def Inv.m5(I:Inv X ε σ H s):s.heap.FunFrames X.base X.outer:=by
 have all:∀l,(∀b∈DF l,b∈X.fs)->X.s₀.heap.FunFrames X.base l->s.heap.FunFrames X.base l:=by
  intro l;induction l with
  |nil=>intro _ _;trivial
  |cons env r ih=>intro hs hl;obtain⟨hk,⟨L,o,hf,hn,ho,hd⟩,hr⟩:=hl;have hL:=hs L (by unfold DF;rw[qS,hf];exact fB);obtain⟨sl,e⟩:=I.base.slot L o ho (I.ok.Of L hL) hL λz=>I.ok.I8 L z hL;exact⟨hk,⟨L,_,hf,hn,e,hd⟩,ih (λb hb=>hs b (by unfold DF;rw[qS,hf];exact gz _ hb)) hr⟩
 exact all X.outer (λ_ hb=>hb) I.ok.m5
def Inv.stack(I:Inv X ε σ H s):s.heap.FunFrames X.base X.stack:=by
 obtain e|⟨e,hf⟩:=I.ok.W_
 rw[e];exact I.m5;rw[e];obtain⟨m,hn,_⟩:=I.loc;exact .cons (by rw[I.ok.kind];decide) hf hn (Heap.get?_none_of_le (ll I.ok.IZ I.ok.above)) I.m5
def Inv.yi(I:Inv X ε σ H s):∀b∈DF X.stack,b∈X.env.locals::X.fs:=λb hb=>by
 obtain e|⟨e,hf⟩:=I.ok.W_
 rw[e] at hb;exact gz _ hb;rw[e] at hb;unfold DF at hb;rw[qS,hf] at hb;exact hb
def Inv.z9(I:Inv X ε σ H s):∀b∈DF X.stack,H b=none:=λb hb=>by
 rcases dg.mp (I.yi b hb) with e|hb
 rw[e];exact I.free;obtain⟨_,o,ho,_⟩:=I.ok.m5.mem hb;exact I.base.free b o ho (I.ok.Of b hb) λz=>I.ok.I8 b z hb
def Inv.step{g':Array GenState}{d':Drawn}{ch:Ω}(I:Inv X ε σ H s)(IB:∀b∈ch,(b∈X.ex\/X.s₀.heap.objs.size<=b)/\b≠X.env.locals/\(∀x c,X.env.cells.lookup x=some c->c≠b)/\∀p∈X.pn++ε,p.1≠b)(keep:∀b o,b≠X.env.locals->b∉X.fs->b∉ch->s.heap.get? b=some o->H b=none->h'.get? b=some o)(slot:∀b o,b≠X.env.locals->b∈X.fs->b∉ch->s.heap.get? b=some o->H b=none->∃sl,h'.get? b=some {o with slots:=sl})(free:∀b o,b∉ch->s.heap.get? b=some o->H b=none->H' b=none)(there:∀b o,b∉ch->s.heap.get? b=some o->∃o',h'.get? b=some o')(su:∀b xs,H b=some (.tup xs)->H' b=some (.tup xs))(nZ:∀b o u,H b=some (.fF o u)->H' b=some (.fF o u))(sx:∀b ps,H b=some (.Oc ps)->∃more,H' b=some (.Oc (ps++more)))(ns:∀m,s.heap.Ns X.env.locals m->h'.Ns X.env.locals m)(bF:jb X.prog X.w H' h')(hg:AllBare g') :
  Inv X ε σ H' {s with heap:=h',gens:=g',drawn:=d',toks:=t'}:=by
 have neL:∀b o,X.s₀.heap.get? b=some o->b≠X.env.locals:=λb o e=>jX (qe (eJ e) I.ok.above);have W':∀b o,X.s₀.heap.get? b=some o->b∉X.ex->b∉ch:=λb o e hx hb=>by
  rcases (IB b hb).1 with z|z
  exact hx z;exact absurd (qe (eJ e) z) (DC _)
 have cellK:∀x c,X.env.cells.lookup x=some c->∀v,s.heap.IsCell c v->h'.IsCell c v:=λx c e v ⟨o,ho,hd⟩=>by have D4:=λz=>(IB c z).2.2.1 x c e rfl;by_cases hc:c∈X.fs;obtain⟨sl,q⟩:=slot c o (I.I9 x c e) hc D4 ho (I.gc x c e);exact⟨_,q,hd⟩;exact⟨o,keep c o (I.I9 x c e) hc D4 ho (I.gc x c e),hd⟩
 refine⟨I.ok,I.os,hg,⟨λb o e n hb hx=>?_,λb o e n hb hx=>?_,λb o e n hx=>?_,λb o e hx=>?_,λb xs e=>su b xs (I.base.su b xs e),λb o xs e=>nZ b o xs (I.base.nZ b o xs e),λb ps e=>?_⟩,?_,λx c e=>?_,?_,λx c e=>?_,λp hp=>?_,bF,I.len⟩;exact keep b o (neL b o e) hb (W' b o e hx) (I.base.keep b o e n hb hx) (I.base.free b o e n hx);obtain⟨sl,e1⟩:=I.base.slot b o e n hb hx;obtain⟨sl',e2⟩:=slot b _ (neL b o e) hb (W' b o e hx) e1 (I.base.free b o e n hx);exact⟨sl',e2⟩;obtain⟨o',e1⟩:=I.base.there b o e hx;exact free b o' (W' b o e hx) e1 (I.base.free b o e n hx);obtain⟨o',e1⟩:=I.base.there b o e hx;exact there b o' (W' b o e hx) e1;obtain⟨m1,e1⟩:=I.base.sx b ps e;obtain⟨m2,e2⟩:=sx b _ e1;exact⟨m1++m2,by rw[e2,Array.append_assoc]⟩;obtain⟨m,hn,hl⟩:=I.loc;refine⟨m,ns m hn,λi x v e1 e2 e3=>?_⟩;obtain⟨u,r,l⟩:=hl i x v e1 e2 e3;refine⟨u,r,?_⟩;obtain l|⟨k,c,e,z⟩:=l
 exact .inl l;exact .inr ⟨k,c,e,cellK x c e _ z⟩;obtain⟨v,z⟩:=I.cell x c e;exact⟨v,cellK x c e v z⟩;obtain⟨m,⟨o,_,_,ho,_⟩,_⟩:=I.loc;exact free _ o (λz=>(IB _ z).2.1 rfl) ho I.free;obtain⟨v,o,ho,hd⟩:=I.cell x c e;exact free c o (λz=>(IB c z).2.2.1 x c e rfl) ho (I.gc x c e);obtain⟨e,n,ne,nf,d⟩:=I.pin p hp;have D4:=λz=>(IB p.1 z).2.2.2 p hp rfl;exact⟨keep p.1 p.2 ne nf D4 e n,free p.1 p.2 D4 e n,ne,nf,d⟩
def Inv.un(I:Inv X ε σ H s)(u:Un X.fs [] H H' s.heap h')(bF:jb X.prog X.w H' h'):Inv X ε σ H' {s with heap:=h',toks:=t'}:=by
 obtain⟨m,⟨o,es,ep,ho,r⟩,_⟩:=id I.loc;obtain⟨sl,hL⟩:=u.any ho I.free (by simp);exact I.step (ch:=[]) (λ_ z=>nomatch z) (λb o _ hb _ e n=>u.keep b o e n hb (by simp)) (λb o _ hb _ e n=>u.slot b o e n hb (by simp)) (λb o _ e n=>u.free b o e n (by simp)) (λb o _ e=>u.there b o e (by simp)) u.su u.nZ u.sx (λm' hm=>by obtain⟨o',Og,Oh,n5,r'⟩:=hm;rw[ho] at n5;cases n5;exact⟨_,Og,Oh,hL,r'⟩) bF I.bare
def Inv.call{g':Array GenState}{d':Drawn}{ch:Ω}(I:Inv X ε σ H s)(u:Un (DF X.stack) ch H H' s.heap h')(bF:jb X.prog X.w H' h')(hg:AllBare g')(IB:∀b∈ch,(b∈X.ex\/X.s₀.heap.objs.size<=b)/\b≠X.env.locals/\(∀x c,X.env.cells.lookup x=some c->c≠b)/\∀p∈X.pn++ε,p.1≠b) :
  Inv X ε σ H' {s with heap:=h',gens:=g',drawn:=d',toks:=t'}:=by
 obtain⟨m,⟨o,es,ep,ho,r⟩,_⟩:=id I.loc;obtain⟨sl,hL⟩:=u.any ho I.free λz=>(IB _ z).2.1 rfl;exact I.step IB (λb o hL hb hc e n=>u.keep b o e n (λz=>(dg.mp (I.yi b z)).elim hL hb) hc) (λb o _ _ hc e n=>u.any e n hc) (λb o hc e n=>u.free b o e n hc) (λb o hc e=>u.there b o e hc) u.su u.nZ u.sx (λm' hm=>by obtain⟨o',Og,Oh,n5,r'⟩:=hm;rw[ho] at n5;cases n5;exact⟨_,Og,Oh,hL,r'⟩) bF hg
def Inv.turned(I:Inv X ε σ H s)(k:∀b o,b≠it->s.heap.get? b=some o->h'.get? b=some o)(hn:H it=none)(hL:it≠X.env.locals)(h1:it∈X.ex\/X.s₀.heap.objs.size<=it)(h2:∀x c,X.env.cells.lookup x=some c->c≠it)(h3:∀p∈X.pn++ε,p.1≠it):Inv X ε σ H {s with heap:=h',toks:=t'}:=by
 have I_:∀b u,H b=some u->b≠it:=λb u e z=>by rw[z,hn] at e;cases e
 refine I.step (ch:=[it]) (λb hb=>?_) (λb o _ _ hc e _=>k b o (λz=>hc (by simp[z])) e) (λb o _ _ hc e _=>⟨o.slots,k b o (λz=>hc (by simp[z])) e⟩) (λ_ _ _ _ n=>n)
  (λb o hc e=>⟨o,k b o (λz=>hc (by simp[z])) e⟩) (λ_ _ e=>e) (λ_ _ _ e=>e) (λb ps e=>⟨#[],by rw[e];simp⟩) (λm hm=>?_) (λb u e=>?_) I.bare
 have e:b=it:=by simpa using hb
 subst e;exact⟨h1,hL,h2,h3⟩;obtain⟨o,es,ep,ho,r⟩:=hm;exact⟨o,es,ep,k _ o (Ne.symm hL) ho,r⟩;refine (I.bF b u e).vI (λc v hc q=>k c v ?_ q) (λ_ q=>q) λ_ _ q=>q;obtain z|z:=hc
 rw[z];exact I_ b u e;exact I_ c _ z
def Inv.tok(I:Inv X ε σ H s)(t:Nat):Inv X ε σ H {s with toks:=t}:=I.un Un.refl I.bF
def Inv.kept(I:Inv X ε σ H s)(k:∀b u,s.heap.get? b=some u->h'.get? b=some u):Inv X ε σ H {s with heap:=h',toks:=t'}:=I.un (Un.kept k) (I.bF.kept k)
def Inv.laid{a:Addr}{o:HO}(I:Inv X ε σ H s)(k:∀b u,s.heap.get? b=some u->h'.get? b=some u)(hp:s.heap.objs.size<=a)(new:bH X.prog X.w (upd H a o) h' a o) :
 Inv X ε σ (upd H a o) {s with heap:=h',toks:=t'}:=I.un (Un.laid k hp (I.bF.fresh hp)) (I.bF.laid k hp new)
def Inv.write{x e:Addr}{o:HO}(I:Inv X ε σ H s)(mu:SQ (H x))(he:e=x\/H e=some (.own x))(k:∀b u,b≠e->s.heap.get? b=some u->h'.get? b=some u)(MA:∃u,h'.get? e=some u)(new:bH X.prog X.w (upd H x o) h' x o):Inv X ε σ (upd H x o) {s with heap:=h',toks:=t'}:=I.un (Un.write mu he k MA) (I.bF.write mu he k MA new)
def Inv.weak{σ':List (Option V)}(I:Inv X ε σ H s)(hl:σ'.length=σ.length)(w:∀(i:Nat) v,σ'[i]?=some (some v)->σ[i]?=some (some v)):Inv X ε σ' H s :=
 ⟨I.ok,I.os,I.bare,I.base,let ⟨m,hn,Ja⟩:=I.loc;⟨m,hn,λi x v e1 e2 e3=>Ja i x v e1 (w i v e2) e3⟩,I.cell,I.free,I.gc,I.pin,I.bF,hl.trans I.len⟩
def Inv.z_{Aa:qaa}(I:Inv X ε σ H s)(h:∀p∈Aa,s.heap.get? p.1=some p.2/\H p.1=none/\p.1≠X.env.locals/\p.1∉X.fs/\∀v,p.2.data≠.cell v):Inv X Aa σ H s :=
 ⟨I.ok,I.os,I.bare,I.base,I.loc,I.cell,I.free,I.gc,λp hp=>(gx.mp hp).elim (λz=>I.pin p (hX _ z)) (h p),I.bF,I.len⟩
def vK{N:ω}(hN:N.Nodup)(a:N[i]?=some x)(b:N[j]?=some x):i=j:=by obtain⟨h1,e1⟩:=dz.mp a;obtain⟨h2,e2⟩:=dz.mp b;exact (List.getElem_inj hN).mp (e1.trans e2.symm)
def qV{M:Model}{E:qad}{v:V}{Q:Unit->Shared->Prop}(I:Inv X ε σ H s)(hN:X.N.Nodup)(hi:X.N[i]?=some x)(hx:Loc X.env.scope x)(r:RelV v u)(h:∀s',Inv X ε (σ.set i (some v)) H s'->(∃a,Heap.SameBut a s.heap s'.heap/\(a=X.env.locals\/X.env.cells.lookup x=some a))->Q () s')(hf:X.fn x=true\/X.env.scope.names.lookup x=some .local:=by first|exact .inl rfl|exact .inr rfl|assumption):wpAny M A (storeName X.env x u) Q E s:=by
 obtain⟨m,hn,hl⟩:=id I.loc;have Yk:(X.env.scope.kind==.class || (X.env.scope.kind==.module && X.env.locals != X.env.globals))=false:=by rw[I.ok.kind];rfl
 have hiσ:i<σ.length:=by rw[I.len];exact (dz.mp hi).1
 have I9:=I.I9;have tracked:∀{a:Addr}{h':Heap},(∃o,s.heap.get? a=some o/\H a=none)->Heap.SameBut a s.heap h'->jb X.prog X.w H h':=λ{a h'} ha hs b ob e=>by
  obtain⟨_,_,MB⟩:=ha;refine (I.bF b ob e).vI (λc w' hc q=>(hs.2 c ?_).trans q) (λ_ q=>q) λ_ _ q=>q;rintro rfl;obtain rfl|hc:=hc
  rw[MB] at e;cases e;rw[MB] at hc;cases hc
 obtain hk|hk:=hx
 refine wpAny_storeName_local hk hn (λh' hn' hs=>?_) Yk;obtain⟨oL,_,_,hoL,_⟩:=id hn;refine h _ ⟨I.ok,I.os,I.bare,⟨λb o e n hb hx=>?_,λb o e n hb hx=>?_,I.base.free,λb o e hx=>?_,I.base.su,I.base.nZ,I.base.sx⟩,⟨_,hn',λj y v' e1 e2 e3=>?_⟩,λy c e=>?_,I.free,I.gc,λp hp=>?_,tracked ⟨oL,hoL,I.free⟩ hs,by simpa using I.len⟩ ⟨_,hs,.inl rfl⟩;exact (hs.2 b (jX (qe (eJ e) I.ok.above))).trans (I.base.keep b o e n hb hx);obtain⟨sl,e1⟩:=I.base.slot b o e n hb hx;exact⟨sl,(hs.2 b (jX (qe (eJ e) I.ok.above))).trans e1⟩;obtain⟨o',e1⟩:=I.base.there b o e hx;exact⟨o',(hs.2 b (jX (qe (eJ e) I.ok.above))).trans e1⟩;by_cases hj:j=i;subst hj;rw[hi] at e1;cases e1;rw[z6 hiσ] at e2;cases e2;exact⟨u,r,.inl ⟨hk,by simp⟩⟩;rw[sg (Ne.symm hj)] at e2;obtain⟨u',r',q⟩:=hl j y v' e1 e2 e3;refine⟨u',r',?_⟩;obtain⟨k,e⟩|⟨k,c,e,z⟩:=q
 refine .inl ⟨k,?_⟩;have:y≠x:=λe=>hj (vK hN e1 (e▸hi));simp[this,e];exact .inr ⟨k,c,e,z.sameBut hs (I9 y c e)⟩;obtain⟨w',z⟩:=I.cell y c e;exact⟨w',z.sameBut hs (I9 y c e)⟩;obtain⟨e,n,ne,nf,d⟩:=I.pin p hp;exact⟨(hs.2 p.1 ne).trans e,n,ne,nf,d⟩;have Yl:X.fn x=true:=by
  obtain z|z:=hf
  exact z;rw[z] at hk;cases hk
 obtain⟨c,hc⟩:=I.ok.has x (.inl hk);obtain⟨w',z⟩:=I.cell x c hc;refine wpAny_storeName_cell I.ok.kind hk hc z (λh' qg hs=>?_);obtain⟨oc,hoc,Ym⟩:=id z;refine h {s with heap:=h'} ⟨I.ok,I.os,I.bare,⟨λb o e n hb hx=>?_,λb o e n hb hx=>?_,I.base.free,λb o e hx=>?_,I.base.su,I.base.nZ,I.base.sx⟩,⟨m,hn.sameBut hs (Ne.symm (I9 x c hc)),λj y v' e1 e2 e3=>?_⟩,λy c' e=>?_,I.free,I.gc,λp hp=>?_,tracked ⟨oc,hoc,I.gc x c hc⟩ hs,by simpa using I.len⟩ ⟨c,hs,.inr hc⟩;exact (hs.2 b (jX (qe (eJ e) (I.ok.SS x c Yl hc)))).trans (I.base.keep b o e n hb hx);obtain⟨sl,e1⟩:=I.base.slot b o e n hb hx;exact⟨sl,(hs.2 b (jX (qe (eJ e) (I.ok.SS x c Yl hc)))).trans e1⟩;obtain⟨o',e1⟩:=I.base.there b o e hx;exact⟨o',(hs.2 b (jX (qe (eJ e) (I.ok.SS x c Yl hc)))).trans e1⟩;by_cases hj:j=i;subst hj;rw[hi] at e1;cases e1;rw[z6 hiσ] at e2;cases e2;exact⟨u,r,.inr ⟨.inl hk,c,hc,qg⟩⟩;rw[sg (Ne.symm hj)] at e2;obtain⟨u',r',q⟩:=hl j y v' e1 e2 e3;refine⟨u',r',?_⟩;obtain q|⟨k,c',e,z'⟩:=q
 exact .inl q;refine .inr ⟨k,c',e,z'.sameBut hs ?_⟩;rintro rfl;exact hj (vK hN e1 (I.ok.inj _ _ _ e hc▸hi));by_cases hcc:c'=c;subst hcc;exact⟨_,qg⟩;obtain⟨w2,z2⟩:=I.cell y c' e;exact⟨w2,z2.sameBut hs hcc⟩;obtain⟨e,n,ne,nf,d⟩:=I.pin p hp;refine⟨(hs.2 p.1 ?_).trans e,n,ne,nf,d⟩;intro q;rw[q,hoc] at e;have q':=Option.some.inj e;exact d w' (by rw[<- q'];exact Ym)
def n6{M:Model}{E:qad}{v:V}{Q:Unit->Shared->Prop}(I:Inv X ε σ H s)(hN:X.N.Nodup)(hi:X.N[i]?=some x)(hx:Loc X.env.scope x)(r:RelV v u)(h:∀s',Inv X ε (σ.set i (some v)) H s'->Q () s')(hf:X.fn x=true\/X.env.scope.names.lookup x=some .local:=by first|exact .inl rfl|exact .inr rfl|assumption):wpAny M A (storeName X.env x u) Q E s :=
 qV I hN hi hx r (λs' I' _=>h s' I') hf
def Inv.SU{ch:Ω}(I:Inv X ε σ H s)(ho:s'.os=s.os)(u:Un (DF X.stack) ch H H' s.heap s'.heap)(bF:jb X.prog X.w H' s'.heap)(hg:AllBare s'.gens)(IB:∀b∈ch,(b∈X.ex\/X.s₀.heap.objs.size<=b)/\b≠X.env.locals/\(∀x c,X.env.cells.lookup x=some c->c≠b)/\∀p∈X.pn++ε,p.1≠b):Inv X ε σ H' s':=by obtain⟨h',g',d',t',o'⟩:=s';have e:=ho;subst e;exact I.call u bF hg IB
end
abbrev XK:=Value->qar->Hp->Prop
abbrev St:=List (Option V)
abbrev VK:=V->Hp->Prop
abbrev TE:=St->Hp->VK->Prop
abbrev TT:=St->Hp->(Bool->Hp->Prop)->Prop
abbrev TA:=St->Hp->(List V->Hp->Prop)->Prop
structure Ends where
 nx:St->Hp->Prop
 rt:VK
 bk:St->Hp->Prop:=λ_ _=>False
 ct:St->Hp->Prop:=λ_ _=>False
abbrev TS:=Ends->St->Hp->Prop
def EP(X:Cx)(ε:qaa)(σ:St)(Q:VK)(u:Value)(s':Shared):Prop:=∃v H',Inv X ε σ H' s'/\RelV v u/\Q v H'
def TP(X:Cx)(ε:qaa)(σ:St)(Q:Bool->Hp->Prop)(b:Bool)(s':Shared):Prop:=∃H',Inv X ε σ H' s'/\Q b H'
def AP(X:Cx)(ε:qaa)(σ:St)(Q:List V->Hp->Prop)(us:qag)(s':Shared):Prop:=∃vs H',Inv X ε σ H' s'/\Vals vs us/\Q vs H'
def SP(X:Cx)(ε:qaa)(D:Ends)(f:Flow)(s':Shared):Prop :=
 match f with
 |.next=>∃σ' H',Inv X ε σ' H' s'/\D.nx σ' H'
 |.brk=>∃σ' H',Inv X ε σ' H' s'/\D.bk σ' H'
 |.cont=>∃σ' H',Inv X ε σ' H' s'/\D.ct σ' H'
 |.ret u=>∃v σ' H',Inv X ε σ' H' s'/\RelV v u/\D.rt v H'
def PE(X:Cx)(e:Expr)(t:TE):Prop :=
 ∀(ε:qaa)(s:Shared)(σ:St)(H:Hp)(Q:VK),Inv X ε σ H s->t σ H Q->wpAny (model X.prog X.w) X.A (eval e X.env) (EP X ε σ Q) X.xe s
def PT(X:Cx)(e:Expr)(t:TT):Prop :=
 ∀(ε:qaa)(s:Shared)(σ:St)(H:Hp)(Q:Bool->Hp->Prop),Inv X ε σ H s->t σ H Q->wpAny (model X.prog X.w) X.A (isTrue e X.env (eval e X.env)) (TP X ε σ Q) X.xe s
def PW(X:Cx)(e:Expr)(t:TT):Prop :=
 ∀(whole:Sem Value)(ε:qaa)(s:Shared)(σ:St)(H:Hp)(Q:Bool->Hp->Prop),Inv X ε σ H s->t σ H Q->wpAny (model X.prog X.w) X.A (isTrue e X.env whole) (TP X ε σ Q) X.xe s
def PW.pt{X:Cx}{t:TT}(h:PW X e t):PT X e t:=h _
def PA(X:Cx)(es:qap)(t:TA):Prop :=
 ∀(pos:Pos)(ε:qaa)(s:Shared)(σ:St)(H:Hp)(Q:List V->Hp->Prop),Inv X ε σ H s->t σ H Q->wpAny (model X.prog X.w) X.A (spliced (backTo pos (starEach es X.env))) (AP X ε σ Q) X.xe s
def PS(X:Cx)(st:Stmt)(t:TS):Prop :=
 ∀(ε:qaa)(s:Shared)(σ:St)(H:Hp)(D:Ends),Inv X ε σ H s->t D σ H->wpAny (model X.prog X.w) X.A (exec st X.env) (SP X ε D) X.xe s
def iP(X:Cx)(st:qaq)(t:TS):Prop :=
 ∀(ε:qaa)(s:Shared)(σ:St)(H:Hp)(D:Ends),Inv X ε σ H s->t D σ H->wpAny (model X.prog X.w) X.A (execs st X.env) (SP X ε D) X.xe s
def cf{t:Sem α}{Q Q':α->Shared->Prop}{M:Model}{E:qad}(h:wpAny M A t Q E s)(hQ:∀a s,Q a s->Q' a s):wpAny M A t Q' E s:=Φ h hQ λ_ _ x=>x
section
variable{X:Cx}
def D5(i:Nat):TE:=λσ H Q=>∃v,σ[i]?=some (some v)/\Q v H
def tC(v:V):TE:=λ_ H Q=>Q v H
def bY{pos:Pos}(hN:X.N[i]?=some x)(hv:mP X.env.scope x)(hd:f7 x:=by decide)(fO:qd x:=by decide):PE X (.Name x pos) (D5 i):=by
 intro ε s σ H Q I h;obtain⟨v,e,h⟩:=h;obtain⟨m,hn,hl⟩:=I.loc;obtain⟨u,r,l⟩:=hl i x v hN e hv;have fin:EP X ε σ Q u s:=⟨v,H,I,r,h⟩;obtain⟨hk,hm⟩|⟨hk,c,hc,Ab⟩:=l
 exact wpAny_Name (wpAny_loadName_local I.ok.kind hk hn hm fin) hd;obtain hk|hk:=hk
 exact wpAny_Name (wpAny_loadName_cell I.ok.kind hk hc Ab fin) hd;exact wpAny_Name (wpAny_loadName_free I.ok.kind hk hc Ab fin fO) hd
def yj{i j pos}:PE X (.Constant (.int i) j pos) (tC (.int i)):=λ_ _ _ H _ I h=>wpAny_Constant_int ⟨.int i,H,I.tok _,⟨_,rfl⟩,h⟩
def SV{b j pos}:PE X (.Constant (.bool b) j pos) (tC (.bl b)):=λ_ _ _ H _ I h=>Constant_bool ⟨.bl b,H,I,rfl,h⟩
def Oi{j pos}:PE X (.Constant .none j pos) (tC .bB):=λ_ _ _ H _ I h=>Constant_none ⟨.bB,H,I,rfl,h⟩
def Oj{x j pos}:PE X (.Constant (.str x) j pos) (tC (.str x)):=λ_ _ _ H _ I h=>Calls.Constant_str ⟨.str x,H,I.tok _,⟨_,rfl⟩,h⟩
def Gl(X:Cx)(x:Str):Prop:=X.env.kindOf x=some .globalImplicit
def sy{E:qad}{ε:qaa}{σ:St}{H:Hp}{pos:Pos}{Q:qad}(I:Inv X ε σ H s)(hg:Gl X x)(hm:X.mg x=some u)(h:Q u s)(hd:f7 x:=by decide):wpAny (model X.prog X.w) X.A (eval (.Name x pos) X.env) Q E s :=
 Calls.Name_function_global I.ok.kind hg (Calls.loadGlobal_global (by rw[I.ok.glob];exact I.mod.glob.keeps I.bk) hm h) hd
def lp{E:qad}{ε:qaa}{σ:St}{H:Hp}{pos:Pos}{Q:qad}(I:Inv X ε σ H s)(hg:Gl X x)(hm:X.mg x=none)(hv:bootBuiltins x=some u)(h:Q u s)(hn:x≠"__name__":=by decide)(hd:f7 x:=by decide):wpAny (model X.prog X.w) X.A (eval (.Name x pos) X.env) Q E s:=by obtain⟨mb,h1,h2⟩:=I.mod.blt;exact Calls.Name_function_global I.ok.kind hg (Calls.loadGlobal_builtin (by rw[I.ok.glob];exact I.mod.glob.keeps I.bk) hm (by rw[I.ok.blt];exact h1.keeps I.bk) ((h2 x hn).trans hv) h) hd
def Jb{v:V}{pos:Pos}(hg:Gl X x)(hm:X.mg x=some u)(r:RelV v u)(hd:f7 x:=by decide):PE X (.Name x pos) (tC v) :=
 λ_ _ _ H _ I h=>sy I hg hm ⟨v,H,I,r,h⟩ hd
def Jc{v:V}{pos:Pos}(hg:Gl X x)(hm:X.mg x=none)(hv:bootBuiltins x=some u)(r:RelV v u)(hn:x≠"__name__":=by decide)(hd:f7 x:=by decide):PE X (.Name x pos) (tC v) :=
 λ_ _ _ H _ I h=>lp I hg hm hv ⟨v,H,I,r,h⟩ hn hd
variable{a b:Expr}{ta tb:TE}{pos:Pos}
def tB(t:TE):TT:=λσ H Q=>t σ H λx H1=>∃c,x=.bl c/\Q c H1
def D6{t:TE}(h:PE X e t)(he:∀whole,isTrue e X.env whole=(do let v <- whole;standAt e.pos;holding [v] (truthy v)):=by intro _;rfl):PT X e (tB t):=by intro ε s σ H Q I hw;refine isTrue_plain (cf (h ε s σ H _ I hw) λv s1 ⟨x,H1,I1,r1,q1⟩=>?_) (he _);obtain⟨d,rfl,q⟩:=q1;cases r1;exact Ξ ⟨H1,I1,q⟩
variable{tA SW:TT}{rest:qap}
def Yn(t u:TT):TT:=λσ H Q=>t σ H λc H1=>if c=true then u σ H1 Q else Q false H1
def tOr(t u:TT):TT:=λσ H Q=>t σ H λc H1=>if c=true then Q true H1 else u σ H1 Q
def Yo(t:TT):TT:=λσ H Q=>t σ H λc H1=>Q (!c) H1
def pw_and1(ha:PT X a tA):PW X (.BoolOp .And [a] pos) tA:=by
 intro wh ε s σ H Q I h;refine isTrue_and (cf (ha ε s σ H Q I h) λc s1 e=>?_);cases c with
 |true=>exact isTrue_and_nil e
 |false=>exact e
def pw_or1(ha:PT X a tA):PW X (.BoolOp .Or [a] pos) tA:=by
 intro wh ε s σ H Q I h;refine isTrue_or (cf (ha ε s σ H Q I h) λc s1 e=>?_);cases c with
 |false=>exact isTrue_or_nil e
 |true=>exact e
def pw_and(ha:PT X a tA)(hb:PW X (.BoolOp .And (b::rest) pos) SW):PW X (.BoolOp .And (a::b::rest) pos) (Yn tA SW):=by
 intro wh ε s σ H Q I h;refine isTrue_and (cf (ha ε s σ H _ I h) λc s1 ⟨H1,I1,q1⟩=>?_);cases c with
 |true=>exact hb wh ε s1 σ H1 Q I1 q1
 |false=>exact⟨H1,I1,q1⟩
def pw_or(ha:PT X a tA)(hb:PW X (.BoolOp .Or (b::rest) pos) SW):PW X (.BoolOp .Or (a::b::rest) pos) (tOr tA SW):=by
 intro wh ε s σ H Q I h;refine isTrue_or (cf (ha ε s σ H _ I h) λc s1 ⟨H1,I1,q1⟩=>?_);cases c with
 |true=>exact⟨H1,I1,q1⟩
 |false=>exact hb wh ε s1 σ H1 Q I1 q1
def Ol(ha:PT X a tA):PT X (.UnaryOp .Not a pos) (Yo tA):=by intro ε s σ H Q I h;exact isTrue_not (ha ε s σ H (λc H1=>Q (!c) H1) I h)
def SX(ta tb:TE):TE:=λσ H Q=>ta σ H λx H1=>∃c,x=.bl c/\if c=true then tb σ H1 Q else Q (.bl false) H1
def Yp(ta tb:TE):TE:=λσ H Q=>ta σ H λx H1=>∃c,x=.bl c/\if c=true then Q (.bl true) H1 else tb σ H1 Q
def SY(ta:TE):TE:=λσ H Q=>ta σ H λx H1=>∃c,x=.bl c/\Q (.bl (!c)) H1
def Om{op}{t:TE}(h:PE X a t):PE X (.BoolOp op [a] pos) t:=λε s σ H Q I hw=>BoolOp_one (h ε s σ H Q I hw)
def Oo(ha:PE X a ta)(hb:PE X (.BoolOp .And (b::rest) pos) tb):PE X (.BoolOp .And (a::b::rest) pos) (SX ta tb):=by
 intro ε s σ H Q I h;refine BoolOp_and (cf (ha ε s σ H _ I h) λv s1 ⟨x,H1,I1,r1,q1⟩=>?_);obtain⟨c,rfl,q1⟩:=q1;cases r1;refine Ξ ?_;cases c with
 |true=>exact hb ε s1 σ H1 Q I1 q1
 |false=>exact⟨.bl false,H1,I1,rfl,q1⟩
def S6(ha:PE X a ta)(hb:PE X (.BoolOp .Or (b::rest) pos) tb):PE X (.BoolOp .Or (a::b::rest) pos) (Yp ta tb):=by
 intro ε s σ H Q I h;refine BoolOp_or (cf (ha ε s σ H _ I h) λv s1 ⟨x,H1,I1,r1,q1⟩=>?_);obtain⟨c,rfl,q1⟩:=q1;cases r1;refine Ξ ?_;cases c with
 |false=>exact hb ε s1 σ H1 Q I1 q1
 |true=>exact⟨.bl true,H1,I1,rfl,q1⟩
def Oq(ha:PE X a ta):PE X (.UnaryOp .Not a pos) (SY ta):=by intro ε s σ H Q I h;refine UnaryOp_ (cf (ha ε s σ H _ I h) λv s1 ⟨x,H1,I1,r1,q1⟩=>?_);obtain⟨c,rfl,q1⟩:=q1;cases r1;exact not_of (Ξ ⟨.bl (!c),H1,I1,rfl,q1⟩)
def tIf(t:TT)(ta tb:TE):TE:=λσ H Q=>t σ H λc H1=>if c=true then ta σ H1 Q else tb σ H1 Q
def D7(hc:PT X c tA)(ha:PE X a ta)(hb:PE X b tb):PE X (.IfExp c a b pos) (tIf tA ta tb):=by
 intro ε s σ H Q I h;refine wpAny_IfExp (cf (hc ε s σ H _ I h) λd s1 ⟨H1,I1,q1⟩=>?_);cases d with
 |true=>exact ha ε s1 σ H1 Q I1 q1
 |false=>exact hb ε s1 σ H1 Q I1 q1
end
def fG(K:zm)(H:Hp)(a:Addr)(xs:List V):Prop :=
 Rd H a (.lst xs) \/
  ∃(o:Obj)(aT:Array Value)(n:Nat),K.lookup a=some o/\o.cls=.type "list"/\o.dict=none/\o.data=.seq aT n/\aT.size<=sizeLine/\Vals xs aT.toList
def dS(K:zm)(H:Hp)(a:Addr)(xs:List V):Prop :=
 Rd H a (.tup xs) \/
  ∃(o:Obj)(aT:Array Value)(n:Nat),K.lookup a=some o/\o.cls=.type "tuple"/\o.data=.seq aT n/\aT.size<=sizeLine/\Vals xs aT.toList
noncomputable def Yq:Value->Option V
 |.none=>some .bB
 |.bool b=>some (.bl b)
 |.int i _=>some (.int i)
 |.str x _=>some (.str x)
 |.bytes b _=>some (.Yc b)
 |.float b _=>some (.Yd b)
 |.ref a=>some (.ref a)
 |.type n=>some (.ty n)
 |_=>none
def RelV.abs{x:V}(r:RelV x u):Yq u=some x:=by
 cases x with
 |bB=>cases r;rfl
 |bl _=>cases r;rfl
 |ref _=>cases r;rfl
 |ty _=>cases r;rfl
 |_=>obtain⟨t,rfl⟩:=r;rfl
def RelV.inj{x y:V}(r:RelV x u)(q:RelV y u):x=y:=Option.some.inj (r.abs.symm.trans q.abs)
theorem Vals.inj:∀{xs ys:List V}{us:qag},Vals xs us->Vals ys us->xs=ys
 |_,_,_,.nil,.nil=>rfl
 |_,_,_,.cons r t,.cons r' t'=>by rw[r.inj r',Vals.inj t t']
section
variable{X:Cx}{ε:qaa}{σ:St}{H:Hp}{a:Addr}{xs ys:List V}
def fG.of{K:zm}(h:H a=some (.lst xs)):fG K H a xs:=.inl (.inl h)
def dS.of{K:zm}(h:H a=some (.tup xs)):dS K H a xs:=.inl (.inl h)
theorem Inv.list(I:Inv X ε σ H s)(h:fG X.K H a xs):∃aT:qag,Vals xs aT/\PlainL s.heap a aT.toArray/\xs.length<=sizeLine:=by
 obtain h|⟨o,aT,n,hk,hc,hd,hs,hz,r⟩:=h
 obtain⟨z,aT,n,r,e⟩:=h.ok I.bF;exact⟨aT,r,⟨_,n,e,rfl,rfl,rfl⟩,z⟩;refine⟨aT.toList,r,⟨o,n,I.vt a o hk,hc,hd,by simpa using hs⟩,?_⟩;have e:=r.length;simp only[N0] at e
 lia
theorem Inv.tuple(I:Inv X ε σ H s)(h:dS X.K H a xs):∃aT:qag,Vals xs aT/\IsTup s.heap a aT.toArray/\xs.length<=sizeLine:=by
 obtain h|⟨o,aT,n,hk,hc,hs,hz,r⟩:=h
 obtain⟨z,aT,r,p⟩:=h.ok I.bF;exact⟨aT,r,p,z⟩;refine⟨aT.toList,r,⟨o,I.vt a o hk,hc,n,by simpa using hs⟩,?_⟩;have e:=r.length;simp only[N0] at e
 lia
def Inv.j4(I:Inv X ε σ H s)(h:fG X.K H a xs)(h':fG X.K H a ys):xs=ys:=by
 obtain⟨aT,r,⟨o,n,e,_,_,d⟩,_⟩:=I.list h;obtain⟨m6,r',⟨o',n',e',_,_,d'⟩,_⟩:=I.list h';rw[e] at e';cases e';rw[d] at d';injection d' with d1 _
 have:aT=m6:=by simpa using rk Array.toList d1
 subst this;exact r.inj r'
def Inv.lq(I:Inv X ε σ H s)(h:dS X.K H a xs)(h':dS X.K H a ys):xs=ys:=by
 obtain⟨aT,r,⟨o,e,_,n,d⟩,_⟩:=I.tuple h;obtain⟨m6,r',⟨o',e',_,n',d'⟩,_⟩:=I.tuple h';rw[e] at e';cases e';rw[d] at d';injection d' with d1 _
 have:aT=m6:=by simpa using rk Array.toList d1
 subst this;exact r.inj r'
end
noncomputable abbrev Cx.qh(X:Cx)(E:qad):Cx:={X with xe:=E}
noncomputable abbrev Cx.BM(X:Cx):Cx:=X.qh λ_ _=>False
def Cx.Ok.qh{X:Cx}(ok:X.Ok)(E:qad):(X.qh E).Ok :=
 ⟨ok.mod,ok.kind,ok.glob,ok.blt,ok.above,ok.inj,ok.has,ok.SS,ok.hd,ok.frames,ok.W_,ok.exf,ok.bs,ok.IZ,ok.D3,ok.I8,ok.m5,ok.Of⟩
def Cx.Ok.lr{X:Cx}{E:qad}(ok:(X.qh E).Ok):X.Ok :=
 ⟨ok.mod,ok.kind,ok.glob,ok.blt,ok.above,ok.inj,ok.has,ok.SS,ok.hd,ok.frames,ok.W_,ok.exf,ok.bs,ok.IZ,ok.D3,ok.I8,ok.m5,ok.Of⟩
section
variable{X:Cx}{ε:qaa}{σ:St}{H:Hp}{E:qad}
def Inv.qh(I:Inv X ε σ H s)(E:qad):Inv (X.qh E) ε σ H s:=⟨I.ok.qh E,I.os,I.bare,I.base,I.loc,I.cell,I.free,I.gc,I.pin,I.bF,I.len⟩
def Inv.lr(I:Inv (X.qh E) ε σ H s):Inv X ε σ H s:=⟨I.ok.lr,I.os,I.bare,I.base,I.loc,I.cell,I.free,I.gc,I.pin,I.bF,I.len⟩
def SP.lr{D:Ends}{f:Flow}(h:SP (X.qh E) ε D f s'):SP X ε D f s':=by
 cases f with
 |ret u=>obtain⟨v,σ',H',I,r,q⟩:=h;exact⟨v,σ',H',I.lr,r,q⟩
 |_=>obtain⟨σ',H',I,q⟩:=h;exact⟨σ',H',I.lr,q⟩
def iP.BM{st:qaq}{t:TS}(h:iP X.BM st t):iP X st t:=λε s σ H D I hw=>
 Φ (h ε s σ H D (I.qh _) hw) (λ_ _ q=>q.lr) λ_ _ z=>False.elim z
end
section
variable{X:Cx}{st:Stmt}{rest:qaq}{t u:TS}{te:TE}{pos:Pos}
def MC:TS:=λD σ H=>D.nx σ H
def Yr(t u:TS):TS:=λD σ H=>t {D with nx:=u D} σ H
def sA:iP X [] MC:=λ_ _ σ H _ I h=>aay ⟨σ,H,I,h⟩
def dh(h1:PS X st t)(h2:iP X rest u):iP X (st::rest) (Yr t u):=by
 intro ε s σ H D I h;refine wpAny_execs_cons (cf (h1 ε s σ H {D with nx:=u D} I h) λf s1 q=>?_);cases f with
 |next=>obtain⟨σ',H',I',q⟩:=q;exact h2 ε s1 σ' H' D I' q
 |ret v=>exact q
 |_=>exact q
def j5(h1:PS X st t):iP X [st] t:=by
 intro ε s σ H D I h;refine wpAny_execs_cons (cf (h1 ε s σ H D I h) λf s1 q=>?_);cases f with
 |next=>exact aay q
 |ret v=>exact q
 |_=>exact q
def Jd:PS X (.Pass pos) MC:=λ_ _ σ H _ I h=>wpAny_Pass ⟨σ,H,I,h⟩
def Inv.quiet{ε:qaa}{σ:St}{H:Hp}(I:Inv X ε σ H s):interactive X.env=false:=by simp[interactive,I.ok.kind]
def S7(te:TE):TS:=λD σ H=>te σ H λ_ H1=>D.nx σ H1
def sC(he:PE X e te)(hs:swapsWith e none pos.line X.env=pure false:=by rfl):PS X (.Expr e pos) (S7 te):=by intro ε s σ H D I h;exact wpAny_Expr_any (cf (he ε s σ H _ I h) λv s1 ⟨x,H1,I1,r1,q1⟩=>⟨σ,H1,I1,q1⟩) I.quiet hs
def Ys(te:TE):TS:=λD σ H=>te σ H D.rt
def yk(he:PE X e te):PS X (.Return (some e) pos) (Ys te):=by intro ε s σ H D I h;exact wpAny_Return_some (cf (he ε s σ H _ I h) λv s1 ⟨x,H1,I1,r1,q1⟩=>⟨x,σ,H1,I1,r1,q1⟩)
def Yt(c:TT)(t u:TS):TS:=λD σ H=>c σ H λb H1=>if b=true then t D σ H1 else u D σ H1
def D8{a b:qaq}{tc:TT}(hc:PT X c tc)(ha:iP X a t)(hb:iP X b u):PS X (.If c a b pos) (Yt tc t u):=by
 intro ε s σ H D I h;refine wpAny_If (cf (hc ε s σ H _ I h) λd s1 ⟨H1,I1,q1⟩=>?_);cases d with
 |true=>exact ha ε s1 σ H1 D I1 q1
 |false=>exact hb ε s1 σ H1 D I1 q1
end
abbrev TG:=V->St->Hp->(St->Hp->Prop)->Prop
abbrev Je:=List V->St->Hp->(St->Hp->Prop)->Prop
def PG(X:Cx)(target:Expr)(t:TG):Prop :=
 ∀(ε:qaa)(s:Shared)(σ:St)(H:Hp)(v:V)(u:Value)(Q:St->Hp->Prop),Inv X ε σ H s->RelV v u->t v σ H Q ->
  wpAny (model X.prog X.w) X.A (assign target X.env u) (λ_ s'=>∃σ' H',Inv X ε σ' H' s'/\Q σ' H') X.xe s
def D9(X:Cx)(ts:qap)(t:Je):Prop :=
 ∀(ε:qaa)(s:Shared)(σ:St)(H:Hp)(vs:List V)(us:qag)(Q:St->Hp->Prop),Inv X ε σ H s->Vals vs us->t vs σ H Q ->
  wpAny (model X.prog X.w) X.A (assignInOrder ((assignEach ts X.env).map (·.2)) us) (λ_ s'=>∃σ' H',Inv X ε σ' H' s'/\Q σ' H') X.xe s
abbrev Ot:=V->V->V->Hp->(Hp->Prop)->Prop
def S8(X:Cx)(t:Ot):Prop :=
 ∀(ε:qaa)(s:Shared)(σ:St)(H:Hp)(o i v:V)(ov iv u:Value)(Q:Hp->Prop),Inv X ε σ H s->RelV o ov->RelV i iv->RelV v u->t o i v H Q ->
  wpAny (model X.prog X.w) X.A (setItem ov iv u) (λ_ s'=>∃H',Inv X ε σ H' s'/\Q H') X.xe s
abbrev Yu:=V->V->Hp->VK->Prop
def PIp(X:Cx)(op:Operator)(t:Yu):Prop :=
 ∀(ε:qaa)(s:Shared)(σ:St)(H:Hp)(x y:V)(v u:Value)(Q:VK),Inv X ε σ H s->RelV x v->RelV y u->t x y H Q ->
  wpAny (model X.prog X.w) X.A (inplaceOp op v u) (EP X ε σ Q) X.xe s
section
variable{X:Cx}{pos:Pos}
def n9(i:Nat):TG:=λv σ H Q=>Q (σ.set i (some v)) H
def Jf(hN:X.N.Nodup)(hi:X.N[i]?=some x)(hx:Loc X.env.scope x)(hf:X.fn x=true\/X.env.scope.names.lookup x=some .local:=by first|exact .inl rfl|exact .inr rfl|assumption):PG X (.Name x pos) (n9 i):=by intro ε s σ H v u Q I r h;exact wpAny_assign_Name (n6 I hN hi hx r (λs' I'=>⟨_,H,I',h⟩) hf)
def Yv:Je:=λvs σ H Q=>vs=[]/\Q σ H
def S9(t:TG)(u:Je):Je:=λvs σ H Q=>∃v r,vs=v::r/\t v σ H λσ' H'=>u r σ' H' Q
def Jg:D9 X [] Yv:=by intro ε s σ H vs us Q I r h;obtain⟨e,h⟩:=h;subst e;cases r;exact assignInOrder_nil ⟨σ,H,I,h⟩
def D_{es:qap}{t:TG}{u:Je}(h1:PG X e t)(h2:D9 X es u)(hs:(assignEach (e::es) X.env).map (·.2)=assign e X.env::(assignEach es X.env).map (·.2):=by rfl):D9 X (e::es) (S9 t u):=by
 intro ε s σ H vs us Q I r h;obtain⟨v,vr,e1,h⟩:=h;subst e1;cases r with
 |cons r rr=>rw[hs];exact assignInOrder_cons (cf (h1 ε s σ H _ _ _ I r h) λ_ s1 ⟨σ1,H1,I1,q1⟩=>h2 ε s1 σ1 H1 _ _ Q I1 rr q1)
def Yw(K:zm)(n:Nat)(t:Je):TG:=λv σ H Q=>∃a xs,v=.ref a/\dS K H a xs/\xs.length=n/\t xs σ H Q
def Ou{es:qap}{k:Nat}{t:Je}(hc:X.calm=true)(h:D9 X es t)(hn:(assignEach es X.env).length=n:=by rfl)(Ov:(assignEach es X.env).findIdx? (·.1)=none:=by rfl):PG X (.Tuple es k pos) (Yw X.K n t):=by intro ε s σ H v u Q I r hw;obtain⟨a,xs,e1,hq,hl,hw⟩:=hw;subst e1;cases r;obtain⟨aT,rv,ht,hz⟩:=I.tuple hq;refine assign_Tuple_tuple (I.ok.hd hc) ht (by simp[hn,<- hl,rv.length]) Ov λh' hx=>?_;have I1:=I.kept (t':=s.toks) λb o e=>hx b o (jX (eJ e)) e;exact h ε _ σ H xs _ Q I1 (by simpa using rv) hw
def Yx(to ti:TE)(t:Ot):TG:=λv σ H Q=>to σ H λo H1=>ti σ H1 λi H2=>t o i v H2 λH3=>Q σ H3
def Ow{o i:Expr}{to ti:TE}{t:Ot}(ho:PE X o to)(hi:PE X i ti)(hs:S8 X t)(ha:∀v,assign (.Subscript o i pos) X.env v=(do
    let ov <- holding [v] (eval o X.env)
    let iv <- holding [v,ov] (eval i X.env)
    standAt pos
    holding [v,ov,iv] (setItem ov iv v)
    release [v,ov,iv] []):=by intro _;rfl):PG X (.Subscript o i pos) (Yx to ti t):=by
 intro ε s σ H v u Q I r h;exact ζ (aad (cf (ho ε s σ H _ I h) λov s1 ⟨x,H1,I1,r1,q1⟩=>ζ (aad (cf (hi ε s1 σ H1 _ I1 q1) λiv s2 ⟨y,H2,I2,r2,q2⟩=>ζ (wpAny_standAt (ζ (aad (cf (hs ε s2 σ H2 x y v ov iv u _ I2 r1 r2 r q2) λ_ s3 ⟨H3,I3,q3⟩=>wpAny_release ⟨σ,H3,I3,q3⟩))))))))
def Jh(te:TE)(g:TG):TS:=λD σ H=>te σ H λx H1=>g x σ H1 D.nx
def D'{tg:Expr}{te:TE}{g:TG}(he:PE X e te)(hg:PG X tg g)(hs:swapsWithSole [tg] e pos.line X.env=pure false:=by rfl)(hw:swappedStores [tg] e X.env=pure none:=by rfl)(h1:(assignEach [tg] X.env).map (·.2)=[assign tg X.env]:=by rfl):PS X (.Assign [tg] e pos) (Jh te g):=by intro ε s σ H D I h;refine wpAny_Assign_stores (cf (he ε s σ H _ I h) λv s1 ⟨x,H1,I1,r1,q1⟩=>?_) hs hw;rw[h1];exact cf (hg ε s1 σ H1 x v _ I1 r1 q1) λ_ s2 q=>q
def n_{te:TE}(hN:X.N.Nodup)(hi:X.N[i]?=some x)(hx:Loc X.env.scope x)(he:PE X e te)(hs:swapsWith e (some (.Name x pos')) pos.line X.env=pure false:=by rfl)(hf:X.fn x=true\/X.env.scope.names.lookup x=some .local:=by first|exact .inl rfl|exact .inr rfl|assumption) :
  PS X (.Assign [.Name x pos'] e pos) (Jh te (n9 i)):=by
 intro ε s σ H D I h;exact wpAny_Assign_Name (cf (he ε s σ H _ I h) λv s1 ⟨y,H1,I1,r1,q1⟩=>n6 I1 hN hi hx r1 (λs2 I2=>⟨_,H1,I2,q1⟩) hf) hs
def Yy(i:Nat)(te:TE)(ti:Yu):TS:=λD σ H=>∃x,σ[i]?=some (some x)/\te σ H λy H1=>ti x y H1 λz H2=>D.nx (σ.set i (some z)) H2
def Oy{te:TE}{op:Operator}{ti:Yu}(hN:X.N.Nodup)(hi:X.N[i]?=some x)(hx:Loc X.env.scope x)(he:PE X e te)(ho:PIp X op ti)(hf:X.fn x=true\/X.env.scope.names.lookup x=some .local:=by first|exact .inl rfl|exact .inr rfl|assumption) :
  PS X (.AugAssign (.Name x pos') op e pos) (Yy i te ti):=by
 intro ε s σ H D I h;obtain⟨v,e1,h⟩:=h;obtain⟨m,hn,hl⟩:=I.loc;have vis:mP X.env.scope x:=by obtain k|k:=hx;exact .inl k;exact .inr (.inl k)
 obtain⟨u,r,l⟩:=hl i x v hi e1 vis;refine wpAny_AugAssign_Name ?_;have go:wpAny (model X.prog X.w) X.A (eval e X.env) (λw s₂=>wpAny (model X.prog X.w) X.A (inplaceOp op u w) (λr s₃=>wpAny (model X.prog X.w) X.A (storeName X.env x r) (λ_=>SP X ε D .next) X.xe s₃) X.xe s₂) X.xe s:=cf (he ε s σ H _ I h) λw s1 ⟨y,H1,I1,r1,q1⟩=>cf (ho ε s1 σ H1 v y u w _ I1 r r1 q1) λz s2 ⟨zv,H2,I2,r2,q2⟩=>n6 I2 hN hi hx r2 (λs3 I3=>⟨_,H2,I3,q2⟩) hf;obtain⟨hk,hm⟩|⟨hk,c,hc,Ab⟩:=l
 exact wpAny_loadName_local I.ok.kind hk hn hm go;obtain hk|hk:=hk
 exact wpAny_loadName_cell I.ok.kind hk hc Ab go;obtain k|k:=hx
 have:X.env.scope.names.lookup x=some .free:=hk;rw[k] at this;cases this;have:X.env.scope.names.lookup x=some .free:=hk;rw[k] at this;cases this
end
section
variable{X:Cx}{pos:Pos}
def Oz(c:TT)(tb:TS):TS:=λD σ H=>∃W:Nat->St->Hp->Prop,(∃m,W m σ H)/\∀m σ H,W m σ H ->
 c σ H λb H1=>if b=true then ∃N:St->Hp->Prop,(∀σ' H',N σ' H'->∃m',m'<m/\W m' σ' H')/\tb {D with nx:=N,ct:=N,bk:=D.nx} σ H1 else D.nx σ H1
def og{body:qaq}{tc:TT}{tb:TS}(hp:PassesOwn (model X.prog X.w) X.A X.env X.xe)(hc:PT X c tc)(hb:iP X body tb):PS X (.While c body [] pos) (Oz tc tb):=by
 intro ε s σ H D I h;obtain⟨W,⟨m0,w0⟩,turn⟩:=h;refine wpAny_While (codeAny_whileLoop (λn s'=>∃σ' H',Inv X ε σ' H' s'/\W n σ' H') ?_ m0 ⟨σ,H,I,w0⟩);rintro n s1 ⟨σ1,H1,I1,w1⟩;refine aai hp (cf (hc ε s1 σ1 H1 _ I1 (turn n σ1 H1 w1)) λb s2 ⟨H2,I2,q2⟩=>?_);cases b with
 |true=>
  obtain⟨N,hN,q2⟩:=q2;refine aai hp (cf (hb ε s2 σ1 H2 _ I2 q2) λf s3 q3=>?_);cases f with
  |next=>obtain⟨σ3,H3,I3,n3⟩:=q3;obtain⟨m',hm,w3⟩:=hN σ3 H3 n3;exact⟨m',hm,σ3,H3,I3,w3⟩
  |cont=>obtain⟨σ3,H3,I3,n3⟩:=q3;obtain⟨m',hm,w3⟩:=hN σ3 H3 n3;exact⟨m',hm,σ3,H3,I3,w3⟩
  |brk=>exact q3
  |ret v=>exact q3
 |false=>exact aay ⟨σ1,H2,I2,q2⟩
end
structure It where
 go:Nat->Hp->Prop
 RW:Nat->Hp->V->Hp->Prop
 stop:Nat->Hp->Prop
def lu(X:Cx)(ε:qaa)(H:Hp)(b:Addr):Prop :=
 H b=none/\b≠X.env.locals/\b∉X.fs/\(b∈X.ex\/X.s₀.heap.objs.size<=b)/\(∀x c,X.env.cells.lookup x=some c->c≠b)/\∀p∈X.pn++ε,p.1≠b
def Inv.m7{X:Cx}{ε:qaa}{σ:St}{H H':Hp}{b:Addr}(I:Inv X ε σ H s)(hb:s.heap.objs.size<=b)(hn:H' b=none):lu X ε H' b:=by refine⟨hn,Iz (qe I.lt hb),I.Yi hb,.inr (ll I.sz hb),λx c e z=>?_,λp hp z=>?_⟩;obtain⟨v,q⟩:=I.cell x c e;exact absurd (qe q.lt (by rw[z];exact hb)) (DC _);exact absurd (qe (eJ (I.pin p hp).1) (by rw[z];exact hb)) (DC _)
structure Turn(P:Program)(w:World)(K:zm)(tg:Expr)(J:It)(fp:Ω)(it:Addr)(tn:Nat->Heap->Prop):Prop where
 mem:it∈fp
 obj:∀i h,tn i h->∀b∈fp,∃o,h.get? b=some o/\∀v,o.data≠.cell v
 keep:∀i h h',tn i h->(∀b∈fp,∀o,h.get? b=some o->h'.get? b=some o)->tn i h'
 item:∀(X:Cx),X.prog=P->X.w=w->X.K=K->X.calm=true->∀(i:Nat)(ε:qaa)(s:Shared)(σ:St)(H:Hp)(E:qad),Inv X ε σ H s->(∀b∈fp,lu X ε H b)->tn i s.heap->J.go i H ->
  wpAny (model P w) X.A (pyNext (.ref it)) (λr s1=>∃u,r=some u /\
   wpAny (model P w) X.A (letOwnedTupleGo tg (.ref it) u) (λ_ s2=>∃x H',Inv X ε σ H' s2/\RelV x u/\J.RW i H x H'/\tn (i+1) s2.heap/\∀b∈fp,H' b=none) E s1) E s
 done:∀(X:Cx),X.prog=P->X.w=w->X.K=K->X.calm=true->∀(i:Nat)(ε:qaa)(s:Shared)(σ:St)(H:Hp)(E:qad),Inv X ε σ H s->(∀b∈fp,lu X ε H b)->tn i s.heap->J.stop i H ->
  wpAny (model P w) X.A (pyNext (.ref it)) (λr s1=>r=none/\Inv X ε σ H s1) E s
 self:∀(A:Around)(i:Nat)(s:Shared)(Q:qad)(E:qad),tn i s.heap->Q (.ref it) s->wpAny (model P w) A (pyIter (.ref it)) Q E s
abbrev TI:=St->Hp->(It->Hp->Prop)->Prop
def PIE(X:Cx)(ε:qaa)(σ:St)(tg:Expr)(R:It->Hp->Prop)(Xa:Value)(s2:Shared):Prop :=
 ∃(it:Addr)(fp:Ω)(tn:Nat->Heap->Prop)(J:It)(H':Hp),Xa=.ref it/\Inv X ε σ H' s2/\Turn X.prog X.w X.K tg J fp it tn/\tn 0 s2.heap/\(∀b∈fp,lu X ε H' b)/\R J H'
def PI(X:Cx)(tg iter:Expr)(wi:TI):Prop :=
 ∀(ε:qaa)(s:Shared)(σ:St)(H:Hp)(R:It->Hp->Prop),Inv X ε σ H s->wi σ H R ->
  wpAny (model X.prog X.w) X.A (eval iter X.env) (λv s1=>wpAny (model X.prog X.w) X.A (pyIter v) (PIE X ε σ tg R) X.xe s1) X.xe s
def vL{M:Model}{E:qad}{tg:Expr}{n:String}{vs:Array Value}{Q:Unit->Shared->Prop}(ho:s.heap.get? it=some o)(hc:o.cls=.type n)(hd:o.data=.fields vs)(hn:["enumerate","zip","dict_itemiterator","dict_reverseitemiterator","odict_iterator","itertools.zip_longest","itertools.pairwise"].contains n=false)(hQ:Q () s):wpAny M A (letOwnedTupleGo tg (.ref it) u) Q E s:=by
 cases tg<;>first
  |exact θ hQ
  | (cases u<;>first
      |exact θ hQ
      | (refine ζ (wpAny_load ho ?_)
         rw[hc,hd];show wpAny M A (if (["enumerate","zip","dict_itemiterator","dict_reverseitemiterator","odict_iterator","itertools.zip_longest","itertools.pairwise"].contains n && vs[0]?==some (rawInt _))=true then _ else _) Q E s;rw[η (by intro h;rw[hn,Iy] at h;cases h)];exact θ hQ))
def Yz(K:zm)(a:Addr):It :=
 ⟨λi H=>∃xs x,fG K H a xs/\xs[i]?=some x,λi H x H'=>H'=H/\∀xs,fG K H a xs->xs[i]?=some x,λi H=>∃xs,fG K H a xs/\xs.length<=i⟩
def YA(K:zm)(a:Addr):It :=
 ⟨λi H=>∃xs x,dS K H a xs/\xs[i]?=some x,λi H x H'=>H'=H/\∀xs,dS K H a xs->xs[i]?=some x,λi H=>∃xs,dS K H a xs/\xs.length<=i⟩
def Xb(lo:Int)(n:Nat):It:=⟨λi _=>i<n,λi H x H'=>H'=H/\x=.int (lo+i),λi _=>n<=i⟩
def BO{K:zm}{tg:Expr}(a it:Addr):Turn P w K tg (Yz K a) [it] it (λi h=>h.IsListIter it a i) where
 mem:=by simp
 obj:=λi h st b hb=>by
  have e:b=it:=by simpa using hb
  subst e;obtain⟨o,e,c,d⟩:=st;exact⟨o,e,λv z=>by rw[d] at z;cases z⟩
 keep:=λi h h' st k=>st.at λo e=>k it (by simp) o e
 item:=by intro X hP hw hK hc i ε s σ H E I hf st hg;subst hP hw hK;obtain⟨xs,x,hq,hx⟩:=hg;obtain⟨aT,rv,p,hz⟩:=I.list hq;obtain⟨u,hu,ru⟩:=rv.get hx;obtain⟨f0,f1,f2,f3,f4,f5⟩:=hf it (by simp);refine wpAny_pyNext_list_item st p.isList (by simpa using hu) λh' st' sb=>?_;have I1:=I.turned (t':=s.toks) (λb o hb e=>(sb.2 b hb).trans e) f0 f1 f3 f4 f5;obtain⟨o,e,c,d⟩:=id st';exact⟨u,rfl,vL e c d (by decide) ⟨x,H,I1,ru,⟨rfl,λys hy=>by rw[I.j4 hy hq];exact hx⟩,st',λb hb=>(hf b hb).1⟩⟩
 done:=by intro X hP hw hK hc i ε s σ H E I hf st hg;subst hP hw hK;obtain⟨xs,hq,hx⟩:=hg;obtain⟨aT,rv,p,hz⟩:=I.list hq;obtain⟨f0,f1,f2,f3,f4,f5⟩:=hf it (by simp);have hl:=rv.length;exact wpAny_pyNext_list_end (I.ok.hd hc) st p.isList (by simp;lia) λh' eb=>⟨rfl,I.turned (t':=s.toks) (λb o hb e=>eb b o hb e) f0 f1 f3 f4 f5⟩
 self:=λ_ _ _ _ _ st h=>wpAny_pyIter_listiter st h
def yl{K:zm}{tg:Expr}(a it:Addr):Turn P w K tg (YA K a) [it] it (λi h=>h.IsTupleIter it a i) where
 mem:=by simp
 obj:=λi h st b hb=>by
  have e:b=it:=by simpa using hb
  subst e;obtain⟨o,e,c,d⟩:=st;exact⟨o,e,λv z=>by rw[d] at z;cases z⟩
 keep:=λi h h' st k=>st.at λo e=>k it (by simp) o e
 item:=by intro X hP hw hK hc i ε s σ H E I hf st hg;subst hP hw hK;obtain⟨xs,x,hq,hx⟩:=hg;obtain⟨aT,rv,p,hz⟩:=I.tuple hq;obtain⟨u,hu,ru⟩:=rv.get hx;obtain⟨f0,f1,f2,f3,f4,f5⟩:=hf it (by simp);refine wpAny_pyNext_tuple_item st (show s.heap.IsTuple a aT.toArray from p) (by simpa using hu) λh' st' sb=>?_;have I1:=I.turned (t':=s.toks) (λb o hb e=>(sb.2 b hb).trans e) f0 f1 f3 f4 f5;obtain⟨o,e,c,d⟩:=id st';exact⟨u,rfl,vL e c d (by decide) ⟨x,H,I1,ru,⟨rfl,λys hy=>by rw[I.lq hy hq];exact hx⟩,st',λb hb=>(hf b hb).1⟩⟩
 done:=by intro X hP hw hK hc i ε s σ H E I hf st hg;subst hP hw hK;obtain⟨xs,hq,hx⟩:=hg;obtain⟨aT,rv,p,hz⟩:=I.tuple hq;obtain⟨f0,f1,f2,f3,f4,f5⟩:=hf it (by simp);have hl:=rv.length;exact wpAny_pyNext_tuple_end (I.ok.hd hc) st (show s.heap.IsTuple a aT.toArray from p) (by simp;lia) λh' eb=>⟨rfl,I.turned (t':=s.toks) (λb o hb e=>eb b o hb e) f0 f1 f3 f4 f5⟩
 self:=λ_ _ _ _ _ st h=>wpAny_pyIter_tupleiter st h
def ym{K:zm}{tg:Expr}(it:Addr)(lo:Int)(n:Nat):Turn P w K tg (Xb lo n) [it] it (λi h=>IsRangeIter h it (lo+(i:Nat) * 1) ((n:Int)-(i:Nat)) 1) where
 mem:=by simp
 obj:=λi h st b hb=>by
  have e:b=it:=by simpa using hb
  subst e;exact⟨_,st,λv z=>by have z':=z;cases z'⟩
 keep:=λi h h' st k=>k it (by simp) _ st
 item:=by intro X hP hw hK hc i ε s σ H E I hf st hg;subst hP hw hK;obtain⟨f0,f1,f2,f3,f4,f5⟩:=hf it (by simp);have W:=Walks.range (prog:=X.prog) (w:=X.w) (I.ok.hd hc) it lo 1 n;refine W.item i s _ _ hg st λv h' tk hv st' kk=>?_;obtain⟨t,rfl⟩:=hv;have I1:Inv X ε σ H {s with heap:=h',toks:=tk}:=I.turned (λb o hb e=>kk b o (by simpa using hb) e) f0 f1 f3 f4 f5;refine⟨_,rfl,vL st' rfl rfl (by decide) ⟨.int (lo+i),H,I1,⟨t,?_⟩,⟨rfl,rfl⟩,st',λb hb=>(hf b hb).1⟩⟩;rw[Int.mul_one]
 done:=by intro X hP hw hK hc i ε s σ H E I hf st hg;subst hP hw hK;obtain⟨f0,f1,f2,f3,f4,f5⟩:=hf it (by simp);exact wpAny_pyNext_range_end (I.ok.hd hc) st (by have:n<=i:=hg;lia) λh' eb=>⟨rfl,I.turned (λb o hb e=>eb b o hb e) f0 f1 f3 f4 f5⟩
 self:=λ_ _ _ _ _ st h=>wpAny_pyIter_rangeiter st h
section
variable{X:Cx}{tg:Expr}
theorem Ea{ε:qaa}{σ:St}{H:Hp}{R:It->Hp->Prop}{E:qad}{lo hi:Int}{t u v:Tok}{tk:Nat}(I:Inv X ε σ H s)(h1 : -(2 ^ 62)<=lo)(h2:lo<2 ^ 62)(h3 : -(2 ^ 62)<=hi)(h4:hi<2 ^ 62)(q:R (Xb lo (hi-lo).toNat) H):wpAny (model X.prog X.w) X.A (pyIter (.ref s.heap.objs.size)) (PIE X ε σ tg R) E {s with heap:=s.heap.push {cls:=.type "range",data:=.fields #[.int lo t,.int hi u,.int 1 v]},toks:=tk}:=by
 refine wpAny_pyIter_range (IsRange.new ..) (small_one h1 h2 h3 h4) ?_;have I1:Inv X ε σ H {s with heap:=s.heap.push {cls:=.type "range",data:=.fields #[.int lo t,.int hi u,.int 1 v]},toks:=tk}:=I.kept λb o e=>dR _ e;refine⟨(s.heap.push {cls:=.type "range",data:=.fields #[.int lo t,.int hi u,.int 1 v]}).objs.size,[(s.heap.push {cls:=.type "range",data:=.fields #[.int lo t,.int hi u,.int 1 v]}).objs.size],_,_,H,rfl,
  I1.kept λb o e=>dR _ e,ym _ lo (hi-lo).toNat,?_,λb hb=>?_,q⟩
 have e1:lo+((0:Nat):Int) * 1=lo:=by simp
 have e2:(((hi-lo).toNat:Nat):Int)-((0:Nat):Int)=Builtin.Range.rangeSize lo hi 1:=by rw[rangeSize_one];split<;>lia
 rw[e1,e2];exact iO _ rfl;have e:b=(s.heap.push {cls:=.type "range",data:=.fields #[.int lo t,.int hi u,.int 1 v]}).objs.size:=by simpa using hb
 subst e;exact I1.m7 (cc _) (I1.bF.fresh (cc _))
def S_(ta:TA):TI:=λσ H R=>ta σ H λvs H1=>∃j:Int,vs=[.int j]/\-(2 ^ 62)<=j/\j<2 ^ 62/\R (Xb 0 j.toNat) H1
theorem BP{a:Expr}{ta:TA}{pos:Pos}(hg:Gl X "range")(hm:X.mg "range"=none)(ha:PA X [a] ta)(hs:starEach [a] X.env=[(false,eval a X.env)]:=by rfl):PI X tg (.Call (.Name "range" p) [a] [] pos) (S_ ta):=by
 intro ε s σ H R I h;refine Call_ (lp I hg hm boot_range (WR (cf (ha pos ε s σ H _ I h) λus s1 ⟨vs,H1,I1,r1,q1⟩=>?_) hs rfl));obtain⟨j,e,q1,q2,q⟩:=q1;subst e;cases r1 with
 |cons r rr=>cases rr;obtain⟨t,rfl⟩:=r;exact call_range_1 (Ea I1 (by lia) (by lia) q1 q2 (by simpa using q))
def Ta(wi:TI)(g:TG)(tb:TS):TS:=λD σ H=>wi σ H λJ H1=>∃W:Nat->Nat->St->Hp->Prop,(∃m,W 0 m σ H1)/\∀i m σ H,W i m σ H ->
 (J.stop i H/\D.nx σ H)\/(J.go i H/\∃N:St->Hp->Prop,(∀σ' H',N σ' H'->∃m',m'<m/\W (i+1) m' σ' H')/\∀x H',J.RW i H x H'->g x σ H' λσ2 H2=>tb {D with nx:=N,ct:=N,bk:=D.nx} σ2 H2)
def oh(fp:Ω)(h:Heap):qaa:=fp.filterMap λb=>(h.get? b).map λo=>(b,o)
def gA{fp:Ω}{b:Addr}(hb:b∈fp)(e:h.get? b=some o):(b,o)∈oh fp h:=W3.mpr ⟨b,hb,by rw[e];rfl⟩
def BQ{fp:Ω}{p:Addr×Obj}(hp:p∈oh fp h):p.1∈fp/\h.get? p.1=some p.2:=by
 obtain⟨b,hb,e⟩:=W3.mp hp;cases q:h.get? b with
 |none=>rw[q] at e;cases e
 |some o=>rw[q] at e;have e':=Option.some.inj e;subst e';exact⟨hb,q⟩
def Inv.pinned{ε:qaa}{σ:St}{H:Hp}{fp:Ω}(I:Inv X ε σ H s)(hf:∀b∈fp,lu X ε H b)(ho:∀b∈fp,∃o,s.heap.get? b=some o/\∀v,o.data≠.cell v):Inv X (ε++oh fp s.heap) σ H s :=
 I.z_ λp hp=>(gx.mp hp).elim (λz=>I.pin p (iN _ z)) λz=>by obtain⟨hb,e⟩:=BQ z;obtain⟨f0,f1,f2,_⟩:=hf p.1 hb;obtain⟨o,e',d⟩:=ho p.1 hb;rw[e] at e';cases e';exact⟨e,f0,f1,f2,d⟩
def Inv.j6{ε pl:qaa}{σ:St}{H:Hp}(I:Inv X (ε++pl) σ H s):Inv X ε σ H s:=I.z_ λp hp=>I.pin p (iN _ (hX _ hp))
def sD{body:qaq}{wi:TI}{g:TG}{tb:TS}{pos:Pos}(hp:PassesOwn (model X.prog X.w) X.A X.env X.xe)(hc:X.calm=true)(hi:PI X tg iter wi)(hg:PG X tg g)(hb:iP X body tb)(hs:∀x,foldedSetIterable iter X.env x=pure x:=by intro _;rfl):PS X (.For tg iter body [] pos) (Ta wi g tb):=by
 intro ε s σ H D I h;refine wpAny_For (cf (hi ε s σ H _ I h) λv s1 h1=>cf h1 λXa s2 h2=>?_) hs;obtain⟨it,fp,tn,J,H2,e,I2,T,qi,f2,W,⟨m0,w0⟩,turn⟩:=h2;subst e;have OA:∀{H':Hp},(∀b∈fp,H' b=none)->∀b∈fp,lu X ε H' b:=λhn b hb=>⟨hn b hb,(f2 b hb).2⟩;refine codeAny_forLoop_any (λn s'=>∃i σ' H',Inv X ε σ' H' s'/\tn i s'.heap/\(∀b∈fp,H' b=none)/\W i n σ' H') ?_ m0 ⟨0,σ,H2,I2,qi,λb hb=>(f2 b hb).1,w0⟩;rintro n s3 ⟨i,σ3,H3,I3,ya,Tc,w3⟩;rcases turn i n σ3 H3 w3 with⟨stop,qn⟩|⟨go,N,hN,step⟩
 . refine aai hp (cf (T.done X rfl rfl rfl hc i ε s3 σ3 H3 X.xe I3 (OA Tc) ya stop) λr s4 ⟨hr,I4⟩=>?_);subst hr;exact aay ⟨σ3,H3,I4,qn⟩
 refine aai hp (cf (T.item X rfl rfl rfl hc i ε s3 σ3 H3 X.xe I3 (OA Tc) ya go) λr s4 ⟨u,hr,h4⟩=>?_);subst hr;refine aai hp (cf h4 λ_ s5 ⟨x,H5,I5,r5,y5,MD,YB⟩=>?_);have I5':=I5.pinned (OA YB) (T.obj _ _ MD);refine aai hp (cf (hg _ s5 σ3 H5 x u _ I5' r5 (step x H5 y5)) λ_ s6 ⟨σ6,H6,I6,q6⟩=>aai hp (cf (hb _ s6 σ6 H6 _ I6 q6) λf s7 q7=>?_));have again:∀{σ7:St}{H7:Hp},Inv X (ε++oh fp s5.heap) σ7 H7 s7->N σ7 H7->∃m,m<n/\∃i σ' H',Inv X ε σ' H' s7/\tn i s7.heap/\(∀b∈fp,H' b=none)/\W i m σ' H':=λ{σ7 H7} I7 n7=>by obtain⟨m',hm,w7⟩:=hN σ7 H7 n7;refine⟨m',hm,i+1,σ7,H7,I7.j6,T.keep _ _ _ MD λb hb o e=>(I7.pin (b,o) (iN _ (iN _ (gA hb e)))).1,λb hb=>?_,w7⟩;obtain⟨o,e,d⟩:=T.obj _ _ MD b hb;exact (I7.pin (b,o) (iN _ (iN _ (gA hb e)))).2.1
 cases f with
 |brk=>obtain⟨σ7,H7,I7,q7⟩:=q7;exact⟨σ7,H7,I7.j6,q7⟩
 |ret v=>obtain⟨x7,σ7,H7,I7,r7,q7⟩:=q7;exact⟨x7,σ7,H7,I7.j6,r7,q7⟩
 |_=>obtain⟨σ7,H7,I7,n7⟩:=q7;exact again I7 n7
end
abbrev R2:=V->V->Hp->VK->Prop
def eM(X:Cx)(f:Value->Value->Sem Value)(r:R2):Prop :=
 ∀(ε:qaa)(s:Shared)(σ:St)(H:Hp)(x y:V)(v u:Value)(Q:VK),Inv X ε σ H s->RelV x v->RelV y u->r x y H Q ->
  wpAny (model X.prog X.w) X.A (f v u) (EP X ε σ Q) X.xe s
def YC(X:Cx)(f:Value->Sem Value)(r:V->Hp->VK->Prop):Prop :=
 ∀(ε:qaa)(s:Shared)(σ:St)(H:Hp)(x:V)(v:Value)(Q:VK),Inv X ε σ H s->RelV x v->r x H Q ->
  wpAny (model X.prog X.w) X.A (f v) (EP X ε σ Q) X.xe s
def c0(X:Cx)(f:Value)(r:List V->Hp->VK->Prop):Prop :=
 ∀(ε:qaa)(s:Shared)(σ:St)(H:Hp)(xs:List V)(us:qag)(Q:VK),Inv X ε σ H s->Vals xs us->r xs H Q ->
  wpAny (model X.prog X.w) X.A (call f us) (EP X ε σ Q) X.xe s
def Td(r:R2)(ta tb:TE):TE:=λσ H Q=>ta σ H λx H1=>tb σ H1 λy H2=>r x y H2 Q
def tUn(r:V->Hp->VK->Prop)(ta:TE):TE:=λσ H Q=>ta σ H λx H1=>r x H1 Q
def rI(C:Int->Int->Prop)(g:Int->Int->V):R2:=λx y H Q=>∃i j,x=.int i/\y=.int j/\C i j/\Q (g i j) H
def qa(g:Int->Int->V):R2:=λx y H Q=>∃i j,x=.int i/\y=.int j/\Q (g i j) H
def rU(g:Int->V):V->Hp->VK->Prop:=λx H Q=>∃i,x=.int i/\Q (g i) H
section
variable{X:Cx}{a b:Expr}{ta tb tc:TE}{pos:Pos}
def OB(ha:PE X a ta)(hb:PE X b tb){ε:qaa}{σ:St}{H:Hp}{R:V->V->Hp->Prop}(I:Inv X ε σ H s)(h:ta σ H λx H1=>tb σ H1 λy H2=>R x y H2){Q:qad}{f:Value->Value->Sem Value}(hf:∀v u s2 x y H2,Inv X ε σ H2 s2->RelV x v->RelV y u->R x y H2->wpAny (model X.prog X.w) X.A (f v u) Q X.xe s2) :
 wpAny (model X.prog X.w) X.A (eval a X.env) (λv s₁=>wpAny (model X.prog X.w) X.A (eval b X.env) (λu s₂=>wpAny (model X.prog X.w) X.A (f v u) Q X.xe s₂) X.xe s₁) X.xe s:=cf (ha ε s σ H _ I h) λv s1 ⟨x,H1,I1,r1,q1⟩=>cf (hb ε s1 σ H1 _ I1 q1) λu s2 ⟨y,H2,I2,r2,q2⟩=>hf v u s2 x y H2 I2 r1 r2 q2
def ME{op:Operator}{r:R2}(ho:eM X (binaryOp op) r)(ha:PE X a ta)(hb:PE X b tb):PE X (.BinOp a op b pos) (Td r ta tb):=by intro ε s σ H Q I h;exact wpAny_BinOp (OB ha hb I h λv u s2 x y H2 I2 rx ry q=>ho ε s2 σ H2 x y v u Q I2 rx ry q)
def Te{op:UnaryOp}{r:V->Hp->VK->Prop}(ho:YC X (unaryOp op) r)(ha:PE X a ta):PE X (.UnaryOp op a pos) (tUn r ta):=by intro ε s σ H Q I h;exact UnaryOp_ (cf (ha ε s σ H _ I h) λv s1 ⟨x,H1,I1,r1,q1⟩=>ho ε s1 σ H1 x v Q I1 r1 q1)
def RX{f:Value->Value->Sem Value}{C:Int->Int->Prop}{g:Int->Int->Int}(rule:∀(i j:Int) (t u:Tok) (s:Shared) (Q:qad) (E:qad),C i j->Q (.int (g i j) s.toks) {s with toks:=s.toks+1}->wpAny (model X.prog X.w) X.A (f (.int i t) (.int j u)) Q E s) :
  eM X f (rI C λi j=>.int (g i j)):=by
 intro ε s σ H x y v u Q I rx ry h;obtain⟨i,j,rfl,rfl,hc,q⟩:=h;obtain⟨t,rfl⟩:=rx;obtain⟨t',rfl⟩:=ry;exact rule i j t t' s _ _ hc ⟨.int (g i j),H,I.tok _,⟨_,rfl⟩,q⟩
def BR{f:Value->Value->Sem Value}{g:Int->Int->Int}(rule:∀(i j:Int) (t u:Tok) (s:Shared) (Q:qad) (E:qad),Q (.int (g i j) s.toks) {s with toks:=s.toks+1}->wpAny (model X.prog X.w) X.A (f (.int i t) (.int j u)) Q E s) :
  eM X f (qa λi j=>.int (g i j)):=by
 intro ε s σ H x y v u Q I rx ry h;obtain⟨i,j,rfl,rfl,q⟩:=h;obtain⟨t,rfl⟩:=rx;obtain⟨t',rfl⟩:=ry;exact rule i j t t' s _ _ ⟨.int (g i j),H,I.tok _,⟨_,rfl⟩,q⟩
def OC{f:Value->Value->Sem Value}{g:Int->Int->Bool}(rule:∀(i j:Int) (t u:Tok) (s:Shared) (Q:qad) (E:qad),Q (.bool (g i j)) s->wpAny (model X.prog X.w) X.A (f (.int i t) (.int j u)) Q E s) :
  eM X f (qa λi j=>.bl (g i j)):=by
 intro ε s σ H x y v u Q I rx ry h;obtain⟨i,j,rfl,rfl,q⟩:=h;obtain⟨t,rfl⟩:=rx;obtain⟨t',rfl⟩:=ry;exact rule i j t t' s _ _ ⟨.bl (g i j),H,I,rfl,q⟩
def Tf(i j:Int):Prop:=0<j/\j<1073741824
def Ji(i j:Int):Prop:=0<=j/\j<=1000000/\i.natAbs<2 ^ 64
def Eb(i j:Int):Prop:=(-(2 ^ 64)<i/\i<2 ^ 64)\/(-(2 ^ 64)<j/\j<2 ^ 64)
def Eb.ok{i j:Int}(h:Eb i j):IntMulOk i j:=by
 obtain⟨h1,h2⟩|⟨h1,h2⟩:=h
 exact .of_left (intBits_le_64 h1 h2);exact .of_right (intBits_le_64 h1 h2)
def yn(k:Nat):(0:Int)<=2 ^ k:=Int.natCast_nonneg _
def OD:eM X (binaryOp .Add) (qa λi j=>.int (i+j)):=BR λ_ _ _ _ _ _ _ q=>add_int q
def OE:eM X (binaryOp .Sub) (qa λi j=>.int (i-j)):=BR λ_ _ _ _ _ _ _ q=>sub_int q
def OF:eM X (binaryOp .Mult) (rI Eb λi j=>.int (i * j)):=RX λ_ _ _ _ _ _ _ hc q=>mul_int q hc.ok
theorem Jj:eM X (binaryOp .FloorDiv) (rI Tf λi j=>.int (i / j)):=RX λi j _ _ _ _ _ hc q=>by have h1:=hc.1;have h2:=hc.2;exact floordiv_int (by lia) (by rw[Int.fdiv_eq_ediv_of_nonneg i (by lia)];exact q) (.inl (PyProof.noPylong_small (by lia)))
theorem OG:eM X (binaryOp .Mod) (rI (λ_ j=>0<j) λi j=>.int (i % j)):=RX λi j _ _ _ _ _ hc q=>mod_int' (by lia) (by rw[Int.fmod_eq_emod_of_nonneg i (by lia)];exact q)
def OH:eM X (binaryOp .Pow) (rI Ji λi j=>.int (i ^ j.toNat)):=RX λ_ _ _ _ _ _ _ hc q=>pow_int_small hc.1 hc.2.1 hc.2.2 q
def OI:eM X (binaryOp .LShift) (rI Ji λi j=>.int (i * 2 ^ j.toNat)):=RX λ_ _ _ _ _ _ _ hc q=>lshift_int_small hc.1 hc.2.1 hc.2.2 q
def OJ:eM X (binaryOp .RShift) (rI (λ_ j=>0<=j) λi j=>.int (i / 2 ^ j.toNat)):=RX λi j _ _ _ _ _ hc q=>
 rshift_int hc (by rw[Int.fdiv_eq_ediv_of_nonneg i (yn _)];exact q)
def OL:eM X (binaryOp .BitAnd) (qa λi j=>.int (Builtin.bitAnd i j)):=BR λ_ _ _ _ _ _ _ q=>and_int q
def Tg:eM X (binaryOp .BitOr) (qa λi j=>.int (Builtin.bitOr i j)):=BR λ_ _ _ _ _ _ _ q=>or_int q
def Jk:eM X (inplaceOp .Add) (qa λi j=>.int (i+j)):=BR λ_ _ _ _ _ _ _ q=>iadd_int q
def OM:eM X (inplaceOp .BitOr) (qa λi j=>.int (Builtin.bitOr i j)):=BR λ_ _ _ _ _ _ _ q=>ior_int q
def unI{f:Value->Sem Value}{g:Int->Int}(rule:∀(i:Int) (t:Tok) (s:Shared) (Q:qad) (E:qad),Q (.int (g i) s.toks) {s with toks:=s.toks+1}->wpAny (model X.prog X.w) X.A (f (.int i t)) Q E s) :
  YC X f (rU λi=>.int (g i)):=by
 intro ε s σ H x v Q I rx h;obtain⟨i,rfl,q⟩:=h;obtain⟨t,rfl⟩:=rx;exact rule i t s _ _ ⟨.int (g i),H,I.tok _,⟨_,rfl⟩,q⟩
def ON:YC X (unaryOp .USub) (rU λi=>.int (-i)):=unI λ_ _ _ _ _ q=>neg_int q
end
section
variable{X:Cx}{a b:Expr}{ta tb tc:TE}{pos:Pos}
def yo{ε:qaa}{σ:St}{H:Hp}{Q:VK}{k k':Bool}(I:Inv X ε σ H s)(q:Q (.bl k) H)(e:k=k'):EP X ε σ Q (.bool k') s:=by subst e;exact⟨.bl k,H,I,rfl,q⟩
def Th:eM X (compareOp .Lt) (qa λi j=>.bl (decide (i<j))):=OC λ_ _ _ _ _ _ _ q=>lt_int q
def MJ:eM X (compareOp .LtE) (qa λi j=>.bl (decide (i<=j))):=OC λ_ _ _ _ _ _ _ q=>le_int q
def Ti:eM X (compareOp .Gt) (qa λi j=>.bl (decide (j<i))):=OC λ_ _ _ _ _ _ _ q=>gt_int q
def BU:eM X (compareOp .In) (λx y H Q=>∃i j,x=.str i/\y=.str j/\Q (.bl (!(Builtin.Str.occurrences j i 0 j.length 1).isEmpty)) H):=by intro ε s σ H x y v u Q I rx ry h;obtain⟨i,j,rfl,rfl,q⟩:=h;obtain⟨t,rfl⟩:=rx;obtain⟨t',rfl⟩:=ry;exact in_str (yo I q rfl)
def Ec:eM X (compareOp .Is) (λx y H Q=>y=.bB/\Q (.bl (decide (x=.bB))) H):=by
 intro ε s σ H x y v u Q I rx ry h;obtain⟨rfl,q⟩:=h;cases ry;refine is_none_gen (yo I q ?_);cases x<;>first
  | (cases rx;rfl)
  | (obtain⟨t,rfl⟩:=rx;rfl)
def Jl:eM X (compareOp .IsNot) (λx y H Q=>y=.bB/\Q (.bl (!decide (x=.bB))) H):=by
 intro ε s σ H x y v u Q I rx ry h;obtain⟨rfl,q⟩:=h;cases ry;refine isnot_none_gen (yo I q ?_);cases x<;>first
  | (cases rx;rfl)
  | (obtain⟨t,rfl⟩:=rx;rfl)
def eM.or{f:Value->Value->Sem Value}{r r':R2}(h:eM X f r)(h':eM X f r'):eM X f (λx y H Q=>r x y H Q\/r' x y H Q):=by
 intro ε s σ H x y v u Q I rx ry q;obtain q|q:=q
 exact h ε s σ H x y v u Q I rx ry q;exact h' ε s σ H x y v u Q I rx ry q
def gB(b:Expr){op:CmpOp}(h:op≠.In:=by decide)(h2:op≠.NotIn:=by decide):behindInMarks op b=false:=by
 have e1:(op==CmpOp.In)=false:=by cases op<;>first|rfl|exact absurd rfl h
 have e2:(op==CmpOp.NotIn)=false:=by cases op<;>first|rfl|exact absurd rfl h2
 cases b<;>simp[behindInMarks,e1,e2]
def Jm{op:CmpOp}{r:R2}(ho:eM X (compareOp op) r)(ha:PE X a ta)(hb:PE X b tb)(hm:behindInMarks op b=false):PE X (.Compare a [op] [b] pos) (Td r ta tb):=by intro ε s σ H Q I h;exact wpAny_Compare1 (OB ha hb I h λv u s2 x y H2 I2 rx ry q=>ho ε s2 σ H2 x y v u Q I2 rx ry q) hm
def MM(t:TE):TT:=λσ H Q=>t σ H λx H'=>∃k,x=.bl k/\Q k H'
def Jn{op:CmpOp}{r:R2}(ho:eM X (compareOp op) r)(ha:PE X a ta)(hb:PE X b tb)(hm:behindInMarks op b=false):PT X (.Compare a [op] [b] pos) (MM (Td r ta tb)):=by
 intro ε s σ H Q I h;refine wpAny_isTrue_Compare1 (cf (ha ε s σ H _ I h) λv s1 ⟨x,H1,I1,r1,q1⟩=>cf (hb ε s1 σ H1 _ I1 q1) λu s2 ⟨y,H2,I2,r2,q2⟩ =>
  cf (ho ε s2 σ H2 x y v u _ I2 r1 r2 q2) λc s3 ⟨z,H3,I3,r3,k,e,q3⟩=>?_) hm
 subst e;cases r3;exact Ξ ⟨H3,I3,q3⟩
def Ed(r r':R2)(ta tb tc:TE):TE:=λσ H Q=>ta σ H λx H1=>tb σ H1 λy H2=>r x y H2 λz H3=>∃k,z=.bl k /\
 (if k=true then tc σ H3 λw' H4=>r' y w' H4 Q else Q (.bl false) H3)
def Ee{op OQ:CmpOp}{r r':R2}(ho:eM X (compareOp op) r)(n5:eM X (compareOp OQ) r')(ha:PE X a ta)(hb:PE X b tb)(hc:PE X c tc)(hm:lastMarks [op,OQ] [b,c]=false:=by with_unfolding_all rfl):PT X (.Compare a [op,OQ] [b,c] pos) (MM (Ed r r' ta tb tc)):=by
 intro ε s σ H Q I h;refine isTrue_chain (cf (ha ε s σ H _ I h) λv s1 ⟨x,H1,I1,r1,q1⟩=>test_link (cf (hb ε s1 σ H1 _ I1 q1) λu s2 ⟨y,H2,I2,r2,q2⟩ =>
  cf (ho ε s2 σ H2 x y v u _ I2 r1 r2 q2) λd s3 ⟨z,H3,I3,r3,k,e,q3⟩=>?_)) hm
 subst e;cases r3;refine Ξ ?_;cases k with
 |false=>obtain⟨k',e',q'⟩:=q3;cases e';exact ite_ff ⟨H3,I3,q'⟩
 |true=>refine ite_tt (test_last (cf (hc ε s3 σ H3 _ I3 q3) λw' s4 ⟨z',H4,I4,r4,q4⟩=>cf (n5 ε s4 σ H4 y z' u w' _ I4 r2 r4 q4) λd' s5 ⟨z2,H5,I5,r5,k2,e2,q5⟩=>?_));subst e2;cases r5;exact Ξ ⟨H5,I5,q5⟩
def lx:(sizeLine:Nat)<2 ^ 63:=by rw[ς];decide
def yp:eM X (binaryOp .Add) (λx y H Q=>∃i j,x=.str i/\y=.str j/\i.length+j.length<=sizeLine/\Q (.str (i++j)) H):=by intro ε s σ H x y v u Q I rx ry h;obtain⟨i,j,rfl,rfl,hz,q⟩:=h;obtain⟨t,rfl⟩:=rx;obtain⟨t',rfl⟩:=ry;exact add_str (λt' tk=>⟨.str (i++j),H,I.tok _,⟨_,rfl⟩,q⟩) hz
def vals1{x:V}{us:qag}(r:Vals [x] us):∃u,us=[u]/\RelV x u:=by
 cases r with
 |cons r1 r2=>cases r2;exact⟨_,rfl,r1⟩
def vals2{x y:V}{us:qag}(r:Vals [x,y] us):∃u w',us=[u,w']/\RelV x u/\RelV y w':=by
 cases r with
 |cons r1 r2=>
  cases r2 with
  |cons r3 r4=>cases r4;exact⟨_,_,rfl,r1,r3⟩
def qW:c0 X (.type "int") (λxs H Q=>(∃i,xs=[.int i]/\Q (.int i) H)\/∃k,xs=[.bl k]/\Q (.int (if k then 1 else 0)) H):=by
 intro ε s σ H xs us Q I r h;obtain⟨i,rfl,q⟩|⟨k,rfl,q⟩:=h
 obtain⟨u,rfl,t,rfl⟩:=vals1 r;exact call_int_int ⟨.int i,H,I,⟨_,rfl⟩,q⟩;obtain⟨u,rfl,r1⟩:=vals1 r;cases r1;exact call_int_bool ⟨.int (if k then 1 else 0),H,I.tok _,⟨_,rfl⟩,q⟩
end
structure BV(h:Heap)(x dx C:Addr)(mA:qae):Prop where
 obj:h.get? x=some (W.instObj C dx)
 ns:h.Ns1 dx mA
 ne:dx≠x
def BW{mA:qae}(n:h.Ns1 dx mA):∃od,h.get? dx=some od/\∀name,W.lookIn name od=some (mA name):=by
 obtain⟨o,es,ep,ho,hd,hk,_,hm⟩:=n;refine⟨o,ho,λname=>?_⟩;have e:=hm name;unfold nsFind findBy at e;rw[<- Array.find?_toList] at e;unfold W.lookIn;rw[hd];dsimp only;split
 rename_i y q
 rw[q] at e;exact rk some e
 rename_i q
 rw[q] at e;have a:es.toList.any (·.refKey)=false:=by rw[List.any_eq_false];intro y hy;obtain⟨z,t,Jo⟩:=hk y (Array.mem_toList_iff.mp hy);simp[DictEntry.refKey,Jo]
 have a':¬ es.toList.any (·.refKey)=true:=by rw[a];exact ja
 rw[η a'];exact rk some e
def BV.look{x:Addr}{mA:qae}(I:BV h x dx C mA):∃od,PySem.W.InstAt h x (W.instObj C dx) C (some od)/\∀name,W.lookIn name od=some (mA name) :=
 let ⟨od,ho,hl⟩:=BW I.ns
 ⟨od,⟨I.obj,rfl,rfl,ho⟩,hl⟩
section
variable{E:qad}{K:zm}{x:Addr}{mA:qae}{name:Str}{v:Value}
def get_map{expr:Bool}{Q:qad}(X:K.In s.heap)(I:BV s.heap x dx C mA)(hg:W.plainGet K C name=true)(hh:W.hasDictIn K C=true)(ha:W.findIn K (.ref C) name=some none)(hv:mA name=some v)(vM:W.handedIn v=true)(h:Q v {s with toks:=s.toks+1}) :
  wpAny (model prog w) A (getAttr (.ref x) name expr) Q E s:=by
 obtain⟨od,J,hl⟩:=I.look;exact W.get_value X J (W.plainGet_of hg).1 (W.findObj_own hh ha rfl (by rw[hl,hv])) vM h
theorem Jp{ns:ω}{Q:Unit->Shared->Prop}(X:K.In s.heap)(I:BV s.heap x dx C mA)(hs:W.findIn K (.ref C) "__setattr__"=some (some (.builtin "object.__setattr__")))(hp:W.plainOver K C=true)(ht:W.takerIn K C name=some none)(hh:W.hasDictIn K C=true)(hw:PySem.Within mA ns)(qj:ns.length<=sizeLine)(h:∀h',BV h' x dx C (λy=>if y=name then some v else mA y)->Heap.SameBut dx s.heap h'->Q () {s with heap:=h',toks:=s.toks+2}) :
  wpAny (model prog w) A (setAttr (.ref x) name v) Q E s:=by
 obtain⟨od,J,hl⟩:=I.look;refine W.set_plain X J hs (W.osa_open X J hp ht λb=>?_);obtain⟨cd,hc,Yj⟩:=W.any_some hh;have hx:=I.obj;refine ζ (θ (ζ (ζ (wpAny_loadPart hx (ζ (PySem.W.Looks.here (W.looks_clsIn X hc) ?_))))));rw[Yj];refine θ (ζ (θ (ζ (wpAny_nsSet1 I.ns λh' Tj BX=>?_))));obtain⟨oD,esD,epD,hoD,hdD,hcD⟩:=Tj.count (PySem.Within.cons name v hw);exact ζ (wpAny_lookBehind hoD (by rw[hdD];exact pastItsLine_dict (ll hcD (by rw[yf];lia))) (θ (h _ ⟨(BX.2 _ (Ne.symm I.ne)).trans I.obj,Tj,I.ne⟩ BX)))
def Ef{R:Result->Shared->Prop}{vs:qag}{kw:List (Str×Value)}(X:K.In s.heap)(hm:W.makesIn K C=true)(hi:W.findIn K (.ref C) "__init__"=some (some (.ref f)))(hf:W.typeIn K (.ref f)=some (.type "function"))(h:codeAny (model prog w) (A.under (.builtin "type.__call__" ⟨.ref C::vs,kw⟩)) (.call (.ref f) ⟨.ref (s.heap.objs.size+1)::vs,kw⟩) (PySem.W.InitBack (s.heap.objs.size+1) R)
   {s with heap:=(s.heap.push W.emptyDict).push (W.instObj C s.heap.objs.size)}) :
 codeAny (model prog w) A (.call (.ref C) ⟨vs,kw⟩) R s:=W.make_core (W.makes_of X hm) (W.looks_findIn X hi) (λself=>W.bind_fn X self hf) (.inl rfl) h
end
noncomputable def ik(f:Str)(v:V):List (Str×V)->List (Str×V)
 |[]=>[(f,v)]
 | (g,x)::r=>if g=f then (g,v)::r else (g,x)::ik f v r
theorem mQ(f g:Str)(v:V):∀fs:List (Str×V),(ik f v fs).lookup g=if g=f then some v else fs.lookup g
 |[]=>by show List.lookup g [(f,v)]=_;by_cases h:g=f;have hb:=aaA.mpr h;simp only[List.lookup,hb,ι h];have hb:=v9.mpr h;simp only[List.lookup,hb,η h]
 | (k,x)::r=>by have ih:=mQ f g v r;rw[show ik f v ((k,x)::r)=(if k=f then (k,v)::r else (k,x)::ik f v r) from rfl];by_cases hk:k=f;rw[ι hk];by_cases h:g=k;have hb:=aaA.mpr h;simp only[List.lookup,hb,ι (h.trans hk)];have hb:=v9.mpr h;simp only[List.lookup,hb,η (λe:g=f=>h (e.trans hk.symm))];rw[η hk];by_cases h:g=k;have hb:=aaA.mpr h;simp only[List.lookup,hb,η (λe:g=f=>hk (h.symm.trans e))];have hb:=v9.mpr h;simp only[List.lookup,hb];exact ih
theorem ly(f:Str)(v:V):∀fs:List (Str×V),f∈(ik f v fs).map (·.1)/\∀g,g∈fs.map (·.1)->g∈(ik f v fs).map (·.1)
 |[]=>⟨by simp[ik],λg h=>by simp at h⟩
 | (k,x)::r=>by
  obtain⟨i1,i2⟩:=ly f v r;rw[show ik f v ((k,x)::r)=(if k=f then (k,v)::r else (k,x)::ik f v r) from rfl];by_cases hk:k=f;rw[ι hk];subst hk;exact⟨by simp,λg h=>by simpa using h⟩;rw[η hk];refine⟨?_,λg h=>?_⟩;rw[jk];exact gz _ i1;rw[jk] at h ⊢;rcases dg.mp h with e|e
  exact dg.mpr (.inl e);exact gz _ (i2 g e)
theorem mR(f:Str)(v:V):∀fs:List (Str×V),(ik f v fs).length<=fs.length+1
 |[]=>by simp[ik]
 | (k,x)::r=>by have ih:=mR f v r;rw[show ik f v ((k,x)::r)=(if k=f then (k,v)::r else (k,x)::ik f v r) from rfl];by_cases hk:k=f;rw[ι hk,yf,yf];lia;rw[η hk,yf,yf];lia
def j1.some_of{v:V}{o:Option Value}(r:j1 (some v) o):∃u,o=some u/\RelV v u:=by
 cases o with
 |none=>exact (show False from r).elim
 |some u=>exact⟨u,rfl,r⟩
def BY{v:V}(r:RelV v u):W.handedIn u=true:=by
 cases v with
 |bB=>cases (show u=Value.none from r);rfl
 |bl b=>cases (show u=Value.bool b from r);rfl
 |int i=>obtain⟨t,e⟩:=(show ∃t,u=Value.int i t from r);cases e;rfl
 |str x=>obtain⟨t,e⟩:=(show ∃t,u=Value.str x t from r);cases e;rfl
 |Yc b=>obtain⟨t,e⟩:=(show ∃t,u=Value.bytes b t from r);cases e;rfl
 |Yd b=>obtain⟨t,e⟩:=(show ∃t,u=Value.float b t from r);cases e;rfl
 |ref a=>cases (show u=Value.ref a from r);rfl
 |ty n=>cases (show u=Value.type n from r);rfl
section
variable{H H':Hp}{a:Addr}{fs Yf:List (Str×V)}
def Ac(bF:jb P w H h)(e:H a=some (.ins C dx fs)):∃mA,BV h a dx C mA/\(∀f,j1 (fs.lookup f) (mA f))/\PySem.Within mA (fs.map (·.1))/\fs.length<=1000/\H dx=some (.own a):=by obtain⟨d,z,ne,ob,mA,n,r,q⟩:=(show bH P w H h a (.ins C dx fs) from bF a _ e);exact⟨mA,⟨ob,n,ne⟩,r,q,z,d⟩
end
structure Eg(K:zm)(C:Addr):Prop where
 pg:W.plainGet K C Str.empty=true
 hd:W.hasDictIn K C=true
 po:W.plainOver K C=true
 sa:W.findIn K (.ref C) "__setattr__"=some (some (.builtin "object.__setattr__"))
def Eg.get{K:zm}{C:Addr}(c:Eg K C)(f:Str):W.plainGet K C f=true:=c.pg
def cp(K:zm)(C:Addr)(f:Str):Prop:=W.findIn K (.ref C) f=some none
def cp.Tn{K:zm}{f:Str}(n:cp K C f):W.takerIn K C f=some none:=by unfold W.takerIn;rw[show W.findIn K (.ref C) f=some none from n];rfl
section
variable{X:Cx}{ε:qaa}{σ:St}{H:Hp}{a:Addr}{fs:List (Str×V)}{f:Str}{v:V}{E:qad}
def yq{b:Bool}{Q:qad}(I:Inv X ε σ H s)(e:H a=some (.ins C dx fs))(c:Eg X.K C)(n:cp X.K C f)(l:fs.lookup f=some v)(h:∀u s',Inv X ε σ H s'->RelV v u->Q u s'):wpAny (model X.prog X.w) A (getAttr (.ref a) f b) Q E s:=by obtain⟨mA,O,r,_,_,_⟩:=Ac I.bF e;obtain⟨u,hu,ru⟩:=j1.some_of (by rw[<- l];exact r f);exact get_map I.vt O (c.get f) c.hd n hu (BY ru) (h u _ (I.tok _) ru)
theorem yr{y:V}{Q:Unit->Shared->Prop}(I:Inv X ε σ H s)(e:H a=some (.ins C dx fs))(c:Eg X.K C)(n:cp X.K C f)(hl:fs.length<1000)(ry:RelV y u)(h:∀s',Inv X ε σ (upd H a (.ins C dx (ik f y fs))) s'->Q () s'):wpAny (model X.prog X.w) A (setAttr (.ref a) f u) Q E s:=by
 obtain⟨mA,O,r,wi,_,ho⟩:=Ac I.bF e;have hz:(fs.map (·.1)).length<=sizeLine:=by rw[bX,ς];lia
 refine Jp I.vt O c.sa c.po n.Tn c.hd wi hz λh' O' sb=>h _ ?_;have hd:∃o,h'.get? dx=some o:=let ⟨o,_,_,e',_⟩:=O'.ns;⟨o,e'⟩;refine I.write (by rw[e];exact True.intro) (.inr ho) (λb q hb z=>(sb.2 b hb).trans z) hd ⟨by rw[ar O.ne];exact ho,?_,O.ne,O'.obj,_,O'.ns,λg=>?_,λg hg=>?_⟩;have:=mR f y fs;lia;rw[mQ];by_cases q:g=f;rw[ι q,ι q];exact ry;rw[η q,η q];exact r g;by_cases q:g=f;rw[q];exact (ly f y fs).1;refine (ly f y fs).2 g (wi g λz=>hg ?_);show (if g=f then some u else mA g)=none;rw[η q];exact z
def Inv.made(I:Inv X ε σ H s):Inv X ε σ (upd (upd H s.heap.objs.size (.own (s.heap.objs.size+1))) (s.heap.objs.size+1) (.ins C s.heap.objs.size []))
  {s with heap:=(s.heap.push W.emptyDict).push (W.instObj C s.heap.objs.size)}:=by
 have e1:(s.heap.push W.emptyDict).get? s.heap.objs.size=some W.emptyDict:=iO s.heap rfl;have e2:((s.heap.push W.emptyDict).push (W.instObj C s.heap.objs.size)).get? (s.heap.objs.size+1)=some (W.instObj C s.heap.objs.size):=by
  have:=iO (s.heap.push W.emptyDict) (o:=W.instObj C s.heap.objs.size) rfl
  rwa [DZ] at this
 have e3:(s.heap.push W.emptyDict).Ns s.heap.objs.size (λ_=>none):=⟨W.emptyDict,#[],_,e1,rfl,(λe he=>absurd he (by simp)),λ_=>rfl⟩;have I1:=I.laid (o:=.own (s.heap.objs.size+1)) (t':=s.toks) (λb u q=>dR _ q) (cc _) ⟨_,e1⟩;refine I1.laid (t':=s.toks) (λb u q=>dR _ q) (Nat.le_of_eq (DZ _ _)) ?_;have ne:s.heap.objs.size≠s.heap.objs.size+1:=jX (DA _);refine⟨by rw[ar ne,aA],h_ _,ne,e2,λ_=>none,(Heap.Ns1.of_empty e3).at λo q=>dR _ q,λ_=>True.intro,λy hy=>absurd rfl hy⟩
def Jq{env:Env}{f:Str}{pos:Pos}{Q:qad}(hb:attributeBase e f env (eval e env)=eval e env)(h:wpAny (model prog w) A (eval e env) (λo s₁=>wpAny (model prog w) A (getAttr o f true) Q E s₁) E s):wpAny (model prog w) A (eval (.Attribute e f pos) env) Q E s :=
 Attribute_any_ h (by rw[arm_eval_Attribute,hb])
end
def YD(K:zm)(ta:TE)(f:Str):TE:=λσ H Q=>ta σ H λx H1=>∃a C dx fs v,x=.ref a/\H1 a=some (.ins C dx fs)/\Eg K C/\cp K C f/\fs.lookup f=some v/\Q v H1
noncomputable def YE(K:zm)(ta tv:TE)(f:Str):TS:=λD σ H=>tv σ H λy H1=>ta σ H1 λx H2=>∃a C dx fs,x=.ref a/\H2 a=some (.ins C dx fs)/\Eg K C/\cp K C f/\fs.length<1000 /\
 D.nx σ (upd H2 a (.ins C dx (ik f y fs)))
section
variable{X:Cx}{o value:Expr}{f:Str}{pos:Pos}{ta tv:TE}
def yt(he:PE X e ta)(hb:attributeBase e f X.env (eval e X.env)=eval e X.env):PE X (.Attribute e f pos) (YD X.K ta f):=by intro ε s σ H Q I h;refine Jq hb (cf (he ε s σ H _ I h) λu s1 ⟨x,H1,I1,rx,a,C,dx,fs,v,ex,ea,c,n,l,q⟩=>?_);subst ex;obtain rfl:=rx;exact yq I1 ea c n l λu' s2 I2 ru=>⟨v,H1,I2,ru,q⟩
def OR(ha:PE X o ta)(hv:PE X value tv)(hs:swapsWith value (some (.Attribute o f pos')) pos.line X.env=pure false):PS X (.Assign [.Attribute o f pos'] value pos) (YE X.K ta tv f):=by intro ε s σ H D I h;refine plainObj_wpAny_Assign_Attribute (cf (hv ε s σ H _ I h) λu s1 ⟨y,H1,I1,ry,q⟩=>cf (ha ε s1 σ H1 _ I1 q) λov s2 ⟨x,H2,I2,rx,a,C,dx,fs,ex,ea,c,n,l,q2⟩=>?_) hs;subst ex;obtain rfl:=rx;exact yr I2 ea c n l ry λs3 I3=>⟨σ,_,I3,q2⟩
end
structure bA(k:Nat)(A:Around):Prop where
 hd:A.handled=none
 dp:A.depth+3 * k+5<recursionLimit
 un:A.units+16 * k+200<cLine
def bA.mono{k:Nat}(r:bA k A)(h:j<=k):bA j A:=⟨r.hd,by have:=r.dp;lia,by have:=r.un;lia⟩
def bA.deeper{k:Nat}(r:bA (k+1) A)(env:Env):bA k (A.deeper env) :=
 ⟨r.hd,by have:=r.dp;show A.depth+1+3 * k+5<_;lia,by have:=r.un;show A.units+3+16 * k+200<_;lia⟩
def yu{us:qag}{kw:List (Str×Value)}:(A.under (.builtin "type.__call__" ⟨.ref C::us,kw⟩)).depth=A.depth+1:=by first|rfl|simp[Around.under,Code.weight,Code.isCreation,Code.isGuard,Code.isCaller,Code.frames,Code.isFrame,guardIds]
def yw{us:qag}{kw:List (Str×Value)}:(A.under (.builtin "type.__call__" ⟨.ref C::us,kw⟩)).units=A.units+1:=by first|rfl|simp[Around.under,Code.cUnits,Code.frames,Code.isFrame]
def bA.make{k:Nat}(r:bA (k+1) A)(C:Addr)(us:qag)(kw:List (Str×Value)):bA k (A.under (.builtin "type.__call__" ⟨.ref C::us,kw⟩)) :=
 ⟨r.hd,by have:=r.dp;rw[yu];lia,by have:=r.un;rw[yw];lia⟩
def bA.depth{k:Nat}(r:bA k A):A.depth<recursionLimit:=by have:=r.dp;lia
def YF:TA:=λ_ H Q=>Q [] H
def To(ta:TE)(tr:TA):TA:=λσ H Q=>ta σ H λx H1=>tr σ H1 λxs H2=>Q (x::xs) H2
section
variable{X:Cx}{es:qap}{te:TE}{t:TA}{pos:Pos}
def cX:PA X [] YF:=λ_ _ _ _ H Q I h=>Calls.spliced_nil ⟨[],H,I,.nil,h⟩
def bD(ha:PE X e te)(hr:PA X es t)(hs:starEach (e::es) X.env=(false,eval e X.env)::starEach es X.env:=by rfl):PA X (e::es) (To te t):=by intro pos ε s σ H Q I h;rw[hs];exact Calls.spliced_cons (cf (ha ε s σ H _ I h) λu s1 ⟨x,H1,I1,r1,q1⟩=>cf (hr pos ε s1 σ H1 _ I1 q1) λus s2 ⟨xs,H2,I2,r2,q2⟩=>⟨x::xs,H2,I2,.cons r1 r2,q2⟩)
def YG(t:TA):TE:=λσ H Q=>t σ H λxs H1=>xs.length<=sizeLine/\∀p,H1 p=none->Q (.ref p) (upd H1 p (.tup xs))
def YH(t:TA):TE:=λσ H Q=>t σ H λxs H1=>xs.length<=sizeLine/\∀p,H1 p=none->Q (.ref p) (upd H1 p (.lst xs))
def lz{x1}(h:PA X es t):PE X (.Tuple es x1 pos) (YG t):=by intro ε s σ H Q I hq;refine wpAny_Tuple_spliced (cf (h pos ε s σ H _ I hq) λus s1 ⟨xs,H1,I1,r,z,q⟩=>⟨by rw[<- r.length];exact z,?_⟩);have hf:=I1.bF.fresh (cc _);refine⟨.ref s1.heap.objs.size,upd H1 s1.heap.objs.size (.tup xs),I1.laid (λb u e=>dR _ e) (cc _) ?_,rfl,q _ hf⟩;exact⟨z,us,r,⟨_,iO _ rfl,rfl,_,rfl⟩⟩
def OS(h:PA X es t):PE X (.List es pos) (YH t):=by intro ε s σ H Q I hq;refine wpAny_List_spliced (cf (h pos ε s σ H _ I hq) λus s1 ⟨xs,H1,I1,r,z,q⟩=>⟨by rw[<- r.length];exact z,?_⟩);have hf:=I1.bF.fresh (cc _);refine⟨.ref s1.heap.objs.size,upd H1 s1.heap.objs.size (.lst xs),I1.laid (λb u e=>dR _ e) (cc _) ?_,rfl,q _ hf⟩;exact⟨z,us,0,r,iO _ rfl⟩
end
abbrev Sp:=List V->Hp->VK->XK->Prop
abbrev DG:=List Env->Hp->Shared->XK->qad
structure yx(P:Program)(w:World)(K:zm)(mg:qae)(base:Heap)(A:Around)(outer:List Env)(s:Shared)(H:Hp):Prop where
 frames:A.frames=some outer
 mod:Mod K mg base
 bs:∀b o,base.get? b=some o->s.heap.get? b=some o/\H b=none
 IZ:base.objs.size<=s.heap.objs.size
 m5:s.heap.FunFrames base outer
 Of:∀b∈DF outer,H b=none
 bF:jb P w H s.heap
 bare:AllBare s.gens
def CE(outer:List Env)(P:Program)(w:World)(H:Hp)(s:Shared)(Q:VK)(u:Value)(s':Shared):Prop :=
 ∃v H',s'.os=s.os/\AllBare s'.gens/\Un (DF outer) [] H H' s.heap s'.heap/\jb P w H' s'.heap/\RelV v u/\Q v H'
def CR(CX:DG)(outer:List Env)(P:Program)(w:World)(H:Hp)(s:Shared)(Q:VK)(E:XK)(r:Result)(s':Shared):Prop :=
 match r with
 |.ok (.ret u)=>CE outer P w H s Q u s'
 |.ok _=>False
 |.error e=>CX outer H s E e s'
structure dA(P:Program)(w:World)(K:zm)(mg:qae)(base:Heap)(CX:DG)(k:Nat)(f:Addr)(fd:FuncData)(ps:ω)(sp:Sp):Prop where
 len:∀vs H Q E,sp vs H Q E->vs.length=ps.length
 run:∀(A:Around)(outer:List Env)(s:Shared)(H:Hp)(args:Args)(us:qag)(vs:List V)(Q:VK)(E:XK),bA k A->yx P w K mg base A outer s H->BindsTo s fd args (ps.zip us)->Vals vs us->sp vs H Q E ->
  codeAny (model P w) A (.call (.ref f) args) (CR CX outer P w H s Q E) s
def yx.make{K:zm}{mg:qae}{outer:List Env}{H:Hp}(e:yx P w K mg base A outer s H)(C:Addr)(us:qag)(kw:List (Str×Value)) :
 yx P w K mg base (A.under (.builtin "type.__call__" ⟨.ref C::us,kw⟩)) outer s H:=⟨by first|exact e.frames|(simpa[Around.under,Code.envs,Code.isFrame,pushEnvs] using e.frames),e.mod,e.bs,e.IZ,e.m5,e.Of,e.bF,e.bare⟩
section
variable{X:Cx}{ε:qaa}{σ:St}{H:Hp}
def Inv.Tp(I:Inv X ε σ H s):yx X.prog X.w X.K X.mg X.base X.A X.stack s H :=
 ⟨I.ok.frames,I.ok.mod,I.bs,ll I.ok.IZ I.sz,I.stack,I.z9,I.bF,I.bare⟩
def Inv.after{Q:VK}(I:Inv X ε σ H s)(h:CE X.stack X.prog X.w H s Q u s'):EP X ε σ Q u s':=by obtain⟨v,H',os,bare,un,bF,r,q⟩:=h;obtain⟨hh,g,d,t,os'⟩:=s';obtain rfl:=os;exact⟨v,H',I.call un bF bare (λb z=>absurd z (by simp)),r,q⟩
end
def Tq(sp:Sp)(yy:List V)(E:XK)(t:TA):TE:=λσ H Q=>t σ H λvs H1=>sp (vs++yy) H1 Q E
def Ts(C:Addr)(sp:Sp)(yy:List V)(E:XK)(t:TA):TE:=λσ H Q=>t σ H λvs H1=>∀x dx,H1 x=none->H1 dx=none->dx≠x ->
 sp (.ref x::(vs++yy)) (upd (upd H1 dx (.own x)) x (.ins C dx [])) (λv H2=>v=.bB/\Q (.ref x) H2) E
def Binds(K:zm)(fd:FuncData)(ps:ω)(ds:qag):Prop :=
 ∀(s:Shared)(us:qag),K.In s.heap->(us++ds).length=ps.length->BindsTo s fd ⟨us,[]⟩ (ps.zip (us++ds))
def Binds.all{K:zm}{ps:ω}(h:∀us:qag,us.length=ps.length->bindArgs fd ⟨us,[]⟩=pure (ps.zip us)):Binds K fd ps []:=λs us _ hl=>by rw[BH] at hl ⊢;exact .of_eq (h us hl)
def Passes(CX:DG)(X:Cx)(E:XK):Prop:=∀(ε:qaa)(σ:St)(H:Hp)(s:Shared)(e:Value)(s':Shared),Inv X ε σ H s->CX X.stack H s E e s'->X.xe e s'
section
variable{X:Cx}{CX:DG}{k:Nat}{ps:ω}{sp:Sp}{yy:List V}{ds:qag}{E:XK}{m:Str}{pos:Pos}{o:Expr}{es:qap}{ta:TE}{t:TA}
def OT{ε:qaa}{σ:St}{H:Hp}{Q:VK}{us:qag}{vs:List V}(F:dA X.prog X.w X.K X.mg X.base CX k f fd ps sp)(hr:bA k X.A)(hb:Binds X.K fd ps ds)(hd:Vals yy ds)(hx:Passes CX X E)(I:Inv X ε σ H s)(r:Vals vs us)(h:sp (vs++yy) H Q E):wpAny (model X.prog X.w) X.A (call (.ref f) us) (EP X ε σ Q) X.xe s:=by
 have r2:=r.append hd;have hl:(us++ds).length=ps.length:=by rw[<- r2.length];exact F.len _ _ _ _ h
 refine wpAny_call (codeAny_mono (F.run X.A X.stack s H ⟨us,[]⟩ (us++ds) (vs++yy) Q E hr I.Tp (hb s us I.vt hl) r2 h) λr s' hq=>?_);cases r with
 |error e=>exact hx ε σ H s e s' I hq
 |ok fl=>
  cases fl with
  |ret u=>exact I.after hq
  |_=>exact False.elim hq
def iQ(F:dA X.prog X.w X.K X.mg X.base CX k f fd ps sp)(hr:bA k X.A)(hg:Gl X x)(hm:X.mg x=some (.ref f))(hk:W.keepIn X.K (.ref f)=true)(hb:Binds X.K fd ps ds)(hd:Vals yy ds)(hx:Passes CX X E)(ha:PA X (e::es) t)(qk:f7 x:=by decide)(he:starEach (e::es) X.env=(false,eval e X.env)::starEach es X.env:=by rfl)(j7:(backTo pos (starEach es X.env)).any (·.1)=false:=by rfl) :
  PE X (.Call (.Name x p) (e::es) [] pos) (Tq sp yy E t):=by
 intro ε s σ H Q I h;exact aar (sy I hg hm (W.callWith_K I.ok.mod.W9 hk (cf (ha pos ε s σ H _ I h) λus s1 ⟨vs,H1,I1,r,q⟩=>⟨I1.vt,OT F hr hb hd hx I1 r q⟩) he j7) qk)
structure Mk(K:zm)(C f:Addr):Prop where
 makes:W.makesIn K C=true
 init:W.findIn K (.ref C) "__init__"=some (some (.ref f))
 fn:W.isFn K (.ref f)=true
 kp:W.keepIn K (.ref C)=true
theorem Eh{ε:qaa}{σ:St}{H:Hp}{Q:VK}{us:qag}{vs:List V}(M:Mk X.K C f)(F:dA X.prog X.w X.K X.mg X.base CX k f fd ps sp)(hr:bA (k+1) X.A)(hb:Binds X.K fd ps ds)(hd:Vals yy ds)(hx:Passes CX X E)(I:Inv X ε σ H s)(r:Vals vs us)(h:∀x dx,H x=none->H dx=none->dx≠x->sp (.ref x::(vs++yy)) (upd (upd H dx (.own x)) x (.ins C dx [])) (λv H2=>v=.bB/\Q (.ref x) H2) E) :
  wpAny (model X.prog X.w) X.A (call (.ref C) us) (EP X ε σ Q) X.xe s:=by
 have hq:=h (s.heap.objs.size+1) s.heap.objs.size (I.bF.fresh (Mz _)) (I.bF.fresh (cc _)) (jX (DA _));have I2:=Inv.made (C:=C) I;have r2:Vals (V.ref (s.heap.objs.size+1)::(vs++yy)) (Value.ref (s.heap.objs.size+1)::(us++ds)):=.cons rfl (r.append hd);have hl:(Value.ref (s.heap.objs.size+1)::us++ds).length=ps.length:=by have e:=r2.length;rw[F.len _ _ _ _ hq] at e;exact e.symm
 refine wpAny_call (Ef I.vt M.makes M.init (aaA.mp M.fn) (codeAny_mono (F.run _ X.stack _ _ ⟨Value.ref (s.heap.objs.size+1)::us,[]⟩ (Value.ref (s.heap.objs.size+1)::(us++ds)) _ _ E (hr.make C us [])
  (I2.Tp.make C us []) (hb _ (Value.ref (s.heap.objs.size+1)::us) I2.vt hl) r2 hq) λr s' qX=>?_))
 cases r with
 |error e=>exact hx ε σ _ _ e s' I2 qX
 |ok fl=>
   cases fl with
   |ret u=>obtain⟨v,H',I3,rv,ev,q3⟩:=I2.after qX;subst ev;exact⟨rv,⟨V.ref (s.heap.objs.size+1),H',I3,rfl,q3⟩⟩
   |_=>exact False.elim qX
def Ad(M:Mk X.K C f)(F:dA X.prog X.w X.K X.mg X.base CX k f fd ps sp)(hr:bA (k+1) X.A)(hg:Gl X x)(hm:X.mg x=some (.ref C))(hb:Binds X.K fd ps ds)(hd:Vals yy ds)(hx:Passes CX X E)(ha:PA X (e::es) t)(qk:f7 x:=by decide)(he:starEach (e::es) X.env=(false,eval e X.env)::starEach es X.env:=by rfl)(j7:(backTo pos (starEach es X.env)).any (·.1)=false:=by rfl) :
  PE X (.Call (.Name x p) (e::es) [] pos) (Ts C sp yy E t):=by
 intro ε s σ H Q I h;exact aar (sy I hg hm (W.callWith_K I.ok.mod.W9 M.kp (cf (ha pos ε s σ H _ I h) λus s1 ⟨vs,H1,I1,r,q⟩=>⟨I1.vt,Eh M F hr hb hd hx I1 r q⟩) he j7) qk)
end
section
variable{X:Cx}{CX:DG}{k:Nat}{ps ks:ω}{sp:Sp}{E:XK}{m:Str}{pos yz:Pos}{o:Expr}{es:qap}{kws:List Keyword}{te ta:TE}{t tk:TA}{nm:Option Str}
variable{g:qag->qag->qag}{gV:List V->List V->List V}
end
structure aJ(N P:ω)(sc:Scope):Prop where
 kind:sc.kind=.function
 co:sc.isCoroutine=false
 gen:sc.isGenerator=false
 nd:N.Nodup
 pre:N.take P.length=P
 par:∀x∈P,sc.names.lookup x=some .local\/sc.names.lookup x=some .cell
 OU:∀y∈sc.names,y.2≠.free
def il{N P:ω}(a:sc.kind=.function:=by rfl)(b:sc.isCoroutine=false:=by rfl)(c:sc.isGenerator=false:=by rfl)(d:N.Nodup:=by decide +kernel)(e:N.take P.length=P:=by rfl)(f:∀x∈P,sc.names.lookup x=some .local\/sc.names.lookup x=some .cell:=by decide +kernel)(g:∀y∈sc.names,y.2≠.free:=by decide +kernel):aJ N P sc:=⟨a,b,c,d,e,f,g⟩
theorem qY{kindOf:Str->Option NameKind}{x:Str}:∀{binds:List (Str×Value)}{m:qae},(∀v,(x,v)∉binds)->bindL kindOf binds m x=m x
 |[],_,_=>rfl
 | (n,v)::r,m,h=>by
  unfold bindL;rw[qY λw hw=>h w (gz _ hw)];split;have:x≠n:=by rintro rfl;exact h v fB
  simp[this];rfl
theorem qZ{kindOf:Str->Option NameKind}{x:Str}:∀{binds:List (Str×Value)}{m:qae},(∀v,(x,v)∉binds)->bindC kindOf binds m x=m x
 |[],_,_=>rfl
 | (n,v)::r,m,h=>by
  unfold bindC;rw[qZ λw hw=>h w (gz _ hw)];split;rfl;have:x≠n:=by rintro rfl;exact h v fB
  simp[this]
theorem q8{kindOf:Str->Option NameKind}{x:Str}{v:Value}:∀{P:ω}{vs:qag}{i:Nat}{m:qae},P.Nodup->P[i]?=some x->vs[i]?=some v->kindOf x=some .local ->
  bindL kindOf (P.zip vs) m x=some v
 |[],_,_,_,_,h,_,_=>by simp at h
 |_::_,[],_,_,_,_,h,_=>by simp at h
 |p::P,w::vs,0,m,nd,h1,h2,hk=>by simp at h1 h2;subst h1;subst h2;show bindL kindOf ((p,w)::P.zip vs) m p=_;unfold bindL;rw[qY λv hv=>(nY.mp nd).1 (List.of_mem_zip hv).1,ι hk];simp
 |p::P,w::vs,i+1,m,nd,h1,h2,hk=>by unfold bindL;exact q8 (nY.mp nd).2 (by simpa using h1) (by simpa using h2) hk
theorem q9{kindOf:Str->Option NameKind}{x:Str}{v:Value}:∀{P:ω}{vs:qag}{i:Nat}{m:qae},P.Nodup->P[i]?=some x->vs[i]?=some v->kindOf x≠some .local ->
  bindC kindOf (P.zip vs) m x=some v
 |[],_,_,_,_,h,_,_=>by simp at h
 |_::_,[],_,_,_,_,h,_=>by simp at h
 |p::P,w::vs,0,m,nd,h1,h2,hk=>by simp at h1 h2;subst h1;subst h2;show bindC kindOf ((p,w)::P.zip vs) m p=_;unfold bindC;rw[qZ λv hv=>(nY.mp nd).1 (List.of_mem_zip hv).1,η hk];simp
 |p::P,w::vs,i+1,m,nd,h1,h2,hk=>by unfold bindC;exact q9 (nY.mp nd).2 (by simpa using h1) (by simpa using h2) hk
noncomputable def start(N:ω)(vs:List V):St:=vs.map some++List.replicate (N.length-vs.length) none
noncomputable def jD(CX:DG)(P:Program)(w:World)(K:zm)(mg:qae)(base:Heap)(N:ω)(qual:Str)(scope:Scope)(f:Addr)(cd:Value)(A:Around)(outer:List Env)(s:Shared)(H:Hp)(E:XK):Cx where
 prog:=P
 w:=w
 K:=K
 mg:=mg
 base:=base
 A:=A.deeper (envOfC qual scope s.heap.objs.size f cd)
 N:=N
 s₀:=s
 H₀:=H
 env:=envOfC qual scope s.heap.objs.size f cd
 outer:=outer
 stack:=envOfC qual scope s.heap.objs.size f cd::outer
 ex:=[]
 calm:=true
 fn:=λ_=>true
 pn:=[]
 xe:=λe s'=>wpAny (model P w) (A.deeper (envOfC qual scope s.heap.objs.size f cd)) (leaving (envOfC qual scope s.heap.objs.size f cd) e) (λ_ Tt=>CX outer H s E e Tt) (λe' Tt=>CX outer H s E e' Tt) s'
def vN(h:sc.names.lookup x=some .cell):∃c,(cellsFrom n sc.names []).lookup x=some c:=by have q:=W.cellsFrom_some sc.names n [] (.inl h);exact Option.isSome_iff_exists.mp q
def BZ{CX:DG}{K:zm}{mg:qae}{N ps:ω}{scope:Scope}{cd:Value}{outer:List Env}{s1:Shared}{H:Hp}{E:XK}{us:qag}{vs:List V}(S:aJ N ps scope)(hd:A.handled=none)(e0:yx P w K mg base A outer s H)(hl:vs.length=ps.length)(r:Vals vs us)(x:InCallC s s.heap.objs.size (bindL (envOfC qual scope s.heap.objs.size f cd).kindOf (ps.zip us) λ_=>none) (cellsFrom (s.heap.objs.size+1) scope.names []) (bindC (envOfC qual scope s.heap.objs.size f cd).kindOf (ps.zip us) λ_=>none) s1) :
  Inv (jD CX P w K mg base N qual scope f cd A outer s H E) [] (start N vs) H s1:=by
 have j7:ps.length<=N.length:=by have:=rk List.length S.pre;rw[IT] at this;lia
 obtain⟨h1,tk,rfl,hk⟩:=x.done;have Tu:∀b:Addr,b∉(jD CX P w K mg base N qual scope f cd A outer s H E).ex:=λb z=>absurd (show b∈([]:Ω) from z) (by simp);refine⟨⟨e0.mod,S.kind,rfl,rfl,cc _,λy z c h1 h2=>?_,λy hy=>?_,λy c _ h=>?_,λ_=>hd,Around.frames_deeper e0.frames,.inr ⟨rfl,rfl⟩,λb z=>absurd z (Tu b),e0.bs,e0.IZ,λb _ _=>Tu b,λb z=>absurd z (Tu b),e0.m5,e0.Of⟩,
  rfl,e0.bare,Un.kept hk,⟨_,x.toInCall.ns,λi y v h1 h2 h3=>?_⟩,λy c h=>⟨_,x.cell y c h⟩,e0.bF.fresh (cc _),λy c h=>?_,λp hp=>absurd (show p∈([]:qaa) from hp) (by simp),e0.bF.kept hk,?_⟩
 exact name_of_addr x.apart (Mu h1) (Mu h2);have hy:=hy;obtain hy|hy:=hy
 exact vN hy;exact absurd rfl (S.OU _ (Mu hy));exact Nat.le_of_lt (x.above y c (Mu h));have hi:i<vs.length:=by unfold start at h2;by_cases hi:i<vs.length;exact hi;rw[p8 (by simpa using hi)] at h2;rw[DV] at h2;split at h2<;>cases h2
 have ha:vs[i]?=some v:=by
  unfold start at h2;rw[mK (by simpa using hi),fD] at h2;cases e:vs[i]? with
  |none=>rw[e] at h2;cases h2
  |some a=>rw[e] at h2;cases h2;rfl
 obtain⟨u,hu,rv⟩:=r.get ha;have hp:ps[i]?=some y:=by rw[<- S.pre,List.getElem?_take_of_lt (by lia)];exact h1
 have ndP:ps.Nodup:=by rw[<- S.pre];exact S.nd.sublist (List.take_sublist _ _)
 refine⟨u,rv,?_⟩;rcases S.par y (f_ hp) with k|k
 exact .inl ⟨k,q8 ndP hp hu k⟩;obtain⟨c,e⟩:=vN k;refine .inr ⟨.inl k,c,e,?_⟩;have q:=x.cell y c e;rw[q9 ndP hp hu (by show scope.names.lookup y≠_;rw[k];decide)] at q;exact q;exact e0.bF.fresh (Nat.le_of_lt (x.above y c (Mu h)));unfold start;show _=N.length;rw[nX,bX,Ms]
 lia
theorem Ei{CX:DG}{K:zm}{mg:qae}{k:Nat}{name:Str}{params:Arguments}{body:qaq}{scope:Scope}{dV kV doc pm bP ct oc:Value}{an od:qar}{IC:Array (Option Value)}{N ps:ω}{sp:Sp}(lk:K.lookup f=some ⟨oc,od,.func (W.fnOf name qual params body scope dV kV doc pm an bP ct),IC⟩)(fO:W.codeIn K bP qual=true)(S:aJ N ps scope)(len:∀vs H Q E,sp vs H Q E->vs.length=ps.length)(eQ:∀(A:Around) (outer:List Env) (s:Shared) (H:Hp) (vs:List V) (Q:VK) (E:XK),bA k (A.deeper (envOfC qual scope s.heap.objs.size f bP))->sp vs H Q E ->
    ∃t,iP (jD CX P w K mg base N qual scope f bP A outer s H E) body t/\t {nx:=λ_ H'=>Q .bB H',rt:=Q} (start N vs) H) :
  dA P w K mg base CX (k+1) f (W.fnOf name qual params body scope dV kV doc pm an bP ct) ps sp:=by
 refine⟨len,λA outer s H args us vs Q E hr e0 hb r RY=>?_⟩;have hl:=len _ _ _ _ RY;have KX:=e0.mod.W9.keeps λb o e=>(e0.bs b o e).1;have lim:=e0.mod.nolimit.keeps λb o e=>(e0.bs b o e).1;have Tv:∀y∈ps.zip us,scope.names.lookup y.1=some .local\/(scope.names.lookup y.1=some .cell/\((cellsFrom (s.heap.objs.size+1) scope.names []).lookup y.1).isSome=true):=λ⟨n,v⟩ hy=>by
  rcases S.par n (List.of_mem_zip hy).1 with q|q
  exact .inl q;exact .inr ⟨q,W.cellsFrom_some _ _ _ (.inl q)⟩
 refine codeAny_call_function hr.depth (KX _ _ lk) rfl S.co S.gen rfl (W.codeRec_of KX fO) (hb _ _ _ _ (wpAny_newFunctionEnv_cells S.kind Tv λenv he s1 x=>?_));subst he;refine⟨lim.keeps x.toInCall.keep,codeAny_func ?_⟩;obtain⟨t,ht,hq⟩:=eQ A outer s H vs Q E (hr.deeper _) RY;have I:Inv (jD CX P w K mg base N qual scope f bP A outer s H E) [] (start N vs) H s1:=BZ S hr.hd e0 hl r x;refine Φ (ht [] s1 (start N vs) H _ I hq) (λfl s' hs=>?_) λe s' hs=>hs;have fin:∀{σ':St}{H':Hp}{v:V}{u:Value},Inv (jD CX P w K mg base N qual scope f bP A outer s H E) [] σ' H' s'->RelV v u->Q v H'->CE outer P w H s Q u s' :=
  λ{σ' H' v u} J rv q=>⟨v,H',J.os,J.bare,J.base,J.bF,rv,q⟩
 cases fl with
 |ret u=>obtain⟨v,σ',H',J,rv,q⟩:=hs;exact fin J rv q
 |next=>obtain⟨σ',H',J,q⟩:=hs;exact fin (v:=V.bB) J rfl q
 |brk=>obtain⟨_,_,_,q⟩:=hs;exact False.elim q
 |cont=>obtain⟨_,_,_,q⟩:=hs;exact False.elim q
section
variable{X:Cx}{pos:Pos}{es:qap}{t:TA}{id T:String}{r:List V->Hp->VK->Prop}
def tCB(r:List V->Hp->VK->Prop)(t:TA):TE:=λσ H Q=>t σ H λvs H1=>r vs H1 Q
def oj(hc:c0 X (.builtin id) r)(hg:Gl X x)(hm:X.mg x=none)(hv:bootBuiltins x=some (.builtin id))(ha:PA X (e::es) t)(hn:x≠"__name__":=by decide)(qk:f7 x:=by decide)(he:starEach (e::es) X.env=(false,eval e X.env)::starEach es X.env:=by rfl)(j7:(backTo pos (starEach es X.env)).any (·.1)=false:=by rfl):PE X (.Call (.Name x p) (e::es) [] pos) (tCB r t):=by intro ε s σ H Q I h;exact aar (lp I hg hm hv (PyProof.Rows.callWith_builtin1 (cf (ha pos ε s σ H _ I h) λus s1 ⟨vs,H1,I1,r1,q1⟩=>hc ε s1 σ H1 vs us Q I1 r1 q1) he j7) hn qk)
def B0(hc:c0 X (.type T) r)(hg:Gl X x)(hm:X.mg x=none)(hv:bootBuiltins x=some (.type T))(ha:PA X (e::es) t)(hn:x≠"__name__":=by decide)(qk:f7 x:=by decide)(he:starEach (e::es) X.env=(false,eval e X.env)::starEach es X.env:=by rfl)(j7:(backTo pos (starEach es X.env)).any (·.1)=false:=by rfl):PE X (.Call (.Name x p) (e::es) [] pos) (tCB r t):=by intro ε s σ H Q I h;exact aar (lp I hg hm hv (WR (cf (ha pos ε s σ H _ I h) λus s1 ⟨vs,H1,I1,r1,q1⟩=>hc ε s1 σ H1 vs us Q I1 r1 q1) he j7) hn qk)
end
end L2
variable{K:zm}{H H':L2.Hp}{σ:L2.St}{E Q:qad}{v:L2.V}{ε:qaa}{mg:qae}{ps ys:ω}{es elts:qap}{ks:List (List L2.Key)}{ta te:L2.TE}{is:qao}{us:qag}{rest body:qaq}{aV:List (List L2.Key×L2.V)}{fp:Ω}
abbrev qac:=List (PySem.Str×L2.V)
abbrev qak:=List L2.V
namespace HT
open PySem PyProof.Rows
section
open PySem.SeqAt
open PySem.AutoSeq1 (wpAny_loadPart')
open PySem.MeetsSeq PySem.MeetsSeq2 PySem.MeetsSeq3
end
section
def Jr{t b:Addr}{vs ws:qag}(ht:IsTup s.heap t vs.toArray)(hb:IsTup s.heap b ws.toArray)(hv:vs≠[])(h1:ws=[]->Q (.ref t) s)(h2:ws≠[]->Q (.ref s.heap.objs.size) {s with heap:=s.heap.push {cls:=.type "tuple",data:=.seq (vs++ws).toArray} })(qj:vs.length+ws.length<=sizeLine):wpAny (model prog w) A (binaryOp .Add (.ref t) (.ref b)) Q E s:=by
 obtain⟨⟨cls,dd,data,sl⟩,ho,hc,n,hd⟩:=id ht;obtain⟨⟨Tw,RZ,data2,R0⟩,DH,Js,n2,hd2⟩:=id hb;subst hc hd Js hd2;have e:vs.toArray++ws.toArray=(vs++ws).toArray:=by simp
 by_cases hw:ws=[];exact concat_meets ⟨_,ho,rfl⟩ ⟨_,DH,rfl⟩ noFill_tuple_add seq_tuple_add X' X_ (X9 _ _)
  (tuple_addW1 t b vs.toArray ws.toArray n n2 dd RZ sl R0 (by simpa using hv) (by simp[hw])) ⟨ho,DH,h1 hw⟩
 refine concat_meets ⟨_,ho,rfl⟩ ⟨_,DH,rfl⟩ noFill_tuple_add seq_tuple_add X' X_ (X9 _ _)
  (tuple_addW2 t b vs.toArray ws.toArray n n2 dd RZ sl R0 (by simpa using hv) (by simpa using hw) (by rw[gU,gU];exact qj)) ⟨ho,DH,?_⟩
 rw[e];exact h2 hw
noncomputable def dU(n d:Nat):Option Int->Nat
 |none=>d
 |some v=>if v<0 then (v+(n:Int)).toNat else min v.toNat n
def Ej(n d:Nat):dU n d none=d:=rfl
def Jt(n d k:Nat):dU n d (some (k:Int))=min k n:=by show (if k<0 then (k+(n:Int)).toNat else min (k:Int).toNat n)=min k n;rw[η (by lia),lh]
def YI(n d:Nat)(hd:d<=n)(o:Option Int):dU n d o<=n:=by
 cases o with
 |none=>exact hd
 |some v=>show (if v<0 then (v+n).toNat else min v.toNat n)<=n;by_cases hv:v<0;rw[ι hv];lia;rw[η hv];exact Nat.min_le_right _ _
def Ae(v:Int)(n d:Nat):(if v<0 then max (v+(n:Int)) 0 else min v (n:Int))=((dU n d (some v):Nat):Int):=by show (if v<0 then max (v+n) 0 else min v n)=(((if v<0 then (v+n).toNat else min v.toNat n):Nat):Int);by_cases hv:v<0;simp only[ι hv];lia;simp only[η hv];lia
def yA(lo hi:Option Int)(n:Nat):Builtin.Slice.sliceAdjust lo hi 1 (n:Int)=(((dU n 0 lo:Nat):Int),((dU n n hi:Nat):Int)):=by
 unfold Builtin.Slice.sliceAdjust;refine IA ?_ ?_;cases lo with
 |none=>rfl
 |some v=>exact Ae v n 0
 cases hi with
 |none=>rfl
 |some v=>exact Ae v n n
def yB(i j:Nat):Builtin.Slice.slicePlaces (i:Int) (j:Int) 1=j-i:=by unfold Builtin.Slice.slicePlaces;split<;>lia
def om{v:Value}{o:Option Int}{Q:Option Int->Shared->Prop}(p:IsPart v o)(h:Q o s):wpAny (model prog w) A (Builtin.Slice.slicePartIndex v) Q E s:=by
 cases p with
 |none=>exact slicePart_none h
 |int i t=>exact slicePart_int h
def lC{sl:Addr}{vl vu:Value}{lo hi:Option Int}{Q:Int×Int×Nat->Shared->Prop}(hs:s.heap.IsSliceOf sl vl vu .none)(pl:IsPart vl lo)(pu:IsPart vu hi)(h:Q (((dU n 0 lo:Nat):Int),1,dU n n hi-dU n 0 lo) s):wpAny (model prog w) A (Builtin.Slice.sliceApplied (.ref sl) (pure (n:Int))) Q E s:=by obtain⟨os,Tx,Xc,Xd⟩:=id hs;refine ζ (ζ (Λ Tx Xd rfl (ζ (Λ Tx Xd rfl (ζ (Λ Tx Xd rfl (θ (ζ (slicePart_none (ζ (om pl (ζ (om pu (ζ (θ ?_)))))))))))))));show wpAny _ _ (match Builtin.Slice.sliceAdjust lo hi 1 n with|(lo,hi)=>pure (lo,(1:Int),Builtin.Slice.slicePlaces lo hi 1)) _ _ s;rw[yA lo hi n];show wpAny _ _ (pure (((dU n 0 lo:Nat):Int),(1:Int),Builtin.Slice.slicePlaces ((dU n 0 lo:Nat):Int) ((dU n n hi:Nat):Int) 1)) _ _ s;rw[yB];exact θ h
def Ek(xs:Array Value)(i k:Nat):((List.range k).filterMap λ(m:Nat)=>xs[((i:Int)+(m:Int) * 1).toNat]?).toArray=((xs.toList.drop i).take k).toArray:=by
 have e:(λ(m:Nat)=>xs[(i+(m:Int) * 1).toNat]?)=λm=>xs[i+m]?:=by
  funext m;have:(i+(m:Int) * 1).toNat=i+m:=by lia
  rw[this]
 rw[e];have:=pick_run xs i k;rw[W4] at this;have e2:((λx=>xs[x]?) ∘ λx=>i+x)=λm=>xs[i+m]?:=rfl;rw[e2] at this;rw[this]
def j8{t sl:Addr}{items:Array Value}{vl vu:Value}{lo hi:Option Int}(ht:IsTup s.heap t items)(hs:s.heap.IsSliceOf sl vl vu .none)(pl:IsPart vl lo)(pu:IsPart vu hi)(hw:¬ (dU items.size 0 lo=0/\dU items.size items.size hi=items.size))(h:Q (.ref s.heap.objs.size) {s with heap:=s.heap.push {cls:=.type "tuple",data:=.seq ((items.toList.drop (dU items.size 0 lo)).take (dU items.size items.size hi-dU items.size 0 lo)).toArray} })(qj:items.size<=sizeLine):wpAny (model prog w) A (getItem (.ref t) (.ref sl)) Q E s:=by
 have Af:sizeOk (.seq ((items.toList.drop (dU items.size 0 lo)).take (dU items.size items.size hi-dU items.size 0 lo)).toArray):=by
  show ((items.toList.drop (dU items.size 0 lo)).take (dU items.size items.size hi-dU items.size 0 lo)).toArray.size<=sizeLine;rw[gU,IT,SK,N0]
  lia
 obtain⟨os,Tx,Xc,Xd⟩:=id hs;have hTs:s.TypeIs (.ref sl) "slice":=⟨os,Tx,Xc⟩;unfold getItem
 try with_reducible refine aad ?_
 first|refine ζ (θ ?_)|skip
 refine ζ (wpAny_sequenceKey ht.typeIs (by decide) ?_);refine ζ (Γ ht.typeIs X5
  (ψ X5 ht.typeIs entry_tuple_getitem ?_ (args_tuple_getitem _ _)))
 show wpAny _ _ (Builtin.Tuple.tupleItemsOf (.ref t) >>= _) _ _ s;refine ζ (tupleItemsOf_ ht (ζ (wpAny_typeOf hTs (ζ (lC hs pl pu ?_)))));have YJ:¬ ((((dU items.size 0 lo:Nat):Int)==0 && (1:Int)==1 && (dU items.size items.size hi-dU items.size 0 lo)==items.size)=true):=by intro q;rw[ij,ij] at q;have q1:=eq_of_beq q.1.1;have q2:=eq_of_beq q.2;exact hw ⟨by lia,by lia⟩
 show wpAny _ _ (if (((dU items.size 0 lo:Nat):Int)==0 && (1:Int)==1 && (dU items.size items.size hi-dU items.size 0 lo)==items.size)=true then _ else _) _ _ s;rw[η YJ,Ek]
 first
  |exact ζ (Δ (θ ⟨_,rfl,θ h⟩) Af)
  |exact ζ (Δ (ζ (θ (θ ⟨_,rfl,θ h⟩))) Af)
  |exact ζ (ζ (Δ (θ (θ ⟨_,rfl,θ h⟩)) Af))
  |exact ζ (ζ (Δ (θ ⟨_,rfl,θ h⟩) Af))
end
end HT
variable{vs xs:qak}
namespace L2
open PySem PySem.Spec PyProof.Rows
abbrev TO:=St->Hp->(Option Int->Hp->Prop)->Prop
def PO(X:Cx)(e:Option Expr)(t:TO):Prop :=
 ∀(ε:qaa)(s:Shared)(σ:St)(H:Hp)(Q:Option Int->Hp->Prop),Inv X ε σ H s->t σ H Q ->
  wpAny (model X.prog X.w) X.A (evalPart e X.env) (λu s'=>∃o H',Inv X ε σ H' s'/\IsPart u o/\Q o H') X.xe s
def Ju:TO:=λ_ H Q=>Q none H
def Tz(t:TE):TO:=λσ H Q=>t σ H λx H1=>∃i,x=.int i/\Q (some i) H1
def intsAre_of{ns:qan}:∀{us:qag},Vals (ns.map V.int) us->IntsAre us ns:=by
 induction ns with
 |nil=>intro us r;rw[RU] at r;cases r;exact .nil
 |cons n ns ih=>
  intro us r;cases r with
  |cons r1 r2=>obtain⟨t,e⟩:=r1;subst e;exact .cons n t (ih r2)
section
variable{X:Cx}{lo hi:Option Expr}{tl th:TO}{pos:Pos}
def Jv:PO X none Ju:=by intro ε s σ H Q I h;exact θ ⟨none,H,I,.none,h⟩
def Jw(h:PE X e te):PO X (some e) (Tz te):=by intro ε s σ H Q I hw;refine cf (h ε s σ H _ I hw) λu s1 ⟨x,H1,I1,r1,q1⟩=>?_;obtain⟨i,rfl,q⟩:=q1;obtain⟨t,rfl⟩:=r1;exact⟨some i,H1,I1,.int i t,q⟩
def El(X:Cx)(r:V->Option Int->Option Int->Hp->VK->Prop):Prop :=
 ∀(ε:qaa)(s:Shared)(σ:St)(H:Hp)(x:V)(v vl vu:Value)(lo hi:Option Int)(sl:Addr)(Q:VK),Inv X ε σ H s->RelV x v->s.heap.IsSliceOf sl vl vu .none->IsPart vl lo->IsPart vu hi->r x lo hi H Q ->
  ∃T id,typeLookup (.type T) "__getitem__"=pure (some (.builtin id))/\s.TypeIs v T/\wpAny (model X.prog X.w) X.A (getItem v (.ref sl)) (EP X ε σ Q) X.xe s
def El.or{r r':V->Option Int->Option Int->Hp->VK->Prop}(h:El X r)(h':El X r'):El X (λx lo hi H Q=>r x lo hi H Q\/r' x lo hi H Q):=by
 intro ε s σ H x v vl vu lo hi sl Q I rx hs pl pu q;obtain q|q:=q
 exact h ε s σ H x v vl vu lo hi sl Q I rx hs pl pu q;exact h' ε s σ H x v vl vu lo hi sl Q I rx hs pl pu q
def tSl(r:V->Option Int->Option Int->Hp->VK->Prop)(te:TE)(tl th:TO):TE:=λσ H Q=>te σ H λx H1=>tl σ H1 λl H2=>th σ H2 λu H3=>r x l u H3 Q
def Em{r:V->Option Int->Option Int->Hp->VK->Prop}(hr:El X r)(he:PE X e te)(hl:PO X lo tl)(hu:PO X hi th):PE X (.Subscript e (.Slice lo hi none p2) pos) (tSl r te tl th):=by intro ε s σ H Q I h;refine Subscript_ (cf (he ε s σ H _ I h) λv s1 ⟨x,H1,I1,r1,q1⟩=>wpAny_Slice (cf (hl ε s1 σ H1 _ I1 q1) λvl s2 ⟨l,H2,I2,pl,q2⟩=>cf (hu ε s2 σ H2 _ I2 q2) λvu s3 ⟨u,H3,I3,pu,q3⟩=>θ ?_));have I4:Inv X ε σ H3 {s3 with heap:=s3.heap.push {cls:=.type "slice",data:=.fields #[vl,vu,.none]} }:=I3.kept λb ob q=>dR _ q;obtain⟨T,id,hT,ht,hg⟩:=hr ε {s3 with heap:=s3.heap.push {cls:=.type "slice",data:=.fields #[vl,vu,.none]} } σ H3 x v vl vu l u s3.heap.objs.size Q I4 r1 (Heap.IsSliceOf.new ..) pl pu q3;exact tail_any ht hT hg (by with_unfolding_all rfl)
noncomputable def B1(xs:qak)(lo hi:Option Int):qak:=(xs.drop (HT.dU xs.length 0 lo)).take (HT.dU xs.length xs.length hi-HT.dU xs.length 0 lo)
theorem mS(xs:qak)(lo hi:Option Int):(B1 xs lo hi).length<=xs.length:=by
 unfold B1;rw[IT,SK]
 lia
def TB(K:zm):V->Option Int->Option Int->Hp->VK->Prop:=λx lo hi H Q=>∃a xs,x=.ref a/\dS K H a xs /\
 ¬ (HT.dU xs.length 0 lo=0/\HT.dU xs.length xs.length hi=xs.length)/\∀p,H p=none->Q (.ref p) (upd H p (.tup (B1 xs lo hi)))
def OW:El X (TB X.K):=by
 intro ε s σ H x v vl vu lo hi sl Q I rx hs pl pu h;obtain⟨a,xs,rfl,hx,hw,q⟩:=h;cases rx;obtain⟨aT,r,ht,hz⟩:=I.tuple hx;have hlen:aT.toArray.size=xs.length:=by rw[gU];exact r.length.symm
 refine⟨"tuple",_,X5.lookup,ht.typeIs,HT.j8 ht hs pl pu (by rw[hlen];exact hw) ?_ (by rw[hlen];exact hz)⟩;rw[hlen];refine⟨.ref s.heap.objs.size,_,I.laid (λb ob q=>dR _ q) (cc _) ?_,rfl,q _ (I.bF.fresh (cc _))⟩;exact⟨ll (mS xs lo hi) hz,_,(r.drop (HT.dU xs.length 0 lo)).take (HT.dU xs.length xs.length hi-HT.dU xs.length 0 lo),IsTup.new _ _⟩
def Vals.gC(r:Vals xs us):us=[]↔xs=[]:=by
 cases r with
 |_=>simp
end
noncomputable def yb(n:Nat)(i:Int):Option Nat:=if 0<=i then (if i<n then some i.toNat else none) else if -(n:Int)<=i then some (i+n).toNat else none
noncomputable def jc{α:Type}(xs:List α)(i:Int):Option α:=(yb xs.length i).bind λj=>xs[j]?
def Ag{i:Int}(h:yb n i=some j):seqIndex? i n=some j/\j<n/\-(n:Int)<=i/\i<n:=by unfold yb at h;by_cases h0:0<=i;rw[ι h0] at h;by_cases h1:i<n;rw[ι h1] at h;have e:=Option.some.inj h;exact⟨by rw[seqIndex_of h0 h1,e],by lia,by lia,h1⟩;rw[η h1] at h;cases h;rw[η h0] at h;by_cases h1 : -n<=i;rw[ι h1] at h;have e:=Option.some.inj h;exact⟨by rw[seqIndex_neg (by lia) h1,e],by lia,h1,by lia⟩;rw[η h1] at h;cases h
def sF{xs:List α}{i:Int}{v:α}(h:jc xs i=some v):∃j,seqIndex? i xs.length=some j/\xs[j]?=some v/\j<xs.length/\-(xs.length:Int)<=i/\i<xs.length:=by
 unfold jc at h;cases e:yb xs.length i with
 |none=>rw[e] at h;cases h
 |some j=>rw[e] at h;obtain⟨h1,h2,h3,h4⟩:=Ag e;exact⟨j,h1,h,h2,h3,h4⟩
def ai{xs:List α}{v:α}(h:xs[j]?=some v):jc xs (j:Int)=some v:=by
 have hj:=(dz.mp h).1;have e:yb xs.length j=some j:=by unfold yb;rw[ι (by lia),ι (by lia)];simp
 unfold jc;rw[e];exact h
theorem aaH{a:α}{l:List α}:jc (a::l) 0=some a:=ai (j:=0) rfl
theorem aaI{a b:α}{l:List α}:jc (a::b::l) 1=some b:=ai (j:=1) rfl
theorem aaJ{a b c:α}{l:List α}:jc (a::b::c::l) 2=some c:=ai (j:=2) rfl
theorem aaK{a b c d:α}{l:List α}:jc (a::b::c::d::l) 3=some d:=ai (j:=3) rfl
theorem aaL{a b c d e:α}{l:List α}:jc (a::b::c::d::e::l) 4=some e:=ai (j:=4) rfl
def oq(xs:List α)(v:α):jc (xs++[v]) (-1)=some v:=by
 have hl:(xs++[v]).length=xs.length+1:=by simp
 have e:yb (xs++[v]).length (-1)=some xs.length:=by
  unfold yb;rw[hl,η (by decide),ι (by lia)]
  congr 1
  lia
 unfold jc;rw[e];simp
def nB(b:Expr):Prop:=∀o i,subscripted b false o i=operate [o,i] (getItem o i)
def Jx(X:Cx)(r:R2):Prop :=
 ∀(value slice:Expr)(ε:qaa)(s:Shared)(σ:St)(H:Hp)(x y:V)(v u:Value)(Q:VK),Inv X ε σ H s->RelV x v->RelV y u->r x y H Q ->
  subscripted slice false v u=operate [v,u] (getItem v u)->wpAny (model X.prog X.w) X.A (subscriptTail value slice v u) (EP X ε σ Q) X.xe s
def MN(X:Cx)(id:String)(r:V->qak->Hp->VK->Prop):Prop :=
 ∀(ε:qaa)(s:Shared)(σ:St)(H:Hp)(x:V)(xs:qak)(v:Value)(us:qag)(Q:VK),Inv X ε σ H s->RelV x v->Vals xs us->r x xs H Q ->
  wpAny (model X.prog X.w) X.A (call (.builtin id) (v::us)) (EP X ε σ Q) X.xe s
section
variable{X:Cx}{a b:Expr}{tb:TE}{pos:Pos}
def Jx.or{r r':R2}(h:Jx X r)(h':Jx X r'):Jx X (λx y H Q=>r x y H Q\/r' x y H Q):=by
 intro value slice ε s σ H x y v u Q I rx ry q hs;obtain q|q:=q
 exact h value slice ε s σ H x y v u Q I rx ry q hs;exact h' value slice ε s σ H x y v u Q I rx ry q hs
def Eo{r:R2}(hr:Jx X r)(ha:PE X a ta)(hb:PE X b tb)(hs:nB b):PE X (.Subscript a b pos) (Td r ta tb):=by intro ε s σ H Q I h;exact Subscript_ (OB ha hb I h λv u s2 x y H2 I2 rx ry q=>hr a b ε s2 σ H2 x y v u Q I2 rx ry q (hs _ _))
noncomputable def TC(K:zm):R2:=λx y H Q=>∃p xs i v,x=.ref p/\y=.int i/\fG K H p xs/\jc xs i=some v/\Q v H
noncomputable def TF(K:zm):R2:=λx y H Q=>∃p xs i v,x=.ref p/\y=.int i/\dS K H p xs/\jc xs i=some v/\Q v H
noncomputable def TH:R2:=λx y H Q=>∃z i c,x=.str z/\y=.int i/\z.length<=sizeLine/\jc z.cps.toList i=some c/\Q (.str ⟨#[c]⟩) H
theorem Jy:Jx X (TC X.K):=by
 intro value slice ε s σ H x y v u Q I rx ry h hs;obtain⟨p,xs,i,z,rfl,rfl,hq,he,q⟩:=h;cases rx;obtain⟨t,rfl⟩:=ry;obtain⟨aT,r,pl,hz⟩:=I.list hq;obtain⟨j,h1,h2,h3,h4,h5⟩:=sF he;obtain⟨w,ew,rw'⟩:=r.get h2;have hl:=r.length;have hn:=lx;have fin:EP X ε σ Q w s:=⟨z,H,I,rw',q⟩;by_cases h0:0<=i;have hj:i.toNat=j:=by rw[seqIndex_of h0 h5] at h1;exact Option.some.inj h1
 exact item_listR pl.isList h0 (by lia) (by rw[hj];simpa using ew) fin hs;have hj:(i+(aT.toArray.size:Int)).toNat=j:=by rw[seqIndex_neg (by lia) h4] at h1;rw[gU,<- hl];exact Option.some.inj h1
 exact subscriptTail_builtinR pl.isList.typeIs slot_list_getitem.lookup
  (wpAny_getItem_list_neg pl.isList (by lia) (by rw[gU]<;>lia) (by lia) (by rw[hj];simpa using ew) ⟨rfl,fin⟩) hs
theorem yC:Jx X (TF X.K):=by
 intro value slice ε s σ H x y v u Q I rx ry h hs;obtain⟨p,xs,i,z,rfl,rfl,hq,he,q⟩:=h;cases rx;obtain⟨t,rfl⟩:=ry;obtain⟨aT,r,pl,hz⟩:=I.tuple hq;obtain⟨j,h1,h2,h3,h4,h5⟩:=sF he;obtain⟨w,ew,rw'⟩:=r.get h2;have hl:=r.length;have hn:=lx;have fin:EP X ε σ Q w s:=⟨z,H,I,rw',q⟩;exact subscriptTail_builtinR pl.typeIs slot_tuple_getitem.lookup
  (getItem_tuple pl (by lia) (by lia) (by rw[gU,<- hl];exact h1) (by simpa using ew) ⟨rfl,fin⟩) hs
theorem OX:Jx X TH:=by
 intro value slice ε s σ H x y v u Q I rx ry h hs;obtain⟨z,i,c,rfl,rfl,hz,he,q⟩:=h;obtain⟨t,rfl⟩:=rx;obtain⟨t',rfl⟩:=ry;obtain⟨j,h1,h2,h3,h4,h5⟩:=sF he;have hl:z.cps.toList.length=z.length:=by simp[Str.length]
 rw[hl] at h1 h4 h5;have hn:=lx;exact tail_any (typeIs_str s z t) slot_str_getitem.lookup (getItem_str (by have e1:decide (i < -(2 ^ 63:Int))=false:=π (by lia);have e2:decide (i ≥ 2 ^ 63)=false:=π (by lia);rw[e1,e2,Bool.or_false]) (by rw[h1];simpa using h2) ⟨.str ⟨#[c]⟩,H,I.tok _,⟨_,rfl⟩,q⟩) hs
noncomputable def rIx(K:zm):R2:=λx y H Q=>TC K x y H Q\/TF K x y H Q\/TH x y H Q
def OY:Jx X (rIx X.K):=Jy.or (yC.or OX)
def yD(aT:qag)(n j:Nat)(u:Value):Obj.mapSeq (·.setIfInBounds j u) {cls:=.type "list",data:=.seq aT.toArray n}={cls:=.type "list",data:=.seq (aT.set j u).toArray n}:=by simp[Obj.mapSeq]
def Inv.lst{p:Addr}(I:Inv X ε σ H s)(h:H p=some (.lst xs)) :
  ∃(aT:qag)(n:Nat),Vals xs aT/\s.heap.get? p=some {cls:=.type "list",data:=.seq aT.toArray n}/\xs.length<=sizeLine:=by
 obtain⟨z,aT,n,r,e⟩:=I.bF p _ h;exact⟨aT,n,r,e,z⟩
def Inv.OZ{p:Addr}{ys:qak}{aT m6:qag}{n':Nat}{f:Obj->Obj}(I:Inv X ε σ H s)(h:H p=some (.lst xs))(ho:s.heap.get? p=some {cls:=.type "list",data:=.seq aT.toArray n})(hf:f {cls:=.type "list",data:=.seq aT.toArray n}={cls:=.type "list",data:=.seq m6.toArray n'})(r:Vals ys m6)(hz:ys.length<=sizeLine)(t:Nat) :
  Inv X ε σ (upd H p (.lst ys)) {s with heap:=s.heap.update p f,toks:=t}:=by
 have e:(s.heap.update p f).get? p=some {cls:=.type "list",data:=.seq m6.toArray n'}:=by rw[Heap.get?_update_self f ho (by rw[hf]<;>rfl),hf]
 refine I.write (by rw[h];trivial) (.inl rfl) (λb u hb q=>(Heap.get?_update_other _ _ (Ne.symm hb)).trans q) ⟨_,e⟩ ?_;exact⟨hz,m6,n',r,e⟩
def TJ:V->V->V->Hp->(Hp->Prop)->Prop:=λo i v H Q=>∃p xs k j,o=.ref p/\i=.int k/\H p=some (.lst xs)/\yb xs.length k=some j/\Q (upd H p (.lst (xs.set j v)))
theorem set_list:S8 X TJ:=by
 intro ε s σ H o i v ov iv u Q I ro ri rv h;obtain⟨p,xs,k,j,rfl,rfl,hp,hj,q⟩:=h;cases ro;obtain⟨t,rfl⟩:=ri;obtain⟨aT,n,r,ho,hz⟩:=I.lst hp;obtain⟨h1,h2,h3,h4⟩:=Ag hj;have hl:=r.length;have hn:=lx;have I' :=
  I.OZ hp ho (yD aT n j u) (r.set rv j) (by rw[List.length_set];exact hz) s.toks
 by_cases h0:0<=k;have hk:k.toNat=j:=by rw[seqIndex_of h0 h4] at h1;exact Option.some.inj h1
 exact W.ki_setAt ho h0 (by lia) (by rw[gU,<- hl];exact h4) (by rw[hk];exact⟨_,I',q⟩);have hk:(k+(aT.toArray.size:Int)).toNat=j:=by rw[seqIndex_neg (by lia) h3] at h1;rw[gU,<- hl];exact Option.some.inj h1
 exact W.ki_setBack ho (by lia) (by rw[gU,<- hl];exact h3) (by lia) (by rw[hk];exact⟨_,I',q⟩)
theorem sG(lo hi:Option Int)(n:Nat):(sliceBounds lo hi none n).1=((HT.dU n 0 lo:Nat):Int)/\(sliceBounds lo hi none n).2.1=((HT.dU n n hi:Nat):Int)/\(sliceBounds lo hi none n).2.2=1:=by
 refine⟨?_,?_,rfl⟩;cases lo with
 |none=>simp[sliceBounds,HT.dU]
 |some i=>simp only[sliceBounds,HT.dU,Option.getD_none,show 1 > 0 by decide,aav];by_cases h:i<0;simp only[h,aav]<;>lia;simp only[h,aaw]<;>lia
 cases hi with
 |none=>simp[sliceBounds,HT.dU]
 |some i=>simp only[sliceBounds,HT.dU,Option.getD_none,show 1 > 0 by decide,aav];by_cases h:i<0;simp only[h,aav]<;>lia;simp only[h,aaw]<;>lia
def ql(aT:qag)(lo hi:Option Int):slicePick aT.toArray lo hi none=((aT.drop (HT.dU aT.length 0 lo)).take (HT.dU aT.length aT.length hi-HT.dU aT.length 0 lo)).toArray:=by obtain⟨h1,h2,h3⟩:=sG lo hi aT.toArray.size;unfold slicePick;rw[h1,h2,h3];simp only[sliceRange_one,pick_run,gU]<;>rfl
def TK(K:zm):V->Option Int->Option Int->Hp->VK->Prop:=λx lo hi H Q=>∃a xs,x=.ref a/\fG K H a xs/\∀p,H p=none->Q (.ref p) (upd H p (.lst (B1 xs lo hi)))
theorem Jz:El X (TK X.K):=by intro ε s σ H x v vl vu lo hi sl Q I rx hs pl pu h;obtain⟨a,xs,rfl,hx,q⟩:=h;cases rx;obtain⟨aT,r,ht,hz⟩:=I.list hx;have hlen:=r.length;refine⟨"list",_,slot_list_getitem.lookup,ht.isList.typeIs,wpAny_getItem_list_slice ht.isList hs pl pu .none (by simp) ?_ (by rw[gU]<;>lia)⟩;rw[ql,<- hlen];refine⟨.ref s.heap.objs.size,_,I.laid (λb ob q=>dR _ q) (cc _) ?_,rfl,q _ (I.bF.fresh (cc _))⟩;exact⟨ll (mS xs lo hi) hz,_,0,(r.drop (HT.dU xs.length 0 lo)).take (HT.dU xs.length xs.length hi-HT.dU xs.length 0 lo),iO _ rfl⟩
def ip:V->Bool
 |.bB=>true
 |.bl _=>true
 |.int _=>true
 |.str _=>true
 |_=>false
noncomputable def ID:V->V->Bool
 |.bB,.bB=>true
 |.bl a,.bl b=>a==b
 |.bl a,.int b=>(if a then 1 else 0)==b
 |.int a,.bl b=>a==(if b then 1 else 0)
 |.int a,.int b=>a==b
 |.str a,.str b=>a==b
 |_,_=>false
def O0{y x:V}{v:Value}(ry:RelV y u)(rx:RelV x v)(fy:ip y=true)(fx:ip x=true):SeqAt.EqAt A s u v (ID y x):=by
 cases y with
 |bB=>
  cases ry;cases x with
  |bB=>cases rx;exact SeqAt.EqAt.same _
  |bl b=>cases rx;exact SeqAt.EqAt.none_bool b
  |int b=>obtain⟨t,rfl⟩:=rx;exact SeqAt.EqAt.none_int b t
  |str b=>obtain⟨t,rfl⟩:=rx;exact SeqAt.EqAt.none_str b t
  |_=>exact absurd (show false=true from fx) ja
 |bl a=>
  cases ry;cases x with
  |bB=>cases rx;exact SeqAt.EqAt.bool_none a
  |bl b=>cases rx;exact SeqAt.EqAt.bool_bool a b
  |int b=>obtain⟨t,rfl⟩:=rx;exact SeqAt.EqAt.bool_int a b t
  |str b=>obtain⟨t,rfl⟩:=rx;exact SeqAt.EqAt.bool_str a b t
  |_=>exact absurd (show false=true from fx) ja
 |int a=>
  obtain⟨t',rfl⟩:=ry;cases x with
  |bB=>cases rx;exact SeqAt.EqAt.int_none a t'
  |bl b=>cases rx;exact SeqAt.EqAt.int_bool a t' b
  |int b=>obtain⟨t,rfl⟩:=rx;exact SeqAt.EqAt.int_int a t' b t
  |str b=>obtain⟨t,rfl⟩:=rx;exact SeqAt.EqAt.int_str a t' b t
  |_=>exact absurd (show false=true from fx) ja
 |str a=>
  obtain⟨t',rfl⟩:=ry;cases x with
  |bB=>cases rx;exact SeqAt.EqAt.str_none a t'
  |bl b=>cases rx;exact SeqAt.EqAt.str_bool a t' b
  |int b=>obtain⟨t,rfl⟩:=rx;exact SeqAt.EqAt.str_int a t' b t
  |str b=>obtain⟨t,rfl⟩:=rx;exact SeqAt.EqAt.str_str a t' b t
  |_=>exact absurd (show false=true from fx) ja
 |_=>exact absurd (show false=true from fy) ja
noncomputable def JA(x:V)(u:Value):Bool:=match u with
 |.none=>ID .bB x
 |.bool b=>ID (.bl b) x
 |.int i _=>ID (.int i) x
 |.str z _=>ID (.str z) x
 |_=>false
def Ep{x y:V}(r:RelV y u)(f:ip y=true):JA x u=ID y x:=by
 cases y with
 |bB=>cases r;rfl
 |bl b=>cases r;rfl
 |int i=>obtain⟨t,rfl⟩:=r;rfl
 |str z=>obtain⟨t,rfl⟩:=r;rfl
 |_=>exact absurd (show false=true from f) ja
theorem sI{x:V}:∀{xs:qak}{us:qag},Vals xs us->xs.all ip=true->us.any (JA x)=xs.any λy=>ID y x
 |_,_,.nil,_=>rfl
 |y::xs,u::us,.cons r t,f=>by rw[List.all_cons,ij] at f;rw[BI,BI,Ep r f.1,sI t f.2]
theorem ou{A:Around}{s:Shared}{x:V}{v:Value}(rx:RelV x v)(fx:ip x=true):∀{xs:qak}{us:qag},Vals xs us->xs.all ip=true->∀u∈us,SeqAt.EqAt A s u v (JA x u)
 |_,_,.nil,_=>λu hu=>by cases hu
 |y::xs,u::us,.cons r t,f=>λu' hu=>by
  rw[List.all_cons,ij] at f;rcases dg.mp hu with rfl|hu
  rw[Ep r f.1];exact O0 r rx f.1 fx;exact ou rx fx t f.2 u' hu
noncomputable def Xe(x:V)(xs:qak):Bool:=xs.any λy=>ID y x
noncomputable def rIn(K:zm)(neg:Bool):R2:=λx y H Q=>∃p xs,y=.ref p/\(fG K H p xs\/dS K H p xs)/\ip x=true/\xs.all ip=true/\Q (.bl (if neg then !Xe x xs else Xe x xs)) H
def B2:eM X (compareOp .In) (rIn X.K false):=by
 intro ε s σ H x y v u Q I rx ry h;obtain⟨p,xs,rfl,hq,fx,fs,q⟩:=h;cases ry;obtain hq|hq:=hq
 obtain⟨aT,r,pl,hz⟩:=I.list hq;refine SeqAt.in_listAt (JA x) pl.isList (λw hw=>ou rx fx r fs w (by simpa using hw)) ⟨.bl _,H,I,rfl,?_⟩;rw[show aT.toArray.any (JA x)=aT.any (JA x) by simp,sI r fs];exact q;obtain⟨aT,r,pl,hz⟩:=I.tuple hq;refine SeqAt.in_tupleAt (JA x) pl (λw hw=>ou rx fx r fs w (by simpa using hw)) ⟨.bl _,H,I,rfl,?_⟩;rw[show aT.toArray.any (JA x)=aT.any (JA x) by simp,sI r fs];exact q
theorem sJ:c0 X (.builtin "len") (λxs H Q=>∃p ys,xs=[.ref p]/\(fG X.K H p ys\/dS X.K H p ys)/\Q (.int ys.length) H):=by
 intro ε s σ H xs us Q I r h;obtain⟨p,ys,rfl,hq,q⟩:=h;obtain⟨u,rfl,rx⟩:=vals1 r;cases rx;have hn:=lx;obtain hq|hq:=hq
 obtain⟨aT,r',pl,hz⟩:=I.list hq;have hlen:=r'.length;exact Calls.call_len_list pl.isList (by simp only[gU]<;>lia) ⟨.int ys.length,H,I.tok _,⟨s.toks+1,by rw[gU,hlen]⟩,q⟩;obtain⟨aT,r',pl,hz⟩:=I.tuple hq;have hlen:=r'.length;exact len_tuple pl (by simp only[gU]<;>lia) ⟨.int ys.length,H,I.tok _,⟨s.toks+1,by rw[gU,hlen]⟩,q⟩
theorem sL:c0 X (.builtin "len") (λxs H Q=>∃z,xs=[.str z]/\z.length<=sizeLine/\Q (.int z.length) H):=by intro ε s σ H xs us Q I r h;obtain⟨z,rfl,hz,q⟩:=h;obtain⟨u,rfl,t,rfl⟩:=vals1 r;have hn:=lx;exact len_str (by lia) ⟨.int z.length,H,I.tok _,⟨_,rfl⟩,q⟩
def c0.or{f:Value}{r r':qak->Hp->VK->Prop}(h:c0 X f r)(h':c0 X f r'):c0 X f (λxs H Q=>r xs H Q\/r' xs H Q):=by
 intro ε s σ H xs us Q I rs q;obtain q|q:=q
 exact h ε s σ H xs us Q I rs q;exact h' ε s σ H xs us Q I rs q
theorem sM:c0 X (.type "list") (λxs H Q=>∃p ys,xs=[.ref p]/\(fG X.K H p ys\/dS X.K H p ys)/\∀l,H l=none->Q (.ref l) (upd H l (.lst ys))):=by
 intro ε s σ H xs us Q I r h;obtain⟨p,ys,rfl,hq,q⟩:=h;obtain⟨u,rfl,rx⟩:=vals1 r;cases rx;have fin:∀aT,Vals ys aT->ys.length<=sizeLine->∀h' c',(∀b o',s.heap.get? b=some o'->h'.get? b=some o') ->
   h'.get? s.heap.objs.size=some {cls:=.type "list",dict:=none,data:=.seq aT.toArray c',slots:=#[]}->EP X ε σ Q (.ref s.heap.objs.size) {s with heap:=h'}:=λaT r' hz h' c' kp e=>
  ⟨.ref s.heap.objs.size,_,I.laid kp (cc _) (show bH X.prog X.w _ h' _ (.lst ys) from⟨hz,aT,c',r',e⟩),rfl,q _ (I.bF.fresh (cc _))⟩
 obtain hq|hq:=hq
 obtain⟨aT,r',pl,hz⟩:=I.list hq;have hlen:=r'.length;obtain⟨o,ho,hc,n,hd⟩:=pl.isList;exact call_list_seq p (.inl rfl) ho hc hd (λh' c' kp e=>fin aT r' hz h' c' kp e) (by simp only[gU]<;>lia);obtain⟨aT,r',pl,hz⟩:=I.tuple hq;have hlen:=r'.length;obtain⟨o,ho,hc,n,hd⟩:=pl;exact call_list_seq p (.inr rfl) ho hc hd (λh' c' kp e=>fin aT r' hz h' c' kp e) (by simp only[gU]<;>lia)
theorem jl:c0 X (.type "tuple") (λxs H Q=>∃p ys,xs=[.ref p]/\((fG X.K H p ys/\∀l,H l=none->Q (.ref l) (upd H l (.tup ys)))\/(dS X.K H p ys/\Q (.ref p) H))):=by
 intro ε s σ H xs us Q I r h;obtain⟨p,ys,rfl,h⟩:=h;obtain⟨u,rfl,rx⟩:=vals1 r;cases rx;obtain⟨hq,q⟩|⟨hq,q⟩:=h
 obtain⟨aT,r',pl,hz⟩:=I.list hq;have hlen:=r'.length;refine call_tuple_list pl.isList (λh' kp=>?_) (by simp only[gU]<;>lia);have I1:=I.kept (t':=s.toks) kp;have I2 :=
  I1.laid (t':=s.toks) (λb o e=>dR _ e) (cc _) (show bH X.prog X.w _ _ _ (.tup ys) from⟨hz,aT,r',IsTup.new _ _⟩)
 exact⟨.ref h'.objs.size,_,I2,rfl,q _ (I1.bF.fresh (cc _))⟩;obtain⟨aT,r',pl,hz⟩:=I.tuple hq;exact call_tuple_same pl ⟨.ref p,H,I,rfl,q⟩
def YK(K:zm)(T:String)(x:V)(H:Hp):Prop:=match x with
 |.str _=>T="str"
 |.int _=>T="int"
 |.ref p=>(T="list"/\∃xs,fG K H p xs)\/(T="tuple"/\∃o,K.lookup p=some o/\o.cls=.type "tuple"/\o.dict=none) \/
  (T="dict"/\((∃aV,H p=some (.dK aV))\/∃aV,H p=some (.dT aV)))\/(T="set"/\∃S n,H p=some (.set S n))
 |_=>False
theorem Er{T:String}{x:V}{v:Value}(I:Inv X ε σ H s)(r:RelV x v)(ty:YK X.K T x H) :
  s.TypeIs v T/\∀a,v=.ref a->∃ob,s.heap.get? a=some ob/\ob.dict=none:=by
 cases x with
 |str z=>obtain⟨t,rfl⟩:=r;cases (show T="str" from ty);exact⟨typeIs_str s z t,λ_ e=>nomatch e⟩
 |int i=>obtain⟨t,rfl⟩:=r;cases (show T="int" from ty);exact⟨aaB s i t,λ_ e=>nomatch e⟩
 |ref p=>
   cases r;obtain⟨rfl,xs,hq⟩|⟨rfl,o,hk,hc,hd⟩|⟨rfl,hk⟩|⟨rfl,S,n,hk⟩:=ty
   obtain⟨aT,_,pl,_⟩:=I.list hq;refine⟨pl.isList.typeIs,λa e=>?_⟩;cases e;obtain⟨o,n,e,c,hd,_⟩:=pl;exact⟨o,e,hd⟩;refine⟨⟨o,I.vt p o hk,hc⟩,λa e=>?_⟩;cases e;exact⟨o,I.vt _ o hk,hd⟩;have z:∃o,s.heap.get? p=some o/\o.ExactDict:=by
    obtain⟨aV,hk⟩|⟨aV,hk⟩:=hk
    obtain⟨_,_,_,_,o,_,_,e,ex,_⟩:=I.bF p _ hk;exact⟨o,e,ex⟩;obtain⟨_,_,_,_,o,_,_,e,ex,_⟩:=I.bF p _ hk;exact⟨o,e,ex⟩
   obtain⟨o,e,ex⟩:=z;refine⟨⟨o,e,ex.1⟩,λa e2=>?_⟩;cases e2;exact⟨o,e,ex.2.1⟩;obtain⟨o,_,_,_,e,ex,_⟩:=I.bF p _ hk;refine⟨⟨o,e,ex.1⟩,λa e2=>?_⟩;cases e2;exact⟨o,e,ex.2.1⟩
 |_=>exact False.elim ty
def YL(K:zm)(T:String)(r:V->qak->Hp->VK->Prop)(to:TE):TE:=λσ H Q=>to σ H λx H1=>YK K T x H1/\r x [] H1 Q
def tBM(K:zm)(T:String)(r:V->qak->Hp->VK->Prop)(to:TE)(t:TA):TE:=λσ H Q=>to σ H λx H1=>YK K T x H1/\t σ H1 λxs H2=>r x xs H2 Q
variable{o:Expr}{to:TE}{t:TA}{name:Str}{T id:String}{r:V->qak->Hp->VK->Prop}
def sN(pa:PlainAttrs T)(slot:Slot T name id)(O5:typeOf (.builtin id)=pure (.type "method_descriptor"))(hm:MN X id r)(ho:PE X o to)(di:attributeBase o name X.env (eval o X.env)=eval o X.env:=by rfl)(dj:(apos.endLine==bG.line)=true:=by rfl):PE X (.Call (.Attribute o name apos) [] [] bG) (YL X.K T r to):=by intro ε s σ H Q I h;refine wpAny_Call_method0_late di dj (cf (ho ε s σ H _ I h) λv s1 ⟨x,H1,I1,r1,ty,q1⟩=>?_);obtain⟨h1,h2⟩:=Er I1 r1 ty;exact⟨T,id,pa,slot,O5,h1,h2,WW rfl (PySem.evalArgs_none (hm ε s1 σ H1 x [] v [] Q I1 r1 .nil q1))⟩
def Ah(pa:PlainAttrs T)(slot:Slot T name id)(O5:typeOf (.builtin id)=pure (.type "method_descriptor"))(hm:MN X id r)(ho:PE X o to)(ha:PA X (e::es) t)(di:attributeBase o name X.env (eval o X.env)=eval o X.env:=by rfl)(yE:((backTo bG (starEach (e::es) X.env)).all (λx=>!x.1) && (backToKw bG (keywordEach [] X.env)).all (λx=>x.1.isSome)
    && decide ((e::es).length+([]:List Keyword).length+(if ([]:List Keyword).isEmpty then 0 else 1)<30))=true:=by rfl)(dj:(apos.endLine==bG.line)=true:=by rfl)(hs:starEach (e::es) X.env=(false,eval e X.env)::starEach es X.env:=by rfl)(jE:(backTo bG (starEach es X.env)).any (·.1)=false:=by rfl) :
  PE X (.Call (.Attribute o name apos) (e::es) [] bG) (tBM X.K T r to t):=by
 intro ε s σ H Q I h;refine wpAny_Call_method_late di yE dj rfl (cf (ho ε s σ H _ I h) λv s1 ⟨x,H1,I1,r1,ty,q1⟩=>?_);obtain⟨h1,h2⟩:=Er I1 r1 ty;refine⟨T,id,pa,slot,O5,h1,h2,?_⟩;have hA:=ha bG ε s1 σ H1 _ I1 q1;rw[hs] at hA ⊢;exact WW (by show (false || (backTo bG (starEach es X.env)).any (·.1))=false;rw[jE]<;>rfl) (Calls.evalArgs_plain (cf hA λus s2 ⟨vs,H2,I2,r2,q2⟩=>hm ε s2 σ H2 x vs v us Q I2 r1 r2 q2))
end
def YM(X:Cx)(id:String)(r:V->qak->Hp->VK->Prop):Prop :=
 ∀(ε:qaa)(s:Shared)(σ:St)(H:Hp)(x:V)(xs:qak)(v:Value)(us:qag)(Q:VK),Inv X ε σ H s->RelV x v->Vals xs us->r x xs H Q ->
  wpAny (model X.prog X.w) X.A (call (.builtin id) (v::us)) (EP X ε σ Q) X.xe s
theorem Vals.one:∀{x:V}{us:qag},Vals [x] us->∃u,us=[u]/\RelV x u
 |_,_,.cons r .nil=>⟨_,rfl,r⟩
theorem Vals.zero:∀{us:qag},Vals [] us->us=[]
 |_,.nil=>rfl
def Vals.dropLast(h:Vals xs us):Vals xs.dropLast us.dropLast:=by
 induction h with
 |nil=>exact .nil
 |cons r t ih=>
  cases t with
  |nil=>exact .nil
  |cons q t'=>exact .cons r ih
theorem Vals.rep{xs:qak}{us:qag}(h:Vals xs us):∀k:Nat,Vals (List.replicate k xs).flatten (List.replicate k us).flatten
 |0=>.nil
 |k+1=>Vals.append h (Vals.rep h k)
def yF(l:List α):l.eraseIdx (l.length-1)=l.dropLast:=by
 induction l with
 |nil=>rfl
 |cons a r ih=>
  cases r with
  |nil=>rfl
  |cons b r=>
   have e:(a::b::r).length-1=((b::r).length-1)+1:=by
    have h1:(a::b::r).length=r.length+2:=rfl;have h2:(b::r).length=r.length+1:=rfl
    lia
   rw[e,List.eraseIdx_cons_succ,ih]
   all_goals rfl
theorem foldl_rep(aT:qag):∀(k:Nat)(acc:qag),
  List.foldl (λx1 x2=>x1++x2) acc.toArray (List.replicate k aT.toArray)=(acc++(List.replicate k aT).flatten).toArray
 |0,acc=>by simp
 |k+1,acc=>by
   have e:acc.toArray++aT.toArray=(acc++aT).toArray:=by simp
   have e2:(acc++aT)++(List.replicate k aT).flatten=acc++(List.replicate (k+1) aT).flatten:=by rw[BF,SJ,DX]
   rw[<- e2,<- foldl_rep aT k (acc++aT),<- e,BF,RQ]
section
variable{X:Cx}{l b:Addr}{ys zs:qak}
def Inv.O6{aT m6:qag}{f:Array Value->Array Value}(I:Inv X ε σ H s)(hH:H l=some (.lst xs))(e:s.heap.get? l=some {cls:=.type "list",data:=.seq aT.toArray n})(hf:f aT.toArray=m6.toArray)(hv:Vals ys m6)(hz:ys.length<=sizeLine) :
  Inv X ε σ (upd H l (.lst ys)) {s with heap:=s.heap.update l (Obj.mapSeq f),toks:=t'}:=by
 have q:=PySem.IsL.update e f;rw[hf] at q;refine I.write (by rw[hH];exact trivial) (.inl rfl) (λb' u hb hu=>(Heap.get?_update_other s.heap (Obj.mapSeq f) (Ne.symm hb)).trans hu) ⟨_,q⟩ ?_;exact⟨hz,m6,_,hv,q⟩
def Inv.TL{aT:qag}(I:Inv X ε σ H s)(hv:Vals ys aT)(hz:ys.length<=sizeLine) :
  Inv X ε σ (upd H s.heap.objs.size (.lst ys)) {s with heap:=s.heap.push {cls:=.type "list",data:=.seq aT.toArray},toks:=t'} :=
 I.laid (λ_ _ q=>dR _ q) (cc _) ⟨hz,aT,0,hv,iO _ rfl⟩
def Inv.fresh(I:Inv X ε σ H s):H s.heap.objs.size=none:=I.bF.fresh (cc _)
def Inv.JB(I:Inv X ε σ H s)(hH:H l=some (.lst xs)):xs.length<=sizeLine/\∃(aT:qag)(n:Nat),Vals xs aT/\xs.length=aT.length/\s.heap.get? l=some {cls:=.type "list",data:=.seq aT.toArray n}:=by obtain⟨z,aT,n,r,e⟩:=I.bF l _ hH;exact⟨z,aT,n,r,r.length,e⟩
theorem Es(h:n<=sizeLine):Builtin.List.listTooLong n=false:=π (by lia)
end
section
variable{X:Cx}
def Ai:V->qak->Hp->VK->Prop:=λx vs H Q=>∃l xs y,x=.ref l/\vs=[y]/\H l=some (.lst xs)/\xs.length<sizeLine/\Q .bB (upd H l (.lst (xs++[y])))
theorem aS:YM X "list.append" Ai:=by
 intro ε s σ H x vs v us Q I rx rv h;obtain⟨l,xs,y,rfl,rfl,hH,hz,q⟩:=h;cases rx;obtain⟨u,rfl,ru⟩:=rv.one;obtain⟨z,aT,n,r,hl,e⟩:=I.JB hH;refine call_meets F.slot_list_append ⟨_,e,rfl⟩ F.entry_list_append (F.args_list_append_2 _ _) (PySem.list_append l aT.toArray n u (by rw[gU];lia)) ⟨e,⟨.bB,_,I.O6 hH e (by simp) (r.append (.cons ru .nil)) ?_,rfl,q⟩⟩;rw[nX,List.length_singleton]
 lia
def TM:V->qak->Hp->VK->Prop:=λx vs H Q=>∃l xs y,x=.ref l/\vs=[]/\H l=some (.lst xs)/\xs[xs.length-1]?=some y/\Q y (upd H l (.lst xs.dropLast))
theorem Et:YM X "list.pop" TM:=by
 intro ε s σ H x vs v us Q I rx rv h;obtain⟨l,xs,y,rfl,rfl,hH,hy,q⟩:=h;cases rx;have O7:=rv.zero;subst O7;obtain⟨z,aT,n,r,hl,e⟩:=I.JB hH;obtain⟨u,hu,ru⟩:=r.get hy;have hy':aT.toArray[aT.toArray.size-1]?=some u:=by show aT.toArray[aT.length-1]?=some u;rw[<- IS,<- hl];exact hu
 refine call_meets F.slot_list_pop ⟨_,e,rfl⟩ F.entry_list_pop (F.args_list_pop_1 _) (MeetsSeq.list_pop_last l aT.toArray n u hy' (by rw[gU];lia)) ⟨e,⟨y,_,I.O6 hH e ?_ r.dropLast ?_,ru,q⟩⟩;rw[gU,List.eraseIdxIfInBounds_toArray,yF];rw[ye]
 lia
def O8:V->qak->Hp->VK->Prop:=λx vs H Q=>∃l xs,x=.ref l/\vs=[]/\H l=some (.lst xs)/\Q .bB (upd H l (.lst []))
theorem Eu:YM X "list.clear" O8:=by intro ε s σ H x vs v us Q I rx rv h;obtain⟨l,xs,rfl,rfl,hH,q⟩:=h;cases rx;have O7:=rv.zero;subst O7;obtain⟨z,aT,n,r,hl,e⟩:=I.JB hH;exact call_meets F.slot_list_clear ⟨_,e,rfl⟩ F.entry_list_clear (F.args_list_clear_1 _) (AutoSeq1.list_clear_list_0 l aT.toArray n (by rw[gU];lia)) ⟨e,⟨.bB,_,I.O6 hH e rfl .nil (h_ _),rfl,q⟩⟩
def YN:R2:=λx y H Q=>∃l k xs,x=.ref l/\y=.int k/\H l=some (.lst xs)/\-(2 ^ 63)<=k/\k<2 ^ 63/\xs.length * k.toNat<=sizeLine /\
 ∀p,H p=none->Q (.ref p) (upd H p (.lst (List.replicate k.toNat xs).flatten))
def len_rep(xs:List α)(k:Nat):(List.replicate k xs).flatten.length=k * xs.length:=by
 induction k with
 |zero=>simp
 |succ k ih=>rw[BF,SJ,nX,ih,Nat.succ_mul,Nat.add_comm]
theorem O9:eM X (binaryOp .Mult) YN:=by
 intro ε s σ H x y v u Q I rx ry h;obtain⟨l,k,xs,rfl,rfl,hH,h1,h2,hz,q⟩:=h;cases rx;obtain⟨t,rfl⟩:=ry;obtain⟨z,aT,n,r,hl,e⟩:=I.JB hH;have hlen:aT.toArray.size * k.toNat<=sizeLine:=by rw[gU,<- hl];exact hz
 have YO:¬ aT.toArray.size * k.toNat > (2 ^ 63-1) / 8:=by
  have:sizeLine<=(2 ^ 63-1) / 8:=by decide
  lia
 have YQ:¬ (!Builtin.List.listFitsIndex k)=true:=by rw[fitsIndex_both h1 h2];exact ja
 have TN:¬ Builtin.List.listTooLong (aT.toArray.size * k.toNat)=true:=by rw[Es hlen];exact ja
 have YR:List.foldl (λx1 x2=>x1++x2) #[] (List.replicate (if aT.toArray.isEmpty=true then 0 else k.toNat) aT.toArray)=(List.replicate k.toNat aT).flatten.toArray:=by
  have f0:=λm=>by have:=foldl_rep aT m [];rw[List.nil_append] at this;exact this
  rw[f0];cases aT with
  |nil=>simp
  |cons a r'=>rw[η (by simp)]
 refine wpAny_binaryOp_repeat_ref (by decide) ⟨_,e,rfl⟩ (λs'=>aaB s' k t) noFill_list_mul F.fills_int_mul F.slot_int_rmul repeat_list F.slot_int_index.lookup
  (call_meets F.slot_int_rmul (aaB s k t) F.entry_int_rmul (F.args_int_rmul_2 _ _) (int___rmul___int_list k t l aT.toArray n)
   ⟨e,rfl,⟨_,e,rfl⟩,call_meets F.slot_list_mul ⟨_,e,rfl⟩ F.entry_list_mul (F.args_list_mul_2 _ _) (AutoListH.list___mul___list_int_3 l aT.toArray n k t YQ YO TN) ⟨e,?_⟩⟩)
 rw[YR];exact⟨.ref _,_,I.TL (r.rep k.toNat) (by rw[len_rep,Nat.mul_comm];exact hz),rfl,q _ I.fresh⟩
end
end L2
namespace Xf
open PySem PySem.W PySem.Calls PyProof.Rows
def m8{P:Params}:∀(ns:qan)(vs:qag),WellAll P h vs (ns.map WData.int)->IntsAre vs ns:=by
 intro ns;induction ns with
 |nil=>intro vs w;cases w;exact .nil
 |cons n ns ih=>
  intro vs w;cases w with
  |cons a b=>cases a;exact .cons _ _ (ih _ b)
theorem B3{l:OpenLaw}(hn:l.most=some n){P:Params}{args:List WData}{vals:qag}(lF:l.row.toRowW.claim.pre args=true)(TQ:WellAll P h vals args) :
  ∃a vs ns,vals=[Value.ref a]/\args=[WData.list (ns.map WData.int)]/\h.get? a=some {cls:=.type "list",data:=.seq vs.toArray}/\IntsAre vs ns/\ns.length<=n:=by
 have hsh:=(pre_splitW lF).1;have hc:l.pre.holds [] {args:=args}=true:=(pre_splitW lF).2;obtain⟨d,r,rfl,h1,h2⟩:=hasAllW_cons hsh;obtain rfl:=hasAllW_nil h2;obtain⟨xs,rfl,h3⟩:=hasW_list h1;obtain⟨ns,rfl⟩:=items_int h3;have hlen:ns.length<=n:=by
  have h4:(WTm.not (.lt (.lit (.int n)) (.len (.arg 0)))).holds [] {args:=[.list (ns.map .int)]}=true:=by have h4:=(holds_andW hc).1;rw[hn] at h4;exact h4
  have h5:=condW_of h4 (w_not (w_lt w_lit (w_len_list (w_arg rfl))))
  first
   | (rw[ν q'] at h5;exact absurd h5 (by decide))
   | (simp at h5;lia)
 cases TQ with
 |cons w1 w2=>
   cases w2;cases w1 with
   |list ho yG=>exact⟨_,_,ns,rfl,rfl,ho,m8 ns _ yG,hlen⟩
def B4(l:OpenLaw)(args:List WData):l.row.toRowW.claim.post args (.bool true) args=true :=
 postW_of
  (show WShape.has [] (.bool true) .bool=true by first|rfl|decide|simp[WShape.has,WShape.arms,WShape.armsAll])
  (show (WTm.eq .res (.lit (.bool true))).value [] {args:=args,res:=some (.bool true),after:=args}=some (.bool (true==true)) from w_eq_bool (w_res rfl) w_lit) rfl
def vO{l:OpenLaw}{q:Program}{loose:ω}{XP:(qae)->Heap->Prop}{YP:World->Heap->Prop}{d:DefRec}(hn:l.most=some n)(MO:d.params.defaults=[])(call:∀(w:World) (s₀ s₁:Shared) (mg mb:qae) (fa:Addr) (o:Obj) (pm cd doc:Value) (a:Addr) (vs:qag) (ns:qan),
    Ground q loose [] XP w s₀ mg mb s₁.heap->YP w s₁.heap ->
    s₁.heap.get? fa=some o->o.data=.func (docDef d.name d.params d.body d.scope pm cd doc)->s₁.heap.CodeRec cd d.name->mg d.name=some (.ref fa) ->
    s₁.heap.get? a=some {cls:=.type "list",data:=.seq vs.toArray}->IntsAre vs ns->ns.length<=n->s₁.gens=#[] ->
    codeAny (model l.prog w) callerA (.call (.ref fa) ⟨[.ref a],[]⟩) (λr s'=>r=.ok (.ret (.bool true))/\OldK s₁.heap s'.heap/\s'.os=s₁.os/\AllBare s'.gens) s₁) :
  WalkO q loose XP YP l.row.toRowW d [] (λf vs=>PySem.call f vs):=by
 intro w s₀ s₁ mg mb G Y fa o pm cd doc dV kV ho hd fO hD TR hg args vals as lF TU hrd TQ IE;obtain rfl:=Dflts.none hD MO;obtain rfl:=Dflts.noKw hD;obtain⟨a,vs,ns,rfl,rfl,O_,hints,hlen⟩:=B3 hn lF TQ;refine enter_call (codeAny_mono (call w s₀ s₁ mg mb fa o pm cd doc a vs ns G Y ho (fd_plain hd) fO TR O_ hints hlen hg) λr s' hq=>?_);obtain⟨rfl,h2,h3,h4⟩:=hq;exact⟨.inl ⟨.bool true,.bool true,[],rfl,λ_=>rfl,.bool true,B4 l _,λ_=>⟨List.Pairwise.nil,λ_ hm=>(nomatch hm)⟩⟩,h2,h3,h4⟩
end Xf
namespace L2
open PySem PySem.Spec PyProof.Rows
theorem q_:∀{vs:qag}{ns:qan},IntsAre vs ns->Vals (ns.map V.int) vs
 |_,_,.nil=>.nil
 |_,_,.cons n t h=>.cons ⟨t,rfl⟩ (q_ h)
def TV(H:Hp):Prop:=∀b,H b=none\/∃o xs,H b=some (.fF o (.lst xs))
theorem Ew{mb:qae}{CX:DG}{k:Nat}{fa a:Addr}{sp:Sp}{s₁:Shared}{vs:qag}{ns:qan}(KX:K.In s₁.heap)(YS:s₁.heap.Ns mainGlobals mg)(hb:s₁.heap.Ns builtinsNs mb)(hbb:∀x:Str,x≠"__name__"->mb x=bootBuiltins x)(YT:s₁.heap.NoLimit)(hg:s₁.gens=#[])(ha:s₁.heap.get? a=some {cls:=.type "list",data:=.seq vs.toArray})(hi:IntsAre vs ns)(hl:ns.length<=sizeLine)(hr:bA k callerA)(F:∀base:Heap,K.In base->base.Ns mainGlobals mg->dA P w K mg base CX k fa fd [x] sp)(TX:∀(s:Shared) (u:Value),BindsTo s fd ⟨[u],[]⟩ [(x,u)])(RY:∀H:Hp,TV H->fG K H a (ns.map V.int)->sp [.ref a] H (λv _=>v=.bl true) λ_ _ _=>False)(hCX:∀H e s',CX [] H s₁ (λ_ _ _=>False) e s'->False) :
  codeAny (model P w) callerA (.call (.ref fa) ⟨[.ref a],[]⟩) (λr s'=>r=.ok (.ret (.bool true))/\OldK s₁.heap s'.heap/\s'.os=s₁.os/\AllBare s'.gens) s₁:=by
 have rv:=q_ hi;have YU:=hi.length;have core:∀H:Hp,TV H->fG K H a (ns.map V.int)->jb P w H s₁.heap->(∀b,H b≠none->b=a)->(H a≠none->K.lookup a=none) ->
   codeAny (model P w) callerA (.call (.ref fa) ⟨[.ref a],[]⟩) (λr s'=>r=.ok (.ret (.bool true))/\OldK s₁.heap s'.heap/\s'.os=s₁.os/\AllBare s'.gens) s₁:=by
  intro H hO hS bF hA hK;have Aj:∀{b:Addr}{o:Obj},s₁.heap.get? b=some o->H b=none->(vJ s₁.heap H).get? b=some o:=λe n=>D2 e n;have Tu:∀{b:Addr}{o:Obj}{es:Array DictEntry}{ep:Nat},s₁.heap.get? b=some o->o.data=.dict es ep->H b=none:=λ{b o es ep} e d=>by
   cases q:H b with
   |none=>rfl
   |some u=>have e':=hA b (by rw[q];simp);subst e';rw[ha] at e;cases e;have d':=d;cases d'
  have Xg:∀{b:Addr}{m:qae},s₁.heap.Ns b m->(vJ s₁.heap H).Ns b m:=λ{b m} ⟨o,es,ep,e,d,r⟩=>⟨o,es,ep,Aj e (Tu e d),d,r⟩;have hKb:=λb o e=>Aj (KX b o e) (by
   cases q:H b with
   |none=>rfl
   |some u=>have e':b=a:=hA b (by rw[q];simp);subst e';rw[hK (by rw[q];simp)] at e;cases e)
  have hM:Mod K mg (vJ s₁.heap H):=⟨hKb,Xg YS,⟨mb,Xg hb,hbb⟩,let ⟨mc,h1,h2⟩:=YT;⟨mc,Xg h1,h2⟩⟩;have e0:yx P w K mg (vJ s₁.heap H) callerA [] s₁ H:=⟨rfl,hM,λb o e=>IY e,Nat.le_of_eq (BL _ _),trivial,λb hb=>absurd (show b∈([]:Ω) from hb) (by simp),bF,.of_eq hg⟩;refine codeAny_mono ((F _ hKb (Xg YS)).run callerA [] s₁ H ⟨[.ref a],[]⟩ [.ref a] [.ref a] _ _ hr e0 (TX s₁ (.ref a)) (.cons rfl .nil) (RY H hO hS)) λr s' h=>?_;cases r with
  |error e=>exact (hCX H e s' h).elim
  |ok fl=>
    cases fl with
    |ret u=>
      obtain⟨v,H',os,bare,un,YV,r',q⟩:=h;have q':=q;subst q';obtain rfl:=r';refine⟨rfl,OldK.of_keep λb o e=>?_,os,bare⟩;cases q:H b with
      |none=>exact un.keep b o e q (by intro z;exact absurd (show b∈([]:Ω) from z) (by simp)) (by simp)
      |some u=>
        rcases hO b with z|⟨ob,xs,z⟩
        rw[q] at z;cases z;have z2:=un.nZ b ob _ z;obtain⟨e1,_⟩:=bF b _ z;obtain⟨e2,_⟩:=YV b _ z2;rw[e] at e1;cases e1;exact e2
    |_=>exact False.elim h
 cases hk:K.lookup a with
 |some o=>have e:=KX a o hk;rw[ha] at e;cases e;refine core (λ_=>none) (λ_=>.inl rfl) (.inr ⟨_,vs.toArray,_,hk,rfl,rfl,rfl,by rw[gU,YU];exact hl,by simpa using rv⟩) (λb u z=>by have z':=z;cases z') (λb z=>absurd rfl z) λz=>absurd rfl z
 |none=>refine core (λb=>if b=a then some (.fF {cls:=.type "list",data:=.seq vs.toArray} (.lst (ns.map V.int))) else none) (λb=>?_) (.inl (.inr ⟨{cls:=.type "list",data:=.seq vs.toArray},ι rfl⟩)) (λb u z=>?_) (λb z=>?_) λ_=>hk;by_cases hb:b=a;exact .inr ⟨_,_,ι hb⟩;exact .inl (η hb);by_cases hb:b=a;have z':=(ι hb).symm.trans z;cases z';subst hb;exact⟨ha,by rw[bX];exact hl,vs,_,rv,ha⟩;have z':=(η hb).symm.trans z;cases z';by_cases hb:b=a;exact hb;exact absurd (η hb) z
noncomputable def inClass(s:Stmt)(j:Nat):Stmt:=match s with
 |.ClassDef _ _ _ body _ _ _ _ _ _ _=>body.getD j (.Pass ⟨0,0,0,0⟩)
 |_=>.Pass ⟨0,0,0,0⟩
noncomputable def dW(s:Stmt):Arguments:=match s with
 |.FunctionDef _ a _ _ _ _ _ _ _ _=>a
 |_=>{posonlyargs:=[],args:=[],vararg:=none,kwonlyargs:=[],kw_defaults:=[],kwarg:=none,defaults:=[]}
def b_(s:Stmt):qaq:=match s with
 |.FunctionDef _ _ b _ _ _ _ _ _ _=>b
 |_=>[]
noncomputable def aq(s:Stmt):Scope:=match s with
 |.FunctionDef _ _ _ _ _ _ sc _ _ _=>sc
 |_=>{kind:=.function,names:=[],isGenerator:=false,isCoroutine:=false}
abbrev iR:DG:=λ_ _ _ _ _ _=>False
abbrev E0:XK:=λ_ _ _=>False
def mT{X:Cx}:Passes iR X E0:=λ_ _ _ _ _ _ _ h=>h.elim
structure B5(K:zm)(x qual:Str)(st:Stmt)(f:Addr)(fd:FuncData):Prop where
 ex:∃(oc:Value)(od:qar)(kV doc pm:Value)(an:qar)(bP ct:Value)(IC:Array (Option Value)),
  fd=W.fnOf x qual (dW st) (b_ st) (aq st) .none kV doc pm an bP ct/\K.lookup f=some ⟨oc,od,.func fd,IC⟩/\W.codeIn K bP qual=true
 kp:W.keepIn K (.ref f)=true
section
def B5.ok{st:Stmt}{N:ω}{k:Nat}{sp:Sp}(F:B5 K x qual st f fd)(S:aJ N ps (aq st))(len:∀vs H Q E,sp vs H Q E->vs.length=ps.length)(eQ:∀(bP:Value) (A:Around) (outer:List Env) (s:Shared) (H:Hp) (vs:qak) (Q:VK) (E:XK),bA k (A.deeper (envOfC qual (aq st) s.heap.objs.size f bP))->sp vs H Q E ->
    ∃t,iP (jD iR P w K mg base N qual (aq st) f bP A outer s H E).BM (b_ st) t/\t {nx:=λ_ H'=>Q .bB H',rt:=Q} (start N vs) H):dA P w K mg base iR (k+1) f fd ps sp:=by
 obtain⟨oc,od,kV,doc,pm,an,bP,ct,IC,rfl,lk,fO⟩:=F.ex;refine Ei lk fO S len λA outer s H vs Q E hr RY=>?_;obtain⟨t,h,q⟩:=eQ bP A outer s H vs Q E hr RY;exact⟨t,h.BM,q⟩
def B5.binds{st:Stmt}(F:B5 K x qual st f fd)(h:∀(kV doc pm:Value) (an:qar) (bP ct:Value) (us:qag),us.length=ps.length->bindArgs (W.fnOf x qual (dW st) (b_ st) (aq st) .none kV doc pm an bP ct) ⟨us,[]⟩=pure (ps.zip us)):Binds K fd ps []:=by obtain⟨oc,od,kV,doc,pm,an,bP,ct,IC,rfl,lk,fO⟩:=F.ex;exact .all (h kV doc pm an bP ct)
def sO{st:Stmt}{oc:Value}{od an:qar}{IC:Array (Option Value)}{kV doc pm bP ct:Value}(l:K.lookup f=some ⟨oc,od,.func (W.fnOf x qual (dW st) (b_ st) (aq st) .none kV doc pm an bP ct),IC⟩)(c:W.codeIn K bP qual=true)(k:W.keepIn K (.ref f)=true):B5 K x qual st f (W.fnOf x qual (dW st) (b_ st) (aq st) .none kV doc pm an bP ct):=⟨⟨oc,od,kV,doc,pm,an,bP,ct,IC,rfl,l,c⟩,k⟩
end
def B6(h:n<=1000):n<sizeLine:=Nat.lt_of_le_of_lt h (by decide)
def TY{A:Prop}(h:B):if false=true then A else B:=h
def TZ{A:Prop}(h:A):if true=true then A else B:=h
def B7{c A:Prop}[Decidable c](h1:c->A)(h2:¬ c->B):if c then A else B:=by by_cases h:c;rw[ι h];exact h1 h;rw[η h];exact h2 h
def aL(H H':Hp):Prop:=∀b o,H b=some o->H' b=some o
def aL.refl(H:Hp):aL H H:=λ_ _ h=>h
def aL.trans{H1 H2:Hp}(a:aL H H1)(b:aL H1 H2):aL H H2:=λc o h=>b c o (a c o h)
section
theorem gD{env:Env}{f:Str×NameKind->List (Str×Addr)->Sem (ForInStep (List (Str×Addr)))}:∀(l:List (Str×NameKind))(cs:List (Str×Addr)),
  (∀p∈l,∀r,(p.2=.free->∃c,env.cells.lookup p.1=some c/\f p r=pure (.yield ((p.1,c)::r)))/\(p.2≠.free->f p r=pure (.yield r))) ->
  ∃cl,forIn l cs f=pure cl/\(∀y c,cl.lookup y=some c->cs.lookup y=some c\/env.cells.lookup y=some c)/\(∀y,(cs.lookup y).isSome=true->(cl.lookup y).isSome=true) /\
   ∀p∈l,p.2=.free->(cl.lookup p.1).isSome=true
 |[],cs,_=>⟨cs,by rw[List.forIn_nil],λ_ _ h=>.inl h,λ_ h=>h,λ_ h=>nomatch h⟩
 |p::l,cs,hf=>by
   have hr:=λq hq r=>hf q (gz _ hq) r;by_cases hp:p.2=.free;obtain⟨c,hc,e⟩:=(hf p fB cs).1 hp;obtain⟨cl,h1,h2,h3,h4⟩:=gD l ((p.1,c)::cs) hr;refine⟨cl,?_,λy d h=>?_,λy h=>h3 y ?_,λq hq Xh=>?_⟩;rw[SM,e];exact h1;rcases h2 y d h with z|z
   rw[IU] at z;cases hy:y==p.1 with
   |true=>rw[hy] at z;have ey:=eq_of_beq hy;cases z;rw[ey];exact .inr hc
   |false=>rw[hy] at z;exact .inl z
   exact .inr z;rw[IU];cases hy:y==p.1 with
   |true=>rfl
   |false=>exact h
   rcases dg.mp hq with z|z
   subst z;refine h3 _ ?_;rw[IU,beq_self_eq_true];rfl;exact h4 q z Xh;have e:=(hf p fB cs).2 hp;obtain⟨cl,h1,h2,h3,h4⟩:=gD l cs hr;refine⟨cl,?_,h2,h3,λq hq Xh=>?_⟩;rw[SM,e];exact h1;rcases dg.mp hq with z|z
   subst z;exact absurd Xh hp;exact h4 q z Xh
def gW{scope:Scope}{env:Env}(h:∀p∈scope.names,p.2=.free->∃c,env.cells.lookup p.1=some c) :
  ∃cl,closureFor scope env=pure cl/\(∀y c,cl.lookup y=some c->env.cells.lookup y=some c)/\∀p∈scope.names,p.2=.free->∃c,cl.lookup p.1=some c:=by
 have key:∃cl,closureFor scope env=pure cl/\(∀y c,cl.lookup y=some c->([]:List (Str×Addr)).lookup y=some c\/env.cells.lookup y=some c)/\(∀y,(([]:List (Str×Addr)).lookup y).isSome=true->(cl.lookup y).isSome=true) /\
   ∀p∈scope.names,p.2=.free->(cl.lookup p.1).isSome=true:=by
  have go:=@gD env (λx r=>if x.2==NameKind.free then (do let c <- cellOf env x.1;pure (ForInStep.yield ((x.1,c)::r))) else pure (ForInStep.yield r)) scope.names [] ?_;obtain⟨cl,h1,h2⟩:=go;refine⟨cl,?_,h2⟩
  first
   | (rw[h1];rfl)
   | (rw[h1];rfl)
   |exact rk (· >>= pure) h1
  intro p hp r;refine⟨λhf=>?_,λhf=>?_⟩;obtain⟨c,hc⟩:=h p hp hf;refine⟨c,hc,?_⟩;have e1:(p.2==NameKind.free)=true:=by rw[hf];rfl
  have e2:cellOf env p.1=pure c:=by unfold cellOf;rw[hc]
  rw[e1,ι rfl,e2];rfl;have e1:(p.2==NameKind.free)=false:=by simpa using hf
  rw[e1,η (by decide)]
 obtain⟨cl,h1,h2,h3,h4⟩:=key;refine⟨cl,h1,λy c e=>?_,λp hp hf=>Option.isSome_iff_exists.mp (h4 p hp hf)⟩;rcases h2 y c e with z|z
 rw[List.lookup_nil] at z;cases z;exact z
def j9{scope:Scope}{env:Env}(y:Str):(relabel scope env).names.lookup y =
  (scope.names.lookup y).map λk=>if (k==.free && env.scope.kind==.function && env.kindOf y==some .cell)=true then .cell else k:=by
 have key:∀l:List (Str×NameKind),(l.map λ(n,k)=>if (k==NameKind.free && env.scope.kind==.function && env.kindOf n==some .cell) then (n,NameKind.cell) else (n,k)).lookup y =
   (l.lookup y).map λk=>if (k==.free && env.scope.kind==.function && env.kindOf y==some .cell)=true then .cell else k:=by
  intro l;induction l with
  |nil=>rfl
  |cons p l ih=>
    obtain⟨n,k⟩:=p;show List.lookup y ((if (k==NameKind.free && env.scope.kind==.function && env.kindOf n==some .cell)=true then (n,NameKind.cell) else (n,k))::_)=_;by_cases hc:(k==NameKind.free && env.scope.kind==.function && env.kindOf n==some .cell)=true;rw[ι hc,IU,IU];cases hy:y==n with
    |true=>have ey:=eq_of_beq hy;subst ey;show some NameKind.cell=some (if _ then _ else _);rw[ι hc]
    |false=>exact ih
    rw[η hc,IU,IU];cases hy:y==n with
    |true=>have ey:=eq_of_beq hy;subst ey;show some k=some (if _ then _ else _);rw[η hc]
    |false=>exact ih
 exact key scope.names
end
noncomputable def jF(N ts:ω)(out sc:Scope):Bool :=
 (sc.kind==.function) && sc.names.all (λp=>(p.2 != .cell) && (p.2 != .free || out.names.lookup p.1==some .cell || out.names.lookup p.1==some .free) && (p.2 != .local || sc.names.lookup p.1==some .local))
  && N.all (λy=>sc.names.lookup y != some .local) && ts.all (λy=>sc.names.lookup y==some .local) && decide ((N++ts).Nodup)
structure ow(N ts:ω)(out sc:Scope):Prop where
 kind:sc.kind=.function
 Ex:∀p∈sc.names,p.2≠.cell
 fr:∀p∈sc.names,p.2=.free->out.names.lookup p.1=some .cell\/out.names.lookup p.1=some .free
 names:∀p∈sc.names,p.2=.local->sc.names.lookup p.1=some .local
 own:∀y∈N,sc.names.lookup y≠some .local
 tgt:∀y∈ts,sc.names.lookup y=some .local
 nd:(N++ts).Nodup
def rf{N ts:ω}{out:Scope}(h:jF N ts out sc=true):ow N ts out sc:=by unfold jF at h;rw[ij,ij,ij,ij] at h;obtain⟨⟨⟨⟨h1,h2⟩,h3⟩,h4⟩,h5⟩:=h;rw[IV] at h2 h3 h4;refine⟨eq_of_beq h1,λp hp=>?_,λp hp hf=>?_,λp hp hl=>?_,λy hy=>?_,λy hy=>?_,υ h5⟩;have:=h2 p hp;rw[ij,ij] at this;simpa using this.1.1;have:=h2 p hp;rw[ij,ij] at this;have q:=this.1.2;rw[hf] at q;simpa using q;have:=h2 p hp;rw[ij,ij] at this;have q:=this.2;rw[hl] at q;simpa using q;simpa using h3 y hy;simpa using h4 y hy
noncomputable def bx(X:Cx)(ts:ω)(sc:Scope)(cl:List (Str×Addr))(C:Addr)(fp:Ω)(s:Shared)(H:Hp):Cx where
 prog:=X.prog
 w:=X.w
 K:=X.K
 mg:=X.mg
 base:=X.base
 A:=X.A
 N:=X.N++ts
 s₀:=s
 H₀:=H
 env:=compEnvC sc cl C X.env
 outer:=X.stack
 stack:=X.stack
 ex:=fp
 fn:=λ_=>false
 calm:=X.calm
 pn:=[]
 xe:=λ_ _=>False
section
variable{X:Cx}{ts:ω}{cl:List (Str×Addr)}{D:Addr}
def rh(hS:ow X.N ts X.env.scope sc)(h:mP (relabel sc X.env) y):sc.names.lookup y=some .local\/(sc.names.lookup y=some .free/\((relabel sc X.env).names.lookup y=some .cell\/(relabel sc X.env).names.lookup y=some .free)):=by
 have e:=j9 (scope:=sc) (env:=X.env) y;cases hk:sc.names.lookup y with
 |none=>rw[hk] at e;have e':=e;obtain h|h|h:=h<;>rw[e'] at h<;>cases h
 |some k=>
  have hm:=Mu hk;rw[hk] at e;cases k with
  |«local»=>exact .inl rfl
  |cell=>exact absurd rfl (hS.Ex _ hm)
  |free=>refine .inr ⟨rfl,?_⟩;rw[e,Option.map_some];by_cases hc:(NameKind.free==.free && X.env.scope.kind==.function && X.env.kindOf y==some .cell)=true;rw[ι hc];exact .inl rfl;rw[η hc];exact .inr rfl
  |globalExplicit=>have e':=e;obtain h|h|h:=h<;>rw[e'] at h<;>cases h
  |globalImplicit=>have e':=e;obtain h|h|h:=h<;>rw[e'] at h<;>cases h
def Ak(I:Inv X ε σ H s)(hf:∀b∈fp,lu X ε H b):∀b∈fp,b∉DF X.stack:=λb hb z=>by
 obtain⟨_,f1,f2,_⟩:=hf b hb;rcases dg.mp (I.yi b z) with e|e
 exact f1 e;exact f2 e
theorem JC(I:Inv X ε σ H s)(hf:∀b∈fp,lu X ε H b)(T1:∀b∈fp,∃o,s.heap.get? b=some o)(hS:ow X.N ts X.env.scope sc)(c1:∀y c,cl.lookup y=some c->X.env.cells.lookup y=some c)(c2:∀p∈sc.names,p.2=.free->∃c,cl.lookup p.1=some c)(hC:s.heap.objs.size<=C)(hD:s.heap.objs.size<=D)(Xi:D≠C){h1:Heap}{m:qae}{t:Nat}(k:∀b o,s.heap.get? b=some o->h1.get? b=some o)(hn:h1.Ns C m)(hd:h1.get? D=some {cls:=.type "list",data:=.seq ([]:qag).toArray n}) :
  Inv (bx X ts sc cl C fp s H) [] (σ++ts.map λ_=>none) (upd H D (.lst [])) {s with heap:=h1,toks:=t}:=by
 have sz:=I.sz;have YW:∀b∈fp,b<s.heap.objs.size:=λb hb=>by obtain⟨o,e⟩:=T1 b hb;exact eJ e
 have I9:∀y c,cl.lookup y=some c->c<s.heap.objs.size:=λy c e=>by obtain⟨v,q⟩:=I.cell y c (c1 y c e);exact q.lt
 have ok:(bx X ts sc cl C fp s H).Ok:=by
  refine⟨I.ok.mod,hS.kind,I.ok.glob,I.ok.blt,hC,λx y c e1 e2=>I.ok.inj x y c (c1 x c e1) (c1 y c e2),λx hx=>?_,λx c hx=>absurd hx (by simp[bx]),I.ok.hd,I.ok.frames,.inl rfl,λb hb=>?_,λb o e=>I.bs b o e,
   ll I.ok.IZ sz,λb o e hb=>?_,Ak I hf,I.stack,λb hb=>I.z9 b hb⟩
  have hv:mP (relabel sc X.env) x:=by
   obtain hx|hx:=hx
   exact .inr (.inl hx);exact .inr (.inr hx)
  rcases rh hS hv with z|⟨z,_⟩
  have e:=j9 (scope:=sc) (env:=X.env) x;rw[z] at e;have e':=e;have R3:(relabel sc X.env).names.lookup x=some .cell\/(relabel sc X.env).names.lookup x=some .free:=hx;rw[e'] at R3;obtain q|q:=R3<;>cases q
  exact c2 _ (Mu z) rfl;exact⟨λe=>absurd (qe (YW b hb) hC) (by have e':=e;rw[e'];exact DC _),λx c e z=>(hf b hb).2.2.2.2.1 x c (c1 x c e) z⟩;rcases (hf b hb).2.2.2.1 with z|z
  exact I.ok.D3 b o e z;exact absurd (qe (eJ e) (ll I.ok.IZ z)) (DC _)
 have hnD:=I.bF.fresh hD;refine⟨ok,rfl,I.bare,Un.laid k hD hnD,⟨m,hn,λi x v e1 e2 e3=>?_⟩,λx c e=>?_,?_,λx c e=>?_,λp hp=>absurd (show p∈([]:qaa) from hp) (by simp),I.bF.laid k hD ⟨h_ _,[],n,.nil,hd⟩,?_⟩;have hi:i<σ.length:=by
  by_cases hi:i<σ.length;exact hi;rw[p8 (by lia),fD] at e2;cases q:ts[i-σ.length]? with
  |none=>rw[q] at e2;cases e2
  |some a=>rw[q] at e2;cases e2
 have B8:σ[i]?=some (some v):=by rw[mK hi] at e2;exact e2
 have Pa:X.N[i]?=some x:=by have T2:(X.N++ts)[i]?=some x:=e1;rw[mK (by rw[<- I.len];exact hi)] at T2;exact T2
 rcases rh hS e3 with z|⟨z,zr⟩
 exact absurd z (hS.own x (f_ Pa));have hm:=Mu z;have ho:=hS.fr _ hm rfl;obtain⟨m0,_,hl⟩:=I.loc;obtain⟨u,r,l⟩:=hl i x v Pa B8 (.inr ho);obtain⟨c',qg⟩:=c2 _ hm rfl;obtain⟨l,_⟩|⟨_,c,hc,z2⟩:=l
 have l':X.env.scope.names.lookup x=some .local:=l;rw[l'] at ho;obtain q|q:=ho<;>cases q
 have ec:=c1 x c' qg;rw[hc] at ec;cases ec;exact⟨u,r,.inr ⟨zr,_,qg,z2.keeps k⟩⟩;obtain⟨v,z⟩:=I.cell x c (c1 x c e);exact⟨v,z.keeps k⟩;show upd H D (.lst []) C=none;rw[ar (Ne.symm Xi)];exact I.bF.fresh hC;rw[ar (jX (qe (I9 x c e) hD))];exact I.gc x c (c1 x c e);show (σ++ts.map λ_=>none).length=(X.N++ts).length;rw[nX,nX,bX,I.len]
def vP(I:Inv X ε σ H s)(hf:∀b∈fp,lu X ε H b){Aa:qaa}{σ':St}(J:Inv (bx X ts sc cl C fp s H) Aa σ' H' s'):Inv X ε σ H' s' :=
 I.SU J.os J.base J.bF J.bare λb hb=>by obtain⟨_,f1,_,f3,f4,f5⟩:=hf b hb;exact⟨f3,f1,f4,f5⟩
end
section
variable{R:Result->Shared->Prop}
theorem jd{elt target:Expr}{ifs:qap}{scope:Scope}{pos:Pos}{it acc:Value}{env:Env}(I:Nat->Shared->Prop)(turn:∀n s,I n s->wpAny (model prog w) A (pyNext it) (λr s₁=>match r with
    |none=>R (.ok .next) s₁
    |some v=>wpAny (model prog w) A (letOwnedTupleGo target it v) (λ_ s₁'=>wpAny (model prog w) A (assign target env v) (λ_ s₂=>
       wpAny (model prog w) A (forIn ifs true λc r=>if r=true then do let ok <- isTrue c env (eval c env);pure (ForInStep.yield ok) else pure (ForInStep.yield r)) (λok s₃=>
        if ok=true then wpAny (model prog w) A (eval elt env) (λx s₄=>
         wpAny (model prog w) A (call (.builtin "list.append") [acc,x]) (λ_ s₅=>∃m,m<n/\I m s₅) (notedBy (model prog w) A env λe s'=>R (.error e) s') s₄) (notedBy (model prog w) A env λe s'=>R (.error e) s') s₃
        else ∃m,m<n/\I m s₃) (notedBy (model prog w) A env λe s'=>R (.error e) s') s₂) (notedBy (model prog w) A env λe s'=>R (.error e) s') s₁')
       (notedBy (model prog w) A env λe s'=>R (.error e) s') s₁) (notedBy (model prog w) A env λe s'=>R (.error e) s') s)(n:Nat)(h:I n s):codeAny (model prog w) A (.compLoop (.ListComp elt [⟨target,iter,ifs,0⟩] scope pos) 0 it acc env) R s:=by
 refine codeAny_loop rfl I (λn s hI=>wpAny_noted (ζ (wpAny_standAt (ζ (Φ (turn n s hI) (λr s₁ h₁=>?_) λ_ _ h'=>h'))))) n h;cases r with
 |none=>exact θ h₁
 |some v=>
   refine ζ (Φ h₁ (λ_ s₁' h₁'=>ζ (Φ h₁' (λ_ s₂ h₂=>ζ (Φ h₂ (λok s₃ h₃=>?_) λ_ _ h'=>h')) λ_ _ h'=>h')) λ_ _ h'=>h');cases ok with
   |false=>exact θ ⟨rfl,h₃⟩
   |true=>exact ζ (ζ (Φ h₃ (λx s₄ h₄=>ζ (Φ h₄ (λ_ s₅ h₅=>θ (θ ⟨rfl,h₅⟩)) λ_ _ h'=>h')) λ_ _ h'=>h'))
end
def Ey(X:Cx)(ifs:qap)(t:TT):Prop :=
 ∀(ε:qaa)(s:Shared)(σ:St)(H:Hp)(Q:Bool->Hp->Prop),Inv X ε σ H s->t σ H Q ->
  wpAny (model X.prog X.w) X.A (forIn ifs true λc r=>if r=true then do let ok <- isTrue c X.env (eval c X.env);pure (ForInStep.yield ok) else pure (ForInStep.yield r)) (TP X ε σ Q) X.xe s
def YX:TT:=λ_ H Q=>Q true H
def JD{X:Cx}:Ey X [] YX:=λ_ _ _ H _ I h=>wpAny_tests_nil ⟨H,I,h⟩
def JE{X:Cx}{t:TT}(h:PT X c t):Ey X [c] t:=λε s σ H Q I hw=>wpAny_tests_one (h ε s σ H Q I hw)
def Ez(J:It)(g:TG)(tt:TT)(te:TE)(n:Nat)(σ:St)(D:Addr)(Q:Hp->Prop)(H1:Hp):Prop :=
 ∃W:Nat->Nat->qak->Hp->Prop,(∃m,W 0 m [] (upd H1 D (.lst [])))/\∀i m acc H2,W i m acc H2->H2 D=some (.lst acc) /\
  ((J.stop i H2/\Q H2)\/(J.go i H2/\acc.length<sizeLine/\∀x H3,J.RW i H2 x H3->g x (σ++List.replicate n none) H3 λσ4 H4=>(σ4.length=σ.length+n/\∀(i:Nat) v,σ[i]?=some (some v)->σ4[i]?=some (some v)) /\
   tt σ4 H4 λb H5=>if b=true then te σ4 H5 λy H6=>H6 D=some (.lst acc)/\∃m',m'<m/\W (i+1) m' (acc++[y]) (upd H6 D (.lst (acc++[y]))) else ∃m',m'<m/\W (i+1) m' acc H5))
section
variable{X:Cx}{ts:ω}{cl:List (Str×Addr)}
theorem B9{Y:Cx}{pl:qaa}{σ4:St}(I:Inv Y pl σ4 H' s')(hl:σ4.length=σ.length+n)(hs:∀(i:Nat) v,σ[i]?=some (some v)->σ4[i]?=some (some v)) :
  Inv Y pl (σ++List.replicate n none) H' s':=by
 refine I.weak (by rw[nX,Ms,hl]) λi v e=>?_;by_cases hi:i<σ.length;rw[mK hi] at e;exact hs i v e;rw[p8 (by lia),DV] at e;split at e<;>cases e
def vQ{elt tg:Expr}{ifs:qap}{pos:Pos}{tn:Nat->Heap->Prop}{J:It}{g:TG}{tt:TT}{Q:Hp->Prop}{RR:Value->Addr->Result->Shared->Prop}(hc:X.calm=true)(I:Inv X ε σ H s)(T:Turn X.prog X.w X.K tg J fp it tn)(st:tn 0 s.heap)(hf:∀b∈fp,lu X ε H b)(hS:ow X.N ts X.env.scope sc)(c1:∀y c,cl.lookup y=some c->X.env.cells.lookup y=some c)(c2:∀p∈sc.names,p.2=.free->∃c,cl.lookup p.1=some c)(hg:∀C,PG (bx X ts sc cl C fp s H) tg g)(ht:∀C,Ey (bx X ts sc cl C fp s H) ifs tt)(he:∀C,PE (bx X ts sc cl C fp s H) elt te)(hw:Ez J g tt te ts.length σ s.heap.objs.size Q H)(fin:∀(C:Addr) (H':Hp) (s':Shared) (σ':St),s.heap.objs.size<=C->Inv (bx X ts sc cl C fp s H) [] σ' H' s'->Q H'->RR (.ref s.heap.objs.size) C (.ok .next) s') :
  wpAny (model X.prog X.w) X.A (newList []) (λacc s₃=>wpAny (model X.prog X.w) X.A (newFunctionEnv sc X.env.globals cl [] X.env.qual none .none (some X.env)) (λT3 s₄=>
   codeAny (model X.prog X.w) X.A (.compStart (.ListComp elt [⟨tg,iter,ifs,0⟩] sc pos) 0 (.ref it) acc {T3 with scope:=relabel sc X.env}) (RR acc T3.locals) s₄) E s₃) E s:=by
 obtain⟨W,⟨m0,w0⟩,turn⟩:=hw;have YY:=T.obj 0 _ st;have T1:∀b∈fp,∃o,s.heap.get? b=some o:=λb hb=>let ⟨o,e,_⟩:=YY b hb;⟨o,e⟩;refine Δ (wpAny_newFunctionEnv hS.Ex (by intro y hy;simp at hy) (λh₁ T4 Pb=>?_) hS.kind);generalize YZ:s.heap.push {cls:=.type "list",dict:=none,data:=.seq ([]:qag).toArray}=H2 at T4 Pb ⊢;have hC:H2.objs.size=s.heap.objs.size+1:=by rw[<- YZ,DZ]
 have Xi:s.heap.objs.size≠H2.objs.size:=by rw[hC];exact jX (DA _)
 have T5:s.heap.objs.size<=H2.objs.size:=by rw[hC];exact Mz _
 have below:∀b,b<s.heap.objs.size->b≠H2.objs.size/\b≠s.heap.objs.size:=λb hb=>⟨by rw[hC];exact jX (N5 hb),jX hb⟩;have old:=λb o e=>Pb.extBut b o (below b (eJ e)).1 (dR _ (YZ▸dR _ e));have Y4:=Pb.extBut _ _ Xi (dR _ (YZ▸iO _ rfl));have T6:=T.keep _ _ _ st λb hb o e=>old b o e;have sP:∀{H':Hp},(∀b∈fp,H' b=none)->∀b∈fp,lu (bx X ts sc cl H2.objs.size fp s H) [] H' b:=λ{H'} hn b hb=>by obtain⟨o,e⟩:=T1 b hb;refine⟨hn b hb,λz=>?_,Ak I hf b hb,.inl hb,λx c e z=>(hf b hb).2.2.2.2.1 x c (c1 x c e) z,λp hp=>absurd (show p∈([]:qaa) from hp) (by simp)⟩;have z':=z;exact (below b (eJ e)).1 z'
 have fp0:∀b∈fp,(upd H s.heap.objs.size (.lst [])) b=none:=λb hb=>by obtain⟨o,e⟩:=T1 b hb;rw[ar (jX (eJ e))];exact (hf b hb).1
 have eN:(ts.map λ_=>(none:Option V))=List.replicate ts.length none:=List.map_const';have loop:∀s₃:Shared,s₃={s with heap:=h₁,toks:=s.toks+([]:List (Str×Value)).length} ->
   codeAny (model X.prog X.w) X.A (.compLoop (.ListComp elt [⟨tg,iter,ifs,0⟩] sc pos) 0 (.ref it) (.ref s.heap.objs.size) (compEnvC sc cl H2.objs.size X.env)) (RR (.ref s.heap.objs.size) H2.objs.size) s₃:=by
  rintro s₃ rfl;have J0:=JC (t:=s.toks+([]:List (Str×Value)).length) I hf T1 hS c1 c2 T5 (cc _) Xi old T4 Y4;rw[eN] at J0;refine jd (λn s'=>∃i acc H',Inv (bx X ts sc cl H2.objs.size fp s H) [] (σ++List.replicate ts.length none) H' s'/\tn i s'.heap/\(∀b∈fp,H' b=none)/\W i n acc H') ?_ m0 ⟨0,[],_,J0,T6,fp0,w0⟩;rintro n s3 ⟨i,acc,H3,J3,ya,Tc,w3⟩;obtain⟨hD3,alt⟩:=turn i n acc H3 w3;obtain⟨stop,q⟩|⟨go,hz,step⟩:=alt
  . refine cf (T.done (bx X ts sc cl H2.objs.size fp s H) rfl rfl rfl hc i [] s3 _ H3 _ J3 (sP Tc) ya stop) λr s4 ⟨hr,J4⟩=>?_;subst hr;exact fin _ H3 s4 _ T5 J4 q
  refine cf (T.item (bx X ts sc cl H2.objs.size fp s H) rfl rfl rfl hc i [] s3 _ H3 _ J3 (sP Tc) ya go) λr s4 ⟨u,hr,h4⟩=>?_;subst hr;refine cf h4 λ_ s5 ⟨x,H5,J5,r5,y5,MD,YB⟩=>?_;have J5':=J5.pinned (sP YB) (T.obj _ _ MD);have again:∀{σ7:St}{H7:Hp}{s7:Shared},Inv (bx X ts sc cl H2.objs.size fp s H) ([]++oh fp s5.heap) σ7 H7 s7->(σ7.length=σ.length+ts.length/\∀i v,σ[i]?=some (some v)->σ7[i]?=some (some v))->∀Pc m',W (i+1) m' Pc H7->m'<n ->
    ∃m,m<n/\∃i acc H',Inv (bx X ts sc cl H2.objs.size fp s H) [] (σ++List.replicate ts.length none) H' s7/\tn i s7.heap/\(∀b∈fp,H' b=none)/\W i m acc H':=λ{σ7 H7 s7} I7 hσ Pc m' w7 hm=>by
   refine⟨m',hm,i+1,Pc,H7,B9 I7.j6 hσ.1 hσ.2,T.keep _ _ _ MD λb hb o e=>(I7.pin (b,o) (iN _ (iN _ (gA hb e)))).1,λb hb=>?_,w7⟩;obtain⟨o,e,d⟩:=T.obj _ _ MD b hb;exact (I7.pin (b,o) (iN _ (iN _ (gA hb e)))).2.1
  refine Φ (hg H2.objs.size _ s5 _ H5 x u _ J5' r5 (step x H5 y5)) (λ_ s6 ⟨σ6,H6,J6,hσ,q6⟩=>Φ (ht H2.objs.size _ s6 σ6 H6 _ J6 q6) (λb s7 ⟨H7,J7,q7⟩=>?_) λ_ _ z=>False.elim z) λ_ _ z=>False.elim z;cases b with
  |false=>obtain⟨m',hm,w7⟩:=q7;exact again J7 hσ acc m' w7 hm
  |true=>refine Φ (he H2.objs.size _ s7 σ6 H7 _ J7 q7) (λy s8 ⟨yv,H8,J8,ry,hD8,m',hm,w8⟩=>Φ (aS (X:=bx X ts sc cl H2.objs.size fp s H) _ s8 σ6 H8 (.ref s.heap.objs.size) [yv] (.ref s.heap.objs.size) [y] (λv H9=>v=.bB/\H9=upd H8 s.heap.objs.size (.lst (acc++[yv]))) J8 rfl (.cons ry .nil) ⟨_,acc,yv,rfl,rfl,hD8,hz,rfl,rfl⟩) (λv9 s9 ⟨v,H9,J9,_,_,e9⟩=>?_) λ_ _ z=>False.elim z) λ_ _ z=>False.elim z;subst e9;exact again J9 hσ (acc++[yv]) m' w8 hm
 exact codeAny_compStart_list (loop _ rfl) (T.self _ 0 _ _ _ T6 (loop _ rfl))
def EA(n:Nat)(wi:TI)(g:TG)(tt:TT)(te:TE):TE:=λσ H Q=>wi σ H λJ H1=>∀D,H1 D=none->Ez J g tt te n σ D (Q (.ref D)) H1
def vR(I:Inv X ε σ H s)(hS:ow X.N ts X.env.scope sc):∀p∈sc.names,p.2=.free->∃c,X.env.cells.lookup p.1=some c:=λp hp hf=>by
 rcases hS.fr p hp hf with z|z
 exact I.ok.has p.1 (.inl z);exact I.ok.has p.1 (.inr z)
def JF{elt tg:Expr}{ifs:qap}{pos:Pos}{wi:TI}{g:TG}{tt:TT}(hc:X.calm=true)(hS:jF X.N ts X.env.scope sc=true)(hi:PI X tg iter wi)(hg:∀cl C fp s H,PG (bx X ts sc cl C fp s H) tg g)(ht:∀cl C fp s H,Ey (bx X ts sc cl C fp s H) ifs tt)(he:∀cl C fp s H,PE (bx X ts sc cl C fp s H) elt te)(hs:∀x,foldedSetIterable iter X.env x=pure x:=by intro _;rfl):PE X (.ListComp elt [⟨tg,iter,ifs,0⟩] sc pos) (EA ts.length wi g tt te):=by intro ε s σ H Q I h;have S:=rf hS;obtain⟨cl,DI,c1,c2⟩:=gW (vR I S);refine wpAny_comprehension_free rfl hs DI S.kind S.names (cf (hi ε s σ H _ I h) λv s1 h1=>cf h1 λXa s2 h2=>?_);obtain⟨it,fp,tn,J,H2,e,I2,T,qi,f2,q2⟩:=h2;subst e;refine vQ hc I2 T qi f2 S c1 c2 (λC=>hg cl C fp s2 H2) (λC=>ht cl C fp s2 H2) (λC=>he cl C fp s2 H2) (q2 _ (I2.bF.fresh (cc _))) ?_;intro C H' s' σ' hC J' q';obtain⟨m,hn,_⟩:=J'.loc;refine⟨m,hn,λh' sb=>?_⟩;have I':=vP I2 f2 J';have fk:=I2.m7 hC J'.free;obtain⟨f0,f1,_,f3,f4,f5⟩:=fk;exact⟨.ref _,H',I'.turned (λb o hb e=>(sb.2 b hb).trans e) f0 f1 f3 f4 f5,rfl,q'⟩
def JG{py:Pos}{vS:Pos}{elt tg:Expr}{ifs:qap}{pos:Pos}{wi:TI}{g:TG}{tt:TT}(hN:X.N.Nodup)(hy:X.N[i]?=some y)(hx:Loc X.env.scope y)(hc:X.calm=true)(hS:jF X.N ts X.env.scope sc=true)(hi:PI X tg iter wi)(hg:∀cl C fp s H,PG (bx X ts sc cl C fp s H) tg g)(ht:∀cl C fp s H,Ey (bx X ts sc cl C fp s H) ifs tt)(he:∀cl C fp s H,PE (bx X ts sc cl C fp s H) elt te)(T7:swapsWith (.ListComp elt [⟨tg,iter,ifs,0⟩] sc pos) (some (.Name y py)) vS.line X.env=pure true:=by rfl)(hs:∀x,foldedSetIterable iter X.env x=pure x:=by intro _;rfl)(hf:X.fn y=true\/X.env.scope.names.lookup y=some .local:=by first|exact .inl rfl|exact .inr rfl|assumption) :
  PS X (.Assign [.Name y py] (.ListComp elt [⟨tg,iter,ifs,0⟩] sc pos) vS) (Jh (EA ts.length wi g tt te) (n9 i)):=by
 intro ε s σ H D I h;have S:=rf hS;obtain⟨cl,DI,c1,c2⟩:=gW (vR I S);rw[exec_Assign_Name_used _ _ _ _ T7];refine ζ (wpAny_standAt (ζ (ζ (Φ (wpAny_comprehension_free rfl hs DI S.kind S.names (cf (hi ε s σ H _ I h) λv s1 h1=>cf h1 λXa s2 h2=>?_)) (λ_ s' hq=>θ (θ hq)) λ_ _ e=>e))));obtain⟨it,fp,tn,J,H2,e,I2,T,qi,f2,q2⟩:=h2;subst e;refine vQ hc I2 T qi f2 S c1 c2 (λC=>hg cl C fp s2 H2) (λC=>ht cl C fp s2 H2) (λC=>he cl C fp s2 H2) (q2 _ (I2.bF.fresh (cc _))) ?_;intro C H' s' σ' hC J' q';obtain⟨m,hn,_⟩:=J'.loc;have I':=vP I2 f2 J';have fk:=I2.m7 hC J'.free;obtain⟨f0,f1,_,f3,f4,f5⟩:=fk;refine wpAny_assign_Name (qV (v:=.ref s2.heap.objs.size) I' hN hy hx rfl (λs3 I3 ⟨a,sb,ha⟩=>?_) hf);have hCa:C≠a:=by
  obtain z|z:=ha
  rw[z];exact f1;exact λe=>f4 y a z e.symm
 exact⟨m,hn.sameBut sb hCa,λh' R4=>⟨_,H',I3.turned (λb o hb e=>(R4.2 b hb).trans e) f0 f1 f3 f4 f5,q'⟩⟩
end
def Xj(x:Str):It:=⟨λi _=>i<x.cps.size,λi H v H'=>H'=H/\∃c,x.cps[i]?=some c/\v=.str ⟨#[c]⟩,λi _=>x.cps.size<=i⟩
def c5(x:Str):(strIterType x="str_ascii_iterator")\/(strIterType x="str_iterator"):=by unfold strIterType;cases x.cps.all (·<128);exact .inr rfl;exact .inl rfl
def EB{tg:Expr}(x:Str)(t:Tok)(it:Addr):Turn P w K tg (Xj x) [it] it (λi h=>h.IsStrIter it (strIterType x) x t i) where
 mem:=by simp
 obj:=λi h st b hb=>by
  have e:b=it:=by simpa using hb
  subst e;obtain⟨o,e,c,d⟩:=st;exact⟨o,e,λv z=>by rw[d] at z;cases z⟩
 keep:=λi h h' st k=>by obtain⟨o,e,c,d⟩:=st;exact⟨o,k it (by simp) o e,c,d⟩
 item:=by
  intro X hP hw hK hc i ε s σ H E I hf st hg;subst hP hw hK;obtain⟨f0,f1,f2,f3,f4,f5⟩:=hf it (by simp);have hi:i<x.cps.size:=hg;have hx:x.cps[i]?=some x.cps[i]:=by simp[hi]
  have fin:∀h',h'.IsStrIter it (strIterType x) x t (i+1)->Heap.SameBut it s.heap h'->∃u,(some (Value.str ⟨#[x.cps[i]]⟩ s.toks):Option Value)=some u /\
    wpAny (model X.prog X.w) X.A (letOwnedTupleGo tg (.ref it) u) (λ_ s2=>∃y H',Inv X ε σ H' s2/\RelV y u/\(Xj x).RW i H y H'/\Heap.IsStrIter s2.heap it (strIterType x) x t (i+1)/\∀b∈[it],H' b=none) E {s with heap:=h',toks:=s.toks+1}:=λh' st' sb=>by
   have I1:=I.turned (t':=s.toks+1) (λb o hb e=>(sb.2 b hb).trans e) f0 f1 f3 f4 f5;obtain⟨o,e,c,d⟩:=id st';refine⟨_,rfl,vL e c d ?_ ⟨.str ⟨#[x.cps[i]]⟩,H,I1,⟨_,rfl⟩,⟨rfl,_,hx,rfl⟩,st',λb hb=>(hf b hb).1⟩⟩;rcases c5 x with z|z<;>rw[z]<;>decide
  rcases c5 x with z|z
  rw[z] at st fin;refine wpAny_pyNext_ascii_item st hx λh' st' sb=>?_;have:=fin h' st' sb;simpa[z] using this;rw[z] at st fin;refine wpAny_pyNext_wide_item st hx λh' st' sb=>?_;have:=fin h' st' sb;simpa[z] using this
 done:=by
  intro X hP hw hK hc i ε s σ H E I hf st hg;subst hP hw hK;obtain⟨f0,f1,f2,f3,f4,f5⟩:=hf it (by simp);have hi:x.cps.size<=i:=hg;have hx:x.cps[i]?=none:=by simp[hi]
  rcases c5 x with z|z
  rw[z] at st;exact wpAny_pyNext_ascii_end (I.ok.hd hc) st hx λh' eb=>⟨rfl,I.turned (λb o hb e=>eb b o hb e) f0 f1 f3 f4 f5⟩;rw[z] at st;exact wpAny_pyNext_wide_end (I.ok.hd hc) st hx λh' eb=>⟨rfl,I.turned (λb o hb e=>eb b o hb e) f0 f1 f3 f4 f5⟩
 self:=λA i s Q E st h=>by
  rcases c5 x with z|z
  rw[z] at st;exact wpAny_pyIter_striter_ascii st h;rw[z] at st;exact wpAny_pyIter_striter_wide st h
section
variable{X:Cx}{tg:Expr}
theorem oy(hc:X.calm=true):c0 X (.builtin "all") (λxs H Q=>∃(p:Addr)(bs:List Bool),xs=[.ref p]/\fG X.K H p (bs.map V.bl)/\Q (.bl (bs.all id)) H):=by
 intro ε s σ H xs us Q I r h;obtain⟨p,bs,rfl,hq,q⟩:=h;obtain⟨u,rfl,rx⟩:=vals1 r;cases rx;obtain⟨aT,rv,pl,hz⟩:=I.list hq;refine call_all_walk (wpAny_pyIter_list pl.isList ?_);have d_:p<s.heap.objs.size:=by obtain⟨o,n,e,_⟩:=pl;exact eJ e
 have gf:=jX d_;have hh:X.A.in1.handled=none:=I.ok.hd hc;refine⟨s.heap.objs.size,_,_,_,_,_,λi=>bs.getD i true,rfl,Walks.list hh s.heap.objs.size p gf aT.toArray,⟨⟨_,iO _ rfl,rfl,rfl⟩,pl.isList.push _⟩,?_,λh' tk k=>?_⟩;intro i v s' Q' E' hP hQ;have hP':aT[i]?=some v:=by simpa using hP
 have hb:i<bs.length:=by
  have:=rv.length;have h2:=(dz.mp hP').1;rw[bX] at this
  lia
 obtain⟨u,e1,r1⟩:=rv.get (i:=i) (x:=.bl bs[i]) (by simp[hb]);rw[hP'] at e1;cases e1;obtain rfl:=r1;have e3:bs.getD i true=bs[i]:=by simp[List.getD,hb]
 dsimp only at hQ;rw[e3] at hQ;exact Ξ hQ;have hl:aT.toArray.size=bs.length:=by have:=rv.length;rw[bX] at this;rw[gU];lia
 have e:(List.range aT.toArray.size).all (λi=>bs.getD i true)=bs.all id:=by rw[hl,Bool.eq_iff_iff,IV,IV];constructor;intro h x hx;obtain⟨i,hi,e⟩:=SE.mp hx;have:=h i (yg.mpr hi);simp only[List.getD,jj hi,Option.getD_some] at this;rw[<- e];exact this;intro h i hi;have Pe:=yg.mp hi;simp only[List.getD,jj Pe,Option.getD_some];exact h _ (RN Pe)
 rw[e];refine⟨.bl (bs.all id),H,?_,rfl,q⟩;have I0:Inv X ε σ H {s with heap:=s.heap.push {cls:=.type "list_iterator",data:=.fields #[.ref p,.int 0 0]} }:=I.kept λb o e=>dR _ e;have fk:=I.m7 (cc s.heap.objs.size) I.fresh;obtain⟨f0,f1,_,f3,f4,f5⟩:=fk;exact I0.turned (λb o hb e=>k b o (by simpa using hb) e) f0 f1 f3 f4 f5
def qm:MN X "str.startswith" (λx xs H Q=>∃z y,x=.str z/\xs=[.str y]/\Q (.bl (Txt.startswith z y)) H):=by intro ε s σ H x xs v us Q I rx rs h;obtain⟨z,y,rfl,rfl,q⟩:=h;obtain⟨t,rfl⟩:=rx;obtain⟨u,rfl,t',rfl⟩:=vals1 rs;exact SC.startswith ⟨.bl _,H,I,rfl,q⟩
def T8:V->Option Int->Option Int->Hp->VK->Prop:=λx lo hi H Q=>∃z,x=.str z/\z.length<=sizeLine/\Q (.str (Txt.slice z lo hi)) H
def Pf:El X T8:=by
 intro ε s σ H x v vl vu lo hi sl Q I rx hs pl pu h;obtain⟨z,rfl,hz,q⟩:=h;obtain⟨t,rfl⟩:=rx;obtain⟨o,e,c,d⟩:=hs;refine⟨"str",_,slot_str_getitem.lookup,typeIs_str _ _ _,?_⟩;cases pl with
 |none=>
  cases pu with
  |none=>exact aal (l:=none) (u:=none) (st:=none) ⟨o,e,c,d⟩ rfl (aaz ⟨ll (Txt.slice_le z _ _) hz,λt' k=>⟨.str _,H,I.tok _,⟨_,rfl⟩,q⟩⟩)
  |int j tj=>exact aal (l:=none) (u:=some (j,tj)) (st:=none) ⟨o,e,c,d⟩ rfl (aaz ⟨ll (Txt.slice_le z _ _) hz,λt' k=>⟨.str _,H,I.tok _,⟨_,rfl⟩,q⟩⟩)
 |int i ti=>
  cases pu with
  |none=>exact aal (l:=some (i,ti)) (u:=none) (st:=none) ⟨o,e,c,d⟩ rfl (aaz ⟨ll (Txt.slice_le z _ _) hz,λt' k=>⟨.str _,H,I.tok _,⟨_,rfl⟩,q⟩⟩)
  |int j tj=>exact aal (l:=some (i,ti)) (u:=some (j,tj)) (st:=none) ⟨o,e,c,d⟩ rfl (aaz ⟨ll (Txt.slice_le z _ _) hz,λt' k=>⟨.str _,H,I.tok _,⟨_,rfl⟩,q⟩⟩)
end
def aG{D:Addr}{o:HO}(h:H D=none):aL H (upd H D o):=λb u e=>by rw[ar (bt e h)];exact e
section
variable{X:Cx}
def Inv.grown{ch:Ω}{t:Addr}{o:HO}(I:Inv X ε σ H s)(k:∀b u,b∉ch->s.heap.get? b=some u->h'.get? b=some u)(hf:∀b∈ch,lu X ε H b)(ht:s.heap.objs.size<=t)(new:bH X.prog X.w (upd H t o) h' t o):Inv X ε σ (upd H t o) {s with heap:=h',toks:=t'}:=by
 have hn:=I.bF.fresh ht;have D4:∀b u,H b=some u->b∉ch:=λb u e z=>by rw[(hf b z).1] at e;cases e
 refine I.step (λb hb=>?_) (λb u _ _ hc e _=>k b u hc e) (λb u _ _ hc e _=>⟨u.slots,k b u hc e⟩) (λb u _ e n=>?_) (λb u hc e=>⟨u,k b u hc e⟩)
  (λb xs e=>?_) (λb u v e=>?_) (λb ps e=>⟨#[],?_⟩) (λm hm=>?_) (λb u e=>?_) I.bare
 obtain⟨_,f1,_,f3,f4,f5⟩:=hf b hb;exact⟨f3,f1,f4,f5⟩;rw[ar (jX (qe (eJ e) ht))];exact n;rw[ar (bt e hn)];exact e;rw[ar (bt e hn)];exact e;rw[ar (bt e hn),e];simp;obtain⟨ob,es,ep,ho,r⟩:=hm;exact⟨ob,es,ep,k _ ob (λz=>(hf _ z).2.1 rfl) ho,r⟩;by_cases hb:b=t;subst hb;rw[aA] at e;cases e;exact new;rw[ar hb] at e;refine (I.bF b u e).vI (λc v hc q=>k c v ?_ q) (λc q=>by rw[ar (bt q hn)];exact q) λc xs q=>by rw[ar (bt q hn)];exact q
 obtain z|z:=hc
 rw[z];exact D4 b u e;exact D4 c _ z
end
def Y5(K:zm)(a:Addr):It :=
 ⟨λi H=>∃xs x,fG K H a xs/\xs[i]?=some x,λi H v H'=>∃t x,H t=none/\v=.ref t/\(∀xs,fG K H a xs->xs[i]?=some x)/\H'=upd H t (.tup [.int (i:Int),x]),λi H=>∃xs,fG K H a xs/\xs.length<=i⟩
def B_{x1}(a e it:Addr)(gf:e≠it) :
  Turn P w K (.Tuple elts x1 tp) (Y5 K a) [e,it] e (λi h=>(∃old,IsEnum h e it (i:Int) old)/\h.IsListIter it a i) where
 mem:=by simp
 obj:=λi h st b hb=>by
  obtain⟨⟨old,h1⟩,o,h2,c,d⟩:=st;rcases dg.mp hb with z|z
  subst z;exact⟨_,h1,λv z=>by cases z⟩;have z':b=it:=by simpa using z
  subst z';exact⟨o,h2,λv z=>by rw[d] at z;cases z⟩
 keep:=λi h h' st k=>by obtain⟨⟨old,h1⟩,qi⟩:=st;exact⟨⟨old,k e (by simp) _ h1⟩,qi.at λo q=>k it (by simp) o q⟩
 item:=by
  intro X hP hw hK hc i ε s σ H E I hf st hg;subst hP hw hK;obtain⟨xs,x,hq,hx⟩:=hg;obtain⟨aT,rv,p,hz⟩:=I.list hq;obtain⟨u,hu,ru⟩:=rv.get hx;obtain⟨⟨old,h1⟩,qi⟩:=st;refine wpAny_pyNext_enum_item h1 qi p.isList (by simpa using hu) gf λh₁ MA Y6 ht₁ DJ hk₁=>⟨_,rfl,wpAny_letOwnedTupleGo_enum MA λh₂ Ph vT=>?_⟩;have qo:=vT;have d_:=eJ h1;have Y7:=Iz d_;have kk:∀b ob,b∉[e,it]->s.heap.get? b=some ob->h₂.get? b=some ob:=λb ob hb q=>by have DE:b≠e:=λz=>hb (by simp[z]);have Xk:b≠it:=λz=>hb (by simp[z]);exact (qo.2 b DE).trans (hk₁ b ob DE Xk q)
  have new:bH X.prog X.w (upd H s.heap.objs.size (.tup [.int i,x])) h₂ s.heap.objs.size (.tup [.int i,x]) :=
   ⟨by show 2<=sizeLine;rw[ς];decide,[.int i s.toks,u],.cons ⟨_,rfl⟩ (.cons ru .nil),⟨_,(qo.2 _ Y7).trans ht₁,rfl,_,rfl⟩⟩
  refine⟨.ref s.heap.objs.size,upd H s.heap.objs.size (.tup [.int i,x]),I.grown kk hf (cc _) new,rfl,⟨_,x,I.fresh,rfl,λys hy=>by rw[I.j4 hy hq];exact hx,rfl⟩,⟨⟨u,?_⟩,?_⟩,λb hb=>?_⟩;have:(i+1)=((i+1:Nat):Int):=by lia
  rw[<- this];exact Ph;obtain⟨o,q,r⟩:=Y6;exact⟨o,(qo.2 it (Ne.symm gf)).trans q,r⟩;have R5:b<s.heap.objs.size:=by
   rcases dg.mp hb with z|z
   subst z;exact d_;have z':b=it:=by simpa using z
   subst z';obtain⟨o,q,_⟩:=qi;exact eJ q
  rw[ar (jX R5)];exact (hf b hb).1
 done:=by intro X hP hw hK hc i ε s σ H E I hf st hg;subst hP hw hK;obtain⟨xs,hq,hx⟩:=hg;obtain⟨aT,rv,p,hz⟩:=I.list hq;have hl:=rv.length;obtain⟨⟨old,h1⟩,qi⟩:=st;obtain⟨f0,f1,f2,f3,f4,f5⟩:=hf it (by simp);exact wpAny_pyNext_enum_end (I.ok.hd hc) h1 qi p.isList (by simp;lia) λh' eb=>⟨rfl,I.turned (λb o hb q=>eb b o hb q) f0 f1 f3 f4 f5⟩
 self:=λ_ _ _ _ _ st h=>by obtain⟨⟨old,h1⟩,_⟩:=st;exact wpAny_pyIter_enum h1 h
def T9(K:zm)(ta:TA):TI:=λσ H R=>ta σ H λvs H1=>∃a,vs=[.ref a]/\(∃xs,fG K H1 a xs)/\R (Y5 K a) H1
section
variable{X:Cx}
def boot_enumerate:bootBuiltins "enumerate"=some (.type "enumerate"):=by decide +kernel
def JI{x1}{a:Expr}{ta:TA}{pos:Pos}(hg:Gl X "enumerate")(hm:X.mg "enumerate"=none)(ha:PA X [a] ta)(hs:starEach [a] X.env=[(false,eval a X.env)]:=by rfl) :
  PI X (.Tuple elts x1 tp) (.Call (.Name "enumerate" p) [a] [] pos) (T9 X.K ta):=by
 intro ε s σ H R I h;refine Call_ (lp I hg hm boot_enumerate (WR (cf (ha pos ε s σ H _ I h) λus s1 ⟨vs,H1,I1,r1,q1⟩=>?_) hs rfl));obtain⟨b,e,⟨xs,hq⟩,q⟩:=q1;subst e;obtain⟨u,rfl,ru⟩:=vals1 r1;cases ru;obtain⟨aT,rv,pl,hz⟩:=I1.list hq;refine call_enumerate_list pl.isList λh' he hit qj hk=>?_;have I2:=I1.kept (t':=s1.toks) hk;refine wpAny_pyIter_enum he ⟨s1.heap.objs.size+1,[s1.heap.objs.size+1,s1.heap.objs.size],_,_,H1,rfl,I2,B_ b _ _ (Iz (DA _)),⟨⟨_,he⟩,hit⟩,λc hc=>?_,q⟩;rcases dg.mp hc with z|z
 subst z;exact I1.m7 (Mz _) (I1.bF.fresh (Mz _));have z':c=s1.heap.objs.size:=by simpa using z
 subst z';exact I1.m7 (cc _) I1.fresh
end
section
variable{X:Cx}
def qp(hc:X.calm=true):c0 X (.builtin "sum") (λxs H Q=>∃(p:Addr)(ns:qan),xs=[.ref p]/\fG X.K H p (ns.map V.int)/\Q (.int ns.sum) H):=by
 intro ε s σ H xs us Q I r h;obtain⟨p,ns,rfl,hq,q⟩:=h;obtain⟨u,rfl,rx⟩:=vals1 r;cases rx;obtain⟨aT,rv,pl,hz⟩:=I.list hq;have hI:IntsAre aT ns:=intsAre_of rv;obtain⟨xs,e⟩:=hI.allInts.items;have hn:=hI.numsOf;have hl:s.heap.IsList p (intItems xs):=by rw[<- e];exact pl.isList
 refine sum_intListG (I.ok.hd hc) hl λh' tk t' hk=>?_;have e2:preSum (numAt xs) xs.size=ns.sum:=by rw[preSum_eq,RK (by simp),<- nums_intItems,<- e,List.toList_toArray,hn]
 rw[e2];exact⟨.int ns.sum,H,I.kept hk,⟨_,rfl⟩,q⟩
end
end L2
namespace qq
open PySem Builtin Builtin.Str
def bM:Str:="abcdefghijklmnopqrstuvwxyz"
noncomputable def B'(c:Nat):Bool:=!(occurrences bM ⟨#[c]⟩ 0 bM.length 1).isEmpty
def JJ:B' 46=false:=by decide +kernel
def yH:((".":String):Str)=⟨#[46]⟩:=by decide +kernel
noncomputable def cP(x:Str):Bool:=decide (1<=(x.length:Int)) && (decide ((x.length:Int)<=8) && x.cps.toList.all B')
noncomputable def eR(x:Str):Bool:=Txt.startswith x "." && cP (Txt.slice x (some 1) none)
def jm(h:x.cps.toList.all B'=true):Txt.startswith x "."=false:=by
 obtain⟨⟨l⟩⟩:=x;rw[yH];unfold Txt.startswith subAt;cases l with
 |nil=>rfl
 |cons c r=>
  have hc:B' c=true:=by have:=IV.mp h c (by simp);exact this
  have ne:c≠46:=λe=>by rw[e,JJ] at hc;cases hc
  have e1:(Array.extract ({toList:=c::r}:Array Nat) 0 (0+(Str.mk #[46]).length)==(Str.mk #[46]).cps)=false:=by rw[v9];intro q;have q2:=rk (λa=>a[0]?) q;simp[Str.length] at q2;exact ne q2
  show (decide _ && (Array.extract ({toList:=c::r}:Array Nat) 0 (0+(Str.mk #[46]).length)==(Str.mk #[46]).cps))=false;rw[e1,SN]
def gE(h:cP x=true):x.cps.toList.all B'=true:=by unfold cP at h;rw[ij,ij] at h;exact h.2.2
def qr(h:cP x=true):eR x=false:=by unfold eR;rw[jm (gE h),Iy]
def oz(x:Str):Txt.startswith ((".":String)++x) "."=true:=by obtain⟨⟨l⟩⟩:=x;rw[yH];unfold Txt.startswith subAt;rw[ij];refine⟨?_,?_⟩;apply ν;show 0+1<=(#[46]++({toList:=l}:Array Nat)).size;simp;show (Array.extract (#[46]++({toList:=l}:Array Nat)) 0 (0+1)==#[46])=true;rw[aaA];apply Array.ext';simp
def Ca(x:Str):Txt.slice ((".":String)++x) (some 1) none=x:=by
 obtain⟨⟨l⟩⟩:=x;rw[yH];have hl:(Str.length (Str.mk #[46]++Str.mk {toList:=l}))=l.length+1:=by show (#[46]++({toList:=l}:Array Nat)).size=_;simp
 have hi:strSliceIndices (some 1) none 1 (l.length+1)=(List.range l.length).map (λk=>k+1):=by
  unfold strSliceIndices sliceRange;simp only[show (1:Int) > 0 by decide,aav];have e0:max 0 (min (if (1:Int)<0 then 1+((l.length+1:Nat):Int) else 1) ((l.length+1:Nat):Int))=1:=by rw[η (by decide)];lia
  rw[e0];by_cases hn:l.length=0;rw[hn];rfl;have e1:((1:Int)<((l.length+1:Nat):Int)):=by lia
  rw[ι e1];have e2:((((l.length+1:Nat):Int)-1+1-1) / 1).toNat=l.length:=by rw[Int.ediv_one];lia
  rw[e2];apply DW;intro k hk
  lia
 unfold Txt.slice;rw[hl,hi];have gf:¬ (((1:Int)==1 && (List.map (λk=>k+1) (List.range l.length)).length==l.length+1)=true):=by
  rw[ij,bX,z8];intro q;have:=aaA.mp q.2
  lia
 rw[η gf]
 congr 1
 apply Array.ext';rw[List.toList_toArray];show List.filterMap (λi=>(#[46]++({toList:=l}:Array Nat))[i]?) (List.map (λk=>k+1) (List.range l.length))=l;rw[W4];have e:∀k,((λi=>(#[46]++({toList:=l}:Array Nat))[i]?) ∘ λk=>k+1) k=l[k]?:=λk=>by show (#[46]++({toList:=l}:Array Nat))[k+1]?=l[k]?;rw[<- IS];simp
 rw[show ((λi=>(#[46]++({toList:=l}:Array Nat))[i]?) ∘ λk=>k+1)=λk=>l[k]? from funext e];clear e gf hi hl;induction l with
 |nil=>rfl
 |cons a r ih=>
  rw[yf,List.range_succ_eq_map,qS];simp only[WT,W4]
  congr 1
def Cb(h:cP x=true):eR ((".":String)++x)=true:=by unfold eR;rw[oz,Ca,h];rfl
end qq
namespace VT
open PySem PySem.Spec PyProof.Rows L2
abbrev St:=L2.St
inductive T where
 |bB|bl (b:Bool)|int (i:Int)|str (x:Str)|tup (l:List T)|lst (l:List T)|dk (ks:List Key) (vs:List T)|dt (ks:List (List Key)) (vs:List T)|df (o:Obj) (ks:List (List Key)) (vs:List T)|kt (k:List Key)|ins (C:Addr) (ns:ω) (vs:List T)|pin (a:Addr) (t:T)|ob (a:Addr)|ty (n:String)
abbrev aD(t:T):Option (T×Bool):=some (t,false)
def oA(K:zm)(H:Hp)(O:Ω)(a:Addr)(vs:qak):Prop :=
 (Rd H a (.lst vs)/\a∉O)\/∃(o:Obj)(aT:Array Value)(n:Nat),K.lookup a=some o/\o.cls=.type "list"/\o.dict=none/\o.data=.seq aT n/\aT.size<=sizeLine/\Vals vs aT.toList
def oA.sq{O:Ω}{a:Addr}(h:oA K H O a vs):fG K H a vs:=by
 obtain h|h:=h
 exact .inl h.1;exact .inr h
def sQ(H:Hp)(O:Ω)(a:Addr)(u:HO):Prop:=H a=some u/\a∉O
def acR(nh:List Key×Key->Int)(a:Addr)(xs:List ((List Key×Key)×Addr×Value)):Heap->Prop:=λh=>∃o es ep,h.get? a=some o/\o.ExactDict/\o.data=.dict es ep/\es.toList=xs.map (λx=>⟨nh x.1,.ref x.2.1,x.2.2⟩)/\(xs.map (·.1)).Nodup
def acS(K:zm)(H:Hp)(c:List Key×Key)(b:Addr):Prop:=∃d,dS K H b [.ref d,kV c.2]/\dS K H d (c.1.map kV)
mutual
def At(K:zm)(H:Hp)(O:Ω):T->V->Prop
 |.bB,v=>v=.bB
 |.bl b,v=>v=.bl b
 |.int i,v=>v=.int i
 |.str x,v=>v=.str x
 |.ob a,v=>v=.ref a
 |.ty n,v=>v=.ty n
 |.tup ts,v=>∃a vs,v=.ref a/\dS K H a vs/\az K H O ts vs
 |.lst ts,v=>∃a vs,v=.ref a/\oA K H O a vs/\az K H O ts vs
 |.dk ks ts,v=>∃a vs,v=.ref a/\ks.length=vs.length/\sQ H O a (.dK (ks.zip vs))/\az K H O ts vs
 |.dt ks ts,v=>∃a vs,v=.ref a/\ks.length=vs.length/\sQ H O a (.dT (ks.zip vs))/\az K H O ts vs
 |.df o ks ts,v=>∃a vs,v=.ref a/\ks.length=vs.length/\sQ H O a (.fF o (.dT (ks.zip vs)))/\az K H O ts vs
 |.kt k,v=>∃a,v=.ref a/\sQ H O a (.tup (k.map kV))
 |.pin a t,v=>v=.ref a/\At K H O t v
 |.ins C ns ts,v=>∃a dx vs,v=.ref a/\ns.length=vs.length/\sQ H O a (.ins C dx (ns.zip vs))/\az K H O ts vs
def az(K:zm)(H:Hp)(O:Ω):List T->qak->Prop
 |[],vs=>vs=[]
 |t::ts,vs=>∃v r,vs=v::r/\At K H O t v/\az K H O ts r
end
section
variable{O O':Ω}
mutual
theorem At.map(hl:∀a vs,oA K H O a vs->oA K H' O' a vs)(ht:∀a vs,dS K H a vs->dS K H' a vs)(hd:∀a u,sQ H O a u->sQ H' O' a u):∀{t:T}{v:V},At K H O t v->At K H' O' t v
 |.bB,_,h=>by simpa only[At] using h
 |.bl _,_,h=>by simpa only[At] using h
 |.int _,_,h=>by simpa only[At] using h
 |.str _,_,h=>by simpa only[At] using h
 |.ob _,_,h=>by simpa only[At] using h
 |.ty _,_,h=>by simpa only[At] using h
 |.tup ts,_,h=>by simp only[At] at h ⊢;obtain⟨a,vs,e,h1,h2⟩:=h;exact⟨a,vs,e,ht a vs h1,az.map hl ht hd h2⟩
 |.lst ts,_,h=>by simp only[At] at h ⊢;obtain⟨a,vs,e,h1,h2⟩:=h;exact⟨a,vs,e,hl a vs h1,az.map hl ht hd h2⟩
 |.dk ks ts,_,h=>by simp only[At] at h ⊢;obtain⟨a,vs,e,h0,h1,h2⟩:=h;exact⟨a,vs,e,h0,hd _ _ h1,az.map hl ht hd h2⟩
 |.dt ks ts,_,h=>by simp only[At] at h ⊢;obtain⟨a,vs,e,h0,h1,h2⟩:=h;exact⟨a,vs,e,h0,hd _ _ h1,az.map hl ht hd h2⟩
 |.df o ks ts,_,h=>by simp only[At] at h ⊢;obtain⟨a,vs,e,h0,h1,h2⟩:=h;exact⟨a,vs,e,h0,hd _ _ h1,az.map hl ht hd h2⟩
 |.kt k,_,h=>by simp only[At] at h ⊢;obtain⟨a,e,h1⟩:=h;exact⟨a,e,hd _ _ h1⟩
 |.pin a t,_,h=>by simp only[At] at h ⊢;exact⟨h.1,At.map hl ht hd h.2⟩
 |.ins C ns ts,_,h=>by simp only[At] at h ⊢;obtain⟨a,dx,vs,e,h0,h1,h2⟩:=h;exact⟨a,dx,vs,e,h0,hd _ _ h1,az.map hl ht hd h2⟩
theorem az.map(hl:∀a vs,oA K H O a vs->oA K H' O' a vs)(ht:∀a vs,dS K H a vs->dS K H' a vs)(hd:∀a u,sQ H O a u->sQ H' O' a u):∀{ts:List T}{vs:qak},az K H O ts vs->az K H' O' ts vs
 |[],_,h=>by simpa only[az] using h
 |t::ts,_,h=>by simp only[az] at h ⊢;obtain⟨v,r,e,h1,h2⟩:=h;exact⟨v,r,e,At.map hl ht hd h1,az.map hl ht hd h2⟩
end
def Rd.same{a:Addr}{u:HO}(s:aL H H')(h:Rd H a u):Rd H' a u:=by
 obtain h|⟨o,h⟩:=h
 exact .inl (s _ _ h);exact .inr ⟨o,s _ _ h⟩
def dS.same{a:Addr}(s:aL H H')(h:dS K H a vs):dS K H' a vs:=by
 obtain h|h:=h
 exact .inl (Rd.same s h);exact .inr h
def oA.same{a:Addr}(s:aL H H')(h:oA K H O a vs):oA K H' O a vs:=by
 obtain h|h:=h
 exact .inl ⟨Rd.same s h.1,h.2⟩;exact .inr h
def At.same{t:T}(s:aL H H')(h:At K H O t v):At K H' O t v:=At.map (λ_ _ q=>q.same s) (λ_ _ q=>dS.same s q) (λ_ _ q=>⟨s _ _ q.1,q.2⟩) h
def az.same{t:List T}{v:qak}(s:aL H H')(h:az K H O t v):az K H' O t v:=az.map (λ_ _ q=>q.same s) (λ_ _ q=>dS.same s q) (λ_ _ q=>⟨s _ _ q.1,q.2⟩) h
def At.bj{t:T}(s:∀a∈O',a∈O)(h:At K H O t v):At K H O' t v :=
 At.map (λa vs q=>q.elim (λz=>.inl ⟨z.1,λm=>z.2 (s a m)⟩) .inr) (λ_ _ q=>q) (λa _ q=>⟨q.1,λm=>q.2 (s a m)⟩) h
def az.bj{t:List T}{v:qak}(s:∀a∈O',a∈O)(h:az K H O t v):az K H O' t v :=
 az.map (λa vs q=>q.elim (λz=>.inl ⟨z.1,λm=>z.2 (s a m)⟩) .inr) (λ_ _ q=>q) (λa _ q=>⟨q.1,λm=>q.2 (s a m)⟩) h
def Rd.some{a:Addr}{u:HO}(h:Rd H a u):H a≠none:=by obtain h|⟨o,h⟩:=h<;>rw[h]<;>simp
def At.more{t:T}(s:∀a∈O',a∈O\/H a=none)(h:At K H O t v):At K H O' t v :=
 At.map (λa vs q=>q.elim (λz=>.inl ⟨z.1,λm=>(s a m).elim z.2 (Rd.some z.1)⟩) .inr) (λ_ _ q=>q) (λa aV q=>⟨q.1,λm=>(s a m).elim q.2 (by rw[q.1];simp)⟩) h
def az.more{t:List T}{v:qak}(s:∀a∈O',a∈O\/H a=none)(h:az K H O t v):az K H O' t v :=
 az.map (λa vs q=>q.elim (λz=>.inl ⟨z.1,λm=>(s a m).elim z.2 (Rd.some z.1)⟩) .inr) (λ_ _ q=>q) (λa aV q=>⟨q.1,λm=>(s a m).elim q.2 (by rw[q.1];simp)⟩) h
noncomputable def m9:HO->Bool
 |.lst _=>true
 |.dK _=>true
 |.dT _=>true
 |.ins _ _ _=>true
 |.ext _=>true
 |_=>false
def At.wrote{t:T}{a:Addr}{o u:HO}(ha:a∈O)(hu:H a=some u)(hm:m9 u=true)(h:At K H O t v):At K (upd H a o) O t v:=by
 have ne:∀b,b∉O->b≠a:=λb hb e=>hb (by rw[e];exact ha);refine At.map (λb vs q=>?_) (λb vs q=>?_) (λb aV q=>?_) h;obtain q|q:=q
 refine .inl ⟨?_,q.2⟩;obtain z|⟨o',z⟩:=q.1
 exact .inl (by rw[ar (ne b q.2)];exact z);exact .inr ⟨o',by rw[ar (ne b q.2)];exact z⟩;exact .inr q;obtain z|z:=q
 refine .inl ?_;obtain z|⟨o',z⟩:=z
 exact .inl (by rw[ar (D1 z hu (by intro e;subst e;cases hm))];exact z);exact .inr ⟨o',by rw[ar (D1 z hu (by intro e;subst e;cases hm))];exact z⟩;exact .inr z;exact⟨by rw[ar (ne b q.2)];exact q.1,q.2⟩
def az.iff{ts:List T}:∀{vs:qak},az K H O ts vs↔Paired (λv t=>At K H O t v) vs ts:=by
 induction ts with
 |nil=>intro vs;simp only[az];exact⟨λe=>by subst e;exact .nil,λh=>by cases h;rfl⟩
 |cons t ts ih=>
  intro vs;simp only[az];constructor;rintro⟨v,r,rfl,h1,h2⟩;exact .cons h1 (ih.mp h2);intro h;cases h with
  |cons h1 h2=>exact⟨_,_,rfl,h1,ih.mpr h2⟩
def az.wrote{t:List T}{v:qak}{a:Addr}{o u:HO}(ha:a∈O)(hu:H a=some u)(hm:m9 u=true)(h:az K H O t v):az K (upd H a o) O t v :=
 az.iff.mpr (Paired.j3 (az.iff.mp h) λ_ _ q=>q.wrote ha hu hm)
def az.length{ts:List T}{vs:qak}(h:az K H O ts vs):vs.length=ts.length:=IX (az.iff.mp h)
def az.get{ts:List T}{vs:qak}(h:az K H O ts vs){i:Nat}{t:T}(e:ts[i]?=some t):∃v,vs[i]?=some v/\At K H O t v:=by
 have q:=az.iff.mp h;clear h;induction q generalizing i with
 |nil=>simp at e
 |cons r _ ih=>
  cases i with
  |zero=>simp at e;subst e;exact⟨_,rfl,r⟩
  |succ i=>obtain⟨v,h1,h2⟩:=ih (i:=i) (by simpa using e);exact⟨v,by simpa using h1,h2⟩
def az.cons{t:T}{ts:List T}{v:V}{vs:qak}(h:At K H O t v)(hs:az K H O ts vs):az K H O (t::ts) (v::vs):=by simp only[az];exact⟨v,vs,rfl,h,hs⟩
def az.nil:az K H O [] []:=by simp only[az]
def az.append{ts us:List T}{ws:qak}(h:az K H O ts vs)(h':az K H O us ws):az K H O (ts++us) (vs++ws):=by
 rw[az.iff] at h h' ⊢;induction h with
 |nil=>exact h'
 |cons r _ ih=>exact .cons r ih
def az.drop{ts:List T}(n:Nat)(h:az K H O ts vs):az K H O (ts.drop n) (vs.drop n):=by
 rw[az.iff] at h ⊢;induction h generalizing n with
 |nil=>cases n<;>exact .nil
 |cons r t ih=>cases n with
  |zero=>exact .cons r t
  |succ n=>exact ih n
def az.take{ts:List T}(n:Nat)(h:az K H O ts vs):az K H O (ts.take n) (vs.take n):=by
 rw[az.iff] at h ⊢;induction h generalizing n with
 |nil=>cases n<;>exact .nil
 |cons r t ih=>cases n with
  |zero=>exact .nil
  |succ n=>exact .cons r (ih n)
def az.set{ts:List T}{t:T}(i:Nat)(h:az K H O ts vs)(q:At K H O t v):az K H O (ts.set i t) (vs.set i v):=by
 rw[az.iff] at h ⊢;induction h generalizing i with
 |nil=>exact .nil
 |cons r s ih=>cases i with
  |zero=>exact .cons q s
  |succ i=>exact .cons r (ih i)
end
mutual
noncomputable def vv:T->Bool
 |.tup ts=>j_ ts
 |.lst _=>false
 |.dk _ _=>false
 |.dt _ _=>false
 |.df _ _ _=>false
 |.kt _=>false
 |.ins _ _ _=>false
 |.pin _ _=>false
 |_=>true
noncomputable def j_:List T->Bool
 |[]=>true
 |t::ts=>vv t && j_ ts
end
section
variable{O O':Ω}
mutual
theorem At.vv:∀{t:T}{v:V},vv t=true->At K H O t v->At K H O' t v
 |.bB,_,_,h=>by simpa only[At] using h
 |.bl _,_,_,h=>by simpa only[At] using h
 |.int _,_,_,h=>by simpa only[At] using h
 |.str _,_,_,h=>by simpa only[At] using h
 |.ob _,_,_,h=>by simpa only[At] using h
 |.ty _,_,_,h=>by simpa only[At] using h
 |.tup ts,_,i,h=>by simp only[At] at h ⊢;simp only[VT.vv] at i;obtain⟨a,vs,e,h1,h2⟩:=h;exact⟨a,vs,e,h1,az.vv i h2⟩
 |.lst ts,_,i,h=>by simp only[VT.vv] at i;cases i
 |.dk _ _,_,i,h=>by simp only[VT.vv] at i;cases i
 |.dt _ _,_,i,h=>by simp only[VT.vv] at i;cases i
 |.df _ _ _,_,i,h=>by simp only[VT.vv] at i;cases i
 |.kt _,_,i,h=>by simp only[VT.vv] at i;cases i
 |.ins _ _ _,_,i,h=>by simp only[VT.vv] at i;cases i
 |.pin _ _,_,i,h=>by simp only[VT.vv] at i;cases i
theorem az.vv:∀{ts:List T}{vs:qak},j_ ts=true->az K H O ts vs->az K H O' ts vs
 |[],_,_,h=>by simpa only[az] using h
 |t::ts,_,i,h=>by simp only[VT.j_,ij] at i;simp only[az] at h ⊢;obtain⟨v,r,e,h1,h2⟩:=h;exact⟨v,r,e,At.vv i.1 h1,az.vv i.2 h2⟩
end
end
abbrev En:=List (Option (T×Bool))
structure Zc where
 H0:Hp
 P:List (Nat×Addr)
 Ox:Ω
noncomputable def Zc.ex(Z:Zc)(a:Addr):Zc:={Z with Ox:=a::Z.Ox}
def cL(K:zm)(H:Hp)(A:Ω)(a:Addr):T->Prop
 |.lst ts=>∃vs,H a=some (.lst vs)/\az K H A ts vs
 |.dk ks ts=>∃vs,ks.length=vs.length/\H a=some (.dK (ks.zip vs))/\az K H A ts vs
 |.dt ks ts=>∃vs,ks.length=vs.length/\H a=some (.dT (ks.zip vs))/\az K H A ts vs
 |.ins C ns ts=>∃dx vs,ns.length=vs.length/\H a=some (.ins C dx (ns.zip vs))/\az K H A ts vs
 |_=>False
def iq(K:zm)(H:Hp)(A:Ω):Option (T×Bool)->qar->Option V->Prop
 |none,o,_=>o=none
 |some (t,false),o,s=>o=none/\∃v,s=some v/\At K H A t v
 |some (t,true),o,s=>∃a,o=some a/\s=some (.ref a)/\cL K H A a t
noncomputable def roots(O:HD):Ω:=O.filterMap id
noncomputable def av(Z:Zc)(O:HD):Ω:=roots O++Z.Ox
structure au(K:zm)(Z:Zc)(tm:List (T×V))(O:HD)(ρ:En)(σ:St)(H:Hp):Prop where
 lσ:σ.length=ρ.length
 lO:O.length=ρ.length
 sl:∀(i:Nat) e,ρ[i]?=some e->∃o s,O[i]?=some o/\σ[i]?=some s/\iq K H (av Z O) e o s
 nd:(roots O).Nodup
 own:∀a∈roots O,(a∈Z.P.map (·.2)\/Z.H0 a=none)/\a∉Z.Ox/\∃u,H a=some u/\m9 u=true
 par:∀p∈Z.P,O[p.1]?=some (some p.2)
 ox:∀a∈Z.Ox,H a≠none
 keep:∀b o,Z.H0 b=some o->b∉Z.P.map (·.2)->H b=some o
 jG:∀p∈tm,At K H (av Z O) p.1 p.2
section
variable{Z:Zc}{tm:List (T×V)}{ρ:En}
def cL.map{A A':Ω}{a:Addr}{t:T}(h:cL K H A a t)(h1:H' a=H a)(h2:∀ts vs,az K H A ts vs->az K H' A' ts vs):cL K H' A' a t:=by
 cases t with
 |lst ts=>obtain⟨vs,e,q⟩:=h;exact⟨vs,h1.trans e,h2 _ _ q⟩
 |dk ks ts=>obtain⟨vs,l,e,q⟩:=h;exact⟨vs,l,h1.trans e,h2 _ _ q⟩
 |dt ks ts=>obtain⟨vs,l,e,q⟩:=h;exact⟨vs,l,h1.trans e,h2 _ _ q⟩
 |ins C ns ts=>obtain⟨dx,vs,l,e,q⟩:=h;exact⟨dx,vs,l,h1.trans e,h2 _ _ q⟩
 |_=>exact h.elim
def cL.mut{A:Ω}{a:Addr}{t:T}(h:cL K H A a t):∃u,H a=some u/\m9 u=true:=by
 cases t with
 |lst ts=>obtain⟨vs,e,q⟩:=h;exact⟨_,e,rfl⟩
 |dk ks ts=>obtain⟨vs,l,e,q⟩:=h;exact⟨_,e,rfl⟩
 |dt ks ts=>obtain⟨vs,l,e,q⟩:=h;exact⟨_,e,rfl⟩
 |ins C ns ts=>obtain⟨dx,vs,l,e,q⟩:=h;exact⟨_,e,rfl⟩
 |_=>exact h.elim
def cL.bj{A A':Ω}{a:Addr}{t:T}(h:cL K H A a t)(s:∀b∈A',b∈A):cL K H A' a t:=h.map rfl λ_ _ q=>q.bj s
def cL.same{A:Ω}{a:Addr}{t:T}(h:cL K H A a t)(s:aL H H'):cL K H' A a t:=by obtain⟨u,e,_⟩:=h.mut;exact h.map (by rw[e];exact s _ _ e) λ_ _ q=>q.same s
def cL.at{A:Ω}{a:Addr}{t:T}(h:cL K H A a t)(n:a∉A):At K H A t (.ref a):=by
 cases t with
 |lst ts=>obtain⟨vs,e,q⟩:=h;simp only[At];exact⟨a,vs,rfl,.inl ⟨.inl e,n⟩,q⟩
 |dk ks ts=>obtain⟨vs,l,e,q⟩:=h;simp only[At];exact⟨a,vs,rfl,l,⟨e,n⟩,q⟩
 |dt ks ts=>obtain⟨vs,l,e,q⟩:=h;simp only[At];exact⟨a,vs,rfl,l,⟨e,n⟩,q⟩
 |ins C ns ts=>obtain⟨dx,vs,l,e,q⟩:=h;simp only[At];exact⟨a,dx,vs,rfl,l,⟨e,n⟩,q⟩
 |_=>exact h.elim
def iq.map{A A':Ω}{e:Option (T×Bool)}{o:qar}{s:Option V}(h:iq K H A e o s)(h1:∀t v,At K H A t v->At K H' A' t v)(h2:∀a t,o=some a->cL K H A a t->cL K H' A' a t):iq K H' A' e o s:=by
 match e,h with
 |none,h=>exact h
 |some (t,false),⟨e,v,es,q⟩=>exact⟨e,v,es,h1 _ _ q⟩
 |some (t,true),⟨a,e,es,q⟩=>exact⟨a,e,es,h2 _ _ e q⟩
def aF{a:Addr}:a∈roots O↔some a∈O:=by unfold roots;rw[W3];exact⟨λ⟨x,h,e⟩=>by rw[id] at e;rw[<- e];exact h,λh=>⟨_,h,rfl⟩⟩
def au.JK(I:au K Z tm O ρ σ H):∀a∈av Z O,H a≠none:=λa h=>by
 rcases gx.mp h with h|h
 obtain⟨_,_,u,e,_⟩:=I.own a h;rw[e];simp;exact I.ox a h
def au.same(I:au K Z tm O ρ σ H)(s:aL H H'):au K Z tm O ρ σ H' :=
 ⟨I.lσ,I.lO,λi e h=>let ⟨o,w,h1,h2,h3⟩:=I.sl i e h;⟨o,w,h1,h2,h3.map (λ_ _ q=>q.same s) λ_ _ _ q=>q.same s⟩,I.nd,
  λa h=>let ⟨h1,h2,u,e,m⟩:=I.own a h;⟨h1,h2,u,s _ _ e,m⟩,I.par,λa h=>by
   cases e:H a with
   |none=>exact absurd e (I.ox a h)
   |some u=>rw[s _ _ e];simp,
  λb o e n=>s _ _ (I.keep b o e n),λp hp=>(I.jG p hp).same s⟩
def bR(i:Nat):∀a∈roots (O.set i none),a∈roots O:=λa h=>by
 rw[aF] at h ⊢;rcases Su h with z|z
 exact z;cases z
theorem dZ:∀(O:HD)(i:Nat),(roots O).Nodup->(roots (O.set i none)).Nodup
 |[],i,h=>by simpa using h
 |o::O,0,h=>by
  cases o with
  |none=>simpa[roots] using h
  |some a=>simp only[roots,List.set_cons_zero,qS,id] at h ⊢;exact (nY.mp h).2
 |o::O,i+1,h=>by
  have key:=dZ O i;cases o with
  |none=>simp only[roots,RM,qS,id] at h ⊢;exact key h
  |some a=>simp only[roots,RM,qS,id] at h ⊢;rw[nY] at h ⊢;exact⟨λz=>h.1 (bR i a z),key h.2⟩
def bS(i:Nat):∀a∈av Z (O.set i none),a∈av Z O:=λa h=>by
 rcases gx.mp h with h|h
 exact hX _ (bR i a h);exact iN _ h
def get_set{l:List α}{x y:α}(h:(l.set i x)[j]?=some y):(j=i/\y=x/\i<l.length)\/(j≠i/\l[j]?=some y):=by rw[List.getElem?_set] at h;by_cases e:i=j;rw[ι e] at h;by_cases hl:i<l.length;rw[ι hl] at h;exact .inl ⟨e.symm,(Option.some.inj h).symm,hl⟩;rw[η hl] at h;cases h;rw[η e] at h;exact .inr ⟨λz=>e z.symm,h⟩
def au.put(I:au K Z tm O ρ σ H){t:T}(hp:∀p∈Z.P,p.1≠i)(hv:At K H (av Z O) t v):au K Z tm (O.set i none) (ρ.set i (some (t,false))) (σ.set i (some v)) H:=by
 have fw:∀{t:T}{v:V},At K H (av Z O) t v->At K H (av Z (O.set i none)) t v:=λq=>q.bj (bS i);refine⟨by simp[I.lσ],by simp[I.lO],λj e h=>?_,dZ _ _ I.nd,λa h=>I.own a (bR i a h),λp q=>?_,I.ox,I.keep,λp q=>fw (I.jG p q)⟩;rcases get_set h with⟨rfl,rfl,hl⟩|⟨ne,h⟩
 exact⟨none,some v,by rw[z6 (by rw[I.lO];exact hl)],by rw[z6 (by rw[I.lσ];exact hl)],rfl,v,rfl,fw hv⟩;obtain⟨o,s,h1,h2,h3⟩:=I.sl j e h;exact⟨o,s,by rw[sg (Ne.symm ne)];exact h1,by rw[sg (Ne.symm ne)];exact h2,h3.map (λ_ _ q=>fw q) λ_ _ _ q=>q.bj (bS i)⟩;rw[sg (Ne.symm (hp p q))];exact I.par p q
def au.forget(I:au K Z tm O ρ σ H)(hp:∀p∈Z.P,p.1≠i):au K Z tm (O.set i none) (ρ.set i none) σ H:=by
 have fw:∀{t:T}{v:V},At K H (av Z O) t v->At K H (av Z (O.set i none)) t v:=λq=>q.bj (bS i);refine⟨by simp[I.lσ],by simp[I.lO],λj e h=>?_,dZ _ _ I.nd,λa h=>I.own a (bR i a h),λp q=>?_,I.ox,I.keep,λp q=>fw (I.jG p q)⟩;rcases get_set h with⟨rfl,rfl,hl⟩|⟨ne,h⟩
 obtain⟨s,hs⟩:∃s,σ[j]?=some s:=⟨σ[j]'(by rw[I.lσ];exact hl),by simp⟩;exact⟨none,s,by rw[z6 (by rw[I.lO];exact hl)],hs,rfl⟩;obtain⟨o,s,h1,h2,h3⟩:=I.sl j e h;exact⟨o,s,by rw[sg (Ne.symm ne)];exact h1,h2,h3.map (λ_ _ q=>fw q) λ_ _ _ q=>q.bj (bS i)⟩;rw[sg (Ne.symm (hp p q))];exact I.par p q
theorem mU:∀(O:HD)(i:Nat)(a:Addr),a∉roots O->(roots O).Nodup->(roots (O.set i (some a))).Nodup
 |[],i,a,_,h=>by simpa using h
 |o::O,0,a,n,h=>by
  cases o with
  |none=>simp only[roots,List.set_cons_zero,qS,id] at n h ⊢;exact nY.mpr ⟨n,h⟩
  |some b=>exact nY.mpr ⟨λz=>n (gz _ z),(nY.mp h).2⟩
 |o::O,i+1,a,n,h=>by
  have key:=mU O i a;cases o with
  |none=>simp only[roots,RM,qS,id] at n h ⊢;exact key n h
  |some b=>
   simp only[roots,RM,qS,id] at n h ⊢;rw[nY] at h ⊢;refine⟨λz=>?_,key (λz=>n (gz _ z)) h.2⟩;have z':=aF.mp z;rcases Su z' with q|q
   exact h.1 (aF.mpr q);exact n (by rw[Option.some.inj q];exact fB)
def vU{a:Addr}(i:Nat):∀b∈av Z (O.set i (some a)),b∈av (Z.ex a) O:=λb h=>by
 rcases gx.mp h with h|h
 rcases Su (aF.mp h) with z|z
 exact hX _ (aF.mpr z);exact iN _ (by rw[Option.some.inj z];exact fB);exact iN _ (gz _ h)
def au.Y8{a:Addr}(I:au K (Z.ex a) tm O ρ σ H){t:T}(hp:∀p∈Z.P,p.1≠i)(hv:cL K H (av (Z.ex a) O) a t)(h0:Z.H0 a=none)(hx:a∉Z.Ox):au K Z tm (O.set i (some a)) (ρ.set i (some (t,true))) (σ.set i (some (.ref a))) H:=by
 have sub:=vU (Z:=Z) (O:=O) (a:=a) i;have fw:∀{t:T}{v:V},At K H (av (Z.ex a) O) t v->At K H (av Z (O.set i (some a))) t v:=λq=>q.bj sub;have na:=λz=>(I.own a z).2.1 fB;refine⟨by simp[I.lσ],by simp[I.lO],λj e h=>?_,mU _ _ _ na I.nd,λb h=>?_,λp q=>?_,λb h=>I.ox b (gz _ h),I.keep,λp q=>fw (I.jG p q)⟩;rcases get_set h with⟨rfl,rfl,hl⟩|⟨ne,h⟩
 exact⟨some a,some (.ref a),by rw[z6 (by rw[I.lO];exact hl)],by rw[z6 (by rw[I.lσ];exact hl)],a,rfl,rfl,hv.bj sub⟩;obtain⟨o,s,h1,h2,h3⟩:=I.sl j e h;exact⟨o,s,by rw[sg (Ne.symm ne)];exact h1,by rw[sg (Ne.symm ne)];exact h2,h3.map (λ_ _ q=>fw q) λ_ _ _ q=>q.bj sub⟩;rcases Su (aF.mp h) with z|z
 obtain⟨h1,h2,h3⟩:=I.own b (aF.mpr z);exact⟨h1,λq=>h2 (gz _ q),h3⟩;cases z;exact⟨.inr h0,hx,hv.mut⟩;rw[sg (Ne.symm (hp p q))];exact I.par p q
theorem au.fF(I:au K Z tm O ρ σ H){t:T}(hp:∀p∈Z.P,p.1≠i)(hi:ρ[i]?=some (some (t,true))):au K Z tm (O.set i none) (ρ.set i (some (t,false))) σ H:=by
 have fw:∀{t:T}{v:V},At K H (av Z O) t v->At K H (av Z (O.set i none)) t v:=λq=>q.bj (bS i);obtain⟨o,s,h1,h2,a,rfl,rfl,hr⟩:=I.sl i _ hi;have ha:=aF.mpr (f_ h1);have na:a∉roots (O.set i none):=λz=>by
  obtain⟨j,hj⟩:=Mt.mp (aF.mp z);rcases get_set hj with⟨_,q,_⟩|⟨ne,q⟩
  cases q
  -- two places of one root
  have key:∀O (i j:Nat),i<j->O[i]?=some (some a)->O[j]?=some (some a)->(roots O).Nodup->False:=by
   intro O;induction O with
   |nil=>intro i j _ h;simp at h
   |cons o O ih=>
    intro i j Am e1 e2 nd;cases j with
    |zero=>lia
    |succ j=>
     have B8:O[j]?=some (some a):=by simpa using e2
     cases i with
     |zero=>
      have:o=some a:=by simpa using e1
      subst this;exact (nY.mp nd).1 (aF.mpr (f_ B8))
     |succ i=>
      refine ih i j (by lia) (by simpa using e1) B8 ?_;cases o with
      |none=>simpa[roots] using nd
      |some b=>simp only[roots,qS,id] at nd;exact (nY.mp nd).2
  rcases Nat.lt_or_gt_of_ne ne with l|l
  exact key O j i l q h1 I.nd;exact key O i j l h1 q I.nd
 have Y9:a∉av Z (O.set i none):=λz=>by
  rcases gx.mp z with z|z
  exact na z;exact (I.own a ha).2.1 z
 refine⟨by simp[I.lσ],by simp[I.lO],λj e h=>?_,dZ _ _ I.nd,λa h=>I.own a (bR i a h),λp q=>?_,I.ox,I.keep,λp q=>fw (I.jG p q)⟩;rcases get_set h with⟨rfl,rfl,hl⟩|⟨ne,h⟩
 exact⟨none,some (.ref a),by rw[z6 (by rw[I.lO];exact hl)],h2,rfl,.ref a,rfl,(hr.bj (bS j)).at Y9⟩;obtain⟨o,s,h1,h2,h3⟩:=I.sl j e h;exact⟨o,s,by rw[sg (Ne.symm ne)];exact h1,h2,h3.map (λ_ _ q=>fw q) λ_ _ _ q=>q.bj (bS i)⟩;rw[sg (Ne.symm (hp p q))];exact I.par p q
theorem au.wrote(I:au K Z tm O ρ σ H){t t':T}{a:Addr}{u:HO}(hi:ρ[i]?=some (some (t,true)))(hO:O[i]?=some (some a))(hr:cL K (upd H a u) (av Z O) a t'):au K Z tm O (ρ.set i (some (t',true))) σ (upd H a u):=by
 have ha:=aF.mpr (f_ hO);have DK:a∈av Z O:=hX _ ha;obtain⟨hP,hx,u0,e0,m0⟩:=I.own a ha;have inj:∀j b,j≠i->O[j]?=some (some b)->b≠a:=by
  intro j b ne hj e;subst e;have key:∀O (i j:Nat),i<j->O[i]?=some (some b)->O[j]?=some (some b)->(roots O).Nodup->False:=by
   intro O;induction O with
   |nil=>intro i j _ h;simp at h
   |cons o O ih=>
    intro i j Am e1 e2 nd;cases j with
    |zero=>lia
    |succ j=>
     have B8:O[j]?=some (some b):=by simpa using e2
     cases i with
     |zero=>
      have:o=some b:=by simpa using e1
      subst this;exact (nY.mp nd).1 (aF.mpr (f_ B8))
     |succ i=>
      refine ih i j (by lia) (by simpa using e1) B8 ?_;cases o with
      |none=>simpa[roots] using nd
      |some c=>simp only[roots,qS,id] at nd;exact (nY.mp nd).2
  rcases Nat.lt_or_gt_of_ne ne with l|l
  exact key O j i l hj hO I.nd;exact key O i j l hO hj I.nd
 refine⟨by simp[I.lσ],by simp[I.lO],λj e h=>?_,I.nd,λb h=>?_,I.par,λb h=>?_,λb o e n=>?_,λp q=>(I.jG p q).wrote DK e0 m0⟩;rcases get_set h with⟨rfl,rfl,hl⟩|⟨ne,h⟩
 obtain⟨o,s,h1,h2,a',h4,h5,h6⟩:=I.sl j _ hi;rw[hO] at h1;cases h1;cases h4;exact⟨_,s,hO,h2,a,rfl,h5,hr⟩;obtain⟨o,s,h1,h2,h3⟩:=I.sl j e h;refine⟨o,s,h1,h2,h3.map (λ_ _ q=>q.wrote DK e0 m0) λb t e q=>?_⟩;subst e;exact q.map (ar (inj j b ne h1)) λ_ _ z=>z.wrote DK e0 m0;obtain⟨h1,h2,v,e,m⟩:=I.own b h;by_cases hb:b=a;subst hb;exact⟨h1,h2,hr.mut⟩;exact⟨h1,h2,v,by rw[ar hb];exact e,m⟩;by_cases hb:b=a;subst hb;exact absurd h hx;rw[ar hb];exact I.ox b h;by_cases hb:b=a;subst hb;obtain q|q:=hP
 exact absurd q n;rw[q] at e;cases e;rw[ar hb];exact I.keep b o e n
def au.fresh(I:au K Z tm O ρ σ H){a:Addr}(h:H a=none):a∉av Z O/\a∉Z.Ox/\Z.H0 a=none:=by
 refine⟨λz=>I.JK a z h,λz=>I.ox a z h,?_⟩;cases e:Z.H0 a with
 |none=>rfl
 |some o=>by_cases hp:a∈Z.P.map (·.2);obtain⟨p,Pj,rfl⟩:=jZ.mp hp;obtain⟨_,_,u,e',_⟩:=I.own p.2 (aF.mpr (f_ (I.par p Pj)));rw[h] at e';cases e';rw[I.keep a o e hp] at h;cases h
def cU{a:Addr}:∀b∈av (Z.ex a) O,b∈av Z O\/b=a:=λb h=>by
 rcases gx.mp h with h|h
 exact .inl (hX _ h);rcases dg.mp h with h|h
 exact .inr h;exact .inl (iN _ h)
def gh{a:Addr}:∀b∈av Z O,b∈av (Z.ex a) O:=λb h=>by
 rcases gx.mp h with h|h
 exact hX _ h;exact iN _ (gz _ h)
def au.new(I:au K Z tm O ρ σ H){a:Addr}{u:HO}(h:H a=none)(hu:m9 u=true):au K (Z.ex a) tm O ρ σ (upd H a u):=by
 have s:aL H (upd H a u):=aG h;have J:=I.same s;obtain⟨n1,n2,n3⟩:=I.fresh h;have mr:∀b∈av (Z.ex a) O,b∈av Z O\/H b=none:=λb hb=>(cU b hb).imp id λe=>by rw[e];exact h
 have fw:∀{t:T}{v:V},At K H (av Z O) t v->At K (upd H a u) (av (Z.ex a) O) t v:=λq=>(q.more mr).same s;refine⟨J.lσ,J.lO,λi e hi=>?_,J.nd,λb hb=>?_,J.par,λb hb=>?_,J.keep,λp hp=>fw (I.jG p hp)⟩;obtain⟨o,w,h1,h2,h3⟩:=I.sl i e hi;refine⟨o,w,h1,h2,h3.map (λ_ _ q=>fw q) λb t eo q=>?_⟩;refine cL.same (q.map rfl λ_ _ z=>z.more mr) s;obtain⟨q1,q2,q3⟩:=J.own b hb;refine⟨q1,λz=>?_,q3⟩;rcases dg.mp z with z|z
 exact n1 (by rw[<- z];exact hX _ hb);exact q2 z;rcases dg.mp hb with z|z
 rw[z,aA];simp;exact J.ox b z
def au.Y_{a:Addr}(I:au K (Z.ex a) tm O ρ σ H):au K Z tm O ρ σ H :=
 ⟨I.lσ,I.lO,λi e h=>let ⟨o,w,h1,h2,h3⟩:=I.sl i e h;⟨o,w,h1,h2,h3.map (λ_ _ q=>q.bj gh) λ_ _ _ q=>q.bj gh⟩,I.nd,
  λb h=>let ⟨q1,q2,q3⟩:=I.own b h;⟨q1,λz=>q2 (gz _ z),q3⟩,I.par,λb h=>I.ox b (gz _ h),I.keep,λp hp=>(I.jG p hp).bj gh⟩
end
inductive Rt where
 |vw (t:T)
 |fr (t:T)
def Rt.t:Rt->T
 |.vw t=>t
 |.fr t=>t
def gi(K:zm)(H:Hp)(A:Ω)(t:T)(v:V):Prop:=At K H A t v\/∃a,v=.ref a/\cL K H A a t
def g8(K:zm)(Z:Zc)(tm:List (T×V))(O:HD)(ρ:En)(σ:St)(H:Hp):Rt->V->Prop
 |.vw t,v=>au K Z tm O ρ σ H/\At K H (av Z O) t v
 |.fr t,v=>∃a,v=.ref a/\au K (Z.ex a) tm O ρ σ H/\cL K H (av (Z.ex a) O) a t/\Z.H0 a=none/\a∉Z.Ox
abbrev FE:=En->(T->Prop)->Prop
abbrev FP:=En->(Rt->Prop)->Prop
abbrev FX:=En->(En->Rt->Prop)->Prop
abbrev FB:=En->(Bool->Prop)->Prop
abbrev FA:=En->(List T->Prop)->Prop
section
variable{Z:Zc}{tm:List (T×V)}{ρ:En}{A:Ω}
def gi.same{t:T}(s:aL H H')(h:gi K H A t v):gi K H' A t v:=h.imp (λq=>q.same s) λ⟨a,e,q⟩=>⟨a,e,q.same s⟩
def gi.lst{ts:List T}(h:gi K H A (.lst ts) v):∃a vs,v=.ref a/\fG K H a vs/\az K H A ts vs:=by
 obtain h|⟨a,rfl,vs,e,q⟩:=h
 simp only[At] at h;obtain⟨a,vs,rfl,l,q⟩:=h;exact⟨a,vs,rfl,l.sq,q⟩;exact⟨a,vs,rfl,fG.of e,q⟩
def gi.tup{ts:List T}(h:gi K H A (.tup ts) v):∃a vs,v=.ref a/\dS K H a vs/\az K H A ts vs:=by
 obtain h|⟨a,rfl,q⟩:=h
 simpa only[At] using h;exact q.elim
def gi.dk{ks:List Key}{ts:List T}(h:gi K H A (.dk ks ts) v):∃a vs,v=.ref a/\ks.length=vs.length/\H a=some (.dK (ks.zip vs))/\az K H A ts vs:=by
 obtain h|⟨a,rfl,vs,l,e,q⟩:=h
 simp only[At] at h;obtain⟨a,vs,rfl,l,d,q⟩:=h;exact⟨a,vs,rfl,l,d.1,q⟩;exact⟨a,vs,rfl,l,e,q⟩
def gi.dt{ts:List T}(h:gi K H A (.dt ks ts) v):∃a vs,v=.ref a/\ks.length=vs.length/\H a=some (.dT (ks.zip vs))/\az K H A ts vs:=by
 obtain h|⟨a,rfl,vs,l,e,q⟩:=h
 simp only[At] at h;obtain⟨a,vs,rfl,l,d,q⟩:=h;exact⟨a,vs,rfl,l,d.1,q⟩;exact⟨a,vs,rfl,l,e,q⟩
def gi.df{ts:List T}(h:gi K H A (.df o ks ts) v):∃a vs,v=.ref a/\ks.length=vs.length/\H a=some (.fF o (.dT (ks.zip vs)))/\az K H A ts vs:=by
 obtain h|⟨a,rfl,q⟩:=h
 simp only[At] at h;obtain⟨a,vs,rfl,l,d,q⟩:=h;exact⟨a,vs,rfl,l,d.1,q⟩;exact q.elim
def gi.kt{k:List Key}(h:gi K H A (.kt k) v):∃a,v=.ref a/\H a=some (.tup (k.map kV)):=by
 obtain h|⟨a,rfl,q⟩:=h
 simp only[At] at h;obtain⟨a,rfl,d⟩:=h;exact⟨a,rfl,d.1⟩;exact q.elim
def gi.ins{ns:ω}{ts:List T}(h:gi K H A (.ins C ns ts) v):∃a dx vs,v=.ref a/\ns.length=vs.length/\H a=some (.ins C dx (ns.zip vs))/\az K H A ts vs:=by
 obtain h|⟨a,rfl,dx,vs,l,e,q⟩:=h
 simp only[At] at h;obtain⟨a,dx,vs,rfl,l,d,q⟩:=h;exact⟨a,dx,vs,rfl,l,d.1,q⟩;exact⟨a,dx,vs,rfl,l,e,q⟩
def gi.int{i:Int}(h:gi K H A (.int i) v):v=.int i:=h.elim (λq=>by simpa only[At] using q) λ⟨_,_,q⟩=>q.elim
def gi.str{i:Str}(h:gi K H A (.str i) v):v=.str i:=h.elim (λq=>by simpa only[At] using q) λ⟨_,_,q⟩=>q.elim
def gi.bl{i:Bool}(h:gi K H A (.bl i) v):v=.bl i:=h.elim (λq=>by simpa only[At] using q) λ⟨_,_,q⟩=>q.elim
def gi.bB(h:gi K H A .bB v):v=.bB:=h.elim (λq=>by simpa only[At] using q) λ⟨_,_,q⟩=>q.elim
def gi.ob{a:Addr}(h:gi K H A (.ob a) v):v=.ref a:=h.elim (λq=>by simpa only[At] using q) λ⟨_,_,q⟩=>q.elim
def bE{i:Int}:At K H A (.int i) (.int i):=by simp only[At]
def dF{i:Str}:At K H A (.str i) (.str i):=by simp only[At]
def dC{i:Bool}:At K H A (.bl i) (.bl i):=by simp only[At]
def sR:At K H A .bB .bB:=by simp only[At]
def cY{ts:List T}{a:Addr}(h:dS K H a vs)(q:az K H A ts vs):At K H A (.tup ts) (.ref a):=by simp only[At];exact⟨a,vs,rfl,h,q⟩
def g8.env{r:Rt}(h:g8 K Z tm O ρ σ H r v):au K Z tm O ρ σ H:=by
 cases r with
 |vw t=>exact h.1
 |fr t=>obtain⟨a,_,I,_⟩:=h;exact I.Y_
def g8.at{r:Rt}(h:g8 K Z tm O ρ σ H r v):At K H (av Z O) r.t v:=by
 cases r with
 |vw t=>exact h.2
 |fr t=>
  obtain⟨a,rfl,I,q,_,hx⟩:=h;refine (q.bj gh).at λz=>?_;rcases gx.mp z with z|z
  exact (I.own a z).2.1 fB;exact hx z
def au.yI(I:au K Z tm O ρ σ H){a:Addr}{ts:List T}(h:H a=none)(q:az K H (av Z O) ts vs):g8 K Z tm O ρ σ (upd H a (.lst vs)) (.fr (.lst ts)) (.ref a):=by obtain⟨n1,n2,n3⟩:=I.fresh h;exact⟨a,rfl,I.new h rfl,⟨vs,aA,(q.more λb hb=>(cU b hb).imp id λe=>by rw[e];exact h).same (aG h)⟩,n3,n2⟩
def au.newD(I:au K Z tm O ρ σ H){a:Addr}{ks:List Key}{ts:List T}(h:H a=none)(hl:ks.length=vs.length)(q:az K H (av Z O) ts vs):g8 K Z tm O ρ σ (upd H a (.dK (ks.zip vs))) (.fr (.dk ks ts)) (.ref a):=by obtain⟨n1,n2,n3⟩:=I.fresh h;exact⟨a,rfl,I.new h rfl,⟨vs,hl,aA,(q.more λb hb=>(cU b hb).imp id λe=>by rw[e];exact h).same (aG h)⟩,n3,n2⟩
end
structure Bx(p:List (T×V)->Prop):Prop where
 h:∀tm,p tm
section
variable(X:Cx)(Z:Zc)
noncomputable def lR(tm:List (T×V))(f:FE):TE:=λσ H Q=>∃ρ O q,au X.K Z tm O ρ σ H/\f ρ q/\∀t,q t->∀v H',aL H H'->gi X.K H' (av Z O) t v->Q v H'
noncomputable def lE(tm:List (T×V))(f:FE):TE:=λσ H Q=>∃ρ O q,au X.K Z tm O ρ σ H/\f ρ q/\∀t,q t->∀v H',aL H H'->At X.K H' (av Z O) t v->Q v H'
def lP(tm:List (T×V))(f:FP):TE:=λσ H Q=>∃ρ O q,au X.K Z tm O ρ σ H/\f ρ q/\∀r,q r->∀v H',aL H H'->g8 X.K Z tm O ρ σ H' r v->Q v H'
def lX(tm:List (T×V))(f:FX):TE:=λσ H Q=>∃ρ O q,au X.K Z tm O ρ σ H/\f ρ q/\∀ρ' r,q ρ' r->∀O' v H',g8 X.K Z tm O' ρ' σ H' r v->Q v H'
def lB(tm:List (T×V))(f:FB):TT:=λσ H Q=>∃ρ O q,au X.K Z tm O ρ σ H/\f ρ q/\∀b,q b->∀H',aL H H'->Q b H'
noncomputable def lA(tm:List (T×V))(f:FA):TA:=λσ H Q=>∃ρ O q,au X.K Z tm O ρ σ H/\f ρ q/\∀ts,q ts->∀vs H',aL H H'->az X.K H' (av Z O) ts vs->Q vs H'
noncomputable def lAR(tm:List (T×V))(f:FA):TA:=λσ H Q=>∃ρ O q,au X.K Z tm O ρ σ H/\f ρ q/\∀ts,q ts->∀vs H',aL H H'->Paired (λv t=>gi X.K H' (av Z O) t v) vs ts->Q vs H'
def VR(e:Expr)(f:FE):Prop:=Bx λtm=>PE X e (lR X Z tm f)
instance{e:Expr}{f:FE}:CoeFun (VR X Z e f) λ_=>∀tm,PE X e (lR X Z tm f):=⟨λh=>Bx.h h⟩
def VE(e:Expr)(f:FE):Prop:=Bx λtm=>PE X e (lE X Z tm f)
instance{e:Expr}{f:FE}:CoeFun (VE X Z e f) λ_=>∀tm,PE X e (lE X Z tm f):=⟨λh=>Bx.h h⟩
def VP(e:Expr)(f:FP):Prop:=Bx λtm=>PE X e (lP X Z tm f)
instance{e:Expr}{f:FP}:CoeFun (VP X Z e f) λ_=>∀tm,PE X e (lP X Z tm f):=⟨λh=>Bx.h h⟩
def VX(e:Expr)(f:FX):Prop:=Bx λtm=>PE X e (lX X Z tm f)
instance{e:Expr}{f:FX}:CoeFun (VX X Z e f) λ_=>∀tm,PE X e (lX X Z tm f):=⟨λh=>Bx.h h⟩
def VC(e:Expr)(f:FB):Prop:=Bx λtm=>PT X e (lB X Z tm f)
instance{e:Expr}{f:FB}:CoeFun (VC X Z e f) λ_=>∀tm,PT X e (lB X Z tm f):=⟨λh=>Bx.h h⟩
def VW(e:Expr)(f:FB):Prop:=Bx λtm=>PW X e (lB X Z tm f)
instance{e:Expr}{f:FB}:CoeFun (VW X Z e f) λ_=>∀tm,PW X e (lB X Z tm f):=⟨λh=>Bx.h h⟩
def VA(es:qap)(f:FA):Prop:=Bx λtm=>PA X es (lA X Z tm f)
instance{es:qap}{f:FA}:CoeFun (VA X Z es f) λ_=>∀tm,PA X es (lA X Z tm f):=⟨λh=>Bx.h h⟩
def R6(es:qap)(f:FA):Prop:=Bx λtm=>PA X es (lAR X Z tm f)
instance{es:qap}{f:FA}:CoeFun (R6 X Z es f) λ_=>∀tm,PA X es (lAR X Z tm f):=⟨λh=>Bx.h h⟩
end
def PE.weak{X:Cx}{t t':TE}(h:PE X e t)(hw:∀σ H Q,t' σ H Q->t σ H Q):PE X e t':=λε s σ H Q I q=>h ε s σ H Q I (hw _ _ _ q)
def PT.weak{X:Cx}{t t':TT}(h:PT X e t)(hw:∀σ H Q,t' σ H Q->t σ H Q):PT X e t':=λε s σ H Q I q=>h ε s σ H Q I (hw _ _ _ q)
def PW.weak{X:Cx}{t t':TT}(h:PW X e t)(hw:∀σ H Q,t' σ H Q->t σ H Q):PW X e t':=λwh ε s σ H Q I q=>h wh ε s σ H Q I (hw _ _ _ q)
def PA.weak{X:Cx}{e:qap}{t t':TA}(h:PA X e t)(hw:∀σ H Q,t' σ H Q->t σ H Q):PA X e t':=λpos ε s σ H Q I q=>h pos ε s σ H Q I (hw _ _ _ q)
def PS.weak{X:Cx}{b:Stmt}{t t':TS}(h:PS X b t)(hw:∀D σ H,t' D σ H->t D σ H):PS X b t':=λε s σ H D I q=>h ε s σ H D I (hw D σ H q)
def iP.jn{X:Cx}{b:qaq}{t t':TS}(h:iP X b t)(hw:∀D σ H,t' D σ H->t D σ H):iP X b t':=λε s σ H D I q=>h ε s σ H D I (hw D σ H q)
section
variable{X:Cx}{Z:Zc}{a b:Expr}{pos:Pos}
def VE.vr{f:FE}(h:VE X Z e f):VR X Z e f:=.mk λtm=>PE.weak (h tm) λσ H Q ⟨ρ,O,q,I,hf,k⟩=>⟨ρ,O,q,I,hf,λt ht v H' s z=>k t ht v H' s (.inl z)⟩
def fT(f:FP):FE:=λρ Q=>f ρ λr=>Q r.t
def fV(f:FE):FP:=λρ Q=>f ρ λt=>Q (.vw t)
def fX(f:FP):FX:=λρ Q=>f ρ λr=>Q ρ r
def VP.ve{f:FP}(h:VP X Z e f):VE X Z e (fT f):=.mk λtm=>PE.weak (h tm) λσ H Q ⟨ρ,O,q,I,hf,k⟩=>⟨ρ,O,λr=>q r.t,I,hf,λr hr v H' s z=>k r.t hr v H' s z.at⟩
def VP.vr{f:FP}(h:VP X Z e f):VR X Z e (fT f):=h.ve.vr
def VP.vx{f:FP}(h:VP X Z e f):VX X Z e (fX f):=.mk λtm=>PE.weak (h tm) λσ H Q ⟨ρ,O,q,I,hf,k⟩=>⟨ρ,O,λr=>q ρ r,I,hf,λr hr v H' s z=>k ρ r hr O v H' z⟩
def VE.vp{f:FE}(h:VE X Z e f):VP X Z e (fV f):=.mk λtm=>PE.weak (h tm) λσ H Q ⟨ρ,O,q,I,hf,k⟩=>⟨ρ,O,λt=>q (.vw t),I,hf,λt hr v H' s z=>k (.vw t) hr v H' s ⟨I.same s,z⟩⟩
def dB(i:Nat):FE:=λρ Q=>match ρ[i]? with
 |some (some (t,false))=>Q t
 |_=>False
def dD(i:Nat):FE:=λρ Q=>match ρ[i]? with
 |some (some (t,_))=>Q t
 |_=>False
def ah(i:Nat)(hN:X.N[i]?=some x:=by rfl)(hv:mP X.env.scope x:=by first|exact Or.inl rfl|exact Or.inr (.inl rfl)|exact Or.inr (.inr rfl))(hd:f7 x:=by decide)(fO:qd x:=by decide):VE X Z (.Name x pos) (dB i):=.mk λtm=>PE.weak (bY hN hv hd fO) λσ H Q ⟨ρ,O,q,I,hf,k⟩=>by
 unfold dB at hf;split at hf
 rename_i t e
 obtain⟨o,s,h1,h2,rfl,v,rfl,h3⟩:=I.sl i _ e;exact⟨v,h2,k t hf v H (aL.refl H) h3⟩;exact hf.elim
def ae(i:Nat)(hN:X.N[i]?=some x:=by rfl)(hv:mP X.env.scope x:=by first|exact Or.inl rfl|exact Or.inr (.inl rfl)|exact Or.inr (.inr rfl))(hd:f7 x:=by decide)(fO:qd x:=by decide):VR X Z (.Name x pos) (dD i):=.mk λtm=>PE.weak (bY hN hv hd fO) λσ H Q ⟨ρ,O,q,I,hf,k⟩=>by
 unfold dD at hf;split at hf
 rename_i t b e
 obtain⟨o,s,h1,h2,h3⟩:=I.sl i _ e;cases b with
 |false=>obtain⟨rfl,v,rfl,h3⟩:=h3;exact⟨v,h2,k t hf v H (aL.refl H) (.inl h3)⟩
 |true=>obtain⟨a,rfl,rfl,h3⟩:=h3;exact⟨_,h2,k t hf _ H (aL.refl H) (.inr ⟨a,rfl,h3⟩)⟩
 exact hf.elim
def fC(t:T):FP:=λ_ Q=>Q (.vw t)
def EC{t:T}(h:PE X e (tC v))(ht:∀H A,At X.K H A t v):VP X Z e (fC t):=.mk λtm=>PE.weak h λσ H Q ⟨ρ,O,q,I,hf,k⟩=>k _ hf v H (aL.refl H) ⟨I,ht _ _⟩
def af{i j pos}:VP X Z (.Constant (.int i) j pos) (fC (.int i)):=EC yj λ_ _=>bE
def jo{i j pos}:VP X Z (.Constant (.bool i) j pos) (fC (.bl i)):=EC SV λ_ _=>dC
def ax{i j pos}:VP X Z (.Constant (.str i) j pos) (fC (.str i)):=EC Oj λ_ _=>dF
def fP{j pos}:VP X Z (.Constant .none j pos) (fC .bB):=EC Oi λ_ _=>sR
def nC{t:T}(hg:Gl X x)(hm:X.mg x=some u)(r:RelV v u)(ht:∀H A,At X.K H A t v)(hd:f7 x:=by decide):VP X Z (.Name x pos) (fC t):=EC (Jb hg hm r hd) ht
def nD(K:zm)(r:R2)(p:T->T->(Rt->Prop)->Prop):Prop :=
 ∀(Z:Zc)(tm:List (T×V))(O:HD)(ρ:En)(σ:St)(H:Hp)(x y:T)(v w:V)(q:Rt->Prop)(Q:VK),au K Z tm O ρ σ H->gi K H (av Z O) x v->gi K H (av Z O) y w->p x y q ->
  (∀t,q t->∀u H',aL H H'->g8 K Z tm O ρ σ H' t u->Q u H')->r v w H Q
def f2(fa fb:FE)(p:T->T->(Rt->Prop)->Prop):FP:=λρ Q=>fa ρ λx=>fb ρ λy=>p x y Q
def two{r:R2}{fa fb:FE}{p:T->T->(Rt->Prop)->Prop}(ho:nD X.K r p){tm:List (T×V)}:∀σ H Q,lP X Z tm (f2 fa fb p) σ H Q->Td r (lR X Z tm fa) (lR X Z tm fb) σ H Q:=λσ H Q ⟨ρ,O,q,I,hf,k⟩ =>
 ⟨ρ,O,λx=>fb ρ λy=>p x y q,I,hf,λx hx v H1 s1 a1=>⟨ρ,O,λy=>p x y q,I.same s1,hx,λy hy w H2 s2 a2=>
  ho Z tm O ρ σ H2 x y v w q Q ((I.same s1).same s2) (a1.same s2) a2 hy λt ht u H' s a=>k t ht u H' ((s1.trans s2).trans s) a⟩⟩
def fQ{op:Operator}{r:R2}{fa fb:FE}{p:T->T->(Rt->Prop)->Prop}(h:eM X (binaryOp op) r)(ho:nD X.K r p)(ha:VR X Z a fa)(hb:VR X Z b fb):VP X Z (.BinOp a op b pos) (f2 fa fb p) :=
 .mk λtm=>PE.weak (ME h (ha tm) (hb tm)) (two ho)
def sS{op:CmpOp}{r:R2}{fa fb:FE}{p:T->T->(Rt->Prop)->Prop}(h:eM X (compareOp op) r)(ho:nD X.K r p)(ha:VR X Z a fa)(hb:VR X Z b fb)(hm:behindInMarks op b=false):VP X Z (.Compare a [op] [b] pos) (f2 fa fb p) :=
 .mk λtm=>PE.weak (Jm h (ha tm) (hb tm) hm) (two ho)
def lH(f:FP):FB:=λρ Q=>f ρ λr=>match r with
 |.vw (.bl c)=>Q c
 |_=>False
def yJ{r:Rt}{Q:Bool->Prop}(h:match r with | .vw (.bl c)=>Q c|_=>False):∃c,r=.vw (.bl c)/\Q c:=by split at h;exact⟨_,rfl,h⟩;exact h.elim
def jH{op:CmpOp}{r:R2}{fa fb:FE}{p:T->T->(Rt->Prop)->Prop}(h:eM X (compareOp op) r)(ho:nD X.K r p)(ha:VR X Z a fa)(hb:VR X Z b fb)(hm:behindInMarks op b=false):VC X Z (.Compare a [op] [b] pos) (lH (f2 fa fb p)) :=
 .mk λtm=>PT.weak (Jn h (ha tm) (hb tm) hm) λσ H Q ⟨ρ,O,q,I,hf,k⟩=>two ho σ H _ ⟨ρ,O,_,I,hf,λt ht u H' s a=>by obtain⟨c,rfl,hc⟩:=yJ ht;have e:=a.2;exact⟨c,e,k c hc H' s⟩⟩
def cH{f:FP}(h:VP X Z e f)(he:∀whole,isTrue e X.env whole=(do let v <- whole;standAt e.pos;holding [v] (truthy v)):=by intro _;rfl):VC X Z e (lH f) :=
 .mk λtm=>PT.weak (D6 (h tm) he) λσ H Q ⟨ρ,O,q,I,hf,k⟩=>⟨ρ,O,_,I,hf,λt ht u H' s a=>by obtain⟨c,rfl,hc⟩:=yJ ht;have e:=a.2;exact⟨c,e,k c hc H' s⟩⟩
def Y'(f g:FB):FB:=λρ Q=>f ρ λc=>if c=true then g ρ Q else Q false
def Za(f g:FB):FB:=λρ Q=>f ρ λc=>if c=true then Q true else g ρ Q
def Zb(f:FB):FB:=λρ Q=>f ρ λc=>Q (!c)
def VW.vc{f:FB}(h:VW X Z e f):VC X Z e f:=.mk λtm=>PW.pt (h tm)
def cK{f:FB}(h:VC X Z a f):VW X Z (.BoolOp .And [a] pos) f:=.mk λtm=>pw_and1 (h tm)
def ED{f:FB}(h:VC X Z a f):VW X Z (.BoolOp .Or [a] pos) f:=.mk λtm=>pw_or1 (h tm)
def c_{rest:qap}{f g:FB}(h:VC X Z a f)(h':VW X Z (.BoolOp .And (b::rest) pos) g):VW X Z (.BoolOp .And (a::b::rest) pos) (Y' f g) :=
 .mk λtm=>PW.weak (pw_and (h tm) (h' tm)) λσ H Q ⟨ρ,O,q,I,hf,k⟩=>⟨ρ,O,_,I,hf,λc hc H1 s1=>by
  cases c with
  |true=>rw[ι rfl] at hc ⊢;exact⟨ρ,O,q,I.same s1,hc,λb hb H' s=>k b hb H' (s1.trans s)⟩
  |false=>rw[η ja] at hc ⊢;exact k false hc H1 s1⟩
def MQ{rest:qap}{f g:FB}(h:VC X Z a f)(h':VW X Z (.BoolOp .Or (b::rest) pos) g):VW X Z (.BoolOp .Or (a::b::rest) pos) (Za f g) :=
 .mk λtm=>PW.weak (pw_or (h tm) (h' tm)) λσ H Q ⟨ρ,O,q,I,hf,k⟩=>⟨ρ,O,_,I,hf,λc hc H1 s1=>by
  cases c with
  |true=>rw[ι rfl] at hc ⊢;exact k true hc H1 s1
  |false=>rw[η ja] at hc ⊢;exact⟨ρ,O,q,I.same s1,hc,λb hb H' s=>k b hb H' (s1.trans s)⟩⟩
def lJ{f:FB}(h:VC X Z a f):VC X Z (.UnaryOp .Not a pos) (Zb f) :=
 .mk λtm=>PT.weak (Ol (h tm)) λσ H Q ⟨ρ,O,q,I,hf,k⟩=>⟨ρ,O,_,I,hf,λc hc H1 s1=>k _ hc H1 s1⟩
def T_(f g:FP):FP:=λρ Q=>f ρ λr=>match r with
 |.vw (.bl true)=>g ρ Q
 |.vw (.bl false)=>Q (.vw (.bl false))
 |_=>False
def Pk(f g:FP):FP:=λρ Q=>f ρ λr=>match r with
 |.vw (.bl true)=>Q (.vw (.bl true))
 |.vw (.bl false)=>g ρ Q
 |_=>False
def T'(f:FP):FP:=λρ Q=>f ρ λr=>match r with
 |.vw (.bl c)=>Q (.vw (.bl (!c)))
 |_=>False
def oB{op}{f:FP}(h:VP X Z a f):VP X Z (.BoolOp op [a] pos) f:=.mk λtm=>Om (h tm)
def lK{rest:qap}{f g:FP}(h:VP X Z a f)(h':VP X Z (.BoolOp .And (b::rest) pos) g):VP X Z (.BoolOp .And (a::b::rest) pos) (T_ f g) :=
 .mk λtm=>PE.weak (Oo (h tm) (h' tm)) λσ H Q ⟨ρ,O,q,I,hf,k⟩=>⟨ρ,O,_,I,hf,λr hr v H1 s1 z=>by split at hr;have e:=z.2;simp only[At] at e;exact⟨true,e,by rw[ι rfl];exact⟨ρ,O,q,I.same s1,hr,λb hb v H' s=>k b hb v H' (s1.trans s)⟩⟩;have e:=z.2;simp only[At] at e;exact⟨false,e,by rw[η ja];exact k _ hr _ H1 s1 ⟨I.same s1,dC⟩⟩;exact hr.elim⟩
def Ua{rest:qap}{f g:FP}(h:VP X Z a f)(h':VP X Z (.BoolOp .Or (b::rest) pos) g):VP X Z (.BoolOp .Or (a::b::rest) pos) (Pk f g) :=
 .mk λtm=>PE.weak (S6 (h tm) (h' tm)) λσ H Q ⟨ρ,O,q,I,hf,k⟩=>⟨ρ,O,_,I,hf,λr hr v H1 s1 z=>by split at hr;have e:=z.2;simp only[At] at e;exact⟨true,e,by rw[ι rfl];exact k _ hr _ H1 s1 ⟨I.same s1,dC⟩⟩;have e:=z.2;simp only[At] at e;exact⟨false,e,by rw[η ja];exact⟨ρ,O,q,I.same s1,hr,λb hb v H' s=>k b hb v H' (s1.trans s)⟩⟩;exact hr.elim⟩
def Pm{f:FP}(h:VP X Z a f):VP X Z (.UnaryOp .Not a pos) (T' f) :=
 .mk λtm=>PE.weak (Oq (h tm)) λσ H Q ⟨ρ,O,q,I,hf,k⟩=>⟨ρ,O,_,I,hf,λr hr v H1 s1 z=>by split at hr;have e:=z.2;simp only[At] at e;exact⟨_,e,k _ hr _ H1 s1 ⟨I.same s1,dC⟩⟩;exact hr.elim⟩
def fIf(c:FB)(f g:FP):FP:=λρ Q=>c ρ λb=>if b=true then f ρ Q else g ρ Q
def MR{fc:FB}{f g:FP}(hc:VC X Z c fc)(h:VP X Z a f)(h':VP X Z b g):VP X Z (.IfExp c a b pos) (fIf fc f g) :=
 .mk λtm=>PE.weak (D7 (hc tm) (h tm) (h' tm)) λσ H Q ⟨ρ,O,q,I,hf,k⟩=>⟨ρ,O,_,I,hf,λc hc H1 s1=>by
  cases c with
  |true=>rw[ι rfl] at hc ⊢;exact⟨ρ,O,q,I.same s1,hc,λb hb v H' s=>k b hb v H' (s1.trans s)⟩
  |false=>rw[η ja] at hc ⊢;exact⟨ρ,O,q,I.same s1,hc,λb hb v H' s=>k b hb v H' (s1.trans s)⟩⟩
def lL:FA:=λ_ Q=>Q []
def cn(f:FE)(g:FA):FA:=λρ Q=>f ρ λt=>g ρ λts=>Q (t::ts)
def aj:VA X Z [] lL:=.mk λtm=>PA.weak cX λσ H Q ⟨ρ,O,q,I,hf,k⟩=>k _ hf [] H (aL.refl H) az.nil
def aa{f:FE}{g:FA}(h:VE X Z e f)(h':VA X Z es g)(hs:starEach (e::es) X.env=(false,eval e X.env)::starEach es X.env:=by rfl):VA X Z (e::es) (cn f g) :=
 .mk λtm=>PA.weak (bD (h tm) (h' tm) hs) λσ H Q ⟨ρ,O,q,I,hf,k⟩=>⟨ρ,O,_,I,hf,λt ht v H1 s1 a1=>⟨ρ,O,_,I.same s1,ht,λts f9 vs H2 s2 a2=>k _ f9 _ H2 (s1.trans s2) (az.cons (a1.same s2) a2)⟩⟩
def aX:R6 X Z [] lL:=.mk λtm=>PA.weak cX λσ H Q ⟨ρ,O,q,I,hf,k⟩=>k _ hf [] H (aL.refl H) .nil
def aM{f:FE}{g:FA}(h:VR X Z e f)(h':R6 X Z es g)(hs:starEach (e::es) X.env=(false,eval e X.env)::starEach es X.env:=by rfl):R6 X Z (e::es) (cn f g) :=
 .mk λtm=>PA.weak (bD (h tm) (h' tm) hs) λσ H Q ⟨ρ,O,q,I,hf,k⟩=>⟨ρ,O,_,I,hf,λt ht v H1 s1 a1=>⟨ρ,O,_,I.same s1,ht,λts f9 vs H2 s2 a2=>k _ f9 _ H2 (s1.trans s2) (.cons (a1.same s2) a2)⟩⟩
def Ub(g:FA):FP:=λρ Q=>g ρ λts=>ts.length<=sizeLine/\Q (.vw (.tup ts))
def Zd(g:FA):FP:=λρ Q=>g ρ λts=>ts.length<=sizeLine/\Q (.fr (.lst ts))
def aP{g:FA}{x1}(h:VA X Z es g):VP X Z (.Tuple es x1 pos) (Ub g) :=
 .mk λtm=>PE.weak (lz (h tm)) λσ H Q ⟨ρ,O,q,I,hf,k⟩=>⟨ρ,O,_,I,hf,λts f9 vs H1 s1 a1=>⟨by rw[a1.length];exact f9.1,λp hp=>k _ f9.2 _ _ (s1.trans (aG hp)) ⟨(I.same s1).same (aG hp),cY (dS.of aA) (a1.same (aG hp))⟩⟩⟩
def bO{g:FA}(h:VA X Z es g):VP X Z (.List es pos) (Zd g) :=
 .mk λtm=>PE.weak (OS (h tm)) λσ H Q ⟨ρ,O,q,I,hf,k⟩=>⟨ρ,O,_,I,hf,λts f9 vs H1 s1 a1=>⟨by rw[a1.length];exact f9.1,λp hp=>k _ f9.2 _ _ (s1.trans (aG hp)) ((I.same s1).yI hp a1)⟩⟩
end
mutual
noncomputable def eqT:T->T->Bool
 |.bB,.bB=>true
 |.bl a,.bl b=>a==b
 |.bl a,.int b=>(if a then 1 else 0)==b
 |.int a,.bl b=>a==(if b then 1 else 0)
 |.int a,.int b=>a==b
 |.str a,.str b=>a==b
 |.tup a,.tup b=>fR a b
 |.lst a,.lst b=>fR a b
 |_,_=>false
noncomputable def fR:List T->List T->Bool
 |[],[]=>true
 |a::as,b::bs=>eqT a b && fR as bs
 |_,_=>false
end
mutual
noncomputable def plainT:T->Bool
 |.tup l=>cg l
 |.lst l=>cg l
 |.dk _ _=>false
 |.dt _ _=>false
 |.df _ _ _=>false
 |.kt _=>false
 |.ins _ _ _=>false
 |.pin _ _=>false
 |.ob _=>false
 |.ty _=>false
 |_=>true
noncomputable def cg:List T->Bool
 |[]=>true
 |t::ts=>plainT t && cg ts
end
mutual
noncomputable def dep:T->Nat
 |.tup l=>oC l+1
 |.lst l=>oC l+1
 |_=>0
noncomputable def oC:List T->Nat
 |[]=>0
 |t::ts=>max (dep t) (oC ts)
end
mutual
theorem oE:∀(t:T),plainT t=true->eqT t t=true
 |.bB,_=>by simp[eqT]
 |.bl _,_=>by simp[eqT]
 |.int _,_=>by simp[eqT]
 |.str _,_=>by simp[eqT]
 |.tup l,h=>by simp only[plainT] at h;simp only[eqT];exact lM l h
 |.lst l,h=>by simp only[plainT] at h;simp only[eqT];exact lM l h
 |.dk _ _,h=>by simp only[plainT] at h;cases h
 |.dt _ _,h=>by simp only[plainT] at h;cases h
 |.df _ _ _,h=>by simp only[plainT] at h;cases h
 |.kt _,h=>by simp only[plainT] at h;cases h
 |.ins _ _ _,h=>by simp only[plainT] at h;cases h
 |.pin _ _,h=>by simp only[plainT] at h;cases h
 |.ob _,h=>by simp only[plainT] at h;cases h
 |.ty _,h=>by simp only[plainT] at h;cases h
theorem lM:∀(t:List T),cg t=true->fR t t=true
 |[],_=>by simp[fR]
 |t::ts,h=>by simp only[cg,ij] at h;simp only[fR,ij];exact⟨oE t h.1,lM ts h.2⟩
end
theorem ka:∀{a b:List T},fR a b=true->a.length=b.length
 |[],[],_=>rfl
 |a::as,b::bs,h=>by simp only[fR,ij] at h;simp[ka h.2]
 |[],_::_,h=>by simp[fR] at h
 |_::_,[],h=>by simp[fR] at h
theorem kc:∀{a b:List T},a.length=b.length->fR a b=(List.range a.length).all λj=>match a[j]?,b[j]? with
  |some x,some y=>eqT x y
  |_,_=>true
 |[],[],_=>by simp[fR]
 |a::as,b::bs,h=>by have ih:=kc (a:=as) (b:=bs) (by simpa using h);simp only[fR];rw[ih,yf,List.range_succ_eq_map,List.all_cons,List.all_map];rfl
 |[],_::_,h=>by simp at h
 |_::_,[],h=>by simp at h
theorem vV:∀{a b:List T},fR a b=((List.range (min a.length b.length)).all (λj=>match a[j]?,b[j]? with
  |some x,some y=>eqT x y
  |_,_=>true) && a.length==b.length)
 |a,b=>by
   by_cases h:a.length=b.length;rw[kc h,h,My];simp;have e:(a.length==b.length)=false:=by simpa using h
   rw[e,SN];cases q:fR a b with
   |false=>rfl
   |true=>exact absurd (ka q) h
section
variable{X:Cx}{O O':Ω}
def vW(I:Inv X ε σ H s){a:Addr}{ys:qak}(h:fG X.K H a xs)(h':dS X.K H a ys):False:=by
 obtain⟨aT,_,p,_⟩:=I.list h;obtain⟨jI,_,p2,_⟩:=I.tuple h';obtain⟨o,n,e,c,_⟩:=p;obtain⟨o2,e2,c2,_⟩:=p2;rw[e] at e2;cases e2;rw[c] at c2;injection c2 with c2
 exact absurd c2 (by decide)
mutual
theorem At.inj(I:Inv X ε σ H s):∀{t u:T}{v:V},plainT t=true->plainT u=true->At X.K H O t v->At X.K H O' u v->t=u
 |.bB,u,v,_,pu,h,h'=>by simp only[At] at h;subst h;cases u<;>simp only[At] at h'<;>first|rfl|(simp only[plainT] at pu;cases pu;done)|(obtain⟨_,_,e,_⟩:=h';cases e)|(cases h';done)
 |.bl b,u,v,_,pu,h,h'=>by simp only[At] at h;subst h;cases u<;>simp only[At] at h'<;>first|(simp only[plainT] at pu;cases pu;done)|(obtain⟨_,_,e,_⟩:=h';cases e;done)|(cases h';rfl)|(cases h';done)
 |.int b,u,v,_,pu,h,h'=>by simp only[At] at h;subst h;cases u<;>simp only[At] at h'<;>first|(simp only[plainT] at pu;cases pu;done)|(obtain⟨_,_,e,_⟩:=h';cases e;done)|(cases h';rfl)|(cases h';done)
 |.str b,u,v,_,pu,h,h'=>by simp only[At] at h;subst h;cases u<;>simp only[At] at h'<;>first|(simp only[plainT] at pu;cases pu;done)|(obtain⟨_,_,e,_⟩:=h';cases e;done)|(cases h';rfl)|(cases h';done)
 |.dk _ _,_,_,p,_,_,_=>by simp only[plainT] at p;cases p
 |.dt _ _,_,_,p,_,_,_=>by simp only[plainT] at p;cases p
 |.df _ _ _,_,_,p,_,_,_=>by simp only[plainT] at p;cases p
 |.kt _,_,_,p,_,_,_=>by simp only[plainT] at p;cases p
 |.ins _ _ _,_,_,p,_,_,_=>by simp only[plainT] at p;cases p
 |.pin _ _,_,_,p,_,_,_=>by simp only[plainT] at p;cases p
 |.ob _,_,_,p,_,_,_=>by simp only[plainT] at p;cases p
 |.ty _,_,_,p,_,_,_=>by simp only[plainT] at p;cases p
 |.tup ts,u,v,p,pu,h,h'=>by
  simp only[At] at h;obtain⟨a,vs,rfl,h1,h2⟩:=h;cases u with
  |tup us=>simp only[At] at h';obtain⟨b,ws,e,g1,g2⟩:=h';cases e;cases I.lq h1 g1;simp only[plainT] at p pu;rw[az.inj I p pu h2 g2]
  |lst us=>simp only[At] at h';obtain⟨b,ws,e,g1,g2⟩:=h';cases e;exact (vW I g1.sq h1).elim
  |dk _ _=>simp only[plainT] at pu;cases pu
  |dt _ _=>simp only[plainT] at pu;cases pu
  |df _ _ _=>simp only[plainT] at pu;cases pu
  |kt _=>simp only[plainT] at pu;cases pu
  |ins _ _ _=>simp only[plainT] at pu;cases pu
  |pin _ _=>simp only[plainT] at pu;cases pu
  |ob _=>simp only[plainT] at pu;cases pu
  |ty _=>simp only[plainT] at pu;cases pu
  |_=>simp only[At] at h';cases h'
 |.lst ts,u,v,p,pu,h,h'=>by
  simp only[At] at h;obtain⟨a,vs,rfl,h1,h2⟩:=h;cases u with
  |lst us=>simp only[At] at h';obtain⟨b,ws,e,g1,g2⟩:=h';cases e;cases I.j4 h1.sq g1.sq;simp only[plainT] at p pu;rw[az.inj I p pu h2 g2]
  |tup us=>simp only[At] at h';obtain⟨b,ws,e,g1,g2⟩:=h';cases e;exact (vW I h1.sq g1).elim
  |dk _ _=>simp only[plainT] at pu;cases pu
  |dt _ _=>simp only[plainT] at pu;cases pu
  |df _ _ _=>simp only[plainT] at pu;cases pu
  |kt _=>simp only[plainT] at pu;cases pu
  |ins _ _ _=>simp only[plainT] at pu;cases pu
  |pin _ _=>simp only[plainT] at pu;cases pu
  |ob _=>simp only[plainT] at pu;cases pu
  |ty _=>simp only[plainT] at pu;cases pu
  |_=>simp only[At] at h';cases h'
theorem az.inj(I:Inv X ε σ H s):∀{ts us:List T}{vs:qak},cg ts=true->cg us=true->az X.K H O ts vs->az X.K H O' us vs->ts=us
 |[],[],_,_,_,_,_=>rfl
 |[],_::_,_,_,_,h,h'=>by simp only[az] at h h';subst h;obtain⟨_,_,e,_⟩:=h';cases e
 |_::_,[],_,_,_,h,h'=>by simp only[az] at h h';subst h';obtain⟨_,_,e,_⟩:=h;cases e
 |t::ts,u::us,_,p,pu,h,h'=>by simp only[az] at h h';simp only[cg,ij] at p pu;obtain⟨v,r,rfl,h1,h2⟩:=h;obtain⟨v',r',e,g1,g2⟩:=h';cases e;rw[At.inj I p.1 pu.1 h1 g1,az.inj I p.2 pu.2 h2 g2]
end
theorem ke:∀{ts:List T}{j:Nat}{x:T},ts[j]?=some x->dep x<=oC ts
 |[],_,_,h=>by simp at h
 |t::ts,0,x,h=>by simp at h;subst h;simp only[oC];lia
 |t::ts,j+1,x,h=>by have:=ke (ts:=ts) (j:=j) (x:=x) (by simpa using h);simp only[oC];lia
theorem cq:∀{ts:List T}{j:Nat}{x:T},cg ts=true->ts[j]?=some x->plainT x=true
 |[],_,_,_,h=>by simp at h
 |t::ts,0,x,p,h=>by simp at h;subst h;simp only[cg,ij] at p;exact p.1
 |t::ts,j+1,x,p,h=>by simp only[cg,ij] at p;exact cq (ts:=ts) (j:=j) p.2 (by simpa using h)
def in1_units(A:Around):A.in1.units=A.units+1:=by first|rfl|simp[Around.in1,Around.units]
def kf(I:Inv X ε σ H s){ts us:List T}{ws:qak}{aT jI:qag}(h1:az X.K H O ts vs)(h2:az X.K H O' us ws)(r1:Vals vs aT)(r2:Vals ws jI)(key:∀(j:Nat) x y v w u u',ts[j]?=some x->us[j]?=some y->At X.K H O x v->At X.K H O' y w->RelV v u->RelV w u'->SeqAt.EqAt A s u u' (eqT x y)) :
  ∀(j:Nat)(g1:j<aT.toArray.size)(g2:j<jI.toArray.size),SeqAt.EqAt A s aT.toArray[j] jI.toArray[j] (match ts[j]?,us[j]? with
   |some x,some y=>eqT x y
   |_,_=>true):=λj g1 g2=>by
 have l1:=h1.length;have l2:=h2.length;have m1:=r1.length;have m2:=r2.length;simp only[gU] at g1 g2;have e1:ts[j]?=some (ts[j]'(by lia)):=by simp
 have e2:us[j]?=some (us[j]'(by lia)):=by simp
 obtain⟨v,a1,a2⟩:=h1.get e1;obtain⟨w,b1,b2⟩:=h2.get e2;obtain⟨u,c1,c2⟩:=r1.get a1;obtain⟨u',d1,d2⟩:=r2.get b1;have f1:aT.toArray[j]=u:=by rw[jj (by lia)] at c1;simpa using c1
 have f2:jI.toArray[j]=u':=by rw[jj (by lia)] at d1;simpa using d1
 rw[f1,f2,e1,e2];exact key j _ _ v w u u' e1 e2 a2 b2 c2 d2
def oF{O:Ω}(I:Inv X ε σ H s){u:T}{w:V}{b:Value}(pu:plainT u=true)(hw:At X.K H O u w)(r:RelV w b):(u=.bB/\b=.none)\/(∃c,u=.bl c/\b=.bool c)\/(∃c t,u=.int c/\b=.int c t)\/(∃c t,u=.str c/\b=.str c t)\/(∃l p xs,u=.tup l/\b=.ref p/\s.heap.IsTuple p xs)\/∃l p xs,u=.lst l/\b=.ref p/\s.heap.IsList p xs:=by
 cases u with
 |tup l=>simp only[At] at hw;obtain⟨p,ws,rfl,q,_⟩:=hw;cases r;obtain⟨_,_,p1,_⟩:=I.tuple q;exact .inr (.inr (.inr (.inr (.inl ⟨l,p,_,rfl,rfl,p1⟩))))
 |lst l=>simp only[At] at hw;obtain⟨p,ws,rfl,q,_⟩:=hw;cases r;obtain⟨_,_,p1,_⟩:=I.list q.sq;exact .inr (.inr (.inr (.inr (.inr ⟨l,p,_,rfl,rfl,p1.isList⟩))))
 |bB=>simp only[At] at hw;subst hw;cases r;exact .inl ⟨rfl,rfl⟩
 |bl c=>simp only[At] at hw;subst hw;cases r;exact .inr (.inl ⟨c,rfl,rfl⟩)
 |int c=>simp only[At] at hw;subst hw;obtain⟨t,rfl⟩:=r;exact .inr (.inr (.inl ⟨c,t,rfl,rfl⟩))
 |str c=>simp only[At] at hw;subst hw;obtain⟨t,rfl⟩:=r;exact .inr (.inr (.inr (.inl ⟨c,t,rfl,rfl⟩)))
 |_=>simp only[plainT] at pu;cases pu
def An(I:Inv X ε σ H s){t u:T}{w:V}{a b:Value}(fS:A.units<cLine)(key:∀(x y:T) (v w:V) (a b:Value),dep x+1<=dep t->plainT x=true->plainT y=true->At X.K H O x v->At X.K H O' y w->RelV v a->RelV w b->SeqAt.EqAt A.in1 s a b (eqT x y))(pt:plainT t=true)(pu:plainT u=true)(ht:At X.K H O t v)(hw:At X.K H O' u w)(rv:RelV v a)(rw':RelV w b):SeqAt.RcAt A s a b (eqT t u):=by
 rcases oF I pt ht rv with⟨rfl,rfl⟩|⟨d,rfl,rfl⟩|⟨d,_,rfl,rfl⟩|⟨d,_,rfl,rfl⟩|⟨l,p,_,rfl,rfl,h⟩|⟨l,p,_,rfl,rfl,h⟩<;>rcases oF I pu hw rw' with⟨rfl,rfl⟩|⟨c,rfl,rfl⟩|⟨c,_,rfl,rfl⟩|⟨c,_,rfl,rfl⟩|⟨l',p',_,rfl,rfl,h'⟩|⟨l',p',_,rfl,rfl,h'⟩<;>simp only[eqT]
 exact .none_none;exact .none_bool _;exact .none_int _ _;exact .none_str _ _;exact .none_tuple h' fS;exact .none_list h' fS;exact .bool_none _;exact .bool_bool _ _;exact .bool_int _ _ _;exact .bool_str _ _ _;exact .bool_tuple _ h' fS;exact .bool_list _ h' fS;exact .int_none _ _;exact .int_bool _ _ _;exact .int_int _ _ _ _;exact .int_str _ _ _ _;exact .int_tuple _ _ h' fS;exact .int_list _ _ h' fS;exact .str_none _ _;exact .str_bool _ _ _;exact .str_int _ _ _ _;exact .str_str _ _ _ _;exact .str_tuple _ _ h' fS;exact .str_list _ _ h' fS;exact .tuple_none h fS;exact .tuple_bool _ h fS;exact .tuple_int _ _ h fS;exact .tuple_str _ _ h fS;simp only[plainT] at pt pu;simp only[At] at ht hw;obtain⟨_,vs,rfl,h1,h2⟩:=ht;obtain⟨_,ws,rfl,g1,g2⟩:=hw;cases rv;cases rw';have e3:=h2.length;have e4:=g2.length;obtain⟨aT,r1,p1,_⟩:=I.tuple h1;obtain⟨jI,r2,p2,_⟩:=I.tuple g1;have e1:=r1.length;have e2:=r2.length;have:=SeqAt.RcAt.tuples (A:=A) p1 p2 fS (kf I h2 g2 r1 r2 λj x y v w u u' e1 e2 a1 a2 b1 b2=>key x y v w u u' (ll (Nat.succ_le_succ (ke e1)) (by simp only[dep];lia)) (cq pt e1) (cq pu e2) a1 a2 b1 b2);simp only[gU] at this;rw[<- e1,<- e2,e3,e4] at this;rw[vV];exact this;exact .tuple_list h h' fS;exact .list_none h fS;exact .list_bool _ h fS;exact .list_int _ _ h fS;exact .list_str _ _ h fS;exact .list_tuple h h' fS;simp only[plainT] at pt pu;simp only[At] at ht hw;obtain⟨_,vs,rfl,h1,h2⟩:=ht;obtain⟨_,ws,rfl,g1,g2⟩:=hw;cases rv;cases rw';have e3:=h2.length;have e4:=g2.length;obtain⟨aT,r1,p1,_⟩:=I.list h1.sq;obtain⟨jI,r2,p2,_⟩:=I.list g1.sq;have e1:=r1.length;have e2:=r2.length;by_cases hl:l.length=l'.length;have:=SeqAt.RcAt.lists (A:=A) p1.isList p2.isList (by simp only[gU];lia) fS (kf I h2 g2 r1 r2 λj x y v w u u' e1 e2 a1 a2 b1 b2=>key x y v w u u' (ll (Nat.succ_le_succ (ke e1)) (by simp only[dep];lia)) (cq pt e1) (cq pu e2) a1 a2 b1 b2);simp only[gU] at this;rw[<- e1,e3] at this;rw[kc hl];exact this;have:fR l l'=false:=by
  cases q:fR l l' with
  |false=>rfl
  |true=>exact absurd (ka q) hl
 rw[this];exact SeqAt.RcAt.lists_lengths p1.isList p2.isList (by simp only[gU];rw[bne_iff_ne];lia) fS
theorem EF{a b:Value}{k:Bool}(h:SeqAt.RcAt A s a b k)(g:a=b->k=true)(f:∀x t,a≠.float x t):SeqAt.EqAt A s a b k:=λprog w E Q hq=>by
 unfold eqBool;refine aad (wpAny_ite_split (λe=>?_) λ_=>?_);rw[g (eq_of_beq e)] at hq;exact ζ (aak (θ hq));cases a with
 |float x t=>exact absurd rfl (f x t)
 |_=>exact ζ (h prog w E _ (Ξ hq))
def yK(I:Inv X ε σ H s)(n:Nat):∀(t u:T)(v w:V)(a b:Value)(A:Around),dep t<=n->A.units+n<cLine->plainT t=true->plainT u=true->At X.K H O t v->At X.K H O' u w->RelV v a->RelV w b->SeqAt.EqAt A s a b (eqT t u):=by
 induction n using Nat.strongRecOn with
 |_ n ih=>intro t u v w a b A hd hu pt pu ht hw rv rw';refine EF (An I (by lia) (λx y v w a b h=>?_) pt pu ht hw rv rw') (λe=>?_) λx t e=>?_;exact ih (n-1) (by lia) x y v w a b A.in1 (by lia) (by rw[in1_units];lia);subst e;cases rv.inj rw';cases At.inj I pt pu ht hw;exact oE _ pt;rcases oF I pt ht rv with⟨_,h⟩|⟨_,_,h⟩|⟨_,_,_,h⟩|⟨_,_,_,h⟩|⟨_,_,_,_,h,_⟩|⟨_,_,_,_,h,_⟩<;>cases e.symm.trans h
end
section
variable{X:Cx}{O O':Ω}
theorem Pn(I:Inv X ε σ H s)(t u:T)(v w:V)(a b:Value)(A:Around)(hd:dep t<=100)(hu:A.units+101<cLine)(pt:plainT t=true)(pu:plainT u=true)(ht:At X.K H O t v)(hw:At X.K H O' u w)(rv:RelV v a)(rw':RelV w b):SeqAt.RcAt A s a b (eqT t u) :=
 An I (by lia) (λx y v w a b h=>yK I 100 x y v w a b A.in1 (by lia) (by rw[in1_units];lia)) pt pu ht hw rv rw'
theorem Po(I:Inv X ε σ H s)(t u:T)(v w:V)(a b:Value)(A:Around)(hd:dep t<=100)(hu:A.units+101<cLine)(pt:plainT t=true)(pu:plainT u=true)(ht:At X.K H O t v)(hw:At X.K H O' u w)(rv:RelV v a)(rw':RelV w b):SeqAt.RcNeAt A s a b (!eqT t u):=by
 have fS:A.units<cLine:=by lia
 have je:A.in1.units+100<cLine:=by rw[in1_units];lia
 rcases oF I pt ht rv with⟨rfl,rfl⟩|⟨d,rfl,rfl⟩|⟨d,_,rfl,rfl⟩|⟨d,_,rfl,rfl⟩|⟨l,p,_,rfl,rfl,h⟩|⟨l,p,_,rfl,rfl,h⟩<;>rcases oF I pu hw rw' with⟨rfl,rfl⟩|⟨c,rfl,rfl⟩|⟨c,_,rfl,rfl⟩|⟨c,_,rfl,rfl⟩|⟨l',p',_,rfl,rfl,h'⟩|⟨l',p',_,rfl,rfl,h'⟩<;>simp only[eqT]
 exact .none_none;exact .none_bool _;exact .none_int _ _;exact .none_str _ _;exact .none_tuple h' fS;exact .none_list h' fS;exact .bool_none _;exact .bool_bool _ _;exact .bool_int _ _ _;exact .bool_str _ _ _;exact .bool_tuple _ h' fS;exact .bool_list _ h' fS;exact .int_none _ _;exact .int_bool _ _ _;exact .int_int _ _ _ _;exact .int_str _ _ _ _;exact .int_tuple _ _ h' fS;exact .int_list _ _ h' fS;exact .str_none _ _;exact .str_bool _ _ _;exact .str_int _ _ _ _;exact .str_str _ _ _ _;exact .str_tuple _ _ h' fS;exact .str_list _ _ h' fS;exact .tuple_none h fS;exact .tuple_bool _ h fS;exact .tuple_int _ _ h fS;exact .tuple_str _ _ h fS;simp only[plainT] at pt pu;simp only[dep] at hd;simp only[At] at ht hw;obtain⟨_,vs,rfl,h1,h2⟩:=ht;obtain⟨_,ws,rfl,g1,g2⟩:=hw;cases rv;cases rw';have e3:=h2.length;have e4:=g2.length;obtain⟨aT,r1,p1,_⟩:=I.tuple h1;obtain⟨jI,r2,p2,_⟩:=I.tuple g1;have e1:=r1.length;have e2:=r2.length;have:=SeqAt.RcNeAt.tuples (A:=A) p1 p2 fS (kf I h2 g2 r1 r2 λj x y v w u u' e1 e2 a1 a2 b1 b2=>yK I 100 x y v w u u' A.in1 (ll (ke e1) (by lia)) je (cq pt e1) (cq pu e2) a1 a2 b1 b2);simp only[gU] at this;rw[<- e1,<- e2,e3,e4] at this;rw[vV];exact this;exact .tuple_list h h' fS;exact .list_none h fS;exact .list_bool _ h fS;exact .list_int _ _ h fS;exact .list_str _ _ h fS;exact .list_tuple h h' fS;simp only[plainT] at pt pu;simp only[dep] at hd;simp only[At] at ht hw;obtain⟨_,vs,rfl,h1,h2⟩:=ht;obtain⟨_,ws,rfl,g1,g2⟩:=hw;cases rv;cases rw';have e3:=h2.length;have e4:=g2.length;obtain⟨aT,r1,p1,_⟩:=I.list h1.sq;obtain⟨jI,r2,p2,_⟩:=I.list g1.sq;have e1:=r1.length;have e2:=r2.length;by_cases hl:l.length=l'.length;have:=SeqAt.RcNeAt.lists (A:=A) p1.isList p2.isList (by simp only[gU];lia) fS (kf I h2 g2 r1 r2 λj x y v w u u' e1 e2 a1 a2 b1 b2=>yK I 100 x y v w u u' A.in1 (ll (ke e1) (by lia)) je (cq pt e1) (cq pu e2) a1 a2 b1 b2);simp only[gU] at this;rw[<- e1,e3] at this;rw[kc hl];exact this;have:fR l l'=false:=by
  cases q:fR l l' with
  |false=>rfl
  |true=>exact absurd (ka q) hl
 rw[this];exact SeqAt.RcNeAt.lists_lengths p1.isList p2.isList (by simp only[gU];rw[bne_iff_ne];lia) fS
def gi.bare{A:Ω}{t:T}(h:gi K H A t v):At K H [] t v:=by
 obtain h|⟨a,rfl,h⟩:=h
 exact At.bj (O':=[]) (λ_ z=>absurd z fE) h;exact (cL.bj (A':=[]) h (λ_ z=>absurd z fE)).at fE
noncomputable def JM(K:zm)(neg:Bool):R2:=λx y H Q=>∃t u,At K H [] t x/\At K H [] u y/\plainT t=true/\plainT u=true/\dep t<=100/\Q (.bl (if neg then !eqT t u else eqT t u)) H
def EG(hu:X.A.units+101<cLine):eM X (compareOp .Eq) (JM X.K false):=by intro ε s σ H x y v u Q I rx ry ⟨t,t',h1,h2,p1,p2,d,q⟩;exact Pn I t t' x y v u X.A d hu p1 p2 h1 h2 rx ry X.prog X.w X.xe _ ⟨.bl _,H,I,rfl,q⟩
def EH(hu:X.A.units+101<cLine):eM X (compareOp .NotEq) (JM X.K true):=by intro ε s σ H x y v u Q I rx ry ⟨t,t',h1,h2,p1,p2,d,q⟩;exact Po I t t' x y v u X.A d hu p1 p2 h1 h2 rx ry X.prog X.w X.xe _ ⟨.bl _,H,I,rfl,q⟩
end
def Uc(x y:T)(q:Rt->Prop):Prop:=match x,y with
 |.int i,.int j=>q (.vw (.bl (decide (i=j))))
 |.str i,.str j=>q (.vw (.bl (decide (i=j))))
 |.bl i,.bl j=>q (.vw (.bl (decide (i=j))))
 |x,y=>plainT x=true/\plainT y=true/\dep x<=100/\q (.vw (.bl (eqT x y)))
def MT(x y:T)(q:Rt->Prop):Prop:=match x,y with
 |.int i,.int j=>q (.vw (.bl (!decide (i=j))))
 |.str i,.str j=>q (.vw (.bl (!decide (i=j))))
 |.bl i,.bl j=>q (.vw (.bl (!decide (i=j))))
 |x,y=>plainT x=true/\plainT y=true/\dep x<=100/\q (.vw (.bl (!eqT x y)))
def JN{x y:T}{q:Rt->Prop}(h:Uc x y q):plainT x=true/\plainT y=true/\dep x<=100/\q (.vw (.bl (eqT x y))):=by
 unfold Uc at h;split at h;exact⟨rfl,rfl,h_ _,by simp only[eqT,WX];exact h⟩;refine⟨rfl,rfl,h_ _,?_⟩;have e:∀i j:Str,(i==j)=decide (i=j):=λi j=>by rw[Bool.eq_iff_iff];simp
 simp only[eqT,e];exact h;exact⟨rfl,rfl,h_ _,by simp only[eqT,WX];exact h⟩;exact h
def JO{x y:T}{q:Rt->Prop}(h:MT x y q):plainT x=true/\plainT y=true/\dep x<=100/\q (.vw (.bl (!eqT x y))):=by
 unfold MT at h;split at h;exact⟨rfl,rfl,h_ _,by simp only[eqT,WX];exact h⟩;refine⟨rfl,rfl,h_ _,?_⟩;have e:∀i j:Str,(i==j)=decide (i=j):=λi j=>by rw[Bool.eq_iff_iff];simp
 simp only[eqT,e];exact h;exact⟨rfl,rfl,h_ _,by simp only[eqT,WX];exact h⟩;exact h
def EI:nD K (JM K false) Uc:=by intro Z tm O ρ σ H x y v w q Q I h1 h2 h k;obtain⟨p1,p2,d,h⟩:=JN h;exact⟨x,y,h1.bare,h2.bare,p1,p2,d,k _ h _ H (aL.refl H) ⟨I,by rw[η ja];exact dC⟩⟩
def EJ:nD K (JM K true) MT:=by intro Z tm O ρ σ H x y v w q Q I h1 h2 h k;obtain⟨p1,p2,d,h⟩:=JO h;exact⟨x,y,h1.bare,h2.bare,p1,p2,d,k _ h _ H (aL.refl H) ⟨I,by rw[ι rfl];exact dC⟩⟩
def Ud(g:Int->Int->Bool)(x y:T)(q:Rt->Prop):Prop:=match x,y with
 |.int i,.int j=>q (.vw (.bl (g i j)))
 |_,_=>False
def Pp(x y:T)(q:Rt->Prop):Prop:=match x,y with
 |.int i,.int j=>q (.vw (.int (i-j)))
 |_,_=>False
def JP:nD K (qa λi j=>.int (i-j)) Pp:=by intro Z tm O ρ σ H x y v w q Q I h1 h2 h k;unfold Pp at h;split at h;exact⟨_,_,h1.int,h2.int,k _ h _ H (aL.refl H) ⟨I,bE⟩⟩;exact h.elim
def Pq(x y:T)(q:Rt->Prop):Prop:=match x,y with
 |.int i,.int j=>Eb i j/\q (.vw (.int (i * j)))
 |_,_=>False
def JQ:nD K (rI Eb λi j=>.int (i * j)) Pq:=by intro Z tm O ρ σ H x y v w q Q I h1 h2 h k;unfold Pq at h;split at h;exact⟨_,_,h1.int,h2.int,h.1,k _ h.2 _ H (aL.refl H) ⟨I,bE⟩⟩;exact h.elim
def Pr(x y:T)(q:Rt->Prop):Prop:=match x,y with
 |.int i,.int j=>(0<j/\j<1073741824)/\q (.vw (.int (i / j)))
 |_,_=>False
def JR:nD K (rI Tf λi j=>.int (i / j)) Pr:=by intro Z tm O ρ σ H x y v w q Q I h1 h2 h k;unfold Pr at h;split at h;exact⟨_,_,h1.int,h2.int,h.1,k _ h.2 _ H (aL.refl H) ⟨I,bE⟩⟩;exact h.elim
def Pt(x y:T)(q:Rt->Prop):Prop:=match x,y with
 |.int i,.int j=>0<j/\q (.vw (.int (i % j)))
 |_,_=>False
def JS:nD K (rI (λ_ j=>0<j) λi j=>.int (i % j)) Pt:=by intro Z tm O ρ σ H x y v w q Q I h1 h2 h k;unfold Pt at h;split at h;exact⟨_,_,h1.int,h2.int,h.1,k _ h.2 _ H (aL.refl H) ⟨I,bE⟩⟩;exact h.elim
def Pu(x y:T)(q:Rt->Prop):Prop:=match x,y with
 |.int i,.int j=>(0<=j/\j<=1000000/\i.natAbs<2 ^ 64)/\q (.vw (.int (i ^ j.toNat)))
 |_,_=>False
def JT:nD K (rI Ji λi j=>.int (i ^ j.toNat)) Pu:=by intro Z tm O ρ σ H x y v w q Q I h1 h2 h k;unfold Pu at h;split at h;exact⟨_,_,h1.int,h2.int,h.1,k _ h.2 _ H (aL.refl H) ⟨I,bE⟩⟩;exact h.elim
def Pw(x y:T)(q:Rt->Prop):Prop:=match x,y with
 |.int i,.int j=>(0<=j/\j<=1000000/\i.natAbs<2 ^ 64)/\q (.vw (.int (i * 2 ^ j.toNat)))
 |_,_=>False
def JU:nD K (rI Ji λi j=>.int (i * 2 ^ j.toNat)) Pw:=by intro Z tm O ρ σ H x y v w q Q I h1 h2 h k;unfold Pw at h;split at h;exact⟨_,_,h1.int,h2.int,h.1,k _ h.2 _ H (aL.refl H) ⟨I,bE⟩⟩;exact h.elim
def Px(x y:T)(q:Rt->Prop):Prop:=match x,y with
 |.int i,.int j=>0<=j/\q (.vw (.int (i / 2 ^ j.toNat)))
 |_,_=>False
def JV:nD K (rI (λ_ j=>0<=j) λi j=>.int (i / 2 ^ j.toNat)) Px:=by intro Z tm O ρ σ H x y v w q Q I h1 h2 h k;unfold Px at h;split at h;exact⟨_,_,h1.int,h2.int,h.1,k _ h.2 _ H (aL.refl H) ⟨I,bE⟩⟩;exact h.elim
def EK(x y:T)(q:Rt->Prop):Prop:=match x,y with
 |.int i,.int j=>q (.vw (.int (Builtin.bitAnd i j)))
 |_,_=>False
def EL:nD K (qa λi j=>.int (Builtin.bitAnd i j)) EK:=by intro Z tm O ρ σ H x y v w q Q I h1 h2 h k;unfold EK at h;split at h;exact⟨_,_,h1.int,h2.int,k _ h _ H (aL.refl H) ⟨I,bE⟩⟩;exact h.elim
def sT(x y:T)(q:Rt->Prop):Prop:=match x,y with
 |.int i,.int j=>q (.vw (.int (Builtin.bitOr i j)))
 |_,_=>False
def Ao:nD K (qa λi j=>.int (Builtin.bitOr i j)) sT:=by intro Z tm O ρ σ H x y v w q Q I h1 h2 h k;unfold sT at h;split at h;exact⟨_,_,h1.int,h2.int,k _ h _ H (aL.refl H) ⟨I,bE⟩⟩;exact h.elim
def Ze(x y:T)(q:Rt->Prop):Prop:=match x,y with
 |.int i,.int j=>q (.vw (.bl (decide (i<j))))
 |_,_=>False
def Py:nD K (qa λi j=>.bl (decide (i<j))) Ze:=by intro Z tm O ρ σ H x y v w q Q I h1 h2 h k;unfold Ze at h;split at h;exact⟨_,_,h1.int,h2.int,k _ h _ H (aL.refl H) ⟨I,dC⟩⟩;exact h.elim
def Zf(x y:T)(q:Rt->Prop):Prop:=match x,y with
 |.int i,.int j=>q (.vw (.bl (decide (j<i))))
 |_,_=>False
def Pz:nD K (qa λi j=>.bl (decide (j<i))) Zf:=by intro Z tm O ρ σ H x y v w q Q I h1 h2 h k;unfold Zf at h;split at h;exact⟨_,_,h1.int,h2.int,k _ h _ H (aL.refl H) ⟨I,dC⟩⟩;exact h.elim
def MU(x y:T)(q:Rt->Prop):Prop:=match x,y with
 |.int i,.int j=>q (.vw (.int (i+j)))
 |_,_=>False
def EM:nD K (qa λi j=>.int (i+j)) MU:=by intro Z tm O ρ σ H x y v w q Q I h1 h2 h k;unfold MU at h;split at h;exact⟨_,_,h1.int,h2.int,k _ h _ H (aL.refl H) ⟨I,bE⟩⟩;exact h.elim
def MV(K:zm):R2:=λx y H Q=>∃l b xs zs,x=.ref l/\y=.ref b/\fG K H l xs/\fG K H b zs/\xs.length+zs.length<=sizeLine/\∀p,H p=none->Q (.ref p) (upd H p (.lst (xs++zs)))
def MW(K:zm):R2:=λx y H Q=>∃a b xs ys,x=.ref a/\y=.ref b/\dS K H a xs/\dS K H b ys/\xs.length+ys.length<=sizeLine/\(xs=[]->Q (.ref b) H)/\(xs≠[]->ys=[]->Q (.ref a) H)/\(xs≠[]->ys≠[]->∀p,H p=none->Q (.ref p) (upd H p (.tup (xs++ys))))
section
variable{X:Cx}
theorem JW:eM X (binaryOp .Add) (MV X.K):=by
 intro ε s σ H x y v u Q I rx ry h;obtain⟨l,b,xs,zs,rfl,rfl,hH,hB,hz,q⟩:=h;cases rx;cases ry;obtain⟨aT,r,p1,z1⟩:=I.list hH;obtain⟨jI,r2,p2,z2⟩:=I.list hB;obtain⟨⟨cls,dd,data,sl⟩,n,ho,hc,_,hd⟩:=p1;obtain⟨⟨Tw,RZ,data2,R0⟩,n2,DH,Js,_,hd2⟩:=p2;subst hc hd Js hd2;have l1:=r.length;have l2:=r2.length;have e:aT.toArray++jI.toArray=(aT++jI).toArray:=by simp
 refine concat_meets ⟨_,ho,rfl⟩ ⟨_,DH,rfl⟩ noFill_list_add seq_list_add PySem.F.slot_list_add PySem.F.entry_list_add (PySem.F.args_list_add_2 _ _) (list_addW l b aT.toArray jI.toArray n n2 dd RZ sl R0 (by simp only[gU];lia)) ⟨ho,DH,?_⟩;rw[e];exact⟨.ref _,_,I.TL (r.append r2) (by rw[nX];lia),rfl,q _ I.fresh⟩
def JX:eM X (binaryOp .Add) (MW X.K):=by
 intro ε s σ H x y v u Q I rx ry h;obtain⟨a,b,xs,ys,rfl,rfl,ha,hb,hz,q0,q1,q2⟩:=h;cases rx;cases ry;obtain⟨aT,r1,p1,_⟩:=I.tuple ha;obtain⟨jI,r2,p2,_⟩:=I.tuple hb;by_cases hx:xs=[];obtain⟨⟨cls,dd,data,sl⟩,ho,hc,n,hd⟩:=id p1;obtain⟨⟨Tw,RZ,data2,R0⟩,DH,Js,n2,hd2⟩:=id p2;subst hc hd Js hd2;exact concat_meets ⟨_,ho,rfl⟩ ⟨_,DH,rfl⟩ noFill_tuple_add seq_tuple_add X' X_ (X9 _ _)
  (tuple_addW0 a b aT.toArray jI.toArray n n2 dd RZ sl R0 (by simp[r1.gC.mpr hx])) ⟨ho,DH,⟨.ref b,H,I,rfl,q0 hx⟩⟩
 refine HT.Jr p1 p2 (λz=>hx (r1.gC.mp z)) (λz=>⟨.ref a,H,I,rfl,q1 hx (r2.gC.mp z)⟩) (λz=>⟨.ref s.heap.objs.size,_,I.laid (λb ob q=>dR _ q) (cc _) ?_,rfl,q2 hx (λw=>z (r2.gC.mpr w)) _ (I.bF.fresh (cc _))⟩) (by rw[<- r1.length,<- r2.length];exact hz);exact⟨by rw[nX];exact hz,_,r1.append r2,IsTup.new _ _⟩
end
def MX(K:zm):R2:=λx y H Q=>qa (λi j=>.int (i+j)) x y H Q\/(λx y H Q=>∃i j,x=.str i/\y=.str j/\i.length+j.length<=sizeLine/\Q (.str (i++j)) H) x y H Q\/MV K x y H Q\/MW K x y H Q
def JY{X:Cx}:eM X (binaryOp .Add) (MX X.K):=eM.or OD (eM.or yp (eM.or JW JX))
def PB(x y:T)(q:Rt->Prop):Prop:=match x,y with
 |.int i,.int j=>q (.vw (.int (i+j)))
 |.str i,.str j=>i.length+j.length<=sizeLine/\q (.vw (.str (i++j)))
 |.lst a,.lst b=>a.length+b.length<=sizeLine/\q (.fr (.lst (a++b)))
 |.tup a,.tup b=>a.length+b.length<=sizeLine/\q (.vw (.tup (a++b)))
 |_,_=>False
def JZ:nD K (MX K) PB:=by
 intro Z tm O ρ σ H x y v w q Q I h1 h2 h k;unfold PB at h;split at h;exact .inl ⟨_,_,h1.int,h2.int,k _ h _ H (aL.refl H) ⟨I,bE⟩⟩;exact .inr (.inl ⟨_,_,h1.str,h2.str,h.1,k _ h.2 _ H (aL.refl H) ⟨I,dF⟩⟩);obtain⟨a,vs,rfl,s1,a1⟩:=h1.lst;obtain⟨b,ws,rfl,s2,a2⟩:=h2.lst;exact .inr (.inr (.inl ⟨a,b,vs,ws,rfl,rfl,s1,s2,by rw[a1.length,a2.length];exact h.1,λp hp=>k _ h.2 _ _ (aG hp) (I.yI hp (a1.append a2))⟩));obtain⟨a,vs,rfl,s1,a1⟩:=h1.tup;obtain⟨b,ws,rfl,s2,a2⟩:=h2.tup;refine .inr (.inr (.inr ⟨a,b,vs,ws,rfl,rfl,s1,s2,by rw[a1.length,a2.length];exact h.1,λe=>?_,λ_ e=>?_,λ_ _ p hp=>?_⟩));subst e;have e:=a1.length
 rename_i xs ys
 have e':=Mr.mp e.symm;subst e';exact k _ h.2 _ H (aL.refl H) ⟨I,cY s2 a2⟩;subst e;have e:=a2.length
 rename_i xs ys _
 have e':=Mr.mp e.symm;subst e';exact k _ h.2 _ H (aL.refl H) ⟨I,by rw[BH];exact cY s1 a1⟩;exact k _ h.2 _ _ (aG hp) ⟨I.same (aG hp),cY (dS.of aA) ((a1.append a2).same (aG hp))⟩;exact h.elim
section
variable{X:Cx}{Z:Zc}{a b:Expr}{pos:Pos}{fa fb:FE}
def cu(ha:VR X Z a fa)(hb:VR X Z b fb):VP X Z (.BinOp a .Add b pos) (f2 fa fb PB):=fQ JY JZ ha hb
def oG(ha:VR X Z a fa)(hb:VR X Z b fb):VP X Z (.BinOp a .Sub b pos) (f2 fa fb Pp):=fQ OE JP ha hb
def fU(ha:VR X Z a fa)(hb:VR X Z b fb):VP X Z (.BinOp a .Mult b pos) (f2 fa fb Pq):=fQ OF JQ ha hb
def bu(ha:VR X Z a fa)(hb:VR X Z b fb):VP X Z (.BinOp a .FloorDiv b pos) (f2 fa fb Pr):=fQ Jj JR ha hb
def bq(ha:VR X Z a fa)(hb:VR X Z b fb):VP X Z (.BinOp a .Mod b pos) (f2 fa fb Pt):=fQ OG JS ha hb
def lN(ha:VR X Z a fa)(hb:VR X Z b fb):VP X Z (.BinOp a .Pow b pos) (f2 fa fb Pu):=fQ OH JT ha hb
def EN(ha:VR X Z a fa)(hb:VR X Z b fb):VP X Z (.BinOp a .LShift b pos) (f2 fa fb Pw):=fQ OI JU ha hb
def yL(ha:VR X Z a fa)(hb:VR X Z b fb):VP X Z (.BinOp a .RShift b pos) (f2 fa fb Px):=fQ OJ JV ha hb
def J1(ha:VR X Z a fa)(hb:VR X Z b fb):VP X Z (.BinOp a .BitAnd b pos) (f2 fa fb EK):=fQ OL EL ha hb
def sU(ha:VR X Z a fa)(hb:VR X Z b fb):VP X Z (.BinOp a .BitOr b pos) (f2 fa fb sT):=fQ Tg Ao ha hb
def Zg(f:FE):FP:=λρ Q=>f ρ λx=>match x with
 |.int i=>Q (.vw (.int (-i)))
 |_=>False
def oH(ha:VR X Z a fa):VP X Z (.UnaryOp .USub a pos) (Zg fa):=.mk λtm=>PE.weak (Te ON (ha tm)) λσ H Q ⟨ρ,O,q,I,hf,k⟩=>⟨ρ,O,_,I,hf,λt ht v H1 s1 a1=>by split at ht;exact⟨_,a1.int,k _ ht _ H1 s1 ⟨I.same s1,bE⟩⟩;exact ht.elim⟩
def rj(hu:X.A.units+101<cLine)(ha:VR X Z a fa)(hb:VR X Z b fb):VP X Z (.Compare a [.Eq] [b] pos) (f2 fa fb Uc):=sS (EG hu) EI ha hb (gB _)
def Ue(hu:X.A.units+101<cLine)(ha:VR X Z a fa)(hb:VR X Z b fb):VP X Z (.Compare a [.NotEq] [b] pos) (f2 fa fb MT):=sS (EH hu) EJ ha hb (gB _)
def bz(hu:X.A.units+101<cLine)(ha:VR X Z a fa)(hb:VR X Z b fb):VC X Z (.Compare a [.Eq] [b] pos) (lH (f2 fa fb Uc)):=jH (EG hu) EI ha hb (gB _)
def kh(hu:X.A.units+101<cLine)(ha:VR X Z a fa)(hb:VR X Z b fb):VC X Z (.Compare a [.NotEq] [b] pos) (lH (f2 fa fb MT)):=jH (EH hu) EJ ha hb (gB _)
def mV(ha:VR X Z a fa)(hb:VR X Z b fb):VC X Z (.Compare a [.Lt] [b] pos) (lH (f2 fa fb Ze)):=jH Th Py ha hb (gB _)
def vX(ha:VR X Z a fa)(hb:VR X Z b fb):VC X Z (.Compare a [.Gt] [b] pos) (lH (f2 fa fb Zf)):=jH Ti Pz ha hb (gB _)
def f3(fa fb fc:FE)(p p':T->T->(Rt->Prop)->Prop):FP:=λρ Q=>fa ρ λx=>fb ρ λy=>p x y λr=>match r with
 |.vw (.bl true)=>fc ρ λz=>p' y z Q
 |.vw (.bl false)=>Q (.vw (.bl false))
 |_=>False
end
def EO{A:Ω}{ts:List T}{i:Int}{t:T}(h:az K H A ts vs)(e:jc ts i=some t):∃v,jc vs i=some v/\At K H A t v:=by
 unfold jc at e ⊢;rw[h.length];cases q:yb ts.length i with
 |none=>rw[q] at e;cases e
 |some j=>rw[q] at e;obtain⟨v,h1,h2⟩:=h.get e;exact⟨v,h1,h2⟩
def R7(x y:T)(q:Rt->Prop):Prop:=match x,y with
 |.lst ts,.int i=>∃t,jc ts i=some t/\q (.vw t)
 |.tup ts,.int i=>∃t,jc ts i=some t/\q (.vw t)
 |.str z,.int i=>z.length<=sizeLine/\∃c,jc z.cps.toList i=some c/\q (.vw (.str ⟨#[c]⟩))
 |_,_=>False
def PC:nD K (rIx K) R7:=by intro Z tm O ρ σ H x y v w q Q I h1 h2 h k;unfold R7 at h;split at h;obtain⟨t,e,h⟩:=h;obtain⟨a,vs,rfl,s1,a1⟩:=h1.lst;obtain⟨u,e',a2⟩:=EO a1 e;exact .inl ⟨a,vs,_,u,rfl,h2.int,s1,e',k _ h _ H (aL.refl H) ⟨I,a2⟩⟩;obtain⟨t,e,h⟩:=h;obtain⟨a,vs,rfl,s1,a1⟩:=h1.tup;obtain⟨u,e',a2⟩:=EO a1 e;exact .inr (.inl ⟨a,vs,_,u,rfl,h2.int,s1,e',k _ h _ H (aL.refl H) ⟨I,a2⟩⟩);obtain⟨hz,c,e,h⟩:=h;exact .inr (.inr ⟨_,_,c,h1.str,h2.int,hz,e,k _ h _ H (aL.refl H) ⟨I,dF⟩⟩);exact h.elim
section
variable{X:Cx}{Z:Zc}{a b:Expr}{pos:Pos}{fa fb:FE}
def ay(ha:VR X Z a fa)(hb:VR X Z b fb)(hs:nB b:=by exact λ_ _=>rfl):VP X Z (.Subscript a b pos) (f2 fa fb R7) :=
 .mk λtm=>PE.weak (Eo OY (ha tm) (hb tm) hs) (two PC)
end
abbrev FO:=En->(Option Int->Prop)->Prop
def lO(X:Cx)(Z:Zc)(tm:List (T×V))(f:FO):TO:=λσ H Q=>∃ρ O q,au X.K Z tm O ρ σ H/\f ρ q/\∀o,q o->∀H',aL H H'->Q o H'
def VO(X:Cx)(Z:Zc)(e:Option Expr)(f:FO):Prop:=Bx λtm=>PO X e (lO X Z tm f)
instance{X:Cx}{Z:Zc}{e:Option Expr}{f:FO}:CoeFun (VO X Z e f) λ_=>∀tm,PO X e (lO X Z tm f):=⟨λh=>Bx.h h⟩
def PO.weak{X:Cx}{e:Option Expr}{t t':TO}(h:PO X e t)(hw:∀σ H Q,t' σ H Q->t σ H Q):PO X e t':=λε s σ H Q I q=>h ε s σ H Q I (hw _ _ _ q)
def fO0:FO:=λ_ Q=>Q none
def fO1(f:FE):FO:=λρ Q=>f ρ λt=>match t with
 |.int i=>Q (some i)
 |_=>False
noncomputable def qt{α:Type}(xs:List α)(lo hi:Option Int):List α:=(xs.drop (HT.dU xs.length 0 lo)).take (HT.dU xs.length xs.length hi-HT.dU xs.length 0 lo)
def az.cut{A:Ω}{ts:List T}(h:az K H A ts vs)(lo hi:Option Int):az K H A (qt ts lo hi) (B1 vs lo hi):=by unfold qt B1;rw[h.length];exact (h.drop _).take _
def Zh(K:zm):V->Option Int->Option Int->Hp->VK->Prop:=λx lo hi H Q=>TK K x lo hi H Q\/TB K x lo hi H Q\/T8 x lo hi H Q
def Zi{X:Cx}:El X (Zh X.K):=El.or Jz (El.or OW Pf)
def pSl(x:T)(lo hi:Option Int)(q:Rt->Prop):Prop:=match x with
 |.lst ts=>q (.fr (.lst (qt ts lo hi)))
 |.tup ts=>¬ (HT.dU ts.length 0 lo=0/\HT.dU ts.length ts.length hi=ts.length)/\q (.vw (.tup (qt ts lo hi)))
 |.str z=>z.length<=sizeLine/\q (.vw (.str (Txt.slice z lo hi)))
 |_=>False
def fSl(fa:FE)(fl fh:FO):FP:=λρ Q=>fa ρ λx=>fl ρ λlo=>fh ρ λhi=>pSl x lo hi Q
section
variable{X:Cx}{Z:Zc}{a b:Expr}{lo hi:Option Expr}{pos:Pos}{fa:FE}{fl fh:FO}
def Ap:VO X Z none fO0:=.mk λtm=>PO.weak Jv λσ H Q ⟨ρ,O,q,I,hf,k⟩=>k _ hf H (aL.refl H)
def iS(h:VR X Z e fa):VO X Z (some e) (fO1 fa):=.mk λtm=>PO.weak (Jw (h tm)) λσ H Q ⟨ρ,O,q,I,hf,k⟩=>⟨ρ,O,_,I,hf,λt ht v H' s z=>by split at ht;exact⟨_,z.int,k _ ht H' s⟩;exact ht.elim⟩
def ki(he:VR X Z e fa)(hl:VO X Z lo fl)(hh:VO X Z hi fh):VP X Z (.Subscript e (.Slice lo hi none p2) pos) (fSl fa fl fh) :=
 .mk λtm=>PE.weak (Em Zi (he tm) (hl tm) (hh tm)) λσ H Q ⟨ρ,O,q,I,hf,k⟩=>⟨ρ,O,_,I,hf,λx hx v H1 s1 a1=>⟨ρ,O,_,I.same s1,hx,λl hl H2 s2=>⟨ρ,O,_,(I.same s1).same s2,hl,λu hu H3 s3=>by have J:=((I.same s1).same s2).same s3;have a3:=(a1.same s2).same s3;have S:=(s1.trans s2).trans s3;unfold pSl at hu;split at hu;obtain⟨p,vs,rfl,q1,q2⟩:=a3.lst;exact .inl ⟨p,vs,rfl,q1,λr hr=>k _ hu _ _ (S.trans (aG hr)) (J.yI hr (q2.cut _ _))⟩;obtain⟨p,vs,rfl,q1,q2⟩:=a3.tup;refine .inr (.inl ⟨p,vs,rfl,q1,by rw[q2.length];exact hu.1,λr hr=>k _ hu.2 _ _ (S.trans (aG hr)) ⟨J.same (aG hr),cY (dS.of aA) ((q2.cut _ _).same (aG hr))⟩⟩);exact .inr (.inr ⟨_,a3.str,hu.1,k _ hu.2 _ H3 S ⟨J,dF⟩⟩);exact hu.elim⟩⟩⟩
end
def MY(g:FA)(p:List T->(Rt->Prop)->Prop):FP:=λρ Q=>g ρ λts=>p ts Q
def jq(K:zm)(r:qak->Hp->VK->Prop)(p:List T->(Rt->Prop)->Prop):Prop :=
 ∀(Z:Zc)(tm:List (T×V))(O:HD)(ρ:En)(σ:St)(H:Hp)(ts:List T)(vs:qak)(q:Rt->Prop)(Q:VK),au K Z tm O ρ σ H->Paired (λv t=>gi K H (av Z O) t v) vs ts->p ts q ->
  (∀t,q t->∀u H',aL H H'->g8 K Z tm O ρ σ H' t u->Q u H')->r vs H Q
section
variable{X:Cx}{Z:Zc}{a b:Expr}{pos:Pos}{g:FA}{id Ty:String}{r:qak->Hp->VK->Prop}{pp:List T->(Rt->Prop)->Prop}
def aY(hc:c0 X (.builtin id) r)(ht:jq X.K r pp)(hg:Gl X x)(hm:X.mg x=none)(hv:bootBuiltins x=some (.builtin id))(ha:R6 X Z (e::es) g)(hn:x≠"__name__":=by decide)(qk:f7 x:=by decide)(hs:starEach (e::es) X.env=(false,eval e X.env)::starEach es X.env:=by rfl)(j7:(backTo pos (starEach es X.env)).any (·.1)=false:=by rfl):VP X Z (.Call (.Name x p) (e::es) [] pos) (MY g pp) :=
 .mk λtm=>PE.weak (oj hc hg hm hv (ha tm) hn qk hs j7) λσ H Q ⟨ρ,O,q,I,hf,k⟩=>⟨ρ,O,_,I,hf,λts f9 vs H1 s1 a1=>ht Z tm O ρ σ H1 ts vs q _ (I.same s1) a1 f9 λt h u H' s z=>k t h u H' (s1.trans s) z⟩
def gj(hc:c0 X (.type Ty) r)(ht:jq X.K r pp)(hg:Gl X x)(hm:X.mg x=none)(hv:bootBuiltins x=some (.type Ty))(ha:R6 X Z (e::es) g)(hn:x≠"__name__":=by decide)(qk:f7 x:=by decide)(hs:starEach (e::es) X.env=(false,eval e X.env)::starEach es X.env:=by rfl)(j7:(backTo pos (starEach es X.env)).any (·.1)=false:=by rfl):VP X Z (.Call (.Name x p) (e::es) [] pos) (MY g pp) :=
 .mk λtm=>PE.weak (B0 hc hg hm hv (ha tm) hn qk hs j7) λσ H Q ⟨ρ,O,q,I,hf,k⟩=>⟨ρ,O,_,I,hf,λts f9 vs H1 s1 a1=>ht Z tm O ρ σ H1 ts vs q _ (I.same s1) a1 f9 λt h u H' s z=>k t h u H' (s1.trans s) z⟩
end
def Ug(ts:List T)(q:Rt->Prop):Prop:=match ts with
 |[.lst l]=>q (.vw (.int l.length))
 |[.tup l]=>q (.vw (.int l.length))
 |[.str z]=>z.length<=sizeLine/\q (.vw (.int z.length))
 |_=>False
def MZ(K:zm):qak->Hp->VK->Prop:=λxs H Q=>(∃p ys,xs=[.ref p]/\(fG K H p ys\/dS K H p ys)/\Q (.int ys.length) H)\/(∃z,xs=[.str z]/\z.length<=sizeLine/\Q (.int z.length) H)
def ba{X:Cx}:c0 X (.builtin "len") (MZ X.K):=c0.or sJ sL
def cv{F:α->β->Prop}{vs:List α}{t:β}(h:Paired F vs [t]):∃v,vs=[v]/\F v t:=by
 cases h with
 |cons r q=>cases q;exact⟨_,rfl,r⟩
def bb:jq K (MZ K) Ug:=by intro Z tm O ρ σ H ts vs q Q I h hp k;unfold Ug at hp;split at hp;obtain⟨v,rfl,a⟩:=cv h;obtain⟨p,ws,rfl,q1,q2⟩:=a.lst;exact .inl ⟨p,ws,rfl,.inl q1,k _ hp _ H (aL.refl H) ⟨I,by rw[q2.length];exact bE⟩⟩;obtain⟨v,rfl,a⟩:=cv h;obtain⟨p,ws,rfl,q1,q2⟩:=a.tup;exact .inl ⟨p,ws,rfl,.inr q1,k _ hp _ H (aL.refl H) ⟨I,by rw[q2.length];exact bE⟩⟩;obtain⟨v,rfl,a⟩:=cv h;exact .inr ⟨_,by rw[a.str],hp.1,k _ hp.2 _ H (aL.refl H) ⟨I,bE⟩⟩;exact hp.elim
def M6(ts:List T)(q:Rt->Prop):Prop:=match ts with
 |[.lst l]=>q (.fr (.lst l))
 |[.tup l]=>q (.fr (.lst l))
 |_=>False
def yM:jq K (λxs H Q=>∃p ys,xs=[.ref p]/\(fG K H p ys\/dS K H p ys)/\∀l,H l=none->Q (.ref l) (upd H l (.lst ys))) M6:=by intro Z tm O ρ σ H ts vs q Q I h hp k;unfold M6 at hp;split at hp;obtain⟨v,rfl,a⟩:=cv h;obtain⟨p,ws,rfl,q1,q2⟩:=a.lst;exact⟨p,ws,rfl,.inl q1,λl hl=>k _ hp _ _ (aG hl) (I.yI hl q2)⟩;obtain⟨v,rfl,a⟩:=cv h;obtain⟨p,ws,rfl,q1,q2⟩:=a.tup;exact⟨p,ws,rfl,.inr q1,λl hl=>k _ hp _ _ (aG hl) (I.yI hl q2)⟩;exact hp.elim
def ER(ts:List T)(q:Rt->Prop):Prop:=match ts with
 |[.lst l]=>q (.vw (.tup l))
 |[.tup l]=>q (.vw (.tup l))
 |_=>False
def mW:jq K (λxs H Q=>∃p ys,xs=[.ref p]/\((fG K H p ys/\∀l,H l=none->Q (.ref l) (upd H l (.tup ys)))\/(dS K H p ys/\Q (.ref p) H))) ER:=by intro Z tm O ρ σ H ts vs q Q I h hp k;unfold ER at hp;split at hp;obtain⟨v,rfl,a⟩:=cv h;obtain⟨p,ws,rfl,q1,q2⟩:=a.lst;exact⟨p,ws,rfl,.inl ⟨q1,λl hl=>k _ hp _ _ (aG hl) ⟨I.same (aG hl),cY (dS.of aA) (q2.same (aG hl))⟩⟩⟩;obtain⟨v,rfl,a⟩:=cv h;obtain⟨p,ws,rfl,q1,q2⟩:=a.tup;exact⟨p,ws,rfl,.inr ⟨q1,k _ hp _ H (aL.refl H) ⟨I,cY q1 q2⟩⟩⟩;exact hp.elim
structure M7 where
 nx:En->Prop
 rt:En->Rt->Prop
 bk:En->Prop:=λ_=>False
 ct:En->Prop:=λ_=>False
structure Fin(K:zm)(Z:Zc)(tm:List (T×V))(d:M7)(D:Ends):Prop where
 nx:∀O ρ σ H,au K Z tm O ρ σ H->d.nx ρ->D.nx σ H
 rt:∀O ρ σ H r v,g8 K Z tm O ρ σ H r v->d.rt ρ r->D.rt v H
 bk:∀O ρ σ H,au K Z tm O ρ σ H->d.bk ρ->D.bk σ H
 ct:∀O ρ σ H,au K Z tm O ρ σ H->d.ct ρ->D.ct σ H
abbrev FS:=M7->En->Prop
def lS(X:Cx)(Z:Zc)(tm:List (T×V))(g:FS):TS:=λD σ H=>∃ρ O d,au X.K Z tm O ρ σ H/\g d ρ/\Fin X.K Z tm d D
def VS(X:Cx)(Z:Zc)(st:Stmt)(g:FS):Prop:=Bx λtm=>PS X st (lS X Z tm g)
instance{X:Cx}{Z:Zc}{st:Stmt}{g:FS}:CoeFun (VS X Z st g) λ_=>∀tm,PS X st (lS X Z tm g):=⟨λh=>Bx.h h⟩
def ir(X:Cx)(Z:Zc)(st:qaq)(g:FS):Prop:=Bx λtm=>iP X st (lS X Z tm g)
instance{X:Cx}{Z:Zc}{st:qaq}{g:FS}:CoeFun (ir X Z st g) λ_=>∀tm,iP X st (lS X Z tm g):=⟨λh=>Bx.h h⟩
def bh(Z:Zc)(i:Nat):Prop:=∀p∈Z.P,p.1≠i
section
variable{X:Cx}{Z:Zc}{st:Stmt}{g u:FS}{pos:Pos}
def Uh:FS:=λd ρ=>d.nx ρ
def Ui(g u:FS):FS:=λd ρ=>g {d with nx:=u d} ρ
def aI:ir X Z [] Uh:=.mk λtm=>iP.jn sA λD σ H ⟨ρ,O,d,I,h,F⟩=>F.nx O ρ σ H I h
def ag(h1:VS X Z st g)(h2:ir X Z rest u):ir X Z (st::rest) (Ui g u):=.mk λtm=>iP.jn (dh (h1 tm) (h2 tm)) λD σ H ⟨ρ,O,d,I,h,F⟩ =>
 ⟨ρ,O,{d with nx:=u d},I,h,⟨λO' ρ' σ' H' I' h'=>⟨ρ',O',d,I',h',F⟩,F.rt,F.bk,F.ct⟩⟩
def ak(h1:VS X Z st g):ir X Z [st] g:=.mk λtm=>j5 (h1 tm)
def ir.weak(h:ir X Z rest g)(hw:∀d ρ,u d ρ->g d ρ):ir X Z rest u:=.mk λtm=>iP.jn (h tm) λD σ H ⟨ρ,O,d,I,q,F⟩=>⟨ρ,O,d,I,hw d ρ q,F⟩
def Uj(f:FX):FS:=λd ρ=>f ρ λρ' _=>d.nx ρ'
def bp{f:FX}(h:VX X Z e f)(hs:swapsWith e none pos.line X.env=pure false:=by rfl):VS X Z (.Expr e pos) (Uj f):=.mk λtm=>PS.weak (sC (h tm) hs) λD σ H ⟨ρ,O,d,I,q,F⟩ =>
 ⟨ρ,O,_,I,q,λρ' r hr O' v H' z=>F.nx O' ρ' σ H' z.env hr⟩
def Zj(f:FX):FS:=λd ρ=>f ρ λρ' r=>d.rt ρ' r
def aH{f:FX}(h:VX X Z e f):VS X Z (.Return (some e) pos) (Zj f):=.mk λtm=>PS.weak (yk (h tm)) λD σ H ⟨ρ,O,d,I,q,F⟩ =>
 ⟨ρ,O,_,I,q,λρ' r hr O' v H' z=>F.rt O' ρ' σ H' r v z hr⟩
def gIf(c:FB)(g u:FS):FS:=λd ρ=>c ρ λb=>if b=true then g d ρ else u d ρ
def bf{fc:FB}{a b:qaq}(hc:VC X Z c fc)(ha:ir X Z a g)(hb:ir X Z b u):VS X Z (.If c a b pos) (gIf fc g u):=.mk λtm=>PS.weak (D8 (hc tm) (ha tm) (hb tm)) λD σ H ⟨ρ,O,d,I,q,F⟩ =>
 ⟨ρ,O,_,I,q,λb hb H' s=>by
  cases b with
  |true=>rw[ι rfl] at hb ⊢;exact⟨ρ,O,d,I.same s,hb,F⟩
  |false=>rw[η ja] at hb ⊢;exact⟨ρ,O,d,I.same s,hb,F⟩⟩
def PD(i:Nat)(f:FX):FS:=λd ρ=>f ρ λρ' r=>d.nx (ρ'.set i (some (r.t,false)))
def Zk(i:Nat)(f:FX):FS:=λd ρ=>f ρ λρ' r=>match r with
 |.fr t=>d.nx (ρ'.set i (some (t,true)))
 |_=>False
def aK{f:FX}(hN:X.N.Nodup)(hi:X.N[i]?=some x)(hx:Loc X.env.scope x)(he:VX X Z e f)(hp:bh Z i)(hs:swapsWith e (some (.Name x pos')) pos.line X.env=pure false:=by rfl)(hf:X.fn x=true\/X.env.scope.names.lookup x=some .local:=by first|exact .inl rfl|exact .inr rfl|assumption):VS X Z (.Assign [.Name x pos'] e pos) (PD i f):=.mk λtm=>PS.weak (n_ hN hi hx (he tm) hs hf) λD σ H ⟨ρ,O,d,I,q,F⟩ =>
 ⟨ρ,O,_,I,q,λρ' r hr O' v H' z=>F.nx _ _ _ H' (z.env.put hp z.at) hr⟩
def cJ{f:FX}(hN:X.N.Nodup)(hi:X.N[i]?=some x)(hx:Loc X.env.scope x)(he:VX X Z e f)(hp:bh Z i)(hs:swapsWith e (some (.Name x pos')) pos.line X.env=pure false:=by rfl)(hf:X.fn x=true\/X.env.scope.names.lookup x=some .local:=by first|exact .inl rfl|exact .inr rfl|assumption):VS X Z (.Assign [.Name x pos'] e pos) (Zk i f):=.mk λtm=>PS.weak (n_ hN hi hx (he tm) hs hf) λD σ H ⟨ρ,O,d,I,q,F⟩ =>
 ⟨ρ,O,_,I,q,λρ' r hr O' v H' z=>by split at hr;obtain⟨a,rfl,J,hR,h0,R3⟩:=z;exact F.nx _ _ _ H' (J.Y8 hp hR h0 R3) hr;exact hr.elim⟩
def Uk(i:Nat)(f:FE)(p:T->T->(Rt->Prop)->Prop):FS:=λd ρ=>match ρ[i]? with
 |some (some (x,false))=>f ρ λy=>p x y λr=>d.nx (ρ.set i (some (r.t,false)))
 |_=>False
def ES{f:FE}{op:Operator}{r:R2}{p:T->T->(Rt->Prop)->Prop}(hN:X.N.Nodup)(hi:X.N[i]?=some x)(hx:Loc X.env.scope x)(he:VR X Z e f)(ho:eM X (inplaceOp op) r)(ht:nD X.K r p)(hp:bh Z i)(hf:X.fn x=true\/X.env.scope.names.lookup x=some .local:=by first|exact .inl rfl|exact .inr rfl|assumption):VS X Z (.AugAssign (.Name x pos') op e pos) (Uk i f p):=.mk λtm=>PS.weak (Oy hN hi hx (he tm) ho hf) λD σ H ⟨ρ,O,d,I,q,F⟩=>by
 unfold Uk at q;split at q
 rename_i t e0
 obtain⟨o,s,h1,h2,rfl,v,rfl,h3⟩:=I.sl i _ e0;exact⟨v,h2,ρ,O,_,I,q,λy hy w H1 s1 a1=>ht Z tm O ρ σ H1 t y v w _ _ (I.same s1) (.inl (h3.same s1)) a1 hy λr hr z H2 s2 k=>F.nx _ _ _ H2 (k.env.put hp k.at) hr⟩;exact q.elim
def Zl(is:qao)(g:FS):FS:=λd ρ=>g d (is.foldl (λρ i=>match ρ[i]? with
 |some (some (t,true))=>ρ.set i (some (t,false))
 |_=>ρ) ρ)
theorem oI{K:zm}{tm:List (T×V)}:∀(is:qao){O:HD}{ρ:En}{σ:St}{H:Hp},(∀i∈is,bh Z i)->au K Z tm O ρ σ H->∃O',au K Z tm O' (is.foldl (λρ i=>match ρ[i]? with
 |some (some (t,true))=>ρ.set i (some (t,false))
 |_=>ρ) ρ) σ H
 |[],O,ρ,σ,H,_,I=>⟨O,I⟩
 |i::is,O,ρ,σ,H,hp,I=>by
  rw[RQ];have Pj:=λj hj=>hp j (gz _ hj);split
  rename_i t e
  exact oI is Pj (I.fF (hp i fB) e);exact oI is Pj I
def J_(is:qao)(h:ir X Z rest g)(hp:∀i∈is,bh Z i):ir X Z rest (Zl is g):=.mk λtm=>iP.jn (h tm) λD σ H ⟨ρ,O,d,I,q,F⟩=>let ⟨O',I'⟩:=oI is hp I;⟨_,O',d,I',q,F⟩
end
section
variable{X:Cx}{Z:Zc}{a b:Expr}{pos:Pos}
def au.root{tm:List (T×V)}{ρ:En}(I:au K Z tm O ρ σ H){k:Nat}{t:T}(e:ρ[k]?=some (some (t,true))):∃a,O[k]?=some (some a)/\σ[k]?=some (some (.ref a))/\cL K H (av Z O) a t:=by obtain⟨o,s,h1,h2,a,rfl,rfl,h3⟩:=I.sl k _ e;exact⟨a,h1,h2,h3⟩
def Aq(k:Nat)(g:FA)(p:List T->List T->(List T->T->Prop)->Prop):FX:=λρ Q=>match ρ[k]? with
 |some (some (.lst ts,true))=>g ρ λvs=>p ts vs λgy r=>Q (ρ.set k (some (.lst gy,true))) (.vw r)
 |_=>False
def Ul(K:zm)(r:V->qak->Hp->VK->Prop)(p:List T->List T->(List T->T->Prop)->Prop):Prop :=
 ∀(H:Hp)(A:Ω)(l:Addr)(xs:qak)(ts us:List T)(vs:qak)(q:List T->T->Prop)(Q:VK),l∈A->H l=some (.lst xs)->az K H A ts xs->az K H A us vs->p ts us q ->
  (∀gy t,q gy t->∀Xl v,az K H A gy Xl->At K H A t v->Q v (upd H l (.lst Xl)))->r (.ref l) vs H Q
def Ar{r:V->qak->Hp->VK->Prop}{p:List T->List T->(List T->T->Prop)->Prop}(hm:Ul X.K r p){k:Nat}{g:FA}{tm:List (T×V)}{Q:VK}(h:lX X Z tm (Aq k g p) σ H Q) :
  ∃l,σ[k]?=some (some (.ref l))/\(∃xs,fG X.K H l xs)/\lA X Z tm g σ H λvs H1=>r (.ref l) vs H1 Q:=by
 obtain⟨ρ,O,q,I,hf,kk⟩:=h;unfold Aq at hf;split at hf
 rename_i ts e0
 obtain⟨l,h1,h2,xs,h3,h4⟩:=I.root e0;refine⟨l,h2,⟨xs,fG.of h3⟩,ρ,O,_,I,hf,λus O7 vs H1 s1 a1=>?_⟩;have J:=I.same s1;have ha:l∈av Z O:=hX _ (aF.mpr (f_ h1));exact hm H1 (av Z O) l xs ts us vs _ Q ha (s1 _ _ h3) (h4.same s1) a1 O7 λgy t ht Xl v b1 b2=>kk _ _ ht O _ _ ⟨J.wrote e0 h1 ⟨Xl,aA,b1.wrote ha (s1 _ _ h3) rfl⟩,b2.wrote ha (s1 _ _ h3) rfl⟩;exact hf.elim
def cA(k:Nat){name:Str}{id:String}{g:FA}{r:V->qak->Hp->VK->Prop}{pp:List T->List T->(List T->T->Prop)->Prop}(slot:Slot "list" name id)(O5:typeOf (.builtin id)=pure (.type "method_descriptor"))(hm:MN X id r)(ht:Ul X.K r pp)(ha:VA X Z (e::es) g)(hN:X.N[k]?=some x:=by rfl)(hv:mP X.env.scope x:=by first|exact Or.inl rfl|exact Or.inr (.inl rfl)|exact Or.inr (.inr rfl))(hd:f7 x:=by decide)(fO:qd x:=by decide)(di:attributeBase (.Name x p) name X.env (eval (.Name x p) X.env)=eval (.Name x p) X.env:=by rfl)(yE:((backTo bG (starEach (e::es) X.env)).all (λx=>!x.1) && (backToKw bG (keywordEach [] X.env)).all (λx=>x.1.isSome)
    && decide ((e::es).length+([]:List Keyword).length+(if ([]:List Keyword).isEmpty then 0 else 1)<30))=true:=by rfl)(dj:(apos.endLine==bG.line)=true:=by rfl)(hs:starEach (e::es) X.env=(false,eval e X.env)::starEach es X.env:=by rfl)(jE:(backTo bG (starEach es X.env)).any (·.1)=false:=by rfl) :
  VX X Z (.Call (.Attribute (.Name x p) name apos) (e::es) [] bG) (Aq k g pp):=.mk λtm=>
 PE.weak (Ah WU slot O5 hm (bY hN hv hd fO) (ha tm) di yE dj hs jE) λσ H Q h=>
  let ⟨l,h1,h2,h3⟩:=Ar ht h;⟨.ref l,h1,.inl ⟨rfl,h2⟩,h3⟩
def ET(k:Nat){name:Str}{id:String}{r:V->qak->Hp->VK->Prop}{pp:List T->List T->(List T->T->Prop)->Prop}(slot:Slot "list" name id)(O5:typeOf (.builtin id)=pure (.type "method_descriptor"))(hm:MN X id r)(ht:Ul X.K r pp)(hN:X.N[k]?=some x:=by rfl)(hv:mP X.env.scope x:=by first|exact Or.inl rfl|exact Or.inr (.inl rfl)|exact Or.inr (.inr rfl))(hd:f7 x:=by decide)(fO:qd x:=by decide)(di:attributeBase (.Name x p) name X.env (eval (.Name x p) X.env)=eval (.Name x p) X.env:=by rfl)(dj:(apos.endLine==bG.line)=true:=by rfl):VX X Z (.Call (.Attribute (.Name x p) name apos) [] [] bG) (Aq k lL pp):=.mk λtm=>
 PE.weak (sN WU slot O5 hm (bY hN hv hd fO) di dj) λσ H Q h=>by obtain⟨l,h1,h2,ρ,O,q,I,hf,kk⟩:=Ar ht h;exact⟨.ref l,h1,.inl ⟨rfl,h2⟩,kk [] hf [] H (aL.refl H) az.nil⟩
def As(ts us:List T)(q:List T->T->Prop):Prop:=match us with
 |[t]=>ts.length<sizeLine/\q (ts++[t]) .bB
 |_=>False
def aO:Ul K Ai As:=by intro H A l xs ts us vs q Q hl hH h1 h2 hp k;unfold As at hp;split at hp;obtain⟨v,rfl,a⟩:=cv (az.iff.mp h2);exact⟨l,xs,v,rfl,rfl,hH,by rw[h1.length];exact hp.1,k _ _ hp.2 _ _ (h1.append (az.cons a az.nil)) sR⟩;exact hp.elim
def Zm(ts us:List T)(q:List T->T->Prop):Prop:=us=[]/\∃t,ts[ts.length-1]?=some t/\q ts.dropLast t
def az.dropLast{A:Ω}{ts:List T}(h:az K H A ts vs):az K H A ts.dropLast vs.dropLast:=by rw[List.dropLast_eq_take,List.dropLast_eq_take,h.length];exact h.take _
def Au:Ul K TM Zm:=by
 intro H A l xs ts us vs q Q hl hH h1 h2 hp k;obtain⟨rfl,t,e1,hq⟩:=hp;have e:vs=[]:=by simpa only[az] using h2
 obtain⟨v,e2,a⟩:=h1.get e1;exact⟨l,xs,v,rfl,e,hH,by rw[h1.length];exact e2,k _ _ hq _ _ h1.dropLast a⟩
noncomputable def M8(k:Nat)(f fi:FE):FS:=λd ρ=>match ρ[k]? with
 |some (some (.lst ts,true))=>f ρ λv=>fi ρ λi=>match i with
  |.int j=>∃n,yb ts.length j=some n/\d.nx (ρ.set k (some (.lst (ts.set n v),true)))
  |_=>False
 |_=>False
def fW(k:Nat){f fi:FE}{i:Expr}(he:VE X Z e f)(hi:VR X Z i fi)(hN:X.N[k]?=some x:=by rfl)(hv:mP X.env.scope x:=by first|exact Or.inl rfl|exact Or.inr (.inl rfl)|exact Or.inr (.inr rfl))(hd:f7 x:=by decide)(fO:qd x:=by decide)(ha:∀v,assign (.Subscript (.Name x p) i d9) X.env v=(do
    let ov <- holding [v] (eval (.Name x p) X.env)
    let iv <- holding [v,ov] (eval i X.env)
    standAt d9
    holding [v,ov,iv] (setItem ov iv v)
    release [v,ov,iv] []):=by intro _;rfl)(hs:swapsWithSole [.Subscript (.Name x p) i d9] e pos.line X.env=pure false:=by rfl)(hw:swappedStores [.Subscript (.Name x p) i d9] e X.env=pure none:=by rfl)(h1:(assignEach [.Subscript (.Name x p) i d9] X.env).map (·.2)=[assign (.Subscript (.Name x p) i d9) X.env]:=by rfl):VS X Z (.Assign [.Subscript (.Name x p) i d9] e pos) (M8 k f fi):=.mk λtm=>
 PS.weak (D' (he tm) (Ow (bY hN hv hd fO) (hi tm) set_list ha) hs hw h1) λD σ H ⟨ρ,O,d,I,q,F⟩=>by
  unfold M8 at q;split at q
  rename_i ts e0
  obtain⟨l,h1,h2,xs,h3,h4⟩:=I.root e0;have ha:l∈av Z O:=hX _ (aF.mpr (f_ h1));refine⟨ρ,O,_,I,q,λt ht v H1 s1 a1=>⟨.ref l,h2,ρ,O,_,I.same s1,ht,λj hj w H2 s2 a2=>?_⟩⟩;split at hj;obtain⟨n,e1,hj⟩:=hj;exact⟨l,xs,_,n,rfl,a2.int,s2 _ _ (s1 _ _ h3),by rw[h4.length];exact e1,F.nx O _ σ _ (((I.same s1).same s2).wrote (t':=.lst (ts.set n t)) e0 h1 ⟨xs.set n v,aA,az.wrote ha (s2 _ _ (s1 _ _ h3)) rfl (((h4.same s1).same s2).set n (a1.same s2))⟩) hj⟩;exact hj.elim;exact q.elim
def au.give{tm:List (T×V)}{ρ:En}(I:au K Z tm O ρ σ H){t:T}(hp:bh Z i)(hi:ρ[i]?=some (some (t,true))):∃a,σ[i]?=some (some (.ref a))/\g8 K Z tm (O.set i none) (ρ.set i none) σ H (.fr t) (.ref a):=by
 obtain⟨a,h1,h2,h3⟩:=I.root hi;have ha:=aF.mpr (f_ h1);obtain⟨o1,o2,o3⟩:=I.own a ha;have J:=I.forget hp;have J2:=I.fF hp hi;have na:a∉roots (O.set i none):=λz=>by
  obtain⟨o,s,g1,g2,g3,v,g4,g5⟩:=J2.sl i (some (t,false)) (by rw[z6 (by rw[<- I.lO];exact (dz.mp h1).1)]);rw[h2] at g2;cases g2;cases g4;have nn:a∉av Z (O.set i none):=by
   cases t with
   |lst ts=>
    simp only[At] at g5;obtain⟨b,vs,eb,l,_⟩:=g5;cases eb;obtain l|⟨oo,_,_,lk,_⟩:=l
    exact l.2;exact λz2=>by
     have key:∀O i,O[i]?=some (some a)->(roots O).Nodup->a∉roots (O.set i none):=by
      intro O;induction O with
      |nil=>intro i h;simp at h
      |cons o O ih=>
       intro i h nd;cases i with
       |zero=>
        have:o=some a:=by simpa using h
        subst this;exact (nY.mp nd).1
       |succ i=>
        have h':O[i]?=some (some a):=by simpa using h
        cases o with
        |none=>simp only[roots,RM,qS,id] at nd ⊢;exact ih i h' nd
        |some b=>
         simp only[roots,RM,qS,id] at nd ⊢;rw[nY] at nd;intro z;rcases dg.mp z with z|z
         exact nd.1 (by rw[<- z];exact aF.mpr (f_ h'));exact ih i h' nd.2 z
     rcases gx.mp z2 with z2|z2
     exact key O i h1 I.nd z2;exact o2 z2
   |dk ks ts=>simp only[At] at g5;obtain⟨b,vs,eb,_,d,_⟩:=g5;cases eb;exact d.2
   |dt ks ts=>simp only[At] at g5;obtain⟨b,vs,eb,_,d,_⟩:=g5;cases eb;exact d.2
   |ins C ns ts=>simp only[At] at g5;obtain⟨b,dx,vs,eb,_,d,_⟩:=g5;cases eb;exact d.2
   |_=>exact h3.elim
  exact nn (hX _ z)
 have hP:Z.H0 a=none:=by
  obtain z|z:=o1
  obtain⟨p,hpm,rfl⟩:=jZ.mp z;have:=J.par p hpm;exact absurd (aF.mpr (f_ this)) na;exact z
 have sub:∀b∈av (Z.ex a) (O.set i none),b∈av Z O:=λb hb=>by
  rcases cU b hb with z|z
  exact bS i b z;rw[z];exact hX _ ha
 refine⟨a,h2,a,rfl,⟨J.lσ,J.lO,λj e h=>?_,J.nd,λb hb=>?_,J.par,λb hb=>?_,J.keep,λp hp=>(I.jG p hp).bj sub⟩,h3.bj sub,hP,o2⟩;rcases get_set h with⟨rfl,rfl,hl⟩|⟨ne,h⟩
 obtain⟨o,s,g1,g2,g3⟩:=J.sl j none (by rw[z6 hl]);exact⟨o,s,g1,g2,g3⟩;obtain⟨o,s,g1,g2,g3⟩:=I.sl j e h;exact⟨o,s,by rw[sg (Ne.symm ne)];exact g1,g2,g3.map (λ_ _ q=>q.bj sub) λ_ _ _ q=>q.bj sub⟩;obtain⟨q1,q2,q3⟩:=J.own b hb;refine⟨q1,λz=>?_,q3⟩;rcases dg.mp z with z|z
 exact na (by rw[<- z];exact hb);exact q2 z;rcases dg.mp hb with z|z
 obtain⟨u,eu,_⟩:=o3;rw[z,eu];simp;exact I.ox b z
def M9(i:Nat):FX:=λρ Q=>match ρ[i]? with
 |some (some (t,true))=>Q (ρ.set i none) (.fr t)
 |some (some (t,false))=>Q ρ (.vw t)
 |_=>False
def fJ(i:Nat)(hp:bh Z i)(hN:X.N[i]?=some x:=by rfl)(hv:mP X.env.scope x:=by first|exact Or.inl rfl|exact Or.inr (.inl rfl)|exact Or.inr (.inr rfl))(hd:f7 x:=by decide)(fO:qd x:=by decide):VX X Z (.Name x pos) (M9 i):=.mk λtm=>PE.weak (bY hN hv hd fO) λσ H Q ⟨ρ,O,q,I,hf,k⟩=>by
 unfold M9 at hf;split at hf
 rename_i t e
 obtain⟨a,h1,h2⟩:=I.give hp e;exact⟨_,h1,k _ _ hf _ _ H h2⟩
 rename_i t e
 obtain⟨o,s,h1,h2,rfl,v,rfl,h3⟩:=I.sl i _ e;exact⟨v,h2,k _ _ hf O v H ⟨I,h3⟩⟩;exact hf.elim
end
def au.qu{Z:Zc}{tm tm':List (T×V)}{ρ:En}(I:au K Z tm O ρ σ H)(h:∀p∈tm',At K H (av Z O) p.1 p.2):au K Z tm' O ρ σ H :=
 ⟨I.lσ,I.lO,I.sl,I.nd,I.own,I.par,I.ox,I.keep,h⟩
def g8.qu{Z:Zc}{a_ tm:List (T×V)}{ρ:En}{r:Rt}(h:g8 K Z (a_++tm) O ρ σ H r v):g8 K Z tm O ρ σ H r v:=by
 cases r with
 |vw t=>exact⟨h.1.qu λp hp=>h.1.jG p (iN _ hp),h.2⟩
 |fr t=>obtain⟨a,e,I,q⟩:=h;exact⟨a,e,I.qu λp hp=>I.jG p (iN _ hp),q⟩
def Wk(K:zm)(J:It)(a_:List (T×V))(ts:List T):Prop:=∀H A,(∀a∈A,H a≠none)->(∀p∈a_,At K H A p.1 p.2)->∀i:Nat,
 (i<ts.length->J.go i H)/\(ts.length=i->J.stop i H)/\∀t,ts[i]?=some t->∀x H',J.RW i H x H'->aL H H'/\At K H' A t x
abbrev FI:=En->(List T->Prop)->Prop
noncomputable def lI(X:Cx)(Z:Zc)(tm:List (T×V))(f:FI):TI:=λσ H R=>∃ρ O q,au X.K Z tm O ρ σ H/\f ρ q/\∀ts,q ts->∀J H' a_,aL H H'->(∀p∈a_,At X.K H' (av Z O) p.1 p.2)->Wk X.K J a_ ts->R J H'
def VI(X:Cx)(Z:Zc)(tg iter:Expr)(f:FI):Prop:=Bx λtm=>PI X tg iter (lI X Z tm f)
instance{X:Cx}{Z:Zc}{tg iter:Expr}{f:FI}:CoeFun (VI X Z tg iter f) λ_=>∀tm,PI X tg iter (lI X Z tm f):=⟨λh=>Bx.h h⟩
def PI.weak{X:Cx}{tg:Expr}{t t':TI}(h:PI X tg e t)(hw:∀σ H R,t' σ H R->t σ H R):PI X tg e t':=λε s σ H R I q=>h ε s σ H R I (hw _ _ _ q)
def PG.weak{X:Cx}{tg:Expr}{t t':TG}(h:PG X tg t)(hw:∀v σ H Q,t' v σ H Q->t v σ H Q):PG X tg t':=λε s σ H v u Q I r q=>h ε s σ H v u Q I r (hw _ _ _ _ q)
def D9.weak{X:Cx}{tg:qap}{t t':Je}(h:D9 X tg t)(hw:∀v σ H Q,t' v σ H Q->t v σ H Q):D9 X tg t':=λε s σ H v u Q I r q=>h ε s σ H v u Q I r (hw _ _ _ _ q)
def Um(K:zm)(tl:TE):TI:=λσ H R=>tl σ H λx H1=>(∃a,x=.ref a/\(∃xs,fG K H1 a xs)/\R (Yz K a) H1)\/(∃a,x=.ref a/\(∃xs,dS K H1 a xs)/\R (YA K a) H1)\/∃z,x=.str z/\R (Xj z) H1
section
variable{X:Cx}{Z:Zc}{tg:Expr}
def yN{tl:TE}(hl:PE X l tl):PI X tg l (Um X.K tl):=by
 intro ε s σ H R I h;refine cf (hl ε s σ H _ I h) λv s1 ⟨x,H1,I1,r1,q1⟩=>?_;obtain⟨a,e,hq,q⟩|⟨a,e,hq,q⟩|⟨z,e,q⟩:=q1
 subst e;cases r1;obtain⟨xs,hq⟩:=hq;obtain⟨aT,rv,p,hz⟩:=I1.list hq;refine wpAny_pyIter_list p.isList ⟨s1.heap.objs.size,[s1.heap.objs.size],_,_,H1,rfl,I1.kept λb o e=>dR _ e,BO a _,⟨_,iO _ rfl,rfl,rfl⟩,λb hb=>?_,q⟩;have e:b=s1.heap.objs.size:=by simpa using hb
 subst e;exact I1.m7 (cc _) (I1.bF.fresh (cc _));subst e;cases r1;obtain⟨xs,hq⟩:=hq;obtain⟨aT,rv,p,hz⟩:=I1.tuple hq;refine wpAny_pyIter_tuple (show s1.heap.IsTuple a aT.toArray from p) ⟨s1.heap.objs.size,[s1.heap.objs.size],_,_,H1,rfl,I1.kept λb o e=>dR _ e,yl a _,⟨_,iO _ rfl,rfl,rfl⟩,λb hb=>?_,q⟩;have e:b=s1.heap.objs.size:=by simpa using hb
 subst e;exact I1.m7 (cc _) (I1.bF.fresh (cc _));subst e;obtain⟨t,rfl⟩:=r1;refine wpAny_pyIter_strU ?_;have I2:Inv X ε σ H1 {s1 with heap:=s1.heap.push {cls:=.type (strIterType z),data:=.fields #[.str z t,.int 0 0]} }:=I1.kept λb o e=>dR _ e;refine⟨s1.heap.objs.size,[s1.heap.objs.size],_,_,H1,rfl,I2,EB z t _,⟨_,iO _ rfl,rfl,rfl⟩,λb hb=>?_,q⟩;have e:b=s1.heap.objs.size:=by simpa using hb
 subst e;exact I1.m7 (cc _) I1.fresh
def Zn(f:FE):FI:=λρ Q=>f ρ λt=>match t with
 |.lst ts=>Q ts
 |.tup ts=>Q ts
 |.str z=>Q (z.cps.toList.map λc=>.str ⟨#[c]⟩)
 |_=>False
theorem sV{a:Addr}{ts:List T}:Wk K (Yz K a) [(.lst ts,.ref a)] ts:=λH A hA h i=>by have h:=h _ fB;obtain⟨b,vs,e,l,q⟩:=h;cases e;have hl:=q.length;refine⟨λhi=>⟨vs,vs[i]'(by lia),l.sq,by simp⟩,λhi=>⟨vs,l.sq,by lia⟩,λt ht x H' y=>?_⟩;obtain⟨rfl,y⟩:=y;obtain⟨v,e1,e2⟩:=q.get ht;have:=y vs l.sq;rw[e1] at this;cases this;exact⟨aL.refl _,e2⟩
theorem PF{a:Addr}{ts:List T}:Wk K (YA K a) [(.tup ts,.ref a)] ts:=λH A hA h i=>by have h:=h _ fB;obtain⟨b,vs,e,l,q⟩:=h;cases e;have hl:=q.length;refine⟨λhi=>⟨vs,vs[i]'(by lia),l,by simp⟩,λhi=>⟨vs,l,by lia⟩,λt ht x H' y=>?_⟩;obtain⟨rfl,y⟩:=y;obtain⟨v,e1,e2⟩:=q.get ht;have:=y vs l;rw[e1] at this;cases this;exact⟨aL.refl _,e2⟩
def PH{z:Str}:Wk K (Xj z) [] (z.cps.toList.map λc=>T.str ⟨#[c]⟩):=λH A hA h i=>by refine⟨λhi=>by rw[bX,N0] at hi;exact hi,λhi=>by rw[bX,N0] at hi;exact Nat.le_of_eq hi,λt ht x H' y=>?_⟩;obtain⟨rfl,c,hc,rfl⟩:=y;rw[fD,IS,hc] at ht;cases ht;exact⟨aL.refl _,dF⟩
def jJ{f:FE}(h:VE X Z l f):VI X Z tg l (Zn f):=.mk λtm=>PI.weak (yN (h tm)) λσ H R ⟨ρ,O,q,I,hf,k⟩=>⟨ρ,O,_,I,hf,λt ht v H' s a=>by split at ht;have a0:=a;obtain⟨p,vs,rfl,l,_⟩:=a;exact .inl ⟨p,rfl,⟨vs,l.sq⟩,k _ ht _ H' _ s (λp hp=>by rw[hY.mp hp];exact a0) sV⟩;have a0:=a;obtain⟨p,vs,rfl,l,_⟩:=a;exact .inr (.inl ⟨p,rfl,⟨vs,l⟩,k _ ht _ H' _ s (λp hp=>by rw[hY.mp hp];exact a0) PF⟩);have e:=a;exact .inr (.inr ⟨_,e,k _ ht _ H' [] s (λp hp=>nomatch hp) PH⟩);exact ht.elim⟩
def rangeT(lo:Int)(n:Nat):List T:=(List.range n).map λi=>T.int (lo+((i:Nat):Int))
theorem EU{lo:Int}:Wk K (Xb lo n) [] (rangeT lo n):=λH A hA h i=>by
 unfold rangeT;refine⟨λhi=>by rw[bX,z8] at hi;exact hi,λhi=>by rw[bX,z8] at hi;exact Nat.le_of_eq hi,λt ht x H' y=>?_⟩;obtain⟨rfl,rfl⟩:=y;rw[fD] at ht;cases e:(List.range n)[i]? with
 |none=>rw[e] at ht;cases ht
 |some j=>
  rw[e] at ht;have hj:j=i:=by have:=dz.mp e;obtain⟨h1,h2⟩:=this;simpa using h2.symm
  subst hj;cases ht;exact⟨aL.refl _,bE⟩
def pR1(ts:List T)(Q:List T->Prop):Prop:=match ts with
 |[.int j]=>-(2 ^ 62)<=j/\j<2 ^ 62/\Q (rangeT 0 j.toNat)
 |_=>False
def PJ(g:FA)(p:List T->(List T->Prop)->Prop):FI:=λρ Q=>g ρ λts=>p ts Q
def cV{a:Expr}{g:FE}{pos:Pos}(hg:Gl X "range")(hm:X.mg "range"=none)(ha:VR X Z a g)(hs:starEach [a] X.env=[(false,eval a X.env)]:=by rfl) :
  VI X Z tg (.Call (.Name "range" p) [a] [] pos) (PJ (cn g lL) pR1):=.mk λtm=>PI.weak (BP hg hm ((aM ha aX hs) tm) hs) λσ H R ⟨ρ,O,q,I,hf,k⟩=>⟨ρ,O,_,I,hf,λts f9 vs H' s a=>by
 unfold pR1 at f9;split at f9;obtain⟨v,rfl,a1⟩:=cv a;exact⟨_,by rw[a1.int],f9.1,f9.2.1,k _ f9.2.2 _ H' [] s (λp hp=>nomatch hp) EU⟩;exact f9.elim⟩
abbrev FG:=T->En->(En->Prop)->Prop
abbrev Ka:=List T->En->(En->Prop)->Prop
noncomputable def lG(X:Cx)(Z:Zc)(tm:List (T×V))(is:qao)(h:FG):TG:=λv σ H Q=>∃ρ O t q,au X.K Z tm O ρ σ H/\At X.K H (av Z O) t v/\h t ρ q/\∀ρ',q ρ'->∀O' σ',au X.K Z tm O' ρ' σ' H->(∀a∈roots O',a∈roots O)->(∀(j:Nat),j∉is->O'[j]?=O[j]?)->σ'.length=σ.length->(∀(j:Nat),j∉is->σ'[j]?=σ[j]?)->Q σ' H
noncomputable def lGs(X:Cx)(Z:Zc)(tm:List (T×V))(is:qao)(h:Ka):Je:=λvs σ H Q=>∃ρ O ts q,au X.K Z tm O ρ σ H/\az X.K H (av Z O) ts vs/\h ts ρ q/\∀ρ',q ρ'->∀O' σ',au X.K Z tm O' ρ' σ' H->(∀a∈roots O',a∈roots O)->(∀(j:Nat),j∉is->O'[j]?=O[j]?)->σ'.length=σ.length->(∀(j:Nat),j∉is->σ'[j]?=σ[j]?)->Q σ' H
def VG(X:Cx)(Z:Zc)(tg:Expr)(is:qao)(h:FG):Prop:=Bx λtm=>PG X tg (lG X Z tm is h)
instance{X:Cx}{Z:Zc}{tg:Expr}{is:qao}{h:FG}:CoeFun (VG X Z tg is h) λ_=>∀tm,PG X tg (lG X Z tm is h):=⟨λh=>Bx.h h⟩
def Uo(X:Cx)(Z:Zc)(Xm:qap)(is:qao)(h:Ka):Prop:=Bx λtm=>D9 X Xm (lGs X Z tm is h)
instance{X:Cx}{Z:Zc}{Xm:qap}{is:qao}{h:Ka}:CoeFun (Uo X Z Xm is h) λ_=>∀tm,D9 X Xm (lGs X Z tm is h):=⟨λh=>Bx.h h⟩
def hName(i:Nat):FG:=λt ρ Q=>Q (ρ.set i (some (t,false)))
def aC{pos:Pos}(hN:X.N.Nodup)(hi:X.N[i]?=some x)(hx:Loc X.env.scope x)(hp:bh Z i)(hf:X.fn x=true\/X.env.scope.names.lookup x=some .local:=by first|exact .inl rfl|exact .inr rfl|assumption) :
  VG X Z (.Name x pos) [i] (hName i):=.mk λtm=>PG.weak (Jf hN hi hx hf) λv σ H Q ⟨ρ,O,t,q,I,a,h,k⟩ =>
 k _ h _ _ (I.put hp a) (bR i) (λj hj=>sg (λe=>hj (by simp[e]))) (by simp) λj hj=>sg (λe=>hj (by simp[e]))
def Zo:Ka:=λts ρ Q=>ts=[]/\Q ρ
def M_(h:FG)(hs:Ka):Ka:=λts ρ Q=>match ts with
 |t::r=>h t ρ λρ'=>hs r ρ' Q
 |[]=>False
def Up(n:Nat)(h:Ka):FG:=λt ρ Q=>match t with
 |.tup ts=>ts.length=n/\h ts ρ Q
 |_=>False
def cw:Uo X Z [] [] Zo:=.mk λtm=>D9.weak Jg λvs σ H Q ⟨ρ,O,ts,q,I,a,h,k⟩=>by
 obtain⟨rfl,h⟩:=h;have e:vs=[]:=by simpa only[az] using a
 exact⟨e,k _ h O σ I (λ_ z=>z) (λ_ _=>rfl) rfl λ_ _=>rfl⟩
def aN{js:qao}{h:FG}{hs:Ka}(h1:VG X Z e is h)(h2:Uo X Z es js hs)(hse:(assignEach (e::es) X.env).map (·.2)=assign e X.env::(assignEach es X.env).map (·.2):=by rfl):Uo X Z (e::es) (is++js) (M_ h hs):=.mk λtm=>D9.weak (D_ (h1 tm) (h2 tm) hse) λvs σ H Q ⟨ρ,O,ts,q,I,a,hh,k⟩=>by
 unfold M_ at hh;split at hh;simp only[az] at a;obtain⟨v,r,rfl,a1,a2⟩:=a;refine⟨v,r,rfl,ρ,O,_,_,I,a1,hh,λρ' hρ O' σ' I' ro eo l e=>⟨ρ',O',_,q,I',a2.bj λb hb=>?_,hρ,λρ2 h2 O2 σ2 I2 ro2 eo2 l2 e2=>k ρ2 h2 O2 σ2 I2 (λa z=>ro a (ro2 a z)) (λj hj=>?_) (l2.trans l) λj hj=>?_⟩⟩;rcases gx.mp hb with z|z
 exact hX _ (ro b z);exact iN _ z;rw[gx,not_or] at hj;exact (eo2 j hj.2).trans (eo j hj.1);rw[gx,not_or] at hj;exact (e2 j hj.2).trans (e j hj.1);exact hh.elim
def dc{k:Nat}{h:Ka}{pos:Pos}(hc:X.calm=true)(hh:Uo X Z es is h)(hn:(assignEach es X.env).length=n:=by rfl)(Ov:(assignEach es X.env).findIdx? (·.1)=none:=by rfl):VG X Z (.Tuple es k pos) is (Up n h):=.mk λtm=>PG.weak (Ou hc (hh tm) hn Ov) λv σ H Q ⟨ρ,O,t,q,I,a,h',kk⟩=>by unfold Up at h';split at h';simp only[At] at a;obtain⟨p,vs,rfl,s,a⟩:=a;exact⟨p,vs,rfl,s,a.length.trans h'.1,ρ,O,_,q,I,a,h'.2,kk⟩;exact h'.elim
def Zp(f:FE)(h:FG):FS:=λd ρ=>f ρ λt=>h t ρ d.nx
def sW{tg:Expr}{f:FE}{h:FG}{pos:Pos}(he:VE X Z e f)(hg:VG X Z tg is h)(hs:swapsWithSole [tg] e pos.line X.env=pure false:=by rfl)(hw:swappedStores [tg] e X.env=pure none:=by rfl)(h1:(assignEach [tg] X.env).map (·.2)=[assign tg X.env]:=by rfl):VS X Z (.Assign [tg] e pos) (Zp f h):=.mk λtm=>PS.weak (D' (he tm) (hg tm) hs hw h1) λD σ H ⟨ρ,O,d,I,q,F⟩ =>
 ⟨ρ,O,_,I,q,λt ht v H' s a=>⟨ρ,O,t,_,I.same s,a,ht,λρ' hρ O' σ' I' _ _ _ _=>F.nx O' ρ' σ' H' I' hρ⟩⟩
def gX(ts:List T)(h:FG)(g:FS):FS:=λd ρ=>∃Pv:Nat->En->Prop,Pv 0 ρ/\(∀(i:Nat) t ρ',ts[i]?=some t->Pv i ρ'->h t ρ' λρ2=>g {nx:=Pv (i+1),ct:=Pv (i+1),bk:=d.nx,rt:=d.rt} ρ2)/\∀ρ',Pv ts.length ρ'->d.nx ρ'
def Zq(f:FI)(h:FG)(g:FS):FS:=λd ρ=>f ρ λts=>gX ts h g d ρ
theorem cZ{f:FI}{h:FG}{g:FS}{pos:Pos}(hp:PassesOwn (model X.prog X.w) X.A X.env X.xe)(hc:X.calm=true)(hi:VI X Z tg iter f)(hg:VG X Z tg is h)(hb:ir X Z body g)(hs:∀x,foldedSetIterable iter X.env x=pure x:=by intro _;rfl):VS X Z (.For tg iter body [] pos) (Zq f h g):=by
 refine .mk λtm ε s σ H D I0 hw=>?_;obtain⟨ρ,O,d,I,q,F⟩:=hw;refine sD (g:=λv σ H Q=>∃a_,lG X Z (a_++tm) is h v σ H Q) (tb:=λD σ H=>∃a_,lS X Z (a_++tm) g D σ H) hp hc (hi tm) (λε s σ H v u Q I r ⟨a_,z⟩=>hg (a_++tm) ε s σ H v u Q I r z) (λε s σ H D I ⟨a_,z⟩=>hb (a_++tm) ε s σ H D I z) hs ε s σ H D I0 ⟨ρ,O,_,I,q,λts f9 J H' a_ s a wk=>?_⟩;obtain⟨Pv,p0,step,fin⟩:=f9;have J0:=(I.same s).qu λp hp=>by
  rcases gx.mp hp with z|z
  exact a p z;exact (I.same s).jG p z
 refine⟨λi m σ H=>m=ts.length-i/\i<=ts.length/\∃ρ O,au X.K Z (a_++tm) O ρ σ H/\Pv i ρ,⟨ts.length,by simp,h_ _,ρ,O,J0,p0⟩,?_⟩;rintro i m σ1 H1 ⟨rfl,hi,ρ1,O1,I1,p1⟩;obtain⟨w1,w2,w3⟩:=wk H1 (av Z O1) I1.JK (λp hp=>I1.jG p (hX _ hp)) i;have un:∀{O:HD}{ρ:En}{σ:St}{H:Hp},au X.K Z (a_++tm) O ρ σ H->au X.K Z tm O ρ σ H:=λI=>I.qu λp hp=>I.jG p (iN _ hp);by_cases d_:i<ts.length;refine .inr ⟨w1 d_,λσ' H'=>∃ρ O,au X.K Z (a_++tm) O ρ σ' H'/\Pv (i+1) ρ,λσ' H' ⟨ρ',O',I',p'⟩=>⟨ts.length-(i+1),by lia,rfl,d_,ρ',O',I',p'⟩,λx H2 y=>?_⟩;have e:ts[i]?=some ts[i]:=by simp[d_]
 obtain⟨s2,a2⟩:=w3 ts[i] e x H2 y;exact⟨a_,ρ1,O1,ts[i],_,I1.same s2,a2,step i _ ρ1 e p1,λρ2 h2 O2 σ2 I2 _ _ _ _=>⟨a_,ρ2,O2,_,I2,h2,⟨λO ρ σ H I p=>⟨ρ,O,I,p⟩,λO ρ σ H r v z p=>F.rt O ρ σ H r v z.qu p,λO ρ σ H I p=>F.nx O ρ σ H (un I) p,λO ρ σ H I p=>⟨ρ,O,I,p⟩⟩⟩⟩;have e:i=ts.length:=by lia
 subst e;exact .inl ⟨w2 (rfl),F.nx O1 ρ1 σ1 H1 (un I1) (fin ρ1 p1)⟩
def PK(c:FB)(g:FS):FS:=λd ρ=>∃(Pv:Nat->En->Prop),(∃m,Pv m ρ)/\∀m ρ',Pv m ρ'->c ρ' λb=>if b=true then g {nx:=λρ2=>∃m',m'<m/\Pv m' ρ2,ct:=λρ2=>∃m',m'<m/\Pv m' ρ2,bk:=d.nx,rt:=d.rt} ρ' else d.nx ρ'
theorem vY{fc:FB}{g:FS}{pos:Pos}(hp:PassesOwn (model X.prog X.w) X.A X.env X.xe)(hc:VC X Z c fc)(hb:ir X Z body g):VS X Z (.While c body [] pos) (PK fc g):=.mk λtm=>PS.weak (og hp (hc tm) (hb tm)) λD σ H ⟨ρ,O,d,I,q,F⟩=>by
 obtain⟨Pv,⟨m0,p0⟩,step⟩:=q;refine⟨λm σ H=>∃ρ O,au X.K Z tm O ρ σ H/\Pv m ρ,⟨m0,ρ,O,I,p0⟩,?_⟩;rintro m σ1 H1 ⟨ρ1,O1,I1,p1⟩;refine⟨ρ1,O1,_,I1,step m ρ1 p1,λb hb H2 s2=>?_⟩;cases b with
 |true=>exact⟨λσ' H'=>∃m',m'<m/\∃ρ O,au X.K Z tm O ρ σ' H'/\Pv m' ρ,λσ' H' z=>z,ρ1,O1,_,I1.same s2,hb,⟨λO ρ σ H I ⟨m',hm,p⟩=>⟨m',hm,ρ,O,I,p⟩,F.rt,F.nx,λO ρ σ H I ⟨m',hm,p⟩=>⟨m',hm,ρ,O,I,p⟩⟩⟩
 |false=>exact F.nx O1 ρ1 σ1 H2 (I1.same s2) hb
end
def dG(O:HD)(n:Nat):roots (O++List.replicate n none)=roots O:=by
 unfold roots;rw[List.filterMap_append];have:(List.replicate n (none:qar)).filterMap id=[]:=by
  induction n with
  |zero=>rfl
  |succ n ih=>rw[BF,qS];exact ih
 rw[this,BH]
def au.longer{Z:Zc}{tm:List (T×V)}{ρ:En}(I:au K Z tm O ρ σ H)(n:Nat){τ:St}(hτ:τ.length=n) :
  au K Z tm (O++List.replicate n none) (ρ++List.replicate n none) (σ++τ) H:=by
 have ea:av Z (O++List.replicate n none)=av Z O:=by unfold av;rw[dG]
 refine⟨by simp[I.lσ,hτ],by simp[I.lO],λi e h=>?_,by rw[dG];exact I.nd,λa h=>I.own a (by rw[dG] at h;exact h),λp hp=>?_,I.ox,I.keep,λp hp=>by rw[ea];exact I.jG p hp⟩;rw[ea];by_cases hi:i<ρ.length;rw[mK hi] at h;obtain⟨o,s,h1,h2,h3⟩:=I.sl i e h;exact⟨o,s,by rw[mK (by rw[I.lO];exact hi)];exact h1,by rw[mK (by rw[I.lσ];exact hi)];exact h2,h3⟩;rw[p8 (by lia),DV] at h;split at h
 rename_i hl
 cases h;refine⟨none,τ[i-σ.length]'(by rw[I.lσ,hτ];exact hl),?_,?_,rfl⟩;rw[p8 (by rw[I.lO];lia),DV,ι (by rw[I.lO];exact hl)];rw[p8 (by rw[I.lσ];lia)];simp;cases h;have:=I.par p hp;have hl:=(dz.mp this).1;rw[mK hl];exact this
def au.PL{Z:Zc}{tm:List (T×V)}{ρ:En}{a:Addr}{u o:HO}(I:au K (Z.ex a) tm O ρ σ H)(hu:H a=some u)(hm:m9 u=true)(h0:Z.H0 a=none):au K (Z.ex a) tm O ρ σ (upd H a o):=by
 have DK:a∈av (Z.ex a) O:=iN _ fB;have nr:∀b∈roots O,b≠a:=λb hb e=>(I.own b hb).2.1 (by rw[e];exact fB);refine⟨I.lσ,I.lO,λi e h=>?_,I.nd,λb hb=>?_,I.par,λb hb=>?_,λb o' e n=>?_,λp hp=>(I.jG p hp).wrote DK hu hm⟩;obtain⟨o',s,h1,h2,h3⟩:=I.sl i e h;refine⟨o',s,h1,h2,h3.map (λ_ _ q=>q.wrote DK hu hm) λb t e q=>?_⟩;subst e;exact q.map (ar (nr b (aF.mpr (f_ h1)))) λ_ _ z=>z.wrote DK hu hm;obtain⟨q1,q2,v,e,m⟩:=I.own b hb;exact⟨q1,q2,v,by rw[ar (nr b hb)];exact e,m⟩;by_cases e:b=a;subst e;rw[aA];simp;rw[ar e];exact I.ox b hb;have:b≠a:=λe'=>by subst e';have e2:Z.H0 b=some o':=e;rw[h0] at e2;cases e2
 rw[ar this];exact I.keep b o' e n
def c6(h:FG)(fc:FB)(fe:FE)(ρ:En):List T->(List T->Prop)->Prop
 |[],Q=>Q []
 |t::ts,Q=>h t ρ λρ2=>fc ρ2 λb=>if b=true then fe ρ2 λu=>c6 h fc fe ρ ts λus=>Q (u::us) else c6 h fc fe ρ ts Q
def Av(n:Nat)(is:qao)(f:FI)(h:FG)(fc:FB)(fe:FE):FP:=λρ Q=>(is.all λj=>decide (ρ.length<=j))=true/\f ρ λts=>ts.length<=sizeLine/\c6 h fc fe (ρ++List.replicate n none) ts λus=>Q (.fr (.lst us))
def R8(X:Cx)(Z:Zc)(ifs:qap)(f:FB):Prop:=Bx λtm=>Ey X ifs (lB X Z tm f)
instance{X:Cx}{Z:Zc}{ifs:qap}{f:FB}:CoeFun (R8 X Z ifs f) λ_=>∀tm,Ey X ifs (lB X Z tm f):=⟨λh=>Bx.h h⟩
def EV:FB:=λ_ Q=>Q true
def Ey.weak{X:Cx}{e:qap}{t t':TT}(h:Ey X e t)(hw:∀σ H Q,t' σ H Q->t σ H Q):Ey X e t':=λε s σ H Q I q=>h ε s σ H Q I (hw _ _ _ q)
section
variable{X:Cx}{Z:Zc}
def nG:R8 X Z [] EV:=.mk λtm=>Ey.weak JD λσ H Q ⟨ρ,O,q,I,h,k⟩=>k true h H (aL.refl H)
def iT{f:FB}(h:VC X Z c f):R8 X Z [c] f:=.mk λtm=>JE (h tm)
noncomputable def cG(X:Cx)(Z:Zc)(tm:List (T×V))(is:qao)(h:FG):TG:=λv σ H Q=>∃D a_,lG X (Z.ex D) (a_++tm) is h v σ H Q
noncomputable def cB(X:Cx)(Z:Zc)(tm:List (T×V))(f:FB):TT:=λσ H Q=>∃D a_,lB X (Z.ex D) (a_++tm) f σ H Q
noncomputable def cE(X:Cx)(Z:Zc)(tm:List (T×V))(f:FE):TE:=λσ H Q=>∃D a_,lE X (Z.ex D) (a_++tm) f σ H Q
theorem PM{Z:Zc}{tm a_:List (T×V)}{ρ:En}{H1:Hp}{D:Addr}{J:It}{ts:List T}{h:FG}{fc:FB}{fe:FE}{q:Rt->Prop}{Q:VK}(X:Cx)(hK:X.K=K)(I:au K Z (a_++tm) O ρ σ H1)(hD:H1 D=none)(wk:Wk K J a_ ts)(hz:ts.length<=sizeLine)(Xn:∀j∈is,ρ.length<=j)(hw:c6 h fc fe (ρ++List.replicate n none) ts λus=>q (.fr (.lst us)))(k:∀r,q r->∀v H',aL H1 H'->g8 K Z tm O ρ σ H' r v->Q v H') :
  Ez J (cG X Z tm is h) (cB X Z tm fc) (cE X Z tm fe) n σ D (Q (.ref D)) H1:=by
 subst hK;obtain⟨n1,n2,n3⟩:=I.fresh hD;refine⟨λi m acc H2=>m=ts.length-i/\i<=ts.length/\aL H1 H2/\H2 D=some (.lst acc)/\∃us,az X.K H2 (av (Z.ex D) O) us acc/\acc.length<=i/\au X.K (Z.ex D) (a_++tm) O ρ σ H2/\c6 h fc fe (ρ++List.replicate n none) (ts.drop i) λr=>q (.fr (.lst (us++r))),
  ⟨ts.length,by simp,h_ _,aG hD,aA,[],az.nil,h_ _,I.new hD rfl,by simpa using hw⟩,?_⟩
 rintro i m acc H2 ⟨rfl,hi,s2,Xo,us,a2,hl,I2,w2⟩;refine⟨Xo,?_⟩;obtain⟨w1,w2',w3⟩:=wk H2 (av (Z.ex D) O) I2.JK (λp hp=>I2.jG p (hX _ hp)) i;by_cases d_:i<ts.length;refine .inr ⟨w1 d_,by lia,λx H3 y=>?_⟩;have e:ts[i]?=some ts[i]:=by simp[d_]
 obtain⟨s3,a3⟩:=w3 ts[i] e x H3 y;rw[Sv d_] at w2;have I3:=(I2.same s3).longer n (τ:=List.replicate n none) (by simp);have ea:av (Z.ex D) (O++List.replicate n none)=av (Z.ex D) O:=by unfold av;rw[dG]
 refine⟨D,a_,_,_,ts[i],_,I3,by rw[ea];exact a3,w2,λρ4 hρ4 O4 σ4 I4 ro4 eo4 l4 e4=>⟨⟨?_,λj v hj=>?_⟩,D,a_,ρ4,O4,_,I4,hρ4,λb hb H5 s5=>?_⟩⟩;rw[l4];simp;have vz:=(dz.mp hj).1;have:j∉is:=λz=>by have:=Xn j z;have:=I.lσ;lia
 rw[e4 j this,mK vz];exact hj;have S5:=(s2.trans s3).trans s5;have J5:=(I2.same s3).same s5;cases b with
 |true=>
   refine TZ ⟨D,a_,ρ4,O4,_,I4.same s5,hb,λu hu y H6 s6 a6=>?_⟩;have Zr:=s6 _ _ (s5 _ _ (s3 _ _ Xo));refine⟨Zr,ts.length-(i+1),by lia,rfl,d_,λb o e=>?_,aA,us++[u],?_,by simp;lia,(J5.same s6).PL Zr rfl n3,?_⟩;rw[ar (bt e hD)];exact s6 _ _ (S5 _ _ e);have DK:D∈av (Z.ex D) O:=iN _ fB;have a6':At X.K H6 (av (Z.ex D) O) u y:=a6.bj λb hb=>by
    rcases gx.mp hb with z|z
    obtain⟨j,hj⟩:=Mt.mp (aF.mp z);have vz:=(dz.mp hj).1;have nj:j∉is:=λz=>by have:=Xn j z;have:=I.lO;lia
    have:=eo4 j nj;rw[mK vz,hj] at this;exact hX _ (aF.mpr (f_ this));exact iN _ z
   exact az.wrote DK Zr rfl ((((a2.same s3).same s5).same s6).append (az.cons a6' az.nil));have e2:∀r,(us++[u])++r=us++(u::r):=λr=>by simp
   simp only[e2];exact hu
 |false=>exact TY ⟨ts.length-(i+1),by lia,rfl,d_,S5,s5 _ _ (s3 _ _ Xo),us,(a2.same s3).same s5,by lia,J5,hb⟩
 have e:i=ts.length:=by lia
 subst e;refine .inl ⟨w2' (rfl),?_⟩;rw[List.drop_length] at w2;simp only[c6,BH] at w2;refine k _ w2 _ H2 s2 ⟨D,rfl,I2.qu λp hp=>I2.jG p (iN _ hp),⟨acc,Xo,a2⟩,n3,n2⟩
def Aw{tm:List (T×V)}{f:FI}{h:FG}{fc:FB}{fe:FE}{Q:VK}(hq:lP X Z tm (Av n is f h fc fe) σ H Q):EA n (lI X Z tm f) (cG X Z tm is h) (cB X Z tm fc) (cE X Z tm fe) σ H Q:=by
 obtain⟨ρ,O,q,I,⟨Xn,hf⟩,k⟩:=hq;refine⟨ρ,O,_,I,hf,λts f9 J H' a_ s a wk D hD=>?_⟩;have I':=(I.same s).qu λp hp=>by
  rcases gx.mp hp with z|z
  exact a p z;exact (I.same s).jG p z
 refine PM X rfl I' hD wk f9.1 (λj hj=>?_) f9.2 λr hr v H2 s2 z=>k r hr v H2 (s.trans s2) z;have:=IV.mp Xn j hj;exact υ this
variable{ts:ω}{elt tg:Expr}{ifs:qap}{pos:Pos}{f:FI}{h:FG}{fc:FB}{fe:FE}
def fK(hc:X.calm=true)(hS:jF X.N ts X.env.scope sc=true)(hi:VI X Z tg iter f)(hg:∀D cl C fp s H,VG (bx X ts sc cl C fp s H) (Z.ex D) tg is h)(ht:∀D cl C fp s H,R8 (bx X ts sc cl C fp s H) (Z.ex D) ifs fc)(he:∀D cl C fp s H,VE (bx X ts sc cl C fp s H) (Z.ex D) elt fe)(hs:∀x,foldedSetIterable iter X.env x=pure x:=by intro _;rfl):VP X Z (.ListComp elt [⟨tg,iter,ifs,0⟩] sc pos) (Av ts.length is f h fc fe):=.mk λtm=>
 PE.weak (JF hc hS (hi tm) (λcl C fp s H ε s' σ H' v u Q I r ⟨D,a_,z⟩=>hg D cl C fp s H (a_++tm) ε s' σ H' v u Q I r z) (λcl C fp s H ε s' σ H' Q I ⟨D,a_,z⟩=>ht D cl C fp s H (a_++tm) ε s' σ H' Q I z)
  (λcl C fp s H ε s' σ H' Q I ⟨D,a_,z⟩=>he D cl C fp s H (a_++tm) ε s' σ H' Q I z) hs) λσ H Q hq=>Aw hq
def vZ{py vS:Pos}(hN:X.N.Nodup)(hy:X.N[i]?=some y)(hx:Loc X.env.scope y)(hc:X.calm=true)(hS:jF X.N ts X.env.scope sc=true)(hi:VI X Z tg iter f)(hg:∀D cl C fp s H,VG (bx X ts sc cl C fp s H) (Z.ex D) tg is h)(ht:∀D cl C fp s H,R8 (bx X ts sc cl C fp s H) (Z.ex D) ifs fc)(he:∀D cl C fp s H,VE (bx X ts sc cl C fp s H) (Z.ex D) elt fe)(T7:swapsWith (.ListComp elt [⟨tg,iter,ifs,0⟩] sc pos) (some (.Name y py)) vS.line X.env=pure true)(hs:∀x,foldedSetIterable iter X.env x=pure x)(hf:X.fn y=true\/X.env.scope.names.lookup y=some .local)(tm:List (T×V)) :
  PS X (.Assign [.Name y py] (.ListComp elt [⟨tg,iter,ifs,0⟩] sc pos) vS) (Jh (lP X Z tm (Av ts.length is f h fc fe)) (n9 i)) :=
 PS.weak (JG hN hy hx hc hS (hi tm) (λcl C fp s H ε s' σ H' v u Q I r ⟨D,a_,z⟩=>hg D cl C fp s H (a_++tm) ε s' σ H' v u Q I r z) (λcl C fp s H ε s' σ H' Q I ⟨D,a_,z⟩=>ht D cl C fp s H (a_++tm) ε s' σ H' Q I z)
  (λcl C fp s H ε s' σ H' Q I ⟨D,a_,z⟩=>he D cl C fp s H (a_++tm) ε s' σ H' Q I z) T7 hs hf) λD σ H hq=>Aw hq
def Ax{py vS:Pos}(hN:X.N.Nodup)(hy:X.N[i]?=some y)(hx:Loc X.env.scope y)(hc:X.calm=true)(hS:jF X.N ts X.env.scope sc=true)(hi:VI X Z tg iter f)(hg:∀D cl C fp s H,VG (bx X ts sc cl C fp s H) (Z.ex D) tg is h)(ht:∀D cl C fp s H,R8 (bx X ts sc cl C fp s H) (Z.ex D) ifs fc)(he:∀D cl C fp s H,VE (bx X ts sc cl C fp s H) (Z.ex D) elt fe)(hp:bh Z i)(T7:swapsWith (.ListComp elt [⟨tg,iter,ifs,0⟩] sc pos) (some (.Name y py)) vS.line X.env=pure true:=by rfl)(hs:∀x,foldedSetIterable iter X.env x=pure x:=by intro _;rfl)(hf:X.fn y=true\/X.env.scope.names.lookup y=some .local:=by first|exact .inl rfl|exact .inr rfl|assumption) :
  VS X Z (.Assign [.Name y py] (.ListComp elt [⟨tg,iter,ifs,0⟩] sc pos) vS) (PD i (fX (Av ts.length is f h fc fe))):=.mk λtm=>
 PS.weak (vZ hN hy hx hc hS hi hg ht he T7 hs hf tm) λD σ H ⟨ρ,O,d,I,q,F⟩=>⟨ρ,O,_,I,q,λr hr v H' s z=>F.nx _ _ _ H' (z.env.put hp z.at) hr⟩
def iU{h:FG}{fc:FB}{fe:FE}{ρ:En}{ts:List T}{Q:List T->Prop}(p:T->Bool)(u:T->T)(step:∀t∈ts,∀k:List T->Prop,∀r:List T->Prop,(if p t=true then r [u t] else r [])->h t ρ λρ2=>fc ρ2 λb=>if b=true then fe ρ2 λx=>r [x] else r [])(hq:Q ((ts.filter p).map u)):c6 h fc fe ρ ts Q:=by
 induction ts generalizing Q with
 |nil=>exact hq
 |cons t ts ih=>
  have st:=step t fB (λ_=>True) (λl=>match l with
   |[x]=>c6 h fc fe ρ ts λus=>Q (x::us)
   |_=>c6 h fc fe ρ ts Q)
  have rest:∀{Q':List T->Prop},Q' ((ts.filter p).map u)->c6 h fc fe ρ ts Q':=λhq=>ih (λt ht=>step t (gz _ ht)) hq;refine st ?_;by_cases hp:p t=true;rw[ι hp];refine rest ?_;rw[List.filter_cons_of_pos hp] at hq;exact hq;rw[η hp];refine rest ?_;rw[List.filter_cons_of_neg hp] at hq;exact hq
end
def eS(K:zm)(H:Hp)(A:Ω):List Bool->Ω->List T->qak->Prop
 |[],as,ts,vs=>as=[]/\ts=[]/\vs=[]
 |false::fs,as,ts,vs=>∃t gy v jr,ts=t::gy/\vs=v::jr/\At K H A t v/\eS K H A fs as gy jr
 |true::fs,as,ts,vs=>∃a rm t gy jr,as=a::rm/\ts=t::gy/\vs=.ref a::jr/\cL K H A a t/\eS K H A fs rm gy jr
def Uq(K:zm)(H:Hp)(as Ox:Ω)(H':Hp)(us:List T):Rt->V->Prop
 |.vw t,v=>At K H' (as++Ox) t v/\Paired (λa u=>cL K H' (as++Ox) a u) as us
 |.fr t,v=>∃b,v=.ref b/\H b=none/\b∉as/\cL K H' (b::(as++Ox)) b t/\Paired (λa u=>cL K H' (b::(as++Ox)) a u) as us
abbrev GT:=List T->(List T->Rt->Prop)->Prop
def qv(K:zm)(fs:List Bool)(G:GT):Sp:=λvs H Q _=>∃ts as Ox q,as.Nodup/\(∀a∈as,a∉Ox)/\(∀a∈Ox,H a≠none)/\eS K H (as++Ox) fs as ts vs/\G ts q /\
 ∀us r,q us r->∀v H',(∀b o,H b=some o->b∉as->H' b=some o)->Uq K H as Ox H' us r v->Q v H'
noncomputable def ro:List Bool->Ω->HD
 |[],_=>[]
 |false::fs,as=>none::ro fs as
 |true::fs,a::as=>some a::ro fs as
 |true::fs,[]=>none::ro fs []
noncomputable def pz:List Bool->Ω->Nat->List (Nat×Addr)
 |[],_,_=>[]
 |false::fs,as,k=>pz fs as (k+1)
 |true::fs,a::as,k=>(k,a)::pz fs as (k+1)
 |true::fs,[],k=>pz fs [] (k+1)
noncomputable def v3:List Bool->List T->En
 |f::fs,t::ts=>some (t,f)::v3 fs ts
 |_,_=>[]
noncomputable def kj:List Bool->En->List T
 |[],_=>[]
 |false::fs,ρ=>kj fs ρ.tail
 |true::fs,some (t,_)::ρ=>t::kj fs ρ
 |true::fs,ρ=>.bB::kj fs ρ.tail
section
variable{A:Ω}
theorem gk:∀{fs:List Bool}{as:Ω}{ts:List T}{vs:qak},eS K H A fs as ts vs->ts.length=fs.length/\vs.length=fs.length/\(ro fs as).length=fs.length/\(v3 fs ts).length=fs.length/\roots (ro fs as)=as
 |[],as,ts,vs,h=>by obtain⟨rfl,rfl,rfl⟩:=h;exact⟨rfl,rfl,rfl,rfl,rfl⟩
 |false::fs,as,ts,vs,h=>by obtain⟨t,gy,v,jr,rfl,rfl,_,h⟩:=h;obtain⟨h1,h2,h3,h4,h5⟩:=gk h;exact⟨by simp[h1],by simp[h2],by simp[ro,h3],by simp[v3,h4],by simpa[ro,roots] using h5⟩
 |true::fs,as,ts,vs,h=>by obtain⟨a,rm,t,gy,jr,rfl,rfl,rfl,_,h⟩:=h;obtain⟨h1,h2,h3,h4,h5⟩:=gk h;refine⟨by simp[h1],by simp[h2],by simp[ro,h3],by simp[v3,h4],?_⟩;simp only[ro,roots,qS,id] at h5 ⊢;rw[h5]
theorem oJ:∀{fs:List Bool}{as:Ω}{ts:List T}{vs:qak},eS K H A fs as ts vs->∀(i:Nat) e,(v3 fs ts)[i]?=some e->∃o s,(ro fs as)[i]?=some o/\(vs.map some)[i]?=some s/\iq K H A e o s
 |[],as,ts,vs,h,i,e,he=>by simp[v3] at he
 |false::fs,as,ts,vs,h,i,e,he=>by
  obtain⟨t,gy,v,jr,rfl,rfl,a,h⟩:=h;cases i with
  |zero=>simp only[v3,WT,Option.some.injEq] at he;subst he;exact⟨none,some v,rfl,rfl,rfl,v,rfl,a⟩
  |succ i=>exact oJ h i e (by simpa[v3] using he)
 |true::fs,as,ts,vs,h,i,e,he=>by
  obtain⟨a,rm,t,gy,jr,rfl,rfl,rfl,r,h⟩:=h;cases i with
  |zero=>simp only[v3,WT,Option.some.injEq] at he;subst he;exact⟨some a,some (.ref a),rfl,rfl,a,rfl,rfl,r⟩
  |succ i=>exact oJ h i e (by simpa[v3] using he)
theorem lQ:∀{fs:List Bool}{as:Ω}{ts:List T}{vs:qak},eS K H A fs as ts vs->∀a∈as,∃t,cL K H A a t
 |[],as,ts,vs,h,a,ha=>by obtain⟨rfl,rfl,rfl⟩:=h;cases ha
 |false::fs,as,ts,vs,h,a,ha=>by obtain⟨t,gy,v,jr,rfl,rfl,_,h⟩:=h;exact lQ h a ha
 |true::fs,as,ts,vs,h,a,ha=>by
  obtain⟨b,rm,t,gy,jr,rfl,rfl,rfl,r,h⟩:=h;rcases dg.mp ha with z|z
  subst z;exact⟨t,r⟩;exact lQ h a z
theorem EW:∀{fs:List Bool}{as:Ω}{ts:List T}{vs:qak}(k:Nat),eS K H A fs as ts vs->(pz fs as k).map (·.2)=as/\∀p∈pz fs as k,k<=p.1/\(ro fs as)[p.1-k]?=some (some p.2)
 |[],as,ts,vs,k,h=>by obtain⟨rfl,rfl,rfl⟩:=h;exact⟨rfl,λ_ z=>nomatch z⟩
 |false::fs,as,ts,vs,k,h=>by
  obtain⟨t,gy,v,jr,rfl,rfl,_,h⟩:=h;obtain⟨h1,h2⟩:=EW (k+1) h;refine⟨h1,λp hp=>?_⟩;obtain⟨l,e⟩:=h2 p hp;refine⟨by lia,?_⟩;have:p.1-k=(p.1-(k+1))+1:=by lia
  rw[this];simpa[ro] using e
 |true::fs,as,ts,vs,k,h=>by
  obtain⟨a,rm,t,gy,jr,rfl,rfl,rfl,_,h⟩:=h;obtain⟨h1,h2⟩:=EW (k+1) h;refine⟨by simp[pz,h1],λp hp=>?_⟩;rcases dg.mp hp with z|z
  subst z;exact⟨cc _,by simp[ro]⟩;obtain⟨l,e⟩:=h2 p z;refine⟨by lia,?_⟩;have:p.1-k=(p.1-(k+1))+1:=by lia
  rw[this];simpa[ro] using e
theorem sX{R:Addr->T->Prop}{ρ:En}:∀{fs:List Bool}{as:Ω}{ts:List T}{vs:qak}(k:Nat),eS K H A fs as ts vs->(∀p∈pz fs as k,∃t,ρ[p.1]?=some (some (t,true))/\R p.2 t)->Paired R as (kj fs (ρ.drop k))
 |[],as,ts,vs,k,h,_=>by obtain⟨rfl,rfl,rfl⟩:=h;exact .nil
 |false::fs,as,ts,vs,k,h,q=>by obtain⟨t,gy,v,jr,rfl,rfl,_,h⟩:=h;have:=sX (k+1) h q;simp only[kj,List.tail_drop];exact this
 |true::fs,as,ts,vs,k,h,q=>by
  obtain⟨a,rm,t,gy,jr,rfl,rfl,rfl,_,h⟩:=h;have:=sX (ρ:=ρ) (k+1) h λp hp=>q p (gz _ hp);obtain⟨u,e,r⟩:=q (k,a) fB;have hk:=(dz.mp e).1;have e2:ρ[k]=some (u,true):=by rw[jj hk] at e;exact Option.some.inj e
  rw[Sv hk,e2];exact .cons r this
end
theorem EX{X:Cx}{N:ω}{fs:List Bool}{as Ox:Ω}{ts:List T}{Q:VK}{q:List T->Rt->Prop}{g:FS}(nd:as.Nodup)(nx:∀a∈as,a∉Ox)(ox:∀a∈Ox,H a≠none)(ha:eS X.K H (as++Ox) fs as ts vs)(kk:∀us r,q us r->∀v H',(∀b o,H b=some o->b∉as->H' b=some o)->Uq X.K H as Ox H' us r v->Q v H')(hq:g {nx:=λρ=>q (kj fs ρ) (.vw .bB),rt:=λρ r=>q (kj fs ρ) r} (v3 fs ts++List.replicate (N.length-ts.length) none)) :
  lS X ⟨H,pz fs as 0,Ox⟩ [] g {nx:=λ_ H'=>Q .bB H',rt:=Q} (start N vs) H:=by
 obtain⟨K,eK⟩:∃K,K=X.K:=⟨_,rfl⟩;unfold lS;rw[<- eK] at ha kk ⊢;obtain⟨l1,l2,l3,l4,l5⟩:=gk ha;obtain⟨p1,p2⟩:=EW 0 ha;have ea:av ⟨H,pz fs as 0,Ox⟩ (ro fs as++List.replicate (N.length-ts.length) none)=as++Ox:=by unfold av;rw[dG,l5]
 have I0:au K ⟨H,pz fs as 0,Ox⟩ [] (ro fs as++List.replicate (N.length-ts.length) none) (v3 fs ts++List.replicate (N.length-ts.length) none) (start N vs) H:=by
  refine⟨?_,?_,λi e he=>?_,by rw[dG,l5];exact nd,λa h=>?_,λp hp=>?_,ox,λb o e _=>e,λp hp=>nomatch hp⟩;unfold L2.start;simp[l2,l4,l1];simp[l3,l4];rw[ea];by_cases hi:i<fs.length;rw[mK (by rw[l4];exact hi)] at he;obtain⟨o,s,h1,h2,h3⟩:=oJ ha i e he;refine⟨o,s,by rw[mK (by rw[l3];exact hi)];exact h1,?_,h3⟩;unfold L2.start;rw[mK (by rw[bX,l2];exact hi)];exact h2;rw[List.getElem?_append_right (by lia),DV] at he;split at he
  rename_i hl
  cases he;refine⟨none,none,?_,?_,rfl⟩;rw[p8 (by lia),DV,ι (by rw[l3];rw[l4] at hl;exact hl)];unfold L2.start;rw[p8 (by rw[bX];lia),DV,bX,ι (by rw[l2];rw[l4,l1] at hl;exact hl)];cases he;rw[dG,l5] at h;obtain⟨t,r⟩:=lQ ha a h;exact⟨.inl (by rw[p1];exact h),nx a h,r.mut⟩;obtain⟨_,e⟩:=p2 p hp;rw[Nat.sub_zero] at e;rw[mK (dz.mp e).1];exact e
 have fin:∀{O:HD}{ρ:En}{σ:St}{H':Hp}{Z':Zc},Z'.P=pz fs as 0->au K Z' [] O ρ σ H'->Paired (λa u=>cL K H' (av Z' O) a u) as (kj fs ρ):=λ{O ρ σ H' Z'} eP I=>by
  have:=sX (ρ:=ρ) (R:=λa u=>cL K H' (av Z' O) a u) 0 ha λp hp=>?_;rw[List.drop_zero] at this;exact this;have e:=I.par p (by rw[eP];exact hp);have hl:=(dz.mp e).1;have Ja:p.1<ρ.length:=by rw[<- I.lO];exact hl
  obtain⟨o,s',h1,h2,h3⟩:=I.sl p.1 ρ[p.1] (by simp);rw[e] at h1;cases h1;cases q:ρ[p.1] with
  |none=>rw[q] at h3;cases h3
  |some tb=>
    obtain⟨t,b⟩:=tb;rw[q] at h3;cases b with
    |false=>cases h3.1
    |true=>obtain⟨a',e1,_,r⟩:=h3;cases e1;exact⟨t,by rw[<- q];simp,r⟩
 have keep:∀{O:HD}{ρ:En}{σ:St}{H':Hp}{Z':Zc},Z'.H0=H->Z'.P=pz fs as 0->au K Z' [] O ρ σ H'->∀b o,H b=some o->b∉as->H' b=some o:=λe0 eP I b o e n=>I.keep b o (by rw[e0];exact e) (by rw[eP,p1];exact n);have sub:∀{O:HD}{ρ:En}{σ:St}{H':Hp}{Z':Zc},Z'.P=pz fs as 0->au K Z' [] O ρ σ H'->∀a∈as,a∈roots O:=λeP I a h=>by
  have:a∈(pz fs as 0).map (·.2):=by rw[p1];exact h
  obtain⟨p,hp,rfl⟩:=jZ.mp this;exact aF.mpr (f_ (I.par p (by rw[eP];exact hp)))
 refine⟨_,_,_,I0,hq,⟨λO ρ σ H' I h=>?_,λO ρ σ H' r v z h=>?_,λ_ _ _ _ _ h=>h.elim,λ_ _ _ _ _ h=>h.elim⟩⟩;have sb:∀a∈as++Ox,a∈av ⟨H,pz fs as 0,Ox⟩ O:=λa h=>by
  rcases gx.mp h with h|h
  exact hX _ (sub rfl I a h);exact iN _ h
 exact kk _ _ h .bB H' (keep rfl rfl I) ⟨sR,Paired.j3 (fin rfl I) λ_ _ q=>q.bj sb⟩;cases r with
 |vw t=>
   obtain⟨I,a⟩:=z;have sb:∀a∈as++Ox,a∈av ⟨H,pz fs as 0,Ox⟩ O:=λa h=>by
    rcases gx.mp h with h|h
    exact hX _ (sub rfl I a h);exact iN _ h
   exact kk _ _ h v H' (keep rfl rfl I) ⟨a.bj sb,Paired.j3 (fin rfl I) λ_ _ q=>q.bj sb⟩
 |fr t=>
   obtain⟨b,rfl,I,hR,h0,hx⟩:=z;have sb:∀a∈b::(as++Ox),a∈av (Zc.ex ⟨H,pz fs as 0,Ox⟩ b) O:=λa h=>by
    rcases dg.mp h with h|h
    rw[h];exact iN _ fB;rcases gx.mp h with h|h
    exact hX _ (sub rfl I a h);exact iN _ (gz _ h)
   exact kk _ _ h (.ref b) H' (keep rfl rfl I) ⟨b,rfl,h0,λhb=>(I.own b (sub rfl I b hb)).2.1 fB,hR.bj sb,Paired.j3 (fin rfl I) λ_ _ q=>q.bj sb⟩
section
def Zs{st:Stmt}{N:ω}{k:Nat}{fs:List Bool}{G:GT}(F:B5 K x qual st f fd)(S:aJ N ps (aq st))(Zt:fs.length=ps.length)(eQ:∀(bP:Value) (A:Around) (outer:List Env) (s:Shared) (H:Hp) (E:XK) (as Ox:Ω),bA k (A.deeper (envOfC qual (aq st) s.heap.objs.size f bP))->∀ts q,ts.length=fs.length->G ts q ->
    ∃g,ir (jD iR P w K mg base N qual (aq st) f bP A outer s H E).BM ⟨H,pz fs as 0,Ox⟩ (b_ st) g/\g {nx:=λρ=>q (kj fs ρ) (.vw .bB),rt:=λρ r=>q (kj fs ρ) r} (v3 fs ts++List.replicate (N.length-ts.length) none)) :
  dA P w K mg base iR (k+1) f fd ps (qv K fs G):=by
 refine F.ok S (λvs H Q E h=>?_) (λbP A outer s H vs Q E hr h=>?_);obtain⟨ts,as,Ox,q,_,_,_,ha,_⟩:=h;rw[<- Zt];exact (gk ha).2.1;obtain⟨ts,as,Ox,q,nd,nx,ox,ha,hG,kk⟩:=h;have l1:=(gk ha).1;obtain⟨g,hg,hq⟩:=eQ bP A outer s H E as Ox hr ts q l1 hG;exact⟨_,hg [],EX nd nx ox ha kk hq⟩
end
def cM(K:zm)(n:Nat)(G:List T->(Rt->Prop)->Prop):Sp:=qv K (List.replicate n false) λts q=>G ts (q [])
section
variable{A:Ω}
theorem gF:∀{n:Nat}{ts:List T}{vs:qak},ts.length=n->az K H A ts vs->eS K H A (List.replicate n false) [] ts vs
 |0,ts,vs,l,h=>by have e:ts=[]:=Mr.mp l;subst e;simp only[az] at h;exact⟨rfl,rfl,h⟩
 |n+1,ts,vs,l,h=>by
  cases ts with
  |nil=>simp at l
  |cons t ts=>simp only[az] at h;obtain⟨v,r,rfl,h1,h2⟩:=h;exact⟨t,ts,v,r,rfl,rfl,h1,gF (by simpa using l) h2⟩
end
def au.Na{Z:Zc}{tm:List (T×V)}{ρ:En}(I:au K Z tm O ρ σ H){a:Addr}(h:H a=none)(s:aL H H'){u:HO}(hu:H' a=some u):au K (Z.ex a) tm O ρ σ H':=by
 have J:=I.same s;obtain⟨n1,n2,n3⟩:=I.fresh h;have mr:∀b∈av (Z.ex a) O,b∈av Z O\/H b=none:=λb hb=>(cU b hb).imp id λe=>by rw[e];exact h
 have fw:∀{t:T}{v:V},At K H (av Z O) t v->At K H' (av (Z.ex a) O) t v:=λq=>(q.more mr).same s;refine⟨J.lσ,J.lO,λi e hi=>?_,J.nd,λb hb=>?_,J.par,λb hb=>?_,J.keep,λp hp=>fw (I.jG p hp)⟩;obtain⟨o,w,h1,h2,h3⟩:=I.sl i e hi;refine⟨o,w,h1,h2,h3.map (λ_ _ q=>fw q) λb t eo q=>?_⟩;exact cL.same (q.map rfl λ_ _ z=>z.more mr) s;obtain⟨q1,q2,q3⟩:=J.own b hb;refine⟨q1,λz=>?_,q3⟩;rcases dg.mp z with z|z
 exact n1 (by rw[<- z];exact hX _ hb);exact q2 z;rcases dg.mp hb with z|z
 rw[z,hu];simp;exact J.ox b z
def iu(n:Nat)(g:FA)(G:List T->(Rt->Prop)->Prop):FP:=λρ Q=>g ρ λts=>ts.length=n/\G ts Q
section
variable{X:Cx}{Z:Zc}{k:Nat}{G:List T->(Rt->Prop)->Prop}{pos:Pos}{g:FA}
def Ay{tm:List (T×V)}{ρ:En}{ts:List T}{q:Rt->Prop}{Q:VK}(I:au X.K Z tm O ρ σ H)(a:az X.K H (av Z O) ts vs)(hn:ts.length=n)(hG:G ts q)(k:∀r,q r->∀v H',aL H H'->g8 X.K Z tm O ρ σ H' r v->Q v H'):cM X.K n G (vs++[]) H Q E0:=by
 rw[BH];refine⟨ts,[],av Z O,λ_ r=>q r,IW,λ_ z=>absurd z fE,I.JK,gF hn a,hG,λus r hr v H' fr z=>?_⟩;have s:aL H H':=λb o e=>fr b o e fE;cases r with
 |vw t=>exact k _ hr v H' s ⟨I.same s,z.1⟩
 |fr t=>
  obtain⟨b,rfl,hb,_,hR,_⟩:=z;obtain⟨n1,n2,n3⟩:=I.fresh hb;obtain⟨u,eu,_⟩:=hR.mut;refine k _ hr _ H' s ⟨b,rfl,I.Na hb s eu,hR.bj λc hc=>?_,n3,n2⟩;rcases cU c hc with z|z
  exact gz _ z;rw[z];exact fB
def cx(F:dA X.prog X.w X.K X.mg X.base iR k f fd ps (cM X.K n G))(hr:bA k X.A)(hg:Gl X x)(hm:X.mg x=some (.ref f))(hk:W.keepIn X.K (.ref f)=true)(hb:Binds X.K fd ps [])(ha:VA X Z (e::es) g)(qk:f7 x:=by decide)(he:starEach (e::es) X.env=(false,eval e X.env)::starEach es X.env:=by rfl)(j7:(backTo pos (starEach es X.env)).any (·.1)=false:=by rfl) :
  VP X Z (.Call (.Name x p) (e::es) [] pos) (iu n g G):=.mk λtm=>PE.weak (iQ F hr hg hm hk hb .nil mT (ha tm) qk he j7) λσ H Q ⟨ρ,O,q,I,hf,k⟩ =>
 ⟨ρ,O,_,I,hf,λts f9 vs H1 s1 a1=>Ay (I.same s1) a1 f9.1 f9.2 λr hr v H' s z=>k r hr v H' (s1.trans s) z⟩
end
def AM(K:zm)(H:Hp)(A:Ω)(O:HD)(ρ:En):List (Option Nat)->List T->qak->Prop
 |[],ts,vs=>ts=[]/\vs=[]
 |none::ms,ts,vs=>∃t gy v jr,ts=t::gy/\vs=v::jr/\At K H A t v/\AM K H A O ρ ms gy jr
 |some k::ms,ts,vs=>∃a t gy jr,ts=t::gy/\vs=.ref a::jr/\ρ[k]?=some (some (t,true))/\O[k]?=some (some a)/\AM K H A O ρ ms gy jr
noncomputable def lAM(X:Cx)(Z:Zc)(tm:List (T×V))(ms:List (Option Nat))(f:FA):TA:=λσ H Q=>∃ρ O q,au X.K Z tm O ρ σ H/\f ρ q/\∀ts,q ts->∀vs H',aL H H'->AM X.K H' (av Z O) O ρ ms ts vs->Q vs H'
def PN(X:Cx)(Z:Zc)(es:qap)(ms:List (Option Nat))(f:FA):Prop:=Bx λtm=>PA X es (lAM X Z tm ms f)
instance{X:Cx}{Z:Zc}{es:qap}{ms:List (Option Nat)}{f:FA}:CoeFun (PN X Z es ms f) λ_=>∀tm,PA X es (lAM X Z tm ms f):=⟨λh=>Bx.h h⟩
def EY(i:Nat):FE:=λρ Q=>match ρ[i]? with
 |some (some (t,true))=>Q t
 |_=>False
section
variable{X:Cx}{Z:Zc}{g:FA}
def Az:PN X Z [] [] lL:=.mk λtm=>PA.weak cX λσ H Q ⟨ρ,O,q,I,hf,k⟩=>k _ hf [] H (aL.refl H) ⟨rfl,rfl⟩
def km{ms:List (Option Nat)}{f:FE}(h:VE X Z e f)(h':PN X Z es ms g)(hs:starEach (e::es) X.env=(false,eval e X.env)::starEach es X.env:=by rfl):PN X Z (e::es) (none::ms) (cn f g) :=
 .mk λtm=>PA.weak (bD (h tm) (h' tm) hs) λσ H Q ⟨ρ,O,q,I,hf,k⟩=>⟨ρ,O,_,I,hf,λt ht v H1 s1 a1=>⟨ρ,O,_,I.same s1,ht,λts f9 vs H2 s2 a2=>k _ f9 _ H2 (s1.trans s2) ⟨t,ts,v,vs,rfl,rfl,a1.same s2,a2⟩⟩⟩
def nH(j:Nat){ms:List (Option Nat)}{py:Pos}(h':PN X Z es ms g)(hN:X.N[j]?=some y:=by rfl)(hv:mP X.env.scope y:=by first|exact Or.inl rfl|exact Or.inr (.inl rfl)|exact Or.inr (.inr rfl))(hd:f7 y:=by decide)(fO:qd y:=by decide)(hs:starEach (.Name y py::es) X.env=(false,eval (.Name y py) X.env)::starEach es X.env:=by rfl):PN X Z (.Name y py::es) (some j::ms) (cn (EY j) g) :=
 .mk λtm=>PA.weak (bD (bY hN hv hd fO) (h' tm) hs) λσ H Q ⟨ρ,O,q,I,hf,k⟩=>by
  have Xp:EY j ρ λt=>g ρ λts=>q (t::ts):=hf;unfold EY at Xp;split at Xp
  rename_i t e0
  obtain⟨a,h1,h2,h3⟩:=I.root e0;exact⟨.ref a,h2,ρ,O,_,I,Xp,λts f9 vs H2 s2 a2=>k _ f9 _ H2 s2 ⟨a,t,ts,vs,rfl,rfl,e0,h1,a2⟩⟩;exact Xp.elim
end
noncomputable def putK:qao->List T->En->En
 |k::ks,u::us,ρ=>putK ks us (ρ.set k (some (u,true)))
 |_,_,ρ=>ρ
theorem oK:∀(ks:qao)(us:List T)(ρ:En),(putK ks us ρ).length=ρ.length
 |[],_,_=>rfl
 |_::_,[],_=>rfl
 |k::ks,u::us,ρ=>by rw[putK,oK];simp
theorem v5:∀{ks:qao}{us:List T}{ρ:En}{i:Nat}{e:Option (T×Bool)},ks.Nodup->ks.length=us.length->(putK ks us ρ)[i]?=some e->(i∉ks/\ρ[i]?=some e)\/∃(j:Nat)(u:T),ks[j]?=some i/\us[j]?=some u/\e=some (u,true)
 |[],us,ρ,i,e,_,_,h=>.inl ⟨fE,h⟩
 |k::ks,[],ρ,i,e,_,l,h=>by simp at l
 |k::ks,u::us,ρ,i,e,nd,l,h=>by
  rw[nY] at nd;rcases v5 nd.2 (by simpa using l) (show (putK ks us (ρ.set k (some (u,true))))[i]?=some e from h) with⟨h1,h2⟩|⟨j,u',h1,h2,h3⟩
  rcases get_set h2 with⟨rfl,rfl,_⟩|⟨ne,h2⟩
  exact .inr ⟨0,u,rfl,rfl,rfl⟩;exact .inl ⟨λz=>by rcases dg.mp z with z|z;exact ne z;exact h1 z,h2⟩;exact .inr ⟨j+1,u',by simpa using h1,by simpa using h2,h3⟩
section
variable{A:Ω}
def At.PQ{as:Ω}{t:T}(fr:∀b o,H b=some o->b∉as->H' b=some o)(sub:∀a∈as,a∈A)(mu:∀a∈as,∃u,H a=some u/\m9 u=true)(h:At K H A t v):At K H' A t v:=by
 refine At.map (λb vs q=>?_) (λb vs q=>?_) (λb aV q=>?_) h;obtain q|q:=q
 refine .inl ⟨?_,q.2⟩;have nb:b∉as:=λz=>q.2 (sub b z);obtain z|⟨o',z⟩:=q.1
 exact .inl (fr _ _ z nb);exact .inr ⟨o',fr _ _ z nb⟩;exact .inr q;obtain z|z:=q
 refine .inl ?_;have nb:b∉as:=λm=>by
  obtain⟨u,eu,mu⟩:=mu b m;obtain z|⟨o',z⟩:=z
  rw[z] at eu;cases eu;cases mu;rw[z] at eu;cases eu;cases mu
 obtain z|⟨o',z⟩:=z
 exact .inl (fr _ _ z nb);exact .inr ⟨o',fr _ _ z nb⟩;exact .inr z;exact⟨fr _ _ q.1 λz=>q.2 (sub b z),q.2⟩
theorem AM.args{A':Ω}{O:HD}{ρ:En}(sub:∀a∈A',a∈A)(hr:∀(k:Nat) t,ρ[k]?=some (some (t,true))->∃a,O[k]?=some (some a)/\cL K H A a t):∀{ms:List (Option Nat)}{ts:List T}{vs:qak},AM K H A O ρ ms ts vs ->
  ∃as,eS K H A' (ms.map Option.isSome) as ts vs/\Paired (λa k=>O[k]?=some (some a)) as (ms.filterMap id)
 |[],ts,vs,h=>⟨[],⟨rfl,h.1,h.2⟩,.nil⟩
 |none::ms,ts,vs,h=>by obtain⟨t,gy,v,jr,rfl,rfl,a,h⟩:=h;obtain⟨as,h1,h2⟩:=AM.args sub hr h;exact⟨as,⟨t,gy,v,jr,rfl,rfl,a.bj sub,h1⟩,h2⟩
 |some k::ms,ts,vs,h=>by obtain⟨a,t,gy,jr,rfl,rfl,e0,e1,h⟩:=h;obtain⟨as,h1,h2⟩:=AM.args sub hr h;obtain⟨a',e2,r⟩:=hr k t e0;rw[e1] at e2;cases e2;exact⟨a::as,⟨a,as,t,gy,jr,rfl,rfl,rfl,r.bj sub,h1⟩,.cons e1 h2⟩
end
noncomputable def PR(ms:List (Option Nat))(g:FA)(G:GT):FX:=λρ Q=>g ρ λts=>G ts λus r=>Q (putK (ms.filterMap id) us ρ) r
section
variable{X:Cx}{Z:Zc}{k:Nat}{fs:List Bool}{G:GT}{pos:Pos}{g:FA}{ms:List (Option Nat)}
theorem v7{tm:List (T×V)}{ρ:En}(I:au K Z tm O ρ σ H){a:Addr}(h1:O[i]?=some (some a))(h2:O[j]?=some (some a)):i=j:=by
 have key:∀(O:HD)(i j:Nat),i<j->O[i]?=some (some a)->O[j]?=some (some a)->(roots O).Nodup->False:=by
  intro O;induction O with
  |nil=>intro i j _ h;simp at h
  |cons o O ih=>
   intro i j Am e1 e2 nd;cases j with
   |zero=>lia
   |succ j=>
    have B8:O[j]?=some (some a):=by simpa using e2
    cases i with
    |zero=>
     have:o=some a:=by simpa using e1
     subst this;simp only[roots,qS,id] at nd;exact (nY.mp nd).1 (aF.mpr (f_ B8))
    |succ i=>
     refine ih i j (by lia) (by simpa using e1) B8 ?_;cases o with
     |none=>simpa[roots] using nd
     |some b=>simp only[roots,qS,id] at nd;exact (nY.mp nd).2
 rcases Nat.lt_trichotomy i j with l|l|l
 exact (key O i j l h1 h2 I.nd).elim;exact l;exact (key O j i l h2 h1 I.nd).elim
theorem eU{α β:Type}{F:α->β->Prop}:∀{l₁:List α}{l₂:List β}{a:α},Paired F l₁ l₂->a∈l₁->∃b∈l₂,F a b
 |_,_,_,.nil,h=>nomatch h
 |_,_,a,.cons r t,h=>by
  rcases dg.mp h with z|z
  subst z;exact⟨_,fB,r⟩;obtain⟨b,h1,h2⟩:=eU t z;exact⟨b,gz _ h1,h2⟩
theorem oM{α β:Type}{F:α->β->Prop}:∀{l₁:List α}{l₂:List β}{i:Nat}{b:β},Paired F l₁ l₂->l₂[i]?=some b->∃a,l₁[i]?=some a/\F a b
 |_,_,_,_,.nil,e=>by simp at e
 |_,_,0,_,.cons r _,e=>by simp at e;subst e;exact⟨_,rfl,r⟩
 |_,_,i+1,b,.cons _ t,e=>by obtain⟨a,h1,h2⟩:=oM (i:=i) (b:=b) t (by simpa using e);exact⟨a,by simpa using h1,h2⟩
theorem d4{α β:Type}{F:α->β->Prop}:∀{l₁:List α}{l₂:List β}{i:Nat}{a:α},Paired F l₁ l₂->l₁[i]?=some a->∃b,l₂[i]?=some b/\F a b
 |_,_,_,_,.nil,e=>by simp at e
 |_,_,0,_,.cons r _,e=>by simp at e;subst e;exact⟨_,rfl,r⟩
 |_,_,i+1,b,.cons _ t,e=>by obtain⟨a,h1,h2⟩:=d4 (i:=i) (a:=b) t (by simpa using e);exact⟨a,by simpa using h1,h2⟩
def au.called{Z':Zc}{tm:List (T×V)}{ρ:En}{as:Ω}{ks:qao}{us:List T}(I:au K Z tm O ρ σ H)(hk:Paired (λa k=>O[k]?=some (some a)) as ks)(nk:ks.Nodup)(fr:∀b o,H b=some o->b∉as->H' b=some o)(hu:Paired (λa u=>cL K H' (av Z' O) a u) as us)(hZ:Z'.H0=Z.H0)(hP:Z'.P=Z.P)(hox:∀a∈Z'.Ox,a∉roots O/\H' a≠none)(more:∀a∈av Z' O,a∈av Z O\/H a=none):au K Z' tm O (putK ks us ρ) σ H':=by
 have yO:∀a∈as,a∈roots O:=λa h=>by obtain⟨k,_,e⟩:=eU hk h;exact aF.mpr (f_ e)
 have sub:∀a∈as,a∈av Z O:=λa h=>hX _ (yO a h);have Zu:∀a∈as,a∈av Z' O:=λa h=>hX _ (yO a h);have mu:∀a∈as,∃u,H a=some u/\m9 u=true:=λa h=>(I.own a (yO a h)).2.2;have fw:∀{t:T}{v:V},At K H (av Z O) t v->At K H' (av Z' O) t v:=λq=>(q.more more).PQ fr Zu mu;have Xq:∀{t:List T}{v:qak},az K H (av Z O) t v->az K H' (av Z' O) t v:=λq=>az.iff.mpr (Paired.j3 (az.iff.mp q) λ_ _ z=>fw z);refine⟨by rw[oK];exact I.lσ,by rw[oK];exact I.lO,λi e h=>?_,I.nd,λb hb=>?_,by rw[hP];exact I.par,λa ha=>(hox a ha).2,λb o e n=>?_,λp hp=>fw (I.jG p hp)⟩;rcases v5 nk (by rw[<- IX hk,IX hu]) h with⟨h1,h2⟩|⟨j,u,h1,h2,rfl⟩
 obtain⟨o,s,g1,g2,g3⟩:=I.sl i e h2;refine⟨o,s,g1,g2,g3.map (λ_ _ q=>fw q) λb t eo q=>?_⟩;subst eo;have nb:b∉as:=λm=>by obtain⟨k,yP,PU⟩:=eU hk m;exact h1 (by rw[v7 I g1 PU];exact yP)
 obtain⟨u,eu,_⟩:=q.mut;exact q.map (by rw[eu];exact fr _ _ eu nb) λ_ _ z=>Xq z;obtain⟨a,ha,r⟩:=oM hu h2;obtain⟨k,yP,PU⟩:=d4 hk ha;rw[h1] at yP;cases yP;have hl:i<ρ.length:=by rw[<- I.lO];exact (dz.mp PU).1
 obtain⟨o,s,g1,g2,g3⟩:=I.sl i ρ[i] (by simp);rw[PU] at g1;cases g1;refine⟨some a,s,PU,g2,a,rfl,?_,r⟩;cases q:ρ[i] with
 |none=>rw[q] at g3;cases g3
 |some tb=>
  obtain⟨t,b⟩:=tb;rw[q] at g3;cases b with
  |false=>cases g3.1
  |true=>obtain⟨a',e1,e2,_⟩:=g3;cases e1;exact e2
 obtain⟨q1,q2,v,e,m⟩:=I.own b hb;refine⟨by rw[hZ,hP];exact q1,λz=>(hox b z).1 hb,?_⟩;by_cases hba:b∈as;obtain⟨j,hj⟩:=Mt.mp hba;obtain⟨u,_,r⟩:=d4 hu hj;exact r.mut;exact⟨v,fr _ _ e hba,m⟩;rw[hZ] at e;rw[hP] at n;refine fr _ _ (I.keep b o e n) λm=>?_;rcases (I.own b (yO b m)).1 with z|z
 exact n z;rw[z] at e;cases e
def v8(F:dA X.prog X.w X.K X.mg X.base iR k f fd ps (qv X.K fs G))(hr:bA k X.A)(hg:Gl X x)(hm:X.mg x=some (.ref f))(hk:W.keepIn X.K (.ref f)=true)(hb:Binds X.K fd ps [])(ha:PN X Z (e::es) ms g)(Zt:ms.map Option.isSome=fs:=by rfl)(PV:(ms.filterMap id).Nodup:=by decide)(qk:f7 x:=by decide)(he:starEach (e::es) X.env=(false,eval e X.env)::starEach es X.env:=by rfl)(j7:(backTo pos (starEach es X.env)).any (·.1)=false:=by rfl) :
  VX X Z (.Call (.Name x p) (e::es) [] pos) (PR ms g G):=.mk λtm=>PE.weak (iQ F hr hg hm hk hb .nil mT (ha tm) qk he j7) λσ H Q ⟨ρ,O,q,I,hf,k⟩ =>
 ⟨ρ,O,_,I,hf,λts f9 vs H1 s1 a1=>by
   subst Zt;show qv X.K _ G (vs++[]) H1 Q E0;rw[BH];have J:=I.same s1;obtain⟨as,h1,h2⟩:=AM.args (A':=av Z O) (λ_ z=>z) (λk t e=>by obtain⟨a,q1,q2,q3⟩:=J.root e;exact⟨a,q1,q3⟩) a1;have yO:∀a∈as,a∈roots O:=λa h=>by obtain⟨k,_,e⟩:=eU h2 h;exact aF.mpr (f_ e)
   have ndA:as.Nodup:=by
    clear h1;have:∀{as:Ω}{ks:qao},ks.Nodup->Paired (λa k=>O[k]?=some (some a)) as ks->as.Nodup:=by
     intro as ks nd h;induction h with
     |nil=>exact IW
     |cons r t ih=>rw[nY] at nd ⊢;refine⟨λm=>?_,ih nd.2⟩;obtain⟨k',m1,m2⟩:=eU t m;exact nd.1 (by rw[v7 J r m2];exact m1)
    exact this PV h2
   have Xr:∀b,b∈as++(av Z O).filter (λb=>decide (b∉as))↔b∈av Z O:=λb=>by rw[gx,DB];constructor;rintro (z|z);exact hX _ (yO b z);exact z.1;intro z;by_cases hb:b∈as;exact .inl hb;exact .inr ⟨z,ν hb⟩
   obtain⟨rm,IF,qb⟩:=AM.args (A':=as++(av Z O).filter (λb=>decide (b∉as))) (λb z=>(Xr b).mp z) (λk t e=>by obtain⟨a,q1,q2,q3⟩:=J.root e;exact⟨a,q1,q3⟩) a1;have ee:rm=as:=by
    have:∀{as rm:Ω}{ks:qao},Paired (λa k=>O[k]?=some (some a)) as ks->Paired (λa k=>O[k]?=some (some a)) rm ks->rm=as:=by
     intro as rm ks h h';induction h generalizing rm with
     |nil=>cases h';rfl
     |cons r t ih=>
       cases h' with
       |cons r' t'=>rw[r] at r';cases r';rw[ih t']
    exact this h2 qb
   subst ee;refine⟨ts,rm,(av Z O).filter (λb=>decide (b∉rm)),_,ndA,λa h z=>?_,λa h=>J.JK a (DB.mp h).1,IF,f9,λus r hr v H' fr z=>?_⟩;exact (υ (DB.mp z).2) h;have Ur:∀a∈Z.Ox,a∉roots O/\H' a≠none:=λa h=>by
    have na:a∉roots O:=λm=>(J.own a m).2.1 h;refine⟨na,?_⟩;cases e:H1 a with
    |none=>exact absurd e (J.ox a h)
    |some u=>rw[fr _ _ e λm=>na (yO a m)];simp
   cases r with
   |vw t=>obtain⟨z1,z2⟩:=z;exact k _ _ hr O v H' ⟨J.called h2 PV fr (Paired.j3 z2 λ_ _ q=>q.bj λb hb=>(Xr b).mpr hb) rfl rfl Ur λa h=>.inl h,z1.bj λb hb=>(Xr b).mpr hb⟩
   |fr t=>
     obtain⟨b,rfl,hb,nb,hR,z2⟩:=z;obtain⟨n1,n2,n3⟩:=J.fresh hb;have sb:∀c∈av (Z.ex b) O,c∈b::(rm++(av Z O).filter (λb=>decide (b∉rm))):=λc hc=>by
      rcases cU c hc with z|z
      exact gz _ ((Xr c).mpr z);rw[z];exact fB
     refine k _ _ hr O _ H' ⟨b,rfl,J.called h2 PV fr (Paired.j3 z2 λ_ _ q=>q.bj sb) rfl rfl (λa h=>?_) (λa h=>(cU a h).imp id λe=>by rw[e];exact hb),hR.bj sb,n3,n2⟩;rcases dg.mp h with z|z
     subst z;obtain⟨u,eu,_⟩:=hR.mut;exact⟨λm=>n1 (hX _ m),by rw[eu];simp⟩;exact Ur a z⟩
end
section
variable(K:zm)
theorem v_:PySem.W.kitOne K (.type "int") (.type "int")=some true:=by kernel_rfl
theorem sY:PySem.W.kitOne K (.type "int") (.type "bool")=some false:=by kernel_rfl
theorem wc:PySem.W.kitOne K (.type "int") (.type "str")=some false:=by kernel_rfl
theorem sZ:PySem.W.kitOne K (.type "int") (.type "list")=some false:=by kernel_rfl
theorem qw:PySem.W.kitOne K (.type "int") (.type "tuple")=some false:=by kernel_rfl
theorem s_:PySem.W.kitOne K (.type "bool") (.type "int")=some true:=by kernel_rfl
theorem qx:PySem.W.kitOne K (.type "bool") (.type "bool")=some true:=by kernel_rfl
theorem tf:PySem.W.kitOne K (.type "bool") (.type "str")=some false:=by kernel_rfl
theorem qy:PySem.W.kitOne K (.type "bool") (.type "list")=some false:=by kernel_rfl
theorem oN:PySem.W.kitOne K (.type "bool") (.type "tuple")=some false:=by kernel_rfl
theorem we:PySem.W.kitOne K (.type "str") (.type "int")=some false:=by kernel_rfl
theorem tq:PySem.W.kitOne K (.type "str") (.type "bool")=some false:=by kernel_rfl
theorem wg:PySem.W.kitOne K (.type "str") (.type "str")=some true:=by kernel_rfl
theorem tu:PySem.W.kitOne K (.type "str") (.type "list")=some false:=by kernel_rfl
theorem qz:PySem.W.kitOne K (.type "str") (.type "tuple")=some false:=by kernel_rfl
theorem tw:PySem.W.kitOne K (.type "list") (.type "int")=some false:=by kernel_rfl
theorem qA:PySem.W.kitOne K (.type "list") (.type "bool")=some false:=by kernel_rfl
theorem tD:PySem.W.kitOne K (.type "list") (.type "str")=some false:=by kernel_rfl
theorem qB:PySem.W.kitOne K (.type "list") (.type "list")=some true:=by kernel_rfl
theorem oO:PySem.W.kitOne K (.type "list") (.type "tuple")=some false:=by kernel_rfl
theorem qC:PySem.W.kitOne K (.type "tuple") (.type "int")=some false:=by kernel_rfl
theorem oP:PySem.W.kitOne K (.type "tuple") (.type "bool")=some false:=by kernel_rfl
theorem qD:PySem.W.kitOne K (.type "tuple") (.type "str")=some false:=by kernel_rfl
theorem oQ:PySem.W.kitOne K (.type "tuple") (.type "list")=some false:=by kernel_rfl
theorem m_:PySem.W.kitOne K (.type "tuple") (.type "tuple")=some true:=by kernel_rfl
theorem tF:PySem.W.kitOne K (.type "dict") (.type "int")=some false:=by kernel_rfl
theorem qF:PySem.W.kitOne K (.type "dict") (.type "bool")=some false:=by kernel_rfl
theorem tG:PySem.W.kitOne K (.type "dict") (.type "str")=some false:=by kernel_rfl
theorem qG:PySem.W.kitOne K (.type "dict") (.type "list")=some false:=by kernel_rfl
theorem oR:PySem.W.kitOne K (.type "dict") (.type "tuple")=some false:=by kernel_rfl
theorem lT:PySem.W.kitOne K (.type "NoneType") (.type "int")=some false:=by kernel_rfl
theorem kn:PySem.W.kitOne K (.type "NoneType") (.type "bool")=some false:=by kernel_rfl
theorem lU:PySem.W.kitOne K (.type "NoneType") (.type "str")=some false:=by kernel_rfl
theorem ko:PySem.W.kitOne K (.type "NoneType") (.type "list")=some false:=by kernel_rfl
theorem jK:PySem.W.kitOne K (.type "NoneType") (.type "tuple")=some false:=by kernel_rfl
end
def Ty2(K:zm)(H:Hp):V->String->Prop
 |.bB,t=>t="NoneType"
 |.bl _,t=>t="bool"
 |.int _,t=>t="int"
 |.str _,t=>t="str"
 |.ref a,t=>(t="list"/\∃xs,fG K H a xs)\/(t="tuple"/\∃xs,dS K H a xs)\/(t="dict"/\∃aV,H a=some (.dK aV))
 |_,_=>False
def Us(K:zm):qak->Hp->VK->Prop:=λxs H Q=>∃x n t b,xs=[x,.ty n]/\Ty2 K H x t/\W.kitOne K (.type t) (.type n)=some b/\Q (.bl b) H
def Cc{X:Cx}:c0 X (.builtin "isinstance") (Us X.K):=by
 intro ε s σ H xs us Q I r h;obtain⟨x,n,t,b,rfl,ty,e,q⟩:=h;obtain⟨u,w',rfl,rx,ry⟩:=vals2 r;obtain rfl:w'=Value.type n:=ry;have fin:∀tk,EP X ε σ Q (.bool b) {s with toks:=tk}:=λtk=>⟨.bl b,H,I.tok _,rfl,q⟩;cases x with
 |bB=>cases (show t=_ from ty);cases (show u=Value.none from rx);exact N8 W.kitx_none I.vt True.intro e (λz=>nomatch z) fin
 |bl y=>cases (show t=_ from ty);cases (show u=Value.bool y from rx);exact N8 W.kitx_bool I.vt True.intro e (λz=>nomatch z) fin
 |int i=>cases (show t=_ from ty);obtain⟨t,q⟩:=(show ∃t,u=Value.int i t from rx);cases q;exact N8 W.kitx_int I.vt True.intro e (λz=>nomatch z) fin
 |str y=>cases (show t=_ from ty);obtain⟨t,q⟩:=(show ∃t,u=Value.str y t from rx);cases q;exact N8 W.kitx_str I.vt True.intro e (λz=>nomatch z) fin
 |ref a=>
  cases (show u=Value.ref a from rx);obtain⟨rfl,xs,hq⟩|⟨rfl,xs,hq⟩|⟨rfl,aV,hq⟩:=ty
  obtain⟨aT,_,p,_⟩:=I.list hq;obtain⟨o,n',h1,h2,_⟩:=p;exact N8 W.kitx_list I.vt ⟨o,h1,h2⟩ e (λz=>nomatch z) fin;obtain⟨aT,_,p,_⟩:=I.tuple hq;obtain⟨o,h1,h2,_⟩:=p;exact N8 W.kitx_tuple I.vt ⟨o,h1,h2⟩ e (λz=>nomatch z) fin;obtain⟨_,_,vs,_,p⟩:=(show bH X.prog X.w H s.heap a (.dK aV) from I.bF a _ hq);obtain⟨o,es,ep,h1,h2,_⟩:=p;exact N8 W.kitx_dict I.vt ⟨o,h1,h2.1⟩ e (λz=>nomatch z) fin
 |_=>exact (show False from ty).elim
def isInt:T->Bool
 |.int _=>true
 |.bl _=>true
 |_=>false
def isBool:T->Bool
 |.bl _=>true
 |_=>false
def isStr:T->Bool
 |.str _=>true
 |_=>false
def isList:T->Bool
 |.lst _=>true
 |_=>false
def Kb:T->Bool
 |.tup _=>true
 |_=>false
noncomputable def known:T->Bool
 |.dt _ _=>false
 |.df _ _ _=>false
 |.kt _=>false
 |.ins _ _ _=>false
 |.pin _ _=>false
 |.ob _=>false
 |.ty _=>false
 |_=>true
def lV(K:zm)(n:String)(p:T->Bool):Prop:=∀H A t v,known t=true->gi K H A t v->∃ty,Ty2 K H v ty/\W.kitOne K (.type ty) (.type n)=some (p t)
def wj:lV K "int" isInt:=by
 intro H A t v hk h;cases t with
 |bB=>rw[h.bB];exact⟨_,rfl,lT K⟩
 |bl b=>rw[h.bl];exact⟨_,rfl,s_ K⟩
 |int b=>rw[h.int];exact⟨_,rfl,v_ K⟩
 |str b=>rw[h.str];exact⟨_,rfl,we K⟩
 |tup l=>obtain⟨a,vs,rfl,q,_⟩:=h.tup;exact⟨_,.inr (.inl ⟨rfl,_,q⟩),qC K⟩
 |lst l=>obtain⟨a,vs,rfl,q,_⟩:=h.lst;exact⟨_,.inl ⟨rfl,_,q⟩,tw K⟩
 |dk ks l=>obtain⟨a,vs,rfl,_,q,_⟩:=h.dk;exact⟨_,.inr (.inr ⟨rfl,_,q⟩),tF K⟩
 |_=>simp only[known] at hk;cases hk
def Cd:lV K "bool" isBool:=by
 intro H A t v hk h;cases t with
 |bB=>rw[h.bB];exact⟨_,rfl,kn K⟩
 |bl b=>rw[h.bl];exact⟨_,rfl,qx K⟩
 |int b=>rw[h.int];exact⟨_,rfl,sY K⟩
 |str b=>rw[h.str];exact⟨_,rfl,tq K⟩
 |tup l=>obtain⟨a,vs,rfl,q,_⟩:=h.tup;exact⟨_,.inr (.inl ⟨rfl,_,q⟩),oP K⟩
 |lst l=>obtain⟨a,vs,rfl,q,_⟩:=h.lst;exact⟨_,.inl ⟨rfl,_,q⟩,qA K⟩
 |dk ks l=>obtain⟨a,vs,rfl,_,q,_⟩:=h.dk;exact⟨_,.inr (.inr ⟨rfl,_,q⟩),qF K⟩
 |_=>simp only[known] at hk;cases hk
def dm:lV K "str" isStr:=by
 intro H A t v hk h;cases t with
 |bB=>rw[h.bB];exact⟨_,rfl,lU K⟩
 |bl b=>rw[h.bl];exact⟨_,rfl,tf K⟩
 |int b=>rw[h.int];exact⟨_,rfl,wc K⟩
 |str b=>rw[h.str];exact⟨_,rfl,wg K⟩
 |tup l=>obtain⟨a,vs,rfl,q,_⟩:=h.tup;exact⟨_,.inr (.inl ⟨rfl,_,q⟩),qD K⟩
 |lst l=>obtain⟨a,vs,rfl,q,_⟩:=h.lst;exact⟨_,.inl ⟨rfl,_,q⟩,tD K⟩
 |dk ks l=>obtain⟨a,vs,rfl,_,q,_⟩:=h.dk;exact⟨_,.inr (.inr ⟨rfl,_,q⟩),tG K⟩
 |_=>simp only[known] at hk;cases hk
def rp:lV K "list" isList:=by
 intro H A t v hk h;cases t with
 |bB=>rw[h.bB];exact⟨_,rfl,ko K⟩
 |bl b=>rw[h.bl];exact⟨_,rfl,qy K⟩
 |int b=>rw[h.int];exact⟨_,rfl,sZ K⟩
 |str b=>rw[h.str];exact⟨_,rfl,tu K⟩
 |tup l=>obtain⟨a,vs,rfl,q,_⟩:=h.tup;exact⟨_,.inr (.inl ⟨rfl,_,q⟩),oQ K⟩
 |lst l=>obtain⟨a,vs,rfl,q,_⟩:=h.lst;exact⟨_,.inl ⟨rfl,_,q⟩,qB K⟩
 |dk ks l=>obtain⟨a,vs,rfl,_,q,_⟩:=h.dk;exact⟨_,.inr (.inr ⟨rfl,_,q⟩),qG K⟩
 |_=>simp only[known] at hk;cases hk
def oS:lV K "tuple" Kb:=by
 intro H A t v hk h;cases t with
 |bB=>rw[h.bB];exact⟨_,rfl,jK K⟩
 |bl b=>rw[h.bl];exact⟨_,rfl,oN K⟩
 |int b=>rw[h.int];exact⟨_,rfl,qw K⟩
 |str b=>rw[h.str];exact⟨_,rfl,qz K⟩
 |tup l=>obtain⟨a,vs,rfl,q,_⟩:=h.tup;exact⟨_,.inr (.inl ⟨rfl,_,q⟩),m_ K⟩
 |lst l=>obtain⟨a,vs,rfl,q,_⟩:=h.lst;exact⟨_,.inl ⟨rfl,_,q⟩,oO K⟩
 |dk ks l=>obtain⟨a,vs,rfl,_,q,_⟩:=h.dk;exact⟨_,.inr (.inr ⟨rfl,_,q⟩),oR K⟩
 |_=>simp only[known] at hk;cases hk
noncomputable def Ut(f:FE)(p:T->Bool):FP:=λρ Q=>f ρ λt=>known t=true/\Q (.vw (.bl (p t)))
section
variable{X:Cx}{Z:Zc}{a b:Expr}{pos:Pos}{fa fb Xs:FE}
def tH:bootBuiltins "isinstance"=some (.builtin "isinstance"):=by decide +kernel
def cj{n:String}{q:T->Bool}(hq:lV X.K n q)(hg:Gl X "isinstance")(hm:X.mg "isinstance"=none)(hgy:Gl X y)(hmy:X.mg y=none)(hby:bootBuiltins y=some (.type n))(ha:VR X Z e fa)(hny:y≠"__name__":=by decide)(hdy:f7 y:=by decide)(hs:starEach [e,.Name y p2] X.env=(false,eval e X.env)::starEach [.Name y p2] X.env:=by rfl)(BX:starEach [.Name y p2] X.env=(false,eval (.Name y p2) X.env)::starEach [] X.env:=by rfl)(j7:(backTo pos (starEach [.Name y p2] X.env)).any (·.1)=false:=by rfl) :
  VP X Z (.Call (.Name "isinstance" p) [e,.Name y p2] [] pos) (Ut fa q):=.mk λtm=>
 PE.weak (oj Cc hg hm tH (bD (ha tm) (bD (Jc (v:=.ty n) hgy hmy hby rfl hny hdy) cX BX) hs) (by decide) (by decide) hs j7) λσ H Q ⟨ρ,O,q',I,hf,k⟩=>⟨ρ,O,_,I,hf,λt ht v H1 s1 a1=>by obtain⟨ty,h1,h2⟩:=hq H1 _ t v ht.1 a1;exact⟨v,n,ty,_,rfl,h1,h2,k _ ht.2 _ H1 s1 ⟨I.same s1,dC⟩⟩⟩
def jt:T->Bool
 |.bB=>true
 |.bl _=>true
 |.int _=>true
 |.str _=>true
 |_=>false
def wm:List T->Bool
 |[]=>true
 |t::ts=>jt t && wm ts
noncomputable def DM(x:T):List T->Bool
 |[]=>false
 |t::ts=>eqT t x || DM x ts
theorem lW{K:zm}{H:Hp}{A:Ω}:∀{ts:List T}{vs:qak}{x:T}{v:V},wm ts=true->jt x=true->az K H A ts vs->At K H A x v->vs.all ip=true/\ip v=true/\Xe v vs=DM x ts
 |[],vs,x,v,_,fx,h,hx=>by simp only[az] at h;subst h;refine⟨rfl,?_,rfl⟩;cases x<;>simp only[At] at hx<;>first|(subst hx;rfl)|(simp only[jt] at fx;cases fx)
 |t::ts,vs,x,v,f,fx,h,hx=>by
  simp only[az] at h;obtain⟨u,r,rfl,h1,h2⟩:=h;simp only[wm,ij] at f;obtain⟨i1,i2,i3⟩:=lW f.2 fx h2 hx;have ft:ip u=true:=by cases t<;>simp only[At] at h1<;>first|(subst h1;rfl)|(have:=f.1;simp only[jt] at this;cases this)
  have e:ID u v=eqT t x:=by
   cases t<;>simp only[At] at h1<;>first
    | (have:=f.1;simp only[jt] at this;cases this;done)
    | (subst h1
       cases x<;>simp only[At] at hx<;>first
        | (simp only[jt] at fx;cases fx;done)
        | (subst hx;simp[ID,eqT];done))
  refine⟨by simp[ft,i1],i2,?_⟩;simp only[DM,Xe,BI];rw[e]
  congr 1
noncomputable def Uu(K:zm)(neg:Bool):R2:=λx y H Q=>rIn K neg x y H Q\/∃i j,x=.str i/\y=.str j/\Q (.bl (if neg then !(!(Builtin.Str.occurrences j i 0 j.length 1).isEmpty) else !(Builtin.Str.occurrences j i 0 j.length 1).isEmpty)) H
def EZ:eM X (compareOp .In) (Uu X.K false):=by
 intro ε s σ H x y v u Q I rx ry h;obtain h|⟨i,j,h1,h2,h⟩:=h
 exact B2 ε s σ H x y v u Q I rx ry h;exact BU ε s σ H x y v u Q I rx ry ⟨i,j,h1,h2,by simpa using h⟩
noncomputable def E1(i j:Str):Bool:=!(Builtin.Str.occurrences j i 0 j.length 1).isEmpty
def Xu(x y:T)(q:Rt->Prop):Prop:=match y with
 |.lst ts=>jt x=true/\wm ts=true/\q (.vw (.bl (DM x ts)))
 |.tup ts=>jt x=true/\wm ts=true/\q (.vw (.bl (DM x ts)))
 |.str j=>∃i,x=.str i/\q (.vw (.bl (E1 i j)))
 |_=>False
def E2:nD K (Uu K false) Xu:=by
 intro Z tm O ρ σ H x y v w q Q I h1 h2 h k;have x1:jt x=true->At K H (av Z O) x v:=λf=>by
  obtain h|⟨a,rfl,h⟩:=h1
  exact h;cases x<;>first|exact h.elim|(simp only[jt] at f;cases f)
 unfold Xu at h;split at h;obtain⟨f1,f2,h⟩:=h;obtain⟨a,vs,rfl,q1,q2⟩:=h2.lst;obtain⟨i1,i2,i3⟩:=lW f2 f1 q2 (x1 f1);exact .inl ⟨a,vs,rfl,.inl q1,i2,i1,k _ h _ H (aL.refl H) ⟨I,by rw[η ja,i3];exact dC⟩⟩;obtain⟨f1,f2,h⟩:=h;obtain⟨a,vs,rfl,q1,q2⟩:=h2.tup;obtain⟨i1,i2,i3⟩:=lW f2 f1 q2 (x1 f1);exact .inl ⟨a,vs,rfl,.inr q1,i2,i1,k _ h _ H (aL.refl H) ⟨I,by rw[η ja,i3];exact dC⟩⟩;obtain⟨i,rfl,h⟩:=h;exact .inr ⟨i,_,h1.str,h2.str,k _ h _ H (aL.refl H) ⟨I,by rw[η ja];exact dC⟩⟩;exact h.elim
def Uv(ha:VR X Z a fa)(hb:VR X Z b fb)(hm:behindInMarks .In b=false:=by rfl):VP X Z (.Compare a [.In] [b] pos) (f2 fa fb Xu):=sS EZ E2 ha hb hm
def Nb(ha:VR X Z a fa)(hb:VR X Z b fb)(hm:behindInMarks .In b=false:=by rfl):VC X Z (.Compare a [.In] [b] pos) (lH (f2 fa fb Xu)):=jH EZ E2 ha hb hm
def wo:T->Bool
 |.bB=>true
 |_=>false
def Xv(x y:T)(q:Rt->Prop):Prop:=match y with
 |.bB=>q (.vw (.bl (wo x)))
 |_=>False
def tI(x y:T)(q:Rt->Prop):Prop:=match y with
 |.bB=>q (.vw (.bl (!wo x)))
 |_=>False
def AA{A:Ω}{t:T}(h:gi K H A t v):decide (v=.bB)=wo t:=by
 cases t with
 |bB=>rw[h.bB];rfl
 |bl b=>rw[h.bl];rfl
 |int b=>rw[h.int];rfl
 |str b=>rw[h.str];rfl
 |ob b=>rw[h.ob];rfl
 |ty b=>have:v=.ty b:=h.elim (λq=>by simpa only[At] using q) λ⟨_,_,q⟩=>q.elim;rw[this];rfl
 |tup l=>obtain⟨a,vs,rfl,_⟩:=h.tup;rfl
 |lst l=>obtain⟨a,vs,rfl,_⟩:=h.lst;rfl
 |dk ks l=>obtain⟨a,vs,rfl,_⟩:=h.dk;rfl
 |dt ks l=>obtain⟨a,vs,rfl,_⟩:=h.dt;rfl
 |df o ks l=>obtain⟨a,vs,rfl,_⟩:=h.df;rfl
 |kt k=>obtain⟨a,rfl,_⟩:=h.kt;rfl
 |ins C ns l=>obtain⟨a,dx,vs,rfl,_⟩:=h.ins;rfl
 |pin a t=>have e:v=.ref a:=h.elim (λq=>by simp only[At] at q;exact q.1) λ⟨_,_,q⟩=>q.elim;rw[e];rfl
def E3:nD K (λx y H Q=>y=.bB/\Q (.bl (decide (x=.bB))) H) Xv:=by intro Z tm O ρ σ H x y v w q Q I h1 h2 h k;unfold Xv at h;split at h;exact⟨h2.bB,k _ h _ H (aL.refl H) ⟨I,by rw[AA h1];exact dC⟩⟩;exact h.elim
def Ce:nD K (λx y H Q=>y=.bB/\Q (.bl (!decide (x=.bB))) H) tI:=by intro Z tm O ρ σ H x y v w q Q I h1 h2 h k;unfold tI at h;split at h;exact⟨h2.bB,k _ h _ H (aL.refl H) ⟨I,by rw[AA h1];exact dC⟩⟩;exact h.elim
def Uw(ha:VR X Z a fa)(hb:VR X Z b fb):VP X Z (.Compare a [.Is] [b] pos) (f2 fa fb Xv):=sS Ec E3 ha hb (gB _)
def Ux(ha:VR X Z a fa)(hb:VR X Z b fb):VC X Z (.Compare a [.Is] [b] pos) (lH (f2 fa fb Xv)):=jH Ec E3 ha hb (gB _)
def E4(ha:VR X Z a fa)(hb:VR X Z b fb):VC X Z (.Compare a [.IsNot] [b] pos) (lH (f2 fa fb tI)):=jH Jl Ce ha hb (gB _)
def E5{g g':Int->Int->Bool}{tm:List (T×V)}{Q:VK}(h:lP X Z tm (f3 fa fb Xs (Ud g) (Ud g')) σ H Q):Ed (qa λi j=>.bl (g i j)) (qa λi j=>.bl (g' i j)) (lR X Z tm fa) (lR X Z tm fb) (lR X Z tm Xs) σ H Q:=by
 obtain⟨ρ,O,q,I,hf,k⟩:=h;refine⟨ρ,O,_,I,hf,λx hx v H1 s1 a1=>⟨ρ,O,_,I.same s1,hx,λy hy w H2 s2 a2=>?_⟩⟩;have J:=(I.same s1).same s2;unfold Ud at hy;split at hy
 rename_i i j
 refine⟨i,j,(a1.same s2).int,a2.int,_,rfl,?_⟩;cases e:g i j with
 |true=>
  rw[e] at hy;refine TZ ⟨ρ,O,_,J,hy,λz hz w3 H3 s3 a3=>?_⟩;split at hz
  rename_i e1
  cases e1;exact⟨_,_,(a2.same s3).int,a3.int,k _ hz _ H3 ((s1.trans s2).trans s3) ⟨J.same s3,dC⟩⟩;exact hz.elim
 |false=>rw[e] at hy;exact TY (k _ hy _ H2 (s1.trans s2) ⟨J,dC⟩)
 exact hy.elim
def E6{op OQ:CmpOp}{g g':Int->Int->Bool}(ho:eM X (compareOp op) (qa λi j=>.bl (g i j)))(n5:eM X (compareOp OQ) (qa λi j=>.bl (g' i j)))(ha:VR X Z a fa)(hb:VR X Z b fb)(hc:VR X Z c Xs)(hm:lastMarks [op,OQ] [b,c]=false:=by with_unfolding_all rfl):VC X Z (.Compare a [op,OQ] [b,c] pos) (lH (f3 fa fb Xs (Ud g) (Ud g'))):=.mk λtm=>PT.weak (Ee ho n5 (ha tm) (hb tm) (hc tm) hm) λσ H Q ⟨ρ,O,q,I,hf,k⟩ =>
 E5 ⟨ρ,O,_,I,hf,λt ht u H' s a=>by obtain⟨c,rfl,hc⟩:=yJ ht;have e:=a.2;simp only[At] at e;exact⟨c,e,k c hc H' s⟩⟩
def eV(ts:List T):List T:=ts.mapIdx λi t=>.tup [.int (i:Int),t]
def Uy(f:FE):FI:=λρ Q=>f ρ λt=>match t with
 |.lst ts=>Q (eV ts)
 |_=>False
theorem Kc{a:Addr}{ts:List T}:Wk K (Y5 K a) [(.lst ts,.ref a)] (eV ts):=λH A hA h i=>by
 have h:=h _ fB;simp only[At] at h;obtain⟨b,vs,e,l,q⟩:=h;cases e;have hl:=q.length;have hle:(eV ts).length=ts.length:=by unfold eV;rw[List.length_mapIdx]
 rw[hle];refine⟨λhi=>⟨vs,vs[i]'(by lia),l.sq,by simp⟩,λhi=>⟨vs,l.sq,by lia⟩,λt ht x H' y=>?_⟩;obtain⟨p,u,hp,rfl,hu,rfl⟩:=y;unfold eV at ht;rw[WY] at ht;cases e:ts[i]? with
 |none=>rw[e] at ht;cases ht
 |some t'=>rw[e] at ht;cases ht;obtain⟨v,e1,e2⟩:=q.get e;have:=hu vs l.sq;rw[e1] at this;cases this;exact⟨aG hp,cY (dS.of aA) (az.cons bE (az.cons (e2.same (aG hp)) az.nil))⟩
def kq{x1}(hg:Gl X "enumerate")(hm:X.mg "enumerate"=none)(ha:VE X Z a fa)(hs:starEach [a] X.env=[(false,eval a X.env)]:=by rfl) :
  VI X Z (.Tuple elts x1 tp) (.Call (.Name "enumerate" p) [a] [] pos) (Uy fa):=.mk λtm=>PI.weak (JI hg hm (bD (ha tm) cX hs) hs) λσ H R ⟨ρ,O,q,I,hf,k⟩=>⟨ρ,O,_,I,hf,λt ht v H' s a=>by
 split at ht;have a0:=a;simp only[At] at a;obtain⟨p,vs,rfl,l,_⟩:=a;exact⟨p,rfl,⟨vs,l.sq⟩,k _ ht _ H' _ s (λp hp=>by rw[hY.mp hp];exact a0) Kc⟩;exact ht.elim⟩
noncomputable def c7:List T->Option (List Bool)
 |[]=>some []
 |.bl b::ts=>(c7 ts).map (b::·)
 |_=>none
noncomputable def intsOf:List T->Option (qan)
 |[]=>some []
 |.int b::ts=>(intsOf ts).map (b::·)
 |_=>none
theorem E7{K:zm}{H:Hp}{A:Ω}:∀{ts:List T}{bs:List Bool}{vs:qak},c7 ts=some bs->az K H A ts vs->vs=bs.map V.bl
 |[],bs,vs,e,h=>by simp only[c7] at e;cases e;simp only[az] at h;rw[h];rfl
 |.bl b::ts,bs,vs,e,h=>by
  simp only[c7] at e;cases q:c7 ts with
  |none=>rw[q] at e;cases e
  |some cs=>rw[q] at e;cases e;simp only[az,At] at h;obtain⟨v,r,rfl,rfl,h⟩:=h;rw[E7 q h];rfl
 |.bB::_,_,_,e,_=>by simp[c7] at e
 |.int _::_,_,_,e,_=>by simp[c7] at e
 |.str _::_,_,_,e,_=>by simp[c7] at e
 |.tup _::_,_,_,e,_=>by simp[c7] at e
 |.lst _::_,_,_,e,_=>by simp[c7] at e
 |.dk _ _::_,_,_,e,_=>by simp[c7] at e
 |.dt _ _::_,_,_,e,_=>by simp[c7] at e
 |.df _ _ _::_,_,_,e,_=>by simp[c7] at e
 |.kt _::_,_,_,e,_=>by simp[c7] at e
 |.ins _ _ _::_,_,_,e,_=>by simp[c7] at e
 |.pin _ _::_,_,_,e,_=>by simp[c7] at e
 |.ob _::_,_,_,e,_=>by simp[c7] at e
 |.ty _::_,_,_,e,_=>by simp[c7] at e
theorem AB{K:zm}{H:Hp}{A:Ω}:∀{ts:List T}{bs:qan}{vs:qak},intsOf ts=some bs->az K H A ts vs->vs=bs.map V.int
 |[],bs,vs,e,h=>by simp only[intsOf] at e;cases e;simp only[az] at h;rw[h];rfl
 |.int b::ts,bs,vs,e,h=>by
  simp only[intsOf] at e;cases q:intsOf ts with
  |none=>rw[q] at e;cases e
  |some cs=>rw[q] at e;cases e;simp only[az,At] at h;obtain⟨v,r,rfl,rfl,h⟩:=h;rw[AB q h];rfl
 |.bB::_,_,_,e,_=>by simp[intsOf] at e
 |.bl _::_,_,_,e,_=>by simp[intsOf] at e
 |.str _::_,_,_,e,_=>by simp[intsOf] at e
 |.tup _::_,_,_,e,_=>by simp[intsOf] at e
 |.lst _::_,_,_,e,_=>by simp[intsOf] at e
 |.dk _ _::_,_,_,e,_=>by simp[intsOf] at e
 |.dt _ _::_,_,_,e,_=>by simp[intsOf] at e
 |.df _ _ _::_,_,_,e,_=>by simp[intsOf] at e
 |.kt _::_,_,_,e,_=>by simp[intsOf] at e
 |.ins _ _ _::_,_,_,e,_=>by simp[intsOf] at e
 |.pin _ _::_,_,_,e,_=>by simp[intsOf] at e
 |.ob _::_,_,_,e,_=>by simp[intsOf] at e
 |.ty _::_,_,_,e,_=>by simp[intsOf] at e
def Uz(ts:List T)(q:Rt->Prop):Prop:=match ts with
 |[.lst l]=>∃bs,c7 l=some bs/\q (.vw (.bl (bs.all id)))
 |_=>False
def Cf:jq K (λxs H Q=>∃(p:Addr)(bs:List Bool),xs=[.ref p]/\fG K H p (bs.map V.bl)/\Q (.bl (bs.all id)) H) Uz:=by intro Z tm O ρ σ H ts vs q Q I h hp k;unfold Uz at hp;split at hp;obtain⟨bs,e,hp⟩:=hp;obtain⟨v,rfl,a⟩:=cv h;obtain⟨p,ws,rfl,q1,q2⟩:=a.lst;rw[E7 e q2] at q1;exact⟨p,bs,rfl,q1,k _ hp _ H (aL.refl H) ⟨I,dC⟩⟩;exact hp.elim
def UA(ts:List T)(q:Rt->Prop):Prop:=match ts with
 |[.lst l]=>∃ns,intsOf l=some ns/\q (.vw (.int ns.sum))
 |_=>False
def Cg:jq K (λxs H Q=>∃(p:Addr)(ns:qan),xs=[.ref p]/\fG K H p (ns.map V.int)/\Q (.int ns.sum) H) UA:=by intro Z tm O ρ σ H ts vs q Q I h hp k;unfold UA at hp;split at hp;obtain⟨bs,e,hp⟩:=hp;obtain⟨v,rfl,a⟩:=cv h;obtain⟨p,ws,rfl,q1,q2⟩:=a.lst;rw[AB e q2] at q1;exact⟨p,bs,rfl,q1,k _ hp _ H (aL.refl H) ⟨I,bE⟩⟩;exact hp.elim
def Nc(ts:List T)(q:Rt->Prop):Prop:=match ts with
 |[.int i]=>q (.vw (.int i))
 |[.bl b]=>q (.vw (.int (if b then 1 else 0)))
 |_=>False
def oU:jq K (λxs H Q=>(∃i,xs=[.int i]/\Q (.int i) H)\/∃k,xs=[.bl k]/\Q (.int (if k then 1 else 0)) H) Nc:=by intro Z tm O ρ σ H ts vs q Q I h hp k;unfold Nc at hp;split at hp;obtain⟨v,rfl,a⟩:=cv h;exact .inl ⟨_,by rw[a.int],k _ hp _ H (aL.refl H) ⟨I,bE⟩⟩;obtain⟨v,rfl,a⟩:=cv h;exact .inr ⟨_,by rw[a.bl],k _ hp _ H (aL.refl H) ⟨I,bE⟩⟩;exact hp.elim
def Zv(f:FP)(fb:FE):FP:=λρ Q=>f ρ λr=>match r with
 |.fr (.lst ts)=>fb ρ λy=>match y with
  |.int k=>-(2 ^ 63)<=k/\k<2 ^ 63/\ts.length * k.toNat<=sizeLine/\Q (.fr (.lst (List.replicate k.toNat ts).flatten))
  |_=>False
 |_=>False
theorem az.rep{K:zm}{H:Hp}{A:Ω}{ts:List T}{vs:qak}(h:az K H A ts vs):∀k:Nat,az K H A (List.replicate k ts).flatten (List.replicate k vs).flatten
 |0=>az.nil
 |k+1=>by rw[BF,BF,SJ,SJ];exact h.append (az.rep h k)
def tJ{f:FP}(ha:VP X Z a f)(hb:VR X Z b fb):VP X Z (.BinOp a .Mult b pos) (Zv f fb):=.mk λtm=>PE.weak (ME O9 (ha tm) (hb tm)) λσ H Q ⟨ρ,O,q,I,hf,k⟩=>⟨ρ,O,_,I,hf,λr hr v H1 s1 z=>by split at hr;obtain⟨l,rfl,J,⟨xs,e,q1⟩,_⟩:=z;refine⟨ρ,O,_,I.same s1,hr,λy hy w H2 s2 a2=>?_⟩;split at hy;obtain⟨h1,h2,h3,hy⟩:=hy;have q2:az X.K H2 (av Z O) _ xs:=(q1.same s2).bj gh;exact⟨l,_,xs,rfl,a2.int,s2 _ _ e,h1,h2,by rw[q2.length];exact h3,λp hp=>k _ hy _ _ ((s1.trans s2).trans (aG hp)) (((I.same s1).same s2).yI hp (q2.rep _))⟩;exact hy.elim;exact hr.elim⟩
end
structure Df(K:zm)(mg:qae)(x:Str)(st:Stmt)(ps:ω)(f:Addr)(fd:FuncData):Prop where
 F:B5 K x x st f fd
 m:mg x=some (.ref f)
 b:Binds K fd ps []
def cC(P:Program)(w:World)(K:zm)(mg:qae)(base:Heap)(x:Str)(ps:ω)(k:Nat)(sp:Sp):Prop :=
 ∃f fd,mg x=some (.ref f)/\W.keepIn K (.ref f)=true/\Binds K fd ps []/\dA P w K mg base iR k f fd ps sp
def Df.ic{st:Stmt}{k:Nat}{sp:Sp}(D:Df K mg x st ps f fd)(F:dA P w K mg base iR k f fd ps sp):cC P w K mg base x ps k sp :=
 ⟨f,fd,D.m,D.F.kp,D.b,F⟩
def ie{Ox:Ω}:bh ⟨H,[],Ox⟩ i:=λ_ z=>nomatch z
section
def kr{st:Stmt}{N:ω}{k:Nat}{G:List T->(Rt->Prop)->Prop}(F:B5 K x qual st f fd)(S:aJ N ps (aq st))(hn:n=ps.length)(eQ:∀(bP:Value) (A:Around) (outer:List Env) (s:Shared) (H:Hp) (E:XK) (Ox:Ω),bA k (A.deeper (envOfC qual (aq st) s.heap.objs.size f bP))->∀ts q,G ts q ->
    ∃g,ir (jD iR P w K mg base N qual (aq st) f bP A outer s H E).BM ⟨H,[],Ox⟩ (b_ st) g/\(ts.length=n->g {nx:=λ_=>q (.vw .bB),rt:=λ_ r=>q r} (ts.map (λt=>some (t,false))++List.replicate (N.length-ts.length) none))) :
  dA P w K mg base iR (k+1) f fd ps (cM K n G):=by
 have hp:∀n (as:Ω) k,pz (List.replicate n false) as k=[]:=by
  intro n;induction n with
  |zero=>intro as k;rfl
  |succ n ih=>intro as k;exact ih as (k+1)
 have hfi:∀n (ρ:En),kj (List.replicate n false) ρ=[]:=by
  intro n;induction n with
  |zero=>intro ρ;rfl
  |succ n ih=>intro ρ;exact ih ρ.tail
 have he:∀n (ts:List T),ts.length=n->v3 (List.replicate n false) ts=ts.map λt=>some (t,false):=by
  intro n;induction n with
  |zero=>intro ts e;cases ts<;>simp_all [v3]
  |succ n ih=>
    intro ts e;cases ts with
    |nil=>simp at e
    |cons t ts=>rw[BF,v3,ih ts (by simpa using e)];rfl
 refine Zs F S (by rw[Ms];exact hn) λbP A outer s H E as Ox hr ts q hl hG=>?_;rw[Ms] at hl;obtain⟨g,h1,h2⟩:=eQ bP A outer s H E Ox hr ts (q []) hG;refine⟨g,by rw[hp];exact h1,?_⟩;rw[he n ts hl];simp only[hfi];exact h2 hl
end
def bA.eD{k:Nat}(r:bA k A):A.units+101<cLine:=by have:=r.un;lia
def yQ:bootBuiltins "list"=some (.type "list"):=by decide +kernel
def nI:bootBuiltins "tuple"=some (.type "tuple"):=by decide +kernel
def UB:bootBuiltins "all"=some (.builtin "all"):=by decide +kernel
def UC:bootBuiltins "sum"=some (.builtin "sum"):=by decide +kernel
def UD:bootBuiltins "min"=some (.builtin "min"):=by decide +kernel
def AD:bootBuiltins "int"=some (.type "int"):=by decide +kernel
def PX:bootBuiltins "bool"=some (.type "bool"):=by decide +kernel
def ku:bootBuiltins "str"=some (.type "str"):=by decide +kernel
theorem nJ:∀{fs:List Bool}{as:Ω}{k:Nat},∀p∈pz fs as k,k<=p.1/\fs[p.1-k]?=some true
 |[],_,_,p,hp=>nomatch hp
 |false::fs,as,k,p,hp=>by
  obtain⟨h1,h2⟩:=nJ (fs:=fs) (as:=as) (k:=k+1) p hp;refine⟨by lia,?_⟩;have:p.1-k=(p.1-(k+1))+1:=by lia
  rw[this];simpa using h2
 |true::fs,a::as,k,p,hp=>by
  rcases dg.mp hp with z|z
  subst z;exact⟨cc _,by simp⟩;obtain⟨h1,h2⟩:=nJ (fs:=fs) (as:=as) (k:=k+1) p z;refine⟨by lia,?_⟩;have:p.1-k=(p.1-(k+1))+1:=by lia
  rw[this];simpa using h2
 |true::fs,[],k,p,hp=>by
  obtain⟨h1,h2⟩:=nJ (fs:=fs) (as:=[]) (k:=k+1) p hp;refine⟨by lia,?_⟩;have:p.1-k=(p.1-(k+1))+1:=by lia
  rw[this];simpa using h2
def AE{fs:List Bool}{as Ox:Ω}(h:fs[i]?≠some true):bh ⟨H,pz fs as 0,Ox⟩ i:=λp hp e=>by have:=(nJ p hp).2;rw[Nat.sub_zero,e] at this;exact h this
def eW(lo:Int)(n:Nat):(rangeT lo n).length=n:=by unfold rangeT;rw[bX,z8]
def gG{lo:Int}{t:T}(h:(rangeT lo n)[i]?=some t):i<n/\t=.int (lo+(i:Int)):=by
 unfold rangeT at h;rw[fD] at h;cases e:(List.range n)[i]? with
 |none=>rw[e] at h;cases h
 |some j=>rw[e] at h;obtain⟨h1,h2⟩:=dz.mp e;rw[List.getElem_range] at h2;rw[z8] at h1;subst h2;cases h;exact⟨h1,rfl⟩
def eX{lo:Int}{h:FG}{g:FS}{d:M7}{ρ:En}(Pv:Nat->En->Prop)(h0:Pv 0 ρ)(hs:∀(i:Nat) ρ',i<n->Pv i ρ'->h (.int (lo+(i:Int))) ρ' λρ2=>g {nx:=Pv (i+1),ct:=Pv (i+1),bk:=d.nx,rt:=d.rt} ρ2)(hd:∀ρ',Pv n ρ'->d.nx ρ'):gX (rangeT lo n) h g d ρ:=⟨Pv,h0,λi t ρ' e p=>by obtain⟨h1,rfl⟩:=gG e;exact hs i ρ' h1 p,λρ' p=>hd ρ' (by rw[eW] at p;exact p)⟩
theorem dq{f:α->T}{xs:List α}{h:FG}{g:FS}{d:M7}{ρ:En}(Pv:Nat->En->Prop)(h0:Pv 0 ρ)(hs:∀(i:Nat) x ρ',xs[i]?=some x->Pv i ρ'->h (f x) ρ' λρ2=>g {nx:=Pv (i+1),ct:=Pv (i+1),bk:=d.nx,rt:=d.rt} ρ2)(hd:∀ρ',Pv xs.length ρ'->d.nx ρ'):gX (xs.map f) h g d ρ:=⟨Pv,h0,λi t ρ' e p=>by
 rw[fD] at e;cases q:xs[i]? with
 |none=>rw[q] at e;cases e
 |some x=>rw[q] at e;cases e;exact hs i x ρ' q p,λρ' p=>hd ρ' (by rw[bX] at p;exact p)⟩
def Ci{c:Bool}{A:Prop}(hc:c=true)(h:A):if c=true then A else B:=by rw[ι hc];exact h
def jL{c:Bool}{A:Prop}(hc:c=false)(h:B):if c=true then A else B:=by rw[η (by rw[hc];exact ja)];exact h
def cN{c A:Prop}[Decidable c](h1:c->A)(h2:¬ c->B):if decide c=true then A else B:=by by_cases h:c;rw[ι (ν h)];exact h1 h;rw[η (by rw[π h];exact ja)];exact h2 h
section
def kx{t:Addr}{items:Array Value}{x:Value}(hit:s.heap.IsTupleIter it t i)(ht:s.heap.IsTuple t items)(hx:items[i]?=some x)(hQ:∀h',h'.IsTupleIter it t (i+1)->Heap.SameBut it s.heap h'->Q x {s with heap:=h'}):wpAny (model prog w) A (Builtin.SmallTypes.nextOf (.ref it)) Q E s:=by
 obtain⟨o,ho,hc,hd⟩:=id hit;obtain⟨ol,Zw,_,nl,Zx⟩:=ht;refine ζ (Γ hit.typeIs WS
  (ψ WS hit.typeIs F.entry_tuple_iterator_next ?_ (F.args_tuple_iterator_next_1 _)))
 show wpAny _ _ (field (.ref it) 0 >>= _) _ _ s;refine ζ (Λ ho hd rfl (ζ (Λ ho hd rfl (ζ (aaf Zw Zx ?_)))));simp only[lh,hx];refine ζ (aas ho hd (by simp) (θ ⟨x,rfl,θ (hQ _ ?_ (SH ..))⟩));exact⟨_,Heap.get?_update_self _ ho (Obj.isFreed_of_fields (W5 hd _)),(Obj.cls_mapFields ..).trans hc,by
  rw[W5 hd];simp[rawInt]⟩
def lY{t:Addr}{items:Array Value}(hh:A.handled=none)(hit:s.heap.IsTupleIter it t i)(ht:s.heap.IsTuple t items)(hx:items[i]?=none)(hE:∀h' e,Heap.ExtBut it s.heap h'->(∃o,h'.get? e=some o/\o.cls=.type "StopIteration")->E (.ref e) {s with heap:=h'}):wpAny (model prog w) A (Builtin.SmallTypes.nextOf (.ref it)) Q E s:=by
 obtain⟨o,ho,hc,hd⟩:=id hit;obtain⟨ol,Zw,_,nl,Zx⟩:=ht;refine ζ (Γ hit.typeIs WS
  (ψ WS hit.typeIs F.entry_tuple_iterator_next ?_ (F.args_tuple_iterator_next_1 _)))
 show wpAny _ _ (field (.ref it) 0 >>= _) _ _ s;refine ζ (Λ ho hd rfl (ζ (Λ ho hd rfl (ζ (aaf Zw Zx ?_)))));simp only[lh,hx];refine ζ (aak (ζ (aas ho hd (by simp) (ζ (ζ (m:=firstArgMember _ _) (wpAny_of_eq (by first|rfl|(simp only[firstArgMember];rfl)) (Δ (ζ (wpAny_handled ?_)) (by size_fits))))))))
 first|rw[show A.in1.handled=none from hh]|rw[hh]
 exact ζ (θ (wpAny_throw (hE _ _ (((SH ..).extBut.push _).push _) ⟨_,iO _ rfl,rfl⟩)))
end
structure Part(prog:Program)(w:World)(i:Addr)(fp:Ω)(n:Nat)(Pv:Nat->Value->Prop)(st:Nat->Heap->Prop):Prop where
 draws:∀A:Around,A.handled=none->Draws prog w A i fp n Pv st
 mem:i∈fp
 fld:∀k h,st k h->∃o vs,h.get? i=some o/\o.data=.fields vs
def Cj(it l:Addr)(gf:l≠it)(items:Array Value):Part prog w it [it,l] items.size (λi v=>items[i]?=some v) (λi h=>h.IsListIter it l i/\h.IsList l items) :=
 ⟨λA hh=>Draws.list hh it l gf items,by simp,λk h st=>let ⟨⟨o,e,_,d⟩,_⟩:=st;⟨o,_,e,d⟩⟩
def yR(it l:Addr)(gf:l≠it)(items:Array Value):Part prog w it [it,l] items.size (λi v=>items[i]?=some v) (λi h=>h.IsTupleIter it l i/\h.IsTuple l items) :=
 ⟨λA hh=>{live:=λ_ _ st=>let ⟨o,ho,_⟩:=st.1;⟨o,ho⟩,frame:=λ_ _ _ st hk=>⟨let ⟨o,ho,r⟩:=st.1;⟨o,hk it (by simp) o ho,r⟩,let ⟨o,ho,r⟩:=st.2;⟨o,hk l (by simp) o ho,r⟩⟩,item:=λi s Q E hi st hQ=>kx st.1 st.2 (x:=items[i]) (by simp[hi]) λh' Ke vA=>hQ _ h' s.toks (by simp[hi]) ⟨Ke,st.2.extBut vA.extBut gf⟩ vA,done:=λs Q E st hE=>lY hh st.1 st.2 (by simp) hE},by simp,λk h st=>let ⟨⟨o,e,_,d⟩,_⟩:=st;⟨o,_,e,d⟩⟩
def E8(it:Addr)(x:Str)(t:Tok):Part prog w it [it] x.cps.size (λi v=>∃c u,x.cps[i]?=some c/\v=.str ⟨#[c]⟩ u) (λi h=>h.IsStrIter it (strIterType x) x t i):=by
 rcases c5 x with z|z
 rw[z];exact⟨λA hh=>Draws.strAscii hh it x t,by simp,λk h st=>let ⟨o,e,_,d⟩:=st;⟨o,_,e,d⟩⟩;rw[z];exact⟨λA hh=>Draws.strWide hh it x t,by simp,λk h st=>let ⟨o,e,_,d⟩:=st;⟨o,_,e,d⟩⟩
structure Apart(z TI TO i1 i2:Addr)(oV nK:Ω):Prop where
 TIz:TI≠z
 TOz:TO≠z
 i1z:i1≠z
 i2z:i2≠z
 TITO:TI≠TO
 TIi1:TI≠i1
 TIi2:TI≠i2
 TOi1:TO≠i1
 TOi2:TO≠i2
 i12:i1≠i2
 z1:z∉oV
 z2:z∉nK
 O1:TO∉oV
 O2:TO∉nK
 x1:i2∉oV
 x2:i1∉nK
section
variable{z TI TO i1 i2:Addr}{oV nK:Ω}{n1 n2:Nat}{P1 P2:Nat->Value->Prop}{S1 S2:Nat->Heap->Prop}
def E9{k:Nat}{a b:Value}(hh:A.handled=none)(D:Apart z TI TO i1 i2 oV nK)(p1:Part prog w i1 oV n1 P1 S1)(p2:Part prog w i2 nK n2 P2 S2)(hz:IsZip s.heap z TI TO .none)(Kg:IsPair s.heap TI (.ref i1) (.ref i2))(Kh:IsPair s.heap TO a b)(h1:S1 k s.heap)(h2:S2 k s.heap)(hx:k<n1)(hy:k<n2)(hQ:∀x y h' tk,P1 k x->P2 k y->IsZip h' z TI TO (rawInt s.heap.objs.size)->IsPair h' TO x y->S1 (k+1) h'->S2 (k+1) h'->IsPair h' s.heap.objs.size x y->h'.objs.size=s.heap.objs.size+1 ->
    (∀c o,c≠z->c≠TO->c≠i1->c≠i2->s.heap.get? c=some o->h'.get? c=some o)->Q (.ref s.heap.objs.size) {s with heap:=h',toks:=tk}) :
  wpAny (model prog w) A (Builtin.«zip.__next__» ⟨[.ref z],[]⟩) (λfin s'=>∃v,fin=.done (.ret v)/\Q v s') E s:=by
 show wpAny _ _ (field (.ref z) 2 >>= _) _ _ _;refine ζ (Λ hz rfl rfl (ζ (Λ hz rfl rfl (ζ (aaf Kg rfl (ζ (ζ (Λ hz rfl rfl (θ (ζ (aak (ζ (Λ hz rfl rfl (ζ (Θ hz (by simp) λh₁ DJ vB=>ζ ?_)))))))))))))));have f1:∀{m h h' c},c∉oV->S1 m h->Heap.SameBut c h h'->S1 m h':=λ{m h h' c} hc st sb=>(p1.draws A hh).frame m h h' st λb hb o e=>sb.extBut b o (λq=>hc (q▸hb)) e;have f2:∀{m h h' c},c∉nK->S2 m h->Heap.SameBut c h h'->S2 m h':=λ{m h h' c} hc st sb=>(p2.draws A hh).frame m h h' st λb hb o e=>sb.extBut b o (λq=>hc (q▸hb)) e;refine ζ (ζ (aaG (ζ ((p1.draws _ hh).item k _ _ _ hx (f1 D.z1 h1 vB) λx h₂ tk₂ px h1₂ vT=>θ ?_))));have E_:=vT.extBut _ _ D.TOi1 (vB.extBut _ _ D.TOz Kh);refine ζ (aaf E_ rfl (ζ (aax E_ λh₃ UE vC=>ζ (wpAny_letGo (θ ?_)))));refine ζ (ζ (aaG (ζ ((p2.draws _ hh).item k _ _ _ hy (f2 D.O2 (f2 D.x2 (f2 D.z2 h2 vB) vT) vC) λy h₄ tk₄ py h2₄ AF=>θ ?_))));have UG:=AF.extBut _ _ D.TOi2 UE;refine ζ (aaf UG rfl (ζ (aax UG λh₅ Ki AG=>?_)))
 replace Ki:IsPair h₅ TO x y:=Ki
 refine ζ (wpAny_letGo (θ (θ ?_)));refine ζ (aaf Ki rfl (ζ (wpAny_newTuple ?_)));have qj:h₅.objs.size=s.heap.objs.size:=by rw[AG.1,AF.1,vC.1,vT.1,vB.1]
 have hz₅:=AG.extBut _ _ D.TOz.symm (AF.extBut _ _ D.i2z.symm (vC.extBut _ _ D.TOz.symm (vT.extBut _ _ D.i1z.symm DJ)));have hk₅:∀c o,c≠z->c≠TO->c≠i1->c≠i2->s.heap.get? c=some o->h₅.get? c=some o:=λc o c1 c2 c3 c4 e=>
  AG.extBut _ _ c2 (AF.extBut _ _ c4 (vC.extBut _ _ c2 (vT.extBut _ _ c3 (vB.extBut _ _ c1 e))))
 have h1₅:=f1 D.O1 (f1 D.x1 (f1 D.O1 h1₂ vC) AF) AG;have h2₅:=f2 D.O2 h2₄ AG;have UH:=eJ hz₅;refine ζ ?_;have hz₆:IsZip (h₅.push {cls:=.type "tuple",data:=.seq #[x,y]}) z TI TO .ellipsis:=dR _ hz₅;refine ζ (Θ hz₆ (by simp) λh₇ hz₇ Zy=>Θ hz₇ (by simp) λh₈ hz₈ Zz=>?_);have up:∀c o,c≠z->h₅.get? c=some o->h₈.get? c=some o:=λc o c1 e=>Zz.extBut _ _ c1 (Zy.extBut _ _ c1 (dR _ e));have hT₈:=Zz.extBut _ _ (Iz UH) (Zy.extBut _ _ (Iz UH) (iO _ rfl));have hz8:h₈.objs.size=h₅.objs.size+1:=by rw[Zz.1,Zy.1,DZ]
 have h1₈:=(p1.draws A hh).frame _ _ _ h1₅ λb hb o e=>up b o (λq=>D.z1 (q▸hb)) e;have h2₈:=(p2.draws A hh).frame _ _ _ h2₅ λb hb o e=>up b o (λq=>D.z2 (q▸hb)) e;rw[qj] at hz₈ hT₈ hz8;refine θ ⟨_,rfl,?_⟩;rw[qj];exact hQ x y h₈ tk₄ px py hz₈ (up _ _ D.TOz Ki) h1₈ h2₈ hT₈ hz8 λc o c1 c2 c3 c4 e=>up c o c1 (hk₅ c o c1 c2 c3 c4 e)
def Kj{k:Nat}{a b:Value}{Q:PySem.Fin->Shared->Prop}(hh:A.handled=none)(D:Apart z TI TO i1 i2 oV nK)(p1:Part prog w i1 oV n1 P1 S1)(p2:Part prog w i2 nK n2 P2 S2)(hz:IsZip s.heap z TI TO .none)(Kg:IsPair s.heap TI (.ref i1) (.ref i2))(Kh:IsPair s.heap TO a b)(h1:S1 k s.heap)(h2:S2 k s.heap)(PY:k=n1\/(k<n1/\k=n2))(hE:∀h' tk e,(∀c o,c≠z->c≠TO->c≠i1->c≠i2->s.heap.get? c=some o->h'.get? c=some o)->(∃o,h'.get? e=some o/\o.cls=.type "StopIteration")->E (.ref e) {s with heap:=h',toks:=tk}) :
  wpAny (model prog w) A (Builtin.«zip.__next__» ⟨[.ref z],[]⟩) Q E s:=by
 have f1:∀{m h h' c},c∉oV->S1 m h->Heap.SameBut c h h'->S1 m h':=λ{m h h' c} hc st sb=>(p1.draws A hh).frame m h h' st λb hb o e=>sb.extBut b o (λq=>hc (q▸hb)) e;have f2:∀{m h h' c},c∉nK->S2 m h->Heap.SameBut c h h'->S2 m h':=λ{m h h' c} hc st sb=>(p2.draws A hh).frame m h h' st λb hb o e=>sb.extBut b o (λq=>hc (q▸hb)) e;show wpAny _ _ (field (.ref z) 2 >>= _) _ _ _;refine ζ (Λ hz rfl rfl (ζ (Λ hz rfl rfl (ζ (aaf Kg rfl (ζ (ζ (Λ hz rfl rfl (θ (ζ (aak (ζ (Λ hz rfl rfl (ζ (Θ hz (by simp) λh₁ DJ vB=>ζ (ζ (ζ (aaG ?_))))))))))))))))));obtain rfl|⟨d_,rfl⟩:=PY
 . refine ζ ((p1.draws _ hh).done _ _ _ (f1 D.z1 h1 vB) λh₂ e vT he=>?_);obtain⟨oe,PZ,UI⟩:=he;have R9:=vT _ _ D.i1z.symm DJ;have ZA:e≠z:=λx=>by subst x;rw[R9] at PZ;cases PZ;simp at UI
   refine Θ R9 (by simp) λh₃ _ vC=>hE h₃ _ e (λc o c1 _ c3 _ x=>vC.extBut _ _ c1 (vT _ _ c3 (vB.extBut _ _ c1 x))) ⟨oe,vC.extBut _ _ ZA PZ,UI⟩
 . refine ζ ((p1.draws _ hh).item k _ _ _ d_ (f1 D.z1 h1 vB) λx h₂ tk₂ px h1₂ vT=>θ ?_);have E_:=vT.extBut _ _ D.TOi1 (vB.extBut _ _ D.TOz Kh);refine ζ (aaf E_ rfl (ζ (aax E_ λh₃ UE vC=>ζ (wpAny_letGo (θ (ζ (ζ (aaG (ζ ((p2.draws _ hh).done _ _ _ (f2 D.O2 (f2 D.x2 (f2 D.z2 h2 vB) vT) vC) λh₄ e AF he=>?_))))))))));obtain⟨oe,PZ,UI⟩:=he;have hz₄:=AF _ _ D.i2z.symm (vC.extBut _ _ D.TOz.symm (vT.extBut _ _ D.i1z.symm DJ));have ZA:e≠z:=λx=>by subst x;rw[hz₄] at PZ;cases PZ;simp at UI
   refine Θ hz₄ (by simp) λh₅ _ AG=>hE h₅ _ e (λc o c1 c2 c3 c4 x=>AG.extBut _ _ c1 (AF _ _ c4 (vC.extBut _ _ c2 (vT.extBut _ _ c3 (vB.extBut _ _ c1 x))))) ⟨oe,AG.extBut _ _ ZA PZ,UI⟩
def ni{k:Nat}{a b:Value}{Q:(Option Value)->Shared->Prop}(hh:A.handled=none)(D:Apart z TI TO i1 i2 oV nK)(p1:Part prog w i1 oV n1 P1 S1)(p2:Part prog w i2 nK n2 P2 S2)(hz:IsZip s.heap z TI TO .none)(Kg:IsPair s.heap TI (.ref i1) (.ref i2))(Kh:IsPair s.heap TO a b)(h1:S1 k s.heap)(h2:S2 k s.heap)(hx:k<n1)(hy:k<n2)(hQ:∀x y h' tk,P1 k x->P2 k y->IsZip h' z TI TO (rawInt s.heap.objs.size)->IsPair h' TO x y->S1 (k+1) h'->S2 (k+1) h'->IsPair h' s.heap.objs.size x y->h'.objs.size=s.heap.objs.size+1 ->
    (∀c o,c≠z->c≠TO->c≠i1->c≠i2->s.heap.get? c=some o->h'.get? c=some o)->Q (some (.ref s.heap.objs.size)) {s with heap:=h',toks:=tk}):wpAny (model prog w) A (pyNext (.ref z)) Q E s:=by
 have hT:s.TypeIs (.ref z) "zip":=⟨_,hz,rfl⟩;exact ζ (aap (Γ hT F.slot_zip_next
  (wpAny_call_entry F.slot_zip_next hT F.entry_zip_next
    (E9 hh D p1 p2 hz Kg Kh h1 h2 hx hy λx y h' tk q1 q2 a1 a2 a3 a4 a5 a6 a7=>θ (hQ x y h' tk q1 q2 a1 a2 a3 a4 a5 a6 a7)) (F.args_zip_next_1 _))))
def oW{k:Nat}{a b:Value}{Q:(Option Value)->Shared->Prop}(hh:A.handled=none)(D:Apart z TI TO i1 i2 oV nK)(p1:Part prog w i1 oV n1 P1 S1)(p2:Part prog w i2 nK n2 P2 S2)(hz:IsZip s.heap z TI TO .none)(Kg:IsPair s.heap TI (.ref i1) (.ref i2))(Kh:IsPair s.heap TO a b)(h1:S1 k s.heap)(h2:S2 k s.heap)(PY:k=n1\/(k<n1/\k=n2))(hQ:∀h' tk,(∀c o,c≠z->c≠TO->c≠i1->c≠i2->s.heap.get? c=some o->h'.get? c=some o)->Q none {s with heap:=h',toks:=tk}):wpAny (model prog w) A (pyNext (.ref z)) Q E s:=by
 have hT:s.TypeIs (.ref z) "zip":=⟨_,hz,rfl⟩;refine ζ (aap (Γ hT F.slot_zip_next
  (ψ F.slot_zip_next hT F.entry_zip_next (Kj hh D p1 p2 hz Kg Kh h1 h2 PY λh' tk e hk he=>?_) (F.args_zip_next_1 _))))
 obtain⟨o,ho,hc⟩:=he;exact ζ (wpAny_isInstance ⟨o,ho,hc⟩ isSubtype_stop (θ (hQ _ _ hk)))
end
def iw(v:Value)(o:Obj)(c:Heap->Prop):Prop:=∀(prog:Program)(w:World)(A:Around)(E:qad)(s:Shared)(Q:qad),c s.heap ->
 Q (.ref s.heap.objs.size) {s with heap:=s.heap.push o}->wpAny (model prog w) A (pyIter v) Q E s
def wq(l:Addr)(items:Array Value):iw (.ref l) {cls:=.type "list_iterator",data:=.fields #[.ref l,.int 0 0]} (λh=>h.IsList l items):=λ_ _ _ _ _ _ h q=>wpAny_pyIter_list h q
def tK(l:Addr)(items:Array Value):iw (.ref l) {cls:=.type "tuple_iterator",data:=.fields #[.ref l,.int 0 0]} (λh=>h.IsTuple l items):=λ_ _ _ _ _ _ h q=>wpAny_pyIter_tuple h q
def yS(x:Str)(t:Tok):iw (.str x t) {cls:=.type (strIterType x),data:=.fields #[.str x t,.int 0 0]} (λ_=>True):=λ_ _ _ _ _ _ _ q=>wpAny_pyIter_strU q
noncomputable abbrev Xw(h:Heap)(o1 o2:Obj):Heap:=((h.push o1).push o2).push {cls:=.type "tuple",data:=.seq #[.ref h.objs.size,.ref (h.push o1).objs.size]}
noncomputable abbrev Xx(h:Heap)(o1 o2:Obj):Heap:=(Xw h o1 o2).push {cls:=.type "tuple",data:=.seq #[.none,.none]}
noncomputable abbrev P0(h:Heap)(o1 o2:Obj):Heap:=(Xx h o1 o2).push {cls:=.type "zip",data:=.fields #[.none,.bool false,.bool false,.ref ((h.push o1).push o2).objs.size,.ref (Xw h o1 o2).objs.size]}
def yT{v1 v2:Value}{o1 o2:Obj}{c1 c2:Heap->Prop}(i1:iw v1 o1 c1)(i2:iw v2 o2 c2)(Ck:∀h o,c2 h->c2 (h.push o)) :
  Meets (Builtin.«zip.__new__» ⟨[.type "zip",v1,v2],[]⟩) (λ_ R s=>c1 s.heap/\c2 s.heap /\
   R (.ok (.ret (.ref (Xx s.heap o1 o2).objs.size))) {s with heap:=P0 s.heap o1 o2}) :=
 .of_wp λprog w A R s h=>by
  obtain⟨hp,g,d,tk,os⟩:=s;obtain⟨ZC,Js,h⟩:=h;have acT:=sub_zip;have hC2:=Ck _ o1 Js;have I1:=λA E Q q=>i1 prog w A E _ Q ZC q;have I2:∀A E Q,Q (.ref (hp.push o1).objs.size) ⟨(hp.push o1).push o2,g,d,tk,os⟩->wpAny (model prog w) A (pyIter v2) Q E ⟨hp.push o1,g,d,tk,os⟩:=λA E Q q=>i2 prog w A E _ Q hC2 q
  wp_walk using I1,I2
  exact⟨_,rfl,h⟩
section
def Cm{v1 v2:Value}{o1 o2:Obj}{c1 c2:Heap->Prop}(i1:iw v1 o1 c1)(i2:iw v2 o2 c2)(Ck:∀h o,c2 h->c2 (h.push o))(h1:c1 s.heap)(h2:c2 s.heap)(ZD:o1.isFreed=false)(ZE:o2.isFreed=false)(h:∀h',IsZip h' (s.heap.objs.size+4) (s.heap.objs.size+2) (s.heap.objs.size+3) .none->IsPair h' (s.heap.objs.size+2) (.ref s.heap.objs.size) (.ref (s.heap.objs.size+1)) ->
    IsPair h' (s.heap.objs.size+3) .none .none->h'.get? s.heap.objs.size=some o1->h'.get? (s.heap.objs.size+1)=some o2->h'.objs.size=s.heap.objs.size+5 ->
    (∀c o,s.heap.get? c=some o->h'.get? c=some o)->Q (.ref (s.heap.objs.size+4)) {s with heap:=h'}) :
  wpAny (model prog w) A (call (.type "zip") [v1,v2]) Q E s:=by
 refine callType_new F.called_zip (by decide) (F.typeCall_zip_2 _ _) (F.newCall_zip_2 _ _) (λobj=>F.args_object_init_3 obj _ _) F.entry_zip_new
  (yT i1 i2 Ck) ⟨h1,h2,?_⟩
 have z1:(s.heap.push o1).objs.size=s.heap.objs.size+1:=DZ ..;have z2:((s.heap.push o1).push o2).objs.size=s.heap.objs.size+2:=by rw[DZ,z1]
 have z3:(Xw s.heap o1 o2).objs.size=s.heap.objs.size+3:=by rw[DZ,z2]
 have z4:(Xx s.heap o1 o2).objs.size=s.heap.objs.size+4:=by rw[DZ,z3]
 have z5:(P0 s.heap o1 o2).objs.size=s.heap.objs.size+5:=by rw[DZ,z4]
 have g5:(P0 s.heap o1 o2).get? (Xx s.heap o1 o2).objs.size=some _:=iO _ rfl;have g4:(P0 s.heap o1 o2).get? (Xw s.heap o1 o2).objs.size=some _:=dR _ (iO _ rfl);have g3:(P0 s.heap o1 o2).get? ((s.heap.push o1).push o2).objs.size=some _:=dR _ (dR _ (iO _ rfl));have g2:(P0 s.heap o1 o2).get? (s.heap.push o1).objs.size=some _:=dR _ (dR _ (dR _ (iO _ ZE)));have g1:(P0 s.heap o1 o2).get? s.heap.objs.size=some _:=dR _ (dR _ (dR _ (dR _ (iO _ ZD))));rw[z2,z3,z4] at g5;rw[z1,z2] at g3;rw[z3] at g4;rw[z1] at g2;rw[z4];exact⟨⟨_,g5,rfl⟩,h _ g5 g3 g4 g1 g2 z5 λc o x=>
  dR _ (dR _ (dR _ (dR _ (dR _ x))))⟩
end
structure Cn(P:Program)(w:World)(K:zm)(i:Addr)(fp:Ω)(sq:Hp->qak->Prop)(it:Nat->Heap->Prop):Prop where
 part:∀(X:Cx)(ε:qaa)(σ:St)(H:Hp)(s:Shared),X.prog=P->X.w=w->X.K=K->Inv X ε σ H s->∀xs,sq H xs ->
  ∃(Pv:Nat->Value->Prop)(S:Nat->Heap->Prop),Part P w i fp xs.length Pv S/\(∀k v,Pv k v->∃x,xs[k]?=some x/\RelV x v)/\(∀k h,S k h->it k h)/\∀k,it k s.heap->S k s.heap
 keep:∀k h h',it k h->(∀o,h.get? i=some o->h'.get? i=some o)->it k h'
 obj:∀k h,it k h->∃o,h.get? i=some o/\∀v,o.data≠.cell v
 inj:∀(X:Cx)(ε:qaa)(σ:St)(H:Hp)(s:Shared),X.K=K->Inv X ε σ H s->∀xs ys,sq H xs->sq H ys->xs=ys
def src_list(i l:Addr)(gf:l≠i):Cn P w K i [i,l] (λH xs=>fG K H l xs) (λk h=>h.IsListIter i l k) where
 part:=λX ε σ H s hP hw hK I xs hq=>by
  subst hP hw hK;obtain⟨aT,rv,p,hz⟩:=I.list hq;have e:aT.toArray.size=xs.length:=by simp[rv.length]
  refine⟨_,_,e▸Cj i l gf aT.toArray,λk v hv=>?_,λk h st=>st.1,λk st=>⟨st,p.isList⟩⟩;have vM:aT[k]?=some v:=by simpa using hv
  have hk:k<xs.length:=by rw[<- e];simp;exact (dz.mp vM).1
  obtain⟨u,hu,ru⟩:=rv.get (show xs[k]?=some xs[k] by simp);rw[vM] at hu;cases hu;exact⟨_,by simp,ru⟩
 keep:=λk h h' st q=>st.at q
 obj:=λk h st=>let ⟨o,e,_,d⟩:=st;⟨o,e,λv z=>by rw[d] at z;cases z⟩
 inj:=λX ε σ H s hK I xs ys h1 h2=>by subst hK;exact I.j4 h1 h2
def src_tuple(i l:Addr)(gf:l≠i):Cn P w K i [i,l] (λH xs=>dS K H l xs) (λk h=>h.IsTupleIter i l k) where
 part:=λX ε σ H s hP hw hK I xs hq=>by
  subst hP hw hK;obtain⟨aT,rv,p,hz⟩:=I.tuple hq;have e:aT.toArray.size=xs.length:=by simp[rv.length]
  refine⟨_,_,e▸yR i l gf aT.toArray,λk v hv=>?_,λk h st=>st.1,λk st=>⟨st,p⟩⟩;have vM:aT[k]?=some v:=by simpa using hv
  have hk:k<xs.length:=by rw[<- e];simp;exact (dz.mp vM).1
  obtain⟨u,hu,ru⟩:=rv.get (show xs[k]?=some xs[k] by simp);rw[vM] at hu;cases hu;exact⟨_,by simp,ru⟩
 keep:=λk h h' st q=>let ⟨o,e,r⟩:=st;⟨o,q o e,r⟩
 obj:=λk h st=>let ⟨o,e,_,d⟩:=st;⟨o,e,λv z=>by rw[d] at z;cases z⟩
 inj:=λX ε σ H s hK I xs ys h1 h2=>by subst hK;exact I.lq h1 h2
def yU(x:Str):qak:=x.cps.toList.map λc=>.str ⟨#[c]⟩
def Kk(i:Addr)(x:Str)(t:Tok):Cn P w K i [i] (λ_ xs=>xs=yU x) (λk h=>h.IsStrIter i (strIterType x) x t k) where
 part:=λX ε σ H s hP hw hK I xs hq=>by
  subst hP hw hK hq;have e:x.cps.size=(yU x).length:=by unfold yU;simp
  refine⟨_,_,e▸E8 i x t,λk v hv=>?_,λk h st=>st,λk st=>st⟩;obtain⟨c,u,h1,rfl⟩:=hv;exact⟨.str ⟨#[c]⟩,by unfold yU;rw[fD];simp[h1],u,rfl⟩
 keep:=λk h h' st q=>let ⟨o,e,r⟩:=st;⟨o,q o e,r⟩
 obj:=λk h st=>let ⟨o,e,_,d⟩:=st;⟨o,e,λv z=>by rw[d] at z;cases z⟩
 inj:=λX ε σ H s hK I xs ys h1 h2=>by rw[h1,h2]
section
variable{X:Cx}
def Kl{ch:Ω}(I:Inv X ε σ H s)(k:∀b u,b∉ch->s.heap.get? b=some u->h'.get? b=some u)(hf:∀b∈ch,lu X ε H b):Inv X ε σ H {s with heap:=h',toks:=t'}:=by
 have D4:∀b u,H b=some u->b∉ch:=λb u e z=>by rw[(hf b z).1] at e;cases e
 refine I.step (λb hb=>?_) (λb u _ _ hc e _=>k b u hc e) (λb u _ _ hc e _=>⟨u.slots,k b u hc e⟩) (λb u _ e n=>n) (λb u hc e=>⟨u,k b u hc e⟩)
  (λb xs e=>e) (λb u v e=>e) (λb ps e=>⟨#[],?_⟩) (λm hm=>?_) (λb u e=>?_) I.bare
 obtain⟨_,f1,_,f3,f4,f5⟩:=hf b hb;exact⟨f3,f1,f4,f5⟩;rw[e];simp;obtain⟨ob,es,ep,ho,r⟩:=hm;exact⟨ob,es,ep,k _ ob (λz=>(hf _ z).2.1 rfl) ho,r⟩;refine (I.bF b u e).vI (λc v hc q=>k c v ?_ q) (λc q=>q) λc xs q=>q;obtain z|z:=hc
 rw[z];exact D4 b u e;exact D4 c _ z
end
def ZF(yV yW:Hp->qak->Prop):It :=
 ⟨λi H=>∃xs ys,yV H xs/\yW H ys/\i<xs.length/\i<ys.length,λi H v H'=>∃t x y,H t=none/\v=.ref t/\(∀xs,yV H xs->xs[i]?=some x)/\(∀ys,yW H ys->ys[i]?=some y)/\H'=upd H t (.tup [x,y]),
  λi H=>∃xs ys,yV H xs/\yW H ys/\(i=xs.length\/(i<xs.length/\i=ys.length))⟩
def Fb{x1}{z TI TO i1 i2:Addr}{oV nK:Ω}{yV yW:Hp->qak->Prop}{t1 t2:Nat->Heap->Prop}(D:Apart z TI TO i1 i2 oV nK)(p1:Cn P w K i1 oV yV t1)(p2:Cn P w K i2 nK yW t2) :
  Turn P w K (.Tuple elts x1 tp) (ZF yV yW) [z,TI,TO,i1,i2] z (λi h=>IsZip h z TI TO .none/\IsPair h TI (.ref i1) (.ref i2)/\(∃a b,IsPair h TO a b)/\t1 i h/\t2 i h) where
 mem:=by simp
 obj:=λi h st b hb=>by
  obtain⟨h1,h2,⟨a,c,h3⟩,h4,h5⟩:=st;simp only[dg,fE,aag] at hb;obtain rfl|rfl|rfl|rfl|rfl:=hb
  exact⟨_,h1,λv q=>by cases q⟩;exact⟨_,h2,λv q=>by cases q⟩;exact⟨_,h3,λv q=>by cases q⟩;exact p1.obj i h h4;exact p2.obj i h h5
 keep:=λi h h' st k=>by obtain⟨h1,h2,⟨a,c,h3⟩,h4,h5⟩:=st;exact⟨k z (by simp) _ h1,k TI (by simp) _ h2,⟨a,c,k TO (by simp) _ h3⟩,p1.keep i h h' h4 λo q=>k i1 (by simp) o q,p2.keep i h h' h5 λo q=>k i2 (by simp) o q⟩
 item:=by
  intro X hP hw hK hc i ε s σ H E I hf st hg;obtain⟨xs,ys,Xy,Nd,l1,l2⟩:=hg;obtain⟨h1,h2,⟨a,c,h3⟩,h4,h5⟩:=st;obtain⟨P1,S1,q1,v1,b1,f1⟩:=p1.part X ε σ H s hP hw hK I xs Xy;obtain⟨P2,S2,q2,v2,b2,f2⟩:=p2.part X ε σ H s hP hw hK I ys Nd;refine ni (I.ok.hd hc) D q1 q2 h1 h2 h3 (f1 i h4) (f2 i h5) l1 l2 λx y h₁ tk px py DJ ZG s1 s2 hp₁ qj hk=>?_;obtain⟨x',ex,rx⟩:=v1 i x px;obtain⟨y',ey,ry⟩:=v2 i y py;refine⟨_,rfl,wpAny_letOwnedTupleGo_zip DJ λh₂ R9 vT=>?_⟩;have qo:=vT;have d_:=eJ h1;have Y7:=Iz d_;have kk:∀b ob,b∉[z,TI,TO,i1,i2]->s.heap.get? b=some ob->h₂.get? b=some ob:=λb ob hb q=>by simp only[dg,fE,aag,not_or] at hb;exact (qo.2 b hb.1).trans (hk b ob hb.1 hb.2.2.1 hb.2.2.2.1 hb.2.2.2.2 q)
  have new:bH X.prog X.w (upd H s.heap.objs.size (.tup [x',y'])) h₂ s.heap.objs.size (.tup [x',y']) :=
   ⟨by show 2<=sizeLine;rw[ς];decide,[x,y],.cons rx (.cons ry .nil),⟨_,(qo.2 _ Y7).trans hp₁,rfl,_,rfl⟩⟩
  refine⟨.ref s.heap.objs.size,upd H s.heap.objs.size (.tup [x',y']),I.grown kk hf (cc _) new,rfl,⟨_,x',y',I.fresh,rfl,λzs hz=>by rw[p1.inj X ε σ H s hK I _ _ hz Xy];exact ex,λzs hz=>by rw[p2.inj X ε σ H s hK I _ _ hz Nd];exact ey,rfl⟩,⟨R9,?_,⟨x,y,?_⟩,?_,?_⟩,λb hb=>?_⟩;exact (qo.2 TI D.TIz).trans (hk TI _ D.TIz D.TITO D.TIi1 D.TIi2 h2);exact (qo.2 TO D.TOz).trans ZG;exact p1.keep _ _ _ (b1 _ _ s1) λo q=>(qo.2 i1 D.i1z).trans q;exact p2.keep _ _ _ (b2 _ _ s2) λo q=>(qo.2 i2 D.i2z).trans q;have R5:b<s.heap.objs.size:=by
   simp only[dg,fE,aag] at hb;obtain rfl|rfl|rfl|rfl|rfl:=hb
   exact d_;exact eJ h2;exact eJ h3;obtain⟨o,e,_⟩:=p1.obj i _ h4;exact eJ e;obtain⟨o,e,_⟩:=p2.obj i _ h5;exact eJ e
  rw[ar (jX R5)];exact (hf b hb).1
 done:=by intro X hP hw hK hc i ε s σ H E I hf st hg;obtain⟨xs,ys,Xy,Nd,he⟩:=hg;obtain⟨h1,h2,⟨a,c,h3⟩,h4,h5⟩:=st;obtain⟨P1,S1,q1,v1,b1,f1⟩:=p1.part X ε σ H s hP hw hK I xs Xy;obtain⟨P2,S2,q2,v2,b2,f2⟩:=p2.part X ε σ H s hP hw hK I ys Nd;refine oW (I.ok.hd hc) D q1 q2 h1 h2 h3 (f1 i h4) (f2 i h5) he λh' tk hk=>⟨rfl,Kl I (λb u hb q=>?_) hf⟩;simp only[dg,fE,aag,not_or] at hb;exact hk b u hb.1 hb.2.2.1 hb.2.2.2.1 hb.2.2.2.2 q
 self:=λ_ _ _ _ _ st h=>by obtain⟨h1,_⟩:=st;exact wpAny_pyIter_zip h1 h
inductive ZK(K:zm)(H:Hp):V->(Hp->qak->Prop)->Prop where
 |lst {a:Addr} {xs:qak}:fG K H a xs->ZK K H (.ref a) (λH xs=>fG K H a xs)
 |tup {a:Addr} {xs:qak}:dS K H a xs->ZK K H (.ref a) (λH xs=>dS K H a xs)
 |str (z:Str):ZK K H (.str z) (λ_ xs=>xs=yU z)
theorem Nf{X:Cx}{x:V}{sq:Hp->qak->Prop}(I:Inv X ε σ H s)(z:ZK X.K H x sq)(r:RelV x u) :
  ∃(o:Obj)(c:Heap->Prop)(fp:Ω)(it:Addr->Nat->Heap->Prop),iw u o c/\c s.heap/\(∀h o,c h->c (h.push o))/\o.isFreed=false/\(∀b∈fp,b<s.heap.objs.size) /\
   ∀i,s.heap.objs.size<=i->Cn X.prog X.w X.K i (i::fp) sq (it i)/\∀h,h.get? i=some o->it i 0 h:=by
 cases z with
 |lst hq=>
   rename_i a xs
   cases r;obtain⟨aT,rv,p,hz⟩:=I.list hq;have hl:a<s.heap.objs.size:=by obtain⟨o,n,e,_⟩:=p;exact eJ e
   refine⟨_,_,[a],λi k h=>h.IsListIter i a k,wq a aT.toArray,p.isList,λh o q=>Heap.IsList.push q _,rfl,λb hb=>by rw[hY.mp hb];exact hl,λi hi=>⟨src_list i a (jX (qe hl hi)),λh e=>⟨_,e,rfl,rfl⟩⟩⟩
 |tup hq=>
   rename_i a xs
   cases r;obtain⟨aT,rv,p,hz⟩:=I.tuple hq;have hl:a<s.heap.objs.size:=by obtain⟨o,e,_⟩:=p;exact eJ e
   refine⟨_,_,[a],λi k h=>h.IsTupleIter i a k,tK a aT.toArray,p,λh o q=>(let ⟨o',e,r⟩:=q;⟨o',dR _ e,r⟩),rfl,λb hb=>by rw[hY.mp hb];exact hl,λi hi=>⟨src_tuple i a (jX (qe hl hi)),λh e=>⟨_,e,rfl,rfl⟩⟩⟩
 |str z=>obtain⟨t,rfl⟩:=r;refine⟨_,_,[],λi k h=>h.IsStrIter i (strIterType z) z t k,yS z t,trivial,λ_ _ _=>trivial,rfl,λb hb=>?_,λi hi=>⟨Kk i z t,λh e=>⟨_,e,rfl,rfl⟩⟩⟩;cases hb
def nn{a b:Nat}(h:a<b):a≠b:=jX h
def Fc{oV nK:Ω}(h1:∀b∈oV,b<n)(h2:∀b∈nK,b<n):Apart (n+4) (n+2) (n+3) n (n+1) (n::oV) ((n+1)::nK):=by
 have k1:∀b:Nat,n<b->b∉(n::oV):=λb hb m=>by
  rcases dg.mp m with q|q
  exact Iz hb q;exact DC _ (Nat.lt_trans hb (h1 b q))
 have k2:∀b:Nat,n+1<b->b∉((n+1)::nK):=λb hb m=>by
  rcases dg.mp m with q|q
  exact Iz hb q;exact DC _ (Nat.lt_trans (Nat.lt_trans (DA n) hb) (h2 b q))
 have k3:n∉((n+1)::nK):=λm=>by
  rcases dg.mp m with q|q
  exact jX (DA n) q;exact DC _ (h2 n q)
 exact⟨nn (by lia),nn (by lia),nn (by lia),nn (by lia),nn (by lia),(nn (by lia)).symm,(nn (by lia)).symm,(nn (by lia)).symm,(nn (by lia)).symm,nn (by lia),k1 _ (by lia),k2 _ (by lia),k1 _ (by lia),k2 _ (by lia),k1 _ (by lia),k3⟩
def Km{c:Nat}(h:c∈[n+4,n+2,n+3,n,n+1]):n<=c:=by
 simp only[dg,fE,aag] at h
 lia
def ZH(K:zm)(ta:TA):TI:=λσ H R=>ta σ H λvs H1=>∃x y yV yW,vs=[x,y]/\ZK K H1 x yV/\ZK K H1 y yW/\R (ZF yV yW) H1
section
variable{X:Cx}{Z:Zc}
def boot_zip:bootBuiltins "zip"=some (.type "zip"):=by decide +kernel
def P4{x1}{a b:Expr}{ta:TA}{pos:Pos}(hg:Gl X "zip")(hm:X.mg "zip"=none)(ha:PA X [a,b] ta)(hs:starEach [a,b] X.env=[(false,eval a X.env),(false,eval b X.env)])(BX:starEach [b] X.env=[(false,eval b X.env)]) :
  PI X (.Tuple elts x1 tp) (.Call (.Name "zip" p) [a,b] [] pos) (ZH X.K ta):=by
 intro ε s σ H R I h;refine Call_ (lp I hg hm boot_zip (WR (cf (ha pos ε s σ H _ I h) λus s1 ⟨vs,H1,I1,r1,q1⟩=>?_) (by rw[hs,BX]) (by rw[BX];rfl)));obtain⟨x,y,yV,yW,e,k1,k2,q⟩:=q1;subst e;obtain⟨u,w',rfl,ru,rw'⟩:=vals2 r1;obtain⟨o1,c1,oV,t1,i1,ZC,R_,ZD,P5,z1⟩:=Nf I1 k1 ru;obtain⟨o2,c2,nK,t2,i2,Js,Ck,ZE,IG,z2⟩:=Nf I1 k2 rw';refine Cm i1 i2 Ck ZC Js ZD ZE λh' hz Kg Kh g1 g2 qj hk=>?_;have I2:Inv X ε σ H1 {s1 with heap:=h'}:=I1.kept (t':=s1.toks) hk;refine wpAny_pyIter_zip hz ?_;obtain⟨S1,a1⟩:=z1 s1.heap.objs.size (cc _);obtain⟨S2,a2⟩:=z2 (s1.heap.objs.size+1) (Mz _);have D:Apart (s1.heap.objs.size+4) (s1.heap.objs.size+2) (s1.heap.objs.size+3) s1.heap.objs.size (s1.heap.objs.size+1) (s1.heap.objs.size::oV) ((s1.heap.objs.size+1)::nK):=by exact Fc P5 IG
 refine⟨s1.heap.objs.size+4,_,_,_,H1,rfl,I2,Fb D S1 S2,⟨hz,Kg,⟨_,_,Kh⟩,a1 _ g1,a2 _ g2⟩,λc hc=>?_,q⟩;have hge:s1.heap.objs.size<=c:=Km hc;exact I1.m7 hge (I1.bF.fresh hge)
noncomputable def P6:T->Option (List T)
 |.lst ts=>some ts
 |.tup ts=>some ts
 |.str z=>some (z.cps.toList.map λc=>.str ⟨#[c]⟩)
 |_=>none
noncomputable def lZ(xs ys:List T):List T:=List.zipWith (λa b=>.tup [a,b]) xs ys
noncomputable def ZI(fa fb:FE):FI:=λρ Q=>fa ρ λx=>fb ρ λy=>match P6 x,P6 y with
 |some xs,some ys=>Q (lZ xs ys)
 |_,_=>False
def Nh{A:Ω}{x:T}{xs:List T}(h:At K H A x v)(e:P6 x=some xs):∃sq,ZK K H v sq/\∀H A,At K H A x v->∃vs,sq H vs/\az K H A xs vs:=by
 cases x with
 |lst ts=>cases e;simp only[At] at h;obtain⟨a,vs,rfl,l,q⟩:=h;refine⟨_,.lst l.sq,λH A h=>?_⟩;simp only[At] at h;obtain⟨a',jr,e,l',q'⟩:=h;cases e;exact⟨jr,l'.sq,q'⟩
 |tup ts=>cases e;simp only[At] at h;obtain⟨a,vs,rfl,l,q⟩:=h;refine⟨_,.tup l,λH A h=>?_⟩;simp only[At] at h;obtain⟨a',jr,e,l',q'⟩:=h;cases e;exact⟨jr,l',q'⟩
 |str z=>
  cases e;simp only[At] at h;subst h;refine⟨_,.str z,λH A h=>⟨yU z,rfl,?_⟩⟩;unfold yU;generalize z.cps.toList=l;induction l with
  |nil=>exact az.nil
  |cons c l ih=>exact az.cons dF ih
 |_=>cases e
theorem P7{x y:T}{w:V}{xs ys:List T}{yV yW:Hp->qak->Prop}(h1:∀H A,At K H A x v->∃vs,yV H vs/\az K H A xs vs)(h2:∀H A,At K H A y w->∃vs,yW H vs/\az K H A ys vs) :
  Wk K (ZF yV yW) [(x,v),(y,w)] (lZ xs ys):=λH A hA h i=>by
 obtain⟨vs,q1,l1⟩:=h1 H A (h _ fB);obtain⟨ws,q2,l2⟩:=h2 H A (h _ (gz _ fB));have e1:=l1.length;have e2:=l2.length;have el:(lZ xs ys).length=min xs.length ys.length:=by unfold lZ;rw[List.length_zipWith]
 rw[el];refine⟨λhi=>⟨vs,ws,q1,q2,by lia,by lia⟩,λhi=>⟨vs,ws,q1,q2,by lia⟩,λt ht x H' y=>?_⟩;obtain⟨p,a,b,hp,rfl,ha,hb,rfl⟩:=y;unfold lZ at ht;rw[List.getElem?_zipWith] at ht;cases ex:xs[i]? with
 |none=>rw[ex] at ht;cases ht
 |some tx=>
   cases ey:ys[i]? with
   |none=>rw[ex,ey] at ht;cases ht
   |some ty=>rw[ex,ey] at ht;cases ht;obtain⟨v1,g1,g2⟩:=l1.get ex;obtain⟨v2,g3,g4⟩:=l2.get ey;have z1:=ha vs q1;have z2:=hb ws q2;rw[g1] at z1;rw[g3] at z2;cases z1;cases z2;exact⟨aG hp,cY (dS.of aA) (az.cons (g2.same (aG hp)) (az.cons (g4.same (aG hp)) az.nil))⟩
def yX{x1}{pos:Pos}{a b:Expr}{fa fb:FE}(hg:Gl X "zip")(hm:X.mg "zip"=none)(ha:VE X Z a fa)(hb:VE X Z b fb)(hs:starEach [a,b] X.env=[(false,eval a X.env),(false,eval b X.env)]:=by rfl)(BX:starEach [b] X.env=[(false,eval b X.env)]:=by rfl) :
  VI X Z (.Tuple elts x1 tp) (.Call (.Name "zip" p) [a,b] [] pos) (ZI fa fb):=.mk λtm=>
 PI.weak (P4 hg hm (bD (ha tm) (bD (hb tm) cX BX) (by rw[hs,BX])) hs BX) λσ H R ⟨ρ,O,q,I,hf,k⟩=>⟨ρ,O,_,I,hf,λx hx v H1 s1 a1=>⟨ρ,O,_,I.same s1,hx,λy hy w H2 s2 a2=>by
  split at hy
  rename_i xs ys e1 e2
  obtain⟨yV,k1,w1⟩:=Nh (a1.same s2) e1;obtain⟨yW,k2,w2⟩:=Nh a2 e2;exact⟨v,w,yV,yW,rfl,k1,k2,k _ hy _ H2 _ (s1.trans s2) (λp hp=>by
   rcases dg.mp hp with e|hp
   rw[e];exact a1.same s2;rw[hY.mp hp];exact a2) (P7 w1 w2)⟩
  exact hy.elim⟩⟩
end
end VT
variable{Z:VT.Zc}{ρ:VT.En}{ts:List VT.T}{fa fb fe:VT.FE}{tm:List (VT.T×L2.V)}{g:VT.FA}{fc:VT.FB}
abbrev qab:=List (VT.T×L2.V)
abbrev Ψ:=List VT.T
abbrev qam:=VT.Rt->Prop
abbrev ο:=@VT.VP.vr
abbrev χ:=@VT.VP.ve
abbrev fv:=@VT.VP.vx
namespace HE
open PySem PySem.W PySem.Calls PyProof.Rows
noncomputable def nL(tb:String->Option Builtin)(p:Program)(w:World)(n₀:Nat)(ann:Option Value):Nat->SharedT->Thread->Option SharedT
 |0,_,_=>none
 |n+1,s,t=>match through t with
  |true=>some s
  |false=>match stepOk n₀ ann t with
   |false=>none
   |true=>match stepT (denote tb) p w s t with
    |some (s',t')=>nL tb p w n₀ ann n s' t'
    |none=>none
theorem rq{tb:String->Option Builtin}{p:Program}{w:World}{n₀:Nat}{ann:Option Value}:∀{n:Nat}{s s':SharedT}{t:Thread},nL tb p w n₀ ann n s t=some s'->topRun tb p w n₀ ann n s.abs t=some s'.abs
 |0,_,_,_,h=>by cases h
 |n+1,s,s',t,h=>by
  unfold nL at h;unfold topRun;cases ht:through t with
  |true=>rw[ht] at h;cases h;rfl
  |false=>
   rw[ht] at h;cases hk:stepOk n₀ ann t with
   |false=>rw[hk] at h;cases h
   |true=>
    rw[hk] at h;cases hs:stepT (denote tb) p w s t with
    |none=>rw[hs] at h;cases h
    |some r=>obtain⟨s₂,t₂⟩:=r;rw[hs] at h;rw[stepT_spec hs];exact rq h
noncomputable def mkT(l:List Obj):BT:=(l.foldl (λ(p:BT×Nat) o=>(p.1.ins p.2 o,p.2+1)) (.nil,0)).1
noncomputable def kz(P:Params):BT:=mkT (boot_heap P).objs.toList
noncomputable def UJ(T:BT)(os:OsState):SharedT:=⟨T,11,{},Array.mk [],boot_drawn,boot_toks,os⟩
theorem boot_abs(P:Params):absHeap (kz P) 11 {}=boot_heap P:=by kernel_rfl
theorem Co(P:Params):((boot_heap P).isNs mainGlobals,(boot_heap P).objs.size,(boot_heap P).nsMap mainGlobals "__annotations__")=(true,11,some (.ref 6)):=by kernel_rfl
noncomputable def P8(p:Program)(T:BT)(w:World)(M:Nat)(os:OsState):Option SharedT:=nL treeTable p w 11 (some (.ref 6)) M (UJ T os) (topStub p)
noncomputable def Kf(as:Ω)(g:Addr->Option Obj):Frag:=as.filterMap λa=>(g a).map λo=>(a,o)
noncomputable def tg(T:BT)(n:Nat)(a:Addr):Option Obj:=match Nat.blt a n with
 |true=>alive ((T.get a).getD default)
 |false=>none
def UK(T:BT)(n:Nat)(life:Life)(a:Addr):(absHeap T n life).get? a=tg T n a:=by
 unfold tg;cases h:Nat.blt a n with
 |true=>
  have hn:a<n:=Nat.ble_eq.mp h;cases g:T.get a with
  |some o=>rw[abs_get hn g];rfl
  |none=>have e:=absHeap_at T n life a;rw[ι hn,g] at e;unfold Heap.get?;rw[e];rfl
 |false=>
  have hn:¬ a<n:=λz=>by have:Nat.blt a n=true:=Nat.ble_eq.mpr z;rw[h] at this;cases this
  exact abs_get_none hn
abbrev Kn(q:Program)(lv:List (Str×WData))(R:WRecords)(s:Shared):Bool:=xlAt q lv s && recOk R s
noncomputable def lookA(p q:Program)(loose:ω)(lv:List (Str×WData))(R:WRecords)(T:BT)(H0:Heap)(w:World)(M:Nat)(os:OsState) :=
 (P8 p T w M os).map λs=>((staticsOk (importedModules p.main.body) H0 s.abs.heap && namesBound p s.abs.heap && gensDone s.abs && laidKept H0 s.abs.heap),
  (openSeen q loose (importedModules p.main.body) (Kn q lv R) true s.abs).1,(openSeen q loose (importedModules p.main.body) (Kn q lv R) true s.abs).2.1)
noncomputable def lookB(p q:Program)(loose:ω)(lv:List (Str×WData))(R:WRecords)(T:BT)(w:World)(M:Nat)(os:OsState) :=
 (P8 p T w M os).map λs=>(openSeen q loose (importedModules p.main.body) (Kn q lv R) true s.abs).2.2
noncomputable def lookC{β:Type}(p:Program)(as:Ω)(F:Frag->β)(T:BT)(w:World)(M:Nat)(os:OsState) :=
 (P8 p T w M os).map λs=>F (Kf as (tg s.tree s.n))
noncomputable def tM(p:Program)(N:Nat)(w:World)(a:Addr):Option Obj:=(openEnds treeTable p w N).bind (·.heap.get? a)
def head{p q:Program}{loose:ω}{lv:List (Str×WData)}{R:WRecords}{as:Ω}{N M:Nat}{F:Frag->β}{v:World->β}(e:opening p=plainProg p.main.scope.names)(hN:Nat.ble 600 N=true)(f:∀s,fenceModules? p s=some s)(le:Nat.ble M N=true)(ra:∀(w:World) (os:OsState),lookA p q loose lv R (kz w.params) (boot_heap w.params) w M os=some (true,(openGood q loose).1,(openGood q loose).2.1))(rb:∀(w:World) (os:OsState),lookB p q loose lv R (kz w.params) w M os=some (openGood q loose).2.2)(rc:∀(w:World) (os:OsState),lookC p as F (kz w.params) w M os=some (v w)) :
  LeftO p q loose (Kn q lv R) (λs=>as.map s.heap.get?) (λw=>as.map (tM p N w)) N/\∀w,F (Kf as (tM p N w))=v w:=by
 have key:∀w,∃s,openEnds treeTable p w N=some s/\openSeen q loose (importedModules p.main.body) (Kn q lv R) true s=openGood q loose/\F (Kf as s.heap.get?)=v w:=λw=>by
  obtain⟨⟨h,gs,d,k,os⟩,e1,e2⟩:=IQ.mp (boot_open e hN f w);obtain⟨rfl,rfl,rfl,rfl⟩:h=boot_heap w.params/\gs=Array.mk []/\d=boot_drawn/\k=boot_toks:=by simpa using e2
  obtain⟨s,r1,r2⟩:=IQ.mp (ra w os);obtain⟨s',r1',rb'⟩:=IQ.mp (rb w os);obtain⟨Tt,ZJ,rc'⟩:=IQ.mp (rc w os);obtain rfl:s=s':=Option.some.inj (r1.symm.trans r1');obtain rfl:s=Tt:=Option.some.inj (r1.symm.trans ZJ);have r3:=rk (λx=>x.1) r2;have r4:openSeen q loose (importedModules p.main.body) (Kn q lv R) true s.abs=openGood q loose:=IA (rk (λx=>x.2.1) r2) (IA (rk (λx=>x.2.2) r2) rb');have r5:F (Kf as s.abs.heap.get?)=v w:=by rw[show s.abs.heap.get?=tg s.tree s.n from funext λa=>UK _ _ _ a];exact rc'
  have t1:=rq r1;have ea:(UJ (kz w.params) os).abs=⟨boot_heap w.params,Array.mk [],boot_drawn,boot_toks,os⟩:=by show (⟨absHeap (kz w.params) 11 {},_,_,_,_⟩:Shared)=_;rw[boot_abs];rfl
  rw[ea] at t1;have t2:=topRun_mono (N-M) _ _ _ _ t1;rw[show M+(N-M)=N by have:=Nat.le_of_ble_eq_true le;lia] at t2;have z:=Co w.params;have z1:=rk (λx=>x.1) z;have z2:=rk (λx=>x.2.1) z;have z3:=rk (λx=>x.2.2) z;refine⟨s.abs,?_,r4,r5⟩;unfold openEnds;rw[e1];show topFrom treeTable p w N _=_;unfold topFrom;dsimp only at z1 z2 z3 ⊢;rw[z1,z2,z3,t2];show (match staticsOk (importedModules p.main.body) (boot_heap w.params) s.abs.heap && namesBound p s.abs.heap && gensDone s.abs && laidKept (boot_heap w.params) s.abs.heap with|true=>_|false=>_)=_;have r3':(staticsOk (importedModules p.main.body) (boot_heap w.params) s.abs.heap && namesBound p s.abs.heap && gensDone s.abs && laidKept (boot_heap w.params) s.abs.heap)=true:=r3;rw[r3']
 refine⟨λw=>?_,λw=>?_⟩;obtain⟨s,a,b,c⟩:=key w;rw[a];have:tM p N w=s.heap.get?:=by funext x;unfold tM;rw[a];rfl
 show some (openSeen q loose (importedModules p.main.body) (Kn q lv R) true s,as.map s.heap.get?)=some (openGood q loose,as.map (tM p N w));rw[b,this];obtain⟨s,a,b,c⟩:=key w;have:tM p N w=s.heap.get?:=by funext x;unfold tM;rw[a];rfl
 rw[this];exact c
def kf_in{as:Ω}{g:Addr->Option Obj}(e:as.map h.get?=as.map g):(Kf as g).In h:=by
 have key:∀{as:Ω},as.map h.get?=as.map g->∀a o,(Kf as g).lookup a=some o->h.get? a=some o:=by
  intro as;induction as with
  |nil=>intro _ a o z;cases z
  |cons x as ih=>
   intro e a o z;rw[jk,jk] at e;injection e with e1 e2
   unfold Kf at z;rw[qS] at z;cases hg:g x with
   |none=>rw[hg] at z;exact ih e2 a o z
   |some o'=>
    rw[hg] at z;simp only[Option.map_some,IU] at z;split at z
    rename_i q
    have:a=x:=by simpa using q
    subst this;cases z;rw[e1,hg];exact ih e2 a o z
 exact λa o z=>key e a o z
def Fd{q:Program}{loose:ω}{XP:(qae)->Heap->Prop}{as:Ω}{g:World->Addr->Option Obj}{r:RowW}{d:DefRec}{kwd:List (Str×Expr)}{run:Value->qag->Sem Value}(h:WalkO q loose XP (λw h=>(Kf as (g w)).In h) r d kwd run):WalkX q loose XP (λs=>as.map s.heap.get?) (λw=>as.map (g w)) r d kwd run :=
 λw s₀ s₁ mg mb G y a o pm cd doc dV kV h1 h2 h3 h4 h5 h6 args vals rm L lF TU hrd TQ IE=>h w s₀ s₁ mg mb G (λb o' z=>Laid.keeps L _ _ (kf_in y b o' z)) a o pm cd doc dV kV h1 h2 h3 h4 h5 h6 args vals rm lF TU hrd TQ IE
noncomputable def UL:Stmt->DefRec
 |.FunctionDef n ps b _ _ _ sc _ _ p=>⟨n,ps,b,sc,p⟩
 |_=>⟨Str.empty,default,[],default,default⟩
end HE
lay_quick HE.lookA HE.lookB HE.lookC
namespace VT
open PySem PySem.Spec PyProof.Rows L2
section
variable{X:Cx}{k k':Nat}{pos:Pos}{G:Ψ->(qam)->Prop}
def aW(C:cC X.prog X.w X.K X.mg X.base x ps k (cM X.K n G))(hr:bA k' X.A)(ha:VA X Z (e::es) g)(hg:Gl X x:=by rfl)(hk:k<=k':=by decide)(qk:f7 x:=by decide)(he:starEach (e::es) X.env=(false,eval e X.env)::starEach es X.env:=by rfl)(j7:(backTo pos (starEach es X.env)).any (·.1)=false:=by rfl) :
  VP X Z (.Call (.Name x p) (e::es) [] pos) (iu n g G):=by
 obtain⟨f,fd,h1,h2,h3,F⟩:=C;exact cx F (hr.mono hk) hg h1 h2 h3 ha qk he j7
end
end VT
namespace Gen
open PySem L2 VT
open qq (bM)
def small(h:n<=1000):n<=sizeLine:=Nat.le_of_lt (B6 h)
def P9(h:Nat.ble n 1000=true):n<=sizeLine:=small (Nat.le_of_ble_eq_true h)
noncomputable def l0(n:Int):Nat:=bM.cps.toList.getD (n % 26).toNat 0
def wt:bM.cps.toList.length=26:=by decide +kernel
def tO:bM.length=26:=by decide +kernel
def fY:bM.length<=sizeLine:=by rw[tO,ς];decide
def rA(n:Int):jc bM.cps.toList (n % 26)=some (l0 n):=by
 have h0:0<=n % 26:=qf n (by decide);have h1:n % 26<26:=qT n (by decide);unfold l0;obtain⟨j,hj⟩:=p9 h0;rw[hj];have d_:j<bM.cps.toList.length:=by rw[wt];lia
 refine ai ?_;rw[lh,List.getD,jj d_];rfl
def tP(c:Int):Int:=c % 1000000000000
def l6(c:Int):Nat:=(1+tP c % 7).toNat
def IH(c:Int):Nat:=(tP c / 7 % (l6 c:Int)).toNat
noncomputable def Cq(c:Int)(k j:Nat):Int:=tP c / 49 / ((j:Int)+1)+(j:Int) * (j:Int)+(if j=IH c then (k:Int) else 0)
noncomputable def cD(c:Int)(k n:Nat):Str:=⟨((List.range n).map λj=>l0 (Cq c k j)).toArray⟩
noncomputable def dH(c:Int)(m:Nat):ω :=
 if tP c / 49 % 3=1 then ((List.range m).map λk=>cD c k (l6 c)).set 1 (cD c 0 (l6 c)++⟨#[l0 (tP c / 147)]⟩) else (List.range m).map λk=>cD c k (l6 c)
def Ni(c:Int):((l6 c:Nat):Int)=1+tP c % 7:=by
 unfold l6;have:0<=tP c % 7:=qf _ (by decide)
 lia
def yY(c:Int):1<=l6 c/\l6 c<=7:=by
 have:=Ni c;have h0:0<=tP c % 7:=qf _ (by decide);have h1:tP c % 7<7:=qT _ (by decide)
 lia
def UM(c:Int):((IH c:Nat):Int)=tP c / 7 % (l6 c:Int):=by
 unfold IH;have h:=yY c;have:0<=tP c / 7 % (l6 c:Int):=qf _ (by lia)
 lia
def yZ(c:Int)(k n:Nat):cD c k (n+1)=cD c k n++⟨#[l0 (Cq c k n)]⟩:=by
 unfold cD;rw[RS,p_];show _=Str.mk (_++_)
 congr 1
 simp
def iV(c:Int)(k n:Nat):(cD c k n).length=n:=by unfold cD Str.length;simp
def y0(c:Int)(m:Nat):(dH c m).length=m:=by unfold dH;split<;>simp
def UN:(10:Int) ^ (12:Int).toNat=1000000000000:=by decide +kernel
inductive ix where
 |nm (x:Str)
 |nu (i:Int)
inductive Ky where
 |fld (x:Str)
 |op (o:ix)
inductive Rw where
 |df (f:Str) (ps:ω)
 |give (a:ix)
 |put (x:Str) (a:ix)
 |Fe (x:Str) (a:ix) (op:Str) (b:ix)
 |new (x:Str)
 |get (x r:Str) (k:Ky)
 |set (r:Str) (k:Ky) (a:ix)
 |call (x f:Str) (as:List ix)
 |fail (w:Str)
 |II (a:ix)
 |yc
 |yd (a:ix)
 |fin
 |skip
noncomputable def l7:ix->T
 |.nm x=>.str x
 |.nu i=>.int i
noncomputable def vD:Ky->T
 |.fld x=>.str (((".":String):Str)++x)
 |.op o=>l7 o
noncomputable def aR:Rw->T
 |.df f ps=>.tup [.str "def",.str f,.tup (ps.map .str)]
 |.give a=>.tup [.str "give",l7 a]
 |.put x a=>.tup [.str "put",.str x,l7 a]
 |.Fe x a op b=>.tup [.str "do",.str x,l7 a,.str op,l7 b]
 |.new x=>.tup [.str "new",.str x]
 |.get x r k=>.tup [.str "get",.str x,.str r,vD k]
 |.set r k a=>.tup [.str "set",.str r,vD k,l7 a]
 |.call x f as=>.tup [.str "call",.str x,.str f,.tup (as.map l7)]
 |.fail w=>.tup [.str "fail",.str w]
 |.II a=>.tup [.str "if",l7 a]
 |.yc=>.tup [.str "else"]
 |.yd a=>.tup [.str "while",l7 a]
 |.fin=>.tup [.str "end"]
 |.skip=>.tup [.str "skip"]
def gY(ys:ω):ix->Prop
 |.nm x=>x∈ys
 |.nu i=>-1000000000000000000000000000000<=i/\i<1000000000000000000000000000000
def Cr(ys:ω):Ky->Prop
 |.fld x=>x∈ys
 |.op o=>gY ys o
abbrev Plan:=List (Str×ω)
noncomputable def reckon:ω:=["plus","minus","times","over","rest","less","same"]
def iy(ys:ω)(later:Plan):Rw->Prop
 |.put x a=>x∈ys/\gY ys a
 |.Fe x a op b=>x∈ys/\gY ys a/\op∈reckon/\gY ys b
 |.new x=>x∈ys
 |.get x r k=>x∈ys/\r∈ys/\Cr ys k
 |.set r k a=>r∈ys/\Cr ys k/\gY ys a
 |.call x f as=>x∈ys/\(∃ps,(f,ps)∈later/\as.length=ps.length)/\∀a∈as,gY ys a
 |.fail w=>w∈ys
 |.skip=>True
 |_=>False
noncomputable def bw(p:Str×ω):T:=.tup [.str p.1,.tup (p.2.map .str)]
def kA(hl:ys.length=6){n:Int}(hm:0<m)(hm6:m<=6):∃y∈ys,jc (ys.map T.str) (n % (m:Int))=some (T.str y):=by
 have h0:0<=n % (m:Int):=qf n (by lia);have h1:n % (m:Int)<m:=qT n (by lia);obtain⟨j,hj⟩:=p9 h0;have d_:j<ys.length:=by lia
 refine⟨ys[j],RN d_,?_⟩;rw[hj];refine ai ?_;rw[fD,jj d_];rfl
def UO:(10:Int) ^ (30:Int).toNat=1000000000000000000000000000000:=by decide +kernel
def UP:(10:Int) ^ (9:Int).toNat=1000000000:=by decide +kernel
def UQ:(10:Int) ^ (6:Int).toNat=1000000:=by decide +kernel
def ZL:(((".":String):Str)).length=1:=by decide +kernel
def UR(i:Int):∃op∈reckon,jc [T.str "plus",T.str "minus",T.str "times",T.str "over",T.str "rest",T.str "less",T.str "same"] (i % 7)=some (T.str op):=by
 have h0:0<=i % 7:=qf i (by decide);have h1:i % 7<7:=qT i (by decide);obtain⟨j,hj⟩:=p9 h0;rw[hj] at h1 ⊢;have:j=0\/j=1\/j=2\/j=3\/j=4\/j=5\/j=6:=by lia
 obtain rfl|rfl|rfl|rfl|rfl|rfl|rfl:=this
 exact⟨"plus",by simp[reckon],ai rfl⟩;exact⟨"minus",by simp[reckon],ai rfl⟩;exact⟨"times",by simp[reckon],ai rfl⟩;exact⟨"over",by simp[reckon],ai rfl⟩;exact⟨"rest",by simp[reckon],ai rfl⟩;exact⟨"less",by simp[reckon],ai rfl⟩;exact⟨"same",by simp[reckon],ai rfl⟩
def y3(hl:ys.length=6)(n:Int):∃y∈ys,jc (ys.map T.str) (4+n % 2)=some (T.str y):=by
 have h0:0<=n % 2:=qf n (by decide);have h1:n % 2<2:=qT n (by decide);obtain⟨j,hj⟩:=p9 h0;have d_:4+j<ys.length:=by lia
 refine⟨ys[4+j],RN d_,?_⟩;rw[hj];have e:(4:Int)+(j:Int)=((4+j:Nat):Int):=by lia
 rw[e];refine ai ?_;rw[fD,jj d_];rfl
def l8(ys:ω)(pl:Plan)(bN:ω)(new:List Rw)(c8:ω):Prop :=
 (∃o,gY ys o/\new=[.II o]/\c8=bN++([("if":Str)]:ω))\/(∃o,gY ys o/\new=[.yd o]/\c8=bN++([("while":Str)]:ω)) \/
 (∃y,y∈ys/\new=[.yd (.nm y),.Fe y (.nm y) "minus" (.nu 1)]/\c8=bN++([("while":Str)]:ω))\/(∃s0,bN=s0++([("if":Str)]:ω)/\new=[.yc]/\c8=s0++([("else":Str)]:ω)) \/
 (∃s0 x,bN=s0++[x]/\new=[.fin]/\c8=s0)\/(∃r,iy ys pl r/\new=[r]/\c8=bN)
def Ko{pl:Plan}{bN new c8}(h:l8 ys pl bN new c8):new.length+c8.length<=bN.length+3:=by obtain⟨o,_,rfl,rfl⟩|⟨o,_,rfl,rfl⟩|⟨y,_,rfl,rfl⟩|⟨s0,rfl,rfl,rfl⟩|⟨s0,x,rfl,rfl,rfl⟩|⟨r,_,rfl,rfl⟩:=h<;>simp<;>lia
def Ff(hl:ys.length=6)(n:Int):jc (ys.map T.str) (n % 4)=some (T.str (ys.getD (n % 4).toNat Str.empty)):=by
 have h0:0<=n % 4:=qf n (by decide);have h1:n % 4<4:=qT n (by decide);obtain⟨j,hj⟩:=p9 h0;have d_:j<ys.length:=by lia
 rw[hj];refine ai ?_;rw[fD,lh,List.getD,jj d_];rfl
inductive Body(ys:ω)(later:Plan):ω->List Rw->Prop
 |nil:Body ys later [] []
 |step {bN c8:ω} {body new:List Rw}:Body ys later bN body->l8 ys later bN new c8->Body ys later c8 (body++new)
inductive Pre(ys:ω)(pl:Plan):Nat->List Rw->Prop
 |zero:Pre ys pl 0 []
 |succ {k:Nat} {rs:List Rw} {f:Str} {ps:ω} {bN:ω} {body:List Rw} {o:ix} {sk:List Rw}:Pre ys pl k rs->pl[k]?=some (f,ps)->Body ys (pl.drop (k+1)) bN body->gY ys o->(sk=[]\/sk=[.skip]) ->
  Pre ys pl (k+1) (rs++(.df f ps::(body++(List.replicate bN.length .fin++(.give o::sk)))))
theorem de{α:Type}{f:α->T}(h:∀x,plainT (f x)=true):∀l:List α,cg (l.map f)=true
 |[]=>by simp[cg]
 |x::l=>by simp only[jk,cg,h x,de h l,Bool.and_self]
theorem eY{α:Type}{f:α->T}{n:Nat}(h:∀x,dep (f x)<=n):∀l:List α,oC (l.map f)<=n
 |[]=>by simp[oC]
 |x::l=>by have:=h x;have:=eY h l;simp only[jk,oC];lia
def y4(p:Str×ω):plainT (bw p)=true:=by simp[bw,plainT,cg,de (f:=T.str) (λ_=>by simp[plainT])]
def wu(pl:Plan):plainT (.lst (pl.map bw))=true:=by simp only[plainT];exact de y4 pl
def Fh(p:Str×ω):dep (bw p)<=2:=by have:=eY (f:=T.str) (n:=0) (λ_=>by simp[dep]) p.2;simp only[bw,dep,oC];lia
def Cs(pl:Plan):dep (.lst (pl.map bw))<=100:=by have:=eY (f:=bw) (n:=2) Fh pl;simp only[dep];lia
def l9(o:ix):plainT (l7 o)=true:=by cases o<;>simp[l7,plainT]
def Ct(o:Ky):plainT (vD o)=true:=by cases o with|fld x=>simp[vD,plainT]|op o=>exact l9 o
def y7(r:Rw):plainT (aR r)=true:=by cases r<;>simp[aR,plainT,cg,l9,Ct,de (f:=T.str) (λ_=>by simp[plainT]),de (f:=l7) l9]
def tQ(o:ix):dep (l7 o)=0:=by cases o<;>simp[l7,dep]
def Kq(o:Ky):dep (vD o)=0:=by cases o with|fld x=>simp[vD,dep]|op o=>exact tQ o
def Fi(r:Rw):dep (aR r)<=2:=by have h1:=λl:ω=>eY (f:=T.str) (n:=0) (λ_=>by simp[dep]) l;have h2:=λl:List ix=>eY (f:=l7) (n:=0) (λo=>by simp[tQ]) l;cases r<;>simp[aR,dep,oC,tQ,Kq]<;>first|(rename_i x;have:=h1 x;lia)|(rename_i x;have:=h2 x;lia)|skip
end Gen
variable{r:Gen.Rw}{pl:Gen.Plan}
abbrev qal:=List Gen.Rw
namespace Gen
open PySem L2 VT
open qq (bM B' cP)
def AH(n:Int):B' (l0 n)=true:=by
 have h0:0<=n % 26:=qf n (by decide);have h1:n % 26<26:=qT n (by decide);have h:∀j<26,B' (bM.cps.toList.getD j 0)=true:=by decide +kernel
 exact h _ (by lia)
def oX{c:Int}{k:Nat}(h1:1<=n)(h8:n<=8):cP (cD c k n)=true:=by unfold cP;rw[iV,ν (by lia),ν (by lia),yh,yh];show ((List.range n).map λj=>l0 (Cq c k j)).all B'=true;rw[List.all_map];exact IV.mpr λj _=>AH _
def Fj{n:Int}(h:cP x=true)(hl:x.length<=7):cP (x++⟨#[l0 n]⟩)=true:=by
 have hx:=qq.gE h;have el:(x++(⟨#[l0 n]⟩:Str)).length=x.length+1:=by show (x.cps++#[l0 n]).size=_;simp[Str.length]
 unfold cP;rw[el,ν (by lia),ν (by lia),yh,yh];show (x.cps++#[l0 n]).toList.all B'=true;simp only[Iw,List.all_append,hx,yh];simp[AH]
def Cu{c:Int}(h:y∈dH c m):(∃k<m,y=cD c k (l6 c))\/y=cD c 0 (l6 c)++⟨#[l0 (tP c / 147)]⟩:=by
 have hz:∀{y},y∈((List.range m).map λk=>cD c k (l6 c))->∃k<m,y=cD c k (l6 c):=λh=>by obtain⟨k,hk,rfl⟩:=jZ.mp h;exact⟨k,yg.mp hk,rfl⟩
 unfold dH at h;split at h;rcases Su h with h|h
 exact .inl (hz h);exact .inr h;exact .inl (hz h)
def y8{c:Int}:∀y∈dH c m,cP y=true:=by
 intro y hy;have hs:=yY c;rcases Cu hy with⟨k,_,rfl⟩|rfl
 exact oX (by lia) (by lia);exact Fj (oX (by lia) (by lia)) (by rw[iV];lia)
noncomputable def wd:Rw->Str
 |.df _ _=>"def"
 |.give _=>"give"
 |.put _ _=>"put"
 |.Fe _ _ _ _=>"do"
 |.new _=>"new"
 |.get _ _ _=>"get"
 |.set _ _ _=>"set"
 |.call _ _ _=>"call"
 |.fail _=>"fail"
 |.II _=>"if"
 |.yc=>"else"
 |.yd _=>"while"
 |.fin=>"end"
 |.skip=>"skip"
noncomputable def eh(st:ω)(x:Str):Bool:=match st.getLast? with
 |none=>DM (.str x) [.str "def",.str "skip"]
 |some l=>if x="give" then decide (l="def") else if x="else" then decide (l="if") else if x="end" then !decide (l="def") else !decide (x="def")
noncomputable def jM(st:ω)(x:Str):ω :=
 if x="def"\/x="if"\/x="while" then st++[x] else if x="give"\/x="end" then st.dropLast else if x="else" then st.dropLast++[("else":Str)] else st
theorem AI(x:Str):∀l:ω,DM (.str x) (l.map .str)=decide (x∈l)
 |[]=>by simp[DM]
 |y::l=>by rw[jk];show (eqT (.str y) (.str x) || DM (.str x) (l.map .str))=_;rw[AI x l];show (decide (y=x) || decide (x∈l))=_;rw[Bool.eq_iff_iff];simp only[Bool.or_eq_true,aaE,dg];constructor;rintro (h|h);exact .inl h.symm;exact .inr h;rintro (h|h);exact .inl h.symm;exact .inr h
def Kr(r:Rw):∃l,aR r=.tup (.str (wd r)::l):=by cases r<;>exact⟨_,rfl⟩
theorem l_{f:α->T}{xs:List α}{h:FG}{g:FS}{d:M7}(Pv:Nat->En->Prop)(h0:Pv 0 ρ)(hs:∀(i:Nat) x ρ',xs[i]?=some x->Pv i ρ'->h (.tup [.int (i:Int),f x]) ρ' λρ2=>g {nx:=Pv (i+1),ct:=Pv (i+1),bk:=d.nx,rt:=d.rt} ρ2)(hd:∀ρ',Pv xs.length ρ'->d.nx ρ'):gX (eV (xs.map f)) h g d ρ:=⟨Pv,h0,λi t ρ' e p=>by
 unfold eV at e;rw[WY,fD] at e;cases q:xs[i]? with
 |none=>rw[q] at e;cases e
 |some x=>rw[q] at e;cases e;exact hs i x ρ' q p,λρ' p=>hd ρ' (by unfold eV at p;rw[List.length_mapIdx,bX] at p;exact p)⟩
noncomputable def Ks(o:Option (ω))(r:Rw):Option (ω):=o.bind λst=>if eh st (wd r)=true then some (jM st (wd r)) else none
noncomputable def iW(o:Option (ω))(rs:qal):Option (ω):=rs.foldl Ks o
def iX(o:Option (ω))(a b:qal):iW o (a++b)=iW (iW o a) b:=N6
def wx(rs:qal):iW none rs=none:=by
 induction rs with
 |nil=>rfl
 |cons r rs ih=>exact ih
def Cv{st:ω}(h:eh st (wd r)=true):Ks (some st) r=some (jM st (wd r)):=by show (if eh st (wd r)=true then _ else _)=_;rw[ι h]
def cW{st:ω}(h:eh st (wd r)=true):iW (some st) [r]=some (jM st (wd r)):=Cv h
theorem wy{rs:qal}{st:ω}(h:iW (some []) rs=some st)(i:Nat)(hr:rs[i]?=some r) :
  ∃s,iW (some []) (rs.take i)=some s/\eh s (wd r)=true/\iW (some []) (rs.take (i+1))=some (jM s (wd r)):=by
 have hi:=(dz.mp hr).1;have e:rs=rs.take i++(r::rs.drop (i+1)):=by have hg:=(dz.mp hr).2;rw[<- hg,List.getElem_cons_drop,Sy]
 have e2:rs.take (i+1)=rs.take i++[r]:=by have hg:=(dz.mp hr).2;rw[<- hg,List.take_append_getElem]
 rw[e,iX] at h;cases hs:iW (some []) (rs.take i) with
 |none=>rw[hs,wx] at h;cases h
 |some s=>
   rw[hs] at h;have h':iW (Ks (some s) r) (rs.drop (i+1))=some st:=h;cases hm:eh s (wd r) with
   |false=>
     have:Ks (some s) r=none:=by show (if eh s (wd r)=true then _ else _)=_;rw[hm];rfl
     rw[this,wx] at h';cases h'
   |true=>exact⟨s,rfl,hm,by rw[e2,iX,hs];exact cW hm⟩
abbrev nM:Str:="def"
def Hd(x:Str):Prop:=x="if"\/x="while"\/x="else"
def Hd.ne(h:Hd x):x≠"def":=by obtain rfl|rfl|rfl:=h<;>decide +kernel
def rB(h:iy ys pl r):∀st,st≠[]->eh st (wd r)=true/\jM st (wd r)=st:=by
 intro st Ov;obtain⟨l,hl⟩:∃l,st.getLast?=some l:=by
  cases e:st.getLast? with
  |none=>rw[List.getLast?_eq_none_iff] at e;exact absurd e Ov
  |some l=>exact⟨l,rfl⟩
 have k:∀x:Str,(x="put"\/x="do"\/x="new"\/x="get"\/x="set"\/x="call"\/x="fail"\/x="skip")->eh st x=true/\jM st x=st:=by intro x hx;unfold eh jM;rw[hl];obtain rfl|rfl|rfl|rfl|rfl|rfl|rfl|rfl:=hx<;>exact⟨(by show (if _ then _ else _)=true;rw[η (by decide +kernel),η (by decide +kernel),η (by decide +kernel)];decide +kernel),(by rw[η (by decide +kernel),η (by decide +kernel),η (by decide +kernel)])⟩
 cases r<;>first
  |exact h.elim
  |exact k _ (by simp[wd])
def Fm(st:ω):jM st "if"=st++[("if":Str)]:=by unfold jM;rw[ι (.inr (.inl rfl))]
def ma(st:ω):jM st "while"=st++[("while":Str)]:=by unfold jM;rw[ι (.inr (.inr rfl))]
def AJ(st:ω):jM st "def"=st++[nM]:=by unfold jM;rw[ι (.inl rfl)]
def tR(st:ω):jM st "end"=st.dropLast:=by unfold jM;rw[η (by decide +kernel),ι (by decide +kernel)]
def wz(st:ω):jM st "give"=st.dropLast:=by unfold jM;rw[η (by decide +kernel),ι (by decide +kernel)]
def wB(st:ω):jM st "else"=st.dropLast++[("else":Str)]:=by unfold jM;rw[η (by decide +kernel),η (by decide +kernel),ι rfl]
def tS(st:ω)(l x:Str)(hx:x="if"\/x="while"):eh (st++[l]) x=true:=by unfold eh;rw[RL];obtain rfl|rfl:=hx<;>(show (if _ then _ else _)=true;rw[η (by decide +kernel),η (by decide +kernel),η (by decide +kernel)];decide +kernel)
def Cw(st:ω):eh (st++[("if":Str)]) "else"=true:=by unfold eh;rw[RL];show (if _ then _ else _)=true;rw[η (by decide +kernel),ι rfl];decide +kernel
def wC(st:ω){l:Str}(h:l≠"def"):eh (st++[l]) "end"=true:=by unfold eh;rw[RL];show (if _ then _ else _)=true;rw[η (by decide +kernel),η (by decide +kernel),ι rfl,π h];rfl
def Cy(st:ω):eh (st++[nM]) "give"=true:=by unfold eh;rw[RL];show (if _ then _ else _)=true;rw[ι rfl];decide +kernel
def nN{st:ω}(h:st≠[]):∃s l,st=s++[l]:=⟨st.dropLast,st.getLast h,(List.dropLast_concat_getLast h).symm⟩
def Kt{bN new c8}(h:l8 ys pl bN new c8)(hs:∀x∈bN,Hd x) :
  iW (some (nM::bN)) new=some (nM::c8)/\∀x∈c8,Hd x:=by
 have hd:∀st:ω,∃s l,nM::st=s++[l]:=λst=>nN (by simp);obtain⟨o,_,rfl,rfl⟩|⟨o,_,rfl,rfl⟩|⟨y,_,rfl,rfl⟩|⟨s0,rfl,rfl,rfl⟩|⟨s0,x,es,rfl,e'⟩|⟨r,hr,rfl,e'⟩:=h
 obtain⟨s,l,e⟩:=hd bN;refine⟨?_,?_⟩;rw[cW (st:=nM::bN) (r:=.II o) (by rw[e];exact tS s l _ (.inl rfl))];show some (jM _ "if")=_;rw[Fm];rfl;intro x hx;rcases gx.mp hx with hx|hx
 exact hs x hx;simp only[dg,fE,aag] at hx;exact .inl hx;obtain⟨s,l,e⟩:=hd bN;refine⟨?_,?_⟩;rw[cW (st:=nM::bN) (r:=.yd o) (by rw[e];exact tS s l _ (.inr rfl))];show some (jM _ "while")=_;rw[ma];rfl;intro x hx;rcases gx.mp hx with hx|hx
 exact hs x hx;simp only[dg,fE,aag] at hx;exact .inr (.inl hx);obtain⟨s,l,e⟩:=hd bN;refine⟨?_,?_⟩;have h1:iW (some (nM::bN)) [Rw.yd (.nm y)]=some ((nM::bN)++[("while":Str)]):=by rw[cW (st:=nM::bN) (r:=.yd (.nm y)) (by rw[e];exact tS s l _ (.inr rfl))];show some (jM _ "while")=_;rw[ma]
 have h2:=rB (ys:=[y]) (pl:=[]) (r:=.Fe y (.nm y) "minus" (.nu 1)) ⟨by simp,by simp[gY],by simp[reckon],by decide,by decide⟩ ((nM::bN)++[("while":Str)]) (by simp);show iW (iW (some (nM::bN)) [Rw.yd (.nm y)]) [Rw.Fe y (.nm y) "minus" (.nu 1)]=_;rw[h1,cW h2.1,h2.2];rfl;intro x hx;rcases gx.mp hx with hx|hx
 exact hs x hx;simp only[dg,fE,aag] at hx;exact .inr (.inl hx);refine⟨?_,?_⟩;have e:nM::(s0++[("if":Str)])=(nM::s0)++[("if":Str)]:=rfl;rw[e,cW (Cw _)];show some (jM _ "else")=_;rw[wB,WZ];rfl;intro x hx;rcases gx.mp hx with hx|hx
 exact hs x (hX _ hx);simp only[dg,fE,aag] at hx;exact .inr (.inr hx);subst es;subst e';refine⟨?_,λy hy=>hs y (hX _ hy)⟩;have e:nM::(c8++[x])=(nM::c8)++[x]:=rfl;rw[e,cW (wC _ (hs x (by simp)).ne)];show some (jM _ "end")=_;rw[tR,WZ];subst e';have:=rB hr (nM::c8) (by simp);refine⟨?_,hs⟩;rw[cW this.1,this.2]
def Fn{bN body}(h:Body ys pl bN body):iW (some [nM]) body=some (nM::bN)/\∀x∈bN,Hd x:=by
 induction h with
 |nil=>exact⟨rfl,λx hx=>nomatch hx⟩
 |step _ h2 ih=>have:=Kt h2 ih.2;exact⟨by rw[iX,ih.1];exact this.1,this.2⟩
theorem wD:∀(n:Nat)(bN:ω),bN.length=n->(∀x∈bN,Hd x)->iW (some (nM::bN)) (List.replicate n .fin)=some [nM]
 |0,bN,hl,_=>by rw[Mr] at hl;subst hl;rfl
 |n+1,bN,hl,hs=>by obtain⟨s,l,rfl⟩:=nN (st:=bN) (by intro z;subst z;cases hl);rw[BF];show iW (iW (some ((nM::s)++[l])) [Rw.fin]) (List.replicate n .fin)=_;rw[cW (wC _ (hs l (by simp)).ne)];show iW (some (jM _ "end")) _=_;rw[tR,WZ];exact wD n s (by simpa using hl) λx hx=>hs x (hX _ hx)
def Ku{rs:qal}(h:Pre ys pl n rs):iW (some []) rs=some []:=by
 induction h with
 |zero=>rfl
 |@succ k rs f ps bN body o sk _ hk hb ho hs ih=>
  rw[iX,ih];show iW (iW (some []) [Rw.df f ps]) _=_;rw[cW (by show eh [] "def"=true;decide +kernel)];show iW (some (jM [] "def")) _=_;rw[AJ,iX];have hB:=Fn hb;show iW (iW (some [nM]) body) _=_;rw[hB.1,iX,wD _ bN rfl hB.2];show iW (iW (some ([]++[nM])) [Rw.give o]) sk=_;rw[cW (Cy [])];show iW (some (jM _ "give")) sk=_;rw[wz,WZ];obtain rfl|rfl:=hs
  rfl;rw[cW (by show eh [] "skip"=true;decide +kernel)];show some (jM [] "skip")=_;rfl
def Cz(n:Nat):iW (some []) (List.replicate n .skip)=some []:=by
 induction n with
 |zero=>rfl
 |succ n ih=>rw[BF];show iW (iW (some []) [Rw.skip]) (List.replicate n .skip)=_;rw[cW (by show eh [] "skip"=true;decide +kernel)];exact ih
noncomputable def qH:List (Str×Nat)->Str->Option Nat
 |[],_=>none
 | (k,i)::l,f=>if k=f then some i else qH l f
theorem nP(l m:List (Str×Nat))(f:Str):qH (l++m) f=match qH l f with
  |some i=>some i
  |none=>qH m f:=by
 induction l with
 |nil=>rfl
 |cons p l ih=>obtain⟨k,i⟩:=p;simp only[List.cons_append,qH];by_cases h:k=f;rw[ι h,ι h];rw[η h,η h];exact ih
noncomputable def Fo(l:List (Str×Nat))(i:Nat):Rw->List (Str×Nat)
 |.df f _=>match qH l f with
  |some _=>l
  |none=>l++[(f,i)]
 |_=>l
noncomputable def aZ(rs:qal):Nat->List (Str×Nat)
 |0=>[]
 |n+1=>match rs[n]? with
  |some r=>Fo (aZ rs n) n r
  |none=>aZ rs n
theorem oY{rs:qal}{f:Str}{j:Nat}:∀n,qH (aZ rs n) f=some j->j<n/\∃ps,rs[j]?=some (.df f ps)
 |0,h=>nomatch h
 |n+1,h=>by
  have old:qH (aZ rs n) f=some j->j<n+1/\∃ps,rs[j]?=some (.df f ps):=λh=>by have:=oY n h;exact⟨by lia,this.2⟩
  simp only[aZ] at h;split at h
  rename_i r hr
  cases r with
  |df g ps=>
   simp only[Fo] at h;split at h;exact old h
   rename_i hn
   rw[nP] at h;split at h
   rename_i i hi
   cases h;exact old hi;simp only[qH] at h;split at h
   rename_i e
   cases h;subst e;exact⟨by lia,ps,hr⟩;cases h
  |_=>exact old h
  exact old h
theorem me{rs:qal}{f:Str}{i:Nat}{ps:ω}(hi:rs[i]?=some (.df f ps)):∀n,i<n->∃j,qH (aZ rs n) f=some j
 |0,h=>absurd h (by lia)
 |n+1,h=>by
  simp only[aZ];by_cases e:i=n;subst e;rw[hi];simp only[Fo];cases ha:qH (aZ rs i) f with
  |some j=>exact⟨j,ha⟩
  |none=>refine⟨i,?_⟩;simp only;rw[nP,ha];simp only[qH,aav]
  obtain⟨j,hj⟩:=me hi n (by lia);split
  rename_i r hr
  cases r with
  |df g qs=>simp only[Fo];split;exact⟨j,hj⟩;rw[nP,hj];exact⟨j,rfl⟩
  |_=>exact⟨j,hj⟩
  exact⟨j,hj⟩
end Gen
variable{rs:qal}
namespace K5
structure Kd where
 op:Bool
 cl:Bool
 el:Bool
 df:Bool
deriving DecidableEq,Inhabited
section
variable(kd:Nat->Kd)
noncomputable def st:Nat->qao
 |0=>[]
 |k+1=>let s:=if (kd k).cl=true then (st k).dropLast else st k
  if (kd k).op=true then s++[k] else s
noncomputable def dp(k:Nat):Nat:=(st kd k).length
structure WF(n:Nat):Prop where
 ex:∀k,k<n->(kd k).op=true->(kd k).cl=false
 cl:∀k,k<n->(kd k).cl=true->st kd k≠[]
 el:∀k,k<n->(kd k).el=true->st kd k≠[]
 nc:∀k,k<n->(kd k).el=true->(kd k).cl=false/\(kd k).op=false
 dn:∀k,k<n->(kd k).df=true->(kd k).op=true
 fin:st kd n=[]
end
section
variable{kd:Nat->Kd}
def gZ{k:Nat}(h:(kd k).op=true)(h':(kd k).cl=false):st kd (k+1)=st kd k++[k]:=by simp[st,h,h']
def iz{k:Nat}(h:(kd k).cl=true)(h':(kd k).op=false):st kd (k+1)=(st kd k).dropLast:=by simp[st,h,h']
def eB{k:Nat}(h:(kd k).cl=false)(h':(kd k).op=false):st kd (k+1)=st kd k:=by simp[st,h,h']
def WF.Yg(W:WF kd n){k:Nat}(hk:k<n)(h:(kd k).cl=true):(kd k).op=false:=by
 cases q:(kd k).op with
 |false=>rfl
 |true=>rw[W.ex k hk q] at h;cases h
def AK(W:WF kd n){k:Nat}(hk:k<n)(h:(kd k).op=true):dp kd (k+1)=dp kd k+1:=by unfold dp;rw[gZ h (W.ex k hk h)];simp
theorem wF(W:WF kd n){k:Nat}(hk:k<n)(h:(kd k).cl=true):dp kd (k+1)+1=dp kd k:=by
 unfold dp;rw[iz h (W.Yg hk h),ye];have:0<(st kd k).length:=W2.mpr (W.cl k hk h)
 lia
def Fp{k:Nat}(h:(kd k).cl=false)(h':(kd k).op=false):dp kd (k+1)=dp kd k:=by unfold dp;rw[eB h h']
theorem Nj(W:WF kd n):∀k,k<=n->∀i j,(st kd k)[i]?=some j->j<k/\(kd j).op=true/\dp kd j=i/\∀m,j<m->m<=k->i<dp kd m
 |0,_,i,j,h=>by simp[st] at h
 |k+1,hk,i,j,h=>by
  have ih:=Nj W k (by lia);have P_:k<n:=by lia
  have ext:∀{i j:Nat},(st kd k)[i]?=some j->i<dp kd (k+1)->j<k+1/\(kd j).op=true/\dp kd j=i/\∀m,j<m->m<=k+1->i<dp kd m:=λ{i j} h hd=>by obtain⟨a,b,c,d⟩:=ih i j h;refine⟨by lia,b,c,λm h1 h2=>?_⟩;by_cases e:m=k+1;rw[e];exact hd;exact d m h1 (by lia)
  by_cases ho:(kd k).op=true;rw[gZ ho (W.ex k P_ ho)] at h;have hd:=AK W P_ ho;by_cases hi:i<(st kd k).length;rw[mK hi] at h;exact ext h (by rw[hd];exact N5 hi);rw[p8 (by lia)] at h;have e:i-(st kd k).length=0:=by
   cases q:i-(st kd k).length with
   |zero=>rfl
   |succ r=>rw[q] at h;simp at h
  rw[e] at h;simp at h;subst h;have ei:i=dp kd k:=by unfold dp;lia
  refine⟨by lia,ho,ei.symm,λm h1 h2=>?_⟩;have:m=k+1:=by lia
  rw[this,hd,ei];lia;have n5:(kd k).op=false:=by cases q:(kd k).op<;>simp_all
  by_cases hc:(kd k).cl=true;rw[iz hc n5] at h;have hi:i<(st kd k).dropLast.length:=(dz.mp h).1;have hd:dp kd (k+1)=(st kd k).dropLast.length:=by unfold dp;rw[iz hc n5]
  rw[NZ,ι (by rw[ye] at hi;exact hi)] at h;exact ext h (by rw[hd];exact hi);have qg:(kd k).cl=false:=by cases q:(kd k).cl<;>simp_all
  rw[eB qg n5] at h;have hd:dp kd (k+1)=dp kd k:=Fp qg n5;exact ext h (by rw[hd];exact (dz.mp h).1)
theorem Nk(W:WF kd n){j:Nat}(ho:(kd j).op=true):∀k,j<k->k<=n->(∀m,j<m->m<=k->dp kd j<dp kd m)->(st kd k)[dp kd j]?=some j
 |0,h,_,_=>by lia
 |k+1,h,hk,hm=>by
  have P_:k<n:=by lia
  by_cases e:j=k;subst e;rw[gZ ho (W.ex j P_ ho)];unfold dp;rw[p8 (cc _)];simp;have ih:=Nk W ho k (by lia) (by lia) λm h1 h2=>hm m h1 (by lia);have hd:=hm (k+1) (by lia) (cc _);by_cases n5:(kd k).op=true;rw[gZ n5 (W.ex k P_ n5),mK (dz.mp ih).1];exact ih;have Qa:(kd k).op=false:=by cases q:(kd k).op<;>simp_all
  by_cases hc:(kd k).cl=true;have hl:dp kd (k+1)=(st kd k).length-1:=by unfold dp;rw[iz hc Qa,ye]
  rw[iz hc Qa,NZ,ι (by lia)];exact ih;have qg:(kd k).cl=false:=by cases q:(kd k).cl<;>simp_all
  rw[eB qg Qa];exact ih
noncomputable def iY(kd:Nat->Kd)(n d:Nat):Nat->Nat->Option Nat
 |0,_=>none
 |f+1,k=>if k<n then (if dp kd (k+1)=d then some k else iY kd n d f (k+1)) else none
noncomputable def endOf(kd:Nat->Kd)(n j:Nat):Option Nat:=iY kd n (dp kd j) (n-(j+1)) (j+1)
theorem kB{d:Nat}:∀{f k e:Nat},iY kd n d f k=some e->k<=e/\e<n/\dp kd (e+1)=d/\∀m,k<=m->m<e->dp kd (m+1)≠d
 |0,_,_,h=>by cases h
 |f+1,k,e,h=>by
  simp only[iY] at h;split at h
  rename_i hk
  split at h
  rename_i hd
  cases h;exact⟨cc _,hk,hd,λm h1 h2=>by lia⟩
  rename_i hd
  obtain⟨a,b,c,r⟩:=kB h;refine⟨by lia,b,c,λm h1 h2=>?_⟩;by_cases em:m=k;rw[em];exact hd;exact r m (by lia) h2;cases h
theorem kD{d:Nat}:∀{f k:Nat},iY kd n d f k=none->∀m,k<=m->m<k+f->m<n->dp kd (m+1)≠d
 |0,k,_,m,h1,h2,_=>by lia
 |f+1,k,h,m,h1,h2,h3=>by
  simp only[iY] at h;split at h;split at h;cases h
  rename_i hd
  by_cases em:m=k;rw[em];exact hd;exact kD h m (by lia) (by lia) h3
  lia
theorem Kv(W:WF kd n){k:Nat}(hk:k<n):dp kd k<=dp kd (k+1)+1:=by
 by_cases ho:(kd k).op=true;rw[AK W hk ho];lia;have n5:(kd k).op=false:=by cases q:(kd k).op<;>simp_all
 by_cases hc:(kd k).cl=true;rw[wF W hk hc];exact cc _;have qg:(kd k).cl=false:=by cases q:(kd k).cl<;>simp_all
 rw[Fp qg n5];lia
theorem above(W:WF kd n){j:Nat}(hj:j<n)(ho:(kd j).op=true):∀k,j<k->k<=n->(∀m,j<m->m<k->dp kd (m+1)≠dp kd j)->∀m,j<m->m<=k->dp kd j<dp kd m
 |0,h,_,_,m,_,_=>by lia
 |k+1,h,hk,gf,m,h1,h2=>by
  by_cases em:m=k+1;subst em;by_cases e:j=k;subst e;rw[AK W hj ho];lia;have ih:=above W hj ho k (by lia) (by lia) (λm a b=>gf m a (by lia)) k (by lia) (cc _);have s:=Kv W (k:=k) (by lia);have ne:=gf k (by lia) (by lia)
  lia
  by_cases e:j=k
  lia
  exact above W hj ho k (by lia) (by lia) (λm a b=>gf m a (by lia)) m h1 (by lia)
theorem end_is(W:WF kd n)(hj:j<n)(ho:(kd j).op=true):∃e,endOf kd n j=some e/\j<e/\e<n/\dp kd (e+1)=dp kd j/\∀m,j<m->m<e->dp kd (m+1)≠dp kd j:=by
 cases h:endOf kd n j with
 |some e=>obtain⟨a,b,c,d⟩:=kB h;exact⟨e,rfl,by lia,b,c,λm h1 h2=>d m (by lia) h2⟩
 |none=>
  exfalso;have q:=kD h;have a:=above W hj ho n hj (cc _) (λm h1 h2=>q m (by lia) (by lia) h2) n hj (cc _);have z:dp kd n=0:=by unfold dp;rw[W.fin];rfl
  lia
theorem iZ:∀k,(st kd k).Pairwise (·<·)/\∀j∈st kd k,j<k
 |0=>⟨List.Pairwise.nil,λj h=>(by simp[st] at h)⟩
 |k+1=>by
  obtain⟨h1,h2⟩:=iZ k;have base:∀{s:qao},s.Sublist (st kd k)->s.Pairwise (·<·)/\∀j∈s,j<k:=λsl=>⟨h1.sublist sl,λj h=>h2 j (sl.subset h)⟩;have key:∀{s:qao},s.Sublist (st kd k)->(if (kd k).op=true then s++[k] else s).Pairwise (·<·)/\∀j∈(if (kd k).op=true then s++[k] else s),j<k+1:=λ{s} sl=>by
   obtain⟨a,b⟩:=base sl;split;refine⟨SF.mpr ⟨a,List.pairwise_singleton _ _,λx hx y hy=>by rw[hY.mp hy];exact b x hx⟩,λj hj=>?_⟩;rcases gx.mp hj with h|h
   exact N5 (b j h);rw[hY.mp h];exact DA _;exact⟨a,λj hj=>N5 (b j hj)⟩
  simp only[st];by_cases hc:(kd k).cl=true;rw[ι hc];exact key (List.dropLast_sublist _);rw[η hc];exact key (List.Sublist.refl _)
noncomputable def endsAt(kd:Nat->Kd)(n j:Nat):Option Nat:=if (kd j).op=true then endOf kd n j else none
theorem Kw(W:WF kd n){k:Nat}(hk:k<n)(hc:(kd k).cl=true)(ht:(st kd k).getLast?=some j):endsAt kd n j=some k/\j<k:=by
 have hl:(st kd k)[(st kd k).length-1]?=some j:=by rw[<- DU];exact ht
 obtain⟨a,b,c,d⟩:=Nj W k (by lia) _ j hl;obtain⟨e,h1,h2,h3,h4,h5⟩:=end_is W (by lia) b;refine⟨?_,a⟩;unfold endsAt;rw[ι b,h1]
 congr 1
 have hd:=wF W hk hc;have yP:dp kd (k+1)=dp kd j:=by rw[c];unfold dp at hd ⊢;lia
 rcases Nat.lt_or_ge e k with l|l
 have:=d (e+1) (by lia) (by lia)
 lia
 rcases Nat.lt_or_ge k e with l2|l2
 exact absurd yP (h5 k a l2)
 lia
theorem tV(W:WF kd n){k:Nat}(hk:k<n)(he:endsAt kd n j=some k)(hj:j<n):(kd k).cl=true/\(st kd k).getLast?=some j:=by
 unfold endsAt at he;by_cases ho:(kd j).op=true;rw[ι ho] at he;obtain⟨e,h1,h2,h3,h4,h5⟩:=end_is W hj ho;rw[h1] at he;cases he;have ab:=above W hj ho k h2 (by lia) λm x y=>h5 m x y;have hk0:=ab k h2 (cc _);have hc:(kd k).cl=true:=by
  cases q:(kd k).cl with
  |true=>rfl
  |false=>exfalso;by_cases n5:(kd k).op=true;rw[AK W hk n5] at h4;lia;rw[Fp q (by cases r:(kd k).op<;>simp_all)] at h4;lia
 refine⟨hc,?_⟩;have hd:=wF W hk hc;have:=Nk W ho k h2 (by lia) ab;rw[DU];have e:(st kd k).length-1=dp kd j:=by unfold dp at hd h4 ⊢;lia
 rw[e];exact this;rw[η ho] at he;cases he
end
end K5
namespace VT
open PySem PySem.Spec PyProof.Rows L2
structure Fq(K:zm)(H H':Hp)(Ox:Ω)(us:Ψ)(p:Addr)(ls:Ω):Prop where
 same:aL H H'
 tup:H' p=some (.tup (ls.map V.ref))
 nd:ls.Nodup
 new:∀a∈ls,H a=none
 Xz:Paired (λa t=>cL K H' (ls++Ox) a t) ls us
def Qb(K:zm)(n:Nat)(G:Ψ->(Ψ->Prop)->Prop):Sp:=λvs H Q _=>∃ts Ox q,(∀a∈Ox,H a≠none)/\az K H Ox ts vs/\ts.length=n/\G ts q /\
 ∀us,q us->∀p ls H',Fq K H H' Ox us p ls->Q (.ref p) H'
structure ZM(K:zm)(Z:Zc)(tm:qab)(d:M7)(dp:Ψ->Prop)(D:Ends):Prop where
 fin:Fin K Z tm d D
 dp:∀us,dp us->∀p ls H',Fq K Z.H0 H' Z.Ox us p ls->D.rt (.ref p) H'
abbrev Nl:=M7->(Ψ->Prop)->En->Prop
def lSD(X:Cx)(Z:Zc)(tm:qab)(g:Nl):TS:=λD σ H=>∃ρ O d dp,au X.K Z tm O ρ σ H/\g d dp ρ/\ZM X.K Z tm d dp D
def CA(X:Cx)(Z:Zc)(st:qaq)(g:Nl):Prop:=Bx λtm=>iP X st (lSD X Z tm g)
instance{X:Cx}{Z:Zc}{st:qaq}{g:Nl}:CoeFun (CA X Z st g) λ_=>∀tm,iP X st (lSD X Z tm g):=⟨λh=>Bx.h h⟩
noncomputable def Kx(ρ:En):qao->Option (Ψ)
 |[]=>some []
 |i::is=>match ρ[i]?,Kx ρ is with
  |some (some (t,true)),some ts=>some (t::ts)
  |_,_=>none
section
variable{X:Cx}{st:Stmt}{g:FS}{u:Nl}{pos:Pos}
def US(g:FS)(u:Nl):Nl:=λd dp ρ=>g {d with nx:=u d dp} ρ
def eZ(h1:VS X Z st g)(h2:CA X Z rest u):CA X Z (st::rest) (US g u):=.mk λtm=>iP.jn (dh (h1 tm) (h2 tm)) λD σ H ⟨ρ,O,d,dp,I,h,F⟩ =>
 ⟨ρ,O,{d with nx:=u d dp},I,h,⟨λO' ρ' σ' H' I' h'=>⟨ρ',O',d,dp,I',h',F⟩,F.fin.rt,F.fin.bk,F.fin.ct⟩⟩
def tW(X:Cx):qap->qao->Prop
 |[],is=>is=[]
 |e::es,is=>∃x p i js,e=.Name x p/\is=i::js/\X.N[i]?=some x/\mP X.env.scope x/\(x==("__debug__":Str))=false/\(x==("__classdict__":Str))=false/\starEach (e::es) X.env=(false,eval e X.env)::starEach es X.env/\tW X es js
def UT(is:qao):TA:=λσ H Q=>∃vs,Paired (λ(i:Nat) (v:V)=>σ[i]?=some (some v)) is vs/\Q vs H
theorem AL:∀{es:qap}{is:qao},tW X es is->PA X es (UT is)
 |[],is,h=>λpos ε s σ H Q I ⟨vs,hv,q⟩=>by have e:is=[]:=h;subst e;cases hv;exact cX pos ε s σ H Q I q
 |e::es,is,h=>by
  obtain⟨x,p,i,js,rfl,rfl,h1,h2,h3,h4,h5,h6⟩:=h;exact PA.weak (bD (bY h1 h2 h3 h4) (AL h6) h5) λσ H Q ⟨vs,hv,q⟩=>by
   cases hv with
   |cons r t=>exact⟨_,r,_,t,q⟩
theorem wG{K:zm}{tm:qab}{O:HD}{ρ:En}{σ:St}{H:Hp}(I:au K Z tm O ρ σ H):∀{is:qao}{ts:Ψ},Kx ρ is=some ts ->
  ∃ls:Ω,Paired (λ(i:Nat) (v:V)=>σ[i]?=some (some v)) is (ls.map V.ref)/\Paired (λ(i:Nat) (a:Addr)=>O[i]?=some (some a)) is ls/\Paired (λa t=>cL K H (av Z O) a t) ls ts
 |[],ts,h=>by cases h;exact⟨[],.nil,.nil,.nil⟩
 |i::is,ts,h=>by
   simp only[Kx] at h;split at h
   rename_i t us e1 e2
   cases h;obtain⟨a,h1,h2,h3⟩:=I.root e1;obtain⟨ls,g1,g2,g3⟩:=wG I e2;exact⟨a::ls,.cons h2 g1,.cons h1 g2,.cons h3 g3⟩;cases h
def fZ{R:α->β->Prop}{l:List α}{m:List β}(h:Paired R l m){b:β}(hb:b∈m):∃a∈l,R a b:=by
 induction h with
 |nil=>cases hb
 |cons r t ih=>
  rcases dg.mp hb with e|hb
  subst e;exact⟨_,fB,r⟩;obtain⟨a,h1,h2⟩:=ih hb;exact⟨a,gz _ h1,h2⟩
def y9{tm:qab}(I:au K Z tm O ρ σ H){ls:Ω}(nd:is.Nodup)(h:Paired (λ(i:Nat) (a:Addr)=>O[i]?=some (some a)) is ls):ls.Nodup:=by
 induction h with
 |nil=>exact IW
 |cons r t ih=>rw[nY] at nd ⊢;refine⟨λm=>?_,ih nd.2⟩;obtain⟨j,hj,e⟩:=fZ t m;exact nd.1 (by rw[v7 I r e];exact hj)
noncomputable def Nn(is:qao):Nl:=λ_ dp ρ=>match Kx ρ is with
 |some ts=>dp ts
 |none=>False
theorem Kz{x1}(hP:Z.P=[])(hn:tW X es is)(nd:is.Nodup)(hl:is.length<=100):CA X Z [.Return (some (.Tuple es x1 p)) pos] (Nn is):=.mk λtm=>
 j5 (PS.weak (yk (lz (AL hn))) λD σ H ⟨ρ,O,d,dp,I,h,F⟩=>by
  unfold Nn at h;split at h
  rename_i ts e
  obtain⟨ls,g1,g2,g3⟩:=wG I e;refine⟨ls.map V.ref,g1,?_,λq hq=>F.dp ts h q ls _ ⟨?_,aA,y9 I nd g2,λa ha=>?_,?_⟩⟩;rw[bX,<- IX g2,ς];lia;intro b o eb;have:=I.keep b o eb (by rw[hP];exact λz=>nomatch z);rw[ar (bt this hq)];exact this;obtain⟨i,_,e⟩:=fZ g2 ha;rcases (I.own a (aF.mpr (f_ e))).1 with z|z
  rw[hP] at z;exact nomatch z;exact z;refine Paired.j3 g3 λa t r=>(r.same (aG hq)).bj λb hb=>?_;rcases gx.mp hb with z|z
  obtain⟨i,_,e⟩:=fZ g2 z;exact hX _ (aF.mpr (f_ e));exact iN _ z;exact h.elim)
end
section
def e_(n:Nat):roots (List.replicate n none)=[]:=by
 unfold roots;induction n with
 |zero=>rfl
 |succ n ih=>rw[BF,qS];exact ih
def mf{N:ω}{Ox:Ω}{ts:Ψ}(hN:ts.length<=N.length)(ox:∀a∈Ox,H a≠none)(h:az K H Ox ts vs) :
  au K ⟨H,[],Ox⟩ [] (List.replicate N.length none) (ts.map (λt=>some (t,false))++List.replicate (N.length-ts.length) none) (start N vs) H:=by
 have hl:=h.length;have ea:av ⟨H,[],Ox⟩ (List.replicate N.length none)=Ox:=by unfold av;rw[e_];rfl
 refine⟨?_,by simp;lia,λi e he=>?_,by rw[e_];exact IW,λa ha=>?_,λp hp=>(nomatch hp),ox,λb o e _=>e,λp hp=>(nomatch hp)⟩;unfold L2.start;simp[hl];rw[ea];by_cases hi:i<ts.length;rw[mK (by simpa using hi),fD] at he;have e1:ts[i]?=some ts[i]:=by simp
 rw[e1] at he;cases he;obtain⟨v,h1,h2⟩:=h.get e1;refine⟨none,some v,by rw[DV,ι (by lia)],?_,rfl,v,rfl,h2⟩;unfold L2.start;rw[mK (by rw[bX];lia),fD,h1];rfl;rw[p8 (by simpa using hi),DV] at he;split at he
 rename_i d_
 cases he;rw[bX] at d_;refine⟨none,none,by rw[DV,ι (by lia)],?_,rfl⟩;unfold L2.start;rw[p8 (by rw[bX];lia),DV,bX,ι (by lia)];cases he;rw[e_] at ha;exact nomatch ha
def fnD{st:Stmt}{N:ω}{k:Nat}{G:Ψ->(Ψ->Prop)->Prop}(F:B5 K x qual st f fd)(S:aJ N ps (aq st))(hn:n=ps.length)(hN:n<=N.length)(eQ:∀(bP:Value) (A:Around) (outer:List Env) (s:Shared) (H:Hp) (E:XK) (Ox:Ω),bA k (A.deeper (envOfC qual (aq st) s.heap.objs.size f bP))->∀ts q,G ts q ->
    ∃g,CA (jD iR P w K mg base N qual (aq st) f bP A outer s H E).BM ⟨H,[],Ox⟩ (b_ st) g/\(ts.length=n->g {nx:=λ_=>False,rt:=λ_ _=>False} q (ts.map (λt=>some (t,false))++List.replicate (N.length-ts.length) none))) :
  dA P w K mg base iR (k+1) f fd ps (Qb K n G):=by
 refine F.ok S (λvs H Q E h=>?_) (λbP A outer s H vs Q E hr h=>?_);obtain⟨ts,Ox,q,_,ha,hl,_⟩:=h;rw[ha.length,hl,hn];obtain⟨ts,Ox,q,ox,ha,hl,hG,kk⟩:=h;obtain⟨g,hg,hq⟩:=eQ bP A outer s H E Ox hr ts q hG;exact⟨_,hg [],_,_,_,q,mf (by lia) ox ha,hq hl,⟨⟨λ_ _ _ _ _ h=>h.elim,λ_ _ _ _ _ _ _ h=>h.elim,λ_ _ _ _ _ h=>h.elim,λ_ _ _ _ _ h=>h.elim⟩,λus hu p ls H' D=>kk us hu p ls H' D⟩⟩
end
section
variable{X:Cx}{k:Nat}{G:Ψ->(Ψ->Prop)->Prop}{pos:Pos}
noncomputable def lD(X:Cx)(Z:Zc)(tm:qab)(f:En->(Ψ->Prop)->Prop):TE:=λσ H Q=>∃ρ O q,au X.K Z tm O ρ σ H/\f ρ q/\∀us,q us->∀p ls H',Fq X.K H H' (av Z O) us p ls->Q (.ref p) H'
def VD(X:Cx)(Z:Zc)(e:Expr)(f:En->(Ψ->Prop)->Prop):Prop:=Bx λtm=>PE X e (lD X Z tm f)
instance{X:Cx}{Z:Zc}{e:Expr}{f:En->(Ψ->Prop)->Prop}:CoeFun (VD X Z e f) λ_=>∀tm,PE X e (lD X Z tm f):=⟨λh=>Bx.h h⟩
def Qc(n:Nat)(g:FA)(G:Ψ->(Ψ->Prop)->Prop):En->(Ψ->Prop)->Prop:=λρ Q=>g ρ λts=>ts.length=n/\G ts Q
def tX(F:dA X.prog X.w X.K X.mg X.base iR k f fd ps (Qb X.K n G))(hr:bA k X.A)(hg:Gl X x)(hm:X.mg x=some (.ref f))(hk:W.keepIn X.K (.ref f)=true)(hb:Binds X.K fd ps [])(ha:VA X Z (e::es) g)(qk:f7 x:=by decide)(he:starEach (e::es) X.env=(false,eval e X.env)::starEach es X.env:=by rfl)(j7:(backTo pos (starEach es X.env)).any (·.1)=false:=by rfl) :
  VD X Z (.Call (.Name x p) (e::es) [] pos) (Qc n g G):=.mk λtm=>PE.weak (iQ F hr hg hm hk hb .nil mT (ha tm) qk he j7) λσ H Q ⟨ρ,O,q,I,hf,k⟩ =>
 ⟨ρ,O,_,I,hf,λts f9 vs H1 s1 a1=>by
   show Qb X.K n G (vs++[]) H1 Q E0;rw[BH];refine⟨ts,av Z O,q,(I.same s1).JK,a1,f9.1,f9.2,λus hu p ls H' D=>k us hu p ls H' ⟨s1.trans D.same,D.tup,D.nd,λa ha=>?_,D.Xz⟩⟩;cases z:H a with
   |none=>rfl
   |some o=>have:=D.new a ha;rw[s1 _ _ z] at this;cases this⟩
def Fq.at{tm:qab}{us:Ψ}{p:Addr}{ls:Ω}(I:au K Z tm O ρ σ H)(D:Fq K H H' (av Z O) us p ls):At K H' (av Z O) (.tup us) (.ref p):=by
 refine cY (dS.of D.tup) (az.iff.mpr ?_);have key:∀{XA:Ω}{Np:Ψ},(∀a∈XA,a∈ls)->Paired (λa t=>cL K H' (ls++av Z O) a t) XA Np->Paired (λv t=>At K H' (av Z O) t v) (XA.map V.ref) Np:=by
  intro XA Np sub h;induction h with
  |nil=>exact .nil
  |cons r t ih=>refine .cons ((r.bj λb hb=>iN _ hb).at λz=>?_) (ih λa ha=>sub a (gz _ ha));exact I.JK _ z (D.new _ (sub _ fB))
 exact key (λ_ h=>h) D.Xz
def UU(f:En->(Ψ->Prop)->Prop):FP:=λρ Q=>f ρ λus=>Q (.vw (.tup us))
def VD.vp{f:En->(Ψ->Prop)->Prop}(h:VD X Z e f):VP X Z e (UU f):=.mk λtm=>PE.weak (h tm) λσ H Q ⟨ρ,O,q,I,hf,k⟩ =>
 ⟨ρ,O,_,I,hf,λus hu p ls H' D=>k _ hu _ H' D.same ⟨I.same D.same,D.at I⟩⟩
end
def au.UW{tm:qab}(I:au K Z tm O ρ σ H)(s:Option V)(hp:bh Z i):au K Z tm (O.set i none) (ρ.set i none) (σ.set i s) H:=by
 have J:=I.forget hp;refine⟨by simp[I.lσ],J.lO,λj e h=>?_,J.nd,J.own,J.par,J.ox,J.keep,J.jG⟩;obtain⟨o,w,h1,h2,h3⟩:=J.sl j e h;rcases get_set h with⟨rfl,rfl,hl⟩|⟨ne,h'⟩
 exact⟨o,s,h1,by rw[z6 (by rw[I.lσ];exact hl)],h3⟩;exact⟨o,w,h1,by rw[sg (Ne.symm ne)];exact h2,h3⟩
end VT
namespace K5
open PySem L2 VT Gen
noncomputable def wordOf:Rw->Str
 |.df _ _=>"def" | .give _=>"give" | .put _ _=>"put" | .Fe _ _ _ _=>"do" | .new _=>"new" | .get _ _ _=>"get" | .set _ _ _=>"set" | .call _ _ _=>"call" | .fail _=>"fail"
 |.II _=>"if" | .yc=>"else" | .yd _=>"while" | .fin=>"end" | .skip=>"skip"
def gm(r:Rw):∃l,aR r=.tup (.str (wordOf r)::l):=by cases r<;>exact⟨_,rfl⟩
noncomputable def aQ:Rw->Kd
 |.df _ _=>⟨true,false,false,true⟩
 |.give _=>⟨false,true,false,false⟩
 |.II _=>⟨true,false,false,false⟩
 |.yc=>⟨false,false,true,false⟩
 |.yd _=>⟨true,false,false,false⟩
 |.fin=>⟨false,true,false,false⟩
 |_=>⟨false,false,false,false⟩
def UX(r:Rw):decide (wordOf r="def")=(aQ r).df:=by cases r<;>first|rfl|decide +kernel
def UY(r:Rw):decide (wordOf r="else")=(aQ r).el:=by cases r<;>first|rfl|decide +kernel
def UZ(r:Rw):DM (.str (wordOf r)) [.str "give",.str "end"]=(aQ r).cl:=by cases r<;>first|rfl|decide +kernel
def U0(r:Rw):DM (.str (wordOf r)) [.str "def",.str "if",.str "while"]=(aQ r).op:=by cases r<;>first|rfl|decide +kernel
noncomputable def bC(rs:qal)(k:Nat):Kd:=match rs[k]? with
 |some r=>aQ r
 |none=>⟨false,false,false,false⟩
def du{k:Nat}(h:rs[k]?=some r):bC rs k=aQ r:=by unfold bC;rw[h]
def Qd(rs:qal):Prop:=WF (bC rs) rs.length
def oT:Option Nat->T
 |none=>.bB
 |some k=>.int (k:Int)
def tab(f:Nat->Option Nat)(n k:Nat):Ψ:=(List.range n).map λi=>if i<k then oT (f i) else .bB
def g9(e:Nat->Option Nat)(n k:Nat):Ψ:=(List.range n).map λj=>match e j with
 |some m=>if m<k then .int (m:Int) else .bB
 |none=>.bB
def kG(f n k):(tab f n k).length=n:=by simp[tab]
def wH(f n k):(g9 f n k).length=n:=by simp[g9]
def wI(f n):tab f n 0=List.replicate n .bB:=by unfold tab;rw[List.eq_replicate_iff];exact⟨by simp,λx hx=>by simp at hx;exact hx.2.symm⟩
def CB(f n):g9 f n 0=List.replicate n .bB:=by unfold g9;rw[List.eq_replicate_iff];refine⟨by simp,λx hx=>?_⟩;obtain⟨j,_,rfl⟩:=jZ.mp hx;split<;>simp
def nQ{f:Nat->Option Nat}{k:Nat}:(tab f n k).set k (oT (f k))=tab f n (k+1):=by refine List.ext_getElem? λi=>?_;rw[List.getElem?_set,kG];unfold tab;rw[fD,fD];by_cases hi:i<n;rw[Sx hi];by_cases e:k=i;subst e;rw[ι rfl,ι hi];simp;rw[η e];simp only[Option.map_some];by_cases l:i<k;rw[ι l,ι (by lia)];rw[η l,η (by lia)];rw[Sz (by simp;lia)];split;rw[η (by lia)];rfl;rfl
def wJ{f:Nat->Option Nat}{k:Nat}(h:f k=none):tab f n k=tab f n (k+1):=by unfold tab;refine DW λi _=>?_;by_cases e:i=k;subst e;rw[η (DC _),ι (DA _),h];rfl;by_cases l:i<k;rw[ι l,ι (by lia)];rw[η l,η (by lia)]
def wK(f n):tab f n n=(List.range n).map λi=>oT (f i):=by unfold tab;exact DW λi hi=>by rw[ι (yg.mp hi)]
def Fs{e:Nat->Option Nat}{k:Nat}(h:e j=some k)(u:∀i,i<n->e i=some k->i=j):(g9 e n k).set j (.int (k:Int))=g9 e n (k+1):=by
 refine List.ext_getElem? λi=>?_;rw[List.getElem?_set,wH];unfold g9;rw[fD,fD];by_cases hi:i<n;rw[List.getElem?_range hi];by_cases q:j=i;subst q;rw[ι rfl,ι hi];simp[h];rw[η q];simp only[Option.map_some];cases r:e i with
 |none=>rfl
 |some m=>have:m≠k:=λz=>q (u i hi (by rw[r,z])).symm;simp only;by_cases l:m<k;rw[ι l,ι (by lia)];rw[η l,η (by lia)]
 rw[Sz (by simp;lia)];split;rw[η (by lia)];rfl;rfl
def CC{e:Nat->Option Nat}{k:Nat}(u:∀i,i<n->e i≠some k):g9 e n k=g9 e n (k+1):=by
 unfold g9;refine DW λi hi=>?_;cases r:e i with
 |none=>rfl
 |some m=>have:m≠k:=λz=>u i (yg.mp hi) (by rw[r,z]);simp only;by_cases l:m<k;rw[ι l,ι (by lia)];rw[η l,η (by lia)]
def CD{e:Nat->Option Nat}(h:∀j m,j<n->e j=some m->m<n):g9 e n n=(List.range n).map λi=>oT (e i):=by
 unfold g9;refine DW λi hi=>?_;cases r:e i with
 |none=>rfl
 |some m=>simp only;rw[ι (h i m (yg.mp hi) r)];rfl
section
variable(kd:Nat->Kd)
noncomputable def rC(k:Nat):Option Nat:=(st kd k).getLast?
noncomputable def g6(k:Nat):Option Nat:=if (kd k).df=true then some k else (st kd k).head?
noncomputable def y_(n:Nat):Nat->Ψ
 |0=>List.replicate n .bB
 |k+1=>match (kd k).el,rC kd k with
  |true,some h=>(y_ n k).set h (.int (k:Int))
  |_,_=>y_ n k
end
theorem tY(kd n):∀k,(y_ kd n k).length=n
 |0=>by simp[y_]
 |k+1=>by simp only[y_];split;rw[List.length_set];exact tY kd n k;exact tY kd n k
noncomputable def Ft(rs:qal):Ψ:=[.lst ((List.range rs.length).map λi=>oT (rC (bC rs) i)),.lst ((List.range rs.length).map λi=>oT (endsAt (bC rs) rs.length i)),.lst (y_ (bC rs) rs.length rs.length),.lst ((List.range rs.length).map λi=>oT (g6 (bC rs) i))]
def Fu(rs:qal):eV (rs.map aR)=(rs.zipIdx).map λp=>.tup [.int (p.2:Int),aR p.1]:=by unfold eV;refine List.ext_getElem? λi=>?_;rw[WY,fD,fD,List.getElem?_zipIdx];cases rs[i]?<;>simp
noncomputable def dr:Nat->qal->Option Nat
 |d,[]=>some d
 |d,r::rs=>if (aQ r).cl=true then (if d=0 then none else dr (d-1) rs) else if (aQ r).el=true then (if d=0 then none else dr d rs) else if (aQ r).op=true then dr (d+1) rs else dr d rs
theorem ff:∀(a b:qal)(d:Nat),dr d (a++b)=(dr d a).bind λe=>dr e b
 |[],b,d=>rfl
 |r::a,b,d=>by simp only[List.cons_append,dr];split;split;rfl;exact ff a b _;split;split;rfl;exact ff a b _;split;exact ff a b _;exact ff a b _
def Qe(rs:qal){k:Nat}(h:rs[k]?=some r):(st (bC rs) (k+1)).length=(if (aQ r).cl=true then (st (bC rs) k).length-1 else if (aQ r).op=true then (st (bC rs) k).length+1 else (st (bC rs) k).length):=by
 have mX:=du h;by_cases hc:(aQ r).cl=true;have ho:(aQ r).op=false:=by cases r<;>first|rfl|(cases hc)
 rw[ι hc,iz (by rw[mX];exact hc) (by rw[mX];exact ho),ye];have qg:(aQ r).cl=false:=by cases q:(aQ r).cl<;>simp_all
 rw[η hc];by_cases ho:(aQ r).op=true;rw[ι ho,gZ (by rw[mX];exact ho) (by rw[mX];exact qg)];simp;rw[η ho,eB (by rw[mX];exact qg) (by rw[mX];cases q:(aQ r).op<;>simp_all)]
theorem nR{rs:qal}(h:dr 0 rs=some 0):∀k,k<=rs.length->dr 0 (rs.take k)=some (st (bC rs) k).length
 |0,_=>rfl
 |k+1,hk=>by
  have ih:=nR h k (by lia);have e:rs[k]?=some rs[k]:=by simp
  have et:rs.take (k+1)=rs.take k++[rs[k]]:=by rw[List.take_succ,e];rfl
  have hs:(dr 0 (rs.take (k+1))).isSome=true:=by
   rw[<- Sy (k+1) rs,ff] at h;cases q:dr 0 (rs.take (k+1)) with
   |some _=>rfl
   |none=>rw[q] at h;cases h
  rw[et,ff,ih,RO] at hs ⊢;rw[Qe rs e];simp only[dr] at hs ⊢;by_cases hc:(aQ rs[k]).cl=true;rw[ι hc,ι hc] at *;by_cases z:(st (bC rs) k).length=0;rw[ι z] at hs;cases hs;rw[η z]
  . rw[η hc,η hc] at *;by_cases hl:(aQ rs[k]).el=true
    . have ho:¬ (aQ rs[k]).op=true:=by generalize rs[k]=r at hl;cases r<;>first|(cases hl;done)|(intro z;cases z)
      rw[ι hl,η ho] at *;by_cases z:(st (bC rs) k).length=0;rw[ι z] at hs;cases hs;rw[η z]
    rw[η hl] at *;split<;>rfl
def Nq(h:dr 0 rs=some 0):Qd rs:=by
 have at':∀{k:Nat},k<rs.length->∃r,rs[k]?=some r/\bC rs k=aQ r:=λ{k} hk=>⟨rs[k],by simp,du (by simp)⟩;have step:∀{k:Nat}{r:Rw},rs[k]?=some r->(aQ r).cl=true\/(aQ r).el=true->st (bC rs) k≠[]:=λ{k r} hr DI z=>by
  have hk:k<rs.length:=(dz.mp hr).1;have h1:=nR h k (by lia);have h2:=nR h (k+1) (by lia);have et:rs.take (k+1)=rs.take k++[r]:=by rw[List.take_succ,hr];rfl
  rw[et,ff,h1,RO,z] at h2;simp only[dr,List.length_nil] at h2;obtain q|q:=DI
  rw[ι q,ι True.intro] at h2;cases h2;by_cases q2:(aQ r).cl=true;rw[ι q2,ι True.intro] at h2;cases h2;rw[η q2,ι q,ι True.intro] at h2;cases h2
 refine⟨λk hk ho=>?_,λk hk hc=>?_,λk hk hc=>?_,λk hk hc=>?_,λk hk hc=>?_,?_⟩;obtain⟨r,hr,e⟩:=at' hk;rw[e] at ho ⊢;cases r<;>first|rfl|(cases ho)
 obtain⟨r,hr,e⟩:=at' hk;exact step hr (.inl (by rw[<- e];exact hc));obtain⟨r,hr,e⟩:=at' hk;exact step hr (.inr (by rw[<- e];exact hc));obtain⟨r,hr,e⟩:=at' hk;rw[e] at hc ⊢;cases r<;>first|exact⟨rfl,rfl⟩|(cases hc)
 obtain⟨r,hr,e⟩:=at' hk;rw[e] at hc ⊢;cases r<;>first|rfl|(cases hc)
 have:=nR h rs.length (cc _);rw[Mw,h] at this;exact Mr.mp (Option.some.inj this).symm
def wL(h:iy ys pl r):(aQ r).cl=false/\(aQ r).el=false/\(aQ r).op=false:=by cases r<;>first|exact⟨rfl,rfl,rfl⟩|exact h.elim
def Qf{bN new c8}(h:l8 ys pl bN new c8){d:Nat}(hd:0<d):dr (d+bN.length) new=some (d+c8.length):=by
 obtain⟨o,_,rfl,rfl⟩|⟨o,_,rfl,rfl⟩|⟨y,_,rfl,rfl⟩|⟨s0,rfl,rfl,rfl⟩|⟨s0,x,rfl,rfl,rfl⟩|⟨r,hs,rfl,rfl⟩:=h
 simp[dr,aQ];lia;simp[dr,aQ];lia;simp[dr,aQ];lia;simp[dr,aQ];simp[dr,aQ];obtain⟨a,b,c⟩:=wL hs;simp[dr,a,b,c]
def KA{later:Plan}{bN:ω}{body:qal}(h:Body ys later bN body){d:Nat}(hd:0<d):dr d body=some (d+bN.length):=by
 induction h with
 |nil=>rfl
 |step _ hl ih=>rw[ff,ih,RO];exact Qf hl hd
theorem AN:∀(n d:Nat),dr (d+n) (List.replicate n Rw.fin)=some d
 |0,d=>rfl
 |n+1,d=>by rw[BF];simp only[dr,aQ,aav];rw[η (by lia)];exact AN n d
def Qg{k:Nat}(h:Pre ys pl k rs):dr 0 rs=some 0:=by
 induction h with
 |zero=>rfl
 |succ _ _ hb _ XB ih=>rw[ff,ih,RO];show dr 1 _=some 0;rw[ff,KA hb (by decide),RO,ff,AN,RO];obtain rfl|rfl:=XB<;>rfl
end K5
namespace L2
open PySem PySem.Spec PyProof.Rows
section
variable{X:Cx}
variable{a b:Expr}{tb:TE}{pos:Pos}
variable{tA SW:TT}{rest:qap}
end
section
variable{X:Cx}{CX:DG}{k:Nat}{ks:ω}{sp:Sp}{E:XK}{m:Str}{pos yz:Pos}{o:Expr}{kws:List Keyword}{t tk:TA}{nm:Option Str}
variable{g:qag->qag->qag}{gV:qak->qak->qak}
end
section
variable{κ:Type}[DecidableEq κ]
noncomputable def g_(aV:List (κ×V))(k:κ):Option V:=(aV.find? λkv=>decide (kv.1=k)).map (·.2)
noncomputable def putK(aV:List (κ×V))(k:κ)(v:V):List (κ×V) :=
 if (aV.any λkv=>decide (kv.1=k))=true then aV.map (λkv=>if kv.1=k then (kv.1,v) else kv) else aV++[(k,v)]
def iA{p:κ×V}{r:List (κ×V)}{k:κ}(e:p.1=k):g_ (p::r) k=some p.2:=by simp[g_,RT,e]
def iB{p:κ×V}{r:List (κ×V)}{k:κ}(e:¬ p.1=k):g_ (p::r) k=g_ r k:=by simp[g_,RT,e]
theorem oZ(k:κ):∀aV:List (κ×V),(aV.any λkv=>decide (kv.1=k))=(g_ aV k).isSome
 |[]=>rfl
 |p::r=>by rw[BI];by_cases e:p.1=k;simp only[iA e,ν e,Bool.true_or,Option.isSome_some];rw[iB e,π e,N9];exact oZ k r
theorem iC(aV:List (κ×V))(k:κ)(v:V):(putK aV k v).length<=aV.length+1:=by unfold putK;split;rw[bX];lia;rw[nX,yf,List.length_nil];lia
def Fv{aV:List (κ×V)}{k:κ}(v:V)(h:g_ aV k=none):putK aV k v=aV++[(k,v)]:=by unfold putK;rw[oZ,h];exact η (by decide)
def j1.CF{o:Option V}{u:Option Value}(r:j1 o u):o.isSome=u.isSome:=by
 cases o with
 |none=>cases u with
  |none=>rfl
  |some _=>exact (show False from r).elim
 |some _=>cases u with
  |none=>exact (show False from r).elim
  |some _=>rfl
def j1.getD{o:Option V}{u:Option Value}{d:V}{d':Value}(r:j1 o u)(rd:RelV d d'):RelV (o.getD d) (u.getD d'):=by
 cases o with
 |none=>cases u with
  |none=>exact rd
  |some _=>exact (show False from r).elim
 |some _=>cases u with
  |none=>exact (show False from r).elim
  |some _=>exact r
def KV.val{aV:List (κ×V)}{vs:List (κ×Value)}(r:KV aV vs)(k:κ):j1 (g_ aV k) (valueAt vs k):=by
 induction r with
 |nil=>exact True.intro
 |@cons p q ps qs h t ih=>
  obtain⟨h1,h2⟩:=h;by_cases e:p.1=k;have e':=h1.symm.trans e;have b:valueAt (q::qs) k=some q.2:=by simp[valueAt,RT,e']
  rw[iA e,b];exact h2;have e':¬ q.1=k:=λz=>e (h1.trans z);have b:valueAt (q::qs) k=valueAt qs k:=by simp[valueAt,RT,e']
  rw[iB e,b];exact ih
def KV.any{aV:List (κ×V)}{vs:List (κ×Value)}(r:KV aV vs)(k:κ):(aV.any λkv=>decide (kv.1=k))=vs.any λkv=>decide (kv.1=k):=by
 induction r with
 |nil=>rfl
 |cons h t ih=>rw[BI,BI,ih,h.1]
theorem KV.Qh{aV:List (κ×V)}{vs:List (κ×Value)}(r:KV aV vs)(k:κ){y:V}(ry:RelV y u) :
  KV (aV.map λkv=>if kv.1=k then (kv.1,y) else kv) (vs.map λkv=>if kv.1=k then (kv.1,u) else kv):=by
 induction r with
 |nil=>exact .nil
 |@cons p q ps qs h t ih=>rw[jk,jk];refine .cons ?_ ih;obtain⟨h1,h2⟩:=h;by_cases e:p.1=k;rw[ι e,ι (h1.symm.trans e)];exact⟨h1,ry⟩;rw[η e,η (λz=>e (h1.trans z))];exact⟨h1,h2⟩
def KV.put{aV:List (κ×V)}{vs:List (κ×Value)}(r:KV aV vs)(k:κ){y:V}(ry:RelV y u):KV (putK aV k y) (stored vs k u):=by unfold putK stored;rw[r.any k];by_cases e:(vs.any λkv=>decide (kv.1=k))=true;rw[ι e,ι e];exact r.Qh k ry;rw[η e,η e];exact Paired.snoc r ⟨rfl,ry⟩
def KV.length{aV:List (κ×V)}{vs:List (κ×Value)}(r:KV aV vs):aV.length=vs.length:=IX r
end
def wQ{k:Key}(r:RelV (kV k) u):(bQ P w).is k u=true:=by
 cases k with
 |inl i=>obtain⟨t,e⟩:=(show ∃t,u=Value.int i t from r);subst e;exact vG P w i t
 |inr x=>obtain⟨t,e⟩:=(show ∃t,u=Value.str x t from r);subst e;exact vH P w x t
theorem rD{P:Program}{w:World}:∀{ks:List Key}{us:qag},Vals (ks.map kV) us->ItemsAre (bQ P w) ks us
 |[],_,r=>by rw[RU] at r;cases r;exact .nil
 |k::ks,_,r=>by
  cases r with
  |cons h t=>exact .cons (wQ h) (rD t)
abbrev KT(H:Hp):List (List Key×V)->List (List Key×Addr×Value)->Prop:=Paired λp q=>p.1=q.1/\H q.2.1=some (.tup (p.1.map kV))/\RelV p.2 q.2.2
def KT.val{xs:List (List Key×Addr×Value)}(r:KT H aV xs)(k:List Key):j1 (g_ aV k) ((atKey xs k).map (·.2)):=by
 induction r with
 |nil=>exact True.intro
 |@cons p q ps qs h t ih=>
  obtain⟨h1,_,h2⟩:=h;by_cases e:p.1=k;have e':=h1.symm.trans e;have b:atKey (q::qs) k=some q.2:=by simp[atKey,RT,e']
  rw[iA e,b];exact h2;have e':¬ q.1=k:=λz=>e (h1.trans z);have b:atKey (q::qs) k=atKey qs k:=by simp[atKey,RT,e']
  rw[iB e,b];exact ih
theorem KT.Qh{xs:List (List Key×Addr×Value)}(r:KT H aV xs)(k:List Key){y:V}(ry:RelV y u) :
  KT H (aV.map λkv=>if kv.1=k then (kv.1,y) else kv) (xs.map (putAt k u)):=by
 induction r with
 |nil=>exact .nil
 |@cons p q ps qs h t ih=>rw[jk,jk];refine .cons ?_ ih;obtain⟨h1,h2,h3⟩:=h;unfold putAt;by_cases e:p.1=k;rw[ι e,ι (h1.symm.trans e)];exact⟨h1,h2,ry⟩;rw[η e,η (λz=>e (h1.trans z))];exact⟨h1,h2,h3⟩
def KT.put{xs:List (List Key×Addr×Value)}(r:KT H aV xs)(k:List Key){b:Addr}{y:V}(hb:H b=some (.tup (k.map kV)))(ry:RelV y u) :
  KT H (putK aV k y) (storedH xs k b u):=by
 have e:(aV.any λkv=>decide (kv.1=k))=(atKey xs k).isSome:=by rw[oZ,(r.val k).CF,Option.isSome_map]
 unfold putK storedH;rw[e];by_cases q:(atKey xs k).isSome=true;rw[ι q,ι q];exact r.Qh k ry;rw[η q,η q];exact Paired.snoc r ⟨rfl,hb,ry⟩
def KT.keeps{xs:List (List Key×Addr×Value)}(r:KT H aV xs)(ht:∀b ys,H b=some (.tup ys)->H' b=some (.tup ys)):KT H' aV xs :=
 Paired.j3 r λ_ _ z=>⟨z.1,ht _ _ z.2.1,z.2.2⟩
section
variable{a:Addr}
def Nr{u:HO}(ok:jb P w H h)(e:Rd H a u):bH P w H h a u:=e.ok ok
def rE{aV:List (Key×V)}(ok:jb P w H h)(e:Rd H a (.dK aV)):aV.length<=sizeLine/\(a==sysModules)=false/\∃vs,KV aV vs/\h.DictOf (bQ P w) a vs :=
 show bH P w H h a (.dK aV) from Nr ok e
def AO{aV:List (Key×V)}(ok:jb P w H h)(e:H a=some (.dK aV)):aV.length<=sizeLine/\(a==sysModules)=false/\∃vs,KV aV vs/\h.DictOf (bQ P w) a vs:=rE ok (.inl e)
def tZ{ks:List Key}(ok:jb P w H h)(e:H a=some (.tup (ks.map kV))):(tupleKind (bQ P w)).is h ks a:=by obtain⟨_,aT,r,o,h1,h2,n,h3⟩:=(show bH P w H h a (.tup (ks.map kV)) from ok a _ e);exact⟨o,aT.toArray,n,h1,h2,h3,by simpa using rD r⟩
def wR(ok:jb P w H h)(e:Rd H a (.dT aV)):aV.length<=sizeLine/\(a==sysModules)=false /\
  ∃xs,KT H aV xs/\h.DictOfH (tupleKind (bQ P w)) a xs:=by
 obtain⟨z,y,xs,r,o,es,ep,h1,h2,h3,h4,h5⟩:=(show bH P w H h a (.dT aV) from Nr ok e);refine⟨z,y,xs,r,o,es,ep,h1,h2,h3,h4,λx hx=>?_,h5⟩;have all:∀{l:List (List Key×V)}{m:List (List Key×Addr×Value)},KT H l m->∀x∈m,(tupleKind (bQ P w)).is h x.1 x.2.1:=by
  intro l m q;induction q with
  |nil=>intro x hx;exact nomatch hx
  |@cons p q ps qs hq t ih=>
    intro x hx;rcases dg.mp hx with e|hx
    subst e;exact tZ ok (by rw[<- hq.1];exact hq.2.1);exact ih x hx
 exact all r x hx
def U1(ok:jb P w H h)(e:H a=some (.dT aV)):aV.length<=sizeLine/\(a==sysModules)=false /\
 ∃xs,KT H aV xs/\h.DictOfH (tupleKind (bQ P w)) a xs:=wR ok (.inl e)
end
def wU(H:Hp)(a:Addr)(y:V)(r:Option V):Prop :=
 (∃aV k,Rd H a (.dK aV)/\y=kV k/\r=g_ aV k)\/∃aV k b,Rd H a (.dT aV)/\y=.ref b/\H b=some (.tup (k.map kV))/\r=g_ aV k
def wV(H:Hp)(a:Addr)(y v:V)(H':Hp):Prop :=
 (∃aV k,H a=some (.dK aV)/\y=kV k/\aV.length<sizeLine/\H'=upd H a (.dK (putK aV k v))) \/
 ∃aV k b,H a=some (.dT aV)/\y=.ref b/\H b=some (.tup (k.map kV))/\aV.length<sizeLine/\H'=upd H a (.dT (putK aV k v))
theorem wU.k{a:Addr}{aV:List (Key×V)}{k:Key}(e:H a=some (.dK aV)):wU H a (kV k) (g_ aV k):=.inl ⟨aV,k,.inl e,rfl,rfl⟩
def wV.t{a b:Addr}{k:List Key}(e:H a=some (.dT aV))(eb:H b=some (.tup (k.map kV)))(hl:aV.length<sizeLine) :
 wV H a (.ref b) v (upd H a (.dT (putK aV k v))):=.inr ⟨aV,k,b,e,rfl,eb,hl,rfl⟩
section
variable{X:Cx}{a:Addr}{y:V}{r:Value}{o:Option V}
def Inv.big(I:Inv X ε σ H s):sysModules<s.heap.objs.size:=by have h:=(I.mod.glob.keeps I.bk).lt;exact Nat.lt_trans (by decide) h
def CG(hu:A.units+1<cLine)(I:Inv X ε σ H s)(g:wU H a y (some v))(ry:RelV y u)(h:∀w' s',Inv X ε σ H s'->RelV v w'->Q w' s') :
  wpAny (model X.prog X.w) A (getItem (.ref a) u) Q E s:=by
 obtain⟨aV,k,e,ey,l⟩|⟨aV,k,b,e,ey,eb,l⟩:=g
 subst ey;obtain⟨z,hd,vs,rel,dd⟩:=rE I.bF e;obtain⟨w',hw,rw'⟩:=j1.some_of (by rw[l];exact rel.val k);exact wpAny_getItem_of (wQ ry) dd.mapOf hw (h w' _ (I.tok _) rw');subst ey;cases (show u=Value.ref b from ry);obtain⟨z,hd,xs,rel,dd⟩:=wR I.bF e;obtain⟨w',hw,rw'⟩:=j1.some_of (by rw[l];exact rel.val k);obtain⟨p,hp,Ck⟩:=IQ.mp hw;refine wpAny_getItem_heap (aaC hu) (tZ I.bF eb) dd hp ?_;rw[Ck];exact h w' _ (I.tok _) rw'
def t6{ob:HO}(I:Inv X ε σ H s)(mu:SQ (H a))(hs:Heap.SameBut a s.heap h')(he:∃q,h'.get? a=some q)(new:bH X.prog X.w (upd H a ob) h' a ob) :
  Inv X ε σ (upd H a ob) {s with heap:=h',toks:=t'} :=
 I.write mu (.inl rfl) (λb q hb z=>(hs.2 b hb).trans z) he new
def Fw{aV:List (Key×V)}{vs:List (Key×Value)}(z:aV.length<=sizeLine)(hd:(a==sysModules)=false)(rel:KV aV vs)(dd:h'.DictOf (bQ P w) a vs) :
 bH P w H' h' a (.dK aV):=⟨z,hd,vs,rel,dd⟩
theorem CH{Q:Unit->Shared->Prop}(hu:A.units+1<cLine)(I:Inv X ε σ H s)(g:wV H a y v H')(ry:RelV y u)(rv:RelV v r)(h:∀s',Inv X ε σ H' s'->Q () s') :
  wpAny (model X.prog X.w) A (setItem (.ref a) u r) Q E s:=by
 obtain⟨aV,k,e,ey,l,eH⟩|⟨aV,k,b,e,ey,eb,l,eH⟩:=g
 subst ey eH;obtain⟨z,hd,vs,rel,dd⟩:=AO I.bF e;have hz:vs.length<=sizeLine:=by rw[<- rel.length];exact z
 have hl:(putK aV k v).length<=sizeLine:=by have:=iC aV k v;lia
 refine wpAny_setItem_pairs (wQ ry) dd λh' Qi hs=>h _ ?_;have he:∃q,h'.get? a=some q:=let ⟨q,_,_,hq,_⟩:=Qi;⟨q,hq⟩;exact t6 I (by rw[e];exact True.intro) hs he (Fw hl hd (rel.put k rv) Qi);subst ey eH;cases (show u=Value.ref b from ry);obtain⟨z,hd,xs,rel,dd⟩:=U1 I.bF e;have hz:xs.length<=sizeLine:=by rw[<- IX rel];exact z
 have hl:(putK aV k v).length<=sizeLine:=by have:=iC aV k v;lia
 refine wpAny_setItem_heap (aaC hu) (tZ I.bF eb) dd λh' Qi hs=>h _ ?_;obtain⟨q,es,ep,hq,h2,h3,h4,_,h5⟩:=Qi;refine t6 I (by rw[e];exact True.intro) hs ⟨q,hq⟩ ⟨hl,hd,_,(rel.put k eb rv).keeps λc ys ec=>?_,q,es,ep,hq,h2,h3,h4,h5⟩;rw[ar (D1 ec e (λz=>nomatch z))];exact ec
end
section
variable{X:Cx}{a:Addr}{aV:List (Key×V)}{k:Key}
theorem U2(I:Inv X ε σ H s)(e:Rd H a (.dK aV))(h:∀t s',Inv X ε σ H s'->Q (.int aV.length t) s'):wpAny (model X.prog X.w) A (call (.builtin "len") [.ref a]) Q E s:=by obtain⟨z,hd,vs,rel,dd⟩:=rE I.bF e;refine call_len_dict hd dd (by rw[<- rel.length];rw[ς] at z;lia) ?_;rw[<- rel.length];exact h _ _ (I.tok _)
end
def CI(i:Expr):Prop:=∀ov iv,subscripted i false ov iv=operate [ov,iv] (getItem ov iv)
def KC{env:Env}{value slice:Expr}{pos:Pos}{T id:String}(hl:typeLookup (.type T) "__getitem__"=pure (some (.builtin id)))(hs:CI slice)(h:wpAny (model prog w) A (eval value env) (λo s₁=>wpAny (model prog w) A (eval slice env) (λi s₂=>s₂.TypeIs o T/\wpAny (model prog w) A (getItem o i) Q E s₂) E s₁) E s) :
  wpAny (model prog w) A (eval (.Subscript value slice pos) env) Q E s:=by
 refine Subscript_ (Φ h (λo s₁ h₁=>Φ h₁ (λi s₂ h₂=>?_) λ_ _ x=>x) λ_ _ x=>x);obtain⟨hT,h₂⟩:=h₂;refine ζ (ζ (wpAny_specialOf hT hl ?_));have fin:wpAny (model prog w) A (subscripted slice false o i) (λr s₃=>wpAny (model prog w) A (letTemporaryGo value o r >>= λ_=>pure r) Q E s₃) E s₂:=by rw[hs o i];exact wpAny_operating (Φ h₂ (λr s₃ h₃=>ζ (wpAny_letTemporaryGo (θ h₃))) λ_ _ x=>x)
 first
  |exact θ (ζ fin)
  |exact ζ (θ (ζ fin))
  |exact ζ fin
def wW{X:Cx}{a:Addr}{y:V}{o:Option V}(I:Inv X ε σ H s)(g:wU H a y o):s.TypeIs (.ref a) "dict":=by
 obtain⟨aV,k,e,_,_⟩|⟨aV,k,b,e,_,_,_⟩:=g
 obtain⟨_,_,vs,_,dd⟩:=rE I.bF e;exact dd.typeIs;obtain⟨_,_,xs,_,dd⟩:=wR I.bF e;exact dd.typeIs
def U3(td ty:TE):TE:=λσ H Q=>td σ H λx H1=>ty σ H1 λy H2=>∃a v,x=.ref a/\wU H2 a y (some v)/\Q v H2
def U4(td ty tv:TE):TS:=λD σ H=>tv σ H λv H1=>td σ H1 λx H2=>ty σ H2 λy H3=>∃a H4,x=.ref a/\wV H3 a y v H4/\D.nx σ H4
section
variable{X:Cx}{o i value:Expr}{pos:Pos}{td ty tv:TE}
def nS(hu:X.A.units+1<cLine)(ho:PE X o td)(hi:PE X i ty)(hs:CI i):PE X (.Subscript o i pos) (U3 td ty):=by intro ε s σ H Q I h;refine KC PySem.F.slot_dict_getitem.lookup hs (cf (ho ε s σ H _ I h) λu s1 ⟨x,H1,I1,rx,q1⟩=>cf (hi ε s1 σ H1 _ I1 q1) λiv s2 ⟨y,H2,I2,ry,a,v,ex,g,q2⟩=>?_);subst ex;obtain rfl:=rx;exact⟨wW I2 g,CG hu I2 g ry λw' s3 I3 rw'=>⟨v,H2,I3,rw',q2⟩⟩
def t7(hu:X.A.units+1<cLine)(ho:PE X o td)(hi:PE X i ty)(hv:PE X value tv)(hs:swapsWith value (some (.Subscript o i pos')) pos.line X.env=pure false) :
  PS X (.Assign [.Subscript o i pos'] value pos) (U4 td ty tv):=by
 intro ε s σ H D I h;refine wpAny_Assign_Subscript (cf (hv ε s σ H _ I h) λr s1 ⟨v,H1,I1,rv,q1⟩=>cf (ho ε s1 σ H1 _ I1 q1) λu s2 ⟨x,H2,I2,rx,q2⟩=>cf (hi ε s2 σ H2 _ I2 q2) λiv s3 ⟨y,H3,I3,ry,a,H4,ex,g,q3⟩=>?_) hs;subst ex;obtain rfl:=rx;exact CH hu I3 g ry rv λs4 I4=>⟨σ,H4,I4,q3⟩
end
def Fx(h:Heap)(hb:sysModules<h.objs.size):bH P w H (h.push {cls:=.type "dict",data:=.dict #[]}) h.objs.size (.dK []) :=
 ⟨h_ _,v9.mpr (Ne.symm (jX hb)),[],.nil,Heap.DictOf.new h⟩
def Fy(h:Heap)(hb:sysModules<h.objs.size):bH P w H (h.push {cls:=.type "dict",data:=.dict #[]}) h.objs.size (.dT []) :=
 ⟨h_ _,v9.mpr (Ne.symm (jX hb)),[],.nil,_,#[],0,iO _ rfl,⟨rfl,rfl,rfl⟩,rfl,rfl,IW⟩
def Qj:TE:=λ_ H Q=>∀p,H p=none->Q (.ref p) (upd H p (.dK []))
def Qk:TE:=λ_ H Q=>∀p,H p=none->Q (.ref p) (upd H p (.dT []))
section
variable{X:Cx}{pos:Pos}
def Fz:PE X (.Dict [] [] pos) Qj:=λε s σ H Q I h=>
 wpAny_Dict_empty ⟨.ref s.heap.objs.size,_,I.laid (λ_ _ q=>dR _ q) (cc _) (Fx s.heap I.big),rfl,h _ (I.bF.fresh (cc _))⟩
def o4:PE X (.Dict [] [] pos) Qk:=λε s σ H Q I h=>
 wpAny_Dict_empty ⟨.ref s.heap.objs.size,_,I.laid (λ_ _ q=>dR _ q) (cc _) (Fy s.heap I.big),rfl,h _ (I.bF.fresh (cc _))⟩
end
structure M2(X:Cx)(o:Expr)(m:Str)(apos:Pos)(e f:Expr)(bG:Pos):Prop where
 base:attributeBase o m X.env (eval o X.env)=eval o X.env
 few:((backTo bG (starEach [e,f] X.env)).all (λx=>!x.1) && (backToKw bG (keywordEach [] X.env)).all (λx=>x.1.isSome)
  && decide (([e,f]:qap).length+([]:List Keyword).length+(if ([]:List Keyword).isEmpty then 0 else 1)<30))=true
 line:(apos.endLine==bG.line)=true
 trees:backTo bG (starEach [e,f] X.env)=[(false,eval e X.env),(false,eval f X.env)]
def ZN(H:Hp)(a:Addr):Prop:=(∃aV,Rd H a (.dK aV))\/∃aV,Rd H a (.dT aV)
def FC{X:Cx}{a:Addr}(I:Inv X ε σ H s)(d:ZN H a) :
  s.TypeIs (.ref a) "dict"/\(∀b,Value.ref a=.ref b->∃ob,s.heap.get? b=some ob/\ob.dict=none)/\(a==sysModules)=false:=by
 obtain⟨aV,e⟩|⟨aV,e⟩:=d
 obtain⟨_,hd,vs,_,dd⟩:=rE I.bF e;refine⟨dd.typeIs,λb q=>?_,hd⟩;cases q;obtain⟨ob,_,_,h1,h2,_⟩:=dd;exact⟨ob,h1,h2.2.1⟩;obtain⟨_,hd,xs,_,dd⟩:=wR I.bF e;refine⟨dd.typeIs,λb q=>?_,hd⟩;cases q;obtain⟨ob,_,_,h1,h2,_⟩:=dd;exact⟨ob,h1,h2.2.1⟩
section
variable{X:Cx}{a:Addr}{y d:V}{r:Value}{o:Option V}
def Ql(hu:A.units+1<cLine)(I:Inv X ε σ H s)(g:wU H a y o)(ry:RelV y u)(rd:RelV d r)(h:∀w' s',Inv X ε σ H s'->RelV (o.getD d) w'->Q w' s') :
  wpAny (model X.prog X.w) A (call (.builtin "dict.get") [.ref a,u,r]) Q E s:=by
 obtain⟨aV,k,e,ey,l⟩|⟨aV,k,b,e,ey,eb,l⟩:=g
 subst ey;obtain⟨z,hd,vs,rel,dd⟩:=rE I.bF e;refine call_meetsIn PySem.F.slot_dict_get dd.typeIs PySem.F.entry_dict_get (PySem.F.args_dict_get_3 _ _ _) (meets_dict_get_default (bQ X.prog X.w) a (wQ ry) hd r) ⟨_,dd.mapOf,h _ _ (I.tok _) ?_⟩;rw[l];exact (rel.val k).getD rd;subst ey;cases (show u=Value.ref b from ry);obtain⟨z,hd,xs,rel,dd⟩:=wR I.bF e;refine call_meetsIn PySem.F.slot_dict_get dd.typeIs PySem.F.entry_dict_get (PySem.F.args_dict_get_3 _ _ _) (meetsH_dict_get_default (tupleKind (bQ X.prog X.w)) a b hd r) ⟨aaC hu,k,xs,tZ I.bF eb,dd,h _ _ (I.tok _) ?_⟩;rw[l];exact (rel.val k).getD rd
end
def Qm(td ty tx:TE):TE:=λσ H Q=>td σ H λx H1=>∃a,x=.ref a/\ZN H1 a/\ty σ H1 λy H2=>tx σ H2 λz H3=>∃o,wU H3 a y o/\Q (o.getD z) H3
section
variable{X:Cx}{o f:Expr}{td ty tx:TE}
def wX(hu:X.A.units+1<cLine)(ho:PE X o td)(he:PE X e ty)(hf:PE X f tx)(m:M2 X o "get" apos e f bG):PE X (.Call (.Attribute o "get" apos) [e,f] [] bG) (Qm td ty tx):=by
 intro ε s σ H Q I h;refine wpAny_Call_method m.base m.few m.line WV PySem.F.slot_dict_get PySem.F.type_dict_get (cf (ho ε s σ H _ I h) λu s1 ⟨x,H1,I1,rx,a,ex,d,q1⟩=>?_);subst ex;obtain rfl:=rx;obtain⟨t1,t2,_⟩:=FC I1 d;refine⟨t1,t2,?_⟩;rw[m.trees];refine WW rfl (Calls.evalArgs_plain (Calls.spliced_cons (cf (he ε s1 σ H1 _ I1 q1) λiv s2 ⟨y,H2,I2,ry,q2⟩ =>
  Calls.spliced_cons (cf (hf ε s2 σ H2 _ I2 q2) λfv s3 ⟨z,H3,I3,rz,ov,g,q3⟩=>Calls.spliced_nil ?_))))
 exact Ql hu I3 g ry rz λw' s4 I4 rw'=>⟨_,H3,I4,rw',q3⟩
end
end L2
namespace Xf
open PySem PySem.W PySem.Calls PyProof.Rows
end Xf
namespace L2
open PySem PySem.Spec PyProof.Rows
section
variable{X:Cx}
def CJ:c0 X (.builtin "len") (λxs H Q=>∃a aV,xs=[V.ref a]/\H a=some (.dK aV)/\Q (.int aV.length) H):=by intro ε s σ H xs us Q I r h;obtain⟨a,aV,rfl,ha,q⟩:=h;obtain⟨u,rfl,ru⟩:=vals1 r;cases ru;exact U2 I (.inl ha) λt s' I'=>⟨.int aV.length,H,I',⟨t,rfl⟩,q⟩
end
end L2
namespace VT
open PySem PySem.Spec PyProof.Rows L2
noncomputable def KD:T->Option Key
 |.int i=>some (.inl i)
 |.str x=>some (.inr x)
 |_=>none
def t8{A:Ω}{t:T}{k:Key}(h:gi K H A t v)(e:KD t=some k):v=kV k:=by
 cases t with
 |int i=>cases e;exact h.int
 |str x=>cases e;exact h.str
 |_=>cases e
noncomputable def jf{α:Type}:List Key->List α->Key->Option α
 |k::ks,t::ts,x=>if k=x then some t else jf ks ts x
 |_,_,_=>none
theorem iD:∀(ks:List Key)(vs:qak)(x:Key),g_ (ks.zip vs) x=jf ks vs x
 |[],vs,x=>rfl
 |k::ks,[],x=>rfl
 |k::ks,v::vs,x=>by simp only[jf,N4];by_cases e:k=x;rw[ι e,iA (p:=(k,v)) e];rw[η e,iB (p:=(k,v)) e];exact iD ks vs x
def wY(ts:List α)(x:Key):jf [] ts x=none:=by cases ts<;>rfl
theorem kH{K:zm}{H:Hp}{A:Ω}:∀{ks:List Key}{ts:Ψ}{vs:qak}{x:Key},az K H A ts vs->(∀t,jf ks ts x=some t->∃v,jf ks vs x=some v/\At K H A t v)/\(jf ks ts x=none->jf ks vs x=none)
 |[],ts,vs,x,h=>by rw[wY,wY];refine⟨λt e=>?_,λ_=>rfl⟩;cases e
 |k::ks,[],vs,x,h=>by simp only[az] at h;subst h;exact⟨λt e=>(by cases e),λ_=>rfl⟩
 |k::ks,t::ts,vs,x,h=>by simp only[az] at h;obtain⟨v,r,rfl,h1,h2⟩:=h;simp only[jf];by_cases e:k=x;rw[ι e,ι e];exact⟨λt e=>by cases e;exact⟨v,rfl,h1⟩,λq=>by cases q⟩;rw[η e,η e];exact kH h2
section
variable{X:Cx}{a b:Expr}{fc:FE}{pos:Pos}
def U5:FP:=λ_ Q=>Q (.fr (.dk [] []))
def KG:VP X Z (.Dict [] [] pos) U5:=.mk λtm=>PE.weak Fz λσ H Q ⟨ρ,O,q,I,hf,k⟩ p hp=>
 k _ hf _ _ (aG hp) (I.newD (ks:=[]) (ts:=[]) (vs:=[]) hp rfl az.nil)
noncomputable def U6(fa fb:FE):FP:=λρ Q=>fa ρ λx=>fb ρ λy=>match x,KD y with
 |.dk ks ts,some k=>∃t,jf ks ts k=some t/\Q (.vw t)
 |_,_=>False
def Qn(hu:X.A.units+1<cLine)(ha:VR X Z a fa)(hb:VR X Z b fb)(hs:CI b:=by intro _ _;rfl):VP X Z (.Subscript a b pos) (U6 fa fb):=.mk λtm=>PE.weak (nS hu (ha tm) (hb tm) hs) λσ H Q ⟨ρ,O,q,I,hf,k⟩ =>
 ⟨ρ,O,_,I,hf,λx hx v H1 s1 a1=>⟨ρ,O,_,I.same s1,hx,λy hy w H2 s2 a2=>by
  split at hy
  rename_i ks ts kk e
  obtain⟨t,e1,hq⟩:=hy;obtain⟨l,vs,rfl,hl,hd,hv⟩:=(a1.same s2).dk;obtain⟨u,e2,e3⟩:=(kH hv).1 t e1;rw[t8 a2 e];exact⟨l,u,rfl,by rw[<- e2,<- iD];exact wU.k hd,k _ hq _ H2 (s1.trans s2) ⟨(I.same s1).same s2,e3⟩⟩;exact hy.elim⟩⟩
end
section
variable{X:Cx}{a b:Expr}{pos:Pos}
def Nt(ts:Ψ)(q:qam):Prop:=match ts with
 |[.dk ks vs]=>q (.vw (.int (vs.length:Int)))
 |_=>False
def za:jq K (λxs H Q=>∃a aV,xs=[V.ref a]/\H a=some (.dK aV)/\Q (.int aV.length) H) Nt:=by intro Z tm O ρ σ H ts vs q Q I h hp k;unfold Nt at hp;split at hp;obtain⟨v,rfl,a⟩:=cv h;obtain⟨l,ws,rfl,hl,hd,hv⟩:=a.dk;refine⟨l,_,rfl,hd,?_⟩;rw[DY,hl,My,hv.length];exact k _ hp _ H (aL.refl H) ⟨I,bE⟩;exact hp.elim
end
end VT
namespace RV
open PySem PySem.Spec PyProof.Rows
section
variable{R:Result->Shared->Prop}
variable{I:Addr}{wr:Ω}{G:Array GenState->Array GenState->Prop}{P:Nat->Value->Prop}{St:Nat->Shared->Prop}
end
end RV
namespace VT
open PySem PySem.Spec PyProof.Rows L2
def kJ(h:n+101<cLine):n+1<cLine:=by lia
section
variable{X:Cx}
def wZ{out:Array Value}{Q:VK}(I:Inv X ε σ H s)(hx:Vals xs out.toList)(hl:xs.length<=sizeLine)(q:∀a,H a=none->Q (.ref a) (upd H a (.lst xs))) :
  EP X ε σ Q (.ref (s.heap.objs.size+1)) {s with heap:=sortedAll s.heap us out}:=by
 obtain⟨e,he⟩:=sortedAll_at s.heap us out;refine⟨.ref (s.heap.objs.size+1),_,I.laid (a:=s.heap.objs.size+1) (o:=.lst xs) (t':=s.toks) (λb o h=>sortedAll_old h) (Mz _) ⟨hl,out.toList,e,hx,?_⟩,rfl,q _ (I.bF.fresh (Mz _))⟩;rw[he]
end
abbrev FPs:=En->(List (Key×T)->Prop)->Prop
section
variable{X:Cx}
theorem KI:MN X "dict.setdefault" (λx xs H Q=>∃(a:Addr)(aV:List (Key×V))(k:Key)(v:V),x=.ref a/\xs=[kV k,v]/\H a=some (.dK aV)/\aV.length<sizeLine /\
  (∀u,g_ aV k=some u->Q u H)/\(g_ aV k=none->Q v (upd H a (.dK (L2.putK aV k v))))):=by
 intro ε s σ H x xs v us Q I rx rs h;obtain⟨a,aV,k,y,rfl,rfl,ha,qj,q1,q2⟩:=h;cases rx;obtain⟨u1,u2,rfl,ru1,ru2⟩:∃u1 u2,us=[u1,u2]/\RelV (kV k) u1/\RelV y u2:=by
  cases rs with
  |cons r1 t=>cases t with
    |cons r2 t2=>cases t2;exact⟨_,_,rfl,r1,r2⟩
 obtain⟨z,hd,vs,rel,dd⟩:=AO I.bF ha;refine call_meetsIn PySem.F.slot_dict_setdefault dd.typeIs PySem.F.entry_dict_setdefault (PySem.F.args_dict_setdefault_3 _ _ _) (kt_meets_setdefault (bQ X.prog X.w) a (wQ ru1) hd u2) ⟨vs,dd,by rw[<- rel.length];lia,λv0 hv=>?_,λhn h' Qi hs=>?_⟩;have vM:=rel.val k;rw[hv] at vM;cases e:g_ aV k with
 |none=>rw[e] at vM;cases vM
 |some w0=>rw[e] at vM;have hr:RelV w0 v0:=vM;exact⟨w0,H,I.tok _,hr,q1 w0 e⟩
 have vM:=rel.val k;rw[hn] at vM;cases e:g_ aV k with
 |some w0=>rw[e] at vM;cases vM
 |none=>
   have he:∃q,h'.get? a=some q:=let ⟨q,_,_,hq,_⟩:=Qi;⟨q,hq⟩;have hl:(L2.putK aV k y).length<=sizeLine:=by have:=iC aV k y;lia
   exact⟨y,_,t6 (t':=s.toks+1) I (by rw[ha];exact True.intro) hs he (Fw hl hd (rel.put k ru2) Qi),ru2,q2 e⟩
end
section
variable{X:Cx}{e1 e2:Expr}{f1 f2:FE}
noncomputable def Nu(n:Nat)(f1 f2:FE):FX:=λρ Q=>match ρ[n]? with
 |some (some (.dk ks ts,true))=>f1 ρ λx=>f2 ρ λy=>match KD x with
  |some k=>ts.length<16777216/\match jf ks ts k with
   |some t=>Q ρ (.vw t)
   |none=>Q (ρ.set n (some (.dk (ks++[k]) (ts++[y]),true))) (.vw y)
  |none=>False
 |_=>False
theorem KJ(n:Nat)(h1:VE X Z e1 f1)(h2:VE X Z e2 f2)(hN:X.N[n]?=some x:=by rfl)(hv:mP X.env.scope x:=by first|exact Or.inl rfl|exact Or.inr (.inl rfl)|exact Or.inr (.inr rfl))(hd:f7 x:=by decide)(fO:qd x:=by decide)(di:attributeBase (.Name x p) "setdefault" X.env (eval (.Name x p) X.env)=eval (.Name x p) X.env:=by rfl)(yE:((backTo bG (starEach [e1,e2] X.env)).all (λx=>!x.1) && (backToKw bG (keywordEach [] X.env)).all (λx=>x.1.isSome)
    && decide (([e1,e2]:qap).length+([]:List Keyword).length+(if ([]:List Keyword).isEmpty then 0 else 1)<30))=true:=by rfl)(dj:(apos.endLine==bG.line)=true:=by rfl)(hs:starEach [e1,e2] X.env=(false,eval e1 X.env)::starEach [e2] X.env:=by rfl)(BX:starEach [e2] X.env=(false,eval e2 X.env)::starEach [] X.env:=by rfl)(jE:(backTo bG (starEach [e2] X.env)).any (·.1)=false:=by rfl) :
  VX X Z (.Call (.Attribute (.Name x p) "setdefault" apos) [e1,e2] [] bG) (Nu n f1 f2):=.mk λtm=>
 PE.weak (Ah WV PySem.F.slot_dict_setdefault PySem.F.type_dict_setdefault KI (bY hN hv hd fO) (bD (h1 tm) (bD (h2 tm) cX BX) hs) di yE dj hs jE) λσ H Q ⟨ρ,O,q,I,hf,kk⟩=>by
  unfold Nu at hf;split at hf
  rename_i ks ts e0
  obtain⟨l,g1,g2,xs,hl,g3,g4⟩:=I.root e0;have ha:l∈av Z O:=hX _ (aF.mpr (f_ g1));refine⟨.ref l,g2,.inr (.inr (.inl ⟨rfl,.inl ⟨_,g3⟩⟩)),ρ,O,_,I,hf,λt ht v H1 s1 a1=>⟨ρ,O,_,I.same s1,ht,λy hy w H2 s2 a2=>?_⟩⟩;split at hy
  rename_i R' ek
  obtain⟨hlen,hy⟩:=hy;have ev:v=kV R':=t8 (.inl a1) ek;subst ev;have hz:(ks.zip xs).length<sizeLine:=by
   rw[ς,DY,hl,My,g4.length]
   lia
  have J:=(I.same s1).same s2;have b4:=(g4.same s1).same s2;refine⟨l,ks.zip xs,R',w,rfl,rfl,s2 _ _ (s1 _ _ g3),hz,λu hu=>?_,λhn=>?_⟩;rw[iD] at hu;cases eg:jf ks ts R' with
  |none=>rw[(kH b4).2 eg] at hu;cases hu
  |some t0=>rw[eg] at hy;obtain⟨v0,e1,e2⟩:=(kH b4).1 t0 eg;rw[e1] at hu;cases hu;exact kk _ _ hy O _ _ ⟨J,e2⟩
  rw[iD] at hn;cases eg:jf ks ts R' with
  |some t0=>obtain⟨v0,e1,e2⟩:=(kH b4).1 t0 eg;rw[e1] at hn;cases hn
  |none=>
    rw[eg] at hy;have e1:L2.putK (ks.zip xs) R' w=(ks++[R']).zip (xs++[w]):=by rw[Fv _ (by rw[iD];exact hn),List.zip_append hl];rfl
    rw[e1];refine kk _ _ hy O _ _ ⟨J.wrote e0 g1 ⟨xs++[w],by simp[hl],aA,?_⟩,a2.wrote ha (s2 _ _ (s1 _ _ g3)) rfl⟩;exact (b4.append (az.cons a2 az.nil)).wrote ha (s2 _ _ (s1 _ _ g3)) rfl
  exact hy.elim;exact hf.elim
end
noncomputable def o5{α:Type}(f:Str):ω->List α->Option α
 |n::ns,t::ts=>match f==n with
  |true=>some t
  |false=>o5 f ns ts
 |_,_=>none
noncomputable def CM(f:Str):ω->ω
 |[]=>[f]
 |n::ns=>if n=f then n::ns else n::CM f ns
noncomputable def nq{α:Type}(f:Str)(u:α):ω->List α->List α
 |n::ns,t::ts=>if n=f then u::ts else t::nq f u ns ts
 |_,_=>[u]
theorem o6(f:Str):∀(ns:ω)(vs:qak),(ns.zip vs).lookup f=o5 f ns vs
 |[],vs=>by cases vs<;>rfl
 |n::ns,[]=>rfl
 |n::ns,v::vs=>by
  rw[N4,IU];unfold o5;cases f==n with
  |true=>rfl
  |false=>exact o6 f ns vs
theorem w6(f:Str)(y:V):∀(ns:ω)(vs:qak),ns.length=vs.length->ik f y (ns.zip vs)=(CM f ns).zip (nq f y ns vs)/\(CM f ns).length=(nq f y ns vs).length
 |[],[],_=>⟨rfl,rfl⟩
 |[],v::vs,h=>by simp at h
 |n::ns,[],h=>by simp at h
 |n::ns,v::vs,h=>by have ih:=w6 f y ns vs (by simpa using h);rw[N4];show (if n=f then (n,y)::ns.zip vs else (n,v)::ik f y (ns.zip vs))=_/\_;unfold CM nq;by_cases e:n=f;rw[ι e,ι e,ι e];exact⟨rfl,by simpa using h⟩;rw[η e,η e,η e,ih.1];exact⟨rfl,by simp[ih.2]⟩
section
variable{A:Ω}{f:Str}
theorem w9:∀{ns:ω}{ts:Ψ}{vs:qak}{t:T},az K H A ts vs->o5 f ns ts=some t->∃v,o5 f ns vs=some v/\At K H A t v
 |[],ts,vs,t,_,e=>by cases ts<;>cases e
 |n::ns,[],vs,t,_,e=>by cases e
 |n::ns,t0::ts,vs,t,h,e=>by
  simp only[az] at h;obtain⟨v,r,rfl,h1,h2⟩:=h;unfold o5 at e ⊢;cases q:f==n with
  |true=>rw[q] at e;cases e;exact⟨v,rfl,h1⟩
  |false=>rw[q] at e;exact w9 h2 e
theorem AQ:∀{ns:ω}{ts:Ψ}{vs:qak}{t:T}{v:V},az K H A ts vs->At K H A t v->az K H A (nq f t ns ts) (nq f v ns vs)
 |[],ts,vs,t,v,_,q=>by
  have e1:nq f t [] ts=[t]:=by cases ts<;>rfl
  have e2:nq f v [] vs=[v]:=by cases vs<;>rfl
  rw[e1,e2];exact az.cons q az.nil
 |n::ns,[],vs,t,v,h,q=>by simp only[az] at h;subst h;exact az.cons q az.nil
 |n::ns,t0::ts,vs,t,v,h,q=>by simp only[az] at h;obtain⟨v0,r,rfl,h1,h2⟩:=h;unfold nq;by_cases e:n=f;rw[ι e,ι e];exact az.cons q h2;rw[η e,η e];exact az.cons h1 (AQ h2 q)
end
section
variable{X:Cx}{f:Str}{pos:Pos}
noncomputable def U7(C:Addr)(f:Str)(fe:FE):FP:=λρ Q=>fe ρ λt=>match t with
 |.ins C' ns ts=>C'=C/\∃u,o5 f ns ts=some u/\Q (.vw u)
 |_=>False
def dw(cl:Eg X.K C)(na:cp X.K C f)(h:VR X Z e fe)(hb:attributeBase e f X.env (eval e X.env)=eval e X.env:=by rfl):VP X Z (.Attribute e f pos) (U7 C f fe):=.mk λtm=>
 PE.weak (yt (h tm) hb) λσ H Q ⟨ρ,O,q,I,hf,k⟩=>⟨ρ,O,_,I,hf,λt ht v H1 s1 a1=>by
  split at ht
  rename_i C' ns ts
  obtain⟨rfl,u,e1,hq⟩:=ht;obtain⟨a,dx,vs,rfl,hl,hd,hv⟩:=a1.ins;obtain⟨w,e2,e3⟩:=w9 hv e1;exact⟨a,_,dx,_,w,rfl,hd,cl,na,by rw[o6];exact e2,k _ hq _ H1 s1 ⟨I.same s1,e3⟩⟩;exact ht.elim⟩
noncomputable def FD(n:Nat)(C:Addr)(f:Str)(fe:FE):FS:=λd ρ=>match ρ[n]? with
 |some (some (.ins C' ns ts,true))=>C'=C/\fe ρ λv=>ts.length<1000/\d.nx (ρ.set n (some (.ins C' (CM f ns) (nq f v ns ts),true)))
 |_=>False
def gH(n:Nat)(cl:Eg X.K C)(na:cp X.K C f)(he:VE X Z e fe)(hN:X.N[n]?=some x:=by rfl)(hv:mP X.env.scope x:=by first|exact Or.inl rfl|exact Or.inr (.inl rfl)|exact Or.inr (.inr rfl))(hd:f7 x:=by decide)(fO:qd x:=by decide)(hs:swapsWith e (some (.Attribute (.Name x p) f d9)) pos.line X.env=pure false:=by rfl) :
  VS X Z (.Assign [.Attribute (.Name x p) f d9] e pos) (FD n C f fe):=.mk λtm=>
 PS.weak (OR (bY hN hv hd fO) (he tm) hs) λD σ H ⟨ρ,O,d,I,q,F⟩=>by
  unfold FD at q;split at q
  rename_i C' ns ts e0
  obtain⟨rfl,q⟩:=q;obtain⟨l,h1,h2,dx,xs,hl,h3,h4⟩:=I.root e0;have ha:l∈av Z O:=hX _ (aF.mpr (f_ h1));refine⟨ρ,O,_,I,q,λt ht v H1 s1 a1=>⟨.ref l,h2,l,_,dx,_,rfl,s1 _ _ h3,cl,na,?_,?_⟩⟩;rw[DY,hl,My,h4.length];exact ht.1;have pz:=w6 f v ns xs hl;rw[pz.1];refine F.nx O _ σ _ ((I.same s1).wrote (t':=.ins _ (CM f ns) (nq f t ns ts)) e0 h1 ⟨dx,nq f v ns xs,pz.2,aA,?_⟩) ht.2;exact az.wrote ha (s1 _ _ h3) rfl (AQ (h4.same s1) a1);exact q.elim
def Qo(K:zm)(C:Addr)(n:Nat)(G:Ψ->(T->Prop)->Prop):Sp:=qv K (true::List.replicate n false) λts q=>match ts with
 |.ins C' [] []::us=>C'=C/\G us λu=>q [u] (.vw .bB)
 |_=>False
def U8(n:Nat)(g:FA)(G:Ψ->(T->Prop)->Prop):FP:=λρ Q=>g ρ λts=>ts.length=n/\G ts λu=>Q (.fr u)
def AR{G:Ψ->(T->Prop)->Prop}{tm:qab}{ts:Ψ}{q:qam}{Q:VK}(I:au X.K Z tm O ρ σ H)(a:az X.K H (av Z O) ts vs)(hn:ts.length=n)(hG:G ts λu=>q (.fr u))(k:∀r,q r->∀v H',aL H H'->g8 X.K Z tm O ρ σ H' r v->Q v H'):∀x dx,H x=none->H dx=none->dx≠x->Qo X.K C n G (.ref x::(vs++[])) (upd (upd H dx (.own x)) x (.ins C dx [])) (λv H2=>v=.bB/\Q (.ref x) H2) E0:=by
 intro x dx hx hdx gf;rw[BH];obtain⟨n1,n2,n3⟩:=I.fresh hx;have s0:aL H (upd (upd H dx (.own x)) x (.ins C dx [])):=λb o e=>by rw[ar (bt e hx),ar (bt e hdx)];exact e
 have a1:az X.K (upd (upd H dx (.own x)) x (.ins C dx [])) ([x]++av Z O) ts vs:=(a.more λb hb=>by
  rcases gx.mp hb with z|z
  exact .inr (by rw[hY.mp z];exact hx);exact .inl z).same s0
 refine⟨.ins C [] []::ts,[x],av Z O,λus r=>r=.vw .bB/\∃u,us=[u]/\q (.fr u),by simp,λb hb=>by rw[hY.mp hb];exact n1,λb hb=>?_,⟨x,[],_,ts,vs,rfl,rfl,rfl,⟨dx,[],rfl,aA,az.nil⟩,gF hn a1⟩,⟨rfl,?_⟩,λus r hr v H' fr z=>?_⟩;cases e:H b with
 |none=>exact absurd e (I.JK b hb)
 |some o=>rw[s0 _ _ e];simp
 have w:(λu=>q (.fr u))=λu=>((.vw .bB:Rt)=.vw .bB/\∃u',[u]=[u']/\q (.fr u')):=by funext u;exact propext ⟨λh=>⟨rfl,u,rfl,h⟩,λ⟨_,u',e,h⟩=>by cases e;exact h⟩
 rw[<- w];exact hG;obtain⟨rfl,u,rfl,hq⟩:=hr;obtain⟨z1,z2⟩:=z;simp only[At] at z1;refine⟨z1,?_⟩;cases z2 with
 |cons r _=>
  have s:aL H H':=λb o e=>fr b o (s0 b o e) (by rw[hY];exact bt e hx);obtain⟨o,eo,_⟩:=r.mut;refine k _ hq _ H' s ⟨x,rfl,I.Na hx s eo,r.bj λc hc=>?_,n3,n2⟩;rcases cU c hc with z|z
  exact iN _ z;rw[z];exact hX _ fB
def KL{kk:Nat}{G:Ψ->(T->Prop)->Prop}{fI:Addr}(M:Mk X.K C fI)(F:dA X.prog X.w X.K X.mg X.base iR kk fI fd ps (Qo X.K C n G))(hr:bA (kk+1) X.A)(hg:Gl X x)(hm:X.mg x=some (.ref C))(hb:Binds X.K fd ps [])(ha:VA X Z (e::es) g)(qk:f7 x:=by decide)(he:starEach (e::es) X.env=(false,eval e X.env)::starEach es X.env:=by rfl)(j7:(backTo pos (starEach es X.env)).any (·.1)=false:=by rfl) :
  VP X Z (.Call (.Name x p) (e::es) [] pos) (U8 n g G):=.mk λtm=>PE.weak (Ad M F hr hg hm hb .nil mT (ha tm) qk he j7) λσ H Q ⟨ρ,O,q,I,hf,k⟩ =>
 ⟨ρ,O,_,I,hf,λts f9 vs H1 s1 a1=>AR (I.same s1) a1 f9.1 f9.2 λr hr v H' s z=>k r hr v H' (s1.trans s) z⟩
end
structure Dc(K:zm)(mg:qae)(cls qual:Str)(st:Stmt)(ps:ω)(C f:Addr)(fd:FuncData):Prop where
 F:B5 K "__init__" qual st f fd
 m:mg cls=some (.ref C)
 b:Binds K fd ps []
 M:Mk K C f
def FH(P:Program)(w:World)(K:zm)(mg:qae)(base:Heap)(cls:Str)(C:Addr)(ps:ω)(k n:Nat)(G:Ψ->(T->Prop)->Prop):Prop :=
 ∃f fd,Mk K C f/\mg cls=some (.ref C)/\Binds K fd ps []/\dA P w K mg base iR k f fd ps (Qo K C n G)
section
def Dc.ic{cls:Str}{st:Stmt}{k:Nat}{G:Ψ->(T->Prop)->Prop}(D:Dc K mg cls qual st ps C f fd)(F:dA P w K mg base iR k f fd ps (Qo K C n G)):FH P w K mg base cls C ps k n G :=
 ⟨f,fd,D.M,D.m,D.b,F⟩
def fnI{st:Stmt}{N:ω}{k:Nat}{G:Ψ->(T->Prop)->Prop}(F:B5 K x qual st f fd)(S:aJ N ps (aq st))(hn:n+1=ps.length)(eQ:∀(bP:Value) (A:Around) (outer:List Env) (s:Shared) (H:Hp) (E:XK) (as Ox:Ω),bA k (A.deeper (envOfC qual (aq st) s.heap.objs.size f bP))->∀(us:Ψ) (q:Ψ->qam),us.length=n->G us (λu=>q [u] (.vw .bB)) ->
    ∃g,ir (jD iR P w K mg base N qual (aq st) f bP A outer s H E).BM ⟨H,pz (true::List.replicate n false) as 0,Ox⟩ (b_ st) g /\
     g {nx:=λρ=>q (kj (true::List.replicate n false) ρ) (.vw .bB),rt:=λρ r=>q (kj (true::List.replicate n false) ρ) r} (some (.ins C [] [],true)::v3 (List.replicate n false) us++List.replicate (N.length-(us.length+1)) none)) :
  dA P w K mg base iR (k+1) f fd ps (Qo K C n G) :=
 Zs F S (by rw[<- hn];simp) λbP A outer s H E as Ox hr ts q hl hG=>by
  cases ts with
  |nil=>exact hG.elim
  |cons t us=>cases t with
    |ins C' ns vs=>cases ns with
      |nil=>cases vs with
        |nil=>obtain⟨e,hG'⟩:=hG;subst e;exact eQ bP A outer s H E as Ox hr us q (by simpa using hl) hG'
        |cons _ _=>exact hG.elim
      |cons _ _=>exact hG.elim
    |_=>exact hG.elim
end
def AS(a d:Addr):HO:=.ext λh=>h.get? a=some {cls:=.type "dict_values",data:=.fields #[.ref d]}
theorem w_(val:Nat->Int):∀k,∃j≤k,argBest (λi j=>decide (val i<val j)) k=j/\∀i≤k,val j<=val i
 |0=>⟨0,cc _,rfl,λi hi=>by rw[Nat.le_zero.mp hi];exact Int.le_refl _⟩
 |k+1=>by
  obtain⟨j,hj,e,h⟩:=w_ val k;unfold argBest;rw[e];by_cases q:val (k+1)<val j;rw[ι (ν q)];refine⟨k+1,cc _,rfl,λi hi=>?_⟩;rcases Nat.lt_or_eq_of_le hi with l|l
  exact Int.le_trans (Int.le_of_lt q) (h i (Nat.le_of_lt_succ l));rw[l];exact Int.le_refl _;rw[η (by rw[aaE];exact q)];refine⟨j,Nat.le_succ_of_le hj,rfl,λi hi=>?_⟩;rcases Nat.lt_or_eq_of_le hi with l|l
  exact h i (Nat.le_of_lt_succ l);rw[l];exact Int.not_lt.mp q
section
variable{X:Cx}
def CN:MN X "dict.values" (λx xs H Q=>∃(d:Addr)(aV:List (Key×V)),x=.ref d/\xs=[]/\H d=some (.dK aV)/\∀a,H a=none->Q (.ref a) (upd H a (AS a d))):=by intro ε s σ H x xs v us Q I rx rs h;obtain⟨d,aV,rfl,rfl,hd,q⟩:=h;cases rx;cases rs;obtain⟨z,hs,vs,rel,dd⟩:=AO I.bF hd;refine call_meetsIn PySem.F.slot_dict_values dd.typeIs PySem.F.entry_dict_values (PySem.F.args_dict_values_1 _) (meets_dict_values (bQ X.prog X.w) d hs) ⟨⟨vs,dd⟩,?_⟩;refine⟨.ref s.heap.objs.size,_,I.laid (a:=s.heap.objs.size) (t':=s.toks) (λb o e=>dR _ e) (cc _) ?_,rfl,q _ I.fresh⟩;exact⟨iO _ rfl,⟨_,iO _ rfl⟩,λh1 h2 z k=>k _ z⟩
theorem t9(hc:X.calm=true):c0 X (.builtin "min") (λxs H Q=>∃(a d:Addr)(aV:List (Key×V))(is:qan),xs=[.ref a]/\H a=some (AS a d)/\H d=some (.dK aV)/\aV.map (·.2)=is.map V.int/\is≠[]/\∀m,m∈is->(∀i∈is,m<=i)->Q (.int m) H):=by
 intro ε s σ H xs us Q I r h;obtain⟨a,d,aV,is,rfl,ha,hd,hv,gf,q⟩:=h;obtain⟨u,rfl,ru⟩:=vals1 r;cases ru;obtain⟨z,hs,vs,rel,dd⟩:=AO I.bF hd;obtain⟨hA,_,_⟩:=(show bH X.prog X.w H s.heap a (AS a d) from I.bF a _ ha);obtain⟨ep,da⟩:=dd.dictAt;have hh:X.A.in1.handled=none:=by simp[I.ok.hd hc]
 have hlen:vs.length=is.length:=by have:=rk List.length hv;rw[bX,bX] at this;rw[<- rel.length];exact this
 have U9:∀(i:Nat)(v:Value),(∃k,vs[i]?=some (k,v))->∃t,v=.int (is.getD i 0) t:=by
  intro i v ⟨k,e⟩;have hi:i<vs.length:=(dz.mp e).1;have ZO:i<aV.length:=by rw[rel.length];exact hi
  have e1:aV[i]?=some aV[i]:=by simp[ZO]
  have key:∀{l₁:List (Key×V)}{l₂:List (Key×Value)}{i:Nat}{p:Key×V}{q:Key×Value},KV l₁ l₂->l₁[i]?=some p->l₂[i]?=some q->RelV p.2 q.2:=by
   intro l₁ l₂ i p q h;unfold KV at h;induction h generalizing i with
   |nil=>intro e;simp at e
   |cons r t ih=>
    intro e e';cases i with
    |zero=>simp at e e';subst e;subst e';exact r.2
    |succ i=>exact ih (by simpa using e) (by simpa using e')
  have rr:=key rel e1 e;have e2:(aV.map (·.2))[i]?=some aV[i].2:=by rw[fD,e1];rfl
  rw[hv,fD] at e2;cases q2:is[i]? with
  |none=>rw[q2] at e2;cases e2
  |some m=>rw[q2] at e2;have e3:aV[i].2=V.int m:=(Option.some.inj e2).symm;rw[e3] at rr;obtain⟨t,et⟩:=rr;exact⟨t,by rw[X6,q2];exact et⟩
 have Qp:0<vs.length:=by rw[hlen];exact W2.mpr gf
 refine call_min_walk (wpAny_pyIter_values ⟨_,hA,rfl,rfl⟩ da ?_);refine⟨_,_,_,_,_,_,_,rfl,Walks.dictValues hh _ d (jX da.lt_size) vs ep,⟨⟨_,iO _ rfl,rfl,rfl⟩,da.push _⟩,λb hb=>?_,Qp,CmpOf.ints_lt (λi=>is.getD i 0) U9,λv h' tk hP hk=>?_⟩;show b<(s.heap.push _).objs.size;rw[DZ];rcases dg.mp hb with rfl|hb
 exact DA _;rw[hY.mp hb];exact N5 da.lt_size;obtain⟨j,hj,e,hm⟩:=w_ (λi=>is.getD i 0) (vs.length-1);rw[e] at hP;obtain⟨t,rfl⟩:=U9 j v hP;have Qq:j<is.length:=by lia
 refine⟨.int (is.getD j 0),H,I.kept (t':=tk) λb u eb=>hk b u (λz=>?_) (dR _ eb),⟨t,rfl⟩,q _ ?_ λi hi=>?_⟩;rw[hY.mp z] at eb;exact absurd (eJ eb) (DC _);rw[X6,jj Qq];exact RN Qq;obtain⟨n,hn⟩:=Mt.mp hi;have hnl:n<is.length:=(dz.mp hn).1;have:=hm n (by lia);have e5:is.getD n 0=i:=by rw[X6,hn];rfl
 rw[e5] at this;exact this
end
section
variable{X:Cx}{a:Expr}{p1 KH CK:Pos}
def U_(fa:FE):FP:=λρ Q=>fa ρ λx=>match x with
 |.dk ks ts=>∃is,ts=is.map T.int/\is≠[]/\∀m,m∈is->(∀i∈is,m<=i)->Q (.vw (.int m))
 |_=>False
def zc(hc:X.calm=true)(hgl:Gl X "min")(zd:X.mg "min"=none)(ha:VR X Z a fa)(di:attributeBase a "values" X.env (eval a X.env)=eval a X.env:=by rfl)(dj:(apos.endLine==CK.line)=true:=by rfl)(he:starEach [.Call (.Attribute a "values" apos) [] [] CK] X.env=(false,eval (.Call (.Attribute a "values" apos) [] [] CK) X.env)::starEach [] X.env:=by rfl)(j7:(backTo KH (starEach [] X.env)).any (·.1)=false:=by rfl) :
  VP X Z (.Call (.Name "min" p1) [.Call (.Attribute a "values" apos) [] [] CK] [] KH) (U_ fa):=.mk λtm=>
 PE.weak (oj (t9 hc) hgl zd UD (bD (sN WV PySem.F.slot_dict_values PySem.F.type_dict_values CN (ha tm) di dj) cX he) (by decide) (by decide) he j7) λσ H Q ⟨ρ,O,q,I,hf,k⟩ =>
  ⟨ρ,O,_,I,hf,λx hx v H1 s1 a1=>by
    split at hx
    rename_i ks ts
    obtain⟨is,rfl,gf,hq⟩:=hx;obtain⟨d,vs,rfl,hl,hd,hv⟩:=a1.dk;refine⟨.inr (.inr (.inl ⟨rfl,.inl ⟨_,hd⟩⟩)),d,_,rfl,rfl,hd,λb hb=>?_⟩;have sb:aL H1 (upd H1 b (AS b d)):=aG hb;have ev:vs=is.map V.int:=by
     clear hq gf hl hd a1;induction is generalizing vs with
     |nil=>simpa only[RU,az] using hv
     |cons i is ih=>simp only[jk,az,At] at hv;obtain⟨v,r,rfl,rfl,h2⟩:=hv;rw[ih r h2];rfl
    subst ev;refine⟨b,d,_,is,rfl,aA,sb _ _ hd,?_,gf,λm h1 h2=>k _ (hq m h1 h2) _ _ (s1.trans sb) ⟨(I.same s1).same sb,bE⟩⟩;rw[List.map_snd_zip];rw[hl];exact cc _;exact hx.elim⟩
end
end VT
namespace Lay
open PySem L2 VT Gen K5
def Sa(l:List (Str×Nat)):T:=.dk (l.map λp=>(Sum.inr p.1:Key)) (l.map λp=>T.int (p.2:Int))
def FJ(l:List (Str×Nat))(f:Str):jf (l.map λp=>(Sum.inr p.1:Key)) (l.map λp=>T.int (p.2:Int)) (Sum.inr f)=(qH l f).map λi=>T.int (i:Int):=by
 induction l with
 |nil=>rfl
 |cons p l ih=>obtain⟨k,i⟩:=p;simp only[jk,jf,qH];by_cases h:k=f;rw[ι h,ι (by rw[h])];rfl;rw[η h,η (λz=>h (Sum.inr.inj z))];exact ih
theorem o7(rs:qal):∀n,(aZ rs n).length<=n
 |0=>cc _
 |n+1=>by
  have:=o7 rs n;simp only[aZ];split
  rename_i r _
  cases r<;>simp only[Fo]<;>first
   |lia
   | (split<;>simp<;>lia)
  lia
def U':Rw->Bool
 |.df _ _=>true
 |_=>false
def iE(rs:qal):Option Nat:=rs.findIdx? U'
theorem rF(rs:qal):∀n,∀p∈aZ rs n,p.2<n/\∃ps,rs[p.2]?=some (.df p.1 ps)
 |0,p,h=>nomatch h
 |n+1,p,h=>by
  have old:p∈aZ rs n->p.2<n+1/\∃ps,rs[p.2]?=some (.df p.1 ps):=λh=>by have:=rF rs n p h;exact⟨by lia,this.2⟩
  simp only[aZ] at h;split at h
  rename_i r hr
  cases r with
  |df g ps=>
   simp only[Fo] at h;split at h;exact old h;rcases gx.mp h with z|z
   exact old z;rw[hY] at z;subst z;exact⟨DA _,ps,hr⟩
  |_=>exact old h
  exact old h
theorem fL{rs:qal}{i:Nat}(h:∀j,j<i->∀f ps,rs[j]?≠some (.df f ps)):∀n≤i,aZ rs n=[]
 |0,_=>rfl
 |n+1,hn=>by
  simp only[aZ];split
  rename_i r hr
  rw[fL h n (by lia)];cases r with
  |df g ps=>exact absurd hr (h n (by lia) g ps)
  |_=>rfl
  exact fL h n (by lia)
theorem iF{rs:qal}{i:Nat}{g:Str}{ps:ω}(hi:rs[i]?=some (.df g ps))(h:∀j,j<i->∀f ps,rs[j]?≠some (.df f ps)):∀n,i<n->∃l,aZ rs n=(g,i)::l
 |0,hn=>absurd hn (Nat.not_lt_zero _)
 |n+1,hn=>by
  by_cases e:i=n;subst e;refine⟨[],?_⟩;simp only[aZ,hi,Fo];rw[fL h i (cc _)];rfl;obtain⟨l,hl⟩:=iF hi h n (by lia);simp only[aZ];rw[hl];split
  rename_i r _
  cases r with
  |df f qs=>simp only[Fo];split;exact⟨l,rfl⟩;exact⟨l++[(f,n)],rfl⟩
  |_=>exact⟨l,rfl⟩
  exact⟨l,rfl⟩
def KN(h:U' r=true):∃f ps,r=.df f ps:=by
 cases r with
 |df f ps=>exact⟨f,ps,rfl⟩
 |_=>cases h
def rG(h:iE rs=some i):(∃f ps,rs[i]?=some (.df f ps))/\∀j,j<i->∀f ps,rs[j]?≠some (.df f ps):=by unfold iE at h;rw[List.findIdx?_eq_some_iff_getElem] at h;obtain⟨hl,h1,h2⟩:=h;obtain⟨f,ps,e⟩:=KN h1;refine⟨⟨f,ps,by rw[jj hl,e]⟩,λj hj f ps e=>?_⟩;obtain⟨Qq,ej⟩:=dz.mp e;have:=h2 j hj;rw[ej] at this;exact this rfl
def CO(h:iE rs=none):∀(j:Nat) f ps,rs[j]?≠some (Rw.df f ps):=by unfold iE at h;rw[List.findIdx?_eq_none_iff] at h;intro j f ps e;have:=h _ (f_ e);cases this
def zf(h:iE rs=none):aZ rs rs.length=[]:=fL (i:=rs.length) (λj _=>CO h j) _ (cc _)
def FK{m:Int}(h1:m∈(aZ rs rs.length).map λp=>(p.2:Int))(h2:∀i∈(aZ rs rs.length).map λp=>(p.2:Int),m<=i):T.int m=oT (iE rs):=by
 cases e:iE rs with
 |none=>rw[zf e] at h1;cases h1
 |some i=>
  obtain⟨⟨g,ps,hi⟩,hm⟩:=rG e;obtain⟨l,hl⟩:=iF hi hm rs.length (dz.mp hi).1;obtain⟨p,hp,rfl⟩:=jZ.mp h1;obtain⟨_,qs,hq⟩:=rF rs _ p hp;have le1:(p.2:Int)<=(i:Int):=h2 _ (jZ.mpr ⟨(g,i),by rw[hl];exact fB,rfl⟩);have le2:¬ p.2<i:=λz=>hm _ z _ _ hq;have:p.2=i:=by lia
  rw[this];rfl
noncomputable def Va(rs:qal):Ψ:=(List.range rs.length).map λi=>oT (rC (bC rs) i)
noncomputable def AU(rs:qal):Ψ:=(List.range rs.length).map λi=>oT (endsAt (bC rs) rs.length i)
noncomputable def Vb(rs:qal):Ψ:=y_ (bC rs) rs.length rs.length
noncomputable def jN(rs:qal):Ψ:=(List.range rs.length).map λi=>oT (g6 (bC rs) i)
def FL(rs:qal):Ft rs=[.lst (Va rs),.lst (AU rs),.lst (Vb rs),.lst (jN rs)]:=rfl
noncomputable def gJ(C:Addr)(rs:qal):T:=.ins C ["program","heads","ends","elses","homes","defs","main"] [.lst (rs.map aR),.lst (Va rs),.lst (AU rs),.lst (Vb rs),.lst (jN rs),Sa (aZ rs rs.length),oT (iE rs)]
section
def eA(h:rs[i]?=some r):jc (rs.map aR) (i:Int)=some (aR r):=ai (by rw[fD,h];rfl)
def KO(h:i<rs.length):jc (AU rs) (i:Int)=some (oT (endsAt (bC rs) rs.length i)):=ai (by unfold AU;rw[fD,Sx h];rfl)
def t_(h:i<rs.length):jc (jN rs) (i:Int)=some (oT (g6 (bC rs) i)):=ai (by unfold jN;rw[fD,Sx h];rfl)
end
noncomputable def top(i:Nat):Stmt:=PySem.Challenge.pw_slicewise_k23_tables_of_programs.main.body.getD i (.Pass ⟨0,0,0,0⟩)
noncomputable abbrev gK:Stmt:=top 12
structure MgF(mg:qae):Prop where
 enumerate:mg "enumerate"=none
def FN(ts:Ψ)(q:qam):Prop:=∃rs:qal,ts=[.lst (rs.map aR)]/\rs.length<=100/\q (.fr (Sa (aZ rs rs.length)))
section
noncomputable abbrev ua:ω:=["program","firsts","place","row"]
def ju:aJ ua qav (aq gK):=L2.il
def qI(D:Df K mg "first_defs" gK qav f fd)(M:MgF mg):cC P w K mg base "first_defs" qav 1 (cM K 1 FN):=by
 refine D.ic (kr D.F ju rfl λbP A outer s H E Ox hr ts q hG=>?_);have nd:=ju.nd;have hu:=bA.eD hr;have np:∀{i:Nat},bh ⟨H,[],Ox⟩ i:=ie;refine⟨_,(ag (cJ (i:=1) nd rfl (.inl rfl) (fv KG) np)
  (ag (cZ nz rfl (kq (by rfl) M.enumerate (ah 0)) (dc (n:=2) rfl (aN (aC (i:=2) nd rfl (.inl rfl) np) (aN (aC (i:=3) nd rfl (.inl rfl) np) cw)))
   (ak (bf (bz hu (ο (ay (ae 3) (ο af))) (ο ax))
    (ak (bp (KJ 1 (χ (ay (ae 3) (ο af))) (ah 2))))
    aI)))
  (ak (aH (fJ 1 np))))),λ_=>?_⟩
 obtain⟨rs,rfl,hn,hq⟩:=hG;refine l_ (λi ρ=>∃b2 b3,ρ=[some (.lst (rs.map aR),false),some (Sa (aZ rs i),true),b2,b3]) ⟨_,_,rfl⟩ ?_ ?_;rintro i r ρ hr ⟨b2,b3,rfl⟩;have hi:=(dz.mp hr).1;have hlen:((aZ rs i).map λp=>T.int (p.2:Int)).length<16777216:=by rw[bX];have:=o7 rs i;lia
 have es:aZ rs (i+1)=Fo (aZ rs i) i r:=by simp only[aZ,hr]
 cases r with
 |df g ps=>
  refine⟨rfl,rfl,_,aaH,?_⟩;refine⟨_,aaI,hlen,?_⟩;rw[es];simp only[Fo];rw[FJ];cases ha:qH (aZ rs i) g with
  |some j=>exact⟨_,_,rfl⟩
  |none=>
   show ∃b2 b3,_=[_,some (Sa (aZ rs i++[(g,i)]),true),b2,b3];have ef:Sa (aZ rs i++[(g,i)])=.dk (((aZ rs i).map λp=>(Sum.inr p.1:Key))++[Sum.inr g]) (((aZ rs i).map λp=>T.int (p.2:Int))++[T.int (i:Int)]):=by simp only[Sa,p_,jk,RU]
   rw[ef];exact⟨_,_,rfl⟩
 |_=>refine⟨rfl,rfl,_,aaH,?_⟩;rw[es];exact⟨_,_,rfl⟩
 rintro ρ ⟨b2,b3,rfl⟩;exact hq
end
end Lay
namespace Vc
open PySem L2 VT Gen K5
noncomputable def top(i:Nat):Stmt:=PySem.Challenge.pw_slicewise_k23_tables_of_programs.main.body.getD i (.Pass ⟨0,0,0,0⟩)
noncomputable abbrev kL:Stmt:=top 13
structure Mg5(K:zm)(mg:qae):Prop where
 len:mg "len"=none
 range:mg "range"=none
 enumerate:mg "enumerate"=none
 isinstance:mg "isinstance"=none
 int:mg "int"=none
 bool:mg "bool"=none
 tuple:mg "tuple"=none
 list:mg "list"=none
 zip:mg "zip"=none
 CL:∃a,mg "CLOSERS"=some (.ref a)/\∀H,dS K H a [.str "give",.str "end"]
 OP:∃a,mg "OPENERS"=some (.ref a)/\∀H,dS K H a [.str "def",.str "if",.str "while"]
def FQ(ts:Ψ)(q:Ψ->Prop):Prop:=∃rs:qal,ts=[.lst (rs.map aR)]/\Qd rs/\rs.length<=100/\q (Ft rs)
def oq{l:Ψ}{t:T}(h:l.getLast?=some t):jc l (-1)=some t:=by
 have hl:0<l.length:=by cases l<;>simp_all
 rw[DU] at h;unfold jc yb;rw[η (by decide),ι (by lia)];have e:(-1+(l.length:Int)).toNat=l.length-1:=by lia
 rw[e];exact h
theorem FR(kd:Nat->Kd):∀k,(st kd k).length<=k
 |0=>cc _
 |k+1=>by have:=FR kd k;simp only[st];split<;>split<;>simp<;>lia
def KP(n:Nat)(t:T):(List.replicate n [t]).flatten=List.replicate n t:=by
 induction n with
 |zero=>rfl
 |succ n ih=>rw[BF,SJ,ih];rfl
noncomputable def FT(rs:qal)(h e l o s:Ψ)(k:Nat)(r:Rw):En:=[aD (.lst (rs.map aR)),some (.lst h,true),some (.lst e,true),some (.lst l,true),some (.lst o,true),some (.lst s,true),aD (.int (k:Int)),aD (aR r)]
noncomputable def uc(rs:qal)(k:Nat):Ψ:=(st (bC rs) k).map λ(j:Nat)=>T.int (j:Int)
def Vd(rs:qal)(k:Nat)(ρ:En):Prop:=∃b6 b7 h e l o s,ρ=[aD (.lst (rs.map aR)),some (.lst h,true),some (.lst e,true),some (.lst l,true),some (.lst o,true),some (.lst s,true),b6,b7]/\h=tab (rC (bC rs)) rs.length k/\e=g9 (endsAt (bC rs) rs.length) rs.length k/\l=y_ (bC rs) rs.length k/\o=tab (g6 (bC rs)) rs.length k/\s=uc rs k
noncomputable def CP(rs:qal)(M:Nat->Rw->Ψ->Ψ->Ψ->Ψ->Ψ->Prop):FS:=λd ρ=>∃k r h e l o s,rs[k]?=some r/\ρ=FT rs h e l o s k r/\h=tab (rC (bC rs)) rs.length (k+1)/\M k r h e l o s/\∀ρ',Vd rs (k+1) ρ'->d.nx ρ'
def M1(rs:qal)(k:Nat)(r:Rw)(h e l o s:Ψ):Prop:=e=g9 (endsAt (bC rs) rs.length) rs.length k/\l=y_ (bC rs) rs.length k/\s=uc rs k/\o.length=rs.length/\((aQ r).df=true->o.set k (.int (k:Int))=tab (g6 (bC rs)) rs.length (k+1))/\((aQ r).df=false->o=tab (g6 (bC rs)) rs.length (k+1))
def M2(rs:qal)(k:Nat)(r:Rw)(h e l o s:Ψ):Prop:=e=g9 (endsAt (bC rs) rs.length) rs.length k/\l=y_ (bC rs) rs.length k/\s=uc rs k/\o=tab (g6 (bC rs)) rs.length (k+1)
def M3(rs:qal)(k:Nat)(r:Rw)(h e l o s:Ψ):Prop:=e=g9 (endsAt (bC rs) rs.length) rs.length k/\l=y_ (bC rs) rs.length (k+1)/\s=uc rs k/\o=tab (g6 (bC rs)) rs.length (k+1)
def M4(rs:qal)(k:Nat)(r:Rw)(h e l o s:Ψ):Prop:=e=g9 (endsAt (bC rs) rs.length) rs.length (k+1)/\l=y_ (bC rs) rs.length (k+1)/\o=tab (g6 (bC rs)) rs.length (k+1)/\s=(if (aQ r).cl=true then (uc rs k).dropLast else uc rs k)
def o8{k:Nat}(h:k<n):yb n (k:Int)=some k:=by unfold yb;rw[ι (by lia),ι (by lia),lh]
def ud{k:Nat}(h:st (bC rs) k≠[]):∃j,(st (bC rs) k).getLast?=some j/\jc (uc rs k) (-1)=some (.int (j:Int)):=by obtain⟨j,hj⟩:∃j,(st (bC rs) k).getLast?=some j:=⟨_,List.getLast?_eq_some_getLast h⟩;exact⟨j,hj,oq (by unfold uc;rw[List.getLast?_map,hj];rfl)⟩
section
noncomputable abbrev ue:ω:=["program","heads","ends","elses","homes","opened","place","row"]
def xa:aJ ue qav (aq kL):=L2.il
def FU(D:Df K mg "shape" kL qav f fd)(M:Mg5 K mg):cC P w K mg base "shape" qav 1 (Qb K 1 FQ):=by
 refine D.ic (fnD D.F xa rfl (by decide) λbP A outer s H E Ox hr ts q hG=>?_);have nd:=xa.nd;have hu:=bA.eD hr;have np:∀{i:Nat},bh ⟨H,[],Ox⟩ i:=ie;obtain⟨ac,mc,hac⟩:=M.CL;obtain⟨ao,mo,hao⟩:=M.OP;have CQ:∀{pos},VP (jD iR P w K mg base ue "shape" (aq kL) f bP A outer s H E).BM ⟨H,[],Ox⟩ (.Name "CLOSERS" pos) (fC (.tup [.str "give",.str "end"])):=nC (by rfl) mc (v:=.ref ac) rfl λH A=>cY (hac H) (az.cons dF (az.cons dF az.nil));have CT:∀{pos},VP (jD iR P w K mg base ue "shape" (aq kL) f bP A outer s H E).BM ⟨H,[],Ox⟩ (.Name "OPENERS" pos) (fC (.tup [.str "def",.str "if",.str "while"])):=nC (by rfl) mo (v:=.ref ao) rfl λH A=>cY (hao H) (az.cons dF (az.cons dF (az.cons dF az.nil)));obtain⟨rs,rfl,W,hn,hq⟩:=hG;refine⟨_,(eZ (cJ (i:=1) nd rfl (.inl rfl) (fv (tJ (bO (aa (χ fP) aj)) (ο (aY ba bb (by rfl) M.len nA (aM (ae 0) aX))))) np)
  (eZ (cJ (i:=2) nd rfl (.inl rfl) (fv (tJ (bO (aa (χ fP) aj)) (ο (aY ba bb (by rfl) M.len nA (aM (ae 0) aX))))) np)
  (eZ (cJ (i:=3) nd rfl (.inl rfl) (fv (tJ (bO (aa (χ fP) aj)) (ο (aY ba bb (by rfl) M.len nA (aM (ae 0) aX))))) np)
  (eZ (cJ (i:=4) nd rfl (.inl rfl) (fv (tJ (bO (aa (χ fP) aj)) (ο (aY ba bb (by rfl) M.len nA (aM (ae 0) aX))))) np)
  (eZ (cJ (i:=5) nd rfl (.inl rfl) (fv (bO aj)) np)
  (eZ (cZ nz rfl (kq (by rfl) M.enumerate (ah 0)) (dc (n:=2) rfl (aN (aC (i:=6) nd rfl (.inl rfl) np) (aN (aC (i:=7) nd rfl (.inl rfl) np) cw)))
   (ag (bf (vX (ο (aY ba bb (by rfl) M.len nA (aM (ae 5) aX))) (ο af))
    (ag (fW 1 (χ (ay (ae 5) (ο (oH (ο af))))) (ae 6))
    (ak (fW 4 (χ (ay (ae 5) (ο af))) (ae 6))))
    aI)
   (ir.weak (u:=(CP rs (M1 rs))) (ag (bf (bz hu (ο (ay (ae 7) (ο af))) (ο ax))
    (ak (fW 4 (ah 6) (ae 6)))
    aI)
   (ir.weak (u:=(CP rs (M2 rs))) (ag (bf (bz hu (ο (ay (ae 7) (ο af))) (ο ax))
    (ak (fW 3 (ah 6) (ο (ay (ae 5) (ο (oH (ο af)))))))
    aI)
   (ir.weak (u:=(CP rs (M3 rs))) (ag (bf (Nb (ο (ay (ae 7) (ο af))) (ο CQ))
    (ag (fW 2 (ah 6) (ο (ay (ae 5) (ο (oH (ο af))))))
    (ak (bp (ET 5 PySem.F.slot_list_pop PySem.F.type_list_pop Et Au))))
    aI)
   (ir.weak (u:=(CP rs (M4 rs))) (ak (bf (Nb (ο (ay (ae 7) (ο af))) (ο CT))
    (ak (bp (cA 5 mM mO aS aO (aa (ah 6) aj))))
    aI)) ?w4)) ?w3)) ?w2)) ?w1)))
  (Kz (is:=[1,2,3,4]) rfl ⟨_,_,1,_,rfl,rfl,rfl,Or.inl rfl,by decide,by decide,rfl,⟨_,_,2,_,rfl,rfl,rfl,Or.inl rfl,by decide,by decide,rfl,⟨_,_,3,_,rfl,rfl,rfl,Or.inl rfl,by decide,by decide,rfl,⟨_,_,4,_,rfl,rfl,rfl,Or.inl rfl,by decide,by decide,rfl,rfl⟩⟩⟩⟩ (by decide) (by decide)))))))),λ_=>?main⟩
 case w4=>
  rintro d ρ ⟨k,r,h,e,l,o,s,dX,rfl,rfl,⟨rfl,rfl,rfl,rfl⟩,fin⟩;have AV:k<rs.length:=(dz.mp dX).1;have mX:=du dX;obtain⟨rl,er⟩:=gm r;unfold FT;rw[er];refine⟨_,aaH,rfl,rfl,?_⟩;refine B7 (λh1=>?_) (λh1=>?_);have ho:(aQ r).op=true:=by rw[<- U0];exact h1
  have hc:(aQ r).cl=false:=by have:=W.ex k AV (by rw[mX];exact ho);rw[mX] at this;exact this
  rw[hc,η ja];refine⟨?_,fin _ ⟨_,_,_,_,_,_,_,rfl,rfl,rfl,rfl,rfl,?_⟩⟩;have:=FR (bC rs) k;unfold uc;rw[bX,ς]
  lia
  unfold uc;rw[gZ (by rw[mX];exact ho) (by rw[mX];exact hc),p_];rfl;have ho:(aQ r).op=false:=by
   cases q:(aQ r).op with
   |false=>rfl
   |true=>exact (h1 ((U0 r).trans q)).elim
  refine fin _ ⟨_,_,_,_,_,_,_,rfl,rfl,rfl,rfl,rfl,?_⟩;unfold uc;by_cases hc:(aQ r).cl=true;rw[ι hc,iz (by rw[mX];exact hc) (by rw[mX];exact ho),List.map_dropLast];rw[η hc,eB (by rw[mX];cases q:(aQ r).cl<;>simp_all) (by rw[mX];exact ho)]
 case w3=>
  rintro d ρ ⟨k,r,h,e,l,o,s,dX,rfl,rfl,⟨rfl,rfl,rfl,rfl⟩,fin⟩;have AV:k<rs.length:=(dz.mp dX).1;have mX:=du dX;obtain⟨rl,er⟩:=gm r;unfold FT;rw[er];refine⟨_,aaH,rfl,rfl,?_⟩;refine B7 (λh1=>?_) (λh1=>?_);have hc:(aQ r).cl=true:=by rw[<- UZ];exact h1
  have qg:(bC rs k).cl=true:=by rw[mX];exact hc
  obtain⟨j,hj,ej⟩:=ud (W.cl k AV qg);obtain⟨te,hjk⟩:=Kw W AV qg hj;refine⟨_,ej,j,by rw[wH];exact o8 (by lia),rfl,.int (j:Int),?_,k,r,_,_,_,_,_,dX,by rw[<- er];rfl,rfl,⟨?_,rfl,rfl,by rw[ι hc]⟩,fin⟩;unfold uc;rw[bX,fD,<- DU,hj];rfl;refine Fs te λi hi he=>?_;have:=(tV W AV he hi).2;rw[hj] at this;exact (Option.some.inj this).symm;have hc:(aQ r).cl=false:=by
   cases q:(aQ r).cl with
   |false=>rfl
   |true=>exact (h1 ((UZ r).trans q)).elim
  refine⟨k,r,_,_,_,_,_,dX,by rw[<- er];rfl,rfl,⟨CC λi hi he=>?_,rfl,rfl,by rw[hc,η ja]⟩,fin⟩;have:=(tV W AV he hi).1;rw[mX,hc] at this;cases this
 case w2=>
  rintro d ρ ⟨k,r,h,e,l,o,s,dX,rfl,rfl,⟨rfl,rfl,rfl,rfl⟩,fin⟩;have AV:k<rs.length:=(dz.mp dX).1;have mX:=du dX;obtain⟨rl,er⟩:=gm r;unfold FT;rw[er];refine⟨_,aaH,?_⟩;refine B7 (λh1=>?_) (λh1=>?_);have hc:(aQ r).el=true:=by rw[<- UY];exact h1
  have qg:(bC rs k).el=true:=by rw[mX];exact hc
  obtain⟨j,hj,ej⟩:=ud (W.el k AV qg);have Qq:j<k:=(iZ k).2 j (List.mem_of_getLast? hj);refine⟨_,ej,j,by rw[tY];exact o8 (by lia),k,r,_,_,_,_,_,dX,by rw[<- er];rfl,rfl,⟨rfl,?_,rfl,rfl⟩,fin⟩;simp only[y_,rC,qg,hj];have hc:(aQ r).el=false:=by
   cases q:(aQ r).el with
   |false=>rfl
   |true=>exact (h1 ((UY r).trans q)).elim
  refine⟨k,r,_,_,_,_,_,dX,by rw[<- er];rfl,rfl,⟨rfl,?_,rfl,rfl⟩,fin⟩;simp only[y_,mX,hc]
 case w1=>
  rintro d ρ ⟨k,r,h,e,l,o,s,dX,rfl,rfl,⟨rfl,rfl,rfl,ol,o1,o2⟩,fin⟩;have AV:k<rs.length:=(dz.mp dX).1;obtain⟨rl,er⟩:=gm r;unfold FT;rw[er];refine⟨_,aaH,?_⟩;refine B7 (λh1=>?_) (λh1=>?_);exact⟨k,by rw[ol];exact o8 AV,k,r,_,_,_,_,_,dX,by rw[<- er];rfl,rfl,⟨rfl,rfl,rfl,o1 (by rw[<- UX];exact h1)⟩,fin⟩;have hc:(aQ r).df=false:=by
   cases q:(aQ r).df with
   |false=>rfl
   |true=>exact (h1 ((UX r).trans q)).elim
  exact⟨k,r,_,_,_,_,_,dX,by rw[<- er];rfl,rfl,⟨rfl,rfl,rfl,o2 hc⟩,fin⟩
 case main=>
  have hlen:((rs.map aR).length:Int)=(rs.length:Int):=by rw[bX]
  have ZP:(List.replicate ((rs.map aR).length:Int).toNat [T.bB]).flatten=List.replicate rs.length T.bB:=by rw[hlen,lh];exact KP _ _
  have P5 : -(2 ^ 63)<=((rs.map aR).length:Int):=by lia
  have IG:((rs.map aR).length:Int)<2 ^ 63:=by lia
  have XC:[T.bB].length * ((rs.map aR).length:Int).toNat<=sizeLine:=by rw[hlen,lh,ς];simp;lia
  refine⟨Gen.P9 rfl,P5,IG,XC,Gen.P9 rfl,P5,IG,XC,Gen.P9 rfl,P5,IG,XC,Gen.P9 rfl,P5,IG,XC,Gen.P9 rfl,?_⟩;show gX (eV (rs.map aR)) _ _ _ [aD (.lst (rs.map aR)),some (.lst (List.replicate ((rs.map aR).length:Int).toNat [T.bB]).flatten,true),some (.lst (List.replicate ((rs.map aR).length:Int).toNat [T.bB]).flatten,true),some (.lst (List.replicate ((rs.map aR).length:Int).toNat [T.bB]).flatten,true),some (.lst (List.replicate ((rs.map aR).length:Int).toNat [T.bB]).flatten,true),some (.lst [],true),none,none];rw[Fu,ZP];refine dq (Vd rs)
   ⟨_,_,_,_,_,_,_,rfl,(wI _ _).symm,(CB _ _).symm,rfl,(wI _ _).symm,rfl⟩ ?_ ?_
  . rintro k ⟨r,k'⟩ ρ hk ⟨b6,b7,_,_,_,_,_,rfl,rfl,rfl,rfl,rfl,rfl⟩;rw[List.getElem?_zipIdx] at hk;cases dX:rs[k]? with
    |none=>rw[dX] at hk;cases hk
    |some r'=>
    rw[dX] at hk;simp at hk;obtain⟨rfl,rfl⟩:=hk;have AV:k<rs.length:=(dz.mp dX).1;obtain⟨rl,er⟩:=gm r';refine⟨rfl,rfl,?_⟩;show Ui _ _ _ [aD (.lst (rs.map aR)),some (.lst (tab (rC (bC rs)) rs.length k),true),some (.lst (g9 (endsAt (bC rs) rs.length) rs.length k),true),some (.lst (y_ (bC rs) rs.length k),true),some (.lst (tab (g6 (bC rs)) rs.length k),true),some (.lst (uc rs k),true),aD (.int (k:Int)),aD (aR r')];rw[er];have mX:=du dX;refine cN (λh1=>?_) (λh1=>?_);have gf:st (bC rs) k≠[]:=λz=>by have IF:((uc rs k).length:Int) > 0:=h1;unfold uc at IF;rw[z] at IF;simp at IF
    obtain⟨j,hj,ej⟩:=ud gf;obtain⟨j0,hj0⟩:∃j0,(st (bC rs) k).head?=some j0:=⟨_,List.head?_eq_some_head gf⟩;have ej0:jc (uc rs k) 0=some (.int (j0:Int)):=ai (j:=0) (by unfold uc;rw[fD,<- List.head?_eq_getElem?,hj0];rfl);refine⟨_,ej,k,by rw[kG];exact o8 AV,_,ej0,k,by rw[kG];exact o8 AV,k,r',_,_,_,_,_,dX,by rw[<- er];rfl,?_,⟨rfl,rfl,rfl,by rw[List.length_set,kG],λhd=>?_,λhd=>?_⟩,λρ' h=>h⟩;have e1:T.int (j:Int)=oT (rC (bC rs) k):=by unfold rC;rw[hj];rfl
    rw[e1];exact nQ;rw[List.set_set];have e1:T.int (k:Int)=oT (g6 (bC rs) k):=by unfold g6;rw[mX,ι hd];rfl
    rw[e1];exact nQ;have e1:T.int (j0:Int)=oT (g6 (bC rs) k):=by unfold g6;rw[mX,hd,η ja,hj0];rfl
    rw[e1];exact nQ;have gf:st (bC rs) k=[]:=by
     cases q:st (bC rs) k with
     |nil=>rfl
     |cons a b=>exfalso;refine h1 ?_;show ((uc rs k).length:Int) > 0;unfold uc;rw[q];simp
    refine⟨k,r',_,_,_,_,_,dX,by rw[<- er];rfl,wJ (by unfold rC;rw[gf];rfl),⟨rfl,rfl,rfl,by rw[kG],λhd=>?_,λhd=>?_⟩,λρ' h=>h⟩;have e1:T.int (k:Int)=oT (g6 (bC rs) k):=by unfold g6;rw[mX,ι hd];rfl
    rw[e1];exact nQ;exact wJ (by unfold g6;rw[mX,hd,η ja,gf];rfl)
  rintro ρ ⟨b6,b7,_,_,_,_,_,rfl,rfl,rfl,rfl,rfl,rfl⟩;rw[List.length_zipIdx,wK,wK,CD];exact hq;intro j m hj he;unfold endsAt at he;split at he
  rename_i ho
  obtain⟨e,h1,h2,h3,_⟩:=end_is W hj ho;rw[h1] at he;cases he;exact h3;cases he
end
end Vc
namespace VT
open PySem PySem.Spec PyProof.Rows L2
end VT
namespace Lay
open PySem L2 VT Gen K5
noncomputable abbrev iG:Stmt:=inClass (top 15) 0
structure Ve(mg:qae):Prop where
 len:mg "len"=none
 min:mg "min"=none
structure Sb(K:zm)(C:Addr):Prop where
 cl:Eg K C
 dI:cp K C "program"
 KQ:cp K C "heads"
 FV:cp K C "ends"
 KR:cp K C "elses"
 i0:cp K C "homes"
 uf:cp K C "defs"
 Qr:cp K C "main"
def AW(C:Addr)(ts:Ψ)(q:T->Prop):Prop:=∃rs:qal,ts=[.lst (rs.map aR)]/\Qd rs/\rs.length<=100/\q (gJ C rs)
section
variable{aU:Addr}
noncomputable abbrev FW:ω:=["self","program","parts"]
def rH:aJ FW qaw (aq iG):=L2.il
def CU(D:Dc K mg "Layout" "Layout.__init__" iG qaw aU f fd)(M:Ve mg)(M1:Sb K aU)(KS:cC P w K mg base "shape" qav 1 (Qb K 1 Vc.FQ))(ug:cC P w K mg base "first_defs" qav 1 (cM K 1 FN)):FH P w K mg base "Layout" aU qaw 2 1 (AW aU):=by
 obtain⟨XD,Vf,KU,KW,KY,KZ⟩:=KS;refine D.ic (fnI D.F rH rfl λbP A outer s H E as Ox hr us q hl hG=>?_);have nd:=rH.nd;have aB:=M1;refine⟨_,(ag (aK (i:=2) nd rfl (.inl rfl) (fv (VD.vp (tX KZ (hr.mono (by decide)) (by rfl) KU KW KY (aa (ah 1) aj)))) (AE (by decide)))
  (ag (gH 0 aB.cl aB.dI (ah 1))
  (ag (gH 0 aB.cl aB.KQ (χ (ay (ae 2) (ο af))))
  (ag (gH 0 aB.cl aB.FV (χ (ay (ae 2) (ο af))))
  (ag (gH 0 aB.cl aB.KR (χ (ay (ae 2) (ο af))))
  (ag (gH 0 aB.cl aB.i0 (χ (ay (ae 2) (ο af))))
  (ag (gH 0 aB.cl aB.uf (χ (aW ug hr (aa (ah 1) aj))))
  (ak (gH 0 aB.cl aB.Qr (χ (MR (vX (ο (aY CJ za (by rfl) M.len nA (aM (ο (dw aB.cl aB.uf (ae 0))) aX))) (ο af)) (zc rfl (by rfl) M.min (ο (dw aB.cl aB.uf (ae 0)))) fP))))))))))),?_⟩
 obtain⟨rs,rfl,W,hn,hq⟩:=hG;refine⟨rfl,rs,rfl,W,hn,?_⟩;rw[FL];refine⟨rfl,by show 0<1000;decide,?_⟩;refine⟨rfl,_,aaH,by show 1<1000;decide,?_⟩;refine⟨rfl,_,aaI,by show 2<1000;decide,?_⟩;refine⟨rfl,_,aaJ,by show 3<1000;decide,?_⟩;refine⟨rfl,_,aaK,by show 4<1000;decide,?_⟩;refine⟨rfl,rfl,rs,rfl,hn,by show 5<1000;decide,?_⟩;refine⟨rfl,?_⟩;refine⟨rfl,_,rfl,?_⟩;refine cN (λh=>?_) (λh=>?_);refine⟨rfl,_,rfl,(aZ rs rs.length).map (λp=>(p.2:Int)),?_,?_,λm h1 h2=>?_⟩;rw[sr];rfl;intro z;rw[List.map_eq_nil_iff] at z;rw[z] at h;exact absurd h (by decide);refine⟨by show 6<1000;decide,?_⟩;have e:=FK h1 h2;show q [_] _;rw[e];exact hq;refine⟨by show 6<1000;decide,?_⟩;have z:aZ rs rs.length=[]:=by
  cases e:aZ rs rs.length with
  |nil=>rfl
  |cons a b=>exfalso;apply h;rw[e];simp
 have e:iE rs=none:=by
  cases e:iE rs with
  |none=>rfl
  |some i=>obtain⟨⟨g,ps,hi⟩,hm⟩:=rG e;obtain⟨l,hl⟩:=iF hi hm rs.length (dz.mp hi).1;rw[z] at hl;cases hl
 have e2:T.bB=oT (iE rs):=by rw[e];rfl
 unfold gJ at hq;rw[<- e2] at hq;exact hq
end
end Lay
namespace VT
open PySem PySem.Spec PyProof.Rows L2
section
variable{X:Cx}{o:Expr}{fo:FE}
def K0(fo fe:FE):FP:=λρ Q=>fo ρ λx=>match x with
 |.str z=>fe ρ λy=>match y with
  |.str y=>Q (.vw (.bl (Txt.startswith z y)))
  |_=>False
 |_=>False
def rJ(ho:VR X Z o fo)(he:VR X Z e fe)(di:attributeBase o "startswith" X.env (eval o X.env)=eval o X.env:=by rfl)(yE:((backTo bG (starEach [e] X.env)).all (λx=>!x.1) && (backToKw bG (keywordEach [] X.env)).all (λx=>x.1.isSome)
    && decide (([e]:qap).length+([]:List Keyword).length+(if ([]:List Keyword).isEmpty then 0 else 1)<30))=true:=by rfl)(dj:(apos.endLine==bG.line)=true:=by rfl)(hs:starEach [e] X.env=(false,eval e X.env)::starEach [] X.env:=by rfl)(jE:(backTo bG (starEach [] X.env)).any (·.1)=false:=by rfl) :
  VP X Z (.Call (.Attribute o "startswith" apos) [e] [] bG) (K0 fo fe):=.mk λtm=>
 PE.weak (Ah PySem.F.plainAttrs_str PySem.F.slot_str_startswith PySem.F.type_str_startswith qm (ho tm) (bD (he tm) cX hs) di yE dj hs jE) λσ H Q ⟨ρ,O,q,I,hf,k⟩ =>
  ⟨ρ,O,_,I,hf,λx hx v H1 s1 a1=>by
    split at hx
    rename_i z
    have ev:=a1.str;subst ev;refine⟨rfl,ρ,O,_,I.same s1,hx,λy hy w H2 s2 a2=>?_⟩;split at hy;have ew:=a2.str;subst ew;exact⟨z,_,rfl,rfl,k _ hy _ H2 (s1.trans s2) ⟨(I.same s1).same s2,dC⟩⟩;exact hy.elim;exact hx.elim⟩
end
end VT
namespace VT
open PySem PySem.Spec PyProof.Rows
section
variable{R:Result->Shared->Prop}{I:Addr}{wr:Ω}{G:Array GenState->Array GenState->Prop}{P:Nat->Value->Prop}{St:Nat->Shared->Prop}
variable{K:Type}[DecidableEq K]{knd:PySem.KeyKind prog w K}
end
end VT
namespace VT
open PySem PySem.Spec PyProof.Rows L2
section
variable{X:Cx}{a b o i:Expr}{fo fi:FE}{pos:Pos}
def CV:MN X "int.bit_length" (λx xs H Q=>∃i,x=.int i/\xs=[]/\Q (.int (Builtin.Int.intBits i)) H):=by intro ε s σ H x xs v us Q I rx rs h;obtain⟨i,rfl,rfl,q⟩:=h;obtain⟨t,rfl⟩:=rx;cases rs;exact call_int_bit_length ⟨.int _,H,I.tok _,⟨_,rfl⟩,q⟩
def K6(f:FE):FP:=λρ Q=>f ρ λx=>match x with
 |.int i=>Q (.vw (.int (Builtin.Int.intBits i)))
 |_=>False
def CW(ho:VR X Z o fo)(di:attributeBase o "bit_length" X.env (eval o X.env)=eval o X.env:=by rfl)(dj:(apos.endLine==bG.line)=true:=by rfl) :
  VP X Z (.Call (.Attribute o "bit_length" apos) [] [] bG) (K6 fo):=.mk λtm=>
 PE.weak (sN PySem.F.plainAttrs_int PyProof.Rows.slot_int_bit_length PyProof.Rows.type_int_bit_length CV (ho tm) di dj) λσ H Q ⟨ρ,O,q,I,hf,k⟩ =>
  ⟨ρ,O,_,I,hf,λx hx v H1 s1 a1=>by
    split at hx
    rename_i z
    have ev:=a1.int;subst ev;exact⟨rfl,z,rfl,rfl,k _ hx _ H1 s1 ⟨I.same s1,bE⟩⟩;exact hx.elim⟩
end
end VT
namespace Nm
open PySem L2 VT Gen qq
noncomputable def top(i:Nat):Stmt:=PySem.Challenge.pw_slicewise_k23_tables_of_programs.main.body.getD i (.Pass ⟨0,0,0,0⟩)
noncomputable abbrev i4:Stmt:=top 6
noncomputable abbrev jO:Stmt:=top 7
structure ZQ(mg:qae):Prop where
 K7:∃t,mg "LETTERS"=some (.str bM t)
 uh:∃t,mg "LONGEST_NAME"=some (.int 8 t)
 isinstance:mg "isinstance"=none
 str:mg "str"=none
 len:mg "len"=none
 all:mg "all"=none
def bJ(h:n<=1000):n<=sizeLine:=small h
noncomputable def K8:T->Bool
 |.lst _=>false
 |.dk _ _=>false
 |.dt _ _=>false
 |.df _ _ _=>false
 |.kt _=>false
 |.ins _ _ _=>false
 |.pin _ _=>false
 |.ob _=>false
 |.ty _=>false
 |_=>true
noncomputable def Vg:T->Bool
 |.str x=>cP x
 |_=>false
def n9(ts:Ψ)(q:qam):Prop:=∃t,ts=[t]/\K8 t=true/\(∀x,t=.str x->x.length<=1000)/\q (.vw (.bl (Vg t)))
def Qs(r:Rt)(A:Prop)(B:Prop):Prop:=match r with
 |.vw (.bl true)=>A
 |.vw (.bl false)=>B
 |_=>False
def FY{c:Bool}{A:Prop}(h1:c=true->A)(h2:c=false->B):Qs (.vw (.bl c)) A B:=by
 cases c with
 |true=>exact h1 rfl
 |false=>exact h2 rfl
noncomputable def Vh:T->Bool
 |.str x=>eR x
 |_=>false
def FZ(t:T):Prop:=(∃x,t=.str x/\x.length<=100)\/∃i,t=.int i
def FD(ts:Ψ)(q:qam):Prop:=∃t,ts=[t]/\FZ t/\q (.vw (.bl (Vh t)))
def andM(r:Rt)(A:Prop)(B:Prop):Prop:=match r with
 |.vw (.bl true)=>A
 |.vw (.bl false)=>B
 |_=>False
def K9{c:Bool}{A:Prop}(h1:c=true->A)(h2:c=false->B):andM (.vw (.bl c)) A B:=by
 cases c with
 |true=>exact h1 rfl
 |false=>exact h2 rfl
theorem AX:∀l:qao,c7 (l.map ((λt:T=>match t with | .str y=>.bl (E1 y bM)|_=>.bB) ∘ λc=>T.str ⟨#[c]⟩))=some (l.map B')
 |[]=>rfl
 |c::l=>by rw[jk,jk];show (c7 _).map _=_;rw[AX l];rfl
section
abbrev mh:ω:=qax
def o9:aJ mh qax (aq i4):=L2.il
def qJ:(mh++(["sign"]:ω)).Nodup:=by decide +kernel
def K_(D:Df K mg "is_name" i4 qax f fd)(M:ZQ mg):cC P w K mg base "is_name" qax 1 (cM K 1 n9):=by
 refine D.ic (kr D.F o9 rfl λbP A outer s H E Ox hr ts q hG=>?_);have nd:=o9.nd;have np:∀{i:Nat},bh ⟨H,[],Ox⟩ i:=ie;obtain⟨tL,mL⟩:=M.K7;obtain⟨tN,mN⟩:=M.uh;have o_:∀{pos},VP (jD iR P w K mg base mh "is_name" (aq i4) f bP A outer s H E).BM ⟨H,[],Ox⟩ (.Name "LONGEST_NAME" pos) (fC (.int 8)):=nC (by rfl) mN (v:=.int 8) ⟨tN,rfl⟩ λ_ _=>bE;refine⟨_,(ag (bf (VW.vc (MQ (lJ (cH (cj dm (by rfl) M.isinstance (by rfl) M.str ku (ae 0)))) (ED (lJ (E6 MJ MJ (ο af) (ο (aY ba bb (by rfl) M.len nA (aM (ae 0) aX))) (ο o_))))))
    (ak (aH (fv jo)))
    aI)
   (ak (aH (fv (aY (oy rfl) Cf (by rfl) M.all UB (aM (ο (fK (ts:=["sign"]) rfl (by rfl) (jJ (ah 0)) (λ_ _ _ _ _ _=>(aC (i:=1) qJ rfl (.inl rfl) np)) (λ_ _ _ _ _ _=>nG) (λ_ _ _ _ _ _=>(χ (Uv (ae 1) (ο (nC (by rfl) mL (v:=.str bM) ⟨tL,rfl⟩ λ_ _=>dF))))))) aX)))))),λ_=>?_⟩
 obtain⟨t,rfl,ht,hx,hq⟩:=hG;cases t with
 |bB=>exact⟨rfl,hq⟩
 |bl b=>exact⟨rfl,hq⟩
 |int x=>exact⟨rfl,hq⟩
 |tup l=>exact⟨rfl,hq⟩
 |str x=>
   have hl:=hx x rfl;have qX:q (.vw (.bl (decide (1<=(x.length:Int)) && (decide ((x.length:Int)<=8) && x.cps.toList.all B')))):=hq;refine⟨rfl,bJ hl,FY (c:=decide (1<=(x.length:Int))) (λh1=>?_) (λh1=>?_)⟩;rw[h1,yh] at qX;refine B7 (λh2=>?_) (λh2=>?_);have qb:(!decide ((x.length:Int)<=8))=true:=h2;have h3:decide ((x.length:Int)<=8)=false:=by simpa using qb
   rw[h3,Iy] at qX;exact qX;have qb:¬ (!decide ((x.length:Int)<=8))=true:=h2;have h3:decide ((x.length:Int)<=8)=true:=by simpa using qb
   rw[h3,yh] at qX;refine⟨rfl,by rw[bX,N0];exact bJ hl,iU (λ_=>true) (λt=>match t with | .str y=>.bl (E1 y bM)|_=>.bB) (λt ht k r h=>?_) ?_⟩;obtain⟨c,_,rfl⟩:=jZ.mp ht;exact⟨_,rfl,h⟩;rw[List.filter_eq_self.mpr (λ_ _=>rfl),sr];refine⟨x.cps.toList.map B',AX x.cps.toList,?_⟩;rw[List.all_map];exact qX;rw[h1,Iy] at qX;exact qX
 |_=>cases ht
abbrev zg:ω:=qax
def mY:aJ zg qax (aq jO):=L2.il
def xb(D:Df K mg "is_field" jO qax f fd)(M:ZQ mg)(CY:cC P w K mg base "is_name" qax 1 (cM K 1 n9)):cC P w K mg base "is_field" qax 2 (cM K 1 FD):=by
 refine D.ic (kr D.F mY rfl λbP A outer s H E Ox hr ts q hG=>?_);have nd:=mY.nd;refine⟨_,(ak (aH (fv (lK (cj dm (by rfl) M.isinstance (by rfl) M.str ku (ae 0)) (lK (rJ (ae 0) (ο ax)) (oB (aW CY hr (aa (χ (ki (ae 0) (iS (ο af)) Ap)) aj)))))))),λ_=>?_⟩;obtain⟨t,rfl,ht,hq⟩:=hG;obtain⟨x,rfl,hx⟩|⟨i,rfl⟩:=ht
 refine⟨rfl,?_⟩;have qX:q (.vw (.bl (Txt.startswith x "." && cP (Txt.slice x (some 1) none)))):=hq;refine K9 (c:=Txt.startswith x ".") (λh=>?_) (λh=>?_);rw[h,yh] at qX;refine⟨bJ (by lia),rfl,_,rfl,rfl,λy e=>?_,qX⟩;cases e;exact ll (Txt.slice_le x _ _) (by lia);rw[h,Iy] at qX;exact qX;exact⟨rfl,hq⟩
end
end Nm
namespace PySem
open Sem (wp)
section
variable{d:Addr}{es:Array DictEntry}{ep:Nat}
def jP(hm:(d==sysModules)=false)(ho:s.heap.get? d=some o)(hc:o.cls=.type "dict")(hd:o.data=.dict es ep)(hQ:Q (.ref s.heap.objs.size) {s with heap:=s.heap.push {cls:=.type "dict_keyiterator",data:=.fields #[.ref d,.int 0 0,.int es.size 0,.int ep 0]} }):wpAny (model prog w) A (pyIter (.ref d)) Q E s:=by have hT:s.TypeIs (.ref d) "dict":=⟨o,ho,hc⟩;refine wpAny_pyIter_slot hT F.slot_dict_iter (ψ F.slot_dict_iter hT F.entry_dict_iter (ζ ?_) (F.args_dict_iter_1 _));unfold Builtin.Dict.dictSlotNone Builtin.Dict.notOrdered;refine ζ (ζ (wpAny_typeOf hT (θ (θ (ζ (θ ?_))))));unfold Builtin.Dict.showsAll;rw[η (by rw[hm];decide)];refine ζ (θ (ζ (aaj ho hd (ζ (aao ho hd (ζ (Δ (θ ⟨_,rfl,"dict_keyiterator",_,⟨_,iO _ rfl,rfl⟩,RJ.lookup,?_⟩))))))));exact hQ
theorem jQ{Q:(Option Value)->Shared->Prop}(hit:s.heap.IsKeyIter it d i es.size ep)(ho:s.heap.get? d=some o)(hd:o.data=.dict es ep){e:DictEntry}(he:es[i]?=some e)(h:∀h',h'.IsKeyIter it d (i+1) es.size ep->Heap.SameBut it s.heap h'->Q (some e.key) {s with heap:=h'}):wpAny (model prog w) A (pyNext (.ref it)) Q E s:=by
 obtain⟨oi,Sd,hci,Qt⟩:=id hit;refine ζ (aap (Γ hit.typeIs RJ
  (ψ RJ hit.typeIs F.entry_dict_keyiterator_next ?_ (F.args_dict_keyiterator_next_1 _))))
 wp_delta
 refine ζ (ζ (θ (θ ?_)));have hT:=hit.typeIs;refine ζ ?_
 wp_delta
 refine ζ ?_
 wp_delta
 refine ζ (aac hT (θ (ζ (aaD Sd Qt ?_))));show wpAny _ _ (if (Value.ref d==Value.none)=true then _ else _) _ _ _;refine ζ (θ (ζ (aaj ho hd ?_)));rw[η (by simp)];refine ζ (θ (ζ (aao ho hd ?_)));rw[η (by simp)];refine θ ?_;dsimp only;rw[η (by lia),show ((i:Int)).toNat=i from lh i,he];dsimp only;refine ζ ?_
 wp_delta
 refine ζ (aac hT (θ (ζ (wpAny_isOneOf_keyiter hT ?_))));rw[η (by decide +kernel)];refine ζ (aas Sd Qt (by simp) ?_);have g1:=Heap.get?_update_self (Obj.mapFields (·.setIfInBounds (0+1) (rawInt ((i:Int)+1)))) Sd (Obj.isFreed_of_fields (W5 Qt _));have Ke:(s.heap.update it (Obj.mapFields (·.setIfInBounds (0+1) (rawInt ((i:Int)+1))))).IsKeyIter it d (i+1) es.size ep :=
  ⟨_,g1,(Obj.cls_mapFields ..).trans hci,by rw[W5 Qt];simp[rawInt]⟩
 refine ζ (aad ?_)
 wp_delta
 exact ζ (wpAny_isOneOf_keyiter Ke.typeIs (θ (θ ⟨_,rfl,θ (h _ Ke (SH ..))⟩)))
theorem hJ{Q:(Option Value)->Shared->Prop}(hh:A.handled=none)(hit:s.heap.IsKeyIter it d i es.size ep)(ho:s.heap.get? d=some o)(hd:o.data=.dict es ep)(he:es[i]?=none)(h:∀h',Heap.ExtBut it s.heap h'->Q none {s with heap:=h'}):wpAny (model prog w) A (pyNext (.ref it)) Q E s:=by
 obtain⟨oi,Sd,hci,Qt⟩:=id hit;refine ζ (aap (Γ hit.typeIs RJ
  (ψ RJ hit.typeIs F.entry_dict_keyiterator_next ?_ (F.args_dict_keyiterator_next_1 _))))
 wp_delta
 refine ζ (ζ (θ (θ ?_)));have hT:=hit.typeIs;refine ζ ?_
 wp_delta
 refine ζ ?_
 wp_delta
 refine ζ (aac hT (θ (ζ (aaD Sd Qt ?_))));show wpAny _ _ (if (Value.ref d==Value.none)=true then _ else _) _ _ _;refine ζ (θ (ζ (aaj ho hd ?_)));rw[η (by simp)];refine ζ (θ (ζ (aao ho hd ?_)));rw[η (by simp)];refine θ ?_;dsimp only;rw[η (by lia),show ((i:Int)).toNat=i from lh i,he];dsimp only;refine ζ ?_
 wp_delta
 refine ζ (aac hT (θ ?_));rw[η (by decide +kernel)];refine ζ (aas Sd Qt (by simp) (ζ (ζ (m:=firstArgMember _ _) (wpAny_of_eq (by first|rfl|(simp only[firstArgMember];rfl)) (Δ (ζ (wpAny_handled ?_)) (by size_fits))))));rw[show A.in1.handled=none from hh];refine ζ (θ (wpAny_throw ?_));refine ζ (wpAny_isInstance ⟨_,iO _ rfl,rfl⟩ isSubtype_stop ?_);exact θ (h _ (((SH ..).extBut.push _).push _))
def kM(hit:s.heap.IsKeyIter it d i n ep)(hQ:Q (.ref it) s):wpAny (model prog w) A (pyIter (.ref it)) Q E s:=wpAny_pyIter_slot hit.typeIs F.slot_dict_keyiterator_iter (ψ F.slot_dict_keyiterator_iter hit.typeIs F.entry_dict_keyiterator_iter (θ ⟨_,rfl,"dict_keyiterator",_,hit.typeIs,RJ.lookup,hQ⟩) (F.args_dict_keyiterator_iter_1 _))
end
end PySem
namespace VT
open PySem PySem.Spec PyProof.Rows L2
noncomputable def qK(o:Obj)(i:Nat):Addr:=match o.data with
 |.dict es _=>match es[i]? with
  |some e=>match e.key with
   |.ref b=>b
   |_=>0
  |none=>0
 |_=>0
def DN(H:Hp)(a:Addr)(o:Obj)(ks:List (List Key)):Prop:=∃vs:qak,ks.length=vs.length/\H a=some (.fF o (.dT (ks.zip vs)))
def DN.known{a:Addr}(ok:jb P w H h)(z:DN H a o ks):h.get? a=some o/\(a==sysModules)=false/\o.cls=.type "dict"/\∃es ep,o.data=.dict es ep/\es.size=ks.length /\
  ∀(i:Nat)(k:List Key),ks[i]?=some k->H (qK o i)=some (.tup (k.map kV))/\∃e,es[i]?=some e/\e.key=.ref (qK o i):=by
 obtain⟨vs,hl,ha⟩:=z;obtain⟨ho,_,hm,xs,hx,o',es,ep,h1,h2,h3,h4,h5⟩:=(show bH P w H h a (.fF o (.dT (ks.zip vs))) from ok a _ ha);rw[ho] at h1;cases h1;have hz:es.size=ks.length:=by have e1:=IX hx;rw[DY,hl,My] at e1;rw[<- N0,h4,bX,hl];exact e1.symm
 refine⟨ho,hm,h2.1,es,ep,h3,hz,λi k hk=>?_⟩;have hi:=(dz.mp hk).1;have hv:vs[i]?=some (vs[i]'(by lia)):=jj _;have hp:(ks.zip vs)[i]?=some (k,vs[i]'(by lia)):=by rw[X7];exact⟨hk,hv⟩
 obtain⟨q,hq,e1,e2,e3⟩:=d4 hx hp;have he:es[i]?=some (entryOfKey (tupleKind (bQ P w)) q):=by rw[<- IS,h4,fD,hq];rfl
 have ek:qK o i=q.2.1:=by unfold qK;rw[h3];dsimp only;rw[he];rfl
 rw[ek];exact⟨e2,_,he,rfl⟩
noncomputable def XE(a:Addr)(o:Obj)(ks:List (List Key)):It :=
 ⟨λi H=>DN H a o ks/\i<ks.length,λi H x H'=>H'=H/\∃k,ks[i]?=some k/\x=.ref (qK o i)/\H (qK o i)=some (.tup (k.map kV)),λi H=>DN H a o ks/\ks.length=i⟩
def CZ{tg:Expr}{es:Array DictEntry}{ep:Nat}(ks:List (List Key))(a it:Addr)(hd:o.data=.dict es ep):Turn P w K tg (XE a o ks) [it] it (λi h=>h.IsKeyIter it a i es.size ep) where
 mem:=by simp
 obj:=λi h st b hb=>by
  have e:b=it:=by simpa using hb
  subst e;obtain⟨o,e,c,d⟩:=st;exact⟨o,e,λv z=>by rw[d] at z;cases z⟩
 keep:=λi h h' st k=>st.at λo e=>k it (by simp) o e
 item:=by intro X hP hw hK hc i ε s σ H E I hf st hg;obtain⟨ha,hi⟩:=hg;obtain⟨ho,_,_,Og,Oh,h3,hz,hk⟩:=ha.known I.bF;rw[hd] at h3;cases h3;obtain⟨hb,e,he,ek⟩:=hk i _ (jj hi);obtain⟨f0,f1,f2,f3,f4,f5⟩:=hf it (by simp);refine jQ st ho hd he λh' st' sb=>?_;have I1:=I.turned (t':=s.toks) (λb o hb e=>(sb.2 b hb).trans e) f0 f1 f3 f4 f5;obtain⟨oi,e1,c,d⟩:=id st';rw[ek];exact⟨_,rfl,vL e1 c d (by decide) ⟨.ref (qK o i),H,I1,rfl,⟨rfl,_,jj hi,rfl,hb⟩,st',λb hb=>(hf b hb).1⟩⟩
 done:=by intro X hP hw hK hc i ε s σ H E I hf st hg;obtain⟨ha,hi⟩:=hg;obtain⟨ho,_,_,Og,Oh,h3,hz,hk⟩:=ha.known I.bF;rw[hd] at h3;cases h3;obtain⟨f0,f1,f2,f3,f4,f5⟩:=hf it (by simp);exact hJ (I.ok.hd hc) st ho hd (Array.getElem?_eq_none (by lia)) λh' eb=>⟨rfl,I.turned (t':=s.toks) (λb o hb e=>eb b o hb e) f0 f1 f3 f4 f5⟩
 self:=λ_ _ _ _ _ st h=>kM st h
noncomputable def Vi(tl:TE):TI:=λσ H R=>tl σ H λx H1=>∃a o ks,x=.ref a/\DN H1 a o ks/\R (XE a o ks) H1
def AY{X:Cx}{tg:Expr}{tl:TE}(hl:PE X l tl):PI X tg l (Vi tl):=by
 intro ε s σ H R I h;refine cf (hl ε s σ H _ I h) λv s1 ⟨x,H1,I1,r1,a,o,ks,e,ha,q⟩=>?_;subst e;cases r1;obtain⟨ho,hm,hc,es,ep,h3,hz,hk⟩:=ha.known I1.bF;refine jP hm ho hc h3 ⟨s1.heap.objs.size,[s1.heap.objs.size],_,_,H1,rfl,I1.kept λb o e=>dR _ e,CZ ks a _ h3,⟨_,iO _ rfl,rfl,rfl⟩,λb hb=>?_,q⟩;have e:b=s1.heap.objs.size:=by simpa using hb
 subst e;exact I1.m7 (cc _) (I1.bF.fresh (cc _))
noncomputable def kT:Key->T
 |.inl i=>.int i
 |.inr x=>.str x
noncomputable def F1(k:List Key):T:=.tup (k.map kT)
def Vj{A:Ω}(k:Key):At K H A (kT k) (kV k):=by cases k<;>simp only[kT,kV,At]
theorem F2{K:zm}{H:Hp}{A:Ω}:∀k:List Key,az K H A (k.map kT) (k.map kV)
 |[]=>az.nil
 |k::ks=>az.cons (Vj k) (F2 ks)
def zh{A:Ω}{b:Addr}{k:List Key}(h:H b=some (.tup (k.map kV))):At K H A (F1 k) (.ref b):=cY (dS.of h) (F2 k)
noncomputable def pd(o:Obj)(ks:List (List Key)):Ψ:=ks.zipIdx.map λp=>.pin (qK o p.2) (F1 p.1)
def xc(o:Obj)(ks:List (List Key)):(pd o ks).length=ks.length:=by unfold pd;simp
def F3(o:Obj)(ks:List (List Key))(i:Nat):(pd o ks)[i]?=ks[i]?.map λk=>.pin (qK o i) (F1 k):=by unfold pd;rw[fD,List.getElem?_zipIdx];cases ks[i]?<;>simp
def rK{A:Ω}{ts:Ψ}{a:Addr}(h:At K H A (.df o ks ts) (.ref a)):DN H a o ks:=by obtain⟨b,vs,e,hl,hd,_⟩:=h;cases e;exact⟨vs,hl,hd.1⟩
def K'{a:Addr}{ts:Ψ}:Wk K (XE a o ks) [(.df o ks ts,.ref a)] (ks.map F1):=λH A hA h i=>by have z:=rK (h _ fB);refine⟨λhi=>⟨z,by simpa using hi⟩,λhi=>⟨z,by simpa using hi⟩,λt ht x H' y=>?_⟩;obtain⟨rfl,k,hk,rfl,hb⟩:=y;rw[fD,hk] at ht;cases ht;exact⟨aL.refl _,zh hb⟩
def F4{a:Addr}{ts:Ψ}:Wk K (XE a o ks) [(.df o ks ts,.ref a)] (pd o ks):=λH A hA h i=>by have z:=rK (h _ fB);rw[xc];refine⟨λhi=>⟨z,hi⟩,λhi=>⟨z,hi⟩,λt ht x H' y=>?_⟩;obtain⟨rfl,k,hk,rfl,hb⟩:=y;rw[F3,hk] at ht;cases ht;exact⟨aL.refl _,⟨rfl,zh hb⟩⟩
section
variable{X:Cx}{tg:Expr}
noncomputable def Vk(f:FE):FI:=λρ Q=>f ρ λt=>match t with
 |.df _ ks _=>Q (ks.map F1)
 |_=>False
noncomputable def Qu(f:FE):FI:=λρ Q=>f ρ λt=>match t with
 |.df o ks _=>Q (pd o ks)
 |_=>False
theorem La{f:FE}(h:VE X Z l f):VI X Z tg l (Vk f):=.mk λtm=>PI.weak (AY (h tm)) λσ H R ⟨ρ,O,q,I,hf,k⟩=>⟨ρ,O,_,I,hf,λt ht v H' s a=>by
 cases t with
 |df o ks ts=>
  obtain⟨b,rfl⟩:∃b,v=.ref b:=by simp only[At] at a;obtain⟨b,_,e,_⟩:=a;exact⟨b,e⟩
  exact⟨b,o,ks,rfl,rK a,k _ ht _ H' _ s (λp hp=>by rw[hY.mp hp];exact a) K'⟩
 |_=>exact ht.elim⟩
theorem xf{f:FE}(h:VE X Z l f):VI X Z tg l (Qu f):=.mk λtm=>PI.weak (AY (h tm)) λσ H R ⟨ρ,O,q,I,hf,k⟩=>⟨ρ,O,_,I,hf,λt ht v H' s a=>by
 cases t with
 |df o ks ts=>
  obtain⟨b,rfl⟩:∃b,v=.ref b:=by simp only[At] at a;obtain⟨b,_,e,_⟩:=a;exact⟨b,e⟩
  exact⟨b,o,ks,rfl,rK a,k _ ht _ H' _ s (λp hp=>by rw[hY.mp hp];exact a) F4⟩
 |_=>exact ht.elim⟩
end
section
variable{X:Cx}
def ui{t:TS}(h:iP X rest t):iP X rest (λD σ H=>∃a aV,H a=some (.dT aV)/\∀o,t D σ (upd H a (.fF o (.dT aV)))):=by
 intro ε s σ H D I hq;obtain⟨a,aV,ha,k⟩:=hq;obtain⟨z,y,xs,r,o,es,ep,h1,h2,h3,h4,h5⟩:=(show bH X.prog X.w H s.heap a (.dT aV) from I.bF a _ ha);have new:bH X.prog X.w (upd H a (.fF o (.dT aV))) s.heap a (.fF o (.dT aV)):=by refine⟨h1,z,y,xs,Paired.j3 r λp q ⟨e1,e2,e3⟩=>⟨e1,?_,e3⟩,o,es,ep,h1,h2,h3,h4,h5⟩;rw[ar];exact e2;intro e;rw[e,ha] at e2;cases e2
 have I':Inv X ε σ (upd H a (.fF o (.dT aV))) {s with heap:=s.heap,toks:=s.toks}:=I.write (by rw[ha];trivial) (.inl rfl) (λb u _ q=>q) ⟨o,h1⟩ new;exact h ε s σ _ D I' (k o)
def au.ice{tm:qab}(I:au K Z tm O ρ σ H){ts:Ψ}(hp:bh Z i)(hi:ρ[i]?=some (some (.dt ks ts,true))) :
  ∃a vs,H a=some (.dT (ks.zip vs))/\∀o,au K Z tm (O.set i none) (ρ.set i (some (.df o ks ts,false))) σ (upd H a (.fF o (.dT (ks.zip vs)))):=by
 obtain⟨o',s,h1,h2,a,rfl,rfl,vs,hl,e0,q0⟩:=I.sl i _ hi;have ha:=aF.mpr (f_ h1);have DK:a∈av Z O:=hX _ ha;obtain⟨hP,hx,_⟩:=I.own a ha;refine⟨a,vs,e0,λo=>?_⟩;have apart:∀b,b∈roots (O.set i none)->b≠a:=λb hb e=>by
  subst e;obtain⟨j,hj⟩:=Mt.mp (aF.mp hb);rcases get_set hj with⟨_,z,_⟩|⟨ne,z⟩
  cases z;exact ne (v7 I z h1)
 have Y9:a∉av Z (O.set i none):=λz=>by
  rcases gx.mp z with z|z
  exact apart a z rfl;exact hx z
 have fw:∀{t:T}{v:V},At K H (av Z O) t v->At K (upd H a (.fF o (.dT (ks.zip vs)))) (av Z (O.set i none)) t v:=λq=>(At.wrote DK e0 rfl q).bj (bS i);have Xq:∀{t:Ψ}{v:qak},az K H (av Z O) t v->az K (upd H a (.fF o (.dT (ks.zip vs)))) (av Z (O.set i none)) t v:=λq=>(az.wrote DK e0 rfl q).bj (bS i);refine⟨by simp[I.lσ],by simp[I.lO],λj e h=>?_,dZ _ _ I.nd,λb h=>?_,λp q=>?_,λb h=>?_,λb u e n=>?_,λp q=>fw (I.jG p q)⟩;rcases get_set h with⟨rfl,rfl,Ja⟩|⟨ne,h⟩
 refine⟨none,some (.ref a),by rw[z6 (by rw[I.lO];exact Ja)],h2,rfl,.ref a,rfl,?_⟩;exact⟨a,vs,rfl,hl,⟨aA,Y9⟩,Xq q0⟩;obtain⟨o2,s,g1,g2,g3⟩:=I.sl j e h;refine⟨o2,s,by rw[sg (Ne.symm ne)];exact g1,g2,g3.map (λ_ _ q=>fw q) λb t eb q=>?_⟩;subst eb;refine q.map (ar ?_) λ_ _ q=>Xq q;intro e;subst e;exact ne (v7 I g1 h1);obtain⟨g1,g2,u,g3,g4⟩:=I.own b (bR i b h);exact⟨g1,g2,u,by rw[ar (apart b h)];exact g3,g4⟩;rw[sg (Ne.symm (hp p q))];exact I.par p q;by_cases e:b=a;subst e;exact absurd h hx;rw[ar e];exact I.ox b h;rw[ar];exact I.keep b u e n;intro eb;subst eb;obtain z|z:=hP
 exact n z;rw[z] at e;cases e
def Vl(i:Nat)(g:FS):FS:=λd ρ=>match ρ[i]? with
 |some (some (.dt ks ts,true))=>∀o,g d (ρ.set i (some (.df o ks ts,false)))
 |_=>False
def AZ{g:FS}(i:Nat)(hp:bh Z i)(h:ir X Z rest g):ir X Z rest (Vl i g):=.mk λtm=>iP.jn (ui (h tm)) λD σ H ⟨ρ,O,d,I,q,F⟩=>by
 unfold Vl at q;split at q
 rename_i ks ts e
 obtain⟨a,vs,e1,k⟩:=I.ice hp e;exact⟨a,_,e1,λo=>⟨_,_,d,k o,q o,F⟩⟩;exact q.elim
end
noncomputable def rL:Ψ->Option (List Key)
 |[]=>some []
 |t::ts=>match KD t,rL ts with
  |some k,some ks=>some (k::ks)
  |_,_=>none
theorem kN{K:zm}{H:Hp}{A:Ω}:∀{ts:Ψ}{vs:qak}{k:List Key},az K H A ts vs->rL ts=some k->vs=k.map kV
 |[],vs,k,h,e=>by cases e;exact h
 |t::ts,vs,k,h,e=>by
  obtain⟨v,r,rfl,h1,h2⟩:=h;simp only[rL] at e;split at e
  rename_i k' ks e1 e2
  cases e;rw[t8 (.inl h1) e1,kN h2 e2];rfl;cases e
section
variable{κ:Type}[DecidableEq κ]
noncomputable def cb:List κ->List α->κ->Option α
 |k::ks,t::ts,x=>if k=x then some t else cb ks ts x
 |_,_,_=>none
noncomputable def pe(ks:List κ)(x:κ):Bool:=ks.any λk=>decide (k=x)
noncomputable def F5(ks:List κ)(x:κ):List κ:=if pe ks x=true then ks else ks++[x]
noncomputable def A0(ks:List κ)(ts:List α)(x:κ)(u:α):List α:=if pe ks x=true then List.zipWith (λk t=>if k=x then u else t) ks ts else ts++[u]
def F6(ts:List α)(x:κ):cb [] ts x=none:=by cases ts<;>rfl
theorem gp:∀(ks:List κ)(vs:qak)(x:κ),g_ (ks.zip vs) x=cb ks vs x
 |[],vs,x=>by rw[F6];rfl
 |k::ks,[],x=>rfl
 |k::ks,v::vs,x=>by simp only[cb,N4];by_cases e:k=x;rw[ι e,iA e];rw[η e,iB e];exact gp ks vs x
theorem i5{K:zm}{H:Hp}{A:Ω}:∀{ks:List κ}{ts:Ψ}{vs:qak}{x:κ},az K H A ts vs->(∀t,cb ks ts x=some t->∃v,cb ks vs x=some v/\At K H A t v)/\(cb ks ts x=none->cb ks vs x=none)
 |[],ts,vs,x,h=>by refine⟨λt e=>?_,λ_=>rfl⟩;cases e
 |k::ks,[],vs,x,h=>by subst h;exact⟨λt e=>(by cases e),λ_=>rfl⟩
 |k::ks,t::ts,vs,x,h=>by obtain⟨v,r,rfl,h1,h2⟩:=h;simp only[cb];by_cases e:k=x;rw[ι e,ι e];exact⟨λt e=>by cases e;exact⟨v,rfl,h1⟩,λq=>by cases q⟩;rw[η e,η e];exact i5 h2
def F7(ks:List κ)(vs:qak)(x:κ)(hl:ks.length=vs.length):((ks.zip vs).any λkv=>decide (kv.1=x))=pe ks x:=by
 unfold pe;induction ks generalizing vs with
 |nil=>rfl
 |cons k ks ih=>
  cases vs with
  |nil=>simp at hl
  |cons v vs=>rw[N4,BI,BI,ih vs (by simpa using hl)]
def Vm(ks:List κ)(vs:qak)(x:κ)(v:V):(ks.zip vs).map (λkv=>if kv.1=x then (kv.1,v) else kv)=ks.zip (List.zipWith (λk t=>if k=x then v else t) ks vs):=by
 induction ks generalizing vs with
 |nil=>rfl
 |cons k ks ih=>
  cases vs with
  |nil=>rfl
  |cons u vs=>simp only[N4,jk,Ya];rw[ih vs];by_cases e:k=x;rw[ι e,ι e];rw[η e,η e]
def Nv(ks:List κ)(vs:qak)(x:κ)(v:V)(hl:ks.length=vs.length):L2.putK (ks.zip vs) x v=(F5 ks x).zip (A0 ks vs x v)/\(F5 ks x).length=(A0 ks vs x v).length:=by unfold L2.putK F5 A0;rw[F7 ks vs x hl];by_cases e:pe ks x=true;rw[ι e,ι e,ι e];exact⟨Vm ks vs x v,by simp[hl]⟩;rw[η e,η e,η e];refine⟨?_,by simp[hl]⟩;rw[List.zip_append hl];rfl
def F8{A:Ω}{ks:List κ}{ts:Ψ}{x:κ}{t:T}(h:az K H A ts vs)(ht:At K H A t v):az K H A (A0 ks ts x t) (A0 ks vs x v):=by
 unfold A0;by_cases e:pe ks x=true;rw[ι e,ι e];clear e;induction ks generalizing ts vs with
 |nil=>simp only[List.zipWith_nil_left];exact az.nil
 |cons k ks ih=>
  cases ts with
  |nil=>subst h;exact az.nil
  |cons t0 ts=>obtain⟨v0,r,rfl,h1,h2⟩:=h;simp only[Ya];refine az.cons ?_ (ih h2);by_cases q:k=x;rw[ι q,ι q];exact ht;rw[η q,η q];exact h1
 rw[η e,η e];exact h.append (az.cons ht az.nil)
def A3{A:Ω}{ks:List κ}{ts:Ψ}{k:κ}{z:T}{w:V}(h:az K H A ts vs)(hz:At K H A z w):At K H A ((cb ks ts k).getD z) ((cb ks vs k).getD w):=by
 cases e:cb ks ts k with
 |none=>rw[(i5 h).2 e];exact hz
 |some t=>obtain⟨v,e1,e2⟩:=(i5 h).1 t e;rw[e1];exact e2
end
section
variable{X:Cx}{a b:Expr}{fc:FE}{pos:Pos}
def Qv:FP:=λ_ Q=>Q (.fr (.dt [] []))
def xh:VP X Z (.Dict [] [] pos) Qv:=.mk λtm=>PE.weak o4 λσ H Q ⟨ρ,O,q,I,hf,k⟩ p hp=>by refine k _ hf _ _ (aG hp) ?_;obtain⟨n1,n2,n3⟩:=I.fresh hp;exact⟨p,rfl,I.new hp rfl,⟨[],rfl,aA,az.nil⟩,n3,n2⟩
noncomputable def Vn(fa:FE)(g:FA):FP:=λρ Q=>fa ρ λx=>g ρ λys=>match x,rL ys with
 |.df _ ks ts,some k=>ys.length<=sizeLine/\∃t,cb ks ts k=some t/\Q (.vw t)
 |_,_=>False
def Lb{x1}{yz:Pos}(hu:X.A.units+1<cLine)(ha:VR X Z a fa)(hb:VA X Z es g)(hs:CI (.Tuple es x1 yz):=by intro _ _;rfl):VP X Z (.Subscript a (.Tuple es x1 yz) pos) (Vn fa g):=.mk λtm=>PE.weak (nS hu (ha tm) (lz (hb tm)) hs) λσ H Q ⟨ρ,O,q,I,hf,k⟩ =>
 ⟨ρ,O,_,I,hf,λx hx v H1 s1 a1=>⟨ρ,O,_,I.same s1,hx,λys hy ws H2 s2 a2=>by
  split at hy
  rename_i o ks ts kk e
  obtain⟨qj,t,e1,hq⟩:=hy;refine⟨by rw[a2.length];exact qj,λp0 ZR=>?_⟩;have s3:aL H2 (upd H2 p0 (.tup ws)):=aG ZR;obtain⟨l,vs,rfl,hl,hd,hv⟩:=((a1.same s2).same s3).df;obtain⟨u,e2,e3⟩:=(i5 hv).1 t e1;have hb:upd H2 p0 (.tup ws) p0=some (.tup (kk.map kV)):=by rw[kN a2 e];exact aA
  exact⟨l,u,rfl,.inr ⟨_,kk,p0,.inr ⟨o,hd⟩,rfl,hb,by rw[gp,e2]⟩,k _ hq _ _ ((s1.trans s2).trans s3) ⟨((I.same s1).same s2).same s3,e3⟩⟩;exact hy.elim⟩⟩
noncomputable def ZS(fa:FE)(g:FA)(fc:FE):FP:=λρ Q=>fa ρ λx=>match x with
 |.df _ ks ts=>g ρ λys=>match rL ys with
  |some k=>ys.length<=sizeLine/\fc ρ λz=>Q (.vw ((cb ks ts k).getD z))
  |none=>False
 |_=>False
def F9{x1}{yz:Pos}(hu:X.A.units+1<cLine)(ha:VR X Z a fa)(hb:VA X Z es g)(hc:VE X Z c fc)(m:M2 X a "get" apos (.Tuple es x1 yz) c bG):VP X Z (.Call (.Attribute a "get" apos) [.Tuple es x1 yz,c] [] bG) (ZS fa g fc):=.mk λtm=>PE.weak (wX hu (ha tm) (lz (hb tm)) (hc tm) m) λσ H Q ⟨ρ,O,q,I,hf,k⟩ =>
 ⟨ρ,O,_,I,hf,λx hx v H1 s1 a1=>by
  split at hx
  rename_i o ks ts
  obtain⟨l,vs,rfl,hl,hd,hv⟩:=a1.df;refine⟨l,rfl,.inr ⟨_,.inr ⟨o,hd⟩⟩,ρ,O,_,I.same s1,hx,λys hy ws H2 s2 a2=>?_⟩;split at hy
  rename_i kk e
  refine⟨by rw[a2.length];exact hy.1,λp0 ZR=>?_⟩;have s3:aL H2 (upd H2 p0 (.tup ws)):=aG ZR;refine⟨ρ,O,_,((I.same s1).same s2).same s3,hy.2,λz hz u H3 s4 a3=>?_⟩;have hb:H3 p0=some (.tup (kk.map kV)):=s4 _ _ (by rw[<- kN a2 e];exact aA);refine⟨_,.inr ⟨_,kk,p0,.inr ⟨o,s4 _ _ (s3 _ _ (s2 _ _ hd))⟩,rfl,hb,rfl⟩,?_⟩;rw[gp];exact k _ hz _ H3 (((s1.trans s2).trans s3).trans s4) ⟨(((I.same s1).same s2).same s3).same s4,A3 (((hv.same s2).same s3).same s4) a3⟩;exact hy.elim;exact hx.elim⟩
def Qw{t:TE}(h:PE X e t):PE X e (λσ H Q=>t σ H λv H1=>(∃hp,jb X.prog X.w H1 hp)->Q v H1):=by intro ε s σ H Q I hq;exact cf (h ε s σ H _ I hq) λv s1 ⟨x,H1,I1,r1,q⟩=>⟨x,H1,I1,r1,q ⟨s1.heap,I1.bF⟩⟩
noncomputable def Vo(fa fb:FE):FP:=λρ Q=>fa ρ λx=>fb ρ λy=>match x,y with
 |.df o ks ts,.pin b _=>∃i k t,b=qK o i/\ks[i]?=some k/\cb ks ts k=some t/\Q (.vw t)
 |_,_=>False
def nT(hu:X.A.units+1<cLine)(ha:VR X Z a fa)(hb:VR X Z b fb)(hs:CI b:=by intro _ _;rfl):VP X Z (.Subscript a b pos) (Vo fa fb):=.mk λtm=>PE.weak (nS hu (ha tm) (Qw (hb tm)) hs) λσ H Q ⟨ρ,O,q,I,hf,k⟩ =>
 ⟨ρ,O,_,I,hf,λx hx v H1 s1 a1=>⟨ρ,O,_,I.same s1,hx,λy hy w H2 s2 a2=>by
  intro bF;split at hy
  rename_i o ks ts b0 t0
  obtain⟨i,kk,t,rfl,hi,e1,hq⟩:=hy;obtain⟨hp,bF⟩:=bF;obtain⟨l,vs,rfl,hl,hd,hv⟩:=(a1.same s2).df;obtain⟨u,e2,e3⟩:=(i5 hv).1 t e1;obtain⟨_,_,_,_,_,_,_,hk⟩:=DN.known bF ⟨vs,hl,hd⟩;have ew:w=.ref (qK o i):=by
   obtain a2|⟨a,_,r⟩:=a2
   simp only[At] at a2;exact a2.1;exact r.elim
  exact⟨l,u,rfl,.inr ⟨_,kk,_,.inr ⟨o,hd⟩,ew,(hk i kk hi).1,by rw[gp,e2]⟩,k _ hq _ H2 (s1.trans s2) ⟨(I.same s1).same s2,e3⟩⟩;exact hy.elim⟩⟩
def ZT:T->T
 |.pin _ t=>t
 |t=>t
def ZU(f:FE):FE:=λρ Q=>f ρ λt=>Q (ZT t)
theorem uj(h:VR X Z e fa):VR X Z e (ZU fa):=.mk λtm=>PE.weak (h tm) λσ H Q ⟨ρ,O,q,I,hf,k⟩=>⟨ρ,O,_,I,hf,λt ht v H' s z=>by
 refine k _ ht v H' s ?_;cases t with
 |pin b t=>
  obtain z|⟨a,_,r⟩:=z
  simp only[At] at z;exact .inl z.2;exact r.elim
 |_=>exact z⟩
end
end VT
namespace PySem
open Sem (wp)
section
variable{d:Addr}{es:Array DictEntry}{ep:Nat}{ok ov:Value}
def jg{v:Addr}(hv:s.heap.IsItemsView v d)(ho:s.heap.get? d=some o)(hd:o.data=.dict es ep)(hQ:Q (.ref s.heap.objs.size) {s with heap:=s.heap.push {cls:=.type "dict_itemiterator",data:=.fields #[.none,.bool false,.ref d,.int 0 0,.int es.size 0,.int ep 0,.none,.none]} }):wpAny (model prog w) A (pyIter (.ref v)) Q E s:=by
 obtain⟨o2,hov,hcv,hdv⟩:=id hv;refine wpAny_pyIter_slot hv.typeIs F.slot_dict_items_iter (ψ F.slot_dict_items_iter hv.typeIs F.entry_dict_items_iter ?_ (F.args_dict_items_iter_1 _));unfold Builtin.«dict_items.__iter__» Builtin.Dict_items.dictOf Builtin.Dict_items.newIterator;refine ζ (θ (ζ (ζ (Λ hov hdv (x:=.ref d) rfl (θ (ζ (ζ (aaj ho hd (ζ (aao ho hd ?_))))))))));have own:Builtin.Dict_items.ownsTuple "dict_itemiterator"=true:=by decide
 simp only[own,aav];refine Δ (θ ⟨_,rfl,"dict_itemiterator",_,⟨_,iO _ rfl,rfl⟩,Sr.lookup,?_⟩) (by simp[sizeOk,Builtin.Dict_items.ownedTupleFields,ς]);simpa[rawInt,Builtin.Dict_items.ownedTupleFields] using hQ
theorem jh{Q:(Option Value)->Shared->Prop}{e:DictEntry}(hit:IsItemIter s.heap it d i es.size ep ok ov)(ho:s.heap.get? d=some o)(hd:o.data=.dict es ep)(he:es[i]?=some e)(hQ:∀h',IsItemIterOut h' it d (i+1) es.size ep e.key e.val s.heap.objs.size->h'.get? s.heap.objs.size=some {cls:=.type "tuple",data:=.seq #[e.key,e.val]}->h'.objs.size=s.heap.objs.size+1 ->
    (∀b u,b≠it->s.heap.get? b=some u->h'.get? b=some u)->Q (some (.ref s.heap.objs.size)) {s with heap:=h'}):wpAny (model prog w) A (pyNext (.ref it)) Q E s:=by
 obtain⟨hp,g,dr,tk,os⟩:=s;have hT:Shared.TypeIs ⟨hp,g,dr,tk,os⟩ (.ref it) "dict_itemiterator":=⟨_,hit,rfl⟩;have d_:i<es.size:=(Array.getElem?_eq_some_iff.mp he).1;unfold pyNext;refine ζ (aap (Γ (name:=Str.ofString "__next__") hT Sr
  (ψ Sr hT F.entry_dict_itemiterator_next ?_ (F.args_dict_itemiterator_next_1 _))))
 refine ζ (θ (ζ (ζ ?_)))
 first|refine ζ (aaa hT (θ ?_))|refine ζ (aah hT (θ ?_))
 refine ζ (aaD hit rfl ?_);have own:Builtin.Dict_items.ownsTuple "dict_itemiterator"=true:=by decide
 simp only[own,aav];show wpAny _ _ (if (Value.ref d==Value.none)=true then _ else _) _ _ _;rw[η (show ¬ ((Value.ref d==Value.none)=true) from ja)];refine ζ (θ (ζ (aaj ho hd ?_)));rw[η (by simp)];refine ζ (θ (ζ (aao ho hd ?_)));rw[η (by simp)];refine θ ?_;simp only[show ¬ ((i:Int)<0) from by lia,aaw,lh,he];refine ζ ?_
 first|refine ζ (aaa hT (θ ?_))|refine ζ (aah hT (θ ?_))
 refine ζ (aat hT ?_);show wpAny _ _ (setField (.ref it) 3 (rawInt ((i:Int)+1)) >>= _) _ _ ⟨hp,g,dr,tk,os⟩;refine ζ (Θ hit (by simp) λh₁ Vp vB=>?_)
 replace vB:Heap.SameBut it hp h₁:=vB
 replace Vp:IsItemIter h₁ it d (i+1) es.size ep ok ov:=by
  have e1:((i+1:Nat):Int)=(i:Int)+1:=by lia
  unfold IsItemIter;rw[e1];simpa[rawInt] using Vp
 have ZV:Shared.TypeIs ⟨h₁,g,dr,tk,os⟩ (.ref it) "dict_itemiterator":=⟨_,Vp,rfl⟩;refine ζ (aad (ζ (aat ZV ?_)));refine ζ (aat ZV ?_);show wpAny _ _ (Builtin.Dict_items.pairFromOwner (.ref it) 6 e.key e.val) _ _ ⟨h₁,g,dr,tk,os⟩;unfold Builtin.Dict_items.pairFromOwner;refine ζ (wpAny_newTuple ?_);have Ph:IsItemIter (h₁.push {cls:=.type "tuple",data:=.seq #[e.key,e.val]}) it d (i+1) es.size ep ok ov:=dR _ Vp;generalize XF:h₁.push {cls:=.type "tuple",data:=.seq #[e.key,e.val]}=h₂ at Ph;have DJ:h₁.objs.size=hp.objs.size:=vB.1;have Vq:it<hp.objs.size:=eJ hit;have ht₂:h₂.get? hp.objs.size=some {cls:=.type "tuple",data:=.seq #[e.key,e.val]}:=by rw[<- XF,<- DJ];exact iO _ rfl
 have R9:h₂.objs.size=hp.objs.size+1:=by rw[<- XF,DZ,DJ]
 have hk₂:∀b u,b≠it->hp.get? b=some u->h₂.get? b=some u:=λb u hb e=>by rw[<- XF];exact dR _ (vB.extBut b u hb e)
 show wpAny _ _ (Builtin.Dict_items.ownedTupleIsFree (.ref it) >>= _) _ _ ⟨h₂,g,dr,tk,os⟩;rw[DJ];clear XF Vp vB ZV DJ h₁;unfold Builtin.Dict_items.ownedTupleIsFree;refine ζ (ζ (Λ Ph rfl (x:=.none) rfl (θ ?_)));simp only[aav];refine ζ (Λ Ph rfl (x:=ok) rfl (ζ (Λ Ph rfl (x:=ov) rfl ?_)));refine ζ (Θ Ph (by simp) λh₃ ZW vC=>?_)
 replace vC:Heap.SameBut it h₂ h₃:=vC
 replace ZW:IsItemIter h₃ it d (i+1) es.size ep e.key ov:=ZW
 refine ζ (Θ ZW (by simp) λh₄ ZX AF=>?_)
 replace AF:Heap.SameBut it h₃ h₄:=AF
 replace ZX:IsItemIter h₄ it d (i+1) es.size ep e.key e.val:=ZX
 refine ζ (Θ ZX (by simp) λh₅ ZY AG=>?_)
 replace AG:Heap.SameBut it h₄ h₅:=AG
 replace ZY:IsItemIterOut h₅ it d (i+1) es.size ep e.key e.val hp.objs.size:=ZY
 refine ζ (Θ ZY (by simp) λh₆ ZZ Vr=>?_)
 replace Vr:Heap.SameBut it h₅ h₆:=Vr
 replace ZZ:IsItemIterOut h₆ it d (i+1) es.size ep e.key e.val hp.objs.size:=ZZ
 have I_:hp.objs.size≠it:=Iz Vq;refine ζ (wpAny_letGo (θ (θ ⟨_,rfl,θ (hQ h₆ ZZ ?_ ?_ ?_)⟩)));exact Vr.extBut _ _ I_ (AG.extBut _ _ I_ (AF.extBut _ _ I_ (vC.extBut _ _ I_ ht₂)));show h₆.objs.size=hp.objs.size+1;rw[Vr.1,AG.1,AF.1,vC.1,R9];exact λb u hb e=>Vr.extBut b u hb (AG.extBut b u hb (AF.extBut b u hb (vC.extBut b u hb (hk₂ b u hb e))))
theorem gL{Q:(Option Value)->Shared->Prop}(hh:A.handled=none)(hit:IsItemIter s.heap it d i es.size ep ok ov)(ho:s.heap.get? d=some o)(hd:o.data=.dict es ep)(he:es[i]?=none)(hQ:∀h',Heap.ExtBut it s.heap h'->Q none {s with heap:=h'}):wpAny (model prog w) A (pyNext (.ref it)) Q E s:=by
 have hT:s.TypeIs (.ref it) "dict_itemiterator":=⟨_,hit,rfl⟩;unfold pyNext;refine ζ (aap (Γ (name:=Str.ofString "__next__") hT Sr
  (ψ Sr hT F.entry_dict_itemiterator_next ?_ (F.args_dict_itemiterator_next_1 _))))
 refine ζ (θ (ζ (ζ ?_)))
 first|refine ζ (aaa hT (θ ?_))|refine ζ (aah hT (θ ?_))
 refine ζ (aaD hit rfl ?_);have own:Builtin.Dict_items.ownsTuple "dict_itemiterator"=true:=by decide
 simp only[own,aav];show wpAny _ _ (if (Value.ref d==Value.none)=true then _ else _) _ _ s;rw[η (show ¬ ((Value.ref d==Value.none)=true) from ja)];refine ζ (θ (ζ (aaj ho hd ?_)));rw[η (by simp)];refine ζ (θ (ζ (aao ho hd ?_)));rw[η (by simp)];refine θ ?_;simp only[show ¬ ((i:Int)<0) from by lia,aaw,lh,he];refine ζ ?_
 first|refine ζ (aaa hT (θ ?_))|refine ζ (aah hT (θ ?_))
 show wpAny _ _ (setField (.ref it) 2 .none >>= _) _ _ s;refine ζ (aas hit rfl (by simp) ?_);show wpAny _ _ (newExc (.type "StopIteration") [] >>= _) _ _ _;refine ζ ?_;simp only[newExc,newTuple];refine ζ (Δ ?_ (by size_fits));refine ζ (m:=firstArgMember _ _) (wpAny_of_eq (a:=Value.none) (by first|rfl|(simp only[firstArgMember];rfl)) ?_);refine Δ ?_ (by size_fits);simp only[raiseNew];refine ζ (wpAny_handled ?_);rw[show A.in1.handled=none from hh];refine ζ (θ (wpAny_throw ?_));refine ζ (wpAny_isInstance (T:="StopIteration") (b:=true) ⟨_,iO _ rfl,rfl⟩ isSubtype_stop ?_);exact θ (hQ _ (((SH ..).extBut.push _).push _))
end
end PySem
namespace VT
open PySem PySem.Spec PyProof.Rows L2
def F_(a d:Addr):HO:=.ext λh=>h.get? a=some {cls:=.type "dict_items",data:=.fields #[.ref d]}
noncomputable def Z0(a:Addr)(o:Obj)(ks:List (List Key)):It :=
 ⟨λi H=>DN H a o ks/\i<ks.length,λi H x H'=>∃k v p vs,ks[i]?=some k/\ks.length=vs.length/\H a=some (.fF o (.dT (ks.zip vs)))/\vs[i]?=some v/\H (qK o i)=some (.tup (k.map kV))/\H p=none/\x=.ref p/\H'=upd H p (.tup [.ref (qK o i),v]),λi H=>DN H a o ks/\ks.length=i⟩
def DN.entry{a:Addr}{es:Array DictEntry}{ep:Nat}(ok:jb P w H h)(z:DN H a o ks)(hd:o.data=.dict es ep)(hi:i<ks.length) :
  ∃k v vs e,ks[i]?=some k/\ks.length=vs.length/\H a=some (.fF o (.dT (ks.zip vs)))/\vs[i]?=some v/\H (qK o i)=some (.tup (k.map kV))/\es[i]?=some e/\e.key=.ref (qK o i)/\RelV v e.val:=by
 obtain⟨vs,hl,ha⟩:=z;obtain⟨ho,_,hm,xs,hx,o',Og,Oh,h1,h2,h3,h4,h5⟩:=(show bH P w H h a (.fF o (.dT (ks.zip vs))) from ok a _ ha);rw[ho] at h1;cases h1;rw[hd] at h3;cases h3;have hv:vs[i]?=some (vs[i]'(by lia)):=jj _;have hk:=jj hi;have hp:(ks.zip vs)[i]?=some (ks[i],vs[i]'(by lia)):=by rw[X7];exact⟨hk,hv⟩
 obtain⟨q,hq,e1,e2,e3⟩:=d4 hx hp;have he:es[i]?=some (entryOfKey (tupleKind (bQ P w)) q):=by rw[<- IS,h4,fD,hq];rfl
 have ek:qK o i=q.2.1:=by unfold qK;rw[hd];dsimp only;rw[he];rfl
 exact⟨ks[i],vs[i]'(by lia),vs,_,hk,hl,ha,hv,by rw[ek];exact e2,he,by rw[ek];rfl,e3⟩
def zl{x1}{es:Array DictEntry}{ep:Nat}(ks:List (List Key))(a it:Addr)(hd:o.data=.dict es ep) :
  Turn P w K (.Tuple elts x1 tp) (Z0 a o ks) [it] it (λi h=>∃ok ov,IsItemIter h it a i es.size ep ok ov) where
 mem:=by simp
 obj:=λi h st b hb=>by
  have e:b=it:=by simpa using hb
  subst e;obtain⟨ok,ov,st⟩:=st;exact⟨_,st,λv z=>by cases z⟩
 keep:=λi h h' ⟨ok,ov,st⟩ k=>⟨ok,ov,k it (by simp) _ st⟩
 item:=by
  intro X hP hw hK hc i ε s σ H E I hf st hg;obtain⟨ok,ov,st⟩:=st;obtain⟨ha,hi⟩:=hg;obtain⟨ho,_,_,_⟩:=ha.known I.bF;obtain⟨k,v,vs,e,hk,hl,hH,hv,hb,he,ek,rv⟩:=ha.entry I.bF hd hi;refine jh st ho hd he λh' st' tup sz old=>⟨_,rfl,wpAny_letOwnedTupleGo_items st' λh2 qi sb=>?_⟩;have R4:=sb;have d_:=eJ st;have I_:=Iz d_;have kk:∀b ob,b∉[it]->s.heap.get? b=some ob->h2.get? b=some ob:=λb ob hb q=>by have Xk:b≠it:=λz=>hb (by simp[z]);exact (R4.2 b Xk).trans (old b ob Xk q)
  have new:bH X.prog X.w (upd H s.heap.objs.size (.tup [.ref (qK o i),v])) h2 s.heap.objs.size (.tup [.ref (qK o i),v]) :=
   ⟨by show 2<=sizeLine;rw[ς];decide,[e.key,e.val],.cons (by rw[ek];rfl) (.cons rv .nil),⟨_,(R4.2 _ I_).trans tup,rfl,_,rfl⟩⟩
  refine⟨.ref s.heap.objs.size,_,I.grown kk hf (cc _) new,rfl,⟨k,v,_,vs,hk,hl,hH,hv,hb,I.fresh,rfl,rfl⟩,⟨_,_,qi⟩,λb hb=>?_⟩;have e:b=it:=by simpa using hb
  subst e;rw[ar (jX d_)];exact (hf b hb).1
 done:=by intro X hP hw hK hc i ε s σ H E I hf st hg;obtain⟨ok,ov,st⟩:=st;obtain⟨ha,hi⟩:=hg;obtain⟨ho,_,_,Og,Oh,h3,hz,hk⟩:=ha.known I.bF;rw[hd] at h3;cases h3;obtain⟨f0,f1,f2,f3,f4,f5⟩:=hf it (by simp);exact gL (I.ok.hd hc) st ho hd (Array.getElem?_eq_none (by lia)) λh' eb=>⟨rfl,I.turned (λb o hb e=>eb b o hb e) f0 f1 f3 f4 f5⟩
 self:=λA i s Q E ⟨ok,ov,st⟩ h=>W.kcp_self st h
noncomputable def Qx(tl:TE):TI:=λσ H R=>tl σ H λx H1=>∃a o ks,x=.ref a/\DN H1 a o ks/\∀p,H1 p=none->R (Z0 a o ks) (upd H1 p (F_ p a))
def F'{X:Cx}{x1}{tl:TE}(hl:PE X l tl)(di:attributeBase l "items" X.env (eval l X.env)=eval l X.env:=by rfl)(dj:(apos.endLine==bG.line)=true:=by rfl) :
  PI X (.Tuple elts x1 tp) (.Call (.Attribute l "items" apos) [] [] bG) (Qx tl):=by
 intro ε s σ H R I h;refine wpAny_Call_method0_late di dj (cf (hl ε s σ H _ I h) λv s1 ⟨x,H1,I1,r1,d,o,ks,e,hz,q1⟩=>?_);subst e;obtain rfl:=r1;obtain⟨ho,hm,hc,es,ep,h3,hz',hk⟩:=hz.known I1.bF;have hD:ZN H1 d:=.inr (let ⟨vs,_,e⟩:=hz;⟨_,.inr ⟨o,e⟩⟩);obtain⟨t1,t2,_⟩:=FC I1 hD;refine⟨"dict","dict.items",WV,PySem.F.slot_dict_items,PySem.F.type_dict_items,t1,t2,WW rfl (PySem.evalArgs_none (ψ PySem.F.slot_dict_items t1 PySem.F.entry_dict_items (ζ (ζ (wpAny_notOrdered_dict t1 (θ ?_)))) (PySem.F.args_dict_items_1 _)))⟩;unfold Builtin.Dict.showsAll;rw[η (by rw[hm];exact ja)];refine ζ (θ (ζ (Δ (θ ⟨_,rfl,?_⟩))));have I2:Inv X ε σ (upd H1 s1.heap.objs.size (F_ s1.heap.objs.size d)) {s1 with heap:=s1.heap.push {cls:=.type "dict_items",data:=.fields #[.ref d]} } :=
  I1.laid (λb o e=>dR _ e) (cc _) ⟨iO _ rfl,⟨_,iO _ rfl⟩,λh1 h2 z k=>k _ z⟩
 refine jg ⟨_,iO _ rfl,rfl,rfl⟩ (dR _ ho) h3 ?_;refine⟨_,[(s1.heap.push {cls:=.type "dict_items",data:=.fields #[.ref d]}).objs.size],_,_,_,rfl,I2.kept λb o e=>dR _ e,zl ks d _ h3,⟨.none,.none,iO _ rfl⟩,λb hb=>?_,q1 _ I1.fresh⟩;have e:b=(s1.heap.push {cls:=.type "dict_items",data:=.fields #[.ref d]}).objs.size:=by simpa using hb
 subst e;exact I2.m7 (cc _) (I2.bF.fresh (cc _))
noncomputable def Se(p:List Key×T):T:=.tup [F1 p.1,p.2]
def Ga{a:Addr}{ts:Ψ}(hl:ks.length=ts.length):Wk K (Z0 a o ks) [(.df o ks ts,.ref a)] ((ks.zip ts).map Se):=λH A hA h i=>by
 have hs:=h _ fB;have z:=rK hs;have ez:((ks.zip ts).map Se).length=ks.length:=by rw[bX,DY,hl,My]
 rw[ez];refine⟨λhi=>⟨z,hi⟩,λhi=>⟨z,hi⟩,λt ht x H' y=>?_⟩;obtain⟨k,v,p,vs,hk,hv,hH,hvi,hb,hp,rfl,rfl⟩:=y;obtain⟨b,jr,e,Ja,hd,hq⟩:=hs;cases e;have e1:=hd.1;rw[hH] at e1;have e2:ks.zip vs=ks.zip jr:=by injection e1 with e1;injection e1 with _ e1;injection e1
 have e3:jr=vs:=by have:=rk (List.map Prod.snd) e2;rw[List.map_snd_zip (by lia),List.map_snd_zip (by lia)] at this;exact this.symm
 subst e3;have hi:=(dz.mp hk).1;have hti:ts[i]?=some (ts[i]'(by lia)):=jj _;rw[fD,show (ks.zip ts)[i]?=some (k,ts[i]'(by lia)) from by rw[X7];exact⟨hk,hti⟩] at ht;cases ht;obtain⟨v',g1,g2⟩:=hq.get hti;rw[hvi] at g1;cases g1;have s:aL H (upd H p (.tup [.ref (qK o i),v])):=aG hp;exact⟨s,cY (dS.of aA) (az.cons ((zh hb).same s) (az.cons (g2.same s) az.nil))⟩
section
variable{X:Cx}
noncomputable def Qy(f:FE):FI:=λρ Q=>f ρ λt=>match t with
 |.df _ ks ts=>ks.length=ts.length/\Q ((ks.zip ts).map Se)
 |_=>False
def Gb{f:FE}{x1}(h:VE X Z l f)(di:attributeBase l "items" X.env (eval l X.env)=eval l X.env:=by rfl)(dj:(apos.endLine==bG.line)=true:=by rfl) :
  VI X Z (.Tuple elts x1 tp) (.Call (.Attribute l "items" apos) [] [] bG) (Qy f):=.mk λtm=>PI.weak (F' (h tm) di dj) λσ H R ⟨ρ,O,q,I,hf,k⟩=>⟨ρ,O,_,I,hf,λt ht v H' s a=>by
 cases t with
 |df o ks ts=>
   obtain⟨b,rfl⟩:∃b,v=.ref b:=by simp only[At] at a;obtain⟨b,_,e,_⟩:=a;exact⟨b,e⟩
   refine⟨b,o,ks,rfl,rK a,λp hp=>?_⟩;have s2:aL H' (upd H' p (F_ p b)):=aG hp;exact k _ ht.2 _ _ [(.df o ks ts,.ref b)] (s.trans s2) (λp hp=>by rw[hY.mp hp];exact a.same s2) (Ga ht.1)
 |_=>exact ht.elim⟩
end
structure MG where
 a:Addr
 dx:Addr
 a1:Addr
 a2:Addr
 C:Addr
 H0:Hp
 n1:a≠a1
 n2:a≠a2
 n3:a1≠a2
 hb:Bool
noncomputable def MG.Ox(M:MG):Ω:=if M.hb=true then [M.a,M.a1,M.a2] else [M.a1,M.a2]
def MG.m1(M:MG):M.a1∈M.Ox:=by unfold MG.Ox;split<;>simp
def MG.m2(M:MG):M.a2∈M.Ox:=by unfold MG.Ox;split<;>simp
def MG.mem(M:MG){b:Addr}(h:b∈M.Ox):(M.hb=true/\b=M.a)\/b=M.a1\/b=M.a2:=by
 unfold MG.Ox at h;split at h
 rename_i z
 simp only[dg,fE,aag] at h;exact h.elim (λe=>.inl ⟨z,e⟩) .inr;simp only[dg,fE,aag] at h;exact .inr h
structure S2 where
 k1:List (List Key)
 t1:Ψ
 k2:List (List Key)
 t2:Ψ
noncomputable abbrev fN:ω:=["names","cells"]
def Qz(K:zm)(H:Hp)(A:Ω)(a:Addr)(ks:List (List Key))(ts:Ψ):Prop:=∃vs,ks.length=vs.length/\H a=some (.dT (ks.zip vs))/\az K H A ts vs
structure SD(K:zm)(M:MG)(s:S2)(H:Hp):Prop where
 ins:M.hb=true->H M.a=some (.ins M.C M.dx (fN.zip [.ref M.a1,.ref M.a2]))
 d1:Qz K H M.Ox M.a1 s.k1 s.t1
 d2:Qz K H M.Ox M.a2 s.k2 s.t2
 fr:∀b o,M.H0 b=some o->b∉M.Ox->H b=some o
structure SG(K:zm)(M:MG)(tm:qab)(ρ:En)(s:S2)(σ:St)(H:Hp):Prop where
 env:∃O,roots O=[]/\au K ⟨H,[],M.Ox⟩ tm O ρ σ H
 sd:SD K M s H
section
variable{M:MG}{tm:qab}{s:S2}
def Qz.same{A:Ω}{a:Addr}{ts:Ψ}(h:Qz K H A a ks ts)(sm:aL H H'):Qz K H' A a ks ts:=let ⟨vs,l,e,q⟩:=h;⟨vs,l,sm _ _ e,q.same sm⟩
def SD.same(h:SD K M s H)(sm:aL H H'):SD K M s H':=⟨λz=>sm _ _ (h.ins z),h.d1.same sm,h.d2.same sm,λb o e n=>sm _ _ (h.fr b o e n)⟩
def SD.here(h:SD K M s H):∀b∈M.Ox,∃u,H b=some u/\m9 u=true:=λb hb=>by
 obtain⟨v1,_,e1,_⟩:=h.d1;obtain⟨v2,_,e2,_⟩:=h.d2;rcases M.mem hb with⟨z,rfl⟩|rfl|rfl
 exact⟨_,h.ins z,rfl⟩;exact⟨_,e1,rfl⟩;exact⟨_,e2,rfl⟩
def d5(h:roots O=[]):av Z O=Z.Ox:=by unfold av;rw[h];rfl
def hU(ρ:En):Bool:=ρ.all λe=>match e with
 |some (_,true)=>false
 |_=>true
def um(I:au K Z tm O ρ σ H)(h:hU ρ=true):roots O=[]:=by
 cases q:roots O with
 |nil=>rfl
 |cons a l=>
  exfalso;have ha:=aF.mp (by rw[q];exact fB);obtain⟨i,hi⟩:=Mt.mp ha;have hl:i<ρ.length:=by rw[<- I.lO];exact (dz.mp hi).1
  have he:=jj hl;obtain⟨o,s,h1,h2,h3⟩:=I.sl i _ he;rw[hi] at h1;cases h1;have hv:=IV.mp h ρ[i] (RN hl);revert h3 hv
  match ρ[i] with
  |none=>intro h3 _;cases h3
  |some (t,false)=>intro h3 _;exact nomatch h3.1
  |some (t,true)=>intro _ hv;cases hv
def au.now(I:au K Z tm O ρ σ H)(h:roots O=[]):au K ⟨H,[],Z.Ox⟩ tm O ρ σ H:=⟨I.lσ,I.lO,I.sl,I.nd,λa ha=>(by rw[h] at ha;exact absurd ha fE),λp hp=>absurd hp fE,I.ox,λb o e _=>e,I.jG⟩
def SG.of(hZ:Z=⟨H,[],M.Ox⟩){ρ':En}{σ':St}(d:SD K M s H)(I:au K Z tm O ρ' σ' H')(hv:hU ρ'=true):SG K M tm ρ' s σ' H':=by subst hZ;exact⟨⟨O,um I hv,I.now (um I hv)⟩,d.same λb o e=>I.keep b o e (λz=>absurd z fE)⟩
noncomputable def mZ(M:MG)(s:S2):Option (T×Bool)->Option (T×Bool)
 |some (.ob x,false)=>if x=M.a1 then some (.dt s.k1 s.t1,false) else if x=M.a2 then some (.dt s.k2 s.t2,false) else if x=M.a/\M.hb=true then some (.ins M.C fN [.pin M.a1 (.dt s.k1 s.t1),.pin M.a2 (.dt s.k2 s.t2)],false) else some (.ob x,false)
 |e=>e
def Z1(M:MG)(s:S2)(z:M.hb=true):mZ M s (some (.ob M.a,false))=some (.ins M.C fN [.pin M.a1 (.dt s.k1 s.t1),.pin M.a2 (.dt s.k2 s.t2)],false):=by show (if M.a=M.a1 then _ else _)=_;rw[η M.n1,η M.n2,ι ⟨rfl,z⟩]
def Z2(M:MG)(s:S2):mZ M s (some (.ob M.a1,false))=some (.dt s.k1 s.t1,false):=by show (if M.a1=M.a1 then _ else _)=_;rw[ι rfl]
noncomputable def ig(b:Option T):Option (T×Bool):=b.map λt=>(t,false)
def iH:hU []=true:=rfl
def pf(b:Option T)(ρ:En):hU (ig b::ρ)=hU ρ:=by cases b<;>rfl
def ph(t:T)(ρ:En):hU (some (t,false)::ρ)=hU ρ:=rfl
def Qz.at{A:Ω}{a:Addr}{ts:Ψ}(h:Qz K H A a ks ts):At K H [] (.dt ks ts) (.ref a):=by obtain⟨vs,l,e,q⟩:=h;exact⟨a,vs,rfl,l,⟨e,λz=>nomatch z⟩,q.bj λb hb=>nomatch hb⟩
def SD.at(h:SD K M s H)(z:M.hb=true):At K H [] (.ins M.C fN [.pin M.a1 (.dt s.k1 s.t1),.pin M.a2 (.dt s.k2 s.t2)]) (.ref M.a):=by refine⟨M.a,M.dx,[.ref M.a1,.ref M.a2],rfl,rfl,⟨h.ins z,λz=>nomatch z⟩,az.cons ?_ (az.cons ?_ az.nil)⟩;unfold At;exact⟨rfl,h.d1.at⟩;unfold At;exact⟨rfl,h.d2.at⟩
def SG.up(g:SG K M tm ρ s σ H):∃O,roots O=[]/\au K ⟨H,[],[]⟩ tm O (ρ.map (mZ M s)) σ H:=by
 obtain⟨O,hr,I⟩:=g.env;refine⟨O,hr,⟨by rw[bX];exact I.lσ,by rw[bX];exact I.lO,λi e he=>?_,I.nd,λa ha=>(by rw[hr] at ha;exact absurd ha fE),λp hp=>absurd hp fE,λa ha=>absurd ha fE,λb o e _=>e,λp hp=>?_⟩⟩;have e0:av ⟨H,[],[]⟩ O=[]:=d5 hr;rw[fD] at he;cases q:ρ[i]? with
 |none=>rw[q] at he;cases he
 |some e1=>
  rw[q] at he;cases he;obtain⟨o,sv,h1,h2,h3⟩:=I.sl i e1 q;refine⟨o,sv,h1,h2,?_⟩;rw[e0];have plain:iq K H [] e1 o sv:=by refine h3.map (λt v z=>z.bj λb hb=>nomatch hb) λa t eo _=>?_;subst eo;have:=aF.mpr (f_ h1);rw[hr] at this;exact nomatch this
  match e1,h3,plain with
  |some (.ob x,false),⟨eo,v,es,Z3⟩,plain=>subst Z3;show iq K H [] (if x=M.a1 then _ else _) o sv;by_cases c1:x=M.a1;rw[ι c1];subst c1;exact⟨eo,_,es,g.sd.d1.at⟩;rw[η c1];by_cases c2:x=M.a2;rw[ι c2];subst c2;exact⟨eo,_,es,g.sd.d2.at⟩;rw[η c2];by_cases c3:x=M.a/\M.hb=true;rw[ι c3];obtain⟨rfl,c4⟩:=c3;exact⟨eo,_,es,g.sd.at c4⟩;rw[η c3];exact plain
  |none,_,plain=>exact plain
  |some (t,true),_,plain=>
   have:mZ M s (some (t,true))=some (t,true):=by cases t<;>rfl
   rw[this];exact plain
  |some (.bB,false),_,plain=>exact plain
  |some (.bl _,false),_,plain=>exact plain
  |some (.int _,false),_,plain=>exact plain
  |some (.str _,false),_,plain=>exact plain
  |some (.tup _,false),_,plain=>exact plain
  |some (.lst _,false),_,plain=>exact plain
  |some (.dk _ _,false),_,plain=>exact plain
  |some (.dt _ _,false),_,plain=>exact plain
  |some (.df _ _ _,false),_,plain=>exact plain
  |some (.kt _,false),_,plain=>exact plain
  |some (.ins _ _ _,false),_,plain=>exact plain
  |some (.pin _ _,false),_,plain=>exact plain
  |some (.ty _,false),_,plain=>exact plain
 rw[d5 hr];exact (I.jG p hp).bj λb hb=>nomatch hb
end
structure DO where
 nx:En->S2->Prop
 rt:S2->T->Prop
 bk:En->S2->Prop:=λ_ _=>False
 ct:En->S2->Prop:=λ_ _=>False
structure Ge(K:zm)(M:MG)(tm:qab)(d:DO)(D:Ends):Prop where
 nx:∀ρ s σ H,SG K M tm ρ s σ H->d.nx ρ s->D.nx σ H
 rt:∀s H t v,SD K M s H->At K H M.Ox t v->d.rt s t->D.rt v H
 bk:∀ρ s σ H,SG K M tm ρ s σ H->d.bk ρ s->D.bk σ H
 ct:∀ρ s σ H,SG K M tm ρ s σ H->d.ct ρ s->D.ct σ H
abbrev jY:=DO->En->S2->Prop
def Sh(X:Cx)(M:MG)(tm:qab)(g:jY):TS:=λD σ H=>∃ρ s d,SG X.K M tm ρ s σ H/\g d ρ s/\Ge X.K M tm d D
def GS(X:Cx)(M:MG)(st:Stmt)(g:jY):Prop:=Bx λtm=>PS X st (Sh X M tm g)
def DP(X:Cx)(M:MG)(st:qaq)(g:jY):Prop:=Bx λtm=>iP X st (Sh X M tm g)
section
variable{X:Cx}{M:MG}{st:Stmt}{g u:jY}{pos:Pos}
def Vs:jY:=λd ρ s=>d.nx ρ s
def Vt(g u:jY):jY:=λd ρ s=>g {d with nx:=u d} ρ s
def Lc:DP X M [] Vs:=.mk λtm=>iP.jn sA λD σ H ⟨ρ,s,d,I,h,F⟩=>F.nx ρ s σ H I h
def d6(h1:GS X M st g)(h2:DP X M rest u):DP X M (st::rest) (Vt g u):=.mk λtm=>iP.jn (dh (h1.h tm) (h2.h tm)) λD σ H ⟨ρ,s,d,I,h,F⟩ =>
 ⟨ρ,s,{d with nx:=u d},I,h,⟨λρ' s' σ' H' I' h'=>⟨ρ',s',d,I',h',F⟩,F.rt,F.bk,F.ct⟩⟩
def fM(h1:GS X M st g):DP X M [st] g:=.mk λtm=>j5 (h1.h tm)
def Vu(d:DO)(s:S2):M7:={nx:=λρ'=>hU ρ'=true/\d.nx ρ' s,rt:=λρ' r=>hU ρ'=true/\d.rt s r.t,bk:=λρ'=>hU ρ'=true/\d.bk ρ' s,ct:=λρ'=>hU ρ'=true/\d.ct ρ' s}
def wPl(g:FS):jY:=λd ρ s=>g (Vu d s) ρ
def Vv{tm:qab}{d:DO}{D:Ends}{s:S2}(F:Ge K M tm d D)(sd:SD K M s H):Fin K ⟨H,[],M.Ox⟩ tm (Vu d s) D :=
 ⟨λO ρ σ H' I h=>F.nx ρ s σ H' (SG.of rfl sd I h.1) h.2,λO ρ σ H' r v z h=>by have I:=z.env;have hr:=um I h.1;have a:=z.at;rw[d5 hr] at a;exact F.rt s H' r.t v (sd.same λb o e=>I.keep b o e (λq=>absurd q fE)) a h.2,λO ρ σ H' I h=>F.bk ρ s σ H' (SG.of rfl sd I h.1) h.2,λO ρ σ H' I h=>F.ct ρ s σ H' (SG.of rfl sd I h.1) h.2⟩
def gq{g:FS}(h:∀H0 Ox,VS X ⟨H0,[],Ox⟩ st g):GS X M st (wPl g):=.mk λtm ε s' σ H D J ⟨ρ,s,d,S,hg,F⟩=>by obtain⟨O,hr,I⟩:=S.env;exact h H M.Ox tm ε s' σ H D J ⟨ρ,O,_,I,hg,Vv F S.sd⟩
def Z4(c:FB)(g u:jY):jY:=λd ρ s=>c ρ λb=>if b=true then g d ρ s else u d ρ s
def SG.dJ{tm:qab}{s:S2}(S:SG K M tm ρ s σ H)(sm:aL H H'):SG K M tm ρ s σ H':=by obtain⟨O,hr,I⟩:=S.env;exact⟨⟨O,hr,(I.same sm).now hr⟩,S.sd.same sm⟩
theorem Vw{a b:qaq}(hc:∀H0 Ox,VC X ⟨H0,[],Ox⟩ c fc)(ha:DP X M a g)(hb:DP X M b u):GS X M (.If c a b pos) (Z4 fc g u):=.mk λtm ε s' σ H D J ⟨ρ,s,d,S,hg,F⟩=>by
 obtain⟨O,hr,I⟩:=S.env;refine D8 (hc H M.Ox tm) (ha.h tm) (hb.h tm) ε s' σ H D J ⟨ρ,O,_,I,hg,λb hb H' sm=>?_⟩;cases b with
 |true=>rw[ι rfl] at hb ⊢;exact⟨ρ,s,d,S.dJ sm,hb,F⟩
 |false=>rw[η ja] at hb ⊢;exact⟨ρ,s,d,S.dJ sm,hb,F⟩
def kP(t:T):Prop:=(∃n,t=.int n)\/∃b,t=.bl b
noncomputable def Gf(M:MG)(i:Nat)(f:FE):jY:=λd ρ s=>f (ρ.map (mZ M s)) λt=>kP t/\d.nx (ρ.set i (some (t,false))) s
def pA{A A':Ω}{t:T}(h:kP t)(a:At K H A t v):At K H' A' t v:=by
 obtain⟨n,rfl⟩|⟨b,rfl⟩:=h
 simp only[At] at a ⊢;exact a;simp only[At] at a ⊢;exact a
def Gh{f:FE}(hN:X.N.Nodup)(hi:X.N[i]?=some x)(hx:Loc X.env.scope x)(he:∀H0 Ox,VE X ⟨H0,[],Ox⟩ e f)(hs:swapsWith e (some (.Name x pos')) pos.line X.env=pure false:=by rfl)(hf:X.fn x=true\/X.env.scope.names.lookup x=some .local:=by first|exact .inl rfl|exact .inr rfl|assumption):GS X M (.Assign [.Name x pos'] e pos) (Gf M i f):=.mk λtm ε s' σ H D J ⟨ρ,s,d,S,hg,F⟩=>by
 obtain⟨O2,DQ,I2⟩:=S.up;refine n_ hN hi hx (he H [] tm) hs hf ε s' σ H D J ⟨_,O2,_,I2,hg,λt ht v H' sm a=>?_⟩;have S':=S.dJ sm;obtain⟨O3,hr3,I3⟩:=S'.env;refine F.nx _ s _ H' ⟨⟨O3.set i none,?_,?_⟩,S'.sd⟩ ht.2;cases q:roots (O3.set i none) with
 |nil=>rfl
 |cons b l=>have:=bR i b (by rw[q];exact fB);rw[hr3] at this;exact absurd this fE
 exact I3.put (λp hp=>absurd hp fE) (pA ht.1 a)
noncomputable def S2.zo(s:S2)(k:List Key)(t:T):S2:={s with k1:=F5 s.k1 k,t1:=A0 s.k1 s.t1 k t}
noncomputable def Nx(M:MG)(n m:Nat)(f:FE):jY:=λd ρ s=>f (ρ.map (mZ M s)) λt=>kP t/\ρ[n]?=some (some (.ob M.a1,false))/\s.t1.length<16777216/\∃k,ρ[m]?=some (some (.kt k,false))/\d.nx ρ (s.zo k t)
theorem rM{tm:qab}{s:S2}{H1:Hp}{A:Ω}{D:Ends}{d:DO}{t:T}{k:List Key}(S1:SG X.K M tm ρ s σ H1)(F:Ge X.K M tm d D)(IJ:kP t)(a:At X.K H' A t v)(hn:ρ[n]?=some (some (.ob M.a1,false)))(hlen:s.t1.length<16777216)(hk:ρ[m]?=some (some (.kt k,false)))(hq:d.nx ρ (s.zo k t)) :
  D5 n σ H1 λx H2=>D5 m σ H2 λy H3=>∃a H4,x=.ref a/\wV H3 a y v H4/\D.nx σ H4:=by
 obtain⟨O1,A4,I1⟩:=S1.env;obtain⟨_,_,_,z1,_,v1,rfl,b1⟩:=I1.sl n _ hn;obtain⟨_,_,_,z2,_,v2,rfl,b2⟩:=I1.sl m _ hk;subst b1;obtain⟨b,rfl,hb,_⟩:=b2;obtain⟨vs,hl,h1,h2⟩:=S1.sd.d1;have hz:(s.k1.zip vs).length<sizeLine:=by
  rw[ς,DY,hl,My,h2.length]
  lia
 have pq:=Nv s.k1 vs k v hl;refine⟨.ref M.a1,z1,.ref b,z2,M.a1,_,rfl,wV.t h1 hb hz,?_⟩;rw[pq.1];have Ld:=M.m1;have wr:∀{t:T}{v':V},At X.K H1 M.Ox t v'->At X.K (upd H1 M.a1 (.dT ((F5 s.k1 k).zip (A0 s.k1 vs k v)))) M.Ox t v':=λq=>At.wrote Ld h1 rfl q;have Vx:∀{t:Ψ}{v':qak},az X.K H1 M.Ox t v'->az X.K (upd H1 M.a1 (.dT ((F5 s.k1 k).zip (A0 s.k1 vs k v)))) M.Ox t v':=λq=>az.wrote Ld h1 rfl q;have na:=M.n1;refine F.nx ρ (s.zo k t) σ _ ⟨⟨O1,A4,I1.lσ,I1.lO,λi e he=>?_,I1.nd,λb hb=>(by rw[A4] at hb;exact absurd hb fE),λp hp=>absurd hp fE,λb hb=>?_,λb o e _=>e,λp hp=>?_⟩,?_,?_,?_,λb o e n=>(by rw[ar (λz=>n (by rw[z];exact Ld))];exact S1.sd.fr b o e n)⟩ hq;obtain⟨o,sv,g1,g2,g3⟩:=I1.sl i e he;refine⟨o,sv,g1,g2,?_⟩;rw[d5 A4] at g3 ⊢;refine g3.map (λt v z=>wr z) λb t' eo _=>?_;subst eo;have:=aF.mpr (f_ g1);rw[A4] at this;exact absurd this fE;by_cases e:b=M.a1;rw[e,aA];simp;rw[ar e];obtain⟨u,eu,_⟩:=S1.sd.here b hb;rw[eu];simp;have:=I1.jG p hp;rw[d5 A4] at this ⊢;exact wr this;exact λz=>by rw[ar na];exact S1.sd.ins z
 exact⟨_,pq.2,aA,Vx (F8 h2 (pA IJ a))⟩;obtain⟨jw,l2,e2,q2⟩:=S1.sd.d2;exact⟨jw,l2,by rw[ar (Ne.symm M.n3)];exact e2,Vx q2⟩
def Lf(n m:Nat){f:FE}(hu:X.A.units+1<cLine)(he:∀H0 Ox,VE X ⟨H0,[],Ox⟩ e f)(hN:X.N[n]?=some x:=by rfl)(hv:mP X.env.scope x:=by first|exact Or.inl rfl|exact Or.inr (.inl rfl)|exact Or.inr (.inr rfl))(hd:f7 x:=by decide)(fO:qd x:=by decide)(IK:X.N[m]?=some y:=by rfl)(Ny:mP X.env.scope y:=by first|exact Or.inl rfl|exact Or.inr (.inl rfl)|exact Or.inr (.inr rfl))(hd2:f7 y:=by decide)(qL:qd y:=by decide)(hs:swapsWith e (some (.Subscript (.Name x p) (.Name y p2) d9)) pos.line X.env=pure false:=by rfl):GS X M (.Assign [.Subscript (.Name x p) (.Name y p2) d9] e pos) (Nx M n m f):=.mk λtm ε s' σ H D J ⟨ρ,s,d,S,hg,F⟩=>by obtain⟨O2,DQ,I2⟩:=S.up;refine t7 hu (bY hN hv hd fO) (bY IK Ny hd2 qL) (he H [] tm) hs ε s' σ H D J ⟨_,O2,_,I2,hg,λt ht v H1 sm a=>?_⟩;obtain⟨IJ,hn,hlen,k,hk,hq⟩:=ht;exact rM (S.dJ sm) F IJ a hn hlen hk hq
def A5(ts:Ψ)(h:FG)(g:jY):jY:=λd ρ s=>∃Pv:Nat->En->S2->Prop,Pv 0 ρ s/\(∀(i:Nat) t ρ' s',ts[i]?=some t->Pv i ρ' s'->h t ρ' λρ2=>hU ρ2=true/\g {nx:=Pv (i+1),ct:=Pv (i+1),bk:=d.nx,rt:=d.rt} ρ2 s')/\∀ρ' s',Pv ts.length ρ' s'->d.nx ρ' s'
theorem mi{h:FG}{tm a_:qab}{s:S2}{d:DO}{D:Ends}{ts:Ψ}{J:It}(hK:X.K=K)(S:SG K M (a_++tm) ρ s σ H)(wk:Wk K J a_ ts)(F:Ge K M tm d D)(hl:A5 ts h g d ρ s) :
  ∃W:Nat->Nat->St->Hp->Prop,(∃m,W 0 m σ H)/\∀i m σ H,W i m σ H->(J.stop i H/\D.nx σ H)\/(J.go i H/\∃N:St->Hp->Prop,(∀σ' H',N σ' H'->∃m',m'<m/\W (i+1) m' σ' H') /\
   ∀x H',J.RW i H x H'->(∃a_ H0,lG X ⟨H0,[],M.Ox⟩ (a_++tm) is h x σ H' λσ2 H2=>(∃a_,Sh X M (a_++tm) g {D with nx:=N,ct:=N,bk:=D.nx} σ2 H2))):=by
 subst hK;obtain⟨Pv,p0,step,fin⟩:=hl;have un:∀{ρ:En}{s:S2}{σ:St}{H:Hp},SG X.K M (a_++tm) ρ s σ H->SG X.K M tm ρ s σ H:=λ⟨⟨O,hr,I⟩,sd⟩=>⟨⟨O,hr,I.qu λp hp=>I.jG p (iN _ hp)⟩,sd⟩;refine⟨λi m σ H=>m=ts.length-i/\i<=ts.length/\∃ρ s,SG X.K M (a_++tm) ρ s σ H/\Pv i ρ s,⟨ts.length,by simp,h_ _,ρ,s,S,p0⟩,?_⟩;rintro i m σ1 H1 ⟨rfl,hi,ρ1,s1,S1,p1⟩;obtain⟨O1,A4,I1⟩:=S1.env;obtain⟨w1,w2,w3⟩:=wk H1 M.Ox (λa ha=>by obtain⟨u,e,_⟩:=S1.sd.here a ha;rw[e];simp) (λp hp=>by have:=I1.jG p (hX _ hp);rw[d5 A4] at this;exact this) i;by_cases d_:i<ts.length;refine .inr ⟨w1 d_,λσ' H'=>∃ρ s,SG X.K M (a_++tm) ρ s σ' H'/\Pv (i+1) ρ s,λσ' H' ⟨ρ',s',S',p'⟩=>⟨ts.length-(i+1),by lia,rfl,d_,ρ',s',S',p'⟩,λx H2 y=>?_⟩;have e:ts[i]?=some ts[i]:=by simp[d_]
 obtain⟨s2,a2⟩:=w3 ts[i] e x H2 y;have S2':=S1.dJ s2;obtain⟨O2,DQ,I2⟩:=S2'.env;exact⟨a_,H2,ρ1,O2,ts[i],_,I2,by rw[d5 DQ];exact a2,step i _ ρ1 s1 e p1,λρ2 h2 O3 σ3 I3 _ _ _ _=>⟨a_,ρ2,s1,_,SG.of rfl S2'.sd I3 h2.1,h2.2,⟨λρ s σ H I p=>⟨ρ,s,I,p⟩,λs H t v sd a p=>F.rt s H t v sd a p,λρ s σ H I p=>F.nx ρ s σ H (un I) p,λρ s σ H I p=>⟨ρ,s,I,p⟩⟩⟩⟩;have e:i=ts.length:=by lia
 subst e;exact .inl ⟨w2 rfl,F.nx ρ1 s1 σ1 H1 (un S1) (fin ρ1 s1 p1)⟩
def Z5(f:FI)(h:FG)(g:jY):jY:=λd ρ s=>f ρ λts=>A5 ts h g d ρ s
def SG.temps{tm a_:qab}{s:S2}(S:SG K M tm ρ s σ H)(h:∀p∈a_,At K H M.Ox p.1 p.2):SG K M (a_++tm) ρ s σ H:=by
 obtain⟨O,hr,I⟩:=S.env;refine⟨⟨O,hr,I.qu λp hp=>?_⟩,S.sd⟩;rcases gx.mp hp with z|z
 rw[d5 hr];exact h p z;exact I.jG p z
def Gi{tg:Expr}{f:FI}{h:FG}(hp:PassesOwn (model X.prog X.w) X.A X.env X.xe)(hc:X.calm=true)(hi:∀H0 Ox,VI X ⟨H0,[],Ox⟩ tg iter f)(hg:∀H0 Ox,VG X ⟨H0,[],Ox⟩ tg is h)(hb:DP X M body g)(hs:∀x,foldedSetIterable iter X.env x=pure x:=by intro _;rfl):GS X M (.For tg iter body [] pos) (Z5 f h g):=by refine .mk λtm ε s' σ H D J ⟨ρ,s,d,S,hq,F⟩=>?_;obtain⟨O,hr,I⟩:=S.env;refine sD (g:=λv σ H Q=>∃a_ H0,lG X ⟨H0,[],M.Ox⟩ (a_++tm) is h v σ H Q) (tb:=λD σ H=>∃a_,Sh X M (a_++tm) g D σ H) hp hc (hi H M.Ox tm) (λε s σ H v u Q I r ⟨a_,H0,z⟩=>hg H0 M.Ox (a_++tm) ε s σ H v u Q I r z) (λε s σ H D I ⟨a_,z⟩=>hb.h (a_++tm) ε s σ H D I z) hs ε s' σ H D J ⟨ρ,O,_,I,hq,λts f9 J' H' a_ sm a wk=>?_⟩;rw[d5 hr] at a;exact mi rfl ((S.dJ sm).temps a) wk F f9
noncomputable def Z6:T->Option T
 |.tup [.pin a _,.kt k,.int w]=>some (.tup [.ob a,.kt k,.int w])
 |.kt k=>some (.kt k)
 |_=>none
noncomputable def C0:Ψ->Option (Ψ)
 |[]=>some []
 |t::ts=>match Z6 t,C0 ts with
  |some u,some us=>some (u::us)
  |_,_=>none
def QA{A:Ω}{t u:T}(hA:∀b∈A,∃o,H b=some o/\m9 o=true)(e:Z6 t=some u)(a:At K H [] t v):At K H A u v:=by
 unfold Z6 at e;split at e
 rename_i a' t' k w
 cases e;obtain⟨b,us,rfl,h2,h3⟩:=gi.tup (.inl a);obtain⟨_,_,rfl,⟨rfl,_⟩,_,_,rfl,⟨kb,rfl,hk⟩,_,_,rfl,rfl,rfl⟩:=h3;refine cY h2 (az.cons (by simp only[At]) (az.cons ⟨kb,rfl,hk.1,λz=>?_⟩ (az.cons bE az.nil)));obtain⟨o,eo,mo⟩:=hA kb z;rw[hk.1] at eo;cases eo;cases mo
 rename_i k
 cases e;obtain⟨kb,rfl,hk⟩:=a;refine⟨kb,rfl,hk.1,λz=>?_⟩;obtain⟨o,eo,mo⟩:=hA kb z;rw[hk.1] at eo;cases eo;cases mo;cases e
theorem A6{K:zm}{H:Hp}{A:Ω}(hA:∀b∈A,∃o,H b=some o/\m9 o=true):∀{ts us:Ψ}{vs:qak},C0 ts=some us->az K H [] ts vs->az K H A us vs
 |[],us,vs,e,a=>by cases e;exact a
 |t::ts,us,vs,e,a=>by
  simp only[C0] at e;split at e
  rename_i u Np e1 e2
  cases e;obtain⟨v,r,rfl,h1,h2⟩:=a;exact az.cons (QA hA e1 h1) (A6 hA e2 h2);cases e
noncomputable def Gj(M:MG)(f:FE)(h:FG)(g:jY):jY:=λd ρ s=>f (ρ.map (mZ M s)) λt=>match t with
 |.lst us=>∃ts,C0 us=some ts/\A5 ts h g d ρ s
 |_=>False
def Lg{tg:Expr}{f:FE}{h:FG}(hp:PassesOwn (model X.prog X.w) X.A X.env X.xe)(hc:X.calm=true)(hi:∀H0 Ox,VE X ⟨H0,[],Ox⟩ iter f)(hg:∀H0 Ox,VG X ⟨H0,[],Ox⟩ tg is h)(hb:DP X M body g)(hs:∀x,foldedSetIterable iter X.env x=pure x:=by intro _;rfl):GS X M (.For tg iter body [] pos) (Gj M f h g):=by
 refine .mk λtm ε s' σ H D J ⟨ρ,s,d,S,hq,F⟩=>?_;obtain⟨O2,DQ,I2⟩:=S.up;refine sD (g:=λv σ H Q=>∃a_ H0,lG X ⟨H0,[],M.Ox⟩ (a_++tm) is h v σ H Q) (tb:=λD σ H=>∃a_,Sh X M (a_++tm) g D σ H) hp hc (yN (hi H [] tm)) (λε s σ H v u Q I r ⟨a_,H0,z⟩=>hg H0 M.Ox (a_++tm) ε s σ H v u Q I r z) (λε s σ H D I ⟨a_,z⟩=>hb.h (a_++tm) ε s σ H D I z) hs ε s' σ H D J ⟨_,O2,_,I2,hq,λt ht v H' sm a=>?_⟩;split at ht
 rename_i us
 obtain⟨ts,et,hl⟩:=ht;rw[d5 DQ] at a;obtain⟨l,vs,rfl,XG,hv⟩:=a;have S':=S.dJ sm;have at':At X.K H' M.Ox (.lst ts) (.ref l):=by
  refine⟨l,vs,rfl,?_,A6 S'.sd.here et hv⟩;obtain z|z:=XG
  refine .inl ⟨z.1,λm=>?_⟩;obtain⟨o,eo,mo⟩:=S'.sd.here l m;obtain q|⟨o',q⟩:=z.1
  rw[eo] at q;cases q;obtain⟨_,_,e1,_⟩:=S'.sd.d1;obtain⟨_,_,e2,_⟩:=S'.sd.d2;rcases M.mem m with⟨zb,rfl⟩|rfl|rfl
  rw[S'.sd.ins zb] at eo;cases eo;rw[e1] at eo;cases eo;rw[e2] at eo;cases eo;rw[eo] at q;cases q;cases mo;exact .inr z
 exact .inl ⟨l,rfl,⟨vs,XG.sq⟩,mi rfl (S'.temps λp hp=>by rw[hY.mp hp];exact at') sV F hl⟩;exact ht.elim
end
section
variable{X:Cx}{a b:Expr}{fc:FE}{pos:Pos}
noncomputable def Nz(g:FA):FP:=λρ Q=>g ρ λys=>match rL ys with
 |some k=>ys.length<=sizeLine/\Q (.vw (.kt k))
 |none=>False
def cy{x1}(h:VA X Z es g):VP X Z (.Tuple es x1 pos) (Nz g):=.mk λtm=>PE.weak (lz (h tm)) λσ H Q ⟨ρ,O,q,I,hf,k⟩=>⟨ρ,O,_,I,hf,λys hy vs H1 s1 a1=>by
 split at hy
 rename_i kk ek
 refine⟨by rw[a1.length];exact hy.1,λp hp=>?_⟩;have s2:aL H1 (upd H1 p (.tup vs)):=aG hp;exact k _ hy.2 _ _ (s1.trans s2) ⟨(I.same s1).same s2,⟨p,rfl,by rw[<- kN a1 ek];exact aA,λz=>(I.same s1).JK p z hp⟩⟩;exact hy.elim⟩
noncomputable def Lh:T->Option (List (List Key)×Ψ)
 |.dt ks ts=>some (ks,ts)
 |.pin _ (.dt ks ts)=>some (ks,ts)
 |.df _ ks ts=>some (ks,ts)
 |_=>none
def XH(H:Hp)(a:Addr)(u:List (List Key×V)):Prop:=H a=some (.dT u)\/∃o,H a=some (.fF o (.dT u))
def XH.same{a:Addr}{u:List (List Key×V)}(h:XH H a u)(sm:aL H H'):XH H' a u:=h.elim (λz=>.inl (sm _ _ z)) λ⟨o,z⟩=>.inr ⟨o,sm _ _ z⟩
def A7{A:Ω}{t:T}{ts:Ψ}(h:gi K H A t v)(e:Lh t=some (ks,ts)):∃a vs,v=.ref a/\ks.length=vs.length/\XH H a (ks.zip vs)/\az K H A ts vs:=by
 unfold Lh at e;split at e;cases e;obtain⟨a,vs,h1,h2,h3,h4⟩:=h.dt;exact⟨a,vs,h1,h2,.inl h3,h4⟩;cases e;obtain h|⟨_,_,r⟩:=h
 simp only[At] at h;obtain⟨_,h⟩:=h;obtain⟨a,vs,h1,h2,h3,h4⟩:=gi.dt (.inl (by simp only[At];exact h));exact⟨a,vs,h1,h2,.inl h3,h4⟩;exact r.elim;cases e;obtain⟨a,vs,h1,h2,h3,h4⟩:=h.df;exact⟨a,vs,h1,h2,.inr ⟨_,h3⟩,h4⟩;cases e
noncomputable def zt(fa fb fc:FE):FP:=λρ Q=>fa ρ λx=>match Lh x with
 |some (ks,ts)=>fb ρ λy=>fc ρ λz=>match y with
  |.kt k=>Q (.vw ((cb ks ts k).getD z))
  |_=>False
 |none=>False
def fj(hu:X.A.units+1<cLine)(ha:VR X Z a fa)(hb:VE X Z b fb)(hc:VE X Z c fc)(m:M2 X a "get" apos b c bG):VP X Z (.Call (.Attribute a "get" apos) [b,c] [] bG) (zt fa fb fc):=.mk λtm=>PE.weak (wX hu (ha tm) (hb tm) (hc tm) m) λσ H Q ⟨ρ,O,q,I,hf,k⟩ =>
 ⟨ρ,O,_,I,hf,λx hx v H1 s1 a1=>by
  split at hx
  rename_i ks ts ed
  obtain⟨l,vs,rfl,hl,hd,hv⟩:=A7 a1 ed;refine⟨l,rfl,.inr ⟨_,hd⟩,ρ,O,_,I.same s1,hx,λy hy w H2 s2 a2=>⟨ρ,O,_,(I.same s1).same s2,hy,λz hz u H3 s3 a3=>?_⟩⟩;split at hz
  rename_i kk
  obtain⟨b,rfl,hb,_⟩:=a2;refine⟨_,.inr ⟨_,kk,b,(hd.same s2).same s3,rfl,s3 _ _ hb,rfl⟩,?_⟩;rw[gp];exact k _ hz _ H3 ((s1.trans s2).trans s3) ⟨((I.same s1).same s2).same s3,A3 ((hv.same s2).same s3) a3⟩;exact hz.elim;exact hx.elim⟩
noncomputable def Gk(fa fb:FE):FP:=λρ Q=>fa ρ λx=>fb ρ λy=>match Lh x,y with
 |some (ks,ts),.kt k=>∃t,cb ks ts k=some t/\Q (.vw t)
 |_,_=>False
def Lj(hu:X.A.units+1<cLine)(ha:VR X Z a fa)(hb:VE X Z b fb)(hs:CI b:=by intro _ _;rfl):VP X Z (.Subscript a b pos) (Gk fa fb):=.mk λtm=>PE.weak (nS hu (ha tm) (hb tm) hs) λσ H Q ⟨ρ,O,q,I,hf,k⟩ =>
 ⟨ρ,O,_,I,hf,λx hx v H1 s1 a1=>⟨ρ,O,_,I.same s1,hx,λy hy w H2 s2 a2=>by
  split at hy
  rename_i ks ts kk ed
  obtain⟨t,e1,hq⟩:=hy;obtain⟨l,vs,rfl,hl,hd,hv⟩:=A7 (a1.same s2) ed;obtain⟨u,e2,e3⟩:=(i5 hv).1 t e1;obtain⟨b,rfl,hb,_⟩:=a2;exact⟨l,u,rfl,.inr ⟨_,kk,b,hd,rfl,hb,by rw[gp,e2]⟩,k _ hq _ H2 (s1.trans s2) ⟨(I.same s1).same s2,e3⟩⟩;exact hy.elim⟩⟩
end
noncomputable def XI(K:zm)(C:Addr)(G:T->S2->(S2->T->Prop)->Prop):Sp:=λvs H Q _=>∃(M:MG)(s:S2)(l:T)(v0:V)(q:S2->T->Prop),(M.C=C/\M.hb=true)/\vs=[v0,.ref M.a]/\At K H M.Ox l v0/\SD K {M with H0:=H} s H/\G l s q /\
 ∀s' t,q s' t->∀v H',SD K {M with H0:=H} s' H'->At K H' M.Ox t v->Q v H'
section
def fnG{st:Stmt}{N:ω}{k:Nat}{G:T->S2->(S2->T->Prop)->Prop}(F:B5 K x qual st f fd)(S:aJ N ps (aq st))(hn:2=ps.length)(hN:2<=N.length)(eQ:∀(bP:Value) (A:Around) (outer:List Env) (s:Shared) (H:Hp) (E:XK) (M:MG),M.C=C->M.hb=true->bA k (A.deeper (envOfC qual (aq st) s.heap.objs.size f bP))->∀l s0 q,G l s0 q ->
    ∃g,DP (jD iR P w K mg base N qual (aq st) f bP A outer s H E).BM M (b_ st) g/\g {nx:=λ_ _=>False,rt:=q} (some (l,false)::some (.ob M.a,false)::List.replicate (N.length-2) none) s0) :
  dA P w K mg base iR (k+1) f fd ps (XI K C G):=by
 refine F.ok S (λvs H Q E h=>?_) (λbP A outer s H vs Q E hr h=>?_);obtain⟨M,s,l,v0,q,_,rfl,_⟩:=h;exact hn;obtain⟨M,s0,l,v0,q,⟨hC,hB⟩,rfl,a0,sd,hG,kk⟩:=h;obtain⟨g,hg,hq⟩:=eQ bP A outer s H E {M with H0:=H} hC hB hr l s0 q hG;refine⟨_,hg.h [],_,s0,_,⟨⟨List.replicate N.length none,e_ _,?_⟩,sd⟩,hq,⟨λ_ _ _ _ _ z=>z.elim,λs' H' t v sd' a z=>kk s' t z v H' sd' a,λ_ _ _ _ _ z=>z.elim,λ_ _ _ _ _ z=>z.elim⟩⟩;have:=mf (ts:=[l,.ob M.a]) (vs:=[v0,.ref M.a]) (by simpa using hN) (λb hb=>by obtain⟨u,e,_⟩:=sd.here b hb;rw[e];simp) (az.cons a0 (az.cons (by simp only[At]) az.nil));exact this
end
end VT
variable{M:VT.MG}
namespace TS
open PySem PyProof.Rows
section
def Gm{vs:qag}{xs:Array Keyed}(hp:xs.Perm (pairsOf vs)):(xs.map (·.2)).toList.Perm vs:=by
 have h:=(Ss.mp hp).map (λp:Keyed=>p.2);rw[pairsOf_toList] at h;rw[Array.toList_map];refine h.trans ?_;have:∀l:qag,(l.zip l).map (λp:Keyed=>p.2)=l:=λl=>by
  induction l with
  |nil=>rfl
  |cons x l ih=>rw[N4,jk,ih]
 rw[this]
end
section
def uo(b:Bool)(x y:Value):keyLt' (tuples' b) x y=(do
 let xs <- Builtin.List.listItems x
 let ys <- Builtin.List.listItems y
 for ((p,q),i) in (xs.toList.zip ys.toList).zipIdx do
  if !(<- eqBool p q) then return <- oneLt' (b && i==0) p q
 return decide (xs.size<ys.size)):=rfl
def TupAt(h:Heap)(v:Value)(aT:Array Value):Prop:=∃a o n,v=.ref a/\h.get? a=some o/\o.cls=.type "tuple"/\o.data=.seq aT n
theorem uq{α β:Type}{f:α->Sem β}{g:α->β}:∀(l:List α)(Q:List β->Shared->Prop),(∀v∈l,∀R:β->Shared->Prop,R (g v) s->wpAny (model prog w) A (f v) R E s)->Q (l.map g) s->wpAny (model prog w) A (l.mapM f) Q E s
 |[],Q,_,hq=>by rw[List.mapM_nil];exact θ hq
 |v::l,Q,h,hq=>by rw[List.mapM_cons];refine ζ (h v (by simp) _ ?_);refine ζ (uq l _ (λv hv=>h v (gz _ hv)) ?_);exact θ hq
def Gn(v:Value):firstOfTuple' v=(do
 if (<- typeOf v) != .type "tuple" then return none
 return (<- Builtin.List.listItems v)[0]?):=rfl
theorem Gp{vs:qag}(gf:vs≠[])(ht:∀v∈vs,∃aT i t,TupAt s.heap v aT/\aT[0]?=some (.int i t)){Q:SortKind->Shared->Prop}(hq:Q (tuples' true) s) :
  wpAny (model prog w) A (keyKind' vs.toArray) Q E s:=by
 have pick:∃g:Value->Option Value,∀v∈vs,∃i t,g v=some (.int i t)/\∀R:(Option Value)->Shared->Prop,R (g v) s->wpAny (model prog w) A (firstOfTuple' v) R E s:=by
  refine⟨λv=>open Classical in if h:∃x:Value,(∃i t,x=.int i t)/\∀R:(Option Value)->Shared->Prop,R (some x) s->wpAny (model prog w) A (firstOfTuple' v) R E s then some h.choose else none,λv hv=>?_⟩;obtain⟨aT,i,t,⟨a,o,n,rfl,h1,h2,h3⟩,h4⟩:=ht v hv;have hex:∃x:Value,(∃i t,x=.int i t)/\∀R:(Option Value)->Shared->Prop,R (some x) s->wpAny (model prog w) A (firstOfTuple' (.ref a)) R E s:=by refine⟨.int i t,⟨i,t,rfl⟩,λR hR=>?_⟩;rw[Gn];refine ζ (wpAny_typeOf (T:="tuple") ⟨o,h1,h2⟩ ?_);simp only[aaF,SI,aaw];refine ζ (listItems_at h1 h3 (θ ?_));rw[h4];exact hR
  dsimp only;rw[dif_pos hex];obtain⟨⟨i',t',e⟩,hR⟩:=hex.choose_spec;exact⟨i',t',by rw[e],hR⟩
 obtain⟨g,hg⟩:=pick;rw[keyKind'_eq,List.mapM_toArray];refine ζ ?_;rw[map_eq_pure_bind];refine ζ (uq (g:=g) vs _ (λv hv R hR=>(hg v hv).choose_spec.choose_spec.2 R hR) (θ ?_));have yG:((vs.map g).toArray.all λx=>x.isSome)=true:=by rw[List.all_toArray,List.all_map,IV];intro v hv;obtain⟨i,t,e,_⟩:=hg v hv;show (g v).isSome=true;rw[e];rfl
 rw[ι yG];refine ζ (aak ?_);have hfm:(Array.filterMap id (vs.map g).toArray)=(vs.filterMap g).toArray:=by simp[W4]
 rw[hfm,oneTypeOnly'_eq,List.mapM_toArray];have hi:∀x∈vs.filterMap g,∃i t,x=Value.int i t:=λx hx=>by obtain⟨v,hv,e⟩:=W3.mp hx;obtain⟨i,t,e',_⟩:=hg v hv;rw[e] at e';exact⟨i,t,Option.some.inj e'⟩
 have hn:vs.filterMap g≠[]:=by
  obtain⟨v,rest,rfl⟩:∃v rest,vs=v::rest:=by
   cases vs with
   |nil=>exact absurd rfl gf
   |cons v rest=>exact⟨v,rest,rfl⟩
  obtain⟨i,t,e,_⟩:=hg v (by simp);rw[List.filterMap_cons_some e];simp
 generalize vs.filterMap g=fs at hi hn;refine ζ (ζ ?_);rw[map_eq_pure_bind];refine ζ (uq (g:=λ_=>Value.type "int") fs _ (λx hx R hR=>?_) (θ ?_));obtain⟨i,t,rfl⟩:=hi x hx;exact wpAny_typeOf (aaB s i t) hR;cases fs with
 |nil=>exact absurd rfl hn
 |cons x fs=>
   have hal:(((x::fs).map λ_=>Value.type "int").toArray.all λy=>y==Value.type "int")=true:=by rw[List.all_toArray,List.all_map,IV];intro y _;rfl
   show wpAny _ _ (pure (if (((x::fs).map λ_=>Value.type "int").toArray.all λy=>y==Value.type "int")=true then some (Value.type "int") else none)) _ _ _;rw[ι hal];exact θ (θ hq)
end
end TS
namespace TS
open PySem PySem.Spec PyProof.Rows L2 VT
section
def C1:∀{us Np:qag},Np.Perm us->∀{xs:qak},Vals xs us->∃zs:qak,zs.Perm xs/\Vals zs Np:=by
 intro us Np p;induction p with
 |nil=>intro xs r;cases r;exact⟨[],.nil,.nil⟩
 |cons u _ ih=>
  intro xs r;cases r with
  |cons r t=>obtain⟨zs,p,q⟩:=ih t;exact⟨_,p.cons _,.cons r q⟩
 |swap u v l=>
  intro xs r;cases r with
  |cons r1 t=>cases t with
   |cons r2 t=>exact⟨_,.swap _ _ _,.cons r2 (.cons r1 t)⟩
 |trans _ _ ih1 ih2=>intro xs r;obtain⟨zs,p,q⟩:=ih2 r;obtain⟨zs',p',q'⟩:=ih1 q;exact⟨zs',p'.trans p,q'⟩
end
end TS
namespace BS
open PySem PySem.Builtin PyProof.Rows
noncomputable def ib(x:Int)(k:Nat):Bool:=decide (x / 2 ^ k % 2=1)
def two_pos(k:Nat):(0:Int)<2 ^ k:=Int.pow_pos (by decide)
def gr(k:Nat):((2 ^ k:Nat):Int)=2 ^ k:=by rw[Int.natCast_pow];rfl
def cz(n k:Nat):ib (n:Int) k=n.testBit k:=by
 unfold ib;rw[Nat.testBit_eq_decide_div_mod_eq,<- gr];have:((n:Int) / ((2 ^ k:Nat):Int) % 2=1)↔(n / 2 ^ k % 2=1):=by rw[<- Int.natCast_ediv];lia
 exact decide_eq_decide.mpr this
def fm(x:Int)(k:Nat):ib (bitNot x) k=!ib x k:=by
 unfold ib bitNot;have h:(-x-1) / 2 ^ k=-(x / 2 ^ k)-1:=by
  have hp:=two_pos k;have e1:=Int.mul_ediv_add_emod x (2 ^ k);have e2:=qf x (Int.ne_of_gt hp);have e3:=qT x hp;refine (Int.ediv_emod_unique hp (r:=2 ^ k-1-x % 2 ^ k)).mpr ⟨?_,?_,?_⟩ |>.1
  have:2 ^ k * (-(x / 2 ^ k)-1)=-(2 ^ k * (x / 2 ^ k))-2 ^ k:=by rw[Int.mul_sub,Int.mul_neg,Int.mul_one]
  rw[this];lia
  lia
  lia
 rw[h];by_cases q:x / 2 ^ k % 2=1;rw[ν q,π (by lia)];rfl;rw[π q,ν (by lia)];rfl
def zu{x y:Int}(h:∀k,ib x k=ib y k):x=y:=by
 have pos:∀(m n:Nat),(∀k,ib (m:Int) k=ib (n:Int) k)->m=n:=λm n q=>Nat.eq_of_testBit_eq λk=>by rw[<- cz,<- cz];exact q k
 have mix:∀(m:Nat)(y:Int),¬ 0<=y->¬ ∀k,ib (m:Int) k=ib y k:=by intro m y hy q;have hn:0<=bitNot y:=aae.mpr hy;obtain⟨n,hn⟩:=p9 hn;have h1:=q (m+n);rw[<- aaq y,fm,hn,cz,cz] at h1;have a1:m.testBit (m+n)=false:=Nat.testBit_lt_two_pow (Nat.lt_of_le_of_lt (Nat.le_add_right m n) Nat.lt_two_pow_self);have a2:n.testBit (m+n)=false:=Nat.testBit_lt_two_pow (Nat.lt_of_le_of_lt (Nat.le_add_left n m) Nat.lt_two_pow_self);rw[a1,a2] at h1;cases h1
 by_cases hx:0<=x;obtain⟨m,rfl⟩:=p9 hx;by_cases hy:0<=y;obtain⟨n,rfl⟩:=p9 hy;exact rk _ (pos m n h);exact (mix m y hy h).elim;by_cases hy:0<=y;obtain⟨n,rfl⟩:=p9 hy;exact (mix n x hx λk=>(h k).symm).elim;have a:=aae.mpr hx;have b:=aae.mpr hy;obtain⟨m,hm⟩:=p9 a;obtain⟨n,hn⟩:=p9 b;have:m=n:=pos m n λk=>by rw[<- hm,<- hn,fm,fm,h k]
 rw[<- aaq x,<- aaq y,hm,hn,this]
def xi(x m:Nat):x-(x &&& m)=x ^^^ (x &&& m):=by
 have h:=nat_or_add_and (x ^^^ (x &&& m)) (x &&& m);have e1:(x ^^^ (x &&& m)) ||| (x &&& m)=x:=Nat.eq_of_testBit_eq λk=>by simp only[Nat.testBit_or,Nat.testBit_xor,Nat.testBit_and];cases x.testBit k<;>cases m.testBit k<;>rfl
 have e2:(x ^^^ (x &&& m)) &&& (x &&& m)=0:=Nat.eq_of_testBit_eq λk=>by simp only[Nat.testBit_xor,Nat.testBit_and,Nat.zero_testBit];cases x.testBit k<;>cases m.testBit k<;>rfl
 rw[e1,e2] at h
 lia
def Gq(x y:Int)(k:Nat):ib (bitAnd x y) k=(ib x k && ib y k):=by
 have pn:∀(m:Nat)(y:Int),¬ 0<=y->ib ((m:Int)-((m &&& (bitNot y).toNat:Nat):Int)) k=(ib (m:Int) k && ib y k):=by
  intro m y hy;obtain⟨n,hn⟩:=p9 (aae.mpr hy);have e:ib y k=!n.testBit k:=by rw[<- aaq y,fm,hn,cz]
  rw[hn,lh,<- Int.ofNat_sub Nat.and_le_left,xi,cz,cz,e];simp only[Nat.testBit_xor,Nat.testBit_and];cases m.testBit k<;>cases n.testBit k<;>rfl
 by_cases hx:0<=x;obtain⟨m,rfl⟩:=p9 hx;by_cases hy:0<=y;obtain⟨n,rfl⟩:=p9 hy;rw[bitAnd_pp hx hy,lh,lh,cz,cz,cz,Nat.testBit_and];rw[bitAnd_pn hx hy,lh];exact pn m y hy;by_cases hy:0<=y;obtain⟨n,rfl⟩:=p9 hy;rw[bitAnd_np hx hy,lh,pn n x hx,Bool.and_comm];obtain⟨m,hm⟩:=p9 (aae.mpr hx);obtain⟨n,hn⟩:=p9 (aae.mpr hy);rw[bitAnd_nn hx hy,hm,hn,lh,lh,fm,cz,Nat.testBit_or,<- cz,<- cz,<- hm,<- hn,fm,fm];cases ib x k<;>cases ib y k<;>rfl
def rN(x y:Int)(k:Nat):ib (bitOr x y) k=(ib x k || ib y k):=by unfold bitOr;rw[fm,Gq,fm,fm];cases ib x k<;>cases ib y k<;>rfl
def eF(k:Nat):ib 0 k=false:=by have:=cz 0 k;rw[Nat.zero_testBit] at this;exact this
def Gr(x:Int)(j k:Nat):ib (x / 2 ^ j) k=ib x (j+k):=by unfold ib;rw[Int.ediv_ediv_of_nonneg (Int.le_of_lt (two_pos j)),<- Int.pow_add]
def zw(x:Int)(j k:Nat):ib (x % 2 ^ j) k=(decide (k<j) && ib x k):=by
 have pos:∀n:Nat,ib ((n:Int) % 2 ^ j) k=(decide (k<j) && n.testBit k):=λn=>by rw[<- gr,<- Int.natCast_emod,cz,Nat.testBit_mod_two_pow]
 by_cases hx:0<=x;obtain⟨m,rfl⟩:=p9 hx;rw[pos,cz];obtain⟨m,hm⟩:=p9 (aae.mpr hx);have e:x=-(m:Int)-1:=by unfold bitNot at hm;lia
 have hp:=two_pos j;have e2:x % 2 ^ j=2 ^ j-1-(m:Int) % 2 ^ j:=by
  have e1:=Int.mul_ediv_add_emod (m:Int) (2 ^ j);have e2:=qf (m:Int) (Int.ne_of_gt hp);have e3:=qT (m:Int) hp;refine (Int.ediv_emod_unique hp (q:=-((m:Int) / 2 ^ j)-1)).mpr ⟨?_,?_,?_⟩ |>.2
  have:2 ^ j * (-((m:Int) / 2 ^ j)-1)=-(2 ^ j * ((m:Int) / 2 ^ j))-2 ^ j:=by rw[Int.mul_sub,Int.mul_neg,Int.mul_one]
  rw[this];lia
  lia
  lia
 have e3:x % 2 ^ j=((2 ^ j-(m % 2 ^ j+1):Nat):Int):=by
  have d_:m % 2 ^ j<2 ^ j:=Nat.mod_lt _ (Nat.two_pow_pos j);have a1:(m:Int) % 2 ^ j=((m % 2 ^ j:Nat):Int):=by rw[Int.natCast_emod,gr]
  have a2:=gr j;rw[e2,a1,<- a2];generalize 2 ^ j=P at d_ ⊢
  lia
 have hb:ib x k=!m.testBit k:=by rw[<- aaq x,fm,hm,cz]
 rw[e3,cz,Nat.testBit_two_pow_sub_succ (Nat.mod_lt _ (Nat.two_pow_pos j)),Nat.testBit_mod_two_pow,hb];by_cases q:k<j;rw[ν q,yh,yh,yh];rw[π q,Iy,Iy]
def QB(x:Int)(j k:Nat):ib (x * 2 ^ j) k=(decide (j<=k) && ib x (k-j)):=by by_cases h:j<=k;obtain⟨d,rfl⟩:=Nat.exists_eq_add_of_le h;rw[ν h,yh,Nat.add_sub_cancel_left,<- Gr,Int.mul_ediv_cancel _ (Int.ne_of_gt (two_pos j))];rw[π h,Iy];have q:=zw (x * 2 ^ j) j k;rw[Int.mul_emod_left,eF,ν (by lia),yh] at q;exact q.symm
def ur(k:Nat):ib 1 k=decide (k=0):=by
 cases k with
 |zero=>decide
 |succ k=>have h:(1:Int) / 2 ^ (k+1)=0:=Int.ediv_eq_zero_of_lt (by decide) (by rw[Int.pow_succ];have:=two_pos k;lia);unfold ib;rw[h];rfl
def Gs(j k:Nat):ib (2 ^ j) k=decide (k=j):=by have h:=QB 1 j k;rw[Int.one_mul,ur] at h;rw[h];by_cases e:k=j;subst e;simp;rw[π e];by_cases l:j<=k;rw[π (by lia:¬ k-j=0),SN];rw[π l,Iy]
def Ll(j k:Nat):ib (1 * 2 ^ j) k=decide (k=j):=by rw[Int.one_mul,Gs]
def Vy{x y:Int}(h:0<=x)(h':0<=y):0<=bitOr x y:=by unfold bitOr;rw[bitAnd_nn (λq=>(aae.mp q) h) (λq=>(aae.mp q) h'),aaq];exact Int.natCast_nonneg _
theorem Lm(x:Int):bitAnd x 1=if ib x 0=true then 1 else 0:=zu λk=>by
 rw[Gq,ur];by_cases e:k=0;subst e;cases q:ib x 0 with
 |true=>rw[ι rfl,ur];rfl
 |false=>rw[η (by decide),eF];rfl
 rw[π e,SN];split;rw[ur,π e];rw[eF]
def zx(x:Int)(k:Nat):bitAnd (x / 2 ^ k) 1=if ib x k=true then 1 else 0:=by rw[Lm,Gr,Nat.add_zero]
def sub(y x:Int):Prop:=∀k,ib y k=true->ib x k=true
def kQ(x:Int):sub x x:=λ_ h=>h
def C2{x y z:Int}(h:sub x y)(h':sub y z):sub x z:=λk q=>h' k (h k q)
theorem gM{x y:Int}(h:sub x y)(h':sub y x):x=y:=zu λk=>by
 cases q:ib x k with
 |true=>rw[h k q]
 |false=>
  cases r:ib y k with
  |false=>rfl
  |true=>rw[h' k r] at q;cases q
def m3(x y:Int):sub x (bitOr x y):=λk h=>by rw[rN,h];rfl
def gN(x y:Int):sub y (bitOr x y):=λk h=>by rw[rN,h,Bool.or_true]
def Gu{x y z:Int}(h:sub x z)(h':sub y z):sub (bitOr x y) z:=λk q=>by rw[rN,Bool.or_eq_true] at q;exact q.elim (h k) (h' k)
def sub_zero(x:Int):sub 0 x:=λk h=>by rw[eF] at h;cases h
def below(m:Nat)(x:Int):Prop:=0<=x/\x<2 ^ m
def below.bit{x:Int}(h:below m x){k:Nat}(hk:ib x k=true):k<m:=by have e:x % 2 ^ m=x:=Int.emod_eq_of_lt h.1 h.2;rw[<- e,zw,ij] at hk;exact υ hk.1
def xj{x:Int}(h0:0<=x)(h:∀k,ib x k=true->k<m):below m x:=by
 refine⟨h0,?_⟩;have e:x=x % 2 ^ m:=zu λk=>by
  rw[zw];cases q:ib x k with
  |false=>rw[SN]
  |true=>rw[ν (h k q)];rfl
 rw[e];exact qT _ (two_pos m)
def xk{x y:Int}(h:below m x)(h':below m y):below m (bitOr x y):=xj (Vy h.1 h'.1) λk hk=>by rw[rN,Bool.or_eq_true] at hk;exact hk.elim h.bit h'.bit
def jR(m:Nat):below m 0:=⟨Int.le_refl _,two_pos m⟩
def C3(h:j<m):below m (2 ^ j):=xj (Int.le_of_lt (two_pos j)) λk hk=>by rw[Gs] at hk;rw[υ hk];exact h
def zy(h:j<m):below m (1 * 2 ^ j):=by rw[Int.one_mul];exact C3 h
end BS
namespace Ln
open PySem L2 VT BS
open PySem.Builtin (bitOr)
abbrev Ent:=(Int×Str)×Int
noncomputable def kK(k:Int×Str):List Key:=[.inl k.1,.inr k.2]
def iI{a b:Int×Str}:kK a=kK b↔a=b:=by
 constructor;intro h;unfold kK at h;injection h with h1 h2
 injection h2 with h2 h3
 injection h1 with h1
 injection h2 with h2
 exact IA h1 h2;rintro rfl;rfl
noncomputable def cF(E:List Ent):List (List Key):=E.map λe=>kK e.1
def cT(E:List Ent):Ψ:=E.map λe=>.int e.2
def hV(E:List Ent)(k:Int×Str):Bool:=E.any λe=>decide (e.1=k)
noncomputable def gu(E:List Ent)(k:Int×Str)(v:Int):List Ent:=if hV E k=true then E.map (λe=>if e.1=k then (e.1,v) else e) else E++[(k,v)]
def Gv(E:List Ent)(k:Int×Str):pe (cF E) (kK k)=hV E k:=by
 unfold pe cF hV;rw[List.any_map]
 congr 1
 funext e;exact decide_eq_decide.mpr iI
def Gw(E:List Ent)(k:Int×Str)(v:Int):F5 (cF E) (kK k)=cF (gu E k v):=by unfold F5 gu;rw[Gv];by_cases h:hV E k=true;rw[ι h,ι h];unfold cF;rw[sr];refine DW λe _=>?_;show kK e.1=kK (if e.1=k then (e.1,v) else e).1;split<;>rfl;rw[η h,η h];unfold cF;rw[p_];rfl
def fW(E:List Ent)(k:Int×Str)(v:Int):A0 (cF E) (cT E) (kK k) (.int v)=cT (gu E k v):=by
 unfold A0 gu;rw[Gv];by_cases h:hV E k=true;rw[ι h,ι h];clear h;unfold cF cT;induction E with
 |nil=>rfl
 |cons e E ih=>
  simp only[jk,Ya];rw[ih]
  congr 1
  by_cases z:e.1=k;rw[ι z,ι (iI.mpr z)];rw[η z,η (λq=>z (iI.mp q))]
 rw[η h,η h];unfold cT;rw[p_];rfl
noncomputable def NA(p:Int×Str->Bool)(b:Int)(e:Ent):Int:=if p e.1=true then bitOr b e.2 else b
noncomputable def NB(p:Int×Str->Bool)(E:List Ent):Int:=E.foldl (NA p) 0
def eF(k:Nat):ib 0 k=false:=by have:ib ((0:Nat):Int) k=(0:Nat).testBit k:=cz 0 k;rw[Nat.zero_testBit] at this;exact this
theorem Gx(p:Int×Str->Bool)(k:Nat):∀(E:List Ent)(b:Int),ib (E.foldl (NA p) b) k=(ib b k || E.any λe=>p e.1 && ib e.2 k)
 |[],b=>by simp
 |e::E,b=>by
  rw[RQ,Gx p k E,BI];unfold NA;cases p e.1 with
  |true=>rw[ι rfl,rN,yh,Bool.or_assoc]
  |false=>rw[η ja,Iy,N9]
def Lo{p:Int×Str->Bool}{E:List Ent}{e:Ent}(h:E[i]?=some e):NB p (E.take (i+1))=NA p (NB p (E.take i)) e:=by unfold NB;rw[N7,h,N6];rfl
def uu{E:List Ent}(nd:(E.map (·.1)).Nodup){e:Ent}(h:e∈E):cb (cF E) (cT E) (kK e.1)=some (.int e.2):=by
 induction E with
 |nil=>cases h
 |cons x E ih=>
  show (if kK x.1=kK e.1 then some (T.int x.2) else cb (cF E) (cT E) (kK e.1))=_;rw[jk,nY] at nd;rcases dg.mp h with rfl|h
  rw[ι rfl];rw[η (λz=>nd.1 (by rw[iI.mp z];exact List.mem_map_of_mem h)),ih nd.2 h]
end Ln
variable{F:List Ln.Ent}
namespace BS
open PySem PySem.Builtin PyProof.Rows
noncomputable def mem(x:Int):qao:=(List.range (Builtin.Int.intBits x)).filter (ib x)
def Lq{x:Int}(h0:0<=x):x<2 ^ Builtin.Int.intBits x:=by
 unfold Builtin.Int.intBits;by_cases e:x=0;subst e;decide;rw[η (by simpa using e)];obtain⟨n,rfl⟩:=p9 h0;have hn:n≠0:=by lia
 rw[Int.natAbs_natCast];have:=(Nat.log2_lt hn (k:=n.log2+1)).mp (DA _);rw[<- gr];exact Int.ofNat_lt.mpr this
def bits_le{x:Int}(h:below m x):Builtin.Int.intBits x<=m:=by
 unfold Builtin.Int.intBits;split;exact h_ _
 rename_i e
 obtain⟨n,rfl⟩:=p9 h.1;have hn:n≠0:=by intro z;subst z;exact e rfl
 rw[Int.natAbs_natCast];have h2:=h.2;rw[<- gr] at h2;have:=(Nat.log2_lt hn (k:=m)).mpr (Int.ofNat_lt.mp h2)
 lia
def QC{x:Int}(h0:0<=x){k:Nat}(hk:ib x k=true):k<Builtin.Int.intBits x:=below.bit ⟨h0,Lq h0⟩ hk
def mem_iff{x:Int}(h0:0<=x){k:Nat}:k∈mem x↔ib x k=true:=by unfold mem;rw[DB,yg];exact⟨λh=>h.2,λh=>⟨QC h0 h,h⟩⟩
end BS
namespace TS
open PySem PyProof.Rows
end TS
namespace TS
open PySem PySem.Spec PyProof.Rows L2 VT
section
variable(L:α->α->Bool)
variable{L}
theorem filter_lt{p q:α->Bool}:∀{l:List α},(∀x∈l,p x=true->q x=true)->∀{y},y∈l->p y=false->q y=true->(l.filter p).length<(l.filter q).length
 |x::l,h,y,hy,h1,h2=>by
  have le:∀{l:List α},(∀x∈l,p x=true->q x=true)->(l.filter p).length<=(l.filter q).length:=by
   intro l;induction l with
   |nil=>intro _;exact cc _
   |cons x l ih=>
    intro h;have:=ih λz hz=>h z (gz _ hz);rw[W7,W7];cases hp:p x with
    |true=>rw[h x (by simp) hp];simpa using this
    |false=>
     cases hq:q x with
     |true=>simp;lia
     |false=>simpa using this
  have hl:=λz hz=>h z (gz x hz);rw[W7,W7];rcases dg.mp hy with rfl|hy
  rw[h1,h2];have:=le hl;simp;lia;have ih:=filter_lt hl hy h1 h2;cases hp:p x with
  |true=>rw[h x (by simp) hp];simpa using ih
  |false=>
   cases hq:q x with
   |true=>simp;lia
   |false=>simpa using ih
end
abbrev Tr:=Int×Str×Int
noncomputable def dy(a b:Tr):Bool:=if a.1=b.1 then (if a.2.1=b.2.1 then decide (a.2.2<b.2.2) else decide (a.2.1.cps.toList<b.2.1.cps.toList)) else decide (a.1<b.1)
def Lr(h:x.cps.toList=y.cps.toList):x=y:=by cases x;cases y;congr 1;exact Array.toList_inj.mp h
def Lu(a:Tr):dy a a=false:=by unfold dy;rw[ι rfl,ι rfl];exact π (Int.lt_irrefl _)
def A8{a b:Tr}(h:a≠b):dy a b=true\/dy b a=true:=by
 unfold dy;by_cases e1:a.1=b.1;rw[ι e1,ι e1.symm];by_cases e2:a.2.1=b.2.1;rw[ι e2,ι e2.symm];have:a.2.2≠b.2.2:=λz=>h (IA e1 (IA e2 z));rcases Int.lt_or_gt_of_ne this with z|z
 exact .inl (ν z);exact .inr (ν z);rw[η e2,η (λz=>e2 z.symm)];by_cases z:a.2.1.cps.toList<b.2.1.cps.toList;exact .inl (ν z);refine .inr (ν ?_);by_cases z2:b.2.1.cps.toList<a.2.1.cps.toList;exact z2;exact absurd (Lr (List.le_antisymm (List.not_lt.mp z2) (List.not_lt.mp z))) e2;rw[η e1,η (λz=>e1 z.symm)];rcases Int.lt_or_gt_of_ne e1 with z|z
 exact .inl (ν z);exact .inr (ν z)
def A9{a b c:Tr}(h1:dy a b=true)(h2:dy b c=true):dy a c=true:=by unfold dy at h1 h2 ⊢;by_cases e1:a.1=b.1;rw[ι e1] at h1;by_cases e2:b.1=c.1;rw[ι e2] at h2;rw[ι (e1.trans e2)];by_cases f1:a.2.1=b.2.1;rw[ι f1] at h1;by_cases f2:b.2.1=c.2.1;rw[ι f2] at h2;rw[ι (f1.trans f2)];exact ν (Int.lt_trans (υ h1) (υ h2));rw[η f2] at h2;rw[η (by rw[f1];exact f2),f1];exact h2;rw[η f1] at h1;by_cases f2:b.2.1=c.2.1;rw[<- f2,η f1];exact h1;rw[η f2] at h2;have z:=List.lt_trans (υ h1) (υ h2);rw[η (λq=>by rw[q] at z;exact List.lt_irrefl _ z)];exact ν z;rw[η e2] at h2;rw[η (by rw[e1];exact e2),e1];exact h2;rw[η e1] at h1;by_cases e2:b.1=c.1;rw[<- e2,η e1];exact h1;rw[η e2] at h2;have z:=Int.lt_trans (υ h1) (υ h2);rw[η (by lia)];exact ν z
section
def ltI{i j:Int}{t u:Tok}{Q:Bool->Shared->Prop}(hq:Q (decide (i<j)) s):wpAny (model prog w) A (oneLt' false (.int i t) (.int j u)) Q E s:=by rw[oneLt'_eq];simp only[SI,aaw];exact ζ (wpAny_richCompare_same (op:=.Lt) (T:="int") (aaB s i t) (aaB s j u) slot_int_lt (call_int_lt ⟨by simp,Ξ hq⟩))
def ltS{t u:Tok}{Q:Bool->Shared->Prop}(hq:Q (decide (x.cps.toList<y.cps.toList)) s):wpAny (model prog w) A (oneLt' false (.str x t) (.str y u)) Q E s:=by rw[oneLt'_eq];simp only[SI,aaw];exact ζ (wpAny_richCompare_same (op:=.Lt) (T:="str") (typeIs_str s x t) (typeIs_str s y u) slot_str_lt (call_str_lt ⟨by simp,Ξ hq⟩))
def gv(h:Heap)(v:Value)(a:Tr):Prop:=∃t1 t2 t3,TupAt h v #[.int a.1 t1,.str a.2.1 t2,.int a.2.2 t3]
def Lw{x y:Value}{a b:Tr}(hx:gv s.heap x a)(hy:gv s.heap y b){Q:Bool->Shared->Prop}(hq:Q (dy a b) s):wpAny (model prog w) A (keyLt' (tuples' true) x y) Q E s:=by obtain⟨t1,t2,t3,p,o,n,rfl,h1,h2,h3⟩:=hx;obtain⟨u1,u2,u3,p',o',n',rfl,IF,qb,XJ⟩:=hy;rw[uo];refine ζ (listItems_at h1 h3 (ζ (listItems_at IF XJ ?_)));have e:((#[Value.int a.1 t1,.str a.2.1 t2,.int a.2.2 t3]:Array Value).toList.zip (#[Value.int b.1 u1,.str b.2.1 u2,.int b.2.2 u3]:Array Value).toList).zipIdx=[((Value.int a.1 t1,Value.int b.1 u1),0),((Value.str a.2.1 t2,Value.str b.2.1 u2),1),((Value.int a.2.2 t3,Value.int b.2.2 u3),2)]:=rfl;rw[e,SM];unfold dy at hq;refine ζ (ζ (ζ (wpAny_eqBool_int ?_)));by_cases e1:a.1=b.1;rw[ι e1] at hq;rw[η (by simp[e1])];refine θ ?_;dsimp only;rw[SM];refine ζ (ζ (wpAny_eqBool_str ?_));by_cases e2:a.2.1=b.2.1;rw[ι e2] at hq;rw[η (by simp[e2])];refine θ ?_;dsimp only;rw[SM];refine ζ (ζ (wpAny_eqBool_int ?_));by_cases e3:a.2.2=b.2.2;rw[η (by simp[e3])];refine θ ?_;dsimp only;rw[List.forIn_nil];refine θ ?_;refine θ ?_;rw[π (by lia)] at hq;exact hq;rw[ι (by simp[e3])];refine ζ (ltI ?_);refine θ (θ (θ hq));rw[η e2] at hq;rw[ι (by simp[e2])];refine ζ (ltS ?_);refine θ (θ (θ hq));rw[η e1] at hq;rw[ι (by simp[e1])];refine ζ (oneLt_int ?_);refine θ (θ (θ hq))
end
section
def C4{v:Value}{a b:Tr}(x:gv h v a)(y:gv h v b):a=b:=by
 obtain⟨t1,t2,t3,p,o,n,rfl,h1,h2,h3⟩:=x;obtain⟨u1,u2,u3,p',o',n',e,IF,qb,XJ⟩:=y;cases e;rw[h1] at IF;cases IF;rw[h3] at XJ;injection XJ with e1 e2
 have:=rk Array.toList e1;simp only[List.cons.injEq,Value.int.injEq,Value.str.injEq] at this;obtain⟨⟨q1,_⟩,⟨q2,_⟩,⟨q3,_⟩,_⟩:=this;exact IA q1 (IA q2 q3)
open Classical in
noncomputable def uw(h:Heap)(v:Value):Tr:=if z:∃a,gv h v a then z.choose else (0,⟨#[]⟩,0)
def ux{v:Value}{a:Tr}(x:gv h v a):uw h v=a:=by unfold uw;have z:∃a,gv h v a:=⟨a,x⟩;rw[dif_pos z];exact C4 z.choose_spec x
end
def ny(K:zm)(H:Hp)(w:V)(a:Tr):Prop:=∃b,w=.ref b/\dS K H b [.int a.1,.str a.2.1,.int a.2.2]
noncomputable def tT(a:Tr):T:=.tup [.int a.1,.str a.2.1,.int a.2.2]
section
variable{A:Ω}
def Vz{a:Tr}{w:V}(h:At K H A (tT a) w):ny K H w a:=by obtain⟨b,us,rfl,h2,h3⟩:=gi.tup (.inl h);simp only[az,At] at h3;obtain⟨_,_,rfl,rfl,_,_,rfl,rfl,_,_,rfl,rfl,rfl⟩:=h3;exact⟨b,rfl,h2⟩
def VB{a:Tr}{w:V}(h:ny K H w a):At K H A (tT a) w:=by obtain⟨b,rfl,h⟩:=h;exact cY h (az.cons bE (az.cons dF (az.cons bE az.nil)))
theorem Gy:∀{as:List Tr}{ws:qak},az K H A (as.map tT) ws->Paired (ny K H) ws as
 |[],ws,h=>by simp only[RU,az] at h;subst h;exact .nil
 |a::as,ws,h=>by simp only[jk,az] at h;obtain⟨v,r,rfl,h1,h2⟩:=h;exact .cons (Vz h1) (Gy h2)
def QD{ws:qak}{as:List Tr}(h:Paired (ny K H) ws as):az K H A (as.map tT) ws:=by
 induction h with
 |nil=>exact az.nil
 |cons r _ ih=>exact az.cons (VB r) ih
end
end TS
namespace SO
open PySem PyProof.Rows PyProof
abbrev Kd:=Value×Value
structure Od(lt:Kd->Kd->Bool):Prop where
 as:∀{a b},lt a b=true->lt b a=false
 nt:∀{a c} b,lt a c=true->lt a b=true\/lt b c=true
def Od.le{lt:Kd->Kd->Bool}(O:Od lt){a b c:Kd}(h1:lt b a=false)(h2:lt c b=false):lt c a=false:=by
 cases h:lt c a with
 |false=>rfl
 |true=>rcases O.nt b h with z|z<;>simp_all
def Od.DR{lt:Kd->Kd->Bool}(O:Od lt)(a:Kd):lt a a=false:=by
 cases h:lt a a with
 |false=>rfl
 |true=>exact absurd h (by rw[O.as h];simp)
structure Cp(prog:Program)(w:World)(A:Around)(E:qad)(s:Shared)(κ:SortKind)(lt:Kd->Kd->Bool)(G:Kd->Prop):Prop where
 od:Od lt
 lt:∀{p q:Kd}{st:SortSt}{Q:Option Bool->SortSt->Prop},G p->G q->kindOf st=κ->Q (some (lt p q)) st->wpS (model prog w) A E s (lt' p q) Q st
noncomputable def kR:Bool->Kd->Array Kd->Nat->Nat->Nat->StateT SortSt Sem (Option Nat):=sortPriv% PySem.Builtin.gallop
variable{κ:SortKind}{lt:Kd->Kd->Bool}{G:Kd->Prop}
def br{arr:Array Kd}{p:Kd}{st:SortSt}{Q:Kd->SortSt->Prop}(h:arr[i]?=some p)(hq:Q p st):wpS (model prog w) A E s (elem' arr i) Q st:=by rw[elem'_eq,h];exact ξ hq
theorem A_{hi:Nat}{st:SortSt}{B:Nat->Bool}{f:Nat->StateT SortSt Sem (Option Bool)}{Q:Option (Option Nat)×Nat×Nat->SortSt->Prop}(hf:∀i<n,∀Q':Option Bool->SortSt->Prop,Q' (some (B i)) st->wpS (model prog w) A E s (f i) Q' st)(mono:∀i j,i<=j->j<n->B j=true->B i=true)(Z7:lo<=hi)(hn:hi<=n)(h1:∀i<lo,B i=true)(h2:∀i,hi<=i->i<n->B i=false)(hq:∀k≤n,(∀i<k,B i=true)->(∀i,k<=i->i<n->B i=false)->Q (none,k,k) st) :
  wpS (model prog w) A E s (forIn [:n] (none,lo,hi) λ_ c=>if c.2.1 ≥ c.2.2 then pure (.done (none,c.2.1,c.2.2)) else do
   match <- f (c.2.1+(c.2.2-c.2.1) / 2) with
   |some more=>if more=true then pure (.yield (none,c.2.1+(c.2.2-c.2.1) / 2+1,c.2.2)) else pure (.yield (none,c.2.1,c.2.1+(c.2.2-c.2.1) / 2))
   |_=>pure (.done (some none,c.2.1,c.2.2))) Q st:=by
 refine aab (I:=λx c st'=>st'=st/\∃lo hi,c=(none,lo,hi)/\lo<=hi/\hi<=n/\hi-lo<=n-x/\(∀i<lo,B i=true)/\∀i,hi<=i->i<n->B i=false) ?_ ?_ ⟨rfl,lo,hi,rfl,Z7,hn,by lia,h1,h2⟩;rintro x c st' _ hx ⟨rfl,lo,hi,rfl,Z7,hn,hm,h1,h2⟩;dsimp only;by_cases z:lo ≥ hi;rw[ι z];have e:lo=hi:=by lia
 subst e;exact ξ (hq lo hn h1 h2);rw[η z];refine μ (hf _ (by lia) _ ?_);cases hb:B (lo+(hi-lo) / 2) with
 |true=>exact ξ ⟨rfl,_,_,rfl,by lia,hn,by lia,λi Pe=>mono i _ (by lia) (by lia) hb,h2⟩
 |false=>
   refine ξ ⟨rfl,_,_,rfl,by lia,by lia,by lia,h1,λi hi1 ZO=>?_⟩;cases hc:B i with
   |false=>rfl
   |true=>rw[mono _ i hi1 ZO hc] at hb;exact hb
 rintro c st' ⟨rfl,lo,hi,rfl,Z7,hn,hm,h1,h2⟩;have e:lo=hi:=by lia
 subst e;exact hq lo hn h1 h2
theorem dO(C:Cp prog w A E s κ lt G){left:Bool}{key:Kd}{arr:Array Kd}{base hint:Nat}{st:SortSt}{Q:Option Nat->SortSt->Prop}(hk:kindOf st=κ)(Jo:G key)(hh:hint<n)(B:Nat->Bool)(hB:∀i<n,∃p,arr[base+i]?=some p/\G p/\B i=if left then lt p key else !lt key p)(mono:∀i j,i<=j->j<n->B j=true->B i=true)(hq:∀k≤n,(∀i<k,B i=true)->(∀i,k<=i->i<n->B i=false)->Q (some k) st):wpS (model prog w) A E s (kR left key arr base n hint) Q st:=by
 have VF:∀i<n,∀Q':Option Bool->SortSt->Prop,Q' (some (B i)) st->wpS (model prog w) A E s (do let x <- elem' arr (base+i);if left then lt' x key else return (<- lt' key x).map (!·)) Q' st:=λi hi Q' h=>by
  obtain⟨p,e,g,eb⟩:=hB i hi;refine μ (br e ?_);cases left with
  |true=>exact C.lt g Jo hk (by rw[eb] at h;exact h)
  |false=>exact μ (C.lt Jo g hk (ξ (by rw[eb] at h;exact h)))
 have nof:∀{i j},i<=j->j<n->B i=false->B j=false:=λ{i j} h1 h2 h3=>by
  cases hc:B j with
  |false=>rfl
  |true=>rw[mono i j h1 h2 hc] at h3;exact h3
 refine μ (VF hint hh _ ?_);cases hb:B hint with
 |true=>
  refine μ (aau (aab (I:=λx c st'=>st'=st/\∃la o,c=(none,la,o)/\la<o/\x<o/\hint+la<n/\B (hint+la)=true)
   (Q:=λc st'=>st'=st/\∃la o,c=(none,la,o)/\la<o/\hint+la<n/\B (hint+la)=true/\(o<n-hint->B (hint+o)=false)) ?_ ?_ ⟨rfl,0,1,rfl,by lia,by lia,by lia,hb⟩) ?_)
  rintro x c st' _ hx ⟨rfl,la,o,rfl,h1,h2,h3,h4⟩;dsimp only;by_cases z:o ≥ n-hint;rw[ι z];exact ξ ⟨rfl,la,o,rfl,h1,h3,h4,λ_=>by lia⟩;rw[η z];refine μ (VF _ (by lia) _ ?_);cases hc:B (hint+o) with
  |false=>exact ξ ⟨rfl,la,o,rfl,h1,h3,h4,λ_=>hc⟩
  |true=>exact ξ ⟨rfl,o,2 * o+1,rfl,by lia,by lia,by lia,hc⟩
  rintro c st' ⟨rfl,la,o,rfl,h1,h2,h3,h4⟩;exact⟨rfl,la,o,rfl,h1,h3,h4,λ_=>by lia⟩;rintro c st' ⟨rfl,la,o,rfl,h1,h3,h4,h5⟩;dsimp only;exact μ (A_ VF mono (by lia) (by lia) (λi hi=>mono i _ (by lia) h3 h4) (λi h6 h7=>nof (by lia) h7 (h5 (by lia))) λk hk h6 h7=>ξ (hq k hk h6 h7))
 |false=>
  refine μ (aau (aab (I:=λx c st'=>st'=st/\∃la o,c=(none,la,o)/\la<o/\x<o/\la<=hint/\B (hint-la)=false)
   (Q:=λc st'=>st'=st/\∃la o,c=(none,la,o)/\la<o/\la<=hint/\B (hint-la)=false/\(o<hint+1->B (hint-o)=true)) ?_ ?_ ⟨rfl,0,1,rfl,by lia,by lia,by lia,hb⟩) ?_)
  rintro x c st' _ hx ⟨rfl,la,o,rfl,h1,h2,h3,h4⟩;dsimp only;by_cases z:o ≥ hint+1;rw[ι z];exact ξ ⟨rfl,la,o,rfl,h1,h3,h4,λ_=>by lia⟩;rw[η z];refine μ (VF _ (by lia) _ ?_);cases hc:B (hint-o) with
  |true=>exact ξ ⟨rfl,la,o,rfl,h1,h3,h4,λ_=>hc⟩
  |false=>exact ξ ⟨rfl,o,2 * o+1,rfl,by lia,by lia,by lia,hc⟩
  rintro c st' ⟨rfl,la,o,rfl,h1,h2,h3,h4⟩;exact⟨rfl,la,o,rfl,h1,h3,h4,λ_=>by lia⟩;rintro c st' ⟨rfl,la,o,rfl,h1,h3,h4,h5⟩;dsimp only;exact μ (A_ VF mono (by lia) (by lia) (λi hi=>mono i _ (by lia) (by lia) (h5 (by lia))) (λi h6 h7=>nof h6 h7 h4) λk hk h6 h7=>ξ (hq k hk h6 h7))
structure Mg(R:Kd->Kd->Prop)(U out as bs:List Kd):Prop where
 pm:(out++(as++bs)).Perm U
 so:out.Pairwise R
 sa:as.Pairwise R
 sb:bs.Pairwise R
 oa:∀x∈out,∀y∈as,R x y
 ob:∀x∈out,∀y∈bs,R x y
def Mg.swap{R:Kd->Kd->Prop}{U out as bs:List Kd}(h:Mg R U out as bs):Mg R U out bs as :=
 ⟨(List.Perm.append_left out List.perm_append_comm).trans h.pm,h.so,h.sb,h.sa,h.ob,h.oa⟩
def Mg.a{R:Kd->Kd->Prop}{U out x as bs:List Kd}(h:Mg R U out (x++as) bs)(hx:∀u∈x,∀v∈bs,R u v):Mg R U (out++x) as bs:=by obtain⟨h1,h2,h3⟩:=SF.mp h.sa;refine⟨by rw[DX,<- DX x];exact h.pm,SF.mpr ⟨h.so,h1,λu hu v hv=>h.oa u hu v (hX _ hv)⟩,h2,h.sb,λu hu v hv=>?_,λu hu v hv=>?_⟩;exact (gx.mp hu).elim (λz=>h.oa u z v (iN _ hv)) λz=>h3 u z v hv;exact (gx.mp hu).elim (λz=>h.ob u z v hv) λz=>hx u z v hv
def Mg.b{R:Kd->Kd->Prop}{U out x as bs:List Kd}(h:Mg R U out as (x++bs))(hx:∀u∈x,∀v∈as,R u v):Mg R U (out++x) as bs:=(h.swap.a hx).swap
def Mg.fin{R:Kd->Kd->Prop}{U out as bs:List Kd}(h:Mg R U out as bs)(hx:∀u∈as,∀v∈bs,R u v):(out++(as++bs)).Perm U/\(out++(as++bs)).Pairwise R :=
 ⟨h.pm,SF.mpr ⟨h.so,SF.mpr ⟨h.sa,h.sb,hx⟩,λu hu v hv=>(gx.mp hv).elim (h.oa u hu v) (h.ob u hu v)⟩⟩
noncomputable def X(a:Array Kd)(i:Nat):Kd:=a[i]?.getD (.none,.none)
def at_{a:Array Kd}(h:i<a.size):a[i]?=some (X a i):=by unfold X;rw[aam a i h];rfl
def c9{a:Array Kd}(h:i<a.size):X a i∈a.toList:=by have:=at_ h;rw[<- IS] at this;exact f_ this
theorem rO{a:Array Kd}{x:Kd}(h:x∈a.toList.drop i):∃j,i<=j/\j<a.size/\x=X a j:=by
 obtain⟨j,hj,e⟩:=SE.mp h;have vz:i+j<a.size:=by simp at hj;lia
 refine⟨i+j,by lia,vz,?_⟩;unfold X;rw[aam a _ vz,<- e];simp
theorem iJ{a:Array Kd}{k:Nat}{x:Kd}(h:x∈(a.extract i k).toList):∃j,i<=j/\j<k/\j<a.size/\x=X a j:=by
 obtain⟨j,hj,e⟩:=SE.mp h;have vz:i+j<a.size/\i+j<k:=by simp at hj;lia
 refine⟨i+j,by lia,vz.2,vz.1,?_⟩;unfold X;rw[aam a _ vz.1,<- e];simp
theorem dE{a:Array Kd}{k:Nat}(h:i<=k):a.toList.drop i=(a.extract i k).toList++a.toList.drop k:=by
 rw[W0,List.extract_eq_drop_take]
 conv=>lhs;rw[<- Sy (k-i) (a.toList.drop i),List.drop_drop]
 congr 2;lia
def eE{a:Array Kd}:(a.extract i).toList=a.toList.drop i:=by rw[W0,List.extract_eq_drop_take,RK (by simp)]
theorem mj{lt:Kd->Kd->Bool}(O:Od lt){a:Array Kd}(h:a.toList.Pairwise λx y=>lt y x=false)(Am:i<=j)(hj:j<a.size):lt (X a j) (X a i)=false:=by
 by_cases e:i=j;subst e;exact O.DR _;have hi:i<a.size:=by lia
 have:=X8.mp h i j (by simpa using hi) (by simpa using hj) (by lia);unfold X;rw[aam a i hi,aam a j hj];simpa using this
def Gz:Array Kd->Array Kd->StateT SortSt Sem (Array Kd):=sortPriv% PySem.Builtin.mergeLo
def GA:Array Kd->Array Kd->StateT SortSt Sem (Array Kd):=sortPriv% PySem.Builtin.mergeHi
structure Sm(st st':SortSt):Prop where
 k:kindOf st'=kindOf st
 a:arrOf st'=arrOf st
 p:pendingOf st'=pendingOf st
 f:failedOf st'=failedOf st
variable{κ:SortKind}{lt:Kd->Kd->Bool}{G:Kd->Prop}
section
variable{a b:Array Kd}
abbrev RR(lt:Kd->Kd->Bool):Kd->Kd->Prop:=λx y=>lt y x=false
abbrev ML(lt:Kd->Kd->Bool)(a b out:Array Kd)(ia ib:Nat):Prop:=Mg (RR lt) (a.toList++b.toList) out.toList (a.toList.drop ia) (b.toList.drop ib)
def OK(lt:Kd->Kd->Bool)(a b r:Array Kd):Prop:=r.toList.Perm (a.toList++b.toList)/\r.toList.Pairwise (RR lt)
def ML.pa{out:Array Kd}{ia ib k:Nat}(M:ML lt a b out ia ib)(h:ia<=k)(hx:∀i,ia<=i->i<k->i<a.size->∀j,ib<=j->j<b.size->lt (X b j) (X a i)=false):ML lt a b (out++a.extract ia k) k ib:=by
 have M':Mg (RR lt) (a.toList++b.toList) out.toList ((a.extract ia k).toList++a.toList.drop k) (b.toList.drop ib):=by rw[<- dE h];exact M
 have:=M'.a λu hu v hv=>by obtain⟨i,h1,h2,h3,rfl⟩:=iJ hu;obtain⟨j,h4,h5,rfl⟩:=rO hv;exact hx i h1 h2 h3 j h4 h5
 unfold ML;rw[Iw];exact this
def ML.pb{out:Array Kd}{ia ib k:Nat}(M:ML lt a b out ia ib)(h:ib<=k)(hx:∀i,ib<=i->i<k->i<b.size->∀j,ia<=j->j<a.size->lt (X a j) (X b i)=false):ML lt a b (out++b.extract ib k) ia k:=by
 have M':Mg (RR lt) (a.toList++b.toList) out.toList (a.toList.drop ia) ((b.extract ib k).toList++b.toList.drop k):=by rw[<- dE h];exact M
 have:=M'.b λu hu v hv=>by obtain⟨i,h1,h2,h3,rfl⟩:=iJ hu;obtain⟨j,h4,h5,rfl⟩:=rO hv;exact hx i h1 h2 h3 j h4 h5
 unfold ML;rw[Iw];exact this
theorem mm{out a:Array Kd}(h:i<a.size):out.push (X a i)=out++a.extract i (i+1):=by
 apply Array.toList_inj.mp;have e:(a.extract i (i+1)).toList=[X a i]:=by rw[W0,List.extract_eq_drop_take,show i+1-i=1 by lia];unfold X;rw[aam a i h,Sv (by simpa using h)];simp
 rw[Iw,e,Array.toList_push]
theorem ML.fin{out:Array Kd}{ia ib:Nat}(M:ML lt a b out ia ib)(h:a.size<=ia\/b.size<=ib):OK lt a b (out++a.extract ia++b.extract ib):=by
 unfold OK;rw[Iw,Iw,eE,eE,DX];refine Mg.fin M λu hu v hv=>?_;obtain⟨i,h1,h2,_⟩:=rO hu;obtain⟨j,h3,h4,_⟩:=rO hv
 lia
theorem ML.last{out:Array Kd}{ia ib:Nat}(M:ML lt a b out ia ib)(e:ia+1=a.size)(hl:∀j,j<b.size->lt (X a (a.size-1)) (X b j)=false):OK lt a b (out++b.extract ib++a.extract ia):=by unfold OK;rw[Iw,Iw,eE,eE,DX];refine Mg.fin (Mg.swap M) λu hu v hv=>?_;obtain⟨i,h1,h2,rfl⟩:=rO hu;obtain⟨j,h3,h4,rfl⟩:=rO hv;rw[show j=a.size-1 by lia];exact hl i h2
end
structure In(lt:Kd->Kd->Bool)(G:Kd->Prop)(a b:Array Kd):Prop where
 ga:∀x∈a.toList,G x
 gb:∀x∈b.toList,G x
 sa:a.toList.Pairwise (RR lt)
 sb:b.toList.Pairwise (RR lt)
 a0:0<a.size
 b0:0<b.size
 hf:∀j,j<a.size->lt (X a j) (X b 0)=false
 hl:∀j,j<b.size->lt (X a (a.size-1)) (X b j)=false
def Sm.of{st st':SortSt}(h:Sm st st'){g:Nat}:Sm st (SortSt.mk' (kindOf st') (arrOf st') (pendingOf st') g (failedOf st')):=⟨h.k,h.a,h.p,h.f⟩
def aE{c:Prop}[Decidable c]{x y:StateT SortSt Sem α}{Q:α->SortSt->Prop}{st:SortSt}(h1:c->wpS (model prog w) A E s x Q st)(h2:¬ c->wpS (model prog w) A E s y Q st):wpS (model prog w) A E s (if c then x else y) Q st:=by by_cases h:c;rw[ι h];exact h1 h;rw[η h];exact h2 h
def Ba{γ:Type}(jp:β->γ->StateT SortSt Sem α){x:StateT SortSt Sem α}{Q:α->SortSt->Prop}{st:SortSt}(h1:∀r m,wpS (model prog w) A E s (jp r m) Q st)(h2:(∀r m,wpS (model prog w) A E s (jp r m) Q st)->wpS (model prog w) A E s x Q st):wpS (model prog w) A E s x Q st:=h2 h1
def kS{γ δ:Type}(jp:β->γ->δ->StateT SortSt Sem α)(P:γ->δ->Prop){x:StateT SortSt Sem α}{Q:α->SortSt->Prop}{st:SortSt}(h1:∀r o i,P o i->wpS (model prog w) A E s (jp r o i) Q st)(h2:(∀r o i,P o i->wpS (model prog w) A E s (jp r o i) Q st)->wpS (model prog w) A E s x Q st):wpS (model prog w) A E s x Q st:=h2 h1
def GB{Y0 Y1 Y2 Y3 τ:Type}(st:SortSt)(D:Y0->Prop)(P P':Y1->Y2->Y3->Prop)(u6:ForInStep (Option Y0×Y1×Y2×Y3×τ))(st':SortSt):Prop:=Sm st st'/\match u6 with
 |.done (some u6,_)=>D u6
 |.done (none,u1,u2,w,_)=>P' u1 u2 w
 |.yield (none,u1,u2,w,_)=>P u1 u2 w
 |.yield (some _,_)=>False
section
variable{Y0 Y1 Y2 Y3 τ:Type}{st st':SortSt}{D:Y0->Prop}{P P':Y1->Y2->Y3->Prop}{u1:Y1}{u2:Y2}{u3:Y3}{u5:τ}
def GB.dn(hs:Sm st st'){u6:Y0}(h:D u6):GB (τ:=τ) st D P P' (.done (some u6,u1,u2,u3,u5)) st':=⟨hs,h⟩
def GB.ot(hs:Sm st st')(h:P' u1 u2 u3):GB (τ:=τ) st D P P' (.done (none,u1,u2,u3,u5)) st':=⟨hs,h⟩
def GB.go(hs:Sm st st')(h:P u1 u2 u3):GB (τ:=τ) st D P P' (.yield (none,u1,u2,u3,u5)) st':=⟨hs,h⟩
end
def i6{Y0 Y1 Y2 Y3 τ:Type}{f:Nat->Option Y0×Y1×Y2×Y3×τ->StateT SortSt Sem (ForInStep (Option Y0×Y1×Y2×Y3×τ))}{Q:Option Y0×Y1×Y2×Y3×τ->SortSt->Prop}{UJ st:SortSt}{u1:Y1}{u2:Y2}{u3:Y3}{u4:τ}(D:Y0->Prop)(P:Nat->Y1->Y2->Y3->Prop)(P':Y1->Y2->Y3->Prop)(hs:Sm st UJ)(h0:P 0 u1 u2 u3)(step:∀u5 u1 u2 u3 (u4:τ) st',u5<n->Sm st st'->P u5 u1 u2 u3->wpS (model prog w) A E s (f u5 (none,u1,u2,u3,u4)) (GB st D (P (u5+1)) P') st')(fin:∀u1 u2 u3,P n u1 u2 u3->False)(q1:∀u6 d st',Sm st st'->D u6->Q (some u6,d) st')(q2:∀u1 u2 u3 u4 st',Sm st st'->P' u1 u2 u3->Q (none,u1,u2,u3,u4) st'):wpS (model prog w) A E s (forIn [:n] (none,u1,u2,u3,u4) f) Q UJ:=by
 refine aau (aab (I:=λu5 c st'=>Sm st st'/\∃u1 u2 u3 u4,c=(none,u1,u2,u3,u4)/\P u5 u1 u2 u3) (Q:=λc st'=>Sm st st'/\((∃u6 d,c=(some u6,d)/\D u6)\/∃u1 u2 u3 u4,c=(none,u1,u2,u3,u4)/\P' u1 u2 u3)) ?_ ?_ ⟨hs,_,_,_,_,rfl,h0⟩) ?_
 . rintro u5 c eG _ hx ⟨hs,u1,u2,u3,u4,rfl,h⟩;refine aau (step u5 u1 u2 u3 u4 eG hx hs h) λu6 qi h=>?_;obtain⟨h1,h2⟩:=h
   match u6,h2 with
   |.done (some u6,_),h2=>exact⟨h1,.inl ⟨_,_,rfl,h2⟩⟩
   |.done (none,_,_,_,_),h2=>exact⟨h1,.inr ⟨_,_,_,_,rfl,h2⟩⟩
   |.yield (none,_,_,_,_),h2=>exact⟨h1,_,_,_,_,rfl,h2⟩
 rintro c eG ⟨hs,u1,u2,u3,u4,rfl,h⟩;exact (fin u1 u2 u3 (by simpa using h)).elim;rintro c eG ⟨hs,⟨u6,d,rfl,h⟩|⟨u1,u2,u3,u4,rfl,h⟩⟩;exact q1 u6 d eG hs h;exact q2 u1 u2 u3 u4 eG hs h
structure JL(lt:Kd->Kd->Bool)(a b:Array Kd)(c:Nat)(o:Array Kd)(i j:Nat):Prop where
 M:ML lt a b o i j
 h1:i+1<a.size
 h2:j<b.size
 h3:c<=i+j
theorem QE(C:Cp prog w A E s κ lt G){a b:Array Kd}{st:SortSt}{Q:Array Kd->SortSt->Prop}(hk:kindOf st=κ)(I:In lt G a b)(hq:∀out st',OK lt a b out->Sm st st'->Q out st'):wpS (model prog w) A E s (Gz a b) Q st:=by
 have a0:=I.a0;have b0:=I.b0;have s0:Sm st st:=⟨rfl,rfl,rfl,rfl⟩;have M0:ML lt a b #[X b 0] 0 1:=by
  have M:ML lt a b #[] 0 0:=⟨by simp,by simp,by simpa using I.sa,by simpa using I.sb,by simp,by simp⟩;have:=M.pb (k:=0+1) (by lia) λi h1 h2 h3 j h4 h5=>by rw[show i=0 by lia];exact I.hf j h5
  rw[<- mm b0] at this;exact this
 refine μ (wpS_lift (aak ⟨rfl,?_⟩));refine μ (br (at_ b0) (aE (λc1=>?_) λc1=>aE (λc2=>?_) λc2=>μ (wpS_get ?_)));exact ξ (hq _ _ (M0.fin (.inr (by simp at c1;lia))) s0);exact ξ (hq _ _ (M0.last (by simpa using c2) I.hl) s0);have c1:1<b.size:=by simp at c1;lia
 have c2:0+1<a.size:=by simp at c2;lia
 refine μ (i6 (OK lt a b) (λx=>JL lt a b x) (λ_ _ _=>False) s0 ⟨M0,c2,c1,h_ _⟩ ?_ (λo i j J=>?_) (λr d st' hs hr=>ξ (hq r st' hr hs)) λ_ _ _ _ _ _ h=>h.elim)
 rotate_left
 have h1:=J.h1;have h2:=J.h2;have h3:=J.h3
 lia
 clear c1 c2 M0 s0 a0 b0;intro x out ia ib mg eG hx hs J;refine μ (i6 (OK lt a b) (λy=>JL lt a b (x+y)) (JL lt a b (x+1)) hs J ?_ (λo i j J=>?_) (λr d st' hs hr=>ξ (GB.dn hs hr)) ?_)
 . clear J hs;intro y out ia ib t eG hy hs J;have M:=J.M;have h1:=J.h1;have h2:=J.h2;have h3:=J.h3;dsimp only;refine μ (br (at_ h2) (μ (br (at_ (by lia)) (μ (C.lt (I.gb _ (c9 h2)) (I.ga _ (c9 (by lia))) (hs.k.trans hk) ?_)))));refine aE (λhw=>μ (br (at_ h2) ?_)) λhw=>μ (br (at_ (by lia)) ?_)
   . have M1:=M.pb (k:=ib+1) (by lia) λi h4 h5 h6 j h7 h8=>by rw[show i=ib by lia];exact C.od.le (C.od.as hw) (mj C.od I.sa h7 h8)
     rw[<- mm h2] at M1;refine aE (λz=>?_) λz=>aE (λ_=>?_) λ_=>?_;exact ξ (.dn hs (M1.fin (.inr (by simp at z;lia))))
     all_goals have z:ib+1<b.size:=by simp at z;lia
     exact ξ (.ot hs ⟨M1,h1,z,by lia⟩);exact ξ (.go hs ⟨M1,h1,z,by lia⟩)
   . have M1:=M.pa (k:=ia+1) (by lia) λi h4 h5 h6 j h7 h8=>by rw[show i=ia by lia];exact C.od.le (by simpa using hw) (mj C.od I.sb h7 h8)
     rw[<- mm (show ia<a.size by lia)] at M1;refine aE (λz=>?_) λz=>aE (λ_=>?_) λ_=>?_;exact ξ (.dn hs (M1.last (by simpa using z) I.hl))
     all_goals have z:ia+1+1<a.size:=by simp at z;lia
     exact ξ (.ot hs ⟨M1,z,h2,by lia⟩);exact ξ (.go hs ⟨M1,z,h2,by lia⟩)
 have h1:=J.h1;have h2:=J.h2;have h3:=J.h3
 lia
 clear J hs;intro out ia ib t eG hs J;refine μ (wpS_lift (aak ⟨rfl,?_⟩));refine μ (i6 (OK lt a b) (λy=>JL lt a b (x+1+y)) (JL lt a b (x+1)) hs J ?_ (λo i j J=>?_) (λr d st' hs hr=>ξ (GB.dn hs hr)) λo i j t st' hs J=>μ (aan (ξ (.go hs.of J))))
 rotate_left
 have h1:=J.h1;have h2:=J.h2;have h3:=J.h3
 lia
 clear J hs;intro y out ia ib t eG hy hs J;have h1:=J.h1;have h2:=J.h2;have h3:=J.h3;have VH:∀{Q':Option Nat->SortSt->Prop}{eG:SortSt},Sm st eG->(∀k≤a.size-ia,(∀i,ia<=i->i<ia+k->lt (X b ib) (X a i)=false)->(∀i,ia+k<=i->i<a.size->lt (X b ib) (X a i)=true)->Q' (some k) eG)->wpS (model prog w) A E s (kR false (X b ib) a ia (a.size-ia) 0) Q' eG:=λ{Q' eG} hs h=>by refine dO C (hs.k.trans hk) (I.gb _ (c9 h2)) (by lia) (λi=>!lt (X b ib) (X a (ia+i))) (λi hi=>⟨_,at_ (by lia),I.ga _ (c9 (by lia)),rfl⟩) (λi j Am hj hb=>?_) λk hk h4 h5=>h k hk (λi h6 h7=>?_) λi h6 h7=>?_;have:=mj C.od I.sa (show ia+i<=ia+j by lia) (by lia);simp only[Bool.not_eq_true'] at hb ⊢;exact C.od.le this hb;have:=h4 (i-ia) (by lia);rw[show ia+(i-ia)=i by lia] at this;simpa using this;have:=h5 (i-ia) (by lia) (by lia);rw[show ia+(i-ia)=i by lia] at this;simpa using this
 have GC:∀{Q':Option Nat->SortSt->Prop}{eG:SortSt}{ia ib:Nat},Sm st eG->ia<a.size->ib<b.size->(∀k≤b.size-ib,(∀i,ib<=i->i<ib+k->lt (X b i) (X a ia)=true)->(∀i,ib+k<=i->i<b.size->lt (X b i) (X a ia)=false)->Q' (some k) eG)->wpS (model prog w) A E s (kR true (X a ia) b ib (b.size-ib) 0) Q' eG:=λ{Q' eG ia ib} hs h1 h2 h=>by
  refine dO C (hs.k.trans hk) (I.ga _ (c9 h1)) (by lia) (λi=>lt (X b (ib+i)) (X a ia)) (λi hi=>⟨_,at_ (by lia),I.gb _ (c9 (by lia)),rfl⟩) (λi j Am hj hb=>?_) λk hk h4 h5=>h k hk (λi h6 h7=>?_) λi h6 h7=>?_;have:=mj C.od I.sb (show ib+i<=ib+j by lia) (by lia);rcases C.od.nt (X b (ib+i)) hb with z|z
  rw[this] at z;cases z;exact z;have:=h4 (i-ib) (by lia)
  rwa [show ib+(i-ib)=i by lia] at this
  have:=h5 (i-ib) (by lia) (by lia)
  rwa [show ib+(i-ib)=i by lia] at this
 dsimp -zeta -zetaHave -zetaUnused only
 extract_lets -underBinder -merge +onlyGivenNames s0 o s1 i s2 j s3 m s4 p q jp
 subst s0 o s1 i s2 j s3 m s4 p q;refine Ba jp (λ_ mg=>?_) λhj=>?_
 rotate_left
 clear_value jp
 exact aE (λ_=>hj _ _) λ_=>hj _ _;refine μ (aan (μ (br (at_ h2) (μ (VH hs.of λk yP h4 h5=>?_)))));clear jp;dsimp -zeta -zetaHave -zetaUnused only
 extract_lets -underBinder -merge +onlyGivenNames ac jp
 refine kS jp (λo i=>JL lt a b (x+1+y) o i ib/\∀j,i<=j->j<a.size->lt (X a j) (X b ib)=false) ?_ λhj=>?_
 rotate_left
 clear_value jp
 have M1:=J.M.pa (k:=ia+k) (by lia) λi h6 h7 h8 j h9 GD=>C.od.le (h4 i h6 h7) (mj C.od I.sb h9 GD);have F:∀j,ia+k<=j->j<a.size->lt (X a j) (X b ib)=false:=λj h6 h7=>C.od.as (h5 j h6 h7);refine aE (λzk=>aE (λz1=>?_) λz1=>aE (λz2=>?_) λz2=>hj _ _ _ ⟨⟨M1,by simp at z1 z2;lia,h2,by lia⟩,F⟩) λzk=>hj _ _ _ ⟨J,λj h6 h7=>F j (by lia) h7⟩;exact ξ (.dn hs.of (M1.last (by simpa using z1) I.hl));exact ξ (.dn hs.of (M1.fin (.inl (by simp at z2;lia))));clear h1 h3 h4 h5 yP J VH;intro _ out ia J;have h1:=J.1.h1;have h3:=J.1.h3;have M2:=J.1.M.pb (k:=ib+1) (by lia) λi h6 h7 h8 j h9 GD=>by rw[show i=ib by lia];exact J.2 j h9 GD
 rw[<- mm h2] at M2;refine μ (br (at_ h2) (aE (λz=>?_) λz=>?_));exact ξ (.dn hs.of (M2.fin (.inr (by simp at z;lia))));clear jp
 clear_value ac
 have z:ib+1<b.size:=by simp at z;lia
 refine μ (br (at_ (by lia)) (μ (GC hs.of (by lia) z λk yP h4 h5=>?_)));dsimp -zeta -zetaHave -zetaUnused only
 extract_lets -underBinder -merge +onlyGivenNames bc jp
 refine kS jp (λo i=>JL lt a b (x+1+y+1) o ia i/\∀j,i<=j->j<b.size->lt (X b j) (X a ia)=false) ?_ λhj=>?_
 rotate_left
 clear_value jp
 have M3:=M2.pb (k:=ib+1+k) (by lia) λi h6 h7 h8 j h9 GD=>C.od.le (C.od.as (h4 i h6 h7)) (mj C.od I.sa h9 GD);refine aE (λzk=>aE (λz1=>?_) λz1=>hj _ _ _ ⟨⟨M3,h1,by simp at z1;lia,by lia⟩,h5⟩) λzk=>hj _ _ _ ⟨⟨M2,h1,z,by lia⟩,λj h6 h7=>h5 j (by lia) h7⟩;exact ξ (.dn hs.of (M3.fin (.inr (by simp at z1;lia))));clear h1 h2 h3 h4 h5 yP M2 GC z J;intro _ out ib J;have h1:=J.1.h1;have h2:=J.1.h2;have h3:=J.1.h3;have M4:=J.1.M.pa (k:=ia+1) (by lia) λi h6 h7 h8 j h9 GD=>by rw[show i=ia by lia];exact J.2 j h9 GD
 rw[<- mm (show ia<a.size by lia)] at M4;refine μ (br (at_ (by lia)) (aE (λz=>?_) λz=>aE (λ_=>?_) λ_=>?_));exact ξ (.dn hs.of (M4.last (by simpa using z) I.hl))
 all_goals have z:ia+1+1<a.size:=by simp at z;lia
 exact ξ (.ot hs.of ⟨M4,z,h2,by lia⟩);exact ξ (.go hs.of ⟨M4,z,h2,by lia⟩)
variable{κ:SortKind}{lt:Kd->Kd->Bool}{G:Kd->Prop}
theorem mn{a:Array Kd}{x:Kd}(h:x∈(a.toList.take n).reverse):∃j,j<n/\j<a.size/\x=X a j:=by
 obtain⟨j,hj,e⟩:=SE.mp (List.mem_reverse.mp h);have vz:j<a.size/\j<n:=by simp at hj;lia
 refine⟨j,vz.2,vz.1,?_⟩;unfold X;rw[aam a _ vz.1,<- e];simp
theorem tE{a:Array Kd}{k:Nat}(h:k<=n):(a.toList.take n).reverse=(a.extract k n).reverse.toList++(a.toList.take k).reverse:=by
 rw[Array.toList_reverse,W0,List.extract_eq_drop_take,<- List.reverse_append]
 congr 1
 rw[show n=k+(n-k) by lia,List.take_add,show k+(n-k)-k=n-k by lia]
abbrev MH(lt:Kd->Kd->Bool)(a b out:Array Kd)(na nb:Nat):Prop:=Mg (λx y=>lt x y=false) (a.toList++b.toList) out.toList (a.toList.take na).reverse (b.toList.take nb).reverse
section
variable{a b:Array Kd}
def MH.pa{out:Array Kd}{na nb k:Nat}(M:MH lt a b out na nb)(h:k<=na)(hx:∀i,k<=i->i<na->i<a.size->∀j,j<nb->j<b.size->lt (X a i) (X b j)=false):MH lt a b (out++(a.extract k na).reverse) k nb:=by
 have M':Mg (λx y=>lt x y=false) (a.toList++b.toList) out.toList ((a.extract k na).reverse.toList++(a.toList.take k).reverse) (b.toList.take nb).reverse:=by rw[<- tE h];exact M
 have:=M'.a λu hu v hv=>by rw[Array.toList_reverse] at hu;obtain⟨i,h1,h2,h3,rfl⟩:=iJ (List.mem_reverse.mp hu);obtain⟨j,h4,h5,rfl⟩:=mn hv;exact hx i h1 h2 h3 j h4 h5
 unfold MH;rw[Iw];exact this
def MH.pb{out:Array Kd}{na nb k:Nat}(M:MH lt a b out na nb)(h:k<=nb)(hx:∀i,k<=i->i<nb->i<b.size->∀j,j<na->j<a.size->lt (X b i) (X a j)=false):MH lt a b (out++(b.extract k nb).reverse) na k:=by
 have M':Mg (λx y=>lt x y=false) (a.toList++b.toList) out.toList (a.toList.take na).reverse ((b.extract k nb).reverse.toList++(b.toList.take k).reverse):=by rw[<- tE h];exact M
 have:=M'.b λu hu v hv=>by rw[Array.toList_reverse] at hu;obtain⟨i,h1,h2,h3,rfl⟩:=iJ (List.mem_reverse.mp hu);obtain⟨j,h4,h5,rfl⟩:=mn hv;exact hx i h1 h2 h3 j h4 h5
 unfold MH;rw[Iw];exact this
theorem kU{out a:Array Kd}(h:i-1<a.size)(h0:0<i):out.push (X a (i-1))=out++(a.extract (i-1) i).reverse:=by
 have:=mm (out:=#[]) h;rw[show i-1+1=i by lia] at this;have e:a.extract (i-1) i=#[X a (i-1)]:=by rw[Array.empty_append] at this;rw[<- this];rfl
 rw[e];rfl
def Bb{l r:List Kd}{U:List Kd}(h:l.Perm U/\l.Pairwise λx y=>lt x y=false)(e:r=l.reverse):r.Perm U/\r.Pairwise (RR lt):=by subst e;exact⟨(List.reverse_perm l).trans h.1,List.pairwise_reverse.mpr h.2⟩
theorem MH.fin{out:Array Kd}{na nb:Nat}(M:MH lt a b out na nb)(h:na=0\/nb=0):OK lt a b (a.extract 0 na++b.extract 0 nb++out.reverse):=by
 refine Bb (Mg.fin (Mg.swap M) λu hu v hv=>?_) ?_;obtain⟨i,h1,_⟩:=mn hu;obtain⟨j,h3,_⟩:=mn hv
 lia
 simp[List.extract_eq_drop_take]
theorem MH.last{out:Array Kd}{na nb:Nat}(M:MH lt a b out na nb)(e:nb=1)(hl:∀j,j<a.size->lt (X a j) (X b 0)=false):OK lt a b (b.extract 0 nb++a.extract 0 na++out.reverse):=by refine Bb (Mg.fin M λu hu v hv=>?_) ?_;obtain⟨i,h1,h2,rfl⟩:=mn hu;obtain⟨j,h3,h4,rfl⟩:=mn hv;rw[show j=0 by lia];exact hl i h2;simp[List.extract_eq_drop_take]
end
structure JH(lt:Kd->Kd->Bool)(a b:Array Kd)(c:Nat)(na nb:Nat)(o:Array Kd):Prop where
 M:MH lt a b o na nb
 h1:0<na
 zz:na<a.size
 h2:1<nb
 C5:nb<=b.size
 h3:c+na+nb<a.size+b.size
theorem QF(C:Cp prog w A E s κ lt G){a b:Array Kd}{st:SortSt}{Q:Array Kd->SortSt->Prop}(hk:kindOf st=κ)(I:In lt G a b)(hq:∀out st',OK lt a b out->Sm st st'->Q out st'):wpS (model prog w) A E s (GA a b) Q st:=by
 have a0:=I.a0;have b0:=I.b0;have s0:Sm st st:=⟨rfl,rfl,rfl,rfl⟩;have M0:MH lt a b #[X a (a.size-1)] (a.size-1) b.size:=by
  have M:MH lt a b #[] a.size b.size:=by have e1:a.toList.take a.size=a.toList:=RK (by simp);have e2:b.toList.take b.size=b.toList:=RK (by simp);unfold MH;rw[e1,e2];refine⟨?_,by simp,List.pairwise_reverse.mpr I.sa,List.pairwise_reverse.mpr I.sb,by simp,by simp⟩;simpa using (List.reverse_perm a.toList).append (List.reverse_perm b.toList)
  have:=M.pa (k:=a.size-1) (by lia) λi h1 h2 h3 j h4 h5=>by rw[show i=a.size-1 by lia];exact I.hl j h5
  rw[<- kU (by lia) a0] at this;exact this
 refine μ (wpS_lift (aak ⟨rfl,?_⟩));refine μ (br (at_ (show a.size-1<a.size by lia)) (aE (λc1=>?_) λc1=>aE (λc2=>?_) λc2=>μ (wpS_get ?_)));exact ξ (hq _ _ (M0.fin (.inl (by simpa using c1))) s0);exact ξ (hq _ _ (M0.last (by simpa using c2) I.hf) s0);have c1:0<a.size-1:=by simp at c1;lia
 have c2:1<b.size:=by simp at c2;lia
 refine μ (i6 (OK lt a b) (λx=>JH lt a b x) (λ_ _ _=>False) s0 ⟨M0,c1,by lia,c2,by lia,by lia⟩ ?_ (λi j o J=>?_) (λr d st' hs hr=>ξ (hq r st' hr hs)) λ_ _ _ _ _ _ h=>h.elim)
 rotate_left
 have h3:=J.h3
 lia
 clear c1 c2 M0 s0 a0 b0;intro x na nb out mg eG hx hs J;refine μ (i6 (OK lt a b) (λy=>JH lt a b (x+y)) (JH lt a b (x+1)) hs J ?_ (λi j o J=>?_) (λr d st' hs hr=>ξ (GB.dn hs hr)) ?_)
 . clear J hs;intro y na nb out t eG hy hs J;have M:=J.M;have h1:=J.h1;have zz:=J.zz;have h2:=J.h2;have C5:=J.C5;have h3:=J.h3;dsimp only;refine μ (br (at_ (by lia)) (μ (br (at_ (by lia)) (μ (C.lt (I.gb _ (c9 (by lia))) (I.ga _ (c9 (by lia))) (hs.k.trans hk) ?_)))));refine aE (λhw=>μ (br (at_ (by lia)) ?_)) λhw=>μ (br (at_ (by lia)) ?_)
   . have M1:=M.pa (k:=na-1) (by lia) λi h4 h5 h6 j h7 h8=>by rw[show i=na-1 by lia];exact C.od.le (mj C.od I.sb (show j<=nb-1 by lia) (by lia)) (C.od.as hw)
     rw[<- kU (by lia) h1] at M1;refine aE (λz=>?_) λz=>aE (λ_=>?_) λ_=>?_;exact ξ (.dn hs (M1.fin (.inl (by simpa using z))))
     all_goals have z:0<na-1:=by simp at z;lia
     exact ξ (.ot hs ⟨M1,z,by lia,h2,C5,by lia⟩);exact ξ (.go hs ⟨M1,z,by lia,h2,C5,by lia⟩)
   . have M1:=M.pb (k:=nb-1) (by lia) λi h4 h5 h6 j h7 h8=>by rw[show i=nb-1 by lia];exact C.od.le (mj C.od I.sa (show j<=na-1 by lia) (by lia)) (by simpa using hw)
     rw[<- kU (by lia) (by lia)] at M1;refine aE (λz=>?_) λz=>aE (λ_=>?_) λ_=>?_;exact ξ (.dn hs (M1.last (by simpa using z) I.hf))
     all_goals have z:1<nb-1:=by simp at z;lia
     exact ξ (.ot hs ⟨M1,h1,zz,z,by lia,by lia⟩);exact ξ (.go hs ⟨M1,h1,zz,z,by lia,by lia⟩)
 have h3:=J.h3
 lia
 clear J hs;intro na nb out t eG hs J;refine μ (wpS_lift (aak ⟨rfl,?_⟩));refine μ (i6 (OK lt a b) (λy=>JH lt a b (x+1+y)) (JH lt a b (x+1)) hs J ?_ (λi j o J=>?_) (λr d st' hs hr=>ξ (GB.dn hs hr)) λo i j t st' hs J=>μ (aan (ξ (.go hs.of J))))
 rotate_left
 have h3:=J.h3
 lia
 clear J hs;intro y na nb out t eG hy hs J;have h1:=J.h1;have zz:=J.zz;have h2:=J.h2;have C5:=J.C5;have h3:=J.h3;have VH:∀{Q':Option Nat->SortSt->Prop}{eG:SortSt},Sm st eG->(∀k≤na,(∀i,i<k->lt (X b (nb-1)) (X a i)=false)->(∀i,k<=i->i<na->lt (X b (nb-1)) (X a i)=true)->Q' (some k) eG)->wpS (model prog w) A E s (kR false (X b (nb-1)) a 0 na (na-1)) Q' eG:=λ{Q' eG} hs h=>by refine dO C (hs.k.trans hk) (I.gb _ (c9 (by lia))) (by lia) (λi=>!lt (X b (nb-1)) (X a i)) (λi hi=>⟨_,by rw[Nat.zero_add];exact at_ (by lia),I.ga _ (c9 (by lia)),rfl⟩) (λi j Am hj hb=>?_) λk hk h4 h5=>h k hk (λi h6=>?_) λi h6 h7=>?_;simp only[Bool.not_eq_true'] at hb ⊢;exact C.od.le (mj C.od I.sa Am (by lia)) hb;simpa using h4 i h6;simpa using h5 i h6 h7
 have GC:∀{Q':Option Nat->SortSt->Prop}{eG:SortSt}{na nb:Nat},Sm st eG->0<na->na<=a.size->0<nb->nb<=b.size->(∀k≤nb,(∀i,i<k->lt (X b i) (X a (na-1))=true)->(∀i,k<=i->i<nb->lt (X b i) (X a (na-1))=false)->Q' (some k) eG)->wpS (model prog w) A E s (kR true (X a (na-1)) b 0 nb (nb-1)) Q' eG:=λ{Q' eG na nb} hs h1 zz h2 C5 h=>by
  refine dO C (hs.k.trans hk) (I.ga _ (c9 (by lia))) (by lia) (λi=>lt (X b i) (X a (na-1))) (λi hi=>⟨_,by rw[Nat.zero_add];exact at_ (by lia),I.gb _ (c9 (by lia)),rfl⟩) (λi j Am hj hb=>?_) h;rcases C.od.nt (X b i) hb with z|z
  rw[mj C.od I.sb Am (by lia)] at z;cases z;exact z
 dsimp -zeta -zetaHave -zetaUnused only
 extract_lets -underBinder -merge +onlyGivenNames s0 o s1 i s2 j s3 m s4 p q jp
 subst s0 o s1 i s2 j s3 m s4 p q;refine Ba jp (λ_ mg=>?_) λhj=>?_
 rotate_left
 clear_value jp
 exact aE (λ_=>hj _ _) λ_=>hj _ _;refine μ (aan (μ (br (at_ (by show nb-1<b.size;lia)) (μ (VH hs.of λk yP h4 h5=>?_)))));clear jp;dsimp -zeta -zetaHave -zetaUnused only
 extract_lets -underBinder -merge +onlyGivenNames kk ac jp
 refine kS jp (λi o=>JH lt a b (x+1+y) i nb o/\∀j,j<i->lt (X b (nb-1)) (X a j)=false) ?_ λhj=>?_
 rotate_left
 clear_value jp
 subst kk;have M1:=J.M.pa (k:=k) (by lia) λi h6 h7 h8 j h9 GD=>C.od.le (mj C.od I.sb (show j<=nb-1 by lia) (by lia)) (C.od.as (h5 i h6 h7));refine aE (λzk=>aE (λz1=>?_) λz1=>hj _ _ _ ⟨⟨M1,by simp at z1;lia,by lia,h2,C5,by lia⟩,h4⟩) λzk=>hj _ _ _ ⟨J,λj h6=>h4 j (by lia)⟩;exact ξ (.dn hs.of (M1.fin (.inl (by simpa using z1))));clear h1 zz h3 h4 h5 yP J VH;intro _ na out J;have h1:=J.1.h1;have zz:=J.1.zz;have h3:=J.1.h3;have M2:=J.1.M.pb (k:=nb-1) (by lia) λi h6 h7 h8 j h9 GD=>by rw[show i=nb-1 by lia];exact J.2 j h9
 rw[<- kU (by lia) (by lia)] at M2;refine μ (br (at_ (by show nb-1<b.size;lia)) (aE (λz=>?_) λz=>?_));exact ξ (.dn hs.of (M2.last (by simpa using z) I.hf));clear jp
 clear_value ac
 have z:1<nb-1:=by simp at z;lia
 refine μ (br (at_ (by show na-1<a.size;lia)) (μ (GC hs.of h1 (by lia) (by lia) (by lia) λk yP h4 h5=>?_)));dsimp -zeta -zetaHave -zetaUnused only
 extract_lets -underBinder -merge +onlyGivenNames kk bc jp
 refine kS jp (λj o=>JH lt a b (x+1+y+1) na j o/\∀i,i<j->lt (X b i) (X a (na-1))=true) ?_ λhj=>?_
 rotate_left
 clear_value jp
 subst kk;have M3:=M2.pb (k:=k) (by lia) λi h6 h7 h8 j h9 GD=>C.od.le (mj C.od I.sa (show j<=na-1 by lia) (by lia)) (h5 i h6 h7);refine aE (λzk=>aE (λz1=>?_) λz1=>aE (λz2=>?_) λz2=>hj _ _ _ ⟨⟨M3,h1,zz,by simp at z1 z2;lia,by lia,by lia⟩,h4⟩) λzk=>hj _ _ _ ⟨⟨M2,h1,zz,z,by lia,by lia⟩,λi h6=>h4 i (by lia)⟩;exact ξ (.dn hs.of (M3.last (by simpa using z1) I.hf));exact ξ (.dn hs.of (M3.fin (.inr (by simpa using z2))));clear h1 zz h2 C5 h3 h4 h5 yP M2 GC z J;intro _ nb out J;have h1:=J.1.h1;have zz:=J.1.zz;have h2:=J.1.h2;have C5:=J.1.C5;have h3:=J.1.h3;have M4:=J.1.M.pa (k:=na-1) (by lia) λi h6 h7 h8 j h9 GD=>by rw[show i=na-1 by lia];exact C.od.as (J.2 j h9)
 rw[<- kU (by lia) h1] at M4;refine μ (br (at_ (by show na-1<a.size;lia)) (aE (λz=>?_) λz=>aE (λ_=>?_) λ_=>?_));exact ξ (.dn hs.of (M4.fin (.inl (by simpa using z))))
 all_goals have z:0<na-1:=by simp at z;lia
 exact ξ (.ot hs.of ⟨M4,z,by lia,h2,C5,by lia⟩);exact ξ (.go hs.of ⟨M4,z,by lia,h2,C5,by lia⟩)
variable{κ:SortKind}{lt:Kd->Kd->Bool}{G:Kd->Prop}
def Sg(lt:Kd->Kd->Bool)(xs:Array Kd)(lo hi:Nat):Prop:=∀i j,lo<=i->i<=j->j<hi->lt (X xs j) (X xs i)=false
def Ng(lt:Kd->Kd->Bool)(xs:Array Kd)(lo hi:Nat):Prop:=∀i j,lo<=i->i<=j->j<hi->lt (X xs i) (X xs j)=false
def Ev(lt:Kd->Kd->Bool)(xs:Array Kd)(lo hi:Nat):Prop:=∀i j,lo<=i->i<hi->lo<=j->j<hi->lt (X xs i) (X xs j)=false
def i7{xs ys:Array Kd}(h:xs[i]?=ys[j]?):X xs i=X ys j:=by unfold X;rw[h]
def xm{xs:Array Kd}(hj:j<=xs.size)(k:Nat):X (mirror xs i j ((j-i) / 2)) k=if i<=k/\k<j then X xs (i+j-1-k) else X xs k:=by have e:=getElem?_mirror_all (i:=i) hj k;by_cases h1:i<=k/\k<j;rw[ι h1] at e ⊢;exact i7 e;rw[η h1] at e ⊢;exact i7 e
def GF{xs:Array Kd}{src d:Nat}(hs:src<xs.size)(hd:d<=src)(k:Nat):X (bubble xs src d) k=if k=src-d then X xs src else if src-d<k/\k<=src then X xs (k-1) else X xs k:=by have e:=getElem?_bubble hs d hd k;by_cases h1:k=src-d;rw[ι h1] at e ⊢;exact i7 e;rw[η h1] at e ⊢;by_cases h2:src-d<k/\k<=src;rw[ι h2] at e ⊢;exact i7 e;rw[η h2] at e ⊢;exact i7 e
theorem Ng.NC{xs:Array Kd}{hi:Nat}(h:Ng lt xs lo hi)(h1:lo<=i)(h2:j<=hi)(h3:hi<=xs.size)(e:Ev lt xs i j):Ng lt (mirror xs i j ((j-i) / 2)) lo hi:=λp q hp hpq hq=>by
 rw[xm (by lia),xm (by lia)]
 repeat' split
 exact e _ _ (by lia) (by lia) (by lia) (by lia);exact h _ _ (by lia) (by lia) (by lia);exact h _ _ (by lia) (by lia) (by lia);exact h _ _ hp hpq hq
theorem Ng.rev{xs:Array Kd}(h:Ng lt xs lo (lo+n))(h3:lo+n<=xs.size):Sg lt (mirror xs lo (lo+n) ((lo+n-lo) / 2)) lo (lo+n):=λp q hp hpq hq=>by rw[xm h3,xm h3,ι (by lia),ι (by lia)];exact h _ _ (by lia) (by lia) (by lia)
structure Kp(lo:Nat)(st st':SortSt):Prop where
 k:kindOf st'=kindOf st
 p:pendingOf st'=pendingOf st
 f:failedOf st'=failedOf st
 m:(arrOf st').Perm (arrOf st)
 l:∀i<lo,X (arrOf st') i=X (arrOf st) i
def Kp.refl(st:SortSt):Kp lo st st:=⟨rfl,rfl,rfl,.refl _,λ_ _=>rfl⟩
def Kp.trans{a b c:SortSt}(h:Kp lo a b)(g:Kp lo b c):Kp lo a c:=⟨g.k.trans h.k,g.p.trans h.p,g.f.trans h.f,g.m.trans h.m,λi hi=>(g.l i hi).trans (h.l i hi)⟩
theorem Kp.NC{st:SortSt}(h1:lo<=i)(h2:j<=(arrOf st).size):Kp lo st (setArr st (mirror (arrOf st) i j ((j-i) / 2))):=⟨rfl,rfl,rfl,mirror_perm _ _ _ _,λk hk=>by show X (mirror _ _ _ _) k=_;rw[xm h2,η (by lia)]⟩
structure Gd(κ:SortKind)(G:Kd->Prop)(st:SortSt):Prop where
 k:kindOf st=κ
 g:∀x∈(arrOf st).toList,G x
def Kp.gd{st st':SortSt}(h:Kp lo st st')(g:Gd κ G st):Gd κ G st':=⟨h.k.trans g.k,λx hx=>g.g x ((Ss.mp h.m).mem_iff.mp hx)⟩
def pB(C:Cp prog w A E s κ lt G){st:SortSt}{Q:Option Bool->SortSt->Prop}(g:Gd κ G st)(hi:i<(arrOf st).size)(hj:j<(arrOf st).size)(h:Q (some (lt (X (arrOf st) i) (X (arrOf st) j))) st):wpS (model prog w) A E s (ltAt' i j) Q st:=by rw[ltAt'_eq];exact μ (wpS_get (μ (br (at_ hi) (μ (br (at_ hj) (C.lt (g.g _ (c9 hi)) (g.g _ (c9 hj)) g.k h))))))
def kW{st:SortSt}{Q:Unit->SortSt->Prop}(h:Q () (setArr st (mirror (arrOf st) i j ((j-i) / 2)))):wpS (model prog w) A E s (reverseSlice' i j) Q st:=by rw[reverseSlice'_eq];exact aan h
theorem Bc(C:Cp prog w A E s κ lt G){st:SortSt}{a hW:Nat}{Q:Option (Option Nat)×Nat->SortSt->Prop}(g:Gd κ G st)(hn:lo+hW<=(arrOf st).size)(ha:1<=a)(han:a<=hW)(hs:Sg lt (arrOf st) lo (lo+a))(h:∀n,a<=n->n<=hW->Sg lt (arrOf st) lo (lo+n)->(n=hW\/lt (X (arrOf st) (lo+n)) (X (arrOf st) (lo+n-1))=true)->Q (none,n) st) :
  wpS (model prog w) A E s (forIn [a:hW] (none,a) λ_ c=>do
   match <- ltAt' (lo+c.2) (lo+c.2-1) with
   |some z=>if z=true then pure (.done (none,c.2)) else pure (.yield (none,c.2+1))
   |_=>pure (.done (some none,c.2))) Q st:=by
 refine aab (I:=λx c st'=>st'=st/\c=(none,x)/\Sg lt (arrOf st) lo (lo+x)) ?_ ?_ ⟨rfl,rfl,hs⟩;rintro x c st' hax hxn ⟨rfl,rfl,vA⟩;dsimp only;refine μ (pB C g (by lia) (by lia) ?_);dsimp only;cases hc:lt (X (arrOf st') (lo+x)) (X (arrOf st') (lo+x-1)) with
 |true=>exact ξ (h x hax (by lia) vA (.inr hc))
 |false=>refine ξ ⟨rfl,rfl,λi j h1 h2 h3=>?_⟩;by_cases z:j<lo+x;exact vA i j h1 h2 z;rw[show j=lo+x by lia];by_cases z2:i=lo+x;rw[z2];exact C.od.DR _;exact C.od.le (vA i (lo+x-1) h1 (by lia) (by lia)) hc
 rintro c st' ⟨rfl,rfl,vA⟩;rw[show max a hW=hW by lia] at vA ⊢;exact h hW han (cc _) vA (.inl rfl)
theorem C6(C:Cp prog w A E s κ lt G){st:SortSt}{hW:Nat}{Q:Option Nat->SortSt->Prop}(g:Gd κ G st)(hn:lo+hW<=(arrOf st).size)(h1:1<=hW)(h:∀m st',Kp lo st st'->1<=m->m<=hW->Sg lt (arrOf st') lo (lo+m)->Q (some m) st'):wpS (model prog w) A E s (countRun' lo hW) Q st:=by
 refine μ (Bc C g hn (cc 1) h1 (λi j h1 h2 h3=>by rw[show i=j by lia];exact C.od.DR _) λn QG Tj XM hor=>?_);dsimp only;refine aE (λz=>?_) λz=>?_;exact ξ (h n st (Kp.refl _) QG Tj XM);have z:n≠hW:=by simpa using z
 have d_:=hor.resolve_left z;have qj:lo+n<(arrOf st).size:=by lia
 have hN:(∀i,lo<=i->i<lo+n->lt (X (arrOf st) i) (X (arrOf st) (lo+n-1))=false)->Ng lt (arrOf st) lo (lo+n+1)/\Ev lt (arrOf st) lo (lo+n):=λhe=>by have ev:Ev lt (arrOf st) lo (lo+n):=λi j h1 h2 h3 h4=>C.od.le (XM j (lo+n-1) h3 (by lia) (by lia)) (he i h1 h2);refine⟨λi j h1 h2 h3=>?_,ev⟩;by_cases z:j<lo+n;exact ev i j h1 (by lia) (by lia) z;rw[show j=lo+n by lia];by_cases z2:i=lo+n;rw[z2];exact C.od.DR _;exact C.od.le (C.od.as d_) (ev i (lo+n-1) h1 (by lia) (by lia) (by lia))
 refine aE (λz2=>μ (pB C g (by lia) (by lia) (aE (λhc=>?_) λhc=>μ (kW ?_)))) λz2=>?_;exact ξ (h n st (Kp.refl _) QG Tj XM)
 case' _=>
  obtain⟨hN1,IK⟩:=hN λi h1 h2=>C.od.le (by simpa using hc) (XM lo i (cc _) h1 h2);have K1:Kp lo st (setArr st (mirror (arrOf st) lo (lo+n) ((lo+n-lo) / 2))):=Kp.NC (j:=lo+n) (cc lo) (by lia);have N1:Ng lt (arrOf (setArr st (mirror (arrOf st) lo (lo+n) ((lo+n-lo) / 2)))) lo (lo+n+1):=hN1.NC (cc _) (Mz _) qj IK;generalize setArr st (mirror (arrOf st) lo (lo+n) ((lo+n-lo) / 2))=eG at K1 N1 ⊢
 rotate_left
 case' _=>
  obtain⟨eG,e,K1,N1⟩:∃eG,eG=st/\Kp lo st eG/\Ng lt (arrOf eG) lo (lo+n+1):=⟨st,rfl,Kp.refl _,(hN λi h1 h2=>by rw[show i=lo+n-1 by lia];exact C.od.DR _).1⟩;rw[<- e]
 all_goals
  refine μ (wpS_lift (aak ⟨rfl,?_⟩));refine μ (aau (aab (I:=λx c st'=>∃Bd,c=(none,x,Bd)/\Kp lo st st'/\Ng lt (arrOf st') lo (lo+x)/\Bd+1<=x/\Ev lt (arrOf st') (lo+x-(Bd+1)) (lo+x))
   (Q:=λc st'=>∃m Bd,c=(none,m,Bd)/\1<=m/\m<=hW/\Kp lo st st'/\Ng lt (arrOf st') lo (lo+m)/\Bd+1<=m/\Ev lt (arrOf st') (lo+m-(Bd+1)) (lo+m)) ?_ ?_ ⟨0,rfl,K1,N1,by lia,λi j h1 h2 h3 h4=>by rw[show i=j by lia];exact C.od.DR _⟩) ?_)
  . rintro x c st' hax hxn ⟨Bd,rfl,K2,N2,hq,ev⟩;dsimp only;have sz:(arrOf st').size=(arrOf st).size:=K2.m.size_eq;refine μ (pB C (K2.gd g) (by lia) (by lia) (aE (λhc=>?_) λhc=>μ (pB C (K2.gd g) (by lia) (by lia) (aE (λhd=>?_) λhd=>?_))))
    . have N3:Ng lt (arrOf st') lo (lo+x+1):=λi j h1 h2 h3=>by by_cases z:j<lo+x;exact N2 i j h1 h2 z;rw[show j=lo+x by lia];by_cases z2:i=lo+x;rw[z2];exact C.od.DR _;exact C.od.le (C.od.as hc) (N2 i (lo+x-1) h1 (by lia) (by lia))
      refine aE (λ_=>μ (kW (ξ ⟨0,rfl,K2.trans (Kp.NC (by lia) (by lia)),N3.NC (by lia) (by lia) (by lia) ev,by lia,λi j h1 h2 h3 h4=>?_⟩))) λ_=>ξ ⟨0,rfl,K2,N3,by lia,λi j h1 h2 h3 h4=>?_⟩
      all_goals rw[show i=j by lia];exact C.od.DR _
    exact ξ ⟨x,Bd,rfl,by lia,by lia,K2,N2,hq,ev⟩;have hc:lt (X (arrOf st') (lo+x)) (X (arrOf st') (lo+x-1))=false:=by simpa using hc
    have hd:lt (X (arrOf st') (lo+x-1)) (X (arrOf st') (lo+x))=false:=by simpa using hd
    refine ξ ⟨Bd+1,rfl,K2,λi j h1 h2 h3=>?_,by lia,λi j h1 h2 h3 h4=>?_⟩;by_cases z:j<lo+x;exact N2 i j h1 h2 z;rw[show j=lo+x by lia];by_cases z2:i=lo+x;rw[z2];exact C.od.DR _;exact C.od.le hd (N2 i (lo+x-1) h1 (by lia) (by lia));by_cases z:i=lo+x;by_cases z2:j=lo+x;rw[z,z2];exact C.od.DR _;rw[z];exact C.od.le (ev (lo+x-1) j (by lia) (by lia) (by lia) (by lia)) hc;by_cases z2:j=lo+x;rw[z2];exact C.od.le hd (ev i (lo+x-1) (by lia) (by lia) (by lia) (by lia));exact ev i j (by lia) (by lia) (by lia) (by lia)
  rintro c st' ⟨Bd,rfl,K2,N2,hq,ev⟩;rw[show max (n+1) hW=hW by lia] at N2 hq ev ⊢;exact⟨hW,Bd,rfl,h1,cc _,K2,N2,hq,ev⟩;rintro c qi ⟨m,Bd,rfl,Ld,hm2,K2,N2,hq,ev⟩;dsimp only;have sz:(arrOf qi).size=(arrOf st).size:=K2.m.size_eq;have last:∀ya,Kp lo st ya->Ng lt (arrOf ya) lo (lo+m)->Kp lo st (setArr ya (mirror (arrOf ya) lo (lo+m) ((lo+m-lo) / 2)))/\Sg lt (arrOf (setArr ya (mirror (arrOf ya) lo (lo+m) ((lo+m-lo) / 2)))) lo (lo+m):=λya K3 N3=>by have sz:(arrOf ya).size=(arrOf st).size:=K3.m.size_eq;exact⟨K3.trans (Kp.NC (cc _) (by lia)),N3.rev (by lia)⟩
  refine aE (λ_=>μ (kW (μ (kW ?_)))) λ_=>μ (kW ?_)
  case' _=>obtain⟨K4,S4⟩:=last _ (K2.trans (Kp.NC (i:=lo+m-(Bd+1)) (j:=lo+m) (by lia) (by lia))) (N2.NC (by lia) (by lia) (by lia) ev)
  rotate_left
  case' _=>obtain⟨K4,S4⟩:=last _ K2 N2
  all_goals
   refine μ (Bc C (K4.gd g) (by rw[K4.m.size_eq];exact hn) Ld hm2 S4 λk yP PU hs _=>?_);exact ξ (h k _ K4 (by lia) PU hs)
variable{κ:SortKind}{lt:Kd->Kd->Bool}{G:Kd->Prop}
theorem Lx(C:Cp prog w A E s κ lt G){st:SortSt}{ok:Nat}{Q:Bool->SortSt->Prop}(g:Gd κ G st)(hn:lo+n<=(arrOf st).size)(bF:ok<=n)(hs:Sg lt (arrOf st) lo (lo+ok))(h:∀st',Kp lo st st'->Sg lt (arrOf st') lo (lo+n)->Q true st'):wpS (model prog w) A E s (binarySort' lo n ok) Q st:=by
 refine μ (aau (aab (I:=λk c st'=>c=(none,())/\Kp lo st st'/\Sg lt (arrOf st') lo (lo+min k n))
  (Q:=λc st'=>c=(none,())/\Kp lo st st'/\Sg lt (arrOf st') lo (lo+n)) ?step ?fin ?init) ?post)
 case post=>
  rintro c st' ⟨rfl,K,vA⟩;exact ξ (h st' K vA)
 case init=>
  refine⟨rfl,Kp.refl _,λi j h1 h2 h3=>?_⟩;by_cases z:ok=0;rw[show i=j by lia];exact C.od.DR _;exact hs i j h1 h2 (by lia)
 case fin=>
  rintro c st' ⟨hc,K,vA⟩;refine⟨hc,K,?_⟩
  rwa [show min (max (max ok 1) n) n=n by lia] at vA
 case step=>
  rintro k c st' hak AV ⟨rfl,K,vA⟩;rw[show min k n=k by lia] at vA;have sz:=K.m.size_eq;refine μ (aau (aab (I:=λx c qM=>qM=st'/\∃l r,c=(none,l,r)/\l<=r/\r<=k/\r-l<=k-x /\
    (∀i,lo<=i->i<lo+l->lt (X (arrOf st') (lo+k)) (X (arrOf st') i)=false)/\(∀i,lo+r<=i->i<lo+k->lt (X (arrOf st') (lo+k)) (X (arrOf st') i)=true))
   (Q:=λc qM=>qM=st'/\∃l r,c=(none,l,r)/\l<=k /\
     (∀i,lo<=i->i<lo+l->lt (X (arrOf st') (lo+k)) (X (arrOf st') i)=false)/\(∀i,lo+l<=i->i<lo+k->lt (X (arrOf st') (lo+k)) (X (arrOf st') i)=true)) ?_ ?_ ⟨rfl,0,k,rfl,by lia,by lia,by lia,λi _ _=>by lia,λi _ _=>by lia⟩) ?_)
  rintro x c qM _ hxk ⟨rfl,l,r,rfl,hlr,hrk,hm,IE,Si⟩;dsimp only;refine aE (λz=>?_) λz=>μ (pB C (K.gd g) (by lia) (by lia) (aE (λhc=>?_) λhc=>?_));exact ξ ⟨rfl,l,r,rfl,by lia,IE,λi h1 h2=>Si i (by lia) h2⟩;refine ξ ⟨rfl,l,(l+r) / 2,rfl,by lia,by lia,by lia,IE,λi h1 h2=>?_⟩;rcases C.od.nt (X (arrOf qM) i) hc with z|z
  exact z;rw[vA _ _ (by lia) h1 h2] at z;cases z;exact ξ ⟨rfl,(l+r) / 2+1,r,rfl,by lia,by lia,by lia,λi h1 h2=>C.od.le (vA i (lo+(l+r) / 2) h1 (by lia) (by lia)) (by simpa using hc),Si⟩;rintro c qM ⟨rfl,l,r,rfl,hlr,hrk,hm,IE,Si⟩;exact⟨rfl,l,r,rfl,by lia,IE,λi h1 h2=>Si i (by lia) h2⟩;rintro c qM ⟨rfl,l,r,rfl,hlk,IE,Si⟩;refine μ (aan (ξ ⟨rfl,K.trans ⟨rfl,rfl,rfl,bubble_perm _ _ _,λi hi=>?_⟩,?_⟩));show X (bubble (arrOf qM) (lo+k) (lo+k-(lo+l))) i=_;rw[GF (by lia) (by lia),η (by lia),η (by lia)]
  . rw[show min (k+1) n=k+1 by lia];intro i j h1 h2 h3;show lt (X (bubble (arrOf qM) (lo+k) (lo+k-(lo+l))) j) (X (bubble (arrOf qM) (lo+k) (lo+k-(lo+l))) i)=false;rw[GF (by lia) (by lia),GF (by lia) (by lia),show lo+k-(lo+k-(lo+l))=lo+l by lia]
    repeat' split
    all_goals first
     | (exfalso;lia)
     |exact C.od.DR _
     |exact IE _ (by lia) (by lia)
     |exact C.od.as (Si _ (by lia) (by lia))
     |exact vA _ _ (by lia) (by lia) (by lia)
variable{κ:SortKind}{lt:Kd->Kd->Bool}{G:Kd->Prop}
noncomputable def putL(a:Array Kd)(sa:Nat)(l:List Kd)(c:Nat):Array Kd:=(l.zipIdx c).foldl (λa (x:Kd×Nat)=>match x with|(p,j)=>a.setIfInBounds (sa+j) p) a
theorem pD:∀(l:List Kd)(a:Array Kd)(sa c:Nat),sa+c+l.length<=a.size->(putL a sa l c).toList=a.toList.take (sa+c)++(l++a.toList.drop (sa+c+l.length))
 |[],a,sa,c,_=>by simp[putL]
 |p::l,a,sa,c,h=>by
  rw[yf] at h;have hl:sa+c<a.toList.length:=by simp;lia
  show (putL (a.setIfInBounds (sa+c) p) sa l (c+1)).toList=_;rw[pD l _ sa (c+1) (by simp;lia),Array.toList_setIfInBounds,List.set_eq_take_append_cons_drop,ι hl,show sa+(c+1)=sa+c+1 by lia,yf];have e1:(a.toList.take (sa+c)).length=sa+c:=by rw[IT];lia
  rw[List.take_append,List.drop_append,e1,show sa+c+1-(sa+c)=1 by lia,show sa+c+1+l.length-(sa+c)=l.length+1 by lia,List.drop_succ_cons,List.drop_drop,List.take_succ_cons,List.take_zero,RK (by lia),List.drop_of_length_le (by lia),show sa+c+1+l.length=sa+c+(l.length+1) by lia];simp
noncomputable def put(a:Array Kd)(sa:Nat)(b:Array Kd):Array Kd:=putL a sa b.toList 0
def xn{a b:Array Kd}{sa:Nat}(h:sa+b.size<=a.size):(put a sa b).toList=a.toList.take sa++(b.toList++a.toList.drop (sa+b.size)):=pD b.toList a sa 0 h
def pF(a:Array Kd)(i:Nat):X a i=a.toList[i]?.getD (.none,.none):=by unfold X;rw[IS]
theorem GG{a b:Array Kd}{sa:Nat}(h:sa+b.size<=a.size)(j:Nat):X (put a sa b) j=if sa<=j/\j<sa+b.size then X b (j-sa) else X a j:=by
 have e1:(a.toList.take sa).length=sa:=by rw[IT];simp;lia
 rw[pF,xn h];by_cases z:j<sa;rw[η (by lia),mK (by lia),List.getElem?_take_of_lt z,<- pF];rw[p8 (by lia),e1];by_cases z2:j<sa+b.size;rw[ι (by lia),mK (by simp;lia),<- pF];rw[η (by lia),p8 (by simp;lia),List.getElem?_drop,pF]
 congr 2
 simp;lia
theorem GH{a:Array Kd}{hi:Nat}(h:hi<=a.size)(Pe:lo+i<hi):X (a.extract lo hi) i=X a (lo+i):=by refine i7 ?_;rw[Array.getElem?_extract,ι (by lia)]
theorem Sg.ex{xs:Array Kd}{hi:Nat}(h:Sg lt xs lo hi)(hh:hi<=xs.size):(xs.extract lo hi).toList.Pairwise (RR lt):=by
 rw[X8];intro i j Pe vz Am;have hj:lo+j<hi:=by simp at vz;lia
 have e:∀k hk,lo+k<hi->(xs.extract lo hi).toList[k]=X xs (lo+k):=λk hk h2=>by rw[<- GH hh h2,pF,jj hk];rfl
 rw[e i Pe (by lia),e j vz hj];exact h _ _ (by lia) (by lia) hj
theorem Ly(O:Od lt){xs m:Array Kd}{sa sb sc k e:Nat}(h1:Sg lt xs sa sb)(h2:Sg lt xs sb sc)(hk:sa<=k)(hkb:k<=sb)(DE:sb<=e)(hec:e<=sc)(qj:sc<=xs.size)(ha:∀i,sa<=i->i<k->sb<sc->lt (X xs sb) (X xs i)=false)(hb:∀i,e<=i->i<sc->sa<sb->lt (X xs i) (X xs (sb-1))=false)(hm:OK lt (xs.extract k sb) (xs.extract sb e) m):Sg lt (put xs k m) sa sc/\(put xs k m).Perm xs/\∀j,(j<sa\/sc<=j)->X (put xs k m) j=X xs j:=by
 have sm:m.size=e-k:=by
  have:=hm.1.length_eq;simp at this
  lia
 have C7:k+m.size<=xs.size:=by lia
 have mid:∀j,k<=j->j<e->∃j',k<=j'/\j'<e/\X m (j-k)=X xs j':=λj h1 h2=>by
  have:X m (j-k)∈(xs.extract k sb).toList++(xs.extract sb e).toList:=hm.1.mem_iff.mp (c9 (by lia));rcases gx.mp this with z|z
  obtain⟨j',a1,a2,_,a3⟩:=iJ z;exact⟨j',a1,by lia,a3⟩;obtain⟨j',a1,a2,_,a3⟩:=iJ z;exact⟨j',by lia,a2,a3⟩
 have ab:∀i j,sa<=i->i<k->k<=j->j<sc->lt (X xs j) (X xs i)=false:=λi j a1 a2 a3 a4=>by by_cases z:j<sb;exact h1 i j a1 (by lia) z;exact O.le (ha i a1 a2 (by lia)) (h2 sb j (cc _) (by lia) a4)
 have bc:∀i j,sa<=i->i<e->e<=j->j<sc->lt (X xs j) (X xs i)=false:=λi j a1 a2 a3 a4=>by by_cases z:i<sb;exact O.le (h1 i (sb-1) a1 (by lia) (by lia)) (hb j a3 a4 (by lia));exact h2 i j (by lia) (by lia) a4
 refine⟨λi j a1 a2 a3=>?_,?_,λj hj=>by rw[GG C7,η (by lia)]⟩;rw[GG C7,GG C7];by_cases zi:k<=i/\i<k+m.size;rw[ι zi];by_cases zj:k<=j/\j<k+m.size;rw[ι zj];exact mj O hm.2 (by lia) (by lia);rw[η zj];obtain⟨i',b1,b2,b3⟩:=mid i zi.1 (by lia);rw[b3];exact bc i' j (by lia) b2 (by lia) a3;rw[η zi];by_cases zj:k<=j/\j<k+m.size;rw[ι zj];obtain⟨j',b1,b2,b3⟩:=mid j zj.1 (by lia);rw[b3];exact ab i j' a1 (by lia) b1 (by lia);rw[η zj];by_cases z1:i<k;by_cases z2:j<k;exact h1 i j a1 a2 (by lia);exact ab i j a1 z1 (by lia) a3;exact h2 i j (by lia) a2 a3;rw[Ss,xn C7];have e0:xs.toList=xs.toList.take k++(((xs.extract k sb).toList++(xs.extract sb e).toList)++xs.toList.drop e):=by rw[DX,<- dE DE,<- dE hkb,Sy]
 rw[show k+m.size=e by lia]
 conv=>rhs;rw[e0]
 exact List.Perm.append_left _ (List.Perm.append_right _ hm.1)
variable{κ:SortKind}{lt:Kd->Kd->Bool}{G:Kd->Prop}
def Lz{f:SortSt}{Q:PUnit->SortSt->Prop}{st:SortSt}(h:Q ⟨⟩ f):wpS (model prog w) A E s (set f:StateT SortSt Sem PUnit) Q st:=by unfold wpS;rw[StateT.run_set];exact θ ⟨rfl,h⟩
theorem xo(C:Cp prog w A E s κ lt G){st:SortSt}{sa na pa sb nb pb:Nat}{Q:Bool->SortSt->Prop}(g:Gd κ G st)(e1:(pendingOf st)[i]?=some (sa,na,pa))(e2:(pendingOf st)[i+1]?=some (sb,nb,pb))(hab:sb=sa+na)(qj:sb+nb<=(arrOf st).size)(na0:0<na)(nb0:0<nb)(h1:Sg lt (arrOf st) sa sb)(h2:Sg lt (arrOf st) sb (sb+nb))(hf:failedOf st=none)(h:∀st',kindOf st'=kindOf st->failedOf st'=none->pendingOf st'=((pendingOf st).setIfInBounds i (sa,na+nb,pa)).eraseIdxIfInBounds (i+1)->(arrOf st').Perm (arrOf st)->Sg lt (arrOf st') sa (sb+nb)->(∀j,j<sa\/sb+nb<=j->X (arrOf st') j=X (arrOf st) j)->Q true st'):wpS (model prog w) A E s (mergeAt' i) Q st:=by
 refine μ (wpS_get ?_);rw[e1,e2];refine μ (Lz (μ (br (at_ (show sb<(arrOf st).size by lia)) (μ (dO C (arr:=arrOf st) g.k (g.g _ (c9 (by lia))) na0 (λi=>!lt (X (arrOf st) sb) (X (arrOf st) (sa+i))) (λi hi=>⟨_,at_ (by lia),g.g _ (c9 (by lia)),rfl⟩) (λi j Am hj hb=>?_) λk hk h4 h5=>?_)))));simp only[Bool.not_eq_true'] at hb ⊢;exact C.od.le (h1 (sa+i) (sa+j) (by lia) (by lia) (by lia)) hb;refine aE (λz=>?_) λz=>?_;refine ξ (h _ rfl hf rfl (.refl _) (λp q a1 a2 a3=>?_) λ_ _=>rfl);have hk:k=na:=by simp at z;lia
 by_cases zq:q<sb;exact h1 p q a1 a2 zq;by_cases zp:p<sb;refine C.od.le ?_ (h2 sb q (cc _) (by lia) a3);have:=h4 (p-sa) (by lia);rw[show sa+(p-sa)=p by lia] at this;simpa using this;exact h2 p q (by lia) a2 a3;have zk:k<na:=by simp at z;lia
 refine μ (br (at_ (show sa+k+(na-k)-1<(arrOf st).size by lia)) (μ (dO C (arr:=arrOf st) g.k (g.g _ (c9 (by lia))) (show nb-1<nb by lia) (λi=>lt (X (arrOf st) (sb+i)) (X (arrOf st) (sa+k+(na-k)-1))) (λi hi=>⟨_,at_ (by lia),g.g _ (c9 (by lia)),rfl⟩) (λi j Am hj hb=>?_) λe he h6 h7=>?_)));rcases C.od.nt (X (arrOf st) (sb+i)) hb with z|z
 rw[h2 (sb+i) (sb+j) (by lia) (by lia) (by lia)] at z;cases z;exact z;rw[show sa+k+(na-k)-1=sb-1 by lia] at h6 h7;refine aE (λz=>?_) λz=>?_;refine ξ (h _ rfl hf rfl (.refl _) (λp q a1 a2 a3=>?_) λ_ _=>rfl);have he0:e=0:=by simpa using z
 by_cases zq:q<sb;exact h1 p q a1 a2 zq;by_cases zp:p<sb;refine C.od.le (h1 p (sb-1) a1 (by lia) (by lia)) ?_;have:=h7 (q-sb) (by lia) (by lia)
 rwa [show sb+(q-sb)=q by lia] at this
 exact h2 p q (by lia) a2 a3;have ze:0<e:=by simp at z;lia
 have I:In lt G ((arrOf st).extract (sa+k) sb) ((arrOf st).extract sb (sb+e)):=by
  have s1:((arrOf st).extract (sa+k) sb).size=sb-(sa+k):=by simp;lia
  have s2:((arrOf st).extract sb (sb+e)).size=e:=by simp;lia
  refine⟨λx hx=>?_,λx hx=>?_,Sg.ex (λi j a1 a2 a3=>h1 i j (by lia) a2 a3) (by lia),Sg.ex (λi j a1 a2 a3=>h2 i j a1 a2 (by lia)) (by lia),by lia,by lia,λj hj=>?_,λj hj=>?_⟩;obtain⟨j,_,_,hj,rfl⟩:=iJ hx;exact g.g _ (c9 hj);obtain⟨j,_,_,hj,rfl⟩:=iJ hx;exact g.g _ (c9 hj);rw[GH (by lia) (by lia),GH (by lia) (by lia)];have:=h5 (k+j) (by lia) (by lia);rw[show sa+(k+j)=sa+k+j by lia] at this;exact C.od.as (by simpa using this);rw[GH (by lia) (by lia),GH (by lia) (by lia),s1,show sa+k+(sb-(sa+k)-1)=sb-1 by lia];exact C.od.as (h6 j (by lia))
 have fin:∀out st',OK lt ((arrOf st).extract (sa+k) sb) ((arrOf st).extract sb (sb+e)) out->Sm (setPending st (((pendingOf st).setIfInBounds i (sa,na+nb,pa)).eraseIdxIfInBounds (i+1))) st'->Q true (setArr st' (put (arrOf st') (sa+k) out))/\failedOf st'=none:=λout st' ho hs=>by
  obtain⟨a1,a2,a3⟩:=Ly C.od h1 h2 (by lia) (by lia) (by lia) (by lia) qj (λi b1 b2 _=>by
   have:=h4 (i-sa) (by lia);rw[show sa+(i-sa)=i by lia] at this;simpa using this) (λi b1 b2 _=>by
   have:=h7 (i-sb) (by lia) (by lia)
   rwa [show sb+(i-sb)=i by lia] at this) ho
  have ea:=hs.a;rw[ea];exact⟨h _ hs.k (hs.f.trans hf) hs.p a2 a1 a3,hs.f.trans hf⟩
 refine aE (λ_=>μ (QE C g.k I λout st' ho hs=>?_)) λ_=>μ (QF C g.k I λout st' ho hs=>?_)
 all_goals
  obtain⟨q,hn⟩:=fin out st' ho hs;refine μ (aan (μ (wpS_get (ξ ?_))));show Q (failedOf st').isNone (setArr st' (put (arrOf st') (sa+k) out));rw[hn];exact q
variable{κ:SortKind}{lt:Kd->Kd->Bool}{G:Kd->Prop}
abbrev Pd:=Nat×Nat×Nat
def Rn(lt:Kd->Kd->Bool)(xs:Array Kd):Nat->List Pd->Nat->Prop
 |a,[],b=>a=b
 |a,p::l,b=>p.1=a/\0<p.2.1/\Sg lt xs a (a+p.2.1)/\Rn lt xs (a+p.2.1) l b
theorem Rn.app{xs:Array Kd}:∀{l l':List Pd}{a b:Nat},Rn lt xs a (l++l') b↔∃c,Rn lt xs a l c/\Rn lt xs c l' b
 |[],l',a,b=>⟨λh=>⟨a,rfl,h⟩,λ⟨c,e,h⟩=>by cases (show a=c from e);exact h⟩
 |p::l,l',a,b=>by constructor;rintro⟨h1,h2,h3,h4⟩;obtain⟨c,h5,h6⟩:=Rn.app.mp h4;exact⟨c,⟨h1,h2,h3,h5⟩,h6⟩;rintro⟨c,⟨h1,h2,h3,h5⟩,h6⟩;exact⟨h1,h2,h3,Rn.app.mpr ⟨c,h5,h6⟩⟩
theorem Rn.le{xs:Array Kd}:∀{l:List Pd}{a b:Nat},Rn lt xs a l b->a+l.length<=b
 |[],a,b,h=>by have h:a=b:=h;simp;lia
 |p::l,a,b,⟨_,h1,_,h2⟩=>by have:=h2.le;simp;lia
theorem Rn.same{xs ys:Array Kd}:∀{l:List Pd}{a b:Nat},Rn lt xs a l b->(∀j,a<=j->j<b->X ys j=X xs j)->Rn lt ys a l b
 |[],a,b,h,_=>h
 |p::l,a,b,⟨h1,h2,h3,h4⟩,e=>by have:=h4.le;refine⟨h1,h2,λi j a1 a2 a3=>?_,h4.same λj a1 a2=>e j (by lia) a2⟩;rw[e i a1 (by lia),e j (by lia) (by lia)];exact h3 i j a1 a2 a3
structure St(lt:Kd->Kd->Bool)(κ:SortKind)(G:Kd->Prop)(a₀:Array Kd)(lo:Nat)(st:SortSt):Prop where
 gd:Gd κ G st
 fl:failedOf st=none
 pm:(arrOf st).Perm a₀
 rn:Rn lt (arrOf st) 0 (pendingOf st).toList lo
theorem y3{l:List Pd}(h:i+1<l.length):∃l1 x y l2,l=l1++x::y::l2/\l1.length=i:=by refine⟨l.take i,l[i],l[i+1],l.drop (i+2),?_,by rw[IT];lia⟩;rw[<- Sv,<- Sv,Sy]
theorem VJ{l1 l2:List Pd}{x y v:Pd}:((l1++x::y::l2).set l1.length v).eraseIdx (l1.length+1)=l1++v::l2:=by rw[List.set_append_right _ _ (cc _),Nat.sub_self,List.eraseIdx_append_of_length_le (by lia),show l1.length+1-l1.length=1 by lia];rfl
theorem rP(C:Cp prog w A E s κ lt G){a₀:Array Kd}{st:SortSt}{Q:Bool->SortSt->Prop}(S:St lt κ G a₀ lo st)(IE:lo<=a₀.size)(hi:i+1<(pendingOf st).size)(h:∀st',St lt κ G a₀ lo st'->(pendingOf st').size+1=(pendingOf st).size->(∀j,lo<=j->X (arrOf st') j=X (arrOf st) j)->Q true st'):wpS (model prog w) A E s (mergeAt' i) Q st:=by
 obtain⟨l1,⟨sa,na,pa⟩,⟨sb,nb,pb⟩,l2,el,e1⟩:=y3 (l:=(pendingOf st).toList) (i:=i) (by simpa using hi);subst e1;have R:=S.rn;rw[el] at R;obtain⟨c,R1,e2,h2,h3,e4,h5,h6,R2⟩:=Rn.app.mp R;simp only at e2 h2 h3 e4 h5 h6 R2;subst e2 e4;have hl:=R2.le;have sz:(arrOf st).size=a₀.size:=S.pm.size_eq;have g1:(pendingOf st)[l1.length]?=some (sa,na,pa):=by rw[<- IS,el,p8 (cc _),Nat.sub_self];rfl
 have g2:(pendingOf st)[l1.length+1]?=some (sa+na,nb,pb):=by rw[<- IS,el,p8 (by lia),show l1.length+1-l1.length=1 by lia];rfl
 refine xo C S.gd g1 g2 rfl (by lia) h2 h5 h3 h6 S.fl λst' k1 k2 k3 k4 k5 k6=>?_;have ep:(pendingOf st').toList=l1++(sa,na+nb,pa)::l2:=by rw[k3,Array.toList_eraseIdxIfInBounds,Array.toList_setIfInBounds,el,VJ]
 refine h st' ⟨⟨k1.trans S.gd.k,λx hx=>S.gd.g x ((Ss.mp k4).mem_iff.mp hx)⟩,k2,k4.trans S.pm,?_⟩ ?_ λj hj=>k6 j (by lia);rw[ep];refine Rn.app.mpr ⟨sa,R1.same λj a1 a2=>k6 j (.inl a2),rfl,Nat.add_pos_left h2 _,by rw[<- Nat.add_assoc];exact k5,?_⟩;rw[<- Nat.add_assoc];exact R2.same λj a1 a2=>k6 j (.inr a1);have e1:(pendingOf st').size=(pendingOf st').toList.length:=by simp
 have e2:(pendingOf st).size=(pendingOf st).toList.length:=by simp
 rw[e1,e2,ep,el];simp
 lia
theorem Rn.md{xs:Array Kd}{f:Pd->Pd}(h1:∀p,(f p).1=p.1)(h2:∀p,(f p).2.1=p.2.1):∀{l:List Pd}{i a b:Nat},Rn lt xs a l b->Rn lt xs a (l.modify i f) b
 |[],i,a,b,h=>by rw[List.modify_nil];exact h
 |p::l,0,a,b,⟨e1,e2,e3,e4⟩=>by rw[List.modify_zero_cons];refine⟨(h1 p).trans e1,by rw[h2];exact e2,by rw[h2];exact e3,by rw[h2];exact e4⟩
 |p::l,i+1,a,b,⟨e1,e2,e3,e4⟩=>by rw[List.modify_succ_cons];exact⟨e1,e2,e3,e4.md h1 h2⟩
theorem GJ(C:Cp prog w A E s κ lt G){a₀:Array Kd}{st:SortSt}{Q:Unit->SortSt->Prop}(S:St lt κ G a₀ 0 st)(h2:2<=a₀.size)(h:∀st',(arrOf st').Perm a₀->failedOf st'=none->(arrOf st').toList.Pairwise (RR lt)->Q () st'):wpS (model prog w) A E s sortRuns' Q st:=by
 have fin:∀st',St lt κ G a₀ a₀.size st'->(pendingOf st').size<=1->Q () st':=λst' S h1=>by
  have sz:(arrOf st').size=a₀.size:=S.pm.size_eq;have R:=S.rn;have hl:(pendingOf st').toList.length<=1:=by simpa using h1
  have S0:Sg lt (arrOf st') 0 (arrOf st').size:=by
   match (pendingOf st').toList,hl,R with
   |[],_,R=>
    have:0=a₀.size:=R
    lia
   |[p],_,⟨_,_,h3,h4⟩ =>have h4:0+p.2.1=a₀.size:=h4;rw[h4,<- sz] at h3;exact h3
   |_::_::_,hl,_=>simp at hl
  have:=S0.ex (cc _);rw[eE,List.drop_zero] at this;exact h st' S.pm S.fl this
 refine μ (wpS_get ?_);dsimp only;rw[show (arrOf st).size=a₀.size from S.pm.size_eq];refine μ (aau (aab (I:=λx c st'=>∃lo,c=(none,lo)/\x<=lo/\lo<=a₀.size/\St lt κ G a₀ lo st') (Q:=λc st'=>∃lo,c=(none,lo)/\St lt κ G a₀ a₀.size st') ?step ?fin ⟨0,rfl,cc _,h_ _,S⟩) ?post)
 case fin=>
  rintro c st' ⟨lo,rfl,h3,h4,S'⟩;have e:lo=a₀.size:=by lia
  subst e;exact⟨_,rfl,S'⟩
 case post=>
  rintro c st' ⟨lo,rfl,S'⟩;have hp:(pendingOf st').size+0<=a₀.size:=by have:=S'.rn.le;simp at this;lia
  refine μ (aau (aab (I:=λx c st'=>c=(none,())/\St lt κ G a₀ a₀.size st'/\((pendingOf st').size<=1\/(pendingOf st').size+x<=a₀.size)) (Q:=λc st'=>c=(none,())/\St lt κ G a₀ a₀.size st'/\(pendingOf st').size<=1) ?_ ?_ ⟨rfl,S',by lia⟩) ?_);rintro x c eG _ hx ⟨rfl,S1,p1⟩;refine μ (wpS_get (aE (λz=>ξ ⟨rfl,S1,z⟩) λz=>?_));have hi:∀(c:Prop)[Decidable c],(if c then (pendingOf eG).size-2-1 else (pendingOf eG).size-2)+1<(pendingOf eG).size:=λc _=>by have z:¬ (pendingOf eG).size<=1:=z;split<;>lia
  refine μ (rP C S1 (cc _) (hi _) λqi S2 p2 _=>aE (λz=>by simp at z) λ_=>ξ ⟨rfl,S2,by lia⟩);rintro c eG ⟨rfl,S1,p1⟩;exact⟨rfl,S1,by lia⟩;rintro c eG ⟨rfl,S1,p1⟩;exact ξ (fin eG S1 p1)
 case step=>
  rintro x c eG _ hx ⟨lo,rfl,h3,h4,S1⟩;dsimp only;have sz:(arrOf eG).size=a₀.size:=S1.pm.size_eq;refine aE (λz=>?_) λz=>μ (C6 C S1.gd (by lia) (by lia) λm qi K2 m1 m2 s2=>?_);have e:lo=a₀.size:=by lia
  subst e;exact ξ ⟨_,rfl,S1⟩;have S2:St lt κ G a₀ lo qi:=⟨K2.gd S1.gd,K2.f.trans S1.fl,K2.m.trans S1.pm,by rw[K2.p];exact S1.rn.same λj _ a2=>K2.l j a2⟩;have sz2:(arrOf qi).size=a₀.size:=S2.pm.size_eq;dsimp only;refine aE (λzm=>μ (wpS_lift (aak ⟨rfl,μ (Lx C S2.gd (by lia) (by lia) s2 λya K3 s3=>?_)⟩))) λzm=>?_
  case' _=>
   have S3:St lt κ G a₀ lo ya:=⟨K3.gd S2.gd,K3.f.trans S2.fl,K3.m.trans S2.pm,by rw[K3.p];exact S2.rn.same λj _ a2=>K3.l j a2⟩;have n0:0<min (a₀.size-lo) ((sortPriv% PySem.Builtin.minRun) a₀.size a₀.size 0):=by lia
   have n1:lo+min (a₀.size-lo) ((sortPriv% PySem.Builtin.minRun) a₀.size a₀.size 0)<=a₀.size:=by lia
   generalize min (a₀.size-lo) ((sortPriv% PySem.Builtin.minRun) a₀.size a₀.size 0)=n at *;refine aE (λz=>by simp at z) λ_=>?_
  rotate_left
  case' _=>
   have S3:=S2;have s3:=s2;have n0:0<m:=m1;have n1:lo+m<=a₀.size:=by lia
  all_goals
   have push:∀{n st'},0<n->St lt κ G a₀ lo st'->Sg lt (arrOf st') lo (lo+n)->St lt κ G a₀ (lo+n) (setPending st' ((pendingOf st').push (lo,n,0))):=λ{n st'} n0 S' s'=>⟨⟨S'.gd.k,S'.gd.g⟩,S'.fl,S'.pm,by
    show Rn lt (arrOf st') 0 ((pendingOf st').push (lo,n,0)).toList (lo+n);rw[Array.toList_push];exact Rn.app.mpr ⟨lo,S'.rn,rfl,n0,s',rfl⟩⟩
   refine μ (wpS_get ?_);split;refine μ (aau (aab (I:=λ_ c st'=>c=(none,())/\St lt κ G a₀ lo st'/\Sg lt (arrOf st') lo (lo+_)) (Q:=λc st'=>c=(none,())/\St lt κ G a₀ lo st'/\Sg lt (arrOf st') lo (lo+_)) ?_ (λ_ _ hh=>hh) ⟨rfl,S3,s3⟩) ?_);rintro y c LA _ _ ⟨rfl,S4,s4⟩;refine μ (wpS_get ?_);by_cases zp:(pendingOf LA).size > 1;rw[ι zp,aam (pendingOf LA) _ (show (pendingOf LA).size-2<(pendingOf LA).size by lia)];refine aE (λ_=>ξ ⟨rfl,S4,s4⟩) λ_=>μ (rP C S4 h4 (show (pendingOf LA).size-2+1<(pendingOf LA).size by lia) λMD S5 _ k5=>aE (λz=>by simp at z) λ_=>ξ ⟨rfl,S5,λi j a1 a2 a3=>?_⟩);rw[k5 i a1,k5 j (by lia)];exact s4 i j a1 a2 a3;rw[η zp];exact ξ ⟨rfl,S4,s4⟩;rintro c LA ⟨rfl,S4,s4⟩;refine μ (aan (μ (aan (ξ ⟨_,rfl,by lia,n1,push n0 (st':=setPending LA _) ⟨⟨S4.gd.k,S4.gd.g⟩,S4.fl,S4.pm,?_⟩ s4⟩))));show Rn lt (arrOf LA) 0 (Array.modify _ _ _).toList lo;rw[Array.toList_modify];exact S4.rn.md (by exact λ_=>rfl) (by exact λ_=>rfl);exact μ (aan (ξ ⟨_,rfl,by lia,n1,push n0 S3 s3⟩))
end SO
namespace TS
open PySem PySem.Spec PyProof.Rows L2 VT
section
noncomputable abbrev VL(tv:Value->Tr)(p q:Keyed):Bool:=dy (tv p.1) (tv q.1)
def LB{a b:Tr}(h:dy a b=true):dy b a=false:=by
 cases h2:dy b a with
 |false=>rfl
 |true=>exact (Lu a).symm.trans (A9 h h2) |>.symm
def QH(tv:Value->Tr):SO.Od (VL tv):=⟨λh=>LB h,λ{a c} b h=>by
 by_cases e:tv a.1=tv b.1
 right;show dy (tv b.1) (tv c.1)=true;rw[<- e];exact h
 rcases A8 e with z|z
 exact .inl z;exact .inr (A9 z h)⟩
def Z8{tv:Value->Tr}{vs:qag}{xs:Array Keyed}(hp:xs.Perm (pairsOf vs))(hi:xs.toList.Pairwise (SO.RR (VL tv))):(((xs.map (·.2)).toList).map tv).Pairwise (λa b=>dy b a=false):=by
 rw[Array.toList_map,W6,W6];refine List.Pairwise.imp_of_mem (λ{p q} Pj qX h=>?_) hi;have mem:∀p∈xs.toList,p.1=p.2:=λp h=>by have:=(Ss.mp hp).mem_iff.mp h;rw[pairsOf_toList] at this;exact (mem_zip_self this).1
 rw[<- mem p Pj,<- mem q qX];exact h
theorem VM{l:Addr}{vs:qag}{ep:Nat}{P:Fin->Shared->Prop}(tv:Value->Tr)(hl:s.heap.get? l=some (seqObj "list" vs.toArray ep))(XN:vs.length<=100000)(ht:∀g:Heap,(∀b o,b≠l->s.heap.get? b=some o->g.get? b=some o)->∀v∈vs,gv g v (tv v))(h:∀out:Array Value,out.toList.Perm vs->(out.toList.map tv).Pairwise (λa b=>dy b a=false)->P (.done (.ret .none)) {s with heap:=sortedHeap s.heap l vs out}) :
  wpAny (model prog w) A (Builtin.«list.sort» ⟨[.ref l],[]⟩) P E s:=by
 have d_:l<s.heap.objs.size:=eJ hl;have QI:vs.length<=sizeLine:=by rw[ς];lia
 rw[list_sort_plain];refine ζ (listItems_at hl rfl (ζ (listUpdate_at hl rfl ?_)));obtain⟨e1,g1⟩:∃e1,(s.heap.update l (Obj.mapSeq λ_=>#[])).get? l=some (seqObj "list" #[] e1):=⟨_,get?_update_seq hl _⟩;refine ζ (seqEpoch_at g1 rfl (ζ (wpAny_newTuple (ζ (wpAny_newList (aad ?_))) (by simpa using QI))));show wpAny (model prog w) A _ P E {s with heap:=((s.heap.update l (Obj.mapSeq λ_=>#[])).push (seqObj "tuple" vs.toArray 0)).push (seqObj "list" #[] 0)};generalize hg:((s.heap.update l (Obj.mapSeq λ_=>#[])).push (seqObj "tuple" vs.toArray 0)).push (seqObj "list" #[] 0)=g;have g2:g.get? l=some (seqObj "list" #[] e1):=by subst hg;exact dR _ (dR _ g1)
 have old:∀b o,b≠l->s.heap.get? b=some o->g.get? b=some o:=λb o hb e=>by subst hg;refine dR _ (dR _ ?_);rw[Heap.get?_update_ne _ _ _ _ hb];exact e
 have QJ:=ht g old;have out:∀xs:Array Keyed,xs.Perm (pairsOf vs)->xs.toList.Pairwise (SO.RR (VL tv))->P (.done (.ret .none)) {s with heap:=g.update l (Obj.mapSeq λ_=>xs.map (·.2))}:=λxs hp hi=>by have:=h (xs.map (·.2)) (Gm hp) (Z8 hp hi);unfold sortedHeap at this;rw[hg] at this;exact this
 have osz:∀xs:Array Keyed,xs.Perm (pairsOf vs)->(xs.map (·.2)).size<=sizeLine:=λxs hp=>by rw[Array.size_map,hp.size_eq,pairsOf_size];exact QI
 dsimp only;by_cases h2:vs.toArray.size<2;rw[ι h2,ι h2];refine ζ (θ ?_);rw[StateT.run_pure];refine ζ (θ ?_);refine ζ (seqEpoch_at g2 rfl (ζ (listUpdate_at g2 rfl ?_ (hsz2:=Nat.le_succ_of_le (osz (pairsOf vs) (Array.Perm.refl _))))));simp only[aaF,SI,aaw];refine θ (out (pairsOf vs) (Array.Perm.refl _) ?_);rw[gU] at h2;rw[pairsOf_toList]
 match vs,h2 with
 |[],_=>exact .nil
 |[_],_=>simp
 |_::_::_,h2=>simp at h2;lia
 rw[η h2,η h2];have qb:2<=vs.length:=by rw[gU] at h2;lia
 have kd:∀Q:SortKind->Shared->Prop,Q (tuples' true) {s with heap:=g}->wpAny (model prog w) A (keyKind' vs.toArray) Q E {s with heap:=g}:=λQ hq=>by refine Gp (by rintro rfl;simp at qb) (λv hv=>?_) hq;obtain⟨t1,t2,t3,ta⟩:=QJ v hv;exact⟨_,_,_,ta,rfl⟩
 have cm:SO.Cp prog w A E {s with heap:=g} (tuples' true) (VL tv) (λp=>p.1∈vs):=⟨QH tv,λ{p q st Q} hp hq hk h=>by rw[lt'_eq];refine μ (wpS_get ?_);rw[hk];refine μ (wpS_lift (aap (Lw (s:={s with heap:=g}) (QJ _ hp) (QJ _ hq) ⟨rfl,?_⟩)));exact ξ h⟩
 refine ζ (kd _ ?_);refine ζ (Φ (SO.GJ (a₀:=pairsOf vs) (st:=SortSt.mk' (tuples' true) (vs.toArray.zip vs.toArray) #[] 7 none) (Q:=λ_ st'=>((arrOf st').Perm (pairsOf vs)/\(arrOf st').toList.Pairwise (SO.RR (VL tv)))/\failedOf st'=none) cm ⟨⟨rfl,λp hp=>?_⟩,rfl,Array.Perm.refl _,rfl⟩ (by rw[pairsOf_size];exact qb) λst' p1 p2 p3=>⟨⟨p1,p3⟩,p2⟩) ?_ λ_ _ z=>z);have hp:p∈(pairsOf vs).toList:=hp;rw[pairsOf_toList] at hp;exact (mem_zip_self hp).2;rintro⟨⟨⟩,st'⟩ s' ⟨rfl,⟨hp,hi⟩,hf⟩;dsimp only;refine ζ (seqEpoch_at g2 rfl (ζ (listUpdate_at g2 rfl ?_ (hsz2:=Nat.le_succ_of_le (osz _ hp)))));rw[hf];simp only[aaF,SI,aaw];exact θ (out _ hp hi)
def xp{l:Addr}{vs:qag}{as:List Tr}(hl:s.heap.IsList l vs.toArray)(XN:vs.length<=100000)(ht:Paired (λv a=>gv s.heap v a) vs as)(h:∀out:Array Value,out.toList.Perm vs->(out.toList.map (uw s.heap)).Perm as->(out.toList.map (uw s.heap)).Pairwise (λa b=>dy b a=false)->Q (.ref (s.heap.objs.size+1)) {s with heap:=sortedAll s.heap vs out}) :
  wpAny (model prog w) A (call (.builtin "sorted") [.ref l]) Q E s:=by
 have QI:vs.length<=sizeLine:=by rw[ς];lia
 have em:vs.map (uw s.heap)=as:=by
  clear h XN QI hl;induction ht with
  |nil=>rfl
  |cons r _ ih=>rw[jk,ux r,ih]
 have each:∀v∈vs,gv s.heap v (uw s.heap v):=λv hv=>by
  clear h XN QI hl em;induction ht with
  |nil=>cases hv
  |cons r _ ih=>
    rcases dg.mp hv with rfl|hv
    rw[ux r];exact r;exact ih hv
 refine Calls.call_function_entry kind_sorted plain_sorted entry_sorted (args_sorted1 _) ?_;unfold Builtin.«sorted»;refine ζ (m:=checkCount "sorted" 1 1 _) (θ ?_);refine ζ (collect_list hl ?_ QI);have hz:((s.heap.push (seqObj "list" #[] 0)).update s.heap.objs.size (Obj.mapSeq (·++vs.toArray))).objs.size=s.heap.objs.size+1:=by rw[Heap.size_update,size_push']
 have old:∀b o,s.heap.get? b=some o->(((s.heap.push (seqObj "list" #[] 0)).update s.heap.objs.size (Obj.mapSeq (·++vs.toArray))).push (seqObj "list" vs.toArray 0)).get? b=some o:=λb o e=>by refine dR _ ?_;rw[Heap.get?_update_ne _ _ _ _ (jX (eJ e))];exact dR _ e
 refine ζ (wpAny_newList ?_ QI);have ho:(((s.heap.push (seqObj "list" #[] 0)).update s.heap.objs.size (Obj.mapSeq (·++vs.toArray))).push (seqObj "list" vs.toArray 0)).get? (s.heap.objs.size+1)=some (seqObj "list" vs.toArray 0):=by rw[<- hz];exact iO _ rfl
 show wpAny _ _ _ _ _ {s with heap:=((s.heap.push (seqObj "list" #[] 0)).update s.heap.objs.size (Obj.mapSeq (·++vs.toArray))).push (seqObj "list" vs.toArray 0)};rw[hz];have Z9:∀g:Heap,(∀b o,b≠s.heap.objs.size+1->(((s.heap.push (seqObj "list" #[] 0)).update s.heap.objs.size (Obj.mapSeq (·++vs.toArray))).push (seqObj "list" vs.toArray 0)).get? b=some o->g.get? b=some o)->∀v∈vs,gv g v (uw s.heap v):=λg hg v hv=>by obtain⟨t1,t2,t3,a,o,n,rfl,e,c,d⟩:=each v hv;exact⟨t1,t2,t3,a,o,n,rfl,hg a o (jX (N5 (eJ e))) (old a o e),c,d⟩
 refine ζ (aad (ψ slot_list_sort ⟨_,ho,rfl⟩ entry_list_sort (VM (uw s.heap) ho XN (λg hg=>Z9 g hg) λout hp hs=>⟨_,rfl,?_⟩) (args_list_sort _)));exact θ ⟨_,rfl,h out hp (by rw[<- em];exact hp.map _) hs⟩
end
def dP{X:Cx}:c0 X (.builtin "sorted") (λxs H Q=>∃(p:Addr)(ws:qak)(as:List Tr),xs=[.ref p]/\fG X.K H p ws/\ws.length<=100000/\Paired (ny X.K H) ws as /\
  ∀zs bs,Paired (ny X.K H) zs bs->bs.Perm as->bs.Pairwise (λa b=>dy b a=false)->∀a,H a=none->Q (.ref a) (upd H a (.lst zs))):=by
 intro ε s σ H xs us Q I r h;obtain⟨p,ws,as,rfl,hq,hl,ht,q⟩:=h;obtain⟨u,rfl,ru⟩:=vals1 r;cases ru;obtain⟨aT,rv,pl,hz⟩:=I.list hq;have e:=rv.length;have QJ:∀{w:V}{v:Value}{a:Tr},RelV w v->ny X.K H w a->gv s.heap v a:=λ{w v a} rw' ⟨b,eb,hb⟩=>by
  subst eb;have ev:v=.ref b:=rw';subst ev;obtain⟨ps,pv,⟨o,ho,hc,n,hd⟩,_⟩:=I.tuple hb;cases pv with
  |cons r1 pv=>cases pv with
    |cons r2 pv=>cases pv with
      |cons r3 pv=>cases pv;obtain⟨t1,rfl⟩:=r1;obtain⟨t2,rfl⟩:=r2;obtain⟨t3,rfl⟩:=r3;exact⟨t1,t2,t3,b,o,n,rfl,ho,hc,hd⟩
 have ht':Paired (λv a=>gv s.heap v a) aT as:=by
  clear hz pl hq hl q e r;induction rv generalizing as with
  |nil=>cases ht;exact .nil
  |cons r1 _ ih=>cases ht with
    |cons t1 t2=>exact .cons (QJ r1 t1) (ih _ t2)
 refine xp pl.isList (by lia) ht' λout hp hpa hs=>?_;obtain⟨zs,p1,p2⟩:=C1 hp rv;have key:∀{zs:qak}{vs:qag},Vals zs vs->(∀z∈zs,∃a,ny X.K H z a)->Paired (ny X.K H) zs (vs.map (uw s.heap)):=by
  intro zs vs hv;induction hv with
  |nil=>intro _;exact .nil
  |cons r1 _ ih=>intro hh;obtain⟨a,ha⟩:=hh _ fB;rw[jk,ux (QJ r1 ha)];exact .cons ha (ih λz hz=>hh z (gz _ hz))
 have all:∀w∈ws,∃a,ny X.K H w a:=λw hw=>by
  clear ht' QJ key hz pl hq hl q e r rv p1 p2 hpa hs hp;induction ht with
  |nil=>cases hw
  |cons r1 _ ih=>
    rcases dg.mp hw with rfl|hw
    exact⟨_,r1⟩;exact ih hw
 refine wZ I p2 ?_ (q zs _ (key p2 λz hz'=>all z (p1.mem_iff.mp hz')) hpa hs);rw[p1.length_eq];exact hz
def zA(ts:Ψ)(q:qam):Prop:=∃as:List Tr,ts=[.lst (as.map tT)]/\as.length<=100000/\∀bs:List Tr,bs.Perm as->bs.Pairwise (λa b=>dy b a=false)->q (.fr (.lst (bs.map tT)))
section
variable{A:Ω}
theorem iK:jq K (λxs H Q=>∃(p:Addr)(ws:qak)(as:List Tr),xs=[.ref p]/\fG K H p ws/\ws.length<=100000/\Paired (ny K H) ws as /\
  ∀zs bs,Paired (ny K H) zs bs->bs.Perm as->bs.Pairwise (λa b=>dy b a=false)->∀a,H a=none->Q (.ref a) (upd H a (.lst zs))) zA:=by
 intro Z tm O ρ σ H ts vs q Q I h hp k;obtain⟨as,rfl,hl,hq⟩:=hp;obtain⟨v,rfl,a⟩:=cv h;obtain⟨p,ws,rfl,hs,hv⟩:=a.lst;have e:=hv.length;rw[bX] at e;exact⟨p,ws,as,rfl,hs,by lia,Gy hv,λzs bs h1 h2 h3 b hb=>k _ (hq bs h2 h3) _ _ (aG hb) (I.yI hb (QD h1))⟩
end
end TS
namespace MK
open PySem L2 VT Gen BS K5 Ln
open PySem.Builtin (bitOr)
noncomputable def bo(E:List Ent)(k:Int×Str):Int:=match E with
 |[]=>0
 |e::E=>if e.1=k then e.2 else bo E k
theorem fq(k:Int×Str):∀E:List Ent,(cb (cF E) (cT E) (kK k)).getD (.int 0)=.int (bo E k)
 |[]=>rfl
 |e::E=>by show (if kK e.1=kK k then some (T.int e.2) else cb (cF E) (cT E) (kK k)).getD (.int 0)=.int (if e.1=k then e.2 else bo E k);by_cases z:e.1=k;rw[ι z,ι (iI.mpr z)];rfl;rw[η z,η (λq=>z (iI.mp q))];exact fq k E
theorem kX(h n:Int):∀E:List Ent,cb (cF E) (cT E) [.inl h,.inl n]=none
 |[]=>rfl
 |e::E=>by show (if kK e.1=[.inl h,.inl n] then some (T.int e.2) else cb (cF E) (cT E) [.inl h,.inl n])=none;rw[η (λz=>by unfold kK at z;injection z with _ z;injection z with z _;cases z)];exact kX h n E
def xq(k k':Int×Str)(v:Int)(E:List Ent):bo (gu E k v) k'=if k'=k then v else bo E k':=by
 unfold gu;by_cases h:hV E k=true;rw[ι h];induction E with
 |nil=>cases h
 |cons e E ih=>
  rw[jk];show (if (if e.1=k then (e.1,v) else e).1=k' then (if e.1=k then (e.1,v) else e).2 else bo (E.map _) k')=if k'=k then v else if e.1=k' then e.2 else bo E k'
  by_cases q:e.1=k;rw[ι q];by_cases q2:k'=k;rw[ι q2,ι (q.trans q2.symm)];rw[η q2,η (λz=>q2 (z.symm.trans q)),η (λz=>q2 (z.symm.trans q))];by_cases h2:hV E k=true;rw[ih h2,η q2];have:∀l:List Ent,¬ hV l k=true->(l.map λe=>if e.1=k then (e.1,v) else e)=l:=λl hl=>by
   conv=>rhs;rw[<- List.map_id l]
   refine DW λx hx=>?_;rw[η λz=>hl (RP.mpr ⟨x,hx,ν z⟩)];rfl
  rw[this E h2];rw[η q];have h2:hV E k=true:=by unfold hV at h ⊢;rw[BI,π q,N9] at h;exact h
  rw[ih h2];by_cases q3:e.1=k';rw[ι q3,ι q3,η (λz=>q (q3.trans z))];rw[η q3,η q3]
 rw[η h];induction E with
 |nil=>
  show (if k=k' then v else 0)=if k'=k then v else 0
  by_cases q:k'=k;rw[ι q,ι q.symm];rw[η q,η (λz=>q z.symm)]
 |cons e E ih=>
  have h1:¬ e.1=k:=λz=>h (by unfold hV;rw[BI,ν z];rfl);have h2:¬ hV E k=true:=λz=>h (by unfold hV at z ⊢;rw[BI,z,Bool.or_true]);show (if e.1=k' then e.2 else bo (E++[(k,v)]) k')=if k'=k then v else if e.1=k' then e.2 else bo E k'
  rw[ih h2];by_cases q3:e.1=k';rw[ι q3,ι q3,η (λz=>h1 (q3.trans z))];rw[η q3,η q3]
def LC(k:Int×Str)(v:Int)(E:List Ent):cb (cF (gu E k v)) (cT (gu E k v)) (kK k)=some (.int v):=by
 have h:hV (gu E k v) k=true:=by unfold gu;by_cases h:hV E k=true;rw[ι h];obtain⟨e,he,z⟩:=RP.mp h;have z:e.1=k:=υ z;exact RP.mpr ⟨(e.1,v),jZ.mpr ⟨e,he,by rw[ι z]⟩,ν z⟩;rw[η h];exact RP.mpr ⟨(k,v),iN _ (hY.mpr rfl),ν rfl⟩
 have e1:=fq k (gu E k v);rw[xq,ι rfl] at e1;have:∀F:List Ent,hV F k=true->∃t,cb (cF F) (cT F) (kK k)=some t:=λF=>by
  induction F with
  |nil=>intro z;cases z
  |cons e F ih=>intro z;show ∃t,(if kK e.1=kK k then some (T.int e.2) else cb (cF F) (cT F) (kK k))=some t;by_cases q:e.1=k;exact⟨_,ι (iI.mpr q)⟩;rw[η (λx=>q (iI.mp x))];unfold hV at z;rw[BI,π q,N9] at z;exact ih z
 obtain⟨t,ht⟩:=this _ h;rw[ht] at e1 ⊢;exact rk some e1
noncomputable def jS(k:Ky):Str:=match vD k with
 |.str x=>if qq.eR x=true then x else "#"
 |_=>"#"
noncomputable def fH(E:List Ent)(h:Nat):ix->Int
 |.nm y=>bo E ((h:Int),y)
 |.nu _=>0
noncomputable def XO(F:List Ent)(x:Int)(c:Str):Int:=(mem x).foldl (λt (j:Nat)=>bitOr t (bo F ((j:Int),c))) 0
abbrev Wt:=Bool×(Int×Str)×Int
noncomputable def Z_(E F:List Ent)(i h:Nat):Rw->List Wt
 |.new x=>[(true,((h:Int),x),1 * 2 ^ ((i:Int)).toNat)]
 |.put x o=>[(true,((h:Int),x),fH E h o)]
 |.get x y k=>[(true,((h:Int),x),XO F (bo E ((h:Int),y)) (jS k))]
 |.set y k o=>(mem (bo E ((h:Int),y))).map λ(j:Nat)=>(false,((j:Int),jS k),fH E h o)
 |_=>[]
def okR:Rw->Bool
 |.call _ _ _=>false
 |_=>true
noncomputable def acw(a1 a2:Addr)(E F:List Ent)(b:Bool):T:=if b=true then .pin a1 (.dt (cF E) (cT E)) else .pin a2 (.dt (cF F) (cT F))
noncomputable def wT(a1 a2:Addr)(E F:List Ent)(p:Wt):T:=.tup [acw a1 a2 E F p.1,.kt (kK p.2.1),.int p.2.2]
def qc(E:List Ent):List TS.Tr:=(E.filter λe=>!decide (e.2=0)).map λe=>(e.1.1,e.1.2,e.2)
inductive Pl
 |nm (h:Nat) (x:Str)
 |cl (h:Nat) (x c:Str)
 |rw (i:Nat)
 |zr
abbrev Mv:=Pl×Pl
abbrev nk(h:Nat)(x:Str):Int×Str:=((h:Int),x)
def GK(h:Nat):ix->Pl
 |.nm y=>.nm h y
 |.nu _=>.zr
noncomputable def fnOf(rs:qal)(g:Str):Option (Nat×List Str×ix):=match qH (aZ rs rs.length) g with
 |some s=>match rs[s]?,endsAt (bC rs) rs.length s with
  |some (.df _ ps),some e=>match rs[e]? with
   |some (.give o)=>some (s,ps,o)
   |_=>none
  |_,_=>none
 |none=>none
noncomputable def vE(rs:qal)(i h:Nat):Rw->List Mv
 |.new x=>[(.nm h x,.rw i)]
 |.put x o=>[(.nm h x,GK h o)]
 |.get x y k=>[(.nm h x,.cl h y (jS k))]
 |.set y k o=>[(.cl h y (jS k),GK h o)]
 |.call x g as=>match fnOf rs g with
  |some (s,ps,o)=>(.nm h x,GK s o)::(ps.zip as).map λz=>(.nm s z.1,GK h z.2)
  |none=>[]
 |_=>[]
noncomputable def GL(rs:qal)(i:Nat):List Mv:=match rs[i]?,g6 (bC rs) i with
 |some r,some h=>vE rs i h r
 |_,_=>[]
noncomputable def d8(rs:qal):List Mv:=(List.range rs.length).flatMap (GL rs)
def isNm:Pl->Bool
 |.nm _ _=>true
 |_=>false
noncomputable def ji(E F:List Ent):Pl->Int
 |.nm h y=>bo E (nk h y)
 |.cl h y c=>XO F (bo E (nk h y)) c
 |.rw i=>1 * 2 ^ ((i:Int)).toNat
 |.zr=>0
noncomputable def GN(E:List Ent):Pl->List (Int×Str)
 |.nm h x=>[nk h x]
 |.cl h y c=>(mem (bo E (nk h y))).map λ(j:Nat)=>((j:Int),c)
 |_=>[]
noncomputable def wM(E F:List Ent)(m:Mv):List Wt:=(GN E m.1).map λk=>(isNm m.1,k,ji E F m.2)
noncomputable def wA(rs:qal)(E F:List Ent)(i:Nat):List Wt:=(GL rs i).flatMap (wM E F)
structure Tb where
 E:List Ent
 F:List Ent
 b:Bool
noncomputable def Tb.get(p:Tb)(w:Bool)(k:Int×Str):Int:=if w=true then bo p.E k else bo p.F k
noncomputable def Tb.put(p:Tb)(w:Bool)(k:Int×Str)(v:Int):Tb:=if w=true then {p with E:=gu p.E k v} else {p with F:=gu p.F k v}
noncomputable def jx(p:Tb)(w:Wt):Tb:={p.put w.1 w.2.1 (bitOr (p.get w.1 w.2.1) w.2.2) with b:=p.b || !decide (bitOr (p.get w.1 w.2.1) w.2.2=p.get w.1 w.2.1)}
noncomputable def XQ(rs:qal)(p:Tb)(i:Nat):Tb:=(wA rs p.E p.F i).foldl jx p
noncomputable def ck(rs:qal)(E F:List Ent)(n:Nat):Tb:=(List.range n).foldl (XQ rs) ⟨E,F,false⟩
def i8(rs:qal)(E F:List Ent)(n:Nat):ck rs E F (n+1)=XQ rs (ck rs E F n) n:=by unfold ck;rw[RS,N6];rfl
def gO(p:Tb)(w:Wt)(b:Bool)(k:Int×Str):(jx p w).get b k=if b=w.1/\k=w.2.1 then bitOr (p.get w.1 w.2.1) w.2.2 else p.get b k:=by obtain⟨wb,wk,wv⟩:=w;unfold jx Tb.put Tb.get;cases wb<;>cases b<;>simp[xq]
noncomputable def QK(n:Nat)(w:Bool)(m:Mv):List (Int×Str):=match w,m.1 with
 |true,.nm h x=>[nk h x]
 |false,.cl _ _ c=>(List.range n).map λ(j:Nat)=>((j:Int),c)
 |_,_=>[]
noncomputable def g7(n:Nat)(M:List Mv)(w:Bool):List (Int×Str):=M.flatMap (QK n w)
structure Iv(n:Nat)(M:List Mv)(p:Tb):Prop where
 nE:(p.E.map (·.1)).Nodup
 nF:(p.F.map (·.1)).Nodup
 kE:∀e∈p.E,e.1∈g7 n M true
 kF:∀e∈p.F,e.1∈g7 n M false
 bl:∀w k,below n (p.get w k)
def xr{E:List Ent}{k:Int×Str}{v:Int}(nd:(E.map (·.1)).Nodup):((gu E k v).map (·.1)).Nodup/\∀e∈gu E k v,e.1=k\/∃e'∈E,e'.1=e.1:=by
 unfold gu;by_cases h:hV E k=true;rw[ι h];have e:(E.map (λe=>if e.1=k then (e.1,v) else e)).map (·.1)=E.map (·.1):=by rw[sr];refine DW λe _=>?_;show (if e.1=k then (e.1,v) else e).1=e.1;split<;>rfl
 refine⟨by rw[e];exact nd,λx hx=>?_⟩;obtain⟨y,hy,rfl⟩:=jZ.mp hx;exact .inr ⟨y,hy,by split<;>rfl⟩;rw[η h];refine⟨?_,λx hx=>?_⟩;rw[p_,List.nodup_append];refine⟨nd,by simp,λa ha b hb e=>?_⟩;have hb:b=k:=by simpa using hb
 subst e;subst hb;obtain⟨y,hy,e⟩:=jZ.mp ha;exact h (RP.mpr ⟨y,hy,ν e⟩);rcases gx.mp hx with z|z
 exact .inr ⟨x,z,rfl⟩;rw[hY.mp z];exact .inl rfl
theorem fu{α β:Type}{f:β->List α}{m:Nat}(h:∀i,(f i).length<=m):∀l:List β,(l.flatMap f).length<=l.length * m
 |[]=>by simp
 |i::l=>by
  have:=fu h l;have:=h i;rw[List.flatMap_cons,nX,yf,Nat.add_mul]
  lia
theorem sub_len{α:Type}[DecidableEq α]:∀{l U:List α},l.Nodup->(∀x∈l,x∈U)->l.length<=U.length
 |[],U,_,_=>h_ _
 |x::l,U,nd,h=>by
  rw[nY] at nd;have hx:=h x fB;have:=sub_len (U:=U.erase x) nd.2 λy hy=>(List.mem_erase_of_ne (λe=>nd.1 (by rw[<- e];exact hy))).mpr (h y (gz _ hy));rw[List.length_erase_of_mem hx] at this;have:=List.length_pos_of_mem hx;rw[yf]
  lia
def Le(p p':Tb):Prop:=∀w k,sub (p.get w k) (p'.get w k)
def Le.refl(p:Tb):Le p p:=λ_ _=>kQ _
def Le.trans{p q r:Tb}(h:Le p q)(g:Le q r):Le p r:=λw k=>C2 (h w k) (g w k)
def zB{l:qao}{f:Nat->Int}(h:∀j,below n (f j)):∀x,below n x->below n (l.foldl (λt j=>bitOr t (f j)) x):=by
 induction l with
 |nil=>exact λx h=>h
 |cons j l ih=>exact λx hx=>ih _ (xk hx (h j))
def zC(n:Nat)(m:Mv):Prop:=match m.2 with
 |.rw i=>i<n
 |_=>True
section
variable{M:List Mv}{p q r:Tb}{m:Mv}
theorem rQ(w:Bool):(g7 n M w).length<=M.length * (n+1):=fu (λm=>by unfold QK;split;simp;rw[bX,z8];lia;simp) M
def Iv.LD(I:Iv n M p):p.E.length<=M.length * (n+1):=by
 have:=sub_len I.nE λk hk=>by obtain⟨e,he,rfl⟩:=jZ.mp hk;exact I.kE e he
 rw[bX] at this;exact ll this (rQ true)
def Iv.LF(I:Iv n M p):p.F.length<=M.length * (n+1):=by
 have:=sub_len I.nF λk hk=>by obtain⟨e,he,rfl⟩:=jZ.mp hk;exact I.kF e he
 rw[bX] at this;exact ll this (rQ false)
def Iv.bool(I:Iv n M p)(b:Bool):Iv n M {p with b:=b}:=⟨I.nE,I.nF,I.kE,I.kF,I.bl⟩
def Iv.pos(I:Iv n M p):∀e∈p.F,0<=e.1.1:=λe he=>by
 obtain⟨m,_,h⟩:=BG.mp (I.kF e he);unfold QK at h;split at h
 rename_i z _;cases z
 obtain⟨j,_,z⟩:=jZ.mp h;rw[<- z];exact Int.natCast_nonneg j;cases h
def Iv.step(I:Iv n M p){w:Wt}(hk:w.2.1∈g7 n M w.1)(hb:below n w.2.2):Iv n M (jx p w):=by
 have R5:∀b k,below n ((jx p w).get b k):=λb k=>by rw[gO];split;exact xk (I.bl _ _) hb;exact I.bl b k
 obtain⟨wb,wk,wv⟩:=w;cases wb with
 |true=>obtain⟨h1,h2⟩:=xr I.nE;exact⟨h1,I.nF,λe he=>(h2 e he).elim (λz=>by rw[z];exact hk) λ⟨e',VN,z⟩=>by rw[<- z];exact I.kE e' VN,I.kF,R5⟩
 |false=>obtain⟨h1,h2⟩:=xr I.nF;exact⟨I.nE,h1,I.kE,λe he=>(h2 e he).elim (λz=>by rw[z];exact hk) λ⟨e',VN,z⟩=>by rw[<- z];exact I.kF e' VN,R5⟩
def mq(I:Iv n M p)(h:zC n m):below n (ji p.E p.F m.2):=by
 obtain⟨g,o⟩:=m;cases o with
 |nm h y=>exact I.bl true _
 |cl h y c=>exact zB (λj=>I.bl false _) 0 (jR _)
 |rw i=>show below n (1 * 2 ^ ((i:Int)).toNat);rw[lh];exact zy h
 |zr=>exact jR _
def nU(I:Iv n M p)(hm:m∈M){k:Int×Str}(hk:k∈GN p.E m.1):k∈g7 n M (isNm m.1):=by
 refine BG.mpr ⟨m,hm,?_⟩;obtain⟨g,o⟩:=m;cases g with
 |nm h x=>exact hk
 |cl h y c=>obtain⟨j,hj,rfl⟩:=jZ.mp hk;have b:=I.bl true (nk h y);exact jZ.mpr ⟨j,yg.mpr (b.bit ((mem_iff b.1).mp hj)),rfl⟩
 |_=>cases hk
def acx(I:Iv n M p)(hm:m∈M)(h:zC n m){w:Wt}(hw:w∈wM p.E p.F m):w.2.1∈g7 n M w.1/\below n w.2.2:=by obtain⟨k,hk,rfl⟩:=jZ.mp hw;exact⟨nU I hm hk,mq I h⟩
def Nw(n:Nat)(M:List Mv)(p p':Tb):Prop:=∃w k b,k∈g7 n M w/\b<n/\ib (p.get w k) b=false/\ib (p'.get w k) b=true
def Nw.le(h:Nw n M p q)(g:Le q r):Nw n M p r:=let ⟨w,k,b,h1,h2,h3,h4⟩:=h;⟨w,k,b,h1,h2,h3,g w k b h4⟩
def Nw.ge(g:Le p q)(h:Nw n M q r):Nw n M p r:=by
 obtain⟨w,k,b,h1,h2,h3,h4⟩:=h;refine⟨w,k,b,h1,h2,?_,h4⟩;cases z:ib (p.get w k) b with
 |false=>rfl
 |true=>rw[g w k b z] at h3;cases h3
def zD{w:Wt}:Le p (jx p w):=λb k=>by
 rw[gO];split
 rename_i h
 rw[h.1,h.2];exact m3 _ _;exact kQ _
def GO{w:Wt}(hk:w.2.1∈g7 n M w.1)(hb:below n w.2.2)(h:(jx p w).b=true):p.b=true\/Nw n M p (jx p w):=by
 have h:(p.b || !decide (bitOr (p.get w.1 w.2.1) w.2.2=p.get w.1 w.2.1))=true:=h;cases hp:p.b with
 |true=>exact .inl rfl
 |false=>
  rw[hp,N9] at h;have gf:bitOr (p.get w.1 w.2.1) w.2.2≠p.get w.1 w.2.1:=λz=>by rw[ν z] at h;cases h
  right
  have hs:=λz=>gf (gM (Gu (kQ _) z) (m3 _ _));obtain⟨b,h1,h2⟩:∃b,ib w.2.2 b=true/\¬ ib (p.get w.1 w.2.1) b=true:=Sw λz=>hs λb hb=>Sw λy=>z ⟨b,hb,y⟩;refine⟨w.1,w.2.1,b,hk,hb.bit h1,by simpa using h2,?_⟩;rw[gO,ι ⟨rfl,rfl⟩];exact gN _ _ b h1
theorem uy:∀{l:List Wt}{p:Tb},Iv n M p->(∀w∈l,w.2.1∈g7 n M w.1/\below n w.2.2)->Iv n M (l.foldl jx p)/\Le p (l.foldl jx p)/\((l.foldl jx p).b=true->p.b=true\/Nw n M p (l.foldl jx p))
 |[],p,I,_=>⟨I,Le.refl p,.inl⟩
 |w::l,p,I,h=>by
  have h0:=h w fB;obtain⟨h1,h2,h3⟩:=uy (I.step h0.1 h0.2) λv hv=>h v (gz _ hv);refine⟨h1,zD.trans h2,λhb=>?_⟩;rcases h3 hb with z|z
  rcases GO h0.1 h0.2 z with z|z
  exact .inl z;exact .inr (z.le h2);exact .inr (z.ge zD)
noncomputable def VQ(n:Nat)(M:List Mv):List ((Bool×Int×Str)×Nat):=[true,false].flatMap λw=>(g7 n M w).flatMap λk=>(List.range n).map λb=>((w,k),b)
noncomputable def mu(n:Nat)(M:List Mv)(p:Tb):Nat:=((VQ n M).filter λx=>!ib (p.get x.1.1 x.1.2) x.2).length
def ND(h:Le p q)(w:Nw n M p q):mu n M q<mu n M p:=by
 obtain⟨w,k,b,h1,h2,h3,h4⟩:=w;refine TS.filter_lt (λx _ z=>?_) (y:=((w,k),b)) ?_ (by rw[h4];rfl) (by rw[h3];rfl);cases q:ib (p.get x.1.1 x.1.2) x.2 with
 |false=>rfl
 |true=>rw[h _ _ _ q] at z;cases z
 exact BG.mpr ⟨w,by cases w<;>simp,BG.mpr ⟨k,h1,jZ.mpr ⟨b,yg.mpr h2,rfl⟩⟩⟩
def GP(n:Nat)(M:List Mv):Iv n M ⟨[],[],false⟩:=⟨IW,IW,λe h=>(nomatch h),λe h=>(nomatch h),λw k=>by cases w<;>exact jR n⟩
end
abbrev Sf:=Bool->Int×Str->Int
def gS(S:Sf)(g:Pl)(w:Bool)(k:Int×Str):Prop:=match g with
 |.nm h x=>w=true/\k=nk h x
 |.cl h y c=>w=false/\∃j:Nat,ib (S true (nk h y)) j=true/\k=((j:Int),c)
 |_=>False
def hS(S:Sf)(o:Pl)(b:Nat):Prop:=match o with
 |.nm h y=>ib (S true (nk h y)) b=true
 |.cl h y c=>∃j:Nat,ib (S true (nk h y)) j=true/\ib (S false ((j:Int),c)) b=true
 |.rw i=>b=i
 |.zr=>False
def LG(S:Sf)(m:Mv):Prop:=∀w k b,gS S m.1 w k->hS S m.2 b->ib (S w k) b=true
def Ls(M:List Mv)(p:Tb):Prop:=∀S,(∀m∈M,LG S m)->∀w k,sub (p.get w k) (S w k)
def GQ{l:qao}{f:Nat->Int}{b:Nat}:∀{x:Int},ib (l.foldl (λt j=>bitOr t (f j)) x) b=true↔ib x b=true\/∃j∈l,ib (f j) b=true:=by
 induction l with
 |nil=>intro x;simp
 |cons j l ih=>intro x;rw[RQ,ih,rN,Bool.or_eq_true,or_assoc];simp
section
variable{M:List Mv}{p q:Tb}{m:Mv}
def mw(I:Iv n M p){g:Pl}{w:Bool}{k:Int×Str}:gS p.get g w k↔w=isNm g/\k∈GN p.E g:=by
 cases g with
 |nm h x=>exact⟨λh=>⟨h.1,hY.mpr h.2⟩,λh=>⟨h.1,hY.mp h.2⟩⟩
 |cl h y c=>have b:=I.bl true (nk h y);refine⟨λ⟨h1,j,h2,h3⟩=>⟨h1,jZ.mpr ⟨j,(mem_iff b.1).mpr h2,h3.symm⟩⟩,λ⟨h1,h2⟩=>⟨h1,?_⟩⟩;obtain⟨j,hj,e⟩:=jZ.mp h2;exact⟨j,(mem_iff b.1).mp hj,e.symm⟩
 |rw i=>exact⟨False.elim,λh=>nomatch h.2⟩
 |zr=>exact⟨False.elim,λh=>nomatch h.2⟩
def uz(I:Iv n M p){o:Pl}{b:Nat}:hS p.get o b↔ib (ji p.E p.F o) b=true:=by
 cases o with
 |nm h y=>exact Iff.rfl
 |cl h y c=>
  have e:=I.bl true (nk h y);show _↔ib (List.foldl _ 0 _) b=true;rw[GQ,BS.eF];refine⟨λ⟨j,h1,h2⟩=>.inr ⟨j,(mem_iff e.1).mpr h1,h2⟩,λh=>?_⟩;obtain h|⟨j,h1,h2⟩:=h
  cases h;exact⟨j,(mem_iff e.1).mp h1,h2⟩
 |rw i=>show b=i↔ib (1 * 2 ^ ((i:Int)).toNat) b=true;rw[lh,Ll,aaE]
 |zr=>exact⟨False.elim,λh=>by rw[show ji p.E p.F .zr=0 from rfl,BS.eF] at h;cases h⟩
def uA{S S':Sf}(h:∀w k,sub (S w k) (S' w k)){g:Pl}{w:Bool}{k:Int×Str}(x:gS S g w k):gS S' g w k:=by
 cases g with
 |cl a y c=>obtain⟨h1,j,h2,h3⟩:=x;exact⟨h1,j,h _ _ _ h2,h3⟩
 |_=>exact x
def LH{S S':Sf}(h:∀w k,sub (S w k) (S' w k)){o:Pl}{b:Nat}(x:hS S o b):hS S' o b:=by
 cases o with
 |nm a y=>exact h _ _ _ x
 |cl a y c=>obtain⟨j,h2,h3⟩:=x;exact⟨j,h _ _ _ h2,h _ _ _ h3⟩
 |_=>exact x
def pG(I:Iv n M p){S:Sf}(c:LG S m)(hp:∀w k,sub (p.get w k) (S w k)){k:Int×Str}(hk:k∈GN p.E m.1):sub (ji p.E p.F m.2) (S (isNm m.1) k):=λb hb=>
 c _ _ b (uA hp ((mw I).mpr ⟨rfl,hk⟩)) (LH hp ((uz I).mpr hb))
def NF(I:Iv n M p)(h:∀k∈GN p.E m.1,sub (ji p.E p.F m.2) (p.get (isNm m.1) k)):LG p.get m:=λw k b x y=>by obtain⟨rfl,hk⟩:=(mw I).mp x;exact h k hk b ((uz I).mp y)
theorem Ls.jx(h:Ls M p){w:Wt}(hw:∀S,(∀m∈M,LG S m)->sub w.2.2 (S w.1 w.2.1)):Ls M (jx p w):=λS hS b k=>by
 rw[gO];split
 rename_i z
 rw[z.1,z.2];exact Gu (h S hS _ _) (hw S hS);exact h S hS b k
theorem Be:∀{l:List Wt}{p:Tb},Ls M p->(∀w∈l,∀S,(∀m∈M,LG S m)->sub w.2.2 (S w.1 w.2.1))->Ls M (l.foldl MK.jx p)
 |[],p,L,_=>L
 |w::l,p,L,h=>Be (l:=l) (L.jx λS hS=>h w fB S hS) λv hv=>h v (gz _ hv)
def QL:Ls M ⟨[],[],false⟩:=λS hS w k=>by cases w<;>exact sub_zero _
theorem xt:∀{l:List Wt}{p:Tb},(l.foldl MK.jx p).b=false->p.b=false/\(∀b k,(l.foldl MK.jx p).get b k=p.get b k)/\∀w∈l,sub w.2.2 (p.get w.1 w.2.1)
 |[],p,h=>⟨h,λ_ _=>rfl,λw h=>nomatch h⟩
 |w::l,p,h=>by
  obtain⟨h1,h2,h3⟩:=xt (l:=l) h;have h1:(p.b || !decide (bitOr (p.get w.1 w.2.1) w.2.2=p.get w.1 w.2.1))=false:=h1;rw[Bool.or_eq_false_iff] at h1;have e:=Sw λz=>by have:=h1.2;rw[π z] at this;cases this
  have g:∀b k,(MK.jx p w).get b k=p.get b k:=λb k=>by
   rw[gO];split
   rename_i z;rw[z.1,z.2];exact e
   rfl
  refine⟨h1.1,λb k=>(h2 b k).trans (g b k),λv hv=>?_⟩;rcases dg.mp hv with rfl|hv
  rw[<- e];exact gN _ _;rw[<- g];exact h3 v hv
end
section
theorem pH:∀m∈d8 rs,zC rs.length m:=λm hm=>by
 obtain⟨i,hi,hm⟩:=BG.mp hm;have hi:=yg.mp hi;unfold GL at hm;have op:∀(g:Pl)(a:Nat)(o:ix),zC rs.length (g,GK a o):=λg a o=>by cases o<;>trivial
 split at hm
 rename_i r h _ _
 cases r with
 |new x=>rw[hY.mp hm];exact hi
 |put x o=>rw[hY.mp hm];exact op _ _ _
 |get x y k=>rw[hY.mp hm];trivial
 |set y k o=>rw[hY.mp hm];exact op _ _ _
 |call x g as=>
  simp only[vE] at hm;split at hm;rcases dg.mp hm with rfl|hm
  exact op _ _ _;obtain⟨z,_,rfl⟩:=jZ.mp hm;exact op _ _ _;cases hm
 |_=>cases hm
 cases hm
def GR{p:Tb}(I:Iv rs.length (d8 rs) p)(hi:i<rs.length){w:Wt}(hw:w∈wA rs p.E p.F i):∃m∈d8 rs,w∈wM p.E p.F m/\w.2.1∈g7 rs.length (d8 rs) w.1/\below rs.length w.2.2:=by obtain⟨m,hm,hw⟩:=BG.mp hw;have hm:m∈d8 rs:=BG.mpr ⟨i,yg.mpr hi,hm⟩;exact⟨m,hm,hw,acx I hm (pH m hm) hw⟩
theorem kY{E F:List Ent}{b:Bool}(I:Iv rs.length (d8 rs) ⟨E,F,b⟩):∀n≤rs.length,Iv rs.length (d8 rs) (ck rs E F n)/\Le ⟨E,F,b⟩ (ck rs E F n)/\((ck rs E F n).b=true->Nw rs.length (d8 rs) ⟨E,F,b⟩ (ck rs E F n))
 |0,_=>⟨I.bool false,λ_ _=>kQ _,λh=>nomatch h⟩
 |n+1,h=>by
  obtain⟨I',h1,h2⟩:=kY I n (by lia);rw[i8];obtain⟨g1,g2,g3⟩:=uy (l:=wA rs (ck rs E F n).E (ck rs E F n).F n) I' λw hw=>(GR I' (by lia) hw).choose_spec.2.2;refine⟨g1,h1.trans g2,λhb=>?_⟩;rcases g3 hb with z|z
  exact (h2 z).le g2;exact z.ge h1
theorem Bf{E F:List Ent}{b:Bool}(I:Iv rs.length (d8 rs) ⟨E,F,b⟩)(L:Ls (d8 rs) ⟨E,F,b⟩):∀n≤rs.length,Ls (d8 rs) (ck rs E F n)
 |0,_=>L
 |n+1,h=>by have L':=Bf I L n (by lia);have I':=(kY I n (by lia)).1;rw[i8];refine Be L' λw hw S hS=>?_;obtain⟨m,hm,hw,_⟩:=GR I' (by lia) hw;obtain⟨k,hk,rfl⟩:=jZ.mp hw;exact pG I' (hS m hm) (λw k=>L' S hS w k) hk
noncomputable def nV(rs:qal):Nat->Tb
 |0=>⟨[],[],false⟩
 |m+1=>ck rs (nV rs m).E (nV rs m).F rs.length
theorem rR(rs:qal):∀m,Iv rs.length (d8 rs) (nV rs m)/\Ls (d8 rs) (nV rs m)
 |0=>⟨GP _ _,QL⟩
 |m+1=>by obtain⟨I,L⟩:=rR rs m;exact⟨(kY (b:=(nV rs m).b) I rs.length (cc _)).1,Bf (b:=(nV rs m).b) I L rs.length (cc _)⟩
def GU{p q:Tb}(h:∀b k,p.get b k=q.get b k)(m:Mv):wM p.E p.F m=wM q.E q.F m:=by
 have hE:∀k,bo p.E k=bo q.E k:=λk=>h true k;have hF:∀k,bo p.F k=bo q.F k:=λk=>h false k;obtain⟨g,o⟩:=m;have e1:GN p.E g=GN q.E g:=by cases g<;>simp only[GN,hE]
 have e2:ji p.E p.F o=ji q.E q.F o:=by cases o<;>simp only[ji,XO,hE,hF]
 unfold wM;rw[e1,e2]
theorem xu{E F:List Ent}:∀n,(ck rs E F n).b=false->(∀b k,(ck rs E F n).get b k=Tb.get ⟨E,F,false⟩ b k)/\∀i<n,∀w∈wA rs E F i,sub w.2.2 (Tb.get ⟨E,F,false⟩ w.1 w.2.1)
 |0,_=>⟨λ_ _=>rfl,λi h=>absurd h (Nat.not_lt_zero i)⟩
 |n+1,h=>by
  rw[i8] at h ⊢;obtain⟨h1,h2,h3⟩:=xt h;obtain⟨g1,g2⟩:=xu n h1;refine⟨λb k=>(h2 b k).trans (g1 b k),λi hi w hw=>?_⟩;by_cases z:i=n;subst z;have e:wA rs (ck rs E F i).E (ck rs E F i).F i=wA rs E F i:=by unfold wA;exact rk (λf=>List.flatMap f (GL rs i)) (funext λm=>GU (q:=⟨E,F,false⟩) g1 m)
  have:=h3 w (by rw[e];exact hw);rw[g1] at this;exact this;exact g2 i (by lia) w hw
def xv{E:List Ent}(I:Iv rs.length (d8 rs) ⟨E,F,false⟩)(h:(ck rs E F rs.length).b=false):∀m∈d8 rs,LG (ck rs E F rs.length).get m:=by obtain⟨g1,g2⟩:=xu rs.length h;rw[show (ck rs E F rs.length).get=Tb.get ⟨E,F,false⟩ from funext λb=>funext λk=>g1 b k];intro m hm;obtain⟨i,hi,hm'⟩:=BG.mp hm;exact NF I λk hk=>g2 i (yg.mp hi) (isNm m.1,k,ji E F m.2) (BG.mpr ⟨m,hm',jZ.mpr ⟨k,hk,rfl⟩⟩)
end
noncomputable def pC(x:Int)(c:Str)(k:Int×Str):Bool:=decide (k.2=c) && ib x k.1.toNat
noncomputable def f6(E F:List Ent):Pl->Int
 |.rw i=>1 * 2 ^ ((i:Int)).toNat
 |.nm h y=>bo E (nk h y)
 |.cl h y c=>NB (pC (bo E (nk h y)) c) F
 |.zr=>0
noncomputable def fA(E:List Ent):Pl->List (Int×Str)
 |.nm h x=>[nk h x]
 |.cl h y c=>((List.range 60).filter (ib (bo E (nk h y)))).map λ(j:Nat)=>((j:Int),c)
 |_=>[]
noncomputable def bL(E F:List Ent)(m:Mv):List (Int×Str):=(fA E m.1).filter λk=>!decide (bitOr (Tb.get ⟨E,F,false⟩ (isNm m.1) k) (f6 E F m.2)=Tb.get ⟨E,F,false⟩ (isNm m.1) k)
noncomputable def stK(w:Bool)(o:Pl)(p:Tb)(k:Int×Str):Tb:={jx p (w,k,f6 p.E p.F o) with b:=true}
noncomputable def mx(p:Tb)(m:Mv):Tb:=(bL p.E p.F m).foldl (stK (isNm m.1) m.2) p
def get_mem{E:List Ent}(nd:(E.map (·.1)).Nodup){e:Ent}(h:e∈E):bo E e.1=e.2:=by have h1:=fq e.1 E;rw[uu nd h] at h1;exact (T.int.inj h1).symm
theorem jT{k:Int×Str}:∀F:List Ent,bo F k≠0->∃e∈F,e.1=k/\e.2=bo F k
 |[],z=>absurd rfl z
 |e::F,z=>by
  show ∃e'∈e::F,e'.1=_/\e'.2=if e.1=_ then e.2 else bo F _
  by_cases q:e.1=k;exact⟨e,fB,q,by rw[ι q]⟩;obtain⟨e',h1,h2,h3⟩:=jT F λy=>z (by show (if e.1=_ then e.2 else bo F _)=0;rw[η q];exact y);exact⟨e',gz _ h1,h2,by rw[η q];exact h3⟩
section
variable{M:List Mv}{p q:Tb}{m:Mv}
theorem pI(I:Iv n M p)(o:Pl):f6 p.E p.F o=ji p.E p.F o:=by
 cases o with
 |cl h y c=>
  have key:∀b,ib (f6 p.E p.F (.cl h y c)) b=true↔ib (ji p.E p.F (.cl h y c)) b=true:=λb=>by
   rw[<- uz I];show ib (p.F.foldl (NA (pC (bo p.E (nk h y)) c)) 0) b=true↔_;rw[Gx,Ln.eF,N9,RP];constructor;rintro⟨e,he,z⟩;rw[ij] at z;have z1:=z.1;unfold pC at z1;rw[ij] at z1;have e1:e.1=((e.1.1.toNat:Int),c):=IA (by show e.1.1=((e.1.1.toNat:Nat):Int);have:=I.pos e he;lia) (υ z1.1);refine⟨e.1.1.toNat,z1.2,?_⟩;rw[<- e1,show p.get false e.1=e.2 from get_mem I.nF he];exact z.2;rintro⟨j,hj,hb⟩;have hb:ib (bo p.F ((j:Int),c)) b=true:=hb;obtain⟨e,he,e1,e2⟩:=jT p.F (k:=((j:Int),c)) λz=>by rw[z,BS.eF] at hb;cases hb
   refine⟨e,he,?_⟩;rw[ij];refine⟨?_,by rw[e2];exact hb⟩;unfold pC;rw[e1,ij];exact⟨ν rfl,by rw[lh];exact hj⟩
  exact gM (λb=>(key b).mp) λb=>(key b).mpr
 |_=>rfl
def xw(I:Iv n M p)(hn:n<=60){g:Pl}{k:Int×Str}:k∈fA p.E g↔k∈GN p.E g:=by
 cases g with
 |cl h y c=>
  have b:below n (bo p.E (nk h y)):=I.bl true (nk h y);have e:∀j,j∈(List.range 60).filter (ib (bo p.E (nk h y)))↔j∈mem (bo p.E (nk h y)):=λj=>by rw[mem_iff b.1,DB,yg];exact⟨λh=>h.2,λh=>⟨qe (b.bit h) hn,h⟩⟩
  show k∈List.map _ _↔k∈List.map _ _;rw[jZ,jZ];exact⟨λ⟨j,h1,h2⟩=>⟨j,(e j).mp h1,h2⟩,λ⟨j,h1,h2⟩=>⟨j,(e j).mpr h1,h2⟩⟩
 |_=>exact Iff.rfl
def zE{w:Bool}{o:Pl}{k:Int×Str}:Le p (stK w o p k):=zD (p:=p) (w:=(w,k,f6 p.E p.F o))
theorem Bg(hm:m∈M)(ok:zC n m):∀{l:List (Int×Str)}{p:Tb},Iv n M p->Ls M p->(∀k∈l,k∈GN p.E m.1)->Iv n M (l.foldl (stK (isNm m.1) m.2) p)/\Ls M (l.foldl (stK (isNm m.1) m.2) p)/\Le p (l.foldl (stK (isNm m.1) m.2) p)
 |[],p,I,L,_=>⟨I,L,Le.refl p⟩
 |k::l,p,I,L,h=>by
  have hk:=h k fB;have I1:Iv n M (stK (isNm m.1) m.2 p k):=(I.step (w:=(isNm m.1,k,f6 p.E p.F m.2)) (nU I hm hk) (by rw[pI I];exact mq I ok)).bool true;have L1:Ls M (stK (isNm m.1) m.2 p k):=L.jx (w:=(isNm m.1,k,f6 p.E p.F m.2)) λS hS=>by rw[pI I];exact pG I (hS m hm) (λw k=>L S hS w k) hk
  obtain⟨h1,h2,h3⟩:=Bg hm ok (l:=l) I1 L1 λv hv=>((mw I1).mp (uA (λw k=>zE (p:=p) w k) ((mw I).mpr ⟨rfl,h v (gz _ hv)⟩))).2;exact⟨h1,h2,zE.trans h3⟩
def xx(I:Iv n M p)(hn:n<=60):∀k∈bL p.E p.F m,k∈GN p.E m.1:=λk hk=>(xw I hn).mp (DB.mp hk).1
def QM(I:Iv n M p)(L:Ls M p)(hn:n<=60)(hm:m∈M)(ok:zC n m):Iv n M (mx p m)/\Ls M (mx p m)/\Le p (mx p m)/\(bL p.E p.F m≠[]->Nw n M p (mx p m)):=by
 have lk:=xx (m:=m) I hn;obtain⟨h1,h0,h2⟩:=Bg hm ok I L lk;refine⟨h1,h0,h2,λgf=>?_⟩;unfold mx;cases hl:bL p.E p.F m with
 |nil=>exact absurd hl gf
 |cons k l=>
  have hk:k∈bL p.E p.F m:=by rw[hl];exact fB
  have hc:=(DB.mp hk).2;have hb:below n (f6 p.E p.F m.2):=by rw[pI I];exact mq I ok
  rcases GO (p:=⟨p.E,p.F,false⟩) (w:=(isNm m.1,k,f6 p.E p.F m.2)) (nU I hm (lk k hk)) hb (by show (false || _)=true;rw[N9];exact hc) with z|z
  cases z;obtain⟨w,k',b,n1,n2,n3,n4⟩:=z;rw[hl] at h2;refine⟨w,k',b,n1,n2,n3,?_⟩;have I1:Iv n M (stK (isNm m.1) m.2 p k):=(I.step (w:=(isNm m.1,k,f6 p.E p.F m.2)) (nU I hm (lk k hk)) hb).bool true;have L1:Ls M (stK (isNm m.1) m.2 p k):=L.jx (w:=(isNm m.1,k,f6 p.E p.F m.2)) λS hS=>by rw[pI I];exact pG I (hS m hm) (λw k=>L S hS w k) (lk k hk)
  refine (Bg hm ok (l:=l) I1 L1 λv hv=>((mw I1).mp (uA (λw k=>zE (p:=p) w k) ((mw I).mpr ⟨rfl,lk v (by rw[hl];exact gz _ hv)⟩))).2).2.2 w k' b ?_;rw[gO] at n4;show ib ((jx p (isNm m.1,k,f6 p.E p.F m.2)).get w k') b=true;rw[gO];exact n4
theorem bK{w:Bool}{o:Pl}:∀{l:List (Int×Str)}{q:Tb},q.b=true->(l.foldl (stK w o) q).b=true
 |[],q,h=>h
 |k::l,q,_=>bK (l:=l) (q:=stK w o q k) rfl
theorem uB(hn:n<=60)(ok:∀m∈M,zC n m):∀{ms:List Mv}{p:Tb},(∀m∈ms,m∈M)->Iv n M p->Ls M p->Iv n M (ms.foldl mx p)/\Ls M (ms.foldl mx p)/\Le p (ms.foldl mx p)/\((ms.foldl mx p).b=true->p.b=true\/Nw n M p (ms.foldl mx p))/\((ms.foldl mx p).b=false->ms.foldl mx p=p/\∀m∈ms,bL p.E p.F m=[])
 |[],p,_,I,L=>⟨I,L,Le.refl p,.inl,λ_=>⟨rfl,λm h=>nomatch h⟩⟩
 |m::ms,p,hm,I,L=>by
  have hm0:=hm m fB;obtain⟨h1,h0,h2,h3⟩:=QM I L hn hm0 (ok m hm0);obtain⟨g1,g0,g2,g3,g4⟩:=uB hn ok (ms:=ms) (λv hv=>hm v (gz _ hv)) h1 h0;have nl:bL p.E p.F m=[]->mx p m=p:=λz=>by unfold mx;rw[z];rfl
  refine⟨g1,g0,h2.trans g2,λhb=>?_,λhb=>?_⟩;by_cases z:bL p.E p.F m=[];rcases g3 hb with q|q
  rw[nl z] at q;exact .inl q;exact .inr (q.ge h2);exact .inr ((h3 z).le g2);obtain⟨e1,e2⟩:=g4 hb;have z:bL p.E p.F m=[]:=by
   cases hl:bL p.E p.F m with
   |nil=>rfl
   |cons k l=>
    rw[RQ,e1] at hb;have:(mx p m).b=true:=by unfold mx;rw[hl];exact bK (l:=l) (q:=stK (isNm m.1) m.2 p k) rfl
    rw[this] at hb;cases hb
  have e3:=nl z;rw[e3] at e1 e2;refine⟨by rw[RQ,e3];exact e1,λv hv=>?_⟩;rcases dg.mp hv with rfl|hv
  exact z;exact e2 v hv
def zF(I:Iv n M p)(hn:n<=60)(hc:bL p.E p.F m=[]):LG p.get m:=NF I λk hk=>by
 have nk:¬ k∈bL p.E p.F m:=by rw[hc];exact fE
 have e:bitOr (p.get (isNm m.1) k) (f6 p.E p.F m.2)=p.get (isNm m.1) k:=Sw λq=>nk (DB.mpr ⟨(xw I hn).mpr hk,by show (!decide (bitOr (p.get (isNm m.1) k) _=p.get (isNm m.1) k))=true;rw[π q];rfl⟩);rw[<- pI I,<- e];exact gN _ _
end
def Bh{E:List Ent}(nd:(E.map (·.1)).Nodup){t:TS.Tr}:t∈qc E↔t.2.2≠0/\bo E (t.1,t.2.1)=t.2.2:=by unfold qc;rw[jZ];constructor;rintro⟨e,he,rfl⟩;obtain⟨h1,h2⟩:=DB.mp he;exact⟨by simpa using h2,get_mem nd h1⟩;rintro⟨h1,h2⟩;obtain⟨e,he,e1,e2⟩:=jT E (k:=(t.1,t.2.1)) (by rw[h2];exact h1);rw[h2] at e2;refine⟨e,DB.mpr ⟨he,by rw[e2];simpa using h1⟩,?_⟩;rw[e1,e2]
def GV{E:List Ent}(nd:(E.map (·.1)).Nodup):(qc E).Nodup:=by
 unfold qc List.Nodup;rw[W6];have h:=nd;unfold List.Nodup at h;rw[W6] at h;refine (h.sublist List.filter_sublist).imp λ{a b} q z=>q ?_;injection z with z1 z2
 injection z2 with z2 _
 exact IA z1 z2
def xy{E:List Ent}(n1:(E.map (·.1)).Nodup)(n2:(F.map (·.1)).Nodup)(h:∀k,bo E k=bo F k):(qc E).Perm (qc F) :=
 (List.perm_ext_iff_of_nodup (GV n1) (GV n2)).mpr λt=>by rw[Bh n1,Bh n2,h]
theorem jU:∀{l m:List TS.Tr},l.Pairwise (λa b=>TS.dy b a=false)->m.Pairwise (λa b=>TS.dy b a=false)->l.Perm m->l=m
 |[],m,_,_,p=>(List.nil_perm.mp p).symm
 |a::l,[],_,_,p=>absurd p.length_eq (by simp)
 |a::l,b::m,h1,h2,p=>by
  rw[List.pairwise_cons] at h1 h2;have e:a=b:=by
   have ha:a∈b::m:=p.mem_iff.mp (by simp);have hb:b∈a::l:=p.mem_iff.mpr (by simp);rcases dg.mp ha with z|z
   exact z;rcases dg.mp hb with q|q
   exact q.symm;have x:=h2.1 a z;have y:=h1.1 b q;refine Sw λne=>?_;rcases TS.A8 ne with t|t
   rw[t] at x;cases x;rw[t] at y;cases y
  subst e;rw[jU h1.2 h2.2 (List.perm_cons a |>.mp p)]
noncomputable def pJ(g:Pl)(h:Nat):ix->List Mv
 |.nm y=>[(g,.nm h y)]
 |.nu _=>[]
noncomputable def IL(rs:qal)(i h:Nat):Rw->List Mv
 |.new x=>[(.nm h x,.rw i)]
 |.put x o=>pJ (.nm h x) h o
 |.get x y k=>[(.nm h x,.cl h y (jS k))]
 |.set y k o=>pJ (.cl h y (jS k)) h o
 |.call x g as=>match fnOf rs g with
  |some (s,ps,o)=>(ps.zip as).flatMap (λz=>pJ (.nm s z.1) h z.2)++pJ (.nm h x) s o
  |none=>[]
 |_=>[]
noncomputable def GW(rs:qal)(i:Nat):List Mv:=match rs[i]?,g6 (bC rs) i with
 |some r,some h=>IL rs i h r
 |_,_=>[]
noncomputable def iL(rs:qal)(n:Nat):List Mv:=(List.range n).flatMap (GW rs)
def GX(rs:qal)(n:Nat):iL rs (n+1)=iL rs n++GW rs n:=by unfold iL;rw[RS,List.flatMap_append];simp
def xA{g:Pl}{h:Nat}{o:ix}{m:Mv}:m∈pJ g h o↔m=(g,GK h o)/\GK h o≠.zr:=by
 cases o with
 |nm y=>exact⟨λz=>⟨hY.mp z,λq=>nomatch q⟩,λz=>hY.mpr z.1⟩
 |nu _=>exact⟨λz=>(nomatch z),λz=>(z.2 rfl).elim⟩
def VU{h:Nat}{m:Mv}:m∈IL rs i h r↔m∈vE rs i h r/\m.2≠.zr:=by
 cases r with
 |new x=>exact⟨λz=>⟨z,by rw[hY.mp z];exact λq=>nomatch q⟩,λz=>z.1⟩
 |get x y k=>exact⟨λz=>⟨z,by rw[hY.mp z];exact λq=>nomatch q⟩,λz=>z.1⟩
 |put x o=>show m∈pJ _ _ _↔m∈[_]/\_;rw[xA,hY];exact⟨λz=>⟨z.1,by rw[z.1];exact z.2⟩,λz=>⟨z.1,by have:=z.2;rw[z.1] at this;exact this⟩⟩
 |set y k o=>show m∈pJ _ _ _↔m∈[_]/\_;rw[xA,hY];exact⟨λz=>⟨z.1,by rw[z.1];exact z.2⟩,λz=>⟨z.1,by have:=z.2;rw[z.1] at this;exact this⟩⟩
 |call x g as=>
  simp only[IL,vE];cases fnOf rs g with
  |none=>exact⟨λz=>(nomatch z),λz=>nomatch z.1⟩
  |some a=>obtain⟨s,ps,o⟩:=a;show m∈_++_↔m∈_::_/\_;rw[gx,BG,dg,jZ,xA];constructor;rintro (⟨z,hz,hm⟩|⟨rfl,hm⟩);obtain⟨rfl,h2⟩:=xA.mp hm;exact⟨.inr ⟨z,hz,rfl⟩,h2⟩;exact⟨.inl rfl,hm⟩;rintro⟨rfl|⟨z,hz,rfl⟩,h2⟩;exact .inr ⟨rfl,h2⟩;exact .inl ⟨z,hz,xA.mpr ⟨rfl,h2⟩⟩
 |_=>exact⟨λz=>(nomatch z),λz=>nomatch z.1⟩
def GY{m:Mv}:m∈GW rs i↔m∈GL rs i/\m.2≠.zr:=by
 unfold GL GW;cases rs[i]? with
 |none=>exact⟨λz=>(nomatch z),λz=>nomatch z.1⟩
 |some r=>
  cases g6 (bC rs) i with
  |none=>exact⟨λz=>(nomatch z),λz=>nomatch z.1⟩
  |some h=>exact VU
def uC{m:Mv}:m∈iL rs rs.length↔m∈d8 rs/\m.2≠.zr:=by unfold iL d8;rw[BG,BG];exact⟨λ⟨i,hi,hm⟩=>⟨⟨i,hi,(GY.mp hm).1⟩,(GY.mp hm).2⟩,λ⟨⟨i,hi,hm⟩,hz⟩=>⟨i,hi,GY.mpr ⟨hm,hz⟩⟩⟩
def VY{h:Nat}(hr:∀x g as,r=.call x g as->as.length<=4):(vE rs i h r).length<=5/\(IL rs i h r).length<=5:=by
 have l1:∀(g:Pl)(h:Nat)(o:ix),(pJ g h o).length<=1:=λg h o=>by cases o<;>simp[pJ]
 cases r with
 |put x o=>exact⟨by simp[vE],ll (l1 _ _ _) (by decide)⟩
 |set y k o=>exact⟨by simp[vE],ll (l1 _ _ _) (by decide)⟩
 |call x g as=>
  simp only[vE,IL];cases fnOf rs g with
  |none=>exact⟨h_ _,h_ _⟩
  |some a=>
   obtain⟨s,ps,o⟩:=a;have ha:=hr x g as rfl;have z:(ps.zip as).length<=4:=by rw[DY];lia
   have f:=fu (f:=λz:Str×ix=>pJ (.nm s z.1) h z.2) (m:=1) (λz=>l1 _ _ _) (ps.zip as);have:=l1 (.nm h x) s o;exact⟨by show (_::_).length<=5;rw[yf,bX];lia,by rw[nX];lia⟩
 |_=>exact⟨by simp[vE],by simp[IL]⟩
def QN(hr:∀r∈rs,∀x g as,r=.call x g as->as.length<=4):(d8 rs).length<=rs.length * 5/\∀n,(iL rs n).length<=n * 5:=by
 have h:∀i,(GL rs i).length<=5/\(GW rs i).length<=5:=λi=>by
  unfold GL GW;cases e:rs[i]? with
  |none=>exact⟨h_ _,h_ _⟩
  |some r=>
   cases g6 (bC rs) i with
   |none=>exact⟨h_ _,h_ _⟩
   |some h=>exact VY (hr r (f_ e))
 refine⟨?_,λn=>?_⟩;have:=fu (λi=>(h i).1) (List.range rs.length)
 rwa [z8] at this
 have:=fu (λi=>(h i).2) (List.range n)
 rwa [z8] at this
end MK
namespace Lay
open PySem L2 VT Gen K5
def Ev(rs:qal)(k j:Nat):Prop:=∃k',k'<k/\rs[k']?=some .yc/\rC (bC rs) k'=some j
structure Al(rs:qal)(k:Nat)(s:ω):Prop where
 len:s.length=(st (bC rs) k).length
 VZ:∀i j:Nat,(st (bC rs) k)[i]?=some j->∃r,rs[j]?=some r/\((¬ Ev rs k j/\s[i]?=some (wd r))\/(Ev rs k j/\s[i]?=some ("else":Str)/\wd r="if"))
 bot:∀(i:Nat)(x:Str),s[i]?=some x->(x=("def":Str)↔i=0)
def QO(h:wd r="def"):∃f ps,r=.df f ps:=by cases r<;>first|exact⟨_,_,rfl⟩|exact absurd h (by show ¬ ((_:Str)="def");simp only[wd];decide +kernel)
def Ev.succ{rs:qal}{k j:Nat}(h:Ev rs k j):Ev rs (k+1) j:=let ⟨k',a,b⟩:=h;⟨k',N5 a,b⟩
def uD{k:Nat}(h:rs[k]?≠some .yc):Ev rs (k+1) j↔Ev rs k j:=by refine⟨λ⟨k',a,b,c⟩=>?_,Ev.succ⟩;by_cases e:k'=k;subst e;exact absurd b h;exact⟨k',by lia,b,c⟩
section
def LI{k:Nat}{s:ω}(A:Al rs k s)(hs:st (bC rs) (k+1)=st (bC rs) k)(he:rs[k]?≠some .yc):Al rs (k+1) s :=
 ⟨by rw[hs];exact A.len,λi j h=>by rw[hs] at h;obtain⟨r,h1,h2⟩:=A.VZ i j h;exact⟨r,h1,by rw[uD he];exact h2⟩,A.bot⟩
def Bi{k:Nat}{s:ω}(A:Al rs k s)(hs:st (bC rs) (k+1)=(st (bC rs) k).dropLast)(he:rs[k]?≠some .yc):Al rs (k+1) s.dropLast :=
 ⟨by rw[hs,ye,ye,A.len],λi j h=>by
  rw[hs] at h;have hi:=(dz.mp h).1;rw[ye] at hi;rw[NZ,ι hi] at h;obtain⟨r,h1,h2⟩:=A.VZ i j h;rw[NZ,ι (by rw[A.len];exact hi)];exact⟨r,h1,by rw[uD he];exact h2⟩,λi x h=>by
  have hi:=(dz.mp h).1;rw[ye] at hi;rw[NZ,ι hi] at h;exact A.bot i x h⟩
def uE{k:Nat}{s:ω}(W:Qd rs)(hk:k<rs.length)(A:Al rs k s)(hr:rs[k]?=some r)(hs:st (bC rs) (k+1)=st (bC rs) k++[k])(he:r≠.yc)(hb:wd r=("def":Str)↔s=[]):Al rs (k+1) (s++[wd r]):=by
 have VN:rs[k]?≠some .yc:=by rw[hr];intro z;exact he (Option.some.inj z)
 have nev:¬ Ev rs (k+1) k:=λ⟨k',a,b,c⟩=>by
  have P_:k'<=k:=by lia
  unfold rC at c;have hm:k∈st (bC rs) k':=List.mem_of_getLast? c;have:=(iZ (kd:=bC rs) k').2 k hm
  lia
 refine⟨by rw[hs,nX,nX,A.len];rfl,λi j h=>?_,λi x h=>?_⟩;rw[hs] at h;by_cases hi:i<(st (bC rs) k).length;rw[mK hi] at h;rw[mK (by rw[A.len];exact hi)];obtain⟨r',h1,h2⟩:=A.VZ i j h;exact⟨r',h1,by rw[uD VN];exact h2⟩;rw[p8 (by lia)] at h;have e:i-(st (bC rs) k).length=0:=by
  cases q:i-(st (bC rs) k).length with
  |zero=>rfl
  |succ m=>rw[q] at h;simp at h
 rw[e] at h;simp at h;subst h;refine⟨r,hr,.inl ⟨nev,?_⟩⟩;rw[p8 (by rw[A.len];lia),A.len,e];rfl;by_cases hi:i<s.length;rw[mK hi] at h;exact A.bot i x h;rw[p8 (by lia)] at h;have e:i-s.length=0:=by
  cases q:i-s.length with
  |zero=>rfl
  |succ m=>rw[q] at h;simp at h
 rw[e] at h;simp at h;subst h;rw[hb];constructor;rintro rfl;simpa using e;rintro rfl;have:s.length=0:=by lia
 exact Mr.mp this
def LJ{k:Nat}{s:ω}(A:Al rs k s)(hr:rs[k]?=some .yc)(hl:s.getLast?=some ("if":Str))(hs:st (bC rs) (k+1)=st (bC rs) k):Al rs (k+1) (s.dropLast++[("else":Str)]):=by
 have gf:s≠[]:=by rintro rfl;cases hl
 have acy:0<s.length:=W2.mpr gf;have Ja:s[s.length-1]?=some ("if":Str):=by rw[<- DU];exact hl
 refine⟨by rw[hs,nX,ye,<- A.len];simp;lia,λi j h=>?_,λi x h=>?_⟩;rw[hs] at h;have hi:i<s.length:=by rw[A.len];exact (dz.mp h).1
 obtain⟨r,h1,h2⟩:=A.VZ i j h;by_cases e:i=s.length-1;subst e;have hh:rC (bC rs) k=some j:=by unfold rC;rw[DU,<- A.len];exact h
 refine⟨r,h1,.inr ⟨⟨k,DA _,hr,hh⟩,?_,?_⟩⟩;rw[p8 (by rw[ye];lia),ye,Nat.sub_self];rfl;obtain⟨_,h2⟩|⟨_,h2,_⟩:=h2
 rw[Ja] at h2;exact (Option.some.inj h2).symm;rw[Ja] at h2;exact absurd (Option.some.inj h2) (by decide +kernel);have acz:¬ rC (bC rs) k=some j:=λz=>by
  unfold rC at z;rw[DU,<- A.len] at z;have hw:=(iZ (kd:=bC rs) k).1;obtain⟨a1,b1⟩:=dz.mp h;obtain⟨a2,b2⟩:=dz.mp z;have:=(X8.mp hw) i (s.length-1) a1 a2 (by lia)
  lia
 have hev:Ev rs (k+1) j↔Ev rs k j:=by refine⟨λ⟨k',a,b,c⟩=>?_,Ev.succ⟩;by_cases e:k'=k;subst e;exact absurd c acz;exact⟨k',by lia,b,c⟩
 refine⟨r,h1,?_⟩;rw[hev,mK (by rw[ye];lia),NZ,ι (by lia)];exact h2;by_cases hi:i<s.dropLast.length;rw[mK hi] at h;rw[ye] at hi;rw[NZ,ι hi] at h;exact A.bot i x h;rw[p8 (by lia)] at h;have e:i-s.dropLast.length=0:=by
  cases q:i-s.dropLast.length with
  |zero=>rfl
  |succ m=>rw[q] at h;simp at h
 rw[e] at h;simp at h;subst h;rw[ye] at e hi;have ei:i=s.length-1:=by lia
 have hbo:=A.bot (s.length-1) _ Ja;constructor;intro z;exact absurd z (by decide +kernel);intro z;rw[ei] at z;exact absurd (hbo.mpr z) (by decide +kernel)
def kZ{s:ω}(h:eh s x=true)(e:s=[]):x="def"\/x="skip":=by subst e;have:DM (.str x) ([("def":Str),"skip"].map T.str)=true:=h;rw[AI] at this;simpa using this
def iM{s:ω}{l:Str}(h:eh s x=true)(e:s.getLast?=some l):(x="give"->l="def")/\(x="else"->l="if")/\(x="end"->l≠"def")/\x≠"def":=by unfold eh at h;rw[e] at h;dsimp only at h;by_cases h1:x="give";rw[ι h1] at h;subst h1;exact⟨λ_=>υ h,λz=>absurd z (by decide +kernel),λz=>absurd z (by decide +kernel),by decide +kernel⟩;rw[η h1] at h;by_cases h2:x="else";rw[ι h2] at h;subst h2;exact⟨λz=>absurd z h1,λ_=>υ h,λz=>absurd z (by decide +kernel),by decide +kernel⟩;rw[η h2] at h;by_cases h3:x="end";rw[ι h3] at h;subst h3;exact⟨λz=>absurd z h1,λz=>absurd z h2,λ_=>by simpa using h,by decide +kernel⟩;rw[η h3] at h;exact⟨λz=>absurd z h1,λz=>absurd z h2,λz=>absurd z h3,by simpa using h⟩
def GZ(s:ω)(h1:(aQ r).op=false)(h2:(aQ r).cl=false)(h3:(aQ r).el=false):jM s (wd r)=s:=by
 have k:∀x:Str,(x="put"\/x="do"\/x="new"\/x="get"\/x="set"\/x="call"\/x="fail"\/x="skip")->jM s x=s:=by intro x hx;unfold jM;obtain rfl|rfl|rfl|rfl|rfl|rfl|rfl|rfl:=hx<;>rw[η (by decide +kernel),η (by decide +kernel),η (by decide +kernel)]
 cases r<;>first
  |exact Bool.noConfusion (show true=false from h1)
  |exact Bool.noConfusion (show true=false from h2)
  |exact Bool.noConfusion (show true=false from h3)
  | (refine k _ ?_;simp[wd];done)
theorem G0(W:Qd rs)(hb:iW (some []) rs=some []):∀k,k<=rs.length->∃s,iW (some []) (rs.take k)=some s/\Al rs k s
 |0,_=>⟨[],rfl,⟨rfl,λi j h=>by simp[st] at h,λi x h=>by simp at h⟩⟩
 |k+1,hk=>by
  obtain⟨s,hs,A⟩:=G0 W hb k (by lia);have d_:k<rs.length:=by lia
  have hr:rs[k]?=some rs[k]:=jj d_;obtain⟨s',h1,h2,h3⟩:=wy hb k hr;rw[hs] at h1;cases h1;refine⟨_,h3,?_⟩;generalize rs[k]=r at hr h2;have kk:=du hr;have nil:s=[]->wd r="def"\/wd r="skip":=kZ h2;have ne:s≠[]->∃l,s.getLast?=some l:=λz=>by obtain⟨a,l,e⟩:=nN z;exact⟨l,by rw[e,RL]⟩
  cases r with
  |df f ps=>
   have e:s=[]:=by by_cases z:s=[];exact z;obtain⟨l,hl⟩:=ne z;exact absurd rfl (iM h2 hl).2.2.2
   have:=uE W d_ A hr (gZ (by rw[kk];rfl) (by rw[kk];rfl)) (by simp) ⟨λ_=>e,λ_=>rfl⟩;rw[show wd (.df f ps)="def" from rfl] at this ⊢;rw[AJ];exact this
  |II a=>
   have e:s≠[]:=λz=>by rcases nil z with h|h<;>exact absurd h (by show ¬ (("if":Str)=_);decide +kernel)
   have:=uE W d_ A hr (gZ (by rw[kk];rfl) (by rw[kk];rfl)) (by simp) ⟨λh=>absurd h (by show ¬ (("if":Str)=_);decide +kernel),λh=>absurd h e⟩;rw[show wd (.II a)="if" from rfl] at this ⊢;rw[Fm];exact this
  |yd a=>
   have e:s≠[]:=λz=>by rcases nil z with h|h<;>exact absurd h (by show ¬ (("while":Str)=_);decide +kernel)
   have:=uE W d_ A hr (gZ (by rw[kk];rfl) (by rw[kk];rfl)) (by simp) ⟨λh=>absurd h (by show ¬ (("while":Str)=_);decide +kernel),λh=>absurd h e⟩;rw[show wd (.yd a)="while" from rfl] at this ⊢;rw[ma];exact this
  |give a=>have:=Bi A (iz (by rw[kk];rfl) (by rw[kk];rfl)) (by rw[hr];simp);rw[show wd (.give a)="give" from rfl,wz];exact this
  |fin=>have:=Bi A (iz (by rw[kk];rfl) (by rw[kk];rfl)) (by rw[hr];simp);rw[show wd .fin="end" from rfl,tR];exact this
  |yc=>
   have e:s≠[]:=λz=>by rcases nil z with h|h<;>exact absurd h (by show ¬ (("else":Str)=_);decide +kernel)
   obtain⟨l,hl⟩:=ne e;have hl2:=(iM h2 hl).2.1 rfl;rw[hl2] at hl;have:=LJ A hr hl (eB (by rw[kk];rfl) (by rw[kk];rfl));rw[show wd .yc="else" from rfl,wB];exact this
  |_=>rw[GZ s rfl rfl rfl];exact LI A (eB (by rw[kk];rfl) (by rw[kk];rfl)) (by rw[hr];simp)
end
structure Bl(rs:qal):Prop where
 W:Qd rs
 b:iW (some []) rs=some []
section
theorem Bl.at(B:Bl rs){k:Nat}(hr:rs[k]?=some r):∃s,Al rs k s/\eh s (wd r)=true:=by have hk:=(dz.mp hr).1;obtain⟨s,hs,A⟩:=G0 B.W B.b k (by lia);obtain⟨s',h1,h2,h3⟩:=wy B.b k hr;rw[hs] at h1;cases h1;exact⟨s,A,h2⟩
def Al.gC{k:Nat}{s:ω}(A:Al rs k s):s=[]↔st (bC rs) k=[]:=by rw[<- Mr,<- Mr,A.len]
def Al.last{k:Nat}{s:ω}(A:Al rs k s){l:Str}(h:s.getLast?=some l):∃o r,rC (bC rs) k=some o/\rs[o]?=some r/\((¬ Ev rs k o/\l=wd r)\/(Ev rs k o/\l="else"/\wd r="if")):=by
 rw[DU] at h;have hi:=(dz.mp h).1;have hj:(st (bC rs) k)[s.length-1]?=some ((st (bC rs) k)[s.length-1]'(by rw[<- A.len];exact hi)):=jj _;obtain⟨r,h1,h2⟩:=A.VZ _ _ hj;have hh:rC (bC rs) k=(st (bC rs) k)[s.length-1]?:=by unfold rC;rw[DU,<- A.len]
 refine⟨_,r,hh.trans hj,h1,?_⟩;rw[h] at h2;obtain⟨a,b⟩|⟨a,b,c⟩:=h2
 exact .inl ⟨a,Option.some.inj b⟩;exact .inr ⟨a,Option.some.inj b,c⟩
def lastOf{s:ω}(z:s≠[]):∃l,s.getLast?=some l:=by obtain⟨a,l,e⟩:=nN z;exact⟨l,by rw[e,RL]⟩
def Bl.df(B:Bl rs){k:Nat}{f ps}(hr:rs[k]?=some (.df f ps)):st (bC rs) k=[]:=by obtain⟨s,A,m⟩:=B.at hr;rw[<- A.gC];by_cases z:s=[];exact z;obtain⟨l,hl⟩:=lastOf z;exact absurd rfl (iM m hl).2.2.2
def Bl.V0(B:Bl rs){k:Nat}(hr:rs[k]?=some r)(h1:wd r≠"def")(h2:wd r≠"skip"):st (bC rs) k≠[]:=by
 obtain⟨s,A,m⟩:=B.at hr;rw[Ne,<- A.gC];intro z;rcases kZ m z with h|h
 exact h1 h;exact h2 h
theorem Bl.give(B:Bl rs){k:Nat}{a}(hr:rs[k]?=some (.give a)):(st (bC rs) k).length=1:=by
 obtain⟨s,A,m⟩:=B.at hr;have z:s≠[]:=λz=>by rcases kZ m z with h|h<;>exact absurd h (by show ¬ (("give":Str)=_);decide +kernel)
 obtain⟨l,hl⟩:=lastOf z;have hd:=(iM m hl).1 rfl;rw[DU,hd] at hl;have:=(A.bot _ _ hl).mp rfl;have:=W2.mpr z;rw[<- A.len]
 lia
def Bl.fin(B:Bl rs){k:Nat}(hr:rs[k]?=some .fin):2<=dp (bC rs) k/\∃o r,rC (bC rs) k=some o/\rs[o]?=some r/\wd r≠"def":=by
 obtain⟨s,A,m⟩:=B.at hr;have z:s≠[]:=λz=>by rcases kZ m z with h|h<;>exact absurd h (by show ¬ (("end":Str)=_);decide +kernel)
 obtain⟨l,hl⟩:=lastOf z;have hd:=(iM m hl).2.2.1 rfl;obtain⟨o,r,h1,h2,h3⟩:=A.last hl;refine⟨?_,o,r,h1,h2,?_⟩;rw[DU] at hl;have h0:¬ s.length-1=0:=λq=>hd ((A.bot _ _ hl).mpr q);unfold dp;rw[<- A.len]
 lia
 obtain⟨_,q⟩|⟨_,_,q⟩:=h3
 rw[<- q];exact hd;rw[q];decide +kernel
def Bl.head(B:Bl rs){k:Nat}(hr:rs[k]?=some r):(st (bC rs) (k+1)).head?=if wd r="give" then none else g6 (bC rs) k:=by
 have kk:=du hr;have keep:∀{l:qao}{x:Nat},l≠[]->(l++[x]).head?=l.head?:=λ{l x} h=>by cases l with
  |nil=>exact absurd rfl h
  |cons a l=>rfl
 unfold g6;rw[kk];cases r with
 |df f ps=>rw[gZ (by rw[kk];rfl) (by rw[kk];rfl),B.df hr,η (by show ¬ (("def":Str)=_);decide +kernel),ι (show (aQ (.df f ps)).df=true from rfl)];rfl
 |give a=>
  rw[iz (by rw[kk];rfl) (by rw[kk];rfl),ι (show wd (.give a)="give" from rfl)];have:=B.give hr
  match q:st (bC rs) k,this with
  |[x],_=>rfl
 |fin=>
  rw[iz (by rw[kk];rfl) (by rw[kk];rfl),η (by show ¬ (("end":Str)=_);decide +kernel),η (by simp[aQ])];have:=(B.fin hr).1;unfold dp at this
  match q:st (bC rs) k,this with
  |x::y::l,_=>rfl
 |II a=>rw[gZ (by rw[kk];rfl) (by rw[kk];rfl),η (by show ¬ (("if":Str)=_);decide +kernel),η (by simp[aQ])];exact keep (B.V0 hr (by show ¬ (("if":Str)=_);decide +kernel) (by show ¬ (("if":Str)=_);decide +kernel))
 |yd a=>rw[gZ (by rw[kk];rfl) (by rw[kk];rfl),η (by show ¬ (("while":Str)=_);decide +kernel),η (by simp[aQ])];exact keep (B.V0 hr (by show ¬ (("while":Str)=_);decide +kernel) (by show ¬ (("while":Str)=_);decide +kernel))
 |put x a=>rw[eB (by rw[kk];rfl) (by rw[kk];rfl),η (by show ¬ (("put":Str)=_);decide +kernel),η (by simp[aQ])]
 |Fe x a o b=>rw[eB (by rw[kk];rfl) (by rw[kk];rfl),η (by show ¬ (("do":Str)=_);decide +kernel),η (by simp[aQ])]
 |new x=>rw[eB (by rw[kk];rfl) (by rw[kk];rfl),η (by show ¬ (("new":Str)=_);decide +kernel),η (by simp[aQ])]
 |get x a b=>rw[eB (by rw[kk];rfl) (by rw[kk];rfl),η (by show ¬ (("get":Str)=_);decide +kernel),η (by simp[aQ])]
 |set x a b=>rw[eB (by rw[kk];rfl) (by rw[kk];rfl),η (by show ¬ (("set":Str)=_);decide +kernel),η (by simp[aQ])]
 |call x f as=>rw[eB (by rw[kk];rfl) (by rw[kk];rfl),η (by show ¬ (("call":Str)=_);decide +kernel),η (by simp[aQ])]
 |fail x=>rw[eB (by rw[kk];rfl) (by rw[kk];rfl),η (by show ¬ (("fail":Str)=_);decide +kernel),η (by simp[aQ])]
 |yc=>rw[eB (by rw[kk];rfl) (by rw[kk];rfl),η (by show ¬ (("else":Str)=_);decide +kernel),η (by simp[aQ])]
 |skip=>rw[eB (by rw[kk];rfl) (by rw[kk];rfl),η (by show ¬ (("skip":Str)=_);decide +kernel),η (by simp[aQ])]
end
end Lay
namespace MK
open PySem L2 VT Gen BS K5 Ln Lay
open PySem.Builtin (bitOr)
def Bj(E F:List Ent)(h:Nat)(o:ix):ji E F (GK h o)=fH E h o:=by cases o<;>rfl
def w_eq(rs:qal)(E F:List Ent)(i h:Nat)(hr:okR r=true):(vE rs i h r).flatMap (wM E F)=Z_ E F i h r:=by
 cases r with
 |new x=>rfl
 |get x y k=>rfl
 |put x o=>show [(true,_,ji E F (GK h o))]++[]=[(true,_,fH E h o)];rw[Bj];rfl
 |set y k o=>show List.map _ (List.map _ _)++[]=List.map _ _;rw[BH,sr,Bj];rfl
 |call x g as=>cases hr
 |_=>rfl
theorem w_call{g:Str}{s:Nat}{o:ix}(e:fnOf rs g=some (s,ps,o))(E F:List Ent)(i h:Nat)(x:Str)(as:List ix) :
  (vE rs i h (.call x g as)).flatMap (wM E F)=(true,nk h x,fH E s o)::(ps.zip as).map λz=>(true,nk s z.1,fH E h z.2):=by
 simp only[vE,e];rw[List.flatMap_cons,List.flatMap_map];show (true,nk h x,ji E F (GK s o))::([]++_)=_;rw[Bj,List.nil_append]
 congr 1
 induction ps.zip as with
 |nil=>rfl
 |cons z l ih=>rw[List.flatMap_cons,ih];show (true,nk s z.1,ji E F (GK h z.2))::_=_;rw[Bj];rfl
def Bk{g:Str}{s:Nat}{o:ix}(h:fnOf rs g=some (s,ps,o)):∃f e,qH (aZ rs rs.length) g=some s/\rs[s]?=some (.df f ps)/\endsAt (bC rs) rs.length s=some e/\rs[e]?=some (.give o):=by
 unfold fnOf at h;cases h1:qH (aZ rs rs.length) g with
 |none=>rw[h1] at h;cases h
 |some s'=>
  rw[h1] at h;dsimp only at h;cases h2:rs[s']? with
  |none=>rw[h2] at h;cases h
  |some r=>
   rw[h2] at h;cases r with
   |df f V1=>
    cases h3:endsAt (bC rs) rs.length s' with
    |none=>rw[h3] at h;cases h
    |some e=>
     rw[h3] at h;dsimp only at h;cases h4:rs[e]? with
     |none=>rw[h4] at h;cases h
     |some r=>
      rw[h4] at h;cases r with
      |give o'=>cases h;exact⟨f,e,rfl,h2,h3,h4⟩
      |_=>cases h
   |_=>cases h
def Bm(B:Bl rs){s:Nat}{f:Str}(hs:rs[s]?=some (.df f ps)):∃e o,endsAt (bC rs) rs.length s=some e/\rs[e]?=some (.give o)/\s<e/\∀m,s<=m->m<e->∀o,rs[m]?≠some (.give o):=by
 have hsl:=(dz.mp hs).1;have XR:(bC rs s).op=true:=by rw[du hs];rfl
 have d0:dp (bC rs) s=0:=by unfold dp;rw[B.df hs];rfl
 obtain⟨e,h1,h2,h3,h4,h5⟩:=end_is B.W hsl XR;have he:endsAt (bC rs) rs.length s=some e:=by unfold endsAt;rw[ι XR];exact h1
 have DI:=(tV B.W h3 he hsl).1;have V2:rs[e]?=some rs[e]:=jj h3;have hd:=wF B.W h3 DI;have hg:∃o,rs[e]=.give o:=by
  rw[du V2] at DI;generalize rs[e]=r at V2 DI;cases r with
  |give o=>exact⟨o,rfl⟩
  |fin=>have:=(B.fin V2).1;lia
  |_=>cases DI
 obtain⟨o,ho⟩:=hg;rw[ho] at V2;refine⟨e,o,he,V2,h2,λm a b o' hm=>?_⟩;by_cases z:m=s;subst z;rw[hs] at hm;cases hm;have zd:m<rs.length:=by lia
 have:=wF B.W zd (by rw[du hm];rfl);have g:=B.give hm;have n:=h5 m (by lia) b;unfold dp at *
 lia
def Ei(B:Bl rs){g:Str}(hi:rs[i]?=some (.df g ps)):∃a,fnOf rs g=some a:=by obtain⟨j,hj⟩:=me hi rs.length (dz.mp hi).1;obtain⟨_,qs,hq⟩:=oY rs.length hj;obtain⟨e,o,h1,h2,_⟩:=Bm B hq;refine⟨(j,qs,o),?_⟩;unfold fnOf;simp only[hj,hq,h1,h2]
end MK
namespace VT
open PySem PySem.Spec PyProof.Rows L2
theorem jV{α:Type}{f u:α->T}{h:FG}{fe:FE}{ρ:En}:∀{xs:List α}{Q:Ψ->Prop},(∀x∈xs,∀r:T->Prop,r (u x)->h (f x) ρ λρ2=>fe ρ2 r)->Q (xs.map u)->c6 h EV fe ρ (xs.map f) Q
 |[],Q,_,hq=>hq
 |x::xs,Q,step,hq=>by simp only[jk,c6];exact step x fB (λy=>c6 h EV fe ρ (xs.map f) λus=>Q (y::us)) (jV (Q:=λus=>Q (u x::us)) (λy hy=>step y (gz _ hy)) hq)
def xB{lo:Int}{u:Nat->T}{h:FG}{Q:Ψ->Prop}(step:∀i<n,∀r:T->Prop,r (u i)->h (.int (lo+(i:Int))) ρ λρ2=>fe ρ2 r)(hq:Q ((List.range n).map u)):c6 h EV fe ρ (rangeT lo n) Q :=
 jV (f:=λi:Nat=>T.int (lo+(i:Int))) (u:=u) (λi hi=>step i (yg.mp hi)) hq
theorem dQ{α:Type}{f u:α->T}{p:α->Bool}{h:FG}{fc:FB}{fe:FE}{ρ:En}:∀{xs:List α}{Q:Ψ->Prop},(∀x∈xs,∀r s:Prop,(if p x=true then ∀k:T->Prop,(k (u x)->r)->r else s)->True)->(∀x∈xs,∀(k:T->Prop)(s:Prop),(if p x=true then k (u x) else s)->h (f x) ρ λρ2=>fc ρ2 λb=>if b=true then fe ρ2 k else s)->Q ((xs.filter p).map u)->c6 h fc fe ρ (xs.map f) Q
 |[],Q,_,_,hq=>hq
 |x::xs,Q,t0,step,hq=>by simp only[jk,c6];refine step x fB _ _ ?_;by_cases hp:p x=true;rw[ι hp];rw[List.filter_cons_of_pos hp] at hq;exact dQ (Q:=λus=>Q (u x::us)) (λ_ _ _ _ _=>trivial) (λy hy=>step y (gz _ hy)) hq;rw[η hp];rw[List.filter_cons_of_neg hp] at hq;exact dQ (λ_ _ _ _ _=>trivial) (λy hy=>step y (gz _ hy)) hq
def QP{f g:FB}{K:Bool->Prop}{P:Prop}(h:∀k:Bool->Prop,(¬ P->k true)->(P->k false)->Za f g ρ k)(h1:¬ P->K true)(h2:P->K false):Za f g ρ K:=h K h1 h2
end VT
namespace eC
open PySem L2 VT Gen K5 Lay BS Ln MK
open PySem.Builtin (bitOr bitAnd)
noncomputable def top(i:Nat):Stmt:=PySem.Challenge.pw_slicewise_k23_tables_of_programs.main.body.getD i (.Pass ⟨0,0,0,0⟩)
noncomputable abbrev G1:Stmt:=top 1
noncomputable abbrev my:Stmt:=top 2
noncomputable abbrev jW:Stmt:=top 8
noncomputable abbrev pK:Stmt:=top 18
noncomputable abbrev mz:Stmt:=top 19
noncomputable abbrev uF:Stmt:=top 20
noncomputable abbrev uG:Stmt:=top 21
noncomputable abbrev gP:Stmt:=top 22
noncomputable abbrev gQ:Stmt:=top 23
noncomputable abbrev pL:Stmt:=inClass (top 17) 0
structure V3(mg:qae):Prop where
 enumerate:mg "enumerate"=none
 sorted:mg "sorted"=none
 range:mg "range"=none
 zip:mg "zip"=none
structure V4(K:zm)(C:Addr):Prop where
 cl:Eg K C
 uH:cp K C "names"
 nW:cp K C "cells"
def bJ(h:n<=1000):n<=sizeLine:=Gen.small h
def k0:bootBuiltins "sorted"=some (.builtin "sorted"):=by decide +kernel
noncomputable abbrev xD(l:qao):Ψ:=l.map λ(k:Nat)=>T.int (k:Int)
def pe(ts:Ψ)(q:qam):Prop:=∃(x:Int)(k:Nat),ts=[.int x,.int (k:Int)]/\q (.vw (.bl (ib x k)))
def pM(ts:Ψ)(q:qam):Prop:=∃x:Int,ts=[.int x]/\Builtin.Int.intBits x<=64/\q (.fr (.lst (xD (mem x))))
noncomputable def G2:T->Str
 |.str x=>if qq.eR x=true then x else "#"
 |_=>"#"
def mB(ts:Ψ)(q:qam):Prop:=∃t,ts=[t]/\Nm.FZ t/\q (.vw (.str (G2 t)))
def NG(C:Addr)(ts:Ψ)(q:T->Prop):Prop:=∃t1 t2,ts=[t1,t2]/\q (.ins C fN [t1,t2])
noncomputable def pN(CS a1 a2:Addr)(E F:List Ent):T:=.ins CS fN [.pin a1 (.dt (cF E) (cT E)),.pin a2 (.dt (cF F) (cT F))]
def NH(CS:Addr)(ts:Ψ)(q:qam):Prop:=∃(a1 a2:Addr)(E F:List Ent)(x:Int)(c:Str),ts=[pN CS a1 a2 E F,.int x,.str c]/\Builtin.Int.intBits x<=64/\q (.vw (.int (XO F x c)))
def XS:Rw->Prop
 |.get _ _ k=>Nm.FZ (vD k)
 |.set _ k _=>Nm.FZ (vD k)
 |_=>True
def XT(rs:qal):Rw->Prop
 |.call _ g as=>as.length<=4/\∃a,fnOf rs g=some a
 |_=>True
noncomputable def wN(a1:Addr)(E:List Ent)(p:(Int×Str)×Int):T:=.tup [.pin a1 (.dt (cF E) (cT E)),.kt (kK p.1),.int p.2]
def G3(C:Addr)(ts:Ψ)(q:qam):Prop:=∃(rs:qal)(a1:Addr)(E:List Ent)(i:Nat)(x g:Str)(as:List ix)(h s:Nat)(ps:ω)(o:ix),ts=[gJ C rs,.pin a1 (.dt (cF E) (cT E)),.int (i:Int)]/\rs[i]?=some (.call x g as)/\as.length<=4/\g6 (bC rs) i=some h/\fnOf rs g=some (s,ps,o)/\q (.fr (.lst (wN a1 E (nk h x,fH E s o)::(ps.zip as).map λz=>wN a1 E (nk s z.1,fH E h z.2))))
def zG(C CS:Addr)(ts:Ψ)(q:qam):Prop:=∃(rs:qal)(a1 a2:Addr)(E F:List Ent)(i:Nat)(r:Rw)(h:Nat),ts=[gJ C rs,pN CS a1 a2 E F,.int (i:Int)]/\rs[i]?=some r/\XT rs r/\XS r/\g6 (bC rs) i=some h/\i<=1000/\(∀k,Builtin.Int.intBits (bo E k)<=64)/\q (.fr (.lst (((vE rs i h r).flatMap (wM E F)).map (wT a1 a2 E F))))
def Bn(ts:Ψ)(q:qam):Prop:=∃(E:List Ent)(o:Obj),ts=[.df o (cF E) (cT E)]/\E.length<=100000/\∀bs:List TS.Tr,bs.Perm (qc E)->bs.Pairwise (λa b=>TS.dy b a=false)->q (.fr (.lst (bs.map TS.tT)))
noncomputable def G4(C:Addr)(q:qam):FS:=λd ρ=>∃(rs:qal)(a1:Addr)(E:List Ent)(i:Nat)(x g:Str)(as:List ix)(h s:Nat)(ps:ω)(o:ix)(f:Str),ρ=[aD (gJ C rs),aD (.pin a1 (.dt (cF E) (cT E))),aD (.int (i:Int)),aD (aR (.call x g as)),aD (.int (h:Int)),aD (.int (s:Int)),aD (l7 o),some (.lst [wN a1 E (nk h x,fH E s o)],true),none,none] /\
 rs[s]?=some (.df f ps)/\as.length<=4/\q (.fr (.lst (wN a1 E (nk h x,fH E s o)::(ps.zip as).map λz=>wN a1 E (nk s z.1,fH E h z.2))))/\∀ρ r,q r->d.rt ρ r
def zip_map(f:α->T)(g:β->T)(l:List α)(m:List β):lZ (l.map f) (m.map g)=(l.zip m).map λz=>.tup [f z.1,g z.2]:=by unfold lZ;rw[List.zipWith_map,List.zip,List.map_zipWith]
def QQ(x:Int)(k:Nat):decide (bitAnd (x / 2 ^ ((k:Int)).toNat) 1=1)=ib x k:=by rw[lh,zx];cases ib x k<;>decide
def QR(x:Int):((rangeT 0 (Builtin.Int.intBits x)).filter λt=>match t with | .int i=>ib x i.toNat|_=>false).map (λt=>t)=xD (mem x):=by
 unfold rangeT mem;rw[List.map_id',List.filter_map];have e:((λt:T=>match t with | .int i=>ib x i.toNat|_=>false) ∘ λ(i:Nat)=>T.int (0+(i:Int)))=ib x:=by funext i;show ib x (0+(i:Int)).toNat=ib x i;rw[D0,lh]
 rw[e];refine DW λi _=>?_;rw[D0]
def G5(k:Ky):G2 (vD k)=jS k:=by unfold jS G2;cases vD k<;>rfl
section
variable{aU cQ:Addr}
noncomputable abbrev V5:ω:=qay
def G6:aJ V5 qay (aq G1):=L2.il
theorem QS(D:Df K mg "has" G1 qay f fd):cC P w K mg base "has" qay 1 (cM K 2 pe):=by refine D.ic (kr D.F G6 rfl λbP A outer s H E Ox hr ts q hG=>?_);have nd:=G6.nd;have hu:=bA.eD hr;refine⟨_,(ak (aH (fv (rj hu (ο (J1 (ο (yL (ae 0) (ae 1))) (ο af))) (ο af))))),λ_=>?_⟩;obtain⟨x,k,rfl,hq⟩:=hG;refine⟨by show (0:Int)<=(k:Int);lia,?_⟩;show q (.vw (.bl (decide (bitAnd (x / 2 ^ ((k:Int)).toNat) 1=1))));rw[QQ];exact hq
abbrev rS:ω:=["rows"]
def pO:aJ rS ["rows"] (aq my):=L2.il
def qN:(rS++(["row"]:ω)).Nodup:=by decide +kernel
theorem zH(D:Df K mg "members" my ["rows"] f fd)(M:V3 mg)(V6:cC P w K mg base "has" qay 1 (cM K 2 pe)):cC P w K mg base "members" ["rows"] 2 (cM K 1 pM):=by refine D.ic (kr D.F pO rfl λbP A outer s H E Ox hr ts q hG=>?_);have nd:=pO.nd;have np:∀{i:Nat},bh ⟨H,[],Ox⟩ i:=ie;refine⟨_,(ak (aH (fv (fK (ts:=["row"]) rfl (by rfl) (cV (by rfl) M.range (ο (CW (ae 0)))) (λ_ _ _ _ _ _=>(aC (i:=1) qN rfl (.inl rfl) np)) (λ_ _ _ _ _ _=>(iT (cH (aW V6 hr (aa (ah 0) (aa (ah 1) aj)))))) (λ_ _ _ _ _ _=>(ah 1)))))),λ_=>?_⟩;obtain⟨x,rfl,hb,hq⟩:=hG;refine⟨rfl,by lia,by lia,?_,?_⟩;rw[eW];exact bJ (by lia);refine iU (λt=>match t with | .int i=>ib x i.toNat|_=>false) (λt=>t) (λt ht k r h=>?_) ?_;obtain⟨i,hi⟩:=Mt.mp ht;obtain⟨_,rfl⟩:=gG hi;have e:(0:Int)+(i:Int)=(i:Int):=D0 _;rw[e] at h ⊢;exact⟨rfl,x,i,rfl,h⟩;show q (.fr (.lst (((rangeT 0 (Builtin.Int.intBits x)).filter λt=>match t with | .int i=>ib x i.toNat|_=>false).map (λt=>t))));rw[QR];exact hq
abbrev zI:ω:=["key"]
def m4:aJ zI ["key"] (aq jW):=L2.il
def xE(D:Df K mg "class_of" jW ["key"] f fd)(zJ:cC P w K mg base "is_field" qax 2 (cM K 1 Nm.FD)):cC P w K mg base "class_of" ["key"] 3 (cM K 1 mB):=by
 refine D.ic (kr D.F m4 rfl λbP A outer s H E Ox hr ts q hG=>?_);have nd:=m4.nd;refine⟨_,(ak (aH (fv (MR (cH (aW zJ hr (aa (ah 0) aj))) (VE.vp (ah 0)) ax)))),λ_=>?_⟩;obtain⟨t,rfl,ht,hq⟩:=hG;refine⟨rfl,t,rfl,ht,?_⟩;show if Nm.Vh t=true then q (.vw t) else q (.vw (.str "#"))
 obtain⟨x,rfl,_⟩|⟨i,rfl⟩:=ht
 have hq:q (.vw (.str (if qq.eR x=true then x else "#"))):=hq;show if qq.eR x=true then _ else _
 by_cases z:qq.eR x=true;rw[ι z] at hq ⊢;exact hq;rw[η z] at hq ⊢;exact hq;exact hq
noncomputable abbrev QT:ω:=qaz
def Bo:aJ QT qaz (aq pL):=L2.il
def LK(D:Dc K mg "Sets" "Sets.__init__" pL qaz cQ f fd)(M:V4 K cQ):FH P w K mg base "Sets" cQ qaz 1 2 (NG cQ):=by
 refine D.ic (fnI D.F Bo rfl λbP A outer s H E as Ox hr us q hl hG=>?_);have nd:=Bo.nd;have cR:=M;refine⟨_,(ag (gH 0 cR.cl cR.uH (ah 1))
  (ak (gH 0 cR.cl cR.nW (ah 2)))),?_⟩
 obtain⟨t1,t2,rfl,hq⟩:=hG;exact⟨rfl,by show 0<1000;decide,rfl,by show 1<1000;decide,hq⟩
noncomputable abbrev uI:ω:=["sets","rows","kind","told","row"]
def jy:aJ uI qaA (aq gP):=L2.il
def qO(D:Df K mg "read_cells" gP qaA f fd)(M:V4 K cQ)(mC:cC P w K mg base "members" ["rows"] 2 (cM K 1 pM)):cC P w K mg base "read_cells" qaA 3 (cM K 3 (NH cQ)):=by
 refine D.ic (kr D.F jy rfl λbP A outer s H E Ox hr ts q hG=>?_);have nd:=jy.nd;have hu:=bA.eD hr;have np:∀{i:Nat},bh ⟨H,[],Ox⟩ i:=ie;have cR:=M;have je:=kJ hu;refine⟨_,(ag (aK (i:=3) nd rfl (.inl rfl) (fv af) np)
  (ag (cZ nz rfl (jJ (χ (aW mC hr (aa (ah 1) aj)))) (aC (i:=4) nd rfl (.inl rfl) np)
   (ak (ES (i:=3) nd rfl (.inl rfl) (ο (fj je (ο (dw cR.cl cR.nW (ae 0))) (χ (cy (aa (ah 4) (aa (ah 2) aj)))) (χ af) ⟨rfl,rfl,rfl,rfl⟩)) OM Ao np)))
  (ak (aH (fv (VE.vp (ah 3))))))),λ_=>?_⟩
 obtain⟨a1,a2,E,F,x,c,rfl,hb,hq⟩:=hG;refine⟨rfl,x,rfl,hb,?_⟩;show gX (xD (mem x)) _ _ _ _;refine dq (λn ρ=>∃v b4,ρ=[aD (pN cQ a1 a2 E F),aD (.int x),aD (.str c),aD (.int v),b4]/\v=((mem x).take n).foldl (λt (j:Nat)=>bitOr t (bo F ((j:Int),c))) 0) ⟨_,none,rfl,rfl⟩ ?_ ?_;rintro n j ρ hj ⟨v,b4,rfl,hv⟩;refine⟨rfl,_,rfl,bJ (by simp),?_⟩;show sT (.int v) ((cb (cF F) (cT F) (kK ((j:Int),c))).getD (.int 0)) (λr=>∃v b4,[aD (pN cQ a1 a2 E F),aD (.int x),aD (.str c),aD r.t,aD (.int (j:Int))]=[aD (pN cQ a1 a2 E F),aD (.int x),aD (.str c),aD (.int v),b4]/\v=((mem x).take (n+1)).foldl (λt (j:Nat)=>bitOr t (bo F ((j:Int),c))) 0);rw[fq];refine⟨_,_,rfl,?_⟩;rw[N7,hj,N6,<- hv];rfl;rintro ρ ⟨_,b4,rfl,rfl⟩;rw[Mw];exact hq
abbrev rT:ω:=["held"]
def pP:aJ rT ["held"] (aq mz):=L2.il
def jz:(rT++(["key","told"]:ω)).Nodup:=by decide +kernel
theorem zK(D:Df K mg "list_of" mz ["held"] f fd)(M:V3 mg):cC P w K mg base "list_of" ["held"] 1 (cM K 1 Bn):=by
 refine D.ic (kr D.F pP rfl λbP A outer s H E Ox hr ts q hG=>?_);have nd:=pP.nd;have hu:=bA.eD hr;have np:∀{i:Nat},bh ⟨H,[],Ox⟩ i:=ie;refine⟨_,(ak (aH (fv (aY TS.dP TS.iK (by rfl) M.sorted k0 (aM (ο (fK (ts:=["key","told"]) rfl (by rfl) (Gb (ah 0)) (λ_ _ _ _ _ _=>(dc (n:=2) rfl (aN (aC (i:=1) jz rfl (.inl rfl) np) (aN (aC (i:=2) jz rfl (.inl rfl) np) cw)))) (λ_ _ _ _ _ _=>(iT (kh hu (ae 2) (ο af)))) (λ_ _ _ _ _ _=>(χ (aP (aa (χ (ay (ae 1) (ο af))) (aa (χ (ay (ae 1) (ο af))) (aa (ah 2) aj)))))))) aX))))),λ_=>?_⟩;obtain⟨E,o,rfl,hlen,hq⟩:=hG;have ez:((cF E).zip (cT E)).map Se=E.map λe=>.tup [F1 (kK e.1),.int e.2]:=by unfold cF cT;rw[List.zip_map',sr];rfl
 refine⟨rfl,by unfold cF cT;rw[bX,bX],?_⟩;show (((cF E).zip (cT E)).map Se).length<=sizeLine/\c6 _ _ _ _ (((cF E).zip (cT E)).map Se) _;rw[ez];refine⟨by rw[bX,ς];lia,?_⟩;refine dQ (u:=λe:Ent=>TS.tT (e.1.1,e.1.2,e.2)) (p:=λe=>!decide (e.2=0)) (λ_ _ _ _ _=>trivial) (λe he k s hk=>?_) ?_;refine⟨rfl,rfl,?_⟩;show if (!decide (e.2=0))=true then _ else _
 by_cases z:(!decide (e.2=0))=true;rw[ι z] at hk ⊢;exact⟨_,aaH,_,aaI,bJ (by simp),hk⟩;rw[η z] at hk ⊢;exact hk;show TS.zA [.lst ((E.filter λe=>!decide (e.2=0)).map λe:Ent=>TS.tT (e.1.1,e.1.2,e.2))] _;refine⟨qc E,by unfold qc;rw[sr];rfl,?_,hq⟩;unfold qc;rw[bX];have:=SA (λe:Ent=>!decide (e.2=0)) E
 lia
noncomputable abbrev uJ:ω:=["layout","names","place","row","home","start","given","told","name","operand"]
def jA:aJ uJ qaB (aq gQ):=L2.il
theorem qP(D:Df K mg "call_wants" gQ qaB f fd)(M:V3 mg)(M1:Sb K aU):cC P w K mg base "call_wants" qaB 1 (cM K 3 (G3 aU)):=by
 refine D.ic (kr D.F jA rfl λbP A outer s H E Ox hr ts q hG=>?_);have nd:=jA.nd;have hu:=bA.eD hr;have np:∀{i:Nat},bh ⟨H,[],Ox⟩ i:=ie;have aB:=M1;have je:=kJ hu;refine⟨_,(ag (aK (i:=3) nd rfl (.inl rfl) (fv (ay (ο (dw aB.cl aB.dI (ae 0))) (ae 2))) np)
  (ag (aK (i:=4) nd rfl (.inl rfl) (fv (ay (ο (dw aB.cl aB.i0 (ae 0))) (ae 2))) np)
  (ag (aK (i:=5) nd rfl (.inl rfl) (fv (Qn je (ο (dw aB.cl aB.uf (ae 0))) (ο (ay (ae 3) (ο af))))) np)
  (ag (aK (i:=6) nd rfl (.inl rfl) (fv (ay (ο (ay (ο (dw aB.cl aB.dI (ae 0))) (ο (ay (ο (dw aB.cl aB.FV (ae 0))) (ae 5))))) (ο af))) np)
  (ag (cJ (i:=7) nd rfl (.inl rfl) (fv (bO (aa (χ (aP (aa (ah 1) (aa (χ (cy (aa (ah 4) (aa (χ (ay (ae 3) (ο af))) aj)))) (aa (χ (fj je (ae 1) (χ (cy (aa (ah 5) (aa (ah 6) aj)))) (χ af) ⟨rfl,rfl,rfl,rfl⟩)) aj))))) aj))) np)
  (ir.weak (u:=(G4 aU q)) (ag (cZ nz rfl (yX (by rfl) M.zip (χ (ay (ο (ay (ο (dw aB.cl aB.dI (ae 0))) (ae 5))) (ο af))) (χ (ay (ae 3) (ο af)))) (dc (n:=2) rfl (aN (aC (i:=8) nd rfl (.inl rfl) np) (aN (aC (i:=9) nd rfl (.inl rfl) np) cw)))
   (ak (bp (cA 7 mM mO aS aO (aa (χ (aP (aa (ah 1) (aa (χ (cy (aa (ah 5) (aa (ah 8) aj)))) (aa (χ (fj je (ae 1) (χ (cy (aa (ah 4) (aa (ah 9) aj)))) (χ af) ⟨rfl,rfl,rfl,rfl⟩)) aj))))) aj)))))
  (ak (aH (fJ 7 np)))) ?w1)))))),λ_=>?main⟩
 case w1=>
  rintro d ρ ⟨rs,a1,E,i,x,g,as,h,st,ps,o,f',rfl,h2,ha,hq,fin⟩;refine⟨rfl,_,rfl,_,eA h2,_,aaJ,_,aaK,?_⟩;show gX (lZ (ps.map T.str) (as.map l7)) _ _ _ _;rw[zip_map];refine dq (λn ρ=>∃ts b8 b9,ρ=[aD (gJ aU rs),aD (.pin a1 (.dt (cF E) (cT E))),aD (.int (i:Int)),aD (aR (.call x g as)),aD (.int (h:Int)),aD (.int (st:Int)),aD (l7 o),some (.lst ts,true),b8,b9]/\ts=wN a1 E (nk h x,fH E st o)::((ps.zip as).take n).map λz=>wN a1 E (nk st z.1,fH E h z.2)) ⟨_,none,none,rfl,rfl⟩ ?_ ?_;rintro n z ρ hz ⟨ts,b8,b9,rfl,Bp⟩;have hn:n<(ps.zip as).length:=(dz.mp hz).1;have hs:ts.length<sizeLine:=by
   rw[Bp,yf,bX,IT,ς];rw[DY] at hn
   lia
  have es:ts++[wN a1 E (nk st z.1,fH E h z.2)]=wN a1 E (nk h x,fH E st o)::((ps.zip as).take (n+1)).map λz=>wN a1 E (nk st z.1,fH E h z.2):=by rw[Bp,N7,hz,p_];rfl
  obtain⟨z1,z2⟩:=z;have fin2:∀v:T,v=.int (fH E h z2)->∃gy b8 b9,[aD (gJ aU rs),aD (T.pin a1 (.dt (cF E) (cT E))),aD (.int (i:Int)),aD (aR (.call x g as)),aD (.int (h:Int)),aD (.int (st:Int)),aD (l7 o),some (.lst (ts++[.tup [.pin a1 (.dt (cF E) (cT E)),.kt (kK (nk st z1)),v]]),true),aD (.str z1),aD (l7 z2)]=[aD (gJ aU rs),aD (.pin a1 (.dt (cF E) (cT E))),aD (.int (i:Int)),aD (aR (.call x g as)),aD (.int (h:Int)),aD (.int (st:Int)),aD (l7 o),some (.lst gy,true),b8,b9]/\gy=wN a1 E (nk h x,fH E st o)::((ps.zip as).take (n+1)).map λz=>wN a1 E (nk st z.1,fH E h z.2):=λv e=>by subst e;exact⟨_,_,_,rfl,es⟩
  refine⟨rfl,rfl,bJ (by simp),?_⟩;cases z2 with
  |nm y=>exact⟨bJ (by simp),bJ (by simp),hs,fin2 _ (fq ((h:Int),y) E)⟩
  |nu m=>exact⟨bJ (by simp),bJ (by simp),hs,fin2 _ (by rw[kX];rfl)⟩
  rintro ρ ⟨ts,b8,b9,rfl,rfl⟩;rw[Mw];exact fin _ _ hq
 case main=>
  obtain⟨rs,a1,E,i,x,g,as,h,st,ps,o,rfl,dX,ha,hh,hf,hq⟩:=hG;obtain⟨f',e,h1,h2,h3,h4⟩:=Bk hf;have hin:i<rs.length:=(dz.mp dX).1;have Ov:st<rs.length:=(dz.mp h2).1;have hdg:jf ((aZ rs rs.length).map λp=>(Sum.inr p.1:Key)) ((aZ rs rs.length).map λp=>T.int (p.2:Int)) (Sum.inr g)=some (.int (st:Int)):=by rw[FJ,h1];rfl
  refine⟨rfl,_,rfl,_,eA dX,rfl,_,rfl,.int (h:Int),(t_ hin).trans (by rw[hh];rfl),rfl,_,rfl,_,aaJ,_,hdg,rfl,_,rfl,rfl,_,rfl,.int (e:Int),(KO Ov).trans (by rw[h3];rfl),_,eA h4,_,aaI,_,aaI,bJ (by simp),?_⟩;cases o with
  |nm y=>refine⟨bJ (by simp),bJ (by simp),bJ (by simp),?_⟩;show G4 aU q _ [aD (gJ aU rs),aD (.pin a1 (.dt (cF E) (cT E))),aD (.int (i:Int)),aD (aR (.call x g as)),aD (.int (h:Int)),aD (.int (st:Int)),aD (l7 (.nm y)),some (.lst [.tup [.pin a1 (.dt (cF E) (cT E)),.kt (kK (nk h x)),(cb (cF E) (cT E) (kK (nk st y))).getD (.int 0)]],true),none,none];rw[fq];exact⟨rs,a1,E,i,x,g,as,h,st,ps,.nm y,f',rfl,h2,ha,hq,λ_ _ h=>h⟩
  |nu n=>refine⟨bJ (by simp),bJ (by simp),bJ (by simp),?_⟩;show G4 aU q _ [aD (gJ aU rs),aD (.pin a1 (.dt (cF E) (cT E))),aD (.int (i:Int)),aD (aR (.call x g as)),aD (.int (h:Int)),aD (.int (st:Int)),aD (l7 (.nu n)),some (.lst [.tup [.pin a1 (.dt (cF E) (cT E)),.kt (kK (nk h x)),(cb (cF E) (cT E) [.inl (st:Int),.inl n]).getD (.int 0)]],true),none,none];rw[kX];exact⟨rs,a1,E,i,x,g,as,h,st,ps,.nu n,f',rfl,h2,ha,hq,λ_ _ h=>h⟩
noncomputable abbrev Bq:ω:=["layout","sets","place","row","home","names","given"]
def xF:aJ Bq qaC (aq uG):=L2.il
def xG:(Bq++(["one"]:ω)).Nodup:=by decide +kernel
theorem G7(D:Df K mg "wants" uG qaC f fd)(M:Sb K aU)(M1:V4 K cQ)(uK:cC P w K mg base "read_cells" qaA 3 (cM K 3 (NH cQ)))(pQ:cC P w K mg base "class_of" ["key"] 3 (cM K 1 mB))(mC:cC P w K mg base "members" ["rows"] 2 (cM K 1 pM))(uL:cC P w K mg base "call_wants" qaB 1 (cM K 3 (G3 aU))):cC P w K mg base "wants" qaC 4 (cM K 3 (zG aU cQ)):=by
 refine D.ic (kr D.F xF rfl λbP A outer s H E Ox hr ts q hG=>?_);have nd:=xF.nd;have hu:=bA.eD hr;have np:∀{i:Nat},bh ⟨H,[],Ox⟩ i:=ie;have aB:=M;have cR:=M1;have je:=kJ hu;refine⟨_,(ag (aK (i:=3) nd rfl (.inr rfl) (fv (ay (ο (dw aB.cl aB.dI (ae 0))) (ae 2))) np)
  (ag (aK (i:=4) nd rfl (.inl rfl) (fv (ay (ο (dw aB.cl aB.i0 (ae 0))) (ae 2))) np)
  (ag (aK (i:=5) nd rfl (.inl rfl) (fv (dw cR.cl cR.uH (ae 1))) np)
  (ag (bf (bz hu (ο (ay (ae 3) (ο af))) (ο ax))
   (ak (aH (fv (bO (aa (χ (aP (aa (ah 5) (aa (χ (cy (aa (ah 4) (aa (χ (ay (ae 3) (ο af))) aj)))) (aa (χ (EN (ο af) (ae 2))) aj))))) aj)))))
   aI)
  (ag (bf (bz hu (ο (ay (ae 3) (ο af))) (ο ax))
   (ak (aH (fv (bO (aa (χ (aP (aa (ah 5) (aa (χ (cy (aa (ah 4) (aa (χ (ay (ae 3) (ο af))) aj)))) (aa (χ (fj je (ae 5) (χ (cy (aa (ah 4) (aa (χ (ay (ae 3) (ο af))) aj)))) (χ af) ⟨rfl,rfl,rfl,rfl⟩)) aj))))) aj)))))
   aI)
  (ag (bf (bz hu (ο (ay (ae 3) (ο af))) (ο ax))
   (ak (aH (fv (bO (aa (χ (aP (aa (ah 5) (aa (χ (cy (aa (ah 4) (aa (χ (ay (ae 3) (ο af))) aj)))) (aa (χ (aW uK hr (aa (ah 1) (aa (χ (fj je (ae 5) (χ (cy (aa (ah 4) (aa (χ (ay (ae 3) (ο af))) aj)))) (χ af) ⟨rfl,rfl,rfl,rfl⟩)) (aa (χ (aW pQ hr (aa (χ (ay (ae 3) (ο af))) aj))) aj))))) aj))))) aj)))))
   aI)
  (ag (bf (bz hu (ο (ay (ae 3) (ο af))) (ο ax))
   (ag (aK (i:=6) nd rfl (.inr rfl) (fv (fj je (ae 5) (χ (cy (aa (ah 4) (aa (χ (ay (ae 3) (ο af))) aj)))) (χ af) ⟨rfl,rfl,rfl,rfl⟩)) np)
   (ak (aH (fv (fK (ts:=["one"]) rfl (by rfl) (jJ (χ (aW mC hr (aa (χ (fj je (ae 5) (χ (cy (aa (ah 4) (aa (χ (ay (ae 3) (ο af))) aj)))) (χ af) ⟨rfl,rfl,rfl,rfl⟩)) aj)))) (λ_ _ _ _ _ _=>(aC (i:=7) xG rfl (.inl rfl) np)) (λ_ _ _ _ _ _=>nG) (λ_ _ _ _ _ _=>(χ (aP (aa (χ (dw cR.cl cR.nW (ae 1))) (aa (χ (cy (aa (ah 7) (aa (χ (aW pQ hr (aa (χ (ay (ae 3) (ο af))) aj))) aj)))) (aa (ah 6) aj)))))))))))
   aI)
  (ag (bf (bz hu (ο (ay (ae 3) (ο af))) (ο ax))
   (ak (aH (fv (aW uL hr (aa (ah 0) (aa (ah 5) (aa (ah 2) aj)))))))
   aI)
  (ak (aH (fv (bO aj)))))))))))),λ_=>?_⟩
 obtain⟨rs,a1,a2,E,F,i,r,h,rfl,dX,bF,hkr,hh,hi,XU,hq⟩:=hG;have hin:i<rs.length:=(dz.mp dX).1;refine⟨rfl,_,rfl,_,eA dX,rfl,_,rfl,.int (h:Int),(t_ hin).trans (by rw[hh];rfl),rfl,_,rfl,?_⟩;have sh:(0:Int)<=(i:Int)/\(i:Int)<=1000000/\(1:Int).natAbs<2 ^ 64:=⟨by lia,by lia,by decide⟩;have hq0:=hq;have hq:okR r=true->q (.fr (.lst ((Z_ E F i h r).map (wT a1 a2 E F)))):=λz=>by rw[w_eq rs E F i h z] at hq;exact hq
 cases r with
 |new x=>
  replace hq:=hq rfl
  exact⟨_,aaH,_,aaI,bJ (by simp),sh,bJ (by simp),bJ (by simp),hq⟩
 |put x o=>
  replace hq:=hq rfl
  refine⟨_,aaH,_,aaH,_,aaI,bJ (by simp),_,aaJ,?_⟩;cases o with
  |nm y=>refine⟨bJ (by simp),bJ (by simp),bJ (by simp),?_⟩;show q (.fr (.lst [.tup [.pin a1 (.dt (cF E) (cT E)),.kt (kK ((h:Int),x)),(cb (cF E) (cT E) (kK ((h:Int),y))).getD (.int 0)]]));rw[fq];exact hq
  |nu n=>refine⟨bJ (by simp),bJ (by simp),bJ (by simp),?_⟩;show q (.fr (.lst [.tup [.pin a1 (.dt (cF E) (cT E)),.kt (kK ((h:Int),x)),(cb (cF E) (cT E) [.inl (h:Int),.inl n]).getD (.int 0)]]));rw[kX];exact hq
 |get x y k=>
  replace hq:=hq rfl
  refine⟨_,aaH,_,aaH,_,aaH,_,aaI,bJ (by simp),?_⟩;refine⟨_,aaJ,bJ (by simp),_,aaK,rfl,_,rfl,hkr,rfl,a1,a2,E,F,bo E ((h:Int),y),jS k,?_,XU _,bJ (by simp),bJ (by simp),hq⟩;show [pN cQ a1 a2 E F,(cb (cF E) (cT E) (kK ((h:Int),y))).getD (.int 0),.str (G2 (vD k))]=_;rw[fq,G5]
 |set y k a=>
  replace hq:=hq rfl
  refine⟨_,aaH,_,aaH,_,aaH,_,aaH,_,aaK,?_⟩;have fin:∀g:T,g=.int (fH E h a)->c6 (hName 7) EV (fT (Ub (cn (fT (U7 cQ "cells" (dD 1))) (cn (fT (Nz (cn (dB 7) (cn (fT (iu 1 (cn (fT (f2 (dD 3) (fT (fC (.int 2))) R7)) lL) mB)) lL)))) (cn (dB 6) lL))))) [aD (gJ aU rs),aD (pN cQ a1 a2 E F),aD (.int (i:Int)),aD (aR (.set y k a)),aD (.int (h:Int)),aD (.pin a1 (.dt (cF E) (cT E))),aD g,none] (xD (mem (bo E ((h:Int),y)))) λus=>q (.fr (.lst us)):=λg eg=>by subst eg;refine jV (f:=λ(j:Nat)=>T.int (j:Int)) (u:=λ(j:Nat)=>wT a1 a2 E F (false,((j:Int),jS k),fH E h a)) (λj hj r hr=>?_) (by have Nd:=hq;unfold Z_ at Nd;rw[sr] at Nd;exact Nd);refine⟨rfl,_,rfl,_,aaJ,rfl,_,rfl,hkr,?_⟩;refine⟨bJ (by simp),bJ (by simp),?_⟩;show r (.tup [.pin a2 (.dt (cF F) (cT F)),.kt [.inl (j:Int),.inr (G2 (vD k))],.int (fH E h a)]);rw[G5];exact hr
  have zd:(xD (mem (bo E ((h:Int),y)))).length<=sizeLine:=by rw[bX];have h1:=SA (ib (bo E ((h:Int),y))) (List.range (Builtin.Int.intBits (bo E ((h:Int),y))));rw[z8] at h1;have:=XU ((h:Int),y);exact bJ (by show (List.filter _ _).length<=_;lia)
  have e1:[(cb (cF E) (cT E) (kK ((h:Int),y))).getD (.int 0)]=[.int (bo E ((h:Int),y))]:=by rw[fq]
  cases a with
  |nm z=>exact⟨bJ (by simp),rfl,_,aaI,bJ (by simp),rfl,bo E ((h:Int),y),e1,XU _,zd,fin _ (fq ((h:Int),z) E)⟩
  |nu n=>exact⟨bJ (by simp),rfl,_,aaI,bJ (by simp),rfl,bo E ((h:Int),y),e1,XU _,zd,fin ((cb (cF E) (cT E) [.inl (h:Int),.inl n]).getD (.int 0)) (by rw[kX];rfl)⟩
 |call x g as=>obtain⟨ha,⟨st,ps,o⟩,hf⟩:=bF;rw[w_call hf] at hq0;refine⟨_,aaH,_,aaH,_,aaH,_,aaH,_,aaH,rfl,rs,a1,E,i,x,g,as,h,st,ps,o,rfl,dX,ha,hh,hf,?_⟩;rw[jk,sr] at hq0;exact hq0
 |_=>exact⟨_,aaH,_,aaH,_,aaH,_,aaH,_,aaH,h_ _,hq rfl⟩
end
end eC
namespace VT
open PySem PySem.Spec PyProof.Rows L2
section
variable{A:Ω}
def At.frame{t:T}(here:∀b∈A,∃u,H b=some u/\m9 u=true)(fr:∀b o,H b=some o->b∉A->H' b=some o)(h:At K H A t v):At K H' A t v:=by
 have rd:∀{a:Addr}{u:HO},a∉A->Rd H a u->Rd H' a u:=λn q=>q.elim (λz=>.inl (fr _ _ z n)) λ⟨o,z⟩=>.inr ⟨o,fr _ _ z n⟩;refine At.map (λa vs q=>q.elim (λz=>.inl ⟨rd z.2 z.1,z.2⟩) .inr) (λa vs q=>q.elim (λz=>.inl (rd (λm=>?_) z)) .inr) (λa u q=>⟨fr _ _ q.1 q.2,q.2⟩) h;obtain⟨u,e,mu⟩:=here a m;obtain z|⟨o,z⟩:=z
 rw[e] at z;cases z;cases mu;rw[e] at z;cases z;cases mu
end
def V7:S2:=⟨[],[],[],[]⟩
def gMk(i j:Nat)(Gg:T->S2->(S2->T->Prop)->Prop)(QU:Ψ->(qam)->Prop):Nl:=λ_ dp ρ=>i<ρ.length/\match ρ[j]? with
 |some (some (l,false))=>∃W:Nat->S2->Prop,(∃m,W m V7)/\∀m s,W m s->Gg l s λs' t=>∃b,t=.bl b/\if b=true then ∃m',m'<m/\W m' s' else
  ∀o1 o2,QU [.df o1 s'.k1 s'.t1] λr1=>∃V8,r1=.fr (.lst V8)/\j_ V8=true/\QU [.df o2 s'.k2 s'.t2] λr2=>∃V9,r2=.fr (.lst V9)/\j_ V9=true/\dp [.lst V8,.lst V9]
 |_=>False
section
variable{X:Cx}{Gg:T->S2->(S2->T->Prop)->Prop}{QU:Ψ->(qam)->Prop}
def G8(K:zm)(H:Hp):au K ⟨H,[],[]⟩ [] [] [] [] H:=⟨rfl,rfl,λi e h=>by simp at h,IW,λa h=>absurd h fE,λp hp=>absurd hp fE,λa h=>absurd h fE,λb o e _=>e,λp hp=>absurd hp fE⟩
def rV{t:T}{q:Ψ->Prop}{Q:VK}(a:At X.K H [] t v)(hG:QU [t] λr=>∃ts,r=.fr (.lst ts)/\j_ ts=true/\q ts)(k:∀ts,q ts->j_ ts=true->∀l vs H',aL H H'->H l=none->H' l=some (.lst vs)->(∀A,az X.K H' A ts vs)->Q (.ref l) H'):cM X.K 1 QU ([v]++[]) H Q E0 :=
 Ay (G8 X.K H) (az.cons a az.nil) rfl hG λr ⟨ts,er,hi,hq⟩ w H' sm z=>by subst er;obtain⟨l,rfl,_,⟨vs,e,av⟩,n,_⟩:=z;exact k ts hq hi l vs H' sm n e λA=>az.vv hi av
def QV(hB:M.hb=true){s:S2}{H0:Hp}{Ox:Ω}{o1 o2:Obj}{lj jw:qak}{dp:Ψ->Prop}(sd:SD K M s H)(l1:s.k1.length=lj.length)(e1:H M.a1=some (.dT (s.k1.zip lj)))(q1:az K H M.Ox s.t1 lj)(l2:s.k2.length=jw.length)(e2:H M.a2=some (.dT (s.k2.zip jw)))(q2:az K H M.Ox s.t2 jw):∃H2,H2=upd (upd H M.a1 (.fF o1 (.dT (s.k1.zip lj)))) M.a2 (.fF o2 (.dT (s.k2.zip jw))) /\
  At K H2 [] (.df o1 s.k1 s.t1) (.ref M.a1)/\At K H2 [] (.df o2 s.k2 s.t2) (.ref M.a2)/\H2 M.a=some (.ins M.C M.dx (fN.zip [.ref M.a1,.ref M.a2]))/\∀b o,H b=some o->b∉M.Ox->H2 b=some o:=by
 have m1:=M.m1;have m2:=M.m2;have B8:upd H M.a1 (.fF o1 (.dT (s.k1.zip lj))) M.a2=some (.dT (s.k2.zip jw)):=by rw[ar (Ne.symm M.n3)];exact e2
 refine⟨_,rfl,?_,?_,?_,λb o e n=>?_⟩;simp only[At];exact⟨M.a1,lj,rfl,l1,⟨by rw[ar M.n3,aA],λz=>nomatch z⟩,((q1.wrote m1 e1 rfl).wrote m2 B8 rfl).bj λb hb=>nomatch hb⟩;simp only[At];exact⟨M.a2,jw,rfl,l2,⟨aA,λz=>nomatch z⟩,((q2.wrote m1 e1 rfl).wrote m2 B8 rfl).bj λb hb=>nomatch hb⟩;rw[ar M.n2,ar M.n1];exact sd.ins hB;rw[ar (λz=>n (by rw[z];exact m2)),ar (λz=>n (by rw[z];exact m1))];exact e
structure Made(C:Addr)(H H3:Hp)(a dx p1 p2:Addr):Prop where
 same:aL H H3
 na:H a=none
 n1:H p1=none
 n2:H p2=none
 ne:p1≠p2
 ea:H3 a=some (.ins C dx (fN.zip [.ref p1,.ref p2]))
 d1:H3 p1=some (.dT [])
 d2:H3 p2=some (.dT [])
def V_(C:Addr):TE:=λσ H Q=>∀a dx p1 p2 H3,Made C H H3 a dx p1 p2->Q (.ref a) H3
def LL{xC:Str}{kC:Nat}{fI:Addr}{V':FuncData}{Wa:ω}{GI:Ψ->(T->Prop)->Prop}{pC NI Br pc:Pos}(MI:Mk X.K C fI)(FI:dA X.prog X.w X.K X.mg X.base iR kC fI V' Wa (Qo X.K C 2 GI))(hGI:∀t1 t2 q,q (.ins C fN [t1,t2])->GI [t1,t2] q)(rI:bA (kC+1) X.A)(gI:Gl X xC)(mI:X.mg xC=some (.ref C))(bI:Binds X.K V' Wa [])(db1:f7 xC:=by decide)(s1:starEach [.Dict [] [] NI,.Dict [] [] Br] X.env=(false,eval (.Dict [] [] NI) X.env)::starEach [.Dict [] [] Br] X.env:=by rfl)(s2:starEach [.Dict [] [] Br] X.env=(false,eval (.Dict [] [] Br) X.env)::starEach [] X.env:=by rfl)(s3:(backTo pc (starEach [.Dict [] [] Br] X.env)).any (·.1)=false:=by rfl):PE X (.Call (.Name xC pC) [.Dict [] [] NI,.Dict [] [] Br] [] pc) (V_ C) :=
 PE.weak (Ad MI FI rI gI mI bI .nil mT (bD o4 (bD o4 cX s2) s1) db1 s1 s3) λσ H Q h=>by
  intro p1 R_ p2 Ck;have sa:aL H (upd H p1 (.dT [])):=aG R_;have sb:aL (upd H p1 (.dT [])) (upd (upd H p1 (.dT [])) p2 (.dT [])):=aG Ck;have G9:p1≠p2:=λz=>by rw[<- z,aA] at Ck;cases Ck
  have QW:H p2=none:=by rw[ar (Ne.symm G9)] at Ck;exact Ck
  have d1:=sb _ _ aA;have d2:upd (upd H p1 (.dT [])) p2 (.dT []) p2=some (.dT []):=aA;refine AR (q:=λr=>r=.fr (.ins C fN [.pin p1 (.dt [] []),.pin p2 (.dt [] [])])) (G8 X.K _) (az.cons ?_ (az.cons ?_ az.nil)) rfl (hGI _ _ (λu=>Rt.fr u=.fr (.ins C fN [.pin p1 (.dt [] []),.pin p2 (.dt [] [])])) rfl) (λr er v H3 sm z=>?_);exact⟨rfl,⟨p1,[],rfl,rfl,⟨d1,λm=>nomatch m⟩,az.nil⟩⟩;exact⟨rfl,⟨p2,[],rfl,rfl,⟨d2,λm=>nomatch m⟩,az.nil⟩⟩;subst er;obtain⟨a,rfl,_,⟨dx,vs,hl,ea,hv⟩,n0,_⟩:=z;obtain⟨_,_,rfl,h1,_,_,rfl,h2,rfl⟩:=hv;obtain⟨rfl,_⟩:=h1;obtain⟨rfl,_⟩:=h2;refine h a dx p1 p2 H3 ⟨(sa.trans sb).trans sm,?_,R_,QW,G9,ea,sm _ _ d1,sm _ _ d2⟩;cases z:H a with
  |none=>rfl
  |some o=>have:=sb _ _ (sa _ _ z);rw[show upd (upd H p1 (.dT [])) p2 (.dT []) a=none from n0] at this;cases this
def zL{xC xg xl:Str}{kC kg kl:Nat}{fI fg fl:Addr}{V' fdg fdl:FuncData}{Wa psg psl:ω}{GI:Ψ->(T->Prop)->Prop}{px pC p1 NI Br pc pg Wb NJ XW pw pp NK IM Wc QX pl1 QY LM C8 pt pr:Pos}{kt}(hP:Z.P=[])(Am:i≠j)(hN:X.N.Nodup)(hi:X.N[i]?=some x)(hj:X.N[j]?=some y)(hx:Loc X.env.scope x)(vx:mP X.env.scope x)(vy:mP X.env.scope y)(hp:PassesOwn (model X.prog X.w) X.A X.env X.xe)(MI:Mk X.K C fI)(FI:dA X.prog X.w X.K X.mg X.base iR kC fI V' Wa (Qo X.K C 2 GI))(hGI:∀t1 t2 q,q (.ins C fN [t1,t2])->GI [t1,t2] q)(rI:bA (kC+1) X.A)(gI:Gl X xC)(mI:X.mg xC=some (.ref C))(bI:Binds X.K V' Wa [])(Fg:dA X.prog X.w X.K X.mg X.base iR kg fg fdg psg (XI X.K C Gg))(rg:bA kg X.A)(gg:Gl X xg)(mg:X.mg xg=some (.ref fg))(kgk:W.keepIn X.K (.ref fg)=true)(bg:Binds X.K fdg psg [])(Fl:dA X.prog X.w X.K X.mg X.base iR kl fl fdl psl (cM X.K 1 QU))(rl:bA kl X.A)(gl:Gl X xl)(ml:X.mg xl=some (.ref fl))(klk:W.keepIn X.K (.ref fl)=true)(bl:Binds X.K fdl psl [])(cl:Eg X.K C)(n1:cp X.K C "names")(n2:cp X.K C "cells")(hd:f7 x:=by decide)(fO:qd x:=by decide)(hd2:f7 y:=by decide)(qL:qd y:=by decide)(db1:f7 xC:=by decide)(db2:f7 xg:=by decide)(db3:f7 xl:=by decide)(s1:starEach [.Dict [] [] NI,.Dict [] [] Br] X.env=(false,eval (.Dict [] [] NI) X.env)::starEach [.Dict [] [] Br] X.env:=by rfl)(s2:starEach [.Dict [] [] Br] X.env=(false,eval (.Dict [] [] Br) X.env)::starEach [] X.env:=by rfl)(s3:(backTo pc (starEach [.Dict [] [] Br] X.env)).any (·.1)=false:=by rfl)(g1:starEach [.Name y Wb,.Name x NJ] X.env=(false,eval (.Name y Wb) X.env)::starEach [.Name x NJ] X.env:=by rfl)(g2:starEach [.Name x NJ] X.env=(false,eval (.Name x NJ) X.env)::starEach [] X.env:=by rfl)(g3:(backTo XW (starEach [.Name x NJ] X.env)).any (·.1)=false:=by rfl)(he:∀whole,isTrue (.Call (.Name xg pg) [.Name y Wb,.Name x NJ] [] XW) X.env whole=(do let v <- whole;standAt (Expr.pos (.Call (.Name xg pg) [.Name y Wb,.Name x NJ] [] XW));holding [v] (truthy v)):=by intro _;rfl)(b1:attributeBase (.Name x NK) "names" X.env (eval (.Name x NK) X.env)=eval (.Name x NK) X.env:=by rfl)(b2:attributeBase (.Name x IM) "cells" X.env (eval (.Name x IM) X.env)=eval (.Name x IM) X.env:=by rfl)(a1:starEach [.Attribute (.Name x NK) "names" Wc] X.env=(false,eval (.Attribute (.Name x NK) "names" Wc) X.env)::starEach [] X.env:=by rfl)(a2:starEach [.Attribute (.Name x IM) "cells" QX] X.env=(false,eval (.Attribute (.Name x IM) "cells" QX) X.env)::starEach [] X.env:=by rfl)(a3:(backTo LM (starEach [] X.env)).any (·.1)=false:=by rfl)(a4:(backTo C8 (starEach [] X.env)).any (·.1)=false:=by rfl)(t1:starEach [.Call (.Name xl pl1) [.Attribute (.Name x NK) "names" Wc] [] LM,.Call (.Name xl QY) [.Attribute (.Name x IM) "cells" QX] [] C8] X.env=(false,eval (.Call (.Name xl pl1) [.Attribute (.Name x NK) "names" Wc] [] LM) X.env)::starEach [.Call (.Name xl QY) [.Attribute (.Name x IM) "cells" QX] [] C8] X.env:=by rfl)(t2:starEach [.Call (.Name xl QY) [.Attribute (.Name x IM) "cells" QX] [] C8] X.env=(false,eval (.Call (.Name xl QY) [.Attribute (.Name x IM) "cells" QX] [] C8) X.env)::starEach [] X.env:=by rfl)(hs:swapsWith (.Call (.Name xC pC) [.Dict [] [] NI,.Dict [] [] Br] [] pc) (some (.Name x px)) p1.line X.env=pure false:=by rfl)(hf:X.fn x=true\/X.env.scope.names.lookup x=some .local:=by first|exact .inl rfl|exact .inr rfl|assumption) :
  CA X Z [.Assign [.Name x px] (.Call (.Name xC pC) [.Dict [] [] NI,.Dict [] [] Br] [] pc) p1,.While (.Call (.Name xg pg) [.Name y Wb,.Name x NJ] [] XW) [.Pass pp] [] pw,
   .Return (some (.Tuple [.Call (.Name xl pl1) [.Attribute (.Name x NK) "names" Wc] [] LM,.Call (.Name xl QY) [.Attribute (.Name x IM) "cells" QX] [] C8] kt pt)) pr] (gMk i j Gg QU):=.mk λtm=>
 iP.jn (dh (n_ hN hi hx (LL MI FI hGI rI gI mI bI db1 s1 s2 s3) hs hf)
  (dh (og hp (D6 (iQ Fg rg gg mg kgk bg .nil mT (bD (bY hj vy hd2 qL) (bD (bY hi vx hd fO) cX g2) g1) db2 g1 g3) he) (j5 Jd))
    (ui (ui (j5 (yk (lz (bD (iQ Fl rl gl ml klk bl .nil mT (bD (yt (bY hi vx hd fO) b1) cX a1) db3 a1 a3) (bD (iQ Fl rl gl ml klk bl .nil mT (bD (yt (bY hi vx hd fO) b2) cX a2) db3 a2 a4) cX t2) t1)))))))) λD σ H ⟨ρ,O,d,dp,I,q,F⟩=>by
  obtain⟨Vq,q⟩:=q;split at q
  rename_i l el
  obtain⟨W,w0,step⟩:=q;intro a dx p1 p2 H3 ⟨sH,na,R_,QW,G9,ea,d1',d2'⟩
  let M:MG:=⟨a,dx,p1,p2,C,H3,(λz=>by rw[z,d1'] at ea;cases ea),(λz=>by rw[z,d2'] at ea;cases ea),G9,true⟩
  have nO:∀b∈M.Ox,H b=none:=λb hb=>by
   rcases M.mem hb with⟨_,rfl⟩|rfl|rfl
   exact na;exact R_;exact QW
  have Wd:=λb o e=>I.keep b o e (by rw[hP];exact λz=>nomatch z);have sd0:SD X.K M V7 H3:=⟨λ_=>ea,⟨[],rfl,d1',az.nil⟩,⟨[],rfl,d2',az.nil⟩,λb o e _=>e⟩;obtain⟨_,_,o1,o2,rfl,v0,rfl,av0⟩:=I.sl j _ el;have at0:=(av0.more λb hb=>.inr (nO b hb)).same sH;have sj:(σ.set i (some (.ref a)))[j]?=some (some v0):=by rw[sg Am];exact o2
  have si:(σ.set i (some (.ref a)))[i]?=some (some (.ref a)):=z6 (by rw[I.lσ];exact Vq);refine⟨λm σ' H'=>σ'=σ.set i (some (.ref a))/\∃s,W m s/\SD X.K M s H'/\At X.K H' M.Ox l v0,?_,?_⟩;obtain⟨m,hm⟩:=w0;exact⟨m,rfl,_,hm,sd0,at0⟩;rintro m _ H4 ⟨rfl,s,hw,sd,at4⟩;refine⟨v0,sj,.ref a,si,⟨M,s,l,v0,_,⟨rfl,rfl⟩,rfl,at4,⟨sd.ins,sd.d1,sd.d2,λb o e _=>e⟩,step m s hw,λs' t ht v H5 We a5=>?_⟩⟩;obtain⟨b,rfl,hb⟩:=ht;refine⟨b,a5,?_⟩;have Wf:SD X.K M s' H5:=⟨We.ins,We.d1,We.d2,λb o e n=>We.fr b o (sd.fr b o e n) n⟩;cases b with
  |true=>
    show if true=true then _ else _
    obtain⟨m',lt,hw'⟩:=hb;exact⟨λσ' H'=>σ'=σ.set i (some (.ref a))/\∃s,W m' s/\SD X.K M s H'/\At X.K H' M.Ox l v0,λσ' H' h=>⟨m',lt,h⟩,rfl,s',hw',Wf,at4.frame sd.here λb o e n=>We.fr b o e n⟩
  |false=>
    show if false=true then _ else _
    obtain⟨lj,l1,e1,q1⟩:=Wf.d1;obtain⟨jw,l2,e2,q2⟩:=Wf.d2;refine⟨p1,_,e1,λo1=>⟨p2,_,(by rw[ar (Ne.symm G9)];exact e2),λo2=>?_⟩⟩;obtain⟨H6,eH,A1,A2,ea6,fr6⟩:=QV (hB:=rfl) (H0:=H) (Ox:=[]) (dp:=dp) Wf l1 e1 q1 l2 e2 q2;have fr:=λb o e=>by
     have e':=Wd b o e;have n:b∉M.Ox:=λz=>by rw[nO b z] at e';cases e'
     exact fr6 b o (Wf.fr b o (sH _ _ e') n) n
    rw[<- show _=_ from eH];refine⟨.ref a,si,a,C,dx,_,.ref p1,rfl,ea6,cl,n1,rfl,rV A1 (hb o1 o2) λV8 h1 i1 b1 us1 H7 s7 n7 e7 at7=>⟨.ref a,si,a,C,dx,_,.ref p2,rfl,s7 _ _ ea6,cl,n2,rfl,rV (A2.same s7) h1 λV9 h2 i2 b2 us2 H8 s8 n8 e8 at8=>⟨by rw[ς];simp,λp hp=>?_⟩⟩⟩;have sp:aL H8 (upd H8 p (.tup [.ref b1,.ref b2])):=aG hp;have ne:b1≠b2:=λz=>by rw[<- z,e7] at n8;cases n8
    refine F.dp [.lst V8,.lst V9] h2 p [b1,b2] _ ⟨λb o e=>sp _ _ (s8 _ _ (s7 _ _ (fr b o e))),aA,?_,?_,?_⟩;simp[ne];intro b hb';simp only[dg,fE,aag] at hb';cases z:Z.H0 b with
    |none=>rfl
    |some o=>
      exfalso;have e6:=fr b o z;obtain rfl|rfl:=hb'
      rw[n7] at e6;cases e6;rw[s7 _ _ e6] at n8;cases n8
    refine .cons ⟨us1,sp _ _ (s8 _ _ e7),((at7 _).same s8).same sp⟩ (.cons ⟨us2,sp _ _ e8,(at8 _).same sp⟩ .nil)
  exact q.elim
end
section
variable{X:Cx}{st:Stmt}{g u:jY}{pos:Pos}
noncomputable def S2.put2(s:S2)(k:List Key)(t:T):S2:={s with k2:=F5 s.k2 k,t2:=A0 s.k2 s.t2 k t}
noncomputable def NL(M:MG)(n m:Nat)(f:FE):jY:=λd ρ s=>f (ρ.map (mZ M s)) λt=>kP t/\ρ[n]?=some (some (.ob M.a2,false))/\s.t2.length<16777216/\∃k,ρ[m]?=some (some (.kt k,false))/\d.nx ρ (s.put2 k t)
theorem rW{tm:qab}{s:S2}{H1:Hp}{A:Ω}{D:Ends}{d:DO}{t:T}{k:List Key}(S1:SG X.K M tm ρ s σ H1)(F:Ge X.K M tm d D)(IJ:kP t)(a:At X.K H' A t v)(hn:ρ[n]?=some (some (.ob M.a2,false)))(hlen:s.t2.length<16777216)(hk:ρ[m]?=some (some (.kt k,false)))(hq:d.nx ρ (s.put2 k t)) :
  D5 n σ H1 λx H2=>D5 m σ H2 λy H3=>∃a H4,x=.ref a/\wV H3 a y v H4/\D.nx σ H4:=by
 obtain⟨O1,A4,I1⟩:=S1.env;obtain⟨_,_,_,z1,_,v1,rfl,b1⟩:=I1.sl n _ hn;obtain⟨_,_,_,z2,_,v2,rfl,b2⟩:=I1.sl m _ hk;subst b1;obtain⟨b,rfl,hb,_⟩:=b2;obtain⟨vs,hl,h1,h2⟩:=S1.sd.d2;have hz:(s.k2.zip vs).length<sizeLine:=by
  rw[ς,DY,hl,My,h2.length]
  lia
 have pq:=Nv s.k2 vs k v hl;refine⟨.ref M.a2,z1,.ref b,z2,M.a2,_,rfl,wV.t h1 hb hz,?_⟩;rw[pq.1];have Ld:=M.m2;have wr:∀{t:T}{v':V},At X.K H1 M.Ox t v'->At X.K (upd H1 M.a2 (.dT ((F5 s.k2 k).zip (A0 s.k2 vs k v)))) M.Ox t v':=λq=>At.wrote Ld h1 rfl q;have Vx:∀{t:Ψ}{v':qak},az X.K H1 M.Ox t v'->az X.K (upd H1 M.a2 (.dT ((F5 s.k2 k).zip (A0 s.k2 vs k v)))) M.Ox t v':=λq=>az.wrote Ld h1 rfl q;have na:=M.n2;refine F.nx ρ (s.put2 k t) σ _ ⟨⟨O1,A4,I1.lσ,I1.lO,λi e he=>?_,I1.nd,λb hb=>(by rw[A4] at hb;exact absurd hb fE),λp hp=>absurd hp fE,λb hb=>?_,λb o e _=>e,λp hp=>?_⟩,?_,?_,?_,λb o e n=>(by rw[ar (λz=>n (by rw[z];exact Ld))];exact S1.sd.fr b o e n)⟩ hq;obtain⟨o,sv,g1,g2,g3⟩:=I1.sl i e he;refine⟨o,sv,g1,g2,?_⟩;rw[d5 A4] at g3 ⊢;refine g3.map (λt v z=>wr z) λb t' eo _=>?_;subst eo;have:=aF.mpr (f_ g1);rw[A4] at this;exact absurd this fE;by_cases e:b=M.a2;rw[e,aA];simp;rw[ar e];obtain⟨u,eu,_⟩:=S1.sd.here b hb;rw[eu];simp;have:=I1.jG p hp;rw[d5 A4] at this ⊢;exact wr this;exact λz=>by rw[ar na];exact S1.sd.ins z
 obtain⟨jw,l2,e2,q2⟩:=S1.sd.d1;exact⟨jw,l2,by rw[ar M.n3];exact e2,Vx q2⟩;exact⟨_,pq.2,aA,Vx (F8 h2 (pA IJ a))⟩
def LN(n m:Nat){f:FE}(hu:X.A.units+1<cLine)(he:∀H0 Ox,VE X ⟨H0,[],Ox⟩ e f)(hN:X.N[n]?=some x:=by rfl)(hv:mP X.env.scope x:=by first|exact Or.inl rfl|exact Or.inr (.inl rfl)|exact Or.inr (.inr rfl))(hd:f7 x:=by decide)(fO:qd x:=by decide)(IK:X.N[m]?=some y:=by rfl)(Ny:mP X.env.scope y:=by first|exact Or.inl rfl|exact Or.inr (.inl rfl)|exact Or.inr (.inr rfl))(hd2:f7 y:=by decide)(qL:qd y:=by decide)(hs:swapsWith e (some (.Subscript (.Name x p) (.Name y p2) d9)) pos.line X.env=pure false:=by rfl):GS X M (.Assign [.Subscript (.Name x p) (.Name y p2) d9] e pos) (NL M n m f):=.mk λtm ε s' σ H D J ⟨ρ,s,d,S,hg,F⟩=>by obtain⟨O2,DQ,I2⟩:=S.up;refine t7 hu (bY hN hv hd fO) (bY IK Ny hd2 qL) (he H [] tm) hs ε s' σ H D J ⟨_,O2,_,I2,hg,λt ht v H1 sm a=>?_⟩;obtain⟨IJ,hn,hlen,k,hk,hq⟩:=ht;exact rW (S.dJ sm) F IJ a hn hlen hk hq
noncomputable def Wg(M:MG)(n m:Nat)(f:FE):jY:=λd ρ s=>Nx M n m f d ρ s\/NL M n m f d ρ s
def GS.or{g u:jY}{st:Stmt}(h1:GS X M st g)(h2:GS X M st u):GS X M st (λd ρ s=>g d ρ s\/u d ρ s):=.mk λtm ε s' σ H D J ⟨ρ,s,d,S,hg,F⟩=>by
 obtain hg|hg:=hg
 exact h1.h tm ε s' σ H D J ⟨ρ,s,d,S,hg,F⟩;exact h2.h tm ε s' σ H D J ⟨ρ,s,d,S,hg,F⟩
def QZ(n m:Nat){f:FE}(hu:X.A.units+1<cLine)(he:∀H0 Ox,VE X ⟨H0,[],Ox⟩ e f)(hN:X.N[n]?=some x:=by rfl)(hv:mP X.env.scope x:=by first|exact Or.inl rfl|exact Or.inr (.inl rfl)|exact Or.inr (.inr rfl))(hd:f7 x:=by decide)(fO:qd x:=by decide)(IK:X.N[m]?=some y:=by rfl)(Ny:mP X.env.scope y:=by first|exact Or.inl rfl|exact Or.inr (.inl rfl)|exact Or.inr (.inr rfl))(hd2:f7 y:=by decide)(qL:qd y:=by decide)(hs:swapsWith e (some (.Subscript (.Name x p) (.Name y p2) d9)) pos.line X.env=pure false:=by rfl):GS X M (.Assign [.Subscript (.Name x p) (.Name y p2) d9] e pos) (Wg M n m f) :=
 GS.or (Lf n m hu he hN hv hd fO IK Ny hd2 qL hs) (LN n m hu he hN hv hd fO IK Ny hd2 qL hs)
def acA(M:MG)(s:S2):mZ M s (some (.ob M.a2,false))=some (.dt s.k2 s.t2,false):=by show (if M.a2=M.a1 then _ else _)=_;rw[η (Ne.symm M.n3),ι rfl]
end
end VT
namespace eC
open PySem L2 VT Gen K5 Lay BS Ln MK
open PySem.Builtin (bitOr)
noncomputable def sE(E F:List Ent):S2:=⟨cF E,cT E,cF F,cT F⟩
def G_(C:Addr)(l:T)(s:S2)(q:S2->T->Prop):Prop:=∃(rs:qal)(E F:List Ent),l=gJ C rs/\s=sE E F/\(∀r∈rs,XT rs r/\XS r)/\rs.length<=64/\(d8 rs).length<=400/\Iv rs.length (d8 rs) ⟨E,F,false⟩/\q (sE (ck rs E F rs.length).E (ck rs E F rs.length).F) (.bl (ck rs E F rs.length).b)
noncomputable abbrev rho(M:MG)(C:Addr)(rs:qal)(b:Bool)(b3 b4 b5 b6 b7 b8:Option T):En:=[aD (gJ C rs),aD (.ob M.a),aD (.bl b),ig b3,ig b4,ig b5,ig b6,ig b7,ig b8]
def G'(rs:qal)(i:Nat){t:T}(h:(eV (jN rs))[i]?=some t):i<rs.length/\t=.tup [.int (i:Int),oT (g6 (bC rs) i)]:=by unfold eV jN at h;rw[WY,fD] at h;by_cases hi:i<rs.length;rw[Sx hi] at h;cases h;exact⟨hi,rfl⟩;rw[Sz (by rw[z8];lia)] at h;cases h
def Ha(rs:qal):(eV (jN rs)).length=rs.length:=by unfold eV jN;simp
def LO{d:DO}{s:S2}{ts:Ψ}{k:List Key}(h5:(ρ.map (mZ M s))[n]?=some (some (.dt ks ts,false)))(h6:(ρ.map (mZ M s))[m]?=some (some (.kt k,false)))(hq:kP ((cb ks ts k).getD (.int 0))/\d.nx (ρ.set i (some ((cb ks ts k).getD (.int 0),false))) s):Gf M i (fT (zt (dD n) (dB m) (fT (fC (.int 0))))) d ρ s:=by unfold Gf fT zt dD;rw[h5];show dB m _ _;unfold dB;rw[h6];exact hq
theorem Hb{n2 n8:Nat}{d:DO}{s s0:S2}(es:s0=s){ts:Ψ}{k:List Key}{b:Bool}{v before:Int}(h2:(ρ.map (mZ M s))[n2]?=some (some (.bl b,false)))(h5:(ρ.map (mZ M s))[n]?=some (some (.dt ks ts,false)))(h6:(ρ.map (mZ M s))[m]?=some (some (.kt k,false)))(h8:(ρ.map (mZ M s))[n8]?=some (some (.int before,false)))(hg:cb ks ts k=some (.int v))(hq:kP (.bl (b || !decide (v=before)))/\d.nx (ρ.set i (some (.bl (b || !decide (v=before)),false))) s) :
  Gf M i (fT (Pk (fV (dB n2)) (f2 (fT (Gk (dD n) (dB m))) (dD n8) MT))) d ρ s0:=by
 rw[es];unfold Gf fT Pk fV dB;rw[h2];cases b with
 |true=>exact hq
 |false=>show f2 _ _ _ _ _;unfold f2 Gk dD;dsimp only;rw[h5];show (match (ρ.map (mZ M s))[m]? with|some (some (t,false))=>_|_=>False);rw[h6];refine⟨_,hg,?_⟩;show (match (ρ.map (mZ M s))[n8]? with|some (some (t,_))=>_|_=>False);rw[h8];exact hq
def Hc{g u:jY}{d:DO}{s:S2}{t:T}(h:ρ[n]?=some (some (t,false)))(ht:wo t=false)(hg:g d ρ s):Z4 (lH (f2 (dD n) (fT (fC .bB)) tI)) g u d ρ s:=by
 unfold Z4 lH f2 dD;rw[h];show if (!wo t)=true then g d ρ s else u d ρ s
 rw[ht];exact hg
noncomputable def wO(M:MG)(p:Wt):T:=.tup [.ob (if p.1=true then M.a1 else M.a2),.kt (kK p.2.1),.int p.2.2]
theorem NM(M:MG)(E F:List Ent):∀l:List Wt,C0 (l.map (wT M.a1 M.a2 E F))=some (l.map (wO M))
 |[]=>rfl
 |p::l=>by rw[jk,jk];obtain⟨b,k,v⟩:=p;unfold C0;rw[NM M E F l];cases b<;>rfl
def He(p:Tb)(w:Bool)(k:Int×Str)(v:Int):(if w=true then (sE p.E p.F).zo (kK k) (.int v) else (sE p.E p.F).put2 (kK k) (.int v))=sE (p.put w k v).E (p.put w k v).F:=by
 cases w with
 |true=>show S2.zo _ _ _=_;unfold S2.zo sE Tb.put;dsimp only;rw[Gw p.E k v,fW];rfl
 |false=>show S2.put2 _ _ _=_;unfold S2.put2 sE Tb.put;dsimp only;rw[Gw p.F k v,fW];rfl
noncomputable def dOf(p:Tb)(w:Bool):T:=if w=true then .dt (cF p.E) (cT p.E) else .dt (cF p.F) (cT p.F)
def Wh(M:MG)(p:Tb)(w:Bool):mZ M (sE p.E p.F) (some (.ob (if w=true then M.a1 else M.a2),false))=some (dOf p w,false):=by
 cases w with
 |true=>exact Z2 M _
 |false=>exact acA M _
def Wi{f:FE}{d:DO}{p:Tb}{ub:Bool}{k:Int×Str}{v:Int}(hf:∀Q:T->Prop,Q (.int v)->f (ρ.map (mZ M (sE p.E p.F))) Q)(h5:ρ[n]?=some (some (.ob (if ub=true then M.a1 else M.a2),false)))(h6:ρ[m]?=some (some (.kt (kK k),false)))(l1:p.E.length<16777216)(l2:p.F.length<16777216)(hq:d.nx ρ (sE (p.put ub k v).E (p.put ub k v).F)):Wg M n m f d ρ (sE p.E p.F):=by
 rw[<- He] at hq;cases ub with
 |true=>exact .inl (hf _ ⟨.inl ⟨_,rfl⟩,h5,by show (cT p.E).length<_;unfold cT;rw[bX];exact l1,kK k,h6,hq⟩)
 |false=>exact .inr (hf _ ⟨.inl ⟨_,rfl⟩,h5,by show (cT p.F).length<_;unfold cT;rw[bX];exact l2,kK k,h6,hq⟩)
def acB(p:Tb)(ub:Bool):∃EE:List Ent,dOf p ub=.dt (cF EE) (cT EE)/\(∀k,p.get ub k=bo EE k)/\∀k v,dOf (p.put ub k v) ub=.dt (cF (gu EE k v)) (cT (gu EE k v)):=by
 cases ub with
 |true=>exact⟨p.E,rfl,λ_=>rfl,λ_ _=>rfl⟩
 |false=>exact⟨p.F,rfl,λ_=>rfl,λ_ _=>rfl⟩
section
variable{aU cQ:Addr}
noncomputable abbrev LP:ω:=["layout","sets","lacking","place","home","held","key","wanted","before"]
def xH:aJ LP ["layout","sets"] (aq uF):=L2.il
theorem Hf(D:Df K mg "grown" uF ["layout","sets"] f fd)(aB:Sb K aU)(Mg:V3 mg)(LQ:cC P w K mg base "wants" qaC 4 (cM K 3 (zG aU cQ))):cC P w K mg base "grown" ["layout","sets"] (4+1) (XI K cQ (G_ aU)):=by
 refine D.ic (fnG D.F xH rfl (by decide) λbP A outer s H E M hC hB hr l s0 q hG=>?_);have nd:=xH.nd;have hu:=bA.eD hr;have je:=kJ hu;subst hC;refine⟨_,(d6 (gq λ_ _=>aK (i:=2) nd rfl (.inl rfl) (fv jo) ie)
  (d6 (Gi nz rfl (λ_ _=>kq (by rfl) Mg.enumerate (χ (dw aB.cl aB.i0 (ae 0)))) (λ_ _=>dc (n:=2) rfl (aN (aC (i:=3) nd rfl (.inl rfl) ie) (aN (aC (i:=4) nd rfl (.inl rfl) ie) cw)))
   (fM (Vw (λ_ _=>E4 (ae 4) (ο fP))
    (fM (Lg nz rfl (λ_ _=>χ (aW LQ hr (aa (ah 0) (aa (ah 1) (aa (ah 3) aj))))) (λ_ _=>dc (n:=3) rfl (aN (aC (i:=5) nd rfl (.inl rfl) ie) (aN (aC (i:=6) nd rfl (.inl rfl) ie) (aN (aC (i:=7) nd rfl (.inl rfl) ie) cw))))
     (d6 (Gh (i:=8) nd rfl (.inl rfl) (λ_ _=>χ (fj je (ae 5) (ah 6) (χ af) ⟨rfl,rfl,rfl,rfl⟩)))
     (d6 (QZ 5 6 je (λ_ _=>χ (sU (ae 8) (ae 7))))
     (fM (Gh (i:=2) nd rfl (.inl rfl) (λ_ _=>χ (Ua (VE.vp (ah 2)) (oB (Ue hu (ο (Lj je (ae 5) (ah 6))) (ae 8)))))))))))
    Lc)))
  (fM (gq λ_ _=>aH (fv (VE.vp (ah 2))))))),?_⟩
 obtain⟨rs,E0,F0,rfl,rfl,bF,hn,zd,I0,hq⟩:=hG;refine⟨rfl,rfl,_,rfl,?_⟩;refine⟨λi ρ s=>∃b3 b4 b5 b6 b7 b8,ρ=rho M aU rs (ck rs E0 F0 i).b b3 b4 b5 b6 b7 b8/\s=sE (ck rs E0 F0 i).E (ck rs E0 F0 i).F,⟨none,none,none,none,none,none,rfl,rfl⟩,?_,?_⟩;rintro i t ρ s ht ⟨b3,b4,b5,b6,b7,b8,rfl,rfl⟩;obtain⟨hi,rfl⟩:=G' rs i ht;obtain⟨r,dX⟩:∃r,rs[i]?=some r:=⟨_,jj hi⟩;have I:=(kY I0 i (by lia)).1;have gs:=i8 rs E0 F0 i;generalize hp:ck rs E0 F0 i=p at I gs ⊢;refine⟨rfl,rfl,(by show hU [aD (gJ aU rs),aD (.ob M.a),aD (.bl p.b),aD (.int (i:Int)),aD (oT _),ig b5,ig b6,ig b7,ig b8]=true;simp only[ph,pf,iH]),?_⟩;cases hh:g6 (bC rs) i with
 |none=>
  have wn:wA rs p.E p.F i=[]:=by unfold wA GL;rw[dX,hh];rfl
  have gs:ck rs E0 F0 (i+1)=p:=by rw[gs];unfold XQ;rw[wn];rfl
  exact⟨some (.int (i:Int)),some .bB,b5,b6,b7,b8,by rw[gs];rfl,by rw[gs]⟩
 |some h=>
  have wa:wA rs p.E p.F i=(vE rs i h r).flatMap (wM p.E p.F):=by unfold wA GL;rw[dX,hh]
  have gs:ck rs E0 F0 (i+1)=((vE rs i h r).flatMap (wM p.E p.F)).foldl jx p:=by rw[gs];unfold XQ;rw[wa]
  refine Hc (t:=.int (h:Int)) rfl rfl ?_;show Gj M _ _ _ _ [aD (gJ aU rs),aD (.ob M.a),aD (.bl p.b),aD (.int (i:Int)),aD (.int (h:Int)),ig b5,ig b6,ig b7,ig b8] (sE p.E p.F);unfold Gj;show (fT (iu 3 (cn (dB 0) (cn (dB 1) (cn (dB 3) lL))) (zG aU M.C))) [some (gJ aU rs,false),mZ M (sE p.E p.F) (some (.ob M.a,false)),some (.bl p.b,false),some (.int (i:Int),false),some (.int (h:Int),false),mZ M (sE p.E p.F) (ig b5),mZ M (sE p.E p.F) (ig b6),mZ M (sE p.E p.F) (ig b7),mZ M (sE p.E p.F) (ig b8)] _;rw[Z1 _ _ hB];have hro:=bF r (f_ dX);refine⟨rfl,rs,M.a1,M.a2,p.E,p.F,i,r,h,rfl,dX,hro.1,hro.2,hh,by lia,λk=>ll (bits_le (I.bl true k)) hn,?_⟩;have hwk:∀w∈(vE rs i h r).flatMap (wM p.E p.F),w.2.1∈g7 rs.length (d8 rs) w.1/\below rs.length w.2.2:=λw hw=>(GR I hi (by rw[wa];exact hw)).choose_spec.2.2;generalize (vE rs i h r).flatMap (wM p.E p.F)=L at gs hwk;refine⟨L.map (wO M),NM M p.E p.F L,λj ρ s=>∃b5 b6 b7 b8,ρ=rho M aU rs ((L.take j).foldl jx p).b (some (.int (i:Int))) (some (.int (h:Int))) b5 b6 b7 b8/\s=sE ((L.take j).foldl jx p).E ((L.take j).foldl jx p).F,⟨b5,b6,b7,b8,rfl,rfl⟩,?_,?_⟩;rintro j t ρ s hj ⟨b5,b6,b7,b8,rfl,rfl⟩;rw[fD] at hj;obtain⟨u,hw,rfl⟩:=IQ.mp hj;have es:(L.take (j+1)).foldl jx p=jx ((L.take j).foldl jx p) u:=by rw[N7,hw,N6];rfl
  have Ij:Iv rs.length (d8 rs) ((L.take j).foldl jx p):=(uy I λv hv=>hwk v (List.mem_of_mem_take hv)).1;have l1:=Ij.LD;have l2:=Ij.LF;have l3:(d8 rs).length * (rs.length+1)<=400 * 65:=Nat.mul_le_mul zd (by lia);generalize (L.take j).foldl jx p=pj at es Ij l1 l2 ⊢;obtain⟨ub,uk,uv⟩:=u;obtain⟨EE,hd,hg,C7⟩:=acB pj ub;refine⟨rfl,rfl,(by show hU [aD (gJ aU rs),aD (.ob M.a),aD (.bl pj.b),aD (.int (i:Int)),aD (.int (h:Int)),aD (.ob _),aD (.kt (kK uk)),aD (.int uv),ig b8]=true;simp only[ph,pf,iH]),?_⟩;refine LO (ks:=cF EE) (ts:=cT EE) (k:=kK uk) (by show some (mZ M (sE pj.E pj.F) (some (.ob (if ub=true then M.a1 else M.a2),false)))=_;rw[Wh,hd]) rfl ?_;rw[fq,<- hg];refine⟨.inl ⟨_,rfl⟩,Wi (v:=bitOr (pj.get ub uk) uv) (k:=uk) (ub:=ub) (λQ hQ=>hQ) rfl rfl (by lia) (by lia) ?_⟩;refine Hb (M:=M) (i:=2) (n:=5) (m:=6) (n2:=2) (n8:=8) (ρ:=[some (gJ aU rs,false),some (.ob M.a,false),some (.bl pj.b,false),some (.int (i:Int),false),some (.int (h:Int),false),some (.ob (if ub=true then M.a1 else M.a2),false),some (.kt (kK uk),false),some (.int uv,false),some (.int (pj.get ub uk),false)]) rfl (ks:=cF (gu EE uk (bitOr (pj.get ub uk) uv))) (ts:=cT (gu EE uk (bitOr (pj.get ub uk) uv))) (k:=kK uk) (b:=pj.b) (v:=bitOr (pj.get ub uk) uv) (before:=pj.get ub uk) rfl (by show some (mZ M (sE (pj.put ub uk (bitOr (pj.get ub uk) uv)).E (pj.put ub uk (bitOr (pj.get ub uk) uv)).F) (some (.ob (if ub=true then M.a1 else M.a2),false)))=_;rw[Wh,C7]) rfl rfl (LC uk _ EE) ?_;exact⟨.inr ⟨_,rfl⟩,some (.ob (if ub=true then M.a1 else M.a2)),some (.kt (kK uk)),some (.int uv),some (.int (pj.get ub uk)),by rw[es];rfl,by rw[es];rfl⟩;rintro ρ s ⟨b5',b6',b7',b8',rfl,rfl⟩;rw[bX,Mw];exact⟨_,_,_,_,_,_,by rw[gs],by rw[gs]⟩
 rintro ρ s ⟨b3,b4,b5,b6,b7,b8,rfl,rfl⟩;rw[Ha] at *;refine⟨(by show hU [aD (gJ aU rs),aD (.ob M.a),aD (.bl _),ig b3,ig b4,ig b5,ig b6,ig b7,ig b8]=true;simp only[ph,pf,iH]),hq⟩
end
def uM(ts:Ψ)(q:Ψ->Prop):Prop:=∃rs:qal,ts=[.lst (rs.map aR)]/\Qd rs/\rs.length<=64/\(d8 rs).length<=400/\(∀r∈rs,XT rs r/\XS r) /\
 ∀m,(∀j<m,(nV rs (j+1)).b=true)->(nV rs (m+1)).b=false->∀bs cs:List TS.Tr,bs.Perm (qc (nV rs (m+1)).E)->bs.Pairwise (λa b=>TS.dy b a=false)->cs.Perm (qc (nV rs (m+1)).F)->cs.Pairwise (λa b=>TS.dy b a=false)->q [.lst (bs.map TS.tT),.lst (cs.map TS.tT)]
theorem uN:∀bs:List TS.Tr,j_ (bs.map TS.tT)=true
 |[]=>rfl
 |b::bs=>by rw[jk,j_,uN bs];rfl
section
variable{aU cQ:Addr}
noncomputable abbrev Hg:ω:=["program","layout","sets"]
def rX:aJ Hg qav (aq pK):=L2.il
theorem C9(D:Df K mg "makers" pK qav f fd)(M:Sb K aU)(M1:V4 K cQ)(Hh:FH P w K mg base "Layout" aU qaw 2 1 (AW aU))(Q0:FH P w K mg base "Sets" cQ qaz 1 2 (NG cQ))(LR:cC P w K mg base "grown" ["layout","sets"] 5 (XI K cQ (G_ aU)))(C_:cC P w K mg base "list_of" ["held"] 1 (cM K 1 Bn)):cC P w K mg base "makers" qav 6 (Qb K 1 uM):=by
 obtain⟨Wj,Sj,Hi,Hj,Hk,Hl⟩:=Hh;obtain⟨acC,XY,Q1,Q2,Q3,Q5⟩:=Q0;obtain⟨XZ,Wl,LS,LU,LV,LW⟩:=LR;obtain⟨Sk,Q6,Dd,De,Dg,Dh⟩:=C_;refine D.ic (fnD D.F rX rfl (by decide) λbP A outer s H E Ox hr ts q hG=>?_);have nd:=rX.nd;have np:∀{i:Nat},bh ⟨H,[],Ox⟩ i:=ie;refine⟨_,eZ (aK (i:=1) nd rfl (.inl rfl) (fv (KL Hi Hl (hr.mono (by decide)) (by rfl) Hj Hk (aa (ah 0) aj))) np)
  (zL (i:=2) (j:=1) rfl (by decide) nd rfl rfl (.inl rfl) (.inl rfl) (.inl rfl) nz Q1 Q5 (λt1 t2 q hq=>⟨t1,t2,rfl,hq⟩) (hr.mono (by decide)) (by rfl) Q2 Q3 LW (hr.mono (by decide)) (by rfl) LS LU LV Dh (hr.mono (by decide)) (by rfl) Dd De Dg M1.cl M1.uH M1.nW),λ_=>?_⟩
 obtain⟨rs,rfl,W,hn,zd,bF,hq⟩:=hG;refine⟨rfl,rs,rfl,W,by lia,?_⟩;refine⟨by show 2<3;decide,?_⟩;refine⟨λm s=>∃j,s=sE (nV rs j).E (nV rs j).F/\(∀i<j,(nV rs (i+1)).b=true)/\m=mu rs.length (d8 rs) (nV rs j),⟨_,0,rfl,λi hi=>absurd hi (Nat.not_lt_zero i),rfl⟩,?_⟩;rintro m s ⟨j,rfl,hb,rfl⟩;have I:=(rR rs j).1;have I':=(rR rs (j+1)).1;have l1:=I'.LD;have l2:=I'.LF;have l3:(d8 rs).length * (rs.length+1)<=400 * 65:=Nat.mul_le_mul zd (by lia);refine⟨rs,(nV rs j).E,(nV rs j).F,rfl,rfl,bF,hn,zd,I.bool false,_,rfl,?_⟩;split
 rename_i z
 have z:(nV rs (j+1)).b=true:=z;have gn:=(kY (b:=(nV rs j).b) I rs.length (cc _)).2;exact⟨_,ND gn.1 (gn.2 z),j+1,rfl,λi hi=>by by_cases e:i=j;rw[e];exact z;exact hb i (by lia),rfl⟩
 rename_i z
 have z:(nV rs (j+1)).b=false:=by
  cases h:(nV rs (j+1)).b with
  |false=>rfl
  |true=>exact absurd h z
 intro o1 o2;refine⟨(nV rs (j+1)).E,o1,rfl,by lia,λbs p srt=>⟨_,rfl,uN bs,?_⟩⟩;refine⟨(nV rs (j+1)).F,o2,rfl,by lia,λcs p2 acD=>⟨_,rfl,uN cs,?_⟩⟩;exact hq j hb z bs cs p srt p2 acD
end
end eC
namespace MK
open PySem L2 VT Gen BS K5 Ln Lay
open qq (cP eR)
def Wm:Ky->Prop
 |.fld x=>cP x=true
 |.op (.nm y)=>cP y=true
 |.op (.nu _)=>True
def LX(h:cP x=true):jS (.fld x)=(".":String)++x:=by unfold jS vD;dsimp only;rw[qq.Cb h,ι rfl]
def Q7(h:cP y=true):jS (.op (.nm y))=("#":String):=by unfold jS vD l7;dsimp only;rw[qq.qr h,η ja]
def kO:Rw->Prop
 |.get _ _ k=>Wm k
 |.set _ k _=>Wm k
 |_=>True
def inR(ys:ω)(pl:Plan):Rw->Prop
 |.get _ _ k=>Cr ys k
 |.set _ k _=>Cr ys k
 |.call _ f as=>∃ps,(f,ps)∈pl/\as.length=ps.length
 |_=>True
def Hm{bN body}(h:Body ys pl bN body):∀r∈body,inR ys pl r:=by
 induction h with
 |nil=>intro r hr;cases hr
 |step _ h2 ih=>
  intro r hr;rcases gx.mp hr with hr|hr
  exact ih r hr
  . obtain⟨o,ho,rfl,_⟩|⟨o,ho,rfl,_⟩|⟨y,hy,rfl,_⟩|⟨s0,_,rfl,_⟩|⟨s0,x,_,rfl,_⟩|⟨r',dX,rfl,_⟩:=h2
    all_goals simp only[dg,fE,aag] at hr
    subst hr;trivial;subst hr;trivial;obtain rfl|rfl:=hr<;>trivial
    subst hr;trivial;subst hr;trivial;subst hr;cases r<;>first|trivial|exact dX.2.2|exact dX.2.1
def LY(h:Pre ys pl n rs):(∀r∈rs,inR ys pl r)/\∀k<n,∀f ps,pl[k]?=some (f,ps)->Rw.df f ps∈rs:=by
 induction h with
 |zero=>exact⟨λr hr=>(nomatch hr),λk hk=>absurd hk (Nat.not_lt_zero k)⟩
 |@succ k rs f ps bN body o sk _ hk hb ho hs ih=>
  refine⟨λr hr=>?_,λj hj f' V1 e=>?_⟩;rcases List.mem_append.mp hr with hr|hr
  exact ih.1 r hr;rcases List.mem_cons.mp hr with rfl|hr
  trivial;rcases gx.mp hr with hr|hr
  have:=Hm hb r hr;cases r with
  |call x g as=>obtain⟨ps,h1,h2⟩:=this;exact⟨ps,List.mem_of_mem_drop h1,h2⟩
  |_=>exact this
  rcases gx.mp hr with hr|hr
  rw[(List.mem_replicate.mp hr).2];trivial;rcases dg.mp hr with rfl|hr
  trivial;obtain rfl|rfl:=hs
  cases hr;rw[hY.mp hr];trivial;by_cases z:j=k;subst z;rw[hk] at e;cases e;exact iN _ fB;exact hX _ (ih.2 j (by lia) f' V1 e)
structure Pg(rs:qal):Prop where
 B:Bl rs
 le:rs.length<=60
 ky:∀r∈rs,kO r
 cl:∀x g as,Rw.call x g as∈rs->as.length<=4/\∃a,fnOf rs g=some a
def Q8(h:Pre ys pl pl.length rs)(le:rs.length<=60)(hn:∀y∈ys,cP y=true)(p4:∀p∈pl,p.2.length<=4):Pg rs:=by
 have B:Bl rs:=⟨Nq (Qg h),Ku h⟩;obtain⟨h1,h2⟩:=LY h;have kk:∀k,Cr ys k->Wm k:=λk hk=>by
  cases k with
  |fld x=>exact hn x hk
  |op o=>cases o with
   |nm y=>exact hn y hk
   |nu _=>trivial
 refine⟨B,le,λr hr=>?_,λx g as hr=>?_⟩;have:=h1 r hr;cases r with
 |get x y k=>exact kk k this
 |set y k o=>exact kk k this
 |_=>trivial
 obtain⟨ps,a,b⟩:=h1 _ hr;obtain⟨k,hk⟩:=List.getElem?_of_mem a;obtain⟨i,hi⟩:=List.getElem?_of_mem (h2 k (dz.mp hk).1 g ps hk);exact⟨by rw[b];exact p4 _ a,Ei B hi⟩
def Hn(h:n<=60):Pg (List.replicate n .skip):=by
 have m:∀r∈List.replicate n Rw.skip,r=.skip:=λr hr=>(List.mem_replicate.mp hr).2;refine⟨⟨Nq ?_,Cz n⟩,by rw[Ms];exact h,λr hr=>by rw[m r hr];trivial,λx g as hr=>by cases m _ hr⟩;have:∀n,dr 0 (List.replicate n .skip)=some 0:=λn=>by
  induction n with
  |zero=>rfl
  |succ n ih=>rw[BF];exact ih
 exact this n
def Pg.len(p:Pg rs):(d8 rs).length<=300/\∀n≤60,(iL rs n).length<=300:=by
 obtain⟨h1,h2⟩:=QN (rs:=rs) λr hr x g as e=>by subst e;exact (p.cl x g as hr).1
 have:=p.le;exact⟨by lia,λn hn=>by have:=h2 n;lia⟩
end MK
namespace Gen
open PySem L2 VT
theorem rY{rs:qal}{f:Str}{j:Nat}:∀n,qH (aZ rs n) f=some j->∀k<j,∀ps,rs[k]?≠some (.df f ps)
 |0,h=>nomatch h
 |n+1,h=>by
  have old:qH (aZ rs n) f=some j->∀k<j,∀ps,rs[k]?≠some (.df f ps):=rY n;simp only[aZ] at h;split at h
  rename_i r hr
  cases r with
  |df g ps=>
   simp only[Fo] at h;split at h;exact old h
   rename_i hn
   rw[nP] at h;split at h
   rename_i i hi
   cases h;exact old hi
   rename_i YJ
   simp only[qH] at h;split at h
   rename_i e
   cases h;intro k hk qs hq;obtain⟨j2,hj2⟩:=me hq _ hk;rw[YJ] at hj2;cases hj2;cases h
  |_=>exact old h
  exact old h
end Gen
namespace d7
open PySem L2 VT Gen
open qq (bM)
noncomputable def top(i:Nat):Stmt:=PySem.Challenge.pw_slicewise_k23_tables_of_programs.main.body.getD i (.Pass ⟨0,0,0,0⟩)
noncomputable abbrev mD:Stmt:=top 25
noncomputable abbrev uO:Stmt:=top 26
noncomputable abbrev mE:Stmt:=top 27
noncomputable abbrev Ho:Stmt:=top 28
noncomputable abbrev s_call:Stmt:=top 29
noncomputable abbrev pR:Stmt:=top 30
noncomputable abbrev Hq:Stmt:=top 31
noncomputable abbrev zM:Stmt:=top 32
noncomputable abbrev mF:Stmt:=top 33
structure Q9(mg:qae):Prop where
 len:mg "len"=none
 range:mg "range"=none
 tuple:mg "tuple"=none
 sum:mg "sum"=none
def NN(ts:Ψ)(q:qam):Prop:=∃(ns:qan)(j:Nat),ts=[.lst (ns.map .int),.int (j:Int)]/\q (.vw (.int (ns.getD j 0)))
def Hr(ts:Ψ)(q:qam):Prop:=∃(c:Int)(m:Nat),ts=[.int c,.int (m:Int)]/\2<=m/\m<=20/\q (.fr (.lst ((dH c m).map .str)))
section
noncomputable abbrev Di:ω:=qaD
def pS:aJ Di qaD (aq mD):=L2.il
def zN(D:Df K mg "_law_cell_at" mD qaD f fd)(M:Q9 mg):cC P w K mg base "_law_cell_at" qaD 1 (cM K 2 NN):=by
 refine D.ic (kr D.F pS rfl λbP A outer s H E Ox hr ts q hG=>?_);have nd:=pS.nd;refine⟨_,(ag (bf (mV (ae 1) (ο (aY ba bb (by rfl) M.len nA (aM (ae 0) aX))))
    (ak (aH (fv (ay (ae 0) (ae 1)))))
    aI)
   (ak (aH (fv af)))),λ_=>?_⟩
 obtain⟨ns,j,rfl,hq⟩:=hG;refine B7 (λh=>?_) (λh=>?_);have h':(j:Int)<((ns.map T.int).length:Int):=υ h;rw[bX] at h';have hj:j<ns.length:=by lia
 refine⟨.int (ns.getD j 0),ai ?_,hq⟩;rw[fD,jj hj,List.getD,jj hj];rfl;have h':¬ ((j:Int)<((ns.map T.int).length:Int)):=λz=>h (ν z);rw[bX] at h';have e:ns.getD j 0=0:=by rw[List.getD,Sz (by lia)];rfl
 rw[e] at hq;exact hq
noncomputable abbrev LZ:ω:=["_law_cell","_law_many","_law_letters","_law_size","_law_at","_law_words_here","_law_k","_law_word","_law_j","_law_number"]
def xI:aJ LZ qaE (aq uO):=L2.il
def Hs(D:Df K mg "_law_words" uO qaE f fd)(M:Q9 mg):cC P w K mg base "_law_words" qaE 1 (cM K 2 Hr):=by
 refine D.ic (kr D.F xI rfl λbP A outer s H E Ox hr ts q hG=>?_);have nd:=xI.nd;have hu:=bA.eD hr;have np:∀{i:Nat},bh ⟨H,[],Ox⟩ i:=ie;refine⟨_,(ag (aK (i:=2) nd rfl (.inl rfl) (fv ax) np)
  (ag (aK (i:=0) nd rfl (.inl rfl) (fv (bq (ae 0) (ο (lN (ο af) (ο af))))) np)
  (ag (aK (i:=3) nd rfl (.inl rfl) (fv (cu (ο af) (ο (bq (ae 0) (ο af))))) np)
  (ag (aK (i:=4) nd rfl (.inl rfl) (fv (bq (ο (bu (ae 0) (ο af))) (ae 3))) np)
  (ag (cJ (i:=5) nd rfl (.inl rfl) (fv (bO aj)) np)
  (ag (cZ nz rfl (cV (by rfl) M.range (ae 1)) (aC (i:=6) nd rfl (.inl rfl) np)
   (ag (aK (i:=7) nd rfl (.inl rfl) (fv ax) np)
   (ag (cZ nz rfl (cV (by rfl) M.range (ae 3)) (aC (i:=8) nd rfl (.inl rfl) np)
    (ag (aK (i:=9) nd rfl (.inl rfl) (fv (cu (ο (bu (ο (bu (ae 0) (ο af))) (ο (cu (ae 8) (ο af))))) (ο (fU (ae 8) (ae 8))))) np)
    (ag (bf (bz hu (ae 8) (ae 4))
     (ak (ES (i:=9) nd rfl (.inl rfl) (ae 6) Jk EM np))
     aI)
    (ak (aK (i:=7) nd rfl (.inl rfl) (fv (cu (ae 7) (ο (ay (ae 2) (ο (bq (ae 9) (ο af))))))) np)))))
   (ak (bp (cA 5 mM mO aS aO (aa (ah 7) aj)))))))
  (ag (bf (bz hu (ο (bq (ο (bu (ae 0) (ο af))) (ο af))) (ο af))
   (ak (fW 5 (χ (cu (ο (ay (ae 5) (ο af))) (ο (ay (ae 2) (ο (bq (ο (bu (ae 0) (ο af))) (ο af))))))) (ο af)))
   aI)
  (ak (aH (fJ 5 np)))))))))),λ_=>?_⟩
 obtain⟨c,m,rfl,hm2,acU,hq⟩:=hG;have e12:(10:Int) ^ (12:Int).toNat=1000000000000:=UN;have hz:(1:Int)+c % (10:Int) ^ (12:Int).toNat % 7=(l6 c:Int):=by rw[e12];exact (Ni c).symm
 have qj:=yY c;refine⟨⟨by decide,by decide,by decide⟩,(by show (0:Int)<10 ^ (12:Int).toNat;decide),(by show (0:Int)<7;decide),⟨by decide,by decide⟩,(by show (0:Int)<1+c % 10 ^ (12:Int).toNat % 7;rw[hz];lia),h_ _,by lia,by lia,?_⟩;refine eX (λk ρ=>∃kv wv jv nv,ρ=[aD (.int (tP c)),aD (.int (m:Int)),aD (.str bM),aD (.int (l6 c:Int)),aD (.int (IH c:Int)),some (.lst (((List.range k).map λk=>cD c k (l6 c)).map .str),true),kv,wv,jv,nv]) ⟨none,none,none,none,?_⟩ ?_ ?_;have ha:c % (10:Int) ^ (12:Int).toNat / 7 % (1+c % (10:Int) ^ (12:Int).toNat % 7)=(IH c:Int):=by rw[hz,e12];exact (UM c).symm
 show [aD (T.int (c % (10:Int) ^ (12:Int).toNat)),_,_,aD (T.int (1+c % (10:Int) ^ (12:Int).toNat % 7)),aD (T.int (c % (10:Int) ^ (12:Int).toNat / 7 % (1+c % (10:Int) ^ (12:Int).toNat % 7))),_,_,_,_,_]=_;rw[ha,hz,e12];rfl;rintro k ρ hk ⟨kv,wv,jv,nv,rfl⟩;refine⟨by lia,by lia,?_⟩;refine eX (λj ρ=>∃jv nv,ρ=[aD (.int (tP c)),aD (.int (m:Int)),aD (.str bM),aD (.int (l6 c:Int)),aD (.int (IH c:Int)),some (.lst (((List.range k).map λk=>cD c k (l6 c)).map .str),true),aD (.int (0+(k:Int))),aD (.str (cD c k j)),jv,nv]) ⟨_,_,rfl⟩ ?_ ?_;rintro j ρ hj ⟨jv,nv,rfl⟩;have vz:j<l6 c:=by lia
 refine⟨⟨by decide,by decide⟩,⟨by show (0:Int)<0+(j:Int)+1;lia,by show 0+(j:Int)+1<1073741824;lia⟩,.inl ⟨by show -(2 ^ 64)<0+(j:Int);lia,by show 0+(j:Int)<2 ^ 64;lia⟩,?_⟩;have last:∀n:Int,n=Cq c k j->∃c',jc bM.cps.toList (n % 26)=some c'/\(cD c k j).length+(Str.mk #[c']).length<=sizeLine/\(cD c k j++⟨#[c']⟩)=cD c k (j+1):=by
  rintro n rfl;refine⟨_,rA _,?_,(yZ c k j).symm⟩;rw[iV,ς];show j+1<=16777216
  lia
 refine cN (λh=>?_) (λh=>?_);have hja:j=IH c:=by have h:(0:Int)+(j:Int)=(IH c:Int):=h;lia
 obtain⟨c',h1,h2,h3⟩:=last (tP c / 49 / (0+(j:Int)+1)+(0+(j:Int)) * (0+(j:Int))+(0+(k:Int))) (by unfold Cq;rw[ι hja];simp only[D0]);exact⟨by show (0:Int)<26;decide,fY,c',h1,h2,_,_,by rw[<- h3];rfl⟩;have hja:¬ j=IH c:=λz=>h (by show (0:Int)+(j:Int)=(IH c:Int);lia);obtain⟨c',h1,h2,h3⟩:=last (tP c / 49 / (0+(j:Int)+1)+(0+(j:Int)) * (0+(j:Int))) (by unfold Cq;rw[η hja];simp only[D0,Int.add_zero]);exact⟨by show (0:Int)<26;decide,fY,c',h1,h2,_,_,by rw[<- h3];rfl⟩;rintro ρ ⟨jv,nv,rfl⟩;refine⟨?_,aD (.int (0+(k:Int))),aD (.str (cD c k (l6 c))),jv,nv,?_⟩;rw[bX,bX,z8,ς];lia;rw[RS,p_,p_];rfl;rintro ρ ⟨kv,wv,jv,nv,rfl⟩;refine⟨⟨by decide,by decide⟩,(by show (0:Int)<3;decide),cN (λh=>?_) (λh=>?_)⟩;have hc:tP c / 49 % 3=1:=h;have e0:jc (((List.range m).map λk=>cD c k (l6 c)).map T.str) 0=some (T.str (cD c 0 (l6 c))):=by refine ai (j:=0) ?_;rw[fD,fD,Sx (by lia)];rfl
 refine⟨_,e0,⟨by decide,by decide⟩,(by show (0:Int)<26;decide),fY,_,rA _,?_,1,?_,?_⟩;rw[iV,ς];show l6 c+1<=16777216
 lia
 unfold yb;rw[ι (by decide),ι (by rw[bX,bX,z8];lia)];rfl;have e:(dH c m).map T.str=(((List.range m).map λk=>cD c k (l6 c)).map T.str).set 1 (T.str (cD c 0 (l6 c)++⟨#[l0 (tP c / 147)]⟩)):=by unfold dH;rw[ι hc,List.map_set]
 rw[e] at hq;exact hq;have hc:¬ tP c / 49 % 3=1:=h;have e:(dH c m).map T.str=(((List.range m).map λk=>cD c k (l6 c)).map T.str):=by unfold dH;rw[η hc]
 rw[e] at hq;exact hq
end
def gw(ts:Ψ)(q:qam):Prop:=∃(n:Int)(ys:ω),ts=[.int n,.lst (ys.map .str)]/\ys.length=6/\0<=n/\n<2147483648/\∀o,gY ys o->q (.vw (l7 o))
def Wn(ts:Ψ)(q:qam):Prop:=∃(n:Int)(ys:ω),ts=[.int n,.lst (ys.map .str)]/\ys.length=6/\(∀y∈ys,y.length<=100)/\0<=n/\n<2147483648/\∀k,Cr ys k->q (.vw (vD k))
def NO(ts:Ψ)(q:qam):Prop:=∃(n:Int)(x:Str)(ys:ω)(pl:Plan),ts=[.int n,.str x,.lst (ys.map .str),.lst (pl.map bw)]/\ys.length=6/\pl≠[]/\pl.length<=3/\(∀p∈pl,p.2.length<=4)/\x∈ys/\0<=n/\n<2147483648 /\
 ∀f as,iy ys pl (.call x f as)->q (.vw (aR (.call x f as)))
structure Given(ys:ω)(pl:Plan):Prop where
 y6:ys.length=6
 sm:∀y∈ys,y.length<=100
 p3:pl.length<=3
 p4:∀p∈pl,p.2.length<=4
def Bs(ts:Ψ)(q:qam):Prop:=∃(n:Int)(ys:ω)(pl:Plan),ts=[.int n,.lst (ys.map .str),.lst (pl.map bw)]/\Given ys pl/\0<=n/\n<2147483648/\∀r,iy ys pl r->q (.vw (aR r))
section
noncomputable abbrev Dj:ω:=qaF
def pT:aJ Dj qaF (aq mE):=L2.il
def zO(D:Df K mg "_law_operand" mE qaF f fd):cC P w K mg base "_law_operand" qaF 1 (cM K 2 gw):=by
 refine D.ic (kr D.F pT rfl λbP A outer s H E Ox hr ts q hG=>?_);have nd:=pT.nd;have hu:=bA.eD hr;refine⟨_,(ag (bf (vX (ο (bq (ae 0) (ο af))) (ο af))
    (ak (aH (fv (ay (ae 1) (ο (bq (ο (bu (ae 0) (ο af))) (ο af)))))))
    aI)
   (ag (bf (bz hu (ο (bq (ae 0) (ο af))) (ο af))
     (ak (aH (fv (oG (ο (bq (ο (cu (ο (fU (ο (fU (ae 0) (ο af))) (ο (lN (ο af) (ο af))))) (ae 0))) (ο (fU (ο af) (ο (lN (ο af) (ο af))))))) (ο (lN (ο af) (ο af)))))))
     aI)
   (ak (aH (fv (oG (ο (bq (ο (bu (ae 0) (ο af))) (ο af))) (ο af))))))),λ_=>?_⟩
 obtain⟨n,ys,rfl,DS,Qp,QG,hq⟩:=hG;refine⟨(by show (0:Int)<3;decide),cN (λ_=>?_) (λ_=>?_)⟩;obtain⟨y,hy,e⟩:=kA DS (n:=n / 3) (m:=4) (by decide) (by decide);exact⟨⟨by decide,by decide⟩,(by show (0:Int)<4;decide),_,e,hq (.nm y) hy⟩;refine⟨(by show (0:Int)<15;decide),cN (λ_=>?_) (λ_=>?_)⟩;refine⟨.inr ⟨by decide,by decide⟩,⟨by decide,by decide,by decide⟩,.inl ⟨by show -(2 ^ 64:Int)<n * 1000003;lia,by show n * 1000003<(2 ^ 64:Int);lia⟩,⟨by decide,by decide,by decide⟩,.inl ⟨by decide,by decide⟩,(by show (0:Int)<2 * 10 ^ (30:Int).toNat;decide),⟨by decide,by decide,by decide⟩,hq (.nu _) ?_⟩;show -1000000000000000000000000000000<=(n * 1000003 * 10 ^ (20:Int).toNat+n) % (2 * 10 ^ (30:Int).toNat)-10 ^ (30:Int).toNat/\(n * 1000003 * 10 ^ (20:Int).toNat+n) % (2 * 10 ^ (30:Int).toNat)-10 ^ (30:Int).toNat<1000000000000000000000000000000;rw[UO];have h0:=qf (n * 1000003 * 10 ^ (20:Int).toNat+n) (show (2 * 1000000000000000000000000000000:Int)≠0 by decide);have h1:=qT (n * 1000003 * 10 ^ (20:Int).toNat+n) (show (0:Int)<2 * 1000000000000000000000000000000 by decide);exact⟨by lia,by lia⟩;refine⟨⟨by decide,by decide⟩,(by show (0:Int)<9;decide),hq (.nu _) ?_⟩;show -1000000000000000000000000000000<=n / 3 % 9-4/\n / 3 % 9-4<1000000000000000000000000000000;have h0:=qf (n / 3) (show (9:Int)≠0 by decide);have h1:=qT (n / 3) (show (0:Int)<9 by decide);exact⟨by lia,by lia⟩
abbrev Wo:ω:=qaF
def Ht:aJ Wo qaF (aq Ho):=L2.il
def Q_(D:Df K mg "_law_key" Ho qaF f fd)(c1:cC P w K mg base "_law_operand" qaF 1 (cM K 2 gw)):cC P w K mg base "_law_key" qaF 2 (cM K 2 Wn):=by
 obtain⟨i9,gR,bT,bU,bV,bW⟩:=c1;refine D.ic (kr D.F Ht rfl λbP A outer s H E Ox hr ts q hG=>?_);have nd:=Ht.nd;have hu:=bA.eD hr;refine⟨_,(ag (bf (bz hu (ο (bq (ae 0) (ο af))) (ο af))
    (ak (aH (fv (cu (ο ax) (ο (ay (ae 1) (ο (bq (ο (bu (ae 0) (ο af))) (ο af)))))))))
    aI)
   (ak (aH (fv (cx bW (hr.mono (by decide)) (by rfl) bT bU bV (aa (χ (bu (ae 0) (ο af))) (aa (ah 1) aj))))))),λ_=>?_⟩
 obtain⟨n,ys,rfl,DS,hsm,Qp,QG,hq⟩:=hG;refine⟨(by show (0:Int)<2;decide),cN (λ_=>?_) (λ_=>?_)⟩;obtain⟨y,hy,e⟩:=kA DS (n:=n / 2) (m:=2) (by decide) (by decide);refine⟨⟨by decide,by decide⟩,(by show (0:Int)<2;decide),_,e,?_,hq (.fld y) hy⟩;rw[ZL,ς];have:=hsm y hy
 lia
 exact⟨⟨by decide,by decide⟩,rfl,_,ys,rfl,DS,by show 0<=n / 2;lia,by show n / 2<2147483648;lia,λo ho=>hq (.op o) ho⟩
noncomputable abbrev Ra:ω:=["_law_number","_law_name","_law_words_here","_law_later","_law_other","_law_parameters","_law_operands","_law_k"]
def Bt:aJ Ra qaG (aq s_call):=L2.il
def L3(D:Df K mg "_law_call" s_call qaG f fd)(M:Q9 mg)(c1:cC P w K mg base "_law_operand" qaF 1 (cM K 2 gw)) :
  cC P w K mg base "_law_call" qaG 2 (cM K 4 NO):=by
 obtain⟨i9,gR,bT,bU,bV,bW⟩:=c1;refine D.ic (kr D.F Bt rfl λbP A outer s H E Ox hr ts q hG=>?_);have nd:=Bt.nd;have np:∀{i:Nat},bh ⟨H,[],Ox⟩ i:=ie;refine⟨_,(ag (sW (χ (ay (ae 3) (ο (bq (ae 0) (ο (aY ba bb (by rfl) M.len nA (aM (ae 3) aX))))))) (dc (n:=2) rfl (aN (aC (i:=4) nd rfl (.inl rfl) np) (aN (aC (i:=5) nd rfl (.inl rfl) np) cw))))
   (ag (cJ (i:=6) nd rfl (.inl rfl) (fv (bO aj)) np)
   (ag (cZ nz rfl (cV (by rfl) M.range (ο (aY ba bb (by rfl) M.len nA (aM (ae 5) aX)))) (aC (i:=7) nd rfl (.inl rfl) np)
     (ak (bp (cA 6 mM mO aS aO (aa (χ (cx bW (hr.mono (by decide)) (by rfl) bT bU bV (aa (χ (bu (ae 0) (ο (cu (ο (aY ba bb (by rfl) M.len nA (aM (ae 3) aX))) (ae 7))))) (aa (ah 2) aj)))) aj)))))
   (ak (aH (fv (aP (aa (χ ax) (aa (ah 1) (aa (ah 4) (aa (χ (gj jl mW (by rfl) M.tuple nI (aM (ae 6) aX))) aj))))))))))),λ_=>?_⟩
 obtain⟨n,x,ys,pl,rfl,DS,gf,hp3,hp4,hx,Qp,QG,hq⟩:=hG;have acy:0<pl.length:=by cases pl with|nil=>exact absurd rfl gf|cons a r=>simp
 have eL:((pl.map bw).length:Int)=pl.length:=by rw[bX]
 have h0:0<=n % ((pl.map bw).length:Int):=qf n (by lia);have h1:n % ((pl.map bw).length:Int)<pl.length:=by rw[eL];exact qT n (by lia)
 obtain⟨j,hj⟩:=p9 h0;have Qq:j<pl.length:=by lia
 obtain⟨p,hp⟩:∃p:Str×ω,p=pl[j]:=⟨_,rfl⟩;obtain⟨fn,ps⟩:=p;have Wq:(fn,ps)∈pl:=by rw[hp];exact RN Qq
 have hps:ps.length<=4:=hp4 _ Wq;refine⟨(by show (0:Int)<((pl.map bw).length:Int);lia),bw (fn,ps),?_,rfl,?_⟩;rw[hj];refine ai ?_;rw[fD,jj Qq,<- hp];rfl;refine⟨rfl,h_ _,by lia,by show ((ps.map T.str).length:Int)<2 ^ 62;rw[bX];lia,?_⟩;refine eX (λk ρ=>∃kv os as,ρ=[aD (.int n),aD (.str x),aD (.lst (ys.map .str)),aD (.lst (pl.map bw)),aD (.str fn),aD (.tup (ps.map .str)),some (.lst os,true),kv]/\os=as.map l7/\as.length=k/\∀a∈as,gY ys a)
  ⟨none,[],[],rfl,rfl,rfl,λ_ z=>nomatch z⟩ ?_ ?_
 rintro k ρ hk ⟨kv,_,as,rfl,rfl,rfl,yG⟩;have P_:as.length<ps.length:=by rw[bX,lh] at hk;exact hk
 clear hk;refine⟨⟨by show (0:Int)<((pl.map bw).length:Int)+(0+(as.length:Int));lia,by show ((pl.map bw).length:Int)+(0+(as.length:Int))<1073741824;lia⟩,rfl,_,ys,rfl,DS,?_,?_,λo ho=>⟨?_,_,_,as++[o],rfl,?_,by simp,λa ha=>?_⟩⟩;exact Int.ediv_nonneg Qp (by lia);exact Int.lt_of_le_of_lt (Int.ediv_le_self _ Qp) QG;rw[bX,ς];lia;rw[p_];rfl;rcases gx.mp ha with z|z
 exact yG a z;rw[hY.mp z];exact ho;rintro ρ ⟨kv,_,as,rfl,rfl,hlen,yG⟩;refine⟨by show 4<=sizeLine;rw[ς];decide,hq fn as ⟨hx,⟨ps,Wq,?_⟩,yG⟩⟩;rw[hlen,bX];rfl
end
def fits(h:n<=1001):n<sizeLine:=by rw[ς];lia
def bJ(h:n<=8):n<=sizeLine:=small (by lia)
noncomputable def CP(q:qam)(n:Int)(ys:ω)(pl:Plan)(y z:Str):FS:=λd ρ=>(∃wv,ρ=[aD (.int n),aD (.lst (ys.map .str)),aD (.lst (pl.map bw)),aD (.int (n % 13)),aD (.str y),aD (.str z),aD (.int (n / 208)),wv])/\∀ρ r,q r->d.rt ρ r
noncomputable def Wr:GT:=λts q=>∃(rs:qal)(bN:ω)(c:Int)(ys:ω)(pl:Plan),ts=[.lst (rs.map aR),.lst (bN.map .str),.int c,.lst (ys.map .str),.lst (pl.map bw)]/\Given ys pl/\rs.length<=1000/\bN.length<=1000 /\
 ∀new c8,l8 ys pl bN new c8->q [.lst ((rs++new).map aR),.lst (c8.map .str)] (.vw .bB)
section
noncomputable abbrev Hu:ω:=["_law_number","_law_words_here","_law_later","_law_kind","_law_name","_law_other","_law_rest","_law_word"]
def rZ:aJ Hu qaH (aq pR):=L2.il
theorem Dk(D:Df K mg "_law_simple" pR qaH f fd)(c1:cC P w K mg base "_law_operand" qaF 1 (cM K 2 gw))(c2:cC P w K mg base "_law_key" qaF 2 (cM K 2 Wn))(c3:cC P w K mg base "_law_call" qaG 2 (cM K 4 NO)) :
  cC P w K mg base "_law_simple" qaH 3 (cM K 3 Bs):=by
 obtain⟨i9,gR,bT,bU,bV,bW⟩:=c1;obtain⟨acP,acE,NP,NQ,NR,NS⟩:=c2;obtain⟨acF,X0,Rb,Rc,Rf,Rg⟩:=c3;refine D.ic (kr D.F rZ rfl λbP A outer s H E Ox hr ts q hG=>?_);have nd:=rZ.nd;have hu:=bA.eD hr;have np:∀{i:Nat},bh ⟨H,[],Ox⟩ i:=ie;obtain⟨n,ys,pl,rfl,G,Qp,QG,hq⟩:=hG;obtain⟨y,hy,ey⟩:=kA G.y6 (n:=n / 13) (m:=4) (by decide) (by decide);obtain⟨z,hz,ez⟩:=kA G.y6 (n:=n / 52) (m:=4) (by decide) (by decide);refine⟨_,(ag (aK (i:=3) nd rfl (.inl rfl) (fv (bq (ae 0) (ο af))) np)
   (ag (aK (i:=4) nd rfl (.inl rfl) (fv (ay (ae 1) (ο (bq (ο (bu (ae 0) (ο af))) (ο af))))) np)
   (ag (aK (i:=5) nd rfl (.inl rfl) (fv (ay (ae 1) (ο (bq (ο (bu (ae 0) (ο af))) (ο af))))) np)
   (ag (aK (i:=6) nd rfl (.inl rfl) (fv (bu (ae 0) (ο af))) np)
   (ag (bf (mV (ae 3) (ο af))
     (ak (aH (fv (aP (aa (χ ax) (aa (ah 4) (aa (χ (cx bW (hr.mono (by decide)) (by rfl) bT bU bV (aa (ah 6) (aa (ah 1) aj)))) aj)))))))
     aI)
   (ag (bf (mV (ae 3) (ο af))
     (ag (aK (i:=7) nd rfl (.inl rfl) (fv (ay (ο (bO (aa (χ ax) (aa (χ ax) (aa (χ ax) (aa (χ ax) (aa (χ ax) (aa (χ ax) (aa (χ ax) aj))))))))) (ο (bq (ae 6) (ο af))))) np)
     (ak (aH (fv (aP (aa (χ ax) (aa (ah 4) (aa (χ (cx bW (hr.mono (by decide)) (by rfl) bT bU bV (aa (χ (bu (ae 6) (ο af))) (aa (ah 1) aj)))) (aa (ah 7) (aa (χ (cx bW (hr.mono (by decide)) (by rfl) bT bU bV (aa (χ (bu (ae 6) (ο af))) (aa (ah 1) aj)))) aj))))))))))
     aI)
   (ag (bf (bz hu (ae 3) (ο af))
     (ak (aH (fv (aP (aa (χ ax) (aa (ah 4) aj))))))
     aI)
   (ag (bf (mV (ae 3) (ο af))
     (ak (aH (fv (aP (aa (χ ax) (aa (ah 4) (aa (ah 5) (aa (χ (cx NS (hr.mono (by decide)) (by rfl) NP NQ NR (aa (ah 6) (aa (ah 1) aj)))) aj))))))))
     aI)
   (ag (bf (mV (ae 3) (ο af))
     (ak (aH (fv (aP (aa (χ ax) (aa (ah 5) (aa (χ (cx NS (hr.mono (by decide)) (by rfl) NP NQ NR (aa (ah 6) (aa (ah 1) aj)))) (aa (χ (cx bW (hr.mono (by decide)) (by rfl) bT bU bV (aa (χ (bu (ae 6) (ο af))) (aa (ah 1) aj)))) aj))))))))
     aI)
   (ag (bf (VW.vc (c_ (bz hu (ae 3) (ο af)) (cK (kh hu (ae 2) (ο (bO aj))))))
     (ak (aH (fv (cx Rg (hr.mono (by decide)) (by rfl) Rb Rc Rf (aa (ah 6) (aa (ah 4) (aa (ah 1) (aa (ah 2) aj))))))))
     aI)
   (ir.weak (u:=(CP q n ys pl y z)) (ag (bf (VW.vc (c_ (bz hu (ae 3) (ο af)) (cK (bz hu (ο (bq (ae 6) (ο af))) (ο af)))))
     (ak (aH (fv (aP (aa (χ ax) (aa (χ (ay (ae 1) (ο (cu (ο af) (ο (bq (ο (bu (ae 6) (ο af))) (ο af))))))) aj))))))
     aI)
   (ag (bf (VW.vc (c_ (bz hu (ae 3) (ο af)) (cK (bz hu (ο (bq (ae 6) (ο af))) (ο af)))))
     (ak (aH (fv (aP (aa (χ ax) aj)))))
     aI)
   (ak (aH (fv (aP (aa (χ ax) (aa (ah 4) (aa (ah 5) aj))))))))) ?w_cutS))))))))))),λ_=>?_⟩
 case w_cutS=>
  rintro d ρ ⟨⟨wv,rfl⟩,kk⟩;have fin:=kk;refine cN (λ_=>?_) (λ_=>?_);refine⟨(by show (0:Int)<3;decide),cN (λ_=>?_) (λ_=>?_)⟩;obtain⟨x,hx,ex⟩:=y3 G.y6 (n / 208 / 3);exact⟨⟨by decide,by decide⟩,(by show (0:Int)<2;decide),_,ex,bJ (by simp),kk _ _ (hq (.fail x) hx)⟩;refine cN (λ_=>?_) (λ_=>⟨bJ (by simp),kk _ _ (hq (.put y (.nm z)) ⟨hy,hz⟩)⟩);exact⟨(by show (0:Int)<2;decide),cN (λ_=>⟨bJ (by simp),kk _ _ (hq .skip trivial)⟩) (λ_=>⟨bJ (by simp),kk _ _ (hq (.put y (.nm z)) ⟨hy,hz⟩)⟩)⟩;refine jL rfl (cN (λ_=>?_) (λ_=>jL rfl ⟨bJ (by simp),kk _ _ (hq (.put y (.nm z)) ⟨hy,hz⟩)⟩));exact⟨(by show (0:Int)<2;decide),cN (λ_=>⟨bJ (by simp),kk _ _ (hq .skip trivial)⟩) (λ_=>⟨bJ (by simp),kk _ _ (hq (.put y (.nm z)) ⟨hy,hz⟩)⟩)⟩
 have m0:0<=n / 208:=by lia
 have m1:n / 208<2147483648:=by lia
 have dv:∀e:Int,0<e->0<=n / 208 / e/\n / 208 / e<2147483648:=λe he=>⟨Int.ediv_nonneg m0 (by lia),Int.lt_of_le_of_lt (Int.ediv_le_self _ m0) m1⟩;refine⟨(by show (0:Int)<13;decide),⟨by decide,by decide⟩,(by show (0:Int)<4;decide),_,ey,⟨by decide,by decide⟩,(by show (0:Int)<4;decide),_,ez,⟨by decide,by decide⟩,?_⟩;refine cN (λ_=>?_) (λ_=>?_);exact⟨rfl,_,ys,rfl,G.y6,m0,m1,λo ho=>⟨bJ (by simp),hq (.put y o) ⟨hy,ho⟩⟩⟩;refine cN (λ_=>?_) (λ_=>?_);obtain⟨op,XR,eop⟩:=UR (n / 208);exact⟨bJ (by simp),(by show (0:Int)<7;decide),_,eop,⟨by decide,by decide⟩,rfl,_,ys,rfl,G.y6,(dv 7 (by decide)).1,(dv 7 (by decide)).2,λo ho=>⟨⟨by decide,by decide⟩,rfl,_,ys,rfl,G.y6,(dv 420 (by decide)).1,(dv 420 (by decide)).2,λo2 DH=>⟨bJ (by simp),hq (.Fe y o op o2) ⟨hy,ho,XR,DH⟩⟩⟩⟩;refine cN (λ_=>⟨bJ (by simp),hq (.new y) hy⟩) (λ_=>?_);refine cN (λ_=>?_) (λ_=>?_);exact⟨rfl,_,ys,rfl,G.y6,G.sm,m0,m1,λk hk=>⟨bJ (by simp),hq (.get y z k) ⟨hy,hz,hk⟩⟩⟩;refine cN (λ_=>?_) (λ_=>?_);exact⟨rfl,_,ys,rfl,G.y6,G.sm,m0,m1,λk hk=>⟨⟨by decide,by decide⟩,rfl,_,ys,rfl,G.y6,(dv 90 (by decide)).1,(dv 90 (by decide)).2,λo ho=>⟨bJ (by simp),hq (.set z k o) ⟨hz,hk,ho⟩⟩⟩⟩;refine cN (λ_=>?_) (λ_=>jL rfl ⟨⟨_,rfl⟩,λ_ _ h=>h⟩);refine⟨h_ _,wu pl,rfl,Cs pl,?_⟩;cases pl with
 |nil=>exact jL rfl ⟨⟨_,rfl⟩,λ_ _ h=>h⟩
 |cons p pl=>exact Ci rfl ⟨rfl,_,y,ys,p::pl,rfl,G.y6,by simp,G.p3,G.p4,hy,m0,m1,λfn as hs=>hq _ hs⟩
end
noncomputable def Hv(q:Ψ->qam)(rs:qal)(bN:ω)(c n mv:Int)(ys:ω)(pl:Plan):FS:=λd ρ=>(∃nv,ρ=[some (.lst (rs.map aR),true),some (.lst (bN.map .str),true),aD (.int c),aD (.lst (ys.map .str)),aD (.lst (pl.map bw)),aD (.int n),aD (.int mv),nv]) /\
 ∀ρ,q (kj [true,true,false,false,false] ρ) (.vw .bB)->d.nx ρ
def pU(l:ω):plainT (.lst (l.map .str))=true:=by simp only[plainT];exact de (λ_=>by simp[plainT]) l
def xJ(l:ω):dep (.lst (l.map .str))<=100:=by have:=eY (f:=T.str) (n:=0) (λ_=>by simp[dep]) l;simp only[dep];lia
section
noncomputable abbrev Ws:ω:=["_law_rows","_law_stack","_law_cell","_law_words_here","_law_later","_law_number","_law_move","_law_name"]
def Hw:aJ Ws qaI (aq Hq):=L2.il
def Rh(D:Df K mg "_law_lay" Hq qaI f fd)(M:Q9 mg)(c1:cC P w K mg base "_law_operand" qaF 1 (cM K 2 gw))(c2:cC P w K mg base "_law_simple" qaH 3 (cM K 3 Bs)) :
  cC P w K mg base "_law_lay" qaI 4 (qv K [true,true,false,false,false] Wr):=by
 obtain⟨i9,gR,bT,bU,bV,bW⟩:=c1;obtain⟨Wu,Sl,Hx,Hy,Hz,HA⟩:=c2;refine D.ic (Zs D.F Hw rfl λbP A outer s H E as Ox hr ts q hl hG=>?_);have nd:=Hw.nd;have hu:=bA.eD hr;obtain⟨rs,bN,c,ys,pl,rfl,G,A4,hs1,hq⟩:=hG;have n0:0<=c / 8 * 48271 % 2147483647:=qf _ (by decide);have n1:c / 8 * 48271 % 2147483647<2147483647:=qT _ (by decide);have n2:c / 8 * 48271 % 2147483647<2147483648:=by lia
 have d3:0<=c / 8 * 48271 % 2147483647 / 3/\c / 8 * 48271 % 2147483647 / 3<2147483648:=⟨by lia,by lia⟩;have Dl:(rs.map aR).length<sizeLine:=by rw[bX];exact fits (by lia)
 have Wv:(bN.map T.str).length<sizeLine:=by rw[bX];exact fits (by lia)
 have one:∀{r:Rw}{c8:ω},l8 ys pl bN [r] c8->q [.lst (rs.map aR++[aR r]),.lst (c8.map .str)] (.vw .bB):=λ{r c8} h=>by have:=hq [r] c8 h;rw[p_] at this;exact this
 have push:∀x:Str,(bN++[x]).map T.str=bN.map T.str++[T.str x]:=λx=>by rw[p_];rfl
 refine⟨_,(ag (aK (i:=5) nd rfl (.inl rfl) (fv (bq (ο (fU (ο (bu (ae 2) (ο af))) (ο af))) (ο af))) (AE (by decide)))
   (ag (aK (i:=6) nd rfl (.inl rfl) (fv (bq (ae 2) (ο af))) (AE (by decide)))
   (ir.weak (u:=(Hv q rs bN c (c / 8 * 48271 % 2147483647) (c % 8) ys pl)) (ak (bf (VW.vc (c_ (bz hu (ae 6) (ο af)) (cK (mV (ο (aY ba bb (by rfl) M.len nA (aM (ae 1) aX))) (ο af)))))
     (ag (bp (cA 0 mM mO aS aO (aa (χ (aP (aa (χ ax) (aa (χ (cx bW (hr.mono (by decide)) (by rfl) bT bU bV (aa (ah 5) (aa (ah 3) aj)))) aj)))) aj)))
     (ak (bp (cA 1 mM mO aS aO (aa (χ ax) aj)))))
     (ir.weak (u:=(Hv q rs bN c (c / 8 * 48271 % 2147483647) (c % 8) ys pl)) (ak (bf (VW.vc (c_ (bz hu (ae 6) (ο af)) (cK (mV (ο (aY ba bb (by rfl) M.len nA (aM (ae 1) aX))) (ο af)))))
       (ag (bp (cA 1 mM mO aS aO (aa (χ ax) aj)))
       (ak (bf (bz hu (ο (bq (ae 5) (ο af))) (ο af))
         (ak (bp (cA 0 mM mO aS aO (aa (χ (aP (aa (χ ax) (aa (χ (cx bW (hr.mono (by decide)) (by rfl) bT bU bV (aa (χ (bu (ae 5) (ο af))) (aa (ah 3) aj)))) aj)))) aj))))
         (ag (aK (i:=7) nd rfl (.inl rfl) (fv (ay (ae 3) (ο (bq (ο (bu (ae 5) (ο af))) (ο af))))) (AE (by decide)))
         (ag (bp (cA 0 mM mO aS aO (aa (χ (aP (aa (χ ax) (aa (ah 7) aj)))) aj)))
         (ak (bp (cA 0 mM mO aS aO (aa (χ (aP (aa (χ ax) (aa (ah 7) (aa (ah 7) (aa (χ ax) (aa (χ af) aj))))))) aj)))))))))
       (ir.weak (u:=(Hv q rs bN c (c / 8 * 48271 % 2147483647) (c % 8) ys pl)) (ak (bf (VW.vc (c_ (bz hu (ae 6) (ο af)) (c_ (kh hu (ae 1) (ο (bO aj))) (cK (bz hu (ο (ay (ae 1) (ο (oH (ο af))))) (ο ax))))))
         (ag (bp (cA 0 mM mO aS aO (aa (χ (aP (aa (χ ax) aj))) aj)))
         (ak (fW 1 (χ ax) (ο (oH (ο af))))))
         (ir.weak (u:=(Hv q rs bN c (c / 8 * 48271 % 2147483647) (c % 8) ys pl)) (ak (bf (VW.vc (c_ (bz hu (ae 6) (ο af)) (cK (kh hu (ae 1) (ο (bO aj))))))
           (ag (bp (cA 0 mM mO aS aO (aa (χ (aP (aa (χ ax) aj))) aj)))
           (ak (bp (ET 1 PySem.F.slot_list_pop PySem.F.type_list_pop Et Au))))
           (ir.weak (u:=(Hv q rs bN c (c / 8 * 48271 % 2147483647) (c % 8) ys pl)) (ak (bp (cA 0 mM mO aS aO (aa (χ (cx HA (hr.mono (by decide)) (by rfl) Hx Hy Hz (aa (ah 5) (aa (ah 3) (aa (ah 4) aj))))) aj)))) ?w5))) ?w4))) ?w3))) ?w2))) ?w1))),?_⟩
 case w5=>
  rintro d ρ ⟨⟨nv,rfl⟩,kk⟩;exact⟨rfl,_,ys,pl,rfl,G,n0,n2,λr hs=>⟨Dl,kk _ (one (.inr (.inr (.inr (.inr (.inr ⟨r,hs,rfl,rfl⟩))))))⟩⟩
 case w4=>
  rintro d ρ ⟨⟨nv,rfl⟩,kk⟩;refine cN (λ_=>?_) (λ_=>jL rfl ⟨⟨nv,rfl⟩,kk⟩);refine⟨h_ _,pU bN,rfl,xJ bN,?_⟩;rcases List.eq_nil_or_concat bN with e|⟨s0,x,e⟩
  subst e;exact jL rfl ⟨⟨nv,rfl⟩,kk⟩;have en:eqT (.lst (bN.map .str)) (.lst [])=false:=by rw[e];cases s0<;>simp[eqT,fR]
  refine Ci (by show (!eqT (.lst (bN.map .str)) (.lst []))=true;rw[en];rfl) ⟨bJ (by simp),Dl,rfl,T.str x,?_,?_⟩;rw[e];simp;have e2:(bN.map T.str).dropLast=s0.map T.str:=by rw[e];simp
  refine kk _ ?_;show q [.lst (rs.map aR++[aR .fin]),.lst ((bN.map T.str).dropLast)] _;rw[e2];exact one (.inr (.inr (.inr (.inr (.inl ⟨s0,x,by rw[e,List.concat_eq_append],rfl,rfl⟩)))))
 case w3=>
  rintro d ρ ⟨⟨nv,rfl⟩,kk⟩;refine cN (λ_=>?_) (λ_=>jL rfl ⟨⟨nv,rfl⟩,kk⟩);refine⟨h_ _,pU bN,rfl,xJ bN,?_⟩;rcases List.eq_nil_or_concat bN with e|⟨s0,x,e⟩
  subst e;exact jL rfl (jL rfl ⟨⟨nv,rfl⟩,kk⟩);have en:eqT (.lst (bN.map .str)) (.lst [])=false:=by rw[e];cases s0<;>simp[eqT,fR]
  have ex:jc (bN.map T.str) (-1)=some (T.str x):=by rw[e,List.concat_eq_append,p_];exact oq _ _
  refine Ci (by show (!eqT (.lst (bN.map .str)) (.lst []))=true;rw[en];rfl) ⟨_,ex,cN (λhx=>?_) (λ_=>⟨⟨nv,rfl⟩,kk⟩)⟩;have R3:x="if":=hx;subst R3;have hl1:(bN.map T.str).length=s0.length+1:=by rw[e];simp
  refine⟨bJ (by simp),Dl,s0.length,?_,kk _ ?_⟩;unfold yb;rw[hl1,η (by decide),ι (by lia)]
  congr 1
  lia
  have e2:(bN.map T.str).set s0.length (T.str "else")=(s0++([("else":Str)]:ω)).map T.str:=by rw[e];simp
  show q [.lst (rs.map aR++[aR .yc]),.lst ((bN.map T.str).set s0.length (T.str "else"))] _;rw[e2];exact one (.inr (.inr (.inr (.inl ⟨s0,by rw[e];simp,rfl,rfl⟩))))
 case w2=>
  rintro d ρ ⟨⟨nv,rfl⟩,kk⟩;refine cN (λ_=>?_) (λ_=>jL rfl ⟨⟨nv,rfl⟩,kk⟩);refine cN (λ_=>?_) (λ_=>⟨⟨nv,rfl⟩,kk⟩);refine⟨Wv,(by show (0:Int)<3;decide),cN (λ_=>?_) (λ_=>?_)⟩;refine⟨⟨by decide,by decide⟩,rfl,_,ys,rfl,G.y6,d3.1,d3.2,λo ho=>⟨bJ (by simp),Dl,kk _ ?_⟩⟩;have:=one (r:=.yd o) (.inr (.inl ⟨o,ho,rfl,rfl⟩));rw[push] at this;exact this;obtain⟨y,hy,ey⟩:=kA G.y6 (n:=c / 8 * 48271 % 2147483647 / 3) (m:=4) (by decide) (by decide);refine⟨⟨by decide,by decide⟩,(by show (0:Int)<4;decide),_,ey,bJ (by simp),Dl,bJ (by simp),?_,kk _ ?_⟩;rw[nX,bX];exact fits (by simp;lia);have:=hq [.yd (.nm y),.Fe y (.nm y) "minus" (.nu 1)] _ (.inr (.inr (.inl ⟨y,hy,rfl,rfl⟩)));rw[push,p_] at this;show q [.lst ((rs.map aR++[aR (.yd (.nm y))])++[aR (.Fe y (.nm y) "minus" (.nu 1))]),_] _;rw[DX];exact this
 case w1=>
  rintro d ρ ⟨⟨nv,rfl⟩,kk⟩;refine cN (λ_=>?_) (λ_=>jL rfl ⟨⟨nv,rfl⟩,kk⟩);refine cN (λ_=>?_) (λ_=>⟨⟨nv,rfl⟩,kk⟩);refine⟨rfl,_,ys,rfl,G.y6,n0,n2,λo ho=>⟨bJ (by simp),Dl,Wv,kk _ ?_⟩⟩;have:=one (r:=.II o) (.inl ⟨o,ho,rfl,rfl⟩);rw[push] at this;exact this
 exact⟨⟨by decide,by decide⟩,.inr ⟨by decide,by decide⟩,(by show (0:Int)<2147483647;decide),(by show (0:Int)<8;decide),⟨none,rfl⟩,λ_ h=>h⟩
end
def uP(ys:ω)(pl:Plan):Prop:=∀(k:Nat) f ps,pl[k]?=some (f,ps)->ys[k]?=some f/\∃(a:Int)(r:Nat),r<=4/\ps=(List.range r).map λj=>ys.getD ((a+((j:Nat):Int)) % 4).toNat Str.empty
def NT(ts:Ψ)(q:qam):Prop:=∃(c:Int)(ys:ω),ts=[.int c,.lst (ys.map .str)]/\ys.length=6/\∀pl,uP ys pl->1<=pl.length->pl.length<=3->q (.fr (.lst (pl.map bw)))
section
noncomputable abbrev HB:ω:=["_law_cell","_law_words_here","_law_number","_law_plan_here","_law_k","_law_parameters"]
def Bu:aJ HB qaJ (aq zM):=L2.il
def zP:(HB++(["_law_j"]:ω)).Nodup:=by decide +kernel
def L4(D:Df K mg "_law_plan" zM qaJ f fd)(M:Q9 mg):cC P w K mg base "_law_plan" qaJ 1 (cM K 2 NT):=by
 refine D.ic (kr D.F Bu rfl λbP A outer s H E Ox hr ts q hG=>?_);have nd:=Bu.nd;have np:∀{i:Nat},bh ⟨H,[],Ox⟩ i:=ie;refine⟨_,(ag (aK (i:=2) nd rfl (.inr rfl) (fv (bq (ae 0) (ο (lN (ο af) (ο af))))) np)
  (ag (cJ (i:=3) nd rfl (.inl rfl) (fv (bO aj)) np)
  (ag (cZ nz rfl (cV (by rfl) M.range (ο (cu (ο af) (ο (bq (ae 2) (ο af)))))) (aC (i:=4) nd rfl (.inl rfl) np)
   (ag (aK (i:=2) nd rfl (.inr rfl) (fv (bq (ο (cu (ο (cu (ο (fU (ae 2) (ae 2))) (ο (fU (ο af) (ae 2))))) (ae 4))) (ο af))) np)
   (ag (Ax (i:=5) (ts:=["_law_j"]) nd rfl (.inl rfl) rfl (by rfl) (cV (by rfl) M.range (ο (bq (ae 2) (ο af)))) (λ_ _ _ _ _ _=>(aC (i:=6) zP rfl (.inl rfl) np)) (λ_ _ _ _ _ _=>nG) (λ_ _ _ _ _ _=>(χ (ay (ae 1) (ο (bq (ο (cu (ο (bu (ae 2) (ο af))) (ae 6))) (ο af)))))) np)
   (ak (bp (cA 3 mM mO aS aO (aa (χ (aP (aa (χ (ay (ae 1) (ae 4))) (aa (χ (gj jl mW (by rfl) M.tuple nI (aM (ae 5) aX))) aj)))) aj)))))))
  (ak (aH (fJ 3 np)))))),λ_=>?_⟩
 obtain⟨c,ys,rfl,DS,hq⟩:=hG;refine⟨⟨by decide,by decide,by decide⟩,(by show (0:Int)<10 ^ (9:Int).toNat;decide),h_ _,(by show (0:Int)<3;decide),?_⟩;have m0:0<=c % (10:Int) ^ (9:Int).toNat:=qf _ (by decide);have m1:c % (10:Int) ^ (9:Int).toNat<1000000000:=by rw[UP];exact qT _ (by decide)
 have t0:0<=c % (10:Int) ^ (9:Int).toNat % 3:=qf _ (by decide);have t1:c % (10:Int) ^ (9:Int).toNat % 3<3:=qT _ (by decide);refine⟨(by show -(2 ^ 62:Int)<=1+c % 10 ^ (9:Int).toNat % 3;lia),(by show 1+c % 10 ^ (9:Int).toNat % 3<(2 ^ 62:Int);lia),?_⟩;refine eX (λk ρ=>∃n kv pv ts pl,ρ=[aD (.int c),aD (.lst (ys.map .str)),aD (.int n),some (.lst ts,true),kv,pv]/\ts=pl.map bw/\0<=n/\n<2147483648/\pl.length=k/\uP ys pl)
  ⟨_,none,none,_,[],rfl,rfl,m0,by lia,rfl,λk f ps e=>by simp at e⟩ ?_ ?_
 rintro k ρ hk ⟨n,kv,pv,_,pl,rfl,rfl,p0,p1,rfl,bF⟩;have hk3:pl.length<3:=by lia
 refine⟨.inl ⟨by lia,by lia⟩,.inl ⟨by decide,by decide⟩,(by show (0:Int)<2147483647;decide),rfl,(by show (0:Int)<5;decide),?_⟩;have g0:0<=(n * n+48271 * n+(0+(pl.length:Int))) % 2147483647:=qf _ (by decide);have g1:(n * n+48271 * n+(0+(pl.length:Int))) % 2147483647<2147483647:=qT _ (by decide);have u0:0<=(n * n+48271 * n+(0+(pl.length:Int))) % 2147483647 % 5:=qf _ (by decide);have u1:(n * n+48271 * n+(0+(pl.length:Int))) % 2147483647 % 5<5:=qT _ (by decide);refine⟨(by show -(2 ^ 62:Int)<=(n * n+48271 * n+(0+(pl.length:Int))) % 2147483647 % 5;lia),(by show (n * n+48271 * n+(0+(pl.length:Int))) % 2147483647 % 5<(2 ^ 62:Int);lia),?_⟩;refine⟨by rw[eW];exact small (by show ((n * n+48271 * n+(0+(pl.length:Int))) % 2147483647 % 5).toNat<=1000;lia),?_⟩;refine iU (λ_=>true) (λt=>match t with | .int j=>.str (ys.getD (((n * n+48271 * n+(0+(pl.length:Int))) % 2147483647 / 3+j) % 4).toNat Str.empty)|_=>.bB) ?_ ?_;intro t ht _ r hr;obtain⟨i,hi,e⟩:=SE.mp ht;obtain⟨_,rfl⟩:=gG (by rw[jj hi,e]:(rangeT _ _)[i]?=some t);rw[ι rfl] at hr;exact⟨⟨by decide,by decide⟩,(by show (0:Int)<4;decide),_,Ff DS _,hr⟩;generalize hn':(n * n+48271 * n+(0+(pl.length:Int))) % 2147483647=n' at g0 g1 u0 u1;have hkl:pl.length<ys.length:=by lia
 have ek:jc (ys.map T.str) (0+(pl.length:Int))=some (T.str ys[pl.length]):=by rw[D0];refine ai ?_;rw[fD,jj hkl];rfl
 have eps:(((rangeT 0 (n' % 5).toNat).filter λ_=>true).map λt=>match t with | .int j=>T.str (ys.getD ((n' / 3+j) % 4).toNat Str.empty)|_=>.bB)=((List.range (n' % 5).toNat).map λj=>ys.getD ((n' / 3+((j:Nat):Int)) % 4).toNat Str.empty).map T.str:=by unfold rangeT;rw[List.filter_eq_self.mpr (λ_ _=>rfl),sr,sr];apply DW;intro j _;show T.str (ys.getD ((n' / 3+(0+(j:Int))) % 4).toNat Str.empty)=T.str (ys.getD ((n' / 3+(j:Int)) % 4).toNat Str.empty);rw[D0]
 rw[eps];refine⟨_,ek,bJ (by simp),by rw[bX];exact fits (by lia),n',_,_,_,pl++[(ys[pl.length],(List.range (n' % 5).toNat).map λj=>ys.getD ((n' / 3+((j:Nat):Int)) % 4).toNat Str.empty)],rfl,?_,g0,by lia,by simp,?_⟩;rw[p_];rfl;intro k' f' V1 e;by_cases d_:k'<pl.length;rw[mK d_] at e;exact bF k' f' V1 e;by_cases he:k'=pl.length;subst he;rw[p8 (cc _),Nat.sub_self] at e;simp only[WT,Option.some.injEq,Prod.mk.injEq] at e;obtain⟨e1,e2⟩:=e;subst e1 e2;exact⟨jj hkl,n' / 3,(n' % 5).toNat,by lia,rfl⟩;rw[Sz (by simp;lia)] at e;cases e;rintro ρ ⟨n,kv,pv,_,pl,rfl,rfl,p0,p1,hlen,bF⟩;exact hq pl bF (by lia) (by lia)
end
def xK(ts:Ψ)(q:qam):Prop:=∃(ns:qan)(ys:ω)(pl:Plan),ts=[.lst (ns.map .int),.lst (ys.map .str),.lst (pl.map bw)]/\ns.length<=63/\Given ys pl/\1<=pl.length /\
 ∀rs,Pre ys pl pl.length rs->rs.length<=60->q (.fr (.lst (rs.map aR)))
def Bv(f:α->T)(ns:List α)(lo hi:Option Int):∃ms:List α,qt (ns.map f) lo hi=ms.map f/\ms.length<=ns.length:=by
 unfold qt;rw[bX,<- List.map_drop,<- List.map_take];refine⟨_,rfl,?_⟩;rw[IT,SK]
 lia
def HC(f:α->T)(ts:List α)(k:Nat)(h:k<=ts.length):qt (ts.map f) (some (k:Int)) none=(ts.drop k).map f:=by unfold qt;rw[bX,HT.Jt,HT.Ej,Nat.min_eq_left h,<- List.map_drop,<- List.map_take,RK (by rw[SK];lia)]
theorem ints_map:∀ms:qan,intsOf (ms.map T.int)=some ms
 |[]=>rfl
 |m::ms=>by simp only[jk,intsOf,ints_map ms];rfl
section
noncomputable abbrev dI:ω:=["_law_cells","_law_words_here","_law_plan_here","_law_rows","_law_k","_law_stack","_law_start","_law_stop","_law_share","_law_cell","_law_word"]
def pV:aJ dI qaK (aq mF):=L2.il
def zQ(D:Df K mg "_law_program" mF qaK f fd)(M:Q9 mg)(c1:cC P w K mg base "_law_operand" qaF 1 (cM K 2 gw))(c2:cC P w K mg base "_law_lay" qaI 4 (qv K [true,true,false,false,false] Wr)) :
  cC P w K mg base "_law_program" qaK 5 (cM K 3 xK):=by
 obtain⟨i9,gR,bT,bU,bV,bW⟩:=c1;obtain⟨acQ,acG,Ww,Wx,Wy,Wz⟩:=c2;refine D.ic (kr D.F pV rfl λbP A outer s H E Ox hr ts q hG=>?_);have nd:=pV.nd;have hu:=bA.eD hr;have np:∀{i:Nat},bh ⟨H,[],Ox⟩ i:=ie;have npf:∀{is:qao},∀i∈is,bh ⟨H,[],Ox⟩ i:=λi _=>ie;obtain⟨ns,ys,pl,rfl,YS,G,R_,hq⟩:=hG;refine⟨_,(ag (cJ (i:=3) nd rfl (.inl rfl) (fv (bO aj)) np)
   (ag (cZ nz rfl (cV (by rfl) M.range (ο (aY ba bb (by rfl) M.len nA (aM (ae 2) aX)))) (aC (i:=4) nd rfl (.inl rfl) np)
     (ag (bp (cA 3 mM mO aS aO (aa (χ (aP (aa (χ ax) (aa (χ (ay (ο (ay (ae 2) (ae 4))) (ο af))) (aa (χ (ay (ο (ay (ae 2) (ae 4))) (ο af))) aj))))) aj)))
     (ag (cJ (i:=5) nd rfl (.inl rfl) (fv (bO aj)) np)
     (ag (aK (i:=6) nd rfl (.inl rfl) (fv (bu (ο (fU (ae 4) (ο (aY ba bb (by rfl) M.len nA (aM (ae 0) aX))))) (ο (aY ba bb (by rfl) M.len nA (aM (ae 2) aX))))) np)
     (ag (aK (i:=7) nd rfl (.inl rfl) (fv (bu (ο (fU (ο (cu (ae 4) (ο af))) (ο (aY ba bb (by rfl) M.len nA (aM (ae 0) aX))))) (ο (aY ba bb (by rfl) M.len nA (aM (ae 2) aX))))) np)
     (ag (aK (i:=8) nd rfl (.inl rfl) (fv (ki (ae 0) (iS (ae 6)) (iS (ae 7)))) np)
     (ag (cZ nz rfl (jJ (ah 8)) (aC (i:=9) nd rfl (.inl rfl) np)
       (ak (bf (mV (ο (cu (ο (aY ba bb (by rfl) M.len nA (aM (ae 3) aX))) (ο (aY ba bb (by rfl) M.len nA (aM (ae 5) aX))))) (ο (oG (ο af) (ο (fU (ο af) (ο (oG (ο (oG (ο (aY ba bb (by rfl) M.len nA (aM (ae 2) aX))) (ο af))) (ae 4))))))))
         (ak (bp (v8 Wz (hr.mono (by decide)) (by rfl) Ww Wx Wy (nH 3 (nH 5 (km (ah 9) (km (ah 1) (km (χ (ki (ae 2) (iS (ο (cu (ae 4) (ο af)))) Ap)) Az))))))))
         aI)))
     (J_ [5] (ag (cZ nz rfl (jJ (ah 5)) (aC (i:=10) nd rfl (.inl rfl) np)
       (ak (bp (cA 3 mM mO aS aO (aa (χ (aP (aa (χ ax) aj))) aj)))))
     (ag (bp (cA 3 mM mO aS aO (aa (χ (aP (aa (χ ax) (aa (χ (cx bW (hr.mono (by decide)) (by rfl) bT bU bV (aa (χ (bq (ο (aY (qp rfl) Cg (by rfl) M.sum UC (aM (ae 8) aX))) (ο (lN (ο af) (ο af))))) (aa (ah 1) aj)))) aj)))) aj)))
     (ak (bf (VW.vc (c_ (bz hu (ο (bq (ae 4) (ο af))) (ο af)) (cK (bz hu (ο (bq (ο (aY ba bb (by rfl) M.len nA (aM (ae 8) aX))) (ο af))) (ο af)))))
       (ak (bp (cA 3 mM mO aS aO (aa (χ (aP (aa (χ ax) aj))) aj))))
       aI)))) npf))))))))
   (ak (aH (fJ 3 np))))),λ_=>?_⟩
 have hp3:=G.p3;have eT:((pl.map bw).length)=pl.length:=bX _;have eN:((ns.map T.int).length)=ns.length:=bX _;refine⟨h_ _,by lia,by lia,?_⟩;refine eX (λk ρ=>∃kv a5 a6 a7 a8 a9 a10 rt rs,ρ=[aD (.lst (ns.map .int)),aD (.lst (ys.map .str)),aD (.lst (pl.map bw)),some (.lst rt,true),kv,a5,a6,a7,a8,a9,a10]/\rt=rs.map aR/\Pre ys pl k rs/\rs.length+3 * (pl.length-k)<=60)
  ⟨none,none,none,none,none,none,none,_,[],rfl,rfl,.zero,by simp;lia⟩ ?_ ?_
 rintro k ρ hk ⟨kv,a5,a6,a7,a8,a9,a10,_,rs,rfl,rfl,lF,hlen⟩;rw[eT,lh] at hk;obtain⟨p,hp⟩:∃p:Str×ω,p=pl[k]:=⟨_,rfl⟩;obtain⟨fn,sP⟩:=p;have hpk:pl[k]?=some (fn,sP):=by rw[jj hk,hp]
 have et:jc (pl.map bw) (0+(k:Int))=some (bw (fn,sP)):=by rw[D0];refine ai ?_;rw[fD,hpk];rfl
 have hk3:k<3:=by lia
 have acH:(rs.map aR).length<sizeLine:=by rw[bX];exact fits (by lia)
 refine⟨_,et,_,aaH,_,et,_,aaI,bJ (by simp),acH,h_ _,.inl ⟨by show -(2 ^ 64:Int)<0+(k:Int);lia,by show 0+(k:Int)<(2 ^ 64:Int);lia⟩,⟨by show (0:Int)<((pl.map bw).length:Int);lia,by show ((pl.map bw).length:Int)<1073741824;lia⟩,
  .inl ⟨by show -(2 ^ 64:Int)<0+(k:Int)+1;lia,by show 0+(k:Int)+1<(2 ^ 64:Int);lia⟩,⟨by show (0:Int)<((pl.map bw).length:Int);lia,by show ((pl.map bw).length:Int)<1073741824;lia⟩,?_⟩
 obtain⟨ms,ems,hms⟩:=Bv T.int ns (some ((0+(k:Int)) * ((ns.map T.int).length:Int) / ((pl.map bw).length:Int))) (some ((0+(k:Int)+1) * ((ns.map T.int).length:Int) / ((pl.map bw).length:Int)));show gX (qt (ns.map T.int) (some ((0+(k:Int)) * ((ns.map T.int).length:Int) / ((pl.map bw).length:Int))) (some ((0+(k:Int)+1) * ((ns.map T.int).length:Int) / ((pl.map bw).length:Int)))) _ _ _ _;rw[ems];refine dq (λi ρ=>∃b6 b7 b9 DT rt st body bN,ρ=[aD (.lst (ns.map .int)),aD (.lst (ys.map .str)),aD (.lst (pl.map bw)),some (.lst rt,true),aD (.int (0+(k:Int))),some (.lst st,true),b6,b7,aD (.lst (ms.map .int)),b9,DT]/\rt=(rs++[Rw.df fn sP]++body).map aR/\st=bN.map .str/\Body ys (pl.drop (k+1)) bN body/\rs.length+1+body.length+bN.length+3 * (pl.length-1-k)<=58)
  ⟨_,_,_,_,_,_,[],[],rfl,by simp;rfl,rfl,.nil,by simp;lia⟩ ?_ ?_
 rintro i z ρ hi ⟨b6,b7,b9,DT,_,_,body,bN,rfl,rfl,rfl,hB,hb⟩;refine⟨.inl ⟨by decide,by decide⟩,cN (λh=>?_) (λ_=>⟨b6,b7,_,DT,_,_,body,bN,rfl,rfl,rfl,hB,hb⟩)⟩;have hg:(((rs++[Rw.df fn sP]++body).map aR).length:Int)+((bN.map T.str).length:Int)<56-3 * (((pl.map bw).length:Int)-1-(0+(k:Int))):=h;have acI:qt (pl.map bw) (some (0+(k:Int)+1)) none=(pl.drop (k+1)).map bw:=by
  have:(0+(k:Int)+1)=((k+1:Nat):Int):=by lia
  rw[this];exact HC bw pl (k+1) hk
 have HF:(rs++[Rw.df fn sP]++body).length=rs.length+1+body.length:=by simp only[nX,List.length_singleton]
 rw[bX,bX,eT,HF] at hg;refine⟨rs++[Rw.df fn sP]++body,bN,z,ys,pl.drop (k+1),?_,⟨G.y6,G.sm,by rw[SK];lia,λp hp=>G.p4 p (List.mem_of_mem_drop hp)⟩,by rw[HF];lia,by lia,λnw c8 WA=>?_⟩;rw[<- acI];rfl;have hlr:=Ko WA;refine⟨b6,b7,_,DT,_,_,body++nw,c8,rfl,?_,rfl,.step hB WA,by rw[nX];lia⟩;rw[DX];rintro ρ ⟨b6,b7,b9,DT,_,_,body,bN,rfl,rfl,rfl,hB,hb⟩;have HF:(rs++[Rw.df fn sP]++body).length=rs.length+1+body.length:=by simp only[nX,List.length_singleton]
 refine dq (f:=T.str) (xs:=bN) (λi ρ=>∃DT rt,ρ=[aD (.lst (ns.map .int)),aD (.lst (ys.map .str)),aD (.lst (pl.map bw)),some (.lst rt,true),aD (.int (0+(k:Int))),aD (.lst (bN.map .str)),b6,b7,aD (.lst (ms.map .int)),b9,DT]/\rt=(rs++[Rw.df fn sP]++body++List.replicate i Rw.fin).map aR)
  ⟨DT,_,rfl,by simp⟩ ?_ ?_
 rintro i x ρ hi ⟨c10,_,rfl,rfl⟩;have Pe:i<bN.length:=(dz.mp hi).1;refine⟨bJ (by simp),by rw[bX,nX,HF,Ms];exact fits (by lia),_,_,rfl,?_⟩;rw[List.replicate_succ',<- DX,p_ (l₂:=[Rw.fin])];rfl;rintro ρ ⟨c10,_,rfl,rfl⟩;have WB:(rs++[Rw.df fn sP]++body++List.replicate bN.length Rw.fin).length=rs.length+1+body.length+bN.length:=by rw[nX,HF,Ms]
 have v0:0<=ms.sum % 10 ^ (6:Int).toNat:=by rw[UQ];exact qf _ (by decide)
 have v1:ms.sum % 10 ^ (6:Int).toNat<2147483648:=by rw[UQ];have:=qT ms.sum (show (0:Int)<1000000 by decide);lia
 refine⟨ms,ints_map ms,⟨by decide,by decide,by decide⟩,(by show (0:Int)<10 ^ (6:Int).toNat;decide),rfl,_,ys,rfl,G.y6,v0,v1,λo ho=>⟨bJ (by simp),by rw[bX,WB];exact fits (by lia),(by show (0:Int)<2;decide),?_⟩⟩;have fin:∀sk:qal,(sk=[]\/sk=[Rw.skip])->Pre ys pl (k+1) (rs++(Rw.df fn sP::(body++(List.replicate bN.length Rw.fin++(Rw.give o::sk)))))/\(rs++(Rw.df fn sP::(body++(List.replicate bN.length Rw.fin++(Rw.give o::sk))))).length+3 * (pl.length-(k+1))<=60:=λsk XB=>by
  refine⟨.succ lF hpk hB ho XB,?_⟩;have:sk.length<=1:=by obtain rfl|rfl:=XB<;>simp
  simp only[nX,yf,Ms]
  lia
 have e0:(rs++[Rw.df fn sP]++body++List.replicate bN.length Rw.fin).map aR++[aR (Rw.give o)]=(rs++(Rw.df fn sP::(body++(List.replicate bN.length Rw.fin++(Rw.give o::[]))))).map aR:=by simp[DX]
 have e1:(rs++[Rw.df fn sP]++body++List.replicate bN.length Rw.fin).map aR++[aR (Rw.give o)]++[aR Rw.skip]=(rs++(Rw.df fn sP::(body++(List.replicate bN.length Rw.fin++(Rw.give o::[Rw.skip]))))).map aR:=by simp[DX]
 refine cN (λ_=>?_) (λ_=>jL rfl ⟨_,_,_,_,_,_,_,_,_,rfl,e0,fin [] (.inl rfl)⟩);refine⟨(by show (0:Int)<2;decide),cN (λ_=>?_) (λ_=>⟨_,_,_,_,_,_,_,_,_,rfl,e0,fin [] (.inl rfl)⟩)⟩;refine⟨bJ (by simp),?_,⟨_,_,_,_,_,_,_,_,_,rfl,e1,fin [.skip] (.inr rfl)⟩⟩;rw[nX,bX,WB];exact fits (by simp;lia);rintro ρ ⟨kv,a5,a6,a7,a8,a9,a10,_,rs,rfl,rfl,lF,hlen⟩;rw[eT,lh] at lF;exact hq rs lF (by lia)
end
end d7
namespace VT
open PySem PySem.Spec PyProof.Rows L2
section
variable{X:Cx}{g:jY}{pos:Pos}
def Ri(c:FB)(g:jY):jY:=λd ρ s=>∃W:Nat->En->S2->Prop,(∃m,W m ρ s)/\∀m ρ s,W m ρ s->c ρ λb=>if b=true then g {nx:=λρ' s'=>∃m',m'<m/\W m' ρ' s',ct:=λρ' s'=>∃m',m'<m/\W m' ρ' s',bk:=d.nx,rt:=d.rt} ρ s else d.nx ρ s
theorem HG(hp:PassesOwn (model X.prog X.w) X.A X.env X.xe)(hc:∀H0 Ox,VC X ⟨H0,[],Ox⟩ c fc)(hb:DP X M body g):GS X M (.While c body [] pos) (Ri fc g):=.mk λtm ε s' σ H D J ⟨ρ,s,d,S,hg,F⟩=>by
 obtain⟨W,⟨m0,w0⟩,step⟩:=hg;refine og (tc:=λσ H Q=>∃H0,lB X ⟨H0,[],M.Ox⟩ tm fc σ H Q) hp (λε s σ H Q I ⟨H0,z⟩=>hc H0 M.Ox tm ε s σ H Q I z) (hb.h tm) ε s' σ H D J ⟨λm σ H=>∃ρ s,SG X.K M tm ρ s σ H/\W m ρ s,⟨m0,ρ,s,S,w0⟩,?_⟩;rintro m σ1 H1 ⟨ρ1,s1,S1,w1⟩;obtain⟨O,hr,I⟩:=S1.env;refine⟨H1,ρ1,O,_,I,step m ρ1 s1 w1,λb hb H2 sm=>?_⟩;cases b with
 |true=>exact⟨λσ' H'=>∃m',m'<m/\∃ρ s,SG X.K M tm ρ s σ' H'/\W m' ρ s,λσ' H' z=>z,ρ1,s1,_,S1.dJ sm,hb,⟨λρ s σ H I ⟨m',hm,p⟩=>⟨m',hm,ρ,s,I,p⟩,F.rt,F.nx,λρ s σ H I ⟨m',hm,p⟩=>⟨m',hm,ρ,s,I,p⟩⟩⟩
 |false=>exact F.nx ρ1 s1 σ1 H2 (S1.dJ sm) hb
end
def apart2(a b:Nat):a+b+1≠a/\a+b+1≠b:=by lia
def g2D(G:T->S2->(S2->Prop)->Prop):GT:=λts q=>∃k1 t1 k2 t2 l,ts=[.dt k1 t1,.dt k2 t2,l]/\G l ⟨k1,t1,k2,t2⟩ λs'=>j_ s'.t1=true/\j_ s'.t2=true/\q [.dt s'.k1 s'.t1,.dt s'.k2 s'.t2] (.vw .bB)
section
def acJ{st:Stmt}{N:ω}{k:Nat}{G:T->S2->(S2->Prop)->Prop}(F:B5 K x qual st f fd)(S:aJ N ps (aq st))(hn:3=ps.length)(hN:3<=N.length)(eQ:∀(bP:Value) (A:Around) (outer:List Env) (s:Shared) (H:Hp) (E:XK) (M:MG),M.hb=false->bA k (A.deeper (envOfC qual (aq st) s.heap.objs.size f bP))->∀l s0 q,G l s0 q ->
    ∃g,DP (jD iR P w K mg base N qual (aq st) f bP A outer s H E).BM M (b_ st) g/\g {nx:=λ_ s=>q s,rt:=λ_ _=>False} (some (.ob M.a1,false)::some (.ob M.a2,false)::some (l,false)::List.replicate (N.length-3) none) s0) :
  dA P w K mg base iR (k+1) f fd ps (qv K [true,true,false] (g2D G)):=by
 refine F.ok S (λvs H Q E h=>?_) (λbP A outer s H vs Q E hr h=>?_);obtain⟨ts,as,Ox,q,_,_,_,ha,_⟩:=h;rw[<- hn];exact (gk ha).2.1;obtain⟨ts,as,Ox,q,nd,nx,ox,ha,⟨k1,t1,k2,t2,l,rfl,hG⟩,kk⟩:=h;obtain⟨a1,as1,_,_,_,rfl,e1,rfl,r1,a2,as2,_,_,_,rfl,e2,rfl,r2,_,_,v,_,e3,rfl,av,rfl,rfl,rfl⟩:=ha;cases e1;cases e2;cases e3;have ne:a1≠a2:=λz=>by rw[z] at nd;simp at nd
 let M:MG:=⟨a1+a2+1,0,a1,a2,0,H,(apart2 a1 a2).1,(apart2 a1 a2).2,ne,false⟩
 obtain⟨g,hg,hq⟩:=eQ bP A outer s H E M rfl hr l _ _ hG;have sub:∀b∈M.Ox,b∈[a1,a2]++Ox:=λb hb=>hX _ hb;obtain⟨lj,l1,h1,q1⟩:=r1;obtain⟨jw,l2,h2,q2⟩:=r2;have sd:SD K M ⟨k1,t1,k2,t2⟩ H:=⟨λz=>(nomatch z),⟨lj,l1,h1,q1.bj sub⟩,⟨jw,l2,h2,q2.bj sub⟩,λb o e _=>e⟩;refine⟨_,hg.h [],_,_,_,⟨⟨List.replicate N.length none,e_ _,?_⟩,sd⟩,hq,⟨λρ s' σ' H' S' z=>?_,λ_ _ _ _ _ _ z=>z.elim,λ_ _ _ _ _ z=>z.elim,λ_ _ _ _ _ z=>z.elim⟩⟩;exact mf (ts:=[.ob a1,.ob a2,l]) (by simpa using hN) (λb hb=>by obtain⟨u,e,_⟩:=sd.here b hb;rw[e];simp) (az.cons (by simp only[At]) (az.cons (by simp only[At]) (az.cons (av.bj sub) az.nil)));obtain⟨i1,i2,qX⟩:=z;obtain⟨us1,m1,b1,c1⟩:=S'.sd.d1;obtain⟨us2,m2,b2,c2⟩:=S'.sd.d2;exact kk _ _ qX .bB H' (λb o e n=>S'.sd.fr b o e n) ⟨sR,.cons ⟨us1,m1,b1,az.vv i1 c1⟩ (.cons ⟨us2,m2,b2,az.vv i2 c2⟩ .nil)⟩
end
section
variable{X:Cx}
def Bw{a:Addr}(I:Inv X ε σ H s)(ha:H a=some (.dT aV)):∃o,Inv X ε σ (upd H a (.fF o (.dT aV))) s:=by
 obtain⟨z,y,xs,r,o,es,ep,h1,h2,h3,h4,h5⟩:=(show bH X.prog X.w H s.heap a (.dT aV) from I.bF a _ ha);have new:bH X.prog X.w (upd H a (.fF o (.dT aV))) s.heap a (.fF o (.dT aV)):=by refine⟨h1,z,y,xs,Paired.j3 r λp q ⟨e1,e2,e3⟩=>⟨e1,?_,e3⟩,o,es,ep,h1,h2,h3,h4,h5⟩;rw[ar];exact e2;intro e;rw[e,ha] at e2;cases e2
 exact⟨o,I.write (by rw[ha];trivial) (.inl rfl) (λb u _ q=>q) ⟨o,h1⟩ new⟩
def xM{a:Addr}(I:Inv X ε σ H s)(ha:H a=some (.fF o (.dT aV)))(hz:∀o u,X.H₀ a≠some (.fF o u)):Inv X ε σ (upd H a (.dT aV)) s:=by
 have nn:∀b,H b=none->b≠a:=λb n e=>by rw[e,ha] at n;cases n
 have nt:∀b xs,H b=some (.tup xs)->b≠a:=λb xs q e=>by rw[e,ha] at q;cases q
 have no:∀b x,H b=some (.own x)->b≠a:=λb xs q e=>by rw[e,ha] at q;cases q
 refine⟨I.ok,I.os,I.bare,⟨I.base.keep,I.base.slot,λb ob q n hx=>?_,I.base.there,λb xs q=>?_,λb ob u q=>?_,λb ps q=>?_⟩,I.loc,I.cell,?_,λx c q=>?_,λp hp=>?_,λb u q=>?_,I.len⟩;have:=I.base.free b ob q n hx;rw[ar (nn b this)];exact this;have:=I.base.su b xs q;rw[ar (nt b xs this)];exact this;have:=I.base.nZ b ob u q;rw[ar (λe=>hz ob u (by rw[<- e];exact q))];exact this;obtain⟨m,e⟩:=I.base.sx b ps q;exact⟨m,by rw[ar (λz=>by rw[z,ha] at e;cases e)];exact e⟩;rw[ar (nn _ I.free)];exact I.free;rw[ar (nn _ (I.gc x c q))];exact I.gc x c q;obtain⟨h1,h2,h3⟩:=I.pin p hp;exact⟨h1,by rw[ar (nn _ h2)];exact h2,h3⟩;by_cases hb:b=a;subst hb;rw[aA] at q;cases q;obtain⟨_,z,y,xs,r,w⟩:=(show bH X.prog X.w H s.heap b (.fF o (.dT aV)) from I.bF b _ ha);exact⟨z,y,xs,Paired.j3 r λp q ⟨e1,e2,e3⟩=>⟨e1,by rw[ar (nt _ _ e2)];exact e2,e3⟩,w⟩;rw[ar hb] at q;exact (I.bF b u q).vI (λc v _ r=>r) (λc r=>by rw[ar (no c b r)];exact r) λc xs r=>by rw[ar (nt c xs r)];exact r
def r0{a:Addr}(I:Inv X ε σ H s)(ha:H a=some (.dT aV)):∀o u,X.H₀ a≠some (.fF o u):=λo u q=>by have:=I.base.nZ a o u q;rw[ha] at this;cases this
def HH(t:TE):TE:=λσ H Q=>∃a1 L5 a2 L6,a1≠a2/\H a1=some (.dT L5)/\H a2=some (.dT L6)/\∀o1 o2,t σ (upd (upd H a1 (.fF o1 (.dT L5))) a2 (.fF o2 (.dT L6))) λv H'=>H' a1=some (.fF o1 (.dT L5))/\H' a2=some (.fF o2 (.dT L6))/\Q v (upd (upd H' a1 (.dT L5)) a2 (.dT L6))
def L7{t:TE}(h:PE X e t):PE X e (HH t):=by intro ε s σ H Q I hq;obtain⟨a1,L5,a2,L6,ne,h1,h2,k⟩:=hq;have z1:=r0 I h1;have z2:=r0 I h2;obtain⟨o1,I1⟩:=Bw I h1;obtain⟨o2,I2⟩:=Bw I1 (by rw[ar (Ne.symm ne)];exact h2);refine cf (h ε s σ _ _ I2 (k o1 o2)) λv s1 ⟨x,H1,I3,r1,e1,e2,q⟩=>⟨x,_,xM (xM I3 e1 z1) (by rw[ar (Ne.symm ne)];exact e2) z2,r1,q⟩
end
section
variable{tm:qab}{s:S2}
noncomputable def vF(M:MG)(o1 o2:Obj)(s:S2):Option (T×Bool)->Option (T×Bool)
 |some (.ob x,false)=>if x=M.a1 then some (.df o1 s.k1 s.t1,false) else if x=M.a2 then some (.df o2 s.k2 s.t2,false) else some (.ob x,false)
 |e=>e
def HI(M:MG)(o1 o2:Obj)(s:S2):vF M o1 o2 s (some (.ob M.a1,false))=some (.df o1 s.k1 s.t1,false):=by show (if M.a1=M.a1 then _ else _)=_;rw[ι rfl]
def HJ(M:MG)(o1 o2:Obj)(s:S2):vF M o1 o2 s (some (.ob M.a2,false))=some (.df o2 s.k2 s.t2,false):=by show (if M.a2=M.a1 then _ else _)=_;rw[η (Ne.symm M.n3),ι rfl]
noncomputable def mG(M:MG)(H:Hp)(o1 o2:Obj)(L5 L6:List (List Key×V)):Hp:=upd (upd H M.a1 (.fF o1 (.dT L5))) M.a2 (.fF o2 (.dT L6))
def Rj{o1 o2:Obj}{L5 L6:List (List Key×V)}{b:Addr}(h:b∉M.Ox):mG M H o1 o2 L5 L6 b=H b:=by unfold mG;rw[ar (λz=>h (by rw[z];exact M.m2)),ar (λz=>h (by rw[z];exact M.m1))]
def SG.vF(g:SG K M tm ρ s σ H){lj jw:qak}(l1:s.k1.length=lj.length)(e1:H M.a1=some (.dT (s.k1.zip lj)))(q1:az K H M.Ox s.t1 lj)(l2:s.k2.length=jw.length)(e2:H M.a2=some (.dT (s.k2.zip jw)))(q2:az K H M.Ox s.t2 jw)(o1 o2:Obj) :
  ∃O,roots O=[]/\au K ⟨mG M H o1 o2 (s.k1.zip lj) (s.k2.zip jw),[],[]⟩ tm O (ρ.map (VT.vF M o1 o2 s)) σ (mG M H o1 o2 (s.k1.zip lj) (s.k2.zip jw)):=by
 obtain⟨O,hr,I⟩:=g.env;have mv:∀{t:T}{v:V},At K H M.Ox t v->At K (mG M H o1 o2 (s.k1.zip lj) (s.k2.zip jw)) [] t v:=λq=>(At.frame g.sd.here (λb o e n=>by rw[Rj n];exact e) q).bj λb hb=>nomatch hb;have d8:∀{ts:Ψ}{vs:qak},az K H M.Ox ts vs->az K (mG M H o1 o2 (s.k1.zip lj) (s.k2.zip jw)) [] ts vs:=λ{ts}=>by
  induction ts with
  |nil=>intro vs q;simp only[az] at q ⊢;exact q
  |cons t ts ih=>intro vs q;obtain⟨v,r,rfl,h1,h2⟩:=q;exact az.cons (mv h1) (ih h2)
 have d1:At K (mG M H o1 o2 (s.k1.zip lj) (s.k2.zip jw)) [] (.df o1 s.k1 s.t1) (.ref M.a1):=⟨M.a1,lj,rfl,l1,⟨by unfold mG;rw[ar M.n3,aA],λz=>nomatch z⟩,d8 q1⟩;have d2:At K (mG M H o1 o2 (s.k1.zip lj) (s.k2.zip jw)) [] (.df o2 s.k2 s.t2) (.ref M.a2):=⟨M.a2,jw,rfl,l2,⟨by unfold mG;rw[aA],λz=>nomatch z⟩,d8 q2⟩;refine⟨O,hr,⟨by rw[bX];exact I.lσ,by rw[bX];exact I.lO,λi e he=>?_,I.nd,λa ha=>(by rw[hr] at ha;exact absurd ha fE),λp hp=>absurd hp fE,λa ha=>absurd ha fE,λb o e _=>e,λp hp=>?_⟩⟩;have e0:av ⟨mG M H o1 o2 (s.k1.zip lj) (s.k2.zip jw),[],[]⟩ O=[]:=d5 hr;rw[fD] at he;obtain⟨Pa,q,rfl⟩:=IQ.mp he;obtain⟨o,sv,h1,h2,h3⟩:=I.sl i Pa q;refine⟨o,sv,h1,h2,?_⟩;rw[e0];rw[d5 hr] at h3;have plain:=h3.map (λt v z=>mv z) λa t eo _=>by subst eo;have:=aF.mpr (f_ h1);rw[hr] at this;exact nomatch this
 by_cases c:∃x,Pa=some (.ob x,false);obtain⟨x,rfl⟩:=c;obtain⟨eo,v,es,Z3⟩:=h3;subst Z3;show iq K _ [] (if x=M.a1 then _ else _) o sv;by_cases c1:x=M.a1;rw[ι c1];subst c1;exact⟨eo,_,es,d1⟩;rw[η c1];by_cases c2:x=M.a2;rw[ι c2];subst c2;exact⟨eo,_,es,d2⟩;rw[η c2];exact plain;have:VT.vF M o1 o2 s Pa=Pa:=by
  unfold VT.vF;split
  rename_i x
  exact absurd ⟨x,rfl⟩ c;rfl
 rw[this];exact plain;rw[d5 hr];have:=I.jG p hp;rw[d5 hr] at this;exact mv this
def SG.acK{o1 o2:Obj}{lj jw:qak}(g:SG K M tm ρ s σ H)(l1:s.k1.length=lj.length)(e1:H M.a1=some (.dT (s.k1.zip lj)))(q1:az K H M.Ox s.t1 lj)(l2:s.k2.length=jw.length)(e2:H M.a2=some (.dT (s.k2.zip jw)))(q2:az K H M.Ox s.t2 jw)(sm:aL (mG M H o1 o2 (s.k1.zip lj) (s.k2.zip jw)) H') :
  aL H (upd (upd H' M.a1 (.dT (s.k1.zip lj))) M.a2 (.dT (s.k2.zip jw))):=λb o e=>by
 by_cases c2:b=M.a2;rw[c2] at e ⊢;rw[e2] at e;cases e;rw[aA];rw[ar c2];by_cases c1:b=M.a1;rw[c1] at e ⊢;rw[e1] at e;cases e;rw[aA];rw[ar c1];refine sm b o ?_;unfold mG;rw[ar c2,ar c1];exact e
end
section
variable{X:Cx}{g:jY}{pos:Pos}
def HK{tm:qab}{f:FE}(he:∀H0 Ox,VE X ⟨H0,[],Ox⟩ e f):PE X e (HH λσ H Q=>∃H0,lE X ⟨H0,[],[]⟩ tm f σ H Q):=L7 λε s σ H Q I ⟨H0,z⟩=>he H0 [] tm ε s σ H Q I z
def HL{tm:qab}{f:FE}{s:S2}{Q:VK}{q:T->Prop}(S:SG X.K M tm ρ s σ H)(hf:∀o1 o2,f (ρ.map (vF M o1 o2 s)) q)(k:∀t v H',q t->(∀b,b∈[M.a1,M.a2]->∃o u,H' b=some (.fF o (.dT u)))->At X.K H' [] t v->∀H'',aL H H''->(∀b,b≠M.a1->b≠M.a2->H'' b=H' b)->Q v H''):HH (λσ H Q=>∃H0,lE X ⟨H0,[],[]⟩ tm f σ H Q) σ H Q:=by
 obtain⟨lj,l1,e1,q1⟩:=S.sd.d1;obtain⟨jw,l2,e2,q2⟩:=S.sd.d2;refine⟨M.a1,_,M.a2,_,M.n3,e1,e2,λo1 o2=>?_⟩;obtain⟨O,hr,I⟩:=S.vF l1 e1 q1 l2 e2 q2 o1 o2;refine⟨_,_,O,_,I,hf o1 o2,λt ht v H' sm a=>?_⟩;have f1:=sm _ _ (by rw[ar M.n3,aA]);have f2:=sm _ _ (by rw[aA]);rw[d5 hr] at a;refine⟨f1,f2,k t v H' ht (λb hb=>?_) a _ (S.acK l1 e1 q1 l2 e2 q2 sm) λb n1 n2=>by rw[ar n2,ar n1]⟩;simp only[dg,fE,aag] at hb;obtain rfl|rfl:=hb
 exact⟨_,_,f1⟩;exact⟨_,_,f2⟩
noncomputable def NU(M:MG)(n m:Nat)(f:FE):jY:=λd ρ s=>∀o1 o2,f (ρ.map (vF M o1 o2 s)) λt=>kP t/\s.t1.length<16777216/\s.t2.length<16777216/\∃k,ρ[m]?=some (some (.kt k,false))/\((ρ[n]?=some (some (.ob M.a1,false))/\d.nx ρ (s.zo k t))\/(ρ[n]?=some (some (.ob M.a2,false))/\d.nx ρ (s.put2 k t)))
def L8(n m:Nat){f:FE}(hu:X.A.units+1<cLine)(he:∀H0 Ox,VE X ⟨H0,[],Ox⟩ e f)(hN:X.N[n]?=some x:=by rfl)(hv:mP X.env.scope x:=by first|exact Or.inl rfl|exact Or.inr (.inl rfl)|exact Or.inr (.inr rfl))(hd:f7 x:=by decide)(fO:qd x:=by decide)(IK:X.N[m]?=some y:=by rfl)(Ny:mP X.env.scope y:=by first|exact Or.inl rfl|exact Or.inr (.inl rfl)|exact Or.inr (.inr rfl))(hd2:f7 y:=by decide)(qL:qd y:=by decide)(hs:swapsWith e (some (.Subscript (.Name x p) (.Name y p2) d9)) pos.line X.env=pure false:=by rfl):GS X M (.Assign [.Subscript (.Name x p) (.Name y p2) d9] e pos) (NU M n m f):=.mk λtm ε s' σ H D J ⟨ρ,s,d,S,hg,F⟩=>by refine t7 hu (bY hN hv hd fO) (bY IK Ny hd2 qL) (HK he) hs ε s' σ H D J (HL S hg λt v H1 ht _ a H2 sm _=>?_);obtain⟨IJ,h1,h2,k,hk,⟨hn,hq⟩|⟨hn,hq⟩⟩:=ht;exact rM (S.dJ sm) F IJ a hn h1 hk hq;exact rW (S.dJ sm) F IJ a hn h2 hk hq
theorem HM{K:zm}{H H':Hp}{A:Ω}(h:∀b xs,H b=some (.tup xs)->H' b=some (.tup xs)/\b∉A):∀{ks:List (List Key)}{vs:qak},az K H [] (ks.map T.kt) vs->az K H' A (ks.map T.kt) vs
 |[],vs,a=>by simp only[RU,az] at a ⊢;exact a
 |k::ks,vs,a=>by obtain⟨v,r,rfl,h1,h2⟩:=a;refine az.cons ?_ (HM h h2);obtain⟨b,rfl,hb⟩:=h1;have:=h b _ hb.1;exact⟨b,rfl,this.1,this.2⟩
noncomputable def NV(M:MG)(f:FE)(h:FG)(g:jY):jY:=λd ρ s=>∀o1 o2,f (ρ.map (vF M o1 o2 s)) λt=>∃ks:List (List Key),t=.lst (ks.map .kt)/\A5 (ks.map .kt) h g d ρ s
def L9{tg:Expr}{f:FE}{h:FG}(hB:M.hb=false)(hp:PassesOwn (model X.prog X.w) X.A X.env X.xe)(hc:X.calm=true)(hi:∀H0 Ox,VE X ⟨H0,[],Ox⟩ iter f)(hg:∀H0 Ox,VG X ⟨H0,[],Ox⟩ tg is h)(hb:DP X M body g)(hs:∀x,foldedSetIterable iter X.env x=pure x:=by intro _;rfl):GS X M (.For tg iter body [] pos) (NV M f h g):=by
 refine .mk λtm ε s' σ H D J ⟨ρ,s,d,S,hq,F⟩=>?_;have eO:M.Ox=[M.a1,M.a2]:=by unfold MG.Ox;rw[hB];rfl
 refine sD (g:=λv σ H Q=>∃a_ H0,lG X ⟨H0,[],M.Ox⟩ (a_++tm) is h v σ H Q) (tb:=λD σ H=>∃a_,Sh X M (a_++tm) g D σ H) hp hc (yN (HK (tm:=tm) hi)) (λε s σ H v u Q I r ⟨a_,H0,z⟩=>hg H0 M.Ox (a_++tm) ε s σ H v u Q I r z) (λε s σ H D I ⟨a_,z⟩=>hb.h (a_++tm) ε s σ H D I z) hs ε s' σ H D J ?_;unfold Ta Um;refine HL S hq λt v H' ht fz a H2 sm old=>?_;obtain⟨ks,rfl,hl⟩:=ht;obtain⟨l,vs,rfl,XG,hv⟩:=a;have Oe:∀b xs,H' b=some (.tup xs)->H2 b=some (.tup xs)/\b∉M.Ox:=λb xs q=>by
  have n:b∉M.Ox:=λz=>by rw[eO] at z;obtain⟨o,u,e⟩:=fz b z;rw[q] at e;cases e
  refine⟨?_,n⟩;rw[old b (λz=>n (by rw[z];exact M.m1)) (λz=>n (by rw[z];exact M.m2))];exact q
 have ls:oA X.K H2 M.Ox l vs:=by
  obtain z|z:=XG
  have n:l∉M.Ox:=λm=>by
   rw[eO] at m;obtain⟨o,u,e⟩:=fz l m;obtain q|⟨o',q⟩:=z.1
   rw[e] at q;cases q;rw[e] at q;cases q
  refine .inl ⟨?_,n⟩;have eo:=old l (λz=>n (by rw[z];exact M.m1)) (λz=>n (by rw[z];exact M.m2));exact z.1.elim (λq=>.inl (by rw[eo];exact q)) λ⟨o',q⟩=>.inr ⟨o',by rw[eo];exact q⟩;exact .inr z
 have at':At X.K H2 M.Ox (.lst (ks.map .kt)) (.ref l):=⟨l,vs,rfl,ls,HM Oe hv⟩;exact .inl ⟨l,rfl,⟨vs,ls.sq⟩,mi rfl ((S.dJ sm).temps λp hp=>by rw[hY.mp hp];exact at') sV F hl⟩
end
end VT
namespace cO
open PySem L2 VT Gen K5 Lay BS Ln MK
open PySem.Builtin (bitOr)
noncomputable def top(i:Nat):Stmt:=PySem.Challenge.pw_slicewise_k23_tables_of_programs.main.body.getD i (.Pass ⟨0,0,0,0⟩)
noncomputable abbrev s_same:Stmt:=top 34
noncomputable abbrev uQ:Stmt:=top 35
noncomputable abbrev uR:Stmt:=top 36
noncomputable abbrev gT:Stmt:=top 37
noncomputable abbrev uS:Stmt:=top 38
noncomputable abbrev HN:Stmt:=top 39
noncomputable abbrev uT:Stmt:=top 40
noncomputable abbrev uU:Stmt:=top 41
noncomputable abbrev mH:Stmt:=top 42
noncomputable abbrev uV:Stmt:=top 43
noncomputable abbrev k7:Stmt:=top 44
structure IP(mg:qae):Prop where
 isinstance:mg "isinstance"=none
 str:mg "str"=none
 int:mg "int"=none
 range:mg "range"=none
 enumerate:mg "enumerate"=none
 sorted:mg "sorted"=none
 list:mg "list"=none
 zip:mg "zip"=none
def bJ(h:n<=1000):n<=sizeLine:=Gen.small h
def k0:bootBuiltins "sorted"=some (.builtin "sorted"):=by decide +kernel
noncomputable def Rk:Pl->T
 |.nm h x=>.tup [.str "name",.int (h:Int),.str x,.str ""]
 |.cl h x c=>.tup [.str "cells",.int (h:Int),.str x,.str c]
 |.rw i=>.tup [.str "row",.int (i:Int),.str "",.str ""]
 |.zr=>.bB
noncomputable def jB(m:Mv):T:=.tup [Rk m.1,Rk m.2]
def Rl:Pl->Prop
 |.rw i=>i<=1000
 |.zr=>False
 |_=>True
def mB(ts:Ψ)(q:qam):Prop:=∃k:Ky,ts=[vD k]/\Wm k/\q (.vw (.str (jS k)))
def HP(ts:Ψ)(q:qam):Prop:=∃rs:qal,ts=[.lst (rs.map aR)]/\Bl rs/\rs.length<=100/\q (.fr (.lst (jN rs)))
def HQ(ts:Ψ)(q:qam):Prop:=∃(rs:qal)(x g:Str)(as:List ix)(h s:Nat)(ps:ω)(o:ix),ts=[.lst (rs.map aR),.int (h:Int),aR (.call x g as)]/\Bl rs/\as.length<=4/\fnOf rs g=some (s,ps,o)/\q (.fr (.lst (((ps.zip as).flatMap (λz=>pJ (.nm s z.1) h z.2)++pJ (.nm h x) s o).map jB)))
def HR(ts:Ψ)(q:qam):Prop:=∃rs:qal,ts=[.lst (rs.map aR)]/\Pg rs/\q (.fr (.lst ((iL rs rs.length).map jB)))
noncomputable def xN(rs:qal)(k:Nat):Ψ:=(List.range k).map λi=>oT (g6 (bC rs) i)
def mJ(rs:qal)(k:Nat):xN rs (k+1)=xN rs k++[oT (g6 (bC rs) k)]:=by unfold xN;rw[RS,p_];rfl
section
noncomputable abbrev L_:ω:=qaL
def xO:aJ L_ qaL (aq uR):=L2.il
def HS(D:Df K mg "_law_class" uR qaL f fd)(M:IP mg):cC P w K mg base "_law_class" qaL 1 (cM K 1 mB):=by
 refine D.ic (kr D.F xO rfl λbP A outer s H E Ox hr ts q hG=>?_);have nd:=xO.nd;refine⟨_,(ag (bf (VW.vc (c_ (cH (cj dm (by rfl) M.isinstance (by rfl) M.str ku (ae 0))) (cK (cH (rJ (ae 0) (ο ax))))))
    (ak (aH (fv (VE.vp (ah 0)))))
    aI)
   (ak (aH (fv ax)))),λ_=>?_⟩
 obtain⟨k,rfl,hk,hq⟩:=hG;cases k with
 |fld x=>rw[LX hk] at hq;exact⟨rfl,Ci rfl (Ci (qq.oz x) hq)⟩
 |op o=>
   cases o with
   |nm y=>rw[Q7 hk] at hq;exact⟨rfl,Ci rfl (jL (qq.jm (qq.gE hk)) hq)⟩
   |nu i=>exact⟨rfl,hq⟩
noncomputable abbrev i0:ω:=["_law_program_here","_law_homes_here","_law_here","_law_k","_law_row"]
def xP:aJ i0 qaM (aq uQ):=L2.il
def HU(D:Df K mg "_law_homes" uQ qaM f fd)(M:IP mg):cC P w K mg base "_law_homes" qaM 1 (cM K 1 HP):=by
 refine D.ic (kr D.F xP rfl λbP A outer s H E Ox hr ts q hG=>?_);have nd:=xP.nd;have hu:=bA.eD hr;have np:∀{i:Nat},bh ⟨H,[],Ox⟩ i:=ie;refine⟨_,(ag (cJ (i:=1) nd rfl (.inl rfl) (fv (bO aj)) np)
  (ag (aK (i:=2) nd rfl (.inl rfl) (fv fP) np)
  (ag (cZ nz rfl (kq (by rfl) M.enumerate (ah 0)) (dc (n:=2) rfl (aN (aC (i:=3) nd rfl (.inl rfl) np) (aN (aC (i:=4) nd rfl (.inl rfl) np) cw)))
   (ag (bf (bz hu (ο (ay (ae 4) (ο af))) (ο ax))
    (ak (aK (i:=2) nd rfl (.inl rfl) (fv (VE.vp (ah 3))) np))
    aI)
   (ag (bp (cA 1 mM mO aS aO (aa (ah 2) aj)))
   (ak (bf (bz hu (ο (ay (ae 4) (ο af))) (ο ax))
    (ak (aK (i:=2) nd rfl (.inl rfl) (fv fP) np))
    aI)))))
  (ak (aH (fJ 1 np)))))),λ_=>?_⟩
 obtain⟨rs,rfl,B,hn,hq⟩:=hG;refine⟨h_ _,?_⟩;refine l_ (λk ρ=>∃b3 b4 hs hv,ρ=[aD (.lst (rs.map aR)),some (.lst hs,true),aD hv,b3,b4]/\hs=xN rs k/\hv=oT (st (bC rs) k).head?) ⟨none,none,_,_,rfl,rfl,rfl⟩ ?_ ?_;rintro k r ρ dX ⟨b3,b4,_,_,rfl,rfl,rfl⟩;have hk:=(dz.mp dX).1;have hh:=B.head dX;have hlen:(xN rs k).length=k:=by simp[xN]
 obtain⟨l,el⟩:=Kr r;have room:(xN rs k).length<sizeLine:=by rw[hlen,ς];lia
 have MO:wd r="def"->g6 (bC rs) k=some k:=λh=>by obtain⟨f,ps,rfl⟩:=QO h;unfold g6;rw[du dX];rfl
 have PV:wd r≠"def"->g6 (bC rs) k=(st (bC rs) k).head?:=λh=>by unfold g6;rw[du dX];cases r<;>first|rfl|exact absurd rfl h
 have qj:(xN rs k).length<sizeLine:=room;rw[el];refine⟨rfl,rfl,_,aaH,cN (λh=>?_) (λh=>?_)⟩;have h':wd r="def":=h;refine⟨qj,_,aaH,cN (λh2=>?_) (λh2=>?_)⟩;have qb:wd r="give":=h2;rw[h'] at qb;exact absurd qb (by decide +kernel);have qb:¬ wd r="give":=h2;rw[η qb,MO h'] at hh;refine⟨_,_,_,_,rfl,?_,?_⟩;rw[mJ,MO h'];rfl;rw[hh];rfl;have h':¬ wd r="def":=h;refine⟨qj,_,aaH,cN (λh2=>?_) (λh2=>?_)⟩;have qb:wd r="give":=h2;rw[ι qb] at hh;refine⟨_,_,_,_,rfl,?_,?_⟩;rw[mJ,PV h'];rw[hh];rfl;have qb:¬ wd r="give":=h2;rw[η qb,PV h'] at hh;refine⟨_,_,_,_,rfl,?_,?_⟩;rw[mJ,PV h'];rw[hh];rintro ρ ⟨b3,b4,_,_,rfl,rfl,rfl⟩;exact hq
noncomputable abbrev uW:ω:=["_law_program_here","_law_home","_law_row","_law_there","_law_last","_law_moves_here","_law_name","_law_operand_here"]
def jC:aJ uW qaN (aq gT):=L2.il
def qQ(D:Df K mg "_law_call_moves" gT qaN f fd)(M:IP mg):cC P w K mg base "_law_call_moves" qaN 1 (cM K 3 HQ):=by
 refine D.ic (kr D.F jC rfl λbP A outer s H E Ox hr ts q hG=>?_);have nd:=jC.nd;have hu:=bA.eD hr;have np:∀{i:Nat},bh ⟨H,[],Ox⟩ i:=ie;refine⟨_,(ag (aK (i:=3) nd rfl (.inl rfl) (fv af) np)
  (ag (vY nz (VW.vc (MQ (kh hu (ο (ay (ο (ay (ae 0) (ae 3))) (ο af))) (ο ax)) (ED (kh hu (ο (ay (ο (ay (ae 0) (ae 3))) (ο af))) (ο (ay (ae 2) (ο af)))))))
   (ak (aK (i:=3) nd rfl (.inl rfl) (fv (cu (ae 3) (ο af))) np)))
  (ag (aK (i:=4) nd rfl (.inl rfl) (fv (VE.vp (ah 3))) np)
  (ag (vY nz (kh hu (ο (ay (ο (ay (ae 0) (ae 4))) (ο af))) (ο ax))
   (ak (aK (i:=4) nd rfl (.inl rfl) (fv (cu (ae 4) (ο af))) np)))
  (ag (cJ (i:=5) nd rfl (.inl rfl) (fv (bO aj)) np)
  (ag (cZ nz rfl (yX (by rfl) M.zip (χ (ay (ο (ay (ae 0) (ae 3))) (ο af))) (χ (ay (ae 2) (ο af)))) (dc (n:=2) rfl (aN (aC (i:=6) nd rfl (.inl rfl) np) (aN (aC (i:=7) nd rfl (.inl rfl) np) cw)))
   (ak (bf (cH (cj dm (by rfl) M.isinstance (by rfl) M.str ku (ae 7)))
    (ak (bp (cA 5 mM mO aS aO (aa (χ (aP (aa (χ (aP (aa (χ ax) (aa (ah 3) (aa (ah 6) (aa (χ ax) aj)))))) (aa (χ (aP (aa (χ ax) (aa (ah 1) (aa (ah 7) (aa (χ ax) aj)))))) aj)))) aj))))
    aI)))
  (ag (bf (cH (cj dm (by rfl) M.isinstance (by rfl) M.str ku (ο (ay (ο (ay (ae 0) (ae 4))) (ο af)))))
   (ak (bp (cA 5 mM mO aS aO (aa (χ (aP (aa (χ (aP (aa (χ ax) (aa (ah 1) (aa (χ (ay (ae 2) (ο af))) (aa (χ ax) aj)))))) (aa (χ (aP (aa (χ ax) (aa (ah 3) (aa (χ (ay (ο (ay (ae 0) (ae 4))) (ο af))) (aa (χ ax) aj)))))) aj)))) aj))))
   aI)
  (ak (aH (fJ 5 np)))))))))),λ_=>?_⟩
 obtain⟨rs,x,g,as,h,st,ps,o,rfl,B,ha,hf,hq⟩:=hG;obtain⟨f',e,h1,h2,h3,h4⟩:=Bk hf;obtain⟨_,V1,qb⟩:=oY _ h1;rw[h2] at qb;cases qb;obtain⟨e',o',g1,g2,g3,g4⟩:=Bm B h2;rw[h3] at g1;cases g1;have hel:e<rs.length:=(dz.mp h4).1;refine⟨λm ρ=>∃k:Nat,ρ=[aD (.lst (rs.map aR)),aD (.int (h:Int)),aD (aR (.call x g as)),aD (.int (k:Int)),none,none,none,none]/\k<=st/\m=st-k,⟨_,0,rfl,h_ _,rfl⟩,?_⟩;rintro m ρ ⟨k,rfl,hk,rfl⟩;obtain⟨r,dX⟩:∃r,rs[k]?=some r:=⟨_,jj (by lia)⟩;refine QP (P:=k=st) (λkk k1 k2=>?_) (λhn=>?_) λhs=>?_;cases r with
 |df f qs=>refine⟨_,eA dX,_,aaH,_,eA dX,_,aaI,_,aaJ,?_⟩;show kk (!decide (f=g));by_cases z:f=g;rw[ν z];refine k2 ?_;subst z;by_cases y:k=st;exact y;exact absurd dX (rY _ h1 k (by lia) qs);rw[π z];refine k1 λy=>?_;subst y;rw[h2] at dX;cases dX;exact z rfl
 |_=>exact⟨_,eA dX,_,aaH,k1 λy=>by subst y;rw[h2] at dX;cases dX⟩
 rw[ι rfl];exact⟨st-(k+1),by lia,k+1,rfl,by lia,rfl⟩;subst hs;rw[η ja];refine⟨λm ρ=>∃j:Nat,ρ=[aD (.lst (rs.map aR)),aD (.int (h:Int)),aD (aR (.call x g as)),aD (.int (k:Int)),aD (.int (j:Int)),none,none,none]/\k<=j/\j<=e/\m=e-j,⟨_,k,rfl,cc _,by lia,rfl⟩,?_⟩;rintro m ρ ⟨j,rfl,hj,hje,rfl⟩;obtain⟨r,DQ⟩:∃r,rs[j]?=some r:=⟨_,jj (by lia)⟩;have nxt:(∀o,r≠.give o)->∃m',m'<e-j/\∃j':Nat,[aD (T.lst (rs.map aR)),aD (.int (h:Int)),aD (aR (.call x g as)),aD (.int (k:Int)),aD (.int ((j:Int)+1)),none,none,none]=[aD (.lst (rs.map aR)),aD (.int (h:Int)),aD (aR (.call x g as)),aD (.int (k:Int)),aD (.int (j':Int)),none,none,none]/\k<=j'/\j'<=e/\m'=e-j':=λng=>by
  have:j≠e:=λz=>by subst z;rw[h4] at DQ;cases DQ;exact ng _ rfl
  exact⟨e-(j+1),by lia,j+1,rfl,by lia,by lia,rfl⟩
 cases r with
 |give o2=>
  have:j=e:=by by_cases z:j=e;exact z;exact absurd DQ (g4 j hj (by lia) o2)
  subst this;refine⟨_,eA DQ,_,aaH,bJ (by simp),_,eA h2,_,aaJ,_,aaK,?_⟩;show gX (lZ (ps.map T.str) (as.map l7)) _ _ _ _;rw[eC.zip_map];refine dq (λn ρ=>∃ts b6 b7,ρ=[aD (.lst (rs.map aR)),aD (.int (h:Int)),aD (aR (.call x g as)),aD (.int (k:Int)),aD (.int (j:Int)),some (.lst ts,true),b6,b7]/\ts=(((ps.zip as).take n).flatMap λz=>pJ (.nm k z.1) h z.2).map jB) ⟨_,none,none,rfl,rfl⟩ ?_ ?_;rintro n ⟨z1,z2⟩ ρ hz ⟨ts,b6,b7,rfl,Bp⟩;have hn:n<(ps.zip as).length:=(dz.mp hz).1;have es:(((ps.zip as).take (n+1)).flatMap λz=>pJ (.nm k z.1) h z.2).map jB=ts++(pJ (.nm k z1) h z2).map jB:=by
   rw[Bp,N7,hz,List.flatMap_append,p_]
   congr 2
   show pJ _ _ _++[]=_;rw[BH]
  have hs:ts.length<sizeLine:=by
   have:=fu (f:=λz:Str×ix=>pJ (.nm k z.1) h z.2) (m:=1) (λz=>by cases z.2<;>simp[pJ]) ((ps.zip as).take n);rw[Bp,bX,ς];rw[IT] at this;rw[DY] at hn this
   lia
  cases z2 with
  |nm y=>exact⟨rfl,rfl,rfl,bJ (by simp),bJ (by simp),bJ (by simp),hs,_,_,_,rfl,es.symm⟩
  |nu i=>exact⟨rfl,rfl,rfl,_,_,_,rfl,by rw[es];exact (BH _).symm⟩
  rintro ρ ⟨ts,b6,b7,rfl,Bp⟩;rw[Mw] at Bp;have hs:ts.length<sizeLine:=by
   have:=fu (f:=λz:Str×ix=>pJ (.nm k z.1) h z.2) (m:=1) (λz=>by cases z.2<;>simp[pJ]) (ps.zip as);rw[Bp,bX,ς];rw[DY] at this
   lia
  rw[p_,<- Bp] at hq;refine⟨_,eA h4,_,aaI,?_⟩;cases o with
  |nm y=>exact⟨rfl,_,aaI,bJ (by simp),_,eA h4,_,aaI,bJ (by simp),bJ (by simp),hs,hq⟩
  |nu i=>exact⟨rfl,by show q (.fr (.lst ts));rw[show ts=ts++(pJ (.nm h x) k (.nu i)).map jB from (BH _).symm];exact hq⟩
 |_=>exact⟨_,eA DQ,_,aaH,nxt λ_ z=>nomatch z⟩
noncomputable abbrev Ma:ω:=["_law_program_here","_law_homes_here","_law_moves_here","_law_k","_law_row","_law_home"]
def xQ:aJ Ma qaM (aq uS):=L2.il
def HV(D:Df K mg "_law_moves" uS qaM f fd)(M:IP mg)(Mb:cC P w K mg base "_law_homes" qaM 1 (cM K 1 HP))(By:cC P w K mg base "_law_class" qaL 1 (cM K 1 mB))(uX:cC P w K mg base "_law_call_moves" qaN 1 (cM K 3 HQ)):cC P w K mg base "_law_moves" qaM 2 (cM K 1 HR):=by
 refine D.ic (kr D.F xQ rfl λbP A outer s H E Ox hr ts q hG=>?_);have nd:=xQ.nd;have hu:=bA.eD hr;have np:∀{i:Nat},bh ⟨H,[],Ox⟩ i:=ie;refine⟨_,(ag (aK (i:=1) nd rfl (.inl rfl) (fv (aW Mb hr (aa (ah 0) aj))) np)
  (ag (cJ (i:=2) nd rfl (.inl rfl) (fv (bO aj)) np)
  (ag (cZ nz rfl (kq (by rfl) M.enumerate (ah 0)) (dc (n:=2) rfl (aN (aC (i:=3) nd rfl (.inl rfl) np) (aN (aC (i:=4) nd rfl (.inl rfl) np) cw)))
   (ag (aK (i:=5) nd rfl (.inl rfl) (fv (ay (ae 1) (ae 3))) np)
   (ak (bf (bz hu (ο (ay (ae 4) (ο af))) (ο ax))
    (ak (bp (cA 2 mM mO aS aO (aa (χ (aP (aa (χ (aP (aa (χ ax) (aa (ah 5) (aa (χ (ay (ae 4) (ο af))) (aa (χ ax) aj)))))) (aa (χ (aP (aa (χ ax) (aa (ah 3) (aa (χ ax) (aa (χ ax) aj)))))) aj)))) aj))))
    (ak (bf (VW.vc (c_ (bz hu (ο (ay (ae 4) (ο af))) (ο ax)) (cK (cH (cj dm (by rfl) M.isinstance (by rfl) M.str ku (ο (ay (ae 4) (ο af))))))))
     (ak (bp (cA 2 mM mO aS aO (aa (χ (aP (aa (χ (aP (aa (χ ax) (aa (ah 5) (aa (χ (ay (ae 4) (ο af))) (aa (χ ax) aj)))))) (aa (χ (aP (aa (χ ax) (aa (ah 5) (aa (χ (ay (ae 4) (ο af))) (aa (χ ax) aj)))))) aj)))) aj))))
     (ak (bf (bz hu (ο (ay (ae 4) (ο af))) (ο ax))
      (ak (bp (cA 2 mM mO aS aO (aa (χ (aP (aa (χ (aP (aa (χ ax) (aa (ah 5) (aa (χ (ay (ae 4) (ο af))) (aa (χ ax) aj)))))) (aa (χ (aP (aa (χ ax) (aa (ah 5) (aa (χ (ay (ae 4) (ο af))) (aa (χ (aW By hr (aa (χ (ay (ae 4) (ο af))) aj))) aj)))))) aj)))) aj))))
      (ak (bf (VW.vc (c_ (bz hu (ο (ay (ae 4) (ο af))) (ο ax)) (cK (cH (cj dm (by rfl) M.isinstance (by rfl) M.str ku (ο (ay (ae 4) (ο af))))))))
       (ak (bp (cA 2 mM mO aS aO (aa (χ (aP (aa (χ (aP (aa (χ ax) (aa (ah 5) (aa (χ (ay (ae 4) (ο af))) (aa (χ (aW By hr (aa (χ (ay (ae 4) (ο af))) aj))) aj)))))) (aa (χ (aP (aa (χ ax) (aa (ah 5) (aa (χ (ay (ae 4) (ο af))) (aa (χ ax) aj)))))) aj)))) aj))))
       (ak (bf (bz hu (ο (ay (ae 4) (ο af))) (ο ax))
        (ak (cJ (i:=2) nd rfl (.inl rfl) (fv (cu (ae 2) (ο (aW uX hr (aa (ah 0) (aa (ah 5) (aa (ah 4) aj))))))) np))
        aI))))))))))))
  (ak (aH (fJ 2 np)))))),λ_=>?_⟩
 obtain⟨rs,rfl,p,hq⟩:=hG;have hn:=p.le;refine⟨rfl,rs,rfl,p.B,by lia,bJ (by simp),?_⟩;refine l_ (λi ρ=>∃ts b3 b4 b5,ρ=[aD (.lst (rs.map aR)),aD (.lst (jN rs)),some (.lst ts,true),b3,b4,b5]/\ts=(iL rs i).map jB) ⟨_,none,none,none,rfl,rfl⟩ ?_ ?_;rintro i r ρ hr ⟨ts,b3,b4,b5,rfl,Bp⟩;have hi:=(dz.mp hr).1;have em:=GX rs i;have hs:ts.length<sizeLine:=by have:=p.len.2 i (by lia);rw[Bp,bX,ς];lia
 have hk:=p.ky r (f_ hr);have V0:=p.B.V0 hr;have nil:∀t5:T,(∀h,g6 (bC rs) i=some h->IL rs i h r=[])->∃gy b3 b4 b5,[aD (T.lst (rs.map aR)),aD (.lst (jN rs)),some (.lst ts,true),aD (.int (i:Int)),aD (aR r),aD t5]=[aD (.lst (rs.map aR)),aD (.lst (jN rs)),some (.lst gy,true),b3,b4,b5]/\gy=(iL rs (i+1)).map jB:=λt5 z=>⟨_,_,_,_,rfl,by
  have:GW rs i=[]:=by
   unfold GW;rw[hr];cases h:g6 (bC rs) i with
   |none=>rfl
   |some h'=>exact z h' h
  rw[em,this,BH];exact Bp⟩
 have WC:∀x:Str,wd r=x->decide (x="def")=false->decide (x="skip")=false->∃h,g6 (bC rs) i=some h/\jc (jN rs) (i:Int)=some (.int (h:Int))/\GW rs i=IL rs i h r:=λx e y1 y2=>by
  have z1:wd r≠"def":=by rw[e];exact of_decide_eq_false y1
  have z2:wd r≠"skip":=by rw[e];exact of_decide_eq_false y2
  have:g6 (bC rs) i=(st (bC rs) i).head?:=by unfold g6;rw[du hr];cases r<;>first|rfl|exact absurd rfl z1
  cases hl:st (bC rs) i with
  |nil=>exact absurd hl (V0 z1 z2)
  |cons a l=>rw[hl] at this;exact⟨a,this,(t_ hi).trans (by rw[this];rfl),by unfold GW;rw[hr,this];rfl⟩
 have add:∀(us:Ψ)(t5:T),us=(GW rs i).map jB->∃gy b3 b4 b5,[aD (T.lst (rs.map aR)),aD (.lst (jN rs)),some (.lst (ts++us),true),aD (.int (i:Int)),aD (aR r),aD t5]=[aD (.lst (rs.map aR)),aD (.lst (jN rs)),some (.lst gy,true),b3,b4,b5]/\gy=(iL rs (i+1)).map jB:=λus t5 e=>⟨_,_,_,_,rfl,by rw[em,p_,Bp,e]⟩;cases r with
 |new x=>obtain⟨h,h1,h2,h3⟩:=WC "new" rfl (by decide +kernel) (by decide +kernel);exact⟨rfl,rfl,_,h2,_,aaH,_,aaI,bJ (by simp),bJ (by simp),bJ (by simp),hs,add [_] _ (by rw[h3];rfl)⟩
 |put x o=>
  obtain⟨h,h1,h2,h3⟩:=WC "put" rfl (by decide +kernel) (by decide +kernel);refine⟨rfl,rfl,_,h2,_,aaH,_,aaH,_,aaJ,?_⟩;cases o with
  |nm y=>exact⟨rfl,_,aaI,bJ (by simp),_,aaJ,bJ (by simp),bJ (by simp),hs,add [_] _ (by rw[h3];rfl)⟩
  |nu _=>exact⟨rfl,_,aaH,_,aaH,_,aaH,nil _ λ_ _=>rfl⟩
 |get x y k=>obtain⟨h,h1,h2,h3⟩:=WC "get" rfl (by decide +kernel) (by decide +kernel);exact⟨rfl,rfl,_,h2,_,aaH,_,aaH,_,aaH,_,aaI,bJ (by simp),_,aaJ,_,aaK,rfl,k,rfl,hk,bJ (by simp),bJ (by simp),hs,add [_] _ (by rw[h3];rfl)⟩
 |set y k o=>
  obtain⟨h,h1,h2,h3⟩:=WC "set" rfl (by decide +kernel) (by decide +kernel);refine⟨rfl,rfl,_,h2,_,aaH,_,aaH,_,aaH,_,aaH,_,aaK,?_⟩;cases o with
  |nm z=>exact⟨rfl,_,aaI,_,aaJ,rfl,k,rfl,hk,bJ (by simp),_,aaK,bJ (by simp),bJ (by simp),hs,add [_] _ (by rw[h3];rfl)⟩
  |nu _=>exact⟨rfl,_,aaH,nil _ λ_ _=>rfl⟩
 |call x g as=>
  obtain⟨h,h1,h2,h3⟩:=WC "call" rfl (by decide +kernel) (by decide +kernel);obtain⟨c1,⟨s',ps,o⟩,c2⟩:=p.cl x g as (f_ hr);refine⟨rfl,rfl,_,h2,_,aaH,_,aaH,_,aaH,_,aaH,_,aaH,rfl,rs,x,g,as,h,s',ps,o,rfl,p.B,c1,c2,?_⟩;have e:IL rs i h (.call x g as)=(ps.zip as).flatMap (λz=>pJ (.nm s' z.1) h z.2)++pJ (.nm h x) s' o:=by simp only[IL,c2]
  rw[<- e,<- h3];refine⟨?_,add _ _ rfl⟩;have:=p.len.2 (i+1) (by lia);rw[em,nX] at this;rw[Bp,bX,bX,ς]
  lia
 |_=>exact⟨rfl,rfl,_,t_ hi,_,aaH,_,aaH,_,aaH,_,aaH,_,aaH,nil _ λ_ _=>rfl⟩
 rintro ρ ⟨ts,b3,b4,b5,rfl,rfl⟩;exact hq
end
def Rm:Pl->Prop
 |.nm _ _=>True
 |.cl _ _ _=>True
 |_=>False
noncomputable def pW(o:Obj)(E:List Ent):T:=.df o (cF E) (cT E)
def HW(ts:Ψ)(q:qam):Prop:=∃(E F:List Ent)(o1 o2:Obj)(p:Pl),ts=[pW o1 E,pW o2 F,Rk p]/\(F.map (·.1)).Nodup/\(∀e∈F,0<=e.1.1)/\Rl p/\q (.vw (.int (f6 E F p)))
def HX(ts:Ψ)(q:qam):Prop:=∃(E:List Ent)(o1:Obj)(p:Pl),ts=[pW o1 E,Rk p]/\Rm p/\q (.fr (.lst ((fA E p).map λk=>.kt (kK k))))
def uY(ts:Ψ)(q:qam):Prop:=∃(E F:List Ent)(o1 o2:Obj)(m:Mv),ts=[pW o1 E,pW o2 F,jB m]/\(F.map (·.1)).Nodup/\(∀e∈F,0<=e.1.1)/\Rl m.2/\Rm m.1/\q (.fr (.lst ((bL E F m).map λk=>.kt (kK k))))
def HY(ts:Ψ)(q:qam):Prop:=∃(E F:List Ent)(o1 o2:Obj),ts=[pW o1 E,pW o2 F]/\(E.map (·.1)).Nodup/\(F.map (·.1)).Nodup/\E.length<=100000/\F.length<=100000/\(∀e∈E,0<=e.2)/\(∀e∈F,0<=e.2)/\∀bs cs:List TS.Tr,bs.Perm (qc E)->bs.Pairwise (λa b=>TS.dy b a=false)->cs.Perm (qc F)->cs.Pairwise (λa b=>TS.dy b a=false)->q (.vw (.tup [.lst (bs.map TS.tT),.lst (cs.map TS.tT)]))
noncomputable def WD(q:qam):FS:=λd ρ=>∃(E F:List Ent)(o1 o2:Obj)(p:T)(h:Nat)(y c:Str)(b:Bool),ρ=[aD (pW o1 E),aD (pW o2 F),aD p,aD (.str (if b=true then "name" else "cells")),aD (.int (h:Int)),aD (.str y),aD (.str c),aD (.int (bo E (nk h y))),none,none,none]/\(F.map (·.1)).Nodup/\(∀e∈F,0<=e.1.1)/\q (.vw (.int (if b=true then bo E (nk h y) else NB (pC (bo E (nk h y)) c) F)))/\∀ρ r,q r->d.rt ρ r
noncomputable def WE(q:qam):FS:=λd ρ=>∃(E:List Ent)(o1:Obj)(p:T)(h:Nat)(y c:Str),ρ=[aD (pW o1 E),aD p,aD (.str "cells"),aD (.int (h:Int)),aD (.str y),aD (.str c),aD (.int (bo E (nk h y)))]/\q (.fr (.lst ((fA E (.cl h y c)).map λk=>.kt (kK k))))/\∀ρ r,q r->d.rt ρ r
def Bz(E:List Ent):(qc E).length<=E.length:=by unfold qc;rw[bX];exact SA _ E
def BA{E:List Ent}(h:∀e∈E,0<=e.2):(E.zipIdx.filter λp=>decide (p.1.2 > 0)).map (λp:Ent×Nat=>TS.tT (p.1.1.1,p.1.1.2,p.1.2))=(qc E).map TS.tT:=by
 have e1:(E.zipIdx.filter λp=>decide (p.1.2 > 0)).map (λp:Ent×Nat=>p.1)=E.filter λe=>decide (e.2 > 0):=by
  conv=>rhs;rw[<- List.zipIdx_map_fst 0 E,List.filter_map]
  rfl
 have e2:(E.filter λe=>decide (e.2 > 0))=E.filter λe=>!decide (e.2=0):=List.filter_congr λe he=>by have:=h e he;by_cases z:e.2=0;simp[z];rw[ν (show e.2 > 0 by lia),π z];rfl
 unfold qc;rw[<- e2,<- e1,sr,sr];rfl
section
noncomputable abbrev WG:ω:=["_law_names","_law_cells","_law_origin","_law_word","_law_home","_law_name","_law_kind","_law_some","_law_total","_law_row","_law_other"]
def HZ:aJ WG qaO (aq HN):=L2.il
def Ro(D:Df K mg "_law_had" HN qaO f fd):cC P w K mg base "_law_had" qaO 1 (cM K 3 HW):=by
 refine D.ic (kr D.F HZ rfl λbP A outer s H E Ox hr ts q hG=>?_);have nd:=HZ.nd;have hu:=bA.eD hr;have np:∀{i:Nat},bh ⟨H,[],Ox⟩ i:=ie;have je:=kJ hu;refine⟨_,(ag (sW (ah 2) (dc (n:=4) rfl (aN (aC (i:=3) nd rfl (.inl rfl) np) (aN (aC (i:=4) nd rfl (.inl rfl) np) (aN (aC (i:=5) nd rfl (.inl rfl) np) (aN (aC (i:=6) nd rfl (.inl rfl) np) cw))))))
  (ag (bf (bz hu (ae 3) (ο ax))
   (ak (aH (fv (EN (ο af) (ae 4)))))
   aI)
  (ag (aK (i:=7) nd rfl (.inl rfl) (fv (F9 je (ae 0) (aa (ah 4) (aa (ah 5) aj)) (χ af) ⟨rfl,rfl,rfl,rfl⟩)) np)
  (ir.weak (u:=(WD q)) (ag (bf (bz hu (ae 3) (ο ax))
   (ak (aH (fv (VE.vp (ah 7)))))
   aI)
  (ag (aK (i:=8) nd rfl (.inl rfl) (fv af) np)
  (ag (cZ nz rfl (La (ah 1)) (dc (n:=2) rfl (aN (aC (i:=9) nd rfl (.inl rfl) np) (aN (aC (i:=10) nd rfl (.inl rfl) np) cw)))
   (ak (bf (VW.vc (c_ (bz hu (ae 10) (ae 6)) (cK (bz hu (ο (bq (ο (yL (ae 7) (ae 9))) (ο af))) (ο af)))))
    (ak (aK (i:=8) nd rfl (.inl rfl) (fv (sU (ae 8) (ο (Lb je (ae 1) (aa (ah 9) (aa (ah 10) aj)))))) np))
    aI)))
  (ak (aH (fv (VE.vp (ah 8)))))))) ?w1)))),λ_=>?main⟩
 case w1=>
  rintro d ρ ⟨E,F,o1,o2,p,h,y,c,b,rfl,nd,ps,hq,fin⟩;cases b with
  |true=>exact fin _ _ hq
  |false=>
   have hq:q (.vw (.int (NB (pC (bo E (nk h y)) c) F))):=hq;have ek:(cF F).map F1=F.map λe=>F1 (kK e.1):=by unfold cF;rw[sr];rfl
   show gX ((cF F).map F1) _ _ _ _;rw[ek];refine dq (λn ρ=>∃v b9 DT,ρ=[aD (pW o1 E),aD (pW o2 F),aD p,aD (.str "cells"),aD (.int (h:Int)),aD (.str y),aD (.str c),aD (.int (bo E (nk h y))),aD (.int v),b9,DT]/\v=NB (pC (bo E (nk h y)) c) (F.take n)) ⟨_,none,none,rfl,rfl⟩ ?_ ?_;rintro n e ρ he ⟨_,b9,DT,rfl,rfl⟩;have hs:=Lo (p:=pC (bo E (nk h y)) c) he;have h0:=ps e (f_ he);have hb:bo E (nk h y) / 2 ^ e.1.1.toNat % 2=1↔ib (bo E (nk h y)) e.1.1.toNat=true:=⟨λz=>ν z,υ⟩;refine⟨rfl,rfl,cN (λz1=>⟨h0,(by show (0:Int)<2;decide),cN (λz2=>?_) (λz2=>?_)⟩) (λz1=>?_)⟩;have hp:pC (bo E (nk h y)) c e.1=true:=by unfold pC;rw[ν z1,yh];exact hb.mp z2
   refine⟨bJ (by simp),.int e.2,uu nd (f_ he),_,_,_,rfl,?_⟩;rw[hs];unfold NA;rw[ι hp];have hp:¬ pC (bo E (nk h y)) c e.1=true:=λz=>z2 (by unfold pC at z;rw[ij] at z;exact hb.mpr z.2);refine⟨_,_,_,rfl,?_⟩;rw[hs];unfold NA;rw[η hp];have hp:¬ pC (bo E (nk h y)) c e.1=true:=λz=>z1 (by unfold pC at z;rw[ij] at z;exact υ z.1);refine⟨_,_,_,rfl,?_⟩;rw[hs];unfold NA;rw[η hp];rintro ρ ⟨_,b9,DT,rfl,rfl⟩;rw[Mw];exact fin _ _ hq
 case main=>
  obtain⟨E,F,o1,o2,p,rfl,nd,ps,pk,hq⟩:=hG;have go:∀(b:Bool)(h:Nat)(y c:Str)(p:T),q (.vw (.int (if b=true then bo E (nk h y) else NB (pC (bo E (nk h y)) c) F)))->WD q {nx:=λx=>q (.vw .bB),rt:=λx r=>q r} [aD (pW o1 E),aD (pW o2 F),aD p,aD (.str (if b=true then "name" else "cells")),aD (.int (h:Int)),aD (.str y),aD (.str c),aD ((cb (cF E) (cT E) (kK (nk h y))).getD (.int 0)),none,none,none]:=λb h y c p hq=>by rw[fq];exact⟨E,F,o1,o2,p,h,y,c,b,rfl,nd,ps,hq,λ_ _ h=>h⟩
  cases p with
  |rw i=>have pk:i<=1000:=pk;exact⟨rfl,rfl,⟨by lia,by lia,by decide⟩,hq⟩
  |nm h y=>exact⟨rfl,rfl,bJ (by simp),go true h y "" _ hq⟩
  |cl h y c=>exact⟨rfl,rfl,bJ (by simp),go false h y c _ hq⟩
  |zr=>exact pk.elim
noncomputable abbrev BB:ω:=["_law_names","_law_goal","_law_word","_law_home","_law_name","_law_kind","_law_some"]
def xR:aJ BB qaP (aq uT):=L2.il
def xS:(BB++(["_law_row"]:ω)).Nodup:=by decide +kernel
def H_(D:Df K mg "_law_goals" uT qaP f fd)(M:IP mg):cC P w K mg base "_law_goals" qaP 1 (cM K 2 HX):=by
 refine D.ic (kr D.F xR rfl λbP A outer s H E Ox hr ts q hG=>?_);have nd:=xR.nd;have hu:=bA.eD hr;have np:∀{i:Nat},bh ⟨H,[],Ox⟩ i:=ie;have je:=kJ hu;refine⟨_,(ag (sW (ah 1) (dc (n:=4) rfl (aN (aC (i:=2) nd rfl (.inl rfl) np) (aN (aC (i:=3) nd rfl (.inl rfl) np) (aN (aC (i:=4) nd rfl (.inl rfl) np) (aN (aC (i:=5) nd rfl (.inr rfl) np) cw))))))
  (ag (bf (bz hu (ae 2) (ο ax))
   (ak (aH (fv (bO (aa (χ (cy (aa (ah 3) (aa (ah 4) aj)))) aj)))))
   aI)
  (ag (aK (i:=6) nd rfl (.inr rfl) (fv (F9 je (ae 0) (aa (ah 3) (aa (ah 4) aj)) (χ af) ⟨rfl,rfl,rfl,rfl⟩)) np)
  (ir.weak (u:=(WE q)) (ak (aH (fv (fK (ts:=["_law_row"]) rfl (by rfl) (cV (by rfl) M.range (ο af)) (λ_ _ _ _ _ _=>(aC (i:=7) xS rfl (.inl rfl) np)) (λ_ _ _ _ _ _=>(iT (bz hu (ο (bq (ο (yL (ae 6) (ae 7))) (ο af))) (ο af)))) (λ_ _ _ _ _ _=>(χ (cy (aa (ah 7) (aa (ah 5) aj))))))))) ?w1)))),λ_=>?main⟩
 case w1=>
  rintro d ρ ⟨E,o1,p,h,y,c,rfl,hq,fin⟩;have hr:((rangeT 0 60).filter λt=>match t with | .int i=>ib (bo E (nk h y)) i.toNat|_=>false)=((List.range 60).filter (ib (bo E (nk h y)))).map λ(j:Nat)=>T.int (j:Int):=by
   unfold rangeT;rw[List.filter_map];have e:((λt:T=>match t with | .int i=>ib (bo E (nk h y)) i.toNat|_=>false) ∘ λ(i:Nat)=>T.int (0+(i:Int)))=ib (bo E (nk h y)):=by funext i;show ib _ (0+(i:Int)).toNat=_;rw[D0,lh]
   rw[e];exact DW λi _=>by rw[D0]
  refine⟨rfl,by decide,by decide,by rw[eW];exact bJ (by decide),?_⟩;refine iU (λt=>match t with | .int i=>ib (bo E (nk h y)) i.toNat|_=>false) (λt=>match t with | .int i=>.kt (kK (i,c))|_=>.bB) (λt ht k r hx=>?_) ?_;obtain⟨i,hi⟩:=Mt.mp ht;obtain⟨_,rfl⟩:=gG hi;rw[D0] at hx ⊢;refine⟨by lia,by decide,?_⟩;have hx:if ib (bo E (nk h y)) ((i:Int)).toNat=true then r [.kt (kK ((i:Int),c))] else r []:=hx
  show if ib (bo E (nk h y)) ((i:Int)).toNat=true then (2<=sizeLine/\r [.kt (kK ((i:Int),c))]) else r []
  by_cases z:ib (bo E (nk h y)) ((i:Int)).toNat=true;rw[ι z] at hx ⊢;exact⟨bJ (by decide),hx⟩;rw[η z] at hx ⊢;exact hx;refine fin _ _ ?_;show q (.fr (.lst (((rangeT 0 60).filter λt=>match t with | .int i=>ib (bo E (nk h y)) i.toNat|_=>false).map λt=>match t with | .int i=>.kt (kK (i,c))|_=>.bB)));rw[hr,sr];unfold fA at hq;rw[sr] at hq;exact hq
 case main=>
  obtain⟨E,o1,p,rfl,hp,hq⟩:=hG;cases p with
  |rw i=>exact hp.elim
  |zr=>exact hp.elim
  |nm h x=>exact⟨rfl,rfl,bJ (by simp),bJ (by simp),hq⟩
  |cl h y c=>refine⟨rfl,rfl,bJ (by simp),?_⟩;show WE q _ [aD (pW o1 E),aD (Rk (.cl h y c)),aD (.str "cells"),aD (.int (h:Int)),aD (.str y),aD (.str c),aD ((cb (cF E) (cT E) (kK (nk h y))).getD (.int 0))];rw[fq];exact⟨E,o1,_,h,y,c,rfl,hq,λ_ _ h=>h⟩
noncomputable abbrev BC:ω:=["_law_names","_law_cells","_law_move","_law_goal","_law_origin","_law_some","_law_where"]
def xT:aJ BC qaQ (aq uU):=L2.il
def xU:(BC++(["_law_key_here"]:ω)).Nodup:=by decide +kernel
def Ia(D:Df K mg "_law_lacks" uU qaQ f fd)(M:IP mg)(Ib:cC P w K mg base "_law_had" qaO 1 (cM K 3 HW))(Mc:cC P w K mg base "_law_goals" qaP 1 (cM K 2 HX)):cC P w K mg base "_law_lacks" qaQ 2 (cM K 3 uY):=by
 refine D.ic (kr D.F xT rfl λbP A outer s H E Ox hr ts q hG=>?_);have nd:=xT.nd;have hu:=bA.eD hr;have np:∀{i:Nat},bh ⟨H,[],Ox⟩ i:=ie;have je:=kJ hu;refine⟨_,(ag (sW (ah 2) (dc (n:=2) rfl (aN (aC (i:=3) nd rfl (.inl rfl) np) (aN (aC (i:=4) nd rfl (.inl rfl) np) cw))))
  (ag (aK (i:=5) nd rfl (.inr rfl) (fv (aW Ib hr (aa (ah 0) (aa (ah 1) (aa (ah 4) aj))))) np)
  (ag (aK (i:=6) nd rfl (.inr rfl) (fv (ay (ο (bO (aa (ah 1) (aa (ah 0) aj)))) (ο (gj qW oU (by rfl) M.int AD (aM (ο (rj hu (ο (ay (ae 3) (ο af))) (ο ax))) aX))))) np)
  (ak (aH (fv (fK (ts:=qaL) rfl (by rfl) (jJ (χ (aW Mc hr (aa (ah 0) (aa (ah 3) aj))))) (λ_ _ _ _ _ _=>(aC (i:=7) xU rfl (.inl rfl) np)) (λ_ _ _ _ _ _=>(iT (kh hu (ο (sU (ο (fj je (ae 6) (ah 7) (χ af) ⟨rfl,rfl,rfl,rfl⟩)) (ae 5))) (ο (fj je (ae 6) (ah 7) (χ af) ⟨rfl,rfl,rfl,rfl⟩))))) (λ_ _ _ _ _ _=>(ah 7))))))))),λ_=>?_⟩
 obtain⟨E,F,o1,o2,m,rfl,nd,ps,pk,hp,hq⟩:=hG;refine⟨rfl,rfl,rfl,E,F,o1,o2,m.2,rfl,nd,ps,pk,?_⟩;obtain⟨g,o⟩:=m;have gl:((fA E g).map λk=>T.kt (kK k)).length<=sizeLine:=by
  rw[bX];cases g with
  |nm h x=>exact bJ (by simp[fA])
  |rw i=>exact bJ (by simp[fA])
  |zr=>exact bJ (by simp[fA])
  |cl h y c=>unfold fA;rw[bX];have:=SA (ib (bo E (nk h y))) (List.range 60);rw[z8] at this;exact bJ (by lia)
 have fin:∀(EE:List Ent)(oo:Obj),(∀k,Tb.get ⟨E,F,false⟩ (isNm g) k=bo EE k)->c6 (hName 7) (lH (f2 (fT (f2 (fT (zt (dD 6) (dB 7) (fT (fC (.int 0))))) (dD 5) sT)) (fT (zt (dD 6) (dB 7) (fT (fC (.int 0))))) MT)) (dB 7) [aD (pW o1 E),aD (pW o2 F),aD (jB (g,o)),aD (Rk g),aD (Rk o),aD (.int (f6 E F o)),aD (pW oo EE),none] ((fA E g).map λk=>T.kt (kK k)) λus=>q (.fr (.lst us)):=λEE oo hg=>by
  refine dQ (f:=λk=>T.kt (kK k)) (u:=λk=>T.kt (kK k)) (p:=λk=>!decide (bitOr (Tb.get ⟨E,F,false⟩ (isNm g) k) (f6 E F o)=Tb.get ⟨E,F,false⟩ (isNm g) k)) (λ_ _ _ _ _=>trivial) (λk _ r s hk=>?_) hq;rw[hg] at hk;show sT ((cb (cF EE) (cT EE) (kK k)).getD (.int 0)) (.int (f6 E F o)) λx=>MT x.t ((cb (cF EE) (cT EE) (kK k)).getD (.int 0)) λy=>match y with | .vw (.bl b)=>if b=true then r (.kt (kK k)) else s|_=>False
  rw[fq];exact hk
 cases g with
 |rw i=>exact hp.elim
 |zr=>exact hp.elim
 |nm h x=>exact⟨bJ (by simp),_,aaH,_,aaI,rfl,rfl,E,o1,_,rfl,hp,gl,fin E o1 λ_=>rfl⟩
 |cl h y c=>exact⟨bJ (by simp),_,aaH,_,aaH,rfl,rfl,E,o1,_,rfl,hp,gl,fin F o2 λ_=>rfl⟩
noncomputable abbrev uZ:ω:=["_law_names","_law_cells","_law_first"]
def xV:aJ uZ qaR (aq uV):=L2.il
def xW:(uZ++(["_law_key_here"]:ω)).Nodup:=by decide +kernel
def xX:(uZ++(["_law_key_here"]:ω)).Nodup:=by decide +kernel
def Ic(D:Df K mg "_law_table" uV qaR f fd)(M:IP mg):cC P w K mg base "_law_table" qaR 1 (cM K 2 HY):=by
 refine D.ic (kr D.F xV rfl λbP A outer s H E Ox hr ts q hG=>?_);have nd:=xV.nd;have hu:=bA.eD hr;have np:∀{i:Nat},bh ⟨H,[],Ox⟩ i:=ie;have je:=kJ hu;refine⟨_,(ag (aK (i:=2) nd rfl (.inl rfl) (fv (aY TS.dP TS.iK (by rfl) M.sorted k0 (aM (ο (fK (ts:=qaL) rfl (by rfl) (xf (ah 0)) (λ_ _ _ _ _ _=>(aC (i:=3) xW rfl (.inl rfl) np)) (λ_ _ _ _ _ _=>(iT (vX (ο (nT je (ae 0) (ae 3))) (ο af)))) (λ_ _ _ _ _ _=>(χ (aP (aa (χ (ay (uj (ae 3)) (ο af))) (aa (χ (ay (uj (ae 3)) (ο af))) (aa (χ (nT je (ae 0) (ae 3))) aj)))))))) aX))) np)
  (ak (aH (fv (aP (aa (ah 2) (aa (χ (aY TS.dP TS.iK (by rfl) M.sorted k0 (aM (ο (fK (ts:=qaL) rfl (by rfl) (xf (ah 1)) (λ_ _ _ _ _ _=>(aC (i:=3) xX rfl (.inl rfl) np)) (λ_ _ _ _ _ _=>(iT (vX (ο (nT je (ae 1) (ae 3))) (ο af)))) (λ_ _ _ _ _ _=>(χ (aP (aa (χ (ay (uj (ae 3)) (ο af))) (aa (χ (ay (uj (ae 3)) (ο af))) (aa (χ (nT je (ae 1) (ae 3))) aj)))))))) aX))) aj))))))),λ_=>?_⟩
 obtain⟨E,F,o1,o2,rfl,n1,n2,l1,l2,p1,p2,hq⟩:=hG;have ep:∀(E:List Ent)(o:Obj),pd o (cF E)=E.zipIdx.map λp=>.pin (qK o p.2) (F1 (kK p.1.1)):=λE o=>by unfold pd cF;rw[List.zipIdx_map,sr];rfl
 have pl:∀(E:List Ent)(o:Obj),E.length<=100000->(pd o (cF E)).length<=sizeLine:=λE o h=>by rw[xc];unfold cF;rw[bX,ς];lia
 refine⟨rfl,pl E o1 l1,?_⟩;show c6 _ _ _ _ (pd o1 (cF E)) _;rw[ep];refine dQ (u:=λp:Ent×Nat=>TS.tT (p.1.1.1,p.1.1.2,p.1.2)) (p:=λp=>decide (p.1.2 > 0)) (λ_ _ _ _ _=>trivial) (λp hp r s hr=>?_) ?_;obtain⟨e,i⟩:=p;have hi:E[i]?=some e:=List.mem_zipIdx_iff_getElem?.mp hp;have hk:(cF E)[i]?=some (kK e.1):=by unfold cF;rw[fD,hi];rfl
 have hg:=uu n1 (f_ hi);refine⟨i,kK e.1,.int e.2,rfl,hk,hg,?_⟩;show if decide (e.2 > 0)=true then _ else s
 by_cases z:decide (e.2 > 0)=true;rw[ι z] at hr ⊢;exact⟨_,aaH,_,aaI,i,kK e.1,.int e.2,rfl,hk,hg,bJ (by simp),hr⟩;rw[η z] at hr ⊢;exact hr;show TS.zA [.lst _] _;refine⟨qc E,by rw[BA p1],ll (Bz E) l1,λbs pb sb=>?_⟩;refine⟨rfl,pl F o2 l2,?_⟩;show c6 _ _ _ _ (pd o2 (cF F)) _;rw[ep];refine dQ (u:=λp:Ent×Nat=>TS.tT (p.1.1.1,p.1.1.2,p.1.2)) (p:=λp=>decide (p.1.2 > 0)) (λ_ _ _ _ _=>trivial) (λp hp r s hr=>?_) ?_;obtain⟨e,i⟩:=p;have hi:F[i]?=some e:=List.mem_zipIdx_iff_getElem?.mp hp;have hk:(cF F)[i]?=some (kK e.1):=by unfold cF;rw[fD,hi];rfl
 have hg:=uu n2 (f_ hi);refine⟨i,kK e.1,.int e.2,rfl,hk,hg,?_⟩;show if decide (e.2 > 0)=true then _ else s
 by_cases z:decide (e.2 > 0)=true;rw[ι z] at hr ⊢;exact⟨_,aaH,_,aaI,i,kK e.1,.int e.2,rfl,hk,hg,bJ (by simp),hr⟩;rw[η z] at hr ⊢;exact hr;refine⟨qc F,by show [T.lst ((F.zipIdx.filter λp=>decide (p.1.2 > 0)).map (λp:Ent×Nat=>TS.tT (p.1.1.1,p.1.1.2,p.1.2)))]=_;rw[BA p2],ll (Bz F) l2,λcs pc sc=>?_⟩;exact⟨bJ (by simp),hq bs cs pb sb pc sc⟩
end
def WH(l:T)(s:S2)(q:S2->Prop):Prop:=∃(rs:qal)(E F:List Ent),l=.lst ((iL rs rs.length).map jB)/\s=eC.sE E F/\rs.length<=60/\(d8 rs).length<=400/\Iv rs.length (d8 rs) ⟨E,F,false⟩/\Ls (d8 rs) ⟨E,F,false⟩/\∀p:Tb,Iv rs.length (d8 rs) p->Ls (d8 rs) p->(∀m∈iL rs rs.length,bL p.E p.F m=[])->q (eC.sE p.E p.F)
noncomputable abbrev Dm(M:MG)(ms:List Mv)(b:Bool)(b4 b5 b6:Option T):En:=[aD (.ob M.a1),aD (.ob M.a2),aD (.lst (ms.map jB)),aD (.bl b),ig b4,ig b5,ig b6]
def WI{m:Mv}(h:m∈iL rs rs.length)(hn:rs.length<=60):Rl m.2/\Rm m.1:=by
 obtain⟨h1,h2⟩:=uC.mp h;have ok:=pH m h1;obtain⟨g,o⟩:=m;refine⟨?_,?_⟩;cases o with
 |rw i=>have ok:i<rs.length:=ok;show i<=1000;lia
 |zr=>exact h2 rfl
 |_=>trivial
 obtain⟨i,hi,hm⟩:=BG.mp h1;unfold GL at hm;split at hm
 rename_i r a _ _
 cases r with
 |call x g' as=>
  simp only[vE] at hm;split at hm;rcases dg.mp hm with e|hm
  cases e;trivial;obtain⟨z,_,e⟩:=jZ.mp hm;cases e;trivial;cases hm
 |_=>first|(cases hY.mp hm;trivial)|cases hm
 cases hm
def WJ(M:MG)(o1 o2:Obj)(p:Tb)(w:Bool):vF M o1 o2 (eC.sE p.E p.F) (some (.ob (if w=true then M.a1 else M.a2),false))=some (if w=true then pW o1 p.E else pW o2 p.F,false):=by
 cases w with
 |true=>exact HI M o1 o2 _
 |false=>exact HJ M o1 o2 _
def Rp{Q:T->Prop}{x y:Int}(ha:∀q:T->Prop,q (.int x)->fa ρ q)(hb:∀q:T->Prop,q (.int y)->fb ρ q)(hq:Q (.int (bitOr x y))):fT (f2 fa fb sT) ρ Q:=by unfold fT f2;exact ha _ (hb _ hq)
section
noncomputable abbrev Dn:ω:=["_law_names","_law_cells","_law_moves_here","_law_fresh","_law_move","_law_where","_law_key_here"]
def pX:aJ Dn qaS (aq mH):=L2.il
def zR(D:Df K mg "_law_grown" mH qaS f fd)(M:IP mg)(Ib:cC P w K mg base "_law_had" qaO 1 (cM K 3 HW))(Md:cC P w K mg base "_law_lacks" qaQ 2 (cM K 3 uY)):cC P w K mg base "_law_grown" qaS 3 (qv K [true,true,false] (g2D WH)):=by
 refine D.ic (acJ D.F pX rfl (by decide) λbP A outer s H E G hB hr l s0 q hG=>?_);have nd:=pX.nd;have hu:=bA.eD hr;have je:=kJ hu;refine⟨_,(d6 (gq λ_ _=>aK (i:=3) nd rfl (.inl rfl) (fv jo) ie)
  (fM (HG nz (λ_ _=>cH (VE.vp (ah 3)))
    (d6 (gq λ_ _=>aK (i:=3) nd rfl (.inl rfl) (fv jo) ie)
    (fM (Gi nz rfl (λ_ _=>jJ (ah 2)) (λ_ _=>aC (i:=4) nd rfl (.inl rfl) ie)
      (d6 (gq λ_ _=>aK (i:=5) nd rfl (.inl rfl) (fv (ay (ο (bO (aa (ah 1) (aa (ah 0) aj)))) (ο (gj qW oU (by rfl) M.int AD (aM (ο (rj hu (ο (ay (ο (ay (ae 4) (ο af))) (ο af))) (ο ax))) aX))))) ie)
      (fM (L9 hB nz rfl (λ_ _=>χ (aW Md hr (aa (ah 0) (aa (ah 1) (aa (ah 4) aj))))) (λ_ _=>aC (i:=6) nd rfl (.inl rfl) ie)
        (d6 (L8 5 6 je (λ_ _=>χ (sU (ο (fj je (ae 5) (ah 6) (χ af) ⟨rfl,rfl,rfl,rfl⟩)) (ο (aW Ib hr (aa (ah 0) (aa (ah 1) (aa (χ (ay (ae 4) (ο af))) aj))))))))
        (fM (gq λ_ _=>aK (i:=3) nd rfl (.inl rfl) (fv jo) ie)))))))))))),?_⟩
 obtain⟨rs,E0,F0,rfl,rfl,hn,zd,I0,L0,hq⟩:=hG;have av:∀(b:Bool)(b4 b5 b6:Option T),hU (Dm G (iL rs rs.length) b b4 b5 b6)=true:=λb b4 b5 b6=>by show hU [aD (.ob G.a1),aD (.ob G.a2),aD (.lst _),aD (.bl b),ig b4,ig b5,ig b6]=true;simp only[ph,pf,iH]
 refine⟨av true none none none,?_⟩;refine⟨λm ρ s=>∃(p:Tb)(b:Bool)(b4 b5 b6:Option T),ρ=Dm G (iL rs rs.length) b b4 b5 b6/\s=eC.sE p.E p.F/\Iv rs.length (d8 rs) p/\Ls (d8 rs) p/\m=(if b=true then mu rs.length (d8 rs) p+1 else 0)/\(b=false->∀m∈iL rs rs.length,bL p.E p.F m=[]),⟨_,⟨E0,F0,false⟩,true,none,none,none,rfl,rfl,I0,L0,rfl,λz=>nomatch z⟩,?_⟩;rintro m ρ s ⟨p,b,b4,b5,b6,rfl,rfl,I,L,rfl,DI⟩;cases b with
 |false=>exact hq p I L (DI rfl)
 |true=>
   refine⟨av false b4 b5 b6,?_⟩;have hmi:∀m∈iL rs rs.length,m∈d8 rs:=λm hm=>(uC.mp hm).1;refine⟨λi ρ s=>∃b4 b5 b6,ρ=Dm G (iL rs rs.length) (((iL rs rs.length).take i).foldl mx {p with b:=false}).b b4 b5 b6/\s=eC.sE (((iL rs rs.length).take i).foldl mx {p with b:=false}).E (((iL rs rs.length).take i).foldl mx {p with b:=false}).F,⟨b4,b5,b6,rfl,rfl⟩,?_,?_⟩;rintro i t ρ s ht ⟨b4,b5,b6,rfl,rfl⟩;rw[fD] at ht;obtain⟨m,hm,rfl⟩:=IQ.mp ht;have hmm:m∈d8 rs:=hmi m (f_ hm);have es:((iL rs rs.length).take (i+1)).foldl mx {p with b:=false}=mx (((iL rs rs.length).take i).foldl mx {p with b:=false}) m:=by rw[N7,hm,N6];rfl
   obtain⟨Ii,Li,_⟩:=uB hn pH (ms:=(iL rs rs.length).take i) (p:={p with b:=false}) (λv hv=>hmi v (List.mem_of_mem_take hv)) (I.bool false) L;generalize ((iL rs rs.length).take i).foldl mx {p with b:=false}=pi at Ii Li es ⊢;obtain⟨mk1,mk2⟩:=WI (f_ hm) hn;have lk:=xx (m:=m) Ii hn;have aw:∀(b:Bool)(t4:T)(b5 b6:Option T),hU [aD (.ob G.a1),aD (.ob G.a2),aD (.lst ((iL rs rs.length).map jB)),aD (.bl b),aD t4,ig b5,ig b6]=true:=λb t4 b5 b6=>by simp only[ph,pf,iH]
   have inner:∀(d:DO),(∀b6:Option T,d.nx (Dm G (iL rs rs.length) (mx pi m).b (some (jB m)) (some (.ob (if isNm m.1=true then G.a1 else G.a2))) b6) (eC.sE (mx pi m).E (mx pi m).F)) ->
     NV G (fT (iu 3 (cn (dB 0) (cn (dB 1) (cn (dB 4) lL))) uY)) (hName 6)
      (Vt (NU G 5 6 (fT (f2 (fT (zt (dD 5) (dB 6) (fT (fC (.int 0))))) (fT (iu 3 (cn (dB 0) (cn (dB 1) (cn (fT (f2 (dD 4) (fT (fC (.int 1))) R7)) lL))) HW)) sT))) (wPl (PD 3 (fX (fC (.bl true))))))
      d [aD (.ob G.a1),aD (.ob G.a2),aD (.lst ((iL rs rs.length).map jB)),aD (.bl pi.b),aD (jB m),aD (.ob (if isNm m.1=true then G.a1 else G.a2)),ig b6] (eC.sE pi.E pi.F):=λd hd o1 o2=>by
    show fT (iu 3 (cn (dB 0) (cn (dB 1) (cn (dB 4) lL))) uY) [vF G o1 o2 (eC.sE pi.E pi.F) (some (.ob G.a1,false)),vF G o1 o2 (eC.sE pi.E pi.F) (some (.ob G.a2,false)),some (.lst ((iL rs rs.length).map jB),false),some (.bl pi.b,false),some (jB m,false),vF G o1 o2 (eC.sE pi.E pi.F) (some (.ob (if isNm m.1=true then G.a1 else G.a2),false)),vF G o1 o2 (eC.sE pi.E pi.F) (ig b6)] _;rw[HI,HJ];refine⟨rfl,pi.E,pi.F,o1,o2,m,rfl,Ii.nF,Ii.pos,mk1,mk2,(bL pi.E pi.F m).map kK,by rw[sr];rfl,?_⟩;refine⟨λj ρ s=>∃b6,ρ=Dm G (iL rs rs.length) (((bL pi.E pi.F m).take j).foldl (stK (isNm m.1) m.2) pi).b (some (jB m)) (some (.ob (if isNm m.1=true then G.a1 else G.a2))) b6/\s=eC.sE (((bL pi.E pi.F m).take j).foldl (stK (isNm m.1) m.2) pi).E (((bL pi.E pi.F m).take j).foldl (stK (isNm m.1) m.2) pi).F,⟨b6,rfl,rfl⟩,?_,?_⟩;rintro j t ρ s hj ⟨b6,rfl,rfl⟩;rw[sr,fD] at hj;obtain⟨k,hk,rfl⟩:=IQ.mp hj;have es:((bL pi.E pi.F m).take (j+1)).foldl (stK (isNm m.1) m.2) pi=stK (isNm m.1) m.2 (((bL pi.E pi.F m).take j).foldl (stK (isNm m.1) m.2) pi) k:=by rw[N7,hk,N6];rfl
    obtain⟨Ij,_⟩:=Bg hmm (pH m hmm) (l:=(bL pi.E pi.F m).take j) Ii Li λv hv=>lk v (List.mem_of_mem_take hv);generalize ((bL pi.E pi.F m).take j).foldl (stK (isNm m.1) m.2) pi=pj at Ij es ⊢;have l1:=Ij.LD;have l2:=Ij.LF;have l3:(d8 rs).length * (rs.length+1)<=400 * 61:=Nat.mul_le_mul zd (by lia);refine⟨aw pj.b (jB m) (some (.ob (if isNm m.1=true then G.a1 else G.a2))) (some (.kt (kK k))),λo1 o2=>?_⟩;obtain⟨oo,EE,MO,hg⟩:∃oo EE,(if isNm m.1=true then pW o1 pj.E else pW o2 pj.F)=pW oo EE/\∀k,pj.get (isNm m.1) k=bo EE k:=by
     cases isNm m.1 with
     |true=>exact⟨o1,pj.E,rfl,λ_=>rfl⟩
     |false=>exact⟨o2,pj.F,rfl,λ_=>rfl⟩
    show fT (f2 (fT (zt (dD 5) (dB 6) (fT (fC (.int 0))))) (fT (iu 3 (cn (dB 0) (cn (dB 1) (cn (fT (f2 (dD 4) (fT (fC (.int 1))) R7)) lL))) HW)) sT) [vF G o1 o2 (eC.sE pj.E pj.F) (some (.ob G.a1,false)),vF G o1 o2 (eC.sE pj.E pj.F) (some (.ob G.a2,false)),some (.lst ((iL rs rs.length).map jB),false),some (.bl pj.b,false),some (jB m,false),vF G o1 o2 (eC.sE pj.E pj.F) (some (.ob (if isNm m.1=true then G.a1 else G.a2),false)),some (.kt (kK k),false)] _;rw[HI,HJ,WJ,MO];refine Rp (x:=pj.get (isNm m.1) k) (y:=f6 pj.E pj.F m.2) (λQ h=>?_) (λQ h=>⟨_,aaI,rfl,pj.E,pj.F,o1,o2,m.2,rfl,Ij.nF,Ij.pos,mk1,h⟩) ?_;show Q ((cb (cF EE) (cT EE) (kK k)).getD (.int 0));rw[fq,<- hg];exact h;have nx:∀s',s'=eC.sE (pj.put (isNm m.1) k (bitOr (pj.get (isNm m.1) k) (f6 pj.E pj.F m.2))).E (pj.put (isNm m.1) k (bitOr (pj.get (isNm m.1) k) (f6 pj.E pj.F m.2))).F->∃b6,[some (.ob G.a1,false),some (.ob G.a2,false),some (.lst ((iL rs rs.length).map jB),false),some (.bl true,false),some (jB m,false),some (.ob (if isNm m.1=true then G.a1 else G.a2),false),some (T.kt (kK k),false)]=Dm G (iL rs rs.length) (((bL pi.E pi.F m).take (j+1)).foldl (stK (isNm m.1) m.2) pi).b (some (jB m)) (some (.ob (if isNm m.1=true then G.a1 else G.a2))) b6/\s'=eC.sE (((bL pi.E pi.F m).take (j+1)).foldl (stK (isNm m.1) m.2) pi).E (((bL pi.E pi.F m).take (j+1)).foldl (stK (isNm m.1) m.2) pi).F:=λs' e=>⟨some (.kt (kK k)),by rw[es];rfl,by rw[es,e];rfl⟩;have ps:=eC.He pj (isNm m.1) k (bitOr (pj.get (isNm m.1) k) (f6 pj.E pj.F m.2));refine⟨.inl ⟨_,rfl⟩,by show (cT pj.E).length<_;unfold cT;rw[bX];lia,by show (cT pj.F).length<_;unfold cT;rw[bX];lia,kK k,rfl,?_⟩;by_cases hb:isNm m.1=true;rw[ι hb] at ps;exact .inl ⟨by show some (some (T.ob (if isNm m.1=true then G.a1 else G.a2),false))=_;rw[ι hb],aw true (jB m) (some (.ob (if isNm m.1=true then G.a1 else G.a2))) (some (.kt (kK k))),nx _ ps⟩;rw[η hb] at ps;exact .inr ⟨by show some (some (T.ob (if isNm m.1=true then G.a1 else G.a2),false))=_;rw[η hb],aw true (jB m) (some (.ob (if isNm m.1=true then G.a1 else G.a2))) (some (.kt (kK k))),nx _ ps⟩;rintro ρ s ⟨b6,rfl,rfl⟩;rw[bX,bX,Mw];exact hd b6
   refine⟨aw pi.b (jB m) b5 b6,bJ (by simp),_,aaH,?_⟩;obtain⟨g,o⟩:=m;cases g with
   |rw i=>exact mk2.elim
   |zr=>exact mk2.elim
   |nm h x=>exact⟨_,aaH,_,aaI,aw pi.b (jB (.nm h x,o)) (some (.ob G.a1)) b6,inner _ λb6=>⟨_,_,b6,by rw[es],by rw[es]⟩⟩
   |cl h y c=>exact⟨_,aaH,_,aaH,aw pi.b (jB (.cl h y c,o)) (some (.ob G.a2)) b6,inner _ λb6=>⟨_,_,b6,by rw[es],by rw[es]⟩⟩
   rintro ρ s ⟨b4,b5,b6,rfl,rfl⟩;rw[bX,Mw];obtain⟨g1,gl,g2,g3,g4⟩:=uB hn pH hmi (I.bool false) (show Ls (d8 rs) {p with b:=false} from L);generalize Pj:(iL rs rs.length).foldl mx {p with b:=false}=p' at g1 g2 g3 g4 gl;refine⟨_,?_,p',p'.b,b4,b5,b6,rfl,rfl,g1,gl,rfl,λz=>?_⟩;show (if p'.b=true then mu rs.length (d8 rs) p'+1 else 0)<mu rs.length (d8 rs) p+1;split
   rename_i z
   rcases g3 z with q|q
   cases q;have:=ND g2 q;show mu rs.length (d8 rs) p'+1<mu rs.length (d8 rs) p+1;have e:mu rs.length (d8 rs) {p with b:=false}=mu rs.length (d8 rs) p:=rfl
   lia
   lia
   obtain⟨e1,e2⟩:=g4 z;rw[e1];exact e2
end
structure MgS(mg:qae):Prop where
 isinstance:mg "isinstance"=none
 str:mg "str"=none
 int:mg "int"=none
 bool:mg "bool"=none
 list:mg "list"=none
 tuple:mg "tuple"=none
 len:mg "len"=none
 zip:mg "zip"=none
def Lv:Nat->T->Prop
 |0,_=>False
 |n+1,t=>(∃i,t=.int i)\/(∃x,t=.str x)\/(∃ts,t=.lst ts/\∀u∈ts,Lv n u)\/∃ts,t=.tup ts/\∀u∈ts,Lv n u
def xY(n:Nat)(ts:Ψ)(q:qam):Prop:=∃t,ts=[t,t]/\Lv n t/\q (.vw (.bl true))
def xZ(ts:Ψ):lZ ts ts=ts.map λu=>.tup [u,u]:=by unfold lZ;rw[List.zipWith_self]
section
noncomputable abbrev Rq:ω:=["_law_found","_law_due","_law_one","_law_other"]
def u7:aJ Rq qaT (aq s_same):=L2.il
def Ie(D:Df K mg "_law_same" s_same qaT f fd):cC P w K mg base "_law_same" qaT 1 (cM K 2 (xY 0)) :=
 D.ic (kr D.F u7 rfl λbP A outer s H E Ox hr ts q hG=>by obtain⟨_,_,h,_⟩:=hG;exact h.elim)
def k8{d:Nat}(D:Df K mg "_law_same" s_same qaT f fd)(M:MgS mg)(C:cC P w K mg base "_law_same" qaT d (cM K 2 (xY n))):cC P w K mg base "_law_same" qaT (d+1) (cM K 2 (xY (n+1))):=by
 obtain⟨acL,X1,Rr,k_same,Ru,Rv⟩:=C;refine D.ic (kr D.F u7 rfl λbP A outer s H E Ox hr ts q hG=>?_);have nd:=u7.nd;have hu:=bA.eD hr;have np:∀{i:Nat},bh ⟨H,[],Ox⟩ i:=ie;refine⟨_,(ag (bf (Ux (ae 1) (ο fP))
    (ak (aH (fv (Uw (ae 0) (ο fP)))))
    aI)
   (ag (bf (cH (cj dm (by rfl) M.isinstance (by rfl) M.str ku (ae 1)))
     (ak (aH (fv (lK (cj dm (by rfl) M.isinstance (by rfl) M.str ku (ae 0)) (oB (rj hu (ae 0) (ae 1)))))))
     aI)
   (ag (bf (cH (cj wj (by rfl) M.isinstance (by rfl) M.int AD (ae 1)))
     (ak (aH (fv (lK (cj wj (by rfl) M.isinstance (by rfl) M.int AD (ae 0)) (lK (Pm (cj Cd (by rfl) M.isinstance (by rfl) M.bool PX (ae 0))) (oB (rj hu (ae 0) (ae 1))))))))
     aI)
   (ag (bf (VW.vc (c_ (cH (cj rp (by rfl) M.isinstance (by rfl) M.list yQ (ae 1))) (cK (lJ (cH (cj rp (by rfl) M.isinstance (by rfl) M.list yQ (ae 0)))))))
     (ak (aH (fv jo)))
     aI)
   (ag (bf (VW.vc (c_ (cH (cj oS (by rfl) M.isinstance (by rfl) M.tuple nI (ae 1))) (cK (lJ (cH (cj oS (by rfl) M.isinstance (by rfl) M.tuple nI (ae 0)))))))
     (ak (aH (fv jo)))
     aI)
   (ag (bf (kh hu (ο (aY ba bb (by rfl) M.len nA (aM (ae 0) aX))) (ο (aY ba bb (by rfl) M.len nA (aM (ae 1) aX))))
     (ak (aH (fv jo)))
     aI)
   (ag (cZ nz rfl (yX (by rfl) M.zip (ah 0) (ah 1)) (dc (n:=2) rfl (aN (aC (i:=2) nd rfl (.inl rfl) np) (aN (aC (i:=3) nd rfl (.inl rfl) np) cw)))
     (ak (bf (lJ (cH (cx Rv (hr.mono (by lia)) (by rfl) Rr k_same Ru (aa (ah 2) (aa (ah 3) aj)))))
       (ak (aH (fv jo)))
       aI)))
   (ak (aH (fv jo)))))))))),λ_=>?_⟩
 obtain⟨t,rfl,hL,hq⟩:=hG;obtain⟨i,rfl⟩|⟨x,rfl⟩|⟨l,rfl,hl⟩|⟨l,rfl,hl⟩:=hL
 refine⟨rfl,rfl,rfl,rfl,?_⟩;show q (.vw (.bl (decide (i=i))));rw[ν rfl];exact hq;refine⟨rfl,rfl,?_⟩;show q (.vw (.bl (decide (x=x))));rw[ν rfl];exact hq;refine⟨rfl,rfl,rfl,rfl,rfl,?_⟩;refine jL (c:=!decide ((l.length:Int)=(l.length:Int))) (by simp) ?_;show gX (lZ l l) _ _ _ _;rw[xZ];refine dq (λ_ ρ=>∃b2 b3,ρ=[aD (.lst l),aD (.lst l),b2,b3]) ⟨_,_,rfl⟩ ?_ ?_;rintro i x ρ hx ⟨b2,b3,rfl⟩;exact⟨rfl,rfl,rfl,x,rfl,hl x (f_ hx),_,_,rfl⟩;rintro ρ ⟨b2,b3,rfl⟩;exact hq;refine⟨rfl,rfl,rfl,rfl,rfl,?_⟩;refine jL (c:=!decide ((l.length:Int)=(l.length:Int))) (by simp) ?_;show gX (lZ l l) _ _ _ _;rw[xZ];refine dq (λ_ ρ=>∃b2 b3,ρ=[aD (.tup l),aD (.tup l),b2,b3]) ⟨_,_,rfl⟩ ?_ ?_;rintro i x ρ hx ⟨b2,b3,rfl⟩;exact⟨rfl,rfl,rfl,x,rfl,hl x (f_ hx),_,_,rfl⟩;rintro ρ ⟨b2,b3,rfl⟩;exact hq
def Me(D:Df K mg "_law_same" s_same qaT f fd)(M:MgS mg):cC P w K mg base "_law_same" qaT 5 (cM K 2 (xY 4)):=k8 D M (k8 D M (k8 D M (k8 D M (Ie D))))
end
end cO
namespace VT
open PySem PySem.Spec PyProof.Rows L2
def Rx{X:Cx}:iP X rest (λ_ _ _=>False):=λ_ _ _ _ _ _ h=>h.elim
def Mf(i:Nat)(f:En->(Ψ->Prop)->Prop)(fc:FB)(fe:FE)(g:FS):FS:=λd ρ=>f ρ λus=>i<ρ.length/\∃t1 t2,us=[.lst t1,.lst t2]/\t2.length<1000000 /\
 fc (ρ.set i (some (.tup us,false))) (λb=>b=false)/\fe (ρ.set i none) (λ_=>True)/\g d (ρ.set i none)
section
variable{X:Cx}
theorem zS{e2:Expr}{rb:qaq}{f:En->(Ψ->Prop)->Prop}{g:FS}{px p1 q1 q2 q3 q4 q5 q6 r1 r2 r3 r4 r5 r6:Pos}{k1 k2}(hN:X.N.Nodup)(hi:X.N[i]?=some x)(hx:Loc X.env.scope x)(vx:mP X.env.scope x)(npi:bh Z i)(he:VD X Z e f)(hc:VC X Z c fc)(he2:VE X Z e2 fe)(WK:ir X Z rest g)(hd:f7 x:=by decide)(fO:qd x:=by decide)(hs:swapsWith e (some (.Name x px)) p1.line X.env=pure false:=by rfl)(hf:X.fn x=true\/X.env.scope.names.lookup x=some .local:=by first|exact .inl rfl|exact .inr rfl|assumption)(a1:attributeBase (.Subscript (.Name x q1) (.Constant (.int 0) k1 q2) q3) "clear" X.env (eval (.Subscript (.Name x q1) (.Constant (.int 0) k1 q2) q3) X.env)=eval (.Subscript (.Name x q1) (.Constant (.int 0) k1 q2) q3) X.env:=by rfl)(l1:(q4.endLine==q5.line)=true:=by rfl)(sw1:swapsWith (.Call (.Attribute (.Subscript (.Name x q1) (.Constant (.int 0) k1 q2) q3) "clear" q4) [] [] q5) none q6.line X.env=pure false:=by rfl)(a2:attributeBase (.Subscript (.Name x r1) (.Constant (.int 1) k2 r2) r3) "append" X.env (eval (.Subscript (.Name x r1) (.Constant (.int 1) k2 r2) r3) X.env)=eval (.Subscript (.Name x r1) (.Constant (.int 1) k2 r2) r3) X.env:=by rfl)(b2:((backTo r5 (starEach [e2] X.env)).all (λx=>!x.1) && (backToKw r5 (keywordEach [] X.env)).all (λx=>x.1.isSome) && decide (([e2]:qap).length+([]:List Keyword).length+(if ([]:List Keyword).isEmpty then 0 else 1)<30))=true:=by rfl)(l2:(r4.endLine==r5.line)=true:=by rfl)(s2:starEach [e2] X.env=(false,eval e2 X.env)::starEach [] X.env:=by rfl)(QY:(backTo r5 (starEach [] X.env)).any (·.1)=false:=by rfl)(sw2:swapsWith (.Call (.Attribute (.Subscript (.Name x r1) (.Constant (.int 1) k2 r2) r3) "append" r4) [e2] [] r5) none r6.line X.env=pure false:=by rfl)(ix1:nB (.Constant (.int 0) k1 q2):=by exact λ_ _=>rfl)(ix2:nB (.Constant (.int 1) k2 r2):=by exact λ_ _=>rfl) :
  ir X Z (.Assign [.Name x px] e p1::.If c rb [] p2::.Expr (.Call (.Attribute (.Subscript (.Name x q1) (.Constant (.int 0) k1 q2) q3) "clear" q4) [] [] q5) q6 ::
   .Expr (.Call (.Attribute (.Subscript (.Name x r1) (.Constant (.int 1) k2 r2) r3) "append" r4) [e2] [] r5) r6::rest) (Mf i f fc fe g):=.mk λtm=>
 iP.jn (dh (n_ hN hi hx (he tm) hs hf) (dh (D8 (hc tm) Rx sA)
  (dh (sC (sN WU PySem.F.slot_list_clear PySem.F.type_list_clear Eu (Eo yC (bY hi vx hd fO) yj ix1) a1 l1) sw1)
    (dh (sC (Ah WU mM mO aS (Eo yC (bY hi vx hd fO) yj ix2) (bD (he2 tm) cX s2) a2 b2 l2 s2 QY) sw2) (WK tm))))) λD σ H ⟨ρ,O,d,I,q,F⟩=>by
  refine⟨ρ,O,_,I,q,λus O7 p ls H1 DD=>?_⟩;obtain⟨Vq,t1,t2,rfl,n2,h1,h3,h5⟩:=O7;have I1:au X.K Z tm (O.set i none) (ρ.set i (some (.tup [.lst t1,.lst t2],false))) (σ.set i (some (.ref p))) H1:=(I.same DD.same).put npi (DD.at I);obtain⟨la,lb,rfl⟩:∃la lb,ls=[la,lb]:=by
   have:=IX DD.Xz
   match ls,this with
   |[a,b],_=>exact⟨a,b,rfl⟩
  obtain⟨hla,hlb⟩:(∃vs,H1 la=some (.lst vs))/\∃vs,H1 lb=some (.lst vs)/\vs.length<1000000:=by
   have r:=DD.Xz;cases r with
   |cons ra r=>
     cases r with
     |cons rb _=>obtain⟨vs,e1,e2⟩:=ra;obtain⟨us,f1,f2⟩:=rb;exact⟨⟨vs,e1⟩,us,f1,by rw[f2.length];exact n2⟩
  have nab:la≠lb:=by have:=DD.nd;simp at this;exact this
  have na:H la=none:=DD.new la (by simp);have nb:H lb=none:=DD.new lb (by simp);obtain⟨va,ea⟩:=hla;obtain⟨vb,eb,zb⟩:=hlb;show lB X Z tm fc (σ.set i (some (.ref p))) H1 _;refine⟨_,_,_,I1,h1,λb IG H2 sm=>?_⟩;subst IG;rw[η ja];have hip:i<σ.length:=by rw[I.lσ];exact Vq
  have sH:=DD.same.trans sm;have si:(σ.set i (some (.ref p)))[i]?=some (some (.ref p)):=z6 hip;have tp:=sm _ _ DD.tup;have ea':=sm _ _ ea;have eb':=sm _ _ eb;have I0:∀{H3:Hp},aL H H3->au X.K Z tm (O.set i none) (ρ.set i none) (σ.set i (some (.ref p))) H3:=λs=>(I.same s).UW _ npi;refine⟨.ref p,si,p,_,0,.ref la,rfl,rfl,dS.of tp,rfl,.inl ⟨rfl,va,fG.of ea'⟩,la,va,rfl,rfl,ea',?_⟩;have sH3:aL H (upd H2 la (.lst [])):=λb o eb=>by rw[ar (λz=>by rw[z,na] at eb;cases eb)];exact sH _ _ eb
  have tp3:upd H2 la (.lst []) p=some (.tup ([la,lb].map V.ref)):=by rw[ar (λz=>by rw[z,ea'] at tp;cases tp)];exact tp
  have eb3:upd H2 la (.lst []) lb=some (.lst vb):=by rw[ar (Ne.symm nab)];exact eb'
  refine⟨.ref p,si,p,_,1,.ref lb,rfl,rfl,dS.of tp3,rfl,.inl ⟨rfl,vb,fG.of eb3⟩,?_⟩;refine⟨_,_,_,I0 sH3,h3,λ_ _ v2 H4 s4 _=>⟨lb,vb,v2,rfl,rfl,s4 _ _ eb3,by rw[ς];lia,?_⟩⟩;have sH4:aL H (upd H4 lb (.lst (vb++[v2]))):=λb o eb=>by rw[ar (λz=>by rw[z,nb] at eb;cases eb)];exact s4 _ _ (sH3 _ _ eb)
  exact⟨_,_,d,I0 sH4,h5,F⟩
end
end VT
namespace cO
open PySem L2 VT Gen K5 Lay BS Ln MK
open PySem.Builtin (bitOr)
def Mh(ts:Ψ)(q:qam):Prop:=∃ns:qan,ts=[.lst (ns.map .int)]/\ns.length<=63/\q (.vw (.bl true))
def Ig(E:List Ent):j_ (cT E)=true:=by
 unfold cT;induction E with
 |nil=>rfl
 |cons e E ih=>rw[jk,j_,ih];rfl
def Ih(bs cs:List TS.Tr):Lv 4 (.tup [.lst (bs.map TS.tT),.lst (cs.map TS.tT)]):=by
 have row:∀b:TS.Tr,Lv 2 (TS.tT b):=λb=>.inr (.inr (.inr ⟨_,rfl,λu hu=>by
  simp only[dg,fE,aag] at hu;obtain rfl|rfl|rfl:=hu
  exact .inl ⟨_,rfl⟩;exact .inr (.inl ⟨_,rfl⟩);exact .inl ⟨_,rfl⟩⟩))
 have lst:∀l:List TS.Tr,Lv 3 (.lst (l.map TS.tT)):=λl=>.inr (.inr (.inl ⟨_,rfl,λu hu=>by obtain⟨b,_,rfl⟩:=jZ.mp hu;exact row b⟩))
 refine .inr (.inr (.inr ⟨_,rfl,λu hu=>?_⟩));simp only[dg,fE,aag] at hu;obtain rfl|rfl:=hu
 exact lst bs;exact lst cs
def zU(rs:qal):plainT (.lst (rs.map aR))=true:=by simp only[plainT];exact de y7 rs
def Ik(h:qq.cP x=true):x.length<=8:=by
 unfold qq.cP at h;rw[ij,ij] at h;have:=υ h.2.1
 lia
def Il(rs:qal):dep (.lst (rs.map aR))<=100:=by
 have:=eY (f:=aR) (n:=2) Fi rs;simp only[dep]
 lia
def r8(hP:d7.uP ys pl):∀p∈pl,p.2.length<=4:=by intro p h;obtain⟨k,hk⟩:=List.getElem?_of_mem h;obtain⟨h1,a,r,hr,e⟩:=hP k p.1 p.2 hk;rw[e,bX,z8];exact hr
def Dp(n:Nat):((List.range n).map λ_=>aR .skip)=(List.replicate n Rw.skip).map aR:=by
 induction n with
 |zero=>rfl
 |succ n ih=>rw[RS,p_,ih,List.replicate_succ',p_];rfl
def NW{k:Ky}(h:Wm k):Nm.FZ (vD k):=by
 cases k with
 |fld x=>exact .inl ⟨_,rfl,by
  have:=Ik h;have e:(((".":String):Str)++x).length=1+x.length:=by show (((".":String):Str).cps++x.cps).size=_;rw[Array.size_append];rfl
  rw[e];lia⟩
 |op o=>cases o with
  |nm y=>exact .inl ⟨_,rfl,by have:=Ik h;lia⟩
  |nu i=>exact .inr ⟨i,rfl⟩
theorem Mi(p:Pg rs):∀r∈rs,eC.XT rs r/\eC.XS r:=λr hr=>by
 have hk:=p.ky r hr;cases r with
 |get x y k=>exact⟨trivial,NW hk⟩
 |set y k o=>exact⟨trivial,NW hk⟩
 |call x g as=>exact⟨p.cl x g as hr,trivial⟩
 |_=>exact⟨trivial,trivial⟩
noncomputable def G4:FS:=λd ρ=>∃(rs:qal)(b0 b1:Option (T×Bool)),ρ=[b0,b1,aD (.lst (rs.map aR)),none,none,none,none,none]/\Pg rs/\∀ρ,d.rt ρ (.vw (.bl true))
section
noncomputable abbrev NX:ω:=["_law_script","_law_words_here","_law_rows","_law_lent","_law_names","_law_cells","_law_due","_law_table_here"]
def Im:aJ NX qaU (aq k7):=L2.il
def Dq:(NX++(["_law_k"]:ω)).Nodup:=by decide +kernel
def Ry(D:Df K mg "law" k7 qaU f fd)(M:IP mg)(i_:cC P w K mg base "_law_cell_at" qaD 1 (cM K 2 d7.NN))(Mj:cC P w K mg base "_law_words" qaE 1 (cM K 2 d7.Hr))(Rz:cC P w K mg base "_law_plan" qaJ 1 (cM K 2 d7.NT))(Dr:cC P w K mg base "_law_program" qaK 5 (cM K 3 d7.xK))(Ml:cC P w K mg base "_law_moves" qaM 2 (cM K 1 HR))(Ds:cC P w K mg base "_law_grown" qaS 3 (qv K [true,true,false] (g2D WH)))(Mm:cC P w K mg base "_law_table" qaR 1 (cM K 2 HY))(Io:cC P w K mg base "makers" qav 6 (Qb K 1 eC.uM))(Iq:cC P w K mg base "_law_same" qaT 5 (cM K 2 (xY 4))):dA P w K mg base iR 7 f fd qaU (cM K 1 Mh):=by
 obtain⟨Sn,RA,Dt,Du,Dv,Dw⟩:=Ds;obtain⟨WL,So,x3,x4,x5,x6⟩:=Io;refine kr D.F Im rfl λbP A outer s H E Ox hr ts q hG=>?_;have nd:=Im.nd;have hu:=bA.eD hr;have np:∀{i:Nat},bh ⟨H,[],Ox⟩ i:=ie;refine⟨_,(ag (aK (i:=1) nd rfl (.inl rfl) (fv (aW Mj hr (aa (χ (aW i_ hr (aa (ah 0) (aa (χ af) aj)))) (aa (χ af) aj)))) np)
  (ag (aK (i:=2) nd rfl (.inl rfl) (fv (aW Dr hr (aa (χ (ki (ae 0) (iS (ο af)) (iS (ο af)))) (aa (ah 1) (aa (χ (aW Rz hr (aa (χ (aW i_ hr (aa (ah 0) (aa (χ af) aj)))) (aa (ah 1) aj)))) aj))))) np)
  (ag (bf (bz hu (ο (bq (ο (bu (ο (aW i_ hr (aa (ah 0) (aa (χ af) aj)))) (ο af))) (ο af))) (ο af))
   (ak (Ax (i:=2) (ts:=["_law_k"]) nd rfl (.inl rfl) rfl (by rfl) (cV (by rfl) M.range (ο (bq (ο (bu (ο (aW i_ hr (aa (ah 0) (aa (χ af) aj)))) (ο af))) (ο af)))) (λ_ _ _ _ _ _=>(aC (i:=8) Dq rfl (.inl rfl) np)) (λ_ _ _ _ _ _=>nG) (λ_ _ _ _ _ _=>(χ (aP (aa (χ ax) aj)))) np))
   aI)
  (ir.weak (u:=G4) (ag (aK (i:=3) nd rfl (.inl rfl) (fv (gj sM yM (by rfl) M.list yQ (aM (ae 2) aX))) np)
  (ag (cJ (i:=4) nd rfl (.inl rfl) (fv xh) np)
  (ag (cJ (i:=5) nd rfl (.inl rfl) (fv xh) np)
  (ag (bp (v8 Dw (hr.mono (by decide)) (by rfl) Dt Du Dv (nH 4 (nH 5 (km (χ (aW Ml hr (aa (ah 2) aj))) Az)))))
  (AZ 4 np (AZ 5 np (ag (aK (i:=6) nd rfl (.inl rfl) (fv (aW Mm hr (aa (ah 4) (aa (ah 5) aj)))) np)
  (zS (i:=7) nd rfl (.inl rfl) (.inl rfl) np (tX x6 (hr.mono (by decide)) (by rfl) x3 x4 x5 (aa (ah 3) aj))
   (lJ (cH (aW Iq hr (aa (ah 7) (aa (ah 6) aj)))))
   (χ (aP (aa (χ af) (aa (χ ax) (aa (χ af) aj)))))
  (ak (aH (fv (lK (aW Iq hr (aa (χ (VD.vp (tX x6 (hr.mono (by decide)) (by rfl) x3 x4 x5 (aa (ah 3) aj)))) (aa (ah 6) aj))) (oB (rj hu (ae 3) (ae 2))))))))))))))) ?w1)))),λ_=>?main⟩
 case main=>
  obtain⟨ns,rfl,h63,hq⟩:=hG;have DS:(dH (ns.getD 0 0) 6).length=6:=y0 _ _;have hnm:∀y∈dH (ns.getD 0 0) 6,qq.cP y=true:=y8;refine⟨rfl,ns,0,rfl,rfl,_,6,rfl,by decide,by decide,?_⟩;generalize dH (ns.getD 0 0) 6=ys at DS hnm ⊢;obtain⟨ms,ems,hms⟩:=d7.Bv T.int ns (some 2) (some 42);refine⟨rfl,ns,1,rfl,rfl,_,ys,rfl,DS,λpl j7 h1 h3=>?_⟩;refine⟨rfl,ms,ys,pl,by rw[<- ems];rfl,by lia,⟨DS,λy hy=>by have:=Ik (hnm y hy);lia,h3,r8 j7⟩,h1,λrs lF hlen=>?_⟩;have fin:∀ρ':En,(λ(_:En) (r:Rt)=>q r) ρ' (.vw (.bl true)):=λ_=>hq;refine⟨rfl,ns,1,rfl,⟨by decide,by decide⟩,(by show (0:Int)<8;decide),cN (λ_=>?_) (λ_=>?_)⟩;have a0:0<=ns.getD 1 0 / 24 % 4:=qf _ (by decide);have a1:ns.getD 1 0 / 24 % 4<4:=qT _ (by decide);refine⟨rfl,rfl,ns,1,rfl,⟨by decide,by decide⟩,(by show (0:Int)<4;decide),(by show -(2 ^ 62:Int)<=ns.getD 1 0 / 24 % 4;lia),(by show ns.getD 1 0 / 24 % 4<(2 ^ 62:Int);lia),by rw[eW];exact bJ (by show (ns.getD 1 0 / 24 % 4).toNat<=1000;lia),?_⟩;refine xB (u:=λ_=>aR .skip) (λi hi r dX=>⟨bJ (by simp),dX⟩) ?_;rw[Dp];exact⟨_,_,_,rfl,Hn (by lia),fin⟩;exact⟨rs,_,_,rfl,Q8 lF hlen hnm (r8 j7),fin⟩
 case w1=>
  rintro d ρ ⟨rs,b0,b1,rfl,pg,fin⟩;have ls0:Ls (d8 rs) ⟨[],[],false⟩:=λS hS w k=>by cases w<;>exact sub_zero _
  have hle:=pg.le;have zd:=pg.len.1;refine⟨rfl,rs,rfl,pg,[],[],[],[],_,rfl,rs,[],[],rfl,rfl,hle,by lia,GP _ _,ls0,λp Ip Lp cl=>⟨Ig _,Ig _,?_⟩⟩;intro o1 o2;have l1:=Ip.LD;have l2:=Ip.LF;have l3:(d8 rs).length * (rs.length+1)<=300 * 61:=Nat.mul_le_mul zd (by lia);refine⟨rfl,p.E,p.F,o1,o2,rfl,Ip.nE,Ip.nF,by lia,by lia,λe he=>?_,λe he=>?_,λbs cs pb sb pc sc=>?_⟩;rw[<- get_mem Ip.nE he];exact (Ip.bl true e.1).1;rw[<- get_mem Ip.nF he];exact (Ip.bl false e.1).1;have mk:∀q':Ψ->Prop,q' [.lst (bs.map TS.tT),.lst (cs.map TS.tT)]->eC.uM [.lst (rs.map aR)] q':=λq' h=>⟨rs,rfl,pg.B.W,by lia,by lia,Mi pg,λm P5 IG bs' cs' pb' R4 pc' sc'=>by
   have I1:=(rR rs (m+1)).1;have cl1:∀m'∈d8 rs,LG (nV rs (m+1)).get m':=xv ((rR rs m).1.bool false) IG;have cl2:∀m'∈d8 rs,LG p.get m':=λm' hm=>by by_cases z:m'.2=.zr;intro w k b _ h2;rw[z] at h2;exact h2.elim;exact zF Ip hle (cl m' (uC.mpr ⟨hm,z⟩))
   have eg:∀w k,(nV rs (m+1)).get w k=p.get w k:=λw k=>gM ((rR rs (m+1)).2 _ cl2 w k) (Lp _ cl1 w k);have e1:bs'=bs:=jU R4 sb (pb'.trans ((xy I1.nE Ip.nE λk=>eg true k).trans pb.symm));have e2:cs'=cs:=jU sc' sc (pc'.trans ((xy I1.nF Ip.nF λk=>eg false k).trans pc.symm));rw[e1,e2];exact h⟩
  have Xc:(cs.map TS.tT).length<1000000:=by
   rw[bX,pc.length_eq];have:(qc p.F).length<=p.F.length:=by unfold qc;rw[bX];exact SA _ _
   lia
  have hp:=zU rs;refine⟨rfl,mk _ ⟨(by show 7<8;decide),_,_,rfl,Xc,⟨rfl,_,rfl,Ih _ _,rfl⟩,⟨bJ (by simp),trivial⟩,rfl,mk _ ?_⟩⟩;refine⟨rfl,_,rfl,Ih _ _,hp,hp,Il rs,?_⟩;show d.rt _ (.vw (.bl (eqT (.lst (rs.map aR)) (.lst (rs.map aR)))));rw[oE _ hp];exact fin _
end
end cO
namespace k9
open PySem L2 VT
def WM(X:K.In h)(G:h.Ns mainGlobals mg){st:Stmt}{oc:Value}{od an:qar}{IC:Array (Option Value)}{kV doc pm bP ct:Value}(a:W.nsIn K mainGlobals x=some (some (.ref f)))(l:K.lookup f=some ⟨oc,od,.func (W.fnOf x x (dW st) (b_ st) (aq st) .none kV doc pm an bP ct),IC⟩)(c:W.codeIn K bP x=true)(k:W.keepIn K (.ref f)=true)(hb:∀(kV doc pm:Value) (an:qar) (bP ct:Value) (us:qag),us.length=ps.length->bindArgs (W.fnOf x x (dW st) (b_ st) (aq st) .none kV doc pm an bP ct) ⟨us,[]⟩=pure (ps.zip us)) :
  ∃f fd,Df K mg x st ps f fd:=by
 have F:=sO (st:=st) l c k;exact⟨f,_,F,Mx X G a,F.binds hb⟩
theorem acM{C:qag->Prop}(h:C []):∀us:qag,us.length=0->C us
 |[],_=>h
theorem RB{C:qag->Prop}(h:∀a,∀us:qag,us.length=n->C (a::us)):∀us:qag,us.length=n+1->C us
 |a::us,e=>h a us (Nat.succ.inj e)
def WN{C:qag->Prop}(h:∀a,C [a]):∀us:qag,us.length=1->C us:=RB λa=>acM (h a)
def bn1{C:qag->Prop}(h:∀a,C [a]):∀us:qag,us.length=1->C us:=WN h
def bn2{C:qag->Prop}(h:∀a b,C [a,b]):∀us:qag,us.length=2->C us:=RB λa=>bn1 (h a)
def bn3{C:qag->Prop}(h:∀a b c,C [a,b,c]):∀us:qag,us.length=3->C us:=RB λa=>bn2 (h a)
abbrev pE:Program:=PySem.Challenge.pw_slicewise_k23_tables_of_programs
noncomputable def qE:Program:=W.view pE [1,2,4,5,6,7,8,10,11,12,13,15,17,18,19,20,21,22,23,25,26,27,28,29,30,31,32,33,34,35,36,37,38,39,40,41,42,43,44]
def NY:ω:=[]
noncomputable def WO:Ω:=[0,1,2,3,4,5,6,7,8,9,10,11,12,13,14,15,16,17,18,19,20,21,22,23,24,25,26,27,28,29,30,31,32,33,34,35,36,37,38,39,40,41,42,43,44,45,46,47,48,49,50,51,52,53,54,55,56,57,58,59,60,61,69,70,71,72,73,74,75,76,77,78,79,80,90,91,92,93,94,95,96,97,98,99,100,101,104,105,106,107,108,109,110,111,112,113,114,115,116,117,118,119,120,121,122,123,124,125,126,127,128,129,130,131,132,133,134,135,136,137,138,139,140,141,142,143,144,145,146,147,148,149,150,151,152,153,154,155,156,157,158,159,160,161,162,163,164,165,166,167,168,169,170,171,172,173,174,175,176,177,178,179,180,181,182,183,184,185,186,187,188,189,190,191,192,193,194,195,196,197,198,199,200,201,202,203,204,205,206,207,208,209,210,211,212,213,214,215,216,217,218,219,220,221,222,223,224,225,226,227,228,229,230,231,232,233,234,235,236,237,238,239,240,241,242,243,244,245,246,247,248,249,250,251,252,253,254,255,256,257,258,259,260,261,262,263,264,265,266,267,268,269,270,271]
abbrev OV:=Option (Option Value)
abbrev OO:=Option Obj
abbrev N(K:zm)(x:Str):=W.nsIn K mainGlobals x
noncomputable abbrev Lk(K:zm)(a:Addr):=List.lookup a K
abbrev R(a:Addr):OV:=some (some (.ref a))
noncomputable abbrev fo(x q:Str)(st:Stmt)(pm:Value)(c:Addr):OO:=some ⟨.type "function",none,.func (W.fnOf x q (dW st) (b_ st) (aq st) .none .none .none pm none (.ref c) .none),#[]⟩
abbrev cI(K:zm)(c:Value)(q:Str):=W.codeIn K c q
abbrev kI(K:zm)(f:Addr):=W.keepIn K (.ref f)
abbrev fI(K:zm)(c:Addr)(x:Str):=W.findIn K (.ref c) x
abbrev Q4:=OV×OO×Bool×Bool
noncomputable def q4(K:zm)(x:Str)(f c:Addr):Q4:=(N K x,Lk K f,cI K (.ref c) x,kI K f)
noncomputable def v4(x:Str)(st:Stmt)(f:Addr)(pm:Value)(c:Addr):Q4:=(R f,fo x x st pm c,true,true)
def BN:ω->(qag->Prop)->Prop
 |[],C=>C []
 |_::ps,C=>∀v,BN ps λus=>C (v::us)
theorem bnA:∀{ps:ω}{C:qag->Prop},BN ps C->∀us:qag,us.length=ps.length->C us
 |[],_,h,[],_=>h
 |_::_,_,h,v::us,e=>bnA (h v) us (Nat.succ.inj e)
def dM{D:Prop}(X:K.In h)(G:h.Ns mainGlobals mg){st:Stmt}{c:Addr}{pm:Value}(e:q4 K x f c=v4 x st f pm c)(k:∀{f:Addr} {fd:FuncData},Df K mg x st ps f fd->D)(hb:∀(kV doc pm:Value) (an:qar) (bP ct:Value),BN ps λus=>bindArgs (W.fnOf x x (dW st) (b_ st) (aq st) .none kV doc pm an bP ct) ⟨us,[]⟩=pure (ps.zip us):=by simp only[BN];intros;rfl):D:=by unfold q4 v4 at e;simp only[Prod.mk.injEq] at e;obtain⟨_,_,d⟩:=WM X G e.1 e.2.1 e.2.2.1 e.2.2.2 λa b c d e f=>bnA (hb a b c d e f);exact k d
def Tk(P:Program)(w:World)(base:Heap):Prop:=True
def dN{sp:Sp}(z:Tk P w base)(X:K.In h)(G:h.Ns mainGlobals mg){st:Stmt}{c:Addr}{pm:Value}(e:q4 K x f c=v4 x st f pm c)(k:∀{f:Addr} {fd:FuncData},Df K mg x st ps f fd->cC P w K mg base x ps n sp)(hb:∀(kV doc pm:Value) (an:qar) (bP ct:Value),BN ps λus=>bindArgs (W.fnOf x x (dW st) (b_ st) (aq st) .none kV doc pm an bP ct) ⟨us,[]⟩=pure (ps.zip us):=by simp only[BN];intros;rfl):cC P w K mg base x ps n sp:=dM X G e k hb
noncomputable abbrev tU(l:Array Value):OO:=some ⟨.type "tuple",none,.seq l 0,#[]⟩
abbrev kE(w:World)(x:Str)(t:Tok)(r:Addr):DictEntry:=⟨PyData.keyHash w.params x,.str x t,.ref r⟩
abbrev r9:Value:=.str "law_slicewise_k23_tables_of_programs" 396
abbrev RC:Value:=.str "slicewise.makers" 300
abbrev mD5:Value:=.str "slicewise.rows" 203
abbrev X2:=Q4×(Q4×Q4)
abbrev Sq:=OV×(OV×OV)
abbrev X3:=Bool×(Bool×OV)
abbrev X4:=X2×X2
abbrev XX:Type:=((((((OV×OV)×(OV×(OO×OV)))×((OO×(OV×OV))×Sq))×(((OV×OV)×Sq)×(Sq×Sq)))×((((Bool×OO)×(Bool×(Bool×Bool)))×(X3×X3))×(((OV×OV)×Sq)×(Sq×(Bool×(OO×Bool))))))×(((((Bool×Bool)×X3)×(X3×(OV×(OV×OO))))×(((Bool×Bool)×X2)×X4))×((((Q4×Q4)×X2)×X4)×(X4×X4))))
noncomputable def FF(K:zm):XX:=((((((N K "LETTERS",N K "LONGEST_NAME"),(N K "CLOSERS",(Lk K 47,N K "OPENERS"))),((Lk K 46,(N K "isinstance",N K "int")),(N K "str",(N K "bool",N K "len")))),(((N K "all",N K "tuple"),(N K "zip",(N K "range",N K "list"))),((N K "enumerate",(N K "min",N K "sum")),(N K "sorted",(N K "Layout",fI K 78 "__init__"))))),((((W.isFn K (.ref 75),Lk K 75),(cI K (.ref 74) "Layout.__init__",(kI K 75,W.plainGet K 78 Str.empty))),((W.hasDictIn K 78,(W.plainOver K 78,fI K 78 "__setattr__")),(W.makesIn K 78,(kI K 78,fI K 78 "program")))),(((fI K 78 "heads",fI K 78 "ends"),(fI K 78 "elses",(fI K 78 "homes",fI K 78 "defs"))),((fI K 78 "main",(N K "Sets",fI K 99 "__init__")),(W.isFn K (.ref 96),(Lk K 96,cI K (.ref 95) "Sets.__init__")))))),(((((kI K 96,W.plainGet K 99 Str.empty),(W.hasDictIn K 99,(W.plainOver K 99,fI K 99 "__setattr__"))),((W.makesIn K 99,(kI K 99,fI K 99 "names")),(fI K 99 "cells",(N K "law",Lk K 271)))),(((cI K (.ref 270) "law",kI K 271),(q4 K "has" 21 20,(q4 K "members" 26 25,q4 K "is_name" 31 30))),((q4 K "is_field" 38 37,(q4 K "class_of" 45 44,q4 K "shape" 61 60)),(q4 K "first_defs" 54 53,(q4 K "list_of" 115 114,q4 K "read_cells" 134 133))))),((((q4 K "call_wants" 141 140,q4 K "wants" 127 126),(q4 K "grown" 122 121,(q4 K "makers" 110 109,q4 K "_law_cell_at" 148 147))),((q4 K "_law_words" 155 154,(q4 K "_law_operand" 162 161,q4 K "_law_key" 169 168)),(q4 K "_law_call" 176 175,(q4 K "_law_simple" 183 182,q4 K "_law_lay" 190 189)))),(((q4 K "_law_plan" 195 194,(q4 K "_law_program" 202 201,q4 K "_law_same" 209 208)),(q4 K "_law_homes" 216 215,(q4 K "_law_class" 223 222,q4 K "_law_call_moves" 230 229))),((q4 K "_law_moves" 237 236,(q4 K "_law_had" 244 243,q4 K "_law_goals" 249 248)),(q4 K "_law_lacks" 254 253,(q4 K "_law_grown" 261 260,q4 K "_law_table" 266 265)))))))
noncomputable def VV(w:World):XX:=((((((some (some (.str qq.bM 205)),some (some (.int 8 207))),(R 47,(tU #[.str "give" 235,.str "end" 236],R 46))),((tU #[.str "def" 231,.str "if" 232,.str "while" 233],(some none,some none)),(some none,(some none,some none)))),(((some none,some none),(some none,(some none,some none))),((some none,(some none,some none)),(some none,(R 78,some (some (.ref 75))))))),((((true,fo "__init__" "Layout.__init__" Lay.iG (.str "slicewise.layouts" 262) 74),(true,(true,true))),((true,(true,some (some (.builtin "object.__setattr__")))),(true,(true,some none)))),(((some none,some none),(some none,(some none,some none))),((some none,(R 99,some (some (.ref 96)))),(true,(fo "__init__" "Sets.__init__" eC.pL RC 95,true)))))),(((((true,true),(true,(true,some (some (.builtin "object.__setattr__"))))),((true,(true,some none)),(some none,(R 271,fo "law" "law" cO.k7 r9 270)))),(((true,true),(v4 "has" eC.G1 21 (.str "slicewise.bits" 187) 20,(v4 "members" eC.my 26 (.str "slicewise.bits" 187) 25,v4 "is_name" Nm.i4 31 mD5 30))),((v4 "is_field" Nm.jO 38 mD5 37,(v4 "class_of" eC.jW 45 mD5 44,v4 "shape" Vc.kL 61 (.str "slicewise.programs" 229) 60)),(v4 "first_defs" Lay.gK 54 (.str "slicewise.programs" 229) 53,(v4 "list_of" eC.mz 115 RC 114,v4 "read_cells" eC.gP 134 RC 133))))),((((v4 "call_wants" eC.gQ 141 RC 140,v4 "wants" eC.uG 127 RC 126),(v4 "grown" eC.uF 122 RC 121,(v4 "makers" eC.pK 110 RC 109,v4 "_law_cell_at" d7.mD 148 r9 147))),((v4 "_law_words" d7.uO 155 r9 154,(v4 "_law_operand" d7.mE 162 r9 161,v4 "_law_key" d7.Ho 169 r9 168)),(v4 "_law_call" d7.s_call 176 r9 175,(v4 "_law_simple" d7.pR 183 r9 182,v4 "_law_lay" d7.Hq 190 r9 189)))),(((v4 "_law_plan" d7.zM 195 r9 194,(v4 "_law_program" d7.mF 202 r9 201,v4 "_law_same" cO.s_same 209 r9 208)),(v4 "_law_homes" cO.uQ 216 r9 215,(v4 "_law_class" cO.uR 223 r9 222,v4 "_law_call_moves" cO.gT 230 r9 229))),((v4 "_law_moves" cO.uS 237 r9 236,(v4 "_law_had" cO.HN 244 r9 243,v4 "_law_goals" cO.uT 249 r9 248)),(v4 "_law_lacks" cO.uU 254 r9 253,(v4 "_law_grown" cO.mH 261 r9 260,v4 "_law_table" cO.uV 266 r9 265)))))))
def acN(w:World)(os:OsState):HE.lookA pE qE NY [] [] (HE.kz (w).params) (W.boot_heap (w).params) (w) 1615 os=some (true,(W.openGood qE NY).1,(W.openGood qE NY).2.1):=by
 rw[PySem.W.Fast.te2848547177322276819]
 kernel_rfl
def acO(w:World)(os:OsState):HE.lookB pE qE NY [] [] (HE.kz (w).params) (w) 1615 os=some (W.openGood qE NY).2.2:=by
 rw[PySem.W.Fast.te312265020846911052]
 kernel_rfl
def runC(w:World)(os:OsState):HE.lookC pE WO FF (HE.kz (w).params) (w) 1615 os=some (VV (w)):=by
 rw[PySem.W.Fast.te3135357915001837337]
 kernel_rfl
theorem RD:PySem.Challenge.rw_slicewise_k23_tables_of_programs.wellSaid=true:=by kernel_rfl
noncomputable abbrev KE(w:World):zm:=HE.Kf WO (HE.tM pE 3910 w)
noncomputable abbrev dE:DefRec:=HE.UL cO.k7
theorem hd:PySem.W.LeftO pE qE NY (HE.Kn qE [] []) (λs=>WO.map s.heap.get?) (λw=>WO.map (HE.tM pE 3910 w)) 3910/\∀w,FF (KE w)=VV w:=HE.head (p:=pE) (q:=qE) (loose:=NY) (lv:=[]) (R:=[]) (as:=WO) (N:=3910) (M:=1615) (F:=FF) (v:=VV) (by kernel_rfl) rfl (λs=>by kernel_rfl) rfl acN acO runC
def RE{l:PySem.W.OpenLaw}{fa:Addr}(X:K.In h)(G:h.Ns mainGlobals mg)(hfa:mg "law"=some (.ref fa))(hF:FF K=VV w) :
  ∃fd:FuncData,(∀(s:Shared)(v:Value),BindsTo s fd ⟨[v],[]⟩ [("_law_script",v)])/\∀base:Heap,K.In base->base.Ns mainGlobals mg->dA l.prog w K mg base iR 7 fa fd qaU (cM K 1 cO.Mh):=by
 have Q {β:Type} (f:XX->β):=rk f hF;have dY:=z7 X G (Q (·.1.1.1.2.1.2.1) :);have zV:=z7 X G (Q (·.1.1.1.2.1.2.2) :);have zW:=z7 X G (Q (·.1.1.1.2.2.1) :);have BD:=z7 X G (Q (·.1.1.1.2.2.2.1) :);have pY:=z7 X G (Q (·.1.1.1.2.2.2.2) :);have RF:=z7 X G (Q (·.1.1.2.1.1.1) :);have pZ:=z7 X G (Q (·.1.1.2.1.1.2) :);have u9:=z7 X G (Q (·.1.1.2.1.2.1) :);have k_:=z7 X G (Q (·.1.1.2.1.2.2.1) :);have u_:=z7 X G (Q (·.1.1.2.1.2.2.2) :);have eI:=z7 X G (Q (·.1.1.2.2.1.1) :);have RG:=z7 X G (Q (·.1.1.2.2.1.2.1) :);have RH:=z7 X G (Q (·.1.1.2.2.1.2.2) :);have r_:=z7 X G (Q (·.1.1.2.2.2.1) :);have e:=hfa.symm.trans (Mx X G (Q (·.2.1.1.2.2.2.1) :));cases e;have aB:Lay.Sb K 78:=⟨⟨(Q (·.1.2.1.1.2.2.2) :),(Q (·.1.2.1.2.1.1) :),(Q (·.1.2.1.2.1.2.1) :),(Q (·.1.2.1.2.1.2.2) :)⟩,(Q (·.1.2.1.2.2.2.2) :),(Q (·.1.2.2.1.1.1) :),(Q (·.1.2.2.1.1.2) :),(Q (·.1.2.2.1.2.1) :),(Q (·.1.2.2.1.2.2.1) :),(Q (·.1.2.2.1.2.2.2) :),(Q (·.1.2.2.2.1.1) :)⟩;have se:=sO (st:=Lay.iG) (Q (·.1.2.1.1.1.2) :) (Q (·.1.2.1.1.2.1) :) (Q (·.1.2.1.1.2.2.1) :);have Dx:Dc K mg "Layout" "Layout.__init__" Lay.iG qaw 78 75 _:=⟨se,Mx X G (Q (·.1.1.2.2.2.2.1) :),se.binds (λ_ _ _ _ _ _=>(k9.bn2 λ_ _=>rfl)),⟨(Q (·.1.2.1.2.2.1) :),(Q (·.1.1.2.2.2.2.2) :),(Q (·.1.2.1.1.1.1) :),(Q (·.1.2.1.2.2.2.1) :)⟩⟩;have cR:eC.V4 K 99:=⟨⟨(Q (·.2.1.1.1.1.2) :),(Q (·.2.1.1.1.2.1) :),(Q (·.2.1.1.1.2.2.1) :),(Q (·.2.1.1.1.2.2.2) :)⟩,(Q (·.2.1.1.2.1.2.2) :),(Q (·.2.1.1.2.2.1) :)⟩;have BE:=sO (st:=eC.pL) (Q (·.1.2.2.2.2.2.1) :) (Q (·.1.2.2.2.2.2.2) :) (Q (·.2.1.1.1.1.1) :);have Mn:Dc K mg "Sets" "Sets.__init__" eC.pL qaz 99 96 _:=⟨BE,Mx X G (Q (·.1.2.2.2.1.2.1) :),BE.binds (λ_ _ _ _ _ _=>(k9.bn3 λ_ _ _=>rfl)),⟨(Q (·.2.1.1.2.1.1) :),(Q (·.1.2.2.2.1.2.2) :),(Q (·.1.2.2.2.2.1) :),(Q (·.2.1.1.2.1.2.1) :)⟩⟩;have M5:Vc.Mg5 K mg:=⟨pY,k_,eI,dY,zV,BD,pZ,u_,u9,⟨47,Mx X G (Q (·.1.1.1.1.2.1) :),λH=>.inr ⟨_,_,_,(Q (·.1.1.1.1.2.2.1) :),rfl,rfl,Gen.P9 rfl,.cons ⟨_,rfl⟩ (.cons ⟨_,rfl⟩ (.nil))⟩⟩,⟨46,Mx X G (Q (·.1.1.1.1.2.2.2) :),λH=>.inr ⟨_,_,_,(Q (·.1.1.1.2.1.1) :),rfl,rfl,Gen.P9 rfl,.cons ⟨_,rfl⟩ (.cons ⟨_,rfl⟩ (.cons ⟨_,rfl⟩ (.nil)))⟩⟩⟩;have MF:Lay.MgF mg:=⟨eI⟩;have MLy:Lay.Ve mg:=⟨pY,RG⟩;have N2:Nm.ZQ mg:=⟨⟨_,Mx X G (Q (·.1.1.1.1.1.1) :)⟩,⟨_,Mx X G (Q (·.1.1.1.1.1.2) :)⟩,dY,zW,pY,RF⟩;have MP:eC.V3 mg:=⟨eI,r_,k_,u9⟩;have MG:d7.Q9 mg:=⟨pY,k_,pZ,RH⟩;have MS:cO.MgS mg:=⟨dY,zW,zV,BD,u_,pZ,pY,u9⟩;have ML:cO.IP mg:=⟨dY,zW,zV,k_,eI,r_,u_,u9⟩;have F:=sO (st:=cO.k7) (Q (·.2.1.1.2.2.2.2) :) (Q (·.2.1.2.1.1.1) :) (Q (·.2.1.2.1.1.2) :);have DL:Df K mg "law" cO.k7 qaU 271 _:=⟨F,hfa,F.binds (λ_ _ _ _ _ _=>WN λ_=>rfl)⟩;refine⟨W.fnOf "law" "law" (dW cO.k7) (b_ cO.k7) (aq cO.k7) .none (.none) (.none) (.str "law_slicewise_k23_tables_of_programs" 396) none (.ref 270) (.none),λs v=>.of_eq rfl,λbase _ _=>?_⟩;have zT:Tk l.prog w base:=trivial;have WQ:=dN zT X G (Q (·.2.1.2.1.2.1) :) λD=>eC.QS D;have sf:=dM X G (Q (·.2.1.2.1.2.2.1) :) λD=>eC.zH D MP WQ;have Dy:=dN zT X G (Q (·.2.1.2.1.2.2.2) :) λD=>Nm.K_ D N2;have zX:=dM X G (Q (·.2.1.2.2.1.1) :) λD=>Nm.xb D N2 Dy;have zY:=dM X G (Q (·.2.1.2.2.1.2.1) :) λD=>eC.xE D zX;have Mo:=dN zT X G (Q (·.2.1.2.2.1.2.2) :) λD=>Vc.FU D M5;have vd:=dN zT X G (Q (·.2.1.2.2.2.1) :) λD=>Lay.qI D MF;have Ir:=Lay.CU Dx MLy aB Mo vd;have RI:=eC.LK (P:=l.prog) (w:=w) (base:=base) Mn cR;have Dz:=dN zT X G (Q (·.2.1.2.2.2.2.1) :) λD=>eC.zK D MP;have vf:=dM X G (Q (·.2.1.2.2.2.2.2) :) λD=>eC.qO D cR sf;have vg:=dN zT X G (Q (·.2.2.1.1.1.1) :) λD=>eC.qP D MP aB;have Mp:=dM X G (Q (·.2.2.1.1.1.2) :) λD=>eC.G7 D aB cR vf zY sf vg;have Mq:=dM X G (Q (·.2.2.1.1.2.1) :) λD=>eC.Hf D aB MP Mp;have Iu:=dM X G (Q (·.2.2.1.1.2.2.1) :) λD=>eC.C9 D aB cR Ir RI Mq Dz;have p5:=dN zT X G (Q (·.2.2.1.1.2.2.2) :) λD=>d7.zN D MG;have vh:=dN zT X G (Q (·.2.2.1.2.1.1) :) λD=>d7.Hs D MG;have cS:=dN zT X G (Q (·.2.2.1.2.1.2.1) :) λD=>d7.zO D;have zZ:=dM X G (Q (·.2.2.1.2.1.2.2) :) λD=>d7.Q_ D cS;have x8:=dM X G (Q (·.2.2.1.2.2.1) :) λD=>d7.L3 D MG cS;have qR:=dM X G (Q (·.2.2.1.2.2.2.1) :) λD=>d7.Dk D cS zZ x8;have z0:=dM X G (Q (·.2.2.1.2.2.2.2) :) λD=>d7.Rh D MG cS qR;have x9:=dN zT X G (Q (·.2.2.2.1.1.1) :) λD=>d7.L4 D MG;have p6:=dM X G (Q (·.2.2.2.1.1.2.1) :) λD=>d7.zQ D MG cS z0;have x_:=dN zT X G (Q (·.2.2.2.1.1.2.2) :) λD=>cO.Me D MS;have vi:=dN zT X G (Q (·.2.2.2.1.2.1) :) λD=>cO.HU D ML;have vj:=dN zT X G (Q (·.2.2.2.1.2.2.1) :) λD=>cO.HS D ML;have lg:=dN zT X G (Q (·.2.2.2.1.2.2.2) :) λD=>cO.qQ D ML;have vk:=dM X G (Q (·.2.2.2.2.1.1) :) λD=>cO.HV D ML vi vj lg;have p7:=dN zT X G (Q (·.2.2.2.2.1.2.1) :) λD=>cO.Ro D;have vm:=dN zT X G (Q (·.2.2.2.2.1.2.2) :) λD=>cO.H_ D ML;have vn:=dM X G (Q (·.2.2.2.2.2.1) :) λD=>cO.Ia D ML p7 vm;have vo:=dM X G (Q (·.2.2.2.2.2.2.1) :) λD=>cO.zR D ML p7 vn;have vq:=dN zT X G (Q (·.2.2.2.2.2.2.2) :) λD=>cO.Ic D ML;exact cO.Ry DL ML p5 vh x9 p6 vk vo vq Iu x_
def walk{l:PySem.W.OpenLaw}{q:Program}{loose:ω}{XP:(qae)->Heap->Prop}{d:DefRec}{K:World->zm}(hn:l.most=some 63)(MO:d.params.defaults=[])(F:∀(w:World) (mg:qae) (fa:Addr) (h:Heap),(K w).In h->h.Ns mainGlobals mg->mg d.name=some (.ref fa) ->
    ∃fd:FuncData,(∀(s:Shared) (u:Value),BindsTo s fd ⟨[u],[]⟩ [("_law_script",u)])/\∀base:Heap,(K w).In base->base.Ns mainGlobals mg->dA l.prog w (K w) mg base iR 7 fa fd qaU (cM (K w) 1 cO.Mh)) :
  PySem.W.WalkO q loose XP (λw h=>(K w).In h) l.row.toRowW d [] (λf vs=>PySem.call f vs):=by
 refine Xf.vO hn MO λw s₀ s₁ mg mb fa o pm cd doc a vs ns G Y ho hd fO TR O_ hints hlen hg=>?_;obtain⟨fd,hb,hF⟩:=F w mg fa _ Y G.T.g TR;exact Ew (CX:=iR) (sp:=cM (K w) 1 cO.Mh) (k:=7) Y G.T.g G.T.b G.T.builtins G.T.nolimit hg O_ hints (ll hlen (by decide)) ⟨rfl,by decide,by decide⟩ hF hb (λH _ hS=>
  ⟨[.lst (ns.map .int)],[],[],λ_ r=>r=.vw (.bl true),IW,λ_ z=>(nomatch z),λ_ z=>(nomatch z),gF rfl (az.cons (by
     simp only[At];refine⟨a,ns.map V.int,rfl,hS.imp (λz=>⟨z,λm=>nomatch m⟩) id,?_⟩;clear hS;clear hints hlen;induction ns with
     |nil=>exact az.nil
     |cons n ns ih=>exact az.cons bE ih) az.nil),⟨ns,rfl,hlen,rfl⟩,λus r hr v H' _ z=>by
     subst hr;have:=z.1;simpa only[At] using this⟩) λ_ _ _ z=>z
end k9
open PySem PySem.W PyProof.Rows
set_option maxRecDepth 100000 in
set_option maxHeartbeats 0 in
theorem PySem.Challenge.cw_slicewise_k23_tables_of_programs_holds : PySem.Challenge.rw_slicewise_k23_tables_of_programs.Holds := by
 w_on
 refine PySem.W.holds_law k9.RD λRD=>?_;refine PySem.W.holds_openX (q:=k9.qE) (loose:=k9.NY) (Xt:=HE.Kn k9.qE [] []) (XP:=PySem.W.XL k9.qE []) (d:=k9.dE) (kwd:=[]) (N:=3910) k9.hd.1 (λs e=>PySem.W.xl_of s (Bool.and_eq_true_iff.mp e).1) PySem.W.XL.keeps (by kernel_rfl) (by kernel_rfl) (by kernel_rfl) (λs e=>PySem.W.recFacts_of (Bool.and_eq_true_iff.mp e).2) (by kernel_rfl) RD (by kernel_rfl) ⟨rfl,rfl,rfl,rfl,rfl,by decide +kernel⟩ ?hw ?hc
 (case hw=>w_witness2)
 exact HE.Fd (k9.walk (l:=PySem.Challenge.rw_slicewise_k23_tables_of_programs) (K:=k9.KE) rfl rfl (λw mg fa h KX G TR=>k9.RE KX G TR (k9.hd.2 w)))
