import PyProof.Rows.All
import Wide.All
import OpenK.AllK
import Wide.FinOn
import Lean
import PyProof.EqAt
import PyProof.EqKinds
import PyProof.TupleCall
import PyProof.NeKinds
import PyProof.Rows.SumAny
import PyProof.StrBlockL
import PyProof.StrBlockI
import PyProof.FitsReplace
import PyProof.Rows.SeqMore
import PyProof.Rows.TupAdd
import PyProof.Draws
import PyProof.ZipIter
import OpenK.ZGo
import PyProof.ListNew
import PyProof.Rows.SortStr
import PyProof.Rows.SortWalk
import PyProof.IsRules
import KE.KDictLaws
import PyProof.DictWalks
import PyProof.WalkInts
import PyProof.DictItems
import PyProof.Rows.DictItemsRows
import KE.KPairComp
import PyProof.Rows.SetFrom
import PyProof.SetRoads
import PyProof.CollectIter
import PyProof.Rows.SortShellK
import PyProof.Rows.BitMore
import PyProof.SeqRoads2
import PyProof.TupleIter
import PySem.Challenge.RW_slicewise_k15_calls
set_option Elab.async false
set_option linter.all false
set_option genSizeOf false
set_option genSizeOfSpec false
set_option bootstrap.genMatcherCode false
set_option maxRecDepth 100000
set_option maxHeartbeats 8000000
abbrev δ:=@PySem.wpAny_bind
abbrev ε:=@if_pos
abbrev ζ:=@PySem.wpAny_pure
abbrev η:=@if_neg
abbrev ι:=@decide_eq_false
abbrev μ:=@PySem.sizeLine_eq
abbrev ν:=@decide_eq_true
abbrev ς:=@or_false
abbrev υ:=@PySem.wpAny_field
abbrev χ:=@PySem.wpAny_callSpecial?_slot
abbrev ω:=@PySem.wpAny_call_entry
abbrev Γ:=@PySem.wpAny_seqItems
abbrev Θ:=@beq_eq_false_iff_ne
abbrev Λ:=@PySem.wpAny_mono
abbrev Ξ:=@PySem.wpAny_truthy_bool
abbrev Φ:=@PySem.wpAny_newObj_type
abbrev Ψ:=@congrArg
abbrev v9:=@PySem.wpAny_holding
abbrev aaa:=@PySem.wpAny_setField_rec
abbrev aab:=@PySem.wpAny_passesOwn
abbrev aac:=@PySem.wpAny_specialOf
abbrev aad:=@if_false
abbrev aae:=@of_decide_eq_true
abbrev aaf:=@PySem.wpAny_getItem_str_slice
abbrev aag:=@PySem.wpAny_forIn_list
abbrev aah:=@PySem.call_meetsIn
abbrev aai:=@PySem.wpAny_callSpecialIfBoundUnlessNone?_slot
abbrev aaj:=@decide_eq_true_eq
abbrev aak:=@PySem.wpAny_rule
abbrev aal:=@if_true
abbrev aam:=@PySem.wpAny_Call_Name_kw
abbrev aan:=@PySem.wpAny_pyIter_tuple
abbrev aao:=@PySem.wpAny_pyIter_enum
abbrev aap:=@PySem.wpAny_Call_method
abbrev aaq:=@PySem.isSubtype_tuple_tuple
abbrev aar:=@PySem.wpAny_isInstance
abbrev aas:=@PySem.wpAny_Dict_empty
abbrev aat:=@PySem.wpAny_updateSeq_pair
abbrev aau:=@PySem.wpAny_execs_nil
abbrev aav:=@PySem.post_val_or_str
abbrev aaw:=@beq_iff_eq
abbrev aax:=@PySem.wpAny_setField
abbrev aay:=@PySem.tupleKind_room_in1
abbrev aaz:=@PySem.wpAny_tupleItemsOf
abbrev aaA:=@PySem.wpAny_onRaise
variable{w:PySem.World}{a f C dx it:PySem.Addr}{x y qual:PySem.Str}{n i j t' m:Nat}{e b o c iter:PySem.Expr}{fd:PySem.FuncData}{P prog:PySem.Program}{A:PySem.Around}{α β κ:Type}{p apos aN dX p2 tp p1:PySem.Pos}{base h h':PySem.Heap}{O:HD}{u:PySem.Value}{B:Prop}{s':PySem.Shared}{sc:PySem.Scope}{ms:List (Option Nat)}{lo hi:Option PySem.Expr}
abbrev HD:=List (Option PySem.Addr)
abbrev qaa:=List (PySem.Addr×PySem.Obj)
abbrev qad:=PySem.Value->PySem.Shared->Prop
abbrev qae:=PySem.Str->Option PySem.Value
abbrev Δ:=PySem.W.Frag
abbrev qag:=List PySem.Value
abbrev ο:=List PySem.Addr
abbrev π:=List PySem.Str
abbrev qan:=List Int
abbrev qao:=List Nat
abbrev qap:=List PySem.Expr
abbrev qaq:=List PySem.Stmt
abbrev qar:=Option PySem.Addr
noncomputable abbrev qav:List PySem.Str:=["thing"]
noncomputable abbrev qaw:List PySem.Str:=["program"]
noncomputable abbrev qax:List PySem.Str:=["self","program"]
noncomputable abbrev qay:List PySem.Str:=["layout","place"]
noncomputable abbrev qaz:List PySem.Str:=["number"]
noncomputable abbrev qaA:List PySem.Str:=["value"]
noncomputable abbrev qaB:List PySem.Str:=["one","other"]
noncomputable abbrev qaC:List PySem.Str:=["one","word","other"]
noncomputable abbrev qaD:List PySem.Str:=["self","program","most","poke"]
noncomputable abbrev qaE:List PySem.Str:=["call","names"]
noncomputable abbrev qaF:List PySem.Str:=["self","call","names"]
noncomputable abbrev qaG:List PySem.Str:=["machine","part"]
noncomputable abbrev qaH:List PySem.Str:=["key","used"]
noncomputable abbrev qaI:List PySem.Str:=["machine","row","used"]
noncomputable abbrev qaJ:List PySem.Str:=["machine","row","used","made"]
noncomputable abbrev qaK:List PySem.Str:=["machine","place","call","given"]
noncomputable abbrev qaL:List PySem.Str:=["machine","row"]
noncomputable abbrev qaM:List PySem.Str:=["program","inputs","most","poke"]
noncomputable abbrev qaN:List PySem.Str:=["program","inputs","most"]
noncomputable abbrev qaO:List PySem.Str:=["_law_script","_law_k"]
noncomputable abbrev qaP:List PySem.Str:=["_law_cell","_law_many"]
noncomputable abbrev qaQ:List PySem.Str:=["_law_k"]
noncomputable abbrev qaR:List PySem.Str:=["_law_found","_law_due"]
noncomputable abbrev qaS:List PySem.Str:=["_law_number"]
noncomputable abbrev qaT:List PySem.Str:=["_law_held","_law_operand_here"]
noncomputable abbrev qaU:List PySem.Str:=["_law_value"]
noncomputable abbrev qaV:List PySem.Str:=["_law_rows_here","_law_place","_law_held","_law_doings","_law_cells"]
noncomputable abbrev qaW:List PySem.Str:=["_law_rows_here","_law_place","_law_values","_law_doings","_law_cells"]
noncomputable abbrev qaX:List PySem.Str:=["_law_cell","_law_names_here"]
noncomputable abbrev qaY:List PySem.Str:=["_law_cell","_law_names_here","_law_there"]
noncomputable abbrev qaZ:List PySem.Str:=["_law_script","_law_names_here","_law_head"]
abbrev qba:List PySem.Str:=["_law_script"]
abbrev gq(x:PySem.Str):Prop:=(x==("__debug__":PySem.Str))=false
abbrev rQ(x:PySem.Str):Prop:=(x==("__classdict__":PySem.Str))=false
abbrev bZ:=@List.mem_append_right
abbrev cA:=@List.mem_append_left
abbrev c6:=@List.mem_cons_self
abbrev cJ:=@List.length_map
abbrev cK:=@List.mem_append
abbrev fQ:=@List.getElem?_eq_some_iff
abbrev eS:=@List.mem_of_getElem?
abbrev fN:=@PySem.Heap.get?_push_of_some
abbrev cU:=@List.mem_cons
abbrev fJ:=@List.mem_cons_of_mem
abbrev cS:=@Nat.le_refl
abbrev fK:=@List.not_mem_nil
abbrev gZ:=@Bool.false_ne_true
abbrev hU:=@List.getElem?_map
abbrev iD:=@List.mem_singleton
abbrev mz:=@List.getElem?_eq_getElem
abbrev jf:=@List.length_append
abbrev fU:=@List.map_cons
abbrev j5:=@List.filterMap_cons
abbrev fM:=@Nat.le_trans
abbrev jP:=@List.size_toArray
abbrev rR:=@List.getElem?_append_left
abbrev rY:=@List.getElem?_append_right
abbrev gu:=@PySem.Heap.lt_size
abbrev k4:=@PySem.Heap.get?_push_size
abbrev jg:=@List.nodup_cons
abbrev kh:=@PySem.W.mg_of
abbrev tq:=@List.getElem?_set_ne
abbrev oR:=@Bool.and_eq_true
abbrev rZ:=@Nat.lt_of_lt_of_le
abbrev ki:=@Nat.ne_of_lt
abbrev oS:=@List.map_append
abbrev BC:=@PySem.F.slot_list_append
abbrev BD:=@PySem.F.type_list_append
abbrev BE:=@List.getElem?_replicate
abbrev pA:=@PySem.boot_len
abbrev mE:=@Nat.zero_le
abbrev Dx:=@List.getElem?_set_self
abbrev Dy:=@List.getElem?_eq_none
abbrev zC:=@List.nodup_append
abbrev xc:=@List.append_nil
abbrev zI:=@Int.emod_lt_of_pos
abbrev rS:=@List.mem_map
abbrev zJ:=@Nat.lt_succ_self
abbrev tu:=@List.map_map
abbrev zK:=@Int.emod_nonneg
abbrev BF:=@List.length_cons
abbrev Dz:=@Int.toNat_natCast
abbrev Fm:=@List.zip_cons_cons
abbrev Fp:=@PySem.W.mg_none_of
abbrev Ke:=@PySem.F.slot_dict_get
abbrev FV:=@List.replicate_succ
abbrev N3:=@PySem.F.slot_tuple_iterator_next
abbrev FW:=@List.set_cons_succ
abbrev FY:=@Bool.false_eq_true
abbrev xi:=@Nat.le_succ
abbrev T_:=@PyProof.Rows.slot_tuple_getitem
abbrev Fq:=@List.length_set
abbrev FZ:=@List.cons_append
abbrev Ft:=@List.nodup_nil
abbrev F0:=@List.mem_filter
abbrev T':=@PyProof.Rows.callWith_type1
abbrev KQ:=@PySem.Calls.spliced_cons
abbrev Kg:=@List.lookup_cons
abbrev Kh:=@Nat.le_add_right
abbrev Fu:=@Nat.lt_irrefl
abbrev DA:=@Nat.ne_of_gt
abbrev F4:=@PySem.Heap.size_push
abbrev PZ:=@List.zipWith_cons_cons
abbrev N4:=@Array.length_toList
abbrev N5:=@PySem.mem_of_lookup
abbrev N6:=@List.map_congr_left
abbrev Ua:=@List.mem_or_eq_of_mem_set
abbrev Ki:=@List.find?_cons
abbrev Ub:=@List.getLast?_eq_getElem?
abbrev P0:=@List.length_replicate
abbrev UR:=@List.mem_iff_getElem?
abbrev N7:=@List.set_cons_zero
abbrev Kj:=@List.mem_range
abbrev Uc:=@PySem.F.plainAttrs_list
abbrev Ud:=@PySem.F.args_dict_get_3
abbrev Ue:=@PySem.F.plainAttrs_dict
abbrev Ug:=@Int.eq_ofNat_of_zero_le
abbrev N8:=@List.length_range
abbrev KR:=@List.length_zip
abbrev KS:=@PySem.PassesOwn.never
abbrev Uh:=@PySem.Calls.callWith_builtin
abbrev Ui:=@PySem.F.entry_dict_get
abbrev Kk:=@List.any_cons
abbrev Kl:=@Bool.not_true
abbrev P4:=@Nat.lt_of_le_of_lt
abbrev UT:=@Classical.byContradiction
abbrev Km:=@List.map_nil
abbrev N9:=@Bool.eq_iff_iff
abbrev Uj:=@List.dropLast_concat
abbrev P6:=@List.flatten_cons
abbrev P7:=@List.append_assoc
abbrev P8:=@List.length_take
abbrev P9:=@List.all_eq_true
abbrev P_:=@List.getElem_mem
abbrev YA:=@PySem.F.args_tuple_iterator_next_1
abbrev UU:=@Option.map_eq_some_iff
abbrev YB:=@PySem.F.entry_tuple_iterator_next
abbrev KU:=@Nat.min_self
abbrev Qa:=@PySem.W.kia_one
abbrev N_:=@Bool.and_self
abbrev Uk:=@Nat.lt_succ_of_lt
abbrev Ul:=@List.getElem?_set
abbrev Um:=@List.ext_getElem?
abbrev UW:=@PySem.Calls.evalArgs_plain
abbrev UX:=@List.length_dropLast
abbrev N':=@Nat.lt_trans
abbrev UY:=@List.length_zipWith
abbrev YC:=@List.getElem?_range
abbrev YD:=@List.getElem?_cons_zero
abbrev YE:=@List.length_eq_zero_iff
abbrev YF:=@List.filter_cons_of_pos
abbrev Qb:=@PySem.Paired.length
abbrev UZ:=@List.mem_filterMap
abbrev YG:=@List.take_of_length_le
abbrev U0:=@PySem.Calls.spliced_nil
abbrev Qc:=@Nat.le_of_lt
abbrev YH:=@Bool.beq_eq_decide_eq
abbrev YI:=@List.getElem?_zipWith
abbrev YJ:=@PySem.F.type_dict_get
abbrev YK:=@List.getElem?_mapIdx
abbrev YL:=@PySem.F.slot_NoneType_hash
abbrev ZI:=@List.getD_eq_getElem?_getD
abbrev YM:=@PySem.Heap.SameBut.update
abbrev U1:=@List.nil_append
abbrev U2:=@Option.map_some
abbrev YN:=@PySem.W.callWith_K
abbrev ZJ:=@List.getElem?_take_of_lt
abbrev ZL:=@PySem.F.args_tuple_add_2
abbrev YO:=@PySem.Obj.data_mapFields
abbrev U3:=@Bool.false_and
abbrev ZM:=@PySem.F.entry_tuple_add
abbrev ZN:=@List.filter_cons_of_neg
abbrev ZO:=@PySem.F.slot_tuple_add
abbrev ZP:=@List.zipWith_map_right
abbrev U4:=@Bool.true_and
namespace L2
open PySem PySem.Spec PyProof.Rows
abbrev Key:=Sum Int Str
noncomputable def tw:Key->Value->Bool
 |.inl k,v=>Value.isInt k v
 |.inr x,v=>Value.isStrOf x v
noncomputable def ZQ(w:World):Key->Int
 |.inl k=>hashInt k
 |.inr x=>hashStr w x
theorem cx:∀{k:Key}{v:Value},tw k v=true->(∃i t,k=Sum.inl i/\v=Value.int i t)\/(∃x t,k=Sum.inr x/\v=Value.str x t)
 |.inl i,v,h=>by obtain⟨t,e⟩:=Value.isInt_shape (k:=i) (v:=v) h;exact .inl ⟨i,t,rfl,e⟩
 |.inr x,v,h=>by obtain⟨t,e⟩:=Value.isStrOf_shape (x:=x) (v:=v) h;exact .inr ⟨x,t,rfl,e⟩
def DB(i:Int)(t:Tok):tw (.inl i) (.int i t)=true:=by simp[tw,Value.isInt]
def DC(x:Str)(t:Tok):tw (.inr x) (.str x t)=true:=by simp[tw,Value.isStrOf]
def Qd(a b:Int):decide ((Sum.inl a:Key)=Sum.inl b)=(a==b):=by by_cases e:a=b;subst e;simp;have h:¬ (Sum.inl a:Key)=Sum.inl b:=λq=>e (Sum.inl.inj q);rw[ι h];exact (Θ.mpr e).symm
def Qe(a b:Str):decide ((Sum.inr a:Key)=Sum.inr b)=decide (a=b):=by by_cases e:a=b;subst e;simp;have h:¬ (Sum.inr a:Key)=Sum.inr b:=λq=>e (Sum.inr.inj q);rw[ι h,ι e]
def Qf(a:Int)(b:Str):decide ((Sum.inl a:Key)=Sum.inr b)=false:=ι (λq=>nomatch q)
def Qg(a:Str)(b:Int):decide ((Sum.inr a:Key)=Sum.inl b)=false:=ι (λq=>nomatch q)
noncomputable def aK(prog:Program)(w:World):PySem.KeyKind prog w Key where
 is:=tw
 hash:=ZQ w
 inj:=λv a b ha hb=>by
  rcases cx ha with⟨i,t,rfl,rfl⟩|⟨x,t,rfl,rfl⟩
  rcases cx hb with⟨j,u,rfl,e⟩|⟨y,u,rfl,e⟩
  injection e with e1 _;rw[e1]
  exact nomatch e;rcases cx hb with⟨j,u,rfl,e⟩|⟨y,u,rfl,e⟩
  exact nomatch e;injection e with e1 _;rw[e1]
 byValue:=λk v h=>by rcases cx h with⟨i,t,rfl,rfl⟩|⟨x,t,rfl,rfl⟩<;>rfl
 pyHash:=λhv h=>by
  rcases cx hv with⟨i,t,rfl,rfl⟩|⟨x,t,rfl,rfl⟩
  exact wpAny_pyHash_int h;exact wpAny_pyHash_str h
 eqBool:=λhu hv h=>by
  rcases cx hu with⟨i,t,rfl,rfl⟩|⟨x,t,rfl,rfl⟩
  rcases cx hv with⟨j,u,rfl,rfl⟩|⟨y,u,rfl,rfl⟩
  rw[Qd] at h;exact wpAny_eqBool_int h;rw[Qf] at h;exact SeqAt.EqAt.int_str i t y u _ _ _ _ h;rcases cx hv with⟨j,u,rfl,rfl⟩|⟨y,u,rfl,rfl⟩
  rw[Qg] at h;exact SeqAt.EqAt.str_int x t j u _ _ _ _ h;rw[Qe] at h;exact wpAny_eqBool_str h
 «strs»:=λk x t v h=>by
  rcases cx h with⟨i,u,rfl,e⟩|⟨y,u,rfl,e⟩
  exact nomatch e;injection e with e1 _
  subst e1;cases v<;>rfl
def xj(prog:Program)(w:World)(i:Int)(t:Tok):(aK prog w).is (.inl i) (.int i t)=true:=DB i t
def xk(prog:Program)(w:World)(x:Str)(t:Tok):(aK prog w).is (.inr x) (.str x t)=true:=DC x t
inductive V where
 |aQ|bl (b:Bool)|int (i:Int)|str (x:Str)|ZR (b:Array UInt8)|ZS (b:UInt64)|ref (a:Addr)|ty (n:String)
 deriving DecidableEq
def RelV:V->Value->Prop
 |.aQ,u=>u=Value.none
 |.bl b,u=>u=Value.bool b
 |.int i,u=>∃t,u=Value.int i t
 |.str x,u=>∃t,u=Value.str x t
 |.ZR b,u=>∃t,u=Value.bytes b t
 |.ZS b,u=>∃t,u=Value.float b t
 |.ref a,u=>u=Value.ref a
 |.ty n,u=>u=Value.type n
abbrev Vals:List V->qag->Prop:=Paired RelV
def Vals.length{xs:List V}{us:qag}(r:Vals xs us):xs.length=us.length:=Qb r
theorem Vals.get:∀{xs:List V}{us:qag}{i:Nat}{x:V},Vals xs us->xs[i]?=some x->∃u,us[i]?=some u/\RelV x u
 |_,_,_,_,.nil,e=>by simp at e
 |_,_,0,_,.cons r _,e=>by simp at e;subst e;exact⟨_,rfl,r⟩
 |_,_,i+1,x,.cons _ t,e=>by obtain⟨u,h1,h2⟩:=Vals.get (i:=i) (x:=x) t (by simpa using e);exact⟨u,by simpa using h1,h2⟩
theorem Vals.set{x:V}{u:Value}(r:RelV x u):∀{xs:List V}{us:qag}(i:Nat),Vals xs us->Vals (xs.set i x) (us.set i u)
 |_,_,_,.nil=>.nil
 |_,_,0,.cons _ t=>.cons r t
 |_,_,i+1,.cons q t=>.cons q (Vals.set r i t)
theorem Vals.append:∀{xs ys:List V}{us ws:qag},Vals xs us->Vals ys ws->Vals (xs++ys) (us++ws)
 |_,_,_,_,.nil,s=>s
 |_,_,_,_,.cons r t,s=>.cons r (Vals.append t s)
theorem Vals.take:∀{xs:List V}{us:qag}(n:Nat),Vals xs us->Vals (xs.take n) (us.take n)
 |_,_,0,_=>.nil
 |_,_,_+1,.nil=>.nil
 |_,_,n+1,.cons r t=>.cons r (Vals.take n t)
theorem Vals.drop:∀{xs:List V}{us:qag}(n:Nat),Vals xs us->Vals (xs.drop n) (us.drop n)
 |_,_,0,r=>r
 |_,_,_+1,.nil=>.nil
 |_,_,n+1,.cons _ t=>Vals.drop n t
def j1:Option V->Option Value->Prop
 |some v,some u=>RelV v u
 |none,none=>True
 |_,_=>False
def KV{κ:Type}:List (κ×V)->List (κ×Value)->Prop:=Paired λ(p:κ×V) (q:κ×Value)=>p.1=q.1/\RelV p.2 q.2
noncomputable def kV:Key->V
 |.inl i=>.int i
 |.inr x=>.str x
inductive HO where
 |lst (xs:List V)
 |tup (xs:List V)
 |dK (a8:List (Key×V))|dT (a8:List (List Key×V))
 |set (S:Int->Bool) (n:Nat)
 |ins (C dx:Addr) (fs:List (Str×V))
 |own (x:Addr)
 |xd (fs:List (Str×V))
 |met (f x:Addr)
 |ZT (lo hi:Int)
 |BG (o:Obj) (u:HO)
 |Qh (ps:Array Value)
 |ext (φ:Heap->Prop)
abbrev Hp:=Addr->Option HO
noncomputable def upd(H:Hp)(a:Addr)(o:HO):Hp:=λb=>if b=a then some o else H b
def aC{H:Hp}{o:HO}:upd H a o a=some o:=by unfold upd;rw[ε rfl]
def aG{H:Hp}{b:Addr}{o:HO}(h:b≠a):upd H a o b=H b:=by unfold upd;rw[η h]
def F6{H:Hp}{b:Addr}{o u:HO}(h:H a=some o)(h':H b=some u)(d:o≠u):a≠b:=by intro e;subst e;rw[h] at h';exact d (Option.some.inj h')
def bo{H:Hp}{b:Addr}{o:HO}(h:H a=some o)(h':H b=none):a≠b:=by intro e;subst e;rw[h] at h';cases h'
section
variable(P:Program)(w:World)
def cp(H:Hp)(h:Heap)(a:Addr):HO->Prop
 |.lst xs=>xs.length<=sizeLine/\∃(aP:qag)(n:Nat),Vals xs aP/\h.get? a=some {cls:=.type "list",data:=.seq aP.toArray n}
 |.tup xs=>xs.length<=sizeLine/\∃aP:qag,Vals xs aP/\IsTup h a aP.toArray
 |.dK a8=>a8.length<=sizeLine/\(a==sysModules)=false/\∃vs,KV a8 vs/\h.DictOf (aK P w) a vs
 |.dT a8=>a8.length<=sizeLine/\(a==sysModules)=false/\∃xs:List (List Key×Addr×Value),
  Paired (λ(p:List Key×V) (q:List Key×Addr×Value)=>p.1=q.1/\H q.2.1=some (.tup (p.1.map kV))/\RelV p.2 q.2.2) a8 xs /\
  ∃o es ep,h.get? a=some o/\o.ExactDict/\o.data=.dict es ep/\es.toList=xs.map (entryOfKey (tupleKind (aK P w)))/\(xs.map (·.1)).Nodup
 |.set S n=>h.SetOf (intKind P w) a S n
 |.ins C dx fs=>H dx=some (.own a)/\fs.length<=1000/\dx≠a/\h.get? a=some (W.instObj C dx) /\
  ∃mA,h.Ns1 dx mA/\(∀f,j1 (fs.lookup f) (mA f))/\PySem.Within mA (fs.map (·.1))
 |.own _=>∃o,h.get? a=some o
 |.xd fs=>∃mA,h.Ns1 a mA/\∀f,j1 (fs.lookup f) (mA f)
 |.ZT lo hi=>∃t u v,h.get? a=some {cls:=.type "range",data:=.fields #[.int lo t,.int hi u,.int 1 v]}
 |.BG o u=>h.get? a=some o/\cp H h a u
 |.Qh ps=>h.get? a=some {cls:=.none,data:=.fields ps}
 |.met f x=>h.get? a=some (W.methodObj (.ref f) (.ref x))
 |.ext φ=>φ h/\(∃o,h.get? a=some o)/\∀h1 h2:Heap,φ h1->(∀o,h1.get? a=some o->h2.get? a=some o)->φ h2
def kZ(H:Hp)(h:Heap):Prop:=∀a o,H a=some o->cp P w H h a o
end
section
variable{H H':Hp}{o:HO}
def cp.lt(x:cp P w H h a o):a<h.objs.size:=by
 cases o with
 |lst xs=>obtain⟨_,_,_,_,e⟩:=x;exact gu e
 |tup xs=>obtain⟨_,_,_,p⟩:=x;exact p.lt
 |dK a8=>obtain⟨_,_,_,_,o,_,_,e,_⟩:=x;exact gu e
 |dT a8=>obtain⟨_,_,_,_,o,_,_,e,_⟩:=x;exact gu e
 |set S n=>obtain⟨o,_,_,_,e,_⟩:=x;exact gu e
 |ins C dx fs=>obtain⟨_,_,_,e,_⟩:=x;exact gu e
 |own y=>obtain⟨_,e⟩:=x;exact gu e
 |xd fs=>obtain⟨_,⟨_,_,_,e,_⟩,_⟩:=x;exact gu e
 |ZT lo hi=>obtain⟨_,_,_,e⟩:=x;exact gu e
 |BG ob u=>obtain⟨e,_⟩:=x;exact gu e
 |Qh ps=>exact gu (show h.get? a=some _ from x)
 |met f y=>exact gu (show h.get? a=some _ from x)
 |ext φ=>obtain⟨_,⟨_,e⟩,_⟩:=x;exact gu e
theorem Paired.k5{α β:Type}{F G:α->β->Prop}:∀{l₁:List α}{l₂:List β},Paired F l₁ l₂->(∀a b,F a b->G a b)->Paired G l₁ l₂
 |_,_,.nil,_=>.nil
 |_,_,.cons r t,f=>.cons (f _ _ r) (Paired.k5 t f)
def cp.zL(x:cp P w H h a o)(k:∀b u,(b=a\/H b=some (.own a))->h.get? b=some u->h'.get? b=some u)(ho:∀b,H b=some (.own a)->H' b=some (.own a))(ht:∀b xs,H b=some (.tup xs)->H' b=some (.tup xs)):cp P w H' h' a o:=by
 induction o with
 |lst xs=>obtain⟨z,aP,n,r,e⟩:=x;exact⟨z,aP,n,r,k _ _ (.inl rfl) e⟩
 |tup xs=>obtain⟨z,aP,r,ob,e,c⟩:=x;exact⟨z,aP,r,ob,k _ _ (.inl rfl) e,c⟩
 |dK a8=>obtain⟨z,y,vs,r,ob,es,ep,e,c⟩:=x;exact⟨z,y,vs,r,ob,es,ep,k _ _ (.inl rfl) e,c⟩
 |dT a8=>obtain⟨z,y,xs,r,ob,es,ep,e,c⟩:=x;exact⟨z,y,xs,Paired.k5 r λp q z=>⟨z.1,ht _ _ z.2.1,z.2.2⟩,ob,es,ep,k _ _ (.inl rfl) e,c⟩
 |set S n=>obtain⟨ob,es,ep,t,e,c⟩:=x;exact⟨ob,es,ep,t,k _ _ (.inl rfl) e,c⟩
 |ins C dx fs=>obtain⟨d,z,ne,e,mA,⟨od,es,ep,e2,c⟩,r⟩:=x;exact⟨ho _ d,z,ne,k _ _ (.inl rfl) e,mA,⟨od,es,ep,k _ _ (.inr d) e2,c⟩,r⟩
 |own y=>obtain⟨ob,e⟩:=x;exact⟨ob,k _ _ (.inl rfl) e⟩
 |xd fs=>obtain⟨mA,⟨od,es,ep,e,c⟩,r⟩:=x;exact⟨mA,⟨od,es,ep,k _ _ (.inl rfl) e,c⟩,r⟩
 |ZT lo hi=>obtain⟨t,u,v,e⟩:=x;exact⟨t,u,v,k _ _ (.inl rfl) e⟩
 |BG ob u ih=>obtain⟨e,q⟩:=x;exact⟨k _ _ (.inl rfl) e,ih q⟩
 |Qh ps=>have e:h.get? a=some {cls:=.none,data:=.fields ps}:=x;show h'.get? a=some {cls:=.none,data:=.fields ps};exact k a _ (.inl rfl) e
 |met f y=>have e:h.get? a=some (W.methodObj (.ref f) (.ref y)):=x;show h'.get? a=some (W.methodObj (.ref f) (.ref y));exact k a _ (.inl rfl) e
 |ext φ=>obtain⟨p,⟨o,e⟩,st⟩:=x;exact⟨st _ _ p λo q=>k _ _ (.inl rfl) q,⟨o,k _ _ (.inl rfl) e⟩,st⟩
def kZ.lt(x:kZ P w H h)(e:H a=some o):a<h.objs.size:=(x a o e).lt
def kZ.fresh(x:kZ P w H h)(e:h.objs.size<=a):H a=none:=by
 cases q:H a with
 |none=>rfl
 |some u=>exact absurd (rZ (x.lt q) e) (Fu _)
def kZ.kept(x:kZ P w H h)(k:∀b u,h.get? b=some u->h'.get? b=some u):kZ P w H h':=λa o e=>
 (x a o e).zL (λb u _ q=>k b u q) (λ_ q=>q) λ_ _ q=>q
def kZ.laid(x:kZ P w H h)(k:∀b u,h.get? b=some u->h'.get? b=some u)(hp:h.objs.size<=a)(new:cp P w (upd H a o) h' a o):kZ P w (upd H a o) h':=λb u e=>by have hn:=x.fresh hp;by_cases hb:b=a;subst hb;rw[aC] at e;cases e;exact new;rw[aG hb] at e;exact (x b u e).zL (λc v _ q=>k c v q) (λc q=>by rw[aG (bo q hn)];exact q) λc xs q=>by rw[aG (bo q hn)];exact q
end
def Rd(H:Hp)(a:Addr)(u:HO):Prop:=H a=some u\/∃o,H a=some (.BG o u)
def Rd.ok{H:Hp}{u:HO}(r:Rd H a u)(x:kZ P w H h):cp P w H h a u:=by
 obtain r|⟨o,r⟩:=r
 exact x a u r;obtain⟨_,q⟩:=x a _ r;exact q
def U5:Option HO->Prop
 |some (.lst _)=>True
 |some (.dK _)=>True
 |some (.dT _)=>True
 |some (.set _ _)=>True
 |some (.ins _ _ _)=>True
 |some (.ext _)=>True
 |_=>False
section
variable{H:Hp}{x e:Addr}{o':HO}
def kZ.write(ok:kZ P w H h)(mu:U5 (H x))(he:e=x\/H e=some (.own x))(k:∀b u,b≠e->h.get? b=some u->h'.get? b=some u)(Kn:∃u,h'.get? e=some u)(new:cp P w (upd H x o') h' x o'):kZ P w (upd H x o') h':=λb u q=>by
 have U6:∀c y,H c=some (.own y)->c≠x:=λc y r z=>by subst z;rw[r] at mu;exact mu
 have ZU:∀c xs,H c=some (.tup xs)->c≠x:=λc xs r z=>by subst z;rw[r] at mu;exact mu
 by_cases hb:b=x;subst hb;rw[aC] at q;cases q;exact new;rw[aG hb] at q;by_cases DD:b=e;have q':H b=some (.own x):=by
  obtain z|z:=he
  exact absurd (DD.trans z) hb;rw[DD];exact z
 rw[q] at q';cases q';obtain⟨v,hv⟩:=Kn;exact⟨v,by rw[DD];exact hv⟩;refine (ok b u q).zL (λc v hc r=>k c v ?_ r) (λc r=>by rw[aG (U6 c b r)];exact r) λc xs r=>by rw[aG (ZU c xs r)];exact r
 obtain rfl|hc:=hc
 exact DD;rintro rfl;obtain z|z:=he
 exact U6 c b hc z;rw[hc] at z;cases z;exact hb rfl
end
structure Un(fs ex:ο)(H H':Hp)(h h':Heap):Prop where
 keep:∀b o,h.get? b=some o->H b=none->b∉fs->b∉ex->h'.get? b=some o
 slot:∀b o,h.get? b=some o->H b=none->b∈fs->b∉ex->∃sl,h'.get? b=some {o with slots:=sl}
 free:∀b o,h.get? b=some o->H b=none->b∉ex->H' b=none
 there:∀b o,h.get? b=some o->b∉ex->∃o',h'.get? b=some o'
 xl:∀b xs,H b=some (.tup xs)->H' b=some (.tup xs)
 ux:∀b o u,H b=some (.BG o u)->H' b=some (.BG o u)
 xm:∀b ps,H b=some (.Qh ps)->∃more,H' b=some (.Qh (ps++more))
section
variable{fs ZV ex ZW:ο}{H H1 H2:Hp}{h1 h2:Heap}{x e:Addr}{o:HO}
def Un.any(u:Un fs ex H H1 h h1){b:Addr}{ob:Obj}(q:h.get? b=some ob)(n:H b=none)(hx:b∉ex):∃sl,h1.get? b=some {ob with slots:=sl}:=by by_cases hb:b∈fs;exact u.slot b ob q n hb hx;exact⟨ob.slots,u.keep b ob q n hb hx⟩
def Un.kept(k:∀b u,h.get? b=some u->h'.get? b=some u):Un fs ex H H h h' :=
 ⟨λb ob q _ _ _=>k b ob q,λb ob q _ _ _=>⟨ob.slots,k b ob q⟩,λ_ _ _ n _=>n,λb ob q _=>⟨ob,k b ob q⟩,λ_ _ q=>q,λ_ _ _ q=>q,λ_ ps q=>⟨#[],by rw[q];simp⟩⟩
def Un.refl:Un fs ex H H h h:=Un.kept λ_ _ q=>q
def Un.laid(k:∀b u,h.get? b=some u->h'.get? b=some u)(hp:h.objs.size<=a)(hn:H a=none):Un fs ex H (upd H a o) h h' where
 keep:=λb u q _ _ _=>k b u q
 slot:=λb u q _ _ _=>⟨u.slots,k b u q⟩
 free:=λb u q n _=>by rw[aG (ki (rZ (gu q) hp))];exact n
 there:=λb u q _=>⟨u,k b u q⟩
 xl:=λb xs q=>by rw[aG (bo q hn)];exact q
 ux:=λb u xs q=>by rw[aG (bo q hn)];exact q
 xm:=λb ps q=>⟨#[],by rw[aG (bo q hn),q];simp⟩
def Un.write(mu:U5 (H x))(he:e=x\/H e=some (.own x))(k:∀b u,b≠e->h.get? b=some u->h'.get? b=some u)(Kn:∃u,h'.get? e=some u):Un fs ex H (upd H x o) h h':=by
 have hx:∀b,H b=none->b≠x:=λb n z=>by subst z;rw[n] at mu;exact mu
 have hb:∀b,H b=none->b≠e:=λb n z=>by
  subst z;obtain r|r:=he
  exact hx b n r;rw[n] at r;cases r
 have hm:∀b u,H b=some u->¬ U5 (some u)->b≠x:=λb u q nm z=>by subst z;rw[q] at mu;exact nm mu
 refine⟨λb u q n _ _=>k b u (hb b n) q,λb u q n _ _=>⟨u.slots,k b u (hb b n) q⟩,λb u q n _=>by rw[aG (hx b n)];exact n,λb u q _=>?_,
  λb xs q=>by rw[aG (hm b _ q λz=>z)];exact q,λb u xs q=>by rw[aG (hm b _ q λz=>z)];exact q,λb ps q=>⟨#[],by rw[aG (hm b _ q λz=>z),q];simp⟩⟩
 by_cases DD:b=e;subst DD;exact Kn;exact⟨u,k b u DD q⟩
end
noncomputable def YQ(h:Heap)(H:Hp):ο:=(List.range h.objs.size).filter λa=>(H a).isSome
noncomputable def uy(h:Heap)(H:Hp):Heap:=W.hideAll h (YQ h H)
def DE(h:Heap)(H:Hp):(uy h H).objs.size=h.objs.size:=W.hideAll_size _ _
def F7{H:Hp}{b:Addr}{o:Obj}(e:h.get? b=some o)(n:H b=none):(uy h H).get? b=some o :=
 W.hideAll_get _ e λhm=>by have q:(H b).isSome=true:=(F0.mp hm).2;rw[n] at q;simp at q
def KW{H:Hp}{b:Addr}{o:Obj}(e:(uy h H).get? b=some o):h.get? b=some o/\H b=none:=by
 have e':h.get? b=some o:=W.of_hideAll (YQ h H) e;refine⟨e',?_⟩;cases q:H b with
 |none=>rfl
 |some x=>have hm:b∈YQ h H:=F0.mpr ⟨Kj.mpr (gu e'),by simp[q]⟩;have z:(uy h H).get? b=none:=W.hideAll_none (YQ h H) hm;rw[z] at e;cases e
def KY(g h:Heap)(L:Addr):qaa:=(List.range h.objs.size).filterMap λa=>if a=L\/(g.get? a).isSome=true then none else (h.get? a).map λo=>(a,o)
def rest(g h:Heap)(L d:Addr):qaa:=(KY g h L).filter λp=>decide (p.1≠d)
structure Mod(K:Δ)(mg:qae)(base:Heap):Prop where
 Uo:K.In base
 glob:base.Ns mainGlobals mg
 blt:∃mb,base.Ns builtinsNs mb/\∀x:Str,x≠"__name__"->mb x=bootBuiltins x
 nolimit:base.NoLimit
structure Cx where
 prog:Program
 w:World
 K:Δ
 mg:qae
 base:Heap
 A:Around
 N:π
 s₀:Shared
 H₀:Hp
 env:Env
 outer:List Env
 stack:List Env
 ex:ο
 fn:Str->Bool
 calm:Bool
 pn:qaa
 xe:qad
noncomputable def Fv(l:List Env):ο:=l.filterMap (·.frame)
noncomputable abbrev Cx.fs(X:Cx):ο:=Fv X.outer
def jQ(sc:Scope)(x:Str):Prop:=sc.names.lookup x=some .local\/sc.names.lookup x=some .cell\/sc.names.lookup x=some .free
theorem _root_.jvv{sc x}(h:(match sc.names.lookup x with|some .local|some .cell|some .free=>true|_=>false)=true):jQ sc x:=by unfold jQ;split at h<;>simp_all
def Loc(sc:Scope)(x:Str):Prop:=sc.names.lookup x=some .local\/sc.names.lookup x=some .cell
def Look(env:Env)(h:Heap)(m:qae)(x:Str)(u:Value):Prop :=
 (env.kindOf x=some .local/\m x=some u)\/((env.kindOf x=some .cell\/env.kindOf x=some .free)/\∃c,env.cells.lookup x=some c/\h.IsCell c (some u))
structure Cx.Ok(X:Cx):Prop where
 mod:Mod X.K X.mg X.base
 kind:X.env.scope.kind=.function
 glob:X.env.globals=mainGlobals
 blt:X.env.builtins=builtinsNs
 above:X.s₀.heap.objs.size<=X.env.locals
 inj:∀x y c,X.env.cells.lookup x=some c->X.env.cells.lookup y=some c->x=y
 has:∀x,(X.env.kindOf x=some .cell\/X.env.kindOf x=some .free)->∃c,X.env.cells.lookup x=some c
 Qi:∀x c,X.fn x=true->X.env.cells.lookup x=some c->X.s₀.heap.objs.size<=c
 hd:X.calm=true->X.A.handled=none
 frames:X.A.frames=some X.stack
 Up:X.stack=X.outer\/(X.stack=X.env::X.outer/\X.env.frame=some X.env.locals)
 YR:∀b∈X.ex,b≠X.env.locals/\∀x c,X.env.cells.lookup x=some c->c≠b
 bs:∀b o,X.base.get? b=some o->X.s₀.heap.get? b=some o/\X.H₀ b=none
 F8:X.base.objs.size<=X.s₀.heap.objs.size
 zM:∀b o,X.base.get? b=some o->b∉X.ex
 DF:∀b∈X.ex,b∉X.fs
 k6:X.s₀.heap.FunFrames X.base X.outer
 KZ:∀b∈X.fs,X.H₀ b=none
structure Inv(X:Cx)(γ:qaa)(σ:List (Option V))(H:Hp)(s:Shared):Prop where
 ok:X.Ok
 os:s.os=X.s₀.os
 bare:AllBare s.gens
 base:Un X.fs X.ex X.H₀ H X.s₀.heap s.heap
 loc:∃m,s.heap.Ns X.env.locals m/\∀(i:Nat)(x:Str)(v:V),X.N[i]?=some x->σ[i]?=some (some v)->jQ X.env.scope x->∃u,RelV v u/\Look X.env s.heap m x u
 cell:∀x c,X.env.cells.lookup x=some c->∃v,s.heap.IsCell c v
 free:H X.env.locals=none
 hW:∀x c,X.env.cells.lookup x=some c->H c=none
 pin:∀p∈X.pn++γ,s.heap.get? p.1=some p.2/\H p.1=none/\p.1≠X.env.locals/\p.1∉X.fs/\∀v,p.2.data≠.cell v
 cj:kZ X.prog X.w H s.heap
 len:σ.length=X.N.length
section
variable{X:Cx}{γ:qaa}{σ:List (Option V)}{H H':Hp}{s:Shared}
def Cx.Ok.ZX(ok:X.Ok){b:Addr}{o:Obj}(e:X.base.get? b=some o):b∉X.fs:=λhb=>by have:=(ok.k6.mem hb).1;rw[e] at this;cases this
def Inv.bs(I:Inv X γ σ H s):∀b o,X.base.get? b=some o->s.heap.get? b=some o/\H b=none:=λb o e=>
 ⟨I.base.keep b o (I.ok.bs b o e).1 (I.ok.bs b o e).2 (I.ok.ZX e) (I.ok.zM b o e),I.base.free b o (I.ok.bs b o e).1 (I.ok.bs b o e).2 (I.ok.zM b o e)⟩
def Inv.bk(I:Inv X γ σ H s):∀b o,X.base.get? b=some o->s.heap.get? b=some o:=λb o e=>(I.bs b o e).1
def Inv.mod(I:Inv X γ σ H s):Mod X.K X.mg X.base:=I.ok.mod
def Inv.r0(I:Inv X γ σ H s):X.K.In s.heap:=I.ok.mod.Uo.keeps I.bk
def Inv.lt(I:Inv X γ σ H s):X.env.locals<s.heap.objs.size:=let ⟨_,hn,_⟩:=I.loc;hn.lt
def Inv.sz(I:Inv X γ σ H s):X.s₀.heap.objs.size<=s.heap.objs.size:=fM I.ok.above (Qc I.lt)
def Inv.ZY(I:Inv X γ σ H s)(h:s.heap.objs.size<=a):a∉X.fs:=λhb=>by obtain⟨_,o,ho,_⟩:=I.ok.k6.mem hb;exact absurd (rZ (gu ho) (fM I.sz h)) (Fu _)
def Inv.K0(I:Inv X γ σ H s):∀x c,X.env.cells.lookup x=some c->c≠X.env.locals:=λx c e z=>by obtain⟨v,o,ho,hd⟩:=I.cell x c e;obtain⟨m,⟨o',es,ep,j6,BH,_⟩,_⟩:=I.loc;rw[z,j6] at ho;cases ho;rw[BH] at hd;cases hd
def Inv.k6(I:Inv X γ σ H s):s.heap.FunFrames X.base X.outer:=by
 have all:∀(l:List Env),(∀b∈Fv l,b∈X.fs)->X.s₀.heap.FunFrames X.base l->s.heap.FunFrames X.base l:=by
  intro l;induction l with
  |nil=>intro _ _;trivial
  |cons env r ih=>intro hs hl;obtain⟨hk,⟨L,o,hf,hn,ho,hd⟩,hr⟩:=hl;have hL:L∈X.fs:=hs L (by unfold Fv;rw[j5,hf];exact c6);obtain⟨sl,e⟩:=I.base.slot L o ho (I.ok.KZ L hL) hL λz=>I.ok.DF L z hL;exact⟨hk,⟨L,_,hf,hn,e,hd⟩,ih (λb hb=>hs b (by unfold Fv;rw[j5,hf];exact fJ _ hb)) hr⟩
 exact all X.outer (λ_ hb=>hb) I.ok.k6
def Inv.stack(I:Inv X γ σ H s):s.heap.FunFrames X.base X.stack:=by
 obtain e|⟨e,hf⟩:=I.ok.Up
 rw[e];exact I.k6;rw[e];obtain⟨m,hn,_⟩:=I.loc;refine .cons (by rw[I.ok.kind];decide) hf hn ?_ I.k6;exact Heap.get?_none_of_le (fM I.ok.F8 I.ok.above)
def Inv.zN(I:Inv X γ σ H s):∀b∈Fv X.stack,b∈X.env.locals::X.fs:=λb hb=>by
 obtain e|⟨e,hf⟩:=I.ok.Up
 rw[e] at hb;exact fJ _ hb;rw[e] at hb;unfold Fv at hb;rw[j5,hf] at hb;exact hb
def Inv.BI(I:Inv X γ σ H s):∀b∈Fv X.stack,H b=none:=λb hb=>by
 rcases cU.mp (I.zN b hb) with e|hb
 rw[e];exact I.free;obtain⟨_,o,ho,_⟩:=I.ok.k6.mem hb;exact I.base.free b o ho (I.ok.KZ b hb) λz=>I.ok.DF b z hb
def Inv.step{g':Array GenState}{d':Drawn}{ch:ο}(I:Inv X γ σ H s)(Ko:∀b∈ch,(b∈X.ex\/X.s₀.heap.objs.size<=b)/\b≠X.env.locals/\(∀x c,X.env.cells.lookup x=some c->c≠b)/\∀p∈X.pn++γ,p.1≠b)(keep:∀b o,b≠X.env.locals->b∉X.fs->b∉ch->s.heap.get? b=some o->H b=none->h'.get? b=some o)(slot:∀b o,b≠X.env.locals->b∈X.fs->b∉ch->s.heap.get? b=some o->H b=none->∃sl,h'.get? b=some {o with slots:=sl})(free:∀b o,b∉ch->s.heap.get? b=some o->H b=none->H' b=none)(there:∀b o,b∉ch->s.heap.get? b=some o->∃o',h'.get? b=some o')(xl:∀b xs,H b=some (.tup xs)->H' b=some (.tup xs))(ux:∀b o u,H b=some (.BG o u)->H' b=some (.BG o u))(xm:∀b ps,H b=some (.Qh ps)->∃more,H' b=some (.Qh (ps++more)))(ns:∀m,s.heap.Ns X.env.locals m->h'.Ns X.env.locals m)(cj:kZ X.prog X.w H' h')(hg:AllBare g') :
  Inv X γ σ H' {s with heap:=h',gens:=g',drawn:=d',toks:=t'}:=by
 have neL:∀b o,X.s₀.heap.get? b=some o->b≠X.env.locals:=λb o e=>ki (rZ (gu e) I.ok.above);have YS:∀b o,X.s₀.heap.get? b=some o->b∉X.ex->b∉ch:=λb o e hx hb=>by
  rcases (Ko b hb).1 with z|z
  exact hx z;exact absurd (rZ (gu e) z) (Fu _)
 have cellK:∀x c,X.env.cells.lookup x=some c->∀v,s.heap.IsCell c v->h'.IsCell c v:=λx c e v ⟨o,ho,hd⟩=>by have F9:c∉ch:=λz=>(Ko c z).2.2.1 x c e rfl;by_cases hc:c∈X.fs;obtain⟨sl,q⟩:=slot c o (I.K0 x c e) hc F9 ho (I.hW x c e);exact⟨_,q,hd⟩;exact⟨o,keep c o (I.K0 x c e) hc F9 ho (I.hW x c e),hd⟩
 refine⟨I.ok,I.os,hg,⟨λb o e n hb hx=>?_,λb o e n hb hx=>?_,λb o e n hx=>?_,λb o e hx=>?_,λb xs e=>xl b xs (I.base.xl b xs e),λb o xs e=>ux b o xs (I.base.ux b o xs e),λb ps e=>?_⟩,?_,λx c e=>?_,?_,λx c e=>?_,λp hp=>?_,cj,I.len⟩;exact keep b o (neL b o e) hb (YS b o e hx) (I.base.keep b o e n hb hx) (I.base.free b o e n hx);obtain⟨sl,e1⟩:=I.base.slot b o e n hb hx;obtain⟨sl',e2⟩:=slot b _ (neL b o e) hb (YS b o e hx) e1 (I.base.free b o e n hx);exact⟨sl',e2⟩;obtain⟨o',e1⟩:=I.base.there b o e hx;exact free b o' (YS b o e hx) e1 (I.base.free b o e n hx);obtain⟨o',e1⟩:=I.base.there b o e hx;exact there b o' (YS b o e hx) e1;obtain⟨m1,e1⟩:=I.base.xm b ps e;obtain⟨m2,e2⟩:=xm b _ e1;exact⟨m1++m2,by rw[e2,Array.append_assoc]⟩;obtain⟨m,hn,hl⟩:=I.loc;refine⟨m,ns m hn,λi x v e1 e2 e3=>?_⟩;obtain⟨u,r,l⟩:=hl i x v e1 e2 e3;refine⟨u,r,?_⟩;obtain l|⟨k,c,e,z⟩:=l
 exact .inl l;exact .inr ⟨k,c,e,cellK x c e _ z⟩;obtain⟨v,z⟩:=I.cell x c e;exact⟨v,cellK x c e v z⟩;obtain⟨m,⟨o,_,_,ho,_⟩,_⟩:=I.loc;exact free _ o (λz=>(Ko _ z).2.1 rfl) ho I.free;obtain⟨v,o,ho,hd⟩:=I.cell x c e;exact free c o (λz=>(Ko c z).2.2.1 x c e rfl) ho (I.hW x c e);obtain⟨e,n,ne,nf,d⟩:=I.pin p hp;have F9:p.1∉ch:=λz=>(Ko p.1 z).2.2.2 p hp rfl;exact⟨keep p.1 p.2 ne nf F9 e n,free p.1 p.2 F9 e n,ne,nf,d⟩
def Inv.un(I:Inv X γ σ H s)(u:Un X.fs [] H H' s.heap h')(cj:kZ X.prog X.w H' h'):Inv X γ σ H' {s with heap:=h',toks:=t'}:=by
 obtain⟨m,⟨o,es,ep,ho,r⟩,_⟩:=id I.loc;obtain⟨sl,hL⟩:=u.any ho I.free (by simp);exact I.step (g':=s.gens) (d':=s.drawn) (ch:=[]) (λ_ z=>nomatch z) (λb o _ hb _ e n=>u.keep b o e n hb (by simp)) (λb o _ hb _ e n=>u.slot b o e n hb (by simp)) (λb o _ e n=>u.free b o e n (by simp)) (λb o _ e=>u.there b o e (by simp)) u.xl u.ux u.xm (λm' hm=>by obtain⟨o',ZZ,Z0,j6,r'⟩:=hm;rw[ho] at j6;cases j6;exact⟨_,ZZ,Z0,hL,r'⟩) cj I.bare
def Inv.call{g':Array GenState}{d':Drawn}{ch:ο}(I:Inv X γ σ H s)(u:Un (Fv X.stack) ch H H' s.heap h')(cj:kZ X.prog X.w H' h')(hg:AllBare g')(Ko:∀b∈ch,(b∈X.ex\/X.s₀.heap.objs.size<=b)/\b≠X.env.locals/\(∀x c,X.env.cells.lookup x=some c->c≠b)/\∀p∈X.pn++γ,p.1≠b) :
  Inv X γ σ H' {s with heap:=h',gens:=g',drawn:=d',toks:=t'}:=by
 obtain⟨m,⟨o,es,ep,ho,r⟩,_⟩:=id I.loc;obtain⟨sl,hL⟩:=u.any ho I.free λz=>(Ko _ z).2.1 rfl;exact I.step (ch:=ch) Ko (λb o hL hb hc e n=>u.keep b o e n (λz=>(cU.mp (I.zN b z)).elim hL hb) hc) (λb o _ _ hc e n=>u.any e n hc) (λb o hc e n=>u.free b o e n hc) (λb o hc e=>u.there b o e hc) u.xl u.ux u.xm (λm' hm=>by obtain⟨o',ZZ,Z0,j6,r'⟩:=hm;rw[ho] at j6;cases j6;exact⟨_,ZZ,Z0,hL,r'⟩) cj hg
def Inv.turned(I:Inv X γ σ H s)(k:∀b o,b≠it->s.heap.get? b=some o->h'.get? b=some o)(hn:H it=none)(hL:it≠X.env.locals)(h1:it∈X.ex\/X.s₀.heap.objs.size<=it)(h2:∀x c,X.env.cells.lookup x=some c->c≠it)(h3:∀p∈X.pn++γ,p.1≠it):Inv X γ σ H {s with heap:=h',toks:=t'}:=by
 have nit:∀b u,H b=some u->b≠it:=λb u e z=>by rw[z,hn] at e;cases e
 refine I.step (g':=s.gens) (d':=s.drawn) (ch:=[it]) (λb hb=>?_) (λb o _ _ hc e _=>k b o (λz=>hc (by simp[z])) e) (λb o _ _ hc e _=>⟨o.slots,k b o (λz=>hc (by simp[z])) e⟩) (λ_ _ _ _ n=>n)
  (λb o hc e=>⟨o,k b o (λz=>hc (by simp[z])) e⟩) (λ_ _ e=>e) (λ_ _ _ e=>e) (λb ps e=>⟨#[],by rw[e];simp⟩) (λm hm=>?_) (λb u e=>?_) I.bare
 have e:b=it:=by simpa using hb
 subst e;exact⟨h1,hL,h2,h3⟩;obtain⟨o,es,ep,ho,r⟩:=hm;exact⟨o,es,ep,k _ o (Ne.symm hL) ho,r⟩;refine (I.cj b u e).zL (λc v hc q=>k c v ?_ q) (λ_ q=>q) λ_ _ q=>q;obtain z|z:=hc
 rw[z];exact nit b u e;exact nit c _ z
def Inv.tok(I:Inv X γ σ H s)(t:Nat):Inv X γ σ H {s with toks:=t}:=I.un (h':=s.heap) (t':=t) Un.refl I.cj
def Inv.kept(I:Inv X γ σ H s)(k:∀b u,s.heap.get? b=some u->h'.get? b=some u):Inv X γ σ H {s with heap:=h',toks:=t'}:=I.un (Un.kept k) (I.cj.kept k)
def Inv.laid{o:HO}(I:Inv X γ σ H s)(k:∀b u,s.heap.get? b=some u->h'.get? b=some u)(hp:s.heap.objs.size<=a)(new:cp X.prog X.w (upd H a o) h' a o) :
 Inv X γ σ (upd H a o) {s with heap:=h',toks:=t'}:=I.un (Un.laid k hp (I.cj.fresh hp)) (I.cj.laid k hp new)
def Inv.write{x e:Addr}{o:HO}(I:Inv X γ σ H s)(mu:U5 (H x))(he:e=x\/H e=some (.own x))(k:∀b u,b≠e->s.heap.get? b=some u->h'.get? b=some u)(Kn:∃u,h'.get? e=some u)(new:cp X.prog X.w (upd H x o) h' x o):Inv X γ σ (upd H x o) {s with heap:=h',toks:=t'}:=I.un (Un.write mu he k Kn) (I.cj.write mu he k Kn new)
def Inv.weak{σ':List (Option V)}(I:Inv X γ σ H s)(hl:σ'.length=σ.length)(w:∀(i:Nat) v,σ'[i]?=some (some v)->σ[i]?=some (some v)):Inv X γ σ' H s :=
 ⟨I.ok,I.os,I.bare,I.base,let ⟨m,hn,uz⟩:=I.loc;⟨m,hn,λi x v e1 e2 e3=>uz i x v e1 (w i v e2) e3⟩,I.cell,I.free,I.hW,I.pin,I.cj,hl.trans I.len⟩
def Inv.BJ{BK:qaa}(I:Inv X γ σ H s)(h:∀p∈BK,s.heap.get? p.1=some p.2/\H p.1=none/\p.1≠X.env.locals/\p.1∉X.fs/\∀v,p.2.data≠.cell v):Inv X BK σ H s :=
 ⟨I.ok,I.os,I.bare,I.base,I.loc,I.cell,I.free,I.hW,λp hp=>(cK.mp hp).elim (λz=>I.pin p (cA _ z)) (h p),I.cj,I.len⟩
def xn{N:π}(hN:N.Nodup)(a:N[i]?=some x)(b:N[j]?=some x):i=j:=by obtain⟨h1,e1⟩:=fQ.mp a;obtain⟨h2,e2⟩:=fQ.mp b;exact (List.getElem_inj hN).mp (e1.trans e2.symm)
def tD{M:Model}{E:qad}{v:V}{Q:Unit->Shared->Prop}(I:Inv X γ σ H s)(hN:X.N.Nodup)(hi:X.N[i]?=some x)(hx:Loc X.env.scope x)(r:RelV v u)(h:∀s',Inv X γ (σ.set i (some v)) H s'->(∃a,Heap.SameBut a s.heap s'.heap/\(a=X.env.locals\/X.env.cells.lookup x=some a))->Q () s')(hf:X.fn x=true\/X.env.scope.names.lookup x=some .local:=by first|exact .inl rfl|exact .inr rfl|assumption):wpAny M A (storeName X.env x u) Q E s:=by
 obtain⟨m,hn,hl⟩:=id I.loc;have Z1:(X.env.scope.kind==.class || (X.env.scope.kind==.module && X.env.locals != X.env.globals))=false:=by rw[I.ok.kind];rfl
 have hiσ:i<σ.length:=by rw[I.len];exact (fQ.mp hi).1
 have K0:=I.K0;have tracked:∀{a:Addr}{h':Heap},(∃o,s.heap.get? a=some o/\H a=none)->Heap.SameBut a s.heap h'->kZ X.prog X.w H h':=λ{a h'} ha hs b ob e=>by
  obtain⟨_,_,Oa⟩:=ha;refine (I.cj b ob e).zL (λc w' hc q=>(hs.2 c ?_).trans q) (λ_ q=>q) λ_ _ q=>q;rintro rfl;obtain rfl|hc:=hc
  rw[Oa] at e;cases e;rw[Oa] at hc;cases hc
 obtain hk|hk:=hx
 refine wpAny_storeName_local hk hn (λh' hn' hs=>?_) Z1;obtain⟨oL,_,_,hoL,_⟩:=id hn;refine h _ ⟨I.ok,I.os,I.bare,⟨λb o e n hb hx=>?_,λb o e n hb hx=>?_,I.base.free,λb o e hx=>?_,I.base.xl,I.base.ux,I.base.xm⟩,⟨_,hn',λj y v' e1 e2 e3=>?_⟩,λy c e=>?_,I.free,I.hW,λp hp=>?_,tracked ⟨oL,hoL,I.free⟩ hs,by simpa using I.len⟩ ⟨_,hs,.inl rfl⟩;exact (hs.2 b (ki (rZ (gu e) I.ok.above))).trans (I.base.keep b o e n hb hx);obtain⟨sl,e1⟩:=I.base.slot b o e n hb hx;exact⟨sl,(hs.2 b (ki (rZ (gu e) I.ok.above))).trans e1⟩;obtain⟨o',e1⟩:=I.base.there b o e hx;exact⟨o',(hs.2 b (ki (rZ (gu e) I.ok.above))).trans e1⟩;by_cases hj:j=i;subst hj;rw[hi] at e1;cases e1;rw[Dx hiσ] at e2;cases e2;exact⟨u,r,.inl ⟨hk,by simp⟩⟩;rw[tq (Ne.symm hj)] at e2;obtain⟨u',r',q⟩:=hl j y v' e1 e2 e3;refine⟨u',r',?_⟩;obtain⟨k,e⟩|⟨k,c,e,z⟩:=q
 refine .inl ⟨k,?_⟩;have:y≠x:=λe=>hj (xn hN e1 (e▸hi));simp[this,e];exact .inr ⟨k,c,e,z.sameBut hs (K0 y c e)⟩;obtain⟨w',z⟩:=I.cell y c e;exact⟨w',z.sameBut hs (K0 y c e)⟩;obtain⟨e,n,ne,nf,d⟩:=I.pin p hp;exact⟨(hs.2 p.1 ne).trans e,n,ne,nf,d⟩;have Z2:X.fn x=true:=by
  obtain z|z:=hf
  exact z;rw[z] at hk;cases hk
 obtain⟨c,hc⟩:=I.ok.has x (.inl hk);obtain⟨w',z⟩:=I.cell x c hc;refine wpAny_storeName_cell I.ok.kind hk hc z (λh' r_ hs=>?_);obtain⟨oc,hoc,Z3⟩:=id z;refine h {s with heap:=h'} ⟨I.ok,I.os,I.bare,⟨λb o e n hb hx=>?_,λb o e n hb hx=>?_,I.base.free,λb o e hx=>?_,I.base.xl,I.base.ux,I.base.xm⟩,⟨m,hn.sameBut hs (Ne.symm (K0 x c hc)),λj y v' e1 e2 e3=>?_⟩,λy c' e=>?_,I.free,I.hW,λp hp=>?_,tracked ⟨oc,hoc,I.hW x c hc⟩ hs,by simpa using I.len⟩ ⟨c,hs,.inr hc⟩;exact (hs.2 b (ki (rZ (gu e) (I.ok.Qi x c Z2 hc)))).trans (I.base.keep b o e n hb hx);obtain⟨sl,e1⟩:=I.base.slot b o e n hb hx;exact⟨sl,(hs.2 b (ki (rZ (gu e) (I.ok.Qi x c Z2 hc)))).trans e1⟩;obtain⟨o',e1⟩:=I.base.there b o e hx;exact⟨o',(hs.2 b (ki (rZ (gu e) (I.ok.Qi x c Z2 hc)))).trans e1⟩;by_cases hj:j=i;subst hj;rw[hi] at e1;cases e1;rw[Dx hiσ] at e2;cases e2;exact⟨u,r,.inr ⟨.inl hk,c,hc,r_⟩⟩;rw[tq (Ne.symm hj)] at e2;obtain⟨u',r',q⟩:=hl j y v' e1 e2 e3;refine⟨u',r',?_⟩;obtain q|⟨k,c',e,z'⟩:=q
 exact .inl q;refine .inr ⟨k,c',e,z'.sameBut hs ?_⟩;rintro rfl;exact hj (xn hN e1 (I.ok.inj _ _ _ e hc▸hi));by_cases hcc:c'=c;subst hcc;exact⟨_,r_⟩;obtain⟨w2,z2⟩:=I.cell y c' e;exact⟨w2,z2.sameBut hs hcc⟩;obtain⟨e,n,ne,nf,d⟩:=I.pin p hp;refine⟨(hs.2 p.1 ?_).trans e,n,ne,nf,d⟩;intro q;rw[q,hoc] at e;have q':oc=p.2:=Option.some.inj e;exact d w' (by rw[<- q'];exact Z3)
def xo{M:Model}{E:qad}{v:V}{Q:Unit->Shared->Prop}(I:Inv X γ σ H s)(hN:X.N.Nodup)(hi:X.N[i]?=some x)(hx:Loc X.env.scope x)(r:RelV v u)(h:∀s',Inv X γ (σ.set i (some v)) H s'->Q () s')(hf:X.fn x=true\/X.env.scope.names.lookup x=some .local:=by first|exact .inl rfl|exact .inr rfl|assumption):wpAny M A (storeName X.env x u) Q E s :=
 tD I hN hi hx r (λs' I' _=>h s' I') hf
def Inv.U7{ch:ο}(I:Inv X γ σ H s)(ho:s'.os=s.os)(u:Un (Fv X.stack) ch H H' s.heap s'.heap)(cj:kZ X.prog X.w H' s'.heap)(hg:AllBare s'.gens)(Ko:∀b∈ch,(b∈X.ex\/X.s₀.heap.objs.size<=b)/\b≠X.env.locals/\(∀x c,X.env.cells.lookup x=some c->c≠b)/\∀p∈X.pn++γ,p.1≠b):Inv X γ σ H' s':=by obtain⟨h',g',d',t',o'⟩:=s';have e:o'=s.os:=ho;subst e;exact I.call (g':=g') (t':=t') (d':=d') u cj hg Ko
end
abbrev XK:=Value->qar->Hp->Prop
abbrev St:=List (Option V)
abbrev VK:=V->Hp->Prop
abbrev TE:=St->Hp->VK->Prop
abbrev TT:=St->Hp->(Bool->Hp->Prop)->Prop
abbrev TA:=St->Hp->(List V->Hp->Prop)->Prop
structure Ends where
 nx:St->Hp->Prop
 rt:VK
 bk:St->Hp->Prop:=λ_ _=>False
 ct:St->Hp->Prop:=λ_ _=>False
abbrev TS:=Ends->St->Hp->Prop
def EP(X:Cx)(γ:qaa)(σ:St)(Q:VK)(u:Value)(s':Shared):Prop:=∃v H',Inv X γ σ H' s'/\RelV v u/\Q v H'
def TP(X:Cx)(γ:qaa)(σ:St)(Q:Bool->Hp->Prop)(b:Bool)(s':Shared):Prop:=∃H',Inv X γ σ H' s'/\Q b H'
def AP(X:Cx)(γ:qaa)(σ:St)(Q:List V->Hp->Prop)(us:qag)(s':Shared):Prop:=∃vs H',Inv X γ σ H' s'/\Vals vs us/\Q vs H'
def SP(X:Cx)(γ:qaa)(D:Ends)(f:Flow)(s':Shared):Prop :=
 match f with
 |.next=>∃σ' H',Inv X γ σ' H' s'/\D.nx σ' H'
 |.brk=>∃σ' H',Inv X γ σ' H' s'/\D.bk σ' H'
 |.cont=>∃σ' H',Inv X γ σ' H' s'/\D.ct σ' H'
 |.ret u=>∃v σ' H',Inv X γ σ' H' s'/\RelV v u/\D.rt v H'
def PE(X:Cx)(e:Expr)(t:TE):Prop :=
 ∀(γ:qaa)(s:Shared)(σ:St)(H:Hp)(Q:VK),Inv X γ σ H s->t σ H Q->wpAny (model X.prog X.w) X.A (eval e X.env) (EP X γ σ Q) X.xe s
def PT(X:Cx)(e:Expr)(t:TT):Prop :=
 ∀(γ:qaa)(s:Shared)(σ:St)(H:Hp)(Q:Bool->Hp->Prop),Inv X γ σ H s->t σ H Q->wpAny (model X.prog X.w) X.A (isTrue e X.env (eval e X.env)) (TP X γ σ Q) X.xe s
def PW(X:Cx)(e:Expr)(t:TT):Prop :=
 ∀(whole:Sem Value)(γ:qaa)(s:Shared)(σ:St)(H:Hp)(Q:Bool->Hp->Prop),Inv X γ σ H s->t σ H Q->wpAny (model X.prog X.w) X.A (isTrue e X.env whole) (TP X γ σ Q) X.xe s
def PW.pt{X:Cx}{t:TT}(h:PW X e t):PT X e t:=h _
def PA(X:Cx)(es:qap)(t:TA):Prop :=
 ∀(pos:Pos)(γ:qaa)(s:Shared)(σ:St)(H:Hp)(Q:List V->Hp->Prop),Inv X γ σ H s->t σ H Q->wpAny (model X.prog X.w) X.A (spliced (backTo pos (starEach es X.env))) (AP X γ σ Q) X.xe s
def PS(X:Cx)(st:Stmt)(t:TS):Prop :=
 ∀(γ:qaa)(s:Shared)(σ:St)(H:Hp)(D:Ends),Inv X γ σ H s->t D σ H->wpAny (model X.prog X.w) X.A (exec st X.env) (SP X γ D) X.xe s
def hY(X:Cx)(st:qaq)(t:TS):Prop :=
 ∀(γ:qaa)(s:Shared)(σ:St)(H:Hp)(D:Ends),Inv X γ σ H s->t D σ H->wpAny (model X.prog X.w) X.A (execs st X.env) (SP X γ D) X.xe s
def b_{t:Sem α}{Q Q':α->Shared->Prop}{M:Model}{E:qad}{s:Shared}(h:wpAny M A t Q E s)(hQ:∀a s,Q a s->Q' a s):wpAny M A t Q' E s:=Λ h hQ λ_ _ x=>x
section
variable{X:Cx}
def U8(i:Nat):TE:=λσ H Q=>∃v,σ[i]?=some (some v)/\Q v H
def tC(v:V):TE:=λ_ H Q=>Q v H
def bP{pos:Pos}(hN:X.N[i]?=some x)(hv:jQ X.env.scope x)(hd:gq x:=by decide)(fH:rQ x:=by decide):PE X (.Name x pos) (U8 i):=by
 intro γ s σ H Q I h;obtain⟨v,e,h⟩:=h;obtain⟨m,hn,hl⟩:=I.loc;obtain⟨u,r,l⟩:=hl i x v hN e hv;have fin:EP X γ σ Q u s:=⟨v,H,I,r,h⟩;obtain⟨hk,hm⟩|⟨hk,c,hc,Ob⟩:=l
 exact wpAny_Name (wpAny_loadName_local I.ok.kind hk hn hm fin) hd;obtain hk|hk:=hk
 exact wpAny_Name (wpAny_loadName_cell I.ok.kind hk hc Ob fin) hd;exact wpAny_Name (wpAny_loadName_free I.ok.kind hk hc Ob fin fH) hd
def F_{i j pos}:PE X (.Constant (.int i) j pos) (tC (.int i)):=λ_ _ _ H _ I h=>wpAny_Constant_int ⟨.int i,H,I.tok _,⟨_,rfl⟩,h⟩
def U9{b j pos}:PE X (.Constant (.bool b) j pos) (tC (.bl b)):=λ_ _ _ H _ I h=>Constant_bool ⟨.bl b,H,I,rfl,h⟩
def zP{j pos}:PE X (.Constant .none j pos) (tC .aQ):=λ_ _ _ H _ I h=>Constant_none ⟨.aQ,H,I,rfl,h⟩
def Qj{x j pos}:PE X (.Constant (.str x) j pos) (tC (.str x)):=λ_ _ _ H _ I h=>Calls.Constant_str ⟨.str x,H,I.tok _,⟨_,rfl⟩,h⟩
def Gl(X:Cx)(x:Str):Prop:=X.env.kindOf x=some .globalImplicit
def uA{E:qad}{γ:qaa}{s:Shared}{σ:St}{H:Hp}{pos:Pos}{Q:qad}(I:Inv X γ σ H s)(hg:Gl X x)(hm:X.mg x=some u)(h:Q u s)(hd:gq x:=by decide):wpAny (model X.prog X.w) X.A (eval (.Name x pos) X.env) Q E s :=
 Calls.Name_function_global I.ok.kind hg (Calls.loadGlobal_global (by rw[I.ok.glob];exact I.mod.glob.keeps I.bk) hm h) hd
def jh{E:qad}{γ:qaa}{s:Shared}{σ:St}{H:Hp}{pos:Pos}{Q:qad}(I:Inv X γ σ H s)(hg:Gl X x)(hm:X.mg x=none)(hv:bootBuiltins x=some u)(h:Q u s)(hn:x≠"__name__":=by decide)(hd:gq x:=by decide):wpAny (model X.prog X.w) X.A (eval (.Name x pos) X.env) Q E s:=by obtain⟨mb,h1,h2⟩:=I.mod.blt;exact Calls.Name_function_global I.ok.kind hg (Calls.loadGlobal_builtin (by rw[I.ok.glob];exact I.mod.glob.keeps I.bk) hm (by rw[I.ok.blt];exact h1.keeps I.bk) ((h2 x hn).trans hv) h) hd
def uB{v:V}{pos:Pos}(hg:Gl X x)(hm:X.mg x=some u)(r:RelV v u)(hd:gq x:=by decide):PE X (.Name x pos) (tC v) :=
 λ_ _ _ H _ I h=>uA I hg hm ⟨v,H,I,r,h⟩ hd
def K1{v:V}{pos:Pos}(hg:Gl X x)(hm:X.mg x=none)(hv:bootBuiltins x=some u)(r:RelV v u)(hn:x≠"__name__":=by decide)(hd:gq x:=by decide):PE X (.Name x pos) (tC v) :=
 λ_ _ _ H _ I h=>jh I hg hm hv ⟨v,H,I,r,h⟩ hn hd
variable{a:Expr}{ta tb:TE}{pos:Pos}
def tB(t:TE):TT:=λσ H Q=>t σ H λx H1=>∃c,x=.bl c/\Q c H1
def Qk{t:TE}(h:PE X e t)(he:∀whole,isTrue e X.env whole=(do let v <- whole;standAt e.pos;holding [v] (truthy v)):=by intro _;rfl):PT X e (tB t):=by intro γ s σ H Q I hw;refine isTrue_plain (b_ (h γ s σ H _ I hw) λv s1 ⟨x,H1,I1,r1,q1⟩=>?_) (he _);obtain⟨d,rfl,q⟩:=q1;cases r1;exact Ξ ⟨H1,I1,q⟩
variable{tA U_:TT}{rest:qap}
def Z4(t u:TT):TT:=λσ H Q=>t σ H λc H1=>if c=true then u σ H1 Q else Q false H1
def tOr(t u:TT):TT:=λσ H Q=>t σ H λc H1=>if c=true then Q true H1 else u σ H1 Q
def Z5(t:TT):TT:=λσ H Q=>t σ H λc H1=>Q (!c) H1
def pw_and1(ha:PT X a tA):PW X (.BoolOp .And [a] pos) tA:=by
 intro wh γ s σ H Q I h;refine isTrue_and (b_ (ha γ s σ H Q I h) λc s1 e=>?_);cases c with
 |true=>exact isTrue_and_nil e
 |false=>exact e
def pw_or1(ha:PT X a tA):PW X (.BoolOp .Or [a] pos) tA:=by
 intro wh γ s σ H Q I h;refine isTrue_or (b_ (ha γ s σ H Q I h) λc s1 e=>?_);cases c with
 |false=>exact isTrue_or_nil e
 |true=>exact e
def pw_and(ha:PT X a tA)(hb:PW X (.BoolOp .And (b::rest) pos) U_):PW X (.BoolOp .And (a::b::rest) pos) (Z4 tA U_):=by
 intro wh γ s σ H Q I h;refine isTrue_and (b_ (ha γ s σ H _ I h) λc s1 ⟨H1,I1,q1⟩=>?_);cases c with
 |true=>exact hb wh γ s1 σ H1 Q I1 q1
 |false=>exact⟨H1,I1,q1⟩
def pw_or(ha:PT X a tA)(hb:PW X (.BoolOp .Or (b::rest) pos) U_):PW X (.BoolOp .Or (a::b::rest) pos) (tOr tA U_):=by
 intro wh γ s σ H Q I h;refine isTrue_or (b_ (ha γ s σ H _ I h) λc s1 ⟨H1,I1,q1⟩=>?_);cases c with
 |true=>exact⟨H1,I1,q1⟩
 |false=>exact hb wh γ s1 σ H1 Q I1 q1
def Ql(ha:PT X a tA):PT X (.UnaryOp .Not a pos) (Z5 tA):=by intro γ s σ H Q I h;exact isTrue_not (ha γ s σ H (λc H1=>Q (!c) H1) I h)
def U'(ta tb:TE):TE:=λσ H Q=>ta σ H λx H1=>∃c,x=.bl c/\if c=true then tb σ H1 Q else Q (.bl false) H1
def Va(ta:TE):TE:=λσ H Q=>ta σ H λx H1=>∃c,x=.bl c/\Q (.bl (!c)) H1
def Qm{op}{t:TE}(h:PE X a t):PE X (.BoolOp op [a] pos) t:=λγ s σ H Q I hw=>BoolOp_one (h γ s σ H Q I hw)
def Qn(ha:PE X a ta)(hb:PE X (.BoolOp .And (b::rest) pos) tb):PE X (.BoolOp .And (a::b::rest) pos) (U' ta tb):=by
 intro γ s σ H Q I h;refine BoolOp_and (b_ (ha γ s σ H _ I h) λv s1 ⟨x,H1,I1,r1,q1⟩=>?_);obtain⟨c,rfl,q1⟩:=q1;cases r1;refine Ξ ?_;cases c with
 |true=>exact hb γ s1 σ H1 Q I1 q1
 |false=>exact⟨.bl false,H1,I1,rfl,q1⟩
def Qo(ha:PE X a ta):PE X (.UnaryOp .Not a pos) (Va ta):=by intro γ s σ H Q I h;refine UnaryOp_ (b_ (ha γ s σ H _ I h) λv s1 ⟨x,H1,I1,r1,q1⟩=>?_);obtain⟨c,rfl,q1⟩:=q1;cases r1;exact not_of (Ξ ⟨.bl (!c),H1,I1,rfl,q1⟩)
def tIf(t:TT)(ta tb:TE):TE:=λσ H Q=>t σ H λc H1=>if c=true then ta σ H1 Q else tb σ H1 Q
def Ga(hc:PT X c tA)(ha:PE X a ta)(hb:PE X b tb):PE X (.IfExp c a b pos) (tIf tA ta tb):=by
 intro γ s σ H Q I h;refine wpAny_IfExp (b_ (hc γ s σ H _ I h) λd s1 ⟨H1,I1,q1⟩=>?_);cases d with
 |true=>exact ha γ s1 σ H1 Q I1 q1
 |false=>exact hb γ s1 σ H1 Q I1 q1
end
def gw(K:Δ)(H:Hp)(a:Addr)(xs:List V):Prop :=
 Rd H a (.lst xs) \/
  ∃(o:Obj)(aP:Array Value)(n:Nat),K.lookup a=some o/\o.cls=.type "list"/\o.dict=none/\o.data=.seq aP n/\aP.size<=sizeLine/\Vals xs aP.toList
def dz(K:Δ)(H:Hp)(a:Addr)(xs:List V):Prop :=
 Rd H a (.tup xs) \/
  ∃(o:Obj)(aP:Array Value)(n:Nat),K.lookup a=some o/\o.cls=.type "tuple"/\o.data=.seq aP n/\aP.size<=sizeLine/\Vals xs aP.toList
noncomputable def Z6:Value->Option V
 |.none=>some .aQ
 |.bool b=>some (.bl b)
 |.int i _=>some (.int i)
 |.str x _=>some (.str x)
 |.bytes b _=>some (.ZR b)
 |.float b _=>some (.ZS b)
 |.ref a=>some (.ref a)
 |.type n=>some (.ty n)
 |_=>none
def RelV.abs{x:V}(r:RelV x u):Z6 u=some x:=by
 cases x with
 |aQ=>cases r;rfl
 |bl _=>cases r;rfl
 |ref _=>cases r;rfl
 |ty _=>cases r;rfl
 |_=>obtain⟨t,rfl⟩:=r;rfl
def RelV.inj{x y:V}(r:RelV x u)(q:RelV y u):x=y:=Option.some.inj (r.abs.symm.trans q.abs)
theorem Vals.inj:∀{xs ys:List V}{us:qag},Vals xs us->Vals ys us->xs=ys
 |_,_,_,.nil,.nil=>rfl
 |_,_,_,.cons r t,.cons r' t'=>by rw[r.inj r',Vals.inj t t']
section
variable{X:Cx}{γ:qaa}{σ:St}{H:Hp}{s:Shared}{xs ys:List V}
def gw.of{K:Δ}(h:H a=some (.lst xs)):gw K H a xs:=.inl (.inl h)
def dz.of{K:Δ}(h:H a=some (.tup xs)):dz K H a xs:=.inl (.inl h)
def Inv.list(I:Inv X γ σ H s)(h:gw X.K H a xs):∃aP:qag,Vals xs aP/\PlainL s.heap a aP.toArray/\xs.length<=sizeLine:=by
 obtain h|⟨o,aP,n,hk,hc,hd,hs,hz,r⟩:=h
 obtain⟨z,aP,n,r,e⟩:=h.ok I.cj;exact⟨aP,r,⟨_,n,e,rfl,rfl,rfl⟩,z⟩;refine⟨aP.toList,r,⟨o,n,I.r0 a o hk,hc,hd,by simpa using hs⟩,?_⟩;have e:=r.length;simp only[N4] at e;omega
def Inv.tuple(I:Inv X γ σ H s)(h:dz X.K H a xs):∃aP:qag,Vals xs aP/\IsTup s.heap a aP.toArray/\xs.length<=sizeLine:=by
 obtain h|⟨o,aP,n,hk,hc,hs,hz,r⟩:=h
 obtain⟨z,aP,r,p⟩:=h.ok I.cj;exact⟨aP,r,p,z⟩;refine⟨aP.toList,r,⟨o,I.r0 a o hk,hc,n,by simpa using hs⟩,?_⟩;have e:=r.length;simp only[N4] at e;omega
def Inv.pD(I:Inv X γ σ H s)(h:gw X.K H a xs)(h':gw X.K H a ys):xs=ys:=by
 obtain⟨aP,r,⟨o,n,e,_,_,d⟩,_⟩:=I.list h;obtain⟨its',r',⟨o',n',e',_,_,d'⟩,_⟩:=I.list h';rw[e] at e';cases e';rw[d] at d';injection d' with d1 _
 have:aP=its':=by simpa using Ψ Array.toList d1
 subst this;exact r.inj r'
def Inv.mF(I:Inv X γ σ H s)(h:dz X.K H a xs)(h':dz X.K H a ys):xs=ys:=by
 obtain⟨aP,r,⟨o,e,_,n,d⟩,_⟩:=I.tuple h;obtain⟨its',r',⟨o',e',_,n',d'⟩,_⟩:=I.tuple h';rw[e] at e';cases e';rw[d] at d';injection d' with d1 _
 have:aP=its':=by simpa using Ψ Array.toList d1
 subst this;exact r.inj r'
end
noncomputable abbrev Cx.sd(X:Cx)(E:qad):Cx:={X with xe:=E}
noncomputable abbrev Cx.pF(X:Cx):Cx:=X.sd λ_ _=>False
def Cx.Ok.sd{X:Cx}(ok:X.Ok)(E:qad):(X.sd E).Ok :=
 ⟨ok.mod,ok.kind,ok.glob,ok.blt,ok.above,ok.inj,ok.has,ok.Qi,ok.hd,ok.frames,ok.Up,ok.YR,ok.bs,ok.F8,ok.zM,ok.DF,ok.k6,ok.KZ⟩
def Cx.Ok.mG{X:Cx}{E:qad}(ok:(X.sd E).Ok):X.Ok :=
 ⟨ok.mod,ok.kind,ok.glob,ok.blt,ok.above,ok.inj,ok.has,ok.Qi,ok.hd,ok.frames,ok.Up,ok.YR,ok.bs,ok.F8,ok.zM,ok.DF,ok.k6,ok.KZ⟩
section
variable{X:Cx}{γ:qaa}{σ:St}{H:Hp}{s:Shared}{E:qad}
def Inv.sd(I:Inv X γ σ H s)(E:qad):Inv (X.sd E) γ σ H s:=⟨I.ok.sd E,I.os,I.bare,I.base,I.loc,I.cell,I.free,I.hW,I.pin,I.cj,I.len⟩
def Inv.mG(I:Inv (X.sd E) γ σ H s):Inv X γ σ H s:=⟨I.ok.mG,I.os,I.bare,I.base,I.loc,I.cell,I.free,I.hW,I.pin,I.cj,I.len⟩
def SP.mG{D:Ends}{f:Flow}(h:SP (X.sd E) γ D f s'):SP X γ D f s':=by
 cases f with
 |ret u=>obtain⟨v,σ',H',I,r,q⟩:=h;exact⟨v,σ',H',I.mG,r,q⟩
 |_=>obtain⟨σ',H',I,q⟩:=h;exact⟨σ',H',I.mG,q⟩
def hY.pF{st:qaq}{t:TS}(h:hY X.pF st t):hY X st t:=λγ s σ H D I hw=>
 Λ (h γ s σ H D (I.sd _) hw) (λ_ _ q=>q.mG) λ_ _ z=>False.elim z
end
section
variable{X:Cx}{st:Stmt}{rest:qaq}{t u:TS}{te:TE}{pos:Pos}
def Vb:TS:=λD σ H=>D.nx σ H
def Z7(t u:TS):TS:=λD σ H=>t {D with nx:=u D} σ H
def BL:hY X [] Vb:=λ_ _ σ H _ I h=>aau ⟨σ,H,I,h⟩
def cN(h1:PS X st t)(h2:hY X rest u):hY X (st::rest) (Z7 t u):=by
 intro γ s σ H D I h;refine wpAny_execs_cons (b_ (h1 γ s σ H {D with nx:=u D} I h) λf s1 q=>?_);cases f with
 |next=>obtain⟨σ',H',I',q⟩:=q;exact h2 γ s1 σ' H' D I' q
 |ret v=>exact q
 |_=>exact q
def jR(h1:PS X st t):hY X [st] t:=by
 intro γ s σ H D I h;refine wpAny_execs_cons (b_ (h1 γ s σ H D I h) λf s1 q=>?_);cases f with
 |next=>exact aau q
 |ret v=>exact q
 |_=>exact q
def Inv.quiet{γ:qaa}{σ:St}{H:Hp}{s:Shared}(I:Inv X γ σ H s):interactive X.env=false:=by simp[interactive,I.ok.kind]
def Vc(te:TE):TS:=λD σ H=>te σ H λ_ H1=>D.nx σ H1
def k7(he:PE X e te)(hs:swapsWith e none pos.line X.env=pure false:=by rfl):PS X (.Expr e pos) (Vc te):=by intro γ s σ H D I h;exact wpAny_Expr_any (b_ (he γ s σ H _ I h) λv s1 ⟨x,H1,I1,r1,q1⟩=>⟨σ,H1,I1,q1⟩) I.quiet hs
def Z8(te:TE):TS:=λD σ H=>te σ H D.rt
def uC(he:PE X e te):PS X (.Return (some e) pos) (Z8 te):=by intro γ s σ H D I h;exact wpAny_Return_some (b_ (he γ s σ H _ I h) λv s1 ⟨x,H1,I1,r1,q1⟩=>⟨x,σ,H1,I1,r1,q1⟩)
def Z9(c:TT)(t u:TS):TS:=λD σ H=>c σ H λb H1=>if b=true then t D σ H1 else u D σ H1
def Oc{a b:qaq}{tc:TT}(hc:PT X c tc)(ha:hY X a t)(hb:hY X b u):PS X (.If c a b pos) (Z9 tc t u):=by
 intro γ s σ H D I h;refine wpAny_If (b_ (hc γ s σ H _ I h) λd s1 ⟨H1,I1,q1⟩=>?_);cases d with
 |true=>exact ha γ s1 σ H1 D I1 q1
 |false=>exact hb γ s1 σ H1 D I1 q1
end
abbrev TG:=V->St->Hp->(St->Hp->Prop)->Prop
abbrev K2:=List V->St->Hp->(St->Hp->Prop)->Prop
def PG(X:Cx)(target:Expr)(t:TG):Prop :=
 ∀(γ:qaa)(s:Shared)(σ:St)(H:Hp)(v:V)(u:Value)(Q:St->Hp->Prop),Inv X γ σ H s->RelV v u->t v σ H Q ->
  wpAny (model X.prog X.w) X.A (assign target X.env u) (λ_ s'=>∃σ' H',Inv X γ σ' H' s'/\Q σ' H') X.xe s
def Gb(X:Cx)(ts:qap)(t:K2):Prop :=
 ∀(γ:qaa)(s:Shared)(σ:St)(H:Hp)(vs:List V)(us:qag)(Q:St->Hp->Prop),Inv X γ σ H s->Vals vs us->t vs σ H Q ->
  wpAny (model X.prog X.w) X.A (assignInOrder ((assignEach ts X.env).map (·.2)) us) (λ_ s'=>∃σ' H',Inv X γ σ' H' s'/\Q σ' H') X.xe s
abbrev Qp:=V->V->V->Hp->(Hp->Prop)->Prop
def Vd(X:Cx)(t:Qp):Prop :=
 ∀(γ:qaa)(s:Shared)(σ:St)(H:Hp)(o i v:V)(ov iv u:Value)(Q:Hp->Prop),Inv X γ σ H s->RelV o ov->RelV i iv->RelV v u->t o i v H Q ->
  wpAny (model X.prog X.w) X.A (setItem ov iv u) (λ_ s'=>∃H',Inv X γ σ H' s'/\Q H') X.xe s
section
variable{X:Cx}{pos:Pos}
def j7(i:Nat):TG:=λv σ H Q=>Q (σ.set i (some v)) H
def K3(hN:X.N.Nodup)(hi:X.N[i]?=some x)(hx:Loc X.env.scope x)(hf:X.fn x=true\/X.env.scope.names.lookup x=some .local:=by first|exact .inl rfl|exact .inr rfl|assumption):PG X (.Name x pos) (j7 i):=by intro γ s σ H v u Q I r h;exact wpAny_assign_Name (xo I hN hi hx r (λs' I'=>⟨_,H,I',h⟩) hf)
def Z_:K2:=λvs σ H Q=>vs=[]/\Q σ H
def Ve(t:TG)(u:K2):K2:=λvs σ H Q=>∃v r,vs=v::r/\t v σ H λσ' H'=>u r σ' H' Q
def K4:Gb X [] Z_:=by intro γ s σ H vs us Q I r h;obtain⟨e,h⟩:=h;subst e;cases r;exact assignInOrder_nil ⟨σ,H,I,h⟩
def Gd{es:qap}{t:TG}{u:K2}(h1:PG X e t)(h2:Gb X es u)(hs:(assignEach (e::es) X.env).map (·.2)=assign e X.env::(assignEach es X.env).map (·.2):=by rfl):Gb X (e::es) (Ve t u):=by
 intro γ s σ H vs us Q I r h;obtain⟨v,vr,e1,h⟩:=h;subst e1;cases r with
 |cons r rr=>rw[hs];refine assignInOrder_cons (b_ (h1 γ s σ H _ _ _ I r h) λ_ s1 ⟨σ1,H1,I1,q1⟩=>?_);exact h2 γ s1 σ1 H1 _ _ Q I1 rr q1
def acv(K:Δ)(n:Nat)(t:K2):TG:=λv σ H Q=>∃a xs,v=.ref a/\dz K H a xs/\xs.length=n/\t xs σ H Q
def Qq{es:qap}{k:Nat}{t:K2}(hc:X.calm=true)(h:Gb X es t)(hn:(assignEach es X.env).length=n:=by rfl)(K6:(assignEach es X.env).findIdx? (·.1)=none:=by rfl):PG X (.Tuple es k pos) (acv X.K n t):=by intro γ s σ H v u Q I r hw;obtain⟨a,xs,e1,hq,hl,hw⟩:=hw;subst e1;cases r;obtain⟨aP,rv,ht,hz⟩:=I.tuple hq;refine assign_Tuple_tuple (I.ok.hd hc) ht (by simp[hn,<- hl,rv.length]) K6 λh' hx=>?_;have I1:Inv X γ σ H {s with heap:=h'}:=I.kept (t':=s.toks) λb o e=>hx b o (ki (gu e)) e;exact h γ _ σ H xs _ Q I1 (by simpa using rv) hw
def Qr(to ti:TE)(t:Qp):TG:=λv σ H Q=>to σ H λo H1=>ti σ H1 λi H2=>t o i v H2 λH3=>Q σ H3
def Qs{i:Expr}{to ti:TE}{t:Qp}(ho:PE X o to)(hi:PE X i ti)(hs:Vd X t)(ha:∀v,assign (.Subscript o i pos) X.env v=(do
    let ov <- holding [v] (eval o X.env)
    let iv <- holding [v,ov] (eval i X.env)
    standAt pos
    holding [v,ov,iv] (setItem ov iv v)
    release [v,ov,iv] []):=by intro _;rfl):PG X (.Subscript o i pos) (Qr to ti t):=by
 intro γ s σ H v u Q I r h;rw[ha];refine δ (v9 (b_ (ho γ s σ H _ I h) λov s1 ⟨x,H1,I1,r1,q1⟩=>?_));refine δ (v9 (b_ (hi γ s1 σ H1 _ I1 q1) λiv s2 ⟨y,H2,I2,r2,q2⟩=>?_));refine δ (wpAny_standAt (δ (v9 (b_ (hs γ s2 σ H2 x y v ov iv u _ I2 r1 r2 r q2) λ_ s3 ⟨H3,I3,q3⟩=>?_))));exact wpAny_release ⟨σ,H3,I3,q3⟩
def K7(te:TE)(g:TG):TS:=λD σ H=>te σ H λx H1=>g x σ H1 D.nx
def Ge{tg:Expr}{te:TE}{g:TG}(he:PE X e te)(hg:PG X tg g)(hs:swapsWithSole [tg] e pos.line X.env=pure false:=by rfl)(hw:swappedStores [tg] e X.env=pure none:=by rfl)(h1:(assignEach [tg] X.env).map (·.2)=[assign tg X.env]:=by rfl):PS X (.Assign [tg] e pos) (K7 te g):=by intro γ s σ H D I h;refine wpAny_Assign_stores (b_ (he γ s σ H _ I h) λv s1 ⟨x,H1,I1,r1,q1⟩=>?_) hs hw;rw[h1];exact b_ (hg γ s1 σ H1 x v _ I1 r1 q1) λ_ s2 q=>q
def uD{te:TE}{pos':Pos}(hN:X.N.Nodup)(hi:X.N[i]?=some x)(hx:Loc X.env.scope x)(he:PE X e te)(hs:swapsWith e (some (.Name x pos')) pos.line X.env=pure false:=by rfl)(hf:X.fn x=true\/X.env.scope.names.lookup x=some .local:=by first|exact .inl rfl|exact .inr rfl|assumption) :
  PS X (.Assign [.Name x pos'] e pos) (K7 te (j7 i)):=by
 intro γ s σ H D I h;refine wpAny_Assign_Name (b_ (he γ s σ H _ I h) λv s1 ⟨y,H1,I1,r1,q1⟩=>?_) hs;exact xo I1 hN hi hx r1 (λs2 I2=>⟨_,H1,I2,q1⟩) hf
end
section
variable{X:Cx}{pos:Pos}
def Qt(c:TT)(tb:TS):TS:=λD σ H=>∃W:Nat->St->Hp->Prop,(∃m,W m σ H)/\∀m σ H,W m σ H ->
 c σ H λb H1=>if b=true then ∃N:St->Hp->Prop,(∀σ' H',N σ' H'->∃m',m'<m/\W m' σ' H')/\tb {D with nx:=N,ct:=N,bk:=D.nx} σ H1 else D.nx σ H1
def xp{body:qaq}{tc:TT}{tb:TS}(hp:PassesOwn (model X.prog X.w) X.A X.env X.xe)(hc:PT X c tc)(hb:hY X body tb):PS X (.While c body [] pos) (Qt tc tb):=by
 intro γ s σ H D I h;obtain⟨W,⟨m0,w0⟩,turn⟩:=h;refine wpAny_While (codeAny_whileLoop (λn s'=>∃σ' H',Inv X γ σ' H' s'/\W n σ' H') ?_ m0 ⟨σ,H,I,w0⟩);rintro n s1 ⟨σ1,H1,I1,w1⟩;refine aab hp (b_ (hc γ s1 σ1 H1 _ I1 (turn n σ1 H1 w1)) λb s2 ⟨H2,I2,q2⟩=>?_);cases b with
 |true=>
  obtain⟨N,hN,q2⟩:=q2;rw[ε rfl];refine aab hp (b_ (hb γ s2 σ1 H2 _ I2 q2) λf s3 q3=>?_);cases f with
  |next=>obtain⟨σ3,H3,I3,n3⟩:=q3;obtain⟨m',hm,w3⟩:=hN σ3 H3 n3;exact⟨m',hm,σ3,H3,I3,w3⟩
  |cont=>obtain⟨σ3,H3,I3,n3⟩:=q3;obtain⟨m',hm,w3⟩:=hN σ3 H3 n3;exact⟨m',hm,σ3,H3,I3,w3⟩
  |brk=>exact q3
  |ret v=>exact q3
 |false=>rw[η gZ];exact aau ⟨σ1,H2,I2,q2⟩
end
structure It where
 go:Nat->Hp->Prop
 Vf:Nat->Hp->V->Hp->Prop
 stop:Nat->Hp->Prop
def mJ(X:Cx)(γ:qaa)(H:Hp)(b:Addr):Prop :=
 H b=none/\b≠X.env.locals/\b∉X.fs/\(b∈X.ex\/X.s₀.heap.objs.size<=b)/\(∀x c,X.env.cells.lookup x=some c->c≠b)/\∀p∈X.pn++γ,p.1≠b
def Inv.oy{X:Cx}{γ:qaa}{σ:St}{H H':Hp}{s:Shared}{b:Addr}(I:Inv X γ σ H s)(hb:s.heap.objs.size<=b)(hn:H' b=none):mJ X γ H' b:=by refine⟨hn,DA (rZ I.lt hb),I.ZY hb,.inr (fM I.sz hb),λx c e z=>?_,λp hp z=>?_⟩;obtain⟨v,q⟩:=I.cell x c e;exact absurd (rZ q.lt (by rw[z];exact hb)) (Fu _);exact absurd (rZ (gu (I.pin p hp).1) (by rw[z];exact hb)) (Fu _)
structure Turn(P:Program)(w:World)(K:Δ)(tg:Expr)(J:It)(fp:ο)(it:Addr)(tn:Nat->Heap->Prop):Prop where
 mem:it∈fp
 obj:∀i h,tn i h->∀b∈fp,∃o,h.get? b=some o/\∀v,o.data≠.cell v
 keep:∀i h h',tn i h->(∀b∈fp,∀o,h.get? b=some o->h'.get? b=some o)->tn i h'
 item:∀(X:Cx),X.prog=P->X.w=w->X.K=K->X.calm=true->∀(i:Nat)(γ:qaa)(s:Shared)(σ:St)(H:Hp)(E:qad),Inv X γ σ H s->(∀b∈fp,mJ X γ H b)->tn i s.heap->J.go i H ->
  wpAny (model P w) X.A (pyNext (.ref it)) (λr s1=>∃u,r=some u /\
   wpAny (model P w) X.A (letOwnedTupleGo tg (.ref it) u) (λ_ s2=>∃x H',Inv X γ σ H' s2/\RelV x u/\J.Vf i H x H'/\tn (i+1) s2.heap/\∀b∈fp,H' b=none) E s1) E s
 done:∀(X:Cx),X.prog=P->X.w=w->X.K=K->X.calm=true->∀(i:Nat)(γ:qaa)(s:Shared)(σ:St)(H:Hp)(E:qad),Inv X γ σ H s->(∀b∈fp,mJ X γ H b)->tn i s.heap->J.stop i H ->
  wpAny (model P w) X.A (pyNext (.ref it)) (λr s1=>r=none/\Inv X γ σ H s1) E s
 self:∀(A:Around)(i:Nat)(s:Shared)(Q:qad)(E:qad),tn i s.heap->Q (.ref it) s->wpAny (model P w) A (pyIter (.ref it)) Q E s
abbrev TI:=St->Hp->(It->Hp->Prop)->Prop
def PIE(X:Cx)(γ:qaa)(σ:St)(tg:Expr)(R:It->Hp->Prop)(YT:Value)(s2:Shared):Prop :=
 ∃(it:Addr)(fp:ο)(tn:Nat->Heap->Prop)(J:It)(H':Hp),YT=.ref it/\Inv X γ σ H' s2/\Turn X.prog X.w X.K tg J fp it tn/\tn 0 s2.heap/\(∀b∈fp,mJ X γ H' b)/\R J H'
def PI(X:Cx)(tg iter:Expr)(wi:TI):Prop :=
 ∀(γ:qaa)(s:Shared)(σ:St)(H:Hp)(R:It->Hp->Prop),Inv X γ σ H s->wi σ H R ->
  wpAny (model X.prog X.w) X.A (eval iter X.env) (λv s1=>wpAny (model X.prog X.w) X.A (pyIter v) (PIE X γ σ tg R) X.xe s1) X.xe s
def BM{M:Model}{E:qad}{s:Shared}{tg:Expr}{o:Obj}{n:String}{vs:Array Value}{Q:Unit->Shared->Prop}(ho:s.heap.get? it=some o)(hc:o.cls=.type n)(hd:o.data=.fields vs)(hn:["enumerate","zip","dict_itemiterator","dict_reverseitemiterator","odict_iterator","itertools.zip_longest","itertools.pairwise"].contains n=false)(hQ:Q () s):wpAny M A (letOwnedTupleGo tg (.ref it) u) Q E s:=by
 unfold letOwnedTupleGo;cases tg<;>first
  |exact ζ hQ
  | (cases u<;>first
      |exact ζ hQ
      | (refine δ (wpAny_load ho ?_)
         rw[hc,hd];show wpAny M A (if (["enumerate","zip","dict_itemiterator","dict_reverseitemiterator","odict_iterator","itertools.zip_longest","itertools.pairwise"].contains n && vs[0]?==some (rawInt _))=true then _ else _) Q E s;rw[η (by intro h;rw[hn,U3] at h;cases h)];exact ζ hQ))
def Itl(K:Δ)(a:Addr):It :=
 ⟨λi H=>∃xs x,gw K H a xs/\xs[i]?=some x,λi H x H'=>H'=H/\∀xs,gw K H a xs->xs[i]?=some x,λi H=>∃xs,gw K H a xs/\xs.length<=i⟩
noncomputable def Itt(K:Δ)(a:Addr):It :=
 ⟨λi H=>∃xs x,dz K H a xs/\xs[i]?=some x,λi H x H'=>H'=H/\∀xs,dz K H a xs->xs[i]?=some x,λi H=>∃xs,dz K H a xs/\xs.length<=i⟩
noncomputable def Vg(lo:Int)(n:Nat):It:=⟨λi _=>i<n,λi H x H'=>H'=H/\x=.int (lo+i),λi _=>n<=i⟩
def DG{K:Δ}{tg:Expr}(a it:Addr):Turn P w K tg (Itl K a) [it] it (λi h=>h.IsListIter it a i) where
 mem:=by simp
 obj:=λi h st b hb=>by
  have e:b=it:=by simpa using hb
  subst e;obtain⟨o,e,c,d⟩:=st;exact⟨o,e,λv z=>by rw[d] at z;cases z⟩
 keep:=λi h h' st k=>st.at λo e=>k it (by simp) o e
 item:=by intro X hP hw hK hc i γ s σ H E I hf st hg;subst hP hw hK;obtain⟨xs,x,hq,hx⟩:=hg;obtain⟨aP,rv,p,hz⟩:=I.list hq;obtain⟨u,hu,ru⟩:=rv.get hx;obtain⟨f0,f1,f2,f3,f4,f5⟩:=hf it (by simp);refine wpAny_pyNext_list_item st p.isList (x:=u) (by simpa using hu) λh' zQ sb=>?_;have I1:Inv X γ σ H {s with heap:=h'}:=I.turned (t':=s.toks) (λb o hb e=>(sb.2 b hb).trans e) f0 f1 f3 f4 f5;obtain⟨o,e,c,d⟩:=id zQ;exact⟨u,rfl,BM (s:={s with heap:=h'}) e c d (by decide) ⟨x,H,I1,ru,⟨rfl,λys hy=>by rw[I.pD hy hq];exact hx⟩,zQ,λb hb=>(hf b hb).1⟩⟩
 done:=by intro X hP hw hK hc i γ s σ H E I hf st hg;subst hP hw hK;obtain⟨xs,hq,hx⟩:=hg;obtain⟨aP,rv,p,hz⟩:=I.list hq;obtain⟨f0,f1,f2,f3,f4,f5⟩:=hf it (by simp);have hl:=rv.length;exact wpAny_pyNext_list_end (I.ok.hd hc) st p.isList (by simp;omega) λh' eb=>⟨rfl,I.turned (t':=s.toks) (λb o hb e=>eb b o hb e) f0 f1 f3 f4 f5⟩
 self:=λ_ _ _ _ _ st h=>wpAny_pyIter_listiter st h
def zR{K:Δ}{tg:Expr}(a it:Addr):Turn P w K tg (Itt K a) [it] it (λi h=>h.IsTupleIter it a i) where
 mem:=by simp
 obj:=λi h st b hb=>by
  have e:b=it:=by simpa using hb
  subst e;obtain⟨o,e,c,d⟩:=st;exact⟨o,e,λv z=>by rw[d] at z;cases z⟩
 keep:=λi h h' st k=>st.at λo e=>k it (by simp) o e
 item:=by intro X hP hw hK hc i γ s σ H E I hf st hg;subst hP hw hK;obtain⟨xs,x,hq,hx⟩:=hg;obtain⟨aP,rv,p,hz⟩:=I.tuple hq;obtain⟨u,hu,ru⟩:=rv.get hx;obtain⟨f0,f1,f2,f3,f4,f5⟩:=hf it (by simp);refine wpAny_pyNext_tuple_item st (show s.heap.IsTuple a aP.toArray from p) (x:=u) (by simpa using hu) λh' zQ sb=>?_;have I1:Inv X γ σ H {s with heap:=h'}:=I.turned (t':=s.toks) (λb o hb e=>(sb.2 b hb).trans e) f0 f1 f3 f4 f5;obtain⟨o,e,c,d⟩:=id zQ;exact⟨u,rfl,BM (s:={s with heap:=h'}) e c d (by decide) ⟨x,H,I1,ru,⟨rfl,λys hy=>by rw[I.mF hy hq];exact hx⟩,zQ,λb hb=>(hf b hb).1⟩⟩
 done:=by intro X hP hw hK hc i γ s σ H E I hf st hg;subst hP hw hK;obtain⟨xs,hq,hx⟩:=hg;obtain⟨aP,rv,p,hz⟩:=I.tuple hq;obtain⟨f0,f1,f2,f3,f4,f5⟩:=hf it (by simp);have hl:=rv.length;exact wpAny_pyNext_tuple_end (I.ok.hd hc) st (show s.heap.IsTuple a aP.toArray from p) (by simp;omega) λh' eb=>⟨rfl,I.turned (t':=s.toks) (λb o hb e=>eb b o hb e) f0 f1 f3 f4 f5⟩
 self:=λ_ _ _ _ _ st h=>wpAny_pyIter_tupleiter st h
def zS{K:Δ}{tg:Expr}(it:Addr)(lo:Int)(n:Nat):Turn P w K tg (Vg lo n) [it] it (λi h=>IsRangeIter h it (lo+(i:Nat) * 1) ((n:Int)-(i:Nat)) 1) where
 mem:=by simp
 obj:=λi h st b hb=>by
  have e:b=it:=by simpa using hb
  subst e;exact⟨_,st,λv z=>by have z':Data.fields _=Data.cell v:=z;cases z'⟩
 keep:=λi h h' st k=>k it (by simp) _ st
 item:=by intro X hP hw hK hc i γ s σ H E I hf st hg;subst hP hw hK;obtain⟨f0,f1,f2,f3,f4,f5⟩:=hf it (by simp);have W:=Walks.range (prog:=X.prog) (w:=X.w) (I.ok.hd hc) it lo 1 n;refine W.item i s _ _ hg st λv h' tk hv zQ kk=>?_;obtain⟨t,rfl⟩:=hv;have I1:Inv X γ σ H {s with heap:=h',toks:=tk}:=I.turned (λb o hb e=>kk b o (by simpa using hb) e) f0 f1 f3 f4 f5;refine⟨_,rfl,BM (s:={s with heap:=h',toks:=tk}) (n:="range_iterator") zQ rfl rfl (by decide) ⟨.int (lo+i),H,I1,⟨t,?_⟩,⟨rfl,rfl⟩,zQ,λb hb=>(hf b hb).1⟩⟩;rw[Int.mul_one]
 done:=by intro X hP hw hK hc i γ s σ H E I hf st hg;subst hP hw hK;obtain⟨f0,f1,f2,f3,f4,f5⟩:=hf it (by simp);exact wpAny_pyNext_range_end (I.ok.hd hc) st (by have:n<=i:=hg;omega) λh' eb=>⟨rfl,I.turned (t':=s.toks) (λb o hb e=>eb b o hb e) f0 f1 f3 f4 f5⟩
 self:=λ_ _ _ _ _ st h=>wpAny_pyIter_rangeiter st h
section
variable{X:Cx}{tg:Expr}
def xq{γ:qaa}{σ:St}{H:Hp}{s:Shared}{R:It->Hp->Prop}{E:qad}{lo hi:Int}{t u v:Tok}{tk:Nat}(I:Inv X γ σ H s)(h1 : -(2 ^ 62)<=lo)(h2:lo<2 ^ 62)(h3 : -(2 ^ 62)<=hi)(h4:hi<2 ^ 62)(q:R (Vg lo (hi-lo).toNat) H):wpAny (model X.prog X.w) X.A (pyIter (.ref s.heap.objs.size)) (PIE X γ σ tg R) E {s with heap:=s.heap.push {cls:=.type "range",data:=.fields #[.int lo t,.int hi u,.int 1 v]},toks:=tk}:=by
 refine wpAny_pyIter_range (IsRange.new ..) (small_one h1 h2 h3 h4) ?_;have I1:Inv X γ σ H {s with heap:=s.heap.push {cls:=.type "range",data:=.fields #[.int lo t,.int hi u,.int 1 v]},toks:=tk}:=I.kept λb o e=>fN _ e;refine⟨(s.heap.push {cls:=.type "range",data:=.fields #[.int lo t,.int hi u,.int 1 v]}).objs.size,[(s.heap.push {cls:=.type "range",data:=.fields #[.int lo t,.int hi u,.int 1 v]}).objs.size],_,_,H,rfl,
  I1.kept (t':=tk) λb o e=>fN _ e,zS _ lo (hi-lo).toNat,?_,λb hb=>?_,q⟩
 have e1:lo+((0:Nat):Int) * 1=lo:=by simp
 have e2:(((hi-lo).toNat:Nat):Int)-((0:Nat):Int)=Builtin.Range.rangeSize lo hi 1:=by rw[rangeSize_one];split<;>omega
 show IsRangeIter _ _ (lo+((0:Nat):Int) * 1) ((((hi-lo).toNat:Nat):Int)-((0:Nat):Int)) 1;rw[e1,e2];exact k4 _ rfl;have e:b=(s.heap.push {cls:=.type "range",data:=.fields #[.int lo t,.int hi u,.int 1 v]}).objs.size:=by simpa using hb
 subst e;exact I1.oy (cS _) (I1.cj.fresh (cS _))
noncomputable def Vh(ta:TA):TI:=λσ H R=>ta σ H λvs H1=>∃j:Int,vs=[.int j]/\-(2 ^ 62)<=j/\j<2 ^ 62/\R (Vg 0 j.toNat) H1
noncomputable def Vi(ta:TA):TI:=λσ H R=>ta σ H λvs H1=>∃i j:Int,vs=[.int i,.int j]/\(-(2 ^ 62)<=i/\i<2 ^ 62/\-(2 ^ 62)<=j/\j<2 ^ 62)/\R (Vg i (j-i).toNat) H1
def DH{a:Expr}{ta:TA}{pos:Pos}(hg:Gl X "range")(hm:X.mg "range"=none)(ha:PA X [a] ta)(hs:starEach [a] X.env=[(false,eval a X.env)]:=by rfl):PI X tg (.Call (.Name "range" p) [a] [] pos) (Vh ta):=by
 intro γ s σ H R I h;refine Call_ (jh I hg hm boot_range (T' (b_ (ha pos γ s σ H _ I h) λus s1 ⟨vs,H1,I1,r1,q1⟩=>?_) hs rfl));obtain⟨j,e,q1,q2,q⟩:=q1;subst e;cases r1 with
 |cons r rr=>cases rr;obtain⟨t,rfl⟩:=r;exact call_range_1 (xq I1 (by omega) (by omega) q1 q2 (by simpa using q))
def DI{a:Expr}{ta:TA}{pos:Pos}(hg:Gl X "range")(hm:X.mg "range"=none)(ha:PA X [a,b] ta)(hs:starEach [a,b] X.env=[(false,eval a X.env),(false,eval b X.env)]:=by rfl)(tE:starEach [b] X.env=[(false,eval b X.env)]:=by rfl) :
  PI X tg (.Call (.Name "range" p) [a,b] [] pos) (Vi ta):=by
 intro γ s σ H R I h;refine Call_ (jh I hg hm boot_range (T' (b_ (ha pos γ s σ H _ I h) λus s1 ⟨vs,H1,I1,r1,q1⟩=>?_) (by rw[hs,tE]) (by rw[tE];rfl)));obtain⟨i,j,e,⟨q1,q2,q3,q4⟩,q⟩:=q1;subst e;cases r1 with
 |cons r rr=>
   cases rr with
   |cons r' rr=>cases rr;obtain⟨t,rfl⟩:=r;obtain⟨t',rfl⟩:=r';exact call_range_2 (xq I1 q1 q2 q3 q4 q)
def acw(wi:TI)(g:TG)(tb:TS):TS:=λD σ H=>wi σ H λJ H1=>∃W:Nat->Nat->St->Hp->Prop,(∃m,W 0 m σ H1)/\∀i m σ H,W i m σ H ->
 (J.stop i H/\D.nx σ H)\/(J.go i H/\∃N:St->Hp->Prop,(∀σ' H',N σ' H'->∃m',m'<m/\W (i+1) m' σ' H')/\∀x H',J.Vf i H x H'->g x σ H' λσ2 H2=>tb {D with nx:=N,ct:=N,bk:=D.nx} σ2 H2)
noncomputable def pG(fp:ο)(h:Heap):qaa:=fp.filterMap λb=>(h.get? b).map λo=>(b,o)
def iE{fp:ο}{b:Addr}{o:Obj}(hb:b∈fp)(e:h.get? b=some o):(b,o)∈pG fp h:=UZ.mpr ⟨b,hb,by rw[e];rfl⟩
def DJ{fp:ο}{p:Addr×Obj}(hp:p∈pG fp h):p.1∈fp/\h.get? p.1=some p.2:=by
 obtain⟨b,hb,e⟩:=UZ.mp hp;cases q:h.get? b with
 |none=>rw[q] at e;cases e
 |some o=>rw[q] at e;have e':(b,o)=p:=Option.some.inj e;subst e';exact⟨hb,q⟩
def Inv.pinned{γ:qaa}{σ:St}{H:Hp}{s:Shared}{fp:ο}(I:Inv X γ σ H s)(hf:∀b∈fp,mJ X γ H b)(ho:∀b∈fp,∃o,s.heap.get? b=some o/\∀v,o.data≠.cell v):Inv X (γ++pG fp s.heap) σ H s :=
 I.BJ λp hp=>(cK.mp hp).elim (λz=>I.pin p (bZ _ z)) λz=>by obtain⟨hb,e⟩:=DJ z;obtain⟨f0,f1,f2,_⟩:=hf p.1 hb;obtain⟨o,e',d⟩:=ho p.1 hb;rw[e] at e';cases e';exact⟨e,f0,f1,f2,d⟩
def Inv.k_{γ pl:qaa}{σ:St}{H:Hp}{s:Shared}(I:Inv X (γ++pl) σ H s):Inv X γ σ H s:=I.BJ λp hp=>I.pin p (bZ _ (cA _ hp))
def Qu{body:qaq}{wi:TI}{g:TG}{tb:TS}{pos:Pos}(hp:PassesOwn (model X.prog X.w) X.A X.env X.xe)(hc:X.calm=true)(hi:PI X tg iter wi)(hg:PG X tg g)(hb:hY X body tb)(hs:∀x,foldedSetIterable iter X.env x=pure x:=by intro _;rfl):PS X (.For tg iter body [] pos) (acw wi g tb):=by
 intro γ s σ H D I h;refine wpAny_For (b_ (hi γ s σ H _ I h) λv s1 h1=>b_ h1 λYT s2 h2=>?_) hs;obtain⟨it,fp,tn,J,H2,e,I2,T,xr,f2,W,⟨m0,w0⟩,turn⟩:=h2;subst e;have Qv:∀{H':Hp},(∀b∈fp,H' b=none)->∀b∈fp,mJ X γ H' b:=λhn b hb=>⟨hn b hb,(f2 b hb).2⟩;refine codeAny_forLoop_any (λn s'=>∃i σ' H',Inv X γ σ' H' s'/\tn i s'.heap/\(∀b∈fp,H' b=none)/\W i n σ' H') ?_ m0 ⟨0,σ,H2,I2,xr,λb hb=>(f2 b hb).1,w0⟩;rintro n s3 ⟨i,σ3,H3,I3,Vj,Vk,w3⟩;rcases turn i n σ3 H3 w3 with⟨stop,qn⟩|⟨go,N,hN,step⟩
 . refine aab hp (b_ (T.done X rfl rfl rfl hc i γ s3 σ3 H3 X.xe I3 (Qv Vk) Vj stop) λr s4 ⟨hr,I4⟩=>?_);subst hr;exact aau ⟨σ3,H3,I4,qn⟩
 refine aab hp (b_ (T.item X rfl rfl rfl hc i γ s3 σ3 H3 X.xe I3 (Qv Vk) Vj go) λr s4 ⟨u,hr,h4⟩=>?_);subst hr;refine aab hp (b_ h4 λ_ s5 ⟨x,H5,I5,r5,y5,Qw,fr5⟩=>?_);have I5':=I5.pinned (Qv fr5) (T.obj _ _ Qw);refine aab hp (b_ (hg _ s5 σ3 H5 x u _ I5' r5 (step x H5 y5)) λ_ s6 ⟨σ6,H6,I6,q6⟩=>?_);refine aab hp (b_ (hb _ s6 σ6 H6 _ I6 q6) λf s7 q7=>?_);have again:∀{σ7:St}{H7:Hp},Inv X (γ++pG fp s5.heap) σ7 H7 s7->N σ7 H7->∃m,m<n/\∃i σ' H',Inv X γ σ' H' s7/\tn i s7.heap/\(∀b∈fp,H' b=none)/\W i m σ' H':=λ{σ7 H7} I7 n7=>by obtain⟨m',hm,w7⟩:=hN σ7 H7 n7;refine⟨m',hm,i+1,σ7,H7,I7.k_,T.keep _ _ _ Qw λb hb o e=>(I7.pin (b,o) (bZ _ (bZ _ (iE hb e)))).1,λb hb=>?_,w7⟩;obtain⟨o,e,d⟩:=T.obj _ _ Qw b hb;exact (I7.pin (b,o) (bZ _ (bZ _ (iE hb e)))).2.1
 cases f with
 |brk=>obtain⟨σ7,H7,I7,q7⟩:=q7;exact⟨σ7,H7,I7.k_,q7⟩
 |ret v=>obtain⟨x7,σ7,H7,I7,r7,q7⟩:=q7;exact⟨x7,σ7,H7,I7.k_,r7,q7⟩
 |_=>obtain⟨σ7,H7,I7,n7⟩:=q7;exact again I7 n7
end
abbrev R2:=V->V->Hp->VK->Prop
def gx(X:Cx)(f:Value->Value->Sem Value)(r:R2):Prop :=
 ∀(γ:qaa)(s:Shared)(σ:St)(H:Hp)(x y:V)(v u:Value)(Q:VK),Inv X γ σ H s->RelV x v->RelV y u->r x y H Q ->
  wpAny (model X.prog X.w) X.A (f v u) (EP X γ σ Q) X.xe s
def UnR(X:Cx)(f:Value->Sem Value)(r:V->Hp->VK->Prop):Prop :=
 ∀(γ:qaa)(s:Shared)(σ:St)(H:Hp)(x:V)(v:Value)(Q:VK),Inv X γ σ H s->RelV x v->r x H Q ->
  wpAny (model X.prog X.w) X.A (f v) (EP X γ σ Q) X.xe s
def eE(X:Cx)(f:Value)(r:List V->Hp->VK->Prop):Prop :=
 ∀(γ:qaa)(s:Shared)(σ:St)(H:Hp)(xs:List V)(us:qag)(Q:VK),Inv X γ σ H s->Vals xs us->r xs H Q ->
  wpAny (model X.prog X.w) X.A (call f us) (EP X γ σ Q) X.xe s
def Vm(r:R2)(ta tb:TE):TE:=λσ H Q=>ta σ H λx H1=>tb σ H1 λy H2=>r x y H2 Q
def tUn(r:V->Hp->VK->Prop)(ta:TE):TE:=λσ H Q=>ta σ H λx H1=>r x H1 Q
def rI(C:Int->Int->Prop)(g:Int->Int->V):R2:=λx y H Q=>∃i j,x=.int i/\y=.int j/\C i j/\Q (g i j) H
def xt(g:Int->Int->V):R2:=λx y H Q=>∃i j,x=.int i/\y=.int j/\Q (g i j) H
def rU(g:Int->V):V->Hp->VK->Prop:=λx H Q=>∃i,x=.int i/\Q (g i) H
section
variable{X:Cx}{a:Expr}{ta tb tc:TE}{pos:Pos}
def Qx(ha:PE X a ta)(hb:PE X b tb){γ:qaa}{s:Shared}{σ:St}{H:Hp}{R:V->V->Hp->Prop}(I:Inv X γ σ H s)(h:ta σ H λx H1=>tb σ H1 λy H2=>R x y H2){Q:qad}{f:Value->Value->Sem Value}(hf:∀v u s2 x y H2,Inv X γ σ H2 s2->RelV x v->RelV y u->R x y H2->wpAny (model X.prog X.w) X.A (f v u) Q X.xe s2) :
  wpAny (model X.prog X.w) X.A (eval a X.env) (λv s₁=>wpAny (model X.prog X.w) X.A (eval b X.env) (λu s₂=>wpAny (model X.prog X.w) X.A (f v u) Q X.xe s₂) X.xe s₁) X.xe s:=by
 refine b_ (ha γ s σ H _ I h) λv s1 ⟨x,H1,I1,r1,q1⟩=>?_;refine b_ (hb γ s1 σ H1 _ I1 q1) λu s2 ⟨y,H2,I2,r2,q2⟩=>?_;exact hf v u s2 x y H2 I2 r1 r2 q2
def Od{op:Operator}{r:R2}(ho:gx X (binaryOp op) r)(ha:PE X a ta)(hb:PE X b tb):PE X (.BinOp a op b pos) (Vm r ta tb):=by intro γ s σ H Q I h;exact wpAny_BinOp (Qx ha hb I h λv u s2 x y H2 I2 rx ry q=>ho γ s2 σ H2 x y v u Q I2 rx ry q)
def Oe{op:UnaryOp}{r:V->Hp->VK->Prop}(ho:UnR X (unaryOp op) r)(ha:PE X a ta):PE X (.UnaryOp op a pos) (tUn r ta):=by intro γ s σ H Q I h;exact UnaryOp_ (b_ (ha γ s σ H _ I h) λv s1 ⟨x,H1,I1,r1,q1⟩=>ho γ s1 σ H1 x v Q I1 r1 q1)
def Qy{f:Value->Value->Sem Value}{C:Int->Int->Prop}{g:Int->Int->Int}(rule:∀(i j:Int) (t u:Tok) (s:Shared) (Q:qad) (E:qad),C i j->Q (.int (g i j) s.toks) {s with toks:=s.toks+1}->wpAny (model X.prog X.w) X.A (f (.int i t) (.int j u)) Q E s) :
  gx X f (rI C λi j=>.int (g i j)):=by
 intro γ s σ H x y v u Q I rx ry h;obtain⟨i,j,rfl,rfl,hc,q⟩:=h;obtain⟨t,rfl⟩:=rx;obtain⟨t',rfl⟩:=ry;exact rule i j t t' s _ _ hc ⟨.int (g i j),H,I.tok _,⟨_,rfl⟩,q⟩
def Vn{f:Value->Value->Sem Value}{g:Int->Int->Int}(rule:∀(i j:Int) (t u:Tok) (s:Shared) (Q:qad) (E:qad),Q (.int (g i j) s.toks) {s with toks:=s.toks+1}->wpAny (model X.prog X.w) X.A (f (.int i t) (.int j u)) Q E s) :
  gx X f (xt λi j=>.int (g i j)):=by
 intro γ s σ H x y v u Q I rx ry h;obtain⟨i,j,rfl,rfl,q⟩:=h;obtain⟨t,rfl⟩:=rx;obtain⟨t',rfl⟩:=ry;exact rule i j t t' s _ _ ⟨.int (g i j),H,I.tok _,⟨_,rfl⟩,q⟩
def K8{f:Value->Value->Sem Value}{g:Int->Int->Bool}(rule:∀(i j:Int) (t u:Tok) (s:Shared) (Q:qad) (E:qad),Q (.bool (g i j)) s->wpAny (model X.prog X.w) X.A (f (.int i t) (.int j u)) Q E s) :
  gx X f (xt λi j=>.bl (g i j)):=by
 intro γ s σ H x y v u Q I rx ry h;obtain⟨i,j,rfl,rfl,q⟩:=h;obtain⟨t,rfl⟩:=rx;obtain⟨t',rfl⟩:=ry;exact rule i j t t' s _ _ ⟨.bl (g i j),H,I,rfl,q⟩
def Vo(i j:Int):Prop:=0<j/\j<1073741824
def Vp(i j:Int):Prop:=0<=j/\j<=1000000/\i.natAbs<2 ^ 64
def Gf(i j:Int):Prop:=(-(2 ^ 64)<i/\i<2 ^ 64)\/(-(2 ^ 64)<j/\j<2 ^ 64)
def Gf.ok{i j:Int}(h:Gf i j):IntMulOk i j:=by
 obtain⟨h1,h2⟩|⟨h1,h2⟩:=h
 exact .of_left (intBits_le_64 h1 h2);exact .of_right (intBits_le_64 h1 h2)
def Qz:gx X (binaryOp .Add) (xt λi j=>.int (i+j)):=Vn λ_ _ _ _ _ _ _ q=>add_int q
def QA:gx X (binaryOp .Sub) (xt λi j=>.int (i-j)):=Vn λ_ _ _ _ _ _ _ q=>sub_int q
def QB:gx X (binaryOp .Mult) (rI Gf λi j=>.int (i * j)):=Qy λ_ _ _ _ _ _ _ hc q=>mul_int q hc.ok
def K9:gx X (binaryOp .FloorDiv) (rI Vo λi j=>.int (i / j)):=Qy λi j _ _ _ _ _ hc q=>by have h1:(0:Int)<j:=hc.1;have h2:j<1073741824:=hc.2;exact floordiv_int (by omega) (by rw[Int.fdiv_eq_ediv_of_nonneg i (by omega)];exact q) (.inl (PyProof.noPylong_small (by omega)))
def QC:gx X (binaryOp .Mod) (rI (λ_ j=>0<j) λi j=>.int (i % j)):=Qy λi j _ _ _ _ _ hc q=>by have h1:(0:Int)<j:=hc;exact mod_int' (by omega) (by rw[Int.fmod_eq_emod_of_nonneg i (by omega)];exact q)
def QD:gx X (binaryOp .Pow) (rI Vp λi j=>.int (i ^ j.toNat)):=Qy λ_ _ _ _ _ _ _ hc q=>pow_int_small hc.1 hc.2.1 hc.2.2 q
def unI{f:Value->Sem Value}{g:Int->Int}(rule:∀(i:Int) (t:Tok) (s:Shared) (Q:qad) (E:qad),Q (.int (g i) s.toks) {s with toks:=s.toks+1}->wpAny (model X.prog X.w) X.A (f (.int i t)) Q E s) :
  UnR X f (rU λi=>.int (g i)):=by
 intro γ s σ H x v Q I rx h;obtain⟨i,rfl,q⟩:=h;obtain⟨t,rfl⟩:=rx;exact rule i t s _ _ ⟨.int (g i),H,I.tok _,⟨_,rfl⟩,q⟩
def Gh:UnR X (unaryOp .USub) (rU λi=>.int (-i)):=unI λ_ _ _ _ _ q=>neg_int q
end
section
variable{X:Cx}{a:Expr}{ta tb tc:TE}{pos:Pos}
def zU{γ:qaa}{σ:St}{H:Hp}{s:Shared}{Q:VK}{k k':Bool}(I:Inv X γ σ H s)(q:Q (.bl k) H)(e:k=k'):EP X γ σ Q (.bool k') s:=by subst e;exact⟨.bl k,H,I,rfl,q⟩
def Vq:gx X (compareOp .Lt) (xt λi j=>.bl (decide (i<j))):=K8 λ_ _ _ _ _ _ _ q=>lt_int q
def Og:gx X (compareOp .LtE) (xt λi j=>.bl (decide (i<=j))):=K8 λ_ _ _ _ _ _ _ q=>le_int q
def Vr:gx X (compareOp .Gt) (xt λi j=>.bl (decide (j<i))):=K8 λ_ _ _ _ _ _ _ q=>gt_int q
def Vs:gx X (compareOp .GtE) (xt λi j=>.bl (decide (j<=i))):=K8 λ_ _ _ _ _ _ _ q=>ge_int q
def DK:gx X (compareOp .In) (λx y H Q=>∃i j,x=.str i/\y=.str j/\Q (.bl (!(Builtin.Str.occurrences j i 0 j.length 1).isEmpty)) H):=by intro γ s σ H x y v u Q I rx ry h;obtain⟨i,j,rfl,rfl,q⟩:=h;obtain⟨t,rfl⟩:=rx;obtain⟨t',rfl⟩:=ry;exact in_str (zU I q rfl)
def QE:gx X (compareOp .Is) (λx y H Q=>y=.aQ/\Q (.bl (decide (x=.aQ))) H):=by
 intro γ s σ H x y v u Q I rx ry h;obtain⟨rfl,q⟩:=h;cases ry;refine is_none_gen (zU I q ?_);cases x<;>first
  | (cases rx;rfl)
  | (obtain⟨t,rfl⟩:=rx;rfl)
def K_:gx X (compareOp .IsNot) (λx y H Q=>y=.aQ/\Q (.bl (!decide (x=.aQ))) H):=by
 intro γ s σ H x y v u Q I rx ry h;obtain⟨rfl,q⟩:=h;cases ry;refine isnot_none_gen (zU I q ?_);cases x<;>first
  | (cases rx;rfl)
  | (obtain⟨t,rfl⟩:=rx;rfl)
def gx.or{f:Value->Value->Sem Value}{r r':R2}(h:gx X f r)(h':gx X f r'):gx X f (λx y H Q=>r x y H Q\/r' x y H Q):=by
 intro γ s σ H x y v u Q I rx ry q;obtain q|q:=q
 exact h γ s σ H x y v u Q I rx ry q;exact h' γ s σ H x y v u Q I rx ry q
def ji(b:Expr){op:CmpOp}(h:op≠.In:=by decide)(h2:op≠.NotIn:=by decide):behindInMarks op b=false:=by
 have e1:(op==CmpOp.In)=false:=by cases op<;>first|rfl|exact absurd rfl h
 have e2:(op==CmpOp.NotIn)=false:=by cases op<;>first|rfl|exact absurd rfl h2
 cases b<;>simp[behindInMarks,e1,e2]
def K'{op:CmpOp}{r:R2}(ho:gx X (compareOp op) r)(ha:PE X a ta)(hb:PE X b tb)(hm:behindInMarks op b=false):PE X (.Compare a [op] [b] pos) (Vm r ta tb):=by intro γ s σ H Q I h;exact wpAny_Compare1 (Qx ha hb I h λv u s2 x y H2 I2 rx ry q=>ho γ s2 σ H2 x y v u Q I2 rx ry q) hm
def Oh(t:TE):TT:=λσ H Q=>t σ H λx H'=>∃k,x=.bl k/\Q k H'
def La{op:CmpOp}{r:R2}(ho:gx X (compareOp op) r)(ha:PE X a ta)(hb:PE X b tb)(hm:behindInMarks op b=false):PT X (.Compare a [op] [b] pos) (Oh (Vm r ta tb)):=by
 intro γ s σ H Q I h;refine wpAny_isTrue_Compare1 (b_ (ha γ s σ H _ I h) λv s1 ⟨x,H1,I1,r1,q1⟩=>b_ (hb γ s1 σ H1 _ I1 q1) λu s2 ⟨y,H2,I2,r2,q2⟩ =>
  b_ (ho γ s2 σ H2 x y v u _ I2 r1 r2 q2) λc s3 ⟨z,H3,I3,r3,k,e,q3⟩=>?_) hm
 subst e;cases r3;exact Ξ ⟨H3,I3,q3⟩
def Gi(r r':R2)(ta tb tc:TE):TE:=λσ H Q=>ta σ H λx H1=>tb σ H1 λy H2=>r x y H2 λz H3=>∃k,z=.bl k /\
 (if k=true then tc σ H3 λw' H4=>r' y w' H4 Q else Q (.bl false) H3)
def Gj{op QF:CmpOp}{r r':R2}(ho:gx X (compareOp op) r)(j6:gx X (compareOp QF) r')(ha:PE X a ta)(hb:PE X b tb)(hc:PE X c tc)(hm:lastMarks [op,QF] [b,c]=false:=by with_unfolding_all rfl):PT X (.Compare a [op,QF] [b,c] pos) (Oh (Gi r r' ta tb tc)):=by
 intro γ s σ H Q I h;refine isTrue_chain (b_ (ha γ s σ H _ I h) λv s1 ⟨x,H1,I1,r1,q1⟩=>test_link (b_ (hb γ s1 σ H1 _ I1 q1) λu s2 ⟨y,H2,I2,r2,q2⟩ =>
  b_ (ho γ s2 σ H2 x y v u _ I2 r1 r2 q2) λd s3 ⟨z,H3,I3,r3,k,e,q3⟩=>?_)) hm
 subst e;cases r3;refine Ξ ?_;cases k with
 |false=>obtain⟨k',e',q'⟩:=q3;cases e';exact ite_ff ⟨H3,I3,q'⟩
 |true=>refine ite_tt (test_last (b_ (hc γ s3 σ H3 _ I3 q3) λw' s4 ⟨z',H4,I4,r4,q4⟩=>b_ (j6 γ s4 σ H4 y z' u w' _ I4 r2 r4 q4) λd' s5 ⟨z2,H5,I5,r5,k2,e2,q5⟩=>?_));subst e2;cases r5;exact Ξ ⟨H5,I5,q5⟩
def mK:(sizeLine:Nat)<2 ^ 63:=by rw[μ];decide
def zV:gx X (binaryOp .Add) (λx y H Q=>∃i j,x=.str i/\y=.str j/\i.length+j.length<=sizeLine/\Q (.str (i++j)) H):=by intro γ s σ H x y v u Q I rx ry h;obtain⟨i,j,rfl,rfl,hz,q⟩:=h;obtain⟨t,rfl⟩:=rx;obtain⟨t',rfl⟩:=ry;exact add_str (λt' tk=>⟨.str (i++j),H,I.tok _,⟨_,rfl⟩,q⟩) hz
def vals1{x:V}{us:qag}(r:Vals [x] us):∃u,us=[u]/\RelV x u:=by
 cases r with
 |cons r1 r2=>cases r2;exact⟨_,rfl,r1⟩
def vals2{x y:V}{us:qag}(r:Vals [x,y] us):∃u w',us=[u,w']/\RelV x u/\RelV y w':=by
 cases r with
 |cons r1 r2=>
  cases r2 with
  |cons r3 r4=>cases r4;exact⟨_,_,rfl,r1,r3⟩
def DN(hc:X.calm=true):eE X (.builtin "min") (λxs H Q=>∃i j,xs=[.int i,.int j]/\Q (.int (if j<i then j else i)) H):=by intro γ s σ H xs us Q I r h;obtain⟨i,j,rfl,q⟩:=h;obtain⟨u,w',rfl,⟨t,rfl⟩,⟨t',rfl⟩⟩:=vals2 r;refine min_two_ints (I.ok.hd hc) λh' tk k=>⟨_,H,I.kept k,?_,q⟩;by_cases hj:j<i;rw[ε hj,ε hj];exact⟨_,rfl⟩;rw[η hj,η hj];exact⟨_,rfl⟩
end
structure DO(h:Heap)(x dx C:Addr)(mA:qae):Prop where
 obj:h.get? x=some (W.instObj C dx)
 ns:h.Ns1 dx mA
 ne:dx≠x
def DP{mA:qae}(n:h.Ns1 dx mA):∃od,h.get? dx=some od/\∀name,W.lookIn name od=some (mA name):=by
 obtain⟨o,es,ep,ho,hd,hk,_,hm⟩:=n;refine⟨o,ho,λname=>?_⟩;have e:=hm name;unfold nsFind findBy at e;rw[<- Array.find?_toList] at e;unfold W.lookIn;rw[hd];dsimp only;split
 rename_i y q
 rw[q] at e;exact Ψ some e
 rename_i q
 rw[q] at e;have a:es.toList.any (·.refKey)=false:=by rw[List.any_eq_false];intro y hy;obtain⟨z,t,acx⟩:=hk y (Array.mem_toList_iff.mp hy);simp[DictEntry.refKey,acx]
 have a':¬ es.toList.any (·.refKey)=true:=by rw[a];exact gZ
 rw[η a'];exact Ψ some e
def DO.look{x:Addr}{mA:qae}(I:DO h x dx C mA):∃od,PySem.W.InstAt h x (W.instObj C dx) C (some od)/\∀name,W.lookIn name od=some (mA name) :=
 let ⟨od,ho,hl⟩:=DP I.ns
 ⟨od,⟨I.obj,rfl,rfl,ho⟩,hl⟩
section
variable{E:qad}{s:Shared}{K:Δ}{x:Addr}{mA:qae}{name:Str}{v:Value}
def get_map{expr:Bool}{Q:qad}(X:K.In s.heap)(I:DO s.heap x dx C mA)(hg:W.plainGet K C name=true)(hh:W.hasDictIn K C=true)(ha:W.findIn K (.ref C) name=some none)(hv:mA name=some v)(se:W.handedIn v=true)(h:Q v {s with toks:=s.toks+1}) :
  wpAny (model prog w) A (getAttr (.ref x) name expr) Q E s:=by
 obtain⟨od,J,hl⟩:=I.look;exact W.get_value X J (W.plainGet_of hg).1 (W.findObj_own hh ha rfl (by rw[hl,hv])) se h
def Lb{ns:π}{Q:Unit->Shared->Prop}(X:K.In s.heap)(I:DO s.heap x dx C mA)(hs:W.findIn K (.ref C) "__setattr__"=some (some (.builtin "object.__setattr__")))(hp:W.plainOver K C=true)(ht:W.takerIn K C name=some none)(hh:W.hasDictIn K C=true)(hw:PySem.Within mA ns)(hsz:ns.length<=sizeLine)(h:∀h',DO h' x dx C (λy=>if y=name then some v else mA y)->Heap.SameBut dx s.heap h'->Q () {s with heap:=h',toks:=s.toks+2}) :
  wpAny (model prog w) A (setAttr (.ref x) name v) Q E s:=by
 obtain⟨od,J,hl⟩:=I.look;refine W.set_plain X J hs (W.osa_open (s:={s with toks:=s.toks+1}) (r:=none) X J hp ht λb=>?_);obtain⟨cd,hc,BH⟩:=W.any_some hh;have hx:s.heap.get? x=some ⟨.ref C,some dx,.plain,#[]⟩:=I.obj;refine δ (ζ (δ (δ (wpAny_loadPart hx (δ (PySem.W.Looks.here (s:={s with toks:=s.toks+1}) (W.looks_clsIn X hc) ?_))))));rw[BH];refine ζ (a:=some dx) (δ (ζ (δ ?_)));refine wpAny_nsSet1 (s:={s with toks:=s.toks+1}) I.ns λh' hn2 tE=>?_;obtain⟨oD,esD,epD,hoD,hdD,Uq⟩:=hn2.count (PySem.Within.cons name v hw);refine δ (wpAny_lookBehind hoD (by rw[hdD];exact pastItsLine_dict (fM Uq (by rw[BF];omega))) ?_);exact ζ (h _ ⟨(tE.2 _ (Ne.symm I.ne)).trans I.obj,hn2,I.ne⟩ tE)
def Gk{R:Result->Shared->Prop}{vs:qag}{kw:List (Str×Value)}(X:K.In s.heap)(hm:W.makesIn K C=true)(hi:W.findIn K (.ref C) "__init__"=some (some (.ref f)))(hf:W.typeIn K (.ref f)=some (.type "function"))(h:codeAny (model prog w) (A.under (.builtin "type.__call__" ⟨.ref C::vs,kw⟩)) (.call (.ref f) ⟨.ref (s.heap.objs.size+1)::vs,kw⟩) (PySem.W.InitBack (s.heap.objs.size+1) R)
    {s with heap:=(s.heap.push W.emptyDict).push (W.instObj C s.heap.objs.size)}) :
  codeAny (model prog w) A (.call (.ref C) ⟨vs,kw⟩) R s:=by
 obtain⟨hh,g,d,t,os⟩:=s;exact W.make_core (W.makes_of X hm) (W.looks_findIn X hi) (λself=>W.bind_fn X self hf) (.inl rfl) h
end
noncomputable def dD(f:Str)(v:V):List (Str×V)->List (Str×V)
 |[]=>[(f,v)]
 | (g,x)::r=>if g=f then (g,v)::r else (g,x)::dD f v r
theorem nL(f g:Str)(v:V):∀fs:List (Str×V),(dD f v fs).lookup g=if g=f then some v else fs.lookup g
 |[]=>by show List.lookup g [(f,v)]=_;by_cases h:g=f;have hb:(g==f)=true:=aaw.mpr h;simp only[List.lookup,hb,ε h];have hb:(g==f)=false:=Θ.mpr h;simp only[List.lookup,hb,η h]
 | (k,x)::r=>by have ih:=nL f g v r;rw[show dD f v ((k,x)::r)=(if k=f then (k,v)::r else (k,x)::dD f v r) from rfl];by_cases hk:k=f;rw[ε hk];by_cases h:g=k;have hb:(g==k)=true:=aaw.mpr h;simp only[List.lookup,hb,ε (h.trans hk)];have hb:(g==k)=false:=Θ.mpr h;simp only[List.lookup,hb,η (λe:g=f=>h (e.trans hk.symm))];rw[η hk];by_cases h:g=k;have hb:(g==k)=true:=aaw.mpr h;simp only[List.lookup,hb,η (λe:g=f=>hk (h.symm.trans e))];have hb:(g==k)=false:=Θ.mpr h;simp only[List.lookup,hb];exact ih
theorem mM(f:Str)(v:V):∀fs:List (Str×V),f∈(dD f v fs).map (·.1)/\∀g,g∈fs.map (·.1)->g∈(dD f v fs).map (·.1)
 |[]=>⟨by simp[dD],λg h=>by simp at h⟩
 | (k,x)::r=>by
  obtain⟨i1,i2⟩:=mM f v r;rw[show dD f v ((k,x)::r)=(if k=f then (k,v)::r else (k,x)::dD f v r) from rfl];by_cases hk:k=f;rw[ε hk];subst hk;exact⟨by simp,λg h=>by simpa using h⟩;rw[η hk];refine⟨?_,λg h=>?_⟩;rw[fU];exact fJ _ i1;rw[fU] at h ⊢;rcases cU.mp h with e|e
  exact cU.mpr (.inl e);exact fJ _ (i2 g e)
theorem nM(f:Str)(v:V):∀fs:List (Str×V),(dD f v fs).length<=fs.length+1
 |[]=>by simp[dD]
 | (k,x)::r=>by have ih:=nM f v r;rw[show dD f v ((k,x)::r)=(if k=f then (k,v)::r else (k,x)::dD f v r) from rfl];by_cases hk:k=f;rw[ε hk,BF,BF];omega;rw[η hk,BF,BF];omega
def j1.some_of{v:V}{o:Option Value}(r:j1 (some v) o):∃u,o=some u/\RelV v u:=by
 cases o with
 |none=>exact (show False from r).elim
 |some u=>exact⟨u,rfl,r⟩
def DQ{v:V}(r:RelV v u):W.handedIn u=true:=by
 cases v with
 |aQ=>cases (show u=Value.none from r);rfl
 |bl b=>cases (show u=Value.bool b from r);rfl
 |int i=>obtain⟨t,e⟩:=(show ∃t,u=Value.int i t from r);cases e;rfl
 |str x=>obtain⟨t,e⟩:=(show ∃t,u=Value.str x t from r);cases e;rfl
 |ZR b=>obtain⟨t,e⟩:=(show ∃t,u=Value.bytes b t from r);cases e;rfl
 |ZS b=>obtain⟨t,e⟩:=(show ∃t,u=Value.float b t from r);cases e;rfl
 |ref a=>cases (show u=Value.ref a from r);rfl
 |ty n=>cases (show u=Value.type n from r);rfl
section
variable{H H':Hp}{fs ZV:List (Str×V)}
def BO(cj:kZ P w H h)(e:H a=some (.ins C dx fs)):∃mA,DO h a dx C mA/\(∀f,j1 (fs.lookup f) (mA f))/\PySem.Within mA (fs.map (·.1))/\fs.length<=1000/\H dx=some (.own a):=by obtain⟨d,z,ne,ob,mA,n,r,q⟩:=(show cp P w H h a (.ins C dx fs) from cj a _ e);exact⟨mA,⟨ob,n,ne⟩,r,q,z,d⟩
end
structure zW(K:Δ)(C:Addr):Prop where
 pg:W.plainGet K C Str.empty=true
 hd:W.hasDictIn K C=true
 po:W.plainOver K C=true
 sa:W.findIn K (.ref C) "__setattr__"=some (some (.builtin "object.__setattr__"))
def zW.get{K:Δ}{C:Addr}(c:zW K C)(f:Str):W.plainGet K C f=true:=c.pg
def bp(K:Δ)(C:Addr)(f:Str):Prop:=W.findIn K (.ref C) f=some none
def bp.Vt{K:Δ}{f:Str}(n:bp K C f):W.takerIn K C f=some none:=by unfold W.takerIn;rw[show W.findIn K (.ref C) f=some none from n];rfl
section
variable{X:Cx}{γ:qaa}{σ:St}{H:Hp}{s:Shared}{fs:List (Str×V)}{f:Str}{v:V}{E:qad}
def zX{b:Bool}{Q:qad}(I:Inv X γ σ H s)(e:H a=some (.ins C dx fs))(c:zW X.K C)(n:bp X.K C f)(l:fs.lookup f=some v)(h:∀u s',Inv X γ σ H s'->RelV v u->Q u s'):wpAny (model X.prog X.w) A (getAttr (.ref a) f b) Q E s:=by obtain⟨mA,O,r,_,_,_⟩:=BO I.cj e;obtain⟨u,hu,ru⟩:=j1.some_of (v:=v) (o:=mA f) (by rw[<- l];exact r f);exact get_map I.r0 O (c.get f) c.hd n hu (DQ ru) (h u _ (I.tok _) ru)
def zY{y:V}{Q:Unit->Shared->Prop}(I:Inv X γ σ H s)(e:H a=some (.ins C dx fs))(c:zW X.K C)(n:bp X.K C f)(hl:fs.length<1000)(ry:RelV y u)(h:∀s',Inv X γ σ (upd H a (.ins C dx (dD f y fs))) s'->Q () s'):wpAny (model X.prog X.w) A (setAttr (.ref a) f u) Q E s:=by
 obtain⟨mA,O,r,wi,_,ho⟩:=BO I.cj e;have hz:(fs.map (·.1)).length<=sizeLine:=by rw[cJ,μ];omega
 refine Lb I.r0 O c.sa c.po n.Vt c.hd wi hz λh' O' sb=>h _ ?_;have hd:∃o,h'.get? dx=some o:=let ⟨o,_,_,e',_⟩:=O'.ns;⟨o,e'⟩;refine I.write (x:=a) (e:=dx) (by rw[e];exact True.intro) (.inr ho) (λb q hb z=>(sb.2 b hb).trans z) hd ?_;refine⟨by rw[aG O.ne];exact ho,?_,O.ne,O'.obj,_,O'.ns,λg=>?_,λg hg=>?_⟩;have:=nM f y fs;omega;show j1 ((dD f y fs).lookup g) (if g=f then some u else mA g);rw[nL];by_cases q:g=f;rw[ε q,ε q];exact ry;rw[η q,η q];exact r g;by_cases q:g=f;rw[q];exact (mM f y fs).1;refine (mM f y fs).2 g (wi g λz=>hg ?_);show (if g=f then some u else mA g)=none;rw[η q];exact z
def Inv.made(I:Inv X γ σ H s):Inv X γ σ (upd (upd H s.heap.objs.size (.own (s.heap.objs.size+1))) (s.heap.objs.size+1) (.ins C s.heap.objs.size []))
  {s with heap:=(s.heap.push W.emptyDict).push (W.instObj C s.heap.objs.size)}:=by
 have e1:(s.heap.push W.emptyDict).get? s.heap.objs.size=some W.emptyDict:=k4 s.heap rfl;have e2:((s.heap.push W.emptyDict).push (W.instObj C s.heap.objs.size)).get? (s.heap.objs.size+1)=some (W.instObj C s.heap.objs.size):=by
  have:=k4 (s.heap.push W.emptyDict) (o:=W.instObj C s.heap.objs.size) rfl
  rwa [F4] at this
 have e3:(s.heap.push W.emptyDict).Ns s.heap.objs.size (λ_=>none):=⟨W.emptyDict,#[],_,e1,rfl,(λe he=>absurd he (by simp)),λ_=>rfl⟩;have I1:=I.laid (a:=s.heap.objs.size) (o:=.own (s.heap.objs.size+1)) (h':=s.heap.push W.emptyDict) (t':=s.toks) (λb u q=>fN _ q) (cS _) ⟨_,e1⟩;refine I1.laid (a:=s.heap.objs.size+1) (o:=.ins C s.heap.objs.size []) (t':=s.toks) (λb u q=>fN _ q) (Nat.le_of_eq (F4 _ _)) ?_;have ne:s.heap.objs.size≠s.heap.objs.size+1:=ki (zJ _);refine⟨by rw[aG ne,aC],mE _,ne,e2,λ_=>none,(Heap.Ns1.of_empty e3).at λo q=>fN _ q,λ_=>True.intro,λy hy=>absurd rfl hy⟩
def Lc{env:Env}{f:Str}{pos:Pos}{s:Shared}{Q:qad}(hb:attributeBase e f env (eval e env)=eval e env)(h:wpAny (model prog w) A (eval e env) (λo s₁=>wpAny (model prog w) A (getAttr o f true) Q E s₁) E s):wpAny (model prog w) A (eval (.Attribute e f pos) env) Q E s :=
 Attribute_any_ h (by rw[arm_eval_Attribute,hb])
end
def acy(K:Δ)(ta:TE)(f:Str):TE:=λσ H Q=>ta σ H λx H1=>∃a C dx fs v,x=.ref a/\H1 a=some (.ins C dx fs)/\zW K C/\bp K C f/\fs.lookup f=some v/\Q v H1
noncomputable def acz(K:Δ)(ta tv:TE)(f:Str):TS:=λD σ H=>tv σ H λy H1=>ta σ H1 λx H2=>∃a C dx fs,x=.ref a/\H2 a=some (.ins C dx fs)/\zW K C/\bp K C f/\fs.length<1000 /\
 D.nx σ (upd H2 a (.ins C dx (dD f y fs)))
section
variable{X:Cx}{value:Expr}{f:Str}{pos pos':Pos}{ta tv:TE}
def zZ(he:PE X e ta)(hb:attributeBase e f X.env (eval e X.env)=eval e X.env):PE X (.Attribute e f pos) (acy X.K ta f):=by intro γ s σ H Q I h;refine Lc hb (b_ (he γ s σ H _ I h) λu s1 ⟨x,H1,I1,rx,a,C,dx,fs,v,ex,ea,c,n,l,q⟩=>?_);subst ex;obtain rfl:u=Value.ref a:=rx;exact zX I1 ea c n l λu' s2 I2 ru=>⟨v,H1,I2,ru,q⟩
def fW(ha:PE X o ta)(hv:PE X value tv)(hs:swapsWith value (some (.Attribute o f pos')) pos.line X.env=pure false):PS X (.Assign [.Attribute o f pos'] value pos) (acz X.K ta tv f):=by intro γ s σ H D I h;refine plainObj_wpAny_Assign_Attribute (b_ (hv γ s σ H _ I h) λu s1 ⟨y,H1,I1,ry,q⟩=>b_ (ha γ s1 σ H1 _ I1 q) λov s2 ⟨x,H2,I2,rx,a,C,dx,fs,ex,ea,c,n,l,q2⟩=>?_) hs;subst ex;obtain rfl:ov=Value.ref a:=rx;exact zY I2 ea c n l ry λs3 I3=>⟨σ,_,I3,q2⟩
end
structure bF(k:Nat)(A:Around):Prop where
 hd:A.handled=none
 dp:A.depth+3 * k+5<recursionLimit
 un:A.units+16 * k+200<cLine
def bF.mono{k:Nat}(r:bF k A)(h:j<=k):bF j A:=⟨r.hd,by have:=r.dp;omega,by have:=r.un;omega⟩
def bF.deeper{k:Nat}(r:bF (k+1) A)(env:Env):bF k (A.deeper env) :=
 ⟨r.hd,by have:=r.dp;show A.depth+1+3 * k+5<_;omega,by have:=r.un;show A.units+3+16 * k+200<_;omega⟩
def z6{us:qag}{kw:List (Str×Value)}:(A.under (.builtin "type.__call__" ⟨.ref C::us,kw⟩)).depth=A.depth+1:=by first|rfl|simp[Around.under,Code.weight,Code.isCreation,Code.isGuard,Code.isCaller,Code.frames,Code.isFrame,guardIds]
def z7{us:qag}{kw:List (Str×Value)}:(A.under (.builtin "type.__call__" ⟨.ref C::us,kw⟩)).units=A.units+1:=by first|rfl|simp[Around.under,Code.cUnits,Code.frames,Code.isFrame]
def bF.make{k:Nat}(r:bF (k+1) A)(C:Addr)(us:qag)(kw:List (Str×Value)):bF k (A.under (.builtin "type.__call__" ⟨.ref C::us,kw⟩)) :=
 ⟨r.hd,by have:=r.dp;rw[z6];omega,by have:=r.un;rw[z7];omega⟩
def bF.depth{k:Nat}(r:bF k A):A.depth<recursionLimit:=by have:=r.dp;omega
def acA:TA:=λ_ H Q=>Q [] H
def Vu(ta:TE)(tr:TA):TA:=λσ H Q=>ta σ H λx H1=>tr σ H1 λxs H2=>Q (x::xs) H2
section
variable{X:Cx}{es:qap}{te:TE}{t:TA}{pos:Pos}
def cC:PA X [] acA:=λ_ _ _ _ H Q I h=>U0 ⟨[],H,I,.nil,h⟩
def bf(ha:PE X e te)(hr:PA X es t)(hs:starEach (e::es) X.env=(false,eval e X.env)::starEach es X.env:=by rfl):PA X (e::es) (Vu te t):=by intro pos γ s σ H Q I h;rw[hs];show wpAny _ _ (spliced ((false,eval e X.env)::backTo pos (starEach es X.env))) _ _ s;refine KQ (b_ (ha γ s σ H _ I h) λu s1 ⟨x,H1,I1,r1,q1⟩=>?_);exact b_ (hr pos γ s1 σ H1 _ I1 q1) λus s2 ⟨xs,H2,I2,r2,q2⟩=>⟨x::xs,H2,I2,.cons r1 r2,q2⟩
noncomputable def acB(t:TA):TE:=λσ H Q=>t σ H λxs H1=>xs.length<=sizeLine/\∀p,H1 p=none->Q (.ref p) (upd H1 p (.tup xs))
noncomputable def acC(t:TA):TE:=λσ H Q=>t σ H λxs H1=>xs.length<=sizeLine/\∀p,H1 p=none->Q (.ref p) (upd H1 p (.lst xs))
def uE{x1}(h:PA X es t):PE X (.Tuple es x1 pos) (acB t):=by intro γ s σ H Q I hq;refine wpAny_Tuple_spliced (b_ (h pos γ s σ H _ I hq) λus s1 ⟨xs,H1,I1,r,z,q⟩=>⟨by rw[<- r.length];exact z,?_⟩);have hf:H1 s1.heap.objs.size=none:=I1.cj.fresh (cS _);refine⟨.ref s1.heap.objs.size,upd H1 s1.heap.objs.size (.tup xs),I1.laid (t':=s1.toks) (λb u e=>fN _ e) (cS _) ?_,rfl,q _ hf⟩;exact⟨z,us,r,⟨_,k4 _ rfl,rfl,_,rfl⟩⟩
def z8(h:PA X es t):PE X (.List es pos) (acC t):=by intro γ s σ H Q I hq;refine wpAny_List_spliced (b_ (h pos γ s σ H _ I hq) λus s1 ⟨xs,H1,I1,r,z,q⟩=>⟨by rw[<- r.length];exact z,?_⟩);have hf:H1 s1.heap.objs.size=none:=I1.cj.fresh (cS _);refine⟨.ref s1.heap.objs.size,upd H1 s1.heap.objs.size (.lst xs),I1.laid (t':=s1.toks) (λb u e=>fN _ e) (cS _) ?_,rfl,q _ hf⟩;exact⟨z,us,0,r,k4 _ rfl⟩
end
abbrev Sp:=List V->Hp->VK->XK->Prop
abbrev Fw:=List Env->Hp->Shared->XK->qad
structure z9(P:Program)(w:World)(K:Δ)(mg:qae)(base:Heap)(A:Around)(outer:List Env)(s:Shared)(H:Hp):Prop where
 frames:A.frames=some outer
 mod:Mod K mg base
 bs:∀b o,base.get? b=some o->s.heap.get? b=some o/\H b=none
 F8:base.objs.size<=s.heap.objs.size
 k6:s.heap.FunFrames base outer
 KZ:∀b∈Fv outer,H b=none
 cj:kZ P w H s.heap
 bare:AllBare s.gens
def CE(outer:List Env)(P:Program)(w:World)(H:Hp)(s:Shared)(Q:VK)(u:Value)(s':Shared):Prop :=
 ∃v H',s'.os=s.os/\AllBare s'.gens/\Un (Fv outer) [] H H' s.heap s'.heap/\kZ P w H' s'.heap/\RelV v u/\Q v H'
def CR(CX:Fw)(outer:List Env)(P:Program)(w:World)(H:Hp)(s:Shared)(Q:VK)(E:XK)(r:Result)(s':Shared):Prop :=
 match r with
 |.ok (.ret u)=>CE outer P w H s Q u s'
 |.ok _=>False
 |.error e=>CX outer H s E e s'
structure cq(P:Program)(w:World)(K:Δ)(mg:qae)(base:Heap)(CX:Fw)(k:Nat)(f:Addr)(fd:FuncData)(ps:π)(sp:Sp):Prop where
 len:∀vs H Q E,sp vs H Q E->vs.length=ps.length
 run:∀(A:Around)(outer:List Env)(s:Shared)(H:Hp)(args:Args)(us:qag)(vs:List V)(Q:VK)(E:XK),bF k A->z9 P w K mg base A outer s H->BindsTo s fd args (ps.zip us)->Vals vs us->sp vs H Q E ->
  codeAny (model P w) A (.call (.ref f) args) (CR CX outer P w H s Q E) s
def z9.make{K:Δ}{mg:qae}{outer:List Env}{s:Shared}{H:Hp}(e:z9 P w K mg base A outer s H)(C:Addr)(us:qag)(kw:List (Str×Value)) :
 z9 P w K mg base (A.under (.builtin "type.__call__" ⟨.ref C::us,kw⟩)) outer s H:=⟨by first|exact e.frames|(simpa[Around.under,Code.envs,Code.isFrame,pushEnvs] using e.frames),e.mod,e.bs,e.F8,e.k6,e.KZ,e.cj,e.bare⟩
section
variable{X:Cx}{γ:qaa}{σ:St}{H:Hp}{s:Shared}
def Inv.Vv(I:Inv X γ σ H s):z9 X.prog X.w X.K X.mg X.base X.A X.stack s H :=
 ⟨I.ok.frames,I.ok.mod,I.bs,fM I.ok.F8 I.sz,I.stack,I.BI,I.cj,I.bare⟩
def Inv.after{Q:VK}(I:Inv X γ σ H s)(h:CE X.stack X.prog X.w H s Q u s'):EP X γ σ Q u s':=by obtain⟨v,H',os,bare,un,cj,r,q⟩:=h;obtain⟨hh,g,d,t,os'⟩:=s';obtain rfl:os'=s.os:=os;exact⟨v,H',I.call (h':=hh) (g':=g) (d':=d) (t':=t) (ch:=[]) un cj bare (λb z=>absurd z (by simp)),r,q⟩
end
def Vw(sp:Sp)(uF:List V)(E:XK)(t:TA):TE:=λσ H Q=>t σ H λvs H1=>sp (vs++uF) H1 Q E
noncomputable def Vx(C:Addr)(sp:Sp)(uF:List V)(E:XK)(t:TA):TE:=λσ H Q=>t σ H λvs H1=>∀x dx,H1 x=none->H1 dx=none->dx≠x ->
 sp (.ref x::(vs++uF)) (upd (upd H1 dx (.own x)) x (.ins C dx [])) (λv H2=>v=.aQ/\Q (.ref x) H2) E
def Binds(K:Δ)(fd:FuncData)(ps:π)(ds:qag):Prop :=
 ∀(s:Shared)(us:qag),K.In s.heap->(us++ds).length=ps.length->BindsTo s fd ⟨us,[]⟩ (ps.zip (us++ds))
def Binds.all{K:Δ}{ps:π}(h:∀us:qag,us.length=ps.length->bindArgs fd ⟨us,[]⟩=pure (ps.zip us)):Binds K fd ps []:=λs us _ hl=>by rw[xc] at hl ⊢;exact .of_eq (h us hl)
def Passes(CX:Fw)(X:Cx)(E:XK):Prop:=∀(γ:qaa)(σ:St)(H:Hp)(s:Shared)(e:Value)(s':Shared),Inv X γ σ H s->CX X.stack H s E e s'->X.xe e s'
section
variable{X:Cx}{CX:Fw}{k:Nat}{ps:π}{sp:Sp}{uF:List V}{ds:qag}{E:XK}{m:Str}{pos:Pos}{es:qap}{ta:TE}{t:TA}
def z_{γ:qaa}{σ:St}{H:Hp}{s:Shared}{Q:VK}{us:qag}{vs:List V}(F:cq X.prog X.w X.K X.mg X.base CX k f fd ps sp)(hr:bF k X.A)(hb:Binds X.K fd ps ds)(hd:Vals uF ds)(hx:Passes CX X E)(I:Inv X γ σ H s)(r:Vals vs us)(h:sp (vs++uF) H Q E):wpAny (model X.prog X.w) X.A (call (.ref f) us) (EP X γ σ Q) X.xe s:=by
 have r2:Vals (vs++uF) (us++ds):=r.append hd;have hl:(us++ds).length=ps.length:=by rw[<- r2.length];exact F.len _ _ _ _ h
 refine wpAny_call (codeAny_mono (F.run X.A X.stack s H ⟨us,[]⟩ (us++ds) (vs++uF) Q E hr I.Vv (hb s us I.r0 hl) r2 h) λr s' hq=>?_);cases r with
 |error e=>exact hx γ σ H s e s' I hq
 |ok fl=>
  cases fl with
  |ret u=>exact I.after hq
  |_=>exact False.elim hq
def iF(F:cq X.prog X.w X.K X.mg X.base CX k f fd ps sp)(hr:bF k X.A)(hg:Gl X x)(hm:X.mg x=some (.ref f))(hk:W.keepIn X.K (.ref f)=true)(hb:Binds X.K fd ps ds)(hd:Vals uF ds)(hx:Passes CX X E)(ha:PA X (e::es) t)(kj:gq x:=by decide)(he:starEach (e::es) X.env=(false,eval e X.env)::starEach es X.env:=by rfl)(fO:(backTo pos (starEach es X.env)).any (·.1)=false:=by rfl) :
  PE X (.Call (.Name x p) (e::es) [] pos) (Vw sp uF E t):=by
 intro γ s σ H Q I h;refine aam (uA I hg hm ?_ kj);refine YN (h₀:=X.base) I.ok.mod.Uo hk (b_ (ha pos γ s σ H _ I h) λus s1 ⟨vs,H1,I1,r,q⟩=>⟨I1.r0,?_⟩) he fO;exact z_ F hr hb hd hx I1 r q
structure Mk(K:Δ)(C f:Addr):Prop where
 makes:W.makesIn K C=true
 init:W.findIn K (.ref C) "__init__"=some (some (.ref f))
 fn:W.isFn K (.ref f)=true
 kp:W.keepIn K (.ref C)=true
theorem Gm{γ:qaa}{σ:St}{H:Hp}{s:Shared}{Q:VK}{us:qag}{vs:List V}(M:Mk X.K C f)(F:cq X.prog X.w X.K X.mg X.base CX k f fd ps sp)(hr:bF (k+1) X.A)(hb:Binds X.K fd ps ds)(hd:Vals uF ds)(hx:Passes CX X E)(I:Inv X γ σ H s)(r:Vals vs us)(h:∀x dx,H x=none->H dx=none->dx≠x->sp (.ref x::(vs++uF)) (upd (upd H dx (.own x)) x (.ins C dx [])) (λv H2=>v=.aQ/\Q (.ref x) H2) E) :
  wpAny (model X.prog X.w) X.A (call (.ref C) us) (EP X γ σ Q) X.xe s:=by
 have hq:=h (s.heap.objs.size+1) s.heap.objs.size (I.cj.fresh (xi _)) (I.cj.fresh (cS _)) (ki (zJ _));have I2:=Inv.made (C:=C) I;have r2:Vals (V.ref (s.heap.objs.size+1)::(vs++uF)) (Value.ref (s.heap.objs.size+1)::(us++ds)):=.cons rfl (r.append hd);have hl:(Value.ref (s.heap.objs.size+1)::us++ds).length=ps.length:=by have e:=r2.length;rw[F.len _ _ _ _ hq] at e;exact e.symm
 refine wpAny_call (Gk (f:=f) I.r0 M.makes M.init (aaw.mp M.fn) (codeAny_mono (F.run _ X.stack _ _ ⟨Value.ref (s.heap.objs.size+1)::us,[]⟩ (Value.ref (s.heap.objs.size+1)::(us++ds)) _ _ E (hr.make C us [])
  (I2.Vv.make C us []) (hb _ (Value.ref (s.heap.objs.size+1)::us) I2.r0 hl) r2 hq) λr s' gQ=>?_))
 cases r with
 |error e=>exact hx γ σ _ _ e s' I2 gQ
 |ok fl=>
   cases fl with
   |ret u=>obtain⟨v,H',I3,rv,ev,q3⟩:=I2.after gQ;subst ev;exact⟨rv,⟨V.ref (s.heap.objs.size+1),H',I3,rfl,q3⟩⟩
   |_=>exact False.elim gQ
def uG(M:Mk X.K C f)(F:cq X.prog X.w X.K X.mg X.base CX k f fd ps sp)(hr:bF (k+1) X.A)(hg:Gl X x)(hm:X.mg x=some (.ref C))(hb:Binds X.K fd ps ds)(hd:Vals uF ds)(hx:Passes CX X E)(ha:PA X (e::es) t)(kj:gq x:=by decide)(he:starEach (e::es) X.env=(false,eval e X.env)::starEach es X.env:=by rfl)(fO:(backTo pos (starEach es X.env)).any (·.1)=false:=by rfl) :
  PE X (.Call (.Name x p) (e::es) [] pos) (Vx C sp uF E t):=by
 intro γ s σ H Q I h;refine aam (uA I hg hm ?_ kj);refine YN (h₀:=X.base) I.ok.mod.Uo M.kp (b_ (ha pos γ s σ H _ I h) λus s1 ⟨vs,H1,I1,r,q⟩=>⟨I1.r0,?_⟩) he fO;exact Gm M F hr hb hd hx I1 r q
end
section
variable{X:Cx}{CX:Fw}{k:Nat}{ps ks:π}{sp:Sp}{E:XK}{m:Str}{pos acD:Pos}{es:qap}{kws:List Keyword}{te ta:TE}{t tk:TA}{nm:Option Str}
variable{g:qag->qag->qag}{gV:List V->List V->List V}
end
structure aE(N P:π)(sc:Scope):Prop where
 kind:sc.kind=.function
 co:sc.isCoroutine=false
 gen:sc.isGenerator=false
 nd:N.Nodup
 pre:N.take P.length=P
 par:∀x∈P,sc.names.lookup x=some .local\/sc.names.lookup x=some .cell
 QG:∀y∈sc.names,y.2≠.free
def g9{N P:π}(a:sc.kind=.function:=by rfl)(b:sc.isCoroutine=false:=by rfl)(c:sc.isGenerator=false:=by rfl)(d:N.Nodup:=by decide +kernel)(e:N.take P.length=P:=by rfl)(f:∀x∈P,sc.names.lookup x=some .local\/sc.names.lookup x=some .cell:=by decide +kernel)(g:∀y∈sc.names,y.2≠.free:=by decide +kernel):aE N P sc:=⟨a,b,c,d,e,f,g⟩
theorem tF{kindOf:Str->Option NameKind}{x:Str}:∀{binds:List (Str×Value)}{m:qae},(∀v,(x,v)∉binds)->bindL kindOf binds m x=m x
 |[],_,_=>rfl
 | (n,v)::r,m,h=>by
  unfold bindL;rw[tF λw hw=>h w (fJ _ hw)];split;have:x≠n:=by rintro rfl;exact h v c6
  simp[this];rfl
theorem tG{kindOf:Str->Option NameKind}{x:Str}:∀{binds:List (Str×Value)}{m:qae},(∀v,(x,v)∉binds)->bindC kindOf binds m x=m x
 |[],_,_=>rfl
 | (n,v)::r,m,h=>by
  unfold bindC;rw[tG λw hw=>h w (fJ _ hw)];split;rfl;have:x≠n:=by rintro rfl;exact h v c6
  simp[this]
theorem tI{kindOf:Str->Option NameKind}{x:Str}{v:Value}:∀{P:π}{vs:qag}{i:Nat}{m:qae},P.Nodup->P[i]?=some x->vs[i]?=some v->kindOf x=some .local ->
  bindL kindOf (P.zip vs) m x=some v
 |[],_,_,_,_,h,_,_=>by simp at h
 |_::_,[],_,_,_,_,h,_=>by simp at h
 |p::P,w::vs,0,m,nd,h1,h2,hk=>by simp at h1 h2;subst h1;subst h2;show bindL kindOf ((p,w)::P.zip vs) m p=_;unfold bindL;rw[tF λv hv=>(jg.mp nd).1 (List.of_mem_zip hv).1,ε hk];simp
 |p::P,w::vs,i+1,m,nd,h1,h2,hk=>by show bindL kindOf ((p,w)::P.zip vs) m x=_;unfold bindL;exact tI (i:=i) (jg.mp nd).2 (by simpa using h1) (by simpa using h2) hk
theorem tJ{kindOf:Str->Option NameKind}{x:Str}{v:Value}:∀{P:π}{vs:qag}{i:Nat}{m:qae},P.Nodup->P[i]?=some x->vs[i]?=some v->kindOf x≠some .local ->
  bindC kindOf (P.zip vs) m x=some v
 |[],_,_,_,_,h,_,_=>by simp at h
 |_::_,[],_,_,_,_,h,_=>by simp at h
 |p::P,w::vs,0,m,nd,h1,h2,hk=>by simp at h1 h2;subst h1;subst h2;show bindC kindOf ((p,w)::P.zip vs) m p=_;unfold bindC;rw[tG λv hv=>(jg.mp nd).1 (List.of_mem_zip hv).1,η hk];simp
 |p::P,w::vs,i+1,m,nd,h1,h2,hk=>by show bindC kindOf ((p,w)::P.zip vs) m x=_;unfold bindC;exact tJ (i:=i) (jg.mp nd).2 (by simpa using h1) (by simpa using h2) hk
noncomputable def start(N:π)(vs:List V):St:=vs.map some++List.replicate (N.length-vs.length) none
noncomputable def fP(CX:Fw)(P:Program)(w:World)(K:Δ)(mg:qae)(base:Heap)(N:π)(qual:Str)(scope:Scope)(f:Addr)(cd:Value)(A:Around)(outer:List Env)(s:Shared)(H:Hp)(E:XK):Cx where
 prog:=P
 w:=w
 K:=K
 mg:=mg
 base:=base
 A:=A.deeper (envOfC qual scope s.heap.objs.size f cd)
 N:=N
 s₀:=s
 H₀:=H
 env:=envOfC qual scope s.heap.objs.size f cd
 outer:=outer
 stack:=envOfC qual scope s.heap.objs.size f cd::outer
 ex:=[]
 calm:=true
 fn:=λ_=>true
 pn:=[]
 xe:=λe s'=>wpAny (model P w) (A.deeper (envOfC qual scope s.heap.objs.size f cd)) (leaving (envOfC qual scope s.heap.objs.size f cd) e) (λ_ Vy=>CX outer H s E e Vy) (λe' Vy=>CX outer H s E e' Vy) s'
def xu(h:sc.names.lookup x=some .cell):∃c,(cellsFrom n sc.names []).lookup x=some c:=by have q:=W.cellsFrom_some sc.names n [] (.inl h);exact Option.isSome_iff_exists.mp q
def DR{CX:Fw}{K:Δ}{mg:qae}{N ps:π}{scope:Scope}{cd:Value}{outer:List Env}{s s1:Shared}{H:Hp}{E:XK}{us:qag}{vs:List V}(S:aE N ps scope)(hd:A.handled=none)(e0:z9 P w K mg base A outer s H)(hl:vs.length=ps.length)(r:Vals vs us)(x:InCallC s s.heap.objs.size (bindL (envOfC qual scope s.heap.objs.size f cd).kindOf (ps.zip us) λ_=>none) (cellsFrom (s.heap.objs.size+1) scope.names []) (bindC (envOfC qual scope s.heap.objs.size f cd).kindOf (ps.zip us) λ_=>none) s1) :
  Inv (fP CX P w K mg base N qual scope f cd A outer s H E) [] (start N vs) H s1:=by
 have fO:ps.length<=N.length:=by have:=Ψ List.length S.pre;rw[P8] at this;omega
 obtain⟨h1,tk,rfl,hk⟩:=x.done;have Vz:∀b:Addr,b∉(fP CX P w K mg base N qual scope f cd A outer s H E).ex:=λb z=>absurd (show b∈([]:ο) from z) (by simp);refine⟨⟨e0.mod,S.kind,rfl,rfl,cS _,λy z c h1 h2=>?_,λy hy=>?_,λy c _ h=>?_,λ_=>hd,Around.frames_deeper e0.frames,.inr ⟨rfl,rfl⟩,λb z=>absurd z (Vz b),e0.bs,e0.F8,λb _ _=>Vz b,λb z=>absurd z (Vz b),e0.k6,e0.KZ⟩,
  rfl,e0.bare,Un.kept hk,⟨_,x.toInCall.ns,λi y v h1 h2 h3=>?_⟩,λy c h=>⟨_,x.cell y c h⟩,e0.cj.fresh (cS _),λy c h=>?_,λp hp=>absurd (show p∈([]:qaa) from hp) (by simp),e0.cj.kept hk,?_⟩
 exact name_of_addr x.apart (N5 h1) (N5 h2);have hy:scope.names.lookup y=some .cell\/scope.names.lookup y=some .free:=hy;obtain hy|hy:=hy
 exact xu hy;exact absurd rfl (S.QG _ (N5 hy));exact Qc (x.above y c (N5 h));have hi:i<vs.length:=by unfold start at h2;by_cases hi:i<vs.length;exact hi;rw[rY (by simpa using hi)] at h2;rw[BE] at h2;split at h2<;>cases h2
 have ha:vs[i]?=some v:=by
  unfold start at h2;rw[rR (by simpa using hi),hU] at h2;cases e:vs[i]? with
  |none=>rw[e] at h2;cases h2
  |some a=>rw[e] at h2;cases h2;rfl
 obtain⟨u,hu,rv⟩:=r.get ha;have hp:ps[i]?=some y:=by rw[<- S.pre,ZJ (by omega)];exact h1
 have ndP:ps.Nodup:=by rw[<- S.pre];exact S.nd.sublist (List.take_sublist _ _)
 refine⟨u,rv,?_⟩;rcases S.par y (eS hp) with k|k
 exact .inl ⟨k,tI ndP hp hu k⟩;obtain⟨c,e⟩:=xu (n:=s.heap.objs.size+1) k;refine .inr ⟨.inl k,c,e,?_⟩;have q:=x.cell y c e;rw[tJ ndP hp hu (by show scope.names.lookup y≠_;rw[k];decide)] at q;exact q;exact e0.cj.fresh (Qc (x.above y c (N5 h)));unfold start;show _=N.length;rw[jf,cJ,P0];omega
theorem Oi{CX:Fw}{K:Δ}{mg:qae}{k:Nat}{name:Str}{params:Arguments}{body:qaq}{scope:Scope}{dV kV doc pm bB ct oc:Value}{an od:qar}{DS:Array (Option Value)}{N ps:π}{sp:Sp}(lk:K.lookup f=some ⟨oc,od,.func (W.fnOf name qual params body scope dV kV doc pm an bB ct),DS⟩)(fH:W.codeIn K bB qual=true)(S:aE N ps scope)(len:∀vs H Q E,sp vs H Q E->vs.length=ps.length)(dF:∀(A:Around) (outer:List Env) (s:Shared) (H:Hp) (vs:List V) (Q:VK) (E:XK),bF k (A.deeper (envOfC qual scope s.heap.objs.size f bB))->sp vs H Q E ->
    ∃t,hY (fP CX P w K mg base N qual scope f bB A outer s H E) body t/\t {nx:=λ_ H'=>Q .aQ H',rt:=Q} (start N vs) H) :
  cq P w K mg base CX (k+1) f (W.fnOf name qual params body scope dV kV doc pm an bB ct) ps sp:=by
 refine⟨len,λA outer s H args us vs Q E hr e0 hb r Kp=>?_⟩;have hl:=len _ _ _ _ Kp;have KX:K.In s.heap:=e0.mod.Uo.keeps λb o e=>(e0.bs b o e).1;have lim:s.heap.NoLimit:=e0.mod.nolimit.keeps λb o e=>(e0.bs b o e).1;have VB:∀y∈ps.zip us,scope.names.lookup y.1=some .local\/(scope.names.lookup y.1=some .cell/\((cellsFrom (s.heap.objs.size+1) scope.names []).lookup y.1).isSome=true):=λ⟨n,v⟩ hy=>by
  rcases S.par n (List.of_mem_zip hy).1 with q|q
  exact .inl q;exact .inr ⟨q,W.cellsFrom_some _ _ _ (.inl q)⟩
 refine codeAny_call_function hr.depth (KX _ _ lk) rfl S.co S.gen rfl (W.codeRec_of KX fH) (hb _ _ _ _ ?_);refine wpAny_newFunctionEnv_cells S.kind VB λenv he s1 x=>?_;subst he;refine⟨lim.keeps x.toInCall.keep,codeAny_func ?_⟩;obtain⟨t,ht,hq⟩:=dF A outer s H vs Q E (hr.deeper _) Kp;have I:Inv (fP CX P w K mg base N qual scope f bB A outer s H E) [] (start N vs) H s1:=DR S hr.hd e0 hl r x;refine Λ (ht [] s1 (start N vs) H _ I hq) (λfl s' hs=>?_) λe s' hs=>hs;have fin:∀{σ':St}{H':Hp}{v:V}{u:Value},Inv (fP CX P w K mg base N qual scope f bB A outer s H E) [] σ' H' s'->RelV v u->Q v H'->CE outer P w H s Q u s' :=
  λ{σ' H' v u} J rv q=>⟨v,H',J.os,J.bare,J.base,J.cj,rv,q⟩
 cases fl with
 |ret u=>obtain⟨v,σ',H',J,rv,q⟩:=hs;exact fin J rv q
 |next=>obtain⟨σ',H',J,q⟩:=hs;exact fin (v:=V.aQ) (u:=Value.none) J rfl q
 |brk=>obtain⟨_,_,_,q⟩:=hs;exact False.elim q
 |cont=>obtain⟨_,_,_,q⟩:=hs;exact False.elim q
section
variable{X:Cx}{pos:Pos}{es:qap}{t:TA}{id T:String}{r:List V->Hp->VK->Prop}
def tCB(r:List V->Hp->VK->Prop)(t:TA):TE:=λσ H Q=>t σ H λvs H1=>r vs H1 Q
def pH(hc:eE X (.builtin id) r)(hg:Gl X x)(hm:X.mg x=none)(hv:bootBuiltins x=some (.builtin id))(ha:PA X (e::es) t)(hn:x≠"__name__":=by decide)(kj:gq x:=by decide)(he:starEach (e::es) X.env=(false,eval e X.env)::starEach es X.env:=by rfl)(fO:(backTo pos (starEach es X.env)).any (·.1)=false:=by rfl):PE X (.Call (.Name x p) (e::es) [] pos) (tCB r t):=by intro γ s σ H Q I h;refine aam (jh I hg hm hv ?_ hn kj);exact PyProof.Rows.callWith_builtin1 (b_ (ha pos γ s σ H _ I h) λus s1 ⟨vs,H1,I1,r1,q1⟩=>hc γ s1 σ H1 vs us Q I1 r1 q1) he fO
def DT(hc:eE X (.type T) r)(hg:Gl X x)(hm:X.mg x=none)(hv:bootBuiltins x=some (.type T))(ha:PA X (e::es) t)(hn:x≠"__name__":=by decide)(kj:gq x:=by decide)(he:starEach (e::es) X.env=(false,eval e X.env)::starEach es X.env:=by rfl)(fO:(backTo pos (starEach es X.env)).any (·.1)=false:=by rfl):PE X (.Call (.Name x p) (e::es) [] pos) (tCB r t):=by intro γ s σ H Q I h;refine aam (jh I hg hm hv ?_ hn kj);exact T' (b_ (ha pos γ s σ H _ I h) λus s1 ⟨vs,H1,I1,r1,q1⟩=>hc γ s1 σ H1 vs us Q I1 r1 q1) he fO
end
end L2
variable{X:L2.Cx}{K:Δ}{H H':L2.Hp}{σ:L2.St}{v:L2.V}{γ:qaa}{ps:π}{E Q:qad}{mg:qae}{es elts:qap}{fp Ox:ο}{ta te:L2.TE}{sp:L2.Sp}{us:qag}{ks:List L2.Key}{is:qao}{a8:List (List L2.Key×L2.V)}
abbrev qac:=List (PySem.Str×L2.V)
abbrev Ω:=List L2.V
namespace HT
open PySem PyProof.Rows
section
open PySem.SeqAt
open PySem.AutoSeq1 (wpAny_loadPart')
open PySem.MeetsSeq PySem.MeetsSeq2 PySem.MeetsSeq3
end
section
variable{s:Shared}
def Ld{t b:Addr}{vs ws:qag}(ht:IsTup s.heap t vs.toArray)(hb:IsTup s.heap b ws.toArray)(hv:vs≠[])(h1:ws=[]->Q (.ref t) s)(h2:ws≠[]->Q (.ref s.heap.objs.size) {s with heap:=s.heap.push {cls:=.type "tuple",data:=.seq (vs++ws).toArray} })(hsz:vs.length+ws.length<=sizeLine):wpAny (model prog w) A (binaryOp .Add (.ref t) (.ref b)) Q E s:=by
 obtain⟨⟨cls,dd,data,sl⟩,ho,hc,n,hd⟩:=id ht;obtain⟨⟨VF,Ur,data2,Us⟩,Fx,Fy,n2,hd2⟩:=id hb;simp only at hc hd Fy hd2;subst hc hd Fy hd2;have e:vs.toArray++ws.toArray=(vs++ws).toArray:=by simp
 by_cases hw:ws=[];exact concat_meets ⟨_,ho,rfl⟩ ⟨_,Fx,rfl⟩ noFill_tuple_add seq_tuple_add ZO ZM (ZL _ _)
  (tuple_addW1 t b vs.toArray ws.toArray n n2 dd Ur sl Us (by simpa using hv) (by simp[hw])) ⟨ho,Fx,h1 hw⟩
 refine concat_meets ⟨_,ho,rfl⟩ ⟨_,Fx,rfl⟩ noFill_tuple_add seq_tuple_add ZO ZM (ZL _ _)
  (tuple_addW2 t b vs.toArray ws.toArray n n2 dd Ur sl Us (by simpa using hv) (by simpa using hw) (by rw[jP,jP];exact hsz)) ⟨ho,Fx,?_⟩
 rw[e];exact h2 hw
noncomputable def c9(n d:Nat):Option Int->Nat
 |none=>d
 |some v=>if v<0 then (v+(n:Int)).toNat else min v.toNat n
def xv(n d:Nat):c9 n d none=d:=rfl
def BP(n d k:Nat):c9 n d (some (k:Int))=min k n:=by show (if (k:Int)<0 then ((k:Int)+(n:Int)).toNat else min (k:Int).toNat n)=min k n;rw[η (by omega),Dz]
def QH(n d:Nat)(hd:d<=n)(o:Option Int):c9 n d o<=n:=by
 cases o with
 |none=>exact hd
 |some v=>show (if v<0 then (v+(n:Int)).toNat else min v.toNat n)<=n;by_cases hv:v<0;rw[ε hv];omega;rw[η hv];exact Nat.min_le_right _ _
def BQ(v:Int)(n d:Nat):(if v<0 then max (v+(n:Int)) 0 else min v (n:Int))=((c9 n d (some v):Nat):Int):=by show (if v<0 then max (v+(n:Int)) 0 else min v (n:Int))=(((if v<0 then (v+(n:Int)).toNat else min v.toNat n):Nat):Int);by_cases hv:v<0;simp only[ε hv];omega;simp only[η hv];omega
def Aa(lo hi:Option Int)(n:Nat):Builtin.Slice.sliceAdjust lo hi 1 (n:Int)=(((c9 n 0 lo:Nat):Int),((c9 n n hi:Nat):Int)):=by
 have h1:¬ ((1:Int)<0):=by omega
 unfold Builtin.Slice.sliceAdjust;simp only[h1,aad];refine Prod.ext ?_ ?_;cases lo with
 |none=>rfl
 |some v=>exact BQ v n 0
 cases hi with
 |none=>rfl
 |some v=>exact BQ v n n
def Ab(i j:Nat):Builtin.Slice.slicePlaces (i:Int) (j:Int) 1=j-i:=by
 unfold Builtin.Slice.slicePlaces;have h1:(1:Int) > 0:=by omega
 simp only[h1,aal,Int.ediv_one];split<;>omega
def pI{v:Value}{o:Option Int}{Q:Option Int->Shared->Prop}(p:IsPart v o)(h:Q o s):wpAny (model prog w) A (Builtin.Slice.slicePartIndex v) Q E s:=by
 cases p with
 |none=>exact slicePart_none h
 |int i t=>exact slicePart_int h
def h7{sl:Addr}{vl vu:Value}{lo hi:Option Int}{Q:Int×Int×Nat->Shared->Prop}(hs:s.heap.IsSliceOf sl vl vu .none)(pl:IsPart vl lo)(pu:IsPart vu hi)(h:Q (((c9 n 0 lo:Nat):Int),1,c9 n n hi-c9 n 0 lo) s):wpAny (model prog w) A (Builtin.Slice.sliceApplied (.ref sl) (pure (n:Int))) Q E s:=by obtain⟨os,QI,YU,VH⟩:=id hs;unfold Builtin.Slice.sliceApplied Builtin.Slice.sliceFields;refine δ (δ (υ QI VH (x:=vl) rfl (δ (υ QI VH (x:=vu) rfl (δ (υ QI VH (x:=.none) rfl (ζ ?_)))))));refine δ (slicePart_none ?_);show wpAny _ _ (if ((1:Int)==0)=true then _ else _) _ _ s;rw[η (by decide)];refine δ (pI pl (δ (pI pu (δ (ζ ?_)))));show wpAny _ _ (match Builtin.Slice.sliceAdjust lo hi 1 (n:Int) with|(lo,hi)=>pure (lo,(1:Int),Builtin.Slice.slicePlaces lo hi 1)) _ _ s;rw[Aa lo hi n];show wpAny _ _ (pure (((c9 n 0 lo:Nat):Int),(1:Int),Builtin.Slice.slicePlaces ((c9 n 0 lo:Nat):Int) ((c9 n n hi:Nat):Int) 1)) _ _ s;rw[Ab];exact ζ h
def Gn(xs:Array Value)(i k:Nat):((List.range k).filterMap λ(m:Nat)=>xs[((i:Int)+(m:Int) * 1).toNat]?).toArray=((xs.toList.drop i).take k).toArray:=by
 have e:(λ(m:Nat)=>xs[((i:Int)+(m:Int) * 1).toNat]?)=λm=>xs[i+m]?:=by
  funext m;have:((i:Int)+(m:Int) * 1).toNat=i+m:=by omega
  rw[this]
 rw[e];have:=pick_run xs i k;rw[List.filterMap_map] at this;have e2:((λx=>xs[x]?) ∘ λx=>i+x)=λm=>xs[i+m]?:=rfl;rw[e2] at this;rw[this]
def lg{t sl:Addr}{items:Array Value}{vl vu:Value}{lo hi:Option Int}(ht:IsTup s.heap t items)(hs:s.heap.IsSliceOf sl vl vu .none)(pl:IsPart vl lo)(pu:IsPart vu hi)(hw:¬ (c9 items.size 0 lo=0/\c9 items.size items.size hi=items.size))(h:Q (.ref s.heap.objs.size) {s with heap:=s.heap.push {cls:=.type "tuple",data:=.seq ((items.toList.drop (c9 items.size 0 lo)).take (c9 items.size items.size hi-c9 items.size 0 lo)).toArray} })(hsz:items.size<=sizeLine):wpAny (model prog w) A (getItem (.ref t) (.ref sl)) Q E s:=by
 have BU:sizeOk (.seq ((items.toList.drop (c9 items.size 0 lo)).take (c9 items.size items.size hi-c9 items.size 0 lo)).toArray):=by show ((items.toList.drop (c9 items.size 0 lo)).take (c9 items.size items.size hi-c9 items.size 0 lo)).toArray.size<=sizeLine;rw[jP,P8,List.length_drop,N4];omega
 have hj:c9 items.size items.size hi<=items.size:=QH _ _ (cS _) hi;obtain⟨os,QI,YU,VH⟩:=id hs;have hTs:s.TypeIs (.ref sl) "slice":=⟨os,QI,YU⟩;unfold getItem
 try with_reducible refine v9 ?_
 first|refine δ (ζ ?_)|skip
 refine δ (wpAny_sequenceKey ht.typeIs (by decide) ?_);refine δ (χ (name:=Str.ofString "__getitem__") ht.typeIs T_
  (ω T_ ht.typeIs entry_tuple_getitem ?_ (args_tuple_getitem _ _)))
 show wpAny _ _ (Builtin.Tuple.tupleItemsOf (.ref t) >>= _) _ _ s;refine δ (tupleItemsOf_ ht ?_);refine δ (wpAny_typeOf hTs ?_);rw[ε (by decide)];refine δ (h7 hs pl pu ?_);have VJ:¬ ((((c9 items.size 0 lo:Nat):Int)==0 && (1:Int)==1 && (c9 items.size items.size hi-c9 items.size 0 lo)==items.size)=true):=by intro q;rw[oR,oR] at q;have q1:((c9 items.size 0 lo:Nat):Int)=0:=eq_of_beq q.1.1;have q2:c9 items.size items.size hi-c9 items.size 0 lo=items.size:=eq_of_beq q.2;exact hw ⟨by omega,by omega⟩
 show wpAny _ _ (if (((c9 items.size 0 lo:Nat):Int)==0 && (1:Int)==1 && (c9 items.size items.size hi-c9 items.size 0 lo)==items.size)=true then _ else _) _ _ s;rw[η VJ,Gn]
 first
  |exact δ (m:=Builtin.Tuple.tupleExact _) (Φ (ζ ⟨_,rfl,ζ h⟩) BU)
  |exact δ (m:=Builtin.Tuple.tupleExact _) (Φ (δ (ζ (ζ ⟨_,rfl,ζ h⟩))) BU)
  |exact δ (δ (m:=Builtin.Tuple.tupleExact _) (Φ (ζ (ζ ⟨_,rfl,ζ h⟩)) BU))
  |exact δ (δ (m:=Builtin.Tuple.tupleExact _) (Φ (ζ ⟨_,rfl,ζ h⟩) BU))
end
end HT
variable{vs:Ω}
namespace L2
open PySem PySem.Spec PyProof.Rows
abbrev TO:=St->Hp->(Option Int->Hp->Prop)->Prop
def PO(X:Cx)(e:Option Expr)(t:TO):Prop :=
 ∀(γ:qaa)(s:Shared)(σ:St)(H:Hp)(Q:Option Int->Hp->Prop),Inv X γ σ H s->t σ H Q ->
  wpAny (model X.prog X.w) X.A (evalPart e X.env) (λu s'=>∃o H',Inv X γ σ H' s'/\IsPart u o/\Q o H') X.xe s
def Le:TO:=λ_ H Q=>Q none H
def VL(t:TE):TO:=λσ H Q=>t σ H λx H1=>∃i,x=.int i/\Q (some i) H1
section
variable{tl th:TO}{pos:Pos}
def Lf:PO X none Le:=by intro γ s σ H Q I h;rw[evalPart_none];exact ζ ⟨none,H,I,.none,h⟩
def Lg(h:PE X e te):PO X (some e) (VL te):=by intro γ s σ H Q I hw;rw[evalPart_some];refine b_ (h γ s σ H _ I hw) λu s1 ⟨x,H1,I1,r1,q1⟩=>?_;obtain⟨i,rfl,q⟩:=q1;obtain⟨t,rfl⟩:=r1;exact⟨some i,H1,I1,.int i t,q⟩
def Fz(X:Cx)(r:V->Option Int->Option Int->Hp->VK->Prop):Prop :=
 ∀(γ:qaa)(s:Shared)(σ:St)(H:Hp)(x:V)(v vl vu:Value)(lo hi:Option Int)(sl:Addr)(Q:VK),Inv X γ σ H s->RelV x v->s.heap.IsSliceOf sl vl vu .none->IsPart vl lo->IsPart vu hi->r x lo hi H Q ->
  ∃T id,typeLookup (.type T) "__getitem__"=pure (some (.builtin id))/\s.TypeIs v T/\wpAny (model X.prog X.w) X.A (getItem v (.ref sl)) (EP X γ σ Q) X.xe s
def Fz.or{r r':V->Option Int->Option Int->Hp->VK->Prop}(h:Fz X r)(h':Fz X r'):Fz X (λx lo hi H Q=>r x lo hi H Q\/r' x lo hi H Q):=by
 intro γ s σ H x v vl vu lo hi sl Q I rx hs pl pu q;obtain q|q:=q
 exact h γ s σ H x v vl vu lo hi sl Q I rx hs pl pu q;exact h' γ s σ H x v vl vu lo hi sl Q I rx hs pl pu q
def tSl(r:V->Option Int->Option Int->Hp->VK->Prop)(te:TE)(tl th:TO):TE:=λσ H Q=>te σ H λx H1=>tl σ H1 λl H2=>th σ H2 λu H3=>r x l u H3 Q
def xw{r:V->Option Int->Option Int->Hp->VK->Prop}(hr:Fz X r)(he:PE X e te)(hl:PO X lo tl)(hu:PO X hi th):PE X (.Subscript e (.Slice lo hi none p2) pos) (tSl r te tl th):=by intro γ s σ H Q I h;refine Subscript_ (b_ (he γ s σ H _ I h) λv s1 ⟨x,H1,I1,r1,q1⟩=>?_);refine wpAny_Slice (b_ (hl γ s1 σ H1 _ I1 q1) λvl s2 ⟨l,H2,I2,pl,q2⟩=>b_ (hu γ s2 σ H2 _ I2 q2) λvu s3 ⟨u,H3,I3,pu,q3⟩=>?_);rw[evalPart_none];refine ζ ?_;have I4:Inv X γ σ H3 {s3 with heap:=s3.heap.push {cls:=.type "slice",data:=.fields #[vl,vu,.none]} }:=I3.kept (t':=s3.toks) λb ob q=>fN _ q;obtain⟨T,id,hT,ht,hg⟩:=hr γ {s3 with heap:=s3.heap.push {cls:=.type "slice",data:=.fields #[vl,vu,.none]} } σ H3 x v vl vu l u s3.heap.objs.size Q I4 r1 (Heap.IsSliceOf.new ..) pl pu q3;show wpAny (model X.prog X.w) X.A (subscriptTail e (.Slice lo hi none p2) v (.ref s3.heap.objs.size)) (EP X γ σ Q) X.xe {s3 with heap:=s3.heap.push {cls:=.type "slice",data:=.fields #[vl,vu,.none]} };exact tail_any (ops:=[.ref s3.heap.objs.size,v]) ht hT hg (by with_unfolding_all rfl)
noncomputable def uH(xs:Ω)(lo hi:Option Int):Ω:=(xs.drop (HT.c9 xs.length 0 lo)).take (HT.c9 xs.length xs.length hi-HT.c9 xs.length 0 lo)
def nN(xs:Ω)(lo hi:Option Int):(uH xs lo hi).length<=xs.length:=by unfold uH;rw[P8,List.length_drop];omega
def VM(K:Δ):V->Option Int->Option Int->Hp->VK->Prop:=λx lo hi H Q=>∃a xs,x=.ref a/\dz K H a xs /\
 ¬ (HT.c9 xs.length 0 lo=0/\HT.c9 xs.length xs.length hi=xs.length)/\∀p,H p=none->Q (.ref p) (upd H p (.tup (uH xs lo hi)))
def Gp:Fz X (VM X.K):=by
 intro γ s σ H x v vl vu lo hi sl Q I rx hs pl pu h;obtain⟨a,xs,rfl,hx,hw,q⟩:=h;cases rx;obtain⟨aP,r,ht,hz⟩:=I.tuple hx;have hlen:aP.toArray.size=xs.length:=by rw[jP];exact r.length.symm
 refine⟨"tuple",_,T_.lookup,ht.typeIs,?_⟩;refine HT.lg ht hs pl pu (by rw[hlen];exact hw) ?_ (by rw[hlen];exact hz);rw[hlen];refine⟨.ref s.heap.objs.size,_,I.laid (t':=s.toks) (o:=.tup (uH xs lo hi)) (λb ob q=>fN _ q) (cS _) ?_,rfl,q _ (I.cj.fresh (cS _))⟩;exact⟨fM (nN xs lo hi) hz,_,(r.drop (HT.c9 xs.length 0 lo)).take (HT.c9 xs.length xs.length hi-HT.c9 xs.length 0 lo),IsTup.new _ _⟩
def Vals.oU{xs:Ω}(r:Vals xs us):us=[]↔xs=[]:=by
 cases r with
 |_=>simp
end
noncomputable def xx(n:Nat)(i:Int):Option Nat:=if 0<=i then (if i<n then some i.toNat else none) else if -(n:Int)<=i then some (i+n).toNat else none
noncomputable def km{α:Type}(xs:List α)(i:Int):Option α:=(xx xs.length i).bind λj=>xs[j]?
def BV{i:Int}(h:xx n i=some j):seqIndex? i n=some j/\j<n/\-(n:Int)<=i/\i<n:=by unfold xx at h;by_cases h0:0<=i;rw[ε h0] at h;by_cases h1:i<n;rw[ε h1] at h;have e:i.toNat=j:=Option.some.inj h;exact⟨by rw[seqIndex_of h0 h1,e],by omega,by omega,h1⟩;rw[η h1] at h;cases h;rw[η h0] at h;by_cases h1 : -(n:Int)<=i;rw[ε h1] at h;have e:(i+n).toNat=j:=Option.some.inj h;exact⟨by rw[seqIndex_neg (by omega) h1,e],by omega,h1,by omega⟩;rw[η h1] at h;cases h
def uI{xs:List α}{i:Int}{v:α}(h:km xs i=some v):∃j,seqIndex? i xs.length=some j/\xs[j]?=some v/\j<xs.length/\-(xs.length:Int)<=i/\i<xs.length:=by
 unfold km at h;cases e:xx xs.length i with
 |none=>rw[e] at h;cases h
 |some j=>rw[e] at h;obtain⟨h1,h2,h3,h4⟩:=BV e;exact⟨j,h1,h,h2,h3,h4⟩
def ak{xs:List α}{v:α}(h:xs[j]?=some v):km xs (j:Int)=some v:=by
 have hj:j<xs.length:=(fQ.mp h).1;have e:xx xs.length (j:Int)=some j:=by unfold xx;rw[ε (by omega),ε (by omega)];simp
 unfold km;rw[e];exact h
theorem aaB{a:α}{l:List α}:km (a::l) 0=some a:=ak (j:=0) rfl
theorem aaC{a b:α}{l:List α}:km (a::b::l) 1=some b:=ak (j:=1) rfl
theorem aaD{a b c:α}{l:List α}:km (a::b::c::l) 2=some c:=ak (j:=2) rfl
theorem aaE{a b c d:α}{l:List α}:km (a::b::c::d::l) 3=some d:=ak (j:=3) rfl
theorem aaF{a b c d e:α}{l:List α}:km (a::b::c::d::e::l) 4=some e:=ak (j:=4) rfl
def lh(xs:List α)(v:α):km (xs++[v]) (-1)=some v:=by
 have hl:(xs++[v]).length=xs.length+1:=by simp
 have e:xx (xs++[v]).length (-1)=some xs.length:=by
  unfold xx;rw[hl,η (by decide),ε (by omega)]
  congr 1
  omega
 unfold km;rw[e];show (xs++[v])[xs.length]?=some v;simp
def uJ(b:Expr):Prop:=∀o i,subscripted b false o i=operate [o,i] (getItem o i)
def Lh(X:Cx)(r:R2):Prop :=
 ∀(value slice:Expr)(γ:qaa)(s:Shared)(σ:St)(H:Hp)(x y:V)(v u:Value)(Q:VK),Inv X γ σ H s->RelV x v->RelV y u->r x y H Q ->
  subscripted slice false v u=operate [v,u] (getItem v u)->wpAny (model X.prog X.w) X.A (subscriptTail value slice v u) (EP X γ σ Q) X.xe s
def Li(X:Cx)(id:String)(r:V->Ω->Hp->VK->Prop):Prop :=
 ∀(γ:qaa)(s:Shared)(σ:St)(H:Hp)(x:V)(xs:Ω)(v:Value)(us:qag)(Q:VK),Inv X γ σ H s->RelV x v->Vals xs us->r x xs H Q ->
  wpAny (model X.prog X.w) X.A (call (.builtin id) (v::us)) (EP X γ σ Q) X.xe s
section
variable{a:Expr}{tb:TE}{pos:Pos}
def Lh.or{r r':R2}(h:Lh X r)(h':Lh X r'):Lh X (λx y H Q=>r x y H Q\/r' x y H Q):=by
 intro value slice γ s σ H x y v u Q I rx ry q hs;obtain q|q:=q
 exact h value slice γ s σ H x y v u Q I rx ry q hs;exact h' value slice γ s σ H x y v u Q I rx ry q hs
def Oj{r:R2}(hr:Lh X r)(ha:PE X a ta)(hb:PE X b tb)(hs:uJ b):PE X (.Subscript a b pos) (Vm r ta tb):=by intro γ s σ H Q I h;exact Subscript_ (Qx ha hb I h λv u s2 x y H2 I2 rx ry q=>hr a b γ s2 σ H2 x y v u Q I2 rx ry q (hs _ _))
noncomputable def VN(K:Δ):R2:=λx y H Q=>∃p xs i v,x=.ref p/\y=.int i/\gw K H p xs/\km xs i=some v/\Q v H
noncomputable def VQ(K:Δ):R2:=λx y H Q=>∃p xs i v,x=.ref p/\y=.int i/\dz K H p xs/\km xs i=some v/\Q v H
noncomputable def VU:R2:=λx y H Q=>∃z i c,x=.str z/\y=.int i/\z.length<=sizeLine/\km z.cps.toList i=some c/\Q (.str ⟨#[c]⟩) H
def BW:Lh X (VN X.K):=by
 intro value slice γ s σ H x y v u Q I rx ry h hs;obtain⟨p,xs,i,z,rfl,rfl,hq,he,q⟩:=h;cases rx;obtain⟨t,rfl⟩:=ry;obtain⟨aP,r,pl,hz⟩:=I.list hq;obtain⟨j,h1,h2,h3,h4,h5⟩:=uI he;obtain⟨w,ew,rw'⟩:=r.get h2;have hl:=r.length;have hn:=mK;have fin:EP X γ σ Q w s:=⟨z,H,I,rw',q⟩;by_cases h0:0<=i;have hj:i.toNat=j:=by rw[seqIndex_of h0 h5] at h1;exact Option.some.inj h1
 exact item_listR pl.isList h0 (by omega) (by rw[hj];simpa using ew) fin hs;have hj:(i+(aP.toArray.size:Int)).toNat=j:=by rw[seqIndex_neg (by omega) h4] at h1;rw[jP,<- hl];exact Option.some.inj h1
 exact subscriptTail_builtinR (x:=w) pl.isList.typeIs slot_list_getitem.lookup
  (wpAny_getItem_list_neg (Q:=λr s'=>r=w/\EP X γ σ Q r s') pl.isList (by omega) (by rw[jP]<;>omega) (by omega) (by rw[hj];simpa using ew) ⟨rfl,fin⟩) hs
def QJ:Lh X (VQ X.K):=by
 intro value slice γ s σ H x y v u Q I rx ry h hs;obtain⟨p,xs,i,z,rfl,rfl,hq,he,q⟩:=h;cases rx;obtain⟨t,rfl⟩:=ry;obtain⟨aP,r,pl,hz⟩:=I.tuple hq;obtain⟨j,h1,h2,h3,h4,h5⟩:=uI he;obtain⟨w,ew,rw'⟩:=r.get h2;have hl:=r.length;have hn:=mK;have fin:EP X γ σ Q w s:=⟨z,H,I,rw',q⟩;exact subscriptTail_builtinR (x:=w) pl.typeIs slot_tuple_getitem.lookup
  (getItem_tuple (j:=j) (Q:=λr s'=>r=w/\EP X γ σ Q r s') pl (by omega) (by omega) (by rw[jP,<- hl];exact h1) (by simpa using ew) ⟨rfl,fin⟩) hs
def QK:Lh X VU:=by
 intro value slice γ s σ H x y v u Q I rx ry h hs;obtain⟨z,i,c,rfl,rfl,hz,he,q⟩:=h;obtain⟨t,rfl⟩:=rx;obtain⟨t',rfl⟩:=ry;obtain⟨j,h1,h2,h3,h4,h5⟩:=uI he;have hl:z.cps.toList.length=z.length:=by simp[Str.length]
 rw[hl] at h1 h4 h5;have hn:=mK;exact tail_any (typeIs_str s z t) slot_str_getitem.lookup (getItem_str (c:=c) (by have e1:decide (i < -(2 ^ 63:Int))=false:=ι (by omega);have e2:decide (i ≥ 2 ^ 63)=false:=ι (by omega);rw[e1,e2,Bool.or_false]) (by rw[h1];simpa using h2) ⟨.str ⟨#[c]⟩,H,I.tok _,⟨_,rfl⟩,q⟩) hs
noncomputable def rIx(K:Δ):R2:=λx y H Q=>VN K x y H Q\/VQ K x y H Q\/VU x y H Q
def QL:Lh X (rIx X.K):=BW.or (QJ.or QK)
def Ac(aP:qag)(n j:Nat)(u:Value):Obj.mapSeq (·.setIfInBounds j u) {cls:=.type "list",data:=.seq aP.toArray n}={cls:=.type "list",data:=.seq (aP.set j u).toArray n}:=by simp[Obj.mapSeq]
def Inv.lst{s:Shared}{p:Addr}{xs:Ω}(I:Inv X γ σ H s)(h:H p=some (.lst xs)) :
  ∃(aP:qag)(n:Nat),Vals xs aP/\s.heap.get? p=some {cls:=.type "list",data:=.seq aP.toArray n}/\xs.length<=sizeLine:=by
 obtain⟨z,aP,n,r,e⟩:=I.cj p _ h;exact⟨aP,n,r,e,z⟩
def Inv.QM{s:Shared}{p:Addr}{xs ys:Ω}{aP its':qag}{n':Nat}{f:Obj->Obj}(I:Inv X γ σ H s)(h:H p=some (.lst xs))(ho:s.heap.get? p=some {cls:=.type "list",data:=.seq aP.toArray n})(hf:f {cls:=.type "list",data:=.seq aP.toArray n}={cls:=.type "list",data:=.seq its'.toArray n'})(r:Vals ys its')(hz:ys.length<=sizeLine)(t:Nat) :
  Inv X γ σ (upd H p (.lst ys)) {s with heap:=s.heap.update p f,toks:=t}:=by
 have e:(s.heap.update p f).get? p=some {cls:=.type "list",data:=.seq its'.toArray n'}:=by rw[Heap.get?_update_self f ho (by rw[hf]<;>rfl),hf]
 refine I.write (x:=p) (e:=p) (by rw[h];trivial) (.inl rfl) (λb u hb q=>(Heap.get?_update_other _ _ (Ne.symm hb)).trans q) ⟨_,e⟩ ?_;exact⟨hz,its',n',r,e⟩
def VY:V->V->V->Hp->(Hp->Prop)->Prop:=λo i v H Q=>∃p xs k j,o=.ref p/\i=.int k/\H p=some (.lst xs)/\xx xs.length k=some j/\Q (upd H p (.lst (xs.set j v)))
def set_list:Vd X VY:=by
 intro γ s σ H o i v ov iv u Q I ro ri rv h;obtain⟨p,xs,k,j,rfl,rfl,hp,hj,q⟩:=h;cases ro;obtain⟨t,rfl⟩:=ri;obtain⟨aP,n,r,ho,hz⟩:=I.lst hp;obtain⟨h1,h2,h3,h4⟩:=BV hj;have hl:=r.length;have hn:=mK;have I':Inv X γ σ (upd H p (.lst (xs.set j v))) {s with heap:=s.heap.update p (Obj.mapSeq (·.setIfInBounds j u))} :=
  I.QM hp ho (Ac aP n j u) (r.set rv j) (by rw[Fq];exact hz) s.toks
 by_cases h0:0<=k;have hk:k.toNat=j:=by rw[seqIndex_of h0 h4] at h1;exact Option.some.inj h1
 exact W.ki_setAt ho h0 (by omega) (by rw[jP,<- hl];exact h4) (by rw[hk];exact⟨_,I',q⟩);have hk:(k+(aP.toArray.size:Int)).toNat=j:=by rw[seqIndex_neg (by omega) h3] at h1;rw[jP,<- hl];exact Option.some.inj h1
 exact W.ki_setBack ho (by omega) (by rw[jP,<- hl];exact h3) (by omega) (by rw[hk];exact⟨_,I',q⟩)
def uK(lo hi:Option Int)(n:Nat):(sliceBounds lo hi none n).1=((HT.c9 n 0 lo:Nat):Int)/\(sliceBounds lo hi none n).2.1=((HT.c9 n n hi:Nat):Int)/\(sliceBounds lo hi none n).2.2=1:=by
 refine⟨?_,?_,rfl⟩;cases lo with
 |none=>simp[sliceBounds,HT.c9]
 |some i=>simp only[sliceBounds,HT.c9,Option.getD_none,show (1:Int) > 0 by decide,aal];by_cases h:i<0;simp only[h,aal]<;>omega;simp only[h,aad]<;>omega
 cases hi with
 |none=>simp[sliceBounds,HT.c9]
 |some i=>simp only[sliceBounds,HT.c9,Option.getD_none,show (1:Int) > 0 by decide,aal];by_cases h:i<0;simp only[h,aal]<;>omega;simp only[h,aad]<;>omega
def sf(aP:qag)(lo hi:Option Int):slicePick aP.toArray lo hi none=((aP.drop (HT.c9 aP.length 0 lo)).take (HT.c9 aP.length aP.length hi-HT.c9 aP.length 0 lo)).toArray:=by obtain⟨h1,h2,h3⟩:=uK lo hi aP.toArray.size;unfold slicePick;rw[h1,h2,h3];simp only[sliceRange_one,pick_run,jP]<;>rfl
def VZ(K:Δ):V->Option Int->Option Int->Hp->VK->Prop:=λx lo hi H Q=>∃a xs,x=.ref a/\gw K H a xs/\∀p,H p=none->Q (.ref p) (upd H p (.lst (uH xs lo hi)))
def Lj:Fz X (VZ X.K):=by intro γ s σ H x v vl vu lo hi sl Q I rx hs pl pu h;obtain⟨a,xs,rfl,hx,q⟩:=h;cases rx;obtain⟨aP,r,ht,hz⟩:=I.list hx;have hlen:=r.length;refine⟨"list",_,slot_list_getitem.lookup,ht.isList.typeIs,?_⟩;refine wpAny_getItem_list_slice ht.isList hs pl pu .none (by simp) ?_ (by rw[jP]<;>omega);rw[sf,<- hlen];refine⟨.ref s.heap.objs.size,_,I.laid (t':=s.toks) (o:=.lst (uH xs lo hi)) (λb ob q=>fN _ q) (cS _) ?_,rfl,q _ (I.cj.fresh (cS _))⟩;exact⟨fM (nN xs lo hi) hz,_,0,(r.drop (HT.c9 xs.length 0 lo)).take (HT.c9 xs.length xs.length hi-HT.c9 xs.length 0 lo),k4 _ rfl⟩
noncomputable def jj:V->Bool
 |.aQ=>true
 |.bl _=>true
 |.int _=>true
 |.str _=>true
 |_=>false
noncomputable def Kq:V->V->Bool
 |.aQ,.aQ=>true
 |.bl a,.bl b=>a==b
 |.bl a,.int b=>(if a then 1 else 0)==b
 |.int a,.bl b=>a==(if b then 1 else 0)
 |.int a,.int b=>a==b
 |.str a,.str b=>a==b
 |_,_=>false
def QN{s:Shared}{y x:V}{v:Value}(ry:RelV y u)(rx:RelV x v)(fy:jj y=true)(fx:jj x=true):SeqAt.EqAt A s u v (Kq y x):=by
 cases y with
 |aQ=>
  cases ry;cases x with
  |aQ=>cases rx;exact SeqAt.EqAt.same _
  |bl b=>cases rx;exact SeqAt.EqAt.none_bool b
  |int b=>obtain⟨t,rfl⟩:=rx;exact SeqAt.EqAt.none_int b t
  |str b=>obtain⟨t,rfl⟩:=rx;exact SeqAt.EqAt.none_str b t
  |_=>exact absurd (show false=true from fx) gZ
 |bl a=>
  cases ry;cases x with
  |aQ=>cases rx;exact SeqAt.EqAt.bool_none a
  |bl b=>cases rx;exact SeqAt.EqAt.bool_bool a b
  |int b=>obtain⟨t,rfl⟩:=rx;exact SeqAt.EqAt.bool_int a b t
  |str b=>obtain⟨t,rfl⟩:=rx;exact SeqAt.EqAt.bool_str a b t
  |_=>exact absurd (show false=true from fx) gZ
 |int a=>
  obtain⟨t',rfl⟩:=ry;cases x with
  |aQ=>cases rx;exact SeqAt.EqAt.int_none a t'
  |bl b=>cases rx;exact SeqAt.EqAt.int_bool a t' b
  |int b=>obtain⟨t,rfl⟩:=rx;exact SeqAt.EqAt.int_int a t' b t
  |str b=>obtain⟨t,rfl⟩:=rx;exact SeqAt.EqAt.int_str a t' b t
  |_=>exact absurd (show false=true from fx) gZ
 |str a=>
  obtain⟨t',rfl⟩:=ry;cases x with
  |aQ=>cases rx;exact SeqAt.EqAt.str_none a t'
  |bl b=>cases rx;exact SeqAt.EqAt.str_bool a t' b
  |int b=>obtain⟨t,rfl⟩:=rx;exact SeqAt.EqAt.str_int a t' b t
  |str b=>obtain⟨t,rfl⟩:=rx;exact SeqAt.EqAt.str_str a t' b t
  |_=>exact absurd (show false=true from fx) gZ
 |_=>exact absurd (show false=true from fy) gZ
noncomputable def Ll(x:V)(u:Value):Bool:=match u with
 |.none=>Kq .aQ x
 |.bool b=>Kq (.bl b) x
 |.int i _=>Kq (.int i) x
 |.str z _=>Kq (.str z) x
 |_=>false
def Gq{x y:V}(r:RelV y u)(f:jj y=true):Ll x u=Kq y x:=by
 cases y with
 |aQ=>cases r;rfl
 |bl b=>cases r;rfl
 |int i=>obtain⟨t,rfl⟩:=r;rfl
 |str z=>obtain⟨t,rfl⟩:=r;rfl
 |_=>exact absurd (show false=true from f) gZ
theorem uL{x:V}:∀{xs:Ω}{us:qag},Vals xs us->xs.all jj=true->us.any (Ll x)=xs.any λy=>Kq y x
 |_,_,.nil,_=>rfl
 |y::xs,u::us,.cons r t,f=>by rw[List.all_cons,oR] at f;rw[Kk,Kk,Gq r f.1,uL t f.2]
theorem pJ{A:Around}{s:Shared}{x:V}{v:Value}(rx:RelV x v)(fx:jj x=true):∀{xs:Ω}{us:qag},Vals xs us->xs.all jj=true->∀u∈us,SeqAt.EqAt A s u v (Ll x u)
 |_,_,.nil,_=>λu hu=>by cases hu
 |y::xs,u::us,.cons r t,f=>λu' hu=>by
  rw[List.all_cons,oR] at f;rcases cU.mp hu with rfl|hu
  rw[Gq r f.1];exact QN r rx f.1 fx;exact pJ rx fx t f.2 u' hu
noncomputable def YV(x:V)(xs:Ω):Bool:=xs.any λy=>Kq y x
noncomputable def rIn(K:Δ)(neg:Bool):R2:=λx y H Q=>∃p xs,y=.ref p/\(gw K H p xs\/dz K H p xs)/\jj x=true/\xs.all jj=true/\Q (.bl (if neg then !YV x xs else YV x xs)) H
def DU:gx X (compareOp .In) (rIn X.K false):=by
 intro γ s σ H x y v u Q I rx ry h;obtain⟨p,xs,rfl,hq,fx,fs,q⟩:=h;cases ry;obtain hq|hq:=hq
 obtain⟨aP,r,pl,hz⟩:=I.list hq;refine SeqAt.in_listAt (Ll x) pl.isList (λw hw=>pJ rx fx r fs w (by simpa using hw)) ⟨.bl _,H,I,rfl,?_⟩;rw[show aP.toArray.any (Ll x)=aP.any (Ll x) by simp,uL r fs];exact q;obtain⟨aP,r,pl,hz⟩:=I.tuple hq;refine SeqAt.in_tupleAt (Ll x) pl (λw hw=>pJ rx fx r fs w (by simpa using hw)) ⟨.bl _,H,I,rfl,?_⟩;rw[show aP.toArray.any (Ll x)=aP.any (Ll x) by simp,uL r fs];exact q
def uM:eE X (.builtin "len") (λxs H Q=>∃p ys,xs=[.ref p]/\(gw X.K H p ys\/dz X.K H p ys)/\Q (.int ys.length) H):=by
 intro γ s σ H xs us Q I r h;obtain⟨p,ys,rfl,hq,q⟩:=h;obtain⟨u,rfl,rx⟩:=vals1 r;cases rx;have hn:=mK;obtain hq|hq:=hq
 obtain⟨aP,r',pl,hz⟩:=I.list hq;have hlen:=r'.length;exact Calls.call_len_list pl.isList (by simp only[jP]<;>omega) ⟨.int ys.length,H,I.tok _,⟨s.toks+1,by rw[jP,hlen]⟩,q⟩;obtain⟨aP,r',pl,hz⟩:=I.tuple hq;have hlen:=r'.length;exact len_tuple pl (by simp only[jP]<;>omega) ⟨.int ys.length,H,I.tok _,⟨s.toks+1,by rw[jP,hlen]⟩,q⟩
def uN:eE X (.builtin "len") (λxs H Q=>∃z,xs=[.str z]/\z.length<=sizeLine/\Q (.int z.length) H):=by intro γ s σ H xs us Q I r h;obtain⟨z,rfl,hz,q⟩:=h;obtain⟨u,rfl,t,rfl⟩:=vals1 r;have hn:=mK;exact len_str (by omega) ⟨.int z.length,H,I.tok _,⟨_,rfl⟩,q⟩
def eE.or{f:Value}{r r':Ω->Hp->VK->Prop}(h:eE X f r)(h':eE X f r'):eE X f (λxs H Q=>r xs H Q\/r' xs H Q):=by
 intro γ s σ H xs us Q I rs q;obtain q|q:=q
 exact h γ s σ H xs us Q I rs q;exact h' γ s σ H xs us Q I rs q
def iG:eE X (.type "list") (λxs H Q=>∃p ys,xs=[.ref p]/\(gw X.K H p ys\/dz X.K H p ys)/\∀l,H l=none->Q (.ref l) (upd H l (.lst ys))):=by
 intro γ s σ H xs us Q I r h;obtain⟨p,ys,rfl,hq,q⟩:=h;obtain⟨u,rfl,rx⟩:=vals1 r;cases rx;have fin:∀(aP:qag),Vals ys aP->ys.length<=sizeLine->∀(h':Heap)(c':Nat),(∀b o',s.heap.get? b=some o'->h'.get? b=some o') ->
   h'.get? s.heap.objs.size=some {cls:=.type "list",dict:=none,data:=.seq aP.toArray c',slots:=#[]}->EP X γ σ Q (.ref s.heap.objs.size) {s with heap:=h'}:=λaP r' hz h' c' kp e=>
  ⟨.ref s.heap.objs.size,_,I.laid (t':=s.toks) kp (cS _) (show cp X.prog X.w _ h' _ (.lst ys) from⟨hz,aP,c',r',e⟩),rfl,q _ (I.cj.fresh (cS _))⟩
 obtain hq|hq:=hq
 obtain⟨aP,r',pl,hz⟩:=I.list hq;have hlen:=r'.length;obtain⟨o,ho,hc,n,hd⟩:=pl.isList;exact call_list_seq p (.inl rfl) ho hc hd (λh' c' kp e=>fin aP r' hz h' c' kp e) (by simp only[jP]<;>omega);obtain⟨aP,r',pl,hz⟩:=I.tuple hq;have hlen:=r'.length;obtain⟨o,ho,hc,n,hd⟩:=pl;exact call_list_seq p (.inr rfl) ho hc hd (λh' c' kp e=>fin aP r' hz h' c' kp e) (by simp only[jP]<;>omega)
def dG:eE X (.type "tuple") (λxs H Q=>∃p ys,xs=[.ref p]/\((gw X.K H p ys/\∀l,H l=none->Q (.ref l) (upd H l (.tup ys)))\/(dz X.K H p ys/\Q (.ref p) H))):=by
 intro γ s σ H xs us Q I r h;obtain⟨p,ys,rfl,h⟩:=h;obtain⟨u,rfl,rx⟩:=vals1 r;cases rx;obtain⟨hq,q⟩|⟨hq,q⟩:=h
 obtain⟨aP,r',pl,hz⟩:=I.list hq;have hlen:=r'.length;refine call_tuple_list pl.isList (λh' kp=>?_) (by simp only[jP]<;>omega);have I1:Inv X γ σ H {s with heap:=h'}:=I.kept (t':=s.toks) kp;have I2:Inv X γ σ (upd H h'.objs.size (.tup ys)) {s with heap:=h'.push {cls:=.type "tuple",data:=.seq aP.toArray} } :=
  I1.laid (t':=s.toks) (λb o e=>fN _ e) (cS _) (show cp X.prog X.w _ _ _ (.tup ys) from⟨hz,aP,r',IsTup.new _ _⟩)
 exact⟨.ref h'.objs.size,_,I2,rfl,q _ (I1.cj.fresh (cS _))⟩;obtain⟨aP,r',pl,hz⟩:=I.tuple hq;exact call_tuple_same pl ⟨.ref p,H,I,rfl,q⟩
def tyV(K:Δ)(T:String)(x:V)(H:Hp):Prop:=match x with
 |.str _=>T="str"
 |.int _=>T="int"
 |.ref p=>(T="list"/\∃xs,gw K H p xs)\/(T="tuple"/\∃o,K.lookup p=some o/\o.cls=.type "tuple"/\o.dict=none) \/
  (T="dict"/\((∃a8,H p=some (.dK a8))\/∃a8,H p=some (.dT a8)))\/(T="set"/\∃S n,H p=some (.set S n))
 |_=>False
theorem Gr{s:Shared}{T:String}{x:V}{v:Value}(I:Inv X γ σ H s)(r:RelV x v)(ty:tyV X.K T x H) :
  s.TypeIs v T/\∀a,v=.ref a->∃ob,s.heap.get? a=some ob/\ob.dict=none:=by
 cases x with
 |str z=>obtain⟨t,rfl⟩:=r;cases (show T="str" from ty);exact⟨typeIs_str s z t,λ_ e=>nomatch e⟩
 |int i=>obtain⟨t,rfl⟩:=r;cases (show T="int" from ty);exact⟨typeIs_int s i t,λ_ e=>nomatch e⟩
 |ref p=>
   cases r;obtain⟨rfl,xs,hq⟩|⟨rfl,o,hk,hc,hd⟩|⟨rfl,hk⟩|⟨rfl,S,n,hk⟩:=ty
   obtain⟨aP,_,pl,_⟩:=I.list hq;refine⟨pl.isList.typeIs,λa e=>?_⟩;cases e;obtain⟨o,n,e,c,hd,_⟩:=pl;exact⟨o,e,hd⟩;refine⟨⟨o,I.r0 p o hk,hc⟩,λa e=>?_⟩;cases e;exact⟨o,I.r0 _ o hk,hd⟩;have z:∃o,s.heap.get? p=some o/\o.ExactDict:=by
    obtain⟨a8,hk⟩|⟨a8,hk⟩:=hk
    obtain⟨_,_,_,_,o,_,_,e,ex,_⟩:=I.cj p _ hk;exact⟨o,e,ex⟩;obtain⟨_,_,_,_,o,_,_,e,ex,_⟩:=I.cj p _ hk;exact⟨o,e,ex⟩
   obtain⟨o,e,ex⟩:=z;refine⟨⟨o,e,ex.1⟩,λa e2=>?_⟩;cases e2;exact⟨o,e,ex.2.1⟩;obtain⟨o,_,_,_,e,ex,_⟩:=I.cj p _ hk;refine⟨⟨o,e,ex.1⟩,λa e2=>?_⟩;cases e2;exact⟨o,e,ex.2.1⟩
 |_=>exact False.elim ty
def acE(K:Δ)(T:String)(r:V->Ω->Hp->VK->Prop)(to:TE):TE:=λσ H Q=>to σ H λx H1=>tyV K T x H1/\r x [] H1 Q
def tBM(K:Δ)(T:String)(r:V->Ω->Hp->VK->Prop)(to:TE)(t:TA):TE:=λσ H Q=>to σ H λx H1=>tyV K T x H1/\t σ H1 λxs H2=>r x xs H2 Q
variable{to:TE}{t:TA}{name:Str}{T id:String}{r:V->Ω->Hp->VK->Prop}
def Ad(pa:PlainAttrs T)(slot:Slot T name id)(QO:typeOf (.builtin id)=pure (.type "method_descriptor"))(hm:Li X id r)(ho:PE X o to)(dj:attributeBase o name X.env (eval o X.env)=eval o X.env:=by rfl)(dm:(apos.endLine==aN.line)=true:=by rfl):PE X (.Call (.Attribute o name apos) [] [] aN) (acE X.K T r to):=by intro γ s σ H Q I h;refine wpAny_Call_method0_late dj dm (b_ (ho γ s σ H _ I h) λv s1 ⟨x,H1,I1,r1,ty,q1⟩=>?_);obtain⟨h1,h2⟩:=Gr I1 r1 ty;exact⟨T,id,pa,slot,QO,h1,h2,Uh rfl (PySem.evalArgs_none (hm γ s1 σ H1 x [] v [] Q I1 r1 .nil q1))⟩
def pK(pa:PlainAttrs T)(slot:Slot T name id)(QO:typeOf (.builtin id)=pure (.type "method_descriptor"))(hm:Li X id r)(ho:PE X o to)(ha:PA X (e::es) t)(dj:attributeBase o name X.env (eval o X.env)=eval o X.env:=by rfl)(kn:((backTo aN (starEach (e::es) X.env)).all (λx=>!x.1) && (backToKw aN (keywordEach [] X.env)).all (λx=>x.1.isSome)
    && decide ((e::es).length+([]:List Keyword).length+(if ([]:List Keyword).isEmpty then 0 else 1)<30))=true:=by rfl)(dm:(apos.endLine==aN.line)=true:=by rfl)(hs:starEach (e::es) X.env=(false,eval e X.env)::starEach es X.env:=by rfl)(dY:(backTo aN (starEach es X.env)).any (·.1)=false:=by rfl) :
  PE X (.Call (.Attribute o name apos) (e::es) [] aN) (tBM X.K T r to t):=by
 intro γ s σ H Q I h;refine wpAny_Call_method_late dj kn dm rfl (b_ (ho γ s σ H _ I h) λv s1 ⟨x,H1,I1,r1,ty,q1⟩=>?_);obtain⟨h1,h2⟩:=Gr I1 r1 ty;refine⟨T,id,pa,slot,QO,h1,h2,?_⟩;have hA:=ha aN γ s1 σ H1 _ I1 q1;rw[hs] at hA ⊢;refine Uh (by show (false || (backTo aN (starEach es X.env)).any (·.1))=false;rw[dY]<;>rfl) (UW ?_);exact b_ hA λus s2 ⟨vs,H2,I2,r2,q2⟩=>hm γ s2 σ H2 x vs v us Q I2 r1 r2 q2
end
def MtM(X:Cx)(id:String)(r:V->Ω->Hp->VK->Prop):Prop :=
 ∀(γ:qaa)(s:Shared)(σ:St)(H:Hp)(x:V)(xs:Ω)(v:Value)(us:qag)(Q:VK),Inv X γ σ H s->RelV x v->Vals xs us->r x xs H Q ->
  wpAny (model X.prog X.w) X.A (call (.builtin id) (v::us)) (EP X γ σ Q) X.xe s
theorem Vals.one:∀{x:V}{us:qag},Vals [x] us->∃u,us=[u]/\RelV x u
 |_,_,.cons r .nil=>⟨_,rfl,r⟩
theorem Vals.zero:∀{us:qag},Vals [] us->us=[]
 |_,.nil=>rfl
def Vals.dropLast{xs:Ω}(h:Vals xs us):Vals xs.dropLast us.dropLast:=by
 induction h with
 |nil=>exact .nil
 |cons r t ih=>
  cases t with
  |nil=>exact .nil
  |cons q t'=>exact .cons r ih
theorem Vals.rep{xs:Ω}{us:qag}(h:Vals xs us):∀k:Nat,Vals (List.replicate k xs).flatten (List.replicate k us).flatten
 |0=>.nil
 |k+1=>by rw[FV,FV,P6,P6];exact Vals.append h (Vals.rep h k)
def Ae(l:List α):l.eraseIdx (l.length-1)=l.dropLast:=by
 induction l with
 |nil=>rfl
 |cons a r ih=>
  cases r with
  |nil=>rfl
  |cons b r=>
   have e:(a::b::r).length-1=((b::r).length-1)+1:=by have h1:(a::b::r).length=r.length+2:=rfl;have h2:(b::r).length=r.length+1:=rfl;omega
   rw[e,List.eraseIdx_cons_succ,ih]
   all_goals rfl
theorem foldl_rep(aP:qag):∀(k:Nat)(acc:qag),
  List.foldl (λx1 x2=>x1++x2) acc.toArray (List.replicate k aP.toArray)=(acc++(List.replicate k aP).flatten).toArray
 |0,acc=>by simp
 |k+1,acc=>by
   have e:acc.toArray++aP.toArray=(acc++aP).toArray:=by simp
   have e2:(acc++aP)++(List.replicate k aP).flatten=acc++(List.replicate (k+1) aP).flatten:=by rw[FV,P6,P7]
   rw[<- e2,<- foldl_rep aP k (acc++aP),<- e,FV,List.foldl_cons]
section
variable{s:Shared}{l b:Addr}{xs ys zs:Ω}
def Inv.V0{aP its':qag}{f:Array Value->Array Value}(I:Inv X γ σ H s)(hH:H l=some (.lst xs))(e:s.heap.get? l=some {cls:=.type "list",data:=.seq aP.toArray n})(hf:f aP.toArray=its'.toArray)(hv:Vals ys its')(hz:ys.length<=sizeLine) :
  Inv X γ σ (upd H l (.lst ys)) {s with heap:=s.heap.update l (Obj.mapSeq f),toks:=t'}:=by
 have q:=PySem.IsL.update e f;rw[hf] at q;refine I.write (x:=l) (e:=l) (by rw[hH];exact trivial) (.inl rfl) (λb' u hb hu=>(Heap.get?_update_other s.heap (Obj.mapSeq f) (Ne.symm hb)).trans hu) ⟨_,q⟩ ?_;exact⟨hz,its',_,hv,q⟩
def Inv.V1{aP:qag}(I:Inv X γ σ H s)(hv:Vals ys aP)(hz:ys.length<=sizeLine) :
  Inv X γ σ (upd H s.heap.objs.size (.lst ys)) {s with heap:=s.heap.push {cls:=.type "list",data:=.seq aP.toArray},toks:=t'} :=
 I.laid (λ_ _ q=>fN _ q) (cS _) ⟨hz,aP,0,hv,k4 _ rfl⟩
def Inv.fresh(I:Inv X γ σ H s):H s.heap.objs.size=none:=I.cj.fresh (cS _)
def Inv.QP(I:Inv X γ σ H s)(hH:H l=some (.lst xs)):xs.length<=sizeLine/\∃(aP:qag)(n:Nat),Vals xs aP/\xs.length=aP.length/\s.heap.get? l=some {cls:=.type "list",data:=.seq aP.toArray n}:=by obtain⟨z,aP,n,r,e⟩:=I.cj l _ hH;exact⟨z,aP,n,r,r.length,e⟩
def Gs(h:n<=sizeLine):Builtin.List.listTooLong n=false:=by unfold Builtin.List.listTooLong;exact ι (by omega)
end
section
def BX:V->Ω->Hp->VK->Prop:=λx vs H Q=>∃l xs y,x=.ref l/\vs=[y]/\H l=some (.lst xs)/\xs.length<sizeLine/\Q .aQ (upd H l (.lst (xs++[y])))
def bR:MtM X "list.append" BX:=by intro γ s σ H x vs v us Q I rx rv h;obtain⟨l,xs,y,rfl,rfl,hH,hz,q⟩:=h;cases rx;obtain⟨u,rfl,ru⟩:=rv.one;obtain⟨z,aP,n,r,hl,e⟩:=I.QP hH;refine call_meets F.slot_list_append ⟨_,e,rfl⟩ F.entry_list_append (F.args_list_append_2 _ _) (PySem.list_append l aP.toArray n u (by rw[jP];omega)) ⟨e,?_⟩;refine⟨.aQ,_,I.V0 (its':=aP++[u]) hH e (by simp) (r.append (.cons ru .nil)) ?_,rfl,q⟩;rw[jf,List.length_singleton];omega
def V2:V->Ω->Hp->VK->Prop:=λx vs H Q=>∃l xs y,x=.ref l/\vs=[]/\H l=some (.lst xs)/\xs[xs.length-1]?=some y/\Q y (upd H l (.lst xs.dropLast))
def Gu:MtM X "list.pop" V2:=by
 intro γ s σ H x vs v us Q I rx rv h;obtain⟨l,xs,y,rfl,rfl,hH,hy,q⟩:=h;cases rx;have Kr:=rv.zero;subst Kr;obtain⟨z,aP,n,r,hl,e⟩:=I.QP hH;obtain⟨u,hu,ru⟩:=r.get hy;have hy':aP.toArray[aP.toArray.size-1]?=some u:=by show aP.toArray[aP.length-1]?=some u;rw[<- Array.getElem?_toList,<- hl];exact hu
 refine call_meets F.slot_list_pop ⟨_,e,rfl⟩ F.entry_list_pop (F.args_list_pop_1 _) (MeetsSeq.list_pop_last l aP.toArray n u hy' (by rw[jP];omega)) ⟨e,?_⟩;refine⟨y,_,I.V0 (its':=aP.dropLast) hH e ?_ r.dropLast ?_,ru,q⟩;show aP.toArray.eraseIdxIfInBounds (aP.toArray.size-1)=aP.dropLast.toArray;rw[jP,List.eraseIdxIfInBounds_toArray,Ae];rw[UX];omega
noncomputable def acF:R2:=λx y H Q=>∃l k xs,x=.ref l/\y=.int k/\H l=some (.lst xs)/\-(2 ^ 63)<=k/\k<2 ^ 63/\xs.length * k.toNat<=sizeLine /\
 ∀p,H p=none->Q (.ref p) (upd H p (.lst (List.replicate k.toNat xs).flatten))
def len_rep(xs:List α)(k:Nat):(List.replicate k xs).flatten.length=k * xs.length:=by
 induction k with
 |zero=>simp
 |succ k ih=>rw[FV,P6,jf,ih,Nat.succ_mul,Nat.add_comm]
def QQ:gx X (binaryOp .Mult) acF:=by
 intro γ s σ H x y v u Q I rx ry h;obtain⟨l,k,xs,rfl,rfl,hH,h1,h2,hz,q⟩:=h;cases rx;obtain⟨t,rfl⟩:=ry;obtain⟨z,aP,n,r,hl,e⟩:=I.QP hH;have hlen:aP.toArray.size * k.toNat<=sizeLine:=by rw[jP,<- hl];exact hz
 have acG:¬ aP.toArray.size * k.toNat > (2 ^ 63-1) / 8:=by
  have:(sizeLine:Nat)<=(2 ^ 63-1) / 8:=by decide
  omega
 have uO:¬ (!Builtin.List.listFitsIndex k)=true:=by rw[fitsIndex_both h1 h2];exact gZ
 have V3:¬ Builtin.List.listTooLong (aP.toArray.size * k.toNat)=true:=by rw[Gs hlen];exact gZ
 have acH:List.foldl (λx1 x2=>x1++x2) #[] (List.replicate (if aP.toArray.isEmpty=true then 0 else k.toNat) aP.toArray)=(List.replicate k.toNat aP).flatten.toArray:=by
  have f0:∀m:Nat,List.foldl (λx1 x2=>x1++x2) #[] (List.replicate m aP.toArray)=(List.replicate m aP).flatten.toArray:=λm=>by have:=foldl_rep aP m [];rw[U1] at this;exact this
  rw[f0];cases aP with
  |nil=>simp
  |cons a r'=>rw[η (by simp)]
 refine wpAny_binaryOp_repeat_ref (T:="list") (U:="int") (by decide) ⟨_,e,rfl⟩ (λs'=>typeIs_int s' k t) noFill_list_mul F.fills_int_mul F.slot_int_rmul repeat_list F.slot_int_index.lookup
  (call_meets F.slot_int_rmul (typeIs_int s k t) F.entry_int_rmul (F.args_int_rmul_2 _ _) (int___rmul___int_list k t l aP.toArray n)
   ⟨e,rfl,⟨_,e,rfl⟩,call_meets F.slot_list_mul ⟨_,e,rfl⟩ F.entry_list_mul (F.args_list_mul_2 _ _) (AutoListH.list___mul___list_int_3 l aP.toArray n k t uO acG V3) ⟨e,?_⟩⟩)
 rw[acH];exact⟨.ref _,_,I.V1 (t':=s.toks) (r.rep k.toNat) (by rw[len_rep,Nat.mul_comm];exact hz),rfl,q _ I.fresh⟩
end
end L2
namespace YW
open PySem PySem.W PySem.Calls PyProof.Rows
def oz{P:Params}:∀(ns:qan)(vs:qag),WellAll P h vs (ns.map WData.int)->IntsAre vs ns:=by
 intro ns;induction ns with
 |nil=>intro vs w;rw[Km] at w;cases w;exact .nil
 |cons n ns ih=>
  intro vs w;rw[fU] at w;cases w with
  |cons a b=>cases a;exact .cons _ _ (ih _ b)
theorem DV{l:OpenLaw}(hn:l.most=some n){P:Params}{args:List WData}{vals:qag}(DW:l.row.toRowW.claim.pre args=true)(V4:WellAll P h vals args) :
  ∃a vs ns,vals=[Value.ref a]/\args=[WData.list (ns.map WData.int)]/\h.get? a=some {cls:=.type "list",data:=.seq vs.toArray}/\IntsAre vs ns/\ns.length<=n:=by
 have hsh:WShape.hasAll [] args [.list .int]=true:=(pre_splitW DW).1;have hc:l.pre.holds [] {args:=args}=true:=(pre_splitW DW).2;obtain⟨d,r,rfl,h1,h2⟩:=hasAllW_cons hsh;obtain rfl:=hasAllW_nil h2;obtain⟨xs,rfl,h3⟩:=hasW_list h1;obtain⟨ns,rfl⟩:=items_int h3;have hlen:ns.length<=n:=by
  unfold OpenLaw.pre at hc;have h4:(WTm.not (.lt (.lit (.int (n:Int))) (.len (.arg 0)))).holds [] {args:=[.list (ns.map .int)]}=true:=by have h4:=(holds_andW hc).1;rw[hn] at h4;exact h4
  have h5:=condW_of h4 (w_not (w_lt w_lit (w_len_list (w_arg rfl))));rw[cJ] at h5;refine Nat.le_of_not_lt λq=>?_;have q':(n:Int)<((ns.length:Nat):Int):=by omega
  first
   | (rw[ν q'] at h5;exact absurd h5 (by decide))
   | (simp at h5;omega)
 cases V4 with
 |cons w1 w2=>
   cases w2;cases w1 with
   |list ho xy=>exact⟨_,_,ns,rfl,rfl,ho,oz ns _ xy,hlen⟩
def DX(l:OpenLaw)(args:List WData):l.row.toRowW.claim.post args (.bool true) args=true :=
 postW_of (r:=l.row.toRowW) (X:=(true==true))
  (show WShape.has [] (.bool true) .bool=true by first|rfl|decide|simp[WShape.has,WShape.arms,WShape.armsAll])
  (show (WTm.eq .res (.lit (.bool true))).value [] {args:=args,res:=some (.bool true),after:=args}=some (.bool (true==true)) from w_eq_bool (w_res rfl) w_lit) rfl
def xA{l:OpenLaw}{q:Program}{loose:π}{XP:(qae)->Heap->Prop}{YP:World->Heap->Prop}{d:DefRec}(hn:l.most=some n)(QR:d.params.defaults=[])(call:∀(w:World) (s₀ s₁:Shared) (mg mb:qae) (fa:Addr) (o:Obj) (pm cd doc:Value) (a:Addr) (vs:qag) (ns:qan),
    Ground q loose [] XP w s₀ mg mb s₁.heap->YP w s₁.heap ->
    s₁.heap.get? fa=some o->o.data=.func (docDef d.name d.params d.body d.scope pm cd doc)->s₁.heap.CodeRec cd d.name->mg d.name=some (.ref fa) ->
    s₁.heap.get? a=some {cls:=.type "list",data:=.seq vs.toArray}->IntsAre vs ns->ns.length<=n->s₁.gens=#[] ->
    codeAny (model l.prog w) callerA (.call (.ref fa) ⟨[.ref a],[]⟩) (λr s'=>r=.ok (.ret (.bool true))/\OldK s₁.heap s'.heap/\s'.os=s₁.os/\AllBare s'.gens) s₁) :
  WalkO q loose XP YP l.row.toRowW d [] (λf vs=>PySem.call f vs):=by
 intro w s₀ s₁ mg mb G Y fa o pm cd doc dV kV ho hd fH hD V5 hg args vals as DW V6 hrd V4 hlo;obtain rfl:dV=.none:=Dflts.none hD QR;obtain rfl:kV=.none:=Dflts.noKw hD;obtain⟨a,vs,ns,rfl,rfl,QS,hints,hlen⟩:=DV hn DW V4;refine enter_call (codeAny_mono (call w s₀ s₁ mg mb fa o pm cd doc a vs ns G Y ho (fd_plain hd) fH V5 QS hints hlen hg) λr s' hq=>?_);obtain⟨rfl,h2,h3,h4⟩:=hq;exact⟨.inl ⟨.bool true,.bool true,[],rfl,λ_=>rfl,.bool true,DX l _,λ_=>⟨List.Pairwise.nil,λ_ hm=>(nomatch hm)⟩⟩,h2,h3,h4⟩
end YW
namespace L2
open PySem PySem.Spec PyProof.Rows
theorem tM:∀{vs:qag}{ns:qan},IntsAre vs ns->Vals (ns.map V.int) vs
 |_,_,.nil=>.nil
 |_,_,.cons n t h=>.cons ⟨t,rfl⟩ (tM h)
def V7(H:Hp):Prop:=∀b,H b=none\/∃o xs,H b=some (.BG o (.lst xs))
theorem Gv{mb:qae}{CX:Fw}{k:Nat}{fa:Addr}{s₁:Shared}{vs:qag}{ns:qan}(KX:K.In s₁.heap)(hns:s₁.heap.Ns mainGlobals mg)(hb:s₁.heap.Ns builtinsNs mb)(hbb:∀x:Str,x≠"__name__"->mb x=bootBuiltins x)(acI:s₁.heap.NoLimit)(hg:s₁.gens=#[])(ha:s₁.heap.get? a=some {cls:=.type "list",data:=.seq vs.toArray})(hi:IntsAre vs ns)(hl:ns.length<=sizeLine)(hr:bF k callerA)(F:∀base:Heap,K.In base->base.Ns mainGlobals mg->cq P w K mg base CX k fa fd [x] sp)(V8:∀(s:Shared) (u:Value),BindsTo s fd ⟨[u],[]⟩ [(x,u)])(Kp:∀H:Hp,V7 H->gw K H a (ns.map V.int)->sp [.ref a] H (λv _=>v=.bl true) λ_ _ _=>False)(hCX:∀H e s',CX [] H s₁ (λ_ _ _=>False) e s'->False) :
  codeAny (model P w) callerA (.call (.ref fa) ⟨[.ref a],[]⟩) (λr s'=>r=.ok (.ret (.bool true))/\OldK s₁.heap s'.heap/\s'.os=s₁.os/\AllBare s'.gens) s₁:=by
 have rv:=tM hi;have acJ:=hi.length;have core:∀H:Hp,V7 H->gw K H a (ns.map V.int)->kZ P w H s₁.heap->(∀b,H b≠none->b=a)->(H a≠none->K.lookup a=none) ->
   codeAny (model P w) callerA (.call (.ref fa) ⟨[.ref a],[]⟩) (λr s'=>r=.ok (.ret (.bool true))/\OldK s₁.heap s'.heap/\s'.os=s₁.os/\AllBare s'.gens) s₁:=by
  intro H hO hS cj hA hK;have BY:∀{b:Addr}{o:Obj},s₁.heap.get? b=some o->H b=none->(uy s₁.heap H).get? b=some o:=λe n=>F7 e n;have Vz:∀{b:Addr}{o:Obj}{es:Array DictEntry}{ep:Nat},s₁.heap.get? b=some o->o.data=.dict es ep->H b=none:=λ{b o es ep} e d=>by
   cases q:H b with
   |none=>rfl
   |some u=>have e':b=a:=hA b (by rw[q];simp);subst e';rw[ha] at e;cases e;have d':Data.seq vs.toArray _=Data.dict es ep:=d;cases d'
  have YX:∀{b:Addr}{m:qae},s₁.heap.Ns b m->(uy s₁.heap H).Ns b m:=λ{b m} ⟨o,es,ep,e,d,r⟩=>⟨o,es,ep,BY e (Vz e d),d,r⟩;have hKb:K.In (uy s₁.heap H):=λb o e=>BY (KX b o e) (by
   cases q:H b with
   |none=>rfl
   |some u=>have e':b=a:=hA b (by rw[q];simp);subst e';rw[hK (by rw[q];simp)] at e;cases e)
  have hM:Mod K mg (uy s₁.heap H):=⟨hKb,YX hns,⟨mb,YX hb,hbb⟩,let ⟨mc,h1,h2⟩:=acI;⟨mc,YX h1,h2⟩⟩;have e0:z9 P w K mg (uy s₁.heap H) callerA [] s₁ H:=⟨rfl,hM,λb o e=>KW e,Nat.le_of_eq (DE _ _),trivial,λb hb=>absurd (show b∈([]:ο) from hb) (by simp),cj,.of_eq hg⟩;refine codeAny_mono ((F _ hKb (YX hns)).run callerA [] s₁ H ⟨[.ref a],[]⟩ [.ref a] [.ref a] _ _ hr e0 (V8 s₁ (.ref a)) (.cons rfl .nil) (Kp H hO hS)) λr s' h=>?_;cases r with
  |error e=>exact (hCX H e s' h).elim
  |ok fl=>
    cases fl with
    |ret u=>
      obtain⟨v,H',os,bare,un,acK,r',q⟩:=h;have q':v=.bl true:=q;subst q';obtain rfl:u=Value.bool true:=r';refine⟨rfl,OldK.of_keep λb o e=>?_,os,bare⟩;cases q:H b with
      |none=>exact un.keep b o e q (by intro z;exact absurd (show b∈([]:ο) from z) (by simp)) (by simp)
      |some u=>
        rcases hO b with z|⟨ob,xs,z⟩
        rw[q] at z;cases z;have z2:=un.ux b ob _ z;obtain⟨e1,_⟩:=cj b _ z;obtain⟨e2,_⟩:=acK b _ z2;rw[e] at e1;cases e1;exact e2
    |_=>exact False.elim h
 cases hk:K.lookup a with
 |some o=>have e:=KX a o hk;rw[ha] at e;cases e;refine core (λ_=>none) (λ_=>.inl rfl) (.inr ⟨_,vs.toArray,_,hk,rfl,rfl,rfl,by rw[jP,acJ];exact hl,by simpa using rv⟩) (λb u z=>by have z':(none:Option HO)=some u:=z;cases z') (λb z=>absurd rfl z) λz=>absurd rfl z
 |none=>refine core (λb=>if b=a then some (.BG {cls:=.type "list",data:=.seq vs.toArray} (.lst (ns.map V.int))) else none) (λb=>?_) (.inl (.inr ⟨{cls:=.type "list",data:=.seq vs.toArray},ε rfl⟩)) (λb u z=>?_) (λb z=>?_) λ_=>hk;by_cases hb:b=a;exact .inr ⟨_,_,ε hb⟩;exact .inl (η hb);by_cases hb:b=a;have z':=(ε hb).symm.trans z;cases z';subst hb;exact⟨ha,by rw[cJ];exact hl,vs,_,rv,ha⟩;have z':=(η hb).symm.trans z;cases z';by_cases hb:b=a;exact hb;exact absurd (η hb) z
noncomputable def inClass(s:Stmt)(j:Nat):Stmt:=match s with
 |.ClassDef _ _ _ body _ _ _ _ _ _ _=>body.getD j (.Pass ⟨0,0,0,0⟩)
 |_=>.Pass ⟨0,0,0,0⟩
noncomputable def cV(s:Stmt):Arguments:=match s with
 |.FunctionDef _ a _ _ _ _ _ _ _ _=>a
 |_=>{posonlyargs:=[],args:=[],vararg:=none,kwonlyargs:=[],kw_defaults:=[],kwarg:=none,defaults:=[]}
noncomputable def bG(s:Stmt):qaq:=match s with
 |.FunctionDef _ _ b _ _ _ _ _ _ _=>b
 |_=>[]
noncomputable def aj(s:Stmt):Scope:=match s with
 |.FunctionDef _ _ _ _ _ _ sc _ _ _=>sc
 |_=>{kind:=.function,names:=[],isGenerator:=false,isCoroutine:=false}
abbrev eD:Fw:=λ_ _ _ _ _ _=>False
abbrev E0:XK:=λ_ _ _=>False
def i8:Passes eD X E0:=λ_ _ _ _ _ _ _ h=>h.elim
structure BZ(K:Δ)(x qual:Str)(st:Stmt)(f:Addr)(fd:FuncData):Prop where
 ex:∃(oc:Value)(od:qar)(kV doc pm:Value)(an:qar)(bB ct:Value)(DS:Array (Option Value)),
  fd=W.fnOf x qual (cV st) (bG st) (aj st) .none kV doc pm an bB ct/\K.lookup f=some ⟨oc,od,.func fd,DS⟩/\W.codeIn K bB qual=true
 kp:W.keepIn K (.ref f)=true
section
def BZ.ok{st:Stmt}{N:π}{k:Nat}(F:BZ K x qual st f fd)(S:aE N ps (aj st))(len:∀vs H Q E,sp vs H Q E->vs.length=ps.length)(dF:∀(bB:Value) (A:Around) (outer:List Env) (s:Shared) (H:Hp) (vs:Ω) (Q:VK) (E:XK),bF k (A.deeper (envOfC qual (aj st) s.heap.objs.size f bB))->sp vs H Q E ->
    ∃t,hY (fP eD P w K mg base N qual (aj st) f bB A outer s H E).pF (bG st) t/\t {nx:=λ_ H'=>Q .aQ H',rt:=Q} (start N vs) H):cq P w K mg base eD (k+1) f fd ps sp:=by
 obtain⟨oc,od,kV,doc,pm,an,bB,ct,DS,rfl,lk,fH⟩:=F.ex;refine Oi lk fH S len λA outer s H vs Q E hr Kp=>?_;obtain⟨t,h,q⟩:=dF bB A outer s H vs Q E hr Kp;exact⟨t,h.pF,q⟩
def BZ.binds{st:Stmt}(F:BZ K x qual st f fd)(h:∀(kV doc pm:Value) (an:qar) (bB ct:Value) (us:qag),us.length=ps.length->bindArgs (W.fnOf x qual (cV st) (bG st) (aj st) .none kV doc pm an bB ct) ⟨us,[]⟩=pure (ps.zip us)):Binds K fd ps []:=by obtain⟨oc,od,kV,doc,pm,an,bB,ct,DS,rfl,lk,fH⟩:=F.ex;exact .all (h kV doc pm an bB ct)
def pL{st:Stmt}{oc:Value}{od an:qar}{DS:Array (Option Value)}{kV doc pm bB ct:Value}(l:K.lookup f=some ⟨oc,od,.func (W.fnOf x qual (cV st) (bG st) (aj st) .none kV doc pm an bB ct),DS⟩)(c:W.codeIn K bB qual=true)(k:W.keepIn K (.ref f)=true):BZ K x qual st f (W.fnOf x qual (cV st) (bG st) (aj st) .none kV doc pm an bB ct):=⟨⟨oc,od,kV,doc,pm,an,bB,ct,DS,rfl,l,c⟩,k⟩
end
def DY(h:n<=1000):n<sizeLine:=P4 h (by decide)
def QT{A:Prop}(h:B):if false=true then A else B:=by rw[η gZ];exact h
def QU{A:Prop}(h:A):if true=true then A else B:=by rw[ε rfl];exact h
def xB{c A:Prop}[Decidable c](h1:c->A)(h2:¬ c->B):if c then A else B:=by by_cases h:c;rw[ε h];exact h1 h;rw[η h];exact h2 h
def aO(H H':Hp):Prop:=∀b o,H b=some o->H' b=some o
def aO.refl(H:Hp):aO H H:=λ_ _ h=>h
def aO.trans{H1 H2:Hp}(a:aO H H1)(b:aO H1 H2):aO H H2:=λc o h=>b c o (a c o h)
section
theorem iH{env:Env}{f:Str×NameKind->List (Str×Addr)->Sem (ForInStep (List (Str×Addr)))}:∀(l:List (Str×NameKind))(cs:List (Str×Addr)),
  (∀p∈l,∀r,(p.2=.free->∃c,env.cells.lookup p.1=some c/\f p r=pure (.yield ((p.1,c)::r)))/\(p.2≠.free->f p r=pure (.yield r))) ->
  ∃cl,forIn l cs f=pure cl/\(∀y c,cl.lookup y=some c->cs.lookup y=some c\/env.cells.lookup y=some c)/\(∀y,(cs.lookup y).isSome=true->(cl.lookup y).isSome=true) /\
   ∀p∈l,p.2=.free->(cl.lookup p.1).isSome=true
 |[],cs,_=>⟨cs,by rw[List.forIn_nil],λ_ _ h=>.inl h,λ_ h=>h,λ_ h=>nomatch h⟩
 |p::l,cs,hf=>by
   have hr:∀q∈l,∀r,(q.2=.free->∃c,env.cells.lookup q.1=some c/\f q r=pure (.yield ((q.1,c)::r)))/\(q.2≠.free->f q r=pure (.yield r)):=λq hq r=>hf q (fJ _ hq) r;by_cases hp:p.2=.free;obtain⟨c,hc,e⟩:=(hf p c6 cs).1 hp;obtain⟨cl,h1,h2,h3,h4⟩:=iH l ((p.1,c)::cs) hr;refine⟨cl,?_,λy d h=>?_,λy h=>h3 y ?_,λq hq YY=>?_⟩;rw[List.forIn_cons,e];exact h1;rcases h2 y d h with z|z
   rw[Kg] at z;cases hy:y==p.1 with
   |true=>rw[hy] at z;have ey:y=p.1:=eq_of_beq hy;cases z;rw[ey];exact .inr hc
   |false=>rw[hy] at z;exact .inl z
   exact .inr z;rw[Kg];cases hy:y==p.1 with
   |true=>rfl
   |false=>exact h
   rcases cU.mp hq with z|z
   subst z;refine h3 _ ?_;rw[Kg,beq_self_eq_true];rfl;exact h4 q z YY;have e:=(hf p c6 cs).2 hp;obtain⟨cl,h1,h2,h3,h4⟩:=iH l cs hr;refine⟨cl,?_,h2,h3,λq hq YY=>?_⟩;rw[List.forIn_cons,e];exact h1;rcases cU.mp hq with z|z
   subst z;exact absurd YY hp;exact h4 q z YY
def i9{scope:Scope}{env:Env}(h:∀p∈scope.names,p.2=.free->∃c,env.cells.lookup p.1=some c) :
  ∃cl,closureFor scope env=pure cl/\(∀y c,cl.lookup y=some c->env.cells.lookup y=some c)/\∀p∈scope.names,p.2=.free->∃c,cl.lookup p.1=some c:=by
 have key:∃cl,closureFor scope env=pure cl/\(∀y c,cl.lookup y=some c->([]:List (Str×Addr)).lookup y=some c\/env.cells.lookup y=some c)/\(∀y,(([]:List (Str×Addr)).lookup y).isSome=true->(cl.lookup y).isSome=true) /\
   ∀p∈scope.names,p.2=.free->(cl.lookup p.1).isSome=true:=by
  simp only[closureFor];have go:=@iH env (λx r=>if x.2==NameKind.free then (do let c <- cellOf env x.1;pure (ForInStep.yield ((x.1,c)::r))) else pure (ForInStep.yield r)) scope.names [] ?_;obtain⟨cl,h1,h2⟩:=go;refine⟨cl,?_,h2⟩
  first
   | (show (forIn scope.names [] _ >>= λcs=>pure cs)=_;rw[h1];rfl)
   | (rw[h1];rfl)
   |exact Ψ (· >>= pure) h1
  intro p hp r;refine⟨λhf=>?_,λhf=>?_⟩;obtain⟨c,hc⟩:=h p hp hf;refine⟨c,hc,?_⟩;have e1:(p.2==NameKind.free)=true:=by rw[hf];rfl
  have e2:cellOf env p.1=pure c:=by unfold cellOf;rw[hc]
  rw[e1,ε rfl,e2];rfl;have e1:(p.2==NameKind.free)=false:=by simpa using hf
  rw[e1,η (by decide)]
 obtain⟨cl,h1,h2,h3,h4⟩:=key;refine⟨cl,h1,λy c e=>?_,λp hp hf=>Option.isSome_iff_exists.mp (h4 p hp hf)⟩;rcases h2 y c e with z|z
 rw[List.lookup_nil] at z;cases z;exact z
def lj{scope:Scope}{env:Env}(y:Str):(relabel scope env).names.lookup y =
  (scope.names.lookup y).map λk=>if (k==.free && env.scope.kind==.function && env.kindOf y==some .cell)=true then .cell else k:=by
 have key:∀l:List (Str×NameKind),(l.map λ(n,k)=>if (k==NameKind.free && env.scope.kind==.function && env.kindOf n==some .cell) then (n,NameKind.cell) else (n,k)).lookup y =
   (l.lookup y).map λk=>if (k==.free && env.scope.kind==.function && env.kindOf y==some .cell)=true then .cell else k:=by
  intro l;induction l with
  |nil=>rfl
  |cons p l ih=>
    obtain⟨n,k⟩:=p;rw[fU];show List.lookup y ((if (k==NameKind.free && env.scope.kind==.function && env.kindOf n==some .cell)=true then (n,NameKind.cell) else (n,k))::_)=_;by_cases hc:(k==NameKind.free && env.scope.kind==.function && env.kindOf n==some .cell)=true;rw[ε hc,Kg,Kg];cases hy:y==n with
    |true=>have ey:y=n:=eq_of_beq hy;subst ey;show some NameKind.cell=some (if _ then _ else _);rw[ε hc]
    |false=>exact ih
    rw[η hc,Kg,Kg];cases hy:y==n with
    |true=>have ey:y=n:=eq_of_beq hy;subst ey;show some k=some (if _ then _ else _);rw[η hc]
    |false=>exact ih
 exact key scope.names
end
noncomputable def ko(N ts:π)(out sc:Scope):Bool :=
 (sc.kind==.function) && sc.names.all (λp=>(p.2 != .cell) && (p.2 != .free || out.names.lookup p.1==some .cell || out.names.lookup p.1==some .free) && (p.2 != .local || sc.names.lookup p.1==some .local))
  && N.all (λy=>sc.names.lookup y != some .local) && ts.all (λy=>sc.names.lookup y==some .local) && decide ((N++ts).Nodup)
structure pM(N ts:π)(out sc:Scope):Prop where
 kind:sc.kind=.function
 Gw:∀p∈sc.names,p.2≠.cell
 fr:∀p∈sc.names,p.2=.free->out.names.lookup p.1=some .cell\/out.names.lookup p.1=some .free
 names:∀p∈sc.names,p.2=.local->sc.names.lookup p.1=some .local
 own:∀y∈N,sc.names.lookup y≠some .local
 Ut:∀y∈ts,sc.names.lookup y=some .local
 nd:(N++ts).Nodup
def tO{N ts:π}{out:Scope}(h:ko N ts out sc=true):pM N ts out sc:=by unfold ko at h;rw[oR,oR,oR,oR] at h;obtain⟨⟨⟨⟨h1,h2⟩,h3⟩,h4⟩,h5⟩:=h;rw[P9] at h2 h3 h4;refine⟨eq_of_beq h1,λp hp=>?_,λp hp hf=>?_,λp hp hl=>?_,λy hy=>?_,λy hy=>?_,aae h5⟩;have:=h2 p hp;rw[oR,oR] at this;simpa using this.1.1;have:=h2 p hp;rw[oR,oR] at this;have q:=this.1.2;rw[hf] at q;simpa using q;have:=h2 p hp;rw[oR,oR] at this;have q:=this.2;rw[hl] at q;simpa using q;simpa using h3 y hy;simpa using h4 y hy
noncomputable def bM(X:Cx)(ts:π)(sc:Scope)(cl:List (Str×Addr))(C:Addr)(fp:ο)(s:Shared)(H:Hp):Cx where
 prog:=X.prog
 w:=X.w
 K:=X.K
 mg:=X.mg
 base:=X.base
 A:=X.A
 N:=X.N++ts
 s₀:=s
 H₀:=H
 env:=compEnvC sc cl C X.env
 outer:=X.stack
 stack:=X.stack
 ex:=fp
 fn:=λ_=>false
 calm:=X.calm
 pn:=[]
 xe:=λ_ _=>False
section
variable{s:Shared}{ts:π}{cl:List (Str×Addr)}{D:Addr}
def tP(hS:pM X.N ts X.env.scope sc)(h:jQ (relabel sc X.env) y):sc.names.lookup y=some .local\/(sc.names.lookup y=some .free/\((relabel sc X.env).names.lookup y=some .cell\/(relabel sc X.env).names.lookup y=some .free)):=by
 have e:=lj (scope:=sc) (env:=X.env) y;cases hk:sc.names.lookup y with
 |none=>rw[hk] at e;have e':(relabel sc X.env).names.lookup y=none:=e;obtain h|h|h:=h<;>rw[e'] at h<;>cases h
 |some k=>
  have hm:(y,k)∈sc.names:=N5 hk;rw[hk] at e;cases k with
  |«local»=>exact .inl rfl
  |cell=>exact absurd rfl (hS.Gw _ hm)
  |free=>refine .inr ⟨rfl,?_⟩;rw[e,U2];by_cases hc:(NameKind.free==.free && X.env.scope.kind==.function && X.env.kindOf y==some .cell)=true;rw[ε hc];exact .inl rfl;rw[η hc];exact .inr rfl
  |globalExplicit=>have e':(relabel sc X.env).names.lookup y=some .globalExplicit:=e;obtain h|h|h:=h<;>rw[e'] at h<;>cases h
  |globalImplicit=>have e':(relabel sc X.env).names.lookup y=some .globalImplicit:=e;obtain h|h|h:=h<;>rw[e'] at h<;>cases h
def B0(I:Inv X γ σ H s)(hf:∀b∈fp,mJ X γ H b):∀b∈fp,b∉Fv X.stack:=λb hb z=>by
 obtain⟨_,f1,f2,_⟩:=hf b hb;rcases cU.mp (I.zN b z) with e|e
 exact f1 e;exact f2 e
def Lm(I:Inv X γ σ H s)(hf:∀b∈fp,mJ X γ H b)(Ol:∀b∈fp,∃o,s.heap.get? b=some o)(hS:pM X.N ts X.env.scope sc)(c1:∀y c,cl.lookup y=some c->X.env.cells.lookup y=some c)(c2:∀p∈sc.names,p.2=.free->∃c,cl.lookup p.1=some c)(hC:s.heap.objs.size<=C)(hD:s.heap.objs.size<=D)(YZ:D≠C){h1:Heap}{m:qae}{t:Nat}(k:∀b o,s.heap.get? b=some o->h1.get? b=some o)(hn:h1.Ns C m)(hd:h1.get? D=some {cls:=.type "list",data:=.seq ([]:qag).toArray n}) :
  Inv (bM X ts sc cl C fp s H) [] (σ++ts.map λ_=>none) (upd H D (.lst [])) {s with heap:=h1,toks:=t}:=by
 have sz:=I.sz;have acL:∀b∈fp,b<s.heap.objs.size:=λb hb=>by obtain⟨o,e⟩:=Ol b hb;exact gu e
 have K0:∀y c,cl.lookup y=some c->c<s.heap.objs.size:=λy c e=>by obtain⟨v,q⟩:=I.cell y c (c1 y c e);exact q.lt
 have ok:(bM X ts sc cl C fp s H).Ok:=by
  refine⟨I.ok.mod,hS.kind,I.ok.glob,I.ok.blt,hC,λx y c e1 e2=>I.ok.inj x y c (c1 x c e1) (c1 y c e2),λx hx=>?_,λx c hx=>absurd hx (by simp[bM]),I.ok.hd,I.ok.frames,.inl rfl,λb hb=>?_,λb o e=>I.bs b o e,
   fM I.ok.F8 sz,λb o e hb=>?_,B0 I hf,I.stack,λb hb=>I.BI b hb⟩
  have hv:jQ (relabel sc X.env) x:=by
   obtain hx|hx:=hx
   exact .inr (.inl hx);exact .inr (.inr hx)
  rcases tP hS hv with z|⟨z,_⟩
  have e:=lj (scope:=sc) (env:=X.env) x;rw[z] at e;have e':(relabel sc X.env).names.lookup x=some .local:=e;have Y0:(relabel sc X.env).names.lookup x=some .cell\/(relabel sc X.env).names.lookup x=some .free:=hx;rw[e'] at Y0;obtain q|q:=Y0<;>cases q
  exact c2 _ (N5 z) rfl;exact⟨λe=>absurd (rZ (acL b hb) hC) (by have e':b=C:=e;rw[e'];exact Fu _),λx c e z=>(hf b hb).2.2.2.2.1 x c (c1 x c e) z⟩;rcases (hf b hb).2.2.2.1 with z|z
  exact I.ok.zM b o e z;exact absurd (rZ (gu e) (fM I.ok.F8 z)) (Fu _)
 have hnD:H D=none:=I.cj.fresh hD;refine⟨ok,rfl,I.bare,Un.laid k hD hnD,⟨m,hn,λi x v e1 e2 e3=>?_⟩,λx c e=>?_,?_,λx c e=>?_,λp hp=>absurd (show p∈([]:qaa) from hp) (by simp),I.cj.laid k hD ⟨mE _,[],n,.nil,hd⟩,?_⟩;have hi:i<σ.length:=by
  by_cases hi:i<σ.length;exact hi;rw[rY (by omega),hU] at e2;cases q:ts[i-σ.length]? with
  |none=>rw[q] at e2;cases e2
  |some a=>rw[q] at e2;cases e2
 have Ks:σ[i]?=some (some v):=by rw[rR hi] at e2;exact e2
 have e1':X.N[i]?=some x:=by have V9:(X.N++ts)[i]?=some x:=e1;rw[rR (by rw[<- I.len];exact hi)] at V9;exact V9
 rcases tP hS e3 with z|⟨z,zr⟩
 exact absurd z (hS.own x (eS e1'));have hm:=N5 z;have ho:=hS.fr _ hm rfl;obtain⟨m0,_,hl⟩:=I.loc;obtain⟨u,r,l⟩:=hl i x v e1' Ks (.inr ho);obtain⟨c',r_⟩:=c2 _ hm rfl;obtain⟨l,_⟩|⟨_,c,hc,z2⟩:=l
 have l':X.env.scope.names.lookup x=some .local:=l;rw[l'] at ho;obtain q|q:=ho<;>cases q
 have ec:=c1 x c' r_;rw[hc] at ec;cases ec;exact⟨u,r,.inr ⟨zr,_,r_,z2.keeps k⟩⟩;obtain⟨v,z⟩:=I.cell x c (c1 x c e);exact⟨v,z.keeps k⟩;show upd H D (.lst []) C=none;rw[aG (Ne.symm YZ)];exact I.cj.fresh hC;show upd H D (.lst []) c=none;rw[aG (ki (rZ (K0 x c e) hD))];exact I.hW x c (c1 x c e);show (σ++ts.map λ_=>none).length=(X.N++ts).length;rw[jf,jf,cJ,I.len]
def xD(I:Inv X γ σ H s)(hf:∀b∈fp,mJ X γ H b){BK:qaa}{σ':St}(J:Inv (bM X ts sc cl C fp s H) BK σ' H' s'):Inv X γ σ H' s' :=
 I.U7 J.os J.base J.cj J.bare λb hb=>by obtain⟨_,f1,_,f3,f4,f5⟩:=hf b hb;exact⟨f3,f1,f4,f5⟩
end
section
variable{R:Result->Shared->Prop}{s:Shared}
theorem j3{elt target:Expr}{ifs:qap}{scope:Scope}{pos:Pos}{it acc:Value}{env:Env}(I:Nat->Shared->Prop)(turn:∀n s,I n s->wpAny (model prog w) A (pyNext it) (λr s₁=>match r with
    |none=>R (.ok .next) s₁
    |some v=>wpAny (model prog w) A (letOwnedTupleGo target it v) (λ_ s₁'=>wpAny (model prog w) A (assign target env v) (λ_ s₂=>
       wpAny (model prog w) A (forIn ifs true λc r=>if r=true then do let ok <- isTrue c env (eval c env);pure (ForInStep.yield ok) else pure (ForInStep.yield r)) (λok s₃=>
        if ok=true then wpAny (model prog w) A (eval elt env) (λx s₄=>
         wpAny (model prog w) A (call (.builtin "list.append") [acc,x]) (λ_ s₅=>∃m,m<n/\I m s₅) (notedBy (model prog w) A env λe s'=>R (.error e) s') s₄) (notedBy (model prog w) A env λe s'=>R (.error e) s') s₃
        else ∃m,m<n/\I m s₃) (notedBy (model prog w) A env λe s'=>R (.error e) s') s₂) (notedBy (model prog w) A env λe s'=>R (.error e) s') s₁')
       (notedBy (model prog w) A env λe s'=>R (.error e) s') s₁) (notedBy (model prog w) A env λe s'=>R (.error e) s') s)(n:Nat)(h:I n s):codeAny (model prog w) A (.compLoop (.ListComp elt [⟨target,iter,ifs,0⟩] scope pos) 0 it acc env) R s:=by
 refine codeAny_loop rfl I (λn s hI=>?_) n h;show wpAny _ A ((compTurn (.ListComp elt [⟨target,iter,ifs,0⟩] scope pos) 0 it acc env).onRaise (λx=>do noteFrame x env;theTreesLotGoes x)) _ _ s;refine wpAny_noted ?_;rw[compTurn_list];refine δ (wpAny_standAt (δ (Λ (turn n s hI) (λr s₁ h₁=>?_) λ_ _ h'=>h')));cases r with
 |none=>exact ζ h₁
 |some v=>
   refine δ (Λ h₁ (λ_ s₁' h₁'=>?_) λ_ _ h'=>h');refine δ (Λ h₁' (λ_ s₂ h₂=>δ (Λ h₂ (λok s₃ h₃=>?_) λ_ _ h'=>h')) λ_ _ h'=>h');cases ok with
   |false=>exact ζ ⟨rfl,h₃⟩
   |true=>exact δ (δ (Λ h₃ (λx s₄ h₄=>δ (Λ h₄ (λ_ s₅ h₅=>ζ (ζ ⟨rfl,h₅⟩)) λ_ _ h'=>h')) λ_ _ h'=>h'))
end
def Gx(X:Cx)(ifs:qap)(t:TT):Prop :=
 ∀(γ:qaa)(s:Shared)(σ:St)(H:Hp)(Q:Bool->Hp->Prop),Inv X γ σ H s->t σ H Q ->
  wpAny (model X.prog X.w) X.A (forIn ifs true λc r=>if r=true then do let ok <- isTrue c X.env (eval c X.env);pure (ForInStep.yield ok) else pure (ForInStep.yield r)) (TP X γ σ Q) X.xe s
def acM:TT:=λ_ H Q=>Q true H
def Ln:Gx X [] acM:=λ_ _ _ H _ I h=>wpAny_tests_nil ⟨H,I,h⟩
def Lo{t:TT}(h:PT X c t):Gx X [c] t:=λγ s σ H Q I hw=>wpAny_tests_one (h γ s σ H Q I hw)
def Gy(J:It)(g:TG)(tt:TT)(te:TE)(n:Nat)(σ:St)(D:Addr)(Q:Hp->Prop)(H1:Hp):Prop :=
 ∃W:Nat->Nat->Ω->Hp->Prop,(∃m,W 0 m [] (upd H1 D (.lst [])))/\∀i m acc H2,W i m acc H2->H2 D=some (.lst acc) /\
  ((J.stop i H2/\Q H2)\/(J.go i H2/\acc.length<sizeLine/\∀x H3,J.Vf i H2 x H3->g x (σ++List.replicate n none) H3 λσ4 H4=>(σ4.length=σ.length+n/\∀(i:Nat) v,σ[i]?=some (some v)->σ4[i]?=some (some v)) /\
   tt σ4 H4 λb H5=>if b=true then te σ4 H5 λy H6=>H6 D=some (.lst acc)/\∃m',m'<m/\W (i+1) m' (acc++[y]) (upd H6 D (.lst (acc++[y]))) else ∃m',m'<m/\W (i+1) m' acc H5))
section
variable{s:Shared}{ts:π}{cl:List (Str×Addr)}
def DZ{Y:Cx}{pl:qaa}{σ4:St}(I:Inv Y pl σ4 H' s')(hl:σ4.length=σ.length+n)(hs:∀(i:Nat) v,σ[i]?=some (some v)->σ4[i]?=some (some v)) :
  Inv Y pl (σ++List.replicate n none) H' s':=by
 refine I.weak (by rw[jf,P0,hl]) λi v e=>?_;by_cases hi:i<σ.length;rw[rR hi] at e;exact hs i v e;rw[rY (by omega),BE] at e;split at e<;>cases e
def xE{elt tg:Expr}{ifs:qap}{pos:Pos}{tn:Nat->Heap->Prop}{J:It}{g:TG}{tt:TT}{Q:Hp->Prop}{RR:Value->Addr->Result->Shared->Prop}(hc:X.calm=true)(I:Inv X γ σ H s)(T:Turn X.prog X.w X.K tg J fp it tn)(st:tn 0 s.heap)(hf:∀b∈fp,mJ X γ H b)(hS:pM X.N ts X.env.scope sc)(c1:∀y c,cl.lookup y=some c->X.env.cells.lookup y=some c)(c2:∀p∈sc.names,p.2=.free->∃c,cl.lookup p.1=some c)(hg:∀C,PG (bM X ts sc cl C fp s H) tg g)(ht:∀C,Gx (bM X ts sc cl C fp s H) ifs tt)(he:∀C,PE (bM X ts sc cl C fp s H) elt te)(hw:Gy J g tt te ts.length σ s.heap.objs.size Q H)(fin:∀(C:Addr) (H':Hp) (s':Shared) (σ':St),s.heap.objs.size<=C->Inv (bM X ts sc cl C fp s H) [] σ' H' s'->Q H'->RR (.ref s.heap.objs.size) C (.ok .next) s') :
  wpAny (model X.prog X.w) X.A (newList []) (λacc s₃=>wpAny (model X.prog X.w) X.A (newFunctionEnv sc X.env.globals cl [] X.env.qual none .none (some X.env)) (λV_ s₄=>
   codeAny (model X.prog X.w) X.A (.compStart (.ListComp elt [⟨tg,iter,ifs,0⟩] sc pos) 0 (.ref it) acc {V_ with scope:=relabel sc X.env}) (RR acc V_.locals) s₄) E s₃) E s:=by
 obtain⟨W,⟨m0,w0⟩,turn⟩:=hw;have acN:=T.obj 0 _ st;have Ol:∀b∈fp,∃o,s.heap.get? b=some o:=λb hb=>let ⟨o,e,_⟩:=acN b hb;⟨o,e⟩;refine Φ (wpAny_newFunctionEnv hS.Gw (by intro y hy;simp at hy) (λh₁ QV Lp=>?_) hS.kind);dsimp only at QV Lp ⊢;generalize hH2:s.heap.push {cls:=.type "list",dict:=none,data:=.seq ([]:qag).toArray}=H2 at QV Lp ⊢;have hC:H2.objs.size=s.heap.objs.size+1:=by rw[<- hH2,F4]
 have YZ:s.heap.objs.size≠H2.objs.size:=by rw[hC];exact ki (zJ _)
 have V':s.heap.objs.size<=H2.objs.size:=by rw[hC];exact xi _
 have below:∀b,b<s.heap.objs.size->b≠H2.objs.size/\b≠s.heap.objs.size:=λb hb=>⟨by rw[hC];exact ki (Uk hb),ki hb⟩;have old:∀b o,s.heap.get? b=some o->h₁.get? b=some o:=λb o e=>Lp.extBut b o (below b (gu e)).1 (fN _ (hH2▸fN _ e));have acO:h₁.get? s.heap.objs.size=some {cls:=.type "list",data:=.seq ([]:qag).toArray}:=Lp.extBut _ _ YZ (fN _ (hH2▸k4 _ rfl));have Wa:tn 0 h₁:=T.keep _ _ _ st λb hb o e=>old b o e;have fresh:H s.heap.objs.size=none:=I.cj.fresh (cS _);have iC:∀{H':Hp},(∀b∈fp,H' b=none)->∀b∈fp,mJ (bM X ts sc cl H2.objs.size fp s H) [] H' b:=λ{H'} hn b hb=>by obtain⟨o,e⟩:=Ol b hb;refine⟨hn b hb,λz=>?_,B0 I hf b hb,.inl hb,λx c e z=>(hf b hb).2.2.2.2.1 x c (c1 x c e) z,λp hp=>absurd (show p∈([]:qaa) from hp) (by simp)⟩;have z':b=H2.objs.size:=z;exact (below b (gu e)).1 z'
 have tQ:∀b∈fp,(upd H s.heap.objs.size (.lst [])) b=none:=λb hb=>by obtain⟨o,e⟩:=Ol b hb;rw[aG (ki (gu e))];exact (hf b hb).1
 have eN:(ts.map λ_=>(none:Option V))=List.replicate ts.length none:=List.map_const';have loop:∀s₃:Shared,s₃={s with heap:=h₁,toks:=s.toks+([]:List (Str×Value)).length} ->
   codeAny (model X.prog X.w) X.A (.compLoop (.ListComp elt [⟨tg,iter,ifs,0⟩] sc pos) 0 (.ref it) (.ref s.heap.objs.size) (compEnvC sc cl H2.objs.size X.env)) (RR (.ref s.heap.objs.size) H2.objs.size) s₃:=by
  rintro s₃ rfl;have J0:=Lm (ts:=ts) (t:=s.toks+([]:List (Str×Value)).length) I hf Ol hS c1 c2 V' (cS _) YZ old QV acO;rw[eN] at J0;refine j3 (λn s'=>∃i acc H',Inv (bM X ts sc cl H2.objs.size fp s H) [] (σ++List.replicate ts.length none) H' s'/\tn i s'.heap/\(∀b∈fp,H' b=none)/\W i n acc H') ?_ m0 ⟨0,[],_,J0,Wa,tQ,w0⟩;rintro n s3 ⟨i,acc,H3,J3,Vj,Vk,w3⟩;obtain⟨hD3,alt⟩:=turn i n acc H3 w3;obtain⟨stop,q⟩|⟨go,hz,step⟩:=alt
  . refine b_ (T.done (bM X ts sc cl H2.objs.size fp s H) rfl rfl rfl hc i [] s3 _ H3 _ J3 (iC Vk) Vj stop) λr s4 ⟨hr,J4⟩=>?_;subst hr;exact fin _ H3 s4 _ V' J4 q
  refine b_ (T.item (bM X ts sc cl H2.objs.size fp s H) rfl rfl rfl hc i [] s3 _ H3 _ J3 (iC Vk) Vj go) λr s4 ⟨u,hr,h4⟩=>?_;subst hr;refine b_ h4 λ_ s5 ⟨x,H5,J5,r5,y5,Qw,fr5⟩=>?_;have J5':=J5.pinned (iC fr5) (T.obj _ _ Qw);have again:∀{σ7:St}{H7:Hp}{s7:Shared},Inv (bM X ts sc cl H2.objs.size fp s H) ([]++pG fp s5.heap) σ7 H7 s7->(σ7.length=σ.length+ts.length/\∀(i:Nat) v,σ[i]?=some (some v)->σ7[i]?=some (some v))->∀QW m',W (i+1) m' QW H7->m'<n ->
    ∃m,m<n/\∃i acc H',Inv (bM X ts sc cl H2.objs.size fp s H) [] (σ++List.replicate ts.length none) H' s7/\tn i s7.heap/\(∀b∈fp,H' b=none)/\W i m acc H':=λ{σ7 H7 s7} I7 hσ QW m' w7 hm=>by
   refine⟨m',hm,i+1,QW,H7,DZ I7.k_ hσ.1 hσ.2,T.keep _ _ _ Qw λb hb o e=>(I7.pin (b,o) (bZ _ (bZ _ (iE hb e)))).1,λb hb=>?_,w7⟩;obtain⟨o,e,d⟩:=T.obj _ _ Qw b hb;exact (I7.pin (b,o) (bZ _ (bZ _ (iE hb e)))).2.1
  refine Λ (hg H2.objs.size _ s5 _ H5 x u _ J5' r5 (step x H5 y5)) (λ_ s6 ⟨σ6,H6,J6,hσ,q6⟩=>?_) λ_ _ z=>False.elim z;refine Λ (ht H2.objs.size _ s6 σ6 H6 _ J6 q6) (λb s7 ⟨H7,J7,q7⟩=>?_) λ_ _ z=>False.elim z;cases b with
  |false=>obtain⟨m',hm,w7⟩:=q7;exact again J7 hσ acc m' w7 hm
  |true=>show wpAny _ _ _ _ _ _;refine Λ (he H2.objs.size _ s7 σ6 H7 _ J7 q7) (λy s8 ⟨yv,H8,J8,ry,hD8,m',hm,w8⟩=>?_) λ_ _ z=>False.elim z;refine Λ (bR (X:=bM X ts sc cl H2.objs.size fp s H) _ s8 σ6 H8 (.ref s.heap.objs.size) [yv] (.ref s.heap.objs.size) [y] (λv H9=>v=.aQ/\H9=upd H8 s.heap.objs.size (.lst (acc++[yv]))) J8 rfl (.cons ry .nil) ⟨_,acc,yv,rfl,rfl,hD8,hz,rfl,rfl⟩) (λv9 s9 ⟨v,H9,J9,_,_,e9⟩=>?_) λ_ _ z=>False.elim z;subst e9;exact again J9 hσ (acc++[yv]) m' w8 hm
 exact codeAny_compStart_list (loop _ rfl) (T.self _ 0 _ _ _ Wa (loop _ rfl))
def Gz(n:Nat)(wi:TI)(g:TG)(tt:TT)(te:TE):TE:=λσ H Q=>wi σ H λJ H1=>∀D,H1 D=none->Gy J g tt te n σ D (Q (.ref D)) H1
def xF(I:Inv X γ σ H s)(hS:pM X.N ts X.env.scope sc):∀p∈sc.names,p.2=.free->∃c,X.env.cells.lookup p.1=some c:=λp hp hf=>by
 rcases hS.fr p hp hf with z|z
 exact I.ok.has p.1 (.inl z);exact I.ok.has p.1 (.inr z)
def Lq{elt tg:Expr}{ifs:qap}{pos:Pos}{wi:TI}{g:TG}{tt:TT}(hc:X.calm=true)(hS:ko X.N ts X.env.scope sc=true)(hi:PI X tg iter wi)(hg:∀cl C fp s H,PG (bM X ts sc cl C fp s H) tg g)(ht:∀cl C fp s H,Gx (bM X ts sc cl C fp s H) ifs tt)(he:∀cl C fp s H,PE (bM X ts sc cl C fp s H) elt te)(hs:∀x,foldedSetIterable iter X.env x=pure x:=by intro _;rfl):PE X (.ListComp elt [⟨tg,iter,ifs,0⟩] sc pos) (Gz ts.length wi g tt te):=by intro γ s σ H Q I h;have S:=tO hS;obtain⟨cl,QX,c1,c2⟩:=i9 (xF I S);rw[eval_ListComp];refine wpAny_comprehension_free (use:=none) rfl hs QX S.kind S.names ?_;refine b_ (hi γ s σ H _ I h) λv s1 h1=>b_ h1 λYT s2 h2=>?_;obtain⟨it,fp,tn,J,H2,e,I2,T,xr,f2,q2⟩:=h2;subst e;refine xE (E:=X.xe) (RR:=λacc C=>compPost (model X.prog X.w) X.A X.xe none (EP X γ σ Q) acc C) hc I2 T xr f2 S c1 c2 (λC=>hg cl C fp s2 H2) (λC=>ht cl C fp s2 H2) (λC=>he cl C fp s2 H2) (q2 _ (I2.cj.fresh (cS _))) ?_;intro C H' s' σ' hC J' q';obtain⟨m,hn,_⟩:=J'.loc;refine⟨m,hn,λh' sb=>?_⟩;have I':=xD I2 f2 J';have fk:=I2.oy (H':=H') hC J'.free;obtain⟨f0,f1,_,f3,f4,f5⟩:=fk;exact⟨.ref _,H',I'.turned (t':=s'.toks) (λb o hb e=>(sb.2 b hb).trans e) f0 f1 f3 f4 f5,rfl,q'⟩
def Lr{py:Pos}{xG:Pos}{elt tg:Expr}{ifs:qap}{pos:Pos}{wi:TI}{g:TG}{tt:TT}(hN:X.N.Nodup)(hy:X.N[i]?=some y)(hx:Loc X.env.scope y)(hc:X.calm=true)(hS:ko X.N ts X.env.scope sc=true)(hi:PI X tg iter wi)(hg:∀cl C fp s H,PG (bM X ts sc cl C fp s H) tg g)(ht:∀cl C fp s H,Gx (bM X ts sc cl C fp s H) ifs tt)(he:∀cl C fp s H,PE (bM X ts sc cl C fp s H) elt te)(Ls:swapsWith (.ListComp elt [⟨tg,iter,ifs,0⟩] sc pos) (some (.Name y py)) xG.line X.env=pure true:=by rfl)(hs:∀x,foldedSetIterable iter X.env x=pure x:=by intro _;rfl)(hf:X.fn y=true\/X.env.scope.names.lookup y=some .local:=by first|exact .inl rfl|exact .inr rfl|assumption) :
  PS X (.Assign [.Name y py] (.ListComp elt [⟨tg,iter,ifs,0⟩] sc pos) xG) (K7 (Gz ts.length wi g tt te) (j7 i)):=by
 intro γ s σ H D I h;have S:=tO hS;obtain⟨cl,QX,c1,c2⟩:=i9 (xF I S);rw[exec_Assign_Name_used _ _ _ _ Ls];refine δ (wpAny_standAt (δ ?_));show wpAny _ X.A (do let _ <- comprehension (.ListComp elt [⟨tg,iter,ifs,0⟩] sc pos) sc X.env _ (newList []) false (eval iter X.env) (some (assign (.Name y py) X.env))) _ _ s;refine δ (Λ (wpAny_comprehension_free (use:=some (assign (.Name y py) X.env)) (Q:=λ_ s'=>SP X γ D .next s') (E:=X.xe) rfl hs QX S.kind S.names ?_) (λ_ s' hq=>ζ (ζ hq)) λ_ _ e=>e);refine b_ (hi γ s σ H _ I h) λv s1 h1=>b_ h1 λYT s2 h2=>?_;obtain⟨it,fp,tn,J,H2,e,I2,T,xr,f2,q2⟩:=h2;subst e;refine xE (E:=X.xe) (RR:=λacc C=>compPost (model X.prog X.w) X.A X.xe (some (assign (.Name y py) X.env)) (λ_ s'=>SP X γ D .next s') acc C) hc I2 T xr f2 S c1 c2 (λC=>hg cl C fp s2 H2) (λC=>ht cl C fp s2 H2) (λC=>he cl C fp s2 H2) (q2 _ (I2.cj.fresh (cS _))) ?_;intro C H' s' σ' hC J' q';obtain⟨m,hn,_⟩:=J'.loc;have I':=xD I2 f2 J';have fk:=I2.oy (H':=H') hC J'.free;obtain⟨f0,f1,_,f3,f4,f5⟩:=fk;show wpAny _ X.A (assign (.Name y py) X.env (.ref s2.heap.objs.size)) _ _ s';refine wpAny_assign_Name (tD (v:=.ref s2.heap.objs.size) I' hN hy hx rfl (λs3 I3 ⟨a,sb,ha⟩=>?_) hf);have hCa:C≠a:=by
  obtain z|z:=ha
  rw[z];exact f1;exact λe=>f4 y a z e.symm
 refine⟨m,hn.sameBut sb hCa,λh' sb'=>?_⟩;exact⟨_,H',I3.turned (t':=s3.toks) (λb o hb e=>(sb'.2 b hb).trans e) f0 f1 f3 f4 f5,q'⟩
end
noncomputable def Y1(x:Str):It:=⟨λi _=>i<x.cps.size,λi H v H'=>H'=H/\∃c,x.cps[i]?=some c/\v=.str ⟨#[c]⟩,λi _=>x.cps.size<=i⟩
def dH(x:Str):(strIterType x="str_ascii_iterator")\/(strIterType x="str_iterator"):=by unfold strIterType;cases x.cps.all (·<128);exact .inr rfl;exact .inl rfl
def GA{tg:Expr}(x:Str)(t:Tok)(it:Addr):Turn P w K tg (Y1 x) [it] it (λi h=>h.IsStrIter it (strIterType x) x t i) where
 mem:=by simp
 obj:=λi h st b hb=>by
  have e:b=it:=by simpa using hb
  subst e;obtain⟨o,e,c,d⟩:=st;exact⟨o,e,λv z=>by rw[d] at z;cases z⟩
 keep:=λi h h' st k=>by obtain⟨o,e,c,d⟩:=st;exact⟨o,k it (by simp) o e,c,d⟩
 item:=by
  intro X hP hw hK hc i γ s σ H E I hf st hg;subst hP hw hK;obtain⟨f0,f1,f2,f3,f4,f5⟩:=hf it (by simp);have hi:i<x.cps.size:=hg;have hx:x.cps[i]?=some x.cps[i]:=by simp[hi]
  have fin:∀h',h'.IsStrIter it (strIterType x) x t (i+1)->Heap.SameBut it s.heap h'->∃u,(some (Value.str ⟨#[x.cps[i]]⟩ s.toks):Option Value)=some u /\
    wpAny (model X.prog X.w) X.A (letOwnedTupleGo tg (.ref it) u) (λ_ s2=>∃y H',Inv X γ σ H' s2/\RelV y u/\(Y1 x).Vf i H y H'/\Heap.IsStrIter s2.heap it (strIterType x) x t (i+1)/\∀b∈[it],H' b=none) E {s with heap:=h',toks:=s.toks+1}:=λh' zQ sb=>by
   have I1:Inv X γ σ H {s with heap:=h',toks:=s.toks+1}:=I.turned (t':=s.toks+1) (λb o hb e=>(sb.2 b hb).trans e) f0 f1 f3 f4 f5;obtain⟨o,e,c,d⟩:=id zQ;refine⟨_,rfl,BM (s:={s with heap:=h',toks:=s.toks+1}) e c d ?_ ⟨.str ⟨#[x.cps[i]]⟩,H,I1,⟨_,rfl⟩,⟨rfl,_,hx,rfl⟩,zQ,λb hb=>(hf b hb).1⟩⟩;rcases dH x with z|z<;>rw[z]<;>decide
  rcases dH x with z|z
  rw[z] at st fin;refine wpAny_pyNext_ascii_item st hx λh' zQ sb=>?_;have:=fin h' zQ sb;rw[<- z] at this;simpa[z] using this;rw[z] at st fin;refine wpAny_pyNext_wide_item st hx λh' zQ sb=>?_;have:=fin h' zQ sb;simpa[z] using this
 done:=by
  intro X hP hw hK hc i γ s σ H E I hf st hg;subst hP hw hK;obtain⟨f0,f1,f2,f3,f4,f5⟩:=hf it (by simp);have hi:x.cps.size<=i:=hg;have hx:x.cps[i]?=none:=by simp[hi]
  rcases dH x with z|z
  rw[z] at st;exact wpAny_pyNext_ascii_end (I.ok.hd hc) st hx λh' eb=>⟨rfl,I.turned (t':=s.toks) (λb o hb e=>eb b o hb e) f0 f1 f3 f4 f5⟩;rw[z] at st;exact wpAny_pyNext_wide_end (I.ok.hd hc) st hx λh' eb=>⟨rfl,I.turned (t':=s.toks) (λb o hb e=>eb b o hb e) f0 f1 f3 f4 f5⟩
 self:=λA i s Q E st h=>by
  rcases dH x with z|z
  rw[z] at st;exact wpAny_pyIter_striter_ascii st h;rw[z] at st;exact wpAny_pyIter_striter_wide st h
section
variable{tg:Expr}
def pN(hc:X.calm=true):eE X (.builtin "all") (λxs H Q=>∃(p:Addr)(bs:List Bool),xs=[.ref p]/\gw X.K H p (bs.map V.bl)/\Q (.bl (bs.all id)) H):=by
 intro γ s σ H xs us Q I r h;obtain⟨p,bs,rfl,hq,q⟩:=h;obtain⟨u,rfl,rx⟩:=vals1 r;cases rx;obtain⟨aP,rv,pl,hz⟩:=I.list hq;refine call_all_walk (wpAny_pyIter_list pl.isList ?_);have h9:p<s.heap.objs.size:=by obtain⟨o,n,e,_⟩:=pl;exact gu e
 have fY:p≠s.heap.objs.size:=ki h9;have hh:X.A.in1.handled=none:=I.ok.hd hc;refine⟨s.heap.objs.size,_,_,_,_,_,λi=>bs.getD i true,rfl,Walks.list hh s.heap.objs.size p fY aP.toArray,⟨⟨_,k4 _ rfl,rfl,rfl⟩,pl.isList.push _⟩,?_,λh' tk k=>?_⟩;intro i v s' Q' E' hP hQ;have Wb:aP[i]?=some v:=by simpa using hP
 have hb:i<bs.length:=by have:=rv.length;have h2:=(fQ.mp Wb).1;rw[cJ] at this;omega
 obtain⟨u,e1,r1⟩:=rv.get (i:=i) (x:=.bl bs[i]) (by simp[hb]);rw[Wb] at e1;cases e1;obtain rfl:v=Value.bool bs[i]:=r1;have e3:bs.getD i true=bs[i]:=by simp[List.getD,hb]
 dsimp only at hQ;rw[e3] at hQ;exact Ξ hQ;have hl:aP.toArray.size=bs.length:=by have:=rv.length;rw[cJ] at this;rw[jP];omega
 have e:(List.range aP.toArray.size).all (λi=>bs.getD i true)=bs.all id:=by rw[hl,N9,P9,P9];constructor;intro h x hx;obtain⟨i,hi,e⟩:=List.mem_iff_getElem.mp hx;have:=h i (Kj.mpr hi);simp only[List.getD,mz hi,Option.getD_some] at this;rw[<- e];exact this;intro h i hi;have Ku:=Kj.mp hi;simp only[List.getD,mz Ku,Option.getD_some];exact h _ (P_ Ku)
 rw[e];refine⟨.bl (bs.all id),H,?_,rfl,q⟩;have I0:Inv X γ σ H {s with heap:=s.heap.push {cls:=.type "list_iterator",data:=.fields #[.ref p,.int 0 0]} }:=I.kept (t':=s.toks) λb o e=>fN _ e;have fk:=I.oy (H':=H) (cS s.heap.objs.size) I.fresh;obtain⟨f0,f1,_,f3,f4,f5⟩:=fk;exact I0.turned (t':=tk) (λb o hb e=>k b o (by simpa using hb) e) f0 f1 f3 f4 f5
def sg:Li X "str.startswith" (λx xs H Q=>∃z y,x=.str z/\xs=[.str y]/\Q (.bl (Txt.startswith z y)) H):=by intro γ s σ H x xs v us Q I rx rs h;obtain⟨z,y,rfl,rfl,q⟩:=h;obtain⟨t,rfl⟩:=rx;obtain⟨u,rfl,t',rfl⟩:=vals1 rs;exact SC.startswith ⟨.bl _,H,I,rfl,q⟩
theorem pO:∀{ys:π}{us:qag},Vals (ys.map V.str) us->StrsAre us ys
 |[],us,r=>by rw[Km] at r;cases r;exact .nil
 |y::ys,us,r=>by
  rw[fU] at r;cases r with
  |cons r1 r2=>obtain⟨t,e⟩:=r1;subst e;exact .cons y t (pO r2)
def Lu:Li X "str.join" (λx xs H Q=>∃(z:Str)(p:Addr)(ys:π),x=.str z/\xs=[.ref p]/\gw X.K H p (ys.map V.str)/\(ys.map (·.length)).sum+ys.length * z.length<=16777216/\Q (.str (Txt.join z ys)) H):=by intro γ s σ H x xs v us Q I rx rs h;obtain⟨z,p,ys,rfl,rfl,hq,hz,q⟩:=h;obtain⟨t,rfl⟩:=rx;obtain⟨u,rfl,r1⟩:=vals1 rs;cases r1;obtain⟨aP,rv,pl,_⟩:=I.list hq;exact join_list pl.isList (by simpa using pO rv) hz λt' k=>⟨.str _,H,I.tok _,⟨_,rfl⟩,q⟩
def Wc:V->Option Int->Option Int->Hp->VK->Prop:=λx lo hi H Q=>∃z,x=.str z/\z.length<=sizeLine/\Q (.str (Txt.slice z lo hi)) H
def QY:Fz X Wc:=by
 intro γ s σ H x v vl vu lo hi sl Q I rx hs pl pu h;obtain⟨z,rfl,hz,q⟩:=h;obtain⟨t,rfl⟩:=rx;obtain⟨o,e,c,d⟩:=hs;refine⟨"str",_,slot_str_getitem.lookup,typeIs_str _ _ _,?_⟩;cases pl with
 |none=>
  cases pu with
  |none=>exact aaf (l:=none) (u:=none) (st:=none) ⟨o,e,c,d⟩ rfl (aav ⟨fM (Txt.slice_le z _ _) hz,λt' k=>⟨.str _,H,I.tok _,⟨_,rfl⟩,q⟩⟩)
  |int j tj=>exact aaf (l:=none) (u:=some (j,tj)) (st:=none) ⟨o,e,c,d⟩ rfl (aav ⟨fM (Txt.slice_le z _ _) hz,λt' k=>⟨.str _,H,I.tok _,⟨_,rfl⟩,q⟩⟩)
 |int i ti=>
  cases pu with
  |none=>exact aaf (l:=some (i,ti)) (u:=none) (st:=none) ⟨o,e,c,d⟩ rfl (aav ⟨fM (Txt.slice_le z _ _) hz,λt' k=>⟨.str _,H,I.tok _,⟨_,rfl⟩,q⟩⟩)
  |int j tj=>exact aaf (l:=some (i,ti)) (u:=some (j,tj)) (st:=none) ⟨o,e,c,d⟩ rfl (aav ⟨fM (Txt.slice_le z _ _) hz,λt' k=>⟨.str _,H,I.tok _,⟨_,rfl⟩,q⟩⟩)
end
def aA{D:Addr}{o:HO}(h:H D=none):aO H (upd H D o):=λb u e=>by rw[aG (bo e h)];exact e
section
variable{s:Shared}
def Inv.grown{ch:ο}{t:Addr}{o:HO}(I:Inv X γ σ H s)(k:∀b u,b∉ch->s.heap.get? b=some u->h'.get? b=some u)(hf:∀b∈ch,mJ X γ H b)(ht:s.heap.objs.size<=t)(new:cp X.prog X.w (upd H t o) h' t o):Inv X γ σ (upd H t o) {s with heap:=h',toks:=t'}:=by
 have hn:H t=none:=I.cj.fresh ht;have F9:∀b u,H b=some u->b∉ch:=λb u e z=>by rw[(hf b z).1] at e;cases e
 refine I.step (g':=s.gens) (d':=s.drawn) (ch:=ch) (λb hb=>?_) (λb u _ _ hc e _=>k b u hc e) (λb u _ _ hc e _=>⟨u.slots,k b u hc e⟩) (λb u _ e n=>?_) (λb u hc e=>⟨u,k b u hc e⟩)
  (λb xs e=>?_) (λb u v e=>?_) (λb ps e=>⟨#[],?_⟩) (λm hm=>?_) (λb u e=>?_) I.bare
 obtain⟨_,f1,_,f3,f4,f5⟩:=hf b hb;exact⟨f3,f1,f4,f5⟩;rw[aG (ki (rZ (gu e) ht))];exact n;rw[aG (bo e hn)];exact e;rw[aG (bo e hn)];exact e;rw[aG (bo e hn),e];simp;obtain⟨ob,es,ep,ho,r⟩:=hm;exact⟨ob,es,ep,k _ ob (λz=>(hf _ z).2.1 rfl) ho,r⟩;by_cases hb:b=t;subst hb;rw[aC] at e;cases e;exact new;rw[aG hb] at e;refine (I.cj b u e).zL (λc v hc q=>k c v ?_ q) (λc q=>by rw[aG (bo q hn)];exact q) λc xs q=>by rw[aG (bo q hn)];exact q
 obtain z|z:=hc
 rw[z];exact F9 b u e;exact F9 c _ z
end
noncomputable def Ite(K:Δ)(a:Addr):It :=
 ⟨λi H=>∃xs x,gw K H a xs/\xs[i]?=some x,λi H v H'=>∃t x,H t=none/\v=.ref t/\(∀xs,gw K H a xs->xs[i]?=some x)/\H'=upd H t (.tup [.int (i:Int),x]),λi H=>∃xs,gw K H a xs/\xs.length<=i⟩
def D0{x1}(a e it:Addr)(fY:e≠it) :
  Turn P w K (.Tuple elts x1 tp) (Ite K a) [e,it] e (λi h=>(∃old,IsEnum h e it (i:Int) old)/\h.IsListIter it a i) where
 mem:=by simp
 obj:=λi h st b hb=>by
  obtain⟨⟨old,h1⟩,o,h2,c,d⟩:=st;rcases cU.mp hb with z|z
  subst z;exact⟨_,h1,λv z=>by cases z⟩;have z':b=it:=by simpa using z
  subst z';exact⟨o,h2,λv z=>by rw[d] at z;cases z⟩
 keep:=λi h h' st k=>by obtain⟨⟨old,h1⟩,xr⟩:=st;exact⟨⟨old,k e (by simp) _ h1⟩,xr.at λo q=>k it (by simp) o q⟩
 item:=by
  intro X hP hw hK hc i γ s σ H E I hf st hg;subst hP hw hK;obtain⟨xs,x,hq,hx⟩:=hg;obtain⟨aP,rv,p,hz⟩:=I.list hq;obtain⟨u,hu,ru⟩:=rv.get hx;obtain⟨⟨old,h1⟩,xr⟩:=st;refine wpAny_pyNext_enum_item h1 xr p.isList (x:=u) (by simpa using hu) fY λh₁ Kn QZ ht₁ FC hk₁=>?_;refine⟨_,rfl,wpAny_letOwnedTupleGo_enum Kn λh₂ he₂ pP=>?_⟩;have ll:Heap.SameBut e h₁ h₂:=pP;have h9:e<s.heap.objs.size:=gu h1;have Wd:s.heap.objs.size≠e:=DA h9;have kk:∀b ob,b∉[e,it]->s.heap.get? b=some ob->h₂.get? b=some ob:=λb ob hb q=>by have DD:b≠e:=λz=>hb (by simp[z]);have hbi:b≠it:=λz=>hb (by simp[z]);exact (ll.2 b DD).trans (hk₁ b ob DD hbi q)
  have new:cp X.prog X.w (upd H s.heap.objs.size (.tup [.int (i:Int),x])) h₂ s.heap.objs.size (.tup [.int (i:Int),x]) :=
   ⟨by show 2<=sizeLine;rw[μ];decide,[.int i s.toks,u],.cons ⟨_,rfl⟩ (.cons ru .nil),⟨_,(ll.2 _ Wd).trans ht₁,rfl,_,rfl⟩⟩
  refine⟨.ref s.heap.objs.size,upd H s.heap.objs.size (.tup [.int (i:Int),x]),I.grown (t':=s.toks+1) kk hf (cS _) new,rfl,⟨_,x,I.fresh,rfl,λys hy=>by rw[I.pD hy hq];exact hx,rfl⟩,⟨⟨u,?_⟩,?_⟩,λb hb=>?_⟩;have:((i:Int)+1)=((i+1:Nat):Int):=by omega
  rw[<- this];exact he₂;obtain⟨o,q,r⟩:=QZ;exact⟨o,(ll.2 it (Ne.symm fY)).trans q,r⟩;have GB:b<s.heap.objs.size:=by
   rcases cU.mp hb with z|z
   subst z;exact h9;have z':b=it:=by simpa using z
   subst z';obtain⟨o,q,_⟩:=xr;exact gu q
  rw[aG (ki GB)];exact (hf b hb).1
 done:=by intro X hP hw hK hc i γ s σ H E I hf st hg;subst hP hw hK;obtain⟨xs,hq,hx⟩:=hg;obtain⟨aP,rv,p,hz⟩:=I.list hq;have hl:=rv.length;obtain⟨⟨old,h1⟩,xr⟩:=st;obtain⟨f0,f1,f2,f3,f4,f5⟩:=hf it (by simp);exact wpAny_pyNext_enum_end (I.ok.hd hc) h1 xr p.isList (by simp;omega) λh' eb=>⟨rfl,I.turned (t':=s.toks) (λb o hb q=>eb b o hb q) f0 f1 f3 f4 f5⟩
 self:=λ_ _ _ _ _ st h=>by obtain⟨⟨old,h1⟩,_⟩:=st;exact aao h1 h
noncomputable def We(K:Δ)(ta:TA):TI:=λσ H R=>ta σ H λvs H1=>∃a,vs=[.ref a]/\(∃xs,gw K H1 a xs)/\R (Ite K a) H1
section
def boot_enumerate:bootBuiltins "enumerate"=some (.type "enumerate"):=by decide +kernel
def Lw{x1}{a:Expr}{ta:TA}{pos:Pos}(hg:Gl X "enumerate")(hm:X.mg "enumerate"=none)(ha:PA X [a] ta)(hs:starEach [a] X.env=[(false,eval a X.env)]:=by rfl) :
  PI X (.Tuple elts x1 tp) (.Call (.Name "enumerate" p) [a] [] pos) (We X.K ta):=by
 intro γ s σ H R I h;refine Call_ (jh I hg hm boot_enumerate (T' (b_ (ha pos γ s σ H _ I h) λus s1 ⟨vs,H1,I1,r1,q1⟩=>?_) hs rfl));obtain⟨b,e,⟨xs,hq⟩,q⟩:=q1;subst e;obtain⟨u,rfl,ru⟩:=vals1 r1;cases ru;obtain⟨aP,rv,pl,hz⟩:=I1.list hq;refine call_enumerate_list pl.isList λh' he hit hsz hk=>?_;have I2:Inv X γ σ H1 {s1 with heap:=h'}:=I1.kept (t':=s1.toks) hk;refine aao he ?_;refine⟨s1.heap.objs.size+1,[s1.heap.objs.size+1,s1.heap.objs.size],_,_,H1,rfl,I2,D0 b _ _ (DA (zJ _)),⟨⟨_,he⟩,hit⟩,λc hc=>?_,q⟩;rcases cU.mp hc with z|z
 subst z;exact I1.oy (xi _) (I1.cj.fresh (xi _));have z':c=s1.heap.objs.size:=by simpa using z
 subst z';exact I1.oy (cS _) I1.fresh
end
end L2
namespace nP
open PySem Builtin Builtin.Str
noncomputable def bT:Str:="abcdefghijklmnopqrstuvwxyz"
noncomputable def D2(c:Nat):Bool:=!(occurrences bT ⟨#[c]⟩ 0 bT.length 1).isEmpty
def Lx:D2 46=false:=by decide +kernel
def Af:((".":String):Str)=⟨#[46]⟩:=by decide +kernel
noncomputable def c_(x:Str):Bool:=decide (1<=(x.length:Int)) && (decide ((x.length:Int)<=8) && x.cps.toList.all D2)
noncomputable def pQ(x:Str):Bool:=Txt.startswith x "." && c_ (Txt.slice x (some 1) none)
def sh(h:x.cps.toList.all D2=true):Txt.startswith x "."=false:=by
 obtain⟨⟨l⟩⟩:=x;rw[Af];unfold Txt.startswith subAt;cases l with
 |nil=>rfl
 |cons c r=>
  have hc:D2 c=true:=by have:=P9.mp h c (by simp);exact this
  have ne:c≠46:=λe=>by rw[e,Lx] at hc;cases hc
  have e1:(Array.extract ({toList:=c::r}:Array Nat) 0 (0+(Str.mk #[46]).length)==(Str.mk #[46]).cps)=false:=by rw[Θ];intro q;have q2:=Ψ (λa=>a[0]?) q;simp[Str.length] at q2;exact ne q2
  show (decide _ && (Array.extract ({toList:=c::r}:Array Nat) 0 (0+(Str.mk #[46]).length)==(Str.mk #[46]).cps))=false;rw[e1,Bool.and_false]
def uP(h:c_ x=true):x.cps.toList.all D2=true:=by unfold c_ at h;rw[oR,oR] at h;exact h.2.2
def pR(x:Str):Txt.startswith ((".":String)++x) "."=true:=by obtain⟨⟨l⟩⟩:=x;rw[Af];unfold Txt.startswith subAt;rw[oR];refine⟨?_,?_⟩;apply ν;show 0+1<=(#[46]++({toList:=l}:Array Nat)).size;simp;show (Array.extract (#[46]++({toList:=l}:Array Nat)) 0 (0+1)==#[46])=true;rw[aaw];apply Array.ext';simp
def tR(x:Str):Txt.slice ((".":String)++x) (some 1) none=x:=by
 obtain⟨⟨l⟩⟩:=x;rw[Af];have hl:(Str.length (Str.mk #[46]++Str.mk {toList:=l}))=l.length+1:=by show (#[46]++({toList:=l}:Array Nat)).size=_;simp
 have hi:strSliceIndices (some 1) none 1 (l.length+1)=(List.range l.length).map (λk=>k+1):=by
  unfold strSliceIndices sliceRange;simp only[show (1:Int) > 0 by decide,aal];have e0:max 0 (min (if (1:Int)<0 then 1+((l.length+1:Nat):Int) else 1) ((l.length+1:Nat):Int))=1:=by rw[η (by decide)];omega
  rw[e0];by_cases hn:l.length=0;rw[hn];rfl;have e1:((1:Int)<((l.length+1:Nat):Int)):=by omega
  rw[ε e1];have e2:((((l.length+1:Nat):Int)-1+1-1) / 1).toNat=l.length:=by rw[Int.ediv_one];omega
  rw[e2];apply N6;intro k hk;omega
 unfold Txt.slice;rw[hl,hi];have fY:¬ (((1:Int)==1 && (List.map (λk=>k+1) (List.range l.length)).length==l.length+1)=true):=by rw[oR,cJ,N8];intro q;have:=aaw.mp q.2;omega
 rw[η fY]
 congr 1
 apply Array.ext';rw[List.toList_toArray];show List.filterMap (λi=>(#[46]++({toList:=l}:Array Nat))[i]?) (List.map (λk=>k+1) (List.range l.length))=l;rw[List.filterMap_map];have e:∀k,((λi=>(#[46]++({toList:=l}:Array Nat))[i]?) ∘ λk=>k+1) k=l[k]?:=λk=>by show (#[46]++({toList:=l}:Array Nat))[k+1]?=l[k]?;rw[<- Array.getElem?_toList];simp
 rw[show ((λi=>(#[46]++({toList:=l}:Array Nat))[i]?) ∘ λk=>k+1)=λk=>l[k]? from funext e];clear e fY hi hl;induction l with
 |nil=>rfl
 |cons a r ih=>
  rw[BF,List.range_succ_eq_map,j5];simp only[YD,List.filterMap_map]
  congr 1
end nP
namespace VT
open PySem PySem.Spec PyProof.Rows L2
abbrev St:=L2.St
inductive T where
 |aQ|bl (b:Bool)|int (i:Int)|str (x:Str)|tup (l:List T)|lst (l:List T)|dk (ks:List Key) (vs:List T)|dt (ks:List (List Key)) (vs:List T)|dc (nh:List Key×Key->Int) (ks:List (List Key×Key)) (vs:List T)|kt (k:List Key)|ins (C:Addr) (ns:π) (vs:List T)|pin (a:Addr) (t:T)|ob (a:Addr)|ty (n:String)
def si(K:Δ)(H:Hp)(O:ο)(a:Addr)(vs:Ω):Prop :=
 (Rd H a (.lst vs)/\a∉O)\/∃(o:Obj)(aP:Array Value)(n:Nat),K.lookup a=some o/\o.cls=.type "list"/\o.dict=none/\o.data=.seq aP n/\aP.size<=sizeLine/\Vals vs aP.toList
def si.sq{O:ο}(h:si K H O a vs):gw K H a vs:=by
 obtain h|h:=h
 exact .inl h.1;exact .inr h
def uQ(H:Hp)(O:ο)(a:Addr)(u:HO):Prop:=H a=some u/\a∉O
def mO(nh:List Key×Key->Int)(a:Addr)(xs:List ((List Key×Key)×Addr×Value)):Heap->Prop:=λh=>∃o es ep,h.get? a=some o/\o.ExactDict/\o.data=.dict es ep/\es.toList=xs.map (λx=>⟨nh x.1,.ref x.2.1,x.2.2⟩)/\(xs.map (·.1)).Nodup
def oA(K:Δ)(H:Hp)(c:List Key×Key)(b:Addr):Prop:=∃d,dz K H b [.ref d,kV c.2]/\dz K H d (c.1.map kV)
mutual
def At(K:Δ)(H:Hp)(O:ο):T->V->Prop
 |.aQ,v=>v=.aQ
 |.bl b,v=>v=.bl b
 |.int i,v=>v=.int i
 |.str x,v=>v=.str x
 |.ob a,v=>v=.ref a
 |.ty n,v=>v=.ty n
 |.tup ts,v=>∃a vs,v=.ref a/\dz K H a vs/\az K H O ts vs
 |.lst ts,v=>∃a vs,v=.ref a/\si K H O a vs/\az K H O ts vs
 |.dk ks ts,v=>∃a vs,v=.ref a/\ks.length=vs.length/\uQ H O a (.dK (ks.zip vs))/\az K H O ts vs
 |.dt ks ts,v=>∃a vs,v=.ref a/\ks.length=vs.length/\uQ H O a (.dT (ks.zip vs))/\az K H O ts vs
 |.dc nh ks ts,v=>∃a xs vs,v=.ref a/\uQ H O a (.ext (mO nh a xs))/\ks=xs.map (·.1)/\(a==sysModules)=false/\(∀x∈xs,oA K H x.1 x.2.1)/\Vals vs (xs.map (·.2.2))/\az K H O ts vs
 |.kt k,v=>∃a,v=.ref a/\uQ H O a (.tup (k.map kV))
 |.pin a t,v=>v=.ref a/\At K H O t v
 |.ins C ns ts,v=>∃a dx vs,v=.ref a/\ns.length=vs.length/\uQ H O a (.ins C dx (ns.zip vs))/\az K H O ts vs
def az(K:Δ)(H:Hp)(O:ο):List T->Ω->Prop
 |[],vs=>vs=[]
 |t::ts,vs=>∃v r,vs=v::r/\At K H O t v/\az K H O ts r
end
section
variable{O O':ο}
mutual
theorem At.map(hl:∀a vs,si K H O a vs->si K H' O' a vs)(ht:∀a vs,dz K H a vs->dz K H' a vs)(hd:∀a u,uQ H O a u->uQ H' O' a u):∀{t:T}{v:V},At K H O t v->At K H' O' t v
 |.aQ,_,h=>by simpa only[At] using h
 |.bl _,_,h=>by simpa only[At] using h
 |.int _,_,h=>by simpa only[At] using h
 |.str _,_,h=>by simpa only[At] using h
 |.ob _,_,h=>by simpa only[At] using h
 |.ty _,_,h=>by simpa only[At] using h
 |.tup ts,_,h=>by simp only[At] at h ⊢;obtain⟨a,vs,e,h1,h2⟩:=h;exact⟨a,vs,e,ht a vs h1,az.map hl ht hd h2⟩
 |.lst ts,_,h=>by simp only[At] at h ⊢;obtain⟨a,vs,e,h1,h2⟩:=h;exact⟨a,vs,e,hl a vs h1,az.map hl ht hd h2⟩
 |.dk ks ts,_,h=>by simp only[At] at h ⊢;obtain⟨a,vs,e,h0,h1,h2⟩:=h;exact⟨a,vs,e,h0,hd _ _ h1,az.map hl ht hd h2⟩
 |.dt ks ts,_,h=>by simp only[At] at h ⊢;obtain⟨a,vs,e,h0,h1,h2⟩:=h;exact⟨a,vs,e,h0,hd _ _ h1,az.map hl ht hd h2⟩
 |.dc nh ks ts,_,h=>by simp only[At] at h ⊢;obtain⟨a,xs,vs,e,h0,h1,hm,h2,h3,h4⟩:=h;exact⟨a,xs,vs,e,hd _ _ h0,h1,hm,λx hx=>let ⟨d,q1,q2⟩:=h2 x hx;⟨d,ht _ _ q1,ht _ _ q2⟩,h3,az.map hl ht hd h4⟩
 |.kt k,_,h=>by simp only[At] at h ⊢;obtain⟨a,e,h1⟩:=h;exact⟨a,e,hd _ _ h1⟩
 |.pin a t,_,h=>by simp only[At] at h ⊢;exact⟨h.1,At.map hl ht hd h.2⟩
 |.ins C ns ts,_,h=>by simp only[At] at h ⊢;obtain⟨a,dx,vs,e,h0,h1,h2⟩:=h;exact⟨a,dx,vs,e,h0,hd _ _ h1,az.map hl ht hd h2⟩
theorem az.map(hl:∀a vs,si K H O a vs->si K H' O' a vs)(ht:∀a vs,dz K H a vs->dz K H' a vs)(hd:∀a u,uQ H O a u->uQ H' O' a u):∀{ts:List T}{vs:Ω},az K H O ts vs->az K H' O' ts vs
 |[],_,h=>by simpa only[az] using h
 |t::ts,_,h=>by simp only[az] at h ⊢;obtain⟨v,r,e,h1,h2⟩:=h;exact⟨v,r,e,At.map hl ht hd h1,az.map hl ht hd h2⟩
end
def Rd.same{u:HO}(s:aO H H')(h:Rd H a u):Rd H' a u:=by
 obtain h|⟨o,h⟩:=h
 exact .inl (s _ _ h);exact .inr ⟨o,s _ _ h⟩
def dz.same(s:aO H H')(h:dz K H a vs):dz K H' a vs:=by
 obtain h|h:=h
 exact .inl (Rd.same s h);exact .inr h
def si.same(s:aO H H')(h:si K H O a vs):si K H' O a vs:=by
 obtain h|h:=h
 exact .inl ⟨Rd.same s h.1,h.2⟩;exact .inr h
def At.same{t:T}(s:aO H H')(h:At K H O t v):At K H' O t v:=At.map (λ_ _ q=>q.same s) (λ_ _ q=>dz.same s q) (λ_ _ q=>⟨s _ _ q.1,q.2⟩) h
def az.same{t:List T}{v:Ω}(s:aO H H')(h:az K H O t v):az K H' O t v:=az.map (λ_ _ q=>q.same s) (λ_ _ q=>dz.same s q) (λ_ _ q=>⟨s _ _ q.1,q.2⟩) h
def At.aY{t:T}(s:∀a∈O',a∈O)(h:At K H O t v):At K H O' t v :=
 At.map (λa vs q=>q.elim (λz=>.inl ⟨z.1,λm=>z.2 (s a m)⟩) .inr) (λ_ _ q=>q) (λa _ q=>⟨q.1,λm=>q.2 (s a m)⟩) h
def az.aY{t:List T}{v:Ω}(s:∀a∈O',a∈O)(h:az K H O t v):az K H O' t v :=
 az.map (λa vs q=>q.elim (λz=>.inl ⟨z.1,λm=>z.2 (s a m)⟩) .inr) (λ_ _ q=>q) (λa _ q=>⟨q.1,λm=>q.2 (s a m)⟩) h
def Rd.some{u:HO}(h:Rd H a u):H a≠none:=by obtain h|⟨o,h⟩:=h<;>rw[h]<;>simp
def At.more{t:T}(s:∀a∈O',a∈O\/H a=none)(h:At K H O t v):At K H O' t v :=
 At.map (λa vs q=>q.elim (λz=>.inl ⟨z.1,λm=>(s a m).elim z.2 (Rd.some z.1)⟩) .inr) (λ_ _ q=>q) (λa a8 q=>⟨q.1,λm=>(s a m).elim q.2 (by rw[q.1];simp)⟩) h
def az.more{t:List T}{v:Ω}(s:∀a∈O',a∈O\/H a=none)(h:az K H O t v):az K H O' t v :=
 az.map (λa vs q=>q.elim (λz=>.inl ⟨z.1,λm=>(s a m).elim z.2 (Rd.some z.1)⟩) .inr) (λ_ _ q=>q) (λa a8 q=>⟨q.1,λm=>(s a m).elim q.2 (by rw[q.1];simp)⟩) h
noncomputable def j4:HO->Bool
 |.lst _=>true
 |.dK _=>true
 |.dT _=>true
 |.ins _ _ _=>true
 |.ext _=>true
 |_=>false
def At.wrote{t:T}{o u:HO}(ha:a∈O)(hu:H a=some u)(hm:j4 u=true)(h:At K H O t v):At K (upd H a o) O t v:=by
 have ne:∀b,b∉O->b≠a:=λb hb e=>hb (by rw[e];exact ha);refine At.map (λb vs q=>?_) (λb vs q=>?_) (λb a8 q=>?_) h;obtain q|q:=q
 refine .inl ⟨?_,q.2⟩;obtain z|⟨o',z⟩:=q.1
 exact .inl (by rw[aG (ne b q.2)];exact z);exact .inr ⟨o',by rw[aG (ne b q.2)];exact z⟩;exact .inr q;obtain z|z:=q
 refine .inl ?_;obtain z|⟨o',z⟩:=z
 exact .inl (by rw[aG (F6 z hu (by intro e;subst e;cases hm))];exact z);exact .inr ⟨o',by rw[aG (F6 z hu (by intro e;subst e;cases hm))];exact z⟩;exact .inr z;exact⟨by rw[aG (ne b q.2)];exact q.1,q.2⟩
def az.iff{ts:List T}:∀{vs:Ω},az K H O ts vs↔Paired (λv t=>At K H O t v) vs ts:=by
 induction ts with
 |nil=>intro vs;simp only[az];exact⟨λe=>by subst e;exact .nil,λh=>by cases h;rfl⟩
 |cons t ts ih=>
  intro vs;simp only[az];constructor;rintro⟨v,r,rfl,h1,h2⟩;exact .cons h1 (ih.mp h2);intro h;cases h with
  |cons h1 h2=>exact⟨_,_,rfl,h1,ih.mpr h2⟩
def az.wrote{t:List T}{v:Ω}{o u:HO}(ha:a∈O)(hu:H a=some u)(hm:j4 u=true)(h:az K H O t v):az K (upd H a o) O t v :=
 az.iff.mpr (Paired.k5 (az.iff.mp h) λ_ _ q=>q.wrote ha hu hm)
def az.length{ts:List T}{vs:Ω}(h:az K H O ts vs):vs.length=ts.length:=Qb (az.iff.mp h)
def az.get{ts:List T}{vs:Ω}(h:az K H O ts vs){i:Nat}{t:T}(e:ts[i]?=some t):∃v,vs[i]?=some v/\At K H O t v:=by
 have q:=az.iff.mp h;clear h;induction q generalizing i with
 |nil=>simp at e
 |cons r _ ih=>
  cases i with
  |zero=>simp at e;subst e;exact⟨_,rfl,r⟩
  |succ i=>obtain⟨v,h1,h2⟩:=ih (i:=i) (by simpa using e);exact⟨v,by simpa using h1,h2⟩
def az.cons{t:T}{ts:List T}{v:V}{vs:Ω}(h:At K H O t v)(hs:az K H O ts vs):az K H O (t::ts) (v::vs):=by simp only[az];exact⟨v,vs,rfl,h,hs⟩
def az.nil:az K H O [] []:=by simp only[az]
def az.append{ts us:List T}{ws:Ω}(h:az K H O ts vs)(h':az K H O us ws):az K H O (ts++us) (vs++ws):=by
 rw[az.iff] at h h' ⊢;induction h with
 |nil=>exact h'
 |cons r _ ih=>exact .cons r ih
def az.drop{ts:List T}(n:Nat)(h:az K H O ts vs):az K H O (ts.drop n) (vs.drop n):=by
 rw[az.iff] at h ⊢;induction h generalizing n with
 |nil=>cases n<;>exact .nil
 |cons r t ih=>cases n with
  |zero=>exact .cons r t
  |succ n=>exact ih n
def az.take{ts:List T}(n:Nat)(h:az K H O ts vs):az K H O (ts.take n) (vs.take n):=by
 rw[az.iff] at h ⊢;induction h generalizing n with
 |nil=>cases n<;>exact .nil
 |cons r t ih=>cases n with
  |zero=>exact .nil
  |succ n=>exact .cons r (ih n)
def az.set{ts:List T}{t:T}(i:Nat)(h:az K H O ts vs)(q:At K H O t v):az K H O (ts.set i t) (vs.set i v):=by
 rw[az.iff] at h ⊢;induction h generalizing i with
 |nil=>exact .nil
 |cons r s ih=>cases i with
  |zero=>exact .cons q s
  |succ i=>exact .cons r (ih i)
end
mutual
noncomputable def bQ:T->Bool
 |.tup ts=>dC ts
 |.lst _=>false
 |.dk _ _=>false
 |.dt _ _=>false
 |.dc _ _ _=>false
 |.kt _=>false
 |.ins _ _ _=>false
 |.pin _ _=>false
 |_=>true
noncomputable def dC:List T->Bool
 |[]=>true
 |t::ts=>bQ t && dC ts
end
section
variable{O O':ο}
mutual
theorem At.bQ:∀{t:T}{v:V},bQ t=true->At K H O t v->At K H O' t v
 |.aQ,_,_,h=>by simpa only[At] using h
 |.bl _,_,_,h=>by simpa only[At] using h
 |.int _,_,_,h=>by simpa only[At] using h
 |.str _,_,_,h=>by simpa only[At] using h
 |.ob _,_,_,h=>by simpa only[At] using h
 |.ty _,_,_,h=>by simpa only[At] using h
 |.tup ts,_,i,h=>by simp only[At] at h ⊢;simp only[VT.bQ] at i;obtain⟨a,vs,e,h1,h2⟩:=h;exact⟨a,vs,e,h1,az.bQ i h2⟩
 |.lst ts,_,i,h=>by simp only[VT.bQ] at i;cases i
 |.dk _ _,_,i,h=>by simp only[VT.bQ] at i;cases i
 |.dt _ _,_,i,h=>by simp only[VT.bQ] at i;cases i
 |.dc _ _ _,_,i,h=>by simp only[VT.bQ] at i;cases i
 |.kt _,_,i,h=>by simp only[VT.bQ] at i;cases i
 |.ins _ _ _,_,i,h=>by simp only[VT.bQ] at i;cases i
 |.pin _ _,_,i,h=>by simp only[VT.bQ] at i;cases i
theorem az.bQ:∀{ts:List T}{vs:Ω},dC ts=true->az K H O ts vs->az K H O' ts vs
 |[],_,_,h=>by simpa only[az] using h
 |t::ts,_,i,h=>by simp only[VT.dC,oR] at i;simp only[az] at h ⊢;obtain⟨v,r,e,h1,h2⟩:=h;exact⟨v,r,e,At.bQ i.1 h1,az.bQ i.2 h2⟩
end
end
abbrev En:=List (Option (T×Bool))
structure Zc where
 H0:Hp
 P:List (Nat×Addr)
 Ox:ο
noncomputable def Zc.ex(Z:Zc)(a:Addr):Zc:={Z with Ox:=a::Z.Ox}
def ck(K:Δ)(H:Hp)(A:ο)(a:Addr):T->Prop
 |.lst ts=>∃vs,H a=some (.lst vs)/\az K H A ts vs
 |.dk ks ts=>∃vs,ks.length=vs.length/\H a=some (.dK (ks.zip vs))/\az K H A ts vs
 |.dt ks ts=>∃vs,ks.length=vs.length/\H a=some (.dT (ks.zip vs))/\az K H A ts vs
 |.ins C ns ts=>∃dx vs,ns.length=vs.length/\H a=some (.ins C dx (ns.zip vs))/\az K H A ts vs
 |_=>False
def mP(K:Δ)(H:Hp)(A:ο):Option (T×Bool)->qar->Option V->Prop
 |none,o,_=>o=none
 |some (t,false),o,s=>o=none/\∃v,s=some v/\At K H A t v
 |some (t,true),o,s=>∃a,o=some a/\s=some (.ref a)/\ck K H A a t
noncomputable def roots(O:HD):ο:=O.filterMap id
noncomputable def av(Z:Zc)(O:HD):ο:=roots O++Z.Ox
structure ay(K:Δ)(Z:Zc)(tm:List (T×V))(O:HD)(ρ:En)(σ:St)(H:Hp):Prop where
 lσ:σ.length=ρ.length
 lO:O.length=ρ.length
 sl:∀(i:Nat) e,ρ[i]?=some e->∃o s,O[i]?=some o/\σ[i]?=some s/\mP K H (av Z O) e o s
 nd:(roots O).Nodup
 own:∀a∈roots O,(a∈Z.P.map (·.2)\/Z.H0 a=none)/\a∉Z.Ox/\∃u,H a=some u/\j4 u=true
 par:∀p∈Z.P,O[p.1]?=some (some p.2)
 ox:∀a∈Z.Ox,H a≠none
 keep:∀b o,Z.H0 b=some o->b∉Z.P.map (·.2)->H b=some o
 oB:∀p∈tm,At K H (av Z O) p.1 p.2
section
variable{Z:Zc}{tm:List (T×V)}{ρ:En}
def ck.map{A A':ο}{t:T}(h:ck K H A a t)(h1:H' a=H a)(h2:∀ts vs,az K H A ts vs->az K H' A' ts vs):ck K H' A' a t:=by
 cases t with
 |lst ts=>obtain⟨vs,e,q⟩:=h;exact⟨vs,h1.trans e,h2 _ _ q⟩
 |dk ks ts=>obtain⟨vs,l,e,q⟩:=h;exact⟨vs,l,h1.trans e,h2 _ _ q⟩
 |dt ks ts=>obtain⟨vs,l,e,q⟩:=h;exact⟨vs,l,h1.trans e,h2 _ _ q⟩
 |ins C ns ts=>obtain⟨dx,vs,l,e,q⟩:=h;exact⟨dx,vs,l,h1.trans e,h2 _ _ q⟩
 |_=>exact h.elim
def ck.mut{A:ο}{t:T}(h:ck K H A a t):∃u,H a=some u/\j4 u=true:=by
 cases t with
 |lst ts=>obtain⟨vs,e,q⟩:=h;exact⟨_,e,rfl⟩
 |dk ks ts=>obtain⟨vs,l,e,q⟩:=h;exact⟨_,e,rfl⟩
 |dt ks ts=>obtain⟨vs,l,e,q⟩:=h;exact⟨_,e,rfl⟩
 |ins C ns ts=>obtain⟨dx,vs,l,e,q⟩:=h;exact⟨_,e,rfl⟩
 |_=>exact h.elim
def ck.aY{A A':ο}{t:T}(h:ck K H A a t)(s:∀b∈A',b∈A):ck K H A' a t:=h.map rfl λ_ _ q=>q.aY s
def ck.same{A:ο}{t:T}(h:ck K H A a t)(s:aO H H'):ck K H' A a t:=by obtain⟨u,e,_⟩:=h.mut;exact h.map (by rw[e];exact s _ _ e) λ_ _ q=>q.same s
def ck.at{A:ο}{t:T}(h:ck K H A a t)(n:a∉A):At K H A t (.ref a):=by
 cases t with
 |lst ts=>obtain⟨vs,e,q⟩:=h;simp only[At];exact⟨a,vs,rfl,.inl ⟨.inl e,n⟩,q⟩
 |dk ks ts=>obtain⟨vs,l,e,q⟩:=h;simp only[At];exact⟨a,vs,rfl,l,⟨e,n⟩,q⟩
 |dt ks ts=>obtain⟨vs,l,e,q⟩:=h;simp only[At];exact⟨a,vs,rfl,l,⟨e,n⟩,q⟩
 |ins C ns ts=>obtain⟨dx,vs,l,e,q⟩:=h;simp only[At];exact⟨a,dx,vs,rfl,l,⟨e,n⟩,q⟩
 |_=>exact h.elim
def mP.map{A A':ο}{e:Option (T×Bool)}{o:qar}{s:Option V}(h:mP K H A e o s)(h1:∀t v,At K H A t v->At K H' A' t v)(h2:∀a t,o=some a->ck K H A a t->ck K H' A' a t):mP K H' A' e o s:=by
 match e,h with
 |none,h=>exact h
 |some (t,false),⟨e,v,es,q⟩=>exact⟨e,v,es,h1 _ _ q⟩
 |some (t,true),⟨a,e,es,q⟩=>exact⟨a,e,es,h2 _ _ e q⟩
def aH:a∈roots O↔some a∈O:=by unfold roots;rw[UZ];exact⟨λ⟨x,h,e⟩=>by rw[id] at e;rw[<- e];exact h,λh=>⟨_,h,rfl⟩⟩
def ay.uR(I:ay K Z tm O ρ σ H):∀a∈av Z O,H a≠none:=λa h=>by
 rcases cK.mp h with h|h
 obtain⟨_,_,u,e,_⟩:=I.own a h;rw[e];simp;exact I.ox a h
def ay.same(I:ay K Z tm O ρ σ H)(s:aO H H'):ay K Z tm O ρ σ H' :=
 ⟨I.lσ,I.lO,λi e h=>let ⟨o,w,h1,h2,h3⟩:=I.sl i e h;⟨o,w,h1,h2,h3.map (λ_ _ q=>q.same s) λ_ _ _ q=>q.same s⟩,I.nd,
  λa h=>let ⟨h1,h2,u,e,m⟩:=I.own a h;⟨h1,h2,u,s _ _ e,m⟩,I.par,λa h=>by
   cases e:H a with
   |none=>exact absurd e (I.ox a h)
   |some u=>rw[s _ _ e];simp,
  λb o e n=>s _ _ (I.keep b o e n),λp hp=>(I.oB p hp).same s⟩
def cc(i:Nat):∀a∈roots (O.set i none),a∈roots O:=λa h=>by
 rw[aH] at h ⊢;rcases Ua h with z|z
 exact z;cases z
theorem gE:∀(O:HD)(i:Nat),(roots O).Nodup->(roots (O.set i none)).Nodup
 |[],i,h=>by simpa using h
 |o::O,0,h=>by
  cases o with
  |none=>simpa[roots] using h
  |some a=>simp only[roots,N7,j5,id] at h ⊢;exact (jg.mp h).2
 |o::O,i+1,h=>by
  have key:=gE O i;cases o with
  |none=>simp only[roots,FW,j5,id] at h ⊢;exact key h
  |some a=>simp only[roots,FW,j5,id] at h ⊢;rw[jg] at h ⊢;exact⟨λz=>h.1 (cc i a z),key h.2⟩
def cf(i:Nat):∀a∈av Z (O.set i none),a∈av Z O:=λa h=>by
 rcases cK.mp h with h|h
 exact cA _ (cc i a h);exact bZ _ h
def get_set{l:List α}{x y:α}(h:(l.set i x)[j]?=some y):(j=i/\y=x/\i<l.length)\/(j≠i/\l[j]?=some y):=by rw[Ul] at h;by_cases e:i=j;rw[ε e] at h;by_cases hl:i<l.length;rw[ε hl] at h;exact .inl ⟨e.symm,(Option.some.inj h).symm,hl⟩;rw[η hl] at h;cases h;rw[η e] at h;exact .inr ⟨λz=>e z.symm,h⟩
def ay.put(I:ay K Z tm O ρ σ H){t:T}(hp:∀p∈Z.P,p.1≠i)(hv:At K H (av Z O) t v):ay K Z tm (O.set i none) (ρ.set i (some (t,false))) (σ.set i (some v)) H:=by
 have fw:∀{t:T}{v:V},At K H (av Z O) t v->At K H (av Z (O.set i none)) t v:=λq=>q.aY (cf i);refine⟨by simp[I.lσ],by simp[I.lO],λj e h=>?_,gE _ _ I.nd,λa h=>I.own a (cc i a h),λp q=>?_,I.ox,I.keep,λp q=>fw (I.oB p q)⟩;rcases get_set h with⟨rfl,rfl,hl⟩|⟨ne,h⟩
 exact⟨none,some v,by rw[Dx (by rw[I.lO];exact hl)],by rw[Dx (by rw[I.lσ];exact hl)],rfl,v,rfl,fw hv⟩;obtain⟨o,s,h1,h2,h3⟩:=I.sl j e h;exact⟨o,s,by rw[tq (Ne.symm ne)];exact h1,by rw[tq (Ne.symm ne)];exact h2,h3.map (λ_ _ q=>fw q) λ_ _ _ q=>q.aY (cf i)⟩;rw[tq (Ne.symm (hp p q))];exact I.par p q
def ay.forget(I:ay K Z tm O ρ σ H)(hp:∀p∈Z.P,p.1≠i):ay K Z tm (O.set i none) (ρ.set i none) σ H:=by
 have fw:∀{t:T}{v:V},At K H (av Z O) t v->At K H (av Z (O.set i none)) t v:=λq=>q.aY (cf i);refine⟨by simp[I.lσ],by simp[I.lO],λj e h=>?_,gE _ _ I.nd,λa h=>I.own a (cc i a h),λp q=>?_,I.ox,I.keep,λp q=>fw (I.oB p q)⟩;rcases get_set h with⟨rfl,rfl,hl⟩|⟨ne,h⟩
 obtain⟨s,hs⟩:∃s,σ[j]?=some s:=⟨σ[j]'(by rw[I.lσ];exact hl),by simp⟩;exact⟨none,s,by rw[Dx (by rw[I.lO];exact hl)],hs,rfl⟩;obtain⟨o,s,h1,h2,h3⟩:=I.sl j e h;exact⟨o,s,by rw[tq (Ne.symm ne)];exact h1,h2,h3.map (λ_ _ q=>fw q) λ_ _ _ q=>q.aY (cf i)⟩;rw[tq (Ne.symm (hp p q))];exact I.par p q
theorem nQ:∀(O:HD)(i:Nat)(a:Addr),a∉roots O->(roots O).Nodup->(roots (O.set i (some a))).Nodup
 |[],i,a,_,h=>by simpa using h
 |o::O,0,a,n,h=>by
  cases o with
  |none=>simp only[roots,N7,j5,id] at n h ⊢;exact jg.mpr ⟨n,h⟩
  |some b=>simp only[roots,N7,j5,id] at n h ⊢;exact jg.mpr ⟨λz=>n (fJ _ z),(jg.mp h).2⟩
 |o::O,i+1,a,n,h=>by
  have key:=nQ O i a;cases o with
  |none=>simp only[roots,FW,j5,id] at n h ⊢;exact key n h
  |some b=>
   simp only[roots,FW,j5,id] at n h ⊢;rw[jg] at h ⊢;refine⟨λz=>?_,key (λz=>n (fJ _ z)) h.2⟩;have z':some b∈O.set i (some a):=aH.mp z;rcases Ua z' with q|q
   exact h.1 (aH.mpr q);exact n (by rw[Option.some.inj q];exact c6)
def xH(i:Nat):∀b∈av Z (O.set i (some a)),b∈av (Z.ex a) O:=λb h=>by
 rcases cK.mp h with h|h
 rcases Ua (aH.mp h) with z|z
 exact cA _ (aH.mpr z);exact bZ _ (by rw[Option.some.inj z];exact c6);exact bZ _ (fJ _ h)
def ay.acP(I:ay K (Z.ex a) tm O ρ σ H){t:T}(hp:∀p∈Z.P,p.1≠i)(hv:ck K H (av (Z.ex a) O) a t)(h0:Z.H0 a=none)(hx:a∉Z.Ox):ay K Z tm (O.set i (some a)) (ρ.set i (some (t,true))) (σ.set i (some (.ref a))) H:=by
 have sub:=xH (Z:=Z) (O:=O) (a:=a) i;have fw:∀{t:T}{v:V},At K H (av (Z.ex a) O) t v->At K H (av Z (O.set i (some a))) t v:=λq=>q.aY sub;have na:a∉roots O:=λz=>(I.own a z).2.1 c6;refine⟨by simp[I.lσ],by simp[I.lO],λj e h=>?_,nQ _ _ _ na I.nd,λb h=>?_,λp q=>?_,λb h=>I.ox b (fJ _ h),I.keep,λp q=>fw (I.oB p q)⟩;rcases get_set h with⟨rfl,rfl,hl⟩|⟨ne,h⟩
 exact⟨some a,some (.ref a),by rw[Dx (by rw[I.lO];exact hl)],by rw[Dx (by rw[I.lσ];exact hl)],a,rfl,rfl,hv.aY sub⟩;obtain⟨o,s,h1,h2,h3⟩:=I.sl j e h;exact⟨o,s,by rw[tq (Ne.symm ne)];exact h1,by rw[tq (Ne.symm ne)];exact h2,h3.map (λ_ _ q=>fw q) λ_ _ _ q=>q.aY sub⟩;rcases Ua (aH.mp h) with z|z
 obtain⟨h1,h2,h3⟩:=I.own b (aH.mpr z);exact⟨h1,λq=>h2 (fJ _ q),h3⟩;cases z;exact⟨.inr h0,hx,hv.mut⟩;rw[tq (Ne.symm (hp p q))];exact I.par p q
def ay.BG(I:ay K Z tm O ρ σ H){t:T}(hp:∀p∈Z.P,p.1≠i)(hi:ρ[i]?=some (some (t,true))):ay K Z tm (O.set i none) (ρ.set i (some (t,false))) σ H:=by
 have fw:∀{t:T}{v:V},At K H (av Z O) t v->At K H (av Z (O.set i none)) t v:=λq=>q.aY (cf i);obtain⟨o,s,h1,h2,a,rfl,rfl,hr⟩:=I.sl i _ hi;have ha:a∈roots O:=aH.mpr (eS h1);have na:a∉roots (O.set i none):=λz=>by
  obtain⟨j,hj⟩:=UR.mp (aH.mp z);rcases get_set hj with⟨_,q,_⟩|⟨ne,q⟩
  cases q
  -- two places of one root
  have key:∀(O:HD)(i j:Nat),i<j->O[i]?=some (some a)->O[j]?=some (some a)->(roots O).Nodup->False:=by
   intro O;induction O with
   |nil=>intro i j _ h;simp at h
   |cons o O ih=>
    intro i j Wf e1 e2 nd;cases j with
    |zero=>omega
    |succ j=>
     have Ks:O[j]?=some (some a):=by simpa using e2
     cases i with
     |zero=>
      have:o=some a:=by simpa using e1
      subst this;simp only[roots,j5,id] at nd;exact (jg.mp nd).1 (aH.mpr (eS Ks))
     |succ i=>
      refine ih i j (by omega) (by simpa using e1) Ks ?_;cases o with
      |none=>simpa[roots] using nd
      |some b=>simp only[roots,j5,id] at nd;exact (jg.mp nd).2
  rcases Nat.lt_or_gt_of_ne ne with l|l
  exact key O j i l q h1 I.nd;exact key O i j l h1 q I.nd
 have nav:a∉av Z (O.set i none):=λz=>by
  rcases cK.mp z with z|z
  exact na z;exact (I.own a ha).2.1 z
 refine⟨by simp[I.lσ],by simp[I.lO],λj e h=>?_,gE _ _ I.nd,λa h=>I.own a (cc i a h),λp q=>?_,I.ox,I.keep,λp q=>fw (I.oB p q)⟩;rcases get_set h with⟨rfl,rfl,hl⟩|⟨ne,h⟩
 exact⟨none,some (.ref a),by rw[Dx (by rw[I.lO];exact hl)],h2,rfl,.ref a,rfl,(hr.aY (cf j)).at nav⟩;obtain⟨o,s,h1,h2,h3⟩:=I.sl j e h;exact⟨o,s,by rw[tq (Ne.symm ne)];exact h1,h2,h3.map (λ_ _ q=>fw q) λ_ _ _ q=>q.aY (cf i)⟩;rw[tq (Ne.symm (hp p q))];exact I.par p q
def ay.wrote(I:ay K Z tm O ρ σ H){t t':T}{u:HO}(hi:ρ[i]?=some (some (t,true)))(hO:O[i]?=some (some a))(hr:ck K (upd H a u) (av Z O) a t'):ay K Z tm O (ρ.set i (some (t',true))) σ (upd H a u):=by
 have ha:a∈roots O:=aH.mpr (eS hO);have Ly:a∈av Z O:=cA _ ha;obtain⟨hP,hx,u0,e0,m0⟩:=I.own a ha;have inj:∀j b,j≠i->O[j]?=some (some b)->b≠a:=by
  intro j b ne hj e;subst e;have key:∀(O:HD)(i j:Nat),i<j->O[i]?=some (some b)->O[j]?=some (some b)->(roots O).Nodup->False:=by
   intro O;induction O with
   |nil=>intro i j _ h;simp at h
   |cons o O ih=>
    intro i j Wf e1 e2 nd;cases j with
    |zero=>omega
    |succ j=>
     have Ks:O[j]?=some (some b):=by simpa using e2
     cases i with
     |zero=>
      have:o=some b:=by simpa using e1
      subst this;simp only[roots,j5,id] at nd;exact (jg.mp nd).1 (aH.mpr (eS Ks))
     |succ i=>
      refine ih i j (by omega) (by simpa using e1) Ks ?_;cases o with
      |none=>simpa[roots] using nd
      |some c=>simp only[roots,j5,id] at nd;exact (jg.mp nd).2
  rcases Nat.lt_or_gt_of_ne ne with l|l
  exact key O j i l hj hO I.nd;exact key O i j l hO hj I.nd
 refine⟨by simp[I.lσ],by simp[I.lO],λj e h=>?_,I.nd,λb h=>?_,I.par,λb h=>?_,λb o e n=>?_,λp q=>(I.oB p q).wrote Ly e0 m0⟩;rcases get_set h with⟨rfl,rfl,hl⟩|⟨ne,h⟩
 obtain⟨o,s,h1,h2,a',h4,h5,h6⟩:=I.sl j _ hi;rw[hO] at h1;cases h1;cases h4;exact⟨_,s,hO,h2,a,rfl,h5,hr⟩;obtain⟨o,s,h1,h2,h3⟩:=I.sl j e h;refine⟨o,s,h1,h2,h3.map (λ_ _ q=>q.wrote Ly e0 m0) λb t e q=>?_⟩;subst e;exact q.map (aG (inj j b ne h1)) λ_ _ z=>z.wrote Ly e0 m0;obtain⟨h1,h2,v,e,m⟩:=I.own b h;by_cases hb:b=a;subst hb;exact⟨h1,h2,hr.mut⟩;exact⟨h1,h2,v,by rw[aG hb];exact e,m⟩;by_cases hb:b=a;subst hb;exact absurd h hx;rw[aG hb];exact I.ox b h;by_cases hb:b=a;subst hb;obtain q|q:=hP
 exact absurd q n;rw[q] at e;cases e;rw[aG hb];exact I.keep b o e n
def ay.fresh(I:ay K Z tm O ρ σ H)(h:H a=none):a∉av Z O/\a∉Z.Ox/\Z.H0 a=none:=by
 refine⟨λz=>I.uR a z h,λz=>I.ox a z h,?_⟩;cases e:Z.H0 a with
 |none=>rfl
 |some o=>by_cases hp:a∈Z.P.map (·.2);obtain⟨p,Uu,rfl⟩:=rS.mp hp;obtain⟨_,_,u,e',_⟩:=I.own p.2 (aH.mpr (eS (I.par p Uu)));rw[h] at e';cases e';rw[I.keep a o e hp] at h;cases h
def dA:∀b∈av (Z.ex a) O,b∈av Z O\/b=a:=λb h=>by
 rcases cK.mp h with h|h
 exact .inl (cA _ h);rcases cU.mp h with h|h
 exact .inr h;exact .inl (bZ _ h)
def h_:∀b∈av Z O,b∈av (Z.ex a) O:=λb h=>by
 rcases cK.mp h with h|h
 exact cA _ h;exact bZ _ (fJ _ h)
def ay.new(I:ay K Z tm O ρ σ H){u:HO}(h:H a=none)(hu:j4 u=true):ay K (Z.ex a) tm O ρ σ (upd H a u):=by
 have s:aO H (upd H a u):=aA h;have J:=I.same s;obtain⟨n1,n2,n3⟩:=I.fresh h;have mr:∀b∈av (Z.ex a) O,b∈av Z O\/H b=none:=λb hb=>(dA b hb).imp id λe=>by rw[e];exact h
 have fw:∀{t:T}{v:V},At K H (av Z O) t v->At K (upd H a u) (av (Z.ex a) O) t v:=λq=>(q.more mr).same s;refine⟨J.lσ,J.lO,λi e hi=>?_,J.nd,λb hb=>?_,J.par,λb hb=>?_,J.keep,λp hp=>fw (I.oB p hp)⟩;obtain⟨o,w,h1,h2,h3⟩:=I.sl i e hi;refine⟨o,w,h1,h2,h3.map (λ_ _ q=>fw q) λb t eo q=>?_⟩;refine ck.same (q.map rfl λ_ _ z=>z.more mr) s;obtain⟨q1,q2,q3⟩:=J.own b hb;refine⟨q1,λz=>?_,q3⟩;rcases cU.mp z with z|z
 exact n1 (by rw[<- z];exact cA _ hb);exact q2 z;rcases cU.mp hb with z|z
 rw[z,aC];simp;exact J.ox b z
def ay.acQ(I:ay K (Z.ex a) tm O ρ σ H):ay K Z tm O ρ σ H :=
 ⟨I.lσ,I.lO,λi e h=>let ⟨o,w,h1,h2,h3⟩:=I.sl i e h;⟨o,w,h1,h2,h3.map (λ_ _ q=>q.aY h_) λ_ _ _ q=>q.aY h_⟩,I.nd,
  λb h=>let ⟨q1,q2,q3⟩:=I.own b h;⟨q1,λz=>q2 (fJ _ z),q3⟩,I.par,λb h=>I.ox b (fJ _ h),I.keep,λp hp=>(I.oB p hp).aY h_⟩
end
inductive Rt where
 |vw (t:T)
 |fr (t:T)
noncomputable def Rt.t:Rt->T
 |.vw t=>t
 |.fr t=>t
def g_(K:Δ)(H:Hp)(A:ο)(t:T)(v:V):Prop:=At K H A t v\/∃a,v=.ref a/\ck K H A a t
def gy(K:Δ)(Z:Zc)(tm:List (T×V))(O:HD)(ρ:En)(σ:St)(H:Hp):Rt->V->Prop
 |.vw t,v=>ay K Z tm O ρ σ H/\At K H (av Z O) t v
 |.fr t,v=>∃a,v=.ref a/\ay K (Z.ex a) tm O ρ σ H/\ck K H (av (Z.ex a) O) a t/\Z.H0 a=none/\a∉Z.Ox
abbrev FE:=En->(T->Prop)->Prop
abbrev FP:=En->(Rt->Prop)->Prop
abbrev FX:=En->(En->Rt->Prop)->Prop
abbrev FB:=En->(Bool->Prop)->Prop
abbrev FA:=En->(List T->Prop)->Prop
section
variable{Z:Zc}{tm:List (T×V)}{ρ:En}{A:ο}
def g_.same{t:T}(s:aO H H')(h:g_ K H A t v):g_ K H' A t v:=h.imp (λq=>q.same s) λ⟨a,e,q⟩=>⟨a,e,q.same s⟩
def g_.lst{ts:List T}(h:g_ K H A (.lst ts) v):∃a vs,v=.ref a/\gw K H a vs/\az K H A ts vs:=by
 obtain h|⟨a,rfl,vs,e,q⟩:=h
 simp only[At] at h;obtain⟨a,vs,rfl,l,q⟩:=h;exact⟨a,vs,rfl,l.sq,q⟩;exact⟨a,vs,rfl,gw.of e,q⟩
def g_.tup{ts:List T}(h:g_ K H A (.tup ts) v):∃a vs,v=.ref a/\dz K H a vs/\az K H A ts vs:=by
 obtain h|⟨a,rfl,q⟩:=h
 simpa only[At] using h;exact q.elim
def g_.dk{ts:List T}(h:g_ K H A (.dk ks ts) v):∃a vs,v=.ref a/\ks.length=vs.length/\H a=some (.dK (ks.zip vs))/\az K H A ts vs:=by
 obtain h|⟨a,rfl,vs,l,e,q⟩:=h
 simp only[At] at h;obtain⟨a,vs,rfl,l,d,q⟩:=h;exact⟨a,vs,rfl,l,d.1,q⟩;exact⟨a,vs,rfl,l,e,q⟩
def g_.dt{ks:List (List Key)}{ts:List T}(h:g_ K H A (.dt ks ts) v):∃a vs,v=.ref a/\ks.length=vs.length/\H a=some (.dT (ks.zip vs))/\az K H A ts vs:=by
 obtain h|⟨a,rfl,vs,l,e,q⟩:=h
 simp only[At] at h;obtain⟨a,vs,rfl,l,d,q⟩:=h;exact⟨a,vs,rfl,l,d.1,q⟩;exact⟨a,vs,rfl,l,e,q⟩
def g_.dc{nh:List Key×Key->Int}{ks:List (List Key×Key)}{ts:List T}(h:g_ K H A (.dc nh ks ts) v):∃a xs vs,v=.ref a/\H a=some (.ext (mO nh a xs))/\ks=xs.map (·.1)/\(a==sysModules)=false/\(∀x∈xs,oA K H x.1 x.2.1)/\Vals vs (xs.map (·.2.2))/\az K H A ts vs:=by
 obtain h|⟨a,rfl,q⟩:=h
 simp only[At] at h;obtain⟨a,xs,vs,rfl,d,q⟩:=h;exact⟨a,xs,vs,rfl,d.1,q⟩;exact q.elim
def g_.kt{k:List Key}(h:g_ K H A (.kt k) v):∃a,v=.ref a/\H a=some (.tup (k.map kV)):=by
 obtain h|⟨a,rfl,q⟩:=h
 simp only[At] at h;obtain⟨a,rfl,d⟩:=h;exact⟨a,rfl,d.1⟩;exact q.elim
def g_.ins{ns:π}{ts:List T}(h:g_ K H A (.ins C ns ts) v):∃a dx vs,v=.ref a/\ns.length=vs.length/\H a=some (.ins C dx (ns.zip vs))/\az K H A ts vs:=by
 obtain h|⟨a,rfl,dx,vs,l,e,q⟩:=h
 simp only[At] at h;obtain⟨a,dx,vs,rfl,l,d,q⟩:=h;exact⟨a,dx,vs,rfl,l,d.1,q⟩;exact⟨a,dx,vs,rfl,l,e,q⟩
def g_.int{i:Int}(h:g_ K H A (.int i) v):v=.int i:=h.elim (λq=>by simpa only[At] using q) λ⟨_,_,q⟩=>q.elim
def g_.str{i:Str}(h:g_ K H A (.str i) v):v=.str i:=h.elim (λq=>by simpa only[At] using q) λ⟨_,_,q⟩=>q.elim
def g_.bl{i:Bool}(h:g_ K H A (.bl i) v):v=.bl i:=h.elim (λq=>by simpa only[At] using q) λ⟨_,_,q⟩=>q.elim
def g_.aQ(h:g_ K H A .aQ v):v=.aQ:=h.elim (λq=>by simpa only[At] using q) λ⟨_,_,q⟩=>q.elim
def g_.ob(h:g_ K H A (.ob a) v):v=.ref a:=h.elim (λq=>by simpa only[At] using q) λ⟨_,_,q⟩=>q.elim
def bz{i:Int}:At K H A (.int i) (.int i):=by simp only[At]
def cD{i:Str}:At K H A (.str i) (.str i):=by simp only[At]
def eT{i:Bool}:At K H A (.bl i) (.bl i):=by simp only[At]
def Ag:At K H A .aQ .aQ:=by simp only[At]
def bU{ts:List T}(h:dz K H a vs)(q:az K H A ts vs):At K H A (.tup ts) (.ref a):=by simp only[At];exact⟨a,vs,rfl,h,q⟩
def gy.env{r:Rt}(h:gy K Z tm O ρ σ H r v):ay K Z tm O ρ σ H:=by
 cases r with
 |vw t=>exact h.1
 |fr t=>obtain⟨a,_,I,_⟩:=h;exact I.acQ
def gy.at{r:Rt}(h:gy K Z tm O ρ σ H r v):At K H (av Z O) r.t v:=by
 cases r with
 |vw t=>exact h.2
 |fr t=>
  obtain⟨a,rfl,I,q,_,hx⟩:=h;refine (q.aY h_).at λz=>?_;rcases cK.mp z with z|z
  exact (I.own a z).2.1 c6;exact hx z
def ay.Ah(I:ay K Z tm O ρ σ H){ts:List T}(h:H a=none)(q:az K H (av Z O) ts vs):gy K Z tm O ρ σ (upd H a (.lst vs)) (.fr (.lst ts)) (.ref a):=by obtain⟨n1,n2,n3⟩:=I.fresh h;exact⟨a,rfl,I.new h rfl,⟨vs,aC,(q.more λb hb=>(dA b hb).imp id λe=>by rw[e];exact h).same (aA h)⟩,n3,n2⟩
def ay.newD(I:ay K Z tm O ρ σ H){ts:List T}(h:H a=none)(hl:ks.length=vs.length)(q:az K H (av Z O) ts vs):gy K Z tm O ρ σ (upd H a (.dK (ks.zip vs))) (.fr (.dk ks ts)) (.ref a):=by obtain⟨n1,n2,n3⟩:=I.fresh h;exact⟨a,rfl,I.new h rfl,⟨vs,hl,aC,(q.more λb hb=>(dA b hb).imp id λe=>by rw[e];exact h).same (aA h)⟩,n3,n2⟩
end
structure Bx(p:List (T×V)->Prop):Prop where
 h:∀tm,p tm
section
variable(X:Cx)(Z:Zc)
noncomputable def lR(tm:List (T×V))(f:FE):TE:=λσ H Q=>∃ρ O q,ay X.K Z tm O ρ σ H/\f ρ q/\∀t,q t->∀v H',aO H H'->g_ X.K H' (av Z O) t v->Q v H'
noncomputable def lE(tm:List (T×V))(f:FE):TE:=λσ H Q=>∃ρ O q,ay X.K Z tm O ρ σ H/\f ρ q/\∀t,q t->∀v H',aO H H'->At X.K H' (av Z O) t v->Q v H'
def lP(tm:List (T×V))(f:FP):TE:=λσ H Q=>∃ρ O q,ay X.K Z tm O ρ σ H/\f ρ q/\∀r,q r->∀v H',aO H H'->gy X.K Z tm O ρ σ H' r v->Q v H'
def lX(tm:List (T×V))(f:FX):TE:=λσ H Q=>∃ρ O q,ay X.K Z tm O ρ σ H/\f ρ q/\∀ρ' r,q ρ' r->∀O' v H',gy X.K Z tm O' ρ' σ H' r v->Q v H'
def lB(tm:List (T×V))(f:FB):TT:=λσ H Q=>∃ρ O q,ay X.K Z tm O ρ σ H/\f ρ q/\∀b,q b->∀H',aO H H'->Q b H'
noncomputable def lA(tm:List (T×V))(f:FA):TA:=λσ H Q=>∃ρ O q,ay X.K Z tm O ρ σ H/\f ρ q/\∀ts,q ts->∀vs H',aO H H'->az X.K H' (av Z O) ts vs->Q vs H'
noncomputable def lAR(tm:List (T×V))(f:FA):TA:=λσ H Q=>∃ρ O q,ay X.K Z tm O ρ σ H/\f ρ q/\∀ts,q ts->∀vs H',aO H H'->Paired (λv t=>g_ X.K H' (av Z O) t v) vs ts->Q vs H'
def VR(e:Expr)(f:FE):Prop:=Bx λtm=>PE X e (lR X Z tm f)
instance{e:Expr}{f:FE}:CoeFun (VR X Z e f) λ_=>∀tm,PE X e (lR X Z tm f):=⟨λh=>Bx.h h⟩
def VE(e:Expr)(f:FE):Prop:=Bx λtm=>PE X e (lE X Z tm f)
instance{e:Expr}{f:FE}:CoeFun (VE X Z e f) λ_=>∀tm,PE X e (lE X Z tm f):=⟨λh=>Bx.h h⟩
def VP(e:Expr)(f:FP):Prop:=Bx λtm=>PE X e (lP X Z tm f)
instance{e:Expr}{f:FP}:CoeFun (VP X Z e f) λ_=>∀tm,PE X e (lP X Z tm f):=⟨λh=>Bx.h h⟩
def VX(e:Expr)(f:FX):Prop:=Bx λtm=>PE X e (lX X Z tm f)
instance{e:Expr}{f:FX}:CoeFun (VX X Z e f) λ_=>∀tm,PE X e (lX X Z tm f):=⟨λh=>Bx.h h⟩
def VC(e:Expr)(f:FB):Prop:=Bx λtm=>PT X e (lB X Z tm f)
instance{e:Expr}{f:FB}:CoeFun (VC X Z e f) λ_=>∀tm,PT X e (lB X Z tm f):=⟨λh=>Bx.h h⟩
def VW(e:Expr)(f:FB):Prop:=Bx λtm=>PW X e (lB X Z tm f)
instance{e:Expr}{f:FB}:CoeFun (VW X Z e f) λ_=>∀tm,PW X e (lB X Z tm f):=⟨λh=>Bx.h h⟩
def VA(es:qap)(f:FA):Prop:=Bx λtm=>PA X es (lA X Z tm f)
instance{es:qap}{f:FA}:CoeFun (VA X Z es f) λ_=>∀tm,PA X es (lA X Z tm f):=⟨λh=>Bx.h h⟩
def Om(es:qap)(f:FA):Prop:=Bx λtm=>PA X es (lAR X Z tm f)
instance{es:qap}{f:FA}:CoeFun (Om X Z es f) λ_=>∀tm,PA X es (lAR X Z tm f):=⟨λh=>Bx.h h⟩
end
def PE.weak{t t':TE}(h:PE X e t)(hw:∀σ H Q,t' σ H Q->t σ H Q):PE X e t':=λγ s σ H Q I q=>h γ s σ H Q I (hw _ _ _ q)
def PT.weak{t t':TT}(h:PT X e t)(hw:∀σ H Q,t' σ H Q->t σ H Q):PT X e t':=λγ s σ H Q I q=>h γ s σ H Q I (hw _ _ _ q)
def PW.weak{t t':TT}(h:PW X e t)(hw:∀σ H Q,t' σ H Q->t σ H Q):PW X e t':=λwh γ s σ H Q I q=>h wh γ s σ H Q I (hw _ _ _ q)
def PA.weak{e:qap}{t t':TA}(h:PA X e t)(hw:∀σ H Q,t' σ H Q->t σ H Q):PA X e t':=λpos γ s σ H Q I q=>h pos γ s σ H Q I (hw _ _ _ q)
def PS.weak{b:Stmt}{t t':TS}(h:PS X b t)(hw:∀D σ H,t' D σ H->t D σ H):PS X b t':=λγ s σ H D I q=>h γ s σ H D I (hw D σ H q)
def hY.ia{b:qaq}{t t':TS}(h:hY X b t)(hw:∀D σ H,t' D σ H->t D σ H):hY X b t':=λγ s σ H D I q=>h γ s σ H D I (hw D σ H q)
section
variable{Z:Zc}{a:Expr}{pos:Pos}
def VE.vr{f:FE}(h:VE X Z e f):VR X Z e f:=.mk λtm=>PE.weak (h tm) λσ H Q ⟨ρ,O,q,I,hf,k⟩=>⟨ρ,O,q,I,hf,λt ht v H' s z=>k t ht v H' s (.inl z)⟩
noncomputable def fT(f:FP):FE:=λρ Q=>f ρ λr=>Q r.t
def fV(f:FE):FP:=λρ Q=>f ρ λt=>Q (.vw t)
def fX(f:FP):FX:=λρ Q=>f ρ λr=>Q ρ r
def VP.ve{f:FP}(h:VP X Z e f):VE X Z e (fT f):=.mk λtm=>PE.weak (h tm) λσ H Q ⟨ρ,O,q,I,hf,k⟩=>⟨ρ,O,λr=>q r.t,I,hf,λr hr v H' s z=>k r.t hr v H' s z.at⟩
def VP.vr{f:FP}(h:VP X Z e f):VR X Z e (fT f):=h.ve.vr
def VP.vx{f:FP}(h:VP X Z e f):VX X Z e (fX f):=.mk λtm=>PE.weak (h tm) λσ H Q ⟨ρ,O,q,I,hf,k⟩=>⟨ρ,O,λr=>q ρ r,I,hf,λr hr v H' s z=>k ρ r hr O v H' z⟩
def VE.vp{f:FE}(h:VE X Z e f):VP X Z e (fV f):=.mk λtm=>PE.weak (h tm) λσ H Q ⟨ρ,O,q,I,hf,k⟩=>⟨ρ,O,λt=>q (.vw t),I,hf,λt hr v H' s z=>k (.vw t) hr v H' s ⟨I.same s,z⟩⟩
def mQ(i:Nat):FE:=λρ Q=>match ρ[i]? with
 |some (some (t,false))=>Q t
 |_=>False
def GC(i:Nat):FE:=λρ Q=>match ρ[i]? with
 |some (some (t,_))=>Q t
 |_=>False
def ai(i:Nat)(hN:X.N[i]?=some x:=by rfl)(hv:jQ X.env.scope x:=by exact jvv rfl)(hd:gq x:=by decide)(fH:rQ x:=by decide):VE X Z (.Name x pos) (mQ i):=.mk λtm=>PE.weak (bP hN hv hd fH) λσ H Q ⟨ρ,O,q,I,hf,k⟩=>by
 unfold mQ at hf;split at hf
 rename_i t e
 obtain⟨o,s,h1,h2,rfl,v,rfl,h3⟩:=I.sl i _ e;exact⟨v,h2,k t hf v H (aO.refl H) h3⟩;exact hf.elim
def aa(i:Nat)(hN:X.N[i]?=some x:=by rfl)(hv:jQ X.env.scope x:=by exact jvv rfl)(hd:gq x:=by decide)(fH:rQ x:=by decide):VR X Z (.Name x pos) (GC i):=.mk λtm=>PE.weak (bP hN hv hd fH) λσ H Q ⟨ρ,O,q,I,hf,k⟩=>by
 unfold GC at hf;split at hf
 rename_i t b e
 obtain⟨o,s,h1,h2,h3⟩:=I.sl i _ e;cases b with
 |false=>obtain⟨rfl,v,rfl,h3⟩:=h3;exact⟨v,h2,k t hf v H (aO.refl H) (.inl h3)⟩
 |true=>obtain⟨a,rfl,rfl,h3⟩:=h3;exact⟨_,h2,k t hf _ H (aO.refl H) (.inr ⟨a,rfl,h3⟩)⟩
 exact hf.elim
def fC(t:T):FP:=λ_ Q=>Q (.vw t)
def GD{t:T}(h:PE X e (tC v))(ht:∀H A,At X.K H A t v):VP X Z e (fC t):=.mk λtm=>PE.weak h λσ H Q ⟨ρ,O,q,I,hf,k⟩=>k _ hf v H (aO.refl H) ⟨I,ht _ _⟩
def ag{i j pos}:VP X Z (.Constant (.int i) j pos) (fC (.int i)):=GD F_ λ_ _=>bz
def tS{i j pos}:VP X Z (.Constant (.bool i) j pos) (fC (.bl i)):=GD U9 λ_ _=>eT
def a9{i j pos}:VP X Z (.Constant (.str i) j pos) (fC (.str i)):=GD Qj λ_ _=>cD
def c7{j pos}:VP X Z (.Constant .none j pos) (fC .aQ):=GD zP λ_ _=>Ag
def iI{t:T}(hg:Gl X x)(hm:X.mg x=some u)(r:RelV v u)(ht:∀H A,At X.K H A t v)(hd:gq x:=by decide):VP X Z (.Name x pos) (fC t):=GD (uB hg hm r hd) ht
def rT(K:Δ)(r:R2)(p:T->T->(Rt->Prop)->Prop):Prop :=
 ∀(Z:Zc)(tm:List (T×V))(O:HD)(ρ:En)(σ:St)(H:Hp)(x y:T)(v w:V)(q:Rt->Prop)(Q:VK),ay K Z tm O ρ σ H->g_ K H (av Z O) x v->g_ K H (av Z O) y w->p x y q ->
  (∀t,q t->∀u H',aO H H'->gy K Z tm O ρ σ H' t u->Q u H')->r v w H Q
def f2(fa fb:FE)(p:T->T->(Rt->Prop)->Prop):FP:=λρ Q=>fa ρ λx=>fb ρ λy=>p x y Q
def two{r:R2}{fa fb:FE}{p:T->T->(Rt->Prop)->Prop}(ho:rT X.K r p){tm:List (T×V)}:∀σ H Q,lP X Z tm (f2 fa fb p) σ H Q->Vm r (lR X Z tm fa) (lR X Z tm fb) σ H Q:=λσ H Q ⟨ρ,O,q,I,hf,k⟩ =>
 ⟨ρ,O,λx=>fb ρ λy=>p x y q,I,hf,λx hx v H1 s1 a1=>⟨ρ,O,λy=>p x y q,I.same s1,hx,λy hy w H2 s2 a2=>
  ho Z tm O ρ σ H2 x y v w q Q ((I.same s1).same s2) (a1.same s2) a2 hy λt ht u H' s a=>k t ht u H' ((s1.trans s2).trans s) a⟩⟩
def iJ{op:Operator}{r:R2}{fa fb:FE}{p:T->T->(Rt->Prop)->Prop}(h:gx X (binaryOp op) r)(ho:rT X.K r p)(ha:VR X Z a fa)(hb:VR X Z b fb):VP X Z (.BinOp a op b pos) (f2 fa fb p) :=
 .mk λtm=>PE.weak (Od h (ha tm) (hb tm)) (two ho)
def GF{op:CmpOp}{r:R2}{fa fb:FE}{p:T->T->(Rt->Prop)->Prop}(h:gx X (compareOp op) r)(ho:rT X.K r p)(ha:VR X Z a fa)(hb:VR X Z b fb)(hm:behindInMarks op b=false):VP X Z (.Compare a [op] [b] pos) (f2 fa fb p) :=
 .mk λtm=>PE.weak (K' h (ha tm) (hb tm) hm) (two ho)
def oC(f:FP):FB:=λρ Q=>f ρ λr=>match r with
 |.vw (.bl c)=>Q c
 |_=>False
def Ai{r:Rt}{Q:Bool->Prop}(h:match r with | .vw (.bl c)=>Q c|_=>False):∃c,r=.vw (.bl c)/\Q c:=by split at h;exact⟨_,rfl,h⟩;exact h.elim
def jk{op:CmpOp}{r:R2}{fa fb:FE}{p:T->T->(Rt->Prop)->Prop}(h:gx X (compareOp op) r)(ho:rT X.K r p)(ha:VR X Z a fa)(hb:VR X Z b fb)(hm:behindInMarks op b=false):VC X Z (.Compare a [op] [b] pos) (oC (f2 fa fb p)) :=
 .mk λtm=>PT.weak (La h (ha tm) (hb tm) hm) λσ H Q ⟨ρ,O,q,I,hf,k⟩=>two ho σ H _ ⟨ρ,O,_,I,hf,λt ht u H' s a=>by obtain⟨c,rfl,hc⟩:=Ai ht;have e:=a.2;simp only[At] at e;exact⟨c,e,k c hc H' s⟩⟩
def eF{f:FP}(h:VP X Z e f)(he:∀whole,isTrue e X.env whole=(do let v <- whole;standAt e.pos;holding [v] (truthy v)):=by intro _;rfl):VC X Z e (oC f) :=
 .mk λtm=>PT.weak (Qk (h tm) he) λσ H Q ⟨ρ,O,q,I,hf,k⟩=>⟨ρ,O,_,I,hf,λt ht u H' s a=>by obtain⟨c,rfl,hc⟩:=Ai ht;have e:=a.2;simp only[At] at e;exact⟨c,e,k c hc H' s⟩⟩
def acR(f g:FB):FB:=λρ Q=>f ρ λc=>if c=true then g ρ Q else Q false
def fOr(f g:FB):FB:=λρ Q=>f ρ λc=>if c=true then Q true else g ρ Q
def Wg(f:FB):FB:=λρ Q=>f ρ λc=>Q (!c)
def VW.vc{f:FB}(h:VW X Z e f):VC X Z e f:=.mk λtm=>PW.pt (h tm)
def oW{f:FB}(h:VC X Z a f):VW X Z (.BoolOp .And [a] pos) f:=.mk λtm=>pw_and1 (h tm)
def uS{f:FB}(h:VC X Z a f):VW X Z (.BoolOp .Or [a] pos) f:=.mk λtm=>pw_or1 (h tm)
def uT{rest:qap}{f g:FB}(h:VC X Z a f)(h':VW X Z (.BoolOp .And (b::rest) pos) g):VW X Z (.BoolOp .And (a::b::rest) pos) (acR f g) :=
 .mk λtm=>PW.weak (pw_and (h tm) (h' tm)) λσ H Q ⟨ρ,O,q,I,hf,k⟩=>⟨ρ,O,_,I,hf,λc hc H1 s1=>by
  cases c with
  |true=>rw[ε rfl] at hc ⊢;exact⟨ρ,O,q,I.same s1,hc,λb hb H' s=>k b hb H' (s1.trans s)⟩
  |false=>rw[η gZ] at hc ⊢;exact k false hc H1 s1⟩
def B1{rest:qap}{f g:FB}(h:VC X Z a f)(h':VW X Z (.BoolOp .Or (b::rest) pos) g):VW X Z (.BoolOp .Or (a::b::rest) pos) (fOr f g) :=
 .mk λtm=>PW.weak (pw_or (h tm) (h' tm)) λσ H Q ⟨ρ,O,q,I,hf,k⟩=>⟨ρ,O,_,I,hf,λc hc H1 s1=>by
  cases c with
  |true=>rw[ε rfl] at hc ⊢;exact k true hc H1 s1
  |false=>rw[η gZ] at hc ⊢;exact⟨ρ,O,q,I.same s1,hc,λb hb H' s=>k b hb H' (s1.trans s)⟩⟩
def mR{f:FB}(h:VC X Z a f):VC X Z (.UnaryOp .Not a pos) (Wg f) :=
 .mk λtm=>PT.weak (Ql (h tm)) λσ H Q ⟨ρ,O,q,I,hf,k⟩=>⟨ρ,O,_,I,hf,λc hc H1 s1=>k _ hc H1 s1⟩
def Wh(f g:FP):FP:=λρ Q=>f ρ λr=>match r with
 |.vw (.bl true)=>g ρ Q
 |.vw (.bl false)=>Q (.vw (.bl false))
 |_=>False
def Wi(f:FP):FP:=λρ Q=>f ρ λr=>match r with
 |.vw (.bl c)=>Q (.vw (.bl (!c)))
 |_=>False
def Aj{op}{f:FP}(h:VP X Z a f):VP X Z (.BoolOp op [a] pos) f:=.mk λtm=>Qm (h tm)
def pS{rest:qap}{f g:FP}(h:VP X Z a f)(h':VP X Z (.BoolOp .And (b::rest) pos) g):VP X Z (.BoolOp .And (a::b::rest) pos) (Wh f g) :=
 .mk λtm=>PE.weak (Qn (h tm) (h' tm)) λσ H Q ⟨ρ,O,q,I,hf,k⟩=>⟨ρ,O,_,I,hf,λr hr v H1 s1 z=>by split at hr;have e:=z.2;simp only[At] at e;exact⟨true,e,by rw[ε rfl];exact⟨ρ,O,q,I.same s1,hr,λb hb v H' s=>k b hb v H' (s1.trans s)⟩⟩;have e:=z.2;simp only[At] at e;exact⟨false,e,by rw[η gZ];exact k _ hr _ H1 s1 ⟨I.same s1,eT⟩⟩;exact hr.elim⟩
def Q0{f:FP}(h:VP X Z a f):VP X Z (.UnaryOp .Not a pos) (Wi f) :=
 .mk λtm=>PE.weak (Qo (h tm)) λσ H Q ⟨ρ,O,q,I,hf,k⟩=>⟨ρ,O,_,I,hf,λr hr v H1 s1 z=>by split at hr;have e:=z.2;simp only[At] at e;exact⟨_,e,k _ hr _ H1 s1 ⟨I.same s1,eT⟩⟩;exact hr.elim⟩
def fIf(c:FB)(f g:FP):FP:=λρ Q=>c ρ λb=>if b=true then f ρ Q else g ρ Q
def pT{fc:FB}{f g:FP}(hc:VC X Z c fc)(h:VP X Z a f)(h':VP X Z b g):VP X Z (.IfExp c a b pos) (fIf fc f g) :=
 .mk λtm=>PE.weak (Ga (hc tm) (h tm) (h' tm)) λσ H Q ⟨ρ,O,q,I,hf,k⟩=>⟨ρ,O,_,I,hf,λc hc H1 s1=>by
  cases c with
  |true=>rw[ε rfl] at hc ⊢;exact⟨ρ,O,q,I.same s1,hc,λb hb v H' s=>k b hb v H' (s1.trans s)⟩
  |false=>rw[η gZ] at hc ⊢;exact⟨ρ,O,q,I.same s1,hc,λb hb v H' s=>k b hb v H' (s1.trans s)⟩⟩
def oE:FA:=λ_ Q=>Q []
def dI(f:FE)(g:FA):FA:=λρ Q=>f ρ λt=>g ρ λts=>Q (t::ts)
def ar:VA X Z [] oE:=.mk λtm=>PA.weak cC λσ H Q ⟨ρ,O,q,I,hf,k⟩=>k _ hf [] H (aO.refl H) az.nil
def ae{f:FE}{g:FA}(h:VE X Z e f)(h':VA X Z es g)(hs:starEach (e::es) X.env=(false,eval e X.env)::starEach es X.env:=by rfl):VA X Z (e::es) (dI f g) :=
 .mk λtm=>PA.weak (bf (h tm) (h' tm) hs) λσ H Q ⟨ρ,O,q,I,hf,k⟩=>⟨ρ,O,_,I,hf,λt ht v H1 s1 a1=>⟨ρ,O,_,I.same s1,ht,λts dZ vs H2 s2 a2=>k _ dZ _ H2 (s1.trans s2) (az.cons (a1.same s2) a2)⟩⟩
def aW:Om X Z [] oE:=.mk λtm=>PA.weak cC λσ H Q ⟨ρ,O,q,I,hf,k⟩=>k _ hf [] H (aO.refl H) .nil
def aJ{f:FE}{g:FA}(h:VR X Z e f)(h':Om X Z es g)(hs:starEach (e::es) X.env=(false,eval e X.env)::starEach es X.env:=by rfl):Om X Z (e::es) (dI f g) :=
 .mk λtm=>PA.weak (bf (h tm) (h' tm) hs) λσ H Q ⟨ρ,O,q,I,hf,k⟩=>⟨ρ,O,_,I,hf,λt ht v H1 s1 a1=>⟨ρ,O,_,I.same s1,ht,λts dZ vs H2 s2 a2=>k _ dZ _ H2 (s1.trans s2) (.cons (a1.same s2) a2)⟩⟩
def acS(g:FA):FP:=λρ Q=>g ρ λts=>ts.length<=sizeLine/\Q (.vw (.tup ts))
def acT(g:FA):FP:=λρ Q=>g ρ λts=>ts.length<=sizeLine/\Q (.fr (.lst ts))
def bA{g:FA}{x1}(h:VA X Z es g):VP X Z (.Tuple es x1 pos) (acS g) :=
 .mk λtm=>PE.weak (uE (h tm)) λσ H Q ⟨ρ,O,q,I,hf,k⟩=>⟨ρ,O,_,I,hf,λts dZ vs H1 s1 a1=>⟨by rw[a1.length];exact dZ.1,λp hp=>k _ dZ.2 _ _ (s1.trans (aA hp)) ⟨(I.same s1).same (aA hp),bU (dz.of aC) (a1.same (aA hp))⟩⟩⟩
def fZ{g:FA}(h:VA X Z es g):VP X Z (.List es pos) (acT g) :=
 .mk λtm=>PE.weak (z8 (h tm)) λσ H Q ⟨ρ,O,q,I,hf,k⟩=>⟨ρ,O,_,I,hf,λts dZ vs H1 s1 a1=>⟨by rw[a1.length];exact dZ.1,λp hp=>k _ dZ.2 _ _ (s1.trans (aA hp)) ((I.same s1).Ah hp a1)⟩⟩
end
mutual
noncomputable def eqT:T->T->Bool
 |.aQ,.aQ=>true
 |.bl a,.bl b=>a==b
 |.bl a,.int b=>(if a then 1 else 0)==b
 |.int a,.bl b=>a==(if b then 1 else 0)
 |.int a,.int b=>a==b
 |.str a,.str b=>a==b
 |.tup a,.tup b=>Q1 a b
 |.lst a,.lst b=>Q1 a b
 |_,_=>false
noncomputable def Q1:List T->List T->Bool
 |[],[]=>true
 |a::as,b::bs=>eqT a b && Q1 as bs
 |_,_=>false
end
mutual
noncomputable def plainT:T->Bool
 |.tup l=>iK l
 |.lst l=>iK l
 |.dk _ _=>false
 |.dt _ _=>false
 |.dc _ _ _=>false
 |.kt _=>false
 |.ins _ _ _=>false
 |.pin _ _=>false
 |.ob _=>false
 |.ty _=>false
 |_=>true
noncomputable def iK:List T->Bool
 |[]=>true
 |t::ts=>plainT t && iK ts
end
mutual
noncomputable def dep:T->Nat
 |.tup l=>Ak l+1
 |.lst l=>Ak l+1
 |_=>0
noncomputable def Ak:List T->Nat
 |[]=>0
 |t::ts=>max (dep t) (Ak ts)
end
noncomputable def lp:T->Bool
 |.aQ=>true
 |.bl _=>true
 |.int _=>true
 |.str _=>true
 |_=>false
section
variable{s:Shared}{O O':ο}
def kq{O:ο}{u:T}{w:V}{b:Value}(pu:lp u=true)(hw:At X.K H O u w)(r:RelV w b):(u=.aQ/\b=.none)\/(∃c,u=.bl c/\b=.bool c)\/(∃c t,u=.int c/\b=.int c t)\/∃c t,u=.str c/\b=.str c t:=by
 cases u with
 |aQ=>simp only[At] at hw;subst hw;cases r;exact .inl ⟨rfl,rfl⟩
 |bl c=>simp only[At] at hw;subst hw;cases r;exact .inr (.inl ⟨c,rfl,rfl⟩)
 |int c=>simp only[At] at hw;subst hw;obtain⟨t,rfl⟩:=r;exact .inr (.inr (.inl ⟨c,t,rfl,rfl⟩))
 |str c=>simp only[At] at hw;subst hw;obtain⟨t,rfl⟩:=r;exact .inr (.inr (.inr ⟨c,t,rfl,rfl⟩))
 |_=>cases pu
def B2{t u:T}{w:V}{a b:Value}(pt:lp t=true)(pu:lp u=true)(ht:At X.K H O t v)(hw:At X.K H O' u w)(rv:RelV v a)(rw':RelV w b):SeqAt.RcAt A s a b (eqT t u):=by
 rcases kq pt ht rv with⟨rfl,rfl⟩|⟨d,rfl,rfl⟩|⟨d,_,rfl,rfl⟩|⟨d,_,rfl,rfl⟩<;>rcases kq pu hw rw' with⟨rfl,rfl⟩|⟨c,rfl,rfl⟩|⟨c,_,rfl,rfl⟩|⟨c,_,rfl,rfl⟩<;>simp only[eqT]
 exact .none_none;exact .none_bool _;exact .none_int _ _;exact .none_str _ _;exact .bool_none _;exact .bool_bool _ _;exact .bool_int _ _ _;exact .bool_str _ _ _;exact .int_none _ _;exact .int_bool _ _ _;exact .int_int _ _ _ _;exact .int_str _ _ _ _;exact .str_none _ _;exact .str_bool _ _ _;exact .str_int _ _ _ _;exact .str_str _ _ _ _
def Lz{t u:T}{w:V}{a b:Value}(pt:lp t=true)(pu:lp u=true)(ht:At X.K H O t v)(hw:At X.K H O' u w)(rv:RelV v a)(rw':RelV w b):SeqAt.RcNeAt A s a b (!eqT t u):=by
 rcases kq pt ht rv with⟨rfl,rfl⟩|⟨d,rfl,rfl⟩|⟨d,_,rfl,rfl⟩|⟨d,_,rfl,rfl⟩<;>rcases kq pu hw rw' with⟨rfl,rfl⟩|⟨c,rfl,rfl⟩|⟨c,_,rfl,rfl⟩|⟨c,_,rfl,rfl⟩<;>simp only[eqT]
 exact .none_none;exact .none_bool _;exact .none_int _ _;exact .none_str _ _;exact .bool_none _;exact .bool_bool _ _;exact .bool_int _ _ _;exact .bool_str _ _ _;exact .int_none _ _;exact .int_bool _ _ _;exact .int_int _ _ _ _;exact .int_str _ _ _ _;exact .str_none _ _;exact .str_bool _ _ _;exact .str_int _ _ _ _;exact .str_str _ _ _ _
theorem xI{a b:Value}{k:Bool}(h:SeqAt.RcAt A s a b k)(g:a=b->k=true)(f:∀x t,a≠.float x t):SeqAt.EqAt A s a b k:=λprog w E Q hq=>by
 unfold eqBool;refine v9 (wpAny_ite_split (λe=>?_) λ_=>?_);rw[g (eq_of_beq e)] at hq;exact δ (aak (ζ hq));cases a with
 |float x t=>exact absurd rfl (f x t)
 |_=>exact δ (h prog w E _ (Ξ hq))
def B3{t u:T}{w:V}{a b:Value}(pt:lp t=true)(pu:lp u=true)(ht:At X.K H O t v)(hw:At X.K H O' u w)(rv:RelV v a)(rw':RelV w b):SeqAt.EqAt A s a b (eqT t u):=by
 refine xI (B2 pt pu ht hw rv rw') (λe=>?_) λx y e=>?_;rcases kq pt ht rv with⟨rfl,rfl⟩|⟨d,rfl,rfl⟩|⟨d,_,rfl,rfl⟩|⟨d,_,rfl,rfl⟩<;>rcases kq pu hw rw' with⟨rfl,rfl⟩|⟨c,rfl,rfl⟩|⟨c,_,rfl,rfl⟩|⟨c,_,rfl,rfl⟩<;>cases e<;>simp[eqT]
 rcases kq pt ht rv with⟨_,h⟩|⟨_,_,h⟩|⟨_,_,_,h⟩|⟨_,_,_,h⟩<;>cases e.symm.trans h
end
section
variable{s:Shared}{O O':ο}
def g_.bare{A:ο}{t:T}(h:g_ K H A t v):At K H [] t v:=by
 obtain h|⟨a,rfl,h⟩:=h
 exact At.aY (O':=[]) (λ_ z=>absurd z fK) h;exact (ck.aY (A':=[]) h (λ_ z=>absurd z fK)).at fK
def FlE(neg:Bool)(t u:T):Prop:=(lp t=true/\lp u=true)\/(neg=true/\∃l,t=.lst l/\u=.lst [])
noncomputable def LB(K:Δ)(neg:Bool):R2:=λx y H Q=>∃t u,At K H [] t x/\At K H [] u y/\FlE neg t u/\Q (.bl (if neg then !eqT t u else eqT t u)) H
def GG(hu:X.A.units+101<cLine):gx X (compareOp .Eq) (LB X.K false):=by
 intro γ s σ H x y v u Q I rx ry ⟨t,t',h1,h2,p,q⟩;obtain⟨p1,p2⟩|⟨p,_⟩:=p
 exact B2 p1 p2 h1 h2 rx ry X.prog X.w X.xe _ ⟨.bl _,H,I,rfl,q⟩;cases p
def Q2(hu:X.A.units+101<cLine):gx X (compareOp .NotEq) (LB X.K true):=by
 intro γ s σ H x y v u Q I rx ry ⟨t,t',h1,h2,p,q⟩;obtain⟨p1,p2⟩|⟨_,l,rfl,rfl⟩:=p
 exact Lz p1 p2 h1 h2 rx ry X.prog X.w X.xe _ ⟨.bl _,H,I,rfl,q⟩;have Y2:X.A.units<cLine:=by omega
 simp only[At] at h1 h2;obtain⟨_,vs,rfl,g1,g2⟩:=h1;obtain⟨_,ws,rfl,k1,k2⟩:=h2;cases rx;cases ry;have e3:=g2.length;have e4:=k2.length;obtain⟨aP,r1,p1,_⟩:=I.list g1.sq;obtain⟨uU,r2,p2,_⟩:=I.list k1.sq;have e1:=r1.length;have e2:=r2.length;cases l with
 |nil=>
  have:=SeqAt.RcNeAt.lists (A:=X.A) (e:=λ_=>true) p1.isList p2.isList (by simp only[jP];rw[<- e1,<- e2,e3,e4]) Y2 (λj z _=>by simp only[jP] at z;rw[<- e1,e3] at z;cases z);have e5:aP.toArray.size=0:=by rw[jP,<- e1,e3];rfl
  rw[e5] at this;exact this X.prog X.w X.xe _ ⟨.bl _,H,I,rfl,q⟩
 |cons a l=>exact SeqAt.RcNeAt.lists_lengths p1.isList p2.isList (by simp only[jP];rw[bne_iff_ne,<- e1,<- e2,e3,e4];simp) Y2 X.prog X.w X.xe _ ⟨.bl _,H,I,rfl,q⟩
end
def Wj(x y:T)(q:Rt->Prop):Prop:=match x,y with
 |.int i,.int j=>q (.vw (.bl (decide (i=j))))
 |.str i,.str j=>q (.vw (.bl (decide (i=j))))
 |.bl i,.bl j=>q (.vw (.bl (decide (i=j))))
 |x,y=>lp x=true/\lp y=true/\dep x<=100/\q (.vw (.bl (eqT x y)))
def Y3(x y:T)(q:Rt->Prop):Prop:=match x,y with
 |.int i,.int j=>q (.vw (.bl (!decide (i=j))))
 |.str i,.str j=>q (.vw (.bl (!decide (i=j))))
 |.bl i,.bl j=>q (.vw (.bl (!decide (i=j))))
 |.lst a,.lst []=>plainT (.lst a)=true/\plainT (.lst [])=true/\dep (.lst a)<=100/\q (.vw (.bl (!eqT (.lst a) (.lst []))))
 |x,y=>lp x=true/\lp y=true/\dep x<=100/\q (.vw (.bl (!eqT x y)))
def Wm(i j:Str):(i==j)=decide (i=j):=by rw[N9];simp
def LC{x y:T}{q:Rt->Prop}(h:Wj x y q):FlE false x y/\q (.vw (.bl (eqT x y))):=by unfold Wj at h;split at h;exact⟨.inl ⟨rfl,rfl⟩,by simp only[eqT,YH];exact h⟩;exact⟨.inl ⟨rfl,rfl⟩,by simp only[eqT,Wm];exact h⟩;exact⟨.inl ⟨rfl,rfl⟩,by simp only[eqT,YH];exact h⟩;exact⟨.inl ⟨h.1,h.2.1⟩,h.2.2.2⟩
def LD{x y:T}{q:Rt->Prop}(h:Y3 x y q):FlE true x y/\q (.vw (.bl (!eqT x y))):=by unfold Y3 at h;split at h;exact⟨.inl ⟨rfl,rfl⟩,by simp only[eqT,YH];exact h⟩;exact⟨.inl ⟨rfl,rfl⟩,by simp only[eqT,Wm];exact h⟩;exact⟨.inl ⟨rfl,rfl⟩,by simp only[eqT,YH];exact h⟩;exact⟨.inr ⟨rfl,_,rfl,rfl⟩,h.2.2.2⟩;exact⟨.inl ⟨h.1,h.2.1⟩,h.2.2.2⟩
def GH:rT K (LB K false) Wj:=by intro Z tm O ρ σ H x y v w q Q I h1 h2 h k;obtain⟨p,h⟩:=LC h;exact⟨x,y,h1.bare,h2.bare,p,k _ h _ H (aO.refl H) ⟨I,by rw[η gZ];exact eT⟩⟩
def Q3:rT K (LB K true) Y3:=by intro Z tm O ρ σ H x y v w q Q I h1 h2 h k;obtain⟨p,h⟩:=LD h;exact⟨x,y,h1.bare,h2.bare,p,k _ h _ H (aO.refl H) ⟨I,by rw[ε rfl];exact eT⟩⟩
def Wn(g:Int->Int->Bool)(x y:T)(q:Rt->Prop):Prop:=match x,y with
 |.int i,.int j=>q (.vw (.bl (g i j)))
 |_,_=>False
def Q5(x y:T)(q:Rt->Prop):Prop:=match x,y with
 |.int i,.int j=>q (.vw (.int (i-j)))
 |_,_=>False
def LF:rT K (xt λi j=>.int (i-j)) Q5:=by intro Z tm O ρ σ H x y v w q Q I h1 h2 h k;unfold Q5 at h;split at h;exact⟨_,_,h1.int,h2.int,k _ h _ H (aO.refl H) ⟨I,bz⟩⟩;exact h.elim
def Q6(x y:T)(q:Rt->Prop):Prop:=match x,y with
 |.int i,.int j=>Gf i j/\q (.vw (.int (i * j)))
 |_,_=>False
def LG:rT K (rI Gf λi j=>.int (i * j)) Q6:=by intro Z tm O ρ σ H x y v w q Q I h1 h2 h k;unfold Q6 at h;split at h;exact⟨_,_,h1.int,h2.int,h.1,k _ h.2 _ H (aO.refl H) ⟨I,bz⟩⟩;exact h.elim
def Q7(x y:T)(q:Rt->Prop):Prop:=match x,y with
 |.int i,.int j=>(0<j/\j<1073741824)/\q (.vw (.int (i / j)))
 |_,_=>False
def LH:rT K (rI Vo λi j=>.int (i / j)) Q7:=by intro Z tm O ρ σ H x y v w q Q I h1 h2 h k;unfold Q7 at h;split at h;exact⟨_,_,h1.int,h2.int,h.1,k _ h.2 _ H (aO.refl H) ⟨I,bz⟩⟩;exact h.elim
def Q8(x y:T)(q:Rt->Prop):Prop:=match x,y with
 |.int i,.int j=>0<j/\q (.vw (.int (i % j)))
 |_,_=>False
def LI:rT K (rI (λ_ j=>0<j) λi j=>.int (i % j)) Q8:=by intro Z tm O ρ σ H x y v w q Q I h1 h2 h k;unfold Q8 at h;split at h;exact⟨_,_,h1.int,h2.int,h.1,k _ h.2 _ H (aO.refl H) ⟨I,bz⟩⟩;exact h.elim
def Q9(x y:T)(q:Rt->Prop):Prop:=match x,y with
 |.int i,.int j=>(0<=j/\j<=1000000/\i.natAbs<2 ^ 64)/\q (.vw (.int (i ^ j.toNat)))
 |_,_=>False
def LJ:rT K (rI Vp λi j=>.int (i ^ j.toNat)) Q9:=by intro Z tm O ρ σ H x y v w q Q I h1 h2 h k;unfold Q9 at h;split at h;exact⟨_,_,h1.int,h2.int,h.1,k _ h.2 _ H (aO.refl H) ⟨I,bz⟩⟩;exact h.elim
def pLt(x y:T)(q:Rt->Prop):Prop:=match x,y with
 |.int i,.int j=>q (.vw (.bl (decide (i<j))))
 |_,_=>False
def Q_:rT K (xt λi j=>.bl (decide (i<j))) pLt:=by intro Z tm O ρ σ H x y v w q Q I h1 h2 h k;unfold pLt at h;split at h;exact⟨_,_,h1.int,h2.int,k _ h _ H (aO.refl H) ⟨I,eT⟩⟩;exact h.elim
def pGt(x y:T)(q:Rt->Prop):Prop:=match x,y with
 |.int i,.int j=>q (.vw (.bl (decide (j<i))))
 |_,_=>False
def Ra:rT K (xt λi j=>.bl (decide (j<i))) pGt:=by intro Z tm O ρ σ H x y v w q Q I h1 h2 h k;unfold pGt at h;split at h;exact⟨_,_,h1.int,h2.int,k _ h _ H (aO.refl H) ⟨I,eT⟩⟩;exact h.elim
def pGe(x y:T)(q:Rt->Prop):Prop:=match x,y with
 |.int i,.int j=>q (.vw (.bl (decide (j<=i))))
 |_,_=>False
def Rb:rT K (xt λi j=>.bl (decide (j<=i))) pGe:=by intro Z tm O ρ σ H x y v w q Q I h1 h2 h k;unfold pGe at h;split at h;exact⟨_,_,h1.int,h2.int,k _ h _ H (aO.refl H) ⟨I,eT⟩⟩;exact h.elim
noncomputable def Oo(K:Δ):R2:=λx y H Q=>∃l b xs zs,x=.ref l/\y=.ref b/\gw K H l xs/\gw K H b zs/\xs.length+zs.length<=sizeLine/\∀p,H p=none->Q (.ref p) (upd H p (.lst (xs++zs)))
noncomputable def Oq(K:Δ):R2:=λx y H Q=>∃a b xs ys,x=.ref a/\y=.ref b/\dz K H a xs/\dz K H b ys/\xs.length+ys.length<=sizeLine/\(xs=[]->Q (.ref b) H)/\(xs≠[]->ys=[]->Q (.ref a) H)/\(xs≠[]->ys≠[]->∀p,H p=none->Q (.ref p) (upd H p (.tup (xs++ys))))
section
def LK:gx X (binaryOp .Add) (Oo X.K):=by
 intro γ s σ H x y v u Q I rx ry h;obtain⟨l,b,xs,zs,rfl,rfl,hH,hB,hz,q⟩:=h;cases rx;cases ry;obtain⟨aP,r,p1,z1⟩:=I.list hH;obtain⟨uU,r2,p2,z2⟩:=I.list hB;obtain⟨⟨cls,dd,data,sl⟩,n,ho,hc,_,hd⟩:=p1;obtain⟨⟨VF,Ur,data2,Us⟩,n2,Fx,Fy,_,hd2⟩:=p2;simp only at hc hd Fy hd2;subst hc hd Fy hd2;have l1:=r.length;have l2:=r2.length;have e:aP.toArray++uU.toArray=(aP++uU).toArray:=by simp
 refine concat_meets ⟨_,ho,rfl⟩ ⟨_,Fx,rfl⟩ noFill_list_add seq_list_add PySem.F.slot_list_add PySem.F.entry_list_add (PySem.F.args_list_add_2 _ _) (list_addW l b aP.toArray uU.toArray n n2 dd Ur sl Us (by simp only[jP];omega)) ⟨ho,Fx,?_⟩;rw[e];exact⟨.ref _,_,I.V1 (t':=s.toks) (r.append r2) (by rw[jf];omega),rfl,q _ I.fresh⟩
def LL:gx X (binaryOp .Add) (Oq X.K):=by
 intro γ s σ H x y v u Q I rx ry h;obtain⟨a,b,xs,ys,rfl,rfl,ha,hb,hz,q0,q1,q2⟩:=h;cases rx;cases ry;obtain⟨aP,r1,p1,_⟩:=I.tuple ha;obtain⟨uU,r2,p2,_⟩:=I.tuple hb;by_cases hx:xs=[];obtain⟨⟨cls,dd,data,sl⟩,ho,hc,n,hd⟩:=id p1;obtain⟨⟨VF,Ur,data2,Us⟩,Fx,Fy,n2,hd2⟩:=id p2;simp only at hc hd Fy hd2;subst hc hd Fy hd2;exact concat_meets ⟨_,ho,rfl⟩ ⟨_,Fx,rfl⟩ noFill_tuple_add seq_tuple_add ZO ZM (ZL _ _)
  (tuple_addW0 a b aP.toArray uU.toArray n n2 dd Ur sl Us (by simp[r1.oU.mpr hx])) ⟨ho,Fx,⟨.ref b,H,I,rfl,q0 hx⟩⟩
 refine HT.Ld p1 p2 (λz=>hx (r1.oU.mp z)) (λz=>⟨.ref a,H,I,rfl,q1 hx (r2.oU.mp z)⟩) (λz=>?_) (by rw[<- r1.length,<- r2.length];exact hz);refine⟨.ref s.heap.objs.size,_,I.laid (t':=s.toks) (o:=.tup (xs++ys)) (λb ob q=>fN _ q) (cS _) ?_,rfl,q2 hx (λw=>z (r2.oU.mpr w)) _ (I.cj.fresh (cS _))⟩;exact⟨by rw[jf];exact hz,_,r1.append r2,IsTup.new _ _⟩
end
noncomputable def Ot(K:Δ):R2:=λx y H Q=>xt (λi j=>.int (i+j)) x y H Q\/(λx y H Q=>∃i j,x=.str i/\y=.str j/\i.length+j.length<=sizeLine/\Q (.str (i++j)) H) x y H Q\/Oo K x y H Q\/Oq K x y H Q
def LM:gx X (binaryOp .Add) (Ot X.K):=gx.or Qz (gx.or zV (gx.or LK LL))
def Rc(x y:T)(q:Rt->Prop):Prop:=match x,y with
 |.int i,.int j=>q (.vw (.int (i+j)))
 |.str i,.str j=>i.length+j.length<=sizeLine/\q (.vw (.str (i++j)))
 |.lst a,.lst b=>a.length+b.length<=sizeLine/\q (.fr (.lst (a++b)))
 |.tup a,.tup b=>a.length+b.length<=sizeLine/\q (.vw (.tup (a++b)))
 |_,_=>False
def LN:rT K (Ot K) Rc:=by
 intro Z tm O ρ σ H x y v w q Q I h1 h2 h k;unfold Rc at h;split at h;exact .inl ⟨_,_,h1.int,h2.int,k _ h _ H (aO.refl H) ⟨I,bz⟩⟩;exact .inr (.inl ⟨_,_,h1.str,h2.str,h.1,k _ h.2 _ H (aO.refl H) ⟨I,cD⟩⟩);obtain⟨a,vs,rfl,s1,a1⟩:=h1.lst;obtain⟨b,ws,rfl,s2,a2⟩:=h2.lst;exact .inr (.inr (.inl ⟨a,b,vs,ws,rfl,rfl,s1,s2,by rw[a1.length,a2.length];exact h.1,λp hp=>k _ h.2 _ _ (aA hp) (I.Ah hp (a1.append a2))⟩));obtain⟨a,vs,rfl,s1,a1⟩:=h1.tup;obtain⟨b,ws,rfl,s2,a2⟩:=h2.tup;refine .inr (.inr (.inr ⟨a,b,vs,ws,rfl,rfl,s1,s2,by rw[a1.length,a2.length];exact h.1,λe=>?_,λ_ e=>?_,λ_ _ p hp=>?_⟩));subst e;have e:=a1.length
 rename_i xs ys
 have e':xs=[]:=YE.mp e.symm;subst e';exact k _ h.2 _ H (aO.refl H) ⟨I,bU s2 a2⟩;subst e;have e:=a2.length
 rename_i xs ys _
 have e':ys=[]:=YE.mp e.symm;subst e';exact k _ h.2 _ H (aO.refl H) ⟨I,by rw[xc];exact bU s1 a1⟩;exact k _ h.2 _ _ (aA hp) ⟨I.same (aA hp),bU (dz.of aC) ((a1.append a2).same (aA hp))⟩;exact h.elim
section
variable{Z:Zc}{a:Expr}{pos:Pos}{fa fb:FE}
def bS(ha:VR X Z a fa)(hb:VR X Z b fb):VP X Z (.BinOp a .Add b pos) (f2 fa fb Rc):=iJ LM LN ha hb
def mT(ha:VR X Z a fa)(hb:VR X Z b fb):VP X Z (.BinOp a .Sub b pos) (f2 fa fb Q5):=iJ QA LF ha hb
def uV(ha:VR X Z a fa)(hb:VR X Z b fb):VP X Z (.BinOp a .Mult b pos) (f2 fa fb Q6):=iJ QB LG ha hb
def cW(ha:VR X Z a fa)(hb:VR X Z b fb):VP X Z (.BinOp a .FloorDiv b pos) (f2 fa fb Q7):=iJ K9 LH ha hb
def bH(ha:VR X Z a fa)(hb:VR X Z b fb):VP X Z (.BinOp a .Mod b pos) (f2 fa fb Q8):=iJ QC LI ha hb
def GJ(ha:VR X Z a fa)(hb:VR X Z b fb):VP X Z (.BinOp a .Pow b pos) (f2 fa fb Q9):=iJ QD LJ ha hb
def acU(f:FE):FP:=λρ Q=>f ρ λx=>match x with
 |.int i=>Q (.vw (.int (-i)))
 |_=>False
def pU(ha:VR X Z a fa):VP X Z (.UnaryOp .USub a pos) (acU fa):=.mk λtm=>PE.weak (Oe Gh (ha tm)) λσ H Q ⟨ρ,O,q,I,hf,k⟩=>⟨ρ,O,_,I,hf,λt ht v H1 s1 a1=>by split at ht;exact⟨_,a1.int,k _ ht _ H1 s1 ⟨I.same s1,bz⟩⟩;exact ht.elim⟩
def GK(hu:X.A.units+101<cLine)(ha:VR X Z a fa)(hb:VR X Z b fb):VP X Z (.Compare a [.Eq] [b] pos) (f2 fa fb Wj):=GF (GG hu) GH ha hb (ji _)
def de(hu:X.A.units+101<cLine)(ha:VR X Z a fa)(hb:VR X Z b fb):VC X Z (.Compare a [.Eq] [b] pos) (oC (f2 fa fb Wj)):=jk (GG hu) GH ha hb (ji _)
def xJ(hu:X.A.units+101<cLine)(ha:VR X Z a fa)(hb:VR X Z b fb):VC X Z (.Compare a [.NotEq] [b] pos) (oC (f2 fa fb Y3)):=jk (Q2 hu) Q3 ha hb (ji _)
def xK(ha:VR X Z a fa)(hb:VR X Z b fb):VC X Z (.Compare a [.Lt] [b] pos) (oC (f2 fa fb pLt)):=jk Vq Q_ ha hb (ji _)
def GN(ha:VR X Z a fa)(hb:VR X Z b fb):VC X Z (.Compare a [.Gt] [b] pos) (oC (f2 fa fb pGt)):=jk Vr Ra ha hb (ji _)
def Wo(ha:VR X Z a fa)(hb:VR X Z b fb):VC X Z (.Compare a [.GtE] [b] pos) (oC (f2 fa fb pGe)):=jk Vs Rb ha hb (ji _)
def f3(fa fb fc:FE)(p p':T->T->(Rt->Prop)->Prop):FP:=λρ Q=>fa ρ λx=>fb ρ λy=>p x y λr=>match r with
 |.vw (.bl true)=>fc ρ λz=>p' y z Q
 |.vw (.bl false)=>Q (.vw (.bl false))
 |_=>False
end
def GO{A:ο}{ts:List T}{i:Int}{t:T}(h:az K H A ts vs)(e:km ts i=some t):∃v,km vs i=some v/\At K H A t v:=by
 unfold km at e ⊢;rw[h.length];cases q:xx ts.length i with
 |none=>rw[q] at e;cases e
 |some j=>rw[q] at e;obtain⟨v,h1,h2⟩:=h.get (i:=j) e;exact⟨v,h1,h2⟩
def Y4(x y:T)(q:Rt->Prop):Prop:=match x,y with
 |.lst ts,.int i=>∃t,km ts i=some t/\q (.vw t)
 |.tup ts,.int i=>∃t,km ts i=some t/\q (.vw t)
 |.str z,.int i=>z.length<=sizeLine/\∃c,km z.cps.toList i=some c/\q (.vw (.str ⟨#[c]⟩))
 |_,_=>False
def Rf:rT K (rIx K) Y4:=by intro Z tm O ρ σ H x y v w q Q I h1 h2 h k;unfold Y4 at h;split at h;obtain⟨t,e,h⟩:=h;obtain⟨a,vs,rfl,s1,a1⟩:=h1.lst;obtain⟨u,e',a2⟩:=GO a1 e;exact .inl ⟨a,vs,_,u,rfl,h2.int,s1,e',k _ h _ H (aO.refl H) ⟨I,a2⟩⟩;obtain⟨t,e,h⟩:=h;obtain⟨a,vs,rfl,s1,a1⟩:=h1.tup;obtain⟨u,e',a2⟩:=GO a1 e;exact .inr (.inl ⟨a,vs,_,u,rfl,h2.int,s1,e',k _ h _ H (aO.refl H) ⟨I,a2⟩⟩);obtain⟨hz,c,e,h⟩:=h;exact .inr (.inr ⟨_,_,c,h1.str,h2.int,hz,e,k _ h _ H (aO.refl H) ⟨I,cD⟩⟩);exact h.elim
section
variable{Z:Zc}{a:Expr}{pos:Pos}{fa fb:FE}
def aI(ha:VR X Z a fa)(hb:VR X Z b fb)(hs:uJ b:=by intro _ _;rfl):VP X Z (.Subscript a b pos) (f2 fa fb Y4) :=
 .mk λtm=>PE.weak (Oj QL (ha tm) (hb tm) hs) (two Rf)
end
abbrev FO:=En->(Option Int->Prop)->Prop
def lO(X:Cx)(Z:Zc)(tm:List (T×V))(f:FO):TO:=λσ H Q=>∃ρ O q,ay X.K Z tm O ρ σ H/\f ρ q/\∀o,q o->∀H',aO H H'->Q o H'
def VO(X:Cx)(Z:Zc)(e:Option Expr)(f:FO):Prop:=Bx λtm=>PO X e (lO X Z tm f)
instance{X:Cx}{Z:Zc}{e:Option Expr}{f:FO}:CoeFun (VO X Z e f) λ_=>∀tm,PO X e (lO X Z tm f):=⟨λh=>Bx.h h⟩
def PO.weak{e:Option Expr}{t t':TO}(h:PO X e t)(hw:∀σ H Q,t' σ H Q->t σ H Q):PO X e t':=λγ s σ H Q I q=>h γ s σ H Q I (hw _ _ _ q)
def fO0:FO:=λ_ Q=>Q none
def fO1(f:FE):FO:=λρ Q=>f ρ λt=>match t with
 |.int i=>Q (some i)
 |_=>False
noncomputable def f_{α:Type}(xs:List α)(lo hi:Option Int):List α:=(xs.drop (HT.c9 xs.length 0 lo)).take (HT.c9 xs.length xs.length hi-HT.c9 xs.length 0 lo)
def az.cut{A:ο}{ts:List T}(h:az K H A ts vs)(lo hi:Option Int):az K H A (f_ ts lo hi) (uH vs lo hi):=by unfold f_ uH;rw[h.length];exact (h.drop _).take _
def GP{xs:List α}{lo hi:Option Int}(h:HT.c9 xs.length 0 lo=0/\HT.c9 xs.length xs.length hi=xs.length):f_ xs lo hi=xs:=by unfold f_;rw[h.1,h.2,List.drop_zero,Nat.sub_zero,List.take_length]
def acV(K:Δ):V->Option Int->Option Int->Hp->VK->Prop:=λx lo hi H Q=>VZ K x lo hi H Q\/VM K x lo hi H Q\/Wc x lo hi H Q
def acW:Fz X (acV X.K):=Fz.or Lj (Fz.or Gp QY)
def pSl(x:T)(lo hi:Option Int)(q:Rt->Prop):Prop:=match x with
 |.lst ts=>q (.fr (.lst (f_ ts lo hi)))
 |.tup ts=>¬ (HT.c9 ts.length 0 lo=0/\HT.c9 ts.length ts.length hi=ts.length)/\q (.vw (.tup (f_ ts lo hi)))
 |.str z=>z.length<=sizeLine/\q (.vw (.str (Txt.slice z lo hi)))
 |_=>False
def fSl(fa:FE)(fl fh:FO):FP:=λρ Q=>fa ρ λx=>fl ρ λlo=>fh ρ λhi=>pSl x lo hi Q
section
variable{Z:Zc}{a:Expr}{pos:Pos}{fa:FE}{fl fh:FO}
def iL:VO X Z none fO0:=.mk λtm=>PO.weak Lf λσ H Q ⟨ρ,O,q,I,hf,k⟩=>k _ hf H (aO.refl H)
def fg(h:VR X Z e fa):VO X Z (some e) (fO1 fa):=.mk λtm=>PO.weak (Lg (h tm)) λσ H Q ⟨ρ,O,q,I,hf,k⟩=>⟨ρ,O,_,I,hf,λt ht v H' s z=>by split at ht;exact⟨_,z.int,k _ ht H' s⟩;exact ht.elim⟩
def ic(he:VR X Z e fa)(hl:VO X Z lo fl)(hh:VO X Z hi fh):VP X Z (.Subscript e (.Slice lo hi none p2) pos) (fSl fa fl fh) :=
 .mk λtm=>PE.weak (xw acW (he tm) (hl tm) (hh tm)) λσ H Q ⟨ρ,O,q,I,hf,k⟩=>⟨ρ,O,_,I,hf,λx hx v H1 s1 a1=>⟨ρ,O,_,I.same s1,hx,λl hl H2 s2=>⟨ρ,O,_,(I.same s1).same s2,hl,λu hu H3 s3=>by have J:=((I.same s1).same s2).same s3;have a3:=(a1.same s2).same s3;have S:=(s1.trans s2).trans s3;unfold pSl at hu;split at hu;obtain⟨p,vs,rfl,q1,q2⟩:=a3.lst;exact .inl ⟨p,vs,rfl,q1,λr hr=>k _ hu _ _ (S.trans (aA hr)) (J.Ah hr (q2.cut _ _))⟩;obtain⟨p,vs,rfl,q1,q2⟩:=a3.tup;refine .inr (.inl ⟨p,vs,rfl,q1,by rw[q2.length];exact hu.1,λr hr=>k _ hu.2 _ _ (S.trans (aA hr)) ⟨J.same (aA hr),bU (dz.of aC) ((q2.cut _ _).same (aA hr))⟩⟩);exact .inr (.inr ⟨_,a3.str,hu.1,k _ hu.2 _ H3 S ⟨J,cD⟩⟩);exact hu.elim⟩⟩⟩
end
def Ou(g:FA)(p:List T->(Rt->Prop)->Prop):FP:=λρ Q=>g ρ λts=>p ts Q
def nR(K:Δ)(r:Ω->Hp->VK->Prop)(p:List T->(Rt->Prop)->Prop):Prop :=
 ∀(Z:Zc)(tm:List (T×V))(O:HD)(ρ:En)(σ:St)(H:Hp)(ts:List T)(vs:Ω)(q:Rt->Prop)(Q:VK),ay K Z tm O ρ σ H->Paired (λv t=>g_ K H (av Z O) t v) vs ts->p ts q ->
  (∀t,q t->∀u H',aO H H'->gy K Z tm O ρ σ H' t u->Q u H')->r vs H Q
section
variable{Z:Zc}{a:Expr}{pos:Pos}{g:FA}{id Ty:String}{r:Ω->Hp->VK->Prop}{pp:List T->(Rt->Prop)->Prop}
def bq(hc:eE X (.builtin id) r)(ht:nR X.K r pp)(hg:Gl X x)(hm:X.mg x=none)(hv:bootBuiltins x=some (.builtin id))(ha:Om X Z (e::es) g)(hn:x≠"__name__":=by decide)(kj:gq x:=by decide)(hs:starEach (e::es) X.env=(false,eval e X.env)::starEach es X.env:=by rfl)(fO:(backTo pos (starEach es X.env)).any (·.1)=false:=by rfl):VP X Z (.Call (.Name x p) (e::es) [] pos) (Ou g pp) :=
 .mk λtm=>PE.weak (pH hc hg hm hv (ha tm) hn kj hs fO) λσ H Q ⟨ρ,O,q,I,hf,k⟩=>⟨ρ,O,_,I,hf,λts dZ vs H1 s1 a1=>ht Z tm O ρ σ H1 ts vs q _ (I.same s1) a1 dZ λt h u H' s z=>k t h u H' (s1.trans s) z⟩
def eh(hc:eE X (.type Ty) r)(ht:nR X.K r pp)(hg:Gl X x)(hm:X.mg x=none)(hv:bootBuiltins x=some (.type Ty))(ha:Om X Z (e::es) g)(hn:x≠"__name__":=by decide)(kj:gq x:=by decide)(hs:starEach (e::es) X.env=(false,eval e X.env)::starEach es X.env:=by rfl)(fO:(backTo pos (starEach es X.env)).any (·.1)=false:=by rfl):VP X Z (.Call (.Name x p) (e::es) [] pos) (Ou g pp) :=
 .mk λtm=>PE.weak (DT hc hg hm hv (ha tm) hn kj hs fO) λσ H Q ⟨ρ,O,q,I,hf,k⟩=>⟨ρ,O,_,I,hf,λts dZ vs H1 s1 a1=>ht Z tm O ρ σ H1 ts vs q _ (I.same s1) a1 dZ λt h u H' s z=>k t h u H' (s1.trans s) z⟩
end
def Wq(ts:List T)(q:Rt->Prop):Prop:=match ts with
 |[.lst l]=>q (.vw (.int l.length))
 |[.tup l]=>q (.vw (.int l.length))
 |[.str z]=>z.length<=sizeLine/\q (.vw (.int z.length))
 |_=>False
def Ov(K:Δ):Ω->Hp->VK->Prop:=λxs H Q=>(∃p ys,xs=[.ref p]/\(gw K H p ys\/dz K H p ys)/\Q (.int ys.length) H)\/(∃z,xs=[.str z]/\z.length<=sizeLine/\Q (.int z.length) H)
def bh:eE X (.builtin "len") (Ov X.K):=eE.or uM uN
def dB{F:α->β->Prop}{vs:List α}{t:β}(h:Paired F vs [t]):∃v,vs=[v]/\F v t:=by
 cases h with
 |cons r q=>cases q;exact⟨_,rfl,r⟩
def B4{F:α->β->Prop}{vs:List α}{t u:β}(h:Paired F vs [t,u]):∃v w,vs=[v,w]/\F v t/\F w u:=by
 cases h with
 |cons r q=>cases q with
  |cons r2 q2=>cases q2;exact⟨_,_,rfl,r,r2⟩
def bj:nR K (Ov K) Wq:=by intro Z tm O ρ σ H ts vs q Q I h hp k;unfold Wq at hp;split at hp;obtain⟨v,rfl,a⟩:=dB h;obtain⟨p,ws,rfl,q1,q2⟩:=a.lst;exact .inl ⟨p,ws,rfl,.inl q1,k _ hp _ H (aO.refl H) ⟨I,by rw[q2.length];exact bz⟩⟩;obtain⟨v,rfl,a⟩:=dB h;obtain⟨p,ws,rfl,q1,q2⟩:=a.tup;exact .inl ⟨p,ws,rfl,.inr q1,k _ hp _ H (aO.refl H) ⟨I,by rw[q2.length];exact bz⟩⟩;obtain⟨v,rfl,a⟩:=dB h;exact .inr ⟨_,by rw[a.str],hp.1,k _ hp.2 _ H (aO.refl H) ⟨I,bz⟩⟩;exact hp.elim
def Ow(ts:List T)(q:Rt->Prop):Prop:=match ts with
 |[.lst l]=>q (.fr (.lst l))
 |[.tup l]=>q (.fr (.lst l))
 |_=>False
def kr:nR K (λxs H Q=>∃p ys,xs=[.ref p]/\(gw K H p ys\/dz K H p ys)/\∀l,H l=none->Q (.ref l) (upd H l (.lst ys))) Ow:=by intro Z tm O ρ σ H ts vs q Q I h hp k;unfold Ow at hp;split at hp;obtain⟨v,rfl,a⟩:=dB h;obtain⟨p,ws,rfl,q1,q2⟩:=a.lst;exact⟨p,ws,rfl,.inl q1,λl hl=>k _ hp _ _ (aA hl) (I.Ah hl q2)⟩;obtain⟨v,rfl,a⟩:=dB h;obtain⟨p,ws,rfl,q1,q2⟩:=a.tup;exact⟨p,ws,rfl,.inr q1,λl hl=>k _ hp _ _ (aA hl) (I.Ah hl q2)⟩;exact hp.elim
def GQ(ts:List T)(q:Rt->Prop):Prop:=match ts with
 |[.lst l]=>q (.vw (.tup l))
 |[.tup l]=>q (.vw (.tup l))
 |_=>False
def fm:nR K (λxs H Q=>∃p ys,xs=[.ref p]/\((gw K H p ys/\∀l,H l=none->Q (.ref l) (upd H l (.tup ys)))\/(dz K H p ys/\Q (.ref p) H))) GQ:=by intro Z tm O ρ σ H ts vs q Q I h hp k;unfold GQ at hp;split at hp;obtain⟨v,rfl,a⟩:=dB h;obtain⟨p,ws,rfl,q1,q2⟩:=a.lst;exact⟨p,ws,rfl,.inl ⟨q1,λl hl=>k _ hp _ _ (aA hl) ⟨I.same (aA hl),bU (dz.of aC) (q2.same (aA hl))⟩⟩⟩;obtain⟨v,rfl,a⟩:=dB h;obtain⟨p,ws,rfl,q1,q2⟩:=a.tup;exact⟨p,ws,rfl,.inr ⟨q1,k _ hp _ H (aO.refl H) ⟨I,bU q1 q2⟩⟩⟩;exact hp.elim
structure FD where
 nx:En->Prop
 rt:En->Rt->Prop
 bk:En->Prop:=λ_=>False
 ct:En->Prop:=λ_=>False
structure Fin(K:Δ)(Z:Zc)(tm:List (T×V))(d:FD)(D:Ends):Prop where
 nx:∀O ρ σ H,ay K Z tm O ρ σ H->d.nx ρ->D.nx σ H
 rt:∀O ρ σ H r v,gy K Z tm O ρ σ H r v->d.rt ρ r->D.rt v H
 bk:∀O ρ σ H,ay K Z tm O ρ σ H->d.bk ρ->D.bk σ H
 ct:∀O ρ σ H,ay K Z tm O ρ σ H->d.ct ρ->D.ct σ H
abbrev FS:=FD->En->Prop
def lS(X:Cx)(Z:Zc)(tm:List (T×V))(g:FS):TS:=λD σ H=>∃ρ O d,ay X.K Z tm O ρ σ H/\g d ρ/\Fin X.K Z tm d D
def VS(X:Cx)(Z:Zc)(st:Stmt)(g:FS):Prop:=Bx λtm=>PS X st (lS X Z tm g)
instance{X:Cx}{Z:Zc}{st:Stmt}{g:FS}:CoeFun (VS X Z st g) λ_=>∀tm,PS X st (lS X Z tm g):=⟨λh=>Bx.h h⟩
def oF(X:Cx)(Z:Zc)(st:qaq)(g:FS):Prop:=Bx λtm=>hY X st (lS X Z tm g)
instance{X:Cx}{Z:Zc}{st:qaq}{g:FS}:CoeFun (oF X Z st g) λ_=>∀tm,hY X st (lS X Z tm g):=⟨λh=>Bx.h h⟩
def bN(Z:Zc)(i:Nat):Prop:=∀p∈Z.P,p.1≠i
section
variable{Z:Zc}{st:Stmt}{rest:qaq}{g u:FS}{pos:Pos}
def Wr:FS:=λd ρ=>d.nx ρ
def Ws(g u:FS):FS:=λd ρ=>g {d with nx:=u d} ρ
def aZ:oF X Z [] Wr:=.mk λtm=>hY.ia BL λD σ H ⟨ρ,O,d,I,h,F⟩=>F.nx O ρ σ H I h
def ah(h1:VS X Z st g)(h2:oF X Z rest u):oF X Z (st::rest) (Ws g u):=.mk λtm=>hY.ia (cN (h1 tm) (h2 tm)) λD σ H ⟨ρ,O,d,I,h,F⟩ =>
 ⟨ρ,O,{d with nx:=u d},I,h,⟨λO' ρ' σ' H' I' h'=>⟨ρ',O',d,I',h',F⟩,F.rt,F.bk,F.ct⟩⟩
def ax(h1:VS X Z st g):oF X Z [st] g:=.mk λtm=>jR (h1 tm)
def oF.weak(h:oF X Z rest g)(hw:∀d ρ,u d ρ->g d ρ):oF X Z rest u:=.mk λtm=>hY.ia (h tm) λD σ H ⟨ρ,O,d,I,q,F⟩=>⟨ρ,O,d,I,hw d ρ q,F⟩
def Wt(f:FX):FS:=λd ρ=>f ρ λρ' _=>d.nx ρ'
def cX{f:FX}(h:VX X Z e f)(hs:swapsWith e none pos.line X.env=pure false:=by rfl):VS X Z (.Expr e pos) (Wt f):=.mk λtm=>PS.weak (k7 (h tm) hs) λD σ H ⟨ρ,O,d,I,q,F⟩ =>
 ⟨ρ,O,_,I,q,λρ' r hr O' v H' z=>F.nx O' ρ' σ H' z.env hr⟩
def acX(f:FX):FS:=λd ρ=>f ρ λρ' r=>d.rt ρ' r
def aT{f:FX}(h:VX X Z e f):VS X Z (.Return (some e) pos) (acX f):=.mk λtm=>PS.weak (uC (h tm)) λD σ H ⟨ρ,O,d,I,q,F⟩ =>
 ⟨ρ,O,_,I,q,λρ' r hr O' v H' z=>F.rt O' ρ' σ H' r v z hr⟩
def gIf(c:FB)(g u:FS):FS:=λd ρ=>c ρ λb=>if b=true then g d ρ else u d ρ
def bJ{fc:FB}{a b:qaq}(hc:VC X Z c fc)(ha:oF X Z a g)(hb:oF X Z b u):VS X Z (.If c a b pos) (gIf fc g u):=.mk λtm=>PS.weak (Oc (hc tm) (ha tm) (hb tm)) λD σ H ⟨ρ,O,d,I,q,F⟩ =>
 ⟨ρ,O,_,I,q,λb hb H' s=>by
  cases b with
  |true=>rw[ε rfl] at hb ⊢;exact⟨ρ,O,d,I.same s,hb,F⟩
  |false=>rw[η gZ] at hb ⊢;exact⟨ρ,O,d,I.same s,hb,F⟩⟩
noncomputable def Wu(i:Nat)(f:FX):FS:=λd ρ=>f ρ λρ' r=>d.nx (ρ'.set i (some (r.t,false)))
def acY(i:Nat)(f:FX):FS:=λd ρ=>f ρ λρ' r=>match r with
 |.fr t=>d.nx (ρ'.set i (some (t,true)))
 |_=>False
def aX{f:FX}{pos':Pos}(hN:X.N.Nodup)(hi:X.N[i]?=some x)(hx:Loc X.env.scope x)(he:VX X Z e f)(hp:bN Z i)(hs:swapsWith e (some (.Name x pos')) pos.line X.env=pure false:=by rfl)(hf:X.fn x=true\/X.env.scope.names.lookup x=some .local:=by first|exact .inl rfl|exact .inr rfl|assumption):VS X Z (.Assign [.Name x pos'] e pos) (Wu i f):=.mk λtm=>PS.weak (uD hN hi hx (he tm) hs hf) λD σ H ⟨ρ,O,d,I,q,F⟩ =>
 ⟨ρ,O,_,I,q,λρ' r hr O' v H' z=>F.nx _ _ _ H' (z.env.put hp z.at) hr⟩
def eX{f:FX}{pos':Pos}(hN:X.N.Nodup)(hi:X.N[i]?=some x)(hx:Loc X.env.scope x)(he:VX X Z e f)(hp:bN Z i)(hs:swapsWith e (some (.Name x pos')) pos.line X.env=pure false:=by rfl)(hf:X.fn x=true\/X.env.scope.names.lookup x=some .local:=by first|exact .inl rfl|exact .inr rfl|assumption):VS X Z (.Assign [.Name x pos'] e pos) (acY i f):=.mk λtm=>PS.weak (uD hN hi hx (he tm) hs hf) λD σ H ⟨ρ,O,d,I,q,F⟩ =>
 ⟨ρ,O,_,I,q,λρ' r hr O' v H' z=>by split at hr;obtain⟨a,rfl,J,hR,h0,Y0⟩:=z;exact F.nx _ _ _ H' (J.acP hp hR h0 Y0) hr;exact hr.elim⟩
def acZ(is:qao)(g:FS):FS:=λd ρ=>g d (is.foldl (λρ i=>match ρ[i]? with
 |some (some (t,true))=>ρ.set i (some (t,false))
 |_=>ρ) ρ)
theorem pV{K:Δ}{tm:List (T×V)}:∀(is:qao){O:HD}{ρ:En}{σ:St}{H:Hp},(∀i∈is,bN Z i)->ay K Z tm O ρ σ H->∃O',ay K Z tm O' (is.foldl (λρ i=>match ρ[i]? with
 |some (some (t,true))=>ρ.set i (some (t,false))
 |_=>ρ) ρ) σ H
 |[],O,ρ,σ,H,_,I=>⟨O,I⟩
 |i::is,O,ρ,σ,H,hp,I=>by
  rw[List.foldl_cons];have Uu:∀j∈is,bN Z j:=λj hj=>hp j (fJ _ hj);split
  rename_i t e
  exact pV is Uu (I.BG (hp i c6) e);exact pV is Uu I
def B5(is:qao)(h:oF X Z rest g)(hp:∀i∈is,bN Z i):oF X Z rest (acZ is g):=.mk λtm=>hY.ia (h tm) λD σ H ⟨ρ,O,d,I,q,F⟩=>let ⟨O',I'⟩:=pV is hp I;⟨_,O',d,I',q,F⟩
end
section
variable{Z:Zc}{a:Expr}{pos:Pos}
def ay.root{tm:List (T×V)}{ρ:En}(I:ay K Z tm O ρ σ H){k:Nat}{t:T}(e:ρ[k]?=some (some (t,true))):∃a,O[k]?=some (some a)/\σ[k]?=some (some (.ref a))/\ck K H (av Z O) a t:=by obtain⟨o,s,h1,h2,a,rfl,rfl,h3⟩:=I.sl k _ e;exact⟨a,h1,h2,h3⟩
def B6(k:Nat)(g:FA)(p:List T->List T->(List T->T->Prop)->Prop):FX:=λρ Q=>match ρ[k]? with
 |some (some (.lst ts,true))=>g ρ λvs=>p ts vs λgz r=>Q (ρ.set k (some (.lst gz,true))) (.vw r)
 |_=>False
def Wv(K:Δ)(r:V->Ω->Hp->VK->Prop)(p:List T->List T->(List T->T->Prop)->Prop):Prop :=
 ∀(H:Hp)(A:ο)(l:Addr)(xs:Ω)(ts us:List T)(vs:Ω)(q:List T->T->Prop)(Q:VK),l∈A->H l=some (.lst xs)->az K H A ts xs->az K H A us vs->p ts us q ->
  (∀gz t,q gz t->∀FH v,az K H A gz FH->At K H A t v->Q v (upd H l (.lst FH)))->r (.ref l) vs H Q
def B7{r:V->Ω->Hp->VK->Prop}{p:List T->List T->(List T->T->Prop)->Prop}(hm:Wv X.K r p){k:Nat}{g:FA}{tm:List (T×V)}{Q:VK}(h:lX X Z tm (B6 k g p) σ H Q) :
  ∃l,σ[k]?=some (some (.ref l))/\(∃xs,gw X.K H l xs)/\lA X Z tm g σ H λvs H1=>r (.ref l) vs H1 Q:=by
 obtain⟨ρ,O,q,I,hf,kk⟩:=h;unfold B6 at hf;split at hf
 rename_i ts e0
 obtain⟨l,h1,h2,xs,h3,h4⟩:=I.root e0;refine⟨l,h2,⟨xs,gw.of h3⟩,ρ,O,_,I,hf,λus Kr vs H1 s1 a1=>?_⟩;have J:=I.same s1;have ha:l∈av Z O:=cA _ (aH.mpr (eS h1));refine hm H1 (av Z O) l xs ts us vs _ Q ha (s1 _ _ h3) (h4.same s1) a1 Kr λgz t ht FH v b1 b2=>?_;exact kk _ _ ht O _ _ ⟨J.wrote e0 h1 ⟨FH,aC,b1.wrote ha (s1 _ _ h3) rfl⟩,b2.wrote ha (s1 _ _ h3) rfl⟩;exact hf.elim
def i_(k:Nat){name:Str}{id:String}{g:FA}{r:V->Ω->Hp->VK->Prop}{pp:List T->List T->(List T->T->Prop)->Prop}(slot:Slot "list" name id)(QO:typeOf (.builtin id)=pure (.type "method_descriptor"))(hm:Li X id r)(ht:Wv X.K r pp)(ha:VA X Z (e::es) g)(hN:X.N[k]?=some x:=by rfl)(hv:jQ X.env.scope x:=by exact jvv rfl)(hd:gq x:=by decide)(fH:rQ x:=by decide)(dj:attributeBase (.Name x p) name X.env (eval (.Name x p) X.env)=eval (.Name x p) X.env:=by rfl)(kn:((backTo aN (starEach (e::es) X.env)).all (λx=>!x.1) && (backToKw aN (keywordEach [] X.env)).all (λx=>x.1.isSome)
    && decide ((e::es).length+([]:List Keyword).length+(if ([]:List Keyword).isEmpty then 0 else 1)<30))=true:=by rfl)(dm:(apos.endLine==aN.line)=true:=by rfl)(hs:starEach (e::es) X.env=(false,eval e X.env)::starEach es X.env:=by rfl)(dY:(backTo aN (starEach es X.env)).any (·.1)=false:=by rfl) :
  VX X Z (.Call (.Attribute (.Name x p) name apos) (e::es) [] aN) (B6 k g pp):=.mk λtm=>
 PE.weak (pK Uc slot QO hm (bP hN hv hd fH) (ha tm) dj kn dm hs dY) λσ H Q h=>
  let ⟨l,h1,h2,h3⟩:=B7 ht h;⟨.ref l,h1,.inl ⟨rfl,h2⟩,h3⟩
def Rh(k:Nat){name:Str}{id:String}{r:V->Ω->Hp->VK->Prop}{pp:List T->List T->(List T->T->Prop)->Prop}(slot:Slot "list" name id)(QO:typeOf (.builtin id)=pure (.type "method_descriptor"))(hm:Li X id r)(ht:Wv X.K r pp)(hN:X.N[k]?=some x:=by rfl)(hv:jQ X.env.scope x:=by exact jvv rfl)(hd:gq x:=by decide)(fH:rQ x:=by decide)(dj:attributeBase (.Name x p) name X.env (eval (.Name x p) X.env)=eval (.Name x p) X.env:=by rfl)(dm:(apos.endLine==aN.line)=true:=by rfl):VX X Z (.Call (.Attribute (.Name x p) name apos) [] [] aN) (B6 k oE pp):=.mk λtm=>
 PE.weak (Ad Uc slot QO hm (bP hN hv hd fH) dj dm) λσ H Q h=>by obtain⟨l,h1,h2,ρ,O,q,I,hf,kk⟩:=B7 ht h;exact⟨.ref l,h1,.inl ⟨rfl,h2⟩,kk [] hf [] H (aO.refl H) az.nil⟩
def B8(ts us:List T)(q:List T->T->Prop):Prop:=match us with
 |[t]=>ts.length<sizeLine/\q (ts++[t]) .aQ
 |_=>False
def bY:Wv K BX B8:=by intro H A l xs ts us vs q Q hl hH h1 h2 hp k;unfold B8 at hp;split at hp;obtain⟨v,rfl,a⟩:=dB (az.iff.mp h2);exact⟨l,xs,v,rfl,rfl,hH,by rw[h1.length];exact hp.1,k _ _ hp.2 _ _ (h1.append (az.cons a az.nil)) Ag⟩;exact hp.elim
def ac0(ts us:List T)(q:List T->T->Prop):Prop:=us=[]/\∃t,ts[ts.length-1]?=some t/\q ts.dropLast t
def az.dropLast{A:ο}{ts:List T}(h:az K H A ts vs):az K H A ts.dropLast vs.dropLast:=by rw[List.dropLast_eq_take,List.dropLast_eq_take,h.length];exact h.take _
def LO:Wv K V2 ac0:=by
 intro H A l xs ts us vs q Q hl hH h1 h2 hp k;obtain⟨rfl,t,e1,hq⟩:=hp;have e:vs=[]:=by simpa only[az] using h2
 obtain⟨v,e2,a⟩:=h1.get e1;exact⟨l,xs,v,rfl,e,hH,by rw[h1.length];exact e2,k _ _ hq _ _ h1.dropLast a⟩
noncomputable def Oy(k:Nat)(f fi:FE):FS:=λd ρ=>match ρ[k]? with
 |some (some (.lst ts,true))=>f ρ λv=>fi ρ λi=>match i with
  |.int j=>∃n,xx ts.length j=some n/\d.nx (ρ.set k (some (.lst (ts.set n v),true)))
  |_=>False
 |_=>False
def mU(k:Nat){f fi:FE}{i:Expr}(he:VE X Z e f)(hi:VR X Z i fi)(hN:X.N[k]?=some x:=by rfl)(hv:jQ X.env.scope x:=by exact jvv rfl)(hd:gq x:=by decide)(fH:rQ x:=by decide)(ha:∀v,assign (.Subscript (.Name x p) i dX) X.env v=(do
    let ov <- holding [v] (eval (.Name x p) X.env)
    let iv <- holding [v,ov] (eval i X.env)
    standAt dX
    holding [v,ov,iv] (setItem ov iv v)
    release [v,ov,iv] []):=by intro _;rfl)(hs:swapsWithSole [.Subscript (.Name x p) i dX] e pos.line X.env=pure false:=by rfl)(hw:swappedStores [.Subscript (.Name x p) i dX] e X.env=pure none:=by rfl)(h1:(assignEach [.Subscript (.Name x p) i dX] X.env).map (·.2)=[assign (.Subscript (.Name x p) i dX) X.env]:=by rfl):VS X Z (.Assign [.Subscript (.Name x p) i dX] e pos) (Oy k f fi):=.mk λtm=>
 PS.weak (Ge (he tm) (Qs (bP hN hv hd fH) (hi tm) set_list ha) hs hw h1) λD σ H ⟨ρ,O,d,I,q,F⟩=>by
  unfold Oy at q;split at q
  rename_i ts e0
  obtain⟨l,h1,h2,xs,h3,h4⟩:=I.root e0;have ha:l∈av Z O:=cA _ (aH.mpr (eS h1));refine⟨ρ,O,_,I,q,λt ht v H1 s1 a1=>⟨.ref l,h2,ρ,O,_,I.same s1,ht,λj hj w H2 s2 a2=>?_⟩⟩;split at hj;obtain⟨n,e1,hj⟩:=hj;refine⟨l,xs,_,n,rfl,a2.int,s2 _ _ (s1 _ _ h3),by rw[h4.length];exact e1,?_⟩;refine F.nx O _ σ _ (((I.same s1).same s2).wrote (t':=.lst (ts.set n t)) e0 h1 ⟨xs.set n v,aC,?_⟩) hj;exact az.wrote ha (s2 _ _ (s1 _ _ h3)) rfl (((h4.same s1).same s2).set n (a1.same s2));exact hj.elim;exact q.elim
def ay.give{tm:List (T×V)}{ρ:En}(I:ay K Z tm O ρ σ H){t:T}(hp:bN Z i)(hi:ρ[i]?=some (some (t,true))):∃a,σ[i]?=some (some (.ref a))/\gy K Z tm (O.set i none) (ρ.set i none) σ H (.fr t) (.ref a):=by
 obtain⟨a,h1,h2,h3⟩:=I.root hi;have ha:a∈roots O:=aH.mpr (eS h1);obtain⟨o1,o2,o3⟩:=I.own a ha;have J:=I.forget hp;have J2:=I.BG hp hi;have na:a∉roots (O.set i none):=λz=>by
  obtain⟨o,s,g1,g2,g3,v,g4,g5⟩:=J2.sl i (some (t,false)) (by rw[Dx (by rw[<- I.lO];exact (fQ.mp h1).1)]);rw[h2] at g2;cases g2;cases g4;have nn:a∉av Z (O.set i none):=by
   obtain⟨u,eu,mu⟩:=h3.mut;cases t with
   |lst ts=>
    simp only[At] at g5;obtain⟨b,vs,eb,l,_⟩:=g5;cases eb;obtain l|⟨oo,_,_,lk,_⟩:=l
    exact l.2;exact λz2=>by
     have key:∀(O:HD)(i:Nat),O[i]?=some (some a)->(roots O).Nodup->a∉roots (O.set i none):=by
      intro O;induction O with
      |nil=>intro i h;simp at h
      |cons o O ih=>
       intro i h nd;cases i with
       |zero=>
        have:o=some a:=by simpa using h
        subst this;simp only[roots,N7,j5,id] at nd ⊢;exact (jg.mp nd).1
       |succ i=>
        have h':O[i]?=some (some a):=by simpa using h
        cases o with
        |none=>simp only[roots,FW,j5,id] at nd ⊢;exact ih i h' nd
        |some b=>
         simp only[roots,FW,j5,id] at nd ⊢;rw[jg] at nd;intro z;rcases cU.mp z with z|z
         exact nd.1 (by rw[<- z];exact aH.mpr (eS h'));exact ih i h' nd.2 z
     rcases cK.mp z2 with z2|z2
     exact key O i h1 I.nd z2;exact o2 z2
   |dk ks ts=>simp only[At] at g5;obtain⟨b,vs,eb,_,d,_⟩:=g5;cases eb;exact d.2
   |dt ks ts=>simp only[At] at g5;obtain⟨b,vs,eb,_,d,_⟩:=g5;cases eb;exact d.2
   |ins C ns ts=>simp only[At] at g5;obtain⟨b,dx,vs,eb,_,d,_⟩:=g5;cases eb;exact d.2
   |_=>exact h3.elim
  exact nn (cA _ z)
 have hP:Z.H0 a=none:=by
  obtain z|z:=o1
  obtain⟨p,hpm,rfl⟩:=rS.mp z;have:=J.par p hpm;exact absurd (aH.mpr (eS this)) na;exact z
 have sub:∀b∈av (Z.ex a) (O.set i none),b∈av Z O:=λb hb=>by
  rcases dA b hb with z|z
  exact cf i b z;rw[z];exact cA _ ha
 refine⟨a,h2,a,rfl,⟨J.lσ,J.lO,λj e h=>?_,J.nd,λb hb=>?_,J.par,λb hb=>?_,J.keep,λp hp=>(I.oB p hp).aY sub⟩,h3.aY sub,hP,o2⟩;rcases get_set h with⟨rfl,rfl,hl⟩|⟨ne,h⟩
 obtain⟨o,s,g1,g2,g3⟩:=J.sl j none (by rw[Dx hl]);exact⟨o,s,g1,g2,g3⟩;obtain⟨o,s,g1,g2,g3⟩:=I.sl j e h;exact⟨o,s,by rw[tq (Ne.symm ne)];exact g1,g2,g3.map (λ_ _ q=>q.aY sub) λ_ _ _ q=>q.aY sub⟩;obtain⟨q1,q2,q3⟩:=J.own b hb;refine⟨q1,λz=>?_,q3⟩;rcases cU.mp z with z|z
 exact na (by rw[<- z];exact hb);exact q2 z;rcases cU.mp hb with z|z
 obtain⟨u,eu,_⟩:=o3;rw[z,eu];simp;exact I.ox b z
def Oz(i:Nat):FX:=λρ Q=>match ρ[i]? with
 |some (some (t,true))=>Q (ρ.set i none) (.fr t)
 |some (some (t,false))=>Q ρ (.vw t)
 |_=>False
def uW(i:Nat)(hp:bN Z i)(hN:X.N[i]?=some x:=by rfl)(hv:jQ X.env.scope x:=by exact jvv rfl)(hd:gq x:=by decide)(fH:rQ x:=by decide):VX X Z (.Name x pos) (Oz i):=.mk λtm=>PE.weak (bP hN hv hd fH) λσ H Q ⟨ρ,O,q,I,hf,k⟩=>by
 unfold Oz at hf;split at hf
 rename_i t e
 obtain⟨a,h1,h2⟩:=I.give hp e;exact⟨_,h1,k _ _ hf _ _ H h2⟩
 rename_i t e
 obtain⟨o,s,h1,h2,rfl,v,rfl,h3⟩:=I.sl i _ e;exact⟨v,h2,k _ _ hf O v H ⟨I,h3⟩⟩;exact hf.elim
end
def ay.xM{Z:Zc}{tm tm':List (T×V)}{ρ:En}(I:ay K Z tm O ρ σ H)(h:∀p∈tm',At K H (av Z O) p.1 p.2):ay K Z tm' O ρ σ H :=
 ⟨I.lσ,I.lO,I.sl,I.nd,I.own,I.par,I.ox,I.keep,h⟩
def gy.xM{Z:Zc}{cm tm:List (T×V)}{ρ:En}{r:Rt}(h:gy K Z (cm++tm) O ρ σ H r v):gy K Z tm O ρ σ H r v:=by
 cases r with
 |vw t=>exact⟨h.1.xM λp hp=>h.1.oB p (bZ _ hp),h.2⟩
 |fr t=>obtain⟨a,e,I,q⟩:=h;exact⟨a,e,I.xM λp hp=>I.oB p (bZ _ hp),q⟩
def Wk(K:Δ)(J:It)(cm:List (T×V))(ts:List T):Prop:=∀H A,(∀a∈A,H a≠none)->(∀p∈cm,At K H A p.1 p.2)->∀i:Nat,
 (i<ts.length->J.go i H)/\(ts.length=i->J.stop i H)/\∀t,ts[i]?=some t->∀x H',J.Vf i H x H'->aO H H'/\At K H' A t x
abbrev FI:=En->(List T->Prop)->Prop
noncomputable def lI(X:Cx)(Z:Zc)(tm:List (T×V))(f:FI):TI:=λσ H R=>∃ρ O q,ay X.K Z tm O ρ σ H/\f ρ q/\∀ts,q ts->∀J H' cm,aO H H'->(∀p∈cm,At X.K H' (av Z O) p.1 p.2)->Wk X.K J cm ts->R J H'
def VI(X:Cx)(Z:Zc)(tg iter:Expr)(f:FI):Prop:=Bx λtm=>PI X tg iter (lI X Z tm f)
instance{X:Cx}{Z:Zc}{tg iter:Expr}{f:FI}:CoeFun (VI X Z tg iter f) λ_=>∀tm,PI X tg iter (lI X Z tm f):=⟨λh=>Bx.h h⟩
def PI.weak{tg:Expr}{t t':TI}(h:PI X tg e t)(hw:∀σ H R,t' σ H R->t σ H R):PI X tg e t':=λγ s σ H R I q=>h γ s σ H R I (hw _ _ _ q)
def PG.weak{tg:Expr}{t t':TG}(h:PG X tg t)(hw:∀v σ H Q,t' v σ H Q->t v σ H Q):PG X tg t':=λγ s σ H v u Q I r q=>h γ s σ H v u Q I r (hw _ _ _ _ q)
def Gb.weak{tg:qap}{t t':K2}(h:Gb X tg t)(hw:∀v σ H Q,t' v σ H Q->t v σ H Q):Gb X tg t':=λγ s σ H v u Q I r q=>h γ s σ H v u Q I r (hw _ _ _ _ q)
noncomputable def ac1(K:Δ)(tl:TE):TI:=λσ H R=>tl σ H λx H1=>(∃a,x=.ref a/\(∃xs,gw K H1 a xs)/\R (Itl K a) H1)\/(∃a,x=.ref a/\(∃xs,dz K H1 a xs)/\R (Itt K a) H1)\/∃z,x=.str z/\R (Y1 z) H1
section
variable{Z:Zc}{tg:Expr}
def Ri{l:Expr}{tl:TE}(hl:PE X l tl):PI X tg l (ac1 X.K tl):=by
 intro γ s σ H R I h;refine b_ (hl γ s σ H _ I h) λv s1 ⟨x,H1,I1,r1,q1⟩=>?_;obtain⟨a,e,hq,q⟩|⟨a,e,hq,q⟩|⟨z,e,q⟩:=q1
 subst e;cases r1;obtain⟨xs,hq⟩:=hq;obtain⟨aP,rv,p,hz⟩:=I1.list hq;refine wpAny_pyIter_list p.isList ?_;refine⟨s1.heap.objs.size,[s1.heap.objs.size],_,_,H1,rfl,I1.kept (t':=s1.toks) λb o e=>fN _ e,DG a _,⟨_,k4 _ rfl,rfl,rfl⟩,λb hb=>?_,q⟩;have e:b=s1.heap.objs.size:=by simpa using hb
 subst e;exact I1.oy (cS _) (I1.cj.fresh (cS _));subst e;cases r1;obtain⟨xs,hq⟩:=hq;obtain⟨aP,rv,p,hz⟩:=I1.tuple hq;refine aan (show s1.heap.IsTuple a aP.toArray from p) ?_;refine⟨s1.heap.objs.size,[s1.heap.objs.size],_,_,H1,rfl,I1.kept (t':=s1.toks) λb o e=>fN _ e,zR a _,⟨_,k4 _ rfl,rfl,rfl⟩,λb hb=>?_,q⟩;have e:b=s1.heap.objs.size:=by simpa using hb
 subst e;exact I1.oy (cS _) (I1.cj.fresh (cS _));subst e;obtain⟨t,rfl⟩:=r1;refine wpAny_pyIter_strU ?_;have I2:Inv X γ σ H1 {s1 with heap:=s1.heap.push {cls:=.type (strIterType z),data:=.fields #[.str z t,.int 0 0]} }:=I1.kept (t':=s1.toks) λb o e=>fN _ e;refine⟨s1.heap.objs.size,[s1.heap.objs.size],_,_,H1,rfl,I2,GA z t _,⟨_,k4 _ rfl,rfl,rfl⟩,λb hb=>?_,q⟩;have e:b=s1.heap.objs.size:=by simpa using hb
 subst e;exact I1.oy (cS _) I1.fresh
def ac2(f:FE):FI:=λρ Q=>f ρ λt=>match t with
 |.lst ts=>Q ts
 |.tup ts=>Q ts
 |.str z=>Q (z.cps.toList.map λc=>.str ⟨#[c]⟩)
 |_=>False
def LP{ts:List T}:Wk K (Itl K a) [(.lst ts,.ref a)] ts:=λH A hA h i=>by have h:=h _ c6;simp only[At] at h;obtain⟨b,vs,e,l,q⟩:=h;cases e;have hl:=q.length;refine⟨λhi=>⟨vs,vs[i]'(by omega),l.sq,by simp⟩,λhi=>⟨vs,l.sq,by omega⟩,λt ht x H' y=>?_⟩;obtain⟨rfl,y⟩:=y;obtain⟨v,e1,e2⟩:=q.get ht;have:=y vs l.sq;rw[e1] at this;cases this;exact⟨aO.refl _,e2⟩
def Rj{ts:List T}:Wk K (Itt K a) [(.tup ts,.ref a)] ts:=λH A hA h i=>by have h:=h _ c6;simp only[At] at h;obtain⟨b,vs,e,l,q⟩:=h;cases e;have hl:=q.length;refine⟨λhi=>⟨vs,vs[i]'(by omega),l,by simp⟩,λhi=>⟨vs,l,by omega⟩,λt ht x H' y=>?_⟩;obtain⟨rfl,y⟩:=y;obtain⟨v,e1,e2⟩:=q.get ht;have:=y vs l;rw[e1] at this;cases this;exact⟨aO.refl _,e2⟩
def Rk{z:Str}:Wk K (Y1 z) [] (z.cps.toList.map λc=>T.str ⟨#[c]⟩):=λH A hA h i=>by refine⟨λhi=>by rw[cJ,N4] at hi;exact hi,λhi=>by rw[cJ,N4] at hi;exact Nat.le_of_eq hi,λt ht x H' y=>?_⟩;obtain⟨rfl,c,hc,rfl⟩:=y;rw[hU,Array.getElem?_toList,hc] at ht;cases ht;exact⟨aO.refl _,cD⟩
def gb{l:Expr}{f:FE}(h:VE X Z l f):VI X Z tg l (ac2 f):=.mk λtm=>PI.weak (Ri (h tm)) λσ H R ⟨ρ,O,q,I,hf,k⟩=>⟨ρ,O,_,I,hf,λt ht v H' s a=>by split at ht;have a0:=a;simp only[At] at a;obtain⟨p,vs,rfl,l,_⟩:=a;exact .inl ⟨p,rfl,⟨vs,l.sq⟩,k _ ht _ H' _ s (λp hp=>by rw[iD.mp hp];exact a0) LP⟩;have a0:=a;simp only[At] at a;obtain⟨p,vs,rfl,l,_⟩:=a;exact .inr (.inl ⟨p,rfl,⟨vs,l⟩,k _ ht _ H' _ s (λp hp=>by rw[iD.mp hp];exact a0) Rj⟩);have e:=a;simp only[At] at e;exact .inr (.inr ⟨_,e,k _ ht _ H' [] s (λp hp=>nomatch hp) Rk⟩);exact ht.elim⟩
noncomputable def rangeT(lo:Int)(n:Nat):List T:=(List.range n).map λi=>T.int (lo+((i:Nat):Int))
theorem xN{lo:Int}:Wk K (Vg lo n) [] (rangeT lo n):=λH A hA h i=>by
 unfold rangeT;refine⟨λhi=>by rw[cJ,N8] at hi;exact hi,λhi=>by rw[cJ,N8] at hi;exact Nat.le_of_eq hi,λt ht x H' y=>?_⟩;obtain⟨rfl,rfl⟩:=y;rw[hU] at ht;cases e:(List.range n)[i]? with
 |none=>rw[e] at ht;cases ht
 |some j=>
  rw[e] at ht;have hj:j=i:=by have:=fQ.mp e;obtain⟨h1,h2⟩:=this;simpa using h2.symm
  subst hj;cases ht;exact⟨aO.refl _,bz⟩
def pR1(ts:List T)(Q:List T->Prop):Prop:=match ts with
 |[.int j]=>-(2 ^ 62)<=j/\j<2 ^ 62/\Q (rangeT 0 j.toNat)
 |_=>False
def pR2(ts:List T)(Q:List T->Prop):Prop:=match ts with
 |[.int i,.int j]=>(-(2 ^ 62)<=i/\i<2 ^ 62/\-(2 ^ 62)<=j/\j<2 ^ 62)/\Q (rangeT i (j-i).toNat)
 |_=>False
def GR(g:FA)(p:List T->(List T->Prop)->Prop):FI:=λρ Q=>g ρ λts=>p ts Q
def fR{a:Expr}{g:FE}{pos:Pos}(hg:Gl X "range")(hm:X.mg "range"=none)(ha:VR X Z a g)(hs:starEach [a] X.env=[(false,eval a X.env)]:=by rfl) :
  VI X Z tg (.Call (.Name "range" p) [a] [] pos) (GR (dI g oE) pR1):=.mk λtm=>PI.weak (DH hg hm ((aJ ha aW hs) tm) hs) λσ H R ⟨ρ,O,q,I,hf,k⟩=>⟨ρ,O,_,I,hf,λts dZ vs H' s a=>by
 unfold pR1 at dZ;split at dZ;obtain⟨v,rfl,a1⟩:=dB a;exact⟨_,by rw[a1.int],dZ.1,dZ.2.1,k _ dZ.2.2 _ H' [] s (λp hp=>nomatch hp) xN⟩;exact dZ.elim⟩
def D3{a:Expr}{g h:FE}{pos:Pos}(hg:Gl X "range")(hm:X.mg "range"=none)(ha:VR X Z a g)(hb:VR X Z b h)(hs:starEach [a,b] X.env=[(false,eval a X.env),(false,eval b X.env)]:=by rfl)(tE:starEach [b] X.env=[(false,eval b X.env)]:=by rfl) :
  VI X Z tg (.Call (.Name "range" p) [a,b] [] pos) (GR (dI g (dI h oE)) pR2):=.mk λtm=>PI.weak (DI hg hm ((aJ ha (aJ hb aW tE) (by rw[hs,tE])) tm) hs tE) λσ H R ⟨ρ,O,q,I,hf,k⟩=>⟨ρ,O,_,I,hf,λts dZ vs H' s a=>by
 unfold pR2 at dZ;split at dZ;obtain⟨v,w,rfl,a1,b1⟩:=B4 a;exact⟨_,_,by rw[a1.int,b1.int],dZ.1,k _ dZ.2 _ H' [] s (λp hp=>nomatch hp) xN⟩;exact dZ.elim⟩
abbrev FG:=T->En->(En->Prop)->Prop
abbrev LQ:=List T->En->(En->Prop)->Prop
noncomputable def lG(X:Cx)(Z:Zc)(tm:List (T×V))(is:qao)(h:FG):TG:=λv σ H Q=>∃ρ O t q,ay X.K Z tm O ρ σ H/\At X.K H (av Z O) t v/\h t ρ q/\∀ρ',q ρ'->∀O' σ',ay X.K Z tm O' ρ' σ' H->(∀a∈roots O',a∈roots O)->(∀(j:Nat),j∉is->O'[j]?=O[j]?)->σ'.length=σ.length->(∀(j:Nat),j∉is->σ'[j]?=σ[j]?)->Q σ' H
noncomputable def lGs(X:Cx)(Z:Zc)(tm:List (T×V))(is:qao)(h:LQ):K2:=λvs σ H Q=>∃ρ O ts q,ay X.K Z tm O ρ σ H/\az X.K H (av Z O) ts vs/\h ts ρ q/\∀ρ',q ρ'->∀O' σ',ay X.K Z tm O' ρ' σ' H->(∀a∈roots O',a∈roots O)->(∀(j:Nat),j∉is->O'[j]?=O[j]?)->σ'.length=σ.length->(∀(j:Nat),j∉is->σ'[j]?=σ[j]?)->Q σ' H
def VG(X:Cx)(Z:Zc)(tg:Expr)(is:qao)(h:FG):Prop:=Bx λtm=>PG X tg (lG X Z tm is h)
instance{X:Cx}{Z:Zc}{tg:Expr}{is:qao}{h:FG}:CoeFun (VG X Z tg is h) λ_=>∀tm,PG X tg (lG X Z tm is h):=⟨λh=>Bx.h h⟩
def Ww(X:Cx)(Z:Zc)(Y5:qap)(is:qao)(h:LQ):Prop:=Bx λtm=>Gb X Y5 (lGs X Z tm is h)
instance{X:Cx}{Z:Zc}{Y5:qap}{is:qao}{h:LQ}:CoeFun (Ww X Z Y5 is h) λ_=>∀tm,Gb X Y5 (lGs X Z tm is h):=⟨λh=>Bx.h h⟩
def hName(i:Nat):FG:=λt ρ Q=>Q (ρ.set i (some (t,false)))
def bt{pos:Pos}(hN:X.N.Nodup)(hi:X.N[i]?=some x)(hx:Loc X.env.scope x)(hp:bN Z i)(hf:X.fn x=true\/X.env.scope.names.lookup x=some .local:=by first|exact .inl rfl|exact .inr rfl|assumption) :
  VG X Z (.Name x pos) [i] (hName i):=.mk λtm=>PG.weak (K3 hN hi hx hf) λv σ H Q ⟨ρ,O,t,q,I,a,h,k⟩ =>
 k _ h _ _ (I.put hp a) (cc i) (λj hj=>tq (λe=>hj (by simp[e]))) (by simp) λj hj=>tq (λe=>hj (by simp[e]))
def ac3:LQ:=λts ρ Q=>ts=[]/\Q ρ
def OA(h:FG)(hs:LQ):LQ:=λts ρ Q=>match ts with
 |t::r=>h t ρ λρ'=>hs r ρ' Q
 |[]=>False
def Wx(n:Nat)(h:LQ):FG:=λt ρ Q=>match t with
 |.tup ts=>ts.length=n/\h ts ρ Q
 |_=>False
def jS:Ww X Z [] [] ac3:=.mk λtm=>Gb.weak K4 λvs σ H Q ⟨ρ,O,ts,q,I,a,h,k⟩=>by
 obtain⟨rfl,h⟩:=h;have e:vs=[]:=by simpa only[az] using a
 exact⟨e,k _ h O σ I (λ_ z=>z) (λ_ _=>rfl) rfl λ_ _=>rfl⟩
def cY{js:qao}{h:FG}{hs:LQ}(h1:VG X Z e is h)(h2:Ww X Z es js hs)(hse:(assignEach (e::es) X.env).map (·.2)=assign e X.env::(assignEach es X.env).map (·.2):=by rfl):Ww X Z (e::es) (is++js) (OA h hs):=.mk λtm=>Gb.weak (Gd (h1 tm) (h2 tm) hse) λvs σ H Q ⟨ρ,O,ts,q,I,a,hh,k⟩=>by
 unfold OA at hh;split at hh;simp only[az] at a;obtain⟨v,r,rfl,a1,a2⟩:=a;refine⟨v,r,rfl,ρ,O,_,_,I,a1,hh,λρ' hρ O' σ' I' ro eo l e=>⟨ρ',O',_,q,I',a2.aY λb hb=>?_,hρ,λρ2 h2 O2 σ2 I2 ro2 eo2 l2 e2=>k ρ2 h2 O2 σ2 I2 (λa z=>ro a (ro2 a z)) (λj hj=>?_) (l2.trans l) λj hj=>?_⟩⟩;rcases cK.mp hb with z|z
 exact cA _ (ro b z);exact bZ _ z;rw[cK,not_or] at hj;exact (eo2 j hj.2).trans (eo j hj.1);rw[cK,not_or] at hj;exact (e2 j hj.2).trans (e j hj.1);exact hh.elim
def mV{k:Nat}{h:LQ}{pos:Pos}(hc:X.calm=true)(hh:Ww X Z es is h)(hn:(assignEach es X.env).length=n:=by rfl)(K6:(assignEach es X.env).findIdx? (·.1)=none:=by rfl):VG X Z (.Tuple es k pos) is (Wx n h):=.mk λtm=>PG.weak (Qq hc (hh tm) hn K6) λv σ H Q ⟨ρ,O,t,q,I,a,h',kk⟩=>by unfold Wx at h';split at h';simp only[At] at a;obtain⟨p,vs,rfl,s,a⟩:=a;exact⟨p,vs,rfl,s,a.length.trans h'.1,ρ,O,_,q,I,a,h'.2,kk⟩;exact h'.elim
def ac4(f:FE)(h:FG):FS:=λd ρ=>f ρ λt=>h t ρ d.nx
def Rl{tg:Expr}{f:FE}{h:FG}{pos:Pos}(he:VE X Z e f)(hg:VG X Z tg is h)(hs:swapsWithSole [tg] e pos.line X.env=pure false:=by rfl)(hw:swappedStores [tg] e X.env=pure none:=by rfl)(h1:(assignEach [tg] X.env).map (·.2)=[assign tg X.env]:=by rfl):VS X Z (.Assign [tg] e pos) (ac4 f h):=.mk λtm=>PS.weak (Ge (he tm) (hg tm) hs hw h1) λD σ H ⟨ρ,O,d,I,q,F⟩ =>
 ⟨ρ,O,_,I,q,λt ht v H' s a=>⟨ρ,O,t,_,I.same s,a,ht,λρ' hρ O' σ' I' _ _ _ _=>F.nx O' ρ' σ' H' I' hρ⟩⟩
def pW(ts:List T)(h:FG)(g:FS):FS:=λd ρ=>∃Pv:Nat->En->Prop,Pv 0 ρ/\(∀(i:Nat) t ρ',ts[i]?=some t->Pv i ρ'->h t ρ' λρ2=>g {nx:=Pv (i+1),ct:=Pv (i+1),bk:=d.nx,rt:=d.rt} ρ2)/\∀ρ',Pv ts.length ρ'->d.nx ρ'
def ac5(f:FI)(h:FG)(g:FS):FS:=λd ρ=>f ρ λts=>pW ts h g d ρ
def ku{body:qaq}{f:FI}{h:FG}{g:FS}{pos:Pos}(hp:PassesOwn (model X.prog X.w) X.A X.env X.xe)(hc:X.calm=true)(hi:VI X Z tg iter f)(hg:VG X Z tg is h)(hb:oF X Z body g)(hs:∀x,foldedSetIterable iter X.env x=pure x:=by intro _;rfl):VS X Z (.For tg iter body [] pos) (ac5 f h g):=by
 refine .mk λtm γ s σ H D I0 hw=>?_;obtain⟨ρ,O,d,I,q,F⟩:=hw;refine Qu (wi:=lI X Z tm f) (g:=λv σ H Q=>∃cm,lG X Z (cm++tm) is h v σ H Q) (tb:=λD σ H=>∃cm,lS X Z (cm++tm) g D σ H) hp hc (hi tm) (λγ s σ H v u Q I r ⟨cm,z⟩=>hg (cm++tm) γ s σ H v u Q I r z) (λγ s σ H D I ⟨cm,z⟩=>hb (cm++tm) γ s σ H D I z) hs γ s σ H D I0 ?_;refine⟨ρ,O,_,I,q,λts dZ J H' cm s a wk=>?_⟩;obtain⟨Pv,p0,step,fin⟩:=dZ;have J0:ay X.K Z (cm++tm) O ρ σ H':=(I.same s).xM λp hp=>by
  rcases cK.mp hp with z|z
  exact a p z;exact (I.same s).oB p z
 refine⟨λi m σ H=>m=ts.length-i/\i<=ts.length/\∃ρ O,ay X.K Z (cm++tm) O ρ σ H/\Pv i ρ,⟨ts.length,by simp,mE _,ρ,O,J0,p0⟩,?_⟩;rintro i m σ1 H1 ⟨rfl,hi,ρ1,O1,I1,p1⟩;obtain⟨w1,w2,w3⟩:=wk H1 (av Z O1) I1.uR (λp hp=>I1.oB p (cA _ hp)) i;have un:∀{O:HD}{ρ:En}{σ:St}{H:Hp},ay X.K Z (cm++tm) O ρ σ H->ay X.K Z tm O ρ σ H:=λI=>I.xM λp hp=>I.oB p (bZ _ hp);by_cases h9:i<ts.length;refine .inr ⟨w1 h9,λσ' H'=>∃ρ O,ay X.K Z (cm++tm) O ρ σ' H'/\Pv (i+1) ρ,λσ' H' ⟨ρ',O',I',p'⟩=>⟨ts.length-(i+1),by omega,rfl,h9,ρ',O',I',p'⟩,λx H2 y=>?_⟩;have e:ts[i]?=some ts[i]:=by simp[h9]
 obtain⟨s2,a2⟩:=w3 ts[i] e x H2 y;refine⟨cm,ρ1,O1,ts[i],_,I1.same s2,a2,step i _ ρ1 e p1,λρ2 h2 O2 σ2 I2 _ _ _ _=>⟨cm,ρ2,O2,_,I2,h2,?_⟩⟩;exact⟨λO ρ σ H I p=>⟨ρ,O,I,p⟩,λO ρ σ H r v z p=>F.rt O ρ σ H r v z.xM p,λO ρ σ H I p=>F.nx O ρ σ H (un I) p,λO ρ σ H I p=>⟨ρ,O,I,p⟩⟩;have e:i=ts.length:=by omega
 subst e;exact .inl ⟨w2 (rfl),F.nx O1 ρ1 σ1 H1 (un I1) (fin ρ1 p1)⟩
def Rm(c:FB)(g:FS):FS:=λd ρ=>∃(Pv:Nat->En->Prop),(∃m,Pv m ρ)/\∀m ρ',Pv m ρ'->c ρ' λb=>if b=true then g {nx:=λρ2=>∃m',m'<m/\Pv m' ρ2,ct:=λρ2=>∃m',m'<m/\Pv m' ρ2,bk:=d.nx,rt:=d.rt} ρ' else d.nx ρ'
theorem GS{body:qaq}{fc:FB}{g:FS}{pos:Pos}(hp:PassesOwn (model X.prog X.w) X.A X.env X.xe)(hc:VC X Z c fc)(hb:oF X Z body g):VS X Z (.While c body [] pos) (Rm fc g):=.mk λtm=>PS.weak (xp hp (hc tm) (hb tm)) λD σ H ⟨ρ,O,d,I,q,F⟩=>by
 obtain⟨Pv,⟨m0,p0⟩,step⟩:=q;refine⟨λm σ H=>∃ρ O,ay X.K Z tm O ρ σ H/\Pv m ρ,⟨m0,ρ,O,I,p0⟩,?_⟩;rintro m σ1 H1 ⟨ρ1,O1,I1,p1⟩;refine⟨ρ1,O1,_,I1,step m ρ1 p1,λb hb H2 s2=>?_⟩;cases b with
 |true=>rw[ε rfl] at hb ⊢;refine⟨λσ' H'=>∃m',m'<m/\∃ρ O,ay X.K Z tm O ρ σ' H'/\Pv m' ρ,λσ' H' z=>z,ρ1,O1,_,I1.same s2,hb,?_⟩;exact⟨λO ρ σ H I ⟨m',hm,p⟩=>⟨m',hm,ρ,O,I,p⟩,F.rt,F.nx,λO ρ σ H I ⟨m',hm,p⟩=>⟨m',hm,ρ,O,I,p⟩⟩
 |false=>rw[η gZ] at hb ⊢;exact F.nx O1 ρ1 σ1 H2 (I1.same s2) hb
end
def eY(O:HD)(n:Nat):roots (O++List.replicate n none)=roots O:=by
 unfold roots;rw[List.filterMap_append];have:(List.replicate n (none:qar)).filterMap id=[]:=by
  induction n with
  |zero=>rfl
  |succ n ih=>rw[FV,j5];exact ih
 rw[this,xc]
def ay.longer{Z:Zc}{tm:List (T×V)}{ρ:En}(I:ay K Z tm O ρ σ H)(n:Nat){τ:St}(hτ:τ.length=n) :
  ay K Z tm (O++List.replicate n none) (ρ++List.replicate n none) (σ++τ) H:=by
 have ea:av Z (O++List.replicate n none)=av Z O:=by unfold av;rw[eY]
 refine⟨by simp[I.lσ,hτ],by simp[I.lO],λi e h=>?_,by rw[eY];exact I.nd,λa h=>I.own a (by rw[eY] at h;exact h),λp hp=>?_,I.ox,I.keep,λp hp=>by rw[ea];exact I.oB p hp⟩;rw[ea];by_cases hi:i<ρ.length;rw[rR hi] at h;obtain⟨o,s,h1,h2,h3⟩:=I.sl i e h;exact⟨o,s,by rw[rR (by rw[I.lO];exact hi)];exact h1,by rw[rR (by rw[I.lσ];exact hi)];exact h2,h3⟩;rw[rY (by omega),BE] at h;split at h
 rename_i hl
 cases h;refine⟨none,τ[i-σ.length]'(by rw[I.lσ,hτ];exact hl),?_,?_,rfl⟩;rw[rY (by rw[I.lO];omega),BE,ε (by rw[I.lO];exact hl)];rw[rY (by rw[I.lσ];omega)];simp;cases h;have:=I.par p hp;have hl:=(fQ.mp this).1;rw[rR hl];exact this
def ay.Rn{Z:Zc}{tm:List (T×V)}{ρ:En}{u o:HO}(I:ay K (Z.ex a) tm O ρ σ H)(hu:H a=some u)(hm:j4 u=true)(h0:Z.H0 a=none):ay K (Z.ex a) tm O ρ σ (upd H a o):=by
 have Ly:a∈av (Z.ex a) O:=bZ _ c6;have nr:∀b∈roots O,b≠a:=λb hb e=>(I.own b hb).2.1 (by rw[e];exact c6);refine⟨I.lσ,I.lO,λi e h=>?_,I.nd,λb hb=>?_,I.par,λb hb=>?_,λb o' e n=>?_,λp hp=>(I.oB p hp).wrote Ly hu hm⟩;obtain⟨o',s,h1,h2,h3⟩:=I.sl i e h;refine⟨o',s,h1,h2,h3.map (λ_ _ q=>q.wrote Ly hu hm) λb t e q=>?_⟩;subst e;exact q.map (aG (nr b (aH.mpr (eS h1)))) λ_ _ z=>z.wrote Ly hu hm;obtain⟨q1,q2,v,e,m⟩:=I.own b hb;exact⟨q1,q2,v,by rw[aG (nr b hb)];exact e,m⟩;by_cases e:b=a;subst e;rw[aC];simp;rw[aG e];exact I.ox b hb;have:b≠a:=λe'=>by subst e';have e2:Z.H0 b=some o':=e;rw[h0] at e2;cases e2
 rw[aG this];exact I.keep b o' e n
def cu(h:FG)(fc:FB)(fe:FE)(ρ:En):List T->(List T->Prop)->Prop
 |[],Q=>Q []
 |t::ts,Q=>h t ρ λρ2=>fc ρ2 λb=>if b=true then fe ρ2 λu=>cu h fc fe ρ ts λus=>Q (u::us) else cu h fc fe ρ ts Q
def B9(n:Nat)(is:qao)(f:FI)(h:FG)(fc:FB)(fe:FE):FP:=λρ Q=>(is.all λj=>decide (ρ.length<=j))=true/\f ρ λts=>ts.length<=sizeLine/\cu h fc fe (ρ++List.replicate n none) ts λus=>Q (.fr (.lst us))
def Uv(X:Cx)(Z:Zc)(ifs:qap)(f:FB):Prop:=Bx λtm=>Gx X ifs (lB X Z tm f)
instance{X:Cx}{Z:Zc}{ifs:qap}{f:FB}:CoeFun (Uv X Z ifs f) λ_=>∀tm,Gx X ifs (lB X Z tm f):=⟨λh=>Bx.h h⟩
def xO:FB:=λ_ Q=>Q true
def Gx.weak{e:qap}{t t':TT}(h:Gx X e t)(hw:∀σ H Q,t' σ H Q->t σ H Q):Gx X e t':=λγ s σ H Q I q=>h γ s σ H Q I (hw _ _ _ q)
section
variable{Z:Zc}
def dg:Uv X Z [] xO:=.mk λtm=>Gx.weak Ln λσ H Q ⟨ρ,O,q,I,h,k⟩=>k true h H (aO.refl H)
def B_{f:FB}(h:VC X Z c f):Uv X Z [c] f:=.mk λtm=>Lo (h tm)
noncomputable def cG(X:Cx)(Z:Zc)(tm:List (T×V))(is:qao)(h:FG):TG:=λv σ H Q=>∃D cm,lG X (Z.ex D) (cm++tm) is h v σ H Q
noncomputable def cB(X:Cx)(Z:Zc)(tm:List (T×V))(f:FB):TT:=λσ H Q=>∃D cm,lB X (Z.ex D) (cm++tm) f σ H Q
noncomputable def cE(X:Cx)(Z:Zc)(tm:List (T×V))(f:FE):TE:=λσ H Q=>∃D cm,lE X (Z.ex D) (cm++tm) f σ H Q
theorem Ro{Z:Zc}{tm cm:List (T×V)}{ρ:En}{H1:Hp}{D:Addr}{J:It}{ts:List T}{h:FG}{fc:FB}{fe:FE}{q:Rt->Prop}{Q:VK}(X:Cx)(hK:X.K=K)(I:ay K Z (cm++tm) O ρ σ H1)(hD:H1 D=none)(wk:Wk K J cm ts)(hz:ts.length<=sizeLine)(xf:∀j∈is,ρ.length<=j)(hw:cu h fc fe (ρ++List.replicate n none) ts λus=>q (.fr (.lst us)))(k:∀r,q r->∀v H',aO H1 H'->gy K Z tm O ρ σ H' r v->Q v H') :
  Gy J (cG X Z tm is h) (cB X Z tm fc) (cE X Z tm fe) n σ D (Q (.ref D)) H1:=by
 subst hK;obtain⟨n1,n2,n3⟩:=I.fresh hD;refine⟨λi m acc H2=>m=ts.length-i/\i<=ts.length/\aO H1 H2/\H2 D=some (.lst acc)/\∃us,az X.K H2 (av (Z.ex D) O) us acc/\acc.length<=i/\ay X.K (Z.ex D) (cm++tm) O ρ σ H2/\cu h fc fe (ρ++List.replicate n none) (ts.drop i) λr=>q (.fr (.lst (us++r))),
  ⟨ts.length,by simp,mE _,aA hD,aC,[],az.nil,mE _,I.new hD rfl,by simpa using hw⟩,?_⟩
 rintro i m acc H2 ⟨rfl,hi,s2,Y6,us,a2,hl,I2,w2⟩;refine⟨Y6,?_⟩;obtain⟨w1,w2',w3⟩:=wk H2 (av (Z.ex D) O) I2.uR (λp hp=>I2.oB p (cA _ hp)) i;by_cases h9:i<ts.length;refine .inr ⟨w1 h9,by omega,λx H3 y=>?_⟩;have e:ts[i]?=some ts[i]:=by simp[h9]
 obtain⟨s3,a3⟩:=w3 ts[i] e x H3 y;rw[List.drop_eq_getElem_cons h9] at w2;have I3:=(I2.same s3).longer n (τ:=List.replicate n none) (by simp);have ea:av (Z.ex D) (O++List.replicate n none)=av (Z.ex D) O:=by unfold av;rw[eY]
 refine⟨D,cm,_,_,ts[i],_,I3,by rw[ea];exact a3,w2,λρ4 hρ4 O4 σ4 I4 ro4 eo4 l4 e4=>⟨⟨?_,λj v hj=>?_⟩,D,cm,ρ4,O4,_,I4,hρ4,λb hb H5 s5=>?_⟩⟩;rw[l4];simp;have FJ:=(fQ.mp hj).1;have:j∉is:=λz=>by have:=xf j z;have:=I.lσ;omega
 rw[e4 j this,rR FJ];exact hj;have S5:=(s2.trans s3).trans s5;have J5:=(I2.same s3).same s5;cases b with
 |true=>
   rw[ε rfl] at hb;refine QU ⟨D,cm,ρ4,O4,_,I4.same s5,hb,λu hu y H6 s6 a6=>?_⟩;have hD6:=s6 _ _ (s5 _ _ (s3 _ _ Y6));refine⟨hD6,ts.length-(i+1),by omega,rfl,h9,λb o e=>?_,aC,us++[u],?_,by simp;omega,(J5.same s6).Rn hD6 rfl n3,?_⟩;rw[aG (bo e hD)];exact s6 _ _ (S5 _ _ e);have Ly:D∈av (Z.ex D) O:=bZ _ c6;have a6':At X.K H6 (av (Z.ex D) O) u y:=a6.aY λb hb=>by
    rcases cK.mp hb with z|z
    obtain⟨j,hj⟩:=UR.mp (aH.mp z);have FJ:=(fQ.mp hj).1;have nj:j∉is:=λz=>by have:=xf j z;have:=I.lO;omega
    have:=eo4 j nj;rw[rR FJ,hj] at this;exact cA _ (aH.mpr (eS this));exact bZ _ z
   exact az.wrote Ly hD6 rfl ((((a2.same s3).same s5).same s6).append (az.cons a6' az.nil));have e2:∀r,(us++[u])++r=us++(u::r):=λr=>by simp
   simp only[e2];exact hu
 |false=>rw[η gZ] at hb;exact QT ⟨ts.length-(i+1),by omega,rfl,h9,S5,s5 _ _ (s3 _ _ Y6),us,(a2.same s3).same s5,by omega,J5,hb⟩
 have e:i=ts.length:=by omega
 subst e;refine .inl ⟨w2' (rfl),?_⟩;rw[List.drop_length] at w2;simp only[cu,xc] at w2;refine k _ w2 _ H2 s2 ⟨D,rfl,I2.xM λp hp=>I2.oB p (bZ _ hp),⟨acc,Y6,a2⟩,n3,n2⟩
def B'{tm:List (T×V)}{f:FI}{h:FG}{fc:FB}{fe:FE}{Q:VK}(hq:lP X Z tm (B9 n is f h fc fe) σ H Q):Gz n (lI X Z tm f) (cG X Z tm is h) (cB X Z tm fc) (cE X Z tm fe) σ H Q:=by
 obtain⟨ρ,O,q,I,⟨xf,hf⟩,k⟩:=hq;refine⟨ρ,O,_,I,hf,λts dZ J H' cm s a wk D hD=>?_⟩;have I':ay X.K Z (cm++tm) O ρ σ H':=(I.same s).xM λp hp=>by
  rcases cK.mp hp with z|z
  exact a p z;exact (I.same s).oB p z
 refine Ro X rfl I' hD wk dZ.1 (λj hj=>?_) dZ.2 λr hr v H2 s2 z=>k r hr v H2 (s.trans s2) z;have:=P9.mp xf j hj;exact aae this
variable{ts:π}{elt tg:Expr}{ifs:qap}{pos:Pos}{f:FI}{h:FG}{fc:FB}{fe:FE}
def dU(hc:X.calm=true)(hS:ko X.N ts X.env.scope sc=true)(hi:VI X Z tg iter f)(hg:∀D cl C fp s H,VG (bM X ts sc cl C fp s H) (Z.ex D) tg is h)(ht:∀D cl C fp s H,Uv (bM X ts sc cl C fp s H) (Z.ex D) ifs fc)(he:∀D cl C fp s H,VE (bM X ts sc cl C fp s H) (Z.ex D) elt fe)(hs:∀x,foldedSetIterable iter X.env x=pure x:=by intro _;rfl):VP X Z (.ListComp elt [⟨tg,iter,ifs,0⟩] sc pos) (B9 ts.length is f h fc fe):=.mk λtm=>
 PE.weak (Lq hc hS (hi tm) (λcl C fp s H γ s' σ H' v u Q I r ⟨D,cm,z⟩=>hg D cl C fp s H (cm++tm) γ s' σ H' v u Q I r z) (λcl C fp s H γ s' σ H' Q I ⟨D,cm,z⟩=>ht D cl C fp s H (cm++tm) γ s' σ H' Q I z)
  (λcl C fp s H γ s' σ H' Q I ⟨D,cm,z⟩=>he D cl C fp s H (cm++tm) γ s' σ H' Q I z) hs) λσ H Q hq=>B' hq
def xP{py xG:Pos}(hN:X.N.Nodup)(hy:X.N[i]?=some y)(hx:Loc X.env.scope y)(hc:X.calm=true)(hS:ko X.N ts X.env.scope sc=true)(hi:VI X Z tg iter f)(hg:∀D cl C fp s H,VG (bM X ts sc cl C fp s H) (Z.ex D) tg is h)(ht:∀D cl C fp s H,Uv (bM X ts sc cl C fp s H) (Z.ex D) ifs fc)(he:∀D cl C fp s H,VE (bM X ts sc cl C fp s H) (Z.ex D) elt fe)(Ls:swapsWith (.ListComp elt [⟨tg,iter,ifs,0⟩] sc pos) (some (.Name y py)) xG.line X.env=pure true)(hs:∀x,foldedSetIterable iter X.env x=pure x)(hf:X.fn y=true\/X.env.scope.names.lookup y=some .local)(tm:List (T×V)) :
  PS X (.Assign [.Name y py] (.ListComp elt [⟨tg,iter,ifs,0⟩] sc pos) xG) (K7 (lP X Z tm (B9 ts.length is f h fc fe)) (j7 i)) :=
 PS.weak (Lr hN hy hx hc hS (hi tm) (λcl C fp s H γ s' σ H' v u Q I r ⟨D,cm,z⟩=>hg D cl C fp s H (cm++tm) γ s' σ H' v u Q I r z) (λcl C fp s H γ s' σ H' Q I ⟨D,cm,z⟩=>ht D cl C fp s H (cm++tm) γ s' σ H' Q I z)
  (λcl C fp s H γ s' σ H' Q I ⟨D,cm,z⟩=>he D cl C fp s H (cm++tm) γ s' σ H' Q I z) Ls hs hf) λD σ H hq=>B' hq
def oX{py xG:Pos}(hN:X.N.Nodup)(hy:X.N[i]?=some y)(hx:Loc X.env.scope y)(hc:X.calm=true)(hS:ko X.N ts X.env.scope sc=true)(hi:VI X Z tg iter f)(hg:∀D cl C fp s H,VG (bM X ts sc cl C fp s H) (Z.ex D) tg is h)(ht:∀D cl C fp s H,Uv (bM X ts sc cl C fp s H) (Z.ex D) ifs fc)(he:∀D cl C fp s H,VE (bM X ts sc cl C fp s H) (Z.ex D) elt fe)(hp:bN Z i)(Ls:swapsWith (.ListComp elt [⟨tg,iter,ifs,0⟩] sc pos) (some (.Name y py)) xG.line X.env=pure true:=by rfl)(hs:∀x,foldedSetIterable iter X.env x=pure x:=by intro _;rfl)(hf:X.fn y=true\/X.env.scope.names.lookup y=some .local:=by first|exact .inl rfl|exact .inr rfl|assumption) :
  VS X Z (.Assign [.Name y py] (.ListComp elt [⟨tg,iter,ifs,0⟩] sc pos) xG) (Wu i (fX (B9 ts.length is f h fc fe))):=.mk λtm=>
 PS.weak (xP hN hy hx hc hS hi hg ht he Ls hs hf tm) λD σ H ⟨ρ,O,d,I,q,F⟩=>⟨ρ,O,_,I,q,λr hr v H' s z=>F.nx _ _ _ H' (z.env.put hp z.at) hr⟩
def tT{h:FG}{fc:FB}{fe:FE}{ρ:En}{ts:List T}{Q:List T->Prop}(p:T->Bool)(u:T->T)(step:∀t∈ts,∀k:List T->Prop,∀r:List T->Prop,(if p t=true then r [u t] else r [])->h t ρ λρ2=>fc ρ2 λb=>if b=true then fe ρ2 λx=>r [x] else r [])(hq:Q ((ts.filter p).map u)):cu h fc fe ρ ts Q:=by
 induction ts generalizing Q with
 |nil=>exact hq
 |cons t ts ih=>
  have st:=step t c6 (λ_=>True) (λl=>match l with
   |[x]=>cu h fc fe ρ ts λus=>Q (x::us)
   |_=>cu h fc fe ρ ts Q)
  have rest:∀{Q':List T->Prop},Q' ((ts.filter p).map u)->cu h fc fe ρ ts Q':=λhq=>ih (λt ht=>step t (fJ _ ht)) hq;simp only[cu];refine st ?_;by_cases hp:p t=true;rw[ε hp];refine rest ?_;rw[YF hp] at hq;exact hq;rw[η hp];refine rest ?_;rw[ZN hp] at hq;exact hq
end
def c8(K:Δ)(H:Hp)(A:ο):List Bool->ο->List T->Ω->Prop
 |[],as,ts,vs=>as=[]/\ts=[]/\vs=[]
 |false::fs,as,ts,vs=>∃t gz v fq,ts=t::gz/\vs=v::fq/\At K H A t v/\c8 K H A fs as gz fq
 |true::fs,as,ts,vs=>∃a gA t gz fq,as=a::gA/\ts=t::gz/\vs=.ref a::fq/\ck K H A a t/\c8 K H A fs gA gz fq
def Wy(K:Δ)(H:Hp)(as Ox:ο)(H':Hp)(us:List T):Rt->V->Prop
 |.vw t,v=>At K H' (as++Ox) t v/\Paired (λa u=>ck K H' (as++Ox) a u) as us
 |.fr t,v=>∃b,v=.ref b/\H b=none/\b∉as/\ck K H' (b::(as++Ox)) b t/\Paired (λa u=>ck K H' (b::(as++Ox)) a u) as us
abbrev GT:=List T->(List T->Rt->Prop)->Prop
def kx(K:Δ)(fs:List Bool)(G:GT):Sp:=λvs H Q _=>∃ts as Ox q,as.Nodup/\(∀a∈as,a∉Ox)/\(∀a∈Ox,H a≠none)/\c8 K H (as++Ox) fs as ts vs/\G ts q /\
 ∀us r,q us r->∀v H',(∀b o,H b=some o->b∉as->H' b=some o)->Wy K H as Ox H' us r v->Q v H'
noncomputable def ro:List Bool->ο->HD
 |[],_=>[]
 |false::fs,as=>none::ro fs as
 |true::fs,a::as=>some a::ro fs as
 |true::fs,[]=>none::ro fs []
noncomputable def pz:List Bool->ο->Nat->List (Nat×Addr)
 |[],_,_=>[]
 |false::fs,as,k=>pz fs as (k+1)
 |true::fs,a::as,k=>(k,a)::pz fs as (k+1)
 |true::fs,[],k=>pz fs [] (k+1)
noncomputable def xQ:List Bool->List T->En
 |f::fs,t::ts=>some (t,f)::xQ fs ts
 |_,_=>[]
noncomputable def mW:List Bool->En->List T
 |[],_=>[]
 |false::fs,ρ=>mW fs ρ.tail
 |true::fs,some (t,_)::ρ=>t::mW fs ρ
 |true::fs,ρ=>.aQ::mW fs ρ.tail
section
variable{A:ο}
theorem jl:∀{fs:List Bool}{as:ο}{ts:List T}{vs:Ω},c8 K H A fs as ts vs->ts.length=fs.length/\vs.length=fs.length/\(ro fs as).length=fs.length/\(xQ fs ts).length=fs.length/\roots (ro fs as)=as
 |[],as,ts,vs,h=>by obtain⟨rfl,rfl,rfl⟩:=h;exact⟨rfl,rfl,rfl,rfl,rfl⟩
 |false::fs,as,ts,vs,h=>by obtain⟨t,gz,v,fq,rfl,rfl,_,h⟩:=h;obtain⟨h1,h2,h3,h4,h5⟩:=jl h;exact⟨by simp[h1],by simp[h2],by simp[ro,h3],by simp[xQ,h4],by simpa[ro,roots] using h5⟩
 |true::fs,as,ts,vs,h=>by obtain⟨a,gA,t,gz,fq,rfl,rfl,rfl,_,h⟩:=h;obtain⟨h1,h2,h3,h4,h5⟩:=jl h;refine⟨by simp[h1],by simp[h2],by simp[ro,h3],by simp[xQ,h4],?_⟩;simp only[ro,roots,j5,id] at h5 ⊢;rw[h5]
theorem pX:∀{fs:List Bool}{as:ο}{ts:List T}{vs:Ω},c8 K H A fs as ts vs->∀(i:Nat) e,(xQ fs ts)[i]?=some e->∃o s,(ro fs as)[i]?=some o/\(vs.map some)[i]?=some s/\mP K H A e o s
 |[],as,ts,vs,h,i,e,he=>by simp[xQ] at he
 |false::fs,as,ts,vs,h,i,e,he=>by
  obtain⟨t,gz,v,fq,rfl,rfl,a,h⟩:=h;cases i with
  |zero=>simp only[xQ,YD,Option.some.injEq] at he;subst he;exact⟨none,some v,rfl,rfl,rfl,v,rfl,a⟩
  |succ i=>exact pX h i e (by simpa[xQ] using he)
 |true::fs,as,ts,vs,h,i,e,he=>by
  obtain⟨a,gA,t,gz,fq,rfl,rfl,rfl,r,h⟩:=h;cases i with
  |zero=>simp only[xQ,YD,Option.some.injEq] at he;subst he;exact⟨some a,some (.ref a),rfl,rfl,a,rfl,rfl,r⟩
  |succ i=>exact pX h i e (by simpa[xQ] using he)
theorem mX:∀{fs:List Bool}{as:ο}{ts:List T}{vs:Ω},c8 K H A fs as ts vs->∀a∈as,∃t,ck K H A a t
 |[],as,ts,vs,h,a,ha=>by obtain⟨rfl,rfl,rfl⟩:=h;cases ha
 |false::fs,as,ts,vs,h,a,ha=>by obtain⟨t,gz,v,fq,rfl,rfl,_,h⟩:=h;exact mX h a ha
 |true::fs,as,ts,vs,h,a,ha=>by
  obtain⟨b,gA,t,gz,fq,rfl,rfl,rfl,r,h⟩:=h;rcases cU.mp ha with z|z
  subst z;exact⟨t,r⟩;exact mX h a z
theorem GU:∀{fs:List Bool}{as:ο}{ts:List T}{vs:Ω}(k:Nat),c8 K H A fs as ts vs->(pz fs as k).map (·.2)=as/\∀p∈pz fs as k,k<=p.1/\(ro fs as)[p.1-k]?=some (some p.2)
 |[],as,ts,vs,k,h=>by obtain⟨rfl,rfl,rfl⟩:=h;exact⟨rfl,λ_ z=>nomatch z⟩
 |false::fs,as,ts,vs,k,h=>by
  obtain⟨t,gz,v,fq,rfl,rfl,_,h⟩:=h;obtain⟨h1,h2⟩:=GU (k+1) h;refine⟨h1,λp hp=>?_⟩;obtain⟨l,e⟩:=h2 p hp;refine⟨by omega,?_⟩;have:p.1-k=(p.1-(k+1))+1:=by omega
  rw[this];simpa[ro] using e
 |true::fs,as,ts,vs,k,h=>by
  obtain⟨a,gA,t,gz,fq,rfl,rfl,rfl,_,h⟩:=h;obtain⟨h1,h2⟩:=GU (k+1) h;refine⟨by simp[pz,h1],λp hp=>?_⟩;rcases cU.mp hp with z|z
  subst z;exact⟨cS _,by simp[ro]⟩;obtain⟨l,e⟩:=h2 p z;refine⟨by omega,?_⟩;have:p.1-k=(p.1-(k+1))+1:=by omega
  rw[this];simpa[ro] using e
theorem uX{R:Addr->T->Prop}{ρ:En}:∀{fs:List Bool}{as:ο}{ts:List T}{vs:Ω}(k:Nat),c8 K H A fs as ts vs->(∀p∈pz fs as k,∃t,ρ[p.1]?=some (some (t,true))/\R p.2 t)->Paired R as (mW fs (ρ.drop k))
 |[],as,ts,vs,k,h,_=>by obtain⟨rfl,rfl,rfl⟩:=h;exact .nil
 |false::fs,as,ts,vs,k,h,q=>by obtain⟨t,gz,v,fq,rfl,rfl,_,h⟩:=h;have:=uX (k+1) h q;simp only[mW,List.tail_drop];exact this
 |true::fs,as,ts,vs,k,h,q=>by
  obtain⟨a,gA,t,gz,fq,rfl,rfl,rfl,_,h⟩:=h;have:=uX (ρ:=ρ) (k+1) h λp hp=>q p (fJ _ hp);obtain⟨u,e,r⟩:=q (k,a) c6;have hk:k<ρ.length:=(fQ.mp e).1;have e2:ρ[k]=some (u,true):=by rw[mz hk] at e;exact Option.some.inj e
  rw[List.drop_eq_getElem_cons hk,e2];exact .cons r this
end
theorem GW{N:π}{fs:List Bool}{as:ο}{ts:List T}{Q:VK}{q:List T->Rt->Prop}{g:FS}(nd:as.Nodup)(nx:∀a∈as,a∉Ox)(ox:∀a∈Ox,H a≠none)(ha:c8 X.K H (as++Ox) fs as ts vs)(kk:∀us r,q us r->∀v H',(∀b o,H b=some o->b∉as->H' b=some o)->Wy X.K H as Ox H' us r v->Q v H')(hq:g {nx:=λρ=>q (mW fs ρ) (.vw .aQ),rt:=λρ r=>q (mW fs ρ) r} (xQ fs ts++List.replicate (N.length-ts.length) none)) :
  lS X ⟨H,pz fs as 0,Ox⟩ [] g {nx:=λ_ H'=>Q .aQ H',rt:=Q} (start N vs) H:=by
 obtain⟨K,eK⟩:∃K,K=X.K:=⟨_,rfl⟩;unfold lS;rw[<- eK] at ha kk ⊢;obtain⟨l1,l2,l3,l4,l5⟩:=jl ha;obtain⟨p1,p2⟩:=GU 0 ha;have ea:av ⟨H,pz fs as 0,Ox⟩ (ro fs as++List.replicate (N.length-ts.length) none)=as++Ox:=by unfold av;rw[eY,l5]
 have ad7:∀H0 P (O:HD),av ⟨H0,P,Ox⟩ O=roots O++Ox:=λ_ _ _=>rfl;have I0:ay K ⟨H,pz fs as 0,Ox⟩ [] (ro fs as++List.replicate (N.length-ts.length) none) (xQ fs ts++List.replicate (N.length-ts.length) none) (start N vs) H:=by
  refine⟨?_,?_,λi e he=>?_,by rw[eY,l5];exact nd,λa h=>?_,λp hp=>?_,ox,λb o e _=>e,λp hp=>nomatch hp⟩;unfold L2.start;simp[l2,l4,l1];simp[l3,l4];rw[ea];by_cases hi:i<fs.length;rw[rR (by rw[l4];exact hi)] at he;obtain⟨o,s,h1,h2,h3⟩:=pX ha i e he;refine⟨o,s,by rw[rR (by rw[l3];exact hi)];exact h1,?_,h3⟩;unfold L2.start;rw[rR (by rw[cJ,l2];exact hi)];exact h2;rw[List.getElem?_append_right (by omega),BE] at he;split at he
  rename_i hl
  cases he;refine⟨none,none,?_,?_,rfl⟩;rw[rY (by omega),BE,ε (by rw[l3];rw[l4] at hl;exact hl)];unfold L2.start;rw[rY (by rw[cJ];omega),BE,cJ,ε (by rw[l2];rw[l4,l1] at hl;exact hl)];cases he;rw[eY,l5] at h;obtain⟨t,r⟩:=mX ha a h;exact⟨.inl (by show a∈(pz fs as 0).map (·.2);rw[p1];exact h),nx a h,r.mut⟩;obtain⟨_,e⟩:=p2 p hp;rw[Nat.sub_zero] at e;rw[rR (fQ.mp e).1];exact e
 have fin:∀{O:HD}{ρ:En}{σ:St}{H':Hp}{Z':Zc},Z'.P=pz fs as 0->ay K Z' [] O ρ σ H'->Paired (λa u=>ck K H' (av Z' O) a u) as (mW fs ρ):=λ{O ρ σ H' Z'} eP I=>by
  have:=uX (ρ:=ρ) (R:=λa u=>ck K H' (av Z' O) a u) 0 ha λp hp=>?_;rw[List.drop_zero] at this;exact this;have e:=I.par p (by rw[eP];exact hp);have hl:=(fQ.mp e).1;have uz:p.1<ρ.length:=by rw[<- I.lO];exact hl
  obtain⟨o,s',h1,h2,h3⟩:=I.sl p.1 ρ[p.1] (by simp);rw[e] at h1;cases h1;cases q:ρ[p.1] with
  |none=>rw[q] at h3;cases h3
  |some tb=>
    obtain⟨t,b⟩:=tb;rw[q] at h3;cases b with
    |false=>cases h3.1
    |true=>obtain⟨a',e1,_,r⟩:=h3;cases e1;exact⟨t,by rw[<- q];simp,r⟩
 have keep:∀{O:HD}{ρ:En}{σ:St}{H':Hp}{Z':Zc},Z'.H0=H->Z'.P=pz fs as 0->ay K Z' [] O ρ σ H'->∀b o,H b=some o->b∉as->H' b=some o:=λe0 eP I b o e n=>I.keep b o (by rw[e0];exact e) (by rw[eP,p1];exact n);have sub:∀{O:HD}{ρ:En}{σ:St}{H':Hp}{Z':Zc},Z'.P=pz fs as 0->ay K Z' [] O ρ σ H'->∀a∈as,a∈roots O:=λeP I a h=>by
  have:a∈(pz fs as 0).map (·.2):=by rw[p1];exact h
  obtain⟨p,hp,rfl⟩:=rS.mp this;exact aH.mpr (eS (I.par p (by rw[eP];exact hp)))
 refine⟨_,_,_,I0,hq,⟨λO ρ σ H' I h=>?_,λO ρ σ H' r v z h=>?_,λ_ _ _ _ _ h=>h.elim,λ_ _ _ _ _ h=>h.elim⟩⟩;have sb:∀a∈as++Ox,a∈av ⟨H,pz fs as 0,Ox⟩ O:=λa h=>by
  rcases cK.mp h with h|h
  exact cA _ (sub rfl I a h);exact bZ _ h
 exact kk _ _ h .aQ H' (keep rfl rfl I) ⟨Ag,Paired.k5 (fin rfl I) λ_ _ q=>q.aY sb⟩;cases r with
 |vw t=>
   obtain⟨I,a⟩:=z;have sb:∀a∈as++Ox,a∈av ⟨H,pz fs as 0,Ox⟩ O:=λa h=>by
    rcases cK.mp h with h|h
    exact cA _ (sub rfl I a h);exact bZ _ h
   exact kk _ _ h v H' (keep rfl rfl I) ⟨a.aY sb,Paired.k5 (fin rfl I) λ_ _ q=>q.aY sb⟩
 |fr t=>
   obtain⟨b,rfl,I,hR,h0,hx⟩:=z;have sb:∀a∈b::(as++Ox),a∈av (Zc.ex ⟨H,pz fs as 0,Ox⟩ b) O:=λa h=>by
    rcases cU.mp h with h|h
    rw[h];exact bZ _ c6;rcases cK.mp h with h|h
    exact cA _ (sub rfl I a h);exact bZ _ (fJ _ h)
   exact kk _ _ h (.ref b) H' (keep rfl rfl I) ⟨b,rfl,h0,λhb=>(I.own b (sub rfl I b hb)).2.1 c6,hR.aY sb,Paired.k5 (fin rfl I) λ_ _ q=>q.aY sb⟩
section
def Wz{st:Stmt}{N:π}{k:Nat}{fs:List Bool}{G:GT}(F:BZ K x qual st f fd)(S:aE N ps (aj st))(Rp:fs.length=ps.length)(dF:∀(bB:Value) (A:Around) (outer:List Env) (s:Shared) (H:Hp) (E:XK) (as Ox:ο),bF k (A.deeper (envOfC qual (aj st) s.heap.objs.size f bB))->∀ts q,ts.length=fs.length->G ts q ->
    ∃g,oF (fP eD P w K mg base N qual (aj st) f bB A outer s H E).pF ⟨H,pz fs as 0,Ox⟩ (bG st) g/\g {nx:=λρ=>q (mW fs ρ) (.vw .aQ),rt:=λρ r=>q (mW fs ρ) r} (xQ fs ts++List.replicate (N.length-ts.length) none)) :
  cq P w K mg base eD (k+1) f fd ps (kx K fs G):=by
 refine F.ok S (λvs H Q E h=>?_) (λbB A outer s H vs Q E hr h=>?_);obtain⟨ts,as,Ox,q,_,_,_,ha,_⟩:=h;rw[<- Rp];exact (jl ha).2.1;obtain⟨ts,as,Ox,q,nd,nx,ox,ha,hG,kk⟩:=h;have l1:=(jl ha).1;obtain⟨g,hg,hq⟩:=dF bB A outer s H E as Ox hr ts q l1 hG;exact⟨_,hg [],GW nd nx ox ha kk hq⟩
end
def di(K:Δ)(n:Nat)(G:List T->(Rt->Prop)->Prop):Sp:=kx K (List.replicate n false) λts q=>G ts (q [])
section
variable{A:ο}
theorem iM:∀{n:Nat}{ts:List T}{vs:Ω},ts.length=n->az K H A ts vs->c8 K H A (List.replicate n false) [] ts vs
 |0,ts,vs,l,h=>by have e:ts=[]:=YE.mp l;subst e;simp only[az] at h;exact⟨rfl,rfl,h⟩
 |n+1,ts,vs,l,h=>by
  cases ts with
  |nil=>simp at l
  |cons t ts=>simp only[az] at h;obtain⟨v,r,rfl,h1,h2⟩:=h;exact⟨t,ts,v,r,rfl,rfl,h1,iM (by simpa using l) h2⟩
end
def ay.OB{Z:Zc}{tm:List (T×V)}{ρ:En}(I:ay K Z tm O ρ σ H)(h:H a=none)(s:aO H H'){u:HO}(hu:H' a=some u):ay K (Z.ex a) tm O ρ σ H':=by
 have J:=I.same s;obtain⟨n1,n2,n3⟩:=I.fresh h;have mr:∀b∈av (Z.ex a) O,b∈av Z O\/H b=none:=λb hb=>(dA b hb).imp id λe=>by rw[e];exact h
 have fw:∀{t:T}{v:V},At K H (av Z O) t v->At K H' (av (Z.ex a) O) t v:=λq=>(q.more mr).same s;refine⟨J.lσ,J.lO,λi e hi=>?_,J.nd,λb hb=>?_,J.par,λb hb=>?_,J.keep,λp hp=>fw (I.oB p hp)⟩;obtain⟨o,w,h1,h2,h3⟩:=I.sl i e hi;refine⟨o,w,h1,h2,h3.map (λ_ _ q=>fw q) λb t eo q=>?_⟩;exact ck.same (q.map rfl λ_ _ z=>z.more mr) s;obtain⟨q1,q2,q3⟩:=J.own b hb;refine⟨q1,λz=>?_,q3⟩;rcases cU.mp z with z|z
 exact n1 (by rw[<- z];exact cA _ hb);exact q2 z;rcases cU.mp hb with z|z
 rw[z,hu];simp;exact J.ox b z
def Al(n:Nat)(g:FA)(G:List T->(Rt->Prop)->Prop):FP:=λρ Q=>g ρ λts=>ts.length=n/\G ts Q
section
variable{Z:Zc}{k:Nat}{G:List T->(Rt->Prop)->Prop}{pos:Pos}{g:FA}
def Ca{tm:List (T×V)}{ρ:En}{ts:List T}{q:Rt->Prop}{Q:VK}(I:ay X.K Z tm O ρ σ H)(a:az X.K H (av Z O) ts vs)(hn:ts.length=n)(hG:G ts q)(k:∀r,q r->∀v H',aO H H'->gy X.K Z tm O ρ σ H' r v->Q v H'):di X.K n G (vs++[]) H Q E0:=by
 rw[xc];refine⟨ts,[],av Z O,λ_ r=>q r,Ft,λ_ z=>absurd z fK,I.uR,iM hn a,hG,λus r hr v H' fr z=>?_⟩;have s:aO H H':=λb o e=>fr b o e fK;cases r with
 |vw t=>exact k _ hr v H' s ⟨I.same s,z.1⟩
 |fr t=>
  obtain⟨b,rfl,hb,_,hR,_⟩:=z;obtain⟨n1,n2,n3⟩:=I.fresh hb;obtain⟨u,eu,_⟩:=hR.mut;refine k _ hr _ H' s ⟨b,rfl,I.OB hb s eu,hR.aY λc hc=>?_,n3,n2⟩;rcases dA c hc with z|z
  exact fJ _ z;rw[z];exact c6
def Cb(F:cq X.prog X.w X.K X.mg X.base eD k f fd ps (di X.K n G))(hr:bF k X.A)(hg:Gl X x)(hm:X.mg x=some (.ref f))(hk:W.keepIn X.K (.ref f)=true)(hb:Binds X.K fd ps [])(ha:VA X Z (e::es) g)(kj:gq x:=by decide)(he:starEach (e::es) X.env=(false,eval e X.env)::starEach es X.env:=by rfl)(fO:(backTo pos (starEach es X.env)).any (·.1)=false:=by rfl) :
  VP X Z (.Call (.Name x p) (e::es) [] pos) (Al n g G):=.mk λtm=>PE.weak (iF F hr hg hm hk hb .nil i8 (ha tm) kj he fO) λσ H Q ⟨ρ,O,q,I,hf,k⟩ =>
 ⟨ρ,O,_,I,hf,λts dZ vs H1 s1 a1=>Ca (I.same s1) a1 dZ.1 dZ.2 λr hr v H' s z=>k r hr v H' (s1.trans s) z⟩
end
def AM(K:Δ)(H:Hp)(A:ο)(O:HD)(ρ:En):List (Option Nat)->List T->Ω->Prop
 |[],ts,vs=>ts=[]/\vs=[]
 |none::ms,ts,vs=>∃t gz v fq,ts=t::gz/\vs=v::fq/\At K H A t v/\AM K H A O ρ ms gz fq
 |some k::ms,ts,vs=>∃a t gz fq,ts=t::gz/\vs=.ref a::fq/\ρ[k]?=some (some (t,true))/\O[k]?=some (some a)/\AM K H A O ρ ms gz fq
noncomputable def lAM(X:Cx)(Z:Zc)(tm:List (T×V))(ms:List (Option Nat))(f:FA):TA:=λσ H Q=>∃ρ O q,ay X.K Z tm O ρ σ H/\f ρ q/\∀ts,q ts->∀vs H',aO H H'->AM X.K H' (av Z O) O ρ ms ts vs->Q vs H'
def Rq(X:Cx)(Z:Zc)(es:qap)(ms:List (Option Nat))(f:FA):Prop:=Bx λtm=>PA X es (lAM X Z tm ms f)
instance{X:Cx}{Z:Zc}{es:qap}{ms:List (Option Nat)}{f:FA}:CoeFun (Rq X Z es ms f) λ_=>∀tm,PA X es (lAM X Z tm ms f):=⟨λh=>Bx.h h⟩
def lq(i:Nat):FE:=λρ Q=>match ρ[i]? with
 |some (some (t,true))=>Q t
 |_=>False
section
variable{Z:Zc}{g:FA}
def Cc:Rq X Z [] [] oE:=.mk λtm=>PA.weak cC λσ H Q ⟨ρ,O,q,I,hf,k⟩=>k _ hf [] H (aO.refl H) ⟨rfl,rfl⟩
def jm{f:FE}(h:VE X Z e f)(h':Rq X Z es ms g)(hs:starEach (e::es) X.env=(false,eval e X.env)::starEach es X.env:=by rfl):Rq X Z (e::es) (none::ms) (dI f g) :=
 .mk λtm=>PA.weak (bf (h tm) (h' tm) hs) λσ H Q ⟨ρ,O,q,I,hf,k⟩=>⟨ρ,O,_,I,hf,λt ht v H1 s1 a1=>⟨ρ,O,_,I.same s1,ht,λts dZ vs H2 s2 a2=>k _ dZ _ H2 (s1.trans s2) ⟨t,ts,v,vs,rfl,rfl,a1.same s2,a2⟩⟩⟩
def lr(j:Nat){py:Pos}(h':Rq X Z es ms g)(hN:X.N[j]?=some y:=by rfl)(hv:jQ X.env.scope y:=by exact jvv rfl)(hd:gq y:=by decide)(fH:rQ y:=by decide)(hs:starEach (.Name y py::es) X.env=(false,eval (.Name y py) X.env)::starEach es X.env:=by rfl):Rq X Z (.Name y py::es) (some j::ms) (dI (lq j) g) :=
 .mk λtm=>PA.weak (bf (bP hN hv hd fH) (h' tm) hs) λσ H Q ⟨ρ,O,q,I,hf,k⟩=>by
  have Cd:lq j ρ λt=>g ρ λts=>q (t::ts):=hf;unfold lq at Cd;split at Cd
  rename_i t e0
  obtain⟨a,h1,h2,h3⟩:=I.root e0;exact⟨.ref a,h2,ρ,O,_,I,Cd,λts dZ vs H2 s2 a2=>k _ dZ _ H2 s2 ⟨a,t,ts,vs,rfl,rfl,e0,h1,a2⟩⟩;exact Cd.elim
end
noncomputable def putK:qao->List T->En->En
 |k::ks,u::us,ρ=>putK ks us (ρ.set k (some (u,true)))
 |_,_,ρ=>ρ
theorem pY:∀(ks:qao)(us:List T)(ρ:En),(putK ks us ρ).length=ρ.length
 |[],_,_=>rfl
 |_::_,[],_=>rfl
 |k::ks,u::us,ρ=>by rw[putK,pY];simp
theorem xR:∀{ks:qao}{us:List T}{ρ:En}{i:Nat}{e:Option (T×Bool)},ks.Nodup->ks.length=us.length->(putK ks us ρ)[i]?=some e->(i∉ks/\ρ[i]?=some e)\/∃(j:Nat)(u:T),ks[j]?=some i/\us[j]?=some u/\e=some (u,true)
 |[],us,ρ,i,e,_,_,h=>.inl ⟨fK,h⟩
 |k::ks,[],ρ,i,e,_,l,h=>by simp at l
 |k::ks,u::us,ρ,i,e,nd,l,h=>by
  rw[jg] at nd;rcases xR nd.2 (by simpa using l) (show (putK ks us (ρ.set k (some (u,true))))[i]?=some e from h) with⟨h1,h2⟩|⟨j,u',h1,h2,h3⟩
  rcases get_set h2 with⟨rfl,rfl,_⟩|⟨ne,h2⟩
  exact .inr ⟨0,u,rfl,rfl,rfl⟩;exact .inl ⟨λz=>by rcases cU.mp z with z|z;exact ne z;exact h1 z,h2⟩;exact .inr ⟨j+1,u',by simpa using h1,by simpa using h2,h3⟩
section
variable{A:ο}
def At.pZ{as:ο}{t:T}(fr:∀b o,H b=some o->b∉as->H' b=some o)(sub:∀a∈as,a∈A)(mu:∀a∈as,∃u,H a=some u/\j4 u=true)(h:At K H A t v):At K H' A t v:=by
 refine At.map (λb vs q=>?_) (λb vs q=>?_) (λb a8 q=>?_) h;obtain q|q:=q
 refine .inl ⟨?_,q.2⟩;have nb:b∉as:=λz=>q.2 (sub b z);obtain z|⟨o',z⟩:=q.1
 exact .inl (fr _ _ z nb);exact .inr ⟨o',fr _ _ z nb⟩;exact .inr q;obtain z|z:=q
 refine .inl ?_;have nb:b∉as:=λm=>by
  obtain⟨u,eu,mu⟩:=mu b m;obtain z|⟨o',z⟩:=z
  rw[z] at eu;cases eu;cases mu;rw[z] at eu;cases eu;cases mu
 obtain z|⟨o',z⟩:=z
 exact .inl (fr _ _ z nb);exact .inr ⟨o',fr _ _ z nb⟩;exact .inr z;exact⟨fr _ _ q.1 λz=>q.2 (sub b z),q.2⟩
theorem AM.args{A':ο}{O:HD}{ρ:En}(sub:∀a∈A',a∈A)(hr:∀(k:Nat) t,ρ[k]?=some (some (t,true))->∃a,O[k]?=some (some a)/\ck K H A a t):∀{ms:List (Option Nat)}{ts:List T}{vs:Ω},AM K H A O ρ ms ts vs ->
  ∃as,c8 K H A' (ms.map Option.isSome) as ts vs/\Paired (λa k=>O[k]?=some (some a)) as (ms.filterMap id)
 |[],ts,vs,h=>⟨[],⟨rfl,h.1,h.2⟩,.nil⟩
 |none::ms,ts,vs,h=>by obtain⟨t,gz,v,fq,rfl,rfl,a,h⟩:=h;obtain⟨as,h1,h2⟩:=AM.args sub hr h;exact⟨as,⟨t,gz,v,fq,rfl,rfl,a.aY sub,h1⟩,h2⟩
 |some k::ms,ts,vs,h=>by obtain⟨a,t,gz,fq,rfl,rfl,e0,e1,h⟩:=h;obtain⟨as,h1,h2⟩:=AM.args sub hr h;obtain⟨a',e2,r⟩:=hr k t e0;rw[e1] at e2;cases e2;exact⟨a::as,⟨a,as,t,gz,fq,rfl,rfl,rfl,r.aY sub,h1⟩,.cons e1 h2⟩
end
noncomputable def Rr(ms:List (Option Nat))(g:FA)(G:GT):FX:=λρ Q=>g ρ λts=>G ts λus r=>Q (putK (ms.filterMap id) us ρ) r
section
variable{Z:Zc}{k:Nat}{fs:List Bool}{G:GT}{pos:Pos}{g:FA}
def Cg{tm:List (T×V)}{ρ:En}(I:ay K Z tm O ρ σ H)(h1:O[i]?=some (some a))(h2:O[j]?=some (some a)):i=j:=by
 have key:∀(O:HD)(i j:Nat),i<j->O[i]?=some (some a)->O[j]?=some (some a)->(roots O).Nodup->False:=by
  intro O;induction O with
  |nil=>intro i j _ h;simp at h
  |cons o O ih=>
   intro i j Wf e1 e2 nd;cases j with
   |zero=>omega
   |succ j=>
    have Ks:O[j]?=some (some a):=by simpa using e2
    cases i with
    |zero=>
     have:o=some a:=by simpa using e1
     subst this;simp only[roots,j5,id] at nd;exact (jg.mp nd).1 (aH.mpr (eS Ks))
    |succ i=>
     refine ih i j (by omega) (by simpa using e1) Ks ?_;cases o with
     |none=>simpa[roots] using nd
     |some b=>simp only[roots,j5,id] at nd;exact (jg.mp nd).2
 rcases Nat.lt_trichotomy i j with l|l|l
 exact (key O i j l h1 h2 I.nd).elim;exact l;exact (key O j i l h2 h1 I.nd).elim
theorem du{α β:Type}{F:α->β->Prop}:∀{l₁:List α}{l₂:List β}{a:α},Paired F l₁ l₂->a∈l₁->∃b∈l₂,F a b
 |_,_,_,.nil,h=>nomatch h
 |_,_,a,.cons r t,h=>by
  rcases cU.mp h with z|z
  subst z;exact⟨_,c6,r⟩;obtain⟨b,h1,h2⟩:=du t z;exact⟨b,fJ _ h1,h2⟩
theorem p_{α β:Type}{F:α->β->Prop}:∀{l₁:List α}{l₂:List β}{i:Nat}{b:β},Paired F l₁ l₂->l₂[i]?=some b->∃a,l₁[i]?=some a/\F a b
 |_,_,_,_,.nil,e=>by simp at e
 |_,_,0,_,.cons r _,e=>by simp at e;subst e;exact⟨_,rfl,r⟩
 |_,_,i+1,b,.cons _ t,e=>by obtain⟨a,h1,h2⟩:=p_ (i:=i) (b:=b) t (by simpa using e);exact⟨a,by simpa using h1,h2⟩
theorem gF{α β:Type}{F:α->β->Prop}:∀{l₁:List α}{l₂:List β}{i:Nat}{a:α},Paired F l₁ l₂->l₁[i]?=some a->∃b,l₂[i]?=some b/\F a b
 |_,_,_,_,.nil,e=>by simp at e
 |_,_,0,_,.cons r _,e=>by simp at e;subst e;exact⟨_,rfl,r⟩
 |_,_,i+1,b,.cons _ t,e=>by obtain⟨a,h1,h2⟩:=gF (i:=i) (a:=b) t (by simpa using e);exact⟨a,by simpa using h1,h2⟩
def ay.called{Z':Zc}{tm:List (T×V)}{ρ:En}{as:ο}{ks:qao}{us:List T}(I:ay K Z tm O ρ σ H)(hk:Paired (λa k=>O[k]?=some (some a)) as ks)(nk:ks.Nodup)(fr:∀b o,H b=some o->b∉as->H' b=some o)(hu:Paired (λa u=>ck K H' (av Z' O) a u) as us)(hZ:Z'.H0=Z.H0)(hP:Z'.P=Z.P)(hox:∀a∈Z'.Ox,a∉roots O/\H' a≠none)(more:∀a∈av Z' O,a∈av Z O\/H a=none):ay K Z' tm O (putK ks us ρ) σ H':=by
 have qa:∀a∈as,a∈roots O:=λa h=>by obtain⟨k,_,e⟩:=du hk h;exact aH.mpr (eS e)
 have sub:∀a∈as,a∈av Z O:=λa h=>cA _ (qa a h);have ac6:∀a∈as,a∈av Z' O:=λa h=>cA _ (qa a h);have mu:∀a∈as,∃u,H a=some u/\j4 u=true:=λa h=>(I.own a (qa a h)).2.2;have fw:∀{t:T}{v:V},At K H (av Z O) t v->At K H' (av Z' O) t v:=λq=>(q.more more).pZ fr ac6 mu;have fwL:∀{t:List T}{v:Ω},az K H (av Z O) t v->az K H' (av Z' O) t v:=λq=>az.iff.mpr (Paired.k5 (az.iff.mp q) λ_ _ z=>fw z);refine⟨by rw[pY];exact I.lσ,by rw[pY];exact I.lO,λi e h=>?_,I.nd,λb hb=>?_,by rw[hP];exact I.par,λa ha=>(hox a ha).2,λb o e n=>?_,λp hp=>fw (I.oB p hp)⟩;rcases xR nk (by rw[<- Qb hk,Qb hu]) h with⟨h1,h2⟩|⟨j,u,h1,h2,rfl⟩
 obtain⟨o,s,g1,g2,g3⟩:=I.sl i e h2;refine⟨o,s,g1,g2,g3.map (λ_ _ q=>fw q) λb t eo q=>?_⟩;subst eo;have nb:b∉as:=λm=>by obtain⟨k,nS,Kv⟩:=du hk m;exact h1 (by rw[Cg I g1 Kv];exact nS)
 obtain⟨u,eu,_⟩:=q.mut;exact q.map (by rw[eu];exact fr _ _ eu nb) λ_ _ z=>fwL z;obtain⟨a,ha,r⟩:=p_ hu h2;obtain⟨k,nS,Kv⟩:=gF hk ha;rw[h1] at nS;cases nS;have hl:i<ρ.length:=by rw[<- I.lO];exact (fQ.mp Kv).1
 obtain⟨o,s,g1,g2,g3⟩:=I.sl i ρ[i] (by simp);rw[Kv] at g1;cases g1;refine⟨some a,s,Kv,g2,a,rfl,?_,r⟩;cases q:ρ[i] with
 |none=>rw[q] at g3;cases g3
 |some tb=>
  obtain⟨t,b⟩:=tb;rw[q] at g3;cases b with
  |false=>cases g3.1
  |true=>obtain⟨a',e1,e2,_⟩:=g3;cases e1;exact e2
 obtain⟨q1,q2,v,e,m⟩:=I.own b hb;refine⟨by rw[hZ,hP];exact q1,λz=>(hox b z).1 hb,?_⟩;by_cases hba:b∈as;obtain⟨j,hj⟩:=UR.mp hba;obtain⟨u,_,r⟩:=gF hu hj;exact r.mut;exact⟨v,fr _ _ e hba,m⟩;rw[hZ] at e;rw[hP] at n;refine fr _ _ (I.keep b o e n) λm=>?_;rcases (I.own b (qa b m)).1 with z|z
 exact n z;rw[z] at e;cases e
def xS(F:cq X.prog X.w X.K X.mg X.base eD k f fd ps (kx X.K fs G))(hr:bF k X.A)(hg:Gl X x)(hm:X.mg x=some (.ref f))(hk:W.keepIn X.K (.ref f)=true)(hb:Binds X.K fd ps [])(ha:Rq X Z (e::es) ms g)(Rp:ms.map Option.isSome=fs:=by rfl)(Uw:(ms.filterMap id).Nodup:=by decide)(kj:gq x:=by decide)(he:starEach (e::es) X.env=(false,eval e X.env)::starEach es X.env:=by rfl)(fO:(backTo pos (starEach es X.env)).any (·.1)=false:=by rfl) :
  VX X Z (.Call (.Name x p) (e::es) [] pos) (Rr ms g G):=.mk λtm=>PE.weak (iF F hr hg hm hk hb .nil i8 (ha tm) kj he fO) λσ H Q ⟨ρ,O,q,I,hf,k⟩ =>
 ⟨ρ,O,_,I,hf,λts dZ vs H1 s1 a1=>by
   subst Rp;show kx X.K _ G (vs++[]) H1 Q E0;rw[xc];have J:=I.same s1;obtain⟨as,h1,h2⟩:=AM.args (A':=av Z O) (λ_ z=>z) (λk t e=>by obtain⟨a,q1,q2,q3⟩:=J.root e;exact⟨a,q1,q3⟩) a1;have qa:∀a∈as,a∈roots O:=λa h=>by obtain⟨k,_,e⟩:=du h2 h;exact aH.mpr (eS e)
   have ndA:as.Nodup:=by
    clear h1;have:∀{as:ο}{ks:qao},ks.Nodup->Paired (λa k=>O[k]?=some (some a)) as ks->as.Nodup:=by
     intro as ks nd h;induction h with
     |nil=>exact Ft
     |cons r t ih=>rw[jg] at nd ⊢;refine⟨λm=>?_,ih nd.2⟩;obtain⟨k',m1,m2⟩:=du t m;exact nd.1 (by rw[Cg J r m2];exact m1)
    exact this Uw h2
   have Ru:∀b,b∈as++(av Z O).filter (λb=>decide (b∉as))↔b∈av Z O:=λb=>by rw[cK,F0];constructor;rintro (z|z);exact cA _ (qa b z);exact z.1;intro z;by_cases hb:b∈as;exact .inl hb;exact .inr ⟨z,ν hb⟩
   obtain⟨gA,Ci,GX⟩:=AM.args (A':=as++(av Z O).filter (λb=>decide (b∉as))) (λb z=>(Ru b).mp z) (λk t e=>by obtain⟨a,q1,q2,q3⟩:=J.root e;exact⟨a,q1,q3⟩) a1;have ee:gA=as:=by
    have:∀{as gA:ο}{ks:qao},Paired (λa k=>O[k]?=some (some a)) as ks->Paired (λa k=>O[k]?=some (some a)) gA ks->gA=as:=by
     intro as gA ks h h';induction h generalizing gA with
     |nil=>cases h';rfl
     |cons r t ih=>
       cases h' with
       |cons r' t'=>rw[r] at r';cases r';rw[ih t']
    exact this h2 GX
   subst ee;refine⟨ts,gA,(av Z O).filter (λb=>decide (b∉gA)),_,ndA,λa h z=>?_,λa h=>J.uR a (F0.mp h).1,Ci,dZ,λus r hr v H' fr z=>?_⟩;exact (aae (F0.mp z).2) h;have LR:∀a∈Z.Ox,a∉roots O/\H' a≠none:=λa h=>by
    have na:a∉roots O:=λm=>(J.own a m).2.1 h;refine⟨na,?_⟩;cases e:H1 a with
    |none=>exact absurd e (J.ox a h)
    |some u=>rw[fr _ _ e λm=>na (qa a m)];simp
   cases r with
   |vw t=>obtain⟨z1,z2⟩:=z;exact k _ _ hr O v H' ⟨J.called h2 Uw fr (Paired.k5 z2 λ_ _ q=>q.aY λb hb=>(Ru b).mpr hb) rfl rfl LR λa h=>.inl h,z1.aY λb hb=>(Ru b).mpr hb⟩
   |fr t=>
     obtain⟨b,rfl,hb,nb,hR,z2⟩:=z;obtain⟨n1,n2,n3⟩:=J.fresh hb;have sb:∀c∈av (Z.ex b) O,c∈b::(gA++(av Z O).filter (λb=>decide (b∉gA))):=λc hc=>by
      rcases dA c hc with z|z
      exact fJ _ ((Ru c).mpr z);rw[z];exact c6
     refine k _ _ hr O _ H' ⟨b,rfl,J.called h2 Uw fr (Paired.k5 z2 λ_ _ q=>q.aY sb) rfl rfl (λa h=>?_) (λa h=>(dA a h).imp id λe=>by rw[e];exact hb),hR.aY sb,n3,n2⟩;rcases cU.mp h with z|z
     subst z;obtain⟨u,eu,_⟩:=hR.mut;exact⟨λm=>n1 (cA _ m),by rw[eu];simp⟩;exact LR a z⟩
end
section
variable(K:Δ)
theorem xT:PySem.W.kitOne K (.type "int") (.type "int")=some true:=by kernel_rfl
theorem uY:PySem.W.kitOne K (.type "int") (.type "bool")=some false:=by kernel_rfl
theorem xU:PySem.W.kitOne K (.type "int") (.type "str")=some false:=by kernel_rfl
theorem uZ:PySem.W.kitOne K (.type "int") (.type "list")=some false:=by kernel_rfl
theorem sj:PySem.W.kitOne K (.type "int") (.type "tuple")=some false:=by kernel_rfl
theorem u_:PySem.W.kitOne K (.type "bool") (.type "int")=some true:=by kernel_rfl
theorem sk:PySem.W.kitOne K (.type "bool") (.type "bool")=some true:=by kernel_rfl
theorem vd:PySem.W.kitOne K (.type "bool") (.type "str")=some false:=by kernel_rfl
theorem so:PySem.W.kitOne K (.type "bool") (.type "list")=some false:=by kernel_rfl
theorem qb:PySem.W.kitOne K (.type "bool") (.type "tuple")=some false:=by kernel_rfl
theorem xV:PySem.W.kitOne K (.type "str") (.type "int")=some false:=by kernel_rfl
theorem vf:PySem.W.kitOne K (.type "str") (.type "bool")=some false:=by kernel_rfl
theorem xW:PySem.W.kitOne K (.type "str") (.type "str")=some true:=by kernel_rfl
theorem vg:PySem.W.kitOne K (.type "str") (.type "list")=some false:=by kernel_rfl
theorem sr:PySem.W.kitOne K (.type "str") (.type "tuple")=some false:=by kernel_rfl
theorem vh:PySem.W.kitOne K (.type "list") (.type "int")=some false:=by kernel_rfl
theorem su:PySem.W.kitOne K (.type "list") (.type "bool")=some false:=by kernel_rfl
theorem vi:PySem.W.kitOne K (.type "list") (.type "str")=some false:=by kernel_rfl
theorem sy:PySem.W.kitOne K (.type "list") (.type "list")=some true:=by kernel_rfl
theorem qc:PySem.W.kitOne K (.type "list") (.type "tuple")=some false:=by kernel_rfl
theorem sA:PySem.W.kitOne K (.type "tuple") (.type "int")=some false:=by kernel_rfl
theorem qd:PySem.W.kitOne K (.type "tuple") (.type "bool")=some false:=by kernel_rfl
theorem sC:PySem.W.kitOne K (.type "tuple") (.type "str")=some false:=by kernel_rfl
theorem qe:PySem.W.kitOne K (.type "tuple") (.type "list")=some false:=by kernel_rfl
theorem oG:PySem.W.kitOne K (.type "tuple") (.type "tuple")=some true:=by kernel_rfl
theorem vj:PySem.W.kitOne K (.type "dict") (.type "int")=some false:=by kernel_rfl
theorem sD:PySem.W.kitOne K (.type "dict") (.type "bool")=some false:=by kernel_rfl
theorem vk:PySem.W.kitOne K (.type "dict") (.type "str")=some false:=by kernel_rfl
theorem sE:PySem.W.kitOne K (.type "dict") (.type "list")=some false:=by kernel_rfl
theorem qf:PySem.W.kitOne K (.type "dict") (.type "tuple")=some false:=by kernel_rfl
theorem mY:PySem.W.kitOne K (.type "NoneType") (.type "int")=some false:=by kernel_rfl
theorem lu:PySem.W.kitOne K (.type "NoneType") (.type "bool")=some false:=by kernel_rfl
theorem mZ:PySem.W.kitOne K (.type "NoneType") (.type "str")=some false:=by kernel_rfl
theorem lx:PySem.W.kitOne K (.type "NoneType") (.type "list")=some false:=by kernel_rfl
theorem ky:PySem.W.kitOne K (.type "NoneType") (.type "tuple")=some false:=by kernel_rfl
end
def Ty2(K:Δ)(H:Hp):V->String->Prop
 |.aQ,t=>t="NoneType"
 |.bl _,t=>t="bool"
 |.int _,t=>t="int"
 |.str _,t=>t="str"
 |.ref a,t=>(t="list"/\∃xs,gw K H a xs)\/(t="tuple"/\∃xs,dz K H a xs)\/(t="dict"/\∃a8,H a=some (.dK a8))
 |_,_=>False
def WA(K:Δ):Ω->Hp->VK->Prop:=λxs H Q=>∃x n t b,xs=[x,.ty n]/\Ty2 K H x t/\W.kitOne K (.type t) (.type n)=some b/\Q (.bl b) H
def D4:eE X (.builtin "isinstance") (WA X.K):=by
 intro γ s σ H xs us Q I r h;obtain⟨x,n,t,b,rfl,ty,e,q⟩:=h;obtain⟨u,w',rfl,rx,ry⟩:=vals2 r;obtain rfl:w'=Value.type n:=ry;have fin:∀tk,EP X γ σ Q (.bool b) {s with toks:=tk}:=λtk=>⟨.bl b,H,I.tok _,rfl,q⟩;cases x with
 |aQ=>cases (show t=_ from ty);cases (show u=Value.none from rx);exact Qa W.kitx_none I.r0 True.intro e (λz=>nomatch z) fin
 |bl y=>cases (show t=_ from ty);cases (show u=Value.bool y from rx);exact Qa W.kitx_bool I.r0 True.intro e (λz=>nomatch z) fin
 |int i=>cases (show t=_ from ty);obtain⟨t,q⟩:=(show ∃t,u=Value.int i t from rx);cases q;exact Qa W.kitx_int I.r0 True.intro e (λz=>nomatch z) fin
 |str y=>cases (show t=_ from ty);obtain⟨t,q⟩:=(show ∃t,u=Value.str y t from rx);cases q;exact Qa W.kitx_str I.r0 True.intro e (λz=>nomatch z) fin
 |ref a=>
  cases (show u=Value.ref a from rx);obtain⟨rfl,xs,hq⟩|⟨rfl,xs,hq⟩|⟨rfl,a8,hq⟩:=ty
  obtain⟨aP,_,p,_⟩:=I.list hq;obtain⟨o,n',h1,h2,_⟩:=p;exact Qa W.kitx_list I.r0 ⟨o,h1,h2⟩ e (λz=>nomatch z) fin;obtain⟨aP,_,p,_⟩:=I.tuple hq;obtain⟨o,h1,h2,_⟩:=p;exact Qa W.kitx_tuple I.r0 ⟨o,h1,h2⟩ e (λz=>nomatch z) fin;obtain⟨_,_,vs,_,p⟩:=(show cp X.prog X.w H s.heap a (.dK a8) from I.cj a _ hq);obtain⟨o,es,ep,h1,h2,_⟩:=p;exact Qa W.kitx_dict I.r0 ⟨o,h1,h2.1⟩ e (λz=>nomatch z) fin
 |_=>exact (show False from ty).elim
noncomputable def isInt:T->Bool
 |.int _=>true
 |.bl _=>true
 |_=>false
noncomputable def isBool:T->Bool
 |.bl _=>true
 |_=>false
noncomputable def isStr:T->Bool
 |.str _=>true
 |_=>false
noncomputable def isList:T->Bool
 |.lst _=>true
 |_=>false
noncomputable def LS:T->Bool
 |.tup _=>true
 |_=>false
noncomputable def known:T->Bool
 |.dt _ _=>false
 |.dc _ _ _=>false
 |.kt _=>false
 |.ins _ _ _=>false
 |.pin _ _=>false
 |.ob _=>false
 |.ty _=>false
 |_=>true
def m4(K:Δ)(n:String)(p:T->Bool):Prop:=∀H A t v,known t=true->g_ K H A t v->∃ty,Ty2 K H v ty/\W.kitOne K (.type ty) (.type n)=some (p t)
def GY:m4 K "int" isInt:=by
 intro H A t v hk h;cases t with
 |aQ=>rw[h.aQ];exact⟨_,rfl,mY K⟩
 |bl b=>rw[h.bl];exact⟨_,rfl,u_ K⟩
 |int b=>rw[h.int];exact⟨_,rfl,xT K⟩
 |str b=>rw[h.str];exact⟨_,rfl,xV K⟩
 |tup l=>obtain⟨a,vs,rfl,q,_⟩:=h.tup;exact⟨_,.inr (.inl ⟨rfl,_,q⟩),sA K⟩
 |lst l=>obtain⟨a,vs,rfl,q,_⟩:=h.lst;exact⟨_,.inl ⟨rfl,_,q⟩,vh K⟩
 |dk ks l=>obtain⟨a,vs,rfl,_,q,_⟩:=h.dk;exact⟨_,.inr (.inr ⟨rfl,_,q⟩),vj K⟩
 |_=>simp only[known] at hk;cases hk
def D5:m4 K "bool" isBool:=by
 intro H A t v hk h;cases t with
 |aQ=>rw[h.aQ];exact⟨_,rfl,lu K⟩
 |bl b=>rw[h.bl];exact⟨_,rfl,sk K⟩
 |int b=>rw[h.int];exact⟨_,rfl,uY K⟩
 |str b=>rw[h.str];exact⟨_,rfl,vf K⟩
 |tup l=>obtain⟨a,vs,rfl,q,_⟩:=h.tup;exact⟨_,.inr (.inl ⟨rfl,_,q⟩),qd K⟩
 |lst l=>obtain⟨a,vs,rfl,q,_⟩:=h.lst;exact⟨_,.inl ⟨rfl,_,q⟩,su K⟩
 |dk ks l=>obtain⟨a,vs,rfl,_,q,_⟩:=h.dk;exact⟨_,.inr (.inr ⟨rfl,_,q⟩),sD K⟩
 |_=>simp only[known] at hk;cases hk
def ie:m4 K "str" isStr:=by
 intro H A t v hk h;cases t with
 |aQ=>rw[h.aQ];exact⟨_,rfl,mZ K⟩
 |bl b=>rw[h.bl];exact⟨_,rfl,vd K⟩
 |int b=>rw[h.int];exact⟨_,rfl,xU K⟩
 |str b=>rw[h.str];exact⟨_,rfl,xW K⟩
 |tup l=>obtain⟨a,vs,rfl,q,_⟩:=h.tup;exact⟨_,.inr (.inl ⟨rfl,_,q⟩),sC K⟩
 |lst l=>obtain⟨a,vs,rfl,q,_⟩:=h.lst;exact⟨_,.inl ⟨rfl,_,q⟩,vi K⟩
 |dk ks l=>obtain⟨a,vs,rfl,_,q,_⟩:=h.dk;exact⟨_,.inr (.inr ⟨rfl,_,q⟩),vk K⟩
 |_=>simp only[known] at hk;cases hk
def m5:m4 K "list" isList:=by
 intro H A t v hk h;cases t with
 |aQ=>rw[h.aQ];exact⟨_,rfl,lx K⟩
 |bl b=>rw[h.bl];exact⟨_,rfl,so K⟩
 |int b=>rw[h.int];exact⟨_,rfl,uZ K⟩
 |str b=>rw[h.str];exact⟨_,rfl,vg K⟩
 |tup l=>obtain⟨a,vs,rfl,q,_⟩:=h.tup;exact⟨_,.inr (.inl ⟨rfl,_,q⟩),qe K⟩
 |lst l=>obtain⟨a,vs,rfl,q,_⟩:=h.lst;exact⟨_,.inl ⟨rfl,_,q⟩,sy K⟩
 |dk ks l=>obtain⟨a,vs,rfl,_,q,_⟩:=h.dk;exact⟨_,.inr (.inr ⟨rfl,_,q⟩),sE K⟩
 |_=>simp only[known] at hk;cases hk
def eZ:m4 K "tuple" LS:=by
 intro H A t v hk h;cases t with
 |aQ=>rw[h.aQ];exact⟨_,rfl,ky K⟩
 |bl b=>rw[h.bl];exact⟨_,rfl,qb K⟩
 |int b=>rw[h.int];exact⟨_,rfl,sj K⟩
 |str b=>rw[h.str];exact⟨_,rfl,sr K⟩
 |tup l=>obtain⟨a,vs,rfl,q,_⟩:=h.tup;exact⟨_,.inr (.inl ⟨rfl,_,q⟩),oG K⟩
 |lst l=>obtain⟨a,vs,rfl,q,_⟩:=h.lst;exact⟨_,.inl ⟨rfl,_,q⟩,qc K⟩
 |dk ks l=>obtain⟨a,vs,rfl,_,q,_⟩:=h.dk;exact⟨_,.inr (.inr ⟨rfl,_,q⟩),qf K⟩
 |_=>simp only[known] at hk;cases hk
noncomputable def WB(f:FE)(p:T->Bool):FP:=λρ Q=>f ρ λt=>known t=true/\Q (.vw (.bl (p t)))
section
variable{Z:Zc}{a:Expr}{pos:Pos}{fa fb Y7:FE}
def vm:bootBuiltins "isinstance"=some (.builtin "isinstance"):=by decide +kernel
def cy{n:String}{q:T->Bool}(hq:m4 X.K n q)(hg:Gl X "isinstance")(hm:X.mg "isinstance"=none)(hgy:Gl X y)(hmy:X.mg y=none)(hby:bootBuiltins y=some (.type n))(ha:VR X Z e fa)(hny:y≠"__name__":=by decide)(hdy:gq y:=by decide)(hs:starEach [e,.Name y p2] X.env=(false,eval e X.env)::starEach [.Name y p2] X.env:=by rfl)(tE:starEach [.Name y p2] X.env=(false,eval (.Name y p2) X.env)::starEach [] X.env:=by rfl)(fO:(backTo pos (starEach [.Name y p2] X.env)).any (·.1)=false:=by rfl) :
  VP X Z (.Call (.Name "isinstance" p) [e,.Name y p2] [] pos) (WB fa q):=.mk λtm=>
 PE.weak (pH D4 hg hm vm (bf (ha tm) (bf (K1 (v:=.ty n) hgy hmy hby rfl hny hdy) cC tE) hs) (by decide) (by decide) hs fO) λσ H Q ⟨ρ,O,q',I,hf,k⟩=>⟨ρ,O,_,I,hf,λt ht v H1 s1 a1=>by obtain⟨ty,h1,h2⟩:=hq H1 _ t v ht.1 a1;exact⟨v,n,ty,_,rfl,h1,h2,k _ ht.2 _ H1 s1 ⟨I.same s1,eT⟩⟩⟩
noncomputable def j8:T->Bool
 |.aQ=>true
 |.bl _=>true
 |.int _=>true
 |.str _=>true
 |_=>false
noncomputable def xX:List T->Bool
 |[]=>true
 |t::ts=>j8 t && xX ts
noncomputable def Kw(x:T):List T->Bool
 |[]=>false
 |t::ts=>eqT t x || Kw x ts
theorem m6{K:Δ}{H:Hp}{A:ο}:∀{ts:List T}{vs:Ω}{x:T}{v:V},xX ts=true->j8 x=true->az K H A ts vs->At K H A x v->vs.all jj=true/\jj v=true/\YV v vs=Kw x ts
 |[],vs,x,v,_,fx,h,hx=>by simp only[az] at h;subst h;refine⟨rfl,?_,rfl⟩;cases x<;>simp only[At] at hx<;>first|(subst hx;rfl)|(simp only[j8] at fx;cases fx)
 |t::ts,vs,x,v,f,fx,h,hx=>by
  simp only[az] at h;obtain⟨u,r,rfl,h1,h2⟩:=h;simp only[xX,oR] at f;obtain⟨i1,i2,i3⟩:=m6 f.2 fx h2 hx;have ft:jj u=true:=by cases t<;>simp only[At] at h1<;>first|(subst h1;rfl)|(have:=f.1;simp only[j8] at this;cases this)
  have e:Kq u v=eqT t x:=by
   cases t<;>simp only[At] at h1<;>first
    | (have:=f.1;simp only[j8] at this;cases this;done)
    | (subst h1
       cases x<;>simp only[At] at hx<;>first
        | (simp only[j8] at fx;cases fx;done)
        | (subst hx;simp[Kq,eqT];done))
  refine⟨by simp[ft,i1],i2,?_⟩;simp only[Kw,YV,Kk];rw[e]
  congr 1
noncomputable def WC(K:Δ)(neg:Bool):R2:=λx y H Q=>rIn K neg x y H Q\/∃i j,x=.str i/\y=.str j/\Q (.bl (if neg then !(!(Builtin.Str.occurrences j i 0 j.length 1).isEmpty) else !(Builtin.Str.occurrences j i 0 j.length 1).isEmpty)) H
def GZ:gx X (compareOp .In) (WC X.K false):=by
 intro γ s σ H x y v u Q I rx ry h;obtain h|⟨i,j,h1,h2,h⟩:=h
 exact DU γ s σ H x y v u Q I rx ry h;exact DK γ s σ H x y v u Q I rx ry ⟨i,j,h1,h2,by simpa using h⟩
noncomputable def G0(i j:Str):Bool:=!(Builtin.Str.occurrences j i 0 j.length 1).isEmpty
def Y8(x y:T)(q:Rt->Prop):Prop:=match y with
 |.lst ts=>j8 x=true/\xX ts=true/\q (.vw (.bl (Kw x ts)))
 |.tup ts=>j8 x=true/\xX ts=true/\q (.vw (.bl (Kw x ts)))
 |.str j=>∃i,x=.str i/\q (.vw (.bl (G0 i j)))
 |_=>False
def G1:rT K (WC K false) Y8:=by
 intro Z tm O ρ σ H x y v w q Q I h1 h2 h k;have x1:j8 x=true->At K H (av Z O) x v:=λf=>by
  obtain h|⟨a,rfl,h⟩:=h1
  exact h;cases x<;>first|exact h.elim|(simp only[j8] at f;cases f)
 unfold Y8 at h;split at h;obtain⟨f1,f2,h⟩:=h;obtain⟨a,vs,rfl,q1,q2⟩:=h2.lst;obtain⟨i1,i2,i3⟩:=m6 f2 f1 q2 (x1 f1);exact .inl ⟨a,vs,rfl,.inl q1,i2,i1,k _ h _ H (aO.refl H) ⟨I,by rw[η gZ,i3];exact eT⟩⟩;obtain⟨f1,f2,h⟩:=h;obtain⟨a,vs,rfl,q1,q2⟩:=h2.tup;obtain⟨i1,i2,i3⟩:=m6 f2 f1 q2 (x1 f1);exact .inl ⟨a,vs,rfl,.inr q1,i2,i1,k _ h _ H (aO.refl H) ⟨I,by rw[η gZ,i3];exact eT⟩⟩;obtain⟨i,rfl,h⟩:=h;exact .inr ⟨i,_,h1.str,h2.str,k _ h _ H (aO.refl H) ⟨I,by rw[η gZ];exact eT⟩⟩;exact h.elim
def WD(ha:VR X Z a fa)(hb:VR X Z b fb)(hm:behindInMarks .In b=false:=by rfl):VP X Z (.Compare a [.In] [b] pos) (f2 fa fb Y8):=GF GZ G1 ha hb hm
def tV(ha:VR X Z a fa)(hb:VR X Z b fb)(hm:behindInMarks .In b=false:=by rfl):VC X Z (.Compare a [.In] [b] pos) (oC (f2 fa fb Y8)):=jk GZ G1 ha hb hm
def nT:T->Bool
 |.aQ=>true
 |_=>false
def pIs(x y:T)(q:Rt->Prop):Prop:=match y with
 |.aQ=>q (.vw (.bl (nT x)))
 |_=>False
def Am(x y:T)(q:Rt->Prop):Prop:=match y with
 |.aQ=>q (.vw (.bl (!nT x)))
 |_=>False
def Cj{A:ο}{t:T}(h:g_ K H A t v):decide (v=.aQ)=nT t:=by
 cases t with
 |aQ=>rw[h.aQ];rfl
 |bl b=>rw[h.bl];rfl
 |int b=>rw[h.int];rfl
 |str b=>rw[h.str];rfl
 |ob b=>rw[h.ob];rfl
 |ty b=>have:v=.ty b:=h.elim (λq=>by simpa only[At] using q) λ⟨_,_,q⟩=>q.elim;rw[this];rfl
 |tup l=>obtain⟨a,vs,rfl,_⟩:=h.tup;rfl
 |lst l=>obtain⟨a,vs,rfl,_⟩:=h.lst;rfl
 |dk ks l=>obtain⟨a,vs,rfl,_⟩:=h.dk;rfl
 |dt ks l=>obtain⟨a,vs,rfl,_⟩:=h.dt;rfl
 |dc nh ks l=>obtain⟨a,xs,vs,rfl,_⟩:=h.dc;rfl
 |kt k=>obtain⟨a,rfl,_⟩:=h.kt;rfl
 |ins C ns l=>obtain⟨a,dx,vs,rfl,_⟩:=h.ins;rfl
 |pin a t=>have e:v=.ref a:=h.elim (λq=>by simp only[At] at q;exact q.1) λ⟨_,_,q⟩=>q.elim;rw[e];rfl
def Rv:rT K (λx y H Q=>y=.aQ/\Q (.bl (decide (x=.aQ))) H) pIs:=by intro Z tm O ρ σ H x y v w q Q I h1 h2 h k;unfold pIs at h;split at h;exact⟨h2.aQ,k _ h _ H (aO.refl H) ⟨I,by rw[Cj h1];exact eT⟩⟩;exact h.elim
def D6:rT K (λx y H Q=>y=.aQ/\Q (.bl (!decide (x=.aQ))) H) Am:=by intro Z tm O ρ σ H x y v w q Q I h1 h2 h k;unfold Am at h;split at h;exact⟨h2.aQ,k _ h _ H (aO.refl H) ⟨I,by rw[Cj h1];exact eT⟩⟩;exact h.elim
def xY(ha:VR X Z a fa)(hb:VR X Z b fb):VC X Z (.Compare a [.Is] [b] pos) (oC (f2 fa fb pIs)):=jk QE Rv ha hb (ji _)
def xZ(ha:VR X Z a fa)(hb:VR X Z b fb):VC X Z (.Compare a [.IsNot] [b] pos) (oC (f2 fa fb Am)):=jk K_ D6 ha hb (ji _)
def G2{g g':Int->Int->Bool}{tm:List (T×V)}{Q:VK}(h:lP X Z tm (f3 fa fb Y7 (Wn g) (Wn g')) σ H Q):Gi (xt λi j=>.bl (g i j)) (xt λi j=>.bl (g' i j)) (lR X Z tm fa) (lR X Z tm fb) (lR X Z tm Y7) σ H Q:=by
 obtain⟨ρ,O,q,I,hf,k⟩:=h;refine⟨ρ,O,_,I,hf,λx hx v H1 s1 a1=>⟨ρ,O,_,I.same s1,hx,λy hy w H2 s2 a2=>?_⟩⟩;have J:=(I.same s1).same s2;unfold Wn at hy;split at hy
 rename_i i j
 refine⟨i,j,(a1.same s2).int,a2.int,_,rfl,?_⟩;cases e:g i j with
 |true=>
  rw[e] at hy;refine QU ⟨ρ,O,_,J,hy,λz hz w3 H3 s3 a3=>?_⟩;split at hz
  rename_i e1
  cases e1;exact⟨_,_,(a2.same s3).int,a3.int,k _ hz _ H3 ((s1.trans s2).trans s3) ⟨J.same s3,eT⟩⟩;exact hz.elim
 |false=>rw[e] at hy;exact QT (k _ hy _ H2 (s1.trans s2) ⟨J,eT⟩)
 exact hy.elim
def G3{op QF:CmpOp}{g g':Int->Int->Bool}(ho:gx X (compareOp op) (xt λi j=>.bl (g i j)))(j6:gx X (compareOp QF) (xt λi j=>.bl (g' i j)))(ha:VR X Z a fa)(hb:VR X Z b fb)(hc:VR X Z c Y7)(hm:lastMarks [op,QF] [b,c]=false:=by with_unfolding_all rfl):VC X Z (.Compare a [op,QF] [b,c] pos) (oC (f3 fa fb Y7 (Wn g) (Wn g'))):=.mk λtm=>PT.weak (Gj ho j6 (ha tm) (hb tm) (hc tm) hm) λσ H Q ⟨ρ,O,q,I,hf,k⟩ =>
 G2 ⟨ρ,O,_,I,hf,λt ht u H' s a=>by obtain⟨c,rfl,hc⟩:=Ai ht;have e:=a.2;simp only[At] at e;exact⟨c,e,k c hc H' s⟩⟩
noncomputable def fu(ts:List T):List T:=ts.mapIdx λi t=>.tup [.int (i:Int),t]
noncomputable def WE(f:FE):FI:=λρ Q=>f ρ λt=>match t with
 |.lst ts=>Q (fu ts)
 |_=>False
theorem LU{a:Addr}{ts:List T}:Wk K (Ite K a) [(.lst ts,.ref a)] (fu ts):=λH A hA h i=>by
 have h:=h _ c6;simp only[At] at h;obtain⟨b,vs,e,l,q⟩:=h;cases e;have hl:=q.length;have hle:(fu ts).length=ts.length:=by unfold fu;rw[List.length_mapIdx]
 rw[hle];refine⟨λhi=>⟨vs,vs[i]'(by omega),l.sq,by simp⟩,λhi=>⟨vs,l.sq,by omega⟩,λt ht x H' y=>?_⟩;obtain⟨p,u,hp,rfl,hu,rfl⟩:=y;unfold fu at ht;rw[YK] at ht;cases e:ts[i]? with
 |none=>rw[e] at ht;cases ht
 |some t'=>rw[e] at ht;cases ht;obtain⟨v,e1,e2⟩:=q.get e;have:=hu vs l.sq;rw[e1] at this;cases this;exact⟨aA hp,bU (dz.of aC) (az.cons bz (az.cons (e2.same (aA hp)) az.nil))⟩
def Cm{x1}(hg:Gl X "enumerate")(hm:X.mg "enumerate"=none)(ha:VE X Z a fa)(hs:starEach [a] X.env=[(false,eval a X.env)]:=by rfl) :
  VI X Z (.Tuple elts x1 tp) (.Call (.Name "enumerate" p) [a] [] pos) (WE fa):=.mk λtm=>PI.weak (Lw hg hm (bf (ha tm) cC hs) hs) λσ H R ⟨ρ,O,q,I,hf,k⟩=>⟨ρ,O,_,I,hf,λt ht v H' s a=>by
 split at ht;have a0:=a;simp only[At] at a;obtain⟨p,vs,rfl,l,_⟩:=a;exact⟨p,rfl,⟨vs,l.sq⟩,k _ ht _ H' _ s (λp hp=>by rw[iD.mp hp];exact a0) LU⟩;exact ht.elim⟩
noncomputable def dJ:List T->Option (List Bool)
 |[]=>some []
 |.bl b::ts=>(dJ ts).map (b::·)
 |_=>none
theorem G4{K:Δ}{H:Hp}{A:ο}:∀{ts:List T}{bs:List Bool}{vs:Ω},dJ ts=some bs->az K H A ts vs->vs=bs.map V.bl
 |[],bs,vs,e,h=>by simp only[dJ] at e;cases e;simp only[az] at h;rw[h];rfl
 |.bl b::ts,bs,vs,e,h=>by
  simp only[dJ] at e;cases q:dJ ts with
  |none=>rw[q] at e;cases e
  |some cs=>rw[q] at e;cases e;simp only[az,At] at h;obtain⟨v,r,rfl,rfl,h⟩:=h;rw[G4 q h];rfl
 |.aQ::_,_,_,e,_=>by simp[dJ] at e
 |.int _::_,_,_,e,_=>by simp[dJ] at e
 |.str _::_,_,_,e,_=>by simp[dJ] at e
 |.tup _::_,_,_,e,_=>by simp[dJ] at e
 |.lst _::_,_,_,e,_=>by simp[dJ] at e
 |.dk _ _::_,_,_,e,_=>by simp[dJ] at e
 |.dt _ _::_,_,_,e,_=>by simp[dJ] at e
 |.dc _ _ _::_,_,_,e,_=>by simp[dJ] at e
 |.kt _::_,_,_,e,_=>by simp[dJ] at e
 |.ins _ _ _::_,_,_,e,_=>by simp[dJ] at e
 |.pin _ _::_,_,_,e,_=>by simp[dJ] at e
 |.ob _::_,_,_,e,_=>by simp[dJ] at e
 |.ty _::_,_,_,e,_=>by simp[dJ] at e
def WG(ts:List T)(q:Rt->Prop):Prop:=match ts with
 |[.lst l]=>∃bs,dJ l=some bs/\q (.vw (.bl (bs.all id)))
 |_=>False
def D7:nR K (λxs H Q=>∃(p:Addr)(bs:List Bool),xs=[.ref p]/\gw K H p (bs.map V.bl)/\Q (.bl (bs.all id)) H) WG:=by intro Z tm O ρ σ H ts vs q Q I h hp k;unfold WG at hp;split at hp;obtain⟨bs,e,hp⟩:=hp;obtain⟨v,rfl,a⟩:=dB h;obtain⟨p,ws,rfl,q1,q2⟩:=a.lst;rw[G4 e q2] at q1;exact⟨p,bs,rfl,q1,k _ hp _ H (aO.refl H) ⟨I,eT⟩⟩;exact hp.elim
def OC(ts:List T)(q:Rt->Prop):Prop:=match ts with
 |[.int i,.int j]=>q (.vw (.int (if j<i then j else i)))
 |_=>False
def An:nR K (λxs H Q=>∃i j,xs=[.int i,.int j]/\Q (.int (if j<i then j else i)) H) OC:=by intro Z tm O ρ σ H ts vs q Q I h hp k;unfold OC at hp;split at hp;obtain⟨v,w,rfl,a,b⟩:=B4 h;exact⟨_,_,by rw[a.int,b.int],k _ hp _ H (aO.refl H) ⟨I,bz⟩⟩;exact hp.elim
def ac7(f:FP)(fb:FE):FP:=λρ Q=>f ρ λr=>match r with
 |.fr (.lst ts)=>fb ρ λy=>match y with
  |.int k=>-(2 ^ 63)<=k/\k<2 ^ 63/\ts.length * k.toNat<=sizeLine/\Q (.fr (.lst (List.replicate k.toNat ts).flatten))
  |_=>False
 |_=>False
theorem az.rep{K:Δ}{H:Hp}{A:ο}{ts:List T}{vs:Ω}(h:az K H A ts vs):∀k:Nat,az K H A (List.replicate k ts).flatten (List.replicate k vs).flatten
 |0=>az.nil
 |k+1=>by rw[FV,FV,P6,P6];exact h.append (az.rep h k)
def qg{f:FP}(ha:VP X Z a f)(hb:VR X Z b fb):VP X Z (.BinOp a .Mult b pos) (ac7 f fb):=.mk λtm=>PE.weak (Od QQ (ha tm) (hb tm)) λσ H Q ⟨ρ,O,q,I,hf,k⟩=>⟨ρ,O,_,I,hf,λr hr v H1 s1 z=>by split at hr;obtain⟨l,rfl,J,⟨xs,e,q1⟩,_⟩:=z;refine⟨ρ,O,_,I.same s1,hr,λy hy w H2 s2 a2=>?_⟩;split at hy;obtain⟨h1,h2,h3,hy⟩:=hy;have q2:az X.K H2 (av Z O) _ xs:=(q1.same s2).aY h_;exact⟨l,_,xs,rfl,a2.int,s2 _ _ e,h1,h2,by rw[q2.length];exact h3,λp hp=>k _ hy _ _ ((s1.trans s2).trans (aA hp)) (((I.same s1).same s2).Ah hp (q2.rep _))⟩;exact hy.elim;exact hr.elim⟩
end
structure Df(K:Δ)(mg:qae)(x:Str)(st:Stmt)(ps:π)(f:Addr)(fd:FuncData):Prop where
 F:BZ K x x st f fd
 m:mg x=some (.ref f)
 b:Binds K fd ps []
def bW(P:Program)(w:World)(K:Δ)(mg:qae)(base:Heap)(x:Str)(ps:π)(k:Nat)(sp:Sp):Prop :=
 ∃f fd,mg x=some (.ref f)/\W.keepIn K (.ref f)=true/\Binds K fd ps []/\cq P w K mg base eD k f fd ps sp
def Df.hJ{st:Stmt}{k:Nat}(D:Df K mg x st ps f fd)(F:cq P w K mg base eD k f fd ps sp):bW P w K mg base x ps k sp :=
 ⟨f,fd,D.m,D.F.kp,D.b,F⟩
def mB:bN ⟨H,[],Ox⟩ i:=λ_ z=>nomatch z
section
def oH{st:Stmt}{N:π}{k:Nat}{G:List T->(Rt->Prop)->Prop}(F:BZ K x qual st f fd)(S:aE N ps (aj st))(hn:n=ps.length)(dF:∀(bB:Value) (A:Around) (outer:List Env) (s:Shared) (H:Hp) (E:XK) (Ox:ο),bF k (A.deeper (envOfC qual (aj st) s.heap.objs.size f bB))->∀ts q,G ts q ->
    ∃g,oF (fP eD P w K mg base N qual (aj st) f bB A outer s H E).pF ⟨H,[],Ox⟩ (bG st) g/\(ts.length=n->g {nx:=λ_=>q (.vw .aQ),rt:=λ_ r=>q r} (ts.map (λt=>some (t,false))++List.replicate (N.length-ts.length) none))) :
  cq P w K mg base eD (k+1) f fd ps (di K n G):=by
 have hp:∀n (as:ο) k,pz (List.replicate n false) as k=[]:=by
  intro n;induction n with
  |zero=>intro as k;rfl
  |succ n ih=>intro as k;exact ih as (k+1)
 have hfi:∀n (ρ:En),mW (List.replicate n false) ρ=[]:=by
  intro n;induction n with
  |zero=>intro ρ;rfl
  |succ n ih=>intro ρ;exact ih ρ.tail
 have he:∀n (ts:List T),ts.length=n->xQ (List.replicate n false) ts=ts.map λt=>some (t,false):=by
  intro n;induction n with
  |zero=>intro ts e;cases ts<;>simp_all [xQ]
  |succ n ih=>
    intro ts e;cases ts with
    |nil=>simp at e
    |cons t ts=>rw[FV,xQ,ih ts (by simpa using e)];rfl
 refine Wz F S (by rw[P0];exact hn) λbB A outer s H E as Ox hr ts q hl hG=>?_;rw[P0] at hl;obtain⟨g,h1,h2⟩:=dF bB A outer s H E Ox hr ts (q []) hG;refine⟨g,by rw[hp];exact h1,?_⟩;rw[he n ts hl];simp only[hfi];exact h2 hl
end
def bF.iN{k:Nat}(r:bF k A):A.units+101<cLine:=by have:=r.un;omega
def m7:bootBuiltins "list"=some (.type "list"):=by decide +kernel
def eG:bootBuiltins "tuple"=some (.type "tuple"):=by decide +kernel
def WH:bootBuiltins "all"=some (.builtin "all"):=by decide +kernel
def OD:bootBuiltins "min"=some (.builtin "min"):=by decide +kernel
def WI:bootBuiltins "int"=some (.type "int"):=by decide +kernel
def Rx:bootBuiltins "bool"=some (.type "bool"):=by decide +kernel
def tW:bootBuiltins "str"=some (.type "str"):=by decide +kernel
theorem oY:∀{fs:List Bool}{as:ο}{k:Nat},∀p∈pz fs as k,k<=p.1/\fs[p.1-k]?=some true
 |[],_,_,p,hp=>nomatch hp
 |false::fs,as,k,p,hp=>by
  obtain⟨h1,h2⟩:=oY (fs:=fs) (as:=as) (k:=k+1) p hp;refine⟨by omega,?_⟩;have:p.1-k=(p.1-(k+1))+1:=by omega
  rw[this];simpa using h2
 |true::fs,a::as,k,p,hp=>by
  rcases cU.mp hp with z|z
  subst z;exact⟨cS _,by simp⟩;obtain⟨h1,h2⟩:=oY (fs:=fs) (as:=as) (k:=k+1) p z;refine⟨by omega,?_⟩;have:p.1-k=(p.1-(k+1))+1:=by omega
  rw[this];simpa using h2
 |true::fs,[],k,p,hp=>by
  obtain⟨h1,h2⟩:=oY (fs:=fs) (as:=[]) (k:=k+1) p hp;refine⟨by omega,?_⟩;have:p.1-k=(p.1-(k+1))+1:=by omega
  rw[this];simpa using h2
def dO{fs:List Bool}{as:ο}(h:fs[i]?≠some true):bN ⟨H,pz fs as 0,Ox⟩ i:=λp hp e=>by have:=(oY p hp).2;rw[Nat.sub_zero,e] at this;exact h this
def d9(lo:Int)(n:Nat):(rangeT lo n).length=n:=by unfold rangeT;rw[cJ,N8]
def qh{lo:Int}{t:T}(h:(rangeT lo n)[i]?=some t):i<n/\t=.int (lo+(i:Int)):=by
 unfold rangeT at h;rw[hU] at h;cases e:(List.range n)[i]? with
 |none=>rw[e] at h;cases h
 |some j=>rw[e] at h;obtain⟨h1,h2⟩:=fQ.mp e;rw[List.getElem_range] at h2;rw[N8] at h1;subst h2;cases h;exact⟨h1,rfl⟩
def qi{lo:Int}{h:FG}{g:FS}{d:FD}{ρ:En}(Pv:Nat->En->Prop)(h0:Pv 0 ρ)(hs:∀(i:Nat) ρ',i<n->Pv i ρ'->h (.int (lo+(i:Int))) ρ' λρ2=>g {nx:=Pv (i+1),ct:=Pv (i+1),bk:=d.nx,rt:=d.rt} ρ2)(hd:∀ρ',Pv n ρ'->d.nx ρ'):pW (rangeT lo n) h g d ρ:=⟨Pv,h0,λi t ρ' e p=>by obtain⟨h1,rfl⟩:=qh e;exact hs i ρ' h1 p,λρ' p=>hd ρ' (by rw[d9] at p;exact p)⟩
theorem G5{f:α->T}{xs:List α}{h:FG}{g:FS}{d:FD}{ρ:En}(Pv:Nat->En->Prop)(h0:Pv 0 ρ)(hs:∀(i:Nat) x ρ',xs[i]?=some x->Pv i ρ'->h (f x) ρ' λρ2=>g {nx:=Pv (i+1),ct:=Pv (i+1),bk:=d.nx,rt:=d.rt} ρ2)(hd:∀ρ',Pv xs.length ρ'->d.nx ρ'):pW (xs.map f) h g d ρ:=⟨Pv,h0,λi t ρ' e p=>by
 rw[hU] at e;cases q:xs[i]? with
 |none=>rw[q] at e;cases e
 |some x=>rw[q] at e;cases e;exact hs i x ρ' q p,λρ' p=>hd ρ' (by rw[cJ] at p;exact p)⟩
def LV{c:Bool}{A:Prop}(hc:c=true)(h:A):if c=true then A else B:=by rw[ε hc];exact h
def m8{c:Bool}{A:Prop}(hc:c=false)(h:B):if c=true then A else B:=by rw[η (by rw[hc];exact gZ)];exact h
def jn{c A:Prop}[Decidable c](h1:c->A)(h2:¬ c->B):if decide c=true then A else B:=by by_cases h:c;rw[ε (ν h)];exact h1 h;rw[η (by rw[ι h];exact gZ)];exact h2 h
section
variable{s:Shared}
def ly{t:Addr}{items:Array Value}{x:Value}(hit:s.heap.IsTupleIter it t i)(ht:s.heap.IsTuple t items)(hx:items[i]?=some x)(hQ:∀h',h'.IsTupleIter it t (i+1)->Heap.SameBut it s.heap h'->Q x {s with heap:=h'}):wpAny (model prog w) A (Builtin.SmallTypes.nextOf (.ref it)) Q E s:=by
 obtain⟨o,ho,hc,hd⟩:=id hit;obtain⟨ol,hol,_,nl,FK⟩:=ht;unfold Builtin.SmallTypes.nextOf;refine δ (χ (name:=Str.ofString "__next__") hit.typeIs N3
  (ω N3 hit.typeIs YB ?_ (YA _)))
 show wpAny _ _ (field (.ref it) 0 >>= _) _ _ s;refine δ (υ ho hd (x:=.ref t) rfl ?_);show wpAny _ _ (if (Value.ref t==Value.none)=true then _ else _) _ _ s;rw[η (show ¬ ((Value.ref t==Value.none)=true) from gZ)];show wpAny _ _ (field (.ref it) 1 >>= _) _ _ s;refine δ (υ ho hd (x:=.int i 0) rfl ?_);show wpAny _ _ (seqItems? (.ref t) >>= _) _ _ s;refine δ (Γ hol FK ?_);simp only[Dz,hx];refine δ (aax ho hd (by simp) (ζ ⟨x,rfl,ζ (hQ _ ?_ (YM ..))⟩));exact⟨_,Heap.get?_update_self _ ho (Obj.isFreed_of_fields (YO hd _)),(Obj.cls_mapFields ..).trans hc,by
  rw[YO hd];simp[rawInt]⟩
def m9{t:Addr}{items:Array Value}(hh:A.handled=none)(hit:s.heap.IsTupleIter it t i)(ht:s.heap.IsTuple t items)(hx:items[i]?=none)(hE:∀h' e,Heap.ExtBut it s.heap h'->(∃o,h'.get? e=some o/\o.cls=.type "StopIteration")->E (.ref e) {s with heap:=h'}):wpAny (model prog w) A (Builtin.SmallTypes.nextOf (.ref it)) Q E s:=by
 obtain⟨o,ho,hc,hd⟩:=id hit;obtain⟨ol,hol,_,nl,FK⟩:=ht;unfold Builtin.SmallTypes.nextOf;refine δ (χ (name:=Str.ofString "__next__") hit.typeIs N3
  (ω N3 hit.typeIs YB ?_ (YA _)))
 show wpAny _ _ (field (.ref it) 0 >>= _) _ _ s;refine δ (υ ho hd (x:=.ref t) rfl ?_);show wpAny _ _ (if (Value.ref t==Value.none)=true then _ else _) _ _ s;rw[η (show ¬ ((Value.ref t==Value.none)=true) from gZ)];show wpAny _ _ (field (.ref it) 1 >>= _) _ _ s;refine δ (υ ho hd (x:=.int i 0) rfl ?_);show wpAny _ _ (seqItems? (.ref t) >>= _) _ _ s;refine δ (Γ hol FK ?_);simp only[Dz,hx];refine δ (aak (δ (aax ho hd (by simp) ?_)));show wpAny _ _ (newExc (.type "StopIteration") [] >>= _) _ _ _;refine δ ?_;simp only[newExc,newTuple];refine δ (Φ ?_ (by size_fits));refine δ (m:=firstArgMember _ _) (wpAny_of_eq (a:=Value.none) (by first|rfl|(simp only[firstArgMember];rfl)) ?_);refine Φ ?_ (by size_fits);simp only[raiseNew];refine δ (wpAny_handled ?_)
 first|rw[show A.in1.handled=none from hh]|rw[hh]
 refine δ (ζ (wpAny_throw ?_));exact hE _ _ (((YM ..).extBut.push _).push _) ⟨_,k4 _ rfl,rfl⟩
end
structure Part(prog:Program)(w:World)(i:Addr)(fp:ο)(n:Nat)(Pv:Nat->Value->Prop)(st:Nat->Heap->Prop):Prop where
 draws:∀A:Around,A.handled=none->Draws prog w A i fp n Pv st
 mem:i∈fp
 fld:∀k h,st k h->∃o vs,h.get? i=some o/\o.data=.fields vs
def D8(it l:Addr)(fY:l≠it)(items:Array Value):Part prog w it [it,l] items.size (λi v=>items[i]?=some v) (λi h=>h.IsListIter it l i/\h.IsList l items) :=
 ⟨λA hh=>Draws.list hh it l fY items,by simp,λk h st=>let ⟨⟨o,e,_,d⟩,_⟩:=st;⟨o,_,e,d⟩⟩
def Ao(it l:Addr)(fY:l≠it)(items:Array Value):Part prog w it [it,l] items.size (λi v=>items[i]?=some v) (λi h=>h.IsTupleIter it l i/\h.IsTuple l items) :=
 ⟨λA hh=>{live:=λ_ _ st=>let ⟨o,ho,_⟩:=st.1;⟨o,ho⟩,frame:=λ_ _ _ st hk=>⟨let ⟨o,ho,r⟩:=st.1;⟨o,hk it (by simp) o ho,r⟩,let ⟨o,ho,r⟩:=st.2;⟨o,hk l (by simp) o ho,r⟩⟩,item:=λi s Q E hi st hQ=>ly st.1 st.2 (x:=items[i]) (by simp[hi]) λh' ac8 Ry=>hQ _ h' s.toks (by simp[hi]) ⟨ac8,st.2.extBut Ry.extBut fY⟩ Ry,done:=λs Q E st hE=>m9 hh st.1 st.2 (by simp) hE},by simp,λk h st=>let ⟨⟨o,e,_,d⟩,_⟩:=st;⟨o,_,e,d⟩⟩
def G6(it:Addr)(x:Str)(t:Tok):Part prog w it [it] x.cps.size (λi v=>∃c u,x.cps[i]?=some c/\v=.str ⟨#[c]⟩ u) (λi h=>h.IsStrIter it (strIterType x) x t i):=by
 rcases dH x with z|z
 rw[z];exact⟨λA hh=>Draws.strAscii hh it x t,by simp,λk h st=>let ⟨o,e,_,d⟩:=st;⟨o,_,e,d⟩⟩;rw[z];exact⟨λA hh=>Draws.strWide hh it x t,by simp,λk h st=>let ⟨o,e,_,d⟩:=st;⟨o,_,e,d⟩⟩
structure Apart(z TI TO i1 i2:Addr)(qj oZ:ο):Prop where
 TIz:TI≠z
 TOz:TO≠z
 i1z:i1≠z
 i2z:i2≠z
 TITO:TI≠TO
 TIi1:TI≠i1
 TIi2:TI≠i2
 TOi1:TO≠i1
 TOi2:TO≠i2
 i12:i1≠i2
 z1:z∉qj
 z2:z∉oZ
 O1:TO∉qj
 O2:TO∉oZ
 x1:i2∉qj
 x2:i1∉oZ
section
variable{s:Shared}{z TI TO i1 i2:Addr}{qj oZ:ο}{n1 n2:Nat}{P1 P2:Nat->Value->Prop}{S1 S2:Nat->Heap->Prop}
def G7{k:Nat}{a b:Value}(hh:A.handled=none)(D:Apart z TI TO i1 i2 qj oZ)(p1:Part prog w i1 qj n1 P1 S1)(p2:Part prog w i2 oZ n2 P2 S2)(hz:IsZip s.heap z TI TO .none)(LW:IsPair s.heap TI (.ref i1) (.ref i2))(LX:IsPair s.heap TO a b)(h1:S1 k s.heap)(h2:S2 k s.heap)(hx:k<n1)(hy:k<n2)(hQ:∀x y h' tk,P1 k x->P2 k y->IsZip h' z TI TO (rawInt s.heap.objs.size)->IsPair h' TO x y->S1 (k+1) h'->S2 (k+1) h'->IsPair h' s.heap.objs.size x y->h'.objs.size=s.heap.objs.size+1 ->
    (∀c o,c≠z->c≠TO->c≠i1->c≠i2->s.heap.get? c=some o->h'.get? c=some o)->Q (.ref s.heap.objs.size) {s with heap:=h',toks:=tk}) :
  wpAny (model prog w) A (Builtin.«zip.__next__» ⟨[.ref z],[]⟩) (λfin s'=>∃v,fin=.done (.ret v)/\Q v s') E s:=by
 show wpAny _ _ (field (.ref z) 2 >>= _) _ _ _;refine δ (υ hz rfl (x:=.bool false) rfl ?_);show wpAny _ _ (field (.ref z) 3 >>= _) _ _ _;refine δ (υ hz rfl (x:=.ref TI) rfl ?_);refine δ (Γ LW rfl ?_);show wpAny _ _ (Builtin.SmallTypes.ownedTupleIsFree (.ref z) >>= _) _ _ _;refine δ ?_;unfold Builtin.SmallTypes.ownedTupleIsFree;refine δ (υ hz rfl (x:=.none) rfl (ζ ?_));simp only[aal];refine δ (aak ?_);refine δ (υ hz rfl (x:=.ref TO) rfl ?_);refine δ (aaa hz (by simp) λh₁ FC FQ=>?_)
 replace FC:IsZip h₁ z TI TO .ellipsis:=FC
 refine δ ?_;simp only[List.zipIdx_cons,List.zipIdx_nil,List.forIn_cons,List.forIn_nil];have f1:∀{m h h' c},c∉qj->S1 m h->Heap.SameBut c h h'->S1 m h':=λ{m h h' c} hc st sb=>(p1.draws A hh).frame m h h' st λb hb o e=>sb.extBut b o (λq=>hc (q▸hb)) e;have f2:∀{m h h' c},c∉oZ->S2 m h->Heap.SameBut c h h'->S2 m h':=λ{m h h' c} hc st sb=>(p2.draws A hh).frame m h h' st λb hb o e=>sb.extBut b o (λq=>hc (q▸hb)) e;refine δ (δ (aaA ?_));show wpAny _ _ (Builtin.SmallTypes.nextOf (.ref i1) >>= _) _ _ _;refine δ ((p1.draws _ hh).item k _ _ _ hx (f1 D.z1 h1 FQ) λx h₂ tk₂ px h1₂ pP=>ζ ?_)
 replace pP:Heap.SameBut i1 h₁ h₂:=pP
 have G8:IsPair h₂ TO a b:=pP.extBut _ _ D.TOi1 (FQ.extBut _ _ D.TOz LX);refine δ (Γ G8 rfl ?_);refine δ (aat G8 λh₃ LY zD=>?_)
 replace LY:IsPair h₃ TO x b:=LY
 replace zD:Heap.SameBut TO h₂ h₃:=zD
 refine δ (wpAny_letGo (ζ ?_));refine δ (δ (aaA ?_));show wpAny _ _ (Builtin.SmallTypes.nextOf (.ref i2) >>= _) _ _ _;refine δ ((p2.draws _ hh).item k _ _ _ hy (f2 D.O2 (f2 D.x2 (f2 D.z2 h2 FQ) pP) zD) λy h₄ tk₄ py h2₄ Kx=>ζ ?_)
 replace Kx:Heap.SameBut i2 h₃ h₄:=Kx
 have WJ:IsPair h₄ TO x b:=Kx.extBut _ _ D.TOi2 LY;refine δ (Γ WJ rfl ?_);refine δ (aat WJ λh₅ LZ Kz=>?_)
 replace LZ:IsPair h₅ TO x y:=LZ
 replace Kz:Heap.SameBut TO h₄ h₅:=Kz
 refine δ (wpAny_letGo (ζ (ζ ?_)));refine δ (Γ LZ rfl ?_);refine δ (wpAny_newTuple ?_);have hsz:h₅.objs.size=s.heap.objs.size:=by rw[Kz.1,Kx.1,zD.1,pP.1,FQ.1]
 have hz₅:IsZip h₅ z TI TO .ellipsis:=Kz.extBut _ _ D.TOz.symm (Kx.extBut _ _ D.i2z.symm (zD.extBut _ _ D.TOz.symm (pP.extBut _ _ D.i1z.symm FC)));have hk₅:∀c o,c≠z->c≠TO->c≠i1->c≠i2->s.heap.get? c=some o->h₅.get? c=some o:=λc o c1 c2 c3 c4 e=>
  Kz.extBut _ _ c2 (Kx.extBut _ _ c4 (zD.extBut _ _ c2 (pP.extBut _ _ c3 (FQ.extBut _ _ c1 e))))
 have h1₅:S1 (k+1) h₅:=f1 D.O1 (f1 D.x1 (f1 D.O1 h1₂ zD) Kx) Kz;have h2₅:S2 (k+1) h₅:=f2 D.O2 h2₄ Kz;have WK:z<h₅.objs.size:=gu hz₅;show wpAny _ _ (Builtin.SmallTypes.ownedTupleHandOut (.ref z) (.ref h₅.objs.size) >>= _) _ _ _;refine δ ?_;unfold Builtin.SmallTypes.ownedTupleHandOut;have hz₆:IsZip (h₅.push {cls:=.type "tuple",data:=.seq #[x,y]}) z TI TO .ellipsis:=fN _ hz₅;refine δ (aaa hz₆ (by simp) λh₇ hz₇ hs₇=>?_)
 replace hz₇:IsZip h₇ z TI TO (rawInt h₅.objs.size):=hz₇
 refine aaa hz₇ (by simp) λh₈ Y9 hs₈=>?_
 replace Y9:IsZip h₈ z TI TO (rawInt h₅.objs.size):=Y9
 have up:∀c o,c≠z->h₅.get? c=some o->h₈.get? c=some o:=λc o c1 e=>hs₈.extBut _ _ c1 (hs₇.extBut _ _ c1 (fN _ e));have hT₈:IsPair h₈ h₅.objs.size x y:=hs₈.extBut _ _ (DA WK) (hs₇.extBut _ _ (DA WK) (k4 _ rfl));have hz8:h₈.objs.size=h₅.objs.size+1:=by rw[hs₈.1,hs₇.1,F4]
 have h1₈:S1 (k+1) h₈:=(p1.draws A hh).frame _ _ _ h1₅ λb hb o e=>up b o (λq=>D.z1 (q▸hb)) e;have h2₈:S2 (k+1) h₈:=(p2.draws A hh).frame _ _ _ h2₅ λb hb o e=>up b o (λq=>D.z2 (q▸hb)) e;rw[hsz] at Y9 hT₈ hz8;refine ζ ⟨_,rfl,?_⟩;show Q (.ref h₅.objs.size) _;rw[hsz];exact hQ x y h₈ tk₄ px py Y9 (up _ _ D.TOz LZ) h1₈ h2₈ hT₈ hz8 λc o c1 c2 c3 c4 e=>up c o c1 (hk₅ c o c1 c2 c3 c4 e)
def L0{k:Nat}{a b:Value}{Q:PySem.Fin->Shared->Prop}(hh:A.handled=none)(D:Apart z TI TO i1 i2 qj oZ)(p1:Part prog w i1 qj n1 P1 S1)(p2:Part prog w i2 oZ n2 P2 S2)(hz:IsZip s.heap z TI TO .none)(LW:IsPair s.heap TI (.ref i1) (.ref i2))(LX:IsPair s.heap TO a b)(h1:S1 k s.heap)(h2:S2 k s.heap)(Rz:k=n1\/(k<n1/\k=n2))(hE:∀h' tk e,(∀c o,c≠z->c≠TO->c≠i1->c≠i2->s.heap.get? c=some o->h'.get? c=some o)->(∃o,h'.get? e=some o/\o.cls=.type "StopIteration")->E (.ref e) {s with heap:=h',toks:=tk}) :
  wpAny (model prog w) A (Builtin.«zip.__next__» ⟨[.ref z],[]⟩) Q E s:=by
 have f1:∀{m h h' c},c∉qj->S1 m h->Heap.SameBut c h h'->S1 m h':=λ{m h h' c} hc st sb=>(p1.draws A hh).frame m h h' st λb hb o e=>sb.extBut b o (λq=>hc (q▸hb)) e;have f2:∀{m h h' c},c∉oZ->S2 m h->Heap.SameBut c h h'->S2 m h':=λ{m h h' c} hc st sb=>(p2.draws A hh).frame m h h' st λb hb o e=>sb.extBut b o (λq=>hc (q▸hb)) e;show wpAny _ _ (field (.ref z) 2 >>= _) _ _ _;refine δ (υ hz rfl (x:=.bool false) rfl ?_);show wpAny _ _ (field (.ref z) 3 >>= _) _ _ _;refine δ (υ hz rfl (x:=.ref TI) rfl ?_);refine δ (Γ LW rfl ?_);show wpAny _ _ (Builtin.SmallTypes.ownedTupleIsFree (.ref z) >>= _) _ _ _;refine δ ?_;unfold Builtin.SmallTypes.ownedTupleIsFree;refine δ (υ hz rfl (x:=.none) rfl (ζ ?_));simp only[aal];refine δ (aak ?_);refine δ (υ hz rfl (x:=.ref TO) rfl ?_);refine δ (aaa hz (by simp) λh₁ FC FQ=>?_)
 replace FC:IsZip h₁ z TI TO .ellipsis:=FC
 refine δ ?_;simp only[List.zipIdx_cons,List.zipIdx_nil,List.forIn_cons,List.forIn_nil];refine δ (δ (aaA ?_));show wpAny _ _ (Builtin.SmallTypes.nextOf (.ref i1) >>= _) _ _ _;obtain rfl|⟨h9,rfl⟩:=Rz
 . refine δ ((p1.draws _ hh).done _ _ _ (f1 D.z1 h1 FQ) λh₂ e pP he=>?_);obtain⟨oe,RA,WL⟩:=he;have Y_:IsZip h₂ z TI TO .ellipsis:=pP _ _ D.i1z.symm FC;have hez:e≠z:=λx=>by subst x;rw[Y_] at RA;cases RA;simp at WL
   refine aaa Y_ (by simp) λh₃ _ zD=>hE h₃ _ e (λc o c1 _ c3 _ x=>zD.extBut _ _ c1 (pP _ _ c3 (FQ.extBut _ _ c1 x))) ⟨oe,zD.extBut _ _ hez RA,WL⟩
 . refine δ ((p1.draws _ hh).item k _ _ _ h9 (f1 D.z1 h1 FQ) λx h₂ tk₂ px h1₂ pP=>ζ ?_)
   replace pP:Heap.SameBut i1 h₁ h₂:=pP
   have G8:IsPair h₂ TO a b:=pP.extBut _ _ D.TOi1 (FQ.extBut _ _ D.TOz LX);refine δ (Γ G8 rfl ?_);refine δ (aat G8 λh₃ LY zD=>?_)
   replace zD:Heap.SameBut TO h₂ h₃:=zD
   refine δ (wpAny_letGo (ζ ?_));refine δ (δ (aaA ?_));show wpAny _ _ (Builtin.SmallTypes.nextOf (.ref i2) >>= _) _ _ _;refine δ ((p2.draws _ hh).done _ _ _ (f2 D.O2 (f2 D.x2 (f2 D.z2 h2 FQ) pP) zD) λh₄ e Kx he=>?_);obtain⟨oe,RA,WL⟩:=he;have hz₄:IsZip h₄ z TI TO .ellipsis:=Kx _ _ D.i2z.symm (zD.extBut _ _ D.TOz.symm (pP.extBut _ _ D.i1z.symm FC));have hez:e≠z:=λx=>by subst x;rw[hz₄] at RA;cases RA;simp at WL
   refine aaa hz₄ (by simp) λh₅ _ Kz=>hE h₅ _ e (λc o c1 c2 c3 c4 x=>Kz.extBut _ _ c1 (Kx _ _ c4 (zD.extBut _ _ c2 (pP.extBut _ _ c3 (FQ.extBut _ _ c1 x))))) ⟨oe,Kz.extBut _ _ hez RA,WL⟩
def oI{k:Nat}{a b:Value}{Q:(Option Value)->Shared->Prop}(hh:A.handled=none)(D:Apart z TI TO i1 i2 qj oZ)(p1:Part prog w i1 qj n1 P1 S1)(p2:Part prog w i2 oZ n2 P2 S2)(hz:IsZip s.heap z TI TO .none)(LW:IsPair s.heap TI (.ref i1) (.ref i2))(LX:IsPair s.heap TO a b)(h1:S1 k s.heap)(h2:S2 k s.heap)(hx:k<n1)(hy:k<n2)(hQ:∀x y h' tk,P1 k x->P2 k y->IsZip h' z TI TO (rawInt s.heap.objs.size)->IsPair h' TO x y->S1 (k+1) h'->S2 (k+1) h'->IsPair h' s.heap.objs.size x y->h'.objs.size=s.heap.objs.size+1 ->
    (∀c o,c≠z->c≠TO->c≠i1->c≠i2->s.heap.get? c=some o->h'.get? c=some o)->Q (some (.ref s.heap.objs.size)) {s with heap:=h',toks:=tk}):wpAny (model prog w) A (pyNext (.ref z)) Q E s:=by
 have hT:s.TypeIs (.ref z) "zip":=⟨_,hz,rfl⟩;unfold pyNext;exact δ (wpAny_attempt (χ (name:=Str.ofString "__next__") hT F.slot_zip_next
  (wpAny_call_entry F.slot_zip_next hT F.entry_zip_next
    (G7 hh D p1 p2 hz LW LX h1 h2 hx hy λx y h' tk q1 q2 a1 a2 a3 a4 a5 a6 a7=>ζ (hQ x y h' tk q1 q2 a1 a2 a3 a4 a5 a6 a7)) (F.args_zip_next_1 _))))
def qk{k:Nat}{a b:Value}{Q:(Option Value)->Shared->Prop}(hh:A.handled=none)(D:Apart z TI TO i1 i2 qj oZ)(p1:Part prog w i1 qj n1 P1 S1)(p2:Part prog w i2 oZ n2 P2 S2)(hz:IsZip s.heap z TI TO .none)(LW:IsPair s.heap TI (.ref i1) (.ref i2))(LX:IsPair s.heap TO a b)(h1:S1 k s.heap)(h2:S2 k s.heap)(Rz:k=n1\/(k<n1/\k=n2))(hQ:∀h' tk,(∀c o,c≠z->c≠TO->c≠i1->c≠i2->s.heap.get? c=some o->h'.get? c=some o)->Q none {s with heap:=h',toks:=tk}):wpAny (model prog w) A (pyNext (.ref z)) Q E s:=by
 have hT:s.TypeIs (.ref z) "zip":=⟨_,hz,rfl⟩;unfold pyNext;refine δ (wpAny_attempt (χ (name:=Str.ofString "__next__") hT F.slot_zip_next
  (ω F.slot_zip_next hT F.entry_zip_next (L0 hh D p1 p2 hz LW LX h1 h2 Rz λh' tk e hk he=>?_) (F.args_zip_next_1 _))))
 obtain⟨o,ho,hc⟩:=he;refine δ (aar (T:="StopIteration") (b:=true) ⟨o,ho,hc⟩ isSubtype_stop ?_);exact ζ (hQ _ _ hk)
end
def nU(i:Int):Prop:=i.natAbs<2 ^ 2000
def nU.of{i:Int}(h1 : -(10 ^ 200)<=i)(h2:i<=10 ^ 200):nU i:=by
 unfold nU;have e:(10:Nat) ^ 200<2 ^ 2000:=by decide
 have:i.natAbs<=10 ^ 200:=by
  have e2:((10 ^ 200:Nat):Int)=(10:Int) ^ 200:=by rw[Int.natCast_pow];rfl
  generalize (10:Nat) ^ 200=m at *;rw[<- e2] at h1 h2;omega
 exact P4 this e
def nU.bits{i:Int}(h:nU i):Builtin.Int.intBits i<=2000:=by
 unfold Builtin.Int.intBits;split;exact mE _;have:i.natAbs.log2<2000:=by
  rcases Nat.eq_zero_or_pos i.natAbs with h0|hp
  rw[h0];decide;exact (Nat.log2_lt (DA hp)).mpr h
 omega
def nU.log{i:Int}(h:nU i):i.natAbs.log2<9000:=by
 rcases Nat.eq_zero_or_pos i.natAbs with h0|hp
 rw[h0];decide;exact N' ((Nat.log2_lt (DA hp)).mpr h) (by decide)
def OE(i j:Int):Prop:=nU i/\nU j
def OF(i j:Int):Prop:=0<j/\nU j
def OG(i j:Int):Prop:=0<=j/\j<=1000/\nU i
section
def L1:gx X (binaryOp .Mult) (rI OE λi j=>.int (i * j)):=Qy λ_ _ _ _ _ _ _ hc q=>
 mul_int q (IntMulOk.of_bits (fM hc.1.bits (by decide)) (fM hc.2.bits (by decide)))
def G9:gx X (binaryOp .FloorDiv) (rI OF λi j=>.int (i / j)):=Qy λi j _ _ _ _ _ hc q=>by have h1:(0:Int)<j:=hc.1;exact floordiv_int (by omega) (by rw[Int.fdiv_eq_ediv_of_nonneg i (by omega)];exact q) (.inl (PyProof.noPylong_of_log2 hc.2.log))
def L3:gx X (binaryOp .Pow) (rI OG λi j=>.int (i ^ j.toNat)):=Qy λi j _ _ _ _ _ hc q=>pow_int hc.1 (by
 have h1:=hc.2.2.bits;have h2:=hc.2.1;have h0:=hc.1;have e:(2:Int) ^ 27=134217728:=by decide
 have:(Builtin.Int.intBits i:Int) * j<=2000 * 1000:=Int.mul_le_mul (by omega) h2 h0 (by decide);omega) q
end
def G_(x y:T)(q:Rt->Prop):Prop:=match x,y with
 |.int i,.int j=>(nU i/\nU j)/\q (.vw (.int (i * j)))
 |_,_=>False
def G':rT K (rI OE λi j=>.int (i * j)) G_:=by intro Z tm O ρ σ H x y v w q Q I h1 h2 h k;unfold G_ at h;split at h;exact⟨_,_,h1.int,h2.int,h.1,k _ h.2 _ H (aO.refl H) ⟨I,bz⟩⟩;exact h.elim
def Ha(x y:T)(q:Rt->Prop):Prop:=match x,y with
 |.int i,.int j=>(0<j/\nU j)/\q (.vw (.int (i / j)))
 |_,_=>False
def Hb:rT K (rI OF λi j=>.int (i / j)) Ha:=by intro Z tm O ρ σ H x y v w q Q I h1 h2 h k;unfold Ha at h;split at h;exact⟨_,_,h1.int,h2.int,h.1,k _ h.2 _ H (aO.refl H) ⟨I,bz⟩⟩;exact h.elim
def Hc(x y:T)(q:Rt->Prop):Prop:=match x,y with
 |.int i,.int j=>(0<=j/\j<=1000/\nU i)/\q (.vw (.int (i ^ j.toNat)))
 |_,_=>False
def He:rT K (rI OG λi j=>.int (i ^ j.toNat)) Hc:=by intro Z tm O ρ σ H x y v w q Q I h1 h2 h k;unfold Hc at h;split at h;exact⟨_,_,h1.int,h2.int,h.1,k _ h.2 _ H (aO.refl H) ⟨I,bz⟩⟩;exact h.elim
section
variable{Z:Zc}{a:Expr}{fa fb:FE}{pos:Pos}
def vn(ha:VR X Z a fa)(hb:VR X Z b fb):VP X Z (.BinOp a .Mult b pos) (f2 fa fb G_):=iJ L1 G' ha hb
def ql(ha:VR X Z a fa)(hb:VR X Z b fb):VP X Z (.BinOp a .FloorDiv b pos) (f2 fa fb Ha):=iJ G9 Hb ha hb
def lz(ha:VR X Z a fa)(hb:VR X Z b fb):VP X Z (.BinOp a .Pow b pos) (f2 fa fb Hc):=iJ L3 He ha hb
end
def jo(v:Value)(o:Obj)(c:Heap->Prop):Prop:=∀(prog:Program)(w:World)(A:Around)(E:qad)(s:Shared)(Q:qad),c s.heap ->
 Q (.ref s.heap.objs.size) {s with heap:=s.heap.push o}->wpAny (model prog w) A (pyIter v) Q E s
def x3(l:Addr)(items:Array Value):jo (.ref l) {cls:=.type "list_iterator",data:=.fields #[.ref l,.int 0 0]} (λh=>h.IsList l items):=λ_ _ _ _ _ _ h q=>wpAny_pyIter_list h q
def vo(l:Addr)(items:Array Value):jo (.ref l) {cls:=.type "tuple_iterator",data:=.fields #[.ref l,.int 0 0]} (λh=>h.IsTuple l items):=λ_ _ _ _ _ _ h q=>aan h q
def Ap(x:Str)(t:Tok):jo (.str x t) {cls:=.type (strIterType x),data:=.fields #[.str x t,.int 0 0]} (λ_=>True):=λ_ _ _ _ _ _ _ q=>wpAny_pyIter_strU q
noncomputable abbrev Y'(h:Heap)(o1 o2:Obj):Heap:=((h.push o1).push o2).push {cls:=.type "tuple",data:=.seq #[.ref h.objs.size,.ref (h.push o1).objs.size]}
noncomputable abbrev Za(h:Heap)(o1 o2:Obj):Heap:=(Y' h o1 o2).push {cls:=.type "tuple",data:=.seq #[.none,.none]}
noncomputable abbrev RB(h:Heap)(o1 o2:Obj):Heap:=(Za h o1 o2).push {cls:=.type "zip",data:=.fields #[.none,.bool false,.bool false,.ref ((h.push o1).push o2).objs.size,.ref (Y' h o1 o2).objs.size]}
def Aq{v1 v2:Value}{o1 o2:Obj}{c1 c2:Heap->Prop}(i1:jo v1 o1 c1)(i2:jo v2 o2 c2)(RC:∀h o,c2 h->c2 (h.push o)) :
  Meets (Builtin.«zip.__new__» ⟨[.type "zip",v1,v2],[]⟩) (λ_ R s=>c1 s.heap/\c2 s.heap /\
   R (.ok (.ret (.ref (Za s.heap o1 o2).objs.size))) {s with heap:=RB s.heap o1 o2}) :=
 .of_wp λprog w A R s h=>by
  obtain⟨hp,g,d,tk,os⟩:=s;obtain⟨hc1,Fy,h⟩:=h;have ac9:=sub_zip;have hC2:=RC _ o1 Fy;have I1:∀(A:Around)(E:qad)(Q:qad),Q (.ref hp.objs.size) ⟨hp.push o1,g,d,tk,os⟩->wpAny (model prog w) A (pyIter v1) Q E ⟨hp,g,d,tk,os⟩:=λA E Q q=>i1 prog w A E _ Q hc1 q;have I2:∀(A:Around)(E:qad)(Q:qad),Q (.ref (hp.push o1).objs.size) ⟨(hp.push o1).push o2,g,d,tk,os⟩->wpAny (model prog w) A (pyIter v2) Q E ⟨hp.push o1,g,d,tk,os⟩:=λA E Q q=>i2 prog w A E _ Q hC2 q
  wp_walk using I1,I2
  exact⟨_,rfl,h⟩
section
variable{s:Shared}
def D9{v1 v2:Value}{o1 o2:Obj}{c1 c2:Heap->Prop}(i1:jo v1 o1 c1)(i2:jo v2 o2 c2)(RC:∀h o,c2 h->c2 (h.push o))(h1:c1 s.heap)(h2:c2 s.heap)(hf1:o1.isFreed=false)(hf2:o2.isFreed=false)(h:∀h',IsZip h' (s.heap.objs.size+4) (s.heap.objs.size+2) (s.heap.objs.size+3) .none->IsPair h' (s.heap.objs.size+2) (.ref s.heap.objs.size) (.ref (s.heap.objs.size+1)) ->
    IsPair h' (s.heap.objs.size+3) .none .none->h'.get? s.heap.objs.size=some o1->h'.get? (s.heap.objs.size+1)=some o2->h'.objs.size=s.heap.objs.size+5 ->
    (∀c o,s.heap.get? c=some o->h'.get? c=some o)->Q (.ref (s.heap.objs.size+4)) {s with heap:=h'}) :
  wpAny (model prog w) A (call (.type "zip") [v1,v2]) Q E s:=by
 refine callType_new F.called_zip (by decide) (F.typeCall_zip_2 _ _) (F.newCall_zip_2 _ _) (λobj=>F.args_object_init_3 obj _ _) F.entry_zip_new
  (Aq i1 i2 RC) ⟨h1,h2,?_⟩
 have z1:(s.heap.push o1).objs.size=s.heap.objs.size+1:=F4 ..;have z2:((s.heap.push o1).push o2).objs.size=s.heap.objs.size+2:=by rw[F4,z1]
 have z3:(Y' s.heap o1 o2).objs.size=s.heap.objs.size+3:=by rw[F4,z2]
 have z4:(Za s.heap o1 o2).objs.size=s.heap.objs.size+4:=by rw[F4,z3]
 have z5:(RB s.heap o1 o2).objs.size=s.heap.objs.size+5:=by rw[F4,z4]
 have g5:(RB s.heap o1 o2).get? (Za s.heap o1 o2).objs.size=some _:=k4 _ rfl;have g4:(RB s.heap o1 o2).get? (Y' s.heap o1 o2).objs.size=some _:=fN _ (k4 _ rfl);have g3:(RB s.heap o1 o2).get? ((s.heap.push o1).push o2).objs.size=some _:=fN _ (fN _ (k4 _ rfl));have g2:(RB s.heap o1 o2).get? (s.heap.push o1).objs.size=some _:=fN _ (fN _ (fN _ (k4 _ hf2)));have g1:(RB s.heap o1 o2).get? s.heap.objs.size=some _:=fN _ (fN _ (fN _ (fN _ (k4 _ hf1))));show _/\_;rw[z2,z3,z4] at g5;rw[z1,z2] at g3;rw[z3] at g4;rw[z1] at g2;rw[z4];exact⟨⟨_,g5,rfl⟩,h _ g5 g3 g4 g1 g2 z5 λc o x=>
  fN _ (fN _ (fN _ (fN _ (fN _ x))))⟩
end
structure D_(P:Program)(w:World)(K:Δ)(i:Addr)(fp:ο)(sq:Hp->Ω->Prop)(it:Nat->Heap->Prop):Prop where
 part:∀(X:Cx)(γ:qaa)(σ:St)(H:Hp)(s:Shared),X.prog=P->X.w=w->X.K=K->Inv X γ σ H s->∀xs,sq H xs ->
  ∃(Pv:Nat->Value->Prop)(S:Nat->Heap->Prop),Part P w i fp xs.length Pv S/\(∀k v,Pv k v->∃x,xs[k]?=some x/\RelV x v)/\(∀k h,S k h->it k h)/\∀k,it k s.heap->S k s.heap
 keep:∀k h h',it k h->(∀o,h.get? i=some o->h'.get? i=some o)->it k h'
 obj:∀k h,it k h->∃o,h.get? i=some o/\∀v,o.data≠.cell v
 inj:∀(X:Cx)(γ:qaa)(σ:St)(H:Hp)(s:Shared),X.K=K->Inv X γ σ H s->∀xs ys,sq H xs->sq H ys->xs=ys
def src_list(i l:Addr)(fY:l≠i):D_ P w K i [i,l] (λH xs=>gw K H l xs) (λk h=>h.IsListIter i l k) where
 part:=λX γ σ H s hP hw hK I xs hq=>by
  subst hP hw hK;obtain⟨aP,rv,p,hz⟩:=I.list hq;have e:aP.toArray.size=xs.length:=by simp[rv.length]
  refine⟨_,_,e▸D8 i l fY aP.toArray,λk v hv=>?_,λk h st=>st.1,λk st=>⟨st,p.isList⟩⟩;have se:aP[k]?=some v:=by simpa using hv
  have hk:k<xs.length:=by rw[<- e];simp;exact (fQ.mp se).1
  obtain⟨u,hu,ru⟩:=rv.get (show xs[k]?=some xs[k] by simp);rw[se] at hu;cases hu;exact⟨_,by simp,ru⟩
 keep:=λk h h' st q=>st.at q
 obj:=λk h st=>let ⟨o,e,_,d⟩:=st;⟨o,e,λv z=>by rw[d] at z;cases z⟩
 inj:=λX γ σ H s hK I xs ys h1 h2=>by subst hK;exact I.pD h1 h2
def src_tuple(i l:Addr)(fY:l≠i):D_ P w K i [i,l] (λH xs=>dz K H l xs) (λk h=>h.IsTupleIter i l k) where
 part:=λX γ σ H s hP hw hK I xs hq=>by
  subst hP hw hK;obtain⟨aP,rv,p,hz⟩:=I.tuple hq;have e:aP.toArray.size=xs.length:=by simp[rv.length]
  refine⟨_,_,e▸Ao i l fY aP.toArray,λk v hv=>?_,λk h st=>st.1,λk st=>⟨st,p⟩⟩;have se:aP[k]?=some v:=by simpa using hv
  have hk:k<xs.length:=by rw[<- e];simp;exact (fQ.mp se).1
  obtain⟨u,hu,ru⟩:=rv.get (show xs[k]?=some xs[k] by simp);rw[se] at hu;cases hu;exact⟨_,by simp,ru⟩
 keep:=λk h h' st q=>let ⟨o,e,r⟩:=st;⟨o,q o e,r⟩
 obj:=λk h st=>let ⟨o,e,_,d⟩:=st;⟨o,e,λv z=>by rw[d] at z;cases z⟩
 inj:=λX γ σ H s hK I xs ys h1 h2=>by subst hK;exact I.mF h1 h2
noncomputable def Ar(x:Str):Ω:=x.cps.toList.map λc=>.str ⟨#[c]⟩
def L4(i:Addr)(x:Str)(t:Tok):D_ P w K i [i] (λ_ xs=>xs=Ar x) (λk h=>h.IsStrIter i (strIterType x) x t k) where
 part:=λX γ σ H s hP hw hK I xs hq=>by
  subst hP hw hK hq;have e:x.cps.size=(Ar x).length:=by unfold Ar;simp
  refine⟨_,_,e▸G6 i x t,λk v hv=>?_,λk h st=>st,λk st=>st⟩;obtain⟨c,u,h1,rfl⟩:=hv;exact⟨.str ⟨#[c]⟩,by unfold Ar;rw[hU];simp[h1],u,rfl⟩
 keep:=λk h h' st q=>let ⟨o,e,r⟩:=st;⟨o,q o e,r⟩
 obj:=λk h st=>let ⟨o,e,_,d⟩:=st;⟨o,e,λv z=>by rw[d] at z;cases z⟩
 inj:=λX γ σ H s hK I xs ys h1 h2=>by rw[h1,h2]
section
variable{s:Shared}
def L5{ch:ο}(I:Inv X γ σ H s)(k:∀b u,b∉ch->s.heap.get? b=some u->h'.get? b=some u)(hf:∀b∈ch,mJ X γ H b):Inv X γ σ H {s with heap:=h',toks:=t'}:=by
 have F9:∀b u,H b=some u->b∉ch:=λb u e z=>by rw[(hf b z).1] at e;cases e
 refine I.step (g':=s.gens) (d':=s.drawn) (ch:=ch) (λb hb=>?_) (λb u _ _ hc e _=>k b u hc e) (λb u _ _ hc e _=>⟨u.slots,k b u hc e⟩) (λb u _ e n=>n) (λb u hc e=>⟨u,k b u hc e⟩)
  (λb xs e=>e) (λb u v e=>e) (λb ps e=>⟨#[],?_⟩) (λm hm=>?_) (λb u e=>?_) I.bare
 obtain⟨_,f1,_,f3,f4,f5⟩:=hf b hb;exact⟨f3,f1,f4,f5⟩;rw[e];simp;obtain⟨ob,es,ep,ho,r⟩:=hm;exact⟨ob,es,ep,k _ ob (λz=>(hf _ z).2.1 rfl) ho,r⟩;refine (I.cj b u e).zL (λc v hc q=>k c v ?_ q) (λc q=>q) λc xs q=>q;obtain z|z:=hc
 rw[z];exact F9 b u e;exact F9 c _ z
end
noncomputable def Itz(As Au:Hp->Ω->Prop):It :=
 ⟨λi H=>∃xs ys,As H xs/\Au H ys/\i<xs.length/\i<ys.length,λi H v H'=>∃t x y,H t=none/\v=.ref t/\(∀xs,As H xs->xs[i]?=some x)/\(∀ys,Au H ys->ys[i]?=some y)/\H'=upd H t (.tup [x,y]),
  λi H=>∃xs ys,As H xs/\Au H ys/\(i=xs.length\/(i<xs.length/\i=ys.length))⟩
def Hg{x1}{z TI TO i1 i2:Addr}{qj oZ:ο}{As Au:Hp->Ω->Prop}{t1 t2:Nat->Heap->Prop}(D:Apart z TI TO i1 i2 qj oZ)(p1:D_ P w K i1 qj As t1)(p2:D_ P w K i2 oZ Au t2) :
  Turn P w K (.Tuple elts x1 tp) (Itz As Au) [z,TI,TO,i1,i2] z (λi h=>IsZip h z TI TO .none/\IsPair h TI (.ref i1) (.ref i2)/\(∃a b,IsPair h TO a b)/\t1 i h/\t2 i h) where
 mem:=by simp
 obj:=λi h st b hb=>by
  obtain⟨h1,h2,⟨a,c,h3⟩,h4,h5⟩:=st;simp only[cU,fK,ς] at hb;obtain rfl|rfl|rfl|rfl|rfl:=hb
  exact⟨_,h1,λv q=>by cases q⟩;exact⟨_,h2,λv q=>by cases q⟩;exact⟨_,h3,λv q=>by cases q⟩;exact p1.obj i h h4;exact p2.obj i h h5
 keep:=λi h h' st k=>by obtain⟨h1,h2,⟨a,c,h3⟩,h4,h5⟩:=st;exact⟨k z (by simp) _ h1,k TI (by simp) _ h2,⟨a,c,k TO (by simp) _ h3⟩,p1.keep i h h' h4 λo q=>k i1 (by simp) o q,p2.keep i h h' h5 λo q=>k i2 (by simp) o q⟩
 item:=by
  intro X hP hw hK hc i γ s σ H E I hf st hg;obtain⟨xs,ys,Zb,L6,l1,l2⟩:=hg;obtain⟨h1,h2,⟨a,c,h3⟩,h4,h5⟩:=st;obtain⟨P1,S1,q1,v1,b1,f1⟩:=p1.part X γ σ H s hP hw hK I xs Zb;obtain⟨P2,S2,q2,v2,b2,f2⟩:=p2.part X γ σ H s hP hw hK I ys L6;refine oI (I.ok.hd hc) D q1 q2 h1 h2 h3 (f1 i h4) (f2 i h5) l1 l2 λx y h₁ tk px py FC ada s1 s2 hp₁ hsz hk=>?_;obtain⟨x',ex,rx⟩:=v1 i x px;obtain⟨y',ey,ry⟩:=v2 i y py;refine⟨_,rfl,wpAny_letOwnedTupleGo_zip FC λh₂ Y_ pP=>?_⟩;have ll:Heap.SameBut z h₁ h₂:=pP;have h9:z<s.heap.objs.size:=gu h1;have Wd:s.heap.objs.size≠z:=DA h9;have kk:∀b ob,b∉[z,TI,TO,i1,i2]->s.heap.get? b=some ob->h₂.get? b=some ob:=λb ob hb q=>by simp only[cU,fK,ς,not_or] at hb;exact (ll.2 b hb.1).trans (hk b ob hb.1 hb.2.2.1 hb.2.2.2.1 hb.2.2.2.2 q)
  have new:cp X.prog X.w (upd H s.heap.objs.size (.tup [x',y'])) h₂ s.heap.objs.size (.tup [x',y']) :=
   ⟨by show 2<=sizeLine;rw[μ];decide,[x,y],.cons rx (.cons ry .nil),⟨_,(ll.2 _ Wd).trans hp₁,rfl,_,rfl⟩⟩
  refine⟨.ref s.heap.objs.size,upd H s.heap.objs.size (.tup [x',y']),I.grown (t':=tk) kk hf (cS _) new,rfl,⟨_,x',y',I.fresh,rfl,λzs hz=>by rw[p1.inj X γ σ H s hK I _ _ hz Zb];exact ex,λzs hz=>by rw[p2.inj X γ σ H s hK I _ _ hz L6];exact ey,rfl⟩,⟨Y_,?_,⟨x,y,?_⟩,?_,?_⟩,λb hb=>?_⟩;exact (ll.2 TI D.TIz).trans (hk TI _ D.TIz D.TITO D.TIi1 D.TIi2 h2);exact (ll.2 TO D.TOz).trans ada;exact p1.keep _ _ _ (b1 _ _ s1) λo q=>(ll.2 i1 D.i1z).trans q;exact p2.keep _ _ _ (b2 _ _ s2) λo q=>(ll.2 i2 D.i2z).trans q;have GB:b<s.heap.objs.size:=by
   simp only[cU,fK,ς] at hb;obtain rfl|rfl|rfl|rfl|rfl:=hb
   exact h9;exact gu h2;exact gu h3;obtain⟨o,e,_⟩:=p1.obj i _ h4;exact gu e;obtain⟨o,e,_⟩:=p2.obj i _ h5;exact gu e
  rw[aG (ki GB)];exact (hf b hb).1
 done:=by intro X hP hw hK hc i γ s σ H E I hf st hg;obtain⟨xs,ys,Zb,L6,he⟩:=hg;obtain⟨h1,h2,⟨a,c,h3⟩,h4,h5⟩:=st;obtain⟨P1,S1,q1,v1,b1,f1⟩:=p1.part X γ σ H s hP hw hK I xs Zb;obtain⟨P2,S2,q2,v2,b2,f2⟩:=p2.part X γ σ H s hP hw hK I ys L6;refine qk (I.ok.hd hc) D q1 q2 h1 h2 h3 (f1 i h4) (f2 i h5) he λh' tk hk=>⟨rfl,?_⟩;refine L5 (t':=tk) I (λb u hb q=>?_) hf;simp only[cU,fK,ς,not_or] at hb;exact hk b u hb.1 hb.2.2.1 hb.2.2.2.1 hb.2.2.2.2 q
 self:=λ_ _ _ _ _ st h=>by obtain⟨h1,_⟩:=st;exact wpAny_pyIter_zip h1 h
inductive ZK(K:Δ)(H:Hp):V->(Hp->Ω->Prop)->Prop where
 |lst {a:Addr} {xs:Ω}:gw K H a xs->ZK K H (.ref a) (λH xs=>gw K H a xs)
 |tup {a:Addr} {xs:Ω}:dz K H a xs->ZK K H (.ref a) (λH xs=>dz K H a xs)
 |str (z:Str):ZK K H (.str z) (λ_ xs=>xs=Ar z)
theorem OH{s:Shared}{x:V}{sq:Hp->Ω->Prop}(I:Inv X γ σ H s)(z:ZK X.K H x sq)(r:RelV x u) :
  ∃(o:Obj)(c:Heap->Prop)(fp:ο)(it:Addr->Nat->Heap->Prop),jo u o c/\c s.heap/\(∀h o,c h->c (h.push o))/\o.isFreed=false/\(∀b∈fp,b<s.heap.objs.size) /\
   ∀i,s.heap.objs.size<=i->D_ X.prog X.w X.K i (i::fp) sq (it i)/\∀h,h.get? i=some o->it i 0 h:=by
 cases z with
 |lst hq=>
   rename_i a xs
   cases r;obtain⟨aP,rv,p,hz⟩:=I.list hq;have hl:a<s.heap.objs.size:=by obtain⟨o,n,e,_⟩:=p;exact gu e
   refine⟨_,_,[a],λi k h=>h.IsListIter i a k,x3 a aP.toArray,p.isList,λh o q=>Heap.IsList.push q _,rfl,λb hb=>by rw[iD.mp hb];exact hl,λi hi=>⟨src_list i a (ki (rZ hl hi)),λh e=>⟨_,e,rfl,rfl⟩⟩⟩
 |tup hq=>
   rename_i a xs
   cases r;obtain⟨aP,rv,p,hz⟩:=I.tuple hq;have hl:a<s.heap.objs.size:=by obtain⟨o,e,_⟩:=p;exact gu e
   refine⟨_,_,[a],λi k h=>h.IsTupleIter i a k,vo a aP.toArray,p,λh o q=>(let ⟨o',e,r⟩:=q;⟨o',fN _ e,r⟩),rfl,λb hb=>by rw[iD.mp hb];exact hl,λi hi=>⟨src_tuple i a (ki (rZ hl hi)),λh e=>⟨_,e,rfl,rfl⟩⟩⟩
 |str z=>obtain⟨t,rfl⟩:=r;refine⟨_,_,[],λi k h=>h.IsStrIter i (strIterType z) z t k,Ap z t,trivial,λ_ _ _=>trivial,rfl,λb hb=>?_,λi hi=>⟨L4 i z t,λh e=>⟨_,e,rfl,rfl⟩⟩⟩;cases hb
def nn{a b:Nat}(h:a<b):a≠b:=ki h
def Hh{qj oZ:ο}(h1:∀b∈qj,b<n)(h2:∀b∈oZ,b<n):Apart (n+4) (n+2) (n+3) n (n+1) (n::qj) ((n+1)::oZ):=by
 have k1:∀b:Nat,n<b->b∉(n::qj):=λb hb m=>by
  rcases cU.mp m with q|q
  exact DA hb q;exact Fu _ (N' hb (h1 b q))
 have k2:∀b:Nat,n+1<b->b∉((n+1)::oZ):=λb hb m=>by
  rcases cU.mp m with q|q
  exact DA hb q;exact Fu _ (N' (N' (zJ n) hb) (h2 b q))
 have k3:n∉((n+1)::oZ):=λm=>by
  rcases cU.mp m with q|q
  exact ki (zJ n) q;exact Fu _ (h2 n q)
 exact⟨nn (by omega),nn (by omega),nn (by omega),nn (by omega),nn (by omega),(nn (by omega)).symm,(nn (by omega)).symm,(nn (by omega)).symm,(nn (by omega)).symm,nn (by omega),k1 _ (by omega),k2 _ (by omega),k1 _ (by omega),k2 _ (by omega),k1 _ (by omega),k3⟩
def L7{c:Nat}(h:c∈[n+4,n+2,n+3,n,n+1]):n<=c:=by simp only[cU,fK,ς] at h;omega
noncomputable def adb(K:Δ)(ta:TA):TI:=λσ H R=>ta σ H λvs H1=>∃x y As Au,vs=[x,y]/\ZK K H1 x As/\ZK K H1 y Au/\R (Itz As Au) H1
section
variable{Z:Zc}
def boot_zip:bootBuiltins "zip"=some (.type "zip"):=by decide +kernel
def RD{x1}{a:Expr}{ta:TA}{pos:Pos}(hg:Gl X "zip")(hm:X.mg "zip"=none)(ha:PA X [a,b] ta)(hs:starEach [a,b] X.env=[(false,eval a X.env),(false,eval b X.env)])(tE:starEach [b] X.env=[(false,eval b X.env)]) :
  PI X (.Tuple elts x1 tp) (.Call (.Name "zip" p) [a,b] [] pos) (adb X.K ta):=by
 intro γ s σ H R I h;refine Call_ (jh I hg hm boot_zip (T' (b_ (ha pos γ s σ H _ I h) λus s1 ⟨vs,H1,I1,r1,q1⟩=>?_) (by rw[hs,tE]) (by rw[tE];rfl)));obtain⟨x,y,As,Au,e,k1,k2,q⟩:=q1;subst e;obtain⟨u,w',rfl,ru,rw'⟩:=vals2 r1;obtain⟨o1,c1,qj,t1,i1,hc1,hp1,hf1,Ux,z1⟩:=OH I1 k1 ru;obtain⟨o2,c2,oZ,t2,i2,Fy,RC,hf2,KA,z2⟩:=OH I1 k2 rw';refine D9 i1 i2 RC hc1 Fy hf1 hf2 λh' hz LW LX g1 g2 hsz hk=>?_;have I2:Inv X γ σ H1 {s1 with heap:=h'}:=I1.kept (t':=s1.toks) hk;refine wpAny_pyIter_zip hz ?_;obtain⟨S1,a1⟩:=z1 s1.heap.objs.size (cS _);obtain⟨S2,a2⟩:=z2 (s1.heap.objs.size+1) (xi _);have D:Apart (s1.heap.objs.size+4) (s1.heap.objs.size+2) (s1.heap.objs.size+3) s1.heap.objs.size (s1.heap.objs.size+1) (s1.heap.objs.size::qj) ((s1.heap.objs.size+1)::oZ):=by exact Hh Ux KA
 refine⟨s1.heap.objs.size+4,_,_,_,H1,rfl,I2,Hg D S1 S2,⟨hz,LW,⟨_,_,LX⟩,a1 _ g1,a2 _ g2⟩,λc hc=>?_,q⟩;have hge:s1.heap.objs.size<=c:=L7 hc;exact I1.oy hge (I1.cj.fresh hge)
noncomputable def RE:T->Option (List T)
 |.lst ts=>some ts
 |.tup ts=>some ts
 |.str z=>some (z.cps.toList.map λc=>.str ⟨#[c]⟩)
 |_=>none
noncomputable def qm(xs ys:List T):List T:=List.zipWith (λa b=>.tup [a,b]) xs ys
noncomputable def ade(fa fb:FE):FI:=λρ Q=>fa ρ λx=>fb ρ λy=>match RE x,RE y with
 |some xs,some ys=>Q (qm xs ys)
 |_,_=>False
def OI{A:ο}{x:T}{xs:List T}(h:At K H A x v)(e:RE x=some xs):∃sq,ZK K H v sq/\∀H A,At K H A x v->∃vs,sq H vs/\az K H A xs vs:=by
 cases x with
 |lst ts=>cases e;simp only[At] at h;obtain⟨a,vs,rfl,l,q⟩:=h;refine⟨_,.lst l.sq,λH A h=>?_⟩;simp only[At] at h;obtain⟨a',fq,e,l',q'⟩:=h;cases e;exact⟨fq,l'.sq,q'⟩
 |tup ts=>cases e;simp only[At] at h;obtain⟨a,vs,rfl,l,q⟩:=h;refine⟨_,.tup l,λH A h=>?_⟩;simp only[At] at h;obtain⟨a',fq,e,l',q'⟩:=h;cases e;exact⟨fq,l',q'⟩
 |str z=>
  cases e;simp only[At] at h;subst h;refine⟨_,.str z,λH A h=>⟨Ar z,rfl,?_⟩⟩;unfold Ar;generalize z.cps.toList=l;induction l with
  |nil=>exact az.nil
  |cons c l ih=>exact az.cons cD ih
 |_=>cases e
theorem RF{x y:T}{w:V}{xs ys:List T}{As Au:Hp->Ω->Prop}(h1:∀H A,At K H A x v->∃vs,As H vs/\az K H A xs vs)(h2:∀H A,At K H A y w->∃vs,Au H vs/\az K H A ys vs) :
  Wk K (Itz As Au) [(x,v),(y,w)] (qm xs ys):=λH A hA h i=>by
 obtain⟨vs,q1,l1⟩:=h1 H A (h _ c6);obtain⟨ws,q2,l2⟩:=h2 H A (h _ (fJ _ c6));have e1:=l1.length;have e2:=l2.length;have el:(qm xs ys).length=min xs.length ys.length:=by unfold qm;rw[UY]
 rw[el];refine⟨λhi=>⟨vs,ws,q1,q2,by omega,by omega⟩,λhi=>⟨vs,ws,q1,q2,by omega⟩,λt ht x H' y=>?_⟩;obtain⟨p,a,b,hp,rfl,ha,hb,rfl⟩:=y;unfold qm at ht;rw[YI] at ht;cases ex:xs[i]? with
 |none=>rw[ex] at ht;cases ht
 |some tx=>
   cases ey:ys[i]? with
   |none=>rw[ex,ey] at ht;cases ht
   |some ty=>rw[ex,ey] at ht;cases ht;obtain⟨v1,g1,g2⟩:=l1.get ex;obtain⟨v2,g3,g4⟩:=l2.get ey;have z1:=ha vs q1;have z2:=hb ws q2;rw[g1] at z1;rw[g3] at z2;cases z1;cases z2;exact⟨aA hp,bU (dz.of aC) (az.cons (g2.same (aA hp)) (az.cons (g4.same (aA hp)) az.nil))⟩
def Hi{x1}{pos:Pos}{a:Expr}{fa fb:FE}(hg:Gl X "zip")(hm:X.mg "zip"=none)(ha:VE X Z a fa)(hb:VE X Z b fb)(hs:starEach [a,b] X.env=[(false,eval a X.env),(false,eval b X.env)]:=by rfl)(tE:starEach [b] X.env=[(false,eval b X.env)]:=by rfl) :
  VI X Z (.Tuple elts x1 tp) (.Call (.Name "zip" p) [a,b] [] pos) (ade fa fb):=.mk λtm=>
 PI.weak (RD hg hm (bf (ha tm) (bf (hb tm) cC tE) (by rw[hs,tE])) hs tE) λσ H R ⟨ρ,O,q,I,hf,k⟩=>⟨ρ,O,_,I,hf,λx hx v H1 s1 a1=>⟨ρ,O,_,I.same s1,hx,λy hy w H2 s2 a2=>by
  split at hy
  rename_i xs ys e1 e2
  obtain⟨As,k1,w1⟩:=OI (a1.same s2) e1;obtain⟨Au,k2,w2⟩:=OI a2 e2;exact⟨v,w,As,Au,rfl,k1,k2,k _ hy _ H2 _ (s1.trans s2) (λp hp=>by
   rcases cU.mp hp with e|hp
   rw[e];exact a1.same s2;rw[iD.mp hp];exact a2) (RF w1 w2)⟩
  exact hy.elim⟩⟩
end
end VT
variable{Z:VT.Zc}{ρ:VT.En}{fa fe fb:VT.FE}{g:VT.FA}{tm:List (VT.T×L2.V)}{fc:VT.FB}
abbrev qab:=List (VT.T×L2.V)
abbrev ξ:=List VT.T
abbrev qam:=VT.Rt->Prop
abbrev θ:=@VT.VP.vr
abbrev ψ:=@VT.VP.ve
abbrev qau:=@VT.VP.vx
namespace HE
open PySem PySem.W PySem.Calls PyProof.Rows
noncomputable def o4(tb:String->Option Builtin)(p:Program)(w:World)(n₀:Nat)(ann:Option Value):Nat->SharedT->Thread->Option SharedT
 |0,_,_=>none
 |n+1,s,t=>match through t with
  |true=>some s
  |false=>match stepOk n₀ ann t with
   |false=>none
   |true=>match stepT (denote tb) p w s t with
    |some (s',t')=>o4 tb p w n₀ ann n s' t'
    |none=>none
theorem tX{tb:String->Option Builtin}{p:Program}{w:World}{n₀:Nat}{ann:Option Value}:∀{n:Nat}{s s':SharedT}{t:Thread},o4 tb p w n₀ ann n s t=some s'->topRun tb p w n₀ ann n s.abs t=some s'.abs
 |0,_,_,_,h=>by cases h
 |n+1,s,s',t,h=>by
  unfold o4 at h;unfold topRun;cases ht:through t with
  |true=>rw[ht] at h;cases h;rfl
  |false=>
   rw[ht] at h;cases hk:stepOk n₀ ann t with
   |false=>rw[hk] at h;cases h
   |true=>
    rw[hk] at h;cases hs:stepT (denote tb) p w s t with
    |none=>rw[hs] at h;cases h
    |some r=>obtain⟨s₂,t₂⟩:=r;rw[hs] at h;rw[stepT_spec hs];exact tX h
noncomputable def mkT(l:List Obj):BT:=(l.foldl (λ(p:BT×Nat) o=>(p.1.ins p.2 o,p.2+1)) (.nil,0)).1
noncomputable def eU(P:Params):BT:=mkT (boot_heap P).objs.toList
noncomputable def st0(T:BT)(os:OsState):SharedT:=⟨T,11,{},Array.mk [],boot_drawn,boot_toks,os⟩
theorem boot_abs(P:Params):absHeap (eU P) 11 {}=boot_heap P:=by kernel_rfl
theorem D'(P:Params):((boot_heap P).isNs mainGlobals,(boot_heap P).objs.size,(boot_heap P).nsMap mainGlobals "__annotations__")=(true,11,some (.ref 6)):=by kernel_rfl
noncomputable def RG(p:Program)(T:BT)(w:World)(M:Nat)(os:OsState):Option SharedT:=o4 treeTable p w 11 (some (.ref 6)) M (st0 T os) (topStub p)
noncomputable def Kf(as:ο)(g:Addr->Option Obj):Frag:=as.filterMap λa=>(g a).map λo=>(a,o)
noncomputable def tg(T:BT)(n:Nat)(a:Addr):Option Obj:=match Nat.blt a n with
 |true=>alive ((T.get a).getD default)
 |false=>none
def WM(T:BT)(n:Nat)(life:Life)(a:Addr):(absHeap T n life).get? a=tg T n a:=by
 unfold tg;cases h:Nat.blt a n with
 |true=>
  have hn:a<n:=Nat.ble_eq.mp h;cases g:T.get a with
  |some o=>rw[abs_get hn g];rfl
  |none=>have e:=absHeap_at T n life a;rw[ε hn,g] at e;unfold Heap.get?;rw[e];rfl
 |false=>
  have hn:¬ a<n:=λz=>by have:Nat.blt a n=true:=Nat.ble_eq.mpr z;rw[h] at this;cases this
  exact abs_get_none hn
noncomputable abbrev L8(q:Program)(lv:List (Str×WData))(R:WRecords)(s:Shared):Bool:=xlAt q lv s && recOk R s
noncomputable def lookA(p q:Program)(loose:π)(lv:List (Str×WData))(R:WRecords)(T:BT)(H0:Heap)(w:World)(M:Nat)(os:OsState) :=
 (RG p T w M os).map λs=>((staticsOk (importedModules p.main.body) H0 s.abs.heap && namesBound p s.abs.heap && gensDone s.abs && laidKept H0 s.abs.heap),
  (openSeen q loose (importedModules p.main.body) (L8 q lv R) true s.abs).1,(openSeen q loose (importedModules p.main.body) (L8 q lv R) true s.abs).2.1)
noncomputable def lookB(p q:Program)(loose:π)(lv:List (Str×WData))(R:WRecords)(T:BT)(w:World)(M:Nat)(os:OsState) :=
 (RG p T w M os).map λs=>(openSeen q loose (importedModules p.main.body) (L8 q lv R) true s.abs).2.2
noncomputable def lookC{β:Type}(p:Program)(as:ο)(F:Frag->β)(T:BT)(w:World)(M:Nat)(os:OsState) :=
 (RG p T w M os).map λs=>F (Kf as (tg s.tree s.n))
noncomputable def vq(p:Program)(N:Nat)(w:World)(a:Addr):Option Obj:=(openEnds treeTable p w N).bind (·.heap.get? a)
def head{p q:Program}{loose:π}{lv:List (Str×WData)}{R:WRecords}{as:ο}{N M:Nat}{F:Frag->β}{v:World->β}(e:opening p=plainProg p.main.scope.names)(hN:Nat.ble 600 N=true)(f:∀s,fenceModules? p s=some s)(le:Nat.ble M N=true)(ra:∀(w:World) (os:OsState),lookA p q loose lv R (eU w.params) (boot_heap w.params) w M os=some (true,(openGood q loose).1,(openGood q loose).2.1))(rb:∀(w:World) (os:OsState),lookB p q loose lv R (eU w.params) w M os=some (openGood q loose).2.2)(rc:∀(w:World) (os:OsState),lookC p as F (eU w.params) w M os=some (v w)) :
  LeftO p q loose (L8 q lv R) (λs=>as.map s.heap.get?) (λw=>as.map (vq p N w)) N/\∀w,F (Kf as (vq p N w))=v w:=by
 have key:∀w,∃s,openEnds treeTable p w N=some s/\openSeen q loose (importedModules p.main.body) (L8 q lv R) true s=openGood q loose/\F (Kf as s.heap.get?)=v w:=λw=>by
  obtain⟨⟨h,gs,d,k,os⟩,e1,e2⟩:=UU.mp (boot_open e hN f w);obtain⟨rfl,rfl,rfl,rfl⟩:h=boot_heap w.params/\gs=Array.mk []/\d=boot_drawn/\k=boot_toks:=by simpa using e2
  obtain⟨s,r1,r2⟩:=UU.mp (ra w os);obtain⟨s',r1',rb'⟩:=UU.mp (rb w os);obtain⟨Vy,adf,rc'⟩:=UU.mp (rc w os);obtain rfl:s=s':=Option.some.inj (r1.symm.trans r1');obtain rfl:s=Vy:=Option.some.inj (r1.symm.trans adf);have r3:=Ψ (λx=>x.1) r2;have r4:openSeen q loose (importedModules p.main.body) (L8 q lv R) true s.abs=openGood q loose:=Prod.ext (Ψ (λx=>x.2.1) r2) (Prod.ext (Ψ (λx=>x.2.2) r2) rb');have r5:F (Kf as s.abs.heap.get?)=v w:=by rw[show s.abs.heap.get?=tg s.tree s.n from funext λa=>WM _ _ _ a];exact rc'
  have t1:=tX r1;have ea:(st0 (eU w.params) os).abs=⟨boot_heap w.params,Array.mk [],boot_drawn,boot_toks,os⟩:=by show (⟨absHeap (eU w.params) 11 {},_,_,_,_⟩:Shared)=_;rw[boot_abs];rfl
  rw[ea] at t1;have t2:=topRun_mono (N-M) _ _ _ _ t1;rw[show M+(N-M)=N by have:=Nat.le_of_ble_eq_true le;omega] at t2;have z:=D' w.params;have z1:=Ψ (λx=>x.1) z;have z2:=Ψ (λx=>x.2.1) z;have z3:=Ψ (λx=>x.2.2) z;refine⟨s.abs,?_,r4,r5⟩;unfold openEnds;rw[e1];show topFrom treeTable p w N _=_;unfold topFrom;dsimp only at z1 z2 z3 ⊢;rw[z1,z2,z3,t2];show (match staticsOk (importedModules p.main.body) (boot_heap w.params) s.abs.heap && namesBound p s.abs.heap && gensDone s.abs && laidKept (boot_heap w.params) s.abs.heap with|true=>_|false=>_)=_;have r3':(staticsOk (importedModules p.main.body) (boot_heap w.params) s.abs.heap && namesBound p s.abs.heap && gensDone s.abs && laidKept (boot_heap w.params) s.abs.heap)=true:=r3;rw[r3']
 refine⟨λw=>?_,λw=>?_⟩;obtain⟨s,a,b,c⟩:=key w;rw[a];have:vq p N w=s.heap.get?:=by funext x;unfold vq;rw[a];rfl
 show some (openSeen q loose (importedModules p.main.body) (L8 q lv R) true s,as.map s.heap.get?)=some (openGood q loose,as.map (vq p N w));rw[b,this];obtain⟨s,a,b,c⟩:=key w;have:vq p N w=s.heap.get?:=by funext x;unfold vq;rw[a];rfl
 rw[this];exact c
def kf_in{as:ο}{g:Addr->Option Obj}(e:as.map h.get?=as.map g):(Kf as g).In h:=by
 have key:∀{as:ο},as.map h.get?=as.map g->∀a o,(Kf as g).lookup a=some o->h.get? a=some o:=by
  intro as;induction as with
  |nil=>intro _ a o z;cases z
  |cons x as ih=>
   intro e a o z;rw[fU,fU] at e;injection e with e1 e2
   unfold Kf at z;rw[j5] at z;cases hg:g x with
   |none=>rw[hg] at z;exact ih e2 a o z
   |some o'=>
    rw[hg] at z;simp only[U2,Kg] at z;split at z
    rename_i q
    have:a=x:=by simpa using q
    subst this;cases z;rw[e1,hg];exact ih e2 a o z
 exact λa o z=>key e a o z
def Hj{q:Program}{loose:π}{XP:(qae)->Heap->Prop}{as:ο}{g:World->Addr->Option Obj}{r:RowW}{d:DefRec}{kwd:List (Str×Expr)}{run:Value->qag->Sem Value}(h:WalkO q loose XP (λw h=>(Kf as (g w)).In h) r d kwd run):WalkX q loose XP (λs=>as.map s.heap.get?) (λw=>as.map (g w)) r d kwd run :=
 λw s₀ s₁ mg mb G y a o pm cd doc dV kV h1 h2 h3 h4 h5 h6 args vals gA L DW V6 hrd V4 hlo=>h w s₀ s₁ mg mb G (λb o' z=>Laid.keeps L _ _ (kf_in y b o' z)) a o pm cd doc dV kV h1 h2 h3 h4 h5 h6 args vals gA DW V6 hrd V4 hlo
noncomputable def WN:Stmt->DefRec
 |.FunctionDef n ps b _ _ _ sc _ _ p=>⟨n,ps,b,sc,p⟩
 |_=>⟨Str.empty,default,[],default,default⟩
end HE
variable{GL:ξ->(VT.T->Prop)->Prop}
lay_quick HE.lookA HE.lookB HE.lookC
namespace VT
open PySem PySem.Spec PyProof.Rows L2
def OJ{k:Nat}{f1:Addr}(C:bW P w K mg base x ps k sp)(e:mg x=some (.ref f1)):W.keepIn K (.ref f1)=true/\∃fd ps,Binds K fd ps []/\cq P w K mg base eD k f1 fd ps sp:=by obtain⟨f,fd,h1,h2,h3,F⟩:=C;cases h1.symm.trans e;exact⟨h2,fd,ps,h3,F⟩
section
variable{k k':Nat}{pos:Pos}{G:ξ->(qam)->Prop}
def aM(C:bW X.prog X.w X.K X.mg X.base x ps k (di X.K n G))(hr:bF k' X.A)(ha:VA X Z (e::es) g)(hg:Gl X x:=by rfl)(hk:k<=k':=by decide)(kj:gq x:=by decide)(he:starEach (e::es) X.env=(false,eval e X.env)::starEach es X.env:=by rfl)(fO:(backTo pos (starEach es X.env)).any (·.1)=false:=by rfl) :
  VP X Z (.Call (.Name x p) (e::es) [] pos) (Al n g G):=by
 obtain⟨f,fd,h1,h2,h3,F⟩:=C;exact Cb F (hr.mono hk) hg h1 h2 h3 ha kj he fO
end
end VT
namespace L2
open PySem PySem.Spec PyProof.Rows
section
variable{a:Expr}{tb:TE}{pos:Pos}
variable{tA U_:TT}{rest:qap}
end
section
variable{CX:Fw}{k:Nat}{ks:π}{E:XK}{m:Str}{pos acD:Pos}{kws:List Keyword}{t tk:TA}{nm:Option Str}
variable{g:qag->qag->qag}{gV:Ω->Ω->Ω}
end
section
variable[DecidableEq κ]
noncomputable def jc(a8:List (κ×V))(k:κ):Option V:=(a8.find? λkv=>decide (kv.1=k)).map (·.2)
noncomputable def putK(a8:List (κ×V))(k:κ)(v:V):List (κ×V) :=
 if (a8.any λkv=>decide (kv.1=k))=true then a8.map (λkv=>if kv.1=k then (kv.1,v) else kv) else a8++[(k,v)]
def jq{p:κ×V}{r:List (κ×V)}{k:κ}(e:p.1=k):jc (p::r) k=some p.2:=by simp[jc,Ki,e]
def jr{p:κ×V}{r:List (κ×V)}{k:κ}(e:¬ p.1=k):jc (p::r) k=jc r k:=by simp[jc,Ki,e]
theorem qo(k:κ):∀a8:List (κ×V),(a8.any λkv=>decide (kv.1=k))=(jc a8 k).isSome
 |[]=>rfl
 |p::r=>by rw[Kk];by_cases e:p.1=k;simp only[jq e,ν e,Bool.true_or,Option.isSome_some];rw[jr e,ι e,Bool.false_or];exact qo k r
def jt(a8:List (κ×V))(k:κ)(v:V):(putK a8 k v).length<=a8.length+1:=by unfold putK;split;rw[cJ];omega;rw[jf,BF,List.length_nil];omega
def Hk{a8:List (κ×V)}{k:κ}(v:V)(h:jc a8 k=none):putK a8 k v=a8++[(k,v)]:=by unfold putK;rw[qo,h];exact η (by decide)
def j1.Ea{o:Option V}{u:Option Value}(r:j1 o u):o.isSome=u.isSome:=by
 cases o with
 |none=>cases u with
  |none=>rfl
  |some _=>exact (show False from r).elim
 |some _=>cases u with
  |none=>exact (show False from r).elim
  |some _=>rfl
def j1.getD{o:Option V}{u:Option Value}{d:V}{d':Value}(r:j1 o u)(rd:RelV d d'):RelV (o.getD d) (u.getD d'):=by
 cases o with
 |none=>cases u with
  |none=>exact rd
  |some _=>exact (show False from r).elim
 |some _=>cases u with
  |none=>exact (show False from r).elim
  |some _=>exact r
def KV.val{a8:List (κ×V)}{vs:List (κ×Value)}(r:KV a8 vs)(k:κ):j1 (jc a8 k) (valueAt vs k):=by
 unfold KV at r;induction r with
 |nil=>exact True.intro
 |@cons p q ps qs h t ih=>
  obtain⟨h1,h2⟩:=h;by_cases e:p.1=k;have e':q.1=k:=h1.symm.trans e;have b:valueAt (q::qs) k=some q.2:=by simp[valueAt,Ki,e']
  rw[jq e,b];exact h2;have e':¬ q.1=k:=λz=>e (h1.trans z);have b:valueAt (q::qs) k=valueAt qs k:=by simp[valueAt,Ki,e']
  rw[jr e,b];exact ih
def KV.any{a8:List (κ×V)}{vs:List (κ×Value)}(r:KV a8 vs)(k:κ):(a8.any λkv=>decide (kv.1=k))=vs.any λkv=>decide (kv.1=k):=by
 unfold KV at r;induction r with
 |nil=>rfl
 |cons h t ih=>rw[Kk,Kk,ih,h.1]
theorem KV.RH{a8:List (κ×V)}{vs:List (κ×Value)}(r:KV a8 vs)(k:κ){y:V}(ry:RelV y u) :
  KV (a8.map λkv=>if kv.1=k then (kv.1,y) else kv) (vs.map λkv=>if kv.1=k then (kv.1,u) else kv):=by
 unfold KV at r ⊢;induction r with
 |nil=>exact .nil
 |@cons p q ps qs h t ih=>rw[fU,fU];refine .cons ?_ ih;obtain⟨h1,h2⟩:=h;by_cases e:p.1=k;rw[ε e,ε (h1.symm.trans e)];exact⟨h1,ry⟩;rw[η e,η (λz=>e (h1.trans z))];exact⟨h1,h2⟩
def KV.put{a8:List (κ×V)}{vs:List (κ×Value)}(r:KV a8 vs)(k:κ){y:V}(ry:RelV y u):KV (putK a8 k y) (stored vs k u):=by unfold putK stored;rw[r.any k];by_cases e:(vs.any λkv=>decide (kv.1=k))=true;rw[ε e,ε e];exact r.RH k ry;rw[η e,η e];exact Paired.snoc r ⟨rfl,ry⟩
def KV.length{a8:List (κ×V)}{vs:List (κ×Value)}(r:KV a8 vs):a8.length=vs.length:=Qb r
end
def nV{k:Key}(r:RelV (kV k) u):(aK P w).is k u=true:=by
 cases k with
 |inl i=>obtain⟨t,e⟩:=(show ∃t,u=Value.int i t from r);subst e;exact xj P w i t
 |inr x=>obtain⟨t,e⟩:=(show ∃t,u=Value.str x t from r);subst e;exact xk P w x t
theorem m_{P:Program}{w:World}:∀{ks:List Key}{us:qag},Vals (ks.map kV) us->ItemsAre (aK P w) ks us
 |[],_,r=>by rw[Km] at r;cases r;exact .nil
 |k::ks,_,r=>by
  rw[fU] at r;cases r with
  |cons h t=>exact .cons (nV h) (m_ t)
abbrev KT(H:Hp):List (List Key×V)->List (List Key×Addr×Value)->Prop:=Paired λp q=>p.1=q.1/\H q.2.1=some (.tup (p.1.map kV))/\RelV p.2 q.2.2
def KT.val{xs:List (List Key×Addr×Value)}(r:KT H a8 xs)(k:List Key):j1 (jc a8 k) ((atKey xs k).map (·.2)):=by
 induction r with
 |nil=>exact True.intro
 |@cons p q ps qs h t ih=>
  obtain⟨h1,_,h2⟩:=h;by_cases e:p.1=k;have e':q.1=k:=h1.symm.trans e;have b:atKey (q::qs) k=some q.2:=by simp[atKey,Ki,e']
  rw[jq e,b];exact h2;have e':¬ q.1=k:=λz=>e (h1.trans z);have b:atKey (q::qs) k=atKey qs k:=by simp[atKey,Ki,e']
  rw[jr e,b];exact ih
theorem KT.RH{xs:List (List Key×Addr×Value)}(r:KT H a8 xs)(k:List Key){y:V}(ry:RelV y u) :
  KT H (a8.map λkv=>if kv.1=k then (kv.1,y) else kv) (xs.map (putAt k u)):=by
 induction r with
 |nil=>exact .nil
 |@cons p q ps qs h t ih=>rw[fU,fU];refine .cons ?_ ih;obtain⟨h1,h2,h3⟩:=h;unfold putAt;by_cases e:p.1=k;rw[ε e,ε (h1.symm.trans e)];exact⟨h1,h2,ry⟩;rw[η e,η (λz=>e (h1.trans z))];exact⟨h1,h2,h3⟩
def KT.put{xs:List (List Key×Addr×Value)}(r:KT H a8 xs)(k:List Key){b:Addr}{y:V}(hb:H b=some (.tup (k.map kV)))(ry:RelV y u) :
  KT H (putK a8 k y) (storedH xs k b u):=by
 have e:(a8.any λkv=>decide (kv.1=k))=(atKey xs k).isSome:=by rw[qo,(r.val k).Ea,Option.isSome_map]
 unfold putK storedH;rw[e];by_cases q:(atKey xs k).isSome=true;rw[ε q,ε q];exact r.RH k ry;rw[η q,η q];exact Paired.snoc r ⟨rfl,hb,ry⟩
def KT.keeps{xs:List (List Key×Addr×Value)}(r:KT H a8 xs)(ht:∀b ys,H b=some (.tup ys)->H' b=some (.tup ys)):KT H' a8 xs :=
 Paired.k5 r λ_ _ z=>⟨z.1,ht _ _ z.2.1,z.2.2⟩
section
def OK{u:HO}(ok:kZ P w H h)(e:Rd H a u):cp P w H h a u:=e.ok ok
def tY{a8:List (Key×V)}(ok:kZ P w H h)(e:Rd H a (.dK a8)):a8.length<=sizeLine/\(a==sysModules)=false/\∃vs,KV a8 vs/\h.DictOf (aK P w) a vs :=
 show cp P w H h a (.dK a8) from OK ok e
def Cn{a8:List (Key×V)}(ok:kZ P w H h)(e:H a=some (.dK a8)):a8.length<=sizeLine/\(a==sysModules)=false/\∃vs,KV a8 vs/\h.DictOf (aK P w) a vs:=tY ok (.inl e)
def vt(ok:kZ P w H h)(e:H a=some (.tup (ks.map kV))):(tupleKind (aK P w)).is h ks a:=by obtain⟨_,aP,r,o,h1,h2,n,h3⟩:=(show cp P w H h a (.tup (ks.map kV)) from ok a _ e);exact⟨o,aP.toArray,n,h1,h2,h3,by simpa using m_ r⟩
def tZ(ok:kZ P w H h)(e:Rd H a (.dT a8)):a8.length<=sizeLine/\(a==sysModules)=false /\
  ∃xs,KT H a8 xs/\h.DictOfH (tupleKind (aK P w)) a xs:=by
 obtain⟨z,y,xs,r,o,es,ep,h1,h2,h3,h4,h5⟩:=(show cp P w H h a (.dT a8) from OK ok e);refine⟨z,y,xs,r,o,es,ep,h1,h2,h3,h4,λx hx=>?_,h5⟩;have all:∀{l:List (List Key×V)}{m:List (List Key×Addr×Value)},KT H l m->∀x∈m,(tupleKind (aK P w)).is h x.1 x.2.1:=by
  intro l m q;induction q with
  |nil=>intro x hx;exact nomatch hx
  |@cons p q ps qs hq t ih=>
    intro x hx;rcases cU.mp hx with e|hx
    subst e;exact vt ok (by rw[<- hq.1];exact hq.2.1);exact ih x hx
 exact all r x hx
def WO(ok:kZ P w H h)(e:H a=some (.dT a8)):a8.length<=sizeLine/\(a==sysModules)=false /\
 ∃xs,KT H a8 xs/\h.DictOfH (tupleKind (aK P w)) a xs:=tZ ok (.inl e)
end
def sF(H:Hp)(a:Addr)(y:V)(r:Option V):Prop :=
 (∃a8 k,Rd H a (.dK a8)/\y=kV k/\r=jc a8 k)\/∃a8 k b,Rd H a (.dT a8)/\y=.ref b/\H b=some (.tup (k.map kV))/\r=jc a8 k
def sG(H:Hp)(a:Addr)(y v:V)(H':Hp):Prop :=
 (∃a8 k,H a=some (.dK a8)/\y=kV k/\a8.length<sizeLine/\H'=upd H a (.dK (putK a8 k v))) \/
 ∃a8 k b,H a=some (.dT a8)/\y=.ref b/\H b=some (.tup (k.map kV))/\a8.length<sizeLine/\H'=upd H a (.dT (putK a8 k v))
theorem sF.k{a8:List (Key×V)}{k:Key}(e:H a=some (.dK a8)):sF H a (kV k) (jc a8 k):=.inl ⟨a8,k,.inl e,rfl,rfl⟩
theorem sG.k{a8:List (Key×V)}{k:Key}(e:H a=some (.dK a8))(hl:a8.length<sizeLine):sG H a (kV k) v (upd H a (.dK (putK a8 k v))):=.inl ⟨a8,k,e,rfl,hl,rfl⟩
def sG.t{b:Addr}{k:List Key}(e:H a=some (.dT a8))(eb:H b=some (.tup (k.map kV)))(hl:a8.length<sizeLine) :
 sG H a (.ref b) v (upd H a (.dT (putK a8 k v))):=.inr ⟨a8,k,b,e,rfl,eb,hl,rfl⟩
section
variable{s:Shared}{y:V}{r:Value}{o:Option V}
def Inv.big(I:Inv X γ σ H s):sysModules<s.heap.objs.size:=by have h:mainGlobals<s.heap.objs.size:=(I.mod.glob.keeps I.bk).lt;exact N' (by decide) h
def Eb(hu:A.units+1<cLine)(I:Inv X γ σ H s)(g:sF H a y (some v))(ry:RelV y u)(h:∀w' s',Inv X γ σ H s'->RelV v w'->Q w' s') :
  wpAny (model X.prog X.w) A (getItem (.ref a) u) Q E s:=by
 obtain⟨a8,k,e,ey,l⟩|⟨a8,k,b,e,ey,eb,l⟩:=g
 subst ey;obtain⟨z,hd,vs,rel,dd⟩:=tY I.cj e;obtain⟨w',hw,rw'⟩:=j1.some_of (v:=v) (o:=valueAt vs k) (by rw[l];exact rel.val k);exact wpAny_getItem_of (nV ry) dd.mapOf hw (h w' _ (I.tok _) rw');subst ey;cases (show u=Value.ref b from ry);obtain⟨z,hd,xs,rel,dd⟩:=tZ I.cj e;obtain⟨w',hw,rw'⟩:=j1.some_of (v:=v) (o:=(atKey xs k).map (·.2)) (by rw[l];exact rel.val k);obtain⟨p,hp,RC⟩:=UU.mp hw;refine wpAny_getItem_heap (aay hu) (vt I.cj eb) dd hp ?_;rw[RC];exact h w' _ (I.tok _) rw'
def o5{ob:HO}(I:Inv X γ σ H s)(mu:U5 (H a))(hs:Heap.SameBut a s.heap h')(he:∃q,h'.get? a=some q)(new:cp X.prog X.w (upd H a ob) h' a ob) :
  Inv X γ σ (upd H a ob) {s with heap:=h',toks:=t'} :=
 I.write (x:=a) (e:=a) mu (.inl rfl) (λb q hb z=>(hs.2 b hb).trans z) he new
def Hl{a8:List (Key×V)}{vs:List (Key×Value)}(z:a8.length<=sizeLine)(hd:(a==sysModules)=false)(rel:KV a8 vs)(dd:h'.DictOf (aK P w) a vs) :
 cp P w H' h' a (.dK a8):=⟨z,hd,vs,rel,dd⟩
def Ec{Q:Unit->Shared->Prop}(hu:A.units+1<cLine)(I:Inv X γ σ H s)(g:sG H a y v H')(ry:RelV y u)(rv:RelV v r)(h:∀s',Inv X γ σ H' s'->Q () s') :
  wpAny (model X.prog X.w) A (setItem (.ref a) u r) Q E s:=by
 obtain⟨a8,k,e,ey,l,eH⟩|⟨a8,k,b,e,ey,eb,l,eH⟩:=g
 subst ey eH;obtain⟨z,hd,vs,rel,dd⟩:=Cn I.cj e;have hz:vs.length<=sizeLine:=by rw[<- rel.length];exact z
 have hl:(putK a8 k v).length<=sizeLine:=by have:=jt a8 k v;omega
 refine wpAny_setItem_pairs (hsz:=hz) (nV ry) dd λh' Ed hs=>h _ ?_;have he:∃q,h'.get? a=some q:=let ⟨q,_,_,hq,_⟩:=Ed;⟨q,hq⟩;exact o5 I (by rw[e];exact True.intro) hs he (Hl hl hd (rel.put k rv) Ed);subst ey eH;cases (show u=Value.ref b from ry);obtain⟨z,hd,xs,rel,dd⟩:=WO I.cj e;have hz:xs.length<=sizeLine:=by rw[<- Qb rel];exact z
 have hl:(putK a8 k v).length<=sizeLine:=by have:=jt a8 k v;omega
 refine wpAny_setItem_heap (hsz:=hz) (aay hu) (vt I.cj eb) dd λh' Ed hs=>h _ ?_;obtain⟨q,es,ep,hq,h2,h3,h4,_,h5⟩:=Ed;refine o5 I (by rw[e];exact True.intro) hs ⟨q,hq⟩ ⟨hl,hd,_,(rel.put k eb rv).keeps λc ys ec=>?_,q,es,ep,hq,h2,h3,h4,h5⟩;rw[aG (F6 ec e (λz=>nomatch z))];exact ec
end
section
variable{s:Shared}{a8:List (Key×V)}{k:Key}
def WQ(I:Inv X γ σ H s)(e:Rd H a (.dK a8))(h:∀t s',Inv X γ σ H s'->Q (.int a8.length t) s'):wpAny (model X.prog X.w) A (call (.builtin "len") [.ref a]) Q E s:=by obtain⟨z,hd,vs,rel,dd⟩:=tY I.cj e;refine call_len_dict hd dd (by rw[<- rel.length];rw[μ] at z;omega) ?_;rw[<- rel.length];exact h _ _ (I.tok _)
end
def L9(i:Expr):Prop:=∀ov iv,subscripted i false ov iv=operate [ov,iv] (getItem ov iv)
def Co{s:Shared}{env:Env}{value slice:Expr}{pos:Pos}{T id:String}(hl:typeLookup (.type T) "__getitem__"=pure (some (.builtin id)))(hs:L9 slice)(h:wpAny (model prog w) A (eval value env) (λo s₁=>wpAny (model prog w) A (eval slice env) (λi s₂=>s₂.TypeIs o T/\wpAny (model prog w) A (getItem o i) Q E s₂) E s₁) E s) :
  wpAny (model prog w) A (eval (.Subscript value slice pos) env) Q E s:=by
 refine Subscript_ (Λ h (λo s₁ h₁=>Λ h₁ (λi s₂ h₂=>?_) λ_ _ x=>x) λ_ _ x=>x);obtain⟨hT,h₂⟩:=h₂;unfold subscriptTail;refine δ ?_;rw[getitemInPython_of_ne hT.not_modules];refine δ (aac hT hl ?_);have fin:wpAny (model prog w) A (subscripted slice false o i) (λr s₃=>wpAny (model prog w) A (letTemporaryGo value o r >>= λ_=>pure r) Q E s₃) E s₂:=by rw[hs o i];exact wpAny_operating (Λ h₂ (λr s₃ h₃=>δ (wpAny_letTemporaryGo (ζ h₃))) λ_ _ x=>x)
 first
  |exact ζ (δ fin)
  |exact δ (ζ (δ fin))
  |exact δ fin
def x4{s:Shared}{y:V}{o:Option V}(I:Inv X γ σ H s)(g:sF H a y o):s.TypeIs (.ref a) "dict":=by
 obtain⟨a8,k,e,_,_⟩|⟨a8,k,b,e,_,_,_⟩:=g
 obtain⟨_,_,vs,_,dd⟩:=tY I.cj e;exact dd.typeIs;obtain⟨_,_,xs,_,dd⟩:=tZ I.cj e;exact dd.typeIs
def WR(td ty:TE):TE:=λσ H Q=>td σ H λx H1=>ty σ H1 λy H2=>∃a v,x=.ref a/\sF H2 a y (some v)/\Q v H2
def WS(td ty tv:TE):TS:=λD σ H=>tv σ H λv H1=>td σ H1 λx H2=>ty σ H2 λy H3=>∃a H4,x=.ref a/\sG H3 a y v H4/\D.nx σ H4
section
variable{i value:Expr}{pos pos':Pos}{td ty tv:TE}
def L_(hu:X.A.units+1<cLine)(ho:PE X o td)(hi:PE X i ty)(hs:L9 i):PE X (.Subscript o i pos) (WR td ty):=by intro γ s σ H Q I h;refine Co PySem.F.slot_dict_getitem.lookup hs (b_ (ho γ s σ H _ I h) λu s1 ⟨x,H1,I1,rx,q1⟩=>b_ (hi γ s1 σ H1 _ I1 q1) λiv s2 ⟨y,H2,I2,ry,a,v,ex,g,q2⟩=>?_);subst ex;obtain rfl:u=Value.ref a:=rx;exact⟨x4 I2 g,Eb hu I2 g ry λw' s3 I3 rw'=>⟨v,H2,I3,rw',q2⟩⟩
def o6(hu:X.A.units+1<cLine)(ho:PE X o td)(hi:PE X i ty)(hv:PE X value tv)(hs:swapsWith value (some (.Subscript o i pos')) pos.line X.env=pure false) :
  PS X (.Assign [.Subscript o i pos'] value pos) (WS td ty tv):=by
 intro γ s σ H D I h;refine wpAny_Assign_Subscript (b_ (hv γ s σ H _ I h) λr s1 ⟨v,H1,I1,rv,q1⟩=>b_ (ho γ s1 σ H1 _ I1 q1) λu s2 ⟨x,H2,I2,rx,q2⟩=>b_ (hi γ s2 σ H2 _ I2 q2) λiv s3 ⟨y,H3,I3,ry,a,H4,ex,g,q3⟩=>?_) hs;subst ex;obtain rfl:u=Value.ref a:=rx;exact Ec hu I3 g ry rv λs4 I4=>⟨σ,H4,I4,q3⟩
end
def x5(h:Heap)(hb:sysModules<h.objs.size):cp P w H (h.push {cls:=.type "dict",data:=.dict #[]}) h.objs.size (.dK []) :=
 ⟨mE _,Θ.mpr (Ne.symm (ki hb)),[],.nil,Heap.DictOf.new h⟩
def Hm(h:Heap)(hb:sysModules<h.objs.size):cp P w H (h.push {cls:=.type "dict",data:=.dict #[]}) h.objs.size (.dT []) :=
 ⟨mE _,Θ.mpr (Ne.symm (ki hb)),[],.nil,_,#[],0,k4 _ rfl,⟨rfl,rfl,rfl⟩,rfl,rfl,Ft⟩
noncomputable def RJ:TE:=λ_ H Q=>∀p,H p=none->Q (.ref p) (upd H p (.dK []))
noncomputable def RL:TE:=λ_ H Q=>∀p,H p=none->Q (.ref p) (upd H p (.dT []))
section
variable{pos:Pos}
def x6:PE X (.Dict [] [] pos) RJ:=λγ s σ H Q I h=>
 aas ⟨.ref s.heap.objs.size,_,I.laid (a:=s.heap.objs.size) (o:=.dK []) (t':=s.toks) (λ_ _ q=>fN _ q) (cS _) (x5 s.heap I.big),rfl,h _ (I.cj.fresh (cS _))⟩
def Hn:PE X (.Dict [] [] pos) RL:=λγ s σ H Q I h=>
 aas ⟨.ref s.heap.objs.size,_,I.laid (a:=s.heap.objs.size) (o:=.dT []) (t':=s.toks) (λ_ _ q=>fN _ q) (cS _) (Hm s.heap I.big),rfl,h _ (I.cj.fresh (cS _))⟩
end
structure M2(X:Cx)(o:Expr)(m:Str)(apos:Pos)(e f:Expr)(aN:Pos):Prop where
 base:attributeBase o m X.env (eval o X.env)=eval o X.env
 Zd:((backTo aN (starEach [e,f] X.env)).all (λx=>!x.1) && (backToKw aN (keywordEach [] X.env)).all (λx=>x.1.isSome)
  && decide (([e,f]:qap).length+([]:List Keyword).length+(if ([]:List Keyword).isEmpty then 0 else 1)<30))=true
 line:(apos.endLine==aN.line)=true
 trees:backTo aN (starEach [e,f] X.env)=[(false,eval e X.env),(false,eval f X.env)]
def IsD(H:Hp)(a:Addr):Prop:=(∃a8,Rd H a (.dK a8))\/∃a8,Rd H a (.dT a8)
def Ho{s:Shared}(I:Inv X γ σ H s)(d:IsD H a) :
  s.TypeIs (.ref a) "dict"/\(∀b,Value.ref a=.ref b->∃ob,s.heap.get? b=some ob/\ob.dict=none)/\(a==sysModules)=false:=by
 obtain⟨a8,e⟩|⟨a8,e⟩:=d
 obtain⟨_,hd,vs,_,dd⟩:=tY I.cj e;refine⟨dd.typeIs,λb q=>?_,hd⟩;cases q;obtain⟨ob,_,_,h1,h2,_⟩:=dd;exact⟨ob,h1,h2.2.1⟩;obtain⟨_,hd,xs,_,dd⟩:=tZ I.cj e;refine⟨dd.typeIs,λb q=>?_,hd⟩;cases q;obtain⟨ob,_,_,h1,h2,_⟩:=dd;exact⟨ob,h1,h2.2.1⟩
section
variable{s:Shared}{y d:V}{r:Value}{o:Option V}
def Hq(hu:A.units+1<cLine)(I:Inv X γ σ H s)(g:sF H a y o)(ry:RelV y u)(rd:RelV d r)(h:∀w' s',Inv X γ σ H s'->RelV (o.getD d) w'->Q w' s') :
  wpAny (model X.prog X.w) A (call (.builtin "dict.get") [.ref a,u,r]) Q E s:=by
 obtain⟨a8,k,e,ey,l⟩|⟨a8,k,b,e,ey,eb,l⟩:=g
 subst ey;obtain⟨z,hd,vs,rel,dd⟩:=tY I.cj e;refine aah Ke dd.typeIs Ui (Ud _ _ _) (meets_dict_get_default (aK X.prog X.w) a (nV ry) hd r) ⟨_,dd.mapOf,h _ _ (I.tok _) ?_⟩;rw[l];exact (rel.val k).getD rd;subst ey;cases (show u=Value.ref b from ry);obtain⟨z,hd,xs,rel,dd⟩:=tZ I.cj e;refine aah Ke dd.typeIs Ui (Ud _ _ _) (meetsH_dict_get_default (tupleKind (aK X.prog X.w)) a b hd r) ⟨aay hu,k,xs,vt I.cj eb,dd,h _ _ (I.tok _) ?_⟩;rw[l];exact (rel.val k).getD rd
end
def RM(td ty tx:TE):TE:=λσ H Q=>td σ H λx H1=>∃a,x=.ref a/\IsD H1 a/\ty σ H1 λy H2=>tx σ H2 λz H3=>∃o,sF H3 a y o/\Q (o.getD z) H3
section
variable{f:Expr}{td ty tx:TE}
def Hr(hu:X.A.units+1<cLine)(ho:PE X o td)(he:PE X e ty)(hf:PE X f tx)(m:M2 X o "get" apos e f aN):PE X (.Call (.Attribute o "get" apos) [e,f] [] aN) (RM td ty tx):=by
 intro γ s σ H Q I h;refine aap m.base m.Zd m.line Ue Ke YJ (b_ (ho γ s σ H _ I h) λu s1 ⟨x,H1,I1,rx,a,ex,d,q1⟩=>?_);subst ex;obtain rfl:u=Value.ref a:=rx;obtain⟨t1,t2,_⟩:=Ho I1 d;refine⟨t1,t2,?_⟩;rw[m.trees];refine Uh rfl (UW (KQ (b_ (he γ s1 σ H1 _ I1 q1) λiv s2 ⟨y,H2,I2,ry,q2⟩ =>
  KQ (b_ (hf γ s2 σ H2 _ I2 q2) λfv s3 ⟨z,H3,I3,rz,ov,g,q3⟩=>U0 ?_))))
 exact Hq hu I3 g ry rz λw' s4 I4 rw'=>⟨_,H3,I4,rw',q3⟩
end
end L2
namespace YW
open PySem PySem.W PySem.Calls PyProof.Rows
end YW
namespace L2
open PySem PySem.Spec PyProof.Rows
section
def Ee:eE X (.builtin "len") (λxs H Q=>∃a a8,xs=[V.ref a]/\H a=some (.dK a8)/\Q (.int a8.length) H):=by intro γ s σ H xs us Q I r h;obtain⟨a,a8,rfl,ha,q⟩:=h;obtain⟨u,rfl,ru⟩:=vals1 r;cases ru;exact WQ I (.inl ha) λt s' I'=>⟨.int a8.length,H,I',⟨t,rfl⟩,q⟩
end
end L2
namespace VT
open PySem PySem.Spec PyProof.Rows L2
noncomputable def vy:T->Option Key
 |.int i=>some (.inl i)
 |.str x=>some (.inr x)
 |_=>none
def iO{A:ο}{t:T}{k:Key}(h:g_ K H A t v)(e:vy t=some k):v=kV k:=by
 cases t with
 |int i=>cases e;exact h.int
 |str x=>cases e;exact h.str
 |_=>cases e
noncomputable def cw{α:Type}:List Key->List α->Key->Option α
 |k::ks,t::ts,x=>if k=x then some t else cw ks ts x
 |_,_,_=>none
noncomputable def Ef(ks:List Key)(x:Key):Bool:=ks.any λk=>decide (k=x)
noncomputable def dP(ks:List Key)(x:Key):List Key:=if Ef ks x=true then ks else ks++[x]
noncomputable def bO{α:Type}(ks:List Key)(ts:List α)(x:Key)(u:α):List α:=if Ef ks x=true then List.zipWith (λk t=>if k=x then u else t) ks ts else ts++[u]
theorem fD:∀(ks:List Key)(vs:Ω)(x:Key),jc (ks.zip vs) x=cw ks vs x
 |[],vs,x=>rfl
 |k::ks,[],x=>rfl
 |k::ks,v::vs,x=>by simp only[cw,Fm];by_cases e:k=x;rw[ε e,jq (p:=(k,v)) e];rw[η e,jr (p:=(k,v)) e];exact fD ks vs x
def x8(ts:List α)(x:Key):cw [] ts x=none:=by cases ts<;>rfl
theorem gG{K:Δ}{H:Hp}{A:ο}:∀{ks:List Key}{ts:ξ}{vs:Ω}{x:Key},az K H A ts vs->(∀t,cw ks ts x=some t->∃v,cw ks vs x=some v/\At K H A t v)/\(cw ks ts x=none->cw ks vs x=none)
 |[],ts,vs,x,h=>by rw[x8,x8];refine⟨λt e=>?_,λ_=>rfl⟩;cases e
 |k::ks,[],vs,x,h=>by simp only[az] at h;subst h;exact⟨λt e=>(by cases e),λ_=>rfl⟩
 |k::ks,t::ts,vs,x,h=>by simp only[az] at h;obtain⟨v,r,rfl,h1,h2⟩:=h;simp only[cw];by_cases e:k=x;rw[ε e,ε e];exact⟨λt e=>by cases e;exact⟨v,rfl,h1⟩,λq=>by cases q⟩;rw[η e,η e];exact gG h2
def L'(ks:List Key)(vs:Ω)(x:Key)(hl:ks.length=vs.length):((ks.zip vs).any λkv=>decide (kv.1=x))=Ef ks x:=by
 unfold Ef;induction ks generalizing vs with
 |nil=>rfl
 |cons k ks ih=>
  cases vs with
  |nil=>simp at hl
  |cons v vs=>rw[Fm,Kk,Kk,ih vs (by simpa using hl)]
def zip_map(ks:List Key)(vs:Ω)(x:Key)(v:V):(ks.zip vs).map (λkv=>if kv.1=x then (kv.1,v) else kv)=ks.zip (List.zipWith (λk t=>if k=x then v else t) ks vs):=by
 induction ks generalizing vs with
 |nil=>rfl
 |cons k ks ih=>
  cases vs with
  |nil=>rfl
  |cons u vs=>simp only[Fm,fU,PZ];rw[ih vs];by_cases e:k=x;rw[ε e,ε e];rw[η e,η e]
def Av(ks:List Key)(vs:Ω)(x:Key)(v:V)(hl:ks.length=vs.length):L2.putK (ks.zip vs) x v=(dP ks x).zip (bO ks vs x v)/\(dP ks x).length=(bO ks vs x v).length:=by unfold L2.putK dP bO;rw[L' ks vs x hl];by_cases e:Ef ks x=true;rw[ε e,ε e,ε e];exact⟨zip_map ks vs x v,by simp[hl]⟩;rw[η e,η e,η e];refine⟨?_,by simp[hl]⟩;rw[List.zip_append hl];rfl
def qp{A:ο}{ts:ξ}{x:Key}{t:T}(h:az K H A ts vs)(ht:At K H A t v):az K H A (bO ks ts x t) (bO ks vs x v):=by
 unfold bO;by_cases e:Ef ks x=true;rw[ε e,ε e];clear e;induction ks generalizing ts vs with
 |nil=>simp only[List.zipWith_nil_left];exact az.nil
 |cons k ks ih=>
  cases ts with
  |nil=>simp only[az] at h;subst h;simp only[List.zipWith_nil_right];exact az.nil
  |cons t0 ts=>simp only[az] at h;obtain⟨v0,r,rfl,h1,h2⟩:=h;simp only[PZ];refine az.cons ?_ (ih h2);by_cases q:k=x;rw[ε q,ε q];exact ht;rw[η q,η q];exact h1
 rw[η e,η e];exact h.append (az.cons ht az.nil)
section
variable{a:Expr}{fc:FE}{pos:Pos}
def WT:FP:=λ_ Q=>Q (.fr (.dk [] []))
def vz:VP X Z (.Dict [] [] pos) WT:=.mk λtm=>PE.weak x6 λσ H Q ⟨ρ,O,q,I,hf,k⟩ p hp=>
 k _ hf _ _ (aA hp) (I.newD (ks:=[]) (ts:=[]) (vs:=[]) hp rfl az.nil)
noncomputable def WU(fa fb:FE):FP:=λρ Q=>fa ρ λx=>fb ρ λy=>match x,vy y with
 |.dk ks ts,some k=>∃t,cw ks ts k=some t/\Q (.vw t)
 |_,_=>False
def RN(hu:X.A.units+1<cLine)(ha:VR X Z a fa)(hb:VR X Z b fb)(hs:L9 b:=by intro _ _;rfl):VP X Z (.Subscript a b pos) (WU fa fb):=.mk λtm=>PE.weak (L_ hu (ha tm) (hb tm) hs) λσ H Q ⟨ρ,O,q,I,hf,k⟩ =>
 ⟨ρ,O,_,I,hf,λx hx v H1 s1 a1=>⟨ρ,O,_,I.same s1,hx,λy hy w H2 s2 a2=>by
  split at hy
  rename_i ks ts kk e
  obtain⟨t,e1,hq⟩:=hy;obtain⟨l,vs,rfl,hl,hd,hv⟩:=(a1.same s2).dk;obtain⟨u,e2,e3⟩:=(gG hv).1 t e1;rw[iO a2 e];exact⟨l,u,rfl,by rw[<- e2,<- fD];exact sF.k hd,k _ hq _ H2 (s1.trans s2) ⟨(I.same s1).same s2,e3⟩⟩;exact hy.elim⟩⟩
noncomputable def adg(fa fb fc:FE):FP:=λρ Q=>fa ρ λx=>match x with
 |.dk ks ts=>fb ρ λy=>fc ρ λz=>match vy y with
  |some k=>Q (.vw ((cw ks ts k).getD z))
  |none=>False
 |_=>False
def Cp{A:ο}{ts:ξ}{k:Key}{z:T}{w:V}(h:az K H A ts vs)(hz:At K H A z w):At K H A ((cw ks ts k).getD z) ((cw ks vs k).getD w):=by
 cases e:cw ks ts k with
 |none=>rw[(gG h).2 e];exact hz
 |some t=>obtain⟨v,e1,e2⟩:=(gG h).1 t e;rw[e1];exact e2
def vA(hu:X.A.units+1<cLine)(ha:VR X Z a fa)(hb:VR X Z b fb)(hc:VE X Z c fc)(m:M2 X a "get" apos b c aN):VP X Z (.Call (.Attribute a "get" apos) [b,c] [] aN) (adg fa fb fc):=.mk λtm=>PE.weak (Hr hu (ha tm) (hb tm) (hc tm) m) λσ H Q ⟨ρ,O,q,I,hf,k⟩ =>
 ⟨ρ,O,_,I,hf,λx hx v H1 s1 a1=>by
  split at hx
  rename_i ks ts
  obtain⟨l,vs,rfl,hl,hd,hv⟩:=a1.dk;refine⟨l,rfl,.inl ⟨_,.inl hd⟩,ρ,O,_,I.same s1,hx,λy hy w H2 s2 a2=>⟨ρ,O,_,(I.same s1).same s2,hy,λz hz u H3 s3 a3=>?_⟩⟩;split at hz
  rename_i kk e
  rw[iO a2 e];refine⟨_,sF.k (s3 _ _ (s2 _ _ hd)),?_⟩;rw[fD];exact k _ hz _ H3 ((s1.trans s2).trans s3) ⟨((I.same s1).same s2).same s3,Cp ((hv.same s2).same s3) a3⟩;exact hz.elim;exact hx.elim⟩
noncomputable def OL(n:Nat)(f fi:FE):FS:=λd ρ=>match ρ[n]? with
 |some (some (.dk ks ts,true))=>f ρ λv=>fi ρ λi=>match vy i with
  |some k=>ts.length<16777216/\d.nx (ρ.set n (some (.dk (dP ks k) (bO ks ts k v),true)))
  |none=>False
 |_=>False
def vB(n:Nat){f fi:FE}{i:Expr}(hu:X.A.units+1<cLine)(he:VE X Z e f)(hi:VR X Z i fi)(hN:X.N[n]?=some x:=by rfl)(hv:jQ X.env.scope x:=by exact jvv rfl)(hd:gq x:=by decide)(fH:rQ x:=by decide)(hs:swapsWith e (some (.Subscript (.Name x p) i dX)) pos.line X.env=pure false:=by rfl) :
  VS X Z (.Assign [.Subscript (.Name x p) i dX] e pos) (OL n f fi):=.mk λtm=>
 PS.weak (o6 hu (bP hN hv hd fH) (hi tm) (he tm) hs) λD σ H ⟨ρ,O,d,I,q,F⟩=>by
  unfold OL at q;split at q
  rename_i ks ts e0
  obtain⟨l,h1,h2,xs,hl,h3,h4⟩:=I.root e0;have ha:l∈av Z O:=cA _ (aH.mpr (eS h1));refine⟨ρ,O,_,I,q,λt ht v H1 s1 a1=>⟨.ref l,h2,ρ,O,_,I.same s1,ht,λj hj w H2 s2 a2=>?_⟩⟩;split at hj
  rename_i kk ek
  obtain⟨hlen,hj⟩:=hj;have OM:=s2 _ _ (s1 _ _ h3);have q:=Av ks xs kk v hl;have hz:(ks.zip xs).length<sizeLine:=by rw[μ,KR,hl,KU,h4.length];omega
  rw[iO a2 ek];refine⟨l,_,rfl,sG.k OM hz,?_⟩;rw[q.1];refine F.nx O _ σ _ (((I.same s1).same s2).wrote (t':=.dk (dP ks kk) (bO ks ts kk t)) e0 h1 ⟨bO ks xs kk v,q.2,aC,?_⟩) hj;exact az.wrote ha OM rfl (qp ((h4.same s1).same s2) (a1.same s2));exact hj.elim;exact q.elim
end
section
variable{a:Expr}{pos:Pos}
def ON(ts:ξ)(q:qam):Prop:=match ts with
 |[.dk ks vs]=>q (.vw (.int (vs.length:Int)))
 |_=>False
def Aw:nR K (λxs H Q=>∃a a8,xs=[V.ref a]/\H a=some (.dK a8)/\Q (.int a8.length) H) ON:=by intro Z tm O ρ σ H ts vs q Q I h hp k;unfold ON at hp;split at hp;obtain⟨v,rfl,a⟩:=dB h;obtain⟨l,ws,rfl,hl,hd,hv⟩:=a.dk;refine⟨l,_,rfl,hd,?_⟩;rw[KR,hl,KU,hv.length];exact k _ hp _ H (aO.refl H) ⟨I,bz⟩;exact hp.elim
end
end VT
namespace RV
open PySem PySem.Spec PyProof.Rows
section
variable{s:Shared}{R:Result->Shared->Prop}
variable{I:Addr}{wr:ο}{G:Array GenState->Array GenState->Prop}{P:Nat->Value->Prop}{St:Nat->Shared->Prop}
end
section
variable{s:Shared}
variable{I:Addr}{wr:ο}{G:Array GenState->Array GenState->Prop}{P:Nat->Value->Prop}{St:Nat->Shared->Prop}
end
end RV
namespace VT
open PySem PySem.Spec PyProof.Rows L2
def j9(h:n+101<cLine):n+1<cLine:=by omega
def OQ(w:World)(K:Δ)(e:DictEntry)(p:Str×T):Prop:=e.hash=PyData.keyHash w.params p.1/\(∃t,e.key=.str p.1 t)/\∃v,RelV v e.val/\∀H A,At K H A p.2 v
def qq(w:World)(K:Δ)(a:Addr)(l:List (Str×T)):Prop:=∃es ep,K.lookup a=some ⟨.type "dict",none,.dict es ep,#[]⟩/\(a==sysModules)=false/\Paired (OQ w K) es.toList l/\(l.map (·.1)).Nodup
theorem ents{P:Program}{w:World}{K:Δ}:∀{es:List DictEntry}{l:List (Str×T)},Paired (OQ w K) es l ->
  ∃(vs:Ω)(us:List (Key×Value)),(∀H A,az K H A (l.map (·.2)) vs)/\KV ((l.map λp=>(Sum.inr p.1:Key)).zip vs) us/\PySem.Pairs (aK P w) es us/\us.map (·.1)=l.map (λp=>(Sum.inr p.1:Key))/\∀e∈es,∃k,(aK P w).is k e.key=true/\e.hash=(aK P w).hash k
 |_,_,.nil=>⟨[],[],λ_ _=>az.nil,.nil,.nil,rfl,λ_ h=>nomatch h⟩
 |_,_,.cons (a:=e) (b:=p) r t=>by
   obtain⟨vs,us,h1,h2,h3,h4,h5⟩:=ents (P:=P) t;obtain⟨r1,⟨tk,r2⟩,v,r3,r4⟩:=r;have hk:(aK P w).is (Sum.inr p.1) e.key=true:=by rw[r2];show Value.isStrOf p.1 (.str p.1 tk)=true;simp[Value.isStrOf]
   refine⟨v::vs,(Sum.inr p.1,e.val)::us,λH A=>az.cons (r4 H A) (h1 H A),.cons ⟨rfl,r3⟩ h2,.cons hk rfl h3,by rw[fU,fU,h4],λe' he=>?_⟩;rcases cU.mp he with q|q
   subst q;exact⟨Sum.inr p.1,hk,r1⟩;exact h5 e' q
def qq.of{s:Shared}{l:List (Str×T)}(I:Inv X γ σ H s)(d:qq X.w X.K a l) :
  ∃(vs:Ω)(us:List (Key×Value)),(∀H A,az X.K H A (l.map (·.2)) vs)/\KV ((l.map λp=>(Sum.inr p.1:Key)).zip vs) us/\s.heap.DictOf (aK X.prog X.w) a us/\(a==sysModules)=false:=by
 obtain⟨es,ep,lk,hs,hp,nd⟩:=d;obtain⟨vs,us,h1,h2,h3,h4,h5⟩:=ents (P:=X.prog) hp;refine⟨vs,us,h1,h2,⟨_,es,ep,I.r0 a _ lk,⟨rfl,rfl,rfl⟩,rfl,λe he=>h5 e (by simpa using he),h3,?_⟩,hs⟩;rw[h4];have e:(l.map λp=>(Sum.inr p.1:Key))=(l.map (·.1)).map Sum.inr:=by rw[tu];rfl
 rw[e];exact List.Pairwise.map _ (λa b h z=>h (Sum.inr.inj z)) nd
section
variable{fc:FE}{l:List (Str×T)}
noncomputable def Eh(l:List (Str×T))(k:Str):Option T:=cw (l.map λp=>(Sum.inr p.1:Key)) (l.map (·.2)) (Sum.inr k)
def onStr(t:T)(f:Str->Prop):Prop:=match t with
 |.str k=>f k
 |_=>False
def x9{t:T}{f:Str->Prop}(h:onStr t f):∃k,t=.str k/\f k:=by unfold onStr at h;split at h;exact⟨_,rfl,h⟩;exact h.elim
noncomputable def adh(l:List (Str×T))(fe fc:FE):FP:=λρ Q=>fe ρ λy=>fc ρ λz=>onStr y λk=>Q (.vw ((Eh l k).getD z))
def Hs(hg:Gl X x)(hm:X.mg x=some (.ref a))(d:qq X.w X.K a l)(he:VR X Z e fe)(hc:VE X Z c fc)(m:M2 X (.Name x p) "get" apos e c aN)(hd:gq x:=by decide) :
  VP X Z (.Call (.Attribute (.Name x p) "get" apos) [e,c] [] aN) (adh l fe fc):=.mk λtm γ s σ H Q I ⟨ρ,O,q,E,hf,k⟩=>by
 refine aap m.base m.Zd m.line Ue Ke YJ (b_ (uB hg hm (v:=.ref a) rfl hd γ s σ H (λv H'=>v=.ref a/\H'=H) I ⟨rfl,rfl⟩) λu s1 ⟨x',H1,I1,rx,ex,eH⟩=>?_);subst ex eH;obtain rfl:u=Value.ref a:=rx;obtain⟨vs,us,h1,h2,dd,hs⟩:=d.of I1;refine⟨dd.typeIs,λb q=>?_,?_⟩;cases q;obtain⟨ob,_,_,z1,z2,_⟩:=dd;exact⟨ob,z1,z2.2.1⟩;rw[m.trees];refine Uh rfl (UW (KQ (b_ (he tm γ s1 σ H1 (λy H2=>∃t,g_ X.K H2 (av Z O) t y/\aO H1 H2/\fc ρ λz=>onStr t λk=>q (.vw ((Eh l k).getD z))) I1 ⟨ρ,O,_,E,hf,λt ht v H' s a1=>⟨t,a1,s,ht⟩⟩) λiv s2 ⟨y,H2,I2,ry,t,a1,sa,q2⟩ =>
  KQ (b_ (hc tm γ s2 σ H2 (λz H3=>∃tz,At X.K H3 (av Z O) tz z/\aO H2 H3/\onStr t λk=>q (.vw ((Eh l k).getD tz))) I2 ⟨ρ,O,_,E.same sa,q2,λtz htz v H' s a2=>⟨tz,a2,s,htz⟩⟩) λfv s3 ⟨z,H3,I3,rz,tz,a2,sb,q3⟩=>U0 ?_))))
 obtain⟨kk,et,q3⟩:=x9 q3;subst et;obtain⟨fq,KC,Ci,GX,Ed,Ry⟩:=d.of I3;have ey:=a1.str;subst ey;refine aah Ke Ed.typeIs Ui (Ud _ _ _) (meets_dict_get_default (aK X.prog X.w) a (nV (k:=Sum.inr kk) ry) Ry fv) ⟨_,Ed.mapOf,⟨_,H3,I3.tok _,(GX.val (Sum.inr kk)).getD rz,?_⟩⟩;rw[fD];exact k _ q3 _ H3 (sa.trans sb) ⟨(E.same sa).same sb,Cp (Ci H3 (av Z O)) a2⟩
end
abbrev FPs:=En->(List (Key×T)->Prop)->Prop
section
theorem Mb:Li X "dict.setdefault" (λx xs H Q=>∃(a:Addr)(a8:List (Key×V))(k:Key)(v:V),x=.ref a/\xs=[kV k,v]/\H a=some (.dK a8)/\a8.length<sizeLine /\
  (∀u,jc a8 k=some u->Q u H)/\(jc a8 k=none->Q v (upd H a (.dK (L2.putK a8 k v))))):=by
 intro γ s σ H x xs v us Q I rx rs h;obtain⟨a,a8,k,y,rfl,rfl,ha,hsz,q1,q2⟩:=h;cases rx;obtain⟨u1,u2,rfl,ru1,ru2⟩:∃u1 u2,us=[u1,u2]/\RelV (kV k) u1/\RelV y u2:=by
  cases rs with
  |cons r1 t=>cases t with
    |cons r2 t2=>cases t2;exact⟨_,_,rfl,r1,r2⟩
 obtain⟨z,hd,vs,rel,dd⟩:=Cn I.cj ha;refine aah PySem.F.slot_dict_setdefault dd.typeIs PySem.F.entry_dict_setdefault (PySem.F.args_dict_setdefault_3 _ _ _) (kt_meets_setdefault (aK X.prog X.w) a (nV ru1) hd u2) ⟨vs,dd,by rw[<- rel.length];omega,λv0 hv=>?_,λhn h' Ed hs=>?_⟩;have se:=rel.val k;rw[hv] at se;cases e:jc a8 k with
 |none=>rw[e] at se;cases se
 |some w0=>rw[e] at se;have hr:RelV w0 v0:=se;exact⟨w0,H,I.tok _,hr,q1 w0 e⟩
 have se:=rel.val k;rw[hn] at se;cases e:jc a8 k with
 |some w0=>rw[e] at se;cases se
 |none=>
   have he:∃q,h'.get? a=some q:=let ⟨q,_,_,hq,_⟩:=Ed;⟨q,hq⟩;have hl:(L2.putK a8 k y).length<=sizeLine:=by have:=jt a8 k y;omega
   exact⟨y,_,o5 (t':=s.toks+1) I (by rw[ha];exact True.intro) hs he (Hl hl hd (rel.put k ru2) Ed),ru2,q2 e⟩
end
section
variable{e1 e2:Expr}{f1 f2:FE}
noncomputable def OR(n:Nat)(f1 f2:FE):FX:=λρ Q=>match ρ[n]? with
 |some (some (.dk ks ts,true))=>f1 ρ λx=>f2 ρ λy=>match vy x with
  |some k=>ts.length<16777216/\match cw ks ts k with
   |some t=>Q ρ (.vw t)
   |none=>Q (ρ.set n (some (.dk (ks++[k]) (ts++[y]),true))) (.vw y)
  |none=>False
 |_=>False
def Mc(n:Nat)(h1:VE X Z e1 f1)(h2:VE X Z e2 f2)(hN:X.N[n]?=some x:=by rfl)(hv:jQ X.env.scope x:=by exact jvv rfl)(hd:gq x:=by decide)(fH:rQ x:=by decide)(dj:attributeBase (.Name x p) "setdefault" X.env (eval (.Name x p) X.env)=eval (.Name x p) X.env:=by rfl)(kn:((backTo aN (starEach [e1,e2] X.env)).all (λx=>!x.1) && (backToKw aN (keywordEach [] X.env)).all (λx=>x.1.isSome)
    && decide (([e1,e2]:qap).length+([]:List Keyword).length+(if ([]:List Keyword).isEmpty then 0 else 1)<30))=true:=by rfl)(dm:(apos.endLine==aN.line)=true:=by rfl)(hs:starEach [e1,e2] X.env=(false,eval e1 X.env)::starEach [e2] X.env:=by rfl)(tE:starEach [e2] X.env=(false,eval e2 X.env)::starEach [] X.env:=by rfl)(dY:(backTo aN (starEach [e2] X.env)).any (·.1)=false:=by rfl) :
  VX X Z (.Call (.Attribute (.Name x p) "setdefault" apos) [e1,e2] [] aN) (OR n f1 f2):=.mk λtm=>
 PE.weak (pK Ue PySem.F.slot_dict_setdefault PySem.F.type_dict_setdefault Mb (bP hN hv hd fH) (bf (h1 tm) (bf (h2 tm) cC tE) hs) dj kn dm hs dY) λσ H Q ⟨ρ,O,q,I,hf,kk⟩=>by
  unfold OR at hf;split at hf
  rename_i ks ts e0
  obtain⟨l,g1,g2,xs,hl,g3,g4⟩:=I.root e0;have ha:l∈av Z O:=cA _ (aH.mpr (eS g1));refine⟨.ref l,g2,.inr (.inr (.inl ⟨rfl,.inl ⟨_,g3⟩⟩)),ρ,O,_,I,hf,λt ht v H1 s1 a1=>⟨ρ,O,_,I.same s1,ht,λy hy w H2 s2 a2=>?_⟩⟩;split at hy
  rename_i Uy ek
  obtain⟨hlen,hy⟩:=hy;have ev:v=kV Uy:=iO (.inl a1) ek;subst ev;have hz:(ks.zip xs).length<sizeLine:=by rw[μ,KR,hl,KU,g4.length];omega
  have J:=(I.same s1).same s2;have b4:=(g4.same s1).same s2;refine⟨l,ks.zip xs,Uy,w,rfl,rfl,s2 _ _ (s1 _ _ g3),hz,λu hu=>?_,λhn=>?_⟩;rw[fD] at hu;cases eg:cw ks ts Uy with
  |none=>rw[(gG b4).2 eg] at hu;cases hu
  |some t0=>rw[eg] at hy;obtain⟨v0,e1,e2⟩:=(gG b4).1 t0 eg;rw[e1] at hu;cases hu;exact kk _ _ hy O _ _ ⟨J,e2⟩
  rw[fD] at hn;cases eg:cw ks ts Uy with
  |some t0=>obtain⟨v0,e1,e2⟩:=(gG b4).1 t0 eg;rw[e1] at hn;cases hn
  |none=>
    rw[eg] at hy;have e1:L2.putK (ks.zip xs) Uy w=(ks++[Uy]).zip (xs++[w]):=by rw[Hk _ (by rw[fD];exact hn),List.zip_append hl];rfl
    rw[e1];refine kk _ _ hy O _ _ ⟨J.wrote e0 g1 ⟨xs++[w],by simp[hl],aC,?_⟩,a2.wrote ha (s2 _ _ (s1 _ _ g3)) rfl⟩;exact (b4.append (az.cons a2 az.nil)).wrote ha (s2 _ _ (s1 _ _ g3)) rfl
  exact hy.elim;exact hf.elim
end
noncomputable def qr{α:Type}(f:Str):π->List α->Option α
 |n::ns,t::ts=>match f==n with
  |true=>some t
  |false=>qr f ns ts
 |_,_=>none
noncomputable def Ei(f:Str):π->π
 |[]=>[f]
 |n::ns=>if n=f then n::ns else n::Ei f ns
noncomputable def oJ{α:Type}(f:Str)(u:α):π->List α->List α
 |n::ns,t::ts=>if n=f then u::ts else t::oJ f u ns ts
 |_,_=>[u]
theorem qt(f:Str):∀(ns:π)(vs:Ω),(ns.zip vs).lookup f=qr f ns vs
 |[],vs=>by cases vs<;>rfl
 |n::ns,[]=>rfl
 |n::ns,v::vs=>by
  rw[Fm,Kg];unfold qr;cases f==n with
  |true=>rfl
  |false=>exact qt f ns vs
theorem x_(f:Str)(y:V):∀(ns:π)(vs:Ω),ns.length=vs.length->dD f y (ns.zip vs)=(Ei f ns).zip (oJ f y ns vs)/\(Ei f ns).length=(oJ f y ns vs).length
 |[],[],_=>⟨rfl,rfl⟩
 |[],v::vs,h=>by simp at h
 |n::ns,[],h=>by simp at h
 |n::ns,v::vs,h=>by have ih:=x_ f y ns vs (by simpa using h);rw[Fm];show (if n=f then (n,y)::ns.zip vs else (n,v)::dD f y (ns.zip vs))=_/\_;unfold Ei oJ;by_cases e:n=f;rw[ε e,ε e,ε e];exact⟨rfl,by simpa using h⟩;rw[η e,η e,η e,ih.1];exact⟨rfl,by simp[ih.2]⟩
section
variable{A:ο}{f:Str}
theorem ya:∀{ns:π}{ts:ξ}{vs:Ω}{t:T},az K H A ts vs->qr f ns ts=some t->∃v,qr f ns vs=some v/\At K H A t v
 |[],ts,vs,t,_,e=>by cases ts<;>cases e
 |n::ns,[],vs,t,_,e=>by cases e
 |n::ns,t0::ts,vs,t,h,e=>by
  simp only[az] at h;obtain⟨v,r,rfl,h1,h2⟩:=h;unfold qr at e ⊢;cases q:f==n with
  |true=>rw[q] at e;cases e;exact⟨v,rfl,h1⟩
  |false=>rw[q] at e;exact ya h2 e
theorem Cq:∀{ns:π}{ts:ξ}{vs:Ω}{t:T}{v:V},az K H A ts vs->At K H A t v->az K H A (oJ f t ns ts) (oJ f v ns vs)
 |[],ts,vs,t,v,_,q=>by
  have e1:oJ f t [] ts=[t]:=by cases ts<;>rfl
  have e2:oJ f v [] vs=[v]:=by cases vs<;>rfl
  rw[e1,e2];exact az.cons q az.nil
 |n::ns,[],vs,t,v,h,q=>by simp only[az] at h;subst h;exact az.cons q az.nil
 |n::ns,t0::ts,vs,t,v,h,q=>by simp only[az] at h;obtain⟨v0,r,rfl,h1,h2⟩:=h;unfold oJ;by_cases e:n=f;rw[ε e,ε e];exact az.cons q h2;rw[η e,η e];exact az.cons h1 (Cq h2 q)
end
section
variable{f:Str}{pos:Pos}
noncomputable def adi(C:Addr)(f:Str)(fe:FE):FP:=λρ Q=>fe ρ λt=>match t with
 |.ins C' ns ts=>C'=C/\∃u,qr f ns ts=some u/\Q (.vw u)
 |_=>False
def br(cl:zW X.K C)(na:bp X.K C f)(h:VR X Z e fe)(hb:attributeBase e f X.env (eval e X.env)=eval e X.env:=by rfl):VP X Z (.Attribute e f pos) (adi C f fe):=.mk λtm=>
 PE.weak (zZ (h tm) hb) λσ H Q ⟨ρ,O,q,I,hf,k⟩=>⟨ρ,O,_,I,hf,λt ht v H1 s1 a1=>by
  split at ht
  rename_i C' ns ts
  obtain⟨rfl,u,e1,hq⟩:=ht;obtain⟨a,dx,vs,rfl,hl,hd,hv⟩:=a1.ins;obtain⟨w,e2,e3⟩:=ya hv e1;exact⟨a,_,dx,_,w,rfl,hd,cl,na,by rw[qt];exact e2,k _ hq _ H1 s1 ⟨I.same s1,e3⟩⟩;exact ht.elim⟩
noncomputable def Ax(n:Nat)(C:Addr)(f:Str)(fe:FE):FS:=λd ρ=>match ρ[n]? with
 |some (some (.ins C' ns ts,true))=>C'=C/\fe ρ λv=>ts.length<1000/\d.nx (ρ.set n (some (.ins C' (Ei f ns) (oJ f v ns ts),true)))
 |_=>False
def iP(n:Nat)(cl:zW X.K C)(na:bp X.K C f)(he:VE X Z e fe)(hN:X.N[n]?=some x:=by rfl)(hv:jQ X.env.scope x:=by exact jvv rfl)(hd:gq x:=by decide)(fH:rQ x:=by decide)(hs:swapsWith e (some (.Attribute (.Name x p) f dX)) pos.line X.env=pure false:=by rfl) :
  VS X Z (.Assign [.Attribute (.Name x p) f dX] e pos) (Ax n C f fe):=.mk λtm=>
 PS.weak (fW (bP hN hv hd fH) (he tm) hs) λD σ H ⟨ρ,O,d,I,q,F⟩=>by
  unfold Ax at q;split at q
  rename_i C' ns ts e0
  obtain⟨rfl,q⟩:=q;obtain⟨l,h1,h2,dx,xs,hl,h3,h4⟩:=I.root e0;have ha:l∈av Z O:=cA _ (aH.mpr (eS h1));refine⟨ρ,O,_,I,q,λt ht v H1 s1 a1=>⟨.ref l,h2,l,_,dx,_,rfl,s1 _ _ h3,cl,na,?_,?_⟩⟩;rw[KR,hl,KU,h4.length];exact ht.1;have pz:=x_ f v ns xs hl;rw[pz.1];refine F.nx O _ σ _ ((I.same s1).wrote (t':=.ins _ (Ei f ns) (oJ f t ns ts)) e0 h1 ⟨dx,oJ f v ns xs,pz.2,aC,?_⟩) ht.2;exact az.wrote ha (s1 _ _ h3) rfl (Cq (h4.same s1) a1);exact q.elim
def OS(K:Δ)(C:Addr)(n:Nat)(G:ξ->(T->Prop)->Prop):Sp:=kx K (true::List.replicate n false) λts q=>match ts with
 |.ins C' [] []::us=>C'=C/\G us λu=>q [u] (.vw .aQ)
 |_=>False
def Cr{G:ξ->(T->Prop)->Prop}{tm:qab}{ts:ξ}{q:qam}{Q:VK}(I:ay X.K Z tm O ρ σ H)(a:az X.K H (av Z O) ts vs)(hn:ts.length=n)(hG:G ts λu=>q (.fr u))(k:∀r,q r->∀v H',aO H H'->gy X.K Z tm O ρ σ H' r v->Q v H'):∀x dx,H x=none->H dx=none->dx≠x->OS X.K C n G (.ref x::(vs++[])) (upd (upd H dx (.own x)) x (.ins C dx [])) (λv H2=>v=.aQ/\Q (.ref x) H2) E0:=by
 intro x dx hx hdx fY;rw[xc];obtain⟨n1,n2,n3⟩:=I.fresh hx;have s0:aO H (upd (upd H dx (.own x)) x (.ins C dx [])):=λb o e=>by rw[aG (bo e hx),aG (bo e hdx)];exact e
 have a1:az X.K (upd (upd H dx (.own x)) x (.ins C dx [])) ([x]++av Z O) ts vs:=(a.more λb hb=>by
  rcases cK.mp hb with z|z
  exact .inr (by rw[iD.mp z];exact hx);exact .inl z).same s0
 refine⟨.ins C [] []::ts,[x],av Z O,λus r=>r=.vw .aQ/\∃u,us=[u]/\q (.fr u),by simp,λb hb=>by rw[iD.mp hb];exact n1,λb hb=>?_,⟨x,[],_,ts,vs,rfl,rfl,rfl,⟨dx,[],rfl,aC,az.nil⟩,iM hn a1⟩,⟨rfl,?_⟩,λus r hr v H' fr z=>?_⟩;cases e:H b with
 |none=>exact absurd e (I.uR b hb)
 |some o=>rw[s0 _ _ e];simp
 have w:(λu=>q (.fr u))=λu=>((.vw .aQ:Rt)=.vw .aQ/\∃u',[u]=[u']/\q (.fr u')):=by funext u;exact propext ⟨λh=>⟨rfl,u,rfl,h⟩,λ⟨_,u',e,h⟩=>by cases e;exact h⟩
 rw[<- w];exact hG;obtain⟨rfl,u,rfl,hq⟩:=hr;obtain⟨z1,z2⟩:=z;simp only[At] at z1;refine⟨z1,?_⟩;cases z2 with
 |cons r _=>
  have s:aO H H':=λb o e=>fr b o (s0 b o e) (by rw[iD];exact bo e hx);obtain⟨o,eo,_⟩:=r.mut;refine k _ hq _ H' s ⟨x,rfl,I.OB hx s eo,r.aY λc hc=>?_,n3,n2⟩;rcases dA c hc with z|z
  exact bZ _ z;rw[z];exact cA _ c6
end
structure Dc(K:Δ)(mg:qae)(cls qual:Str)(st:Stmt)(ps:π)(C f:Addr)(fd:FuncData):Prop where
 F:BZ K "__init__" qual st f fd
 m:mg cls=some (.ref C)
 b:Binds K fd ps []
 M:Mk K C f
def Ht(P:Program)(w:World)(K:Δ)(mg:qae)(base:Heap)(cls:Str)(C:Addr)(ps:π)(k n:Nat)(G:ξ->(T->Prop)->Prop):Prop :=
 ∃f fd,Mk K C f/\mg cls=some (.ref C)/\Binds K fd ps []/\cq P w K mg base eD k f fd ps (OS K C n G)
section
def Dc.hJ{cls:Str}{st:Stmt}{k:Nat}{G:ξ->(T->Prop)->Prop}(D:Dc K mg cls qual st ps C f fd)(F:cq P w K mg base eD k f fd ps (OS K C n G)):Ht P w K mg base cls C ps k n G :=
 ⟨f,fd,D.M,D.m,D.b,F⟩
def fnI{st:Stmt}{N:π}{k:Nat}{G:ξ->(T->Prop)->Prop}(F:BZ K x qual st f fd)(S:aE N ps (aj st))(hn:n+1=ps.length)(dF:∀(bB:Value) (A:Around) (outer:List Env) (s:Shared) (H:Hp) (E:XK) (as Ox:ο),bF k (A.deeper (envOfC qual (aj st) s.heap.objs.size f bB))->∀(us:ξ) (q:ξ->qam),us.length=n->G us (λu=>q [u] (.vw .aQ)) ->
    ∃g,oF (fP eD P w K mg base N qual (aj st) f bB A outer s H E).pF ⟨H,pz (true::List.replicate n false) as 0,Ox⟩ (bG st) g /\
     g {nx:=λρ=>q (mW (true::List.replicate n false) ρ) (.vw .aQ),rt:=λρ r=>q (mW (true::List.replicate n false) ρ) r} (some (.ins C [] [],true)::xQ (List.replicate n false) us++List.replicate (N.length-(us.length+1)) none)) :
  cq P w K mg base eD (k+1) f fd ps (OS K C n G) :=
 Wz F S (by rw[<- hn];simp) λbB A outer s H E as Ox hr ts q hl hG=>by
  cases ts with
  |nil=>exact hG.elim
  |cons t us=>cases t with
    |ins C' ns vs=>cases ns with
      |nil=>cases vs with
        |nil=>obtain⟨e,hG'⟩:=hG;subst e;exact dF bB A outer s H E as Ox hr us q (by simpa using hl) hG'
        |cons _ _=>exact hG.elim
      |cons _ _=>exact hG.elim
    |_=>exact hG.elim
end
noncomputable def Cs(a d:Addr):HO:=.ext λh=>h.get? a=some {cls:=.type "dict_values",data:=.fields #[.ref d]}
theorem yb(val:Nat->Int):∀k,∃j≤k,argBest (λi j=>decide (val i<val j)) k=j/\∀i≤k,val j<=val i
 |0=>⟨0,cS _,rfl,λi hi=>by rw[Nat.le_zero.mp hi];exact Int.le_refl _⟩
 |k+1=>by
  obtain⟨j,hj,e,h⟩:=yb val k;unfold argBest;rw[e];by_cases q:val (k+1)<val j;rw[ε (ν q)];refine⟨k+1,cS _,rfl,λi hi=>?_⟩;rcases Nat.lt_or_eq_of_le hi with l|l
  exact Int.le_trans (Int.le_of_lt q) (h i (Nat.le_of_lt_succ l));rw[l];exact Int.le_refl _;rw[η (by rw[aaj];exact q)];refine⟨j,Nat.le_succ_of_le hj,rfl,λi hi=>?_⟩;rcases Nat.lt_or_eq_of_le hi with l|l
  exact h i (Nat.le_of_lt_succ l);rw[l];exact Int.not_lt.mp q
section
def Ej:Li X "dict.values" (λx xs H Q=>∃(d:Addr)(a8:List (Key×V)),x=.ref d/\xs=[]/\H d=some (.dK a8)/\∀a,H a=none->Q (.ref a) (upd H a (Cs a d))):=by intro γ s σ H x xs v us Q I rx rs h;obtain⟨d,a8,rfl,rfl,hd,q⟩:=h;cases rx;cases rs;obtain⟨z,hs,vs,rel,dd⟩:=Cn I.cj hd;refine aah PySem.F.slot_dict_values dd.typeIs PySem.F.entry_dict_values (PySem.F.args_dict_values_1 _) (meets_dict_values (aK X.prog X.w) d hs) ⟨⟨vs,dd⟩,?_⟩;refine⟨.ref s.heap.objs.size,_,I.laid (a:=s.heap.objs.size) (t':=s.toks) (λb o e=>fN _ e) (cS _) ?_,rfl,q _ I.fresh⟩;exact⟨k4 _ rfl,⟨_,k4 _ rfl⟩,λh1 h2 z k=>k _ z⟩
def vC(hc:X.calm=true):eE X (.builtin "min") (λxs H Q=>∃(a d:Addr)(a8:List (Key×V))(is:qan),xs=[.ref a]/\H a=some (Cs a d)/\H d=some (.dK a8)/\a8.map (·.2)=is.map V.int/\is≠[]/\∀m,m∈is->(∀i∈is,m<=i)->Q (.int m) H):=by
 intro γ s σ H xs us Q I r h;obtain⟨a,d,a8,is,rfl,ha,hd,hv,fY,q⟩:=h;obtain⟨u,rfl,ru⟩:=vals1 r;cases ru;obtain⟨z,hs,vs,rel,dd⟩:=Cn I.cj hd;obtain⟨hA,_,_⟩:=(show cp X.prog X.w H s.heap a (Cs a d) from I.cj a _ ha);obtain⟨ep,da⟩:=dd.dictAt;have hh:X.A.in1.handled=none:=by simp[I.ok.hd hc]
 have hlen:vs.length=is.length:=by have:=Ψ List.length hv;rw[cJ,cJ] at this;rw[<- rel.length];exact this
 have WV:∀(i:Nat)(v:Value),(∃k,vs[i]?=some (k,v))->∃t,v=.int (is.getD i 0) t:=by
  intro i v ⟨k,e⟩;have hi:i<vs.length:=(fQ.mp e).1;have hi2:i<a8.length:=by rw[rel.length];exact hi
  have e1:a8[i]?=some a8[i]:=by simp[hi2]
  have key:∀{l₁:List (Key×V)}{l₂:List (Key×Value)}{i:Nat}{p:Key×V}{q:Key×Value},KV l₁ l₂->l₁[i]?=some p->l₂[i]?=some q->RelV p.2 q.2:=by
   intro l₁ l₂ i p q h;unfold KV at h;induction h generalizing i with
   |nil=>intro e;simp at e
   |cons r t ih=>
    intro e e';cases i with
    |zero=>simp at e e';subst e;subst e';exact r.2
    |succ i=>exact ih (by simpa using e) (by simpa using e')
  have rr:=key rel e1 e;have e2:(a8.map (·.2))[i]?=some a8[i].2:=by rw[hU,e1];rfl
  rw[hv,hU] at e2;cases q2:is[i]? with
  |none=>rw[q2] at e2;cases e2
  |some m=>rw[q2] at e2;have e3:a8[i].2=V.int m:=(Option.some.inj e2).symm;rw[e3] at rr;obtain⟨t,et⟩:=rr;exact⟨t,by rw[ZI,q2];exact et⟩
 have hn0:0<vs.length:=by rw[hlen];exact List.length_pos_iff.mpr fY
 refine call_min_walk (wpAny_pyIter_values ⟨_,hA,rfl,rfl⟩ da ?_);refine⟨_,_,_,_,_,_,_,rfl,Walks.dictValues hh _ d (ki da.lt_size) vs ep,⟨⟨_,k4 _ rfl,rfl,rfl⟩,da.push _⟩,λb hb=>?_,hn0,CmpOf.ints_lt (λi=>is.getD i 0) WV,λv h' tk hP hk=>?_⟩;show b<(s.heap.push _).objs.size;rw[F4];rcases cU.mp hb with rfl|hb
 exact zJ _;rw[iD.mp hb];exact Uk da.lt_size;obtain⟨j,hj,e,hm⟩:=yb (λi=>is.getD i 0) (vs.length-1);rw[e] at hP;obtain⟨t,rfl⟩:=WV j v hP;have OT:j<is.length:=by omega
 refine⟨.int (is.getD j 0),H,I.kept (t':=tk) λb u eb=>hk b u (λz=>?_) (fN _ eb),⟨t,rfl⟩,q _ ?_ λi hi=>?_⟩;rw[iD.mp z] at eb;exact absurd (gu eb) (Fu _);rw[ZI,mz OT];exact P_ OT;obtain⟨n,hn⟩:=UR.mp hi;have hnl:n<is.length:=(fQ.mp hn).1;have:=hm n (by omega);have e5:is.getD n 0=i:=by rw[ZI,hn];rfl
 rw[e5] at this;exact this
end
section
variable{a:Expr}{Ma Eg:Pos}
def WW(fa:FE):FP:=λρ Q=>fa ρ λx=>match x with
 |.dk ks ts=>∃is,ts=is.map T.int/\is≠[]/\∀m,m∈is->(∀i∈is,m<=i)->Q (.vw (.int m))
 |_=>False
def Ay(hc:X.calm=true)(hgl:Gl X "min")(hml:X.mg "min"=none)(ha:VR X Z a fa)(dj:attributeBase a "values" X.env (eval a X.env)=eval a X.env:=by rfl)(dm:(apos.endLine==Eg.line)=true:=by rfl)(he:starEach [.Call (.Attribute a "values" apos) [] [] Eg] X.env=(false,eval (.Call (.Attribute a "values" apos) [] [] Eg) X.env)::starEach [] X.env:=by rfl)(fO:(backTo Ma (starEach [] X.env)).any (·.1)=false:=by rfl) :
  VP X Z (.Call (.Name "min" p1) [.Call (.Attribute a "values" apos) [] [] Eg] [] Ma) (WW fa):=.mk λtm=>
 PE.weak (pH (vC hc) hgl hml OD (bf (Ad Ue PySem.F.slot_dict_values PySem.F.type_dict_values Ej (ha tm) dj dm) cC he) (by decide) (by decide) he fO) λσ H Q ⟨ρ,O,q,I,hf,k⟩ =>
  ⟨ρ,O,_,I,hf,λx hx v H1 s1 a1=>by
    split at hx
    rename_i ks ts
    obtain⟨is,rfl,fY,hq⟩:=hx;obtain⟨d,vs,rfl,hl,hd,hv⟩:=a1.dk;refine⟨.inr (.inr (.inl ⟨rfl,.inl ⟨_,hd⟩⟩)),d,_,rfl,rfl,hd,λb hb=>?_⟩;have sb:aO H1 (upd H1 b (Cs b d)):=aA hb;have ev:vs=is.map V.int:=by
     clear hq fY hl hd a1;induction is generalizing vs with
     |nil=>simpa only[Km,az] using hv
     |cons i is ih=>simp only[fU,az,At] at hv;obtain⟨v,r,rfl,rfl,h2⟩:=hv;rw[ih r h2];rfl
    subst ev;refine⟨b,d,_,is,rfl,aC,sb _ _ hd,?_,fY,λm h1 h2=>k _ (hq m h1 h2) _ _ (s1.trans sb) ⟨(I.same s1).same sb,bz⟩⟩;rw[List.map_snd_zip];rw[hl];exact cS _;exact hx.elim⟩
end
structure Hu(K:Δ)(H H':Hp)(Ox:ο)(us:ξ)(p:Addr)(ls:ο):Prop where
 same:aO H H'
 tup:H' p=some (.tup (ls.map V.ref))
 nd:ls.Nodup
 new:∀a∈ls,H a=none
 rts:Paired (λa t=>ck K H' (ls++Ox) a t) ls us
def WX(K:Δ)(n:Nat)(G:ξ->(ξ->Prop)->Prop):Sp:=λvs H Q _=>∃ts Ox q,(∀a∈Ox,H a≠none)/\az K H Ox ts vs/\ts.length=n/\G ts q /\
 ∀us,q us->∀p ls H',Hu K H H' Ox us p ls->Q (.ref p) H'
structure adj(K:Δ)(Z:Zc)(tm:qab)(d:FD)(dp:ξ->Prop)(D:Ends):Prop where
 fin:Fin K Z tm d D
 dp:∀us,dp us->∀p ls H',Hu K Z.H0 H' Z.Ox us p ls->D.rt (.ref p) H'
abbrev RO:=FD->(ξ->Prop)->En->Prop
def lSD(X:Cx)(Z:Zc)(tm:qab)(g:RO):TS:=λD σ H=>∃ρ O d dp,ay X.K Z tm O ρ σ H/\g d dp ρ/\adj X.K Z tm d dp D
def Hv(X:Cx)(Z:Zc)(st:qaq)(g:RO):Prop:=Bx λtm=>hY X st (lSD X Z tm g)
instance{X:Cx}{Z:Zc}{st:qaq}{g:RO}:CoeFun (Hv X Z st g) λ_=>∀tm,hY X st (lSD X Z tm g):=⟨λh=>Bx.h h⟩
noncomputable def Md(ρ:En):qao->Option (ξ)
 |[]=>some []
 |i::is=>match ρ[i]?,Md ρ is with
  |some (some (t,true)),some ts=>some (t::ts)
  |_,_=>none
section
variable{st:Stmt}{rest:qaq}{g:FS}{u:RO}{pos:Pos}
def WY(g:FS)(u:RO):RO:=λd dp ρ=>g {d with nx:=u d dp} ρ
def ig(h1:VS X Z st g)(h2:Hv X Z rest u):Hv X Z (st::rest) (WY g u):=.mk λtm=>hY.ia (cN (h1 tm) (h2 tm)) λD σ H ⟨ρ,O,d,dp,I,h,F⟩ =>
 ⟨ρ,O,{d with nx:=u d dp},I,h,⟨λO' ρ' σ' H' I' h'=>⟨ρ',O',d,dp,I',h',F⟩,F.fin.rt,F.fin.bk,F.fin.ct⟩⟩
def vD(X:Cx):qap->qao->Prop
 |[],is=>is=[]
 |e::es,is=>∃x p i js,e=.Name x p/\is=i::js/\X.N[i]?=some x/\jQ X.env.scope x/\(x==("__debug__":Str))=false/\(x==("__classdict__":Str))=false/\starEach (e::es) X.env=(false,eval e X.env)::starEach es X.env/\vD X es js
def WZ(is:qao):TA:=λσ H Q=>∃vs,Paired (λ(i:Nat) (v:V)=>σ[i]?=some (some v)) is vs/\Q vs H
theorem Cu:∀{es:qap}{is:qao},vD X es is->PA X es (WZ is)
 |[],is,h=>λpos γ s σ H Q I ⟨vs,hv,q⟩=>by have e:is=[]:=h;subst e;cases hv;exact cC pos γ s σ H Q I q
 |e::es,is,h=>by
  obtain⟨x,p,i,js,rfl,rfl,h1,h2,h3,h4,h5,h6⟩:=h;exact PA.weak (bf (bP h1 h2 h3 h4) (Cu h6) h5) λσ H Q ⟨vs,hv,q⟩=>by
   cases hv with
   |cons r t=>exact⟨_,r,_,t,q⟩
theorem yc{K:Δ}{tm:qab}{O:HD}{ρ:En}{σ:St}{H:Hp}(I:ay K Z tm O ρ σ H):∀{is:qao}{ts:ξ},Md ρ is=some ts ->
  ∃ls:ο,Paired (λ(i:Nat) (v:V)=>σ[i]?=some (some v)) is (ls.map V.ref)/\Paired (λ(i:Nat) (a:Addr)=>O[i]?=some (some a)) is ls/\Paired (λa t=>ck K H (av Z O) a t) ls ts
 |[],ts,h=>by cases h;exact⟨[],.nil,.nil,.nil⟩
 |i::is,ts,h=>by
   simp only[Md] at h;split at h
   rename_i t us e1 e2
   cases h;obtain⟨a,h1,h2,h3⟩:=I.root e1;obtain⟨ls,g1,g2,g3⟩:=yc I e2;exact⟨a::ls,.cons h2 g1,.cons h1 g2,.cons h3 g3⟩;cases h
def gS{R:α->β->Prop}{l:List α}{m:List β}(h:Paired R l m){b:β}(hb:b∈m):∃a∈l,R a b:=by
 induction h with
 |nil=>cases hb
 |cons r t ih=>
  rcases cU.mp hb with e|hb
  subst e;exact⟨_,c6,r⟩;obtain⟨a,h1,h2⟩:=ih hb;exact⟨a,fJ _ h1,h2⟩
def Az{tm:qab}(I:ay K Z tm O ρ σ H){ls:ο}(nd:is.Nodup)(h:Paired (λ(i:Nat) (a:Addr)=>O[i]?=some (some a)) is ls):ls.Nodup:=by
 induction h with
 |nil=>exact Ft
 |cons r t ih=>rw[jg] at nd ⊢;refine⟨λm=>?_,ih nd.2⟩;obtain⟨j,hj,e⟩:=gS t m;exact nd.1 (by rw[Cg I r e];exact hj)
noncomputable def OU(is:qao):RO:=λ_ dp ρ=>match Md ρ is with
 |some ts=>dp ts
 |none=>False
def Me{x1}(hP:Z.P=[])(hn:vD X es is)(nd:is.Nodup)(hl:is.length<=100):Hv X Z [.Return (some (.Tuple es x1 p)) pos] (OU is):=.mk λtm=>
 jR (PS.weak (uC (uE (Cu hn))) λD σ H ⟨ρ,O,d,dp,I,h,F⟩=>by
  unfold OU at h;split at h
  rename_i ts e
  obtain⟨ls,g1,g2,g3⟩:=yc I e;refine⟨ls.map V.ref,g1,?_,λq hq=>F.dp ts h q ls _ ⟨?_,aC,Az I nd g2,λa ha=>?_,?_⟩⟩;rw[cJ,<- Qb g2,μ];omega;intro b o eb;have:=I.keep b o eb (by rw[hP];exact λz=>nomatch z);rw[aG (bo this hq)];exact this;obtain⟨i,_,e⟩:=gS g2 ha;rcases (I.own a (aH.mpr (eS e))).1 with z|z
  rw[hP] at z;exact nomatch z;exact z;refine Paired.k5 g3 λa t r=>(r.same (aA hq)).aY λb hb=>?_;rcases cK.mp hb with z|z
  obtain⟨i,_,e⟩:=gS g2 z;exact cA _ (aH.mpr (eS e));exact bZ _ z;exact h.elim)
end
section
def dv(n:Nat):roots (List.replicate n none)=[]:=by
 unfold roots;induction n with
 |zero=>rfl
 |succ n ih=>rw[FV,j5];exact ih
def jT{N:π}{ts:ξ}(hN:ts.length<=N.length)(ox:∀a∈Ox,H a≠none)(h:az K H Ox ts vs) :
  ay K ⟨H,[],Ox⟩ [] (List.replicate N.length none) (ts.map (λt=>some (t,false))++List.replicate (N.length-ts.length) none) (start N vs) H:=by
 have hl:=h.length;have ea:av ⟨H,[],Ox⟩ (List.replicate N.length none)=Ox:=by unfold av;rw[dv];rfl
 refine⟨?_,by simp;omega,λi e he=>?_,by rw[dv];exact Ft,λa ha=>?_,λp hp=>(nomatch hp),ox,λb o e _=>e,λp hp=>(nomatch hp)⟩;unfold L2.start;simp[hl];rw[ea];by_cases hi:i<ts.length;rw[rR (by simpa using hi),hU] at he;have e1:ts[i]?=some ts[i]:=by simp
 rw[e1] at he;cases he;obtain⟨v,h1,h2⟩:=h.get e1;refine⟨none,some v,by rw[BE,ε (by omega)],?_,rfl,v,rfl,h2⟩;unfold L2.start;rw[rR (by rw[cJ];omega),hU,h1];rfl;rw[rY (by simpa using hi),BE] at he;split at he
 rename_i h9
 cases he;rw[cJ] at h9;refine⟨none,none,by rw[BE,ε (by omega)],?_,rfl⟩;unfold L2.start;rw[rY (by rw[cJ];omega),BE,cJ,ε (by omega)];cases he;rw[dv] at ha;exact nomatch ha
def fnD{st:Stmt}{N:π}{k:Nat}{G:ξ->(ξ->Prop)->Prop}(F:BZ K x qual st f fd)(S:aE N ps (aj st))(hn:n=ps.length)(hN:n<=N.length)(dF:∀(bB:Value) (A:Around) (outer:List Env) (s:Shared) (H:Hp) (E:XK) (Ox:ο),bF k (A.deeper (envOfC qual (aj st) s.heap.objs.size f bB))->∀ts q,G ts q ->
    ∃g,Hv (fP eD P w K mg base N qual (aj st) f bB A outer s H E).pF ⟨H,[],Ox⟩ (bG st) g/\(ts.length=n->g {nx:=λ_=>False,rt:=λ_ _=>False} q (ts.map (λt=>some (t,false))++List.replicate (N.length-ts.length) none))) :
  cq P w K mg base eD (k+1) f fd ps (WX K n G):=by
 refine F.ok S (λvs H Q E h=>?_) (λbB A outer s H vs Q E hr h=>?_);obtain⟨ts,Ox,q,_,ha,hl,_⟩:=h;rw[ha.length,hl,hn];obtain⟨ts,Ox,q,ox,ha,hl,hG,kk⟩:=h;obtain⟨g,hg,hq⟩:=dF bB A outer s H E Ox hr ts q hG;exact⟨_,hg [],_,_,_,q,jT (by omega) ox ha,hq hl,⟨⟨λ_ _ _ _ _ h=>h.elim,λ_ _ _ _ _ _ _ h=>h.elim,λ_ _ _ _ _ h=>h.elim,λ_ _ _ _ _ h=>h.elim⟩,λus hu p ls H' D=>kk us hu p ls H' D⟩⟩
end
section
variable{k:Nat}{G:ξ->(ξ->Prop)->Prop}{pos:Pos}
noncomputable def lD(X:Cx)(Z:Zc)(tm:qab)(f:En->(ξ->Prop)->Prop):TE:=λσ H Q=>∃ρ O q,ay X.K Z tm O ρ σ H/\f ρ q/\∀us,q us->∀p ls H',Hu X.K H H' (av Z O) us p ls->Q (.ref p) H'
def VD(X:Cx)(Z:Zc)(e:Expr)(f:En->(ξ->Prop)->Prop):Prop:=Bx λtm=>PE X e (lD X Z tm f)
instance{X:Cx}{Z:Zc}{e:Expr}{f:En->(ξ->Prop)->Prop}:CoeFun (VD X Z e f) λ_=>∀tm,PE X e (lD X Z tm f):=⟨λh=>Bx.h h⟩
def RP(n:Nat)(g:FA)(G:ξ->(ξ->Prop)->Prop):En->(ξ->Prop)->Prop:=λρ Q=>g ρ λts=>ts.length=n/\G ts Q
def Mh(F:cq X.prog X.w X.K X.mg X.base eD k f fd ps (WX X.K n G))(hr:bF k X.A)(hg:Gl X x)(hm:X.mg x=some (.ref f))(hk:W.keepIn X.K (.ref f)=true)(hb:Binds X.K fd ps [])(ha:VA X Z (e::es) g)(kj:gq x:=by decide)(he:starEach (e::es) X.env=(false,eval e X.env)::starEach es X.env:=by rfl)(fO:(backTo pos (starEach es X.env)).any (·.1)=false:=by rfl) :
  VD X Z (.Call (.Name x p) (e::es) [] pos) (RP n g G):=.mk λtm=>PE.weak (iF F hr hg hm hk hb .nil i8 (ha tm) kj he fO) λσ H Q ⟨ρ,O,q,I,hf,k⟩ =>
 ⟨ρ,O,_,I,hf,λts dZ vs H1 s1 a1=>by
   show WX X.K n G (vs++[]) H1 Q E0;rw[xc];refine⟨ts,av Z O,q,(I.same s1).uR,a1,dZ.1,dZ.2,λus hu p ls H' D=>k us hu p ls H' ⟨s1.trans D.same,D.tup,D.nd,λa ha=>?_,D.rts⟩⟩;cases z:H a with
   |none=>rfl
   |some o=>have:=D.new a ha;rw[s1 _ _ z] at this;cases this⟩
def Hu.at{tm:qab}{us:ξ}{p:Addr}{ls:ο}(I:ay K Z tm O ρ σ H)(D:Hu K H H' (av Z O) us p ls):At K H' (av Z O) (.tup us) (.ref p):=by
 refine bU (dz.of D.tup) (az.iff.mpr ?_);have key:∀{Ze:ο}{KC:ξ},(∀a∈Ze,a∈ls)->Paired (λa t=>ck K H' (ls++av Z O) a t) Ze KC->Paired (λv t=>At K H' (av Z O) t v) (Ze.map V.ref) KC:=by
  intro Ze KC sub h;induction h with
  |nil=>exact .nil
  |cons r t ih=>refine .cons ((r.aY λb hb=>bZ _ hb).at λz=>?_) (ih λa ha=>sub a (fJ _ ha));exact I.uR _ z (D.new _ (sub _ c6))
 exact key (λ_ h=>h) D.rts
def W0(f:En->(ξ->Prop)->Prop):FP:=λρ Q=>f ρ λus=>Q (.vw (.tup us))
def VD.vp{f:En->(ξ->Prop)->Prop}(h:VD X Z e f):VP X Z e (W0 f):=.mk λtm=>PE.weak (h tm) λσ H Q ⟨ρ,O,q,I,hf,k⟩ =>
 ⟨ρ,O,_,I,hf,λus hu p ls H' D=>k _ hu _ H' D.same ⟨I.same D.same,D.at I⟩⟩
end
def ay.nW{tm:qab}(I:ay K Z tm O ρ σ H)(s:Option V)(hp:bN Z i):ay K Z tm (O.set i none) (ρ.set i none) (σ.set i s) H:=by
 have J:=I.forget hp;refine⟨by simp[I.lσ],J.lO,λj e h=>?_,J.nd,J.own,J.par,J.ox,J.keep,J.oB⟩;obtain⟨o,w,h1,h2,h3⟩:=J.sl j e h;rcases get_set h with⟨rfl,rfl,hl⟩|⟨ne,h'⟩
 exact⟨o,s,h1,by rw[Dx (by rw[I.lσ];exact hl)],h3⟩;exact⟨o,w,h1,by rw[tq (Ne.symm ne)];exact h2,h3⟩
noncomputable def RQ(X:Cx)(i:Nat)(y:Str):Cx:={X with N:=X.N.set i y}
def RS(o:X.Ok):(RQ X i y).Ok :=
 ⟨o.mod,o.kind,o.glob,o.blt,o.above,o.inj,o.has,o.Qi,o.hd,o.frames,o.Up,o.YR,o.bs,o.F8,o.zM,o.DF,o.k6,o.KZ⟩
def Hw(o:(RQ X i y).Ok):X.Ok :=
 ⟨o.mod,o.kind,o.glob,o.blt,o.above,o.inj,o.has,o.Qi,o.hd,o.frames,o.Up,o.YR,o.bs,o.F8,o.zM,o.DF,o.k6,o.KZ⟩
def Mi{s:Shared}(i:Nat)(y:Str)(I:Inv X γ σ H s):Inv (RQ X i y) γ (σ.set i none) H s:=by
 obtain⟨m,hn,hl⟩:=I.loc;refine⟨RS I.ok,I.os,I.bare,I.base,⟨m,hn,λj x v h1 h2 h3=>?_⟩,I.cell,I.free,I.hW,I.pin,I.cj,?_⟩;rcases get_set h2 with⟨_,e,_⟩|⟨ne,h2⟩
 cases e;have Ci:(X.N.set i y)[j]?=some x:=h1;rw[tq (Ne.symm ne)] at Ci;exact hl j x v Ci h2 h3;show (σ.set i none).length=(X.N.set i y).length;rw[Fq,Fq];exact I.len
def jU{s:Shared}(I:Inv (RQ X i y) γ σ H s):Inv X γ (σ.set i none) H s:=by
 obtain⟨m,hn,hl⟩:=I.loc;refine⟨Hw I.ok,I.os,I.bare,I.base,⟨m,hn,λj x v h1 h2 h3=>?_⟩,I.cell,I.free,I.hW,I.pin,I.cj,?_⟩;rcases get_set h2 with⟨_,e,_⟩|⟨ne,h2⟩
 cases e;refine hl j x v ?_ h2 h3;show (X.N.set i y)[j]?=some x;rw[tq (Ne.symm ne)];exact h1;have:=I.len;have e:(RQ X i y).N.length=X.N.length:=by show (X.N.set i y).length=_;rw[Fq]
 rw[Fq];omega
noncomputable def Hx(i:Nat)(d:FD):FD:={nx:=λρ=>d.nx (ρ.set i none),rt:=λρ r=>d.rt (ρ.set i none) r,bk:=λρ=>d.bk (ρ.set i none),ct:=λρ=>d.ct (ρ.set i none)}
noncomputable def W2(i:Nat)(g:FS):FS:=λd ρ=>g (Hx i d) (ρ.set i none)
noncomputable def Hy(i:Nat)(D:Ends):Ends:={nx:=λσ H=>D.nx (σ.set i none) H,rt:=D.rt,bk:=λσ H=>D.bk (σ.set i none) H,ct:=λσ H=>D.ct (σ.set i none) H}
def gy.nW{tm:qab}{r:Rt}(s:Option V)(hp:bN Z i)(h:gy K Z tm O ρ σ H r v):gy K Z tm (O.set i none) (ρ.set i none) (σ.set i s) H r v:=by
 cases r with
 |vw t=>exact⟨h.1.nW s hp,h.2.aY (cf i)⟩
 |fr t=>obtain⟨a,e,I,q,h0⟩:=h;exact⟨a,e,I.nW (Z:=Z.ex a) s hp,q.aY (cf i),h0⟩
def Hz{tm:qab}{d:FD}{D:Ends}(hp:bN Z i)(F:Fin K Z tm d D):Fin K Z tm (Hx i d) (Hy i D) :=
 ⟨λO ρ σ H I h=>F.nx _ _ _ H (I.nW none hp) h,λO ρ σ H r v z h=>F.rt _ _ _ H r v (z.nW none hp) h,λO ρ σ H I h=>F.bk _ _ _ H (I.nW none hp) h,λO ρ σ H I h=>F.ct _ _ _ H (I.nW none hp) h⟩
section
variable{st:Stmt}{sts:qaq}{g:FS}
theorem Mj{D:Ends}:∀{f:Flow}{s':Shared},SP (RQ X i y) γ (Hy i D) f s'->SP X γ D f s'
 |.next,s',⟨σ',H',I,q⟩=>⟨σ'.set i none,H',jU I,q⟩
 |.brk,s',⟨σ',H',I,q⟩=>⟨σ'.set i none,H',jU I,q⟩
 |.cont,s',⟨σ',H',I,q⟩=>⟨σ'.set i none,H',jU I,q⟩
 |.ret u,s',⟨v,σ',H',I,r,q⟩=>⟨v,σ'.set i none,H',jU I,r,q⟩
def Cv(i:Nat)(y:Str)(hp:bN Z i)(h:VS (RQ X i y) Z st g):VS X Z st (W2 i g):=.mk λtm γ s σ H D I ⟨ρ,O,d,J,q,F⟩ =>
 b_ (h tm γ s (σ.set i none) H (Hy i D) (Mi i y I) ⟨ρ.set i none,O.set i none,Hx i d,J.nW none hp,q,Hz hp F⟩) λf s' z=>Mj z
end
section
variable{fo:FE}
def Ml(fo fe:FE):FP:=λρ Q=>fo ρ λx=>match x with
 |.str z=>fe ρ λy=>match y with
  |.str y=>Q (.vw (.bl (Txt.startswith z y)))
  |_=>False
 |_=>False
def Ek(ho:VR X Z o fo)(he:VR X Z e fe)(dj:attributeBase o "startswith" X.env (eval o X.env)=eval o X.env:=by rfl)(kn:((backTo aN (starEach [e] X.env)).all (λx=>!x.1) && (backToKw aN (keywordEach [] X.env)).all (λx=>x.1.isSome)
    && decide (([e]:qap).length+([]:List Keyword).length+(if ([]:List Keyword).isEmpty then 0 else 1)<30))=true:=by rfl)(dm:(apos.endLine==aN.line)=true:=by rfl)(hs:starEach [e] X.env=(false,eval e X.env)::starEach [] X.env:=by rfl)(dY:(backTo aN (starEach [] X.env)).any (·.1)=false:=by rfl) :
  VP X Z (.Call (.Attribute o "startswith" apos) [e] [] aN) (Ml fo fe):=.mk λtm=>
 PE.weak (pK PySem.F.plainAttrs_str PySem.F.slot_str_startswith PySem.F.type_str_startswith sg (ho tm) (bf (he tm) cC hs) dj kn dm hs dY) λσ H Q ⟨ρ,O,q,I,hf,k⟩ =>
  ⟨ρ,O,_,I,hf,λx hx v H1 s1 a1=>by
    split at hx
    rename_i z
    have ev:=a1.str;subst ev;refine⟨rfl,ρ,O,_,I.same s1,hx,λy hy w H2 s2 a2=>?_⟩;split at hy;have ew:=a2.str;subst ew;exact⟨z,_,rfl,rfl,k _ hy _ H2 (s1.trans s2) ⟨(I.same s1).same s2,eT⟩⟩;exact hy.elim;exact hx.elim⟩
end
section
variable{fo:FE}
def W3(fo:FE)(g:FA):FP:=λρ Q=>fo ρ λx=>match x with
 |.str z=>g ρ λy=>∃ys:π,y=[.lst (ys.map .str)]/\(ys.map (·.length)).sum+ys.length * z.length<=16777216/\Q (.vw (.str (Txt.join z ys)))
 |_=>False
theorem yd{K:Δ}{H:Hp}{A:ο}:∀{ys:π}{vs:Ω},az K H A (ys.map .str) vs->vs=ys.map V.str
 |[],vs,h=>by simpa only[Km,az] using h
 |y::ys,vs,h=>by simp only[fU,az,At] at h;obtain⟨v,r,rfl,rfl,h⟩:=h;rw[yd h];rfl
def t4(ho:VR X Z o fo)(he:Om X Z [e] g)(dj:attributeBase o "join" X.env (eval o X.env)=eval o X.env:=by rfl)(kn:((backTo aN (starEach [e] X.env)).all (λx=>!x.1) && (backToKw aN (keywordEach [] X.env)).all (λx=>x.1.isSome)
    && decide (([e]:qap).length+([]:List Keyword).length+(if ([]:List Keyword).isEmpty then 0 else 1)<30))=true:=by rfl)(dm:(apos.endLine==aN.line)=true:=by rfl)(hs:starEach [e] X.env=(false,eval e X.env)::starEach [] X.env:=by rfl)(dY:(backTo aN (starEach [] X.env)).any (·.1)=false:=by rfl) :
  VP X Z (.Call (.Attribute o "join" apos) [e] [] aN) (W3 fo g):=.mk λtm=>
 PE.weak (pK PySem.F.plainAttrs_str PySem.F.slot_str_join PySem.F.type_str_join Lu (ho tm) (he tm) dj kn dm hs dY) λσ H Q ⟨ρ,O,q,I,hf,k⟩ =>
  ⟨ρ,O,_,I,hf,λx hx v H1 s1 a1=>by
    split at hx
    rename_i z
    have ev:=a1.str;subst ev;refine⟨rfl,ρ,O,_,I.same s1,hx,λy hy w H2 s2 a2=>?_⟩;obtain⟨ys,rfl,hl,hq⟩:=hy;obtain⟨u,rfl,a3⟩:=dB a2;obtain⟨p,vs,rfl,h1,h2⟩:=a3.lst;have ev:=yd h2;subst ev;exact⟨z,p,ys,rfl,rfl,h1,hl,k _ hq _ H2 (s1.trans s2) ⟨(I.same s1).same s2,cD⟩⟩;exact hx.elim⟩
end
inductive S where
 |lf (t:T)
 |lst (xs:List S)
 |dk (ks:List Key) (ts:ξ)
 |dc (nh:List Key×Key->Int) (ks:List (List Key×Key)) (ts:ξ)
 |ins (C:Addr) (ns:π) (xs:List S)
mutual
noncomputable def S.t:S->T
 |.lf t=>t
 |.lst xs=>.lst (S.ts xs)
 |.dk ks ts=>.dk ks ts
 |.dc nh ks ts=>.dc nh ks ts
 |.ins C ns xs=>.ins C ns (S.ts xs)
noncomputable def S.ts:List S->ξ
 |[]=>[]
 |x::xs=>S.t x::S.ts xs
end
noncomputable def RT:Key->T
 |.inl i=>.int i
 |.inr x=>.str x
noncomputable def FR(c:List Key×Key):T:=.tup [.tup (c.1.map RT),RT c.2]
def vE{A:ο}(k:Key):At K H A (RT k) v↔v=kV k:=by cases k<;>simp only[RT,At,kV]
theorem o7{K:Δ}{H:Hp}{A:ο}:∀(ks:List Key){vs:Ω},az K H A (ks.map RT) vs↔vs=ks.map kV
 |[],vs=>by simp only[Km,az]
 |k::ks,vs=>by simp only[fU,az];constructor;rintro⟨v,r,rfl,h1,h2⟩;rw[(vE k).mp h1,(o7 ks).mp h2];rintro rfl;exact⟨_,_,rfl,(vE k).mpr rfl,(o7 ks).mpr rfl⟩
def vF{A:ο}{c:List Key×Key}{b:Addr}:At K H A (FR c) (.ref b)↔oA K H c b:=by unfold FR oA;simp only[At,az];constructor;rintro⟨a,vs,e,h1,v,r,rfl,⟨d,ws,rfl,h2,h3⟩,v2,r2,rfl,h4,rfl⟩;cases e;rw[(vE _).mp h4] at h1;rw[(o7 _).mp h3] at h2;exact⟨d,h1,h2⟩;rintro⟨d,h1,h2⟩;exact⟨b,_,rfl,h1,_,_,rfl,⟨d,_,rfl,h2,(o7 _).mpr rfl⟩,_,_,rfl,(vE _).mpr rfl,rfl⟩
mutual
def cn(K:Δ)(H:Hp)(A:ο):S->V->ο->Prop
 |.lf t,v,fp=>fp=[]/\At K H A t v
 |.lst xs,v,fp=>∃a vs iC,v=.ref a/\H a=some (.lst vs)/\fp=a::iC/\a_ K H A xs vs iC
 |.dk ks ts,v,fp=>∃a vs,v=.ref a/\fp=[a]/\ks.length=vs.length/\H a=some (.dK (ks.zip vs))/\az K H A ts vs
 |.dc nh ks ts,v,fp=>∃a xs vs,v=.ref a/\fp=[a]/\H a=some (.ext (mO nh a xs))/\ks=xs.map (·.1)/\(a==sysModules)=false/\(∀x∈xs,At K H A (FR x.1) (.ref x.2.1))/\Vals vs (xs.map (·.2.2))/\az K H A ts vs
 |.ins C ns xs,v,fp=>∃a dx vs iC,v=.ref a/\ns.length=vs.length/\H a=some (.ins C dx (ns.zip vs))/\fp=a::iC/\a_ K H A xs vs iC
def a_(K:Δ)(H:Hp)(A:ο):List S->Ω->ο->Prop
 |[],vs,fp=>vs=[]/\fp=[]
 |x::xs,vs,fp=>∃v r f g,vs=v::r/\fp=f++g/\cn K H A x v f/\a_ K H A xs r g
end
section
variable{A A':ο}
mutual
theorem cn.map(ha:∀t v,At K H A t v->At K H' A' t v):∀{s:S}{v:V}{fp:ο},(∀b∈fp,H' b=H b)->cn K H A s v fp->cn K H' A' s v fp
 |.lf t,v,fp,hn,h=>by simp only[cn] at h ⊢;exact⟨h.1,ha _ _ h.2⟩
 |.lst xs,v,fp,hn,h=>by simp only[cn] at h ⊢;obtain⟨a,vs,iC,rfl,e,rfl,q⟩:=h;exact⟨a,vs,iC,rfl,(hn a c6).trans e,rfl,a_.map ha (λb hb=>hn b (fJ _ hb)) q⟩
 |.dk ks ts,v,fp,hn,h=>by simp only[cn] at h ⊢;obtain⟨a,vs,rfl,rfl,l,e,q⟩:=h;exact⟨a,vs,rfl,rfl,l,(hn a c6).trans e,az.iff.mpr (Paired.k5 (az.iff.mp q) λ_ _ z=>ha _ _ z)⟩
 |.dc nh ks ts,v,fp,hn,h=>by simp only[cn] at h ⊢;obtain⟨a,xs,vs,rfl,rfl,e,ek,em,hk,hv,q⟩:=h;exact⟨a,xs,vs,rfl,rfl,(hn a c6).trans e,ek,em,λx hx=>ha _ _ (hk x hx),hv,az.iff.mpr (Paired.k5 (az.iff.mp q) λ_ _ z=>ha _ _ z)⟩
 |.ins C ns xs,v,fp,hn,h=>by simp only[cn] at h ⊢;obtain⟨a,dx,vs,iC,rfl,l,e,rfl,q⟩:=h;exact⟨a,dx,vs,iC,rfl,l,(hn a c6).trans e,rfl,a_.map ha (λb hb=>hn b (fJ _ hb)) q⟩
theorem a_.map(ha:∀t v,At K H A t v->At K H' A' t v):∀{xs:List S}{vs:Ω}{fp:ο},(∀b∈fp,H' b=H b)->a_ K H A xs vs fp->a_ K H' A' xs vs fp
 |[],vs,fp,hn,h=>by simpa only[a_] using h
 |x::xs,vs,fp,hn,h=>by simp only[a_] at h ⊢;obtain⟨v,r,f,g,rfl,rfl,h1,h2⟩:=h;exact⟨v,r,f,g,rfl,rfl,cn.map ha (λb hb=>hn b (cA _ hb)) h1,a_.map ha (λb hb=>hn b (bZ _ hb)) h2⟩
end
mutual
theorem cn.mut:∀{s:S}{v:V}{fp:ο},cn K H A s v fp->∀b∈fp,∃u,H b=some u/\j4 u=true
 |.lf t,v,fp,h,b,hb=>by simp only[cn] at h;rw[h.1] at hb;cases hb
 |.lst xs,v,fp,h,b,hb=>by
  simp only[cn] at h;obtain⟨a,vs,iC,rfl,e,rfl,q⟩:=h;rcases cU.mp hb with z|z
  rw[z];exact⟨_,e,rfl⟩;exact a_.mut q b z
 |.dk ks ts,v,fp,h,b,hb=>by simp only[cn] at h;obtain⟨a,vs,rfl,rfl,l,e,q⟩:=h;rw[iD.mp hb];exact⟨_,e,rfl⟩
 |.dc nh ks ts,v,fp,h,b,hb=>by simp only[cn] at h;obtain⟨a,xs,vs,rfl,rfl,e,_⟩:=h;rw[iD.mp hb];exact⟨_,e,rfl⟩
 |.ins C ns xs,v,fp,h,b,hb=>by
  simp only[cn] at h;obtain⟨a,dx,vs,iC,rfl,l,e,rfl,q⟩:=h;rcases cU.mp hb with z|z
  rw[z];exact⟨_,e,rfl⟩;exact a_.mut q b z
theorem a_.mut:∀{xs:List S}{vs:Ω}{fp:ο},a_ K H A xs vs fp->∀b∈fp,∃u,H b=some u/\j4 u=true
 |[],vs,fp,h,b,hb=>by simp only[a_] at h;rw[h.2] at hb;cases hb
 |x::xs,vs,fp,h,b,hb=>by
  simp only[a_] at h;obtain⟨v,r,f,g,rfl,rfl,h1,h2⟩:=h;rcases cK.mp hb with z|z
  exact cn.mut h1 b z;exact a_.mut h2 b z
end
def cn.same{s:S}(sm:aO H H')(h:cn K H A s v fp):cn K H' A s v fp :=
 h.map (λ_ _ q=>q.same sm) λb hb=>by obtain⟨u,e,_⟩:=h.mut b hb;rw[e];exact sm _ _ e
def cn.more{s:S}(m:∀a∈A',a∈A\/H a=none)(h:cn K H A s v fp):cn K H A' s v fp:=h.map (λ_ _ q=>q.more m) λ_ _=>rfl
def cn.aY{s:S}(m:∀a∈A',a∈A)(h:cn K H A s v fp):cn K H A' s v fp:=h.map (λ_ _ q=>q.aY m) λ_ _=>rfl
mutual
theorem cn.view:∀{s:S}{v:V}{fp:ο},(∀b∈A',b∈A)->(∀b∈fp,b∉A')->cn K H A s v fp->At K H A' s.t v
 |.lf t,v,fp,hs,hn,h=>by simp only[cn,S.t] at h ⊢;exact h.2.aY hs
 |.lst xs,v,fp,hs,hn,h=>by simp only[cn,S.t,At] at h ⊢;obtain⟨a,vs,iC,rfl,e,rfl,q⟩:=h;exact⟨a,vs,rfl,.inl ⟨.inl e,hn a c6⟩,a_.view hs (λb hb=>hn b (fJ _ hb)) q⟩
 |.dk ks ts,v,fp,hs,hn,h=>by simp only[cn,S.t,At] at h ⊢;obtain⟨a,vs,rfl,rfl,l,e,q⟩:=h;exact⟨a,vs,rfl,l,⟨e,hn a c6⟩,q.aY hs⟩
 |.dc nh ks ts,v,fp,hs,hn,h=>by simp only[cn,S.t,At] at h ⊢;obtain⟨a,xs,vs,rfl,rfl,e,ek,em,hk,hv,q⟩:=h;exact⟨a,xs,vs,rfl,⟨e,hn a c6⟩,ek,em,λx hx=>vF.mp (hk x hx),hv,q.aY hs⟩
 |.ins C ns xs,v,fp,hs,hn,h=>by simp only[cn,S.t,At] at h ⊢;obtain⟨a,dx,vs,iC,rfl,l,e,rfl,q⟩:=h;exact⟨a,dx,vs,rfl,l,⟨e,hn a c6⟩,a_.view hs (λb hb=>hn b (fJ _ hb)) q⟩
theorem a_.view:∀{xs:List S}{vs:Ω}{fp:ο},(∀b∈A',b∈A)->(∀b∈fp,b∉A')->a_ K H A xs vs fp->az K H A' (S.ts xs) vs
 |[],vs,fp,hs,hn,h=>by simp only[a_,S.ts,az] at h ⊢;exact h.1
 |x::xs,vs,fp,hs,hn,h=>by simp only[a_,S.ts,az] at h ⊢;obtain⟨v,r,f,g,rfl,rfl,h1,h2⟩:=h;exact⟨v,r,rfl,cn.view hs (λb hb=>hn b (cA _ hb)) h1,a_.view hs (λb hb=>hn b (bZ _ hb)) h2⟩
end
end
inductive kA where
 |fld (C:Addr) (f:Str)
 |last
noncomputable def kB(f:Str):π->Option Nat
 |[]=>none
 |n::ns=>match f==n with
  |true=>some 0
  |false=>(kB f ns).map (· + 1)
noncomputable def S.W4:S->kA->Option Nat
 |.ins C ns xs,.fld C' f=>if C'=C then kB f ns else none
 |.lst xs,.last=>if 0<xs.length then some (xs.length-1) else none
 |_,_=>none
noncomputable def S.kids:S->List S
 |.lst xs=>xs
 |.ins _ _ xs=>xs
 |_=>[]
noncomputable def S.with:S->List S->S
 |.lst _,ys=>.lst ys
 |.ins C ns _,ys=>.ins C ns ys
 |s,_=>s
noncomputable def S.get:S->List kA->Option S
 |s,[]=>some s
 |s,p::ps=>match s.W4 p with
  |some i=>match s.kids[i]? with
   |some x=>x.get ps
   |none=>none
  |none=>none
noncomputable def S.put:S->List kA->S->S
 |_,[],y=>y
 |s,p::ps,y=>match s.W4 p with
  |some i=>match s.kids[i]? with
   |some x=>s.with (s.kids.set i (x.put ps y))
   |none=>s
  |none=>s
noncomputable def gB(H:Hp)(v:V)(p:kA):Option V:=match v with
 |.ref a=>match H a with
  |some (.ins C _ fs)=>match p with
   |.fld C' f=>if C'=C then fs.lookup f else none
   |.last=>none
  |some (.lst vs)=>match p with
   |.last=>vs.getLast?
   |_=>none
  |_=>none
 |_=>none
noncomputable def valAt(H:Hp):V->List kA->Option V
 |v,[]=>some v
 |v,p::ps=>(gB H v p).bind λw=>valAt H w ps
theorem ng(H:Hp)(p:kA):∀(ps:List kA)(v:V),valAt H v (ps++[p])=(valAt H v ps).bind λw=>gB H w p
 |[],v=>by show (gB H v p).bind (λw=>some w)=(some v).bind λw=>gB H w p;simp
 |q::ps,v=>by
  show (gB H v q).bind (λw=>valAt H w (ps++[p]))=((gB H v q).bind λw=>valAt H w ps).bind λw=>gB H w p;cases gB H v q with
  |none=>rfl
  |some w=>exact ng H p ps w
theorem ni(f:Str):∀(ns:π)(vs:Ω){i:Nat},kB f ns=some i->(ns.zip vs).lookup f=vs[i]?
 |[],vs,i,h=>by cases h
 |n::ns,[],i,h=>by simp
 |n::ns,v::vs,i,h=>by
  rw[Fm,Kg];unfold kB at h;cases q:f==n with
  |true=>rw[q] at h;cases h;rfl
  |false=>
   rw[q] at h;dsimp only at h;cases e:kB f ns with
   |none=>rw[e] at h;cases h
   |some j=>rw[e] at h;cases h;exact ni f ns vs e
section
variable{A:ο}
theorem a_.length:∀{xs:List S}{vs:Ω}{fp:ο},a_ K H A xs vs fp->vs.length=xs.length
 |[],vs,fp,h=>by simp only[a_] at h;rw[h.1];rfl
 |x::xs,vs,fp,h=>by simp only[a_] at h;obtain⟨v,r,f,g,rfl,rfl,h1,h2⟩:=h;simp[a_.length h2]
theorem a_.focus:∀{xs:List S}{vs:Ω}{fp:ο}{i:Nat}{x:S},a_ K H A xs vs fp->xs[i]?=some x->∃v f1 f f2,vs[i]?=some v/\fp=f1++(f++f2)/\cn K H A x v f /\
  ∀{H':Hp}{A':ο}{y:S}{g:ο},(∀t v,At K H A t v->At K H' A' t v)->(∀b∈f1++f2,H' b=H b)->cn K H' A' y v g->a_ K H' A' (xs.set i y) vs (f1++(g++f2))
 |[],vs,fp,i,x,h,e=>by simp at e
 |x0::xs,vs,fp,0,x,h,e=>by simp only[YD,Option.some.injEq] at e;subst e;simp only[a_] at h;obtain⟨v,r,f,g,rfl,rfl,h1,h2⟩:=h;refine⟨v,[],f,g,rfl,rfl,h1,λha hn hy=>?_⟩;simp only[N7,a_];exact⟨v,r,_,g,rfl,rfl,hy,a_.map ha (λb hb=>hn b (by simpa using hb)) h2⟩
 |x0::xs,vs,fp,i+1,x,h,e=>by
   simp only[List.getElem?_cons_succ] at e;simp only[a_] at h;obtain⟨v,r,f,g,rfl,rfl,h1,h2⟩:=h;obtain⟨w,f1,f',f2,e1,rfl,h3,k⟩:=a_.focus h2 e;refine⟨w,f++f1,f',f2,by simpa using e1,by rw[P7],h3,λha hn hy=>?_⟩;simp only[FW,a_];exact⟨v,r,f,_,rfl,by rw[P7],cn.map ha (λb hb=>hn b (by simp[hb])) h1,k ha (λb hb=>hn b (by
    rcases cK.mp hb with z|z
    simp[z];simp[z])) hy⟩
theorem cn.focus:∀{ps:List kA}{s x:S}{v:V}{fp:ο},cn K H A s v fp->s.get ps=some x->∃w f1 f f2,fp=f1++(f++f2)/\valAt H v ps=some w/\cn K H A x w f /\
  ∀{H':Hp}{A':ο}{y:S}{g:ο},(∀t v,At K H A t v->At K H' A' t v)->(∀b∈f1++f2,H' b=H b)->cn K H' A' y w g->cn K H' A' (s.put ps y) v (f1++(g++f2))
 |[],s,x,v,fp,h,e=>by cases e;exact⟨v,[],fp,[],by simp,rfl,h,λ_ _ hy=>by simpa[S.put] using hy⟩
 |p::ps,s,x,v,fp,h,e=>by
   unfold S.get at e;cases hk:s.W4 p with
   |none=>rw[hk] at e;cases e
   |some i=>
     rw[hk] at e;dsimp only at e;cases hx:s.kids[i]? with
     |none=>rw[hx] at e;cases e
     |some x0=>
       rw[hx] at e;dsimp only at e
       match s,h with
       |.lf t,h=>cases p<;>cases hk
       |.dk ks ts,h=>cases p<;>cases hk
       |.dc nh ks ts,h=>cases p<;>cases hk
       |.lst xs,h=>
         simp only[cn] at h;obtain⟨a,vs,iC,rfl,ea,rfl,q⟩:=h;obtain⟨v1,f1,f,f2,hv,rfl,h1,k1⟩:=a_.focus q hx;obtain⟨w,g1,g,g2,rfl,ev,h2,k2⟩:=cn.focus h1 e;have e1:gB H (.ref a) p=some v1:=by
          cases p with
          |fld C f=>cases hk
          |last=>have Cw:(if 0<xs.length then some (xs.length-1) else none)=some i:=hk;split at Cw;cases Cw;unfold gB;dsimp only;rw[ea];dsimp only;rw[Ub,q.length];exact hv;cases Cw
         refine⟨w,a::(f1++g1),g,g2++f2,by simp,by show (gB H (.ref a) p).bind _=_;rw[e1];exact ev,h2,λ{H' A' y g'} ha hn hy=>?_⟩;unfold S.put;rw[hk];dsimp only;rw[hx];dsimp only;have h3:=k1 ha (λb hb=>hn b (by rcases cK.mp hb with z|z<;>simp[z])) (k2 ha (λb hb=>hn b (by rcases cK.mp hb with z|z<;>simp[z])) hy);simp only[S.with,S.kids,cn];exact⟨a,vs,_,rfl,(hn a (by simp)).trans ea,by simp,h3⟩
       |.ins C ns xs,h=>
         simp only[cn] at h;obtain⟨a,dx,vs,iC,rfl,l,ea,rfl,q⟩:=h;obtain⟨v1,f1,f,f2,hv,rfl,h1,k1⟩:=a_.focus q hx;obtain⟨w,g1,g,g2,rfl,ev,h2,k2⟩:=cn.focus h1 e;have e1:gB H (.ref a) p=some v1:=by
          cases p with
          |last=>cases hk
          |fld C' f=>
            have Cw:(if C'=C then kB f ns else none)=some i:=hk;split at Cw
            rename_i hC
            unfold gB;dsimp only;rw[ea];dsimp only;rw[ε hC,ni f ns vs Cw];exact hv;cases Cw
         refine⟨w,a::(f1++g1),g,g2++f2,by simp,by show (gB H (.ref a) p).bind _=_;rw[e1];exact ev,h2,λ{H' A' y g'} ha hn hy=>?_⟩;unfold S.put;rw[hk];dsimp only;rw[hx];dsimp only;have h3:=k1 ha (λb hb=>hn b (by rcases cK.mp hb with z|z<;>simp[z])) (k2 ha (λb hb=>hn b (by rcases cK.mp hb with z|z<;>simp[z])) hy);simp only[S.with,S.kids,cn];exact⟨a,dx,vs,_,rfl,l,(hn a (by simp)).trans ea,by simp,h3⟩
end
structure Mz where
 H0:Hp
 tQ:ο
 Ox:ο
 a:Addr
 k:Nat
noncomputable def oM(H:Hp)(L:ο):Hp:=λb=>if b∈L then none else H b
def ye{L:ο}{b:Addr}{o:HO}(h:oM H L b=some o):H b=some o/\b∉L:=by
 unfold oM at h;split at h;cases h
 rename_i n;exact⟨h,n⟩
def HA{L:ο}{b:Addr}(h:oM H L b=none):b∈L\/H b=none:=by
 unfold oM at h;split at h
 rename_i n;exact .inl n
 exact .inr h
def HB{L:ο}{b:Addr}(h:b∈L):oM H L b=none:=by unfold oM;rw[ε h]
def Mm{L:ο}{b:Addr}(h:b∉L):oM H L b=H b:=by unfold oM;rw[η h]
structure Mf(K:Δ)(M:Mz)(O:HD)(fp:ο)(s:S)(H:Hp):Prop where
 nX:cn K H (roots O++(fp++M.Ox)) s (.ref M.a) fp
 nd:fp.Nodup
 nq:∀b∈fp,b∉roots O/\b∉M.Ox
 fr:∀b∈fp,b∈M.tQ\/M.H0 b=none
 kp:∀b o,M.H0 b=some o->b∉M.tQ->H b=some o/\b∉roots O
noncomputable abbrev zf(M:Mz)(O:HD)(H:Hp):Zc:=⟨oM H (roots O),[],M.Ox⟩
section
variable{M:Mz}{Of:HD}{s:S}{Hf:Hp}{tm:qab}
def Mf.now(F:Mf K M Of fp s Hf)(I:ay K (zf M Of Hf) tm O ρ σ H)(hr:∀b∈roots Of,∃u,Hf b=some u/\j4 u=true):Mf K M O fp s H:=by
 have old:∀b∈roots O,b∈roots Of\/Hf b=none:=λb hb=>by
  rcases (I.own b hb).1 with z|z
  cases z;exact HA z
 have kept:∀b o,Hf b=some o->b∉roots Of->H b=some o:=λb o e n=>I.keep b o (by show oM Hf (roots Of) b=some o;rw[Mm n];exact e) (by show b∉[];simp);have iC:∀b∈fp,∃u,Hf b=some u/\j4 u=true:=F.nX.mut;refine⟨?_,F.nd,λb hb=>⟨λz=>?_,(F.nq b hb).2⟩,F.fr,λb o e n=>?_⟩;refine cn.map (λt v q=>?_) (λb hb=>?_) F.nX;have q1:At K Hf (roots Of++(roots O++(fp++M.Ox))) t v:=q.more λa ha=>by
  rcases cK.mp ha with z|z
  exact .inl (cA _ z);rcases cK.mp z with z|z
  rcases old a z with y|y
  exact .inl (cA _ y);exact .inr y;exact .inl (bZ _ z)
 have q2:At K H (roots Of++(roots O++(fp++M.Ox))) t v:=q1.pZ (as:=roots Of) kept (λa ha=>cA _ ha) hr;exact q2.aY λa ha=>bZ _ ha;obtain⟨u,e,_⟩:=iC b hb;rw[e];exact kept b u e (F.nq b hb).1;rcases old b z with y|y
 exact (F.nq b hb).1 y;obtain⟨u,e,_⟩:=iC b hb;rw[e] at y;cases y;obtain⟨h1,h2⟩:=F.kp b o e n;refine⟨kept b o h1 h2,λz=>?_⟩;rcases old b z with y|y
 exact h2 y;rw[h1] at y;cases y
def ay.rebase(I:ay K Z tm O ρ σ H)(hZ:Z.P=[]):ay K ⟨oM H (roots O),[],Z.Ox⟩ tm O ρ σ H :=
 ⟨I.lσ,I.lO,I.sl,I.nd,λa h=>⟨.inr (HB h),(I.own a h).2⟩,λp hp=>(nomatch hp),I.ox,λb o e _=>(ye e).1,I.oB⟩
structure lC(K:Δ)(M:Mz)(ρ:En)(s:S)(σ:St)(H:Hp):Prop where
 ex:∃O fp,Mf K M O fp s H/\ay K (zf M O H) [] O ρ σ H
 pin:ρ[M.k]?=some (some (.pin M.a s.t,false))
def lC.of(F:Mf K M Of fp s Hf)(hr:∀b∈roots Of,∃u,Hf b=some u/\j4 u=true)(I:ay K (zf M Of Hf) [] O ρ σ H)(hp:ρ[M.k]?=some (some (.pin M.a s.t,false))):lC K M ρ s σ H :=
 ⟨⟨O,fp,F.now I hr,I.rebase (Z:=zf M Of Hf) rfl⟩,hp⟩
def bE(I:ay K (zf M O H) tm O ρ σ H):∀b∈roots O,∃u,H b=some u/\j4 u=true:=λb hb=>(I.own b hb).2.2
noncomputable def jV:Option (T×Bool)->Option (T×Bool)
 |some (t,false)=>if bQ t=true then some (t,false) else none
 |e=>e
def fE:Option (T×Bool)->Prop
 |some (.lst ts,true)=>dC ts=true
 |some (.dk _ ts,true)=>dC ts=true
 |some (_,true)=>False
 |_=>True
noncomputable def kD(M:Mz)(ρ:En)(s:S):En:=(ρ.map jV).set M.k (some (.pin M.a s.t,false))
theorem ck.bQ{A A':ο}{t:T}(hi:fE (some (t,true)))(h:ck K H A a t)(e:H' a=H a)(hm:∀t v,bQ t=true->At K H A t v->At K H' A' t v):ck K H' A' a t:=by
 have ml:∀{ts:ξ}{vs:Ω},dC ts=true->az K H A ts vs->az K H' A' ts vs:=by
  intro ts;induction ts with
  |nil=>intro vs _ q;simpa only[az] using q
  |cons t ts ih=>intro vs hi q;simp only[dC,oR] at hi;simp only[az] at q ⊢;obtain⟨v,r,rfl,q1,q2⟩:=q;exact⟨v,r,rfl,hm _ _ hi.1 q1,ih hi.2 q2⟩
 cases t with
 |lst ts=>obtain⟨vs,e1,q⟩:=h;exact⟨vs,e.trans e1,ml hi q⟩
 |dk ks ts=>obtain⟨vs,l,e1,q⟩:=h;exact⟨vs,l,e.trans e1,ml hi q⟩
 |_=>exact False.elim hi
def Mf.write{fp':ο}{s':S}(F:Mf K M O fp s H)(I:ay K (zf M O H) [] O ρ σ H)(oN:∀e∈ρ,fE e)(hk:ρ[M.k]?≠none)(ho:O[M.k]?=some none)(hσ:σ[M.k]?=some (some (.ref M.a)))(fr:∀b o,H b=some o->b∉fp->H' b=some o)(hS:cn K H' (roots O++(fp'++M.Ox)) s' (.ref M.a) fp')(nd:fp'.Nodup)(nq:∀b∈fp',b∉roots O/\b∉M.Ox)(Zf:∀b∈fp',b∈M.tQ\/M.H0 b=none):lC K M (kD M ρ s') s' σ H':=by
 have kept:∀b∈roots O,H' b=H b:=λb hb=>by obtain⟨u,e,_⟩:=bE I b hb;rw[e];exact fr _ _ e λz=>(F.nq b z).1 hb
 have tr:∀t v,bQ t=true->At K H (av (zf M O H) O) t v->At K H' (roots O++M.Ox) t v:=λt v hi q=>by have q1:At K H fp t v:=At.bQ hi q;exact At.bQ hi (q1.pZ (as:=fp) fr (λa h=>h) F.nX.mut)
 have adk:M.k<ρ.length:=by
  cases h:ρ[M.k]? with
  |none=>exact absurd h hk
  |some e=>exact (fQ.mp h).1
 refine⟨⟨O,fp',⟨hS,nd,nq,Zf,λb o e n=>?_⟩,⟨?_,?_,λj e h=>?_,I.nd,λb hb=>⟨.inr (HB hb),(I.own b hb).2.1,?_⟩,λp hp=>(nomatch hp),λb hb=>?_,λb o e _=>(ye e).1,λp hp=>(nomatch hp)⟩⟩,?_⟩;obtain⟨h1,h2⟩:=F.kp b o e n;refine⟨fr _ _ h1 λz=>?_,h2⟩;rcases F.fr b z with y|y
 exact n y;rw[e] at y;cases y;unfold kD;rw[Fq,cJ];exact I.lσ;unfold kD;rw[Fq,cJ];exact I.lO;unfold kD at h;rcases get_set h with⟨rfl,rfl,hl⟩|⟨ne,h⟩
 refine⟨none,_,ho,hσ,rfl,.ref M.a,rfl,?_⟩;simp only[At];refine⟨trivial,hS.view (λb hb=>?_) (λb hb z=>?_)⟩;rcases cK.mp hb with z|z
 exact cA _ z;exact bZ _ (bZ _ z);rcases cK.mp z with z|z
 exact (nq b hb).1 z;exact (nq b hb).2 z;rw[List.getElem?_map] at h;cases h0:ρ[j]? with
 |none=>rw[h0] at h;cases h
 |some e0=>
  rw[h0] at h;have he:jV e0=e:=Option.some.inj h;obtain⟨o,w,h1,h2,h3⟩:=I.sl j e0 h0;refine⟨o,w,h1,h2,?_⟩;subst he
  match e0,h3,h0 with
  |none,h3,_=>exact h3
  |some (t,false),h3,_=>obtain⟨rfl,v,rfl,q⟩:=h3;show mP K H' (av (zf M O H') O) (if bQ t=true then some (t,false) else none) none (some v);by_cases hi:bQ t=true;rw[ε hi];exact⟨rfl,v,rfl,tr t v hi q⟩;rw[η hi];rfl
  |some (t,true),h3,h0=>obtain⟨c,rfl,rfl,q⟩:=h3;exact⟨c,rfl,rfl,q.bQ (oN _ (eS h0)) (kept c (aH.mpr (eS h1))) tr⟩
 obtain⟨u,e,m⟩:=(I.own b hb).2.2;exact⟨u,(kept b hb).trans e,m⟩;cases e:H b with
 |none=>exact absurd e (I.ox b hb)
 |some u=>rw[fr _ _ e λz=>(F.nq b z).2 hb];simp
 unfold kD;rw[Dx (by rw[cJ];exact adk)]
end
structure OW where
 nx:En->S->Prop
 rt:En->S->qam
 bk:En->S->Prop:=λ_ _=>False
 ct:En->S->Prop:=λ_ _=>False
structure RU(K:Δ)(M:Mz)(d:OW)(D:Ends):Prop where
 nx:∀ρ s σ H,lC K M ρ s σ H->d.nx ρ s->D.nx σ H
 rt:∀ρ s σ H r v O fp Of Hf,Mf K M Of fp s Hf->(∀b∈roots Of,∃u,Hf b=some u/\j4 u=true)->gy K (zf M Of Hf) [] O ρ σ H r v->d.rt ρ s r->D.rt v H
 bk:∀ρ s σ H,lC K M ρ s σ H->d.bk ρ s->D.bk σ H
 ct:∀ρ s σ H,lC K M ρ s σ H->d.ct ρ s->D.ct σ H
abbrev FM:=OW->En->S->Prop
def lM(X:Cx)(M:Mz)(g:FM):TS:=λD σ H=>∃ρ s d,lC X.K M ρ s σ H/\g d ρ s/\RU X.K M d D
structure Bm(p:Prop):Prop where
 h:p
def MS(X:Cx)(M:Mz)(st:Stmt)(g:FM):Prop:=Bm (PS X st (lM X M g))
def Cy(X:Cx)(M:Mz)(st:qaq)(g:FM):Prop:=Bm (hY X st (lM X M g))
section
variable{M:Mz}{st:Stmt}{rest:qaq}{g u:FM}{pos:Pos}
def W5:FM:=λd ρ s=>d.nx ρ s
def adl(g u:FM):FM:=λd ρ s=>g {d with nx:=u d} ρ s
def Mn:Cy X M [] W5:=⟨hY.ia BL λD σ H ⟨ρ,s,d,I,h,F⟩=>F.nx ρ s σ H I h⟩
def cv(h1:MS X M st g)(h2:Cy X M rest u):Cy X M (st::rest) (adl g u):=⟨hY.ia (cN h1.h h2.h) λD σ H ⟨ρ,s,d,I,h,F⟩ =>
 ⟨ρ,s,{d with nx:=u d},I,h,⟨λρ' s' σ' H' I' h'=>⟨ρ',s',d,I',h',F⟩,F.rt,F.bk,F.ct⟩⟩⟩
def cb(h1:MS X M st g):Cy X M [st] g:=⟨jR h1.h⟩
def Cy.weak(h:Cy X M rest g)(hw:∀d ρ s,u d ρ s->g d ρ s):Cy X M rest u:=⟨hY.ia h.h λD σ H ⟨ρ,s,d,I,q,F⟩=>⟨ρ,s,d,I,hw d ρ s q,F⟩⟩
noncomputable def dPl(M:Mz)(d:OW)(s:S):FD:={nx:=λρ'=>ρ'[M.k]?=some (some (.pin M.a s.t,false))/\d.nx ρ' s,rt:=λρ' r=>d.rt ρ' s r,bk:=λρ'=>ρ'[M.k]?=some (some (.pin M.a s.t,false))/\d.bk ρ' s,ct:=λρ'=>ρ'[M.k]?=some (some (.pin M.a s.t,false))/\d.ct ρ' s}
noncomputable def mPl(M:Mz)(g:FS):FM:=λd ρ s=>g (dPl M d s) ρ
def RW{s:S}{d:OW}{D:Ends}(F:Mf K M O fp s H)(I:ay K (zf M O H) [] O ρ σ H)(Fi:RU K M d D):Fin K (zf M O H) [] (dPl M d s) D :=
 ⟨λO' ρ' σ' H' J ⟨h1,h2⟩=>Fi.nx _ _ _ _ (lC.of F (bE I) J h1) h2,λO' ρ' σ' H' r v z h=>Fi.rt _ _ _ _ r v _ _ _ _ F (bE I) z h,λO' ρ' σ' H' J ⟨h1,h2⟩=>Fi.bk _ _ _ _ (lC.of F (bE I) J h1) h2,λO' ρ' σ' H' J ⟨h1,h2⟩=>Fi.ct _ _ _ _ (lC.of F (bE I) J h1) h2⟩
def eI{g:FS}(h:∀H0,VS X ⟨H0,[],M.Ox⟩ st g):MS X M st (mPl M g):=⟨PS.ia λD σ H ⟨ρ,s,d,⟨⟨O,fp,F,I⟩,hp⟩,hg,Fi⟩=>⟨_,h (oM H (roots O)) [],ρ,O,_,I,hg,RW F I Fi⟩⟩
 where PS.ia {t:TS} (hw:∀D σ H,t D σ H->∃t':TS,PS X st t'/\t' D σ H):PS X st t:=λγ s σ H D I q=>let ⟨t',h1,h2⟩:=hw D σ H q;h1 γ s σ H D I h2
def mIf(c:FB)(g u:FM):FM:=λd ρ s=>c ρ λb=>if b=true then g d ρ s else u d ρ s
def t5{a b:qaq}(hc:∀H0,VC X ⟨H0,[],M.Ox⟩ c fc)(ha:Cy X M a g)(hb:Cy X M b u):MS X M (.If c a b pos) (mIf fc g u):=⟨λγ s' σ H D J ⟨ρ,s,d,⟨⟨O,fp,F,I⟩,hp⟩,hg,Fi⟩ =>
 Oc (hc (oM H (roots O)) []) ha.h hb.h γ s' σ H D J ⟨ρ,O,_,I,hg,λb hb H' sm=>by
  have St:lC X.K M ρ s σ H':=lC.of F (bE I) (I.same sm) hp;cases b with
  |true=>rw[ε rfl] at hb;exact QU ⟨ρ,s,d,St,hb,Fi⟩
  |false=>rw[η gZ] at hb;exact QT ⟨ρ,s,d,St,hb,Fi⟩⟩⟩
end
noncomputable def ju(k:Nat)(ps:List kA):TE:=λσ H Q=>∃v w,σ[k]?=some (some v)/\valAt H v ps=some w/\Q w H
section
variable{i:Expr}{k:Nat}{ps:List kA}{f:Str}{pos:Pos}
def kF(hN:X.N[k]?=some x:=by rfl)(hv:jQ X.env.scope x:=by exact jvv rfl)(hd:gq x:=by decide)(fH:rQ x:=by decide):PE X (.Name x pos) (ju k []):=PE.weak (bP hN hv hd fH) λσ H Q ⟨v,w,h1,h2,q⟩=>by cases h2;exact⟨v,h1,q⟩
def jv(cl:zW X.K C)(na:bp X.K C f)(he:PE X e (ju k ps))(hb:attributeBase e f X.env (eval e X.env)=eval e X.env:=by rfl):PE X (.Attribute e f pos) (ju k (ps++[.fld C f])) :=
 PE.weak (zZ he hb) λσ H Q ⟨v,w,h1,h2,q⟩=>by
  rw[ng] at h2;cases e0:valAt H v ps with
  |none=>rw[e0] at h2;cases h2
  |some w0=>
   rw[e0] at h2;have h3:gB H w0 (.fld C f)=some w:=h2;refine⟨v,w0,h1,e0,?_⟩;unfold gB at h3;split at h3
   rename_i a
   split at h3
   rename_i C' dx fs ea
   dsimp only at h3;split at h3
   rename_i hC
   subst hC;exact⟨a,_,dx,fs,w,rfl,ea,cl,na,h3,q⟩;cases h3;dsimp only at h3;cases h3;cases h3;cases h3
def Mo(he:PE X e (ju k ps))(hi:PE X i (tC (.int (-1))))(hs:uJ i:=by intro _ _;rfl):PE X (.Subscript e i pos) (ju k (ps++[.last])) :=
 PE.weak (Oj BW he hi hs) λσ H Q ⟨v,w,h1,h2,q⟩=>by
  rw[ng] at h2;cases e0:valAt H v ps with
  |none=>rw[e0] at h2;cases h2
  |some w0=>
   rw[e0] at h2;have h3:gB H w0 .last=some w:=h2;refine⟨v,w0,h1,e0,?_⟩;unfold gB at h3;split at h3
   rename_i a
   split at h3;dsimp only at h3;cases h3
   rename_i vs ea
   dsimp only at h3;refine⟨a,vs,-1,w,rfl,rfl,gw.of ea,?_,q⟩;have hl:0<vs.length:=by cases vs<;>simp_all
   rw[Ub] at h3;unfold km xx;rw[η (by decide),ε (by omega)];have e:(-1+(vs.length:Int)).toNat=vs.length-1:=by omega
   rw[e];exact h3;cases h3;cases h3
end
def W6{j}{p':Pos}:PE X (.UnaryOp .USub (.Constant (.int 1) j p) p') (tC (.int (-1))):=PE.weak (Oe Gh F_) λσ H Q h=>⟨_,rfl,h⟩
section
variable{M:Mz}{s:S}{A:ο}
theorem a_.OX:∀{xs:List S}{vs:Ω}{fp:ο}{i:Nat}{t0 t:T}{v:V},a_ K H A xs vs fp->xs[i]?=some (.lf t0)->At K H A t v->a_ K H A (xs.set i (.lf t)) (vs.set i v) fp
 |[],vs,fp,i,t0,t,v,h,e,q=>by simp at e
 |x::xs,vs,fp,0,t0,t,v,h,e,q=>by cases e;simp only[a_,cn] at h;obtain⟨v0,r,f,g,rfl,rfl,⟨rfl,_⟩,h2⟩:=h;simp only[N7,a_,cn];exact⟨v,r,[],g,rfl,rfl,⟨rfl,q⟩,h2⟩
 |x::xs,vs,fp,i+1,t0,t,v,h,e,q=>by simp only[a_] at h;obtain⟨v0,r,f,g,rfl,rfl,h1,h2⟩:=h;simp only[FW,a_];exact⟨v0,r.set i v,f,g,rfl,rfl,h1,h2.OX (by simpa using e) q⟩
theorem Cz(f:Str)(y:V):∀(ns:π)(vs:Ω){i:Nat},ns.length=vs.length->kB f ns=some i->dD f y (ns.zip vs)=ns.zip (vs.set i y)
 |[],vs,i,_,h=>by cases h
 |n::ns,[],i,l,h=>by simp at l
 |n::ns,v::vs,i,l,h=>by
  rw[Fm];show (if n=f then (n,y)::ns.zip vs else (n,v)::dD f y (ns.zip vs))=_;unfold kB at h;cases q:f==n with
  |true=>rw[q] at h;cases h;rw[ε (eq_of_beq q).symm];rfl
  |false=>
   rw[q] at h;have ne:¬ n=f:=λe=>by rw[e] at q;simp at q
   rw[η ne];cases z:kB f ns with
   |none=>rw[z] at h;cases h
   |some j=>rw[z] at h;cases h;rw[Cz f y ns vs (by simpa using l) z];rfl
def cO(I:ay K (zf M O H) [] O ρ σ H)(hp:ρ[M.k]?=some (some (.pin M.a s.t,false))):O[M.k]?=some none/\σ[M.k]?=some (some (.ref M.a)):=by obtain⟨o,sv,h1,h2,h3⟩:=I.sl M.k _ hp;obtain⟨rfl,v,rfl,q⟩:=h3;simp only[At] at q;obtain⟨rfl,_⟩:=q;exact⟨h1,h2⟩
def Mf.put{ps:List kA}{x:S}(F:Mf K M O fp s H)(I:ay K (zf M O H) [] O ρ σ H)(hp:ρ[M.k]?=some (some (.pin M.a s.t,false)))(oN:∀e∈ρ,fE e)(hg:s.get ps=some x) :
  ∃w f,valAt H (.ref M.a) ps=some w/\cn K H (roots O++(fp++M.Ox)) x w f/\(∀b∈f,b∈fp)/\f.Nodup /\
   ∀{b:Addr}{u:HO}{y:S},b∈f->cn K (upd H b u) (roots O++(fp++M.Ox)) y w f->lC K M (kD M ρ (s.put ps y)) (s.put ps y) σ (upd H b u):=by
 obtain⟨w,f1,f,f2,AA,ev,hs,back⟩:=F.nX.focus hg;have sub:∀b∈f,b∈fp:=λb hb=>by rw[AA];exact bZ _ (cA _ hb)
 have nd:=F.nd;have Mp:=nd;rw[AA] at Mp;have ndf:f.Nodup:=((zC.mp Mp).2.1 |> zC.mp).1;refine⟨w,f,ev,hs,sub,ndf,λ{b u y} hb hy=>?_⟩;obtain⟨ho,hσ⟩:=cO I hp;obtain⟨u0,e0,m0⟩:=F.nX.mut b (sub b hb);have hA:b∈roots O++(fp++M.Ox):=bZ _ (cA _ (sub b hb));refine F.write I oN (by rw[hp];simp) ho hσ (λb' o e n=>?_) (fp':=fp) ?_ nd F.nq F.fr;rw[aG (λz=>n (by rw[z];exact sub b hb))];exact e;have r:=back (H':=upd H b u) (A':=roots O++(fp++M.Ox)) (λt v q=>q.wrote hA e0 m0) (λb' RX=>?_) hy;rw[<- AA] at r;exact r;refine aG λz=>?_;subst z;have n1:=zC.mp Mp;have n2:=zC.mp n1.2.1;rcases cK.mp RX with q|q
 exact n1.2.2 _ q _ (cA _ hb) rfl;exact n2.2.2 _ hb _ q rfl
end
section
variable{M:Mz}{f:Str}{pos:Pos}
noncomputable def adm(M:Mz)(C:Addr)(f:Str)(fe:FE):FM:=λd ρ s=>fe ρ λt=>bQ t=true/\(∀e∈ρ,fE e)/\∃ns xs i t0,s=.ins C ns xs/\xs.length<1000/\kB f ns=some i/\xs[i]?=some (.lf t0)/\d.nx (kD M ρ (.ins C ns (xs.set i (.lf t)))) (.ins C ns (xs.set i (.lf t)))
def qu(cl:zW X.K C)(na:bp X.K C f)(he:∀H0,VE X ⟨H0,[],M.Ox⟩ e fe)(hN:X.N[M.k]?=some x)(hv:jQ X.env.scope x:=by exact jvv rfl)(hd:gq x:=by decide)(fH:rQ x:=by decide)(hs:swapsWith e (some (.Attribute (.Name x p) f dX)) pos.line X.env=pure false:=by rfl) :
  MS X M (.Assign [.Attribute (.Name x p) f dX] e pos) (adm M C f fe):=⟨λγ s' σ H D J ⟨ρ,s,d,⟨⟨O,fp,F,I⟩,hp⟩,hg,Fi⟩=>by
 refine fW (bP hN hv hd fH) (he (oM H (roots O)) []) hs γ s' σ H D J ⟨ρ,O,_,I,hg,λt ht v H1 sm a=>?_⟩;obtain⟨hi,oN,ns,xs,i,t0,rfl,hlen,hix,hx,hq⟩:=ht;have I0:=I.same sm;have F1:=F.now I0 (bE I);have I1:=I0.rebase (Z:=zf M O H) rfl;obtain⟨w,f',ev,hS,sub,nd,wr⟩:=F1.put (ps:=[]) I1 hp oN rfl;cases ev;have rV:=hS;simp only[cn] at rV;obtain⟨a',dx,vs,iC,ea,hl,ha,rfl,hL⟩:=rV;cases ea;obtain⟨_,hσ⟩:=cO I1 hp;refine⟨.ref M.a,hσ,M.a,C,dx,_,rfl,ha,cl,na,?_,?_⟩;rw[KR,hl,KU,hL.length];exact hlen;rw[Cz f v ns vs hl hix];have hA:M.a∈roots O++(fp++M.Ox):=bZ _ (cA _ (sub _ c6));refine Fi.nx _ _ σ _ (wr (y:=.ins C ns (xs.set i (.lf t))) c6 ?_) hq;simp only[cn];refine⟨M.a,dx,vs.set i v,iC,rfl,by rw[Fq];exact hl,aC,rfl,?_⟩;refine (hL.map (λt v q=>q.wrote hA ha rfl) λb hb=>aG λz=>?_).OX hx ((At.bQ hi a).wrote hA ha rfl);subst z;exact (jg.mp nd).1 hb⟩
end
def El(sm:aO H H'){w:V}{p:kA}(h:gB H v p=some w):gB H' v p=some w:=by
 unfold gB at h ⊢;split at h
 rename_i a
 cases e:H a with
 |none=>rw[e] at h;cases h
 |some o=>rw[e] at h;rw[sm _ _ e];exact h
 cases h
theorem gc{H H':Hp}(sm:aO H H'):∀{ps:List kA}{v w:V},valAt H v ps=some w->valAt H' v ps=some w
 |[],v,w,h=>h
 |p::ps,v,w,h=>by
  unfold valAt at h ⊢;cases e:gB H v p with
  |none=>rw[e] at h;cases h
  |some u=>rw[e] at h;rw[El sm e];exact gc sm (ps:=ps) h
section
variable{M:Mz}{i:Expr}{ps:List kA}{pos:Pos}
noncomputable def W7(M:Mz)(ps:List kA)(fi fe:FE):FM:=λd ρ s=>fe ρ λt=>(∃x,s.get ps=some x)/\fi ρ λj=>match vy j with
 |some kk=>bQ t=true/\(∀e∈ρ,fE e)/\∃ks ts,s.get ps=some (.dk ks ts)/\ts.length<16777216/\d.nx (kD M ρ (s.put ps (.dk (dP ks kk) (bO ks ts kk t)))) (s.put ps (.dk (dP ks kk) (bO ks ts kk t)))
 |none=>False
def CA{fi:FE}(hu:X.A.units+1<cLine)(ho:PE X o (ju M.k ps))(hi:∀H0,VR X ⟨H0,[],M.Ox⟩ i fi)(he:∀H0,VE X ⟨H0,[],M.Ox⟩ e fe)(hs:swapsWith e (some (.Subscript o i dX)) pos.line X.env=pure false:=by rfl) :
  MS X M (.Assign [.Subscript o i dX] e pos) (W7 M ps fi fe):=⟨λγ s' σ H D J ⟨ρ,s,d,⟨⟨O,fp,F,I⟩,hp⟩,hg,Fi⟩=>by
 refine o6 hu ho (hi (oM H (roots O)) []) (he (oM H (roots O)) []) hs γ s' σ H D J ⟨ρ,O,_,I,hg,λt ht v H1 s1 a1=>?_⟩;obtain⟨⟨x,hx⟩,ht⟩:=ht;obtain⟨w,_,_,_,_,ev,_,_⟩:=(F.now (I.same s1) (bE I)).nX.focus hx;obtain⟨_,hσ⟩:=cO I hp;refine⟨.ref M.a,w,hσ,ev,ρ,O,_,I.same s1,ht,λj hj w' H2 s2 a2=>?_⟩;split at hj
 rename_i kk ek
 obtain⟨KD,oN,ks,ts,Em,hlen,hq⟩:=hj;have I0:=(I.same s1).same s2;have F2:=F.now I0 (bE I);have I2:=I0.rebase (Z:=zf M O H) rfl;obtain⟨w2,f',HC,hS,sub,nd,wr⟩:=F2.put (ps:=ps) I2 hp oN Em;rw[gc s2 ev] at HC;cases HC;have rV:=hS;simp only[cn] at rV;obtain⟨l,xs,rfl,rfl,hl,h3,h4⟩:=rV;have q:=Av ks xs kk v hl;have hz:(ks.zip xs).length<sizeLine:=by rw[μ,KR,hl,KU,h4.length];omega
 have hA:l∈roots O++(fp++M.Ox):=bZ _ (cA _ (sub _ c6));rw[iO a2 ek];refine⟨l,_,rfl,sG.k h3 hz,?_⟩;rw[q.1];refine Fi.nx _ _ σ _ (wr (y:=.dk (dP ks kk) (bO ks ts kk t)) c6 ?_) hq;simp only[cn];exact⟨l,bO ks xs kk v,rfl,rfl,q.2,aC,az.wrote hA h3 rfl (qp h4 (At.bQ KD (a1.same s2)))⟩;exact hj.elim⟩
end
theorem a_.HF{A:ο}{t:T}:∀{xs:List S}{vs:Ω}{fp:ο},a_ K H A xs vs fp->At K H A t v->a_ K H A (xs++[.lf t]) (vs++[v]) fp
 |[],vs,fp,h,q=>by simp only[a_] at h;obtain⟨rfl,rfl⟩:=h;simp only[U1,a_,cn];exact⟨v,[],[],[],rfl,rfl,⟨rfl,q⟩,rfl,rfl⟩
 |x::xs,vs,fp,h,q=>by simp only[a_] at h;obtain⟨v0,r,f,g,rfl,rfl,h1,h2⟩:=h;simp only[FZ,a_];exact⟨v0,r++[v],f,g,rfl,rfl,h1,h2.HF q⟩
section
variable{M:Mz}{ps:List kA}{pos:Pos}
noncomputable def adn(M:Mz)(ps:List kA)(fe:FE):FM:=λd ρ s=>∃ys,s.get ps=some (.lst ys)/\ys.length<16777216/\fe ρ λt=>bQ t=true/\(∀e∈ρ,fE e)/\d.nx (kD M ρ (s.put ps (.lst (ys++[.lf t])))) (s.put ps (.lst (ys++[.lf t])))
def Eo(ho:PE X o (ju M.k ps))(he:∀H0,VE X ⟨H0,[],M.Ox⟩ e fe)(dj:attributeBase o "append" X.env (eval o X.env)=eval o X.env:=by rfl)(kn:((backTo aN (starEach [e] X.env)).all (λx=>!x.1) && (backToKw aN (keywordEach [] X.env)).all (λx=>x.1.isSome)
    && decide (([e]:qap).length+([]:List Keyword).length+(if ([]:List Keyword).isEmpty then 0 else 1)<30))=true:=by rfl)(dm:(apos.endLine==aN.line)=true:=by rfl)(hs:starEach [e] X.env=(false,eval e X.env)::starEach [] X.env:=by rfl)(dY:(backTo aN (starEach [] X.env)).any (·.1)=false:=by rfl)(Ls:swapsWith (.Call (.Attribute o "append" apos) [e] [] aN) none pos.line X.env=pure false:=by rfl) :
  MS X M (.Expr (.Call (.Attribute o "append" apos) [e] [] aN) pos) (adn M ps fe):=⟨λγ s' σ H D J ⟨ρ,s,d,⟨⟨O,fp,F,I⟩,hp⟩,hg,Fi⟩=>by
 obtain⟨ys,Em,hlen,hg⟩:=hg;obtain⟨w,_,f,_,_,ev,W8,_⟩:=F.nX.focus Em;have yf:=W8;simp only[cn] at yf;obtain⟨l,xs,iC,rfl,hl,rfl,hL⟩:=yf;obtain⟨_,hσ⟩:=cO I hp;refine k7 (pK Uc BC BD bR ho (bf (he (oM H (roots O)) []) cC hs) dj kn dm hs dY) Ls γ s' σ H D J
  ⟨.ref M.a,.ref l,hσ,ev,.inl ⟨rfl,xs,gw.of hl⟩,ρ,O,_,I,hg,λt ht v H1 s1 a1=>?_⟩
 obtain⟨KD,oN,hq⟩:=ht;have I0:=I.same s1;have F1:=F.now I0 (bE I);have I1:=I0.rebase (Z:=zf M O H) rfl;obtain⟨w2,f',HC,hS,sub,nd,wr⟩:=F1.put (ps:=ps) I1 hp oN Em;rw[gc s1 ev] at HC;cases HC;have rV:=hS;simp only[cn] at rV;obtain⟨l',FH,Mq,e',uz,rfl,W9⟩:=rV;cases e';have hA:l∈roots O++(fp++M.Ox):=bZ _ (cA _ (sub _ c6));refine⟨l,FH,v,rfl,rfl,uz,by rw[μ,W9.length];omega,?_⟩;refine Fi.nx _ _ σ _ (wr (y:=.lst (ys++[.lf t])) c6 ?_) hq;simp only[cn];refine⟨l,FH++[v],Mq,rfl,aC,rfl,?_⟩;refine (W9.map (λt v q=>q.wrote hA uz rfl) λb hb=>aG λz=>?_).HF ((At.bQ KD a1).wrote hA uz rfl);subst z;exact (jg.mp nd).1 hb⟩
end
section
variable{M:Mz}{s:S}{A:ο}
theorem Mf.ado{ps:List kA}{x:S}(F:Mf K M O fp s H)(I:ay K (zf M O H) [] O ρ σ H)(hp:ρ[M.k]?=some (some (.pin M.a s.t,false)))(oN:∀e∈ρ,fE e)(hg:s.get ps=some x) :
  ∃w f,valAt H (.ref M.a) ps=some w/\cn K H (roots O++(fp++M.Ox)) x w f/\(∀b∈f,b∈fp)/\f.Nodup /\
   ∀{H':Hp}{g:ο}{y:S},(∀b o,H b=some o->b∉f->H' b=some o)->g.Nodup->(∀b∈g,b∈f\/H b=none) ->
    (∀A',(∀t v,At K H (roots O++(fp++M.Ox)) t v->At K H' A' t v)->cn K H' A' y w g)->lC K M (kD M ρ (s.put ps y)) (s.put ps y) σ H':=by
 obtain⟨w,f1,f,f2,AA,ev,hs,back⟩:=F.nX.focus hg;have sub:∀b∈f,b∈fp:=λb hb=>by rw[AA];exact bZ _ (cA _ hb)
 have lF:∀b∈f1++f2,b∈fp:=λb hb=>by
  rw[AA];rcases cK.mp hb with z|z
  exact cA _ z;exact bZ _ (bZ _ z)
 have Mp:=F.nd;rw[AA] at Mp;have n1:=zC.mp Mp;have n2:=zC.mp n1.2.1;refine⟨w,f,ev,hs,sub,n2.1,λ{H' g y} fr ndg RY hy=>?_⟩;obtain⟨ho,hσ⟩:=cO I hp;have out:∀b∈f1++f2,b∉f:=λb hb z=>by
  rcases cK.mp hb with q|q
  exact n1.2.2 _ q _ (cA _ z) rfl;exact n2.2.2 _ z _ q rfl
 have go:∀t v,At K H (roots O++(fp++M.Ox)) t v->At K H' (roots O++((f1++(g++f2))++M.Ox)) t v:=λt v q=>by
  have q1:At K H (g++(roots O++(fp++M.Ox))) t v:=q.more λa ha=>by
   rcases cK.mp ha with z|z
   rcases RY a z with y|y
   exact .inl (bZ _ (cA _ (sub a y)));exact .inr y;exact .inl z
  have q2:=q1.pZ (H':=H') (as:=f) fr (λa ha=>bZ _ (bZ _ (cA _ (sub a ha)))) λa ha=>F.nX.mut a (sub a ha);refine q2.aY λa ha=>?_;rcases cK.mp ha with z|z
  exact bZ _ (cA _ z);rcases cK.mp z with z|z
  rcases cK.mp z with z|z
  exact bZ _ (bZ _ (cA _ (lF a (cA _ z))));rcases cK.mp z with z|z
  exact cA _ z;exact bZ _ (bZ _ (cA _ (lF a (bZ _ z))));exact bZ _ (bZ _ (bZ _ z))
 have RZ:∀b∈fp,H b≠none:=λb hb=>by obtain⟨u,e,_⟩:=F.nX.mut b hb;rw[e];simp
 have each:∀b∈f1++(g++f2),b∈fp\/H b=none:=λb hb=>by
  rcases cK.mp hb with z|z
  exact .inl (lF b (cA _ z));rcases cK.mp z with z|z
  exact (RY b z).imp (sub b) id;exact .inl (lF b (bZ _ z))
 have HG:∀b∈g,b∉f1++f2:=λb hb z=>by
  rcases RY b hb with y|y
  exact out b z y;exact RZ b (lF b z) y
 refine F.write I oN (by rw[hp];simp) ho hσ (λb' o e n=>fr b' o e λz=>n (sub b' z)) (fp':=f1++(g++f2)) ?_ ?_ (λb hb=>?_) λb hb=>?_;refine back (H':=H') (A':=roots O++((f1++(g++f2))++M.Ox)) go (λb' RX=>?_) (hy _ go);obtain⟨u,e,_⟩:=F.nX.mut b' (lF b' RX);rw[e];exact fr _ _ e (out b' RX);refine zC.mpr ⟨n1.1,zC.mpr ⟨ndg,n2.2.1,λa ha b hb z=>?_⟩,λa ha b hb z=>?_⟩;subst z;exact HG a ha (bZ _ hb);subst z;rcases cK.mp hb with y|y
 exact HG a y (cA _ ha);exact n1.2.2 _ ha _ (bZ _ y) rfl;rcases each b hb with z|z
 exact F.nq b z;refine⟨λy=>I.uR b (cA _ y) z,λy=>I.uR b (bZ _ y) z⟩;rcases each b hb with z|z
 exact F.fr b z;cases e:M.H0 b with
 |none=>exact .inr rfl
 |some o=>refine .inl (UT λn=>?_);rw[(F.kp b o e n).1] at z;cases z
def lC.put{t:T}(S:lC K M ρ s σ H)(hj:M.k≠j)(hi:bQ t=true)(a:At K H A t v):lC K M (ρ.set j (some (t,false))) s (σ.set j (some v)) H:=by obtain⟨⟨O,fp,F,I⟩,hp⟩:=S;exact lC.of F (bE I) (I.put (λp hp=>absurd hp fK) (At.bQ hi a)) (by rw[tq (Ne.symm hj)];exact hp)
end
section
variable{A:ο}
theorem a_.HH{z:S}:∀{ys:List S}{vs:Ω}{fp:ο},a_ K H A (ys++[z]) vs fp->∃Uz v f g,vs=Uz++[v]/\fp=f++g/\a_ K H A ys Uz f/\cn K H A z v g
 |[],vs,fp,h=>by simp only[U1,a_] at h;obtain⟨v,r,f,g,rfl,rfl,h1,rfl,rfl⟩:=h;exact⟨[],v,[],f,rfl,by simp,by simp[a_],h1⟩
 |x::xs,vs,fp,h=>by simp only[FZ,a_] at h;obtain⟨v0,r,f,g,rfl,rfl,h1,h2⟩:=h;obtain⟨Uz,v,f',g',rfl,rfl,h3,h4⟩:=a_.HH h2;refine⟨v0::Uz,v,f++f',g',rfl,by simp,?_,h4⟩;simp only[a_];exact⟨v0,Uz,f,f',rfl,rfl,h1,h3⟩
def a_.W_:∀{xs:List S}{vs:Ω}{fp:ο}{i:Nat}{t:T},a_ K H A xs vs fp->xs[i]?=some (.lf t)->∃v,vs[i]?=some v/\At K H A t v:=λh e=>by obtain⟨v,f1,f,f2,e1,_,h1,_⟩:=h.focus e;simp only[cn] at h1;exact⟨v,e1,h1.2⟩
end
section
variable{M:Mz}{ps:List kA}{f:Str}{pos W' Xa:Pos}
noncomputable def Xb(M:Mz)(j:Nat)(ps:List kA)(C:Addr)(f:Str):FM:=λd ρ s=>∃ys ns zs i t,M.k≠j/\s.get ps=some (.lst (ys++[.ins C ns zs]))/\kB f ns=some i/\zs[i]?=some (.lf t)/\bQ t=true/\(∀e∈ρ,fE e)/\d.nx ((kD M ρ (s.put ps (.lst ys))).set j (some (t,false))) (s.put ps (.lst ys))
def Mr(hN:X.N.Nodup)(hj:X.N[j]?=some x)(hx:Loc X.env.scope x)(cl:zW X.K C)(na:bp X.K C f)(ho:PE X o (ju M.k ps))(dj:attributeBase o "pop" X.env (eval o X.env)=eval o X.env:=by rfl)(dm:(apos.endLine==aN.line)=true:=by rfl)(KA:attributeBase (.Call (.Attribute o "pop" apos) [] [] aN) f X.env (eval (.Call (.Attribute o "pop" apos) [] [] aN) X.env)=eval (.Call (.Attribute o "pop" apos) [] [] aN) X.env:=by rfl)(hs:swapsWith (.Attribute (.Call (.Attribute o "pop" apos) [] [] aN) f W') (some (.Name x Xa)) pos.line X.env=pure false:=by rfl)(hf:X.fn x=true\/X.env.scope.names.lookup x=some .local:=by first|exact .inl rfl|exact .inr rfl|assumption) :
  MS X M (.Assign [.Name x Xa] (.Attribute (.Call (.Attribute o "pop" apos) [] [] aN) f W') pos) (Xb M j ps C f):=⟨λγ s' σ H D J ⟨ρ,s,d,⟨⟨O,fp,F,I⟩,hp⟩,hg,Fi⟩=>by
 obtain⟨ys,ns,zs,i,t,hkj,Em,hix,hz,KD,oN,hq⟩:=hg;obtain⟨w,f',ev,hS,sub,nd,wr⟩:=F.ado (ps:=ps) I hp oN Em;have rV:=hS;simp only[cn] at rV;obtain⟨l,xs,iC,rfl,hl,rfl,hL⟩:=rV;obtain⟨xs0,v,g1,g2,rfl,rfl,hL1,hZ⟩:=hL.HH;simp only[cn] at hZ;obtain⟨a,dx,vs,fz,rfl,hlen,ha,rfl,hLz⟩:=hZ;obtain⟨u,eu,au⟩:=hLz.W_ hz;obtain⟨_,hσ⟩:=cO I hp;have nl:=jg.mp nd;have Zg:a≠l:=λz=>nl.1 (by rw[<- z];exact bZ _ c6);have hA:l∈roots O++(fp++M.Ox):=bZ _ (cA _ (sub _ c6));refine uD hN hj hx (zZ (Ad Uc PySem.F.slot_list_pop PySem.F.type_list_pop Gu ho dj dm) KA) hs hf γ s' σ H D J
  ⟨.ref M.a,.ref l,hσ,ev,.inl ⟨rfl,_,gw.of hl⟩,l,_,.ref a,rfl,rfl,hl,by simp,a,C,dx,_,u,rfl,by rw[aG Zg];exact ha,cl,na,by rw[ni f ns vs hix];exact eu,?_⟩
 rw[Uj];refine Fi.nx _ _ _ _ (lC.put (A:=[]) (wr (H':=upd H l (.lst xs0)) (g:=l::g1) (y:=.lst ys) (λb o e n=>?_) ?_ (λb hb=>?_) λA' go=>?_) hkj KD (At.bQ KD (au.wrote hA hl rfl))) hq;rw[aG λz=>n (by rw[z];exact c6)];exact e;refine jg.mpr ⟨λz=>nl.1 (cA _ z),(zC.mp nl.2).1⟩;rcases cU.mp hb with z|z
 exact .inl (by rw[z];exact c6);exact .inl (fJ _ (cA _ z));simp only[cn];refine⟨l,xs0,g1,rfl,aC,rfl,hL1.map go λb hb=>aG λz=>?_⟩;subst z;exact nl.1 (cA _ hb)⟩
end
section
variable{M:Mz}{s:S}{A:ο}
theorem Mf.putN{N:ο}{ps:List kA}{x:S}(F:Mf K M O fp s H)(FN:cn K H (N++(roots O++(fp++M.Ox))) s (.ref M.a) fp)(hN:∀b∈N,b∉fp/\b∉roots O/\b∉M.Ox/\(b∈M.tQ\/M.H0 b=none))(I:ay K (zf M O H) [] O ρ σ H)(hp:ρ[M.k]?=some (some (.pin M.a s.t,false)))(oN:∀e∈ρ,fE e)(hg:s.get ps=some x) :
  ∃w f,valAt H (.ref M.a) ps=some w/\cn K H (N++(roots O++(fp++M.Ox))) x w f/\(∀b∈f,b∈fp)/\f.Nodup /\
   ∀{H':Hp}{g:ο}{y:S},(∀b o,H b=some o->b∉f->H' b=some o)->g.Nodup->(∀b∈g,b∈f\/H b=none\/b∈N) ->
    (∀A',(∀t v,At K H (N++(roots O++(fp++M.Ox))) t v->At K H' A' t v)->cn K H' A' y w g)->lC K M (kD M ρ (s.put ps y)) (s.put ps y) σ H':=by
 obtain⟨w,f1,f,f2,AA,ev,hs,back⟩:=FN.focus hg;have sub:∀b∈f,b∈fp:=λb hb=>by rw[AA];exact bZ _ (cA _ hb)
 have lF:∀b∈f1++f2,b∈fp:=λb hb=>by
  rw[AA];rcases cK.mp hb with z|z
  exact cA _ z;exact bZ _ (bZ _ z)
 have Mp:=F.nd;rw[AA] at Mp;have n1:=zC.mp Mp;have n2:=zC.mp n1.2.1;refine⟨w,f,ev,hs,sub,n2.1,λ{H' g y} fr ndg RY hy=>?_⟩;obtain⟨ho,hσ⟩:=cO I hp;have out:∀b∈f1++f2,b∉f:=λb hb z=>by
  rcases cK.mp hb with q|q
  exact n1.2.2 _ q _ (cA _ z) rfl;exact n2.2.2 _ z _ q rfl
 have go:∀t v,At K H (N++(roots O++(fp++M.Ox))) t v->At K H' (roots O++((f1++(g++f2))++M.Ox)) t v:=λt v q=>by
  have q1:At K H (g++(N++(roots O++(fp++M.Ox)))) t v:=q.more λa ha=>by
   rcases cK.mp ha with z|z
   rcases RY a z with y|y|y
   exact .inl (bZ _ (bZ _ (cA _ (sub a y))));exact .inr y;exact .inl (cA _ y);exact .inl z
  have q2:=q1.pZ (H':=H') (as:=f) fr (λa ha=>bZ _ (bZ _ (bZ _ (cA _ (sub a ha))))) λa ha=>F.nX.mut a (sub a ha);refine q2.aY λa ha=>?_;rcases cK.mp ha with z|z
  exact bZ _ (bZ _ (cA _ z));rcases cK.mp z with z|z
  rcases cK.mp z with z|z
  exact bZ _ (bZ _ (bZ _ (cA _ (lF a (cA _ z)))));rcases cK.mp z with z|z
  exact cA _ z;exact bZ _ (bZ _ (bZ _ (cA _ (lF a (bZ _ z)))));exact bZ _ (bZ _ (bZ _ (bZ _ z)))
 have RZ:∀b∈fp,H b≠none:=λb hb=>by obtain⟨u,e,_⟩:=F.nX.mut b hb;rw[e];simp
 have each:∀b∈f1++(g++f2),b∈fp\/H b=none\/b∈N:=λb hb=>by
  rcases cK.mp hb with z|z
  exact .inl (lF b (cA _ z));rcases cK.mp z with z|z
  exact (RY b z).imp (sub b) id;exact .inl (lF b (bZ _ z))
 have HG:∀b∈g,b∉f1++f2:=λb hb z=>by
  rcases RY b hb with y|y|y
  exact out b z y;exact RZ b (lF b z) y;exact (hN b y).1 (lF b z)
 refine F.write I oN (by rw[hp];simp) ho hσ (λb' o e n=>fr b' o e λz=>n (sub b' z)) (fp':=f1++(g++f2)) ?_ ?_ (λb hb=>?_) λb hb=>?_;refine back (H':=H') (A':=roots O++((f1++(g++f2))++M.Ox)) go (λb' RX=>?_) (hy _ go);obtain⟨u,e,_⟩:=F.nX.mut b' (lF b' RX);rw[e];exact fr _ _ e (out b' RX);refine zC.mpr ⟨n1.1,zC.mpr ⟨ndg,n2.2.1,λa ha b hb z=>?_⟩,λa ha b hb z=>?_⟩;subst z;exact HG a ha (bZ _ hb);subst z;rcases cK.mp hb with y|y
 exact HG a y (cA _ ha);exact n1.2.2 _ ha _ (bZ _ y) rfl;rcases each b hb with z|z|z
 exact F.nq b z;refine⟨λy=>I.uR b (cA _ y) z,λy=>I.uR b (bZ _ y) z⟩;exact⟨(hN b z).2.1,(hN b z).2.2.1⟩;rcases each b hb with z|z|z
 exact F.fr b z;cases e:M.H0 b with
 |none=>exact .inr rfl
 |some o=>refine .inl (UT λn=>?_);rw[(F.kp b o e n).1] at z;cases z
 exact (hN b z).2.2.2
end
end VT
variable{M:VT.Mz}{xs:List VT.S}
namespace PySem
open Sem (wp)
section
variable{s:Shared}
variable{d:Addr}{o:Obj}{es:Array DictEntry}{ep:Nat}
end
end PySem
namespace VT
open PySem PySem.Spec PyProof.Rows L2
noncomputable def CB:ξ->Option (List Key)
 |[]=>some []
 |t::ts=>match vy t,CB ts with
  |some k,some ks=>some (k::ks)
  |_,_=>none
theorem yg{K:Δ}{H:Hp}{A:ο}:∀{ts:ξ}{vs:Ω}{k:List Key},az K H A ts vs->CB ts=some k->vs=k.map kV
 |[],vs,k,h,e=>by simp only[az] at h;cases e;exact h
 |t::ts,vs,k,h,e=>by
  simp only[az] at h;obtain⟨v,r,rfl,h1,h2⟩:=h;simp only[CB] at e;split at e
  rename_i k' ks e1 e2
  cases e;rw[iO (.inl h1) e1,yg h2 e2];rfl;cases e
section
variable[DecidableEq κ]
noncomputable def cZ:List κ->List α->κ->Option α
 |k::ks,t::ts,x=>if k=x then some t else cZ ks ts x
 |_,_,_=>none
noncomputable def lH(ks:List κ)(x:κ):Bool:=ks.any λk=>decide (k=x)
noncomputable def HI(ks:List κ)(x:κ):List κ:=if lH ks x=true then ks else ks++[x]
noncomputable def t6(ks:List κ)(ts:List α)(x:κ)(u:α):List α:=if lH ks x=true then List.zipWith (λk t=>if k=x then u else t) ks ts else ts++[u]
def gd(ts:List α)(x:κ):cZ [] ts x=none:=by cases ts<;>rfl
theorem yh:∀(ks:List κ)(vs:Ω)(x:κ),jc (ks.zip vs) x=cZ ks vs x
 |[],vs,x=>by rw[gd];rfl
 |k::ks,[],x=>rfl
 |k::ks,v::vs,x=>by simp only[cZ,Fm];by_cases e:k=x;rw[ε e,jq (p:=(k,v)) e];rw[η e,jr (p:=(k,v)) e];exact yh ks vs x
theorem vG{K:Δ}{H:Hp}{A:ο}:∀{ks:List κ}{ts:ξ}{vs:Ω}{x:κ},az K H A ts vs->(∀t,cZ ks ts x=some t->∃v,cZ ks vs x=some v/\At K H A t v)/\(cZ ks ts x=none->cZ ks vs x=none)
 |[],ts,vs,x,h=>by rw[gd,gd];refine⟨λt e=>?_,λ_=>rfl⟩;cases e
 |k::ks,[],vs,x,h=>by simp only[az] at h;subst h;exact⟨λt e=>(by cases e),λ_=>rfl⟩
 |k::ks,t::ts,vs,x,h=>by simp only[az] at h;obtain⟨v,r,rfl,h1,h2⟩:=h;simp only[cZ];by_cases e:k=x;rw[ε e,ε e];exact⟨λt e=>by cases e;exact⟨v,rfl,h1⟩,λq=>by cases q⟩;rw[η e,η e];exact vG h2
def HJ(ks:List κ)(vs:Ω)(x:κ)(hl:ks.length=vs.length):((ks.zip vs).any λkv=>decide (kv.1=x))=lH ks x:=by
 unfold lH;induction ks generalizing vs with
 |nil=>rfl
 |cons k ks ih=>
  cases vs with
  |nil=>simp at hl
  |cons v vs=>rw[Fm,Kk,Kk,ih vs (by simpa using hl)]
def Xc(ks:List κ)(vs:Ω)(x:κ)(v:V):(ks.zip vs).map (λkv=>if kv.1=x then (kv.1,v) else kv)=ks.zip (List.zipWith (λk t=>if k=x then v else t) ks vs):=by
 induction ks generalizing vs with
 |nil=>rfl
 |cons k ks ih=>
  cases vs with
  |nil=>rfl
  |cons u vs=>simp only[Fm,fU,PZ];rw[ih vs];by_cases e:k=x;rw[ε e,ε e];rw[η e,η e]
def Xd(ks:List κ)(vs:Ω)(x:κ)(v:V)(hl:ks.length=vs.length):L2.putK (ks.zip vs) x v=(HI ks x).zip (t6 ks vs x v)/\(HI ks x).length=(t6 ks vs x v).length:=by unfold L2.putK HI t6;rw[HJ ks vs x hl];by_cases e:lH ks x=true;rw[ε e,ε e,ε e];exact⟨Xc ks vs x v,by simp[hl]⟩;rw[η e,η e,η e];refine⟨?_,by simp[hl]⟩;rw[List.zip_append hl];rfl
def R0{A:ο}{ks:List κ}{ts:ξ}{x:κ}{t:T}(h:az K H A ts vs)(ht:At K H A t v):az K H A (t6 ks ts x t) (t6 ks vs x v):=by
 unfold t6;by_cases e:lH ks x=true;rw[ε e,ε e];clear e;induction ks generalizing ts vs with
 |nil=>simp only[List.zipWith_nil_left];exact az.nil
 |cons k ks ih=>
  cases ts with
  |nil=>simp only[az] at h;subst h;simp only[List.zipWith_nil_right];exact az.nil
  |cons t0 ts=>simp only[az] at h;obtain⟨v0,r,rfl,h1,h2⟩:=h;simp only[PZ];refine az.cons ?_ (ih h2);by_cases q:k=x;rw[ε q,ε q];exact ht;rw[η q,η q];exact h1
 rw[η e,η e];exact h.append (az.cons ht az.nil)
def Ms{A:ο}{ks:List κ}{ts:ξ}{k:κ}{z:T}{w:V}(h:az K H A ts vs)(hz:At K H A z w):At K H A ((cZ ks ts k).getD z) ((cZ ks vs k).getD w):=by
 cases e:cZ ks ts k with
 |none=>rw[(vG h).2 e];exact hz
 |some t=>obtain⟨v,e1,e2⟩:=(vG h).1 t e;rw[e1];exact e2
end
section
variable{a:Expr}{fc:FE}{pos:Pos}
noncomputable def adp:T->T
 |.pin _ t=>t
 |t=>t
noncomputable def adq(f:FE):FE:=λρ Q=>f ρ λt=>Q (adp t)
theorem bV(h:VR X Z e fa):VR X Z e (adq fa):=.mk λtm=>PE.weak (h tm) λσ H Q ⟨ρ,O,q,I,hf,k⟩=>⟨ρ,O,_,I,hf,λt ht v H' s z=>by
 refine k _ ht v H' s ?_;cases t with
 |pin b t=>
  obtain z|⟨a,_,r⟩:=z
  simp only[At] at z;exact .inl z.2;exact r.elim
 |_=>exact z⟩
end
end VT
namespace PySem
open Sem (wp)
end PySem
namespace VT
open PySem PySem.Spec PyProof.Rows L2
structure MG where
 a:Addr
 dx:Addr
 a1:Addr
 a2:Addr
 C:Addr
 H0:Hp
 n1:a≠a1
 n2:a≠a2
 n3:a1≠a2
structure S2 where
 k1:List (List Key)
 t1:ξ
 k2:List (List Key)
 t2:ξ
section
variable{M:MG}{tm:qab}{s:S2}
noncomputable def vwO(b:Option T):Option (T×Bool):=b.map λt=>(t,false)
end
structure GEn where
 nx:En->S2->Prop
 rt:S2->T->Prop
 bk:En->S2->Prop:=λ_ _=>False
 ct:En->S2->Prop:=λ_ _=>False
abbrev FG2:=GEn->En->S2->Prop
section
variable{a:Expr}{fc:FE}{pos:Pos}
noncomputable def Xe(g:FA):FP:=λρ Q=>g ρ λys=>match CB ys with
 |some k=>ys.length<=sizeLine/\Q (.vw (.kt k))
 |none=>False
def Mt{x1}(h:VA X Z es g):VP X Z (.Tuple es x1 pos) (Xe g):=.mk λtm=>PE.weak (uE (h tm)) λσ H Q ⟨ρ,O,q,I,hf,k⟩=>⟨ρ,O,_,I,hf,λys hy vs H1 s1 a1=>by
 split at hy
 rename_i kk ek
 refine⟨by rw[a1.length];exact hy.1,λp hp=>?_⟩;have s2:aO H1 (upd H1 p (.tup vs)):=aA hp;refine k _ hy.2 _ _ (s1.trans s2) ⟨(I.same s1).same s2,?_⟩;simp only[At];exact⟨p,rfl,by rw[<- yg a1 ek];exact aC,λz=>(I.same s1).uR p z hp⟩;exact hy.elim⟩
noncomputable def R1:T->Option (List (List Key)×ξ)
 |.dt ks ts=>some (ks,ts)
 |.pin _ (.dt ks ts)=>some (ks,ts)
 |_=>none
def Mu{A:ο}{t:T}{ks:List (List Key)}{ts:ξ}(h:g_ K H A t v)(e:R1 t=some (ks,ts)):∃a vs,v=.ref a/\ks.length=vs.length/\H a=some (.dT (ks.zip vs))/\az K H A ts vs:=by
 unfold R1 at e;split at e;cases e;exact h.dt;cases e;obtain h|⟨_,_,r⟩:=h
 simp only[At] at h;obtain⟨_,h⟩:=h;exact g_.dt (.inl (by simp only[At];exact h));exact r.elim;cases e
end
section
variable{A:ο}
def At.frame{t:T}(here:∀b∈A,∃u,H b=some u/\j4 u=true)(fr:∀b o,H b=some o->b∉A->H' b=some o)(h:At K H A t v):At K H' A t v:=by
 have rd:∀{a:Addr}{u:HO},a∉A->Rd H a u->Rd H' a u:=λn q=>q.elim (λz=>.inl (fr _ _ z n)) λ⟨o,z⟩=>.inr ⟨o,fr _ _ z n⟩;refine At.map (λa vs q=>q.elim (λz=>.inl ⟨rd z.2 z.1,z.2⟩) .inr) (λa vs q=>q.elim (λz=>.inl (rd (λm=>?_) z)) .inr) (λa u q=>⟨fr _ _ q.1 q.2,q.2⟩) h;obtain⟨u,e,mu⟩:=here a m;obtain z|⟨o,z⟩:=z
 rw[e] at z;cases z;cases mu;rw[e] at z;cases z;cases mu
end
section
variable{Gg:T->S2->(S2->T->Prop)->Prop}{Gli:ξ->(qam)->Prop}
def R3(K:Δ)(H:Hp):ay K ⟨H,[],[]⟩ [] [] [] [] H:=⟨rfl,rfl,λi e h=>by simp at h,Ft,λa h=>absurd h fK,λp hp=>absurd hp fK,λa h=>absurd h fK,λb o e _=>e,λp hp=>absurd hp fK⟩
end
section
variable{F1 F2:Str}
noncomputable def Xf(K:Δ)(C:Addr)(F1 F2:Str)(i n:Nat):TE:=λσ H Q=>∃v1 t1 p ks ts,σ[i]?=some (some v1)/\σ[n]?=some (some (.ref p))/\bQ t1=true/\At K H [] t1 v1/\At K H [] (.dk ks ts) (.ref p) /\
 ∀a dx u H3,aO H H3->H a=none->H3 a=some (.ins C dx ([F1,F2].zip [u,.ref p]))->At K H3 [] t1 u->Q (.ref a) H3
def R4{xC:Str}{kC:Nat}{fI:Addr}{Xg:FuncData}{psI:π}{GI:ξ->(T->Prop)->Prop}{pC pd1 UA pc:Pos}(MI:Mk X.K C fI)(FI:cq X.prog X.w X.K X.mg X.base eD kC fI Xg psI (OS X.K C 2 GI))(hGI:∀t1 t2 q,q (.ins C [F1,F2] [t1,t2])->GI [t1,t2] q)(rI:bF (kC+1) X.A)(gI:Gl X xC)(mI:X.mg xC=some (.ref C))(bI:Binds X.K Xg psI [])(hN:X.N[i]?=some x:=by rfl)(hv:jQ X.env.scope x:=by exact jvv rfl)(hd:gq x:=by decide)(fH:rQ x:=by decide)(hN2:X.N[n]?=some y:=by rfl)(hv2:jQ X.env.scope y:=by exact jvv rfl)(hd2:gq y:=by decide)(ads:rQ y:=by decide)(db1:gq xC:=by decide)(s1:starEach [.Name x pd1,.Name y UA] X.env=(false,eval (.Name x pd1) X.env)::starEach [.Name y UA] X.env:=by rfl)(s2:starEach [.Name y UA] X.env=(false,eval (.Name y UA) X.env)::starEach [] X.env:=by rfl)(s3:(backTo pc (starEach [.Name y UA] X.env)).any (·.1)=false:=by rfl):PE X (.Call (.Name xC pC) [.Name x pd1,.Name y UA] [] pc) (Xf X.K C F1 F2 i n) :=
 PE.weak (uG MI FI rI gI mI bI .nil i8 (bf (bP hN hv hd fH) (bf (bP hN2 hv2 hd2 ads) cC s2) s1) db1 s1 s3) λσ H Q h=>by obtain⟨v1,t1,p,ks,ts,e1,e2,hi,a1,a2,k⟩:=h;refine⟨v1,e1,.ref p,e2,?_⟩;refine Cr (X:=X) (Z:=⟨_,[],[]⟩) (C:=C) (G:=GI) (Q:=Q) (q:=λr=>r=.fr (.ins C [F1,F2] [t1,.pin p (.dk ks ts)])) (R3 X.K _) (ts:=[t1,.pin p (.dk ks ts)]) (vs:=[v1,.ref p]) (az.cons a1 (az.cons ?_ az.nil)) rfl (hGI _ _ (λu=>Rt.fr u=.fr (.ins C [F1,F2] [t1,.pin p (.dk ks ts)])) rfl) (λr er v H3 sm z=>?_);unfold At;exact⟨rfl,a2⟩;subst er;obtain⟨a,rfl,_,⟨dx,vs,hl,ea,hv⟩,n0,_⟩:=z;simp only[az] at hv;obtain⟨u,_,rfl,h1,_,_,rfl,h2,rfl⟩:=hv;unfold At at h2;obtain⟨rfl,_⟩:=h2;exact k a dx u H3 sm n0 ea (At.bQ hi h1)
end
section
variable{A:ο}
theorem a_.snoc{z:S}{g:ο}:∀{xs:List S}{vs:Ω}{fp:ο},a_ K H A xs vs fp->cn K H A z v g->a_ K H A (xs++[z]) (vs++[v]) (fp++g)
 |[],vs,fp,h,q=>by simp only[a_] at h;obtain⟨rfl,rfl⟩:=h;simp only[U1,a_];exact⟨v,[],g,[],rfl,by simp,q,rfl,rfl⟩
 |x::xs,vs,fp,h,q=>by simp only[a_] at h;obtain⟨v0,r,f,f2,rfl,rfl,h1,h2⟩:=h;simp only[FZ,a_];exact⟨v0,r++[v],f,f2++g,rfl,by simp,h1,h2.snoc q⟩
end
theorem kG:∀{O:HD}{n:Nat}{p:Addr},(roots O).Nodup->O[n]?=some (some p)->p∉roots (O.set n none)
 |[],n,p,_,e=>by simp at e
 |o::O,0,p,h,e=>by cases e;simp only[roots,N7,j5,id] at h ⊢;exact (jg.mp h).1
 |o::O,n+1,p,h,e=>by
  have e':O[n]?=some (some p):=by simpa using e
  cases o with
  |none=>simp only[roots,FW,j5,id] at h ⊢;exact kG h e'
  |some a=>
   simp only[roots,FW,j5,id] at h ⊢;have h2:=jg.mp h;intro z;rcases cU.mp z with y|y
   exact h2.1 (by rw[<- y];exact aH.mpr (eS e'));exact kG h2.2 e' y
section
variable{mk:Expr}{ps:List kA}{F1 F2:Str}{pos:Pos}
noncomputable def Xh(M:Mz)(ps:List kA)(C:Addr)(F1 F2:Str)(i n:Nat):FM:=λd ρ s=>∃ys t1 ks ts,s.get ps=some (.lst ys)/\ys.length<16777216/\M.k≠n/\ρ[i]?=some (some (t1,false))/\bQ t1=true/\ρ[n]?=some (some (.dk ks ts,true))/\dC ts=true/\(∀e∈ρ,fE e) /\
 d.nx (kD M (ρ.set n none) (s.put ps (.lst (ys++[.ins C [F1,F2] [.lf t1,.dk ks ts]])))) (s.put ps (.lst (ys++[.ins C [F1,F2] [.lf t1,.dk ks ts]])))
def Mv(ho:PE X o (ju M.k ps))(he:PE X mk (Xf X.K C F1 F2 i n))(dj:attributeBase o "append" X.env (eval o X.env)=eval o X.env:=by rfl)(kn:((backTo aN (starEach [mk] X.env)).all (λx=>!x.1) && (backToKw aN (keywordEach [] X.env)).all (λx=>x.1.isSome)
    && decide (([mk]:qap).length+([]:List Keyword).length+(if ([]:List Keyword).isEmpty then 0 else 1)<30))=true:=by rfl)(dm:(apos.endLine==aN.line)=true:=by rfl)(hs:starEach [mk] X.env=(false,eval mk X.env)::starEach [] X.env:=by rfl)(dY:(backTo aN (starEach [] X.env)).any (·.1)=false:=by rfl)(Ls:swapsWith (.Call (.Attribute o "append" apos) [mk] [] aN) none pos.line X.env=pure false:=by rfl) :
  MS X M (.Expr (.Call (.Attribute o "append" apos) [mk] [] aN) pos) (Xh M ps C F1 F2 i n):=⟨λγ s' σ H D J ⟨ρ,s,d,⟨⟨O,fp,F,I⟩,hp⟩,hg,Fi⟩=>by
 obtain⟨ys,t1,ks,ts,Em,hlen,AB,hi,hi1,hn,dZ,oN,hq⟩:=hg;obtain⟨w,f1,f,f2,AA,ev,W8,_⟩:=F.nX.focus Em;have yf:=W8;simp only[cn] at yf;obtain⟨l,xs,iC,rfl,hl,rfl,hL⟩:=yf;have Zh:l∈fp:=by rw[AA];simp
 obtain⟨_,hσ⟩:=cO I hp;obtain⟨_,_,_,z1,rfl,v1,rfl,b1⟩:=I.sl i _ hi;obtain⟨p,hO,z2,hR⟩:=I.root hn;have UB:p∈roots O:=aH.mpr (eS hO);obtain⟨vs,hlk,Xi,hvs⟩:=hR;have npl:p≠l:=λz=>(F.nq l Zh).1 (by rw[<- z];exact UB);refine k7 (pK Uc BC BD bR ho (bf he cC hs) dj kn dm hs dY) Ls γ s' σ H D J
  ⟨.ref M.a,.ref l,hσ,ev,.inl ⟨rfl,xs,gw.of hl⟩,v1,t1,p,ks,ts,z1,z2,hi1,At.bQ hi1 b1,?_,λa dx u H3 sm na ea au=>?_⟩
 simp only[At];exact⟨p,vs,rfl,hlk,⟨Xi,λz=>nomatch z⟩,hvs.aY λb hb=>nomatch hb⟩;have I3f:=(I.same sm).forget (i:=n) (λp hp=>absurd hp fK);have F3:=F.now I3f (bE I);have I3:=I3f.rebase (Z:=zf M O H) rfl;have hp3:(ρ.set n none)[M.k]?=some (some (.pin M.a s.t,false)):=by rw[tq (Ne.symm AB)];exact hp
 have adt:∀e∈ρ.set n none,fE e:=λe he=>by
  rcases Ua he with z|z
  exact oN e z;rw[z];trivial
 have FN:cn X.K H3 ([p,a]++(roots (O.set n none)++(fp++M.Ox))) s (.ref M.a) fp:=(F.nX.more λb hb=>by
  rcases cK.mp hb with z|z
  simp only[cU,fK,ς] at z;obtain rfl|rfl:=z
  exact .inl (cA _ UB);exact .inr na;rcases cK.mp z with z|z
  exact .inl (cA _ (cc n b z));exact .inl (bZ _ z)).same sm
 have RZ:∀b∈fp,H b≠none:=λb hb=>by obtain⟨u,e,_⟩:=F.nX.mut b hb;rw[e];simp
 have hN:∀b∈[p,a],b∉fp/\b∉roots (O.set n none)/\b∉M.Ox/\(b∈M.tQ\/M.H0 b=none):=λb hb=>by
  simp only[cU,fK,ς] at hb;obtain rfl|rfl:=hb
  refine⟨λz=>(F.nq _ z).1 UB,kG I.nd hO,(I.own _ UB).2.1,?_⟩;cases e:M.H0 b with
  |none=>exact .inr rfl
  |some o=>exact .inl (UT λn=>(F.kp b o e n).2 UB)
  refine⟨λz=>RZ _ z na,λz=>I.uR _ (cA _ (cc n _ z)) na,λz=>I.ox _ z na,?_⟩;cases e:M.H0 b with
  |none=>exact .inr rfl
  |some o=>refine .inl (UT λn=>?_);have:=(F.kp b o e n).1;rw[na] at this;cases this
 obtain⟨w2,f',HC,hS,sub,nd,wr⟩:=F3.putN FN hN I3 hp3 adt Em;rw[gc sm ev] at HC;cases HC;have rV:=hS;simp only[cn] at rV;obtain⟨l',FH,Mq,e',uz,rfl,W9⟩:=rV;cases e';have Zg:a≠l:=λz=>RZ l Zh (by rw[<- z];exact na);have nap:a≠p:=λz=>by rw[z,Xi] at na;cases na
 have nl:=jg.mp nd;refine⟨l,FH,.ref a,rfl,rfl,uz,by rw[μ,W9.length];omega,?_⟩;refine Fi.nx _ _ σ _ (wr (H':=upd H3 l (.lst (FH++[.ref a]))) (g:=l::(Mq++[a,p])) (y:=.lst (ys++[.ins C [F1,F2] [.lf t1,.dk ks ts]])) (λb o e n=>?_) ?_ (λb hb=>?_) λA' go=>?_) hq;rw[aG λz=>n (by rw[z];exact c6)];exact e;refine jg.mpr ⟨λz=>?_,zC.mpr ⟨nl.2,by simp[nap],λx hx y hy z=>?_⟩⟩;rcases cK.mp z with z|z
 exact nl.1 z;simp only[cU,fK,ς] at z;obtain z|z:=z
 exact Zg z.symm;exact npl z.symm;subst z;have hxf:x∈fp:=sub x (fJ _ hx);simp only[cU,fK,ς] at hy;obtain rfl|rfl:=hy
 exact RZ _ hxf na;exact (F.nq _ hxf).1 UB;rcases cU.mp hb with z|z
 exact .inl (by rw[z];exact c6);rcases cK.mp z with z|z
 exact .inl (fJ _ z);refine .inr (.inr ?_);simp only[cU,fK,ς] at z ⊢;exact z.symm;simp only[cn];refine⟨l,FH++[.ref a],Mq++[a,p],rfl,aC,rfl,(W9.map go λb hb=>aG λz=>?_).snoc ?_⟩;subst z;exact nl.1 hb;have hR':ck X.K (upd H3 l (.lst (FH++[.ref a]))) A' p (.dk ks ts):=ck.bQ (t:=.dk ks ts) (A:=av (zf M O H) O) dZ ⟨vs,hlk,Xi,hvs⟩ (by rw[aG npl,sm _ _ Xi,Xi]) λt v hi q=>go t v (At.bQ hi (q.same sm));obtain⟨fq,adu,adv,adw⟩:=hR';simp only[cn,a_];exact⟨a,dx,[u,.ref p],[p],rfl,rfl,by rw[aG Zg];exact ea,rfl,u,[.ref p],[],[p],rfl,rfl,⟨rfl,go t1 u (At.bQ hi1 au)⟩,.ref p,[],[p],[],rfl,rfl,⟨p,fq,rfl,rfl,adu,adv,adw⟩,rfl,rfl⟩⟩
end
noncomputable def jW(K:Δ)(n:Nat)(G:ξ->S->(S->T->Prop)->Prop):Sp:=λvs H Q _=>∃(a:Addr)(Ox fp:ο)(s:S)(us:ξ)(ws:Ω)(q:S->T->Prop),vs=.ref a::ws/\fp.Nodup/\cn K H (fp++Ox) s (.ref a) fp/\(∀b∈fp,b∉Ox)/\(∀b∈Ox,H b≠none) /\
 us.length=n/\az K H Ox us ws/\G us s q /\
 ∀s' t,q s' t->∀v H' fp',(∀b o,H b=some o->b∉fp->H' b=some o)->fp'.Nodup->(∀b∈fp',b∈fp\/H b=none)->(∀b∈fp',b∉Ox)->cn K H' (fp'++Ox) s' (.ref a) fp'->bQ t=true->At K H' [] t v->Q v H'
section
def KG{st:Stmt}{N:π}{k:Nat}{G:ξ->S->(S->T->Prop)->Prop}(F:BZ K x qual st f fd)(S:aE N ps (aj st))(hn:n+1=ps.length)(hN:n+1<=N.length)(dF:∀(bB:Value) (A:Around) (outer:List Env) (s:Shared) (H:Hp) (E:XK) (M:Mz),M.k=0->bF k (A.deeper (envOfC qual (aj st) s.heap.objs.size f bB))->∀us s0 q,G us s0 q->us.length=n ->
    ∃g,Cy (fP eD P w K mg base N qual (aj st) f bB A outer s H E).pF M (bG st) g/\g {nx:=λ_ s'=>q s' .aQ,rt:=λ_ s' r=>∃t,r=.vw t/\bQ t=true/\q s' t} (some (.pin M.a s0.t,false)::(us.map (λt=>some (t,false))++List.replicate (N.length-(n+1)) none)) s0) :
  cq P w K mg base eD (k+1) f fd ps (jW K n G):=by
 refine F.ok S (λvs H Q E h=>?_) (λbB A outer s H vs Q E hr h=>?_);obtain⟨a,Ox,fp,s,us,ws,q,rfl,_,_,_,_,hu,hA,_⟩:=h;rw[BF,hA.length,hu];exact hn;obtain⟨a,Ox,fp,s0,us,ws,q,rfl,nd,nX,nq,ox,hu,hA,hG,kk⟩:=h;obtain⟨g,hg,hq⟩:=dF bB A outer s H E ⟨H,fp,Ox,a,0⟩ rfl hr us s0 q hG hu;have view:At K H Ox s0.t (.ref a):=nX.view (λb hb=>bZ _ hb) nq;have env:=jT (K:=K) (N:=N) (H:=H) (Ox:=Ox) (ts:=.pin a s0.t::us) (vs:=.ref a::ws) (by rw[BF,hu];exact hN) ox (az.cons (by simp only[At];exact⟨trivial,view⟩) hA);have fin:∀(ρ:En)(s':VT.S)(σ:St)(H':Hp)(O:HD)(fp':ο)(t:T)(v:V),Mf K ⟨H,fp,Ox,a,0⟩ O fp' s' H'->bQ t=true->(∃A,At K H' A t v)->q s' t->Q v H':=λρ s' σ H' O fp' t v F' hi ⟨A,av⟩ hq=>
  kk s' t hq v H' fp' (λb o e n=>(F'.kp b o e n).1) F'.nd F'.fr (λb hb=>(F'.nq b hb).2) (F'.nX.aY λb hb=>bZ _ hb) hi (At.bQ hi av)
 refine⟨_,hg.h,_,s0,_,⟨⟨List.replicate N.length none,fp,⟨?_,nd,λb hb=>⟨by rw[dv];simp,nq b hb⟩,λb hb=>.inl hb,λb o e _=>⟨e,by rw[dv];simp⟩⟩,?_⟩,?_⟩,hq,⟨λρ s' σ H' S' z=>?_,λρ s' σ H' r v O fp' Of Hf F' eR R z=>?_,λ_ _ _ _ _ z=>z.elim,λ_ _ _ _ _ z=>z.elim⟩⟩;rw[dv];exact nX;have e:=env.rebase rfl;have ln:(T.pin a s0.t::us).length=n+1:=by rw[BF,hu]
 rw[ln] at e;exact e;rfl;obtain⟨⟨O,fp',F',I'⟩,_⟩:=S';exact fin ρ s' σ H' O fp' .aQ .aQ F' rfl ⟨[],by simp only[At]⟩ z;obtain⟨t,rfl,hi,z⟩:=z;exact fin ρ s' σ H' O fp' t v (F'.now R.1 eR) hi ⟨_,R.2⟩ z
end
section
variable{pos:Pos}
noncomputable def CC(M:Mz)(n:Nat)(G:ξ->S->(S->T->Prop)->Prop)(fa:FA):FM:=λd ρ s=>(∀e∈ρ,fE e)/\fa ρ λus=>us.length=n/\G us s λs' _=>d.nx (kD M ρ s') s'
def yi{G:ξ->S->(S->T->Prop)->Prop}{s:S}{us:ξ}{ws:Ω}{q:S->T->Prop}{Q:VK}{E:XK}(F:Mf K M O fp s H)(I:ay K (zf M O H) [] O ρ σ H)(hp:ρ[M.k]?=some (some (.pin M.a s.t,false)))(oN:∀e∈ρ,fE e)(hu:us.length=n)(ha:az K H (roots O++M.Ox) us ws)(hG:G us s q)(k:∀s' t,q s' t->∀v H',lC K M (kD M ρ s') s' σ H'->bQ t=true->At K H' [] t v->Q v H'):jW K n G (.ref M.a::ws) H Q E:=by
 obtain⟨ho,hσ⟩:=cO I hp;refine⟨M.a,roots O++M.Ox,fp,s,us,ws,q,rfl,F.nd,F.nX.aY λb hb=>?_,λb hb z=>?_,I.uR,hu,ha,hG,λs' t hq v H' fp' fr nd each nq nX hi av=>?_⟩;rcases cK.mp hb with z|z
 exact bZ _ (cA _ z);rcases cK.mp z with z|z
 exact cA _ z;exact bZ _ (bZ _ z);rcases cK.mp z with z|z
 exact (F.nq b hb).1 z;exact (F.nq b hb).2 z;refine k s' t hq v H' (F.write I oN (by rw[hp];simp) ho hσ fr (fp':=fp') (nX.aY λb hb=>?_) nd (λb hb=>⟨λz=>nq b hb (cA _ z),λz=>nq b hb (bZ _ z)⟩) λb hb=>?_) hi av;rcases cK.mp hb with z|z
 exact bZ _ (cA _ z);rcases cK.mp z with z|z
 exact cA _ z;exact bZ _ (bZ _ z);rcases each b hb with z|z
 exact F.fr b z;cases e:M.H0 b with
 |none=>exact .inr rfl
 |some o=>refine .inl (UT λn=>?_);rw[(F.kp b o e n).1] at z;cases z
def Mw{k:Nat}{G:ξ->S->(S->T->Prop)->Prop}{fa:FA}(Fo:cq X.prog X.w X.K X.mg X.base eD k f fd ps (jW X.K n G))(hr:bF k X.A)(hg:Gl X x)(hm:X.mg x=some (.ref f))(hk:W.keepIn X.K (.ref f)=true)(hb:Binds X.K fd ps [])(ha:∀H0,VA X ⟨H0,[],M.Ox⟩ es fa)(hN:X.N[M.k]?=some y)(hv:jQ X.env.scope y:=by exact jvv rfl)(hd:gq y:=by decide)(fH:rQ y:=by decide)(kj:gq x:=by decide)(he:starEach (.Name y p1::es) X.env=(false,eval (.Name y p1) X.env)::starEach es X.env:=by rfl)(fO:(backTo aN (starEach es X.env)).any (·.1)=false:=by rfl)(hs:swapsWith (.Call (.Name x p) (.Name y p1::es) [] aN) none pos.line X.env=pure false:=by rfl) :
  MS X M (.Expr (.Call (.Name x p) (.Name y p1::es) [] aN) pos) (CC M n G fa):=⟨λγ s' σ H D J ⟨ρ,s,d,⟨⟨O,fp,F,I⟩,hp⟩,Mx,Fi⟩=>by
 obtain⟨oN,Mx⟩:=Mx;obtain⟨_,hσ⟩:=cO I hp;refine k7 (iF Fo hr hg hm hk hb .nil i8 (bf (bP hN hv hd fH) (ha (oM H (roots O)) []) he) kj he fO) hs γ s' σ H D J ⟨.ref M.a,hσ,ρ,O,_,I,Mx,λus Kr ws H1 s1 a1=>?_⟩;obtain⟨hu,hG⟩:=Kr;have I0:=I.same s1;have F1:=F.now I0 (bE I);have I1:=I0.rebase (Z:=zf M O H) rfl;rw[xc];exact yi F1 I1 hp oN hu a1 hG λs2 t hq v H' S' _ _=>Fi.nx _ _ σ H' S' hq⟩
end
section
variable{pos:Pos}
def eJ{k k':Nat}{G:ξ->S->(S->T->Prop)->Prop}{fa:FA}(C:bW X.prog X.w X.K X.mg X.base x ps k (jW X.K n G))(hr:bF k' X.A)(ha:∀H0,VA X ⟨H0,[],M.Ox⟩ es fa)(hN:X.N[M.k]?=some y)(hg:Gl X x:=by rfl)(hk:k<=k':=by decide)(hv:jQ X.env.scope y:=by exact jvv rfl)(hd:gq y:=by decide)(fH:rQ y:=by decide)(kj:gq x:=by decide)(he:starEach (.Name y p1::es) X.env=(false,eval (.Name y p1) X.env)::starEach es X.env:=by rfl)(fO:(backTo aN (starEach es X.env)).any (·.1)=false:=by rfl)(hs:swapsWith (.Call (.Name x p) (.Name y p1::es) [] aN) none pos.line X.env=pure false:=by rfl) :
  MS X M (.Expr (.Call (.Name x p) (.Name y p1::es) [] aN) pos) (CC M n G fa):=by
 obtain⟨f,fd,h1,h2,h3,F⟩:=C;exact Mw F (hr.mono hk) hg h1 h2 h3 ha hN hv hd fH kj he fO hs
end
theorem dw{α:Type}{f u:α->T}{h:FG}{fe:FE}{ρ:En}:∀{xs:List α}{Q:ξ->Prop},(∀x∈xs,∀r:T->Prop,r (u x)->h (f x) ρ λρ2=>fe ρ2 r)->Q (xs.map u)->cu h xO fe ρ (xs.map f) Q
 |[],Q,_,hq=>hq
 |x::xs,Q,step,hq=>by simp only[fU,cu];exact step x c6 (λy=>cu h xO fe ρ (xs.map f) λus=>Q (y::us)) (dw (Q:=λus=>Q (u x::us)) (λy hy=>step y (fJ _ hy)) hq)
def gH{lo:Int}{u:Nat->T}{h:FG}{Q:ξ->Prop}(step:∀i<n,∀r:T->Prop,r (u i)->h (.int (lo+(i:Int))) ρ λρ2=>fe ρ2 r)(hq:Q ((List.range n).map u)):cu h xO fe ρ (rangeT lo n) Q :=
 dw (f:=λi:Nat=>T.int (lo+(i:Int))) (u:=u) (λi hi=>step i (Kj.mp hi)) hq
theorem qv{h:FG}{fe:FE}{ρ:En}{Q:ξ->Prop}{Pd:T->Prop}:∀{ts:ξ},(∀t∈ts,∀r:T->Prop,(∀x,Pd x->r x)->h t ρ λρ2=>fe ρ2 r)->(∀us:ξ,us.length=ts.length->(∀x∈us,Pd x)->Q us)->cu h xO fe ρ ts Q
 |[],_,hq=>hq [] rfl (λ_ z=>nomatch z)
 |t::ts,step,hq=>by
  simp only[cu];have:=step t c6 (λu=>cu h xO fe ρ ts λus=>Q (u::us)) λx hx=>qv (λt ht=>step t (fJ _ ht)) λus hl ha=>hq (x::us) (by simp[hl]) λy hy=>by
   rcases cU.mp hy with z|z
   rw[z];exact hx;exact ha y z
  exact this
theorem kH{α:Type}{f u:α->T}{p:α->Bool}{h:FG}{fc:FB}{fe:FE}{ρ:En}:∀{xs:List α}{Q:ξ->Prop},(∀x∈xs,∀r s:Prop,(if p x=true then ∀k:T->Prop,(k (u x)->r)->r else s)->True)->(∀x∈xs,∀(k:T->Prop)(s:Prop),(if p x=true then k (u x) else s)->h (f x) ρ λρ2=>fc ρ2 λb=>if b=true then fe ρ2 k else s)->Q ((xs.filter p).map u)->cu h fc fe ρ (xs.map f) Q
 |[],Q,_,_,hq=>hq
 |x::xs,Q,t0,step,hq=>by simp only[fU,cu];refine step x c6 _ _ ?_;by_cases hp:p x=true;rw[ε hp];rw[YF hp] at hq;exact kH (Q:=λus=>Q (u x::us)) (λ_ _ _ _ _=>trivial) (λy hy=>step y (fJ _ hy)) hq;rw[η hp];rw[ZN hp] at hq;exact kH (λ_ _ _ _ _=>trivial) (λy hy=>step y (fJ _ hy)) hq
end VT
namespace VT
open PySem PySem.Spec PyProof.Rows
def ddp{K:Type}[DecidableEq K](l:List K)(v:K):List K:=if v∈l then l else l++[v]
def met{K:Type}[DecidableEq K](val:Nat->K):Nat->List K
 |0=>[]
 |i+1=>ddp (met val i) (val i)
section
variable{R:Result->Shared->Prop}{I:Addr}{wr:ο}{G:Array GenState->Array GenState->Prop}{P:Nat->Value->Prop}{St:Nat->Shared->Prop}
variable{K:Type}[DecidableEq K]{knd:PySem.KeyKind prog w K}
end
end VT
namespace VT
open PySem PySem.Spec PyProof.Rows L2
end VT
namespace Gen
open PySem L2 VT
open nP (bT)
def small(h:n<=1000):n<=sizeLine:=Qc (DY h)
def cR(h:Nat.ble n 1000=true):n<=sizeLine:=small (Nat.le_of_ble_eq_true h)
noncomputable def sH(n:Int):Nat:=bT.cps.toList.getD (n % 26).toNat 0
def yj:bT.cps.toList.length=26:=by decide +kernel
def vH:bT.length=26:=by decide +kernel
def j_:bT.length<=sizeLine:=by rw[vH,μ];decide
def t7(n:Int):km bT.cps.toList (n % 26)=some (sH n):=by
 have h0:0<=n % 26:=zK n (by decide);have h1:n % 26<26:=zI n (by decide);unfold sH;obtain⟨j,hj⟩:=Ug h0;rw[hj];have h9:j<bT.cps.toList.length:=by rw[yj];omega
 refine ak ?_;rw[Dz,List.getD,mz h9];rfl
inductive ij where
 |nm (x:Str)
 |nu (i:Int)
inductive Ky where
 |fld (x:Str)
 |op (o:ij)
inductive Rw where
 |df (f:Str) (ps:π)
 |give (a:ij)
 |put (x:Str) (a:ij)
 |kJ (x:Str) (a:ij) (op:Str) (b:ij)
 |new (x:Str)
 |get (x r:Str) (k:Ky)
 |set (r:Str) (k:Ky) (a:ij)
 |call (x f:Str) (as:List ij)
 |fail (w:Str)
 |My (a:ij)
 |UC
 |HK (a:ij)
 |fin
 |skip
noncomputable def gf:ij->T
 |.nm x=>.str x
 |.nu i=>.int i
noncomputable def AD:Ky->T
 |.fld x=>.str (((".":String):Str)++x)
 |.op o=>gf o
noncomputable def bu:Rw->T
 |.df f ps=>.tup [.str "def",.str f,.tup (ps.map .str)]
 |.give a=>.tup [.str "give",gf a]
 |.put x a=>.tup [.str "put",.str x,gf a]
 |.kJ x a op b=>.tup [.str "do",.str x,gf a,.str op,gf b]
 |.new x=>.tup [.str "new",.str x]
 |.get x r k=>.tup [.str "get",.str x,.str r,AD k]
 |.set r k a=>.tup [.str "set",.str r,AD k,gf a]
 |.call x f as=>.tup [.str "call",.str x,.str f,.tup (as.map gf)]
 |.fail w=>.tup [.str "fail",.str w]
 |.My a=>.tup [.str "if",gf a]
 |.UC=>.tup [.str "else"]
 |.HK a=>.tup [.str "while",gf a]
 |.fin=>.tup [.str "end"]
 |.skip=>.tup [.str "skip"]
def yk(ys:π):ij->Prop
 |.nm x=>x∈ys
 |.nu i=>-1000000000000000000000000000000<=i/\i<1000000000000000000000000000000
def Xj:(10:Int) ^ (30:Int).toNat=1000000000000000000000000000000:=by decide +kernel
def adx:(((".":String):Str)).length=1:=by decide +kernel
theorem qw{α:Type}{f:α->T}(h:∀x,plainT (f x)=true):∀l:List α,iK (l.map f)=true
 |[]=>by simp[iK]
 |x::l=>by simp only[fU,iK,h x,qw h l,N_]
theorem yl{α:Type}{f:α->T}{n:Nat}(h:∀x,dep (f x)<=n):∀l:List α,Ak (l.map f)<=n
 |[]=>by simp[Ak]
 |x::l=>by have:=h x;have:=yl h l;simp only[fU,Ak];omega
def vI(o:ij):bQ (gf o)=true:=by cases o<;>simp[gf,bQ]
def MA(o:Ky):bQ (AD o)=true:=by cases o with|fld x=>simp[AD,bQ]|op o=>exact vI o
theorem eM{α:Type}{f:α->T}(h:∀x,bQ (f x)=true):∀l:List α,dC (l.map f)=true
 |[]=>by simp[dC]
 |x::l=>by simp only[fU,dC,h x,eM h l,N_]
def lJ(r:Rw):bQ (bu r)=true:=by cases r<;>simp[bu,bQ,dC,vI,MA,eM (f:=T.str) (λ_=>by simp[bQ]),eM (f:=gf) vI]
end Gen
variable{r:Gen.Rw}
abbrev qal:=List Gen.Rw
namespace Gen
open PySem L2 VT
open nP (bT D2 c_)
def CD(n:Int):D2 (sH n)=true:=by
 have h0:0<=n % 26:=zK n (by decide);have h1:n % 26<26:=zI n (by decide);have h:∀j<26,D2 (bT.cps.toList.getD j 0)=true:=by decide +kernel
 exact h _ (by omega)
def HL{a b:Int}(h:sH a=sH b):a % 26=b % 26:=by
 have a0:0<=a % 26:=zK a (by decide);have a1:a % 26<26:=zI a (by decide);have b0:0<=b % 26:=zK b (by decide);have b1:b % 26<26:=zI b (by decide);have k:∀i<26,∀j<26,bT.cps.toList.getD i 0=bT.cps.toList.getD j 0->i=j:=by decide +kernel
 have:=k (a % 26).toNat (by omega) (b % 26).toNat (by omega) h;omega
end Gen
variable{rs:qal}
namespace Nm
open PySem L2 VT Gen nP
noncomputable def top(i:Nat):Stmt:=PySem.Challenge.pw_slicewise_k15_calls.main.body.getD i (.Pass ⟨0,0,0,0⟩)
noncomputable abbrev jX:Stmt:=top 6
noncomputable abbrev kK:Stmt:=top 7
structure Mg2(mg:qae):Prop where
 MB:∃t,mg "LETTERS"=some (.str bT t)
 vJ:∃t,mg "LONGEST_NAME"=some (.int 8 t)
 isinstance:mg "isinstance"=none
 str:mg "str"=none
 len:mg "len"=none
 all:mg "all"=none
def xg(h:n<=1000):n<=sizeLine:=small h
noncomputable def MC:T->Bool
 |.lst _=>false
 |.dk _ _=>false
 |.dt _ _=>false
 |.dc _ _ _=>false
 |.kt _=>false
 |.ins _ _ _=>false
 |.pin _ _=>false
 |.ob _=>false
 |.ty _=>false
 |_=>true
noncomputable def CF:T->Bool
 |.str x=>c_ x
 |_=>false
def j7(ts:ξ)(q:qam):Prop:=∃t,ts=[t]/\MC t=true/\(∀x,t=.str x->x.length<=1000)/\q (.vw (.bl (CF t)))
def R5(r:Rt)(A:Prop)(B:Prop):Prop:=match r with
 |.vw (.bl true)=>A
 |.vw (.bl false)=>B
 |_=>False
def HM{c:Bool}{A:Prop}(h1:c=true->A)(h2:c=false->B):R5 (.vw (.bl c)) A B:=by
 cases c with
 |true=>exact h1 rfl
 |false=>exact h2 rfl
noncomputable def kM:T->Bool
 |.str x=>pQ x
 |_=>false
def ym(t:T):Prop:=(∃x,t=.str x/\x.length<=100)\/∃i,t=.int i
def Ax(ts:ξ)(q:qam):Prop:=∃t,ts=[t]/\ym t/\q (.vw (.bl (kM t)))
def andM(r:Rt)(A:Prop)(B:Prop):Prop:=match r with
 |.vw (.bl true)=>A
 |.vw (.bl false)=>B
 |_=>False
def MD{c:Bool}{A:Prop}(h1:c=true->A)(h2:c=false->B):andM (.vw (.bl c)) A B:=by
 cases c with
 |true=>exact h1 rfl
 |false=>exact h2 rfl
theorem CG:∀l:qao,dJ (l.map ((λt:T=>match t with | .str y=>.bl (G0 y bT)|_=>.aQ) ∘ λc=>T.str ⟨#[c]⟩))=some (l.map D2)
 |[]=>rfl
 |c::l=>by rw[fU,fU];show (dJ _).map _=_;rw[CG l];rfl
section
noncomputable abbrev nt:π:=qav
def qx:aE nt qav (aj jX):=L2.g9
def sI:(nt++(["sign"]:π)).Nodup:=by decide +kernel
def ME(D:Df K mg "is_name" jX qav f fd)(M:Mg2 mg):bW P w K mg base "is_name" qav 1 (di K 1 j7):=by
 refine D.hJ (oH D.F qx rfl λbB A outer s H E Ox hr ts q hG=>?_);have nd:=qx.nd;have np:∀{i:Nat},bN ⟨H,[],Ox⟩ i:=mB;obtain⟨tL,mL⟩:=M.MB;obtain⟨tN,mN⟩:=M.vJ;have qy:∀{pos},VP (fP eD P w K mg base nt "is_name" (aj jX) f bB A outer s H E).pF ⟨H,[],Ox⟩ (.Name "LONGEST_NAME" pos) (fC (.int 8)):=iI (by rfl) mN (v:=.int 8) ⟨tN,rfl⟩ λ_ _=>bz;refine⟨_,(ah (bJ (VW.vc (B1 (mR (eF (cy ie (by rfl) M.isinstance (by rfl) M.str tW (aa 0)))) (uS (mR (G3 Og Og (θ ag) (θ (bq bh bj (by rfl) M.len pA (aJ (aa 0) aW))) (θ qy))))))
    (ax (aT (qau tS)))
    aZ)
   (ax (aT (qau (bq (pN rfl) D7 (by rfl) M.all WH (aJ (θ (dU (ts:=["sign"]) rfl (by rfl) (gb (ai 0)) (λ_ _ _ _ _ _=>(bt (i:=1) sI rfl (.inl rfl) np)) (λ_ _ _ _ _ _=>dg) (λ_ _ _ _ _ _=>(ψ (WD (aa 1) (θ (iI (by rfl) mL (v:=.str bT) ⟨tL,rfl⟩ λ_ _=>cD))))))) aW)))))),λ_=>?_⟩
 obtain⟨t,rfl,ht,hx,hq⟩:=hG;cases t with
 |aQ=>exact⟨rfl,hq⟩
 |bl b=>exact⟨rfl,hq⟩
 |int x=>exact⟨rfl,hq⟩
 |tup l=>exact⟨rfl,hq⟩
 |str x=>
   have hl:=hx x rfl;have gQ:q (.vw (.bl (decide (1<=(x.length:Int)) && (decide ((x.length:Int)<=8) && x.cps.toList.all D2)))):=hq;refine⟨rfl,xg hl,HM (c:=decide (1<=(x.length:Int))) (λh1=>?_) (λh1=>?_)⟩;rw[h1,U4] at gQ;refine xB (λh2=>?_) (λh2=>?_);have GX:(!decide ((x.length:Int)<=8))=true:=h2;have h3:decide ((x.length:Int)<=8)=false:=by simpa using GX
   rw[h3,U3] at gQ;exact gQ;have GX:¬ (!decide ((x.length:Int)<=8))=true:=h2;have h3:decide ((x.length:Int)<=8)=true:=by simpa using GX
   rw[h3,U4] at gQ;refine⟨rfl,by rw[cJ,N4];exact xg hl,tT (λ_=>true) (λt=>match t with | .str y=>.bl (G0 y bT)|_=>.aQ) (λt ht k r h=>?_) ?_⟩;obtain⟨c,_,rfl⟩:=rS.mp ht;exact⟨_,rfl,h⟩;rw[List.filter_eq_self.mpr (λ_ _=>rfl),tu];refine⟨x.cps.toList.map D2,CG x.cps.toList,?_⟩;rw[List.all_map];exact gQ;rw[h1,U3] at gQ;exact gQ
 |_=>cases ht
noncomputable abbrev AE:π:=qav
def nY:aE AE qav (aj kK):=L2.g9
def yn(D:Df K mg "is_field" kK qav f fd)(M:Mg2 mg)(nv:bW P w K mg base "is_name" qav 1 (di K 1 j7)):bW P w K mg base "is_field" qav 2 (di K 1 Ax):=by
 refine D.hJ (oH D.F nY rfl λbB A outer s H E Ox hr ts q hG=>?_);have nd:=nY.nd;refine⟨_,(ax (aT (qau (pS (cy ie (by rfl) M.isinstance (by rfl) M.str tW (aa 0)) (pS (Ek (aa 0) (θ a9)) (Aj (aM nv hr (ae (ψ (ic (aa 0) (fg (θ ag)) iL)) ar)))))))),λ_=>?_⟩;obtain⟨t,rfl,ht,hq⟩:=hG;obtain⟨x,rfl,hx⟩|⟨i,rfl⟩:=ht
 refine⟨rfl,?_⟩;have gQ:q (.vw (.bl (Txt.startswith x "." && c_ (Txt.slice x (some 1) none)))):=hq;refine MD (c:=Txt.startswith x ".") (λh=>?_) (λh=>?_);rw[h,U4] at gQ;refine⟨xg (by omega),rfl,_,rfl,rfl,λy e=>?_,gQ⟩;cases e;exact fM (Txt.slice_le x _ _) (by omega);rw[h,U3] at gQ;exact gQ;exact⟨rfl,hq⟩
end
end Nm
namespace PySem
open Sem (wp)
namespace F
end F
end PySem
namespace VT
open PySem PySem.Spec PyProof.Rows L2
end VT
namespace UD
open PySem L2 VT Gen nP Nm
noncomputable def jw:Rw->ξ
 |.give a=>[gf a]
 |.My a=>[gf a]
 |.HK a=>[gf a]
 |.put _ a=>[gf a]
 |.kJ _ a _ b=>[gf a,gf b]
 |.get _ r k=>[.str r,AD k]
 |.set r k a=>[.str r,AD k,gf a]
 |.call _ _ as=>as.map gf
 |_=>[]
noncomputable abbrev kN:Stmt:=top 9
noncomputable def Xk:List (Str×T):=[("give",.tup [.int 1]),("put",.tup [.int 2]),("do",.tup [.int 2,.int 4]),("get",.tup [.int 2,.int 3]),("set",.tup [.int 1,.int 2,.int 3]),("if",.tup [.int 1]),("while",.tup [.int 1])]
structure MgU(w:World)(K:Δ)(mg:qae):Prop where
 list:mg "list"=none
 US:∃a,mg "USED_PLACES"=some (.ref a)/\qq w K a Xk
noncomputable def CH:Rw->ξ
 |.call _ _ as=>as.map gf
 |r=>(jw r).filter λt=>!kM t
def CI(ts:ξ)(q:qam):Prop:=∃r:Rw,ts=[bu r]/\(∀t∈jw r,ym t)/\q (.fr (.lst (CH r)))
section
noncomputable abbrev kO:π:=["row","parts"]
def nZ:aE kO ["row"] (aj kN):=L2.g9
def qz:(kO++(["place"]:π)).Nodup:=by decide +kernel
def qA:(kO++(["part"]:π)).Nodup:=by decide +kernel
def yo(D:Df K mg "operands" kN ["row"] f fd)(M:MgU w K mg)(kP:bW P w K mg base "is_field" qav 2 (di K 1 Ax)):bW P w K mg base "operands" ["row"] 3 (di K 1 CI):=by
 refine D.hJ (oH D.F nZ rfl λbB A outer s H E Ox hr ts q hG=>?_);have nd:=nZ.nd;have hu:=bF.iN hr;have np:∀{i:Nat},bN ⟨H,[],Ox⟩ i:=mB;obtain⟨aU,sJ,qB⟩:=M.US;refine⟨_,(ah (bJ (de hu (θ (aI (aa 0) (θ ag))) (θ a9))
    (ax (aT (qau (eh iG kr (by rfl) M.list m7 (aJ (θ (aI (aa 0) (θ ag))) aW)))))
    aZ)
   (ah (oX (i:=1) (ts:=["place"]) nd rfl (.inl rfl) rfl (by rfl) (gb (ψ (Hs (by rfl) sJ qB (θ (aI (aa 0) (θ ag))) (ψ (bA ar)) ⟨rfl,rfl,rfl,rfl⟩))) (λ_ _ _ _ _ _=>(bt (i:=2) qz rfl (.inl rfl) np)) (λ_ _ _ _ _ _=>dg) (λ_ _ _ _ _ _=>(ψ (aI (aa 0) (aa 2)))) np)
   (ax (aT (qau (dU (ts:=["part"]) rfl (by rfl) (gb (ai 1)) (λ_ _ _ _ _ _=>(bt (i:=2) qA rfl (.inl rfl) np)) (λ_ _ _ _ _ _=>(B_ (mR (eF (aM kP hr (ae (ai 2) ar)))))) (λ_ _ _ _ _ _=>(ai 2)))))))),λ_=>?_⟩
 obtain⟨r,rfl,hl,hq⟩:=hG;have fin:∀(ps:ξ),(∀t∈ps,ym t)->q (.fr (.lst (ps.filter λt=>!kM t)))->cu (hName 2) (Wg (oC (Al 1 (dI (mQ 2) oE) Ax))) (mQ 2) [some (bu r,false),some (.lst ps,false),none] ps λus=>q (.fr (.lst us)):=λps Xl hq=>by refine tT (λt=>!kM t) (λt=>t) (λt ht k r h=>?_) (by rw[List.map_id'];exact hq);refine⟨rfl,t,rfl,Xl t ht,?_⟩;exact h
 cases r with
 |call x f as=>exact⟨_,aaB,_,aaE,hq⟩
 |give a=>refine⟨_,aaB,rfl,_,aaB,mE _,?_⟩;show ([T.int 1]:ξ).length<=sizeLine/\cu _ _ _ _ [T.int 1] _;exact⟨Gen.cR rfl,_,aaC,rfl,Gen.cR rfl,fin _ hl hq⟩
 |My a=>refine⟨_,aaB,rfl,_,aaB,mE _,?_⟩;show ([T.int 1]:ξ).length<=sizeLine/\cu _ _ _ _ [T.int 1] _;exact⟨Gen.cR rfl,_,aaC,rfl,Gen.cR rfl,fin _ hl hq⟩
 |HK a=>refine⟨_,aaB,rfl,_,aaB,mE _,?_⟩;show ([T.int 1]:ξ).length<=sizeLine/\cu _ _ _ _ [T.int 1] _;exact⟨Gen.cR rfl,_,aaC,rfl,Gen.cR rfl,fin _ hl hq⟩
 |put x a=>refine⟨_,aaB,rfl,_,aaB,mE _,?_⟩;show ([T.int 2]:ξ).length<=sizeLine/\cu _ _ _ _ [T.int 2] _;exact⟨Gen.cR rfl,_,aaD,rfl,Gen.cR rfl,fin _ hl hq⟩
 |kJ x a op b=>refine⟨_,aaB,rfl,_,aaB,mE _,?_⟩;show ([T.int 2,T.int 4]:ξ).length<=sizeLine/\cu _ _ _ _ [T.int 2,T.int 4] _;exact⟨Gen.cR rfl,_,aaD,_,aaF,rfl,Gen.cR rfl,fin _ hl hq⟩
 |get x y k=>refine⟨_,aaB,rfl,_,aaB,mE _,?_⟩;show ([T.int 2,T.int 3]:ξ).length<=sizeLine/\cu _ _ _ _ [T.int 2,T.int 3] _;exact⟨Gen.cR rfl,_,aaD,_,aaE,rfl,Gen.cR rfl,fin _ hl hq⟩
 |set y k a=>refine⟨_,aaB,rfl,_,aaB,mE _,?_⟩;show ([T.int 1,T.int 2,T.int 3]:ξ).length<=sizeLine/\cu _ _ _ _ [T.int 1,T.int 2,T.int 3] _;exact⟨Gen.cR rfl,_,aaC,_,aaD,_,aaE,rfl,Gen.cR rfl,fin _ hl hq⟩
 |_=>refine⟨_,aaB,rfl,_,aaB,mE _,?_⟩;show ([]:ξ).length<=sizeLine/\cu _ _ _ _ [] _;exact⟨mE _,rfl,mE _,fin _ hl hq⟩
end
end UD
namespace Gen
open PySem L2 VT
noncomputable def wd:Rw->Str
 |.df _ _=>"def"
 |.give _=>"give"
 |.put _ _=>"put"
 |.kJ _ _ _ _=>"do"
 |.new _=>"new"
 |.get _ _ _=>"get"
 |.set _ _ _=>"set"
 |.call _ _ _=>"call"
 |.fail _=>"fail"
 |.My _=>"if"
 |.UC=>"else"
 |.HK _=>"while"
 |.fin=>"end"
 |.skip=>"skip"
def lK(r:Rw):∃l,bu r=.tup (.str (wd r)::l):=by cases r<;>exact⟨_,rfl⟩
theorem t8{f:α->T}{xs:List α}{h:FG}{g:FS}{d:FD}(Pv:Nat->En->Prop)(h0:Pv 0 ρ)(hs:∀(i:Nat) x ρ',xs[i]?=some x->Pv i ρ'->h (.tup [.int (i:Int),f x]) ρ' λρ2=>g {nx:=Pv (i+1),ct:=Pv (i+1),bk:=d.nx,rt:=d.rt} ρ2)(hd:∀ρ',Pv xs.length ρ'->d.nx ρ'):pW (fu (xs.map f)) h g d ρ:=⟨Pv,h0,λi t ρ' e p=>by
 unfold fu at e;rw[YK,hU] at e;cases q:xs[i]? with
 |none=>rw[q] at e;cases e
 |some x=>rw[q] at e;cases e;exact hs i x ρ' q p,λρ' p=>hd ρ' (by unfold fu at p;rw[List.length_mapIdx,cJ] at p;exact p)⟩
def Hd(x:Str):Prop:=x="if"\/x="while"\/x="else"
noncomputable def n_:List (Str×Nat)->Str->Option Nat
 |[],_=>none
 | (k,i)::l,f=>if k=f then some i else n_ l f
theorem vL(l m:List (Str×Nat))(f:Str):n_ (l++m) f=match n_ l f with
  |some i=>some i
  |none=>n_ m f:=by
 induction l with
 |nil=>rfl
 |cons p l ih=>obtain⟨k,i⟩:=p;simp only[FZ,n_];by_cases h:k=f;rw[ε h,ε h];rw[η h,η h];exact ih
noncomputable def KH(l:List (Str×Nat))(i:Nat):Rw->List (Str×Nat)
 |.df f _=>match n_ l f with
  |some _=>l
  |none=>l++[(f,i)]
 |_=>l
noncomputable def aV(rs:qal):Nat->List (Str×Nat)
 |0=>[]
 |n+1=>match rs[n]? with
  |some r=>KH (aV rs n) n r
  |none=>aV rs n
theorem qC{rs:qal}{f:Str}{j:Nat}:∀n,n_ (aV rs n) f=some j->j<n/\∃ps,rs[j]?=some (.df f ps)
 |0,h=>nomatch h
 |n+1,h=>by
  have old:n_ (aV rs n) f=some j->j<n+1/\∃ps,rs[j]?=some (.df f ps):=λh=>by have:=qC n h;exact⟨by omega,this.2⟩
  simp only[aV] at h;split at h
  rename_i r hr
  cases r with
  |df g ps=>
   simp only[KH] at h;split at h;exact old h
   rename_i hn
   rw[vL] at h;split at h
   rename_i i hi
   cases h;exact old hi;simp only[n_] at h;split at h
   rename_i e
   cases h;subst e;exact⟨by omega,ps,hr⟩;cases h
  |_=>exact old h
  exact old h
theorem t9{rs:qal}{f:Str}{i:Nat}{ps:π}(hi:rs[i]?=some (.df f ps)):∀n,i<n->∃j,n_ (aV rs n) f=some j
 |0,h=>absurd h (by omega)
 |n+1,h=>by
  simp only[aV];by_cases e:i=n;subst e;rw[hi];simp only[KH];cases ha:n_ (aV rs i) f with
  |some j=>exact⟨j,ha⟩
  |none=>refine⟨i,?_⟩;simp only;rw[vL,ha];simp only[n_,aal]
  obtain⟨j,hj⟩:=t9 hi n (by omega);split
  rename_i r hr
  cases r with
  |df g qs=>simp only[KH];split;exact⟨j,hj⟩;rw[vL,hj];exact⟨j,rfl⟩
  |_=>exact⟨j,hj⟩
  exact⟨j,hj⟩
structure vM(rs:qal):Prop where
 un:∀(i i':Nat)(f:Str)(ps Zi:π),rs[i]?=some (Rw.df f ps)->rs[i']?=some (Rw.df f Zi)->i=i'
 ca:∀(i:Nat)(x f:Str)(as:List ij),rs[i]?=some (Rw.call x f as)->∃(j:Nat)(ps:π),i<j/\rs[j]?=some (Rw.df f ps)/\ps.length=as.length
def vM.first(h:vM rs){f:Str}(hi:rs[i]?=some (.df f ps)):n_ (aV rs rs.length) f=some i:=by obtain⟨j,hj⟩:=t9 hi rs.length (fQ.mp hi).1;obtain⟨_,qs,hq⟩:=qC _ hj;rw[hj,h.un j i f qs ps hq hi]
end Gen
namespace K5
structure Kd where
 op:Bool
 cl:Bool
 el:Bool
 df:Bool
deriving DecidableEq,Inhabited
section
variable(kd:Nat->Kd)
noncomputable def st:Nat->qao
 |0=>[]
 |k+1=>let s:=if (kd k).cl=true then (st k).dropLast else st k
  if (kd k).op=true then s++[k] else s
noncomputable def dp(k:Nat):Nat:=(st kd k).length
structure WF(n:Nat):Prop where
 ex:∀k,k<n->(kd k).op=true->(kd k).cl=false
 cl:∀k,k<n->(kd k).cl=true->st kd k≠[]
 el:∀k,k<n->(kd k).el=true->st kd k≠[]
 nc:∀k,k<n->(kd k).el=true->(kd k).cl=false/\(kd k).op=false
 dn:∀k,k<n->(kd k).df=true->(kd k).op=true
 fin:st kd n=[]
end
section
variable{kd:Nat->Kd}
def t_{k:Nat}(h:(kd k).op=true)(h':(kd k).cl=false):st kd (k+1)=st kd k++[k]:=by simp[st,h,h']
def qD{k:Nat}(h:(kd k).cl=true)(h':(kd k).op=false):st kd (k+1)=(st kd k).dropLast:=by simp[st,h,h']
def yp{k:Nat}(h:(kd k).cl=false)(h':(kd k).op=false):st kd (k+1)=st kd k:=by simp[st,h,h']
def WF.ZW(W:WF kd n){k:Nat}(hk:k<n)(h:(kd k).cl=true):(kd k).op=false:=by
 cases q:(kd k).op with
 |false=>rfl
 |true=>rw[W.ex k hk q] at h;cases h
def CJ(W:WF kd n){k:Nat}(hk:k<n)(h:(kd k).op=true):dp kd (k+1)=dp kd k+1:=by unfold dp;rw[t_ h (W.ex k hk h)];simp
def HN(W:WF kd n){k:Nat}(hk:k<n)(h:(kd k).cl=true):dp kd (k+1)+1=dp kd k:=by unfold dp;rw[qD h (W.ZW hk h),UX];have:0<(st kd k).length:=List.length_pos_iff.mpr (W.cl k hk h);omega
def HP{k:Nat}(h:(kd k).cl=false)(h':(kd k).op=false):dp kd (k+1)=dp kd k:=by unfold dp;rw[yp h h']
theorem OY(W:WF kd n):∀k,k<=n->∀i j,(st kd k)[i]?=some j->j<k/\(kd j).op=true/\dp kd j=i/\∀m,j<m->m<=k->i<dp kd m
 |0,_,i,j,h=>by simp[st] at h
 |k+1,hk,i,j,h=>by
  have ih:=OY W k (by omega);have Cw:k<n:=by omega
  have ext:∀{i j:Nat},(st kd k)[i]?=some j->i<dp kd (k+1)->j<k+1/\(kd j).op=true/\dp kd j=i/\∀m,j<m->m<=k+1->i<dp kd m:=λ{i j} h hd=>by obtain⟨a,b,c,d⟩:=ih i j h;refine⟨by omega,b,c,λm h1 h2=>?_⟩;by_cases e:m=k+1;rw[e];exact hd;exact d m h1 (by omega)
  by_cases ho:(kd k).op=true;rw[t_ ho (W.ex k Cw ho)] at h;have hd:=CJ W Cw ho;by_cases hi:i<(st kd k).length;rw[rR hi] at h;exact ext h (by rw[hd];exact Uk hi);rw[rY (by omega)] at h;have e:i-(st kd k).length=0:=by
   cases q:i-(st kd k).length with
   |zero=>rfl
   |succ r=>rw[q] at h;simp at h
  rw[e] at h;simp at h;subst h;have ei:i=dp kd k:=by unfold dp;omega
  refine⟨by omega,ho,ei.symm,λm h1 h2=>?_⟩;have:m=k+1:=by omega
  rw[this,hd,ei];omega;have j6:(kd k).op=false:=by cases q:(kd k).op<;>simp_all
  by_cases hc:(kd k).cl=true;rw[qD hc j6] at h;have hi:i<(st kd k).dropLast.length:=(fQ.mp h).1;have hd:dp kd (k+1)=(st kd k).dropLast.length:=by unfold dp;rw[qD hc j6]
  rw[List.getElem?_dropLast,ε (by rw[UX] at hi;exact hi)] at h;exact ext h (by rw[hd];exact hi);have r_:(kd k).cl=false:=by cases q:(kd k).cl<;>simp_all
  rw[yp r_ j6] at h;have hd:dp kd (k+1)=dp kd k:=HP r_ j6;exact ext h (by rw[hd];exact (fQ.mp h).1)
theorem OZ(W:WF kd n){j:Nat}(ho:(kd j).op=true):∀k,j<k->k<=n->(∀m,j<m->m<=k->dp kd j<dp kd m)->(st kd k)[dp kd j]?=some j
 |0,h,_,_=>by omega
 |k+1,h,hk,hm=>by
  have Cw:k<n:=by omega
  by_cases e:j=k;subst e;rw[t_ ho (W.ex j Cw ho)];unfold dp;rw[rY (cS _)];simp;have ih:=OZ W ho k (by omega) (by omega) λm h1 h2=>hm m h1 (by omega);have hd:=hm (k+1) (by omega) (cS _);by_cases j6:(kd k).op=true;rw[t_ j6 (W.ex k Cw j6),rR (fQ.mp ih).1];exact ih;have R6:(kd k).op=false:=by cases q:(kd k).op<;>simp_all
  by_cases hc:(kd k).cl=true;have hl:dp kd (k+1)=(st kd k).length-1:=by unfold dp;rw[qD hc R6,UX]
  rw[qD hc R6,List.getElem?_dropLast,ε (by omega)];exact ih;have r_:(kd k).cl=false:=by cases q:(kd k).cl<;>simp_all
  rw[yp r_ R6];exact ih
noncomputable def jY(kd:Nat->Kd)(n d:Nat):Nat->Nat->Option Nat
 |0,_=>none
 |f+1,k=>if k<n then (if dp kd (k+1)=d then some k else jY kd n d f (k+1)) else none
noncomputable def endOf(kd:Nat->Kd)(n j:Nat):Option Nat:=jY kd n (dp kd j) (n-(j+1)) (j+1)
theorem lL{d:Nat}:∀{f k e:Nat},jY kd n d f k=some e->k<=e/\e<n/\dp kd (e+1)=d/\∀m,k<=m->m<e->dp kd (m+1)≠d
 |0,_,_,h=>by cases h
 |f+1,k,e,h=>by
  simp only[jY] at h;split at h
  rename_i hk
  split at h
  rename_i hd
  cases h;exact⟨cS _,hk,hd,λm h1 h2=>by omega⟩
  rename_i hd
  obtain⟨a,b,c,r⟩:=lL h;refine⟨by omega,b,c,λm h1 h2=>?_⟩;by_cases em:m=k;rw[em];exact hd;exact r m (by omega) h2;cases h
theorem lN{d:Nat}:∀{f k:Nat},jY kd n d f k=none->∀m,k<=m->m<k+f->m<n->dp kd (m+1)≠d
 |0,k,_,m,h1,h2,_=>by omega
 |f+1,k,h,m,h1,h2,h3=>by
  simp only[jY] at h;split at h;split at h;cases h
  rename_i hd
  by_cases em:m=k;rw[em];exact hd;exact lN h m (by omega) (by omega) h3;omega
def MH(W:WF kd n){k:Nat}(hk:k<n):dp kd k<=dp kd (k+1)+1:=by
 by_cases ho:(kd k).op=true;rw[CJ W hk ho];omega;have j6:(kd k).op=false:=by cases q:(kd k).op<;>simp_all
 by_cases hc:(kd k).cl=true;rw[HN W hk hc];exact cS _;have r_:(kd k).cl=false:=by cases q:(kd k).cl<;>simp_all
 rw[HP r_ j6];omega
theorem above(W:WF kd n){j:Nat}(hj:j<n)(ho:(kd j).op=true):∀k,j<k->k<=n->(∀m,j<m->m<k->dp kd (m+1)≠dp kd j)->∀m,j<m->m<=k->dp kd j<dp kd m
 |0,h,_,_,m,_,_=>by omega
 |k+1,h,hk,fY,m,h1,h2=>by by_cases em:m=k+1;subst em;by_cases e:j=k;subst e;rw[CJ W hj ho];omega;have ih:=above W hj ho k (by omega) (by omega) (λm a b=>fY m a (by omega)) k (by omega) (cS _);have s:=MH W (k:=k) (by omega);have ne:=fY k (by omega) (by omega);omega;by_cases e:j=k;omega;exact above W hj ho k (by omega) (by omega) (λm a b=>fY m a (by omega)) m h1 (by omega)
def end_is(W:WF kd n)(hj:j<n)(ho:(kd j).op=true):∃e,endOf kd n j=some e/\j<e/\e<n/\dp kd (e+1)=dp kd j/\∀m,j<m->m<e->dp kd (m+1)≠dp kd j:=by
 cases h:endOf kd n j with
 |some e=>obtain⟨a,b,c,d⟩:=lL h;exact⟨e,rfl,by omega,b,c,λm h1 h2=>d m (by omega) h2⟩
 |none=>
  exfalso;have q:=lN h;have a:=above W hj ho n hj (cS _) (λm h1 h2=>q m (by omega) (by omega) h2) n hj (cS _);have z:dp kd n=0:=by unfold dp;rw[W.fin];rfl
  omega
theorem ua:∀k,(st kd k).Pairwise (·<·)/\∀j∈st kd k,j<k
 |0=>⟨List.Pairwise.nil,λj h=>(by simp[st] at h)⟩
 |k+1=>by
  obtain⟨h1,h2⟩:=ua k;have base:∀{s:qao},s.Sublist (st kd k)->s.Pairwise (·<·)/\∀j∈s,j<k:=λsl=>⟨h1.sublist sl,λj h=>h2 j (sl.subset h)⟩;have key:∀{s:qao},s.Sublist (st kd k)->(if (kd k).op=true then s++[k] else s).Pairwise (·<·)/\∀j∈(if (kd k).op=true then s++[k] else s),j<k+1:=λ{s} sl=>by
   obtain⟨a,b⟩:=base sl;split;refine⟨List.pairwise_append.mpr ⟨a,List.pairwise_singleton _ _,λx hx y hy=>by rw[iD.mp hy];exact b x hx⟩,λj hj=>?_⟩;rcases cK.mp hj with h|h
   exact Uk (b j h);rw[iD.mp h];exact zJ _;exact⟨a,λj hj=>Uk (b j hj)⟩
  simp only[st];by_cases hc:(kd k).cl=true;rw[ε hc];exact key (List.dropLast_sublist _);rw[η hc];exact key (List.Sublist.refl _)
noncomputable def endsAt(kd:Nat->Kd)(n j:Nat):Option Nat:=if (kd j).op=true then endOf kd n j else none
def MJ(W:WF kd n){k:Nat}(hk:k<n)(hc:(kd k).cl=true)(ht:(st kd k).getLast?=some j):endsAt kd n j=some k/\j<k:=by
 have hl:(st kd k)[(st kd k).length-1]?=some j:=by rw[<- Ub];exact ht
 obtain⟨a,b,c,d⟩:=OY W k (by omega) _ j hl;obtain⟨e,h1,h2,h3,h4,h5⟩:=end_is W (by omega) b;refine⟨?_,a⟩;unfold endsAt;rw[ε b,h1]
 congr 1
 have hd:=HN W hk hc;have nS:dp kd (k+1)=dp kd j:=by rw[c];unfold dp at hd ⊢;omega
 rcases Nat.lt_or_ge e k with l|l
 have:=d (e+1) (by omega) (by omega);omega;rcases Nat.lt_or_ge k e with l2|l2
 exact absurd nS (h5 k a l2);omega
def CM(W:WF kd n){k:Nat}(hk:k<n)(he:endsAt kd n j=some k)(hj:j<n):(kd k).cl=true/\(st kd k).getLast?=some j:=by
 unfold endsAt at he;by_cases ho:(kd j).op=true;rw[ε ho] at he;obtain⟨e,h1,h2,h3,h4,h5⟩:=end_is W hj ho;rw[h1] at he;cases he;have ab:=above W hj ho k h2 (by omega) λm x y=>h5 m x y;have qF:=ab k h2 (cS _);have hc:(kd k).cl=true:=by
  cases q:(kd k).cl with
  |true=>rfl
  |false=>exfalso;by_cases j6:(kd k).op=true;rw[CJ W hk j6] at h4;omega;rw[HP q (by cases r:(kd k).op<;>simp_all)] at h4;omega
 refine⟨hc,?_⟩;have hd:=HN W hk hc;have:=OZ W ho k h2 (by omega) ab;rw[Ub];have e:(st kd k).length-1=dp kd j:=by unfold dp at hd h4 ⊢;omega
 rw[e];exact this;rw[η ho] at he;cases he
end
end K5
namespace K5
open PySem L2 VT Gen
noncomputable def wordOf:Rw->Str
 |.df _ _=>"def" | .give _=>"give" | .put _ _=>"put" | .kJ _ _ _ _=>"do" | .new _=>"new" | .get _ _ _=>"get" | .set _ _ _=>"set" | .call _ _ _=>"call" | .fail _=>"fail"
 |.My _=>"if" | .UC=>"else" | .HK _=>"while" | .fin=>"end" | .skip=>"skip"
def ik(r:Rw):∃l,bu r=.tup (.str (wordOf r)::l):=by cases r<;>exact⟨_,rfl⟩
noncomputable def bK:Rw->Kd
 |.df _ _=>⟨true,false,false,true⟩
 |.give _=>⟨false,true,false,false⟩
 |.My _=>⟨true,false,false,false⟩
 |.UC=>⟨false,false,true,false⟩
 |.HK _=>⟨true,false,false,false⟩
 |.fin=>⟨false,true,false,false⟩
 |_=>⟨false,false,false,false⟩
def Xm(r:Rw):decide (wordOf r="def")=(bK r).df:=by cases r<;>first|rfl|decide +kernel
def Xn(r:Rw):decide (wordOf r="else")=(bK r).el:=by cases r<;>first|rfl|decide +kernel
def Xo(r:Rw):Kw (.str (wordOf r)) [.str "give",.str "end"]=(bK r).cl:=by cases r<;>first|rfl|decide +kernel
def Xp(r:Rw):Kw (.str (wordOf r)) [.str "def",.str "if",.str "while"]=(bK r).op:=by cases r<;>first|rfl|decide +kernel
noncomputable def ez(rs:qal)(k:Nat):Kd:=match rs[k]? with
 |some r=>bK r
 |none=>⟨false,false,false,false⟩
def ny{k:Nat}(h:rs[k]?=some r):ez rs k=bK r:=by unfold ez;rw[h]
def Xq(rs:qal):Prop:=WF (ez rs) rs.length
noncomputable def oT:Option Nat->T
 |none=>.aQ
 |some k=>.int (k:Int)
noncomputable def tab(f:Nat->Option Nat)(n k:Nat):ξ:=(List.range n).map λi=>if i<k then oT (f i) else .aQ
noncomputable def jd(e:Nat->Option Nat)(n k:Nat):ξ:=(List.range n).map λj=>match e j with
 |some m=>if m<k then .int (m:Int) else .aQ
 |none=>.aQ
def lQ(f n k):(tab f n k).length=n:=by simp[tab]
def yq(f n k):(jd f n k).length=n:=by simp[jd]
def yr(f n):tab f n 0=List.replicate n .aQ:=by unfold tab;rw[List.eq_replicate_iff];exact⟨by simp,λx hx=>by simp at hx;exact hx.2.symm⟩
def Ep(f n):jd f n 0=List.replicate n .aQ:=by unfold jd;rw[List.eq_replicate_iff];refine⟨by simp,λx hx=>?_⟩;obtain⟨j,_,rfl⟩:=rS.mp hx;split<;>simp
def o8{f:Nat->Option Nat}{k:Nat}:(tab f n k).set k (oT (f k))=tab f n (k+1):=by refine Um λi=>?_;rw[Ul,lQ];unfold tab;rw[hU,hU];by_cases hi:i<n;rw[YC hi];by_cases e:k=i;subst e;rw[ε rfl,ε hi];simp;rw[η e];simp only[U2];by_cases l:i<k;rw[ε l,ε (by omega)];rw[η l,η (by omega)];rw[Dy (by simp;omega)];split;rw[η (by omega)];rfl;rfl
def yt{f:Nat->Option Nat}{k:Nat}(h:f k=none):tab f n k=tab f n (k+1):=by unfold tab;refine N6 λi _=>?_;by_cases e:i=k;subst e;rw[η (Fu _),ε (zJ _),h];rfl;by_cases l:i<k;rw[ε l,ε (by omega)];rw[η l,η (by omega)]
def yu(f n):tab f n n=(List.range n).map λi=>oT (f i):=by unfold tab;exact N6 λi hi=>by rw[ε (Kj.mp hi)]
def HQ{e:Nat->Option Nat}{k:Nat}(h:e j=some k)(u:∀i,i<n->e i=some k->i=j):(jd e n k).set j (.int (k:Int))=jd e n (k+1):=by
 refine Um λi=>?_;rw[Ul,yq];unfold jd;rw[hU,hU];by_cases hi:i<n;rw[List.getElem?_range hi];by_cases q:j=i;subst q;rw[ε rfl,ε hi];simp[h];rw[η q];simp only[U2];cases r:e i with
 |none=>rfl
 |some m=>have:m≠k:=λz=>q (u i hi (by rw[r,z])).symm;simp only;by_cases l:m<k;rw[ε l,ε (by omega)];rw[η l,η (by omega)]
 rw[Dy (by simp;omega)];split;rw[η (by omega)];rfl;rfl
def Er{e:Nat->Option Nat}{k:Nat}(u:∀i,i<n->e i≠some k):jd e n k=jd e n (k+1):=by
 unfold jd;refine N6 λi hi=>?_;cases r:e i with
 |none=>rfl
 |some m=>have:m≠k:=λz=>u i (Kj.mp hi) (by rw[r,z]);simp only;by_cases l:m<k;rw[ε l,ε (by omega)];rw[η l,η (by omega)]
def Es{e:Nat->Option Nat}(h:∀j m,j<n->e j=some m->m<n):jd e n n=(List.range n).map λi=>oT (e i):=by
 unfold jd;refine N6 λi hi=>?_;cases r:e i with
 |none=>rfl
 |some m=>simp only;rw[ε (h i m (Kj.mp hi) r)];rfl
section
variable(kd:Nat->Kd)
noncomputable def Et(k:Nat):Option Nat:=(st kd k).getLast?
noncomputable def zE(k:Nat):Option Nat:=if (kd k).df=true then some k else (st kd k).head?
noncomputable def AF(n:Nat):Nat->ξ
 |0=>List.replicate n .aQ
 |k+1=>match (kd k).el,Et kd k with
  |true,some h=>(AF n k).set h (.int (k:Int))
  |_,_=>AF n k
end
theorem vN(kd n):∀k,(AF kd n k).length=n
 |0=>by simp[AF]
 |k+1=>by simp only[AF];split;rw[Fq];exact vN kd n k;exact vN kd n k
noncomputable def HR(rs:qal):ξ:=[.lst ((List.range rs.length).map λi=>oT (Et (ez rs) i)),.lst ((List.range rs.length).map λi=>oT (endsAt (ez rs) rs.length i)),.lst (AF (ez rs) rs.length rs.length),.lst ((List.range rs.length).map λi=>oT (zE (ez rs) i))]
def HS(rs:qal):fu (rs.map bu)=(rs.zipIdx).map λp=>.tup [.int (p.2:Int),bu p.1]:=by unfold fu;refine Um λi=>?_;rw[YK,hU,hU,List.getElem?_zipIdx];cases rs[i]?<;>simp
noncomputable def dr:Nat->qal->Option Nat
 |d,[]=>some d
 |d,r::rs=>if (bK r).cl=true then (if d=0 then none else dr (d-1) rs) else if (bK r).el=true then (if d=0 then none else dr d rs) else if (bK r).op=true then dr (d+1) rs else dr d rs
theorem kQ:∀(a b:qal)(d:Nat),dr d (a++b)=(dr d a).bind λe=>dr e b
 |[],b,d=>rfl
 |r::a,b,d=>by simp only[FZ,dr];split;split;rfl;exact kQ a b _;split;split;rfl;exact kQ a b _;split;exact kQ a b _;exact kQ a b _
def R7(rs:qal){k:Nat}(h:rs[k]?=some r):(st (ez rs) (k+1)).length=(if (bK r).cl=true then (st (ez rs) k).length-1 else if (bK r).op=true then (st (ez rs) k).length+1 else (st (ez rs) k).length):=by
 have og:=ny h;by_cases hc:(bK r).cl=true;have ho:(bK r).op=false:=by cases r<;>first|rfl|(cases hc)
 rw[ε hc,qD (by rw[og];exact hc) (by rw[og];exact ho),UX];have r_:(bK r).cl=false:=by cases q:(bK r).cl<;>simp_all
 rw[η hc];by_cases ho:(bK r).op=true;rw[ε ho,t_ (by rw[og];exact ho) (by rw[og];exact r_)];simp;rw[η ho,yp (by rw[og];exact r_) (by rw[og];cases q:(bK r).op<;>simp_all)]
theorem o9{rs:qal}(h:dr 0 rs=some 0):∀k,k<=rs.length->dr 0 (rs.take k)=some (st (ez rs) k).length
 |0,_=>rfl
 |k+1,hk=>by
  have ih:=o9 h k (by omega);have e:rs[k]?=some rs[k]:=by simp
  have et:rs.take (k+1)=rs.take k++[rs[k]]:=by rw[List.take_succ,e];rfl
  have hs:(dr 0 (rs.take (k+1))).isSome=true:=by
   rw[<- List.take_append_drop (k+1) rs,kQ] at h;cases q:dr 0 (rs.take (k+1)) with
   |some _=>rfl
   |none=>rw[q] at h;cases h
  rw[et,kQ,ih,Option.bind_some] at hs ⊢;rw[R7 rs e];simp only[dr] at hs ⊢;by_cases hc:(bK rs[k]).cl=true;rw[ε hc,ε hc] at *;by_cases z:(st (ez rs) k).length=0;rw[ε z] at hs;cases hs;rw[η z]
  . rw[η hc,η hc] at *;by_cases hl:(bK rs[k]).el=true
    . have ho:¬ (bK rs[k]).op=true:=by generalize rs[k]=r at hl;cases r<;>first|(cases hl;done)|(intro z;cases z)
      rw[ε hl,η ho] at *;by_cases z:(st (ez rs) k).length=0;rw[ε z] at hs;cases hs;rw[η z]
    rw[η hl] at *;split<;>rfl
def Xr(h:dr 0 rs=some 0):Xq rs:=by
 have at':∀{k:Nat},k<rs.length->∃r,rs[k]?=some r/\ez rs k=bK r:=λ{k} hk=>⟨rs[k],by simp,ny (by simp)⟩;have step:∀{k:Nat}{r:Rw},rs[k]?=some r->(bK r).cl=true\/(bK r).el=true->st (ez rs) k≠[]:=λ{k r} hr QX z=>by
  have hk:k<rs.length:=(fQ.mp hr).1;have h1:=o9 h k (by omega);have h2:=o9 h (k+1) (by omega);have et:rs.take (k+1)=rs.take k++[r]:=by rw[List.take_succ,hr];rfl
  rw[et,kQ,h1,Option.bind_some,z] at h2;simp only[dr,List.length_nil] at h2;obtain q|q:=QX
  rw[ε q,ε True.intro] at h2;cases h2;by_cases q2:(bK r).cl=true;rw[ε q2,ε True.intro] at h2;cases h2;rw[η q2,ε q,ε True.intro] at h2;cases h2
 refine⟨λk hk ho=>?_,λk hk hc=>?_,λk hk hc=>?_,λk hk hc=>?_,λk hk hc=>?_,?_⟩;obtain⟨r,hr,e⟩:=at' hk;rw[e] at ho ⊢;cases r<;>first|rfl|(cases ho)
 obtain⟨r,hr,e⟩:=at' hk;exact step hr (.inl (by rw[<- e];exact hc));obtain⟨r,hr,e⟩:=at' hk;exact step hr (.inr (by rw[<- e];exact hc));obtain⟨r,hr,e⟩:=at' hk;rw[e] at hc ⊢;cases r<;>first|exact⟨rfl,rfl⟩|(cases hc)
 obtain⟨r,hr,e⟩:=at' hk;rw[e] at hc ⊢;cases r<;>first|rfl|(cases hc)
 have:=o9 h rs.length (cS _);rw[List.take_length,h] at this;exact YE.mp (Option.some.inj this).symm
end K5
namespace Lay
open PySem L2 VT Gen K5
noncomputable def UE(l:List (Str×Nat)):T:=.dk (l.map λp=>(Sum.inr p.1:Key)) (l.map λp=>T.int (p.2:Int))
def HU(l:List (Str×Nat))(f:Str):cw (l.map λp=>(Sum.inr p.1:Key)) (l.map λp=>T.int (p.2:Int)) (Sum.inr f)=(n_ l f).map λi=>T.int (i:Int):=by
 induction l with
 |nil=>rfl
 |cons p l ih=>obtain⟨k,i⟩:=p;simp only[fU,cw,n_];by_cases h:k=f;rw[ε h,ε (by rw[h])];rfl;rw[η h,η (λz=>h (Sum.inr.inj z))];exact ih
theorem qG(rs:qal):∀n,(aV rs n).length<=n
 |0=>cS _
 |n+1=>by
  have:=qG rs n;simp only[aV];split
  rename_i r _
  cases r<;>simp only[KH]<;>first
   |omega
   | (split<;>simp<;>omega)
  omega
noncomputable def Xs:Rw->Bool
 |.df _ _=>true
 |_=>false
noncomputable def il(rs:qal):Option Nat:=rs.findIdx? Xs
theorem ub(rs:qal):∀n,∀p∈aV rs n,p.2<n/\∃ps,rs[p.2]?=some (.df p.1 ps)
 |0,p,h=>nomatch h
 |n+1,p,h=>by
  have old:p∈aV rs n->p.2<n+1/\∃ps,rs[p.2]?=some (.df p.1 ps):=λh=>by have:=ub rs n p h;exact⟨by omega,this.2⟩
  simp only[aV] at h;split at h
  rename_i r hr
  cases r with
  |df g ps=>
   simp only[KH] at h;split at h;exact old h;rcases cK.mp h with z|z
   exact old z;rw[iD] at z;subst z;exact⟨zJ _,ps,hr⟩
  |_=>exact old h
  exact old h
theorem gJ{rs:qal}{i:Nat}(h:∀j,j<i->∀f ps,rs[j]?≠some (.df f ps)):∀n≤i,aV rs n=[]
 |0,_=>rfl
 |n+1,hn=>by
  simp only[aV];split
  rename_i r hr
  rw[gJ h n (by omega)];cases r with
  |df g ps=>exact absurd hr (h n (by omega) g ps)
  |_=>rfl
  exact gJ h n (by omega)
theorem jx{rs:qal}{i:Nat}{g:Str}{ps:π}(hi:rs[i]?=some (.df g ps))(h:∀j,j<i->∀f ps,rs[j]?≠some (.df f ps)):∀n,i<n->∃l,aV rs n=(g,i)::l
 |0,hn=>absurd hn (Nat.not_lt_zero _)
 |n+1,hn=>by
  by_cases e:i=n;subst e;refine⟨[],?_⟩;simp only[aV,hi,KH];rw[gJ h i (cS _)];rfl;obtain⟨l,hl⟩:=jx hi h n (by omega);simp only[aV];rw[hl];split
  rename_i r _
  cases r with
  |df f qs=>simp only[KH];split;exact⟨l,rfl⟩;exact⟨l++[(f,n)],rfl⟩
  |_=>exact⟨l,rfl⟩
  exact⟨l,rfl⟩
def MK(h:Xs r=true):∃f ps,r=.df f ps:=by
 cases r with
 |df f ps=>exact⟨f,ps,rfl⟩
 |_=>cases h
def uc(h:il rs=some i):(∃f ps,rs[i]?=some (.df f ps))/\∀j,j<i->∀f ps,rs[j]?≠some (.df f ps):=by unfold il at h;rw[List.findIdx?_eq_some_iff_getElem] at h;obtain⟨hl,h1,h2⟩:=h;obtain⟨f,ps,e⟩:=MK h1;refine⟨⟨f,ps,by rw[mz hl,e]⟩,λj hj f ps e=>?_⟩;obtain⟨OT,ej⟩:=fQ.mp e;have:=h2 j hj;rw[ej] at this;exact this rfl
def Eu(h:il rs=none):∀(j:Nat) f ps,rs[j]?≠some (Rw.df f ps):=by unfold il at h;rw[List.findIdx?_eq_none_iff] at h;intro j f ps e;have:=h _ (eS e);cases this
def AG(h:il rs=none):aV rs rs.length=[]:=gJ (i:=rs.length) (λj _=>Eu h j) _ (cS _)
def HV{m:Int}(h1:m∈(aV rs rs.length).map λp=>(p.2:Int))(h2:∀i∈(aV rs rs.length).map λp=>(p.2:Int),m<=i):T.int m=oT (il rs):=by
 cases e:il rs with
 |none=>rw[AG e] at h1;cases h1
 |some i=>
  obtain⟨⟨g,ps,hi⟩,hm⟩:=uc e;obtain⟨l,hl⟩:=jx hi hm rs.length (fQ.mp hi).1;obtain⟨p,hp,rfl⟩:=rS.mp h1;obtain⟨_,qs,hq⟩:=ub rs _ p hp;have le1:(p.2:Int)<=(i:Int):=h2 _ (rS.mpr ⟨(g,i),by rw[hl];exact c6,rfl⟩);have le2:¬ p.2<i:=λz=>hm _ z _ _ hq;have:p.2=i:=by omega
  rw[this];rfl
noncomputable def MM(rs:qal):ξ:=(List.range rs.length).map λi=>oT (Et (ez rs) i)
noncomputable def O3(rs:qal):ξ:=(List.range rs.length).map λi=>oT (endsAt (ez rs) rs.length i)
noncomputable def Xu(rs:qal):ξ:=AF (ez rs) rs.length rs.length
noncomputable def Xv(rs:qal):ξ:=(List.range rs.length).map λi=>oT (zE (ez rs) i)
def HW(rs:qal):HR rs=[.lst (MM rs),.lst (O3 rs),.lst (Xu rs),.lst (Xv rs)]:=rfl
noncomputable def cT(C:Addr)(rs:qal):T:=.ins C ["program","heads","ends","elses","homes","defs","main"] [.lst (rs.map bu),.lst (MM rs),.lst (O3 rs),.lst (Xu rs),.lst (Xv rs),UE (aV rs rs.length),oT (il rs)]
section
def iQ(h:rs[i]?=some r):km (rs.map bu) (i:Int)=some (bu r):=ak (by rw[hU,h];rfl)
def R8(h:i<rs.length):km (MM rs) (i:Int)=some (oT (Et (ez rs) i)):=ak (by unfold MM;rw[hU,YC h];rfl)
end
noncomputable def top(i:Nat):Stmt:=PySem.Challenge.pw_slicewise_k15_calls.main.body.getD i (.Pass ⟨0,0,0,0⟩)
noncomputable abbrev iR:Stmt:=top 13
structure MgF(mg:qae):Prop where
 enumerate:mg "enumerate"=none
def HX(ts:ξ)(q:qam):Prop:=∃rs:qal,ts=[.lst (rs.map bu)]/\rs.length<=100/\q (.fr (UE (aV rs rs.length)))
section
noncomputable abbrev vO:π:=["program","firsts","place","row"]
def kc:aE vO qaw (aj iR):=L2.g9
def sL(D:Df K mg "first_defs" iR qaw f fd)(M:MgF mg):bW P w K mg base "first_defs" qaw 1 (di K 1 HX):=by
 refine D.hJ (oH D.F kc rfl λbB A outer s H E Ox hr ts q hG=>?_);have nd:=kc.nd;have hu:=bF.iN hr;have np:∀{i:Nat},bN ⟨H,[],Ox⟩ i:=mB;refine⟨_,(ah (eX (i:=1) nd rfl (.inl rfl) (qau vz) np)
  (ah (ku KS rfl (Cm (by rfl) M.enumerate (ai 0)) (mV (n:=2) rfl (cY (bt (i:=2) nd rfl (.inl rfl) np) (cY (bt (i:=3) nd rfl (.inl rfl) np) jS)))
   (ax (bJ (de hu (θ (aI (aa 3) (θ ag))) (θ a9))
    (ax (cX (Mc 1 (ψ (aI (aa 3) (θ ag))) (ai 2))))
    aZ)))
  (ax (aT (uW 1 np))))),λ_=>?_⟩
 obtain⟨rs,rfl,hn,hq⟩:=hG;refine t8 (λi ρ=>∃b2 b3,ρ=[some (.lst (rs.map bu),false),some (UE (aV rs i),true),b2,b3]) ⟨_,_,rfl⟩ ?_ ?_;rintro i r ρ hr ⟨b2,b3,rfl⟩;have hi:=(fQ.mp hr).1;have hlen:((aV rs i).map λp=>T.int (p.2:Int)).length<16777216:=by rw[cJ];have:=qG rs i;omega
 have es:aV rs (i+1)=KH (aV rs i) i r:=by simp only[aV,hr]
 cases r with
 |df g ps=>
  refine⟨rfl,rfl,_,aaB,?_⟩;refine⟨_,aaC,hlen,?_⟩;rw[es];simp only[KH];rw[HU];cases ha:n_ (aV rs i) g with
  |some j=>exact⟨_,_,rfl⟩
  |none=>
   show ∃b2 b3,_=[_,some (UE (aV rs i++[(g,i)]),true),b2,b3];have ef:UE (aV rs i++[(g,i)])=.dk (((aV rs i).map λp=>(Sum.inr p.1:Key))++[Sum.inr g]) (((aV rs i).map λp=>T.int (p.2:Int))++[T.int (i:Int)]):=by simp only[UE,oS,fU,Km]
   rw[ef];exact⟨_,_,rfl⟩
 |_=>refine⟨rfl,rfl,_,aaB,?_⟩;rw[es];exact⟨_,_,rfl⟩
 rintro ρ ⟨b2,b3,rfl⟩;exact hq
end
end Lay
namespace Xw
open PySem L2 VT Gen K5
noncomputable def top(i:Nat):Stmt:=PySem.Challenge.pw_slicewise_k15_calls.main.body.getD i (.Pass ⟨0,0,0,0⟩)
noncomputable abbrev lT:Stmt:=top 14
structure Mg5(K:Δ)(mg:qae):Prop where
 len:mg "len"=none
 range:mg "range"=none
 enumerate:mg "enumerate"=none
 isinstance:mg "isinstance"=none
 int:mg "int"=none
 bool:mg "bool"=none
 tuple:mg "tuple"=none
 list:mg "list"=none
 zip:mg "zip"=none
 CL:∃a,mg "CLOSERS"=some (.ref a)/\∀H,dz K H a [.str "give",.str "end"]
 OP:∃a,mg "OPENERS"=some (.ref a)/\∀H,dz K H a [.str "def",.str "if",.str "while"]
def HY(ts:ξ)(q:ξ->Prop):Prop:=∃rs:qal,ts=[.lst (rs.map bu)]/\Xq rs/\rs.length<=100/\q (HR rs)
def lh{l:ξ}{t:T}(h:l.getLast?=some t):km l (-1)=some t:=by
 have hl:0<l.length:=by cases l<;>simp_all
 rw[Ub] at h;unfold km xx;rw[η (by decide),ε (by omega)];have e:(-1+(l.length:Int)).toNat=l.length-1:=by omega
 rw[e];exact h
theorem HZ(kd:Nat->Kd):∀k,(st kd k).length<=k
 |0=>cS _
 |k+1=>by have:=HZ kd k;simp only[st];split<;>split<;>simp<;>omega
def MN(n:Nat)(t:T):(List.replicate n [t]).flatten=List.replicate n t:=by
 induction n with
 |zero=>rfl
 |succ n ih=>rw[FV,P6,ih];rfl
noncomputable def H_(rs:qal)(h e l o s:ξ)(k:Nat)(r:Rw):En:=[some (.lst (rs.map bu),false),some (.lst h,true),some (.lst e,true),some (.lst l,true),some (.lst o,true),some (.lst s,true),some (.int (k:Int),false),some (bu r,false)]
noncomputable def vP(rs:qal)(k:Nat):ξ:=(st (ez rs) k).map λ(j:Nat)=>T.int (j:Int)
def Xx(rs:qal)(k:Nat)(ρ:En):Prop:=∃b6 b7 h e l o s,ρ=[some (.lst (rs.map bu),false),some (.lst h,true),some (.lst e,true),some (.lst l,true),some (.lst o,true),some (.lst s,true),b6,b7]/\h=tab (Et (ez rs)) rs.length k/\e=jd (endsAt (ez rs) rs.length) rs.length k/\l=AF (ez rs) rs.length k/\o=tab (zE (ez rs)) rs.length k/\s=vP rs k
noncomputable def MO(rs:qal)(M:Nat->Rw->ξ->ξ->ξ->ξ->ξ->Prop):FS:=λd ρ=>∃k r h e l o s,rs[k]?=some r/\ρ=H_ rs h e l o s k r/\h=tab (Et (ez rs)) rs.length (k+1)/\M k r h e l o s/\∀ρ',Xx rs (k+1) ρ'->d.nx ρ'
def M1(rs:qal)(k:Nat)(r:Rw)(h e l o s:ξ):Prop:=e=jd (endsAt (ez rs) rs.length) rs.length k/\l=AF (ez rs) rs.length k/\s=vP rs k/\o.length=rs.length/\((bK r).df=true->o.set k (.int (k:Int))=tab (zE (ez rs)) rs.length (k+1))/\((bK r).df=false->o=tab (zE (ez rs)) rs.length (k+1))
def M2(rs:qal)(k:Nat)(r:Rw)(h e l o s:ξ):Prop:=e=jd (endsAt (ez rs) rs.length) rs.length k/\l=AF (ez rs) rs.length k/\s=vP rs k/\o=tab (zE (ez rs)) rs.length (k+1)
def M3(rs:qal)(k:Nat)(r:Rw)(h e l o s:ξ):Prop:=e=jd (endsAt (ez rs) rs.length) rs.length k/\l=AF (ez rs) rs.length (k+1)/\s=vP rs k/\o=tab (zE (ez rs)) rs.length (k+1)
def M4(rs:qal)(k:Nat)(r:Rw)(h e l o s:ξ):Prop:=e=jd (endsAt (ez rs) rs.length) rs.length (k+1)/\l=AF (ez rs) rs.length (k+1)/\o=tab (zE (ez rs)) rs.length (k+1)/\s=(if (bK r).cl=true then (vP rs k).dropLast else vP rs k)
def qH{k:Nat}(h:k<n):xx n (k:Int)=some k:=by unfold xx;rw[ε (by omega),ε (by omega),Dz]
def vQ{k:Nat}(h:st (ez rs) k≠[]):∃j,(st (ez rs) k).getLast?=some j/\km (vP rs k) (-1)=some (.int (j:Int)):=by obtain⟨j,hj⟩:∃j,(st (ez rs) k).getLast?=some j:=⟨_,List.getLast?_eq_some_getLast h⟩;exact⟨j,hj,lh (by unfold vP;rw[List.getLast?_map,hj];rfl)⟩
section
noncomputable abbrev vR:π:=["program","heads","ends","elses","homes","opened","place","row"]
def yw:aE vR qaw (aj lT):=L2.g9
def Ia(D:Df K mg "shape" lT qaw f fd)(M:Mg5 K mg):bW P w K mg base "shape" qaw 1 (WX K 1 HY):=by
 refine D.hJ (fnD D.F yw rfl (by decide) λbB A outer s H E Ox hr ts q hG=>?_);have nd:=yw.nd;have hu:=bF.iN hr;have np:∀{i:Nat},bN ⟨H,[],Ox⟩ i:=mB;obtain⟨ac,mc,hac⟩:=M.CL;obtain⟨ao,mo,hao⟩:=M.OP;have Ew:∀{pos},VP (fP eD P w K mg base vR "shape" (aj lT) f bB A outer s H E).pF ⟨H,[],Ox⟩ (.Name "CLOSERS" pos) (fC (.tup [.str "give",.str "end"])):=iI (by rfl) mc (v:=.ref ac) rfl λH A=>bU (hac H) (az.cons cD (az.cons cD az.nil));have Ex:∀{pos},VP (fP eD P w K mg base vR "shape" (aj lT) f bB A outer s H E).pF ⟨H,[],Ox⟩ (.Name "OPENERS" pos) (fC (.tup [.str "def",.str "if",.str "while"])):=iI (by rfl) mo (v:=.ref ao) rfl λH A=>bU (hao H) (az.cons cD (az.cons cD (az.cons cD az.nil)));obtain⟨rs,rfl,W,hn,hq⟩:=hG;refine⟨_,(ig (eX (i:=1) nd rfl (.inl rfl) (qau (qg (fZ (ae (ψ c7) ar)) (θ (bq bh bj (by rfl) M.len pA (aJ (aa 0) aW))))) np)
  (ig (eX (i:=2) nd rfl (.inl rfl) (qau (qg (fZ (ae (ψ c7) ar)) (θ (bq bh bj (by rfl) M.len pA (aJ (aa 0) aW))))) np)
  (ig (eX (i:=3) nd rfl (.inl rfl) (qau (qg (fZ (ae (ψ c7) ar)) (θ (bq bh bj (by rfl) M.len pA (aJ (aa 0) aW))))) np)
  (ig (eX (i:=4) nd rfl (.inl rfl) (qau (qg (fZ (ae (ψ c7) ar)) (θ (bq bh bj (by rfl) M.len pA (aJ (aa 0) aW))))) np)
  (ig (eX (i:=5) nd rfl (.inl rfl) (qau (fZ ar)) np)
  (ig (ku KS rfl (Cm (by rfl) M.enumerate (ai 0)) (mV (n:=2) rfl (cY (bt (i:=6) nd rfl (.inl rfl) np) (cY (bt (i:=7) nd rfl (.inl rfl) np) jS)))
   (ah (bJ (GN (θ (bq bh bj (by rfl) M.len pA (aJ (aa 5) aW))) (θ ag))
    (ah (mU 1 (ψ (aI (aa 5) (θ (pU (θ ag))))) (aa 6))
    (ax (mU 4 (ψ (aI (aa 5) (θ ag))) (aa 6))))
    aZ)
   (oF.weak (u:=(MO rs (M1 rs))) (ah (bJ (de hu (θ (aI (aa 7) (θ ag))) (θ a9))
    (ax (mU 4 (ai 6) (aa 6)))
    aZ)
   (oF.weak (u:=(MO rs (M2 rs))) (ah (bJ (de hu (θ (aI (aa 7) (θ ag))) (θ a9))
    (ax (mU 3 (ai 6) (θ (aI (aa 5) (θ (pU (θ ag)))))))
    aZ)
   (oF.weak (u:=(MO rs (M3 rs))) (ah (bJ (tV (θ (aI (aa 7) (θ ag))) (θ Ew))
    (ah (mU 2 (ai 6) (θ (aI (aa 5) (θ (pU (θ ag))))))
    (ax (cX (Rh 5 PySem.F.slot_list_pop PySem.F.type_list_pop Gu LO))))
    aZ)
   (oF.weak (u:=(MO rs (M4 rs))) (ax (bJ (tV (θ (aI (aa 7) (θ ag))) (θ Ex))
    (ax (cX (i_ 5 BC BD bR bY (ae (ai 6) ar))))
    aZ)) ?w4)) ?w3)) ?w2)) ?w1)))
  (Me (is:=[1,2,3,4]) rfl ⟨_,_,1,_,rfl,rfl,rfl,Or.inl rfl,by decide,by decide,rfl,⟨_,_,2,_,rfl,rfl,rfl,Or.inl rfl,by decide,by decide,rfl,⟨_,_,3,_,rfl,rfl,rfl,Or.inl rfl,by decide,by decide,rfl,⟨_,_,4,_,rfl,rfl,rfl,Or.inl rfl,by decide,by decide,rfl,rfl⟩⟩⟩⟩ (by decide) (by decide)))))))),λ_=>?main⟩
 case w4=>
  rintro d ρ ⟨k,r,h,e,l,o,s,eR,rfl,rfl,⟨rfl,rfl,rfl,rfl⟩,fin⟩;have AB:k<rs.length:=(fQ.mp eR).1;have og:=ny eR;obtain⟨rl,er⟩:=ik r;unfold H_;rw[er];refine⟨_,aaB,rfl,rfl,?_⟩;refine xB (λh1=>?_) (λh1=>?_);have ho:(bK r).op=true:=by rw[<- Xp];exact h1
  have hc:(bK r).cl=false:=by have:=W.ex k AB (by rw[og];exact ho);rw[og] at this;exact this
  rw[hc,η gZ];refine⟨?_,fin _ ⟨_,_,_,_,_,_,_,rfl,rfl,rfl,rfl,rfl,?_⟩⟩;have:=HZ (ez rs) k;unfold vP;rw[cJ,μ];omega;unfold vP;rw[t_ (by rw[og];exact ho) (by rw[og];exact hc),oS];rfl;have ho:(bK r).op=false:=by
   cases q:(bK r).op with
   |false=>rfl
   |true=>exact (h1 ((Xp r).trans q)).elim
  refine fin _ ⟨_,_,_,_,_,_,_,rfl,rfl,rfl,rfl,rfl,?_⟩;unfold vP;by_cases hc:(bK r).cl=true;rw[ε hc,qD (by rw[og];exact hc) (by rw[og];exact ho),List.map_dropLast];rw[η hc,yp (by rw[og];cases q:(bK r).cl<;>simp_all) (by rw[og];exact ho)]
 case w3=>
  rintro d ρ ⟨k,r,h,e,l,o,s,eR,rfl,rfl,⟨rfl,rfl,rfl,rfl⟩,fin⟩;have AB:k<rs.length:=(fQ.mp eR).1;have og:=ny eR;obtain⟨rl,er⟩:=ik r;unfold H_;rw[er];refine⟨_,aaB,rfl,rfl,?_⟩;refine xB (λh1=>?_) (λh1=>?_);have hc:(bK r).cl=true:=by rw[<- Xo];exact h1
  have r_:(ez rs k).cl=true:=by rw[og];exact hc
  obtain⟨j,hj,ej⟩:=vQ (W.cl k AB r_);obtain⟨te,hjk⟩:=MJ W AB r_ hj;refine⟨_,ej,j,by rw[yq];exact qH (by omega),rfl,.int (j:Int),?_,k,r,_,_,_,_,_,eR,by rw[<- er];rfl,rfl,⟨?_,rfl,rfl,by rw[ε hc]⟩,fin⟩;unfold vP;rw[cJ,hU,<- Ub,hj];rfl;refine HQ te λi hi he=>?_;have:=(CM W AB he hi).2;rw[hj] at this;exact (Option.some.inj this).symm;have hc:(bK r).cl=false:=by
   cases q:(bK r).cl with
   |false=>rfl
   |true=>exact (h1 ((Xo r).trans q)).elim
  refine⟨k,r,_,_,_,_,_,eR,by rw[<- er];rfl,rfl,⟨Er λi hi he=>?_,rfl,rfl,by rw[hc,η gZ]⟩,fin⟩;have:=(CM W AB he hi).1;rw[og,hc] at this;cases this
 case w2=>
  rintro d ρ ⟨k,r,h,e,l,o,s,eR,rfl,rfl,⟨rfl,rfl,rfl,rfl⟩,fin⟩;have AB:k<rs.length:=(fQ.mp eR).1;have og:=ny eR;obtain⟨rl,er⟩:=ik r;unfold H_;rw[er];refine⟨_,aaB,?_⟩;refine xB (λh1=>?_) (λh1=>?_);have hc:(bK r).el=true:=by rw[<- Xn];exact h1
  have r_:(ez rs k).el=true:=by rw[og];exact hc
  obtain⟨j,hj,ej⟩:=vQ (W.el k AB r_);have OT:j<k:=(ua k).2 j (List.mem_of_getLast? hj);refine⟨_,ej,j,by rw[vN];exact qH (by omega),k,r,_,_,_,_,_,eR,by rw[<- er];rfl,rfl,⟨rfl,?_,rfl,rfl⟩,fin⟩;simp only[AF,Et,r_,hj];have hc:(bK r).el=false:=by
   cases q:(bK r).el with
   |false=>rfl
   |true=>exact (h1 ((Xn r).trans q)).elim
  refine⟨k,r,_,_,_,_,_,eR,by rw[<- er];rfl,rfl,⟨rfl,?_,rfl,rfl⟩,fin⟩;simp only[AF,og,hc]
 case w1=>
  rintro d ρ ⟨k,r,h,e,l,o,s,eR,rfl,rfl,⟨rfl,rfl,rfl,ol,o1,o2⟩,fin⟩;have AB:k<rs.length:=(fQ.mp eR).1;obtain⟨rl,er⟩:=ik r;unfold H_;rw[er];refine⟨_,aaB,?_⟩;refine xB (λh1=>?_) (λh1=>?_);exact⟨k,by rw[ol];exact qH AB,k,r,_,_,_,_,_,eR,by rw[<- er];rfl,rfl,⟨rfl,rfl,rfl,o1 (by rw[<- Xm];exact h1)⟩,fin⟩;have hc:(bK r).df=false:=by
   cases q:(bK r).df with
   |false=>rfl
   |true=>exact (h1 ((Xm r).trans q)).elim
  exact⟨k,r,_,_,_,_,_,eR,by rw[<- er];rfl,rfl,⟨rfl,rfl,rfl,o2 hc⟩,fin⟩
 case main=>
  have hlen:((rs.map bu).length:Int)=(rs.length:Int):=by rw[cJ]
  have ady:(List.replicate ((rs.map bu).length:Int).toNat [T.aQ]).flatten=List.replicate rs.length T.aQ:=by rw[hlen,Dz];exact MN _ _
  have Ux : -(2 ^ 63)<=((rs.map bu).length:Int):=by omega
  have KA:((rs.map bu).length:Int)<2 ^ 63:=by omega
  have Zj:[T.aQ].length * ((rs.map bu).length:Int).toNat<=sizeLine:=by rw[hlen,Dz,μ];simp;omega
  refine⟨Gen.cR rfl,Ux,KA,Zj,Gen.cR rfl,Ux,KA,Zj,Gen.cR rfl,Ux,KA,Zj,Gen.cR rfl,Ux,KA,Zj,Gen.cR rfl,?_⟩;show pW (fu (rs.map bu)) _ _ _ [some (.lst (rs.map bu),false),some (.lst (List.replicate ((rs.map bu).length:Int).toNat [T.aQ]).flatten,true),some (.lst (List.replicate ((rs.map bu).length:Int).toNat [T.aQ]).flatten,true),some (.lst (List.replicate ((rs.map bu).length:Int).toNat [T.aQ]).flatten,true),some (.lst (List.replicate ((rs.map bu).length:Int).toNat [T.aQ]).flatten,true),some (.lst [],true),none,none];rw[HS,ady];refine G5 (Xx rs)
   ⟨_,_,_,_,_,_,_,rfl,(yr _ _).symm,(Ep _ _).symm,rfl,(yr _ _).symm,rfl⟩ ?_ ?_
  . rintro k ⟨r,k'⟩ ρ hk ⟨b6,b7,_,_,_,_,_,rfl,rfl,rfl,rfl,rfl,rfl⟩;rw[List.getElem?_zipIdx] at hk;cases eR:rs[k]? with
    |none=>rw[eR] at hk;cases hk
    |some r'=>
    rw[eR] at hk;simp at hk;obtain⟨rfl,rfl⟩:=hk;have AB:k<rs.length:=(fQ.mp eR).1;obtain⟨rl,er⟩:=ik r';refine⟨rfl,rfl,?_⟩;show Ws _ _ _ [some (.lst (rs.map bu),false),some (.lst (tab (Et (ez rs)) rs.length k),true),some (.lst (jd (endsAt (ez rs) rs.length) rs.length k),true),some (.lst (AF (ez rs) rs.length k),true),some (.lst (tab (zE (ez rs)) rs.length k),true),some (.lst (vP rs k),true),some (.int (k:Int),false),some (bu r',false)];rw[er];have og:=ny eR;refine jn (λh1=>?_) (λh1=>?_);have fY:st (ez rs) k≠[]:=λz=>by have Ci:((vP rs k).length:Int) > 0:=h1;unfold vP at Ci;rw[z] at Ci;simp at Ci
    obtain⟨j,hj,ej⟩:=vQ fY;obtain⟨j0,hj0⟩:∃j0,(st (ez rs) k).head?=some j0:=⟨_,List.head?_eq_some_head fY⟩;have ej0:km (vP rs k) 0=some (.int (j0:Int)):=ak (j:=0) (by unfold vP;rw[hU,<- List.head?_eq_getElem?,hj0];rfl);refine⟨_,ej,k,by rw[lQ];exact qH AB,_,ej0,k,by rw[lQ];exact qH AB,k,r',_,_,_,_,_,eR,by rw[<- er];rfl,?_,⟨rfl,rfl,rfl,by rw[Fq,lQ],λhd=>?_,λhd=>?_⟩,λρ' h=>h⟩;have e1:T.int (j:Int)=oT (Et (ez rs) k):=by unfold Et;rw[hj];rfl
    rw[e1];exact o8;rw[List.set_set];have e1:T.int (k:Int)=oT (zE (ez rs) k):=by unfold zE;rw[og,ε hd];rfl
    rw[e1];exact o8;have e1:T.int (j0:Int)=oT (zE (ez rs) k):=by unfold zE;rw[og,hd,η gZ,hj0];rfl
    rw[e1];exact o8;have fY:st (ez rs) k=[]:=by
     cases q:st (ez rs) k with
     |nil=>rfl
     |cons a b=>exfalso;refine h1 ?_;show ((vP rs k).length:Int) > 0;unfold vP;rw[q];simp
    refine⟨k,r',_,_,_,_,_,eR,by rw[<- er];rfl,yt (by unfold Et;rw[fY];rfl),⟨rfl,rfl,rfl,by rw[lQ],λhd=>?_,λhd=>?_⟩,λρ' h=>h⟩;have e1:T.int (k:Int)=oT (zE (ez rs) k):=by unfold zE;rw[og,ε hd];rfl
    rw[e1];exact o8;exact yt (by unfold zE;rw[og,hd,η gZ,fY];rfl)
  rintro ρ ⟨b6,b7,_,_,_,_,_,rfl,rfl,rfl,rfl,rfl,rfl⟩;rw[List.length_zipIdx,yu,yu,Es];exact hq;intro j m hj he;unfold endsAt at he;split at he
  rename_i ho
  obtain⟨e,h1,h2,h3,_⟩:=end_is W hj ho;rw[h1] at he;cases he;exact h3;cases he
end
end Xw
namespace Lay
open PySem L2 VT Gen K5
noncomputable abbrev jy:Stmt:=inClass (top 16) 0
structure Xy(mg:qae):Prop where
 len:mg "len"=none
 min:mg "min"=none
structure O5(K:Δ)(C:Addr):Prop where
 cl:zW K C
 fS:bp K C "program"
 CN:bp K C "heads"
 Ib:bp K C "ends"
 MP:bp K C "elses"
 MQ:bp K C "homes"
 vS:bp K C "defs"
 Ic:bp K C "main"
def lU(C:Addr)(ts:ξ)(q:T->Prop):Prop:=∃rs:qal,ts=[.lst (rs.map bu)]/\Xq rs/\rs.length<=100/\q (cT C rs)
section
variable{aw:Addr}
noncomputable abbrev Ie:π:=["self","program","parts"]
def ud:aE Ie qax (aj jy):=L2.g9
def Ey(D:Dc K mg "Layout" "Layout.__init__" jy qax aw f fd)(M:Xy mg)(M1:O5 K aw)(MT:bW P w K mg base "shape" qaw 1 (WX K 1 Xw.HY))(vU:bW P w K mg base "first_defs" qaw 1 (di K 1 HX)):Ht P w K mg base "Layout" aw qax 2 1 (lU aw):=by
 obtain⟨Zk,Xz,MV,MW,MX,MY⟩:=MT;refine D.hJ (fnI D.F ud rfl λbB A outer s H E as Ox hr us q hl hG=>?_);have nd:=ud.nd;have aB:=M1;refine⟨_,(ah (aX (i:=2) nd rfl (.inl rfl) (qau (VD.vp (Mh MY (hr.mono (by decide)) (by rfl) MV MW MX (ae (ai 1) ar)))) (dO (by decide)))
  (ah (iP 0 aB.cl aB.fS (ai 1))
  (ah (iP 0 aB.cl aB.CN (ψ (aI (aa 2) (θ ag))))
  (ah (iP 0 aB.cl aB.Ib (ψ (aI (aa 2) (θ ag))))
  (ah (iP 0 aB.cl aB.MP (ψ (aI (aa 2) (θ ag))))
  (ah (iP 0 aB.cl aB.MQ (ψ (aI (aa 2) (θ ag))))
  (ah (iP 0 aB.cl aB.vS (ψ (aM vU hr (ae (ai 1) ar))))
  (ax (iP 0 aB.cl aB.Ic (ψ (pT (GN (θ (bq Ee Aw (by rfl) M.len pA (aJ (θ (br aB.cl aB.vS (aa 0))) aW))) (θ ag)) (Ay rfl (by rfl) M.min (θ (br aB.cl aB.vS (aa 0)))) c7))))))))))),?_⟩
 obtain⟨rs,rfl,W,hn,hq⟩:=hG;refine⟨rfl,rs,rfl,W,hn,?_⟩;rw[HW];refine⟨rfl,by show 0<1000;decide,?_⟩;refine⟨rfl,_,aaB,by show 1<1000;decide,?_⟩;refine⟨rfl,_,aaC,by show 2<1000;decide,?_⟩;refine⟨rfl,_,aaD,by show 3<1000;decide,?_⟩;refine⟨rfl,_,aaE,by show 4<1000;decide,?_⟩;refine⟨rfl,rfl,rs,rfl,hn,by show 5<1000;decide,?_⟩;refine⟨rfl,?_⟩;refine⟨rfl,_,rfl,?_⟩;refine jn (λh=>?_) (λh=>?_);refine⟨rfl,_,rfl,(aV rs rs.length).map (λp=>(p.2:Int)),?_,?_,λm h1 h2=>?_⟩;rw[tu];rfl;intro z;rw[List.map_eq_nil_iff] at z;rw[z] at h;exact absurd h (by decide);refine⟨by show 6<1000;decide,?_⟩;have e:=HV h1 h2;show q [_] _;rw[e];exact hq;refine⟨by show 6<1000;decide,?_⟩;have z:aV rs rs.length=[]:=by
  cases e:aV rs rs.length with
  |nil=>rfl
  |cons a b=>exfalso;apply h;rw[e];simp
 have e:il rs=none:=by
  cases e:il rs with
  |none=>rfl
  |some i=>obtain⟨⟨g,ps,hi⟩,hm⟩:=uc e;obtain⟨l,hl⟩:=jx hi hm rs.length (fQ.mp hi).1;rw[z] at hl;cases hl
 have e2:T.aQ=oT (il rs):=by rw[e];rfl
 unfold cT at hq;rw[<- e2] at hq;exact hq
end
end Lay
namespace VT
open PySem PySem.Spec PyProof.Rows L2
def R9:FS:=λ_ _=>False
def nz{ss:qaq}:oF X Z ss R9:=.mk λtm=>λγ s σ H D I h=>by obtain⟨_,_,_,_,q,_⟩:=h;exact q.elim
end VT
namespace Nx
open PySem L2 VT Gen K5 Lay
noncomputable abbrev iS:Stmt:=top 19
def R_(r:Rw):Prop:=wd r≠"else"/\wd r≠"end"
def Ig(C:Addr)(ts:ξ)(q:qam):Prop:=∃(rs:qal)(j:Nat)(r:Rw),ts=[cT C rs,.int (j:Int)]/\R_ r/\rs[j]?=some r/\q (.vw (.int ((j+1:Nat):Int)))
section
variable{aw:Addr}
noncomputable abbrev vV:π:=["layout","place","word","head"]
def ke:aE vV qay (aj iS):=L2.g9
def sM(D:Df K mg "row_behind" iS qay f fd)(M:O5 K aw):bW P w K mg base "row_behind" qay 1 (di K 2 (Ig aw)):=by
 refine D.hJ (oH D.F ke rfl λbB A outer s H E Ox hr ts q hG=>?_);have nd:=ke.nd;have hu:=bF.iN hr;have np:∀{i:Nat},bN ⟨H,[],Ox⟩ i:=mB;have aB:=M;refine⟨_,(ah (aX (i:=2) nd rfl (.inl rfl) (qau (aI (θ (aI (θ (br aB.cl aB.fS (aa 0))) (aa 1))) (θ ag))) np)
  (ah (aX (i:=3) nd rfl (.inl rfl) (qau (aI (θ (br aB.cl aB.CN (aa 0))) (aa 1))) np)
  (ah (bJ (de hu (aa 2) (θ a9))
   (ax (aT (qau (aI (θ (br aB.cl aB.Ib (aa 0))) (aa 3)))))
   aZ)
  (ah (bJ (VW.vc (uT (de hu (aa 2) (θ a9)) (oW (de hu (θ (aI (θ (aI (θ (br aB.cl aB.fS (aa 0))) (aa 3))) (θ ag))) (θ a9)))))
   (ax (aT (qau (VE.vp (ai 3)))))
   aZ)
  (ax (aT (qau (bS (aa 1) (θ ag))))))))),λ_=>?_⟩
 obtain⟨rs,j,r,rfl,ho,eR,hq⟩:=hG;have hh:=R8 (fQ.mp eR).1;obtain⟨l,el⟩:=lK r;refine⟨rfl,_,rfl,_,iQ eR,?_⟩;rw[el];refine⟨_,aaB,rfl,_,rfl,_,hh,jn (λz=>absurd z ho.1) (λ_=>jn (λz=>absurd z ho.2) (λ_=>m8 rfl hq))⟩
end
end Nx
namespace VT
open PySem PySem.Spec PyProof.Rows L2
section
variable{k:Nat}{pos:Pos}
abbrev GV:=ξ->(qam)->Prop
end
section
variable{vv sl:Expr}{sp pos:Pos}{l:List (Str×T)}{k:Nat}
noncomputable def XA(l:List (Str×T))(fe:FE):FP:=λρ Q=>fe ρ λy=>onStr y λk=>∃t,Eh l k=some t/\Q (.vw t)
def Ih(hg:Gl X x)(hm:X.mg x=some (.ref a))(d:qq X.w X.K a l)(he:VR X Z e fe)(hs:L9 e:=by intro _ _;rfl)(hd:gq x:=by decide) :
  VP X Z (.Subscript (.Name x p) e pos) (XA l fe):=.mk λtm γ s σ H Q I ⟨ρ,O,q,E,hf,k⟩=>by
 refine Co PySem.F.slot_dict_getitem.lookup hs (b_ (uB hg hm (v:=.ref a) rfl hd γ s σ H (λv H'=>v=.ref a/\H'=H) I ⟨rfl,rfl⟩) λu s1 ⟨x',H1,I1,rx,ex,eH⟩=>?_);subst ex eH;obtain rfl:u=Value.ref a:=rx;refine b_ (he tm γ s1 σ H1 (λy H2=>∃t,g_ X.K H2 (av Z O) t y/\aO H1 H2/\onStr t λk=>∃t',Eh l k=some t'/\q (.vw t')) I1 ⟨ρ,O,_,E,hf,λt ht v H' s a1=>⟨t,a1,s,ht⟩⟩) λiv s2 ⟨y,H2,I2,ry,t,a1,sa,q3⟩=>?_;obtain⟨kk,et,t',Zl,q4⟩:=x9 q3;subst et;obtain⟨fq,KC,Ci,GX,Ed,Ry⟩:=d.of I2;have ey:=a1.str;subst ey;obtain⟨v,ev,av'⟩:=(gG (Ci H2 (av Z O))).1 t' Zl;obtain⟨w',hw,rw'⟩:=j1.some_of (v:=v) (o:=valueAt KC (Sum.inr kk)) (by rw[<- ev,<- fD];exact GX.val (Sum.inr kk));exact⟨Ed.typeIs,wpAny_getItem_of (nV (k:=Sum.inr kk) ry) Ed.mapOf hw ⟨v,H2,I2.tok _,rw',k _ q4 _ H2 sa ⟨E.same sa,av'⟩⟩⟩
def Sa(ff:FP)(n:Nat)(g:FA)(Fn:Addr->GV->Prop):FP:=λρ Q=>ff ρ λr=>match r with
 |.vw (.ob f)=>∃G,Fn f G/\g ρ λts=>ts.length=n/\G ts Q
 |_=>False
def lV(args:qap)(keywords:List Keyword)(env:Env):eval (.Call (.Subscript vv sl sp) args keywords pos) env=(do
 callWith pos (<- eval (.Subscript vv sl sp) env) [] (backTo pos (starEach args env)) (backToKw pos (keywordEach keywords env))):=rfl
def Ii{ff:FP}{Fn:Addr->GV->Prop}(hx:VP X Z (.Subscript vv sl sp) ff)(C:∀f G,Fn f G->W.keepIn X.K (.ref f)=true/\∃fd ps,Binds X.K fd ps []/\cq X.prog X.w X.K X.mg X.base eD k f fd ps (di X.K n G))(hr:bF k X.A)(ha:VA X Z (e::es) g)(he:starEach (e::es) X.env=(false,eval e X.env)::starEach es X.env:=by rfl)(fO:(backTo pos (starEach es X.env)).any (·.1)=false:=by rfl) :
  VP X Z (.Call (.Subscript vv sl sp) (e::es) [] pos) (Sa ff n g Fn):=.mk λtm γ s σ H Q I ⟨ρ,O,q,E,hf,kk⟩=>by
 rw[lV];refine δ (b_ (hx tm γ s σ H (λv H'=>∃f G,v=.ref f/\aO H H'/\Fn f G/\g ρ λts=>ts.length=n/\G ts q) I ⟨ρ,O,_,E,hf,λr hr v H' s z=>?_⟩) λu s1 ⟨v,H1,I1,r,f,G,ev,sa,Sb,hg⟩=>?_);split at hr;obtain⟨G,Sb,hg⟩:=hr;have:=z.2;simp only[At] at this;exact⟨_,G,this,s,Sb,hg⟩;exact hr.elim;subst ev;obtain rfl:u=Value.ref f:=r;obtain⟨hk,fd,ps,hb,F⟩:=C f G Sb;have E1:=E.same sa;refine YN (h₀:=X.base) I1.ok.mod.Uo hk (b_ (ha tm pos γ s1 σ H1 (λvs H2=>di X.K n G (vs++[]) H2 Q E0) I1 ⟨ρ,O,_,E1,hg,λts dZ vs H2 s2 a2=>Ca (E1.same s2) a2 dZ.1 dZ.2 λr hr v H' s z=>kk r hr v H' ((sa.trans s2).trans s) z⟩) λus s2 ⟨vs,H2,I2,r2,q2⟩=>⟨I2.r0,?_⟩) he fO;exact z_ F hr hb .nil i8 I2 r2 q2
end
end VT
set_option exponentiation.threshold 4000
namespace kR
open PySem L2 VT
noncomputable def dQ(i:Int):Int:=(i+1000000000000000000000000000000) % (2 * 1000000000000000000000000000000)-1000000000000000000000000000000
def RI(i:Int):Prop:=-1000000000000000000000000000000<=i/\i<1000000000000000000000000000000
def RI.big{i:Int}(h:RI i):nU i:=by
 unfold RI at h;unfold nU;have:i.natAbs<=1000000000000000000000000000000:=by omega
 exact P4 this (by decide +kernel)
inductive Vl where
 |num (i:Int)
 |mC (p r:Int)
 deriving DecidableEq
noncomputable def vT:Vl->T
 |.num i=>.int i
 |.mC p r=>.tup [.int p,.int r]
noncomputable def nm:Vl->Int
 |.num i=>i
 |.mC _ _=>0
inductive KI where
 |plus|minus|times|over|rest|less
noncomputable def qI:KI->Str
 |.plus=>"plus"
 |.minus=>"minus"
 |.times=>"times"
 |.over=>"over"
 |.rest=>"rest"
 |.less=>"less"
noncomputable def Sd:KI->Bool
 |.over=>true
 |.rest=>true
 |_=>false
noncomputable def Se:KI->Int->Int->Int
 |.plus,x,y=>x+y
 |.minus,x,y=>x-y
 |.times,x,y=>x * y
 |.over,x,y=>x.fdiv y
 |.rest,x,y=>x.fmod y
 |.less,x,y=>if x<y then 1 else 0
noncomputable def Zm(o:KI)(x y:Int):T:=if Sd o=true/\y=0 then .aQ else .int (dQ (Se o x y))
def XB(a b:Vl):T:=.int (if a=b then 1 else 0)
def UG{i:Int}(h : -100000000000000<=i/\i<=100000000000000):nU i:=by
 unfold nU;have:i.natAbs<=100000000000000:=by omega
 exact P4 this (by decide +kernel)
def bg(i:Int)(h : -100000000000000<=i/\i<=100000000000000:=by decide):nU i:=UG h
def MZ:nU (10 ^ (30:Int).toNat):=nU.of (by decide +kernel) (by decide +kernel)
def pw(j:Int)(h:0<=j/\j<=1000:=by decide):0<=j/\j<=1000/\nU 10:=⟨h.1,h.2,bg 10⟩
noncomputable def top(i:Nat):Stmt:=PySem.Challenge.pw_slicewise_k15_calls.main.body.getD i (.Pass ⟨0,0,0,0⟩)
noncomputable abbrev oh:Stmt:=top 21
noncomputable abbrev jz:Stmt:=top 22
noncomputable abbrev jA:Stmt:=top 23
noncomputable abbrev AH:Stmt:=top 24
noncomputable abbrev vW:Stmt:=top 25
noncomputable abbrev iT:Stmt:=top 31
structure Mg(w:World)(K:Δ)(mg:qae):Prop where
 H:∃t,mg "H"=some (.int 1000000000000000000000000000000 t)
 Ez:∃a,mg "DIVISIONS"=some (.ref a)/\∀H,dz K H a [.str "over",.str "rest"]
 isinstance:mg "isinstance"=none
 int:mg "int"=none
 bool:mg "bool"=none
 tuple:mg "tuple"=none
 len:mg "len"=none
 range:mg "range"=none
 RK:∃(a:Addr)(fo:KI->Addr),mg "RECKONERS"=some (.ref a)/\(∀o,mg (qI o)=some (.ref (fo o)))/\qq w K a [("plus",.ob (fo .plus)),("minus",.ob (fo .minus)),("times",.ob (fo .times)),("over",.ob (fo .over)),("rest",.ob (fo .rest)),("less",.ob (fo .less))]
def Ij(ts:ξ)(q:qam):Prop:=∃i,ts=[.int i]/\q (.vw (.int (dQ i)))
def Sf(ts:ξ)(q:qam):Prop:=∃a:Vl,ts=[vT a]/\q (.vw (.bl (match a with | .num _=>false | .mC _ _=>true)))
def gNm(ts:ξ)(q:qam):Prop:=∃a:Vl,ts=[vT a]/\q (.vw (.int (nm a)))
def Zn(o:KI)(ts:ξ)(q:qam):Prop:=∃x y:Int,ts=[.int x,.int y]/\nU x/\nU y/\(Sd o=true->y≠0)/\q (.vw (.int (Se o x y)))
abbrev O6:=Zn .plus
abbrev Ik:=Zn .minus
def Il(ts:ξ)(q:qam):Prop:=∃a b o,(o=.plus\/o=.minus)/\ts=[vT a,.str (qI o),vT b]/\RI (nm a)/\RI (nm b)/\q (.vw (Zm o (nm a) (nm b)))
def Im{o:KI}(h:o=.plus\/o=.minus):decide (qI o=("same":Str))=false:=by obtain rfl|rfl:=h<;>decide +kernel
def Sg{o:KI}(h:o=.plus\/o=.minus):Kw (.str (qI o)) [.str "over",.str "rest"]=false:=by obtain rfl|rfl:=h<;>first|rfl|decide +kernel
section
noncomputable abbrev CO:π:=qaz
def qJ:aE CO qaz (aj oh):=L2.g9
def AI(D:Df K mg "fit" oh qaz f fd)(M:Mg w K mg):bW P w K mg base "fit" qaz 1 (di K 1 Ij):=by refine D.hJ (oH D.F qJ rfl λbB A outer s H E Ox hr ts q hG=>?_);have nd:=qJ.nd;obtain⟨tH,mH⟩:=M.H;have g_H:∀{pos},VP (fP eD P w K mg base CO "fit" (aj oh) f bB A outer s H E).pF ⟨H,[],Ox⟩ (.Name "H" pos) (fC (.int 1000000000000000000000000000000)):=iI (by rfl) mH (v:=.int 1000000000000000000000000000000) ⟨_,rfl⟩ λ_ _=>bz;refine⟨_,(ax (aT (qau (mT (θ (bH (θ (bS (aa 0) (θ g_H))) (θ (vn (θ ag) (θ g_H))))) (θ g_H))))),λ_=>?_⟩;obtain⟨i,rfl,hq⟩:=hG;exact⟨⟨bg 2,nU.of (by decide +kernel) (by decide +kernel)⟩,(by show (0:Int)<2 * 1000000000000000000000000000000;decide),hq⟩
noncomputable abbrev yx:π:=qaA
def lW:aE yx qaA (aj jz):=L2.g9
def vX(D:Df K mg "is_record" jz qaA f fd)(M:Mg w K mg):bW P w K mg base "is_record" qaA 1 (di K 1 Sf):=by
 refine D.hJ (oH D.F lW rfl λbB A outer s H E Ox hr ts q hG=>?_);have nd:=lW.nd;refine⟨_,(ax (aT (qau (cy eZ (by rfl) M.isinstance (by rfl) M.tuple eG (aa 0))))),λ_=>?_⟩;obtain⟨a,rfl,hq⟩:=hG;cases a with
 |num i=>exact⟨rfl,hq⟩
 |mC p r=>exact⟨rfl,hq⟩
noncomputable abbrev yy:π:=qaA
def lY:aE yy qaA (aj jA):=L2.g9
def vY(D:Df K mg "number_of" jA qaA f fd)(M:Mg w K mg)(jB:bW P w K mg base "is_record" qaA 1 (di K 1 Sf)):bW P w K mg base "number_of" qaA 2 (di K 1 gNm):=by
 refine D.hJ (oH D.F lY rfl λbB A outer s H E Ox hr ts q hG=>?_);have nd:=lY.nd;refine⟨_,(ax (aT (qau (pT (eF (aM jB hr (ae (ai 0) ar))) ag (VE.vp (ai 0)))))),λ_=>?_⟩;obtain⟨a,rfl,hq⟩:=hG;refine⟨rfl,a,rfl,?_⟩;cases a with
 |num i=>exact hq
 |mC p r=>exact hq
noncomputable abbrev Sh:π:=qaB
def CP:aE Sh qaB (aj AH):=L2.g9
def M6(D:Df K mg "plus" AH qaB f fd)(M:Mg w K mg):bW P w K mg base "plus" qaB 1 (di K 2 O6):=by refine D.hJ (oH D.F CP rfl λbB A outer s H E Ox hr ts q hG=>?_);have nd:=CP.nd;refine⟨_,(ax (aT (qau (bS (aa 0) (aa 1))))),λ_=>?_⟩;obtain⟨x,y,rfl,hx,hy,_,hq⟩:=hG;exact hq
noncomputable abbrev M7:π:=qaB
def yz:aE M7 qaB (aj vW):=L2.g9
def Io(D:Df K mg "minus" vW qaB f fd)(M:Mg w K mg):bW P w K mg base "minus" qaB 1 (di K 2 Ik):=by refine D.hJ (oH D.F yz rfl λbB A outer s H E Ox hr ts q hG=>?_);have nd:=yz.nd;refine⟨_,(ax (aT (qau (mT (aa 0) (aa 1))))),λ_=>?_⟩;obtain⟨x,y,rfl,hx,hy,_,hq⟩:=hG;exact hq
noncomputable abbrev qK:π:=["one","word","other","left","right"]
def oi:aE qK qaC (aj iT):=L2.g9
def yA(D:Df K mg "reckoned" iT qaC f fd)(M:Mg w K mg)(qM:bW P w K mg base "fit" qaz 1 (di K 1 Ij))(gK:bW P w K mg base "number_of" qaA 2 (di K 1 gNm))(Si:bW P w K mg base "plus" qaB 1 (di K 2 O6))(M8:bW P w K mg base "minus" qaB 1 (di K 2 Ik)):bW P w K mg base "reckoned" qaC 3 (di K 3 Il):=by
 refine D.hJ (oH D.F oi rfl λbB A outer s H E Ox hr ts q hG=>?_);have nd:=oi.nd;have hu:=bF.iN hr;have np:∀{i:Nat},bN ⟨H,[],Ox⟩ i:=mB;obtain⟨aD,mD,hD⟩:=M.Ez;obtain⟨aR,fo,yB,Ol,vZ⟩:=M.RK;have yC:∀{pos},VP (fP eD P w K mg base qK "reckoned" (aj iT) f bB A outer s H E).pF ⟨H,[],Ox⟩ (.Name "DIVISIONS" pos) (fC (.tup [.str "over",.str "rest"])):=iI (by rfl) mD (v:=.ref aD) rfl λH A=>bU (hD H) (az.cons cD (az.cons cD az.nil));have yD:∀f' G,(∃o:KI,(o=.plus\/o=.minus)/\f'=fo o/\G=Zn o)->W.keepIn K (.ref f')=true/\∃fd ps,Binds K fd ps []/\cq P w K mg base eD 1 f' fd ps (di K 2 G):=by rintro f' G ⟨o,rfl|rfl,rfl,rfl⟩;exact OJ Si (Ol .plus);exact OJ M8 (Ol .minus)
 refine⟨_,(ah (bJ (de hu (aa 1) (θ a9))
    nz
    aZ)
   (ah (aX (i:=3) nd rfl (.inl rfl) (qau (aM gK hr (ae (ai 0) ar))) np)
   (ah (aX (i:=4) nd rfl (.inl rfl) (qau (aM gK hr (ae (ai 2) ar))) np)
   (ah (bJ (VW.vc (uT (tV (aa 1) (θ yC)) (oW (de hu (aa 4) (θ ag)))))
     nz
     aZ)
   (ax (aT (qau (aM qM hr (ae (ψ (Ii (Ih (by rfl) yB vZ (aa 1)) yD (hr.mono (by decide)) (ae (ai 3) (ae (ai 4) ar)))) ar))))))))),λ_=>?_⟩
 obtain⟨a,b,o,ho,rfl,ha,hb,hq⟩:=hG;refine m8 (c:=decide (qI o=("same":Str))) (Im ho) ?_;refine⟨rfl,a,rfl,rfl,b,rfl,rfl,rfl,?_⟩;have hd:Sd o=false:=by obtain rfl|rfl:=ho<;>rfl
 have gQ:q (.vw (.int (dQ (Se o (nm a) (nm b))))):=by unfold Zm at hq;rw[η (λz=>by rw[hd] at z;exact gZ z.1)] at hq;exact hq
 refine xB (λh=>absurd h (by rw[Sg ho];exact gZ)) (λ_=>?_);exact⟨.ob (fo o),by obtain rfl|rfl:=ho<;>rfl,Zn o,⟨o,ho,rfl,rfl⟩,rfl,nm a,nm b,rfl,ha.big,hb.big,(λz=>by rw[hd] at z;cases z),rfl,_,rfl,gQ⟩
end
end kR
namespace NK
open PySem PySem.Spec PySem.Calls PyProof.Rows L2
abbrev CK:=List Key×Key
def yE(P:Program)(w:World)(h:Heap)(c:CK)(a:Addr):Prop:=∃o items n b v,h.get? a=some o/\o.cls=.type "tuple"/\o.data=.seq items n/\items.toList=[.ref b,v]/\IsTupleKey (aK P w) h c.1 b/\(aK P w).is c.2 v=true
def yE.typeIs{s:Shared}{c:CK}(x:yE P w s.heap c a):s.TypeIs (.ref a) "tuple":=let ⟨o,_,_,_,_,ho,hc,_⟩:=x;⟨o,ho,hc⟩
def yE.inj{x y:CK}(hx:yE P w h x a)(hy:yE P w h y a):x=y:=by
 obtain⟨o,items,n,b,v,ho,_,hd,hi,h1,h2⟩:=hx;obtain⟨o',adz,n',b',v',j6,_,BH,Ku,Ci,GX⟩:=hy;obtain rfl:o=o':=Option.some.inj (ho.symm.trans j6);rw[hd] at BH;injection BH with e1 _
 subst e1;rw[hi] at Ku;injection Ku with e2 e3
 injection e2 with e2
 injection e3 with e3 _
 subst e2;subst e3;exact Prod.ext (h1.inj Ci) ((aK P w).inj _ _ _ h2 GX)
def yE.keeps{c:CK}{d:Addr}{o:Obj}{es ep}(x:yE P w h c a)(ho:h.get? d=some o)(hd:o.data=.dict es ep)(hs:Heap.SameBut d h h'):yE P w h' c a:=by
 obtain⟨o',items,n,b,v,j6,hc,BH,hi,h1,h2⟩:=x;have fY:a≠d:=by rintro rfl;obtain rfl:o'=o:=Option.some.inj (j6.symm.trans ho);rw[hd] at BH;exact nomatch BH
 exact⟨o',items,n,b,v,(hs.2 a fY).trans j6,hc,BH,hi,h1.keeps ho hd hs,h2⟩
noncomputable def bC(P:Program)(w:World)(c:CK):Int:=reduceHash (Builtin.Tuple.tupleHashOf [tupleKeyHash (aK P w) c.1,(aK P w).hash c.2])
variable{s:Shared}
def qN{c:CK}{Q:Int->Shared->Prop}(hu:A.units+2<cLine)(hk:yE P w s.heap c a)(h:Q (bC P w c) {s with toks:=s.toks+(c.1.length+3)}):wpAny (model P w) A (pyHash (.ref a)) Q E s:=by
 have hT:=hk.typeIs;obtain⟨o,items,n,b,v,ho,_,hd,hi,h1,h2⟩:=hk;unfold pyHash
 first|unfold pyHashByItsType|skip
 first|refine δ (wpAny_cRoomFor_or (.inr (by omega)) ?_)|skip
 refine δ (aac hT F.slot_tuple_hash.lookup ?_);show wpAny _ _ (if (some (Value.builtin "tuple.__hash__")==some Value.none)=true then _ else _) Q E s;rw[η (by rw[beq_builtin_none];exact gZ)];refine δ (aac hT F.slot_tuple_hash.lookup ?_);show wpAny _ _ (callSpecialIfBoundUnlessNone? (.ref a) "__hash__" _ >>= _) Q E s;refine δ (aai hT F.slot_tuple_hash (ω F.slot_tuple_hash hT F.entry_tuple_hash ?_ (F.args_tuple_hash_1 _)));show wpAny _ _ (Builtin.Tuple.tupleItemsOf (.ref a) >>= _) _ _ s;refine δ (aaz ho hd ?_);refine δ ?_;rw[<- Array.forIn_toList,hi];refine aag _
  (λrest (hs:Array Int) s'=>(rest=[.ref b,v]/\hs=#[]/\s'=s)\/(rest=[v]/\hs=#[tupleKeyHash (aK P w) c.1]/\s'={s with toks:=s.toks+(c.1.length+1)})\/(rest=[]/\hs=#[tupleKeyHash (aK P w) c.1,(aK P w).hash c.2]/\s'={s with toks:=s.toks+(c.1.length+1)+1}))
  _ ?_ ?_ _ _ (.inl ⟨rfl,rfl,rfl⟩)
 rintro x rest hs s' (⟨e,rfl,rfl⟩|⟨e,rfl,rfl⟩|⟨e,_⟩);cases e;refine δ (wpAny_pyHash_tuple (knd:=aK P w) (by show A.units+1<cLine;omega) h1 ?_)
 first
  |exact ζ (.inr (.inl ⟨rfl,rfl,rfl⟩))
  |exact δ (ζ (ζ (.inr (.inl ⟨rfl,rfl,rfl⟩))))
 cases e;refine δ ((aK P w).pyHash h2 ?_)
 first
  |exact ζ (.inr (.inr ⟨rfl,rfl,rfl⟩))
  |exact δ (ζ (ζ (.inr (.inr ⟨rfl,rfl,rfl⟩))))
 cases e;rintro hs s' (⟨e,_⟩|⟨e,_⟩|⟨_,rfl,rfl⟩);cases e;cases e;show wpAny _ _ (retInt (Builtin.Tuple.tupleHashOf [tupleKeyHash (aK P w) c.1,(aK P w).hash c.2])) _ _ _;refine wpAny_ret_mkInt ?_;have ht:s.toks+(c.1.length+1)+1+1=s.toks+(c.1.length+3):=by omega
 unfold bC reduceHash at h;generalize Builtin.Tuple.tupleHashOf [tupleKeyHash (aK P w) c.1,(aK P w).hash c.2]=z at h ⊢;show wpAny _ _ (if (decide (-(2:Int) ^ 63<=z) && decide (z<2 ^ 63))=true then _ else _) Q E _;by_cases hr:(decide (-(2:Int) ^ 63<=z) && decide (z<2 ^ 63))=true;rw[ε hr];rw[ε hr] at h;exact ζ (by rw[<- ht] at h;exact h);rw[η hr];rw[η hr] at h;exact δ (aak (ζ (by rw[<- ht] at h;exact h)))
def EA{x y:CK}{b:Addr}{R:Fin->Shared->Prop}(hu:A.units<cLine)(hx:yE P w s.heap x a)(hy:yE P w s.heap y b)(h:R (.done (.ret (.bool (decide (x=y))))) s) :
  wpAny (model P w) A (Builtin.«tuple.__eq__» ⟨[.ref a,.ref b],[]⟩) R E s:=by
 have hTb:=hy.typeIs;obtain⟨oa,xs,na,ba,va,hoa,_,hda,hia,ka,la⟩:=hx;obtain⟨ob,ys,nb,bb,vb,hob,_,kj,hib,kb,lb⟩:=hy;show wpAny _ _ (isInstance (.ref b) (.type "tuple") >>= _) _ _ s;refine δ (aar hTb aaq ?_);simp only[Kl,FY,aad];refine δ (aaz hoa hda ?_);refine δ (aaz hob kj ?_);refine δ ?_;have sx:(xs.size==ys.size)=true:=by rw[<- N4,<- N4,hia,hib];rfl
 have dec:decide (x=y)=(decide (x.1=y.1) && decide (x.2=y.2)):=by rw[N9];simp[Prod.ext_iff]
 refine aag _
  (λrest r s'=>r.1=none/\s'=s/\((rest=List.zip xs.toList ys.toList)\/(rest=[(va,vb)]/\x.1=y.1)\/(rest=[]/\x=y))) _ ?_ ?_ _ _ ⟨rfl,rfl,.inl rfl⟩
 rintro⟨u,v⟩ rest r s' ⟨hr,rfl,h3⟩;obtain e|⟨e,e1⟩|⟨e,_⟩:=h3
 rw[hia,hib] at e;simp only[Fm,List.zip_nil_right,List.cons.injEq,Prod.mk.injEq] at e;obtain⟨⟨rfl,rfl⟩,rfl⟩:=e;refine δ (wpAny_eqBool_tuple hu ka kb ?_);by_cases hk:x.1=y.1;rw[ν hk];simp only[Kl,FY,aad];exact ζ ⟨rfl,rfl,.inr (.inl ⟨trivial,hk⟩)⟩;rw[ι hk];simp only[Bool.not_false,aal];have hf:decide (x=y)=false:=by rw[dec,ι hk];rfl
 rw[hf] at h;exact δ (ζ (ζ (ζ h)));simp only[List.cons.injEq,Prod.mk.injEq] at e;obtain⟨⟨rfl,rfl⟩,rfl⟩:=e;refine δ ((aK P w).eqBool la lb ?_);by_cases hk:x.2=y.2;rw[ν hk];simp only[Kl,FY,aad];exact ζ ⟨rfl,rfl,.inr (.inr ⟨trivial,Prod.ext e1 hk⟩)⟩;rw[ι hk];simp only[Bool.not_false,aal];have hf:decide (x=y)=false:=by rw[dec,ι hk,Bool.and_false]
 rw[hf] at h;exact δ (ζ (ζ (ζ h)));cases e
 . rintro⟨r1,r2⟩ s' ⟨hr,rfl,h3⟩;simp only at hr;subst hr;refine ζ ?_;show R (.done (.ret (.bool (xs.size==ys.size)))) s';rw[sx];obtain e|⟨e,_⟩|⟨_,e⟩:=h3
   rw[hia,hib] at e;cases e;cases e;rw[ν e] at h;exact h
def Ip{x y:CK}{b:Addr}{Q:Bool->Shared->Prop}(hu:A.units+2<cLine)(hx:yE P w s.heap x a)(hy:yE P w s.heap y b)(h:Q (decide (x=y)) s) :
  wpAny (model P w) A (eqBool (.ref a) (.ref b)) Q E s:=by
 unfold eqBool
 try with_reducible refine v9 ?_
 show wpAny _ _ (if (Value.ref a==Value.ref b)=true then _ else _) Q E s;by_cases hab:(Value.ref a==Value.ref b)=true;rw[ε hab];have e:a=b:=by have:=eq_of_beq hab;injection this
 subst e;obtain rfl:=hx.inj hy;exact δ (aak (ζ (by simpa using h)));rw[η hab];exact δ (wpAny_richCompare_same_room (op:=.Eq) hx.typeIs hy.typeIs F.slot_tuple_eq
  (ω F.slot_tuple_eq hx.typeIs F.entry_tuple_eq (EA (by show A.units+1<cLine;omega) hx hy ⟨_,rfl,(λe=>nomatch e),Ξ h⟩) (F.args_tuple_eq_2 _ _)) (by omega))
def Iq{Q:Bool->Shared->Prop}(hk:IsTupleKey (aK P w) s.heap ks a)(h:Q true s):wpAny (model P w) A (eqIsQuiet (n+1) (.ref a)) Q E s:=by have hT:=hk.typeIs;obtain⟨o,items,n,ho,_,hd,hi⟩:=hk;unfold eqIsQuiet;refine δ (aac hT F.slot_tuple_eq.lookup ?_);show wpAny _ _ (isInstance (.ref a) (.type "tuple") >>= _) _ _ s;refine δ (aar hT aaq ?_);simp only[Kl,FY,aad];refine δ (Γ ho hd ?_);refine δ ?_;show wpAny _ _ (forIn items _ _) _ _ s;rw[<- Array.forIn_toList];refine aag _ (λrest r s'=>r.1=none/\s'=s/\∀v∈rest,carriedByValue v=true) _ ?_ ?_ _ _ ⟨rfl,rfl,hi.byValue⟩;rintro v rest r s' ⟨hr,rfl,xy⟩;rw[eqIsQuiet_byValue _ (xy v c6)];refine δ (ζ ?_);simp only[Kl,FY,aad];exact ζ ⟨rfl,rfl,λu Y2=>xy u (fJ _ Y2)⟩;rintro⟨r1,r2⟩ s' ⟨hr,rfl,_⟩;simp only at hr;subst hr;exact ζ h
def CQ{c:CK}{Q:Bool->Shared->Prop}(hk:yE P w s.heap c a)(h:Q true s):wpAny (model P w) A (eqIsQuiet 8 (.ref a)) Q E s:=by have hT:=hk.typeIs;obtain⟨o,items,n,b,v,ho,_,hd,hi,h1,h2⟩:=hk;unfold eqIsQuiet;refine δ (aac hT F.slot_tuple_eq.lookup ?_);show wpAny _ _ (isInstance (.ref a) (.type "tuple") >>= _) _ _ s;refine δ (aar hT aaq ?_);simp only[Kl,FY,aad];refine δ (Γ ho hd ?_);refine δ ?_;show wpAny _ _ (forIn items _ _) _ _ s;rw[<- Array.forIn_toList,hi];refine aag _ (λrest r s'=>r.1=none/\s'=s/\(rest=[.ref b,v]\/rest=[v]\/rest=[])) _ ?_ ?_ _ _ ⟨rfl,rfl,.inl rfl⟩;rintro u rest r s' ⟨hr,rfl,e|e|e⟩;cases e;refine δ (Iq h1 ?_);simp only[Kl,FY,aad];exact ζ ⟨rfl,rfl,.inr (.inl trivial)⟩;cases e;rw[eqIsQuiet_byValue _ ((aK P w).byValue _ _ h2)];refine δ (ζ ?_);simp only[Kl,FY,aad];exact ζ ⟨rfl,rfl,.inr (.inr trivial)⟩;cases e;rintro⟨r1,r2⟩ s' ⟨hr,rfl,_⟩;simp only at hr;subst hr;exact ζ h
noncomputable def yF(P:Program)(w:World):HeapKind P w CK where
 is:=yE P w
 hash:=bC P w
 draws:=λc=>c.1.length+3
 room:=λA=>A.units+2<cLine
 inj:=λhx hy=>hx.inj hy
 keeps:=λx ho hd hs=>x.keeps ho hd hs
 pyHash:=λhu hk h=>qN hu hk h
 eqBool:=λhu hx hy h=>Ip hu hx hy h
 quiet:=λhk h=>CQ hk h
variable{s:Shared}
def yG{Q:Int->Shared->Prop}(hu:A.units<cLine)(h:∀z t,Q z {s with toks:=t}):wpAny (model P w) A (pyHash .none) Q E s:=by
 unfold pyHash
 first|unfold pyHashByItsType|skip
 first|refine δ (wpAny_cRoomFor_or (.inr (by omega)) ?_)|skip
 have hT:s.TypeIs .none "NoneType":=rfl;refine δ (aac hT YL.lookup ?_);show wpAny _ _ (if (some (Value.builtin "NoneType.__hash__")==some Value.none)=true then _ else _) Q E s;rw[η (by rw[beq_builtin_none];exact gZ)];refine δ (aac hT YL.lookup ?_);show wpAny _ _ (callSpecialIfBoundUnlessNone? .none "__hash__" _ >>= _) Q E s;refine δ (aai hT YL (ω YL hT F.entry_NoneType_hash ?_ (F.args_NoneType_hash_1 _)));show wpAny _ _ (retInt 4238894112) _ _ s;refine wpAny_ret_mkInt ?_;show wpAny _ _ (if (decide (-(2:Int) ^ 63<=4238894112) && decide ((4238894112:Int)<2 ^ 63))=true then _ else _) Q E _;rw[ε (by decide)];exact ζ (h _ _)
def yH{v0:Value}{en:κ×Addr×Value->DictEntry}(h0:v0=.none\/∃i t,v0=.int i t)(hen:∀x,(en x).key=.ref x.2.1){d:Addr}{o:Obj}{es ep}{xs:List (κ×Addr×Value)}{z:Int}{Q:Option Nat->Shared->Prop}(ho:s.heap.get? d=some o)(hd:o.data=.dict es ep)(he:es.toList=xs.map en)(xf:∀x∈xs,SeqAt.EqAt A s (.ref x.2.1) v0 false/\∀{Q:Bool->Shared->Prop},Q true s->wpAny (model P w) A (eqIsQuiet 8 (.ref x.2.1)) Q E s)(hq:Q none s) :
  wpAny (model P w) A (dictFind d v0 z) Q E s:=by
 have hv:carriedByValue v0=true:=by obtain rfl|⟨i',ti,rfl⟩:=h0<;>rfl
 have tell:∀l:qag,(∀v∈l,∃x∈xs,v=.ref x.2.1)->∀{Q':Bool->Shared->Prop},Q' false s->wpAny (model P w) A (tableMayTell v0 l) Q' E s:=λl K6 Q' gQ=>by unfold tableMayTell;split;exact ζ gQ;rw[eqIsQuiet_byValue _ hv];refine δ (ζ ?_);simp only[Kl,FY,aad];refine δ ?_;refine aag _ (λrest r s'=>s'=s/\r=(none,())/\∀v∈rest,∃x∈xs,v=.ref x.2.1) _ ?_ ?_ _ _ ⟨rfl,rfl,K6⟩;rintro x rest r s' ⟨rfl,rfl,hr⟩;obtain⟨y,hy,rfl⟩:=hr x c6;refine δ ((xf y hy).2 ?_);simp only[Kl,FY,aad];exact ζ ⟨rfl,rfl,λv hv=>hr v (fJ _ hv)⟩;rintro r s' ⟨rfl,rfl,_⟩;exact ζ gQ
 obtain rfl|⟨i',ti,rfl⟩:=h0
 all_goals
  have Ir:∀e∈es,∃x∈xs,e=en x:=by intro e Zo;have:e∈xs.map en:=he▸Array.mem_toList_iff.mpr Zo;obtain⟨x,hx,rfl⟩:=rS.mp this;exact⟨x,hx,rfl⟩
  have K6:∀v∈(placesWithHash es.size (λi=>es[i]?.map (·.hash)) z).filterMap (λi=>es[i]?.map (·.key)),∃x∈xs,v=.ref x.2.1:=by
   intro v hv;obtain⟨i,_,hi⟩:=UZ.mp hv;cases O7:es[i]? with
   |none=>rw[O7] at hi;cases hi
   |some e=>
     rw[O7] at hi;obtain rfl:e.key=v:=by simpa using hi
     obtain⟨x,hx,rfl⟩:=Ir e (Array.mem_of_getElem? O7);exact⟨x,hx,hen x⟩
  unfold dictFind
  try with_reducible refine v9 ?_
  refine δ (wpAny_dictEntries ho hd ?_);dsimp only;have fO:∀i∈placesWithHash es.size (λi=>es[i]?.map (·.hash)) z,∃e,es[i]?=some e:=λi hi=>by
   unfold placesWithHash at hi;have:=(F0.mp hi).2;cases O7:es[i]? with
   |none=>have O8:(es[i]?.map (·.hash)==some z)=true:=this;rw[O7] at O8;simp at O8
   |some e=>exact⟨e,rfl⟩
  generalize placesWithHash es.size (λi=>es[i]?.map (·.hash)) z=places at K6 fO ⊢;cases places with
  |nil=>rw[ε (by rfl)];unfold dictWalkPlain;refine δ ?_;rw[List.forIn_nil];exact ζ (ζ hq)
  |cons i0 places=>
    obtain⟨e0,h0⟩:=fO i0 c6;have fY:(i0::places).filterMap (λi=>es[i]?.map (·.key))=e0.key::places.filterMap (λi=>es[i]?.map (·.key)):=by rw[j5,h0];rfl
    obtain⟨x0,_,qF⟩:=K6 e0.key (by rw[fY];exact c6);rw[η (by rw[fY,qF];simp[carriedByValue])];rw[η (by rw[fY,qF];intro hc;injection eq_of_beq hc with e1 _;cases e1)];refine δ (tell _ K6 ?_);rw[η (by simp)];refine δ ?_;refine aag _ (λrest b s'=>s'=s/\b=(none,none)/\∀i∈rest,∃e,es[i]?=some e) _ ?_ ?_ _ _ ⟨rfl,rfl,fO⟩;rintro i rest b s' ⟨rfl,rfl,hr⟩;obtain⟨e,O7⟩:=hr i c6;have eR:∀j∈rest,∃e,es[j]?=some e:=λj hj=>hr j (fJ _ hj);obtain⟨x,hx,ex⟩:=Ir e (Array.mem_of_getElem? O7);have hk:=xf x hx;rw[O7];dsimp only;by_cases hh:(e.hash==z)=true;rw[ε hh];rw[ex,hen];refine δ (wpAny_dictEpoch ho hd (δ (hk.1 P w E _ (δ (wpAny_dictEpoch ho hd ?_)))));rw[η (by simp)];simp only[FY,aad,U3];refine δ (aak ?_);exact ζ ⟨rfl,rfl,eR⟩;rw[η hh];exact ζ ⟨rfl,rfl,eR⟩;rintro b s' ⟨rfl,rfl,_⟩;exact ζ hq
def find_none{d:Addr}{o:Obj}{es ep}{xs:List (CK×Addr×Value)}{z:Int}{Q:Option Nat->Shared->Prop}(hu:A.units<cLine)(ho:s.heap.get? d=some o)(hd:o.data=.dict es ep)(he:es.toList=xs.map (entryOfKey (yF P w)))(xf:∀x∈xs,yE P w s.heap x.1 x.2.1)(hq:Q none s) :
  wpAny (model P w) A (dictFind d .none z) Q E s :=
 yH (.inl rfl) (λ_=>rfl) ho hd he (λx hx=>by obtain⟨ox,items,n,bx,vx,g1,g2,g3,g4,g5,g6⟩:=id (xf x hx);exact⟨SeqAt.EqAt.tuple_none (items:=items) ⟨ox,g1,g2,n,g3⟩ hu,CQ (xf x hx)⟩) hq
def qO(d:Addr)(hd:(d==sysModules)=false)(dflt:Value) :
  MeetsIn P w (Builtin.«dict.get» ⟨[.ref d,.none,dflt],[]⟩) (λA R s=>A.units+1<cLine/\∃xs,s.heap.DictOfH (yF P w) d xs/\∀t,R (.ok (.ret dflt)) {s with toks:=t}) :=
 .of_wp λA R s ⟨hu,xs,hm,h⟩=>by
  obtain⟨o,es,ep,ho,_,O9,he,xf,hn⟩:=hm;show wpAny _ _ (dictGet d .none >>= _) _ _ s;refine δ ?_;unfold dictGet
  try with_reducible refine v9 ?_
  refine δ (yG hu λz t=>δ (find_none (s:={s with toks:=t}) hu ho O9 he xf ?_));refine ζ ?_;show wpAny _ _ (Builtin.Dict.missed d .none >>= _) _ _ _;exact δ (wpAny_missed_other hd (ζ ⟨dflt,rfl,h t⟩))
end NK
namespace VT
open PySem PySem.Spec PyProof.Rows L2
section
variable{g:FM}{pos:Pos}
def Sj(fc:FB)(g:FM):FM:=λd ρ s=>∃Pv:Nat->En->S->Prop,(∃m,Pv m ρ s)/\∀m ρ s,Pv m ρ s->fc ρ λb=>if b=true then g {d with nx:=λρ' s'=>∃m',m'<m/\Pv m' ρ' s',ct:=λρ' s'=>∃m',m'<m/\Pv m' ρ' s',bk:=d.nx} ρ s else d.nx ρ s
theorem Iu{body:qaq}(hp:PassesOwn (model X.prog X.w) X.A X.env X.xe)(hc:∀H0,VC X ⟨H0,[],M.Ox⟩ c fc)(hb:Cy X M body g):MS X M (.While c body [] pos) (Sj fc g):=⟨λγ s' σ H D J ⟨ρ,s,d,S0,hg,Fi⟩=>by
 obtain⟨Pv,⟨m0,p0⟩,step⟩:=hg;refine xp (tc:=λσ H Q=>∃H0,lB X ⟨H0,[],M.Ox⟩ [] fc σ H Q) hp (λγ s σ H Q I ⟨H0,h⟩=>(hc H0 []) γ s σ H Q I h) hb.h γ s' σ H D J ⟨λm σ H=>∃ρ s,lC X.K M ρ s σ H/\Pv m ρ s,⟨m0,ρ,s,S0,p0⟩,?_⟩;rintro m σ1 H1 ⟨ρ1,s1,⟨⟨O,fp,F,I⟩,hp1⟩,p1⟩;refine⟨oM H1 (roots O),ρ1,O,_,I,step m ρ1 s1 p1,λb hb H2 s2=>?_⟩;have St:lC X.K M ρ1 s1 σ1 H2:=lC.of F (bE I) (I.same s2) hp1;cases b with
 |true=>rw[ε rfl] at hb;dsimp only;rw[ε rfl];refine⟨λσ' H'=>∃m',m'<m/\∃ρ s,lC X.K M ρ s σ' H'/\Pv m' ρ s,λσ' H' z=>z,ρ1,s1,_,St,hb,?_⟩;exact⟨λρ s σ H I ⟨m',hm,p⟩=>⟨m',hm,ρ,s,I,p⟩,Fi.rt,Fi.nx,λρ s σ H I ⟨m',hm,p⟩=>⟨m',hm,ρ,s,I,p⟩⟩
 |false=>rw[η gZ] at hb;dsimp only;rw[η gZ];exact Fi.nx ρ1 s1 σ1 H2 St hb⟩
end
section
variable{fe:Expr}{pos:Pos}
abbrev GM:=ξ->S->(S->T->Prop)->Prop
def Iv{k:Nat}{Fn:Addr->GM->Prop}{tf:TE}{t:TA}(C:∀f G,Fn f G->W.keepIn X.K (.ref f)=true/\∃fd ps,Binds X.K fd ps []/\cq X.prog X.w X.K X.mg X.base eD k f fd ps (jW X.K n G))(hr:bF k X.A)(hf:PE X fe tf)(ha:PA X (e::es) t)(he:starEach (e::es) X.env=(false,eval e X.env)::starEach es X.env:=by rfl)(fO:(backTo pos (starEach es X.env)).any (·.1)=false:=by rfl)(ht:eval (.Call fe (e::es) [] pos) X.env=(do
    let f <- eval fe X.env
    callWith pos f [] (backTo pos (starEach (e::es) X.env)) (backToKw pos (keywordEach [] X.env))):=by rfl) :
  PE X (.Call fe (e::es) [] pos) (λσ H Q=>tf σ H λv H1=>∃f G,v=.ref f/\Fn f G/\t σ H1 λvs H2=>jW X.K n G (vs++[]) H2 Q E0):=by
 intro γ s σ H Q I h;rw[ht];refine δ (b_ (hf γ s σ H _ I h) λu s1 ⟨v,H1,I1,r,f,G,ev,Sb,q1⟩=>?_);subst ev;obtain rfl:u=Value.ref f:=r;obtain⟨hk,fd,ps,hb,F⟩:=C f G Sb;refine YN (h₀:=X.base) I1.ok.mod.Uo hk (b_ (ha pos γ s1 σ H1 _ I1 q1) λus s2 ⟨vs,H2,I2,r2,q2⟩=>⟨I2.r0,?_⟩) he fO;exact z_ F hr hb .nil i8 I2 r2 q2
noncomputable def Sk(M:Mz)(n:Nat)(Fn:Addr->GM->Prop)(ff:FE)(fa:FA):FM:=λd ρ s=>(∀e∈ρ,fE e)/\ff ρ λt=>∃f G,t=.ob f/\Fn f G/\fa ρ λus=>us.length=n/\G us s λs' _=>d.nx (kD M ρ s') s'
def Iw{k:Nat}{Fn:Addr->GM->Prop}{ff:FE}{fa:FA}(C:∀f G,Fn f G->W.keepIn X.K (.ref f)=true/\∃fd ps,Binds X.K fd ps []/\cq X.prog X.w X.K X.mg X.base eD k f fd ps (jW X.K n G))(hr:bF k X.A)(hf:∀H0,VE X ⟨H0,[],M.Ox⟩ fe ff)(ha:∀H0,VA X ⟨H0,[],M.Ox⟩ es fa)(hN:X.N[M.k]?=some y)(hv:jQ X.env.scope y:=by exact jvv rfl)(hd:gq y:=by decide)(fH:rQ y:=by decide)(he:starEach (.Name y p1::es) X.env=(false,eval (.Name y p1) X.env)::starEach es X.env:=by rfl)(fO:(backTo aN (starEach es X.env)).any (·.1)=false:=by rfl)(ht:eval (.Call fe (.Name y p1::es) [] aN) X.env=(do
    let f <- eval fe X.env
    callWith aN f [] (backTo aN (starEach (.Name y p1::es) X.env)) (backToKw aN (keywordEach [] X.env))):=by rfl)(hs:swapsWith (.Call fe (.Name y p1::es) [] aN) none pos.line X.env=pure false:=by rfl) :
  MS X M (.Expr (.Call fe (.Name y p1::es) [] aN) pos) (Sk M n Fn ff fa):=⟨λγ s' σ H D J ⟨ρ,s,d,⟨⟨O,fp,F,I⟩,hp⟩,Mx,Fi⟩=>by
 obtain⟨oN,Mx⟩:=Mx;obtain⟨_,hσ⟩:=cO I hp;refine k7 (Iv C hr (hf (oM H (roots O)) []) (bf (bP hN hv hd fH) (ha (oM H (roots O)) []) he) he fO ht) hs γ s' σ H D J ⟨ρ,O,_,I,Mx,λt htt v H0 s0 a0=>?_⟩;obtain⟨f,G,rfl,Sb,Mx⟩:=htt;simp only[At] at a0;refine⟨f,G,a0,Sb,.ref M.a,hσ,ρ,O,_,I.same s0,Mx,λus Kr ws H1 s1 a1=>?_⟩;obtain⟨hu,hG⟩:=Kr;have I0:=(I.same s0).same s1;have F1:=F.now I0 (bE I);have I1:=I0.rebase (Z:=zf M O H) rfl;rw[xc];exact yi F1 I1 hp oN hu a1 hG λs2 t hq v H' S' _ _=>Fi.nx _ _ σ H' S' hq⟩
end
def nA{rest:qaq}:Cy X M rest (λ_ _ _=>False):=⟨λ_ _ _ _ _ _ ⟨_,_,_,_,h,_⟩=>h.elim⟩
structure o_(K:Δ)(H0:Hp)(Ox:ο)(x C:Addr)(ns:π)(xs:List S)(H:Hp):Prop where
 ex:∃fp,cn K H (fp++Ox) (.ins C ns xs) (.ref x) fp/\fp.Nodup/\∀b∈fp,b=x\/H0 b=none
 nx:x∉Ox
 ox:∀b∈Ox,H0 b≠none
 fr:∀b o,H0 b=some o->b≠x->H b=some o
theorem yI(f:Str)(y:V):∀(ns:π)(vs:Ω),ns.length=vs.length->f∉ns->dD f y (ns.zip vs)=(ns++[f]).zip (vs++[y])
 |[],[],_,_=>rfl
 |[],v::vs,h,_=>by simp at h
 |n::ns,[],h,_=>by simp at h
 |n::ns,v::vs,h,q=>by rw[Fm];show (if n=f then (n,y)::ns.zip vs else (n,v)::dD f y (ns.zip vs))=_;rw[η (λe=>q (by rw[e];exact c6)),yI f y ns vs (by simpa using h) (λz=>q (fJ _ z))];rfl
section
variable{H0:Hp}{x:Addr}{ns:π}
theorem o_.at(I:o_ K H0 Ox x C ns xs H):∃dx fs,H x=some (.ins C dx fs)/\fs.length=xs.length:=by obtain⟨fp,h,_⟩:=I.ex;simp only[cn] at h;obtain⟨a,dx,vs,iC,e,hl,ha,_,hL⟩:=h;cases e;exact⟨dx,_,ha,by rw[KR,hl,KU,hL.length]⟩
theorem o_.add{H1:Hp}{f:Str}{z:S}{g:ο}{fs:qac}(I:o_ K H0 Ox x C ns xs H)(sm:aO H H1)(hf:f∉ns)(hx:H1 x=some (.ins C dx fs))(hg:∀b∈g,H b=none)(nd:g.Nodup)(hz:∀fp:ο,(∀b∈fp,b=x\/H0 b=none)->x∈fp->(∀t w,At K H (fp++Ox) t w->At K (upd H1 x (.ins C dx (dD f v fs))) ((fp++g)++Ox) t w)->cn K (upd H1 x (.ins C dx (dD f v fs))) ((fp++g)++Ox) z v g) :
  o_ K H0 Ox x C (ns++[f]) (xs++[z]) (upd H1 x (.ins C dx (dD f v fs))):=by
 obtain⟨fp,h,n,each⟩:=I.ex;have h':=h;simp only[cn] at h';obtain⟨a,dx',vs,iC,e,hl,ha,rfl,hL⟩:=h';cases e;have hx2:=sm _ _ ha;rw[hx] at hx2;cases hx2;have old:∀b∈x::iC,H b≠none:=λb hb=>by obtain⟨u,e,_⟩:=h.mut b hb;rw[e];simp
 have go:∀t w,At K H ((x::iC)++Ox) t w->At K (upd H1 x (.ins C dx (dD f v (ns.zip vs)))) (((x::iC)++g)++Ox) t w:=λt w q=>by
  have q1:At K H (((x::iC)++g)++Ox) t w:=q.more λb hb=>by
   rcases cK.mp hb with y|y
   rcases cK.mp y with y|y
   exact .inl (cA _ y);exact .inr (hg b y);exact .inl (bZ _ y)
  exact (q1.same sm).wrote (cA _ (cA _ c6)) hx rfl
 have z1:=hz (x::iC) each c6 go;have nxf:x∉iC:=(jg.mp n).1;have rest:a_ K (upd H1 x (.ins C dx (dD f v (ns.zip vs)))) (((x::iC)++g)++Ox) xs vs iC:=hL.map go λb hb=>by obtain⟨u,e,_⟩:=a_.mut hL b hb;rw[aG (λy=>nxf (by rw[<- y];exact hb)),e];exact sm _ _ e
 refine⟨⟨(x::iC)++g,?_,?_,λb hb=>?_⟩,I.nx,I.ox,λb o e ne=>?_⟩;simp only[cn];refine⟨x,dx,vs++[v],iC++g,rfl,by simp[hl],?_,rfl,rest.snoc z1⟩;rw[aC,yI f v ns vs hl hf];exact zC.mpr ⟨n,nd,λa ha b hb e=>by subst e;exact old a ha (hg a hb)⟩;rcases cK.mp hb with y|y
 exact each b y
 right
 cases e:H0 b with
 |none=>rfl
 |some o=>exfalso;have nb:b≠x:=λz=>old x c6 (by rw[<- z];exact hg b y);have:=I.fr b o e nb;rw[hg b y] at this;cases this
 rw[aG ne];exact sm _ _ (I.fr b o e ne)
def o_.lf{H1:Hp}{f:Str}{t:T}{fs:qac}(I:o_ K H0 Ox x C ns xs H)(hf:f∉ns)(hi:bQ t=true)(a:At K H [] t v)(hx:H x=some (.ins C dx fs)):o_ K H0 Ox x C (ns++[f]) (xs++[.lf t]) (upd H x (.ins C dx (dD f v fs))) :=
 I.add (z:=.lf t) (g:=[]) (λ_ _ e=>e) hf hx (λb hb=>nomatch hb) Ft λfp _ _ go=>by simp only[cn];exact⟨trivial,go t v (At.bQ hi a)⟩
def o_.lst{f:Str}{p:Addr}{fs:qac}(I:o_ K H0 Ox x C ns xs H)(hf:f∉ns)(hp:H p=none)(hx:upd H p (.lst []) x=some (.ins C dx fs)):o_ K H0 Ox x C (ns++[f]) (xs++[.lst []]) (upd (upd H p (.lst [])) x (.ins C dx (dD f (.ref p) fs))) :=
 I.add (z:=.lst []) (g:=[p]) (aA hp) hf hx (λb hb=>by rw[iD.mp hb];exact hp) (by simp) λfp _ _ go=>by
  have ne:p≠x:=λz=>by rw[z,aC] at hx;cases hx
  simp only[cn,a_];exact⟨p,[],[],rfl,by rw[aG ne,aC],rfl,rfl,rfl⟩
def o_.dk{f:Str}{p:Addr}{fs:qac}(I:o_ K H0 Ox x C ns xs H)(hf:f∉ns)(hp:H p=none)(hx:upd H p (.dK []) x=some (.ins C dx fs)):o_ K H0 Ox x C (ns++[f]) (xs++[.dk [] []]) (upd (upd H p (.dK [])) x (.ins C dx (dD f (.ref p) fs))) :=
 I.add (z:=.dk [] []) (g:=[p]) (aA hp) hf hx (λb hb=>by rw[iD.mp hb];exact hp) (by simp) λfp _ _ go=>by
  have ne:p≠x:=λz=>by rw[z,aC] at hx;cases hx
  simp only[cn];exact⟨p,[],rfl,rfl,rfl,by rw[aG ne,aC];rfl,az.nil⟩
def o_.first{H1:Hp}{f:Str}{t:T}(nx:x∉Ox)(ox:∀b∈Ox,H b≠none)(hx:H x=some (.ins C dx []))(sm:aO H H1)(a:At K H1 (x::Ox) t v):o_ K H Ox x C [f] [.lf t] (upd H1 x (.ins C dx (dD f v []))):=by refine⟨⟨[x],?_,by simp,λb hb=>.inl (iD.mp hb)⟩,nx,ox,λb o e ne=>by rw[aG ne];exact sm _ _ e⟩;simp only[cn,a_];exact⟨x,dx,[v],[],rfl,rfl,aC,rfl,v,[],[],[],rfl,rfl,⟨rfl,a.wrote c6 (sm _ _ hx) rfl⟩,rfl,rfl⟩
end
noncomputable def mN:π:=["layout","most","poke","frames","cells","counts","doings","place","ended"]
def zOk(cz:S):Prop:=cz=.dk [] []\/∃nh,cz=.dc nh [] []
noncomputable def zO:S->Addr->HO
 |.dc nh _ _,p=>.ext (mO nh p [])
 |_,_=>.dK []
noncomputable def Sl(cz:S):TE:=λ_ H Q=>∀p,H p=none->(p==sysModules)=false->Q (.ref p) (upd H p (zO cz p))
def yJ{nh:List Key×Key->Int}{xs:List ((List Key×Key)×Addr×Value)}:∀h1 h2:Heap,mO nh a xs h1->(∀o,h1.get? a=some o->h2.get? a=some o)->mO nh a xs h2:=λh1 h2 ⟨o,es,ep,e,q⟩ k=>⟨o,es,ep,k o e,q⟩
def Iy{pos:Pos}{cz:S}(hz:zOk cz):PE X (.Dict [] [] pos) (Sl cz):=λγ s σ H Q I h=>by
 have nm:(s.heap.objs.size==sysModules)=false:=Θ.mpr (Ne.symm (ki I.big));obtain rfl|⟨nh,rfl⟩:=hz
 exact aas ⟨.ref s.heap.objs.size,_,I.laid (a:=s.heap.objs.size) (o:=.dK []) (t':=s.toks) (λ_ _ q=>fN _ q) (cS _) (x5 s.heap I.big),rfl,h _ (I.cj.fresh (cS _)) nm⟩;exact aas ⟨.ref s.heap.objs.size,_,I.laid (a:=s.heap.objs.size) (o:=.ext (mO nh s.heap.objs.size [])) (t':=s.toks) (λ_ _ q=>fN _ q) (cS _) ⟨⟨_,#[],0,k4 _ rfl,⟨rfl,rfl,rfl⟩,rfl,rfl,Ft⟩,⟨_,k4 _ rfl⟩,yJ⟩,rfl,h _ (I.cj.fresh (cS _)) nm⟩
theorem o_.cz{H0:Hp}{x:Addr}{ns:π}{cz:S}(hz:zOk cz){f:Str}{p:Addr}{fs:qac}(I:o_ K H0 Ox x C ns xs H)(hf:f∉ns)(hp:H p=none)(nm:(p==sysModules)=false)(hx:upd H p (zO cz p) x=some (.ins C dx fs)):o_ K H0 Ox x C (ns++[f]) (xs++[cz]) (upd (upd H p (zO cz p)) x (.ins C dx (dD f (.ref p) fs))) :=
 I.add (z:=cz) (g:=[p]) (aA hp) hf hx (λb hb=>by rw[iD.mp hb];exact hp) (by simp) λfp _ _ go=>by
  obtain rfl|⟨nh,rfl⟩:=hz
  have ne:p≠x:=λz=>by rw[z,aC] at hx;cases hx
  simp only[cn];exact⟨p,[],rfl,rfl,rfl,by rw[aG ne,aC];rfl,az.nil⟩;have ne:p≠x:=λz=>by rw[z,aC] at hx;cases hx
  simp only[cn];exact⟨p,[],[],rfl,rfl,by rw[aG ne,aC];rfl,rfl,nm,λx hx=>(nomatch hx),.nil,az.nil⟩
noncomputable def yK(cz:S)(L t2 t3:T):List S:=[.lf L,.lf t2,.lf t3,.lst [],cz,.dk [] [],.lst [],.lf .aQ,.lf .aQ]
def Sn(K:Δ)(H:Hp)(h:∀a∈Ox,H a≠none):ay K ⟨H,[],Ox⟩ [] [] [] [] H:=⟨rfl,rfl,λi e h=>by simp at h,Ft,λa h=>absurd h fK,λp hp=>absurd hp fK,h,λb o e _=>e,λp hp=>absurd hp fK⟩
section
variable{CL:Addr}
def EB{pr:T}{vp:V}{q:T->Prop}{Q:VK}(ox:∀b∈Ox,H b≠none)(a:At X.K H Ox pr vp)(hG:GL [pr] q)(k:∀L,q L->∀v H',aO H H'->At X.K H' Ox L v->Q v H') :
  ∀x dx,H x=none->H dx=none->dx≠x->OS X.K CL 1 GL (.ref x::([vp]++[])) (upd (upd H dx (.own x)) x (.ins CL dx [])) (λv H2=>v=.aQ/\Q (.ref x) H2) E0 :=
 Cr (X:=X) (Z:=⟨H,[],Ox⟩) (q:=λr=>∃L,r=.fr L/\q L) (Sn X.K H ox) (az.cons a az.nil) rfl (by
  have e:q=λu=>∃L,Rt.fr u=Rt.fr L/\q L:=by funext u;exact propext ⟨λh=>⟨u,rfl,h⟩,λ⟨L,e,h⟩=>by cases e;exact h⟩
  rw[<- e];exact hG) λr hr v H' sm z=>by
  obtain⟨L,rfl,hL⟩:=hr;obtain⟨b,rfl,_,rt,n0,nO⟩:=z;refine k L hL _ H' sm ((rt.aY λc hc=>?_).at nO);exact bZ _ (fJ _ hc)
def adA(K:Δ)(GL:ξ->(T->Prop)->Prop):TE:=λσ H Q=>∃vp pr Ox q,σ[1]?=some (some vp)/\(∀b∈Ox,H b≠none)/\At K H Ox pr vp/\GL [pr] q/\∀L,q L->∀v H',aO H H'->At K H' Ox L v->Q v H'
def So{kL:Nat}{fL:Addr}{XC:FuncData}{XD:π}{u1 u2 u3:Pos}(ML:Mk X.K CL fL)(FL:cq X.prog X.w X.K X.mg X.base eD kL fL XC XD (OS X.K CL 1 GL))(rL:bF (kL+1) X.A)(gL:Gl X "Layout")(mL:X.mg "Layout"=some (.ref CL))(bL:Binds X.K XC XD [])(h1:X.N[1]?=some ("program":Str))(v1:jQ X.env.scope "program")(s1:starEach [.Name "program" u2] X.env=(false,eval (.Name "program" u2) X.env)::starEach [] X.env)(s2:(backTo u3 (starEach [] X.env)).any (·.1)=false):PE X (.Call (.Name "Layout" u1) [.Name "program" u2] [] u3) (adA X.K GL) :=
 PE.weak (uG ML FL rL gL mL bL .nil i8 (bf (bP h1 v1 (by decide) (by decide)) cC s1) (by decide) s1 s2) λσ H Q ⟨vp,pr,Ox,q,e1,ox,ap,hG,k⟩=>⟨vp,e1,EB (X:=X) (Q:=Q) ox ap hG k⟩
noncomputable def XE(X:Cx)(C:Addr)(cz:S)(GL:ξ->(T->Prop)->Prop):TS:=λD σ H=>∃x dx Ox pr vp t2 v2 t3 v3 q,σ[0]?=some (some (.ref x))/\σ[1]?=some (some vp)/\σ[2]?=some (some v2)/\σ[3]?=some (some v3)/\H x=some (.ins C dx [])/\x∉Ox/\(∀b∈Ox,H b≠none) /\
 At X.K H (x::Ox) pr vp/\bQ t2=true/\At X.K H [] t2 v2/\bQ t3=true/\At X.K H [] t3 v3/\GL [pr] q/\∀L,q L->∀H',o_ X.K H Ox x C mN (yK cz L t2 t3) H'->D.nx σ H'
def jC{fs:List α}{m:Nat}(h:fs.length=n)(h2:n<1000):fs.length<1000:=by omega
def Iz{cz:S}(hz:zOk cz){kL:Nat}{fL:Addr}{XC:FuncData}{XD:π}(ML:Mk X.K CL fL)(FL:cq X.prog X.w X.K X.mg X.base eD kL fL XC XD (OS X.K CL 1 GL))(rL:bF (kL+1) X.A)(gL:Gl X "Layout")(mL:X.mg "Layout"=some (.ref CL))(bL:Binds X.K XC XD [])(cl:zW X.K C)(n1:bp X.K C "layout")(n2:bp X.K C "most")(n3:bp X.K C "poke")(n4:bp X.K C "frames")(n5:bp X.K C "cells")(n6:bp X.K C "counts")(n7:bp X.K C "doings")(n8:bp X.K C "place")(n9:bp X.K C "ended"){p3 p4 p5 p6 p7 p8 p9 q1 q2 q3 q4 q5 q6 q7 q8 q9 r1 r2 r3 r4 r5 r6 r7 r8 r9 u1 u2 u3 u4 u5 u6 u7 u8 u9 u10 u11:Pos}{k8 k9}(h0:X.N[0]?=some ("self":Str):=by rfl)(h1:X.N[1]?=some ("program":Str):=by rfl)(h2:X.N[2]?=some ("most":Str):=by rfl)(h3:X.N[3]?=some ("poke":Str):=by rfl)(v0:jQ X.env.scope "self":=by exact jvv rfl)(v1:jQ X.env.scope "program":=by exact jvv rfl)(v2:jQ X.env.scope "most":=by exact jvv rfl)(v3:jQ X.env.scope "poke":=by exact jvv rfl)(s1:starEach [.Name "program" u2] X.env=(false,eval (.Name "program" u2) X.env)::starEach [] X.env:=by rfl)(s2:(backTo u3 (starEach [] X.env)).any (·.1)=false:=by rfl)(w1:swapsWith (.Call (.Name "Layout" u1) [.Name "program" u2] [] u3) (some (.Attribute (.Name "self" p1) "layout" q1)) r1.line X.env=pure false:=by rfl)(w2:swapsWith (.Name "most" u4) (some (.Attribute (.Name "self" p2) "most" q2)) r2.line X.env=pure false:=by rfl)(w3:swapsWith (.Name "poke" u5) (some (.Attribute (.Name "self" p3) "poke" q3)) r3.line X.env=pure false:=by rfl)(w4:swapsWith (.List [] u6) (some (.Attribute (.Name "self" p4) "frames" q4)) r4.line X.env=pure false:=by rfl)(w5:swapsWith (.Dict [] [] u7) (some (.Attribute (.Name "self" p5) "cells" q5)) r5.line X.env=pure false:=by rfl)(w6:swapsWith (.Dict [] [] u8) (some (.Attribute (.Name "self" p6) "counts" q6)) r6.line X.env=pure false:=by rfl)(w7:swapsWith (.List [] u9) (some (.Attribute (.Name "self" p7) "doings" q7)) r7.line X.env=pure false:=by rfl)(w8:swapsWith (.Constant .none k8 u10) (some (.Attribute (.Name "self" p8) "place" q8)) r8.line X.env=pure false:=by rfl)(w9:swapsWith (.Constant .none k9 u11) (some (.Attribute (.Name "self" p9) "ended" q9)) r9.line X.env=pure false:=by rfl) :
  hY X [.Assign [.Attribute (.Name "self" p1) "layout" q1] (.Call (.Name "Layout" u1) [.Name "program" u2] [] u3) r1,.Assign [.Attribute (.Name "self" p2) "most" q2] (.Name "most" u4) r2,.Assign [.Attribute (.Name "self" p3) "poke" q3] (.Name "poke" u5) r3,
   .Assign [.Attribute (.Name "self" p4) "frames" q4] (.List [] u6) r4,.Assign [.Attribute (.Name "self" p5) "cells" q5] (.Dict [] [] u7) r5,.Assign [.Attribute (.Name "self" p6) "counts" q6] (.Dict [] [] u8) r6,
   .Assign [.Attribute (.Name "self" p7) "doings" q7] (.List [] u9) r7,.Assign [.Attribute (.Name "self" p8) "place" q8] (.Constant .none k8 u10) r8,.Assign [.Attribute (.Name "self" p9) "ended" q9] (.Constant .none k9 u11) r9] (XE X C cz GL) :=
 have Sv:∀{p:Pos},PE X (.Name "self" p) (U8 0):=λ{p}=>bP (X:=X) h0 v0 (by decide) (by decide)
 hY.ia (cN (fW Sv (So ML FL rL gL mL bL h1 v1 s1 s2) w1) (cN (fW Sv (bP h2 v2 (by decide) (by decide)) w2) (cN (fW Sv (bP h3 v3 (by decide) (by decide)) w3)
  (cN (fW Sv (z8 cC) w4) (cN (fW Sv (Iy hz) w5) (cN (fW Sv x6 w6) (cN (fW Sv (z8 cC) w7) (cN (fW Sv zP w8) (jR (fW Sv zP w9)))))))))) λD σ H h=>by
  obtain⟨x,dx,Ox,pr,vp,t2,v2',t3,v3',q,e0,e1,e2,e3,hx,nx,ox,ap,i2,a2,i3,a3,hG,kk⟩:=h;have ox':∀b∈x::Ox,H b≠none:=λb hb=>by
   rcases cU.mp hb with z|z
   rw[z,hx];simp;exact ox b z
  have O_:∀{H':Hp}{ns:π}{xs:List S},o_ X.K H Ox x C ns xs H'->∀{t:T}{v:V},bQ t=true->At X.K H [] t v->At X.K H' [] t v:=λ{H' ns xs} I {t v} hi a=>At.bQ hi ((At.bQ (O':=[x]) hi a).frame (λb hb=>⟨.ins C dx [],by rw[iD.mp hb];exact hx,rfl⟩) λb o e n=>I.fr b o e (λz=>n (by rw[z];exact c6)));refine⟨vp,pr,x::Ox,q,e1,ox',ap,hG,λL hL v H1 sm aL=>?_⟩;refine⟨.ref x,e0,x,C,dx,[],rfl,sm _ _ hx,cl,n1,by decide,?_⟩;have I1:o_ X.K H Ox x C ["layout"] [.lf L] _:=o_.first (f:="layout") nx ox hx sm aL
  obtain⟨d1,f1,g1,l1⟩:=I1.at;refine⟨v2',e2,.ref x,e0,x,C,d1,f1,rfl,g1,cl,n2,jC (n:=1) (m:=0) l1 (by decide),?_⟩;have I2:=I1.lf (H1:=H) (f:="most") (by decide) i2 (O_ I1 i2 a2) g1;obtain⟨d2,f2,g2,l2⟩:=I2.at;refine⟨v3',e3,.ref x,e0,x,C,d2,f2,rfl,g2,cl,n3,jC (n:=2) (m:=0) l2 (by decide),?_⟩;have I3:=I2.lf (H1:=H) (f:="poke") (by decide) i3 (O_ I2 i3 a3) g2;refine⟨mE _,λp4 hp4=>?_⟩;obtain⟨d3,f3,g3,l3⟩:=I3.at;refine⟨.ref x,e0,x,C,d3,f3,rfl,aA hp4 _ _ g3,cl,n4,jC (n:=3) (m:=0) l3 (by decide),?_⟩;have I4:=I3.lst (f:="frames") (by decide) hp4 (aA hp4 _ _ g3);intro p5 hp5 nm5;obtain⟨d4,f4,g4,l4⟩:=I4.at;refine⟨.ref x,e0,x,C,d4,f4,rfl,aA hp5 _ _ g4,cl,n5,jC (n:=4) (m:=0) l4 (by decide),?_⟩;have I5:=I4.cz hz (f:="cells") (by decide) hp5 nm5 (aA hp5 _ _ g4);intro p6 hp6;obtain⟨d5,f5,g5,l5⟩:=I5.at;refine⟨.ref x,e0,x,C,d5,f5,rfl,aA hp6 _ _ g5,cl,n6,jC (n:=5) (m:=0) l5 (by decide),?_⟩;have I6:=I5.dk (f:="counts") (by decide) hp6 (aA hp6 _ _ g5);refine⟨mE _,λp7 hp7=>?_⟩;obtain⟨d6,f6,g6,l6⟩:=I6.at;refine⟨.ref x,e0,x,C,d6,f6,rfl,aA hp7 _ _ g6,cl,n7,jC (n:=6) (m:=0) l6 (by decide),?_⟩;have I7:=I6.lst (f:="doings") (by decide) hp7 (aA hp7 _ _ g6);obtain⟨d7,f7,g7,l7⟩:=I7.at;refine⟨.ref x,e0,x,C,d7,f7,rfl,g7,cl,n8,jC (n:=7) (m:=0) l7 (by decide),?_⟩;have I8:=I7.lf (H1:=H) (f:="place") (t:=.aQ) (v:=.aQ) (by decide) rfl (by simp only[At]) g7;obtain⟨d8,f8,g8,l8⟩:=I8.at;refine⟨.ref x,e0,x,C,d8,f8,rfl,g8,cl,n9,jC (n:=8) (m:=0) l8 (by decide),?_⟩;exact kk L hL _ (I8.lf (H1:=H) (f:="ended") (t:=.aQ) (v:=.aQ) (by decide) rfl (by simp only[At]) g8)
noncomputable def spK(K:Δ)(C:Addr)(cz:S)(GL:ξ->(T->Prop)->Prop):Sp:=λvs H Q _=>∃x dx Ox pr vp t2 v2 t3 v3 q,vs=[.ref x,vp,v2,v3]/\H x=some (.ins C dx [])/\x∉Ox/\(∀b∈Ox,H b≠none) /\
 At K H (x::Ox) pr vp/\bQ t2=true/\At K H [] t2 v2/\bQ t3=true/\At K H [] t3 v3/\GL [pr] q/\∀L,q L->∀H',o_ K H Ox x C mN (yK cz L t2 t3) H'->Q .aQ H'
end
section
def fnK{cz:S}{st:Stmt}{N:π}{k:Nat}(F:BZ K "__init__" qual st f fd)(S:aE N qaD (aj st))(hN:N.length=4)(dF:∀(bB:Value) (A:Around) (outer:List Env) (s:Shared) (H:Hp) (E:XK),bF k (A.deeper (envOfC qual (aj st) s.heap.objs.size f bB))->hY (fP eD P w K mg base N qual (aj st) f bB A outer s H E).pF (bG st) (XE (fP eD P w K mg base N qual (aj st) f bB A outer s H E).pF C cz GL)) :
  cq P w K mg base eD (k+1) f fd qaD (spK K C cz GL):=by
 refine F.ok S (λvs H Q E h=>?_) (λbB A outer s H vs Q E hr h=>?_);obtain⟨x,dx,Ox,pr,vp,t2,v2,t3,v3,q,rfl,_⟩:=h;rfl;obtain⟨x,dx,Ox,pr,vp,t2,v2,t3,v3,q,rfl,h⟩:=h;refine⟨_,dF bB A outer s H E hr,x,dx,Ox,pr,vp,t2,v2,t3,v3,q,?_,?_,?_,?_,h⟩<;>(unfold L2.start;rfl)
end
end VT
namespace VT
open PySem PySem.Spec PyProof.Rows L2 NK
section
variable{σ:L2.St}{s:Shared}
def IA(I:Inv X γ σ H s){c:CK}{b:Addr}(h:oA X.K H c b):yE X.prog X.w s.heap c b:=by
 obtain⟨d,h1,h2⟩:=h;obtain⟨aP,r,⟨o,e,ec,n,ed⟩,_⟩:=I.tuple h1;obtain⟨jts,r2,⟨o2,e2,ec2,n2,ed2⟩,_⟩:=I.tuple h2;obtain⟨u1,l1,rfl,z1,r⟩:∃u1 r1,aP=u1::r1/\RelV (.ref d) u1/\Vals [kV c.2] r1:=by cases r with|cons a b=>exact⟨_,_,rfl,a,b⟩
 obtain⟨u2,l2,rfl,z2,r⟩:∃u1 r1,l1=u1::r1/\RelV (kV c.2) u1/\Vals [] r1:=by cases r with|cons a b=>exact⟨_,_,rfl,a,b⟩
 cases r;cases (show u1=Value.ref d from z1);exact⟨o,_,n,d,u2,e,ec,ed,rfl,⟨o2,_,n2,e2,ec2,ed2,by simpa using m_ r2⟩,nV z2⟩
def Pa(I:Inv X γ σ H s){xs:List (CK×Addr×Value)}(e:H a=some (.ext (mO (bC X.prog X.w) a xs)))(hk:∀x∈xs,oA X.K H x.1 x.2.1):s.heap.DictOfH (yF X.prog X.w) a xs:=by obtain⟨⟨o,es,ep,ho,hc,hd,he,hn⟩,_⟩:=(show cp X.prog X.w H s.heap a (.ext _) from I.cj a _ e);exact⟨o,es,ep,ho,hc,hd,he,λx hx=>IA I (hk x hx),hn⟩
def XF(H:Hp)(a:Addr):Prop:=∃nh xs,H a=some (.ext (mO nh a xs))
def M9(I:Inv X γ σ H s)(d:XF H a):s.TypeIs (.ref a) "dict"/\(∀b,Value.ref a=.ref b->∃ob,s.heap.get? b=some ob/\ob.dict=none):=by obtain⟨nh,xs,e⟩:=d;obtain⟨⟨o,es,ep,ho,hc,_⟩,_⟩:=(show cp X.prog X.w H s.heap a (.ext _) from I.cj a _ e);exact⟨⟨o,ho,hc.1⟩,λb q=>by cases q;exact⟨o,ho,hc.2.1⟩⟩
end
section
variable{f i value:Expr}{pos pos':Pos}{td ty tx tv:TE}
noncomputable def XG(X:Cx)(td ty tx:TE):TE:=λσ H Q=>td σ H λx H1=>∃a,x=.ref a/\XF H1 a/\ty σ H1 λy H2=>tx σ H2 λz H3=>∃xs,H3 a=some (.ext (mO (bC X.prog X.w) a xs))/\(a==sysModules)=false/\(∀x∈xs,oA X.K H3 x.1 x.2.1) /\
 ((y=.aQ/\Q z H3)\/∃b c v,y=.ref b/\oA X.K H3 c b/\(match atKey xs c with|some p=>RelV v p.2|none=>v=z)/\Q v H3)
def IB(hu:X.A.units+3<cLine)(ho:PE X o td)(he:PE X e ty)(hf:PE X f tx)(m:M2 X o "get" apos e f aN):PE X (.Call (.Attribute o "get" apos) [e,f] [] aN) (XG X td ty tx):=by
 intro γ s σ H Q I h;refine aap m.base m.Zd m.line Ue Ke YJ (b_ (ho γ s σ H _ I h) λu s1 ⟨x,H1,I1,rx,a,ex,d,q1⟩=>?_);subst ex;obtain rfl:u=Value.ref a:=rx;obtain⟨t1,t2⟩:=M9 I1 d;refine⟨t1,t2,?_⟩;rw[m.trees];refine Uh rfl (UW (KQ (b_ (he γ s1 σ H1 _ I1 q1) λiv s2 ⟨y,H2,I2,ry,q2⟩ =>
  KQ (b_ (hf γ s2 σ H2 _ I2 q2) λfv s3 ⟨z,H3,I3,rz,xs,ea,nm,hk,q3⟩=>U0 ?_))))
 have dd:=Pa I3 ea hk;obtain⟨rfl,q3⟩|⟨b,c,v,rfl,hb,hv,q3⟩:=q3
 cases (show iv=Value.none from ry);exact aah Ke dd.typeIs Ui (Ud _ _ _) (qO (P:=X.prog) (w:=X.w) a nm fv) ⟨by omega,xs,dd,λt=>⟨z,H3,I3.tok _,rz,q3⟩⟩;cases (show iv=Value.ref b from ry);refine aah Ke dd.typeIs Ui (Ud _ _ _) (meetsH_dict_get_default (yF X.prog X.w) a b nm fv) ⟨by show X.A.units+1+2<cLine;omega,c,xs,IA I3 hb,dd,v,H3,I3.tok _,?_,q3⟩;cases e:atKey xs c with
 |none=>rw[e] at hv;subst hv;exact rz
 |some p=>rw[e] at hv;exact hv
noncomputable def XH(X:Cx)(td ty tv:TE):TS:=λD σ H=>tv σ H λv H1=>td σ H1 λx H2=>ty σ H2 λy H3=>∃a b c xs,x=.ref a/\y=.ref b/\oA X.K H3 c b/\H3 a=some (.ext (mO (bC X.prog X.w) a xs))/\(∀x∈xs,oA X.K H3 x.1 x.2.1)/\xs.length<=sizeLine /\
 ∀u,RelV v u->D.nx σ (upd H3 a (.ext (mO (bC X.prog X.w) a (storedH xs c b u))))
def M_(hu:X.A.units+3<cLine)(ho:PE X o td)(hi:PE X i ty)(hv:PE X value tv)(hs:swapsWith value (some (.Subscript o i pos')) pos.line X.env=pure false) :
  PS X (.Assign [.Subscript o i pos'] value pos) (XH X td ty tv):=by
 intro γ s σ H D I h;refine wpAny_Assign_Subscript (b_ (hv γ s σ H _ I h) λr s1 ⟨v,H1,I1,rv,q1⟩=>b_ (ho γ s1 σ H1 _ I1 q1) λu s2 ⟨x,H2,I2,rx,q2⟩=>b_ (hi γ s2 σ H2 _ I2 q2) λiv s3 ⟨y,H3,I3,ry,a,b,c,xs,ex,ey,hb,ea,hk,hz,q3⟩=>?_) hs;subst ex ey;cases (show u=Value.ref a from rx);cases (show iv=Value.ref b from ry);refine wpAny_setItem_heap (knd:=yF X.prog X.w) (hsz:=hz) (by show X.A.units+1+2<cLine;omega) (IA I3 hb) (Pa I3 ea hk) λh' hm Ry=>?_;obtain⟨o',es,ep,j6,hc,hd,he,xf,hn⟩:=hm;refine⟨σ,_,o5 (ob:=.ext (mO (bC X.prog X.w) a (storedH xs c b r))) I3 (by rw[ea];trivial) Ry ⟨_,j6⟩ ⟨⟨o',es,ep,j6,hc,hd,he,hn⟩,⟨_,j6⟩,yJ⟩,q3 r rv⟩
end
noncomputable def gT{α:Type}:List CK->List α->CK->Option α
 |k::ks,t::ts,c=>if k=c then some t else gT ks ts c
 |_,_,_=>none
noncomputable def EC(ks:List CK)(c:CK):Bool:=ks.any λk=>decide (k=c)
noncomputable def lZ(ks:List CK)(c:CK):List CK:=if EC ks c=true then ks else ks++[c]
noncomputable def eV{α:Type}(ks:List CK)(ts:List α)(c:CK)(t:α):List α:=if EC ks c=true then List.zipWith (λk v=>if k=c then t else v) ks ts else ts++[t]
section
variable{A:ο}
theorem CS(c:CK):∀{xs:List (CK×Addr×Value)}{ts:ξ}{vs:Ω},Vals vs (xs.map (·.2.2))->az K H A ts vs->match atKey xs c with
  |none=>gT (xs.map (·.1)) ts c=none
  |some p=>∃t v,gT (xs.map (·.1)) ts c=some t/\At K H A t v/\RelV v p.2
 |[],ts,vs,hv,ha=>by show gT [] ts c=none;cases ts<;>rfl
 |x::xs,ts,vs,hv,ha=>by
   rw[fU] at hv;cases hv with
   |@cons v u fq KC r hv=>
     cases ts with
     |nil=>simp only[az] at ha;cases ha
     |cons t ts=>
       simp only[az] at ha;obtain⟨v',r',e,h1,h2⟩:=ha;cases e;by_cases hc:x.1=c;have e1:atKey (x::xs) c=some x.2:=by simp[atKey,Ki,hc]
       rw[e1];exact⟨t,v,by rw[fU];show (if x.1=c then _ else _)=_;rw[ε hc],h1,r⟩;have e1:atKey (x::xs) c=atKey xs c:=by simp[atKey,Ki,hc]
       have e2:gT ((x::xs).map (·.1)) (t::ts) c=gT (xs.map (·.1)) ts c:=by rw[fU];show (if x.1=c then _ else _)=_;rw[η hc]
       rw[e1,e2];exact CS c hv h2
def ED{xs:List (CK×Addr×Value)}{c:CK}:(atKey xs c).isSome=EC (xs.map (·.1)) c:=by
 induction xs with
 |nil=>rfl
 |cons x xs ih=>
  by_cases hc:x.1=c;simp[atKey,Ki,hc,EC];have e1:atKey (x::xs) c=atKey xs c:=by simp[atKey,Ki,hc]
  rw[e1,ih];simp[EC,hc]
def IC{c:CK}(h:g_ K H A (FR c) v):∃b,v=.ref b/\oA K H c b:=by
 obtain h|⟨a,rfl,q⟩:=h
 have h':=h;unfold FR at h';simp only[At] at h';obtain⟨a,vs,rfl,_⟩:=h';exact⟨a,rfl,vF.mp h⟩;exact q.elim
theorem EE{xs:List (CK×Addr×Value)}{ts:ξ}{c:CK}{b:Addr}{t:T}(hv:Vals vs (xs.map (·.2.2)))(ha:az K H A ts vs)(ht:At K H A t v)(ru:RelV v u) :
  lZ (xs.map (·.1)) c=(storedH xs c b u).map (·.1)/\∃fq,Vals fq ((storedH xs c b u).map (·.2.2))/\az K H A (eV (xs.map (·.1)) ts c t) fq:=by
 unfold lZ eV storedH;rw[ED];by_cases h:EC (xs.map (·.1)) c=true;rw[ε h,ε h,ε h];refine⟨(keys_map_putAt xs c u).symm,?_⟩;clear h;induction xs generalizing ts vs with
 |nil=>
   cases hv;cases ts with
   |nil=>exact⟨[],.nil,az.nil⟩
   |cons t ts=>simp only[az] at ha;obtain⟨_,_,e,_⟩:=ha;cases e
 |cons x xs ih=>
   rw[fU] at hv;cases hv with
   |@cons v0 u0 Uz us0 r hv=>
     cases ts with
     |nil=>simp only[az] at ha;cases ha
     |cons t0 ts=>simp only[az] at ha;obtain⟨v',r',e,h1,h2⟩:=ha;cases e;obtain⟨ws,w1,w2⟩:=ih hv h2;simp only[fU,PZ];by_cases hc:x.1=c;refine⟨v::ws,.cons ?_ w1,az.cons (by rw[ε hc];exact ht) w2⟩;unfold putAt;rw[ε hc];exact ru;refine⟨v0::ws,.cons ?_ w1,az.cons (by rw[η hc];exact h1) w2⟩;unfold putAt;rw[η hc];exact r
 rw[η h,η h,η h];refine⟨by simp,vs++[v],?_,ha.append (az.cons ht az.nil)⟩;rw[oS];exact Vals.append hv (.cons ru .nil)
end
section
variable{a:Expr}{fc:FE}
noncomputable def fCG(nh:CK->Int)(fa fb fc:FE):FP:=λρ Q=>fa ρ λx=>match x with
 |.dc nh' ks ts=>nh'=nh/\fb ρ λy=>fc ρ λz=>(y=.aQ/\Q (.vw z))\/∃c,y=FR c/\Q (.vw ((gT ks ts c).getD z))
 |_=>False
def Sq(hu:X.A.units+3<cLine)(ha:VR X Z a fa)(hb:VR X Z b fb)(hc:VE X Z c fc)(m:M2 X a "get" apos b c aN):VP X Z (.Call (.Attribute a "get" apos) [b,c] [] aN) (fCG (bC X.prog X.w) fa fb fc):=.mk λtm=>PE.weak (IB hu (ha tm) (hb tm) (hc tm) m) λσ H Q ⟨ρ,O,q,I,hf,k⟩ =>
 ⟨ρ,O,_,I,hf,λx hx v H1 s1 a1=>by
  split at hx
  rename_i nh ks ts
  obtain⟨rfl,hx⟩:=hx;obtain⟨l,xs,vs,rfl,hd,ek,nm,hk,hv,hl⟩:=a1.dc;refine⟨l,rfl,⟨_,_,hd⟩,ρ,O,_,I.same s1,hx,λy hy w H2 s2 a2=>⟨ρ,O,_,(I.same s1).same s2,hy,λz hz u H3 s3 a3=>?_⟩⟩;have sm:aO H1 H3:=s2.trans s3;have hk3:∀x∈xs,oA X.K H3 x.1 x.2.1:=λx hx=>let ⟨d,g1,g2⟩:=hk x hx;⟨d,dz.same sm g1,dz.same sm g2⟩;refine⟨xs,sm _ _ hd,nm,hk3,?_⟩;obtain⟨rfl,hz⟩|⟨c,rfl,hz⟩:=hz
  have e:w=.aQ:=by
   obtain a2|⟨_,_,a2⟩:=a2
   simpa only[At] using a2;exact a2.elim
  exact .inl ⟨e,k _ hz _ H3 ((s1.trans s2).trans s3) ⟨((I.same s1).same s2).same s3,a3⟩⟩;obtain⟨b,rfl,kb⟩:=IC (a2.same s3);have cg:=CS c hv (hl.same sm);refine .inr ?_;cases ea:atKey xs c with
  |none=>rw[ea] at cg;rw[ek,cg] at hz;exact⟨b,c,u,rfl,kb,by rw[ea],k _ hz _ H3 ((s1.trans s2).trans s3) ⟨((I.same s1).same s2).same s3,a3⟩⟩
  |some p=>rw[ea] at cg;obtain⟨t,v',e1,e2,e3⟩:=cg;rw[ek,e1] at hz;exact⟨b,c,v',rfl,kb,by rw[ea];exact e3,k _ hz _ H3 ((s1.trans s2).trans s3) ⟨((I.same s1).same s2).same s3,e2⟩⟩
  exact hx.elim⟩
end
section
variable{i:Expr}{ps:List kA}{pos:Pos}
noncomputable def XI(M:Mz)(nh:CK->Int)(ps:List kA)(fi fe:FE):FM:=λd ρ s=>fe ρ λt=>(∃x,s.get ps=some x)/\fi ρ λj=>∃c,j=FR c/\bQ t=true/\(∀e∈ρ,fE e)/\∃ks ts,s.get ps=some (.dc nh ks ts)/\ts.length<16777216 /\
 d.nx (kD M ρ (s.put ps (.dc nh (lZ ks c) (eV ks ts c t)))) (s.put ps (.dc nh (lZ ks c) (eV ks ts c t)))
def M'{fi:FE}(hu:X.A.units+3<cLine)(ho:PE X o (ju M.k ps))(hi:∀H0,VR X ⟨H0,[],M.Ox⟩ i fi)(he:∀H0,VE X ⟨H0,[],M.Ox⟩ e fe)(hs:swapsWith e (some (.Subscript o i dX)) pos.line X.env=pure false:=by rfl) :
  MS X M (.Assign [.Subscript o i dX] e pos) (XI M (bC X.prog X.w) ps fi fe):=⟨λγ s' σ H D J ⟨ρ,s,d,⟨⟨O,fp,F,I⟩,hp⟩,hg,Fi⟩=>by
 refine M_ hu ho (hi (oM H (roots O)) []) (he (oM H (roots O)) []) hs γ s' σ H D J ⟨ρ,O,_,I,hg,λt ht v H1 s1 a1=>?_⟩;obtain⟨⟨x,hx⟩,ht⟩:=ht;obtain⟨w,_,_,_,_,ev,_,_⟩:=(F.now (I.same s1) (bE I)).nX.focus hx;obtain⟨_,hσ⟩:=cO I hp;refine⟨.ref M.a,w,hσ,ev,ρ,O,_,I.same s1,ht,λj hj w' H2 s2 a2=>?_⟩;obtain⟨c,rfl,KD,oN,ks,ts,Em,hlen,hq⟩:=hj;have I0:=(I.same s1).same s2;have F2:=F.now I0 (bE I);have I2:=I0.rebase (Z:=zf M O H) rfl;obtain⟨w2,f',HC,hS,sub,nd,wr⟩:=F2.put (ps:=ps) I2 hp oN Em;rw[gc s2 ev] at HC;cases HC;have rV:=hS;simp only[cn] at rV;obtain⟨l,xs,vs,rfl,rfl,h3,ek,nm,hk,hv,hl⟩:=rV;obtain⟨b,rfl,kb⟩:=IC a2;have hz:xs.length<=sizeLine:=by have e1:=hv.length;have e2:=hl.length;rw[cJ] at e1;rw[μ];omega
 have hA:l∈roots O++(fp++M.Ox):=bZ _ (cA _ (sub _ c6));refine⟨l,b,c,xs,rfl,rfl,kb,h3,λx hx=>vF.mp (hk x hx),hz,λu ru=>?_⟩;obtain⟨e1,fq,e2,e3⟩:=EE (b:=b) (c:=c) hv hl (At.bQ KD (a1.same s2)) ru;subst ek;refine Fi.nx _ _ σ _ (wr (y:=.dc (bC X.prog X.w) (lZ (xs.map (·.1)) c) (eV (xs.map (·.1)) ts c t)) c6 ?_) hq;simp only[cn];refine⟨l,_,fq,rfl,rfl,aC,e1,nm,λx hx=>?_,e2,az.wrote hA h3 rfl e3⟩;unfold storedH at hx;split at hx;obtain⟨y,hy,rfl⟩:=rS.mp hx;have e4:(putAt c u y).1=y.1/\(putAt c u y).2.1=y.2.1:=by unfold putAt;split<;>exact⟨rfl,rfl⟩
 rw[e4.1,e4.2];exact (hk y hy).wrote hA h3 rfl;rcases cK.mp hx with hx|hx
 exact (hk x hx).wrote hA h3 rfl;rw[iD.mp hx];exact (vF.mpr kb).wrote hA h3 rfl⟩
end
end VT
namespace VT
open PySem PySem.Spec PyProof.Rows L2
structure ue(K:Δ)(H H':Hp)(us:ξ)(u:T)(p l:Addr):Prop where
 same:aO H H'
 tup:∃v,H' p=some (.tup [.ref l,v])/\At K H' [] u v
 new:H l=none
 lst:∃vs,H' l=some (.lst vs)/\az K H' [] us vs
 i1:dC us=true
 i2:bQ u=true
def UH(K:Δ)(n:Nat)(G:ξ->(ξ->T->Prop)->Prop):Sp:=λvs H Q _=>∃ts Ox q,(∀a∈Ox,H a≠none)/\az K H Ox ts vs/\ts.length=n/\G ts q /\
 ∀us u,q us u->∀p l H',ue K H H' us u p l->Q (.ref p) H'
abbrev Pb:=OW->(ξ->T->Prop)->En->S->Prop
structure DpM(K:Δ)(M:Mz)(us:ξ)(u:T)(p l:Addr)(H':Hp):Prop where
 kp:∀b o,M.H0 b=some o->b∉M.tQ->H' b=some o
 own:l∈M.tQ\/M.H0 l=none
 tup:∃v,H' p=some (.tup [.ref l,v])/\At K H' [] u v
 lst:∃vs,H' l=some (.lst vs)/\az K H' [] us vs
 i1:dC us=true
 i2:bQ u=true
def lMD(X:Cx)(M:Mz)(g:Pb):TS:=λD σ H=>∃ρ s d dp,lC X.K M ρ s σ H/\g d dp ρ s/\RU X.K M d D/\∀us u,dp us u->∀p l H',DpM X.K M us u p l H'->D.rt (.ref p) H'
def Na(X:Cx)(M:Mz)(st:qaq)(g:Pb):Prop:=Bm (hY X st (lMD X M g))
section
variable{st:Stmt}{rest:qaq}{g:FM}{u:Pb}{pos:Pos}
def Pc(g:FM)(u:Pb):Pb:=λd dp ρ s=>g {d with nx:=u d dp} ρ s
def qP(h1:MS X M st g)(h2:Na X M rest u):Na X M (st::rest) (Pc g u):=⟨hY.ia (cN h1.h h2.h) λD σ H ⟨ρ,s,d,dp,I,h,F,q⟩ =>
 ⟨ρ,s,{d with nx:=u d dp},I,h,⟨λρ' s' σ' H' I' h'=>⟨ρ',s',d,dp,I',h',F,q⟩,F.rt,F.bk,F.ct⟩⟩⟩
noncomputable def XJ(ps:List kA)(fe:FE):Pb:=λ_ dp ρ s=>∃ys:ξ,s.get ps=some (.lst (ys.map .lf))/\dC ys=true/\fe ρ λu=>bQ u=true/\dp ys u
theorem a_.lfs{K:Δ}{H:Hp}{A:ο}:∀{ys:ξ}{vs:Ω}{fp:ο},a_ K H A (ys.map .lf) vs fp->az K H A ys vs
 |[],vs,fp,h=>by simp only[Km,a_] at h;rw[h.1];exact az.nil
 |y::ys,vs,fp,h=>by simp only[fU,a_,cn] at h;obtain⟨v,r,f,g,rfl,rfl,⟨_,h1⟩,h2⟩:=h;exact az.cons h1 (a_.lfs h2)
def Nb{ps:List kA}{x1}{pos:Pos}(ho:PE X o (ju M.k ps))(he:∀H0,VE X ⟨H0,[],M.Ox⟩ e fe)(s1:starEach [o,e] X.env=(false,eval o X.env)::starEach [e] X.env:=by rfl)(s2:starEach [e] X.env=(false,eval e X.env)::starEach [] X.env:=by rfl) :
  Na X M [.Return (some (.Tuple [o,e] x1 p)) pos] (XJ ps fe):=⟨λγ s' σ H D J ⟨ρ,s,d,dp,⟨⟨O,fp,F,I⟩,hp⟩,hg,Fi,dpk⟩=>by
 obtain⟨ys,Em,hys,hg⟩:=hg;obtain⟨w,f1,f,f2,AA,ev,W8,_⟩:=F.nX.focus Em;have yf:=W8;simp only[cn] at yf;obtain⟨l,xs,iC,rfl,hl,rfl,hL⟩:=yf;obtain⟨_,hσ⟩:=cO I hp;refine jR (uC (uE (bf ho (bf (he (oM H (roots O)) []) cC s2) s1))) γ s' σ H D J ⟨.ref M.a,.ref l,hσ,ev,ρ,O,_,I,hg,λt ht v H1 sm a1=>⟨by rw[μ];simp,λp Uu=>?_⟩⟩;obtain⟨hi,hq⟩:=ht;have I0:=I.same sm;have F1:=F.now I0 (bE I);have sp:aO H1 (upd H1 p (.tup [.ref l,v])):=aA Uu;have Zh:l∈fp:=by rw[AA];simp
 refine dpk ys t hq p l _ ⟨λb o e n=>sp _ _ (F1.kp b o e n).1,F1.fr l Zh,⟨v,aC,At.bQ hi (a1.same sp)⟩,⟨xs,sp _ _ (sm _ _ hl),?_⟩,hys,hi⟩;exact az.bQ hys ((hL.lfs.same sm).same sp)⟩
noncomputable def Pe(X:Cx)(k:Nat)(C:Addr)(cz:S)(GL:ξ->(T->Prop)->Prop)(g:Hp->ο->ο->Addr->Pb):TS:=λD σ H=>∃ρ Ox pr t2 t3 q,ay X.K ⟨H,[],Ox⟩ [] (List.replicate X.N.length none) ρ σ H/\k<ρ.length/\ρ[0]?=some (some (pr,false))/\ρ[2]?=some (some (t2,false))/\ρ[3]?=some (some (t3,false)) /\
 bQ t2=true/\bQ t3=true/\GL [pr] q/\∀L,q L->∀H0 tQ a,∃dp,g H0 tQ Ox a {nx:=λ_ _=>False,rt:=λ_ _ _=>False} dp (ρ.set k (some (.pin a (S.ins C mN (yK cz L t2 t3)).t,false))) (.ins C mN (yK cz L t2 t3))/\∀us u,dp us u->∀p l H',ue X.K H H' us u p l->D.rt (.ref p) H'
def ID{cz:S}{k kC:Nat}{fI:Addr}{Xg:FuncData}{g:Hp->ο->ο->Addr->Pb}{px pC e1 e2 e3 pc:Pos}(hN:X.N.Nodup)(hk:X.N[k]?=some x)(hx:Loc X.env.scope x)(MI:Mk X.K C fI)(FI:cq X.prog X.w X.K X.mg X.base eD kC fI Xg qaD (spK X.K C cz GL))(rI:bF (kC+1) X.A)(gI:Gl X "Machine")(mI:X.mg "Machine"=some (.ref C))(bI:Binds X.K Xg qaD [])(XM:∀H0 tQ Ox a,Na X ⟨H0,tQ,Ox,a,k⟩ rest (g H0 tQ Ox a))(h0:X.N[0]?=some ("program":Str):=by rfl)(h2:X.N[2]?=some ("most":Str):=by rfl)(h3:X.N[3]?=some ("poke":Str):=by rfl)(v0:jQ X.env.scope "program":=by exact jvv rfl)(v2:jQ X.env.scope "most":=by exact jvv rfl)(v3:jQ X.env.scope "poke":=by exact jvv rfl)(s1:starEach [.Name "program" e1,.Name "most" e2,.Name "poke" e3] X.env=(false,eval (.Name "program" e1) X.env)::starEach [.Name "most" e2,.Name "poke" e3] X.env:=by rfl)(s2:starEach [.Name "most" e2,.Name "poke" e3] X.env=(false,eval (.Name "most" e2) X.env)::starEach [.Name "poke" e3] X.env:=by rfl)(s3:starEach [.Name "poke" e3] X.env=(false,eval (.Name "poke" e3) X.env)::starEach [] X.env:=by rfl)(s4:(backTo pc (starEach [.Name "most" e2,.Name "poke" e3] X.env)).any (·.1)=false:=by rfl)(hs:swapsWith (.Call (.Name "Machine" pC) [.Name "program" e1,.Name "most" e2,.Name "poke" e3] [] pc) (some (.Name x px)) p1.line X.env=pure false:=by rfl)(hf:X.fn x=true\/X.env.scope.names.lookup x=some .local:=by first|exact .inl rfl|exact .inr rfl|assumption) :
  hY X (.Assign [.Name x px] (.Call (.Name "Machine" pC) [.Name "program" e1,.Name "most" e2,.Name "poke" e3] [] pc) p1::rest) (Pe X k C cz GL g):=λγ s' σ H D J ⟨ρ,Ox,pr,t2,t3,q,I,hkl,i0,i2,i3,m2,m3,hG,kk⟩=>by
 obtain⟨_,_,_,z0,rfl,w0,rfl,a0⟩:=I.sl 0 _ i0;obtain⟨_,_,_,z2,rfl,w2,rfl,a2⟩:=I.sl 2 _ i2;obtain⟨_,_,_,z3,rfl,w3,rfl,a3⟩:=I.sl 3 _ i3;have ea:av ⟨H,[],Ox⟩ (List.replicate X.N.length none)=Ox:=by unfold av;rw[dv];rfl
 rw[ea] at a0 a2 a3;have ro:roots ((List.replicate X.N.length (none:qar)).set k none)=[]:=by
  have:(List.replicate X.N.length (none:qar)).set k none=List.replicate X.N.length none:=by
   refine Um λi=>?_;rw[Ul];split
   rename_i e;subst e;rw[BE,P0]
   rfl
  rw[this];exact dv _
 refine cN (uD hN hk hx (uG MI FI rI gI mI bI .nil i8 (bf (bP h0 v0 (by decide) (by decide)) (bf (bP h2 v2 (by decide) (by decide)) (bf (bP h3 v3 (by decide) (by decide)) cC s3) s2) s1) (by decide) s1 s4) hs hf)
  (t:=_) (u:=λD σ1 H1=>∃fp a,lMD X ⟨H1,fp,Ox,a,k⟩ (g H1 fp Ox a) D σ1 H1) (λγ s σ1 H1 D1 J1 ⟨fp,a,h⟩=>(XM H1 fp Ox a).h γ s σ1 H1 D1 J1 h) γ s' σ H D J ⟨w0,z0,w2,z2,w3,z3,λa dx na ndx fY=>?_⟩
 have nO:a∉Ox:=λz=>I.ox a z na;have s0:aO H (upd (upd H dx (.own a)) a (.ins C dx [])):=λb o e=>by rw[aG (bo e na),aG (bo e ndx)];exact e
 refine⟨a,dx,Ox,pr,w0,t2,w2,t3,w3,q,rfl,aC,nO,λb hb=>?_,(a0.more λb hb=>?_).same s0,m2,At.bQ m2 (a2.same s0),m3,At.bQ m3 (a3.same s0),hG,λL hL H1 In=>⟨rfl,?_⟩⟩;cases e:H b with
 |none=>exact absurd e (I.ox b hb)
 |some o=>rw[s0 _ _ e];simp
 rcases cU.mp hb with z|z
 exact .inr (by rw[z];exact na);exact .inl z;obtain⟨fp,hS,nd,each⟩:=In.ex;have ne:∀b∈fp,H b=none:=λb hb=>by
  rcases each b hb with z|z
  rw[z];exact na;cases e:H b with
  |none=>rfl
  |some o=>rw[s0 _ _ e] at z;cases z
 have sm:aO H H1:=λb o e=>In.fr b o (s0 _ _ e) (bo e na);have nq:∀b∈fp,b∉Ox:=λb hb z=>I.ox b z (ne b hb);have view:At X.K H1 Ox (S.ins C mN (yK cz L t2 t3)).t (.ref a):=hS.view (λb hb=>bZ _ hb) nq;obtain⟨dp,hg,hd⟩:=kk L hL H1 fp a;have J1:=(I.same sm).put (i:=k) (t:=.pin a (S.ins C mN (yK cz L t2 t3)).t) (v:=.ref a) (λp hp=>absurd hp fK) (by rw[ea];simp only[At];exact⟨trivial,view⟩);refine⟨fp,a,_,_,_,dp,⟨⟨_,fp,⟨?_,nd,λb hb=>⟨by rw[ro];simp,nq b hb⟩,λb hb=>.inl hb,λb o e n=>⟨e,by rw[ro];simp⟩⟩,J1.rebase (Z:=⟨H,[],Ox⟩) rfl⟩,?_⟩,hg,⟨λ_ _ _ _ _ z=>z.elim,λ_ _ _ _ _ _ _ _ _ _ _ _ _ z=>z.elim,λ_ _ _ _ _ z=>z.elim,λ_ _ _ _ _ z=>z.elim⟩,λus u hu p l H' DM=>hd us u hu p l H' ⟨λb o e=>DM.kp b o (sm _ _ e) (λz=>by rw[ne b z] at e;cases e),DM.tup,?_,DM.lst,DM.i1,DM.i2⟩⟩;rw[ro];exact hS;exact Dx hkl;obtain z|z:=DM.own
 exact ne l z;cases e:H l with
 |none=>rfl
 |some o=>have z':H1 l=none:=z;rw[sm _ _ e] at z';cases z'
end
section
theorem ja{cz:S}{st:Stmt}{N:π}{k:Nat}{G:ξ->(ξ->T->Prop)->Prop}(F:BZ K x qual st f fd)(Sc:aE N ps (aj st))(hn:4=ps.length)(hN:4<=N.length)(dF:∀(bB:Value) (A:Around) (outer:List Env) (s:Shared) (H:Hp) (E:XK),bF k (A.deeper (envOfC qual (aj st) s.heap.objs.size f bB))->∀t0 t1 t2 t3 q,G [t0,t1,t2,t3] q->∃g qL,hY (fP eD P w K mg base N qual (aj st) f bB A outer s H E).pF (bG st) (Pe (fP eD P w K mg base N qual (aj st) f bB A outer s H E).pF j C cz GL g)/\j<N.length/\bQ t2=true/\bQ t3=true/\GL [t0] qL /\
    ∀L,qL L->∀H0 tQ Ox a,g H0 tQ Ox a {nx:=λ_ _=>False,rt:=λ_ _ _=>False} q ((some (t0,false)::some (t1,false)::some (t2,false)::some (t3,false)::List.replicate (N.length-4) none:En).set j (some (.pin a (S.ins C mN (yK cz L t2 t3)).t,false))) (.ins C mN (yK cz L t2 t3))) :
  cq P w K mg base eD (k+1) f fd ps (UH K 4 G):=by
 refine F.ok Sc (λvs H Q E h=>?_) (λbB A outer s H vs Q E hr h=>?_);obtain⟨ts,Ox,q,_,ha,hl,_⟩:=h;rw[ha.length,hl,hn];obtain⟨ts,Ox,q,ox,ha,hl,hG,kk⟩:=h
 match ts,hl with
 |[t0,t1,t2,t3],_=>obtain⟨g,qL,hP,hj,m2,m3,hL,hg⟩:=dF bB A outer s H E hr t0 t1 t2 t3 q hG;refine⟨_,hP,_,Ox,t0,t2,t3,qL,jT (N:=N) (ts:=[t0,t1,t2,t3]) hN ox ha,?_,rfl,rfl,rfl,m2,m3,hL,λL hq H0 tQ a=>⟨q,hg L hq H0 tQ Ox a,λus u hu p l H' D=>kk us u hu p l H' D⟩⟩;show j<(_::_::_::_::List.replicate (N.length-4) none:En).length;simp only[BF,P0];omega
end
structure IE(K:Δ)(x qual:Str)(st:Stmt)(f:Addr)(fd:FuncData):Prop where
 ex:∃(oc:Value)(od:qar)(dV kV doc pm:Value)(an:qar)(bB ct:Value)(DS:Array (Option Value)),
  fd=W.fnOf x qual (cV st) (bG st) (aj st) dV kV doc pm an bB ct/\K.lookup f=some ⟨oc,od,.func fd,DS⟩/\W.codeIn K bB qual=true
 kp:W.keepIn K (.ref f)=true
section
def IE.ok{st:Stmt}{N:π}{k:Nat}(F:IE K x qual st f fd)(S:aE N ps (aj st))(len:∀vs H Q E,sp vs H Q E->vs.length=ps.length)(dF:∀(bB:Value) (A:Around) (outer:List Env) (s:Shared) (H:Hp) (vs:Ω) (Q:VK) (E:XK),bF k (A.deeper (envOfC qual (aj st) s.heap.objs.size f bB))->sp vs H Q E ->
    ∃t,hY (fP eD P w K mg base N qual (aj st) f bB A outer s H E).pF (bG st) t/\t {nx:=λ_ H'=>Q .aQ H',rt:=Q} (start N vs) H):cq P w K mg base eD (k+1) f fd ps sp:=by
 obtain⟨oc,od,dV,kV,doc,pm,an,bB,ct,DS,rfl,lk,fH⟩:=F.ex;refine Oi lk fH S len λA outer s H vs Q E hr Kp=>?_;obtain⟨t,h,q⟩:=dF bB A outer s H vs Q E hr Kp;exact⟨t,h.pF,q⟩
end
section
variable{k:Nat}{G:ξ->(ξ->T->Prop)->Prop}{pos:Pos}{ds:qag}{uF:Ω}{dts:ξ}
def lDR(X:Cx)(Z:Zc)(tm:qab)(f:En->(ξ->T->Prop)->Prop):TE:=λσ H Q=>∃ρ O q,ay X.K Z tm O ρ σ H/\f ρ q/\∀us u,q us u->∀p l H',ue X.K H H' us u p l->Q (.ref p) H'
def Pf(X:Cx)(Z:Zc)(e:Expr)(f:En->(ξ->T->Prop)->Prop):Prop:=Bx λtm=>PE X e (lDR X Z tm f)
instance{X:Cx}{Z:Zc}{e:Expr}{f:En->(ξ->T->Prop)->Prop}:CoeFun (Pf X Z e f) λ_=>∀tm,PE X e (lDR X Z tm f):=⟨λh=>Bx.h h⟩
def Sr(n:Nat)(dts:ξ)(g:FA)(G:ξ->(ξ->T->Prop)->Prop):En->(ξ->T->Prop)->Prop:=λρ Q=>g ρ λts=>(ts++dts).length=n/\G (ts++dts) Q
def qQ(F:cq X.prog X.w X.K X.mg X.base eD k f fd ps (UH X.K n G))(hr:bF k X.A)(hg:Gl X x)(hm:X.mg x=some (.ref f))(hk:W.keepIn X.K (.ref f)=true)(hb:Binds X.K fd ps ds)(hd:Vals uF ds)(hdt:∀H A,az X.K H A dts uF)(ha:VA X Z (e::es) g)(kj:gq x:=by decide)(he:starEach (e::es) X.env=(false,eval e X.env)::starEach es X.env:=by rfl)(fO:(backTo pos (starEach es X.env)).any (·.1)=false:=by rfl) :
  Pf X Z (.Call (.Name x p) (e::es) [] pos) (Sr n dts g G):=.mk λtm=>PE.weak (iF F hr hg hm hk hb hd i8 (ha tm) kj he fO) λσ H Q ⟨ρ,O,q,I,hf,k⟩ =>
 ⟨ρ,O,_,I,hf,λts dZ vs H1 s1 a1=>by
   refine⟨ts++dts,av Z O,q,(I.same s1).uR,a1.append (hdt H1 _),dZ.1,dZ.2,λus u hu p l H' D=>k us u hu p l H' ⟨s1.trans D.same,D.tup,?_,D.lst,D.i1,D.i2⟩⟩;cases z:H l with
   |none=>rfl
   |some o=>have:=D.new;rw[s1 _ _ z] at this;cases this⟩
def ue.at{tm:qab}{us:ξ}{u:T}{p l:Addr}(I:ay K Z tm O ρ σ H)(D:ue K H H' us u p l):At K H' (av Z O) (.tup [.lst us,u]) (.ref p):=by obtain⟨v,h1,h2⟩:=D.tup;obtain⟨vs,h3,h4⟩:=D.lst;refine bU (dz.of h1) (az.cons ?_ (az.cons (At.bQ D.i2 h2) az.nil));simp only[At];exact⟨l,vs,rfl,.inl ⟨.inl h3,λz=>I.uR _ z D.new⟩,az.bQ D.i1 h4⟩
def XN(f:En->(ξ->T->Prop)->Prop):FP:=λρ Q=>f ρ λus u=>Q (.vw (.tup [.lst us,u]))
def Pf.vp{f:En->(ξ->T->Prop)->Prop}(h:Pf X Z e f):VP X Z e (XN f):=.mk λtm=>PE.weak (h tm) λσ H Q ⟨ρ,O,q,I,hf,k⟩ =>
 ⟨ρ,O,λus u=>q (.vw (.tup [.lst us,u])),I,hf,λus u hu p l H' D=>k _ hu _ H' D.same ⟨I.same D.same,D.at I⟩⟩
def IF{f:En->(ξ->T->Prop)->Prop}{pos:Pos}(h:Pf X Z e f):hY X [.Return (some e) pos] (λD σ H=>∃ρ O q,ay X.K Z [] O ρ σ H/\f ρ q/\∀us u,q us u->∀p l H',ue X.K H H' us u p l->D.rt (.ref p) H') :=
 jR (uC (h []))
end
section
def adB{st:Stmt}{N:π}{k:Nat}{G:ξ->(ξ->T->Prop)->Prop}(F:IE K x qual st f fd)(S:aE N ps (aj st))(hn:n=ps.length)(hN:n<=N.length)(dF:∀(bB:Value) (A:Around) (outer:List Env) (s:Shared) (H:Hp) (E:XK) (Ox:ο),bF k (A.deeper (envOfC qual (aj st) s.heap.objs.size f bB))->∀ts q,G ts q->ts.length=n->∃e pos f',bG st=[.Return (some e) pos]/\Pf (fP eD P w K mg base N qual (aj st) f bB A outer s H E).pF ⟨H,[],Ox⟩ e f'/\f' (ts.map (λt=>some (t,false))++List.replicate (N.length-ts.length) none) q) :
  cq P w K mg base eD (k+1) f fd ps (UH K n G):=by
 refine F.ok S (λvs H Q E h=>?_) (λbB A outer s H vs Q E hr h=>?_);obtain⟨ts,Ox,q,_,ha,hl,_⟩:=h;rw[ha.length,hl,hn];obtain⟨ts,Ox,q,ox,ha,hl,hG,kk⟩:=h;obtain⟨e,pos,f',hb,hV,hf⟩:=dF bB A outer s H E Ox hr ts q hG hl;rw[hb];exact⟨_,IF hV,_,_,q,jT (by omega) ox ha,hf,kk⟩
end
structure Hd(K:Δ)(Z:Zc)(i:Nat)(tm:qab)(p l:Addr)(O:HD)(ρ:En)(σ:St)(H:Hp):Prop where
 I:ay K ⟨oM H (roots O),[],l::Z.Ox⟩ tm O ρ σ H
 hi:ρ[i]?=some (some (.ob p,false))
 hp:∃v,H p=some (.tup [.ref l,v])
 hl:∃vs,H l=some (.lst vs)
 kp:∀b o,Z.H0 b=some o->H b=some o/\b∉roots O/\b≠l
 lO:l∉Z.Ox
def lSH(X:Cx)(Z:Zc)(i:Nat)(tm:qab)(g:Addr->FS):TS:=λD σ H=>∃ρ O d p l,Hd X.K Z i tm p l O ρ σ H/\g p d ρ/\Fin X.K Z tm d D
def adC(X:Cx)(Z:Zc)(i:Nat)(st:qaq)(g:Addr->FS):Prop:=Bx λtm=>hY X st (lSH X Z i tm g)
instance{X:Cx}{Z:Zc}{i:Nat}{st:qaq}{g:Addr->FS}:CoeFun (adC X Z i st g) λ_=>∀tm,hY X st (lSH X Z i tm g):=⟨λh=>Bx.h h⟩
end VT
namespace VT
open PySem PySem.Spec PyProof.Rows L2
open AutoSeq1 (wpAny_loadPart')
def EF(b:Addr)(xs:Array Value)(m:Nat)(dq:qar)(sq:Array (Option Value)) :
  Meets (Builtin.«enumerate.__new__» ⟨[.type "enumerate",.ref b],[]⟩) (λ_ R s=>s.heap.get? b=some ⟨.type "tuple",dq,.seq xs m,sq⟩ /\
   R (.ok (.ret (.ref (s.heap.push {cls:=.type "tuple_iterator",data:=.fields #[.ref b,.int 0 0]}).objs.size)))
    {s with heap:=(s.heap.push {cls:=.type "tuple_iterator",data:=.fields #[.ref b,.int 0 0]}).push ⟨.type "enumerate",none,.fields #[.none,.bool false,.ref s.heap.objs.size,rawInt 0,.none,.none],#[]⟩}) :=
 .of_wp λprog w A R s ⟨hb,k⟩=>by
  obtain⟨h0,g0,d0,t0,os0⟩:=s;have ac9:=sub_enumerate;have hT:Heap.IsTuple (Shared.heap ⟨h0,g0,d0,t0,os0⟩) b xs:=⟨_,hb,rfl,m,rfl⟩
  wp_walk using wpAny_loadPart' hb
  refine wpAny_stack_any λst=>ζ ?_;split
  rename_i c _ _ _ _ _
  cases (c==Value.type "enumerate")<;>(wp_walk using wpAny_loadPart' hb,aan hT)<;>exact⟨_,rfl,k⟩
  wp_walk using wpAny_loadPart' hb,aan hT
  exact⟨_,rfl,k⟩
section
variable{s:Shared}
def IG{b:Addr}{xs:Array Value}(hT:s.heap.IsTuple b xs)(k:∀h',IsEnum h' (s.heap.objs.size+1) s.heap.objs.size 0 .none->h'.IsTupleIter s.heap.objs.size b 0->(∀c o,s.heap.get? c=some o->h'.get? c=some o)->Q (.ref (s.heap.objs.size+1)) {s with heap:=h'}) :
  wpAny (model prog w) A (call (.type "enumerate") [.ref b]) Q E s:=by
 obtain⟨⟨c,dq,dt,sq⟩,hb,hc,m,hd⟩:=hT;have e1:c=.type "tuple":=hc;have e2:dt=.seq xs m:=hd;subst e1 e2;refine callType_new F.called_enumerate (by decide) (F.typeCall_enumerate_1 _) (F.newCall_enumerate_1 _) (λobj=>F.args_object_init_2 obj _) F.entry_enumerate_new (EF b xs m dq sq) ⟨hb,?_⟩;have z1:(s.heap.push {cls:=.type "tuple_iterator",data:=.fields #[.ref b,.int 0 0]}).objs.size=s.heap.objs.size+1:=F4 ..;have z2:IsEnum ((s.heap.push {cls:=.type "tuple_iterator",data:=.fields #[.ref b,.int 0 0]}).push ⟨.type "enumerate",none,.fields #[.none,.bool false,.ref s.heap.objs.size,rawInt 0,.none,.none],#[]⟩) (s.heap.objs.size+1) s.heap.objs.size 0 .none:=by rw[<- z1];exact k4 _ rfl
 show _/\_;rw[z1];exact⟨⟨_,z2,rfl⟩,k _ z2 ⟨_,fN _ (k4 _ rfl),rfl,rfl⟩ λc o q=>fN _ (fN _ q)⟩
def AJ{j b:Addr}{xs:Array Value}{y:Value}(hj:s.heap.IsTupleIter j b n)(hb:s.heap.IsTuple b xs)(hy:xs[n]?=some y)(k:∀h',h'.IsTupleIter j b (n+1)->Heap.SameBut j s.heap h'->Q y {s with heap:=h'}):wpAny (model prog w) A (Builtin.SmallTypes.nextOf (.ref j)) Q E s:=by obtain⟨u,g1,g2,g3⟩:=id hj;obtain⟨v,f1,_,q,f2⟩:=hb;unfold Builtin.SmallTypes.nextOf;refine δ (χ (name:=Str.ofString "__next__") hj.typeIs N3 (ω N3 hj.typeIs YB ?_ (YA _)));show wpAny _ _ (field (.ref j) 0 >>= _) _ _ s;refine δ (υ g1 g3 (x:=.ref b) rfl ?_);show wpAny _ _ (if (Value.ref b==Value.none)=true then _ else _) _ _ s;rw[η (show ¬ ((Value.ref b==Value.none)=true) from gZ)];show wpAny _ _ (field (.ref j) 1 >>= _) _ _ s;refine δ (υ g1 g3 (x:=.int n 0) rfl ?_);show wpAny _ _ (seqItems? (.ref b) >>= _) _ _ s;refine δ (Γ f1 f2 ?_);simp only[Dz,hy];refine δ (aax g1 g3 (by simp) (ζ ⟨y,rfl,ζ (k _ ⟨_,Heap.get?_update_self _ g1 (Obj.isFreed_of_fields (YO g3 _)),(Obj.cls_mapFields ..).trans g2,by rw[YO g3];simp[rawInt]⟩ (YM ..))⟩))
def uf{j b:Addr}{xs:Array Value}(hh:A.handled=none)(hj:s.heap.IsTupleIter j b n)(hb:s.heap.IsTuple b xs)(hy:xs[n]?=none)(k:∀h' e,Heap.ExtBut j s.heap h'->(∃o,h'.get? e=some o/\o.cls=.type "StopIteration")->E (.ref e) {s with heap:=h'}):wpAny (model prog w) A (Builtin.SmallTypes.nextOf (.ref j)) Q E s:=by
 obtain⟨u,g1,g2,g3⟩:=id hj;obtain⟨v,f1,_,q,f2⟩:=hb;unfold Builtin.SmallTypes.nextOf;refine δ (χ (name:=Str.ofString "__next__") hj.typeIs N3 (ω N3 hj.typeIs YB ?_ (YA _)));show wpAny _ _ (field (.ref j) 0 >>= _) _ _ s;refine δ (υ g1 g3 (x:=.ref b) rfl ?_);show wpAny _ _ (if (Value.ref b==Value.none)=true then _ else _) _ _ s;rw[η (show ¬ ((Value.ref b==Value.none)=true) from gZ)];show wpAny _ _ (field (.ref j) 1 >>= _) _ _ s;refine δ (υ g1 g3 (x:=.int n 0) rfl ?_);show wpAny _ _ (seqItems? (.ref b) >>= _) _ _ s;refine δ (Γ f1 f2 ?_);simp only[Dz,hy];refine δ (aak (δ (aax g1 g3 (by simp) ?_)));show wpAny _ _ (newExc (.type "StopIteration") [] >>= _) _ _ _;refine δ ?_;simp only[newExc,newTuple];refine δ (Φ ?_ (by size_fits));refine δ (m:=firstArgMember _ _) (wpAny_of_eq (a:=Value.none) (by first|rfl|(simp only[firstArgMember];rfl)) ?_);refine Φ ?_ (by size_fits);simp only[raiseNew];refine δ (wpAny_handled ?_)
 first|rw[show A.in1.handled=none from hh]|rw[hh]
 exact δ (ζ (wpAny_throw (k _ _ (((YM ..).extBut.push _).push _) ⟨_,k4 _ rfl,rfl⟩)))
end
def XO(hh:A.handled=none)(j b:Addr)(fY:b≠j)(xs:Array Value):Draws prog w A j [j,b] xs.size (λi v=>xs[i]?=some v) (λi h=>h.IsTupleIter j b i/\h.IsTuple b xs) where
 live:=λ_ _ st=>let ⟨o,ho,_⟩:=st.1;⟨o,ho⟩
 frame:=λ_ _ _ st hk=>⟨let ⟨o,e,r⟩:=st.1;⟨o,hk j (by simp) o e,r⟩,let ⟨o,e,r⟩:=st.2;⟨o,hk b (by simp) o e,r⟩⟩
 item:=λi s Q E hi st k=>AJ st.1 st.2 (y:=xs[i]) (by simp[hi]) λh' h1 h2=>k _ h' s.toks (by simp[hi]) ⟨h1,st.2.extBut h2.extBut fY⟩ h2
 done:=λs Q E st k=>uf hh st.1 st.2 (by simp) k
def XQ(hh:A.handled=none)(j b:Addr)(xs:Array Value)(i:Nat)(hi:xs[i]?=none):Draws prog w A j [j,b] i (λ_ _=>False) (λk h=>k=i/\h.IsTupleIter j b i/\h.IsTuple b xs) where
 live:=λ_ _ st=>let ⟨o,ho,_⟩:=st.2.1;⟨o,ho⟩
 frame:=λ_ _ _ st hk=>⟨st.1,let ⟨o,e,r⟩:=st.2.1;⟨o,hk j (by simp) o e,r⟩,let ⟨o,e,r⟩:=st.2.2;⟨o,hk b (by simp) o e,r⟩⟩
 item:=λk s Q E hk st _=>absurd st.1 (ki hk)
 done:=λs Q E st k=>uf hh st.2.1 st.2.2 hi k
noncomputable def Ss(K:Δ)(a:Addr):It :=
 ⟨λi H=>∃xs x,dz K H a xs/\xs[i]?=some x,λi H v H'=>∃t x,H t=none/\v=.ref t/\(∀xs,dz K H a xs->xs[i]?=some x)/\H'=upd H t (.tup [.int (i:Int),x]),λi H=>∃xs,dz K H a xs/\xs.length<=i⟩
def AK{x1}(a e it:Addr)(fY:e≠it)(hea:e≠a)(hai:a≠it) :
  Turn P w K (.Tuple elts x1 tp) (Ss K a) [e,it] e (λi h=>(∃old,IsEnum h e it (i:Int) old)/\h.IsTupleIter it a i) where
 mem:=by simp
 obj:=λi h st b hb=>by
  obtain⟨⟨old,h1⟩,o,h2,c,d⟩:=st;rcases cU.mp hb with z|z
  subst z;exact⟨_,h1,λv z=>by cases z⟩;have z':b=it:=by simpa using z
  subst z';exact⟨o,h2,λv z=>by rw[d] at z;cases z⟩
 keep:=λi h h' st k=>by obtain⟨⟨old,h1⟩,o,e2,r⟩:=st;exact⟨⟨old,k e (by simp) _ h1⟩,o,k it (by simp) o e2,r⟩
 item:=by
  intro X hP hw hK hc i γ s σ H E I hf st hg;subst hP hw hK;obtain⟨xs,x,hq,hx⟩:=hg;obtain⟨aP,rv,p,hz⟩:=I.tuple hq;obtain⟨u,hu,ru⟩:=rv.get hx;obtain⟨⟨old,h1⟩,xr⟩:=st;have hi:i<aP.toArray.size:=by simp;exact (fQ.mp hu).1
  refine wpAny_pyNext_enum_itemD (XO (show X.A.in1.handled=none from I.ok.hd hc) it a hai aP.toArray) h1 ⟨xr,p⟩ hi fY (by simp[fY,hea]) λu' h₁ tk hP Kn QZ ht₁ FC hk₁=>?_;have eu:u'=u:=by
   have Wb:aP[i]?=some u':=by simpa using hP
   rw[hu] at Wb;exact (Option.some.inj Wb).symm
  subst eu;refine⟨_,rfl,wpAny_letOwnedTupleGo_enum Kn λh₂ he₂ pP=>?_⟩;have ll:Heap.SameBut e h₁ h₂:=pP;have h9:e<s.heap.objs.size:=gu h1;have Wd:s.heap.objs.size≠e:=DA h9;have kk:∀b ob,b∉[e,it]->s.heap.get? b=some ob->h₂.get? b=some ob:=λb ob hb q=>by have DD:b≠e:=λz=>hb (by simp[z]);exact (ll.2 b DD).trans (hk₁ b ob DD (λz=>hb (by simp[z])) q)
  have new:cp X.prog X.w (upd H s.heap.objs.size (.tup [.int (i:Int),x])) h₂ s.heap.objs.size (.tup [.int (i:Int),x]) :=
   ⟨by show 2<=sizeLine;rw[μ];decide,[.int i tk,u'],.cons ⟨_,rfl⟩ (.cons ru .nil),⟨_,(ll.2 _ Wd).trans ht₁,rfl,_,rfl⟩⟩
  refine⟨.ref s.heap.objs.size,upd H s.heap.objs.size (.tup [.int (i:Int),x]),I.grown (t':=tk+1) kk hf (cS _) new,rfl,⟨_,x,I.fresh,rfl,λys hy=>by rw[I.mF hy hq];exact hx,rfl⟩,⟨⟨u',?_⟩,?_⟩,λb hb=>?_⟩;have:((i:Int)+1)=((i+1:Nat):Int):=by omega
  rw[<- this];exact he₂;obtain⟨⟨o,q,r⟩,_⟩:=QZ;exact⟨o,(ll.2 it (Ne.symm fY)).trans q,r⟩;have GB:b<s.heap.objs.size:=by
   rcases cU.mp hb with z|z
   subst z;exact h9;have z':b=it:=by simpa using z
   subst z';obtain⟨o,q,_⟩:=xr;exact gu q
  rw[aG (ki GB)];exact (hf b hb).1
 done:=by intro X hP hw hK hc i γ s σ H E I hf st hg;subst hP hw hK;obtain⟨xs,hq,hx⟩:=hg;obtain⟨aP,rv,p,hz⟩:=I.tuple hq;have hl:=rv.length;obtain⟨⟨old,h1⟩,xr⟩:=st;obtain⟨f0,f1,f2,f3,f4,f5⟩:=hf it (by simp);exact wpAny_pyNext_enum_endD (XQ (show X.A.in1.handled=none from I.ok.hd hc) it a aP.toArray i (by simp;omega)) h1 ⟨rfl,xr,p⟩ λh' eb=>⟨rfl,I.turned (t':=s.toks) (λb o hb q=>eb b o hb q) f0 f1 f3 f4 f5⟩
 self:=λ_ _ _ _ _ st h=>by obtain⟨⟨old,h1⟩,_⟩:=st;exact aao h1 h
section
noncomputable def Su(K:Δ)(ta:TA):TI:=λσ H R=>ta σ H λvs H1=>∃a,vs=[.ref a]/\(∃xs,dz K H1 a xs)/\R (Ss K a) H1
def IH{x1}{a:Expr}{ta:TA}{pos:Pos}(hg:Gl X "enumerate")(hm:X.mg "enumerate"=none)(ha:PA X [a] ta)(hs:starEach [a] X.env=[(false,eval a X.env)]:=by rfl) :
  PI X (.Tuple elts x1 tp) (.Call (.Name "enumerate" p) [a] [] pos) (Su X.K ta):=by
 intro γ s σ H R I h;refine Call_ (jh I hg hm L2.boot_enumerate (T' (b_ (ha pos γ s σ H _ I h) λus s1 ⟨vs,H1,I1,r1,q1⟩=>?_) hs rfl));obtain⟨b,e,⟨xs,hq⟩,q⟩:=q1;subst e;obtain⟨u,rfl,ru⟩:=vals1 r1;cases ru;obtain⟨aP,rv,pl,hz⟩:=I1.tuple hq;have hb:b<s1.heap.objs.size:=by obtain⟨o,ho,_⟩:=pl;exact gu ho
 refine IG pl λh' he hit hk=>aao he ?_;refine⟨s1.heap.objs.size+1,[s1.heap.objs.size+1,s1.heap.objs.size],_,_,H1,rfl,I1.kept (t':=s1.toks) hk,AK b _ _ (DA (zJ _)) (DA (Uk hb)) (ki hb),⟨⟨_,he⟩,hit⟩,λc hc=>?_,q⟩;rcases cU.mp hc with z|z
 subst z;exact I1.oy (xi _) (I1.cj.fresh (xi _));have z':c=s1.heap.objs.size:=by simpa using z
 subst z';exact I1.oy (cS _) I1.fresh
end
noncomputable def Sw(f:FE):FI:=λρ Q=>f ρ λt=>match t with
 |.tup ts=>Q (fu ts)
 |_=>False
theorem II{ts:ξ}:Wk K (Ss K a) [(.tup ts,.ref a)] (fu ts):=λH A hA h i=>by
 have h:=h _ c6;simp only[At] at h;obtain⟨b,vs,e,l,q⟩:=h;cases e;have hl:=q.length;have hle:(fu ts).length=ts.length:=by unfold fu;rw[List.length_mapIdx]
 rw[hle];refine⟨λhi=>⟨vs,vs[i]'(by omega),l,by simp⟩,λhi=>⟨vs,l,by omega⟩,λt ht x H' y=>?_⟩;obtain⟨p,u,hp,rfl,hu,rfl⟩:=y;unfold fu at ht;rw[YK] at ht;cases e:ts[i]? with
 |none=>rw[e] at ht;cases ht
 |some t'=>rw[e] at ht;cases ht;obtain⟨v,e1,e2⟩:=q.get e;have:=hu vs l;rw[e1] at this;cases this;exact⟨aA hp,bU (dz.of aC) (az.cons bz (az.cons (e2.same (aA hp)) az.nil))⟩
def IJ{a:Expr}{pos:Pos}{x1}(hg:Gl X "enumerate")(hm:X.mg "enumerate"=none)(ha:VE X Z a fa)(hs:starEach [a] X.env=[(false,eval a X.env)]:=by rfl) :
  VI X Z (.Tuple elts x1 tp) (.Call (.Name "enumerate" p) [a] [] pos) (Sw fa):=.mk λtm=>PI.weak (IH hg hm (bf (ha tm) cC hs) hs) λσ H R ⟨ρ,O,q,I,hf,k⟩=>⟨ρ,O,_,I,hf,λt ht v H' s a=>by
 split at ht;have a0:=a;simp only[At] at a;obtain⟨p,vs,rfl,l,_⟩:=a;exact⟨p,rfl,⟨vs,l⟩,k _ ht _ H' _ s (λp hp=>by rw[iD.mp hp];exact a0) II⟩;exact ht.elim⟩
def CT{ds:qag}{o:Obj}{xs:Array Value}(h1:fd.defaults=.ref a)(h2:K.lookup a=some o)(h3:o.data=.seq xs n)(hl:ps.length=m+ds.length)(h:∀us:qag,us.length=m->∃k,bindArgs fd ⟨us,[]⟩=seqItems? fd.defaults >>= k/\k (some xs)=pure (ps.zip (us++ds))):Binds K fd ps ds:=λs us KX e=>by obtain⟨k,e1,e2⟩:=h us (by rw[jf] at e;omega);exact BindsTo.of_defaults h1 (KX _ _ h2) h3 e1 e2
end VT
namespace Lay
open PySem L2 VT Gen K5
section
noncomputable def elO(kd:Nat->Kd):Nat->Nat->Option Nat
 |0,_=>none
 |k+1,j=>if (kd k).el=true/\Et kd k=some j then some k else elO kd k j
noncomputable def adD(rs:qal)(j:Nat):Option Nat:=elO (ez rs) rs.length j
noncomputable def Sx(rs:qal)(o:Nat):Int:=match endsAt (ez rs) rs.length o with
 |some e=>(e:Int)
 |none=>0
noncomputable def hdI(rs:qal)(j:Nat):Nat:=(Et (ez rs) j).getD 0
noncomputable def noI(rs:qal)(j:Nat):Int:=match rs[j]? with
 |some (.HK _)=>Sx rs j+1
 |_=>match adD rs j with
  |none=>Sx rs j
  |some x=>(x:Int)+1
noncomputable def bhI(rs:qal)(j:Nat):Int:=match rs[j]? with
 |some .UC=>Sx rs (hdI rs j)
 |some .fin=>match rs[hdI rs j]? with
  |some (.HK _)=>(hdI rs j:Int)
  |_=>(j:Int)+1
 |_=>(j:Int)+1
end
end Lay
namespace BS
open PySem PySem.Builtin PyProof.Rows
def ib(x:Int)(k:Nat):Bool:=decide (x / 2 ^ k % 2=1)
def sub(y x:Int):Prop:=∀k,ib y k=true->ib x k=true
def below(m:Nat)(x:Int):Prop:=0<=x/\x<2 ^ m
def sw(EG:qan):Nat->Int->Int
 |0,x=>x
 |k+1,x=>if ib (sw EG k x) k=true then bitOr (sw EG k x) (EG.getD k 0) else sw EG k x
def rounds(EG:qan):Nat->Int->Int
 |0,x=>x
 |t+1,x=>sw EG EG.length (rounds EG t x)
def mem(x:Int):qao:=(List.range (Builtin.Int.intBits x)).filter (ib x)
def lst(EG:qan)(x:Int):Int:=rounds EG EG.length x
end BS
namespace BS
open PySem PySem.Builtin
end BS
namespace Lay
open PySem L2 VT Gen K5 BS
open PySem.Builtin (bitOr)
end Lay
namespace S30
open PySem L2 VT Gen K5 Lay BS
open PySem.Builtin (bitOr)
def Sy(a c:Nat)(f:Str)(ps:π)(body:qal)(o:ij):qal:=List.replicate a .skip++(.df f ps::(body++(.give o::List.replicate c .skip)))
end S30
set_option exponentiation.threshold 4000
namespace Rg
open PySem L2 VT Gen K5 Lay
open nP (c_)
open kR (Vl vT nm dQ RI)
def xg(h:n<=1000):n<=sizeLine:=Gen.small h
def IK(i:Int):RI (dQ i):=by unfold RI dQ;omega
def Ph(h:n+101<cLine):n+3<cLine:=by omega
def Sz:RI 0:=by unfold RI;decide
def RI1:RI 1:=by unfold RI;decide
theorem l9{α β:Type}(f:α->β):∀(ks:List Key)(is:List α)(k:Key),cw ks (is.map f) k=(cw ks is k).map f
 |[],is,k=>by cases is<;>rfl
 |a::ks,[],k=>rfl
 |a::ks,i::is,k=>by simp only[fU,cw];split;rfl;exact l9 f ks is k
def ip(f:α->β)(ks:List Key)(is:List α)(k:Key)(v:α):bO ks (is.map f) k (f v)=(bO ks is k v).map f:=by
 unfold bO;split;rw[ZP,List.map_zipWith]
 congr 1
 funext a b;split<;>rfl;simp
def iq(ks:List Key)(is:List α)(k:Key)(v:α):(bO ks is k v).length<=is.length+1:=by unfold bO;split;rw[UY];omega;simp
def EH{is:List α}{k:Key}{v i:α}(h:i∈bO ks is k v):i∈is\/i=v:=by
 unfold bO at h;split at h;rw[List.mem_iff_getElem?] at h;obtain⟨j,hj⟩:=h;rw[YI] at hj;cases e1:ks[j]? with
 |none=>rw[e1] at hj;cases hj
 |some a=>
  cases e2:is[j]? with
  |none=>rw[e1,e2] at hj;cases hj
  |some b=>rw[e1,e2] at hj;have FJ:(if a=k then v else b)=i:=Option.some.inj hj;split at FJ;exact .inr FJ.symm;exact .inl (by rw[<- FJ];exact eS e2)
 rcases cK.mp h with z|z
 exact .inl z;exact .inr (iD.mp z)
theorem yL{α:Type}:∀{ks:List Key}{is:List α}{k:Key}{v:α},cw ks is k=some v->v∈is
 |[],is,k,v,h=>by cases is<;>cases h
 |a::ks,[],k,v,h=>by cases h
 |a::ks,i::is,k,v,h=>by simp only[cw] at h;split at h;cases h;exact c6;exact fJ _ (yL h)
structure Ev where
 ks:List Key
 is:List Vl
noncomputable def Ev.ts(e:Ev):ξ:=e.is.map vT
noncomputable def Ev.get(e:Ev)(x:Str):Vl:=(cw e.ks e.is (.inr x)).getD (.num 0)
noncomputable def Ev.put(e:Ev)(x:Str)(v:Vl):Ev:=⟨dP e.ks (.inr x),bO e.ks e.is (.inr x) v⟩
noncomputable def ev0:Ev:=⟨[],[]⟩
def SA(e:Ev)(x:Str):(cw e.ks e.ts (.inr x)).getD (.int 0)=vT (e.get x):=by unfold Ev.ts Ev.get;rw[l9];cases cw e.ks e.is (.inr x)<;>rfl
def AL(e:Ev)(x:Str)(v:Vl):bO e.ks e.ts (.inr x) (vT v)=(e.put x v).ts:=ip vT e.ks e.is (.inr x) v
def d_(v:Vl):bQ (vT v)=true:=by cases v<;>rfl
def RV(v:Vl):Prop:=RI (nm v)
structure iw(e:Ev)(n:Nat):Prop where
 n:e.is.length<=n
 ri:∀i∈e.is,RV i
def iw.put{e:Ev}(h:iw e n)(x:Str){v:Vl}(hv:RV v):iw (e.put x v) (n+1):=by
 refine⟨?_,λi hi=>?_⟩;have:=iq e.ks e.is (.inr x) v;have:=h.n;show (bO e.ks e.is (.inr x) v).length<=n+1;omega;rcases EH hi with z|z
 exact h.ri i z;rw[z];exact hv
def iw.get{e:Ev}{n:Nat}(h:iw e n)(x:Str):RV (e.get x):=by
 unfold Ev.get;cases g:cw e.ks e.is (.inr x) with
 |none=>exact Sz
 |some v=>exact h.ri v (yL g)
noncomputable def look(e:Ev):ij->Vl
 |.nm x=>e.get x
 |.nu i=>.num i
def rW:ij->Prop
 |.nm x=>c_ x=true/\x.length<=100
 |.nu i=>RI i
def Pj:Ky->Prop
 |.fld x=>c_ x=true/\x.length<=50
 |.op o=>rW o
theorem iw.look{e:Ev}(h:iw e n){o:ij}(ho:rW o):RV (look e o):=by
 cases o with
 |nm x=>exact h.get x
 |nu i=>exact ho
noncomputable def rkI(op:Str)(x y:Int):Option Int :=
 if op="plus" then some (dQ (x+y)) else if op="minus" then some (dQ (x-y)) else if op="times" then some (dQ (x * y)) else if op="less" then some (if x<y then 1 else 0) else if op="same" then some (if x=y then 1 else 0)
 else if y=0 then none else if op="over" then some (dQ (x.fdiv y)) else some (dQ (x.fmod y))
noncomputable def XR(op:Str)(a b:Vl):Option Int:=if op="same" then some (if a=b then 1 else 0) else rkI op (nm a) (nm b)
def SD{op:Str}{x y v:Int}(h:rkI op x y=some v):RI v:=by
 unfold rkI at h
 repeat' split at h
 all_goals (cases h)
 all_goals first|exact IK _|exact Sz|exact RI1
def SE{op:Str}{a b:Vl}{v:Int}(h:XR op a b=some v):RI v:=by
 unfold XR at h;split at h;cases h;split<;>first|exact Sz|exact RI1
 exact SD h
noncomputable def oV:Option Vl->T
 |some v=>vT v
 |none=>.aQ
def AO(o:Option Vl):bQ (oV o)=true:=by cases o<;>first|rfl|exact d_ _
structure Fr where
 call:Option Nat
 ev:Ev
structure Ct where
 ks:List Key
 is:qan
noncomputable def Ct.ts(c:Ct):ξ:=c.is.map .int
noncomputable def Ct.get(c:Ct)(p:Nat):Int:=(cw c.ks c.is (.inl (p:Int))).getD 0
noncomputable def Ct.up(c:Ct)(p:Nat):Ct:=⟨dP c.ks (.inl (p:Int)),bO c.ks c.is (.inl (p:Int)) (c.get p+1)⟩
def IL(c:Ct)(p:Nat):(cw c.ks c.ts (.inl (p:Int))).getD (.int 0)=.int (c.get p):=by unfold Ct.ts Ct.get;rw[l9];cases cw c.ks c.is (.inl (p:Int))<;>rfl
def XS(c:Ct)(p:Nat):bO c.ks c.ts (.inl (p:Int)) (.int (c.get p+1))=(c.up p).ts:=ip T.int c.ks c.is (.inl (p:Int)) (c.get p+1)
structure Ce where
 ks:List (List Key×Key)
 is:List Vl
noncomputable def Ce.ts(c:Ce):ξ:=c.is.map vT
noncomputable def Ce.get(c:Ce)(k:List Key×Key):Vl:=(gT c.ks c.is k).getD (.num 0)
noncomputable def Ce.put(c:Ce)(k:List Key×Key)(v:Vl):Ce:=⟨lZ c.ks k,eV c.ks c.is k v⟩
noncomputable def Ce.at'(c:Ce):Option (List Key×Key)->Vl
 |some k=>c.get k
 |none=>.num 0
noncomputable def Ce.IM(c:Ce)(v:Vl):Option (List Key×Key)->Ce
 |some k=>c.put k v
 |none=>c
noncomputable def Ce.s(nh:List Key×Key->Int)(c:Ce):S:=.dc nh c.ks c.ts
theorem yM{α β:Type}(f:α->β):∀(ks:List (List Key×Key))(is:List α)(k:List Key×Key),gT ks (is.map f) k=(gT ks is k).map f
 |[],is,k=>by cases is<;>rfl
 |a::ks,[],k=>rfl
 |a::ks,i::is,k=>by simp only[fU,gT];split;rfl;exact yM f ks is k
def EI(f:α->β)(ks:List (List Key×Key))(is:List α)(k:List Key×Key)(v:α):eV ks (is.map f) k (f v)=(eV ks is k v).map f:=by
 unfold eV;split;rw[ZP,List.map_zipWith]
 congr 1
 funext a b;split<;>rfl;simp
def SF(c:Ce)(k:List Key×Key):(gT c.ks c.ts k).getD (.int 0)=vT (c.get k):=by unfold Ce.ts Ce.get;rw[yM];cases gT c.ks c.is k<;>rfl
def SG(c:Ce)(k:List Key×Key)(v:Vl):eV c.ks c.ts k (vT v)=(c.put k v).ts:=EI vT c.ks c.is k v
def EJ(ks:List (List Key×Key))(is:List α)(k:List Key×Key)(v:α):(eV ks is k v).length<=is.length+1:=by unfold eV;split;rw[UY];omega;simp
def EK{ks:List (List Key×Key)}{is:List α}{k:List Key×Key}{v i:α}(h:i∈eV ks is k v):i∈is\/i=v:=by
 unfold eV at h;split at h;rw[List.mem_iff_getElem?] at h;obtain⟨j,hj⟩:=h;rw[YI] at hj;cases e1:ks[j]? with
 |none=>rw[e1] at hj;cases hj
 |some a=>
  cases e2:is[j]? with
  |none=>rw[e1,e2] at hj;cases hj
  |some b=>rw[e1,e2] at hj;have FJ:(if a=k then v else b)=i:=Option.some.inj hj;split at FJ;exact .inr FJ.symm;exact .inl (by rw[<- FJ];exact eS e2)
 rcases cK.mp h with z|z
 exact .inl z;exact .inr (iD.mp z)
theorem yN{α:Type}:∀{ks:List (List Key×Key)}{is:List α}{k:List Key×Key}{v:α},gT ks is k=some v->v∈is
 |[],is,k,v,h=>by cases is<;>cases h
 |a::ks,[],k,v,h=>by cases h
 |a::ks,i::is,k,v,h=>by simp only[gT] at h;split at h;cases h;exact c6;exact fJ _ (yN h)
def nC(c:Ce)(n:Nat):Prop:=c.is.length<=n/\∀v∈c.is,RV v
def nC.get{c:Ce}{n:Nat}(h:nC c n)(k:List Key×Key):RV (c.get k):=by
 unfold Ce.get;cases g:gT c.ks c.is k with
 |none=>exact Sz
 |some v=>exact h.2 v (yN g)
def nC.put{c:Ce}(h:nC c n)(k:List Key×Key){v:Vl}(hv:RV v):nC (c.put k v) (n+1):=by
 refine⟨?_,λi hi=>?_⟩;have:=EJ c.ks c.is k v;have:=h.1;show (eV c.ks c.is k v).length<=n+1;omega;rcases EK hi with z|z
 exact h.2 i z;rw[z];exact hv
noncomputable def yO(v:Vl):T:=.tup [.str "done",vT v]
noncomputable def XT:T:=.tup [.str "fault",.str "zero"]
noncomputable def l_:T:=.tup [.str "cut",.int 0]
noncomputable def XU(w:Str):T:=.tup [.str "fault",.str w]
noncomputable def Nc:Ky->List ij
 |.fld _=>[]
 |.op o=>[o]
noncomputable def gC:Rw->List ij
 |.df _ ps=>ps.map .nm
 |.put _ a=>[a]
 |.give a=>[a]
 |.My a=>[a]
 |.HK a=>[a]
 |.kJ _ a _ b=>[a,b]
 |.call _ _ as=>as
 |.get _ r k=>.nm r::Nc k
 |.set r k a=>.nm r::(Nc k++[a])
 |_=>[]
noncomputable def cellK(e:Ev)(r:Str)(k:Ky):Option (List Key×Key):=match e.get r with
 |.mC p n=>some ([.inl p,.inl n],match k with
  |.fld x=>.inr (((".":String):Str)++x)
  |.op o=>.inl (nm (look e o)))
 |.num _=>none
noncomputable def IP(e:Ev)(ce:Ce)(c:Ct)(p:Nat):Rw->Option Vl
 |.get _ r k=>some (ce.at' (cellK e r k))
 |.set _ _ a=>some (look e a)
 |.put _ a=>some (look e a)
 |.give a=>some (look e a)
 |.kJ _ a op b=>(XR op (look e a) (look e b)).map .num
 |.new _=>some (.mC p (c.get p))
 |.My a=>some (.num (if look e a=.num 0 then 0 else 1))
 |.HK a=>some (.num (if look e a=.num 0 then 0 else 1))
 |_=>none
noncomputable def CU(e:Ev)(ce:Ce)(c:Ct)(p:Nat)(r:Rw):T:=.tup [.int (p:Int),.tup ((gC r).map λo=>vT (look e o)),oV (IP e ce c p r)]
noncomputable def bw(ps:π)(gs:List Vl):Nat->Ev
 |0=>ev0
 |k+1=>match ps[k]? with
  |some x=>(bw ps gs k).put x (gs.getD k (.num 0))
  |none=>bw ps gs k
structure Lv where
 fs:List Fr
 f:Fr
 ce:Ce
 ct:Ct
 dn:ξ
 pl:Nat
abbrev Res:=List T×T
noncomputable def yP:Rw->Bool
 |.UC=>true
 |.fin=>true
 |.skip=>true
 |_=>false
noncomputable def CV(s:Lv)(x:Str)(v:Vl)(d:T):Lv:={s with f:={s.f with ev:=s.f.ev.put x v},dn:=s.dn++[d],pl:=s.pl+1}
noncomputable def cP(rs:qal)(r:Rw)(s:Lv):Lv ⊕ Res :=
 let e:=s.f.ev
 let d:=CU e s.ce s.ct s.pl r
 match r with
 |.df _ _=>.inl {s with dn:=s.dn++[d],pl:=s.pl+1}
 |.put x a=>.inl (CV s x (look e a) d)
 |.kJ x a op b=>match XR op (look e a) (look e b) with
  |none=>.inr (s.dn++[d],XT)
  |some v=>.inl (CV s x (.num v) d)
 |.new x=>.inl (CV {s with ct:=s.ct.up s.pl} x (.mC s.pl (s.ct.get s.pl)) d)
 |.My a=>.inl {s with dn:=s.dn++[d],pl:=if look e a=.num 0 then (noI rs s.pl).toNat else s.pl+1}
 |.HK a=>.inl {s with dn:=s.dn++[d],pl:=if look e a=.num 0 then (noI rs s.pl).toNat else s.pl+1}
 |.get x r k=>.inl (CV s x (s.ce.at' (cellK e r k)) d)
 |.set r k a=>.inl {s with ce:=s.ce.IM (look e a) (cellK e r k),dn:=s.dn++[d],pl:=s.pl+1}
 |.fail w=>.inr (s.dn++[d],XU w)
 |.give a=>match s.f.call,s.fs.getLast? with
  |some c,some g=>match rs[c]? with
   |some (.call x _ _)=>.inl {fs:=s.fs.dropLast,f:={g with ev:=g.ev.put x (look e a)},ce:=s.ce,ct:=s.ct,dn:=s.dn++[d],pl:=c+1}
   |_=>.inr (s.dn,l_)
  |_,_=>.inr (s.dn++[d],yO (look e a))
 |.call _ g as=>match n_ (aV rs rs.length) g with
  |some p=>match rs[p]? with
   |some (.df _ ps)=>.inl {fs:=s.fs++[s.f],f:=⟨some s.pl,bw ps (as.map (look e)) ps.length⟩,ce:=s.ce,ct:=s.ct,dn:=s.dn++[d],pl:=p}
   |_=>.inr (s.dn,l_)
  |none=>.inr (s.dn,l_)
 |_=>.inr (s.dn,l_)
noncomputable def qR(rs:qal)(most:Nat)(s:Lv):Lv ⊕ Res:=match rs[s.pl]? with
 |none=>.inr (s.dn,l_)
 |some r=>if yP r=true then .inl {s with pl:=(bhI rs s.pl).toNat} else if most<=s.dn.length then .inr (s.dn,l_) else cP rs r s
noncomputable def xh(cF:Addr)(f:Fr):S:=.ins cF qaE [.lf (oT f.call),.dk f.ev.ks f.ev.ts]
noncomputable def XW(cF:Addr)(f:Fr):T:=.ins cF qaE [oT f.call,.dk f.ev.ks f.ev.ts]
noncomputable def eB(cM cF:Addr)(L:T)(most:Int)(pk:T)(fr:List Fr)(ce:S)(ct:Ct)(dn:ξ)(pl en:T):S:=.ins cM mN [.lf L,.lf (.int most),.lf pk,.lst (fr.map (xh cF)),ce,.dk ct.ks ct.ts,.lst (dn.map .lf),.lf pl,.lf en]
noncomputable def UI(cM cF:Addr)(L:T)(most:Int)(pk:T)(fr:List Fr)(ce:S)(ct:Ct)(dn:ξ)(pl en:T):T:=.ins cM mN [L,.int most,pk,.lst (fr.map (XW cF)),ce.t,.dk ct.ks ct.ts,.lst dn,pl,en]
theorem Pk(cF:Addr):∀fr:List Fr,S.ts (fr.map (xh cF))=fr.map (XW cF)
 |[]=>by simp[S.ts]
 |e::fr=>by simp[S.ts,Pk cF fr,xh,XW,S.t]
theorem Pl:∀dn:ξ,S.ts (dn.map .lf)=dn
 |[]=>by simp[S.ts]
 |e::fr=>by simp[S.ts,Pl fr,S.t]
section
variable{cM cF:Addr}{L:T}{most:Int}{pk:T}{fr fs:List Fr}{f:Fr}{ce:S}{ct:Ct}{dn:ξ}{pl en:T}
def ix:(eB cM cF L most pk fr ce ct dn pl en).t=UI cM cF L most pk fr ce ct dn pl en:=by unfold eB UI;simp only[S.t,S.ts,Pk,Pl]
def Pm(C:Addr)(f:Str)(ns:π)(xs:List S):(S.ins C ns xs).W4 (.fld C f)=kB f ns:=by show (if C=C then kB f ns else none)=_;rw[ε rfl]
def ug{f:Str}{ns:π}{x:S}{ps:List kA}(h1:kB f ns=some i)(h2:xs[i]?=some x):(S.ins C ns xs).get (.fld C f::ps)=x.get ps:=by rw[S.get,Pm,h1];show (match xs[i]? with|some x=>x.get ps|none=>none)=_;rw[h2]
def uh{f:Str}{ns:π}{x y:S}{ps:List kA}(h1:kB f ns=some i)(h2:xs[i]?=some x):(S.ins C ns xs).put (.fld C f::ps) y=.ins C ns (xs.set i (x.put ps y)):=by rw[S.put,Pm,h1];show (match xs[i]? with|some x=>S.ins C ns (xs.set i (x.put ps y))|none=>_)=_;rw[h2]
def Pn(xs:List S)(x:S):(S.lst (xs++[x])).W4 .last=some xs.length:=by show (if 0<(xs++[x]).length then some ((xs++[x]).length-1) else none)=_;rw[ε (by simp)];simp
def XY{x:S}{ps:List kA}:(S.lst (xs++[x])).get (.last::ps)=x.get ps:=by rw[S.get,Pn];show (match (xs++[x])[xs.length]? with|some x=>x.get ps|none=>none)=_;rw[rY (cS _),Nat.sub_self];rfl
def XZ{x y:S}{ps:List kA}:(S.lst (xs++[x])).put (.last::ps) y=.lst (xs++[x.put ps y]):=by rw[S.put,Pn];show (match (xs++[x])[xs.length]? with|some z=>S.lst ((xs++[x]).set xs.length (z.put ps y))|none=>S.lst (xs++[x]))=_;rw[rY (cS _),Nat.sub_self];show S.lst ((xs++[x]).set xs.length (x.put ps y))=_;rw[List.set_append_right _ _ (cS _),Nat.sub_self];rfl
def yQ(s:S):s.get []=some s:=by cases s<;>rfl
def yR(s y:S):s.put [] y=y:=by cases s<;>rfl
def IQ:(eB cM cF L most pk fr ce ct dn pl en).get [.fld cM "frames"]=some (.lst (fr.map (xh cF))):=by unfold eB;rw[ug (i:=3) rfl rfl,yQ]
def IS{fr':List Fr}:(eB cM cF L most pk fr ce ct dn pl en).put [.fld cM "frames"] (.lst (fr'.map (xh cF)))=eB cM cF L most pk fr' ce ct dn pl en:=by unfold eB;rw[uh (i:=3) rfl rfl,yR];rfl
def IT:(eB cM cF L most pk fr ce ct dn pl en).get [.fld cM "cells"]=some ce:=by unfold eB;rw[ug (i:=4) rfl rfl,yQ]
def SH{KJ:S}:(eB cM cF L most pk fr ce ct dn pl en).put [.fld cM "cells"] KJ=eB cM cF L most pk fr KJ ct dn pl en:=by unfold eB;rw[uh (i:=4) rfl rfl,yR];rfl
def IU:(eB cM cF L most pk fr ce ct dn pl en).get [.fld cM "counts"]=some (.dk ct.ks ct.ts):=by unfold eB;rw[ug (i:=5) rfl rfl,yQ]
def SI{p:Nat}:(eB cM cF L most pk fr ce ct dn pl en).put [.fld cM "counts"] (.dk (dP ct.ks (.inl (p:Int))) (bO ct.ks ct.ts (.inl (p:Int)) (.int (ct.get p+1))))=eB cM cF L most pk fr ce (ct.up p) dn pl en:=by unfold eB;rw[uh (i:=5) rfl rfl,yR,XS];rfl
def IV:(eB cM cF L most pk fr ce ct dn pl en).get [.fld cM "doings"]=some (.lst (dn.map .lf)):=by unfold eB;rw[ug (i:=6) rfl rfl,yQ]
def SJ{t:T}:(eB cM cF L most pk fr ce ct dn pl en).put [.fld cM "doings"] (.lst (dn.map .lf++[.lf t]))=eB cM cF L most pk fr ce ct (dn++[t]) pl en:=by unfold eB;rw[uh (i:=6) rfl rfl,yR,oS];rfl
def IW:(eB cM cF L most pk (fs++[f]) ce ct dn pl en).get [.fld cM "frames",.last,.fld cF "names"]=some (.dk f.ev.ks f.ev.ts):=by unfold eB;rw[ug (i:=3) rfl rfl,oS];show S.get (.lst (fs.map (xh cF)++[xh cF f])) _=_;rw[XY];unfold xh;rw[ug (i:=1) rfl rfl,yQ]
def SK{v:Vl}:(eB cM cF L most pk (fs++[f]) ce ct dn pl en).put [.fld cM "frames",.last,.fld cF "names"] (.dk (dP f.ev.ks (.inr x)) (bO f.ev.ks f.ev.ts (.inr x) (vT v)))=eB cM cF L most pk (fs++[{f with ev:=f.ev.put x v}]) ce ct dn pl en:=by
 unfold eB;rw[oS,uh (i:=3) (x:=.lst (fs.map (xh cF)++[xh cF f])) rfl rfl,XZ];show S.ins cM mN (List.set _ 3 (.lst (fs.map (xh cF)++[(xh cF f).put _ _])))=_;have e:(xh cF f).put [.fld cF "names"] (.dk (dP f.ev.ks (.inr x)) (bO f.ev.ks f.ev.ts (.inr x) (vT v)))=xh cF {f with ev:=f.ev.put x v}:=by unfold xh;rw[uh (i:=1) rfl rfl,yR,AL];rfl
 rw[e,oS];rfl
end
def v5:Rw->Prop
 |.df _ ps=>ps.length<=50/\∀x∈ps,c_ x=true/\x.length<=100
 |.put _ a=>rW a
 |.give a=>rW a
 |.kJ _ a op b=>rW a/\op="plus"/\rW b
 |.get _ r k=>rW (.nm r)/\Pj k
 |.set r k a=>rW (.nm r)/\Pj k/\rW a
 |.new _=>True
 |.call _ _ as=>as.length<=50/\∀o∈as,rW o
 |_=>False
structure Wl(rs:qal):Prop where
 wf:Xq rs
 ok:∀r∈rs,v5 r
 gv:∃l o,rs=l++[.give o]
 D:vM rs
 n:rs.length<=100
inductive gU(rs:qal):List Fr->Fr->Prop
 |main {f:Fr} (h:f.call=none):gU rs [] f
 |sub {gs:List Fr} {g f:Fr} {c:Nat} {x h:Str} {as:List ij} (hc:f.call=some c) (hr:rs[c]?=some (.call x h as)) (k:gU rs gs g):gU rs (gs++[g]) f
def gU.inv{fs:List Fr}{f:Fr}(h:gU rs fs f):(fs=[]/\f.call=none)\/∃(gs:List Fr)(g:Fr)(c:Nat)(x y:Str)(as:List ij),fs=gs++[g]/\f.call=some c/\rs[c]?=some (.call x y as)/\gU rs gs g:=by
 cases h with
 |main h=>exact .inl ⟨rfl,h⟩
 |sub hc hr k=>exact .inr ⟨_,_,_,_,_,_,rfl,hc,hr,k⟩
def gU.same{fs:List Fr}{f g:Fr}(h:gU rs fs f)(e:g.call=f.call):gU rs fs g:=by
 obtain⟨rfl,h1⟩|⟨gs,g',c,x,y,as,rfl,h1,h2,h4⟩:=h.inv
 exact .main (e.trans h1);exact .sub (e.trans h1) h2 h4
structure AQ(rs:qal)(s:Lv):Prop where
 pl:s.pl<rs.length
 fs:∀g∈s.fs,iw g.ev (100+s.dn.length)
 nf:s.fs.length<=s.dn.length
 ca:gU rs s.fs s.f
 ev:iw s.f.ev (100+s.dn.length)
 ce:nC s.ce s.dn.length
 ct:s.ct.is.length<=s.dn.length
def iw.up{e:Ev}(h:iw e n)(hm:n<=m):iw e m:=⟨by have:=h.n;omega,h.ri⟩
def nC.up{c:Ce}(h:nC c n)(hm:n<=m):nC c m:=⟨by have:=h.1;omega,h.2⟩
theorem v7(ps:π)(gs:List Vl)(hg:∀g∈gs,RV g):∀k,iw (bw ps gs k) k
 |0=>⟨cS _,λi hi=>nomatch hi⟩
 |k+1=>by
  have ih:=v7 ps gs hg k;unfold bw;split;refine ih.put _ ?_;rw[List.getD];cases e:gs[k]? with
  |none=>exact Sz
  |some g=>exact hg g (eS e)
  exact ih.up (by omega)
def IX(e:Ev)(ce:Ce)(c:Ct)(p:Nat)(r:Rw):bQ (CU e ce c p r)=true:=by unfold CU;have:dC ((gC r).map λo=>vT (look e o))=true:=eM (f:=λo=>vT (look e o)) (λo=>d_ _) _;simp only[bQ,dC,this,AO,N_]
theorem qS:∀{a b:ξ},dC a=true->dC b=true->dC (a++b)=true
 |[],b,_,h=>h
 |t::a,b,h1,h2=>by simp only[dC,oR] at h1;simp only[FZ,dC,h1.1,qS h1.2 h2,N_]
section
def Wl.next(W:Wl rs)(hr:rs[j]?=some r)(h:∀o,r≠.give o):j+1<rs.length:=by
 obtain⟨l,o,rfl⟩:=W.gv;have hj:=(fQ.mp hr).1;rw[jf] at hj ⊢;rcases Nat.lt_or_ge j l.length with z|z
 show j+1<l.length+1;omega;rw[rY z] at hr;have e:j-l.length=0:=by have:j<l.length+1:=hj;omega
 rw[e] at hr;exact absurd (Option.some.inj hr).symm (h o)
theorem ma(W:Wl rs){s:Lv}(I:AQ rs s)(hr:rs[s.pl]?=some r):match cP rs r s with
  |.inl s'=>AQ rs s'/\s'.dn=s.dn++[CU s.f.ev s.ce s.ct s.pl r]
  |.inr R=>R.1=s.dn++[CU s.f.ev s.ce s.ct s.pl r]/\bQ R.2=true/\nT R.2=false:=by
 have v8:=W.ok r (eS hr);have e1:∀d:T,(s.dn++[d]).length=s.dn.length+1:=λd=>by simp
 have IY:=I.ev;have SM:s.ct.is.length<=s.dn.length+1:=Nat.le_succ_of_le I.ct;have all:∀(e':Ev)(KJ:Ce)(FT:Ct)(d:T),(∀o,r≠.give o)->iw e' (100+(s.dn.length+1))->nC KJ (s.dn.length+1)->FT.is.length<=s.dn.length+1->AQ rs ⟨s.fs,⟨s.f.call,e'⟩,KJ,FT,s.dn++[d],s.pl+1⟩:=λe' KJ FT d hg h1 h2 h3=>⟨W.next hr hg,λg hg=>by rw[e1];exact (I.fs g hg).up (xi _),by rw[e1];exact Nat.le_succ_of_le I.nf,I.ca.same rfl,by rw[e1];exact h1,by rw[e1];exact h2,by rw[e1];exact h3⟩;have Po:nC s.ce (s.dn.length+1):=I.ce.up (xi _);cases r with
 |df f ps=>exact⟨all _ _ _ _ (λ_ z=>nomatch z) (IY.up (xi _)) Po SM,rfl⟩
 |put x a=>exact⟨all _ _ _ _ (λ_ z=>nomatch z) (IY.put x (IY.look v8)) Po SM,rfl⟩
 |get x y k=>
   refine⟨all _ _ _ _ (λ_ z=>nomatch z) (IY.put x ?_) Po SM,rfl⟩;cases cellK s.f.ev y k with
   |none=>exact Sz
   |some c=>exact I.ce.get c
 |set y k a=>
   refine⟨all _ (s.ce.IM (look s.f.ev a) (cellK s.f.ev y k)) _ _ (λ_ z=>nomatch z) (IY.up (xi _)) ?_ SM,rfl⟩;cases cellK s.f.ev y k with
   |none=>exact Po
   |some c=>exact I.ce.put c (IY.look v8.2.2)
 |kJ x a op b=>obtain⟨_,rfl,_⟩:=v8;exact⟨all _ _ _ _ (λ_ z=>nomatch z) (IY.put x (SE (op:="plus") (a:=look s.f.ev a) (b:=look s.f.ev b) rfl)) Po SM,rfl⟩
 |new x=>exact⟨all _ _ (s.ct.up s.pl) _ (λ_ z=>nomatch z) (IY.put x Sz) Po (fM (iq s.ct.ks s.ct.is (.inl (s.pl:Int)) (s.ct.get s.pl+1)) (Nat.succ_le_succ I.ct)),rfl⟩
 |give a=>
   have hv:=IY.look v8;obtain⟨h0,h1⟩|⟨gs,g,c,x,y,as,h0,h1,h2,h4⟩:=I.ca.inv
   unfold cP;dsimp only;rw[h1];exact⟨rfl,by show bQ (.tup [.str "done",vT _])=true;simp only[bQ,dC,d_,N_],rfl⟩
   . have ed:cP rs (.give a) s=.inl {fs:=gs,f:={g with ev:=g.ev.put x (look s.f.ev a)},ce:=s.ce,ct:=s.ct,dn:=s.dn++[CU s.f.ev s.ce s.ct s.pl (.give a)],pl:=c+1}:=by unfold cP;dsimp only;rw[h1,h0,List.getLast?_concat];dsimp only;rw[h2,Uj]
     rw[ed];refine⟨⟨W.next h2 (λ_ z=>nomatch z),λg' hg=>?_,?_,h4.same rfl,?_,?_,?_⟩,rfl⟩;show iw g'.ev (100+(s.dn++[_]).length);rw[e1];exact (I.fs g' (by rw[h0];exact cA _ hg)).up (xi _);show gs.length<=(s.dn++[_]).length;have:=I.nf;rw[h0,jf] at this;rw[e1];omega;show iw (g.ev.put x (look s.f.ev a)) (100+(s.dn++[_]).length);rw[e1];exact (I.fs g (by rw[h0];simp)).put x hv;show nC s.ce (s.dn++[_]).length;rw[e1];exact Po;show s.ct.is.length<=(s.dn++[_]).length;rw[e1];exact SM
 |call x g as=>
   obtain⟨p,ps,q1,q2,q3⟩:=W.D.ca s.pl x g as hr;have ef:=W.D.first q2
   have SN:=W.ok _ (eS q2);have hp:=(fQ.mp q2).1;have ed:cP rs (.call x g as) s=.inl {fs:=s.fs++[s.f],f:=⟨some s.pl,bw ps (as.map (look s.f.ev)) ps.length⟩,ce:=s.ce,ct:=s.ct,dn:=s.dn++[CU s.f.ev s.ce s.ct s.pl (.call x g as)],pl:=p}:=by unfold cP;dsimp only;rw[ef];dsimp only;rw[q2]
   rw[ed];refine⟨⟨hp,λg' hg=>?_,?_,.sub rfl hr I.ca,?_,?_,?_⟩,rfl⟩;show iw g'.ev (100+(s.dn++[_]).length);rw[e1];rcases cK.mp hg with z|z
   exact (I.fs g' z).up (xi _);rw[iD.mp z];exact IY.up (xi _);show (s.fs++[s.f]).length<=(s.dn++[_]).length;rw[e1,jf];exact Nat.succ_le_succ I.nf;show iw (bw ps (as.map (look s.f.ev)) ps.length) (100+(s.dn++[_]).length);refine (v7 ps _ (λv hv=>?_) ps.length).up (by have:=SN.1;omega);obtain⟨o,ho,rfl⟩:=rS.mp hv;exact IY.look (v8.2 o ho);show nC s.ce (s.dn++[_]).length;rw[e1];exact Po;show s.ct.is.length<=(s.dn++[_]).length;rw[e1];exact SM
 |_=>exact v8.elim
def IZ(h:v5 r):yP r=false:=by cases r<;>first|rfl|exact h.elim
inductive Pp(rs:qal)(most:Nat):Nat->Lv->Res->Prop
 |fin {s:Lv} {R:Res} (h:qR rs most s=.inr R):Pp rs most 0 s R
 |go {n:Nat} {s s':Lv} {R:Res} (h:qR rs most s=.inl s') (k:Pp rs most n s' R):Pp rs most (n+1) s R
def pb(W:Wl rs){most:Nat}{s:Lv}(I:AQ rs s):∃r,rs[s.pl]?=some r/\qR rs most s=if most<=s.dn.length then .inr (s.dn,l_) else cP rs r s:=by refine⟨_,mz I.pl,?_⟩;unfold qR;rw[mz I.pl];dsimp only;rw[η (by rw[IZ (W.ok _ (P_ I.pl))];exact gZ)]
def yS(W:Wl rs){most:Nat}{s s':Lv}(I:AQ rs s)(h:qR rs most s=.inl s'):AQ rs s'/\s'.dn.length<=most/\(dC s.dn=true->dC s'.dn=true):=by obtain⟨r,hr,e⟩:=pb (most:=most) W I;rw[e] at h;split at h;cases h;have:=ma W I hr;rw[h] at this;obtain⟨h1,h2⟩:=this;refine⟨h1,by rw[h2,jf];show _+1<=_;omega,λhi=>?_⟩;rw[h2];exact qS hi (by simp only[dC,IX,N_])
def Pp.tells(W:Wl rs){most:Nat}{s:Lv}{R:Res}(h:Pp rs most n s R):AQ rs s->dC s.dn=true->dC R.1=true/\bQ R.2=true/\nT R.2=false:=by
 induction h with
 |@fin s R h=>intro I hi;obtain⟨r,hr,e⟩:=pb (most:=most) W I;rw[e] at h;split at h;cases h;exact⟨hi,rfl,rfl⟩;have:=ma W I hr;rw[h] at this;obtain⟨h1,h2,h3⟩:=this;rw[h1];exact⟨qS hi (by simp only[dC,IX,N_]),h2,h3⟩
 |@go n s s' R h k ih=>intro I hi;obtain⟨I',_,Ku⟩:=yS W I h;exact ih I' (Ku hi)
end
end Rg
namespace Rg
open PySem L2 VT Gen K5 Lay
open nP (c_)
open Nx (Ig)
open Nm (j7 CF)
open UD (CI CH jw)
open kR (Vl vT nm KI qI Zm XB Il Ij dQ RI)
noncomputable def top(i:Nat):Stmt:=PySem.Challenge.pw_slicewise_k15_calls.main.body.getD i (.Pass ⟨0,0,0,0⟩)
noncomputable abbrev md:Stmt:=inClass (top 34) 0
noncomputable abbrev iy:Stmt:=inClass (top 35) 0
noncomputable abbrev v_:Stmt:=top 36
noncomputable abbrev kS:Stmt:=top 37
noncomputable abbrev nD:Stmt:=top 38
noncomputable abbrev gh:Stmt:=top 39
noncomputable abbrev gW:Stmt:=top 40
noncomputable abbrev jD:Stmt:=top 41
noncomputable abbrev gX:Stmt:=top 45
noncomputable abbrev iU:Stmt:=top 42
noncomputable abbrev iV:Stmt:=top 43
noncomputable abbrev gY:Stmt:=top 44
noncomputable abbrev nE:Stmt:=top 32
noncomputable abbrev kT:Stmt:=top 49
noncomputable abbrev wa:Stmt:=top 50
noncomputable abbrev gM:Stmt:=top 52
noncomputable abbrev gi:Stmt:=top 51
structure MgR(mg:qae):Prop where
 len:mg "len"=none
 enumerate:mg "enumerate"=none
 tuple:mg "tuple"=none
structure UJ(K:Δ)(C:Addr):Prop where
 cl:zW K C
 I9:bp K C "call"
 me:bp K C "names"
structure AR(K:Δ)(C:Addr):Prop where
 cl:zW K C
 gj:bp K C "layout"
 I_:bp K C "most"
 wb:bp K C "poke"
 jE:bp K C "frames"
 wc:bp K C "cells"
 mf:bp K C "counts"
 jF:bp K C "doings"
 dW:bp K C "place"
 mh:bp K C "ended"
def Ja(C:Addr)(ts:ξ)(q:T->Prop):Prop:=∃t1 t2,ts=[t1,t2]/\q (.ins C qaE [t1,t2])
def X0(cM cF:Addr)(ts:ξ)(q:qam):Prop:=∃a L most pk fs f ce ct dn pl en o n,ts=[.pin a (UI cM cF L most pk (fs++[f]) ce ct dn pl en),gf o]/\rW o/\iw f.ev n/\n<=1000000/\q (.vw (vT (look f.ev o)))
abbrev RdR:=v5
noncomputable def ckO:Option (List Key×Key)->T
 |none=>.aQ
 |some c=>FR c
def we(ts:ξ)(q:qam):Prop:=∃(e:Ev)(r:Str)(k:Ky)(l:List ij),ts=[AD k,.tup ((ij.nm r::(Nc k++l)).map λo=>vT (look e o))]/\Pj k/\q (.vw (ckO (cellK e r k)))
def CW(cM cF:Addr)(nh:List Key×Key->Int)(ts:ξ)(q:qam):Prop:=∃a L most pk fr ce ct dn p en e r n,ts=[.pin a (UI cM cF L most pk fr (Ce.s nh ce) ct dn (.int ((p:Nat):Int)) en),bu r,.tup ((gC r).map λo=>vT (look e o))]/\RdR r/\(∀o∈gC r,rW o)/\iw e n/\q (.vw (oV (IP e ce ct p r)))
structure UK(rs:qal)(j:Nat)(r:Rw):Prop where
 at':rs[j]?=some r
 o:Nx.R_ r
def nF(cM cF cL:Addr)(us:ξ)(s:S)(q:S->T->Prop):Prop:=∃rs r j most pk fr ce ct dn u1 u2 u3,us=[u1,u2,u3]/\s=eB cM cF (cT cL rs) most pk fr ce ct dn (.int ((j:Nat):Int)) .aQ/\UK rs j r/\q (eB cM cF (cT cL rs) most pk fr ce ct dn (.int ((j+1:Nat):Int)) .aQ) .aQ
def mkN:Rw->Str->Prop
 |.put y _,x=>y=x
 |.get y _ _,x=>y=x
 |.kJ y _ _ _,x=>y=x
 |.new y,x=>y=x
 |.call y _ _,x=>y=x
 |_,_=>False
def jG(cM cF cL:Addr)(us:ξ)(s:S)(q:S->T->Prop):Prop:=∃rs r j most pk fs f ce ct dn u2 x v,us=[bu r,u2,vT v]/\bQ u2=true/\s=eB cM cF (cT cL rs) most pk (fs++[f]) ce ct dn (.int ((j:Nat):Int)) .aQ/\UK rs j r/\mkN r x/\f.ev.is.length<=1000000/\q (eB cM cF (cT cL rs) most pk (fs++[{f with ev:=f.ev.put x v}]) ce ct dn (.int ((j+1:Nat):Int)) .aQ) .aQ
def qT{o:ij}(h:rW o):Nm.kM (gf o)=false:=by
 cases o with
 |nm x=>have:=nP.sh (nP.uP h.1);show (Txt.startswith x "." && _)=false;rw[this];rfl
 |nu i=>rfl
def wg{o:ij}(h:rW o):Nm.ym (gf o):=by
 cases o with
 |nm x=>exact .inl ⟨x,rfl,h.2⟩
 |nu i=>exact .inr ⟨i,rfl⟩
def CY(x:Str):(((".":String):Str)++x).length=x.length+1:=by show (((".":String):Str).cps++x.cps).size=_;rw[Array.size_append,show (((".":String):Str).cps).size=1 by decide +kernel,Nat.add_comm];rfl
def Nd(a b:Vl):Zm .plus (nm a) (nm b)=oV ((XR (qI .plus) a b).map .num):=rfl
section
variable{aw cFrame aq:Addr}
noncomputable abbrev Nf:π:=qaF
def yT:aE Nf qaF (aj md):=L2.g9
def Jb(D:Dc K mg "Frame" "Frame.__init__" md qaF cFrame f fd)(M:UJ K cFrame):Ht P w K mg base "Frame" cFrame qaF 1 2 (Ja cFrame):=by
 refine D.hJ (fnI D.F yT rfl λbB A outer s H E as Ox hr us q hl hG=>?_);have nd:=yT.nd;have bX:=M;refine⟨_,(ah (iP 0 bX.cl bX.I9 (ai 1))
  (ax (iP 0 bX.cl bX.me (ai 2)))),?_⟩
 obtain⟨t1,t2,rfl,hq⟩:=hG;exact⟨rfl,by show 0<1000;decide,rfl,by show 1<1000;decide,hq⟩
noncomputable abbrev AS:π:=qaG
def oj:aE AS qaG (aj kS):=L2.g9
def yU(D:Df K mg "value_of" kS qaG f fd)(M:AR K aq)(M1:UJ K cFrame)(nv:bW P w K mg base "is_name" qav 1 (di K 1 j7)):bW P w K mg base "value_of" qaG 2 (di K 2 (X0 aq cFrame)):=by
 refine D.hJ (oH D.F oj rfl λbB A outer s H E Ox hr ts q hG=>?_);have nd:=oj.nd;have hu:=bF.iN hr;have af:=M;have bX:=M1;have rX:=j9 hu;refine⟨_,(ax (aT (qau (pT (eF (aM nv hr (ae (ai 1) ar))) (vA rX (θ (br bX.cl bX.me (θ (aI (θ (br af.cl af.jE (bV (aa 0)))) (θ (pU (θ ag))))))) (aa 1) (ψ ag) ⟨rfl,rfl,rfl,rfl⟩) (VE.vp (ai 1)))))),λ_=>?_⟩;obtain⟨a,L,most,pk,fs,f0,ce,ct,dn,pl,en,o,n,rfl,ho,he,hn,hq⟩:=hG;cases o with
 |nm x=>
  refine⟨rfl,.str x,rfl,rfl,(λy z=>by cases z;have:=ho.2;omega),?_⟩;refine LV (c:=CF (.str x)) ho.1 ?_;have el:km ((fs++[f0]).map (XW cFrame)) (-1)=some (XW cFrame f0):=by rw[oS];exact L2.lh _ _
  refine⟨rfl,_,rfl,_,el,rfl,_,rfl,?_⟩;show q (.vw ((cw f0.ev.ks f0.ev.ts (.inr x)).getD (.int 0)));rw[SA];exact hq
 |nu i=>refine⟨rfl,.int i,rfl,rfl,(λy z=>by cases z),?_⟩;exact hq
noncomputable abbrev EL:π:=qaH
def qU:aE EL qaH (aj nE):=L2.g9
def AU(D:Df K mg "cell_of" nE qaH f fd)(M:MgR mg)(jB:bW P w K mg base "is_record" qaA 1 (di K 1 kR.Sf))(kP:bW P w K mg base "is_field" qav 2 (di K 1 Nm.Ax))(gK:bW P w K mg base "number_of" qaA 2 (di K 1 kR.gNm)):bW P w K mg base "cell_of" qaH 3 (di K 2 we):=by
 refine D.hJ (oH D.F qU rfl λbB A outer s H E Ox hr ts q hG=>?_);have nd:=qU.nd;refine⟨_,(ah (bJ (mR (eF (aM jB hr (ae (ψ (aI (aa 1) (θ ag))) ar))))
    (ax (aT (qau c7)))
    aZ)
   (ax (aT (qau (bA (ae (ψ (aI (aa 1) (θ ag))) (ae (ψ (pT (eF (aM kP hr (ae (ai 0) ar))) (VE.vp (ai 0)) (aM gK hr (ae (ψ (aI (aa 1) (θ ag))) ar)))) ar))))))),λ_=>?_⟩
 obtain⟨e,r,k,l,rfl,hk,hq⟩:=hG;unfold cellK at hq;refine⟨_,aaB,rfl,e.get r,rfl,?_⟩;cases hv:e.get r with
 |num i=>rw[hv] at hq;exact hq
 |mC p n=>
   rw[hv] at hq;have hvT:vT (look e (.nm r))=.tup [.int p,.int n]:=by show vT (e.get r)=_;rw[hv];rfl
   cases k with
   |fld x=>
     have hf:Nm.kM (AD (.fld x))=true:=by show nP.pQ (((".":String):Str)++x)=true;unfold nP.pQ;rw[nP.tR,hk.1,Bool.and_true];exact nP.pR x
     refine m8 (c:=false) rfl ?_;refine⟨_,aaB,rfl,_,rfl,.inl ⟨_,rfl,by rw[CY];have:=hk.2;omega⟩,?_⟩;refine LV hf ?_;have gQ:q (.vw (.tup [vT (look e (.nm r)),AD (.fld x)])):=by rw[hvT];exact hq
     exact⟨Gen.cR rfl,gQ⟩
   |op o=>
     have hf:Nm.kM (AD (.op o))=false:=qT hk;refine m8 (c:=false) rfl ?_;refine⟨_,aaB,rfl,_,rfl,wg hk,?_⟩;refine m8 hf ?_;have gQ:q (.vw (.tup [vT (look e (.nm r)),.int (nm (look e o))])):=by rw[hvT];exact hq
     exact⟨_,aaC,rfl,look e o,rfl,Gen.cR rfl,gQ⟩
noncomputable abbrev EM:π:=["machine","row","used","word"]
def qV:aE EM qaI (aj nD):=L2.g9
def AV(D:Df K mg "made_by" nD qaI f fd)(M:AR K aq)(AW:bW P w K mg base "reckoned" qaC 3 (di K 3 Il))(nG:bW P w K mg base "cell_of" qaH 3 (di K 2 we)):bW P w K mg base "made_by" qaI 4 (di K 3 (CW aq cFrame (NK.bC P w))):=by
 refine D.hJ (oH D.F qV rfl λbB A outer s H E Ox hr ts q hG=>?_);have nd:=qV.nd;have hu:=bF.iN hr;have np:∀{i:Nat},bN ⟨H,[],Ox⟩ i:=mB;have af:=M;have rX:=j9 hu;have hu3:=Ph hu;refine⟨_,(ah (aX (i:=3) nd rfl (.inl rfl) (qau (aI (aa 1) (θ ag))) np)
  (ah (bJ (de hu (aa 3) (θ a9))
   (ax (aT (qau (aM AW hr (ae (ψ (aI (aa 2) (θ ag))) (ae (ψ (aI (aa 1) (θ ag))) (ae (ψ (aI (aa 2) (θ ag))) ar)))))))
   aZ)
  (ah (bJ (de hu (aa 3) (θ a9))
   (ax (aT (qau (bA (ae (ψ (br af.cl af.dW (bV (aa 0)))) (ae (ψ (vA rX (θ (br af.cl af.mf (bV (aa 0)))) (θ (br af.cl af.dW (bV (aa 0)))) (ψ ag) ⟨rfl,rfl,rfl,rfl⟩)) ar))))))
   aZ)
  (ah (bJ (de hu (aa 3) (θ a9))
   (ax (aT (qau (Sq hu3 (θ (br af.cl af.wc (bV (aa 0)))) (θ (aM nG hr (ae (ψ (aI (aa 1) (θ ag))) (ae (ai 2) ar)))) (ψ ag) ⟨rfl,rfl,rfl,rfl⟩))))
   aZ)
  (ah (bJ (tV (aa 3) (θ (bA (ae (ψ a9) (ae (ψ a9) ar)))))
   nz
   aZ)
  (ax (aT (qau (pT (tV (aa 3) (θ (bA (ae (ψ a9) (ae (ψ a9) (ae (ψ a9) ar)))))) (aI (aa 2) (θ (pU (θ ag)))) c7))))))))),λ_=>?_⟩
 obtain⟨a,L,most,pk,fr,ce,ct,dn,p,en,e,r,n,rfl,hk,oO,he,hq⟩:=hG;cases r with
 |df f' ps=>exact⟨_,aaB,Gen.cR rfl,rfl,rfl,Gen.cR rfl,rfl,rfl,hq⟩
 |call x g as=>exact⟨_,aaB,Gen.cR rfl,rfl,rfl,Gen.cR rfl,rfl,rfl,hq⟩
 |put x a=>exact⟨_,aaB,Gen.cR rfl,rfl,rfl,Gen.cR rfl,rfl,rfl,_,rfl,hq⟩
 |give a=>exact⟨_,aaB,Gen.cR rfl,rfl,rfl,Gen.cR rfl,rfl,rfl,_,rfl,hq⟩
 |set y k b=>refine⟨_,aaB,Gen.cR rfl,rfl,rfl,Gen.cR rfl,rfl,rfl,_,?_,hq⟩;show km ((ij.nm y::(Nc k++[b])).map λo=>vT (look e o)) (-1)=some (vT (look e b));rw[<- FZ,oS];exact L2.lh _ _
 |get x y k=>
  refine⟨_,aaB,rfl,_,rfl,rfl,_,aaE,rfl,e,y,k,[],by rw[xc];rfl,hk.2,?_⟩;have gQ:q (.vw (vT (ce.at' (cellK e y k)))):=hq;cases hc:cellK e y k with
  |none=>rw[hc] at gQ;exact .inl ⟨rfl,gQ⟩
  |some c=>rw[hc] at gQ;refine .inr ⟨c,rfl,?_⟩;show q (.vw ((gT ce.ks ce.ts c).getD (.int 0)));rw[SF];exact gQ
 |kJ x a op b=>obtain⟨_,rfl,_⟩:=hk;have h1:=he.look (oO a (by simp[gC]));have h2:=he.look (oO b (by simp[gC]));exact⟨_,aaB,_,aaB,_,aaE,_,aaC,rfl,_,_,.plus,.inl rfl,rfl,h1,h2,by rw[Nd];exact hq⟩
 |new x=>refine⟨_,aaB,rfl,_,rfl,rfl,_,rfl,rfl,_,rfl,?_⟩;show [T.int (p:Int),(cw ct.ks ct.ts (.inl (p:Int))).getD (.int 0)].length<=sizeLine/\q (.vw (.tup [T.int (p:Int),(cw ct.ks ct.ts (.inl (p:Int))).getD (.int 0)]));rw[IL];exact⟨Gen.cR rfl,hq⟩
 |_=>exact hk.elim
end
end Rg
namespace Rg
open PySem L2 VT Gen K5 Lay
open Nx (Ig)
open kR (Vl vT nm dQ RI)
theorem zF:∀{ρ:En},(ρ.all λe=>match e with|some (_,true)=>false|_=>true)=true->∀e∈ρ,fE e:=λ{ρ} h e he=>by
 have:=P9.mp h e he
 match e,this with
 |none,_=>trivial
 |some (t,false),_=>cases t<;>trivial
def eO{t:T}(h:bQ t=true):jV (some (t,false))=some (t,false):=by show (if bQ t=true then some (t,false) else none)=_;rw[ε h]
def SO(b:Option T):fE (vwO b):=by
 cases b with
 |none=>trivial
 |some t=>cases t<;>trivial
theorem X1{s:S}(h:∀e∈ρ,fE e):∀e∈kD M ρ s,fE e:=λe he=>by
 unfold kD at he;rcases Ua he with z|z
 obtain⟨e0,h0,rfl⟩:=rS.mp z;have:=h e0 h0
 match e0,this with
 |none,_=>trivial
 |some (t,true),q=>exact q
 |some (t,false),_=>show fE (if bQ t=true then some (t,false) else none);by_cases hi:bQ t=true;rw[ε hi];cases t<;>trivial;rw[η hi];trivial
 rw[z];trivial
def AX{d:OW}{ρ':En}{s s':S}(e:s=s')(hρ:kD M ρ s'=ρ')(h:d.nx ρ' s'):d.nx (kD M ρ s) s:=by rw[e,hρ];exact h
def Pq{F:En->S->Prop}{ρ':En}{s s':S}(e:s=s')(hρ:kD M ρ s'=ρ')(h:F ρ' s'):F (kD M ρ s) s:=by rw[e,hρ];exact h
def Ng{d:OW}{ρ':En}{s s':S}{t:T}(e:s=s')(hρ:kD M ρ s'=ρ')(h:d.nx (ρ'.set j (some (t,false))) s'):d.nx ((kD M ρ s).set j (some (t,false))) s:=by rw[e,hρ];exact h
def X2{d:OW}{s s':S}(e:s=s')(h:d.nx (kD M ρ s') s'):d.nx (kD M ρ s) s:=by rw[e];exact h
abbrev SQ:=jG
def Jc(cM cF cL:Addr)(us:ξ)(s:S)(q:S->T->Prop):Prop:=∃rs r j most pk fs f ce ct dn u2 x v,us=[bu r,u2,vT v]/\bQ u2=true/\s=eB cM cF (cT cL rs) most pk (fs++[f]) ce ct dn (.int ((j:Nat):Int)) .aQ/\UK rs j r/\mkN r x/\f.ev.is.length<=1000000/\ct.is.length<=1000000/\q (eB cM cF (cT cL rs) most pk (fs++[{f with ev:=f.ev.put x v}]) ce (ct.up j) dn (.int ((j+1:Nat):Int)) .aQ) .aQ
def AY(cM cF cL:Addr)(us:ξ)(s:S)(q:S->T->Prop):Prop:=∃rs j f ps gs most pk fr ce ct dn p0 c g,us=[.int ((j:Nat):Int),oT c,g]/\(g=.lst (gs.map vT)\/g=.tup (gs.map vT))/\s=eB cM cF (cT cL rs) most pk fr ce ct dn p0 .aQ/\rs[j]?=some (.df f ps)/\ps.length<=100/\fr.length<=1000000 /\
 q (eB cM cF (cT cL rs) most pk (fr++[⟨c,bw ps gs ps.length⟩]) ce ct dn (.int ((j:Nat):Int)) .aQ) .aQ
def AZ(cM cF cL:Addr)(us:ξ)(s:S)(q:S->T->Prop):Prop:=∃rs j p x g as f ps gs most pk fr ce ct dn u3,us=[bu (.call x g as),.tup (gs.map vT),u3]/\s=eB cM cF (cT cL rs) most pk fr ce ct dn (.int ((j:Nat):Int)) .aQ/\n_ (aV rs rs.length) g=some p/\rs[p]?=some (.df f ps)/\ps.length<=100/\fr.length<=1000000 /\
 q (eB cM cF (cT cL rs) most pk (fr++[⟨some j,bw ps gs ps.length⟩]) ce ct dn (.int ((p:Nat):Int)) .aQ) .aQ
def A0(cM cF cL:Addr)(us:ξ)(s:S)(q:S->T->Prop):Prop:=∃rs most pk fs f ce ct dn pl u1 u2 v,us=[u1,u2,vT v]/\bQ u2=true/\s=eB cM cF (cT cL rs) most pk (fs++[f]) ce ct dn pl .aQ /\
 ((f.call=none/\q (eB cM cF (cT cL rs) most pk fs ce ct dn pl (yO v)) .aQ)\/∃c gs g r x,f.call=some c/\fs=gs++[g]/\UK rs c r/\mkN r x/\g.ev.is.length<=1000000/\q (eB cM cF (cT cL rs) most pk (gs++[{g with ev:=g.ev.put x v}]) ce ct dn (.int ((c+1:Nat):Int)) .aQ) .aQ)
def Jd(cM cF cL:Addr)(nh:List Key×Key->Int)(us:ξ)(s:S)(q:S->T->Prop):Prop:=∃rs x k a j most pk fr ce ct dn e v,us=[bu (.set x k a),.tup ((gC (.set x k a)).map λo=>vT (look e o)),vT v]/\Pj k/\s=eB cM cF (cT cL rs) most pk fr (Ce.s nh ce) ct dn (.int ((j:Nat):Int)) .aQ/\UK rs j (.set x k a)/\ce.is.length<=1000000 /\
 q (eB cM cF (cT cL rs) most pk fr (Ce.s nh (ce.IM v (cellK e x k))) ct dn (.int ((j+1:Nat):Int)) .aQ) .aQ
def CZ(k:Key):bQ (RT k)=true:=by cases k<;>rfl
def Nh(c:List Key×Key):bQ (FR c)=true:=by unfold FR;simp only[bQ,dC,CZ,Bool.and_true];exact eM (f:=RT) CZ c.1
def Je(c:Option Nat):bQ (oT c)=true:=by cases c<;>rfl
def iQ(h:rs[j]?=some r):km (rs.map bu) (j:Int)=some (bu r):=ak (by rw[hU,h];rfl)
theorem mi(ps:π)(gs:List Vl):∀k,(bw ps gs k).is.length<=k
 |0=>cS _
 |k+1=>by have ih:=mi ps gs k;unfold bw;split;have:=iq (bw ps gs k).ks (bw ps gs k).is (.inr ‹Str›) (gs.getD k (.num 0));exact fM this (by omega);omega
section
variable{aw cFrame aq:Addr}
noncomputable abbrev qW:π:=qaJ
def jb:aE qW qaJ (aj gh):=L2.g9
def oP(D:Df K mg "follow_plain" gh qaJ f fd)(M:AR K aq)(wj:bW P w K mg base "row_behind" qay 1 (di K 2 (Ig aw))):bW P w K mg base "follow_plain" qaJ 2 (jW K 3 (nF aq cFrame aw)):=by refine D.hJ (KG D.F jb rfl (by decide) λbB A outer s H E M0 qF hr us s0 q hG hl=>?_);obtain⟨A1,kU,zG,a0,wm⟩:=M0;have nS:wm=0:=qF;subst nS;have nd:=jb.nd;have af:=M;refine⟨_,(cb (qu af.cl af.dW (λ_=>(ψ (aM wj hr (ae (ψ (br af.cl af.gj (bV (aa 0)))) (ae (ψ (br af.cl af.dW (bV (aa 0)))) ar))))) rfl)),?_⟩;obtain⟨rs,r,j,most,pk,fr,ce,ct,dn,u1,u2,u3,rfl,rfl,h,hq⟩:=hG;rw[ix];refine⟨rfl,_,rfl,rfl,_,rfl,rfl,rs,j,r,rfl,h.o,h.at',rfl,zF rfl,_,_,7,_,rfl,(by show 9<1000;decide),rfl,rfl,hq⟩
noncomputable abbrev sN:π:=qaJ
def jH:aE sN qaJ (aj gW):=L2.g9
def qX(D:Df K mg "follow_name" gW qaJ f fd)(M:AR K aq)(M1:UJ K cFrame)(dy:bW P w K mg base "follow_plain" qaJ 2 (jW K 3 (nF aq cFrame aw))):bW P w K mg base "follow_name" qaJ 3 (jW K 3 (jG aq cFrame aw)):=by
 refine D.hJ (KG D.F jH rfl (by decide) λbB A outer s H E M0 qF hr us s0 q hG hl=>?_);obtain⟨A1,kU,zG,a0,wm⟩:=M0;have nS:wm=0:=qF;subst nS;have nd:=jH.nd;have hu:=bF.iN hr;have rX:=j9 hu;have af:=M;have bX:=M1;refine⟨_,(cv (CA rX (jv bX.cl bX.me (Mo (jv af.cl af.jE (kF)) W6)) (λ_=>(θ (aI (aa 1) (θ ag)))) (λ_=>(ai 3)))
  (cb (eJ dy hr (λ_=>(ae (ai 1) (ae (ai 2) (ae (ai 3) ar)))) rfl))),?_⟩
 obtain⟨rs,r,j,most,pk,fs,f0,ce,ct,dn,u2,x,v,rfl,i2,rfl,h,hx,hn,hq⟩:=hG;have hi:=lJ r;obtain⟨y,l,er⟩:∃y l,bu r=.tup (.str y::.str x::l):=by cases r<;>first|exact hx.elim|(cases hx;exact⟨_,_,rfl⟩)
 rw[ix,er];rw[er] at hi;refine⟨⟨_,IW⟩,_,aaC,d_ v,zF rfl,_,_,IW,(by show (f0.ev.ts).length<_;unfold Ev.ts;rw[cJ];omega),?_⟩;refine AX (ρ':=[some (.pin a0 (eB aq cFrame (cT aw rs) most pk (fs++[{f0 with ev:=f0.ev.put x v}]) ce ct dn (.int (j:Int)) .aQ).t,false),some (.tup (.str y::.str x::l),false),some (u2,false),some (vT v,false)]) (SK (x:=x) (v:=v)) ?_ ?_;show [_,jV (some (.tup (.str y::.str x::l),false)),jV (some (u2,false)),jV (some (vT v,false))]=_;rw[eO hi,eO i2,eO (d_ v)];exact⟨zF rfl,rfl,rs,r,j,most,pk,_,ce,ct,dn,_,_,_,rfl,rfl,h,hq⟩
noncomputable abbrev yV:π:=qaJ
def mj:aE yV qaJ (aj jD):=L2.g9
def wo(D:Df K mg "follow_do" jD qaJ f fd)(M:AR K aq)(cH:bW P w K mg base "follow_name" qaJ 3 (jW K 3 (jG aq cFrame aw))):bW P w K mg base "follow_do" qaJ 4 (jW K 3 (SQ aq cFrame aw)):=by
 refine D.hJ (KG D.F mj rfl (by decide) λbB A outer s H E M0 qF hr us s0 q hG hl=>?_);obtain⟨A1,kU,zG,a0,wm⟩:=M0;have nS:wm=0:=qF;subst nS;have nd:=mj.nd;have af:=M;refine⟨_,(cb (t5 (λ_=>(xY (aa 3) (θ c7)))
  nA
  (cb (eJ cH hr (λ_=>(ae (ai 1) (ae (ai 2) (ae (ai 3) ar)))) rfl)))),?_⟩
 obtain⟨rs,r,j,most,pk,fs,f0,ce,ct,dn,u2,x,v,rfl,i2,rfl,h,hx,hn,hq⟩:=hG;have hv:nT (vT v)=false:=by cases v<;>rfl
 refine m8 (c:=nT (vT v)) hv ?_;exact⟨zF rfl,rfl,rs,r,j,most,pk,fs,f0,ce,ct,dn,u2,x,v,rfl,i2,rfl,h,hx,hn,hq⟩
noncomputable abbrev wq:π:=qaJ
def kf:aE wq qaJ (aj iU):=L2.g9
def sO(D:Df K mg "follow_new" iU qaJ f fd)(M:AR K aq)(cH:bW P w K mg base "follow_name" qaJ 3 (jW K 3 (jG aq cFrame aw))):bW P w K mg base "follow_new" qaJ 4 (jW K 3 (Jc aq cFrame aw)):=by
 refine D.hJ (KG D.F kf rfl (by decide) λbB A outer s H E M0 qF hr us s0 q hG hl=>?_);obtain⟨A1,kU,zG,a0,wm⟩:=M0;have nS:wm=0:=qF;subst nS;have nd:=kf.nd;have hu:=bF.iN hr;have rX:=j9 hu;have af:=M;refine⟨_,(cv (CA rX (jv af.cl af.mf (kF)) (λ_=>(θ (br af.cl af.dW (bV (aa 0))))) (λ_=>(ψ (bS (θ (vA rX (θ (br af.cl af.mf (bV (aa 0)))) (θ (br af.cl af.dW (bV (aa 0)))) (ψ ag) ⟨rfl,rfl,rfl,rfl⟩)) (θ ag)))))
  (cb (eJ cH hr (λ_=>(ae (ai 1) (ae (ai 2) (ae (ai 3) ar)))) rfl))),?_⟩
 obtain⟨rs,r,j,most,pk,fs,f0,ce,ct,dn,u2,x,v,rfl,i2,rfl,h,hx,hn,hc,hq⟩:=hG;rw[ix];refine⟨rfl,_,rfl,rfl,_,rfl,?_⟩;dsimp only[vy,fT,fC,Rt.t];rw[IL];refine⟨⟨_,IU⟩,rfl,_,rfl,rfl,zF rfl,_,_,IU,(by show ct.ts.length<_;unfold Ct.ts;rw[cJ];omega),?_⟩;refine Pq (F:=CC ⟨A1,kU,zG,a0,0⟩ 3 (jG aq cFrame aw) (dI (mQ 1) (dI (mQ 2) (dI (mQ 3) oE))) _) (ρ':=[some (.pin a0 (eB aq cFrame (cT aw rs) most pk (fs++[f0]) ce (ct.up j) dn (.int (j:Int)) .aQ).t,false),some (bu r,false),some (u2,false),some (vT v,false)]) (SI (p:=j)) ?_ ?_;show [_,jV (some (bu r,false)),jV (some (u2,false)),jV (some (vT v,false))]=_;rw[eO (lJ r),eO i2,eO (d_ v)];exact⟨zF rfl,rfl,rs,r,j,most,pk,fs,f0,_,_,dn,_,x,v,rfl,i2,rfl,h,hx,hn,hq⟩
noncomputable abbrev wt:π:=["machine","row","used","made","cell"]
def kg:aE wt qaJ (aj iV):=L2.g9
def sP(D:Df K mg "follow_set" iV qaJ f fd)(M:AR K aq)(nG:bW P w K mg base "cell_of" qaH 3 (di K 2 we))(dy:bW P w K mg base "follow_plain" qaJ 2 (jW K 3 (nF aq cFrame aw))):bW P w K mg base "follow_set" qaJ 4 (jW K 3 (Jd aq cFrame aw (NK.bC P w))):=by
 refine D.hJ (KG D.F kg rfl (by decide) λbB A outer s H E M0 qF hr us s0 q hG hl=>?_);obtain⟨A1,kU,zG,a0,wm⟩:=M0;have nS:wm=0:=qF;subst nS;have nd:=kg.nd;have hu:=bF.iN hr;have af:=M;have hu3:=Ph hu;refine⟨_,(cv (eI λ_=>(aX (i:=4) nd rfl (.inl rfl) (qau (aM nG hr (ae (ψ (aI (aa 1) (θ ag))) (ae (ai 2) ar)))) mB))
  (cv (t5 (λ_=>(xZ (aa 4) (θ c7)))
   (cb (M' hu3 (jv af.cl af.wc (kF)) (λ_=>(aa 4)) (λ_=>(ai 3))))
   Mn)
  (cb (eJ dy hr (λ_=>(ae (ai 1) (ae (ai 2) (ae (ai 3) ar)))) rfl)))),?_⟩
 obtain⟨rs,x,k,a,j,most,pk,fr,ce,ct,dn,e,v,rfl,hk,rfl,h,hn,hq⟩:=hG;have iu:bQ (.tup ((gC (.set x k a)).map λo=>vT (look e o)))=true:=by simp only[bQ];exact eM (f:=λo=>vT (look e o)) (λo=>d_ _) _
 have ir:=lJ (.set x k a);refine⟨_,aaD,rfl,e,x,k,[a],rfl,hk,rfl,?_⟩;cases hc:cellK e x k with
 |none=>rw[hc] at hq;exact⟨zF rfl,rfl,rs,_,j,most,pk,fr,_,ct,dn,_,_,_,rfl,rfl,h,hq⟩
 |some c=>
  rw[hc] at hq;refine⟨⟨_,IT⟩,c,rfl,d_ v,zF rfl,ce.ks,ce.ts,IT,(by show ce.ts.length<_;unfold Ce.ts;rw[cJ];omega),?_⟩;have hp:(eB aq cFrame (cT aw rs) most pk fr (Ce.s (NK.bC P w) ce) ct dn (.int (j:Int)) .aQ).put [.fld aq "cells"] (.dc (NK.bC P w) (lZ ce.ks c) (eV ce.ks ce.ts c (vT v)))=eB aq cFrame (cT aw rs) most pk fr (Ce.s (NK.bC P w) (ce.put c v)) ct dn (.int (j:Int)) .aQ:=by rw[SH,SG];rfl
  refine Pq (F:=CC ⟨A1,kU,zG,a0,0⟩ 3 (nF aq cFrame aw) (dI (mQ 1) (dI (mQ 2) (dI (mQ 3) oE))) _) (ρ':=[some (.pin a0 (eB aq cFrame (cT aw rs) most pk fr (Ce.s (NK.bC P w) (ce.put c v)) ct dn (.int (j:Int)) .aQ).t,false),some (bu (.set x k a),false),some (.tup ((gC (.set x k a)).map λo=>vT (look e o)),false),some (vT v,false),some (FR c,false)]) hp ?_ ?_;show [_,jV (some (bu (.set x k a),false)),jV (some (.tup ((gC (.set x k a)).map λo=>vT (look e o)),false)),jV (some (vT v,false)),jV (some (FR c,false))]=_;rw[eO ir,eO iu,eO (d_ v),eO (Nh c)];exact⟨zF rfl,rfl,rs,_,j,most,pk,fr,_,ct,dn,_,_,_,rfl,rfl,h,hq⟩
noncomputable abbrev Ni:π:=["machine","place","call","given","names","at","name"]
def yW:aE Ni qaK (aj v_):=L2.g9
def Jf(D:Df K mg "enter" v_ qaK f fd)(M:MgR mg)(M1:AR K aq)(M2:UJ K cFrame)(M3:O5 K aw)(Nj:Ht P w K mg base "Frame" cFrame qaF 1 2 (Ja cFrame)):bW P w K mg base "enter" qaK 3 (jW K 3 (AY aq cFrame aw)):=by
 obtain⟨Zp,X3,Nk,Nl,Nn,Np⟩:=Nj;refine D.hJ (KG D.F yW rfl (by decide) λbB A outer s H E M0 qF hr us s0 q hG hl=>?_);obtain⟨A1,kU,zG,a0,wm⟩:=M0;have nS:wm=0:=qF;subst nS;have nd:=yW.nd;have hu:=bF.iN hr;have rX:=j9 hu;have af:=M1;have bX:=M2;have aB:=M3;refine⟨_,(cv (eI λ_=>(eX (i:=4) nd rfl (.inl rfl) (qau vz) mB))
  (cv (eI λ_=>(ku KS rfl (IJ (by rfl) M.enumerate (ψ (aI (θ (aI (θ (br aB.cl aB.fS (θ (br af.cl af.gj (bV (aa 0)))))) (aa 1))) (θ ag)))) (mV (n:=2) rfl (cY (bt (i:=5) nd rfl (.inl rfl) mB) (cY (bt (i:=6) nd rfl (.inl rfl) mB) jS)))
   (ax (vB 4 rX (ψ (pT (xK (aa 5) (θ (bq bh bj (by rfl) M.len pA (aJ (aa 3) aW)))) (aI (aa 3) (aa 5)) ag)) (aa 6)))))
  (cv (Mv (i:=2) (n:=4) (jv af.cl af.jE (kF)) (R4 Nk Np (λt1 t2 q hq=>⟨t1,t2,rfl,hq⟩) (hr.mono (by decide)) (by rfl) Nl Nn))
  (cb (qu af.cl af.dW (λ_=>(ai 1)) rfl))))),?_⟩
 obtain⟨rs,j,f',ps,gs,most,pk,fr,ce,ct,dn,p0,c,g,rfl,hg,rfl,eR,Xl,Zf,hq⟩:=hG;rw[ix];refine⟨by rw[ix];rfl,?_⟩;refine⟨rfl,_,rfl,rfl,_,rfl,_,iQ eR,_,aaD,?_⟩;show pW (fu (ps.map T.str)) _ _ _ [some (.pin a0 (UI aq cFrame (cT aw rs) most pk fr ce ct dn p0 .aQ),false),some (.int (j:Int),false),some (oT c,false),some (g,false),some (.dk [] [],true),none,none];refine t8 (f:=T.str) (λi ρ=>∃b5 b6,ρ=[some (.pin a0 (UI aq cFrame (cT aw rs) most pk fr ce ct dn p0 .aQ),false),some (.int (j:Int),false),some (oT c,false),some (g,false),some (.dk (bw ps gs i).ks (bw ps gs i).ts,true),vwO b5,vwO b6]) ⟨none,none,rfl⟩ ?_ ?_
 . rintro i x ρ hx ⟨b5,b6,rfl⟩;have es:bw ps gs (i+1)=(bw ps gs i).put x (gs.getD i (.num 0)):=by simp only[bw,hx]
   have GB:((bw ps gs i).ts).length<16777216:=by have:=mi ps gs i;have:=(fQ.mp hx).1;unfold Ev.ts;rw[cJ];omega
   rw[es];obtain rfl|rfl:=hg
   all_goals
    refine⟨rfl,rfl,jn (λh=>?_) (λh=>?_)⟩;have h':(i:Int)<((gs.map vT).length:Int):=h;rw[cJ] at h';have Zl:i<gs.length:=by omega
    have ev:gs.getD i (.num 0)=gs[i]:=by rw[List.getD,mz Zl];rfl
    refine⟨vT gs[i],ak (by rw[hU,mz Zl];rfl),GB,?_⟩;rw[ev,<- AL];exact⟨some (.int (i:Int)),some (.str x),rfl⟩;have h':¬ ((i:Int)<((gs.map vT).length:Int)):=h;rw[cJ] at h';have ev:gs.getD i (.num 0)=.num 0:=by rw[List.getD,Dy (by omega)];rfl
    refine⟨GB,?_⟩;rw[ev,<- AL];exact⟨some (.int (i:Int)),some (.str x),rfl⟩
 rintro ρ ⟨b5,b6,rfl⟩;refine⟨by rw[ix];rfl,?_⟩;refine⟨_,oT c,_,_,IQ,by rw[cJ];omega,(λz=>nomatch z),rfl,Je c,rfl,?_,?_,?_⟩;exact eM (f:=vT) d_ _;intro e he;simp only[cU,fK,ς] at he;obtain rfl|rfl|rfl|rfl|rfl|rfl|rfl:=he
 trivial;trivial;cases c<;>trivial;obtain rfl|rfl:=hg<;>trivial
 exact eM (f:=vT) d_ _;exact SO b5;exact SO b6;have e:S.lst (fr.map (xh cFrame)++[.ins cFrame qaE [.lf (oT c),.dk (bw ps gs ps.length).ks (bw ps gs ps.length).ts]])=.lst ((fr++[Fr.mk c (bw ps gs ps.length)]).map (xh cFrame)):=by rw[oS];rfl
 refine X2 (s':=eB aq cFrame (cT aw rs) most pk (fr++[Fr.mk c (bw ps gs ps.length)]) ce ct dn p0 .aQ) (by show S.put _ _ _=_;rw[e];exact IS) ?_;refine⟨rfl,X1 ?_,_,_,7,_,rfl,(by show 9<1000;decide),rfl,rfl,?_⟩;intro e he;simp only[N7,FW,cU,fK,ς] at he;obtain rfl|rfl|rfl|rfl|rfl|rfl|rfl:=he
 trivial;trivial;cases c<;>trivial;obtain rfl|rfl:=hg<;>trivial
 trivial;exact SO b5;exact SO b6;exact hq
noncomputable abbrev sQ:π:=qaJ
def jI:aE sQ qaJ (aj gY):=L2.g9
def qY(D:Df K mg "follow_call" gY qaJ f fd)(M:AR K aq)(M1:O5 K aw)(wu:bW P w K mg base "enter" qaK 3 (jW K 3 (AY aq cFrame aw))):bW P w K mg base "follow_call" qaJ 4 (jW K 3 (AZ aq cFrame aw)):=by
 refine D.hJ (KG D.F jI rfl (by decide) λbB A outer s H E M0 qF hr us s0 q hG hl=>?_);obtain⟨A1,kU,zG,a0,wm⟩:=M0;have nS:wm=0:=qF;subst nS;have nd:=jI.nd;have hu:=bF.iN hr;have rX:=j9 hu;have af:=M;have aB:=M1;have rX:=j9 hu;refine⟨_,(cb (eJ wu hr (λ_=>(ae (ψ (RN rX (θ (br aB.cl aB.vS (θ (br af.cl af.gj (bV (aa 0)))))) (θ (aI (aa 1) (θ ag))))) (ae (ψ (br af.cl af.dW (bV (aa 0)))) (ae (ai 2) ar)))) rfl)),?_⟩;obtain⟨rs,j,p,x,g,as,f',ps,gs,most,pk,fr,ce,ct,dn,u3,rfl,rfl,hp,eR,Xl,Zf,hq⟩:=hG;rw[ix];have hd:cw ((aV rs rs.length).map λp=>(Sum.inr p.1:Key)) ((aV rs rs.length).map λp=>T.int (p.2:Int)) (Sum.inr g)=some (.int (p:Int)):=by rw[HU,hp];rfl
 refine⟨zF rfl,rfl,_,rfl,rfl,_,rfl,_,aaD,_,hd,rfl,_,rfl,rfl,rs,p,f',ps,gs,most,pk,fr,ce,ct,dn,_,some j,_,rfl,.inr rfl,rfl,eR,Xl,Zf,hq⟩
noncomputable abbrev sR:π:=["machine","row","used","made","call"]
def jJ:aE sR qaJ (aj gX):=L2.g9
def qZ(D:Df K mg "follow_give" gX qaJ f fd)(M:AR K aq)(M1:UJ K cFrame)(M2:O5 K aw)(cH:bW P w K mg base "follow_name" qaJ 3 (jW K 3 (jG aq cFrame aw))):bW P w K mg base "follow_give" qaJ 4 (jW K 3 (A0 aq cFrame aw)):=by
 refine D.hJ (KG D.F jJ rfl (by decide) λbB A outer s H E M0 qF hr us s0 q hG hl=>?_);obtain⟨A1,kU,zG,a0,wm⟩:=M0;have nS:wm=0:=qF;subst nS;have nd:=jJ.nd;have af:=M;have bX:=M1;have aB:=M2;refine⟨_,(cv (Mr (j:=4) nd rfl (.inl rfl) bX.cl bX.I9 (jv af.cl af.jE (kF)))
  (cb (t5 (λ_=>(xY (aa 4) (θ c7)))
   (cb (qu af.cl af.mh (λ_=>(ψ (bA (ae (ψ a9) (ae (ai 3) ar))))) rfl))
   (cv (qu af.cl af.dW (λ_=>(ai 4)) rfl)
   (cb (eJ cH hr (λ_=>(ae (ψ (aI (θ (br aB.cl aB.fS (θ (br af.cl af.gj (bV (aa 0)))))) (aa 4))) (ae (ai 2) (ae (ai 3) ar)))) rfl)))))),?_⟩
 obtain⟨rs,most,pk,fs,f0,ce,ct,dn,pl,u1,u2,v,rfl,i2,rfl,hq⟩:=hG;refine⟨fs.map (xh cFrame),qaE,[.lf (oT f0.call),.dk f0.ev.ks f0.ev.ts],0,oT f0.call,(λz=>nomatch z),(by show S.get _ [.fld aq "frames"]=_;rw[IQ,oS];rfl),rfl,rfl,Je _,zF rfl,?_⟩;have hρ:kD ⟨A1,kU,zG,a0,0⟩ [some (.pin a0 (eB aq cFrame (cT aw rs) most pk (fs++[f0]) ce ct dn pl .aQ).t,false),some (u1,false),some (u2,false),some (vT v,false),none] (eB aq cFrame (cT aw rs) most pk fs ce ct dn pl .aQ)=[some (.pin a0 (eB aq cFrame (cT aw rs) most pk fs ce ct dn pl .aQ).t,false),jV (some (u1,false)),some (u2,false),some (vT v,false),none]:=by show [_,jV (some (u1,false)),jV (some (u2,false)),jV (some (vT v,false)),jV none]=_;rw[eO i2,eO (d_ v)];rfl
 have iu1:∀e,e=jV (some (u1,false))->fE e:=λe he=>by rw[he];show fE (if bQ u1=true then some (u1,false) else none);split;cases u1<;>trivial;trivial
 refine Ng (IS (fr':=fs)) hρ ?_;have iA:∀e∈[some (.pin a0 (eB aq cFrame (cT aw rs) most pk fs ce ct dn pl .aQ).t,false),jV (some (u1,false)),some (u2,false),some (vT v,false),some (oT f0.call,false)],fE e:=λe he=>by
  simp only[cU,fK,ς] at he;obtain rfl|he|rfl|rfl|rfl:=he
  trivial;exact iu1 e he;cases u2<;>trivial;cases v<;>trivial;cases f0.call<;>trivial
 obtain⟨hc,hq⟩|⟨c,gs,g,r,x,hc,rfl,h,hx,hn,hq⟩:=hq
 rw[hc];exact⟨Gen.cR rfl,(by show bQ (.tup [.str "done",vT v])=true;simp only[bQ,dC,d_];rfl),by rw[hc] at iA;exact iA,_,_,8,_,rfl,(by show 9<1000;decide),rfl,rfl,hq⟩;rw[hc];refine⟨rfl,by rw[hc] at iA;exact iA,_,_,7,_,rfl,(by show 9<1000;decide),rfl,rfl,?_⟩;refine AX (s':=eB aq cFrame (cT aw rs) most pk (gs++[g]) ce ct dn (.int (c:Int)) .aQ) (ρ':=[some (.pin a0 (eB aq cFrame (cT aw rs) most pk (gs++[g]) ce ct dn (.int (c:Int)) .aQ).t,false),jV (jV (some (u1,false))),some (u2,false),some (vT v,false),some (.int (c:Int),false)]) rfl ?_ ?_;show [_,jV (jV (some (u1,false))),jV (some (u2,false)),jV (some (vT v,false)),jV (some (.int (c:Int),false))]=_;rw[eO i2,eO (d_ v),eO (t:=.int (c:Int)) rfl];refine⟨λe he=>?_,?_⟩;simp only[cU,fK,ς] at he;obtain rfl|he|rfl|rfl|rfl:=he
 trivial;rw[he];show fE (jV (if bQ u1=true then some (u1,false) else none));by_cases h1:bQ u1=true;rw[ε h1,eO h1];cases u1<;>trivial;rw[η h1];trivial;cases u2<;>trivial;cases v<;>trivial;trivial;rw[ix];exact⟨rfl,_,rfl,rfl,_,rfl,_,iQ h.at',rfl,rs,r,c,most,pk,gs,g,ce,ct,dn,_,x,v,rfl,i2,rfl,h,hx,hn,hq⟩
end
end Rg
namespace Rg
open PySem L2 VT Gen K5 Lay
open nP (c_)
open Nx (Ig)
open Nm (j7 CF ym kM)
open UD (CI CH jw)
open kR (Vl vT nm dQ RI)
structure SR(K:Δ)(mg:qae):Prop where
 len:mg "len"=none
 tuple:mg "tuple"=none
 SS:∃a,mg "SILENT"=some (.ref a)/\∀H,dz K H a [.str "else",.str "end",.str "skip"]
noncomputable def KL(cM cF cL:Addr)(nh:List Key×Key->Int)(rs:qal)(most:Nat)(s:Lv):S:=eB cM cF (cT cL rs) (most:Int) .aQ (s.fs++[s.f]) (Ce.s nh s.ce) s.ct s.dn (.int ((s.pl:Nat):Int)) .aQ
def yX(cM cF cL:Addr)(nh:List Key×Key->Int)(rs:qal)(most:Nat)(q:S->Prop):Lv ⊕ Res->Prop
 |.inl s=>q (KL cM cF cL nh rs most s)
 |.inr R=>∀fr ce ct pl,q (eB cM cF (cT cL rs) (most:Int) .aQ fr ce ct R.1 pl R.2)
def Pr(cM cF cL:Addr)(nh:List Key×Key->Int)(us:ξ)(st:S)(q:S->T->Prop):Prop:=∃rs r s most,us=[bu r]/\st=KL cM cF cL nh rs most s/\Wl rs/\AQ rs s/\rs[s.pl]?=some r/\yP r=false/\s.dn.length<=1000/\yX cM cF cL nh rs most (λs'=>q s' .aQ) (cP rs r s)
def Pt(cM cF cL:Addr)(nh:List Key×Key->Int)(us:ξ)(st:S)(q:S->T->Prop):Prop:=∃rs s most,us=[]/\st=KL cM cF cL nh rs most s/\Wl rs/\AQ rs s/\s.dn.length<=1000/\yX cM cF cL nh rs most (λs'=>q s' .aQ) (qR rs most s)
def SU(h:c_ x=true):kM (AD (.fld x))=true:=by show nP.pQ (((".":String):Str)++x)=true;unfold nP.pQ;rw[nP.tR,h,Bool.and_true];exact nP.pR x
def C0{k:Ky}(h:Pj k):([AD k].filter λt=>!kM t)=(Nc k).map gf:=by
 cases k with
 |fld x=>rw[ZN (by rw[SU h.1];decide)];rfl
 |op o=>rw[YF (by show (!kM (gf o))=true;rw[qT h];rfl)];rfl
theorem q_:∀{l:List ij},(∀o∈l,rW o)->((l.map gf).filter λt=>!kM t)=l.map gf
 |[],_=>rfl
 |o::l,h=>by rw[fU,YF (by rw[qT (h o c6)];rfl),q_ λo ho=>h o (fJ _ ho)]
def A3(ok:v5 r):∀o∈gC r,rW o:=by
 have kk:∀{k:Ky},Pj k->∀o∈Nc k,rW o:=λ{k} h o ho=>by
  cases k with
  |fld x=>cases ho
  |op o'=>rw[iD.mp ho];exact h
 intro o ho;cases r with
 |df f ps=>obtain⟨x,hx,rfl⟩:=rS.mp ho;exact ok.2 x hx
 |put x a=>rw[iD.mp ho];exact ok
 |give a=>rw[iD.mp ho];exact ok
 |kJ x a op b=>
  simp only[gC,cU,fK,ς] at ho;obtain rfl|rfl:=ho
  exact ok.1;exact ok.2.2
 |get x y k=>
  rcases cU.mp ho with rfl|ho
  exact ok.1;exact kk ok.2 o ho
 |set y k a=>
  rcases cU.mp ho with rfl|ho
  exact ok.1;rcases cK.mp ho with ho|ho
  exact kk ok.2.1 o ho;rw[iD.mp ho];exact ok.2.2
 |call x f as=>exact ok.2 o ho
 |new x=>cases ho
 |_=>exact ok.elim
def Nq(ok:v5 r):(gC r).length<=100:=by
 have kk:∀k:Ky,(Nc k).length<=1:=λk=>by cases k<;>simp[Nc]
 cases r with
 |df f ps=>rw[gC,cJ];have:=ok.1;omega
 |call x f as=>have:=ok.1;show as.length<=100;omega
 |get x y k=>have:=kk k;simp only[gC,BF];omega
 |set y k a=>have:=kk k;simp only[gC,BF,jf,List.length_nil];omega
 |_=>simp[gC]
def Nr(ok:v5 r)(hd:∀f ps,r≠.df f ps):CH r=(gC r).map gf/\∀t∈jw r,ym t:=by
 have ol:∀{o:ij},rW o->ym (gf o):=λh=>wg h;have kl:∀{k:Ky},Pj k->ym (AD k):=λ{k} h=>by
  cases k with
  |fld x=>exact .inl ⟨_,rfl,by rw[CY];have:=h.2;omega⟩
  |op o=>exact wg h
 have one:∀{a:ij},rW a->([gf a].filter λt=>!kM t)=[gf a]:=λh=>q_ (l:=[_]) λo ho=>by rw[iD.mp ho];exact h
 cases r with
 |df f ps=>exact absurd rfl (hd f ps)
 |put x a=>exact⟨one ok,λt ht=>by rw[iD.mp ht];exact ol ok⟩
 |give a=>exact⟨one ok,λt ht=>by rw[iD.mp ht];exact ol ok⟩
 |kJ x a op b=>
  refine⟨q_ (l:=[a,b]) (A3 (r:=.kJ x a op b) ok),λt ht=>?_⟩;simp only[jw,cU,fK,ς] at ht;obtain rfl|rfl:=ht
  exact ol ok.1;exact ol ok.2.2
 |get x y k=>
  refine⟨?_,λt ht=>?_⟩;show (([gf (.nm y)]++[AD k]).filter λt=>!kM t)=_;rw[List.filter_append,one ok.1,C0 ok.2];rfl;simp only[jw,cU,fK,ς] at ht;obtain rfl|rfl:=ht
  exact ol ok.1;exact kl ok.2
 |set y k a=>
  refine⟨?_,λt ht=>?_⟩;show ((([gf (.nm y)]++[AD k])++[gf a]).filter λt=>!kM t)=_;rw[List.filter_append,List.filter_append,one ok.1,one ok.2.2,C0 ok.2.1];show _=(ij.nm y::(Nc k++[a])).map gf;rw[fU,oS];rfl;simp only[jw,cU,fK,ς] at ht;obtain rfl|rfl|rfl:=ht
  exact ol ok.1;exact kl ok.2.1;exact ol ok.2.2
 |call x f as=>exact⟨rfl,λt ht=>by obtain⟨o,ho,rfl⟩:=rS.mp ht;exact ol (ok.2 o ho)⟩
 |new x=>exact⟨rfl,λt ht=>nomatch ht⟩
 |_=>exact ok.elim
def cq.up{k k':Nat}(h:cq P w K mg base eD k f fd ps sp)(hk:k<=k'):cq P w K mg base eD k' f fd ps sp :=
 ⟨h.len,λA outer s H args us vs Q E hr e0 hb r Kp=>h.run A outer s H args us vs Q E (hr.mono hk) e0 hb r Kp⟩
structure Fos(w:World)(K:Δ)(mg:qae):Prop where
 ex:∃(a:Addr)(f1 f2 f3 f4 f5 f6 f7 f8 f9:Addr),mg "FOLLOWERS"=some (.ref a)/\mg "follow_plain"=some (.ref f1)/\mg "follow_give"=some (.ref f2)/\mg "follow_name"=some (.ref f3)/\mg "follow_do"=some (.ref f4)/\mg "follow_new"=some (.ref f5)/\mg "follow_set"=some (.ref f6)/\mg "follow_call"=some (.ref f7)/\mg "follow_fail"=some (.ref f8)/\mg "follow_choice"=some (.ref f9) /\
  qq w K a [("def",.ob f1),("give",.ob f2),("put",.ob f3),("do",.ob f4),("new",.ob f5),("get",.ob f3),("set",.ob f6),("call",.ob f7),("fail",.ob f8),("if",.ob f9),("while",.ob f9)]
def kW{k k':Nat}{f1:Addr}(C:bW P w K mg base x ps k sp)(e:mg x=some (.ref f1))(hk:k<=k'):W.keepIn K (.ref f1)=true/\∃fd ps,Binds K fd ps []/\cq P w K mg base eD k' f1 fd ps sp:=by obtain⟨f,fd,h1,h2,h3,F⟩:=C;cases h1.symm.trans e;exact⟨h2,fd,ps,h3,cq.up F hk⟩
inductive KN(cM cF cL:Addr)(nh:List Key×Key->Int)(f1 f2 f3 f4 f5 f6 f7 f8 f9:Addr):Addr->(ξ->S->(S->T->Prop)->Prop)->Prop
 |plain:KN cM cF cL nh f1 f2 f3 f4 f5 f6 f7 f8 f9 f1 (nF cM cF cL)
 |give:KN cM cF cL nh f1 f2 f3 f4 f5 f6 f7 f8 f9 f2 (A0 cM cF cL)
 |name:KN cM cF cL nh f1 f2 f3 f4 f5 f6 f7 f8 f9 f3 (jG cM cF cL)
 |do_:KN cM cF cL nh f1 f2 f3 f4 f5 f6 f7 f8 f9 f4 (SQ cM cF cL)
 |new:KN cM cF cL nh f1 f2 f3 f4 f5 f6 f7 f8 f9 f5 (Jc cM cF cL)
 |set:KN cM cF cL nh f1 f2 f3 f4 f5 f6 f7 f8 f9 f6 (Jd cM cF cL nh)
 |call:KN cM cF cL nh f1 f2 f3 f4 f5 f6 f7 f8 f9 f7 (AZ cM cF cL)
noncomputable abbrev X4(s:Lv)(r:Rw):T:=.tup ((gC r).map λo=>vT (look s.f.ev o))
noncomputable abbrev Zq(s:Lv)(r:Rw):T:=oV (IP s.f.ev s.ce s.ct s.pl r)
def A4(s:Lv)(r:Rw):bQ (X4 s r)=true:=by simp only[bQ];exact eM (f:=λo=>vT (look s.f.ev o)) (λo=>d_ _) _
noncomputable def cutD(cM cF cL a0:Addr)(nh:List Key×Key->Int):FM:=λd ρ st=>∃rs r s most P,ρ=[some (.pin a0 st.t,false),some (bu r,false),some (P,false),none,none]/\st=KL cM cF cL nh rs most s/\(P=.tup ((gC r).map gf)\/P=.lst ((gC r).map gf))/\Wl rs/\AQ rs s/\rs[s.pl]?=some r/\yP r=false/\s.dn.length<=1000/\yX cM cF cL nh rs most (λs'=>∀ρ',d.nx ρ' s') (cP rs r s)
noncomputable def adE(cM cF cL a0:Addr)(nh:List Key×Key->Int):FM:=λd ρ st=>∃rs r s most P,ρ=[some (.pin a0 st.t,false),some (bu r,false),some (P,false),some (X4 s r,false),none]/\st=KL cM cF cL nh rs most s/\Wl rs/\AQ rs s/\rs[s.pl]?=some r/\yP r=false/\s.dn.length<=1000/\yX cM cF cL nh rs most (λs'=>∀ρ',d.nx ρ' s') (cP rs r s)
noncomputable abbrev Nt(cM cF cL:Addr)(nh:List Key×Key->Int)(rs:qal)(most:Nat)(s:Lv)(r:Rw):S:=eB cM cF (cT cL rs) (most:Int) .aQ (s.fs++[s.f]) (Ce.s nh s.ce) s.ct (s.dn++[CU s.f.ev s.ce s.ct s.pl r]) (.int ((s.pl:Nat):Int)) .aQ
noncomputable abbrev Nu(a:Addr)(st:S)(s:Lv)(r:Rw)(x:Option (T×Bool)):En:=[some (.pin a st.t,false),some (bu r,false),x,some (X4 s r,false),some (Zq s r,false)]
def Jg(h:v5 r):Nx.R_ r:=by cases r<;>first|exact h.elim|exact⟨by simp only[wd];decide +kernel,by simp only[wd];decide +kernel⟩
theorem SV{cM cF cL:Addr}{nh:List Key×Key->Int}{f1 f2 f3 f4 f5 f6 f7 f8 f9:Addr}{s:Lv}{most:Nat}{q:S->T->Prop}(W:Wl rs)(I:AQ rs s)(hr:rs[s.pl]?=some r)(Nv:s.dn.length<=1000)(hq:yX cM cF cL nh rs most (λs'=>q s' .aQ) (cP rs r s)) :
  ∃f G,Eh [("def",T.ob f1),("give",.ob f2),("put",.ob f3),("do",.ob f4),("new",.ob f5),("get",.ob f3),("set",.ob f6),("call",.ob f7),("fail",.ob f8),("if",.ob f9),("while",.ob f9)] (wd r)=some (.ob f)/\KN cM cF cL nh f1 f2 f3 f4 f5 f6 f7 f8 f9 f G/\G [bu r,X4 s r,Zq s r] (Nt cM cF cL nh rs most s r) q:=by
 have v8:=W.ok r (eS hr);have Zr:s.f.ev.is.length<=1000000:=by have:=I.ev.n;omega
 have at':UK rs s.pl r:=⟨hr,Jg v8⟩;have ui:=A4 s r;cases r with
 |df f ps=>exact⟨f1,_,rfl,.plain,rs,_,s.pl,most,.aQ,_,_,_,_,_,_,_,rfl,rfl,at',hq⟩
 |put x a=>exact⟨f3,_,rfl,.name,rs,_,s.pl,most,.aQ,s.fs,s.f,_,_,_,_,x,look s.f.ev a,rfl,ui,rfl,at',rfl,Zr,hq⟩
 |get x y k=>exact⟨f3,_,rfl,.name,rs,_,s.pl,most,.aQ,s.fs,s.f,_,_,_,_,x,s.ce.at' (cellK s.f.ev y k),rfl,ui,rfl,at',rfl,Zr,hq⟩
 |set y k a=>exact⟨f6,_,rfl,.set,rs,y,k,a,s.pl,most,.aQ,_,s.ce,_,_,s.f.ev,look s.f.ev a,rfl,v8.2.1,rfl,at',by have:=I.ce.1;omega,hq⟩
 |new x=>exact⟨f5,_,rfl,.new,rs,_,s.pl,most,.aQ,s.fs,s.f,_,_,_,_,x,.mC s.pl (s.ct.get s.pl),rfl,ui,rfl,at',rfl,Zr,by have:=I.ct;omega,hq⟩
 |kJ x a op b=>obtain⟨_,rfl,_⟩:=v8;exact⟨f4,_,rfl,.do_,rs,_,s.pl,most,.aQ,s.fs,s.f,_,_,_,_,x,.num (dQ (nm (look s.f.ev a)+nm (look s.f.ev b))),rfl,ui,rfl,at',rfl,Zr,hq⟩
 |give a=>
   obtain⟨h0,h1⟩|⟨gs,g,c,x,y,as,h0,h1,h2,h4⟩:=I.ca.inv
   have ed:cP rs (.give a) s=.inr (s.dn++[CU s.f.ev s.ce s.ct s.pl (.give a)],yO (look s.f.ev a)):=by unfold cP;dsimp only;rw[h1]
   rw[ed] at hq;exact⟨f2,_,rfl,.give,rs,most,.aQ,s.fs,s.f,_,_,_,_,_,_,look s.f.ev a,rfl,ui,rfl,.inl ⟨h1,hq _ _ _ _⟩⟩;have ed:cP rs (.give a) s=.inl {fs:=gs,f:={g with ev:=g.ev.put x (look s.f.ev a)},ce:=s.ce,ct:=s.ct,dn:=s.dn++[CU s.f.ev s.ce s.ct s.pl (.give a)],pl:=c+1}:=by unfold cP;dsimp only;rw[h1,h0,List.getLast?_concat];dsimp only;rw[h2,Uj]
   rw[ed] at hq;have hgl:g.ev.is.length<=1000000:=by have:=(I.fs g (by rw[h0];simp)).n;omega
   exact⟨f2,_,rfl,.give,rs,most,.aQ,s.fs,s.f,_,_,_,_,_,_,look s.f.ev a,rfl,ui,rfl,.inr ⟨c,gs,g,_,x,h1,h0,⟨h2,Jg (W.ok _ (eS h2))⟩,rfl,hgl,hq⟩⟩
 |call x g as=>
   have hfl:(s.fs++[s.f]).length<=1000000:=by have:=I.nf;simp;omega
   obtain⟨p,ps,q1,q2,q3⟩:=W.D.ca s.pl x g as hr;have ef:=W.D.first q2
   have SN:=W.ok _ (eS q2);have ed:cP rs (.call x g as) s=.inl {fs:=s.fs++[s.f],f:=⟨some s.pl,bw ps (as.map (look s.f.ev)) ps.length⟩,ce:=s.ce,ct:=s.ct,dn:=s.dn++[CU s.f.ev s.ce s.ct s.pl (.call x g as)],pl:=p}:=by unfold cP;dsimp only;rw[ef];dsimp only;rw[q2]
   rw[ed] at hq;exact⟨f7,_,rfl,.call,rs,s.pl,p,x,g,as,g,ps,as.map (look s.f.ev),most,.aQ,s.fs++[s.f],_,_,_,_,by rw[tu];rfl,rfl,ef,q2,by have:=SN.1;omega,hfl,hq⟩
 |_=>exact v8.elim
section
variable{aw cFrame aq:Addr}
noncomputable abbrev rf:π:=["machine","row","parts","used","made"]
def om:aE rf qaL (aj kT):=L2.g9
def rg:(rf++(["part"]:π)).Nodup:=by decide +kernel
def yY(D:Df K mg "done_row" kT qaL f fd)(M:SR K mg)(M1:AR K aq)(M2:Fos w K mg)(A5:bW P w K mg base "operands" ["row"] 3 (di K 1 CI))(A6:bW P w K mg base "value_of" qaG 2 (di K 2 (X0 aq cFrame)))(EN:bW P w K mg base "made_by" qaI 4 (di K 3 (CW aq cFrame (NK.bC P w))))(dy:bW P w K mg base "follow_plain" qaJ 2 (jW K 3 (nF aq cFrame aw)))(cH:bW P w K mg base "follow_name" qaJ 3 (jW K 3 (jG aq cFrame aw)))(yZ:bW P w K mg base "follow_do" qaJ 4 (jW K 3 (SQ aq cFrame aw)))(sS:bW P w K mg base "follow_give" qaJ 4 (jW K 3 (A0 aq cFrame aw)))(wx:bW P w K mg base "follow_new" qaJ 4 (jW K 3 (Jc aq cFrame aw)))(wy:bW P w K mg base "follow_set" qaJ 4 (jW K 3 (Jd aq cFrame aw (NK.bC P w))))(sT:bW P w K mg base "follow_call" qaJ 4 (jW K 3 (AZ aq cFrame aw))):bW P w K mg base "done_row" qaL 5 (jW K 1 (Pr aq cFrame aw (NK.bC P w))):=by
 refine D.hJ (KG D.F om rfl (by decide) λbB A outer s H E M0 qF hr us s0 q hG hl=>?_);obtain⟨A1,kU,zG,a0,wm⟩:=M0;have nS:wm=0:=qF;subst nS;have nd:=om.nd;have hu:=bF.iN hr;have af:=M1;obtain⟨aF,f1,f2,f3,f4,f5,f6,f7,f8,f9,y3,e1,e2,e3,e4,e5,e6,e7,e8,e9,wz⟩:=M2.ex;have y4:∀f' G,KN aq cFrame aw (NK.bC P w) f1 f2 f3 f4 f5 f6 f7 f8 f9 f' G->W.keepIn K (.ref f')=true/\∃fd ps,Binds K fd ps []/\cq P w K mg base eD 4 f' fd ps (jW K 3 G):=by
  intro f' G h;cases h with
  |plain=>exact kW dy e1 (by decide)
  |give=>exact kW sS e2 (by decide)
  |name=>exact kW cH e3 (by decide)
  |do_=>exact kW yZ e4 (by decide)
  |new=>exact kW wx e5 (by decide)
  |set=>exact kW wy e6 (by decide)
  |call=>exact kW sT e7 (by decide)
 refine⟨_,(cv (eI λ_=>(aX (i:=2) nd rfl (.inl rfl) (qau (pT (de hu (θ (aI (aa 1) (θ ag))) (θ a9)) (aI (aa 1) (θ ag)) (aM A5 hr (ae (ai 1) ar)))) mB))
  (Cy.weak (u:=(cutD aq cFrame aw a0 (NK.bC P w))) (cv (eI λ_=>(aX (i:=3) nd rfl (.inl rfl) (qau (eh dG fm (by rfl) M.tuple eG (aJ (θ (dU (ts:=["part"]) rfl (by rfl) (gb (ai 2)) (λ_ _ _ _ _ _=>(bt (i:=5) rg rfl (.inl rfl) mB)) (λ_ _ _ _ _ _=>dg) (λ_ _ _ _ _ _=>(ψ (aM A6 hr (ae (ai 0) (ae (ai 5) ar))))))) aW))) mB))
  (Cy.weak (u:=(adE aq cFrame aw a0 (NK.bC P w))) (cv (eI λ_=>(aX (i:=4) nd rfl (.inl rfl) (qau (aM EN hr (ae (ai 0) (ae (ai 1) (ae (ai 3) ar))))) mB))
  (cv (eI λ_=>(bJ (VW.vc (uT (xZ (θ (br af.cl af.wb (bV (aa 0)))) (θ c7)) (oW (de hu (θ (aI (θ (br af.cl af.wb (bV (aa 0)))) (θ ag))) (θ (bq bh bj (by rfl) M.len pA (aJ (θ (br af.cl af.jF (bV (aa 0)))) aW)))))))
   (ax (aX (i:=4) nd rfl (.inl rfl) (qau (aI (θ (br af.cl af.wb (bV (aa 0)))) (θ ag))) mB))
   aZ))
  (cv (Eo (jv af.cl af.jF (kF)) (λ_=>(ψ (bA (ae (ψ (br af.cl af.dW (bV (aa 0)))) (ae (ai 3) (ae (ai 4) ar)))))))
  (cb (Iw y4 (hr.mono (by decide)) (λ_=>ψ (Ih (by rfl) y3 wz (θ (aI (aa 1) (θ ag))))) (λ_=>(ae (ai 1) (ae (ai 3) (ae (ai 4) ar)))) rfl))))) ?w2)) ?w1)),?main⟩
 case w1=>
  rintro d ρ st ⟨rs,r,s,most,P',rfl,rfl,hP,W,I,eR,hs,Nv,hq⟩;have v8:=W.ok r (eS eR);have oO:=A3 v8;have oL:=Nq v8;rw[KL,ix];obtain rfl|rfl:=hP
  all_goals
   refine⟨rfl,by rw[cJ];exact xg (by omega),?_⟩;refine dw (f:=gf) (u:=λo=>vT (look s.f.ev o)) (λo ho k hk=>?_) ?_;exact⟨rfl,a0,_,_,_,s.fs,s.f,_,_,_,_,_,o,_,rfl,oO o ho,I.ev,by omega,hk⟩;exact⟨by rw[ix];rfl,rs,r,s,most,_,by rw[ix];rfl,rfl,W,I,eR,hs,Nv,hq⟩
 case w2=>
  rintro d ρ st ⟨rs,r,s,most,P',rfl,rfl,W,I,eR,hs,Nv,hq⟩;have v8:=W.ok r (eS eR);have oO:=A3 v8;have rd:=v8;have KD:bQ (CU s.f.ev s.ce s.ct s.pl r)=true:=by unfold CU;have:=A4 s r;simp only[bQ] at this;simp only[bQ,dC,this,AO,N_]
  have fol:∀x2:Option (T×Bool),fT (XA [("def",.ob f1),("give",.ob f2),("put",.ob f3),("do",.ob f4),("new",.ob f5),("get",.ob f3),("set",.ob f6),("call",.ob f7),("fail",.ob f8),("if",.ob f9),("while",.ob f9)] (fT (VT.f2 (GC 1) (fT (fC (.int 0))) Y4))) (Nu a0 (Nt aq cFrame aw (NK.bC P w) rs most s r) s r x2) λt=>∃f G,t=.ob f/\KN aq cFrame aw (NK.bC P w) f1 f2 f3 f4 f5 f6 f7 f8 f9 f G/\(dI (mQ 1) (dI (mQ 3) (dI (mQ 4) oE))) (Nu a0 (Nt aq cFrame aw (NK.bC P w) rs most s r) s r x2) λus=>us.length=3/\G us (Nt aq cFrame aw (NK.bC P w) rs most s r) λs' _=>d.nx (kD ⟨A1,kU,zG,a0,0⟩ (Nu a0 (Nt aq cFrame aw (NK.bC P w) rs most s r) s r x2) s') s':=λx2=>by
   have L6:yX aq cFrame aw (NK.bC P w) rs most (λs'=>d.nx (kD ⟨A1,kU,zG,a0,0⟩ (Nu a0 (Nt aq cFrame aw (NK.bC P w) rs most s r) s r x2) s') s') (cP rs r s):=by
    cases hd:cP rs r s with
    |inl s'=>rw[hd] at hq;exact hq _
    |inr R=>rw[hd] at hq;exact λfr ce ct pl=>hq fr ce ct pl _
   obtain⟨f',G,h1,h2,h3⟩:=SV (q:=λs' _=>d.nx (kD ⟨A1,kU,zG,a0,0⟩ (Nu a0 (Nt aq cFrame aw (NK.bC P w) rs most s r) s r x2) s') s') W I eR Nv L6;obtain⟨l,el⟩:=lK r;unfold Nu at h3 ⊢;rw[el] at h3 ⊢;exact⟨_,aaB,_,h1,f',G,rfl,h2,rfl,h3⟩
  have adF:∀t,∀x∈Nu a0 (Nt aq cFrame aw (NK.bC P w) rs most s r) s r (jV (some (t,false))),fE x:=λt x hx=>by
   simp only[Nu,cU,fK,ς] at hx;obtain rfl|rfl|rfl|rfl|rfl:=hx
   trivial;exact SO (some (bu r));show fE (if bQ t=true then some (t,false) else none);split;exact SO (some t);trivial;trivial;exact SO (some (Zq s r))
  rw[KL,ix];refine⟨rfl,a0,_,_,_,_,s.ce,s.ct,s.dn,s.pl,_,s.f.ev,r,_,rfl,rd,oO,I.ev,by rw[ix];rfl,?_⟩;refine⟨rfl,_,rfl,by rw[ix];rfl,?_⟩;refine⟨s.dn.map .lf,IV,by rw[cJ];omega,?_⟩;refine⟨rfl,_,rfl,Gen.cR rfl,KD,zF rfl,?_⟩;refine AX (ρ':=Nu a0 (Nt aq cFrame aw (NK.bC P w) rs most s r) s r (jV (some (P',false)))) SJ ?_ ?_;show [_,jV (some (bu r,false)),jV (some (_,false)),jV (some (X4 s r,false)),jV (some (Zq s r,false))]=_;rw[eO (lJ r),eO (A4 s r),eO (AO _)];rfl;exact⟨adF _,fol _⟩
 case main=>
  obtain⟨rs,r,s,most,rfl,rfl,W,I,eR,hs,Nv,hq⟩:=hG;have v8:=W.ok r (eS eR);have L6:yX aq cFrame aw (NK.bC P w) rs most (λs'=>∀ρ':En,q s' .aQ) (cP rs r s):=by
   cases hd:cP rs r s with
   |inl s'=>rw[hd] at hq;exact λ_=>hq
   |inr R=>rw[hd] at hq;exact λfr ce ct pl _=>hq fr ce ct pl
  by_cases QR:∃f ps,r=.df f ps;obtain⟨f',ps,rfl⟩:=QR;exact⟨_,aaB,_,aaD,rfl,rs,_,s,most,_,rfl,rfl,.inl (by rw[gC,tu];rfl),W,I,eR,hs,Nv,L6⟩;obtain⟨l,el⟩:=lK r;have hw:decide (wd r="def")=false:=by cases r<;>first|rfl|exact absurd ⟨_,_,rfl⟩ QR
  obtain⟨o1,o2⟩:=Nr v8 (λf ps z=>QR ⟨f,ps,z⟩);rw[el];refine⟨_,aaB,jn (λh=>absurd h (of_decide_eq_false hw)) (λ_=>?_)⟩;exact⟨rfl,r,by rw[el],o2,rfl,rs,r,s,most,_,by rw[el];rfl,rfl,.inr (Ψ T.lst o1),W,I,eR,hs,Nv,L6⟩
noncomputable abbrev Jh:π:=qaL
def C1:aE Jh ["machine"] (aj wa):=L2.g9
def Nw(D:Df K mg "step" wa ["machine"] f fd)(M:SR K mg)(M1:AR K aq)(M2:O5 K aw)(A7:bW P w K mg base "done_row" qaL 5 (jW K 1 (Pr aq cFrame aw (NK.bC P w)))):bW P w K mg base "step" ["machine"] 6 (jW K 0 (Pt aq cFrame aw (NK.bC P w))):=by
 refine D.hJ (KG D.F C1 rfl (by decide) λbB A outer s H E M0 qF hr us s0 q hG hl=>?_);obtain⟨A1,kU,zG,a0,wm⟩:=M0;have nS:wm=0:=qF;subst nS;have nd:=C1.nd;have af:=M1;have aB:=M2;obtain⟨aS,mS,hS⟩:=M.SS;have Ji:∀{H':Hp}{pos},VP (fP eD P w K mg base Jh "step" (aj wa) f bB A outer s H E).pF ⟨H',[],zG⟩ (.Name "SILENT" pos) (fC (.tup [.str "else",.str "end",.str "skip"])):=λ{H' pos}=>iI (by rfl) mS (v:=.ref aS) rfl λH A=>bU (hS H) (az.cons cD (az.cons cD (az.cons cD az.nil)));refine⟨_,(cv (eI λ_=>(aX (i:=1) nd rfl (.inl rfl) (qau (aI (θ (br aB.cl aB.fS (θ (br af.cl af.gj (bV (aa 0)))))) (θ (br af.cl af.dW (bV (aa 0)))))) mB))
  (cb (t5 (λ_=>(tV (θ (aI (aa 1) (θ ag))) (θ Ji)))
   nA
   (cb (t5 (λ_=>(Wo (θ (bq bh bj (by rfl) M.len pA (aJ (θ (br af.cl af.jF (bV (aa 0)))) aW))) (θ (br af.cl af.I_ (bV (aa 0))))))
    (cb (qu af.cl af.mh (λ_=>(ψ (bA (ae (ψ a9) (ae (ψ ag) ar))))) rfl))
    (cb (eJ A7 hr (λ_=>(ae (ai 1) ar)) rfl))))))),?_⟩
 obtain⟨rs,l,most,rfl,rfl,W,I,Nv,hq⟩:=hG;obtain⟨r,eR⟩:∃r,rs[l.pl]?=some r:=⟨_,mz I.pl⟩;unfold qR at hq;rw[eR] at hq;dsimp only at hq;rw[KL,ix];refine⟨rfl,_,rfl,rfl,_,rfl,rfl,_,rfl,_,iQ eR,by rw[ix];rfl,?_⟩;have hs:=IZ (W.ok r (eS eR));have adG:yP r=false->(most:Int)<=(l.dn.length:Int)->q (eB aq cFrame (cT aw rs) (most:Int) .aQ (l.fs++[l.f]) (Ce.s (NK.bC P w) l.ce) l.ct l.dn (.int ((l.pl:Nat):Int)) l_) .aQ:=λh1 h2=>by rw[η (by rw[h1];exact gZ),ε (by omega)] at hq;exact hq _ _ _ _
 have X5:yP r=false->¬ (most:Int)<=(l.dn.length:Int)->yX aq cFrame aw (NK.bC P w) rs most (λs'=>q s' .aQ) (cP rs r l):=λh1 h2=>by rw[η (by rw[h1];exact gZ),η (by omega)] at hq;exact hq
 obtain⟨l',el⟩:=lK r;have hsl:Kw (.str (wd r)) [.str "else",.str "end",.str "skip"]=yP r:=by cases r<;>rfl
 rw[el];refine⟨_,aaB,rfl,rfl,m8 (c:=Kw (.str (wd r)) [.str "else",.str "end",.str "skip"]) (hsl.trans hs) ?_⟩;refine⟨rfl,_,rfl,rfl,_,rfl,jn (λh=>?_) (λh=>?_)⟩;have h':(most:Int)<=(l.dn.length:Int):=h;refine⟨Gen.cR rfl,rfl,zF rfl,_,_,8,_,rfl,(by show 9<1000;decide),rfl,rfl,?_⟩;exact adG hs h';have h':¬ (most:Int)<=(l.dn.length:Int):=h;exact⟨zF rfl,rfl,rs,r,l,most,by rw[el];rfl,rfl,W,I,eR,hs,Nv,X5 hs h'⟩
end
end Rg
namespace Rg
open PySem L2 VT Gen K5 Lay
open kR (Ij Vl vT nm dQ RI)
noncomputable def A8(ins:qan):List Vl:=ins.map λi=>.num (dQ i)
noncomputable def Zs(a:Nat)(ps:π)(ins:qan):Lv:=⟨[],⟨none,bw ps (A8 ins) ps.length⟩,⟨[],[]⟩,⟨[],[]⟩,[],a⟩
inductive C2(rs:qal)(ins:qan)(most:Nat):Res->Prop where
 |Sy {a n:Nat} {f:Str} {ps:π} {R:Res} (h:il rs=some a) (hd:rs[a]?=some (.df f ps)) (k:Pp rs most n (Zs a ps ins) R):C2 rs ins most R
def gPk(ts:ξ)(q:ξ->T->Prop):Prop:=∃rs ins most R,ts=[.lst (rs.map bu),.lst (ins.map .int),.int ((most:Nat):Int),.aQ]/\Wl rs/\ins.length<=100/\most<=900/\C2 rs ins most R/\q R.1 R.2
def Jj(W:Wl rs){a:Nat}{f:Str}(hd:rs[a]?=some (.df f ps))(ins:qan):AQ rs (Zs a ps ins):=by have SN:=W.ok _ (eS hd);refine⟨(fQ.mp hd).1,(λg hg=>nomatch hg),cS _,.main rfl,?_,⟨cS _,(λv hv=>nomatch hv)⟩,cS _⟩;refine (v7 ps _ (λv hv=>?_) ps.length).up (by have:=SN.1;show _<=100+0;omega);obtain⟨i,_,rfl⟩:=rS.mp hv;exact Rg.IK i
def X6(P:Program)(w:World)(K:Δ)(mg:qae)(base:Heap)(C:Addr)(GL:ξ->(T->Prop)->Prop)(k:Nat):Prop :=
 ∃f fd,Mk K C f/\mg "Machine"=some (.ref C)/\Binds K fd qaD []/\cq P w K mg base eD k f fd qaD (spK K C (.dc (NK.bC P w) [] []) GL)
noncomputable def Zt(a:Addr)(most:Nat)(m:T)(s:S):En:=[none,none,some (.int (most:Int),false),some (.aQ,false),some (.pin a s.t,false),some (m,false)]
section
variable{aw cFrame aq:Addr}
noncomputable abbrev EO:π:=qaD
def A9:aE EO qaD (aj iy):=L2.g9
def A_(D:Dc K mg "Machine" "Machine.__init__" iy qaD aq f fd)(L:AR K aq)(Jk:Ht P w K mg base "Layout" aw qax 2 1 (lU aw)):X6 P w K mg base aq (lU aw) 4:=by obtain⟨X7,UL,Jl,Jm,Jn,Jo⟩:=Jk;exact⟨f,fd,D.M,D.m,D.b,fnK D.F A9 rfl λbB A outer s H E hr=>Iz (.inr ⟨_,rfl⟩) Jl Jo (hr.mono (by decide)) (by rfl) Jm Jn L.cl L.gj L.I_ L.wb L.jE L.wc L.mf L.jF L.dW L.mh⟩
noncomputable abbrev jK:π:=["program","inputs","most","poke","machine","main"]
def mm:aE jK qaM (aj gM):=L2.g9
def oQ:(jK++(["number"]:π)).Nodup:=by decide +kernel
theorem wA(D:Df K mg "run_poked" gM qaM f fd)(af:AR K aq)(aB:O5 K aw)(ER:X6 P w K mg base aq (lU aw) 4)(wu:bW P w K mg base "enter" qaK 3 (jW K 3 (AY aq cFrame aw)))(qM:bW P w K mg base "fit" qaz 1 (di K 1 Ij))(SW:bW P w K mg base "step" ["machine"] 6 (jW K 0 (Pt aq cFrame aw (NK.bC P w)))) :
  bW P w K mg base "run_poked" qaM 7 (UH K 4 gPk):=by
 obtain⟨UM,SX,ES,ET,EU,EV⟩:=ER;refine D.hJ (ja (GL:=lU aw) (cz:=.dc (NK.bC P w) [] []) (j:=4) (C:=aq) D.F mm rfl (by decide) λbB A outer s H E hr t0 t1 t2 t3 q hG=>?_);have nd:=mm.nd;obtain⟨rs,ins,most,R,et,W,Zo,hmo,hR,hq⟩:=hG;cases et;refine⟨_,λL=>L=cT aw rs,ID (X:=(fP eD P w K mg base jK "run_poked" (aj gM) f bB A outer s H E).pF) (k:=4) nd rfl (.inl rfl) ES EV (hr.mono (by decide)) (by rfl) ET EU (λH0 tQ Ox a=>(qP (eI λ_=>(aX (i:=5) nd rfl (.inl rfl) (qau (br aB.cl aB.Ic (θ (br af.cl af.gj (bV (aa 4)))))) mB))
   (qP (t5 (λ_=>(xY (aa 5) (θ c7)))
     nA
     (cb (eJ wu hr (λ_=>(ae (ai 5) (ae (ψ c7) (ae (ψ (dU (ts:=qaz) rfl (by rfl) (gb (ai 1)) (λ_ _ _ _ _ _=>(bt (i:=6) oQ rfl (.inl rfl) mB)) (λ_ _ _ _ _ _=>dg) (λ_ _ _ _ _ _=>(ψ (aM qM hr (ae (ai 6) ar)))))) ar)))) rfl)))
   (qP (Iu KS (λ_=>(xY (θ (br af.cl af.mh (bV (aa 4)))) (θ c7)))
     (cb (eJ SW hr (λ_=>ar) rfl)))
   (Nb (jv af.cl af.jF (kF)) (λ_=>(ψ (br af.cl af.mh (bV (aa 4)))))))))),by decide,rfl,rfl,⟨rs,rfl,W.wf,W.n,rfl⟩,?_⟩
 rintro L rfl H0 tQ Ox a;show Pc _ _ _ _ [some (.lst (rs.map bu),false),some (.lst (ins.map .int),false),some (.int (most:Int),false),some (.aQ,false),some (.pin a (eB aq cFrame (cT aw rs) most .aQ [] (.dc (NK.bC P w) [] []) ⟨[],[]⟩ [] .aQ .aQ).t,false),none] (eB aq cFrame (cT aw rs) most .aQ [] (.dc (NK.bC P w) [] []) ⟨[],[]⟩ [] .aQ .aQ);rw[ix];refine⟨rfl,_,rfl,rfl,_,rfl,by rw[ix];rfl,?_⟩;cases hR with
 |@Sy a' n f' ps R' h hd k0=>
   rw[h];have SN:=W.ok _ (eS hd);have I0:=Jj W hd ins;obtain⟨t1,t3,hN⟩:=k0.tells W I0 rfl;refine⟨zF rfl,rfl,xg (by rw[cJ];omega),?_⟩;refine dw (f:=T.int) (u:=λi=>.int (dQ i)) (λi _ k hk=>⟨rfl,i,rfl,hk⟩) ?_;refine⟨rfl,rs,a',f',ps,A8 ins,most,.aQ,[],_,_,_,_,none,_,rfl,.inl (by unfold A8;rw[tu];rfl),rfl,hd,by have:=SN.1;omega,by decide,?_⟩;refine⟨λm ρ s=>(∃l,ρ=Zt a most (.int ((a':Nat):Int)) s/\s=KL aq cFrame aw (NK.bC P w) rs most l/\AQ rs l/\l.dn.length<=most/\∃m',m=m'+1/\Pp rs most m' l R)\/(∃fr ce ct pl,ρ=Zt a most (.int ((a':Nat):Int)) s/\s=eB aq cFrame (cT aw rs) most .aQ fr ce ct R.1 pl R.2/\m=0),
    ⟨_,.inl ⟨Zs a' ps ins,rfl,rfl,I0,mE _,n,rfl,k0⟩⟩,?_⟩
   rintro m ρ s (⟨l,rfl,rfl,I,hl,m',rfl,hk⟩|⟨fr,ce,ct,pl,rfl,rfl,rfl⟩);unfold Zt KL;rw[ix];refine⟨rfl,_,rfl,?_⟩;refine⟨zF rfl,rfl,rs,l,most,rfl,rfl,W,I,by omega,?_⟩;cases hk with
   |fin h2=>rw[h2];exact λfr ce ct pl=>⟨0,by omega,.inr ⟨fr,ce,ct,pl,rfl,rfl,rfl⟩⟩
   |@go n' _ s' _ h2 k2=>have hs:=yS W I h2;rw[h2];exact⟨n'+1,by omega,.inl ⟨s',rfl,rfl,hs.1,hs.2.1,n',rfl,k2⟩⟩
   unfold Zt;rw[ix];refine⟨rfl,_,rfl,?_⟩;refine m8 (c:=nT R.2) hN ?_;exact⟨R.1,IV,t1,rfl,_,rfl,t3,hq⟩
noncomputable abbrev X8:π:=qaN
def SY:aE X8 qaN (aj gi):=L2.g9
def adH(ts:ξ)(q:ξ->T->Prop):Prop:=∃rs ins most R,ts=[.lst (rs.map bu),.lst (ins.map .int),.int ((most:Nat):Int)]/\Wl rs/\ins.length<=100/\most<=900/\C2 rs ins most R/\q R.1 R.2
def X9(P:Program)(w:World)(K:Δ)(mg:qae)(base:Heap):Prop :=
 ∃f fd tk,mg "run"=some (.ref f)/\W.keepIn K (.ref f)=true/\Binds K fd qaN []/\Binds K fd qaN [.int 200 tk]/\cq P w K mg base eD 8 f fd qaN (UH K 3 adH)
def S3{tk:Tok}(F:IE K "run" "run" gi f fd)(m:mg "run"=some (.ref f))(b:Binds K fd qaN [])(b2:Binds K fd qaN [.int 200 tk])(y6:bW P w K mg base "run_poked" qaM 7 (UH K 4 gPk)):X9 P w K mg base:=by obtain⟨Pu,Ny,y7,y8,y9,y_⟩:=y6;refine⟨f,fd,tk,m,F.kp,b,b2,adB F SY rfl (by decide) λbB A outer s H E Ox hr ts q hG hl=>?_⟩;obtain⟨rs,ins,most,R,rfl,W,Zo,hmo,hR,hq⟩:=hG;exact⟨_,_,_,rfl,qQ y_ (hr.mono (by decide)) (by rfl) y7 y8 y9 .nil (dts:=[]) (λ_ _=>az.nil) (ae (ai 0) (ae (ai 1) (ae (ai 2) (ae (ψ c7) ar)))),rfl,rs,ins,most,R,rfl,W,Zo,hmo,hR,hq⟩
end
end Rg
namespace EW
open PySem L2 VT Gen
open nP (bT D2 c_)
noncomputable def one(c:Nat):Str:=⟨#[c]⟩
def empty_eq:(("":String):Str)=⟨#[]⟩:=by decide +kernel
theorem glue:∀l:qao,Txt.join "" (l.map one)=⟨l.toArray⟩
 |[]=>by decide +kernel
 |c::l=>by
  have ih:=glue l;unfold Txt.join at ih ⊢;rw[StrLaws.glued_eq_join] at ih ⊢;cases l with
  |nil=>rfl
  |cons d l=>rw[fU,fU];show one c++(("":String):Str)++Str.join _ (one d::l.map one)=_;rw[fU] at ih;rw[ih,empty_eq];show (⟨(#[c]++#[])++(d::l).toArray⟩:Str)=_;simp
noncomputable def bL(n:Int)(j:Nat):Nat:=sH (n / (7 * (j:Int)+3))
noncomputable def eW(n:Int):π:=(List.range 8).map λj=>one (bL n j)
noncomputable def S4(n:Int)(k:Nat):Str:=⟨((List.range (k+1)).map (bL n)).toArray⟩
noncomputable def sU(n:Int)(p k j:Nat):Nat:=if j=p then sH (n / 5+(k:Int)) else bL n j
noncomputable def alt(n:Int)(sz p k:Nat):Str:=⟨((List.range sz).map (sU n p k)).toArray⟩
structure pe(m:Nat)(ys:π):Prop where
 l:ys.length=m
 nd:ys.Nodup
 nm:∀y∈ys,c_ y=true
def rh(n:Int):(eW n).length=8:=by simp[eW]
def za(l:qao)(h1:1<=l.length)(h8:l.length<=8)(h:∀c∈l,D2 c=true):c_ ⟨l.toArray⟩=true:=by
 unfold c_;have e:(⟨l.toArray⟩:Str).length=l.length:=by simp[Str.length]
 rw[e,ν (by omega),ν (by omega),U4,U4];exact P9.mpr h
def S6(n:Int)(hm:m<=8):pe m ((List.range m).map (S4 n)):=by
 refine⟨by simp,?_,λy hy=>?_⟩;rw[List.Nodup,List.pairwise_map];refine List.Pairwise.imp_of_mem ?_ (List.nodup_range (n:=m));intro i j hi hj fY e;have e2:(S4 n i).length=(S4 n j).length:=by rw[e]
 simp[S4,Str.length] at e2;exact fY e2;obtain⟨k,hk,rfl⟩:=rS.mp hy;have Cw:=Kj.mp hk;refine za _ (by simp) (by simp;omega) λc hc=>?_;obtain⟨j,_,rfl⟩:=rS.mp hc;exact CD _
def S7(n:Int){sz p:Nat}(h1:1<=sz)(h8:sz<=8)(hp:p<sz)(hm:m<=26):pe m ((List.range m).map (alt n sz p)):=by
 refine⟨by simp,?_,λy hy=>?_⟩;rw[List.Nodup,List.pairwise_map];refine List.Pairwise.imp_of_mem ?_ (List.nodup_range (n:=m));intro i j hi hj fY e;have Ku:=Kj.mp hi;have FJ:=Kj.mp hj;have h2:(List.range sz).map (sU n p i)=(List.range sz).map (sU n p j):=by have:=Ψ (λy:Str=>y.cps.toList) e;exact this
 have h3:=Ψ (λl:qao=>l[p]?) h2;simp only[hU,YC hp,U2,Option.some.injEq,sU,aal] at h3;have h4:=HL h3;omega;obtain⟨k,hk,rfl⟩:=rS.mp hy;refine za _ (by simp;omega) (by simp;omega) λc hc=>?_;obtain⟨j,_,rfl⟩:=rS.mp hc;unfold sU;split<;>exact CD _
def uj(n:Int){k:Nat}(hk:k<=8):(eW n).take k=((List.range k).map (bL n)).map one:=by unfold eW;rw[<- List.map_take,List.take_range,Nat.min_eq_left hk,tu];rfl
def Jp(n:Int){sz p k:Nat}(hsz:sz<=8)(hp:p<sz):((eW n).take sz).set p (one (sH (n / 5+(k:Int))))=((List.range sz).map (sU n p k)).map one:=by
 rw[uj n hsz,tu,tu];refine Um λi=>?_;rw[Ul,hU,hU];by_cases hi:i<sz;rw[YC hi];by_cases e:p=i;subst e;rw[ε rfl,ε (by simpa using hp)];simp[sU];rw[η e];have:¬ i=p:=λz=>e z.symm;simp[sU,this];rw[Dy (by simp;omega)];split;split
 rename_i h1 h2;omega
 rfl;rfl
end EW
namespace c5
open PySem L2 VT Gen EW
open nP (bT)
noncomputable def top(i:Nat):Stmt:=PySem.Challenge.pw_slicewise_k15_calls.main.body.getD i (.Pass ⟨0,0,0,0⟩)
noncomputable abbrev nH:Stmt:=top 54
noncomputable abbrev wB:Stmt:=top 55
structure Mg(mg:qae):Prop where
 len:mg "len"=none
 range:mg "range"=none
 tuple:mg "tuple"=none
def xg(h:n<=1000):n<=sizeLine:=Gen.small h
noncomputable abbrev iW(ys:π):T:=.lst (ys.map .str)
def S8(n:Int):Prop:=0<=n/\n<2147483648
def S8.div{n:Int}(h:S8 n){e:Int}(he:0<e):S8 (n / e):=⟨Int.ediv_nonneg h.1 (by omega),Int.lt_of_le_of_lt (Int.ediv_le_self _ h.1) h.2⟩
structure Ys(ys:π):Prop where
 l3:3<=ys.length
 l8:ys.length<=8
 sm:∀y∈ys,y.length<=100
def Ys.at{ys:π}(h:Ys ys)(n:Int):∃y∈ys,km (ys.map T.str) (n % ((ys.map T.str).length:Int))=some (T.str y):=by
 have e:((ys.map T.str).length:Int)=(ys.length:Int):=by rw[cJ]
 have l3:=h.l3;have h0:0<=n % ((ys.map T.str).length:Int):=zK n (by omega);have h1:n % ((ys.map T.str).length:Int)<ys.length:=by rw[e];exact zI n (by omega)
 obtain⟨j,hj⟩:=Ug h0;have h9:j<ys.length:=by omega
 refine⟨ys[j],P_ h9,?_⟩;rw[hj];refine ak ?_;rw[hU,mz h9];rfl
def Ys.pos{ys:π}(h:Ys ys):(0:Int)<((ys.map T.str).length:Int):=by rw[cJ];have:=h.l3;omega
def Jq(ts:ξ)(q:qam):Prop:=∃(ns:qan)(j:Nat),ts=[.lst (ns.map .int),.int (j:Int)]/\q (.vw (.int (ns.getD j 0)))
def Ba(ts:ξ)(q:qam):Prop:=∃(c:Int)(m:Nat),ts=[.int c,.int (m:Int)]/\m<=8/\∀ys,pe m ys->q (.fr (iW ys))
def Jr(ts:ξ)(q:qam):Prop:=∃(c:Int)(ys:π),ts=[.int c,iW ys]/\S8 c/\Ys ys/\∀o,yk ys o->q (.vw (gf o))
def wC(f:α->β)(l:List α)(k:Nat)(h:k<=l.length):f_ (l.map f) none (some (k:Int))=(l.take k).map f:=by unfold f_;rw[cJ,HT.BP,HT.xv,Nat.min_eq_left h,List.drop_zero,Nat.sub_zero,<- List.map_take]
def adI(l:qao):((l.map one).map (·.length)).sum=l.length:=by
 induction l with
 |nil=>rfl
 |cons c l ih=>rw[fU,fU,List.sum_cons,ih];show 1+l.length=l.length+1;omega
def S9:((("":String):Str)).length=0:=by decide +kernel
def Pw{l:qao}(h:l.length<=100):((l.map one).map (·.length)).sum+(l.map one).length * ((("":String):Str)).length<=16777216:=by rw[adI,S9];omega
section
noncomputable abbrev EX:π:=qaO
def rj:aE EX qaO (aj nH):=L2.g9
def Bb(D:Df K mg "_law_cell_at" nH qaO f fd)(M:Mg mg):bW P w K mg base "_law_cell_at" qaO 1 (di K 2 Jq):=by
 refine D.hJ (oH D.F rj rfl λbB A outer s H E Ox hr ts q hG=>?_);have nd:=rj.nd;refine⟨_,(ah (bJ (xK (aa 1) (θ (bq bh bj (by rfl) M.len pA (aJ (aa 0) aW))))
    (ax (aT (qau (aI (aa 0) (aa 1)))))
    aZ)
   (ax (aT (qau ag)))),λ_=>?_⟩
 obtain⟨ns,j,rfl,hq⟩:=hG;refine xB (λh=>?_) (λh=>?_);have h':(j:Int)<((ns.map T.int).length:Int):=aae h;rw[cJ] at h';have hj:j<ns.length:=by omega
 refine⟨.int (ns.getD j 0),ak ?_,hq⟩;rw[hU,mz hj,List.getD,mz hj];rfl;have h':¬ ((j:Int)<((ns.map T.int).length:Int)):=λz=>h (ν z);rw[cJ] at h';have e:ns.getD j 0=0:=by rw[List.getD,Dy (by omega)];rfl
 rw[e] at hq;exact hq
noncomputable abbrev me:π:=["_law_cell","_law_many","_law_letters","_law_number","_law_size","_law_base","_law_names_here","_law_k","_law_here"]
def zb:aE me qaP (aj wB):=L2.g9
def zc:((["_law_cell","_law_many","_law_letters","_law_number","_law_size","_law_base","_law_names_here","#_law_k","_law_here"]:π)++(["_law_k"]:π)).Nodup:=by decide +kernel
def zd:((["_law_cell","_law_many","_law_letters","_law_number","_law_size","_law_base","_law_names_here","#_law_k","_law_here"]:π)++(["_law_k"]:π)).Nodup:=by decide +kernel
def ze:(["_law_cell","_law_many","_law_letters","_law_number","_law_size","_law_base","_law_names_here","#_law_k","_law_here"]:π).Nodup:=by decide +kernel
def Js(D:Df K mg "_law_names" wB qaP f fd)(M:Mg mg):bW P w K mg base "_law_names" qaP 1 (di K 2 Ba):=by
 refine D.hJ (oH D.F zb rfl λbB A outer s H E Ox hr ts q hG=>?_);have nd:=zb.nd;have hu:=bF.iN hr;have np:∀{i:Nat},bN ⟨H,[],Ox⟩ i:=mB;have npf:∀{is:qao},∀i∈is,bN ⟨H,[],Ox⟩ i:=λi _=>mB;refine⟨_,(ah (aX (i:=2) nd rfl (.inr rfl) (qau a9) np)
  (ah (aX (i:=3) nd rfl (.inr rfl) (qau (bH (θ (uV (θ (bH (aa 0) (θ (GJ (θ ag) (θ ag))))) (θ ag))) (θ ag))) np)
  (ah (aX (i:=4) nd rfl (.inl rfl) (qau (bS (θ ag) (θ (bH (aa 3) (θ ag))))) np)
  (ah (Cv 7 "#_law_k" np (aX (i:=5) ze rfl (.inr rfl) (qau (dU (ts:=qaQ) rfl (by rfl) (fR (by rfl) M.range (θ ag)) (λ_ _ _ _ _ _=>(bt (i:=9) zc rfl (.inl rfl) np)) (λ_ _ _ _ _ _=>dg) (λ_ _ _ _ _ _=>(ψ (aI (aa 2) (θ (bH (θ (cW (aa 3) (θ (bS (θ (uV (θ ag) (aa 9))) (θ ag))))) (θ ag)))))))) np))
  (ah (bJ (de hu (θ (bH (θ (cW (aa 3) (θ ag))) (θ ag))) (θ ag))
   (ax (Cv 7 "#_law_k" np (aT (qau (dU (ts:=qaQ) rfl (by rfl) (fR (by rfl) M.range (aa 1)) (λ_ _ _ _ _ _=>(bt (i:=9) zd rfl (.inl rfl) np)) (λ_ _ _ _ _ _=>dg) (λ_ _ _ _ _ _=>(ψ (t4 (θ a9) (aJ (θ (ic (aa 5) iL (fg (θ (bS (aa 9) (θ ag)))))) aW)))))))))
   aZ)
  (ah (eX (i:=6) nd rfl (.inl rfl) (qau (fZ ar)) np)
  (ah (ku KS rfl (fR (by rfl) M.range (aa 1)) (bt (i:=7) nd rfl (.inl rfl) np)
   (ah (eX (i:=8) nd rfl (.inl rfl) (qau (ic (aa 5) iL (fg (aa 4)))) np)
   (ah (mU 8 (ψ (aI (aa 2) (θ (bH (θ (bS (θ (cW (aa 3) (θ ag))) (aa 7))) (θ ag))))) (θ (bH (θ (cW (aa 3) (θ ag))) (aa 4))))
   (B5 [8] (ax (cX (i_ 6 BC BD bR bY (ae (ψ (t4 (θ a9) (aJ (aa 8) aW))) ar)))) npf))))
  (ax (aT (uW 6 np)))))))))),λ_=>?_⟩
 obtain⟨c,m,rfl,hm,hq⟩:=hG;refine⟨⟨by decide,by decide,by decide⟩,by decide +kernel,.inr ⟨by decide,by decide⟩,by decide,by decide,?_⟩;generalize hn:c % (10:Int) ^ (9:Int).toNat * 48271 % 2147483647=n;have n0:0<=n:=by rw[<- hn];exact zK _ (by decide)
 have n1:n<2147483647:=by rw[<- hn];exact zI _ (by decide)
 obtain⟨sz,esz⟩:=Ug (show 0<=1+n % 8 by have:=zK n (show (8:Int)≠0 by decide);omega);have adJ:1<=sz:=by have:=zK n (show (8:Int)≠0 by decide);omega
 have S_:sz<=8:=by have:=zI n (show (0:Int)<8 by decide);omega
 refine⟨rfl,by decide,by decide,by rw[d9];exact xg (by decide),?_⟩;refine gH (u:=λj=>.str (one (bL n j))) (λj hj r hr=>?_) ?_;have hj8:j<8:=hj;rw[Int.zero_add];refine⟨.inl ⟨by decide,by decide⟩,⟨by show (0:Int)<7 * (j:Int)+3;omega,by show 7 * (j:Int)+3<1073741824;omega⟩,by decide,?_⟩;exact⟨j_,_,t7 _,hr⟩;have eb:((List.range 8).map λj=>T.str (one (bL n j)))=(eW n).map T.str:=by unfold eW;rw[tu];rfl
 rw[show (8:Int).toNat=8 from rfl,eb,esz];refine⟨⟨by decide,by decide⟩,by decide,jn (λ_=>?_) (λ_=>?_)⟩;refine⟨rfl,by omega,by omega,by rw[d9];exact xg (by omega),?_⟩;rw[Dz];refine gH (u:=λk=>.str (S4 n k)) (λk hk r hr=>?_) ?_;rw[Int.zero_add];have ec:f_ ((eW n).map T.str) none (some ((k:Int)+1))=(((List.range (k+1)).map (bL n)).map one).map T.str:=by
  have:((k:Int)+1)=((k+1:Nat):Int):=by omega
  rw[this,wC T.str (eW n) (k+1) (by rw[rh];omega),uj n (by omega)]
 refine⟨((List.range (k+1)).map (bL n)).map one,?_,Pw (by simp;omega),?_⟩;show [T.lst (f_ ((eW n).map T.str) none (some ((k:Int)+1)))]=_;rw[ec];rw[glue];exact hr;have e2:((List.range m).map λk=>T.str (S4 n k))=((List.range m).map (S4 n)).map T.str:=by rw[tu];rfl
 rw[e2];exact hq _ (S6 n hm);refine⟨Gen.cR rfl,by omega,by omega,?_⟩;rw[Dz];refine qi (λk ρ=>∃b7 b8,ρ=[some (.int c,false),some (.int (m:Int),false),some (.str bT,false),some (.int n,false),some (.int (sz:Int),false),some (.lst ((eW n).map .str),false),some (.lst (((List.range k).map (alt n sz (n / 24 % (sz:Int)).toNat)).map .str),true),b7,b8]) ⟨_,_,rfl⟩ ?_ ?_;rintro k ρ hk ⟨b7,b8,rfl⟩;rw[Int.zero_add];have ec:f_ ((eW n).map T.str) none (some (sz:Int))=((eW n).take sz).map T.str:=wC T.str (eW n) sz (by rw[rh];exact S_);have p0:0<=n / 24 % (sz:Int):=zK _ (by omega);have p1:n / 24 % (sz:Int)<(sz:Int):=zI _ (by omega);obtain⟨p,ep⟩:=Ug p0;have hp:p<sz:=by omega
 have el:(((eW n).take sz).map T.str).length=sz:=by rw[cJ,P8,rh];omega
 refine⟨⟨by decide,by decide⟩,by decide,j_,_,t7 _,⟨by decide,by decide⟩,by show (0:Int)<(sz:Int);omega,p,?_,?_⟩;rw[ep];show xx (f_ ((eW n).map T.str) none (some (sz:Int))).length _=_;rw[ec,el];unfold xx;rw[ε (by omega),ε (by omega),Dz];have es:(((eW n).take sz).map T.str).set p (T.str (one (sH (n / 5+(k:Int)))))=(((List.range sz).map (sU n p k)).map one).map T.str:=by rw[<- Jp n S_ hp,List.map_set]
 refine⟨((List.range sz).map (sU n p k)).map one,?_,Pw (by simp;omega),?_,some (.int (k:Int),false),?_⟩;show [T.lst ((f_ ((eW n).map T.str) none (some (sz:Int))).set p (T.str (one (sH (n / 5+(k:Int))))))]=_;rw[ec,es];rw[cJ,cJ,N8,μ];omega;rw[glue];have eA:((List.range (k+1)).map (alt n sz (n / 24 % (sz:Int)).toNat)).map T.str=((List.range k).map (alt n sz (n / 24 % (sz:Int)).toNat)).map T.str++[T.str (alt n sz p k)]:=by rw[List.range_succ,oS,oS,ep];rfl
 rw[eA];exact⟨_,rfl⟩;rintro ρ ⟨b7,b8,rfl⟩;refine hq _ (S7 n adJ S_ ?_ (by omega));have p1:n / 24 % (sz:Int)<(sz:Int):=zI _ (by omega);omega
end
end c5
namespace VT
open PySem PySem.Spec PyProof.Rows L2 PySem.MeetsSeq PySem.SeqAt
end VT
namespace Sm
open PySem L2 VT Gen
noncomputable def top(i:Nat):Stmt:=PySem.Challenge.pw_slicewise_k15_calls.main.body.getD i (.Pass ⟨0,0,0,0⟩)
noncomputable abbrev s_same:Stmt:=top 57
structure SR(mg:qae):Prop where
 isinstance:mg "isinstance"=none
 str:mg "str"=none
 int:mg "int"=none
 bool:mg "bool"=none
 list:mg "list"=none
 tuple:mg "tuple"=none
 len:mg "len"=none
 zip:mg "zip"=none
def Lv:Nat->T->Prop
 |0,_=>False
 |n+1,t=>(∃i,t=.int i)\/(∃x,t=.str x)\/t=.aQ\/(∃ts,t=.tup ts/\ts.length<=1000/\∀u∈ts,Lv n u)\/∃ts,t=.lst ts/\ts.length<=1000/\∀u∈ts,Lv n u
def zg(n:Nat)(ts:ξ)(q:qam):Prop:=∃t,ts=[t,t]/\Lv n t/\q (.vw (.bl true))
def zh(ts:ξ):qm ts ts=ts.map λu=>.tup [u,u]:=by unfold qm;rw[List.zipWith_self]
section
noncomputable abbrev Ta:π:=["_law_found","_law_due","_law_one","_law_other"]
def wD:aE Ta qaR (aj s_same):=L2.g9
def Jt(D:Df K mg "_law_same" s_same qaR f fd):bW P w K mg base "_law_same" qaR 1 (di K 2 (zg 0)) :=
 D.hJ (oH D.F wD rfl λbB A outer s H E Ox hr ts q hG=>by obtain⟨_,_,h,_⟩:=hG;exact h.elim)
def iz{d:Nat}(D:Df K mg "_law_same" s_same qaR f fd)(M:SR mg)(C:bW P w K mg base "_law_same" qaR d (di K 2 (zg n))):bW P w K mg base "_law_same" qaR (d+1) (di K 2 (zg (n+1))):=by
 obtain⟨adK,Zu,Tb,k_same,Tc,Td⟩:=C;refine D.hJ (oH D.F wD rfl λbB A outer s H E Ox hr ts q hG=>?_);have nd:=wD.nd;have hu:=bF.iN hr;have np:∀{i:Nat},bN ⟨H,[],Ox⟩ i:=mB;refine⟨_,(ah (bJ (VW.vc (B1 (eF (cy eZ (by rfl) M.isinstance (by rfl) M.tuple eG (aa 1))) (uS (eF (cy m5 (by rfl) M.isinstance (by rfl) M.list m7 (aa 1))))))
    (ah (bJ (VW.vc (B1 (xJ hu (θ (cy eZ (by rfl) M.isinstance (by rfl) M.tuple eG (aa 0))) (θ (cy eZ (by rfl) M.isinstance (by rfl) M.tuple eG (aa 1)))) (uS (xJ hu (θ (cy m5 (by rfl) M.isinstance (by rfl) M.list m7 (aa 0))) (θ (cy m5 (by rfl) M.isinstance (by rfl) M.list m7 (aa 1)))))))
      (ax (aT (qau tS)))
      aZ)
    (ah (bJ (xJ hu (θ (bq bh bj (by rfl) M.len pA (aJ (aa 0) aW))) (θ (bq bh bj (by rfl) M.len pA (aJ (aa 1) aW))))
      (ax (aT (qau tS)))
      aZ)
    (ah (ku KS rfl (Hi (by rfl) M.zip (ai 0) (ai 1)) (mV (n:=2) rfl (cY (bt (i:=2) nd rfl (.inl rfl) np) (cY (bt (i:=3) nd rfl (.inl rfl) np) jS)))
      (ax (bJ (mR (eF (Cb Td (hr.mono (by omega)) (by rfl) Tb k_same Tc (ae (ai 2) (ae (ai 3) ar)))))
        (ax (aT (qau tS)))
        aZ)))
    (ax (aT (qau tS))))))
    aZ)
   (ah (bJ (VW.vc (B1 (eF (cy ie (by rfl) M.isinstance (by rfl) M.str tW (aa 1))) (uS (xY (aa 1) (θ c7)))))
     (ax (aT (qau (pS (GK hu (θ (cy ie (by rfl) M.isinstance (by rfl) M.str tW (aa 0))) (θ (cy ie (by rfl) M.isinstance (by rfl) M.str tW (aa 1)))) (Aj (GK hu (aa 0) (aa 1)))))))
     aZ)
   (ax (aT (qau (pS (cy GY (by rfl) M.isinstance (by rfl) M.int WI (aa 0)) (pS (Q0 (cy D5 (by rfl) M.isinstance (by rfl) M.bool Rx (aa 0))) (Aj (GK hu (aa 0) (aa 1)))))))))),λ_=>?_⟩
 obtain⟨t,rfl,hL,hq⟩:=hG;obtain⟨i,rfl⟩|⟨x,rfl⟩|rfl|⟨l,rfl,hll,hl⟩|⟨l,rfl,hll,hl⟩:=hL
 . repeat refine⟨rfl,?_⟩
   show q (.vw (.bl (decide (i=i))));rw[ν rfl];exact hq
 . repeat refine⟨rfl,?_⟩
   show q (.vw (.bl (decide (x=x))));rw[ν rfl];exact hq
 . repeat refine⟨rfl,?_⟩
   refine⟨mE _,?_⟩;show q (.vw (.bl (eqT .aQ .aQ)));simp only[eqT];exact hq
 . repeat refine⟨rfl,?_⟩
   refine m8 (c:=!decide ((l.length:Int)=(l.length:Int))) (by simp) ?_;refine⟨λ_ ρ=>∃b2 b3,ρ=[some (.tup l,false),some (.tup l,false),b2,b3],⟨_,_,rfl⟩,λi t ρ' ht hp=>?_,λρ' hp=>?_⟩;obtain⟨b2,b3,rfl⟩:=hp;rw[zh,hU] at ht;cases e:l[i]? with
   |none=>rw[e] at ht;cases ht
   |some u=>rw[e] at ht;cases ht;exact⟨rfl,rfl,rfl,u,rfl,hl u (eS e),_,_,rfl⟩
   obtain⟨b2,b3,rfl⟩:=hp;exact hq
 . repeat refine⟨rfl,?_⟩
   refine m8 (c:=!decide ((l.length:Int)=(l.length:Int))) (by simp) ?_;refine⟨λ_ ρ=>∃b2 b3,ρ=[some (.lst l,false),some (.lst l,false),b2,b3],⟨_,_,rfl⟩,λi t ρ' ht hp=>?_,λρ' hp=>?_⟩;obtain⟨b2,b3,rfl⟩:=hp;rw[zh,hU] at ht;cases e:l[i]? with
   |none=>rw[e] at ht;cases ht
   |some u=>rw[e] at ht;cases ht;exact⟨rfl,rfl,rfl,u,rfl,hl u (eS e),_,_,rfl⟩
   obtain⟨b2,b3,rfl⟩:=hp;exact hq
def Nz(D:Df K mg "_law_same" s_same qaR f fd)(M:SR mg):bW P w K mg base "_law_same" qaR 7 (di K 2 (zg 6)):=iz D M (iz D M (iz D M (iz D M (iz D M (iz D M (Jt D))))))
end
end Sm
namespace NK
open PySem PySem.Spec PySem.Calls PyProof.Rows L2
variable{s:Shared}
def NA{k:List Key}(hk:(tupleKind (aK P w)).is h k a):∃items,h.IsTuple a items:=by obtain⟨o,items,n,ho,hc,hd,hi⟩:=hk;exact⟨items,o,ho,hc,n,hd⟩
def Ju{i':Int}{ti:Tok}{d:Addr}{o:Obj}{es ep}{xs:List (List Key×Addr×Value)}{z:Int}{Q:Option Nat->Shared->Prop}(hu:A.units<cLine)(ho:s.heap.get? d=some o)(hd:o.data=.dict es ep)(he:es.toList=xs.map (entryOfKey (tupleKind (aK P w))))(xf:∀x∈xs,(tupleKind (aK P w)).is s.heap x.1 x.2.1)(hq:Q none s) :
  wpAny (model P w) A (dictFind d (.int i' ti) z) Q E s :=
 yH (.inr ⟨_,_,rfl⟩) (λ_=>rfl) ho hd he (λx hx=>by obtain⟨items,hT⟩:=NA (xf x hx);exact⟨SeqAt.EqAt.tuple_int i' ti hT hu,Iq (xf x hx)⟩) hq
def sV(d:Addr)(hd:(d==sysModules)=false)(dflt:Value)(i':Int)(ti:Tok) :
  MeetsIn P w (Builtin.«dict.get» ⟨[.ref d,.int i' ti,dflt],[]⟩) (λA R s=>A.units+1<cLine/\∃xs,s.heap.DictOfH (tupleKind (aK P w)) d xs/\∀t,R (.ok (.ret dflt)) {s with toks:=t}) :=
 .of_wp λA R s ⟨hu,xs,hm,h⟩=>by
  obtain⟨o,es,ep,ho,_,O9,he,xf,hn⟩:=hm;show wpAny _ _ (dictGet d (.int i' ti) >>= _) _ _ s;refine δ ?_;unfold dictGet
  try with_reducible refine v9 ?_
  refine δ (wpAny_pyHash_int (δ (Ju (by omega) ho O9 he xf ?_)));refine ζ ?_;show wpAny _ _ (Builtin.Dict.missed d (.int i' ti) >>= _) _ _ _;exact δ (wpAny_missed_other hd (ζ ⟨dflt,rfl,h _⟩))
end NK
namespace VT
open PySem PySem.Spec PyProof.Rows L2
section
variable{f:Expr}{td ty tx:TE}
def Te(td ty tx:TE):TE:=λσ H Q=>td σ H λx H1=>∃a,x=.ref a/\IsD H1 a/\ty σ H1 λy H2=>tx σ H2 λz H3=>(∃o,sF H3 a y o/\Q (o.getD z) H3)\/∃i a8,y=.int i/\Rd H3 a (.dT a8)/\Q z H3
def Jv(hu:X.A.units+1<cLine)(ho:PE X o td)(he:PE X e ty)(hf:PE X f tx)(m:M2 X o "get" apos e f aN):PE X (.Call (.Attribute o "get" apos) [e,f] [] aN) (Te td ty tx):=by
 intro γ s σ H Q I h;refine aap m.base m.Zd m.line Ue Ke YJ (b_ (ho γ s σ H _ I h) λu s1 ⟨x,H1,I1,rx,a,ex,d,q1⟩=>?_);subst ex;obtain rfl:u=Value.ref a:=rx;obtain⟨t1,t2,_⟩:=Ho I1 d;refine⟨t1,t2,?_⟩;rw[m.trees];refine Uh rfl (UW (KQ (b_ (he γ s1 σ H1 _ I1 q1) λiv s2 ⟨y,H2,I2,ry,q2⟩ =>
  KQ (b_ (hf γ s2 σ H2 _ I2 q2) λfv s3 ⟨z,H3,I3,rz,q3⟩=>U0 ?_))))
 obtain⟨ov,g,q3⟩|⟨i,a8,rfl,hd,q3⟩:=q3
 exact Hq hu I3 g ry rz λw' s4 I4 rw'=>⟨_,H3,I4,rw',q3⟩;obtain⟨ti,rfl⟩:=ry;obtain⟨_,nm,xs,_,dd⟩:=tZ I3.cj hd;exact aah Ke dd.typeIs Ui (Ud _ _ _) (NK.sV (P:=X.prog) (w:=X.w) a nm fv i ti) ⟨by omega,xs,dd,λt=>⟨z,H3,I3.tok _,rz,q3⟩⟩
end
section
variable{a:Expr}{fc:FE}{pos:Pos}
noncomputable def adL(fa fb fc:FE):FP:=λρ Q=>fa ρ λx=>match R1 x with
 |some (ks,ts)=>fb ρ λy=>fc ρ λz=>match y with
  |.kt k=>Q (.vw ((cZ ks ts k).getD z))
  |.int _=>Q (.vw z)
  |_=>False
 |none=>False
def Tf(hu:X.A.units+1<cLine)(ha:VR X Z a fa)(hb:VE X Z b fb)(hc:VE X Z c fc)(m:M2 X a "get" apos b c aN):VP X Z (.Call (.Attribute a "get" apos) [b,c] [] aN) (adL fa fb fc):=.mk λtm=>PE.weak (Jv hu (ha tm) (hb tm) (hc tm) m) λσ H Q ⟨ρ,O,q,I,hf,k⟩ =>
 ⟨ρ,O,_,I,hf,λx hx v H1 s1 a1=>by
  split at hx
  rename_i ks ts ed
  obtain⟨l,vs,rfl,hl,hd,hv⟩:=Mu a1 ed;refine⟨l,rfl,.inr ⟨_,.inl hd⟩,ρ,O,_,I.same s1,hx,λy hy w H2 s2 a2=>⟨ρ,O,_,(I.same s1).same s2,hy,λz hz u H3 s3 a3=>?_⟩⟩;split at hz
  rename_i kk
  simp only[At] at a2;obtain⟨b,rfl,hb,_⟩:=a2;refine .inl ⟨_,.inr ⟨_,kk,b,.inl (s3 _ _ (s2 _ _ hd)),rfl,s3 _ _ hb,rfl⟩,?_⟩;rw[yh];exact k _ hz _ H3 ((s1.trans s2).trans s3) ⟨((I.same s1).same s2).same s3,Ms ((hv.same s2).same s3) a3⟩
  rename_i i
  simp only[At] at a2;subst a2;exact .inr ⟨i,_,rfl,.inl (s3 _ _ (s2 _ _ hd)),k _ hz _ H3 ((s1.trans s2).trans s3) ⟨((I.same s1).same s2).same s3,a3⟩⟩;exact hz.elim;exact hx.elim⟩
noncomputable def Jw(n:Nat)(f g:FE):FS:=λd ρ=>match ρ[n]? with
 |some (some (.dt ks ts,true))=>f ρ λv=>g ρ λy=>match y with
  |.kt k=>ts.length<16777216/\d.nx (ρ.set n (some (.dt (HI ks k) (t6 ks ts k v),true)))
  |_=>False
 |_=>False
def Jx(n:Nat){f g:FE}{i:Expr}(hu:X.A.units+1<cLine)(he:VE X Z e f)(hi:VE X Z i g)(hN:X.N[n]?=some x:=by rfl)(hv:jQ X.env.scope x:=by exact jvv rfl)(hd:gq x:=by decide)(fH:rQ x:=by decide)(hs:swapsWith e (some (.Subscript (.Name x p) i dX)) pos.line X.env=pure false:=by rfl) :
  VS X Z (.Assign [.Subscript (.Name x p) i dX] e pos) (Jw n f g):=.mk λtm=>
 PS.weak (o6 hu (bP hN hv hd fH) (hi tm) (he tm) hs) λD σ H ⟨ρ,O,d,I,q,F⟩=>by
  unfold Jw at q;split at q
  rename_i ks ts e0
  obtain⟨l,h1,h2,xs,hl,h3,h4⟩:=I.root e0;have ha:l∈av Z O:=cA _ (aH.mpr (eS h1));refine⟨ρ,O,_,I,q,λt ht v H1 s1 a1=>⟨.ref l,h2,ρ,O,_,I.same s1,ht,λy hy w H2 s2 a2=>?_⟩⟩;split at hy
  rename_i kk
  obtain⟨hlen,hj⟩:=hy;simp only[At] at a2;obtain⟨b,rfl,hb,_⟩:=a2;have OM:=s2 _ _ (s1 _ _ h3);have q:=Xd ks xs kk v hl;have hz:(ks.zip xs).length<sizeLine:=by rw[μ,KR,hl,KU,h4.length];omega
  refine⟨l,_,rfl,sG.t OM hb hz,?_⟩;rw[q.1];refine F.nx O _ σ _ (((I.same s1).same s2).wrote (t':=.dt (HI ks kk) (t6 ks ts kk t)) e0 h1 ⟨t6 ks xs kk v,q.2,aC,?_⟩) hj;exact az.wrote ha OM rfl (R0 ((h4.same s1).same s2) (a1.same s2));exact hy.elim;exact q.elim
end
section
variable{pos:Pos}
def Px(j:Nat)(f:FP):FP:=λρ Q=>match ρ[j]? with
 |some (some (t,true))=>f (ρ.set j (some (t,false))) λr=>match r with
  |.vw (.int i)=>Q (.vw (.int i))
  |_=>False
 |_=>False
def NB(j:Nat){f:FP}(h:∀Ox,VP X ⟨λ_=>none,[],Ox⟩ e f):VP X Z e (Px j f):=.mk λtm=>PE.weak (h Z.Ox tm) λσ H Q ⟨ρ,O,q,I,hf,k⟩=>by
 unfold Px at hf;split at hf
 rename_i t e0
 have I0:ay X.K ⟨λ_=>none,[],Z.Ox⟩ tm O ρ σ H:=⟨I.lσ,I.lO,I.sl,I.nd,λa h=>⟨.inr rfl,(I.own a h).2⟩,λp hp=>(nomatch hp),I.ox,λb o h=>(nomatch h),I.oB⟩;refine⟨_,_,_,I0.BG mB e0,hf,λr hr v H' s z=>?_⟩;split at hr
 rename_i i
 have z2:=z.2;simp only[At] at z2;exact k _ hr v H' s ⟨I.same s,by simp only[At];exact z2⟩;exact hr.elim;exact hf.elim
noncomputable def Tg(n:Nat)(f:FX)(fi:FE):FS:=λd ρ=>f ρ λρ' r=>match r with
 |.vw v=>(match ρ'[n]? with
  |some (some (.dk ks ts,true))=>fi ρ' λj=>match vy j with
   |some k=>ts.length<16777216/\d.nx (ρ'.set n (some (.dk (dP ks k) (bO ks ts k v),true)))
   |none=>False
  |_=>False)
 |_=>False
def Jy(n:Nat){f:FX}{fi:FE}{i:Expr}(hu:X.A.units+1<cLine)(he:VX X Z e f)(hi:VR X Z i fi)(hN:X.N[n]?=some x:=by rfl)(hv:jQ X.env.scope x:=by exact jvv rfl)(hd:gq x:=by decide)(fH:rQ x:=by decide)(hs:swapsWith e (some (.Subscript (.Name x p) i dX)) pos.line X.env=pure false:=by rfl) :
  VS X Z (.Assign [.Subscript (.Name x p) i dX] e pos) (Tg n f fi):=.mk λtm=>
 PS.weak (o6 hu (bP hN hv hd fH) (hi tm) (he tm) hs) λD σ H ⟨ρ0,O0,d,I0,q0,F⟩=>⟨ρ0,O0,_,I0,q0,λρ r q O v H1 z=>by
  cases r with
  |fr t=>exact q.elim
  |vw t=>
    obtain⟨I,a1⟩:=z;dsimp only at q;split at q
    rename_i ks ts e0
    obtain⟨l,h1,h2,xs,hl,h3,h4⟩:=I.root e0;have ha:l∈av Z O:=cA _ (aH.mpr (eS h1));refine⟨.ref l,h2,ρ,O,_,I,q,λj hj w H2 s2 a2=>?_⟩;split at hj
    rename_i kk ek
    obtain⟨hlen,hj⟩:=hj;have OM:=s2 _ _ h3;have q:=Av ks xs kk v hl;have hz:(ks.zip xs).length<sizeLine:=by rw[μ,KR,hl,KU,h4.length];omega
    rw[iO a2 ek];refine⟨l,_,rfl,sG.k OM hz,?_⟩;rw[q.1];refine F.nx O _ σ _ ((I.same s2).wrote (t':=.dk (dP ks kk) (bO ks ts kk t)) e0 h1 ⟨bO ks xs kk v,q.2,aC,?_⟩) hj;exact az.wrote ha OM rfl (qp (h4.same s2) (a1.same s2));exact hj.elim;exact q.elim⟩
def Sub(t t':T):Prop:=∀K H A v,At K H A t v->At K H A t' v
def Qr(i:Nat)(g:FS):FS:=λd ρ=>∃t t',ρ[i]?=some (some (t,false))/\Sub t t'/\g d (ρ.set i (some (t',false)))
def C3{rest:qaq}{g:FS}(i:Nat)(h:oF X Z rest g):oF X Z rest (Qr i g):=.mk λtm=>hY.ia (h tm) λD σ H ⟨ρ,O,d,I,⟨t,t',e0,hs,q⟩,F⟩=>by refine⟨_,O,d,⟨by rw[Fq];exact I.lσ,by rw[Fq];exact I.lO,λj e hj=>?_,I.nd,I.own,I.par,I.ox,I.keep,I.oB⟩,q,F⟩;rw[Ul] at hj;by_cases Wf:i=j;subst Wf;rw[ε rfl] at hj;have h9:=(fQ.mp e0).1;rw[ε h9] at hj;cases hj;obtain⟨o,s,g1,g2,g3⟩:=I.sl i _ e0;obtain⟨h1,v,h2,h3⟩:=g3;exact⟨o,s,g1,g2,h1,v,h2,hs _ _ _ _ h3⟩;rw[η Wf] at hj;exact I.sl j e hj
end
noncomputable def jL:Key->T
 |.inl i=>.int i
 |.inr x=>.str x
theorem wG{K:Δ}{H:Hp}{A:ο}:∀k:List Key,az K H A (k.map jL) (k.map kV)
 |[]=>az.nil
 |.inl i::k=>az.cons bz (wG k)
 |.inr x::k=>az.cons cD (wG k)
mutual
noncomputable def Jz:T->T
 |.kt k=>.tup (k.map jL)
 |.tup ts=>.tup (KO ts)
 |.lst ts=>.lst (KO ts)
 |t=>t
noncomputable def KO:ξ->ξ
 |[]=>[]
 |t::ts=>Jz t::KO ts
end
theorem wH:∀ts:ξ,KO ts=ts.map Jz
 |[]=>rfl
 |t::ts=>by rw[KO,wH ts];rfl
section
variable{A:ο}
mutual
theorem JA:∀{t:T}{v:V},At K H A t v->At K H A (Jz t) v
 |.kt k,v,h=>by simp only[At] at h;obtain⟨a,rfl,h1,_⟩:=h;exact bU (dz.of h1) (wG k)
 |.tup ts,v,h=>by simp only[At] at h;simp only[Jz,At];obtain⟨a,vs,e,h1,h2⟩:=h;exact⟨a,vs,e,h1,Bc h2⟩
 |.lst ts,v,h=>by simp only[At] at h;simp only[Jz,At];obtain⟨a,vs,e,h1,h2⟩:=h;exact⟨a,vs,e,h1,Bc h2⟩
 |.aQ,v,h | .bl _,v,h | .int _,v,h | .str _,v,h | .dk _ _,v,h | .ob _,v,h | .ty _,v,h | .dt _ _,v,h | .ins _ _ _,v,h | .pin _ _,v,h | .dc _ _ _,v,h=>h
theorem Bc:∀{ts:ξ}{vs:Ω},az K H A ts vs->az K H A (KO ts) vs
 |[],vs,h=>h
 |t::ts,vs,h=>by simp only[az] at h;simp only[KO,az];obtain⟨v,r,e,h1,h2⟩:=h;exact⟨v,r,e,JA h1,Bc h2⟩
end
end
def JB(t:T):Sub t (Jz t):=λK H A v h=>JA h
end VT
namespace VT
open PySem PySem.Spec PyProof.Rows L2 PySem.MeetsSeq PySem.SeqAt
noncomputable def rk(k:Key)(u:Value):Bool:=match u,k with
 |.int i _,.inl j=>decide (i=j)
 |.str y _,.inr z=>decide (y=z)
 |_,_=>false
noncomputable def uk(z:Str×Key):qag->Bool
 |[.str x _,u]=>decide (x=z.1) && rk z.2 u
 |_=>false
noncomputable def C4(s:Shared)(z:Str×Key):Value->Bool
 |.ref a=>match s.heap.get? a with
  |some o=>match o.data with
   |.seq items _=>uk z items.toList
   |_=>false
  |none=>false
 |_=>false
noncomputable def Bd(p:Str×Key):T:=.tup [.str p.1,jL p.2]
def C5(x y:Str):eqT (.str x) (.str y)=decide (x=y):=by simp only[eqT];by_cases h:x=y;rw[h];simp;rw[ι h];simpa using h
theorem NC:∀a b:Key,eqT (jL a) (jL b)=decide (a=b)
 |.inl i,.inl j=>by show eqT (.int i) (.int j)=_;simp only[eqT];by_cases h:i=j;rw[h];simp;rw[ι (λz=>h (Sum.inl.inj z))];simpa using h
 |.inl i,.inr y=>by show eqT (.int i) (.str y)=_;simp[eqT]
 |.inr x,.inl j=>by show eqT (.str x) (.int j)=_;simp[eqT]
 |.inr x,.inr y=>by show eqT (.str x) (.str y)=_;rw[C5];by_cases h:x=y;rw[h];simp;rw[ι h,ι (λz=>h (Sum.inr.inj z))]
def Th(p z:Str×Key):(decide (p.1=z.1) && decide (p.2=z.2))=decide (p=z):=by rw[N9];simp only[oR,aaj];exact⟨λ⟨a,b⟩=>Prod.ext a b,λh=>⟨by rw[h],by rw[h]⟩⟩
def Ti{p z:Str×Key}{aP:qag}(r:Vals [.str p.1,kV p.2] aP):uk z aP=(decide (p.1=z.1) && decide (p.2=z.2)):=by
 cases r with
 |cons r1 r=>
  cases r with
  |cons r2 r=>
   cases r;obtain⟨t,rfl⟩:=r1;obtain⟨x,k⟩:=p;cases k with
   |inl i=>
    obtain⟨t2,rfl⟩:=r2;obtain⟨y,kz⟩:=z;cases kz with
    |inl j=>simp only[uk,rk];congr 1;rw[N9];simp
    |inr y=>simp[uk,rk]
   |inr x2=>
    obtain⟨t2,rfl⟩:=r2;obtain⟨y,kz⟩:=z;cases kz with
    |inl j=>simp[uk,rk]
    |inr y=>simp only[uk,rk];congr 1;rw[N9];simp
section
variable{s:Shared}
def C6(I:Inv X γ σ H s){p z:Str×Key}(h:dz X.K H a [.str p.1,kV p.2]):C4 s z (.ref a)=(decide (p.1=z.1) && decide (p.2=z.2)):=by obtain⟨aP,r,⟨o,ho,hc,n,hd⟩,_⟩:=I.tuple h;show (match s.heap.get? a with|some o=>_|none=>_)=_;rw[ho];dsimp only;rw[hd];exact Ti r
def zi(k:Key):lp (jL k)=true:=by cases k<;>rfl
def C7{A:ο}(k:Key):At K H A (jL k) (kV k):=by cases k<;>simp only[jL,kV,At]
def X_(I:Inv X γ σ H s)(hu:A.units+1<cLine){b:Addr}{p z:Str×Key}(ha:dz X.K H a [.str p.1,kV p.2])(hb:dz X.K H b [.str z.1,kV z.2]):EqAt A s (.ref a) (.ref b) (C4 s z (.ref a)):=by
 rw[C6 I ha];obtain⟨aP,r,tp,_⟩:=I.tuple ha;obtain⟨uU,r2,tp2,_⟩:=I.tuple hb;have h0:∀(j:Nat)(h1:j<aP.toArray.size)(h2:j<uU.toArray.size),EqAt A.in1 s aP.toArray[j] uU.toArray[j] (if j=0 then decide (p.1=z.1) else decide (p.2=z.2)):=by
  cases r with
  |cons x1 t=>cases t with
   |cons x2 t=>
    cases t;cases r2 with
    |cons y1 t=>cases t with
     |cons y2 t=>
      cases t;intro j h1 h2
      match j,h1 with
      |0,_=>have:=B3 (X:=X) (H:=H) (s:=s) (A:=A.in1) (O:=[]) (O':=[]) (t:=.str p.1) (u:=.str z.1) rfl rfl cD cD x1 y1;rw[C5] at this;exact this
      |1,_=>have:=B3 (X:=X) (H:=H) (s:=s) (A:=A.in1) (O:=[]) (O':=[]) (zi p.2) (zi z.2) (C7 _) (C7 _) x2 y2;rw[NC] at this;exact this
      |j+2,h1=>exact absurd h1 (by simp)
 have e1:=r.length;have e2:=r2.length;have:=SeqAt.RcAt.tuples tp tp2 (Nat.lt_of_succ_lt hu) h0;simp only[jP] at this;rw[<- e1,<- e2] at this;refine xI (k:=decide (p.1=z.1) && decide (p.2=z.2)) ?_ (λe=>?_) λx t e=>by cases e
 have e3:((List.range (min [V.str p.1,kV p.2].length [V.str z.1,kV z.2].length)).all (λj=>if j=0 then decide (p.1=z.1) else decide (p.2=z.2)) && [V.str p.1,kV p.2].length==[V.str z.1,kV z.2].length)=(decide (p.1=z.1) && decide (p.2=z.2)):=by show ((List.range 2).all _ && true)=_;simp[List.range_succ]
 rw[e3] at this;exact this;rw[<- C6 I ha,e,C6 I hb];simp
def Py{A:ο}{p:Str×Key}(h:At K H A (Bd p) v):∃a,v=.ref a/\dz K H a [.str p.1,kV p.2]:=by
 unfold Bd at h;simp only[At,az] at h;obtain⟨a,vs,rfl,h1,v1,r1,rfl,rfl,v2,r2,rfl,h2,rfl⟩:=h;refine⟨a,rfl,?_⟩;obtain⟨x,k⟩:=p;cases k with
 |inl i=>simp only[jL,At] at h2;subst h2;exact h1
 |inr y=>simp only[jL,At] at h2;subst h2;exact h1
def EY(hu:X.A.units+101<cLine):Li X "list.index" (λx xs H Q=>∃(p b:Addr)(as:ο)(ps:List (Str×Key))(z:Str×Key)(j:Nat),x=.ref p/\xs=[.ref b]/\gw X.K H p (as.map V.ref)/\Paired (λa p=>dz X.K H a [.str p.1,kV p.2]) as ps/\dz X.K H b [.str z.1,kV z.2]/\ps[j]?=some z/\(∀i,i<j->ps[i]?≠some z)/\ps.length<=1000/\Q (.int (j:Int)) H):=by
 intro γ s σ H x xs v us Q I rx rs h;obtain⟨p,b,as,ps,z,j,rfl,rfl,hq,hp,hb,hj,VJ,hl,q⟩:=h;cases rx;obtain⟨u,rfl,ru⟩:=vals1 rs;obtain rfl:u=Value.ref b:=ru;obtain⟨aP,rv,pl,_⟩:=I.list hq;obtain⟨⟨cls,dd,data,sl⟩,ho,hc,n,hd⟩:=pl.isList;simp only at hc hd;subst hc hd;have ev:∀{as:ο}{us:qag},Vals (as.map V.ref) us->us=as.map Value.ref:=by
  intro as;induction as with
  |nil=>intro us h;cases h;rfl
  |cons a as ih=>intro us h;cases h with|cons r t=>rw[fU,<- ih t];cases r;rfl
 have e:=ev rv;subst e;have hal:=hp.length;have OT:j<ps.length:=(fQ.mp hj).1;have key:∀(i:Nat)(hi:i<(as.map Value.ref).toArray.size),C4 s z (as.map Value.ref).toArray[i]=decide (ps[i]?=some z):=by
  intro i hi;have Ku:i<as.length:=by simpa using hi
  have e3:(as.map Value.ref).toArray[i]=Value.ref as[i]:=by simp
  obtain⟨p',e4,e5⟩:=gF hp (mz Ku);rw[e3,C6 I e5,Th,e4];rw[N9];simp
 refine call_meets PySem.F.slot_list_index ⟨_,ho,rfl⟩ PySem.F.entry_list_index (PySem.F.args_list_index_2 _ _)
  (list_indexAt p (as.map Value.ref).toArray n dd sl (.ref b) (C4 s z) j (by simp;omega) (by omega) ?_ ?_) ⟨ho,λy hy=>?_,⟨.int (j:Int),H,I.tok _,⟨_,rfl⟩,q⟩⟩
 rw[key];exact ν hj;intro m hm h9;rw[key];exact ι (VJ m h9);have hy':y∈as.map Value.ref:=by simpa using hy
 obtain⟨a,ha,rfl⟩:=rS.mp hy';obtain⟨p',_,e5⟩:=du hp ha;exact X_ I (by have:X.A.in1.units<=X.A.units+1:=cS _;omega) e5 hb
end
section
variable{fo:FE}
noncomputable def ND(fo:FE)(g:FA):FP:=λρ Q=>fo ρ λx=>match x with
 |.lst ts=>g ρ λy=>∃(ps:List (Str×Key))(z:Str×Key)(j:Nat),ts=ps.map Bd/\y=[Bd z]/\ps[j]?=some z/\(∀i,i<j->ps[i]?≠some z)/\ps.length<=1000/\Q (.vw (.int (j:Int)))
 |_=>False
theorem JC{K:Δ}{H:Hp}{A:ο}:∀{ps:List (Str×Key)}{vs:Ω},az K H A (ps.map Bd) vs->∃as:ο,vs=as.map V.ref/\Paired (λa p=>dz K H a [.str p.1,kV p.2]) as ps
 |[],vs,h=>⟨[],by simpa only[Km,az] using h,.nil⟩
 |p::ps,vs,h=>by simp only[fU,az] at h;obtain⟨v,r,rfl,h1,h2⟩:=h;obtain⟨as,rfl,h3⟩:=JC h2;obtain⟨a,rfl,h4⟩:=Py h1;exact⟨a::as,rfl,.cons h4 h3⟩
def zj(hu:X.A.units+101<cLine)(ho:VR X Z o fo)(he:Om X Z [e] g)(dj:attributeBase o "index" X.env (eval o X.env)=eval o X.env:=by rfl)(kn:((backTo aN (starEach [e] X.env)).all (λx=>!x.1) && (backToKw aN (keywordEach [] X.env)).all (λx=>x.1.isSome)
    && decide (([e]:qap).length+([]:List Keyword).length+(if ([]:List Keyword).isEmpty then 0 else 1)<30))=true:=by rfl)(dm:(apos.endLine==aN.line)=true:=by rfl)(hs:starEach [e] X.env=(false,eval e X.env)::starEach [] X.env:=by rfl)(dY:(backTo aN (starEach [] X.env)).any (·.1)=false:=by rfl) :
  VP X Z (.Call (.Attribute o "index" apos) [e] [] aN) (ND fo g):=.mk λtm=>
 PE.weak (pK Uc PySem.F.slot_list_index PySem.F.type_list_index (EY hu) (ho tm) (he tm) dj kn dm hs dY) λσ H Q ⟨ρ,O,q,I,hf,k⟩ =>
  ⟨ρ,O,_,I,hf,λx hx v H1 s1 a1=>by
    split at hx
    rename_i ts
    obtain⟨p,vs,rfl,h1,h2⟩:=a1.lst;refine⟨.inl ⟨rfl,vs,h1⟩,ρ,O,_,I.same s1,hx,λy hy w H2 s2 a2=>?_⟩;obtain⟨ps,z,j,rfl,rfl,hj,VJ,hl,hq⟩:=hy;obtain⟨u,rfl,a3⟩:=dB a2;obtain⟨as,rfl,hp⟩:=JC (h2.same s2);obtain⟨b,rfl,hb⟩:∃b,u=.ref b/\dz X.K H2 b [.str z.1,kV z.2]:=by
     obtain a3|⟨b,_,a3⟩:=a3
     exact Py a3;exact a3.elim
    exact⟨p,b,as,ps,z,j,rfl,rfl,h1.imp (λz=>Rd.same s2 z) id,hp,hb,hj,VJ,hl,k _ hq _ H2 (s1.trans s2) ⟨(I.same s1).same s2,bz⟩⟩;exact hx.elim⟩
end
end VT
namespace VT
open PySem PySem.Spec PyProof.Rows L2
def AN(K:Δ)(H:Hp)(A:ο)(O:HD)(ρ:En):List (Option (Nat×Bool))->ξ->Ω->Prop
 |[],ts,vs=>ts=[]/\vs=[]
 |none::ms,ts,vs=>∃t gz v fq,ts=t::gz/\vs=v::fq/\At K H A t v/\AN K H A O ρ ms gz fq
 |some k::ms,ts,vs=>∃a t gz fq,ts=t::gz/\vs=.ref a::fq/\ρ[k.1]?=some (some (t,true))/\O[k.1]?=some (some a)/\AN K H A O ρ ms gz fq
noncomputable def lAN(X:Cx)(Z:Zc)(tm:qab)(ms:List (Option (Nat×Bool)))(f:FA):TA:=λσ H Q=>∃ρ O q,ay X.K Z tm O ρ σ H/\f ρ q/\∀ts,q ts->∀vs H',aO H H'->AN X.K H' (av Z O) O ρ ms ts vs->Q vs H'
def Tj(X:Cx)(Z:Zc)(es:qap)(ms:List (Option (Nat×Bool)))(f:FA):Prop:=Bx λtm=>PA X es (lAN X Z tm ms f)
instance{X:Cx}{Z:Zc}{es:qap}{ms:List (Option (Nat×Bool))}{f:FA}:CoeFun (Tj X Z es ms f) λ_=>∀tm,PA X es (lAN X Z tm ms f):=⟨λh=>Bx.h h⟩
section
def gN:Tj X Z [] [] oE:=.mk λtm=>PA.weak cC λσ H Q ⟨ρ,O,q,I,hf,k⟩=>k _ hf [] H (aO.refl H) ⟨rfl,rfl⟩
def fF{ms:List (Option (Nat×Bool))}{f:FE}(h:VE X Z e f)(h':Tj X Z es ms g)(hs:starEach (e::es) X.env=(false,eval e X.env)::starEach es X.env:=by rfl):Tj X Z (e::es) (none::ms) (dI f g) :=
 .mk λtm=>PA.weak (bf (h tm) (h' tm) hs) λσ H Q ⟨ρ,O,q,I,hf,k⟩=>⟨ρ,O,_,I,hf,λt ht v H1 s1 a1=>⟨ρ,O,_,I.same s1,ht,λts dZ vs H2 s2 a2=>k _ dZ _ H2 (s1.trans s2) ⟨t,ts,v,vs,rfl,rfl,a1.same s2,a2⟩⟩⟩
def gO(j:Nat)(b:Bool){ms:List (Option (Nat×Bool))}{py:Pos}(h':Tj X Z es ms g)(hN:X.N[j]?=some y:=by rfl)(hv:jQ X.env.scope y:=by exact jvv rfl)(hd:gq y:=by decide)(fH:rQ y:=by decide)(hs:starEach (.Name y py::es) X.env=(false,eval (.Name y py) X.env)::starEach es X.env:=by rfl):Tj X Z (.Name y py::es) (some (j,b)::ms) (dI (lq j) g) :=
 .mk λtm=>PA.weak (bf (bP hN hv hd fH) (h' tm) hs) λσ H Q ⟨ρ,O,q,I,hf,k⟩=>by
  have Cd:lq j ρ λt=>g ρ λts=>q (t::ts):=hf;unfold lq at Cd;split at Cd
  rename_i t e0
  obtain⟨a,h1,h2,h3⟩:=I.root e0;exact⟨.ref a,h2,ρ,O,_,I,Cd,λts dZ vs H2 s2 a2=>k _ dZ _ H2 s2 ⟨a,t,ts,vs,rfl,rfl,e0,h1,a2⟩⟩;exact Cd.elim
end
noncomputable def anF:Option (Nat×Bool)->Bool
 |some (_,b)=>b
 |none=>false
noncomputable def anK:Option (Nat×Bool)->Option Nat
 |some (k,true)=>some k
 |_=>none
noncomputable def anL:Option (Nat×Bool)->Option Nat
 |some (k,false)=>some k
 |_=>none
section
variable{A:ο}
theorem AN.args{A':ο}{O:HD}{ρ:En}(sub:∀a∈A',a∈A)(hr:∀(k:Nat) t,ρ[k]?=some (some (t,true))->∃a,O[k]?=some (some a)/\ck K H A a t):∀{ms:List (Option (Nat×Bool))}{ts:ξ}{vs:Ω},(∀k∈ms.filterMap anL,∀a,O[k]?=some (some a)->a∉A')->AN K H A O ρ ms ts vs ->
  ∃as,c8 K H A' (ms.map anF) as ts vs/\Paired (λa k=>O[k]?=some (some a)) as (ms.filterMap anK)
 |[],ts,vs,_,h=>⟨[],⟨rfl,h.1,h.2⟩,.nil⟩
 |none::ms,ts,vs,nl,h=>by obtain⟨t,gz,v,fq,rfl,rfl,a,h⟩:=h;obtain⟨as,h1,h2⟩:=AN.args (ms:=ms) sub hr nl h;exact⟨as,⟨t,gz,v,fq,rfl,rfl,a.aY sub,h1⟩,h2⟩
 |some (k,true)::ms,ts,vs,nl,h=>by obtain⟨a,t,gz,fq,rfl,rfl,e0,e1,h⟩:=h;obtain⟨as,h1,h2⟩:=AN.args (ms:=ms) sub hr nl h;obtain⟨a',e2,r⟩:=hr k t e0;rw[e1] at e2;cases e2;exact⟨a::as,⟨a,as,t,gz,fq,rfl,rfl,rfl,r.aY sub,h1⟩,.cons e1 h2⟩
 |some (k,false)::ms,ts,vs,nl,h=>by obtain⟨a,t,gz,fq,rfl,rfl,e0,e1,h⟩:=h;obtain⟨as,h1,h2⟩:=AN.args (ms:=ms) sub hr (λk' m=>nl k' (fJ _ m)) h;obtain⟨a',e2,r⟩:=hr k t e0;rw[e1] at e2;cases e2;exact⟨as,⟨t,gz,_,fq,rfl,rfl,(r.aY sub).at (nl k c6 a e1),h1⟩,h2⟩
end
noncomputable def Tn(n:Nat)(g:FA)(G:ξ->(qam)->Prop):FP:=λρ Q=>g ρ λts=>ts.length=n/\G ts λr=>match r with
 |.vw t=>(bQ t=true\/∃k,t=.kt k)/\Q (.vw t)
 |_=>False
section
variable{k:Nat}{G:ξ->(qam)->Prop}{pos:Pos}{ms:List (Option (Nat×Bool))}
def fG(F:cq X.prog X.w X.K X.mg X.base eD k f fd ps (di X.K n G))(hr:bF k X.A)(hg:Gl X x)(hm:X.mg x=some (.ref f))(hk:W.keepIn X.K (.ref f)=true)(hb:Binds X.K fd ps [])(ha:Tj X Z (e::es) ms g)(Rp:ms.map anF=List.replicate n false:=by rfl)(hnk:ms.filterMap anK=[]:=by rfl)(kj:gq x:=by decide)(he:starEach (e::es) X.env=(false,eval e X.env)::starEach es X.env:=by rfl)(fO:(backTo pos (starEach es X.env)).any (·.1)=false:=by rfl) :
  VP X Z (.Call (.Name x p) (e::es) [] pos) (Tn n g G):=.mk λtm=>PE.weak (iF F hr hg hm hk hb .nil i8 (ha tm) kj he fO) λσ H Q ⟨ρ,O,q,I,hf,k⟩ =>
 ⟨ρ,O,_,I,hf,λts dZ vs H1 s1 a1=>by
   show di X.K n G (vs++[]) H1 Q E0;rw[xc];have J:=I.same s1;have rt:∀(k:Nat) t,ρ[k]?=some (some (t,true))->∃a,O[k]?=some (some a)/\ck X.K H1 (av Z O) a t:=λk t e=>by obtain⟨a,q1,q2,q3⟩:=J.root e;exact⟨a,q1,q3⟩
   obtain⟨as,h1,h2⟩:=AN.args (A':=Z.Ox) (λa z=>bZ _ z) rt (λk _ a ea z=>(J.own a (aH.mpr (eS ea))).2.1 z) a1;rw[hnk] at h2;cases h2;rw[Rp] at h1;refine⟨ts,[],Z.Ox,λ_ r=>(match r with
    |.vw t=>(bQ t=true\/∃k,t=.kt k)/\q (.vw t)
    |_=>False),Ft,λ_ z=>absurd z fK,J.ox,h1,dZ.2,λus r hr v H' fr z=>?_⟩
   have s:aO H1 H':=λb o e=>fr b o e fK;cases r with
   |fr t=>exact hr.elim
   |vw t=>
     obtain⟨hi,hr⟩:=hr;refine k _ hr v H' (s1.trans s) ⟨J.same s,?_⟩;obtain hi|⟨kk,rfl⟩:=hi
     exact At.bQ hi z.1;have z1:=z.1;simp only[At] at z1 ⊢;obtain⟨b,rfl,hb,hn⟩:=z1;refine⟨b,rfl,hb,λm=>?_⟩;rcases cK.mp m with m|m
     obtain⟨_,_,u,eu,mu⟩:=(J.same s).own b m;rw[hb] at eu;cases eu;cases mu;exact hn m⟩
end
noncomputable def wk1:T->T
 |.kt k=>.tup (k.map jL)
 |t=>t
def To{A:ο}{t:T}(h:At K H A t v):At K H A (wk1 t) v:=by
 cases t with
 |kt k=>exact JA (t:=.kt k) h
 |_=>exact h
noncomputable def fWk(f:FE):FE:=λρ Q=>f ρ λt=>Q (wk1 t)
theorem Pz{f:FE}(h:VR X Z e f):VR X Z e (fWk f):=.mk λtm=>PE.weak (h tm) λσ H Q ⟨ρ,O,q,I,hf,k⟩=>⟨ρ,O,_,I,hf,λt ht v H' s z=>k _ ht v H' s (by
 obtain z|⟨a,e,z⟩:=z
 exact .inl (To z);cases t with
 |kt kk=>exact z.elim
 |_=>exact .inr ⟨a,e,z⟩)⟩
noncomputable def gP{α:Type}(xs:List α)(is:qao):List α:=is.filterMap (xs[·]?)
noncomputable def wI(lo hi st:Option Int)(n:Nat):qao:=sliceRange (sliceBounds lo hi st n).1 (sliceBounds lo hi st n).2.1 (sliceBounds lo hi st n).2.2
def NF(aP:qag)(lo hi st:Option Int):slicePick aP.toArray lo hi st=(gP aP (wI lo hi st aP.length)).toArray:=by unfold slicePick gP wI;simp
theorem um{vs:Ω}{us:qag}(r:Vals vs us):∀is:qao,Vals (gP vs is) (gP us is)
 |[]=>.nil
 |i::is=>by have ih:=um r is;unfold gP at ih ⊢;rw[j5,j5];have hl:=r.length;by_cases h:i<vs.length;obtain⟨u,e1,e2⟩:=r.get (mz h);rw[mz h,e1];exact .cons e2 ih;rw[Dy (by omega),Dy (by omega)];exact ih
theorem zk{K:Δ}{H:Hp}{A:ο}{ts:ξ}{vs:Ω}(r:az K H A ts vs):∀is:qao,az K H A (gP ts is) (gP vs is)
 |[]=>az.nil
 |i::is=>by have ih:=zk r is;unfold gP at ih ⊢;rw[j5,j5];have hl:=r.length;by_cases h:i<ts.length;obtain⟨v,e1,e2⟩:=r.get (mz h);rw[mz h,e1];exact az.cons e2 ih;rw[Dy (by omega),Dy (by omega)];exact ih
section
variable{st:Expr}{pos:Pos}{tl th ts:TO}
noncomputable def adM(K:Δ)(te:TE)(tl th ts:TO):TE:=λσ H Q=>te σ H λx H1=>tl σ H1 λl H2=>th σ H2 λu H3=>ts σ H3 λs H4=>∃a xs,x=.ref a/\gw K H4 a xs/\s≠some 0/\∀p,H4 p=none->Q (.ref p) (upd H4 p (.lst (gP xs (wI l u s xs.length))))
def EZ(he:PE X e te)(hl:PO X lo tl)(hu:PO X hi th)(hs:PO X (some st) ts):PE X (.Subscript e (.Slice lo hi (some st) p2) pos) (adM X.K te tl th ts):=by intro γ s σ H Q I h;refine Subscript_ (b_ (he γ s σ H _ I h) λv s1 ⟨x,H1,I1,r1,q1⟩=>?_);refine wpAny_Slice (b_ (hl γ s1 σ H1 _ I1 q1) λvl s2 ⟨l,H2,I2,pl,q2⟩=>b_ (hu γ s2 σ H2 _ I2 q2) λvu s3 ⟨u,H3,I3,pu,q3⟩=>b_ (hs γ s3 σ H3 _ I3 q3) λvs s4 ⟨k,H4,I4,pk,q4⟩=>?_);have I5:Inv X γ σ H4 {s4 with heap:=s4.heap.push {cls:=.type "slice",data:=.fields #[vl,vu,vs]} }:=I4.kept (t':=s4.toks) λb ob q=>fN _ q;obtain⟨a,xs,rfl,hx,h0,q⟩:=q4;cases r1;obtain⟨aP,r,ht,hz⟩:=I5.list hx;have hlen:=r.length;show wpAny (model X.prog X.w) X.A (subscriptTail e (.Slice lo hi (some st) p2) (.ref a) (.ref s4.heap.objs.size)) (EP X γ σ Q) X.xe {s4 with heap:=s4.heap.push {cls:=.type "slice",data:=.fields #[vl,vu,vs]} };refine tail_any (ops:=[.ref a,.ref s4.heap.objs.size]) ht.isList.typeIs slot_list_getitem.lookup ?_ (by with_unfolding_all rfl);refine wpAny_getItem_list_slice ht.isList (Heap.IsSliceOf.new ..) pl pu pk h0 ?_ (by rw[jP]<;>omega);have hle:=slicePick_size_le aP.toArray l u k;rw[NF] at hle ⊢;rw[<- hlen] at hle ⊢;refine⟨.ref _,_,I5.laid (o:=.lst (gP xs (wI l u k xs.length))) (λb ob q=>fN _ q) (cS _) ?_,rfl,q _ (I5.cj.fresh (cS _))⟩;have hv:=um r (wI l u k xs.length);refine⟨?_,_,0,hv,k4 _ rfl⟩;rw[hv.length];simp only[jP] at hle;omega
end
section
variable{st:Expr}{pos:Pos}{fl fh fs:FO}
noncomputable def adN(fa:FE)(fl fh fs:FO):FP:=λρ Q=>fa ρ λx=>fl ρ λlo=>fh ρ λhi=>fs ρ λst=>match x with
 |.lst ts=>st≠some 0/\Q (.fr (.lst (gP ts (wI lo hi st ts.length))))
 |_=>False
def E2(he:VR X Z e fa)(hl:VO X Z lo fl)(hh:VO X Z hi fh)(hs:VO X Z (some st) fs):VP X Z (.Subscript e (.Slice lo hi (some st) p2) pos) (adN fa fl fh fs) :=
 .mk λtm=>PE.weak (EZ (he tm) (hl tm) (hh tm) (hs tm)) λσ H Q ⟨ρ,O,q,I,hf,k⟩=>⟨ρ,O,_,I,hf,λx hx v H1 s1 a1=>⟨ρ,O,_,I.same s1,hx,λl hl H2 s2=>⟨ρ,O,_,(I.same s1).same s2,hl,λu hu H3 s3=>⟨ρ,O,_,((I.same s1).same s2).same s3,hu,λt ht H4 s4=>by have J:=(((I.same s1).same s2).same s3).same s4;have a4:=((a1.same s2).same s3).same s4;have S:=((s1.trans s2).trans s3).trans s4;split at ht;obtain⟨p,vs,rfl,q1,q2⟩:=a4.lst;refine⟨p,vs,rfl,q1,ht.1,λr hr=>?_⟩;rw[q2.length];exact k _ ht.2 _ _ (S.trans (aA hr)) (J.Ah hr (zk q2 _));exact ht.elim⟩⟩⟩⟩
def JD(xs:List α)(is:qao):(gP xs is).length<=is.length:=List.length_filterMap_le _ _
def JE{xs:List α}{x:α}(h:x∈gP xs is):x∈xs:=by obtain⟨i,_,hi⟩:=UZ.mp h;exact eS hi
end
end VT
namespace HT
open PySem PySem.Spec PyProof.Rows
def mn{s:Shared}{t sl:Addr}{items:Array Value}{vl vu:Value}{lo hi:Option Int}(ht:IsTup s.heap t items)(hs:s.heap.IsSliceOf sl vl vu .none)(pl:IsPart vl lo)(pu:IsPart vu hi)(hw:c9 items.size 0 lo=0/\c9 items.size items.size hi=items.size)(h:Q (.ref t) s):wpAny (model prog w) A (getItem (.ref t) (.ref sl)) Q E s:=by
 obtain⟨os,QI,YU,VH⟩:=id hs;have hTs:s.TypeIs (.ref sl) "slice":=⟨os,QI,YU⟩;unfold getItem
 try with_reducible refine v9 ?_
 first|refine δ (ζ ?_)|skip
 refine δ (wpAny_sequenceKey ht.typeIs (by decide) ?_);refine δ (χ (name:=Str.ofString "__getitem__") ht.typeIs T_
  (ω T_ ht.typeIs entry_tuple_getitem ?_ (args_tuple_getitem _ _)))
 show wpAny _ _ (Builtin.Tuple.tupleItemsOf (.ref t) >>= _) _ _ s;refine δ (tupleItemsOf_ ht ?_);refine δ (wpAny_typeOf hTs ?_);rw[ε (by decide)];refine δ (h7 hs pl pu ?_);have adO:(((c9 items.size 0 lo:Nat):Int)==0 && (1:Int)==1 && (c9 items.size items.size hi-c9 items.size 0 lo)==items.size)=true:=by rw[hw.1,hw.2];simp
 show wpAny _ _ (if (((c9 items.size 0 lo:Nat):Int)==0 && (1:Int)==1 && (c9 items.size items.size hi-c9 items.size 0 lo)==items.size)=true then _ else _) _ _ s;rw[ε adO];unfold Builtin.Tuple.tupleIsExact;refine δ (δ (wpAny_typeOf ht.typeIs (ζ ?_)));rw[ε (by decide)];refine δ (aak ?_);exact ζ ⟨_,rfl,ζ h⟩
end HT
namespace L2
open PySem PySem.Spec PyProof.Rows
def adP(K:Δ):V->Option Int->Option Int->Hp->VK->Prop:=λx lo hi H Q=>∃a xs,x=.ref a/\dz K H a xs /\
 ((HT.c9 xs.length 0 lo=0/\HT.c9 xs.length xs.length hi=xs.length)->Q (.ref a) H) /\
 (¬ (HT.c9 xs.length 0 lo=0/\HT.c9 xs.length xs.length hi=xs.length)->∀p,H p=none->Q (.ref p) (upd H p (.tup (uH xs lo hi))))
def NG:Fz X (adP X.K):=by
 intro γ s σ H x v vl vu lo hi sl Q I rx hs pl pu h;obtain⟨a,xs,rfl,hx,q1,q2⟩:=h;by_cases hw:HT.c9 xs.length 0 lo=0/\HT.c9 xs.length xs.length hi=xs.length;cases rx;obtain⟨aP,r,ht,hz⟩:=I.tuple hx;have hlen:aP.toArray.size=xs.length:=by rw[jP];exact r.length.symm
 exact⟨"tuple",_,T_.lookup,ht.typeIs,HT.mn ht hs pl pu (by rw[hlen];exact hw) ⟨.ref a,H,I,rfl,q1 hw⟩⟩;exact Gp γ s σ H _ v vl vu lo hi sl Q I rx hs pl pu ⟨a,xs,rfl,hx,hw,q2 hw⟩
end L2
namespace VT
open PySem L2
def X'(x:T)(lo hi:Option Int)(q:qam):Prop:=match x with
 |.tup ts=>q (.vw (.tup (f_ ts lo hi)))
 |_=>False
def adQ(fa:FE)(fl fh:FO):FP:=λρ Q=>fa ρ λx=>fl ρ λlo=>fh ρ λhi=>X' x lo hi Q
def E3{pos:Pos}{fl fh:FO}(he:VR X Z e fa)(hl:VO X Z lo fl)(hh:VO X Z hi fh):VP X Z (.Subscript e (.Slice lo hi none p2) pos) (adQ fa fl fh) :=
 .mk λtm=>PE.weak (xw NG (he tm) (hl tm) (hh tm)) λσ H Q ⟨ρ,O,q,I,hf,k⟩=>⟨ρ,O,_,I,hf,λx hx v H1 s1 a1=>⟨ρ,O,_,I.same s1,hx,λl hl H2 s2=>⟨ρ,O,_,(I.same s1).same s2,hl,λu hu H3 s3=>by have J:=((I.same s1).same s2).same s3;have a3:=(a1.same s2).same s3;have S:=(s1.trans s2).trans s3;unfold X' at hu;split at hu;obtain⟨p,vs,rfl,q1,q2⟩:=a3.tup;refine⟨p,vs,rfl,q1,λhw=>k _ hu _ _ S ⟨J,?_⟩,λ_ r hr=>k _ hu _ _ (S.trans (aA hr)) ⟨J.same (aA hr),bU (dz.of aC) ((q2.cut _ _).same (aA hr))⟩⟩;rw[q2.length] at hw;rw[GP hw];exact bU q1 q2;exact hu.elim⟩⟩⟩
section
variable[DecidableEq κ]
theorem JF(k:κ)(v:α):∀(ks:List κ)(vs:List α),ks.length=vs.length->lH ks k=true->cZ ks (List.zipWith (λa t=>if a=k then v else t) ks vs) k=some v
 |[],vs,_,h=>by cases h
 |a::ks,[],h,_=>by cases h
 |a::ks,b::vs,L,h=>by simp only[PZ,cZ];by_cases e:a=k;rw[ε e,ε e];rw[η e];refine JF k v ks vs (by simpa using L) ?_;simpa[lH,e] using h
theorem PB{k j:κ}(hj:j≠k)(v:α):∀(ks:List κ)(vs:List α),ks.length=vs.length->cZ ks (List.zipWith (λa t=>if a=k then v else t) ks vs) j=cZ ks vs j
 |[],vs,_=>by rw[gd,gd]
 |a::ks,[],h=>by cases h
 |a::ks,b::vs,L=>by simp only[PZ,cZ];by_cases e:a=j;rw[ε e,ε e,η (λz=>hj (e.symm.trans z))];rw[η e,η e];exact PB hj v ks vs (by simpa using L)
theorem JG(k:κ)(v:α):∀(ks:List κ)(vs:List α),ks.length=vs.length->lH ks k=false->cZ (ks++[k]) (vs++[v]) k=some v
 |[],[],_,_=>by simp[cZ]
 |[],b::vs,L,_=>by cases L
 |a::ks,[],L,_=>by cases L
 |a::ks,b::vs,L,h=>by
  have h':¬ a=k/\lH ks k=false:=by simpa[lH] using h
  simp only[FZ,cZ];rw[η h'.1];exact JG k v ks vs (by simpa using L) h'.2
theorem zm{k j:κ}(hj:j≠k)(v:α):∀(ks:List κ)(vs:List α),ks.length=vs.length->cZ (ks++[k]) (vs++[v]) j=cZ ks vs j
 |[],[],_=>by simp[cZ,Ne.symm hj]
 |[],b::vs,L=>by cases L
 |a::ks,[],L=>by cases L
 |a::ks,b::vs,L=>by simp only[FZ,cZ];rw[zm hj v ks vs (by simpa using L)]
def Tp{k:κ}{v:α}{ks:List κ}{vs:List α}(L:ks.length=vs.length)(j:κ):cZ (HI ks k) (t6 ks vs k v) j=if j=k then some v else cZ ks vs j:=by
 unfold HI t6;by_cases h:lH ks k=true;rw[ε h,ε h];by_cases e:j=k;rw[ε e,e];exact JF k v ks vs L h;rw[η e];exact PB e v ks vs L;have h':lH ks k=false:=by simpa using h
 rw[η h,η h];by_cases e:j=k;rw[ε e,e];exact JG k v ks vs L h';rw[η e];exact zm e v ks vs L
def C8{k:κ}{v:α}{ks:List κ}{vs:List α}(L:ks.length=vs.length):(HI ks k).length=(t6 ks vs k v).length/\(t6 ks vs k v).length<=vs.length+1:=by unfold HI t6;by_cases h:lH ks k=true;rw[ε h,ε h,UY];omega;rw[η h,η h,jf,jf];simp;omega
end
end VT
namespace Rg
open PySem L2 VT Gen K5 Lay
namespace Dk
theorem gg{α:Type}:∀(ks:List Key)(is:List α)(k:Key),cw ks is k=cZ ks is k
 |[],is,k=>by cases is<;>rfl
 |a::ks,[],k=>rfl
 |a::ks,i::is,k=>by rw[cw,cZ,gg ks is k]
def put{is:List α}{k:Key}{v:α}(l:ks.length=is.length)(j:Key):cw (dP ks k) (bO ks is k v) j=if j=k then some v else cw ks is j:=by rw[gg,gg];exact Tp l j
def Ya{is:List α}{k:Key}{v:α}(l:ks.length=is.length):cw (dP ks k) (bO ks is k v) k=some v:=by rw[put l,ε rfl]
def putN{is:List α}{k k':Key}{v:α}(l:ks.length=is.length)(hk:k'≠k):cw (dP ks k) (bO ks is k v) k'=cw ks is k':=by rw[put l,η hk]
def putL{is:List α}{k:Key}{v:α}(l:ks.length=is.length):(dP ks k).length=(bO ks is k v).length:=(C8 l).1
end Dk
namespace Ck
theorem gg{α:Type}:∀(ks:List (List Key×Key))(is:List α)(k:List Key×Key),gT ks is k=cZ ks is k
 |[],is,k=>by cases is<;>rfl
 |a::ks,[],k=>rfl
 |a::ks,i::is,k=>by rw[gT,cZ,gg ks is k]
def put{ks:List (List Key×Key)}{is:List α}{k:List Key×Key}{v:α}(l:ks.length=is.length)(j:List Key×Key):gT (lZ ks k) (eV ks is k v) j=if j=k then some v else gT ks is j:=by rw[gg,gg];exact Tp l j
def putL{ks:List (List Key×Key)}{is:List α}{k:List Key×Key}{v:α}(l:ks.length=is.length):(lZ ks k).length=(eV ks is k v).length:=(C8 l).1
end Ck
def Ct.L(c:Ct):Prop:=c.ks.length=c.is.length
def Ce.L(c:Ce):Prop:=c.ks.length=c.is.length
def Ct.L.up{c:Ct}(h:c.L)(p:Nat):(c.up p).L:=Dk.putL h
def Ce.L.put{c:Ce}(h:c.L)(k:List Key×Key)(v:kR.Vl):(c.put k v).L:=Ck.putL h
def Ct.L.get{c:Ct}(h:c.L)(p j:Nat):(c.up p).get j=if j=p then c.get p+1 else c.get j:=by unfold Ct.get Ct.up;by_cases e:j=p;subst e;rw[ε rfl,Dk.Ya h];rfl;rw[η e,Dk.putN h (λz=>e (by injection z with z;omega))]
def Ce.L.get{c:Ce}(h:c.L)(k j:List Key×Key)(v:kR.Vl):(c.put k v).get j=if j=k then v else c.get j:=by unfold Ce.get Ce.put;rw[Ck.put h];split<;>rfl
end Rg
namespace Rg
open PySem L2 VT Gen K5 Lay
open kR (Vl vT)
def Ev.L(e:Ev):Prop:=e.ks.length=e.is.length
def Ev.L.put{e:Ev}(h:e.L)(x:Str)(v:Vl):(e.put x v).L:=Dk.putL h
def Ev.L.get{e:Ev}(h:e.L)(x:Str)(v:Vl):(e.put x v).get x=v:=by unfold Ev.get Ev.put;rw[Dk.Ya h];rfl
def Ev.L.ne{e:Ev}(h:e.L)(hy:y≠x)(v:Vl):(e.put x v).get y=e.get y:=by unfold Ev.get Ev.put;rw[Dk.putN h (λz=>hy (Sum.inr.inj z))]
theorem wJ(ps:π)(gs:List Vl):∀k,(bw ps gs k).L
 |0=>rfl
 |k+1=>by have ih:=wJ ps gs k;unfold bw;split;exact ih.put _ _;exact ih
theorem JH{α:Type}:∀{l:List α}(nd:l.Nodup){i j:Nat}(hi:i<l.length)(hj:j<l.length),l[i]=l[j]->i=j
 |[],_,i,j,hi,_,_=>absurd hi (Nat.not_lt_zero _)
 |a::l,nd,0,0,_,_,_=>rfl
 |a::l,nd,0,j+1,_,hj,e=>absurd (by rw[show a=l[j]'(by simpa using hj) from e];exact P_ _) (jg.mp nd).1
 |a::l,nd,i+1,0,hi,_,e=>absurd (by rw[show a=l[i]'(by simpa using hi) from e.symm];exact P_ _) (jg.mp nd).1
 |a::l,nd,i+1,j+1,hi,hj,e=>by rw[JH (jg.mp nd).2 (by simpa using hi) (by simpa using hj) e]
theorem zo{ps:π}(nd:ps.Nodup)(gs:List Vl){i:Nat}{x:Str}(hx:ps[i]?=some x):∀k,i<k->(bw ps gs k).get x=gs.getD i (.num 0)
 |0,h=>absurd h (Nat.not_lt_zero _)
 |k+1,h=>by
  have hL:=wJ ps gs k;simp only[bw];by_cases e:i=k;subst e;rw[hx];exact hL.get x _;have ih:=zo nd gs hx k (by omega);cases hk:ps[k]? with
  |none=>exact ih
  |some y=>dsimp only;rw[hL.ne (λz=>?_),ih];subst z;obtain⟨l1,e1⟩:=fQ.mp hx;obtain⟨l2,e2⟩:=fQ.mp hk;exact e (JH nd l1 l2 (e1.trans e2.symm))
def JI(nd:ps.Nodup)(gs:List Vl)(z:Nat)(hz:ps.length<=gs.length+z):(ps.map λx=>(bw ps gs ps.length).get x)=(gs++List.replicate z (Vl.num 0)).take ps.length:=by refine Um λi=>?_;rw[hU];by_cases hi:i<ps.length;rw[mz hi,ZJ hi];show some ((bw ps gs ps.length).get ps[i])=_;rw[zo nd gs (mz hi) ps.length hi,List.getD];by_cases hg:i<gs.length;rw[rR hg,mz hg];rfl;rw[rY (by omega),Dy (by omega),BE,ε (by omega)];rfl;rw[Dy (by omega),Dy (by rw[P8];omega)];rfl
end Rg
namespace cQ
open PySem L2 VT Gen Rg Lay K5
open kR (Vl vT nm dQ RI)
abbrev Fn:=Str->Vl
noncomputable def Tq(φ:Fn)(x:Str)(v:Vl):Fn:=λy=>if y=x then v else φ y
noncomputable def val(φ:Fn):ij->Vl
 |.nm x=>φ x
 |.nu i=>.num i
structure Dg where
 p:Nat
 us:List Vl
 m:Option Vl
abbrev Cf:=Int->Int->Vl
structure G where
 c:Cf
 d:List Dg
noncomputable def G.add(g:G)(x:Dg):G:=⟨g.c,g.d++[x]⟩
noncomputable def cnt(p:Nat)(d:List Dg):Nat:=d.countP λx=>decide (x.p=p)
noncomputable def E4(c:Cf):Vl->Vl
 |.num _=>.num 0
 |.mC p n=>c p n
noncomputable def setC(c:Cf)(r v:Vl):Cf:=match r with
 |.num _=>c
 |.mC p n=>λp' n'=>if p'=p/\n'=n then v else c p' n'
noncomputable def NH(φ:Fn):Rw->List Vl
 |.put _ a=>[val φ a]
 |.get _ y _=>[φ y]
 |.kJ _ a _ b=>[val φ a,val φ b]
 |_=>[]
noncomputable def NI(φ:Fn)(p:Nat)(g:G):Rw->Vl
 |.put _ a=>val φ a
 |.new _=>.mC p (cnt p g.d)
 |.get _ y _=>E4 g.c (φ y)
 |.kJ _ a _ b=>.num (dQ (nm (val φ a)+nm (val φ b)))
 |_=>.num 0
noncomputable def Ut:Rw->Str
 |.put x _=>x
 |.new x=>x
 |.get x _ _=>x
 |.kJ x _ _ _=>x
 |_=>Str.empty
noncomputable def eQ(call:Str->List Vl->G->Vl×G):qal->Nat->Fn->G->Vl×G
 |[],_,_,g=>(.num 0,g)
 |.give a::_,p,φ,g=>(val φ a,g.add ⟨p,[val φ a],some (val φ a)⟩)
 |.call x f as::l,p,φ,g=>eQ call l (p+1) (Tq φ x (call f (as.map (val φ)) (g.add ⟨p,as.map (val φ),none⟩)).1) (call f (as.map (val φ)) (g.add ⟨p,as.map (val φ),none⟩)).2
 |.set y _ a::l,p,φ,g=>eQ call l (p+1) φ ⟨setC g.c (φ y) (val φ a),g.d++[⟨p,[φ y,val φ a],some (val φ a)⟩]⟩
 |r::l,p,φ,g=>eQ call l (p+1) (Tq φ (Ut r) (NI φ p g r)) (g.add ⟨p,NH φ r,some (NI φ p g r)⟩)
noncomputable def dh(rs:qal):Nat->Str->List Vl->G->Vl×G
 |0,_,_,g=>(.num 0,g)
 |n+1,f,vs,g=>match n_ (aV rs rs.length) f with
  |some p=>match rs[p]? with
   |some (.df _ ps)=>eQ (dh rs n) (rs.drop (p+1)) (p+1) (bw ps vs ps.length).get (g.add ⟨p,vs,none⟩)
   |_=>(.num 0,g)
  |none=>(.num 0,g)
noncomputable def dT(d:Dg):T:=.tup [.int (d.p:Int),.tup (d.us.map vT),oV d.m]
noncomputable def uo(rs:qal)(s:Lv):Lv ⊕ Res:=match rs[s.pl]? with
 |none=>.inr (s.dn,l_)
 |some r=>cP rs r s
inductive rm(rs:qal):Lv->Res->Prop
 |fin {s:Lv} {R:Res} (h:uo rs s=.inr R):rm rs s R
 |go {s s':Lv} {R:Res} (h:uo rs s=.inl s') (k:rm rs s' R):rm rs s R
noncomputable def rn(m:Nat)(R:Res):Res:=if m<R.1.length then (R.1.take m,l_) else R
def dR{s:Lv}(hr:rs[s.pl]?=some r):uo rs s=cP rs r s:=by unfold uo;rw[hr]
def rm.cut(W:Wl rs){s:Lv}{R:Res}(h:rm rs s R):AQ rs s->(∃l,R.1=s.dn++l)/\∀m,s.dn.length<=m->∃n,Pp rs m n s (rn m R):=by
 induction h with
 |@fin s R h=>
  intro I;obtain⟨r,hr⟩:∃r,rs[s.pl]?=some r:=⟨_,mz I.pl⟩;rw[dR hr] at h;have:=ma W I hr;rw[h] at this;obtain⟨e,_,_⟩:=this;refine⟨⟨_,e⟩,λm hm=>⟨0,.fin ?_⟩⟩;obtain⟨r',eR,h2⟩:=pb (most:=m) W I;cases Option.some.inj (hr.symm.trans eR);rw[h2];unfold rn;have el:R.1.length=s.dn.length+1:=by rw[e,jf];rfl
  by_cases hc:m<=s.dn.length;rw[ε hc,ε (by omega),e,List.take_append_of_le_length (by omega),YG (by omega)];rw[η hc,η (by omega)];exact h
 |@go s s' R h k ih=>intro I;obtain⟨r,hr⟩:∃r,rs[s.pl]?=some r:=⟨_,mz I.pl⟩;rw[dR hr] at h;have:=ma W I hr;rw[h] at this;obtain⟨I',e⟩:=this;obtain⟨⟨l,el⟩,hm⟩:=ih I';rw[e,P7] at el;refine⟨⟨_,el⟩,λm hl=>?_⟩;obtain⟨r',eR,h2⟩:=pb (most:=m) W I;cases Option.some.inj (hr.symm.trans eR);by_cases hc:m<=s.dn.length;refine⟨0,.fin ?_⟩;rw[h2,ε hc];unfold rn;rw[ε (by rw[el,jf,jf];show m<_+(1+_);omega),el,List.take_append_of_le_length (by omega),YG (by omega)];obtain⟨n,hn⟩:=hm m (by rw[e,jf];show _+1<=m;omega);exact⟨n+1,.go (by rw[h2,η hc];exact h) hn⟩
structure mq(rs:qal)(x0:Str)(ce:Ce)(ct:Ct)(g:G):Prop where
 eL:ce.L
 tL:ct.L
 c:∀p n,ce.get ([.inl p,.inl n],.inr (((".":String):Str)++x0))=g.c p n
 t:∀p x,rs[p]?=some (.new x)->ct.get p=(cnt p g.d:Int)
noncomputable def post(rs:qal)(fs:List Fr)(c:Option Nat)(v:Vl)(ce:Ce)(ct:Ct)(dn:ξ):Lv ⊕ Res:=match c,fs.getLast? with
 |some c,some g=>match rs[c]? with
  |some (.call x _ _)=>.inl {fs:=fs.dropLast,f:={g with ev:=g.ev.put x v},ce:=ce,ct:=ct,dn:=dn,pl:=c+1}
  |_=>.inr (dn.dropLast,l_)
 |_,_=>.inr (dn,yO v)
def Kt(rs:qal)(x0:Str)(fs:List Fr)(c:Option Nat)(o:Vl×G)(R:Res):Prop:=∀ce ct,mq rs x0 ce ct o.2->match post rs fs c o.1 ce ct (o.2.d.map dT) with
 |.inl s'=>rm rs s' R
 |.inr R'=>R'=R
def mv(x0:Str)(C:Str->Nat->Prop):qal->Prop
 |[]=>False
 |.give _::_=>True
 |.call _ h as::l=>C h as.length/\mv x0 C l
 |.put _ _::l=>mv x0 C l
 |.new _::l=>mv x0 C l
 |.kJ _ _ op _::l=>op="plus"/\mv x0 C l
 |.get _ _ k::l=>k=.fld x0/\mv x0 C l
 |.set _ k _::l=>k=.fld x0/\mv x0 C l
 |_=>False
def gk(rs:qal)(x0:Str):Nat->Str->Nat->Prop
 |0,_,_=>False
 |n+1,h,m=>∃p f ps,n_ (aV rs rs.length) h=some p/\rs[p]?=some (.df f ps)/\ps.length=m/\ps.Nodup/\mv x0 (gk rs x0 n) (rs.drop (p+1))
def wK{e:Ev}(L:e.L)(x:Str)(v:Vl):(e.put x v).get=Tq e.get x v:=by funext y;unfold Tq;by_cases h:y=x;rw[ε h,h];exact L.get x v;rw[η h];exact L.ne h v
def gm(e:Ev)(o:ij):look e o=val e.get o:=by cases o<;>rfl
def C9(p q:Nat)(d:List Dg)(us:List Vl)(m:Option Vl):cnt p (d++[⟨q,us,m⟩])=cnt p d+(if q=p then 1 else 0):=by
 unfold cnt;rw[List.countP_append]
 congr 1
 by_cases h:q=p<;>simp[h]
section
variable{x0:Str}{R:Res}
def mq.other{ce:Ce}{ct:Ct}{g:G}(h:mq rs x0 ce ct g){p:Nat}(hr:rs[p]?=some r)(hn:∀x,r≠.new x)(us:List Vl)(m:Option Vl):mq rs x0 ce ct (g.add ⟨p,us,m⟩):=by refine⟨h.eL,h.tL,h.c,λq x hq=>?_⟩;show ct.get q=(cnt q (g.d++[⟨p,us,m⟩]):Int);rw[C9,η (λz=>by rw[z,hq] at hr;exact hn x (Option.some.inj hr).symm)];exact h.t q x hq
def mq.new{ce:Ce}{ct:Ct}{g:G}(h:mq rs x0 ce ct g)(p:Nat)(us:List Vl)(m:Option Vl):mq rs x0 ce (ct.up p) (g.add ⟨p,us,m⟩):=by
 refine⟨h.eL,h.tL.up p,h.c,λq x hq=>?_⟩;show (ct.up p).get q=(cnt q (g.d++[⟨p,us,m⟩]):Int);rw[h.tL.get p q,C9];by_cases z:q=p;subst z;rw[ε rfl,ε rfl,h.t q x hq]
 push_cast;rfl
 rw[η z,η (λy=>z y.symm),h.t q x hq]
 push_cast;rfl
end
section
variable{x0:Str}{R:Res}
def GoC(rs:qal)(x0:Str)(R:Res)(C:Str->Nat->Prop)(call:Str->List Vl->G->Vl×G):Prop:=∀(h:Str)(vs:List Vl)(g:G)(fs:List Fr)(c:Option Nat)(ce:Ce)(ct:Ct),C h vs.length->mq rs x0 ce ct g->Kt rs x0 fs c (call h vs g) R ->
 ∀p f ps,n_ (aV rs rs.length) h=some p->rs[p]?=some (.df f ps)->rm rs ⟨fs,⟨c,bw ps vs ps.length⟩,ce,ct,g.d.map dT,p⟩ R
def C_{p:Nat}{l:qal}(h:rs.drop p=r::l):rs[p]?=some r/\rs.drop (p+1)=l:=by constructor;rw[<- List.head?_drop,h];rfl;rw[<- List.drop_drop,h];rfl
def rp(g:G)(x:Dg):g.d.map dT++[dT x]=(g.add x).d.map dT:=by show _=(g.d++[x]).map dT;rw[oS];rfl
def NJ{e:Ev}{ce:Ce}{ct:Ct}{g:G}(h:mq rs x0 ce ct g):ce.at' (cellK e y (.fld x0))=E4 g.c (e.get y):=by
 unfold cellK;cases e.get y with
 |num i=>rfl
 |mC p n=>exact h.c p n
def mq.set{e:Ev}{ce:Ce}{ct:Ct}{g:G}(h:mq rs x0 ce ct g)(v:Vl):mq rs x0 (ce.IM v (cellK e y (.fld x0))) ct ⟨setC g.c (e.get y) v,g.d⟩:=by
 unfold cellK;cases e.get y with
 |num i=>exact⟨h.eL,h.tL,h.c,h.t⟩
 |mC p n=>
  refine⟨h.eL.put _ _,h.tL,λp' n'=>?_,h.t⟩;show (ce.put ([.inl p,.inl n],.inr (((".":String):Str)++x0)) v).get ([.inl p',.inl n'],.inr (((".":String):Str)++x0))=if p'=p/\n'=n then v else g.c p' n'
  rw[h.eL.get];by_cases z:p'=p/\n'=n;rw[ε z,ε (by rw[z.1,z.2])];rw[η z,η (λy=>z (by simpa using y))];exact h.c p' n'
theorem ph{C:Str->Nat->Prop}{call:Str->List Vl->G->Vl×G}(hE:∀h m,C h m->∃p f ps,n_ (aV rs rs.length) h=some p/\rs[p]?=some (.df f ps))(hC:GoC rs x0 R C call):∀(l:qal)(p:Nat)(g:G)(fs:List Fr)(c:Option Nat)(e:Ev)(ce:Ce)(ct:Ct),rs.drop p=l->mv x0 C l->e.L->mq rs x0 ce ct g->Kt rs x0 fs c (eQ call l p e.get g) R ->
  rm rs ⟨fs,⟨c,e⟩,ce,ct,g.d.map dT,p⟩ R
 |[],p,g,fs,c,e,ce,ct,hd,hl,L,rel,k=>hl.elim
 |r::l,p,g,fs,c,e,ce,ct,hd,hl,L,rel,k=>by
   obtain⟨hr,BH⟩:=C_ hd;have name:∀(x:Str)(v:Vl)(us:List Vl)(FT:Ct),uo rs ⟨fs,⟨c,e⟩,ce,ct,g.d.map dT,p⟩=.inl ⟨fs,⟨c,e.put x v⟩,ce,FT,g.d.map dT++[dT ⟨p,us,some v⟩],p+1⟩->mq rs x0 ce FT (g.add ⟨p,us,some v⟩)->mv x0 C l->Kt rs x0 fs c (eQ call l (p+1) (Tq e.get x v) (g.add ⟨p,us,some v⟩)) R->rm rs ⟨fs,⟨c,e⟩,ce,ct,g.d.map dT,p⟩ R:=λx v us FT hs Tr uz k'=>by refine .go hs ?_;rw[rp];refine ph hE hC l (p+1) _ fs c (e.put x v) ce FT BH uz (L.put _ _) Tr ?_;rw[wK L];exact k'
   cases r with
   |give a=>
     have k':=k ce ct (rel.other hr (λ_ z=>nomatch z) _ _);have hs:uo rs ⟨fs,⟨c,e⟩,ce,ct,g.d.map dT,p⟩=post rs fs c (val e.get a) ce ct ((g.add ⟨p,[val e.get a],some (val e.get a)⟩).d.map dT):=by rw[dR (s:=⟨fs,⟨c,e⟩,ce,ct,g.d.map dT,p⟩) hr,<- rp,<- gm];unfold post cP;rw[Uj];rfl
     have k2:match post rs fs c (val e.get a) ce ct ((g.add ⟨p,[val e.get a],some (val e.get a)⟩).d.map dT) with
      |.inl s'=>rm rs s' R
      |.inr R'=>R'=R:=k'
     cases hp:post rs fs c (val e.get a) ce ct ((g.add ⟨p,[val e.get a],some (val e.get a)⟩).d.map dT) with
     |inl s'=>rw[hp] at k2 hs;exact .go hs k2
     |inr R'=>rw[hp] at k2 hs;have k3:R'=R:=k2;subst k3;exact .fin hs
   |call x h as=>
     obtain⟨p',f',ps,h1,h2⟩:=hE h as.length hl.1;have hv:as.map (look e)=as.map (val e.get):=N6 λo _=>gm e o;refine .go (s':=⟨fs++[⟨c,e⟩],⟨some p,bw ps (as.map (val e.get)) ps.length⟩,ce,ct,g.d.map dT++[dT ⟨p,as.map (val e.get),none⟩],p'⟩) ?_ ?_;rw[dR (s:=⟨fs,⟨c,e⟩,ce,ct,g.d.map dT,p⟩) hr];unfold cP;dsimp only;rw[h1];dsimp only;rw[h2];dsimp only;rw[<- hv];unfold CU dT;rw[tu];rfl;rw[rp];refine hC h (as.map (val e.get)) _ _ (some p) ce ct (by rw[cJ];exact hl.1) (rel.other hr (λ_ z=>nomatch z) _ _) ?_ p' f' ps h1 h2;intro KJ FT Tr;have Yb:post rs (fs++[⟨c,e⟩]) (some p) (call h (as.map (val e.get)) (g.add ⟨p,as.map (val e.get),none⟩)).1 KJ FT ((call h (as.map (val e.get)) (g.add ⟨p,as.map (val e.get),none⟩)).2.d.map dT)=.inl ⟨fs,⟨c,e.put x (call h (as.map (val e.get)) (g.add ⟨p,as.map (val e.get),none⟩)).1⟩,KJ,FT,(call h (as.map (val e.get)) (g.add ⟨p,as.map (val e.get),none⟩)).2.d.map dT,p+1⟩:=by unfold post;rw[List.getLast?_concat,Uj];dsimp only;rw[hr]
     rw[Yb];refine ph hE hC l (p+1) _ fs c (e.put x _) KJ FT BH hl.2 (L.put _ _) Tr ?_;rw[wK L];exact k
   |set y k' a=>obtain⟨rfl,hl⟩:=hl;refine .go (s':=⟨fs,⟨c,e⟩,ce.IM (look e a) (cellK e y (.fld x0)),ct,g.d.map dT++[dT ⟨p,[e.get y,val e.get a],some (val e.get a)⟩],p+1⟩) ?_ ?_;rw[dR (s:=⟨fs,⟨c,e⟩,ce,ct,g.d.map dT,p⟩) hr,<- gm];rfl;rw[rp,gm];refine ph hE hC l (p+1) ⟨setC g.c (e.get y) (val e.get a),(g.add ⟨p,[e.get y,val e.get a],some (val e.get a)⟩).d⟩ fs c e _ ct BH hl L ?_ k;exact (rel.other hr (λ_ z=>nomatch z) [e.get y,val e.get a] (some (val e.get a))).set (val e.get a)
   |put x a=>refine name x (val e.get a) [val e.get a] ct ?_ (rel.other hr (λ_ z=>nomatch z) _ _) hl k;rw[dR (s:=⟨fs,⟨c,e⟩,ce,ct,g.d.map dT,p⟩) hr,<- gm];rfl
   |new x=>refine name x (.mC p (cnt p g.d)) [] (ct.up p) ?_ (rel.new p _ _) hl k;rw[dR (s:=⟨fs,⟨c,e⟩,ce,ct,g.d.map dT,p⟩) hr,<- rel.t p x hr];rfl
   |get x y k'=>obtain⟨rfl,hl⟩:=hl;refine name x (E4 g.c (e.get y)) [e.get y] ct ?_ (rel.other hr (λ_ z=>nomatch z) _ _) hl k;rw[dR (s:=⟨fs,⟨c,e⟩,ce,ct,g.d.map dT,p⟩) hr,<- NJ (e:=e) rel];rfl
   |kJ x a op b=>obtain⟨rfl,hl⟩:=hl;refine name x (.num (dQ (nm (val e.get a)+nm (val e.get b)))) [val e.get a,val e.get b] ct ?_ (rel.other hr (λ_ z=>nomatch z) _ _) hl k;rw[dR (s:=⟨fs,⟨c,e⟩,ce,ct,g.d.map dT,p⟩) hr,<- gm,<- gm];rfl
   |_=>exact hl.elim
theorem PC:∀(n:Nat)(h:Str)(m:Nat),gk rs x0 n h m->∃p f ps,n_ (aV rs rs.length) h=some p/\rs[p]?=some (.df f ps)
 |0,h,m,k=>k.elim
 |n+1,h,m,⟨p,f,ps,h1,h2,_⟩=>⟨p,f,ps,h1,h2⟩
theorem Dd:∀n:Nat,GoC rs x0 R (gk rs x0 n) (dh rs n)
 |0=>λh vs g fs c ce ct hc=>hc.elim
 |n+1=>by
  intro h vs g fs c ce ct ⟨p0,f0,zp,a1,a2,a3,a4,a5⟩ rel k p f ps h1 h2;cases Option.some.inj (a1.symm.trans h1);have e2:=Option.some.inj (a2.symm.trans h2);injection e2 with e3 e4
  subst e4;have Uq:dh rs (n+1) h vs g=eQ (dh rs n) (rs.drop (p0+1)) (p0+1) (bw zp vs zp.length).get (g.add ⟨p0,vs,none⟩):=by show (match n_ (aV rs rs.length) h with|some p=>_|none=>_)=_;rw[a1];dsimp only;rw[a2]
  rw[Uq] at k;have hb:(zp.map λx=>(bw zp vs zp.length).get x)=vs:=by have:=JI a4 vs 0 (by omega);rw[this,List.replicate_zero,xc,YG (by omega)]
  refine .go (s':=⟨fs,⟨c,bw zp vs zp.length⟩,ce,ct,g.d.map dT++[dT ⟨p0,vs,none⟩],p0+1⟩) ?_ ?_;rw[dR (s:=⟨fs,⟨c,bw zp vs zp.length⟩,ce,ct,g.d.map dT,p0⟩) a2];show Sum.inl (Lv.mk fs ⟨c,bw zp vs zp.length⟩ ce ct (g.d.map dT++[T.tup [.int (p0:Int),.tup ((zp.map ij.nm).map λo=>vT (look (bw zp vs zp.length) o)),.aQ]]) (p0+1))=_;have e5:((zp.map ij.nm).map λo=>vT (look (bw zp vs zp.length) o))=vs.map vT:=by rw[<- hb,tu,tu];rw[hb];rfl
  rw[e5];rfl;rw[rp];exact ph (PC n) (Dd n) _ (p0+1) _ fs c _ ce ct rfl a5 (wJ _ _ _) (rel.other a2 (λ_ z=>nomatch z) _ _) k
end
noncomputable def nB:qal->Nat
 |.give _::_=>0
 |_::l=>nB l+1
 |[]=>0
def pj(g:G)(x:Dg):(g.add x).d.length=g.d.length+1:=jf
theorem rq{call:Str->List Vl->G->Vl×G}{b:Nat}(hb:∀h vs g,(call h vs g).2.d.length<=g.d.length+b):∀(l:qal)(p:Nat)(φ:Fn)(g:G),(eQ call l p φ g).2.d.length<=g.d.length+nB l * (1+b)+1
 |[],p,φ,g=>by show g.d.length<=_;omega
 |r::l,p,φ,g=>by
  have one:∀(φ':Fn)(g':G),g'.d.length=g.d.length+1->(eQ call l (p+1) φ' g').2.d.length<=g.d.length+(nB l+1) * (1+b)+1:=λφ' g' e=>by have:=rq hb l (p+1) φ' g';rw[e] at this;rw[Nat.succ_mul];omega
  cases r with
  |give a=>show (g.add _).d.length<=_;rw[pj];show _<=g.d.length+0 * (1+b)+1;omega
  |call x h as=>show (eQ call l (p+1) _ (call h (as.map (val φ)) (g.add ⟨p,as.map (val φ),none⟩)).2).2.d.length<=g.d.length+(nB l+1) * (1+b)+1;have h1:=hb h (as.map (val φ)) (g.add ⟨p,as.map (val φ),none⟩);rw[pj] at h1;refine fM (rq hb l (p+1) _ _) ?_;rw[Nat.succ_mul];omega
  |set y k a=>exact one _ _ (jf)
  |_=>exact one _ _ (pj _ _)
noncomputable def bD:Nat->Nat
 |0=>0
 |n+1=>1+6 * (1+bD n)+1
theorem rA{rs:qal}(h6:∀p f ps,rs[p]?=some (.df f ps)->nB (rs.drop (p+1))<=6):∀(n:Nat)(h:Str)(vs:List Vl)(g:G),(dh rs n h vs g).2.d.length<=g.d.length+bD n
 |0,h,vs,g=>cS _
 |n+1,h,vs,g=>by
  unfold dh;split
  rename_i p _
  split
  rename_i f ps e
  refine fM (rq (rA h6 n) _ _ _ _) ?_;rw[pj];have:=h6 p f ps e;have h2:nB (rs.drop (p+1)) * (1+bD n)<=6 * (1+bD n):=Nat.mul_le_mul_right _ this;show _<=g.d.length+(1+6 * (1+bD n)+1);omega;exact Kh _ _;exact Kh _ _
def bD3:bD 3=344:=rfl
theorem e_{x0:Str}{C C':Str->Nat->Prop}(h:∀a m,C a m->C' a m):∀l:qal,mv x0 C l->mv x0 C' l
 |[],k=>k.elim
 |r::l,k=>by
  cases r with
  |give a=>trivial
  |call x f as=>exact⟨h _ _ k.1,e_ h l k.2⟩
  |put x a=>exact e_ h l k
  |new x=>exact e_ h l k
  |kJ x a op b=>exact⟨k.1,e_ h l k.2⟩
  |get x y k'=>exact⟨k.1,e_ h l k.2⟩
  |set y k' a=>exact⟨k.1,e_ h l k.2⟩
  |_=>exact k.elim
theorem De{rs:qal}{x0:Str}:∀(n:Nat)(h:Str)(m:Nat),gk rs x0 n h m->gk rs x0 (n+1) h m
 |0,h,m,k=>k.elim
 |n+1,h,m,⟨p,f,ps,a1,a2,a3,a4,a5⟩=>⟨p,f,ps,a1,a2,a3,a4,e_ (De n) _ a5⟩
end cQ
namespace cQ
open PySem L2 VT Gen Rg Lay K5
open nP (c_)
open kR (Vl vT nm dQ RI)
structure F5 where
 f:Str
 ps:π
 b:qal
 o:ij
noncomputable def ja(A:F5):qal:=.df A.f A.ps::(A.b++[.give A.o])
noncomputable def jM(A B C:F5):qal:=ja A++(ja B++ja C)
def BR(x0:Str)(there:List (Str×Nat)):Rw->Prop
 |.put _ _=>True
 |.new _=>True
 |.kJ _ _ op _=>op="plus"
 |.get _ _ k=>k=.fld x0
 |.set _ k _=>k=.fld x0
 |.call _ h as=>(h,as.length)∈there
 |_=>False
def iX(A:F5):(ja A).length=A.b.length+2:=by unfold ja;rw[BF,jf];rfl
def uq{A:F5}{m:qal}(h:(ja A++m)[i]?=some r):(i=0/\r=.df A.f A.ps)\/(∃j,i=j+1/\A.b[j]?=some r)\/(i=A.b.length+1/\r=.give A.o)\/∃j,i=A.b.length+2+j/\m[j]?=some r:=by
 by_cases hi:i<A.b.length+2;rw[List.getElem?_append_left (by rw[iX];exact hi)] at h;cases i with
 |zero=>exact .inl ⟨rfl,(Option.some.inj h).symm⟩
 |succ j=>
  have h':(A.b++[Rw.give A.o])[j]?=some r:=h;by_cases hj:j<A.b.length;rw[rR hj] at h';exact .inr (.inl ⟨j,rfl,h'⟩);have e:j=A.b.length:=by omega
  subst e;rw[rY (cS _),Nat.sub_self] at h';exact .inr (.inr (.inl ⟨rfl,(Option.some.inj h').symm⟩))
 refine .inr (.inr (.inr ⟨i-(A.b.length+2),by omega,?_⟩));rw[rY (by rw[iX];omega),iX] at h;exact h
def wL(A:F5)(m:qal)(j:Nat):(ja A++m).drop (A.b.length+2+j)=m.drop j:=by rw[<- iX,<- List.drop_drop,List.drop_left]
def JJ(A:F5)(m:qal)(j:Nat):(ja A++m)[A.b.length+2+j]?=m[j]?:=by
 rw[<- iX,rY (by omega)]
 congr 1
 omega
section
variable{A B C:F5}{x0:Str}{ta tb:List (Str×Nat)}
structure Pg(x0:Str)(A B C:F5):Prop where
 ab:A.f≠B.f
 ac:A.f≠C.f
 bc:B.f≠C.f
 na:A.ps.Nodup
 nb:B.ps.Nodup
 nc:C.ps.Nodup
 ba:∀r∈A.b,BR x0 [(B.f,B.ps.length),(C.f,C.ps.length)] r
 bb:∀r∈B.b,BR x0 [(C.f,C.ps.length)] r
 Zv:∀r∈C.b,BR x0 [] r
noncomputable def pB(A:F5):Nat:=A.b.length+2
noncomputable def pC(A B:F5):Nat:=A.b.length+2+(B.b.length+2)
def PD:(jM A B C)[0]?=some (.df A.f A.ps):=rfl
def r_B:(jM A B C)[pB A]?=some (.df B.f B.ps):=by have:=JJ A (ja B++ja C) 0;exact this
def Zw:(jM A B C)[pC A B]?=some (.df C.f C.ps):=by have h1:=JJ A (ja B++ja C) (B.b.length+2);have h2:=JJ B (ja C) 0;exact h1.trans h2
def d_A:(jM A B C).drop 1=A.b++(.give A.o::(ja B++ja C)):=by show (A.b++[Rw.give A.o])++(ja B++ja C)=_;rw[P7];rfl
def d_B:(jM A B C).drop (pB A+1)=B.b++(.give B.o::ja C):=by unfold jM pB;rw[wL];show (B.b++[Rw.give B.o])++ja C=_;rw[P7];rfl
def d_C:(jM A B C).drop (pC A B+1)=C.b++[.give C.o]:=by unfold jM pC;rw[Nat.add_assoc,wL,wL];rfl
def JK(P:Pg x0 A B C){f:Str}(h:(jM A B C)[i]?=some (.df f ps)):(i=0/\f=A.f/\ps=A.ps)\/(i=pB A/\f=B.f/\ps=B.ps)\/(i=pC A B/\f=C.f/\ps=C.ps):=by
 have no:∀{t:List (Str×Nat)}{l:qal}{j:Nat},(∀r∈l,BR x0 t r)->l[j]?=some (Rw.df f ps)->False:=λhl e=>hl _ (eS e);rcases uq h with⟨rfl,e⟩|⟨j,_,e⟩|⟨_,e⟩|⟨j,rfl,h2⟩
 cases e;exact .inl ⟨rfl,rfl,rfl⟩;exact (no P.ba e).elim;cases e;rcases uq h2 with⟨rfl,e⟩|⟨j',_,e⟩|⟨_,e⟩|⟨j',rfl,h3⟩
 cases e;exact .inr (.inl ⟨rfl,rfl,rfl⟩);exact (no P.bb e).elim;cases e;have h':(ja C++[])[j']?=some (.df f ps):=by rw[xc];exact h3
 rcases uq h' with⟨rfl,e⟩|⟨j2,_,e⟩|⟨_,e⟩|⟨j2,_,e⟩
 cases e;exact .inr (.inr ⟨rfl,rfl,rfl⟩);exact (no P.Zv e).elim;cases e;cases j2<;>cases e
def ur(P:Pg x0 A B C):vM (jM A B C):=by
 refine⟨λi i' f ps Zi h h'=>?_,λi x f as h=>?_⟩;rcases JK P h with⟨rfl,rfl,_⟩|⟨rfl,rfl,_⟩|⟨rfl,rfl,_⟩<;>rcases JK P h' with⟨rfl,e,_⟩|⟨rfl,e,_⟩|⟨rfl,e,_⟩
 rfl;exact (P.ab e).elim;exact (P.ac e).elim;exact (P.ab e.symm).elim;rfl;exact (P.bc e).elim;exact (P.ac e.symm).elim;exact (P.bc e.symm).elim;rfl;rcases uq h with⟨_,e⟩|⟨j,rfl,e⟩|⟨_,e⟩|⟨j,rfl,h2⟩
 cases e;have hj:=(fQ.mp e).1;have:=P.ba _ (eS e);simp only[BR,cU,fK,ς,Prod.mk.injEq] at this;obtain⟨rfl,e2⟩|⟨rfl,e2⟩:=this
 exact⟨pB A,B.ps,by unfold pB;omega,r_B,e2.symm⟩;exact⟨pC A B,C.ps,by unfold pC;omega,Zw,e2.symm⟩;cases e;rcases uq h2 with⟨_,e⟩|⟨j',rfl,e⟩|⟨_,e⟩|⟨j',rfl,h3⟩
 cases e;have hj:=(fQ.mp e).1;have:=P.bb _ (eS e);simp only[BR,cU,fK,ς,Prod.mk.injEq] at this;obtain⟨rfl,e2⟩:=this;exact⟨pC A B,C.ps,by unfold pC;omega,Zw,e2.symm⟩;cases e;have h':(ja C++[])[j']?=some (.call x f as):=by rw[xc];exact h3
 rcases uq h' with⟨_,e⟩|⟨j2,_,e⟩|⟨_,e⟩|⟨j2,_,e⟩
 cases e;have:=P.Zv _ (eS e);simp only[BR,fK] at this;cases e;cases j2<;>cases e
theorem pq{C':Str->Nat->Prop}{t:List (Str×Nat)}(ht:∀h m,(h,m)∈t->C' h m):∀{b:qal},(∀r∈b,BR x0 t r)->∀(o:ij)(rest:qal),mv x0 C' (b++.give o::rest)
 |[],_,o,rest=>trivial
 |r::b,hb,o,rest=>by
  have ih:=pq ht (b:=b) (λr hr=>hb r (fJ _ hr)) o rest;have h0:=hb r c6;cases r with
  |put x a=>exact ih
  |new x=>exact ih
  |kJ x a op b'=>exact⟨h0,ih⟩
  |get x y k=>exact⟨h0,ih⟩
  |set y k a=>exact⟨h0,ih⟩
  |call x h as=>exact⟨ht _ _ h0,ih⟩
  |_=>exact h0.elim
theorem Dh:∀(b:qal)(o:ij)(rest:qal),nB (b++.give o::rest)<=b.length
 |[],o,rest=>cS _
 |r::b,o,rest=>by
  have ih:=Dh b o rest;cases r with
  |give a=>exact mE _
  |_=>exact Nat.succ_le_succ ih
def Yc(P:Pg x0 A B C):gk (jM A B C) x0 1 C.f C.ps.length :=
 ⟨pC A B,C.f,C.ps,(ur P).first Zw,Zw,rfl,P.nc,by rw[d_C];exact pq (λh m z=>nomatch z) P.Zv _ _⟩
def adR(P:Pg x0 A B C):gk (jM A B C) x0 2 B.f B.ps.length :=
 ⟨pB A,B.f,B.ps,(ur P).first r_B,r_B,rfl,P.nb,by
  rw[d_B];refine pq (λh m z=>?_) P.bb _ _;simp only[cU,fK,ς,Prod.mk.injEq] at z;obtain⟨rfl,rfl⟩:=z;exact Yc P⟩
def Yd(P:Pg x0 A B C):gk (jM A B C) x0 3 A.f A.ps.length :=
 ⟨0,A.f,A.ps,(ur P).first PD,PD,rfl,P.na,by
  rw[d_A];refine pq (λh m z=>?_) P.ba _ _;simp only[cU,fK,ς,Prod.mk.injEq] at z;obtain⟨rfl,rfl⟩|⟨rfl,rfl⟩:=z
  exact adR P;exact De 1 _ _ (Yc P)⟩
end
section
variable{A B C:F5}{x0:Str}
theorem Zx{t:List (Str×Nat)}{d:Nat}:∀{l:qal},(∀r∈l,BR x0 t r)->∀m,dr d (l++m)=dr d m
 |[],_,_=>rfl
 |r::l,h,m=>by have ih:=Zx (d:=d) (l:=l) (λx hx=>h x (fJ _ hx)) m;have h0:=h r c6;cases r<;>first|exact h0.elim|exact ih
def wf5(P:Pg x0 A B C):Xq (jM A B C):=Xr (by
 have e:jM A B C=.df A.f A.ps::(A.b++(.give A.o::(.df B.f B.ps::(B.b++(.give B.o::(.df C.f C.ps::(C.b++[.give C.o]))))))):=by simp[jM,ja]
 rw[e];show dr 1 (A.b++_)=some 0;rw[Zx P.ba];show dr 1 (B.b++_)=some 0;rw[Zx P.bb];show dr 1 (C.b++_)=some 0;rw[Zx P.Zv];rfl)
structure UN(A B C:F5):Prop where
 ra:∀r∈ja A,v5 r
 rb:∀r∈ja B,v5 r
 rc:∀r∈ja C,v5 r
 la:A.b.length<=6
 lb:B.b.length<=6
 lc:C.b.length<=6
def wl5(P:Pg x0 A B C)(O:UN A B C):Wl (jM A B C):=by
 refine⟨wf5 P,λr hr=>?_,⟨ja A++(ja B++(.df C.f C.ps::C.b)),C.o,?_⟩,ur P,?_⟩;rcases cK.mp hr with z|z
 exact O.ra r z;rcases cK.mp z with z|z
 exact O.rb r z;exact O.rc r z;simp[jM,ja];unfold jM;rw[jf,jf,iX,iX,iX];have:=O.la;have:=O.lb;have:=O.lc;omega
def n6(P:Pg x0 A B C)(O:UN A B C)(p:Nat)(f:Str)(ps:π)(h:(jM A B C)[p]?=some (.df f ps)):nB ((jM A B C).drop (p+1))<=6:=by
 rcases JK P h with⟨rfl,_⟩|⟨rfl,_⟩|⟨rfl,_⟩
 rw[d_A];exact fM (Dh _ _ _) O.la;rw[d_B];exact fM (Dh _ _ _) O.lb;rw[d_C];exact fM (Dh _ _ _) O.lc
noncomputable def g0:G:=⟨λ_ _=>.num 0,[]⟩
noncomputable def je(A B C:F5)(vs:List Vl):Vl×G:=dh (jM A B C) 3 A.f vs g0
noncomputable def zq(A B C:F5)(vs:List Vl):Res:=((je A B C vs).2.d.map dT,yO (je A B C vs).1)
def NL(P:Pg x0 A B C)(O:UN A B C)(vs:List Vl):(je A B C vs).2.d.length<=344:=by have:=rA (n6 P O) 3 A.f vs g0;rw[bD3] at this;exact fM this (by show 0+344<=344;omega)
theorem bind_congr{ps:π}{gs gs':List Vl}:∀n,(∀k,k<n->gs.getD k (.num 0)=gs'.getD k (.num 0))->bw ps gs n=bw ps gs' n
 |0,_=>rfl
 |n+1,h=>by unfold bw;rw[bind_congr n (λk hk=>h k (by omega)),h n (by omega)]
def adS(P:Pg x0 A B C)(O:UN A B C)(ins:qan)(vs:List Vl)(hv:vs.length=A.ps.length)(hg:∀k,k<A.ps.length->vs.getD k (.num 0)=(A8 ins).getD k (.num 0))(m:Nat):C2 (jM A B C) ins m (rn m (zq A B C vs)):=by
 have W:=wl5 P O;have hX:rm (jM A B C) (Zs 0 A.ps ins) (zq A B C vs):=by have:=Dd (rs:=jM A B C) (x0:=x0) (R:=zq A B C vs) 3 A.f vs g0 [] none ⟨[],[]⟩ ⟨[],[]⟩ (by rw[hv];exact Yd P) ⟨rfl,rfl,λp n=>rfl,λp x _=>rfl⟩ (λce ct rel=>rfl) 0 A.f A.ps ((ur P).first PD) PD;rw[bind_congr (gs':=A8 ins) A.ps.length hg] at this;exact this
 obtain⟨n,hn⟩:=(hX.cut W (Jj W PD ins)).2 m (mE _);refine .Sy ?_ PD hn;unfold il jM ja;rw[FZ,List.findIdx?_cons];rfl
end
end cQ
namespace VT
open PySem PySem.Spec PyProof.Rows L2
end VT
set_option exponentiation.threshold 4000
namespace cQ
open PySem L2 VT Gen EW Rg Lay K5
open c5 (iW Jq Ba)
open nP (c_)
open kR (Vl vT nm dQ RI bg MZ pw UG)
noncomputable def top(i:Nat):Stmt:=PySem.Challenge.pw_slicewise_k15_calls.main.body.getD i (.Pass ⟨0,0,0,0⟩)
noncomputable abbrev oh:Stmt:=top 56
noncomputable abbrev nI:Stmt:=top 58
noncomputable abbrev s_row:Stmt:=top 59
noncomputable abbrev Be:Stmt:=top 60
noncomputable abbrev Bf:Stmt:=top 61
noncomputable abbrev wM:Stmt:=top 62
noncomputable abbrev Bg:Stmt:=top 63
noncomputable abbrev jN:Stmt:=top 64
noncomputable abbrev mw:Stmt:=top 65
structure KP(mg:qae):Prop where
 isinstance:mg "isinstance"=none
 list:mg "list"=none
 len:mg "len"=none
 range:mg "range"=none
 str:mg "str"=none
 int:mg "int"=none
 min:mg "min"=none
 tuple:mg "tuple"=none
 zip:mg "zip"=none
def leB(h:n<=1000000):n<=sizeLine:=by rw[μ];omega
def JL(ts:ξ)(q:qam):Prop:=∃i:Int,ts=[.int i]/\q (.vw (.int (dQ i)))
noncomputable def vK:Vl->T
 |.num i=>.int i
 |.mC p n=>.kt [.inl p,.inl n]
noncomputable def Ev.tK(e:Ev):ξ:=e.is.map vK
def Di(ts:ξ)(q:qam):Prop:=∃(e:Ev)(o:ij),ts=[.dk e.ks (Ev.tK e),gf o]/\q (.vw (vK (val e.get o)))
def Dj(ts:ξ)(q:qam):Prop:=∃v:Vl,ts=[vK v]/\q (.vw (.int (nm v)))
theorem zt{α β:Type}{κ:Type}[DecidableEq κ](f:α->β):∀(ks:List κ)(vs:List α)(k:κ),cZ ks (vs.map f) k=(cZ ks vs k).map f
 |[],vs,k=>by rw[gd,gd];rfl
 |a::ks,[],k=>rfl
 |a::ks,v::vs,k=>by simp only[fU,cZ];split;rfl;exact zt f ks vs k
structure Cl where
 ks:List (List Key)
 vs:List Vl
noncomputable def Cl.tK(c:Cl):ξ:=c.vs.map vK
noncomputable def Cl.get(c:Cl)(p n:Int):Vl:=(cZ c.ks c.vs [.inl p,.inl n]).getD (.num 0)
noncomputable def oK:Option Vl->T
 |none=>.aQ
 |some v=>vK v
noncomputable def dK(d:Dg):T:=.tup [.int (d.p:Int),.tup (d.us.map vK),oK d.m]
def MkR:Rw->Prop
 |.put _ _=>True
 |.new _=>True
 |.get _ _ _=>True
 |.kJ _ _ op _=>op="plus"
 |_=>False
noncomputable def JM:GT:=λts q=>∃(rs:qal)(p:Nat)(r:Rw)(e:Ev)(d:List Dg)(c:Cl),ts=[.lst (rs.map bu),.int (p:Int),.dk e.ks (Ev.tK e),.lst (d.map dK),.dt c.ks c.tK]/\rs[p]?=some r/\MkR r/\e.is.length<=1000/\d.length<=10000 /\
 q [.dk (e.put (Ut r) (NI e.get p (G.mk c.get d) r)).ks (Ev.tK (e.put (Ut r) (NI e.get p (G.mk c.get d) r))),.lst ((d++[Dg.mk p (NH e.get r) (some (NI e.get p (G.mk c.get d) r))]).map dK),.dt c.ks c.tK] (.vw .aQ)
section
noncomputable abbrev CO:π:=qaS
def qJ:aE CO qaS (aj oh):=L2.g9
def AI(D:Df K mg "_law_fit" oh qaS f fd):bW P w K mg base "_law_fit" qaS 1 (di K 1 JL):=by refine D.hJ (oH D.F qJ rfl λbB A outer s H E Ox hr ts q hG=>?_);have nd:=qJ.nd;refine⟨_,(ax (aT (qau (mT (θ (bH (θ (bS (aa 0) (θ (lz (θ ag) (θ ag))))) (θ (vn (θ ag) (θ (lz (θ ag) (θ ag))))))) (θ (lz (θ ag) (θ ag))))))),λ_=>?_⟩;obtain⟨i,rfl,hq⟩:=hG;refine⟨pw 30,pw 30,⟨bg 2,MZ⟩,by decide +kernel,pw 30,?_⟩;show q (.vw (.int ((i+10 ^ (30:Int).toNat) % (2 * 10 ^ (30:Int).toNat)-10 ^ (30:Int).toNat)));rw[Gen.Xj];exact hq
noncomputable abbrev Ts:π:=qaT
def Dl:aE Ts qaT (aj Bf):=L2.g9
def NM(D:Df K mg "_law_look" Bf qaT f fd)(M:KP mg):bW P w K mg base "_law_look" qaT 1 (di K 2 Di):=by
 refine D.hJ (oH D.F Dl rfl λbB A outer s H E Ox hr ts q hG=>?_);have nd:=Dl.nd;have hu:=bF.iN hr;have rX:=j9 hu;refine⟨_,(ah (bJ (eF (cy ie (by rfl) M.isinstance (by rfl) M.str tW (aa 1)))
    (ax (aT (qau (vA rX (aa 0) (aa 1) (ψ ag) ⟨rfl,rfl,rfl,rfl⟩))))
    aZ)
   (ax (aT (qau (VE.vp (ai 1)))))),λ_=>?_⟩
 obtain⟨e,o,rfl,hq⟩:=hG;cases o with
 |nm x=>
   refine⟨rfl,?_⟩;show q (.vw ((cw e.ks (Ev.tK e) (.inr x)).getD (.int 0)));unfold Ev.tK;rw[l9];have gQ:q (.vw (vK ((cw e.ks e.is (.inr x)).getD (.num 0)))):=hq;cases hd:cw e.ks e.is (.inr x) with
   |none=>rw[hd] at gQ;exact gQ
   |some v=>rw[hd] at gQ;exact gQ
 |nu i=>exact⟨rfl,hq⟩
noncomputable abbrev NN:π:=qaU
def zu:aE NN qaU (aj wM):=L2.g9
def JN(D:Df K mg "_law_plain" wM qaU f fd)(M:KP mg):bW P w K mg base "_law_plain" qaU 1 (di K 1 Dj):=by
 refine D.hJ (oH D.F zu rfl λbB A outer s H E Ox hr ts q hG=>?_);have nd:=zu.nd;refine⟨_,(ah (bJ (eF (cy eZ (by rfl) M.isinstance (by rfl) M.tuple eG (Pz (aa 0))))
   (ax (aT (qau ag)))
   aZ)
  (ax (aT (qau (VE.vp (ai 0)))))),λ_=>?_⟩
 obtain⟨v,rfl,hq⟩:=hG;cases v with
 |num i=>exact⟨rfl,hq⟩
 |mC p n=>exact⟨rfl,hq⟩
noncomputable abbrev JO:π:=["_law_rows_here","_law_place","_law_held","_law_doings","_law_cells","_law_row_here","_law_value","_law_record","_law_one","_law_other"]
def Dm:aE JO qaV (aj Bg):=L2.g9
def Bh:(JO++(["_law_doing"]:π)).Nodup:=by decide +kernel
def NO(D:Df K mg "_law_made" Bg qaV f fd)(M:KP mg)(qM:bW P w K mg base "_law_fit" qaS 1 (di K 1 JL))(kX:bW P w K mg base "_law_look" qaT 1 (di K 2 Di))(Dn:bW P w K mg base "_law_plain" qaU 1 (di K 1 Dj)):bW P w K mg base "_law_made" qaV 2 (kx K [false,false,true,true,true] JM):=by
 obtain⟨f_look,NP,iY,iZ,i4,i5⟩:=kX;refine D.hJ (Wz D.F Dm rfl λbB A outer s H E as Ox hr ts q hl hG=>?_);have nd:=Dm.nd;have hu:=bF.iN hr;have rX:=j9 hu;refine⟨_,(ah (aX (i:=5) nd rfl (.inl rfl) (qau (aI (aa 0) (aa 1))) (dO (by decide)))
  (ah (bJ (de hu (θ (aI (aa 5) (θ ag))) (θ a9))
   (ah (aX (i:=6) nd rfl (.inl rfl) (qau (fG i5 (hr.mono (by decide)) (by rfl) iY iZ i4 (gO 2 false (fF (ψ (aI (aa 5) (θ ag))) gN)))) (dO (by decide)))
   (ax (cX (i_ 3 BC BD bR bY (ae (ψ (bA (ae (ai 1) (ae (ψ (bA (ae (ai 6) ar))) (ae (ai 6) ar))))) ar)))))
   (ax (bJ (de hu (θ (aI (aa 5) (θ ag))) (θ a9))
    (ah (aX (i:=6) nd rfl (.inl rfl) (qau (Mt (ae (ai 1) (ae (ψ (NB 3 (λ_=>(bq bh bj (by rfl) M.len pA (aJ (θ (dU (ts:=["_law_doing"]) rfl (by rfl) (gb (ai 3)) (λ_ _ _ _ _ _=>(bt (i:=10) Bh rfl (.inl rfl) mB)) (λ_ _ _ _ _ _=>(B_ (de hu (θ (aI (aa 10) (θ ag))) (aa 1)))) (λ_ _ _ _ _ _=>(ai 10)))) aW))))) ar)))) (dO (by decide)))
    (ax (cX (i_ 3 BC BD bR bY (ae (ψ (bA (ae (ai 1) (ae (ψ (bA ar)) (ae (ai 6) ar))))) ar)))))
    (ax (bJ (de hu (θ (aI (aa 5) (θ ag))) (θ a9))
     (ah (aX (i:=7) nd rfl (.inl rfl) (qau (fG i5 (hr.mono (by decide)) (by rfl) iY iZ i4 (gO 2 false (fF (ψ (aI (aa 5) (θ ag))) gN)))) (dO (by decide)))
     (ah (aX (i:=6) nd rfl (.inl rfl) (qau (Tf rX (aa 4) (ai 7) (ψ ag) ⟨rfl,rfl,rfl,rfl⟩)) (dO (by decide)))
     (ax (cX (i_ 3 BC BD bR bY (ae (ψ (bA (ae (ai 1) (ae (ψ (bA (ae (ai 7) ar))) (ae (ai 6) ar))))) ar))))))
     (ah (aX (i:=8) nd rfl (.inl rfl) (qau (fG i5 (hr.mono (by decide)) (by rfl) iY iZ i4 (gO 2 false (fF (ψ (aI (aa 5) (θ ag))) gN)))) (dO (by decide)))
     (ah (aX (i:=9) nd rfl (.inl rfl) (qau (fG i5 (hr.mono (by decide)) (by rfl) iY iZ i4 (gO 2 false (fF (ψ (aI (aa 5) (θ ag))) gN)))) (dO (by decide)))
     (ah (aX (i:=6) nd rfl (.inl rfl) (qau (aM qM hr (ae (ψ (bS (θ (aM Dn hr (ae (ai 8) ar))) (θ (aM Dn hr (ae (ai 9) ar))))) ar))) (dO (by decide)))
     (ax (cX (i_ 3 BC BD bR bY (ae (ψ (bA (ae (ai 1) (ae (ψ (bA (ae (ai 8) (ae (ai 9) ar)))) (ae (ai 6) ar))))) ar))))))))))))
  (ax (vB 2 rX (ai 6) (θ (aI (aa 5) (θ ag))))))),?_⟩
 obtain⟨rs,p,r,e,d,c,rfl,eR,hk,hn,hd,hq⟩:=hG;have sW:=Rg.iQ eR;have NQ:∀v:Vl,bQ (vK v)=true\/∃k,vK v=.kt k:=λv=>by
  cases v with
  |num i=>exact .inl rfl
  |mC p n=>exact .inr ⟨_,rfl⟩
 have hp:∀x v,bO e.ks (Ev.tK e) (.inr x) (vK v)=Ev.tK (e.put x v):=λx v=>ip vK e.ks e.is (.inr x) v;have h9:(Ev.tK e).length<16777216:=by unfold Ev.tK;rw[cJ];omega
 have FK:(d.map dK).length+1<=1000000:=by rw[cJ];omega
 have fin:∀(x:Str)(v:Vl)(us:List Vl),q [.dk (e.put x v).ks (Ev.tK (e.put x v)),.lst ((d++[Dg.mk p us (some v)]).map dK),.dt c.ks c.tK] (.vw .aQ)->q [.dk (dP e.ks (.inr x)) (bO e.ks (Ev.tK e) (.inr x) (vK v)),.lst (d.map dK++[T.tup [.int (p:Int),.tup (us.map vK),vK v]]),.dt c.ks c.tK] (.vw .aQ):=λx v us h=>by rw[hp];rw[oS] at h;exact h
 cases r with
 |put x a=>exact⟨_,sW,_,aaB,_,aaD,rfl,e,a,rfl,NQ _,Gen.cR rfl,Gen.cR rfl,leB FK,_,aaC,h9,fin x _ [_] hq⟩
 |new x=>
  refine⟨_,sW,_,aaB,_,aaB,?_⟩;refine⟨rfl,leB (n:=(d.map dK).length) (by omega),?_⟩;refine kH (xs:=d) (f:=dK) (u:=dK) (p:=λx=>decide (x.p=p)) (λ_ _ _ _ _=>trivial) (λx' hx k s hk=>?_) ?_;refine⟨_,aaB,?_⟩;show if decide ((x'.p:Int)=(p:Int))=true then k (dK x') else s
  rw[show decide ((x'.p:Int)=(p:Int))=decide (x'.p=p) by rw[N9,aaj,aaj];omega];exact hk;have el:(((d.filter λx=>decide (x.p=p)).map dK).length:Int)=(cnt p d:Int):=by rw[cJ];unfold cnt;rw[List.countP_eq_length_filter]
  have:=fin x (.mC p (cnt p d)) [] hq;rw[<- el] at this;exact⟨Gen.cR rfl,Gen.cR rfl,Gen.cR rfl,leB FK,_,aaC,h9,this⟩
 |get x y k=>
  refine⟨_,sW,_,aaB,_,aaB,_,aaB,_,aaD,rfl,e,.nm y,rfl,NQ _,?_⟩;have hc:∀p n:Int,(cZ c.ks c.tK [.inl p,.inl n]).getD (.int 0)=vK (c.get p n):=λp n=>by unfold Cl.tK Cl.get;rw[zt];cases cZ c.ks c.vs [.inl p,.inl n]<;>rfl
  have gQ:q [.dk (e.put x (E4 c.get (e.get y))).ks (Ev.tK (e.put x (E4 c.get (e.get y)))),.lst ((d++[Dg.mk p [e.get y] (some (E4 c.get (e.get y)))]).map dK),.dt c.ks c.tK] (.vw .aQ):=hq;generalize hv:val e.get (.nm y)=v;have se:e.get y=v:=hv;rw[se] at gQ;cases v with
  |num i=>exact⟨Gen.cR rfl,Gen.cR rfl,leB FK,_,aaC,h9,fin x (.num 0) [.num i] gQ⟩
  |mC p' n=>refine⟨Gen.cR rfl,Gen.cR rfl,leB FK,_,aaC,h9,?_⟩;have:=fin x (c.get p' n) [.mC p' n] gQ;rw[<- hc] at this;exact this
 |kJ x a op b=>subst hk;refine⟨_,sW,_,aaB,_,aaB,_,aaB,_,aaD,rfl,e,a,rfl,NQ _,_,aaF,rfl,e,b,rfl,NQ _,?_⟩;refine⟨rfl,_,rfl,rfl,_,rfl,rfl,_,rfl,Gen.cR rfl,Gen.cR rfl,leB FK,_,aaC,h9,fin x (.num _) [_,_] hq⟩
 |_=>exact hk.elim
end
end cQ
namespace cQ
open PySem L2 VT Gen EW Rg Lay K5
open nP (c_)
open kR (Vl vT nm dQ RI)
def Cl.L(c:Cl):Prop:=c.ks.length=c.vs.length
section
variable[DecidableEq κ]
def NR(f:α->β)(ks:List κ)(vs:List α)(k:κ)(v:α):t6 ks (vs.map f) k (f v)=(t6 ks vs k v).map f:=by
 unfold t6;split;rw[List.map_zipWith,ZP]
 congr 1
 funext a b;split<;>rfl;rw[oS];rfl
end
noncomputable def Ye:Rw->Key
 |.df f _=>.inr f
 |.put x _=>.inr x
 |.new x=>.inr x
 |.kJ x _ _ _=>.inr x
 |.get x _ _=>.inr x
 |.set y _ _=>.inr y
 |.call x _ _=>.inr x
 |.give (.nm x)=>.inr x
 |.give (.nu i)=>.inl i
 |_=>.inl 0
noncomputable def Zy(r:Rw):Str×Key:=(wd r,Ye r)
def adT(h:v5 r):∃ts,bu r=.tup ts/\T.tup (f_ ts none (some 2))=Bd (Zy r):=by
 cases r with
 |give a=>cases a<;>exact⟨_,rfl,rfl⟩
 |df f ps=>exact⟨_,rfl,rfl⟩
 |put x a=>exact⟨_,rfl,rfl⟩
 |new x=>exact⟨_,rfl,rfl⟩
 |kJ x a op b=>exact⟨_,rfl,rfl⟩
 |get x y k=>exact⟨_,rfl,rfl⟩
 |set y k a=>exact⟨_,rfl,rfl⟩
 |call x f as=>exact⟨_,rfl,rfl⟩
 |_=>exact h.elim
def Tt{f:Str}(h:Zy r=(("def":Str),(.inr f:Key))):∃ps,r=.df f ps:=by
 have h1:wd r="def":=Ψ Prod.fst h;have h2:Ye r=.inr f:=Ψ Prod.snd h;cases r with
 |df f' ps=>exact⟨ps,by rw[Sum.inr.inj h2]⟩
 |_=>exact absurd h1 (by simp only[wd];decide +kernel)
noncomputable def Cl.put(c:Cl)(p n:Int)(v:Vl):Cl:=⟨HI c.ks [.inl p,.inl n],t6 c.ks c.vs [.inl p,.inl n] v⟩
def Cl.L.put{c:Cl}(h:c.L)(p n:Int)(v:Vl):(c.put p n v).L/\(c.put p n v).vs.length<=c.vs.length+1/\(c.put p n v).get=setC c.get (.mC p n) v:=by
 refine⟨(C8 h).1,(C8 h).2,?_⟩;funext p' n';show (cZ (HI c.ks [.inl p,.inl n]) (t6 c.ks c.vs [.inl p,.inl n] v) [.inl p',.inl n']).getD (.num 0)=if p'=p/\n'=n then v else c.get p' n'
 rw[Tp h];by_cases e:p'=p/\n'=n;rw[ε e,ε (by rw[e.1,e.2])];rfl;rw[η e,η (λz=>e (by simpa using z))];rfl
noncomputable abbrev eC(rs:qal)(k:Nat)(vs:List Vl)(d:List Dg)(c:Cl)(e:Ev)(l:En):En:=some (.lst (rs.map bu),false)::some (.int (k:Int),false)::some (.lst (vs.map vK),false)::some (.lst (d.map dK),true)::some (.dt c.ks c.tK,true)::some (.dk e.ks (Ev.tK e),true)::l
structure Dp(n e d c c0 m:Nat):Prop where
 h1:e+m<=100
 h2:d+m * (1+bD n)+1<=5000
 h3:c+m * (1+bD n)<=c0+6 * (1+bD n)
 h4:c0+6 * (1+bD n)<=5000
section
variable{e d c c0 e' d' c':Nat}
def Dp.ini(h6:m<=6)(he:e<=50)(hd:d+bD (n+1)<=5000)(hc:c+bD (n+1)<=5000):Dp n e (d+1) c c m:=by have hB:bD (n+1)=1+6 * (1+bD n)+1:=rfl;have h:=Nat.mul_le_mul_right (1+bD n) h6;exact⟨by omega,by omega,by omega,by omega⟩
def Dp.step(h:Dp n e d c c0 (m+1))(he:e'<=e+1)(hd:d'<=d+1+bD n)(hc:c'<=c+1+bD n):Dp n e' d' c' c0 m:=by obtain⟨h1,h2,h3,h4⟩:=h;rw[Nat.succ_mul] at h2 h3;exact⟨by omega,by omega,by omega,h4⟩
def Dp.fit(h:Dp n e d c c0 m):e<1000/\d<10000/\c<10000:=by obtain⟨h1,h2,h3,h4⟩:=h;exact⟨by omega,by omega,by omega⟩
def Dp.call(h:Dp n e d c c0 (m+1)):d+1+bD n<=5000/\c+bD n<=5000:=by obtain⟨h1,h2,h3,h4⟩:=h;rw[Nat.succ_mul] at h2 h3;exact⟨by omega,by omega⟩
def Dp.out(h:Dp n e d c c0 m):c<=c0+bD (n+1):=by have hB:bD (n+1)=1+6 * (1+bD n)+1:=rfl;have:=h.h3;omega
def Yf(h:n<10000):n<16777216:=N' h (by decide)
def le6(h:n<10000):n+1<=1000000:=fM h (by decide)
def JP{e:Ev}(h:e.is.length<10000):(Ev.tK e).length<16777216:=by unfold Ev.tK;rw[cJ];exact Yf h
def wN{d:List Dg}(h:d.length<10000):(d.map dK).length+1<=sizeLine:=leB (by rw[cJ];exact le6 h)
end
def NQ(v:Vl):bQ (vK v)=true\/∃k,vK v=.kt k:=by
 cases v with
 |num i=>exact .inl rfl
 |mC p n=>exact .inr ⟨_,rfl⟩
inductive IvC(rs:qal)(x0:Str)(n:Nat)(vs:List Vl)(c:Cl)(S:Vl×G)(m:Nat)(ρ:En):Prop
 |mk (l:qal) (k:Nat) (e:Ev) (d:List Dg) (c':Cl) (b6 b7 b8 b9 Yg Zz:Option (T×Bool)) (hm:m=l.length) (hρ:ρ=eC rs k vs d c' e [b6,b7,b8,b9,Yg,Zz]) (h1:rs.drop (k+1)=l) (h2:mv x0 (gk rs x0 n) l) (h3:e.L) (h4:c'.L) (h5:Dp n e.is.length d.length c'.vs.length c.vs.length (nB l)) (h6:eQ (dh rs n) l (k+1) e.get ⟨c'.get,d⟩=S)
noncomputable def mx(n:Nat):GT:=λts q=>∃(x0:Str)(rs:qal)(p:Nat)(h:Str)(vs:List Vl)(d:List Dg)(c:Cl),ts=[.lst (rs.map bu),.int (p:Int),.lst (vs.map vK),.lst (d.map dK),.dt c.ks c.tK]/\c.L/\Wl rs/\(∀p f ps,rs[p]?=some (.df f ps)->nB (rs.drop (p+1))<=6)/\n_ (aV rs rs.length) h=some p/\gk rs x0 n h vs.length/\d.length+bD n<=5000/\c.vs.length+bD n<=5000 /\
 ∀c':Cl,c'.L->c'.get=(dh rs n h vs ⟨c.get,d⟩).2.c->c'.vs.length<=c.vs.length+bD n->q [.lst ((dh rs n h vs ⟨c.get,d⟩).2.d.map dK),.dt c'.ks c'.tK] (.vw (vK (dh rs n h vs ⟨c.get,d⟩).1))
section
noncomputable abbrev rB:π:=["_law_rows_here","_law_place","_law_values","_law_doings","_law_cells","_law_held","_law_name","_law_value","_law_row_here","_law_given","_law_start","_law_record"]
def nJ:aE rB qaW (aj jN):=L2.g9
def wO:(rB++(["_law_operand_here"]:π)).Nodup:=by decide +kernel
def wQ:(rB++(["_law_other"]:π)).Nodup:=by decide +kernel
def Bi(D:Df K mg "_law_called" jN qaW f fd):bW P w K mg base "_law_called" qaW 3 (kx K [false,false,false,true,true] (mx 0)) :=
 D.hJ (Wz D.F nJ rfl λbB A outer s H E as Ox hr ts q hl hG=>by obtain⟨_,_,_,_,_,_,_,_,_,_,_,_,h,_⟩:=hG;exact h.elim)
def kY{d:Nat}(hd:2<=d)(D:Df K mg "_law_called" jN qaW f fd)(M:KP mg)(kX:bW P w K mg base "_law_look" qaT 1 (di K 2 Di))(rC:bW P w K mg base "_law_made" qaV 2 (kx K [false,false,true,true,true] JM))(rD:bW P w K mg base "_law_called" qaW d (kx K [false,false,false,true,true] (mx n))):bW P w K mg base "_law_called" qaW (d+1) (kx K [false,false,false,true,true] (mx (n+1))):=by
 obtain⟨f_look,NP,iY,iZ,i4,i5⟩:=kX;obtain⟨adU,ZA,Tu,k_made,Tv,Tw⟩:=rC;obtain⟨JQ,E5,rE,rF,rG,rH⟩:=rD;refine D.hJ (Wz D.F nJ rfl λbB A outer s H E as Ox hr ts q hl hG=>?_);have nd:=nJ.nd;have hu:=bF.iN hr;have rX:=j9 hu;refine⟨_,(ah (eX (i:=5) nd rfl (.inr rfl) (qau vz) (dO (by decide)))
  (ah (ku KS rfl (Hi (by rfl) M.zip (ψ (aI (θ (aI (aa 0) (aa 1))) (θ ag))) (ai 2)) (mV (n:=2) rfl (cY (bt (i:=6) nd rfl (.inl rfl) (dO (by decide))) (cY (bt (i:=7) nd rfl (.inl rfl) (dO (by decide))) jS)))
   (ax (vB 5 rX (ai 7) (aa 6))))
  (ah (cX (i_ 3 BC BD bR bY (ae (ψ (bA (ae (ai 1) (ae (ψ (eh dG fm (by rfl) M.tuple eG (aJ (aa 2) aW))) (ae (ψ c7) ar))))) ar)))
  (ah (GS KS (xJ hu (θ (aI (θ (aI (aa 0) (θ (bS (aa 1) (θ ag))))) (θ ag))) (θ a9))
   (ah (aX (i:=1) nd rfl (.inl rfl) (qau (bS (aa 1) (θ ag))) (dO (by decide)))
   (ah (aX (i:=8) nd rfl (.inl rfl) (qau (aI (aa 0) (aa 1))) (dO (by decide)))
   (ax (bJ (de hu (θ (aI (aa 8) (θ ag))) (θ a9))
    (ah (oX (i:=9) (ts:=["_law_operand_here"]) nd rfl (.inl rfl) rfl (by rfl) (gb (ψ (aI (aa 8) (θ ag)))) (λ_ _ _ _ _ _=>(bt (i:=12) wO rfl (.inl rfl) (dO (by decide)))) (λ_ _ _ _ _ _=>dg) (λ_ _ _ _ _ _=>(ψ (fG i5 (hr.mono (by omega)) (by rfl) iY iZ i4 (gO 5 false (fF (ai 12) gN))))) (dO (by decide)))
    (ah (cX (i_ 3 BC BD bR bY (ae (ψ (bA (ae (ai 1) (ae (ψ (eh dG fm (by rfl) M.tuple eG (aJ (aa 9) aW))) (ae (ψ c7) ar))))) ar)))
    (ah (aX (i:=10) nd rfl (.inl rfl) (qau (zj hu (θ (dU (ts:=["_law_other"]) rfl (by rfl) (gb (ai 0)) (λ_ _ _ _ _ _=>(bt (i:=12) wQ rfl (.inl rfl) (dO (by decide)))) (λ_ _ _ _ _ _=>dg) (λ_ _ _ _ _ _=>(ψ (E3 (aa 12) iL (fg (θ ag))))))) (aJ (θ (bA (ae (ψ a9) (ae (ψ (aI (aa 8) (θ ag))) ar)))) aW))) (dO (by decide)))
    (ax (Jy 5 rX (xS rH (hr.mono (by omega)) (by rfl) rE rF rG (jm (ai 0) (jm (ai 10) (jm (ai 9) (lr 3 (lr 4 Cc)))))) (θ (aI (aa 8) (θ ag))))))))
    (ax (bJ (de hu (θ (aI (aa 8) (θ ag))) (θ a9))
     (ah (aX (i:=11) nd rfl (.inl rfl) (qau (fG i5 (hr.mono (by omega)) (by rfl) iY iZ i4 (gO 5 false (fF (ψ (aI (aa 8) (θ ag))) gN)))) (dO (by decide)))
     (ah (aX (i:=7) nd rfl (.inl rfl) (qau (fG i5 (hr.mono (by omega)) (by rfl) iY iZ i4 (gO 5 false (fF (ψ (aI (aa 8) (θ ag))) gN)))) (dO (by decide)))
     (ah (cX (i_ 3 BC BD bR bY (ae (ψ (bA (ae (ai 1) (ae (ψ (bA (ae (ai 11) (ae (ai 7) ar)))) (ae (ai 7) ar))))) ar)))
     (ax (bJ (eF (cy eZ (by rfl) M.isinstance (by rfl) M.tuple eG (Pz (aa 11))))
      (ax (Jx 4 rX (ai 7) (ai 11)))
      aZ)))))
     (ax (cX (xS Tw (hr.mono (by omega)) (by rfl) Tu k_made Tv (jm (ai 0) (jm (ai 1) (lr 5 (lr 3 (lr 4 Cc)))))))))))))))
  (ah (aX (i:=7) nd rfl (.inl rfl) (qau (fG i5 (hr.mono (by omega)) (by rfl) iY iZ i4 (gO 5 false (fF (ψ (aI (θ (aI (aa 0) (θ (bS (aa 1) (θ ag))))) (θ ag))) gN)))) (dO (by decide)))
  (ah (cX (i_ 3 BC BD bR bY (ae (ψ (bA (ae (ψ (bS (aa 1) (θ ag))) (ae (ψ (bA (ae (ai 7) ar))) (ae (ai 7) ar))))) ar)))
  (ax (aT (qau (VE.vp (ai 7))))))))))),?_⟩
 obtain⟨x0,rs,p,h,vs,dd,c,rfl,cL,W,h6,ha,Bj,FK,QX,hq⟩:=hG;obtain⟨p0,f0,ps,a1,a2,a3,a4,a5⟩:=Bj;obtain rfl:p0=p:=Option.some.inj (a1.symm.trans ha);have Uq:dh rs (n+1) h vs ⟨c.get,dd⟩=eQ (dh rs n) (rs.drop (p0+1)) (p0+1) (bw ps vs ps.length).get ⟨c.get,dd++[⟨p0,vs,none⟩]⟩:=by show (match n_ (aV rs rs.length) h with|some p=>_|none=>_)=_;rw[a1];dsimp only;rw[a2];rfl
 rw[Uq] at hq;have fO:ps.length<=50:=(W.ok _ (eS a2)).1;have hra:=Rg.iQ a2;refine⟨_,hra,_,aaD,?_⟩;show pW (qm (ps.map T.str) (vs.map vK)) _ _ _ [some (.lst (rs.map bu),false),some (.int (p0:Int),false),some (.lst (vs.map vK),false),some (.lst (dd.map dK),true),some (.dt c.ks c.tK,true),some (.dk [] [],true),none,none,none,none,none,none];have zl:(qm (ps.map T.str) (vs.map vK)).length=ps.length:=by unfold qm;rw[UY,cJ,cJ];omega
 refine⟨λi ρ=>∃e b6 b7,e=bw ps vs i/\ρ=eC rs p0 vs dd c e [b6,b7,none,none,none,none],⟨_,none,none,rfl,rfl⟩,?_,?_⟩;rintro i t ρ ht ⟨e,b6,b7,he,rfl⟩;have hi:i<ps.length:=by rw[<- zl];exact (fQ.mp ht).1
 obtain⟨x,hx⟩:∃x,ps[i]?=some x:=⟨_,mz hi⟩;obtain⟨v,hv⟩:∃v,vs[i]?=some v:=⟨_,mz (by omega)⟩;have et:t=.tup [.str x,vK v]:=by unfold qm at ht;rw[YI,hU,hU,hx,hv] at ht;exact (Option.some.inj ht).symm
 subst et;have es:bw ps vs (i+1)=e.put x v:=by simp only[bw,hx,List.getD,hv,he];rfl
 have hl:=mi ps vs i;rw[<- he] at hl;refine⟨rfl,rfl,JP (P4 hl (N' hi (P4 fO (by decide)))),e.put x v,some (.str x,false),some (vK v,false),es.symm,?_⟩;show _=eC rs p0 vs dd c ⟨dP e.ks (.inr x),bO e.ks e.is (.inr x) v⟩ _;unfold eC Ev.tK;rw[<- ip vK e.ks e.is (.inr x) v];rfl;rintro ρ ⟨e0,b6,b7,ZC,rfl⟩;rw[zl] at ZC;have adV:dd.length<10000:=P4 (fM (Kh _ (bD (n+1))) FK) (by decide);refine⟨Gen.cR rfl,wN adV,?_⟩;generalize hS:eQ (dh rs n) (rs.drop (p0+1)) (p0+1) (bw ps vs ps.length).get ⟨c.get,dd++[⟨p0,vs,none⟩]⟩=S at hq;clear Uq;refine⟨IvC rs x0 n vs c S,⟨_,rs.drop (p0+1),p0,e0,dd++[⟨p0,vs,none⟩],c,b6,b7,none,none,none,none,rfl,?_,rfl,a5,by rw[ZC];exact wJ ps vs _,cL,?_,by rw[ZC];exact hS⟩,?_⟩;unfold eC;rw[oS];rfl;rw[jf];exact .ini (h6 p0 f0 ps a2) (by rw[ZC];exact fM (mi ps vs _) fO) FK QX;rintro m ρ ⟨l,k,e,d,c',b6,b7,b8,b9,Yg,Zz,rfl,rfl,hdr,Bj,eL,Tx,UO,rV⟩;have uO:=UO.fit;cases l with
 |nil=>exact Bj.elim
 |cons r l=>
  obtain⟨hr1,NS⟩:=C_ hdr;have ek:(k:Int)+1=((k+1:Nat):Int):=by push_cast;rfl
  obtain⟨t1,et1⟩:=lK r;have sW:=Rg.iQ hr1;have hrw:=sW;rw[et1,<- ek] at hrw;rw[<- ek] at sW;refine⟨_,hrw,_,aaB,?_⟩;by_cases hg:wd r="give";refine m8 (c:=!decide (wd r="give")) (by rw[ν hg];rfl) ?_;cases r with
  |give a=>
   subst rV;have gQ:=hq c' Tx rfl UO.out;refine⟨_,sW,_,aaC,rfl,e,a,rfl,NQ _,Gen.cR rfl,Gen.cR rfl,wN uO.2.1,?_⟩;rw[ek];have e9:d.map dK++[T.tup [.int ((k+1:Nat):Int),.tup [vK (val e.get a)],vK (val e.get a)]]=(d++[Dg.mk (k+1) [val e.get a] (some (val e.get a))]).map dK:=by rw[oS];rfl
   show q [.lst (d.map dK++[T.tup [.int ((k+1:Nat):Int),.tup [vK (val e.get a)],vK (val e.get a)]]),.dt c'.ks c'.tK] (.vw (vK (val e.get a)));rw[e9];exact gQ
  |_=>exact absurd hg (by simp only[wd];decide +kernel)
  refine LV (c:=!decide (wd r="give")) (by rw[ι hg];rfl) ?_;have key:(MkR r/\(wd r≠"call"/\wd r≠"set")/\nB (r::l)=nB l+1/\mv x0 (gk rs x0 n) l/\eQ (dh rs n) (r::l) (k+1) e.get ⟨c'.get,d⟩=eQ (dh rs n) l (k+1+1) (Tq e.get (Ut r) (NI e.get (k+1) ⟨c'.get,d⟩ r)) ((G.mk c'.get d).add ⟨k+1,NH e.get r,some (NI e.get (k+1) ⟨c'.get,d⟩ r)⟩))\/(∃y k' a,r=.set y k' a)\/∃x f' gA,r=.call x f' gA:=by
   cases r with
   |put x a=>exact .inl ⟨trivial,by simp only[wd];decide +kernel,rfl,Bj,rfl⟩
   |new x=>exact .inl ⟨trivial,by simp only[wd];decide +kernel,rfl,Bj,rfl⟩
   |get x y k'=>exact .inl ⟨trivial,by simp only[wd];decide +kernel,rfl,Bj.2,rfl⟩
   |kJ x a op b=>exact .inl ⟨Bj.1,by simp only[wd];decide +kernel,rfl,Bj.2,rfl⟩
   |set y k' a=>exact .inr (.inl ⟨_,_,_,rfl⟩)
   |call x f' gA=>exact .inr (.inr ⟨_,_,_,rfl⟩)
   |give a=>exact absurd rfl hg
   |_=>exact Bj.elim
  obtain⟨mk,⟨w1,w2⟩,hnB,uz,hb⟩|⟨y,k',a,rfl⟩|⟨x,f',gA,rfl⟩:=key
  rw[hnB] at UO;refine⟨_,hrw,_,aaB,?_⟩;refine jn (λz=>absurd z w1) (λ_=>?_);refine⟨_,aaB,?_⟩;refine jn (λz=>absurd z w2) (λ_=>?_);refine⟨rs,k+1,r,e,d,c',by rw[<- ek];rfl,hr1,mk,Qc uO.1,Qc uO.2.1,?_⟩;refine⟨l.length,zJ _,l,k+1,e.put (Ut r) (NI e.get (k+1) ⟨c'.get,d⟩ r),d++[⟨k+1,NH e.get r,some (NI e.get (k+1) ⟨c'.get,d⟩ r)⟩],c',b6,b7,some (T.tup (.str (wd r)::t1),false),b9,Yg,Zz,rfl,?_,NS,uz,eL.put _ _,Tx,UO.step (iq _ _ _ _) (by rw[jf];exact Kh _ _) (fM (Kh _ 1) (Kh _ _)),?_⟩;unfold eC;rw[<- ek];rfl;rw[wK eL,<- rV,hb];rfl;obtain⟨rfl,uz⟩:=Bj;have Yh:Dp n e.is.length d.length c'.vs.length c.vs.length (nB l+1):=UO;have hwd:¬ wd (Rw.set y (.fld x0) a)="call":=by simp only[wd];decide +kernel
  have hws:wd (Rw.set y (.fld x0) a)="set":=rfl;refine⟨_,sW,_,aaB,?_⟩;refine⟨_,aaB,_,aaC,rfl,e,.nm y,rfl,NQ _,_,aaE,rfl,e,a,rfl,NQ _,Gen.cR rfl,Gen.cR rfl,wN uO.2.1,?_⟩;have hb:eQ (dh rs n) l (k+1+1) e.get ⟨setC c'.get (e.get y) (val e.get a),d++[⟨k+1,[e.get y,val e.get a],some (val e.get a)⟩]⟩=S:=rV;generalize hv:val e.get (.nm y)=v1;have se:e.get y=v1:=hv;rw[se] at hb;have O9:(d++[Dg.mk (k+1) [v1,val e.get a] (some (val e.get a))]).map dK=d.map dK++[T.tup [.int ((k:Int)+1),.tup [vK v1,vK (val e.get a)],vK (val e.get a)]]:=by rw[oS,ek];rfl
  have Yi:(d++[Dg.mk (k+1) [v1,val e.get a] (some (val e.get a))]).length<=d.length+1+bD n:=by rw[jf];exact Kh _ _
  cases v1 with
  |num i=>have KA:eQ (dh rs n) l (k+1+1) e.get ⟨c'.get,d++[Dg.mk (k+1) [.num i,val e.get a] (some (val e.get a))]⟩=S:=hb;refine⟨rfl,l.length,zJ _,l,k+1,e,d++[Dg.mk (k+1) [.num i,val e.get a] (some (val e.get a))],c',b6,some (vK (val e.get a),false),some (bu (.set y (.fld x0) a),false),b9,Yg,some (vK (.num i),false),rfl,?_,NS,uz,eL,Tx,Yh.step (xi _) Yi (fM (Kh _ 1) (Kh _ _)),KA⟩;unfold eC;rw[O9,<- ek];rfl
  |mC p' n'=>obtain⟨u1,u2,u3⟩:=Tx.put p' n' (val e.get a);refine⟨rfl,by show c'.tK.length<_;unfold Cl.tK;rw[cJ];exact Yf uO.2.2,l.length,zJ _,l,k+1,e,d++[Dg.mk (k+1) [.mC p' n',val e.get a] (some (val e.get a))],c'.put p' n' (val e.get a),b6,some (vK (val e.get a),false),some (bu (.set y (.fld x0) a),false),b9,Yg,some (vK (.mC p' n'),false),rfl,?_,NS,uz,eL,u1,Yh.step (xi _) Yi (fM u2 (Kh _ _)),by rw[u3];exact hb⟩;have ec:(c'.put p' n' (val e.get a)).tK=t6 c'.ks c'.tK [.inl p',.inl n'] (vK (val e.get a)):=(NR vK _ _ _ _).symm;unfold eC;rw[O9,<- ek,ec];rfl
  have Yh:Dp n e.is.length d.length c'.vs.length c.vs.length (nB l+1):=UO;obtain⟨hC,uz⟩:=Bj;obtain⟨pf,g',psf,b1,b2⟩:=PC n f' gA.length hC;obtain⟨_,qs,hqs⟩:=qC _ b1;have hn:(rs.map bu).length<=100:=by rw[cJ];exact W.n
  refine⟨_,sW,_,aaB,?_⟩;refine⟨rfl,_,aaE,leB (n:=(gA.map gf).length) (by rw[cJ];exact fM (W.ok _ (eS hr1)).1 (by decide)),?_⟩;refine dw (f:=gf) (u:=λo=>vK (val e.get o)) (λo _ k2 Kv=>⟨rfl,e,o,rfl,NQ _,Kv⟩) ?_;refine⟨Gen.cR rfl,wN uO.2.1,?_⟩;refine⟨rfl,leB (fM hn (by decide)),?_⟩;refine dw (f:=bu) (u:=λr=>Bd (Zy r)) (λr hr2 k2 Kv=>?_) ?_;obtain⟨ts,e1,e2⟩:=adT (W.ok r hr2);rw[e1];rw[<- e2] at Kv;exact Kv;have hvv:gA.map (λo=>vK (val e.get o))=(gA.map (val e.get)).map vK:=by rw[tu];rfl
  have O9:(d++[Dg.mk (k+1) (gA.map (val e.get)) none]).map dK=d.map dK++[T.tup [.int ((k:Int)+1),.tup ((gA.map (val e.get)).map vK),.aQ]]:=by rw[oS,ek];rfl
  have Yi:(d++[Dg.mk (k+1) (gA.map (val e.get)) none]).length=d.length+1:=jf;have hb7:=Yh.call;refine⟨_,aaD,Gen.cR rfl,rs.map Zy,(("def":Str),(.inr f':Key)),pf,by rw[tu];rfl,rfl,by rw[hU,hqs];rfl,λi hi z=>?_,by rw[cJ] at hn ⊢;exact fM hn (by decide),?_⟩;rw[hU] at z;cases hri:rs[i]? with
  |none=>rw[hri] at z;cases z
  |some r=>rw[hri] at z;obtain⟨Zi,rfl⟩:=Tt (Option.some.inj z);have:=W.D.un i pf f' Zi qs hri hqs;omega
  have Yj:=rA h6 n f' (gA.map (val e.get)) ⟨c'.get,d++[Dg.mk (k+1) (gA.map (val e.get)) none]⟩;have hb:eQ (dh rs n) l (k+1+1) (Tq e.get x (dh rs n f' (gA.map (val e.get)) ⟨c'.get,d++[Dg.mk (k+1) (gA.map (val e.get)) none]⟩).1) (dh rs n f' (gA.map (val e.get)) ⟨c'.get,d++[Dg.mk (k+1) (gA.map (val e.get)) none]⟩).2=S:=rV;refine⟨x0,rs,pf,f',gA.map (val e.get),d++[Dg.mk (k+1) (gA.map (val e.get)) none],c',?_,Tx,W,h6,b1,by rw[cJ];exact hC,by rw[Yi];exact hb7.1,hb7.2,λc2 c2L c2g c2l=>?_⟩;rw[O9,<- hvv];rfl;generalize dh rs n f' (gA.map (val e.get)) ⟨c'.get,d++[Dg.mk (k+1) (gA.map (val e.get)) none]⟩=r2 at Yj hb c2g ⊢;have Yk:r2.2.d.length<=(d++[Dg.mk (k+1) (gA.map (val e.get)) none]).length+bD n:=Yj;rw[Yi] at Yk;have hp:bO e.ks (Ev.tK e) (.inr x) (vK r2.1)=Ev.tK (e.put x r2.1):=ip vK e.ks e.is (.inr x) r2.1;refine⟨_,aaC,JP (N' uO.1 (by decide)),l.length,zJ _,l,k+1,e.put x r2.1,r2.2.d,c2,b6,b7,some (bu (.call x f' gA),false),some (.lst (gA.map λo=>vK (val e.get o)),false),some (.int (pf:Int),false),Zz,rfl,?_,NS,uz,eL.put _ _,c2L,Yh.step (iq _ _ _ _) Yk (fM c2l (Nat.add_le_add_right (xi _) _)),?_⟩;unfold eC;rw[<- ek,<- hp];rfl;rw[wK eL,c2g];exact hb
def E6(D:Df K mg "_law_called" jN qaW f fd)(M:KP mg)(kX:bW P w K mg base "_law_look" qaT 1 (di K 2 Di))(rC:bW P w K mg base "_law_made" qaV 2 (kx K [false,false,true,true,true] JM)):bW P w K mg base "_law_called" qaW 6 (kx K [false,false,false,true,true] (mx 3)) :=
 kY (by decide) D M kX rC (kY (by decide) D M kX rC (kY (by decide) D M kX rC (Bi D)))
end
end cQ
namespace VT
open PySem PySem.Spec PyProof.Rows L2
noncomputable def Yl(X:Cx)(Z:Zc)(tm:qab)(ms:List (Option Nat))(f:FA):TA:=λσ H Q=>∃ρ O q,ay X.K Z tm O ρ σ H/\f ρ q/\∀ts,q ts->∀vs H' p,aO H H'->AM X.K H' (av Z O) O ρ ms ts vs->H' p=none->Q (vs++[.ref p]) (upd H' p (.dT []))
def Bk(X:Cx)(Z:Zc)(es:qap)(ms:List (Option Nat))(f:FA):Prop:=Bx λtm=>PA X es (Yl X Z tm ms f)
instance{X:Cx}{Z:Zc}{es:qap}{ms:List (Option Nat)}{f:FA}:CoeFun (Bk X Z es ms f) λ_=>∀tm,PA X es (Yl X Z tm ms f):=⟨λh=>Bx.h h⟩
section
def E7{pos:Pos}(hs:starEach [.Dict [] [] pos] X.env=(false,eval (.Dict [] [] pos) X.env)::starEach [] X.env:=by rfl):Bk X Z [.Dict [] [] pos] [] oE :=
 .mk λtm=>PA.weak (bf Hn cC hs) λσ H Q ⟨ρ,O,q,I,hf,k⟩ p hp=>k [] hf [] H p (aO.refl H) ⟨rfl,rfl⟩ hp
def nK{f:FE}(h:VE X Z e f)(h':Bk X Z es ms g)(hs:starEach (e::es) X.env=(false,eval e X.env)::starEach es X.env:=by rfl):Bk X Z (e::es) (none::ms) (dI f g) :=
 .mk λtm=>PA.weak (bf (h tm) (h' tm) hs) λσ H Q ⟨ρ,O,q,I,hf,k⟩=>⟨ρ,O,_,I,hf,λt ht v H1 s1 a1=>⟨ρ,O,_,I.same s1,ht,λts dZ vs H2 p s2 a2 hp=>k _ dZ _ H2 p (s1.trans s2) ⟨t,ts,v,vs,rfl,rfl,a1.same s2,a2⟩ hp⟩⟩
def JR(j:Nat){py:Pos}(h':Bk X Z es ms g)(hN:X.N[j]?=some y:=by rfl)(hv:jQ X.env.scope y:=by exact jvv rfl)(hd:gq y:=by decide)(fH:rQ y:=by decide)(hs:starEach (.Name y py::es) X.env=(false,eval (.Name y py) X.env)::starEach es X.env:=by rfl):Bk X Z (.Name y py::es) (some j::ms) (dI (lq j) g) :=
 .mk λtm=>PA.weak (bf (bP hN hv hd fH) (h' tm) hs) λσ H Q ⟨ρ,O,q,I,hf,k⟩=>by
  have Cd:lq j ρ λt=>g ρ λts=>q (t::ts):=hf;unfold lq at Cd;split at Cd
  rename_i t e0
  obtain⟨a,h1,h2,h3⟩:=I.root e0;exact⟨.ref a,h2,ρ,O,_,I,Cd,λts dZ vs H2 p s2 a2 hp=>k _ dZ _ H2 p s2 ⟨a,t,ts,vs,rfl,rfl,e0,h1,a2⟩ hp⟩;exact Cd.elim
end
section
variable{H2:Hp}{A A2:ο}
theorem c8.snoc(gr:∀t v,At K H A t v->At K H2 A2 t v)(gR:∀a t,ck K H A a t->ck K H2 A2 a t){p:Addr}{t:T}(hp:ck K H2 A2 p t):∀{fs:List Bool}{as:ο}{ts:ξ}{vs:Ω},c8 K H A fs as ts vs->c8 K H2 A2 (fs++[true]) (as++[p]) (ts++[t]) (vs++[.ref p])
 |[],as,ts,vs,h=>by obtain⟨rfl,rfl,rfl⟩:=h;exact⟨p,[],t,[],[],rfl,rfl,rfl,hp,rfl,rfl,rfl⟩
 |false::fs,as,ts,vs,h=>by obtain⟨t',gz,v,fq,rfl,rfl,h1,h2⟩:=h;exact⟨t',_,v,_,rfl,rfl,gr _ _ h1,c8.snoc gr gR hp h2⟩
 |true::fs,as,ts,vs,h=>by obtain⟨a,gA,t',gz,fq,rfl,rfl,rfl,h1,h2⟩:=h;exact⟨a,_,t',_,_,rfl,rfl,rfl,gR _ _ h1,c8.snoc gr gR hp h2⟩
theorem oq{α β:Type}{F:α->β->Prop}:∀{l:List α}{x:α}{m:List β},Paired F (l++[x]) m->∃m' y,m=m'++[y]/\Paired F l m'/\F x y
 |[],x,m,h=>by
  cases h with
  |cons r t=>cases t;exact⟨[],_,rfl,.nil,r⟩
 |a::l,x,m,h=>by
  cases h with
  |cons r t=>obtain⟨m',y,rfl,h1,h2⟩:=oq t;exact⟨_::m',y,rfl,.cons r h1,h2⟩
end
noncomputable def NT(ms:List (Option Nat))(g:FA)(G:GT):FX:=λρ Q=>g ρ λts=>G (ts++[.dt [] []]) λus r=>match r with
 |.vw t=>Q (putK (ms.filterMap id) us.dropLast ρ) (.vw t)
 |_=>False
section
variable{k:Nat}{fs:List Bool}{G:GT}{pos:Pos}
def E8(F:cq X.prog X.w X.K X.mg X.base eD k f fd ps (kx X.K fs G))(hr:bF k X.A)(hg:Gl X x)(hm:X.mg x=some (.ref f))(hk:W.keepIn X.K (.ref f)=true)(hb:Binds X.K fd ps [])(ha:Bk X Z (e::es) ms g)(Rp:ms.map Option.isSome++[true]=fs:=by rfl)(Uw:(ms.filterMap id).Nodup:=by decide)(kj:gq x:=by decide)(he:starEach (e::es) X.env=(false,eval e X.env)::starEach es X.env:=by rfl)(fO:(backTo pos (starEach es X.env)).any (·.1)=false:=by rfl) :
  VX X Z (.Call (.Name x p) (e::es) [] pos) (NT ms g G):=.mk λtm=>PE.weak (iF F hr hg hm hk hb .nil i8 (ha tm) kj he fO) λσ H Q ⟨ρ,O,q,I,hf,k⟩ =>
 ⟨ρ,O,_,I,hf,λts dZ vs H1 pa s1 a1 Ym=>by
   subst Rp;show kx X.K _ G ((vs++[.ref pa])++[]) (upd H1 pa (.dT [])) Q E0;rw[xc];have J:=I.same s1;have s2:aO H1 (upd H1 pa (.dT [])):=aA Ym;obtain⟨as,h1,h2⟩:=AM.args (A':=av Z O) (λ_ z=>z) (λk t e=>by obtain⟨a,q1,q2,q3⟩:=J.root e;exact⟨a,q1,q3⟩) a1;have qa:∀a∈as,a∈roots O:=λa h=>by obtain⟨k,_,e⟩:=du h2 h;exact aH.mpr (eS e)
   have inH:∀a∈as,H1 a≠none:=λa h=>by obtain⟨_,_,u,eu,_⟩:=J.own a (qa a h);rw[eu];simp
   have ndA:as.Nodup:=by
    clear h1;have:∀{as:ο}{ks:qao},ks.Nodup->Paired (λa k=>O[k]?=some (some a)) as ks->as.Nodup:=by
     intro as ks nd h;induction h with
     |nil=>exact Ft
     |cons r t ih=>rw[jg] at nd ⊢;refine⟨λm=>?_,ih nd.2⟩;obtain⟨k',m1,m2⟩:=du t m;exact nd.1 (by rw[Cg J r m2];exact m1)
    exact this Uw h2
   have npa:pa∉as:=λm=>inH pa m Ym;have npv:pa∉av Z O:=λm=>J.uR pa m Ym;have Ru:∀b,b∈av Z O->b∈(as++[pa])++(av Z O).filter (λb=>decide (b∉as)):=λb z=>by rw[cK,cK,F0];by_cases hb:b∈as;exact .inl (.inl hb);exact .inr ⟨z,ν hb⟩
   have mr:∀b∈(as++[pa])++(av Z O).filter (λb=>decide (b∉as)),b∈av Z O\/H1 b=none:=λb z=>by
    rw[cK,cK,F0,iD] at z;obtain (z|z)|z:=z
    exact .inl (cA _ (qa b z));exact .inr (by rw[z];exact Ym);exact .inl z.1
   refine⟨ts++[.dt [] []],as++[pa],(av Z O).filter (λb=>decide (b∉as)),λus r=>(match r with
    |.vw t=>q (putK (ms.filterMap id) us.dropLast ρ) (.vw t)
    |_=>False),?_,λa h z=>?_,λa h=>?_,?_,dZ,λus r hr v H' fr z=>?_⟩
   rw[zC];exact⟨ndA,by simp,λa ha b hb=>by rw[iD.mp hb];exact λz=>npa (by rw[<- z];exact ha)⟩;rcases cK.mp h with y|y
   exact (aae (F0.mp z).2) y;rw[iD.mp y] at z;exact npv (F0.mp z).1;have:=J.uR a (F0.mp h).1;cases e:H1 a with
   |none=>exact absurd e this
   |some u=>rw[s2 _ _ e];simp
   have hRp:ck X.K (upd H1 pa (.dT [])) ((as++[pa])++(av Z O).filter (λb=>decide (b∉as))) pa (.dt [] []):=⟨[],rfl,aC,az.nil⟩;refine c8.snoc (λt v w=>(w.more mr).same s2) (λa t w=>ck.same (w.map rfl λ_ _ y=>y.more mr) s2) hRp h1;cases r with
   |fr t=>exact hr.elim
   |vw t=>
     obtain⟨z1,z2⟩:=z;obtain⟨KC,u,rfl,z3,_⟩:=oq z2;have eR:q (putK (ms.filterMap id) KC ρ) (.vw t):=by rw[<- Uj (l₁:=KC) (b:=u)];exact hr
     have fr':∀b o,H1 b=some o->b∉as->H' b=some o:=λb o e n=>fr b o (s2 _ _ e) λm=>by
      rcases cK.mp m with y|y
      exact n y;rw[iD.mp y,Ym] at e;cases e
     have LR:∀a∈Z.Ox,a∉roots O/\H' a≠none:=λa h=>by
      have na:a∉roots O:=λm=>(J.own a m).2.1 h;refine⟨na,?_⟩;cases e:H1 a with
      |none=>exact absurd e (J.ox a h)
      |some u=>rw[fr' _ _ e λm=>na (qa a m)];simp
     exact k _ _ eR O v H' ⟨J.called h2 Uw fr' (Paired.k5 z3 λ_ _ q=>q.aY λb hb=>Ru b hb) rfl rfl LR λa h=>.inl h,z1.aY λb hb=>Ru b hb⟩⟩
end
end VT
set_option exponentiation.threshold 4000
namespace cQ
open PySem L2 VT Gen EW Rg Lay K5
open c5 (iW Ys S8)
open nP (c_)
open kR (Vl vT nm dQ RI bg MZ pw UG)
noncomputable def Dq(t:List (Str×Nat)):ξ:=t.map λp=>.tup [.str p.1,.int (p.2:Int)]
structure NU(ys:π):Prop where
 Y:Ys ys
 nm:∀y∈ys,c_ y=true/\y.length<=50
 nd:ys.Nodup
def NU.Yn{ys:π}(h:NU ys){o:ij}(ho:yk ys o):rW o:=by
 cases o with
 |nm x=>exact⟨(h.nm x ho).1,fM (h.nm x ho).2 (by decide)⟩
 |nu i=>exact ho
def NU.pd{ys:π}(h:NU ys)(hy:y∈ys):rW (.nm y):=h.Yn (o:=.nm y) hy
def PF(ts:ξ)(q:qam):Prop:=∃(c:Int)(ys:π)(t:List (Str×Nat))(x0:Str),ts=[.int c,iW ys,.lst (Dq t)]/\NU ys/\(∀p∈t,p.2<=4)/\ys[0]?=some x0/\∀r,BR x0 t r->v5 r->q (.vw (bu r))
def JS(ts:ξ)(q:qam):Prop:=∃(ns:qan)(ys:π)(h:Int)(x0:Str),ts=[.lst (ns.map .int),iW ys,.int h]/\S8 h/\NU ys/\ys[0]?=some x0/\∀A B C,Pg x0 A B C->UN A B C->A.ps.length<=4->q (.fr (.lst ((jM A B C).map bu)))
def E9(t:List (Str×Nat)):plainT (.lst (Dq t))=true:=by unfold Dq;simp only[plainT];exact qw (λ_=>by simp[plainT,iK]) t
def NV(t:List (Str×Nat)):dep (.lst (Dq t))<=100:=by unfold Dq;have:=yl (f:=λp:Str×Nat=>T.tup [.str p.1,.int (p.2:Int)]) (n:=1) (λ_=>by simp[dep,Ak]) t;simp only[dep];omega
theorem Dr{ys:π}:∀(us:ξ),(∀x∈us,∃a,x=gf a/\yk ys a)->∃as:List ij,us=as.map gf/\∀a∈as,yk ys a
 |[],_=>⟨[],rfl,λ_ h=>absurd h fK⟩
 |u::us,h=>by obtain⟨a,rfl,ha⟩:=h u c6;obtain⟨as,rfl,has⟩:=Dr us λx hx=>h x (fJ _ hx);exact⟨a::as,rfl,λz hz=>by (rcases cU.mp hz with rfl|hz);(exact ha);(exact has z hz)⟩
noncomputable def PH(a b c:Str):Nat->Str
 |0=>a
 |1=>b
 |_=>c
noncomputable def wF(w0 w1 w2:Nat):Nat->Nat
 |0=>w0
 |1=>w1
 |_=>w2
noncomputable def PJ(b c:Str)(w1 w2:Nat):Nat->List (Str×Nat)
 |0=>[(b,w1),(c,w2)]
 |1=>[(c,w2)]
 |_=>[]
structure FOk(a b c:Str)(ys:π)(w0 w1 w2:Nat)(j:Nat)(F:F5):Prop where
 f:F.f=PH a b c j
 l:F.ps.length=wF w0 w1 w2 j
 nd:F.ps.Nodup
 m:∀x∈F.ps,x∈ys
 r:∀r∈F.b,BR a (PJ b c w1 w2 j) r/\v5 r
 n:F.b.length<=6
 o:rW F.o
def FOk.rows{a b c:Str}{ys:π}{w0 w1 w2:Nat}{F:F5}(h:FOk a b c ys w0 w1 w2 j F)(N:NU ys)(h4:wF w0 w1 w2 j<=4):∀r∈ja F,v5 r:=λr hr=>by
 rcases cU.mp hr with rfl|hr
 exact⟨by rw[h.l];omega,λx hx=>⟨(N.nm x (h.m x hx)).1,fM (N.nm x (h.m x hx)).2 (by decide)⟩⟩;rcases cK.mp hr with hr|hr
 exact (h.r r hr).2;rw[iD.mp hr];exact h.o
def adW(k n:Nat)(hk:k<3):(wI (some (4+(k:Int))) (some 22) (some 3) n).length<=6:=by unfold wI sliceRange sliceBounds;simp only[cJ,N8];simp only[Option.getD_some,show ((3:Int) > 0)=True from eq_true (by decide),aal,show ¬ ((22:Int)<0) by decide,aad,show ¬ (4+(k:Int)<0) by omega];split<;>omega
theorem zv{t:List (Str×Nat)}{x0:Str}:∀(us:ξ),(∀x∈us,∃r,x=bu r/\BR x0 t r/\v5 r)->∃rs:qal,us=rs.map bu/\∀r∈rs,BR x0 t r/\v5 r
 |[],_=>⟨[],rfl,λ_ h=>absurd h fK⟩
 |u::us,h=>by obtain⟨a,rfl,ha⟩:=h u c6;obtain⟨as,rfl,has⟩:=zv us λx hx=>h x (fJ _ hx);exact⟨a::as,rfl,λz hz=>by (rcases cU.mp hz with rfl|hz);(exact ha);(exact has z hz)⟩
def JT(f:α->β)(l:List α)(k:Nat)(h:k<=l.length):f_ (l.map f) (some (k:Int)) none=(l.drop k).map f:=by unfold f_;rw[cJ,HT.BP,HT.xv,Nat.min_eq_left h,<- List.map_drop,YG (by simp)]
def Yo{a b c:Str}{w0 w1 w2 k:Nat}(hk:k<3):((List.range (3-((k:Int)+1)).toNat).map λi=>T.tup [.str (PH a b c (k+1+i)),.int (wF w0 w1 w2 (k+1+i):Nat)])=Dq (PJ b c w1 w2 k):=by
 match k,hk with
 |0,_=>rfl
 |1,_=>rfl
 |2,_=>rfl
def Yp{b c:Str}{w1 w2 k:Nat}(g1:w1<=4)(g2:w2<=4)(hk:k<3):∀p∈PJ b c w1 w2 k,p.2<=4:=by
 match k,hk with
 |0,_=>intro p hp;simp only[PJ,cU,fK,ς] at hp;obtain rfl|rfl:=hp;exact g1;exact g2
 |1,_=>intro p hp;simp only[PJ,cU,fK,ς] at hp;rw[hp];exact g2
 |2,_=>exact λp hp=>(nomatch hp)
def Yq{a b c:Str}{rest:π}(hj:j<3):(a::b::c::rest)[j]?=some (PH a b c j):=by
 match j,hj with
 |0,_=>rfl
 |1,_=>rfl
 |2,_=>rfl
def Yr{w0 w1 w2:Nat}(hj:j<3):km [T.int (w0:Int),T.int (w1:Int),T.int (w2:Int)] (j:Int)=some (T.int (wF w0 w1 w2 j:Nat)):=by
 match j,hj with
 |0,_=>rfl
 |1,_=>rfl
 |2,_=>rfl
def Tz{z L:Nat}(h:z<5):min z L<=4/\min z L<=L:=⟨by omega,Nat.min_le_right _ _⟩
theorem wk4{w0 w1 w2 L:Nat}(h0:w0<=4/\w0<=L)(h1:w1<=4/\w1<=L)(h2:w2<=4/\w2<=L):∀k,wF w0 w1 w2 k<=4/\wF w0 w1 w2 k<=L
 |0=>h0
 |1=>h1
 |_+2=>h2
def TB{n:Int}(h:0<=n):∃z:Nat,n % 5=z/\z<5:=⟨(n % 5).toNat,by omega,by omega⟩
def rl8{F A B C k:Nat}(hr:F<=8 * k)(hk:k<3)(hb:B<=6):F<1000/\F+1+B<=16777216/\F+1+B+1<=1000/\F+(B+2)<=8 * (k+1):=⟨by omega,by omega,by omega,by omega⟩
section
noncomputable abbrev E_:π:=qaX
def rJ:aE E_ qaX (aj nI):=L2.g9
def Bl(D:Df K mg "_law_operand" nI qaX f fd)(M:KP mg):bW P w K mg base "_law_operand" qaX 1 (di K 2 c5.Jr):=by
 refine D.hJ (oH D.F rJ rfl λbB A outer s H E Ox hr ts q hG=>?_);have nd:=rJ.nd;refine⟨_,(ah (bJ (GN (θ (bH (aa 0) (θ ag))) (θ ag))
    (ax (aT (qau (aI (aa 1) (θ (bH (θ (cW (aa 0) (θ ag))) (θ (bq bh bj (by rfl) M.len pA (aJ (aa 1) aW)))))))))
    aZ)
   (ax (aT (qau (mT (θ (bH (θ (cW (aa 0) (θ ag))) (θ ag))) (θ ag)))))),λ_=>?_⟩
 obtain⟨c,ys,rfl,R,Y,hq⟩:=hG;refine⟨by decide,jn (λ_=>?_) (λ_=>?_)⟩;obtain⟨y,hy,e⟩:=Y.at (c / 3);exact⟨⟨by decide,by decide⟩,Y.pos,_,e,hq (.nm y) hy⟩;have g0:=zK (c / 3) (show (5:Int)≠0 by decide);have g1:=zI (c / 3) (show (0:Int)<5 by decide);exact⟨⟨by decide,by decide⟩,by decide,hq (.nu (c / 3 % 5-2)) ⟨by omega,by omega⟩⟩
noncomputable abbrev PK:π:=["_law_cell","_law_names_here","_law_there","_law_number","_law_name","_law_one","_law_other","_law_callee","_law_many"]
def JU:aE PK qaY (aj s_row):=L2.g9
def Fb:(PK++(["_law_k"]:π)).Nodup:=by decide +kernel
def TC(D:Df K mg "_law_row" s_row qaY f fd)(M:KP mg)(iB:bW P w K mg base "_law_operand" qaX 1 (di K 2 c5.Jr)):bW P w K mg base "_law_row" qaY 2 (di K 3 PF):=by
 refine D.hJ (oH D.F JU rfl λbB A outer s H E Ox hr ts q hG=>?_);have nd:=JU.nd;have hu:=bF.iN hr;have np:∀{i:Nat},bN ⟨H,[],Ox⟩ i:=mB;refine⟨_,(ah (aX (i:=3) nd rfl (.inr rfl) (qau (bH (θ (uV (θ (bS (θ (bH (aa 0) (θ (GJ (θ ag) (θ ag))))) (θ ag))) (θ ag))) (θ ag))) np)
  (ah (aX (i:=4) nd rfl (.inl rfl) (qau (aI (aa 1) (θ (bH (θ (cW (aa 3) (θ ag))) (θ (bq bh bj (by rfl) M.len pA (aJ (aa 1) aW))))))) np)
  (ah (aX (i:=5) nd rfl (.inl rfl) (qau (aM iB hr (ae (ψ (cW (aa 3) (θ ag))) (ae (ai 1) ar)))) np)
  (ah (aX (i:=6) nd rfl (.inl rfl) (qau (aI (aa 1) (θ (bH (θ (cW (aa 3) (θ ag))) (θ (bq bh bj (by rfl) M.len pA (aJ (aa 1) aW))))))) np)
  (ah (bJ (VW.vc (uT (xK (θ (bH (aa 3) (θ ag))) (θ ag)) (oW (xJ hu (aa 2) (θ (fZ ar))))))
   (ah (Rl (ψ (aI (aa 2) (θ (bH (θ (cW (aa 3) (θ ag))) (θ (bq bh bj (by rfl) M.len pA (aJ (aa 2) aW))))))) (mV (n:=2) rfl (cY (bt (i:=7) nd rfl (.inl rfl) np) (cY (bt (i:=8) nd rfl (.inl rfl) np) jS))))
   (ax (aT (qau (bA (ae (ψ a9) (ae (ai 4) (ae (ai 7) (ae (ψ (eh dG fm (by rfl) M.tuple eG (aJ (θ (dU (ts:=qaQ) rfl (by rfl) (fR (by rfl) M.range (aa 8)) (λ_ _ _ _ _ _=>(bt (i:=9) Fb rfl (.inl rfl) np)) (λ_ _ _ _ _ _=>dg) (λ_ _ _ _ _ _=>(ψ (aM iB hr (ae (ψ (cW (aa 3) (θ (bS (θ ag) (θ (uV (θ ag) (aa 9))))))) (ae (ai 1) ar))))))) aW))) ar)))))))))
   aZ)
  (ah (bJ (xK (θ (bH (aa 3) (θ ag))) (θ ag))
   (ax (aT (qau (bA (ae (ψ a9) (ae (ai 4) (ae (ai 5) ar)))))))
   aZ)
  (ah (bJ (de hu (θ (bH (aa 3) (θ ag))) (θ ag))
   (ax (aT (qau (bA (ae (ψ a9) (ae (ai 4) ar))))))
   aZ)
  (ah (bJ (de hu (θ (bH (aa 3) (θ ag))) (θ ag))
   (ax (aT (qau (bA (ae (ψ a9) (ae (ai 4) (ae (ai 6) (ae (ψ (bS (θ a9) (θ (aI (aa 1) (θ ag))))) ar))))))))
   aZ)
  (ah (bJ (de hu (θ (bH (aa 3) (θ ag))) (θ ag))
   (ax (aT (qau (bA (ae (ψ a9) (ae (ai 6) (ae (ψ (bS (θ a9) (θ (aI (aa 1) (θ ag))))) (ae (ai 5) ar))))))))
   aZ)
  (ax (aT (qau (bA (ae (ψ a9) (ae (ai 4) (ae (ai 5) (ae (ψ a9) (ae (ψ (aM iB hr (ae (ψ (cW (aa 3) (θ ag))) (ae (ai 1) ar)))) ar)))))))))))))))))),λ_=>?_⟩
 obtain⟨c,ys,t,x0,rfl,N,ht,h0,hq⟩:=hG;have Y:=N.Y;refine⟨⟨by decide,by decide,by decide⟩,by decide +kernel,.inr ⟨by decide,by decide⟩,by decide,?_⟩;generalize hn:(c % (10:Int) ^ (9:Int).toNat+3) * 48271 % 2147483647=n;have R:S8 n:=⟨by rw[<- hn];exact zK _ (by decide),by rw[<- hn];have:=zI ((c % (10:Int) ^ (9:Int).toNat+3) * 48271) (show (0:Int)<2147483647 by decide);omega⟩;obtain⟨x,hx,ex⟩:=Y.at (n / 8);obtain⟨y,hy,ey⟩:=Y.at (n / 280);have PL:x0∈ys:=eS h0;have e0:km (ys.map T.str) 0=some (T.str x0):=ak (j:=0) (by rw[hU,h0];rfl);have l0:((".":String):Str).length+x0.length<=sizeLine:=by rw[adx,μ];have:=Y.sm x0 PL;omega
 have k0:Pj (.fld x0):=N.nm x0 PL;refine⟨⟨by decide,by decide⟩,Y.pos,_,ex,⟨by decide,by decide⟩,rfl,_,ys,rfl,R.div (by decide),Y,λo ho=>?_⟩;have oo:=N.Yn ho;refine⟨⟨by decide,by decide⟩,Y.pos,_,ey,?_⟩;refine⟨by decide,jn (λh3=>?_) (λ_=>m8 rfl ?tl)⟩;refine⟨mE _,E9 t,rfl,NV t,?_⟩;cases t with
 |nil=>refine m8 rfl ⟨by decide,jn (λ_=>?_) (λz=>absurd h3 (by omega))⟩;exact⟨Gen.cR rfl,hq (.put x o) trivial oo⟩
 |cons p0 t0=>
  refine LV rfl ?_;have eL:((Dq (p0::t0)).length:Int)=((p0::t0).length:Int):=by unfold Dq;rw[cJ]
  have ad8:0<(p0::t0).length:=by simp
  generalize p0::t0=t' at *;have h0:0<=n / 8 % ((Dq t').length:Int):=zK _ (by omega);have h1:n / 8 % ((Dq t').length:Int)<t'.length:=by rw[eL];exact zI _ (by omega)
  obtain⟨j,hj⟩:=Ug h0;have OT:j<t'.length:=by omega
  obtain⟨p,hp⟩:∃p:Str×Nat,p=t'[j]:=⟨_,rfl⟩;obtain⟨fn,ml⟩:=p;have Ir:(fn,ml)∈t':=by rw[hp];exact P_ OT
  have Xl:ml<=4:=ht _ Ir;refine⟨⟨by decide,by decide⟩,by show (0:Int)<((Dq t').length:Int);omega,.tup [.str fn,.int (ml:Int)],?_,rfl,?_⟩;show km _ (n / 8 % ((Dq t').length:Int))=_;rw[hj];refine ak ?_;unfold Dq;rw[hU,mz OT,<- hp];rfl;refine⟨rfl,rfl,by show -(2 ^ 62:Int)<=(ml:Int);omega,by show (ml:Int)<2 ^ 62;omega,by rw[d9];exact c5.xg (by show (ml:Int).toNat<=1000;omega),?_⟩;refine qv (Pd:=λt=>∃a,t=gf a/\yk ys a) (λt ht r hr=>?_) λus hl xy=>?_;obtain⟨i,hi⟩:=UR.mp ht;obtain⟨h9,rfl⟩:=qh hi;have hi4:i<(ml:Int).toNat:=h9;refine⟨.inl ⟨by decide,by decide⟩,⟨by show (0:Int)<40+9 * (0+(i:Int));omega,by show 40+9 * (0+(i:Int))<1073741824;omega⟩,rfl,_,ys,rfl,R.div (by omega),Y,λo ho=>hr _ ⟨o,rfl,ho⟩⟩;obtain⟨as,rfl,ha⟩:=Dr us xy;rw[d9] at hl;have uz:as.length=ml:=by rw[cJ] at hl;have:as.length=(ml:Int).toNat:=hl;omega
  refine⟨Gen.cR rfl,hq (.call x fn as) (by show (fn,as.length)∈t';rw[uz];exact Ir) ⟨by omega,λo ho=>N.Yn (ha o ho)⟩⟩
 case tl=>
 refine⟨by decide,jn (λ_=>⟨Gen.cR rfl,hq (.put x o) trivial oo⟩) (λ_=>?_)⟩;refine⟨by decide,jn (λ_=>⟨Gen.cR rfl,hq (.new x) trivial trivial⟩) (λ_=>?_)⟩;refine⟨by decide,jn (λ_=>⟨_,e0,l0,Gen.cR rfl,hq (.get x y (.fld x0)) rfl ⟨N.pd hy,k0⟩⟩) (λ_=>?_)⟩;refine⟨by decide,jn (λ_=>⟨_,e0,l0,Gen.cR rfl,hq (.set y (.fld x0) o) rfl ⟨N.pd hy,k0,oo⟩⟩) (λ_=>?_)⟩;exact⟨⟨by decide,by decide⟩,rfl,_,ys,rfl,R.div (by decide),Y,λo2 Fx=>⟨Gen.cR rfl,hq (.kJ x o "plus" o2) rfl ⟨oo,rfl,N.Yn Fx⟩⟩⟩
noncomputable abbrev wR:π:=["_law_script","_law_names_here","_law_head","_law_sizes","_law_rows_here","_law_k","_law_there"]
def Ds:aE wR qaZ (aj Be):=L2.g9
def Bn:(wR++(["_law_size"]:π)).Nodup:=by decide +kernel
def Bo:(wR++(["_law_j"]:π)).Nodup:=by decide +kernel
def Bp:(wR++(["_law_cell"]:π)).Nodup:=by decide +kernel
def NW(D:Df K mg "_law_rows" Be qaZ f fd)(M:KP mg)(iB:bW P w K mg base "_law_operand" qaX 1 (di K 2 c5.Jr))(Yt:bW P w K mg base "_law_row" qaY 2 (di K 3 PF)):bW P w K mg base "_law_rows" qaZ 3 (di K 3 JS):=by
 refine D.hJ (oH D.F Ds rfl λbB A outer s H E Ox hr ts q hG=>?_);have nd:=Ds.nd;have np:∀{i:Nat},bN ⟨H,[],Ox⟩ i:=mB;refine⟨_,(ah (aX (i:=3) nd rfl (.inr rfl) (qau (fZ (ae (ψ (bH (aa 2) (θ ag))) (ae (ψ (bH (θ (cW (aa 2) (θ ag))) (θ ag))) (ae (ψ (bH (θ (cW (aa 2) (θ ag))) (θ ag))) ar))))) np)
  (ah (aX (i:=3) nd rfl (.inr rfl) (qau (dU (ts:=["_law_size"]) rfl (by rfl) (gb (ai 3)) (λ_ _ _ _ _ _=>(bt (i:=7) Bn rfl (.inl rfl) np)) (λ_ _ _ _ _ _=>dg) (λ_ _ _ _ _ _=>(ψ (bq (DN rfl) An (by rfl) M.min OD (aJ (aa 7) (aJ (θ (bq bh bj (by rfl) M.len pA (aJ (aa 1) aW))) aW))))))) np)
  (ah (eX (i:=4) nd rfl (.inl rfl) (qau (fZ ar)) np)
  (ah (ku KS rfl (fR (by rfl) M.range (θ ag)) (bt (i:=5) nd rfl (.inl rfl) np)
   (ah (aX (i:=6) nd rfl (.inr rfl) (qau (dU (ts:=["_law_j"]) rfl (by rfl) (D3 (by rfl) M.range (θ (bS (aa 5) (θ ag))) (θ ag)) (λ_ _ _ _ _ _=>(bt (i:=7) Bo rfl (.inl rfl) np)) (λ_ _ _ _ _ _=>dg) (λ_ _ _ _ _ _=>(ψ (bA (ae (ψ (aI (aa 1) (aa 7))) (ae (ψ (aI (aa 3) (aa 7))) ar))))))) np)
   (ah (cX (i_ 4 BC BD bR bY (ae (ψ (bA (ae (ψ a9) (ae (ψ (aI (aa 1) (aa 5))) (ae (ψ (eh dG fm (by rfl) M.tuple eG (aJ (θ (ic (aa 1) (fg (θ (mT (θ (bq bh bj (by rfl) M.len pA (aJ (aa 1) aW))) (θ (aI (aa 3) (aa 5)))))) iL)) aW))) ar))))) ar)))
   (ah (eX (i:=4) nd rfl (.inl rfl) (qau (bS (aa 4) (θ (dU (ts:=["_law_cell"]) rfl (by rfl) (gb (ψ (E2 (aa 0) (fg (θ (bS (θ ag) (aa 5)))) (fg (θ ag)) (fg (θ ag))))) (λ_ _ _ _ _ _=>(bt (i:=7) Bp rfl (.inl rfl) np)) (λ_ _ _ _ _ _=>dg) (λ_ _ _ _ _ _=>(ψ (aM Yt hr (ae (ai 7) (ae (ai 1) (ae (ai 6) ar)))))))))) np)
   (ax (cX (i_ 4 BC BD bR bY (ae (ψ (bA (ae (ψ a9) (ae (ψ (aM iB hr (ae (ψ (cW (aa 2) (θ (bS (θ ag) (aa 5))))) (ae (ai 1) ar)))) ar)))) ar))))))))
  (ax (aT (uW 4 np))))))),λ_=>?_⟩
 obtain⟨ns,ys,h,x0,rfl,R,N,PL,hq⟩:=hG;have Y:=N.Y;have l3:=Y.l3;have l8:=Y.l8;refine⟨by decide,⟨by decide,by decide⟩,by decide,⟨by decide,by decide⟩,by decide,c5.xg (by simp),?_⟩;obtain⟨z0,y0,u0⟩:=TB R.1;obtain⟨z1,y1,u1⟩:=TB (R.div (e:=5) (by decide)).1;obtain⟨z2,y2,u2⟩:=TB (R.div (e:=25) (by decide)).1;rw[y0,y1,y2];clear y0 y1 y2;refine⟨rfl,c5.xg (by show 3<=1000;decide),?_⟩;refine dw (xs:=[z0,z1,z2]) (f:=λz:Nat=>.int (z:Int)) (u:=λz:Nat=>.int ((min z ys.length:Nat):Int)) (λz _ r hr=>?_) ?_;have e:(if ((ys.map T.str).length:Int)<(z:Int) then ((ys.map T.str).length:Int) else (z:Int))=((min z ys.length:Nat):Int):=by rw[cJ];split<;>omega
 show r (.int (if ((ys.map T.str).length:Int)<(z:Int) then ((ys.map T.str).length:Int) else (z:Int)));rw[e];exact hr;obtain⟨w0,ew0⟩:∃w0,w0=min z0 ys.length:=⟨_,rfl⟩;obtain⟨w1,ew1⟩:∃w1,w1=min z1 ys.length:=⟨_,rfl⟩;obtain⟨w2,ew2⟩:∃w2,w2=min z2 ys.length:=⟨_,rfl⟩;obtain⟨a,b,c,rest,ey⟩:∃a b c rest,ys=a::b::c::rest:=by
  match ys,l3 with
  |a::b::c::rest,_=>exact⟨a,b,c,rest,rfl⟩
 obtain rfl:a=x0:=by rw[ey] at PL;exact Option.some.inj PL
 have PM:=wk4 (Tz (L:=ys.length) u0) (Tz (L:=ys.length) u1) (Tz (L:=ys.length) u2);rw[<- ew0,<- ew1,<- ew2] at PM;clear u0 u1 u2;refine⟨Gen.cR rfl,by decide,by decide,?_⟩;have nmI:∀j:Nat,j<3->km (ys.map T.str) (j:Int)=some (T.str (PH a b c j)):=λj hj=>ak (by rw[hU,ey,Yq hj];rfl);refine qi (n:=3) (λk ρ=>∃(Fs:List F5)(b5 b6:Option (T×Bool)),Fs.length=k/\(∀j F,Fs[j]?=some F->FOk a b c ys w0 w1 w2 j F)/\(Fs.flatMap ja).length<=8 * k/\ρ=[some (.lst (ns.map T.int),false),some (iW ys,false),some (.int h,false),some (.lst [.int (w0:Int),.int (w1:Int),.int (w2:Int)],false),some (.lst ((Fs.flatMap ja).map bu),true),b5,b6]) ⟨[],none,none,rfl,λj F e=>(nomatch e),mE _,by rw[ew0,ew1,ew2];rfl⟩ ?_ ?_
 . rintro k ρ hk ⟨Fs,b5,b6,hl,hF,hrl,rfl⟩;rw[Int.zero_add];refine⟨rfl,⟨by show -(2 ^ 62:Int)<=(k:Int)+1;omega,by show (k:Int)+1<(2 ^ 62:Int);omega,by decide,by decide⟩,by rw[d9];exact c5.xg (by omega),?_⟩;refine gH (u:=λi=>.tup [.str (PH a b c (k+1+i)),.int (wF w0 w1 w2 (k+1+i):Nat)]) (λi hi r hr=>?_) ?_;have e:(k:Int)+1+(i:Int)=((k+1+i:Nat):Int):=by push_cast;rfl
   rw[e];exact⟨_,nmI _ (by omega),_,Yr (by omega),Gen.cR rfl,hr⟩;rw[Yo hk];have hw:=PM k;have TF:f_ (ys.map T.str) (some (((ys.map T.str).length:Int)-((wF w0 w1 w2 k:Nat):Int))) none=(ys.drop (ys.length-wF w0 w1 w2 k)).map T.str:=by
    have e:((ys.map T.str).length:Int)-((wF w0 w1 w2 k:Nat):Int)=((ys.length-wF w0 w1 w2 k:Nat):Int):=by rw[cJ];omega
    rw[e];exact JT T.str ys _ (by omega)
   refine⟨_,nmI k hk,_,Yr hk,Gen.cR rfl,by rw[cJ];exact c5.xg (rl8 (A:=0) (C:=0) hrl hk (mE _)).1,?_⟩;have fO:(gP (ns.map T.int) (wI (some (4+(k:Int))) (some 22) (some 3) (ns.map T.int).length)).length<=6:=fM (JD _ _) (adW k _ hk);refine⟨rfl,by decide,c5.xg (fM fO (by decide)),?_⟩;refine qv (Pd:=λt=>∃r,t=bu r/\BR a (PJ b c w1 w2 k) r/\v5 r) (λt ht r hr=>?_) λus hul xy=>?_;obtain⟨c',_,rfl⟩:=rS.mp (JE ht);exact⟨rfl,c',ys,PJ b c w1 w2 k,a,rfl,N,Yp (PM 1).1 (PM 2).1 hk,PL,λr' h1 h2=>hr _ ⟨r',rfl,h1,h2⟩⟩;obtain⟨bs,rfl,hbs⟩:=zv us xy;have GB:bs.length<=6:=by rw[cJ] at hul;omega
   have h8:=rl8 (A:=0) (C:=0) hrl hk GB;refine⟨by simp only[jf,cJ,μ];exact h8.2.1,?_⟩;refine⟨⟨by show (0:Int)<64+(k:Int);omega,by show 64+(k:Int)<1073741824;omega⟩,rfl,_,ys,rfl,R.div (by omega),Y,λo ho=>⟨Gen.cR rfl,?q3,?_⟩⟩
   case q3=>simp only[jf,cJ];exact c5.xg h8.2.2.1
   refine⟨Fs++[⟨PH a b c k,ys.drop (ys.length-wF w0 w1 w2 k),bs,o⟩],some (.int (k:Int),false),some (.lst (Dq (PJ b c w1 w2 k)),false),by rw[jf,hl];rfl,λj F e=>?_,?_,?_⟩;by_cases hj:j<Fs.length;rw[rR hj] at e;exact hF j F e;rw[rY (by omega)] at e;have ZD:j=k:=by have:=(fQ.mp e).1;simp at this;omega
   subst ZD;rw[hl,Nat.sub_self] at e;obtain rfl:=Option.some.inj e;exact⟨rfl,by show (ys.drop _).length=_;rw[List.length_drop];omega,N.nd.sublist (List.drop_sublist _ _),λx hx=>List.mem_of_mem_drop hx,hbs,GB,N.Yn ho⟩;rw[List.flatMap_append,jf];simp only[List.flatMap_cons,List.flatMap_nil,xc,iX];exact h8.2.2.2;have e9:((Fs++[(⟨PH a b c k,ys.drop (ys.length-wF w0 w1 w2 k),bs,o⟩:F5)]).flatMap ja).map bu=((Fs.flatMap ja).map bu++[T.tup [.str "def",.str (PH a b c k),.tup (f_ (ys.map T.str) (some (((ys.map T.str).length:Int)-((wF w0 w1 w2 k:Nat):Int))) none)]]++bs.map bu)++[T.tup [.str "give",gf o]]:=by rw[TF,List.flatMap_append,oS];simp only[List.flatMap_cons,List.flatMap_nil,xc,ja,fU,oS,Km,bu,P7,FZ,U1]
   rw[e9];rfl
 rintro ρ ⟨Fs,b5,b6,hl,hF,hrl,rfl⟩
 match Fs,hl with
 |[A,B,C],_=>
  have fA:=hF 0 A rfl;have fB:=hF 1 B rfl;have fC:=hF 2 C rfl;have nd:=N.nd;rw[ey] at nd;simp only[jg,cU,not_or] at nd;have gQ:=hq A B C ⟨?_,?_,?_,fA.nd,fB.nd,fC.nd,?_,?_,?_⟩ ⟨fA.rows N (PM 0).1,fB.rows N (PM 1).1,fC.rows N (PM 2).1,fA.n,fB.n,fC.n⟩ (by rw[fA.l];exact (PM 0).1);have e:[A,B,C].flatMap ja=jM A B C:=by simp[jM]
  rw[e];exact gQ;rw[fA.f,fB.f];exact nd.1.1;rw[fA.f,fC.f];exact nd.1.2.1;rw[fB.f,fC.f];exact nd.2.1.1;intro r hr;rw[fB.f,fC.f,fB.l,fC.l];exact (fA.r r hr).1;intro r hr;rw[fC.f,fC.l];exact (fB.r r hr).1;intro r hr;exact (fC.r r hr).1
end
end cQ
namespace cQ
open PySem L2 VT Gen Rg Lay K5
open kR (Vl vT nm dQ RI)
def sX(d:List Dg):Prop:=∀x∈d,x.us.length<=100
def sX.add{d:List Dg}(h:sX d){x:Dg}(hx:x.us.length<=100):sX (d++[x]):=λy hy=>(cK.mp hy).elim (h y) λz=>by rw[iD.mp z];exact hx
theorem Dt{call:Str->List Vl->G->Vl×G}(hb:∀h vs g,vs.length<=100->sX g.d->sX (call h vs g).2.d):∀(l:qal)(p:Nat)(φ:Fn)(g:G),(∀r∈l,v5 r)->sX g.d->sX (eQ call l p φ g).2.d
 |[],p,φ,g,_,h=>h
 |r::l,p,φ,g,ok,h=>by
  have ih:=λφ' g'=>Dt hb l (p+1) φ' g' λr hr=>ok r (fJ _ hr);have h0:=ok r c6;cases r with
  |give a=>exact h.add (by simp)
  |call x f as=>
   have hl:(as.map (val φ)).length<=100:=by rw[cJ];have:=h0.1;omega
   exact ih _ _ (hb _ _ _ hl (h.add hl))
  |set y k a=>exact ih _ _ (h.add (by simp))
  |put x a=>exact ih _ _ (h.add (by simp[NH]))
  |new x=>exact ih _ _ (h.add (by simp[NH]))
  |get x y k=>exact ih _ _ (h.add (by simp[NH]))
  |kJ x a op b=>exact ih _ _ (h.add (by simp[NH]))
  |df f ps=>exact ih _ _ (h.add (by simp[NH]))
  |_=>exact h0.elim
theorem Du{rs:qal}(ok:∀r∈rs,v5 r):∀(n:Nat)(h:Str)(vs:List Vl)(g:G),vs.length<=100->sX g.d->sX (dh rs n h vs g).2.d
 |0,h,vs,g,_,k=>k
 |n+1,h,vs,g,hv,k=>by
  unfold dh;split
  rename_i p _
  split
  rename_i f ps e
  exact Dt (Du ok n) _ _ _ _ (λr hr=>ok r (List.mem_of_mem_drop hr)) (k.add hv);exact k;exact k
end cQ
namespace VT
open PySem PySem.Spec PyProof.Rows L2
end VT
set_option exponentiation.threshold 4000
namespace cQ
open PySem L2 VT Gen EW Rg Lay K5
open c5 (iW)
open nP (c_)
open kR (Vl vT nm dQ RI bg MZ pw UG)
def LA(l:ξ):Prop:=∀t∈l,Sm.Lv 4 t
def TH(v:Vl):Sm.Lv (n+2) (vT v):=by
 cases v with
 |num i=>exact .inl ⟨i,rfl⟩
 |mC p r=>refine .inr (.inr (.inr (.inl ⟨_,rfl,by simp,λu hu=>?_⟩)));simp only[cU,fK,ς] at hu;obtain rfl|rfl:=hu<;>exact .inl ⟨_,rfl⟩
def adX{d:Dg}(h:d.us.length<=100):Sm.Lv 4 (dT d):=by
 refine .inr (.inr (.inr (.inl ⟨_,rfl,by simp,λu hu=>?_⟩)));simp only[cU,fK,ς] at hu;obtain rfl|rfl|rfl:=hu
 exact .inl ⟨_,rfl⟩;refine .inr (.inr (.inr (.inl ⟨_,rfl,by rw[cJ];omega,λu h=>?_⟩)));obtain⟨v,_,rfl⟩:=rS.mp h;exact TH v;cases d.m with
 |none=>exact .inr (.inr (.inl rfl))
 |some v=>exact TH v
def JV{t:T}(ht:Sm.Lv 4 t):Sm.Lv 5 (.tup [.str x,t]):=by
 refine .inr (.inr (.inr (.inl ⟨_,rfl,by simp,λu hu=>?_⟩)));simp only[cU,fK,ς] at hu;obtain rfl|rfl:=hu
 exact .inr (.inl ⟨_,rfl⟩);exact ht
def JW{R:Res}(h:LA R.1/\Sm.Lv 5 R.2)(hm:m<=400):Sm.Lv 6 (.tup [.lst (rn m R).1,(rn m R).2]):=by
 refine .inr (.inr (.inr (.inl ⟨_,rfl,by simp,λu hu=>?_⟩)));simp only[cU,fK,ς] at hu;unfold rn at hu;split at hu;obtain rfl|rfl:=hu
 refine .inr (.inr (.inr (.inr ⟨_,rfl,by rw[P8];omega,λt ht=>h.1 t (List.mem_of_mem_take ht)⟩)));exact JV (.inl ⟨_,rfl⟩);obtain rfl|rfl:=hu
 exact .inr (.inr (.inr (.inr ⟨_,rfl,by omega,h.1⟩)));exact h.2
def TJ(v:Vl):Jz (vK v)=vT v:=by cases v<;>rfl
def adY(d:Dg):Jz (dK d)=dT d:=by
 obtain⟨p,us,m⟩:=d;have e:KO (us.map vK)=us.map vT:=by rw[wH,tu];exact N6 λv _=>TJ v
 have e2:Jz (oK m)=oV m:=by
  cases m with
  |none=>rfl
  |some v=>exact TJ v
 show T.tup [.int p,.tup (KO (us.map vK)),Jz (oK m)]=T.tup [.int p,.tup (us.map vT),oV m];rw[e,e2]
def TK(l:List Dg):Sub (.lst (l.map dK)) (.lst (l.map dT)):=by
 have:=JB (.lst (l.map dK));have e:Jz (.lst (l.map dK))=.lst (l.map dT):=by
  show T.lst (KO (l.map dK))=_;rw[wH,tu]
  congr 1
  exact N6 λd _=>adY d
 rwa [e] at this
def Yu(v:Vl):Sub (vK v) (vT v):=by
 have:=JB (vK v)
 rwa [TJ] at this
def TL{ys:π}(h3:3<=m)(h8:m<=8)(h:pe m ys):NU ys:=by
 have hl:∀y∈ys,y.length<=50:=λy hy=>by have:=h.nm y hy;unfold c_ at this;simp only[oR,aaj] at this;omega
 exact⟨⟨by rw[h.l];exact h3,by rw[h.l];exact h8,λy hy=>fM (hl y hy) (by decide)⟩,λy hy=>⟨h.nm y hy,hl y hy⟩,h.nd⟩
noncomputable def inF(ns:qan)(k:Nat):Int:=ns.getD (2+k % 2) 0 / (3 * (k:Int)+1) % (10:Int) ^ (33:Int).toNat-2
noncomputable def PN(ins:qan)(k:Nat):qan:=(ins++List.replicate k 0).take k
def NX(ts:ξ)(q:qam):Prop:=∃ns:qan,ts=[.lst (ns.map .int)]/\ns.length<=63/\q (.vw (.bl true))
inductive adZ(ns:qan)(d:FD)(ρ:En):Prop
 |mk (ys:π) (x0:Str) (A B C:F5) (hd:Int) (ti:ξ) (ins:qan) (P5:Pg x0 A B C) (O:UN A B C) (h4:A.ps.length<=4) (h5:ins.length<=5) (hi:ti=ins.map .int) (hρ:ρ=[some (.lst (ns.map .int),false),some (.int hd,false),some (iW ys,false),some (.lst ((jM A B C).map bu),false),some (.lst ti,false),none,none,none,none,none,none]) (fin:∀ρ',d.rt ρ' (.vw (.bl true)))
def ad0(ns:qan):FS:=adZ ns
def TM{ins:qan}{k:Nat}:f_ (ins.map T.int++(List.replicate (k:Int).toNat [T.int 0]).flatten) none (some (k:Int))=(PN ins k).map T.int/\(ins.map T.int).length+((List.replicate (k:Int).toNat [T.int 0]).flatten).length=ins.length+k:=by
 have e1:(List.replicate (k:Int).toNat [T.int 0]).flatten=(List.replicate k (0:Int)).map T.int:=by rw[Dz,List.flatten_replicate_singleton,List.map_replicate]
 rw[e1];refine⟨?_,by simp⟩;rw[<- oS];exact c5.wC T.int _ k (by simp)
def TN{ins:qan}{k:Nat}:(PN ins k).length=k:=by rw[PN,P8,jf,P0];omega
def Yv{ins:qan}{k:Nat}(hk:j<k):((PN ins k).map λi=>Vl.num (dQ i)).getD j (.num 0)=(A8 ins).getD j (.num 0):=by unfold PN A8;rw[List.getD,List.getD,hU,hU,ZJ hk];by_cases ZD:j<ins.length;rw[rR ZD];rw[rY (by omega),Dy (Nat.le_of_not_lt ZD),BE,ε (by omega)];rfl
def NY(n:Int)(L:Nat):∃m:Nat,n % ((L:Int)+1)=(m:Int)/\m<=L:=by have q1:=zK n (show (L:Int)+1≠0 by omega);have q2:=zI n (show (0:Int)<(L:Int)+1 by omega);exact⟨(n % ((L:Int)+1)).toNat,by omega,by omega⟩
def b63{k:Nat}(h:k<=4) : -(2 ^ 63:Int)<=(k:Int)/\(k:Int)<(2 ^ 63:Int)/\1 * (k:Int).toNat<=sizeLine:=⟨by omega,by omega,by rw[μ];omega⟩
def b62{n:Int} : -(2 ^ 62:Int)<=n % 5/\n % 5<(2 ^ 62:Int)/\(n % 5).toNat<=5:=⟨by omega,by omega,by omega⟩
def TQ{R:Res}(h:m<R.1.length):rn m R=(R.1.take m,l_):=by unfold rn;rw[ε h]
def Dv{R:Res}(h:¬ m<R.1.length):rn m R=R:=by unfold rn;rw[η h]
section
noncomputable abbrev JX:π:=["_law_script","_law_head","_law_names_here","_law_rows_here","_law_inputs","_law_many","_law_doings","_law_given","_law_value","_law_due","_law_most"]
def JY:aE JX qba (aj mw):=L2.g9
def Fc:(JX++(["_law_k"]:π)).Nodup:=by decide +kernel
def Fd:(JX++(["_law_number"]:π)).Nodup:=by decide +kernel
def TR(D:Df K mg "law" mw qba f fd)(M:KP mg)(jZ:bW P w K mg base "_law_cell_at" qaO 1 (di K 2 c5.Jq))(NZ:bW P w K mg base "_law_names" qaP 1 (di K 2 c5.Ba))(TU:bW P w K mg base "_law_rows" qaZ 3 (di K 3 JS))(qM:bW P w K mg base "_law_fit" qaS 1 (di K 1 JL))(rD:bW P w K mg base "_law_called" qaW 6 (kx K [false,false,false,true,true] (mx 3)))(Yw:X9 P w K mg base)(JZ:bW P w K mg base "_law_same" qaR 7 (di K 2 (Sm.zg 6))):cq P w K mg base eD 10 f fd qba (di K 1 NX):=by
 obtain⟨JQ,E5,rE,rF,rG,rH⟩:=rD;obtain⟨ad5,ad1,ad2,PQ,PR,PU,ad6,PV⟩:=Yw;refine oH D.F JY rfl λbB A outer s H E Ox hr ts q hG=>?_;obtain⟨ns,rfl,h63,hq⟩:=hG;have nd:=JY.nd;have np:∀{i:Nat},bN ⟨H,[],Ox⟩ i:=mB;have npf:∀{is:qao},∀i∈is,bN ⟨H,[],Ox⟩ i:=λi _=>mB;refine⟨_,(ah (aX (i:=1) nd rfl (.inl rfl) (qau (bH (θ (aM jZ hr (ae (ai 0) (ae (ψ ag) ar)))) (θ (lz (θ ag) (θ ag))))) np)
  (ah (aX (i:=2) nd rfl (.inl rfl) (qau (aM NZ hr (ae (ψ (aM jZ hr (ae (ai 0) (ae (ψ ag) ar)))) (ae (ψ (bS (θ ag) (θ (bH (θ (ql (aa 1) (θ ag))) (θ ag))))) ar)))) np)
  (ah (aX (i:=3) nd rfl (.inl rfl) (qau (aM TU hr (ae (ai 0) (ae (ai 2) (ae (ai 1) ar))))) np)
  (ah (oX (i:=4) (ts:=qaQ) nd rfl (.inl rfl) rfl (by rfl) (fR (by rfl) M.range (θ (bH (θ (ql (aa 1) (θ ag))) (θ ag)))) (λ_ _ _ _ _ _=>(bt (i:=11) Fc rfl (.inl rfl) np)) (λ_ _ _ _ _ _=>dg) (λ_ _ _ _ _ _=>(ψ (mT (θ (bH (θ (ql (θ (aM jZ hr (ae (ai 0) (ae (ψ (bS (θ ag) (θ (bH (aa 11) (θ ag))))) ar)))) (θ (bS (θ (vn (θ ag) (aa 11))) (θ ag))))) (θ (lz (θ ag) (θ ag))))) (θ ag)))) np)
  (oF.weak (u:=(ad0 ns)) (ah (aX (i:=5) nd rfl (.inl rfl) (qau (bq bh bj (by rfl) M.len pA (aJ (θ (aI (θ (aI (aa 3) (θ ag))) (θ ag))) aW))) np)
  (ah (eX (i:=6) nd rfl (.inl rfl) (qau (fZ ar)) np)
  (ah (oX (i:=7) (ts:=qaS) nd rfl (.inl rfl) rfl (by rfl) (gb (ψ (ic (θ (bS (aa 4) (θ (qg (fZ (ae (ψ ag) ar)) (aa 5))))) iL (fg (aa 5))))) (λ_ _ _ _ _ _=>(bt (i:=11) Fd rfl (.inl rfl) np)) (λ_ _ _ _ _ _=>dg) (λ_ _ _ _ _ _=>(ψ (aM qM hr (ae (ai 11) ar)))) np)
  (ah (aX (i:=8) nd rfl (.inl rfl) (E8 rH (hr.mono (by decide)) (by rfl) rE rF rG (nK (ai 3) (nK (ψ ag) (nK (ai 7) (JR 6 E7))))) np)
  (B5 [6] (C3 6 (C3 8 (ah (aX (i:=9) nd rfl (.inl rfl) (qau (bA (ae (ai 6) (ae (ψ (bA (ae (ψ a9) (ae (ai 8) ar)))) ar)))) np)
  (ah (bJ (mR (eF (aM JZ hr (ae (ψ (Pf.vp (qQ PV (hr.mono (by decide)) (by rfl) PQ PR PU .nil (dts:=[]) (λ_ _=>az.nil) (ae (ψ (eh iG kr (by rfl) M.list m7 (aJ (aa 3) aW))) (ae (ψ (eh iG kr (by rfl) M.list m7 (aJ (aa 4) aW))) (ae (ψ ag) ar)))))) (ae (ai 9) ar)))))
   (ax (aT (qau tS)))
   aZ)
  (ah (aX (i:=10) nd rfl (.inl rfl) (qau (bH (θ (aM jZ hr (ae (ai 0) (ae (ψ ag) ar)))) (θ (bS (θ (bq bh bj (by rfl) M.len pA (aJ (aa 6) aW))) (θ ag))))) np)
  (ah (bJ (xK (aa 10) (θ (bq bh bj (by rfl) M.len pA (aJ (aa 6) aW))))
   (ax (aX (i:=9) nd rfl (.inl rfl) (qau (bA (ae (ψ (ic (aa 6) iL (fg (aa 10)))) (ae (ψ (bA (ae (ψ a9) (ae (ψ ag) ar)))) ar)))) np))
   aZ)
  (ax (aT (qau (aM JZ hr (ae (ψ (Pf.vp (qQ PV (hr.mono (by decide)) (by rfl) PQ PR PU .nil (dts:=[]) (λ_ _=>az.nil) (ae (ai 3) (ae (ai 4) (ae (ai 10) ar)))))) (ae (ai 9) ar)))))))))))) npf))))) ?w7))))),λ_=>?main⟩
 case main=>
  refine⟨rfl,ns,1,rfl,pw 9,by decide +kernel,?_⟩;generalize hh:ns.getD 1 0 % (10:Int) ^ (9:Int).toNat=hd;have h0:0<=hd:=by rw[<- hh];exact zK _ (by decide)
  have h1:hd<1000000000:=by rw[<- hh];exact zI _ (by decide)
  obtain⟨m0,em0⟩:=Ug (zK (hd / 7) (show (3:Int)≠0 by decide));have hm0:m0<3:=by have:=zI (hd / 7) (show (0:Int)<3 by decide);omega
  refine⟨rfl,ns,0,rfl,⟨by decide,bg 7⟩,by decide,rfl,ns.getD 0 0,3+m0,?_,by omega,λys hN=>?_⟩;rw[em0];push_cast;rfl;have N:NU ys:=TL (by omega) (by omega) hN;obtain⟨x0,PL⟩:∃x0,ys[0]?=some x0:=⟨_,mz (by have:=N.Y.l3;omega)⟩;refine⟨rfl,ns,ys,hd,x0,rfl,⟨h0,by omega⟩,N,PL,λA B C P5 O h4=>?_⟩;have b5:=b62 (n:=hd / 128);refine⟨rfl,⟨by decide,bg 128⟩,by decide,b5.1,b5.2.1,by rw[d9];exact c5.xg (fM b5.2.2 (by decide)),?_⟩;refine gH (u:=λk=>.int (inF ns k)) (λk hk r hr=>?_) ?_;rw[Int.zero_add];have ZE:k<5:=rZ hk b5.2.2;clear hk b5;have ek:2+(k:Int) % 2=((2+k % 2:Nat):Int):=by omega
  refine⟨by decide,rfl,ns,2+k % 2,?_,⟨bg 3,?_⟩,⟨by show (0:Int)<3 * (k:Int)+1;omega,?_⟩,pw 33,by decide +kernel,hr⟩;show [T.lst (ns.map T.int),T.int (2+(k:Int) % 2)]=_;rw[ek];exact UG (by omega);exact UG (by show _<=3 * (k:Int)+1/\3 * (k:Int)+1<=_;omega);exact⟨ys,x0,A,B,C,hd,_,(List.range _).map (inF ns),P5,O,h4,by rw[cJ,N8];exact b5.2.2,by rw[tu];rfl,rfl,λ_=>hq⟩
 case w7=>
  rintro d ρ ⟨ys,x0,A,B,C,hd,ti,ins,P5,O,h4,h5,rfl,rfl,fin⟩;have W:=wl5 P5 O;refine⟨_,Rg.iQ (j:=0) PD,_,aaD,?_⟩;refine⟨Gen.cR rfl,rfl,Gen.cR rfl,?_⟩;have ek:(A.ps.map T.str).length=A.ps.length:=cJ _;obtain⟨g1,g2⟩:=TM (ins:=ins) (k:=(A.ps.map T.str).length);have ZE:(A.ps.map T.str).length<=4:=by rw[ek];exact h4
  have b3:=b63 ZE;have gl:=TN (ins:=ins) (k:=(A.ps.map T.str).length);refine⟨b3.1,b3.2.1,b3.2.2,fM (Nat.le_of_eq g2) (by rw[μ];omega),?_⟩;have e5:∀{Q:ξ->Prop}{h:FG}{fe:FE}{ρ:En},cu h xO fe ρ ((PN ins (A.ps.map T.str).length).map T.int) Q->cu h xO fe ρ (f_ (ins.map T.int++(List.replicate ((A.ps.map T.str).length:Int).toNat [T.int 0]).flatten) none (some ((A.ps.map T.str).length:Int))) Q:=λh=>by rw[g1];exact h
  refine⟨by show (f_ (ins.map T.int++(List.replicate ((A.ps.map T.str).length:Int).toNat [T.int 0]).flatten) none (some ((A.ps.map T.str).length:Int))).length<=_;rw[g1,cJ,gl];exact c5.xg (fM ZE (by decide)),?_⟩;refine e5 (dw (f:=T.int) (u:=λi=>vK (.num (dQ i))) (λi _ r hr=>⟨rfl,i,rfl,hr⟩) ?_);obtain⟨vs,ZF⟩:∃vs:List Vl,vs=(PN ins (A.ps.map T.str).length).map λi=>.num (dQ i):=⟨_,rfl⟩;have ZG:vs.length=A.ps.length:=by rw[ZF,cJ,gl,ek]
  have hr5:=adS P5 O ins vs ZG λj hj=>by rw[ZF];exact Yv (by rw[ek];exact hj)
  have evk:((PN ins (A.ps.map T.str).length).map λi=>vK (.num (dQ i)))=vs.map vK:=by rw[ZF,tu];rfl
  clear e5 g1 g2 b3 ZE gl;refine⟨x0,jM A B C,0,A.f,vs,[],⟨[],[]⟩,by rw[<- evk];rfl,rfl,W,n6 P5 O,(ur P5).first PD,by rw[ZG];exact Yd P5,by decide,by decide,λc' Tx cg cl=>?_⟩;clear evk Tx cg cl;have hlen:=NL P5 O vs;have Kr:sX (je A B C vs).2.d:=Du W.ok 3 A.f vs g0 (by rw[ZG];exact fM h4 (by decide)) (λ_ h=>(nomatch h));have Bj:LA (zq A B C vs).1/\Sm.Lv 5 (zq A B C vs).2:=⟨λt ht=>by obtain⟨x,hx,rfl⟩:=rS.mp ht;exact adX (Kr x hx),JV (TH _)⟩
  have hlR:(zq A B C vs).1.length<=344:=by show ((je A B C vs).2.d.map dT).length<=344;rw[cJ];exact hlen
  have TV:=hr5 400;have TX:=JW Bj (m:=400) (cS _);rw[Dv (by omega)] at TV TX;have TY:ins.length<=100:=fM h5 (by decide);refine⟨_,_,rfl,TK (je A B C vs).2.d,_,_,rfl,Yu (je A B C vs).1,Gen.cR rfl,Gen.cR rfl,?_⟩;refine⟨rfl,jM A B C,ins,400,_,rfl,W,TY,by decide,TV,?_⟩;refine⟨rfl,_,rfl,TX,?_⟩;obtain⟨m,em,hm⟩:=NY (ns.getD 3 0) ((je A B C vs).2.d.map dT).length;have hm9:m<=400:=fM hm (fM hlR (by decide));have lm:=JW Bj (m:=m) hm9;have ZH:=hr5 m;have em2:=Ψ (λz:Int=>[T.lst ((jM A B C).map bu),T.lst (ins.map T.int),T.int z]) em;clear ZG ZF Kr Bj TV TX hr5 hlR hlen ek hm h4 h5;refine⟨rfl,ns,3,rfl,(by show (0:Int)<(((je A B C vs).2.d.map dT).length:Int)+1;omega),?_⟩;refine xB (λh=>?_) (λh=>?_);have h':m<(zq A B C vs).1.length:=by have h2:ns.getD 3 0 % ((((je A B C vs).2.d.map dT).length:Int)+1)<(((je A B C vs).2.d.map dT).length:Int):=aae h;rw[em] at h2;exact Int.ofNat_lt.mp h2
  rw[TQ h'] at ZH lm;have TF:f_ ((je A B C vs).2.d.map dT) none (some (ns.getD 3 0 % ((((je A B C vs).2.d.map dT).length:Int)+1)))=((je A B C vs).2.d.map dT).take m:=by rw[em];have:=c5.wC id ((je A B C vs).2.d.map dT) m (Qc h');simpa using this
  refine⟨Gen.cR rfl,Gen.cR rfl,?_⟩;refine⟨rfl,jM A B C,ins,m,_,em2,W,TY,fM hm9 (by decide),ZH,?_⟩;refine⟨rfl,_,?_,lm,fin _⟩;exact Ψ (λl=>[T.tup [.lst (((je A B C vs).2.d.map dT).take m),l_],T.tup [.lst l,l_]]) TF;have h':¬ m<(zq A B C vs).1.length:=λz=>h (ν (by show ns.getD 3 0 % ((((je A B C vs).2.d.map dT).length:Int)+1)<(((je A B C vs).2.d.map dT).length:Int);rw[em];exact Int.ofNat_lt.mpr z));rw[Dv h'] at ZH lm;refine⟨rfl,jM A B C,ins,m,_,em2,W,TY,fM hm9 (by decide),ZH,?_⟩;exact⟨rfl,_,rfl,lm,fin _⟩
end
end cQ
namespace gD
open PySem L2 VT
def Yx(X:K.In h)(G:h.Ns mainGlobals mg){st:Stmt}{oc:Value}{od an:qar}{DS:Array (Option Value)}{kV doc pm bB ct:Value}(a:W.nsIn K mainGlobals x=some (some (.ref f)))(l:K.lookup f=some ⟨oc,od,.func (W.fnOf x x (cV st) (bG st) (aj st) .none kV doc pm an bB ct),DS⟩)(c:W.codeIn K bB x=true)(k:W.keepIn K (.ref f)=true)(hb:∀(kV doc pm:Value) (an:qar) (bB ct:Value) (us:qag),us.length=ps.length->bindArgs (W.fnOf x x (cV st) (bG st) (aj st) .none kV doc pm an bB ct) ⟨us,[]⟩=pure (ps.zip us)) :
  ∃f fd,Df K mg x st ps f fd:=by
 have F:=pL (st:=st) l c k;exact⟨f,_,F,kh X G a,F.binds hb⟩
theorem TZ{C:qag->Prop}(h:C []):∀us:qag,us.length=0->C us
 |[],_=>h
theorem wU{C:qag->Prop}(h:∀a,∀us:qag,us.length=n->C (a::us)):∀us:qag,us.length=n+1->C us
 |a::us,e=>h a us (Nat.succ.inj e)
def Yy{C:qag->Prop}(h:∀a,C [a]):∀us:qag,us.length=1->C us:=wU λa=>TZ (h a)
def bn1{C:qag->Prop}(h:∀a,C [a]):∀us:qag,us.length=1->C us:=Yy h
def bn2{C:qag->Prop}(h:∀a b,C [a,b]):∀us:qag,us.length=2->C us:=wU λa=>bn1 (h a)
def bn3{C:qag->Prop}(h:∀a b c,C [a,b,c]):∀us:qag,us.length=3->C us:=wU λa=>bn2 (h a)
def bn4{C:qag->Prop}(h:∀a b c d,C [a,b,c,d]):∀us:qag,us.length=4->C us:=wU λa=>bn3 (h a)
noncomputable abbrev pE:Program:=PySem.Challenge.pw_slicewise_k15_calls
noncomputable def qE:Program:=W.view pE [1,2,3,4,5,6,7,8,9,11,12,13,14,16,17,18,19,21,22,23,24,25,26,27,28,29,30,31,32,34,35,36,37,38,39,40,41,42,43,44,45,46,47,48,49,50,52,54,55,56,57,58,59,60,61,62,63,64,65]
noncomputable def rK:π:=["USED_PLACES","RECKONERS","FOLLOWERS","run"]
noncomputable def PX:ο:=[0,1,2,3,4,5,6,7,8,9,10,11,12,13,14,15,16,17,18,19,20,21,22,23,24,25,26,27,28,29,30,31,32,33,34,35,36,37,38,39,40,41,42,43,44,45,46,47,48,49,50,51,52,53,54,55,56,57,65,66,67,68,69,70,71,72,73,74,75,76,79,80,81,82,83,84,85,86,87,88,89,90,91,92,93,94,95,96,97,98,99,100,101,102,103,104,105,106,107,108,109,110,111,112,113,114,115,116,117,118,119,120,121,122,123,124,125,126,127,128,129,130,131,132,133,134,135,136,137,138,139,140,141,142,143,144,145,146,147,148,149,150,151,152,153,154,155,156,157,158,159,160,161,162,163,164,165,166,167,168,169,170,171,172,173,174,175,176,177,185,186,187,188,189,190,191,192,193,194,195,196,206,207,208,209,210,211,212,213,214,215,216,217,220,221,222,223,224,225,226,227,228,229,230,231,232,233,234,235,236,237,238,239,240,241,242,243,244,245,246,247,248,249,250,251,252,253,254,255,256,257,258,259,260,261,262,263,264,265,266,267,268,269,270,271,272,273,274,275,276,277,278,279,280,281,282,283,284,285,286,287,288,289,290,291,292,293,294,295,296,297,298,299,300,301,302,303,304,305,306,307,308,309,310,311,312,313,314,315,316,317,318,319,320,321,322,323,324,325,326,327,328,329,330,331,332,333,334,335,336,337,338,339,340,341,342,343,344,345,346,347,348,349,350,351,352,353,354,355,356,357,358,359,360,361,362,363,364,365,366,367,368,369,370,371,372,373,374,375,376,377,378,379,380,381,382,383,384,385,386,387,388,389,390,391,392,393,394,395,396,397,398,399,400,401]
abbrev OV:=Option (Option Value)
abbrev OO:=Option Obj
noncomputable abbrev N(K:Δ)(x:Str):=W.nsIn K mainGlobals x
noncomputable abbrev Lk(K:Δ)(a:Addr):=List.lookup a K
noncomputable abbrev R(a:Addr):OV:=some (some (.ref a))
noncomputable abbrev fo(x q:Str)(st:Stmt)(pm:Value)(c:Addr):OO:=some ⟨.type "function",none,.func (W.fnOf x q (cV st) (bG st) (aj st) .none .none .none pm none (.ref c) .none),#[]⟩
noncomputable abbrev cI(K:Δ)(c:Value)(q:Str):=W.codeIn K c q
noncomputable abbrev kI(K:Δ)(f:Addr):=W.keepIn K (.ref f)
noncomputable abbrev fI(K:Δ)(c:Addr)(x:Str):=W.findIn K (.ref c) x
abbrev Q4:=OV×OO×Bool×Bool
noncomputable def q4(K:Δ)(x:Str)(f c:Addr):Q4:=(N K x,Lk K f,cI K (.ref c) x,kI K f)
noncomputable def v4(x:Str)(st:Stmt)(f:Addr)(pm:Value)(c:Addr):Q4:=(R f,fo x x st pm c,true,true)
def BN:π->(qag->Prop)->Prop
 |[],C=>C []
 |_::ps,C=>∀v,BN ps λus=>C (v::us)
theorem bnA:∀{ps:π}{C:qag->Prop},BN ps C->∀us:qag,us.length=ps.length->C us
 |[],_,h,[],_=>h
 |_::_,_,h,v::us,e=>bnA (h v) us (Nat.succ.inj e)
def dM{D:Prop}(X:K.In h)(G:h.Ns mainGlobals mg){st:Stmt}{c:Addr}{pm:Value}(e:q4 K x f c=v4 x st f pm c)(k:∀{f:Addr} {fd:FuncData},Df K mg x st ps f fd->D)(hb:∀(kV doc pm:Value) (an:qar) (bB ct:Value),BN ps λus=>bindArgs (W.fnOf x x (cV st) (bG st) (aj st) .none kV doc pm an bB ct) ⟨us,[]⟩=pure (ps.zip us):=by simp only[BN];intros;rfl):D:=by unfold q4 v4 at e;simp only[Prod.mk.injEq] at e;obtain⟨_,_,d⟩:=Yx X G e.1 e.2.1 e.2.2.1 e.2.2.2 λa b c d e f=>bnA (hb a b c d e f);exact k d
def Tk(P:Program)(w:World)(base:Heap):Prop:=True
def dN(z:Tk P w base)(X:K.In h)(G:h.Ns mainGlobals mg){st:Stmt}{c:Addr}{pm:Value}(e:q4 K x f c=v4 x st f pm c)(k:∀{f:Addr} {fd:FuncData},Df K mg x st ps f fd->bW P w K mg base x ps n sp)(hb:∀(kV doc pm:Value) (an:qar) (bB ct:Value),BN ps λus=>bindArgs (W.fnOf x x (cV st) (bG st) (aj st) .none kV doc pm an bB ct) ⟨us,[]⟩=pure (ps.zip us):=by simp only[BN];intros;rfl):bW P w K mg base x ps n sp:=dM X G e k hb
noncomputable abbrev tU(l:Array Value):OO:=some ⟨.type "tuple",none,.seq l 0,#[]⟩
noncomputable abbrev kE(w:World)(x:Str)(t:Tok)(r:Addr):DictEntry:=⟨PyData.keyHash w.params x,.str x t,.ref r⟩
noncomputable abbrev FU:Value:=.str "law_slicewise_k15_calls" 694
noncomputable abbrev mD3:Value:=.str "slicewise.rows" 187
noncomputable abbrev zH:Value:=.str "slicewise.runs" 446
noncomputable abbrev T1:Value:=.str "slicewise.values" 343
abbrev J_:=OV×OV
abbrev UP:=(Q4×Q4)×(Q4×(Q4×Q4))
abbrev UQ:=J_×(OV×J_)
abbrev tX3:=((Bool×Bool)×(Bool×Bool))×((OV×Bool)×(Bool×J_))
abbrev tX4:=J_×(Bool×(OO×Bool))
abbrev XX:Type:=((((((J_×J_)×((OO×OV)×(OO×(OV×OO))))×(((OV×OO)×(OV×OO))×((OO×OO)×(OO×(OO×OO)))))×((((OO×OO)×J_)×UQ)×(((OO×OV)×(OV×J_))×UQ)))×(((((OV×OO)×J_)×UQ)×(UQ×tX4))×(tX3×(UQ×tX4))))×(((tX3×(tX4×((Bool×Bool)×(Bool×(Bool×OV)))))×((((Bool×Bool)×J_)×UQ)×((J_×(OV×(OO×Bool)))×((Bool×OO)×(OV×(OO×Bool))))))×(((((Bool×Q4)×(Q4×Q4))×UP)×(UP×UP))×((((Q4×Q4)×(Q4×Q4))×UP)×(UP×UP)))))
noncomputable def FF(K:Δ):XX:=(((((((N K "LETTERS",N K "LONGEST_NAME"),(N K "H",N K "DIVISIONS")),((Lk K 15,N K "SILENT"),(Lk K 16,(N K "CLOSERS",Lk K 43)))),(((N K "OPENERS",Lk K 42),(N K "USED_PLACES",Lk K 29)),((Lk K 36,Lk K 35),(Lk K 34,(Lk K 33,Lk K 32))))),((((Lk K 31,Lk K 30),(N K "plus",N K "minus")),((N K "times",N K "over"),(N K "rest",(N K "less",N K "RECKONERS")))),(((Lk K 163,N K "follow_plain"),(N K "follow_give",(N K "follow_name",N K "follow_do"))),((N K "follow_new",N K "follow_set"),(N K "follow_call",(N K "follow_fail",N K "follow_choice")))))),(((((N K "FOLLOWERS",Lk K 304),(N K "isinstance",N K "str")),((N K "int",N K "bool"),(N K "len",(N K "all",N K "list")))),(((N K "tuple",N K "range"),(N K "enumerate",(N K "zip",N K "min"))),((N K "Layout",fI K 74 "__init__"),(W.isFn K (.ref 71),(Lk K 71,cI K (.ref 70) "Layout.__init__"))))),((((kI K 71,W.plainGet K 74 Str.empty),(W.hasDictIn K 74,W.plainOver K 74)),((fI K 74 "__setattr__",W.makesIn K 74),(kI K 74,(fI K 74 "program",fI K 74 "heads")))),(((fI K 74 "ends",fI K 74 "elses"),(fI K 74 "homes",(fI K 74 "defs",fI K 74 "main"))),((N K "Frame",fI K 194 "__init__"),(W.isFn K (.ref 191),(Lk K 191,cI K (.ref 190) "Frame.__init__"))))))),((((((kI K 191,W.plainGet K 194 Str.empty),(W.hasDictIn K 194,W.plainOver K 194)),((fI K 194 "__setattr__",W.makesIn K 194),(kI K 194,(fI K 194 "call",fI K 194 "names")))),(((N K "Machine",fI K 215 "__init__"),(W.isFn K (.ref 212),(Lk K 212,cI K (.ref 211) "Machine.__init__"))),((kI K 212,W.plainGet K 215 Str.empty),(W.hasDictIn K 215,(W.plainOver K 215,fI K 215 "__setattr__"))))),((((W.makesIn K 215,kI K 215),(fI K 215 "layout",fI K 215 "most")),((fI K 215 "poke",fI K 215 "frames"),(fI K 215 "cells",(fI K 215 "counts",fI K 215 "doings")))),(((fI K 215 "place",fI K 215 "ended"),(N K "run",(Lk K 324,cI K (.ref 323) "run"))),((kI K 324,Lk K 317),(N K "law",(Lk K 401,cI K (.ref 400) "law")))))),(((((kI K 401,q4 K "is_name" 21 20),(q4 K "is_field" 28 27,q4 K "operands" 41 40)),((q4 K "shape" 57 56,q4 K "first_defs" 50 49),(q4 K "row_behind" 99 98,(q4 K "fit" 106 105,q4 K "is_record" 113 112)))),(((q4 K "number_of" 120 119,q4 K "plus" 127 126),(q4 K "minus" 134 133,(q4 K "reckoned" 170 169,q4 K "value_of" 233 232))),((q4 K "cell_of" 177 176,q4 K "made_by" 240 239),(q4 K "follow_plain" 247 246,(q4 K "follow_name" 254 253,q4 K "follow_do" 261 260))))),((((q4 K "enter" 226 225,q4 K "follow_new" 268 267),(q4 K "follow_set" 275 274,q4 K "follow_call" 282 281)),((q4 K "follow_give" 289 288,q4 K "done_row" 309 308),(q4 K "step" 316 315,(q4 K "run_poked" 329 328,q4 K "_law_cell_at" 336 335)))),(((q4 K "_law_names" 341 340,q4 K "_law_same" 355 354),(q4 K "_law_fit" 348 347,(q4 K "_law_look" 379 378,q4 K "_law_plain" 386 385))),((q4 K "_law_made" 391 390,q4 K "_law_called" 396 395),(q4 K "_law_operand" 362 361,(q4 K "_law_row" 367 366,q4 K "_law_rows" 372 371))))))))
noncomputable def VV(w:World):XX:=(((((((some (some (.str nP.bT 191)),some (some (.int 8 193))),(some (some (.int 1000000000000000000000000000000 189)),R 15)),((tU #[.str "over" 195,.str "rest" 196],R 16),(tU #[.str "else" 198,.str "end" 199,.str "skip" 200],(R 43,tU #[.str "give" 253,.str "end" 254])))),(((R 42,tU #[.str "def" 249,.str "if" 250,.str "while" 251]),(R 29,some ⟨.type "dict",none,.dict #[kE w "give" 215 30,kE w "put" 217 31,kE w "do" 219 32,kE w "get" 222 33,kE w "set" 225 34,kE w "if" 229 35,kE w "while" 231 36] 7,#[]⟩)),((tU #[.int (1) 232],tU #[.int (1) 230]),(tU #[.int (1) 226,.int (2) 227,.int (3) 228],(tU #[.int (2) 223,.int (3) 224],tU #[.int (2) 220,.int (4) 221]))))),((((tU #[.int (2) 218],tU #[.int (1) 216]),(R 127,R 134)),((R 141,R 148),(R 155,(R 162,R 163)))),(((some ⟨.type "dict",none,.dict #[kE w "plus" 414 127,kE w "minus" 415 134,kE w "times" 416 141,kE w "over" 417 148,kE w "rest" 418 155,kE w "less" 419 162] 6,#[]⟩,R 247),(R 289,(R 254,R 261))),((R 268,R 275),(R 282,(R 296,R 303)))))),(((((R 304,some ⟨.type "dict",none,.dict #[kE w "def" 641 247,kE w "give" 642 289,kE w "put" 643 254,kE w "do" 644 261,kE w "new" 645 268,kE w "get" 646 254,kE w "set" 647 275,kE w "call" 648 282,kE w "fail" 649 296,kE w "if" 650 303,kE w "while" 651 303] 11,#[]⟩),(some none,some none)),((some none,some none),(some none,(some none,some none)))),(((some none,some none),(some none,(some none,some none))),((R 74,some (some (.ref 71))),(true,(fo "__init__" "Layout.__init__" Lay.jy (.str "slicewise.layouts" 280) 70,true))))),((((true,true),(true,true)),((some (some (.builtin "object.__setattr__")),true),(true,(some none,some none)))),(((some none,some none),(some none,(some none,some none))),((R 194,some (some (.ref 191))),(true,(fo "__init__" "Frame.__init__" Rg.md zH 190,true))))))),((((((true,true),(true,true)),((some (some (.builtin "object.__setattr__")),true),(true,(some none,some none)))),(((R 215,some (some (.ref 212))),(true,(fo "__init__" "Machine.__init__" Rg.iy zH 211,true))),((true,true),(true,(true,some (some (.builtin "object.__setattr__"))))))),((((true,true),(some none,some none)),((some none,some none),(some none,(some none,some none)))),(((some none,some none),(R 324,(some ⟨.type "function",none,.func (W.fnOf "run" "run" (cV Rg.gi) (bG Rg.gi) (aj Rg.gi) (.ref 317) (.none) (.none) zH none (.ref 323) (.none)),#[]⟩,true))),((true,tU #[.int (200) 678]),(R 401,(fo "law" "law" cQ.mw FU 400,true)))))),(((((true,v4 "is_name" Nm.jX 21 mD3 20),(v4 "is_field" Nm.kK 28 mD3 27,v4 "operands" UD.kN 41 mD3 40)),((v4 "shape" Xw.lT 57 (.str "slicewise.programs" 247) 56,v4 "first_defs" Lay.iR 50 (.str "slicewise.programs" 247) 49),(v4 "row_behind" Nx.iS 99 (.str "slicewise.layouts" 280) 98,(v4 "fit" kR.oh 106 T1 105,v4 "is_record" kR.jz 113 T1 112)))),(((v4 "number_of" kR.jA 120 T1 119,v4 "plus" kR.AH 127 T1 126),(v4 "minus" kR.vW 134 T1 133,(v4 "reckoned" kR.iT 170 T1 169,v4 "value_of" Rg.kS 233 zH 232))),((v4 "cell_of" Rg.nE 177 T1 176,v4 "made_by" Rg.nD 240 zH 239),(v4 "follow_plain" Rg.gh 247 zH 246,(v4 "follow_name" Rg.gW 254 zH 253,v4 "follow_do" Rg.jD 261 zH 260))))),((((v4 "enter" Rg.v_ 226 zH 225,v4 "follow_new" Rg.iU 268 zH 267),(v4 "follow_set" Rg.iV 275 zH 274,v4 "follow_call" Rg.gY 282 zH 281)),((v4 "follow_give" Rg.gX 289 zH 288,v4 "done_row" Rg.kT 309 zH 308),(v4 "step" Rg.wa 316 zH 315,(v4 "run_poked" Rg.gM 329 zH 328,v4 "_law_cell_at" c5.nH 336 FU 335)))),(((v4 "_law_names" c5.wB 341 FU 340,v4 "_law_same" Sm.s_same 355 FU 354),(v4 "_law_fit" cQ.oh 348 FU 347,(v4 "_law_look" cQ.Bf 379 FU 378,v4 "_law_plain" cQ.wM 386 FU 385))),((v4 "_law_made" cQ.Bg 391 FU 390,v4 "_law_called" cQ.jN 396 FU 395),(v4 "_law_operand" cQ.nI 362 FU 361,(v4 "_law_row" cQ.s_row 367 FU 366,v4 "_law_rows" cQ.Be 372 FU 371))))))))
def Bq(w:World)(os:OsState):HE.lookA pE qE rK [] [] (HE.eU (w.withFollow "special-get-raises" false).params) (W.boot_heap (w.withFollow "special-get-raises" false).params) (w.withFollow "special-get-raises" false) 2672 os=some (true,(W.openGood qE rK).1,(W.openGood qE rK).2.1):=by
 rw[PySem.W.Fast.te2848547177322276819]
 kernel_rfl
def Fe(w:World)(os:OsState):HE.lookA pE qE rK [] [] (HE.eU (w.withFollow "special-get-raises" true).params) (W.boot_heap (w.withFollow "special-get-raises" true).params) (w.withFollow "special-get-raises" true) 2672 os=some (true,(W.openGood qE rK).1,(W.openGood qE rK).2.1):=by
 rw[PySem.W.Fast.te2848547177322276819]
 kernel_rfl
def ad3(w:World)(os:OsState):HE.lookA pE qE rK [] [] (HE.eU (w).params) (W.boot_heap (w).params) (w) 2672 os=some (true,(W.openGood qE rK).1,(W.openGood qE rK).2.1) :=
 W.byRow2 "special-get-raises" (P:=λw=>∀os,HE.lookA pE qE rK [] [] (HE.eU (w).params) (W.boot_heap (w).params) (w) 2672 os=some (true,(W.openGood qE rK).1,(W.openGood qE rK).2.1)) Bq Fe w os
def Br(w:World)(os:OsState):HE.lookB pE qE rK [] [] (HE.eU (w.withFollow "special-get-raises" false).params) (w.withFollow "special-get-raises" false) 2672 os=some (W.openGood qE rK).2.2:=by
 rw[PySem.W.Fast.te312265020846911052]
 kernel_rfl
def Ff(w:World)(os:OsState):HE.lookB pE qE rK [] [] (HE.eU (w.withFollow "special-get-raises" true).params) (w.withFollow "special-get-raises" true) 2672 os=some (W.openGood qE rK).2.2:=by
 rw[PySem.W.Fast.te312265020846911052]
 kernel_rfl
def ad4(w:World)(os:OsState):HE.lookB pE qE rK [] [] (HE.eU (w).params) (w) 2672 os=some (W.openGood qE rK).2.2 :=
 W.byRow2 "special-get-raises" (P:=λw=>∀os,HE.lookB pE qE rK [] [] (HE.eU (w).params) (w) 2672 os=some (W.openGood qE rK).2.2) Br Ff w os
def Bs(w:World)(os:OsState):HE.lookC pE PX FF (HE.eU (w.withFollow "special-get-raises" false).params) (w.withFollow "special-get-raises" false) 2672 os=some (VV (w.withFollow "special-get-raises" false)):=by
 rw[PySem.W.Fast.te3135357915001837337]
 kernel_rfl
def Fg(w:World)(os:OsState):HE.lookC pE PX FF (HE.eU (w.withFollow "special-get-raises" true).params) (w.withFollow "special-get-raises" true) 2672 os=some (VV (w.withFollow "special-get-raises" true)):=by
 rw[PySem.W.Fast.te3135357915001837337]
 kernel_rfl
def runC(w:World)(os:OsState):HE.lookC pE PX FF (HE.eU (w).params) (w) 2672 os=some (VV (w)) :=
 W.byRow2 "special-get-raises" (P:=λw=>∀os,HE.lookC pE PX FF (HE.eU (w).params) (w) 2672 os=some (VV (w))) Bs Fg w os
theorem T2:PySem.Challenge.rw_slicewise_k15_calls.wellSaid=true:=by kernel_rfl
noncomputable abbrev KE(w:World):Δ:=HE.Kf PX (HE.vq pE 6024 w)
noncomputable abbrev dE:DefRec:=HE.WN cQ.mw
theorem hd:PySem.W.LeftO pE qE rK (HE.L8 qE [] []) (λs=>PX.map s.heap.get?) (λw=>PX.map (HE.vq pE 6024 w)) 6024/\∀w,FF (KE w)=VV w:=HE.head (p:=pE) (q:=qE) (loose:=rK) (lv:=[]) (R:=[]) (as:=PX) (N:=6024) (M:=2672) (F:=FF) (v:=VV) (by kernel_rfl) rfl (λs=>by kernel_rfl) rfl ad3 ad4 runC
def T3{l:PySem.W.OpenLaw}{fa:Addr}(X:K.In h)(G:h.Ns mainGlobals mg)(hfa:mg "law"=some (.ref fa))(hF:FF K=VV w) :
  ∃fd:FuncData,(∀(s:Shared)(v:Value),BindsTo s fd ⟨[v],[]⟩ [("_law_script",v)])/\∀base:Heap,K.In base->base.Ns mainGlobals mg->cq l.prog w K mg base eD 10 fa fd qba (di K 1 cQ.NX):=by
 have Q {β:Type} (f:XX->β):=Ψ f hF;have dS:=Fp X G (Q (·.1.2.1.1.1.2.1) :);have Bt:=Fp X G (Q (·.1.2.1.1.1.2.2) :);have wV:=Fp X G (Q (·.1.2.1.1.2.1.1) :);have wW:=Fp X G (Q (·.1.2.1.1.2.1.2) :);have i6:=Fp X G (Q (·.1.2.1.1.2.2.1) :);have T4:=Fp X G (Q (·.1.2.1.1.2.2.2.1) :);have pv:=Fp X G (Q (·.1.2.1.1.2.2.2.2) :);have gn:=Fp X G (Q (·.1.2.1.2.1.1.1) :);have my:=Fp X G (Q (·.1.2.1.2.1.1.2) :);have i7:=Fp X G (Q (·.1.2.1.2.1.2.1) :);have Bu:=Fp X G (Q (·.1.2.1.2.1.2.2.1) :);have Ka:=Fp X G (Q (·.1.2.1.2.1.2.2.2) :);have e:=hfa.symm.trans (kh X G (Q (·.2.1.2.2.2.2.1) :));cases e;have aB:Lay.O5 K 74:=⟨⟨(Q (·.1.2.2.1.1.1.2) :),(Q (·.1.2.2.1.1.2.1) :),(Q (·.1.2.2.1.1.2.2) :),(Q (·.1.2.2.1.2.1.1) :)⟩,(Q (·.1.2.2.1.2.2.2.1) :),(Q (·.1.2.2.1.2.2.2.2) :),(Q (·.1.2.2.2.1.1.1) :),(Q (·.1.2.2.2.1.1.2) :),(Q (·.1.2.2.2.1.2.1) :),(Q (·.1.2.2.2.1.2.2.1) :),(Q (·.1.2.2.2.1.2.2.2) :)⟩;have uu:=pL (st:=Lay.jy) (Q (·.1.2.1.2.2.2.2.1) :) (Q (·.1.2.1.2.2.2.2.2) :) (Q (·.1.2.2.1.1.1.1) :);have Fh:Dc K mg "Layout" "Layout.__init__" Lay.jy qax 74 71 _:=⟨uu,kh X G (Q (·.1.2.1.2.2.1.1) :),uu.binds (λ_ _ _ _ _ _=>(gD.bn2 λ_ _=>rfl)),⟨(Q (·.1.2.2.1.2.1.2) :),(Q (·.1.2.1.2.2.1.2) :),(Q (·.1.2.1.2.2.2.1) :),(Q (·.1.2.2.1.2.2.1) :)⟩⟩;have bX:Rg.UJ K 194:=⟨⟨(Q (·.2.1.1.1.1.1.2) :),(Q (·.2.1.1.1.1.2.1) :),(Q (·.2.1.1.1.1.2.2) :),(Q (·.2.1.1.1.2.1.1) :)⟩,(Q (·.2.1.1.1.2.2.2.1) :),(Q (·.2.1.1.1.2.2.2.2) :)⟩;have zw:=pL (st:=Rg.md) (Q (·.1.2.2.2.2.2.2.1) :) (Q (·.1.2.2.2.2.2.2.2) :) (Q (·.2.1.1.1.1.1.1) :);have Kb:Dc K mg "Frame" "Frame.__init__" Rg.md qaF 194 191 _:=⟨zw,kh X G (Q (·.1.2.2.2.2.1.1) :),zw.binds (λ_ _ _ _ _ _=>(gD.bn3 λ_ _ _=>rfl)),⟨(Q (·.2.1.1.1.2.1.2) :),(Q (·.1.2.2.2.2.1.2) :),(Q (·.1.2.2.2.2.2.1) :),(Q (·.2.1.1.1.2.2.1) :)⟩⟩;have af:Rg.AR K 215:=⟨⟨(Q (·.2.1.1.2.2.1.2) :),(Q (·.2.1.1.2.2.2.1) :),(Q (·.2.1.1.2.2.2.2.1) :),(Q (·.2.1.1.2.2.2.2.2) :)⟩,(Q (·.2.1.2.1.1.2.1) :),(Q (·.2.1.2.1.1.2.2) :),(Q (·.2.1.2.1.2.1.1) :),(Q (·.2.1.2.1.2.1.2) :),(Q (·.2.1.2.1.2.2.1) :),(Q (·.2.1.2.1.2.2.2.1) :),(Q (·.2.1.2.1.2.2.2.2) :),(Q (·.2.1.2.2.1.1.1) :),(Q (·.2.1.2.2.1.1.2) :)⟩;have rM:=pL (st:=Rg.iy) (Q (·.2.1.1.2.1.2.2.1) :) (Q (·.2.1.1.2.1.2.2.2) :) (Q (·.2.1.1.2.2.1.1) :);have Bv:Dc K mg "Machine" "Machine.__init__" Rg.iy qaD 215 212 _:=⟨rM,kh X G (Q (·.2.1.1.2.1.1.1) :),rM.binds (λ_ _ _ _ _ _=>(gD.bn4 λ_ _ _ _=>rfl)),⟨(Q (·.2.1.2.1.1.1.1) :),(Q (·.2.1.1.2.1.1.2) :),(Q (·.2.1.1.2.1.2.1) :),(Q (·.2.1.2.1.1.1.2) :)⟩⟩;have M2:Nm.Mg2 mg:=⟨⟨_,kh X G (Q (·.1.1.1.1.1.1.1) :)⟩,⟨_,kh X G (Q (·.1.1.1.1.1.1.2) :)⟩,dS,Bt,i6,T4⟩;have MU:UD.MgU w K mg:=⟨pv,⟨29,kh X G (Q (·.1.1.1.2.1.2.1) :),⟨_,_,(Q (·.1.1.1.2.1.2.2) :),(by first|rfl|decide),.cons ⟨rfl,⟨_,rfl⟩,.ref 30,rfl,λ_ _=>bU (vs:=[V.int 1]) (.inr ⟨_,_,_,(Q (·.1.1.2.1.1.1.2) :),rfl,rfl,Gen.cR rfl,.cons ⟨_,rfl⟩ (.nil)⟩) (az.cons bz (az.nil))⟩ (.cons ⟨rfl,⟨_,rfl⟩,.ref 31,rfl,λ_ _=>bU (vs:=[V.int 2]) (.inr ⟨_,_,_,(Q (·.1.1.2.1.1.1.1) :),rfl,rfl,Gen.cR rfl,.cons ⟨_,rfl⟩ (.nil)⟩) (az.cons bz (az.nil))⟩ (.cons ⟨rfl,⟨_,rfl⟩,.ref 32,rfl,λ_ _=>bU (vs:=[V.int 2,V.int 4]) (.inr ⟨_,_,_,(Q (·.1.1.1.2.2.2.2.2) :),rfl,rfl,Gen.cR rfl,.cons ⟨_,rfl⟩ (.cons ⟨_,rfl⟩ (.nil))⟩) (az.cons bz (az.cons bz (az.nil)))⟩ (.cons ⟨rfl,⟨_,rfl⟩,.ref 33,rfl,λ_ _=>bU (vs:=[V.int 2,V.int 3]) (.inr ⟨_,_,_,(Q (·.1.1.1.2.2.2.2.1) :),rfl,rfl,Gen.cR rfl,.cons ⟨_,rfl⟩ (.cons ⟨_,rfl⟩ (.nil))⟩) (az.cons bz (az.cons bz (az.nil)))⟩ (.cons ⟨rfl,⟨_,rfl⟩,.ref 34,rfl,λ_ _=>bU (vs:=[V.int 1,V.int 2,V.int 3]) (.inr ⟨_,_,_,(Q (·.1.1.1.2.2.2.1) :),rfl,rfl,Gen.cR rfl,.cons ⟨_,rfl⟩ (.cons ⟨_,rfl⟩ (.cons ⟨_,rfl⟩ (.nil)))⟩) (az.cons bz (az.cons bz (az.cons bz (az.nil))))⟩ (.cons ⟨rfl,⟨_,rfl⟩,.ref 35,rfl,λ_ _=>bU (vs:=[V.int 1]) (.inr ⟨_,_,_,(Q (·.1.1.1.2.2.1.2) :),rfl,rfl,Gen.cR rfl,.cons ⟨_,rfl⟩ (.nil)⟩) (az.cons bz (az.nil))⟩ (.cons ⟨rfl,⟨_,rfl⟩,.ref 36,rfl,λ_ _=>bU (vs:=[V.int 1]) (.inr ⟨_,_,_,(Q (·.1.1.1.2.2.1.1) :),rfl,rfl,Gen.cR rfl,.cons ⟨_,rfl⟩ (.nil)⟩) (az.cons bz (az.nil))⟩ (.nil))))))),by show ([("give":Str),("put":Str),("do":Str),("get":Str),("set":Str),("if":Str),("while":Str)]).Nodup;decide +kernel⟩⟩⟩;have MR:kR.Mg w K mg:=⟨⟨_,kh X G (Q (·.1.1.1.1.1.2.1) :)⟩,⟨15,kh X G (Q (·.1.1.1.1.1.2.2) :),λH=>.inr ⟨_,_,_,(Q (·.1.1.1.1.2.1.1) :),rfl,rfl,Gen.cR rfl,.cons ⟨_,rfl⟩ (.cons ⟨_,rfl⟩ (.nil))⟩⟩,dS,wV,wW,gn,i6,my,⟨163,(λo=>match o with | .plus=>127 | .minus=>134 | .times=>141 | .over=>148 | .rest=>155 | .less=>162),(kh X G (Q (·.1.1.2.1.2.2.2.2) :)),(λo=>match o with | .plus=>(kh X G (Q (·.1.1.2.1.1.2.1) :)) | .minus=>(kh X G (Q (·.1.1.2.1.1.2.2) :)) | .times=>(kh X G (Q (·.1.1.2.1.2.1.1) :)) | .over=>(kh X G (Q (·.1.1.2.1.2.1.2) :)) | .rest=>(kh X G (Q (·.1.1.2.1.2.2.1) :)) | .less=>(kh X G (Q (·.1.1.2.1.2.2.2.1) :))),⟨_,_,(Q (·.1.1.2.2.1.1.1) :),(by first|rfl|decide),.cons ⟨rfl,⟨_,rfl⟩,.ref 127,rfl,λ_ _=>by simp only[At]⟩ (.cons ⟨rfl,⟨_,rfl⟩,.ref 134,rfl,λ_ _=>by simp only[At]⟩ (.cons ⟨rfl,⟨_,rfl⟩,.ref 141,rfl,λ_ _=>by simp only[At]⟩ (.cons ⟨rfl,⟨_,rfl⟩,.ref 148,rfl,λ_ _=>by simp only[At]⟩ (.cons ⟨rfl,⟨_,rfl⟩,.ref 155,rfl,λ_ _=>by simp only[At]⟩ (.cons ⟨rfl,⟨_,rfl⟩,.ref 162,rfl,λ_ _=>by simp only[At]⟩ (.nil)))))),by show ([("plus":Str),("minus":Str),("times":Str),("over":Str),("rest":Str),("less":Str)]).Nodup;decide +kernel⟩⟩⟩;have M5:Xw.Mg5 K mg:=⟨i6,my,i7,dS,wV,wW,gn,pv,Bu,⟨43,kh X G (Q (·.1.1.1.1.2.2.2.1) :),λH=>.inr ⟨_,_,_,(Q (·.1.1.1.1.2.2.2.2) :),rfl,rfl,Gen.cR rfl,.cons ⟨_,rfl⟩ (.cons ⟨_,rfl⟩ (.nil))⟩⟩,⟨42,kh X G (Q (·.1.1.1.2.1.1.1) :),λH=>.inr ⟨_,_,_,(Q (·.1.1.1.2.1.1.2) :),rfl,rfl,Gen.cR rfl,.cons ⟨_,rfl⟩ (.cons ⟨_,rfl⟩ (.cons ⟨_,rfl⟩ (.nil)))⟩⟩⟩;have MF:Lay.MgF mg:=⟨i7⟩;have MLy:Lay.Xy mg:=⟨i6,Ka⟩;have MRu:Rg.MgR mg:=⟨i6,i7,gn⟩;have lC:Rg.SR K mg:=⟨i6,gn,⟨16,kh X G (Q (·.1.1.1.1.2.1.2) :),λH=>.inr ⟨_,_,_,(Q (·.1.1.1.1.2.2.1) :),rfl,rfl,Gen.cR rfl,.cons ⟨_,rfl⟩ (.cons ⟨_,rfl⟩ (.cons ⟨_,rfl⟩ (.nil)))⟩⟩⟩;have FO:Rg.Fos w K mg:=⟨⟨304,247,289,254,261,268,275,282,296,303,(kh X G (Q (·.1.2.1.1.1.1.1) :)),(kh X G (Q (·.1.1.2.2.1.1.2) :)),(kh X G (Q (·.1.1.2.2.1.2.1) :)),(kh X G (Q (·.1.1.2.2.1.2.2.1) :)),(kh X G (Q (·.1.1.2.2.1.2.2.2) :)),(kh X G (Q (·.1.1.2.2.2.1.1) :)),(kh X G (Q (·.1.1.2.2.2.1.2) :)),(kh X G (Q (·.1.1.2.2.2.2.1) :)),(kh X G (Q (·.1.1.2.2.2.2.2.1) :)),(kh X G (Q (·.1.1.2.2.2.2.2.2) :)),⟨_,_,(Q (·.1.2.1.1.1.1.2) :),(by first|rfl|decide),.cons ⟨rfl,⟨_,rfl⟩,.ref 247,rfl,λ_ _=>by simp only[At]⟩ (.cons ⟨rfl,⟨_,rfl⟩,.ref 289,rfl,λ_ _=>by simp only[At]⟩ (.cons ⟨rfl,⟨_,rfl⟩,.ref 254,rfl,λ_ _=>by simp only[At]⟩ (.cons ⟨rfl,⟨_,rfl⟩,.ref 261,rfl,λ_ _=>by simp only[At]⟩ (.cons ⟨rfl,⟨_,rfl⟩,.ref 268,rfl,λ_ _=>by simp only[At]⟩ (.cons ⟨rfl,⟨_,rfl⟩,.ref 254,rfl,λ_ _=>by simp only[At]⟩ (.cons ⟨rfl,⟨_,rfl⟩,.ref 275,rfl,λ_ _=>by simp only[At]⟩ (.cons ⟨rfl,⟨_,rfl⟩,.ref 282,rfl,λ_ _=>by simp only[At]⟩ (.cons ⟨rfl,⟨_,rfl⟩,.ref 296,rfl,λ_ _=>by simp only[At]⟩ (.cons ⟨rfl,⟨_,rfl⟩,.ref 303,rfl,λ_ _=>by simp only[At]⟩ (.cons ⟨rfl,⟨_,rfl⟩,.ref 303,rfl,λ_ _=>by simp only[At]⟩ (.nil))))))))))),by show ([("def":Str),("give":Str),("put":Str),("do":Str),("new":Str),("get":Str),("set":Str),("call":Str),("fail":Str),("if":Str),("while":Str)]).Nodup;decide +kernel⟩⟩⟩;have MG:c5.Mg mg:=⟨i6,my,gn⟩;have MS:Sm.SR mg:=⟨dS,Bt,wV,wW,pv,gn,i6,Bu⟩;have ML:cQ.KP mg:=⟨dS,pv,i6,my,Bt,wV,Ka,gn,Bu⟩;have F:=pL (st:=cQ.mw) (Q (·.2.1.2.2.2.2.2.1) :) (Q (·.2.1.2.2.2.2.2.2) :) (Q (·.2.2.1.1.1.1.1) :);have DL:Df K mg "law" cQ.mw qba 401 _:=⟨F,hfa,F.binds (λ_ _ _ _ _ _=>Yy λ_=>rfl)⟩;refine⟨W.fnOf "law" "law" (cV cQ.mw) (bG cQ.mw) (aj cQ.mw) .none (.none) (.none) (.str "law_slicewise_k15_calls" 694) none (.ref 400) (.none),λs v=>.of_eq rfl,λbase _ _=>?_⟩;have zT:Tk l.prog w base:=trivial;have uv:=dN zT X G (Q (·.2.2.1.1.1.1.2) :) λD=>Nm.ME D M2;have rN:=dM X G (Q (·.2.2.1.1.1.2.1) :) λD=>Nm.yn D M2 uv;have Bw:=dM X G (Q (·.2.2.1.1.1.2.2) :) λD=>UD.yo D MU rN;have N0:=dN zT X G (Q (·.2.2.1.1.2.1.1) :) λD=>Xw.Ia D M5;have wX:=dN zT X G (Q (·.2.2.1.1.2.1.2) :) λD=>Lay.sL D MF;have Kc:=Lay.Ey Fh MLy aB N0 wX;have wY:=dN zT X G (Q (·.2.2.1.1.2.2.1) :) λD=>Nx.sM D aB;have PY:=dN zT X G (Q (·.2.2.1.1.2.2.2.1) :) λD=>kR.AI D MR;have ot:=dN zT X G (Q (·.2.2.1.1.2.2.2.2) :) λD=>kR.vX D MR;have ou:=dM X G (Q (·.2.2.1.2.1.1.1) :) λD=>kR.vY D MR ot;have T5:=dN zT X G (Q (·.2.2.1.2.1.1.2) :) λD=>kR.M6 D MR;have N1:=dN zT X G (Q (·.2.2.1.2.1.2.1) :) λD=>kR.Io D MR;have By:=dM X G (Q (·.2.2.1.2.1.2.2.1) :) λD=>kR.yA D MR PY ou T5 N1;have N2:=Rg.Jb (P:=l.prog) (w:=w) (base:=base) Kb bX;have Bz:=dM X G (Q (·.2.2.1.2.1.2.2.2) :) λD=>Rg.yU D af bX uv;have uw:=dM X G (Q (·.2.2.1.2.2.1.1) :) λD=>Rg.AU D MRu ot rN ou;have Fj:=dM X G (Q (·.2.2.1.2.2.1.2) :) λD=>Rg.AV D (cFrame:=194) af By uw;have gp:=dM X G (Q (·.2.2.1.2.2.2.1) :) λD=>Rg.oP D (cFrame:=194) af wY;have fj:=dM X G (Q (·.2.2.1.2.2.2.2.1) :) λD=>Rg.qX D af bX gp;have zx:=dM X G (Q (·.2.2.1.2.2.2.2.2) :) λD=>Rg.wo D af fj;have Dw:=dM X G (Q (·.2.2.2.1.1.1.1) :) λD=>Rg.Jf D MRu af bX aB N2;have wZ:=dM X G (Q (·.2.2.2.1.1.1.2) :) λD=>Rg.sO D af fj;have w_:=dM X G (Q (·.2.2.2.1.1.2.1) :) λD=>Rg.sP D af uw gp;have sY:=dM X G (Q (·.2.2.2.1.1.2.2) :) λD=>Rg.qY D (cFrame:=194) af aB Dw;have sZ:=dM X G (Q (·.2.2.2.1.2.1.1) :) λD=>Rg.qZ D af bX aB fj;have BA:=dM X G (Q (·.2.2.2.1.2.1.2) :) λD=>Rg.yY D lC af FO Bw Bz Fj gp fj zx sZ wZ w_ sY;have T6:=dM X G (Q (·.2.2.2.1.2.2.1) :) λD=>Rg.Nw D lC af aB BA;have Fl:=Rg.A_ Bv af Kc;have zy:=dM X G (Q (·.2.2.2.1.2.2.2.1) :) λD=>Rg.wA D af aB Fl Dw PY T6;have T7:IE K "run" "run" Rg.gi 324 (W.fnOf "run" "run" (cV Rg.gi) (bG Rg.gi) (aj Rg.gi) (.ref 317) (.none) (.none) (.str "slicewise.runs" 446) none (.ref 323) (.none)):=⟨⟨_,_,_,_,_,_,_,_,_,_,rfl,(Q (·.2.1.2.2.1.2.2.1) :),(Q (·.2.1.2.2.1.2.2.2) :)⟩,(Q (·.2.1.2.2.2.1.1) :)⟩;have T8:Binds K (W.fnOf "run" "run" (cV Rg.gi) (bG Rg.gi) (aj Rg.gi) (.ref 317) (.none) (.none) (.str "slicewise.runs" 446) none (.ref 323) (.none)) qaN []:=CT (m:=3) rfl (Q (·.2.1.2.2.2.1.2) :) rfl rfl (gD.wU λ_=>(gD.wU λ_=>(gD.wU λ_=>(gD.TZ ⟨_,rfl,rfl⟩))));have T9:Binds K (W.fnOf "run" "run" (cV Rg.gi) (bG Rg.gi) (aj Rg.gi) (.ref 317) (.none) (.none) (.str "slicewise.runs" 446) none (.ref 323) (.none)) qaN [.int (200) 678]:=CT (m:=2) rfl (Q (·.2.1.2.2.2.1.2) :) rfl rfl (gD.wU λ_=>(gD.wU λ_=>(gD.TZ ⟨_,rfl,rfl⟩)));have Yz:=Rg.S3 (P:=l.prog) (w:=w) (base:=base) T7 (kh X G (Q (·.2.1.2.2.1.2.1) :)) T8 T9 zy;have rO:=dN zT X G (Q (·.2.2.2.1.2.2.2.2) :) λD=>c5.Bb D MG;have xa:=dN zT X G (Q (·.2.2.2.2.1.1.1) :) λD=>c5.Js D MG;have zz:=dN zT X G (Q (·.2.2.2.2.1.1.2) :) λD=>Sm.Nz D MS;have rP:=dN zT X G (Q (·.2.2.2.2.1.2.1) :) λD=>cQ.AI D;have ow:=dN zT X G (Q (·.2.2.2.2.1.2.2.1) :) λD=>cQ.NM D ML;have xb:=dN zT X G (Q (·.2.2.2.2.1.2.2.2) :) λD=>cQ.JN D ML;have zA:=dM X G (Q (·.2.2.2.2.2.1.1) :) λD=>cQ.NO D ML rP ow xb;have s_:=dM X G (Q (·.2.2.2.2.2.1.2) :) λD=>cQ.E6 D ML ow zA;have jO:=dN zT X G (Q (·.2.2.2.2.2.2.1) :) λD=>cQ.Bl D ML;have BB:=dM X G (Q (·.2.2.2.2.2.2.2.1) :) λD=>cQ.TC D ML jO;have zB:=dM X G (Q (·.2.2.2.2.2.2.2.2) :) λD=>cQ.NW D ML jO BB;exact cQ.TR DL ML rO xa zB rP s_ Yz zz
def walk{l:PySem.W.OpenLaw}{q:Program}{loose:π}{XP:(qae)->Heap->Prop}{d:DefRec}{K:World->Δ}(hn:l.most=some 63)(QR:d.params.defaults=[])(F:∀(w:World) (mg:qae) (fa:Addr) (h:Heap),(K w).In h->h.Ns mainGlobals mg->mg d.name=some (.ref fa) ->
    ∃fd:FuncData,(∀(s:Shared) (u:Value),BindsTo s fd ⟨[u],[]⟩ [("_law_script",u)])/\∀base:Heap,(K w).In base->base.Ns mainGlobals mg->cq l.prog w (K w) mg base eD 10 fa fd qba (di (K w) 1 cQ.NX)) :
  PySem.W.WalkO q loose XP (λw h=>(K w).In h) l.row.toRowW d [] (λf vs=>PySem.call f vs):=by
 refine YW.xA hn QR λw s₀ s₁ mg mb fa o pm cd doc a vs ns G Y ho hd fH V5 QS hints hlen hg=>?_;obtain⟨fd,hb,hF⟩:=F w mg fa _ Y G.T.g V5;exact Gv (CX:=eD) (sp:=di (K w) 1 cQ.NX) (k:=10) Y G.T.g G.T.b G.T.builtins G.T.nolimit hg QS hints (fM hlen (by decide)) ⟨rfl,by decide,by decide⟩ hF hb (λH _ hS=>
  ⟨[.lst (ns.map .int)],[],[],λ_ r=>r=.vw (.bl true),Ft,λ_ z=>(nomatch z),λ_ z=>(nomatch z),iM rfl (az.cons (by
     simp only[At];refine⟨a,ns.map V.int,rfl,hS.imp (λz=>⟨z,λm=>nomatch m⟩) id,?_⟩;clear hS;clear hints hlen;induction ns with
     |nil=>exact az.nil
     |cons n ns ih=>exact az.cons bz ih) az.nil),⟨ns,rfl,hlen,rfl⟩,λus r hr v H' _ z=>by
     subst hr;have:=z.1;simpa only[At] using this⟩) λ_ _ _ z=>z
end gD
open PySem PySem.W PyProof.Rows
set_option maxRecDepth 100000 in
set_option maxHeartbeats 0 in
theorem PySem.Challenge.cw_slicewise_k15_calls_holds : PySem.Challenge.rw_slicewise_k15_calls.Holds := by
 w_on
 refine PySem.W.holds_law gD.T2 λT2=>?_;refine PySem.W.holds_openX (q:=gD.qE) (loose:=gD.rK) (Xt:=HE.L8 gD.qE [] []) (XP:=PySem.W.XL gD.qE []) (d:=gD.dE) (kwd:=[]) (N:=6024) gD.hd.1 (λs e=>PySem.W.xl_of s (Bool.and_eq_true_iff.mp e).1) PySem.W.XL.keeps (by kernel_rfl) (by kernel_rfl) (by kernel_rfl) (λs e=>PySem.W.recFacts_of (Bool.and_eq_true_iff.mp e).2) (by kernel_rfl) T2 (by kernel_rfl) ⟨rfl,rfl,rfl,rfl,rfl,by decide +kernel⟩ ?hw ?hc
 (case hw=>w_witness2)
 exact HE.Hj (gD.walk (l:=PySem.Challenge.rw_slicewise_k15_calls) (K:=gD.KE) rfl rfl (λw mg fa h KX G V5=>gD.T3 KX G V5 (gD.hd.2 w)))
