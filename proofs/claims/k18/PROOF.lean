import PyProof.Rows.All
import Wide.All
import OpenK.AllK
import Wide.FinOn
import Lean
import PyProof.EqAt
import PyProof.EqKinds
import PyProof.TupleCall
import PyProof.NeKinds
import PyProof.Rows.SumAny
import PyProof.StrBlockL
import PyProof.StrBlockI
import PyProof.FitsReplace
import PyProof.Rows.SeqMore
import PyProof.Rows.TupAdd
import PyProof.Draws
import PyProof.ZipIter
import OpenK.ZGo
import PyProof.Rows.SetFrom
import PyProof.SetRoads
import PyProof.ListNew
import PyProof.Rows.SortStr
import PyProof.Rows.SortWalk
import PyProof.IsRules
import KE.KDictLaws
import PyProof.DictWalks
import PyProof.WalkInts
import PyProof.SeqRoads2
import KE.KIntText
import PyProof.StrLawsTight
import PyProof.StrLawsChain
import PyProof.Rows.StrItems
import PyProof.MeetsStr2
import PyProof.StrBlock2
import PyProof.StrCalls6
import PyProof.Rows.StrLawsPart
import PyProof.Rows.CatFin
import PySem.Challenge.RW_slicewise_k18_texts_refused
set_option Elab.async false
set_option linter.all false
set_option genSizeOf false
set_option genSizeOfSpec false
set_option bootstrap.genMatcherCode false
set_option maxRecDepth 100000
set_option maxHeartbeats 8000000
variable{x y qual:PySem.Str}{pos p apos aT p2 p1 pos':PySem.Pos}{w:PySem.World}{a f C S dx:PySem.Addr}{P prog:PySem.Program}{fd:PySem.FuncData}{e b iter:PySem.Expr}{n i c m t' j:Nat}{A:PySem.Around}{base h h':PySem.Heap}{α:Type}{u:PySem.Value}{O:HD}{st:PySem.Stmt}{B:Prop}{s':PySem.Shared}{sc scope:PySem.Scope}{items:Array PySem.Value}
abbrev HD:=List (Option PySem.Addr)
abbrev qaa:=List (PySem.Addr×PySem.Obj)
abbrev qad:=PySem.Value->PySem.Shared->Prop
abbrev qae:=PySem.Str->Option PySem.Value
abbrev qaf:=PySem.W.Frag
abbrev qag:=List PySem.Value
abbrev qah:=List PySem.Addr
abbrev qai:=List PySem.Str
abbrev qan:=List Int
abbrev qao:=List Nat
abbrev qap:=List PySem.Expr
abbrev qaq:=List PySem.Stmt
abbrev qar:=Option PySem.Addr
abbrev qav:List PySem.Str:=["thing"]
abbrev qaw:List PySem.Str:=["opened","word"]
abbrev qax:List PySem.Str:=["program"]
abbrev qay:List PySem.Str:=["self","place"]
abbrev qaz:List PySem.Str:=["program","firsts","place"]
abbrev qaA:List PySem.Str:=["word"]
abbrev qaB:List PySem.Str:=["_law_script","_law_k"]
abbrev qaC:List PySem.Str:=["_law_cell","_law_many"]
abbrev qaD:List PySem.Str:=["_law_number","_law_words_here"]
abbrev qaE:List PySem.Str:=["_law_number","_law_name","_law_words_here","_law_later"]
abbrev qaF:List PySem.Str:=["_law_number","_law_words_here","_law_later"]
abbrev qaG:List PySem.Str:=["_law_rows","_law_stack","_law_cell","_law_words_here","_law_later"]
abbrev qaH:List PySem.Str:=["_law_cell","_law_words_here"]
abbrev qaI:List PySem.Str:=["_law_cells","_law_words_here","_law_plan_here"]
abbrev qaJ:List PySem.Str:=["_law_row"]
abbrev qaK:List PySem.Str:=["_law_cell","_law_name"]
abbrev qaL:List PySem.Str:=["_law_line_here","_law_cell"]
abbrev qaM:List PySem.Str:=["_law_script"]
abbrev fW(x:PySem.Str):Prop:=(x==("__debug__":PySem.Str))=false
abbrev sN(x:PySem.Str):Prop:=(x==("__classdict__":PySem.Str))=false
abbrev bQ:=@List.length_map
abbrev bL:=@List.mem_cons
abbrev cq:=@List.not_mem_nil
abbrev eD:=@PySem.Heap.get?_push_of_some
abbrev eE:=@List.mem_cons_self
abbrev gN:=@List.getElem?_eq_some_iff
abbrev fY:=@List.mem_cons_of_mem
abbrev eJ:=@Bool.and_eq_true
abbrev dP:=@List.map_cons
abbrev kB:=@List.getElem?_eq_getElem
abbrev gE:=@List.all_eq_true
abbrev eG:=@PySem.Heap.lt_size
abbrev gF:=@List.mem_append
abbrev eB:=@Nat.le_refl
abbrev kC:=@List.mem_append_right
abbrev iV:=@Bool.false_ne_true
abbrev iR:=@List.size_toArray
abbrev j5:=@List.mem_append_left
abbrev j6:=@List.length_append
abbrev mn:=@List.mem_of_getElem?
abbrev ic:=@PySem.W.mg_of
abbrev iU:=@PySem.boot_len
abbrev rH:=@PySem.F.slot_list_append
abbrev rJ:=@PySem.F.type_list_append
abbrev mq:=@Int.emod_lt_of_pos
abbrev oQ:=@Bool.and_eq_true_iff
abbrev mf:=@List.getElem?_map
abbrev mh:=@List.append_assoc
abbrev om:=@List.filterMap_cons
abbrev iJ:=@Nat.ne_of_lt
abbrev oq:=@Nat.lt_of_lt_of_le
abbrev wg:=@List.getElem?_append_left
abbrev kD:=@Int.emod_nonneg
abbrev iS:=@List.mem_map
abbrev ph:=@PySem.Heap.get?_push_size
abbrev AL:=@List.getElem?_append_right
abbrev uA:=@List.getElem?_set_ne
abbrev yF:=@List.getElem?_set_self
abbrev rF:=@List.length_cons
abbrev mw:=@Nat.le_trans
abbrev wj:=@List.mem_singleton
abbrev AN:=@Int.eq_ofNat_of_zero_le
abbrev sO:=@List.nodup_cons
abbrev yG:=@PySem.F.called_set
abbrev nU:=@Nat.zero_le
abbrev yH:=@Bool.not_eq_true'
abbrev wm:=@List.map_append
abbrev yN:=@PySem.W.mg_none_of
abbrev AO:=@List.replicate_succ
abbrev DV:=@List.length_replicate
abbrev B_:=@Array.length_toList
abbrev D9:=@List.zipWith_cons_cons
abbrev yO:=@List.getElem_mem
abbrev D_:=@List.zipWith_nil_left
abbrev uB:=@List.map_nil
abbrev wu:=@List.all_cons
abbrev D':=@List.forall_mem_cons
abbrev yI:=@Bool.true_and
abbrev DW:=@Int.toNat_natCast
abbrev DY:=@List.length_drop
abbrev B':=@PySem.Heap.size_push
abbrev Ea:=@List.length_take
abbrev LI:=@PySem.Heap.get?_update_other
abbrev LJ:=@List.take_of_length_le
abbrev HU:=@List.length_range
abbrev DZ:=@Bool.false_and
abbrev AQ:=@List.map_map
abbrev Eb:=@List.length_set
abbrev M9:=@List.getElem?_replicate
abbrev Ca:=@Nat.ne_of_gt
abbrev M_:=@Option.map_eq_some_iff
abbrev Iu:=@List.flatten_cons
abbrev LK:=@PySem.mem_of_lookup
abbrev HV:=@List.append_nil
abbrev HW:=@PySem.PassesOwn.never
abbrev M':=@PySem.Heap.get?_update_self
abbrev Iv:=@List.lookup_cons
abbrev HX:=@List.mem_range
abbrev Na:=@List.dropLast_concat
abbrev Ec:=@List.all_nil
abbrev HY:=@Nat.lt_irrefl
abbrev Nb:=@PySem.Obj.data_mapFields
abbrev Rn:=@List.mem_or_eq_of_mem_set
abbrev Ro:=@List.drop_eq_getElem_cons
abbrev LL:=@PySem.W.kia_one
abbrev QP:=@List.getLast?_concat
abbrev Nc:=@List.count_append
abbrev Rp:=@List.getElem?_cons_zero
abbrev QQ:=@Array.toList_append
abbrev Rq:=@PySem.Calls.callWith_builtin
abbrev UN:=@PyProof.Rows.callWith_type1
abbrev QR:=@PySem.Calls.spliced_cons
abbrev QS:=@List.set_cons_succ
abbrev V0:=@PyProof.Rows.F.plain_set_update_loop
abbrev Nd:=@List.mem_filter
abbrev Rr:=@List.length_singleton
abbrev Nf:=@Bool.eq_iff_iff
abbrev Ru:=@List.mem_iff_getElem?
abbrev Rv:=@PySem.Obj.isFreed_of_fields
abbrev Rx:=@PySem.F.slot_dict_get
abbrev UO:=@PySem.F.slot_tuple_iterator_next
abbrev Ry:=@PySem.Heap.get?_none_of_le
abbrev Rz:=@List.mem_iff_getElem
abbrev RA:=@List.mem_of_mem_drop
abbrev RB:=@PySem.F.excBase_ValueError
abbrev QT:=@Nat.lt_succ_self
abbrev LM:=@PySem.Txt.slice_le
abbrev QU:=@List.cons_append
abbrev QV:=@Option.bind_some
abbrev RC:=@List.map_congr_left
abbrev UP:=@List.filter_eq_self
abbrev V1:=@PyProof.Rows.slot_tuple_getitem
abbrev UQ:=@List.length_eq_zero_iff
abbrev UR:=@PySem.F.plainAttrs_list
abbrev RD:=@PySem.W.callWith_K
abbrev RE:=@List.filterMap_map
abbrev QW:=@List.find?_cons
abbrev US:=@PySem.F.plainAttrs_str
abbrev UT:=@PySem.F.slot_str_split
abbrev RF:=@Nat.lt_succ_of_lt
abbrev UU:=@Array.getElem?_toList
abbrev UW:=@Bool.beq_eq_decide_eq
abbrev QX:=@List.nodup_nil
abbrev UX:=@List.eq_nil_or_concat
abbrev V2:=@List.concat_eq_append
abbrev UY:=@List.take_append_drop
abbrev UZ:=@PySem.Calls.evalArgs_plain
abbrev RG:=@List.drop_length
abbrev U0:=@Bool.or_eq_false_iff
abbrev QY:=@List.any_cons
abbrev V3:=@Array.getElem?_eq_some_iff
abbrev Ng:=@Nat.le_succ
abbrev U1:=@List.toList_toArray
abbrev RH:=@List.nil_append
abbrev V4:=@List.pairwise_iff_getElem
abbrev V5:=@Option.isSome_iff_exists
abbrev V6:=@PySem.F.args_tuple_add_2
abbrev QZ:=@Nat.le_of_eq
abbrev U2:=@List.set_cons_zero
abbrev Q0:=@List.all_map
abbrev U3:=@PySem.Code.quiet_builtin
abbrev U4:=@List.count_eq_zero
abbrev V7:=@PySem.F.args_str_split_2
abbrev V8:=@PySem.F.slot_list_insert
abbrev V9:=@PySem.F.type_list_insert
abbrev RI:=@Bool.and_false
abbrev V_:=@PySem.F.entry_tuple_add
abbrev V':=@PySem.F.args_dict_get_2
abbrev Wa:=@PySem.F.plainAttrs_dict
abbrev Wb:=@PySem.F.entry_str_split
abbrev Wc:=@PySem.F.slot_tuple_add
abbrev Wd:=@List.range_succ_eq_map
abbrev We:=@PySem.F.entry_dict_get
abbrev Wf:=@List.drop_eq_nil_of_le
abbrev RJ:=@Bool.false_or
namespace L2
open PySem PySem.Spec PyProof.Rows
abbrev Key:=Sum Int Str
def sP:Key->Value->Bool
 |.inl k,v=>Value.isInt k v
 |.inr x,v=>Value.isStrOf x v
def Wg(w:World):Key->Int
 |.inl k=>hashInt k
 |.inr x=>hashStr w x
theorem cf:∀{k:Key}{v:Value},sP k v=true->(∃i t,k=Sum.inl i/\v=Value.int i t)\/(∃x t,k=Sum.inr x/\v=Value.str x t)
 |.inl i,v,h=>by obtain⟨t,e⟩:=Value.isInt_shape (k:=i) (v:=v) h;exact .inl ⟨i,t,rfl,e⟩
 |.inr x,v,h=>by obtain⟨t,e⟩:=Value.isStrOf_shape (x:=x) (v:=v) h;exact .inr ⟨x,t,rfl,e⟩
theorem Cb(i:Int)(t:Tok):sP (.inl i) (.int i t)=true:=by simp[sP,Value.isInt]
theorem Cc(x:Str)(t:Tok):sP (.inr x) (.str x t)=true:=by simp[sP,Value.isStrOf]
theorem Nh(a b:Int):decide ((Sum.inl a:Key)=Sum.inl b)=(a==b):=by by_cases e:a=b;subst e;simp;have h:¬ (Sum.inl a:Key)=Sum.inl b:=λq=>e (Sum.inl.inj q);rw[decide_eq_false h];exact (beq_eq_false_iff_ne.mpr e).symm
theorem Ni(a b:Str):decide ((Sum.inr a:Key)=Sum.inr b)=decide (a=b):=by by_cases e:a=b;subst e;simp;have h:¬ (Sum.inr a:Key)=Sum.inr b:=λq=>e (Sum.inr.inj q);rw[decide_eq_false h,decide_eq_false e]
theorem Nj(a:Int)(b:Str):decide ((Sum.inl a:Key)=Sum.inr b)=false:=decide_eq_false (λq=>nomatch q)
theorem Nk(a:Str)(b:Int):decide ((Sum.inr a:Key)=Sum.inl b)=false:=decide_eq_false (λq=>nomatch q)
noncomputable def bH(prog:Program)(w:World):PySem.KeyKind prog w Key where
 is:=sP
 hash:=Wg w
 inj:=λv a b ha hb=>by
  rcases cf ha with⟨i,t,rfl,rfl⟩|⟨x,t,rfl,rfl⟩
  rcases cf hb with⟨j,u,rfl,e⟩|⟨y,u,rfl,e⟩
  injection e with e1 _;rw[e1]
  exact nomatch e;rcases cf hb with⟨j,u,rfl,e⟩|⟨y,u,rfl,e⟩
  exact nomatch e;injection e with e1 _;rw[e1]
 byValue:=λk v h=>by rcases cf h with⟨i,t,rfl,rfl⟩|⟨x,t,rfl,rfl⟩<;>rfl
 pyHash:=λhv h=>by
  rcases cf hv with⟨i,t,rfl,rfl⟩|⟨x,t,rfl,rfl⟩
  exact wpAny_pyHash_int h;exact wpAny_pyHash_str h
 eqBool:=λhu hv h=>by
  rcases cf hu with⟨i,t,rfl,rfl⟩|⟨x,t,rfl,rfl⟩
  rcases cf hv with⟨j,u,rfl,rfl⟩|⟨y,u,rfl,rfl⟩
  rw[Nh] at h;exact wpAny_eqBool_int h;rw[Nj] at h;exact SeqAt.EqAt.int_str i t y u _ _ _ _ h;rcases cf hv with⟨j,u,rfl,rfl⟩|⟨y,u,rfl,rfl⟩
  rw[Nk] at h;exact SeqAt.EqAt.str_int x t j u _ _ _ _ h;rw[Ni] at h;exact wpAny_eqBool_str h
 «strs»:=λk x t v h=>by
  rcases cf h with⟨i,u,rfl,e⟩|⟨y,u,rfl,e⟩
  exact nomatch e;injection e with e1 _
  subst e1;cases v<;>rfl
theorem wx(prog:Program)(w:World)(i:Int)(t:Tok):(bH prog w).is (.inl i) (.int i t)=true:=Cb i t
theorem wy(prog:Program)(w:World)(x:Str)(t:Tok):(bH prog w).is (.inr x) (.str x t)=true:=Cc x t
inductive V where
 |bR|bl (b:Bool)|int (i:Int)|str (x:Str)|Zb (b:Array UInt8)|Zd (b:UInt64)|ref (a:Addr)|ty (n:String)
 deriving DecidableEq
def RelV:V->Value->Prop
 |.bR,u=>u=Value.none
 |.bl b,u=>u=Value.bool b
 |.int i,u=>∃t,u=Value.int i t
 |.str x,u=>∃t,u=Value.str x t
 |.Zb b,u=>∃t,u=Value.bytes b t
 |.Zd b,u=>∃t,u=Value.float b t
 |.ref a,u=>u=Value.ref a
 |.ty n,u=>u=Value.type n
abbrev Vals:List V->qag->Prop:=Paired RelV
theorem Vals.length{xs:List V}{us:qag}(r:Vals xs us):xs.length=us.length:=Paired.length r
theorem Vals.get:∀{xs:List V}{us:qag}{i:Nat}{x:V},Vals xs us->xs[i]?=some x->∃u,us[i]?=some u/\RelV x u
 |_,_,_,_,.nil,e=>by simp at e
 |_,_,0,_,.cons r _,e=>by simp at e;subst e;exact⟨_,rfl,r⟩
 |_,_,i+1,x,.cons _ t,e=>by obtain⟨u,h1,h2⟩:=Vals.get (i:=i) (x:=x) t (by simpa using e);exact⟨u,by simpa using h1,h2⟩
theorem Vals.set{x:V}{u:Value}(r:RelV x u):∀{xs:List V}{us:qag}(i:Nat),Vals xs us->Vals (xs.set i x) (us.set i u)
 |_,_,_,.nil=>.nil
 |_,_,0,.cons _ t=>.cons r t
 |_,_,i+1,.cons q t=>.cons q (Vals.set r i t)
theorem Vals.append:∀{xs ys:List V}{us ws:qag},Vals xs us->Vals ys ws->Vals (xs++ys) (us++ws)
 |_,_,_,_,.nil,s=>s
 |_,_,_,_,.cons r t,s=>.cons r (Vals.append t s)
theorem Vals.take:∀{xs:List V}{us:qag}(n:Nat),Vals xs us->Vals (xs.take n) (us.take n)
 |_,_,0,_=>.nil
 |_,_,_+1,.nil=>.nil
 |_,_,n+1,.cons r t=>.cons r (Vals.take n t)
theorem Vals.drop:∀{xs:List V}{us:qag}(n:Nat),Vals xs us->Vals (xs.drop n) (us.drop n)
 |_,_,0,r=>r
 |_,_,_+1,.nil=>.nil
 |_,_,n+1,.cons _ t=>Vals.drop n t
def mx:Option V->Option Value->Prop
 |some v,some u=>RelV v u
 |none,none=>True
 |_,_=>False
def KV{κ:Type}:List (κ×V)->List (κ×Value)->Prop:=Paired λ(p:κ×V) (q:κ×Value)=>p.1=q.1/\RelV p.2 q.2
noncomputable def kV:Key->V
 |.inl i=>.int i
 |.inr x=>.str x
inductive HO where
 |lst (xs:List V)
 |tup (xs:List V)
 |dK (bE:List (Key×V))|dT (bE:List (List Key×V))
 |set (S:Int->Bool) (n:Nat)
 |ins (C dx:Addr) (fs:List (Str×V))
 |own (x:Addr)
 |xd (fs:List (Str×V))
 |met (f x:Addr)
 |U5 (lo hi:Int)
 |yP (o:Obj) (u:HO)
 |LN (ps:Array Value)
 |ext (φ:Heap->Prop)
abbrev Hp:=Addr->Option HO
def upd(H:Hp)(a:Addr)(o:HO):Hp:=λb=>if b=a then some o else H b
theorem aY{H:Hp}{o:HO}:upd H a o a=some o:=by unfold upd;rw[if_pos rfl]
theorem aH{H:Hp}{b:Addr}{o:HO}(h:b≠a):upd H a o b=H b:=by unfold upd;rw[if_neg h]
theorem Iw{H:Hp}{o u:HO}:upd (upd H a o) a u=upd H a u:=by funext b;unfold upd;split<;>rfl
theorem LO{H:Hp}{b:Addr}{o u:HO}(h:H a=some o)(h':H b=some u)(d:o≠u):a≠b:=by intro e;subst e;rw[h] at h';exact d (Option.some.inj h')
theorem bf{H:Hp}{b:Addr}{o:HO}(h:H a=some o)(h':H b=none):a≠b:=by intro e;subst e;rw[h] at h';cases h'
section
variable(P:Program)(w:World)
def b_(H:Hp)(h:Heap)(a:Addr):HO->Prop
 |.lst xs=>xs.length<=sizeLine/\∃(aK:qag)(n:Nat),Vals xs aK/\h.get? a=some {cls:=.type "list",data:=.seq aK.toArray n}
 |.tup xs=>xs.length<=sizeLine/\∃aK:qag,Vals xs aK/\IsTup h a aK.toArray
 |.dK bE=>bE.length<=sizeLine/\(a==sysModules)=false/\∃vs,KV bE vs/\h.DictOf (bH P w) a vs
 |.dT bE=>bE.length<=sizeLine/\(a==sysModules)=false/\∃xs:List (List Key×Addr×Value),
  Paired (λ(p:List Key×V) (q:List Key×Addr×Value)=>p.1=q.1/\H q.2.1=some (.tup (p.1.map kV))/\RelV p.2 q.2.2) bE xs /\
  ∃o es ep,h.get? a=some o/\o.ExactDict/\o.data=.dict es ep/\es.toList=xs.map (entryOfKey (tupleKind (bH P w)))/\(xs.map (·.1)).Nodup
 |.set S n=>h.SetOf (intKind P w) a S n
 |.ins C dx fs=>H dx=some (.own a)/\fs.length<=1000/\dx≠a/\h.get? a=some (PySem.W.instObj C dx) /\
  ∃mA,h.Ns1 dx mA/\(∀f,mx (fs.lookup f) (mA f))/\PySem.Within mA (fs.map (·.1))
 |.own _=>∃o,h.get? a=some o
 |.xd fs=>∃mA,h.Ns1 a mA/\∀f,mx (fs.lookup f) (mA f)
 |.U5 lo hi=>∃t u v,h.get? a=some {cls:=.type "range",data:=.fields #[.int lo t,.int hi u,.int 1 v]}
 |.yP o u=>h.get? a=some o/\b_ H h a u
 |.LN ps=>h.get? a=some {cls:=.none,data:=.fields ps}
 |.met f x=>h.get? a=some (PySem.W.methodObj (.ref f) (.ref x))
 |.ext φ=>φ h/\(∃o,h.get? a=some o)/\∀h1 h2:Heap,φ h1->(∀o,h1.get? a=some o->h2.get? a=some o)->φ h2
def jL(H:Hp)(h:Heap):Prop:=∀a o,H a=some o->b_ P w H h a o
end
section
variable{H H':Hp}{o:HO}
theorem b_.lt(x:b_ P w H h a o):a<h.objs.size:=by
 cases o with
 |lst xs=>obtain⟨_,_,_,_,e⟩:=x;exact eG e
 |tup xs=>obtain⟨_,_,_,p⟩:=x;exact p.lt
 |dK bE=>obtain⟨_,_,_,_,o,_,_,e,_⟩:=x;exact eG e
 |dT bE=>obtain⟨_,_,_,_,o,_,_,e,_⟩:=x;exact eG e
 |set S n=>obtain⟨o,_,_,_,e,_⟩:=x;exact eG e
 |ins C dx fs=>obtain⟨_,_,_,e,_⟩:=x;exact eG e
 |own y=>obtain⟨_,e⟩:=x;exact eG e
 |xd fs=>obtain⟨_,⟨_,_,_,e,_⟩,_⟩:=x;exact eG e
 |U5 lo hi=>obtain⟨_,_,_,e⟩:=x;exact eG e
 |yP ob u=>obtain⟨e,_⟩:=x;exact eG e
 |LN ps=>exact eG (show h.get? a=some _ from x)
 |met f y=>exact eG (show h.get? a=some _ from x)
 |ext φ=>obtain⟨_,⟨_,e⟩,_⟩:=x;exact eG e
theorem Paired.pj{α β:Type}{F G:α->β->Prop}:∀{l₁:List α}{l₂:List β},Paired F l₁ l₂->(∀a b,F a b->G a b)->Paired G l₁ l₂
 |_,_,.nil,_=>.nil
 |_,_,.cons r t,f=>.cons (f _ _ r) (Paired.pj t f)
theorem b_.ot(x:b_ P w H h a o)(k:∀b u,(b=a\/H b=some (.own a))->h.get? b=some u->h'.get? b=some u)(ho:∀b,H b=some (.own a)->H' b=some (.own a))(ht:∀b xs,H b=some (.tup xs)->H' b=some (.tup xs)):b_ P w H' h' a o:=by
 induction o with
 |lst xs=>obtain⟨z,aK,n,r,e⟩:=x;exact⟨z,aK,n,r,k _ _ (.inl rfl) e⟩
 |tup xs=>obtain⟨z,aK,r,ob,e,c⟩:=x;exact⟨z,aK,r,ob,k _ _ (.inl rfl) e,c⟩
 |dK bE=>obtain⟨z,y,vs,r,ob,es,ep,e,c⟩:=x;exact⟨z,y,vs,r,ob,es,ep,k _ _ (.inl rfl) e,c⟩
 |dT bE=>obtain⟨z,y,xs,r,ob,es,ep,e,c⟩:=x;exact⟨z,y,xs,Paired.pj r λp q z=>⟨z.1,ht _ _ z.2.1,z.2.2⟩,ob,es,ep,k _ _ (.inl rfl) e,c⟩
 |set S n=>obtain⟨ob,es,ep,t,e,c⟩:=x;exact⟨ob,es,ep,t,k _ _ (.inl rfl) e,c⟩
 |ins C dx fs=>obtain⟨d,z,ne,e,mA,⟨od,es,ep,e2,c⟩,r⟩:=x;exact⟨ho _ d,z,ne,k _ _ (.inl rfl) e,mA,⟨od,es,ep,k _ _ (.inr d) e2,c⟩,r⟩
 |own y=>obtain⟨ob,e⟩:=x;exact⟨ob,k _ _ (.inl rfl) e⟩
 |xd fs=>obtain⟨mA,⟨od,es,ep,e,c⟩,r⟩:=x;exact⟨mA,⟨od,es,ep,k _ _ (.inl rfl) e,c⟩,r⟩
 |U5 lo hi=>obtain⟨t,u,v,e⟩:=x;exact⟨t,u,v,k _ _ (.inl rfl) e⟩
 |yP ob u ih=>obtain⟨e,q⟩:=x;exact⟨k _ _ (.inl rfl) e,ih q⟩
 |LN ps=>have e:h.get? a=some {cls:=.none,data:=.fields ps}:=x;show h'.get? a=some {cls:=.none,data:=.fields ps};exact k a _ (.inl rfl) e
 |met f y=>have e:h.get? a=some (PySem.W.methodObj (.ref f) (.ref y)):=x;show h'.get? a=some (PySem.W.methodObj (.ref f) (.ref y));exact k a _ (.inl rfl) e
 |ext φ=>obtain⟨p,⟨o,e⟩,st⟩:=x;exact⟨st _ _ p λo q=>k _ _ (.inl rfl) q,⟨o,k _ _ (.inl rfl) e⟩,st⟩
theorem jL.lt(x:jL P w H h)(e:H a=some o):a<h.objs.size:=(x a o e).lt
theorem jL.fresh(x:jL P w H h)(e:h.objs.size<=a):H a=none:=by
 cases q:H a with
 |none=>rfl
 |some u=>exact absurd (oq (x.lt q) e) (HY _)
theorem jL.kept(x:jL P w H h)(k:∀b u,h.get? b=some u->h'.get? b=some u):jL P w H h':=λa o e=>
 (x a o e).ot (λb u _ q=>k b u q) (λ_ q=>q) λ_ _ q=>q
theorem jL.laid(x:jL P w H h)(k:∀b u,h.get? b=some u->h'.get? b=some u)(hp:h.objs.size<=a)(new:b_ P w (upd H a o) h' a o):jL P w (upd H a o) h':=λb u e=>by have hn:=x.fresh hp;by_cases hb:b=a;subst hb;rw[aY] at e;cases e;exact new;rw[aH hb] at e;exact (x b u e).ot (λc v _ q=>k c v q) (λc q=>by rw[aH (bf q hn)];exact q) λc xs q=>by rw[aH (bf q hn)];exact q
end
def Rd(H:Hp)(a:Addr)(u:HO):Prop:=H a=some u\/∃o,H a=some (.yP o u)
theorem Rd.ok{H:Hp}{u:HO}(r:Rd H a u)(x:jL P w H h):b_ P w H h a u:=by
 obtain r|⟨o,r⟩:=r
 exact x a u r;obtain⟨_,q⟩:=x a _ r;exact q
def RK:Option HO->Prop
 |some (.lst _)=>True
 |some (.dK _)=>True
 |some (.dT _)=>True
 |some (.set _ _)=>True
 |some (.ins _ _ _)=>True
 |some (.ext _)=>True
 |_=>False
section
variable{H:Hp}{x e:Addr}{o':HO}
theorem jL.write(ok:jL P w H h)(mu:RK (H x))(he:e=x\/H e=some (.own x))(k:∀b u,b≠e->h.get? b=some u->h'.get? b=some u)(LP:∃u,h'.get? e=some u)(new:b_ P w (upd H x o') h' x o'):jL P w (upd H x o') h':=λb u q=>by
 have RL:∀c y,H c=some (.own y)->c≠x:=λc y r z=>by subst z;rw[r] at mu;exact mu
 have Wh:∀c xs,H c=some (.tup xs)->c≠x:=λc xs r z=>by subst z;rw[r] at mu;exact mu
 by_cases hb:b=x;subst hb;rw[aY] at q;cases q;exact new;rw[aH hb] at q;by_cases HZ:b=e;have q':H b=some (.own x):=by
  obtain z|z:=he
  exact absurd (HZ.trans z) hb;rw[HZ];exact z
 rw[q] at q';cases q';obtain⟨v,hv⟩:=LP;exact⟨v,by rw[HZ];exact hv⟩;refine (ok b u q).ot (λc v hc r=>k c v ?_ r) (λc r=>by rw[aH (RL c b r)];exact r) λc xs r=>by rw[aH (Wh c xs r)];exact r
 obtain rfl|hc:=hc
 exact HZ;rintro rfl;obtain z|z:=he
 exact RL c b hc z;rw[hc] at z;cases z;exact hb rfl
end
structure Un(fs ex:qah)(H H':Hp)(h h':Heap):Prop where
 keep:∀b o,h.get? b=some o->H b=none->b∉fs->b∉ex->h'.get? b=some o
 slot:∀b o,h.get? b=some o->H b=none->b∈fs->b∉ex->∃sl,h'.get? b=some {o with slots:=sl}
 free:∀b o,h.get? b=some o->H b=none->b∉ex->H' b=none
 there:∀b o,h.get? b=some o->b∉ex->∃o',h'.get? b=some o'
 kH:∀b xs,H b=some (.tup xs)->H' b=some (.tup xs)
 j7:∀b o u,H b=some (.yP o u)->H' b=some (.yP o u)
 kJ:∀b ps,H b=some (.LN ps)->∃more,H' b=some (.LN (ps++more))
section
variable{fs Wi ex ex':qah}{H H1 H2:Hp}{h1 h2:Heap}{x e:Addr}{o:HO}
theorem Un.any(u:Un fs ex H H1 h h1){b:Addr}{ob:Obj}(q:h.get? b=some ob)(n:H b=none)(hx:b∉ex):∃sl,h1.get? b=some {ob with slots:=sl}:=by by_cases hb:b∈fs;exact u.slot b ob q n hb hx;exact⟨ob.slots,u.keep b ob q n hb hx⟩
theorem Un.kept(k:∀b u,h.get? b=some u->h'.get? b=some u):Un fs ex H H h h' :=
 ⟨λb ob q _ _ _=>k b ob q,λb ob q _ _ _=>⟨ob.slots,k b ob q⟩,λ_ _ _ n _=>n,λb ob q _=>⟨ob,k b ob q⟩,λ_ _ q=>q,λ_ _ _ q=>q,λ_ ps q=>⟨#[],by rw[q];simp⟩⟩
theorem Un.refl:Un fs ex H H h h:=Un.kept λ_ _ q=>q
theorem Un.laid(k:∀b u,h.get? b=some u->h'.get? b=some u)(hp:h.objs.size<=a)(hn:H a=none):Un fs ex H (upd H a o) h h' where
 keep:=λb u q _ _ _=>k b u q
 slot:=λb u q _ _ _=>⟨u.slots,k b u q⟩
 free:=λb u q n _=>by rw[aH (iJ (oq (eG q) hp))];exact n
 there:=λb u q _=>⟨u,k b u q⟩
 kH:=λb xs q=>by rw[aH (bf q hn)];exact q
 j7:=λb u xs q=>by rw[aH (bf q hn)];exact q
 kJ:=λb ps q=>⟨#[],by rw[aH (bf q hn),q];simp⟩
theorem Un.write(mu:RK (H x))(he:e=x\/H e=some (.own x))(k:∀b u,b≠e->h.get? b=some u->h'.get? b=some u)(LP:∃u,h'.get? e=some u):Un fs ex H (upd H x o) h h':=by
 have hx:∀b,H b=none->b≠x:=λb n z=>by subst z;rw[n] at mu;exact mu
 have hb:∀b,H b=none->b≠e:=λb n z=>by
  subst z;obtain r|r:=he
  exact hx b n r;rw[n] at r;cases r
 have hm:∀b u,H b=some u->¬ RK (some u)->b≠x:=λb u q nm z=>by subst z;rw[q] at mu;exact nm mu
 refine⟨λb u q n _ _=>k b u (hb b n) q,λb u q n _ _=>⟨u.slots,k b u (hb b n) q⟩,λb u q n _=>by rw[aH (hx b n)];exact n,λb u q _=>?_,
  λb xs q=>by rw[aH (hm b _ q λz=>z)];exact q,λb u xs q=>by rw[aH (hm b _ q λz=>z)];exact q,λb ps q=>⟨#[],by rw[aH (hm b _ q λz=>z),q];simp⟩⟩
 by_cases HZ:b=e;subst HZ;exact LP;exact⟨u,k b u HZ q⟩
end
def U6(h:Heap)(H:Hp):qah:=(List.range h.objs.size).filter λa=>(H a).isSome
def uC(h:Heap)(H:Hp):Heap:=PySem.W.hideAll h (U6 h H)
theorem Cd(h:Heap)(H:Hp):(uC h H).objs.size=h.objs.size:=PySem.W.hideAll_size _ _
theorem Ed{H:Hp}{b:Addr}{o:Obj}(e:h.get? b=some o)(n:H b=none):(uC h H).get? b=some o :=
 PySem.W.hideAll_get _ e λhm=>by have q:(H b).isSome=true:=(Nd.mp hm).2;rw[n] at q;simp at q
theorem Iy{H:Hp}{b:Addr}{o:Obj}(e:(uC h H).get? b=some o):h.get? b=some o/\H b=none:=by
 have e':h.get? b=some o:=PySem.W.of_hideAll (U6 h H) e;refine⟨e',?_⟩;cases q:H b with
 |none=>rfl
 |some x=>have hm:b∈U6 h H:=Nd.mpr ⟨HX.mpr (eG e'),by simp[q]⟩;have z:(uC h H).get? b=none:=PySem.W.hideAll_none (U6 h H) hm;rw[z] at e;cases e
def Iz(g h:Heap)(L:Addr):qaa:=(List.range h.objs.size).filterMap λa=>if a=L\/(g.get? a).isSome=true then none else (h.get? a).map λo=>(a,o)
def rest(g h:Heap)(L d:Addr):qaa:=(Iz g h L).filter λp=>decide (p.1≠d)
structure Mod(K:qaf)(mg:qae)(base:Heap):Prop where
 Nl:K.In base
 glob:base.Ns mainGlobals mg
 blt:∃mb,base.Ns builtinsNs mb/\∀x:Str,x≠"__name__"->mb x=bootBuiltins x
 nolimit:base.NoLimit
structure Cx where
 prog:Program
 w:World
 K:qaf
 mg:qae
 base:Heap
 A:Around
 N:qai
 s₀:Shared
 H₀:Hp
 env:Env
 outer:List Env
 stack:List Env
 ex:qah
 fn:Str->Bool
 calm:Bool
 pn:qaa
 xe:qad
def kK(l:List Env):qah:=l.filterMap (·.frame)
abbrev Cx.fs(X:Cx):qah:=kK X.outer
def pk(sc:Scope)(x:Str):Prop:=sc.names.lookup x=some .local\/sc.names.lookup x=some .cell\/sc.names.lookup x=some .free
def Loc(sc:Scope)(x:Str):Prop:=sc.names.lookup x=some .local\/sc.names.lookup x=some .cell
def Look(env:Env)(h:Heap)(m:qae)(x:Str)(u:Value):Prop :=
 (env.kindOf x=some .local/\m x=some u)\/((env.kindOf x=some .cell\/env.kindOf x=some .free)/\∃c,env.cells.lookup x=some c/\h.IsCell c (some u))
structure Cx.Ok(X:Cx):Prop where
 mod:Mod X.K X.mg X.base
 kind:X.env.scope.kind=.function
 glob:X.env.globals=mainGlobals
 blt:X.env.builtins=builtinsNs
 above:X.s₀.heap.objs.size<=X.env.locals
 inj:∀x y c,X.env.cells.lookup x=some c->X.env.cells.lookup y=some c->x=y
 has:∀x,(X.env.kindOf x=some .cell\/X.env.kindOf x=some .free)->∃c,X.env.cells.lookup x=some c
 Q1:∀x c,X.fn x=true->X.env.cells.lookup x=some c->X.s₀.heap.objs.size<=c
 hd:X.calm=true->X.A.handled=none
 frames:X.A.frames=some X.stack
 RM:X.stack=X.outer\/(X.stack=X.env::X.outer/\X.env.frame=some X.env.locals)
 Wj:∀b∈X.ex,b≠X.env.locals/\∀x c,X.env.cells.lookup x=some c->c≠b
 bs:∀b o,X.base.get? b=some o->X.s₀.heap.get? b=some o/\X.H₀ b=none
 H_:X.base.objs.size<=X.s₀.heap.objs.size
 Ce:∀b o,X.base.get? b=some o->b∉X.ex
 Ee:∀b∈X.ex,b∉X.fs
 my:X.s₀.heap.FunFrames X.base X.outer
 LQ:∀b∈X.fs,X.H₀ b=none
structure Inv(X:Cx)(pins:qaa)(σ:List (Option V))(H:Hp)(s:Shared):Prop where
 ok:X.Ok
 os:s.os=X.s₀.os
 bare:AllBare s.gens
 base:Un X.fs X.ex X.H₀ H X.s₀.heap s.heap
 loc:∃m,s.heap.Ns X.env.locals m/\∀(i:Nat)(x:Str)(v:V),X.N[i]?=some x->σ[i]?=some (some v)->pk X.env.scope x->∃u,RelV v u/\Look X.env s.heap m x u
 cell:∀x c,X.env.cells.lookup x=some c->∃v,s.heap.IsCell c v
 free:H X.env.locals=none
 fK:∀x c,X.env.cells.lookup x=some c->H c=none
 pin:∀p∈X.pn++pins,s.heap.get? p.1=some p.2/\H p.1=none/\p.1≠X.env.locals/\p.1∉X.fs/\∀v,p.2.data≠.cell v
 bG:jL X.prog X.w H s.heap
 len:σ.length=X.N.length
section
variable{X:Cx}{pins:qaa}{σ:List (Option V)}{H H':Hp}{s:Shared}
theorem Cx.Ok.IA(ok:X.Ok){b:Addr}{o:Obj}(e:X.base.get? b=some o):b∉X.fs:=λhb=>by have:=(ok.my.mem hb).1;rw[e] at this;cases this
theorem Inv.bs(I:Inv X pins σ H s):∀b o,X.base.get? b=some o->s.heap.get? b=some o/\H b=none:=λb o e=>
 ⟨I.base.keep b o (I.ok.bs b o e).1 (I.ok.bs b o e).2 (I.ok.IA e) (I.ok.Ce b o e),I.base.free b o (I.ok.bs b o e).1 (I.ok.bs b o e).2 (I.ok.Ce b o e)⟩
theorem Inv.bk(I:Inv X pins σ H s):∀b o,X.base.get? b=some o->s.heap.get? b=some o:=λb o e=>(I.bs b o e).1
theorem Inv.mod(I:Inv X pins σ H s):Mod X.K X.mg X.base:=I.ok.mod
theorem Inv.jS(I:Inv X pins σ H s):X.K.In s.heap:=I.ok.mod.Nl.keeps I.bk
theorem Inv.lt(I:Inv X pins σ H s):X.env.locals<s.heap.objs.size:=let ⟨_,hn,_⟩:=I.loc;hn.lt
theorem Inv.sz(I:Inv X pins σ H s):X.s₀.heap.objs.size<=s.heap.objs.size:=mw I.ok.above (Nat.le_of_lt I.lt)
theorem Inv.Wl(I:Inv X pins σ H s)(h:s.heap.objs.size<=a):a∉X.fs:=λhb=>by obtain⟨_,o,ho,_⟩:=I.ok.my.mem hb;exact absurd (oq (eG ho) (mw I.sz h)) (HY _)
theorem Inv.Ef(I:Inv X pins σ H s):∀x c,X.env.cells.lookup x=some c->c≠X.env.locals:=λx c e z=>by obtain⟨v,o,ho,hd⟩:=I.cell x c e;obtain⟨m,⟨o',es,ep,wz,hd',_⟩,_⟩:=I.loc;rw[z,wz] at ho;cases ho;rw[hd'] at hd;cases hd
theorem Inv.my(I:Inv X pins σ H s):s.heap.FunFrames X.base X.outer:=by
 have all:∀(l:List Env),(∀b∈kK l,b∈X.fs)->X.s₀.heap.FunFrames X.base l->s.heap.FunFrames X.base l:=by
  intro l;induction l with
  |nil=>intro _ _;trivial
  |cons env r ih=>intro hs hl;obtain⟨hk,⟨L,o,hf,hn,ho,hd⟩,hr⟩:=hl;have hL:L∈X.fs:=hs L (by unfold kK;rw[om,hf];exact eE);obtain⟨sl,e⟩:=I.base.slot L o ho (I.ok.LQ L hL) hL λz=>I.ok.Ee L z hL;exact⟨hk,⟨L,_,hf,hn,e,hd⟩,ih (λb hb=>hs b (by unfold kK;rw[om,hf];exact fY _ hb)) hr⟩
 exact all X.outer (λ_ hb=>hb) I.ok.my
theorem Inv.stack(I:Inv X pins σ H s):s.heap.FunFrames X.base X.stack:=by
 obtain e|⟨e,hf⟩:=I.ok.RM
 rw[e];exact I.my;rw[e];obtain⟨m,hn,_⟩:=I.loc;refine .cons (by rw[I.ok.kind];decide) hf hn ?_ I.my;exact Ry (mw I.ok.H_ I.ok.above)
theorem Inv.yQ(I:Inv X pins σ H s):∀b∈kK X.stack,b∈X.env.locals::X.fs:=λb hb=>by
 obtain e|⟨e,hf⟩:=I.ok.RM
 rw[e] at hb;exact fY _ hb;rw[e] at hb;unfold kK at hb;rw[om,hf] at hb;exact hb
theorem Inv.oR(I:Inv X pins σ H s):∀b∈kK X.stack,H b=none:=λb hb=>by
 rcases bL.mp (I.yQ b hb) with e|hb
 rw[e];exact I.free;obtain⟨_,o,ho,_⟩:=I.ok.my.mem hb;exact I.base.free b o ho (I.ok.LQ b hb) λz=>I.ok.Ee b z hb
theorem Inv.step{g':Array GenState}{d':Drawn}{ch:qah}(I:Inv X pins σ H s)(D0:∀b∈ch,(b∈X.ex\/X.s₀.heap.objs.size<=b)/\b≠X.env.locals/\(∀x c,X.env.cells.lookup x=some c->c≠b)/\∀p∈X.pn++pins,p.1≠b)(keep:∀b o,b≠X.env.locals->b∉X.fs->b∉ch->s.heap.get? b=some o->H b=none->h'.get? b=some o)(slot:∀b o,b≠X.env.locals->b∈X.fs->b∉ch->s.heap.get? b=some o->H b=none->∃sl,h'.get? b=some {o with slots:=sl})(free:∀b o,b∉ch->s.heap.get? b=some o->H b=none->H' b=none)(there:∀b o,b∉ch->s.heap.get? b=some o->∃o',h'.get? b=some o')(kH:∀b xs,H b=some (.tup xs)->H' b=some (.tup xs))(j7:∀b o u,H b=some (.yP o u)->H' b=some (.yP o u))(kJ:∀b ps,H b=some (.LN ps)->∃more,H' b=some (.LN (ps++more)))(ns:∀m,s.heap.Ns X.env.locals m->h'.Ns X.env.locals m)(bG:jL X.prog X.w H' h')(hg:AllBare g') :
  Inv X pins σ H' {s with heap:=h',gens:=g',drawn:=d',toks:=t'}:=by
 have Ze:∀b o,X.s₀.heap.get? b=some o->b≠X.env.locals:=λb o e=>iJ (oq (eG e) I.ok.above);have U7:∀b o,X.s₀.heap.get? b=some o->b∉X.ex->b∉ch:=λb o e hx hb=>by
  rcases (D0 b hb).1 with z|z
  exact hx z;exact absurd (oq (eG e) z) (HY _)
 have cellK:∀x c,X.env.cells.lookup x=some c->∀v,s.heap.IsCell c v->h'.IsCell c v:=λx c e v ⟨o,ho,hd⟩=>by have Eg:c∉ch:=λz=>(D0 c z).2.2.1 x c e rfl;by_cases hc:c∈X.fs;obtain⟨sl,q⟩:=slot c o (I.Ef x c e) hc Eg ho (I.fK x c e);exact⟨_,q,hd⟩;exact⟨o,keep c o (I.Ef x c e) hc Eg ho (I.fK x c e),hd⟩
 refine⟨I.ok,I.os,hg,⟨λb o e n hb hx=>?_,λb o e n hb hx=>?_,λb o e n hx=>?_,λb o e hx=>?_,λb xs e=>kH b xs (I.base.kH b xs e),λb o xs e=>j7 b o xs (I.base.j7 b o xs e),λb ps e=>?_⟩,?_,λx c e=>?_,?_,λx c e=>?_,λp hp=>?_,bG,I.len⟩;exact keep b o (Ze b o e) hb (U7 b o e hx) (I.base.keep b o e n hb hx) (I.base.free b o e n hx);obtain⟨sl,e1⟩:=I.base.slot b o e n hb hx;obtain⟨sl',e2⟩:=slot b _ (Ze b o e) hb (U7 b o e hx) e1 (I.base.free b o e n hx);exact⟨sl',e2⟩;obtain⟨o',e1⟩:=I.base.there b o e hx;exact free b o' (U7 b o e hx) e1 (I.base.free b o e n hx);obtain⟨o',e1⟩:=I.base.there b o e hx;exact there b o' (U7 b o e hx) e1;obtain⟨m1,e1⟩:=I.base.kJ b ps e;obtain⟨m2,e2⟩:=kJ b _ e1;exact⟨m1++m2,by rw[e2,Array.append_assoc]⟩;obtain⟨m,hn,hl⟩:=I.loc;refine⟨m,ns m hn,λi x v e1 e2 e3=>?_⟩;obtain⟨u,r,l⟩:=hl i x v e1 e2 e3;refine⟨u,r,?_⟩;obtain l|⟨k,c,e,z⟩:=l
 exact .inl l;exact .inr ⟨k,c,e,cellK x c e _ z⟩;obtain⟨v,z⟩:=I.cell x c e;exact⟨v,cellK x c e v z⟩;obtain⟨m,⟨o,_,_,ho,_⟩,_⟩:=I.loc;exact free _ o (λz=>(D0 _ z).2.1 rfl) ho I.free;obtain⟨v,o,ho,hd⟩:=I.cell x c e;exact free c o (λz=>(D0 c z).2.2.1 x c e rfl) ho (I.fK x c e);obtain⟨e,n,ne,nf,d⟩:=I.pin p hp;have Eg:p.1∉ch:=λz=>(D0 p.1 z).2.2.2 p hp rfl;exact⟨keep p.1 p.2 ne nf Eg e n,free p.1 p.2 Eg e n,ne,nf,d⟩
theorem Inv.un(I:Inv X pins σ H s)(u:Un X.fs [] H H' s.heap h')(bG:jL X.prog X.w H' h'):Inv X pins σ H' {s with heap:=h',toks:=t'}:=by
 obtain⟨m,⟨o,es,ep,ho,r⟩,_⟩:=id I.loc;obtain⟨sl,hL⟩:=u.any ho I.free (by simp);exact I.step (g':=s.gens) (d':=s.drawn) (ch:=[]) (λ_ z=>nomatch z) (λb o _ hb _ e n=>u.keep b o e n hb (by simp)) (λb o _ hb _ e n=>u.slot b o e n hb (by simp)) (λb o _ e n=>u.free b o e n (by simp)) (λb o _ e=>u.there b o e (by simp)) u.kH u.j7 u.kJ (λm' hm=>by obtain⟨o',Wm,RN,wz,r'⟩:=hm;rw[ho] at wz;cases wz;exact⟨_,Wm,RN,hL,r'⟩) bG I.bare
theorem Inv.call{g':Array GenState}{d':Drawn}{ch:qah}(I:Inv X pins σ H s)(u:Un (kK X.stack) ch H H' s.heap h')(bG:jL X.prog X.w H' h')(hg:AllBare g')(D0:∀b∈ch,(b∈X.ex\/X.s₀.heap.objs.size<=b)/\b≠X.env.locals/\(∀x c,X.env.cells.lookup x=some c->c≠b)/\∀p∈X.pn++pins,p.1≠b) :
  Inv X pins σ H' {s with heap:=h',gens:=g',drawn:=d',toks:=t'}:=by
 obtain⟨m,⟨o,es,ep,ho,r⟩,_⟩:=id I.loc;obtain⟨sl,hL⟩:=u.any ho I.free λz=>(D0 _ z).2.1 rfl;exact I.step (ch:=ch) D0 (λb o hL hb hc e n=>u.keep b o e n (λz=>(bL.mp (I.yQ b z)).elim hL hb) hc) (λb o _ _ hc e n=>u.any e n hc) (λb o hc e n=>u.free b o e n hc) (λb o hc e=>u.there b o e hc) u.kH u.j7 u.kJ (λm' hm=>by obtain⟨o',Wm,RN,wz,r'⟩:=hm;rw[ho] at wz;cases wz;exact⟨_,Wm,RN,hL,r'⟩) bG hg
theorem Inv.turned{it:Addr}(I:Inv X pins σ H s)(k:∀b o,b≠it->s.heap.get? b=some o->h'.get? b=some o)(hn:H it=none)(hL:it≠X.env.locals)(h1:it∈X.ex\/X.s₀.heap.objs.size<=it)(h2:∀x c,X.env.cells.lookup x=some c->c≠it)(h3:∀p∈X.pn++pins,p.1≠it):Inv X pins σ H {s with heap:=h',toks:=t'}:=by
 have Zf:∀b u,H b=some u->b≠it:=λb u e z=>by rw[z,hn] at e;cases e
 refine I.step (g':=s.gens) (d':=s.drawn) (ch:=[it]) (λb hb=>?_) (λb o _ _ hc e _=>k b o (λz=>hc (by simp[z])) e) (λb o _ _ hc e _=>⟨o.slots,k b o (λz=>hc (by simp[z])) e⟩) (λ_ _ _ _ n=>n)
  (λb o hc e=>⟨o,k b o (λz=>hc (by simp[z])) e⟩) (λ_ _ e=>e) (λ_ _ _ e=>e) (λb ps e=>⟨#[],by rw[e];simp⟩) (λm hm=>?_) (λb u e=>?_) I.bare
 have e:b=it:=by simpa using hb
 subst e;exact⟨h1,hL,h2,h3⟩;obtain⟨o,es,ep,ho,r⟩:=hm;exact⟨o,es,ep,k _ o (Ne.symm hL) ho,r⟩;refine (I.bG b u e).ot (λc v hc q=>k c v ?_ q) (λ_ q=>q) λ_ _ q=>q;obtain z|z:=hc
 rw[z];exact Zf b u e;exact Zf c _ z
theorem Inv.tok(I:Inv X pins σ H s)(t:Nat):Inv X pins σ H {s with toks:=t}:=I.un (h':=s.heap) (t':=t) Un.refl I.bG
theorem Inv.kept(I:Inv X pins σ H s)(k:∀b u,s.heap.get? b=some u->h'.get? b=some u):Inv X pins σ H {s with heap:=h',toks:=t'}:=I.un (Un.kept k) (I.bG.kept k)
theorem Inv.laid{o:HO}(I:Inv X pins σ H s)(k:∀b u,s.heap.get? b=some u->h'.get? b=some u)(hp:s.heap.objs.size<=a)(new:b_ X.prog X.w (upd H a o) h' a o) :
 Inv X pins σ (upd H a o) {s with heap:=h',toks:=t'}:=I.un (Un.laid k hp (I.bG.fresh hp)) (I.bG.laid k hp new)
theorem Inv.write{x e:Addr}{o:HO}(I:Inv X pins σ H s)(mu:RK (H x))(he:e=x\/H e=some (.own x))(k:∀b u,b≠e->s.heap.get? b=some u->h'.get? b=some u)(LP:∃u,h'.get? e=some u)(new:b_ X.prog X.w (upd H x o) h' x o):Inv X pins σ (upd H x o) {s with heap:=h',toks:=t'}:=I.un (Un.write mu he k LP) (I.bG.write mu he k LP new)
theorem Inv.weak{σ':List (Option V)}(I:Inv X pins σ H s)(hl:σ'.length=σ.length)(w:∀(i:Nat) v,σ'[i]?=some (some v)->σ[i]?=some (some v)):Inv X pins σ' H s :=
 ⟨I.ok,I.os,I.bare,I.base,let ⟨m,hn,Wn⟩:=I.loc;⟨m,hn,λi x v e1 e2 e3=>Wn i x v e1 (w i v e2) e3⟩,I.cell,I.free,I.fK,I.pin,I.bG,hl.trans I.len⟩
theorem Inv.AR{AS:qaa}(I:Inv X pins σ H s)(h:∀p∈AS,s.heap.get? p.1=some p.2/\H p.1=none/\p.1≠X.env.locals/\p.1∉X.fs/\∀v,p.2.data≠.cell v):Inv X AS σ H s :=
 ⟨I.ok,I.os,I.bare,I.base,I.loc,I.cell,I.free,I.fK,λp hp=>(gF.mp hp).elim (λz=>I.pin p (j5 _ z)) (h p),I.bG,I.len⟩
theorem pq{N:qai}(hN:N.Nodup)(a:N[i]?=some x)(b:N[j]?=some x):i=j:=by obtain⟨h1,e1⟩:=gN.mp a;obtain⟨h2,e2⟩:=gN.mp b;exact (List.getElem_inj hN).mp (e1.trans e2.symm)
theorem sQ{M:Model}{E:qad}{v:V}{Q:Unit->Shared->Prop}(I:Inv X pins σ H s)(hN:X.N.Nodup)(hi:X.N[i]?=some x)(hx:Loc X.env.scope x)(r:RelV v u)(h:∀s',Inv X pins (σ.set i (some v)) H s'->(∃a,Heap.SameBut a s.heap s'.heap/\(a=X.env.locals\/X.env.cells.lookup x=some a))->Q () s')(hf:X.fn x=true\/X.env.scope.names.lookup x=some .local:=by first|exact .inl rfl|exact .inr rfl|assumption):wpAny M A (storeName X.env x u) Q E s:=by
 obtain⟨m,hn,hl⟩:=id I.loc;have Nm:(X.env.scope.kind==.class || (X.env.scope.kind==.module && X.env.locals != X.env.globals))=false:=by rw[I.ok.kind];rfl
 have U8:i<σ.length:=by rw[I.len];exact (gN.mp hi).1
 have Ef:=I.Ef;have tracked:∀{a:Addr}{h':Heap},(∃o,s.heap.get? a=some o/\H a=none)->Heap.SameBut a s.heap h'->jL X.prog X.w H h':=λ{a h'} ha hs b ob e=>by
  obtain⟨_,_,LR⟩:=ha;refine (I.bG b ob e).ot (λc w' hc q=>(hs.2 c ?_).trans q) (λ_ q=>q) λ_ _ q=>q;rintro rfl;obtain rfl|hc:=hc
  rw[LR] at e;cases e;rw[LR] at hc;cases hc
 obtain hk|hk:=hx
 refine wpAny_storeName_local hk hn (λh' Nn hs=>?_) Nm;obtain⟨oL,_,_,Zg,_⟩:=id hn;refine h _ ⟨I.ok,I.os,I.bare,⟨λb o e n hb hx=>?_,λb o e n hb hx=>?_,I.base.free,λb o e hx=>?_,I.base.kH,I.base.j7,I.base.kJ⟩,⟨_,Nn,λj y v' e1 e2 e3=>?_⟩,λy c e=>?_,I.free,I.fK,λp hp=>?_,tracked ⟨oL,Zg,I.free⟩ hs,by simpa using I.len⟩ ⟨_,hs,.inl rfl⟩;exact (hs.2 b (iJ (oq (eG e) I.ok.above))).trans (I.base.keep b o e n hb hx);obtain⟨sl,e1⟩:=I.base.slot b o e n hb hx;exact⟨sl,(hs.2 b (iJ (oq (eG e) I.ok.above))).trans e1⟩;obtain⟨o',e1⟩:=I.base.there b o e hx;exact⟨o',(hs.2 b (iJ (oq (eG e) I.ok.above))).trans e1⟩;by_cases hj:j=i;subst hj;rw[hi] at e1;cases e1;rw[yF U8] at e2;cases e2;exact⟨u,r,.inl ⟨hk,by simp⟩⟩;rw[uA (Ne.symm hj)] at e2;obtain⟨u',r',q⟩:=hl j y v' e1 e2 e3;refine⟨u',r',?_⟩;obtain⟨k,e⟩|⟨k,c,e,z⟩:=q
 refine .inl ⟨k,?_⟩;have:y≠x:=λe=>hj (pq hN e1 (e▸hi));simp[this,e];exact .inr ⟨k,c,e,z.sameBut hs (Ef y c e)⟩;obtain⟨w',z⟩:=I.cell y c e;exact⟨w',z.sameBut hs (Ef y c e)⟩;obtain⟨e,n,ne,nf,d⟩:=I.pin p hp;exact⟨(hs.2 p.1 ne).trans e,n,ne,nf,d⟩;have Wo:X.fn x=true:=by
  obtain z|z:=hf
  exact z;rw[z] at hk;cases hk
 obtain⟨c,hc⟩:=I.ok.has x (.inl hk);obtain⟨w',z⟩:=I.cell x c hc;refine wpAny_storeName_cell I.ok.kind hk hc z (λh' RO hs=>?_);obtain⟨oc,Zh,Wq⟩:=id z;refine h {s with heap:=h'} ⟨I.ok,I.os,I.bare,⟨λb o e n hb hx=>?_,λb o e n hb hx=>?_,I.base.free,λb o e hx=>?_,I.base.kH,I.base.j7,I.base.kJ⟩,⟨m,hn.sameBut hs (Ne.symm (Ef x c hc)),λj y v' e1 e2 e3=>?_⟩,λy c' e=>?_,I.free,I.fK,λp hp=>?_,tracked ⟨oc,Zh,I.fK x c hc⟩ hs,by simpa using I.len⟩ ⟨c,hs,.inr hc⟩;exact (hs.2 b (iJ (oq (eG e) (I.ok.Q1 x c Wo hc)))).trans (I.base.keep b o e n hb hx);obtain⟨sl,e1⟩:=I.base.slot b o e n hb hx;exact⟨sl,(hs.2 b (iJ (oq (eG e) (I.ok.Q1 x c Wo hc)))).trans e1⟩;obtain⟨o',e1⟩:=I.base.there b o e hx;exact⟨o',(hs.2 b (iJ (oq (eG e) (I.ok.Q1 x c Wo hc)))).trans e1⟩;by_cases hj:j=i;subst hj;rw[hi] at e1;cases e1;rw[yF U8] at e2;cases e2;exact⟨u,r,.inr ⟨.inl hk,c,hc,RO⟩⟩;rw[uA (Ne.symm hj)] at e2;obtain⟨u',r',q⟩:=hl j y v' e1 e2 e3;refine⟨u',r',?_⟩;obtain q|⟨k,c',e,z'⟩:=q
 exact .inl q;refine .inr ⟨k,c',e,z'.sameBut hs ?_⟩;rintro rfl;exact hj (pq hN e1 (I.ok.inj _ _ _ e hc▸hi));by_cases Zi:c'=c;subst Zi;exact⟨_,RO⟩;obtain⟨w2,z2⟩:=I.cell y c' e;exact⟨w2,z2.sameBut hs Zi⟩;obtain⟨e,n,ne,nf,d⟩:=I.pin p hp;refine⟨(hs.2 p.1 ?_).trans e,n,ne,nf,d⟩;intro q;rw[q,Zh] at e;have q':oc=p.2:=Option.some.inj e;exact d w' (by rw[<- q'];exact Wq)
theorem kL{M:Model}{E:qad}{v:V}{Q:Unit->Shared->Prop}(I:Inv X pins σ H s)(hN:X.N.Nodup)(hi:X.N[i]?=some x)(hx:Loc X.env.scope x)(r:RelV v u)(h:∀s',Inv X pins (σ.set i (some v)) H s'->Q () s')(hf:X.fn x=true\/X.env.scope.names.lookup x=some .local:=by first|exact .inl rfl|exact .inr rfl|assumption):wpAny M A (storeName X.env x u) Q E s :=
 sQ I hN hi hx r (λs' I' _=>h s' I') hf
theorem Inv.Eh{ch:qah}(I:Inv X pins σ H s)(ho:s'.os=s.os)(u:Un (kK X.stack) ch H H' s.heap s'.heap)(bG:jL X.prog X.w H' s'.heap)(hg:AllBare s'.gens)(D0:∀b∈ch,(b∈X.ex\/X.s₀.heap.objs.size<=b)/\b≠X.env.locals/\(∀x c,X.env.cells.lookup x=some c->c≠b)/\∀p∈X.pn++pins,p.1≠b):Inv X pins σ H' s':=by obtain⟨h',g',d',t',o'⟩:=s';have e:o'=s.os:=ho;subst e;exact I.call (g':=g') (t':=t') (d':=d') u bG hg D0
end
abbrev XK:=Value->qar->Hp->Prop
abbrev St:=List (Option V)
abbrev VK:=V->Hp->Prop
abbrev TE:=St->Hp->VK->Prop
abbrev TT:=St->Hp->(Bool->Hp->Prop)->Prop
abbrev TA:=St->Hp->(List V->Hp->Prop)->Prop
structure Ends where
 nx:St->Hp->Prop
 rt:VK
 bk:St->Hp->Prop:=λ_ _=>False
 ct:St->Hp->Prop:=λ_ _=>False
abbrev TS:=Ends->St->Hp->Prop
def EP(X:Cx)(pins:qaa)(σ:St)(Q:VK)(u:Value)(s':Shared):Prop:=∃v H',Inv X pins σ H' s'/\RelV v u/\Q v H'
def TP(X:Cx)(pins:qaa)(σ:St)(Q:Bool->Hp->Prop)(b:Bool)(s':Shared):Prop:=∃H',Inv X pins σ H' s'/\Q b H'
def AP(X:Cx)(pins:qaa)(σ:St)(Q:List V->Hp->Prop)(us:qag)(s':Shared):Prop:=∃vs H',Inv X pins σ H' s'/\Vals vs us/\Q vs H'
def SP(X:Cx)(pins:qaa)(D:Ends)(f:Flow)(s':Shared):Prop :=
 match f with
 |.next=>∃σ' H',Inv X pins σ' H' s'/\D.nx σ' H'
 |.brk=>∃σ' H',Inv X pins σ' H' s'/\D.bk σ' H'
 |.cont=>∃σ' H',Inv X pins σ' H' s'/\D.ct σ' H'
 |.ret u=>∃v σ' H',Inv X pins σ' H' s'/\RelV v u/\D.rt v H'
def PE(X:Cx)(e:Expr)(t:TE):Prop :=
 ∀(pins:qaa)(s:Shared)(σ:St)(H:Hp)(Q:VK),Inv X pins σ H s->t σ H Q->wpAny (model X.prog X.w) X.A (eval e X.env) (EP X pins σ Q) X.xe s
def PT(X:Cx)(e:Expr)(t:TT):Prop :=
 ∀(pins:qaa)(s:Shared)(σ:St)(H:Hp)(Q:Bool->Hp->Prop),Inv X pins σ H s->t σ H Q->wpAny (model X.prog X.w) X.A (isTrue e X.env (eval e X.env)) (TP X pins σ Q) X.xe s
def PW(X:Cx)(e:Expr)(t:TT):Prop :=
 ∀(whole:Sem Value)(pins:qaa)(s:Shared)(σ:St)(H:Hp)(Q:Bool->Hp->Prop),Inv X pins σ H s->t σ H Q->wpAny (model X.prog X.w) X.A (isTrue e X.env whole) (TP X pins σ Q) X.xe s
theorem PW.pt{X:Cx}{t:TT}(h:PW X e t):PT X e t:=h _
def PA(X:Cx)(es:qap)(t:TA):Prop :=
 ∀(pos:Pos)(pins:qaa)(s:Shared)(σ:St)(H:Hp)(Q:List V->Hp->Prop),Inv X pins σ H s->t σ H Q->wpAny (model X.prog X.w) X.A (spliced (backTo pos (starEach es X.env))) (AP X pins σ Q) X.xe s
def PS(X:Cx)(st:Stmt)(t:TS):Prop :=
 ∀(pins:qaa)(s:Shared)(σ:St)(H:Hp)(D:Ends),Inv X pins σ H s->t D σ H->wpAny (model X.prog X.w) X.A (exec st X.env) (SP X pins D) X.xe s
def oU(X:Cx)(st:qaq)(t:TS):Prop :=
 ∀(pins:qaa)(s:Shared)(σ:St)(H:Hp)(D:Ends),Inv X pins σ H s->t D σ H->wpAny (model X.prog X.w) X.A (execs st X.env) (SP X pins D) X.xe s
theorem cm{t:Sem α}{Q Q':α->Shared->Prop}{M:Model}{E:qad}{s:Shared}(h:wpAny M A t Q E s)(hQ:∀a s,Q a s->Q' a s):wpAny M A t Q' E s:=wpAny_mono h hQ λ_ _ x=>x
section
variable{X:Cx}
def Np(i:Nat):TE:=λσ H Q=>∃v,σ[i]?=some (some v)/\Q v H
def tC(v:V):TE:=λ_ H Q=>Q v H
theorem dQ(hN:X.N[i]?=some x)(hv:pk X.env.scope x)(hd:fW x:=by decide)(gM:sN x:=by decide):PE X (.Name x pos) (Np i):=by
 intro pins s σ H Q I h;obtain⟨v,e,h⟩:=h;obtain⟨m,hn,hl⟩:=I.loc;obtain⟨u,r,l⟩:=hl i x v hN e hv;have fin:EP X pins σ Q u s:=⟨v,H,I,r,h⟩;obtain⟨hk,hm⟩|⟨hk,c,hc,pA⟩:=l
 exact wpAny_Name (wpAny_loadName_local I.ok.kind hk hn hm fin) hd;obtain hk|hk:=hk
 exact wpAny_Name (wpAny_loadName_cell I.ok.kind hk hc pA fin) hd;exact wpAny_Name (wpAny_loadName_free I.ok.kind hk hc pA fin gM) hd
theorem Nq{i j pos}:PE X (.Constant (.int i) j pos) (tC (.int i)):=λ_ _ _ H _ I h=>wpAny_Constant_int ⟨.int i,H,I.tok _,⟨_,rfl⟩,h⟩
theorem RP{b j pos}:PE X (.Constant (.bool b) j pos) (tC (.bl b)):=λ_ _ _ H _ I h=>Constant_bool ⟨.bl b,H,I,rfl,h⟩
theorem Nr{j pos}:PE X (.Constant .none j pos) (tC .bR):=λ_ _ _ H _ I h=>Constant_none ⟨.bR,H,I,rfl,h⟩
theorem Nt{x j pos}:PE X (.Constant (.str x) j pos) (tC (.str x)):=λ_ _ _ H _ I h=>Calls.Constant_str ⟨.str x,H,I.tok _,⟨_,rfl⟩,h⟩
def Gl(X:Cx)(x:Str):Prop:=X.env.kindOf x=some .globalImplicit
theorem ie{E:qad}{pins:qaa}{s:Shared}{σ:St}{H:Hp}{Q:qad}(I:Inv X pins σ H s)(hg:Gl X x)(hm:X.mg x=some u)(h:Q u s)(hd:fW x:=by decide):wpAny (model X.prog X.w) X.A (eval (.Name x pos) X.env) Q E s :=
 Calls.Name_function_global I.ok.kind hg (Calls.loadGlobal_global (by rw[I.ok.glob];exact I.mod.glob.keeps I.bk) hm h) hd
theorem j8{E:qad}{pins:qaa}{s:Shared}{σ:St}{H:Hp}{Q:qad}(I:Inv X pins σ H s)(hg:Gl X x)(hm:X.mg x=none)(hv:bootBuiltins x=some u)(h:Q u s)(hn:x≠"__name__":=by decide)(hd:fW x:=by decide):wpAny (model X.prog X.w) X.A (eval (.Name x pos) X.env) Q E s:=by obtain⟨mb,h1,h2⟩:=I.mod.blt;exact Calls.Name_function_global I.ok.kind hg (Calls.loadGlobal_builtin (by rw[I.ok.glob];exact I.mod.glob.keeps I.bk) hm (by rw[I.ok.blt];exact h1.keeps I.bk) ((h2 x hn).trans hv) h) hd
theorem oV{v:V}(hg:Gl X x)(hm:X.mg x=some u)(r:RelV v u)(hd:fW x:=by decide):PE X (.Name x pos) (tC v) :=
 λ_ _ _ H _ I h=>ie I hg hm ⟨v,H,I,r,h⟩ hd
theorem IC{v:V}(hg:Gl X x)(hm:X.mg x=none)(hv:bootBuiltins x=some u)(r:RelV v u)(hn:x≠"__name__":=by decide)(hd:fW x:=by decide):PE X (.Name x pos) (tC v) :=
 λ_ _ _ H _ I h=>j8 I hg hm hv ⟨v,H,I,r,h⟩ hn hd
variable{a:Expr}{ta tb:TE}
def tB(t:TE):TT:=λσ H Q=>t σ H λx H1=>∃c,x=.bl c/\Q c H1
theorem Nu{t:TE}(h:PE X e t)(he:∀whole,isTrue e X.env whole=(do let v <- whole;standAt e.pos;holding [v] (truthy v)):=by intro _;rfl):PT X e (tB t):=by intro pins s σ H Q I hw;refine isTrue_plain (cm (h pins s σ H _ I hw) λv s1 ⟨x,H1,I1,r1,q1⟩=>?_) (he _);obtain⟨d,rfl,q⟩:=q1;cases r1;exact wpAny_truthy_bool ⟨H1,I1,q⟩
variable{tA RQ:TT}{rest:qap}
def Wr(t u:TT):TT:=λσ H Q=>t σ H λc H1=>if c=true then u σ H1 Q else Q false H1
def tOr(t u:TT):TT:=λσ H Q=>t σ H λc H1=>if c=true then Q true H1 else u σ H1 Q
def Ws(t:TT):TT:=λσ H Q=>t σ H λc H1=>Q (!c) H1
theorem pw_and1(ha:PT X a tA):PW X (.BoolOp .And [a] pos) tA:=by
 intro wh pins s σ H Q I h;refine isTrue_and (cm (ha pins s σ H Q I h) λc s1 e=>?_);cases c with
 |true=>exact isTrue_and_nil e
 |false=>exact e
theorem pw_or1(ha:PT X a tA):PW X (.BoolOp .Or [a] pos) tA:=by
 intro wh pins s σ H Q I h;refine isTrue_or (cm (ha pins s σ H Q I h) λc s1 e=>?_);cases c with
 |false=>exact isTrue_or_nil e
 |true=>exact e
theorem pw_and(ha:PT X a tA)(hb:PW X (.BoolOp .And (b::rest) pos) RQ):PW X (.BoolOp .And (a::b::rest) pos) (Wr tA RQ):=by
 intro wh pins s σ H Q I h;refine isTrue_and (cm (ha pins s σ H _ I h) λc s1 ⟨H1,I1,q1⟩=>?_);cases c with
 |true=>exact hb wh pins s1 σ H1 Q I1 q1
 |false=>exact⟨H1,I1,q1⟩
theorem pw_or(ha:PT X a tA)(hb:PW X (.BoolOp .Or (b::rest) pos) RQ):PW X (.BoolOp .Or (a::b::rest) pos) (tOr tA RQ):=by
 intro wh pins s σ H Q I h;refine isTrue_or (cm (ha pins s σ H _ I h) λc s1 ⟨H1,I1,q1⟩=>?_);cases c with
 |true=>exact⟨H1,I1,q1⟩
 |false=>exact hb wh pins s1 σ H1 Q I1 q1
theorem Nv(ha:PT X a tA):PT X (.UnaryOp .Not a pos) (Ws tA):=by intro pins s σ H Q I h;exact isTrue_not (ha pins s σ H (λc H1=>Q (!c) H1) I h)
def RS(ta tb:TE):TE:=λσ H Q=>ta σ H λx H1=>∃c,x=.bl c/\if c=true then tb σ H1 Q else Q (.bl false) H1
def Wt(ta tb:TE):TE:=λσ H Q=>ta σ H λx H1=>∃c,x=.bl c/\if c=true then Q (.bl true) H1 else tb σ H1 Q
def RU(ta:TE):TE:=λσ H Q=>ta σ H λx H1=>∃c,x=.bl c/\Q (.bl (!c)) H1
theorem Nw{op}{t:TE}(h:PE X a t):PE X (.BoolOp op [a] pos) t:=λpins s σ H Q I hw=>BoolOp_one (h pins s σ H Q I hw)
theorem Nx(ha:PE X a ta)(hb:PE X (.BoolOp .And (b::rest) pos) tb):PE X (.BoolOp .And (a::b::rest) pos) (RS ta tb):=by
 intro pins s σ H Q I h;refine BoolOp_and (cm (ha pins s σ H _ I h) λv s1 ⟨x,H1,I1,r1,q1⟩=>?_);obtain⟨c,rfl,q1⟩:=q1;cases r1;refine wpAny_truthy_bool ?_;cases c with
 |true=>exact hb pins s1 σ H1 Q I1 q1
 |false=>exact⟨.bl false,H1,I1,rfl,q1⟩
theorem RW(ha:PE X a ta)(hb:PE X (.BoolOp .Or (b::rest) pos) tb):PE X (.BoolOp .Or (a::b::rest) pos) (Wt ta tb):=by
 intro pins s σ H Q I h;refine BoolOp_or (cm (ha pins s σ H _ I h) λv s1 ⟨x,H1,I1,r1,q1⟩=>?_);obtain⟨c,rfl,q1⟩:=q1;cases r1;refine wpAny_truthy_bool ?_;cases c with
 |false=>exact hb pins s1 σ H1 Q I1 q1
 |true=>exact⟨.bl true,H1,I1,rfl,q1⟩
theorem Ny(ha:PE X a ta):PE X (.UnaryOp .Not a pos) (RU ta):=by intro pins s σ H Q I h;refine UnaryOp_ (cm (ha pins s σ H _ I h) λv s1 ⟨x,H1,I1,r1,q1⟩=>?_);obtain⟨c,rfl,q1⟩:=q1;cases r1;exact not_of (wpAny_truthy_bool ⟨.bl (!c),H1,I1,rfl,q1⟩)
def tIf(t:TT)(ta tb:TE):TE:=λσ H Q=>t σ H λc H1=>if c=true then ta σ H1 Q else tb σ H1 Q
theorem Ei{c:Expr}(hc:PT X c tA)(ha:PE X a ta)(hb:PE X b tb):PE X (.IfExp c a b pos) (tIf tA ta tb):=by
 intro pins s σ H Q I h;refine wpAny_IfExp (cm (hc pins s σ H _ I h) λd s1 ⟨H1,I1,q1⟩=>?_);cases d with
 |true=>exact ha pins s1 σ H1 Q I1 q1
 |false=>exact hb pins s1 σ H1 Q I1 q1
end
def fN(K:qaf)(H:Hp)(a:Addr)(xs:List V):Prop :=
 Rd H a (.lst xs) \/
  ∃(o:Obj)(aK:Array Value)(n:Nat),K.lookup a=some o/\o.cls=.type "list"/\o.dict=none/\o.data=.seq aK n/\aK.size<=sizeLine/\Vals xs aK.toList
def eF(K:qaf)(H:Hp)(a:Addr)(xs:List V):Prop :=
 Rd H a (.tup xs) \/
  ∃(o:Obj)(aK:Array Value)(n:Nat),K.lookup a=some o/\o.cls=.type "tuple"/\o.data=.seq aK n/\aK.size<=sizeLine/\Vals xs aK.toList
noncomputable def Wu:Value->Option V
 |.none=>some .bR
 |.bool b=>some (.bl b)
 |.int i _=>some (.int i)
 |.str x _=>some (.str x)
 |.bytes b _=>some (.Zb b)
 |.float b _=>some (.Zd b)
 |.ref a=>some (.ref a)
 |.type n=>some (.ty n)
 |_=>none
theorem RelV.abs{x:V}(r:RelV x u):Wu u=some x:=by
 cases x with
 |bR=>cases r;rfl
 |bl _=>cases r;rfl
 |ref _=>cases r;rfl
 |ty _=>cases r;rfl
 |_=>obtain⟨t,rfl⟩:=r;rfl
theorem RelV.inj{x y:V}(r:RelV x u)(q:RelV y u):x=y:=Option.some.inj (r.abs.symm.trans q.abs)
theorem Vals.inj:∀{xs ys:List V}{us:qag},Vals xs us->Vals ys us->xs=ys
 |_,_,_,.nil,.nil=>rfl
 |_,_,_,.cons r t,.cons r' t'=>by rw[r.inj r',Vals.inj t t']
section
variable{X:Cx}{pins:qaa}{σ:St}{H:Hp}{s:Shared}{xs ys:List V}
theorem fN.of{K:qaf}(h:H a=some (.lst xs)):fN K H a xs:=.inl (.inl h)
theorem eF.of{K:qaf}(h:H a=some (.tup xs)):eF K H a xs:=.inl (.inl h)
theorem Inv.list(I:Inv X pins σ H s)(h:fN X.K H a xs):∃aK:qag,Vals xs aK/\PlainL s.heap a aK.toArray/\xs.length<=sizeLine:=by
 obtain h|⟨o,aK,n,hk,hc,hd,hs,hz,r⟩:=h
 obtain⟨z,aK,n,r,e⟩:=h.ok I.bG;exact⟨aK,r,⟨_,n,e,rfl,rfl,rfl⟩,z⟩;refine⟨aK.toList,r,⟨o,n,I.jS a o hk,hc,hd,by simpa using hs⟩,?_⟩;have e:=r.length;simp only[B_] at e;omega
theorem Inv.tuple(I:Inv X pins σ H s)(h:eF X.K H a xs):∃aK:qag,Vals xs aK/\IsTup s.heap a aK.toArray/\xs.length<=sizeLine:=by
 obtain h|⟨o,aK,n,hk,hc,hs,hz,r⟩:=h
 obtain⟨z,aK,r,p⟩:=h.ok I.bG;exact⟨aK,r,p,z⟩;refine⟨aK.toList,r,⟨o,I.jS a o hk,hc,n,by simpa using hs⟩,?_⟩;have e:=r.length;simp only[B_] at e;omega
theorem Inv.kM(I:Inv X pins σ H s)(h:fN X.K H a xs)(h':fN X.K H a ys):xs=ys:=by
 obtain⟨aK,r,⟨o,n,e,_,_,d⟩,_⟩:=I.list h;obtain⟨its',r',⟨o',n',e',_,_,d'⟩,_⟩:=I.list h';rw[e] at e';cases e';rw[d] at d';injection d' with d1 _
 have:aK=its':=by simpa using congrArg Array.toList d1
 subst this;exact r.inj r'
theorem Inv.mz(I:Inv X pins σ H s)(h:eF X.K H a xs)(h':eF X.K H a ys):xs=ys:=by
 obtain⟨aK,r,⟨o,e,_,n,d⟩,_⟩:=I.tuple h;obtain⟨its',r',⟨o',e',_,n',d'⟩,_⟩:=I.tuple h';rw[e] at e';cases e';rw[d] at d';injection d' with d1 _
 have:aK=its':=by simpa using congrArg Array.toList d1
 subst this;exact r.inj r'
end
noncomputable abbrev Cx.j9(X:Cx)(E:qad):Cx:={X with xe:=E}
noncomputable abbrev Cx.wo(X:Cx):Cx:=X.j9 λ_ _=>False
theorem Cx.Ok.j9{X:Cx}(ok:X.Ok)(E:qad):(X.j9 E).Ok :=
 ⟨ok.mod,ok.kind,ok.glob,ok.blt,ok.above,ok.inj,ok.has,ok.Q1,ok.hd,ok.frames,ok.RM,ok.Wj,ok.bs,ok.H_,ok.Ce,ok.Ee,ok.my,ok.LQ⟩
theorem Cx.Ok.iW{X:Cx}{E:qad}(ok:(X.j9 E).Ok):X.Ok :=
 ⟨ok.mod,ok.kind,ok.glob,ok.blt,ok.above,ok.inj,ok.has,ok.Q1,ok.hd,ok.frames,ok.RM,ok.Wj,ok.bs,ok.H_,ok.Ce,ok.Ee,ok.my,ok.LQ⟩
section
variable{X:Cx}{pins:qaa}{σ:St}{H:Hp}{s:Shared}{E:qad}
theorem Inv.j9(I:Inv X pins σ H s)(E:qad):Inv (X.j9 E) pins σ H s:=⟨I.ok.j9 E,I.os,I.bare,I.base,I.loc,I.cell,I.free,I.fK,I.pin,I.bG,I.len⟩
theorem Inv.iW(I:Inv (X.j9 E) pins σ H s):Inv X pins σ H s:=⟨I.ok.iW,I.os,I.bare,I.base,I.loc,I.cell,I.free,I.fK,I.pin,I.bG,I.len⟩
theorem SP.iW{D:Ends}{f:Flow}(h:SP (X.j9 E) pins D f s'):SP X pins D f s':=by
 cases f with
 |ret u=>obtain⟨v,σ',H',I,r,q⟩:=h;exact⟨v,σ',H',I.iW,r,q⟩
 |_=>obtain⟨σ',H',I,q⟩:=h;exact⟨σ',H',I.iW,q⟩
theorem oU.wo{st:qaq}{t:TS}(h:oU X.wo st t):oU X st t:=λpins s σ H D I hw=>
 wpAny_mono (h pins s σ H D (I.j9 _) hw) (λ_ _ q=>q.iW) λ_ _ z=>False.elim z
end
section
variable{X:Cx}{rest:qaq}{t u:TS}{te:TE}
def Ej:TS:=λD σ H=>D.nx σ H
def Wv(t u:TS):TS:=λD σ H=>t {D with nx:=u D} σ H
theorem AU:oU X [] Ej:=λ_ _ σ H _ I h=>wpAny_execs_nil ⟨σ,H,I,h⟩
theorem iX(h1:PS X st t)(h2:oU X rest u):oU X (st::rest) (Wv t u):=by
 intro pins s σ H D I h;refine wpAny_execs_cons (cm (h1 pins s σ H {D with nx:=u D} I h) λf s1 q=>?_);cases f with
 |next=>obtain⟨σ',H',I',q⟩:=q;exact h2 pins s1 σ' H' D I' q
 |ret v=>exact q
 |_=>exact q
theorem jw(h1:PS X st t):oU X [st] t:=by
 intro pins s σ H D I h;refine wpAny_execs_cons (cm (h1 pins s σ H D I h) λf s1 q=>?_);cases f with
 |next=>exact wpAny_execs_nil q
 |ret v=>exact q
 |_=>exact q
theorem Inv.quiet{pins:qaa}{σ:St}{H:Hp}{s:Shared}(I:Inv X pins σ H s):interactive X.env=false:=by simp[interactive,I.ok.kind]
def RX(te:TE):TS:=λD σ H=>te σ H λ_ H1=>D.nx σ H1
theorem jx(he:PE X e te)(hs:swapsWith e none pos.line X.env=pure false:=by rfl):PS X (.Expr e pos) (RX te):=by intro pins s σ H D I h;exact wpAny_Expr_any (cm (he pins s σ H _ I h) λv s1 ⟨x,H1,I1,r1,q1⟩=>⟨σ,H1,I1,q1⟩) I.quiet hs
def Ww(te:TE):TS:=λD σ H=>te σ H D.rt
theorem Ek(he:PE X e te):PS X (.Return (some e) pos) (Ww te):=by intro pins s σ H D I h;exact wpAny_Return_some (cm (he pins s σ H _ I h) λv s1 ⟨x,H1,I1,r1,q1⟩=>⟨x,σ,H1,I1,r1,q1⟩)
def Nz(c:TT)(t u:TS):TS:=λD σ H=>c σ H λb H1=>if b=true then t D σ H1 else u D σ H1
theorem LS{c:Expr}{a b:qaq}{tc:TT}(hc:PT X c tc)(ha:oU X a t)(hb:oU X b u):PS X (.If c a b pos) (Nz tc t u):=by
 intro pins s σ H D I h;refine wpAny_If (cm (hc pins s σ H _ I h) λd s1 ⟨H1,I1,q1⟩=>?_);cases d with
 |true=>exact ha pins s1 σ H1 D I1 q1
 |false=>exact hb pins s1 σ H1 D I1 q1
def yR:TS:=λ_ _ _=>False
theorem Cf{bI:qaq}:oU X bI yR:=λ_ _ _ _ _ _ h=>h.elim
end
abbrev TG:=V->St->Hp->(St->Hp->Prop)->Prop
abbrev ID:=List V->St->Hp->(St->Hp->Prop)->Prop
def PG(X:Cx)(target:Expr)(t:TG):Prop :=
 ∀(pins:qaa)(s:Shared)(σ:St)(H:Hp)(v:V)(u:Value)(Q:St->Hp->Prop),Inv X pins σ H s->RelV v u->t v σ H Q ->
  wpAny (model X.prog X.w) X.A (assign target X.env u) (λ_ s'=>∃σ' H',Inv X pins σ' H' s'/\Q σ' H') X.xe s
def El(X:Cx)(ts:qap)(t:ID):Prop :=
 ∀(pins:qaa)(s:Shared)(σ:St)(H:Hp)(vs:List V)(us:qag)(Q:St->Hp->Prop),Inv X pins σ H s->Vals vs us->t vs σ H Q ->
  wpAny (model X.prog X.w) X.A (assignInOrder ((assignEach ts X.env).map (·.2)) us) (λ_ s'=>∃σ' H',Inv X pins σ' H' s'/\Q σ' H') X.xe s
abbrev NA:=V->V->V->Hp->(Hp->Prop)->Prop
def RY(X:Cx)(t:NA):Prop :=
 ∀(pins:qaa)(s:Shared)(σ:St)(H:Hp)(o i v:V)(ov iv u:Value)(Q:Hp->Prop),Inv X pins σ H s->RelV o ov->RelV i iv->RelV v u->t o i v H Q ->
  wpAny (model X.prog X.w) X.A (setItem ov iv u) (λ_ s'=>∃H',Inv X pins σ H' s'/\Q H') X.xe s
abbrev Wx:=V->V->Hp->VK->Prop
def PIp(X:Cx)(op:Operator)(t:Wx):Prop :=
 ∀(pins:qaa)(s:Shared)(σ:St)(H:Hp)(x y:V)(v u:Value)(Q:VK),Inv X pins σ H s->RelV x v->RelV y u->t x y H Q ->
  wpAny (model X.prog X.w) X.A (inplaceOp op v u) (EP X pins σ Q) X.xe s
section
variable{X:Cx}
def iK(i:Nat):TG:=λv σ H Q=>Q (σ.set i (some v)) H
theorem AV(hN:X.N.Nodup)(hi:X.N[i]?=some x)(hx:Loc X.env.scope x)(hf:X.fn x=true\/X.env.scope.names.lookup x=some .local:=by first|exact .inl rfl|exact .inr rfl|assumption):PG X (.Name x pos) (iK i):=by intro pins s σ H v u Q I r h;exact wpAny_assign_Name (kL I hN hi hx r (λs' I'=>⟨_,H,I',h⟩) hf)
def Wy:ID:=λvs σ H Q=>vs=[]/\Q σ H
def RZ(t:TG)(u:ID):ID:=λvs σ H Q=>∃v r,vs=v::r/\t v σ H λσ' H'=>u r σ' H' Q
theorem IF:El X [] Wy:=by intro pins s σ H vs us Q I r h;obtain⟨e,h⟩:=h;subst e;cases r;exact assignInOrder_nil ⟨σ,H,I,h⟩
theorem Em{es:qap}{t:TG}{u:ID}(h1:PG X e t)(h2:El X es u)(hs:(assignEach (e::es) X.env).map (·.2)=assign e X.env::(assignEach es X.env).map (·.2):=by rfl):El X (e::es) (RZ t u):=by
 intro pins s σ H vs us Q I r h;obtain⟨v,vr,e1,h⟩:=h;subst e1;cases r with
 |cons r rr=>rw[hs];refine assignInOrder_cons (cm (h1 pins s σ H _ _ _ I r h) λ_ s1 ⟨σ1,H1,I1,q1⟩=>?_);exact h2 pins s1 σ1 H1 _ _ Q I1 rr q1
def Wz(K:qaf)(n:Nat)(t:ID):TG:=λv σ H Q=>∃a xs,v=.ref a/\eF K H a xs/\xs.length=n/\t xs σ H Q
theorem NB{es:qap}{k:Nat}{t:ID}(hc:X.calm=true)(h:El X es t)(hn:(assignEach es X.env).length=n:=by rfl)(AW:(assignEach es X.env).findIdx? (·.1)=none:=by rfl):PG X (.Tuple es k pos) (Wz X.K n t):=by intro pins s σ H v u Q I r hw;obtain⟨a,xs,e1,hq,hl,hw⟩:=hw;subst e1;cases r;obtain⟨aK,rv,ht,hz⟩:=I.tuple hq;refine assign_Tuple_tuple (I.ok.hd hc) ht (by simp[hn,<- hl,rv.length]) AW λh' hx=>?_;have I1:Inv X pins σ H {s with heap:=h'}:=I.kept (t':=s.toks) λb o e=>hx b o (iJ (eG e)) e;exact h pins _ σ H xs _ Q I1 (by simpa using rv) hw
def WA(to ti:TE)(t:NA):TG:=λv σ H Q=>to σ H λo H1=>ti σ H1 λi H2=>t o i v H2 λH3=>Q σ H3
theorem NC{o i:Expr}{to ti:TE}{t:NA}(ho:PE X o to)(hi:PE X i ti)(hs:RY X t)(ha:∀v,assign (.Subscript o i pos) X.env v=(do
    let ov <- holding [v] (eval o X.env)
    let iv <- holding [v,ov] (eval i X.env)
    standAt pos
    holding [v,ov,iv] (setItem ov iv v)
    release [v,ov,iv] []):=by intro _;rfl):PG X (.Subscript o i pos) (WA to ti t):=by
 intro pins s σ H v u Q I r h;rw[ha];refine wpAny_bind (wpAny_holding (cm (ho pins s σ H _ I h) λov s1 ⟨x,H1,I1,r1,q1⟩=>?_));refine wpAny_bind (wpAny_holding (cm (hi pins s1 σ H1 _ I1 q1) λiv s2 ⟨y,H2,I2,r2,q2⟩=>?_));refine wpAny_bind (wpAny_standAt (wpAny_bind (wpAny_holding (cm (hs pins s2 σ H2 x y v ov iv u _ I2 r1 r2 r q2) λ_ s3 ⟨H3,I3,q3⟩=>?_))));exact wpAny_release ⟨σ,H3,I3,q3⟩
def IG(te:TE)(g:TG):TS:=λD σ H=>te σ H λx H1=>g x σ H1 D.nx
theorem Eo{tg:Expr}{te:TE}{g:TG}(he:PE X e te)(hg:PG X tg g)(hs:swapsWithSole [tg] e pos.line X.env=pure false:=by rfl)(hw:swappedStores [tg] e X.env=pure none:=by rfl)(h1:(assignEach [tg] X.env).map (·.2)=[assign tg X.env]:=by rfl):PS X (.Assign [tg] e pos) (IG te g):=by intro pins s σ H D I h;refine wpAny_Assign_stores (cm (he pins s σ H _ I h) λv s1 ⟨x,H1,I1,r1,q1⟩=>?_) hs hw;rw[h1];exact cm (hg pins s1 σ H1 x v _ I1 r1 q1) λ_ s2 q=>q
theorem yS{te:TE}(hN:X.N.Nodup)(hi:X.N[i]?=some x)(hx:Loc X.env.scope x)(he:PE X e te)(hs:swapsWith e (some (.Name x pos')) pos.line X.env=pure false:=by rfl)(hf:X.fn x=true\/X.env.scope.names.lookup x=some .local:=by first|exact .inl rfl|exact .inr rfl|assumption) :
  PS X (.Assign [.Name x pos'] e pos) (IG te (iK i)):=by
 intro pins s σ H D I h;refine wpAny_Assign_Name (cm (he pins s σ H _ I h) λv s1 ⟨y,H1,I1,r1,q1⟩=>?_) hs;exact kL I1 hN hi hx r1 (λs2 I2=>⟨_,H1,I2,q1⟩) hf
def WB(i:Nat)(te:TE)(ti:Wx):TS:=λD σ H=>∃x,σ[i]?=some (some x)/\te σ H λy H1=>ti x y H1 λz H2=>D.nx (σ.set i (some z)) H2
theorem ND{te:TE}{op:Operator}{ti:Wx}(hN:X.N.Nodup)(hi:X.N[i]?=some x)(hx:Loc X.env.scope x)(he:PE X e te)(ho:PIp X op ti)(hf:X.fn x=true\/X.env.scope.names.lookup x=some .local:=by first|exact .inl rfl|exact .inr rfl|assumption) :
  PS X (.AugAssign (.Name x pos') op e pos) (WB i te ti):=by
 intro pins s σ H D I h;obtain⟨v,e1,h⟩:=h;obtain⟨m,hn,hl⟩:=I.loc;have vis:pk X.env.scope x:=by obtain k|k:=hx;exact .inl k;exact .inr (.inl k)
 obtain⟨u,r,l⟩:=hl i x v hi e1 vis;refine wpAny_AugAssign_Name ?_;have go:wpAny (model X.prog X.w) X.A (eval e X.env) (λw s₂=>wpAny (model X.prog X.w) X.A (inplaceOp op u w) (λr s₃=>wpAny (model X.prog X.w) X.A (storeName X.env x r) (λ_=>SP X pins D .next) X.xe s₃) X.xe s₂) X.xe s:=by refine cm (he pins s σ H _ I h) λw s1 ⟨y,H1,I1,r1,q1⟩=>?_;refine cm (ho pins s1 σ H1 v y u w _ I1 r r1 q1) λz s2 ⟨zv,H2,I2,r2,q2⟩=>?_;exact kL I2 hN hi hx r2 (λs3 I3=>⟨_,H2,I3,q2⟩) hf
 obtain⟨hk,hm⟩|⟨hk,c,hc,pA⟩:=l
 exact wpAny_loadName_local I.ok.kind hk hn hm go;obtain hk|hk:=hk
 exact wpAny_loadName_cell I.ok.kind hk hc pA go;obtain k|k:=hx
 have:X.env.scope.names.lookup x=some .free:=hk;rw[k] at this;cases this;have:X.env.scope.names.lookup x=some .free:=hk;rw[k] at this;cases this
end
structure It where
 go:Nat->Hp->Prop
 R0:Nat->Hp->V->Hp->Prop
 stop:Nat->Hp->Prop
def mB(X:Cx)(pins:qaa)(H:Hp)(b:Addr):Prop :=
 H b=none/\b≠X.env.locals/\b∉X.fs/\(b∈X.ex\/X.s₀.heap.objs.size<=b)/\(∀x c,X.env.cells.lookup x=some c->c≠b)/\∀p∈X.pn++pins,p.1≠b
theorem Inv.rK{X:Cx}{pins:qaa}{σ:St}{H H':Hp}{s:Shared}{b:Addr}(I:Inv X pins σ H s)(hb:s.heap.objs.size<=b)(hn:H' b=none):mB X pins H' b:=by refine⟨hn,Ca (oq I.lt hb),I.Wl hb,.inr (mw I.sz hb),λx c e z=>?_,λp hp z=>?_⟩;obtain⟨v,q⟩:=I.cell x c e;exact absurd (oq q.lt (by rw[z];exact hb)) (HY _);exact absurd (oq (eG (I.pin p hp).1) (by rw[z];exact hb)) (HY _)
structure Turn(P:Program)(w:World)(K:qaf)(tg:Expr)(J:It)(fp:qah)(it:Addr)(tn:Nat->Heap->Prop):Prop where
 mem:it∈fp
 obj:∀i h,tn i h->∀b∈fp,∃o,h.get? b=some o/\∀v,o.data≠.cell v
 keep:∀i h h',tn i h->(∀b∈fp,∀o,h.get? b=some o->h'.get? b=some o)->tn i h'
 item:∀(X:Cx),X.prog=P->X.w=w->X.K=K->X.calm=true->∀(i:Nat)(pins:qaa)(s:Shared)(σ:St)(H:Hp)(E:qad),Inv X pins σ H s->(∀b∈fp,mB X pins H b)->tn i s.heap->J.go i H ->
  wpAny (model P w) X.A (pyNext (.ref it)) (λr s1=>∃u,r=some u /\
   wpAny (model P w) X.A (letOwnedTupleGo tg (.ref it) u) (λ_ s2=>∃x H',Inv X pins σ H' s2/\RelV x u/\J.R0 i H x H'/\tn (i+1) s2.heap/\∀b∈fp,H' b=none) E s1) E s
 done:∀(X:Cx),X.prog=P->X.w=w->X.K=K->X.calm=true->∀(i:Nat)(pins:qaa)(s:Shared)(σ:St)(H:Hp)(E:qad),Inv X pins σ H s->(∀b∈fp,mB X pins H b)->tn i s.heap->J.stop i H ->
  wpAny (model P w) X.A (pyNext (.ref it)) (λr s1=>r=none/\Inv X pins σ H s1) E s
 self:∀(A:Around)(i:Nat)(s:Shared)(Q:qad)(E:qad),tn i s.heap->Q (.ref it) s->wpAny (model P w) A (pyIter (.ref it)) Q E s
abbrev TI:=St->Hp->(It->Hp->Prop)->Prop
def Zj(X:Cx)(pins:qaa)(σ:St)(tg:Expr)(R:It->Hp->Prop)(U9:Value)(s2:Shared):Prop :=
 ∃(it:Addr)(fp:qah)(tn:Nat->Heap->Prop)(J:It)(H':Hp),U9=.ref it/\Inv X pins σ H' s2/\Turn X.prog X.w X.K tg J fp it tn/\tn 0 s2.heap/\(∀b∈fp,mB X pins H' b)/\R J H'
def PI(X:Cx)(tg iter:Expr)(wi:TI):Prop :=
 ∀(pins:qaa)(s:Shared)(σ:St)(H:Hp)(R:It->Hp->Prop),Inv X pins σ H s->wi σ H R ->
  wpAny (model X.prog X.w) X.A (eval iter X.env) (λv s1=>wpAny (model X.prog X.w) X.A (pyIter v) (Zj X pins σ tg R) X.xe s1) X.xe s
theorem AX{M:Model}{E:qad}{s:Shared}{tg:Expr}{it:Addr}{o:Obj}{n:String}{vs:Array Value}{Q:Unit->Shared->Prop}(ho:s.heap.get? it=some o)(hc:o.cls=.type n)(hd:o.data=.fields vs)(hn:["enumerate","zip","dict_itemiterator","dict_reverseitemiterator","odict_iterator","itertools.zip_longest","itertools.pairwise"].contains n=false)(hQ:Q () s):wpAny M A (letOwnedTupleGo tg (.ref it) u) Q E s:=by
 unfold letOwnedTupleGo;cases tg<;>first
  |exact wpAny_pure hQ
  | (cases u<;>first
      |exact wpAny_pure hQ
      | (refine wpAny_bind (wpAny_load ho ?_)
         rw[hc,hd];show wpAny M A (if (["enumerate","zip","dict_itemiterator","dict_reverseitemiterator","odict_iterator","itertools.zip_longest","itertools.pairwise"].contains n && vs[0]?==some (rawInt _))=true then _ else _) Q E s;rw[if_neg (by intro h;rw[hn,DZ] at h;cases h)];exact wpAny_pure hQ))
def WC(K:qaf)(a:Addr):It :=
 ⟨λi H=>∃xs x,fN K H a xs/\xs[i]?=some x,λi H x H'=>H'=H/\∀xs,fN K H a xs->xs[i]?=some x,λi H=>∃xs,fN K H a xs/\xs.length<=i⟩
def WD(K:qaf)(a:Addr):It :=
 ⟨λi H=>∃xs x,eF K H a xs/\xs[i]?=some x,λi H x H'=>H'=H/\∀xs,eF K H a xs->xs[i]?=some x,λi H=>∃xs,eF K H a xs/\xs.length<=i⟩
def U_(lo:Int)(n:Nat):It:=⟨λi _=>i<n,λi H x H'=>H'=H/\x=.int (lo+i),λi _=>n<=i⟩
theorem Cg{K:qaf}{tg:Expr}(a it:Addr):Turn P w K tg (WC K a) [it] it (λi h=>h.IsListIter it a i) where
 mem:=by simp
 obj:=λi h st b hb=>by
  have e:b=it:=by simpa using hb
  subst e;obtain⟨o,e,c,d⟩:=st;exact⟨o,e,λv z=>by rw[d] at z;cases z⟩
 keep:=λi h h' st k=>st.at λo e=>k it (by simp) o e
 item:=by intro X hP hw hK hc i pins s σ H E I hf st hg;subst hP hw hK;obtain⟨xs,x,hq,hx⟩:=hg;obtain⟨aK,rv,p,hz⟩:=I.list hq;obtain⟨u,hu,ru⟩:=rv.get hx;obtain⟨f0,f1,f2,f3,f4,f5⟩:=hf it (by simp);refine wpAny_pyNext_list_item st p.isList (x:=u) (by simpa using hu) λh' yT sb=>?_;have I1:Inv X pins σ H {s with heap:=h'}:=I.turned (t':=s.toks) (λb o hb e=>(sb.2 b hb).trans e) f0 f1 f3 f4 f5;obtain⟨o,e,c,d⟩:=id yT;exact⟨u,rfl,AX (s:={s with heap:=h'}) e c d (by decide) ⟨x,H,I1,ru,⟨rfl,λys hy=>by rw[I.kM hy hq];exact hx⟩,yT,λb hb=>(hf b hb).1⟩⟩
 done:=by intro X hP hw hK hc i pins s σ H E I hf st hg;subst hP hw hK;obtain⟨xs,hq,hx⟩:=hg;obtain⟨aK,rv,p,hz⟩:=I.list hq;obtain⟨f0,f1,f2,f3,f4,f5⟩:=hf it (by simp);have hl:=rv.length;exact wpAny_pyNext_list_end (I.ok.hd hc) st p.isList (by simp;omega) λh' eb=>⟨rfl,I.turned (t':=s.toks) (λb o hb e=>eb b o hb e) f0 f1 f3 f4 f5⟩
 self:=λ_ _ _ _ _ st h=>wpAny_pyIter_listiter st h
theorem yU{K:qaf}{tg:Expr}(a it:Addr):Turn P w K tg (WD K a) [it] it (λi h=>h.IsTupleIter it a i) where
 mem:=by simp
 obj:=λi h st b hb=>by
  have e:b=it:=by simpa using hb
  subst e;obtain⟨o,e,c,d⟩:=st;exact⟨o,e,λv z=>by rw[d] at z;cases z⟩
 keep:=λi h h' st k=>st.at λo e=>k it (by simp) o e
 item:=by intro X hP hw hK hc i pins s σ H E I hf st hg;subst hP hw hK;obtain⟨xs,x,hq,hx⟩:=hg;obtain⟨aK,rv,p,hz⟩:=I.tuple hq;obtain⟨u,hu,ru⟩:=rv.get hx;obtain⟨f0,f1,f2,f3,f4,f5⟩:=hf it (by simp);refine wpAny_pyNext_tuple_item st (show s.heap.IsTuple a aK.toArray from p) (x:=u) (by simpa using hu) λh' yT sb=>?_;have I1:Inv X pins σ H {s with heap:=h'}:=I.turned (t':=s.toks) (λb o hb e=>(sb.2 b hb).trans e) f0 f1 f3 f4 f5;obtain⟨o,e,c,d⟩:=id yT;exact⟨u,rfl,AX (s:={s with heap:=h'}) e c d (by decide) ⟨x,H,I1,ru,⟨rfl,λys hy=>by rw[I.mz hy hq];exact hx⟩,yT,λb hb=>(hf b hb).1⟩⟩
 done:=by intro X hP hw hK hc i pins s σ H E I hf st hg;subst hP hw hK;obtain⟨xs,hq,hx⟩:=hg;obtain⟨aK,rv,p,hz⟩:=I.tuple hq;obtain⟨f0,f1,f2,f3,f4,f5⟩:=hf it (by simp);have hl:=rv.length;exact wpAny_pyNext_tuple_end (I.ok.hd hc) st (show s.heap.IsTuple a aK.toArray from p) (by simp;omega) λh' eb=>⟨rfl,I.turned (t':=s.toks) (λb o hb e=>eb b o hb e) f0 f1 f3 f4 f5⟩
 self:=λ_ _ _ _ _ st h=>wpAny_pyIter_tupleiter st h
theorem yV{K:qaf}{tg:Expr}(it:Addr)(lo:Int)(n:Nat):Turn P w K tg (U_ lo n) [it] it (λi h=>IsRangeIter h it (lo+(i:Nat) * 1) ((n:Int)-(i:Nat)) 1) where
 mem:=by simp
 obj:=λi h st b hb=>by
  have e:b=it:=by simpa using hb
  subst e;exact⟨_,st,λv z=>by have z':Data.fields _=Data.cell v:=z;cases z'⟩
 keep:=λi h h' st k=>k it (by simp) _ st
 item:=by intro X hP hw hK hc i pins s σ H E I hf st hg;subst hP hw hK;obtain⟨f0,f1,f2,f3,f4,f5⟩:=hf it (by simp);have W:=Walks.range (prog:=X.prog) (w:=X.w) (I.ok.hd hc) it lo 1 n;refine W.item i s _ _ hg st λv h' tk hv yT kk=>?_;obtain⟨t,rfl⟩:=hv;have I1:Inv X pins σ H {s with heap:=h',toks:=tk}:=I.turned (λb o hb e=>kk b o (by simpa using hb) e) f0 f1 f3 f4 f5;refine⟨_,rfl,AX (s:={s with heap:=h',toks:=tk}) (n:="range_iterator") yT rfl rfl (by decide) ⟨.int (lo+i),H,I1,⟨t,?_⟩,⟨rfl,rfl⟩,yT,λb hb=>(hf b hb).1⟩⟩;rw[Int.mul_one]
 done:=by intro X hP hw hK hc i pins s σ H E I hf st hg;subst hP hw hK;obtain⟨f0,f1,f2,f3,f4,f5⟩:=hf it (by simp);exact wpAny_pyNext_range_end (I.ok.hd hc) st (by have:n<=i:=hg;omega) λh' eb=>⟨rfl,I.turned (t':=s.toks) (λb o hb e=>eb b o hb e) f0 f1 f3 f4 f5⟩
 self:=λ_ _ _ _ _ st h=>wpAny_pyIter_rangeiter st h
section
variable{X:Cx}{tg:Expr}
theorem Ep{pins:qaa}{σ:St}{H:Hp}{s:Shared}{R:It->Hp->Prop}{E:qad}{lo hi:Int}{t u v:Tok}{tk:Nat}(I:Inv X pins σ H s)(h1 : -(2 ^ 62)<=lo)(h2:lo<2 ^ 62)(h3 : -(2 ^ 62)<=hi)(h4:hi<2 ^ 62)(q:R (U_ lo (hi-lo).toNat) H):wpAny (model X.prog X.w) X.A (pyIter (.ref s.heap.objs.size)) (Zj X pins σ tg R) E {s with heap:=s.heap.push {cls:=.type "range",data:=.fields #[.int lo t,.int hi u,.int 1 v]},toks:=tk}:=by
 refine wpAny_pyIter_range (IsRange.new ..) (small_one h1 h2 h3 h4) ?_;have I1:Inv X pins σ H {s with heap:=s.heap.push {cls:=.type "range",data:=.fields #[.int lo t,.int hi u,.int 1 v]},toks:=tk}:=I.kept λb o e=>eD _ e;refine⟨(s.heap.push {cls:=.type "range",data:=.fields #[.int lo t,.int hi u,.int 1 v]}).objs.size,[(s.heap.push {cls:=.type "range",data:=.fields #[.int lo t,.int hi u,.int 1 v]}).objs.size],_,_,H,rfl,
  I1.kept (t':=tk) λb o e=>eD _ e,yV _ lo (hi-lo).toNat,?_,λb hb=>?_,q⟩
 have e1:lo+((0:Nat):Int) * 1=lo:=by simp
 have e2:(((hi-lo).toNat:Nat):Int)-((0:Nat):Int)=Builtin.Range.rangeSize lo hi 1:=by rw[rangeSize_one];split<;>omega
 show IsRangeIter _ _ (lo+((0:Nat):Int) * 1) ((((hi-lo).toNat:Nat):Int)-((0:Nat):Int)) 1;rw[e1,e2];exact ph _ rfl;have e:b=(s.heap.push {cls:=.type "range",data:=.fields #[.int lo t,.int hi u,.int 1 v]}).objs.size:=by simpa using hb
 subst e;exact I1.rK (eB _) (I1.bG.fresh (eB _))
def R3(ta:TA):TI:=λσ H R=>ta σ H λvs H1=>∃j:Int,vs=[.int j]/\-(2 ^ 62)<=j/\j<2 ^ 62/\R (U_ 0 j.toNat) H1
theorem Ci{a:Expr}{ta:TA}(hg:Gl X "range")(hm:X.mg "range"=none)(ha:PA X [a] ta)(hs:starEach [a] X.env=[(false,eval a X.env)]:=by rfl):PI X tg (.Call (.Name "range" p) [a] [] pos) (R3 ta):=by
 intro pins s σ H R I h;refine Call_ (j8 I hg hm boot_range (UN (cm (ha pos pins s σ H _ I h) λus s1 ⟨vs,H1,I1,r1,q1⟩=>?_) hs rfl));obtain⟨j,e,q1,q2,q⟩:=q1;subst e;cases r1 with
 |cons r rr=>cases rr;obtain⟨t,rfl⟩:=r;exact call_range_1 (Ep I1 (by omega) (by omega) q1 q2 (by simpa using q))
def WE(wi:TI)(g:TG)(tb:TS):TS:=λD σ H=>wi σ H λJ H1=>∃W:Nat->Nat->St->Hp->Prop,(∃m,W 0 m σ H1)/\∀i m σ H,W i m σ H ->
 (J.stop i H/\D.nx σ H)\/(J.go i H/\∃N:St->Hp->Prop,(∀σ' H',N σ' H'->∃m',m'<m/\W (i+1) m' σ' H')/\∀x H',J.R0 i H x H'->g x σ H' λσ2 H2=>tb {D with nx:=N,ct:=N,bk:=D.nx} σ2 H2)
def pB(fp:qah)(h:Heap):qaa:=fp.filterMap λb=>(h.get? b).map λo=>(b,o)
theorem ig{fp:qah}{b:Addr}{o:Obj}(hb:b∈fp)(e:h.get? b=some o):(b,o)∈pB fp h:=List.mem_filterMap.mpr ⟨b,hb,by rw[e];rfl⟩
theorem Cj{fp:qah}{p:Addr×Obj}(hp:p∈pB fp h):p.1∈fp/\h.get? p.1=some p.2:=by
 obtain⟨b,hb,e⟩:=List.mem_filterMap.mp hp;cases q:h.get? b with
 |none=>rw[q] at e;cases e
 |some o=>rw[q] at e;have e':(b,o)=p:=Option.some.inj e;subst e';exact⟨hb,q⟩
theorem Inv.pinned{pins:qaa}{σ:St}{H:Hp}{s:Shared}{fp:qah}(I:Inv X pins σ H s)(hf:∀b∈fp,mB X pins H b)(ho:∀b∈fp,∃o,s.heap.get? b=some o/\∀v,o.data≠.cell v):Inv X (pins++pB fp s.heap) σ H s :=
 I.AR λp hp=>(gF.mp hp).elim (λz=>I.pin p (kC _ z)) λz=>by obtain⟨hb,e⟩:=Cj z;obtain⟨f0,f1,f2,_⟩:=hf p.1 hb;obtain⟨o,e',d⟩:=ho p.1 hb;rw[e] at e';cases e';exact⟨e,f0,f1,f2,d⟩
theorem Inv.kN{pins pl:qaa}{σ:St}{H:Hp}{s:Shared}(I:Inv X (pins++pl) σ H s):Inv X pins σ H s:=I.AR λp hp=>I.pin p (kC _ (j5 _ hp))
theorem Er{body:qaq}{wi:TI}{g:TG}{tb:TS}(hp:PassesOwn (model X.prog X.w) X.A X.env X.xe)(hc:X.calm=true)(hi:PI X tg iter wi)(hg:PG X tg g)(hb:oU X body tb)(hs:∀x,foldedSetIterable iter X.env x=pure x:=by intro _;rfl):PS X (.For tg iter body [] pos) (WE wi g tb):=by
 intro pins s σ H D I h;refine wpAny_For (cm (hi pins s σ H _ I h) λv s1 h1=>cm h1 λU9 s2 h2=>?_) hs;obtain⟨it,fp,tn,J,H2,e,I2,T,D1,f2,W,⟨m0,w0⟩,turn⟩:=h2;subst e;have NF:∀{H':Hp},(∀b∈fp,H' b=none)->∀b∈fp,mB X pins H' b:=λhn b hb=>⟨hn b hb,(f2 b hb).2⟩;refine codeAny_forLoop_any (λn s'=>∃i σ' H',Inv X pins σ' H' s'/\tn i s'.heap/\(∀b∈fp,H' b=none)/\W i n σ' H') ?_ m0 ⟨0,σ,H2,I2,D1,λb hb=>(f2 b hb).1,w0⟩;rintro n s3 ⟨i,σ3,H3,I3,R4,R5,w3⟩;rcases turn i n σ3 H3 w3 with⟨stop,qn⟩|⟨go,N,hN,step⟩
 . refine wpAny_passesOwn hp (cm (T.done X rfl rfl rfl hc i pins s3 σ3 H3 X.xe I3 (NF R5) R4 stop) λr s4 ⟨hr,I4⟩=>?_);subst hr;exact wpAny_execs_nil ⟨σ3,H3,I4,qn⟩
 refine wpAny_passesOwn hp (cm (T.item X rfl rfl rfl hc i pins s3 σ3 H3 X.xe I3 (NF R5) R4 go) λr s4 ⟨u,hr,h4⟩=>?_);subst hr;refine wpAny_passesOwn hp (cm h4 λ_ s5 ⟨x,H5,I5,r5,y5,NG,WG⟩=>?_);have I5':=I5.pinned (NF WG) (T.obj _ _ NG);refine wpAny_passesOwn hp (cm (hg _ s5 σ3 H5 x u _ I5' r5 (step x H5 y5)) λ_ s6 ⟨σ6,H6,I6,q6⟩=>?_);refine wpAny_passesOwn hp (cm (hb _ s6 σ6 H6 _ I6 q6) λf s7 q7=>?_);have again:∀{σ7:St}{H7:Hp},Inv X (pins++pB fp s5.heap) σ7 H7 s7->N σ7 H7->∃m,m<n/\∃i σ' H',Inv X pins σ' H' s7/\tn i s7.heap/\(∀b∈fp,H' b=none)/\W i m σ' H':=λ{σ7 H7} I7 n7=>by obtain⟨m',hm,w7⟩:=hN σ7 H7 n7;refine⟨m',hm,i+1,σ7,H7,I7.kN,T.keep _ _ _ NG λb hb o e=>(I7.pin (b,o) (kC _ (kC _ (ig hb e)))).1,λb hb=>?_,w7⟩;obtain⟨o,e,d⟩:=T.obj _ _ NG b hb;exact (I7.pin (b,o) (kC _ (kC _ (ig hb e)))).2.1
 cases f with
 |brk=>obtain⟨σ7,H7,I7,q7⟩:=q7;exact⟨σ7,H7,I7.kN,q7⟩
 |ret v=>obtain⟨x7,σ7,H7,I7,r7,q7⟩:=q7;exact⟨x7,σ7,H7,I7.kN,r7,q7⟩
 |_=>obtain⟨σ7,H7,I7,n7⟩:=q7;exact again I7 n7
end
abbrev R2:=V->V->Hp->VK->Prop
def fD(X:Cx)(f:Value->Value->Sem Value)(r:R2):Prop :=
 ∀(pins:qaa)(s:Shared)(σ:St)(H:Hp)(x y:V)(v u:Value)(Q:VK),Inv X pins σ H s->RelV x v->RelV y u->r x y H Q ->
  wpAny (model X.prog X.w) X.A (f v u) (EP X pins σ Q) X.xe s
def WH(X:Cx)(f:Value->Sem Value)(r:V->Hp->VK->Prop):Prop :=
 ∀(pins:qaa)(s:Shared)(σ:St)(H:Hp)(x:V)(v:Value)(Q:VK),Inv X pins σ H s->RelV x v->r x H Q ->
  wpAny (model X.prog X.w) X.A (f v) (EP X pins σ Q) X.xe s
def cN(X:Cx)(f:Value)(r:List V->Hp->VK->Prop):Prop :=
 ∀(pins:qaa)(s:Shared)(σ:St)(H:Hp)(xs:List V)(us:qag)(Q:VK),Inv X pins σ H s->Vals xs us->r xs H Q ->
  wpAny (model X.prog X.w) X.A (call f us) (EP X pins σ Q) X.xe s
def R6(r:R2)(ta tb:TE):TE:=λσ H Q=>ta σ H λx H1=>tb σ H1 λy H2=>r x y H2 Q
def tUn(r:V->Hp->VK->Prop)(ta:TE):TE:=λσ H Q=>ta σ H λx H1=>r x H1 Q
def rI(C:Int->Int->Prop)(g:Int->Int->V):R2:=λx y H Q=>∃i j,x=.int i/\y=.int j/\C i j/\Q (g i j) H
def uD(g:Int->Int->V):R2:=λx y H Q=>∃i j,x=.int i/\y=.int j/\Q (g i j) H
def rU(g:Int->V):V->Hp->VK->Prop:=λx H Q=>∃i,x=.int i/\Q (g i) H
section
variable{X:Cx}{a c:Expr}{ta tb tc:TE}
theorem NH(ha:PE X a ta)(hb:PE X b tb){pins:qaa}{s:Shared}{σ:St}{H:Hp}{R:V->V->Hp->Prop}(I:Inv X pins σ H s)(h:ta σ H λx H1=>tb σ H1 λy H2=>R x y H2){Q:qad}{f:Value->Value->Sem Value}(hf:∀v u s2 x y H2,Inv X pins σ H2 s2->RelV x v->RelV y u->R x y H2->wpAny (model X.prog X.w) X.A (f v u) Q X.xe s2) :
  wpAny (model X.prog X.w) X.A (eval a X.env) (λv s₁=>wpAny (model X.prog X.w) X.A (eval b X.env) (λu s₂=>wpAny (model X.prog X.w) X.A (f v u) Q X.xe s₂) X.xe s₁) X.xe s:=by
 refine cm (ha pins s σ H _ I h) λv s1 ⟨x,H1,I1,r1,q1⟩=>?_;refine cm (hb pins s1 σ H1 _ I1 q1) λu s2 ⟨y,H2,I2,r2,q2⟩=>?_;exact hf v u s2 x y H2 I2 r1 r2 q2
theorem LU{op:Operator}{r:R2}(ho:fD X (binaryOp op) r)(ha:PE X a ta)(hb:PE X b tb):PE X (.BinOp a op b pos) (R6 r ta tb):=by intro pins s σ H Q I h;exact wpAny_BinOp (NH ha hb I h λv u s2 x y H2 I2 rx ry q=>ho pins s2 σ H2 x y v u Q I2 rx ry q)
theorem R7{op:UnaryOp}{r:V->Hp->VK->Prop}(ho:WH X (unaryOp op) r)(ha:PE X a ta):PE X (.UnaryOp op a pos) (tUn r ta):=by intro pins s σ H Q I h;exact UnaryOp_ (cm (ha pins s σ H _ I h) λv s1 ⟨x,H1,I1,r1,q1⟩=>ho pins s1 σ H1 x v Q I1 r1 q1)
theorem U'{f:Value->Value->Sem Value}{C:Int->Int->Prop}{g:Int->Int->Int}(rule:∀(i j:Int) (t u:Tok) (s:Shared) (Q:qad) (E:qad),C i j->Q (.int (g i j) s.toks) {s with toks:=s.toks+1}->wpAny (model X.prog X.w) X.A (f (.int i t) (.int j u)) Q E s) :
  fD X f (rI C λi j=>.int (g i j)):=by
 intro pins s σ H x y v u Q I rx ry h;obtain⟨i,j,rfl,rfl,hc,q⟩:=h;obtain⟨t,rfl⟩:=rx;obtain⟨t',rfl⟩:=ry;exact rule i j t t' s _ _ hc ⟨.int (g i j),H,I.tok _,⟨_,rfl⟩,q⟩
theorem NI{f:Value->Value->Sem Value}{g:Int->Int->Int}(rule:∀(i j:Int) (t u:Tok) (s:Shared) (Q:qad) (E:qad),Q (.int (g i j) s.toks) {s with toks:=s.toks+1}->wpAny (model X.prog X.w) X.A (f (.int i t) (.int j u)) Q E s) :
  fD X f (uD λi j=>.int (g i j)):=by
 intro pins s σ H x y v u Q I rx ry h;obtain⟨i,j,rfl,rfl,q⟩:=h;obtain⟨t,rfl⟩:=rx;obtain⟨t',rfl⟩:=ry;exact rule i j t t' s _ _ ⟨.int (g i j),H,I.tok _,⟨_,rfl⟩,q⟩
theorem NJ{f:Value->Value->Sem Value}{g:Int->Int->Bool}(rule:∀(i j:Int) (t u:Tok) (s:Shared) (Q:qad) (E:qad),Q (.bool (g i j)) s->wpAny (model X.prog X.w) X.A (f (.int i t) (.int j u)) Q E s) :
  fD X f (uD λi j=>.bl (g i j)):=by
 intro pins s σ H x y v u Q I rx ry h;obtain⟨i,j,rfl,rfl,q⟩:=h;obtain⟨t,rfl⟩:=rx;obtain⟨t',rfl⟩:=ry;exact rule i j t t' s _ _ ⟨.bl (g i j),H,I,rfl,q⟩
def R8(i j:Int):Prop:=0<j/\j<1073741824
def R9(i j:Int):Prop:=0<=j/\j<=1000000/\i.natAbs<2 ^ 64
def Es(i j:Int):Prop:=(-(2 ^ 64)<i/\i<2 ^ 64)\/(-(2 ^ 64)<j/\j<2 ^ 64)
theorem Es.ok{i j:Int}(h:Es i j):IntMulOk i j:=by
 obtain⟨h1,h2⟩|⟨h1,h2⟩:=h
 exact .of_left (intBits_le_64 h1 h2);exact .of_right (intBits_le_64 h1 h2)
theorem NK:fD X (binaryOp .Add) (uD λi j=>.int (i+j)):=NI λ_ _ _ _ _ _ _ q=>add_int q
theorem NL:fD X (binaryOp .Sub) (uD λi j=>.int (i-j)):=NI λ_ _ _ _ _ _ _ q=>sub_int q
theorem NM:fD X (binaryOp .Mult) (rI Es λi j=>.int (i * j)):=U' λ_ _ _ _ _ _ _ hc q=>mul_int q hc.ok
theorem IH:fD X (binaryOp .FloorDiv) (rI R8 λi j=>.int (i / j)):=U' λi j _ _ _ _ _ hc q=>by have h1:(0:Int)<j:=hc.1;have h2:j<1073741824:=hc.2;exact floordiv_int (by omega) (by rw[Int.fdiv_eq_ediv_of_nonneg i (by omega)];exact q) (.inl (PyProof.noPylong_small (by omega)))
theorem NN:fD X (binaryOp .Mod) (rI (λ_ j=>0<j) λi j=>.int (i % j)):=U' λi j _ _ _ _ _ hc q=>by have h1:(0:Int)<j:=hc;exact mod_int' (by omega) (by rw[Int.fmod_eq_emod_of_nonneg i (by omega)];exact q)
theorem NO:fD X (binaryOp .Pow) (rI R9 λi j=>.int (i ^ j.toNat)):=U' λ_ _ _ _ _ _ _ hc q=>pow_int_small hc.1 hc.2.1 hc.2.2 q
theorem II:fD X (inplaceOp .Add) (uD λi j=>.int (i+j)):=NI λ_ _ _ _ _ _ _ q=>iadd_int q
theorem unI{f:Value->Sem Value}{g:Int->Int}(rule:∀(i:Int) (t:Tok) (s:Shared) (Q:qad) (E:qad),Q (.int (g i) s.toks) {s with toks:=s.toks+1}->wpAny (model X.prog X.w) X.A (f (.int i t)) Q E s) :
  WH X f (rU λi=>.int (g i)):=by
 intro pins s σ H x v Q I rx h;obtain⟨i,rfl,q⟩:=h;obtain⟨t,rfl⟩:=rx;exact rule i t s _ _ ⟨.int (g i),H,I.tok _,⟨_,rfl⟩,q⟩
theorem NP:WH X (unaryOp .USub) (rU λi=>.int (-i)):=unI λ_ _ _ _ _ q=>neg_int q
end
section
variable{X:Cx}{a c:Expr}{ta tb tc:TE}
theorem Et{pins:qaa}{σ:St}{H:Hp}{s:Shared}{Q:VK}{k k':Bool}(I:Inv X pins σ H s)(q:Q (.bl k) H)(e:k=k'):EP X pins σ Q (.bool k') s:=by subst e;exact⟨.bl k,H,I,rfl,q⟩
theorem LV:fD X (compareOp .Lt) (uD λi j=>.bl (decide (i<j))):=NJ λ_ _ _ _ _ _ _ q=>lt_int q
theorem Eu:fD X (compareOp .LtE) (uD λi j=>.bl (decide (i<=j))):=NJ λ_ _ _ _ _ _ _ q=>le_int q
theorem R_:fD X (compareOp .Gt) (uD λi j=>.bl (decide (j<i))):=NJ λ_ _ _ _ _ _ _ q=>gt_int q
theorem Ck:fD X (compareOp .In) (λx y H Q=>∃i j,x=.str i/\y=.str j/\Q (.bl (!(Builtin.Str.occurrences j i 0 j.length 1).isEmpty)) H):=by intro pins s σ H x y v u Q I rx ry h;obtain⟨i,j,rfl,rfl,q⟩:=h;obtain⟨t,rfl⟩:=rx;obtain⟨t',rfl⟩:=ry;exact in_str (Et I q rfl)
theorem NQ:fD X (compareOp .Is) (λx y H Q=>y=.bR/\Q (.bl (decide (x=.bR))) H):=by
 intro pins s σ H x y v u Q I rx ry h;obtain⟨rfl,q⟩:=h;cases ry;refine is_none_gen (Et I q ?_);cases x<;>first
  | (cases rx;rfl)
  | (obtain⟨t,rfl⟩:=rx;rfl)
theorem fD.or{f:Value->Value->Sem Value}{r r':R2}(h:fD X f r)(h':fD X f r'):fD X f (λx y H Q=>r x y H Q\/r' x y H Q):=by
 intro pins s σ H x y v u Q I rx ry q;obtain q|q:=q
 exact h pins s σ H x y v u Q I rx ry q;exact h' pins s σ H x y v u Q I rx ry q
theorem j_(b:Expr){op:CmpOp}(h:op≠.In:=by decide)(h2:op≠.NotIn:=by decide):behindInMarks op b=false:=by
 have e1:(op==CmpOp.In)=false:=by cases op<;>first|rfl|exact absurd rfl h
 have e2:(op==CmpOp.NotIn)=false:=by cases op<;>first|rfl|exact absurd rfl h2
 cases b<;>simp[behindInMarks,e1,e2]
theorem IJ{op:CmpOp}{r:R2}(ho:fD X (compareOp op) r)(ha:PE X a ta)(hb:PE X b tb)(hm:behindInMarks op b=false):PE X (.Compare a [op] [b] pos) (R6 r ta tb):=by intro pins s σ H Q I h;exact wpAny_Compare1 (NH ha hb I h λv u s2 x y H2 I2 rx ry q=>ho pins s2 σ H2 x y v u Q I2 rx ry q) hm
def LW(t:TE):TT:=λσ H Q=>t σ H λx H'=>∃k,x=.bl k/\Q k H'
theorem IK{op:CmpOp}{r:R2}(ho:fD X (compareOp op) r)(ha:PE X a ta)(hb:PE X b tb)(hm:behindInMarks op b=false):PT X (.Compare a [op] [b] pos) (LW (R6 r ta tb)):=by
 intro pins s σ H Q I h;refine wpAny_isTrue_Compare1 (cm (ha pins s σ H _ I h) λv s1 ⟨x,H1,I1,r1,q1⟩=>cm (hb pins s1 σ H1 _ I1 q1) λu s2 ⟨y,H2,I2,r2,q2⟩ =>
  cm (ho pins s2 σ H2 x y v u _ I2 r1 r2 q2) λc s3 ⟨z,H3,I3,r3,k,e,q3⟩=>?_) hm
 subst e;cases r3;exact wpAny_truthy_bool ⟨H3,I3,q3⟩
def yW(r r':R2)(ta tb tc:TE):TE:=λσ H Q=>ta σ H λx H1=>tb σ H1 λy H2=>r x y H2 λz H3=>∃k,z=.bl k /\
 (if k=true then tc σ H3 λw' H4=>r' y w' H4 Q else Q (.bl false) H3)
theorem Ew{op yX:CmpOp}{r r':R2}(ho:fD X (compareOp op) r)(wz:fD X (compareOp yX) r')(ha:PE X a ta)(hb:PE X b tb)(hc:PE X c tc)(hm:lastMarks [op,yX] [b,c]=false:=by with_unfolding_all rfl):PE X (.Compare a [op,yX] [b,c] pos) (yW r r' ta tb tc):=by
 intro pins s σ H Q I h;refine Compare_chain (cm (ha pins s σ H _ I h) λv s1 ⟨x,H1,I1,r1,q1⟩=>chain_link (cm (hb pins s1 σ H1 _ I1 q1) λu s2 ⟨y,H2,I2,r2,q2⟩ =>
  cm (ho pins s2 σ H2 x y v u _ I2 r1 r2 q2) λd s3 ⟨z,H3,I3,r3,k,e,q3⟩=>?_)) hm
 subst e;cases r3;refine wpAny_truthy_bool ?_;cases k with
 |false=>exact ite_ff ⟨.bl false,H3,I3,rfl,q3⟩
 |true=>exact ite_tt (chain_last (cm (hc pins s3 σ H3 _ I3 q3) λw' s4 ⟨z',H4,I4,r4,q4⟩=>wz pins s4 σ H4 y z' u w' Q I4 r2 r4 q4))
theorem Ey{op yX:CmpOp}{r r':R2}(ho:fD X (compareOp op) r)(wz:fD X (compareOp yX) r')(ha:PE X a ta)(hb:PE X b tb)(hc:PE X c tc)(hm:lastMarks [op,yX] [b,c]=false:=by with_unfolding_all rfl):PT X (.Compare a [op,yX] [b,c] pos) (LW (yW r r' ta tb tc)):=by
 intro pins s σ H Q I h;refine isTrue_chain (cm (ha pins s σ H _ I h) λv s1 ⟨x,H1,I1,r1,q1⟩=>test_link (cm (hb pins s1 σ H1 _ I1 q1) λu s2 ⟨y,H2,I2,r2,q2⟩ =>
  cm (ho pins s2 σ H2 x y v u _ I2 r1 r2 q2) λd s3 ⟨z,H3,I3,r3,k,e,q3⟩=>?_)) hm
 subst e;cases r3;refine wpAny_truthy_bool ?_;cases k with
 |false=>obtain⟨k',e',q'⟩:=q3;cases e';exact ite_ff ⟨H3,I3,q'⟩
 |true=>refine ite_tt (test_last (cm (hc pins s3 σ H3 _ I3 q3) λw' s4 ⟨z',H4,I4,r4,q4⟩=>cm (wz pins s4 σ H4 y z' u w' _ I4 r2 r4 q4) λd' s5 ⟨z2,H5,I5,r5,k2,e2,q5⟩=>?_));subst e2;cases r5;exact wpAny_truthy_bool ⟨H5,I5,q5⟩
theorem mD:(sizeLine:Nat)<2 ^ 63:=by rw[sizeLine_eq];decide
theorem yY:fD X (binaryOp .Add) (λx y H Q=>∃i j,x=.str i/\y=.str j/\i.length+j.length<=sizeLine/\Q (.str (i++j)) H):=by intro pins s σ H x y v u Q I rx ry h;obtain⟨i,j,rfl,rfl,hz,q⟩:=h;obtain⟨t,rfl⟩:=rx;obtain⟨t',rfl⟩:=ry;exact add_str (λt' tk=>⟨.str (i++j),H,I.tok _,⟨_,rfl⟩,q⟩) hz
theorem vals1{x:V}{us:qag}(r:Vals [x] us):∃u,us=[u]/\RelV x u:=by
 cases r with
 |cons r1 r2=>cases r2;exact⟨_,rfl,r1⟩
theorem vals2{x y:V}{us:qag}(r:Vals [x,y] us):∃u w',us=[u,w']/\RelV x u/\RelV y w':=by
 cases r with
 |cons r1 r2=>
  cases r2 with
  |cons r3 r4=>cases r4;exact⟨_,_,rfl,r1,r3⟩
end
theorem mx.some_of{v:V}{o:Option Value}(r:mx (some v) o):∃u,o=some u/\RelV v u:=by
 cases o with
 |none=>exact (show False from r).elim
 |some u=>exact⟨u,rfl,r⟩
section
variable{X:Cx}{pins:qaa}{σ:St}{H:Hp}{s:Shared}{fs:List (Str×V)}{f:Str}{v:V}{E:qad}
theorem IM{env:Env}{f:Str}{s:Shared}{Q:qad}(hb:attributeBase e f env (eval e env)=eval e env)(h:wpAny (model prog w) A (eval e env) (λo s₁=>wpAny (model prog w) A (getAttr o f true) Q E s₁) E s):wpAny (model prog w) A (eval (.Attribute e f pos) env) Q E s :=
 Attribute_any_ h (by rw[arm_eval_Attribute,hb])
end
structure bM(k:Nat)(A:Around):Prop where
 hd:A.handled=none
 dp:A.depth+3 * k+5<recursionLimit
 un:A.units+16 * k+200<cLine
theorem bM.mono{k:Nat}(r:bM k A)(h:j<=k):bM j A:=⟨r.hd,by have:=r.dp;omega,by have:=r.un;omega⟩
theorem bM.deeper{k:Nat}(r:bM (k+1) A)(env:Env):bM k (A.deeper env) :=
 ⟨r.hd,by have:=r.dp;show A.depth+1+3 * k+5<_;omega,by have:=r.un;show A.units+3+16 * k+200<_;omega⟩
theorem yZ{us:qag}{kw:List (Str×Value)}:(A.under (.builtin "type.__call__" ⟨.ref C::us,kw⟩)).depth=A.depth+1:=by first|rfl|simp[Around.under,Code.weight,Code.isCreation,Code.isGuard,Code.isCaller,Code.frames,Code.isFrame,guardIds]
theorem y0{us:qag}{kw:List (Str×Value)}:(A.under (.builtin "type.__call__" ⟨.ref C::us,kw⟩)).units=A.units+1:=by first|rfl|simp[Around.under,Code.cUnits,Code.frames,Code.isFrame]
theorem bM.make{k:Nat}(r:bM (k+1) A)(C:Addr)(us:qag)(kw:List (Str×Value)):bM k (A.under (.builtin "type.__call__" ⟨.ref C::us,kw⟩)) :=
 ⟨r.hd,by have:=r.dp;rw[yZ];omega,by have:=r.un;rw[y0];omega⟩
theorem bM.depth{k:Nat}(r:bM k A):A.depth<recursionLimit:=by have:=r.dp;omega
def NR:TA:=λ_ H Q=>Q [] H
def Ez(ta:TE)(tr:TA):TA:=λσ H Q=>ta σ H λx H1=>tr σ H1 λxs H2=>Q (x::xs) H2
section
variable{X:Cx}{es:qap}{te:TE}{t:TA}
theorem cF:PA X [] NR:=λ_ _ _ _ H Q I h=>Calls.spliced_nil ⟨[],H,I,.nil,h⟩
theorem bj(ha:PE X e te)(hr:PA X es t)(hs:starEach (e::es) X.env=(false,eval e X.env)::starEach es X.env:=by rfl):PA X (e::es) (Ez te t):=by intro pos pins s σ H Q I h;rw[hs];show wpAny _ _ (spliced ((false,eval e X.env)::backTo pos (starEach es X.env))) _ _ s;refine QR (cm (ha pins s σ H _ I h) λu s1 ⟨x,H1,I1,r1,q1⟩=>?_);exact cm (hr pos pins s1 σ H1 _ I1 q1) λus s2 ⟨xs,H2,I2,r2,q2⟩=>⟨x::xs,H2,I2,.cons r1 r2,q2⟩
def WI(t:TA):TE:=λσ H Q=>t σ H λxs H1=>xs.length<=sizeLine/\∀p,H1 p=none->Q (.ref p) (upd H1 p (.tup xs))
def WJ(t:TA):TE:=λσ H Q=>t σ H λxs H1=>xs.length<=sizeLine/\∀p,H1 p=none->Q (.ref p) (upd H1 p (.lst xs))
theorem NT{x1}(h:PA X es t):PE X (.Tuple es x1 pos) (WI t):=by intro pins s σ H Q I hq;refine wpAny_Tuple_spliced (cm (h pos pins s σ H _ I hq) λus s1 ⟨xs,H1,I1,r,z,q⟩=>⟨by rw[<- r.length];exact z,?_⟩);have hf:H1 s1.heap.objs.size=none:=I1.bG.fresh (eB _);refine⟨.ref s1.heap.objs.size,upd H1 s1.heap.objs.size (.tup xs),I1.laid (t':=s1.toks) (λb u e=>eD _ e) (eB _) ?_,rfl,q _ hf⟩;exact⟨z,us,r,⟨_,ph _ rfl,rfl,_,rfl⟩⟩
theorem NU(h:PA X es t):PE X (.List es pos) (WJ t):=by intro pins s σ H Q I hq;refine wpAny_List_spliced (cm (h pos pins s σ H _ I hq) λus s1 ⟨xs,H1,I1,r,z,q⟩=>⟨by rw[<- r.length];exact z,?_⟩);have hf:H1 s1.heap.objs.size=none:=I1.bG.fresh (eB _);refine⟨.ref s1.heap.objs.size,upd H1 s1.heap.objs.size (.lst xs),I1.laid (t':=s1.toks) (λb u e=>eD _ e) (eB _) ?_,rfl,q _ hf⟩;exact⟨z,us,0,r,ph _ rfl⟩
end
abbrev Sp:=List V->Hp->VK->XK->Prop
abbrev AY:=List Env->Hp->Shared->XK->qad
structure y7(P:Program)(w:World)(K:qaf)(mg:qae)(base:Heap)(A:Around)(outer:List Env)(s:Shared)(H:Hp):Prop where
 frames:A.frames=some outer
 mod:Mod K mg base
 bs:∀b o,base.get? b=some o->s.heap.get? b=some o/\H b=none
 H_:base.objs.size<=s.heap.objs.size
 my:s.heap.FunFrames base outer
 LQ:∀b∈kK outer,H b=none
 bG:jL P w H s.heap
 bare:AllBare s.gens
def CE(outer:List Env)(P:Program)(w:World)(H:Hp)(s:Shared)(Q:VK)(u:Value)(s':Shared):Prop :=
 ∃v H',s'.os=s.os/\AllBare s'.gens/\Un (kK outer) [] H H' s.heap s'.heap/\jL P w H' s'.heap/\RelV v u/\Q v H'
def CR(CX:AY)(outer:List Env)(P:Program)(w:World)(H:Hp)(s:Shared)(Q:VK)(E:XK)(r:Result)(s':Shared):Prop :=
 match r with
 |.ok (.ret u)=>CE outer P w H s Q u s'
 |.ok _=>False
 |.error e=>CX outer H s E e s'
structure eM(P:Program)(w:World)(K:qaf)(mg:qae)(base:Heap)(CX:AY)(k:Nat)(f:Addr)(fd:FuncData)(ps:qai)(sp:Sp):Prop where
 len:∀vs H Q E,sp vs H Q E->vs.length=ps.length
 run:∀(A:Around)(outer:List Env)(s:Shared)(H:Hp)(args:Args)(us:qag)(vs:List V)(Q:VK)(E:XK),bM k A->y7 P w K mg base A outer s H->BindsTo s fd args (ps.zip us)->Vals vs us->sp vs H Q E ->
  codeAny (model P w) A (.call (.ref f) args) (CR CX outer P w H s Q E) s
theorem eM.mono{K:qaf}{mg:qae}{CX:AY}{k:Nat}{ps:qai}{sp:Sp}(F:eM P w K mg base CX j f fd ps sp)(h:j<=k) :
 eM P w K mg base CX k f fd ps sp:=⟨F.len,λA outer s H args us vs Q E hr=>F.run A outer s H args us vs Q E (hr.mono h)⟩
theorem y7.make{K:qaf}{mg:qae}{outer:List Env}{s:Shared}{H:Hp}(e:y7 P w K mg base A outer s H)(C:Addr)(us:qag)(kw:List (Str×Value)) :
 y7 P w K mg base (A.under (.builtin "type.__call__" ⟨.ref C::us,kw⟩)) outer s H:=⟨by first|exact e.frames|(simpa[Around.under,Code.envs,Code.isFrame,pushEnvs] using e.frames),e.mod,e.bs,e.H_,e.my,e.LQ,e.bG,e.bare⟩
section
variable{X:Cx}{pins:qaa}{σ:St}{H:Hp}{s:Shared}
theorem Inv.NV(I:Inv X pins σ H s):y7 X.prog X.w X.K X.mg X.base X.A X.stack s H :=
 ⟨I.ok.frames,I.ok.mod,I.bs,mw I.ok.H_ I.sz,I.stack,I.oR,I.bG,I.bare⟩
theorem Inv.after{Q:VK}(I:Inv X pins σ H s)(h:CE X.stack X.prog X.w H s Q u s'):EP X pins σ Q u s':=by obtain⟨v,H',os,bare,un,bG,r,q⟩:=h;obtain⟨hh,g,d,t,R'⟩:=s';obtain rfl:R'=s.os:=os;exact⟨v,H',I.call (h':=hh) (g':=g) (d':=d) (t':=t) (ch:=[]) un bG bare (λb z=>absurd z (by simp)),r,q⟩
end
def Sa(sp:Sp)(IP:List V)(E:XK)(t:TA):TE:=λσ H Q=>t σ H λvs H1=>sp (vs++IP) H1 Q E
def Binds(K:qaf)(fd:FuncData)(ps:qai)(ds:qag):Prop :=
 ∀(s:Shared)(us:qag),K.In s.heap->(us++ds).length=ps.length->BindsTo s fd ⟨us,[]⟩ (ps.zip (us++ds))
theorem Binds.all{K:qaf}{ps:qai}(h:∀us:qag,us.length=ps.length->bindArgs fd ⟨us,[]⟩=pure (ps.zip us)):Binds K fd ps []:=λs us _ hl=>by rw[HV] at hl ⊢;exact .of_eq (h us hl)
def Passes(CX:AY)(X:Cx)(E:XK):Prop:=∀(pins:qaa)(σ:St)(H:Hp)(s:Shared)(e:Value)(s':Shared),Inv X pins σ H s->CX X.stack H s E e s'->X.xe e s'
section
variable{X:Cx}{CX:AY}{k:Nat}{ps:qai}{sp:Sp}{IP:List V}{ds:qag}{E:XK}{m:Str}{o:Expr}{es:qap}{ta:TE}{t:TA}
theorem EA{pins:qaa}{σ:St}{H:Hp}{s:Shared}{Q:VK}{us:qag}{vs:List V}(F:eM X.prog X.w X.K X.mg X.base CX k f fd ps sp)(hr:bM k X.A)(hb:Binds X.K fd ps ds)(hd:Vals IP ds)(hx:Passes CX X E)(I:Inv X pins σ H s)(r:Vals vs us)(h:sp (vs++IP) H Q E):wpAny (model X.prog X.w) X.A (call (.ref f) us) (EP X pins σ Q) X.xe s:=by
 have r2:Vals (vs++IP) (us++ds):=r.append hd;have hl:(us++ds).length=ps.length:=by rw[<- r2.length];exact F.len _ _ _ _ h
 refine wpAny_call (codeAny_mono (F.run X.A X.stack s H ⟨us,[]⟩ (us++ds) (vs++IP) Q E hr I.NV (hb s us I.jS hl) r2 h) λr s' hq=>?_);cases r with
 |error e=>exact hx pins σ H s e s' I hq
 |ok fl=>
  cases fl with
  |ret u=>exact I.after hq
  |_=>exact False.elim hq
theorem kO(F:eM X.prog X.w X.K X.mg X.base CX k f fd ps sp)(hr:bM k X.A)(hg:Gl X x)(hm:X.mg x=some (.ref f))(hk:PySem.W.keepIn X.K (.ref f)=true)(hb:Binds X.K fd ps ds)(hd:Vals IP ds)(hx:Passes CX X E)(ha:PA X (e::es) t)(kP:fW x:=by decide)(he:starEach (e::es) X.env=(false,eval e X.env)::starEach es X.env:=by rfl)(fz:(backTo pos (starEach es X.env)).any (·.1)=false:=by rfl) :
  PE X (.Call (.Name x p) (e::es) [] pos) (Sa sp IP E t):=by
 intro pins s σ H Q I h;refine wpAny_Call_Name_kw (ie I hg hm ?_ kP);refine RD (h₀:=X.base) I.ok.mod.Nl hk (cm (ha pos pins s σ H _ I h) λus s1 ⟨vs,H1,I1,r,q⟩=>⟨I1.jS,?_⟩) he fz;exact EA F hr hb hd hx I1 r q
end
section
variable{X:Cx}{CX:AY}{k:Nat}{ps ks:qai}{sp:Sp}{E:XK}{m:Str}{WK:Pos}{o:Expr}{es:qap}{kws:List Keyword}{te ta:TE}{t tk:TA}{nm:Option Str}
variable{g:qag->qag->qag}{gV:List V->List V->List V}
end
structure aJ(N P:qai)(sc:Scope):Prop where
 kind:sc.kind=.function
 co:sc.isCoroutine=false
 gen:sc.isGenerator=false
 nd:N.Nodup
 pre:N.take P.length=P
 par:∀x∈P,sc.names.lookup x=some .local\/sc.names.lookup x=some .cell
 NW:∀y∈sc.names,y.2≠.free
theorem ij{N P:qai}(a:sc.kind=.function:=by rfl)(b:sc.isCoroutine=false:=by rfl)(c:sc.isGenerator=false:=by rfl)(d:N.Nodup:=by decide +kernel)(e:N.take P.length=P:=by rfl)(f:∀x∈P,sc.names.lookup x=some .local\/sc.names.lookup x=some .cell:=by decide +kernel)(g:∀y∈sc.names,y.2≠.free:=by decide +kernel):aJ N P sc:=⟨a,b,c,d,e,f,g⟩
theorem sR{kindOf:Str->Option NameKind}{x:Str}:∀{binds:List (Str×Value)}{m:qae},(∀v,(x,v)∉binds)->bindL kindOf binds m x=m x
 |[],_,_=>rfl
 | (n,v)::r,m,h=>by
  unfold bindL;rw[sR λw hw=>h w (fY _ hw)];split;have:x≠n:=by rintro rfl;exact h v eE
  simp[this];rfl
theorem sS{kindOf:Str->Option NameKind}{x:Str}:∀{binds:List (Str×Value)}{m:qae},(∀v,(x,v)∉binds)->bindC kindOf binds m x=m x
 |[],_,_=>rfl
 | (n,v)::r,m,h=>by
  unfold bindC;rw[sS λw hw=>h w (fY _ hw)];split;rfl;have:x≠n:=by rintro rfl;exact h v eE
  simp[this]
theorem sT{kindOf:Str->Option NameKind}{x:Str}{v:Value}:∀{P:qai}{vs:qag}{i:Nat}{m:qae},P.Nodup->P[i]?=some x->vs[i]?=some v->kindOf x=some .local ->
  bindL kindOf (P.zip vs) m x=some v
 |[],_,_,_,_,h,_,_=>by simp at h
 |_::_,[],_,_,_,_,h,_=>by simp at h
 |p::P,w::vs,0,m,nd,h1,h2,hk=>by simp at h1 h2;subst h1;subst h2;show bindL kindOf ((p,w)::P.zip vs) m p=_;unfold bindL;rw[sR λv hv=>(sO.mp nd).1 (List.of_mem_zip hv).1,if_pos hk];simp
 |p::P,w::vs,i+1,m,nd,h1,h2,hk=>by show bindL kindOf ((p,w)::P.zip vs) m x=_;unfold bindL;exact sT (i:=i) (sO.mp nd).2 (by simpa using h1) (by simpa using h2) hk
theorem sU{kindOf:Str->Option NameKind}{x:Str}{v:Value}:∀{P:qai}{vs:qag}{i:Nat}{m:qae},P.Nodup->P[i]?=some x->vs[i]?=some v->kindOf x≠some .local ->
  bindC kindOf (P.zip vs) m x=some v
 |[],_,_,_,_,h,_,_=>by simp at h
 |_::_,[],_,_,_,_,h,_=>by simp at h
 |p::P,w::vs,0,m,nd,h1,h2,hk=>by simp at h1 h2;subst h1;subst h2;show bindC kindOf ((p,w)::P.zip vs) m p=_;unfold bindC;rw[sS λv hv=>(sO.mp nd).1 (List.of_mem_zip hv).1,if_neg hk];simp
 |p::P,w::vs,i+1,m,nd,h1,h2,hk=>by show bindC kindOf ((p,w)::P.zip vs) m x=_;unfold bindC;exact sU (i:=i) (sO.mp nd).2 (by simpa using h1) (by simpa using h2) hk
noncomputable def start(N:qai)(vs:List V):St:=vs.map some++List.replicate (N.length-vs.length) none
noncomputable def fE(CX:AY)(P:Program)(w:World)(K:qaf)(mg:qae)(base:Heap)(N:qai)(qual:Str)(scope:Scope)(f:Addr)(cd:Value)(A:Around)(outer:List Env)(s:Shared)(H:Hp)(E:XK):Cx where
 prog:=P
 w:=w
 K:=K
 mg:=mg
 base:=base
 A:=A.deeper (envOfC qual scope s.heap.objs.size f cd)
 N:=N
 s₀:=s
 H₀:=H
 env:=envOfC qual scope s.heap.objs.size f cd
 outer:=outer
 stack:=envOfC qual scope s.heap.objs.size f cd::outer
 ex:=[]
 calm:=true
 fn:=λ_=>true
 pn:=[]
 xe:=λe s'=>wpAny (model P w) (A.deeper (envOfC qual scope s.heap.objs.size f cd)) (leaving (envOfC qual scope s.heap.objs.size f cd) e) (λ_ NX=>CX outer H s E e NX) (λe' NX=>CX outer H s E e' NX) s'
theorem wA(h:sc.names.lookup x=some .cell):∃c,(cellsFrom n sc.names []).lookup x=some c:=by have q:=PySem.W.cellsFrom_some sc.names n [] (.inl h);exact V5.mp q
theorem Cm{CX:AY}{K:qaf}{mg:qae}{N ps:qai}{cd:Value}{outer:List Env}{s s1:Shared}{H:Hp}{E:XK}{us:qag}{vs:List V}(S:aJ N ps scope)(hd:A.handled=none)(e0:y7 P w K mg base A outer s H)(hl:vs.length=ps.length)(r:Vals vs us)(x:InCallC s s.heap.objs.size (bindL (envOfC qual scope s.heap.objs.size f cd).kindOf (ps.zip us) λ_=>none) (cellsFrom (s.heap.objs.size+1) scope.names []) (bindC (envOfC qual scope s.heap.objs.size f cd).kindOf (ps.zip us) λ_=>none) s1) :
  Inv (fE CX P w K mg base N qual scope f cd A outer s H E) [] (start N vs) H s1:=by
 have fz:ps.length<=N.length:=by have:=congrArg List.length S.pre;rw[Ea] at this;omega
 obtain⟨h1,tk,rfl,hk⟩:=x.done;have Sb:∀b:Addr,b∉(fE CX P w K mg base N qual scope f cd A outer s H E).ex:=λb z=>absurd (show b∈([]:qah) from z) (by simp);refine⟨⟨e0.mod,S.kind,rfl,rfl,eB _,λy z c h1 h2=>?_,λy hy=>?_,λy c _ h=>?_,λ_=>hd,Around.frames_deeper e0.frames,.inr ⟨rfl,rfl⟩,λb z=>absurd z (Sb b),e0.bs,e0.H_,λb _ _=>Sb b,λb z=>absurd z (Sb b),e0.my,e0.LQ⟩,
  rfl,e0.bare,Un.kept hk,⟨_,x.toInCall.ns,λi y v h1 h2 h3=>?_⟩,λy c h=>⟨_,x.cell y c h⟩,e0.bG.fresh (eB _),λy c h=>?_,λp hp=>absurd (show p∈([]:qaa) from hp) (by simp),e0.bG.kept hk,?_⟩
 exact name_of_addr x.apart (LK h1) (LK h2);have hy:scope.names.lookup y=some .cell\/scope.names.lookup y=some .free:=hy;obtain hy|hy:=hy
 exact wA hy;exact absurd rfl (S.NW _ (LK hy));exact Nat.le_of_lt (x.above y c (LK h));have hi:i<vs.length:=by unfold start at h2;by_cases hi:i<vs.length;exact hi;rw[AL (by simpa using hi)] at h2;rw[M9] at h2;split at h2<;>cases h2
 have ha:vs[i]?=some v:=by
  unfold start at h2;rw[wg (by simpa using hi),mf] at h2;cases e:vs[i]? with
  |none=>rw[e] at h2;cases h2
  |some a=>rw[e] at h2;cases h2;rfl
 obtain⟨u,hu,rv⟩:=r.get ha;have hp:ps[i]?=some y:=by rw[<- S.pre,List.getElem?_take_of_lt (by omega)];exact h1
 have Zk:ps.Nodup:=by rw[<- S.pre];exact S.nd.sublist (List.take_sublist _ _)
 refine⟨u,rv,?_⟩;rcases S.par y (mn hp) with k|k
 exact .inl ⟨k,sT Zk hp hu k⟩;obtain⟨c,e⟩:=wA (n:=s.heap.objs.size+1) k;refine .inr ⟨.inl k,c,e,?_⟩;have q:=x.cell y c e;rw[sU Zk hp hu (by show scope.names.lookup y≠_;rw[k];decide)] at q;exact q;exact e0.bG.fresh (Nat.le_of_lt (x.above y c (LK h)));unfold start;show _=N.length;rw[j6,bQ,DV];omega
theorem LX{CX:AY}{K:qaf}{mg:qae}{k:Nat}{name:Str}{params:Arguments}{body:qaq}{dV kV doc pm bS ct oc:Value}{an od:qar}{AZ:Array (Option Value)}{N ps:qai}{sp:Sp}(lk:K.lookup f=some ⟨oc,od,.func (PySem.W.fnOf name qual params body scope dV kV doc pm an bS ct),AZ⟩)(gM:PySem.W.codeIn K bS qual=true)(S:aJ N ps scope)(len:∀vs H Q E,sp vs H Q E->vs.length=ps.length)(kQ:∀(A:Around) (outer:List Env) (s:Shared) (H:Hp) (vs:List V) (Q:VK) (E:XK),bM k (A.deeper (envOfC qual scope s.heap.objs.size f bS))->sp vs H Q E ->
    ∃t,oU (fE CX P w K mg base N qual scope f bS A outer s H E) body t/\t {nx:=λ_ H'=>Q .bR H',rt:=Q} (start N vs) H) :
  eM P w K mg base CX (k+1) f (PySem.W.fnOf name qual params body scope dV kV doc pm an bS ct) ps sp:=by
 refine⟨len,λA outer s H args us vs Q E hr e0 hb r LY=>?_⟩;have hl:=len _ _ _ _ LY;have KX:K.In s.heap:=e0.mod.Nl.keeps λb o e=>(e0.bs b o e).1;have lim:s.heap.NoLimit:=e0.mod.nolimit.keeps λb o e=>(e0.bs b o e).1;have Sd:∀y∈ps.zip us,scope.names.lookup y.1=some .local\/(scope.names.lookup y.1=some .cell/\((cellsFrom (s.heap.objs.size+1) scope.names []).lookup y.1).isSome=true):=λ⟨n,v⟩ hy=>by
  rcases S.par n (List.of_mem_zip hy).1 with q|q
  exact .inl q;exact .inr ⟨q,PySem.W.cellsFrom_some _ _ _ (.inl q)⟩
 refine codeAny_call_function hr.depth (KX _ _ lk) rfl S.co S.gen rfl (PySem.W.codeRec_of KX gM) (hb _ _ _ _ ?_);refine wpAny_newFunctionEnv_cells S.kind Sd λenv he s1 x=>?_;subst he;refine⟨lim.keeps x.toInCall.keep,codeAny_func ?_⟩;obtain⟨t,ht,hq⟩:=kQ A outer s H vs Q E (hr.deeper _) LY;have I:Inv (fE CX P w K mg base N qual scope f bS A outer s H E) [] (start N vs) H s1:=Cm S hr.hd e0 hl r x;refine wpAny_mono (ht [] s1 (start N vs) H _ I hq) (λfl s' hs=>?_) λe s' hs=>hs;have fin:∀{σ':St}{H':Hp}{v:V}{u:Value},Inv (fE CX P w K mg base N qual scope f bS A outer s H E) [] σ' H' s'->RelV v u->Q v H'->CE outer P w H s Q u s' :=
  λ{σ' H' v u} J rv q=>⟨v,H',J.os,J.bare,J.base,J.bG,rv,q⟩
 cases fl with
 |ret u=>obtain⟨v,σ',H',J,rv,q⟩:=hs;exact fin J rv q
 |next=>obtain⟨σ',H',J,q⟩:=hs;exact fin (v:=V.bR) (u:=Value.none) J rfl q
 |brk=>obtain⟨_,_,_,q⟩:=hs;exact False.elim q
 |cont=>obtain⟨_,_,_,q⟩:=hs;exact False.elim q
section
variable{X:Cx}{es:qap}{t:TA}{id T:String}{r:List V->Hp->VK->Prop}
def Zl(r:List V->Hp->VK->Prop)(t:TA):TE:=λσ H Q=>t σ H λvs H1=>r vs H1 Q
theorem kR(hc:cN X (.builtin id) r)(hg:Gl X x)(hm:X.mg x=none)(hv:bootBuiltins x=some (.builtin id))(ha:PA X (e::es) t)(hn:x≠"__name__":=by decide)(kP:fW x:=by decide)(he:starEach (e::es) X.env=(false,eval e X.env)::starEach es X.env:=by rfl)(fz:(backTo pos (starEach es X.env)).any (·.1)=false:=by rfl):PE X (.Call (.Name x p) (e::es) [] pos) (Zl r t):=by intro pins s σ H Q I h;refine wpAny_Call_Name_kw (j8 I hg hm hv ?_ hn kP);exact PyProof.Rows.callWith_builtin1 (cm (ha pos pins s σ H _ I h) λus s1 ⟨vs,H1,I1,r1,q1⟩=>hc pins s1 σ H1 vs us Q I1 r1 q1) he fz
theorem sV(hc:cN X (.type T) r)(hg:Gl X x)(hm:X.mg x=none)(hv:bootBuiltins x=some (.type T))(ha:PA X (e::es) t)(hn:x≠"__name__":=by decide)(kP:fW x:=by decide)(he:starEach (e::es) X.env=(false,eval e X.env)::starEach es X.env:=by rfl)(fz:(backTo pos (starEach es X.env)).any (·.1)=false:=by rfl):PE X (.Call (.Name x p) (e::es) [] pos) (Zl r t):=by intro pins s σ H Q I h;refine wpAny_Call_Name_kw (j8 I hg hm hv ?_ hn kP);exact UN (cm (ha pos pins s σ H _ I h) λus s1 ⟨vs,H1,I1,r1,q1⟩=>hc pins s1 σ H1 vs us Q I1 r1 q1) he fz
end
end L2
variable{X:L2.Cx}{K:qaf}{H H':L2.Hp}{σ:L2.St}{pins:qaa}{E Q:qad}{mg:qae}{v:L2.V}{ps ys:qai}{es:qap}{o:L2.HO}{te ta:L2.TE}{sp:L2.Sp}{us:qag}{fp tl:qah}{dd:qar}{bE:List (L2.Key×L2.V)}
abbrev qac:=List (PySem.Str×L2.V)
abbrev qak:=List L2.V
namespace HT
open PySem PyProof.Rows
section
open PySem.SeqAt
open PySem.AutoSeq1 (wpAny_loadPart')
open PySem.MeetsSeq PySem.MeetsSeq2 PySem.MeetsSeq3
end
section
variable{s:Shared}
theorem IQ{t b:Addr}{vs ws:qag}(ht:IsTup s.heap t vs.toArray)(hb:IsTup s.heap b ws.toArray)(hv:vs≠[])(h1:ws=[]->Q (.ref t) s)(h2:ws≠[]->Q (.ref s.heap.objs.size) {s with heap:=s.heap.push {cls:=.type "tuple",data:=.seq (vs++ws).toArray} })(oW:vs.length+ws.length<=sizeLine):wpAny (model prog w) A (binaryOp .Add (.ref t) (.ref b)) Q E s:=by
 obtain⟨⟨cls,dd,data,sl⟩,ho,hc,n,hd⟩:=id ht;obtain⟨⟨Se,Q2,data2,A0⟩,A1,D2,n2,hd2⟩:=id hb;simp only at hc hd D2 hd2;subst hc hd D2 hd2;have e:vs.toArray++ws.toArray=(vs++ws).toArray:=by simp
 by_cases hw:ws=[];exact concat_meets ⟨_,ho,rfl⟩ ⟨_,A1,rfl⟩ noFill_tuple_add seq_tuple_add Wc V_ (V6 _ _)
  (tuple_addW1 t b vs.toArray ws.toArray n n2 dd Q2 sl A0 (by simpa using hv) (by simp[hw])) ⟨ho,A1,h1 hw⟩
 refine concat_meets ⟨_,ho,rfl⟩ ⟨_,A1,rfl⟩ noFill_tuple_add seq_tuple_add Wc V_ (V6 _ _)
  (tuple_addW2 t b vs.toArray ws.toArray n n2 dd Q2 sl A0 (by simpa using hv) (by simpa using hw) (by rw[iR,iR];exact oW)) ⟨ho,A1,?_⟩
 rw[e];exact h2 hw
noncomputable def dD(n d:Nat):Option Int->Nat
 |none=>d
 |some v=>if v<0 then (v+(n:Int)).toNat else min v.toNat n
theorem pC(n d:Nat):dD n d none=d:=rfl
theorem jy(n d k:Nat):dD n d (some (k:Int))=min k n:=by show (if (k:Int)<0 then ((k:Int)+(n:Int)).toNat else min (k:Int).toNat n)=min k n;rw[if_neg (by omega),DW]
theorem NY(n d:Nat)(hd:d<=n)(o:Option Int):dD n d o<=n:=by
 cases o with
 |none=>exact hd
 |some v=>show (if v<0 then (v+(n:Int)).toNat else min v.toNat n)<=n;by_cases hv:v<0;rw[if_pos hv];omega;rw[if_neg hv];exact Nat.min_le_right _ _
theorem A2(v:Int)(n d:Nat):(if v<0 then max (v+(n:Int)) 0 else min v (n:Int))=((dD n d (some v):Nat):Int):=by show (if v<0 then max (v+(n:Int)) 0 else min v (n:Int))=(((if v<0 then (v+(n:Int)).toNat else min v.toNat n):Nat):Int);by_cases hv:v<0;simp only[if_pos hv];omega;simp only[if_neg hv];omega
theorem y8(lo hi:Option Int)(n:Nat):Builtin.Slice.sliceAdjust lo hi 1 (n:Int)=(((dD n 0 lo:Nat):Int),((dD n n hi:Nat):Int)):=by
 have h1:¬ ((1:Int)<0):=by omega
 unfold Builtin.Slice.sliceAdjust;simp only[h1,if_false];refine Prod.ext ?_ ?_;cases lo with
 |none=>rfl
 |some v=>exact A2 v n 0
 cases hi with
 |none=>rfl
 |some v=>exact A2 v n n
theorem y9(i j:Nat):Builtin.Slice.slicePlaces (i:Int) (j:Int) 1=j-i:=by
 unfold Builtin.Slice.slicePlaces;have h1:(1:Int) > 0:=by omega
 simp only[h1,if_true,Int.ediv_one];split<;>omega
theorem pD{v:Value}{o:Option Int}{Q:Option Int->Shared->Prop}(p:IsPart v o)(h:Q o s):wpAny (model prog w) A (Builtin.Slice.slicePartIndex v) Q E s:=by
 cases p with
 |none=>exact slicePart_none h
 |int i t=>exact slicePart_int h
theorem mE{sl:Addr}{vl vu:Value}{lo hi:Option Int}{Q:Int×Int×Nat->Shared->Prop}(hs:s.heap.IsSliceOf sl vl vu .none)(pl:IsPart vl lo)(pu:IsPart vu hi)(h:Q (((dD n 0 lo:Nat):Int),1,dD n n hi-dD n 0 lo) s):wpAny (model prog w) A (Builtin.Slice.sliceApplied (.ref sl) (pure (n:Int))) Q E s:=by obtain⟨os,Sf,Zm,Va⟩:=id hs;unfold Builtin.Slice.sliceApplied Builtin.Slice.sliceFields;refine wpAny_bind (wpAny_bind (wpAny_field Sf Va (x:=vl) rfl (wpAny_bind (wpAny_field Sf Va (x:=vu) rfl (wpAny_bind (wpAny_field Sf Va (x:=.none) rfl (wpAny_pure ?_)))))));refine wpAny_bind (slicePart_none ?_);show wpAny _ _ (if ((1:Int)==0)=true then _ else _) _ _ s;rw[if_neg (by decide)];refine wpAny_bind (pD pl (wpAny_bind (pD pu (wpAny_bind (wpAny_pure ?_)))));show wpAny _ _ (match Builtin.Slice.sliceAdjust lo hi 1 (n:Int) with|(lo,hi)=>pure (lo,(1:Int),Builtin.Slice.slicePlaces lo hi 1)) _ _ s;rw[y8 lo hi n];show wpAny _ _ (pure (((dD n 0 lo:Nat):Int),(1:Int),Builtin.Slice.slicePlaces ((dD n 0 lo:Nat):Int) ((dD n n hi:Nat):Int) 1)) _ _ s;rw[y9];exact wpAny_pure h
theorem EB(xs:Array Value)(i k:Nat):((List.range k).filterMap λ(m:Nat)=>xs[((i:Int)+(m:Int) * 1).toNat]?).toArray=((xs.toList.drop i).take k).toArray:=by
 have e:(λ(m:Nat)=>xs[((i:Int)+(m:Int) * 1).toNat]?)=λm=>xs[i+m]?:=by
  funext m;have:((i:Int)+(m:Int) * 1).toNat=i+m:=by omega
  rw[this]
 rw[e];have:=pick_run xs i k;rw[RE] at this;have e2:((λx=>xs[x]?) ∘ λx=>i+x)=λm=>xs[i+m]?:=rfl;rw[e2] at this;rw[this]
theorem kS{t sl:Addr}{vl vu:Value}{lo hi:Option Int}(ht:IsTup s.heap t items)(hs:s.heap.IsSliceOf sl vl vu .none)(pl:IsPart vl lo)(pu:IsPart vu hi)(hw:¬ (dD items.size 0 lo=0/\dD items.size items.size hi=items.size))(h:Q (.ref s.heap.objs.size) {s with heap:=s.heap.push {cls:=.type "tuple",data:=.seq ((items.toList.drop (dD items.size 0 lo)).take (dD items.size items.size hi-dD items.size 0 lo)).toArray} })(oW:items.size<=sizeLine):wpAny (model prog w) A (getItem (.ref t) (.ref sl)) Q E s:=by
 have A3:sizeOk (.seq ((items.toList.drop (dD items.size 0 lo)).take (dD items.size items.size hi-dD items.size 0 lo)).toArray):=by show ((items.toList.drop (dD items.size 0 lo)).take (dD items.size items.size hi-dD items.size 0 lo)).toArray.size<=sizeLine;rw[iR,Ea,DY,B_];omega
 have hj:dD items.size items.size hi<=items.size:=NY _ _ (eB _) hi;obtain⟨os,Sf,Zm,Va⟩:=id hs;have hTs:s.TypeIs (.ref sl) "slice":=⟨os,Sf,Zm⟩;unfold getItem
 try with_reducible refine wpAny_holding ?_
 first|refine wpAny_bind (wpAny_pure ?_)|skip
 refine wpAny_bind (wpAny_sequenceKey ht.typeIs (by decide) ?_);refine wpAny_bind (wpAny_callSpecial?_slot (name:=Str.ofString "__getitem__") ht.typeIs V1
  (wpAny_call_entry V1 ht.typeIs entry_tuple_getitem ?_ (args_tuple_getitem _ _)))
 show wpAny _ _ (Builtin.Tuple.tupleItemsOf (.ref t) >>= _) _ _ s;refine wpAny_bind (tupleItemsOf_ ht ?_);refine wpAny_bind (wpAny_typeOf hTs ?_);rw[if_pos (by decide)];refine wpAny_bind (mE hs pl pu ?_);have EC:¬ ((((dD items.size 0 lo:Nat):Int)==0 && (1:Int)==1 && (dD items.size items.size hi-dD items.size 0 lo)==items.size)=true):=by intro q;rw[eJ,eJ] at q;have q1:((dD items.size 0 lo:Nat):Int)=0:=eq_of_beq q.1.1;have q2:dD items.size items.size hi-dD items.size 0 lo=items.size:=eq_of_beq q.2;exact hw ⟨by omega,by omega⟩
 show wpAny _ _ (if (((dD items.size 0 lo:Nat):Int)==0 && (1:Int)==1 && (dD items.size items.size hi-dD items.size 0 lo)==items.size)=true then _ else _) _ _ s;rw[if_neg EC,EB]
 first
  |exact wpAny_bind (m:=Builtin.Tuple.tupleExact _) (wpAny_newObj_type (wpAny_pure ⟨_,rfl,wpAny_pure h⟩) A3)
  |exact wpAny_bind (m:=Builtin.Tuple.tupleExact _) (wpAny_newObj_type (wpAny_bind (wpAny_pure (wpAny_pure ⟨_,rfl,wpAny_pure h⟩))) A3)
  |exact wpAny_bind (wpAny_bind (m:=Builtin.Tuple.tupleExact _) (wpAny_newObj_type (wpAny_pure (wpAny_pure ⟨_,rfl,wpAny_pure h⟩)) A3))
  |exact wpAny_bind (wpAny_bind (m:=Builtin.Tuple.tupleExact _) (wpAny_newObj_type (wpAny_pure ⟨_,rfl,wpAny_pure h⟩) A3))
end
end HT
variable{vs xs:qak}
namespace L2
open PySem PySem.Spec PyProof.Rows
abbrev TO:=St->Hp->(Option Int->Hp->Prop)->Prop
def PO(X:Cx)(e:Option Expr)(t:TO):Prop :=
 ∀(pins:qaa)(s:Shared)(σ:St)(H:Hp)(Q:Option Int->Hp->Prop),Inv X pins σ H s->t σ H Q ->
  wpAny (model X.prog X.w) X.A (evalPart e X.env) (λu s'=>∃o H',Inv X pins σ H' s'/\IsPart u o/\Q o H') X.xe s
def IS:TO:=λ_ H Q=>Q none H
def Sg(t:TE):TO:=λσ H Q=>t σ H λx H1=>∃i,x=.int i/\Q (some i) H1
theorem intsAre_of{ns:qan}:∀{us:qag},Vals (ns.map V.int) us->IntsAre us ns:=by
 induction ns with
 |nil=>intro us r;rw[uB] at r;cases r;exact .nil
 |cons n ns ih=>
  intro us r;rw[dP] at r;cases r with
  |cons r1 r2=>obtain⟨t,e⟩:=r1;subst e;exact .cons n t (ih r2)
section
variable{lo hi:Option Expr}{tl th:TO}
theorem IT:PO X none IS:=by intro pins s σ H Q I h;rw[evalPart_none];exact wpAny_pure ⟨none,H,I,.none,h⟩
theorem IU(h:PE X e te):PO X (some e) (Sg te):=by intro pins s σ H Q I hw;rw[evalPart_some];refine cm (h pins s σ H _ I hw) λu s1 ⟨x,H1,I1,r1,q1⟩=>?_;obtain⟨i,rfl,q⟩:=q1;obtain⟨t,rfl⟩:=r1;exact⟨some i,H1,I1,.int i t,q⟩
def ED(X:Cx)(r:V->Option Int->Option Int->Hp->VK->Prop):Prop :=
 ∀(pins:qaa)(s:Shared)(σ:St)(H:Hp)(x:V)(v vl vu:Value)(lo hi:Option Int)(sl:Addr)(Q:VK),Inv X pins σ H s->RelV x v->s.heap.IsSliceOf sl vl vu .none->IsPart vl lo->IsPart vu hi->r x lo hi H Q ->
  ∃T id,typeLookup (.type T) "__getitem__"=pure (some (.builtin id))/\s.TypeIs v T/\wpAny (model X.prog X.w) X.A (getItem v (.ref sl)) (EP X pins σ Q) X.xe s
theorem ED.or{r r':V->Option Int->Option Int->Hp->VK->Prop}(h:ED X r)(h':ED X r'):ED X (λx lo hi H Q=>r x lo hi H Q\/r' x lo hi H Q):=by
 intro pins s σ H x v vl vu lo hi sl Q I rx hs pl pu q;obtain q|q:=q
 exact h pins s σ H x v vl vu lo hi sl Q I rx hs pl pu q;exact h' pins s σ H x v vl vu lo hi sl Q I rx hs pl pu q
def tSl(r:V->Option Int->Option Int->Hp->VK->Prop)(te:TE)(tl th:TO):TE:=λσ H Q=>te σ H λx H1=>tl σ H1 λl H2=>th σ H2 λu H3=>r x l u H3 Q
theorem EE{r:V->Option Int->Option Int->Hp->VK->Prop}(hr:ED X r)(he:PE X e te)(hl:PO X lo tl)(hu:PO X hi th):PE X (.Subscript e (.Slice lo hi none p2) pos) (tSl r te tl th):=by intro pins s σ H Q I h;refine Subscript_ (cm (he pins s σ H _ I h) λv s1 ⟨x,H1,I1,r1,q1⟩=>?_);refine wpAny_Slice (cm (hl pins s1 σ H1 _ I1 q1) λvl s2 ⟨l,H2,I2,pl,q2⟩=>cm (hu pins s2 σ H2 _ I2 q2) λvu s3 ⟨u,H3,I3,pu,q3⟩=>?_);rw[evalPart_none];refine wpAny_pure ?_;have I4:Inv X pins σ H3 {s3 with heap:=s3.heap.push {cls:=.type "slice",data:=.fields #[vl,vu,.none]} }:=I3.kept (t':=s3.toks) λb ob q=>eD _ q;obtain⟨T,id,hT,ht,hg⟩:=hr pins {s3 with heap:=s3.heap.push {cls:=.type "slice",data:=.fields #[vl,vu,.none]} } σ H3 x v vl vu l u s3.heap.objs.size Q I4 r1 (Heap.IsSliceOf.new ..) pl pu q3;show wpAny (model X.prog X.w) X.A (subscriptTail e (.Slice lo hi none p2) v (.ref s3.heap.objs.size)) (EP X pins σ Q) X.xe {s3 with heap:=s3.heap.push {cls:=.type "slice",data:=.fields #[vl,vu,.none]} };exact tail_any (ops:=[.ref s3.heap.objs.size,v]) ht hT hg (by with_unfolding_all rfl)
noncomputable def wB(xs:qak)(lo hi:Option Int):qak:=(xs.drop (HT.dD xs.length 0 lo)).take (HT.dD xs.length xs.length hi-HT.dD xs.length 0 lo)
theorem nV(xs:qak)(lo hi:Option Int):(wB xs lo hi).length<=xs.length:=by unfold wB;rw[Ea,DY];omega
def Sh(K:qaf):V->Option Int->Option Int->Hp->VK->Prop:=λx lo hi H Q=>∃a xs,x=.ref a/\eF K H a xs /\
 ¬ (HT.dD xs.length 0 lo=0/\HT.dD xs.length xs.length hi=xs.length)/\∀p,H p=none->Q (.ref p) (upd H p (.tup (wB xs lo hi)))
theorem NZ:ED X (Sh X.K):=by
 intro pins s σ H x v vl vu lo hi sl Q I rx hs pl pu h;obtain⟨a,xs,rfl,hx,hw,q⟩:=h;cases rx;obtain⟨aK,r,ht,hz⟩:=I.tuple hx;have hlen:aK.toArray.size=xs.length:=by rw[iR];exact r.length.symm
 refine⟨"tuple",_,V1.lookup,ht.typeIs,?_⟩;refine HT.kS ht hs pl pu (by rw[hlen];exact hw) ?_ (by rw[hlen];exact hz);rw[hlen];refine⟨.ref s.heap.objs.size,_,I.laid (t':=s.toks) (o:=.tup (wB xs lo hi)) (λb ob q=>eD _ q) (eB _) ?_,rfl,q _ (I.bG.fresh (eB _))⟩;exact⟨mw (nV xs lo hi) hz,_,(r.drop (HT.dD xs.length 0 lo)).take (HT.dD xs.length xs.length hi-HT.dD xs.length 0 lo),IsTup.new _ _⟩
theorem Vals.oX(r:Vals xs us):us=[]↔xs=[]:=by
 cases r with
 |_=>simp
end
noncomputable def wq(n:Nat)(i:Int):Option Nat:=if 0<=i then (if i<n then some i.toNat else none) else if -(n:Int)<=i then some (i+n).toNat else none
noncomputable def kF{α:Type}(xs:List α)(i:Int):Option α:=(wq xs.length i).bind λj=>xs[j]?
theorem A4{i:Int}(h:wq n i=some j):seqIndex? i n=some j/\j<n/\-(n:Int)<=i/\i<n:=by unfold wq at h;by_cases h0:0<=i;rw[if_pos h0] at h;by_cases h1:i<n;rw[if_pos h1] at h;have e:i.toNat=j:=Option.some.inj h;exact⟨by rw[seqIndex_of h0 h1,e],by omega,by omega,h1⟩;rw[if_neg h1] at h;cases h;rw[if_neg h0] at h;by_cases h1 : -(n:Int)<=i;rw[if_pos h1] at h;have e:(i+n).toNat=j:=Option.some.inj h;exact⟨by rw[seqIndex_neg (by omega) h1,e],by omega,h1,by omega⟩;rw[if_neg h1] at h;cases h
theorem uE{xs:List α}{i:Int}{v:α}(h:kF xs i=some v):∃j,seqIndex? i xs.length=some j/\xs[j]?=some v/\j<xs.length/\-(xs.length:Int)<=i/\i<xs.length:=by
 unfold kF at h;cases e:wq xs.length i with
 |none=>rw[e] at h;cases h
 |some j=>rw[e] at h;obtain⟨h1,h2,h3,h4⟩:=A4 e;exact⟨j,h1,h,h2,h3,h4⟩
theorem aG{xs:List α}{v:α}(h:xs[j]?=some v):kF xs (j:Int)=some v:=by
 have hj:j<xs.length:=(gN.mp h).1;have e:wq xs.length (j:Int)=some j:=by unfold wq;rw[if_pos (by omega),if_pos (by omega)];simp
 unfold kF;rw[e];exact h
theorem wC(xs:List α)(v:α):kF (xs++[v]) (-1)=some v:=by
 have hl:(xs++[v]).length=xs.length+1:=by simp
 have e:wq (xs++[v]).length (-1)=some xs.length:=by
  unfold wq;rw[hl,if_neg (by decide),if_pos (by omega)]
  congr 1
  omega
 unfold kF;rw[e];show (xs++[v])[xs.length]?=some v;simp
def A5(b:Expr):Prop:=∀o i,subscripted b false o i=operate [o,i] (getItem o i)
def IV(X:Cx)(r:R2):Prop :=
 ∀(value slice:Expr)(pins:qaa)(s:Shared)(σ:St)(H:Hp)(x y:V)(v u:Value)(Q:VK),Inv X pins σ H s->RelV x v->RelV y u->r x y H Q ->
  subscripted slice false v u=operate [v,u] (getItem v u)->wpAny (model X.prog X.w) X.A (subscriptTail value slice v u) (EP X pins σ Q) X.xe s
def Ia(X:Cx)(id:String)(r:V->qak->Hp->VK->Prop):Prop :=
 ∀(pins:qaa)(s:Shared)(σ:St)(H:Hp)(x:V)(xs:qak)(v:Value)(us:qag)(Q:VK),Inv X pins σ H s->RelV x v->Vals xs us->r x xs H Q ->
  wpAny (model X.prog X.w) X.A (call (.builtin id) (v::us)) (EP X pins σ Q) X.xe s
section
variable{a:Expr}{tb:TE}
theorem IV.or{r r':R2}(h:IV X r)(h':IV X r'):IV X (λx y H Q=>r x y H Q\/r' x y H Q):=by
 intro value slice pins s σ H x y v u Q I rx ry q hs;obtain q|q:=q
 exact h value slice pins s σ H x y v u Q I rx ry q hs;exact h' value slice pins s σ H x y v u Q I rx ry q hs
theorem Si{r:R2}(hr:IV X r)(ha:PE X a ta)(hb:PE X b tb)(hs:A5 b):PE X (.Subscript a b pos) (R6 r ta tb):=by intro pins s σ H Q I h;exact Subscript_ (NH ha hb I h λv u s2 x y H2 I2 rx ry q=>hr a b pins s2 σ H2 x y v u Q I2 rx ry q (hs _ _))
noncomputable def Sj(K:qaf):R2:=λx y H Q=>∃p xs i v,x=.ref p/\y=.int i/\fN K H p xs/\kF xs i=some v/\Q v H
noncomputable def Sk(K:qaf):R2:=λx y H Q=>∃p xs i v,x=.ref p/\y=.int i/\eF K H p xs/\kF xs i=some v/\Q v H
noncomputable def Sl:R2:=λx y H Q=>∃z i c,x=.str z/\y=.int i/\z.length<=sizeLine/\kF z.cps.toList i=some c/\Q (.str ⟨#[c]⟩) H
theorem IW:IV X (Sj X.K):=by
 intro value slice pins s σ H x y v u Q I rx ry h hs;obtain⟨p,xs,i,z,rfl,rfl,hq,he,q⟩:=h;cases rx;obtain⟨t,rfl⟩:=ry;obtain⟨aK,r,pl,hz⟩:=I.list hq;obtain⟨j,h1,h2,h3,h4,h5⟩:=uE he;obtain⟨w,ew,rw'⟩:=r.get h2;have hl:=r.length;have hn:=mD;have fin:EP X pins σ Q w s:=⟨z,H,I,rw',q⟩;by_cases h0:0<=i;have hj:i.toNat=j:=by rw[seqIndex_of h0 h5] at h1;exact Option.some.inj h1
 exact item_listR pl.isList h0 (by omega) (by rw[hj];simpa using ew) fin hs;have hj:(i+(aK.toArray.size:Int)).toNat=j:=by rw[seqIndex_neg (by omega) h4] at h1;rw[iR,<- hl];exact Option.some.inj h1
 exact subscriptTail_builtinR (x:=w) pl.isList.typeIs slot_list_getitem.lookup
  (wpAny_getItem_list_neg (Q:=λr s'=>r=w/\EP X pins σ Q r s') pl.isList (by omega) (by rw[iR]<;>omega) (by omega) (by rw[hj];simpa using ew) ⟨rfl,fin⟩) hs
theorem N0:IV X (Sk X.K):=by
 intro value slice pins s σ H x y v u Q I rx ry h hs;obtain⟨p,xs,i,z,rfl,rfl,hq,he,q⟩:=h;cases rx;obtain⟨t,rfl⟩:=ry;obtain⟨aK,r,pl,hz⟩:=I.tuple hq;obtain⟨j,h1,h2,h3,h4,h5⟩:=uE he;obtain⟨w,ew,rw'⟩:=r.get h2;have hl:=r.length;have hn:=mD;have fin:EP X pins σ Q w s:=⟨z,H,I,rw',q⟩;exact subscriptTail_builtinR (x:=w) pl.typeIs slot_tuple_getitem.lookup
  (getItem_tuple (j:=j) (Q:=λr s'=>r=w/\EP X pins σ Q r s') pl (by omega) (by omega) (by rw[iR,<- hl];exact h1) (by simpa using ew) ⟨rfl,fin⟩) hs
theorem N1:IV X Sl:=by
 intro value slice pins s σ H x y v u Q I rx ry h hs;obtain⟨z,i,c,rfl,rfl,hz,he,q⟩:=h;obtain⟨t,rfl⟩:=rx;obtain⟨t',rfl⟩:=ry;obtain⟨j,h1,h2,h3,h4,h5⟩:=uE he;have hl:z.cps.toList.length=z.length:=by simp[Str.length]
 rw[hl] at h1 h4 h5;have hn:=mD;exact tail_any (typeIs_str s z t) slot_str_getitem.lookup (getItem_str (c:=c) (by have e1:decide (i < -(2 ^ 63:Int))=false:=decide_eq_false (by omega);have e2:decide (i ≥ 2 ^ 63)=false:=decide_eq_false (by omega);rw[e1,e2,Bool.or_false]) (by rw[h1];simpa using h2) ⟨.str ⟨#[c]⟩,H,I.tok _,⟨_,rfl⟩,q⟩) hs
noncomputable def Zn(K:qaf):R2:=λx y H Q=>Sj K x y H Q\/Sk K x y H Q\/Sl x y H Q
theorem N2:IV X (Zn X.K):=IW.or (N0.or N1)
theorem y_(aK:qag)(n j:Nat)(u:Value):Obj.mapSeq (·.setIfInBounds j u) {cls:=.type "list",data:=.seq aK.toArray n}={cls:=.type "list",data:=.seq (aK.set j u).toArray n}:=by simp[Obj.mapSeq]
theorem Inv.lst{s:Shared}{p:Addr}(I:Inv X pins σ H s)(h:H p=some (.lst xs)) :
  ∃(aK:qag)(n:Nat),Vals xs aK/\s.heap.get? p=some {cls:=.type "list",data:=.seq aK.toArray n}/\xs.length<=sizeLine:=by
 obtain⟨z,aK,n,r,e⟩:=I.bG p _ h;exact⟨aK,n,r,e,z⟩
theorem Inv.N3{s:Shared}{p:Addr}{ys:qak}{aK its':qag}{n':Nat}{f:Obj->Obj}(I:Inv X pins σ H s)(h:H p=some (.lst xs))(ho:s.heap.get? p=some {cls:=.type "list",data:=.seq aK.toArray n})(hf:f {cls:=.type "list",data:=.seq aK.toArray n}={cls:=.type "list",data:=.seq its'.toArray n'})(r:Vals ys its')(hz:ys.length<=sizeLine)(t:Nat) :
  Inv X pins σ (upd H p (.lst ys)) {s with heap:=s.heap.update p f,toks:=t}:=by
 have e:(s.heap.update p f).get? p=some {cls:=.type "list",data:=.seq its'.toArray n'}:=by rw[M' f ho (by rw[hf]<;>rfl),hf]
 refine I.write (x:=p) (e:=p) (by rw[h];trivial) (.inl rfl) (λb u hb q=>(LI _ _ (Ne.symm hb)).trans q) ⟨_,e⟩ ?_;exact⟨hz,its',n',r,e⟩
def Sm:V->V->V->Hp->(Hp->Prop)->Prop:=λo i v H Q=>∃p xs k j,o=.ref p/\i=.int k/\H p=some (.lst xs)/\wq xs.length k=some j/\Q (upd H p (.lst (xs.set j v)))
theorem set_list:RY X Sm:=by
 intro pins s σ H o i v ov iv u Q I ro ri rv h;obtain⟨p,xs,k,j,rfl,rfl,hp,hj,q⟩:=h;cases ro;obtain⟨t,rfl⟩:=ri;obtain⟨aK,n,r,ho,hz⟩:=I.lst hp;obtain⟨h1,h2,h3,h4⟩:=A4 hj;have hl:=r.length;have hn:=mD;have I':Inv X pins σ (upd H p (.lst (xs.set j v))) {s with heap:=s.heap.update p (Obj.mapSeq (·.setIfInBounds j u))} :=
  I.N3 hp ho (y_ aK n j u) (r.set rv j) (by rw[Eb];exact hz) s.toks
 by_cases h0:0<=k;have hk:k.toNat=j:=by rw[seqIndex_of h0 h4] at h1;exact Option.some.inj h1
 exact PySem.W.ki_setAt ho h0 (by omega) (by rw[iR,<- hl];exact h4) (by rw[hk];exact⟨_,I',q⟩);have hk:(k+(aK.toArray.size:Int)).toNat=j:=by rw[seqIndex_neg (by omega) h3] at h1;rw[iR,<- hl];exact Option.some.inj h1
 exact PySem.W.ki_setBack ho (by omega) (by rw[iR,<- hl];exact h3) (by omega) (by rw[hk];exact⟨_,I',q⟩)
theorem uF(lo hi:Option Int)(n:Nat):(sliceBounds lo hi none n).1=((HT.dD n 0 lo:Nat):Int)/\(sliceBounds lo hi none n).2.1=((HT.dD n n hi:Nat):Int)/\(sliceBounds lo hi none n).2.2=1:=by
 refine⟨?_,?_,rfl⟩;cases lo with
 |none=>simp[sliceBounds,HT.dD]
 |some i=>simp only[sliceBounds,HT.dD,Option.getD_none,show (1:Int) > 0 by decide,if_true];by_cases h:i<0;simp only[h,if_true]<;>omega;simp only[h,if_false]<;>omega
 cases hi with
 |none=>simp[sliceBounds,HT.dD]
 |some i=>simp only[sliceBounds,HT.dD,Option.getD_none,show (1:Int) > 0 by decide,if_true];by_cases h:i<0;simp only[h,if_true]<;>omega;simp only[h,if_false]<;>omega
theorem rM(aK:qag)(lo hi:Option Int):slicePick aK.toArray lo hi none=((aK.drop (HT.dD aK.length 0 lo)).take (HT.dD aK.length aK.length hi-HT.dD aK.length 0 lo)).toArray:=by obtain⟨h1,h2,h3⟩:=uF lo hi aK.toArray.size;unfold slicePick;rw[h1,h2,h3];simp only[sliceRange_one,pick_run,iR]<;>rfl
def Sn(K:qaf):V->Option Int->Option Int->Hp->VK->Prop:=λx lo hi H Q=>∃a xs,x=.ref a/\fN K H a xs/\∀p,H p=none->Q (.ref p) (upd H p (.lst (wB xs lo hi)))
theorem IX:ED X (Sn X.K):=by intro pins s σ H x v vl vu lo hi sl Q I rx hs pl pu h;obtain⟨a,xs,rfl,hx,q⟩:=h;cases rx;obtain⟨aK,r,ht,hz⟩:=I.list hx;have hlen:=r.length;refine⟨"list",_,slot_list_getitem.lookup,ht.isList.typeIs,?_⟩;refine wpAny_getItem_list_slice ht.isList hs pl pu .none (by simp) ?_ (by rw[iR]<;>omega);rw[rM,<- hlen];refine⟨.ref s.heap.objs.size,_,I.laid (t':=s.toks) (o:=.lst (wB xs lo hi)) (λb ob q=>eD _ q) (eB _) ?_,rfl,q _ (I.bG.fresh (eB _))⟩;exact⟨mw (nV xs lo hi) hz,_,0,(r.drop (HT.dD xs.length 0 lo)).take (HT.dD xs.length xs.length hi-HT.dD xs.length 0 lo),ph _ rfl⟩
def iY:V->Bool
 |.bR=>true
 |.bl _=>true
 |.int _=>true
 |.str _=>true
 |_=>false
noncomputable def Ib:V->V->Bool
 |.bR,.bR=>true
 |.bl a,.bl b=>a==b
 |.bl a,.int b=>(if a then 1 else 0)==b
 |.int a,.bl b=>a==(if b then 1 else 0)
 |.int a,.int b=>a==b
 |.str a,.str b=>a==b
 |_,_=>false
theorem N4{s:Shared}{y x:V}{v:Value}(ry:RelV y u)(rx:RelV x v)(fy:iY y=true)(fx:iY x=true):SeqAt.EqAt A s u v (Ib y x):=by
 cases y with
 |bR=>
  cases ry;cases x with
  |bR=>cases rx;exact SeqAt.EqAt.same _
  |bl b=>cases rx;exact SeqAt.EqAt.none_bool b
  |int b=>obtain⟨t,rfl⟩:=rx;exact SeqAt.EqAt.none_int b t
  |str b=>obtain⟨t,rfl⟩:=rx;exact SeqAt.EqAt.none_str b t
  |_=>exact absurd (show false=true from fx) iV
 |bl a=>
  cases ry;cases x with
  |bR=>cases rx;exact SeqAt.EqAt.bool_none a
  |bl b=>cases rx;exact SeqAt.EqAt.bool_bool a b
  |int b=>obtain⟨t,rfl⟩:=rx;exact SeqAt.EqAt.bool_int a b t
  |str b=>obtain⟨t,rfl⟩:=rx;exact SeqAt.EqAt.bool_str a b t
  |_=>exact absurd (show false=true from fx) iV
 |int a=>
  obtain⟨t',rfl⟩:=ry;cases x with
  |bR=>cases rx;exact SeqAt.EqAt.int_none a t'
  |bl b=>cases rx;exact SeqAt.EqAt.int_bool a t' b
  |int b=>obtain⟨t,rfl⟩:=rx;exact SeqAt.EqAt.int_int a t' b t
  |str b=>obtain⟨t,rfl⟩:=rx;exact SeqAt.EqAt.int_str a t' b t
  |_=>exact absurd (show false=true from fx) iV
 |str a=>
  obtain⟨t',rfl⟩:=ry;cases x with
  |bR=>cases rx;exact SeqAt.EqAt.str_none a t'
  |bl b=>cases rx;exact SeqAt.EqAt.str_bool a t' b
  |int b=>obtain⟨t,rfl⟩:=rx;exact SeqAt.EqAt.str_int a t' b t
  |str b=>obtain⟨t,rfl⟩:=rx;exact SeqAt.EqAt.str_str a t' b t
  |_=>exact absurd (show false=true from fx) iV
 |_=>exact absurd (show false=true from fy) iV
noncomputable def za(x:V)(u:Value):Bool:=match u with
 |.none=>Ib .bR x
 |.bool b=>Ib (.bl b) x
 |.int i _=>Ib (.int i) x
 |.str z _=>Ib (.str z) x
 |_=>false
theorem EF{x y:V}(r:RelV y u)(f:iY y=true):za x u=Ib y x:=by
 cases y with
 |bR=>cases r;rfl
 |bl b=>cases r;rfl
 |int i=>obtain⟨t,rfl⟩:=r;rfl
 |str z=>obtain⟨t,rfl⟩:=r;rfl
 |_=>exact absurd (show false=true from f) iV
theorem kT{x:V}:∀{xs:qak}{us:qag},Vals xs us->xs.all iY=true->us.any (za x)=xs.any λy=>Ib y x
 |_,_,.nil,_=>rfl
 |y::xs,u::us,.cons r t,f=>by rw[wu,eJ] at f;rw[QY,QY,EF r f.1,kT t f.2]
theorem iZ{A:Around}{s:Shared}{x:V}{v:Value}(rx:RelV x v)(fx:iY x=true):∀{xs:qak}{us:qag},Vals xs us->xs.all iY=true->∀u∈us,SeqAt.EqAt A s u v (za x u)
 |_,_,.nil,_=>λu hu=>by cases hu
 |y::xs,u::us,.cons r t,f=>λu' hu=>by
  rw[wu,eJ] at f;rcases bL.mp hu with rfl|hu
  rw[EF r f.1];exact N4 r rx f.1 fx;exact iZ rx fx t f.2 u' hu
noncomputable def Vb(x:V)(xs:qak):Bool:=xs.any λy=>Ib y x
noncomputable def WL(K:qaf)(neg:Bool):R2:=λx y H Q=>∃p xs,y=.ref p/\(fN K H p xs\/eF K H p xs)/\iY x=true/\xs.all iY=true/\Q (.bl (if neg then !Vb x xs else Vb x xs)) H
theorem Cn:fD X (compareOp .In) (WL X.K false):=by
 intro pins s σ H x y v u Q I rx ry h;obtain⟨p,xs,rfl,hq,fx,fs,q⟩:=h;cases ry;obtain hq|hq:=hq
 obtain⟨aK,r,pl,hz⟩:=I.list hq;refine SeqAt.in_listAt (za x) pl.isList (λw hw=>iZ rx fx r fs w (by simpa using hw)) ⟨.bl _,H,I,rfl,?_⟩;rw[show aK.toArray.any (za x)=aK.any (za x) by simp,kT r fs];exact q;obtain⟨aK,r,pl,hz⟩:=I.tuple hq;refine SeqAt.in_tupleAt (za x) pl (λw hw=>iZ rx fx r fs w (by simpa using hw)) ⟨.bl _,H,I,rfl,?_⟩;rw[show aK.toArray.any (za x)=aK.any (za x) by simp,kT r fs];exact q
theorem uG:fD X (compareOp .NotIn) (WL X.K true):=by
 intro pins s σ H x y v u Q I rx ry h;obtain⟨p,xs,rfl,hq,fx,fs,q⟩:=h;cases ry;obtain hq|hq:=hq
 obtain⟨aK,r,pl,hz⟩:=I.list hq;refine SeqAt.notIn_listAt (za x) pl.isList (λw hw=>iZ rx fx r fs w (by simpa using hw)) ⟨.bl _,H,I,rfl,?_⟩;rw[show aK.toArray.any (za x)=aK.any (za x) by simp,kT r fs];exact q;obtain⟨aK,r,pl,hz⟩:=I.tuple hq;refine SeqAt.notIn_tupleAt (za x) pl (λw hw=>iZ rx fx r fs w (by simpa using hw)) ⟨.bl _,H,I,rfl,?_⟩;rw[show aK.toArray.any (za x)=aK.any (za x) by simp,kT r fs];exact q
theorem uH:fD X (compareOp .NotIn) (λx y H Q=>∃i j,x=.str i/\y=.str j/\Q (.bl (!(!(Builtin.Str.occurrences j i 0 j.length 1).isEmpty))) H):=by intro pins s σ H x y v u Q I rx ry h;obtain⟨i,j,rfl,rfl,q⟩:=h;obtain⟨t,rfl⟩:=rx;obtain⟨t',rfl⟩:=ry;exact notIn_str ⟨.bl _,H,I,rfl,q⟩
theorem uI:cN X (.builtin "len") (λxs H Q=>∃p ys,xs=[.ref p]/\(fN X.K H p ys\/eF X.K H p ys)/\Q (.int ys.length) H):=by
 intro pins s σ H xs us Q I r h;obtain⟨p,ys,rfl,hq,q⟩:=h;obtain⟨u,rfl,rx⟩:=vals1 r;cases rx;have hn:=mD;obtain hq|hq:=hq
 obtain⟨aK,r',pl,hz⟩:=I.list hq;have hlen:=r'.length;exact Calls.call_len_list pl.isList (by simp only[iR]<;>omega) ⟨.int ys.length,H,I.tok _,⟨s.toks+1,by rw[iR,hlen]⟩,q⟩;obtain⟨aK,r',pl,hz⟩:=I.tuple hq;have hlen:=r'.length;exact len_tuple pl (by simp only[iR]<;>omega) ⟨.int ys.length,H,I.tok _,⟨s.toks+1,by rw[iR,hlen]⟩,q⟩
theorem uJ:cN X (.builtin "len") (λxs H Q=>∃z,xs=[.str z]/\z.length<=sizeLine/\Q (.int z.length) H):=by intro pins s σ H xs us Q I r h;obtain⟨z,rfl,hz,q⟩:=h;obtain⟨u,rfl,t,rfl⟩:=vals1 r;have hn:=mD;exact len_str (by omega) ⟨.int z.length,H,I.tok _,⟨_,rfl⟩,q⟩
theorem cN.or{f:Value}{r r':qak->Hp->VK->Prop}(h:cN X f r)(h':cN X f r'):cN X f (λxs H Q=>r xs H Q\/r' xs H Q):=by
 intro pins s σ H xs us Q I rs q;obtain q|q:=q
 exact h pins s σ H xs us Q I rs q;exact h' pins s σ H xs us Q I rs q
theorem uK:cN X (.type "list") (λxs H Q=>∃p ys,xs=[.ref p]/\(fN X.K H p ys\/eF X.K H p ys)/\∀l,H l=none->Q (.ref l) (upd H l (.lst ys))):=by
 intro pins s σ H xs us Q I r h;obtain⟨p,ys,rfl,hq,q⟩:=h;obtain⟨u,rfl,rx⟩:=vals1 r;cases rx;have fin:∀(aK:qag),Vals ys aK->ys.length<=sizeLine->∀(h':Heap)(c':Nat),(∀b o',s.heap.get? b=some o'->h'.get? b=some o') ->
   h'.get? s.heap.objs.size=some {cls:=.type "list",dict:=none,data:=.seq aK.toArray c',slots:=#[]}->EP X pins σ Q (.ref s.heap.objs.size) {s with heap:=h'}:=λaK r' hz h' c' kp e=>
  ⟨.ref s.heap.objs.size,_,I.laid (t':=s.toks) kp (eB _) (show b_ X.prog X.w _ h' _ (.lst ys) from⟨hz,aK,c',r',e⟩),rfl,q _ (I.bG.fresh (eB _))⟩
 obtain hq|hq:=hq
 obtain⟨aK,r',pl,hz⟩:=I.list hq;have hlen:=r'.length;obtain⟨o,ho,hc,n,hd⟩:=pl.isList;exact call_list_seq p (.inl rfl) ho hc hd (λh' c' kp e=>fin aK r' hz h' c' kp e) (by simp only[iR]<;>omega);obtain⟨aK,r',pl,hz⟩:=I.tuple hq;have hlen:=r'.length;obtain⟨o,ho,hc,n,hd⟩:=pl;exact call_list_seq p (.inr rfl) ho hc hd (λh' c' kp e=>fin aK r' hz h' c' kp e) (by simp only[iR]<;>omega)
theorem dg:cN X (.type "tuple") (λxs H Q=>∃p ys,xs=[.ref p]/\((fN X.K H p ys/\∀l,H l=none->Q (.ref l) (upd H l (.tup ys)))\/(eF X.K H p ys/\Q (.ref p) H))):=by
 intro pins s σ H xs us Q I r h;obtain⟨p,ys,rfl,h⟩:=h;obtain⟨u,rfl,rx⟩:=vals1 r;cases rx;obtain⟨hq,q⟩|⟨hq,q⟩:=h
 obtain⟨aK,r',pl,hz⟩:=I.list hq;have hlen:=r'.length;refine call_tuple_list pl.isList (λh' kp=>?_) (by simp only[iR]<;>omega);have I1:Inv X pins σ H {s with heap:=h'}:=I.kept (t':=s.toks) kp;have I2:Inv X pins σ (upd H h'.objs.size (.tup ys)) {s with heap:=h'.push {cls:=.type "tuple",data:=.seq aK.toArray} } :=
  I1.laid (t':=s.toks) (λb o e=>eD _ e) (eB _) (show b_ X.prog X.w _ _ _ (.tup ys) from⟨hz,aK,r',IsTup.new _ _⟩)
 exact⟨.ref h'.objs.size,_,I2,rfl,q _ (I1.bG.fresh (eB _))⟩;obtain⟨aK,r',pl,hz⟩:=I.tuple hq;exact call_tuple_same pl ⟨.ref p,H,I,rfl,q⟩
def WM(K:qaf)(T:String)(x:V)(H:Hp):Prop:=match x with
 |.str _=>T="str"
 |.int _=>T="int"
 |.ref p=>(T="list"/\∃xs,fN K H p xs)\/(T="tuple"/\∃o,K.lookup p=some o/\o.cls=.type "tuple"/\o.dict=none) \/
  (T="dict"/\((∃bE,H p=some (.dK bE))\/∃bE,H p=some (.dT bE)))\/(T="set"/\∃S n,H p=some (.set S n))
 |_=>False
theorem EG{s:Shared}{T:String}{x:V}{v:Value}(I:Inv X pins σ H s)(r:RelV x v)(ty:WM X.K T x H) :
  s.TypeIs v T/\∀a,v=.ref a->∃ob,s.heap.get? a=some ob/\ob.dict=none:=by
 cases x with
 |str z=>obtain⟨t,rfl⟩:=r;cases (show T="str" from ty);exact⟨typeIs_str s z t,λ_ e=>nomatch e⟩
 |int i=>obtain⟨t,rfl⟩:=r;cases (show T="int" from ty);exact⟨typeIs_int s i t,λ_ e=>nomatch e⟩
 |ref p=>
   cases r;obtain⟨rfl,xs,hq⟩|⟨rfl,o,hk,hc,hd⟩|⟨rfl,hk⟩|⟨rfl,S,n,hk⟩:=ty
   obtain⟨aK,_,pl,_⟩:=I.list hq;refine⟨pl.isList.typeIs,λa e=>?_⟩;cases e;obtain⟨o,n,e,c,hd,_⟩:=pl;exact⟨o,e,hd⟩;refine⟨⟨o,I.jS p o hk,hc⟩,λa e=>?_⟩;cases e;exact⟨o,I.jS _ o hk,hd⟩;have z:∃o,s.heap.get? p=some o/\o.ExactDict:=by
    obtain⟨bE,hk⟩|⟨bE,hk⟩:=hk
    obtain⟨_,_,_,_,o,_,_,e,ex,_⟩:=I.bG p _ hk;exact⟨o,e,ex⟩;obtain⟨_,_,_,_,o,_,_,e,ex,_⟩:=I.bG p _ hk;exact⟨o,e,ex⟩
   obtain⟨o,e,ex⟩:=z;refine⟨⟨o,e,ex.1⟩,λa e2=>?_⟩;cases e2;exact⟨o,e,ex.2.1⟩;obtain⟨o,_,_,_,e,ex,_⟩:=I.bG p _ hk;refine⟨⟨o,e,ex.1⟩,λa e2=>?_⟩;cases e2;exact⟨o,e,ex.2.1⟩
 |_=>exact False.elim ty
def WN(K:qaf)(T:String)(r:V->qak->Hp->VK->Prop)(to:TE):TE:=λσ H Q=>to σ H λx H1=>WM K T x H1/\r x [] H1 Q
def tBM(K:qaf)(T:String)(r:V->qak->Hp->VK->Prop)(to:TE)(t:TA):TE:=λσ H Q=>to σ H λx H1=>WM K T x H1/\t σ H1 λxs H2=>r x xs H2 Q
variable{o:Expr}{to:TE}{t:TA}{name:Str}{T id:String}{r:V->qak->Hp->VK->Prop}
theorem N5(pa:PlainAttrs T)(slot:Slot T name id)(N6:typeOf (.builtin id)=pure (.type "method_descriptor"))(hm:Ia X id r)(ho:PE X o to)(cO:attributeBase o name X.env (eval o X.env)=eval o X.env:=by rfl)(cP:(apos.endLine==aT.line)=true:=by rfl):PE X (.Call (.Attribute o name apos) [] [] aT) (WN X.K T r to):=by intro pins s σ H Q I h;refine wpAny_Call_method0_late cO cP (cm (ho pins s σ H _ I h) λv s1 ⟨x,H1,I1,r1,ty,q1⟩=>?_);obtain⟨h1,h2⟩:=EG I1 r1 ty;exact⟨T,id,pa,slot,N6,h1,h2,Rq rfl (PySem.evalArgs_none (hm pins s1 σ H1 x [] v [] Q I1 r1 .nil q1))⟩
theorem pF(pa:PlainAttrs T)(slot:Slot T name id)(N6:typeOf (.builtin id)=pure (.type "method_descriptor"))(hm:Ia X id r)(ho:PE X o to)(ha:PA X (e::es) t)(cO:attributeBase o name X.env (eval o X.env)=eval o X.env:=by rfl)(ik:((backTo aT (starEach (e::es) X.env)).all (λx=>!x.1) && (backToKw aT (keywordEach [] X.env)).all (λx=>x.1.isSome)
    && decide ((e::es).length+([]:List Keyword).length+(if ([]:List Keyword).isEmpty then 0 else 1)<30))=true:=by rfl)(cP:(apos.endLine==aT.line)=true:=by rfl)(hs:starEach (e::es) X.env=(false,eval e X.env)::starEach es X.env:=by rfl)(dz:(backTo aT (starEach es X.env)).any (·.1)=false:=by rfl) :
  PE X (.Call (.Attribute o name apos) (e::es) [] aT) (tBM X.K T r to t):=by
 intro pins s σ H Q I h;refine wpAny_Call_method_late cO ik cP rfl (cm (ho pins s σ H _ I h) λv s1 ⟨x,H1,I1,r1,ty,q1⟩=>?_);obtain⟨h1,h2⟩:=EG I1 r1 ty;refine⟨T,id,pa,slot,N6,h1,h2,?_⟩;have hA:=ha aT pins s1 σ H1 _ I1 q1;rw[hs] at hA ⊢;refine Rq (by show (false || (backTo aT (starEach es X.env)).any (·.1))=false;rw[dz]<;>rfl) (UZ ?_);exact cm hA λus s2 ⟨vs,H2,I2,r2,q2⟩=>hm pins s2 σ H2 x vs v us Q I2 r1 r2 q2
end
def WO(X:Cx)(id:String)(r:V->qak->Hp->VK->Prop):Prop :=
 ∀(pins:qaa)(s:Shared)(σ:St)(H:Hp)(x:V)(xs:qak)(v:Value)(us:qag)(Q:VK),Inv X pins σ H s->RelV x v->Vals xs us->r x xs H Q ->
  wpAny (model X.prog X.w) X.A (call (.builtin id) (v::us)) (EP X pins σ Q) X.xe s
theorem Vals.one:∀{x:V}{us:qag},Vals [x] us->∃u,us=[u]/\RelV x u
 |_,_,.cons r .nil=>⟨_,rfl,r⟩
theorem Vals.zero:∀{us:qag},Vals [] us->us=[]
 |_,.nil=>rfl
theorem Vals.dropLast(h:Vals xs us):Vals xs.dropLast us.dropLast:=by
 induction h with
 |nil=>exact .nil
 |cons r t ih=>
  cases t with
  |nil=>exact .nil
  |cons q t'=>exact .cons r ih
theorem Vals.rep{xs:qak}{us:qag}(h:Vals xs us):∀k:Nat,Vals (List.replicate k xs).flatten (List.replicate k us).flatten
 |0=>.nil
 |k+1=>by rw[AO,AO,Iu,Iu];exact Vals.append h (Vals.rep h k)
theorem zb(l:List α):l.eraseIdx (l.length-1)=l.dropLast:=by
 induction l with
 |nil=>rfl
 |cons a r ih=>
  cases r with
  |nil=>rfl
  |cons b r=>
   have e:(a::b::r).length-1=((b::r).length-1)+1:=by have h1:(a::b::r).length=r.length+2:=rfl;have h2:(b::r).length=r.length+1:=rfl;omega
   rw[e,List.eraseIdx_cons_succ,ih]
   all_goals rfl
theorem foldl_rep(aK:qag):∀(k:Nat)(acc:qag),
  List.foldl (λx1 x2=>x1++x2) acc.toArray (List.replicate k aK.toArray)=(acc++(List.replicate k aK).flatten).toArray
 |0,acc=>by simp
 |k+1,acc=>by
   have e:acc.toArray++aK.toArray=(acc++aK).toArray:=by simp
   have e2:(acc++aK)++(List.replicate k aK).flatten=acc++(List.replicate (k+1) aK).flatten:=by rw[AO,Iu,mh]
   rw[<- e2,<- foldl_rep aK k (acc++aK),<- e,AO,List.foldl_cons]
section
variable{s:Shared}{l b:Addr}{ys zs:qak}
theorem Inv.N7{aK its':qag}{f:Array Value->Array Value}(I:Inv X pins σ H s)(hH:H l=some (.lst xs))(e:s.heap.get? l=some {cls:=.type "list",data:=.seq aK.toArray n})(hf:f aK.toArray=its'.toArray)(hv:Vals ys its')(hz:ys.length<=sizeLine) :
  Inv X pins σ (upd H l (.lst ys)) {s with heap:=s.heap.update l (Obj.mapSeq f),toks:=t'}:=by
 have q:=PySem.IsL.update e f;rw[hf] at q;refine I.write (x:=l) (e:=l) (by rw[hH];exact trivial) (.inl rfl) (λb' u hb hu=>(LI s.heap (Obj.mapSeq f) (Ne.symm hb)).trans hu) ⟨_,q⟩ ?_;exact⟨hz,its',_,hv,q⟩
theorem Inv.Sq{aK:qag}(I:Inv X pins σ H s)(hv:Vals ys aK)(hz:ys.length<=sizeLine) :
  Inv X pins σ (upd H s.heap.objs.size (.lst ys)) {s with heap:=s.heap.push {cls:=.type "list",data:=.seq aK.toArray},toks:=t'} :=
 I.laid (λ_ _ q=>eD _ q) (eB _) ⟨hz,aK,0,hv,ph _ rfl⟩
theorem Inv.fresh(I:Inv X pins σ H s):H s.heap.objs.size=none:=I.bG.fresh (eB _)
theorem Inv.IY(I:Inv X pins σ H s)(hH:H l=some (.lst xs)):xs.length<=sizeLine/\∃(aK:qag)(n:Nat),Vals xs aK/\xs.length=aK.length/\s.heap.get? l=some {cls:=.type "list",data:=.seq aK.toArray n}:=by obtain⟨z,aK,n,r,e⟩:=I.bG l _ hH;exact⟨z,aK,n,r,r.length,e⟩
theorem EH(h:n<=sizeLine):Builtin.List.listTooLong n=false:=by unfold Builtin.List.listTooLong;exact decide_eq_false (by omega)
end
section
def A6:V->qak->Hp->VK->Prop:=λx vs H Q=>∃l xs y,x=.ref l/\vs=[y]/\H l=some (.lst xs)/\xs.length<sizeLine/\Q .bR (upd H l (.lst (xs++[y])))
theorem aZ:WO X "list.append" A6:=by intro pins s σ H x vs v us Q I rx rv h;obtain⟨l,xs,y,rfl,rfl,hH,hz,q⟩:=h;cases rx;obtain⟨u,rfl,ru⟩:=rv.one;obtain⟨z,aK,n,r,hl,e⟩:=I.IY hH;refine call_meets F.slot_list_append ⟨_,e,rfl⟩ F.entry_list_append (F.args_list_append_2 _ _) (PySem.list_append l aK.toArray n u (by rw[iR];omega)) ⟨e,?_⟩;refine⟨.bR,_,I.N7 (its':=aK++[u]) hH e (by simp) (r.append (.cons ru .nil)) ?_,rfl,q⟩;rw[j6,Rr];omega
def Sr:V->qak->Hp->VK->Prop:=λx vs H Q=>∃l xs y,x=.ref l/\vs=[]/\H l=some (.lst xs)/\xs[xs.length-1]?=some y/\Q y (upd H l (.lst xs.dropLast))
theorem EI:WO X "list.pop" Sr:=by
 intro pins s σ H x vs v us Q I rx rv h;obtain⟨l,xs,y,rfl,rfl,hH,hy,q⟩:=h;cases rx;have WQ:=rv.zero;subst WQ;obtain⟨z,aK,n,r,hl,e⟩:=I.IY hH;obtain⟨u,hu,ru⟩:=r.get hy;have Ss:aK.toArray[aK.toArray.size-1]?=some u:=by show aK.toArray[aK.length-1]?=some u;rw[<- UU,<- hl];exact hu
 refine call_meets F.slot_list_pop ⟨_,e,rfl⟩ F.entry_list_pop (F.args_list_pop_1 _) (MeetsSeq.list_pop_last l aK.toArray n u Ss (by rw[iR];omega)) ⟨e,?_⟩;refine⟨y,_,I.N7 (its':=aK.dropLast) hH e ?_ r.dropLast ?_,ru,q⟩;show aK.toArray.eraseIdxIfInBounds (aK.toArray.size-1)=aK.dropLast.toArray;rw[iR,List.eraseIdxIfInBounds_toArray,zb];rw[List.length_dropLast];omega
def WR:R2:=λx y H Q=>∃l k xs,x=.ref l/\y=.int k/\H l=some (.lst xs)/\-(2 ^ 63)<=k/\k<2 ^ 63/\xs.length * k.toNat<=sizeLine /\
 ∀p,H p=none->Q (.ref p) (upd H p (.lst (List.replicate k.toNat xs).flatten))
theorem len_rep(xs:List α)(k:Nat):(List.replicate k xs).flatten.length=k * xs.length:=by
 induction k with
 |zero=>simp
 |succ k ih=>rw[AO,Iu,j6,ih,Nat.succ_mul,Nat.add_comm]
theorem N8:fD X (binaryOp .Mult) WR:=by
 intro pins s σ H x y v u Q I rx ry h;obtain⟨l,k,xs,rfl,rfl,hH,h1,h2,hz,q⟩:=h;cases rx;obtain⟨t,rfl⟩:=ry;obtain⟨z,aK,n,r,hl,e⟩:=I.IY hH;have hlen:aK.toArray.size * k.toNat<=sizeLine:=by rw[iR,<- hl];exact hz
 have WS:¬ aK.toArray.size * k.toNat > (2 ^ 63-1) / 8:=by
  have:(sizeLine:Nat)<=(2 ^ 63-1) / 8:=by decide
  omega
 have WU:¬ (!Builtin.List.listFitsIndex k)=true:=by rw[fitsIndex_both h1 h2];exact iV
 have Su:¬ Builtin.List.listTooLong (aK.toArray.size * k.toNat)=true:=by rw[EH hlen];exact iV
 have WV:List.foldl (λx1 x2=>x1++x2) #[] (List.replicate (if aK.toArray.isEmpty=true then 0 else k.toNat) aK.toArray)=(List.replicate k.toNat aK).flatten.toArray:=by
  have f0:∀m:Nat,List.foldl (λx1 x2=>x1++x2) #[] (List.replicate m aK.toArray)=(List.replicate m aK).flatten.toArray:=λm=>by have:=foldl_rep aK m [];rw[RH] at this;exact this
  rw[f0];cases aK with
  |nil=>simp
  |cons a r'=>rw[if_neg (by simp)]
 refine wpAny_binaryOp_repeat_ref (T:="list") (U:="int") (by decide) ⟨_,e,rfl⟩ (λs'=>typeIs_int s' k t) noFill_list_mul F.fills_int_mul F.slot_int_rmul repeat_list F.slot_int_index.lookup
  (call_meets F.slot_int_rmul (typeIs_int s k t) F.entry_int_rmul (F.args_int_rmul_2 _ _) (int___rmul___int_list k t l aK.toArray n)
   ⟨e,rfl,⟨_,e,rfl⟩,call_meets F.slot_list_mul ⟨_,e,rfl⟩ F.entry_list_mul (F.args_list_mul_2 _ _) (AutoListH.list___mul___list_int_3 l aK.toArray n k t WU WS Su) ⟨e,?_⟩⟩)
 rw[WV];exact⟨.ref _,_,I.Sq (t':=s.toks) (r.rep k.toNat) (by rw[len_rep,Nat.mul_comm];exact hz),rfl,q _ I.fresh⟩
end
end L2
namespace Vc
open PySem PySem.W PySem.Calls PyProof.Rows
theorem ou{P:Params}:∀(ns:qan)(vs:qag),WellAll P h vs (ns.map WData.int)->IntsAre vs ns:=by
 intro ns;induction ns with
 |nil=>intro vs w;rw[uB] at w;cases w;exact .nil
 |cons n ns ih=>
  intro vs w;rw[dP] at w;cases w with
  |cons a b=>cases a;exact .cons _ _ (ih _ b)
theorem Co{l:OpenLaw}(hn:l.most=some n){P:Params}{args:List WData}{vals:qag}(jM:l.row.toRowW.claim.pre args=true)(Q3:WellAll P h vals args) :
  ∃a vs ns,vals=[Value.ref a]/\args=[WData.list (ns.map WData.int)]/\h.get? a=some {cls:=.type "list",data:=.seq vs.toArray}/\IntsAre vs ns/\ns.length<=n:=by
 have hsh:WShape.hasAll [] args [.list .int]=true:=(pre_splitW jM).1;have hc:l.pre.holds [] {args:=args}=true:=(pre_splitW jM).2;obtain⟨d,r,rfl,h1,h2⟩:=hasAllW_cons hsh;obtain rfl:=hasAllW_nil h2;obtain⟨xs,rfl,h3⟩:=hasW_list h1;obtain⟨ns,rfl⟩:=items_int h3;have hlen:ns.length<=n:=by
  unfold OpenLaw.pre at hc;have h4:(WTm.not (.lt (.lit (.int (n:Int))) (.len (.arg 0)))).holds [] {args:=[.list (ns.map .int)]}=true:=by have h4:=(holds_andW hc).1;rw[hn] at h4;exact h4
  have h5:=condW_of h4 (w_not (w_lt w_lit (w_len_list (w_arg rfl))));rw[bQ] at h5;refine Nat.le_of_not_lt λq=>?_;have q':(n:Int)<((ns.length:Nat):Int):=by omega
  first
   | (rw[decide_eq_true q'] at h5;exact absurd h5 (by decide))
   | (simp at h5;omega)
 cases Q3 with
 |cons w1 w2=>
   cases w2;cases w1 with
   |list ho gp=>exact⟨_,_,ns,rfl,rfl,ho,ou ns _ gp,hlen⟩
theorem Cp(l:OpenLaw)(args:List WData):l.row.toRowW.claim.post args (.bool true) args=true :=
 postW_of (r:=l.row.toRowW) (X:=(true==true))
  (show WShape.has [] (.bool true) .bool=true by first|rfl|decide|simp[WShape.has,WShape.arms,WShape.armsAll])
  (show (WTm.eq .res (.lit (.bool true))).value [] {args:=args,res:=some (.bool true),after:=args}=some (.bool (true==true)) from w_eq_bool (w_res rfl) w_lit) rfl
theorem wD{l:OpenLaw}{q:Program}{loose:qai}{XP:(qae)->Heap->Prop}{YP:World->Heap->Prop}{d:DefRec}(hn:l.most=some n)(WW:d.params.defaults=[])(call:∀(w:World) (s₀ s₁:Shared) (mg mb:qae) (fa:Addr) (o:Obj) (pm cd doc:Value) (a:Addr) (vs:qag) (ns:qan),
    Ground q loose [] XP w s₀ mg mb s₁.heap->YP w s₁.heap ->
    s₁.heap.get? fa=some o->o.data=.func (docDef d.name d.params d.body d.scope pm cd doc)->s₁.heap.CodeRec cd d.name->mg d.name=some (.ref fa) ->
    s₁.heap.get? a=some {cls:=.type "list",data:=.seq vs.toArray}->IntsAre vs ns->ns.length<=n->s₁.gens=#[] ->
    codeAny (model l.prog w) callerA (.call (.ref fa) ⟨[.ref a],[]⟩) (λr s'=>r=.ok (.ret (.bool true))/\OldK s₁.heap s'.heap/\s'.os=s₁.os/\AllBare s'.gens) s₁) :
  WalkO q loose XP YP l.row.toRowW d [] (λf vs=>PySem.call f vs):=by
 intro w s₀ s₁ mg mb G Y fa o pm cd doc dV kV ho hd gM hD Sv hg args vals as jM Sw Q5 Q3 Zo;obtain rfl:dV=.none:=Dflts.none hD WW;obtain rfl:kV=.none:=Dflts.noKw hD;obtain⟨a,vs,ns,rfl,rfl,N9,hints,hlen⟩:=Co hn jM Q3;refine enter_call (codeAny_mono (call w s₀ s₁ mg mb fa o pm cd doc a vs ns G Y ho (fd_plain hd) gM Sv N9 hints hlen hg) λr s' hq=>?_);obtain⟨rfl,h2,h3,h4⟩:=hq;exact⟨.inl ⟨.bool true,.bool true,[],rfl,λ_=>rfl,.bool true,Cp l _,λ_=>⟨List.Pairwise.nil,λ_ hm=>(nomatch hm)⟩⟩,h2,h3,h4⟩
end Vc
namespace L2
open PySem PySem.Spec PyProof.Rows
theorem sW:∀{vs:qag}{ns:qan},IntsAre vs ns->Vals (ns.map V.int) vs
 |_,_,.nil=>.nil
 |_,_,.cons n t h=>.cons ⟨t,rfl⟩ (sW h)
def Sx(H:Hp):Prop:=∀b,H b=none\/∃o xs,H b=some (.yP o (.lst xs))
theorem EJ{mb:qae}{CX:AY}{k:Nat}{fa:Addr}{s₁:Shared}{vs:qag}{ns:qan}(KX:K.In s₁.heap)(N_:s₁.heap.Ns mainGlobals mg)(hb:s₁.heap.Ns builtinsNs mb)(WX:∀x:Str,x≠"__name__"->mb x=bootBuiltins x)(WY:s₁.heap.NoLimit)(hg:s₁.gens=#[])(ha:s₁.heap.get? a=some {cls:=.type "list",data:=.seq vs.toArray})(hi:IntsAre vs ns)(hl:ns.length<=sizeLine)(hr:bM k callerA)(F:∀base:Heap,K.In base->base.Ns mainGlobals mg->eM P w K mg base CX k fa fd [x] sp)(Sy:∀(s:Shared) (u:Value),BindsTo s fd ⟨[u],[]⟩ [(x,u)])(LY:∀H:Hp,Sx H->fN K H a (ns.map V.int)->sp [.ref a] H (λv _=>v=.bl true) λ_ _ _=>False)(hCX:∀H e s',CX [] H s₁ (λ_ _ _=>False) e s'->False) :
  codeAny (model P w) callerA (.call (.ref fa) ⟨[.ref a],[]⟩) (λr s'=>r=.ok (.ret (.bool true))/\OldK s₁.heap s'.heap/\s'.os=s₁.os/\AllBare s'.gens) s₁:=by
 have rv:=sW hi;have WZ:=hi.length;have core:∀H:Hp,Sx H->fN K H a (ns.map V.int)->jL P w H s₁.heap->(∀b,H b≠none->b=a)->(H a≠none->K.lookup a=none) ->
   codeAny (model P w) callerA (.call (.ref fa) ⟨[.ref a],[]⟩) (λr s'=>r=.ok (.ret (.bool true))/\OldK s₁.heap s'.heap/\s'.os=s₁.os/\AllBare s'.gens) s₁:=by
  intro H hO hS bG hA hK;have A7:∀{b:Addr}{o:Obj},s₁.heap.get? b=some o->H b=none->(uC s₁.heap H).get? b=some o:=λe n=>Ed e n;have Sb:∀{b:Addr}{o:Obj}{es:Array DictEntry}{ep:Nat},s₁.heap.get? b=some o->o.data=.dict es ep->H b=none:=λ{b o es ep} e d=>by
   cases q:H b with
   |none=>rfl
   |some u=>have e':b=a:=hA b (by rw[q];simp);subst e';rw[ha] at e;cases e;have d':Data.seq vs.toArray _=Data.dict es ep:=d;cases d'
  have Vd:∀{b:Addr}{m:qae},s₁.heap.Ns b m->(uC s₁.heap H).Ns b m:=λ{b m} ⟨o,es,ep,e,d,r⟩=>⟨o,es,ep,A7 e (Sb e d),d,r⟩;have Zp:K.In (uC s₁.heap H):=λb o e=>A7 (KX b o e) (by
   cases q:H b with
   |none=>rfl
   |some u=>have e':b=a:=hA b (by rw[q];simp);subst e';rw[hK (by rw[q];simp)] at e;cases e)
  have hM:Mod K mg (uC s₁.heap H):=⟨Zp,Vd N_,⟨mb,Vd hb,WX⟩,let ⟨mc,h1,h2⟩:=WY;⟨mc,Vd h1,h2⟩⟩;have e0:y7 P w K mg (uC s₁.heap H) callerA [] s₁ H:=⟨rfl,hM,λb o e=>Iy e,QZ (Cd _ _),trivial,λb hb=>absurd (show b∈([]:qah) from hb) (by simp),bG,.of_eq hg⟩;refine codeAny_mono ((F _ Zp (Vd N_)).run callerA [] s₁ H ⟨[.ref a],[]⟩ [.ref a] [.ref a] _ _ hr e0 (Sy s₁ (.ref a)) (.cons rfl .nil) (LY H hO hS)) λr s' h=>?_;cases r with
  |error e=>exact (hCX H e s' h).elim
  |ok fl=>
    cases fl with
    |ret u=>
      obtain⟨v,H',os,bare,un,W0,r',q⟩:=h;have q':v=.bl true:=q;subst q';obtain rfl:u=Value.bool true:=r';refine⟨rfl,OldK.of_keep λb o e=>?_,os,bare⟩;cases q:H b with
      |none=>exact un.keep b o e q (by intro z;exact absurd (show b∈([]:qah) from z) (by simp)) (by simp)
      |some u=>
        rcases hO b with z|⟨ob,xs,z⟩
        rw[q] at z;cases z;have z2:=un.j7 b ob _ z;obtain⟨e1,_⟩:=bG b _ z;obtain⟨e2,_⟩:=W0 b _ z2;rw[e] at e1;cases e1;exact e2
    |_=>exact False.elim h
 cases hk:K.lookup a with
 |some o=>have e:=KX a o hk;rw[ha] at e;cases e;refine core (λ_=>none) (λ_=>.inl rfl) (.inr ⟨_,vs.toArray,_,hk,rfl,rfl,rfl,by rw[iR,WZ];exact hl,by simpa using rv⟩) (λb u z=>by have z':(none:Option HO)=some u:=z;cases z') (λb z=>absurd rfl z) λz=>absurd rfl z
 |none=>refine core (λb=>if b=a then some (.yP {cls:=.type "list",data:=.seq vs.toArray} (.lst (ns.map V.int))) else none) (λb=>?_) (.inl (.inr ⟨{cls:=.type "list",data:=.seq vs.toArray},if_pos rfl⟩)) (λb u z=>?_) (λb z=>?_) λ_=>hk;by_cases hb:b=a;exact .inr ⟨_,_,if_pos hb⟩;exact .inl (if_neg hb);by_cases hb:b=a;have z':=(if_pos hb).symm.trans z;cases z';subst hb;exact⟨ha,by rw[bQ];exact hl,vs,_,rv,ha⟩;have z':=(if_neg hb).symm.trans z;cases z';by_cases hb:b=a;exact hb;exact absurd (if_neg hb) z
noncomputable def inClass(s:Stmt)(j:Nat):Stmt:=match s with
 |.ClassDef _ _ _ body _ _ _ _ _ _ _=>body.getD j (.Pass ⟨0,0,0,0⟩)
 |_=>.Pass ⟨0,0,0,0⟩
noncomputable def ff(s:Stmt):Arguments:=match s with
 |.FunctionDef _ a _ _ _ _ _ _ _ _=>a
 |_=>{posonlyargs:=[],args:=[],vararg:=none,kwonlyargs:=[],kw_defaults:=[],kwarg:=none,defaults:=[]}
def cK(s:Stmt):qaq:=match s with
 |.FunctionDef _ _ b _ _ _ _ _ _ _=>b
 |_=>[]
noncomputable def ak(s:Stmt):Scope:=match s with
 |.FunctionDef _ _ _ _ _ _ sc _ _ _=>sc
 |_=>{kind:=.function,names:=[],isGenerator:=false,isCoroutine:=false}
abbrev kU:AY:=λ_ _ _ _ _ _=>False
abbrev E0:XK:=λ_ _ _=>False
theorem A8:Passes kU X E0:=λ_ _ _ _ _ _ _ h=>h.elim
structure Ic(K:qaf)(x qual:Str)(st:Stmt)(f:Addr)(fd:FuncData):Prop where
 ex:∃(oc:Value)(od:qar)(kV doc pm:Value)(an:qar)(bS ct:Value)(AZ:Array (Option Value)),
  fd=PySem.W.fnOf x qual (ff st) (cK st) (ak st) .none kV doc pm an bS ct/\K.lookup f=some ⟨oc,od,.func fd,AZ⟩/\PySem.W.codeIn K bS qual=true
 kp:PySem.W.keepIn K (.ref f)=true
section
theorem Ic.ok{N:qai}{k:Nat}(F:Ic K x qual st f fd)(S:aJ N ps (ak st))(len:∀vs H Q E,sp vs H Q E->vs.length=ps.length)(kQ:∀(bS:Value) (A:Around) (outer:List Env) (s:Shared) (H:Hp) (vs:qak) (Q:VK) (E:XK),bM k (A.deeper (envOfC qual (ak st) s.heap.objs.size f bS))->sp vs H Q E ->
    ∃t,oU (fE kU P w K mg base N qual (ak st) f bS A outer s H E).wo (cK st) t/\t {nx:=λ_ H'=>Q .bR H',rt:=Q} (start N vs) H):eM P w K mg base kU (k+1) f fd ps sp:=by
 obtain⟨oc,od,kV,doc,pm,an,bS,ct,AZ,rfl,lk,gM⟩:=F.ex;refine LX lk gM S len λA outer s H vs Q E hr LY=>?_;obtain⟨t,h,q⟩:=kQ bS A outer s H vs Q E hr LY;exact⟨t,h.wo,q⟩
theorem Ic.binds(F:Ic K x qual st f fd)(h:∀(kV doc pm:Value) (an:qar) (bS ct:Value) (us:qag),us.length=ps.length->bindArgs (PySem.W.fnOf x qual (ff st) (cK st) (ak st) .none kV doc pm an bS ct) ⟨us,[]⟩=pure (ps.zip us)):Binds K fd ps []:=by obtain⟨oc,od,kV,doc,pm,an,bS,ct,AZ,rfl,lk,gM⟩:=F.ex;exact .all (h kV doc pm an bS ct)
theorem mG{oc:Value}{od an:qar}{AZ:Array (Option Value)}{kV doc pm bS ct:Value}(l:K.lookup f=some ⟨oc,od,.func (PySem.W.fnOf x qual (ff st) (cK st) (ak st) .none kV doc pm an bS ct),AZ⟩)(c:PySem.W.codeIn K bS qual=true)(k:PySem.W.keepIn K (.ref f)=true):Ic K x qual st f (PySem.W.fnOf x qual (ff st) (cK st) (ak st) .none kV doc pm an bS ct):=⟨⟨oc,od,kV,doc,pm,an,bS,ct,AZ,rfl,l,c⟩,k⟩
end
theorem Cq(h:n<=1000):n<sizeLine:=Nat.lt_of_le_of_lt h (by decide)
section
theorem pv(i:Nat)(hN:X.N[i]?=some x:=by rfl)(hv:pk X.env.scope x:=by first|exact Or.inl rfl|exact Or.inr (Or.inl rfl)|exact Or.inr (Or.inr rfl))(hd:fW x:=by decide)(gM:sN x:=by decide):PE X (.Name x pos) (Np i):=dQ hN hv hd gM
end
theorem Sz{A:Prop}(h:B):if false=true then A else B:=by rw[if_neg iV];exact h
theorem SA{A:Prop}(h:A):if true=true then A else B:=by rw[if_pos rfl];exact h
theorem ow{c A:Prop}[Decidable c](h1:c->A)(h2:¬ c->B):if c then A else B:=by by_cases h:c;rw[if_pos h];exact h1 h;rw[if_neg h];exact h2 h
def aL(H H':Hp):Prop:=∀b o,H b=some o->H' b=some o
theorem aL.refl(H:Hp):aL H H:=λ_ _ h=>h
theorem aL.trans{H1 H2:Hp}(a:aL H H1)(b:aL H1 H2):aL H H2:=λc o h=>b c o (a c o h)
theorem aL.free(e:aL H H'){l:Addr}(h:H' l=Option.none):H l=Option.none:=by
 cases q:H l with
 |none=>rfl
 |some o=>rw[e l o q] at h;cases h
section
theorem iq{env:Env}{f:Str×NameKind->List (Str×Addr)->Sem (ForInStep (List (Str×Addr)))}:∀(l:List (Str×NameKind))(cs:List (Str×Addr)),
  (∀p∈l,∀r,(p.2=.free->∃c,env.cells.lookup p.1=some c/\f p r=pure (.yield ((p.1,c)::r)))/\(p.2≠.free->f p r=pure (.yield r))) ->
  ∃cl,forIn l cs f=pure cl/\(∀y c,cl.lookup y=some c->cs.lookup y=some c\/env.cells.lookup y=some c)/\(∀y,(cs.lookup y).isSome=true->(cl.lookup y).isSome=true) /\
   ∀p∈l,p.2=.free->(cl.lookup p.1).isSome=true
 |[],cs,_=>⟨cs,by rw[List.forIn_nil],λ_ _ h=>.inl h,λ_ h=>h,λ_ h=>nomatch h⟩
 |p::l,cs,hf=>by
   have hr:∀q∈l,∀r,(q.2=.free->∃c,env.cells.lookup q.1=some c/\f q r=pure (.yield ((q.1,c)::r)))/\(q.2≠.free->f q r=pure (.yield r)):=λq hq r=>hf q (fY _ hq) r;by_cases hp:p.2=.free;obtain⟨c,hc,e⟩:=(hf p eE cs).1 hp;obtain⟨cl,h1,h2,h3,h4⟩:=iq l ((p.1,c)::cs) hr;refine⟨cl,?_,λy d h=>?_,λy h=>h3 y ?_,λq hq Ve=>?_⟩;rw[List.forIn_cons,e];exact h1;rcases h2 y d h with z|z
   rw[Iv] at z;cases hy:y==p.1 with
   |true=>rw[hy] at z;have ey:y=p.1:=eq_of_beq hy;cases z;rw[ey];exact .inr hc
   |false=>rw[hy] at z;exact .inl z
   exact .inr z;rw[Iv];cases hy:y==p.1 with
   |true=>rfl
   |false=>exact h
   rcases bL.mp hq with z|z
   subst z;refine h3 _ ?_;rw[Iv,beq_self_eq_true];rfl;exact h4 q z Ve;have e:=(hf p eE cs).2 hp;obtain⟨cl,h1,h2,h3,h4⟩:=iq l cs hr;refine⟨cl,?_,h2,h3,λq hq Ve=>?_⟩;rw[List.forIn_cons,e];exact h1;rcases bL.mp hq with z|z
   subst z;exact absurd Ve hp;exact h4 q z Ve
theorem iL{env:Env}(h:∀p∈scope.names,p.2=.free->∃c,env.cells.lookup p.1=some c) :
  ∃cl,closureFor scope env=pure cl/\(∀y c,cl.lookup y=some c->env.cells.lookup y=some c)/\∀p∈scope.names,p.2=.free->∃c,cl.lookup p.1=some c:=by
 have key:∃cl,closureFor scope env=pure cl/\(∀y c,cl.lookup y=some c->([]:List (Str×Addr)).lookup y=some c\/env.cells.lookup y=some c)/\(∀y,(([]:List (Str×Addr)).lookup y).isSome=true->(cl.lookup y).isSome=true) /\
   ∀p∈scope.names,p.2=.free->(cl.lookup p.1).isSome=true:=by
  simp only[closureFor];have go:=@iq env (λx r=>if x.2==NameKind.free then (do let c <- cellOf env x.1;pure (ForInStep.yield ((x.1,c)::r))) else pure (ForInStep.yield r)) scope.names [] ?_;obtain⟨cl,h1,h2⟩:=go;refine⟨cl,?_,h2⟩
  first
   | (show (forIn scope.names [] _ >>= λcs=>pure cs)=_;rw[h1];rfl)
   | (rw[h1];rfl)
   |exact congrArg (· >>= pure) h1
  intro p hp r;refine⟨λhf=>?_,λhf=>?_⟩;obtain⟨c,hc⟩:=h p hp hf;refine⟨c,hc,?_⟩;have e1:(p.2==NameKind.free)=true:=by rw[hf];rfl
  have e2:cellOf env p.1=pure c:=by unfold cellOf;rw[hc]
  rw[e1,if_pos rfl,e2];rfl;have e1:(p.2==NameKind.free)=false:=by simpa using hf
  rw[e1,if_neg (by decide)]
 obtain⟨cl,h1,h2,h3,h4⟩:=key;refine⟨cl,h1,λy c e=>?_,λp hp hf=>V5.mp (h4 p hp hf)⟩;rcases h2 y c e with z|z
 rw[List.lookup_nil] at z;cases z;exact z
theorem kW{env:Env}(y:Str):(relabel scope env).names.lookup y =
  (scope.names.lookup y).map λk=>if (k==.free && env.scope.kind==.function && env.kindOf y==some .cell)=true then .cell else k:=by
 have key:∀l:List (Str×NameKind),(l.map λ(n,k)=>if (k==NameKind.free && env.scope.kind==.function && env.kindOf n==some .cell) then (n,NameKind.cell) else (n,k)).lookup y =
   (l.lookup y).map λk=>if (k==.free && env.scope.kind==.function && env.kindOf y==some .cell)=true then .cell else k:=by
  intro l;induction l with
  |nil=>rfl
  |cons p l ih=>
    obtain⟨n,k⟩:=p;rw[dP];show List.lookup y ((if (k==NameKind.free && env.scope.kind==.function && env.kindOf n==some .cell)=true then (n,NameKind.cell) else (n,k))::_)=_;by_cases hc:(k==NameKind.free && env.scope.kind==.function && env.kindOf n==some .cell)=true;rw[if_pos hc,Iv,Iv];cases hy:y==n with
    |true=>have ey:y=n:=eq_of_beq hy;subst ey;show some NameKind.cell=some (if _ then _ else _);rw[if_pos hc]
    |false=>exact ih
    rw[if_neg hc,Iv,Iv];cases hy:y==n with
    |true=>have ey:y=n:=eq_of_beq hy;subst ey;show some k=some (if _ then _ else _);rw[if_neg hc]
    |false=>exact ih
 exact key scope.names
end
noncomputable def i0(N ts:qai)(out sc:Scope):Bool :=
 (sc.kind==.function) && sc.names.all (λp=>(p.2 != .cell) && (p.2 != .free || out.names.lookup p.1==some .cell || out.names.lookup p.1==some .free) && (p.2 != .local || sc.names.lookup p.1==some .local))
  && N.all (λy=>sc.names.lookup y != some .local) && ts.all (λy=>sc.names.lookup y==some .local) && decide ((N++ts).Nodup)
structure pG(N ts:qai)(out sc:Scope):Prop where
 kind:sc.kind=.function
 EK:∀p∈sc.names,p.2≠.cell
 fr:∀p∈sc.names,p.2=.free->out.names.lookup p.1=some .cell\/out.names.lookup p.1=some .free
 names:∀p∈sc.names,p.2=.local->sc.names.lookup p.1=some .local
 own:∀y∈N,sc.names.lookup y≠some .local
 tgt:∀y∈ts,sc.names.lookup y=some .local
 nd:(N++ts).Nodup
theorem sX{N ts:qai}{out:Scope}(h:i0 N ts out sc=true):pG N ts out sc:=by unfold i0 at h;rw[eJ,eJ,eJ,eJ] at h;obtain⟨⟨⟨⟨h1,h2⟩,h3⟩,h4⟩,h5⟩:=h;rw[gE] at h2 h3 h4;refine⟨eq_of_beq h1,λp hp=>?_,λp hp hf=>?_,λp hp hl=>?_,λy hy=>?_,λy hy=>?_,of_decide_eq_true h5⟩;have:=h2 p hp;rw[eJ,eJ] at this;simpa using this.1.1;have:=h2 p hp;rw[eJ,eJ] at this;have q:=this.1.2;rw[hf] at q;simpa using q;have:=h2 p hp;rw[eJ,eJ] at this;have q:=this.2;rw[hl] at q;simpa using q;simpa using h3 y hy;simpa using h4 y hy
noncomputable def bq(X:Cx)(ts:qai)(sc:Scope)(cl:List (Str×Addr))(C:Addr)(fp:qah)(s:Shared)(H:Hp):Cx where
 prog:=X.prog
 w:=X.w
 K:=X.K
 mg:=X.mg
 base:=X.base
 A:=X.A
 N:=X.N++ts
 s₀:=s
 H₀:=H
 env:=compEnvC sc cl C X.env
 outer:=X.stack
 stack:=X.stack
 ex:=fp
 fn:=λ_=>false
 calm:=X.calm
 pn:=[]
 xe:=λ_ _=>False
section
variable{s:Shared}{ts:qai}{cl:List (Str×Addr)}{D:Addr}
theorem sY(hS:pG X.N ts X.env.scope sc)(h:pk (relabel sc X.env) y):sc.names.lookup y=some .local\/(sc.names.lookup y=some .free/\((relabel sc X.env).names.lookup y=some .cell\/(relabel sc X.env).names.lookup y=some .free)):=by
 have e:=kW (scope:=sc) (env:=X.env) y;cases hk:sc.names.lookup y with
 |none=>rw[hk] at e;have e':(relabel sc X.env).names.lookup y=none:=e;obtain h|h|h:=h<;>rw[e'] at h<;>cases h
 |some k=>
  have hm:(y,k)∈sc.names:=LK hk;rw[hk] at e;cases k with
  |«local»=>exact .inl rfl
  |cell=>exact absurd rfl (hS.EK _ hm)
  |free=>refine .inr ⟨rfl,?_⟩;rw[e,Option.map_some];by_cases hc:(NameKind.free==.free && X.env.scope.kind==.function && X.env.kindOf y==some .cell)=true;rw[if_pos hc];exact .inl rfl;rw[if_neg hc];exact .inr rfl
  |globalExplicit=>have e':(relabel sc X.env).names.lookup y=some .globalExplicit:=e;obtain h|h|h:=h<;>rw[e'] at h<;>cases h
  |globalImplicit=>have e':(relabel sc X.env).names.lookup y=some .globalImplicit:=e;obtain h|h|h:=h<;>rw[e'] at h<;>cases h
theorem A9(I:Inv X pins σ H s)(hf:∀b∈fp,mB X pins H b):∀b∈fp,b∉kK X.stack:=λb hb z=>by
 obtain⟨_,f1,f2,_⟩:=hf b hb;rcases bL.mp (I.yQ b z) with e|e
 exact f1 e;exact f2 e
theorem IZ(I:Inv X pins σ H s)(hf:∀b∈fp,mB X pins H b)(N':∀b∈fp,∃o,s.heap.get? b=some o)(hS:pG X.N ts X.env.scope sc)(c1:∀y c,cl.lookup y=some c->X.env.cells.lookup y=some c)(c2:∀p∈sc.names,p.2=.free->∃c,cl.lookup p.1=some c)(hC:s.heap.objs.size<=C)(hD:s.heap.objs.size<=D)(Vf:D≠C){h1:Heap}{m:qae}{t:Nat}(k:∀b o,s.heap.get? b=some o->h1.get? b=some o)(hn:h1.Ns C m)(hd:h1.get? D=some {cls:=.type "list",data:=.seq ([]:qag).toArray n}) :
  Inv (bq X ts sc cl C fp s H) [] (σ++ts.map λ_=>none) (upd H D (.lst [])) {s with heap:=h1,toks:=t}:=by
 have sz:=I.sz;have W2:∀b∈fp,b<s.heap.objs.size:=λb hb=>by obtain⟨o,e⟩:=N' b hb;exact eG e
 have Ef:∀y c,cl.lookup y=some c->c<s.heap.objs.size:=λy c e=>by obtain⟨v,q⟩:=I.cell y c (c1 y c e);exact q.lt
 have ok:(bq X ts sc cl C fp s H).Ok:=by
  refine⟨I.ok.mod,hS.kind,I.ok.glob,I.ok.blt,hC,λx y c e1 e2=>I.ok.inj x y c (c1 x c e1) (c1 y c e2),λx hx=>?_,λx c hx=>absurd hx (by simp[bq]),I.ok.hd,I.ok.frames,.inl rfl,λb hb=>?_,λb o e=>I.bs b o e,
   mw I.ok.H_ sz,λb o e hb=>?_,A9 I hf,I.stack,λb hb=>I.oR b hb⟩
  have hv:pk (relabel sc X.env) x:=by
   obtain hx|hx:=hx
   exact .inr (.inl hx);exact .inr (.inr hx)
  rcases sY hS hv with z|⟨z,_⟩
  have e:=kW (scope:=sc) (env:=X.env) x;rw[z] at e;have e':(relabel sc X.env).names.lookup x=some .local:=e;have LZ:(relabel sc X.env).names.lookup x=some .cell\/(relabel sc X.env).names.lookup x=some .free:=hx;rw[e'] at LZ;obtain q|q:=LZ<;>cases q
  exact c2 _ (LK z) rfl;exact⟨λe=>absurd (oq (W2 b hb) hC) (by have e':b=C:=e;rw[e'];exact HY _),λx c e z=>(hf b hb).2.2.2.2.1 x c (c1 x c e) z⟩;rcases (hf b hb).2.2.2.1 with z|z
  exact I.ok.Ce b o e z;exact absurd (oq (eG e) (mw I.ok.H_ z)) (HY _)
 have hnD:H D=none:=I.bG.fresh hD;refine⟨ok,rfl,I.bare,Un.laid k hD hnD,⟨m,hn,λi x v e1 e2 e3=>?_⟩,λx c e=>?_,?_,λx c e=>?_,λp hp=>absurd (show p∈([]:qaa) from hp) (by simp),I.bG.laid k hD ⟨nU _,[],n,.nil,hd⟩,?_⟩;have hi:i<σ.length:=by
  by_cases hi:i<σ.length;exact hi;rw[AL (by omega),mf] at e2;cases q:ts[i-σ.length]? with
  |none=>rw[q] at e2;cases e2
  |some a=>rw[q] at e2;cases e2
 have Ie:σ[i]?=some (some v):=by rw[wg hi] at e2;exact e2
 have Zq:X.N[i]?=some x:=by have SD:(X.N++ts)[i]?=some x:=e1;rw[wg (by rw[<- I.len];exact hi)] at SD;exact SD
 rcases sY hS e3 with z|⟨z,zr⟩
 exact absurd z (hS.own x (mn Zq));have hm:=LK z;have ho:=hS.fr _ hm rfl;obtain⟨m0,_,hl⟩:=I.loc;obtain⟨u,r,l⟩:=hl i x v Zq Ie (.inr ho);obtain⟨c',RO⟩:=c2 _ hm rfl;obtain⟨l,_⟩|⟨_,c,hc,z2⟩:=l
 have l':X.env.scope.names.lookup x=some .local:=l;rw[l'] at ho;obtain q|q:=ho<;>cases q
 have ec:=c1 x c' RO;rw[hc] at ec;cases ec;exact⟨u,r,.inr ⟨zr,_,RO,z2.keeps k⟩⟩;obtain⟨v,z⟩:=I.cell x c (c1 x c e);exact⟨v,z.keeps k⟩;show upd H D (.lst []) C=none;rw[aH (Ne.symm Vf)];exact I.bG.fresh hC;show upd H D (.lst []) c=none;rw[aH (iJ (oq (Ef x c e) hD))];exact I.fK x c (c1 x c e);show (σ++ts.map λ_=>none).length=(X.N++ts).length;rw[j6,j6,bQ,I.len]
theorem wF(I:Inv X pins σ H s)(hf:∀b∈fp,mB X pins H b){AS:qaa}{σ':St}(J:Inv (bq X ts sc cl C fp s H) AS σ' H' s'):Inv X pins σ H' s' :=
 I.Eh J.os J.base J.bG J.bare λb hb=>by obtain⟨_,f1,_,f3,f4,f5⟩:=hf b hb;exact⟨f3,f1,f4,f5⟩
end
section
variable{R:Result->Shared->Prop}{s:Shared}
theorem jN{elt target:Expr}{ifs:qap}{it acc:Value}{env:Env}(I:Nat->Shared->Prop)(turn:∀n s,I n s->wpAny (model prog w) A (pyNext it) (λr s₁=>match r with
    |none=>R (.ok .next) s₁
    |some v=>wpAny (model prog w) A (letOwnedTupleGo target it v) (λ_ Zr=>wpAny (model prog w) A (assign target env v) (λ_ s₂=>
       wpAny (model prog w) A (forIn ifs true λc r=>if r=true then do let ok <- isTrue c env (eval c env);pure (ForInStep.yield ok) else pure (ForInStep.yield r)) (λok s₃=>
        if ok=true then wpAny (model prog w) A (eval elt env) (λx s₄=>
         wpAny (model prog w) A (call (.builtin "list.append") [acc,x]) (λ_ s₅=>∃m,m<n/\I m s₅) (notedBy (model prog w) A env λe s'=>R (.error e) s') s₄) (notedBy (model prog w) A env λe s'=>R (.error e) s') s₃
        else ∃m,m<n/\I m s₃) (notedBy (model prog w) A env λe s'=>R (.error e) s') s₂) (notedBy (model prog w) A env λe s'=>R (.error e) s') Zr)
       (notedBy (model prog w) A env λe s'=>R (.error e) s') s₁) (notedBy (model prog w) A env λe s'=>R (.error e) s') s)(n:Nat)(h:I n s):codeAny (model prog w) A (.compLoop (.ListComp elt [⟨target,iter,ifs,0⟩] scope pos) 0 it acc env) R s:=by
 refine codeAny_loop rfl I (λn s hI=>?_) n h;show wpAny _ A ((compTurn (.ListComp elt [⟨target,iter,ifs,0⟩] scope pos) 0 it acc env).onRaise (λx=>do noteFrame x env;theTreesLotGoes x)) _ _ s;refine wpAny_noted ?_;rw[compTurn_list];refine wpAny_bind (wpAny_standAt (wpAny_bind (wpAny_mono (turn n s hI) (λr s₁ h₁=>?_) λ_ _ h'=>h')));cases r with
 |none=>exact wpAny_pure h₁
 |some v=>
   refine wpAny_bind (wpAny_mono h₁ (λ_ Zr h₁'=>?_) λ_ _ h'=>h');refine wpAny_bind (wpAny_mono h₁' (λ_ s₂ h₂=>wpAny_bind (wpAny_mono h₂ (λok s₃ h₃=>?_) λ_ _ h'=>h')) λ_ _ h'=>h');cases ok with
   |false=>exact wpAny_pure ⟨rfl,h₃⟩
   |true=>exact wpAny_bind (wpAny_bind (wpAny_mono h₃ (λx s₄ h₄=>wpAny_bind (wpAny_mono h₄ (λ_ s₅ h₅=>wpAny_pure (wpAny_pure ⟨rfl,h₅⟩)) λ_ _ h'=>h')) λ_ _ h'=>h'))
end
def EL(X:Cx)(ifs:qap)(t:TT):Prop :=
 ∀(pins:qaa)(s:Shared)(σ:St)(H:Hp)(Q:Bool->Hp->Prop),Inv X pins σ H s->t σ H Q ->
  wpAny (model X.prog X.w) X.A (forIn ifs true λc r=>if r=true then do let ok <- isTrue c X.env (eval c X.env);pure (ForInStep.yield ok) else pure (ForInStep.yield r)) (TP X pins σ Q) X.xe s
def W3:TT:=λ_ H Q=>Q true H
theorem I_:EL X [] W3:=λ_ _ _ H _ I h=>wpAny_tests_nil ⟨H,I,h⟩
theorem Ja{c:Expr}{t:TT}(h:PT X c t):EL X [c] t:=λpins s σ H Q I hw=>wpAny_tests_one (h pins s σ H Q I hw)
def EM(J:It)(g:TG)(tt:TT)(te:TE)(n:Nat)(σ:St)(D:Addr)(Q:Hp->Prop)(H1:Hp):Prop :=
 ∃W:Nat->Nat->qak->Hp->Prop,(∃m,W 0 m [] (upd H1 D (.lst [])))/\∀i m acc H2,W i m acc H2->H2 D=some (.lst acc) /\
  ((J.stop i H2/\Q H2)\/(J.go i H2/\acc.length<sizeLine/\∀x H3,J.R0 i H2 x H3->g x (σ++List.replicate n none) H3 λσ4 H4=>(σ4.length=σ.length+n/\∀(i:Nat) v,σ[i]?=some (some v)->σ4[i]?=some (some v)) /\
   tt σ4 H4 λb H5=>if b=true then te σ4 H5 λy H6=>H6 D=some (.lst acc)/\∃m',m'<m/\W (i+1) m' (acc++[y]) (upd H6 D (.lst (acc++[y]))) else ∃m',m'<m/\W (i+1) m' acc H5))
section
variable{s:Shared}{ts:qai}{cl:List (Str×Addr)}
theorem Cr{Y:Cx}{pl:qaa}{σ4:St}(I:Inv Y pl σ4 H' s')(hl:σ4.length=σ.length+n)(hs:∀(i:Nat) v,σ[i]?=some (some v)->σ4[i]?=some (some v)) :
  Inv Y pl (σ++List.replicate n none) H' s':=by
 refine I.weak (by rw[j6,DV,hl]) λi v e=>?_;by_cases hi:i<σ.length;rw[wg hi] at e;exact hs i v e;rw[AL (by omega),M9] at e;split at e<;>cases e
theorem wG{elt tg:Expr}{ifs:qap}{it:Addr}{tn:Nat->Heap->Prop}{J:It}{g:TG}{tt:TT}{Q:Hp->Prop}{RR:Value->Addr->Result->Shared->Prop}(hc:X.calm=true)(I:Inv X pins σ H s)(T:Turn X.prog X.w X.K tg J fp it tn)(st:tn 0 s.heap)(hf:∀b∈fp,mB X pins H b)(hS:pG X.N ts X.env.scope sc)(c1:∀y c,cl.lookup y=some c->X.env.cells.lookup y=some c)(c2:∀p∈sc.names,p.2=.free->∃c,cl.lookup p.1=some c)(hg:∀C,PG (bq X ts sc cl C fp s H) tg g)(ht:∀C,EL (bq X ts sc cl C fp s H) ifs tt)(he:∀C,PE (bq X ts sc cl C fp s H) elt te)(hw:EM J g tt te ts.length σ s.heap.objs.size Q H)(fin:∀(C:Addr) (H':Hp) (s':Shared) (σ':St),s.heap.objs.size<=C->Inv (bq X ts sc cl C fp s H) [] σ' H' s'->Q H'->RR (.ref s.heap.objs.size) C (.ok .next) s') :
  wpAny (model X.prog X.w) X.A (newList []) (λacc s₃=>wpAny (model X.prog X.w) X.A (newFunctionEnv sc X.env.globals cl [] X.env.qual none .none (some X.env)) (λSE s₄=>
   codeAny (model X.prog X.w) X.A (.compStart (.ListComp elt [⟨tg,iter,ifs,0⟩] sc pos) 0 (.ref it) acc {SE with scope:=relabel sc X.env}) (RR acc SE.locals) s₄) E s₃) E s:=by
 obtain⟨W,⟨m0,w0⟩,turn⟩:=hw;have W4:=T.obj 0 _ st;have N':∀b∈fp,∃o,s.heap.get? b=some o:=λb hb=>let ⟨o,e,_⟩:=W4 b hb;⟨o,e⟩;refine wpAny_newObj_type (wpAny_newFunctionEnv hS.EK (by intro y hy;simp at hy) (λh₁ Oa Jb=>?_) hS.kind);dsimp only at Oa Jb ⊢;generalize W5:s.heap.push {cls:=.type "list",dict:=none,data:=.seq ([]:qag).toArray}=H2 at Oa Jb ⊢;have hC:H2.objs.size=s.heap.objs.size+1:=by rw[<- W5,B']
 have Vf:s.heap.objs.size≠H2.objs.size:=by rw[hC];exact iJ (QT _)
 have SG:s.heap.objs.size<=H2.objs.size:=by rw[hC];exact Ng _
 have below:∀b,b<s.heap.objs.size->b≠H2.objs.size/\b≠s.heap.objs.size:=λb hb=>⟨by rw[hC];exact iJ (RF hb),iJ hb⟩;have old:∀b o,s.heap.get? b=some o->h₁.get? b=some o:=λb o e=>Jb.extBut b o (below b (eG e)).1 (eD _ (W5▸eD _ e));have W6:h₁.get? s.heap.objs.size=some {cls:=.type "list",data:=.seq ([]:qag).toArray}:=Jb.extBut _ _ Vf (eD _ (W5▸ph _ rfl));have SH:tn 0 h₁:=T.keep _ _ _ st λb hb o e=>old b o e;have fresh:H s.heap.objs.size=none:=I.bG.fresh (eB _);have uL:∀{H':Hp},(∀b∈fp,H' b=none)->∀b∈fp,mB (bq X ts sc cl H2.objs.size fp s H) [] H' b:=λ{H'} hn b hb=>by obtain⟨o,e⟩:=N' b hb;refine⟨hn b hb,λz=>?_,A9 I hf b hb,.inl hb,λx c e z=>(hf b hb).2.2.2.2.1 x c (c1 x c e) z,λp hp=>absurd (show p∈([]:qaa) from hp) (by simp)⟩;have z':b=H2.objs.size:=z;exact (below b (eG e)).1 z'
 have fp0:∀b∈fp,(upd H s.heap.objs.size (.lst [])) b=none:=λb hb=>by obtain⟨o,e⟩:=N' b hb;rw[aH (iJ (eG e))];exact (hf b hb).1
 have eN:(ts.map λ_=>(none:Option V))=List.replicate ts.length none:=List.map_const';have loop:∀s₃:Shared,s₃={s with heap:=h₁,toks:=s.toks+([]:List (Str×Value)).length} ->
   codeAny (model X.prog X.w) X.A (.compLoop (.ListComp elt [⟨tg,iter,ifs,0⟩] sc pos) 0 (.ref it) (.ref s.heap.objs.size) (compEnvC sc cl H2.objs.size X.env)) (RR (.ref s.heap.objs.size) H2.objs.size) s₃:=by
  rintro s₃ rfl;have J0:=IZ (ts:=ts) (t:=s.toks+([]:List (Str×Value)).length) I hf N' hS c1 c2 SG (eB _) Vf old Oa W6;rw[eN] at J0;refine jN (λn s'=>∃i acc H',Inv (bq X ts sc cl H2.objs.size fp s H) [] (σ++List.replicate ts.length none) H' s'/\tn i s'.heap/\(∀b∈fp,H' b=none)/\W i n acc H') ?_ m0 ⟨0,[],_,J0,SH,fp0,w0⟩;rintro n s3 ⟨i,acc,H3,J3,R4,R5,w3⟩;obtain⟨hD3,alt⟩:=turn i n acc H3 w3;obtain⟨stop,q⟩|⟨go,hz,step⟩:=alt
  . refine cm (T.done (bq X ts sc cl H2.objs.size fp s H) rfl rfl rfl hc i [] s3 _ H3 _ J3 (uL R5) R4 stop) λr s4 ⟨hr,J4⟩=>?_;subst hr;exact fin _ H3 s4 _ SG J4 q
  refine cm (T.item (bq X ts sc cl H2.objs.size fp s H) rfl rfl rfl hc i [] s3 _ H3 _ J3 (uL R5) R4 go) λr s4 ⟨u,hr,h4⟩=>?_;subst hr;refine cm h4 λ_ s5 ⟨x,H5,J5,r5,y5,NG,WG⟩=>?_;have J5':=J5.pinned (uL WG) (T.obj _ _ NG);have again:∀{σ7:St}{H7:Hp}{s7:Shared},Inv (bq X ts sc cl H2.objs.size fp s H) ([]++pB fp s5.heap) σ7 H7 s7->(σ7.length=σ.length+ts.length/\∀(i:Nat) v,σ[i]?=some (some v)->σ7[i]?=some (some v))->∀Ob m',W (i+1) m' Ob H7->m'<n ->
    ∃m,m<n/\∃i acc H',Inv (bq X ts sc cl H2.objs.size fp s H) [] (σ++List.replicate ts.length none) H' s7/\tn i s7.heap/\(∀b∈fp,H' b=none)/\W i m acc H':=λ{σ7 H7 s7} I7 hσ Ob m' w7 hm=>by
   refine⟨m',hm,i+1,Ob,H7,Cr I7.kN hσ.1 hσ.2,T.keep _ _ _ NG λb hb o e=>(I7.pin (b,o) (kC _ (kC _ (ig hb e)))).1,λb hb=>?_,w7⟩;obtain⟨o,e,d⟩:=T.obj _ _ NG b hb;exact (I7.pin (b,o) (kC _ (kC _ (ig hb e)))).2.1
  refine wpAny_mono (hg H2.objs.size _ s5 _ H5 x u _ J5' r5 (step x H5 y5)) (λ_ s6 ⟨σ6,H6,J6,hσ,q6⟩=>?_) λ_ _ z=>False.elim z;refine wpAny_mono (ht H2.objs.size _ s6 σ6 H6 _ J6 q6) (λb s7 ⟨H7,J7,q7⟩=>?_) λ_ _ z=>False.elim z;cases b with
  |false=>obtain⟨m',hm,w7⟩:=q7;exact again J7 hσ acc m' w7 hm
  |true=>show wpAny _ _ _ _ _ _;refine wpAny_mono (he H2.objs.size _ s7 σ6 H7 _ J7 q7) (λy s8 ⟨yv,H8,J8,ry,hD8,m',hm,w8⟩=>?_) λ_ _ z=>False.elim z;refine wpAny_mono (aZ (X:=bq X ts sc cl H2.objs.size fp s H) _ s8 σ6 H8 (.ref s.heap.objs.size) [yv] (.ref s.heap.objs.size) [y] (λv H9=>v=.bR/\H9=upd H8 s.heap.objs.size (.lst (acc++[yv]))) J8 rfl (.cons ry .nil) ⟨_,acc,yv,rfl,rfl,hD8,hz,rfl,rfl⟩) (λv9 s9 ⟨v,H9,J9,_,_,e9⟩=>?_) λ_ _ z=>False.elim z;subst e9;exact again J9 hσ (acc++[yv]) m' w8 hm
 exact codeAny_compStart_list (loop _ rfl) (T.self _ 0 _ _ _ SH (loop _ rfl))
def EN(n:Nat)(wi:TI)(g:TG)(tt:TT)(te:TE):TE:=λσ H Q=>wi σ H λJ H1=>∀D,H1 D=none->EM J g tt te n σ D (Q (.ref D)) H1
theorem wH(I:Inv X pins σ H s)(hS:pG X.N ts X.env.scope sc):∀p∈sc.names,p.2=.free->∃c,X.env.cells.lookup p.1=some c:=λp hp hf=>by
 rcases hS.fr p hp hf with z|z
 exact I.ok.has p.1 (.inl z);exact I.ok.has p.1 (.inr z)
theorem Jc{elt tg:Expr}{ifs:qap}{wi:TI}{g:TG}{tt:TT}(hc:X.calm=true)(hS:i0 X.N ts X.env.scope sc=true)(hi:PI X tg iter wi)(hg:∀cl C fp s H,PG (bq X ts sc cl C fp s H) tg g)(ht:∀cl C fp s H,EL (bq X ts sc cl C fp s H) ifs tt)(he:∀cl C fp s H,PE (bq X ts sc cl C fp s H) elt te)(hs:∀x,foldedSetIterable iter X.env x=pure x:=by intro _;rfl):PE X (.ListComp elt [⟨tg,iter,ifs,0⟩] sc pos) (EN ts.length wi g tt te):=by intro pins s σ H Q I h;have S:=sX hS;obtain⟨cl,EO,c1,c2⟩:=iL (wH I S);rw[eval_ListComp];refine wpAny_comprehension_free (use:=none) rfl hs EO S.kind S.names ?_;refine cm (hi pins s σ H _ I h) λv s1 h1=>cm h1 λU9 s2 h2=>?_;obtain⟨it,fp,tn,J,H2,e,I2,T,D1,f2,q2⟩:=h2;subst e;refine wG (E:=X.xe) (RR:=λacc C=>compPost (model X.prog X.w) X.A X.xe none (EP X pins σ Q) acc C) hc I2 T D1 f2 S c1 c2 (λC=>hg cl C fp s2 H2) (λC=>ht cl C fp s2 H2) (λC=>he cl C fp s2 H2) (q2 _ (I2.bG.fresh (eB _))) ?_;intro C H' s' σ' hC J' q';obtain⟨m,hn,_⟩:=J'.loc;refine⟨m,hn,λh' sb=>?_⟩;have I':=wF I2 f2 J';have fk:=I2.rK (H':=H') hC J'.free;obtain⟨f0,f1,_,f3,f4,f5⟩:=fk;exact⟨.ref _,H',I'.turned (t':=s'.toks) (λb o hb e=>(sb.2 b hb).trans e) f0 f1 f3 f4 f5,rfl,q'⟩
theorem Jd{py:Pos}{pH:Pos}{elt tg:Expr}{ifs:qap}{wi:TI}{g:TG}{tt:TT}(hN:X.N.Nodup)(hy:X.N[i]?=some y)(hx:Loc X.env.scope y)(hc:X.calm=true)(hS:i0 X.N ts X.env.scope sc=true)(hi:PI X tg iter wi)(hg:∀cl C fp s H,PG (bq X ts sc cl C fp s H) tg g)(ht:∀cl C fp s H,EL (bq X ts sc cl C fp s H) ifs tt)(he:∀cl C fp s H,PE (bq X ts sc cl C fp s H) elt te)(Oc:swapsWith (.ListComp elt [⟨tg,iter,ifs,0⟩] sc pos) (some (.Name y py)) pH.line X.env=pure true:=by rfl)(hs:∀x,foldedSetIterable iter X.env x=pure x:=by intro _;rfl)(hf:X.fn y=true\/X.env.scope.names.lookup y=some .local:=by first|exact .inl rfl|exact .inr rfl|assumption) :
  PS X (.Assign [.Name y py] (.ListComp elt [⟨tg,iter,ifs,0⟩] sc pos) pH) (IG (EN ts.length wi g tt te) (iK i)):=by
 intro pins s σ H D I h;have S:=sX hS;obtain⟨cl,EO,c1,c2⟩:=iL (wH I S);rw[exec_Assign_Name_used _ _ _ _ Oc];refine wpAny_bind (wpAny_standAt (wpAny_bind ?_));show wpAny _ X.A (do let _ <- comprehension (.ListComp elt [⟨tg,iter,ifs,0⟩] sc pos) sc X.env _ (newList []) false (eval iter X.env) (some (assign (.Name y py) X.env))) _ _ s;refine wpAny_bind (wpAny_mono (wpAny_comprehension_free (use:=some (assign (.Name y py) X.env)) (Q:=λ_ s'=>SP X pins D .next s') (E:=X.xe) rfl hs EO S.kind S.names ?_) (λ_ s' hq=>wpAny_pure (wpAny_pure hq)) λ_ _ e=>e);refine cm (hi pins s σ H _ I h) λv s1 h1=>cm h1 λU9 s2 h2=>?_;obtain⟨it,fp,tn,J,H2,e,I2,T,D1,f2,q2⟩:=h2;subst e;refine wG (E:=X.xe) (RR:=λacc C=>compPost (model X.prog X.w) X.A X.xe (some (assign (.Name y py) X.env)) (λ_ s'=>SP X pins D .next s') acc C) hc I2 T D1 f2 S c1 c2 (λC=>hg cl C fp s2 H2) (λC=>ht cl C fp s2 H2) (λC=>he cl C fp s2 H2) (q2 _ (I2.bG.fresh (eB _))) ?_;intro C H' s' σ' hC J' q';obtain⟨m,hn,_⟩:=J'.loc;have I':=wF I2 f2 J';have fk:=I2.rK (H':=H') hC J'.free;obtain⟨f0,f1,_,f3,f4,f5⟩:=fk;show wpAny _ X.A (assign (.Name y py) X.env (.ref s2.heap.objs.size)) _ _ s';refine wpAny_assign_Name (sQ (v:=.ref s2.heap.objs.size) I' hN hy hx rfl (λs3 I3 ⟨a,sb,ha⟩=>?_) hf);have hCa:C≠a:=by
  obtain z|z:=ha
  rw[z];exact f1;exact λe=>f4 y a z e.symm
 refine⟨m,hn.sameBut sb hCa,λh' sb'=>?_⟩;exact⟨_,H',I3.turned (t':=s3.toks) (λb o hb e=>(sb'.2 b hb).trans e) f0 f1 f3 f4 f5,q'⟩
end
def Vg(x:Str):It:=⟨λi _=>i<x.cps.size,λi H v H'=>H'=H/\∃c,x.cps[i]?=some c/\v=.str ⟨#[c]⟩,λi _=>x.cps.size<=i⟩
theorem dh(x:Str):(strIterType x="str_ascii_iterator")\/(strIterType x="str_iterator"):=by unfold strIterType;cases x.cps.all (·<128);exact .inr rfl;exact .inl rfl
theorem ER{tg:Expr}(x:Str)(t:Tok)(it:Addr):Turn P w K tg (Vg x) [it] it (λi h=>h.IsStrIter it (strIterType x) x t i) where
 mem:=by simp
 obj:=λi h st b hb=>by
  have e:b=it:=by simpa using hb
  subst e;obtain⟨o,e,c,d⟩:=st;exact⟨o,e,λv z=>by rw[d] at z;cases z⟩
 keep:=λi h h' st k=>by obtain⟨o,e,c,d⟩:=st;exact⟨o,k it (by simp) o e,c,d⟩
 item:=by
  intro X hP hw hK hc i pins s σ H E I hf st hg;subst hP hw hK;obtain⟨f0,f1,f2,f3,f4,f5⟩:=hf it (by simp);have hi:i<x.cps.size:=hg;have hx:x.cps[i]?=some x.cps[i]:=by simp[hi]
  have fin:∀h',h'.IsStrIter it (strIterType x) x t (i+1)->Heap.SameBut it s.heap h'->∃u,(some (Value.str ⟨#[x.cps[i]]⟩ s.toks):Option Value)=some u /\
    wpAny (model X.prog X.w) X.A (letOwnedTupleGo tg (.ref it) u) (λ_ s2=>∃y H',Inv X pins σ H' s2/\RelV y u/\(Vg x).R0 i H y H'/\Heap.IsStrIter s2.heap it (strIterType x) x t (i+1)/\∀b∈[it],H' b=none) E {s with heap:=h',toks:=s.toks+1}:=λh' yT sb=>by
   have I1:Inv X pins σ H {s with heap:=h',toks:=s.toks+1}:=I.turned (t':=s.toks+1) (λb o hb e=>(sb.2 b hb).trans e) f0 f1 f3 f4 f5;obtain⟨o,e,c,d⟩:=id yT;refine⟨_,rfl,AX (s:={s with heap:=h',toks:=s.toks+1}) e c d ?_ ⟨.str ⟨#[x.cps[i]]⟩,H,I1,⟨_,rfl⟩,⟨rfl,_,hx,rfl⟩,yT,λb hb=>(hf b hb).1⟩⟩;rcases dh x with z|z<;>rw[z]<;>decide
  rcases dh x with z|z
  rw[z] at st fin;refine wpAny_pyNext_ascii_item st hx λh' yT sb=>?_;have:=fin h' yT sb;rw[<- z] at this;simpa[z] using this;rw[z] at st fin;refine wpAny_pyNext_wide_item st hx λh' yT sb=>?_;have:=fin h' yT sb;simpa[z] using this
 done:=by
  intro X hP hw hK hc i pins s σ H E I hf st hg;subst hP hw hK;obtain⟨f0,f1,f2,f3,f4,f5⟩:=hf it (by simp);have hi:x.cps.size<=i:=hg;have hx:x.cps[i]?=none:=by simp[hi]
  rcases dh x with z|z
  rw[z] at st;exact wpAny_pyNext_ascii_end (I.ok.hd hc) st hx λh' eb=>⟨rfl,I.turned (t':=s.toks) (λb o hb e=>eb b o hb e) f0 f1 f3 f4 f5⟩;rw[z] at st;exact wpAny_pyNext_wide_end (I.ok.hd hc) st hx λh' eb=>⟨rfl,I.turned (t':=s.toks) (λb o hb e=>eb b o hb e) f0 f1 f3 f4 f5⟩
 self:=λA i s Q E st h=>by
  rcases dh x with z|z
  rw[z] at st;exact wpAny_pyIter_striter_ascii st h;rw[z] at st;exact wpAny_pyIter_striter_wide st h
section
variable{tg:Expr}
theorem cQ(hc:X.calm=true):cN X (.builtin "all") (λxs H Q=>∃(p:Addr)(bs:List Bool),xs=[.ref p]/\fN X.K H p (bs.map V.bl)/\Q (.bl (bs.all id)) H):=by
 intro pins s σ H xs us Q I r h;obtain⟨p,bs,rfl,hq,q⟩:=h;obtain⟨u,rfl,rx⟩:=vals1 r;cases rx;obtain⟨aK,rv,pl,hz⟩:=I.list hq;refine call_all_walk (wpAny_pyIter_list pl.isList ?_);have gq:p<s.heap.objs.size:=by obtain⟨o,n,e,_⟩:=pl;exact eG e
 have jz:p≠s.heap.objs.size:=iJ gq;have hh:X.A.in1.handled=none:=I.ok.hd hc;refine⟨s.heap.objs.size,_,_,_,_,_,λi=>bs.getD i true,rfl,Walks.list hh s.heap.objs.size p jz aK.toArray,⟨⟨_,ph _ rfl,rfl,rfl⟩,pl.isList.push _⟩,?_,λh' tk k=>?_⟩;intro i v s' Q' E' hP hQ;have Zs:aK[i]?=some v:=by simpa using hP
 have hb:i<bs.length:=by have:=rv.length;have h2:=(gN.mp Zs).1;rw[bQ] at this;omega
 obtain⟨u,e1,r1⟩:=rv.get (i:=i) (x:=.bl bs[i]) (by simp[hb]);rw[Zs] at e1;cases e1;obtain rfl:v=Value.bool bs[i]:=r1;have e3:bs.getD i true=bs[i]:=by simp[List.getD,hb]
 dsimp only at hQ;rw[e3] at hQ;exact wpAny_truthy_bool hQ;have hl:aK.toArray.size=bs.length:=by have:=rv.length;rw[bQ] at this;rw[iR];omega
 have e:(List.range aK.toArray.size).all (λi=>bs.getD i true)=bs.all id:=by rw[hl,Nf,gE,gE];constructor;intro h x hx;obtain⟨i,hi,e⟩:=Rz.mp hx;have:=h i (HX.mpr hi);simp only[List.getD,kB hi,Option.getD_some] at this;rw[<- e];exact this;intro h i hi;have D3:=HX.mp hi;simp only[List.getD,kB D3,Option.getD_some];exact h _ (yO D3)
 rw[e];refine⟨.bl (bs.all id),H,?_,rfl,q⟩;have I0:Inv X pins σ H {s with heap:=s.heap.push {cls:=.type "list_iterator",data:=.fields #[.ref p,.int 0 0]} }:=I.kept (t':=s.toks) λb o e=>eD _ e;have fk:=I.rK (H':=H) (eB s.heap.objs.size) I.fresh;obtain⟨f0,f1,_,f3,f4,f5⟩:=fk;exact I0.turned (t':=tk) (λb o hb e=>k b o (by simpa using hb) e) f0 f1 f3 f4 f5
theorem rN:Ia X "str.startswith" (λx xs H Q=>∃z y,x=.str z/\xs=[.str y]/\Q (.bl (Txt.startswith z y)) H):=by intro pins s σ H x xs v us Q I rx rs h;obtain⟨z,y,rfl,rfl,q⟩:=h;obtain⟨t,rfl⟩:=rx;obtain⟨u,rfl,t',rfl⟩:=vals1 rs;exact SC.startswith ⟨.bl _,H,I,rfl,q⟩
theorem pI:∀{ys:qai}{us:qag},Vals (ys.map V.str) us->StrsAre us ys
 |[],us,r=>by rw[uB] at r;cases r;exact .nil
 |y::ys,us,r=>by
  rw[dP] at r;cases r with
  |cons r1 r2=>obtain⟨t,e⟩:=r1;subst e;exact .cons y t (pI r2)
theorem Je:Ia X "str.join" (λx xs H Q=>∃(z:Str)(p:Addr)(ys:qai),x=.str z/\xs=[.ref p]/\fN X.K H p (ys.map V.str)/\(ys.map (·.length)).sum+ys.length * z.length<=16777216/\Q (.str (Txt.join z ys)) H):=by intro pins s σ H x xs v us Q I rx rs h;obtain⟨z,p,ys,rfl,rfl,hq,hz,q⟩:=h;obtain⟨t,rfl⟩:=rx;obtain⟨u,rfl,r1⟩:=vals1 rs;cases r1;obtain⟨aK,rv,pl,_⟩:=I.list hq;exact join_list pl.isList (by simpa using pI rv) hz λt' k=>⟨.str _,H,I.tok _,⟨_,rfl⟩,q⟩
def SI:V->Option Int->Option Int->Hp->VK->Prop:=λx lo hi H Q=>∃z,x=.str z/\z.length<=sizeLine/\Q (.str (Txt.slice z lo hi)) H
theorem Od:ED X SI:=by
 intro pins s σ H x v vl vu lo hi sl Q I rx hs pl pu h;obtain⟨z,rfl,hz,q⟩:=h;obtain⟨t,rfl⟩:=rx;obtain⟨o,e,c,d⟩:=hs;refine⟨"str",_,slot_str_getitem.lookup,typeIs_str _ _ _,?_⟩;cases pl with
 |none=>
  cases pu with
  |none=>exact wpAny_getItem_str_slice (l:=none) (u:=none) (st:=none) ⟨o,e,c,d⟩ rfl (post_val_or_str ⟨mw (LM z _ _) hz,λt' k=>⟨.str _,H,I.tok _,⟨_,rfl⟩,q⟩⟩)
  |int j tj=>exact wpAny_getItem_str_slice (l:=none) (u:=some (j,tj)) (st:=none) ⟨o,e,c,d⟩ rfl (post_val_or_str ⟨mw (LM z _ _) hz,λt' k=>⟨.str _,H,I.tok _,⟨_,rfl⟩,q⟩⟩)
 |int i ti=>
  cases pu with
  |none=>exact wpAny_getItem_str_slice (l:=some (i,ti)) (u:=none) (st:=none) ⟨o,e,c,d⟩ rfl (post_val_or_str ⟨mw (LM z _ _) hz,λt' k=>⟨.str _,H,I.tok _,⟨_,rfl⟩,q⟩⟩)
  |int j tj=>exact wpAny_getItem_str_slice (l:=some (i,ti)) (u:=some (j,tj)) (st:=none) ⟨o,e,c,d⟩ rfl (post_val_or_str ⟨mw (LM z _ _) hz,λt' k=>⟨.str _,H,I.tok _,⟨_,rfl⟩,q⟩⟩)
end
theorem aQ{D:Addr}(h:H D=none):aL H (upd H D o):=λb u e=>by rw[aH (bf e h)];exact e
section
variable{s:Shared}
theorem Inv.grown{ch:qah}{t:Addr}(I:Inv X pins σ H s)(k:∀b u,b∉ch->s.heap.get? b=some u->h'.get? b=some u)(hf:∀b∈ch,mB X pins H b)(ht:s.heap.objs.size<=t)(new:b_ X.prog X.w (upd H t o) h' t o):Inv X pins σ (upd H t o) {s with heap:=h',toks:=t'}:=by
 have hn:H t=none:=I.bG.fresh ht;have Eg:∀b u,H b=some u->b∉ch:=λb u e z=>by rw[(hf b z).1] at e;cases e
 refine I.step (g':=s.gens) (d':=s.drawn) (ch:=ch) (λb hb=>?_) (λb u _ _ hc e _=>k b u hc e) (λb u _ _ hc e _=>⟨u.slots,k b u hc e⟩) (λb u _ e n=>?_) (λb u hc e=>⟨u,k b u hc e⟩)
  (λb xs e=>?_) (λb u v e=>?_) (λb ps e=>⟨#[],?_⟩) (λm hm=>?_) (λb u e=>?_) I.bare
 obtain⟨_,f1,_,f3,f4,f5⟩:=hf b hb;exact⟨f3,f1,f4,f5⟩;rw[aH (iJ (oq (eG e) ht))];exact n;rw[aH (bf e hn)];exact e;rw[aH (bf e hn)];exact e;rw[aH (bf e hn),e];simp;obtain⟨ob,es,ep,ho,r⟩:=hm;exact⟨ob,es,ep,k _ ob (λz=>(hf _ z).2.1 rfl) ho,r⟩;by_cases hb:b=t;subst hb;rw[aY] at e;cases e;exact new;rw[aH hb] at e;refine (I.bG b u e).ot (λc v hc q=>k c v ?_ q) (λc q=>by rw[aH (bf q hn)];exact q) λc xs q=>by rw[aH (bf q hn)];exact q
 obtain z|z:=hc
 rw[z];exact Eg b u e;exact Eg c _ z
end
def W7(K:qaf)(a:Addr):It :=
 ⟨λi H=>∃xs x,fN K H a xs/\xs[i]?=some x,λi H v H'=>∃t x,H t=none/\v=.ref t/\(∀xs,fN K H a xs->xs[i]?=some x)/\H'=upd H t (.tup [.int (i:Int),x]),λi H=>∃xs,fN K H a xs/\xs.length<=i⟩
theorem Cs{elts:qap}{x1}{tp:Pos}(a e it:Addr)(jz:e≠it) :
  Turn P w K (.Tuple elts x1 tp) (W7 K a) [e,it] e (λi h=>(∃old,IsEnum h e it (i:Int) old)/\h.IsListIter it a i) where
 mem:=by simp
 obj:=λi h st b hb=>by
  obtain⟨⟨old,h1⟩,o,h2,c,d⟩:=st;rcases bL.mp hb with z|z
  subst z;exact⟨_,h1,λv z=>by cases z⟩;have z':b=it:=by simpa using z
  subst z';exact⟨o,h2,λv z=>by rw[d] at z;cases z⟩
 keep:=λi h h' st k=>by obtain⟨⟨old,h1⟩,D1⟩:=st;exact⟨⟨old,k e (by simp) _ h1⟩,D1.at λo q=>k it (by simp) o q⟩
 item:=by
  intro X hP hw hK hc i pins s σ H E I hf st hg;subst hP hw hK;obtain⟨xs,x,hq,hx⟩:=hg;obtain⟨aK,rv,p,hz⟩:=I.list hq;obtain⟨u,hu,ru⟩:=rv.get hx;obtain⟨⟨old,h1⟩,D1⟩:=st;refine wpAny_pyNext_enum_item h1 D1 p.isList (x:=u) (by simpa using hu) jz λh₁ LP W8 ht₁ ES hk₁=>?_;refine⟨_,rfl,wpAny_letOwnedTupleGo_enum LP λh₂ he₂ rO=>?_⟩;have rP:Heap.SameBut e h₁ h₂:=rO;have gq:e<s.heap.objs.size:=eG h1;have W9:s.heap.objs.size≠e:=Ca gq;have kk:∀b ob,b∉[e,it]->s.heap.get? b=some ob->h₂.get? b=some ob:=λb ob hb q=>by have HZ:b≠e:=λz=>hb (by simp[z]);have W_:b≠it:=λz=>hb (by simp[z]);exact (rP.2 b HZ).trans (hk₁ b ob HZ W_ q)
  have new:b_ X.prog X.w (upd H s.heap.objs.size (.tup [.int (i:Int),x])) h₂ s.heap.objs.size (.tup [.int (i:Int),x]) :=
   ⟨by show 2<=sizeLine;rw[sizeLine_eq];decide,[.int i s.toks,u],.cons ⟨_,rfl⟩ (.cons ru .nil),⟨_,(rP.2 _ W9).trans ht₁,rfl,_,rfl⟩⟩
  refine⟨.ref s.heap.objs.size,upd H s.heap.objs.size (.tup [.int (i:Int),x]),I.grown (t':=s.toks+1) kk hf (eB _) new,rfl,⟨_,x,I.fresh,rfl,λys hy=>by rw[I.kM hy hq];exact hx,rfl⟩,⟨⟨u,?_⟩,?_⟩,λb hb=>?_⟩;have:((i:Int)+1)=((i+1:Nat):Int):=by omega
  rw[<- this];exact he₂;obtain⟨o,q,r⟩:=W8;exact⟨o,(rP.2 it (Ne.symm jz)).trans q,r⟩;have Xa:b<s.heap.objs.size:=by
   rcases bL.mp hb with z|z
   subst z;exact gq;have z':b=it:=by simpa using z
   subst z';obtain⟨o,q,_⟩:=D1;exact eG q
  rw[aH (iJ Xa)];exact (hf b hb).1
 done:=by intro X hP hw hK hc i pins s σ H E I hf st hg;subst hP hw hK;obtain⟨xs,hq,hx⟩:=hg;obtain⟨aK,rv,p,hz⟩:=I.list hq;have hl:=rv.length;obtain⟨⟨old,h1⟩,D1⟩:=st;obtain⟨f0,f1,f2,f3,f4,f5⟩:=hf it (by simp);exact wpAny_pyNext_enum_end (I.ok.hd hc) h1 D1 p.isList (by simp;omega) λh' eb=>⟨rfl,I.turned (t':=s.toks) (λb o hb q=>eb b o hb q) f0 f1 f3 f4 f5⟩
 self:=λ_ _ _ _ _ st h=>by obtain⟨⟨old,h1⟩,_⟩:=st;exact wpAny_pyIter_enum h1 h
def SJ(K:qaf)(ta:TA):TI:=λσ H R=>ta σ H λvs H1=>∃a,vs=[.ref a]/\(∃xs,fN K H1 a xs)/\R (W7 K a) H1
section
theorem boot_enumerate:bootBuiltins "enumerate"=some (.type "enumerate"):=by decide +kernel
theorem Jf{elts:qap}{x1}{tp:Pos}{a:Expr}{ta:TA}(hg:Gl X "enumerate")(hm:X.mg "enumerate"=none)(ha:PA X [a] ta)(hs:starEach [a] X.env=[(false,eval a X.env)]:=by rfl) :
  PI X (.Tuple elts x1 tp) (.Call (.Name "enumerate" p) [a] [] pos) (SJ X.K ta):=by
 intro pins s σ H R I h;refine Call_ (j8 I hg hm boot_enumerate (UN (cm (ha pos pins s σ H _ I h) λus s1 ⟨vs,H1,I1,r1,q1⟩=>?_) hs rfl));obtain⟨b,e,⟨xs,hq⟩,q⟩:=q1;subst e;obtain⟨u,rfl,ru⟩:=vals1 r1;cases ru;obtain⟨aK,rv,pl,hz⟩:=I1.list hq;refine call_enumerate_list pl.isList λh' he hit oW hk=>?_;have I2:Inv X pins σ H1 {s1 with heap:=h'}:=I1.kept (t':=s1.toks) hk;refine wpAny_pyIter_enum he ?_;refine⟨s1.heap.objs.size+1,[s1.heap.objs.size+1,s1.heap.objs.size],_,_,H1,rfl,I2,Cs b _ _ (Ca (QT _)),⟨⟨_,he⟩,hit⟩,λc hc=>?_,q⟩;rcases bL.mp hc with z|z
 subst z;exact I1.rK (Ng _) (I1.bG.fresh (Ng _));have z':c=s1.heap.objs.size:=by simpa using z
 subst z';exact I1.rK (eB _) I1.fresh
end
section
theorem rQ(hc:X.calm=true):cN X (.builtin "sum") (λxs H Q=>∃(p:Addr)(ns:qan),xs=[.ref p]/\fN X.K H p (ns.map V.int)/\Q (.int ns.sum) H):=by
 intro pins s σ H xs us Q I r h;obtain⟨p,ns,rfl,hq,q⟩:=h;obtain⟨u,rfl,rx⟩:=vals1 r;cases rx;obtain⟨aK,rv,pl,hz⟩:=I.list hq;have hI:IntsAre aK ns:=intsAre_of rv;obtain⟨xs,e⟩:=hI.allInts.items;have hn:=hI.numsOf;have hl:s.heap.IsList p (intItems xs):=by rw[<- e];exact pl.isList
 refine sum_intListG (I.ok.hd hc) hl λh' tk t' hk=>?_;have e2:preSum (numAt xs) xs.size=ns.sum:=by rw[preSum_eq,LJ (by simp),<- nums_intItems,<- e,U1,hn]
 rw[e2];exact⟨.int ns.sum,H,I.kept hk,⟨_,rfl⟩,q⟩
end
end L2
namespace rR
open PySem Builtin Builtin.Str
def bt:Str:="abcdefghijklmnopqrstuvwxyz"
noncomputable def Ct(c:Nat):Bool:=!(occurrences bt ⟨#[c]⟩ 0 bt.length 1).isEmpty
theorem pJ:((".":String):Str)=⟨#[46]⟩:=by decide +kernel
noncomputable def aW(x:Str):Bool:=decide (1<=(x.length:Int)) && (decide ((x.length:Int)<=8) && x.cps.toList.all Ct)
noncomputable def mI(x:Str):Bool:=Txt.startswith x "." && aW (Txt.slice x (some 1) none)
theorem fO(h:aW x=true):x.cps.toList.all Ct=true:=by unfold aW at h;rw[eJ,eJ] at h;exact h.2.2
theorem zc(x:Str):Txt.startswith ((".":String)++x) "."=true:=by obtain⟨⟨l⟩⟩:=x;rw[pJ];unfold Txt.startswith subAt;rw[eJ];refine⟨?_,?_⟩;apply decide_eq_true;show 0+1<=(#[46]++({toList:=l}:Array Nat)).size;simp;show (Array.extract (#[46]++({toList:=l}:Array Nat)) 0 (0+1)==#[46])=true;rw[beq_iff_eq];apply Array.ext';simp
theorem Cu(x:Str):Txt.slice ((".":String)++x) (some 1) none=x:=by
 obtain⟨⟨l⟩⟩:=x;rw[pJ];have hl:(Str.length (Str.mk #[46]++Str.mk {toList:=l}))=l.length+1:=by show (#[46]++({toList:=l}:Array Nat)).size=_;simp
 have hi:strSliceIndices (some 1) none 1 (l.length+1)=(List.range l.length).map (λk=>k+1):=by
  unfold strSliceIndices sliceRange;simp only[show (1:Int) > 0 by decide,if_true];have e0:max 0 (min (if (1:Int)<0 then 1+((l.length+1:Nat):Int) else 1) ((l.length+1:Nat):Int))=1:=by rw[if_neg (by decide)];omega
  rw[e0];by_cases hn:l.length=0;rw[hn];rfl;have e1:((1:Int)<((l.length+1:Nat):Int)):=by omega
  rw[if_pos e1];have e2:((((l.length+1:Nat):Int)-1+1-1) / 1).toNat=l.length:=by rw[Int.ediv_one];omega
  rw[e2];apply RC;intro k hk;omega
 unfold Txt.slice;rw[hl,hi];have jz:¬ (((1:Int)==1 && (List.map (λk=>k+1) (List.range l.length)).length==l.length+1)=true):=by rw[eJ,bQ,HU];intro q;have:=beq_iff_eq.mp q.2;omega
 rw[if_neg jz]
 congr 1
 apply Array.ext';rw[U1];show List.filterMap (λi=>(#[46]++({toList:=l}:Array Nat))[i]?) (List.map (λk=>k+1) (List.range l.length))=l;rw[RE];have e:∀k,((λi=>(#[46]++({toList:=l}:Array Nat))[i]?) ∘ λk=>k+1) k=l[k]?:=λk=>by show (#[46]++({toList:=l}:Array Nat))[k+1]?=l[k]?;rw[<- UU];simp
 rw[show ((λi=>(#[46]++({toList:=l}:Array Nat))[i]?) ∘ λk=>k+1)=λk=>l[k]? from funext e];clear e jz hi hl;induction l with
 |nil=>rfl
 |cons a r ih=>
  rw[rF,Wd,om];simp only[Rp,RE]
  congr 1
theorem Cv(h:aW x=true):mI ((".":String)++x)=true:=by unfold mI;rw[zc,Cu,h];rfl
theorem A_(x:Str):(((".":String):Str)++x).length=x.length+1:=by rw[pJ];show (#[46]++x.cps).size=_;simp[Str.length];omega
end rR
namespace VT
open PySem PySem.Spec PyProof.Rows L2
abbrev St:=L2.St
inductive T where
 |bR|bl (b:Bool)|int (i:Int)|str (x:Str)|tup (l:List T)|lst (l:List T)|dk (ks:List Key) (vs:List T)|dc (nh:List Key×Key->Int) (ks:List (List Key×Key)) (vs:List T)|ins (C:Addr) (ns:qai) (vs:List T)|pin (a:Addr) (t:T)|ob (a:Addr)|ty (n:String)
def rS(K:qaf)(H:Hp)(O:qah)(a:Addr)(vs:qak):Prop :=
 (Rd H a (.lst vs)/\a∉O)\/∃(o:Obj)(aK:Array Value)(n:Nat),K.lookup a=some o/\o.cls=.type "list"/\o.dict=none/\o.data=.seq aK n/\aK.size<=sizeLine/\Vals vs aK.toList
theorem rS.sq{O:qah}(h:rS K H O a vs):fN K H a vs:=by
 obtain h|h:=h
 exact .inl h.1;exact .inr h
def zd(H:Hp)(O:qah)(a:Addr)(u:HO):Prop:=H a=some u/\a∉O
def SK(nh:List Key×Key->Int)(a:Addr)(xs:List ((List Key×Key)×Addr×Value)):Heap->Prop:=λh=>∃o es ep,h.get? a=some o/\o.ExactDict/\o.data=.dict es ep/\es.toList=xs.map (λx=>⟨nh x.1,.ref x.2.1,x.2.2⟩)/\(xs.map (·.1)).Nodup
def SM(K:qaf)(H:Hp)(c:List Key×Key)(b:Addr):Prop:=∃d,eF K H b [.ref d,kV c.2]/\eF K H d (c.1.map kV)
mutual
def At(K:qaf)(H:Hp)(O:qah):T->V->Prop
 |.bR,v=>v=.bR
 |.bl b,v=>v=.bl b
 |.int i,v=>v=.int i
 |.str x,v=>v=.str x
 |.ob a,v=>v=.ref a
 |.ty n,v=>v=.ty n
 |.tup ts,v=>∃a vs,v=.ref a/\eF K H a vs/\aB K H O ts vs
 |.lst ts,v=>∃a vs,v=.ref a/\rS K H O a vs/\aB K H O ts vs
 |.dk ks ts,v=>∃a vs,v=.ref a/\ks.length=vs.length/\zd H O a (.dK (ks.zip vs))/\aB K H O ts vs
 |.dc nh ks ts,v=>∃a xs vs,v=.ref a/\zd H O a (.ext (SK nh a xs))/\ks=xs.map (·.1)/\(a==sysModules)=false/\(∀x∈xs,SM K H x.1 x.2.1)/\Vals vs (xs.map (·.2.2))/\aB K H O ts vs
 |.pin a t,v=>v=.ref a/\At K H O t v
 |.ins C ns ts,v=>∃a dx vs,v=.ref a/\ns.length=vs.length/\zd H O a (.ins C dx (ns.zip vs))/\aB K H O ts vs
def aB(K:qaf)(H:Hp)(O:qah):List T->qak->Prop
 |[],vs=>vs=[]
 |t::ts,vs=>∃v r,vs=v::r/\At K H O t v/\aB K H O ts r
end
section
variable{O O':qah}
mutual
theorem At.map(hl:∀a vs,rS K H O a vs->rS K H' O' a vs)(ht:∀a vs,eF K H a vs->eF K H' a vs)(hd:∀a u,zd H O a u->zd H' O' a u):∀{t:T}{v:V},At K H O t v->At K H' O' t v
 |.bR,_,h=>by simpa only[At] using h
 |.bl _,_,h=>by simpa only[At] using h
 |.int _,_,h=>by simpa only[At] using h
 |.str _,_,h=>by simpa only[At] using h
 |.ob _,_,h=>by simpa only[At] using h
 |.ty _,_,h=>by simpa only[At] using h
 |.tup ts,_,h=>by simp only[At] at h ⊢;obtain⟨a,vs,e,h1,h2⟩:=h;exact⟨a,vs,e,ht a vs h1,aB.map hl ht hd h2⟩
 |.lst ts,_,h=>by simp only[At] at h ⊢;obtain⟨a,vs,e,h1,h2⟩:=h;exact⟨a,vs,e,hl a vs h1,aB.map hl ht hd h2⟩
 |.dk ks ts,_,h=>by simp only[At] at h ⊢;obtain⟨a,vs,e,h0,h1,h2⟩:=h;exact⟨a,vs,e,h0,hd _ _ h1,aB.map hl ht hd h2⟩
 |.dc nh ks ts,_,h=>by simp only[At] at h ⊢;obtain⟨a,xs,vs,e,h0,h1,hm,h2,h3,h4⟩:=h;exact⟨a,xs,vs,e,hd _ _ h0,h1,hm,λx hx=>let ⟨d,q1,q2⟩:=h2 x hx;⟨d,ht _ _ q1,ht _ _ q2⟩,h3,aB.map hl ht hd h4⟩
 |.pin a t,_,h=>by simp only[At] at h ⊢;exact⟨h.1,At.map hl ht hd h.2⟩
 |.ins C ns ts,_,h=>by simp only[At] at h ⊢;obtain⟨a,dx,vs,e,h0,h1,h2⟩:=h;exact⟨a,dx,vs,e,h0,hd _ _ h1,aB.map hl ht hd h2⟩
theorem aB.map(hl:∀a vs,rS K H O a vs->rS K H' O' a vs)(ht:∀a vs,eF K H a vs->eF K H' a vs)(hd:∀a u,zd H O a u->zd H' O' a u):∀{ts:List T}{vs:qak},aB K H O ts vs->aB K H' O' ts vs
 |[],_,h=>by simpa only[aB] using h
 |t::ts,_,h=>by simp only[aB] at h ⊢;obtain⟨v,r,e,h1,h2⟩:=h;exact⟨v,r,e,At.map hl ht hd h1,aB.map hl ht hd h2⟩
end
theorem Rd.same{u:HO}(s:aL H H')(h:Rd H a u):Rd H' a u:=by
 obtain h|⟨o,h⟩:=h
 exact .inl (s _ _ h);exact .inr ⟨o,s _ _ h⟩
theorem eF.same(s:aL H H')(h:eF K H a vs):eF K H' a vs:=by
 obtain h|h:=h
 exact .inl (Rd.same s h);exact .inr h
theorem rS.same(s:aL H H')(h:rS K H O a vs):rS K H' O a vs:=by
 obtain h|h:=h
 exact .inl ⟨Rd.same s h.1,h.2⟩;exact .inr h
theorem At.same{t:T}(s:aL H H')(h:At K H O t v):At K H' O t v:=At.map (λ_ _ q=>q.same s) (λ_ _ q=>eF.same s q) (λ_ _ q=>⟨s _ _ q.1,q.2⟩) h
theorem aB.same{t:List T}{v:qak}(s:aL H H')(h:aB K H O t v):aB K H' O t v:=aB.map (λ_ _ q=>q.same s) (λ_ _ q=>eF.same s q) (λ_ _ q=>⟨s _ _ q.1,q.2⟩) h
theorem At.bB{t:T}(s:∀a∈O',a∈O)(h:At K H O t v):At K H O' t v :=
 At.map (λa vs q=>q.elim (λz=>.inl ⟨z.1,λm=>z.2 (s a m)⟩) .inr) (λ_ _ q=>q) (λa _ q=>⟨q.1,λm=>q.2 (s a m)⟩) h
theorem aB.bB{t:List T}{v:qak}(s:∀a∈O',a∈O)(h:aB K H O t v):aB K H O' t v :=
 aB.map (λa vs q=>q.elim (λz=>.inl ⟨z.1,λm=>z.2 (s a m)⟩) .inr) (λ_ _ q=>q) (λa _ q=>⟨q.1,λm=>q.2 (s a m)⟩) h
theorem Rd.some{u:HO}(h:Rd H a u):H a≠none:=by obtain h|⟨o,h⟩:=h<;>rw[h]<;>simp
theorem At.more{t:T}(s:∀a∈O',a∈O\/H a=none)(h:At K H O t v):At K H O' t v :=
 At.map (λa vs q=>q.elim (λz=>.inl ⟨z.1,λm=>(s a m).elim z.2 (Rd.some z.1)⟩) .inr) (λ_ _ q=>q) (λa bE q=>⟨q.1,λm=>(s a m).elim q.2 (by rw[q.1];simp)⟩) h
theorem aB.more{t:List T}{v:qak}(s:∀a∈O',a∈O\/H a=none)(h:aB K H O t v):aB K H O' t v :=
 aB.map (λa vs q=>q.elim (λz=>.inl ⟨z.1,λm=>(s a m).elim z.2 (Rd.some z.1)⟩) .inr) (λ_ _ q=>q) (λa bE q=>⟨q.1,λm=>(s a m).elim q.2 (by rw[q.1];simp)⟩) h
noncomputable def wI:HO->Bool
 |.lst _=>true
 |.dK _=>true
 |.dT _=>true
 |.ins _ _ _=>true
 |.ext _=>true
 |_=>false
theorem At.wrote{t:T}{u:HO}(ha:a∈O)(hu:H a=some u)(hm:wI u=true)(h:At K H O t v):At K (upd H a o) O t v:=by
 have ne:∀b,b∉O->b≠a:=λb hb e=>hb (by rw[e];exact ha);refine At.map (λb vs q=>?_) (λb vs q=>?_) (λb bE q=>?_) h;obtain q|q:=q
 refine .inl ⟨?_,q.2⟩;obtain z|⟨o',z⟩:=q.1
 exact .inl (by rw[aH (ne b q.2)];exact z);exact .inr ⟨o',by rw[aH (ne b q.2)];exact z⟩;exact .inr q;obtain z|z:=q
 refine .inl ?_;obtain z|⟨o',z⟩:=z
 exact .inl (by rw[aH (LO z hu (by intro e;subst e;cases hm))];exact z);exact .inr ⟨o',by rw[aH (LO z hu (by intro e;subst e;cases hm))];exact z⟩;exact .inr z;exact⟨by rw[aH (ne b q.2)];exact q.1,q.2⟩
theorem aB.iff{ts:List T}:∀{vs:qak},aB K H O ts vs↔Paired (λv t=>At K H O t v) vs ts:=by
 induction ts with
 |nil=>intro vs;simp only[aB];exact⟨λe=>by subst e;exact .nil,λh=>by cases h;rfl⟩
 |cons t ts ih=>
  intro vs;simp only[aB];constructor;rintro⟨v,r,rfl,h1,h2⟩;exact .cons h1 (ih.mp h2);intro h;cases h with
  |cons h1 h2=>exact⟨_,_,rfl,h1,ih.mpr h2⟩
theorem aB.wrote{t:List T}{v:qak}{u:HO}(ha:a∈O)(hu:H a=some u)(hm:wI u=true)(h:aB K H O t v):aB K (upd H a o) O t v :=
 aB.iff.mpr (Paired.pj (aB.iff.mp h) λ_ _ q=>q.wrote ha hu hm)
theorem aB.length{ts:List T}(h:aB K H O ts vs):vs.length=ts.length:=Paired.length (aB.iff.mp h)
theorem aB.get{ts:List T}{vs:qak}(h:aB K H O ts vs){i:Nat}{t:T}(e:ts[i]?=some t):∃v,vs[i]?=some v/\At K H O t v:=by
 have q:=aB.iff.mp h;clear h;induction q generalizing i with
 |nil=>simp at e
 |cons r _ ih=>
  cases i with
  |zero=>simp at e;subst e;exact⟨_,rfl,r⟩
  |succ i=>obtain⟨v,h1,h2⟩:=ih (i:=i) (by simpa using e);exact⟨v,by simpa using h1,h2⟩
theorem aB.cons{t:T}{ts:List T}{v:V}{vs:qak}(h:At K H O t v)(hs:aB K H O ts vs):aB K H O (t::ts) (v::vs):=by simp only[aB];exact⟨v,vs,rfl,h,hs⟩
theorem aB.nil:aB K H O [] []:=by simp only[aB]
theorem aB.append{ts us:List T}{ws:qak}(h:aB K H O ts vs)(h':aB K H O us ws):aB K H O (ts++us) (vs++ws):=by
 rw[aB.iff] at h h' ⊢;induction h with
 |nil=>exact h'
 |cons r _ ih=>exact .cons r ih
theorem aB.drop{ts:List T}(n:Nat)(h:aB K H O ts vs):aB K H O (ts.drop n) (vs.drop n):=by
 rw[aB.iff] at h ⊢;induction h generalizing n with
 |nil=>cases n<;>exact .nil
 |cons r t ih=>cases n with
  |zero=>exact .cons r t
  |succ n=>exact ih n
theorem aB.take{ts:List T}(n:Nat)(h:aB K H O ts vs):aB K H O (ts.take n) (vs.take n):=by
 rw[aB.iff] at h ⊢;induction h generalizing n with
 |nil=>cases n<;>exact .nil
 |cons r t ih=>cases n with
  |zero=>exact .nil
  |succ n=>exact .cons r (ih n)
theorem aB.set{ts:List T}{t:T}(i:Nat)(h:aB K H O ts vs)(q:At K H O t v):aB K H O (ts.set i t) (vs.set i v):=by
 rw[aB.iff] at h ⊢;induction h generalizing i with
 |nil=>exact .nil
 |cons r s ih=>cases i with
  |zero=>exact .cons q s
  |succ i=>exact .cons r (ih i)
end
mutual
noncomputable def yJ:T->Bool
 |.tup ts=>ET ts
 |.lst _=>false
 |.dk _ _=>false
 |.dc _ _ _=>false
 |.ins _ _ _=>false
 |.pin _ _=>false
 |_=>true
noncomputable def ET:List T->Bool
 |[]=>true
 |t::ts=>yJ t && ET ts
end
section
variable{O O':qah}
mutual
theorem At.yJ:∀{t:T}{v:V},yJ t=true->At K H O t v->At K H O' t v
 |.bR,_,_,h=>by simpa only[At] using h
 |.bl _,_,_,h=>by simpa only[At] using h
 |.int _,_,_,h=>by simpa only[At] using h
 |.str _,_,_,h=>by simpa only[At] using h
 |.ob _,_,_,h=>by simpa only[At] using h
 |.ty _,_,_,h=>by simpa only[At] using h
 |.tup ts,_,i,h=>by simp only[At] at h ⊢;simp only[VT.yJ] at i;obtain⟨a,vs,e,h1,h2⟩:=h;exact⟨a,vs,e,h1,aB.yJ i h2⟩
 |.lst ts,_,i,h=>by simp only[VT.yJ] at i;cases i
 |.dk _ _,_,i,h=>by simp only[VT.yJ] at i;cases i
 |.dc _ _ _,_,i,h=>by simp only[VT.yJ] at i;cases i
 |.ins _ _ _,_,i,h=>by simp only[VT.yJ] at i;cases i
 |.pin _ _,_,i,h=>by simp only[VT.yJ] at i;cases i
theorem aB.yJ:∀{ts:List T}{vs:qak},ET ts=true->aB K H O ts vs->aB K H O' ts vs
 |[],_,_,h=>by simpa only[aB] using h
 |t::ts,_,i,h=>by simp only[VT.ET,eJ] at i;simp only[aB] at h ⊢;obtain⟨v,r,e,h1,h2⟩:=h;exact⟨v,r,e,At.yJ i.1 h1,aB.yJ i.2 h2⟩
end
end
abbrev En:=List (Option (T×Bool))
structure Zc where
 H0:Hp
 P:List (Nat×Addr)
 Ox:qah
noncomputable def Zc.ex(Z:Zc)(a:Addr):Zc:={Z with Ox:=a::Z.Ox}
def cX(K:qaf)(H:Hp)(A:qah)(a:Addr):T->Prop
 |.lst ts=>∃vs,H a=some (.lst vs)/\aB K H A ts vs
 |.dk ks ts=>∃vs,ks.length=vs.length/\H a=some (.dK (ks.zip vs))/\aB K H A ts vs
 |.ins C ns ts=>∃dx vs,ns.length=vs.length/\H a=some (.ins C dx (ns.zip vs))/\aB K H A ts vs
 |_=>False
def pK(K:qaf)(H:Hp)(A:qah):Option (T×Bool)->qar->Option V->Prop
 |none,o,_=>o=none
 |some (t,false),o,s=>o=none/\∃v,s=some v/\At K H A t v
 |some (t,true),o,s=>∃a,o=some a/\s=some (.ref a)/\cX K H A a t
noncomputable def roots(O:HD):qah:=O.filterMap id
noncomputable def av(Z:Zc)(O:HD):qah:=roots O++Z.Ox
structure aw(K:qaf)(Z:Zc)(tm:List (T×V))(O:HD)(ρ:En)(σ:St)(H:Hp):Prop where
 lσ:σ.length=ρ.length
 lO:O.length=ρ.length
 sl:∀(i:Nat) e,ρ[i]?=some e->∃o s,O[i]?=some o/\σ[i]?=some s/\pK K H (av Z O) e o s
 nd:(roots O).Nodup
 own:∀a∈roots O,(a∈Z.P.map (·.2)\/Z.H0 a=none)/\a∉Z.Ox/\∃u,H a=some u/\wI u=true
 par:∀p∈Z.P,O[p.1]?=some (some p.2)
 ox:∀a∈Z.Ox,H a≠none
 keep:∀b o,Z.H0 b=some o->b∉Z.P.map (·.2)->H b=some o
 oy:∀p∈tm,At K H (av Z O) p.1 p.2
section
variable{Z:Zc}{tm:List (T×V)}{ρ:En}
theorem cX.map{A A':qah}{t:T}(h:cX K H A a t)(h1:H' a=H a)(h2:∀ts vs,aB K H A ts vs->aB K H' A' ts vs):cX K H' A' a t:=by
 cases t with
 |lst ts=>obtain⟨vs,e,q⟩:=h;exact⟨vs,h1.trans e,h2 _ _ q⟩
 |dk ks ts=>obtain⟨vs,l,e,q⟩:=h;exact⟨vs,l,h1.trans e,h2 _ _ q⟩
 |ins C ns ts=>obtain⟨dx,vs,l,e,q⟩:=h;exact⟨dx,vs,l,h1.trans e,h2 _ _ q⟩
 |_=>exact h.elim
theorem cX.mut{A:qah}{t:T}(h:cX K H A a t):∃u,H a=some u/\wI u=true:=by
 cases t with
 |lst ts=>obtain⟨vs,e,q⟩:=h;exact⟨_,e,rfl⟩
 |dk ks ts=>obtain⟨vs,l,e,q⟩:=h;exact⟨_,e,rfl⟩
 |ins C ns ts=>obtain⟨dx,vs,l,e,q⟩:=h;exact⟨_,e,rfl⟩
 |_=>exact h.elim
theorem cX.bB{A A':qah}{t:T}(h:cX K H A a t)(s:∀b∈A',b∈A):cX K H A' a t:=h.map rfl λ_ _ q=>q.bB s
theorem cX.same{A:qah}{t:T}(h:cX K H A a t)(s:aL H H'):cX K H' A a t:=by obtain⟨u,e,_⟩:=h.mut;exact h.map (by rw[e];exact s _ _ e) λ_ _ q=>q.same s
theorem cX.at{A:qah}{t:T}(h:cX K H A a t)(n:a∉A):At K H A t (.ref a):=by
 cases t with
 |lst ts=>obtain⟨vs,e,q⟩:=h;simp only[At];exact⟨a,vs,rfl,.inl ⟨.inl e,n⟩,q⟩
 |dk ks ts=>obtain⟨vs,l,e,q⟩:=h;simp only[At];exact⟨a,vs,rfl,l,⟨e,n⟩,q⟩
 |ins C ns ts=>obtain⟨dx,vs,l,e,q⟩:=h;simp only[At];exact⟨a,dx,vs,rfl,l,⟨e,n⟩,q⟩
 |_=>exact h.elim
theorem pK.map{A A':qah}{e:Option (T×Bool)}{o:qar}{s:Option V}(h:pK K H A e o s)(h1:∀t v,At K H A t v->At K H' A' t v)(h2:∀a t,o=some a->cX K H A a t->cX K H' A' a t):pK K H' A' e o s:=by
 match e,h with
 |none,h=>exact h
 |some (t,false),⟨e,v,es,q⟩=>exact⟨e,v,es,h1 _ _ q⟩
 |some (t,true),⟨a,e,es,q⟩=>exact⟨a,e,es,h2 _ _ e q⟩
theorem aP:a∈roots O↔some a∈O:=by unfold roots;rw[List.mem_filterMap];exact⟨λ⟨x,h,e⟩=>by rw[id] at e;rw[<- e];exact h,λh=>⟨_,h,rfl⟩⟩
theorem aw.Q6(I:aw K Z tm O ρ σ H):∀a∈av Z O,H a≠none:=λa h=>by
 rcases gF.mp h with h|h
 obtain⟨_,_,u,e,_⟩:=I.own a h;rw[e];simp;exact I.ox a h
theorem aw.same(I:aw K Z tm O ρ σ H)(s:aL H H'):aw K Z tm O ρ σ H' :=
 ⟨I.lσ,I.lO,λi e h=>let ⟨o,w,h1,h2,h3⟩:=I.sl i e h;⟨o,w,h1,h2,h3.map (λ_ _ q=>q.same s) λ_ _ _ q=>q.same s⟩,I.nd,
  λa h=>let ⟨h1,h2,u,e,m⟩:=I.own a h;⟨h1,h2,u,s _ _ e,m⟩,I.par,λa h=>by
   cases e:H a with
   |none=>exact absurd e (I.ox a h)
   |some u=>rw[s _ _ e];simp,
  λb o e n=>s _ _ (I.keep b o e n),λp hp=>(I.oy p hp).same s⟩
theorem cD(i:Nat):∀a∈roots (O.set i none),a∈roots O:=λa h=>by
 rw[aP] at h ⊢;rcases Rn h with z|z
 exact z;cases z
theorem gv:∀(O:HD)(i:Nat),(roots O).Nodup->(roots (O.set i none)).Nodup
 |[],i,h=>by simpa using h
 |o::O,0,h=>by
  cases o with
  |none=>simpa[roots] using h
  |some a=>simp only[roots,U2,om,id] at h ⊢;exact (sO.mp h).2
 |o::O,i+1,h=>by
  have key:=gv O i;cases o with
  |none=>simp only[roots,QS,om,id] at h ⊢;exact key h
  |some a=>simp only[roots,QS,om,id] at h ⊢;rw[sO] at h ⊢;exact⟨λz=>h.1 (cD i a z),key h.2⟩
theorem cu(i:Nat):∀a∈av Z (O.set i none),a∈av Z O:=λa h=>by
 rcases gF.mp h with h|h
 exact j5 _ (cD i a h);exact kC _ h
theorem get_set{l:List α}{x y:α}(h:(l.set i x)[j]?=some y):(j=i/\y=x/\i<l.length)\/(j≠i/\l[j]?=some y):=by rw[List.getElem?_set] at h;by_cases e:i=j;rw[if_pos e] at h;by_cases hl:i<l.length;rw[if_pos hl] at h;exact .inl ⟨e.symm,(Option.some.inj h).symm,hl⟩;rw[if_neg hl] at h;cases h;rw[if_neg e] at h;exact .inr ⟨λz=>e z.symm,h⟩
theorem aw.put(I:aw K Z tm O ρ σ H){t:T}(hp:∀p∈Z.P,p.1≠i)(hv:At K H (av Z O) t v):aw K Z tm (O.set i none) (ρ.set i (some (t,false))) (σ.set i (some v)) H:=by
 have fw:∀{t:T}{v:V},At K H (av Z O) t v->At K H (av Z (O.set i none)) t v:=λq=>q.bB (cu i);refine⟨by simp[I.lσ],by simp[I.lO],λj e h=>?_,gv _ _ I.nd,λa h=>I.own a (cD i a h),λp q=>?_,I.ox,I.keep,λp q=>fw (I.oy p q)⟩;rcases get_set h with⟨rfl,rfl,hl⟩|⟨ne,h⟩
 exact⟨none,some v,by rw[yF (by rw[I.lO];exact hl)],by rw[yF (by rw[I.lσ];exact hl)],rfl,v,rfl,fw hv⟩;obtain⟨o,s,h1,h2,h3⟩:=I.sl j e h;exact⟨o,s,by rw[uA (Ne.symm ne)];exact h1,by rw[uA (Ne.symm ne)];exact h2,h3.map (λ_ _ q=>fw q) λ_ _ _ q=>q.bB (cu i)⟩;rw[uA (Ne.symm (hp p q))];exact I.par p q
theorem aw.forget(I:aw K Z tm O ρ σ H)(hp:∀p∈Z.P,p.1≠i):aw K Z tm (O.set i none) (ρ.set i none) σ H:=by
 have fw:∀{t:T}{v:V},At K H (av Z O) t v->At K H (av Z (O.set i none)) t v:=λq=>q.bB (cu i);refine⟨by simp[I.lσ],by simp[I.lO],λj e h=>?_,gv _ _ I.nd,λa h=>I.own a (cD i a h),λp q=>?_,I.ox,I.keep,λp q=>fw (I.oy p q)⟩;rcases get_set h with⟨rfl,rfl,hl⟩|⟨ne,h⟩
 obtain⟨s,hs⟩:∃s,σ[j]?=some s:=⟨σ[j]'(by rw[I.lσ];exact hl),by simp⟩;exact⟨none,s,by rw[yF (by rw[I.lO];exact hl)],hs,rfl⟩;obtain⟨o,s,h1,h2,h3⟩:=I.sl j e h;exact⟨o,s,by rw[uA (Ne.symm ne)];exact h1,h2,h3.map (λ_ _ q=>fw q) λ_ _ _ q=>q.bB (cu i)⟩;rw[uA (Ne.symm (hp p q))];exact I.par p q
theorem nW:∀(O:HD)(i:Nat)(a:Addr),a∉roots O->(roots O).Nodup->(roots (O.set i (some a))).Nodup
 |[],i,a,_,h=>by simpa using h
 |o::O,0,a,n,h=>by
  cases o with
  |none=>simp only[roots,U2,om,id] at n h ⊢;exact sO.mpr ⟨n,h⟩
  |some b=>simp only[roots,U2,om,id] at n h ⊢;exact sO.mpr ⟨λz=>n (fY _ z),(sO.mp h).2⟩
 |o::O,i+1,a,n,h=>by
  have key:=nW O i a;cases o with
  |none=>simp only[roots,QS,om,id] at n h ⊢;exact key n h
  |some b=>
   simp only[roots,QS,om,id] at n h ⊢;rw[sO] at h ⊢;refine⟨λz=>?_,key (λz=>n (fY _ z)) h.2⟩;have z':some b∈O.set i (some a):=aP.mp z;rcases Rn z' with q|q
   exact h.1 (aP.mpr q);exact n (by rw[Option.some.inj q];exact eE)
theorem wJ(i:Nat):∀b∈av Z (O.set i (some a)),b∈av (Z.ex a) O:=λb h=>by
 rcases gF.mp h with h|h
 rcases Rn (aP.mp h) with z|z
 exact j5 _ (aP.mpr z);exact kC _ (by rw[Option.some.inj z];exact eE);exact kC _ (fY _ h)
theorem aw.SN(I:aw K (Z.ex a) tm O ρ σ H){t:T}(hp:∀p∈Z.P,p.1≠i)(hv:cX K H (av (Z.ex a) O) a t)(h0:Z.H0 a=none)(hx:a∉Z.Ox):aw K Z tm (O.set i (some a)) (ρ.set i (some (t,true))) (σ.set i (some (.ref a))) H:=by
 have sub:=wJ (Z:=Z) (O:=O) (a:=a) i;have fw:∀{t:T}{v:V},At K H (av (Z.ex a) O) t v->At K H (av Z (O.set i (some a))) t v:=λq=>q.bB sub;have na:a∉roots O:=λz=>(I.own a z).2.1 eE;refine⟨by simp[I.lσ],by simp[I.lO],λj e h=>?_,nW _ _ _ na I.nd,λb h=>?_,λp q=>?_,λb h=>I.ox b (fY _ h),I.keep,λp q=>fw (I.oy p q)⟩;rcases get_set h with⟨rfl,rfl,hl⟩|⟨ne,h⟩
 exact⟨some a,some (.ref a),by rw[yF (by rw[I.lO];exact hl)],by rw[yF (by rw[I.lσ];exact hl)],a,rfl,rfl,hv.bB sub⟩;obtain⟨o,s,h1,h2,h3⟩:=I.sl j e h;exact⟨o,s,by rw[uA (Ne.symm ne)];exact h1,by rw[uA (Ne.symm ne)];exact h2,h3.map (λ_ _ q=>fw q) λ_ _ _ q=>q.bB sub⟩;rcases Rn (aP.mp h) with z|z
 obtain⟨h1,h2,h3⟩:=I.own b (aP.mpr z);exact⟨h1,λq=>h2 (fY _ q),h3⟩;cases z;exact⟨.inr h0,hx,hv.mut⟩;rw[uA (Ne.symm (hp p q))];exact I.par p q
theorem aw.yP(I:aw K Z tm O ρ σ H){t:T}(hp:∀p∈Z.P,p.1≠i)(hi:ρ[i]?=some (some (t,true))):aw K Z tm (O.set i none) (ρ.set i (some (t,false))) σ H:=by
 have fw:∀{t:T}{v:V},At K H (av Z O) t v->At K H (av Z (O.set i none)) t v:=λq=>q.bB (cu i);obtain⟨o,s,h1,h2,a,rfl,rfl,hr⟩:=I.sl i _ hi;have ha:a∈roots O:=aP.mpr (mn h1);have na:a∉roots (O.set i none):=λz=>by
  obtain⟨j,hj⟩:=Ru.mp (aP.mp z);rcases get_set hj with⟨_,q,_⟩|⟨ne,q⟩
  cases q
  -- two places of one root
  have key:∀(O:HD)(i j:Nat),i<j->O[i]?=some (some a)->O[j]?=some (some a)->(roots O).Nodup->False:=by
   intro O;induction O with
   |nil=>intro i j _ h;simp at h
   |cons o O ih=>
    intro i j Oe e1 e2 nd;cases j with
    |zero=>omega
    |succ j=>
     have Ie:O[j]?=some (some a):=by simpa using e2
     cases i with
     |zero=>
      have:o=some a:=by simpa using e1
      subst this;simp only[roots,om,id] at nd;exact (sO.mp nd).1 (aP.mpr (mn Ie))
     |succ i=>
      refine ih i j (by omega) (by simpa using e1) Ie ?_;cases o with
      |none=>simpa[roots] using nd
      |some b=>simp only[roots,om,id] at nd;exact (sO.mp nd).2
  rcases Nat.lt_or_gt_of_ne ne with l|l
  exact key O j i l q h1 I.nd;exact key O i j l h1 q I.nd
 have nav:a∉av Z (O.set i none):=λz=>by
  rcases gF.mp z with z|z
  exact na z;exact (I.own a ha).2.1 z
 refine⟨by simp[I.lσ],by simp[I.lO],λj e h=>?_,gv _ _ I.nd,λa h=>I.own a (cD i a h),λp q=>?_,I.ox,I.keep,λp q=>fw (I.oy p q)⟩;rcases get_set h with⟨rfl,rfl,hl⟩|⟨ne,h⟩
 exact⟨none,some (.ref a),by rw[yF (by rw[I.lO];exact hl)],h2,rfl,.ref a,rfl,(hr.bB (cu j)).at nav⟩;obtain⟨o,s,h1,h2,h3⟩:=I.sl j e h;exact⟨o,s,by rw[uA (Ne.symm ne)];exact h1,h2,h3.map (λ_ _ q=>fw q) λ_ _ _ q=>q.bB (cu i)⟩;rw[uA (Ne.symm (hp p q))];exact I.par p q
theorem aw.wrote(I:aw K Z tm O ρ σ H){t t':T}{u:HO}(hi:ρ[i]?=some (some (t,true)))(hO:O[i]?=some (some a))(hr:cX K (upd H a u) (av Z O) a t'):aw K Z tm O (ρ.set i (some (t',true))) σ (upd H a u):=by
 have ha:a∈roots O:=aP.mpr (mn hO);have Jg:a∈av Z O:=j5 _ ha;obtain⟨hP,hx,u0,e0,m0⟩:=I.own a ha;have inj:∀j b,j≠i->O[j]?=some (some b)->b≠a:=by
  intro j b ne hj e;subst e;have key:∀(O:HD)(i j:Nat),i<j->O[i]?=some (some b)->O[j]?=some (some b)->(roots O).Nodup->False:=by
   intro O;induction O with
   |nil=>intro i j _ h;simp at h
   |cons o O ih=>
    intro i j Oe e1 e2 nd;cases j with
    |zero=>omega
    |succ j=>
     have Ie:O[j]?=some (some b):=by simpa using e2
     cases i with
     |zero=>
      have:o=some b:=by simpa using e1
      subst this;simp only[roots,om,id] at nd;exact (sO.mp nd).1 (aP.mpr (mn Ie))
     |succ i=>
      refine ih i j (by omega) (by simpa using e1) Ie ?_;cases o with
      |none=>simpa[roots] using nd
      |some c=>simp only[roots,om,id] at nd;exact (sO.mp nd).2
  rcases Nat.lt_or_gt_of_ne ne with l|l
  exact key O j i l hj hO I.nd;exact key O i j l hO hj I.nd
 refine⟨by simp[I.lσ],by simp[I.lO],λj e h=>?_,I.nd,λb h=>?_,I.par,λb h=>?_,λb o e n=>?_,λp q=>(I.oy p q).wrote Jg e0 m0⟩;rcases get_set h with⟨rfl,rfl,hl⟩|⟨ne,h⟩
 obtain⟨o,s,h1,h2,a',h4,h5,h6⟩:=I.sl j _ hi;rw[hO] at h1;cases h1;cases h4;exact⟨_,s,hO,h2,a,rfl,h5,hr⟩;obtain⟨o,s,h1,h2,h3⟩:=I.sl j e h;refine⟨o,s,h1,h2,h3.map (λ_ _ q=>q.wrote Jg e0 m0) λb t e q=>?_⟩;subst e;exact q.map (aH (inj j b ne h1)) λ_ _ z=>z.wrote Jg e0 m0;obtain⟨h1,h2,v,e,m⟩:=I.own b h;by_cases hb:b=a;subst hb;exact⟨h1,h2,hr.mut⟩;exact⟨h1,h2,v,by rw[aH hb];exact e,m⟩;by_cases hb:b=a;subst hb;exact absurd h hx;rw[aH hb];exact I.ox b h;by_cases hb:b=a;subst hb;obtain q|q:=hP
 exact absurd q n;rw[q] at e;cases e;rw[aH hb];exact I.keep b o e n
theorem aw.fresh(I:aw K Z tm O ρ σ H)(h:H a=none):a∉av Z O/\a∉Z.Ox/\Z.H0 a=none:=by
 refine⟨λz=>I.Q6 a z h,λz=>I.ox a z h,?_⟩;cases e:Z.H0 a with
 |none=>rfl
 |some o=>by_cases hp:a∈Z.P.map (·.2);obtain⟨p,L0,rfl⟩:=iS.mp hp;obtain⟨_,_,u,e',_⟩:=I.own p.2 (aP.mpr (mn (I.par p L0)));rw[h] at e';cases e';rw[I.keep a o e hp] at h;cases h
theorem dF:∀b∈av (Z.ex a) O,b∈av Z O\/b=a:=λb h=>by
 rcases gF.mp h with h|h
 exact .inl (j5 _ h);rcases bL.mp h with h|h
 exact .inr h;exact .inl (kC _ h)
theorem gO:∀b∈av Z O,b∈av (Z.ex a) O:=λb h=>by
 rcases gF.mp h with h|h
 exact j5 _ h;exact kC _ (fY _ h)
theorem aw.new(I:aw K Z tm O ρ σ H){u:HO}(h:H a=none)(hu:wI u=true):aw K (Z.ex a) tm O ρ σ (upd H a u):=by
 have s:aL H (upd H a u):=aQ h;have J:=I.same s;obtain⟨n1,n2,n3⟩:=I.fresh h;have mr:∀b∈av (Z.ex a) O,b∈av Z O\/H b=none:=λb hb=>(dF b hb).imp id λe=>by rw[e];exact h
 have fw:∀{t:T}{v:V},At K H (av Z O) t v->At K (upd H a u) (av (Z.ex a) O) t v:=λq=>(q.more mr).same s;refine⟨J.lσ,J.lO,λi e hi=>?_,J.nd,λb hb=>?_,J.par,λb hb=>?_,J.keep,λp hp=>fw (I.oy p hp)⟩;obtain⟨o,w,h1,h2,h3⟩:=I.sl i e hi;refine⟨o,w,h1,h2,h3.map (λ_ _ q=>fw q) λb t eo q=>?_⟩;refine cX.same (q.map rfl λ_ _ z=>z.more mr) s;obtain⟨q1,q2,q3⟩:=J.own b hb;refine⟨q1,λz=>?_,q3⟩;rcases bL.mp z with z|z
 exact n1 (by rw[<- z];exact j5 _ hb);exact q2 z;rcases bL.mp hb with z|z
 rw[z,aY];simp;exact J.ox b z
theorem aw.Xb(I:aw K (Z.ex a) tm O ρ σ H):aw K Z tm O ρ σ H :=
 ⟨I.lσ,I.lO,λi e h=>let ⟨o,w,h1,h2,h3⟩:=I.sl i e h;⟨o,w,h1,h2,h3.map (λ_ _ q=>q.bB gO) λ_ _ _ q=>q.bB gO⟩,I.nd,
  λb h=>let ⟨q1,q2,q3⟩:=I.own b h;⟨q1,λz=>q2 (fY _ z),q3⟩,I.par,λb h=>I.ox b (fY _ h),I.keep,λp hp=>(I.oy p hp).bB gO⟩
end
inductive Rt where
 |vw (t:T)
 |fr (t:T)
def Rt.t:Rt->T
 |.vw t=>t
 |.fr t=>t
def jA(K:qaf)(H:Hp)(A:qah)(t:T)(v:V):Prop:=At K H A t v\/∃a,v=.ref a/\cX K H A a t
def i4(K:qaf)(Z:Zc)(tm:List (T×V))(O:HD)(ρ:En)(σ:St)(H:Hp):Rt->V->Prop
 |.vw t,v=>aw K Z tm O ρ σ H/\At K H (av Z O) t v
 |.fr t,v=>∃a,v=.ref a/\aw K (Z.ex a) tm O ρ σ H/\cX K H (av (Z.ex a) O) a t/\Z.H0 a=none/\a∉Z.Ox
abbrev FE:=En->(T->Prop)->Prop
abbrev FP:=En->(Rt->Prop)->Prop
abbrev FX:=En->(En->Rt->Prop)->Prop
abbrev FB:=En->(Bool->Prop)->Prop
abbrev FA:=En->(List T->Prop)->Prop
section
variable{Z:Zc}{tm:List (T×V)}{ρ:En}{A:qah}
theorem jA.same{t:T}(s:aL H H')(h:jA K H A t v):jA K H' A t v:=h.imp (λq=>q.same s) λ⟨a,e,q⟩=>⟨a,e,q.same s⟩
theorem jA.lst{ts:List T}(h:jA K H A (.lst ts) v):∃a vs,v=.ref a/\fN K H a vs/\aB K H A ts vs:=by
 obtain h|⟨a,rfl,vs,e,q⟩:=h
 simp only[At] at h;obtain⟨a,vs,rfl,l,q⟩:=h;exact⟨a,vs,rfl,l.sq,q⟩;exact⟨a,vs,rfl,fN.of e,q⟩
theorem jA.tup{ts:List T}(h:jA K H A (.tup ts) v):∃a vs,v=.ref a/\eF K H a vs/\aB K H A ts vs:=by
 obtain h|⟨a,rfl,q⟩:=h
 simpa only[At] using h;exact q.elim
theorem jA.dk{ks:List Key}{ts:List T}(h:jA K H A (.dk ks ts) v):∃a vs,v=.ref a/\ks.length=vs.length/\H a=some (.dK (ks.zip vs))/\aB K H A ts vs:=by
 obtain h|⟨a,rfl,vs,l,e,q⟩:=h
 simp only[At] at h;obtain⟨a,vs,rfl,l,d,q⟩:=h;exact⟨a,vs,rfl,l,d.1,q⟩;exact⟨a,vs,rfl,l,e,q⟩
theorem jA.dc{nh:List Key×Key->Int}{ks:List (List Key×Key)}{ts:List T}(h:jA K H A (.dc nh ks ts) v):∃a xs vs,v=.ref a/\H a=some (.ext (SK nh a xs))/\ks=xs.map (·.1)/\(a==sysModules)=false/\(∀x∈xs,SM K H x.1 x.2.1)/\Vals vs (xs.map (·.2.2))/\aB K H A ts vs:=by
 obtain h|⟨a,rfl,q⟩:=h
 simp only[At] at h;obtain⟨a,xs,vs,rfl,d,q⟩:=h;exact⟨a,xs,vs,rfl,d.1,q⟩;exact q.elim
theorem jA.ins{ns:qai}{ts:List T}(h:jA K H A (.ins C ns ts) v):∃a dx vs,v=.ref a/\ns.length=vs.length/\H a=some (.ins C dx (ns.zip vs))/\aB K H A ts vs:=by
 obtain h|⟨a,rfl,dx,vs,l,e,q⟩:=h
 simp only[At] at h;obtain⟨a,dx,vs,rfl,l,d,q⟩:=h;exact⟨a,dx,vs,rfl,l,d.1,q⟩;exact⟨a,dx,vs,rfl,l,e,q⟩
theorem jA.int{i:Int}(h:jA K H A (.int i) v):v=.int i:=h.elim (λq=>by simpa only[At] using q) λ⟨_,_,q⟩=>q.elim
theorem jA.str{i:Str}(h:jA K H A (.str i) v):v=.str i:=h.elim (λq=>by simpa only[At] using q) λ⟨_,_,q⟩=>q.elim
theorem jA.bl{i:Bool}(h:jA K H A (.bl i) v):v=.bl i:=h.elim (λq=>by simpa only[At] using q) λ⟨_,_,q⟩=>q.elim
theorem jA.bR(h:jA K H A .bR v):v=.bR:=h.elim (λq=>by simpa only[At] using q) λ⟨_,_,q⟩=>q.elim
theorem jA.ob(h:jA K H A (.ob a) v):v=.ref a:=h.elim (λq=>by simpa only[At] using q) λ⟨_,_,q⟩=>q.elim
theorem bC{i:Int}:At K H A (.int i) (.int i):=by simp only[At]
theorem bJ{i:Str}:At K H A (.str i) (.str i):=by simp only[At]
theorem c9{i:Bool}:At K H A (.bl i) (.bl i):=by simp only[At]
theorem mJ:At K H A .bR .bR:=by simp only[At]
theorem bK{ts:List T}(h:eF K H a vs)(q:aB K H A ts vs):At K H A (.tup ts) (.ref a):=by simp only[At];exact⟨a,vs,rfl,h,q⟩
theorem i4.env{r:Rt}(h:i4 K Z tm O ρ σ H r v):aw K Z tm O ρ σ H:=by
 cases r with
 |vw t=>exact h.1
 |fr t=>obtain⟨a,_,I,_⟩:=h;exact I.Xb
theorem i4.at{r:Rt}(h:i4 K Z tm O ρ σ H r v):At K H (av Z O) r.t v:=by
 cases r with
 |vw t=>exact h.2
 |fr t=>
  obtain⟨a,rfl,I,q,_,hx⟩:=h;refine (q.bB gO).at λz=>?_;rcases gF.mp z with z|z
  exact (I.own a z).2.1 eE;exact hx z
theorem aw.ze(I:aw K Z tm O ρ σ H){ts:List T}(h:H a=none)(q:aB K H (av Z O) ts vs):i4 K Z tm O ρ σ (upd H a (.lst vs)) (.fr (.lst ts)) (.ref a):=by obtain⟨n1,n2,n3⟩:=I.fresh h;exact⟨a,rfl,I.new h rfl,⟨vs,aY,(q.more λb hb=>(dF b hb).imp id λe=>by rw[e];exact h).same (aQ h)⟩,n3,n2⟩
theorem aw.newD(I:aw K Z tm O ρ σ H){ks:List Key}{ts:List T}(h:H a=none)(hl:ks.length=vs.length)(q:aB K H (av Z O) ts vs):i4 K Z tm O ρ σ (upd H a (.dK (ks.zip vs))) (.fr (.dk ks ts)) (.ref a):=by obtain⟨n1,n2,n3⟩:=I.fresh h;exact⟨a,rfl,I.new h rfl,⟨vs,hl,aY,(q.more λb hb=>(dF b hb).imp id λe=>by rw[e];exact h).same (aQ h)⟩,n3,n2⟩
end
structure Bx(p:List (T×V)->Prop):Prop where
 h:∀tm,p tm
section
variable(X:Cx)(Z:Zc)
noncomputable def lR(tm:List (T×V))(f:FE):TE:=λσ H Q=>∃ρ O q,aw X.K Z tm O ρ σ H/\f ρ q/\∀t,q t->∀v H',aL H H'->jA X.K H' (av Z O) t v->Q v H'
noncomputable def lE(tm:List (T×V))(f:FE):TE:=λσ H Q=>∃ρ O q,aw X.K Z tm O ρ σ H/\f ρ q/\∀t,q t->∀v H',aL H H'->At X.K H' (av Z O) t v->Q v H'
def lP(tm:List (T×V))(f:FP):TE:=λσ H Q=>∃ρ O q,aw X.K Z tm O ρ σ H/\f ρ q/\∀r,q r->∀v H',aL H H'->i4 X.K Z tm O ρ σ H' r v->Q v H'
def lX(tm:List (T×V))(f:FX):TE:=λσ H Q=>∃ρ O q,aw X.K Z tm O ρ σ H/\f ρ q/\∀ρ' r,q ρ' r->∀O' v H',i4 X.K Z tm O' ρ' σ H' r v->Q v H'
def lB(tm:List (T×V))(f:FB):TT:=λσ H Q=>∃ρ O q,aw X.K Z tm O ρ σ H/\f ρ q/\∀b,q b->∀H',aL H H'->Q b H'
noncomputable def lA(tm:List (T×V))(f:FA):TA:=λσ H Q=>∃ρ O q,aw X.K Z tm O ρ σ H/\f ρ q/\∀ts,q ts->∀vs H',aL H H'->aB X.K H' (av Z O) ts vs->Q vs H'
noncomputable def Zt(tm:List (T×V))(f:FA):TA:=λσ H Q=>∃ρ O q,aw X.K Z tm O ρ σ H/\f ρ q/\∀ts,q ts->∀vs H',aL H H'->Paired (λv t=>jA X.K H' (av Z O) t v) vs ts->Q vs H'
def VR(e:Expr)(f:FE):Prop:=Bx λtm=>PE X e (lR X Z tm f)
instance{e:Expr}{f:FE}:CoeFun (VR X Z e f) λ_=>∀tm,PE X e (lR X Z tm f):=⟨λh=>Bx.h h⟩
def VE(e:Expr)(f:FE):Prop:=Bx λtm=>PE X e (lE X Z tm f)
instance{e:Expr}{f:FE}:CoeFun (VE X Z e f) λ_=>∀tm,PE X e (lE X Z tm f):=⟨λh=>Bx.h h⟩
def VP(e:Expr)(f:FP):Prop:=Bx λtm=>PE X e (lP X Z tm f)
instance{e:Expr}{f:FP}:CoeFun (VP X Z e f) λ_=>∀tm,PE X e (lP X Z tm f):=⟨λh=>Bx.h h⟩
def VX(e:Expr)(f:FX):Prop:=Bx λtm=>PE X e (lX X Z tm f)
instance{e:Expr}{f:FX}:CoeFun (VX X Z e f) λ_=>∀tm,PE X e (lX X Z tm f):=⟨λh=>Bx.h h⟩
def VC(e:Expr)(f:FB):Prop:=Bx λtm=>PT X e (lB X Z tm f)
instance{e:Expr}{f:FB}:CoeFun (VC X Z e f) λ_=>∀tm,PT X e (lB X Z tm f):=⟨λh=>Bx.h h⟩
def VW(e:Expr)(f:FB):Prop:=Bx λtm=>PW X e (lB X Z tm f)
instance{e:Expr}{f:FB}:CoeFun (VW X Z e f) λ_=>∀tm,PW X e (lB X Z tm f):=⟨λh=>Bx.h h⟩
def VA(es:qap)(f:FA):Prop:=Bx λtm=>PA X es (lA X Z tm f)
instance{es:qap}{f:FA}:CoeFun (VA X Z es f) λ_=>∀tm,PA X es (lA X Z tm f):=⟨λh=>Bx.h h⟩
def EU(es:qap)(f:FA):Prop:=Bx λtm=>PA X es (Zt X Z tm f)
instance{es:qap}{f:FA}:CoeFun (EU X Z es f) λ_=>∀tm,PA X es (Zt X Z tm f):=⟨λh=>Bx.h h⟩
end
theorem PE.weak{t t':TE}(h:PE X e t)(hw:∀σ H Q,t' σ H Q->t σ H Q):PE X e t':=λpins s σ H Q I q=>h pins s σ H Q I (hw _ _ _ q)
theorem PT.weak{t t':TT}(h:PT X e t)(hw:∀σ H Q,t' σ H Q->t σ H Q):PT X e t':=λpins s σ H Q I q=>h pins s σ H Q I (hw _ _ _ q)
theorem PW.weak{t t':TT}(h:PW X e t)(hw:∀σ H Q,t' σ H Q->t σ H Q):PW X e t':=λwh pins s σ H Q I q=>h wh pins s σ H Q I (hw _ _ _ q)
theorem PA.weak{e:qap}{t t':TA}(h:PA X e t)(hw:∀σ H Q,t' σ H Q->t σ H Q):PA X e t':=λpos pins s σ H Q I q=>h pos pins s σ H Q I (hw _ _ _ q)
theorem PS.weak{b:Stmt}{t t':TS}(h:PS X b t)(hw:∀D σ H,t' D σ H->t D σ H):PS X b t':=λpins s σ H D I q=>h pins s σ H D I (hw D σ H q)
theorem oU.Ba{b:qaq}{t t':TS}(h:oU X b t)(hw:∀D σ H,t' D σ H->t D σ H):oU X b t':=λpins s σ H D I q=>h pins s σ H D I (hw D σ H q)
section
variable{Z:Zc}{a:Expr}
theorem VE.vr{f:FE}(h:VE X Z e f):VR X Z e f:=.mk λtm=>PE.weak (h tm) λσ H Q ⟨ρ,O,q,I,hf,k⟩=>⟨ρ,O,q,I,hf,λt ht v H' s z=>k t ht v H' s (.inl z)⟩
def fT(f:FP):FE:=λρ Q=>f ρ λr=>Q r.t
def fV(f:FE):FP:=λρ Q=>f ρ λt=>Q (.vw t)
def fX(f:FP):FX:=λρ Q=>f ρ λr=>Q ρ r
theorem VP.ve{f:FP}(h:VP X Z e f):VE X Z e (fT f):=.mk λtm=>PE.weak (h tm) λσ H Q ⟨ρ,O,q,I,hf,k⟩=>⟨ρ,O,λr=>q r.t,I,hf,λr hr v H' s z=>k r.t hr v H' s z.at⟩
theorem VP.vr{f:FP}(h:VP X Z e f):VR X Z e (fT f):=h.ve.vr
theorem VP.vx{f:FP}(h:VP X Z e f):VX X Z e (fX f):=.mk λtm=>PE.weak (h tm) λσ H Q ⟨ρ,O,q,I,hf,k⟩=>⟨ρ,O,λr=>q ρ r,I,hf,λr hr v H' s z=>k ρ r hr O v H' z⟩
theorem VE.vp{f:FE}(h:VE X Z e f):VP X Z e (fV f):=.mk λtm=>PE.weak (h tm) λσ H Q ⟨ρ,O,q,I,hf,k⟩=>⟨ρ,O,λt=>q (.vw t),I,hf,λt hr v H' s z=>k (.vw t) hr v H' s ⟨I.same s,z⟩⟩
def SO(i:Nat):FE:=λρ Q=>match ρ[i]? with
 |some (some (t,false))=>Q t
 |_=>False
def L1(i:Nat):FE:=λρ Q=>match ρ[i]? with
 |some (some (t,_))=>Q t
 |_=>False
theorem ao(i:Nat)(hN:X.N[i]?=some x:=by rfl)(hv:pk X.env.scope x:=by first|exact Or.inl rfl|exact Or.inr (Or.inl rfl)|exact Or.inr (Or.inr rfl))(hd:fW x:=by decide)(gM:sN x:=by decide):VE X Z (.Name x pos) (SO i):=.mk λtm=>PE.weak (dQ hN hv hd gM) λσ H Q ⟨ρ,O,q,I,hf,k⟩=>by
 unfold SO at hf;split at hf
 rename_i t e
 obtain⟨o,s,h1,h2,rfl,v,rfl,h3⟩:=I.sl i _ e;exact⟨v,h2,k t hf v H (aL.refl H) h3⟩;exact hf.elim
theorem ae(i:Nat)(hN:X.N[i]?=some x:=by rfl)(hv:pk X.env.scope x:=by first|exact Or.inl rfl|exact Or.inr (Or.inl rfl)|exact Or.inr (Or.inr rfl))(hd:fW x:=by decide)(gM:sN x:=by decide):VR X Z (.Name x pos) (L1 i):=.mk λtm=>PE.weak (dQ hN hv hd gM) λσ H Q ⟨ρ,O,q,I,hf,k⟩=>by
 unfold L1 at hf;split at hf
 rename_i t b e
 obtain⟨o,s,h1,h2,h3⟩:=I.sl i _ e;cases b with
 |false=>obtain⟨rfl,v,rfl,h3⟩:=h3;exact⟨v,h2,k t hf v H (aL.refl H) (.inl h3)⟩
 |true=>obtain⟨a,rfl,rfl,h3⟩:=h3;exact⟨_,h2,k t hf _ H (aL.refl H) (.inr ⟨a,rfl,h3⟩)⟩
 exact hf.elim
def fC(t:T):FP:=λ_ Q=>Q (.vw t)
theorem EW{t:T}(h:PE X e (tC v))(ht:∀H A,At X.K H A t v):VP X Z e (fC t):=.mk λtm=>PE.weak h λσ H Q ⟨ρ,O,q,I,hf,k⟩=>k _ hf v H (aL.refl H) ⟨I,ht _ _⟩
theorem ag{i j pos}:VP X Z (.Constant (.int i) j pos) (fC (.int i)):=EW Nq λ_ _=>bC
theorem fL{i j pos}:VP X Z (.Constant (.bool i) j pos) (fC (.bl i)):=EW RP λ_ _=>c9
theorem ah{i j pos}:VP X Z (.Constant (.str i) j pos) (fC (.str i)):=EW Nt λ_ _=>bJ
theorem i5{j pos}:VP X Z (.Constant .none j pos) (fC .bR):=EW Nr λ_ _=>mJ
theorem fg{t:T}(hg:Gl X x)(hm:X.mg x=some u)(r:RelV v u)(ht:∀H A,At X.K H A t v)(hd:fW x:=by decide):VP X Z (.Name x pos) (fC t):=EW (oV hg hm r hd) ht
def pL(K:qaf)(r:R2)(p:T->T->(Rt->Prop)->Prop):Prop :=
 ∀(Z:Zc)(tm:List (T×V))(O:HD)(ρ:En)(σ:St)(H:Hp)(x y:T)(v w:V)(q:Rt->Prop)(Q:VK),aw K Z tm O ρ σ H->jA K H (av Z O) x v->jA K H (av Z O) y w->p x y q ->
  (∀t,q t->∀u H',aL H H'->i4 K Z tm O ρ σ H' t u->Q u H')->r v w H Q
def f2(fa fb:FE)(p:T->T->(Rt->Prop)->Prop):FP:=λρ Q=>fa ρ λx=>fb ρ λy=>p x y Q
theorem two{r:R2}{fa fb:FE}{p:T->T->(Rt->Prop)->Prop}(ho:pL X.K r p){tm:List (T×V)}:∀σ H Q,lP X Z tm (f2 fa fb p) σ H Q->R6 r (lR X Z tm fa) (lR X Z tm fb) σ H Q:=λσ H Q ⟨ρ,O,q,I,hf,k⟩ =>
 ⟨ρ,O,λx=>fb ρ λy=>p x y q,I,hf,λx hx v H1 s1 a1=>⟨ρ,O,λy=>p x y q,I.same s1,hx,λy hy w H2 s2 a2=>
  ho Z tm O ρ σ H2 x y v w q Q ((I.same s1).same s2) (a1.same s2) a2 hy λt ht u H' s a=>k t ht u H' ((s1.trans s2).trans s) a⟩⟩
theorem j'{op:Operator}{r:R2}{fa fb:FE}{p:T->T->(Rt->Prop)->Prop}(h:fD X (binaryOp op) r)(ho:pL X.K r p)(ha:VR X Z a fa)(hb:VR X Z b fb):VP X Z (.BinOp a op b pos) (f2 fa fb p) :=
 .mk λtm=>PE.weak (LU h (ha tm) (hb tm)) (two ho)
theorem uM{op:CmpOp}{r:R2}{fa fb:FE}{p:T->T->(Rt->Prop)->Prop}(h:fD X (compareOp op) r)(ho:pL X.K r p)(ha:VR X Z a fa)(hb:VR X Z b fb)(hm:behindInMarks op b=false):VP X Z (.Compare a [op] [b] pos) (f2 fa fb p) :=
 .mk λtm=>PE.weak (IJ h (ha tm) (hb tm) hm) (two ho)
def rT(f:FP):FB:=λρ Q=>f ρ λr=>match r with
 |.vw (.bl c)=>Q c
 |_=>False
theorem zf{r:Rt}{Q:Bool->Prop}(h:match r with | .vw (.bl c)=>Q c|_=>False):∃c,r=.vw (.bl c)/\Q c:=by split at h;exact⟨_,rfl,h⟩;exact h.elim
theorem ka{op:CmpOp}{r:R2}{fa fb:FE}{p:T->T->(Rt->Prop)->Prop}(h:fD X (compareOp op) r)(ho:pL X.K r p)(ha:VR X Z a fa)(hb:VR X Z b fb)(hm:behindInMarks op b=false):VC X Z (.Compare a [op] [b] pos) (rT (f2 fa fb p)) :=
 .mk λtm=>PT.weak (IK h (ha tm) (hb tm) hm) λσ H Q ⟨ρ,O,q,I,hf,k⟩=>two ho σ H _ ⟨ρ,O,_,I,hf,λt ht u H' s a=>by obtain⟨c,rfl,hc⟩:=zf ht;have e:=a.2;simp only[At] at e;exact⟨c,e,k c hc H' s⟩⟩
theorem cp{f:FP}(h:VP X Z e f)(he:∀whole,isTrue e X.env whole=(do let v <- whole;standAt e.pos;holding [v] (truthy v)):=by intro _;rfl):VC X Z e (rT f) :=
 .mk λtm=>PT.weak (Nu (h tm) he) λσ H Q ⟨ρ,O,q,I,hf,k⟩=>⟨ρ,O,_,I,hf,λt ht u H' s a=>by obtain⟨c,rfl,hc⟩:=zf ht;have e:=a.2;simp only[At] at e;exact⟨c,e,k c hc H' s⟩⟩
def Xc(f g:FB):FB:=λρ Q=>f ρ λc=>if c=true then g ρ Q else Q false
def fOr(f g:FB):FB:=λρ Q=>f ρ λc=>if c=true then Q true else g ρ Q
def Xd(f:FB):FB:=λρ Q=>f ρ λc=>Q (!c)
theorem VW.vc{f:FB}(h:VW X Z e f):VC X Z e f:=.mk λtm=>PW.pt (h tm)
theorem dq{f:FB}(h:VC X Z a f):VW X Z (.BoolOp .And [a] pos) f:=.mk λtm=>pw_and1 (h tm)
theorem ir{f:FB}(h:VC X Z a f):VW X Z (.BoolOp .Or [a] pos) f:=.mk λtm=>pw_or1 (h tm)
theorem eO{rest:qap}{f g:FB}(h:VC X Z a f)(h':VW X Z (.BoolOp .And (b::rest) pos) g):VW X Z (.BoolOp .And (a::b::rest) pos) (Xc f g) :=
 .mk λtm=>PW.weak (pw_and (h tm) (h' tm)) λσ H Q ⟨ρ,O,q,I,hf,k⟩=>⟨ρ,O,_,I,hf,λc hc H1 s1=>by
  cases c with
  |true=>rw[if_pos rfl] at hc ⊢;exact⟨ρ,O,q,I.same s1,hc,λb hb H' s=>k b hb H' (s1.trans s)⟩
  |false=>rw[if_neg iV] at hc ⊢;exact k false hc H1 s1⟩
theorem gw{rest:qap}{f g:FB}(h:VC X Z a f)(h':VW X Z (.BoolOp .Or (b::rest) pos) g):VW X Z (.BoolOp .Or (a::b::rest) pos) (fOr f g) :=
 .mk λtm=>PW.weak (pw_or (h tm) (h' tm)) λσ H Q ⟨ρ,O,q,I,hf,k⟩=>⟨ρ,O,_,I,hf,λc hc H1 s1=>by
  cases c with
  |true=>rw[if_pos rfl] at hc ⊢;exact k true hc H1 s1
  |false=>rw[if_neg iV] at hc ⊢;exact⟨ρ,O,q,I.same s1,hc,λb hb H' s=>k b hb H' (s1.trans s)⟩⟩
theorem dA{f:FB}(h:VC X Z a f):VC X Z (.UnaryOp .Not a pos) (Xd f) :=
 .mk λtm=>PT.weak (Nv (h tm)) λσ H Q ⟨ρ,O,q,I,hf,k⟩=>⟨ρ,O,_,I,hf,λc hc H1 s1=>k _ hc H1 s1⟩
def SQ(f g:FP):FP:=λρ Q=>f ρ λr=>match r with
 |.vw (.bl true)=>g ρ Q
 |.vw (.bl false)=>Q (.vw (.bl false))
 |_=>False
def Xe(f g:FP):FP:=λρ Q=>f ρ λr=>match r with
 |.vw (.bl true)=>Q (.vw (.bl true))
 |.vw (.bl false)=>g ρ Q
 |_=>False
def SR(f:FP):FP:=λρ Q=>f ρ λr=>match r with
 |.vw (.bl c)=>Q (.vw (.bl (!c)))
 |_=>False
theorem pM{op}{f:FP}(h:VP X Z a f):VP X Z (.BoolOp op [a] pos) f:=.mk λtm=>Nw (h tm)
theorem uN{rest:qap}{f g:FP}(h:VP X Z a f)(h':VP X Z (.BoolOp .And (b::rest) pos) g):VP X Z (.BoolOp .And (a::b::rest) pos) (SQ f g) :=
 .mk λtm=>PE.weak (Nx (h tm) (h' tm)) λσ H Q ⟨ρ,O,q,I,hf,k⟩=>⟨ρ,O,_,I,hf,λr hr v H1 s1 z=>by split at hr;have e:=z.2;simp only[At] at e;exact⟨true,e,by rw[if_pos rfl];exact⟨ρ,O,q,I.same s1,hr,λb hb v H' s=>k b hb v H' (s1.trans s)⟩⟩;have e:=z.2;simp only[At] at e;exact⟨false,e,by rw[if_neg iV];exact k _ hr _ H1 s1 ⟨I.same s1,c9⟩⟩;exact hr.elim⟩
theorem EY{rest:qap}{f g:FP}(h:VP X Z a f)(h':VP X Z (.BoolOp .Or (b::rest) pos) g):VP X Z (.BoolOp .Or (a::b::rest) pos) (Xe f g) :=
 .mk λtm=>PE.weak (RW (h tm) (h' tm)) λσ H Q ⟨ρ,O,q,I,hf,k⟩=>⟨ρ,O,_,I,hf,λr hr v H1 s1 z=>by split at hr;have e:=z.2;simp only[At] at e;exact⟨true,e,by rw[if_pos rfl];exact k _ hr _ H1 s1 ⟨I.same s1,c9⟩⟩;have e:=z.2;simp only[At] at e;exact⟨false,e,by rw[if_neg iV];exact⟨ρ,O,q,I.same s1,hr,λb hb v H' s=>k b hb v H' (s1.trans s)⟩⟩;exact hr.elim⟩
theorem EZ{f:FP}(h:VP X Z a f):VP X Z (.UnaryOp .Not a pos) (SR f) :=
 .mk λtm=>PE.weak (Ny (h tm)) λσ H Q ⟨ρ,O,q,I,hf,k⟩=>⟨ρ,O,_,I,hf,λr hr v H1 s1 z=>by split at hr;have e:=z.2;simp only[At] at e;exact⟨_,e,k _ hr _ H1 s1 ⟨I.same s1,c9⟩⟩;exact hr.elim⟩
def fIf(c:FB)(f g:FP):FP:=λρ Q=>c ρ λb=>if b=true then f ρ Q else g ρ Q
theorem E2{c:Expr}{fc:FB}{f g:FP}(hc:VC X Z c fc)(h:VP X Z a f)(h':VP X Z b g):VP X Z (.IfExp c a b pos) (fIf fc f g) :=
 .mk λtm=>PE.weak (Ei (hc tm) (h tm) (h' tm)) λσ H Q ⟨ρ,O,q,I,hf,k⟩=>⟨ρ,O,_,I,hf,λc hc H1 s1=>by
  cases c with
  |true=>rw[if_pos rfl] at hc ⊢;exact⟨ρ,O,q,I.same s1,hc,λb hb v H' s=>k b hb v H' (s1.trans s)⟩
  |false=>rw[if_neg iV] at hc ⊢;exact⟨ρ,O,q,I.same s1,hc,λb hb v H' s=>k b hb v H' (s1.trans s)⟩⟩
def E3:FA:=λ_ Q=>Q []
def wK(f:FE)(g:FA):FA:=λρ Q=>f ρ λt=>g ρ λts=>Q (t::ts)
theorem aj:VA X Z [] E3:=.mk λtm=>PA.weak cF λσ H Q ⟨ρ,O,q,I,hf,k⟩=>k _ hf [] H (aL.refl H) aB.nil
theorem aa{f:FE}{g:FA}(h:VE X Z e f)(h':VA X Z es g)(hs:starEach (e::es) X.env=(false,eval e X.env)::starEach es X.env:=by rfl):VA X Z (e::es) (wK f g) :=
 .mk λtm=>PA.weak (bj (h tm) (h' tm) hs) λσ H Q ⟨ρ,O,q,I,hf,k⟩=>⟨ρ,O,_,I,hf,λt ht v H1 s1 a1=>⟨ρ,O,_,I.same s1,ht,λts h_ vs H2 s2 a2=>k _ h_ _ H2 (s1.trans s2) (aB.cons (a1.same s2) a2)⟩⟩
theorem au:EU X Z [] E3:=.mk λtm=>PA.weak cF λσ H Q ⟨ρ,O,q,I,hf,k⟩=>k _ hf [] H (aL.refl H) .nil
theorem aq{f:FE}{g:FA}(h:VR X Z e f)(h':EU X Z es g)(hs:starEach (e::es) X.env=(false,eval e X.env)::starEach es X.env:=by rfl):EU X Z (e::es) (wK f g) :=
 .mk λtm=>PA.weak (bj (h tm) (h' tm) hs) λσ H Q ⟨ρ,O,q,I,hf,k⟩=>⟨ρ,O,_,I,hf,λt ht v H1 s1 a1=>⟨ρ,O,_,I.same s1,ht,λts h_ vs H2 s2 a2=>k _ h_ _ H2 (s1.trans s2) (.cons (a1.same s2) a2)⟩⟩
def Xf(g:FA):FP:=λρ Q=>g ρ λts=>ts.length<=sizeLine/\Q (.vw (.tup ts))
def Xg(g:FA):FP:=λρ Q=>g ρ λts=>ts.length<=sizeLine/\Q (.fr (.lst ts))
theorem bc{g:FA}{x1}(h:VA X Z es g):VP X Z (.Tuple es x1 pos) (Xf g) :=
 .mk λtm=>PE.weak (NT (h tm)) λσ H Q ⟨ρ,O,q,I,hf,k⟩=>⟨ρ,O,_,I,hf,λts h_ vs H1 s1 a1=>⟨by rw[a1.length];exact h_.1,λp hp=>k _ h_.2 _ _ (s1.trans (aQ hp)) ⟨(I.same s1).same (aQ hp),bK (eF.of aY) (a1.same (aQ hp))⟩⟩⟩
theorem bx{g:FA}(h:VA X Z es g):VP X Z (.List es pos) (Xg g) :=
 .mk λtm=>PE.weak (NU (h tm)) λσ H Q ⟨ρ,O,q,I,hf,k⟩=>⟨ρ,O,_,I,hf,λts h_ vs H1 s1 a1=>⟨by rw[a1.length];exact h_.1,λp hp=>k _ h_.2 _ _ (s1.trans (aQ hp)) ((I.same s1).ze hp a1)⟩⟩
end
mutual
noncomputable def eqT:T->T->Bool
 |.bR,.bR=>true
 |.bl a,.bl b=>a==b
 |.bl a,.int b=>(if a then 1 else 0)==b
 |.int a,.bl b=>a==(if b then 1 else 0)
 |.int a,.int b=>a==b
 |.str a,.str b=>a==b
 |.tup a,.tup b=>fZ a b
 |.lst a,.lst b=>fZ a b
 |_,_=>false
noncomputable def fZ:List T->List T->Bool
 |[],[]=>true
 |a::as,b::bs=>eqT a b && fZ as bs
 |_,_=>false
end
mutual
noncomputable def plainT:T->Bool
 |.tup l=>cw l
 |.lst l=>cw l
 |.dk _ _=>false
 |.dc _ _ _=>false
 |.ins _ _ _=>false
 |.pin _ _=>false
 |.ob _=>false
 |.ty _=>false
 |_=>true
noncomputable def cw:List T->Bool
 |[]=>true
 |t::ts=>plainT t && cw ts
end
mutual
noncomputable def dep:T->Nat
 |.tup l=>pN l+1
 |.lst l=>pN l+1
 |_=>0
noncomputable def pN:List T->Nat
 |[]=>0
 |t::ts=>max (dep t) (pN ts)
end
mutual
theorem wL:∀(t:T),plainT t=true->eqT t t=true
 |.bR,_=>by simp[eqT]
 |.bl _,_=>by simp[eqT]
 |.int _,_=>by simp[eqT]
 |.str _,_=>by simp[eqT]
 |.tup l,h=>by simp only[plainT] at h;simp only[eqT];exact mK l h
 |.lst l,h=>by simp only[plainT] at h;simp only[eqT];exact mK l h
 |.dk _ _,h=>by simp only[plainT] at h;cases h
 |.dc _ _ _,h=>by simp only[plainT] at h;cases h
 |.ins _ _ _,h=>by simp only[plainT] at h;cases h
 |.pin _ _,h=>by simp only[plainT] at h;cases h
 |.ob _,h=>by simp only[plainT] at h;cases h
 |.ty _,h=>by simp only[plainT] at h;cases h
theorem mK:∀(t:List T),cw t=true->fZ t t=true
 |[],_=>by simp[fZ]
 |t::ts,h=>by simp only[cw,eJ] at h;simp only[fZ,eJ];exact⟨wL t h.1,mK ts h.2⟩
end
theorem kX:∀{a b:List T},fZ a b=true->a.length=b.length
 |[],[],_=>rfl
 |a::as,b::bs,h=>by simp only[fZ,eJ] at h;simp[kX h.2]
 |[],_::_,h=>by simp[fZ] at h
 |_::_,[],h=>by simp[fZ] at h
theorem kY:∀{a b:List T},a.length=b.length->fZ a b=(List.range a.length).all λj=>match a[j]?,b[j]? with
  |some x,some y=>eqT x y
  |_,_=>true
 |[],[],_=>by simp[fZ]
 |a::as,b::bs,h=>by have ih:=kY (a:=as) (b:=bs) (by simpa using h);simp only[fZ];rw[ih,rF,Wd,wu,Q0];rfl
 |[],_::_,h=>by simp at h
 |_::_,[],h=>by simp at h
theorem wM:∀{a b:List T},fZ a b=((List.range (min a.length b.length)).all (λj=>match a[j]?,b[j]? with
  |some x,some y=>eqT x y
  |_,_=>true) && a.length==b.length)
 |a,b=>by
   by_cases h:a.length=b.length;rw[kY h,h,Nat.min_self];simp;have e:(a.length==b.length)=false:=by simpa using h
   rw[e,RI];cases q:fZ a b with
   |false=>rfl
   |true=>exact absurd (kX q) h
section
variable{s:Shared}{O O':qah}
theorem wN(I:Inv X pins σ H s){ys:qak}(h:fN X.K H a xs)(h':eF X.K H a ys):False:=by
 obtain⟨aK,_,p,_⟩:=I.list h;obtain⟨iT,_,p2,_⟩:=I.tuple h';obtain⟨o,n,e,c,_⟩:=p;obtain⟨o2,e2,c2,_⟩:=p2;rw[e] at e2;cases e2;rw[c] at c2;injection c2 with c2
 exact absurd c2 (by decide)
mutual
theorem At.inj(I:Inv X pins σ H s):∀{t u:T}{v:V},plainT t=true->plainT u=true->At X.K H O t v->At X.K H O' u v->t=u
 |.bR,u,v,_,pu,h,h'=>by simp only[At] at h;subst h;cases u<;>simp only[At] at h'<;>first|rfl|(simp only[plainT] at pu;cases pu;done)|(obtain⟨_,_,e,_⟩:=h';cases e)|(cases h';done)
 |.bl b,u,v,_,pu,h,h'=>by simp only[At] at h;subst h;cases u<;>simp only[At] at h'<;>first|(simp only[plainT] at pu;cases pu;done)|(obtain⟨_,_,e,_⟩:=h';cases e;done)|(cases h';rfl)|(cases h';done)
 |.int b,u,v,_,pu,h,h'=>by simp only[At] at h;subst h;cases u<;>simp only[At] at h'<;>first|(simp only[plainT] at pu;cases pu;done)|(obtain⟨_,_,e,_⟩:=h';cases e;done)|(cases h';rfl)|(cases h';done)
 |.str b,u,v,_,pu,h,h'=>by simp only[At] at h;subst h;cases u<;>simp only[At] at h'<;>first|(simp only[plainT] at pu;cases pu;done)|(obtain⟨_,_,e,_⟩:=h';cases e;done)|(cases h';rfl)|(cases h';done)
 |.dk _ _,_,_,p,_,_,_=>by simp only[plainT] at p;cases p
 |.dc _ _ _,_,_,p,_,_,_=>by simp only[plainT] at p;cases p
 |.ins _ _ _,_,_,p,_,_,_=>by simp only[plainT] at p;cases p
 |.pin _ _,_,_,p,_,_,_=>by simp only[plainT] at p;cases p
 |.ob _,_,_,p,_,_,_=>by simp only[plainT] at p;cases p
 |.ty _,_,_,p,_,_,_=>by simp only[plainT] at p;cases p
 |.tup ts,u,v,p,pu,h,h'=>by
  simp only[At] at h;obtain⟨a,vs,rfl,h1,h2⟩:=h;cases u with
  |tup us=>simp only[At] at h';obtain⟨b,ws,e,g1,g2⟩:=h';cases e;cases I.mz h1 g1;simp only[plainT] at p pu;rw[aB.inj I p pu h2 g2]
  |lst us=>simp only[At] at h';obtain⟨b,ws,e,g1,g2⟩:=h';cases e;exact (wN I g1.sq h1).elim
  |dk _ _=>simp only[plainT] at pu;cases pu
  |dc _ _ _=>simp only[plainT] at pu;cases pu
  |ins _ _ _=>simp only[plainT] at pu;cases pu
  |pin _ _=>simp only[plainT] at pu;cases pu
  |ob _=>simp only[plainT] at pu;cases pu
  |ty _=>simp only[plainT] at pu;cases pu
  |_=>simp only[At] at h';cases h'
 |.lst ts,u,v,p,pu,h,h'=>by
  simp only[At] at h;obtain⟨a,vs,rfl,h1,h2⟩:=h;cases u with
  |lst us=>simp only[At] at h';obtain⟨b,ws,e,g1,g2⟩:=h';cases e;cases I.kM h1.sq g1.sq;simp only[plainT] at p pu;rw[aB.inj I p pu h2 g2]
  |tup us=>simp only[At] at h';obtain⟨b,ws,e,g1,g2⟩:=h';cases e;exact (wN I h1.sq g1).elim
  |dk _ _=>simp only[plainT] at pu;cases pu
  |dc _ _ _=>simp only[plainT] at pu;cases pu
  |ins _ _ _=>simp only[plainT] at pu;cases pu
  |pin _ _=>simp only[plainT] at pu;cases pu
  |ob _=>simp only[plainT] at pu;cases pu
  |ty _=>simp only[plainT] at pu;cases pu
  |_=>simp only[At] at h';cases h'
theorem aB.inj(I:Inv X pins σ H s):∀{ts us:List T}{vs:qak},cw ts=true->cw us=true->aB X.K H O ts vs->aB X.K H O' us vs->ts=us
 |[],[],_,_,_,_,_=>rfl
 |[],_::_,_,_,_,h,h'=>by simp only[aB] at h h';subst h;obtain⟨_,_,e,_⟩:=h';cases e
 |_::_,[],_,_,_,h,h'=>by simp only[aB] at h h';subst h';obtain⟨_,_,e,_⟩:=h;cases e
 |t::ts,u::us,_,p,pu,h,h'=>by simp only[aB] at h h';simp only[cw,eJ] at p pu;obtain⟨v,r,rfl,h1,h2⟩:=h;obtain⟨v',r',e,g1,g2⟩:=h';cases e;rw[At.inj I p.1 pu.1 h1 g1,aB.inj I p.2 pu.2 h2 g2]
end
theorem kZ:∀{ts:List T}{j:Nat}{x:T},ts[j]?=some x->dep x<=pN ts
 |[],_,_,h=>by simp at h
 |t::ts,0,x,h=>by simp at h;subst h;simp only[pN];omega
 |t::ts,j+1,x,h=>by have:=kZ (ts:=ts) (j:=j) (x:=x) (by simpa using h);simp only[pN];omega
theorem cx:∀{ts:List T}{j:Nat}{x:T},cw ts=true->ts[j]?=some x->plainT x=true
 |[],_,_,_,h=>by simp at h
 |t::ts,0,x,p,h=>by simp at h;subst h;simp only[cw,eJ] at p;exact p.1
 |t::ts,j+1,x,p,h=>by simp only[cw,eJ] at p;exact cx (ts:=ts) (j:=j) p.2 (by simpa using h)
theorem in1_units(A:Around):A.in1.units=A.units+1:=by first|rfl|simp[Around.in1,Around.units]
theorem k6(I:Inv X pins σ H s){ts us:List T}{ws:qak}{aK iT:qag}(h1:aB X.K H O ts vs)(h2:aB X.K H O' us ws)(r1:Vals vs aK)(r2:Vals ws iT)(key:∀(j:Nat) x y v w u u',ts[j]?=some x->us[j]?=some y->At X.K H O x v->At X.K H O' y w->RelV v u->RelV w u'->SeqAt.EqAt A s u u' (eqT x y)) :
  ∀(j:Nat)(g1:j<aK.toArray.size)(g2:j<iT.toArray.size),SeqAt.EqAt A s aK.toArray[j] iT.toArray[j] (match ts[j]?,us[j]? with
   |some x,some y=>eqT x y
   |_,_=>true):=λj g1 g2=>by
 have l1:=h1.length;have l2:=h2.length;have m1:=r1.length;have m2:=r2.length;simp only[iR] at g1 g2;have e1:ts[j]?=some (ts[j]'(by omega)):=by simp
 have e2:us[j]?=some (us[j]'(by omega)):=by simp
 obtain⟨v,a1,a2⟩:=h1.get e1;obtain⟨w,b1,b2⟩:=h2.get e2;obtain⟨u,c1,c2⟩:=r1.get a1;obtain⟨u',d1,d2⟩:=r2.get b1;have f1:aK.toArray[j]=u:=by rw[kB (by omega)] at c1;simpa using c1
 have f2:iT.toArray[j]=u':=by rw[kB (by omega)] at d1;simpa using d1
 rw[f1,f2,e1,e2];exact key j _ _ v w u u' e1 e2 a2 b2 c2 d2
theorem pO{O:qah}(I:Inv X pins σ H s){u:T}{w:V}{b:Value}(pu:plainT u=true)(hw:At X.K H O u w)(r:RelV w b):(u=.bR/\b=.none)\/(∃c,u=.bl c/\b=.bool c)\/(∃c t,u=.int c/\b=.int c t)\/(∃c t,u=.str c/\b=.str c t)\/(∃l p xs,u=.tup l/\b=.ref p/\s.heap.IsTuple p xs)\/∃l p xs,u=.lst l/\b=.ref p/\s.heap.IsList p xs:=by
 cases u with
 |tup l=>simp only[At] at hw;obtain⟨p,ws,rfl,q,_⟩:=hw;cases r;obtain⟨_,_,p1,_⟩:=I.tuple q;exact .inr (.inr (.inr (.inr (.inl ⟨l,p,_,rfl,rfl,p1⟩))))
 |lst l=>simp only[At] at hw;obtain⟨p,ws,rfl,q,_⟩:=hw;cases r;obtain⟨_,_,p1,_⟩:=I.list q.sq;exact .inr (.inr (.inr (.inr (.inr ⟨l,p,_,rfl,rfl,p1.isList⟩))))
 |bR=>simp only[At] at hw;subst hw;cases r;exact .inl ⟨rfl,rfl⟩
 |bl c=>simp only[At] at hw;subst hw;cases r;exact .inr (.inl ⟨c,rfl,rfl⟩)
 |int c=>simp only[At] at hw;subst hw;obtain⟨t,rfl⟩:=r;exact .inr (.inr (.inl ⟨c,t,rfl,rfl⟩))
 |str c=>simp only[At] at hw;subst hw;obtain⟨t,rfl⟩:=r;exact .inr (.inr (.inr (.inl ⟨c,t,rfl,rfl⟩)))
 |_=>simp only[plainT] at pu;cases pu
theorem Bb(I:Inv X pins σ H s){t u:T}{w:V}{a b:Value}(gn:A.units<cLine)(key:∀(x y:T) (v w:V) (a b:Value),dep x+1<=dep t->plainT x=true->plainT y=true->At X.K H O x v->At X.K H O' y w->RelV v a->RelV w b->SeqAt.EqAt A.in1 s a b (eqT x y))(pt:plainT t=true)(pu:plainT u=true)(ht:At X.K H O t v)(hw:At X.K H O' u w)(rv:RelV v a)(rw':RelV w b):SeqAt.RcAt A s a b (eqT t u):=by
 rcases pO I pt ht rv with⟨rfl,rfl⟩|⟨d,rfl,rfl⟩|⟨d,_,rfl,rfl⟩|⟨d,_,rfl,rfl⟩|⟨l,p,_,rfl,rfl,h⟩|⟨l,p,_,rfl,rfl,h⟩<;>rcases pO I pu hw rw' with⟨rfl,rfl⟩|⟨c,rfl,rfl⟩|⟨c,_,rfl,rfl⟩|⟨c,_,rfl,rfl⟩|⟨l',p',_,rfl,rfl,h'⟩|⟨l',p',_,rfl,rfl,h'⟩<;>simp only[eqT]
 exact .none_none;exact .none_bool _;exact .none_int _ _;exact .none_str _ _;exact .none_tuple h' gn;exact .none_list h' gn;exact .bool_none _;exact .bool_bool _ _;exact .bool_int _ _ _;exact .bool_str _ _ _;exact .bool_tuple _ h' gn;exact .bool_list _ h' gn;exact .int_none _ _;exact .int_bool _ _ _;exact .int_int _ _ _ _;exact .int_str _ _ _ _;exact .int_tuple _ _ h' gn;exact .int_list _ _ h' gn;exact .str_none _ _;exact .str_bool _ _ _;exact .str_int _ _ _ _;exact .str_str _ _ _ _;exact .str_tuple _ _ h' gn;exact .str_list _ _ h' gn;exact .tuple_none h gn;exact .tuple_bool _ h gn;exact .tuple_int _ _ h gn;exact .tuple_str _ _ h gn;simp only[plainT] at pt pu;simp only[At] at ht hw;obtain⟨_,vs,rfl,h1,h2⟩:=ht;obtain⟨_,ws,rfl,g1,g2⟩:=hw;cases rv;cases rw';have e3:=h2.length;have e4:=g2.length;obtain⟨aK,r1,p1,_⟩:=I.tuple h1;obtain⟨iT,r2,p2,_⟩:=I.tuple g1;have e1:=r1.length;have e2:=r2.length;have:=SeqAt.RcAt.tuples (A:=A) p1 p2 gn (k6 I h2 g2 r1 r2 λj x y v w u u' e1 e2 a1 a2 b1 b2=>key x y v w u u' (mw (Nat.succ_le_succ (kZ e1)) (by simp only[dep];omega)) (cx pt e1) (cx pu e2) a1 a2 b1 b2);simp only[iR] at this;rw[<- e1,<- e2,e3,e4] at this;rw[wM];exact this;exact .tuple_list h h' gn;exact .list_none h gn;exact .list_bool _ h gn;exact .list_int _ _ h gn;exact .list_str _ _ h gn;exact .list_tuple h h' gn;simp only[plainT] at pt pu;simp only[At] at ht hw;obtain⟨_,vs,rfl,h1,h2⟩:=ht;obtain⟨_,ws,rfl,g1,g2⟩:=hw;cases rv;cases rw';have e3:=h2.length;have e4:=g2.length;obtain⟨aK,r1,p1,_⟩:=I.list h1.sq;obtain⟨iT,r2,p2,_⟩:=I.list g1.sq;have e1:=r1.length;have e2:=r2.length;by_cases hl:l.length=l'.length;have:=SeqAt.RcAt.lists (A:=A) p1.isList p2.isList (by simp only[iR];omega) gn (k6 I h2 g2 r1 r2 λj x y v w u u' e1 e2 a1 a2 b1 b2=>key x y v w u u' (mw (Nat.succ_le_succ (kZ e1)) (by simp only[dep];omega)) (cx pt e1) (cx pu e2) a1 a2 b1 b2);simp only[iR] at this;rw[<- e1,e3] at this;rw[kY hl];exact this;have:fZ l l'=false:=by
  cases q:fZ l l' with
  |false=>rfl
  |true=>exact absurd (kX q) hl
 rw[this];exact SeqAt.RcAt.lists_lengths p1.isList p2.isList (by simp only[iR];rw[bne_iff_ne];omega) gn
theorem E4{a b:Value}{k:Bool}(h:SeqAt.RcAt A s a b k)(g:a=b->k=true)(f:∀x t,a≠.float x t):SeqAt.EqAt A s a b k:=λprog w E Q hq=>by
 unfold eqBool;refine wpAny_holding (wpAny_ite_split (λe=>?_) λ_=>?_);rw[g (eq_of_beq e)] at hq;exact wpAny_bind (wpAny_rule (wpAny_pure hq));cases a with
 |float x t=>exact absurd rfl (f x t)
 |_=>exact wpAny_bind (h prog w E _ (wpAny_truthy_bool hq))
theorem zg(I:Inv X pins σ H s)(n:Nat):∀(t u:T)(v w:V)(a b:Value)(A:Around),dep t<=n->A.units+n<cLine->plainT t=true->plainT u=true->At X.K H O t v->At X.K H O' u w->RelV v a->RelV w b->SeqAt.EqAt A s a b (eqT t u):=by
 induction n using Nat.strongRecOn with
 |_ n ih=>intro t u v w a b A hd hu pt pu ht hw rv rw';refine E4 (Bb I (by omega) (λx y v w a b h=>?_) pt pu ht hw rv rw') (λe=>?_) λx t e=>?_;exact ih (n-1) (by omega) x y v w a b A.in1 (by omega) (by rw[in1_units];omega);subst e;cases rv.inj rw';cases At.inj I pt pu ht hw;exact wL _ pt;rcases pO I pt ht rv with⟨_,h⟩|⟨_,_,h⟩|⟨_,_,_,h⟩|⟨_,_,_,h⟩|⟨_,_,_,_,h,_⟩|⟨_,_,_,_,h,_⟩<;>cases e.symm.trans h
end
section
variable{s:Shared}{O O':qah}
theorem Of(I:Inv X pins σ H s)(t u:T)(v w:V)(a b:Value)(A:Around)(hd:dep t<=100)(hu:A.units+101<cLine)(pt:plainT t=true)(pu:plainT u=true)(ht:At X.K H O t v)(hw:At X.K H O' u w)(rv:RelV v a)(rw':RelV w b):SeqAt.RcAt A s a b (eqT t u) :=
 Bb I (by omega) (λx y v w a b h=>zg I 100 x y v w a b A.in1 (by omega) (by rw[in1_units];omega)) pt pu ht hw rv rw'
theorem Og(I:Inv X pins σ H s)(t u:T)(v w:V)(a b:Value)(A:Around)(hd:dep t<=100)(hu:A.units+101<cLine)(pt:plainT t=true)(pu:plainT u=true)(ht:At X.K H O t v)(hw:At X.K H O' u w)(rv:RelV v a)(rw':RelV w b):SeqAt.RcNeAt A s a b (!eqT t u):=by
 have gn:A.units<cLine:=by omega
 have Q7:A.in1.units+100<cLine:=by rw[in1_units];omega
 rcases pO I pt ht rv with⟨rfl,rfl⟩|⟨d,rfl,rfl⟩|⟨d,_,rfl,rfl⟩|⟨d,_,rfl,rfl⟩|⟨l,p,_,rfl,rfl,h⟩|⟨l,p,_,rfl,rfl,h⟩<;>rcases pO I pu hw rw' with⟨rfl,rfl⟩|⟨c,rfl,rfl⟩|⟨c,_,rfl,rfl⟩|⟨c,_,rfl,rfl⟩|⟨l',p',_,rfl,rfl,h'⟩|⟨l',p',_,rfl,rfl,h'⟩<;>simp only[eqT]
 exact .none_none;exact .none_bool _;exact .none_int _ _;exact .none_str _ _;exact .none_tuple h' gn;exact .none_list h' gn;exact .bool_none _;exact .bool_bool _ _;exact .bool_int _ _ _;exact .bool_str _ _ _;exact .bool_tuple _ h' gn;exact .bool_list _ h' gn;exact .int_none _ _;exact .int_bool _ _ _;exact .int_int _ _ _ _;exact .int_str _ _ _ _;exact .int_tuple _ _ h' gn;exact .int_list _ _ h' gn;exact .str_none _ _;exact .str_bool _ _ _;exact .str_int _ _ _ _;exact .str_str _ _ _ _;exact .str_tuple _ _ h' gn;exact .str_list _ _ h' gn;exact .tuple_none h gn;exact .tuple_bool _ h gn;exact .tuple_int _ _ h gn;exact .tuple_str _ _ h gn;simp only[plainT] at pt pu;simp only[dep] at hd;simp only[At] at ht hw;obtain⟨_,vs,rfl,h1,h2⟩:=ht;obtain⟨_,ws,rfl,g1,g2⟩:=hw;cases rv;cases rw';have e3:=h2.length;have e4:=g2.length;obtain⟨aK,r1,p1,_⟩:=I.tuple h1;obtain⟨iT,r2,p2,_⟩:=I.tuple g1;have e1:=r1.length;have e2:=r2.length;have:=SeqAt.RcNeAt.tuples (A:=A) p1 p2 gn (k6 I h2 g2 r1 r2 λj x y v w u u' e1 e2 a1 a2 b1 b2=>zg I 100 x y v w u u' A.in1 (mw (kZ e1) (by omega)) Q7 (cx pt e1) (cx pu e2) a1 a2 b1 b2);simp only[iR] at this;rw[<- e1,<- e2,e3,e4] at this;rw[wM];exact this;exact .tuple_list h h' gn;exact .list_none h gn;exact .list_bool _ h gn;exact .list_int _ _ h gn;exact .list_str _ _ h gn;exact .list_tuple h h' gn;simp only[plainT] at pt pu;simp only[dep] at hd;simp only[At] at ht hw;obtain⟨_,vs,rfl,h1,h2⟩:=ht;obtain⟨_,ws,rfl,g1,g2⟩:=hw;cases rv;cases rw';have e3:=h2.length;have e4:=g2.length;obtain⟨aK,r1,p1,_⟩:=I.list h1.sq;obtain⟨iT,r2,p2,_⟩:=I.list g1.sq;have e1:=r1.length;have e2:=r2.length;by_cases hl:l.length=l'.length;have:=SeqAt.RcNeAt.lists (A:=A) p1.isList p2.isList (by simp only[iR];omega) gn (k6 I h2 g2 r1 r2 λj x y v w u u' e1 e2 a1 a2 b1 b2=>zg I 100 x y v w u u' A.in1 (mw (kZ e1) (by omega)) Q7 (cx pt e1) (cx pu e2) a1 a2 b1 b2);simp only[iR] at this;rw[<- e1,e3] at this;rw[kY hl];exact this;have:fZ l l'=false:=by
  cases q:fZ l l' with
  |false=>rfl
  |true=>exact absurd (kX q) hl
 rw[this];exact SeqAt.RcNeAt.lists_lengths p1.isList p2.isList (by simp only[iR];rw[bne_iff_ne];omega) gn
theorem jA.bare{A:qah}{t:T}(h:jA K H A t v):At K H [] t v:=by
 obtain h|⟨a,rfl,h⟩:=h
 exact At.bB (O':=[]) (λ_ z=>absurd z cq) h;exact (cX.bB (A':=[]) h (λ_ z=>absurd z cq)).at cq
noncomputable def Jh(K:qaf)(neg:Bool):R2:=λx y H Q=>∃t u,At K H [] t x/\At K H [] u y/\plainT t=true/\plainT u=true/\dep t<=100/\Q (.bl (if neg then !eqT t u else eqT t u)) H
theorem E5(hu:X.A.units+101<cLine):fD X (compareOp .Eq) (Jh X.K false):=by intro pins s σ H x y v u Q I rx ry ⟨t,t',h1,h2,p1,p2,d,q⟩;exact Of I t t' x y v u X.A d hu p1 p2 h1 h2 rx ry X.prog X.w X.xe _ ⟨.bl _,H,I,rfl,q⟩
theorem E6(hu:X.A.units+101<cLine):fD X (compareOp .NotEq) (Jh X.K true):=by intro pins s σ H x y v u Q I rx ry ⟨t,t',h1,h2,p1,p2,d,q⟩;exact Og I t t' x y v u X.A d hu p1 p2 h1 h2 rx ry X.prog X.w X.xe _ ⟨.bl _,H,I,rfl,q⟩
end
def SS(x y:T)(q:Rt->Prop):Prop:=match x,y with
 |.int i,.int j=>q (.vw (.bl (decide (i=j))))
 |.str i,.str j=>q (.vw (.bl (decide (i=j))))
 |.bl i,.bl j=>q (.vw (.bl (decide (i=j))))
 |x,y=>plainT x=true/\plainT y=true/\dep x<=100/\q (.vw (.bl (eqT x y)))
def SU(x y:T)(q:Rt->Prop):Prop:=match x,y with
 |.int i,.int j=>q (.vw (.bl (!decide (i=j))))
 |.str i,.str j=>q (.vw (.bl (!decide (i=j))))
 |.bl i,.bl j=>q (.vw (.bl (!decide (i=j))))
 |x,y=>plainT x=true/\plainT y=true/\dep x<=100/\q (.vw (.bl (!eqT x y)))
theorem Ji{x y:T}{q:Rt->Prop}(h:SS x y q):plainT x=true/\plainT y=true/\dep x<=100/\q (.vw (.bl (eqT x y))):=by
 unfold SS at h;split at h;exact⟨rfl,rfl,nU _,by simp only[eqT,UW];exact h⟩;refine⟨rfl,rfl,nU _,?_⟩;have e:∀i j:Str,(i==j)=decide (i=j):=λi j=>by rw[Nf];simp
 simp only[eqT,e];exact h;exact⟨rfl,rfl,nU _,by simp only[eqT,UW];exact h⟩;exact h
theorem Jj{x y:T}{q:Rt->Prop}(h:SU x y q):plainT x=true/\plainT y=true/\dep x<=100/\q (.vw (.bl (!eqT x y))):=by
 unfold SU at h;split at h;exact⟨rfl,rfl,nU _,by simp only[eqT,UW];exact h⟩;refine⟨rfl,rfl,nU _,?_⟩;have e:∀i j:Str,(i==j)=decide (i=j):=λi j=>by rw[Nf];simp
 simp only[eqT,e];exact h;exact⟨rfl,rfl,nU _,by simp only[eqT,UW];exact h⟩;exact h
theorem E7:pL K (Jh K false) SS:=by intro Z tm O ρ σ H x y v w q Q I h1 h2 h k;obtain⟨p1,p2,d,h⟩:=Ji h;exact⟨x,y,h1.bare,h2.bare,p1,p2,d,k _ h _ H (aL.refl H) ⟨I,by rw[if_neg iV];exact c9⟩⟩
theorem E8:pL K (Jh K true) SU:=by intro Z tm O ρ σ H x y v w q Q I h1 h2 h k;obtain⟨p1,p2,d,h⟩:=Jj h;exact⟨x,y,h1.bare,h2.bare,p1,p2,d,k _ h _ H (aL.refl H) ⟨I,by rw[if_pos rfl];exact c9⟩⟩
def Oh(g:Int->Int->Bool)(x y:T)(q:Rt->Prop):Prop:=match x,y with
 |.int i,.int j=>q (.vw (.bl (g i j)))
 |_,_=>False
def Oi(x y:T)(q:Rt->Prop):Prop:=match x,y with
 |.int i,.int j=>q (.vw (.int (i-j)))
 |_,_=>False
theorem Jk:pL K (uD λi j=>.int (i-j)) Oi:=by intro Z tm O ρ σ H x y v w q Q I h1 h2 h k;unfold Oi at h;split at h;exact⟨_,_,h1.int,h2.int,k _ h _ H (aL.refl H) ⟨I,bC⟩⟩;exact h.elim
def Oj(x y:T)(q:Rt->Prop):Prop:=match x,y with
 |.int i,.int j=>Es i j/\q (.vw (.int (i * j)))
 |_,_=>False
theorem Jl:pL K (rI Es λi j=>.int (i * j)) Oj:=by intro Z tm O ρ σ H x y v w q Q I h1 h2 h k;unfold Oj at h;split at h;exact⟨_,_,h1.int,h2.int,h.1,k _ h.2 _ H (aL.refl H) ⟨I,bC⟩⟩;exact h.elim
def Ol(x y:T)(q:Rt->Prop):Prop:=match x,y with
 |.int i,.int j=>(0<j/\j<1073741824)/\q (.vw (.int (i / j)))
 |_,_=>False
theorem Jm:pL K (rI R8 λi j=>.int (i / j)) Ol:=by intro Z tm O ρ σ H x y v w q Q I h1 h2 h k;unfold Ol at h;split at h;exact⟨_,_,h1.int,h2.int,h.1,k _ h.2 _ H (aL.refl H) ⟨I,bC⟩⟩;exact h.elim
def Om(x y:T)(q:Rt->Prop):Prop:=match x,y with
 |.int i,.int j=>0<j/\q (.vw (.int (i % j)))
 |_,_=>False
theorem Jn:pL K (rI (λ_ j=>0<j) λi j=>.int (i % j)) Om:=by intro Z tm O ρ σ H x y v w q Q I h1 h2 h k;unfold Om at h;split at h;exact⟨_,_,h1.int,h2.int,h.1,k _ h.2 _ H (aL.refl H) ⟨I,bC⟩⟩;exact h.elim
def Oo(x y:T)(q:Rt->Prop):Prop:=match x,y with
 |.int i,.int j=>(0<=j/\j<=1000000/\i.natAbs<2 ^ 64)/\q (.vw (.int (i ^ j.toNat)))
 |_,_=>False
theorem Jo:pL K (rI R9 λi j=>.int (i ^ j.toNat)) Oo:=by intro Z tm O ρ σ H x y v w q Q I h1 h2 h k;unfold Oo at h;split at h;exact⟨_,_,h1.int,h2.int,h.1,k _ h.2 _ H (aL.refl H) ⟨I,bC⟩⟩;exact h.elim
def Xh(x y:T)(q:Rt->Prop):Prop:=match x,y with
 |.int i,.int j=>q (.vw (.bl (decide (i<j))))
 |_,_=>False
theorem Oq:pL K (uD λi j=>.bl (decide (i<j))) Xh:=by intro Z tm O ρ σ H x y v w q Q I h1 h2 h k;unfold Xh at h;split at h;exact⟨_,_,h1.int,h2.int,k _ h _ H (aL.refl H) ⟨I,c9⟩⟩;exact h.elim
def Xi(x y:T)(q:Rt->Prop):Prop:=match x,y with
 |.int i,.int j=>q (.vw (.bl (decide (j<i))))
 |_,_=>False
theorem Ot:pL K (uD λi j=>.bl (decide (j<i))) Xi:=by intro Z tm O ρ σ H x y v w q Q I h1 h2 h k;unfold Xi at h;split at h;exact⟨_,_,h1.int,h2.int,k _ h _ H (aL.refl H) ⟨I,c9⟩⟩;exact h.elim
def L3(x y:T)(q:Rt->Prop):Prop:=match x,y with
 |.int i,.int j=>q (.vw (.int (i+j)))
 |_,_=>False
theorem E9:pL K (uD λi j=>.int (i+j)) L3:=by intro Z tm O ρ σ H x y v w q Q I h1 h2 h k;unfold L3 at h;split at h;exact⟨_,_,h1.int,h2.int,k _ h _ H (aL.refl H) ⟨I,bC⟩⟩;exact h.elim
def L4(K:qaf):R2:=λx y H Q=>∃l b xs zs,x=.ref l/\y=.ref b/\fN K H l xs/\fN K H b zs/\xs.length+zs.length<=sizeLine/\∀p,H p=none->Q (.ref p) (upd H p (.lst (xs++zs)))
def L5(K:qaf):R2:=λx y H Q=>∃a b xs ys,x=.ref a/\y=.ref b/\eF K H a xs/\eF K H b ys/\xs.length+ys.length<=sizeLine/\(xs=[]->Q (.ref b) H)/\(xs≠[]->ys=[]->Q (.ref a) H)/\(xs≠[]->ys≠[]->∀p,H p=none->Q (.ref p) (upd H p (.tup (xs++ys))))
section
theorem Jp:fD X (binaryOp .Add) (L4 X.K):=by
 intro pins s σ H x y v u Q I rx ry h;obtain⟨l,b,xs,zs,rfl,rfl,hH,hB,hz,q⟩:=h;cases rx;cases ry;obtain⟨aK,r,p1,z1⟩:=I.list hH;obtain⟨iT,r2,p2,z2⟩:=I.list hB;obtain⟨⟨cls,dd,data,sl⟩,n,ho,hc,_,hd⟩:=p1;obtain⟨⟨Se,Q2,data2,A0⟩,n2,A1,D2,_,hd2⟩:=p2;simp only at hc hd D2 hd2;subst hc hd D2 hd2;have l1:=r.length;have l2:=r2.length;have e:aK.toArray++iT.toArray=(aK++iT).toArray:=by simp
 refine concat_meets ⟨_,ho,rfl⟩ ⟨_,A1,rfl⟩ noFill_list_add seq_list_add PySem.F.slot_list_add PySem.F.entry_list_add (PySem.F.args_list_add_2 _ _) (list_addW l b aK.toArray iT.toArray n n2 dd Q2 sl A0 (by simp only[iR];omega)) ⟨ho,A1,?_⟩;rw[e];exact⟨.ref _,_,I.Sq (t':=s.toks) (r.append r2) (by rw[j6];omega),rfl,q _ I.fresh⟩
theorem Jq:fD X (binaryOp .Add) (L5 X.K):=by
 intro pins s σ H x y v u Q I rx ry h;obtain⟨a,b,xs,ys,rfl,rfl,ha,hb,hz,q0,q1,q2⟩:=h;cases rx;cases ry;obtain⟨aK,r1,p1,_⟩:=I.tuple ha;obtain⟨iT,r2,p2,_⟩:=I.tuple hb;by_cases hx:xs=[];obtain⟨⟨cls,dd,data,sl⟩,ho,hc,n,hd⟩:=id p1;obtain⟨⟨Se,Q2,data2,A0⟩,A1,D2,n2,hd2⟩:=id p2;simp only at hc hd D2 hd2;subst hc hd D2 hd2;exact concat_meets ⟨_,ho,rfl⟩ ⟨_,A1,rfl⟩ noFill_tuple_add seq_tuple_add Wc V_ (V6 _ _)
  (tuple_addW0 a b aK.toArray iT.toArray n n2 dd Q2 sl A0 (by simp[r1.oX.mpr hx])) ⟨ho,A1,⟨.ref b,H,I,rfl,q0 hx⟩⟩
 refine HT.IQ p1 p2 (λz=>hx (r1.oX.mp z)) (λz=>⟨.ref a,H,I,rfl,q1 hx (r2.oX.mp z)⟩) (λz=>?_) (by rw[<- r1.length,<- r2.length];exact hz);refine⟨.ref s.heap.objs.size,_,I.laid (t':=s.toks) (o:=.tup (xs++ys)) (λb ob q=>eD _ q) (eB _) ?_,rfl,q2 hx (λw=>z (r2.oX.mpr w)) _ (I.bG.fresh (eB _))⟩;exact⟨by rw[j6];exact hz,_,r1.append r2,IsTup.new _ _⟩
end
def L6(K:qaf):R2:=λx y H Q=>uD (λi j=>.int (i+j)) x y H Q\/(λx y H Q=>∃i j,x=.str i/\y=.str j/\i.length+j.length<=sizeLine/\Q (.str (i++j)) H) x y H Q\/L4 K x y H Q\/L5 K x y H Q
theorem Jr:fD X (binaryOp .Add) (L6 X.K):=fD.or NK (fD.or yY (fD.or Jp Jq))
def Ou(x y:T)(q:Rt->Prop):Prop:=match x,y with
 |.int i,.int j=>q (.vw (.int (i+j)))
 |.str i,.str j=>i.length+j.length<=sizeLine/\q (.vw (.str (i++j)))
 |.lst a,.lst b=>a.length+b.length<=sizeLine/\q (.fr (.lst (a++b)))
 |.tup a,.tup b=>a.length+b.length<=sizeLine/\q (.vw (.tup (a++b)))
 |_,_=>False
theorem Js:pL K (L6 K) Ou:=by
 intro Z tm O ρ σ H x y v w q Q I h1 h2 h k;unfold Ou at h;split at h;exact .inl ⟨_,_,h1.int,h2.int,k _ h _ H (aL.refl H) ⟨I,bC⟩⟩;exact .inr (.inl ⟨_,_,h1.str,h2.str,h.1,k _ h.2 _ H (aL.refl H) ⟨I,bJ⟩⟩);obtain⟨a,vs,rfl,s1,a1⟩:=h1.lst;obtain⟨b,ws,rfl,s2,a2⟩:=h2.lst;exact .inr (.inr (.inl ⟨a,b,vs,ws,rfl,rfl,s1,s2,by rw[a1.length,a2.length];exact h.1,λp hp=>k _ h.2 _ _ (aQ hp) (I.ze hp (a1.append a2))⟩));obtain⟨a,vs,rfl,s1,a1⟩:=h1.tup;obtain⟨b,ws,rfl,s2,a2⟩:=h2.tup;refine .inr (.inr (.inr ⟨a,b,vs,ws,rfl,rfl,s1,s2,by rw[a1.length,a2.length];exact h.1,λe=>?_,λ_ e=>?_,λ_ _ p hp=>?_⟩));subst e;have e:=a1.length
 rename_i xs ys
 have e':xs=[]:=UQ.mp e.symm;subst e';exact k _ h.2 _ H (aL.refl H) ⟨I,bK s2 a2⟩;subst e;have e:=a2.length
 rename_i xs ys _
 have e':ys=[]:=UQ.mp e.symm;subst e';exact k _ h.2 _ H (aL.refl H) ⟨I,by rw[HV];exact bK s1 a1⟩;exact k _ h.2 _ _ (aQ hp) ⟨I.same (aQ hp),bK (eF.of aY) ((a1.append a2).same (aQ hp))⟩;exact h.elim
section
variable{Z:Zc}{a:Expr}{fa fb:FE}
theorem ar(ha:VR X Z a fa)(hb:VR X Z b fb):VP X Z (.BinOp a .Add b pos) (f2 fa fb Ou):=j' Jr Js ha hb
theorem mM(ha:VR X Z a fa)(hb:VR X Z b fb):VP X Z (.BinOp a .Sub b pos) (f2 fa fb Oi):=j' NL Jk ha hb
theorem gG(ha:VR X Z a fa)(hb:VR X Z b fb):VP X Z (.BinOp a .Mult b pos) (f2 fa fb Oj):=j' NM Jl ha hb
theorem a_(ha:VR X Z a fa)(hb:VR X Z b fb):VP X Z (.BinOp a .FloorDiv b pos) (f2 fa fb Ol):=j' IH Jm ha hb
theorem aU(ha:VR X Z a fa)(hb:VR X Z b fb):VP X Z (.BinOp a .Mod b pos) (f2 fa fb Om):=j' NN Jn ha hb
theorem kb(ha:VR X Z a fa)(hb:VR X Z b fb):VP X Z (.BinOp a .Pow b pos) (f2 fa fb Oo):=j' NO Jo ha hb
def Xj(f:FE):FP:=λρ Q=>f ρ λx=>match x with
 |.int i=>Q (.vw (.int (-i)))
 |_=>False
theorem kc(ha:VR X Z a fa):VP X Z (.UnaryOp .USub a pos) (Xj fa):=.mk λtm=>PE.weak (R7 NP (ha tm)) λσ H Q ⟨ρ,O,q,I,hf,k⟩=>⟨ρ,O,_,I,hf,λt ht v H1 s1 a1=>by split at ht;exact⟨_,a1.int,k _ ht _ H1 s1 ⟨I.same s1,bC⟩⟩;exact ht.elim⟩
theorem sZ(hu:X.A.units+101<cLine)(ha:VR X Z a fa)(hb:VR X Z b fb):VP X Z (.Compare a [.Eq] [b] pos) (f2 fa fb SS):=uM (E5 hu) E7 ha hb (j_ _)
theorem L7(hu:X.A.units+101<cLine)(ha:VR X Z a fa)(hb:VR X Z b fb):VP X Z (.Compare a [.NotEq] [b] pos) (f2 fa fb SU):=uM (E6 hu) E8 ha hb (j_ _)
theorem bF(hu:X.A.units+101<cLine)(ha:VR X Z a fa)(hb:VR X Z b fb):VC X Z (.Compare a [.Eq] [b] pos) (rT (f2 fa fb SS)):=ka (E5 hu) E7 ha hb (j_ _)
theorem jT(hu:X.A.units+101<cLine)(ha:VR X Z a fa)(hb:VR X Z b fb):VC X Z (.Compare a [.NotEq] [b] pos) (rT (f2 fa fb SU)):=ka (E6 hu) E8 ha hb (j_ _)
theorem i6(ha:VR X Z a fa)(hb:VR X Z b fb):VC X Z (.Compare a [.Lt] [b] pos) (rT (f2 fa fb Xh)):=ka LV Oq ha hb (j_ _)
theorem wO(ha:VR X Z a fa)(hb:VR X Z b fb):VC X Z (.Compare a [.Gt] [b] pos) (rT (f2 fa fb Xi)):=ka R_ Ot ha hb (j_ _)
def f3(fa fb fc:FE)(p p':T->T->(Rt->Prop)->Prop):FP:=λρ Q=>fa ρ λx=>fb ρ λy=>p x y λr=>match r with
 |.vw (.bl true)=>fc ρ λz=>p' y z Q
 |.vw (.bl false)=>Q (.vw (.bl false))
 |_=>False
end
theorem E_{A:qah}{ts:List T}{i:Int}{t:T}(h:aB K H A ts vs)(e:kF ts i=some t):∃v,kF vs i=some v/\At K H A t v:=by
 unfold kF at e ⊢;rw[h.length];cases q:wq ts.length i with
 |none=>rw[q] at e;cases e
 |some j=>rw[q] at e;obtain⟨v,h1,h2⟩:=h.get (i:=j) e;exact⟨v,h1,h2⟩
def Xk(x y:T)(q:Rt->Prop):Prop:=match x,y with
 |.lst ts,.int i=>∃t,kF ts i=some t/\q (.vw t)
 |.tup ts,.int i=>∃t,kF ts i=some t/\q (.vw t)
 |.str z,.int i=>z.length<=sizeLine/\∃c,kF z.cps.toList i=some c/\q (.vw (.str ⟨#[c]⟩))
 |_,_=>False
theorem Ov:pL K (Zn K) Xk:=by intro Z tm O ρ σ H x y v w q Q I h1 h2 h k;unfold Xk at h;split at h;obtain⟨t,e,h⟩:=h;obtain⟨a,vs,rfl,s1,a1⟩:=h1.lst;obtain⟨u,e',a2⟩:=E_ a1 e;exact .inl ⟨a,vs,_,u,rfl,h2.int,s1,e',k _ h _ H (aL.refl H) ⟨I,a2⟩⟩;obtain⟨t,e,h⟩:=h;obtain⟨a,vs,rfl,s1,a1⟩:=h1.tup;obtain⟨u,e',a2⟩:=E_ a1 e;exact .inr (.inl ⟨a,vs,_,u,rfl,h2.int,s1,e',k _ h _ H (aL.refl H) ⟨I,a2⟩⟩);obtain⟨hz,c,e,h⟩:=h;exact .inr (.inr ⟨_,_,c,h1.str,h2.int,hz,e,k _ h _ H (aL.refl H) ⟨I,bJ⟩⟩);exact h.elim
section
variable{Z:Zc}{a:Expr}{fa fb:FE}
theorem bo(ha:VR X Z a fa)(hb:VR X Z b fb)(hs:A5 b:=by exact λ_ _=>rfl):VP X Z (.Subscript a b pos) (f2 fa fb Xk) :=
 .mk λtm=>PE.weak (Si N2 (ha tm) (hb tm) hs) (two Ov)
end
abbrev FO:=En->(Option Int->Prop)->Prop
def lO(X:Cx)(Z:Zc)(tm:List (T×V))(f:FO):TO:=λσ H Q=>∃ρ O q,aw X.K Z tm O ρ σ H/\f ρ q/\∀o,q o->∀H',aL H H'->Q o H'
def VO(X:Cx)(Z:Zc)(e:Option Expr)(f:FO):Prop:=Bx λtm=>PO X e (lO X Z tm f)
instance{X:Cx}{Z:Zc}{e:Option Expr}{f:FO}:CoeFun (VO X Z e f) λ_=>∀tm,PO X e (lO X Z tm f):=⟨λh=>Bx.h h⟩
theorem PO.weak{e:Option Expr}{t t':TO}(h:PO X e t)(hw:∀σ H Q,t' σ H Q->t σ H Q):PO X e t':=λpins s σ H Q I q=>h pins s σ H Q I (hw _ _ _ q)
def fO0:FO:=λ_ Q=>Q none
def fO1(f:FE):FO:=λρ Q=>f ρ λt=>match t with
 |.int i=>Q (some i)
 |_=>False
noncomputable def gQ{α:Type}(xs:List α)(lo hi:Option Int):List α:=(xs.drop (HT.dD xs.length 0 lo)).take (HT.dD xs.length xs.length hi-HT.dD xs.length 0 lo)
theorem aB.cut{A:qah}{ts:List T}(h:aB K H A ts vs)(lo hi:Option Int):aB K H A (gQ ts lo hi) (wB vs lo hi):=by unfold gQ wB;rw[h.length];exact (h.drop _).take _
def Xl(K:qaf):V->Option Int->Option Int->Hp->VK->Prop:=λx lo hi H Q=>Sn K x lo hi H Q\/Sh K x lo hi H Q\/SI x lo hi H Q
theorem Xm:ED X (Xl X.K):=ED.or IX (ED.or NZ Od)
def Zu(x:T)(lo hi:Option Int)(q:Rt->Prop):Prop:=match x with
 |.lst ts=>q (.fr (.lst (gQ ts lo hi)))
 |.tup ts=>¬ (HT.dD ts.length 0 lo=0/\HT.dD ts.length ts.length hi=ts.length)/\q (.vw (.tup (gQ ts lo hi)))
 |.str z=>z.length<=sizeLine/\q (.vw (.str (Txt.slice z lo hi)))
 |_=>False
def fSl(fa:FE)(fl fh:FO):FP:=λρ Q=>fa ρ λx=>fl ρ λlo=>fh ρ λhi=>Zu x lo hi Q
section
variable{Z:Zc}{a:Expr}{lo hi:Option Expr}{fa:FE}{fl fh:FO}
theorem fj:VO X Z none fO0:=.mk λtm=>PO.weak IT λσ H Q ⟨ρ,O,q,I,hf,k⟩=>k _ hf H (aL.refl H)
theorem dt(h:VR X Z e fa):VO X Z (some e) (fO1 fa):=.mk λtm=>PO.weak (IU (h tm)) λσ H Q ⟨ρ,O,q,I,hf,k⟩=>⟨ρ,O,_,I,hf,λt ht v H' s z=>by split at ht;exact⟨_,z.int,k _ ht H' s⟩;exact ht.elim⟩
theorem cS(he:VR X Z e fa)(hl:VO X Z lo fl)(hh:VO X Z hi fh):VP X Z (.Subscript e (.Slice lo hi none p2) pos) (fSl fa fl fh) :=
 .mk λtm=>PE.weak (EE Xm (he tm) (hl tm) (hh tm)) λσ H Q ⟨ρ,O,q,I,hf,k⟩=>⟨ρ,O,_,I,hf,λx hx v H1 s1 a1=>⟨ρ,O,_,I.same s1,hx,λl hl H2 s2=>⟨ρ,O,_,(I.same s1).same s2,hl,λu hu H3 s3=>by have J:=((I.same s1).same s2).same s3;have a3:=(a1.same s2).same s3;have S:=(s1.trans s2).trans s3;unfold Zu at hu;split at hu;obtain⟨p,vs,rfl,q1,q2⟩:=a3.lst;exact .inl ⟨p,vs,rfl,q1,λr hr=>k _ hu _ _ (S.trans (aQ hr)) (J.ze hr (q2.cut _ _))⟩;obtain⟨p,vs,rfl,q1,q2⟩:=a3.tup;refine .inr (.inl ⟨p,vs,rfl,q1,by rw[q2.length];exact hu.1,λr hr=>k _ hu.2 _ _ (S.trans (aQ hr)) ⟨J.same (aQ hr),bK (eF.of aY) ((q2.cut _ _).same (aQ hr))⟩⟩);exact .inr (.inr ⟨_,a3.str,hu.1,k _ hu.2 _ H3 S ⟨J,bJ⟩⟩);exact hu.elim⟩⟩⟩
end
def L8(g:FA)(p:List T->(Rt->Prop)->Prop):FP:=λρ Q=>g ρ λts=>p ts Q
def jU(K:qaf)(r:qak->Hp->VK->Prop)(p:List T->(Rt->Prop)->Prop):Prop :=
 ∀(Z:Zc)(tm:List (T×V))(O:HD)(ρ:En)(σ:St)(H:Hp)(ts:List T)(vs:qak)(q:Rt->Prop)(Q:VK),aw K Z tm O ρ σ H->Paired (λv t=>jA K H (av Z O) t v) vs ts->p ts q ->
  (∀t,q t->∀u H',aL H H'->i4 K Z tm O ρ σ H' t u->Q u H')->r vs H Q
section
variable{Z:Zc}{a:Expr}{g:FA}{id Ty:String}{r:qak->Hp->VK->Prop}{pp:List T->(Rt->Prop)->Prop}
theorem az(hc:cN X (.builtin id) r)(ht:jU X.K r pp)(hg:Gl X x)(hm:X.mg x=none)(hv:bootBuiltins x=some (.builtin id))(ha:EU X Z (e::es) g)(hn:x≠"__name__":=by decide)(kP:fW x:=by decide)(hs:starEach (e::es) X.env=(false,eval e X.env)::starEach es X.env:=by rfl)(fz:(backTo pos (starEach es X.env)).any (·.1)=false:=by rfl):VP X Z (.Call (.Name x p) (e::es) [] pos) (L8 g pp) :=
 .mk λtm=>PE.weak (kR hc hg hm hv (ha tm) hn kP hs fz) λσ H Q ⟨ρ,O,q,I,hf,k⟩=>⟨ρ,O,_,I,hf,λts h_ vs H1 s1 a1=>ht Z tm O ρ σ H1 ts vs q _ (I.same s1) a1 h_ λt h u H' s z=>k t h u H' (s1.trans s) z⟩
theorem cY(hc:cN X (.type Ty) r)(ht:jU X.K r pp)(hg:Gl X x)(hm:X.mg x=none)(hv:bootBuiltins x=some (.type Ty))(ha:EU X Z (e::es) g)(hn:x≠"__name__":=by decide)(kP:fW x:=by decide)(hs:starEach (e::es) X.env=(false,eval e X.env)::starEach es X.env:=by rfl)(fz:(backTo pos (starEach es X.env)).any (·.1)=false:=by rfl):VP X Z (.Call (.Name x p) (e::es) [] pos) (L8 g pp) :=
 .mk λtm=>PE.weak (sV hc hg hm hv (ha tm) hn kP hs fz) λσ H Q ⟨ρ,O,q,I,hf,k⟩=>⟨ρ,O,_,I,hf,λts h_ vs H1 s1 a1=>ht Z tm O ρ σ H1 ts vs q _ (I.same s1) a1 h_ λt h u H' s z=>k t h u H' (s1.trans s) z⟩
end
def SV(ts:List T)(q:Rt->Prop):Prop:=match ts with
 |[.lst l]=>q (.vw (.int l.length))
 |[.tup l]=>q (.vw (.int l.length))
 |[.str z]=>z.length<=sizeLine/\q (.vw (.int z.length))
 |_=>False
def L9(K:qaf):qak->Hp->VK->Prop:=λxs H Q=>(∃p ys,xs=[.ref p]/\(fN K H p ys\/eF K H p ys)/\Q (.int ys.length) H)\/(∃z,xs=[.str z]/\z.length<=sizeLine/\Q (.int z.length) H)
theorem aD:cN X (.builtin "len") (L9 X.K):=cN.or uI uJ
theorem cb{β:Type}{F:α->β->Prop}{vs:List α}{t:β}(h:Paired F vs [t]):∃v,vs=[v]/\F v t:=by
 cases h with
 |cons r q=>cases q;exact⟨_,rfl,r⟩
theorem aE:jU K (L9 K) SV:=by intro Z tm O ρ σ H ts vs q Q I h hp k;unfold SV at hp;split at hp;obtain⟨v,rfl,a⟩:=cb h;obtain⟨p,ws,rfl,q1,q2⟩:=a.lst;exact .inl ⟨p,ws,rfl,.inl q1,k _ hp _ H (aL.refl H) ⟨I,by rw[q2.length];exact bC⟩⟩;obtain⟨v,rfl,a⟩:=cb h;obtain⟨p,ws,rfl,q1,q2⟩:=a.tup;exact .inl ⟨p,ws,rfl,.inr q1,k _ hp _ H (aL.refl H) ⟨I,by rw[q2.length];exact bC⟩⟩;obtain⟨v,rfl,a⟩:=cb h;exact .inr ⟨_,by rw[a.str],hp.1,k _ hp.2 _ H (aL.refl H) ⟨I,bC⟩⟩;exact hp.elim
def L_(ts:List T)(q:Rt->Prop):Prop:=match ts with
 |[.lst l]=>q (.fr (.lst l))
 |[.tup l]=>q (.fr (.lst l))
 |_=>False
theorem zh:jU K (λxs H Q=>∃p ys,xs=[.ref p]/\(fN K H p ys\/eF K H p ys)/\∀l,H l=none->Q (.ref l) (upd H l (.lst ys))) L_:=by intro Z tm O ρ σ H ts vs q Q I h hp k;unfold L_ at hp;split at hp;obtain⟨v,rfl,a⟩:=cb h;obtain⟨p,ws,rfl,q1,q2⟩:=a.lst;exact⟨p,ws,rfl,.inl q1,λl hl=>k _ hp _ _ (aQ hl) (I.ze hl q2)⟩;obtain⟨v,rfl,a⟩:=cb h;obtain⟨p,ws,rfl,q1,q2⟩:=a.tup;exact⟨p,ws,rfl,.inr q1,λl hl=>k _ hp _ _ (aQ hl) (I.ze hl q2)⟩;exact hp.elim
def Fb(ts:List T)(q:Rt->Prop):Prop:=match ts with
 |[.lst l]=>q (.vw (.tup l))
 |[.tup l]=>q (.vw (.tup l))
 |_=>False
theorem fB:jU K (λxs H Q=>∃p ys,xs=[.ref p]/\((fN K H p ys/\∀l,H l=none->Q (.ref l) (upd H l (.tup ys)))\/(eF K H p ys/\Q (.ref p) H))) Fb:=by intro Z tm O ρ σ H ts vs q Q I h hp k;unfold Fb at hp;split at hp;obtain⟨v,rfl,a⟩:=cb h;obtain⟨p,ws,rfl,q1,q2⟩:=a.lst;exact⟨p,ws,rfl,.inl ⟨q1,λl hl=>k _ hp _ _ (aQ hl) ⟨I.same (aQ hl),bK (eF.of aY) (q2.same (aQ hl))⟩⟩⟩;obtain⟨v,rfl,a⟩:=cb h;obtain⟨p,ws,rfl,q1,q2⟩:=a.tup;exact⟨p,ws,rfl,.inr ⟨q1,k _ hp _ H (aL.refl H) ⟨I,bK q1 q2⟩⟩⟩;exact hp.elim
structure Jt where
 nx:En->Prop
 rt:En->Rt->Prop
 bk:En->Prop:=λ_=>False
 ct:En->Prop:=λ_=>False
structure Fin(K:qaf)(Z:Zc)(tm:List (T×V))(d:Jt)(D:Ends):Prop where
 nx:∀O ρ σ H,aw K Z tm O ρ σ H->d.nx ρ->D.nx σ H
 rt:∀O ρ σ H r v,i4 K Z tm O ρ σ H r v->d.rt ρ r->D.rt v H
 bk:∀O ρ σ H,aw K Z tm O ρ σ H->d.bk ρ->D.bk σ H
 ct:∀O ρ σ H,aw K Z tm O ρ σ H->d.ct ρ->D.ct σ H
abbrev FS:=Jt->En->Prop
def lS(X:Cx)(Z:Zc)(tm:List (T×V))(g:FS):TS:=λD σ H=>∃ρ O d,aw X.K Z tm O ρ σ H/\g d ρ/\Fin X.K Z tm d D
def VS(X:Cx)(Z:Zc)(st:Stmt)(g:FS):Prop:=Bx λtm=>PS X st (lS X Z tm g)
instance{X:Cx}{Z:Zc}{st:Stmt}{g:FS}:CoeFun (VS X Z st g) λ_=>∀tm,PS X st (lS X Z tm g):=⟨λh=>Bx.h h⟩
def i7(X:Cx)(Z:Zc)(st:qaq)(g:FS):Prop:=Bx λtm=>oU X st (lS X Z tm g)
instance{X:Cx}{Z:Zc}{st:qaq}{g:FS}:CoeFun (i7 X Z st g) λ_=>∀tm,oU X st (lS X Z tm g):=⟨λh=>Bx.h h⟩
def ba(Z:Zc)(i:Nat):Prop:=∀p∈Z.P,p.1≠i
section
variable{Z:Zc}{rest:qaq}{g u:FS}
def SW:FS:=λd ρ=>d.nx ρ
def Xn(g u:FS):FS:=λd ρ=>g {d with nx:=u d} ρ
theorem ax:i7 X Z [] SW:=.mk λtm=>oU.Ba AU λD σ H ⟨ρ,O,d,I,h,F⟩=>F.nx O ρ σ H I h
theorem af(h1:VS X Z st g)(h2:i7 X Z rest u):i7 X Z (st::rest) (Xn g u):=.mk λtm=>oU.Ba (iX (h1 tm) (h2 tm)) λD σ H ⟨ρ,O,d,I,h,F⟩ =>
 ⟨ρ,O,{d with nx:=u d},I,h,⟨λO' ρ' σ' H' I' h'=>⟨ρ',O',d,I',h',F⟩,F.rt,F.bk,F.ct⟩⟩
theorem ai(h1:VS X Z st g):i7 X Z [st] g:=.mk λtm=>jw (h1 tm)
theorem i7.weak(h:i7 X Z rest g)(hw:∀d ρ,u d ρ->g d ρ):i7 X Z rest u:=.mk λtm=>oU.Ba (h tm) λD σ H ⟨ρ,O,d,I,q,F⟩=>⟨ρ,O,d,I,hw d ρ q,F⟩
def SX(f:FX):FS:=λd ρ=>f ρ λρ' _=>d.nx ρ'
theorem bg{f:FX}(h:VX X Z e f)(hs:swapsWith e none pos.line X.env=pure false:=by rfl):VS X Z (.Expr e pos) (SX f):=.mk λtm=>PS.weak (jx (h tm) hs) λD σ H ⟨ρ,O,d,I,q,F⟩ =>
 ⟨ρ,O,_,I,q,λρ' r hr O' v H' z=>F.nx O' ρ' σ H' z.env hr⟩
def Xo(f:FX):FS:=λd ρ=>f ρ λρ' r=>d.rt ρ' r
theorem ay{f:FX}(h:VX X Z e f):VS X Z (.Return (some e) pos) (Xo f):=.mk λtm=>PS.weak (Ek (h tm)) λD σ H ⟨ρ,O,d,I,q,F⟩ =>
 ⟨ρ,O,_,I,q,λρ' r hr O' v H' z=>F.rt O' ρ' σ H' r v z hr⟩
def gIf(c:FB)(g u:FS):FS:=λd ρ=>c ρ λb=>if b=true then g d ρ else u d ρ
theorem aS{c:Expr}{fc:FB}{a b:qaq}(hc:VC X Z c fc)(ha:i7 X Z a g)(hb:i7 X Z b u):VS X Z (.If c a b pos) (gIf fc g u):=.mk λtm=>PS.weak (LS (hc tm) (ha tm) (hb tm)) λD σ H ⟨ρ,O,d,I,q,F⟩ =>
 ⟨ρ,O,_,I,q,λb hb H' s=>by
  cases b with
  |true=>rw[if_pos rfl] at hb ⊢;exact⟨ρ,O,d,I.same s,hb,F⟩
  |false=>rw[if_neg iV] at hb ⊢;exact⟨ρ,O,d,I.same s,hb,F⟩⟩
def SY(i:Nat)(f:FX):FS:=λd ρ=>f ρ λρ' r=>d.nx (ρ'.set i (some (r.t,false)))
def S0(i:Nat)(f:FX):FS:=λd ρ=>f ρ λρ' r=>match r with
 |.fr t=>d.nx (ρ'.set i (some (t,true)))
 |_=>False
theorem aM{f:FX}(hN:X.N.Nodup)(hi:X.N[i]?=some x)(hx:Loc X.env.scope x)(he:VX X Z e f)(hp:ba Z i)(hs:swapsWith e (some (.Name x pos')) pos.line X.env=pure false:=by rfl)(hf:X.fn x=true\/X.env.scope.names.lookup x=some .local:=by first|exact .inl rfl|exact .inr rfl|assumption):VS X Z (.Assign [.Name x pos'] e pos) (SY i f):=.mk λtm=>PS.weak (yS hN hi hx (he tm) hs hf) λD σ H ⟨ρ,O,d,I,q,F⟩ =>
 ⟨ρ,O,_,I,q,λρ' r hr O' v H' z=>F.nx _ _ _ H' (z.env.put hp z.at) hr⟩
theorem dR{f:FX}(hN:X.N.Nodup)(hi:X.N[i]?=some x)(hx:Loc X.env.scope x)(he:VX X Z e f)(hp:ba Z i)(hs:swapsWith e (some (.Name x pos')) pos.line X.env=pure false:=by rfl)(hf:X.fn x=true\/X.env.scope.names.lookup x=some .local:=by first|exact .inl rfl|exact .inr rfl|assumption):VS X Z (.Assign [.Name x pos'] e pos) (S0 i f):=.mk λtm=>PS.weak (yS hN hi hx (he tm) hs hf) λD σ H ⟨ρ,O,d,I,q,F⟩ =>
 ⟨ρ,O,_,I,q,λρ' r hr O' v H' z=>by split at hr;obtain⟨a,rfl,J,hR,h0,LZ⟩:=z;exact F.nx _ _ _ H' (J.SN hp hR h0 LZ) hr;exact hr.elim⟩
def S3(i:Nat)(f:FE)(p:T->T->(Rt->Prop)->Prop):FS:=λd ρ=>match ρ[i]? with
 |some (some (x,false))=>f ρ λy=>p x y λr=>d.nx (ρ.set i (some (r.t,false)))
 |_=>False
theorem Ow{f:FE}{op:Operator}{r:R2}{p:T->T->(Rt->Prop)->Prop}(hN:X.N.Nodup)(hi:X.N[i]?=some x)(hx:Loc X.env.scope x)(he:VR X Z e f)(ho:fD X (inplaceOp op) r)(ht:pL X.K r p)(hp:ba Z i)(hf:X.fn x=true\/X.env.scope.names.lookup x=some .local:=by first|exact .inl rfl|exact .inr rfl|assumption):VS X Z (.AugAssign (.Name x pos') op e pos) (S3 i f p):=.mk λtm=>PS.weak (ND hN hi hx (he tm) ho hf) λD σ H ⟨ρ,O,d,I,q,F⟩=>by
 unfold S3 at q;split at q
 rename_i t e0
 obtain⟨o,s,h1,h2,rfl,v,rfl,h3⟩:=I.sl i _ e0;refine⟨v,h2,ρ,O,_,I,q,λy hy w H1 s1 a1=>?_⟩;exact ht Z tm O ρ σ H1 t y v w _ _ (I.same s1) (.inl (h3.same s1)) a1 hy λr hr z H2 s2 k=>F.nx _ _ _ H2 (k.env.put hp k.at) hr;exact q.elim
def Xp(is:qao)(g:FS):FS:=λd ρ=>g d (is.foldl (λρ i=>match ρ[i]? with
 |some (some (t,true))=>ρ.set i (some (t,false))
 |_=>ρ) ρ)
theorem pP{K:qaf}{tm:List (T×V)}:∀(is:qao){O:HD}{ρ:En}{σ:St}{H:Hp},(∀i∈is,ba Z i)->aw K Z tm O ρ σ H->∃O',aw K Z tm O' (is.foldl (λρ i=>match ρ[i]? with
 |some (some (t,true))=>ρ.set i (some (t,false))
 |_=>ρ) ρ) σ H
 |[],O,ρ,σ,H,_,I=>⟨O,I⟩
 |i::is,O,ρ,σ,H,hp,I=>by
  rw[List.foldl_cons];have L0:∀j∈is,ba Z j:=λj hj=>hp j (fY _ hj);split
  rename_i t e
  exact pP is L0 (I.yP (hp i eE) e);exact pP is L0 I
theorem uO(is:qao)(h:i7 X Z rest g)(hp:∀i∈is,ba Z i):i7 X Z rest (Xp is g):=.mk λtm=>oU.Ba (h tm) λD σ H ⟨ρ,O,d,I,q,F⟩=>let ⟨O',I'⟩:=pP is hp I;⟨_,O',d,I',q,F⟩
end
section
variable{Z:Zc}{a:Expr}
theorem aw.root{tm:List (T×V)}{ρ:En}(I:aw K Z tm O ρ σ H){k:Nat}{t:T}(e:ρ[k]?=some (some (t,true))):∃a,O[k]?=some (some a)/\σ[k]?=some (some (.ref a))/\cX K H (av Z O) a t:=by obtain⟨o,s,h1,h2,a,rfl,rfl,h3⟩:=I.sl k _ e;exact⟨a,h1,h2,h3⟩
def Bc(k:Nat)(g:FA)(p:List T->List T->(List T->T->Prop)->Prop):FX:=λρ Q=>match ρ[k]? with
 |some (some (.lst ts,true))=>g ρ λvs=>p ts vs λkd r=>Q (ρ.set k (some (.lst kd,true))) (.vw r)
 |_=>False
def Q8(K:qaf)(r:V->qak->Hp->VK->Prop)(p:List T->List T->(List T->T->Prop)->Prop):Prop :=
 ∀(H:Hp)(A:qah)(l:Addr)(xs:qak)(ts us:List T)(vs:qak)(q:List T->T->Prop)(Q:VK),l∈A->H l=some (.lst xs)->aB K H A ts xs->aB K H A us vs->p ts us q ->
  (∀kd t,q kd t->∀Vh v,aB K H A kd Vh->At K H A t v->Q v (upd H l (.lst Vh)))->r (.ref l) vs H Q
theorem Bd{r:V->qak->Hp->VK->Prop}{p:List T->List T->(List T->T->Prop)->Prop}(hm:Q8 X.K r p){k:Nat}{g:FA}{tm:List (T×V)}{Q:VK}(h:lX X Z tm (Bc k g p) σ H Q) :
  ∃l,σ[k]?=some (some (.ref l))/\(∃xs,fN X.K H l xs)/\lA X Z tm g σ H λvs H1=>r (.ref l) vs H1 Q:=by
 obtain⟨ρ,O,q,I,hf,kk⟩:=h;unfold Bc at hf;split at hf
 rename_i ts e0
 obtain⟨l,h1,h2,xs,h3,h4⟩:=I.root e0;refine⟨l,h2,⟨xs,fN.of h3⟩,ρ,O,_,I,hf,λus WQ vs H1 s1 a1=>?_⟩;have J:=I.same s1;have ha:l∈av Z O:=j5 _ (aP.mpr (mn h1));refine hm H1 (av Z O) l xs ts us vs _ Q ha (s1 _ _ h3) (h4.same s1) a1 WQ λkd t ht Vh v b1 b2=>?_;exact kk _ _ ht O _ _ ⟨J.wrote e0 h1 ⟨Vh,aY,b1.wrote ha (s1 _ _ h3) rfl⟩,b2.wrote ha (s1 _ _ h3) rfl⟩;exact hf.elim
theorem cL(k:Nat){name:Str}{id:String}{g:FA}{r:V->qak->Hp->VK->Prop}{pp:List T->List T->(List T->T->Prop)->Prop}(slot:Slot "list" name id)(N6:typeOf (.builtin id)=pure (.type "method_descriptor"))(hm:Ia X id r)(ht:Q8 X.K r pp)(ha:VA X Z (e::es) g)(hN:X.N[k]?=some x:=by rfl)(hv:pk X.env.scope x:=by first|exact Or.inl rfl|exact Or.inr (Or.inl rfl)|exact Or.inr (Or.inr rfl))(hd:fW x:=by decide)(gM:sN x:=by decide)(cO:attributeBase (.Name x p) name X.env (eval (.Name x p) X.env)=eval (.Name x p) X.env:=by rfl)(ik:((backTo aT (starEach (e::es) X.env)).all (λx=>!x.1) && (backToKw aT (keywordEach [] X.env)).all (λx=>x.1.isSome)
    && decide ((e::es).length+([]:List Keyword).length+(if ([]:List Keyword).isEmpty then 0 else 1)<30))=true:=by rfl)(cP:(apos.endLine==aT.line)=true:=by rfl)(hs:starEach (e::es) X.env=(false,eval e X.env)::starEach es X.env:=by rfl)(dz:(backTo aT (starEach es X.env)).any (·.1)=false:=by rfl) :
  VX X Z (.Call (.Attribute (.Name x p) name apos) (e::es) [] aT) (Bc k g pp):=.mk λtm=>
 PE.weak (pF UR slot N6 hm (dQ hN hv hd gM) (ha tm) cO ik cP hs dz) λσ H Q h=>
  let ⟨l,h1,h2,h3⟩:=Bd ht h;⟨.ref l,h1,.inl ⟨rfl,h2⟩,h3⟩
theorem Fc(k:Nat){name:Str}{id:String}{r:V->qak->Hp->VK->Prop}{pp:List T->List T->(List T->T->Prop)->Prop}(slot:Slot "list" name id)(N6:typeOf (.builtin id)=pure (.type "method_descriptor"))(hm:Ia X id r)(ht:Q8 X.K r pp)(hN:X.N[k]?=some x:=by rfl)(hv:pk X.env.scope x:=by first|exact Or.inl rfl|exact Or.inr (Or.inl rfl)|exact Or.inr (Or.inr rfl))(hd:fW x:=by decide)(gM:sN x:=by decide)(cO:attributeBase (.Name x p) name X.env (eval (.Name x p) X.env)=eval (.Name x p) X.env:=by rfl)(cP:(apos.endLine==aT.line)=true:=by rfl):VX X Z (.Call (.Attribute (.Name x p) name apos) [] [] aT) (Bc k E3 pp):=.mk λtm=>
 PE.weak (N5 UR slot N6 hm (dQ hN hv hd gM) cO cP) λσ H Q h=>by obtain⟨l,h1,h2,ρ,O,q,I,hf,kk⟩:=Bd ht h;exact⟨.ref l,h1,.inl ⟨rfl,h2⟩,kk [] hf [] H (aL.refl H) aB.nil⟩
def Be(ts us:List T)(q:List T->T->Prop):Prop:=match us with
 |[t]=>ts.length<sizeLine/\q (ts++[t]) .bR
 |_=>False
theorem aV:Q8 K A6 Be:=by intro H A l xs ts us vs q Q hl hH h1 h2 hp k;unfold Be at hp;split at hp;obtain⟨v,rfl,a⟩:=cb (aB.iff.mp h2);exact⟨l,xs,v,rfl,rfl,hH,by rw[h1.length];exact hp.1,k _ _ hp.2 _ _ (h1.append (aB.cons a aB.nil)) mJ⟩;exact hp.elim
def Xq(ts us:List T)(q:List T->T->Prop):Prop:=us=[]/\∃t,ts[ts.length-1]?=some t/\q ts.dropLast t
theorem aB.dropLast{A:qah}{ts:List T}(h:aB K H A ts vs):aB K H A ts.dropLast vs.dropLast:=by rw[List.dropLast_eq_take,List.dropLast_eq_take,h.length];exact h.take _
theorem Bf:Q8 K Sr Xq:=by
 intro H A l xs ts us vs q Q hl hH h1 h2 hp k;obtain⟨rfl,t,e1,hq⟩:=hp;have e:vs=[]:=by simpa only[aB] using h2
 obtain⟨v,e2,a⟩:=h1.get e1;exact⟨l,xs,v,rfl,e,hH,by rw[h1.length];exact e2,k _ _ hq _ _ h1.dropLast a⟩
noncomputable def L'(k:Nat)(f fi:FE):FS:=λd ρ=>match ρ[k]? with
 |some (some (.lst ts,true))=>f ρ λv=>fi ρ λi=>match i with
  |.int j=>∃n,wq ts.length j=some n/\d.nx (ρ.set k (some (.lst (ts.set n v),true)))
  |_=>False
 |_=>False
theorem pQ(k:Nat){f fi:FE}{i:Expr}{rL:Pos}(he:VE X Z e f)(hi:VR X Z i fi)(hN:X.N[k]?=some x:=by rfl)(hv:pk X.env.scope x:=by first|exact Or.inl rfl|exact Or.inr (Or.inl rfl)|exact Or.inr (Or.inr rfl))(hd:fW x:=by decide)(gM:sN x:=by decide)(ha:∀v,assign (.Subscript (.Name x p) i rL) X.env v=(do
    let ov <- holding [v] (eval (.Name x p) X.env)
    let iv <- holding [v,ov] (eval i X.env)
    standAt rL
    holding [v,ov,iv] (setItem ov iv v)
    release [v,ov,iv] []):=by intro _;rfl)(hs:swapsWithSole [.Subscript (.Name x p) i rL] e pos.line X.env=pure false:=by rfl)(hw:swappedStores [.Subscript (.Name x p) i rL] e X.env=pure none:=by rfl)(h1:(assignEach [.Subscript (.Name x p) i rL] X.env).map (·.2)=[assign (.Subscript (.Name x p) i rL) X.env]:=by rfl):VS X Z (.Assign [.Subscript (.Name x p) i rL] e pos) (L' k f fi):=.mk λtm=>
 PS.weak (Eo (he tm) (NC (dQ hN hv hd gM) (hi tm) set_list ha) hs hw h1) λD σ H ⟨ρ,O,d,I,q,F⟩=>by
  unfold L' at q;split at q
  rename_i ts e0
  obtain⟨l,h1,h2,xs,h3,h4⟩:=I.root e0;have ha:l∈av Z O:=j5 _ (aP.mpr (mn h1));refine⟨ρ,O,_,I,q,λt ht v H1 s1 a1=>⟨.ref l,h2,ρ,O,_,I.same s1,ht,λj hj w H2 s2 a2=>?_⟩⟩;split at hj;obtain⟨n,e1,hj⟩:=hj;refine⟨l,xs,_,n,rfl,a2.int,s2 _ _ (s1 _ _ h3),by rw[h4.length];exact e1,?_⟩;refine F.nx O _ σ _ (((I.same s1).same s2).wrote (t':=.lst (ts.set n t)) e0 h1 ⟨xs.set n v,aY,?_⟩) hj;exact aB.wrote ha (s2 _ _ (s1 _ _ h3)) rfl (((h4.same s1).same s2).set n (a1.same s2));exact hj.elim;exact q.elim
theorem aw.give{tm:List (T×V)}{ρ:En}(I:aw K Z tm O ρ σ H){t:T}(hp:ba Z i)(hi:ρ[i]?=some (some (t,true))):∃a,σ[i]?=some (some (.ref a))/\i4 K Z tm (O.set i none) (ρ.set i none) σ H (.fr t) (.ref a):=by
 obtain⟨a,h1,h2,h3⟩:=I.root hi;have ha:a∈roots O:=aP.mpr (mn h1);obtain⟨o1,o2,o3⟩:=I.own a ha;have J:=I.forget hp;have J2:=I.yP hp hi;have na:a∉roots (O.set i none):=λz=>by
  obtain⟨o,s,g1,g2,g3,v,g4,g5⟩:=J2.sl i (some (t,false)) (by rw[yF (by rw[<- I.lO];exact (gN.mp h1).1)]);rw[h2] at g2;cases g2;cases g4;have nn:a∉av Z (O.set i none):=by
   obtain⟨u,eu,mu⟩:=h3.mut;cases t with
   |lst ts=>
    simp only[At] at g5;obtain⟨b,vs,eb,l,_⟩:=g5;cases eb;obtain l|⟨oo,_,_,lk,_⟩:=l
    exact l.2;exact λz2=>by
     have key:∀(O:HD)(i:Nat),O[i]?=some (some a)->(roots O).Nodup->a∉roots (O.set i none):=by
      intro O;induction O with
      |nil=>intro i h;simp at h
      |cons o O ih=>
       intro i h nd;cases i with
       |zero=>
        have:o=some a:=by simpa using h
        subst this;simp only[roots,U2,om,id] at nd ⊢;exact (sO.mp nd).1
       |succ i=>
        have h':O[i]?=some (some a):=by simpa using h
        cases o with
        |none=>simp only[roots,QS,om,id] at nd ⊢;exact ih i h' nd
        |some b=>
         simp only[roots,QS,om,id] at nd ⊢;rw[sO] at nd;intro z;rcases bL.mp z with z|z
         exact nd.1 (by rw[<- z];exact aP.mpr (mn h'));exact ih i h' nd.2 z
     rcases gF.mp z2 with z2|z2
     exact key O i h1 I.nd z2;exact o2 z2
   |dk ks ts=>simp only[At] at g5;obtain⟨b,vs,eb,_,d,_⟩:=g5;cases eb;exact d.2
   |ins C ns ts=>simp only[At] at g5;obtain⟨b,dx,vs,eb,_,d,_⟩:=g5;cases eb;exact d.2
   |_=>exact h3.elim
  exact nn (j5 _ z)
 have hP:Z.H0 a=none:=by
  obtain z|z:=o1
  obtain⟨p,hpm,rfl⟩:=iS.mp z;have:=J.par p hpm;exact absurd (aP.mpr (mn this)) na;exact z
 have sub:∀b∈av (Z.ex a) (O.set i none),b∈av Z O:=λb hb=>by
  rcases dF b hb with z|z
  exact cu i b z;rw[z];exact j5 _ ha
 refine⟨a,h2,a,rfl,⟨J.lσ,J.lO,λj e h=>?_,J.nd,λb hb=>?_,J.par,λb hb=>?_,J.keep,λp hp=>(I.oy p hp).bB sub⟩,h3.bB sub,hP,o2⟩;rcases get_set h with⟨rfl,rfl,hl⟩|⟨ne,h⟩
 obtain⟨o,s,g1,g2,g3⟩:=J.sl j none (by rw[yF hl]);exact⟨o,s,g1,g2,g3⟩;obtain⟨o,s,g1,g2,g3⟩:=I.sl j e h;exact⟨o,s,by rw[uA (Ne.symm ne)];exact g1,g2,g3.map (λ_ _ q=>q.bB sub) λ_ _ _ q=>q.bB sub⟩;obtain⟨q1,q2,q3⟩:=J.own b hb;refine⟨q1,λz=>?_,q3⟩;rcases bL.mp z with z|z
 exact na (by rw[<- z];exact hb);exact q2 z;rcases bL.mp hb with z|z
 obtain⟨u,eu,_⟩:=o3;rw[z,eu];simp;exact I.ox b z
def Ma(i:Nat):FX:=λρ Q=>match ρ[i]? with
 |some (some (t,true))=>Q (ρ.set i none) (.fr t)
 |some (some (t,false))=>Q ρ (.vw t)
 |_=>False
theorem k7(i:Nat)(hp:ba Z i)(hN:X.N[i]?=some x:=by rfl)(hv:pk X.env.scope x:=by first|exact Or.inl rfl|exact Or.inr (Or.inl rfl)|exact Or.inr (Or.inr rfl))(hd:fW x:=by decide)(gM:sN x:=by decide):VX X Z (.Name x pos) (Ma i):=.mk λtm=>PE.weak (dQ hN hv hd gM) λσ H Q ⟨ρ,O,q,I,hf,k⟩=>by
 unfold Ma at hf;split at hf
 rename_i t e
 obtain⟨a,h1,h2⟩:=I.give hp e;exact⟨_,h1,k _ _ hf _ _ H h2⟩
 rename_i t e
 obtain⟨o,s,h1,h2,rfl,v,rfl,h3⟩:=I.sl i _ e;exact⟨v,h2,k _ _ hf O v H ⟨I,h3⟩⟩;exact hf.elim
end
theorem aw.wQ{Z:Zc}{tm Zv:List (T×V)}{ρ:En}(I:aw K Z tm O ρ σ H)(h:∀p∈Zv,At K H (av Z O) p.1 p.2):aw K Z Zv O ρ σ H :=
 ⟨I.lσ,I.lO,I.sl,I.nd,I.own,I.par,I.ox,I.keep,h⟩
theorem i4.wQ{Z:Zc}{bV tm:List (T×V)}{ρ:En}{r:Rt}(h:i4 K Z (bV++tm) O ρ σ H r v):i4 K Z tm O ρ σ H r v:=by
 cases r with
 |vw t=>exact⟨h.1.wQ λp hp=>h.1.oy p (kC _ hp),h.2⟩
 |fr t=>obtain⟨a,e,I,q⟩:=h;exact⟨a,e,I.wQ λp hp=>I.oy p (kC _ hp),q⟩
def Wk(K:qaf)(J:It)(bV:List (T×V))(ts:List T):Prop:=∀H A,(∀a∈A,H a≠none)->(∀p∈bV,At K H A p.1 p.2)->∀i:Nat,
 (i<ts.length->J.go i H)/\(ts.length=i->J.stop i H)/\∀t,ts[i]?=some t->∀x H',J.R0 i H x H'->aL H H'/\At K H' A t x
abbrev FI:=En->(List T->Prop)->Prop
noncomputable def lI(X:Cx)(Z:Zc)(tm:List (T×V))(f:FI):TI:=λσ H R=>∃ρ O q,aw X.K Z tm O ρ σ H/\f ρ q/\∀ts,q ts->∀J H' bV,aL H H'->(∀p∈bV,At X.K H' (av Z O) p.1 p.2)->Wk X.K J bV ts->R J H'
def VI(X:Cx)(Z:Zc)(tg iter:Expr)(f:FI):Prop:=Bx λtm=>PI X tg iter (lI X Z tm f)
instance{X:Cx}{Z:Zc}{tg iter:Expr}{f:FI}:CoeFun (VI X Z tg iter f) λ_=>∀tm,PI X tg iter (lI X Z tm f):=⟨λh=>Bx.h h⟩
theorem PI.weak{tg:Expr}{t t':TI}(h:PI X tg e t)(hw:∀σ H R,t' σ H R->t σ H R):PI X tg e t':=λpins s σ H R I q=>h pins s σ H R I (hw _ _ _ q)
theorem PG.weak{tg:Expr}{t t':TG}(h:PG X tg t)(hw:∀v σ H Q,t' v σ H Q->t v σ H Q):PG X tg t':=λpins s σ H v u Q I r q=>h pins s σ H v u Q I r (hw _ _ _ _ q)
theorem El.weak{tg:qap}{t t':ID}(h:El X tg t)(hw:∀v σ H Q,t' v σ H Q->t v σ H Q):El X tg t':=λpins s σ H v u Q I r q=>h pins s σ H v u Q I r (hw _ _ _ _ q)
def S4(K:qaf)(tl:TE):TI:=λσ H R=>tl σ H λx H1=>(∃a,x=.ref a/\(∃xs,fN K H1 a xs)/\R (WC K a) H1)\/(∃a,x=.ref a/\(∃xs,eF K H1 a xs)/\R (WD K a) H1)\/∃z,x=.str z/\R (Vg z) H1
section
variable{Z:Zc}{tg:Expr}
theorem Fd{l:Expr}{tl:TE}(hl:PE X l tl):PI X tg l (S4 X.K tl):=by
 intro pins s σ H R I h;refine cm (hl pins s σ H _ I h) λv s1 ⟨x,H1,I1,r1,q1⟩=>?_;obtain⟨a,e,hq,q⟩|⟨a,e,hq,q⟩|⟨z,e,q⟩:=q1
 subst e;cases r1;obtain⟨xs,hq⟩:=hq;obtain⟨aK,rv,p,hz⟩:=I1.list hq;refine wpAny_pyIter_list p.isList ?_;refine⟨s1.heap.objs.size,[s1.heap.objs.size],_,_,H1,rfl,I1.kept (t':=s1.toks) λb o e=>eD _ e,Cg a _,⟨_,ph _ rfl,rfl,rfl⟩,λb hb=>?_,q⟩;have e:b=s1.heap.objs.size:=by simpa using hb
 subst e;exact I1.rK (eB _) (I1.bG.fresh (eB _));subst e;cases r1;obtain⟨xs,hq⟩:=hq;obtain⟨aK,rv,p,hz⟩:=I1.tuple hq;refine wpAny_pyIter_tuple (show s1.heap.IsTuple a aK.toArray from p) ?_;refine⟨s1.heap.objs.size,[s1.heap.objs.size],_,_,H1,rfl,I1.kept (t':=s1.toks) λb o e=>eD _ e,yU a _,⟨_,ph _ rfl,rfl,rfl⟩,λb hb=>?_,q⟩;have e:b=s1.heap.objs.size:=by simpa using hb
 subst e;exact I1.rK (eB _) (I1.bG.fresh (eB _));subst e;obtain⟨t,rfl⟩:=r1;refine wpAny_pyIter_strU ?_;have I2:Inv X pins σ H1 {s1 with heap:=s1.heap.push {cls:=.type (strIterType z),data:=.fields #[.str z t,.int 0 0]} }:=I1.kept (t':=s1.toks) λb o e=>eD _ e;refine⟨s1.heap.objs.size,[s1.heap.objs.size],_,_,H1,rfl,I2,ER z t _,⟨_,ph _ rfl,rfl,rfl⟩,λb hb=>?_,q⟩;have e:b=s1.heap.objs.size:=by simpa using hb
 subst e;exact I1.rK (eB _) I1.fresh
def Xr(f:FE):FI:=λρ Q=>f ρ λt=>match t with
 |.lst ts=>Q ts
 |.tup ts=>Q ts
 |.str z=>Q (z.cps.toList.map λc=>.str ⟨#[c]⟩)
 |_=>False
theorem Ju{ts:List T}:Wk K (WC K a) [(.lst ts,.ref a)] ts:=λH A hA h i=>by have h:=h _ eE;simp only[At] at h;obtain⟨b,vs,e,l,q⟩:=h;cases e;have hl:=q.length;refine⟨λhi=>⟨vs,vs[i]'(by omega),l.sq,by simp⟩,λhi=>⟨vs,l.sq,by omega⟩,λt ht x H' y=>?_⟩;obtain⟨rfl,y⟩:=y;obtain⟨v,e1,e2⟩:=q.get ht;have:=y vs l.sq;rw[e1] at this;cases this;exact⟨aL.refl _,e2⟩
theorem Oy{ts:List T}:Wk K (WD K a) [(.tup ts,.ref a)] ts:=λH A hA h i=>by have h:=h _ eE;simp only[At] at h;obtain⟨b,vs,e,l,q⟩:=h;cases e;have hl:=q.length;refine⟨λhi=>⟨vs,vs[i]'(by omega),l,by simp⟩,λhi=>⟨vs,l,by omega⟩,λt ht x H' y=>?_⟩;obtain⟨rfl,y⟩:=y;obtain⟨v,e1,e2⟩:=q.get ht;have:=y vs l;rw[e1] at this;cases this;exact⟨aL.refl _,e2⟩
theorem Oz{z:Str}:Wk K (Vg z) [] (z.cps.toList.map λc=>T.str ⟨#[c]⟩):=λH A hA h i=>by refine⟨λhi=>by rw[bQ,B_] at hi;exact hi,λhi=>by rw[bQ,B_] at hi;exact QZ hi,λt ht x H' y=>?_⟩;obtain⟨rfl,c,hc,rfl⟩:=y;rw[mf,UU,hc] at ht;cases ht;exact⟨aL.refl _,bJ⟩
theorem fF{l:Expr}{f:FE}(h:VE X Z l f):VI X Z tg l (Xr f):=.mk λtm=>PI.weak (Fd (h tm)) λσ H R ⟨ρ,O,q,I,hf,k⟩=>⟨ρ,O,_,I,hf,λt ht v H' s a=>by split at ht;have a0:=a;simp only[At] at a;obtain⟨p,vs,rfl,l,_⟩:=a;exact .inl ⟨p,rfl,⟨vs,l.sq⟩,k _ ht _ H' _ s (λp hp=>by rw[wj.mp hp];exact a0) Ju⟩;have a0:=a;simp only[At] at a;obtain⟨p,vs,rfl,l,_⟩:=a;exact .inr (.inl ⟨p,rfl,⟨vs,l⟩,k _ ht _ H' _ s (λp hp=>by rw[wj.mp hp];exact a0) Oy⟩);have e:=a;simp only[At] at e;exact .inr (.inr ⟨_,e,k _ ht _ H' [] s (λp hp=>nomatch hp) Oz⟩);exact ht.elim⟩
def rangeT(lo:Int)(n:Nat):List T:=(List.range n).map λi=>T.int (lo+((i:Nat):Int))
theorem Fe{lo:Int}:Wk K (U_ lo n) [] (rangeT lo n):=λH A hA h i=>by
 unfold rangeT;refine⟨λhi=>by rw[bQ,HU] at hi;exact hi,λhi=>by rw[bQ,HU] at hi;exact QZ hi,λt ht x H' y=>?_⟩;obtain⟨rfl,rfl⟩:=y;rw[mf] at ht;cases e:(List.range n)[i]? with
 |none=>rw[e] at ht;cases ht
 |some j=>
  rw[e] at ht;have hj:j=i:=by have:=gN.mp e;obtain⟨h1,h2⟩:=this;simpa using h2.symm
  subst hj;cases ht;exact⟨aL.refl _,bC⟩
def Zw(ts:List T)(Q:List T->Prop):Prop:=match ts with
 |[.int j]=>-(2 ^ 62)<=j/\j<2 ^ 62/\Q (rangeT 0 j.toNat)
 |_=>False
def OA(g:FA)(p:List T->(List T->Prop)->Prop):FI:=λρ Q=>g ρ λts=>p ts Q
theorem fR{a:Expr}{g:FE}(hg:Gl X "range")(hm:X.mg "range"=none)(ha:VR X Z a g)(hs:starEach [a] X.env=[(false,eval a X.env)]:=by rfl) :
  VI X Z tg (.Call (.Name "range" p) [a] [] pos) (OA (wK g E3) Zw):=.mk λtm=>PI.weak (Ci hg hm ((aq ha au hs) tm) hs) λσ H R ⟨ρ,O,q,I,hf,k⟩=>⟨ρ,O,_,I,hf,λts h_ vs H' s a=>by
 unfold Zw at h_;split at h_;obtain⟨v,rfl,a1⟩:=cb a;exact⟨_,by rw[a1.int],h_.1,h_.2.1,k _ h_.2.2 _ H' [] s (λp hp=>nomatch hp) Fe⟩;exact h_.elim⟩
abbrev FG:=T->En->(En->Prop)->Prop
abbrev Jv:=List T->En->(En->Prop)->Prop
noncomputable def lG(X:Cx)(Z:Zc)(tm:List (T×V))(is:qao)(h:FG):TG:=λv σ H Q=>∃ρ O t q,aw X.K Z tm O ρ σ H/\At X.K H (av Z O) t v/\h t ρ q/\∀ρ',q ρ'->∀O' σ',aw X.K Z tm O' ρ' σ' H->(∀a∈roots O',a∈roots O)->(∀(j:Nat),j∉is->O'[j]?=O[j]?)->σ'.length=σ.length->(∀(j:Nat),j∉is->σ'[j]?=σ[j]?)->Q σ' H
noncomputable def Zx(X:Cx)(Z:Zc)(tm:List (T×V))(is:qao)(h:Jv):ID:=λvs σ H Q=>∃ρ O ts q,aw X.K Z tm O ρ σ H/\aB X.K H (av Z O) ts vs/\h ts ρ q/\∀ρ',q ρ'->∀O' σ',aw X.K Z tm O' ρ' σ' H->(∀a∈roots O',a∈roots O)->(∀(j:Nat),j∉is->O'[j]?=O[j]?)->σ'.length=σ.length->(∀(j:Nat),j∉is->σ'[j]?=σ[j]?)->Q σ' H
def VG(X:Cx)(Z:Zc)(tg:Expr)(is:qao)(h:FG):Prop:=Bx λtm=>PG X tg (lG X Z tm is h)
instance{X:Cx}{Z:Zc}{tg:Expr}{is:qao}{h:FG}:CoeFun (VG X Z tg is h) λ_=>∀tm,PG X tg (lG X Z tm is h):=⟨λh=>Bx.h h⟩
def S6(X:Cx)(Z:Zc)(Vi:qap)(is:qao)(h:Jv):Prop:=Bx λtm=>El X Vi (Zx X Z tm is h)
instance{X:Cx}{Z:Zc}{Vi:qap}{is:qao}{h:Jv}:CoeFun (S6 X Z Vi is h) λ_=>∀tm,El X Vi (Zx X Z tm is h):=⟨λh=>Bx.h h⟩
def hName(i:Nat):FG:=λt ρ Q=>Q (ρ.set i (some (t,false)))
theorem aX(hN:X.N.Nodup)(hi:X.N[i]?=some x)(hx:Loc X.env.scope x)(hp:ba Z i)(hf:X.fn x=true\/X.env.scope.names.lookup x=some .local:=by first|exact .inl rfl|exact .inr rfl|assumption) :
  VG X Z (.Name x pos) [i] (hName i):=.mk λtm=>PG.weak (AV hN hi hx hf) λv σ H Q ⟨ρ,O,t,q,I,a,h,k⟩ =>
 k _ h _ _ (I.put hp a) (cD i) (λj hj=>uA (λe=>hj (by simp[e]))) (by simp) λj hj=>uA (λe=>hj (by simp[e]))
def Xs:Jv:=λts ρ Q=>ts=[]/\Q ρ
def Mb(h:FG)(hs:Jv):Jv:=λts ρ Q=>match ts with
 |t::r=>h t ρ λρ'=>hs r ρ' Q
 |[]=>False
def S7(n:Nat)(h:Jv):FG:=λt ρ Q=>match t with
 |.tup ts=>ts.length=n/\h ts ρ Q
 |_=>False
theorem iu:S6 X Z [] [] Xs:=.mk λtm=>El.weak IF λvs σ H Q ⟨ρ,O,ts,q,I,a,h,k⟩=>by
 obtain⟨rfl,h⟩:=h;have e:vs=[]:=by simpa only[aB] using a
 exact⟨e,k _ h O σ I (λ_ z=>z) (λ_ _=>rfl) rfl λ_ _=>rfl⟩
theorem cj{is js:qao}{h:FG}{hs:Jv}(h1:VG X Z e is h)(h2:S6 X Z es js hs)(hse:(assignEach (e::es) X.env).map (·.2)=assign e X.env::(assignEach es X.env).map (·.2):=by rfl):S6 X Z (e::es) (is++js) (Mb h hs):=.mk λtm=>El.weak (Em (h1 tm) (h2 tm) hse) λvs σ H Q ⟨ρ,O,ts,q,I,a,hh,k⟩=>by
 unfold Mb at hh;split at hh;simp only[aB] at a;obtain⟨v,r,rfl,a1,a2⟩:=a;refine⟨v,r,rfl,ρ,O,_,_,I,a1,hh,λρ' hρ O' σ' I' ro eo l e=>⟨ρ',O',_,q,I',a2.bB λb hb=>?_,hρ,λρ2 h2 O2 σ2 I2 ro2 eo2 l2 e2=>k ρ2 h2 O2 σ2 I2 (λa z=>ro a (ro2 a z)) (λj hj=>?_) (l2.trans l) λj hj=>?_⟩⟩;rcases gF.mp hb with z|z
 exact j5 _ (ro b z);exact kC _ z;rw[gF,not_or] at hj;exact (eo2 j hj.2).trans (eo j hj.1);rw[gF,not_or] at hj;exact (e2 j hj.2).trans (e j hj.1);exact hh.elim
theorem ke{k:Nat}{is:qao}{h:Jv}(hc:X.calm=true)(hh:S6 X Z es is h)(hn:(assignEach es X.env).length=n:=by rfl)(AW:(assignEach es X.env).findIdx? (·.1)=none:=by rfl):VG X Z (.Tuple es k pos) is (S7 n h):=.mk λtm=>PG.weak (NB hc (hh tm) hn AW) λv σ H Q ⟨ρ,O,t,q,I,a,h',kk⟩=>by unfold S7 at h';split at h';simp only[At] at a;obtain⟨p,vs,rfl,s,a⟩:=a;exact⟨p,vs,rfl,s,a.length.trans h'.1,ρ,O,_,q,I,a,h'.2,kk⟩;exact h'.elim
def Xu(f:FE)(h:FG):FS:=λd ρ=>f ρ λt=>h t ρ d.nx
theorem OB{tg:Expr}{f:FE}{is:qao}{h:FG}(he:VE X Z e f)(hg:VG X Z tg is h)(hs:swapsWithSole [tg] e pos.line X.env=pure false:=by rfl)(hw:swappedStores [tg] e X.env=pure none:=by rfl)(h1:(assignEach [tg] X.env).map (·.2)=[assign tg X.env]:=by rfl):VS X Z (.Assign [tg] e pos) (Xu f h):=.mk λtm=>PS.weak (Eo (he tm) (hg tm) hs hw h1) λD σ H ⟨ρ,O,d,I,q,F⟩ =>
 ⟨ρ,O,_,I,q,λt ht v H' s a=>⟨ρ,O,t,_,I.same s,a,ht,λρ' hρ O' σ' I' _ _ _ _=>F.nx O' ρ' σ' H' I' hρ⟩⟩
def s_(ts:List T)(h:FG)(g:FS):FS:=λd ρ=>∃Pv:Nat->En->Prop,Pv 0 ρ/\(∀(i:Nat) t ρ',ts[i]?=some t->Pv i ρ'->h t ρ' λρ2=>g {nx:=Pv (i+1),ct:=Pv (i+1),bk:=d.nx,rt:=d.rt} ρ2)/\∀ρ',Pv ts.length ρ'->d.nx ρ'
def Xv(f:FI)(h:FG)(g:FS):FS:=λd ρ=>f ρ λts=>s_ ts h g d ρ
theorem eQ{body:qaq}{f:FI}{is:qao}{h:FG}{g:FS}(hp:PassesOwn (model X.prog X.w) X.A X.env X.xe)(hc:X.calm=true)(hi:VI X Z tg iter f)(hg:VG X Z tg is h)(hb:i7 X Z body g)(hs:∀x,foldedSetIterable iter X.env x=pure x:=by intro _;rfl):VS X Z (.For tg iter body [] pos) (Xv f h g):=by
 refine .mk λtm pins s σ H D I0 hw=>?_;obtain⟨ρ,O,d,I,q,F⟩:=hw;refine Er (wi:=lI X Z tm f) (g:=λv σ H Q=>∃bV,lG X Z (bV++tm) is h v σ H Q) (tb:=λD σ H=>∃bV,lS X Z (bV++tm) g D σ H) hp hc (hi tm) (λpins s σ H v u Q I r ⟨bV,z⟩=>hg (bV++tm) pins s σ H v u Q I r z) (λpins s σ H D I ⟨bV,z⟩=>hb (bV++tm) pins s σ H D I z) hs pins s σ H D I0 ?_;refine⟨ρ,O,_,I,q,λts h_ J H' bV s a wk=>?_⟩;obtain⟨Pv,p0,step,fin⟩:=h_;have J0:aw X.K Z (bV++tm) O ρ σ H':=(I.same s).wQ λp hp=>by
  rcases gF.mp hp with z|z
  exact a p z;exact (I.same s).oy p z
 refine⟨λi m σ H=>m=ts.length-i/\i<=ts.length/\∃ρ O,aw X.K Z (bV++tm) O ρ σ H/\Pv i ρ,⟨ts.length,by simp,nU _,ρ,O,J0,p0⟩,?_⟩;rintro i m σ1 H1 ⟨rfl,hi,ρ1,O1,I1,p1⟩;obtain⟨w1,w2,w3⟩:=wk H1 (av Z O1) I1.Q6 (λp hp=>I1.oy p (j5 _ hp)) i;have un:∀{O:HD}{ρ:En}{σ:St}{H:Hp},aw X.K Z (bV++tm) O ρ σ H->aw X.K Z tm O ρ σ H:=λI=>I.wQ λp hp=>I.oy p (kC _ hp);by_cases gq:i<ts.length;refine .inr ⟨w1 gq,λσ' H'=>∃ρ O,aw X.K Z (bV++tm) O ρ σ' H'/\Pv (i+1) ρ,λσ' H' ⟨ρ',O',I',p'⟩=>⟨ts.length-(i+1),by omega,rfl,gq,ρ',O',I',p'⟩,λx H2 y=>?_⟩;have e:ts[i]?=some ts[i]:=by simp[gq]
 obtain⟨s2,a2⟩:=w3 ts[i] e x H2 y;refine⟨bV,ρ1,O1,ts[i],_,I1.same s2,a2,step i _ ρ1 e p1,λρ2 h2 O2 σ2 I2 _ _ _ _=>⟨bV,ρ2,O2,_,I2,h2,?_⟩⟩;exact⟨λO ρ σ H I p=>⟨ρ,O,I,p⟩,λO ρ σ H r v z p=>F.rt O ρ σ H r v z.wQ p,λO ρ σ H I p=>F.nx O ρ σ H (un I) p,λO ρ σ H I p=>⟨ρ,O,I,p⟩⟩;have e:i=ts.length:=by omega
 subst e;exact .inl ⟨w2 (rfl),F.nx O1 ρ1 σ1 H1 (un I1) (fin ρ1 p1)⟩
end
theorem eR(O:HD)(n:Nat):roots (O++List.replicate n none)=roots O:=by
 unfold roots;rw[List.filterMap_append];have:(List.replicate n (none:qar)).filterMap id=[]:=by
  induction n with
  |zero=>rfl
  |succ n ih=>rw[AO,om];exact ih
 rw[this,HV]
theorem aw.longer{Z:Zc}{tm:List (T×V)}{ρ:En}(I:aw K Z tm O ρ σ H)(n:Nat){τ:St}(hτ:τ.length=n) :
  aw K Z tm (O++List.replicate n none) (ρ++List.replicate n none) (σ++τ) H:=by
 have ea:av Z (O++List.replicate n none)=av Z O:=by unfold av;rw[eR]
 refine⟨by simp[I.lσ,hτ],by simp[I.lO],λi e h=>?_,by rw[eR];exact I.nd,λa h=>I.own a (by rw[eR] at h;exact h),λp hp=>?_,I.ox,I.keep,λp hp=>by rw[ea];exact I.oy p hp⟩;rw[ea];by_cases hi:i<ρ.length;rw[wg hi] at h;obtain⟨o,s,h1,h2,h3⟩:=I.sl i e h;exact⟨o,s,by rw[wg (by rw[I.lO];exact hi)];exact h1,by rw[wg (by rw[I.lσ];exact hi)];exact h2,h3⟩;rw[AL (by omega),M9] at h;split at h
 rename_i hl
 cases h;refine⟨none,τ[i-σ.length]'(by rw[I.lσ,hτ];exact hl),?_,?_,rfl⟩;rw[AL (by rw[I.lO];omega),M9,if_pos (by rw[I.lO];exact hl)];rw[AL (by rw[I.lσ];omega)];simp;cases h;have:=I.par p hp;have hl:=(gN.mp this).1;rw[wg hl];exact this
theorem aw.OC{Z:Zc}{tm:List (T×V)}{ρ:En}{u:HO}(I:aw K (Z.ex a) tm O ρ σ H)(hu:H a=some u)(hm:wI u=true)(h0:Z.H0 a=none):aw K (Z.ex a) tm O ρ σ (upd H a o):=by
 have Jg:a∈av (Z.ex a) O:=kC _ eE;have nr:∀b∈roots O,b≠a:=λb hb e=>(I.own b hb).2.1 (by rw[e];exact eE);refine⟨I.lσ,I.lO,λi e h=>?_,I.nd,λb hb=>?_,I.par,λb hb=>?_,λb o' e n=>?_,λp hp=>(I.oy p hp).wrote Jg hu hm⟩;obtain⟨o',s,h1,h2,h3⟩:=I.sl i e h;refine⟨o',s,h1,h2,h3.map (λ_ _ q=>q.wrote Jg hu hm) λb t e q=>?_⟩;subst e;exact q.map (aH (nr b (aP.mpr (mn h1)))) λ_ _ z=>z.wrote Jg hu hm;obtain⟨q1,q2,v,e,m⟩:=I.own b hb;exact⟨q1,q2,v,by rw[aH (nr b hb)];exact e,m⟩;by_cases e:b=a;subst e;rw[aY];simp;rw[aH e];exact I.ox b hb;have:b≠a:=λe'=>by subst e';have e2:Z.H0 b=some o':=e;rw[h0] at e2;cases e2
 rw[aH this];exact I.keep b o' e n
def di(h:FG)(fc:FB)(fe:FE)(ρ:En):List T->(List T->Prop)->Prop
 |[],Q=>Q []
 |t::ts,Q=>h t ρ λρ2=>fc ρ2 λb=>if b=true then fe ρ2 λu=>di h fc fe ρ ts λus=>Q (u::us) else di h fc fe ρ ts Q
def wR(n:Nat)(is:qao)(f:FI)(h:FG)(fc:FB)(fe:FE):FP:=λρ Q=>(is.all λj=>decide (ρ.length<=j))=true/\f ρ λts=>ts.length<=sizeLine/\di h fc fe (ρ++List.replicate n none) ts λus=>Q (.fr (.lst us))
def OD(X:Cx)(Z:Zc)(ifs:qap)(f:FB):Prop:=Bx λtm=>EL X ifs (lB X Z tm f)
instance{X:Cx}{Z:Zc}{ifs:qap}{f:FB}:CoeFun (OD X Z ifs f) λ_=>∀tm,EL X ifs (lB X Z tm f):=⟨λh=>Bx.h h⟩
def Ff:FB:=λ_ Q=>Q true
theorem EL.weak{e:qap}{t t':TT}(h:EL X e t)(hw:∀σ H Q,t' σ H Q->t σ H Q):EL X e t':=λpins s σ H Q I q=>h pins s σ H Q I (hw _ _ _ q)
section
variable{Z:Zc}
theorem fm:OD X Z [] Ff:=.mk λtm=>EL.weak I_ λσ H Q ⟨ρ,O,q,I,h,k⟩=>k true h H (aL.refl H)
theorem Jw{c:Expr}{f:FB}(h:VC X Z c f):OD X Z [c] f:=.mk λtm=>Ja (h tm)
noncomputable def cG(X:Cx)(Z:Zc)(tm:List (T×V))(is:qao)(h:FG):TG:=λv σ H Q=>∃D bV,lG X (Z.ex D) (bV++tm) is h v σ H Q
noncomputable def cB(X:Cx)(Z:Zc)(tm:List (T×V))(f:FB):TT:=λσ H Q=>∃D bV,lB X (Z.ex D) (bV++tm) f σ H Q
noncomputable def cE(X:Cx)(Z:Zc)(tm:List (T×V))(f:FE):TE:=λσ H Q=>∃D bV,lE X (Z.ex D) (bV++tm) f σ H Q
theorem OE{Z:Zc}{tm bV:List (T×V)}{ρ:En}{H1:Hp}{D:Addr}{J:It}{ts:List T}{h:FG}{fc:FB}{fe:FE}{is:qao}{q:Rt->Prop}{Q:VK}(X:Cx)(hK:X.K=K)(I:aw K Z (bV++tm) O ρ σ H1)(hD:H1 D=none)(wk:Wk K J bV ts)(hz:ts.length<=sizeLine)(Vj:∀j∈is,ρ.length<=j)(hw:di h fc fe (ρ++List.replicate n none) ts λus=>q (.fr (.lst us)))(k:∀r,q r->∀v H',aL H1 H'->i4 K Z tm O ρ σ H' r v->Q v H') :
  EM J (cG X Z tm is h) (cB X Z tm fc) (cE X Z tm fe) n σ D (Q (.ref D)) H1:=by
 subst hK;obtain⟨n1,n2,n3⟩:=I.fresh hD;refine⟨λi m acc H2=>m=ts.length-i/\i<=ts.length/\aL H1 H2/\H2 D=some (.lst acc)/\∃us,aB X.K H2 (av (Z.ex D) O) us acc/\acc.length<=i/\aw X.K (Z.ex D) (bV++tm) O ρ σ H2/\di h fc fe (ρ++List.replicate n none) (ts.drop i) λr=>q (.fr (.lst (us++r))),
  ⟨ts.length,by simp,nU _,aQ hD,aY,[],aB.nil,nU _,I.new hD rfl,by simpa using hw⟩,?_⟩
 rintro i m acc H2 ⟨rfl,hi,s2,Vk,us,a2,hl,I2,w2⟩;refine⟨Vk,?_⟩;obtain⟨w1,w2',w3⟩:=wk H2 (av (Z.ex D) O) I2.Q6 (λp hp=>I2.oy p (j5 _ hp)) i;by_cases gq:i<ts.length;refine .inr ⟨w1 gq,by omega,λx H3 y=>?_⟩;have e:ts[i]?=some ts[i]:=by simp[gq]
 obtain⟨s3,a3⟩:=w3 ts[i] e x H3 y;rw[Ro gq] at w2;have I3:=(I2.same s3).longer n (τ:=List.replicate n none) (by simp);have ea:av (Z.ex D) (O++List.replicate n none)=av (Z.ex D) O:=by unfold av;rw[eR]
 refine⟨D,bV,_,_,ts[i],_,I3,by rw[ea];exact a3,w2,λρ4 hρ4 O4 σ4 I4 ro4 eo4 l4 e4=>⟨⟨?_,λj v hj=>?_⟩,D,bV,ρ4,O4,_,I4,hρ4,λb hb H5 s5=>?_⟩⟩;rw[l4];simp;have S8:=(gN.mp hj).1;have:j∉is:=λz=>by have:=Vj j z;have:=I.lσ;omega
 rw[e4 j this,wg S8];exact hj;have S5:=(s2.trans s3).trans s5;have J5:=(I2.same s3).same s5;cases b with
 |true=>
   rw[if_pos rfl] at hb;refine SA ⟨D,bV,ρ4,O4,_,I4.same s5,hb,λu hu y H6 s6 a6=>?_⟩;have Xw:=s6 _ _ (s5 _ _ (s3 _ _ Vk));refine⟨Xw,ts.length-(i+1),by omega,rfl,gq,λb o e=>?_,aY,us++[u],?_,by simp;omega,(J5.same s6).OC Xw rfl n3,?_⟩;rw[aH (bf e hD)];exact s6 _ _ (S5 _ _ e);have Jg:D∈av (Z.ex D) O:=kC _ eE;have a6':At X.K H6 (av (Z.ex D) O) u y:=a6.bB λb hb=>by
    rcases gF.mp hb with z|z
    obtain⟨j,hj⟩:=Ru.mp (aP.mp z);have S8:=(gN.mp hj).1;have nj:j∉is:=λz=>by have:=Vj j z;have:=I.lO;omega
    have:=eo4 j nj;rw[wg S8,hj] at this;exact j5 _ (aP.mpr (mn this));exact kC _ z
   exact aB.wrote Jg Xw rfl ((((a2.same s3).same s5).same s6).append (aB.cons a6' aB.nil));have e2:∀r,(us++[u])++r=us++(u::r):=λr=>by simp
   simp only[e2];exact hu
 |false=>rw[if_neg iV] at hb;exact Sz ⟨ts.length-(i+1),by omega,rfl,gq,S5,s5 _ _ (s3 _ _ Vk),us,(a2.same s3).same s5,by omega,J5,hb⟩
 have e:i=ts.length:=by omega
 subst e;refine .inl ⟨w2' (rfl),?_⟩;rw[RG] at w2;simp only[di,HV] at w2;refine k _ w2 _ H2 s2 ⟨D,rfl,I2.wQ λp hp=>I2.oy p (kC _ hp),⟨acc,Vk,a2⟩,n3,n2⟩
theorem Bg{tm:List (T×V)}{is:qao}{f:FI}{h:FG}{fc:FB}{fe:FE}{Q:VK}(hq:lP X Z tm (wR n is f h fc fe) σ H Q):EN n (lI X Z tm f) (cG X Z tm is h) (cB X Z tm fc) (cE X Z tm fe) σ H Q:=by
 obtain⟨ρ,O,q,I,⟨Vj,hf⟩,k⟩:=hq;refine⟨ρ,O,_,I,hf,λts h_ J H' bV s a wk D hD=>?_⟩;have I':aw X.K Z (bV++tm) O ρ σ H':=(I.same s).wQ λp hp=>by
  rcases gF.mp hp with z|z
  exact a p z;exact (I.same s).oy p z
 refine OE X rfl I' hD wk h_.1 (λj hj=>?_) h_.2 λr hr v H2 s2 z=>k r hr v H2 (s.trans s2) z;have:=gE.mp Vj j hj;exact of_decide_eq_true this
variable{ts:qai}{elt tg:Expr}{ifs:qap}{f:FI}{h:FG}{fc:FB}{fe:FE}{is:qao}
theorem jB(hc:X.calm=true)(hS:i0 X.N ts X.env.scope sc=true)(hi:VI X Z tg iter f)(hg:∀D cl C fp s H,VG (bq X ts sc cl C fp s H) (Z.ex D) tg is h)(ht:∀D cl C fp s H,OD (bq X ts sc cl C fp s H) (Z.ex D) ifs fc)(he:∀D cl C fp s H,VE (bq X ts sc cl C fp s H) (Z.ex D) elt fe)(hs:∀x,foldedSetIterable iter X.env x=pure x:=by intro _;rfl):VP X Z (.ListComp elt [⟨tg,iter,ifs,0⟩] sc pos) (wR ts.length is f h fc fe):=.mk λtm=>
 PE.weak (Jc hc hS (hi tm) (λcl C fp s H pins s' σ H' v u Q I r ⟨D,bV,z⟩=>hg D cl C fp s H (bV++tm) pins s' σ H' v u Q I r z) (λcl C fp s H pins s' σ H' Q I ⟨D,bV,z⟩=>ht D cl C fp s H (bV++tm) pins s' σ H' Q I z)
  (λcl C fp s H pins s' σ H' Q I ⟨D,bV,z⟩=>he D cl C fp s H (bV++tm) pins s' σ H' Q I z) hs) λσ H Q hq=>Bg hq
theorem nX{py pH:Pos}(hN:X.N.Nodup)(hy:X.N[i]?=some y)(hx:Loc X.env.scope y)(hc:X.calm=true)(hS:i0 X.N ts X.env.scope sc=true)(hi:VI X Z tg iter f)(hg:∀D cl C fp s H,VG (bq X ts sc cl C fp s H) (Z.ex D) tg is h)(ht:∀D cl C fp s H,OD (bq X ts sc cl C fp s H) (Z.ex D) ifs fc)(he:∀D cl C fp s H,VE (bq X ts sc cl C fp s H) (Z.ex D) elt fe)(Oc:swapsWith (.ListComp elt [⟨tg,iter,ifs,0⟩] sc pos) (some (.Name y py)) pH.line X.env=pure true)(hs:∀x,foldedSetIterable iter X.env x=pure x)(hf:X.fn y=true\/X.env.scope.names.lookup y=some .local)(tm:List (T×V)) :
  PS X (.Assign [.Name y py] (.ListComp elt [⟨tg,iter,ifs,0⟩] sc pos) pH) (IG (lP X Z tm (wR ts.length is f h fc fe)) (iK i)) :=
 PS.weak (Jd hN hy hx hc hS (hi tm) (λcl C fp s H pins s' σ H' v u Q I r ⟨D,bV,z⟩=>hg D cl C fp s H (bV++tm) pins s' σ H' v u Q I r z) (λcl C fp s H pins s' σ H' Q I ⟨D,bV,z⟩=>ht D cl C fp s H (bV++tm) pins s' σ H' Q I z)
  (λcl C fp s H pins s' σ H' Q I ⟨D,bV,z⟩=>he D cl C fp s H (bV++tm) pins s' σ H' Q I z) Oc hs hf) λD σ H hq=>Bg hq
theorem oY{py pH:Pos}(hN:X.N.Nodup)(hy:X.N[i]?=some y)(hx:Loc X.env.scope y)(hc:X.calm=true)(hS:i0 X.N ts X.env.scope sc=true)(hi:VI X Z tg iter f)(hg:∀D cl C fp s H,VG (bq X ts sc cl C fp s H) (Z.ex D) tg is h)(ht:∀D cl C fp s H,OD (bq X ts sc cl C fp s H) (Z.ex D) ifs fc)(he:∀D cl C fp s H,VE (bq X ts sc cl C fp s H) (Z.ex D) elt fe)(hp:ba Z i)(Oc:swapsWith (.ListComp elt [⟨tg,iter,ifs,0⟩] sc pos) (some (.Name y py)) pH.line X.env=pure true:=by rfl)(hs:∀x,foldedSetIterable iter X.env x=pure x:=by intro _;rfl)(hf:X.fn y=true\/X.env.scope.names.lookup y=some .local:=by first|exact .inl rfl|exact .inr rfl|assumption) :
  VS X Z (.Assign [.Name y py] (.ListComp elt [⟨tg,iter,ifs,0⟩] sc pos) pH) (SY i (fX (wR ts.length is f h fc fe))):=.mk λtm=>
 PS.weak (nX hN hy hx hc hS hi hg ht he Oc hs hf tm) λD σ H ⟨ρ,O,d,I,q,F⟩=>⟨ρ,O,_,I,q,λr hr v H' s z=>F.nx _ _ _ H' (z.env.put hp z.at) hr⟩
theorem Fg{py pH:Pos}(hN:X.N.Nodup)(hy:X.N[i]?=some y)(hx:Loc X.env.scope y)(hc:X.calm=true)(hS:i0 X.N ts X.env.scope sc=true)(hi:VI X Z tg iter f)(hg:∀D cl C fp s H,VG (bq X ts sc cl C fp s H) (Z.ex D) tg is h)(ht:∀D cl C fp s H,OD (bq X ts sc cl C fp s H) (Z.ex D) ifs fc)(he:∀D cl C fp s H,VE (bq X ts sc cl C fp s H) (Z.ex D) elt fe)(hp:ba Z i)(Oc:swapsWith (.ListComp elt [⟨tg,iter,ifs,0⟩] sc pos) (some (.Name y py)) pH.line X.env=pure true:=by rfl)(hs:∀x,foldedSetIterable iter X.env x=pure x:=by intro _;rfl)(hf:X.fn y=true\/X.env.scope.names.lookup y=some .local:=by first|exact .inl rfl|exact .inr rfl|assumption) :
  VS X Z (.Assign [.Name y py] (.ListComp elt [⟨tg,iter,ifs,0⟩] sc pos) pH) (S0 i (fX (wR ts.length is f h fc fe))):=.mk λtm=>
 PS.weak (nX hN hy hx hc hS hi hg ht he Oc hs hf tm) λD σ H ⟨ρ,O,d,I,q,F⟩=>⟨ρ,O,_,I,q,λr hr v H' s z=>by
  cases r with
  |fr t=>obtain⟨a,rfl,J,hR,h0,LZ⟩:=z;exact F.nx _ _ _ H' (J.SN hp hR h0 LZ) hr
  |vw t=>exact (show False from hr).elim⟩
theorem gR{h:FG}{fc:FB}{fe:FE}{ρ:En}{ts:List T}{Q:List T->Prop}(p:T->Bool)(u:T->T)(step:∀t∈ts,∀k:List T->Prop,∀r:List T->Prop,(if p t=true then r [u t] else r [])->h t ρ λρ2=>fc ρ2 λb=>if b=true then fe ρ2 λx=>r [x] else r [])(hq:Q ((ts.filter p).map u)):di h fc fe ρ ts Q:=by
 induction ts generalizing Q with
 |nil=>exact hq
 |cons t ts ih=>
  have st:=step t eE (λ_=>True) (λl=>match l with
   |[x]=>di h fc fe ρ ts λus=>Q (x::us)
   |_=>di h fc fe ρ ts Q)
  have rest:∀{Q':List T->Prop},Q' ((ts.filter p).map u)->di h fc fe ρ ts Q':=λhq=>ih (λt ht=>step t (fY _ ht)) hq;simp only[di];refine st ?_;by_cases hp:p t=true;rw[if_pos hp];refine rest ?_;rw[List.filter_cons_of_pos hp] at hq;exact hq;rw[if_neg hp];refine rest ?_;rw[List.filter_cons_of_neg hp] at hq;exact hq
end
def fG(K:qaf)(H:Hp)(A:qah):List Bool->qah->List T->qak->Prop
 |[],as,ts,vs=>as=[]/\ts=[]/\vs=[]
 |false::fs,as,ts,vs=>∃t kd v kG,ts=t::kd/\vs=v::kG/\At K H A t v/\fG K H A fs as kd kG
 |true::fs,as,ts,vs=>∃a tf t kd kG,as=a::tf/\ts=t::kd/\vs=.ref a::kG/\cX K H A a t/\fG K H A fs tf kd kG
def S9(K:qaf)(H:Hp)(as Ox:qah)(H':Hp)(us:List T):Rt->V->Prop
 |.vw t,v=>At K H' (as++Ox) t v/\Paired (λa u=>cX K H' (as++Ox) a u) as us
 |.fr t,v=>∃b,v=.ref b/\H b=none/\b∉as/\cX K H' (b::(as++Ox)) b t/\Paired (λa u=>cX K H' (b::(as++Ox)) a u) as us
abbrev GT:=List T->(List T->Rt->Prop)->Prop
def wU(K:qaf)(fs:List Bool)(G:GT):Sp:=λvs H Q _=>∃ts as Ox q,as.Nodup/\(∀a∈as,a∉Ox)/\(∀a∈Ox,H a≠none)/\fG K H (as++Ox) fs as ts vs/\G ts q /\
 ∀us r,q us r->∀v H',(∀b o,H b=some o->b∉as->H' b=some o)->S9 K H as Ox H' us r v->Q v H'
noncomputable def ro:List Bool->qah->HD
 |[],_=>[]
 |false::fs,as=>none::ro fs as
 |true::fs,a::as=>some a::ro fs as
 |true::fs,[]=>none::ro fs []
noncomputable def pz:List Bool->qah->Nat->List (Nat×Addr)
 |[],_,_=>[]
 |false::fs,as,k=>pz fs as (k+1)
 |true::fs,a::as,k=>(k,a)::pz fs as (k+1)
 |true::fs,[],k=>pz fs [] (k+1)
noncomputable def uP:List Bool->List T->En
 |f::fs,t::ts=>some (t,f)::uP fs ts
 |_,_=>[]
noncomputable def mQ:List Bool->En->List T
 |[],_=>[]
 |false::fs,ρ=>mQ fs ρ.tail
 |true::fs,some (t,_)::ρ=>t::mQ fs ρ
 |true::fs,ρ=>.bR::mQ fs ρ.tail
section
variable{A:qah}
theorem f6:∀{fs:List Bool}{as:qah}{ts:List T}{vs:qak},fG K H A fs as ts vs->ts.length=fs.length/\vs.length=fs.length/\(ro fs as).length=fs.length/\(uP fs ts).length=fs.length/\roots (ro fs as)=as
 |[],as,ts,vs,h=>by obtain⟨rfl,rfl,rfl⟩:=h;exact⟨rfl,rfl,rfl,rfl,rfl⟩
 |false::fs,as,ts,vs,h=>by obtain⟨t,kd,v,kG,rfl,rfl,_,h⟩:=h;obtain⟨h1,h2,h3,h4,h5⟩:=f6 h;exact⟨by simp[h1],by simp[h2],by simp[ro,h3],by simp[uP,h4],by simpa[ro,roots] using h5⟩
 |true::fs,as,ts,vs,h=>by obtain⟨a,tf,t,kd,kG,rfl,rfl,rfl,_,h⟩:=h;obtain⟨h1,h2,h3,h4,h5⟩:=f6 h;refine⟨by simp[h1],by simp[h2],by simp[ro,h3],by simp[uP,h4],?_⟩;simp only[ro,roots,om,id] at h5 ⊢;rw[h5]
theorem pR:∀{fs:List Bool}{as:qah}{ts:List T}{vs:qak},fG K H A fs as ts vs->∀(i:Nat) e,(uP fs ts)[i]?=some e->∃o s,(ro fs as)[i]?=some o/\(vs.map some)[i]?=some s/\pK K H A e o s
 |[],as,ts,vs,h,i,e,he=>by simp[uP] at he
 |false::fs,as,ts,vs,h,i,e,he=>by
  obtain⟨t,kd,v,kG,rfl,rfl,a,h⟩:=h;cases i with
  |zero=>simp only[uP,Rp,Option.some.injEq] at he;subst he;exact⟨none,some v,rfl,rfl,rfl,v,rfl,a⟩
  |succ i=>exact pR h i e (by simpa[uP] using he)
 |true::fs,as,ts,vs,h,i,e,he=>by
  obtain⟨a,tf,t,kd,kG,rfl,rfl,rfl,r,h⟩:=h;cases i with
  |zero=>simp only[uP,Rp,Option.some.injEq] at he;subst he;exact⟨some a,some (.ref a),rfl,rfl,a,rfl,rfl,r⟩
  |succ i=>exact pR h i e (by simpa[uP] using he)
theorem mT:∀{fs:List Bool}{as:qah}{ts:List T}{vs:qak},fG K H A fs as ts vs->∀a∈as,∃t,cX K H A a t
 |[],as,ts,vs,h,a,ha=>by obtain⟨rfl,rfl,rfl⟩:=h;cases ha
 |false::fs,as,ts,vs,h,a,ha=>by obtain⟨t,kd,v,kG,rfl,rfl,_,h⟩:=h;exact mT h a ha
 |true::fs,as,ts,vs,h,a,ha=>by
  obtain⟨b,tf,t,kd,kG,rfl,rfl,rfl,r,h⟩:=h;rcases bL.mp ha with z|z
  subst z;exact⟨t,r⟩;exact mT h a z
theorem Fh:∀{fs:List Bool}{as:qah}{ts:List T}{vs:qak}(k:Nat),fG K H A fs as ts vs->(pz fs as k).map (·.2)=as/\∀p∈pz fs as k,k<=p.1/\(ro fs as)[p.1-k]?=some (some p.2)
 |[],as,ts,vs,k,h=>by obtain⟨rfl,rfl,rfl⟩:=h;exact⟨rfl,λ_ z=>nomatch z⟩
 |false::fs,as,ts,vs,k,h=>by
  obtain⟨t,kd,v,kG,rfl,rfl,_,h⟩:=h;obtain⟨h1,h2⟩:=Fh (k+1) h;refine⟨h1,λp hp=>?_⟩;obtain⟨l,e⟩:=h2 p hp;refine⟨by omega,?_⟩;have:p.1-k=(p.1-(k+1))+1:=by omega
  rw[this];simpa[ro] using e
 |true::fs,as,ts,vs,k,h=>by
  obtain⟨a,tf,t,kd,kG,rfl,rfl,rfl,_,h⟩:=h;obtain⟨h1,h2⟩:=Fh (k+1) h;refine⟨by simp[pz,h1],λp hp=>?_⟩;rcases bL.mp hp with z|z
  subst z;exact⟨eB _,by simp[ro]⟩;obtain⟨l,e⟩:=h2 p z;refine⟨by omega,?_⟩;have:p.1-k=(p.1-(k+1))+1:=by omega
  rw[this];simpa[ro] using e
theorem uQ{R:Addr->T->Prop}{ρ:En}:∀{fs:List Bool}{as:qah}{ts:List T}{vs:qak}(k:Nat),fG K H A fs as ts vs->(∀p∈pz fs as k,∃t,ρ[p.1]?=some (some (t,true))/\R p.2 t)->Paired R as (mQ fs (ρ.drop k))
 |[],as,ts,vs,k,h,_=>by obtain⟨rfl,rfl,rfl⟩:=h;exact .nil
 |false::fs,as,ts,vs,k,h,q=>by obtain⟨t,kd,v,kG,rfl,rfl,_,h⟩:=h;have:=uQ (k+1) h q;simp only[mQ,List.tail_drop];exact this
 |true::fs,as,ts,vs,k,h,q=>by
  obtain⟨a,tf,t,kd,kG,rfl,rfl,rfl,_,h⟩:=h;have:=uQ (ρ:=ρ) (k+1) h λp hp=>q p (fY _ hp);obtain⟨u,e,r⟩:=q (k,a) eE;have hk:k<ρ.length:=(gN.mp e).1;have e2:ρ[k]=some (u,true):=by rw[kB hk] at e;exact Option.some.inj e
  rw[Ro hk,e2];exact .cons r this
end
theorem wV{N:qai}{fs:List Bool}{as Ox:qah}{ts:List T}{Q:VK}{q:List T->Rt->Prop}{g:FS}(nd:as.Nodup)(nx:∀a∈as,a∉Ox)(ox:∀a∈Ox,H a≠none)(ha:fG X.K H (as++Ox) fs as ts vs)(kk:∀us r,q us r->∀v H',(∀b o,H b=some o->b∉as->H' b=some o)->S9 X.K H as Ox H' us r v->Q v H')(hq:g {nx:=λρ=>q (mQ fs ρ) (.vw .bR),rt:=λρ r=>q (mQ fs ρ) r} (uP fs ts++List.replicate (N.length-ts.length) none)) :
  lS X ⟨H,pz fs as 0,Ox⟩ [] g {nx:=λ_ H'=>Q .bR H',rt:=Q} (start N vs) H:=by
 obtain⟨K,eK⟩:∃K,K=X.K:=⟨_,rfl⟩;unfold lS;rw[<- eK] at ha kk ⊢;obtain⟨l1,l2,l3,l4,l5⟩:=f6 ha;obtain⟨p1,p2⟩:=Fh 0 ha;have ea:av ⟨H,pz fs as 0,Ox⟩ (ro fs as++List.replicate (N.length-ts.length) none)=as++Ox:=by unfold av;rw[eR,l5]
 have acL:∀H0 P (O:HD),av ⟨H0,P,Ox⟩ O=roots O++Ox:=λ_ _ _=>rfl;have I0:aw K ⟨H,pz fs as 0,Ox⟩ [] (ro fs as++List.replicate (N.length-ts.length) none) (uP fs ts++List.replicate (N.length-ts.length) none) (start N vs) H:=by
  refine⟨?_,?_,λi e he=>?_,by rw[eR,l5];exact nd,λa h=>?_,λp hp=>?_,ox,λb o e _=>e,λp hp=>nomatch hp⟩;unfold L2.start;simp[l2,l4,l1];simp[l3,l4];rw[ea];by_cases hi:i<fs.length;rw[wg (by rw[l4];exact hi)] at he;obtain⟨o,s,h1,h2,h3⟩:=pR ha i e he;refine⟨o,s,by rw[wg (by rw[l3];exact hi)];exact h1,?_,h3⟩;unfold L2.start;rw[wg (by rw[bQ,l2];exact hi)];exact h2;rw[List.getElem?_append_right (by omega),M9] at he;split at he
  rename_i hl
  cases he;refine⟨none,none,?_,?_,rfl⟩;rw[AL (by omega),M9,if_pos (by rw[l3];rw[l4] at hl;exact hl)];unfold L2.start;rw[AL (by rw[bQ];omega),M9,bQ,if_pos (by rw[l2];rw[l4,l1] at hl;exact hl)];cases he;rw[eR,l5] at h;obtain⟨t,r⟩:=mT ha a h;exact⟨.inl (by show a∈(pz fs as 0).map (·.2);rw[p1];exact h),nx a h,r.mut⟩;obtain⟨_,e⟩:=p2 p hp;rw[Nat.sub_zero] at e;rw[wg (gN.mp e).1];exact e
 have fin:∀{O:HD}{ρ:En}{σ:St}{H':Hp}{Z':Zc},Z'.P=pz fs as 0->aw K Z' [] O ρ σ H'->Paired (λa u=>cX K H' (av Z' O) a u) as (mQ fs ρ):=λ{O ρ σ H' Z'} eP I=>by
  have:=uQ (ρ:=ρ) (R:=λa u=>cX K H' (av Z' O) a u) 0 ha λp hp=>?_;rw[List.drop_zero] at this;exact this;have e:=I.par p (by rw[eP];exact hp);have hl:=(gN.mp e).1;have Wn:p.1<ρ.length:=by rw[<- I.lO];exact hl
  obtain⟨o,s',h1,h2,h3⟩:=I.sl p.1 ρ[p.1] (by simp);rw[e] at h1;cases h1;cases q:ρ[p.1] with
  |none=>rw[q] at h3;cases h3
  |some tb=>
    obtain⟨t,b⟩:=tb;rw[q] at h3;cases b with
    |false=>cases h3.1
    |true=>obtain⟨a',e1,_,r⟩:=h3;cases e1;exact⟨t,by rw[<- q];simp,r⟩
 have keep:∀{O:HD}{ρ:En}{σ:St}{H':Hp}{Z':Zc},Z'.H0=H->Z'.P=pz fs as 0->aw K Z' [] O ρ σ H'->∀b o,H b=some o->b∉as->H' b=some o:=λe0 eP I b o e n=>I.keep b o (by rw[e0];exact e) (by rw[eP,p1];exact n);have sub:∀{O:HD}{ρ:En}{σ:St}{H':Hp}{Z':Zc},Z'.P=pz fs as 0->aw K Z' [] O ρ σ H'->∀a∈as,a∈roots O:=λeP I a h=>by
  have:a∈(pz fs as 0).map (·.2):=by rw[p1];exact h
  obtain⟨p,hp,rfl⟩:=iS.mp this;exact aP.mpr (mn (I.par p (by rw[eP];exact hp)))
 refine⟨_,_,_,I0,hq,⟨λO ρ σ H' I h=>?_,λO ρ σ H' r v z h=>?_,λ_ _ _ _ _ h=>h.elim,λ_ _ _ _ _ h=>h.elim⟩⟩;have sb:∀a∈as++Ox,a∈av ⟨H,pz fs as 0,Ox⟩ O:=λa h=>by
  rcases gF.mp h with h|h
  exact j5 _ (sub rfl I a h);exact kC _ h
 exact kk _ _ h .bR H' (keep rfl rfl I) ⟨mJ,Paired.pj (fin rfl I) λ_ _ q=>q.bB sb⟩;cases r with
 |vw t=>
   obtain⟨I,a⟩:=z;have sb:∀a∈as++Ox,a∈av ⟨H,pz fs as 0,Ox⟩ O:=λa h=>by
    rcases gF.mp h with h|h
    exact j5 _ (sub rfl I a h);exact kC _ h
   exact kk _ _ h v H' (keep rfl rfl I) ⟨a.bB sb,Paired.pj (fin rfl I) λ_ _ q=>q.bB sb⟩
 |fr t=>
   obtain⟨b,rfl,I,hR,h0,hx⟩:=z;have sb:∀a∈b::(as++Ox),a∈av (Zc.ex ⟨H,pz fs as 0,Ox⟩ b) O:=λa h=>by
    rcases bL.mp h with h|h
    rw[h];exact kC _ eE;rcases gF.mp h with h|h
    exact j5 _ (sub rfl I a h);exact kC _ (fY _ h)
   exact kk _ _ h (.ref b) H' (keep rfl rfl I) ⟨b,rfl,h0,λhb=>(I.own b (sub rfl I b hb)).2.1 eE,hR.bB sb,Paired.pj (fin rfl I) λ_ _ q=>q.bB sb⟩
section
theorem Xx{N:qai}{k:Nat}{fs:List Bool}{G:GT}(F:Ic K x qual st f fd)(S:aJ N ps (ak st))(Xy:fs.length=ps.length)(kQ:∀(bS:Value) (A:Around) (outer:List Env) (s:Shared) (H:Hp) (E:XK) (as Ox:qah),bM k (A.deeper (envOfC qual (ak st) s.heap.objs.size f bS))->∀ts q,ts.length=fs.length->G ts q ->
    ∃g,i7 (fE kU P w K mg base N qual (ak st) f bS A outer s H E).wo ⟨H,pz fs as 0,Ox⟩ (cK st) g/\g {nx:=λρ=>q (mQ fs ρ) (.vw .bR),rt:=λρ r=>q (mQ fs ρ) r} (uP fs ts++List.replicate (N.length-ts.length) none)) :
  eM P w K mg base kU (k+1) f fd ps (wU K fs G):=by
 refine F.ok S (λvs H Q E h=>?_) (λbS A outer s H vs Q E hr h=>?_);obtain⟨ts,as,Ox,q,_,_,_,ha,_⟩:=h;rw[<- Xy];exact (f6 ha).2.1;obtain⟨ts,as,Ox,q,nd,nx,ox,ha,hG,kk⟩:=h;have l1:=(f6 ha).1;obtain⟨g,hg,hq⟩:=kQ bS A outer s H E as Ox hr ts q l1 hG;exact⟨_,hg [],wV nd nx ox ha kk hq⟩
end
def cy(K:qaf)(n:Nat)(G:List T->(Rt->Prop)->Prop):Sp:=wU K (List.replicate n false) λts q=>G ts (q [])
section
variable{A:qah}
theorem eS:∀{n:Nat}{ts:List T}{vs:qak},ts.length=n->aB K H A ts vs->fG K H A (List.replicate n false) [] ts vs
 |0,ts,vs,l,h=>by have e:ts=[]:=UQ.mp l;subst e;simp only[aB] at h;exact⟨rfl,rfl,h⟩
 |n+1,ts,vs,l,h=>by
  cases ts with
  |nil=>simp at l
  |cons t ts=>simp only[aB] at h;obtain⟨v,r,rfl,h1,h2⟩:=h;exact⟨t,ts,v,r,rfl,rfl,h1,eS (by simpa using l) h2⟩
end
theorem aw.Mc{Z:Zc}{tm:List (T×V)}{ρ:En}(I:aw K Z tm O ρ σ H)(h:H a=none)(s:aL H H'){u:HO}(hu:H' a=some u):aw K (Z.ex a) tm O ρ σ H':=by
 have J:=I.same s;obtain⟨n1,n2,n3⟩:=I.fresh h;have mr:∀b∈av (Z.ex a) O,b∈av Z O\/H b=none:=λb hb=>(dF b hb).imp id λe=>by rw[e];exact h
 have fw:∀{t:T}{v:V},At K H (av Z O) t v->At K H' (av (Z.ex a) O) t v:=λq=>(q.more mr).same s;refine⟨J.lσ,J.lO,λi e hi=>?_,J.nd,λb hb=>?_,J.par,λb hb=>?_,J.keep,λp hp=>fw (I.oy p hp)⟩;obtain⟨o,w,h1,h2,h3⟩:=I.sl i e hi;refine⟨o,w,h1,h2,h3.map (λ_ _ q=>fw q) λb t eo q=>?_⟩;exact cX.same (q.map rfl λ_ _ z=>z.more mr) s;obtain⟨q1,q2,q3⟩:=J.own b hb;refine⟨q1,λz=>?_,q3⟩;rcases bL.mp z with z|z
 exact n1 (by rw[<- z];exact j5 _ hb);exact q2 z;rcases bL.mp hb with z|z
 rw[z,hu];simp;exact J.ox b z
def Fi(n:Nat)(g:FA)(G:List T->(Rt->Prop)->Prop):FP:=λρ Q=>g ρ λts=>ts.length=n/\G ts Q
noncomputable def OF:Rt->Bool
 |.vw t=>yJ t
 |.fr (.lst ts)=>ET ts
 |_=>false
noncomputable def OG(n:Nat)(g:FA)(G:List T->(Rt->Prop)->Prop):FP:=λρ Q=>g ρ λts=>ts.length=n/\G ts λr=>OF r=true/\Q r
section
variable{Z:Zc}{k:Nat}{G:List T->(Rt->Prop)->Prop}{g:FA}
theorem gx{tm:List (T×V)}{ρ:En}{ts:List T}{q:Rt->Prop}{Q:VK}(I:aw X.K Z tm O ρ σ H)(a:aB X.K H (av Z O) ts vs)(hn:ts.length=n)(hG:G ts q)(k:∀r,q r->∀v H',aL H H'->i4 X.K Z tm O ρ σ H' r v->Q v H'):cy X.K n G (vs++[]) H Q E0:=by
 rw[HV];refine⟨ts,[],av Z O,λ_ r=>q r,QX,λ_ z=>absurd z cq,I.Q6,eS hn a,hG,λus r hr v H' fr z=>?_⟩;have s:aL H H':=λb o e=>fr b o e cq;cases r with
 |vw t=>exact k _ hr v H' s ⟨I.same s,z.1⟩
 |fr t=>
  obtain⟨b,rfl,hb,_,hR,_⟩:=z;obtain⟨n1,n2,n3⟩:=I.fresh hb;obtain⟨u,eu,_⟩:=hR.mut;refine k _ hr _ H' s ⟨b,rfl,I.Mc hb s eu,hR.bB λc hc=>?_,n3,n2⟩;rcases dF c hc with z|z
  exact fY _ z;rw[z];exact eE
theorem bu(F:eM X.prog X.w X.K X.mg X.base kU k f fd ps (cy X.K n G))(hr:bM k X.A)(hg:Gl X x)(hm:X.mg x=some (.ref f))(hk:PySem.W.keepIn X.K (.ref f)=true)(hb:Binds X.K fd ps [])(ha:VA X Z (e::es) g)(kP:fW x:=by decide)(he:starEach (e::es) X.env=(false,eval e X.env)::starEach es X.env:=by rfl)(fz:(backTo pos (starEach es X.env)).any (·.1)=false:=by rfl) :
  VP X Z (.Call (.Name x p) (e::es) [] pos) (Fi n g G):=.mk λtm=>PE.weak (kO F hr hg hm hk hb .nil A8 (ha tm) kP he fz) λσ H Q ⟨ρ,O,q,I,hf,k⟩ =>
 ⟨ρ,O,_,I,hf,λts h_ vs H1 s1 a1=>gx (I.same s1) a1 h_.1 h_.2 λr hr v H' s z=>k r hr v H' (s1.trans s) z⟩
theorem Fj(F:eM X.prog X.w X.K X.mg X.base kU k f fd ps (cy X.K n G))(hr:bM k X.A)(hg:Gl X x)(hm:X.mg x=some (.ref f))(hk:PySem.W.keepIn X.K (.ref f)=true)(hb:Binds X.K fd ps [])(ha:EU X Z (e::es) g)(kP:fW x:=by decide)(he:starEach (e::es) X.env=(false,eval e X.env)::starEach es X.env:=by rfl)(fz:(backTo pos (starEach es X.env)).any (·.1)=false:=by rfl) :
  VP X Z (.Call (.Name x p) (e::es) [] pos) (OG n g G):=.mk λtm=>PE.weak (kO F hr hg hm hk hb .nil A8 (ha tm) kP he fz) λσ H Q ⟨ρ,O,q,I,hf,k⟩ =>
 ⟨ρ,O,_,I,hf,λts h_ vs H1 s1 a1=>by
   show cy X.K n G (vs++[]) H1 Q E0;rw[HV];have J:=I.same s1;have a2:aB X.K H1 [] ts vs:=aB.iff.mpr (Paired.pj a1 λ_ _ z=>z.bare);refine⟨ts,[],[],λ_ r=>OF r=true/\q r,QX,λ_ z=>absurd z cq,λ_ z=>absurd z cq,eS h_.1 a2,h_.2,λus r ⟨hi,hr⟩ v H' fr z=>?_⟩;have s:aL H1 H':=λb o e=>fr b o e cq;cases r with
   |vw t=>exact k _ hr v H' (s1.trans s) ⟨J.same s,At.yJ hi z.1⟩
   |fr t=>
     obtain⟨b,rfl,hb,_,hR,_⟩:=z;obtain⟨n1,n2,n3⟩:=J.fresh hb;obtain⟨u,eu,_⟩:=hR.mut;cases t with
     |lst ts=>obtain⟨ws,e1,e2⟩:=hR;exact k _ hr _ H' (s1.trans s) ⟨b,rfl,J.Mc hb s eu,⟨ws,e1,aB.yJ hi e2⟩,n3,n2⟩
     |_=>exact absurd hi (by simp[OF])⟩
end
def AM(K:qaf)(H:Hp)(A:qah)(O:HD)(ρ:En):List (Option Nat)->List T->qak->Prop
 |[],ts,vs=>ts=[]/\vs=[]
 |none::ms,ts,vs=>∃t kd v kG,ts=t::kd/\vs=v::kG/\At K H A t v/\AM K H A O ρ ms kd kG
 |some k::ms,ts,vs=>∃a t kd kG,ts=t::kd/\vs=.ref a::kG/\ρ[k]?=some (some (t,true))/\O[k]?=some (some a)/\AM K H A O ρ ms kd kG
noncomputable def Zy(X:Cx)(Z:Zc)(tm:List (T×V))(ms:List (Option Nat))(f:FA):TA:=λσ H Q=>∃ρ O q,aw X.K Z tm O ρ σ H/\f ρ q/\∀ts,q ts->∀vs H',aL H H'->AM X.K H' (av Z O) O ρ ms ts vs->Q vs H'
def OH(X:Cx)(Z:Zc)(es:qap)(ms:List (Option Nat))(f:FA):Prop:=Bx λtm=>PA X es (Zy X Z tm ms f)
instance{X:Cx}{Z:Zc}{es:qap}{ms:List (Option Nat)}{f:FA}:CoeFun (OH X Z es ms f) λ_=>∀tm,PA X es (Zy X Z tm ms f):=⟨λh=>Bx.h h⟩
def Fl(i:Nat):FE:=λρ Q=>match ρ[i]? with
 |some (some (t,true))=>Q t
 |_=>False
section
variable{Z:Zc}{g:FA}
theorem Bh:OH X Z [] [] E3:=.mk λtm=>PA.weak cF λσ H Q ⟨ρ,O,q,I,hf,k⟩=>k _ hf [] H (aL.refl H) ⟨rfl,rfl⟩
theorem k8{ms:List (Option Nat)}{f:FE}(h:VE X Z e f)(h':OH X Z es ms g)(hs:starEach (e::es) X.env=(false,eval e X.env)::starEach es X.env:=by rfl):OH X Z (e::es) (none::ms) (wK f g) :=
 .mk λtm=>PA.weak (bj (h tm) (h' tm) hs) λσ H Q ⟨ρ,O,q,I,hf,k⟩=>⟨ρ,O,_,I,hf,λt ht v H1 s1 a1=>⟨ρ,O,_,I.same s1,ht,λts h_ vs H2 s2 a2=>k _ h_ _ H2 (s1.trans s2) ⟨t,ts,v,vs,rfl,rfl,a1.same s2,a2⟩⟩⟩
theorem uR(j:Nat){ms:List (Option Nat)}{py:Pos}(h':OH X Z es ms g)(hN:X.N[j]?=some y:=by rfl)(hv:pk X.env.scope y:=by first|exact Or.inl rfl|exact Or.inr (Or.inl rfl)|exact Or.inr (Or.inr rfl))(hd:fW y:=by decide)(gM:sN y:=by decide)(hs:starEach (.Name y py::es) X.env=(false,eval (.Name y py) X.env)::starEach es X.env:=by rfl):OH X Z (.Name y py::es) (some j::ms) (wK (Fl j) g) :=
 .mk λtm=>PA.weak (bj (dQ hN hv hd gM) (h' tm) hs) λσ H Q ⟨ρ,O,q,I,hf,k⟩=>by
  have Vl:Fl j ρ λt=>g ρ λts=>q (t::ts):=hf;unfold Fl at Vl;split at Vl
  rename_i t e0
  obtain⟨a,h1,h2,h3⟩:=I.root e0;exact⟨.ref a,h2,ρ,O,_,I,Vl,λts h_ vs H2 s2 a2=>k _ h_ _ H2 s2 ⟨a,t,ts,vs,rfl,rfl,e0,h1,a2⟩⟩;exact Vl.elim
end
noncomputable def putK:qao->List T->En->En
 |k::ks,u::us,ρ=>putK ks us (ρ.set k (some (u,true)))
 |_,_,ρ=>ρ
theorem pS:∀(ks:qao)(us:List T)(ρ:En),(putK ks us ρ).length=ρ.length
 |[],_,_=>rfl
 |_::_,[],_=>rfl
 |k::ks,u::us,ρ=>by rw[putK,pS];simp
theorem wW:∀{ks:qao}{us:List T}{ρ:En}{i:Nat}{e:Option (T×Bool)},ks.Nodup->ks.length=us.length->(putK ks us ρ)[i]?=some e->(i∉ks/\ρ[i]?=some e)\/∃(j:Nat)(u:T),ks[j]?=some i/\us[j]?=some u/\e=some (u,true)
 |[],us,ρ,i,e,_,_,h=>.inl ⟨cq,h⟩
 |k::ks,[],ρ,i,e,_,l,h=>by simp at l
 |k::ks,u::us,ρ,i,e,nd,l,h=>by
  rw[sO] at nd;rcases wW nd.2 (by simpa using l) (show (putK ks us (ρ.set k (some (u,true))))[i]?=some e from h) with⟨h1,h2⟩|⟨j,u',h1,h2,h3⟩
  rcases get_set h2 with⟨rfl,rfl,_⟩|⟨ne,h2⟩
  exact .inr ⟨0,u,rfl,rfl,rfl⟩;exact .inl ⟨λz=>by rcases bL.mp z with z|z;exact ne z;exact h1 z,h2⟩;exact .inr ⟨j+1,u',by simpa using h1,by simpa using h2,h3⟩
section
variable{A:qah}
theorem At.OI{as:qah}{t:T}(fr:∀b o,H b=some o->b∉as->H' b=some o)(sub:∀a∈as,a∈A)(mu:∀a∈as,∃u,H a=some u/\wI u=true)(h:At K H A t v):At K H' A t v:=by
 refine At.map (λb vs q=>?_) (λb vs q=>?_) (λb bE q=>?_) h;obtain q|q:=q
 refine .inl ⟨?_,q.2⟩;have nb:b∉as:=λz=>q.2 (sub b z);obtain z|⟨o',z⟩:=q.1
 exact .inl (fr _ _ z nb);exact .inr ⟨o',fr _ _ z nb⟩;exact .inr q;obtain z|z:=q
 refine .inl ?_;have nb:b∉as:=λm=>by
  obtain⟨u,eu,mu⟩:=mu b m;obtain z|⟨o',z⟩:=z
  rw[z] at eu;cases eu;cases mu;rw[z] at eu;cases eu;cases mu
 obtain z|⟨o',z⟩:=z
 exact .inl (fr _ _ z nb);exact .inr ⟨o',fr _ _ z nb⟩;exact .inr z;exact⟨fr _ _ q.1 λz=>q.2 (sub b z),q.2⟩
theorem AM.args{A':qah}{O:HD}{ρ:En}(sub:∀a∈A',a∈A)(hr:∀(k:Nat) t,ρ[k]?=some (some (t,true))->∃a,O[k]?=some (some a)/\cX K H A a t):∀{ms:List (Option Nat)}{ts:List T}{vs:qak},AM K H A O ρ ms ts vs ->
  ∃as,fG K H A' (ms.map Option.isSome) as ts vs/\Paired (λa k=>O[k]?=some (some a)) as (ms.filterMap id)
 |[],ts,vs,h=>⟨[],⟨rfl,h.1,h.2⟩,.nil⟩
 |none::ms,ts,vs,h=>by obtain⟨t,kd,v,kG,rfl,rfl,a,h⟩:=h;obtain⟨as,h1,h2⟩:=AM.args sub hr h;exact⟨as,⟨t,kd,v,kG,rfl,rfl,a.bB sub,h1⟩,h2⟩
 |some k::ms,ts,vs,h=>by obtain⟨a,t,kd,kG,rfl,rfl,e0,e1,h⟩:=h;obtain⟨as,h1,h2⟩:=AM.args sub hr h;obtain⟨a',e2,r⟩:=hr k t e0;rw[e1] at e2;cases e2;exact⟨a::as,⟨a,as,t,kd,kG,rfl,rfl,rfl,r.bB sub,h1⟩,.cons e1 h2⟩
end
noncomputable def OJ(ms:List (Option Nat))(g:FA)(G:GT):FX:=λρ Q=>g ρ λts=>G ts λus r=>Q (putK (ms.filterMap id) us ρ) r
section
variable{Z:Zc}{k:Nat}{fs:List Bool}{G:GT}{g:FA}{ms:List (Option Nat)}
theorem Md{tm:List (T×V)}{ρ:En}(I:aw K Z tm O ρ σ H)(h1:O[i]?=some (some a))(h2:O[j]?=some (some a)):i=j:=by
 have key:∀(O:HD)(i j:Nat),i<j->O[i]?=some (some a)->O[j]?=some (some a)->(roots O).Nodup->False:=by
  intro O;induction O with
  |nil=>intro i j _ h;simp at h
  |cons o O ih=>
   intro i j Oe e1 e2 nd;cases j with
   |zero=>omega
   |succ j=>
    have Ie:O[j]?=some (some a):=by simpa using e2
    cases i with
    |zero=>
     have:o=some a:=by simpa using e1
     subst this;simp only[roots,om,id] at nd;exact (sO.mp nd).1 (aP.mpr (mn Ie))
    |succ i=>
     refine ih i j (by omega) (by simpa using e1) Ie ?_;cases o with
     |none=>simpa[roots] using nd
     |some b=>simp only[roots,om,id] at nd;exact (sO.mp nd).2
 rcases Nat.lt_trichotomy i j with l|l|l
 exact (key O i j l h1 h2 I.nd).elim;exact l;exact (key O j i l h2 h1 I.nd).elim
theorem f7{α β:Type}{F:α->β->Prop}:∀{l₁:List α}{l₂:List β}{a:α},Paired F l₁ l₂->a∈l₁->∃b∈l₂,F a b
 |_,_,_,.nil,h=>nomatch h
 |_,_,a,.cons r t,h=>by
  rcases bL.mp h with z|z
  subst z;exact⟨_,eE,r⟩;obtain⟨b,h1,h2⟩:=f7 t z;exact⟨b,fY _ h1,h2⟩
theorem pT{α β:Type}{F:α->β->Prop}:∀{l₁:List α}{l₂:List β}{i:Nat}{b:β},Paired F l₁ l₂->l₂[i]?=some b->∃a,l₁[i]?=some a/\F a b
 |_,_,_,_,.nil,e=>by simp at e
 |_,_,0,_,.cons r _,e=>by simp at e;subst e;exact⟨_,rfl,r⟩
 |_,_,i+1,b,.cons _ t,e=>by obtain⟨a,h1,h2⟩:=pT (i:=i) (b:=b) t (by simpa using e);exact⟨a,by simpa using h1,h2⟩
theorem i8{α β:Type}{F:α->β->Prop}:∀{l₁:List α}{l₂:List β}{i:Nat}{a:α},Paired F l₁ l₂->l₁[i]?=some a->∃b,l₂[i]?=some b/\F a b
 |_,_,_,_,.nil,e=>by simp at e
 |_,_,0,_,.cons r _,e=>by simp at e;subst e;exact⟨_,rfl,r⟩
 |_,_,i+1,b,.cons _ t,e=>by obtain⟨a,h1,h2⟩:=i8 (i:=i) (a:=b) t (by simpa using e);exact⟨a,by simpa using h1,h2⟩
theorem aw.called{Z':Zc}{tm:List (T×V)}{ρ:En}{as:qah}{ks:qao}{us:List T}(I:aw K Z tm O ρ σ H)(hk:Paired (λa k=>O[k]?=some (some a)) as ks)(nk:ks.Nodup)(fr:∀b o,H b=some o->b∉as->H' b=some o)(hu:Paired (λa u=>cX K H' (av Z' O) a u) as us)(hZ:Z'.H0=Z.H0)(hP:Z'.P=Z.P)(Zz:∀a∈Z'.Ox,a∉roots O/\H' a≠none)(more:∀a∈av Z' O,a∈av Z O\/H a=none):aw K Z' tm O (putK ks us ρ) σ H':=by
 have zi:∀a∈as,a∈roots O:=λa h=>by obtain⟨k,_,e⟩:=f7 hk h;exact aP.mpr (mn e)
 have sub:∀a∈as,a∈av Z O:=λa h=>j5 _ (zi a h);have Xz:∀a∈as,a∈av Z' O:=λa h=>j5 _ (zi a h);have mu:∀a∈as,∃u,H a=some u/\wI u=true:=λa h=>(I.own a (zi a h)).2.2;have fw:∀{t:T}{v:V},At K H (av Z O) t v->At K H' (av Z' O) t v:=λq=>(q.more more).OI fr Xz mu;have fwL:∀{t:List T}{v:qak},aB K H (av Z O) t v->aB K H' (av Z' O) t v:=λq=>aB.iff.mpr (Paired.pj (aB.iff.mp q) λ_ _ z=>fw z);refine⟨by rw[pS];exact I.lσ,by rw[pS];exact I.lO,λi e h=>?_,I.nd,λb hb=>?_,by rw[hP];exact I.par,λa ha=>(Zz a ha).2,λb o e n=>?_,λp hp=>fw (I.oy p hp)⟩;rcases wW nk (by rw[<- Paired.length hk,Paired.length hu]) h with⟨h1,h2⟩|⟨j,u,h1,h2,rfl⟩
 obtain⟨o,s,g1,g2,g3⟩:=I.sl i e h2;refine⟨o,s,g1,g2,g3.map (λ_ _ q=>fw q) λb t eo q=>?_⟩;subst eo;have nb:b∉as:=λm=>by obtain⟨k,OK,Jx⟩:=f7 hk m;exact h1 (by rw[Md I g1 Jx];exact OK)
 obtain⟨u,eu,_⟩:=q.mut;exact q.map (by rw[eu];exact fr _ _ eu nb) λ_ _ z=>fwL z;obtain⟨a,ha,r⟩:=pT hu h2;obtain⟨k,OK,Jx⟩:=i8 hk ha;rw[h1] at OK;cases OK;have hl:i<ρ.length:=by rw[<- I.lO];exact (gN.mp Jx).1
 obtain⟨o,s,g1,g2,g3⟩:=I.sl i ρ[i] (by simp);rw[Jx] at g1;cases g1;refine⟨some a,s,Jx,g2,a,rfl,?_,r⟩;cases q:ρ[i] with
 |none=>rw[q] at g3;cases g3
 |some tb=>
  obtain⟨t,b⟩:=tb;rw[q] at g3;cases b with
  |false=>cases g3.1
  |true=>obtain⟨a',e1,e2,_⟩:=g3;cases e1;exact e2
 obtain⟨q1,q2,v,e,m⟩:=I.own b hb;refine⟨by rw[hZ,hP];exact q1,λz=>(Zz b z).1 hb,?_⟩;by_cases ZA:b∈as;obtain⟨j,hj⟩:=Ru.mp ZA;obtain⟨u,_,r⟩:=i8 hu hj;exact r.mut;exact⟨v,fr _ _ e ZA,m⟩;rw[hZ] at e;rw[hP] at n;refine fr _ _ (I.keep b o e n) λm=>?_;rcases (I.own b (zi b m)).1 with z|z
 exact n z;rw[z] at e;cases e
theorem wX(F:eM X.prog X.w X.K X.mg X.base kU k f fd ps (wU X.K fs G))(hr:bM k X.A)(hg:Gl X x)(hm:X.mg x=some (.ref f))(hk:PySem.W.keepIn X.K (.ref f)=true)(hb:Binds X.K fd ps [])(ha:OH X Z (e::es) ms g)(Xy:ms.map Option.isSome=fs:=by rfl)(OL:(ms.filterMap id).Nodup:=by decide)(kP:fW x:=by decide)(he:starEach (e::es) X.env=(false,eval e X.env)::starEach es X.env:=by rfl)(fz:(backTo pos (starEach es X.env)).any (·.1)=false:=by rfl) :
  VX X Z (.Call (.Name x p) (e::es) [] pos) (OJ ms g G):=.mk λtm=>PE.weak (kO F hr hg hm hk hb .nil A8 (ha tm) kP he fz) λσ H Q ⟨ρ,O,q,I,hf,k⟩ =>
 ⟨ρ,O,_,I,hf,λts h_ vs H1 s1 a1=>by
   subst Xy;show wU X.K _ G (vs++[]) H1 Q E0;rw[HV];have J:=I.same s1;obtain⟨as,h1,h2⟩:=AM.args (A':=av Z O) (λ_ z=>z) (λk t e=>by obtain⟨a,q1,q2,q3⟩:=J.root e;exact⟨a,q1,q3⟩) a1;have zi:∀a∈as,a∈roots O:=λa h=>by obtain⟨k,_,e⟩:=f7 h2 h;exact aP.mpr (mn e)
   have ndA:as.Nodup:=by
    clear h1;have:∀{as:qah}{ks:qao},ks.Nodup->Paired (λa k=>O[k]?=some (some a)) as ks->as.Nodup:=by
     intro as ks nd h;induction h with
     |nil=>exact QX
     |cons r t ih=>rw[sO] at nd ⊢;refine⟨λm=>?_,ih nd.2⟩;obtain⟨k',m1,m2⟩:=f7 t m;exact nd.1 (by rw[Md J r m2];exact m1)
    exact this OL h2
   have Vm:∀b,b∈as++(av Z O).filter (λb=>decide (b∉as))↔b∈av Z O:=λb=>by rw[gF,Nd];constructor;rintro (z|z);exact j5 _ (zi b z);exact z.1;intro z;by_cases hb:b∈as;exact .inl hb;exact .inr ⟨z,decide_eq_true hb⟩
   obtain⟨tf,OM,Fm⟩:=AM.args (A':=as++(av Z O).filter (λb=>decide (b∉as))) (λb z=>(Vm b).mp z) (λk t e=>by obtain⟨a,q1,q2,q3⟩:=J.root e;exact⟨a,q1,q3⟩) a1;have ee:tf=as:=by
    have:∀{as tf:qah}{ks:qao},Paired (λa k=>O[k]?=some (some a)) as ks->Paired (λa k=>O[k]?=some (some a)) tf ks->tf=as:=by
     intro as tf ks h h';induction h generalizing tf with
     |nil=>cases h';rfl
     |cons r t ih=>
       cases h' with
       |cons r' t'=>rw[r] at r';cases r';rw[ih t']
    exact this h2 Fm
   subst ee;refine⟨ts,tf,(av Z O).filter (λb=>decide (b∉tf)),_,ndA,λa h z=>?_,λa h=>J.Q6 a (Nd.mp h).1,OM,h_,λus r hr v H' fr z=>?_⟩;exact (of_decide_eq_true (Nd.mp z).2) h;have S_:∀a∈Z.Ox,a∉roots O/\H' a≠none:=λa h=>by
    have na:a∉roots O:=λm=>(J.own a m).2.1 h;refine⟨na,?_⟩;cases e:H1 a with
    |none=>exact absurd e (J.ox a h)
    |some u=>rw[fr _ _ e λm=>na (zi a m)];simp
   cases r with
   |vw t=>obtain⟨z1,z2⟩:=z;exact k _ _ hr O v H' ⟨J.called h2 OL fr (Paired.pj z2 λ_ _ q=>q.bB λb hb=>(Vm b).mpr hb) rfl rfl S_ λa h=>.inl h,z1.bB λb hb=>(Vm b).mpr hb⟩
   |fr t=>
     obtain⟨b,rfl,hb,nb,hR,z2⟩:=z;obtain⟨n1,n2,n3⟩:=J.fresh hb;have sb:∀c∈av (Z.ex b) O,c∈b::(tf++(av Z O).filter (λb=>decide (b∉tf))):=λc hc=>by
      rcases dF c hc with z|z
      exact fY _ ((Vm c).mpr z);rw[z];exact eE
     refine k _ _ hr O _ H' ⟨b,rfl,J.called h2 OL fr (Paired.pj z2 λ_ _ q=>q.bB sb) rfl rfl (λa h=>?_) (λa h=>(dF a h).imp id λe=>by rw[e];exact hb),hR.bB sb,n3,n2⟩;rcases bL.mp h with z|z
     subst z;obtain⟨u,eu,_⟩:=hR.mut;exact⟨λm=>n1 (j5 _ m),by rw[eu];simp⟩;exact S_ a z⟩
end
section
variable(K:qaf)
theorem wY:PySem.W.kitOne K (.type "int") (.type "int")=some true:=by kernel_rfl
theorem uS:PySem.W.kitOne K (.type "int") (.type "bool")=some false:=by kernel_rfl
theorem wZ:PySem.W.kitOne K (.type "int") (.type "str")=some false:=by kernel_rfl
theorem rV:PySem.W.kitOne K (.type "int") (.type "tuple")=some false:=by kernel_rfl
theorem uT:PySem.W.kitOne K (.type "bool") (.type "int")=some true:=by kernel_rfl
theorem rW:PySem.W.kitOne K (.type "bool") (.type "bool")=some true:=by kernel_rfl
theorem uU:PySem.W.kitOne K (.type "bool") (.type "str")=some false:=by kernel_rfl
theorem pU:PySem.W.kitOne K (.type "bool") (.type "tuple")=some false:=by kernel_rfl
theorem w6:PySem.W.kitOne K (.type "str") (.type "int")=some false:=by kernel_rfl
theorem uV:PySem.W.kitOne K (.type "str") (.type "bool")=some false:=by kernel_rfl
theorem w9:PySem.W.kitOne K (.type "str") (.type "str")=some true:=by kernel_rfl
theorem rX:PySem.W.kitOne K (.type "str") (.type "tuple")=some false:=by kernel_rfl
theorem uW:PySem.W.kitOne K (.type "list") (.type "int")=some false:=by kernel_rfl
theorem rY:PySem.W.kitOne K (.type "list") (.type "bool")=some false:=by kernel_rfl
theorem uX:PySem.W.kitOne K (.type "list") (.type "str")=some false:=by kernel_rfl
theorem pV:PySem.W.kitOne K (.type "list") (.type "tuple")=some false:=by kernel_rfl
theorem rZ:PySem.W.kitOne K (.type "tuple") (.type "int")=some false:=by kernel_rfl
theorem pW:PySem.W.kitOne K (.type "tuple") (.type "bool")=some false:=by kernel_rfl
theorem r6:PySem.W.kitOne K (.type "tuple") (.type "str")=some false:=by kernel_rfl
theorem oz:PySem.W.kitOne K (.type "tuple") (.type "tuple")=some true:=by kernel_rfl
theorem uY:PySem.W.kitOne K (.type "dict") (.type "int")=some false:=by kernel_rfl
theorem r8:PySem.W.kitOne K (.type "dict") (.type "bool")=some false:=by kernel_rfl
theorem uZ:PySem.W.kitOne K (.type "dict") (.type "str")=some false:=by kernel_rfl
theorem pX:PySem.W.kitOne K (.type "dict") (.type "tuple")=some false:=by kernel_rfl
theorem mU:PySem.W.kitOne K (.type "NoneType") (.type "int")=some false:=by kernel_rfl
theorem k9:PySem.W.kitOne K (.type "NoneType") (.type "bool")=some false:=by kernel_rfl
theorem mV:PySem.W.kitOne K (.type "NoneType") (.type "str")=some false:=by kernel_rfl
theorem kg:PySem.W.kitOne K (.type "NoneType") (.type "tuple")=some false:=by kernel_rfl
end
def ZC(K:qaf)(H:Hp):V->String->Prop
 |.bR,t=>t="NoneType"
 |.bl _,t=>t="bool"
 |.int _,t=>t="int"
 |.str _,t=>t="str"
 |.ref a,t=>(t="list"/\∃xs,fN K H a xs)\/(t="tuple"/\∃xs,eF K H a xs)\/(t="dict"/\∃bE,H a=some (.dK bE))
 |_,_=>False
def S'(K:qaf):qak->Hp->VK->Prop:=λxs H Q=>∃x n t b,xs=[x,.ty n]/\ZC K H x t/\PySem.W.kitOne K (.type t) (.type n)=some b/\Q (.bl b) H
theorem Cw:cN X (.builtin "isinstance") (S' X.K):=by
 intro pins s σ H xs us Q I r h;obtain⟨x,n,t,b,rfl,ty,e,q⟩:=h;obtain⟨u,w',rfl,rx,ry⟩:=vals2 r;obtain rfl:w'=Value.type n:=ry;have fin:∀tk,EP X pins σ Q (.bool b) {s with toks:=tk}:=λtk=>⟨.bl b,H,I.tok _,rfl,q⟩;cases x with
 |bR=>cases (show t=_ from ty);cases (show u=Value.none from rx);exact LL PySem.W.kitx_none I.jS True.intro e (λz=>nomatch z) fin
 |bl y=>cases (show t=_ from ty);cases (show u=Value.bool y from rx);exact LL PySem.W.kitx_bool I.jS True.intro e (λz=>nomatch z) fin
 |int i=>cases (show t=_ from ty);obtain⟨t,q⟩:=(show ∃t,u=Value.int i t from rx);cases q;exact LL PySem.W.kitx_int I.jS True.intro e (λz=>nomatch z) fin
 |str y=>cases (show t=_ from ty);obtain⟨t,q⟩:=(show ∃t,u=Value.str y t from rx);cases q;exact LL PySem.W.kitx_str I.jS True.intro e (λz=>nomatch z) fin
 |ref a=>
  cases (show u=Value.ref a from rx);obtain⟨rfl,xs,hq⟩|⟨rfl,xs,hq⟩|⟨rfl,bE,hq⟩:=ty
  obtain⟨aK,_,p,_⟩:=I.list hq;obtain⟨o,n',h1,h2,_⟩:=p;exact LL PySem.W.kitx_list I.jS ⟨o,h1,h2⟩ e (λz=>nomatch z) fin;obtain⟨aK,_,p,_⟩:=I.tuple hq;obtain⟨o,h1,h2,_⟩:=p;exact LL PySem.W.kitx_tuple I.jS ⟨o,h1,h2⟩ e (λz=>nomatch z) fin;obtain⟨_,_,vs,_,p⟩:=(show b_ X.prog X.w H s.heap a (.dK bE) from I.bG a _ hq);obtain⟨o,es,ep,h1,h2,_⟩:=p;exact LL PySem.W.kitx_dict I.jS ⟨o,h1,h2.1⟩ e (λz=>nomatch z) fin
 |_=>exact (show False from ty).elim
def isInt:T->Bool
 |.int _=>true
 |.bl _=>true
 |_=>false
def isBool:T->Bool
 |.bl _=>true
 |_=>false
def isStr:T->Bool
 |.str _=>true
 |_=>false
def Jy:T->Bool
 |.tup _=>true
 |_=>false
noncomputable def known:T->Bool
 |.dc _ _ _=>false
 |.ins _ _ _=>false
 |.pin _ _=>false
 |.ob _=>false
 |.ty _=>false
 |_=>true
def pY(K:qaf)(n:String)(p:T->Bool):Prop:=∀H A t v,known t=true->jA K H A t v->∃ty,ZC K H v ty/\PySem.W.kitOne K (.type ty) (.type n)=some (p t)
theorem Fo:pY K "int" isInt:=by
 intro H A t v hk h;cases t with
 |bR=>rw[h.bR];exact⟨_,rfl,mU K⟩
 |bl b=>rw[h.bl];exact⟨_,rfl,uT K⟩
 |int b=>rw[h.int];exact⟨_,rfl,wY K⟩
 |str b=>rw[h.str];exact⟨_,rfl,w6 K⟩
 |tup l=>obtain⟨a,vs,rfl,q,_⟩:=h.tup;exact⟨_,.inr (.inl ⟨rfl,_,q⟩),rZ K⟩
 |lst l=>obtain⟨a,vs,rfl,q,_⟩:=h.lst;exact⟨_,.inl ⟨rfl,_,q⟩,uW K⟩
 |dk ks l=>obtain⟨a,vs,rfl,_,q,_⟩:=h.dk;exact⟨_,.inr (.inr ⟨rfl,_,q⟩),uY K⟩
 |_=>simp only[known] at hk;cases hk
theorem tq:pY K "bool" isBool:=by
 intro H A t v hk h;cases t with
 |bR=>rw[h.bR];exact⟨_,rfl,k9 K⟩
 |bl b=>rw[h.bl];exact⟨_,rfl,rW K⟩
 |int b=>rw[h.int];exact⟨_,rfl,uS K⟩
 |str b=>rw[h.str];exact⟨_,rfl,uV K⟩
 |tup l=>obtain⟨a,vs,rfl,q,_⟩:=h.tup;exact⟨_,.inr (.inl ⟨rfl,_,q⟩),pW K⟩
 |lst l=>obtain⟨a,vs,rfl,q,_⟩:=h.lst;exact⟨_,.inl ⟨rfl,_,q⟩,rY K⟩
 |dk ks l=>obtain⟨a,vs,rfl,_,q,_⟩:=h.dk;exact⟨_,.inr (.inr ⟨rfl,_,q⟩),r8 K⟩
 |_=>simp only[known] at hk;cases hk
theorem k_:pY K "str" isStr:=by
 intro H A t v hk h;cases t with
 |bR=>rw[h.bR];exact⟨_,rfl,mV K⟩
 |bl b=>rw[h.bl];exact⟨_,rfl,uU K⟩
 |int b=>rw[h.int];exact⟨_,rfl,wZ K⟩
 |str b=>rw[h.str];exact⟨_,rfl,w9 K⟩
 |tup l=>obtain⟨a,vs,rfl,q,_⟩:=h.tup;exact⟨_,.inr (.inl ⟨rfl,_,q⟩),r6 K⟩
 |lst l=>obtain⟨a,vs,rfl,q,_⟩:=h.lst;exact⟨_,.inl ⟨rfl,_,q⟩,uX K⟩
 |dk ks l=>obtain⟨a,vs,rfl,_,q,_⟩:=h.dk;exact⟨_,.inr (.inr ⟨rfl,_,q⟩),uZ K⟩
 |_=>simp only[known] at hk;cases hk
theorem kh:pY K "tuple" Jy:=by
 intro H A t v hk h;cases t with
 |bR=>rw[h.bR];exact⟨_,rfl,kg K⟩
 |bl b=>rw[h.bl];exact⟨_,rfl,pU K⟩
 |int b=>rw[h.int];exact⟨_,rfl,rV K⟩
 |str b=>rw[h.str];exact⟨_,rfl,rX K⟩
 |tup l=>obtain⟨a,vs,rfl,q,_⟩:=h.tup;exact⟨_,.inr (.inl ⟨rfl,_,q⟩),oz K⟩
 |lst l=>obtain⟨a,vs,rfl,q,_⟩:=h.lst;exact⟨_,.inl ⟨rfl,_,q⟩,pV K⟩
 |dk ks l=>obtain⟨a,vs,rfl,_,q,_⟩:=h.dk;exact⟨_,.inr (.inr ⟨rfl,_,q⟩),pX K⟩
 |_=>simp only[known] at hk;cases hk
noncomputable def Ta(f:FE)(p:T->Bool):FP:=λρ Q=>f ρ λt=>known t=true/\Q (.vw (.bl (p t)))
section
variable{Z:Zc}{a c:Expr}{fa fb Q9:FE}
theorem la:bootBuiltins "isinstance"=some (.builtin "isinstance"):=by decide +kernel
theorem fq{n:String}{q:T->Bool}(hq:pY X.K n q)(hg:Gl X "isinstance")(hm:X.mg "isinstance"=none)(hgy:Gl X y)(hmy:X.mg y=none)(hby:bootBuiltins y=some (.type n))(ha:VR X Z e fa)(hny:y≠"__name__":=by decide)(hdy:fW y:=by decide)(hs:starEach [e,.Name y p2] X.env=(false,eval e X.env)::starEach [.Name y p2] X.env:=by rfl)(tu:starEach [.Name y p2] X.env=(false,eval (.Name y p2) X.env)::starEach [] X.env:=by rfl)(fz:(backTo pos (starEach [.Name y p2] X.env)).any (·.1)=false:=by rfl) :
  VP X Z (.Call (.Name "isinstance" p) [e,.Name y p2] [] pos) (Ta fa q):=.mk λtm=>
 PE.weak (kR Cw hg hm la (bj (ha tm) (bj (IC (v:=.ty n) hgy hmy hby rfl hny hdy) cF tu) hs) (by decide) (by decide) hs fz) λσ H Q ⟨ρ,O,q',I,hf,k⟩=>⟨ρ,O,_,I,hf,λt ht v H1 s1 a1=>by obtain⟨ty,h1,h2⟩:=hq H1 _ t v ht.1 a1;exact⟨v,n,ty,_,rfl,h1,h2,k _ ht.2 _ H1 s1 ⟨I.same s1,c9⟩⟩⟩
def gy:T->Bool
 |.bR=>true
 |.bl _=>true
 |.int _=>true
 |.str _=>true
 |_=>false
def nY:List T->Bool
 |[]=>true
 |t::ts=>gy t && nY ts
noncomputable def w_(x:T):List T->Bool
 |[]=>false
 |t::ts=>eqT t x || w_ x ts
theorem gS{K:qaf}{H:Hp}{A:qah}:∀{ts:List T}{vs:qak}{x:T}{v:V},nY ts=true->gy x=true->aB K H A ts vs->At K H A x v->vs.all iY=true/\iY v=true/\Vb v vs=w_ x ts
 |[],vs,x,v,_,fx,h,hx=>by simp only[aB] at h;subst h;refine⟨rfl,?_,rfl⟩;cases x<;>simp only[At] at hx<;>first|(subst hx;rfl)|(simp only[gy] at fx;cases fx)
 |t::ts,vs,x,v,f,fx,h,hx=>by
  simp only[aB] at h;obtain⟨u,r,rfl,h1,h2⟩:=h;simp only[nY,eJ] at f;obtain⟨i1,i2,i3⟩:=gS f.2 fx h2 hx;have ft:iY u=true:=by cases t<;>simp only[At] at h1<;>first|(subst h1;rfl)|(have:=f.1;simp only[gy] at this;cases this)
  have e:Ib u v=eqT t x:=by
   cases t<;>simp only[At] at h1<;>first
    | (have:=f.1;simp only[gy] at this;cases this;done)
    | (subst h1
       cases x<;>simp only[At] at hx<;>first
        | (simp only[gy] at fx;cases fx;done)
        | (subst hx;simp[Ib,eqT];done))
  refine⟨by simp[ft,i1],i2,?_⟩;simp only[w_,Vb,QY];rw[e]
  congr 1
noncomputable def Fp(K:qaf)(neg:Bool):R2:=λx y H Q=>WL K neg x y H Q\/∃i j,x=.str i/\y=.str j/\Q (.bl (if neg then !(!(Builtin.Str.occurrences j i 0 j.length 1).isEmpty) else !(Builtin.Str.occurrences j i 0 j.length 1).isEmpty)) H
theorem zj:fD X (compareOp .In) (Fp X.K false):=by
 intro pins s σ H x y v u Q I rx ry h;obtain h|⟨i,j,h1,h2,h⟩:=h
 exact Cn pins s σ H x y v u Q I rx ry h;exact Ck pins s σ H x y v u Q I rx ry ⟨i,j,h1,h2,by simpa using h⟩
theorem Cy:fD X (compareOp .NotIn) (Fp X.K true):=by
 intro pins s σ H x y v u Q I rx ry h;obtain h|⟨i,j,h1,h2,h⟩:=h
 exact uG pins s σ H x y v u Q I rx ry h;exact uH pins s σ H x y v u Q I rx ry ⟨i,j,h1,h2,by simpa using h⟩
noncomputable def tw(i j:Str):Bool:=!(Builtin.Str.occurrences j i 0 j.length 1).isEmpty
def Tb(x y:T)(q:Rt->Prop):Prop:=match y with
 |.lst ts=>gy x=true/\nY ts=true/\q (.vw (.bl (w_ x ts)))
 |.tup ts=>gy x=true/\nY ts=true/\q (.vw (.bl (w_ x ts)))
 |.str j=>∃i,x=.str i/\q (.vw (.bl (tw i j)))
 |_=>False
def ON(x y:T)(q:Rt->Prop):Prop:=match y with
 |.lst ts=>gy x=true/\nY ts=true/\q (.vw (.bl (!w_ x ts)))
 |.tup ts=>gy x=true/\nY ts=true/\q (.vw (.bl (!w_ x ts)))
 |.str j=>∃i,x=.str i/\q (.vw (.bl (!tw i j)))
 |_=>False
theorem zk:pL K (Fp K false) Tb:=by
 intro Z tm O ρ σ H x y v w q Q I h1 h2 h k;have x1:gy x=true->At K H (av Z O) x v:=λf=>by
  obtain h|⟨a,rfl,h⟩:=h1
  exact h;cases x<;>first|exact h.elim|(simp only[gy] at f;cases f)
 unfold Tb at h;split at h;obtain⟨f1,f2,h⟩:=h;obtain⟨a,vs,rfl,q1,q2⟩:=h2.lst;obtain⟨i1,i2,i3⟩:=gS f2 f1 q2 (x1 f1);exact .inl ⟨a,vs,rfl,.inl q1,i2,i1,k _ h _ H (aL.refl H) ⟨I,by rw[if_neg iV,i3];exact c9⟩⟩;obtain⟨f1,f2,h⟩:=h;obtain⟨a,vs,rfl,q1,q2⟩:=h2.tup;obtain⟨i1,i2,i3⟩:=gS f2 f1 q2 (x1 f1);exact .inl ⟨a,vs,rfl,.inr q1,i2,i1,k _ h _ H (aL.refl H) ⟨I,by rw[if_neg iV,i3];exact c9⟩⟩;obtain⟨i,rfl,h⟩:=h;exact .inr ⟨i,_,h1.str,h2.str,k _ h _ H (aL.refl H) ⟨I,by rw[if_neg iV];exact c9⟩⟩;exact h.elim
theorem Jz:pL K (Fp K true) ON:=by
 intro Z tm O ρ σ H x y v w q Q I h1 h2 h k;have x1:gy x=true->At K H (av Z O) x v:=λf=>by
  obtain h|⟨a,rfl,h⟩:=h1
  exact h;cases x<;>first|exact h.elim|(simp only[gy] at f;cases f)
 unfold ON at h;split at h;obtain⟨f1,f2,h⟩:=h;obtain⟨a,vs,rfl,q1,q2⟩:=h2.lst;obtain⟨i1,i2,i3⟩:=gS f2 f1 q2 (x1 f1);exact .inl ⟨a,vs,rfl,.inl q1,i2,i1,k _ h _ H (aL.refl H) ⟨I,by rw[if_pos rfl,i3];exact c9⟩⟩;obtain⟨f1,f2,h⟩:=h;obtain⟨a,vs,rfl,q1,q2⟩:=h2.tup;obtain⟨i1,i2,i3⟩:=gS f2 f1 q2 (x1 f1);exact .inl ⟨a,vs,rfl,.inr q1,i2,i1,k _ h _ H (aL.refl H) ⟨I,by rw[if_pos rfl,i3];exact c9⟩⟩;obtain⟨i,rfl,h⟩:=h;exact .inr ⟨i,_,h1.str,h2.str,k _ h _ H (aL.refl H) ⟨I,by rw[if_pos rfl];exact c9⟩⟩;exact h.elim
theorem Fq(ha:VR X Z a fa)(hb:VR X Z b fb)(hm:behindInMarks .In b=false:=by rfl):VP X Z (.Compare a [.In] [b] pos) (f2 fa fb Tb):=uM zj zk ha hb hm
theorem Bi(ha:VR X Z a fa)(hb:VR X Z b fb)(hm:behindInMarks .In b=false:=by rfl):VC X Z (.Compare a [.In] [b] pos) (rT (f2 fa fb Tb)):=ka zj zk ha hb hm
theorem OP(ha:VR X Z a fa)(hb:VR X Z b fb)(hm:behindInMarks .NotIn b=false:=by rfl):VC X Z (.Compare a [.NotIn] [b] pos) (rT (f2 fa fb ON)):=ka Cy Jz ha hb hm
def Me:T->Bool
 |.bR=>true
 |_=>false
def XA(x y:T)(q:Rt->Prop):Prop:=match y with
 |.bR=>q (.vw (.bl (Me x)))
 |_=>False
theorem JA{A:qah}{t:T}(h:jA K H A t v):decide (v=.bR)=Me t:=by
 cases t with
 |bR=>rw[h.bR];rfl
 |bl b=>rw[h.bl];rfl
 |int b=>rw[h.int];rfl
 |str b=>rw[h.str];rfl
 |ob b=>rw[h.ob];rfl
 |ty b=>have:v=.ty b:=h.elim (λq=>by simpa only[At] using q) λ⟨_,_,q⟩=>q.elim;rw[this];rfl
 |tup l=>obtain⟨a,vs,rfl,_⟩:=h.tup;rfl
 |lst l=>obtain⟨a,vs,rfl,_⟩:=h.lst;rfl
 |dk ks l=>obtain⟨a,vs,rfl,_⟩:=h.dk;rfl
 |dc nh ks l=>obtain⟨a,xs,vs,rfl,_⟩:=h.dc;rfl
 |ins C ns l=>obtain⟨a,dx,vs,rfl,_⟩:=h.ins;rfl
 |pin a t=>have e:v=.ref a:=h.elim (λq=>by simp only[At] at q;exact q.1) λ⟨_,_,q⟩=>q.elim;rw[e];rfl
theorem OQ:pL K (λx y H Q=>y=.bR/\Q (.bl (decide (x=.bR))) H) XA:=by intro Z tm O ρ σ H x y v w q Q I h1 h2 h k;unfold XA at h;split at h;exact⟨h2.bR,k _ h _ H (aL.refl H) ⟨I,by rw[JA h1];exact c9⟩⟩;exact h.elim
theorem tD(ha:VR X Z a fa)(hb:VR X Z b fb):VC X Z (.Compare a [.Is] [b] pos) (rT (f2 fa fb XA)):=ka NQ OQ ha hb (j_ _)
theorem xa{g g':Int->Int->Bool}{tm:List (T×V)}{Q:VK}(h:lP X Z tm (f3 fa fb Q9 (Oh g) (Oh g')) σ H Q):yW (uD λi j=>.bl (g i j)) (uD λi j=>.bl (g' i j)) (lR X Z tm fa) (lR X Z tm fb) (lR X Z tm Q9) σ H Q:=by
 obtain⟨ρ,O,q,I,hf,k⟩:=h;refine⟨ρ,O,_,I,hf,λx hx v H1 s1 a1=>⟨ρ,O,_,I.same s1,hx,λy hy w H2 s2 a2=>?_⟩⟩;have J:=(I.same s1).same s2;unfold Oh at hy;split at hy
 rename_i i j
 refine⟨i,j,(a1.same s2).int,a2.int,_,rfl,?_⟩;cases e:g i j with
 |true=>
  rw[e] at hy;refine SA ⟨ρ,O,_,J,hy,λz hz w3 H3 s3 a3=>?_⟩;split at hz
  rename_i e1
  cases e1;exact⟨_,_,(a2.same s3).int,a3.int,k _ hz _ H3 ((s1.trans s2).trans s3) ⟨J.same s3,c9⟩⟩;exact hz.elim
 |false=>rw[e] at hy;exact Sz (k _ hy _ H2 (s1.trans s2) ⟨J,c9⟩)
 exact hy.elim
theorem Fs{op yX:CmpOp}{g g':Int->Int->Bool}(ho:fD X (compareOp op) (uD λi j=>.bl (g i j)))(wz:fD X (compareOp yX) (uD λi j=>.bl (g' i j)))(ha:VR X Z a fa)(hb:VR X Z b fb)(hc:VR X Z c Q9)(hm:lastMarks [op,yX] [b,c]=false:=by with_unfolding_all rfl):VP X Z (.Compare a [op,yX] [b,c] pos) (f3 fa fb Q9 (Oh g) (Oh g')):=.mk λtm=>PE.weak (Ew ho wz (ha tm) (hb tm) (hc tm) hm) λσ H Q h=>xa h
theorem Ft{op yX:CmpOp}{g g':Int->Int->Bool}(ho:fD X (compareOp op) (uD λi j=>.bl (g i j)))(wz:fD X (compareOp yX) (uD λi j=>.bl (g' i j)))(ha:VR X Z a fa)(hb:VR X Z b fb)(hc:VR X Z c Q9)(hm:lastMarks [op,yX] [b,c]=false:=by with_unfolding_all rfl):VC X Z (.Compare a [op,yX] [b,c] pos) (rT (f3 fa fb Q9 (Oh g) (Oh g'))):=.mk λtm=>PT.weak (Ey ho wz (ha tm) (hb tm) (hc tm) hm) λσ H Q ⟨ρ,O,q,I,hf,k⟩ =>
 xa ⟨ρ,O,_,I,hf,λt ht u H' s a=>by obtain⟨c,rfl,hc⟩:=zf ht;have e:=a.2;simp only[At] at e;exact⟨c,e,k c hc H' s⟩⟩
def nZ(ts:List T):List T:=ts.mapIdx λi t=>.tup [.int (i:Int),t]
def Tc(f:FE):FI:=λρ Q=>f ρ λt=>match t with
 |.lst ts=>Q (nZ ts)
 |_=>False
theorem JB{a:Addr}{ts:List T}:Wk K (W7 K a) [(.lst ts,.ref a)] (nZ ts):=λH A hA h i=>by
 have h:=h _ eE;simp only[At] at h;obtain⟨b,vs,e,l,q⟩:=h;cases e;have hl:=q.length;have hle:(nZ ts).length=ts.length:=by unfold nZ;rw[List.length_mapIdx]
 rw[hle];refine⟨λhi=>⟨vs,vs[i]'(by omega),l.sq,by simp⟩,λhi=>⟨vs,l.sq,by omega⟩,λt ht x H' y=>?_⟩;obtain⟨p,u,hp,rfl,hu,rfl⟩:=y;unfold nZ at ht;rw[List.getElem?_mapIdx] at ht;cases e:ts[i]? with
 |none=>rw[e] at ht;cases ht
 |some t'=>rw[e] at ht;cases ht;obtain⟨v,e1,e2⟩:=q.get e;have:=hu vs l.sq;rw[e1] at this;cases this;exact⟨aQ hp,bK (eF.of aY) (aB.cons bC (aB.cons (e2.same (aQ hp)) aB.nil))⟩
theorem lb{elts:qap}{x1}{tp:Pos}(hg:Gl X "enumerate")(hm:X.mg "enumerate"=none)(ha:VE X Z a fa)(hs:starEach [a] X.env=[(false,eval a X.env)]:=by rfl) :
  VI X Z (.Tuple elts x1 tp) (.Call (.Name "enumerate" p) [a] [] pos) (Tc fa):=.mk λtm=>PI.weak (Jf hg hm (bj (ha tm) cF hs) hs) λσ H R ⟨ρ,O,q,I,hf,k⟩=>⟨ρ,O,_,I,hf,λt ht v H' s a=>by
 split at ht;have a0:=a;simp only[At] at a;obtain⟨p,vs,rfl,l,_⟩:=a;exact⟨p,rfl,⟨vs,l.sq⟩,k _ ht _ H' _ s (λp hp=>by rw[wj.mp hp];exact a0) JB⟩;exact ht.elim⟩
noncomputable def cz:List T->Option (List Bool)
 |[]=>some []
 |.bl b::ts=>(cz ts).map (b::·)
 |_=>none
noncomputable def intsOf:List T->Option (qan)
 |[]=>some []
 |.int b::ts=>(intsOf ts).map (b::·)
 |_=>none
theorem Fu{K:qaf}{H:Hp}{A:qah}:∀{ts:List T}{bs:List Bool}{vs:qak},cz ts=some bs->aB K H A ts vs->vs=bs.map V.bl
 |[],bs,vs,e,h=>by simp only[cz] at e;cases e;simp only[aB] at h;rw[h];rfl
 |.bl b::ts,bs,vs,e,h=>by
  simp only[cz] at e;cases q:cz ts with
  |none=>rw[q] at e;cases e
  |some cs=>rw[q] at e;cases e;simp only[aB,At] at h;obtain⟨v,r,rfl,rfl,h⟩:=h;rw[Fu q h];rfl
 |.bR::_,_,_,e,_=>by simp[cz] at e
 |.int _::_,_,_,e,_=>by simp[cz] at e
 |.str _::_,_,_,e,_=>by simp[cz] at e
 |.tup _::_,_,_,e,_=>by simp[cz] at e
 |.lst _::_,_,_,e,_=>by simp[cz] at e
 |.dk _ _::_,_,_,e,_=>by simp[cz] at e
 |.dc _ _ _::_,_,_,e,_=>by simp[cz] at e
 |.ins _ _ _::_,_,_,e,_=>by simp[cz] at e
 |.pin _ _::_,_,_,e,_=>by simp[cz] at e
 |.ob _::_,_,_,e,_=>by simp[cz] at e
 |.ty _::_,_,_,e,_=>by simp[cz] at e
theorem u3{K:qaf}{H:Hp}{A:qah}:∀{ts:List T}{bs:qan}{vs:qak},intsOf ts=some bs->aB K H A ts vs->vs=bs.map V.int
 |[],bs,vs,e,h=>by simp only[intsOf] at e;cases e;simp only[aB] at h;rw[h];rfl
 |.int b::ts,bs,vs,e,h=>by
  simp only[intsOf] at e;cases q:intsOf ts with
  |none=>rw[q] at e;cases e
  |some cs=>rw[q] at e;cases e;simp only[aB,At] at h;obtain⟨v,r,rfl,rfl,h⟩:=h;rw[u3 q h];rfl
 |.bR::_,_,_,e,_=>by simp[intsOf] at e
 |.bl _::_,_,_,e,_=>by simp[intsOf] at e
 |.str _::_,_,_,e,_=>by simp[intsOf] at e
 |.tup _::_,_,_,e,_=>by simp[intsOf] at e
 |.lst _::_,_,_,e,_=>by simp[intsOf] at e
 |.dk _ _::_,_,_,e,_=>by simp[intsOf] at e
 |.dc _ _ _::_,_,_,e,_=>by simp[intsOf] at e
 |.ins _ _ _::_,_,_,e,_=>by simp[intsOf] at e
 |.pin _ _::_,_,_,e,_=>by simp[intsOf] at e
 |.ob _::_,_,_,e,_=>by simp[intsOf] at e
 |.ty _::_,_,_,e,_=>by simp[intsOf] at e
def Td(ts:List T)(q:Rt->Prop):Prop:=match ts with
 |[.lst l]=>∃bs,cz l=some bs/\q (.vw (.bl (bs.all id)))
 |_=>False
theorem gU:jU K (λxs H Q=>∃(p:Addr)(bs:List Bool),xs=[.ref p]/\fN K H p (bs.map V.bl)/\Q (.bl (bs.all id)) H) Td:=by intro Z tm O ρ σ H ts vs q Q I h hp k;unfold Td at hp;split at hp;obtain⟨bs,e,hp⟩:=hp;obtain⟨v,rfl,a⟩:=cb h;obtain⟨p,ws,rfl,q1,q2⟩:=a.lst;rw[Fu e q2] at q1;exact⟨p,bs,rfl,q1,k _ hp _ H (aL.refl H) ⟨I,c9⟩⟩;exact hp.elim
def Te(ts:List T)(q:Rt->Prop):Prop:=match ts with
 |[.lst l]=>∃ns,intsOf l=some ns/\q (.vw (.int ns.sum))
 |_=>False
theorem Cz:jU K (λxs H Q=>∃(p:Addr)(ns:qan),xs=[.ref p]/\fN K H p (ns.map V.int)/\Q (.int ns.sum) H) Te:=by intro Z tm O ρ σ H ts vs q Q I h hp k;unfold Te at hp;split at hp;obtain⟨bs,e,hp⟩:=hp;obtain⟨v,rfl,a⟩:=cb h;obtain⟨p,ws,rfl,q1,q2⟩:=a.lst;rw[u3 e q2] at q1;exact⟨p,bs,rfl,q1,k _ hp _ H (aL.refl H) ⟨I,bC⟩⟩;exact hp.elim
def XB(f:FP)(fb:FE):FP:=λρ Q=>f ρ λr=>match r with
 |.fr (.lst ts)=>fb ρ λy=>match y with
  |.int k=>-(2 ^ 63)<=k/\k<2 ^ 63/\ts.length * k.toNat<=sizeLine/\Q (.fr (.lst (List.replicate k.toNat ts).flatten))
  |_=>False
 |_=>False
theorem aB.rep{K:qaf}{H:Hp}{A:qah}{ts:List T}{vs:qak}(h:aB K H A ts vs):∀k:Nat,aB K H A (List.replicate k ts).flatten (List.replicate k vs).flatten
 |0=>aB.nil
 |k+1=>by rw[AO,AO,Iu,Iu];exact h.append (aB.rep h k)
theorem OR{f:FP}(ha:VP X Z a f)(hb:VR X Z b fb):VP X Z (.BinOp a .Mult b pos) (XB f fb):=.mk λtm=>PE.weak (LU N8 (ha tm) (hb tm)) λσ H Q ⟨ρ,O,q,I,hf,k⟩=>⟨ρ,O,_,I,hf,λr hr v H1 s1 z=>by split at hr;obtain⟨l,rfl,J,⟨xs,e,q1⟩,_⟩:=z;refine⟨ρ,O,_,I.same s1,hr,λy hy w H2 s2 a2=>?_⟩;split at hy;obtain⟨h1,h2,h3,hy⟩:=hy;have q2:aB X.K H2 (av Z O) _ xs:=(q1.same s2).bB gO;exact⟨l,_,xs,rfl,a2.int,s2 _ _ e,h1,h2,by rw[q2.length];exact h3,λp hp=>k _ hy _ _ ((s1.trans s2).trans (aQ hp)) (((I.same s1).same s2).ze hp (q2.rep _))⟩;exact hy.elim;exact hr.elim⟩
end
structure Df(K:qaf)(mg:qae)(x:Str)(st:Stmt)(ps:qai)(f:Addr)(fd:FuncData):Prop where
 F:Ic K x x st f fd
 m:mg x=some (.ref f)
 b:Binds K fd ps []
def cM(P:Program)(w:World)(K:qaf)(mg:qae)(base:Heap)(x:Str)(ps:qai)(k:Nat)(sp:Sp):Prop :=
 ∃f fd,mg x=some (.ref f)/\PySem.W.keepIn K (.ref f)=true/\Binds K fd ps []/\eM P w K mg base kU k f fd ps sp
theorem Df.lg{k:Nat}(D:Df K mg x st ps f fd)(F:eM P w K mg base kU k f fd ps sp):cM P w K mg base x ps k sp :=
 ⟨f,fd,D.m,D.F.kp,D.b,F⟩
theorem mW{Ox:qah}:ba ⟨H,[],Ox⟩ i:=λ_ z=>nomatch z
section
theorem mi{N:qai}{k:Nat}{G:List T->(Rt->Prop)->Prop}(F:Ic K x qual st f fd)(S:aJ N ps (ak st))(hn:n=ps.length)(kQ:∀(bS:Value) (A:Around) (outer:List Env) (s:Shared) (H:Hp) (E:XK) (Ox:qah),bM k (A.deeper (envOfC qual (ak st) s.heap.objs.size f bS))->∀ts q,G ts q ->
    ∃g,i7 (fE kU P w K mg base N qual (ak st) f bS A outer s H E).wo ⟨H,[],Ox⟩ (cK st) g/\(ts.length=n->g {nx:=λ_=>q (.vw .bR),rt:=λ_ r=>q r} (ts.map (λt=>some (t,false))++List.replicate (N.length-ts.length) none))) :
  eM P w K mg base kU (k+1) f fd ps (cy K n G):=by
 have hp:∀n (as:qah) k,pz (List.replicate n false) as k=[]:=by
  intro n;induction n with
  |zero=>intro as k;rfl
  |succ n ih=>intro as k;exact ih as (k+1)
 have hfi:∀n (ρ:En),mQ (List.replicate n false) ρ=[]:=by
  intro n;induction n with
  |zero=>intro ρ;rfl
  |succ n ih=>intro ρ;exact ih ρ.tail
 have he:∀n (ts:List T),ts.length=n->uP (List.replicate n false) ts=ts.map λt=>some (t,false):=by
  intro n;induction n with
  |zero=>intro ts e;cases ts<;>simp_all [uP]
  |succ n ih=>
    intro ts e;cases ts with
    |nil=>simp at e
    |cons t ts=>rw[AO,uP,ih ts (by simpa using e)];rfl
 refine Xx F S (by rw[DV];exact hn) λbS A outer s H E as Ox hr ts q hl hG=>?_;rw[DV] at hl;obtain⟨g,h1,h2⟩:=kQ bS A outer s H E Ox hr ts (q []) hG;refine⟨g,by rw[hp];exact h1,?_⟩;rw[he n ts hl];simp only[hfi];exact h2 hl
end
theorem bM.iw{k:Nat}(r:bM k A):A.units+101<cLine:=by have:=r.un;omega
theorem OS:bootBuiltins "list"=some (.type "list"):=by decide +kernel
theorem gz:bootBuiltins "tuple"=some (.type "tuple"):=by decide +kernel
theorem xg:bootBuiltins "all"=some (.builtin "all"):=by decide +kernel
theorem Tf:bootBuiltins "sum"=some (.builtin "sum"):=by decide +kernel
theorem Tg:bootBuiltins "min"=some (.builtin "min"):=by decide +kernel
theorem Mf:bootBuiltins "int"=some (.type "int"):=by decide +kernel
theorem Fv:bootBuiltins "bool"=some (.type "bool"):=by decide +kernel
theorem Bj:bootBuiltins "str"=some (.type "str"):=by decide +kernel
theorem oZ:∀{fs:List Bool}{as:qah}{k:Nat},∀p∈pz fs as k,k<=p.1/\fs[p.1-k]?=some true
 |[],_,_,p,hp=>nomatch hp
 |false::fs,as,k,p,hp=>by
  obtain⟨h1,h2⟩:=oZ (fs:=fs) (as:=as) (k:=k+1) p hp;refine⟨by omega,?_⟩;have:p.1-k=(p.1-(k+1))+1:=by omega
  rw[this];simpa using h2
 |true::fs,a::as,k,p,hp=>by
  rcases bL.mp hp with z|z
  subst z;exact⟨eB _,by simp⟩;obtain⟨h1,h2⟩:=oZ (fs:=fs) (as:=as) (k:=k+1) p z;refine⟨by omega,?_⟩;have:p.1-k=(p.1-(k+1))+1:=by omega
  rw[this];simpa using h2
 |true::fs,[],k,p,hp=>by
  obtain⟨h1,h2⟩:=oZ (fs:=fs) (as:=[]) (k:=k+1) p hp;refine⟨by omega,?_⟩;have:p.1-k=(p.1-(k+1))+1:=by omega
  rw[this];simpa using h2
theorem Fw{fs:List Bool}{as Ox:qah}(h:fs[i]?≠some true):ba ⟨H,pz fs as 0,Ox⟩ i:=λp hp e=>by have:=(oZ p hp).2;rw[Nat.sub_zero,e] at this;exact h this
theorem pZ(lo:Int)(n:Nat):(rangeT lo n).length=n:=by unfold rangeT;rw[bQ,HU]
theorem p_{lo:Int}{t:T}(h:(rangeT lo n)[i]?=some t):i<n/\t=.int (lo+(i:Int)):=by
 unfold rangeT at h;rw[mf] at h;cases e:(List.range n)[i]? with
 |none=>rw[e] at h;cases h
 |some j=>rw[e] at h;obtain⟨h1,h2⟩:=gN.mp e;rw[List.getElem_range] at h2;rw[HU] at h1;subst h2;cases h;exact⟨h1,rfl⟩
theorem f9{lo:Int}{h:FG}{g:FS}{d:Jt}{ρ:En}(Pv:Nat->En->Prop)(h0:Pv 0 ρ)(hs:∀(i:Nat) ρ',i<n->Pv i ρ'->h (.int (lo+(i:Int))) ρ' λρ2=>g {nx:=Pv (i+1),ct:=Pv (i+1),bk:=d.nx,rt:=d.rt} ρ2)(hd:∀ρ',Pv n ρ'->d.nx ρ'):s_ (rangeT lo n) h g d ρ:=⟨Pv,h0,λi t ρ' e p=>by obtain⟨h1,rfl⟩:=p_ e;exact hs i ρ' h1 p,λρ' p=>hd ρ' (by rw[pZ] at p;exact p)⟩
theorem qa{f:α->T}{xs:List α}{h:FG}{g:FS}{d:Jt}{ρ:En}(Pv:Nat->En->Prop)(h0:Pv 0 ρ)(hs:∀(i:Nat) x ρ',xs[i]?=some x->Pv i ρ'->h (f x) ρ' λρ2=>g {nx:=Pv (i+1),ct:=Pv (i+1),bk:=d.nx,rt:=d.rt} ρ2)(hd:∀ρ',Pv xs.length ρ'->d.nx ρ'):s_ (xs.map f) h g d ρ:=⟨Pv,h0,λi t ρ' e p=>by
 rw[mf] at e;cases q:xs[i]? with
 |none=>rw[q] at e;cases e
 |some x=>rw[q] at e;cases e;exact hs i x ρ' q p,λρ' p=>hd ρ' (by rw[bQ] at p;exact p)⟩
theorem xi{c:Bool}{A:Prop}(hc:c=true)(h:A):if c=true then A else B:=by rw[if_pos hc];exact h
theorem eU{c:Bool}{A:Prop}(hc:c=false)(h:B):if c=true then A else B:=by rw[if_neg (by rw[hc];exact iV)];exact h
theorem cA{c A:Prop}[Decidable c](h1:c->A)(h2:¬ c->B):if decide c=true then A else B:=by by_cases h:c;rw[if_pos (decide_eq_true h)];exact h1 h;rw[if_neg (by rw[decide_eq_false h];exact iV)];exact h2 h
section
variable{s:Shared}
theorem lh{it t:Addr}{x:Value}(hit:s.heap.IsTupleIter it t i)(ht:s.heap.IsTuple t items)(hx:items[i]?=some x)(hQ:∀h',h'.IsTupleIter it t (i+1)->Heap.SameBut it s.heap h'->Q x {s with heap:=h'}):wpAny (model prog w) A (Builtin.SmallTypes.nextOf (.ref it)) Q E s:=by
 obtain⟨o,ho,hc,hd⟩:=id hit;obtain⟨ol,JC,_,nl,JD⟩:=ht;unfold Builtin.SmallTypes.nextOf;refine wpAny_bind (wpAny_callSpecial?_slot (name:=Str.ofString "__next__") hit.typeIs UO
  (wpAny_call_entry UO hit.typeIs F.entry_tuple_iterator_next ?_ (F.args_tuple_iterator_next_1 _)))
 show wpAny _ _ (field (.ref it) 0 >>= _) _ _ s;refine wpAny_bind (wpAny_field ho hd (x:=.ref t) rfl ?_);show wpAny _ _ (if (Value.ref t==Value.none)=true then _ else _) _ _ s;rw[if_neg (show ¬ ((Value.ref t==Value.none)=true) from iV)];show wpAny _ _ (field (.ref it) 1 >>= _) _ _ s;refine wpAny_bind (wpAny_field ho hd (x:=.int i 0) rfl ?_);show wpAny _ _ (seqItems? (.ref t) >>= _) _ _ s;refine wpAny_bind (wpAny_seqItems JC JD ?_);simp only[DW,hx];refine wpAny_bind (wpAny_setField ho hd (by simp) (wpAny_pure ⟨x,rfl,wpAny_pure (hQ _ ?_ (Heap.SameBut.update ..))⟩));exact⟨_,M' _ ho (Rv (Nb hd _)),(Obj.cls_mapFields ..).trans hc,by
  rw[Nb hd];simp[rawInt]⟩
theorem mX{it t:Addr}(hh:A.handled=none)(hit:s.heap.IsTupleIter it t i)(ht:s.heap.IsTuple t items)(hx:items[i]?=none)(hE:∀h' e,Heap.ExtBut it s.heap h'->(∃o,h'.get? e=some o/\o.cls=.type "StopIteration")->E (.ref e) {s with heap:=h'}):wpAny (model prog w) A (Builtin.SmallTypes.nextOf (.ref it)) Q E s:=by
 obtain⟨o,ho,hc,hd⟩:=id hit;obtain⟨ol,JC,_,nl,JD⟩:=ht;unfold Builtin.SmallTypes.nextOf;refine wpAny_bind (wpAny_callSpecial?_slot (name:=Str.ofString "__next__") hit.typeIs UO
  (wpAny_call_entry UO hit.typeIs F.entry_tuple_iterator_next ?_ (F.args_tuple_iterator_next_1 _)))
 show wpAny _ _ (field (.ref it) 0 >>= _) _ _ s;refine wpAny_bind (wpAny_field ho hd (x:=.ref t) rfl ?_);show wpAny _ _ (if (Value.ref t==Value.none)=true then _ else _) _ _ s;rw[if_neg (show ¬ ((Value.ref t==Value.none)=true) from iV)];show wpAny _ _ (field (.ref it) 1 >>= _) _ _ s;refine wpAny_bind (wpAny_field ho hd (x:=.int i 0) rfl ?_);show wpAny _ _ (seqItems? (.ref t) >>= _) _ _ s;refine wpAny_bind (wpAny_seqItems JC JD ?_);simp only[DW,hx];refine wpAny_bind (wpAny_rule (wpAny_bind (wpAny_setField ho hd (by simp) ?_)));show wpAny _ _ (newExc (.type "StopIteration") [] >>= _) _ _ _;refine wpAny_bind ?_;simp only[newExc,newTuple];refine wpAny_bind (wpAny_newObj_type ?_ (by size_fits));refine wpAny_bind (m:=firstArgMember _ _) (wpAny_of_eq (a:=Value.none) (by first|rfl|(simp only[firstArgMember];rfl)) ?_);refine wpAny_newObj_type ?_ (by size_fits);simp only[raiseNew];refine wpAny_bind (wpAny_handled ?_)
 first|rw[show A.in1.handled=none from hh]|rw[hh]
 refine wpAny_bind (wpAny_pure (wpAny_throw ?_));exact hE _ _ (((Heap.SameBut.update ..).extBut.push _).push _) ⟨_,ph _ rfl,rfl⟩
end
structure Part(prog:Program)(w:World)(i:Addr)(fp:qah)(n:Nat)(Pv:Nat->Value->Prop)(st:Nat->Heap->Prop):Prop where
 draws:∀A:Around,A.handled=none->Draws prog w A i fp n Pv st
 mem:i∈fp
 fld:∀k h,st k h->∃o vs,h.get? i=some o/\o.data=.fields vs
theorem CA(it l:Addr)(jz:l≠it)(items:Array Value):Part prog w it [it,l] items.size (λi v=>items[i]?=some v) (λi h=>h.IsListIter it l i/\h.IsList l items) :=
 ⟨λA hh=>Draws.list hh it l jz items,by simp,λk h st=>let ⟨⟨o,e,_,d⟩,_⟩:=st;⟨o,_,e,d⟩⟩
theorem zl(it l:Addr)(jz:l≠it)(items:Array Value):Part prog w it [it,l] items.size (λi v=>items[i]?=some v) (λi h=>h.IsTupleIter it l i/\h.IsTuple l items) :=
 ⟨λA hh=>{live:=λ_ _ st=>let ⟨o,ho,_⟩:=st.1;⟨o,ho⟩,frame:=λ_ _ _ st hk=>⟨let ⟨o,ho,r⟩:=st.1;⟨o,hk it (by simp) o ho,r⟩,let ⟨o,ho,r⟩:=st.2;⟨o,hk l (by simp) o ho,r⟩⟩,item:=λi s Q E hi st hQ=>lh st.1 st.2 (x:=items[i]) (by simp[hi]) λh' XD CB=>hQ _ h' s.toks (by simp[hi]) ⟨XD,st.2.extBut CB.extBut jz⟩ CB,done:=λs Q E st hE=>mX hh st.1 st.2 (by simp) hE},by simp,λk h st=>let ⟨⟨o,e,_,d⟩,_⟩:=st;⟨o,_,e,d⟩⟩
theorem Fx(it:Addr)(x:Str)(t:Tok):Part prog w it [it] x.cps.size (λi v=>∃c u,x.cps[i]?=some c/\v=.str ⟨#[c]⟩ u) (λi h=>h.IsStrIter it (strIterType x) x t i):=by
 rcases dh x with z|z
 rw[z];exact⟨λA hh=>Draws.strAscii hh it x t,by simp,λk h st=>let ⟨o,e,_,d⟩:=st;⟨o,_,e,d⟩⟩;rw[z];exact⟨λA hh=>Draws.strWide hh it x t,by simp,λk h st=>let ⟨o,e,_,d⟩:=st;⟨o,_,e,d⟩⟩
structure Apart(z TI TO i1 i2:Addr)(qc o4:qah):Prop where
 TIz:TI≠z
 TOz:TO≠z
 i1z:i1≠z
 i2z:i2≠z
 TITO:TI≠TO
 TIi1:TI≠i1
 TIi2:TI≠i2
 TOi1:TO≠i1
 TOi2:TO≠i2
 i12:i1≠i2
 z1:z∉qc
 z2:z∉o4
 O1:TO∉qc
 O2:TO∉o4
 x1:i2∉qc
 x2:i1∉o4
section
variable{s:Shared}{z TI TO i1 i2:Addr}{qc o4:qah}{n1 n2:Nat}{P1 P2:Nat->Value->Prop}{S1 S2:Nat->Heap->Prop}
theorem Fy{k:Nat}{a b:Value}(hh:A.handled=none)(D:Apart z TI TO i1 i2 qc o4)(p1:Part prog w i1 qc n1 P1 S1)(p2:Part prog w i2 o4 n2 P2 S2)(hz:IsZip s.heap z TI TO .none)(JE:IsPair s.heap TI (.ref i1) (.ref i2))(JF:IsPair s.heap TO a b)(h1:S1 k s.heap)(h2:S2 k s.heap)(hx:k<n1)(hy:k<n2)(hQ:∀x y h' tk,P1 k x->P2 k y->IsZip h' z TI TO (rawInt s.heap.objs.size)->IsPair h' TO x y->S1 (k+1) h'->S2 (k+1) h'->IsPair h' s.heap.objs.size x y->h'.objs.size=s.heap.objs.size+1 ->
    (∀c o,c≠z->c≠TO->c≠i1->c≠i2->s.heap.get? c=some o->h'.get? c=some o)->Q (.ref s.heap.objs.size) {s with heap:=h',toks:=tk}) :
  wpAny (model prog w) A (Builtin.«zip.__next__» ⟨[.ref z],[]⟩) (λfin s'=>∃v,fin=.done (.ret v)/\Q v s') E s:=by
 show wpAny _ _ (field (.ref z) 2 >>= _) _ _ _;refine wpAny_bind (wpAny_field hz rfl (x:=.bool false) rfl ?_);show wpAny _ _ (field (.ref z) 3 >>= _) _ _ _;refine wpAny_bind (wpAny_field hz rfl (x:=.ref TI) rfl ?_);refine wpAny_bind (wpAny_seqItems JE rfl ?_);show wpAny _ _ (Builtin.SmallTypes.ownedTupleIsFree (.ref z) >>= _) _ _ _;refine wpAny_bind ?_;unfold Builtin.SmallTypes.ownedTupleIsFree;refine wpAny_bind (wpAny_field hz rfl (x:=.none) rfl (wpAny_pure ?_));simp only[if_true];refine wpAny_bind (wpAny_rule ?_);refine wpAny_bind (wpAny_field hz rfl (x:=.ref TO) rfl ?_);refine wpAny_bind (wpAny_setField_rec hz (by simp) λh₁ ES D4=>?_)
 replace ES:IsZip h₁ z TI TO .ellipsis:=ES
 refine wpAny_bind ?_;simp only[List.zipIdx_cons,List.zipIdx_nil,List.forIn_cons,List.forIn_nil];have f1:∀{m h h' c},c∉qc->S1 m h->Heap.SameBut c h h'->S1 m h':=λ{m h h' c} hc st sb=>(p1.draws A hh).frame m h h' st λb hb o e=>sb.extBut b o (λq=>hc (q▸hb)) e;have f2:∀{m h h' c},c∉o4->S2 m h->Heap.SameBut c h h'->S2 m h':=λ{m h h' c} hc st sb=>(p2.draws A hh).frame m h h' st λb hb o e=>sb.extBut b o (λq=>hc (q▸hb)) e;refine wpAny_bind (wpAny_bind (wpAny_onRaise ?_));show wpAny _ _ (Builtin.SmallTypes.nextOf (.ref i1) >>= _) _ _ _;refine wpAny_bind ((p1.draws _ hh).item k _ _ _ hx (f1 D.z1 h1 D4) λx h₂ tk₂ px ZD rO=>wpAny_pure ?_)
 replace rO:Heap.SameBut i1 h₁ h₂:=rO
 have Fz:IsPair h₂ TO a b:=rO.extBut _ _ D.TOi1 (D4.extBut _ _ D.TOz JF);refine wpAny_bind (wpAny_seqItems Fz rfl ?_);refine wpAny_bind (wpAny_updateSeq_pair Fz λh₃ JG yK=>?_)
 replace JG:IsPair h₃ TO x b:=JG
 replace yK:Heap.SameBut TO h₂ h₃:=yK
 refine wpAny_bind (wpAny_letGo (wpAny_pure ?_));refine wpAny_bind (wpAny_bind (wpAny_onRaise ?_));show wpAny _ _ (Builtin.SmallTypes.nextOf (.ref i2) >>= _) _ _ _;refine wpAny_bind ((p2.draws _ hh).item k _ _ _ hy (f2 D.O2 (f2 D.x2 (f2 D.z2 h2 D4) rO) yK) λy h₄ tk₄ py h2₄ Ig=>wpAny_pure ?_)
 replace Ig:Heap.SameBut i2 h₃ h₄:=Ig
 have Th:IsPair h₄ TO x b:=Ig.extBut _ _ D.TOi2 JG;refine wpAny_bind (wpAny_seqItems Th rfl ?_);refine wpAny_bind (wpAny_updateSeq_pair Th λh₅ JH Ih=>?_)
 replace JH:IsPair h₅ TO x y:=JH
 replace Ih:Heap.SameBut TO h₄ h₅:=Ih
 refine wpAny_bind (wpAny_letGo (wpAny_pure (wpAny_pure ?_)));refine wpAny_bind (wpAny_seqItems JH rfl ?_);refine wpAny_bind (wpAny_newTuple ?_);have oW:h₅.objs.size=s.heap.objs.size:=by rw[Ih.1,Ig.1,yK.1,rO.1,D4.1]
 have ZE:IsZip h₅ z TI TO .ellipsis:=Ih.extBut _ _ D.TOz.symm (Ig.extBut _ _ D.i2z.symm (yK.extBut _ _ D.TOz.symm (rO.extBut _ _ D.i1z.symm ES)));have hk₅:∀c o,c≠z->c≠TO->c≠i1->c≠i2->s.heap.get? c=some o->h₅.get? c=some o:=λc o c1 c2 c3 c4 e=>
  Ih.extBut _ _ c2 (Ig.extBut _ _ c4 (yK.extBut _ _ c2 (rO.extBut _ _ c3 (D4.extBut _ _ c1 e))))
 have h1₅:S1 (k+1) h₅:=f1 D.O1 (f1 D.x1 (f1 D.O1 ZD yK) Ig) Ih;have h2₅:S2 (k+1) h₅:=f2 D.O2 h2₄ Ih;have Ti:z<h₅.objs.size:=eG ZE;show wpAny _ _ (Builtin.SmallTypes.ownedTupleHandOut (.ref z) (.ref h₅.objs.size) >>= _) _ _ _;refine wpAny_bind ?_;unfold Builtin.SmallTypes.ownedTupleHandOut;have hz₆:IsZip (h₅.push {cls:=.type "tuple",data:=.seq #[x,y]}) z TI TO .ellipsis:=eD _ ZE;refine wpAny_bind (wpAny_setField_rec hz₆ (by simp) λh₇ XE XG=>?_)
 replace XE:IsZip h₇ z TI TO (rawInt h₅.objs.size):=XE
 refine wpAny_setField_rec XE (by simp) λh₈ Vn XH=>?_
 replace Vn:IsZip h₈ z TI TO (rawInt h₅.objs.size):=Vn
 have up:∀c o,c≠z->h₅.get? c=some o->h₈.get? c=some o:=λc o c1 e=>XH.extBut _ _ c1 (XG.extBut _ _ c1 (eD _ e));have ZF:IsPair h₈ h₅.objs.size x y:=XH.extBut _ _ (Ca Ti) (XG.extBut _ _ (Ca Ti) (ph _ rfl));have ZG:h₈.objs.size=h₅.objs.size+1:=by rw[XH.1,XG.1,B']
 have h1₈:S1 (k+1) h₈:=(p1.draws A hh).frame _ _ _ h1₅ λb hb o e=>up b o (λq=>D.z1 (q▸hb)) e;have h2₈:S2 (k+1) h₈:=(p2.draws A hh).frame _ _ _ h2₅ λb hb o e=>up b o (λq=>D.z2 (q▸hb)) e;rw[oW] at Vn ZF ZG;refine wpAny_pure ⟨_,rfl,?_⟩;show Q (.ref h₅.objs.size) _;rw[oW];exact hQ x y h₈ tk₄ px py Vn (up _ _ D.TOz JH) h1₈ h2₈ ZF ZG λc o c1 c2 c3 c4 e=>up c o c1 (hk₅ c o c1 c2 c3 c4 e)
theorem JI{k:Nat}{a b:Value}{Q:PySem.Fin->Shared->Prop}(hh:A.handled=none)(D:Apart z TI TO i1 i2 qc o4)(p1:Part prog w i1 qc n1 P1 S1)(p2:Part prog w i2 o4 n2 P2 S2)(hz:IsZip s.heap z TI TO .none)(JE:IsPair s.heap TI (.ref i1) (.ref i2))(JF:IsPair s.heap TO a b)(h1:S1 k s.heap)(h2:S2 k s.heap)(OT:k=n1\/(k<n1/\k=n2))(hE:∀h' tk e,(∀c o,c≠z->c≠TO->c≠i1->c≠i2->s.heap.get? c=some o->h'.get? c=some o)->(∃o,h'.get? e=some o/\o.cls=.type "StopIteration")->E (.ref e) {s with heap:=h',toks:=tk}) :
  wpAny (model prog w) A (Builtin.«zip.__next__» ⟨[.ref z],[]⟩) Q E s:=by
 have f1:∀{m h h' c},c∉qc->S1 m h->Heap.SameBut c h h'->S1 m h':=λ{m h h' c} hc st sb=>(p1.draws A hh).frame m h h' st λb hb o e=>sb.extBut b o (λq=>hc (q▸hb)) e;have f2:∀{m h h' c},c∉o4->S2 m h->Heap.SameBut c h h'->S2 m h':=λ{m h h' c} hc st sb=>(p2.draws A hh).frame m h h' st λb hb o e=>sb.extBut b o (λq=>hc (q▸hb)) e;show wpAny _ _ (field (.ref z) 2 >>= _) _ _ _;refine wpAny_bind (wpAny_field hz rfl (x:=.bool false) rfl ?_);show wpAny _ _ (field (.ref z) 3 >>= _) _ _ _;refine wpAny_bind (wpAny_field hz rfl (x:=.ref TI) rfl ?_);refine wpAny_bind (wpAny_seqItems JE rfl ?_);show wpAny _ _ (Builtin.SmallTypes.ownedTupleIsFree (.ref z) >>= _) _ _ _;refine wpAny_bind ?_;unfold Builtin.SmallTypes.ownedTupleIsFree;refine wpAny_bind (wpAny_field hz rfl (x:=.none) rfl (wpAny_pure ?_));simp only[if_true];refine wpAny_bind (wpAny_rule ?_);refine wpAny_bind (wpAny_field hz rfl (x:=.ref TO) rfl ?_);refine wpAny_bind (wpAny_setField_rec hz (by simp) λh₁ ES D4=>?_)
 replace ES:IsZip h₁ z TI TO .ellipsis:=ES
 refine wpAny_bind ?_;simp only[List.zipIdx_cons,List.zipIdx_nil,List.forIn_cons,List.forIn_nil];refine wpAny_bind (wpAny_bind (wpAny_onRaise ?_));show wpAny _ _ (Builtin.SmallTypes.nextOf (.ref i1) >>= _) _ _ _;obtain rfl|⟨gq,rfl⟩:=OT
 . refine wpAny_bind ((p1.draws _ hh).done _ _ _ (f1 D.z1 h1 D4) λh₂ e rO he=>?_);obtain⟨oe,OU,Tj⟩:=he;have Vo:IsZip h₂ z TI TO .ellipsis:=rO _ _ D.i1z.symm ES;have XI:e≠z:=λx=>by subst x;rw[Vo] at OU;cases OU;simp at Tj
   refine wpAny_setField_rec Vo (by simp) λh₃ _ yK=>hE h₃ _ e (λc o c1 _ c3 _ x=>yK.extBut _ _ c1 (rO _ _ c3 (D4.extBut _ _ c1 x))) ⟨oe,yK.extBut _ _ XI OU,Tj⟩
 . refine wpAny_bind ((p1.draws _ hh).item k _ _ _ gq (f1 D.z1 h1 D4) λx h₂ tk₂ px ZD rO=>wpAny_pure ?_)
   replace rO:Heap.SameBut i1 h₁ h₂:=rO
   have Fz:IsPair h₂ TO a b:=rO.extBut _ _ D.TOi1 (D4.extBut _ _ D.TOz JF);refine wpAny_bind (wpAny_seqItems Fz rfl ?_);refine wpAny_bind (wpAny_updateSeq_pair Fz λh₃ JG yK=>?_)
   replace yK:Heap.SameBut TO h₂ h₃:=yK
   refine wpAny_bind (wpAny_letGo (wpAny_pure ?_));refine wpAny_bind (wpAny_bind (wpAny_onRaise ?_));show wpAny _ _ (Builtin.SmallTypes.nextOf (.ref i2) >>= _) _ _ _;refine wpAny_bind ((p2.draws _ hh).done _ _ _ (f2 D.O2 (f2 D.x2 (f2 D.z2 h2 D4) rO) yK) λh₄ e Ig he=>?_);obtain⟨oe,OU,Tj⟩:=he;have ZH:IsZip h₄ z TI TO .ellipsis:=Ig _ _ D.i2z.symm (yK.extBut _ _ D.TOz.symm (rO.extBut _ _ D.i1z.symm ES));have XI:e≠z:=λx=>by subst x;rw[ZH] at OU;cases OU;simp at Tj
   refine wpAny_setField_rec ZH (by simp) λh₅ _ Ih=>hE h₅ _ e (λc o c1 c2 c3 c4 x=>Ih.extBut _ _ c1 (Ig _ _ c4 (yK.extBut _ _ c2 (rO.extBut _ _ c3 (D4.extBut _ _ c1 x))))) ⟨oe,Ih.extBut _ _ XI OU,Tj⟩
theorem oA{k:Nat}{a b:Value}{Q:(Option Value)->Shared->Prop}(hh:A.handled=none)(D:Apart z TI TO i1 i2 qc o4)(p1:Part prog w i1 qc n1 P1 S1)(p2:Part prog w i2 o4 n2 P2 S2)(hz:IsZip s.heap z TI TO .none)(JE:IsPair s.heap TI (.ref i1) (.ref i2))(JF:IsPair s.heap TO a b)(h1:S1 k s.heap)(h2:S2 k s.heap)(hx:k<n1)(hy:k<n2)(hQ:∀x y h' tk,P1 k x->P2 k y->IsZip h' z TI TO (rawInt s.heap.objs.size)->IsPair h' TO x y->S1 (k+1) h'->S2 (k+1) h'->IsPair h' s.heap.objs.size x y->h'.objs.size=s.heap.objs.size+1 ->
    (∀c o,c≠z->c≠TO->c≠i1->c≠i2->s.heap.get? c=some o->h'.get? c=some o)->Q (some (.ref s.heap.objs.size)) {s with heap:=h',toks:=tk}):wpAny (model prog w) A (pyNext (.ref z)) Q E s:=by
 have hT:s.TypeIs (.ref z) "zip":=⟨_,hz,rfl⟩;unfold pyNext;exact wpAny_bind (wpAny_attempt (wpAny_callSpecial?_slot (name:=Str.ofString "__next__") hT F.slot_zip_next
  (wpAny_call_entry F.slot_zip_next hT F.entry_zip_next
    (Fy hh D p1 p2 hz JE JF h1 h2 hx hy λx y h' tk q1 q2 a1 a2 a3 a4 a5 a6 a7=>wpAny_pure (hQ x y h' tk q1 q2 a1 a2 a3 a4 a5 a6 a7)) (F.args_zip_next_1 _))))
theorem qd{k:Nat}{a b:Value}{Q:(Option Value)->Shared->Prop}(hh:A.handled=none)(D:Apart z TI TO i1 i2 qc o4)(p1:Part prog w i1 qc n1 P1 S1)(p2:Part prog w i2 o4 n2 P2 S2)(hz:IsZip s.heap z TI TO .none)(JE:IsPair s.heap TI (.ref i1) (.ref i2))(JF:IsPair s.heap TO a b)(h1:S1 k s.heap)(h2:S2 k s.heap)(OT:k=n1\/(k<n1/\k=n2))(hQ:∀h' tk,(∀c o,c≠z->c≠TO->c≠i1->c≠i2->s.heap.get? c=some o->h'.get? c=some o)->Q none {s with heap:=h',toks:=tk}):wpAny (model prog w) A (pyNext (.ref z)) Q E s:=by
 have hT:s.TypeIs (.ref z) "zip":=⟨_,hz,rfl⟩;unfold pyNext;refine wpAny_bind (wpAny_attempt (wpAny_callSpecial?_slot (name:=Str.ofString "__next__") hT F.slot_zip_next
  (wpAny_call_entry F.slot_zip_next hT F.entry_zip_next (JI hh D p1 p2 hz JE JF h1 h2 OT λh' tk e hk he=>?_) (F.args_zip_next_1 _))))
 obtain⟨o,ho,hc⟩:=he;refine wpAny_bind (wpAny_isInstance (T:="StopIteration") (b:=true) ⟨o,ho,hc⟩ isSubtype_stop ?_);exact wpAny_pure (hQ _ _ hk)
end
def i9(v:Value)(o:Obj)(c:Heap->Prop):Prop:=∀(prog:Program)(w:World)(A:Around)(E:qad)(s:Shared)(Q:qad),c s.heap ->
 Q (.ref s.heap.objs.size) {s with heap:=s.heap.push o}->wpAny (model prog w) A (pyIter v) Q E s
theorem xj(l:Addr)(items:Array Value):i9 (.ref l) {cls:=.type "list_iterator",data:=.fields #[.ref l,.int 0 0]} (λh=>h.IsList l items):=λ_ _ _ _ _ _ h q=>wpAny_pyIter_list h q
theorem u4(l:Addr)(items:Array Value):i9 (.ref l) {cls:=.type "tuple_iterator",data:=.fields #[.ref l,.int 0 0]} (λh=>h.IsTuple l items):=λ_ _ _ _ _ _ h q=>wpAny_pyIter_tuple h q
theorem zm(x:Str)(t:Tok):i9 (.str x t) {cls:=.type (strIterType x),data:=.fields #[.str x t,.int 0 0]} (λ_=>True):=λ_ _ _ _ _ _ _ q=>wpAny_pyIter_strU q
noncomputable abbrev Vp(h:Heap)(o1 o2:Obj):Heap:=((h.push o1).push o2).push {cls:=.type "tuple",data:=.seq #[.ref h.objs.size,.ref (h.push o1).objs.size]}
noncomputable abbrev Vq(h:Heap)(o1 o2:Obj):Heap:=(Vp h o1 o2).push {cls:=.type "tuple",data:=.seq #[.none,.none]}
noncomputable abbrev OW(h:Heap)(o1 o2:Obj):Heap:=(Vq h o1 o2).push {cls:=.type "zip",data:=.fields #[.none,.bool false,.bool false,.ref ((h.push o1).push o2).objs.size,.ref (Vp h o1 o2).objs.size]}
theorem zo{v1 v2:Value}{o1 o2:Obj}{c1 c2:Heap->Prop}(i1:i9 v1 o1 c1)(i2:i9 v2 o2 c2)(CC:∀h o,c2 h->c2 (h.push o)) :
  Meets (Builtin.«zip.__new__» ⟨[.type "zip",v1,v2],[]⟩) (λ_ R s=>c1 s.heap/\c2 s.heap /\
   R (.ok (.ret (.ref (Vq s.heap o1 o2).objs.size))) {s with heap:=OW s.heap o1 o2}) :=
 .of_wp λprog w A R s h=>by
  obtain⟨hp,g,d,tk,os⟩:=s;obtain⟨Tn,D2,h⟩:=h;have FC:=sub_zip;have hC2:=CC _ o1 D2;have I1:∀(A:Around)(E:qad)(Q:qad),Q (.ref hp.objs.size) ⟨hp.push o1,g,d,tk,os⟩->wpAny (model prog w) A (pyIter v1) Q E ⟨hp,g,d,tk,os⟩:=λA E Q q=>i1 prog w A E _ Q Tn q;have I2:∀(A:Around)(E:qad)(Q:qad),Q (.ref (hp.push o1).objs.size) ⟨(hp.push o1).push o2,g,d,tk,os⟩->wpAny (model prog w) A (pyIter v2) Q E ⟨hp.push o1,g,d,tk,os⟩:=λA E Q q=>i2 prog w A E _ Q hC2 q
  wp_walk using I1,I2
  exact⟨_,rfl,h⟩
section
variable{s:Shared}
theorem CD{v1 v2:Value}{o1 o2:Obj}{c1 c2:Heap->Prop}(i1:i9 v1 o1 c1)(i2:i9 v2 o2 c2)(CC:∀h o,c2 h->c2 (h.push o))(h1:c1 s.heap)(h2:c2 s.heap)(XJ:o1.isFreed=false)(XM:o2.isFreed=false)(h:∀h',IsZip h' (s.heap.objs.size+4) (s.heap.objs.size+2) (s.heap.objs.size+3) .none->IsPair h' (s.heap.objs.size+2) (.ref s.heap.objs.size) (.ref (s.heap.objs.size+1)) ->
    IsPair h' (s.heap.objs.size+3) .none .none->h'.get? s.heap.objs.size=some o1->h'.get? (s.heap.objs.size+1)=some o2->h'.objs.size=s.heap.objs.size+5 ->
    (∀c o,s.heap.get? c=some o->h'.get? c=some o)->Q (.ref (s.heap.objs.size+4)) {s with heap:=h'}) :
  wpAny (model prog w) A (call (.type "zip") [v1,v2]) Q E s:=by
 refine callType_new F.called_zip (by decide) (F.typeCall_zip_2 _ _) (F.newCall_zip_2 _ _) (λobj=>F.args_object_init_3 obj _ _) F.entry_zip_new
  (zo i1 i2 CC) ⟨h1,h2,?_⟩
 have z1:(s.heap.push o1).objs.size=s.heap.objs.size+1:=B' ..;have z2:((s.heap.push o1).push o2).objs.size=s.heap.objs.size+2:=by rw[B',z1]
 have z3:(Vp s.heap o1 o2).objs.size=s.heap.objs.size+3:=by rw[B',z2]
 have z4:(Vq s.heap o1 o2).objs.size=s.heap.objs.size+4:=by rw[B',z3]
 have z5:(OW s.heap o1 o2).objs.size=s.heap.objs.size+5:=by rw[B',z4]
 have g5:(OW s.heap o1 o2).get? (Vq s.heap o1 o2).objs.size=some _:=ph _ rfl;have g4:(OW s.heap o1 o2).get? (Vp s.heap o1 o2).objs.size=some _:=eD _ (ph _ rfl);have g3:(OW s.heap o1 o2).get? ((s.heap.push o1).push o2).objs.size=some _:=eD _ (eD _ (ph _ rfl));have g2:(OW s.heap o1 o2).get? (s.heap.push o1).objs.size=some _:=eD _ (eD _ (eD _ (ph _ XM)));have g1:(OW s.heap o1 o2).get? s.heap.objs.size=some _:=eD _ (eD _ (eD _ (eD _ (ph _ XJ))));show _/\_;rw[z2,z3,z4] at g5;rw[z1,z2] at g3;rw[z3] at g4;rw[z1] at g2;rw[z4];exact⟨⟨_,g5,rfl⟩,h _ g5 g3 g4 g1 g2 z5 λc o x=>
  eD _ (eD _ (eD _ (eD _ (eD _ x))))⟩
end
structure CF(P:Program)(w:World)(K:qaf)(i:Addr)(fp:qah)(sq:Hp->qak->Prop)(it:Nat->Heap->Prop):Prop where
 part:∀(X:Cx)(pins:qaa)(σ:St)(H:Hp)(s:Shared),X.prog=P->X.w=w->X.K=K->Inv X pins σ H s->∀xs,sq H xs ->
  ∃(Pv:Nat->Value->Prop)(S:Nat->Heap->Prop),Part P w i fp xs.length Pv S/\(∀k v,Pv k v->∃x,xs[k]?=some x/\RelV x v)/\(∀k h,S k h->it k h)/\∀k,it k s.heap->S k s.heap
 keep:∀k h h',it k h->(∀o,h.get? i=some o->h'.get? i=some o)->it k h'
 obj:∀k h,it k h->∃o,h.get? i=some o/\∀v,o.data≠.cell v
 inj:∀(X:Cx)(pins:qaa)(σ:St)(H:Hp)(s:Shared),X.K=K->Inv X pins σ H s->∀xs ys,sq H xs->sq H ys->xs=ys
theorem src_list(i l:Addr)(jz:l≠i):CF P w K i [i,l] (λH xs=>fN K H l xs) (λk h=>h.IsListIter i l k) where
 part:=λX pins σ H s hP hw hK I xs hq=>by
  subst hP hw hK;obtain⟨aK,rv,p,hz⟩:=I.list hq;have e:aK.toArray.size=xs.length:=by simp[rv.length]
  refine⟨_,_,e▸CA i l jz aK.toArray,λk v hv=>?_,λk h st=>st.1,λk st=>⟨st,p.isList⟩⟩;have zp:aK[k]?=some v:=by simpa using hv
  have hk:k<xs.length:=by rw[<- e];simp;exact (gN.mp zp).1
  obtain⟨u,hu,ru⟩:=rv.get (show xs[k]?=some xs[k] by simp);rw[zp] at hu;cases hu;exact⟨_,by simp,ru⟩
 keep:=λk h h' st q=>st.at q
 obj:=λk h st=>let ⟨o,e,_,d⟩:=st;⟨o,e,λv z=>by rw[d] at z;cases z⟩
 inj:=λX pins σ H s hK I xs ys h1 h2=>by subst hK;exact I.kM h1 h2
theorem src_tuple(i l:Addr)(jz:l≠i):CF P w K i [i,l] (λH xs=>eF K H l xs) (λk h=>h.IsTupleIter i l k) where
 part:=λX pins σ H s hP hw hK I xs hq=>by
  subst hP hw hK;obtain⟨aK,rv,p,hz⟩:=I.tuple hq;have e:aK.toArray.size=xs.length:=by simp[rv.length]
  refine⟨_,_,e▸zl i l jz aK.toArray,λk v hv=>?_,λk h st=>st.1,λk st=>⟨st,p⟩⟩;have zp:aK[k]?=some v:=by simpa using hv
  have hk:k<xs.length:=by rw[<- e];simp;exact (gN.mp zp).1
  obtain⟨u,hu,ru⟩:=rv.get (show xs[k]?=some xs[k] by simp);rw[zp] at hu;cases hu;exact⟨_,by simp,ru⟩
 keep:=λk h h' st q=>let ⟨o,e,r⟩:=st;⟨o,q o e,r⟩
 obj:=λk h st=>let ⟨o,e,_,d⟩:=st;⟨o,e,λv z=>by rw[d] at z;cases z⟩
 inj:=λX pins σ H s hK I xs ys h1 h2=>by subst hK;exact I.mz h1 h2
def zq(x:Str):qak:=x.cps.toList.map λc=>.str ⟨#[c]⟩
theorem JJ(i:Addr)(x:Str)(t:Tok):CF P w K i [i] (λ_ xs=>xs=zq x) (λk h=>h.IsStrIter i (strIterType x) x t k) where
 part:=λX pins σ H s hP hw hK I xs hq=>by
  subst hP hw hK hq;have e:x.cps.size=(zq x).length:=by unfold zq;simp
  refine⟨_,_,e▸Fx i x t,λk v hv=>?_,λk h st=>st,λk st=>st⟩;obtain⟨c,u,h1,rfl⟩:=hv;exact⟨.str ⟨#[c]⟩,by unfold zq;rw[mf];simp[h1],u,rfl⟩
 keep:=λk h h' st q=>let ⟨o,e,r⟩:=st;⟨o,q o e,r⟩
 obj:=λk h st=>let ⟨o,e,_,d⟩:=st;⟨o,e,λv z=>by rw[d] at z;cases z⟩
 inj:=λX pins σ H s hK I xs ys h1 h2=>by rw[h1,h2]
section
variable{s:Shared}
theorem JK{ch:qah}(I:Inv X pins σ H s)(k:∀b u,b∉ch->s.heap.get? b=some u->h'.get? b=some u)(hf:∀b∈ch,mB X pins H b):Inv X pins σ H {s with heap:=h',toks:=t'}:=by
 have Eg:∀b u,H b=some u->b∉ch:=λb u e z=>by rw[(hf b z).1] at e;cases e
 refine I.step (g':=s.gens) (d':=s.drawn) (ch:=ch) (λb hb=>?_) (λb u _ _ hc e _=>k b u hc e) (λb u _ _ hc e _=>⟨u.slots,k b u hc e⟩) (λb u _ e n=>n) (λb u hc e=>⟨u,k b u hc e⟩)
  (λb xs e=>e) (λb u v e=>e) (λb ps e=>⟨#[],?_⟩) (λm hm=>?_) (λb u e=>?_) I.bare
 obtain⟨_,f1,_,f3,f4,f5⟩:=hf b hb;exact⟨f3,f1,f4,f5⟩;rw[e];simp;obtain⟨ob,es,ep,ho,r⟩:=hm;exact⟨ob,es,ep,k _ ob (λz=>(hf _ z).2.1 rfl) ho,r⟩;refine (I.bG b u e).ot (λc v hc q=>k c v ?_ q) (λc q=>q) λc xs q=>q;obtain z|z:=hc
 rw[z];exact Eg b u e;exact Eg c _ z
end
def XN(zt zu:Hp->qak->Prop):It :=
 ⟨λi H=>∃xs ys,zt H xs/\zu H ys/\i<xs.length/\i<ys.length,λi H v H'=>∃t x y,H t=none/\v=.ref t/\(∀xs,zt H xs->xs[i]?=some x)/\(∀ys,zu H ys->ys[i]?=some y)/\H'=upd H t (.tup [x,y]),
  λi H=>∃xs ys,zt H xs/\zu H ys/\(i=xs.length\/(i<xs.length/\i=ys.length))⟩
theorem FD{elts:qap}{x1}{tp:Pos}{z TI TO i1 i2:Addr}{qc o4:qah}{zt zu:Hp->qak->Prop}{t1 t2:Nat->Heap->Prop}(D:Apart z TI TO i1 i2 qc o4)(p1:CF P w K i1 qc zt t1)(p2:CF P w K i2 o4 zu t2) :
  Turn P w K (.Tuple elts x1 tp) (XN zt zu) [z,TI,TO,i1,i2] z (λi h=>IsZip h z TI TO .none/\IsPair h TI (.ref i1) (.ref i2)/\(∃a b,IsPair h TO a b)/\t1 i h/\t2 i h) where
 mem:=by simp
 obj:=λi h st b hb=>by
  obtain⟨h1,h2,⟨a,c,h3⟩,h4,h5⟩:=st;simp only[bL,cq,or_false] at hb;obtain rfl|rfl|rfl|rfl|rfl:=hb
  exact⟨_,h1,λv q=>by cases q⟩;exact⟨_,h2,λv q=>by cases q⟩;exact⟨_,h3,λv q=>by cases q⟩;exact p1.obj i h h4;exact p2.obj i h h5
 keep:=λi h h' st k=>by obtain⟨h1,h2,⟨a,c,h3⟩,h4,h5⟩:=st;exact⟨k z (by simp) _ h1,k TI (by simp) _ h2,⟨a,c,k TO (by simp) _ h3⟩,p1.keep i h h' h4 λo q=>k i1 (by simp) o q,p2.keep i h h' h5 λo q=>k i2 (by simp) o q⟩
 item:=by
  intro X hP hw hK hc i pins s σ H E I hf st hg;obtain⟨xs,ys,Vr,Ii,l1,l2⟩:=hg;obtain⟨h1,h2,⟨a,c,h3⟩,h4,h5⟩:=st;obtain⟨P1,S1,q1,v1,b1,f1⟩:=p1.part X pins σ H s hP hw hK I xs Vr;obtain⟨P2,S2,q2,v2,b2,f2⟩:=p2.part X pins σ H s hP hw hK I ys Ii;refine oA (I.ok.hd hc) D q1 q2 h1 h2 h3 (f1 i h4) (f2 i h5) l1 l2 λx y h₁ tk px py ES XO s1 s2 hp₁ oW hk=>?_;obtain⟨x',ex,rx⟩:=v1 i x px;obtain⟨y',ey,ry⟩:=v2 i y py;refine⟨_,rfl,wpAny_letOwnedTupleGo_zip ES λh₂ Vo rO=>?_⟩;have rP:Heap.SameBut z h₁ h₂:=rO;have gq:z<s.heap.objs.size:=eG h1;have W9:s.heap.objs.size≠z:=Ca gq;have kk:∀b ob,b∉[z,TI,TO,i1,i2]->s.heap.get? b=some ob->h₂.get? b=some ob:=λb ob hb q=>by simp only[bL,cq,or_false,not_or] at hb;exact (rP.2 b hb.1).trans (hk b ob hb.1 hb.2.2.1 hb.2.2.2.1 hb.2.2.2.2 q)
  have new:b_ X.prog X.w (upd H s.heap.objs.size (.tup [x',y'])) h₂ s.heap.objs.size (.tup [x',y']) :=
   ⟨by show 2<=sizeLine;rw[sizeLine_eq];decide,[x,y],.cons rx (.cons ry .nil),⟨_,(rP.2 _ W9).trans hp₁,rfl,_,rfl⟩⟩
  refine⟨.ref s.heap.objs.size,upd H s.heap.objs.size (.tup [x',y']),I.grown (t':=tk) kk hf (eB _) new,rfl,⟨_,x',y',I.fresh,rfl,λzs hz=>by rw[p1.inj X pins σ H s hK I _ _ hz Vr];exact ex,λzs hz=>by rw[p2.inj X pins σ H s hK I _ _ hz Ii];exact ey,rfl⟩,⟨Vo,?_,⟨x,y,?_⟩,?_,?_⟩,λb hb=>?_⟩;exact (rP.2 TI D.TIz).trans (hk TI _ D.TIz D.TITO D.TIi1 D.TIi2 h2);exact (rP.2 TO D.TOz).trans XO;exact p1.keep _ _ _ (b1 _ _ s1) λo q=>(rP.2 i1 D.i1z).trans q;exact p2.keep _ _ _ (b2 _ _ s2) λo q=>(rP.2 i2 D.i2z).trans q;have Xa:b<s.heap.objs.size:=by
   simp only[bL,cq,or_false] at hb;obtain rfl|rfl|rfl|rfl|rfl:=hb
   exact gq;exact eG h2;exact eG h3;obtain⟨o,e,_⟩:=p1.obj i _ h4;exact eG e;obtain⟨o,e,_⟩:=p2.obj i _ h5;exact eG e
  rw[aH (iJ Xa)];exact (hf b hb).1
 done:=by intro X hP hw hK hc i pins s σ H E I hf st hg;obtain⟨xs,ys,Vr,Ii,he⟩:=hg;obtain⟨h1,h2,⟨a,c,h3⟩,h4,h5⟩:=st;obtain⟨P1,S1,q1,v1,b1,f1⟩:=p1.part X pins σ H s hP hw hK I xs Vr;obtain⟨P2,S2,q2,v2,b2,f2⟩:=p2.part X pins σ H s hP hw hK I ys Ii;refine qd (I.ok.hd hc) D q1 q2 h1 h2 h3 (f1 i h4) (f2 i h5) he λh' tk hk=>⟨rfl,?_⟩;refine JK (t':=tk) I (λb u hb q=>?_) hf;simp only[bL,cq,or_false,not_or] at hb;exact hk b u hb.1 hb.2.2.1 hb.2.2.2.1 hb.2.2.2.2 q
 self:=λ_ _ _ _ _ st h=>by obtain⟨h1,_⟩:=st;exact wpAny_pyIter_zip h1 h
inductive ZK(K:qaf)(H:Hp):V->(Hp->qak->Prop)->Prop where
 |lst {a:Addr} {xs:qak}:fN K H a xs->ZK K H (.ref a) (λH xs=>fN K H a xs)
 |tup {a:Addr} {xs:qak}:eF K H a xs->ZK K H (.ref a) (λH xs=>eF K H a xs)
 |str (z:Str):ZK K H (.str z) (λ_ xs=>xs=zq z)
theorem Mg{s:Shared}{x:V}{sq:Hp->qak->Prop}(I:Inv X pins σ H s)(z:ZK X.K H x sq)(r:RelV x u) :
  ∃(o:Obj)(c:Heap->Prop)(fp:qah)(it:Addr->Nat->Heap->Prop),i9 u o c/\c s.heap/\(∀h o,c h->c (h.push o))/\o.isFreed=false/\(∀b∈fp,b<s.heap.objs.size) /\
   ∀i,s.heap.objs.size<=i->CF X.prog X.w X.K i (i::fp) sq (it i)/\∀h,h.get? i=some o->it i 0 h:=by
 cases z with
 |lst hq=>
   rename_i a xs
   cases r;obtain⟨aK,rv,p,hz⟩:=I.list hq;have hl:a<s.heap.objs.size:=by obtain⟨o,n,e,_⟩:=p;exact eG e
   refine⟨_,_,[a],λi k h=>h.IsListIter i a k,xj a aK.toArray,p.isList,λh o q=>Heap.IsList.push q _,rfl,λb hb=>by rw[wj.mp hb];exact hl,λi hi=>⟨src_list i a (iJ (oq hl hi)),λh e=>⟨_,e,rfl,rfl⟩⟩⟩
 |tup hq=>
   rename_i a xs
   cases r;obtain⟨aK,rv,p,hz⟩:=I.tuple hq;have hl:a<s.heap.objs.size:=by obtain⟨o,e,_⟩:=p;exact eG e
   refine⟨_,_,[a],λi k h=>h.IsTupleIter i a k,u4 a aK.toArray,p,λh o q=>(let ⟨o',e,r⟩:=q;⟨o',eD _ e,r⟩),rfl,λb hb=>by rw[wj.mp hb];exact hl,λi hi=>⟨src_tuple i a (iJ (oq hl hi)),λh e=>⟨_,e,rfl,rfl⟩⟩⟩
 |str z=>obtain⟨t,rfl⟩:=r;refine⟨_,_,[],λi k h=>h.IsStrIter i (strIterType z) z t k,zm z t,trivial,λ_ _ _=>trivial,rfl,λb hb=>?_,λi hi=>⟨JJ i z t,λh e=>⟨_,e,rfl,rfl⟩⟩⟩;cases hb
theorem nn{a b:Nat}(h:a<b):a≠b:=iJ h
theorem FH{qc o4:qah}(h1:∀b∈qc,b<n)(h2:∀b∈o4,b<n):Apart (n+4) (n+2) (n+3) n (n+1) (n::qc) ((n+1)::o4):=by
 have k1:∀b:Nat,n<b->b∉(n::qc):=λb hb m=>by
  rcases bL.mp m with q|q
  exact Ca hb q;exact HY _ (Nat.lt_trans hb (h1 b q))
 have k2:∀b:Nat,n+1<b->b∉((n+1)::o4):=λb hb m=>by
  rcases bL.mp m with q|q
  exact Ca hb q;exact HY _ (Nat.lt_trans (Nat.lt_trans (QT n) hb) (h2 b q))
 have k3:n∉((n+1)::o4):=λm=>by
  rcases bL.mp m with q|q
  exact iJ (QT n) q;exact HY _ (h2 n q)
 exact⟨nn (by omega),nn (by omega),nn (by omega),nn (by omega),nn (by omega),(nn (by omega)).symm,(nn (by omega)).symm,(nn (by omega)).symm,(nn (by omega)).symm,nn (by omega),k1 _ (by omega),k2 _ (by omega),k1 _ (by omega),k2 _ (by omega),k1 _ (by omega),k3⟩
theorem JL(h:c∈[n+4,n+2,n+3,n,n+1]):n<=c:=by simp only[bL,cq,or_false] at h;omega
def XQ(K:qaf)(ta:TA):TI:=λσ H R=>ta σ H λvs H1=>∃x y zt zu,vs=[x,y]/\ZK K H1 x zt/\ZK K H1 y zu/\R (XN zt zu) H1
section
variable{Z:Zc}
theorem boot_zip:bootBuiltins "zip"=some (.type "zip"):=by decide +kernel
theorem OX{elts:qap}{x1}{tp:Pos}{a:Expr}{ta:TA}(hg:Gl X "zip")(hm:X.mg "zip"=none)(ha:PA X [a,b] ta)(hs:starEach [a,b] X.env=[(false,eval a X.env),(false,eval b X.env)])(tu:starEach [b] X.env=[(false,eval b X.env)]) :
  PI X (.Tuple elts x1 tp) (.Call (.Name "zip" p) [a,b] [] pos) (XQ X.K ta):=by
 intro pins s σ H R I h;refine Call_ (j8 I hg hm boot_zip (UN (cm (ha pos pins s σ H _ I h) λus s1 ⟨vs,H1,I1,r1,q1⟩=>?_) (by rw[hs,tu]) (by rw[tu];rfl)));obtain⟨x,y,zt,zu,e,k1,k2,q⟩:=q1;subst e;obtain⟨u,w',rfl,ru,rw'⟩:=vals2 r1;obtain⟨o1,c1,qc,t1,i1,Tn,hp1,XJ,JM,z1⟩:=Mg I1 k1 ru;obtain⟨o2,c2,o4,t2,i2,D2,CC,XM,OY,z2⟩:=Mg I1 k2 rw';refine CD i1 i2 CC Tn D2 XJ XM λh' hz JE JF g1 g2 oW hk=>?_;have I2:Inv X pins σ H1 {s1 with heap:=h'}:=I1.kept (t':=s1.toks) hk;refine wpAny_pyIter_zip hz ?_;obtain⟨S1,a1⟩:=z1 s1.heap.objs.size (eB _);obtain⟨S2,a2⟩:=z2 (s1.heap.objs.size+1) (Ng _);have D:Apart (s1.heap.objs.size+4) (s1.heap.objs.size+2) (s1.heap.objs.size+3) s1.heap.objs.size (s1.heap.objs.size+1) (s1.heap.objs.size::qc) ((s1.heap.objs.size+1)::o4):=by exact FH JM OY
 refine⟨s1.heap.objs.size+4,_,_,_,H1,rfl,I2,FD D S1 S2,⟨hz,JE,⟨_,_,JF⟩,a1 _ g1,a2 _ g2⟩,λc hc=>?_,q⟩;have ZI:s1.heap.objs.size<=c:=JL hc;exact I1.rK ZI (I1.bG.fresh ZI)
noncomputable def OZ:T->Option (List T)
 |.lst ts=>some ts
 |.tup ts=>some ts
 |.str z=>some (z.cps.toList.map λc=>.str ⟨#[c]⟩)
 |_=>none
noncomputable def qe(xs ys:List T):List T:=List.zipWith (λa b=>.tup [a,b]) xs ys
noncomputable def XR(fa fb:FE):FI:=λρ Q=>fa ρ λx=>fb ρ λy=>match OZ x,OZ y with
 |some xs,some ys=>Q (qe xs ys)
 |_,_=>False
theorem Mh{A:qah}{x:T}{xs:List T}(h:At K H A x v)(e:OZ x=some xs):∃sq,ZK K H v sq/\∀H A,At K H A x v->∃vs,sq H vs/\aB K H A xs vs:=by
 cases x with
 |lst ts=>cases e;simp only[At] at h;obtain⟨a,vs,rfl,l,q⟩:=h;refine⟨_,.lst l.sq,λH A h=>?_⟩;simp only[At] at h;obtain⟨a',kG,e,l',q'⟩:=h;cases e;exact⟨kG,l'.sq,q'⟩
 |tup ts=>cases e;simp only[At] at h;obtain⟨a,vs,rfl,l,q⟩:=h;refine⟨_,.tup l,λH A h=>?_⟩;simp only[At] at h;obtain⟨a',kG,e,l',q'⟩:=h;cases e;exact⟨kG,l',q'⟩
 |str z=>
  cases e;simp only[At] at h;subst h;refine⟨_,.str z,λH A h=>⟨zq z,rfl,?_⟩⟩;unfold zq;generalize z.cps.toList=l;induction l with
  |nil=>exact aB.nil
  |cons c l ih=>exact aB.cons bJ ih
 |_=>cases e
theorem O0{x y:T}{w:V}{xs ys:List T}{zt zu:Hp->qak->Prop}(h1:∀H A,At K H A x v->∃vs,zt H vs/\aB K H A xs vs)(h2:∀H A,At K H A y w->∃vs,zu H vs/\aB K H A ys vs) :
  Wk K (XN zt zu) [(x,v),(y,w)] (qe xs ys):=λH A hA h i=>by
 obtain⟨vs,q1,l1⟩:=h1 H A (h _ eE);obtain⟨ws,q2,l2⟩:=h2 H A (h _ (fY _ eE));have e1:=l1.length;have e2:=l2.length;have el:(qe xs ys).length=min xs.length ys.length:=by unfold qe;rw[List.length_zipWith]
 rw[el];refine⟨λhi=>⟨vs,ws,q1,q2,by omega,by omega⟩,λhi=>⟨vs,ws,q1,q2,by omega⟩,λt ht x H' y=>?_⟩;obtain⟨p,a,b,hp,rfl,ha,hb,rfl⟩:=y;unfold qe at ht;rw[List.getElem?_zipWith] at ht;cases ex:xs[i]? with
 |none=>rw[ex] at ht;cases ht
 |some tx=>
   cases ey:ys[i]? with
   |none=>rw[ex,ey] at ht;cases ht
   |some ty=>rw[ex,ey] at ht;cases ht;obtain⟨v1,g1,g2⟩:=l1.get ex;obtain⟨v2,g3,g4⟩:=l2.get ey;have z1:=ha vs q1;have z2:=hb ws q2;rw[g1] at z1;rw[g3] at z2;cases z1;cases z2;exact⟨aQ hp,bK (eF.of aY) (aB.cons (g2.same (aQ hp)) (aB.cons (g4.same (aQ hp)) aB.nil))⟩
theorem O3{elts:qap}{x1}{tp:Pos}{a:Expr}{fa fb:FE}(hg:Gl X "zip")(hm:X.mg "zip"=none)(ha:VE X Z a fa)(hb:VE X Z b fb)(hs:starEach [a,b] X.env=[(false,eval a X.env),(false,eval b X.env)]:=by rfl)(tu:starEach [b] X.env=[(false,eval b X.env)]:=by rfl) :
  VI X Z (.Tuple elts x1 tp) (.Call (.Name "zip" p) [a,b] [] pos) (XR fa fb):=.mk λtm=>
 PI.weak (OX hg hm (bj (ha tm) (bj (hb tm) cF tu) (by rw[hs,tu])) hs tu) λσ H R ⟨ρ,O,q,I,hf,k⟩=>⟨ρ,O,_,I,hf,λx hx v H1 s1 a1=>⟨ρ,O,_,I.same s1,hx,λy hy w H2 s2 a2=>by
  split at hy
  rename_i xs ys e1 e2
  obtain⟨zt,k1,w1⟩:=Mh (a1.same s2) e1;obtain⟨zu,k2,w2⟩:=Mh a2 e2;exact⟨v,w,zt,zu,rfl,k1,k2,k _ hy _ H2 _ (s1.trans s2) (λp hp=>by
   rcases bL.mp hp with e|hp
   rw[e];exact a1.same s2;rw[wj.mp hp];exact a2) (O0 w1 w2)⟩
  exact hy.elim⟩⟩
end
end VT
variable{Z:VT.Zc}{ts:List VT.T}{ρ:VT.En}{fa fb fe:VT.FE}{tm:List (VT.T×L2.V)}{g:VT.FA}
abbrev qab:=List (VT.T×L2.V)
abbrev qaj:=List VT.T
abbrev qam:=VT.Rt->Prop
abbrev qas:=@VT.VP.vr
abbrev qat:=@VT.VP.ve
abbrev qau:=@VT.VP.vx
namespace HE
open PySem PySem.W PySem.Calls PyProof.Rows
noncomputable def o5(tb:String->Option Builtin)(p:Program)(w:World)(n₀:Nat)(ann:Option Value):Nat->SharedT->Thread->Option SharedT
 |0,_,_=>none
 |n+1,s,t=>match through t with
  |true=>some s
  |false=>match stepOk n₀ ann t with
   |false=>none
   |true=>match stepT (denote tb) p w s t with
    |some (s',t')=>o5 tb p w n₀ ann n s' t'
    |none=>none
theorem tE{tb:String->Option Builtin}{p:Program}{w:World}{n₀:Nat}{ann:Option Value}:∀{n:Nat}{s s':SharedT}{t:Thread},o5 tb p w n₀ ann n s t=some s'->topRun tb p w n₀ ann n s.abs t=some s'.abs
 |0,_,_,_,h=>by cases h
 |n+1,s,s',t,h=>by
  unfold o5 at h;unfold topRun;cases ht:through t with
  |true=>rw[ht] at h;cases h;rfl
  |false=>
   rw[ht] at h;cases hk:stepOk n₀ ann t with
   |false=>rw[hk] at h;cases h
   |true=>
    rw[hk] at h;cases hs:stepT (denote tb) p w s t with
    |none=>rw[hs] at h;cases h
    |some r=>obtain⟨s₂,t₂⟩:=r;rw[hs] at h;rw[stepT_spec hs];exact tE h
noncomputable def mkT(l:List Obj):BT:=(l.foldl (λ(p:BT×Nat) o=>(p.1.ins p.2 o,p.2+1)) (.nil,0)).1
noncomputable def eI(P:Params):BT:=mkT (boot_heap P).objs.toList
noncomputable def ZJ(T:BT)(os:OsState):SharedT:=⟨T,11,{},Array.mk [],boot_drawn,boot_toks,os⟩
theorem boot_abs(P:Params):absHeap (eI P) 11 {}=boot_heap P:=by kernel_rfl
theorem CG(P:Params):((boot_heap P).isNs mainGlobals,(boot_heap P).objs.size,(boot_heap P).nsMap mainGlobals "__annotations__")=(true,11,some (.ref 6)):=by kernel_rfl
noncomputable def O5(p:Program)(T:BT)(w:World)(M:Nat)(os:OsState):Option SharedT:=o5 treeTable p w 11 (some (.ref 6)) M (ZJ T os) (topStub p)
noncomputable def Kf(as:qah)(g:Addr->Option Obj):Frag:=as.filterMap λa=>(g a).map λo=>(a,o)
noncomputable def tg(T:BT)(n:Nat)(a:Addr):Option Obj:=match Nat.blt a n with
 |true=>alive ((T.get a).getD default)
 |false=>none
theorem To(T:BT)(n:Nat)(life:Life)(a:Addr):(absHeap T n life).get? a=tg T n a:=by
 unfold tg;cases h:Nat.blt a n with
 |true=>
  have hn:a<n:=Nat.ble_eq.mp h;cases g:T.get a with
  |some o=>rw[abs_get hn g];rfl
  |none=>have e:=absHeap_at T n life a;rw[if_pos hn,g] at e;unfold Heap.get?;rw[e];rfl
 |false=>
  have hn:¬ a<n:=λz=>by have:Nat.blt a n=true:=Nat.ble_eq.mpr z;rw[h] at this;cases this
  exact abs_get_none hn
abbrev JN(q:Program)(lv:List (Str×WData))(R:WRecords)(s:Shared):Bool:=xlAt q lv s && recOk R s
noncomputable def lookA(p q:Program)(loose:qai)(lv:List (Str×WData))(R:WRecords)(T:BT)(H0:Heap)(w:World)(M:Nat)(os:OsState) :=
 (O5 p T w M os).map λs=>((staticsOk (importedModules p.main.body) H0 s.abs.heap && namesBound p s.abs.heap && gensDone s.abs && laidKept H0 s.abs.heap),
  (openSeen q loose (importedModules p.main.body) (JN q lv R) true s.abs).1,(openSeen q loose (importedModules p.main.body) (JN q lv R) true s.abs).2.1)
noncomputable def lookB(p q:Program)(loose:qai)(lv:List (Str×WData))(R:WRecords)(T:BT)(w:World)(M:Nat)(os:OsState) :=
 (O5 p T w M os).map λs=>(openSeen q loose (importedModules p.main.body) (JN q lv R) true s.abs).2.2
noncomputable def lookC{β:Type}(p:Program)(as:qah)(F:Frag->β)(T:BT)(w:World)(M:Nat)(os:OsState) :=
 (O5 p T w M os).map λs=>F (Kf as (tg s.tree s.n))
noncomputable def u5(p:Program)(N:Nat)(w:World)(a:Addr):Option Obj:=(openEnds treeTable p w N).bind (·.heap.get? a)
theorem head{p q:Program}{loose:qai}{lv:List (Str×WData)}{R:WRecords}{as:qah}{N M:Nat}{β:Type}{F:Frag->β}{v:World->β}(e:opening p=plainProg p.main.scope.names)(hN:Nat.ble 600 N=true)(f:∀s,fenceModules? p s=some s)(le:Nat.ble M N=true)(ra:∀(w:World) (os:OsState),lookA p q loose lv R (eI w.params) (boot_heap w.params) w M os=some (true,(openGood q loose).1,(openGood q loose).2.1))(rb:∀(w:World) (os:OsState),lookB p q loose lv R (eI w.params) w M os=some (openGood q loose).2.2)(rc:∀(w:World) (os:OsState),lookC p as F (eI w.params) w M os=some (v w)) :
  LeftO p q loose (JN q lv R) (λs=>as.map s.heap.get?) (λw=>as.map (u5 p N w)) N/\∀w,F (Kf as (u5 p N w))=v w:=by
 have key:∀w,∃s,openEnds treeTable p w N=some s/\openSeen q loose (importedModules p.main.body) (JN q lv R) true s=openGood q loose/\F (Kf as s.heap.get?)=v w:=λw=>by
  obtain⟨⟨h,gs,d,k,os⟩,e1,e2⟩:=M_.mp (boot_open e hN f w);obtain⟨rfl,rfl,rfl,rfl⟩:h=boot_heap w.params/\gs=Array.mk []/\d=boot_drawn/\k=boot_toks:=by simpa using e2
  obtain⟨s,r1,r2⟩:=M_.mp (ra w os);obtain⟨s',r1',rb'⟩:=M_.mp (rb w os);obtain⟨NX,XT,rc'⟩:=M_.mp (rc w os);obtain rfl:s=s':=Option.some.inj (r1.symm.trans r1');obtain rfl:s=NX:=Option.some.inj (r1.symm.trans XT);have r3:=congrArg (λx=>x.1) r2;have r4:openSeen q loose (importedModules p.main.body) (JN q lv R) true s.abs=openGood q loose:=Prod.ext (congrArg (λx=>x.2.1) r2) (Prod.ext (congrArg (λx=>x.2.2) r2) rb');have r5:F (Kf as s.abs.heap.get?)=v w:=by rw[show s.abs.heap.get?=tg s.tree s.n from funext λa=>To _ _ _ a];exact rc'
  have t1:=tE r1;have ea:(ZJ (eI w.params) os).abs=⟨boot_heap w.params,Array.mk [],boot_drawn,boot_toks,os⟩:=by show (⟨absHeap (eI w.params) 11 {},_,_,_,_⟩:Shared)=_;rw[boot_abs];rfl
  rw[ea] at t1;have t2:=topRun_mono (N-M) _ _ _ _ t1;rw[show M+(N-M)=N by have:=Nat.le_of_ble_eq_true le;omega] at t2;have z:=CG w.params;have z1:=congrArg (λx=>x.1) z;have z2:=congrArg (λx=>x.2.1) z;have z3:=congrArg (λx=>x.2.2) z;refine⟨s.abs,?_,r4,r5⟩;unfold openEnds;rw[e1];show topFrom treeTable p w N _=_;unfold topFrom;dsimp only at z1 z2 z3 ⊢;rw[z1,z2,z3,t2];show (match staticsOk (importedModules p.main.body) (boot_heap w.params) s.abs.heap && namesBound p s.abs.heap && gensDone s.abs && laidKept (boot_heap w.params) s.abs.heap with|true=>_|false=>_)=_;have r3':(staticsOk (importedModules p.main.body) (boot_heap w.params) s.abs.heap && namesBound p s.abs.heap && gensDone s.abs && laidKept (boot_heap w.params) s.abs.heap)=true:=r3;rw[r3']
 refine⟨λw=>?_,λw=>?_⟩;obtain⟨s,a,b,c⟩:=key w;rw[a];have:u5 p N w=s.heap.get?:=by funext x;unfold u5;rw[a];rfl
 show some (openSeen q loose (importedModules p.main.body) (JN q lv R) true s,as.map s.heap.get?)=some (openGood q loose,as.map (u5 p N w));rw[b,this];obtain⟨s,a,b,c⟩:=key w;have:u5 p N w=s.heap.get?:=by funext x;unfold u5;rw[a];rfl
 rw[this];exact c
theorem kf_in{as:qah}{g:Addr->Option Obj}(e:as.map h.get?=as.map g):(Kf as g).In h:=by
 have key:∀{as:qah},as.map h.get?=as.map g->∀a o,(Kf as g).lookup a=some o->h.get? a=some o:=by
  intro as;induction as with
  |nil=>intro _ a o z;cases z
  |cons x as ih=>
   intro e a o z;rw[dP,dP] at e;injection e with e1 e2
   unfold Kf at z;rw[om] at z;cases hg:g x with
   |none=>rw[hg] at z;exact ih e2 a o z
   |some o'=>
    rw[hg] at z;simp only[Option.map_some,Iv] at z;split at z
    rename_i q
    have:a=x:=by simpa using q
    subst this;cases z;rw[e1,hg];exact ih e2 a o z
 exact λa o z=>key e a o z
theorem FJ{q:Program}{loose:qai}{XP:(qae)->Heap->Prop}{as:qah}{g:World->Addr->Option Obj}{r:RowW}{d:DefRec}{kwd:List (Str×Expr)}{run:Value->qag->Sem Value}(h:WalkO q loose XP (λw h=>(Kf as (g w)).In h) r d kwd run):WalkX q loose XP (λs=>as.map s.heap.get?) (λw=>as.map (g w)) r d kwd run :=
 λw s₀ s₁ mg mb G y a o pm cd doc dV kV h1 h2 h3 h4 h5 h6 args vals tf L jM Sw Q5 Q3 Zo=>h w s₀ s₁ mg mb G (λb o' z=>Laid.keeps L _ _ (kf_in y b o' z)) a o pm cd doc dV kV h1 h2 h3 h4 h5 h6 args vals tf jM Sw Q5 Q3 Zo
noncomputable def Tp:Stmt->DefRec
 |.FunctionDef n ps b _ _ _ sc _ _ p=>⟨n,ps,b,sc,p⟩
 |_=>⟨Str.empty,default,[],default,default⟩
end HE
variable{q:qam}
lay_quick HE.lookA HE.lookB HE.lookC
namespace VT
open PySem PySem.Spec PyProof.Rows L2
section
variable{k k':Nat}{G:qaj->(qam)->Prop}
theorem bp(C:cM X.prog X.w X.K X.mg X.base x ps k (cy X.K n G))(hr:bM k' X.A)(ha:VA X Z (e::es) g)(hg:Gl X x:=by rfl)(hk:k<=k':=by decide)(kP:fW x:=by decide)(he:starEach (e::es) X.env=(false,eval e X.env)::starEach es X.env:=by rfl)(fz:(backTo pos (starEach es X.env)).any (·.1)=false:=by rfl) :
  VP X Z (.Call (.Name x p) (e::es) [] pos) (Fi n g G):=by
 obtain⟨f,fd,h1,h2,h3,F⟩:=C;exact bu F (hr.mono hk) hg h1 h2 h3 ha kP he fz
end
section
variable{o:Expr}{fo:FE}
def JO(fo fe:FE):FP:=λρ Q=>fo ρ λx=>match x with
 |.str z=>fe ρ λy=>match y with
  |.str y=>Q (.vw (.bl (Txt.startswith z y)))
  |_=>False
 |_=>False
theorem mY(ho:VR X Z o fo)(he:VR X Z e fe)(cO:attributeBase o "startswith" X.env (eval o X.env)=eval o X.env:=by rfl)(ik:((backTo aT (starEach [e] X.env)).all (λx=>!x.1) && (backToKw aT (keywordEach [] X.env)).all (λx=>x.1.isSome)
    && decide (([e]:qap).length+([]:List Keyword).length+(if ([]:List Keyword).isEmpty then 0 else 1)<30))=true:=by rfl)(cP:(apos.endLine==aT.line)=true:=by rfl)(hs:starEach [e] X.env=(false,eval e X.env)::starEach [] X.env:=by rfl)(dz:(backTo aT (starEach [] X.env)).any (·.1)=false:=by rfl) :
  VP X Z (.Call (.Attribute o "startswith" apos) [e] [] aT) (JO fo fe):=.mk λtm=>
 PE.weak (pF US PySem.F.slot_str_startswith PySem.F.type_str_startswith rN (ho tm) (bj (he tm) cF hs) cO ik cP hs dz) λσ H Q ⟨ρ,O,q,I,hf,k⟩ =>
  ⟨ρ,O,_,I,hf,λx hx v H1 s1 a1=>by
    split at hx
    rename_i z
    have ev:=a1.str;subst ev;refine⟨rfl,ρ,O,_,I.same s1,hx,λy hy w H2 s2 a2=>?_⟩;split at hy;have ew:=a2.str;subst ew;exact⟨z,_,rfl,rfl,k _ hy _ H2 (s1.trans s2) ⟨(I.same s1).same s2,c9⟩⟩;exact hy.elim;exact hx.elim⟩
end
end VT
namespace VT
open PySem PySem.Spec PyProof.Rows
noncomputable def Q_{K:Type}[DecidableEq K](l:List K)(v:K):List K:=if v∈l then l else l++[v]
noncomputable def met{K:Type}[DecidableEq K](val:Nat->K):Nat->List K
 |0=>[]
 |i+1=>Q_ (met val i) (val i)
section
variable{K:Type}[DecidableEq K]
theorem Bk(val:Nat->K):∀i,(met val i).length<=i
 |0=>eB _
 |i+1=>by have:=Bk val i;simp only[met,Q_];split;omega;rw[j6,Rr];omega
theorem JP{l:List K}{v k:K}:k∈Q_ l v↔k∈l\/k=v:=by
 unfold Q_;split
 rename_i h
 exact⟨.inl,λq=>q.elim id λe=>e▸h⟩;rw[gF,wj]
end
noncomputable abbrev gr(led:Bool):Obj:={cls:=.type "set",dict:=none,data:=.set #[] 0 (.fresh 0 0 led)}
theorem sub_list_set:isSubtype (.type "list") (.type "set")=pure false:=by rw[isSubtype_type];kernel_rfl
theorem sub_list_frozenset:isSubtype (.type "list") (.type "frozenset")=pure false:=by rw[isSubtype_type];kernel_rfl
theorem sub_tuple_set:isSubtype (.type "tuple") (.type "set")=pure false:=by rw[isSubtype_type];kernel_rfl
theorem sub_tuple_frozenset:isSubtype (.type "tuple") (.type "frozenset")=pure false:=by rw[isSubtype_type];kernel_rfl
section
variable{R:Result->Shared->Prop}{I:Addr}{wr:qah}{G:Array GenState->Array GenState->Prop}{P:Nat->Value->Prop}{St:Nat->Shared->Prop}
variable{K:Type}[DecidableEq K]{knd:PySem.KeyKind prog w K}
theorem tG(W:WalksS prog w A.in1 I fp wr G n P St)(S:Addr)(Ra:S∉fp)(val:Nat->K)(XU:∀i v,P i v->knd.is (val i) v=true/\v.scannable=true)(hb:n+1<scanBound) :
  ∀(k i:Nat)(s:Shared),n-i=k->i<=n->St i s ->
   s.heap.SetOf knd S (λk'=>decide (k'∈met val i)) (met val i).length ->
   (∀s',Moved (S::wr) G s s'->s'.heap.SetOf knd S (λk'=>decide (k'∈met val n)) (met val n).length->R (.ok (.ret .none)) s') ->
   codeAny (model prog w) A (.builtin "set.update.loop" ⟨[.ref S,.ref I],[]⟩) R s:=by
 have ZL:S∉wr:=λh=>Ra (W.sub _ h);have FC:∀b∈wr,b∈S::wr:=λb hb=>fY _ hb;intro k;induction k with
 |zero=>
   intro i s hk hi AW hS hR;have Rb:i=n:=by omega
   subst Rb;refine codeAny_builtin PyProof.Rows.F.entry_set_update_loop ?_;rw[Around.under_plainId V0 _];show wpAny _ A.in1 (pyNext (.ref I) >>= _) _ _ s;refine wpAny_bind (W.done s _ _ AW λs' hm=>?_);show wpAny _ A.in1 (ret Value.none) _ _ s';exact wpAny_pure (hR s' (hm.mono FC) (by obtain⟨o,es,ep,t,ho,rest⟩:=hS;exact⟨o,es,ep,t,hm.heap S _ ZL ho,rest⟩))
 |succ k ih=>
   intro i s hk hi AW hS hR;have gq:i<n:=by omega
   refine codeAny_builtin PyProof.Rows.F.entry_set_update_loop ?_;rw[Around.under_plainId V0 _];show wpAny _ A.in1 (pyNext (.ref I) >>= _) _ _ s;refine wpAny_bind (W.item i s _ _ gq AW λv s' hP XW hm=>?_);obtain⟨OK,Jx⟩:=XU i v hP;have FK:s'.heap.SetOf knd S (λk'=>decide (k'∈met val i)) (met val i).length:=by obtain⟨o,es,ep,tb,ho,rest⟩:=hS;exact⟨o,es,ep,tb,hm.heap S _ ZL ho,rest⟩
   show wpAny _ A.in1 (holding [v] (setAdd S v) >>= _) _ _ s';refine wpAny_bind (wpAny_holding ?_);unfold setAdd;refine wpAny_holding ?_;refine wpAny_bind (knd.pyHash (k:=val i) OK ?_);have Tq:(met val i).length+1<scanBound:=by have:=Bk val i;omega
   refine wpAny_setAddHashed_of (knd:=knd) (s:={s' with toks:=s'.toks+1}) OK Jx FK Tq λh' ZM hS2=>?_;have hSi:h'.SetOf knd S (λk'=>decide (k'∈met val (i+1))) (met val (i+1)).length :=
    SetOf_congr hS2 (λk'=>by
     simp only[met,JP,Bool.decide_or]) (by
     simp only[met,Q_,decide_eq_true_eq];split<;>simp)
   refine wpAny_pure ⟨plainId_quiet V0 _,ih (i+1) _ (by omega) gq (W.frame _ s' _ _ XW (Ng _) λb hb o e=>?_) hSi λNX XY XZ=>?_⟩;rw[ZM.2 b (λh:b=S=>Ra (by rw[<- h];exact hb))];exact e;refine hR NX (Moved.trans W.gtrans ((hm.mono FC).then_heap (Ng _) λb o hb e=>?_) XY) XZ;rw[ZM.2 b (λh:b=S=>hb (by rw[h];exact eE))];exact e
end
section
variable{s:Shared}{K:Type}[DecidableEq K]{knd:PySem.KeyKind prog w K}
theorem qf{l:Addr}{val:Nat->K}(hh:A.handled=none)(hl:s.heap.IsList l items)(hi:∀(i:Nat) (v:Value),items[i]?=some v->knd.is (val i) v=true/\v.scannable=true)(hb:items.size+1<scanBound)(h:∀(h':Heap) (tk:Nat),h'.SetOf knd s.heap.objs.size (λk'=>decide (k'∈met val items.size)) (met val items.size).length ->
    (∀b o,b<s.heap.objs.size->s.heap.get? b=some o->h'.get? b=some o)->s.heap.objs.size<h'.objs.size->Q (.ref s.heap.objs.size) {s with heap:=h',toks:=tk}) :
  wpAny (model prog w) A (call (.type "set") [.ref l]) Q E s:=by
 obtain⟨c,tl,X2⟩:=yG.mro;have Tr:=yG.made;have FC:=yG.sub;refine wpAny_call (codeAny_of_tree ?_);show wpAny _ _ (callAny (.type "set") _) _ _ _;refine wpAny_pure ⟨U3 _ (by decide +kernel),codeAny_builtin F.entry_type_call ?_⟩;rw[Around.under_plain (weight_type_call_type "set" [.ref l] []) rfl];have h1:=yG.notType;have h2:=yG.canCreate;have hct:=PySem.F.typeCall_set_1 (.ref l)
 repeat (any_goals (first|assumption|wp_step))
 refine codeAny_mono (code_set_new_1 (.ref l) (E:=E) (Q₁:=λobj s₁=>∃led:Bool,obj=.ref s.heap.objs.size/\s₁={s with heap:=s.heap.push (gr led)}) λled=>⟨led,rfl,rfl⟩) λr s₁ hr=>?_;cases r with
 |error e=>exact hr
 |ok fl=>
   cases fl with
   |ret obj=>
     obtain⟨led,rfl,rfl⟩:=hr;have hS:(s.heap.push (gr led)).get? s.heap.objs.size=some (gr led):=ph _ rfl;have hT:Shared.TypeIs {s with heap:=s.heap.push (gr led)} (.ref s.heap.objs.size) "set":=⟨_,hS,rfl⟩;have hli:=yG.init.lookup;have W_:=yG.init.bind (.ref s.heap.objs.size)
     repeat (any_goals (first|assumption|wp_step))
     refine codeAny_mono (codeAny_call_builtin (R:=wants (λr s₂=>r=.none/\∃h' tk,s₂={s with heap:=h',toks:=tk} /\
       h'.SetOf knd s.heap.objs.size (λk'=>decide (k'∈met val items.size)) (met val items.size).length /\
       (∀b o,b<s.heap.objs.size->s.heap.get? b=some o->h'.get? b=some o)) E) yG.init.plain PySem.F.entry_set_init (check_set_init_1 hT ?_)) λr₂ s₂ O6=>?_
     . obtain⟨ol,JC,EO,nl,JD⟩:=hl;obtain⟨X3,FL,Ts,zw⟩:=ol;simp only at EO JD;subst EO;subst JD;have O7:(s.heap.push (gr led)).get? l=some {cls:=.type "list",dict:=FL,data:=.seq items nl,slots:=zw}:=eD _ JC;have X4:=sub_list_set;have X5:=sub_list_frozenset;have jz:(Value.type "list"==Value.type "dict")=false:=by decide
       have JQ:(s.heap.push (gr led)).IsList l items:=⟨_,O7,rfl,nl,rfl⟩;unfold Builtin.«set.__init__» noKeywords Builtin.Frozenset.updateFrom;generalize X6:pyIter=PI
       wp_walk
       subst X6;refine wpAny_pyIter_list JQ ?_;refine wpAny_bind (wpAny_runValue ?_);have Tt:l<s.heap.objs.size:=eG JC;have X7:A.in1.in1.in1.handled=none:=by simp[hh]
       have O8:l≠(s.heap.push (gr led)).objs.size:=by rw[B'];exact iJ (RF Tt)
       have Ra:s.heap.objs.size∉[(s.heap.push (gr led)).objs.size,l]:=by rw[B'];simp only[bL,wj,cq,or_false,not_or];exact⟨iJ (QT _),Ca Tt⟩
       refine tG ((Walks.list X7 _ l O8 items).toS) s.heap.objs.size
        Ra val hi hb (items.size-0) 0 _ (by omega) (nU _)
        ⟨⟨_,ph _ rfl,rfl,rfl⟩,(JQ.push _)⟩ ?hS0 ?hR
       case hS0=>
        have O9:((s.heap.push (gr led)).push {cls:=.type "list_iterator",data:=.fields #[.ref l,.int 0 0]}).get? s.heap.objs.size
          = some (gr led):=eD _ hS
        exact SetOf_congr ((setObjOf_fresh (knd:=knd) led).setOf O9 (by unfold scanBound;omega)) (λ_=>by simp[met]) rfl
       case hR=>
        intro s' hm FK;obtain⟨h',g',d',FN,R'⟩:=s';have eg:g'=s.gens:=hm.gens;have ed:d'=s.drawn:=hm.drawn;have eo:R'=s.os:=hm.os;subst eg;subst ed;subst eo;show wpAny _ _ _ _ _ _;refine wpAny_pure ?_;show wpAny _ _ (ret Value.none) _ _ _;refine wpAny_pure ⟨rfl,h',FN,rfl,FK,λb o hb e=>?_⟩;have JM:b≠s.heap.objs.size:=iJ hb;have OY:b≠(s.heap.push (gr led)).objs.size:=by rw[B'];exact iJ (RF hb)
        exact hm.heap b o (by simp only[bL,wj,cq,or_false,not_or];exact⟨JM,OY⟩) (eD _ (eD _ e))
     . cases r₂ with
       |error e=>exact O6
       |ok X8=>
         cases X8 with
         |ret r=>
           obtain⟨rfl,h',tk,rfl,FK,CH⟩:=O6
           repeat (any_goals (first|assumption|wp_step))
           refine h _ _ FK CH ?_;obtain⟨o,_,_,_,ho,_⟩:=FK;exact eG ho
         |_=>exact O6.elim
   |_=>exact hr.elim
theorem oB{l:Addr}{val:Nat->K}(hh:A.handled=none)(hl:s.heap.IsTuple l items)(hi:∀(i:Nat) (v:Value),items[i]?=some v->knd.is (val i) v=true/\v.scannable=true)(hb:items.size+1<scanBound)(h:∀(h':Heap) (tk:Nat),h'.SetOf knd s.heap.objs.size (λk'=>decide (k'∈met val items.size)) (met val items.size).length ->
    (∀b o,b<s.heap.objs.size->s.heap.get? b=some o->h'.get? b=some o)->s.heap.objs.size<h'.objs.size->Q (.ref s.heap.objs.size) {s with heap:=h',toks:=tk}) :
  wpAny (model prog w) A (call (.type "set") [.ref l]) Q E s:=by
 obtain⟨c,tl,X2⟩:=yG.mro;have Tr:=yG.made;have FC:=yG.sub;refine wpAny_call (codeAny_of_tree ?_);show wpAny _ _ (callAny (.type "set") _) _ _ _;refine wpAny_pure ⟨U3 _ (by decide +kernel),codeAny_builtin F.entry_type_call ?_⟩;rw[Around.under_plain (weight_type_call_type "set" [.ref l] []) rfl];have h1:=yG.notType;have h2:=yG.canCreate;have hct:=PySem.F.typeCall_set_1 (.ref l)
 repeat (any_goals (first|assumption|wp_step))
 refine codeAny_mono (code_set_new_1 (.ref l) (E:=E) (Q₁:=λobj s₁=>∃led:Bool,obj=.ref s.heap.objs.size/\s₁={s with heap:=s.heap.push (gr led)}) λled=>⟨led,rfl,rfl⟩) λr s₁ hr=>?_;cases r with
 |error e=>exact hr
 |ok fl=>
   cases fl with
   |ret obj=>
     obtain⟨led,rfl,rfl⟩:=hr;have hS:(s.heap.push (gr led)).get? s.heap.objs.size=some (gr led):=ph _ rfl;have hT:Shared.TypeIs {s with heap:=s.heap.push (gr led)} (.ref s.heap.objs.size) "set":=⟨_,hS,rfl⟩;have hli:=yG.init.lookup;have W_:=yG.init.bind (.ref s.heap.objs.size)
     repeat (any_goals (first|assumption|wp_step))
     refine codeAny_mono (codeAny_call_builtin (R:=wants (λr s₂=>r=.none/\∃h' tk,s₂={s with heap:=h',toks:=tk} /\
       h'.SetOf knd s.heap.objs.size (λk'=>decide (k'∈met val items.size)) (met val items.size).length /\
       (∀b o,b<s.heap.objs.size->s.heap.get? b=some o->h'.get? b=some o)) E) yG.init.plain PySem.F.entry_set_init (check_set_init_1 hT ?_)) λr₂ s₂ O6=>?_
     . obtain⟨ol,JC,EO,nl,JD⟩:=hl;obtain⟨X3,FL,Ts,zw⟩:=ol;simp only at EO JD;subst EO;subst JD;have O7:(s.heap.push (gr led)).get? l=some {cls:=.type "tuple",dict:=FL,data:=.seq items nl,slots:=zw}:=eD _ JC;have X4:=sub_tuple_set;have X5:=sub_tuple_frozenset;have jz:(Value.type "tuple"==Value.type "dict")=false:=by decide
       have JQ:(s.heap.push (gr led)).IsTuple l items:=⟨_,O7,rfl,nl,rfl⟩;unfold Builtin.«set.__init__» noKeywords Builtin.Frozenset.updateFrom;generalize X6:pyIter=PI
       wp_walk
       subst X6;refine wpAny_pyIter_tuple JQ ?_;refine wpAny_bind (wpAny_runValue ?_);have Tt:l<s.heap.objs.size:=eG JC;have X7:A.in1.in1.in1.handled=none:=by simp[hh]
       have O8:l≠(s.heap.push (gr led)).objs.size:=by rw[B'];exact iJ (RF Tt)
       have Ra:s.heap.objs.size∉[(s.heap.push (gr led)).objs.size,l]:=by rw[B'];simp only[bL,wj,cq,or_false,not_or];exact⟨iJ (QT _),Ca Tt⟩
       refine tG ((Walks.tuple X7 _ l O8 items).toS) s.heap.objs.size
        Ra val hi hb (items.size-0) 0 _ (by omega) (nU _)
        ⟨⟨_,ph _ rfl,rfl,rfl⟩,(JQ.push _)⟩ ?hS0 ?hR
       case hS0=>
        have O9:((s.heap.push (gr led)).push {cls:=.type "tuple_iterator",data:=.fields #[.ref l,.int 0 0]}).get? s.heap.objs.size
          = some (gr led):=eD _ hS
        exact SetOf_congr ((setObjOf_fresh (knd:=knd) led).setOf O9 (by unfold scanBound;omega)) (λ_=>by simp[met]) rfl
       case hR=>
        intro s' hm FK;obtain⟨h',g',d',FN,R'⟩:=s';have eg:g'=s.gens:=hm.gens;have ed:d'=s.drawn:=hm.drawn;have eo:R'=s.os:=hm.os;subst eg;subst ed;subst eo;show wpAny _ _ _ _ _ _;refine wpAny_pure ?_;show wpAny _ _ (ret Value.none) _ _ _;refine wpAny_pure ⟨rfl,h',FN,rfl,FK,λb o hb e=>?_⟩;have JM:b≠s.heap.objs.size:=iJ hb;have OY:b≠(s.heap.push (gr led)).objs.size:=by rw[B'];exact iJ (RF hb)
        exact hm.heap b o (by simp only[bL,wj,cq,or_false,not_or];exact⟨JM,OY⟩) (eD _ (eD _ e))
     . cases r₂ with
       |error e=>exact O6
       |ok X8=>
         cases X8 with
         |ret r=>
           obtain⟨rfl,h',tk,rfl,FK,CH⟩:=O6
           repeat (any_goals (first|assumption|wp_step))
           refine h _ _ FK CH ?_;obtain⟨o,_,_,_,ho,_⟩:=FK;exact eG ho
         |_=>exact O6.elim
   |_=>exact hr.elim
end
end VT
namespace VT
open PySem PySem.Spec PyProof.Rows L2
def O_(P:Program)(w:World)(a:Addr)(f:Str->Bool)(n:Nat):HO:=.ext λh=>h.SetOf (PySem.strKind P w) a f n
noncomputable def once(ys:qai):qai:=met (λi=>ys.getD i Str.empty) ys.length
section
theorem tI{aK:qag}(r:Vals (ys.map V.str) aK)(i:Nat)(v:Value)(h:aK.toArray[i]?=some v):(PySem.strKind X.prog X.w).is (ys.getD i Str.empty) v=true/\v.scannable=true:=by
 have h':aK[i]?=some v:=by simpa using h
 have hl:=r.length;rw[bQ] at hl;have hi:i<ys.length:=by have:=(gN.mp h').1;omega
 obtain⟨u,hu,ru⟩:=r.get (show (ys.map V.str)[i]?=some (.str ys[i]) by rw[mf,kB hi];rfl);rw[h'] at hu;cases hu;obtain⟨t,rfl⟩:=ru;refine⟨?_,rfl⟩;rw[List.getD_eq_getElem?_getD,kB hi];show Value.isStrOf ys[i] (.str ys[i] t)=true;simp[Value.isStrOf]
theorem r9(hc:X.calm=true):cN X (.type "set") (λxs H Q=>∃(p:Addr)(ys:qai),xs=[.ref p]/\(fN X.K H p (ys.map V.str)\/eF X.K H p (ys.map V.str))/\ys.length<4000 /\
  ∀a,H a=none->Q (.ref a) (upd H a (O_ X.prog X.w a (λk=>decide (k∈once ys)) (once ys).length))):=by
 intro pins s σ H xs us Q I r h;obtain⟨p,ys,rfl,hq,hl,q⟩:=h;obtain⟨u,rfl,ru⟩:=vals1 r;cases ru;have fin:∀(n:Nat),n=ys.length->∀(h':Heap)(tk:Nat),h'.SetOf (PySem.strKind X.prog X.w) s.heap.objs.size (λk'=>decide (k'∈met (λi=>ys.getD i Str.empty) n)) (met (λi=>ys.getD i Str.empty) n).length ->
   (∀b o,b<s.heap.objs.size->s.heap.get? b=some o->h'.get? b=some o)->EP X pins σ Q (.ref s.heap.objs.size) {s with heap:=h',toks:=tk}:=λn hn h' tk hS hk=>by
  subst hn;refine⟨.ref s.heap.objs.size,_,I.laid (a:=s.heap.objs.size) (t':=tk) (λb o e=>hk b o (eG e) e) (eB _) ?_,rfl,q _ I.fresh⟩;refine⟨hS,?_,λh1 h2 z k=>?_⟩;obtain⟨o,_,_,_,ho,_⟩:=hS;exact⟨o,ho⟩;obtain⟨o,es,ep,t,ho,rest⟩:=z;exact⟨o,es,ep,t,k o ho,rest⟩
 obtain hq|hq:=hq
 obtain⟨aK,rv,pl,hz⟩:=I.list hq;have e:=rv.length;rw[bQ] at e;exact qf (knd:=PySem.strKind X.prog X.w) (val:=λi=>ys.getD i Str.empty) (I.ok.hd hc) pl.isList (tI rv) (by unfold scanBound;simp;omega) λh' tk hS hk _=>fin _ (by simp[e]) h' tk hS hk;obtain⟨aK,rv,pl,hz⟩:=I.tuple hq;have e:=rv.length;rw[bQ] at e;exact oB (knd:=PySem.strKind X.prog X.w) (val:=λi=>ys.getD i Str.empty) (I.ok.hd hc) (show s.heap.IsTuple p aK.toArray from pl) (tI rv) (by unfold scanBound;simp;omega) λh' tk hS hk _=>fin _ (by simp[e]) h' tk hS hk
theorem r_:cN X (.builtin "len") (λxs H Q=>∃a f n,xs=[.ref a]/\H a=some (O_ X.prog X.w a f n)/\Q (.int (n:Int)) H):=by intro pins s σ H xs us Q I r h;obtain⟨a,f,n,rfl,ha,q⟩:=h;obtain⟨u,rfl,ru⟩:=vals1 r;cases ru;obtain⟨⟨o,es,ep,t,ho,hex,hd,_,_,hb,hf,hn⟩,_⟩:=(show b_ X.prog X.w H s.heap a (O_ X.prog X.w a f n) from I.bG a _ ha);refine PySem.call_len_set ho hex hd hf (by unfold scanBound at hb;omega) ?_;rw[hn];exact⟨.int n,H,I.tok _,⟨_,rfl⟩,q⟩
theorem boot_set:bootBuiltins "set"=some (.type "set"):=by decide +kernel
end
section
variable{a:Expr}{JR CI:Pos}
noncomputable def JS(fa:FE):FP:=λρ Q=>fa ρ λx=>∃ys:qai,(x=.lst (ys.map .str)\/x=.tup (ys.map .str))/\ys.length<4000/\Q (.vw (.int ((once ys).length:Int)))
theorem u6{K:qaf}{H:Hp}{A:qah}:∀{ys:qai}{vs:qak},aB K H A (ys.map T.str) vs->vs=ys.map V.str
 |[],vs,h=>by simpa only[uB,aB] using h
 |y::ys,vs,h=>by simp only[dP,aB] at h;obtain⟨v,r,rfl,h1,h2⟩:=h;simp only[At] at h1;rw[h1,u6 h2];rfl
theorem CJ(hc:X.calm=true)(X9:Gl X "len")(hml:X.mg "len"=none)(hgs:Gl X "set")(X_:X.mg "set"=none)(ha:VR X Z a fa)(he:starEach [.Call (.Name "set" p2) [a] [] CI] X.env=(false,eval (.Call (.Name "set" p2) [a] [] CI) X.env)::starEach [] X.env:=by rfl)(fz:(backTo JR (starEach [] X.env)).any (·.1)=false:=by rfl)(ZN:starEach [a] X.env=(false,eval a X.env)::starEach [] X.env:=by rfl)(X':(backTo CI (starEach [] X.env)).any (·.1)=false:=by rfl) :
  VP X Z (.Call (.Name "len" p1) [.Call (.Name "set" p2) [a] [] CI] [] JR) (JS fa):=.mk λtm=>
 PE.weak (kR r_ X9 hml iU (bj (sV (r9 hc) hgs X_ boot_set (bj (ha tm) cF ZN) (by decide) (by decide) ZN X') cF he) (by decide) (by decide) he fz) λσ H Q ⟨ρ,O,q,I,hf,k⟩ =>
  ⟨ρ,O,_,I,hf,λx hx v H1 s1 a1=>by
    obtain⟨ys,hy,hl,hq⟩:=hx;have src:∃p,v=.ref p/\(fN X.K H1 p (ys.map V.str)\/eF X.K H1 p (ys.map V.str)):=by
     obtain rfl|rfl:=hy
     obtain⟨p,vs,rfl,h1,h2⟩:=a1.lst;rw[u6 h2] at h1;exact⟨p,rfl,.inl h1⟩;obtain⟨p,vs,rfl,h1,h2⟩:=a1.tup;rw[u6 h2] at h1;exact⟨p,rfl,.inr h1⟩
    obtain⟨p,rfl,hs⟩:=src;exact⟨p,ys,rfl,hs,hl,λb hb=>⟨b,_,_,rfl,aY,k _ hq _ _ (s1.trans (aQ hb)) ⟨(I.same s1).same (aQ hb),bC⟩⟩⟩⟩
end
end VT
namespace L2
open PySem PySem.Spec PyProof.Rows
section
variable{a:Expr}{tb:TE}
variable{tA RQ:TT}{rest:qap}
end
section
variable{CX:AY}{k:Nat}{ks:qai}{E:XK}{m:Str}{WK:Pos}{o:Expr}{kws:List Keyword}{t tk:TA}{nm:Option Str}
variable{g:qag->qag->qag}{gV:qak->qak->qak}
end
section
variable{κ:Type}[DecidableEq κ]
noncomputable def i_(bE:List (κ×V))(k:κ):Option V:=(bE.find? λkv=>decide (kv.1=k)).map (·.2)
noncomputable def putK(bE:List (κ×V))(k:κ)(v:V):List (κ×V) :=
 if (bE.any λkv=>decide (kv.1=k))=true then bE.map (λkv=>if kv.1=k then (kv.1,v) else kv) else bE++[(k,v)]
theorem lj{p:κ×V}{r:List (κ×V)}{k:κ}(e:p.1=k):i_ (p::r) k=some p.2:=by simp[i_,QW,e]
theorem ll{p:κ×V}{r:List (κ×V)}{k:κ}(e:¬ p.1=k):i_ (p::r) k=i_ r k:=by simp[i_,QW,e]
theorem xm(k:κ):∀bE:List (κ×V),(bE.any λkv=>decide (kv.1=k))=(i_ bE k).isSome
 |[]=>rfl
 |p::r=>by rw[QY];by_cases e:p.1=k;simp only[lj e,decide_eq_true e,Bool.true_or,Option.isSome_some];rw[ll e,decide_eq_false e,RJ];exact xm k r
theorem xn(bE:List (κ×V))(k:κ)(v:V):(putK bE k v).length<=bE.length+1:=by unfold putK;split;rw[bQ];omega;rw[j6,rF,List.length_nil];omega
theorem FQ{bE:List (κ×V)}{k:κ}(v:V)(h:i_ bE k=none):putK bE k v=bE++[(k,v)]:=by unfold putK;rw[xm,h];exact if_neg (by decide)
theorem mx.getD{o:Option V}{u:Option Value}{d:V}{d':Value}(r:mx o u)(rd:RelV d d'):RelV (o.getD d) (u.getD d'):=by
 cases o with
 |none=>cases u with
  |none=>exact rd
  |some _=>exact (show False from r).elim
 |some _=>cases u with
  |none=>exact (show False from r).elim
  |some _=>exact r
theorem KV.val{bE:List (κ×V)}{vs:List (κ×Value)}(r:KV bE vs)(k:κ):mx (i_ bE k) (valueAt vs k):=by
 unfold KV at r;induction r with
 |nil=>exact True.intro
 |@cons p q ps qs h t ih=>
  obtain⟨h1,h2⟩:=h;by_cases e:p.1=k;have e':q.1=k:=h1.symm.trans e;have b:valueAt (q::qs) k=some q.2:=by simp[valueAt,QW,e']
  rw[lj e,b];exact h2;have e':¬ q.1=k:=λz=>e (h1.trans z);have b:valueAt (q::qs) k=valueAt qs k:=by simp[valueAt,QW,e']
  rw[ll e,b];exact ih
theorem KV.any{bE:List (κ×V)}{vs:List (κ×Value)}(r:KV bE vs)(k:κ):(bE.any λkv=>decide (kv.1=k))=vs.any λkv=>decide (kv.1=k):=by
 unfold KV at r;induction r with
 |nil=>rfl
 |cons h t ih=>rw[QY,QY,ih,h.1]
theorem KV.Ya{bE:List (κ×V)}{vs:List (κ×Value)}(r:KV bE vs)(k:κ){y:V}(ry:RelV y u) :
  KV (bE.map λkv=>if kv.1=k then (kv.1,y) else kv) (vs.map λkv=>if kv.1=k then (kv.1,u) else kv):=by
 unfold KV at r ⊢;induction r with
 |nil=>exact .nil
 |@cons p q ps qs h t ih=>rw[dP,dP];refine .cons ?_ ih;obtain⟨h1,h2⟩:=h;by_cases e:p.1=k;rw[if_pos e,if_pos (h1.symm.trans e)];exact⟨h1,ry⟩;rw[if_neg e,if_neg (λz=>e (h1.trans z))];exact⟨h1,h2⟩
theorem KV.put{bE:List (κ×V)}{vs:List (κ×Value)}(r:KV bE vs)(k:κ){y:V}(ry:RelV y u):KV (putK bE k y) (stored vs k u):=by unfold putK stored;rw[r.any k];by_cases e:(vs.any λkv=>decide (kv.1=k))=true;rw[if_pos e,if_pos e];exact r.Ya k ry;rw[if_neg e,if_neg e];exact Paired.snoc r ⟨rfl,ry⟩
theorem KV.length{bE:List (κ×V)}{vs:List (κ×Value)}(r:KV bE vs):bE.length=vs.length:=Paired.length r
end
theorem xo{k:Key}(r:RelV (kV k) u):(bH P w).is k u=true:=by
 cases k with
 |inl i=>obtain⟨t,e⟩:=(show ∃t,u=Value.int i t from r);subst e;exact wx P w i t
 |inr x=>obtain⟨t,e⟩:=(show ∃t,u=Value.str x t from r);subst e;exact wy P w x t
theorem tJ{P:Program}{w:World}:∀{ks:List Key}{us:qag},Vals (ks.map kV) us->ItemsAre (bH P w) ks us
 |[],_,r=>by rw[uB] at r;cases r;exact .nil
 |k::ks,_,r=>by
  rw[dP] at r;cases r with
  |cons h t=>exact .cons (xo h) (tJ t)
abbrev KT(H:Hp):List (List Key×V)->List (List Key×Addr×Value)->Prop:=Paired λp q=>p.1=q.1/\H q.2.1=some (.tup (p.1.map kV))/\RelV p.2 q.2.2
theorem KT.val{bE:List (List Key×V)}{xs:List (List Key×Addr×Value)}(r:KT H bE xs)(k:List Key):mx (i_ bE k) ((atKey xs k).map (·.2)):=by
 induction r with
 |nil=>exact True.intro
 |@cons p q ps qs h t ih=>
  obtain⟨h1,_,h2⟩:=h;by_cases e:p.1=k;have e':q.1=k:=h1.symm.trans e;have b:atKey (q::qs) k=some q.2:=by simp[atKey,QW,e']
  rw[lj e,b];exact h2;have e':¬ q.1=k:=λz=>e (h1.trans z);have b:atKey (q::qs) k=atKey qs k:=by simp[atKey,QW,e']
  rw[ll e,b];exact ih
section
theorem Mi{u:HO}(ok:jL P w H h)(e:Rd H a u):b_ P w H h a u:=e.ok ok
theorem xq(ok:jL P w H h)(e:Rd H a (.dK bE)):bE.length<=sizeLine/\(a==sysModules)=false/\∃vs,KV bE vs/\h.DictOf (bH P w) a vs :=
 show b_ P w H h a (.dK bE) from Mi ok e
theorem Tu(ok:jL P w H h)(e:H a=some (.dK bE)):bE.length<=sizeLine/\(a==sysModules)=false/\∃vs,KV bE vs/\h.DictOf (bH P w) a vs:=xq ok (.inl e)
theorem zx{ks:List Key}(ok:jL P w H h)(e:H a=some (.tup (ks.map kV))):(tupleKind (bH P w)).is h ks a:=by obtain⟨_,aK,r,o,h1,h2,n,h3⟩:=(show b_ P w H h a (.tup (ks.map kV)) from ok a _ e);exact⟨o,aK.toArray,n,h1,h2,h3,by simpa using tJ r⟩
theorem Bl{bE:List (List Key×V)}(ok:jL P w H h)(e:Rd H a (.dT bE)):bE.length<=sizeLine/\(a==sysModules)=false /\
  ∃xs,KT H bE xs/\h.DictOfH (tupleKind (bH P w)) a xs:=by
 obtain⟨z,y,xs,r,o,es,ep,h1,h2,h3,h4,h5⟩:=(show b_ P w H h a (.dT bE) from Mi ok e);refine⟨z,y,xs,r,o,es,ep,h1,h2,h3,h4,λx hx=>?_,h5⟩;have all:∀{l:List (List Key×V)}{m:List (List Key×Addr×Value)},KT H l m->∀x∈m,(tupleKind (bH P w)).is h x.1 x.2.1:=by
  intro l m q;induction q with
  |nil=>intro x hx;exact nomatch hx
  |@cons p q ps qs hq t ih=>
    intro x hx;rcases bL.mp hx with e|hx
    subst e;exact zx ok (by rw[<- hq.1];exact hq.2.1);exact ih x hx
 exact all r x hx
end
def u7(H:Hp)(a:Addr)(y:V)(r:Option V):Prop :=
 (∃bE k,Rd H a (.dK bE)/\y=kV k/\r=i_ bE k)\/∃bE k b,Rd H a (.dT bE)/\y=.ref b/\H b=some (.tup (k.map kV))/\r=i_ bE k
theorem u7.k{k:Key}(e:H a=some (.dK bE)):u7 H a (kV k) (i_ bE k):=.inl ⟨bE,k,.inl e,rfl,rfl⟩
section
variable{s:Shared}{y:V}{r:Value}{o:Option V}
theorem Inv.big(I:Inv X pins σ H s):sysModules<s.heap.objs.size:=by have h:mainGlobals<s.heap.objs.size:=(I.mod.glob.keeps I.bk).lt;exact Nat.lt_trans (by decide) h
theorem CK(hu:A.units+1<cLine)(I:Inv X pins σ H s)(g:u7 H a y (some v))(ry:RelV y u)(h:∀w' s',Inv X pins σ H s'->RelV v w'->Q w' s') :
  wpAny (model X.prog X.w) A (getItem (.ref a) u) Q E s:=by
 obtain⟨bE,k,e,ey,l⟩|⟨bE,k,b,e,ey,eb,l⟩:=g
 subst ey;obtain⟨z,hd,vs,rel,dd⟩:=xq I.bG e;obtain⟨w',hw,rw'⟩:=mx.some_of (v:=v) (o:=valueAt vs k) (by rw[l];exact rel.val k);exact wpAny_getItem_of (xo ry) dd.mapOf hw (h w' _ (I.tok _) rw');subst ey;cases (show u=Value.ref b from ry);obtain⟨z,hd,xs,rel,dd⟩:=Bl I.bG e;obtain⟨w',hw,rw'⟩:=mx.some_of (v:=v) (o:=(atKey xs k).map (·.2)) (by rw[l];exact rel.val k);obtain⟨p,hp,CC⟩:=M_.mp hw;refine wpAny_getItem_heap (tupleKind_room_in1 hu) (zx I.bG eb) dd hp ?_;rw[CC];exact h w' _ (I.tok _) rw'
theorem JT{ob:HO}(I:Inv X pins σ H s)(mu:RK (H a))(hs:Heap.SameBut a s.heap h')(he:∃q,h'.get? a=some q)(new:b_ X.prog X.w (upd H a ob) h' a ob) :
  Inv X pins σ (upd H a ob) {s with heap:=h',toks:=t'} :=
 I.write (x:=a) (e:=a) mu (.inl rfl) (λb q hb z=>(hs.2 b hb).trans z) he new
theorem Pa{vs:List (Key×Value)}(z:bE.length<=sizeLine)(hd:(a==sysModules)=false)(rel:KV bE vs)(dd:h'.DictOf (bH P w) a vs) :
 b_ P w H' h' a (.dK bE):=⟨z,hd,vs,rel,dd⟩
end
def Pb(i:Expr):Prop:=∀ov iv,subscripted i false ov iv=operate [ov,iv] (getItem ov iv)
theorem JU{s:Shared}{env:Env}{value slice:Expr}{T id:String}(hl:typeLookup (.type T) "__getitem__"=pure (some (.builtin id)))(hs:Pb slice)(h:wpAny (model prog w) A (eval value env) (λo s₁=>wpAny (model prog w) A (eval slice env) (λi s₂=>s₂.TypeIs o T/\wpAny (model prog w) A (getItem o i) Q E s₂) E s₁) E s) :
  wpAny (model prog w) A (eval (.Subscript value slice pos) env) Q E s:=by
 refine Subscript_ (wpAny_mono h (λo s₁ h₁=>wpAny_mono h₁ (λi s₂ h₂=>?_) λ_ _ x=>x) λ_ _ x=>x);obtain⟨hT,h₂⟩:=h₂;unfold subscriptTail;refine wpAny_bind ?_;rw[getitemInPython_of_ne hT.not_modules];refine wpAny_bind (wpAny_specialOf hT hl ?_);have fin:wpAny (model prog w) A (subscripted slice false o i) (λr s₃=>wpAny (model prog w) A (letTemporaryGo value o r >>= λ_=>pure r) Q E s₃) E s₂:=by rw[hs o i];exact wpAny_operating (wpAny_mono h₂ (λr s₃ h₃=>wpAny_bind (wpAny_letTemporaryGo (wpAny_pure h₃))) λ_ _ x=>x)
 first
  |exact wpAny_pure (wpAny_bind fin)
  |exact wpAny_bind (wpAny_pure (wpAny_bind fin))
  |exact wpAny_bind fin
theorem xr{s:Shared}{y:V}{o:Option V}(I:Inv X pins σ H s)(g:u7 H a y o):s.TypeIs (.ref a) "dict":=by
 obtain⟨bE,k,e,_,_⟩|⟨bE,k,b,e,_,_,_⟩:=g
 obtain⟨_,_,vs,_,dd⟩:=xq I.bG e;exact dd.typeIs;obtain⟨_,_,xs,_,dd⟩:=Bl I.bG e;exact dd.typeIs
def Tv(td ty:TE):TE:=λσ H Q=>td σ H λx H1=>ty σ H1 λy H2=>∃a v,x=.ref a/\u7 H2 a y (some v)/\Q v H2
section
variable{o i value:Expr}{rL:Pos}{td ty tv:TE}
theorem JV(hu:X.A.units+1<cLine)(ho:PE X o td)(hi:PE X i ty)(hs:Pb i):PE X (.Subscript o i pos) (Tv td ty):=by intro pins s σ H Q I h;refine JU PySem.F.slot_dict_getitem.lookup hs (cm (ho pins s σ H _ I h) λu s1 ⟨x,H1,I1,rx,q1⟩=>cm (hi pins s1 σ H1 _ I1 q1) λiv s2 ⟨y,H2,I2,ry,a,v,ex,g,q2⟩=>?_);subst ex;obtain rfl:u=Value.ref a:=rx;exact⟨xr I2 g,CK hu I2 g ry λw' s3 I3 rw'=>⟨v,H2,I3,rw',q2⟩⟩
end
theorem FR(h:Heap)(hb:sysModules<h.objs.size):b_ P w H (h.push {cls:=.type "dict",data:=.dict #[]}) h.objs.size (.dK []) :=
 ⟨nU _,beq_eq_false_iff_ne.mpr (Ne.symm (iJ hb)),[],.nil,Heap.DictOf.new h⟩
def Pc:TE:=λ_ H Q=>∀p,H p=none->Q (.ref p) (upd H p (.dK []))
section
theorem FT:PE X (.Dict [] [] pos) Pc:=λpins s σ H Q I h=>
 wpAny_Dict_empty ⟨.ref s.heap.objs.size,_,I.laid (a:=s.heap.objs.size) (o:=.dK []) (t':=s.toks) (λ_ _ q=>eD _ q) (eB _) (FR s.heap I.big),rfl,h _ (I.bG.fresh (eB _))⟩
end
structure M1(X:Cx)(o:Expr)(m:Str)(apos:Pos)(e:Expr)(aT:Pos):Prop where
 base:attributeBase o m X.env (eval o X.env)=eval o X.env
 D5:((backTo aT (starEach [e] X.env)).all (λx=>!x.1) && (backToKw aT (keywordEach [] X.env)).all (λx=>x.1.isSome)
  && decide (([e]:qap).length+([]:List Keyword).length+(if ([]:List Keyword).isEmpty then 0 else 1)<30))=true
 line:(apos.endLine==aT.line)=true
 trees:backTo aT (starEach [e] X.env)=[(false,eval e X.env)]
structure M2(X:Cx)(o:Expr)(m:Str)(apos:Pos)(e f:Expr)(aT:Pos):Prop where
 base:attributeBase o m X.env (eval o X.env)=eval o X.env
 D5:((backTo aT (starEach [e,f] X.env)).all (λx=>!x.1) && (backToKw aT (keywordEach [] X.env)).all (λx=>x.1.isSome)
  && decide (([e,f]:qap).length+([]:List Keyword).length+(if ([]:List Keyword).isEmpty then 0 else 1)<30))=true
 line:(apos.endLine==aT.line)=true
 trees:backTo aT (starEach [e,f] X.env)=[(false,eval e X.env),(false,eval f X.env)]
def ZO(H:Hp)(a:Addr):Prop:=(∃bE,Rd H a (.dK bE))\/∃bE,Rd H a (.dT bE)
theorem Pd{s:Shared}(I:Inv X pins σ H s)(d:ZO H a) :
  s.TypeIs (.ref a) "dict"/\(∀b,Value.ref a=.ref b->∃ob,s.heap.get? b=some ob/\ob.dict=none)/\(a==sysModules)=false:=by
 obtain⟨bE,e⟩|⟨bE,e⟩:=d
 obtain⟨_,hd,vs,_,dd⟩:=xq I.bG e;refine⟨dd.typeIs,λb q=>?_,hd⟩;cases q;obtain⟨ob,_,_,h1,h2,_⟩:=dd;exact⟨ob,h1,h2.2.1⟩;obtain⟨_,hd,xs,_,dd⟩:=Bl I.bG e;refine⟨dd.typeIs,λb q=>?_,hd⟩;cases q;obtain⟨ob,_,_,h1,h2,_⟩:=dd;exact⟨ob,h1,h2.2.1⟩
section
variable{s:Shared}{y d:V}{r:Value}{o:Option V}
theorem Pe(hu:A.units+1<cLine)(I:Inv X pins σ H s)(g:u7 H a y o)(ry:RelV y u)(h:∀w' s',Inv X pins σ H s'->RelV (o.getD .bR) w'->Q w' s') :
  wpAny (model X.prog X.w) A (call (.builtin "dict.get") [.ref a,u]) Q E s:=by
 obtain⟨bE,k,e,ey,l⟩|⟨bE,k,b,e,ey,eb,l⟩:=g
 subst ey;obtain⟨z,hd,vs,rel,dd⟩:=xq I.bG e;refine call_meetsIn Rx dd.typeIs We (V' _ _) (meets_dict_get (bH X.prog X.w) a (xo ry) hd) ⟨_,dd.mapOf,h _ _ (I.tok _) ?_⟩;rw[l];exact (rel.val k).getD rfl;subst ey;cases (show u=Value.ref b from ry);obtain⟨z,hd,xs,rel,dd⟩:=Bl I.bG e;refine call_meetsIn Rx dd.typeIs We (V' _ _) (meetsH_dict_get (tupleKind (bH X.prog X.w)) a b hd) ⟨tupleKind_room_in1 hu,k,xs,zx I.bG eb,dd,h _ _ (I.tok _) ?_⟩;rw[l];exact (rel.val k).getD rfl
end
def Pf(td ty:TE):TE:=λσ H Q=>td σ H λx H1=>∃a,x=.ref a/\ZO H1 a/\ty σ H1 λy H2=>∃o,u7 H2 a y o/\Q (o.getD .bR) H2
section
variable{o f:Expr}{td ty tx:TE}
theorem FU(hu:X.A.units+1<cLine)(ho:PE X o td)(he:PE X e ty)(m:M1 X o "get" apos e aT):PE X (.Call (.Attribute o "get" apos) [e] [] aT) (Pf td ty):=by intro pins s σ H Q I h;refine wpAny_Call_method m.base m.D5 m.line Wa Rx PySem.F.type_dict_get (cm (ho pins s σ H _ I h) λu s1 ⟨x,H1,I1,rx,a,ex,d,q1⟩=>?_);subst ex;obtain rfl:u=Value.ref a:=rx;obtain⟨t1,t2,_⟩:=Pd I1 d;refine⟨t1,t2,?_⟩;rw[m.trees];refine Rq rfl (UZ (QR (cm (he pins s1 σ H1 _ I1 q1) λiv s2 ⟨y,H2,I2,ry,ov,g,q2⟩=>Calls.spliced_nil ?_)));exact Pe hu I2 g ry λw' s3 I3 rw'=>⟨_,H2,I3,rw',q2⟩
end
end L2
namespace Vc
open PySem PySem.W PySem.Calls PyProof.Rows
end Vc
namespace L2
open PySem PySem.Spec PyProof.Rows
end L2
namespace VT
open PySem PySem.Spec PyProof.Rows L2
noncomputable def FV:T->Option Key
 |.int i=>some (.inl i)
 |.str x=>some (.inr x)
 |_=>none
theorem u9{A:qah}{t:T}{k:Key}(h:jA K H A t v)(e:FV t=some k):v=kV k:=by
 cases t with
 |int i=>cases e;exact h.int
 |str x=>cases e;exact h.str
 |_=>cases e
noncomputable def gu{α:Type}:List Key->List α->Key->Option α
 |k::ks,t::ts,x=>if k=x then some t else gu ks ts x
 |_,_,_=>none
theorem f_:∀(ks:List Key)(vs:qak)(x:Key),i_ (ks.zip vs) x=gu ks vs x
 |[],vs,x=>rfl
 |k::ks,[],x=>rfl
 |k::ks,v::vs,x=>by simp only[gu,List.zip_cons_cons];by_cases e:k=x;rw[if_pos e,lj (p:=(k,v)) e];rw[if_neg e,ll (p:=(k,v)) e];exact f_ ks vs x
theorem xt(ts:List α)(x:Key):gu [] ts x=none:=by cases ts<;>rfl
theorem iy{K:qaf}{H:Hp}{A:qah}:∀{ks:List Key}{ts:qaj}{vs:qak}{x:Key},aB K H A ts vs->(∀t,gu ks ts x=some t->∃v,gu ks vs x=some v/\At K H A t v)/\(gu ks ts x=none->gu ks vs x=none)
 |[],ts,vs,x,h=>by rw[xt,xt];refine⟨λt e=>?_,λ_=>rfl⟩;cases e
 |k::ks,[],vs,x,h=>by simp only[aB] at h;subst h;exact⟨λt e=>(by cases e),λ_=>rfl⟩
 |k::ks,t::ts,vs,x,h=>by simp only[aB] at h;obtain⟨v,r,rfl,h1,h2⟩:=h;simp only[gu];by_cases e:k=x;rw[if_pos e,if_pos e];exact⟨λt e=>by cases e;exact⟨v,rfl,h1⟩,λq=>by cases q⟩;rw[if_neg e,if_neg e];exact iy h2
section
variable{a:Expr}{fc:FE}
def Tw:FP:=λ_ Q=>Q (.fr (.dk [] []))
theorem JW:VP X Z (.Dict [] [] pos) Tw:=.mk λtm=>PE.weak FT λσ H Q ⟨ρ,O,q,I,hf,k⟩ p hp=>
 k _ hf _ _ (aQ hp) (I.newD (ks:=[]) (ts:=[]) (vs:=[]) hp rfl aB.nil)
noncomputable def Tx(fa fb:FE):FP:=λρ Q=>fa ρ λx=>fb ρ λy=>match x,FV y with
 |.dk ks ts,some k=>∃t,gu ks ts k=some t/\Q (.vw t)
 |_,_=>False
theorem Pg(hu:X.A.units+1<cLine)(ha:VR X Z a fa)(hb:VR X Z b fb)(hs:Pb b:=by intro _ _;rfl):VP X Z (.Subscript a b pos) (Tx fa fb):=.mk λtm=>PE.weak (JV hu (ha tm) (hb tm) hs) λσ H Q ⟨ρ,O,q,I,hf,k⟩ =>
 ⟨ρ,O,_,I,hf,λx hx v H1 s1 a1=>⟨ρ,O,_,I.same s1,hx,λy hy w H2 s2 a2=>by
  split at hy
  rename_i ks ts kk e
  obtain⟨t,e1,hq⟩:=hy;obtain⟨l,vs,rfl,hl,hd,hv⟩:=(a1.same s2).dk;obtain⟨u,e2,e3⟩:=(iy hv).1 t e1;rw[u9 a2 e];exact⟨l,u,rfl,by rw[<- e2,<- f_];exact u7.k hd,k _ hq _ H2 (s1.trans s2) ⟨(I.same s1).same s2,e3⟩⟩;exact hy.elim⟩⟩
noncomputable def Yb(fa fb:FE):FP:=λρ Q=>fa ρ λx=>match x with
 |.dk ks ts=>fb ρ λy=>match FV y with
  |some k=>Q (.vw ((gu ks ts k).getD .bR))
  |none=>False
 |_=>False
theorem Bm{A:qah}{ks:List Key}{ts:qaj}{k:Key}{z:T}{w:V}(h:aB K H A ts vs)(hz:At K H A z w):At K H A ((gu ks ts k).getD z) ((gu ks vs k).getD w):=by
 cases e:gu ks ts k with
 |none=>rw[(iy h).2 e];exact hz
 |some t=>obtain⟨v,e1,e2⟩:=(iy h).1 t e;rw[e1];exact e2
theorem Ph(hu:X.A.units+1<cLine)(ha:VR X Z a fa)(hb:VR X Z b fb)(m:M1 X a "get" apos b aT):VP X Z (.Call (.Attribute a "get" apos) [b] [] aT) (Yb fa fb):=.mk λtm=>PE.weak (FU hu (ha tm) (hb tm) m) λσ H Q ⟨ρ,O,q,I,hf,k⟩ =>
 ⟨ρ,O,_,I,hf,λx hx v H1 s1 a1=>by
  split at hx
  rename_i ks ts
  obtain⟨l,vs,rfl,hl,hd,hv⟩:=a1.dk;refine⟨l,rfl,.inl ⟨_,.inl hd⟩,ρ,O,_,I.same s1,hx,λy hy w H2 s2 a2=>?_⟩;split at hy
  rename_i kk e
  rw[u9 a2 e];refine⟨_,u7.k (s2 _ _ hd),?_⟩;rw[f_];exact k _ hy _ H2 (s1.trans s2) ⟨(I.same s1).same s2,Bm (hv.same s2) mJ⟩;exact hy.elim;exact hx.elim⟩
end
def Mj(w:World)(K:qaf)(e:DictEntry)(p:Str×T):Prop:=e.hash=PyData.keyHash w.params p.1/\(∃t,e.key=.str p.1 t)/\∃v,RelV v e.val/\∀H A,At K H A p.2 v
def xu(w:World)(K:qaf)(a:Addr)(l:List (Str×T)):Prop:=∃es ep,K.lookup a=some ⟨.type "dict",none,.dict es ep,#[]⟩/\(a==sysModules)=false/\Paired (Mj w K) es.toList l/\(l.map (·.1)).Nodup
theorem ents{P:Program}{w:World}{K:qaf}:∀{es:List DictEntry}{l:List (Str×T)},Paired (Mj w K) es l ->
  ∃(vs:qak)(us:List (Key×Value)),(∀H A,aB K H A (l.map (·.2)) vs)/\KV ((l.map λp=>(Sum.inr p.1:Key)).zip vs) us/\PySem.Pairs (bH P w) es us/\us.map (·.1)=l.map (λp=>(Sum.inr p.1:Key))/\∀e∈es,∃k,(bH P w).is k e.key=true/\e.hash=(bH P w).hash k
 |_,_,.nil=>⟨[],[],λ_ _=>aB.nil,.nil,.nil,rfl,λ_ h=>nomatch h⟩
 |_,_,.cons (a:=e) (b:=p) r t=>by
   obtain⟨vs,us,h1,h2,h3,h4,h5⟩:=ents (P:=P) t;obtain⟨r1,⟨tk,r2⟩,v,r3,r4⟩:=r;have hk:(bH P w).is (Sum.inr p.1) e.key=true:=by rw[r2];show Value.isStrOf p.1 (.str p.1 tk)=true;simp[Value.isStrOf]
   refine⟨v::vs,(Sum.inr p.1,e.val)::us,λH A=>aB.cons (r4 H A) (h1 H A),.cons ⟨rfl,r3⟩ h2,.cons hk rfl h3,by rw[dP,dP,h4],λe' he=>?_⟩;rcases bL.mp he with q|q
   subst q;exact⟨Sum.inr p.1,hk,r1⟩;exact h5 e' q
theorem xu.of{s:Shared}{l:List (Str×T)}(I:Inv X pins σ H s)(d:xu X.w X.K a l) :
  ∃(vs:qak)(us:List (Key×Value)),(∀H A,aB X.K H A (l.map (·.2)) vs)/\KV ((l.map λp=>(Sum.inr p.1:Key)).zip vs) us/\s.heap.DictOf (bH X.prog X.w) a us/\(a==sysModules)=false:=by
 obtain⟨es,ep,lk,hs,hp,nd⟩:=d;obtain⟨vs,us,h1,h2,h3,h4,h5⟩:=ents (P:=X.prog) hp;refine⟨vs,us,h1,h2,⟨_,es,ep,I.jS a _ lk,⟨rfl,rfl,rfl⟩,rfl,λe he=>h5 e (by simpa using he),h3,?_⟩,hs⟩;rw[h4];have e:(l.map λp=>(Sum.inr p.1:Key))=(l.map (·.1)).map Sum.inr:=by rw[AQ];rfl
 rw[e];exact List.Pairwise.map _ (λa b h z=>h (Sum.inr.inj z)) nd
section
variable{c:Expr}{fc:FE}{l:List (Str×T)}
noncomputable def CL(l:List (Str×T))(k:Str):Option T:=gu (l.map λp=>(Sum.inr p.1:Key)) (l.map (·.2)) (Sum.inr k)
def onStr(t:T)(f:Str->Prop):Prop:=match t with
 |.str k=>f k
 |_=>False
theorem FW{t:T}{f:Str->Prop}(h:onStr t f):∃k,t=.str k/\f k:=by unfold onStr at h;split at h;exact⟨_,rfl,h⟩;exact h.elim
noncomputable def Yc(l:List (Str×T))(fe:FE):FP:=λρ Q=>fe ρ λy=>onStr y λk=>Q (.vw ((CL l k).getD .bR))
theorem xv(hg:Gl X x)(hm:X.mg x=some (.ref a))(d:xu X.w X.K a l)(he:VR X Z e fe)(m:M1 X (.Name x p) "get" apos e aT)(hd:fW x:=by decide) :
  VP X Z (.Call (.Attribute (.Name x p) "get" apos) [e] [] aT) (Yc l fe):=.mk λtm pins s σ H Q I ⟨ρ,O,q,E,hf,k⟩=>by
 refine wpAny_Call_method m.base m.D5 m.line Wa Rx PySem.F.type_dict_get (cm (oV hg hm (v:=.ref a) rfl hd pins s σ H (λv H'=>v=.ref a/\H'=H) I ⟨rfl,rfl⟩) λu s1 ⟨x',H1,I1,rx,ex,eH⟩=>?_);subst ex eH;obtain rfl:u=Value.ref a:=rx;obtain⟨vs,us,h1,h2,dd,hs⟩:=d.of I1;refine⟨dd.typeIs,λb q=>?_,?_⟩;cases q;obtain⟨ob,_,_,z1,z2,_⟩:=dd;exact⟨ob,z1,z2.2.1⟩;rw[m.trees];refine Rq rfl (UZ (QR (cm (he tm pins s1 σ H1 (λy H2=>∃t,jA X.K H2 (av Z O) t y/\aL H1 H2/\onStr t λk=>q (.vw ((CL l k).getD .bR))) I1 ⟨ρ,O,_,E,hf,λt ht v H' s a1=>⟨t,a1,s,ht⟩⟩) λiv s2 ⟨y,H2,I2,ry,t,a1,sa,q3⟩=>Calls.spliced_nil ?_)));obtain⟨kk,et,q3⟩:=FW q3;subst et;obtain⟨kG,us',OM,Fm,JX,CB⟩:=d.of I2;have ey:=a1.str;subst ey;refine call_meetsIn Rx JX.typeIs We (V' _ _) (meets_dict_get (bH X.prog X.w) a (xo (k:=Sum.inr kk) ry) CB) ⟨_,JX.mapOf,⟨_,H2,I2.tok _,(Fm.val (Sum.inr kk)).getD (d:=.bR) rfl,?_⟩⟩;rw[f_];exact k _ q3 _ H2 sa ⟨E.same sa,Bm (OM H2 (av Z O)) mJ⟩
end
end VT
namespace Gen
open PySem L2 VT
open rR (bt)
theorem small(h:n<=1000):n<=sizeLine:=Nat.le_of_lt (Cq h)
theorem xw(h:Nat.ble n 1000=true):n<=sizeLine:=small (Nat.le_of_ble_eq_true h)
noncomputable def gW(n:Int):Nat:=bt.cps.toList.getD (n % 26).toNat 0
theorem xx:bt.cps.toList.length=26:=by decide +kernel
theorem u_:bt.length=26:=by decide +kernel
theorem gH:bt.length<=sizeLine:=by rw[u_,sizeLine_eq];decide
theorem tK(n:Int):kF bt.cps.toList (n % 26)=some (gW n):=by
 have h0:0<=n % 26:=kD n (by decide);have h1:n % 26<26:=mq n (by decide);unfold gW;obtain⟨j,hj⟩:=AN h0;rw[hj];have gq:j<bt.cps.toList.length:=by rw[xx];omega
 refine aG ?_;rw[DW,List.getD,kB gq];rfl
def sd(c:Int):Int:=c % 1000000000000
def ja(c:Int):Nat:=(1+sd c % 7).toNat
def CM(c:Int):Nat:=(sd c / 7 % (ja c:Int)).toNat
noncomputable def va(c:Int)(k j:Nat):Int:=sd c / 49 / ((j:Int)+1)+(j:Int) * (j:Int)+(if j=CM c then (k:Int) else 0)
noncomputable def cc(c:Int)(k n:Nat):Str:=⟨((List.range n).map λj=>gW (va c k j)).toArray⟩
noncomputable def bU(c:Int)(m:Nat):qai :=
 if sd c / 49 % 3=1 then ((List.range m).map λk=>cc c k (ja c)).set 1 (cc c 0 (ja c)++⟨#[gW (sd c / 147)]⟩) else (List.range m).map λk=>cc c k (ja c)
theorem Mk(c:Int):((ja c:Nat):Int)=1+sd c % 7:=by unfold ja;have:0<=sd c % 7:=kD _ (by decide);omega
theorem qg(c:Int):1<=ja c/\ja c<=7:=by have:=Mk c;have h0:0<=sd c % 7:=kD _ (by decide);have h1:sd c % 7<7:=mq _ (by decide);omega
theorem Ml(c:Int):((CM c:Nat):Int)=sd c / 7 % (ja c:Int):=by unfold CM;have h:=qg c;have:0<=sd c / 7 % (ja c:Int):=kD _ (by omega);omega
theorem Tz(c:Int):CM c<ja c:=by have h:=qg c;have h1:=Ml c;have:sd c / 7 % (ja c:Int)<ja c:=mq _ (by omega);omega
theorem zy(c:Int)(k n:Nat):cc c k (n+1)=cc c k n++⟨#[gW (va c k n)]⟩:=by
 unfold cc;rw[List.range_succ,wm];show _=Str.mk (_++_)
 congr 1
 simp
theorem dG(c:Int)(k n:Nat):(cc c k n).length=n:=by unfold cc Str.length;simp
theorem zA(c:Int)(m:Nat):(bU c m).length=m:=by unfold bU;split<;>simp
theorem TB:(10:Int) ^ (12:Int).toNat=1000000000000:=by decide +kernel
inductive oE where
 |nm (x:Str)
 |nu (i:Int)
inductive Ky where
 |fld (x:Str)
 |op (o:oE)
inductive Rw where
 |df (f:Str) (ps:qai)
 |give (a:oE)
 |put (x:Str) (a:oE)
 |Bn (x:Str) (a:oE) (op:Str) (b:oE)
 |new (x:Str)
 |get (x r:Str) (k:Ky)
 |set (r:Str) (k:Ky) (a:oE)
 |call (x f:Str) (as:List oE)
 |fail (w:Str)
 |Ij (a:oE)
 |TC
 |yL (a:oE)
 |fin
 |skip
noncomputable def tO:oE->T
 |.nm x=>.str x
 |.nu i=>.int i
noncomputable def Rc:Ky->T
 |.fld x=>.str (((".":String):Str)++x)
 |.op o=>tO o
noncomputable def bw:Rw->T
 |.df f ps=>.tup [.str "def",.str f,.tup (ps.map .str)]
 |.give a=>.tup [.str "give",tO a]
 |.put x a=>.tup [.str "put",.str x,tO a]
 |.Bn x a op b=>.tup [.str "do",.str x,tO a,.str op,tO b]
 |.new x=>.tup [.str "new",.str x]
 |.get x r k=>.tup [.str "get",.str x,.str r,Rc k]
 |.set r k a=>.tup [.str "set",.str r,Rc k,tO a]
 |.call x f as=>.tup [.str "call",.str x,.str f,.tup (as.map tO)]
 |.fail w=>.tup [.str "fail",.str w]
 |.Ij a=>.tup [.str "if",tO a]
 |.TC=>.tup [.str "else"]
 |.yL a=>.tup [.str "while",tO a]
 |.fin=>.tup [.str "end"]
 |.skip=>.tup [.str "skip"]
def cT(ys:qai):oE->Prop
 |.nm x=>x∈ys
 |.nu i=>-1000000000000000000000000000000<=i/\i<1000000000000000000000000000000
def zB(ys:qai):Ky->Prop
 |.fld x=>x∈ys
 |.op o=>cT ys o
abbrev Plan:=List (Str×qai)
noncomputable def reckon:qai:=["plus","minus","times","over","rest","less","same"]
def gY(ys:qai)(later:Plan):Rw->Prop
 |.put x a=>x∈ys/\cT ys a
 |.Bn x a op b=>x∈ys/\cT ys a/\op∈reckon/\cT ys b
 |.new x=>x∈ys
 |.get x r k=>x∈ys/\r∈ys/\zB ys k
 |.set r k a=>r∈ys/\zB ys k/\cT ys a
 |.call x f as=>x∈ys/\(∃ps,(f,ps)∈later/\as.length=ps.length)/\∀a∈as,cT ys a
 |.fail w=>w∈ys
 |.skip=>True
 |_=>False
noncomputable def bz(p:Str×qai):T:=.tup [.str p.1,.tup (p.2.map .str)]
theorem lq(hl:ys.length=6){n:Int}(hm:0<m)(hm6:m<=6):∃y∈ys,kF (ys.map T.str) (n % (m:Int))=some (T.str y):=by
 have h0:0<=n % (m:Int):=kD n (by omega);have h1:n % (m:Int)<m:=mq n (by omega);obtain⟨j,hj⟩:=AN h0;have gq:j<ys.length:=by omega
 refine⟨ys[j],yO gq,?_⟩;rw[hj];refine aG ?_;rw[mf,kB gq];rfl
theorem TF:(10:Int) ^ (30:Int).toNat=1000000000000000000000000000000:=by decide +kernel
theorem TH:(10:Int) ^ (9:Int).toNat=1000000000:=by decide +kernel
theorem TJ:(10:Int) ^ (6:Int).toNat=1000000:=by decide +kernel
theorem Yd:(((".":String):Str)).length=1:=by decide +kernel
theorem TK(i:Int):∃op∈reckon,kF [T.str "plus",T.str "minus",T.str "times",T.str "over",T.str "rest",T.str "less",T.str "same"] (i % 7)=some (T.str op):=by
 have h0:0<=i % 7:=kD i (by decide);have h1:i % 7<7:=mq i (by decide);obtain⟨j,hj⟩:=AN h0;rw[hj] at h1 ⊢;have:j=0\/j=1\/j=2\/j=3\/j=4\/j=5\/j=6:=by omega
 obtain rfl|rfl|rfl|rfl|rfl|rfl|rfl:=this
 exact⟨"plus",by simp[reckon],aG rfl⟩;exact⟨"minus",by simp[reckon],aG rfl⟩;exact⟨"times",by simp[reckon],aG rfl⟩;exact⟨"over",by simp[reckon],aG rfl⟩;exact⟨"rest",by simp[reckon],aG rfl⟩;exact⟨"less",by simp[reckon],aG rfl⟩;exact⟨"same",by simp[reckon],aG rfl⟩
theorem Pj(hl:ys.length=6)(n:Int):∃y∈ys,kF (ys.map T.str) (4+n % 2)=some (T.str y):=by
 have h0:0<=n % 2:=kD n (by decide);have h1:n % 2<2:=mq n (by decide);obtain⟨j,hj⟩:=AN h0;have gq:4+j<ys.length:=by omega
 refine⟨ys[4+j],yO gq,?_⟩;rw[hj];have e:(4:Int)+(j:Int)=((4+j:Nat):Int):=by omega
 rw[e];refine aG ?_;rw[mf,kB gq];rfl
def mZ(ys:qai)(pl:Plan)(bI:qai)(new:List Rw)(dB:qai):Prop :=
 (∃o,cT ys o/\new=[.Ij o]/\dB=bI++([("if":Str)]:qai))\/(∃o,cT ys o/\new=[.yL o]/\dB=bI++([("while":Str)]:qai)) \/
 (∃y,y∈ys/\new=[.yL (.nm y),.Bn y (.nm y) "minus" (.nu 1)]/\dB=bI++([("while":Str)]:qai))\/(∃s0,bI=s0++([("if":Str)]:qai)/\new=[.TC]/\dB=s0++([("else":Str)]:qai)) \/
 (∃s0 x,bI=s0++[x]/\new=[.fin]/\dB=s0)\/(∃r,gY ys pl r/\new=[r]/\dB=bI)
theorem JY{pl:Plan}{bI new dB}(h:mZ ys pl bI new dB):new.length+dB.length<=bI.length+3:=by obtain⟨o,_,rfl,rfl⟩|⟨o,_,rfl,rfl⟩|⟨y,_,rfl,rfl⟩|⟨s0,rfl,rfl,rfl⟩|⟨s0,x,rfl,rfl,rfl⟩|⟨r,_,rfl,rfl⟩:=h<;>simp<;>omega
def m9(ys:qai)(pl:Plan):Prop:=∀(k:Nat) f ps,pl[k]?=some (f,ps)->ys[k]?=some f/\∃(a:Int)(r:Nat),r<=2/\ps=(List.range r).map λj=>ys.getD ((a+((j:Nat):Int)) % 4).toNat Str.empty
theorem FY(hl:ys.length=6)(n:Int):kF (ys.map T.str) (n % 4)=some (T.str (ys.getD (n % 4).toNat Str.empty)):=by
 have h0:0<=n % 4:=kD n (by decide);have h1:n % 4<4:=mq n (by decide);obtain⟨j,hj⟩:=AN h0;have gq:j<ys.length:=by omega
 rw[hj];refine aG ?_;rw[mf,DW,List.getD,kB gq];rfl
inductive Body(ys:qai)(later:Plan):qai->List Rw->Prop
 |nil:Body ys later [] []
 |step {bI dB:qai} {body new:List Rw}:Body ys later bI body->mZ ys later bI new dB->Body ys later dB (body++new)
inductive Pre(ys:qai)(pl:Plan):Nat->List Rw->Prop
 |zero:Pre ys pl 0 []
 |succ {k:Nat} {rs:List Rw} {f:Str} {ps:qai} {bI:qai} {body:List Rw} {o:oE} {sk:List Rw}:Pre ys pl k rs->pl[k]?=some (f,ps)->Body ys (pl.drop (k+1)) bI body->cT ys o->(sk=[]\/sk=[.skip]) ->
  Pre ys pl (k+1) (rs++(.df f ps::(body++(List.replicate bI.length .fin++(.give o::sk)))))
theorem iA{α:Type}{f:α->T}(h:∀x,plainT (f x)=true):∀l:List α,cw (l.map f)=true
 |[]=>by simp[cw]
 |x::l=>by simp only[dP,cw,h x,iA h l,Bool.and_self]
theorem lr{α:Type}{f:α->T}{n:Nat}(h:∀x,dep (f x)<=n):∀l:List α,pN (l.map f)<=n
 |[]=>by simp[pN]
 |x::l=>by have:=h x;have:=lr h l;simp only[dP,pN];omega
theorem zC(p:Str×qai):plainT (bz p)=true:=by simp[bz,plainT,cw,iA (f:=T.str) (λ_=>by simp[plainT])]
theorem xy(pl:Plan):plainT (.lst (pl.map bz))=true:=by simp only[plainT];exact iA zC pl
theorem FZ(p:Str×qai):dep (bz p)<=2:=by have:=lr (f:=T.str) (n:=0) (λ_=>by simp[dep]) p.2;simp only[bz,dep,pN];omega
theorem CN(pl:Plan):dep (.lst (pl.map bz))<=100:=by have:=lr (f:=bz) (n:=2) FZ pl;simp only[dep];omega
end Gen
variable{r:Gen.Rw}{pl:Gen.Plan}
abbrev qal:=List Gen.Rw
namespace dj
open PySem L2 VT Gen rR
noncomputable def top(i:Nat):Stmt:=PySem.Challenge.pw_slicewise_k18_texts_refused.main.body.getD i (.Pass ⟨0,0,0,0⟩)
noncomputable abbrev gA:Stmt:=top 17
noncomputable abbrev jC:Stmt:=top 18
noncomputable abbrev iB:Stmt:=top 19
noncomputable abbrev ki:Stmt:=top 20
noncomputable abbrev qh:Stmt:=top 21
structure Vs(mg:qae):Prop where
 H:∃t,mg "H"=some (.int 1000000000000000000000000000000 t)
 JZ:∃t,mg "LETTERS"=some (.str bt t)
 vb:∃t,mg "LONGEST_NAME"=some (.int 8 t)
 isinstance:mg "isinstance"=none
 int:mg "int"=none
 bool:mg "bool"=none
 str:mg "str"=none
 len:mg "len"=none
 all:mg "all"=none
theorem c_(h:n<=4000):n<=sizeLine:=by rw[sizeLine_eq];omega
noncomputable def lu:T->Bool
 |.lst _=>false
 |.dk _ _=>false
 |.dc _ _ _=>false
 |.ins _ _ _=>false
 |.pin _ _=>false
 |.ob _=>false
 |.ty _=>false
 |_=>true
noncomputable def Pk:T->Bool
 |.int i=>decide (-1000000000000000000000000000000<=i) && decide (i<1000000000000000000000000000000)
 |_=>false
noncomputable def bT:T->Bool
 |.str x=>aW x
 |_=>false
def TL(ts:qaj)(q:qam):Prop:=∃t,ts=[t]/\lu t=true/\q (.vw (.bl (Pk t)))
def iK(ts:qaj)(q:qam):Prop:=∃t,ts=[t]/\lu t=true/\(∀x,t=.str x->x.length<=4000)/\q (.vw (.bl (bT t)))
def F0(r:Rt)(A:Prop)(B:Prop):Prop:=match r with
 |.vw (.bl true)=>A
 |.vw (.bl false)=>B
 |_=>False
theorem F1{c d:Bool}(h:q (.vw (.bl (c && d)))):F0 (.vw (.bl c)) (q (.vw (.bl d))) (q (.vw (.bl false))):=by
 cases c with
 |_=>exact h
theorem jc{c:Bool}{A:Prop}(h1:c=true->A)(h2:c=false->B):F0 (.vw (.bl c)) A B:=by
 cases c with
 |true=>exact h1 rfl
 |false=>exact h2 rfl
theorem vd:∀l:qao,cz (l.map ((λt:T=>match t with | .str y=>.bl (tw y bt)|_=>.bR) ∘ λc=>T.str ⟨#[c]⟩))=some (l.map Ct)
 |[]=>rfl
 |c::l=>by rw[dP,dP];show (cz _).map _=_;rw[vd l];rfl
section
noncomputable abbrev n5:qai:=qav
theorem lx:aJ n5 qav (ak gA):=L2.ij
theorem CO(D:Df K mg "is_number" gA qav f fd)(M:Vs mg):cM P w K mg base "is_number" qav 1 (cy K 1 TL):=by
 refine D.lg (mi D.F lx rfl λbS A outer s H E Ox hr ts q hG=>?_);have nd:=lx.nd;obtain⟨tH,mH⟩:=M.H;have ZP:∀{pos},VP (fE kU P w K mg base n5 "is_number" (ak gA) f bS A outer s H E).wo ⟨H,[],Ox⟩ (.Name "H" pos) (fC (.int 1000000000000000000000000000000)):=fg (by rfl) mH (v:=.int 1000000000000000000000000000000) ⟨tH,rfl⟩ λ_ _=>bC;refine⟨_,(ai (ay (qau (uN (fq Fo (by rfl) M.isinstance (by rfl) M.int Mf (ae 0)) (uN (EZ (fq tq (by rfl) M.isinstance (by rfl) M.bool Fv (ae 0))) (pM (Fs Eu LV (qas (kc (qas ZP))) (ae 0) (qas ZP)))))))),λ_=>?_⟩;obtain⟨t,rfl,ht,hq⟩:=hG;cases t with
 |bR=>exact⟨rfl,hq⟩
 |bl b=>exact⟨rfl,rfl,hq⟩
 |str x=>exact⟨rfl,hq⟩
 |tup l=>exact⟨rfl,hq⟩
 |int i=>refine⟨rfl,rfl,?_⟩;have gI:q (.vw (.bl (decide (-1000000000000000000000000000000<=i) && decide (i<1000000000000000000000000000000)))):=hq;exact F1 (c:=decide (-1000000000000000000000000000000<=i)) gI
 |_=>cases ht
abbrev m_:qai:=qav
theorem qi:aJ m_ qav (ak jC):=L2.ij
theorem se:(m_++(["sign"]:qai)).Nodup:=by decide +kernel
theorem J_(D:Df K mg "is_name" jC qav f fd)(M:Vs mg):cM P w K mg base "is_name" qav 1 (cy K 1 iK):=by
 refine D.lg (mi D.F qi rfl λbS A outer s H E Ox hr ts q hG=>?_);have nd:=qi.nd;have np:∀{i:Nat},ba ⟨H,[],Ox⟩ i:=mW;obtain⟨tL,mL⟩:=M.JZ;obtain⟨tN,mN⟩:=M.vb;have qj:∀{pos},VP (fE kU P w K mg base m_ "is_name" (ak jC) f bS A outer s H E).wo ⟨H,[],Ox⟩ (.Name "LONGEST_NAME" pos) (fC (.int 8)):=fg (by rfl) mN (v:=.int 8) ⟨tN,rfl⟩ λ_ _=>bC;refine⟨_,(af (aS (VW.vc (gw (dA (cp (fq k_ (by rfl) M.isinstance (by rfl) M.str Bj (ae 0)))) (ir (dA (Ft Eu Eu (qas ag) (qas (az aD aE (by rfl) M.len iU (aq (ae 0) au))) (qas qj))))))
    (ai (ay (qau fL)))
    ax)
   (ai (ay (qau (az (cQ rfl) gU (by rfl) M.all xg (aq (qas (jB (ts:=["sign"]) rfl (by rfl) (fF (ao 0)) (λ_ _ _ _ _ _=>(aX (i:=1) se rfl (Or.inl rfl) np)) (λ_ _ _ _ _ _=>fm) (λ_ _ _ _ _ _=>(qat (Fq (ae 1) (qas (fg (by rfl) mL (v:=.str bt) ⟨tL,rfl⟩ λ_ _=>bJ))))))) au)))))),λ_=>?_⟩
 obtain⟨t,rfl,ht,hx,hq⟩:=hG;cases t with
 |bR=>exact⟨rfl,hq⟩
 |bl b=>exact⟨rfl,hq⟩
 |int x=>exact⟨rfl,hq⟩
 |tup l=>exact⟨rfl,hq⟩
 |str x=>
   have hl:=hx x rfl;have gI:q (.vw (.bl (decide (1<=(x.length:Int)) && (decide ((x.length:Int)<=8) && x.cps.toList.all Ct)))):=hq;refine⟨rfl,c_ hl,jc (c:=decide (1<=(x.length:Int))) (λh1=>?_) (λh1=>?_)⟩;rw[h1,yI] at gI;refine ow (λh2=>?_) (λh2=>?_);have Fm:(!decide ((x.length:Int)<=8))=true:=h2;have h3:decide ((x.length:Int)<=8)=false:=by simpa using Fm
   rw[h3,DZ] at gI;exact gI;have Fm:¬ (!decide ((x.length:Int)<=8))=true:=h2;have h3:decide ((x.length:Int)<=8)=true:=by simpa using Fm
   rw[h3,yI] at gI;refine⟨rfl,by rw[bQ,B_];exact c_ hl,gR (λ_=>true) (λt=>match t with | .str y=>.bl (tw y bt)|_=>.bR) (λt ht k r h=>?_) ?_⟩;obtain⟨c,_,rfl⟩:=iS.mp ht;exact⟨_,rfl,h⟩;rw[UP.mpr (λ_ _=>rfl),AQ];refine⟨x.cps.toList.map Ct,vd x.cps.toList,?_⟩;rw[Q0];exact gI;rw[h1,DZ] at gI;exact gI
 |_=>cases ht
end
noncomputable def dS(t:T):Bool:=bT t || Pk t
def F3(ts:qaj)(q:qam):Prop:=∃t,ts=[t]/\lu t=true/\(∀x,t=.str x->x.length<=4000)/\q (.vw (.bl (dS t)))
section
noncomputable abbrev vf:qai:=qav
theorem jV:aJ vf qav (ak iB):=L2.ij
theorem kj(D:Df K mg "is_operand" iB qav f fd)(c1:cM P w K mg base "is_name" qav 1 (cy K 1 iK))(c2:cM P w K mg base "is_number" qav 1 (cy K 1 TL)):cM P w K mg base "is_operand" qav 2 (cy K 1 F3):=by obtain⟨ng,km,eV,eW,eX,eY⟩:=c1;obtain⟨Mm,Ka,xA,xB,xC,xD⟩:=c2;refine D.lg (mi D.F jV rfl λbS A outer s H E Ox hr ts q hG=>?_);have nd:=jV.nd;refine⟨_,(ai (ay (qau (EY (bu eY (hr.mono (by decide)) (by rfl) eV eW eX (aa (ao 0) aj)) (pM (bu xD (hr.mono (by decide)) (by rfl) xA xB xC (aa (ao 0) aj))))))),λ_=>?_⟩;obtain⟨t,rfl,ht,hx,hq⟩:=hG;unfold dS at hq;refine⟨rfl,t,rfl,ht,hx,jc (c:=bT t) (λh=>?_) (λh=>⟨rfl,t,rfl,ht,?_⟩)⟩;rw[h,Bool.true_or] at hq;exact hq;rw[h,RJ] at hq;exact hq
end
end dj
variable{rs:qal}
namespace VT
open PySem PySem.Spec PyProof.Rows L2
end VT
namespace RV
open PySem PySem.Spec PyProof.Rows
section
variable{s:Shared}{R:Result->Shared->Prop}
variable{I:Addr}{wr:qah}{G:Array GenState->Array GenState->Prop}{P:Nat->Value->Prop}{St:Nat->Shared->Prop}
end
section
variable{s:Shared}
variable{I:Addr}{wr:qah}{G:Array GenState->Array GenState->Prop}{P:Nat->Value->Prop}{St:Nat->Shared->Prop}
end
end RV
namespace VT
open PySem PySem.Spec PyProof.Rows L2
theorem Mn(h:n+101<cLine):n+1<cLine:=by omega
section
variable{A:qah}
theorem tQ:∀{ys:qai}{vs:qak},aB K H A (ys.map T.str) vs->vs=ys.map V.str
 |[],vs,h=>by simpa only[uB,aB] using h
 |y::ys,vs,h=>by simp only[dP,aB] at h;obtain⟨v,r,rfl,h1,h2⟩:=h;simp only[At] at h1;rw[h1,tQ h2];rfl
end
section
theorem CP(hu:X.A.units+101<cLine):fD X (compareOp .In) (λx y H Q=>∃(p q:Addr)(xs:qak)(ys:qai),x=.ref p/\y=.ref q/\eF X.K H p xs/\eF X.K H q (ys.map V.str)/\Q (.bl false) H):=by
 intro pins s σ H x y v u Q I rx ry h;obtain⟨p,q,xs,ys,rfl,rfl,h1,h2,hq⟩:=h;cases rx;cases ry;obtain⟨aK,r,pl,hz⟩:=I.tuple h1;obtain⟨iT,r2,pl2,hz2⟩:=I.tuple h2;have gp:∀w∈iT.toArray,SeqAt.EqAt X.A.in1 s w (.ref p) false:=by
  intro w hw;have hw':w∈iT:=by simpa using hw
  obtain⟨i,hi⟩:=Ru.mp hw';have hl:=r2.length;rw[bQ] at hl;have hiy:i<ys.length:=by have:=(gN.mp hi).1;omega
  obtain⟨u,gn,ru⟩:=r2.get (show (ys.map V.str)[i]?=some (.str ys[i]) by rw[mf,kB hiy];rfl);rw[hi] at gn;cases gn;obtain⟨t,rfl⟩:=ru;exact SeqAt.EqAt.str_tuple _ _ pl (by rw[in1_units];omega)
 refine SeqAt.in_tupleAt (λ_=>false) pl2 gp ⟨.bl false,H,I,?_,hq⟩;show Value.bool _=Value.bool false
 congr 1
 exact Array.any_eq_false.mpr (by simp)
def Pl(x y:T)(q:qam):Prop:=match x,y with
 |.tup _,.tup us=>∃ys:qai,us=ys.map .str/\q (.vw (.bl false))
 |_,_=>False
theorem Kb:pL K (λx y H Q=>∃(p q:Addr)(xs:qak)(ys:qai),x=.ref p/\y=.ref q/\eF K H p xs/\eF K H q (ys.map V.str)/\Q (.bl false) H) Pl:=by intro Z tm O ρ σ H x y v w q Q I h1 h2 h k;unfold Pl at h;split at h;obtain⟨ys,rfl,h⟩:=h;obtain⟨a,vs,rfl,s1,_⟩:=h1.tup;obtain⟨b,ws,rfl,s2,a2⟩:=h2.tup;have e:ws=ys.map V.str:=tQ a2;rw[e] at s2;exact⟨a,b,vs,ys,rfl,rfl,s1,s2,k _ h _ H (aL.refl H) ⟨I,c9⟩⟩;exact h.elim
def Pm(x y:T)(q:qam):Prop:=match x with
 |.tup _=>Pl x y q
 |_=>Tb x y q
noncomputable def TM(K:qaf):R2:=λx y H Q=>Fp K false x y H Q\/∃(p q:Addr)(xs:qak)(ys:qai),x=.ref p/\y=.ref q/\eF K H p xs/\eF K H q (ys.map V.str)/\Q (.bl false) H
theorem Pn(hu:X.A.units+101<cLine):fD X (compareOp .In) (TM X.K):=by
 intro pins s σ H x y v u Q I rx ry h;obtain h|h:=h
 exact zj pins s σ H x y v u Q I rx ry h;exact CP hu pins s σ H x y v u Q I rx ry h
theorem Kc:pL K (TM K) Pm:=by intro Z tm O ρ σ H x y v w q Q I h1 h2 h k;unfold Pm at h;split at h;exact Or.inr (Kb Z tm O ρ σ H _ y v w q Q I h1 h2 h k);exact Or.inl (zk Z tm O ρ σ H x y v w q Q I h1 h2 h k)
end
section
variable{a:Expr}
theorem Po(hu:X.A.units+101<cLine)(ha:VR X Z a fa)(hb:VR X Z b fb)(hm:behindInMarks .In b=false:=by rfl):VP X Z (.Compare a [.In] [b] pos) (f2 fa fb Pm):=uM (Pn hu) Kc ha hb hm
end
abbrev FPs:=En->(List (Key×T)->Prop)->Prop
def andM(r:Rt)(A B:Prop):Prop:=match r with
 |.vw (.bl true)=>A
 |.vw (.bl false)=>B
 |_=>False
theorem Bo{c:Bool}{A:Prop}(h1:c=true->A)(h2:c=false->B):andM (.vw (.bl c)) A B:=by
 cases c with
 |true=>exact h1 rfl
 |false=>exact h2 rfl
section
variable{k:Nat}
abbrev GV:=qaj->(qam)->Prop
def F4(i n:Nat)(g:FA)(Fn:Addr->GV->Prop):FP:=λρ Q=>match ρ[i]? with
 |some (some (.ob f,false))=>∃G,Fn f G/\g ρ λts=>ts.length=n/\G ts Q
 |_=>False
theorem F5(i:Nat){Fn:Addr->GV->Prop}(C:∀f G,Fn f G->PySem.W.keepIn X.K (.ref f)=true/\∃fd ps,Binds X.K fd ps []/\eM X.prog X.w X.K X.mg X.base kU k f fd ps (cy X.K n G))(hr:bM k X.A)(ha:VA X Z (e::es) g)(hN:X.N[i]?=some x:=by rfl)(hv:pk X.env.scope x:=by first|exact Or.inl rfl|exact Or.inr (Or.inl rfl)|exact Or.inr (Or.inr rfl))(hd:fW x:=by decide)(gM:sN x:=by decide)(he:starEach (e::es) X.env=(false,eval e X.env)::starEach es X.env:=by rfl)(fz:(backTo pos (starEach es X.env)).any (·.1)=false:=by rfl) :
  VP X Z (.Call (.Name x p) (e::es) [] pos) (F4 i n g Fn):=.mk λtm pins s σ H Q I ⟨ρ,O,q,E,hf,kk⟩=>by
 unfold F4 at hf;split at hf
 rename_i f e0
 obtain⟨G,hFn,hf⟩:=hf;obtain⟨o,sv,h1,h2,rfl,v,rfl,h3⟩:=E.sl i _ e0;simp only[At] at h3;subst h3;obtain⟨hk,fd,ps,hb,F⟩:=C f G hFn;refine wpAny_Call_Name_kw (cm (dQ hN hv hd gM pins s σ H (λv H'=>v=.ref f/\H'=H) I ⟨_,h2,rfl,rfl⟩) λu s1 ⟨v,H1,I1,r,ev,eH⟩=>?_);subst ev eH;obtain rfl:u=Value.ref f:=r;refine RD (h₀:=X.base) I1.ok.mod.Nl hk (cm (ha tm pos pins s1 σ H1 (λvs H2=>cy X.K n G (vs++[]) H2 Q E0) I1 ⟨ρ,O,_,E,hf,λts h_ vs H2 s2 a2=>gx (E.same s2) a2 h_.1 h_.2 λr hr v H' s z=>kk r hr v H' (s2.trans s) z⟩) λus s2 ⟨vs,H2,I2,r2,q2⟩=>⟨I2.jS,?_⟩) he fz;exact EA F hr hb .nil A8 I2 r2 q2;exact hf.elim
end
end VT
namespace dj
open PySem L2 VT Gen rR
noncomputable abbrev dU:Stmt:=top 22
noncomputable abbrev dW:Stmt:=top 23
noncomputable abbrev eZ:Stmt:=top 24
structure Pp(w:World)(K:qaf)(mg:qae):Prop where
 m2:Vs mg
 zD:∃t,mg "MOST_PARTS"=some (.int 4 t)
 zE:∃a,mg "RECKONINGS"=some (.ref a)/\∀H,eF K H a [.str "plus",.str "minus",.str "times",.str "over",.str "rest",.str "less",.str "same"]
 isinstance:mg "isinstance"=none
 int:mg "int"=none
 bool:mg "bool"=none
 str:mg "str"=none
 len:mg "len"=none
 all:mg "all"=none
 tuple:mg "tuple"=none
 set:mg "set"=none
 zip:mg "zip"=none
noncomputable def F6:T->Bool
 |.str x=>mI x
 |_=>false
noncomputable def sg(t:T):Bool:=F6 t || dS t
noncomputable def Kd:qaj:=[.str "plus",.str "minus",.str "times",.str "over",.str "rest",.str "less",.str "same"]
noncomputable def CQ:T->Bool
 |.tup _=>false
 |t=>w_ t Kd
noncomputable def zF:T->Bool
 |.tup l=>decide (l.length<=4) && l.all dS
 |_=>false
def strsOf(l:qaj):qai:=l.filterMap λt=>match t with
 |.str x=>some x
 |_=>none
noncomputable def Ke:T->Bool
 |.tup l=>(decide (l.length<=4) && l.all dS) && (l.all bT && decide ((once (strsOf l)).length=l.length))
 |_=>false
def lC(t:T):Prop:=(∃x,t=.str x/\x.length<=3100)\/∃i,t=.int i
def Part(t:T):Prop:=lC t\/∃l,t=.tup l/\l.length<=10/\∀u∈l,lC u
theorem lC.flat{t:T}(h:lC t):lu t=true:=by obtain⟨x,rfl,_⟩|⟨i,rfl⟩:=h<;>rfl
theorem lC.short{t:T}(h:lC t):∀x,t=.str x->x.length<=4000:=by
 rintro x rfl;obtain⟨y,e,hy⟩|⟨i,e⟩:=h
 cases e;omega;cases e
theorem Part.flat{t:T}(h:Part t):lu t=true:=by obtain h|⟨l,rfl,_⟩:=h;exact h.flat;rfl
theorem Part.short{t:T}(h:Part t):∀x,t=.str x->x.length<=4000:=by
 obtain h|⟨l,rfl,_⟩:=h
 exact h.short;intro x e;cases e
def xE(p:T->Bool)(ts:qaj)(q:qam):Prop:=∃t,ts=[t]/\Part t/\q (.vw (.bl (p t)))
abbrev TN:=xE F6
abbrev F7:=xE sg
abbrev Pq:=xE CQ
abbrev Kg:=xE zF
abbrev Pr:=xE Ke
theorem nt{b:Bool}(h:(!b)=true):b=false:=by cases b<;>simp_all
theorem nf{b:Bool}(h:¬ (!b)=true):b=true:=by cases b<;>simp_all
theorem qk(p:T->Bool):∀l:qaj,cz (l.map λt=>T.bl (p t))=some (l.map p)
 |[]=>rfl
 |t::l=>by rw[dP,dP];show (cz _).map _=_;rw[qk p l];rfl
theorem ql{l:qaj}(h:l.all bT=true):l=(strsOf l).map .str:=by
 induction l with
 |nil=>rfl
 |cons t l ih=>
  rw[wu,eJ] at h;cases t with
  |str x=>show T.str x::l=T.str x::(strsOf l).map T.str;rw[<- ih h.2]
  |_=>cases h.1
section
abbrev zG:qai:=qav
theorem n6:aJ zG qav (ak ki):=L2.ij
theorem xF(D:Df K mg "is_field" ki qav f fd)(M:Pp w K mg)(gZ:cM P w K mg base "is_name" qav 1 (cy K 1 iK)):cM P w K mg base "is_field" qav 2 (cy K 1 TN):=by
 obtain⟨ng,km,eV,eW,eX,eY⟩:=gZ;refine D.lg (mi D.F n6 rfl λbS A outer s H E Ox hr ts q hG=>?_);have nd:=n6.nd;refine⟨_,(ai (ay (qau (uN (fq k_ (by rfl) M.isinstance (by rfl) M.str Bj (ae 0)) (uN (mY (ae 0) (qas ah)) (pM (bu eY (hr.mono (by decide)) (by rfl) eV eW eX (aa (qat (cS (ae 0) (dt (qas ag)) fj)) aj)))))))),λ_=>?_⟩;obtain⟨t,rfl,ht,hq⟩:=hG;obtain (⟨x,rfl,hx⟩|⟨i,rfl⟩)|⟨l,rfl,_⟩:=ht
 refine⟨rfl,?_⟩;have gI:q (.vw (.bl (Txt.startswith x "." && aW (Txt.slice x (some 1) none)))):=hq;refine Bo (c:=Txt.startswith x ".") (λh=>?_) (λh=>?_);rw[h,yI] at gI;refine⟨c_ (by omega),rfl,_,rfl,rfl,λy e=>?_,gI⟩;cases e;exact mw (LM x _ _) (by omega);rw[h,DZ] at gI;exact gI;exact⟨rfl,hq⟩;exact⟨rfl,hq⟩
abbrev F8:qai:=qav
theorem tR:aJ F8 qav (ak qh):=L2.ij
theorem CS(D:Df K mg "is_key" qh qav f fd)(M:Pp w K mg)(zH:cM P w K mg base "is_field" qav 2 (cy K 1 TN))(dX:cM P w K mg base "is_operand" qav 2 (cy K 1 F3)):cM P w K mg base "is_key" qav 3 (cy K 1 F7):=by obtain⟨Pu,Mo,zI,zJ,zK,zL⟩:=zH;obtain⟨lF,jW,dY,dZ,d0,d7⟩:=dX;refine D.lg (mi D.F tR rfl λbS A outer s H E Ox hr ts q hG=>?_);have nd:=tR.nd;refine⟨_,(ai (ay (qau (EY (bu zL (hr.mono (by decide)) (by rfl) zI zJ zK (aa (ao 0) aj)) (pM (bu d7 (hr.mono (by decide)) (by rfl) dY dZ d0 (aa (ao 0) aj))))))),λ_=>?_⟩;obtain⟨t,rfl,ht,hq⟩:=hG;have gI:q (.vw (.bl (F6 t || dS t))):=hq;refine⟨rfl,t,rfl,ht,Bo (c:=F6 t) (λh=>?_) (λh=>⟨rfl,t,rfl,ht.flat,ht.short,?_⟩)⟩;rw[h,Bool.true_or] at gI;exact gI;rw[h,RJ] at gI;exact gI
abbrev jd:qai:=qav
theorem iM:aJ jd qav (ak dU):=L2.ij
theorem oF(D:Df K mg "is_reckoning" dU qav f fd)(M:Pp w K mg):cM P w K mg base "is_reckoning" qav 1 (cy K 1 Pq):=by
 refine D.lg (mi D.F iM rfl λbS A outer s H E Ox hr ts q hG=>?_);have nd:=iM.nd;have hu:=bM.iw hr;obtain⟨aR,mR,hR⟩:=M.zE;have vg:∀{pos},VP (fE kU P w K mg base jd "is_reckoning" (ak dU) f bS A outer s H E).wo ⟨H,[],Ox⟩ (.Name "RECKONINGS" pos) (fC (.tup Kd)):=fg (by rfl) mR (v:=.ref aR) rfl λH A=>bK (hR H) (aB.cons bJ (aB.cons bJ (aB.cons bJ (aB.cons bJ (aB.cons bJ (aB.cons bJ (aB.cons bJ aB.nil)))))));refine⟨_,(ai (ay (qau (Po hu (ae 0) (qas vg))))),λ_=>?_⟩;obtain⟨t,rfl,ht,hq⟩:=hG;obtain (⟨x,rfl,hx⟩|⟨i,rfl⟩)|⟨l,rfl,_⟩:=ht
 exact⟨rfl,rfl,hq⟩;exact⟨rfl,rfl,hq⟩;exact⟨["plus","minus","times","over","rest","less","same"],rfl,hq⟩
abbrev gb:qai:=qav
theorem iN:aJ gb qav (ak dW):=L2.ij
theorem kn:(gb++(["part"]:qai)).Nodup:=by decide +kernel
theorem oG(D:Df K mg "are_operands" dW qav f fd)(M:Pp w K mg)(dX:cM P w K mg base "is_operand" qav 2 (cy K 1 F3)):cM P w K mg base "are_operands" qav 3 (cy K 1 Kg):=by
 obtain⟨lF,jW,dY,dZ,d0,d7⟩:=dX;refine D.lg (mi D.F iN rfl λbS A outer s H E Ox hr ts q hG=>?_);have nd:=iN.nd;have np:∀{i:Nat},ba ⟨H,[],Ox⟩ i:=mW;obtain⟨tP,mP⟩:=M.zD;have vh:∀{pos},VP (fE kU P w K mg base gb "are_operands" (ak dW) f bS A outer s H E).wo ⟨H,[],Ox⟩ (.Name "MOST_PARTS" pos) (fC (.int 4)):=fg (by rfl) mP (v:=.int 4) ⟨_,rfl⟩ λ_ _=>bC;refine⟨_,(af (aS (VW.vc (gw (dA (cp (fq kh (by rfl) M.isinstance (by rfl) M.tuple gz (ae 0)))) (ir (wO (qas (az aD aE (by rfl) M.len iU (aq (ae 0) au))) (qas vh)))))
    (ai (ay (qau fL)))
    ax)
   (ai (ay (qau (az (cQ rfl) gU (by rfl) M.all xg (aq (qas (jB (ts:=["part"]) rfl (by rfl) (fF (ao 0)) (λ_ _ _ _ _ _=>(aX (i:=1) kn rfl (Or.inl rfl) np)) (λ_ _ _ _ _ _=>fm) (λ_ _ _ _ _ _=>(qat (bu d7 (hr.mono (by decide)) (by rfl) dY dZ d0 (aa (ao 1) aj)))))) au)))))),λ_=>?_⟩
 obtain⟨t,rfl,ht,hq⟩:=hG;obtain (⟨x,rfl,hx⟩|⟨i,rfl⟩)|⟨l,rfl,hl,hL⟩:=ht
 exact⟨rfl,hq⟩;exact⟨rfl,hq⟩;have gI:q (.vw (.bl (decide (l.length<=4) && l.all dS))):=hq;refine⟨rfl,?_⟩;refine cA (λh=>?_) (λh=>?_);have h':(4:Int)<(l.length:Int):=h;rw[decide_eq_false (by omega),DZ] at gI;exact gI;have h':¬ (4:Int)<(l.length:Int):=h;rw[decide_eq_true (by omega),yI] at gI;refine⟨rfl,c_ (by omega),gR (λ_=>true) (λt=>T.bl (dS t)) (λt ht k r h=>⟨rfl,t,rfl,(hL t ht).flat,(hL t ht).short,h⟩) ?_⟩;rw[UP.mpr (λ_ _=>rfl)];refine⟨l.map dS,qk dS l,?_⟩;rw[Q0];exact gI
abbrev g6:qai:=qav
theorem gB:aJ g6 qav (ak eZ):=L2.ij
theorem je:(g6++(["part"]:qai)).Nodup:=by decide +kernel
theorem lH(D:Df K mg "are_parameters" eZ qav f fd)(M:Pp w K mg)(gc:cM P w K mg base "are_operands" qav 3 (cy K 1 Kg))(gZ:cM P w K mg base "is_name" qav 1 (cy K 1 iK)):cM P w K mg base "are_parameters" qav 4 (cy K 1 Pr):=by
 obtain⟨qm,oH,gd,gf,gg,gh⟩:=gc;obtain⟨ng,km,eV,eW,eX,eY⟩:=gZ;refine D.lg (mi D.F gB rfl λbS A outer s H E Ox hr ts q hG=>?_);have nd:=gB.nd;have hu:=bM.iw hr;have np:∀{i:Nat},ba ⟨H,[],Ox⟩ i:=mW;refine⟨_,(af (aS (VW.vc (gw (dA (cp (bu gh (hr.mono (by decide)) (by rfl) gd gf gg (aa (ao 0) aj)))) (ir (dA (cp (az (cQ rfl) gU (by rfl) M.all xg (aq (qas (jB (ts:=["part"]) rfl (by rfl) (fF (ao 0)) (λ_ _ _ _ _ _=>(aX (i:=1) je rfl (Or.inl rfl) np)) (λ_ _ _ _ _ _=>fm) (λ_ _ _ _ _ _=>(qat (bu eY (hr.mono (by decide)) (by rfl) eV eW eX (aa (ao 1) aj)))))) au)))))))
    (ai (ay (qau fL)))
    ax)
   (ai (ay (qau (sZ hu (qas (CJ rfl (by rfl) M.len (by rfl) M.set (ae 0))) (qas (az aD aE (by rfl) M.len iU (aq (ae 0) au)))))))),λ_=>?_⟩
 obtain⟨t,rfl,ht,hq⟩:=hG;refine⟨rfl,t,rfl,ht,?_⟩;obtain (⟨x,rfl,hx⟩|⟨i,rfl⟩)|⟨l,rfl,hl,hL⟩:=ht
 exact hq;exact hq;have gI:q (.vw (.bl ((decide (l.length<=4) && l.all dS) && (l.all bT && decide ((once (strsOf l)).length=l.length))))):=hq;refine ow (λh=>?_) (λh=>?_);have h':(!(decide (l.length<=4) && l.all dS))=true:=h;have h2:(decide (l.length<=4) && l.all dS)=false:=nt h';rw[h2,DZ] at gI;exact gI;have h':¬ (!(decide (l.length<=4) && l.all dS))=true:=h;have h2:(decide (l.length<=4) && l.all dS)=true:=nf h';rw[h2,yI] at gI;refine⟨rfl,c_ (by omega),gR (λ_=>true) (λt=>T.bl (bT t)) (λt ht k r h=>⟨rfl,t,rfl,(hL t ht).flat,(hL t ht).short,h⟩) ?_⟩;rw[UP.mpr (λ_ _=>rfl)];refine⟨l.map bT,qk bT l,?_⟩;rw[Q0];refine ow (λh3=>?_) (λh3=>?_);have Pw:(!(l.all bT))=true:=h3;have h4:l.all bT=false:=nt Pw;rw[h4,DZ] at gI;exact gI;have Pw:¬ (!(l.all bT))=true:=h3;have h4:l.all bT=true:=nf Pw;rw[h4,yI] at gI;refine⟨strsOf l,.inr (by rw[<- ql h4]),?_,?_⟩;have:=congrArg List.length (ql h4);rw[bQ] at this;omega;have e:decide (((once (strsOf l)).length:Int)=(l.length:Int))=decide ((once (strsOf l)).length=l.length):=decide_eq_decide.mpr (by omega);show q (.vw (.bl (decide (((once (strsOf l)).length:Int)=(l.length:Int)))));rw[e];exact gI
end
noncomputable abbrev qo:Stmt:=top 26
inductive So where
 |nm|op|key|rk|par|ops
noncomputable def fnName:So->Str
 |.nm=>"is_name"
 |.op=>"is_operand"
 |.key=>"is_key"
 |.rk=>"is_reckoning"
 |.par=>"are_parameters"
 |.ops=>"are_operands"
noncomputable def gJ:So->T->Bool
 |.nm=>bT
 |.op=>dS
 |.key=>sg
 |.rk=>CQ
 |.par=>Ke
 |.ops=>zF
def Ye:So->qaj->(qam)->Prop
 |.nm=>iK
 |.op=>F3
 |.key=>F7
 |.rk=>Pq
 |.par=>Pr
 |.ops=>Kg
theorem F9{s:So}{t:T}(h:Part t)(hq:q (.vw (.bl (gJ s t)))):Ye s [t] q:=by
 cases s with
 |nm=>exact⟨t,rfl,h.flat,h.short,hq⟩
 |op=>exact⟨t,rfl,h.flat,h.short,hq⟩
 |_=>exact⟨t,rfl,h,hq⟩
noncomputable def iO:List (Str×List So):=[("def",[.nm,.par]),("give",[.op]),("put",[.nm,.op]),("do",[.nm,.op,.rk,.op]),("new",[.nm]),("get",[.nm,.nm,.key]),("set",[.nm,.key,.op]),("call",[.nm,.nm,.ops]),("fail",[.nm]),("if",[.op]),("else",[]),("while",[.op]),("end",[]),("skip",[])]
noncomputable def gC:List (Str×List So)->Str->Option (List So)
 |[],_=>none
 | (k,ss)::l,x=>if k=x then some ss else gC l x
noncomputable def d8(x:Str)(ps:qaj):Bool:=match gC iO x with
 |none=>false
 |some ss=>decide (ps.length=ss.length) && (List.zipWith gJ ss ps).all id
theorem tS(fo:So->Addr)(x:Str):∀l:List (Str×List So),CL (l.map λp=>(p.1,T.tup (p.2.map λs=>T.ob (fo s)))) x=(gC l x).map λss=>T.tup (ss.map λs=>T.ob (fo s))
 |[]=>rfl
 | (k,ss)::l=>by have ih:=tS fo x l;unfold CL at ih ⊢;simp only[dP,gu,gC];by_cases h:k=x;rw[if_pos h,if_pos (by rw[h])];rfl;rw[if_neg h,if_neg (λz=>h (Sum.inr.inj z))];exact ih
theorem CT:∀x ss,gC iO x=some ss->ss.length<=4:=by
 intro x ss;have:∀l:List (Str×List So),(∀p∈l,p.2.length<=4)->gC l x=some ss->ss.length<=4:=by
  intro l;induction l with
  |nil=>intro _ h;cases h
  |cons p l ih=>intro hl h;obtain⟨k,s0⟩:=p;simp only[gC] at h;split at h;cases h;exact hl _ eE;exact ih (λp hp=>hl p (fY _ hp)) h
 exact this iO (by simp[iO])
theorem tT{α:Type}{h:FG}{fe:FE}{ρ:En}{fA:α->T}{b:α->T->Bool}:∀{ss:List α}{ps:qaj}{Q:qaj->Prop},(∀s∈ss,∀p∈ps,∀r:T->Prop,r (.bl (b s p))->h (.tup [fA s,p]) ρ λρ2=>fe ρ2 r)->Q ((List.zipWith b ss ps).map .bl)->di h Ff fe ρ (qe (ss.map fA) ps) Q
 |[],ps,Q,_,hq=>by simpa[qe,di] using hq
 |s::ss,[],Q,_,hq=>by simpa[qe,di] using hq
 |s::ss,p::ps,Q,step,hq=>by show di h Ff fe ρ (T.tup [fA s,p]::qe (ss.map fA) ps) Q;simp only[di];refine step s eE p eE _ ?_;exact tT (λs hs p hp=>step s (fY _ hs) p (fY _ hp)) hq
theorem xG:∀l:List Bool,cz (l.map T.bl)=some l
 |[]=>rfl
 |b::l=>by rw[dP];show (cz _).map _=_;rw[xG l];rfl
structure ZQ(w:World)(K:qaf)(mg:qae):Prop extends Pp w K mg where
 TQ:∃(a:Addr)(fo:So->Addr),mg "FORMS"=some (.ref a)/\(∀s,mg (fnName s)=some (.ref (fo s)))/\xu w K a (iO.map λp=>(p.1,T.tup (p.2.map λs=>T.ob (fo s))))
def Px(ts:qaj)(q:qam):Prop:=∃(x:Str)(ps:qaj),ts=[.tup (.str x::ps)]/\ps.length<=10/\(∀p∈ps,Part p)/\q (.vw (.bl (d8 x ps)))
theorem Yf(t:T)(ps:qaj):gQ (t::ps) (some 1) none=ps:=by
 unfold gQ;have e:HT.dD (t::ps).length 0 (some 1)=1:=by have:=HT.jy (t::ps).length 0 1;rw[show ((1:Nat):Int)=1 from rfl] at this;rw[this];simp
 rw[e,HT.pC];simp
section
noncomputable abbrev xH:qai:=["row","form"]
theorem tV:aJ xH ["row"] (ak qo):=L2.ij
theorem lJ:(xH++(["fits","part"]:qai)).Nodup:=by decide +kernel
theorem CU(D:Df K mg "is_row" qo ["row"] f fd)(M:ZQ w K mg)(gZ:cM P w K mg base "is_name" qav 1 (cy K 1 iK))(dX:cM P w K mg base "is_operand" qav 2 (cy K 1 F3))(F_:cM P w K mg base "is_key" qav 3 (cy K 1 F7))(qp:cM P w K mg base "is_reckoning" qav 1 (cy K 1 Pq))(ni:cM P w K mg base "are_parameters" qav 4 (cy K 1 Pr))(gc:cM P w K mg base "are_operands" qav 3 (cy K 1 Kg)):cM P w K mg base "is_row" ["row"] 5 (cy K 1 Px):=by
 obtain⟨ng,km,eV,eW,eX,eY⟩:=gZ;obtain⟨lF,jW,dY,dZ,d0,d7⟩:=dX;obtain⟨TR,Rf,F',Ga,Gb,Gd⟩:=F_;obtain⟨Ge,D6,qq,qr,qt,qu⟩:=qp;obtain⟨CV,Bp,nq,ny,nz,nA⟩:=ni;obtain⟨qm,oH,gd,gf,gg,gh⟩:=gc;refine D.lg (mi D.F tV rfl λbS A outer s H E Ox hr ts q hG=>?_);have nd:=tV.nd;have hu:=bM.iw hr;have np:∀{i:Nat},ba ⟨H,[],Ox⟩ i:=mW;obtain⟨aF,fo,Kh,N',Gf⟩:=M.TQ;have Py:∀f' G,(∃s:So,f'=fo s/\G=Ye s)->PySem.W.keepIn K (.ref f')=true/\∃fd ps,Binds K fd ps []/\eM P w K mg base kU 4 f' fd ps (cy K 1 G):=by
  rintro f' G ⟨s,rfl,rfl⟩;have h:=N' s;cases s with
  |nm=>cases eV.symm.trans h;exact⟨eW,_,_,eX,eY.mono (by decide)⟩
  |op=>cases dY.symm.trans h;exact⟨dZ,_,_,d0,d7.mono (by decide)⟩
  |key=>cases F'.symm.trans h;exact⟨Ga,_,_,Gb,Gd.mono (by decide)⟩
  |rk=>cases qq.symm.trans h;exact⟨qr,_,_,qt,qu.mono (by decide)⟩
  |par=>cases nq.symm.trans h;exact⟨ny,_,_,nz,nA.mono (by decide)⟩
  |ops=>cases gd.symm.trans h;exact⟨gf,_,_,gg,gh.mono (by decide)⟩
 refine⟨_,(af (aS (VW.vc (gw (dA (cp (fq kh (by rfl) M.isinstance (by rfl) M.tuple gz (ae 0)))) (gw (bF hu (qas (az aD aE (by rfl) M.len iU (aq (ae 0) au))) (qas ag)) (ir (dA (cp (fq k_ (by rfl) M.isinstance (by rfl) M.str Bj (qas (bo (ae 0) (qas ag))))))))))
    (ai (ay (qau fL)))
    ax)
   (af (aM (i:=1) nd rfl (Or.inl rfl) (qau (xv (by rfl) Kh Gf (qas (bo (ae 0) (qas ag))) ⟨rfl,rfl,rfl,rfl⟩)) np)
   (af (aS (VW.vc (gw (tD (ae 1) (qas i5)) (ir (jT hu (qas (az aD aE (by rfl) M.len iU (aq (ae 0) au))) (qas (ar (qas (az aD aE (by rfl) M.len iU (aq (ae 1) au))) (qas ag)))))))
     (ai (ay (qau fL)))
     ax)
   (ai (ay (qau (az (cQ rfl) gU (by rfl) M.all xg (aq (qas (jB (ts:=["fits","part"]) rfl (by rfl) (O3 (by rfl) M.zip (ao 1) (qat (cS (ae 0) (dt (qas ag)) fj))) (λ_ _ _ _ _ _=>(ke (n:=2) rfl (cj (aX (i:=2) lJ rfl (Or.inl rfl) np) (cj (aX (i:=3) lJ rfl (Or.inl rfl) np) iu)))) (λ_ _ _ _ _ _=>fm) (λ_ _ _ _ _ _=>(qat (F5 2 Py (hr.mono (by decide)) (aa (ao 3) aj)))))) au)))))))),λ_=>?_⟩
 obtain⟨x,ps,rfl,hl,hP,hq⟩:=hG;have TU:=tS fo x iO;refine⟨rfl,_,aG (j:=0) rfl,rfl,_,aG (j:=0) rfl,?_⟩;show onStr (T.str x) _;unfold onStr;dsimp only;rw[TU];cases hf:gC iO x with
 |none=>
   have hg:d8 x ps=false:=by unfold d8;rw[hf]
   rw[hg] at hq;exact hq
 |some ss=>
   have hg:d8 x ps=(decide (ps.length=ss.length) && (List.zipWith gJ ss ps).all id):=by unfold d8;rw[hf]
   rw[hg] at hq;have hss:=CT x ss hf;have el:(((T.str x::ps).length:Nat):Int)=(ps.length:Int)+1:=by rw[rF];omega
   have ZR:(((ss.map λs=>T.ob (fo s)).length:Nat):Int)=(ss.length:Int):=by rw[bQ]
   refine ow (λh=>?_) (λh=>?_);have h':(!decide (((T.str x::ps).length:Int)=((ss.map λs=>T.ob (fo s)).length:Int)+1))=true:=h;have h2:=of_decide_eq_false (nt h');rw[el,ZR] at h2;rw[decide_eq_false (by omega),DZ] at hq;exact hq;have h':¬ (!decide (((T.str x::ps).length:Int)=((ss.map λs=>T.ob (fo s)).length:Int)+1))=true:=h;have h2:=of_decide_eq_true (nf h');rw[el,ZR] at h2;rw[decide_eq_true (by omega),yI] at hq;have Yg:¬ (HT.dD (T.str x::ps).length 0 (some 1)=0/\HT.dD (T.str x::ps).length (T.str x::ps).length none=(T.str x::ps).length):=by rintro⟨z,_⟩;have:=HT.jy (T.str x::ps).length 0 1;rw[show ((1:Nat):Int)=1 from rfl,z] at this;simp at this
   refine⟨rfl,Yg,?_⟩;rw[Yf];refine⟨?_,tT (b:=gJ) (λs _ p hp r hr=>?_) ⟨_,xG _,hq⟩⟩;show (qe (ss.map λs=>T.ob (fo s)) ps).length<=sizeLine;unfold qe;rw[List.length_zipWith];exact c_ (by omega);exact⟨rfl,rfl,Ye s,⟨s,rfl,rfl⟩,rfl,F9 (q:=λx=>r x.t) (hP p hp) hr⟩
end
end dj
namespace Gen
open PySem L2 VT
open rR (bt Ct aW)
theorem Bq(n:Int):Ct (gW n)=true:=by
 have h0:0<=n % 26:=kD n (by decide);have h1:n % 26<26:=mq n (by decide);have h:∀j<26,Ct (bt.cps.toList.getD j 0)=true:=by decide +kernel
 exact h _ (by omega)
theorem Gg{a b:Int}(h:gW a=gW b):a % 26=b % 26:=by
 have a0:0<=a % 26:=kD a (by decide);have a1:a % 26<26:=mq a (by decide);have b0:0<=b % 26:=kD b (by decide);have b1:b % 26<26:=mq b (by decide);have k:∀i<26,∀j<26,bt.cps.toList.getD i 0=bt.cps.toList.getD j 0->i=j:=by decide +kernel
 have:=k (a % 26).toNat (by omega) (b % 26).toNat (by omega) h;omega
theorem CW{c:Int}{k k':Nat}(hn:CM c<n)(hk:k<26)(CH:k'<26)(h:cc c k n=cc c k' n):k=k':=by
 have h2:((List.range n).map λj=>gW (va c k j))=((List.range n).map λj=>gW (va c k' j)):=by have:=congrArg (λy:Str=>y.cps.toList) h;exact this
 have h3:=congrArg (λl:qao=>l[CM c]?) h2;simp only[mf,List.getElem?_range hn,Option.map_some,Option.some.injEq] at h3;have h4:=Gg h3;unfold va at h4;rw[if_pos rfl,if_pos rfl] at h4;omega
theorem qv{c:Int}{k:Nat}(h1:1<=n)(h8:n<=8):aW (cc c k n)=true:=by unfold aW;rw[dG,decide_eq_true (by omega),decide_eq_true (by omega),yI,yI];show ((List.range n).map λj=>gW (va c k j)).all Ct=true;rw[Q0];exact gE.mpr λj _=>Bq _
theorem Gh{n:Int}(h:aW x=true)(hl:x.length<=7):aW (x++⟨#[gW n]⟩)=true:=by
 have hx:=rR.fO h;have el:(x++(⟨#[gW n]⟩:Str)).length=x.length+1:=by show (x.cps++#[gW n]).size=_;simp[Str.length]
 unfold aW;rw[el,decide_eq_true (by omega),decide_eq_true (by omega),yI,yI];show (x.cps++#[gW n]).toList.all Ct=true;simp only[QQ,List.all_append,hx,yI];simp[Bq]
theorem Br(x:Str)(n:Int):(x++(⟨#[gW n]⟩:Str)).length=x.length+1:=by show (x.cps++#[gW n]).size=_;simp[Str.length]
theorem tW{c:Int}(h:y∈bU c m):(∃k<m,y=cc c k (ja c))\/y=cc c 0 (ja c)++⟨#[gW (sd c / 147)]⟩:=by
 have hz:∀{y},y∈((List.range m).map λk=>cc c k (ja c))->∃k<m,y=cc c k (ja c):=λh=>by obtain⟨k,hk,rfl⟩:=iS.mp h;exact⟨k,HX.mp hk,rfl⟩
 unfold bU at h;split at h;rcases Rn h with h|h
 exact .inl (hz h);exact .inr h;exact .inl (hz h)
theorem zM{c:Int}:∀y∈bU c m,aW y=true:=by
 intro y hy;have hs:=qg c;rcases tW hy with⟨k,_,rfl⟩|rfl
 exact qv (by omega) (by omega);exact Gh (qv (by omega) (by omega)) (by rw[dG];omega)
theorem xI{c:Int}(hm:m<=26):(bU c m).Nodup:=by
 have hs:=qg c;have ha:=Tz c;have base:((List.range m).map λk=>cc c k (ja c)).Nodup:=by rw[List.Nodup,List.pairwise_map];refine List.Pairwise.imp_of_mem ?_ (List.nodup_range (n:=m));intro a b ha' Vt jz e;exact jz (CW ha (by have:=HX.mp ha';omega) (by have:=HX.mp Vt;omega) e)
 unfold bU;split;generalize hl:((List.range m).map λk=>cc c k (ja c))=l at base;have hv:cc c 0 (ja c)++(⟨#[gW (sd c / 147)]⟩:Str)∉l:=by intro z;rw[<- hl] at z;obtain⟨k,_,e⟩:=iS.mp z;have:=congrArg Str.length e;rw[Br,dG,dG] at this;omega
 rw[List.Nodup,V4];rw[List.Nodup,V4] at base;intro i j hi hj Oe;rw[Eb] at hi hj;have b:=base i j hi hj Oe;rw[List.getElem_set,List.getElem_set];split;split;omega;intro z;exact hv (by rw[z];exact yO _);split;intro z;exact hv (by rw[<- z];exact yO _);exact b;exact base
def sh(ys:qai):Rw->Prop
 |.df f ps=>f∈ys/\ps.length<=2/\ps.Nodup/\∀p∈ps,p∈ys
 |.give a=>cT ys a
 |.put x a=>x∈ys/\cT ys a
 |.Bn x a op b=>x∈ys/\cT ys a/\op∈reckon/\cT ys b
 |.new x=>x∈ys
 |.get x r k=>x∈ys/\r∈ys/\zB ys k
 |.set r k a=>r∈ys/\zB ys k/\cT ys a
 |.call x f as=>x∈ys/\f∈ys/\as.length<=2/\∀a∈as,cT ys a
 |.fail w=>w∈ys
 |.Ij a=>cT ys a
 |.yL a=>cT ys a
 |_=>True
theorem zN{l:qai}(nd:l.Nodup)(hi:i<l.length)(hj:j<l.length)(e:l[i]=l[j]):i=j:=by
 rw[List.Nodup,V4] at nd;rcases Nat.lt_trichotomy i j with h|h|h
 exact absurd e (nd i j hi hj h);exact h;exact absurd e.symm (nd j i hj hi h)
theorem CY(hl:ys.length=6)(nd:ys.Nodup){a:Int}{r:Nat}(hr:r<=2):((List.range r).map λj=>ys.getD ((a+((j:Nat):Int)) % 4).toNat Str.empty).Nodup/\∀p∈((List.range r).map λj=>ys.getD ((a+((j:Nat):Int)) % 4).toNat Str.empty),p∈ys:=by
 have hm:∀j:Nat,((a+(j:Int)) % 4).toNat<ys.length:=λj=>by have h0:0<=(a+(j:Int)) % 4:=kD _ (by decide);have h1:(a+(j:Int)) % 4<4:=mq _ (by decide);omega
 have hg:∀j:Nat,ys.getD ((a+(j:Int)) % 4).toNat Str.empty=ys[((a+(j:Int)) % 4).toNat]'(hm j):=λj=>by rw[List.getD,kB (hm j)];rfl
 refine⟨?_,?_⟩;rw[List.Nodup,List.pairwise_map];refine List.Pairwise.imp_of_mem ?_ (List.nodup_range (n:=r));intro i j hi hj jz e;rw[hg,hg] at e;have:=zN nd _ _ e;have D3:=HX.mp hi;have S8:=HX.mp hj;have a0:0<=(a+(i:Int)) % 4:=kD _ (by decide);have b0:0<=(a+(j:Int)) % 4:=kD _ (by decide);omega;intro p hp;obtain⟨j,_,rfl⟩:=iS.mp hp;rw[hg];exact yO _
theorem CZ(hp:∀f ps,(f,ps)∈pl->f∈ys/\ps.length<=2)(h:gY ys pl r):sh ys r:=by
 cases r<;>first
  |exact h
  |exact h.elim
  | (obtain⟨h1,⟨ps,h2,h3⟩,h4⟩:=h
     exact⟨h1,(hp _ _ h2).1,by rw[h3];exact (hp _ _ h2).2,h4⟩)
theorem Pz(hp:∀f ps,(f,ps)∈pl->f∈ys/\ps.length<=2){bI new dB}(h:mZ ys pl bI new dB):∀r∈new,sh ys r:=by
 obtain⟨o,ho,rfl,_⟩|⟨o,ho,rfl,_⟩|⟨y,hy,rfl,_⟩|⟨s0,_,rfl,_⟩|⟨s0,x,_,rfl,_⟩|⟨r,hr,rfl,_⟩:=h<;>intro r' ko
 simp only[bL,cq,or_false] at ko;subst ko;exact ho;simp only[bL,cq,or_false] at ko;subst ko;exact ho;simp only[bL,cq,or_false] at ko;obtain rfl|rfl:=ko
 exact hy;exact⟨hy,hy,by simp[reckon],by decide,by decide⟩;simp only[bL,cq,or_false] at ko;subst ko;trivial;simp only[bL,cq,or_false] at ko;subst ko;trivial;simp only[bL,cq,or_false] at ko;subst ko;exact CZ hp hr
theorem Ki(hp:∀f ps,(f,ps)∈pl->f∈ys/\ps.length<=2){bI body}(h:Body ys pl bI body):∀r∈body,sh ys r:=by
 induction h with
 |nil=>intro r hr;cases hr
 |step _ h2 ih=>
  intro r hr;rcases gF.mp hr with hr|hr
  exact ih r hr;exact Pz hp h2 r hr
theorem xJ(hl:ys.length=6)(hP:m9 ys pl):∀f ps,(f,ps)∈pl->f∈ys/\ps.length<=2:=by intro f ps h;obtain⟨k,hk⟩:=List.getElem?_of_mem h;obtain⟨h1,a,r,hr,rfl⟩:=hP k f ps hk;exact⟨mn h1,by rw[bQ,HU];exact hr⟩
theorem PB(hl:ys.length=6)(nd:ys.Nodup)(hP:m9 ys pl)(h:Pre ys pl n rs):∀r∈rs,sh ys r:=by
 have hp:=xJ hl hP;induction h with
 |zero=>intro r hr;cases hr
 |@succ k rs f ps bI body o sk _ hk hb ho hs ih=>
  intro r hr;rcases gF.mp hr with hr|hr
  exact ih r hr;rcases List.mem_cons.mp hr with rfl|hr
  obtain⟨h1,a,n,hn,rfl⟩:=hP k f ps hk;have:=CY hl nd (a:=a) hn;exact⟨mn h1,by rw[bQ,HU];exact hn,this.1,this.2⟩;rcases gF.mp hr with hr|hr
  exact Ki (λf ps h=>hp f ps (RA h)) hb r hr;rcases gF.mp hr with hr|hr
  rw[(List.mem_replicate.mp hr).2];trivial;rcases bL.mp hr with rfl|hr
  exact ho;obtain rfl|rfl:=hs
  cases hr;simp only[bL,cq,or_false] at hr;subst hr;trivial
end Gen
deriving instance DecidableEq for dj.So
namespace dj
open PySem L2 VT Gen rR
theorem xK{ys:qai}(nd:ys.Nodup):∀n,n<=ys.length->met (λi=>ys.getD i Str.empty) n=ys.take n
 |0,_=>rfl
 |n+1,h=>by
  have hl:n<ys.length:=by omega
  have ih:=xK nd n (by omega);have e:ys.getD n Str.empty=ys[n]:=by rw[List.getD,kB hl];rfl
  have hn:ys[n]∉ys.take n:=by intro z;obtain⟨i,hi,he⟩:=Rz.mp z;rw[List.getElem_take] at he;rw[Ea] at hi;have:=zN nd (by omega) hl he;omega
  simp only[met,Q_,ih,e];rw[if_neg (by simpa using hn),List.take_succ_eq_append_getElem hl]
theorem zO(nd:ys.Nodup):once ys=ys:=by unfold once;rw[xK nd _ (eB _),List.take_length]
theorem jf(h:aW x=true):x.length<=8:=by unfold aW at h;simp only[eJ,decide_eq_true_eq] at h;omega
section
theorem dm(hn:∀y∈ys,aW y=true){o:oE}(h:cT ys o):dS (tO o)=true/\lC (tO o):=by
 cases o with
 |nm x=>have:=hn x h;exact⟨by show (aW x || false)=true;rw[this];rfl,.inl ⟨x,rfl,by have:=jf this;omega⟩⟩
 |nu i=>obtain⟨h1,h2⟩:=h;exact⟨by show (false || (decide (-1000000000000000000000000000000<=i) && decide (i<1000000000000000000000000000000)))=true;rw[decide_eq_true h1,decide_eq_true h2];rfl,.inr ⟨i,rfl⟩⟩
theorem du(hn:∀y∈ys,aW y=true)(h:x∈ys):bT (.str x)=true/\lC (.str x):=⟨hn x h,.inl ⟨x,rfl,by have:=jf (hn x h);omega⟩⟩
theorem xM(hn:∀y∈ys,aW y=true){k:Ky}(h:zB ys k):sg (Rc k)=true/\lC (Rc k):=by
 cases k with
 |fld x=>have hx:=hn x h;exact⟨by show (mI _ || _)=true;rw[Cv hx];rfl,.inl ⟨_,rfl,by rw[A_];have:=jf hx;omega⟩⟩
 |op o=>have:=dm hn (o:=o) h;exact⟨by show (_ || dS (tO o))=true;rw[this.1,Bool.or_true],this.2⟩
theorem Gi{op:Str}(h:op∈reckon):CQ (.str op)=true/\lC (.str op):=by simp only[reckon,bL,cq,or_false] at h;obtain rfl|rfl|rfl|rfl|rfl|rfl|rfl:=h<;>exact⟨by decide +kernel,.inl ⟨_,rfl,by decide +kernel⟩⟩
theorem qw:∀ps:qai,strsOf (ps.map .str)=ps
 |[]=>rfl
 |p::ps=>by show p::strsOf (ps.map .str)=_;rw[qw ps]
theorem Gj(hn:∀y∈ys,aW y=true)(h2:ps.length<=4)(nd:ps.Nodup)(hp:∀p∈ps,p∈ys):Ke (.tup (ps.map .str))=true/\Part (.tup (ps.map .str)):=by
 have e1:(ps.map T.str).all bT=true:=gE.mpr λt ht=>by obtain⟨x,hx,rfl⟩:=iS.mp ht;exact (du hn (hp x hx)).1
 have e2:(ps.map T.str).all dS=true:=gE.mpr λt ht=>by have:=gE.mp e1 t ht;show (bT t || _)=true;rw[this,Bool.true_or]
 refine⟨?_,.inr ⟨_,rfl,by rw[bQ];omega,λu hu=>?_⟩⟩;show ((decide _ && _) && (_ && decide _))=true;rw[e1,e2,qw,zO nd,bQ,decide_eq_true (by omega),decide_eq_true rfl];rfl;obtain⟨x,hx,rfl⟩:=iS.mp hu;exact (du hn (hp x hx)).2
theorem Gk(hn:∀y∈ys,aW y=true){as:List oE}(h2:as.length<=4)(ha:∀a∈as,cT ys a):zF (.tup (as.map tO))=true/\Part (.tup (as.map tO)):=by refine⟨?_,.inr ⟨_,rfl,by rw[bQ];omega,λu hu=>?_⟩⟩;show (decide _ && _)=true;rw[decide_eq_true (by rw[bQ];omega),yI];refine gE.mpr λt ht=>?_;obtain⟨x,hx,rfl⟩:=iS.mp ht;exact (dm hn (ha x hx)).1;obtain⟨x,hx,rfl⟩:=iS.mp hu;exact (dm hn (ha x hx)).2
def d9(t:T):Prop:=∃(x:Str)(ps:qaj),t=.tup (.str x::ps)/\ps.length<=4/\(∀p∈ps,Part p)/\d8 x ps=true
theorem dw{ss:List So}{ps:qaj}(hf:gC iO x=some ss)(hl:ps.length=ss.length)(h4:ps.length<=4)(hp:∀p∈ps,Part p)(hz:(List.zipWith gJ ss ps).all id=true):d9 (.tup (.str x::ps)):=by refine⟨x,ps,rfl,h4,hp,?_⟩;unfold d8;rw[hf];show (decide _ && _)=true;rw[decide_eq_true hl,hz];rfl
theorem g7(hn:∀y∈ys,aW y=true)(h:sh ys r):d9 (bw r):=by
 cases r with
 |df f ps=>obtain⟨h1,h2,h3,h4⟩:=h;have a:=du hn h1;have b:=Gj hn (by omega) h3 h4;refine dw (ss:=[.nm,.par]) (by decide +kernel) rfl (by simp) ?_ ?_;simp only[D',cq,false_implies,implies_true,and_true];exact⟨.inl a.2,b.2⟩;simp only[D9,D_,wu,Ec,gJ,a.1,b.1];rfl
 |give o=>have a:=dm hn h;refine dw (ss:=[.op]) (by decide +kernel) rfl (by simp) ?_ ?_;simp only[D',cq,false_implies,implies_true,and_true];exact .inl a.2;simp only[D9,D_,wu,Ec,gJ,a.1];rfl
 |Ij o=>have a:=dm hn h;refine dw (ss:=[.op]) (by decide +kernel) rfl (by simp) ?_ ?_;simp only[D',cq,false_implies,implies_true,and_true];exact .inl a.2;simp only[D9,D_,wu,Ec,gJ,a.1];rfl
 |yL o=>have a:=dm hn h;refine dw (ss:=[.op]) (by decide +kernel) rfl (by simp) ?_ ?_;simp only[D',cq,false_implies,implies_true,and_true];exact .inl a.2;simp only[D9,D_,wu,Ec,gJ,a.1];rfl
 |put x o=>have a:=du hn h.1;have b:=dm hn h.2;refine dw (ss:=[.nm,.op]) (by decide +kernel) rfl (by simp) ?_ ?_;simp only[D',cq,false_implies,implies_true,and_true];exact⟨.inl a.2,.inl b.2⟩;simp only[D9,D_,wu,Ec,gJ,a.1,b.1];rfl
 |Bn x o op o2=>have a:=du hn h.1;have b:=dm hn h.2.1;have c:=Gi h.2.2.1;have d:=dm hn h.2.2.2;refine dw (ss:=[.nm,.op,.rk,.op]) (by decide +kernel) rfl (by simp) ?_ ?_;simp only[D',cq,false_implies,implies_true,and_true];exact⟨.inl a.2,.inl b.2,.inl c.2,.inl d.2⟩;simp only[D9,D_,wu,Ec,gJ,a.1,b.1,c.1,d.1];rfl
 |new x=>have a:=du hn h;refine dw (ss:=[.nm]) (by decide +kernel) rfl (by simp) ?_ ?_;simp only[D',cq,false_implies,implies_true,and_true];exact .inl a.2;simp only[D9,D_,wu,Ec,gJ,a.1];rfl
 |fail x=>have a:=du hn h;refine dw (ss:=[.nm]) (by decide +kernel) rfl (by simp) ?_ ?_;simp only[D',cq,false_implies,implies_true,and_true];exact .inl a.2;simp only[D9,D_,wu,Ec,gJ,a.1];rfl
 |get x r k=>have a:=du hn h.1;have b:=du hn h.2.1;have c:=xM hn h.2.2;refine dw (ss:=[.nm,.nm,.key]) (by decide +kernel) rfl (by simp) ?_ ?_;simp only[D',cq,false_implies,implies_true,and_true];exact⟨.inl a.2,.inl b.2,.inl c.2⟩;simp only[D9,D_,wu,Ec,gJ,a.1,b.1,c.1];rfl
 |set r k o=>have a:=du hn h.1;have b:=xM hn h.2.1;have c:=dm hn h.2.2;refine dw (ss:=[.nm,.key,.op]) (by decide +kernel) rfl (by simp) ?_ ?_;simp only[D',cq,false_implies,implies_true,and_true];exact⟨.inl a.2,.inl b.2,.inl c.2⟩;simp only[D9,D_,wu,Ec,gJ,a.1,b.1,c.1];rfl
 |call x f as=>have a:=du hn h.1;have b:=du hn h.2.1;have c:=Gk hn (mw h.2.2.1 (by decide)) h.2.2.2;refine dw (ss:=[.nm,.nm,.ops]) (by decide +kernel) rfl (by simp) ?_ ?_;simp only[D',cq,false_implies,implies_true,and_true];exact⟨.inl a.2,.inl b.2,c.2⟩;simp only[D9,D_,wu,Ec,gJ,a.1,b.1,c.1];rfl
 |_=>exact dw (ss:=[]) (by decide +kernel) rfl (by decide) (by simp) rfl
end
end dj
namespace Gen
open PySem L2 VT
noncomputable def wd:Rw->Str
 |.df _ _=>"def"
 |.give _=>"give"
 |.put _ _=>"put"
 |.Bn _ _ _ _=>"do"
 |.new _=>"new"
 |.get _ _ _=>"get"
 |.set _ _ _=>"set"
 |.call _ _ _=>"call"
 |.fail _=>"fail"
 |.Ij _=>"if"
 |.TC=>"else"
 |.yL _=>"while"
 |.fin=>"end"
 |.skip=>"skip"
noncomputable def dI(st:qai)(x:Str):Bool:=match st.getLast? with
 |none=>w_ (.str x) [.str "def",.str "skip"]
 |some l=>if x="give" then decide (l="def") else if x="else" then decide (l="if") else if x="end" then !decide (l="def") else !decide (x="def")
noncomputable def jg(st:qai)(x:Str):qai :=
 if x="def"\/x="if"\/x="while" then st++[x] else if x="give"\/x="end" then st.dropLast else if x="else" then st.dropLast++[("else":Str)] else st
theorem o6(x:Str):∀l:qai,w_ (.str x) (l.map .str)=decide (x∈l)
 |[]=>by simp[w_]
 |y::l=>by rw[dP];show (eqT (.str y) (.str x) || w_ (.str x) (l.map .str))=_;rw[o6 x l];show (decide (y=x) || decide (x∈l))=_;rw[Nf];simp only[Bool.or_eq_true,decide_eq_true_eq,bL];constructor;rintro (h|h);exact .inl h.symm;exact .inr h;rintro (h|h);exact .inl h.symm;exact .inr h
theorem Kj(r:Rw):∃l,bw r=.tup (.str (wd r)::l):=by cases r<;>exact⟨_,rfl⟩
theorem g8{f:α->T}{xs:List α}{h:FG}{g:FS}{d:Jt}(Pv:Nat->En->Prop)(h0:Pv 0 ρ)(hs:∀(i:Nat) x ρ',xs[i]?=some x->Pv i ρ'->h (.tup [.int (i:Int),f x]) ρ' λρ2=>g {nx:=Pv (i+1),ct:=Pv (i+1),bk:=d.nx,rt:=d.rt} ρ2)(hd:∀ρ',Pv xs.length ρ'->d.nx ρ'):s_ (nZ (xs.map f)) h g d ρ:=⟨Pv,h0,λi t ρ' e p=>by
 unfold nZ at e;rw[List.getElem?_mapIdx,mf] at e;cases q:xs[i]? with
 |none=>rw[q] at e;cases e
 |some x=>rw[q] at e;cases e;exact hs i x ρ' q p,λρ' p=>hd ρ' (by unfold nZ at p;rw[List.length_mapIdx,bQ] at p;exact p)⟩
noncomputable def Kk(o:Option (qai))(r:Rw):Option (qai):=o.bind λst=>if dI st (wd r)=true then some (jg st (wd r)) else none
noncomputable def oI(o:Option (qai))(rs:qal):Option (qai):=rs.foldl Kk o
theorem o7(o:Option (qai))(a b:qal):oI o (a++b)=oI (oI o a) b:=List.foldl_append
theorem Gm(rs:qal):oI none rs=none:=by
 induction rs with
 |nil=>rfl
 |cons r rs ih=>exact ih
theorem tX{st:qai}(h:dI st (wd r)=true):Kk (some st) r=some (jg st (wd r)):=by show (if dI st (wd r)=true then _ else _)=_;rw[if_pos h]
theorem d_{st:qai}(h:dI st (wd r)=true):oI (some st) [r]=some (jg st (wd r)):=tX h
abbrev nB:Str:="def"
def Hd(x:Str):Prop:=x="if"\/x="while"\/x="else"
theorem Hd.ne(h:Hd x):x≠"def":=by obtain rfl|rfl|rfl:=h<;>decide +kernel
theorem tY(h:gY ys pl r):∀st,st≠[]->dI st (wd r)=true/\jg st (wd r)=st:=by
 intro st AW;obtain⟨l,hl⟩:∃l,st.getLast?=some l:=by
  cases e:st.getLast? with
  |none=>rw[List.getLast?_eq_none_iff] at e;exact absurd e AW
  |some l=>exact⟨l,rfl⟩
 have k:∀x:Str,(x="put"\/x="do"\/x="new"\/x="get"\/x="set"\/x="call"\/x="fail"\/x="skip")->dI st x=true/\jg st x=st:=by intro x hx;unfold dI jg;rw[hl];obtain rfl|rfl|rfl|rfl|rfl|rfl|rfl|rfl:=hx<;>exact⟨(by show (if _ then _ else _)=true;rw[if_neg (by decide +kernel),if_neg (by decide +kernel),if_neg (by decide +kernel)];decide +kernel),(by rw[if_neg (by decide +kernel),if_neg (by decide +kernel),if_neg (by decide +kernel)])⟩
 cases r<;>first
  |exact h.elim
  |exact k _ (by simp[wd])
theorem PC(st:qai):jg st "if"=st++[("if":Str)]:=by unfold jg;rw[if_pos (.inr (.inl rfl))]
theorem tZ(st:qai):jg st "while"=st++[("while":Str)]:=by unfold jg;rw[if_pos (.inr (.inr rfl))]
theorem Bs(st:qai):jg st "def"=st++[nB]:=by unfold jg;rw[if_pos (.inl rfl)]
theorem Bt(st:qai):jg st "end"=st.dropLast:=by unfold jg;rw[if_neg (by decide +kernel),if_pos (by decide +kernel)]
theorem Gn(st:qai):jg st "give"=st.dropLast:=by unfold jg;rw[if_neg (by decide +kernel),if_pos (by decide +kernel)]
theorem Gp(st:qai):jg st "else"=st.dropLast++[("else":Str)]:=by unfold jg;rw[if_neg (by decide +kernel),if_neg (by decide +kernel),if_pos rfl]
theorem vi(st:qai)(l x:Str)(hx:x="if"\/x="while"):dI (st++[l]) x=true:=by unfold dI;rw[QP];obtain rfl|rfl:=hx<;>(show (if _ then _ else _)=true;rw[if_neg (by decide +kernel),if_neg (by decide +kernel),if_neg (by decide +kernel)];decide +kernel)
theorem C0(st:qai):dI (st++[("if":Str)]) "else"=true:=by unfold dI;rw[QP];show (if _ then _ else _)=true;rw[if_neg (by decide +kernel),if_pos rfl];decide +kernel
theorem xN(st:qai){l:Str}(h:l≠"def"):dI (st++[l]) "end"=true:=by unfold dI;rw[QP];show (if _ then _ else _)=true;rw[if_neg (by decide +kernel),if_neg (by decide +kernel),if_pos rfl,decide_eq_false h];rfl
theorem C1(st:qai):dI (st++[nB]) "give"=true:=by unfold dI;rw[QP];show (if _ then _ else _)=true;rw[if_pos rfl];decide +kernel
theorem Bu{st:qai}(h:st≠[]):∃s l,st=s++[l]:=⟨st.dropLast,st.getLast h,(List.dropLast_concat_getLast h).symm⟩
theorem Kl{bI new dB}(h:mZ ys pl bI new dB)(hs:∀x∈bI,Hd x) :
  oI (some (nB::bI)) new=some (nB::dB)/\∀x∈dB,Hd x:=by
 have hd:∀st:qai,∃s l,nB::st=s++[l]:=λst=>Bu (by simp);obtain⟨o,_,rfl,rfl⟩|⟨o,_,rfl,rfl⟩|⟨y,_,rfl,rfl⟩|⟨s0,rfl,rfl,rfl⟩|⟨s0,x,es,rfl,e'⟩|⟨r,hr,rfl,e'⟩:=h
 obtain⟨s,l,e⟩:=hd bI;refine⟨?_,?_⟩;rw[d_ (st:=nB::bI) (r:=.Ij o) (by rw[e];exact vi s l _ (.inl rfl))];show some (jg _ "if")=_;rw[PC];rfl;intro x hx;rcases gF.mp hx with hx|hx
 exact hs x hx;simp only[bL,cq,or_false] at hx;exact .inl hx;obtain⟨s,l,e⟩:=hd bI;refine⟨?_,?_⟩;rw[d_ (st:=nB::bI) (r:=.yL o) (by rw[e];exact vi s l _ (.inr rfl))];show some (jg _ "while")=_;rw[tZ];rfl;intro x hx;rcases gF.mp hx with hx|hx
 exact hs x hx;simp only[bL,cq,or_false] at hx;exact .inr (.inl hx);obtain⟨s,l,e⟩:=hd bI;refine⟨?_,?_⟩;have h1:oI (some (nB::bI)) [Rw.yL (.nm y)]=some ((nB::bI)++[("while":Str)]):=by rw[d_ (st:=nB::bI) (r:=.yL (.nm y)) (by rw[e];exact vi s l _ (.inr rfl))];show some (jg _ "while")=_;rw[tZ]
 have h2:=tY (ys:=[y]) (pl:=[]) (r:=.Bn y (.nm y) "minus" (.nu 1)) ⟨by simp,by simp[cT],by simp[reckon],by decide,by decide⟩ ((nB::bI)++[("while":Str)]) (by simp);show oI (oI (some (nB::bI)) [Rw.yL (.nm y)]) [Rw.Bn y (.nm y) "minus" (.nu 1)]=_;rw[h1,d_ h2.1,h2.2];rfl;intro x hx;rcases gF.mp hx with hx|hx
 exact hs x hx;simp only[bL,cq,or_false] at hx;exact .inr (.inl hx);refine⟨?_,?_⟩;have e:nB::(s0++[("if":Str)])=(nB::s0)++[("if":Str)]:=rfl;rw[e,d_ (C0 _)];show some (jg _ "else")=_;rw[Gp,Na];rfl;intro x hx;rcases gF.mp hx with hx|hx
 exact hs x (j5 _ hx);simp only[bL,cq,or_false] at hx;exact .inr (.inr hx);subst es;subst e';refine⟨?_,λy hy=>hs y (j5 _ hy)⟩;have e:nB::(dB++[x])=(nB::dB)++[x]:=rfl;rw[e,d_ (xN _ (hs x (by simp)).ne)];show some (jg _ "end")=_;rw[Bt,Na];subst e';have:=tY hr (nB::dB) (by simp);refine⟨?_,hs⟩;rw[d_ this.1,this.2]
theorem Gq{bI body}(h:Body ys pl bI body):oI (some [nB]) body=some (nB::bI)/\∀x∈bI,Hd x:=by
 induction h with
 |nil=>exact⟨rfl,λx hx=>nomatch hx⟩
 |step _ h2 ih=>have:=Kl h2 ih.2;exact⟨by rw[o7,ih.1];exact this.1,this.2⟩
theorem xO:∀(n:Nat)(bI:qai),bI.length=n->(∀x∈bI,Hd x)->oI (some (nB::bI)) (List.replicate n .fin)=some [nB]
 |0,bI,hl,_=>by rw[UQ] at hl;subst hl;rfl
 |n+1,bI,hl,hs=>by obtain⟨s,l,rfl⟩:=Bu (st:=bI) (by intro z;subst z;cases hl);rw[AO];show oI (oI (some ((nB::s)++[l])) [Rw.fin]) (List.replicate n .fin)=_;rw[d_ (xN _ (hs l (by simp)).ne)];show oI (some (jg _ "end")) _=_;rw[Bt,Na];exact xO n s (by simpa using hl) λx hx=>hs x (j5 _ hx)
theorem Km(h:Pre ys pl n rs):oI (some []) rs=some []:=by
 induction h with
 |zero=>rfl
 |@succ k rs f ps bI body o sk _ hk hb ho hs ih=>
  rw[o7,ih];show oI (oI (some []) [Rw.df f ps]) _=_;rw[d_ (by show dI [] "def"=true;decide +kernel)];show oI (some (jg [] "def")) _=_;rw[Bs,o7];have hB:=Gq hb;show oI (oI (some [nB]) body) _=_;rw[hB.1,o7,xO _ bI rfl hB.2];show oI (oI (some ([]++[nB])) [Rw.give o]) sk=_;rw[d_ (C1 [])];show oI (some (jg _ "give")) sk=_;rw[Gn,Na];obtain rfl|rfl:=hs
  rfl;rw[d_ (by show dI [] "skip"=true;decide +kernel)];show some (jg [] "skip")=_;rfl
noncomputable def oJ:List (Str×Nat)->Str->Option Nat
 |[],_=>none
 | (k,i)::l,f=>if k=f then some i else oJ l f
theorem o8(l m:List (Str×Nat))(f:Str):oJ (l++m) f=match oJ l f with
  |some i=>some i
  |none=>oJ m f:=by
 induction l with
 |nil=>rfl
 |cons p l ih=>obtain⟨k,i⟩:=p;simp only[QU,oJ];by_cases h:k=f;rw[if_pos h,if_pos h];rw[if_neg h,if_neg h];exact ih
noncomputable def Mp(l:List (Str×Nat))(i:Nat):Rw->List (Str×Nat)
 |.df f _=>match oJ l f with
  |some _=>l
  |none=>l++[(f,i)]
 |_=>l
noncomputable def bh(rs:qal):Nat->List (Str×Nat)
 |0=>[]
 |n+1=>match rs[n]? with
  |some r=>Mp (bh rs n) n r
  |none=>bh rs n
theorem lK{rs:qal}{f:Str}{j:Nat}:∀n,oJ (bh rs n) f=some j->j<n/\∃ps,rs[j]?=some (.df f ps)
 |0,h=>nomatch h
 |n+1,h=>by
  have old:oJ (bh rs n) f=some j->j<n+1/\∃ps,rs[j]?=some (.df f ps):=λh=>by have:=lK n h;exact⟨by omega,this.2⟩
  simp only[bh] at h;split at h
  rename_i r hr
  cases r with
  |df g ps=>
   simp only[Mp] at h;split at h;exact old h
   rename_i hn
   rw[o8] at h;split at h
   rename_i i hi
   cases h;exact old hi;simp only[oJ] at h;split at h
   rename_i e
   cases h;subst e;exact⟨by omega,ps,hr⟩;cases h
  |_=>exact old h
  exact old h
theorem g9{rs:qal}{f:Str}{i:Nat}{ps:qai}(hi:rs[i]?=some (.df f ps)):∀n,i<n->∃j,oJ (bh rs n) f=some j
 |0,h=>absurd h (by omega)
 |n+1,h=>by
  simp only[bh];by_cases e:i=n;subst e;rw[hi];simp only[Mp];cases ha:oJ (bh rs i) f with
  |some j=>exact⟨j,ha⟩
  |none=>refine⟨i,?_⟩;simp only;rw[o8,ha];simp only[oJ,if_true]
  obtain⟨j,hj⟩:=g9 hi n (by omega);split
  rename_i r hr
  cases r with
  |df g qs=>simp only[Mp];split;exact⟨j,hj⟩;rw[o8,hj];exact⟨j,rfl⟩
  |_=>exact⟨j,hj⟩
  exact⟨j,hj⟩
structure vj(rs:qal):Prop where
 un:∀(i i':Nat)(f:Str)(ps Mq:qai),rs[i]?=some (Rw.df f ps)->rs[i']?=some (Rw.df f Mq)->i=i'
 ca:∀(i:Nat)(x f:Str)(as:List oE),rs[i]?=some (Rw.call x f as)->∃(j:Nat)(ps:qai),i<j/\rs[j]?=some (Rw.df f ps)/\ps.length=as.length
theorem vj.first(h:vj rs){f:Str}(hi:rs[i]?=some (.df f ps)):oJ (bh rs rs.length) f=some i:=by obtain⟨j,hj⟩:=g9 hi rs.length (gN.mp hi).1;obtain⟨_,qs,hq⟩:=lK _ hj;rw[hj,h.un j i f qs ps hq hi]
def zP(pl:Plan):Rw->Prop
 |.df _ _=>False
 |.call _ f as=>∃ps,(f,ps)∈pl/\as.length=ps.length
 |_=>True
theorem C2(h:gY ys pl r):zP pl r:=by
 cases r<;>first
  |exact trivial
  |exact h.elim
  |exact h.2.1
theorem Kn{bI body}(h:Body ys pl bI body):∀r∈body,zP pl r:=by
 induction h with
 |nil=>intro r hr;cases hr
 |step _ h2 ih=>
  intro r hr;rcases gF.mp hr with hr|hr
  exact ih r hr;obtain⟨o,ho,rfl,_⟩|⟨o,ho,rfl,_⟩|⟨y,hy,rfl,_⟩|⟨s0,_,rfl,_⟩|⟨s0,x,_,rfl,_⟩|⟨r',ko,rfl,_⟩:=h2
  simp only[bL,cq,or_false] at hr;subst hr;trivial;simp only[bL,cq,or_false] at hr;subst hr;trivial;simp only[bL,cq,or_false] at hr;obtain rfl|rfl:=hr<;>trivial
  simp only[bL,cq,or_false] at hr;subst hr;trivial;simp only[bL,cq,or_false] at hr;subst hr;trivial;simp only[bL,cq,or_false] at hr;subst hr;exact C2 ko
structure Yh(pl:Plan)(k:Nat)(rs:qal):Prop where
 a:∀(i:Nat)(f:Str)(ps:qai),rs[i]?=some (Rw.df f ps)->∃m,m<k/\pl[m]?=some (f,ps)
 c:∀(i:Nat)(x f:Str)(as:List oE),rs[i]?=some (Rw.call x f as)->∃(m:Nat)(ps:qai),pl[m]?=some (f,ps)/\as.length=ps.length/\(m<k->∃j,i<j/\rs[j]?=some (Rw.df f ps))
 u:∀(i i':Nat)(f:Str)(ps Mq:qai),rs[i]?=some (Rw.df f ps)->rs[i']?=some (Rw.df f Mq)->i=i'
theorem TV(nd:ys.Nodup)(hP:m9 ys pl)(h:Pre ys pl n rs):Yh pl n rs:=by
 induction h with
 |zero=>exact⟨λi f ps h=>by simp at h,λi x f as h=>by simp at h,λi i' f ps Mq h=>by simp at h⟩
 |@succ k rs f ps bI body o sk _ hk hb ho hs ih=>
  have Rb:=Kn hb;generalize TX:body++(List.replicate bI.length Rw.fin++(Rw.give o::sk))=rest;have hR:∀r∈rest,zP (pl.drop (k+1)) r:=by
   intro r hr;rw[<- TX] at hr;rcases gF.mp hr with hr|hr
   exact Rb r hr;rcases gF.mp hr with hr|hr
   rw[(List.mem_replicate.mp hr).2];trivial;rcases bL.mp hr with rfl|hr
   trivial;obtain rfl|rfl:=hs
   cases hr;simp only[bL,cq,or_false] at hr;subst hr;trivial
  have split:∀i r,(rs++Rw.df f ps::rest)[i]?=some r->rs[i]?=some r\/(i=rs.length/\r=.df f ps)\/(rs.length<i/\r∈rest):=by
   intro i r hi;rcases Nat.lt_trichotomy i rs.length with h|h|h
   rw[wg h] at hi;exact .inl hi;subst h;rw[AL (eB _),Nat.sub_self] at hi;exact .inr (.inl ⟨rfl,(Option.some.inj hi).symm⟩);rw[AL (by omega)] at hi;obtain⟨d,hd⟩:∃d,i-rs.length=d+1:=⟨i-rs.length-1,by omega⟩;rw[hd,List.getElem?_cons_succ] at hi;exact .inr (.inr ⟨h,mn hi⟩)
  have here:(rs++Rw.df f ps::rest)[rs.length]?=some (.df f ps):=by rw[AL (eB _),Nat.sub_self];rfl
  have left:∀j r,rs[j]?=some r->(rs++Rw.df f ps::rest)[j]?=some r:=λj r h=>by rw[wg (gN.mp h).1];exact h
  have Mr:∀(i:Nat)(g:Str)(qs:qai),rs[i]?=some (Rw.df g qs)->g≠f:=by intro i g qs hi e;obtain⟨m,hm,hp⟩:=ih.a i g qs hi;have h1:=(hP m g qs hp).1;have h2:=(hP k f ps hk).1;rw[e] at h1;obtain⟨l1,e1⟩:=gN.mp h1;obtain⟨l2,e2⟩:=gN.mp h2;have:=zN nd l1 l2 (e1.trans e2.symm);omega
  refine⟨λi g qs hi=>?_,λi x g as hi=>?_,λi i' g qs qs' hi D3=>?_⟩;rcases split i _ hi with h|⟨_,e⟩|⟨_,h⟩
  obtain⟨m,hm,hp⟩:=ih.a i g qs h;exact⟨m,by omega,hp⟩;cases e;exact⟨k,by omega,hk⟩;exact (hR _ h).elim;rcases split i _ hi with h|⟨_,e⟩|⟨_,h⟩
  obtain⟨m,qs,hp,hl,hj⟩:=ih.c i x g as h;refine⟨m,qs,hp,hl,λhm=>?_⟩;by_cases e:m=k;subst e;rw[hk] at hp;cases hp;exact⟨rs.length,(gN.mp h).1,here⟩;obtain⟨j,h1,h2⟩:=hj (by omega);exact⟨j,h1,left j _ h2⟩;cases e;obtain⟨qs,hq,hl⟩:=hR _ h;obtain⟨m,hm⟩:=List.getElem?_of_mem hq;rw[List.getElem?_drop] at hm;exact⟨k+1+m,qs,hm,hl,λz=>absurd z (by omega)⟩;rcases split i _ hi with h|⟨h,e⟩|⟨_,h⟩
  rcases split i' _ D3 with h'|⟨h',e'⟩|⟨_,h'⟩
  exact ih.u i i' g qs qs' h h';cases e';exact absurd rfl (Mr i _ _ h);exact (hR _ h').elim;rcases split i' _ D3 with h'|⟨h',e'⟩|⟨_,h'⟩
  cases e;exact absurd rfl (Mr i' _ _ h');omega;exact (hR _ h').elim;exact (hR _ h).elim
theorem Gr(nd:ys.Nodup)(hP:m9 ys pl)(h:Pre ys pl pl.length rs):vj rs:=by have P:=TV nd hP h;refine⟨P.u,λi x f as hi=>?_⟩;obtain⟨m,ps,hp,hl,hj⟩:=P.c i x f as hi;obtain⟨j,h1,h2⟩:=hj (gN.mp hp).1;exact⟨j,ps,h1,h2,hl.symm⟩
end Gen
namespace VT
open PySem PySem.Spec PyProof.Rows L2
section
theorem Ko:Ia X "dict.setdefault" (λx xs H Q=>∃(a:Addr)(bE:List (Key×V))(k:Key)(v:V),x=.ref a/\xs=[kV k,v]/\H a=some (.dK bE)/\bE.length<sizeLine /\
  (∀u,i_ bE k=some u->Q u H)/\(i_ bE k=none->Q v (upd H a (.dK (L2.putK bE k v))))):=by
 intro pins s σ H x xs v us Q I rx rs h;obtain⟨a,bE,k,y,rfl,rfl,ha,oW,q1,q2⟩:=h;cases rx;obtain⟨u1,u2,rfl,ru1,ZS⟩:∃u1 u2,us=[u1,u2]/\RelV (kV k) u1/\RelV y u2:=by
  cases rs with
  |cons r1 t=>cases t with
    |cons r2 t2=>cases t2;exact⟨_,_,rfl,r1,r2⟩
 obtain⟨z,hd,vs,rel,dd⟩:=Tu I.bG ha;refine call_meetsIn PySem.F.slot_dict_setdefault dd.typeIs PySem.F.entry_dict_setdefault (PySem.F.args_dict_setdefault_3 _ _ _) (kt_meets_setdefault (bH X.prog X.w) a (xo ru1) hd u2) ⟨vs,dd,by rw[<- rel.length];omega,λv0 hv=>?_,λhn h' JX hs=>?_⟩;have zp:=rel.val k;rw[hv] at zp;cases e:i_ bE k with
 |none=>rw[e] at zp;cases zp
 |some w0=>rw[e] at zp;have hr:RelV w0 v0:=zp;exact⟨w0,H,I.tok _,hr,q1 w0 e⟩
 have zp:=rel.val k;rw[hn] at zp;cases e:i_ bE k with
 |some w0=>rw[e] at zp;cases zp
 |none=>
   have he:∃q,h'.get? a=some q:=let ⟨q,_,_,hq,_⟩:=JX;⟨q,hq⟩;have hl:(L2.putK bE k y).length<=sizeLine:=by have:=xn bE k y;omega
   exact⟨y,_,JT (t':=s.toks+1) I (by rw[ha];exact True.intro) hs he (Pa hl hd (rel.put k ZS) JX),ZS,q2 e⟩
end
section
variable{e1 e2:Expr}{f1 f2:FE}
noncomputable def Ms(n:Nat)(f1 f2:FE):FX:=λρ Q=>match ρ[n]? with
 |some (some (.dk ks ts,true))=>f1 ρ λx=>f2 ρ λy=>match FV x with
  |some k=>ts.length<16777216/\match gu ks ts k with
   |some t=>Q ρ (.vw t)
   |none=>Q (ρ.set n (some (.dk (ks++[k]) (ts++[y]),true))) (.vw y)
  |none=>False
 |_=>False
theorem Kq(n:Nat)(h1:VE X Z e1 f1)(h2:VE X Z e2 f2)(hN:X.N[n]?=some x:=by rfl)(hv:pk X.env.scope x:=by first|exact Or.inl rfl|exact Or.inr (Or.inl rfl)|exact Or.inr (Or.inr rfl))(hd:fW x:=by decide)(gM:sN x:=by decide)(cO:attributeBase (.Name x p) "setdefault" X.env (eval (.Name x p) X.env)=eval (.Name x p) X.env:=by rfl)(ik:((backTo aT (starEach [e1,e2] X.env)).all (λx=>!x.1) && (backToKw aT (keywordEach [] X.env)).all (λx=>x.1.isSome)
    && decide (([e1,e2]:qap).length+([]:List Keyword).length+(if ([]:List Keyword).isEmpty then 0 else 1)<30))=true:=by rfl)(cP:(apos.endLine==aT.line)=true:=by rfl)(hs:starEach [e1,e2] X.env=(false,eval e1 X.env)::starEach [e2] X.env:=by rfl)(tu:starEach [e2] X.env=(false,eval e2 X.env)::starEach [] X.env:=by rfl)(dz:(backTo aT (starEach [e2] X.env)).any (·.1)=false:=by rfl) :
  VX X Z (.Call (.Attribute (.Name x p) "setdefault" apos) [e1,e2] [] aT) (Ms n f1 f2):=.mk λtm=>
 PE.weak (pF Wa PySem.F.slot_dict_setdefault PySem.F.type_dict_setdefault Ko (dQ hN hv hd gM) (bj (h1 tm) (bj (h2 tm) cF tu) hs) cO ik cP hs dz) λσ H Q ⟨ρ,O,q,I,hf,kk⟩=>by
  unfold Ms at hf;split at hf
  rename_i ks ts e0
  obtain⟨l,g1,g2,xs,hl,g3,g4⟩:=I.root e0;have ha:l∈av Z O:=j5 _ (aP.mpr (mn g1));refine⟨.ref l,g2,.inr (.inr (.inl ⟨rfl,.inl ⟨_,g3⟩⟩)),ρ,O,_,I,hf,λt ht v H1 s1 a1=>⟨ρ,O,_,I.same s1,ht,λy hy w H2 s2 a2=>?_⟩⟩;split at hy
  rename_i Rg ek
  obtain⟨hlen,hy⟩:=hy;have ev:v=kV Rg:=u9 (.inl a1) ek;subst ev;have hz:(ks.zip xs).length<sizeLine:=by rw[sizeLine_eq,List.length_zip,hl,Nat.min_self,g4.length];omega
  have J:=(I.same s1).same s2;have b4:=(g4.same s1).same s2;refine⟨l,ks.zip xs,Rg,w,rfl,rfl,s2 _ _ (s1 _ _ g3),hz,λu hu=>?_,λhn=>?_⟩;rw[f_] at hu;cases eg:gu ks ts Rg with
  |none=>rw[(iy b4).2 eg] at hu;cases hu
  |some t0=>rw[eg] at hy;obtain⟨v0,e1,e2⟩:=(iy b4).1 t0 eg;rw[e1] at hu;cases hu;exact kk _ _ hy O _ _ ⟨J,e2⟩
  rw[f_] at hn;cases eg:gu ks ts Rg with
  |some t0=>obtain⟨v0,e1,e2⟩:=(iy b4).1 t0 eg;rw[e1] at hn;cases hn
  |none=>
    rw[eg] at hy;have e1:L2.putK (ks.zip xs) Rg w=(ks++[Rg]).zip (xs++[w]):=by rw[FQ _ (by rw[f_];exact hn),List.zip_append hl];rfl
    rw[e1];refine kk _ _ hy O _ _ ⟨J.wrote e0 g1 ⟨xs++[w],by simp[hl],aY,?_⟩,a2.wrote ha (s2 _ _ (s1 _ _ g3)) rfl⟩;exact (b4.append (aB.cons a2 aB.nil)).wrote ha (s2 _ _ (s1 _ _ g3)) rfl
  exact hy.elim;exact hf.elim
end
end VT
namespace dj
open PySem L2 VT Gen rR
noncomputable abbrev jh:Stmt:=top 34
noncomputable abbrev g_:Stmt:=top 35
noncomputable abbrev iC:Stmt:=top 37
structure Kr(w:World)(K:qaf)(mg:qae):Prop where
 C3:∃t,mg "MOST_ROWS"=some (.int 60 t)
 Ks:∃a,mg "OPENERS"=some (.ref a)/\∀H,eF K H a [.str "def",.str "if",.str "while"]
 Kt:∃a,mg "CLOSERS"=some (.ref a)/\∀H,eF K H a [.str "give",.str "end"]
 list:mg "list"=none
 len:mg "len"=none
 enumerate:mg "enumerate"=none
def TY(ts:qaj)(q:qam):Prop:=∃(st:qai)(x:Str),ts=[.lst (st.map .str),.str x]/\q (.vw (.bl (dI st x)))
noncomputable def ZT:GT:=λts q=>∃(st:qai)(x:Str),ts=[.lst (st.map .str),.str x]/\st.length<=1000/\dI st x=true/\q [.lst ((jg st x).map .str)] (.vw .bR)
def PD(l:List (Str×Nat)):T:=.dk (l.map λp=>(Sum.inr p.1:Key)) (l.map λp=>T.int (p.2:Int))
def Gs(ts:qaj)(q:qam):Prop:=∃rs:qal,ts=[.lst (rs.map bw)]/\rs.length<=60/\q (.fr (PD (bh rs rs.length)))
theorem Bv(h:rs[i]?=some r):kF (rs.map bw) (i:Int)=some (bw r):=aG (by rw[mf,h];rfl)
theorem zQ(l:List (Str×Nat))(f:Str):gu (l.map λp=>(Sum.inr p.1:Key)) (l.map λp=>T.int (p.2:Int)) (Sum.inr f)=(oJ l f).map λi=>T.int (i:Int):=by
 induction l with
 |nil=>rfl
 |cons p l ih=>obtain⟨k,i⟩:=p;simp only[dP,gu,oJ];by_cases h:k=f;rw[if_pos h,if_pos (by rw[h])];rfl;rw[if_neg h,if_neg (λz=>h (Sum.inr.inj z))];exact ih
theorem qx(rs:qal):∀n,(bh rs n).length<=n
 |0=>eB _
 |n+1=>by
  have:=qx rs n;simp only[bh];split
  rename_i r _
  cases r<;>simp only[Mp]<;>first
   |omega
   | (split<;>simp<;>omega)
  omega
section
noncomputable abbrev xP:qai:=qaw
theorem lL:aJ xP qaw (ak jh):=L2.ij
theorem vk(D:Df K mg "may_stand" jh qaw f fd)(M:Kr w K mg):cM P w K mg base "may_stand" qaw 1 (cy K 2 TY):=by
 refine D.lg (mi D.F lL rfl λbS A outer s H E Ox hr ts q hG=>?_);have nd:=lL.nd;have hu:=bM.iw hr;refine⟨_,(af (aS (bF hu (qas (az aD aE (by rfl) M.len iU (aq (ae 0) au))) (qas ag))
    (ai (ay (qau (Fq (ae 1) (qas (bc (aa (qat ah) (aa (qat ah) aj))))))))
    ax)
   (af (aS (bF hu (ae 1) (qas ah))
     (ai (ay (qau (sZ hu (qas (bo (ae 0) (qas (kc (qas ag))))) (qas ah)))))
     ax)
   (af (aS (bF hu (ae 1) (qas ah))
     (ai (ay (qau (sZ hu (qas (bo (ae 0) (qas (kc (qas ag))))) (qas ah)))))
     ax)
   (af (aS (bF hu (ae 1) (qas ah))
     (ai (ay (qau (L7 hu (qas (bo (ae 0) (qas (kc (qas ag))))) (qas ah)))))
     ax)
   (ai (ay (qau (L7 hu (ae 1) (qas ah))))))))),λ_=>?_⟩
 obtain⟨st,x,rfl,hq⟩:=hG;rcases UX st with e|⟨s0,l,e⟩
 subst e;exact⟨small (by simp),rfl,rfl,hq⟩;rw[List.concat_eq_append] at e;have hl:((st.map T.str).length:Int)≠0:=by rw[e];simp;omega
 have ex:kF (st.map T.str) (-1)=some (T.str l):=by rw[e,wm];exact wC _ _
 unfold dI at hq;rw[e,QP] at hq;refine eU (c:=decide (((st.map T.str).length:Int)=0)) (decide_eq_false hl) ?_;have gI:q (.vw (.bl (if x="give" then decide (l="def") else if x="else" then decide (l="if") else if x="end" then !decide (l="def") else !decide (x="def")))):=hq;refine cA (λh=>?_) (λh=>?_);rw[if_pos h] at gI;exact⟨_,ex,gI⟩;rw[if_neg h] at gI;refine cA (λh=>?_) (λh=>?_);rw[if_pos h] at gI;exact⟨_,ex,gI⟩;rw[if_neg h] at gI;refine cA (λh=>?_) (λh=>?_);rw[if_pos h] at gI;exact⟨_,ex,gI⟩;rw[if_neg h] at gI;exact gI
abbrev nC:qai:=qaw
theorem qy:aJ nC qaw (ak g_):=L2.ij
theorem zR(D:Df K mg "go_past" g_ qaw f fd)(M:Kr w K mg):cM P w K mg base "go_past" qaw 1 (wU K [true,false] ZT):=by
 refine D.lg (Xx D.F qy rfl λbS A outer s H E as Ox hr ts q hl hG=>?_);have nd:=qy.nd;have hu:=bM.iw hr;obtain⟨aO,mO,hO⟩:=M.Ks;obtain⟨aC,mC,hC⟩:=M.Kt;have C4:∀{pos},VP (fE kU P w K mg base nC "go_past" (ak g_) f bS A outer s H E).wo ⟨H,pz [true,false] as 0,Ox⟩ (.Name "OPENERS" pos) (fC (.tup [.str "def",.str "if",.str "while"])):=fg (by rfl) mO (v:=.ref aO) rfl λH A=>bK (hO H) (aB.cons bJ (aB.cons bJ (aB.cons bJ aB.nil)));have C5:∀{pos},VP (fE kU P w K mg base nC "go_past" (ak g_) f bS A outer s H E).wo ⟨H,pz [true,false] as 0,Ox⟩ (.Name "CLOSERS" pos) (fC (.tup [.str "give",.str "end"])):=fg (by rfl) mC (v:=.ref aC) rfl λH A=>bK (hC H) (aB.cons bJ (aB.cons bJ aB.nil));refine⟨_,(ai (aS (Bi (ae 1) (qas C4))
  (ai (bg (cL 0 rH rJ aZ aV (aa (ao 1) aj))))
  (ai (aS (Bi (ae 1) (qas C5))
   (ai (bg (Fc 0 PySem.F.slot_list_pop PySem.F.type_list_pop EI Bf)))
   (ai (aS (bF hu (ae 1) (qas ah))
    (ai (pQ 0 (qat ah) (qas (kc (qas ag)))))
    ax)))))),?_⟩
 obtain⟨st,x,rfl,hl,hm,hq⟩:=hG;have e1:w_ (.str x) [.str "def",.str "if",.str "while"]=decide (x="def"\/x="if"\/x="while"):=by have:=o6 x ["def","if","while"];rw[show ([.str "def",.str "if",.str "while"]:qaj)=(["def","if","while"]:qai).map .str from rfl,this];simp
 have e2:w_ (.str x) [.str "give",.str "end"]=decide (x="give"\/x="end"):=by have:=o6 x ["give","end"];rw[show ([.str "give",.str "end"]:qaj)=(["give","end"]:qai).map .str from rfl,this];simp
 unfold jg at hq;refine⟨rfl,rfl,?_⟩;rw[e1];refine cA (λh=>?_) (λh=>?_);rw[if_pos h] at hq;refine⟨(by rw[sizeLine_eq,bQ];omega),?_⟩;show q [.lst (st.map .str++[.str x])] _;rw[wm] at hq;exact hq;rw[if_neg h] at hq;refine⟨rfl,rfl,?_⟩;rw[e2];have ne:(x="give"\/x="end")\/x="else"->∃s0 l,st=s0++[l]:=λhx=>by
  rcases UX st with e|⟨s0,l,e⟩
  subst e;exfalso;obtain (rfl|rfl)|rfl:=hx<;>exact absurd hm (by decide +kernel)
  exact⟨s0,l,by rw[e,V2]⟩
 refine cA (λh2=>?_) (λh2=>?_);rw[if_pos h2] at hq;obtain⟨s0,l,rfl⟩:=ne (.inl h2);refine⟨rfl,.str l,by simp,?_⟩;show q [.lst (((s0++[l]).map T.str).dropLast)] _;rw[Na] at hq;rw[wm];show q [.lst ((s0.map T.str++[T.str l]).dropLast)] _;rw[Na];exact hq;rw[if_neg h2] at hq;refine cA (λh3=>?_) (λh3=>?_);rw[if_pos h3] at hq;obtain⟨s0,l,rfl⟩:=ne (.inr h3);have JQ:((s0++[l]).map T.str).length=s0.length+1:=by simp
 refine⟨s0.length,?_,?_⟩;unfold wq;rw[JQ,if_neg (by decide),if_pos (by omega)]
 congr 1
 omega;show q [.lst (((s0++[l]).map T.str).set s0.length (T.str "else"))] _;rw[Na] at hq;have e3:((s0++[l]).map T.str).set s0.length (T.str "else")=(s0++[("else":Str)]).map T.str:=by simp
 rw[e3];exact hq;rw[if_neg h3] at hq;exact hq
noncomputable abbrev vm:qai:=["program","firsts","place","row"]
theorem jX:aJ vm qax (ak iC):=L2.ij
theorem si(D:Df K mg "first_defs" iC qax f fd)(M:Kr w K mg):cM P w K mg base "first_defs" qax 1 (cy K 1 Gs):=by
 refine D.lg (mi D.F jX rfl λbS A outer s H E Ox hr ts q hG=>?_);have nd:=jX.nd;have hu:=bM.iw hr;have np:∀{i:Nat},ba ⟨H,[],Ox⟩ i:=mW;refine⟨_,(af (dR (i:=1) nd rfl (Or.inl rfl) (qau JW) np)
  (af (eQ HW rfl (lb (by rfl) M.enumerate (ao 0)) (ke (n:=2) rfl (cj (aX (i:=2) nd rfl (Or.inl rfl) np) (cj (aX (i:=3) nd rfl (Or.inl rfl) np) iu)))
   (ai (aS (bF hu (qas (bo (ae 3) (qas ag))) (qas ah))
    (ai (bg (Kq 1 (qat (bo (ae 3) (qas ag))) (ao 2))))
    ax)))
  (ai (ay (k7 1 np))))),λ_=>?_⟩
 obtain⟨rs,rfl,hn,hq⟩:=hG;refine g8 (λi ρ=>∃b2 b3,ρ=[some (.lst (rs.map bw),false),some (PD (bh rs i),true),b2,b3]) ⟨_,_,rfl⟩ ?_ ?_;rintro i r ρ hr ⟨b2,b3,rfl⟩;have hi:=(gN.mp hr).1;have hlen:((bh rs i).map λp=>T.int (p.2:Int)).length<16777216:=by rw[bQ];have:=qx rs i;omega
 have es:bh rs (i+1)=Mp (bh rs i) i r:=by simp only[bh,hr]
 cases r with
 |df g ps=>
  refine⟨rfl,rfl,_,aG (j:=0) rfl,?_⟩;refine⟨_,aG (j:=1) rfl,hlen,?_⟩;rw[es];simp only[Mp];rw[zQ];cases ha:oJ (bh rs i) g with
  |some j=>exact⟨_,_,rfl⟩
  |none=>
   show ∃b2 b3,_=[_,some (PD (bh rs i++[(g,i)]),true),b2,b3];have ef:PD (bh rs i++[(g,i)])=.dk (((bh rs i).map λp=>(Sum.inr p.1:Key))++[Sum.inr g]) (((bh rs i).map λp=>T.int (p.2:Int))++[T.int (i:Int)]):=by simp only[PD,wm,dP,uB]
   rw[ef];exact⟨_,_,rfl⟩
 |_=>refine⟨rfl,rfl,_,aG (j:=0) rfl,?_⟩;rw[es];exact⟨_,_,rfl⟩
 rintro ρ ⟨b2,b3,rfl⟩;exact hq
end
end dj
namespace Gen
open PySem L2 VT
noncomputable def brk(st:qai):qal->Nat->Option Nat
 |[],i=>if st=[] then none else some i
 |r::rs,i=>if dI st (wd r)=true then brk (jg st (wd r)) rs (i+1) else some i
theorem Ku{l:List α}{x:α}(h:l[i]?=some x):l.drop i=x::l.drop (i+1):=by obtain⟨hi,e⟩:=gN.mp h;rw[<- e];exact (Ro hi)
noncomputable def sj(rs:qal)(i:Nat)(f:Str)(as:List oE):Bool:=match oJ (bh rs rs.length) f with
 |none=>false
 |some j=>if j<i then false else match rs[j]? with
  |some (.df _ ps)=>decide (ps.length=as.length)
  |_=>false
theorem t5{f:Str}{as:List oE}(h:oJ (bh rs rs.length) f=none):sj rs i f as=false:=by unfold sj;rw[h]
theorem t6{f g:Str}{as:List oE}(h:oJ (bh rs rs.length) f=some j)(hj:rs[j]?=some (.df g ps)):sj rs i f as=if j<i then false else decide (ps.length=as.length):=by unfold sj;rw[h];dsimp only;rw[hj]
theorem Gu{c:Bool}{A:Prop}(hc:c=true)(h:A):if c=true then A else B:=by rw[if_pos hc];exact h
noncomputable def de(rs:qal)(i:Nat):Bool:=match rs[i]? with
 |some (.df g _)=>!decide (oJ (bh rs rs.length) g=some i)
 |some (.call _ f as)=>!sj rs i f as
 |_=>false
noncomputable def fM(rs:qal):Option Nat:=(List.range rs.length).find? (de rs)
theorem qz(hi:i<rs.length)(h:∀j<i,de rs j=false)(hw:de rs i=true):fM rs=some i:=by unfold fM;rw[List.find?_range_eq_some];exact⟨hw,HX.mpr hi,λj hj=>by rw[h j hj];rfl⟩
theorem qA(h:∀j<rs.length,de rs j=false):fM rs=none:=by unfold fM;rw[List.find?_eq_none];intro j hj;rw[h j (HX.mp hj)];simp
theorem Kv{st:qai}(h:dI st x=true):(jg st x).length<=st.length+1:=by unfold jg;split;rw[j6];simp;split;rw[List.length_dropLast];omega;split;rw[j6,List.length_dropLast];simp;omega
end Gen
namespace EX
open PySem PySem.Spec PySem.Calls PyProof.Rows L2
def Flt(h:Heap)(e C:Addr)(dd T:qar)(fl:Value):Prop :=
 ∃oe vs,h.get? e=some oe/\oe.cls=.ref C/\oe.dict=dd/\oe.data=.fields vs/\1<vs.size /\
  match T with
  |none=>vs[1]?=some .none
  |some a=>vs[1]?=some (.ref a)/\a≠e/\∃oT ts,h.get? a=some oT/\oT.data=.fields ts/\ts[3]?=some fl
structure Kp(fs:qah)(e:Addr)(T:qar)(h h':Heap):Prop where
 keep:∀b o,h.get? b=some o->b≠e->T≠some b->b∉fs->h'.get? b=some o
 slot:∀b o,h.get? b=some o->b∈fs->b≠e->T≠some b->∃sl,h'.get? b=some {o with slots:=sl}
theorem Kp.any{fs:qah}{e:Addr}{T:qar}(k:Kp fs e T h h'){b:Addr}{o:Obj}(q:h.get? b=some o)(h1:b≠e)(h2:T≠some b):∃sl,h'.get? b=some {o with slots:=sl}:=by by_cases z:b∈fs;exact k.slot b o q z h1 h2;exact⟨o.slots,k.keep b o q h1 h2 z⟩
theorem Kp.trans{fs:qah}{e:Addr}{T T':qar}{h1 h2:Heap}(a:Kp fs e T h h1)(b:Kp fs e T' h1 h2)(hT:∀c,T'=some c->h.get? c=none\/T=some c):Kp fs e T h h2 where
 keep:=λc o q n1 n2 n3=>b.keep c o (a.keep c o q n1 n2 n3) n1 (λz=>by rcases hT c z with y|y;rw[q] at y;cases y;exact n2 y) n3
 slot:=λc o q n1 n2 n3=>by obtain⟨sl,q1⟩:=a.slot c o q n1 n2 n3;obtain⟨A0,q2⟩:=b.slot c _ q1 n1 n2 (λz=>by rcases hT c z with y|y;rw[q] at y;cases y;exact n3 y);exact⟨A0,q2⟩
theorem Kw(o:Obj)(f:Array Value->Array Value):(o.mapFields f).dict=o.dict:=by obtain⟨c,d,da,sl⟩:=o;cases da<;>rfl
section
variable{M:Model}{s:Shared}{e L:Addr}{T:qar}{fl:Value}{env:Env}{outer:List Env}
theorem Flt.IA{l:List Env}(F:Flt h e C dd T fl)(hl:h.FunFrames base l):e∉kK l/\∀a,T=some a->a∉kK l:=by obtain⟨oe,vs,he,hc,hd,C6,oW,hT⟩:=F;refine⟨λz=>?_,λa ea z=>?_⟩;obtain⟨_,o,ho,hn⟩:=hl.mem z;rw[he] at ho;cases ho;exact hn vs C6;subst ea;obtain⟨_,_,oT,ts,Kx,Ik,_⟩:=hT;obtain⟨_,o,ho,hn⟩:=hl.mem z;rw[Kx] at ho;cases ho;exact hn ts Ik
theorem xQ{head:Value}{hn:Bool}{oe:Obj}{vs:Array Value}{Q:Unit->Shared->Prop}(Il:A.frames=some (env::outer))(hl:s.heap.FunFrames base (env::outer))(hf:env.frame=some L)(he:s.heap.get? e=some oe)(hc:oe.cls=.ref C)(hd:oe.dict=dd)(C6:oe.data=.fields vs)(oW:1<vs.size)(h:∀h' T',Flt h' e C dd (some T') (rawInt L)->s.heap.get? T'=none->Kp (kK (env::outer)) e none s.heap h'->Q () {s with heap:=h'}) :
  wpAny M A (do let a <- frameOf env;let pl <- entryPlaceOf L hn;let b <- EntryCells.newEntry head a .none (rawInt L) .none pl;setField (.ref e) 1 b) Q E s:=by
 have ne:e∉kK (env::outer):=λz=>by obtain⟨_,o,ho,q⟩:=hl.mem z;rw[he] at ho;cases ho;exact q vs C6
 refine wpAny_bind (wpAny_frameOf_fun Il hl hf λh1 so=>?_);refine wpAny_bind (wpAny_entryPlaceOf λpl fz=>?_);unfold EntryCells.newEntry newFields;refine wpAny_bind (wpAny_newObj_type ?_ (fz.sizeOk5 _ _ _ _ _));have e1:h1.get? e=some oe:=(so.2.1 e ne).trans he;generalize hx:([head,Value.ref L,.none,rawInt L,.none]++(if pl.isEmpty then List.replicate 6 Value.none else pl))=xs;have x3:xs.toArray[3]?=some (rawInt L):=by rw[<- hx];simp
 have e2:(h1.push ⟨.type "traceback",none,.fields xs.toArray,#[]⟩).get? e=some oe:=eD _ e1;refine wpAny_setField e2 C6 oW ?_;have nT:h1.objs.size≠e:=Ca (eG e1);have d3:=Nb C6 (·.setIfInBounds 1 (Value.ref h1.objs.size));refine h _ h1.objs.size ⟨_,_,M' _ e2 (Rv d3),(Obj.cls_mapFields _ _).trans hc,?_,d3,by simp[oW],by simp[oW],nT,⟨.type "traceback",none,.fields xs.toArray,#[]⟩,xs.toArray,?_,rfl,x3⟩ (Ry (by rw[so.1];exact eB _)) ⟨λb o q n1 _ n3=>?_,λb o q n1 n2 _=>?_⟩;rw[<- hd];exact Kw _ _;rw[LI _ _ (Ne.symm nT)];exact ph h1 rfl;rw[LI _ _ (Ne.symm n1)];exact eD _ ((so.2.1 b n3).trans q);obtain⟨sl,q2⟩:=so.2.2 b o q;exact⟨sl,by rw[LI _ _ (Ne.symm n2)];exact eD _ q2⟩
theorem Bw{Q:Unit->Shared->Prop}(Il:A.frames=some (env::outer))(hl:s.heap.FunFrames base (env::outer))(hf:env.frame=some L)(F:Flt s.heap e C dd T .none)(h:∀h' T',Flt h' e C dd (some T') (rawInt L)->s.heap.get? T'=none->Kp (kK (env::outer)) e T s.heap h'->Q () {s with heap:=h'}):wpAny M A (noteFrame (.ref e) env) Q E s:=by
 have nf:=F.IA hl;obtain⟨oe,vs,he,hc,hd,C6,oW,hT⟩:=F;unfold noteFrame;simp only[hf];cases T with
 |none=>refine wpAny_bind (wpAny_field he C6 hT ?_);rw[if_neg (by decide)];exact xQ Il hl hf he hc hd C6 oW h
 |some a=>
  obtain⟨h1,ne,oT,ts,Kx,Ik,h3⟩:=hT;refine wpAny_bind (wpAny_field he C6 h1 ?_);rw[if_pos (by simp)];refine wpAny_bind (wpAny_field Kx Ik h3 ?_);rw[if_neg (by simp[rawInt])];refine wpAny_bind (wpAny_setField Kx Ik (V3.mp h3).1 ?_);have Mt:∀b,b≠a->(s.heap.update a (Obj.mapFields (·.setIfInBounds 3 Value.none))).get? b=s.heap.get? b:=λb hb=>LI _ _ (Ne.symm hb);have PF:=hl.of_keeps (h':=s.heap.update a (Obj.mapFields (·.setIfInBounds 3 Value.none))) λb o q nn=>⟨o,(Mt b λz=>by subst z;rw[Kx] at q;cases q;exact nn ts Ik).trans q,rfl⟩;refine xQ (s:={s with heap:=s.heap.update a (Obj.mapFields (·.setIfInBounds 3 Value.none))}) Il PF hf ((Mt e (Ne.symm ne)).trans he) hc hd C6 oW λh' T' f n k=>h h' T' f ?_ ⟨λb o q n1 n2 n3=>?_,λb o q n1 n2 n3=>?_⟩;cases q:s.heap.get? T' with
  |none=>rfl
  |some o=>by_cases z:T'=a;subst z;have:=M' (Obj.mapFields (·.setIfInBounds 3 Value.none)) Kx (Rv (Nb Ik _));rw[this] at n;cases n;rw[Mt T' z,q] at n;cases n
  have nb:b≠a:=λz=>n2 (by rw[z]);exact k.keep b o ((Mt b nb).trans q) n1 (λz=>by cases z) n3;have nb:b≠a:=λz=>n3 (by rw[z]);exact k.slot b o ((Mt b nb).trans q) n1 n2 (λz=>by cases z)
theorem vn{Q:Unit->Shared->Prop}(F:Flt s.heap e C dd (some a) fl)(h:∀h',Flt h' e C dd (some a) .none->Kp [] e (some a) s.heap h'->Q () {s with heap:=h'}):wpAny M A (setFlight (.ref e) none) Q E s:=by
 obtain⟨oe,vs,he,hc,hd,C6,oW,h1,ne,oT,ts,Kx,Ik,h3⟩:=F;have z3:=(V3.mp h3).1;unfold setFlight;refine wpAny_bind (wpAny_field he C6 h1 ?_);rw[if_pos (by simp)];refine wpAny_setField Kx Ik z3 ?_;have Mt:∀(f:Obj->Obj) b,b≠a->(s.heap.update a f).get? b=s.heap.get? b:=λf b hb=>LI _ _ (Ne.symm hb);refine h _ ⟨oe,vs,(Mt _ e (Ne.symm ne)).trans he,hc,hd,C6,oW,h1,ne,_,_,M' _ Kx (Rv (Nb Ik _)),Nb Ik _,by simp[z3]⟩
  ⟨λb o q n1 n2 _=>(Mt _ b λz=>n2 (by rw[z])).trans q,λb o q n1 _ _=>absurd n1 (by simp)⟩
theorem Gv{Q:Unit->Shared->Prop}(Il:A.frames=some (env::outer))(hl:s.heap.FunFrames base (env::outer))(hf:env.frame=some L)(F:Flt s.heap e C dd T .none)(h:∀h' T',Flt h' e C dd (some T') .none->s.heap.get? T'=none->Kp (kK (env::outer)) e T s.heap h'->Q () {s with heap:=h'}):wpAny M A (leaving env (.ref e)) Q E s:=by unfold leaving;refine wpAny_bind (Bw Il hl hf F λh1 T' f n k=>?_);refine vn f λh2 f2 k2=>h h2 T' f2 n (k.trans ⟨λb o q n1 n2 _=>k2.keep b o q n1 n2 (by simp),λb o q _ n2 n3=>⟨o.slots,k2.keep b o q n2 n3 (by simp)⟩⟩ λc z=>.inl (by cases z;exact n))
end
end EX
namespace EX
open PySem PySem.Spec PySem.Calls PyProof.Rows L2
open PySem.W (findIn typeIn clsIn subIn looks_findIn looks_typeIn looks_subIn looks_clsIn Looks InstAt lookIn findObj)
noncomputable abbrev Im:qag:=[.type "ValueError",.type "Exception",.type "BaseException",.type "object"]
noncomputable abbrev clO(nm q:Str)(C N:Addr)(bs bm:qag)(sn:qai)(sub:qag)(ab:Bool)(col:Option Bool)(dd:qar)(k0 k1 k2 k3 k5:Option Value):Obj:=excClassObj nm q C N bs bm true sn sub ab col dd k0 k1 k2 k3 k5 "ValueError.__new__"
structure XC(K:qaf)(C:Addr)(tl:qah):Prop where
 obj:∃nm q N bs sn sub ab col dd k0 k1 k2 k3 k5,K.lookup C=some (clO nm q C N bs (tl.map .ref++Im) sn sub ab col dd k0 k1 k2 k3 k5)
 tail:∀a∈tl,∃c dd cd sl o es ep,K.lookup a=some ⟨c,dd,.cls cd,sl⟩/\K.lookup cd.ns=some o/\o.data=.dict es ep/\StrKeys es/\nsFind es "__init__"=none
theorem lM{K:qaf}{h:Heap}(X:K.In h):∀{tl:qah},(∀a∈tl,∃c dd cd sl o es ep,K.lookup a=some ⟨c,dd,.cls cd,sl⟩/\K.lookup cd.ns=some o/\o.data=.dict es ep/\StrKeys es/\nsFind es "__init__"=none)->OwnTail h Im (tl.map .ref++Im)
 |[],_=>.base
 |a::tl,q=>by obtain⟨c,dd,cd,sl,o,es,ep,h1,h2,h3,h4,h5⟩:=q a eE;exact .own (X _ _ h1) ⟨o,es,ep,X _ _ h2,h3,h4,λ_=>rfl⟩ h5 (lM X λb hb=>q b (fY _ hb))
section
variable{g:Array GenState}{d:Drawn}{t:Nat}{os:OsState}{fI:Addr}{rest:qag}
theorem zS{Q:PySem.Fin->Shared->Prop}(X:K.In h)(xc:XC K C tl)(hi:findIn K (.ref C) "__init__"=some (some (.ref fI)))(ht:typeIn K (.ref fI)=some (.type "function"))(hq:∀h' e,Heap.MadeExcOf h h' e (.ref C) rest->wpAny (model prog w) A (call (.ref fI) (.ref e::rest)) (λr s'=>r=.none/\Q (.done (.ret (.ref e))) s') E ⟨h',g,d,t,os⟩)(hr:rest.length<=sizeLine) :
  wpAny (model prog w) A (Builtin.«type.__call__» ⟨.ref C::rest,[]⟩) Q E ⟨h,g,d,t,os⟩:=by
 obtain⟨nm,q,N,bs,sn,sub,ab,col,dd,k0,k1,k2,k3,k5,oK⟩:=xc.obj;have oC:=X _ _ oK;have T:=lM X xc.tail
 repeat (first|with_reducible refine wpAny_loadPart_at oC ?_|with_reducible refine wpAny_madeBy_exc oC ?_|wp_step)
 refine codeAny_call_builtin_code (U3 _ RB.quiet) (wpAny_check_new_subT RB T oC ?_);refine codeAny_exc_new_subT RB T oC ?_ hr;show wpAny _ _ _ _ _ _;generalize ZU:(⟨.type "tuple",none,.seq rest.toArray 0,#[]⟩:Obj)=tp;generalize PH:(⟨.ref C,none,.fields #[.ref h.objs.size,.none,.none,.none,.bool false,.none],#[]⟩:Obj)=oe;have kk:∀b o,h.get? b=some o->((h.push tp).push oe).get? b=some o:=λb o q=>eD _ (eD _ q);have X1:K.In ((h.push tp).push oe):=λb o q=>kk b o (X b o q);have oC1:=X1 _ _ oK;have Vu:((h.push tp).push oe).get? (h.objs.size+1)=some oe:=by subst PH;heap_get
 have ot1:((h.push tp).push oe).get? h.objs.size=some tp:=by subst ZU;exact eD _ (Heap.get?_push_at rfl rfl)
 have hcC:(Value.ref C::(tl.map Value.ref++Im)).contains (.ref C)=true:=by simp
 have ec:oe.cls=.ref C:=by subst PH;rfl
 unfold isInstance
 repeat (first|(with_reducible refine wpAny_loadPart_at Vu ?_;rw[ec])|(with_reducible refine wpAny_isSubtype_exc oC1 ?_;rw[hcC])|wp_step)
 show wpAny _ _ (typeLookup (.ref C) _) _ _ _;refine looks_findIn X1 hi _ _ _ _ (λ_ _ z=>z) ?_;refine wpAny_holding (wpAny_bind (PySem.W.bind_fn X1 _ ht _ _ _ _ (λ_ _ z=>z) ?_));refine wpAny_bind (wpAny_mono (hq _ (h.objs.size+1) ⟨kk,Ry (Ng _),h.objs.size,by rw[Vu,<- PH],Ry (eB _),by rw[ot1,<- ZU]⟩) (λr s' z=>?_) λ_ _ z=>z);obtain⟨rfl,z⟩:=z
 wp_walk
 exact z
theorem C7(X:K.In h)(xc:XC K C tl)(hi:findIn K (.ref C) "__init__"=some (some (.ref fI)))(ht:typeIn K (.ref fI)=some (.type "function"))(hq:∀h' e,Heap.MadeExcOf h h' e (.ref C) rest->wpAny (model prog w) (A.under (.builtin "type.__call__" ⟨.ref C::rest,[]⟩)) (call (.ref fI) (.ref e::rest)) (λr s'=>r=.none/\Q (.ref e) s') E ⟨h',g,d,t,os⟩)(hr:rest.length<=sizeLine) :
  wpAny (model prog w) A (call (.ref C) rest) Q E ⟨h,g,d,t,os⟩:=by
 obtain⟨nm,q,N,bs,sn,sub,ab,col,dd,k0,k1,k2,k3,k5,oK⟩:=id xc.obj;have oC:=X _ _ oK;have l1:=tc_lookup;have l2:=tc_bind (.ref C);have lT:(⟨h,g,d,t,os⟩:Shared).TypeIs (.ref C) "type":=⟨_,oC,rfl⟩;refine wpAny_call (codeAny_of_tree ?_);show wpAny _ _ (callAny (.ref C) _) _ _ _
 repeat (any_goals (first|assumption|with_reducible refine wpAny_loadPart_at oC ?_|wp_step))
 refine⟨rfl,?_⟩;exact codeAny_call_builtin_at (U3 _ (by decide +kernel)) entry_typeCall (wpAny_check_type_call_sub oC (zS X xc hi ht (λh' e m=>hq h' e m) hr))
end
end EX
namespace EX
open PySem PySem.Spec PySem.Calls PyProof.Rows L2 Builtin Builtin.ObjectAttr
open PySem.W (findIn typeIn clsIn subIn mroIn specialIn takesIn looks_findIn looks_typeIn looks_subIn looks_clsIn looks_mroIn looks_find Looks InstAt lookIn findObj)
structure XF(K:qaf)(C:Addr):Prop where
 ga:findIn K (.ref C) "__getattribute__"=some (some (.builtin "BaseException.__getattribute__"))
 hk:findIn K (.ref C) "__getattr__"=some none
 sa:findIn K (.ref C) "__setattr__"=some (some (.builtin "object.__setattr__"))
 pl:findIn K (.ref C) "place"=some none
 cl:findIn K (.ref C) "__class__"=some (some (.builtin "object.__class__"))
 sub:subIn K (.ref C) (.type "BaseException")=some true
 ob:mroIn K C (.type "object")=some true
 cg:specialIn K (.builtin "object.__class__") "__get__"=some (some (.builtin "getset_descriptor.__get__"))
 ct:takesIn K (.builtin "object.__class__")=some true
section
variable{s:Shared}{e:Addr}{oe:Obj}{od:Option Obj}{name:Str}
theorem Mu{tk:Tok}{fill expr:Bool}(X:K.In s.heap)(f:XF K C)(I:InstAt s.heap e oe C od)(h:wpAny (model prog w) A.in1 (Builtin.«object.__getattribute__» ⟨[.ref e,.str name tk],[]⟩) (λfin s'=>match fin with | .done (.ret v)=>wpAny (model prog w) A (handedOut v) Q E s'|_=>False) (λ_ _=>False) s) :
  wpAny (model prog w) A (getAttrBy (.ref e) (.str name tk) fill expr) Q E s:=by
 have ex:=F.excAttr_ValueError.ga;unfold getAttrBy;refine wpAny_holding (wpAny_bind (I.type.here (wpAny_bind ((looks_findIn X f.ga).here ?_))));dsimp only;have n1:(Value.builtin "BaseException.__getattribute__"==Value.builtin "object.__getattribute__")=false:=by decide +kernel
 rw[show (onTheHeap (Value.ref C) && Value.builtin "BaseException.__getattribute__"==Value.builtin "object.__getattribute__")=false from by rw[n1,RI],if_neg (by decide)];unfold getAttrByItsOwn;have hb:Looks (model prog w) s.heap (hookBefore (.ref C)) none:=PySem.W.looks_hook X (by show findIn K (.ref C) "__getattr__"=some none;exact f.hk);refine wpAny_bind (hb.here (wpAny_bind (wpAny_attempt (wpAny_holding ?_))));unfold callGetattribute;rw[show (expr && onTheHeap (Value.builtin "BaseException.__getattribute__"))=false from RI _,if_neg (by decide)];unfold boundAndCalled;rw[ex.bind];refine wpAny_bind (wpAny_pure ?_);show wpAny _ _ (call (.builtin "BaseException.__getattribute__") [.ref e,.str name tk]) _ _ _;refine wpAny_call (codeAny_call_builtin ex.plain F.entry_bexc_ga ?_);refine @PySem.W.check_slot (model prog w) _ _ s "BaseException.__getattribute__" "BaseException" "__getattribute__" (.ref e) [.str name tk] [] _ (by decide +kernel) (by decide +kernel) (I.type.andThen (looks_subIn X f.sub)) (F.args_bexc_ga _ _) ?_;refine wpAny_mono h (λfin s' z=>?_) λ_ _ z=>z.elim;obtain (_|_|_|_)|_:=fin<;>first|exact z|exact z.elim
theorem xR{tk:Tok}{r:Found}{Q:PySem.Fin->Shared->Prop}(L:Looks (model prog w) s.heap (find (.ref e) (.ref C) name) r)(I:InstAt s.heap e oe C od)(h:wpAny (model prog w) A (match r with | .value v=>ret v | .bind g a=>bindTo g a (.ref e) (.ref C) | .missing=>pure (.done (.ret .none))) Q E s)(hr:r≠.missing) :
  wpAny (model prog w) A (Builtin.«object.__getattribute__» ⟨[.ref e,.str name tk],[]⟩) Q E s:=by
 refine wpAny_bind (wpAny_pure (wpAny_bind (wpAny_pure (wpAny_bind (I.type.here (wpAny_bind (L.here ?_)))))));cases r with
 |value v=>exact h
 |bind g a=>exact h
 |missing=>exact absurd rfl hr
theorem C8{v:Value}{mA:qae}{expr:Bool}(X:K.In s.heap)(f:XF K C)(hd:(clsIn K C).any (·.hasDict)=true)(he:s.heap.get? e=some oe)(hc:oe.cls=.ref C)(EC:PySem.W.notCls oe=true)(hdx:oe.dict=some dx)(hn:s.heap.Ns1 dx mA)(hv:mA "place"=some v)(hh:PySem.W.handedIn v=true)(h:Q v {s with toks:=s.toks+1}):wpAny (model prog w) A (getAttr (.ref e) "place" expr) Q E s:=by
 obtain⟨oD,es,ep,h1,h2,h3,h4,h5⟩:=id hn;have I:InstAt s.heap e oe C (some oD):=⟨he,hc,EC,by rw[hdx];exact h1⟩;obtain⟨cd,q1,q2⟩:=PySem.W.any_some hd;have lk:lookIn "place" oD=some (some v):=by
  have q:=h5 "place";rw[hv] at q;unfold nsFind findBy at q;unfold lookIn;rw[h2];dsimp only;rw[<- Array.find?_toList] at q;cases z:es.toList.find? (·.key.isStr "place") with
  |none=>rw[z] at q;cases q
  |some en=>rw[z] at q;cases q;rfl
 have hf:findObj K C (some oD) "place"=some (.value v):=by unfold findObj PySem.W.ownOf;rw[q1,QV,f.pl,QV];simp only[QV,q2,if_true,lk]
 unfold getAttr;refine wpAny_bind (wpAny_mkText ?_);refine Mu (s:={s with toks:=s.toks+1}) X f I ?_;refine xR (s:={s with toks:=s.toks+1}) (looks_find X I hf) I (wpAny_pure ?_) (by intro z;cases z);show wpAny _ _ (handedOut v) _ _ _;rw[PySem.W.handedOut_of hh];exact wpAny_pure h
theorem get_cls{Q:(Option Value)->Shared->Prop}(X:K.In s.heap)(f:XF K C)(EO:(clsIn K C).isSome=true)(I:InstAt s.heap e oe C od)(h:Q (some (.ref C)) {s with toks:=s.toks+1}):wpAny (model prog w) A (getAttr? (.ref e) "__class__") Q E s:=by
 have hf:findObj K C od "__class__"=some (.bind (.builtin "getset_descriptor.__get__") (.builtin "object.__class__")):=by obtain⟨cd,hc⟩:=V5.mp EO;unfold findObj;rw[hc,QV,f.cl,QV];simp only[f.cg,QV,f.ct]
 unfold getAttr? getAttrBy?;refine wpAny_bind (wpAny_mkText (wpAny_bind (wpAny_attempt ?_)));refine Mu (s:={s with toks:=s.toks+1}) X f I ?_;refine xR (s:={s with toks:=s.toks+1}) (looks_find X I hf) I ?_ (by intro z;cases z);show wpAny _ _ (holding [_] (call _ [_,.ref e,.ref C]) >>= ret) _ _ _;refine wpAny_bind (wpAny_holding (wpAny_call (PySem.W.class_get (s:={s with toks:=s.toks+1}) X I f.ob ?_)));refine wpAny_pure ?_;show wpAny _ _ (handedOut (.ref C)) _ _ _;exact wpAny_pure (wpAny_pure h)
end
end EX
namespace EX
open PySem PySem.Spec PySem.Calls PyProof.Rows L2 Builtin Builtin.ObjectAttr
open PySem.W (findIn typeIn clsIn subIn mroIn specialIn takesIn looks_findIn looks_typeIn looks_subIn looks_clsIn looks_mroIn looks_find Looks InstAt lookIn findObj kitOne KitX)
section
variable{e:Addr}{oe:Obj}
theorem XC.cls(xc:XC K C tl):∃cd,clsIn K C=some cd/\cd.hasDict=true/\cd.mro=.ref C::(tl.map .ref++Im):=by obtain⟨nm,q,N,bs,sn,sub,ab,col,dd,k0,k1,k2,k3,k5,oK⟩:=xc.obj;exact⟨_,by unfold clsIn;rw[oK],rfl,rfl⟩
theorem Gw(xc:XC K C tl)(f:XF K C):KitX K (.ref e) (.ref C) (λh=>∃oe od,InstAt h e oe C od) where
 ty:=λ_ _ _ ⟨_,_,I⟩=>I.type
 it:=λ_ h X _=>by obtain⟨nm,q,N,bs,sn,sub,ab,col,dd,k0,k1,k2,k3,k5,oK⟩:=xc.obj;intro A' Q' E' s' k q;unfold isType loadHead;exact wpAny_bind (wpAny_loadPart (k _ _ (X _ _ oK)) (wpAny_pure q))
 ne:=λh tp JX aK n sl X htp=>by obtain⟨nm,q,N,bs,sn,sub,ab,col,dd,k0,k1,k2,k3,k5,oK⟩:=xc.obj;refine Bool.eq_false_iff.mpr λz=>?_;have z:C=tp:=Value.ref.inj (beq_iff_eq.mp z);subst z;have z2:=Option.some.inj ((X _ _ oK).symm.trans htp);exact absurd (Value.type.inj (congrArg Obj.cls z2)) (by decide)
 ca:=λX ⟨_,_,I⟩ k=>get_cls X f (by obtain⟨cd,z,_⟩:=xc.cls;rw[z];rfl) I k
variable{s:Shared}{od:Option Obj}
theorem Kz{c:Value}{b:Bool}(X:K.In s.heap)(xc:XC K C tl)(f:XF K C)(I:InstAt s.heap e oe C od)(hk:kitOne K (.ref C) c=some b)(h:∀tk,Q (.bool b) {s with toks:=tk}) :
  wpAny (model prog w) A (call (.builtin "isinstance") [.ref e,c]) Q E s :=
 LL (Gw xc f) X ⟨oe,od,I⟩ hk (by intro z;cases z) h
theorem C9{rest:qag}{vs:Array Value}(X:K.In s.heap)(xc:XC K C tl)(he:s.heap.get? e=some oe)(hc:oe.cls=.ref C)(hd:oe.data=.fields vs){t0:Addr}(h0:vs[0]?=some (.ref t0))(hr:rest.length<=sizeLine)(h:∀h',(∀b o,b≠e->s.heap.get? b=some o->h'.get? b=some o)->h'.get? e=some (oe.mapFields (·.setIfInBounds 0 (.ref s.heap.objs.size)))->Q .none {s with heap:=h'}) :
  wpAny (model prog w) A (call (.builtin "ValueError.__init__") (.ref e::rest)) Q E s:=by
 obtain⟨hp,g,dr,t,os⟩:=s;dsimp only at X he h;obtain⟨nm,q,N,bs,sn,sub,ab,col,dd,k0,k1,k2,k3,k5,oK⟩:=xc.obj;have oC:=X _ _ oK;have T:=lM X xc.tail;have F:=RB;refine wpAny_call (codeAny_call_builtin F.init.plain F.initEntry (wpAny_check_init_subT F T oC he hc ?_));have hz:=(V3.mp h0).1;unfold Builtin.«BaseException.__init__»
 repeat (any_goals (first|with_reducible refine wpAny_field (eD _ he) hd h0 ?_|with_reducible refine wpAny_setField (eD _ he) hd hz ?_|wp_step))
 refine h _ (λb o nb q=>?_) ?_;rw[LI _ _ (Ne.symm nb)];exact eD _ q;rw[M' _ (eD _ he) (Rv (Nb hd _))]
end
section
variable{s:Shared}{e:Addr}{oe:Obj}
theorem t7(self:Value):∀tl:qah,refuseLoop self "__setattr__" (tl.map .ref++Im)=pure ()
 |[]=>F.store_ValueError.passes self
 |a::tl=>by rw[dP,QU,refuseLoop_ref];exact t7 self tl
theorem KA{v:Value}{tk:Tok}{vs:Array Value}{R:Result->Shared->Prop}(X:K.In s.heap)(xc:XC K C tl)(f:XF K C)(he:s.heap.get? e=some oe)(hc:oe.cls=.ref C)(hd:oe.data=.fields vs)(hn:oe.dict=none)(h:∀h' FN,(∀b o,b≠e->s.heap.get? b=some o->h'.get? b=some o)->h'.get? e=some {oe with dict:=some s.heap.objs.size}->h'.Ns1 s.heap.objs.size (λy=>if y="place" then some v else none)->R (.ok (.ret .none)) {s with heap:=h',toks:=FN}) :
  codeAny (model prog w) A (.call (.builtin "object.__setattr__") ⟨[.ref e,.str "place" tk,v],[]⟩) R s:=by
 have SF:=F.store_ValueError;obtain⟨cd,q1,q2,q3⟩:=xc.cls;have I:InstAt s.heap e oe C none:=⟨he,hc,by unfold PySem.W.notCls;rw[hd],by rw[hn];trivial⟩;refine codeAny_call_builtin SF.slot.plain SF.entry (@PySem.W.check_slot (model prog w) _ _ s "object.__setattr__" "object" "__setattr__" (.ref e) [.str "place" tk,v] [] _ SF.kind SF.split (I.type.andThen (looks_mroIn X f.ob)) (SF.args (.ref e) (.str "place" tk) v) ?_);have lm:Looks (model prog w) s.heap (mroOf (.ref C)) cd.mro:=(looks_clsIn X q1).andThen .now;rw[PySem.W.osa_eq,refuse_eq];refine wpAny_bind (wpAny_bind (I.type.here (wpAny_bind (lm.here ?_))));rw[q3,refuseLoop_ref,t7];refine wpAny_pure (wpAny_bind (I.type.here (wpAny_bind ((looks_findIn X f.pl).here (wpAny_bind (wpAny_pure ?_))))));unfold storeInOwnDict;refine wpAny_bind (wpAny_pure (wpAny_bind ?_));show wpAny _ _ (instanceDict e true) _ _ _;unfold instanceDict;obtain⟨oc,odi,oda,AZ⟩:=oe;dsimp only at hc hd hn;subst hc hd hn;refine wpAny_bind (wpAny_loadPart he ?_);dsimp only;refine wpAny_bind ((looks_clsIn X q1).here ?_);rw[q2];obtain⟨hp,g,dr,t,os⟩:=s;dsimp only at X he h;have e1:(hp.push {cls:=.type "dict",data:=.dict #[]}).get? e=some ⟨.ref C,none,.fields vs,AZ⟩:=eD _ he;have ne:e≠hp.objs.size:=iJ (eG he);refine wpAny_bind (wpAny_alloc' (wpAny_bind (wpAny_update' e1 ?_)));refine wpAny_pure ?_;generalize hu:(hp.push {cls:=.type "dict",data:=.dict #[]}).update e (λo=>{o with dict:=some hp.objs.size})=h1;have g1:h1.get? hp.objs.size=some {cls:=.type "dict",data:=.dict #[]}:=by rw[<- hu,Heap.get?_update_ne _ _ _ _ ne.symm];exact Heap.get?_push_at rfl rfl
 have g2:h1.get? e=some ⟨.ref C,some hp.objs.size,.fields vs,AZ⟩:=by rw[<- hu];exact M' _ e1 rfl
 have nd:h1.Ns hp.objs.size (λ_=>none):=⟨_,#[],_,g1,rfl,λa z=>absurd z (by simp),λ_=>rfl⟩;show wpAny _ _ (storeInDict hp.objs.size (.str "place" tk) "place" v) _ _ _;unfold storeInDict newKeyGuard;refine wpAny_bind (wpAny_pure (wpAny_bind (wpAny_nsSet1 (Heap.Ns1.of_empty nd) λh' Nn sb=>?_)));obtain⟨oD,esD,epD,z1,z2,z3⟩:=Nn.count (Within.cons "place" v Within.nil);refine wpAny_bind (wpAny_lookBehind z1 (by rw[z2];exact pastItsLine_dict (mw z3 (by rw[rF,List.length_nil,sizeLine_eq];omega))) ?_);refine wpAny_pure (h h' _ (λb o nb q=>?_) ((sb.2 e ne).trans g2) Nn);have nb2:b≠hp.objs.size:=iJ (eG q);refine (sb.2 b nb2).trans ?_;rw[<- hu,Heap.get?_update_ne _ _ _ _ nb];exact eD _ q
theorem C_{v:Value}{vs:Array Value}{Q:Unit->Shared->Prop}(X:K.In s.heap)(xc:XC K C tl)(f:XF K C)(he:s.heap.get? e=some oe)(hc:oe.cls=.ref C)(hd:oe.data=.fields vs)(hn:oe.dict=none)(h:∀h' FN,(∀b o,b≠e->s.heap.get? b=some o->h'.get? b=some o)->h'.get? e=some {oe with dict:=some s.heap.objs.size}->h'.Ns1 s.heap.objs.size (λy=>if y="place" then some v else none)->Q () {s with heap:=h',toks:=FN}) :
  wpAny (model prog w) A (setAttr (.ref e) "place" v) Q E s:=by
 have I:InstAt s.heap e oe C none:=⟨he,hc,by unfold PySem.W.notCls;rw[hd],by rw[hn];trivial⟩;have L:Looks (model prog w) s.heap (specialOf (.ref e) "__setattr__") (some (.builtin "object.__setattr__")):=I.type.andThen (looks_findIn X f.sa);unfold setAttr callSpecial?;refine wpAny_bind (wpAny_mkText (wpAny_bind (wpAny_bind (L.here (s:={s with toks:=s.toks+1}) (wpAny_holding ?_)))));rw[F.store_ValueError.slot.bind];refine wpAny_bind (wpAny_pure (wpAny_bind ?_));refine wpAny_call (KA (s:={s with toks:=s.toks+1}) (vs:=vs) X xc f he hc hd hn λh' FN k1 k2 k3=>?_);exact wpAny_pure (wpAny_pure (h h' FN k1 k2 k3))
end
end EX
namespace EX
open PySem PySem.Spec PySem.Calls PyProof.Rows L2
open PySem.W (findIn typeIn clsIn subIn mroIn specialIn takesIn looks_findIn Looks InstAt)
theorem KC:∀n:Fin 101,((toString (n.val:Int):String):Str).length<=8:=by decide +kernel
theorem Gx(h:H a=some o):upd H a o=H:=by
 funext b;unfold upd;split
 rename_i z;rw[z,h]
 rfl
section
def ZV(tv:TE):TE:=λσ H Q=>tv σ H λv H1=>∃i:Int,v=.int i/\0<=i/\i<=100/\∀x,Q (.str x) H1
theorem xS{a b:Str}{j1 j2:Nat}{p3:Pos}{value:Expr}{tv:TE}(hv:PE X value tv)(hl:a.length+b.length<=1000:=by decide +kernel) :
  PE X (.JoinedStr [.Constant (.str a) j1 p1,.FormattedValue value (-1) none p2,.Constant (.str b) j2 p3] p) (ZV tv):=by
 intro pins s σ H Q I h;refine wpAny_JoinedStr ?_;show Joins _ _ _ [eval (.Constant (.str a) j1 p1) X.env,eval (.FormattedValue value (-1) none p2) X.env,eval (.Constant (.str b) j2 p3) X.env] _ _ _;refine Calls.Constant_str ⟨a,_,rfl,?_,?_⟩;rw[strLen_append];rw[sizeLine_eq];show (0:Nat)+_<=_;omega;refine wpAny_FormattedValue_plain (cm (hv pins _ σ H _ (I.tok _) h) λu s1 ⟨v,H1,I1,r,i,ev,h0,h1,q⟩=>?_);subst ev;obtain⟨t,rfl⟩:=r;have Yi:i.natAbs.log2<1920:=by
  have:i.natAbs<=100:=by omega
  exact Nat.lt_of_le_of_lt (Nat.log2_le_self _) (by omega)
 have hi:((toString i:String):Str).length<=8:=by have:=KC ⟨i.toNat,by omega⟩;rw[show ((i.toNat:Nat):Int)=i from Int.toNat_of_nonneg h0] at this;exact this
 refine wpAny_formatField_int Yi ⟨_,_,rfl,?_,?_⟩;rw[strLen_append,strLen_append,sizeLine_eq];show (0:Nat)+_+_<=_;omega;refine Calls.Constant_str ⟨b,_,rfl,?_,?_⟩;rw[strLen_append,strLen_append,strLen_append,sizeLine_eq];show (0:Nat)+_+_+_<=_;omega;refine⟨?_,.str _,H1,I1.tok _,⟨_,rfl⟩,q _⟩;rw[strLen_append,strLen_append,strLen_append,sizeLine_eq];show (0:Nat)+_+_+_<=_;omega
end
noncomputable abbrev ZW(C:Addr)(dd:qar)(t:Addr):Obj:=⟨.ref C,dd,.fields #[.ref t,.none,.none,.none,.bool false,.none],#[]⟩
def wt(C e:Addr)(dd:qar):Heap->Prop:=λh=>∃t,h.get? e=some (ZW C dd t)
theorem By{e t:Addr}(q:h.get? e=some (ZW C dd t)):b_ P w H h e (.ext (wt C e dd)) :=
 ⟨⟨t,q⟩,⟨_,q⟩,λ_ _ ⟨t,a⟩ k=>⟨t,k _ a⟩⟩
structure XS(K:qaf)(S:Addr):Prop where
 ga:specialIn K (.ref S) "__getattribute__"=some (some (.builtin "type.__getattribute__"))
 rd:PySem.W.readsIn K S (.type "type")=true
 fi:PySem.W.findCls K (.ref S) (.type "type") "__init__"=some (.val (.builtin "ValueError.__init__"))
theorem lN{fs ex:qah}{H1:Hp}(u:Un fs ex H H1 h h')(n:H1 a=none)(f:h.get? a=none):Un fs ex H (upd H1 a o) h h' where
 keep:=u.keep
 slot:=u.slot
 free:=λb ob q z x=>by rw[aH (λe=>by subst e;rw[f] at q;cases q)];exact u.free b ob q z x
 there:=u.there
 kH:=λb xs q=>by have:=u.kH b xs q;rw[aH (bf this n)];exact this
 j7:=λb ob xs q=>by have:=u.j7 b ob xs q;rw[aH (bf this n)];exact this
 kJ:=λb ps q=>by obtain⟨m,this⟩:=u.kJ b ps q;exact⟨m,by rw[aH (bf this n)];exact this⟩
theorem jD(ok:jL P w H h)(n:H a=none)(new:b_ P w (upd H a o) h a o):jL P w (upd H a o) h:=λb u q=>by by_cases e:b=a;subst e;rw[aY] at q;cases q;exact new;rw[aH e] at q;exact (ok b u q).ot (λ_ _ _ z=>z) (λc z=>by rw[aH (bf z n)];exact z) λc xs z=>by rw[aH (bf z n)];exact z
section
def PJ(C:Addr)(ta:TA):TE:=λσ H Q=>ta σ H λvs H1=>∃e x,vs=[.ref e,.str x]/\H1 e=some (.ext (wt C e none))/\Q .bR H1
theorem lQ{e0:Expr}{ta:TA}(xs:XS X.K S)(hg:Gl X x)(hm:X.mg x=some (.ref S))(xc:XC X.K C tl)(ha:PA X (e0::es) ta)(hd:fW x:=by decide){pl:Sem Bool}(ht:eval (.Call (.Attribute (.Name x p1) "__init__" p2) (e0::es) [] pos) X.env=(do
   let ov <- eval (.Name x p1) X.env
   standAt p2.atName
   let (f,first) <- holding [ov] (getMethod ov "__init__" pl)
   callWith pos f first (backTo pos (starEach (e0::es) X.env)) (backToKw pos (keywordEach [] X.env))):=by rfl)(AW:starEach (e0::es) X.env=(false,eval e0 X.env)::starEach es X.env:=by rfl)(fz:(backTo pos (starEach es X.env)).any (·.1)=false:=by rfl) :
  PE X (.Call (.Attribute (.Name x p1) "__init__" p2) (e0::es) [] pos) (PJ C ta):=by
 intro pins s σ H Q I h;refine PySem.W.methodCall_KW (pl:=pl) (ie I hg hm ?_ hd) ht;refine PySem.W.method_cls I.jS xs.ga (PySem.W.cls_value I.jS xs.rd xs.fi (by decide +kernel) ?_);refine callWith_builtin1 (cm (ha pos pins _ σ H _ (I.tok _) h) λus s1 ⟨vs,H1,I1,r,e,y,ev,eh,q⟩=>?_) AW fz;subst ev;obtain⟨u1,r1,rfl,z1,r⟩:∃u1 r1,us=u1::r1/\RelV (.ref e) u1/\Vals [.str y] r1:=by cases r with|cons a b=>exact⟨_,_,rfl,a,b⟩
 obtain⟨u2,r2,rfl,z2,r⟩:∃u1 r2,r1=u1::r2/\RelV (.str y) u1/\Vals [] r2:=by cases r with|cons a b=>exact⟨_,_,rfl,a,b⟩
 cases r;obtain rfl:u1=Value.ref e:=z1;obtain⟨⟨t,oe⟩,_,_⟩:=I1.bG e _ eh;refine C9 I1.jS xc oe rfl rfl rfl (by show (1:Nat)<=sizeLine;rw[sizeLine_eq];omega) λh' k1 k2=>?_;refine⟨.bR,H1,?_,rfl,q⟩;have:=I1.write (o:=.ext (wt C e none)) (h':=h') (t':=s1.toks) (by rw[eh];trivial) (.inl rfl) k1 ⟨_,k2⟩ (By (t:=s1.heap.objs.size) k2);rw[Gx eh] at this;exact this
def sPl(C:Addr)(to tv:TE):TS:=λD σ H=>tv σ H λy H1=>to σ H1 λx H2=>∃e i,y=.int i/\x=.ref e/\H2 e=some (.ext (wt C e none)) /\
 ∀dx,H2 dx=none->dx≠e->D.nx σ (upd (upd H2 e (.ext (wt C e (some dx)))) dx (.xd [("place",.int i)]))
theorem Bz{o value:Expr}{to tv:TE}(xc:XC X.K C tl)(f:XF X.K C)(ho:PE X o to)(hv:PE X value tv)(hs:swapsWith value (some (.Attribute o "place" pos')) pos.line X.env=pure false:=by rfl) :
  PS X (.Assign [.Attribute o "place" pos'] value pos) (sPl C to tv):=by
 intro pins s σ H D I h;refine plainObj_wpAny_Assign_Attribute (cm (hv pins s σ H _ I h) λu s1 ⟨y,H1,I1,ry,q⟩=>cm (ho pins s1 σ H1 _ I1 q) λov s2 ⟨x,H2,I2,rx,e,i,ey,ex,eh,q2⟩=>?_) hs;subst ey ex;obtain rfl:ov=Value.ref e:=rx;obtain⟨t,rfl⟩:=ry;obtain⟨⟨t0,oe⟩,_,_⟩:=I2.bG e _ eh;refine C_ I2.jS xc f oe rfl rfl rfl λh' FN k1 k2 k3=>?_;have ne:s2.heap.objs.size≠e:=Ca (eG oe);have fr:H2 s2.heap.objs.size=none:=I2.bG.fresh (eB _);refine⟨σ,_,?_,q2 s2.heap.objs.size fr ne⟩;have hw:=I2.bG.write (o':=.ext (wt C e (some s2.heap.objs.size))) (h':=h') (e:=e) (by rw[eh];trivial) (.inl rfl) k1 ⟨_,k2⟩ (By (t:=t0) k2);have uw:=Un.write (fs:=X.fs) (ex:=[]) (o:=.ext (wt C e (some s2.heap.objs.size))) (h':=h') (H:=H2) (x:=e) (e:=e) (by rw[eh];trivial) (.inl rfl) k1 ⟨_,k2⟩;have n1:upd H2 e (.ext (wt C e (some s2.heap.objs.size))) s2.heap.objs.size=none:=by rw[aH ne];exact fr
 refine I2.un (t':=FN) (lN uw n1 (Ry (eB _))) (jD hw n1 ⟨_,k3,λy=>?_⟩);by_cases z:y="place";subst z;show mx (some (V.int i)) (some (Value.int i t));exact⟨t,rfl⟩;show mx (List.lookup y [("place",V.int i)]) _;rw[if_neg z,Iv,beq_eq_false_iff_ne.mpr z];trivial
end
end EX
namespace EX
open PySem PySem.Spec PySem.Calls PyProof.Rows L2
open PySem.W (findIn typeIn Looks InstAt)
def BA(P:Program)(w:World):AY:=λouter H s E v s'=>∃e C dd T H',v=.ref e/\s'.os=s.os/\AllBare s'.gens/\Un (kK outer) [] H H' s.heap s'.heap/\jL P w H' s'.heap/\Flt s'.heap e C dd (some T) .none /\
 s.heap.get? e=none/\s.heap.get? T=none/\H' e=none/\H' T=none/\E (.ref C) dd H'
noncomputable def del(H:Hp)(e:Addr):Hp:=λb=>if b=e then none else H b
theorem lU{e:Addr}:del H e e=none:=by unfold del;rw[if_pos rfl]
theorem gK{e b:Addr}(h:b≠e):del H e b=H b:=by unfold del;rw[if_neg h]
theorem PK{fs ex:qah}{e:Addr}{φ:Heap->Prop}(q:H e=some (.ext φ)):Un fs ex H (del H e) h h where
 keep:=λ_ _ z _ _ _=>z
 slot:=λb o z _ _ _=>⟨o.slots,z⟩
 free:=λb o _ z _=>by by_cases y:b=e;rw[y];exact lU;rw[gK y];exact z
 there:=λb o z _=>⟨o,z⟩
 kH:=λb xs z=>by rw[gK (λy=>by rw[y,q] at z;cases z)];exact z
 j7:=λb o u z=>by rw[gK (λy=>by rw[y,q] at z;cases z)];exact z
 kJ:=λb ps z=>⟨#[],by rw[gK (λy=>by rw[y,q] at z;cases z),z];simp⟩
theorem KD{e:Addr}{φ:Heap->Prop}(ok:jL P w H h)(q:H e=some (.ext φ)):jL P w (del H e) h:=λb u z=>by
 have n:b≠e:=λy=>by rw[y,lU] at z;cases z
 rw[gK n] at z;exact (ok b u z).ot (λ_ _ _ y=>y) (λc y=>by rw[gK (λx=>by rw[x,q] at y;cases y)];exact y) λc xs y=>by rw[gK (λx=>by rw[x,q] at y;cases y)];exact y
theorem KG{e:Addr}(q:wt C e dd h):Flt h e C dd none .none:=let ⟨t,a⟩:=q;⟨_,_,a,rfl,rfl,rfl,by simp,rfl⟩
theorem ji(x:b_ P w H h a o):∃u,h.get? a=some u:=by
 cases o with
 |lst xs=>obtain⟨_,_,_,_,e⟩:=x;exact⟨_,e⟩
 |tup xs=>obtain⟨_,_,_,_,e,_⟩:=x;exact⟨_,e⟩
 |dK bE=>obtain⟨_,_,_,_,o,_,_,e,_⟩:=x;exact⟨_,e⟩
 |dT bE=>obtain⟨_,_,_,_,o,_,_,e,_⟩:=x;exact⟨_,e⟩
 |set S n=>obtain⟨o,_,_,_,e,_⟩:=x;exact⟨_,e⟩
 |ins C dx fs=>obtain⟨_,_,_,e,_⟩:=x;exact⟨_,e⟩
 |own y=>exact x
 |xd fs=>obtain⟨_,⟨_,_,_,e,_⟩,_⟩:=x;exact⟨_,e⟩
 |U5 lo hi=>obtain⟨_,_,_,e⟩:=x;exact⟨_,e⟩
 |yP ob u=>exact⟨_,x.1⟩
 |LN ps=>exact⟨_,show h.get? a=some _ from x⟩
 |met f y=>exact⟨_,show h.get? a=some _ from x⟩
 |ext φ=>exact x.2.1
theorem PL{N:qai}{cd:Value}{outer:List Env}{s:Shared}{E:XK}{σ:L2.St}{e:Addr}{T:qar}(I:Inv (fE (BA P w) P w K mg base N qual scope f cd A outer s H E) pins σ H' s')(F:Flt s'.heap e C dd T .none)(he:H' e=none)(hT:∀a,T=some a->H' a=none)(ne:s.heap.get? e=none)(nT:∀a,T=some a->s.heap.get? a=none)(hE:E (.ref C) dd H'):(fE (BA P w) P w K mg base N qual scope f cd A outer s H E).xe (.ref e) s':=by
 have st:=I.stack;have fr:=I.oR;have Il:=I.ok.frames;have nf:=F.IA st;refine Gv Il st rfl F λh2 T2 F2 n2 k=>?_;have lt:∀b o,s.heap.get? b=some o->b≠s.heap.objs.size:=λb o q=>iJ (eG q);have cn:∀b o,s.heap.get? b=some o->b≠e/\T≠some b:=λb o q=>⟨λz=>by (rw[z,ne] at q;cases q),λz=>by (rw[nT b z] at q;cases q)⟩;have Vv:∀b,b∈kK (envOfC qual scope s.heap.objs.size f cd::outer)->b=s.heap.objs.size\/b∈kK outer:=λb hb=>by
  rcases bL.mp (show b∈s.heap.objs.size::kK outer from hb) with z|z
  exact .inl z;exact .inr z
 have u:Un (kK outer) [] H H' s.heap s'.heap:=I.base;have hk:∀b u,H' b=some u->b≠e/\T≠some b/\b∉kK (envOfC qual scope s.heap.objs.size f cd::outer):=λb u z=>⟨λy=>by (rw[y,he] at z;cases z),λy=>by (rw[hT b y] at z;cases z),λy=>by (rw[fr b y] at z;cases z)⟩;refine⟨e,C,dd,T2,H',rfl,I.os,I.bare,⟨λb o q n Vw _=>?_,λb o q n Vw _=>?_,λb o q n _=>u.free b o q n (by simp),λb o q _=>?_,u.kH,u.j7,u.kJ⟩,λb u z=>?_,F2,ne,?_,he,?_,hE⟩;exact k.keep b o (u.keep b o q n Vw (by simp)) (cn b o q).1 (cn b o q).2 λz=>(Vv b z).elim (lt b o q) Vw;obtain⟨sl,q1⟩:=u.slot b o q n Vw (by simp);obtain⟨A0,q2⟩:=k.any q1 (cn b o q).1 (cn b o q).2;exact⟨A0,q2⟩;obtain⟨o1,q1⟩:=u.there b o q (by simp);obtain⟨sl,q2⟩:=k.any q1 (cn b o q).1 (cn b o q).2;exact⟨_,q2⟩;refine (I.bG b u z).ot (λc v hc q=>?_) (λ_ y=>y) λ_ _ y=>y;have hh:∃u,H' c=some u:=by
  obtain y|y:=hc
  exact⟨u,by rw[y];exact z⟩;exact⟨_,y⟩
 obtain⟨u',y⟩:=hh;obtain⟨n1,n2',n3⟩:=hk c u' y;exact k.keep c v q n1 n2' n3;cases q:s.heap.get? T2 with
 |none=>rfl
 |some o=>obtain⟨o1,q1⟩:=u.there T2 o q (by simp);rw[n2] at q1;cases q1
 cases q:H' T2 with
 |none=>rfl
 |some o=>obtain⟨o1,q1⟩:=ji (I.bG T2 o q);rw[n2] at q1;cases q1
def spI(C:Addr):Sp:=λvs H Q _=>∃e i,vs=[.ref e,.int i]/\0<=i/\i<=100/\H e=some (.ext (wt C e none)) /\
 ∀dx,H dx=none->dx≠e->Q .bR (upd (upd H e (.ext (wt C e (some dx)))) dx (.xd [("place",.int i)]))
structure XP(P:Program)(w:World)(K:qaf)(mg:qae)(base:Heap)(x:Str)(C:Addr)(k:Nat):Prop where
 m:mg x=some (.ref C)
 kp:PySem.W.keepIn K (.ref C)=true
 xc:∃tl,XC K C tl
 init:∃fI fd,findIn K (.ref C) "__init__"=some (some (.ref fI))/\typeIn K (.ref fI)=some (.type "function")/\Binds K fd qay []/\eM P w K mg base kU k fI fd qay (spI C)
section
variable{k:Nat}
def Yj(C:Addr)(t:TA):TE:=λσ H Q=>t σ H λvs H1=>∃i,vs=[.int i]/\0<=i/\i<=100/\∀e dx,H1 e=none->H1 dx=none->dx≠e->Q (.ref e) (upd (upd H1 e (.ext (wt C e (some dx)))) dx (.xd [("place",.int i)]))
theorem PM{a:Expr}{t:TA}(xp:XP X.prog X.w X.K X.mg X.base x C k)(hr:bM (k+1) X.A)(hg:Gl X x)(ha:PA X (a::es) t)(kP:fW x:=by decide)(he:starEach (a::es) X.env=(false,eval a X.env)::starEach es X.env:=by rfl)(fz:(backTo pos (starEach es X.env)).any (·.1)=false:=by rfl):PE X (.Call (.Name x p) (a::es) [] pos) (Yj C t):=by
 intro pins s σ H Q I h;obtain⟨tl,xc⟩:=xp.xc;obtain⟨fI,fd,hi,ht,hb,F⟩:=xp.init;refine wpAny_Call_Name_kw (ie I hg xp.m ?_ kP);refine RD (h₀:=X.base) I.ok.mod.Nl xp.kp (cm (ha pos pins s σ H _ I h) λus s1 ⟨vs,H1,I1,r,i,ev,h0,h1,q⟩=>⟨I1.jS,?_⟩) he fz;subst ev;obtain⟨u1,r1,rfl,z1,r⟩:∃u1 r1,us=u1::r1/\RelV (.int i) u1/\Vals [] r1:=by cases r with|cons a b=>exact⟨_,_,rfl,a,b⟩
 cases r;refine C7 (g:=s1.gens) (d:=s1.drawn) (t:=s1.toks) (os:=s1.os) I1.jS xc hi ht (λh' e hm=>?_) (by show (1:Nat)<=sizeLine;rw[sizeLine_eq];omega);obtain⟨t0,PH,_,_⟩:=hm.there;have n1:H1 e=none:=by
  cases q:H1 e with
  |none=>rfl
  |some o=>obtain⟨u,z⟩:=ji (I1.bG e o q);rw[hm.new] at z;cases z
 have I2:Inv X pins σ (upd H1 e (.ext (wt C e none))) {s1 with heap:=h'}:=I1.un (t':=s1.toks) (lN (Un.kept hm.keeps) n1 hm.new) (jD (I1.bG.kept hm.keeps) n1 (By PH));have r2:Vals [V.ref e,.int i] [Value.ref e,u1]:=.cons rfl (.cons z1 .nil);refine wpAny_call (codeAny_mono (F.run _ X.stack _ _ ⟨[Value.ref e,u1],[]⟩ [Value.ref e,u1] _ (λv H2=>v=.bR/\Q (.ref e) H2) E0 (hr.make C [u1] []) (I2.NV.make C [u1] []) (hb _ [Value.ref e,u1] I2.jS rfl) r2 ⟨e,i,rfl,h0,h1,aY,λdx d1 d2=>⟨rfl,?_⟩⟩) λr s' hq=>?_);have d3:H1 dx=none:=by rw[aH d2] at d1;exact d1
 have:=q e dx n1 d3 d2;rw[Iw];exact this;cases r with
 |error e=>exact False.elim hq
 |ok fl=>
  cases fl with
  |ret u=>obtain⟨v,H2,I3,rv,rfl,q2⟩:=I2.after hq;refine⟨?_,.ref e,H2,I3,rfl,q2⟩;exact rv
  |_=>exact False.elim hq
noncomputable def PN(X:Cx)(te:TE):TS:=λ_ σ H=>te σ H λv H1=>∃e C dd tl,v=.ref e/\XC X.K C tl/\H1 e=some (.ext (wt C e dd)) /\
 ∀pins s,Inv X pins σ H1 s->Inv X pins σ (del H1 e) s->Flt s.heap e C dd none .none->X.xe (.ref e) s
theorem xT(hc:X.calm=true)(he:PE X e te):PS X (.Raise (some e) none pos) (PN X te):=by
 intro pins s σ H D I h;rw[arm_exec_Raise];refine wpAny_bind (wpAny_standAt ?_);unfold raiseStmt;refine wpAny_bind (wpAny_bind (cm (he pins s σ H _ I h) λv s1 ⟨x,H1,I1,r,e,C,dd,tl,ex,xc,eh,q⟩=>?_));subst ex;obtain rfl:v=Value.ref e:=r;have hh:=I1.ok.hd hc;obtain⟨nm,q',N,bs,sn,sub,ab,col,JX,k0,k1,k2,k3,k5,oK⟩:=xc.obj;have oC:=I1.jS _ _ oK;obtain⟨⟨t,oe⟩,_,_⟩:=I1.bG e _ eh;have hE:X.xe (.ref e) s1:=q pins s1 I1 (I1.un (t':=s1.toks) (PK eh) (KD I1.bG eh)) (KG ⟨t,oe⟩);have hcB:(Value.ref C::(tl.map Value.ref++Im)).contains (.type "BaseException")=true:=by simp
 obtain⟨hp,g,dr,tk,os⟩:=s1
 repeat (first|with_reducible refine wpAny_loadPart_at oe ?_|with_reducible refine wpAny_loadPart_at oC ?_|(with_reducible refine wpAny_isSubtype_exc oC ?_;rw[hcB])|wp_step)
 exact wpAny_raiseNew_none hh hE
end
end EX
namespace EX
open PySem PySem.Spec PySem.Calls PyProof.Rows L2 VT
abbrev WT:=Addr->Option Int->Prop
def KH(H:Hp)(dd:qar):Option Int->Prop
 |none=>dd=none
 |some i=>∃d,dd=some d/\H d=some (.xd [("place",.int i)])
def zU(K:qaf)(n:Nat)(G:WT->qaj->(qam)->Prop):Sp:=λvs H Q E=>∃W,cy K n (G W) vs H Q E/\∀C p dd H',aL H H'->KH H' dd p->W C p->E (.ref C) dd H'
structure PQ(X:Cx)(Z:Zc)(W:WT):Prop where
 calm:X.calm=true
 own:PassesOwn (model X.prog X.w) X.A X.env X.xe
 P0:Z.P=[]
 H0:Z.H0=X.H₀
 ex:X.ex=[]
 xe:∀pins σ H s e C dd T p,Inv X pins σ H s->Flt s.heap e C dd T .none->H e=none->(∀a,T=some a->H a=none)->X.s₀.heap.get? e=none->(∀a,T=some a->X.s₀.heap.get? a=none)->aL Z.H0 H->KH H dd p->W C p->X.xe (.ref e) s
theorem qB{tm:qab}{σ:L2.St}(h:Z.P=[])(I:aw K Z tm O ρ σ H):aL Z.H0 H:=λb o e=>I.keep b o e (by rw[h];simp)
section
variable{W:WT}{k:Nat}
def PR(W:WT)(C:Addr)(g:FA):FS:=λ_ ρ=>g ρ λts=>∃i:Int,ts=[.int i]/\0<=i/\i<=100/\W C (some i)
theorem gi{a:Expr}{np:Pos}(hw:PQ X Z W)(xp:XP X.prog X.w X.K X.mg X.base x C k)(hr:bM (k+1) X.A)(hg:Gl X x)(ha:VA X Z [a] g)(kP:fW x:=by decide)(he:starEach [a] X.env=(false,eval a X.env)::starEach [] X.env:=by rfl)(fz:(backTo aT (starEach [] X.env)).any (·.1)=false:=by rfl) :
  VS X Z (.Raise (some (.Call (.Name x np) [a] [] aT)) none pos) (PR W C g):=.mk λtm=>PS.weak (xT hw.calm (PM xp hr hg (ha tm) kP he fz)) λD σ H ⟨ρ,O,d,I,q,F⟩ =>
 ⟨ρ,O,_,I,q,λts ⟨i,ets,h0,h1,hW⟩ vs H1 s1 a1=>by
   subst ets;simp only[aB,At] at a1;obtain⟨v,r,rfl,rfl,rfl⟩:=a1;refine⟨i,rfl,h0,h1,λe dx n1 n2 n3=>?_⟩;obtain⟨tl,xc⟩:=xp.xc;have eu:upd (upd H1 e (.ext (wt C e (some dx)))) dx (.xd [("place",.int i)]) e=some (.ext (wt C e (some dx))):=by rw[aH (Ne.symm n3),aY]
   refine⟨e,C,some dx,tl,rfl,xc,eu,λpins s J J2 fl=>?_⟩;have sm:aL Z.H0 H1:=(qB hw.P0 I).trans s1;have z0:Z.H0 e=none:=sm.free n1;refine hw.xe pins σ _ s e C (some dx) none (some i) J2 fl lU (λ_ z=>nomatch z) ?_ (λ_ z=>nomatch z) (λb o z=>?_) ⟨dx,rfl,by rw[gK n3,aY]⟩ hW;cases q2:X.s₀.heap.get? e with
   |none=>rfl
   |some o=>have:=J.base.free e o q2 (by rw[<- hw.H0];exact z0) (by rw[hw.ex];simp);rw[eu] at this;cases this
   have z1:=sm b o z;have b1:b≠e:=λy=>by rw[y,n1] at z1;cases z1
   have b2:b≠dx:=λy=>by rw[y,n2] at z1;cases z1
   rw[gK b1,aH b2,aH b1];exact z1⟩
theorem Mv(hw:PQ X Z W):Passes (BA X.prog X.w) X (λc dd H'=>∃C p,c=.ref C/\aL Z.H0 H'/\KH H' dd p/\W C p):=by
 rintro pins σ H s _ s' I ⟨e,C,dd,T,H',rfl,os,bare,un,bG,fl,n1,n2,n3,n4,C',p,eC,sm,pl,hW⟩;cases eC;have J:=I.Eh os un bG bare λb z=>nomatch z;have fr:∀a,s.heap.get? a=none->X.s₀.heap.get? a=none:=λa z=>by
  cases q:X.s₀.heap.get? a with
  |none=>rfl
  |some o=>obtain⟨o',q'⟩:=I.base.there a o q (by rw[hw.ex];simp);rw[z] at q';cases q'
 exact hw.xe pins σ H' s' e C dd (some T) p J fl n3 (λa z=>by cases z;exact n4) (fr e n1) (λa z=>by cases z;exact fr _ n2) sm pl hW
def PU(n:Nat)(g:FA)(G:WT->qaj->(qam)->Prop)(W:WT):FS:=λd ρ=>g ρ λts=>ts.length=n/\∃W',(∀C p,W' C p->W C p)/\G W' ts λr=>r=.vw .bR/\d.nx ρ
theorem qC{G:WT->qaj->(qam)->Prop}(hw:PQ X Z W)(F:eM X.prog X.w X.K X.mg X.base (BA X.prog X.w) k f fd ps (zU X.K n G))(hr:bM k X.A)(hg:Gl X x)(hm:X.mg x=some (.ref f))(hk:PySem.W.keepIn X.K (.ref f)=true)(hb:Binds X.K fd ps [])(ha:EU X Z (e::es) g)(kP:fW x:=by decide)(he:starEach (e::es) X.env=(false,eval e X.env)::starEach es X.env:=by rfl)(fz:(backTo pos (starEach es X.env)).any (·.1)=false:=by rfl)(hs:swapsWith (.Call (.Name x p) (e::es) [] pos) none pos'.line X.env=pure false:=by rfl) :
  VS X Z (.Expr (.Call (.Name x p) (e::es) [] pos) pos') (PU n g G W):=.mk λtm=>PS.weak (jx (kO F hr hg hm hk hb .nil (Mv hw) (ha tm) kP he fz) hs) λD σ H ⟨ρ,O,d,I,q,F⟩ =>
 ⟨ρ,O,_,I,q,λts ⟨hn,W',sub,hG⟩ vs H1 s1 a1=>by have J:=I.same s1;have sm:aL Z.H0 H1:=(qB hw.P0 I).trans s1;have a2:aB X.K H1 [] ts vs:=aB.iff.mpr (Paired.pj a1 λ_ _ z=>z.bare);show zU X.K n G (vs++[]) H1 _ _;rw[HV];refine⟨W',⟨ts,[],[],λ_ r=>r=.vw .bR/\d.nx ρ,QX,λ_ z=>absurd z cq,λ_ z=>absurd z cq,eS hn a2,hG,λus r ⟨hr,hd⟩ v H' fr z=>?_⟩,λC p dd H' s2 pl w=>⟨C,p,rfl,sm.trans s2,pl,sub C p w⟩⟩;subst hr;have s2:aL H1 H':=λb o e=>fr b o e cq;exact F.nx O ρ σ H' (J.same s2) hd⟩
end
section
def sr(P:Program)(w:World)(K:qaf)(mg:qae)(base:Heap)(x:Str)(ps:qai)(k:Nat)(sp:Sp):Prop :=
 ∃f fd,mg x=some (.ref f)/\PySem.W.keepIn K (.ref f)=true/\Binds K fd ps []/\eM P w K mg base (BA P w) k f fd ps sp
theorem ZX:∀n (as:qah) k,pz (List.replicate n false) as k=[]
 |0,_,_=>rfl
 |n+1,as,k=>ZX n as (k+1)
theorem Mw:∀n (ρ:En),mQ (List.replicate n false) ρ=[]
 |0,_=>rfl
 |n+1,ρ=>Mw n ρ.tail
theorem TZ:∀n (ts:qaj),ts.length=n->uP (List.replicate n false) ts=ts.map λt=>some (t,false)
 |0,ts,e=>by cases ts<;>simp_all [uP]
 |n+1,[],e=>by simp at e
 |n+1,t::ts,e=>by rw[AO,uP,TZ n ts (by simpa using e)];rfl
theorem ZY:∀{n:Nat}{H:Hp}{A as:qah}{ts:qaj}{vs:qak},fG K H A (List.replicate n false) as ts vs->as=[]
 |0,_,_,_,_,_,h=>h.1
 |n+1,_,_,_,_,_,h=>let ⟨_,_,_,_,_,_,_,h⟩:=h;ZY (n:=n) h
theorem T1{N:qai}{k:Nat}{G:WT->qaj->(qam)->Prop}(F:Ic K x qual st f fd)(S:aJ N ps (ak st))(hn:n=ps.length)(kQ:∀(bS:Value) (A:Around) (outer:List Env) (s:Shared) (H:Hp) (E:XK) (Ox:qah),bM k (A.deeper (envOfC qual (ak st) s.heap.objs.size f bS))->∀W ts q,G W ts q->PQ (fE (BA P w) P w K mg base N qual (ak st) f bS A outer s H E) ⟨H,[],Ox⟩ W ->
    ∃g,i7 (fE (BA P w) P w K mg base N qual (ak st) f bS A outer s H E) ⟨H,[],Ox⟩ (cK st) g/\(ts.length=n->g {nx:=λ_=>q (.vw .bR),rt:=λ_ r=>q r} (ts.map (λt=>some (t,false))++List.replicate (N.length-ts.length) none))) :
  eM P w K mg base (BA P w) (k+1) f fd ps (zU K n G):=by
 obtain⟨oc,od,kV,doc,pm,an,bS,ct,AZ,rfl,lk,gM⟩:=F.ex;refine LX lk gM S (λvs H Q E h=>?_) λA outer s H vs Q E hr LY=>?_;obtain⟨W,⟨ts,as,Ox,q,_,_,_,ha,_⟩,_⟩:=h;rw[(f6 ha).2.1,DV,hn];obtain⟨W,⟨ts,as,Ox,q,nd,nx,ox,ha,hG,kk⟩,hE⟩:=LY;have l1:=(f6 ha).1;rw[DV] at l1;have e0:=ZY ha;subst e0;have hw:PQ (fE (BA P w) P w K mg base N qual (ak st) f bS A outer s H E) ⟨H,[],Ox⟩ W :=
  ⟨rfl,PassesOwn.leaving,rfl,rfl,rfl,λpins σ H' s' e C dd T p I fl h1 h2 h3 h4 sm pl w=>PL I fl h1 h2 h3 h4 (hE C p dd H' sm pl w)⟩
 obtain⟨g,h1,h2⟩:=kQ bS A outer s H E Ox hr W ts (q []) hG hw;refine⟨_,h1 [],?_⟩;have:=wV (X:=fE (BA P w) P w K mg base N qual (ak st) f bS A outer s H E) (N:=N) (g:=g) nd nx ox ha kk (by rw[TZ n ts l1];simp only[Mw];exact h2 l1)
 rw[ZX] at this;exact this
end
end EX
variable{G:EX.WT->qaj->(qam)->Prop}
namespace KI
open PySem L2 VT Gen rR EX dj
noncomputable abbrev gj:Stmt:=top 33
noncomputable abbrev gL:Stmt:=top 36
noncomputable abbrev kq:Stmt:=top 38
def Mx(ts:qaj)(q:qam):Prop:=∃(rs:qal)(i:Nat)(x f:Str)(as:List oE),ts=[.lst (rs.map bw),PD (bh rs rs.length),.int (i:Int)]/\rs[i]?=some (Rw.call x f as)/\q (.vw (.bl (sj rs i f as)))
def xU(cB:Addr)(W:WT)(ts:qaj)(q:qam):Prop:=∃rs:qal,ts=[.lst (rs.map bw)]/\rs.length<=60/\(match brk [] rs 0 with|none=>q (.vw .bR)|some i=>W cB (some (i:Int)))
def BB(cC:Addr)(W:WT)(ts:qaj)(q:qam):Prop:=∃rs:qal,ts=[.lst (rs.map bw)]/\rs.length<=60/\(match fM rs with|none=>q (.vw .bR)|some i=>W cC (some (i:Int)))
section
variable{ej fu:Addr}
noncomputable abbrev qD:qai:=["program","opened","place","row"]
theorem iP:aJ qD qax (ak gj):=L2.ij
theorem oM(D:Df K mg "check_blocks" gj qax f fd)(M:Kr w K mg)(iD:XP P w K mg base "NoBlock" ej 1)(xV:cM P w K mg base "may_stand" qaw 1 (cy K 2 TY))(Dc:cM P w K mg base "go_past" qaw 1 (wU K [true,false] ZT)):sr P w K mg base "check_blocks" qax 3 (zU K 1 (xU ej)):=by
 obtain⟨My,KJ,xW,xX,xY,xZ⟩:=xV;obtain⟨Rh,PV,Dd,De,Dg,Dh⟩:=Dc;refine⟨f,fd,D.m,D.F.kp,D.b,T1 D.F iP rfl λbS A outer s H E Ox hr W ts q hG hw=>?_⟩;have nd:=iP.nd;have np:∀{i:Nat},ba ⟨H,[],Ox⟩ i:=mW;refine⟨_,(af (dR (i:=1) nd rfl (Or.inl rfl) (qau (bx aj)) np)
  (af (eQ hw.own rfl (lb (by rfl) M.enumerate (ao 0)) (ke (n:=2) rfl (cj (aX (i:=2) nd rfl (Or.inl rfl) np) (cj (aX (i:=3) nd rfl (Or.inl rfl) np) iu)))
   (af (aS (dA (cp (Fj xZ (hr.mono (by decide)) (by rfl) xW xX xY (aq (ae 1) (aq (qas (bo (ae 3) (qas ag))) au)))))
    (ai (gi hw iD (hr.mono (by decide)) (by rfl) (aa (ao 2) aj)))
    ax)
   (ai (bg (wX Dh (hr.mono (by decide)) (by rfl) Dd De Dg (uR 1 (k8 (qat (bo (ae 3) (qas ag))) Bh)))))))
  (ai (aS (wO (qas (az aD aE (by rfl) M.len iU (aq (ae 1) au))) (qas ag))
   (ai (gi hw iD (hr.mono (by decide)) (by rfl) (aa (qat (az aD aE (by rfl) M.len iU (aq (ae 0) au))) aj)))
   ax)))),λ_=>?_⟩
 obtain⟨rs,rfl,hn,hq⟩:=hG;refine⟨nU _,?_⟩;refine g8 (λi ρ=>∃b2 b3 st,ρ=[some (.lst (rs.map bw),false),some (.lst (st.map .str),true),b2,b3]/\brk [] rs 0=brk st (rs.drop i) i/\st.length<=i) ⟨_,_,[],rfl,rfl,nU _⟩ ?_ ?_;rintro i r ρ hr ⟨b2,b3,st,rfl,hs,hl⟩;have hi:=(gN.mp hr).1;rw[Ku hr] at hs;obtain⟨l,el⟩:=Kj r;rw[el];refine⟨rfl,rfl,_,aG (j:=0) rfl,rfl,st,wd r,rfl,?_⟩;cases hm:dI st (wd r) with
 |false=>
  have e2:brk [] rs 0=some i:=by rw[hs];show (if dI st (wd r)=true then _ else _)=_;rw[hm];rfl
  rw[e2] at hq;exact⟨rfl,(i:Int),rfl,by omega,by omega,hq⟩
 |true=>refine⟨rfl,_,aG (j:=0) rfl,st,wd r,rfl,by omega,hm,?_⟩;have hg:=Kv hm;refine⟨_,_,jg st (wd r),rfl,?_,by omega⟩;rw[hs];show (if dI st (wd r)=true then _ else _)=_;rw[if_pos hm]
 rintro ρ ⟨b2,b3,st,rfl,hs,hl⟩;rw[RG] at hs;have tu:brk [] rs 0=if st=[] then none else some rs.length:=hs
 rw[tu] at hq;by_cases he:st=[];rw[if_pos he] at hq;subst he;exact hq;rw[if_neg he] at hq;have hp:0<st.length:=List.length_pos_iff.mpr he;have PF:((st.map T.str).length:Int)=(st.length:Int):=by rw[bQ]
 refine Gu (c:=decide ((0:Int)<((st.map T.str).length:Int))) (decide_eq_true (by omega)) ?_;have hl3:((rs.map bw).length:Int)=(rs.length:Int):=by rw[bQ]
 exact⟨((rs.map bw).length:Int),rfl,by omega,by omega,by rw[hl3];exact hq⟩
noncomputable abbrev zV:qai:=["program","firsts","place","row","first"]
theorem n8:aJ zV qaz (ak kq):=L2.ij
theorem x4(D:Df K mg "may_call" kq qaz f fd)(M:Kr w K mg):cM P w K mg base "may_call" qaz 1 (cy K 3 Mx):=by
 refine D.lg (mi D.F n8 rfl λbS A outer s H E Ox hr ts q hG=>?_);have nd:=n8.nd;have hu:=bM.iw hr;have np:∀{i:Nat},ba ⟨H,[],Ox⟩ i:=mW;have Q7:=Mn hu;refine⟨_,(af (aM (i:=3) nd rfl (Or.inl rfl) (qau (bo (ae 0) (ae 2))) np)
  (af (aM (i:=4) nd rfl (Or.inl rfl) (qau (Ph Q7 (ae 1) (qas (bo (ae 3) (qas ag))) ⟨rfl,rfl,rfl,rfl⟩)) np)
  (af (aS (VW.vc (gw (tD (ae 4) (qas i5)) (ir (i6 (ae 4) (ae 2)))))
   (ai (ay (qau fL)))
   ax)
  (ai (ay (qau (sZ hu (qas (az aD aE (by rfl) M.len iU (aq (qas (bo (qas (bo (ae 0) (ae 4))) (qas ag))) au))) (qas (az aD aE (by rfl) M.len iU (aq (qas (bo (ae 3) (qas ag))) au)))))))))),λ_=>?_⟩
 obtain⟨rs,i,x,g,as,rfl,hi,hq⟩:=hG;refine⟨_,Bv hi,_,aG (j:=2) rfl,?_⟩;have ex:=zQ (bh rs rs.length) g;dsimp only[Rt.t,FV];rw[ex];cases ha:oJ (bh rs rs.length) g with
 |none=>rw[t5 ha] at hq;exact hq
 |some j=>
  obtain⟨_,ps,hj⟩:=lK rs.length ha;rw[t6 ha hj] at hq;by_cases Oe:j<i;rw[if_pos Oe] at hq;exact Gu (c:=decide ((j:Int)<(i:Int))) (decide_eq_true (by omega)) hq;rw[if_neg Oe] at hq;refine eU (c:=decide ((j:Int)<(i:Int))) (decide_eq_false (by omega)) ?_;refine⟨_,Bv hj,_,aG (j:=2) rfl,_,aG (j:=3) rfl,?_⟩;show q (.vw (.bl (decide (((ps.map T.str).length:Int)=((as.map tO).length:Int)))));rw[bQ,bQ];have e:decide ((ps.length:Int)=(as.length:Int))=decide (ps.length=as.length):=by rw[Nf];simp;omega
  rw[e];exact hq
abbrev su:qai:=["program","firsts","place","row"]
theorem jj:aJ su qax (ak gL):=L2.ij
theorem qF(D:Df K mg "check_calls" gL qax f fd)(M:Kr w K mg)(jE:XP P w K mg base "NoCall" fu 1)(vo:cM P w K mg base "first_defs" qax 1 (cy K 1 Gs))(zW:cM P w K mg base "may_call" qaz 1 (cy K 3 Mx)):sr P w K mg base "check_calls" qax 3 (zU K 1 (BB fu)):=by
 obtain⟨KL,Io,vq,vt,vv,vz⟩:=vo;obtain⟨PX,Mz,zX,zY,zZ,z6⟩:=zW;refine⟨f,fd,D.m,D.F.kp,D.b,T1 D.F jj rfl λbS A outer s H E Ox hr W ts q hG hw=>?_⟩;have nd:=jj.nd;have hu:=bM.iw hr;have np:∀{i:Nat},ba ⟨H,[],Ox⟩ i:=mW;have Q7:=Mn hu;refine⟨_,(af (aM (i:=1) nd rfl (Or.inl rfl) (qau (bu vz (hr.mono (by decide)) (by rfl) vq vt vv (aa (ao 0) aj))) np)
  (ai (eQ hw.own rfl (lb (by rfl) M.enumerate (ao 0)) (ke (n:=2) rfl (cj (aX (i:=2) nd rfl (Or.inl rfl) np) (cj (aX (i:=3) nd rfl (Or.inl rfl) np) iu)))
   (af (aS (VW.vc (eO (bF hu (qas (bo (ae 3) (qas ag))) (qas ah)) (dq (jT hu (qas (Pg Q7 (ae 1) (qas (bo (ae 3) (qas ag))))) (ae 2)))))
    (ai (gi hw jE (hr.mono (by decide)) (by rfl) (aa (ao 2) aj)))
    ax)
   (ai (aS (VW.vc (eO (bF hu (qas (bo (ae 3) (qas ag))) (qas ah)) (dq (dA (cp (bu z6 (hr.mono (by decide)) (by rfl) zX zY zZ (aa (ao 0) (aa (ao 1) (aa (ao 2) aj)))))))))
    (ai (gi hw jE (hr.mono (by decide)) (by rfl) (aa (ao 2) aj)))
    ax)))))),λ_=>?_⟩
 obtain⟨rs,rfl,hn,hq⟩:=hG;refine⟨rfl,rs,rfl,hn,?_⟩;refine g8 (λi ρ=>∃b2 b3,ρ=[some (.lst (rs.map bw),false),some (PD (bh rs rs.length),false),b2,b3]/\∀j<i,de rs j=false) ⟨_,_,rfl,λj hj=>absurd hj (Nat.not_lt_zero _)⟩ ?_ ?_;rintro i r ρ hr ⟨b2,b3,rfl,hp⟩;have hi:=(gN.mp hr).1;have Yk:de rs i=false->∀j<i+1,de rs j=false:=λh j hj=>by
  rcases Nat.lt_succ_iff_lt_or_eq.mp hj with z|z
  exact hp j z;rw[z];exact h
 have bad:de rs i=true->W fu (some (i:Int)):=λh=>by rw[qz hi hp h] at hq;exact hq
 cases r with
 |df g ps=>
  refine⟨rfl,rfl,_,aG (j:=0) rfl,_,aG (j:=1) rfl,?_⟩;have ex:=zQ (bh rs rs.length) g;obtain⟨j,ha⟩:=g9 hr rs.length hi;rw[ha] at ex;refine⟨_,ex,?_⟩;have ew:de rs i=!decide (j=i):=by unfold de;rw[hr];dsimp only;rw[ha];simp
  by_cases ZZ:j=i;refine eU (c:=!decide ((j:Int)=(i:Int))) (by simp;omega) ⟨_,aG (j:=0) rfl,_,_,rfl,Yk (by rw[ew,decide_eq_true ZZ];rfl)⟩;refine Gu (c:=!decide ((j:Int)=(i:Int))) (by simp;omega) ⟨(i:Int),rfl,by omega,by omega,bad (by rw[ew,decide_eq_false ZZ];rfl)⟩
 |call x g as=>
  have ew:de rs i=!sj rs i g as:=by unfold de;rw[hr]
  refine⟨rfl,rfl,_,aG (j:=0) rfl,_,aG (j:=0) rfl,rfl,rs,i,x,g,as,rfl,hr,?_⟩;cases hm:sj rs i g as with
  |true=>exact⟨_,_,rfl,Yk (by rw[ew,hm];rfl)⟩
  |false=>exact⟨(i:Int),rfl,by omega,by omega,bad (by rw[ew,hm];rfl)⟩
 |_=>exact⟨rfl,rfl,_,aG (j:=0) rfl,_,aG (j:=0) rfl,_,_,rfl,Yk (by unfold de;rw[hr])⟩
 rintro ρ ⟨b2,b3,rfl,hp⟩;rw[qA hp] at hq;exact hq
end
end KI
namespace EX
open PySem PySem.Spec PySem.Calls PyProof.Rows L2
open PySem.W (findIn typeIn Looks InstAt)
def PY(C e:Addr)(dd:qar):Heap->Prop:=λh=>∃oe vs,h.get? e=some oe/\oe.cls=.ref C/\oe.dict=dd/\oe.data=.fields vs
section
variable{σ:L2.St}{H1:Hp}{s s1:Shared}{e:Addr}{T:qar}
theorem z7(I1:Inv X pins σ H1 s1)(I:Inv X pins σ H s)(st:X.stack=X.env::X.outer/\X.env.frame=some X.env.locals)(k:Kp (kK X.stack) e T s.heap h')(ne:s1.heap.get? e=none)(nT:∀a,T=some a->s1.heap.get? a=none)(he:H e=none)(hT:∀a,T=some a->H a=none):Inv X pins σ H {s with heap:=h'}:=by
 have MA:∀b o,s1.heap.get? b=some o->b≠e/\T≠some b:=λb o q=>⟨λz=>by (rw[z,ne] at q;cases q),λz=>by (rw[nT b z] at q;cases q)⟩;have Vv:∀b,b∈kK X.stack->b=X.env.locals\/b∈X.fs:=λb hb=>by rw[st.1] at hb;unfold kK at hb;rw[om,st.2] at hb;exact bL.mp hb
 have Yl:∀b o,X.s₀.heap.get? b=some o->b∉X.ex->(b≠e/\T≠some b)/\b≠X.env.locals:=λb o q hx=>by obtain⟨o',q'⟩:=I1.base.there b o q hx;exact⟨MA b o' q',iJ (oq (eG q) I.ok.above)⟩
 have Gy:∀b u,H b=some u->b≠e/\T≠some b/\b∉kK X.stack:=λb u z=>⟨λy=>by (rw[y,he] at z;cases z),λy=>by (rw[hT b y] at z;cases z),λy=>by (rw[I.oR b y] at z;cases z)⟩;have cellK:∀x c v,X.env.cells.lookup x=some c->s.heap.IsCell c v->Heap.IsCell h' c v:=λx c v q ⟨o,ho,hd⟩=>by obtain⟨v1,o1,PZ,_⟩:=I1.cell x c q;obtain⟨n1,n2⟩:=MA c o1 PZ;obtain⟨sl,q2⟩:=k.any ho n1 n2;exact⟨_,q2,hd⟩
 refine⟨I.ok,I.os,I.bare,⟨λb o q n nf hx=>?_,λb o q n nf hx=>?_,I.base.free,λb o q hx=>?_,I.base.kH,I.base.j7,I.base.kJ⟩,?_,λx c q=>?_,I.free,I.fK,λp hp=>?_,λb u z=>?_,I.len⟩;obtain⟨⟨n1,n2⟩,n3⟩:=Yl b o q hx;exact k.keep b o (I.base.keep b o q n nf hx) n1 n2 λz=>(Vv b z).elim n3 nf;obtain⟨⟨n1,n2⟩,n3⟩:=Yl b o q hx;obtain⟨sl,q1⟩:=I.base.slot b o q n nf hx;obtain⟨A0,q2⟩:=k.any q1 n1 n2;exact⟨A0,q2⟩;obtain⟨⟨n1,n2⟩,n3⟩:=Yl b o q hx;obtain⟨o1,q1⟩:=I.base.there b o q hx;obtain⟨A0,q2⟩:=k.any q1 n1 n2;exact⟨_,q2⟩;obtain⟨m,⟨o,es,ep,ho,hd,r⟩,hl⟩:=I.loc;obtain⟨m1,⟨o1,_,_,PZ,_⟩,_⟩:=I1.loc;obtain⟨n1,n2⟩:=MA _ o1 PZ;obtain⟨sl,q⟩:=k.any ho n1 n2;refine⟨m,⟨_,es,ep,q,hd,r⟩,λi x v e1 e2 e3=>?_⟩;obtain⟨u,rv,l⟩:=hl i x v e1 e2 e3;refine⟨u,rv,?_⟩;obtain l|⟨kk,c,q,z⟩:=l
 exact .inl l;exact .inr ⟨kk,c,q,cellK x c _ q z⟩;obtain⟨v,z⟩:=I.cell x c q;exact⟨v,cellK x c v q z⟩;obtain⟨q,n,ne',nf,d⟩:=I.pin p hp;obtain⟨q1,_,_,_,_⟩:=I1.pin p hp;obtain⟨n1,n2⟩:=MA _ _ q1;exact⟨k.keep p.1 p.2 q n1 n2 λz=>(Vv _ z).elim ne' nf,n,ne',nf,d⟩;refine (I.bG b u z).ot (λc v hc q=>?_) (λ_ y=>y) λ_ _ y=>y;have hh:∃u,H c=some u:=by
  obtain y|y:=hc
  exact⟨u,by rw[y];exact z⟩;exact⟨_,y⟩
 obtain⟨u',y⟩:=hh;obtain⟨n1,n2,n3⟩:=Gy c u' y;exact k.keep c v q n1 n2 n3
theorem KN{M:Model}{n:Str}{Q:Unit->Shared->Prop}(I:Inv X pins σ H s)(hN:X.N.Nodup)(hi:X.N[i]?=some n)(hl:X.env.scope.names.lookup n=some .local)(h:∀s',Inv X pins (σ.set i none) H s'->Q () s'):wpAny M A (do bindName X.env n .none;unbindBehindTheSuite X.env n pos) Q E s:=by
 obtain⟨m,hn,hlk⟩:=id I.loc;have Nm:(X.env.scope.kind==.class || (X.env.scope.kind==.module && X.env.locals != X.env.globals))=false:=by rw[I.ok.kind];rfl
 have U8:i<σ.length:=by rw[I.len];exact (gN.mp hi).1
 obtain⟨oL,_,_,Zg,_⟩:=id hn;refine wpAny_nameGoes_keeps hl hn Nm λh' v Nn hs=>h _ ⟨I.ok,I.os,I.bare,⟨λb o q z hb hx=>?_,λb o q z hb hx=>?_,I.base.free,λb o q hx=>?_,I.base.kH,I.base.j7,I.base.kJ⟩,⟨_,Nn,λj y v' e1 e2 e3=>?_⟩,λy c q=>?_,I.free,I.fK,λp hp=>?_,λb ob q=>?_,by simpa using I.len⟩;exact (hs.2 b (iJ (oq (eG q) I.ok.above))).trans (I.base.keep b o q z hb hx);obtain⟨sl,q1⟩:=I.base.slot b o q z hb hx;exact⟨sl,(hs.2 b (iJ (oq (eG q) I.ok.above))).trans q1⟩;obtain⟨o',q1⟩:=I.base.there b o q hx;exact⟨o',(hs.2 b (iJ (oq (eG q) I.ok.above))).trans q1⟩;have hj:j≠i:=λz=>by subst z;rw[yF U8] at e2;cases e2
 rw[uA (Ne.symm hj)] at e2;obtain⟨u',r',q⟩:=hlk j y v' e1 e2 e3;refine⟨u',r',?_⟩;obtain⟨kk,q⟩|⟨kk,c,q,z⟩:=q
 refine .inl ⟨kk,?_⟩;have:y≠n:=λz=>hj (pq hN e1 (z▸hi));simp[this,q];exact .inr ⟨kk,c,q,z.sameBut hs (I.Ef y c q)⟩;obtain⟨w',z⟩:=I.cell y c q;exact⟨w',z.sameBut hs (I.Ef y c q)⟩;obtain⟨q,z,ne,nf,d⟩:=I.pin p hp;exact⟨(hs.2 p.1 ne).trans q,z,ne,nf,d⟩;refine (I.bG b ob q).ot (λc w' hc z=>(hs.2 c ?_).trans z) (λ_ z=>z) λ_ _ z=>z;rintro rfl;obtain y|y:=hc
 rw[<- y,I.free] at q;cases q;rw[I.free] at y;cases y
end
section
variable{s:Shared}{e:Addr}{ts:qah}{oe:Obj}
theorem x5{Q:Bool->Shared->Prop}(X:K.In s.heap)(xc:XC K C tl)(xs:XC K S ts)(hS:C=S\/S∈tl)(he:s.heap.get? e=some oe)(hc:oe.cls=.ref C)(h:Q true s):wpAny (model prog w) A (excMatches (.ref e) (.ref S)) Q E s:=by
 obtain⟨nm,q',N,bs,sn,sub,ab,col,JX,k0,k1,k2,k3,k5,oK⟩:=xc.obj;obtain⟨nmS,qS',NS,bsS,snS,acM,abS,acN,acO,k0S,k1S,k2S,k3S,k5S,oKS⟩:=xs.obj;have oC:=X _ _ oK;have oS:=X _ _ oKS;have f:=tc_notTuple;have c1:(Value.ref S::(ts.map Value.ref++Im)).contains (.type "BaseException")=true:=by simp
 have c2:(Value.ref C::(tl.map Value.ref++Im)).contains (.ref S)=true:=by
  obtain z|z:=hS
  subst z;simp;simp[z]
 obtain⟨hp,g,dr,tk,os⟩:=s;unfold excMatches
 repeat (first|(with_reducible refine wpAny_loadPart_at he ?_;rw[hc])|with_reducible refine wpAny_loadPart_at oS ?_|(with_reducible refine wpAny_isSubtype_exc oS ?_;rw[c1])|(with_reducible refine wpAny_isSubtype_exc oC ?_;rw[c2])|wp_step)
 exact h
end
noncomputable abbrev Ri(X:Cx)(e:Addr):Cx:={X with A:=X.A.mark (some (.ref e)),calm:=false}
theorem T3(ok:X.Ok)(e:Addr):(Ri X e).Ok :=
 ⟨ok.mod,ok.kind,ok.glob,ok.blt,ok.above,ok.inj,ok.has,ok.Q1,(λz=>by cases z),ok.frames,ok.RM,ok.Wj,ok.bs,ok.H_,ok.Ce,ok.Ee,ok.my,ok.LQ⟩
section
variable{σ:L2.St}{s:Shared}
theorem Gz(I:Inv X pins σ H s)(e:Addr):Inv (Ri X e) pins σ H s:=⟨T3 I.ok e,I.os,I.bare,I.base,I.loc,I.cell,I.free,I.fK,I.pin,I.bG,I.len⟩
theorem Di{H1:Hp}{s1:Shared}{e:Addr}(I1:Inv X pins σ H1 s1)(I:Inv X pins σ H s)(ne:s1.heap.get? e=none)(hx:X.ex=[])(n3:H e=none)(new:b_ X.prog X.w (upd H e o) s.heap e o):Inv X pins σ (upd H e o) s:=by
 have MA:∀b u,s1.heap.get? b=some u->b≠e:=λb u q z=>by rw[z,ne] at q;cases q
 have f0:X.s₀.heap.get? e=none:=by
  cases q:X.s₀.heap.get? e with
  |none=>rfl
  |some o=>obtain⟨o',q'⟩:=I1.base.there e o q (by rw[hx];simp);rw[ne] at q';cases q'
 refine⟨I.ok,I.os,I.bare,lN I.base n3 f0,I.loc,I.cell,?_,λx c q=>?_,λp hp=>?_,jD I.bG n3 new,I.len⟩;obtain⟨m1,⟨o1,_,_,PZ,_⟩,_⟩:=I1.loc;rw[aH (MA _ _ PZ)];exact I.free;obtain⟨v1,o1,PZ,_⟩:=I1.cell x c q;rw[aH (MA _ _ PZ)];exact I.fK x c q;obtain⟨q1,_,_,_,_⟩:=I1.pin p hp;obtain⟨q,z,r⟩:=I.pin p hp;exact⟨q,by rw[aH (MA _ _ q1)];exact z,r⟩
theorem GA{e:Addr}(ok:X.Ok)(I:Inv (Ri X e) pins σ H s):Inv X pins σ H s:=⟨ok,I.os,I.bare,I.base,I.loc,I.cell,I.free,I.fK,I.pin,I.bG,I.len⟩
end
end EX
namespace VT
open PySem PySem.Spec PyProof.Rows L2
structure T4(K:qaf)(H H':Hp)(Ox:qah)(us:qaj)(p:Addr)(ls:qah):Prop where
 same:aL H H'
 tup:H' p=some (.tup (ls.map V.ref))
 nd:ls.Nodup
 new:∀a∈ls,H a=none
 rts:Paired (λa t=>cX K H' (ls++Ox) a t) ls us
structure Ym(K:qaf)(Z:Zc)(tm:qab)(d:Jt)(dp:qaj->Prop)(D:Ends):Prop where
 fin:Fin K Z tm d D
 dp:∀us,dp us->∀p ls H',T4 K Z.H0 H' Z.Ox us p ls->D.rt (.ref p) H'
abbrev Vx:=Jt->(qaj->Prop)->En->Prop
def Z0(X:Cx)(Z:Zc)(tm:qab)(g:Vx):TS:=λD σ H=>∃ρ O d dp,aw X.K Z tm O ρ σ H/\g d dp ρ/\Ym X.K Z tm d dp D
def Yn(X:Cx)(Z:Zc)(st:qaq)(g:Vx):Prop:=Bx λtm=>oU X st (Z0 X Z tm g)
instance{X:Cx}{Z:Zc}{st:qaq}{g:Vx}:CoeFun (Yn X Z st g) λ_=>∀tm,oU X st (Z0 X Z tm g):=⟨λh=>Bx.h h⟩
section
variable{k:Nat}{G:qaj->(qaj->Prop)->Prop}
def lD(X:Cx)(Z:Zc)(tm:qab)(f:En->(qaj->Prop)->Prop):TE:=λσ H Q=>∃ρ O q,aw X.K Z tm O ρ σ H/\f ρ q/\∀us,q us->∀p ls H',T4 X.K H H' (av Z O) us p ls->Q (.ref p) H'
def VD(X:Cx)(Z:Zc)(e:Expr)(f:En->(qaj->Prop)->Prop):Prop:=Bx λtm=>PE X e (lD X Z tm f)
instance{X:Cx}{Z:Zc}{e:Expr}{f:En->(qaj->Prop)->Prop}:CoeFun (VD X Z e f) λ_=>∀tm,PE X e (lD X Z tm f):=⟨λh=>Bx.h h⟩
end
section
variable{o:Expr}{fo:FE}
def T5(fo:FE)(g:FA):FP:=λρ Q=>fo ρ λx=>match x with
 |.str z=>g ρ λy=>∃ys:qai,y=[.lst (ys.map .str)]/\(ys.map (·.length)).sum+ys.length * z.length<=16777216/\Q (.vw (.str (Txt.join z ys)))
 |_=>False
theorem x6{K:qaf}{H:Hp}{A:qah}:∀{ys:qai}{vs:qak},aB K H A (ys.map .str) vs->vs=ys.map V.str
 |[],vs,h=>by simpa only[uB,aB] using h
 |y::ys,vs,h=>by simp only[dP,aB,At] at h;obtain⟨v,r,rfl,rfl,h⟩:=h;rw[x6 h];rfl
theorem nD(ho:VR X Z o fo)(he:EU X Z [e] g)(cO:attributeBase o "join" X.env (eval o X.env)=eval o X.env:=by rfl)(ik:((backTo aT (starEach [e] X.env)).all (λx=>!x.1) && (backToKw aT (keywordEach [] X.env)).all (λx=>x.1.isSome)
    && decide (([e]:qap).length+([]:List Keyword).length+(if ([]:List Keyword).isEmpty then 0 else 1)<30))=true:=by rfl)(cP:(apos.endLine==aT.line)=true:=by rfl)(hs:starEach [e] X.env=(false,eval e X.env)::starEach [] X.env:=by rfl)(dz:(backTo aT (starEach [] X.env)).any (·.1)=false:=by rfl) :
  VP X Z (.Call (.Attribute o "join" apos) [e] [] aT) (T5 fo g):=.mk λtm=>
 PE.weak (pF US PySem.F.slot_str_join PySem.F.type_str_join Je (ho tm) (he tm) cO ik cP hs dz) λσ H Q ⟨ρ,O,q,I,hf,k⟩ =>
  ⟨ρ,O,_,I,hf,λx hx v H1 s1 a1=>by
    split at hx
    rename_i z
    have ev:=a1.str;subst ev;refine⟨rfl,ρ,O,_,I.same s1,hx,λy hy w H2 s2 a2=>?_⟩;obtain⟨ys,rfl,hl,hq⟩:=hy;obtain⟨u,rfl,a3⟩:=cb a2;obtain⟨p,vs,rfl,h1,h2⟩:=a3.lst;have ev:=x6 h2;subst ev;exact⟨z,p,ys,rfl,rfl,h1,hl,k _ hq _ H2 (s1.trans s2) ⟨(I.same s1).same s2,bJ⟩⟩;exact hx.elim⟩
end
theorem gk{α:Type}{f u:α->T}{h:FG}{fe:FE}{ρ:En}:∀{xs:List α}{Q:qaj->Prop},(∀x∈xs,∀r:T->Prop,r (u x)->h (f x) ρ λρ2=>fe ρ2 r)->Q (xs.map u)->di h Ff fe ρ (xs.map f) Q
 |[],Q,_,hq=>hq
 |x::xs,Q,step,hq=>by simp only[dP,di];exact step x eE (λy=>di h Ff fe ρ (xs.map f) λus=>Q (y::us)) (gk (Q:=λus=>Q (u x::us)) (λy hy=>step y (fY _ hy)) hq)
theorem kr{α:Type}{f u:α->T}{p:α->Bool}{h:FG}{fc:FB}{fe:FE}{ρ:En}:∀{xs:List α}{Q:qaj->Prop},(∀x∈xs,∀r s:Prop,(if p x=true then ∀k:T->Prop,(k (u x)->r)->r else s)->True)->(∀x∈xs,∀(k:T->Prop)(s:Prop),(if p x=true then k (u x) else s)->h (f x) ρ λρ2=>fc ρ2 λb=>if b=true then fe ρ2 k else s)->Q ((xs.filter p).map u)->di h fc fe ρ (xs.map f) Q
 |[],Q,_,_,hq=>hq
 |x::xs,Q,t0,step,hq=>by simp only[dP,di];refine step x eE _ _ ?_;by_cases hp:p x=true;rw[if_pos hp];rw[List.filter_cons_of_pos hp] at hq;exact kr (Q:=λus=>Q (u x::us)) (λ_ _ _ _ _=>trivial) (λy hy=>step y (fY _ hy)) hq;rw[if_neg hp];rw[List.filter_cons_of_neg hp] at hq;exact kr (λ_ _ _ _ _=>trivial) (λy hy=>step y (fY _ hy)) hq
end VT
namespace VT
open PySem PySem.Spec PyProof.Rows L2 PySem.MeetsSeq PySem.SeqAt
def BC(z:Bool):Value->Bool
 |.bool y=>y==z
 |_=>false
theorem qG:∀{bs:List Bool}{us:qag},Vals (bs.map V.bl) us->us=bs.map Value.bool
 |[],_,h=>by cases h;rfl
 |b::bs,_,h=>by
  cases h with
  |cons r t=>rw[dP,<- qG t];cases r;rfl
theorem vA{K:qaf}{H:Hp}{A:qah}:∀{bs:List Bool}{vs:qak},aB K H A (bs.map .bl) vs->vs=bs.map V.bl
 |[],vs,h=>by simpa only[uB,aB] using h
 |y::ys,vs,h=>by simp only[dP,aB,At] at h;obtain⟨v,r,rfl,rfl,h⟩:=h;rw[vA h];rfl
section
theorem Dj:Ia X "list.count" (λx xs H Q=>∃(p:Addr)(ys:List Bool)(z:Bool),x=.ref p/\xs=[.bl z]/\fN X.K H p (ys.map V.bl)/\Q (.int ((ys.countP (·==z):Nat):Int)) H):=by
 intro pins s σ H x xs v us Q I rx rs h;obtain⟨p,ys,z,rfl,rfl,hq,q⟩:=h;cases rx;obtain⟨u,rfl,ru⟩:=vals1 rs;obtain rfl:u=Value.bool z:=ru;obtain⟨aK,rv,pl,_⟩:=I.list hq;obtain⟨⟨cls,dd,data,sl⟩,ho,hc,n,hd⟩:=pl.isList;simp only at hc hd;subst hc hd;have e:=qG rv;subst e;refine call_meets PySem.F.slot_list_count ⟨_,ho,rfl⟩ PySem.F.entry_list_count (PySem.F.args_list_count_2 _ _) (list_countAt p (ys.map Value.bool).toArray n dd sl (.bool z) (BC z)) ⟨ho,λy hy=>?_,?_⟩;have Ss:y∈ys.map Value.bool:=by simpa using hy
 obtain⟨b,_,rfl⟩:=iS.mp Ss;exact EqAt.bool_bool b z;have e:((ys.map Value.bool).toArray.toList.countP (BC z))=ys.countP (·==z):=by rw[show (ys.map Value.bool).toArray.toList=ys.map Value.bool from rfl,List.countP_map];rfl
 rw[e];exact⟨.int ((ys.countP (·==z):Nat):Int),H,I.tok _,⟨_,rfl⟩,q⟩
theorem Dk:Ia X "list.index" (λx xs H Q=>∃(p:Addr)(ys:List Bool)(z:Bool)(j:Nat),x=.ref p/\xs=[.bl z]/\fN X.K H p (ys.map V.bl)/\ys[j]?=some z/\(∀i,i<j->ys[i]?≠some z)/\ys.length<=1000/\Q (.int (j:Int)) H):=by
 intro pins s σ H x xs v us Q I rx rs h;obtain⟨p,ys,z,j,rfl,rfl,hq,hj,EC,hl,q⟩:=h;cases rx;obtain⟨u,rfl,ru⟩:=vals1 rs;obtain rfl:u=Value.bool z:=ru;obtain⟨aK,rv,pl,_⟩:=I.list hq;obtain⟨⟨cls,dd,data,sl⟩,ho,hc,n,hd⟩:=pl.isList;simp only at hc hd;subst hc hd;have e:=qG rv;subst e;have Vy:j<ys.length:=(gN.mp hj).1;have key:∀(i:Nat)(hi:i<(ys.map Value.bool).toArray.size),BC z (ys.map Value.bool).toArray[i]=decide (ys[i]?=some z):=by
  intro i hi;have D3:i<ys.length:=by simpa using hi
  have e3:(ys.map Value.bool).toArray[i]=Value.bool ys[i]:=by simp
  rw[e3,kB D3];show (ys[i]==z)=_;rw[Nf];simp
 refine call_meets PySem.F.slot_list_index ⟨_,ho,rfl⟩ PySem.F.entry_list_index (PySem.F.args_list_index_2 _ _)
  (list_indexAt p (ys.map Value.bool).toArray n dd sl (.bool z) (BC z) j (by simpa using Vy) (by omega) ?_ ?_) ⟨ho,λy hy=>?_,⟨.int (j:Int),H,I.tok _,⟨_,rfl⟩,q⟩⟩
 rw[key];exact decide_eq_true hj;intro m hm gq;rw[key];exact decide_eq_false (EC m gq);have Ss:y∈ys.map Value.bool:=by simpa using hy
 obtain⟨b,_,rfl⟩:=iS.mp Ss;exact EqAt.bool_bool b z
end
section
variable{o:Expr}{fo:FE}
def KO(fo:FE)(g:FA):FP:=λρ Q=>fo ρ λx=>match x with
 |.lst ts=>g ρ λy=>∃(ys:List Bool)(z:Bool),ts=ys.map .bl/\y=[.bl z]/\Q (.vw (.int ((ys.countP (·==z):Nat):Int)))
 |_=>False
theorem n9(ho:VR X Z o fo)(he:EU X Z [e] g)(cO:attributeBase o "count" X.env (eval o X.env)=eval o X.env:=by rfl)(ik:((backTo aT (starEach [e] X.env)).all (λx=>!x.1) && (backToKw aT (keywordEach [] X.env)).all (λx=>x.1.isSome)
    && decide (([e]:qap).length+([]:List Keyword).length+(if ([]:List Keyword).isEmpty then 0 else 1)<30))=true:=by rfl)(cP:(apos.endLine==aT.line)=true:=by rfl)(hs:starEach [e] X.env=(false,eval e X.env)::starEach [] X.env:=by rfl)(dz:(backTo aT (starEach [] X.env)).any (·.1)=false:=by rfl) :
  VP X Z (.Call (.Attribute o "count" apos) [e] [] aT) (KO fo g):=.mk λtm=>
 PE.weak (pF UR PySem.F.slot_list_count PySem.F.type_list_count Dj (ho tm) (he tm) cO ik cP hs dz) λσ H Q ⟨ρ,O,q,I,hf,k⟩ =>
  ⟨ρ,O,_,I,hf,λx hx v H1 s1 a1=>by
    split at hx
    rename_i ts
    obtain⟨p,vs,rfl,h1,h2⟩:=a1.lst;refine⟨.inl ⟨rfl,vs,h1⟩,ρ,O,_,I.same s1,hx,λy hy w H2 s2 a2=>?_⟩;obtain⟨ys,z,rfl,rfl,hq⟩:=hy;obtain⟨u,rfl,a3⟩:=cb a2;have ev:=vA h2;subst ev;have eu:=a3.bl;subst eu;exact⟨p,ys,z,rfl,rfl,h1.imp (λz=>Rd.same s2 z) id,k _ hq _ H2 (s1.trans s2) ⟨(I.same s1).same s2,bC⟩⟩;exact hx.elim⟩
def KP(fo:FE)(g:FA):FP:=λρ Q=>fo ρ λx=>match x with
 |.lst ts=>g ρ λy=>∃(ys:List Bool)(z:Bool)(j:Nat),ts=ys.map .bl/\y=[.bl z]/\ys[j]?=some z/\(∀i,i<j->ys[i]?≠some z)/\ys.length<=1000/\Q (.vw (.int (j:Int)))
 |_=>False
theorem n_(ho:VR X Z o fo)(he:EU X Z [e] g)(cO:attributeBase o "index" X.env (eval o X.env)=eval o X.env:=by rfl)(ik:((backTo aT (starEach [e] X.env)).all (λx=>!x.1) && (backToKw aT (keywordEach [] X.env)).all (λx=>x.1.isSome)
    && decide (([e]:qap).length+([]:List Keyword).length+(if ([]:List Keyword).isEmpty then 0 else 1)<30))=true:=by rfl)(cP:(apos.endLine==aT.line)=true:=by rfl)(hs:starEach [e] X.env=(false,eval e X.env)::starEach [] X.env:=by rfl)(dz:(backTo aT (starEach [] X.env)).any (·.1)=false:=by rfl) :
  VP X Z (.Call (.Attribute o "index" apos) [e] [] aT) (KP fo g):=.mk λtm=>
 PE.weak (pF UR PySem.F.slot_list_index PySem.F.type_list_index Dk (ho tm) (he tm) cO ik cP hs dz) λσ H Q ⟨ρ,O,q,I,hf,k⟩ =>
  ⟨ρ,O,_,I,hf,λx hx v H1 s1 a1=>by
    split at hx
    rename_i ts
    obtain⟨p,vs,rfl,h1,h2⟩:=a1.lst;refine⟨.inl ⟨rfl,vs,h1⟩,ρ,O,_,I.same s1,hx,λy hy w H2 s2 a2=>?_⟩;obtain⟨ys,z,j,rfl,rfl,hj,EC,hl,hq⟩:=hy;obtain⟨u,rfl,a3⟩:=cb a2;have ev:=vA h2;subst ev;have eu:=a3.bl;subst eu;exact⟨p,ys,z,j,rfl,rfl,h1.imp (λz=>Rd.same s2 z) id,hj,EC,hl,k _ hq _ H2 (s1.trans s2) ⟨(I.same s1).same s2,bC⟩⟩;exact hx.elim⟩
end
end VT
namespace EX
open PySem PySem.Spec PySem.Calls PyProof.Rows L2 VT
open PySem.W (kitOne InstAt)
structure XK1(K:qaf)(C:Addr):Prop where
 xc:∃tl,XC K C tl
 xf:XF K C
structure Ex(K:qaf)(H:Hp)(e C:Addr)(dd:qar)(p:Option Int):Prop where
 ex:H e=some (.ext (PY C e dd))
 pl:KH H dd p
 kl:XK1 K C
theorem Ex.same{e:Addr}{p:Option Int}(x:Ex K H e C dd p)(s:aL H H'):Ex K H' e C dd p :=
 ⟨s _ _ x.ex,by cases p with|none=>exact x.pl|some i=>obtain⟨d,h1,h2⟩:=x.pl;exact⟨d,h1,s _ _ h2⟩,x.kl⟩
section
variable{e:Addr}{pp:Option Int}
theorem KQ{σ:L2.St}{s:Shared}(I:Inv X pins σ H s)(x:Ex X.K H e C dd pp):∃oe od,InstAt s.heap e oe C od:=by
 obtain⟨⟨oe,vs,h1,h2,h3,h4⟩,_,_⟩:=I.bG e _ x.ex;have nc:PySem.W.notCls oe=true:=by unfold PySem.W.notCls;rw[h4]
 cases pp with
 |none=>have pl:dd=none:=x.pl;exact⟨oe,none,h1,h2,nc,by rw[h3,pl];trivial⟩
 |some i=>obtain⟨d,rfl,hd⟩:=x.pl;obtain⟨mA,⟨o,_,_,ho,_⟩,_⟩:=I.bG d _ hd;exact⟨oe,some o,h1,h2,nc,by rw[h3];exact ho⟩
def Yo(K:qaf)(cv:V)(c:Value)(e C:Addr)(dd:qar)(pp:Option Int)(b:Bool):qak->Hp->VK->Prop:=λxs H Q=>xs=[.ref e,cv]/\Ex K H e C dd pp/\kitOne K (.ref C) c=some b/\Q (.bl b) H
theorem GB{cv:V}{c:Value}{b:Bool}(rc:∀u,RelV cv u->u=c):cN X (.builtin "isinstance") (Yo X.K cv c e C dd pp b):=by rintro pins s σ H xs us Q I r ⟨rfl,x,hk,q⟩;obtain⟨u,w',rfl,rx,ry⟩:=vals2 r;obtain rfl:u=Value.ref e:=rx;obtain rfl:=rc _ ry;obtain⟨oe,od,J⟩:=KQ I x;obtain⟨tl,xc⟩:=x.kl.xc;exact Kz I.jS xc x.kl.xf J hk λtk=>⟨.bl b,H,I.tok _,rfl,q⟩
def Yp(i:Nat)(e:Addr)(b:Bool):FP:=λρ Q=>ρ[i]?=some (some (.ob e,false))/\Q (.vw (.bl b))
theorem P4(i:Nat){ce:Expr}{cv:V}{c:Value}{b:Bool}(xz:Ex X.K Z.H0 e C dd pp)(hP:Z.P=[])(rc:∀u,RelV cv u->u=c)(hk:kitOne X.K (.ref C) c=some b)(hg:Gl X "isinstance")(hm:X.mg "isinstance"=none)(hc:PE X ce (tC cv))(hN:X.N[i]?=some x:=by rfl)(hv:pk X.env.scope x:=by first|exact Or.inl rfl|exact Or.inr (Or.inl rfl)|exact Or.inr (Or.inr rfl))(hd:fW x:=by decide)(gM:sN x:=by decide)(KR:starEach [.Name x p1,ce] X.env=(false,eval (.Name x p1) X.env)::starEach [ce] X.env:=by rfl)(tu:starEach [ce] X.env=(false,eval ce X.env)::starEach [] X.env:=by rfl)(fz:(backTo pos (starEach [ce] X.env)).any (·.1)=false:=by rfl) :
  VP X Z (.Call (.Name "isinstance" p2) [.Name x p1,ce] [] pos) (Yp i e b):=.mk λtm=>
 PE.weak (kR (GB (e:=e) (C:=C) (dd:=dd) (pp:=pp) rc) hg hm la (bj (dQ hN hv hd gM) (bj hc cF tu) KR) (by decide) (by decide) KR fz) λσ H Q ⟨ρ,O,q,I,hf,k⟩=>by obtain⟨h1,h2⟩:=hf;obtain⟨o,s,h3,h4,rfl,v,rfl,h5⟩:=I.sl i _ h1;simp only[At] at h5;subst h5;exact⟨_,h4,rfl,xz.same (qB hP I),hk,k _ h2 _ H (aL.refl H) ⟨I,c9⟩⟩
def fPl(i:Nat)(e:Addr)(n:Int):FP:=λρ Q=>ρ[i]?=some (some (.ob e,false))/\Q (.vw (.int n))
theorem MD(i:Nat){n:Int}(xz:Ex X.K Z.H0 e C dd (some n))(hP:Z.P=[])(hN:X.N[i]?=some x:=by rfl)(hv:pk X.env.scope x:=by first|exact Or.inl rfl|exact Or.inr (Or.inl rfl)|exact Or.inr (Or.inr rfl))(hd:fW x:=by decide)(gM:sN x:=by decide)(hb:attributeBase (.Name x p1) "place" X.env (eval (.Name x p1) X.env)=eval (.Name x p1) X.env:=by rfl):VP X Z (.Attribute (.Name x p1) "place" pos) (fPl i e n):=.mk λtm pins s σ H Q J ⟨ρ,O,q,I,hf,k⟩=>by
 obtain⟨h1,h2⟩:=hf;obtain⟨o,s',h3,h4,rfl,v,rfl,h5⟩:=I.sl i _ h1;simp only[At] at h5;subst h5;have xh:=xz.same (qB hP I);have pv:=dQ (pos:=p1) hN hv hd gM pins s σ H (λv H1=>v=.ref e/\H1=H) J ⟨_,h4,rfl,rfl⟩;refine IM hb (cm pv λu s1 ⟨v,H1,J1,rv,e1,e2⟩=>?_);subst e1 e2;obtain rfl:u=Value.ref e:=rv;obtain⟨d,rfl,hd⟩:=xh.pl;obtain⟨⟨oe,vs,g1,g2,g3,g4⟩,_,_⟩:=J1.bG e _ xh.ex;obtain⟨mA,ns,rel⟩:=J1.bG d _ hd;obtain⟨tl,xc⟩:=xh.kl.xc;obtain⟨cd,c1,c2,_⟩:=xc.cls;have rp:mx (some (V.int n)) (mA "place"):=rel "place";cases hm:mA "place" with
 |none=>rw[hm] at rp;exact rp.elim
 |some u=>rw[hm] at rp;obtain⟨t,rfl⟩:=(show ∃t,u=Value.int n t from rp);exact C8 J1.jS xh.kl.xf (by rw[c1];exact c2) g1 g2 (by unfold PySem.W.notCls;rw[g4]) g3 ns hm rfl ⟨.int n,H1,J1.tok _,⟨t,rfl⟩,k _ h2 _ H1 (aL.refl H1) ⟨I,bC⟩⟩
end
theorem KS{tm:qab}{σ:L2.St}(hP:Z.P=[])(I:aw K Z tm O ρ σ H)(hv:∀(i:Nat) (t:T),ρ[i]?≠some (some (t,true))):aw K ⟨H,[],Z.Ox⟩ tm O ρ σ H:=by
 have r0:roots O=[]:=by
  cases hr:roots O with
  |nil=>rfl
  |cons a r=>
   have ha:a∈roots O:=by rw[hr];exact eE
   obtain⟨i,hi⟩:=Ru.mp (aP.mp ha);have hl:=(gN.mp hi).1;have Wn:i<ρ.length:=by rw[<- I.lO];exact hl
   obtain⟨o,s,h1,h2,h3⟩:=I.sl i ρ[i] (by simp);rw[hi] at h1;cases h1;cases q:ρ[i] with
   |none=>rw[q] at h3;cases h3
   |some tb=>
    obtain⟨t,b⟩:=tb;rw[q] at h3;cases b with
    |false=>cases h3.1
    |true=>exact absurd (by rw[<- q];simp) (hv i t)
 refine⟨I.lσ,I.lO,I.sl,I.nd,λa ha=>by (rw[r0] at ha;cases ha),λp hp=>(nomatch hp),I.ox,λb o y _=>y,I.oy⟩
theorem jk{H0:Hp}{tm:qab}{σ:L2.St}(hP:Z.P=[])(s:aL Z.H0 H0)(I:aw K ⟨H0,[],Z.Ox⟩ tm O ρ σ H):aw K Z tm O ρ σ H:=by
 refine⟨I.lσ,I.lO,I.sl,I.nd,λa ha=>?_,λp hp=>by (rw[hP] at hp;cases hp),I.ox,λb o y _=>I.keep b o (s _ _ y) (by simp),I.oy⟩;obtain⟨h1,h2,h3⟩:=I.own a ha;refine⟨.inr ?_,h2,h3⟩;obtain z|z:=h1
 exact absurd z (by simp);exact s.free z
theorem GC{H0:Hp}{tm:qab}{d:Jt}{D:Ends}(hP:Z.P=[])(s:aL Z.H0 H0)(F:VT.Fin K Z tm d D):VT.Fin K ⟨H0,[],Z.Ox⟩ tm d D:=by
 refine⟨λO ρ σ H I h=>F.nx O ρ σ H (jk hP s I) h,λO ρ σ H r v z h=>F.rt O ρ σ H r v ?_ h,λO ρ σ H I h=>F.bk O ρ σ H (jk hP s I) h,λO ρ σ H I h=>F.ct O ρ σ H (jk hP s I) h⟩;cases r with
 |vw t=>exact⟨jk hP s z.1,z.2⟩
 |fr t=>obtain⟨a,rfl,I,hR,h0,hx⟩:=z;exact⟨a,rfl,jk (Z:=Z.ex a) hP s I,hR,s.free h0,hx⟩
theorem x8{tm:qab}{σ:L2.St}{s:Option V}(I:aw K Z tm O ρ σ H)(hi:ρ[i]?=some none):aw K Z tm O ρ (σ.set i s) H:=by refine⟨by rw[Eb];exact I.lσ,I.lO,λj e h=>?_,I.nd,I.own,I.par,I.ox,I.keep,I.oy⟩;obtain⟨o,s',h1,h2,h3⟩:=I.sl j e h;by_cases z:j=i;subst z;rw[hi] at h;cases h;exact⟨o,s,h1,by rw[yF ((gN.mp h2).1)],h3⟩;exact⟨o,s',h1,by rw[uA (Ne.symm z)];exact h2,h3⟩
section
variable{ts:qah}{k ix iz jn ia:Nat}{z n cl fx:Str}{p0 p3 p4 p5 p6 p7 p8 p9:Pos}{rest:qaq}{g1:FS}{g2:Addr->Addr->Int->FS}{g3:Addr->Addr->FS}
def noOwn(ρ:En):Prop:=∀(i:Nat)(t:T),ρ[i]?≠some (some (t,true))
def gX(g2:Addr->Addr->Int->FS)(g3:Addr->Addr->FS)(e C:Addr):Option Int->FS
 |some n=>g2 e C n
 |none=>g3 e C
end
end EX
namespace EX
open PySem PySem.Spec PySem.Calls PyProof.Rows L2
open PySem.W (findIn typeIn clsIn subIn mroIn specialIn takesIn kitOne)
def sg:Value->Bool
 |.str _ _=>true
 |_=>false
noncomputable def T6(K:qaf)(a:Addr):Bool:=match K.lookup a with
 |some ⟨_,_,.cls cd,_⟩=>(match K.lookup cd.ns with
  |some ⟨_,_,.dict es _,_⟩=>es.toList.all (λe=>sg e.key) && (nsFind es "__init__").isNone
  |_=>false)
 |_=>false
noncomputable def Vz(K:qaf)(C:Addr)(tl:qah):Bool:=match K.lookup C with
 |some ⟨c,_,.cls cd,sl⟩=>c==.type "type" && (cd.mro==(Value.ref C::(tl.map Value.ref++Im)) && (cd.hasDict && (!cd.hasDel && ((match sl.toList with
  |[_,_,_,_,some v,_]=>v==.builtin "ValueError.__new__"
  |_=>false) && tl.all (T6 K)))))
 |_=>false
theorem ME(h:T6 K a=true):∃c dd cd sl o es ep,K.lookup a=some ⟨c,dd,.cls cd,sl⟩/\K.lookup cd.ns=some o/\o.data=.dict es ep/\StrKeys es/\nsFind es "__init__"=none:=by
 unfold T6 at h;split at h
 rename_i c dd cd sl h1
 split at h
 rename_i c2 d2 es ep A0 h2
 rw[eJ] at h;refine⟨c,dd,cd,sl,_,es,ep,h1,h2,rfl,λe he=>?_,Option.isNone_iff_eq_none.mp h.2⟩;have:=gE.mp h.1 e (by simpa using he);cases q:e.key with
 |str n t=>exact⟨n,t,rfl⟩
 |_=>rw[q] at this;cases this
 cases h;cases h
theorem MF(h:Vz K C tl=true):XC K C tl:=by
 unfold Vz at h;split at h
 rename_i c dd cd sl h1
 simp only[eJ] at h;obtain⟨e1,e2,e3,e4,e5,e6⟩:=h;refine⟨?_,λa ha=>ME (gE.mp e6 a ha)⟩;obtain⟨nm,bs,mro,ns,q,hd,sn,sub,ab,col,T7⟩:=cd;have e1:=beq_iff_eq.mp e1;have e2:=beq_iff_eq.mp e2;simp only at e2 e3 e4;subst e1 e2 e3;have e4:T7=false:=by cases T7<;>simp_all
 subst e4;obtain⟨l⟩:=sl
 match l,e5 with
 |[k0,k1,k2,k3,some v,k5],e5=>have e5:=beq_iff_eq.mp e5;subst e5;exact⟨nm,q,ns,bs,sn,sub,ab,col,dd,k0,k1,k2,k3,k5,h1⟩
 cases h
noncomputable def Yq(K:qaf)(C:Addr):Bool:=findIn K (.ref C) "__getattribute__"==some (some (.builtin "BaseException.__getattribute__")) && (findIn K (.ref C) "__getattr__"==some none && (findIn K (.ref C) "__setattr__"==some (some (.builtin "object.__setattr__")) && (findIn K (.ref C) "place"==some none && (findIn K (.ref C) "__class__"==some (some (.builtin "object.__class__")) && (subIn K (.ref C) (.type "BaseException")==some true && (mroIn K C (.type "object")==some true && (specialIn K (.builtin "object.__class__") "__get__"==some (some (.builtin "getset_descriptor.__get__")) && takesIn K (.builtin "object.__class__")==some true)))))))
theorem T8(h:Yq K C=true):XF K C:=by unfold Yq at h;simp only[eJ,beq_iff_eq] at h;obtain⟨h1,h2,h3,h4,h5,h6,h7,h8,h9⟩:=h;exact⟨h1,h2,h3,h4,h5,h6,h7,h8,h9⟩
def cfV:PySem.W.CFound->Option Value
 |.val v=>some v
 |_=>none
noncomputable def Yr(K:qaf)(S:Addr):Bool:=specialIn K (.ref S) "__getattribute__"==some (some (.builtin "type.__getattribute__")) && (PySem.W.readsIn K S (.type "type") && ((PySem.W.findCls K (.ref S) (.type "type") "__init__").bind cfV==some (.builtin "ValueError.__init__")))
theorem T9(h:Yr K S=true):XS K S:=by
 unfold Yr at h;simp only[eJ,beq_iff_eq] at h;obtain⟨h1,h2,h3⟩:=h;refine⟨h1,h2,?_⟩;cases q:PySem.W.findCls K (.ref S) (.type "type") "__init__" with
 |none=>rw[q] at h3;cases h3
 |some r=>
  rw[q] at h3;cases r with
  |val v=>rw[show v=Value.builtin "ValueError.__init__" from Option.some.inj h3]
  |get a b c d=>cases h3
noncomputable def Z1(K:qaf)(cl:qah)(S:Addr):Bool:=cl.all λC=>Vz K C [S] && (Yq K C && (kitOne K (.ref C) (.type "ValueError")==some true && cl.all λD=>kitOne K (.ref C) (.ref D)==some (decide (C=D))))
theorem iQ{cl:qah}(h:Z1 K cl S=true):(∀C∈cl,∀D∈cl,kitOne K (.ref C) (.ref D)=some (decide (C=D)))/\(∀C∈cl,kitOne K (.ref C) (.type "ValueError")=some true)/\∀C∈cl,XC K C [S]/\XF K C:=by have h:=gE.mp h;refine⟨λC hC D hD=>?_,λC hC=>?_,λC hC=>?_⟩;have:=h C hC;simp only[eJ,gE,beq_iff_eq] at this;exact this.2.2.2 D hD;have:=h C hC;simp only[eJ,beq_iff_eq] at this;exact this.2.2.1;have:=h C hC;simp only[eJ] at this;exact⟨MF this.1,T8 this.2.1⟩
end EX
namespace EX
open PySem PySem.Spec PySem.Calls PyProof.Rows L2 VT
open PySem.W (findIn typeIn Looks InstAt)
structure X0(K:qaf)(mg:qae)(x:Str)(C:Addr):Prop where
 m:mg x=some (.ref C)
 kp:PySem.W.keepIn K (.ref C)=true
 xc:∃tl,XC K C tl
 n0:∃c dd cd sl o es ep,K.lookup C=some ⟨c,dd,.cls cd,sl⟩/\K.lookup cd.ns=some o/\o.data=.dict es ep/\StrKeys es/\nsFind es "__init__"=none
section
def Ys(C:Addr)(t:TA):TE:=λσ H Q=>t σ H λvs H1=>∃y,vs=[.str y]/\∀e,H1 e=none->Q (.ref e) (upd H1 e (.ext (wt C e none)))
theorem P5{a:Expr}{t:TA}(x0:X0 X.K X.mg x C)(hg:Gl X x)(ha:PA X (a::es) t)(kP:fW x:=by decide)(he:starEach (a::es) X.env=(false,eval a X.env)::starEach es X.env:=by rfl)(fz:(backTo pos (starEach es X.env)).any (·.1)=false:=by rfl):PE X (.Call (.Name x p) (a::es) [] pos) (Ys C t):=by
 intro pins s σ H Q I h;obtain⟨tl,xc⟩:=x0.xc;refine wpAny_Call_Name_kw (ie I hg x0.m ?_ kP);refine RD (h₀:=X.base) I.ok.mod.Nl x0.kp (cm (ha pos pins s σ H _ I h) λus s1 ⟨vs,H1,I1,r,y,ev,q⟩=>⟨I1.jS,?_⟩) he fz;subst ev;obtain⟨u1,r1,rfl,z1,r⟩:∃u1 r1,us=u1::r1/\RelV (.str y) u1/\Vals [] r1:=by cases r with|cons a b=>exact⟨_,_,rfl,a,b⟩
 cases r;obtain⟨nm,qn,N,bs,sn,sub,ab,col,dd,k0,k1,k2,k3,k5,oK⟩:=id xc.obj;obtain⟨c,JX,cd,sl,o,es,ep,g1,g2,g3,g4,g5⟩:=x0.n0;rw[oK] at g1;cases g1;refine wpAny_call_exc_subT (g:=s1.gens) (d:=s1.drawn) (t:=s1.toks) (os:=s1.os) RB (lM I1.jS xc.tail) (I1.jS _ _ oK) ⟨o,es,ep,I1.jS _ _ g2,g3,g4,λ_=>rfl⟩ g5 (λh' e hm=>?_) (by show (1:Nat)<=sizeLine;rw[sizeLine_eq];omega);obtain⟨t0,PH,_,_⟩:=hm.there;have n1:H1 e=none:=by
  cases q:H1 e with
  |none=>rfl
  |some o=>obtain⟨u,z⟩:=ji (I1.bG e o q);rw[hm.new] at z;cases z
 have I2:Inv X pins σ (upd H1 e (.ext (wt C e none))) {s1 with heap:=h'}:=I1.un (t':=s1.toks) (lN (Un.kept hm.keeps) n1 hm.new) (jD (I1.bG.kept hm.keeps) n1 (By PH));exact⟨.ref e,_,I2,rfl,q e n1⟩
end
section
variable{W:WT}
def KU(W:WT)(C:Addr):FS:=λ_ _=>W C none
theorem Dl{a:Expr}{np:Pos}{i:Int}(hw:PQ X Z W)(x0:X0 X.K X.mg x C)(hg:Gl X x)(ha:PA X [a] (Ez (ZV (tC (.int i))) NR))(h0:0<=i:=by decide)(h1:i<=100:=by decide)(kP:fW x:=by decide)(he:starEach [a] X.env=(false,eval a X.env)::starEach [] X.env:=by rfl)(fz:(backTo aT (starEach [] X.env)).any (·.1)=false:=by rfl) :
  VS X Z (.Raise (some (.Call (.Name x np) [a] [] aT)) none pos) (KU W C):=.mk λtm=>PS.weak (xT hw.calm (P5 x0 hg ha kP he fz)) λD σ H ⟨ρ,O,d,I,hW,F⟩=>by
 refine⟨i,rfl,h0,h1,λy=>⟨y,rfl,λe n1=>?_⟩⟩;obtain⟨tl,xc⟩:=x0.xc;refine⟨e,C,none,tl,rfl,xc,aY,λpins s J J2 fl=>?_⟩;have sm:aL Z.H0 H:=qB hw.P0 I;have z0:Z.H0 e=none:=sm.free n1;refine hw.xe pins σ _ s e C none none none J2 fl lU (λ_ z=>nomatch z) ?_ (λ_ z=>nomatch z) (λb o z=>?_) rfl hW;cases q2:X.s₀.heap.get? e with
 |none=>rfl
 |some o=>have:=J.base.free e o q2 (by rw[<- hw.H0];exact z0) (by rw[hw.ex];simp);rw[aY] at this;cases this
 have z1:=sm b o z;have b1:b≠e:=λy=>by rw[y,n1] at z1;cases z1
 rw[gK b1,aH b1];exact z1
theorem T_(m:mg x=some (.ref C))(kp:PySem.W.keepIn K (.ref C)=true)(xc:XC K C tl)(h:T6 K C=true):X0 K mg x C:=⟨m,kp,⟨tl,xc⟩,ME h⟩
end
end EX
namespace z8
open PySem L2 VT Gen rR EX dj
noncomputable abbrev fP:Stmt:=top 31
noncomputable abbrev iE:Stmt:=top 32
def RT(t:T):Prop:=∃(x:Str)(ps:qaj),t=.tup (.str x::ps)/\ps.length<=10/\∀p∈ps,Part p
noncomputable def eA:T->Bool
 |.tup (.str x::ps)=>d8 x ps
 |_=>false
noncomputable def ck:qaj->Nat->Option Nat
 |[],_=>none
 |t::l,i=>if eA t=true then ck l (i+1) else some i
theorem KW{t:T}(h:d9 t):RT t/\eA t=true:=by obtain⟨x,ps,rfl,h1,h2,h3⟩:=h;exact⟨⟨x,ps,rfl,by omega,h2⟩,h3⟩
theorem x9:∀(l:qaj)(i:Nat),(∀t∈l,eA t=true)->ck l i=none
 |[],_,_=>rfl
 |t::l,i,h=>by unfold ck;rw[if_pos (h t eE)];exact x9 l _ λu hu=>h u (fY _ hu)
def BD(cR:Addr)(W:WT)(ts:qaj)(q:qam):Prop:=∃xs:qaj,ts=[.lst xs]/\xs.length<=60/\(∀x∈xs,RT x)/\(match ck xs 0 with|none=>q (.vw .bR)|some i=>W cR (some (i:Int)))
def GD(c0 c1 c2 c3:Addr)(W:WT)(ts:qaj)(q:qam):Prop:=∃xs:qaj,ts=[.lst xs]/\xs.length<=200/\(∀x∈xs,RT x)/\(60<xs.length->W c0 none)/\(xs.length<=60->match ck xs 0 with
 |some i=>W c1 (some (i:Int))
 |none=>∃rs:qal,xs=rs.map bw/\(match brk [] rs 0 with
  |some i=>W c2 (some (i:Int))
  |none=>match fM rs with
   |some i=>W c3 (some (i:Int))
   |none=>q (.fr (.lst (rs.map bw)))))
section
variable{fS nE ej fu:Addr}
noncomputable abbrev vB:qai:=["program","place","row"]
theorem jY:aJ vB qax (ak iE):=L2.ij
theorem sx(D:Df K mg "check_rows" iE qax f fd)(M:Kr w K mg)(qH:XP P w K mg base "NoRow" nE 1)(qI:cM P w K mg base "is_row" ["row"] 5 (cy K 1 Px)):sr P w K mg base "check_rows" qax 6 (zU K 1 (BD nE)):=by
 obtain⟨Ua,Rj,GF,GG,GH,GI⟩:=qI;refine⟨f,fd,D.m,D.F.kp,D.b,T1 D.F jY rfl λbS A outer s H E Ox hr W ts q hG hw=>?_⟩;have nd:=jY.nd;have np:∀{i:Nat},ba ⟨H,[],Ox⟩ i:=mW;refine⟨_,(ai (eQ hw.own rfl (lb (by rfl) M.enumerate (ao 0)) (ke (n:=2) rfl (cj (aX (i:=1) nd rfl (Or.inl rfl) np) (cj (aX (i:=2) nd rfl (Or.inl rfl) np) iu)))
  (ai (aS (dA (cp (bu GI (hr.mono (by decide)) (by rfl) GF GG GH (aa (ao 2) aj))))
   (ai (gi hw qH (hr.mono (by decide)) (by rfl) (aa (ao 1) aj)))
   ax)))),λ_=>?_⟩
 obtain⟨xs,rfl,hn,ko,hq⟩:=hG;have e0:xs=xs.map id:=by simp
 rw[e0];refine g8 (λi ρ=>∃b1 b2,ρ=[some (.lst (xs.map id),false),b1,b2]/\ck xs 0=ck (xs.drop i) i) ⟨_,_,rfl,rfl⟩ ?_ ?_;rintro i t ρ ht ⟨b1,b2,rfl,hb⟩;have hi:=(gN.mp ht).1;have ed:xs.drop i=t::xs.drop (i+1):=by obtain⟨h1,h2⟩:=gN.mp ht;rw[<- h2];exact Ro h1
 rw[ed] at hb;obtain⟨x,ps,ex,Yt,Yu⟩:=ko t (mn ht);subst ex;refine⟨rfl,rfl,rfl,x,ps,rfl,Yt,Yu,?_⟩;cases hg:d8 x ps with
 |true=>refine⟨_,_,rfl,?_⟩;rw[hb];show (if d8 x ps=true then _ else _)=_;rw[if_pos hg]
 |false=>
  have e2:ck xs 0=some i:=by rw[hb];show (if d8 x ps=true then _ else _)=_;rw[hg];rfl
  rw[e2] at hq;exact⟨(i:Int),rfl,by omega,by omega,hq⟩
 rintro ρ ⟨b1,b2,rfl,hb⟩;rw[RG] at hb;have OY:ck xs 0=none:=hb;rw[OY] at hq;exact hq
abbrev oa:Int:=60
noncomputable abbrev lV:qai:=["rows","program"]
theorem jZ:aJ lV ["rows"] (ak fP):=L2.ij
theorem sy(D:Df K mg "program_of" fP ["rows"] f fd)(M:Kr w K mg)(M1:X0 K mg "TooGreat" fS)(vC:sr P w K mg base "check_rows" qax 6 (zU K 1 (BD nE)))(qJ:sr P w K mg base "check_blocks" qax 3 (zU K 1 (KI.xU ej)))(sA:sr P w K mg base "check_calls" qax 3 (zU K 1 (KI.BB fu))):sr P w K mg base "program_of" ["rows"] 7 (zU K 1 (GD fS nE ej fu)):=by
 obtain⟨KY,Ip,vD,vE,vF,vG⟩:=vC;obtain⟨GJ,D7,qK,qL,qM,qN⟩:=qJ;obtain⟨Iq,GK,sC,sD,sE,sF⟩:=sA;refine⟨f,fd,D.m,D.F.kp,D.b,T1 D.F jZ rfl λbS A outer s H E Ox hr W ts q hG hw=>?_⟩;have nd:=jZ.nd;have np:∀{i:Nat},ba ⟨H,[],Ox⟩ i:=mW;obtain⟨tM,og⟩:=M.C3;have x_:∀{pos},VP (fE (BA P w) P w K mg base lV "program_of" (ak fP) f bS A outer s H E) ⟨H,[],Ox⟩ (.Name "MOST_ROWS" pos) (fC (.int 60)):=fg (by rfl) og (v:=.int 60) ⟨_,rfl⟩ λ_ _=>bC;have ya:=M1;refine⟨_,(af (dR (i:=1) nd rfl (Or.inl rfl) (qau (cY uK zh (by rfl) M.list OS (aq (ae 0) au))) np)
  (af (aS (wO (qas (az aD aE (by rfl) M.len iU (aq (ae 1) au))) (qas x_))
   (ai (Dl (i:=oa) hw ya (by rfl) (bj (xS (oV (by rfl) og (v:=.int oa) ⟨_,rfl⟩)) cF)))
   ax)
  (af (qC hw vG (hr.mono (by decide)) (by rfl) vD vE vF (aq (ae 1) au))
  (af (qC hw qN (hr.mono (by decide)) (by rfl) qK qL qM (aq (ae 1) au))
  (af (qC hw sF (hr.mono (by decide)) (by rfl) sC sD sE (aq (ae 1) au))
  (ai (ay (k7 1 np)))))))),λ_=>?_⟩
 obtain⟨xs,rfl,acP,ko,hg,hq⟩:=hG;refine cA (λh=>?_) (λh=>?_);have h':60<xs.length:=by omega
 exact hg h';have hn:xs.length<=60:=by omega
 replace hq:=hq hn
 refine⟨rfl,W,λ_ _ z=>z,xs,rfl,hn,ko,?_⟩;cases Rk:ck xs 0 with
 |some i=>rw[Rk] at hq;exact hq
 |none=>
  rw[Rk] at hq;obtain⟨rs,rfl,hq⟩:=hq;rw[bQ] at hn;refine⟨rfl,rfl,W,λ_ _ z=>z,rs,rfl,hn,?_⟩;cases hb:brk [] rs 0 with
  |some i=>rw[hb] at hq;exact hq
  |none=>
   rw[hb] at hq;refine⟨rfl,rfl,W,λ_ _ z=>z,rs,rfl,hn,?_⟩;cases hc:fM rs with
   |some i=>rw[hc] at hq;exact hq
   |none=>rw[hc] at hq;exact⟨rfl,hq⟩
end
end z8
namespace K9
open PySem Gen Builtin Builtin.Str rR
open PyProof.Rows (split_pos)
noncomputable def gl(c:Nat):List (qao)->qao
 |[]=>[]
 |[a]=>a
 |a::b::l=>a++c::gl c (b::l)
theorem BE{c:Nat}:∀{a b x y:qao},c∉a->c∉b->a++c::x=b++c::y->a=b/\x=y
 |[],[],_,_,_,_,e=>by injection e with _ e;exact⟨rfl,e⟩
 |[],d::b,_,_,_,hb,e=>by injection e with e _;exact absurd e λz=>hb (z▸eE)
 |d::a,[],_,_,ha,_,e=>by injection e with e _;exact absurd e.symm λz=>ha (z▸eE)
 |d::a,d'::b,x,y,ha,hb,e=>by
  injection e with e1 e2
  obtain⟨h1,h2⟩:=BE (λz=>ha (fY _ z)) (λz=>hb (fY _ z)) e2;exact⟨by rw[e1,h1],h2⟩
theorem z9{c:Nat}:∀{l m:List (qao)},l≠[]->m≠[]->(∀a∈l,c∉a)->(∀a∈m,c∉a)->gl c l=gl c m->l=m
 |[],_,h,_,_,_,_=>absurd rfl h
 |_::_,[],_,h,_,_,_=>absurd rfl h
 |[a],[b],_,_,_,_,e=>by rw[show a=b from e]
 |[a],b::b'::m,_,_,h1,_,e=>by exfalso;refine h1 a eE ?_;rw[show a=b++c::gl c (b'::m) from e];simp
 |a::a'::l,[b],_,_,_,h2,e=>by exfalso;refine h2 b eE ?_;rw[<- show a++c::gl c (a'::l)=b from e];simp
 |a::a'::l,b::b'::m,_,_,h1,h2,e=>by obtain⟨e1,e2⟩:=BE (h1 a eE) (h2 b eE) (show a++c::gl c (a'::l)=b++c::gl c (b'::m) from e);rw[e1,z9 (by simp) (by simp) (λx hx=>h1 x (fY _ hx)) (λx hx=>h2 x (fY _ hx)) e2]
theorem aN(a b:Str):(a++b).cps.toList=a.cps.toList++b.cps.toList:=by show (a.cps++b.cps).toList=_;rw[QQ]
theorem o9(c:Nat):∀l:qai,(Str.join ⟨#[c]⟩ l).cps.toList=gl c (l.map (·.cps.toList))
 |[]=>rfl
 |[a]=>rfl
 |a::b::l=>by show (a++⟨#[c]⟩++Str.join ⟨#[c]⟩ (b::l)).cps.toList=_;rw[aN,aN,o9 c (b::l)];simp[gl]
theorem fQ{a b:Str}(h:a.cps.toList=b.cps.toList):a=b:=by obtain⟨⟨a⟩⟩:=a;obtain⟨⟨b⟩⟩:=b;cases h;rfl
theorem ku{ws:qai}(hn:ws≠[])(h:∀w∈ws,c∉w.cps.toList):Txt.split (Txt.join ⟨#[c]⟩ ws) ⟨#[c]⟩=ws:=by
 have e1:Txt.join ⟨#[c]⟩ ws=Str.join ⟨#[c]⟩ ws:=StrLaws.glued_eq_join _ _;rw[e1];generalize ex:Str.join ⟨#[c]⟩ ws=x;have e2:=StrLaws.join_split x ⟨#[c]⟩;have hf:=StrLaws.split_free x c;have hp:=split_pos x ⟨#[c]⟩;have e3:gl c ((Txt.split x ⟨#[c]⟩).map (·.cps.toList))=gl c (ws.map (·.cps.toList)):=by rw[<- o9,<- o9,e2,ex]
 have e4:=z9 (λz=>by rw[List.map_eq_nil_iff.mp z] at hp;cases hp) (λz=>hn (List.map_eq_nil_iff.mp z)) (λa ha=>by
  obtain⟨p,hp,rfl⟩:=iS.mp ha;exact hf p hp) (λa ha=>by
  obtain⟨p,hp,rfl⟩:=iS.mp ha;exact h p hp) e3
 exact List.map_inj_right (λa b=>fQ) |>.mp e4
theorem gD(c:Nat)(x:Str):Txt.startswith x ⟨#[c]⟩=decide (x.cps.toList.head?=some c):=by
 obtain⟨⟨l⟩⟩:=x;unfold Txt.startswith subAt;cases l with
 |nil=>rfl
 |cons d r=>
  have e1:(Array.extract ({toList:=d::r}:Array Nat) 0 (0+(Str.mk #[c]).length)==(Str.mk #[c]).cps)=decide (d=c):=by rw[Nf,beq_iff_eq,decide_eq_true_eq];constructor;intro q;have q2:=congrArg (λa=>a[0]?) q;simp[Str.length] at q2;exact q2;intro q;subst q;apply Array.ext';simp[Str.length]
  have e2:decide (0+(Str.mk #[c]).length<=(Str.mk {toList:=d::r}).length)=true:=by apply decide_eq_true;show 0+1<=(({toList:=d::r}:Array Nat)).size;simp
  show (decide (0+(Str.mk #[c]).length<=(Str.mk {toList:=d::r}).length) && (Array.extract ({toList:=d::r}:Array Nat) 0 (0+(Str.mk #[c]).length)==(Str.mk #[c]).cps))=_;rw[e1,e2,yI];simp
theorem vH(c:Nat)(x:Str):Txt.slice (⟨#[c]⟩++x) (some 1) none=x:=by
 obtain⟨⟨l⟩⟩:=x;have hl:(Str.length (Str.mk #[c]++Str.mk {toList:=l}))=l.length+1:=by show (#[c]++({toList:=l}:Array Nat)).size=_;simp
 have hi:strSliceIndices (some 1) none 1 (l.length+1)=(List.range l.length).map (λk=>k+1):=by
  unfold strSliceIndices sliceRange;simp only[show (1:Int) > 0 by decide,if_true];have e0:max 0 (min (if (1:Int)<0 then 1+((l.length+1:Nat):Int) else 1) ((l.length+1:Nat):Int))=1:=by rw[if_neg (by decide)];omega
  rw[e0];by_cases hn:l.length=0;rw[hn];rfl;have e1:((1:Int)<((l.length+1:Nat):Int)):=by omega
  rw[if_pos e1];have e2:((((l.length+1:Nat):Int)-1+1-1) / 1).toNat=l.length:=by rw[Int.ediv_one];omega
  rw[e2];apply RC;intro k hk;omega
 unfold Txt.slice;rw[hl,hi];have jz:¬ (((1:Int)==1 && (List.map (λk=>k+1) (List.range l.length)).length==l.length+1)=true):=by rw[eJ,bQ,HU];intro q;have:=beq_iff_eq.mp q.2;omega
 rw[if_neg jz]
 congr 1
 apply Array.ext';rw[U1];show List.filterMap (λi=>(#[c]++({toList:=l}:Array Nat))[i]?) (List.map (λk=>k+1) (List.range l.length))=l;rw[RE];have e:∀k,((λi=>(#[c]++({toList:=l}:Array Nat))[i]?) ∘ λk=>k+1) k=l[k]?:=λk=>by show (#[c]++({toList:=l}:Array Nat))[k+1]?=l[k]?;rw[<- UU];simp
 rw[show ((λi=>(#[c]++({toList:=l}:Array Nat))[i]?) ∘ λk=>k+1)=λk=>l[k]? from funext e];clear e jz hi hl;induction l with
 |nil=>rfl
 |cons a r ih=>
  rw[rF,Wd,om];simp only[Rp,RE]
  congr 1
def lW(m:Nat):qao:=(Nat.toDigits 10 m).map Char.toNat
def dJ(i:Int):Str:=toString i
theorem lY(m:Nat):∀c∈lW m,48<=c/\c<=57:=λc hc=>by obtain⟨ch,D0,rfl⟩:=iS.mp hc;exact PyProof.Rows.digit_range (Nat.isDigit_of_mem_toDigits (by decide) (by decide) D0)
theorem Dm(h:¬ m<10):lW m=lW (m / 10)++lW (m % 10):=by have hm:m % 10<10:=Nat.mod_lt m (by decide);have t:Nat.toDigits 10 (m / 10)++Nat.toDigits 10 (m % 10)=Nat.toDigits 10 (10 * (m / 10)+m % 10):=Nat.toDigits_append_toDigits (by decide) (by omega) hm;unfold lW;rw[<- wm,t,Nat.div_add_mod]
theorem t8(h:m<10):lW m=[48+m]:=by
 unfold lW;rw[Nat.toDigits_of_lt_base h]
 match m,h with
 |0,_=>rfl
 |1,_=>rfl
 |2,_=>rfl
 |3,_=>rfl
 |4,_=>rfl
 |5,_=>rfl
 |6,_=>rfl
 |7,_=>rfl
 |8,_=>rfl
 |9,_=>rfl
theorem qO(m:Nat):∃c r,lW m=c::r/\(m≠0->c≠48):=by
 induction m using Nat.strongRecOn with
 |_ m ih=>by_cases h:m<10;exact⟨48+m,[],t8 h,λz=>by omega⟩;obtain⟨c,r,e,hc⟩:=ih (m / 10) (by omega);exact⟨c,r++lW (m % 10),by rw[Dm h,e];rfl,λ_=>hc (by omega)⟩
theorem BF(h:m<10 ^ 31):(lW m).length<=31:=by have e:=(Nat.length_repr_le_iff (n:=m) (by decide:0<31)).mpr h;rw[<- String.length_toList,Nat.toList_repr] at e;unfold lW;rw[bQ];exact e
theorem iF(m:Nat):(dJ (m:Int)).cps.toList=lW m:=PySem.W.KIN.signs_num m
theorem jm:(("-":String):Str)=⟨#[45]⟩:=by decide +kernel
theorem KZ(m:Nat):dJ (-((m+1:Nat):Int))=⟨#[45]⟩++dJ ((m+1:Nat):Int):=by have e:(toString (-((m+1:Nat):Int)):String)="-"++toString ((m+1:Nat):Int):=rfl;refine fQ ?_;rw[aN,iF];unfold dJ;rw[e];show (Str.ofString ("-"++toString ((m+1:Nat):Int))).cps.toList=_;rw[<- iF];unfold dJ;rw[PyProof.Rows.signs_ofString,PyProof.Rows.signs_ofString,String.toList_append,wm];rfl
theorem GL{i:Int}(h1 : -1000000000000000000000000000000<=i)(h2:i<1000000000000000000000000000000):i.natAbs.log2<1920:=by
 by_cases h:i.natAbs=0;rw[h];decide;have e:(2:Nat) ^ 100=1267650600228229401496703205376:=by decide
 have a:i.natAbs<2 ^ 100:=by omega
 have:i.natAbs<2 ^ 1920:=oq a (Nat.pow_le_pow_right (by decide) (by decide));exact (Nat.log2_lt h).mpr this
def sG:Str:="0123456789"
noncomputable def BG(c:Nat):Bool:=!(occurrences sG ⟨#[c]⟩ 0 sG.length 1).isEmpty
theorem BH(h:48<=c/\c<=57):BG c=true:=by
 obtain⟨h1,h2⟩:=h;have:∀k,k<10->BG (48+k)=true:=by decide +kernel
 have:=this (c-48) (by omega)
 rwa [show 48+(c-48)=c by omega] at this
theorem P6(c:Nat):BG c=decide (c∈sG.cps.toList):=StrLaws.found_one sG c
theorem P7(c:Nat):Ct c=decide (c∈bt.cps.toList):=StrLaws.found_one bt c
theorem K0:bt.cps.toList.all (λc=>decide (97<=c) && decide (c<=122))=true:=by decide +kernel
theorem K1:sG.cps.toList.all (λc=>decide (48<=c) && decide (c<=57))=true:=by decide +kernel
theorem jF(h:Ct c=true):97<=c/\c<=122:=by rw[P7] at h;have:=gE.mp K0 c (of_decide_eq_true h);simpa using this
theorem vI(h:BG c=true):48<=c/\c<=57:=by rw[P6] at h;have:=gE.mp K1 c (of_decide_eq_true h);simpa using this
theorem GN(h:¬ (48<=c/\c<=57)):BG c=false:=by
 cases q:BG c with
 |false=>rfl
 |true=>exact absurd (vI q) h
noncomputable def gm(x:Str):Str:=if Txt.startswith x "-"=true then Txt.slice x (some 1) none else x
noncomputable def iG(x:Str):Bool:=!(decide (gm x="") || decide ((32:Int)<(x.length:Int))) && ((gm x).cps.toList.all BG && (decide (x="0") || !Txt.startswith (gm x) "0"))
theorem nF:(("0":String):Str)=⟨#[48]⟩:=by decide +kernel
theorem l6:(("":String):Str)=⟨#[]⟩:=by decide +kernel
theorem yb{r:qao}(e:x.cps.toList=c::r)(h1:c≠45)(h2:BG c=false):iG x=false:=by
 have hs:Txt.startswith x "-"=false:=by rw[jm,gD,e];exact decide_eq_false λz=>h1 (Option.some.inj z)
 have hf:gm x=x:=by unfold gm;rw[hs,if_neg iV]
 unfold iG;rw[hf,e,wu,h2,DZ,DZ,RI]
theorem l7:x=""↔x.cps.toList=[]:=by rw[l6];constructor;rintro rfl;rfl;exact λh=>fQ h
theorem P8(e:x.cps.toList=lW m)(hm:m<10 ^ 31):iG x=true:=by
 obtain⟨c,r,ed,hc⟩:=qO m;have hd:=lY m;have gM:=hd c (by rw[ed];exact eE);have hs:Txt.startswith x "-"=false:=by rw[jm,gD,e,ed];exact decide_eq_false λz=>by have:=Option.some.inj z;omega
 have hf:gm x=x:=by unfold gm;rw[hs,if_neg iV]
 have hl:x.length<=31:=by have:=BF hm;rw[<- e] at this;simpa[Str.length] using this
 unfold iG;rw[hf];have h1:decide (x="")=false:=decide_eq_false λz=>by rw[l7.mp z,ed] at e;cases e
 have h2:decide ((32:Int)<(x.length:Int))=false:=decide_eq_false (by omega);have h3:x.cps.toList.all BG=true:=by rw[e];exact gE.mpr λc hc=>BH (hd c hc)
 rw[h1,h2,h3];by_cases z:m=0;have:x="0":=by rw[nF];refine fQ ?_;rw[e,z];exact t8 (by decide)
 rw[decide_eq_true this];rfl;have:Txt.startswith x "0"=false:=by rw[nF,gD,e,ed];exact decide_eq_false λq=>hc z (Option.some.inj q)
 rw[this];cases decide (x="0")<;>rfl
theorem z_{i:Int}(h1 : -1000000000000000000000000000000<=i)(h2:i<1000000000000000000000000000000):iG (dJ i)=true/\PySem.intText? (dJ i)=some i/\(dJ i).length<=32/\∀c∈(dJ i).cps.toList,45<=c/\c<=57:=by
 have nat:∀m:Nat,m<10 ^ 31->iG (dJ (m:Int))=true/\PySem.intText? (dJ (m:Int))=some (m:Int)/\(dJ (m:Int)).length<=31/\∀c∈(dJ (m:Int)).cps.toList,48<=c/\c<=57:=λm hm=>by
  have e:=iF m;have hl:(dJ (m:Int)).length<=31:=by have:=BF hm;rw[<- e] at this;simpa[Str.length] using this
  obtain⟨c,r,ed,_⟩:=qO m;refine⟨P8 e hm,?_,hl,λc hc=>lY m c (e▸hc)⟩;have:=PySem.intText_digits (x:=dJ (m:Int)) (λc hc=>lY m c (e▸hc)) (by rw[e,ed];simp) (by omega);rw[this,e];show some ((PySem.NumText.digitsVal ((Nat.toDigits 10 m).map Char.toNat):Nat):Int)=_;rw[PySem.W.KIN.val_back]
 have p31:(10:Nat) ^ 31=10000000000000000000000000000000:=by decide
 by_cases h0:0<=i;obtain⟨m,rfl⟩:=AN h0;obtain⟨a,b,c,d⟩:=nat m (by omega);exact⟨a,b,by omega,λx hx=>by have:=d x hx;omega⟩;obtain⟨m,rfl⟩:∃m:Nat,i=-((m+1:Nat):Int):=⟨(-i).toNat-1,by omega⟩;obtain⟨a,b,c,d⟩:=nat (m+1) (by omega);have e:=KZ m;have es:(dJ (-((m+1:Nat):Int))).cps.toList=45::lW (m+1):=by rw[e,aN,iF];rfl
 have el:(dJ (-((m+1:Nat):Int))).length=(dJ ((m+1:Nat):Int)).length+1:=by have h1:=congrArg List.length es;have h2:=congrArg List.length (iF (m+1));simp only[B_,rF] at h1 h2;simp only[Str.length];omega
 obtain⟨c0,r,ed,hc⟩:=qO (m+1);refine⟨?_,?_,by omega,λx hx=>?_⟩;have hs:Txt.startswith (dJ (-((m+1:Nat):Int))) "-"=true:=by rw[jm,gD,es];rfl
 have hf:gm (dJ (-((m+1:Nat):Int)))=dJ ((m+1:Nat):Int):=by unfold gm;rw[if_pos hs,e,vH]
 unfold iG;rw[hf];have h1:decide (dJ ((m+1:Nat):Int)="")=false:=decide_eq_false λz=>by have:=l7.mp z;rw[iF,ed] at this;cases this
 have h2:decide ((32:Int)<((dJ (-((m+1:Nat):Int))).length:Int))=false:=decide_eq_false (by omega);have h3:(dJ ((m+1:Nat):Int)).cps.toList.all BG=true:=gE.mpr λc hc=>BH (d c hc);have h4:Txt.startswith (dJ ((m+1:Nat):Int)) "0"=false:=by rw[nF,gD,iF,ed];exact decide_eq_false λq=>hc (by omega) (Option.some.inj q)
 rw[h1,h2,h3,h4];cases decide (dJ (-((m+1:Nat):Int))="0")<;>rfl;have:=PySem.intText_neg (x:=dJ (-((m+1:Nat):Int))) es (lY (m+1)) (by rw[ed];simp) (by omega);rw[this];show some (-((PySem.NumText.digitsVal ((Nat.toDigits 10 (m+1)).map Char.toNat):Nat):Int))=_;rw[PySem.W.KIN.val_back];rw[es] at hx;rcases bL.mp hx with rfl|hx
 omega;have:=lY (m+1) x hx;omega
inductive Pt where
 |nm (x:Str)
 |nu (i:Int)
 |fd (x:Str)
noncomputable def Pt.s:Pt->Str
 |.nm x=>x
 |.nu i=>dJ i
 |.fd x=>(".":String)++x
noncomputable def Pt.t:Pt->VT.T
 |.nm x=>.str x
 |.nu i=>.int i
 |.fd x=>.str ((".":String)++x)
def Pt.ok:Pt->Prop
 |.nm x=>aW x=true
 |.nu i=>-1000000000000000000000000000000<=i/\i<1000000000000000000000000000000
 |.fd x=>aW x=true
theorem t9(h:aW x=true):∃c r,x.cps.toList=c::r/\Ct c=true:=by
 have ha:=fO h;unfold aW at h;rw[eJ] at h;have h1:=of_decide_eq_true h.1;cases e:x.cps.toList with
 |nil=>
  have:x.length=0:=by have:=congrArg List.length e;simpa[Str.length] using this
  omega
 |cons c r=>rw[e,wu,eJ] at ha;exact⟨c,r,rfl,ha.1⟩
theorem hJ(h:aW x=true):x.length<=8:=by unfold aW at h;simp only[eJ,decide_eq_true_eq] at h;omega
theorem cZ(h:aW x=true):iG x=false:=by obtain⟨c,r,e,hc⟩:=t9 h;have:=jF hc;exact yb e (by omega) (GN (by omega))
theorem BI(x:Str):(((".":String):Str)++x).cps.toList=46::x.cps.toList:=by rw[pJ,aN];rfl
theorem P9(x:Str):iG (((".":String):Str)++x)=false:=yb (BI x) (by decide) (GN (by decide))
theorem Pt.len{p:Pt}(h:p.ok):p.s.length<=32:=by
 cases p with
 |nm x=>have:=hJ h;show x.length<=32;omega
 |nu i=>exact (z_ h.1 h.2).2.2.1
 |fd x=>have:=hJ h;show ((((".":String):Str)++x)).length<=32;rw[A_];omega
theorem Pt.free{p:Pt}(h:p.ok):∀c∈p.s.cps.toList,45<=c:=by
 cases p with
 |nm x=>intro c hc;have:=jF (gE.mp (fO h) c hc);omega
 |nu i=>intro c hc;exact ((z_ h.1 h.2).2.2.2 c hc).1
 |fd x=>
  intro c hc;rw[show (Pt.fd x).s=((".":String):Str)++x from rfl,BI] at hc;rcases bL.mp hc with rfl|hc
  decide;have:=jF (gE.mp (fO h) c hc);omega
def BJ:oE->Pt
 |.nm x=>.nm x
 |.nu i=>.nu i
def VB:Ky->Pt
 |.fld x=>.fd x
 |.op o=>BJ o
theorem vJ(o:oE):(BJ o).t=tO o:=by cases o<;>rfl
theorem Ub(k:Ky):(VB k).t=Rc k:=by cases k with|fld x=>rfl|op o=>exact vJ o
noncomputable def cU:Rw->List Pt
 |.df f ps=>.nm f::ps.map .nm
 |.give a=>[BJ a]
 |.put x a=>[.nm x,BJ a]
 |.Bn x a op b=>[.nm x,BJ a,.nm op,BJ b]
 |.new x=>[.nm x]
 |.get x r k=>[.nm x,.nm r,VB k]
 |.set r k a=>[.nm r,VB k,BJ a]
 |.call x f as=>.nm x::.nm f::as.map BJ
 |.fail x=>[.nm x]
 |.Ij a=>[BJ a]
 |.TC=>[]
 |.yL a=>[BJ a]
 |.fin=>[]
 |.skip=>[]
noncomputable def hU(r:Rw):List Pt:=.nm (wd r)::cU r
noncomputable def aI(r:Rw):Str:=Txt.join " " ((hU r).map Pt.s)
theorem vK(r:Rw):aW (wd r)=true:=by cases r<;>(simp only[wd];decide +kernel)
theorem l8(hn:∀y∈ys,aW y=true){o:oE}(h:cT ys o):(BJ o).ok:=by
 cases o with
 |nm x=>exact hn x h
 |nu i=>exact h
theorem MH(hn:∀y∈ys,aW y=true){k:Ky}(h:zB ys k):(VB k).ok:=by
 cases k with
 |fld x=>exact hn x h
 |op o=>exact l8 hn h
theorem Dn{op:Str}(h:op∈reckon):aW op=true:=by
 have:∀o∈reckon,aW o=true:=by decide +kernel
 exact this op h
theorem GO(hn:∀y∈ys,aW y=true)(h:sh ys r):(∀p∈hU r,p.ok)/\(hU r).length<=6:=by
 have key:(∀p∈cU r,p.ok)/\(cU r).length<=5:=by
  cases r with
  |df f ps=>
   obtain⟨h1,h2,_,h4⟩:=h;refine⟨λp hp=>?_,by simp only[cU,rF,bQ];omega⟩;rcases bL.mp hp with rfl|hp
   exact hn f h1;obtain⟨x,hx,rfl⟩:=iS.mp hp;exact hn x (h4 x hx)
  |call x f as=>
   obtain⟨h1,h2,h3,h4⟩:=h;refine⟨λp hp=>?_,by simp only[cU,rF,bQ];omega⟩;rcases bL.mp hp with rfl|hp
   exact hn x h1;rcases bL.mp hp with rfl|hp
   exact hn f h2;obtain⟨o,ho,rfl⟩:=iS.mp hp;exact l8 hn (h4 o ho)
  |give a=>exact⟨λp hp=>by rw[wj.mp hp];exact l8 hn h,by simp[cU]⟩
  |Ij a=>exact⟨λp hp=>by rw[wj.mp hp];exact l8 hn h,by simp[cU]⟩
  |yL a=>exact⟨λp hp=>by rw[wj.mp hp];exact l8 hn h,by simp[cU]⟩
  |new x=>exact⟨λp hp=>by rw[wj.mp hp];exact hn x h,by simp[cU]⟩
  |fail x=>exact⟨λp hp=>by rw[wj.mp hp];exact hn x h,by simp[cU]⟩
  |put x a=>
   refine⟨λp hp=>?_,by simp[cU]⟩;simp only[cU,bL,cq,or_false] at hp;obtain rfl|rfl:=hp
   exact hn x h.1;exact l8 hn h.2
  |Bn x a op b=>
   refine⟨λp hp=>?_,by simp[cU]⟩;simp only[cU,bL,cq,or_false] at hp;obtain rfl|rfl|rfl|rfl:=hp
   exact hn x h.1;exact l8 hn h.2.1;exact Dn h.2.2.1;exact l8 hn h.2.2.2
  |get x r k=>
   refine⟨λp hp=>?_,by simp[cU]⟩;simp only[cU,bL,cq,or_false] at hp;obtain rfl|rfl|rfl:=hp
   exact hn x h.1;exact hn r h.2.1;exact MH hn h.2.2
  |set r k a=>
   refine⟨λp hp=>?_,by simp[cU]⟩;simp only[cU,bL,cq,or_false] at hp;obtain rfl|rfl|rfl:=hp
   exact hn r h.1;exact MH hn h.2.1;exact l8 hn h.2.2
  |_=>exact⟨λp hp=>(nomatch hp),by simp[cU]⟩
 refine⟨λp hp=>?_,by unfold hU;rw[rF];omega⟩;rcases bL.mp hp with rfl|hp
 exact vK r;exact key.1 p hp
structure mj(r:Rw):Prop where
 ok:∀p∈hU r,p.ok
 len:(hU r).length<=6
theorem vL(hn:∀y∈ys,aW y=true)(h:sh ys r):mj r:=⟨(GO hn h).1,(GO hn h).2⟩
theorem blank_eq:((" ":String):Str)=⟨#[32]⟩:=by decide +kernel
theorem vM:(("\n":String):Str)=⟨#[10]⟩:=by decide +kernel
theorem Aa(h:mj r):Txt.split (aI r) " "=(hU r).map Pt.s:=by unfold aI;rw[blank_eq];refine ku (by simp[hU]) λw hw=>?_;obtain⟨p,hp,rfl⟩:=iS.mp hw;intro z;have:=Pt.free (h.ok p hp) 32 z;omega
theorem GP{c:Nat}:∀{l:List (qao)}{x:Nat},x∈gl c l->x=c\/∃a∈l,x∈a
 |[],_,h=>nomatch h
 |[a],x,h=>.inr ⟨a,eE,h⟩
 |a::b::l,x,h=>by
  rcases gF.mp h with h|h
  exact .inr ⟨a,eE,h⟩;rcases bL.mp h with h|h
  exact .inl h;rcases GP h with h|⟨y,hy,hx⟩
  exact .inl h;exact .inr ⟨y,fY _ hy,hx⟩
theorem jo(c:Nat)(l:qai):(Txt.join ⟨#[c]⟩ l).cps.toList=gl c (l.map (·.cps.toList)):=by rw[<- o9];exact congrArg (λx:Str=>x.cps.toList) (StrLaws.glued_eq_join _ _)
theorem Dp(h:mj r):10∉(aI r).cps.toList:=by
 unfold aI;rw[blank_eq,jo];intro z;rcases GP z with z|⟨a,ha,hx⟩
 cases z;obtain⟨s,hs,rfl⟩:=iS.mp ha;obtain⟨p,hp,rfl⟩:=iS.mp hs;have:=Pt.free (h.ok p hp) 10 hx;omega
theorem qP{α:Type}{f:α->Nat}{n:Nat}:∀{l:List α},(∀x∈l,f x<=n)->(l.map f).sum<=l.length * n
 |[],_=>nU _
 |x::l,h=>by have ih:=qP λy hy=>h y (fY _ hy);have:=h x eE;rw[dP,List.sum_cons,rF,Nat.add_mul,Nat.one_mul];omega
theorem yc(c:Nat)(l:qai)(h:∀x∈l,x.length<=n):(Txt.join ⟨#[c]⟩ l).length<=l.length * n+l.length:=by have e:Txt.join ⟨#[c]⟩ l=Str.join ⟨#[c]⟩ l:=StrLaws.glued_eq_join _ _;rw[e];have a:=StrLaws.join_length_le ⟨#[c]⟩ l;have s:=qP (f:=λx:Str=>x.length) h;have b:(Str.mk #[c]).length=1:=rfl;rw[b,Nat.mul_one] at a;omega
theorem yd(h:mj r):(aI r).length<=200:=by
 unfold aI;rw[blank_eq];have:=yc 32 ((hU r).map Pt.s) (n:=32) λx hx=>by obtain⟨p,hp,rfl⟩:=iS.mp hx;exact Pt.len (h.ok p hp)
 rw[bQ] at this;have:=h.len;omega
noncomputable def jO(ts:List VT.T)(k:Option Nat):VT.T:=match k with
 |none=>.tup ts
 |some k=>.tup (ts.take k++[.tup (ts.drop k)])
noncomputable def GQ:Rw->Option Nat
 |.df _ _=>some 2
 |.call _ _ _=>some 3
 |_=>none
theorem ye(r:Rw):jO ((hU r).map Pt.t) (GQ r)=bw r:=by
 cases r with
 |df f ps=>show VT.T.tup [.str "def",.str f,.tup ((ps.map Pt.nm).map Pt.t)]=_;rw[AQ];rfl
 |call x f as=>show VT.T.tup [.str "call",.str x,.str f,.tup ((as.map BJ).map Pt.t)]=.tup [.str "call",.str x,.str f,.tup (as.map tO)];rw[AQ,show (Pt.t ∘ BJ)=tO from funext vJ]
 |give a=>show VT.T.tup [_,_]=_;rw[vJ];rfl
 |Ij a=>show VT.T.tup [_,_]=_;rw[vJ];rfl
 |yL a=>show VT.T.tup [_,_]=_;rw[vJ];rfl
 |put x a=>show VT.T.tup [_,_,_]=_;rw[vJ];rfl
 |Bn x a op b=>show VT.T.tup [_,_,_,_,_]=_;rw[vJ,vJ];rfl
 |get x r k=>show VT.T.tup [_,_,_,_]=_;rw[Ub];rfl
 |set r k a=>show VT.T.tup [_,_,_,_]=_;rw[Ub,vJ];rfl
 |_=>rfl
end K9
namespace GR
open PySem L2 VT Gen rR K9
open dj (d9 d8 Part lC gC iO gJ bT dS CQ sg Ke zF strsOf Pk F6)
open z8 (RT eA ck)
def Dq(w:Str):Int:=(PySem.intText? w).getD 0
noncomputable def bD(w:Str):T:=if iG w=true then .int (Dq w) else .str w
theorem Ab{w:Str}(h:iG w=true):w.length<=32:=by unfold iG at h;have h1:=(oQ.mp h).1;rw[yH,U0] at h1;have:=of_decide_eq_false h1.2;omega
theorem P_{w:Str}(h:iG w=true):PySem.intText? w=some (Dq w):=by
 have hl:=Ab h;have key:∃n,PySem.intText? w=some n:=by
  unfold iG at h;obtain⟨h1,h2⟩:=oQ.mp h;rw[yH,U0] at h1;have jz:=of_decide_eq_false h1.1;obtain⟨h3,h4⟩:=oQ.mp h2;have hd:∀c∈(gm w).cps.toList,48<=c/\c<=57:=λc hc=>vI (gE.mp h3 c hc);have hn:(gm w).cps.toList≠[]:=λz=>jz (l7.mpr z);cases hs:Txt.startswith w "-" with
  |false=>
   have hf:gm w=w:=by unfold gm;rw[hs,if_neg iV]
   rw[hf] at hd hn;exact⟨_,PySem.intText_digits hd hn (by omega)⟩
  |true=>
   have hf:gm w=Txt.slice w (some 1) none:=by unfold gm;rw[if_pos hs]
   rw[jm,gD] at hs;have CB:=of_decide_eq_true hs;obtain⟨⟨l⟩⟩:=w;cases l with
   |nil=>cases CB
   |cons c r=>have hc:c=45:=Option.some.inj CB;subst hc;have e:(Str.mk {toList:=45::r})=(⟨#[45]⟩++Str.mk {toList:=r}:Str):=fQ (by rw[aN];rfl);rw[hf,e,vH] at hd hn;exact⟨_,PySem.intText_neg (cs:=r) rfl hd hn (by omega)⟩
 obtain⟨n,e⟩:=key;rw[e];unfold Dq;rw[e];rfl
theorem bA{w:Str}(h:iG w=false):bD w=.str w:=by unfold bD;rw[h,if_neg iV]
theorem P'{p:Pt}(h:p.ok):bD p.s=p.t:=by
 cases p with
 |nm x=>exact bA (cZ h)
 |fd x=>exact bA (P9 x)
 |nu i=>obtain⟨a,b,c,_⟩:=z_ h.1 h.2;show (if iG (dJ i)=true then T.int (Dq (dJ i)) else _)=.int i;rw[if_pos a];unfold Dq;rw[b];rfl
noncomputable def ahead:T->Option Nat
 |.str x=>if x="def" then some 2 else if x="call" then some 3 else none
 |_=>none
def cH(x:Str):qai:=Txt.split x " "
noncomputable def br(x:Str):T:=jO ((cH x).map bD) (ahead (bD ((cH x).headD "")))
theorem yf(h:mj r):br (aI r)=bw r:=by
 unfold br cH;rw[Aa h,<- ye r,AQ];have e:(hU r).map (bD ∘ Pt.s)=(hU r).map Pt.t:=RC λp hp=>P' (h.ok p hp);rw[e];have e2:ahead (bD (((hU r).map Pt.s).headD ""))=GQ r:=by show ahead (bD (wd r))=_;rw[bA (cZ (vK r))];cases r<;>rfl
 rw[e2]
noncomputable def sgn(c:Nat):Bool:=decide (97<=c/\c<=122) || decide (c=46)
noncomputable def yM(x:Str):Bool:=!x.cps.toList.isEmpty && x.cps.toList.all sgn
noncomputable def Gy:T->Bool
 |.str x=>yM x
 |.tup l=>l.all λt=>match t with
  |.str x=>yM x
  |_=>true
 |_=>true
theorem BK(h:aW x=true):yM x=true:=by
 unfold aW at h;obtain⟨h1,h2⟩:=oQ.mp h;obtain⟨_,h3⟩:=oQ.mp h2;have hl:=of_decide_eq_true h1;unfold yM;refine oQ.mpr ⟨?_,gE.mpr λc hc=>?_⟩;cases e:x.cps.toList with
 |nil=>
  have:x.length=0:=by have:=congrArg List.length e;simpa[Str.length] using this
  omega
 |cons a b=>rfl
 have:=jF (gE.mp h3 c hc);unfold sgn;rw[decide_eq_true this];rfl
theorem Qa(h:mI x=true):yM x=true:=by
 unfold mI at h;obtain⟨h1,h2⟩:=oQ.mp h;rw[pJ,gD] at h1;have CB:=of_decide_eq_true h1;obtain⟨⟨l⟩⟩:=x;cases l with
 |nil=>cases CB
 |cons c r=>have hc:c=46:=Option.some.inj CB;subst hc;have e:(Str.mk {toList:=46::r})=(⟨#[46]⟩++Str.mk {toList:=r}:Str):=fQ (by rw[aN];rfl);rw[e,vH] at h2;have:=(oQ.mp (BK h2)).2;show (true && (sgn 46 && r.all sgn))=true;rw[show r.all sgn=true from this];rfl
theorem GS{t:T}(h:bT t=true):Gy t=true:=by
 cases t with
 |str x=>exact BK h
 |_=>cases h
theorem vN{t:T}(h:dS t=true):Gy t=true:=by
 rcases Bool.or_eq_true_iff.mp h with h|h
 exact GS h;cases t with
 |int i=>rfl
 |_=>cases h
theorem K2{t:T}(h:sg t=true):Gy t=true:=by
 rcases Bool.or_eq_true_iff.mp h with h|h
 cases t with
 |str x=>exact Qa h
 |_=>cases h
 exact vN h
theorem GU{l:qaj}(h:l.all dS=true):Gy (.tup l)=true:=by
 refine gE.mpr λt ht=>?_;have:=vN (gE.mp h t ht);cases t with
 |str x=>exact this
 |_=>rfl
theorem Qb{s:dj.So}{t:T}(h:gJ s t=true):Gy t=true:=by
 cases s with
 |nm=>exact GS h
 |op=>exact vN h
 |key=>exact K2 h
 |rk=>
  cases t with
  |str x=>have h':w_ (.str x) dj.Kd=true:=h;simp only[dj.Kd,w_,eqT,Bool.or_false,Bool.or_eq_true,beq_iff_eq] at h';obtain e|e|e|e|e|e|e:=h'<;>(subst e;decide +kernel)
  |tup l=>cases h
  |_=>rfl
 |par=>
  cases t with
  |tup l=>exact GU (oQ.mp (oQ.mp h).1).2
  |_=>cases h
 |ops=>
  cases t with
  |tup l=>exact GU (oQ.mp h).2
  |_=>cases h
theorem GW:∀{ss:List dj.So}{ps:qaj},ps.length=ss.length->(List.zipWith gJ ss ps).all id=true->∀p∈ps,Gy p=true
 |[],[],_,_,p,hp=>absurd hp cq
 |[],_::_,h,_,_,_=>by cases h
 |_::_,[],h,_,_,_=>by cases h
 |s::ss,t::ps,h,hz,p,hp=>by
  obtain⟨h1,h2⟩:=oQ.mp (show (id (gJ s t) && (List.zipWith gJ ss ps).all id)=true from hz);rcases bL.mp hp with rfl|hp
  exact Qb h1;exact GW (by simpa using h) h2 p hp
theorem GX{ss:List dj.So}(h:gC iO x=some ss):yM x=true:=by
 have:∀l:List (Str×List dj.So),(l.all λp=>yM p.1)=true->gC l x=some ss->yM x=true:=by
  intro l;induction l with
  |nil=>intro _ z;cases z
  |cons p l ih=>intro ha z;obtain⟨k,s⟩:=p;obtain⟨a1,a2⟩:=oQ.mp (show (yM k && l.all λp=>yM p.1)=true from ha);unfold gC at z;by_cases e:k=x;rw[<- e];exact a1;rw[if_neg e] at z;exact ih a2 z
 exact this iO (by decide +kernel) h
theorem K3{ps:qaj}(h:d8 x ps=true):yM x=true/\∀p∈ps,Gy p=true:=by
 unfold d8 at h;cases hf:gC iO x with
 |none=>rw[hf] at h;cases h
 |some ss=>rw[hf] at h;obtain⟨h1,h2⟩:=oQ.mp h;exact⟨GX hf,GW (of_decide_eq_true h1) h2⟩
theorem yg{w:Str}(hw:w∈cH x)(h1:iG w=false)(h2:yM w=false):eA (br x)=false:=by
 cases hb:eA (br x) with
 |false=>rfl
 |true=>
  exfalso;have hp:T.str w∈(cH x).map bD:=iS.mpr ⟨w,hw,bA h1⟩;unfold br at hb;generalize (cH x).map bD=l at hp hb;generalize ahead (bD ((cH x).headD ""))=k at hb;have key:∀l':qaj,eA (.tup l')=true->∀t∈l',Gy t=true:=λl' h t ht=>by
   cases l' with
   |nil=>cases ht
   |cons a ps=>
    cases a with
    |str y=>
     obtain⟨g1,g2⟩:=K3 (show d8 y ps=true from h);rcases bL.mp ht with rfl|ht
     exact g1;exact g2 t ht
    |_=>cases h
  have no:Gy (.str w)=false:=h2;cases k with
  |none=>have:=key l hb _ hp;rw[no] at this;cases this
  |some k=>
   have hk:=key _ (show eA (.tup (l.take k++[.tup (l.drop k)]))=true from hb);rw[<- UY k l] at hp;rcases gF.mp hp with h|h
   have:=hk _ (j5 _ h);rw[no] at this;cases this;have:=hk (.tup (l.drop k)) (kC _ eE);have h4:yM w=true:=gE.mp this _ h;rw[h2] at h4;cases h4
noncomputable def jP:qao->List (qao)
 |[]=>[[]]
 |c::l=>if c=32 then []::jP l else match jP l with
  |[]=>[[c]]
  |w::ws=>(c::w)::ws
theorem kx:∀l,jP l≠[]
 |[]=>by simp[jP]
 |c::l=>by unfold jP;split;simp;split<;>simp
theorem vO:∀l,gl 32 (jP l)=l
 |[]=>rfl
 |c::l=>by
  have ih:=vO l;have hn:=kx l;unfold jP;split
  rename_i e
  subst e;cases hs:jP l with
  |nil=>exact absurd hs hn
  |cons w ws=>rw[hs] at ih;show []++32::gl 32 (w::ws)=_;rw[ih];rfl
  cases hs:jP l with
  |nil=>exact absurd hs hn
  |cons w ws=>
   rw[hs] at ih;cases ws with
   |nil=>have:w=l:=ih;rw[this];rfl
   |cons v vs=>have:w++32::gl 32 (v::vs)=l:=ih;show c::w++32::gl 32 (v::vs)=_;rw[<- this];rfl
theorem qQ:∀l,∀w∈jP l,32∉w
 |[],w,hw=>by
  have:w=[]:=by simpa[jP] using hw
  rw[this];simp
 |c::l,w,hw=>by
  have ih:=qQ l;unfold jP at hw;split at hw;rcases bL.mp hw with rfl|hw
  simp;exact ih w hw
  rename_i hc
  split at hw;have:w=[c]:=by simpa using hw
  rw[this];simp;omega
  rename_i v vs e
  rw[e] at ih;rcases bL.mp hw with rfl|hw
  have:=ih v eE;simp;exact⟨λz=>hc z.symm,this⟩;exact ih w (fY _ hw)
theorem e8(x:Str):cH x=(jP x.cps.toList).map λl=>(⟨⟨l⟩⟩:Str):=by
 have e:x=Txt.join ⟨#[32]⟩ ((jP x.cps.toList).map λl=>(⟨⟨l⟩⟩:Str)):=by refine fQ ?_;rw[jo,AQ];have:((λx:Str=>x.cps.toList) ∘ λl=>(⟨⟨l⟩⟩:Str))=id:=rfl;rw[this,List.map_id,vO]
 unfold cH
 conv=>lhs;rw[e]
 rw[blank_eq,ku (by simpa using kx _) λw hw=>by obtain⟨l,hl,rfl⟩:=iS.mp hw;exact qQ _ l hl]
theorem BL:∀l,jP (l++[32])=jP l++[[]]
 |[]=>rfl
 |c::l=>by
  have ih:=BL l;rw[QU];unfold jP;split;rw[ih];rfl;rw[ih];cases hs:jP l with
  |nil=>exact absurd hs (kx _)
  |cons w ws=>rfl
theorem BM{c:Nat}(hc:c≠32):∀l,c∈l->∃w∈jP l,c∈w
 |a::l,h=>by
  have ih:=BM hc l;unfold jP;split
  rename_i e
  rcases bL.mp h with z|h
  exact absurd (z.trans e) hc;obtain⟨w,hw,hcw⟩:=ih h;exact⟨w,fY _ hw,hcw⟩;cases hs:jP l with
  |nil=>exact absurd hs (kx _)
  |cons w ws=>
   rw[hs] at ih;rcases bL.mp h with rfl|h
   exact⟨_,eE,eE⟩;obtain⟨v,hv,Z2⟩:=ih h;rcases bL.mp hv with rfl|hv
   exact⟨_,eE,fY _ Z2⟩;exact⟨v,fY _ hv,Z2⟩
theorem t_:∀l,(jP l).length=l.count 32+1
 |[]=>rfl
 |c::l=>by
  have ih:=t_ l;unfold jP;split
  rename_i e
  rw[rF,ih,e,List.count_cons_self]
  rename_i e
  rw[List.count_cons_of_ne (by simpa using e)];cases hs:jP l with
  |nil=>exact absurd hs (kx _)
  |cons w ws=>rw[hs] at ih;exact ih
theorem BO{w:Str}(h:c∈w.cps.toList)(h1:c≠45)(h2:¬ (48<=c/\c<=57)):iG w=false:=by
 cases hb:iG w with
 |false=>rfl
 |true=>
  exfalso;unfold iG at hb;have hd:∀c∈(gm w).cps.toList,48<=c/\c<=57:=λc hc=>vI (gE.mp (oQ.mp (oQ.mp hb).2).1 c hc);cases hs:Txt.startswith w "-" with
  |false=>
   have hf:gm w=w:=by unfold gm;rw[hs,if_neg iV]
   rw[hf] at hd;exact h2 (hd c h)
  |true=>
   have hf:gm w=Txt.slice w (some 1) none:=by unfold gm;rw[if_pos hs]
   rw[jm,gD] at hs;have CB:=of_decide_eq_true hs;obtain⟨⟨l⟩⟩:=w;cases l with
   |nil=>cases CB
   |cons a r=>
    have ha:a=45:=Option.some.inj CB;subst ha;have e:(Str.mk {toList:=45::r})=(⟨#[45]⟩++Str.mk {toList:=r}:Str):=fQ (by rw[aN];rfl);rw[hf,e,vH] at hd;rcases bL.mp h with z|h
    exact h1 z;exact h2 (hd c h)
theorem K4{w:Str}(h:c∈w.cps.toList)(h1:sgn c=false):yM w=false:=by
 unfold yM;have:w.cps.toList.all sgn=false:=by
  cases e:w.cps.toList.all sgn with
  |false=>rfl
  |true=>have:=gE.mp e c h;rw[h1] at this;cases this
 rw[this,RI]
theorem qR(h:c∈x.cps.toList)(h0:c≠32)(h1:c≠45)(h2:¬ (48<=c/\c<=57))(h3:sgn c=false):eA (br x)=false:=by obtain⟨w,hw,hc⟩:=BM h0 _ h;exact yg (w:=⟨⟨w⟩⟩) (by rw[e8];exact iS.mpr ⟨w,hw,rfl⟩) (BO hc h1 h2) (K4 hc h3)
theorem o_:iG ""=false/\yM ""=false:=by decide +kernel
theorem qS(h:[]∈jP x.cps.toList):eA (br x)=false :=
 yg (w:=⟨⟨[]⟩⟩) (by rw[e8];exact iS.mpr ⟨_,h,rfl⟩) (by have:=o_.1;rw[l6] at this;exact this) (by have:=o_.2;rw[l6] at this;exact this)
def qT:qao->Prop
 |[]=>True
 |c::_=>c=32\/(c≠45/\¬ (48<=c/\c<=57))
structure Ln(x:Str):Prop where
 len:x.length<=3100
 line:10∉x.cps.toList
 D5:x.cps.toList.count 32<=9
 hd:qT x.cps.toList
theorem GY:∀{l:qao},qT l->∃w ws,jP l=w::ws/\iG ⟨⟨w⟩⟩=false
 |[],_=>⟨[],[],rfl,by have:=o_.1;rw[l6] at this;exact this⟩
 |c::l,h=>by
  by_cases e:c=32;refine⟨[],jP l,by rw[jP,if_pos e],by have:=o_.1;rw[l6] at this;exact this⟩;obtain⟨h1,h2⟩:=h.resolve_left e;cases hs:jP l with
  |nil=>exact absurd hs (kx _)
  |cons w ws=>exact⟨c::w,ws,by rw[jP,if_neg e,hs],BO (c:=c) eE h1 h2⟩
theorem GZ:∀{l:List (qao)}{w:qao},w∈l->w.length<=(gl 32 l).length
 |[a],w,h=>by
  have:w=a:=by simpa using h
  rw[this];exact eB _
 |a::b::l,w,h=>by
  show _<=(a++32::gl 32 (b::l)).length;rw[j6,rF];rcases bL.mp h with rfl|h
  omega;have:=GZ h;omega
theorem yh{w:Str}(h:w∈cH x):w.length<=x.length:=by rw[e8] at h;obtain⟨l,hl,rfl⟩:=iS.mp h;have:=GZ hl;rw[vO] at this;simpa[Str.length] using this
theorem ua(h:Ln x):(cH x).length<=10:=by rw[e8,bQ,t_];have:=h.D5;omega
theorem G0{w:Str}(h:Ln x)(hw:w∈cH x):lC (bD w):=by unfold bD;split;exact .inr ⟨_,rfl⟩;exact .inl ⟨w,rfl,mw (yh hw) h.len⟩
theorem BP(h:Ln x):RT (br x):=by
 obtain⟨w,ws,e,hn⟩:=GY h.hd;have ew:cH x=⟨⟨w⟩⟩::ws.map λl=>(⟨⟨l⟩⟩:Str):=by rw[e8,e];rfl
 have hl:=ua h;have lf:∀v∈cH x,lC (bD v):=λv hv=>G0 h hv;unfold br;rw[ew] at hl lf ⊢;generalize (ws.map λl=>(⟨⟨l⟩⟩:Str))=vs at hl lf ⊢;rw[rF] at hl;have l2:∀p∈vs.map bD,lC p:=λp hp=>by obtain⟨v,hv,rfl⟩:=iS.mp hp;exact lf v (fY _ hv)
 show RT (jO (bD ⟨⟨w⟩⟩::vs.map bD) (ahead (bD ⟨⟨w⟩⟩)));rw[bA hn];have pos:∀k,ahead (.str ⟨⟨w⟩⟩)=some k->2<=k:=λk hk=>by have CH:(if (⟨⟨w⟩⟩:Str)="def" then some 2 else if (⟨⟨w⟩⟩:Str)="call" then some 3 else none)=some k:=hk;by_cases e1:(⟨⟨w⟩⟩:Str)="def";rw[if_pos e1] at CH;have:=Option.some.inj CH;omega;rw[if_neg e1] at CH;by_cases e2:(⟨⟨w⟩⟩:Str)="call";rw[if_pos e2] at CH;have:=Option.some.inj CH;omega;rw[if_neg e2] at CH;cases CH
 cases ha:ahead (.str ⟨⟨w⟩⟩) with
 |none=>exact⟨_,_,rfl,by rw[bQ];omega,λp hp=>.inl (l2 p hp)⟩
 |some k=>
  have hk:=pos k ha;obtain⟨k,rfl⟩:∃m,k=m+1:=⟨k-1,by omega⟩;refine⟨⟨⟨w⟩⟩,(vs.map bD).take k++[.tup ((vs.map bD).drop k)],rfl,by simp;omega,λp hp=>?_⟩;rcases gF.mp hp with z|z
  exact .inl (l2 p (List.mem_of_mem_take z));have:p=.tup ((vs.map bD).drop k):=by simpa using z
  subst this;exact .inr ⟨_,rfl,by simp;omega,λu hu=>l2 u (RA hu)⟩
theorem yi:∀l:List (qao),(∀w∈l,32∉w)->(gl 32 l).count 32<=l.length
 |[],_=>nU _
 |[a],h=>by show a.count 32<=1;rw[U4.mpr (h a eE)];omega
 |a::b::l,h=>by have ih:=yi (b::l) λw hw=>h w (fY _ hw);show (a++32::gl 32 (b::l)).count 32<=_;rw[Nc,List.count_cons_self,U4.mpr (h a eE)];simp only[rF] at ih ⊢;omega
theorem qU(h:mj r):∃c l,(aI r).cps.toList=c::l/\97<=c/\c<=122:=by
 obtain⟨c,l,e,hc⟩:=t9 (vK r);have e2:(aI r).cps.toList=gl 32 ((wd r).cps.toList::((cU r).map Pt.s).map (·.cps.toList)):=by unfold aI;rw[blank_eq,jo];rfl
 rw[e] at e2;cases hl:((cU r).map Pt.s).map (λx:Str=>x.cps.toList) with
 |nil=>rw[hl] at e2;exact⟨c,l,e2,jF hc⟩
 |cons a b=>rw[hl] at e2;exact⟨c,_,e2,jF hc⟩
theorem G1(h:mj r):Ln (aI r)/\(aI r).cps.toList.count 32<=6/\(aI r).length<=200:=by
 have hl:=yd h;have hc:(aI r).cps.toList.count 32<=6:=by unfold aI;rw[blank_eq,jo,AQ];refine mw (yi _ λw hw=>?_) (by rw[bQ];exact h.len);obtain⟨p,hp,rfl⟩:=iS.mp hw;intro z;have:=Pt.free (h.ok p hp) 32 z;omega
 obtain⟨c,l,e,h1,h2⟩:=qU h;refine⟨⟨by omega,Dp h,by omega,?_⟩,hc,hl⟩;rw[e];exact .inr ⟨by omega,by omega⟩
theorem G2{ws:List (qao)}(hn:ws≠[])(hf:∀w∈ws,32∉w):jP (gl 32 ws)=ws :=
 z9 (kx _) hn (qQ _) hf (vO _)
theorem cV{ws:qai}(e:x.cps.toList=gl 32 (ws.map (·.cps.toList)))(hn:ws≠[])(hf:∀w∈ws,32∉w.cps.toList):cH x=ws:=by rw[e8,e,G2 (by simpa using hn) (λw hw=>by obtain⟨v,hv,rfl⟩:=iS.mp hw;exact hf v hv),AQ];have:((λl=>(⟨⟨l⟩⟩:Str)) ∘ λx:Str=>x.cps.toList)=id:=rfl;rw[this,List.map_id]
theorem closed:(["put","new 7","new","give .a","def","def 5","def a b b","def a b c d e f","def a 1","fail 3","fail","if","if a b","else a","skip 0",""," ","put  1","end "," end","SKIP"]:qai).all (λx=>!eA (br x))=true:=by decide +kernel
theorem G3{ws:qai}(h:cH x=ws):eA (br x)=eA (jO (ws.map bD) (ahead (bD (ws.headD "")))):=by rw[br,h]
theorem bN(hy:aW y=true):32∉y.cps.toList:=λz=>by have:=Pt.free (p:=.nm y) hy 32 z;omega
noncomputable def dO(n:Nat)(x:Str):Str:=⟨⟨(List.replicate n x.cps.toList).flatten⟩⟩
theorem bO:(["01","-0","+1","1_0","1"++dO 30 "0",dO 32 "9","-1"++dO 29 "0"++"1"++"0"]:qai).all (λw=>!dS (bD w) && decide (32∉w.cps.toList))=true:=by decide +kernel
theorem K5:(dO 3000 "7").cps.toList=List.replicate 3000 55:=by
 show (List.replicate 3000 (("7":Str).cps.toList)).flatten=_;rw[show ("7":Str).cps.toList=[55] by decide +kernel];generalize 3000=n;induction n with
 |zero=>rfl
 |succ n ih=>rw[AO,Iu,ih];rfl
theorem Ac:dS (bD (dO 3000 "7"))=false/\32∉(dO 3000 "7").cps.toList:=by
 have hl:(dO 3000 "7").length=3000:=by have:=congrArg List.length K5;rw[DV] at this;simpa[Str.length] using this
 have h1:iG (dO 3000 "7")=false:=by
  cases h:iG (dO 3000 "7") with
  |false=>rfl
  |true=>have:=Ab h;omega
 refine⟨?_,?_⟩;rw[bA h1];show (aW (dO 3000 "7") || false)=false;cases h:aW (dO 3000 "7") with
 |false=>rfl
 |true=>have:=hJ h;omega
 rw[K5];intro z;have:=List.eq_of_mem_replicate z;omega
section
variable(hy:aW y=true)
include hy
theorem jq{w:Str}(e:x.cps.toList=gl 32 [[112,117,116],y.cps.toList,w.cps.toList])(hw:32∉w.cps.toList)(ho:dS (bD w)=false):eA (br x)=false:=by
 rw[G3 (cV (ws:=["put",y,w]) (by rw[e];rfl) (by simp) (λv hv=>by
  simp only[bL,cq,or_false] at hv;obtain rfl|rfl|rfl:=hv
  decide +kernel;exact bN hy;exact hw))]
 show eA (jO [bD "put",bD y,bD w] (ahead (bD "put")))=false;rw[bA (show iG "put"=false by decide +kernel),bA (cZ hy),show ahead (.str "put")=none by decide +kernel];show (true && (bT (.str y) && (dS (bD w) && true)))=false;rw[ho];simp
theorem Qc:eA (br (("put "++y:Str)))=false:=by
 rw[G3 (cV (ws:=["put",y]) (by simp only[aN,dP,uB,gl,mh];rfl) (by simp) (λv hv=>by
  simp only[bL,cq,or_false] at hv;obtain rfl|rfl:=hv
  decide +kernel;exact bN hy))]
 show eA (jO [bD "put",bD y] (ahead (bD "put")))=false;rw[bA (show iG "put"=false by decide +kernel),bA (cZ hy),show ahead (.str "put")=none by decide +kernel];rfl
theorem Qd:eA (br (("put 5 "++y:Str)))=false:=by
 rw[G3 (cV (ws:=["put","5",y]) (by simp only[aN,dP,uB,gl,mh];rfl) (by simp) (λv hv=>by
  simp only[bL,cq,or_false] at hv;obtain rfl|rfl|rfl:=hv
  decide +kernel;decide +kernel;exact bN hy))]
 show eA (jO [bD "put",bD "5",bD y] (ahead (bD "put")))=false;rw[bA (show iG "put"=false by decide +kernel),bA (cZ hy),show ahead (.str "put")=none by decide +kernel];show (true && (bT (bD "5") && (dS (.str y) && true)))=false;rw[show bT (bD "5")=false by decide +kernel];simp
theorem Uc:eA (br (("do "++y++" plus 1 2":Str)))=false:=by
 rw[G3 (cV (ws:=["do",y,"plus","1","2"]) (by simp only[aN,dP,uB,gl,mh];rfl) (by simp) (λv hv=>by
  simp only[bL,cq,or_false] at hv;obtain rfl|rfl|rfl|rfl|rfl:=hv
  decide +kernel;exact bN hy;decide +kernel;decide +kernel;decide +kernel))]
 show eA (jO [bD "do",bD y,bD "plus",bD "1",bD "2"] (ahead (bD "do")))=false;rw[bA (show iG "do"=false by decide +kernel),bA (cZ hy),show ahead (.str "do")=none by decide +kernel];show (true && (bT (.str y) && (dS (bD "plus") && (CQ (bD "1") && (dS (bD "2") && true)))))=false;rw[show CQ (bD "1")=false by decide +kernel];simp
theorem Ud:eA (br (("do "++y++" 1 plus 2 3":Str)))=false:=by
 rw[G3 (cV (ws:=["do",y,"1","plus","2","3"]) (by simp only[aN,dP,uB,gl,mh];rfl) (by simp) (λv hv=>by
  simp only[bL,cq,or_false] at hv;obtain rfl|rfl|rfl|rfl|rfl|rfl:=hv
  decide +kernel;exact bN hy;decide +kernel;decide +kernel;decide +kernel;decide +kernel))]
 show eA (jO [bD "do",bD y,bD "1",bD "plus",bD "2",bD "3"] (ahead (bD "do")))=false;rw[bA (show iG "do"=false by decide +kernel),bA (cZ hy),show ahead (.str "do")=none by decide +kernel];rfl
theorem Qe:eA (br (("get "++y++" "++y++" .":Str)))=false:=by
 rw[G3 (cV (ws:=["get",y,y,"."]) (by simp only[aN,dP,uB,gl,mh];rfl) (by simp) (λv hv=>by
  simp only[bL,cq,or_false] at hv;obtain rfl|rfl|rfl|rfl:=hv
  decide +kernel;exact bN hy;exact bN hy;decide +kernel))]
 show eA (jO [bD "get",bD y,bD y,bD "."] (ahead (bD "get")))=false;rw[bA (show iG "get"=false by decide +kernel),bA (cZ hy),show ahead (.str "get")=none by decide +kernel];show (true && (bT (.str y) && (bT (.str y) && (sg (bD ".") && true))))=false;rw[show sg (bD ".")=false by decide +kernel];simp
theorem Qf:eA (br (("get "++y++" 4 .a":Str)))=false:=by
 rw[G3 (cV (ws:=["get",y,"4",".a"]) (by simp only[aN,dP,uB,gl,mh];rfl) (by simp) (λv hv=>by
  simp only[bL,cq,or_false] at hv;obtain rfl|rfl|rfl|rfl:=hv
  decide +kernel;exact bN hy;decide +kernel;decide +kernel))]
 show eA (jO [bD "get",bD y,bD "4",bD ".a"] (ahead (bD "get")))=false;rw[bA (show iG "get"=false by decide +kernel),bA (cZ hy),show ahead (.str "get")=none by decide +kernel];show (true && (bT (.str y) && (bT (bD "4") && (sg (bD ".a") && true))))=false;rw[show bT (bD "4")=false by decide +kernel];simp
theorem Ue:eA (br (("set "++y++" .a":Str)))=false:=by
 rw[G3 (cV (ws:=["set",y,".a"]) (by simp only[aN,dP,uB,gl,mh];rfl) (by simp) (λv hv=>by
  simp only[bL,cq,or_false] at hv;obtain rfl|rfl|rfl:=hv
  decide +kernel;exact bN hy;decide +kernel))]
 show eA (jO [bD "set",bD y,bD ".a"] (ahead (bD "set")))=false;rw[bA (show iG "set"=false by decide +kernel),bA (cZ hy),show ahead (.str "set")=none by decide +kernel];rfl
theorem K6:eA (br (("call "++y:Str)))=false:=by
 rw[G3 (cV (ws:=["call",y]) (by simp only[aN,dP,uB,gl,mh];rfl) (by simp) (λv hv=>by
  simp only[bL,cq,or_false] at hv;obtain rfl|rfl:=hv
  decide +kernel;exact bN hy))]
 show eA (jO [bD "call",bD y] (ahead (bD "call")))=false;rw[bA (show iG "call"=false by decide +kernel),bA (cZ hy),show ahead (.str "call")=some 3 by decide +kernel];rfl
theorem K7:eA (br (("call "++y++" 5 1":Str)))=false:=by
 rw[G3 (cV (ws:=["call",y,"5","1"]) (by simp only[aN,dP,uB,gl,mh];rfl) (by simp) (λv hv=>by
  simp only[bL,cq,or_false] at hv;obtain rfl|rfl|rfl|rfl:=hv
  decide +kernel;exact bN hy;decide +kernel;decide +kernel))]
 show eA (jO [bD "call",bD y,bD "5",bD "1"] (ahead (bD "call")))=false;rw[bA (show iG "call"=false by decide +kernel),bA (cZ hy),show ahead (.str "call")=some 3 by decide +kernel];show (true && (bT (.str y) && (bT (bD "5") && (zF (.tup [bD "1"]) && true))))=false;rw[show bT (bD "5")=false by decide +kernel];simp
theorem K8:eA (br (("call "++y++" a 1 2 3 4 5":Str)))=false:=by
 rw[G3 (cV (ws:=["call",y,"a","1","2","3","4","5"]) (by simp only[aN,dP,uB,gl,mh];rfl) (by simp) (λv hv=>by
  simp only[bL,cq,or_false] at hv;obtain rfl|rfl|rfl|rfl|rfl|rfl|rfl|rfl:=hv
  decide +kernel;exact bN hy;decide +kernel;decide +kernel;decide +kernel;decide +kernel;decide +kernel;decide +kernel))]
 show eA (jO [bD "call",bD y,bD "a",bD "1",bD "2",bD "3",bD "4",bD "5"] (ahead (bD "call")))=false;rw[bA (show iG "call"=false by decide +kernel),bA (cZ hy),show ahead (.str "call")=some 3 by decide +kernel];show (true && (bT (.str y) && (bT (bD "a") && (zF (.tup [bD "1",bD "2",bD "3",bD "4",bD "5"]) && true))))=false;rw[show zF (.tup [bD "1",bD "2",bD "3",bD "4",bD "5"])=false by rfl];simp
theorem Yv:eA (br (("put "++y++" 01":Str)))=false:=jq hy (w:="01") (by simp only[aN,gl,mh];rfl) (by have:=gE.mp bO ("01") (by simp);simp only[eJ,yH,decide_eq_true_eq] at this;exact this.2) (by have:=gE.mp bO ("01") (by simp);simp only[eJ,yH,decide_eq_true_eq] at this;exact this.1)
theorem Yw:eA (br (("put "++y++" +1":Str)))=false:=jq hy (w:="+1") (by simp only[aN,gl,mh];rfl) (by have:=gE.mp bO ("+1") (by simp);simp only[eJ,yH,decide_eq_true_eq] at this;exact this.2) (by have:=gE.mp bO ("+1") (by simp);simp only[eJ,yH,decide_eq_true_eq] at this;exact this.1)
theorem Yx:eA (br (("put "++y++" -0":Str)))=false:=jq hy (w:="-0") (by simp only[aN,gl,mh];rfl) (by have:=gE.mp bO ("-0") (by simp);simp only[eJ,yH,decide_eq_true_eq] at this;exact this.2) (by have:=gE.mp bO ("-0") (by simp);simp only[eJ,yH,decide_eq_true_eq] at this;exact this.1)
theorem Yy:eA (br (("put "++y++" 1_0":Str)))=false:=jq hy (w:="1_0") (by simp only[aN,gl,mh];rfl) (by have:=gE.mp bO ("1_0") (by simp);simp only[eJ,yH,decide_eq_true_eq] at this;exact this.2) (by have:=gE.mp bO ("1_0") (by simp);simp only[eJ,yH,decide_eq_true_eq] at this;exact this.1)
theorem Yz:eA (br (("put "++y++" 1"++dO 30 "0":Str)))=false:=jq hy (w:="1"++dO 30 "0") (by simp only[aN,gl,mh];rfl) (by have:=gE.mp bO ("1"++dO 30 "0") (by simp);simp only[eJ,yH,decide_eq_true_eq] at this;exact this.2) (by have:=gE.mp bO ("1"++dO 30 "0") (by simp);simp only[eJ,yH,decide_eq_true_eq] at this;exact this.1)
theorem YA:eA (br (("put "++y++" "++dO 32 "9":Str)))=false:=jq hy (w:=dO 32 "9") (by simp only[aN,gl,mh];rfl) (by have:=gE.mp bO (dO 32 "9") (by simp);simp only[eJ,yH,decide_eq_true_eq] at this;exact this.2) (by have:=gE.mp bO (dO 32 "9") (by simp);simp only[eJ,yH,decide_eq_true_eq] at this;exact this.1)
theorem YB:eA (br (("put "++y++" -1"++dO 29 "0"++"1"++"0":Str)))=false:=jq hy (w:="-1"++dO 29 "0"++"1"++"0") (by simp only[aN,gl,mh];rfl) (by have:=gE.mp bO ("-1"++dO 29 "0"++"1"++"0") (by simp);simp only[eJ,yH,decide_eq_true_eq] at this;exact this.2) (by have:=gE.mp bO ("-1"++dO 29 "0"++"1"++"0") (by simp);simp only[eJ,yH,decide_eq_true_eq] at this;exact this.1)
theorem YC:eA (br (("put "++y++" "++dO 3000 "7":Str)))=false:=jq hy (w:=dO 3000 "7") (by simp only[aN,gl,mh];rfl) (Ac.2) (Ac.1)
theorem Qg:eA (br ("put "++y++"  1":Str))=false:=qS (by
 have e:("put "++y++"  1":Str).cps.toList=gl 32 [[112,117,116],y.cps.toList,[],[49]]:=by simp only[aN,gl,mh];rfl
 rw[e,G2 (by simp) (λw hw=>by
  simp only[bL,cq,or_false] at hw;obtain rfl|rfl|rfl|rfl:=hw
  decide;exact bN hy;decide;decide)]
 simp)
theorem Qh:eA (br ("do "++y++" 1 + 2":Str))=false:=qR (c:=43) (by rw[aN];exact kC _ (by decide +kernel)) (by decide) (by decide) (by decide) (by decide)
end
noncomputable def vP(y:Str):qai:=([""," ","put","put "++y,"put "++y++" 01","put "++y++" +1","put "++y++" -0"]:qai)
 ++ (["put "++y++" 1_0","put "++y++" 1"++dO 30 "0","put "++y++" "++dO 32 "9"]:qai)
 ++ (["put "++y++" -1"++dO 29 "0"++"1"++"0","put 5 "++y,"put "++y++"  1","put  1"]:qai)
 ++ (["do "++y++" plus 1 2","do "++y++" 1 + 2","do "++y++" 1 plus 2 3","new 7","new"]:qai)
 ++ (["get "++y++" "++y++" .","get "++y++" 4 .a","set "++y++" .a","give .a"]:qai)
 ++ (["call "++y,"call "++y++" 5 1","call "++y++" a 1 2 3 4 5","def","def 5"]:qai)
 ++ (["def a b b"]:qai)
 ++ (["def a b c d e f","def a 1","fail 3","fail","if","if a b","else a","end "," end","skip 0"]:qai)
 ++ (["SKIP","put "++y++" "++dO 3000 "7"]:qai)
theorem BQ(hy:aW y=true):∀x∈vP y,eA (br x)=false:=by
 have cl:∀x∈(["put","new 7","new","give .a","def","def 5","def a b b","def a b c d e f","def a 1","fail 3","fail","if","if a b","else a","skip 0",""," ","put  1","end "," end","SKIP"]:qai),eA (br x)=false:=λx hx=>by have:=gE.mp closed x hx;simpa using this
 intro x hx;unfold vP at hx;simp only[QU,RH,bL,cq,or_false] at hx;obtain rfl|rfl|rfl|rfl|rfl|rfl|rfl|rfl|rfl|rfl|rfl|rfl|rfl|rfl|rfl|rfl|rfl|rfl|rfl|rfl|rfl|rfl|rfl|rfl|rfl|rfl|rfl|rfl|rfl|rfl|rfl|rfl|rfl|rfl|rfl|rfl|rfl|rfl|rfl|rfl|rfl:=hx
 exact cl _ (by simp);exact cl _ (by simp);exact cl _ (by simp);exact Qc hy;exact Yv hy;exact Yw hy;exact Yx hy;exact Yy hy;exact Yz hy;exact YA hy;exact YB hy;exact Qd hy;exact Qg hy;exact cl _ (by simp);exact Uc hy;exact Qh hy;exact Ud hy;exact cl _ (by simp);exact cl _ (by simp);exact Qe hy;exact Qf hy;exact Ue hy;exact cl _ (by simp);exact K6 hy;exact K7 hy;exact K8 hy;exact cl _ (by simp);exact cl _ (by simp);exact cl _ (by simp);exact cl _ (by simp);exact cl _ (by simp);exact cl _ (by simp);exact cl _ (by simp);exact cl _ (by simp);exact cl _ (by simp);exact cl _ (by simp);exact cl _ (by simp);exact cl _ (by simp);exact cl _ (by simp);exact cl _ (by simp);exact YC hy
structure Lp(x:Str)(n c:Nat):Prop where
 len:x.length<=n
 line:10∉x.cps.toList
 D5:x.cps.toList.count 32<=c
noncomputable def K_(x:Str)(n c:Nat):Bool:=decide (x.length<=n) && (decide (10∉x.cps.toList) && decide (x.cps.toList.count 32<=c))
theorem Lp.mk'(h:K_ x n c=true):Lp x n c:=by unfold K_ at h;simp only[eJ,decide_eq_true_eq] at h;exact⟨h.1,h.2.1,h.2.2⟩
theorem len_app(a b:Str):(a++b).length=a.length+b.length:=by have:=congrArg List.length (aN a b);rw[j6] at this;simpa[Str.length] using this
theorem Lp.app{d:Nat}(h:Lp x n c)(k:Lp y m d):Lp (x++y) (n+m) (c+d) :=
 ⟨by rw[len_app];have:=h.len;have:=k.len;omega,by rw[aN];exact λz=>(gF.mp z).elim h.line k.line,by rw[aN,Nc];have:=h.D5;have:=k.D5;omega⟩
theorem Lp.nm(hy:aW y=true):Lp y 8 0 :=
 ⟨hJ hy,λz=>by have:=Pt.free (p:=.nm y) hy 10 z;omega,QZ (U4.mpr (bN hy))⟩
theorem Lp.ln(h:Lp x n c)(hn:n<=3100)(hc:c<=9)(hd:qT x.cps.toList):Ln x:=⟨mw h.len hn,h.line,mw h.D5 hc,hd⟩
theorem Ad(y:Str)(h:qT x.cps.toList)(hn:x.cps.toList≠[]):qT (x++y).cps.toList:=by
 rw[aN];cases e:x.cps.toList with
 |nil=>exact absurd e hn
 |cons a l=>rw[e] at h;exact h
noncomputable def MI(x:Str):Bool:=match x.cps.toList with
 |[]=>false
 |c::_=>decide (c=32\/(c≠45/\¬ (48<=c/\c<=57)))
theorem ub(h:MI x=true):qT x.cps.toList/\x.cps.toList≠[]:=by
 unfold MI at h;split at h;cases h
 rename_i c l e
 rw[e];have h':c=32\/(c≠45/\¬ (48<=c/\c<=57)):=of_decide_eq_true h;exact⟨h',by simp⟩
theorem G4:Lp (dO 3000 "7") 3000 0:=⟨by
 have:=congrArg List.length K5;rw[DV] at this;exact QZ (by simpa[Str.length] using this),by rw[K5];intro z;have:=List.eq_of_mem_replicate z;omega,QZ (U4.mpr Ac.2)⟩
theorem Ae{a:Str}(hy:aW y=true)(h1:(K_ a 20 4 && MI a)=true):Ln (a++y):=by obtain⟨h,k⟩:=oQ.mp h1;obtain⟨k1,k2⟩:=ub k;exact ((Lp.mk' h).app (Lp.nm hy)).ln (by omega) (by omega) (Ad y k1 k2)
theorem nG{b:Str}{d:Nat}(h:Lp x n c)(hb:Lp b m d)(h1:qT x.cps.toList/\x.cps.toList≠[])(hn:n+m<=3100)(hc:c+d<=9):Ln (x++b):=(h.app hb).ln hn hc (Ad b h1.1 h1.2)
theorem nH(y:Str)(h:qT x.cps.toList/\x.cps.toList≠[]):qT (x++y).cps.toList/\(x++y).cps.toList≠[]:=⟨Ad y h.1 h.2,by rw[aN];intro z;exact h.2 (List.append_eq_nil_iff.mp z).1⟩
theorem dC{a b:Str}(hy:aW y=true)(h1:(K_ a 20 2 && MI a)=true)(h2:K_ b 100 7=true):Ln (a++y++b):=by obtain⟨h,k⟩:=oQ.mp h1;exact nG ((Lp.mk' h).app (Lp.nm hy)) (Lp.mk' h2) (nH y (ub k)) (by omega) (by omega)
theorem G5(a b c:Str):a++b++c=a++(b++c):=fQ (by simp only[aN,mh])
theorem G6(hy:aW y=true):∀x∈vP y,Ln x:=by
 have cl:∀x∈(["put","new 7","new","give .a","def","def 5","def a b b","def a b c d e f","def a 1","fail 3","fail","if","if a b","else a","skip 0"," ","put  1","end "," end","SKIP"]:qai),Ln x:=λx hx=>by
  have c0:(["put","new 7","new","give .a","def","def 5","def a b b","def a b c d e f","def a 1","fail 3","fail","if","if a b","else a","skip 0"," ","put  1","end "," end","SKIP"]:qai).all (λx=>K_ x 100 9 && MI x)=true:=by decide +kernel
  have:=gE.mp c0 x hx;obtain⟨h,k⟩:=oQ.mp this;exact (Lp.mk' h).ln (by omega) (by omega) (ub k).1
 intro x hx;unfold vP at hx;simp only[QU,RH,bL,cq,or_false] at hx;obtain rfl|rfl|rfl|rfl|rfl|rfl|rfl|rfl|rfl|rfl|rfl|rfl|rfl|rfl|rfl|rfl|rfl|rfl|rfl|rfl|rfl|rfl|rfl|rfl|rfl|rfl|rfl|rfl|rfl|rfl|rfl|rfl|rfl|rfl|rfl|rfl|rfl|rfl|rfl|rfl|rfl:=hx
 exact⟨by decide,by decide +kernel,by decide +kernel,trivial⟩;exact cl _ (by simp);exact cl _ (by simp);exact Ae hy (by decide +kernel);exact dC hy (by decide +kernel) (by decide +kernel);exact dC hy (by decide +kernel) (by decide +kernel);exact dC hy (by decide +kernel) (by decide +kernel);exact dC hy (by decide +kernel) (by decide +kernel);rw[G5];exact dC hy (by decide +kernel) (by decide +kernel);rw[G5];exact dC hy (by decide +kernel) (by decide +kernel);rw[G5,G5,G5];exact dC hy (by decide +kernel) (by decide +kernel);exact Ae hy (by decide +kernel);exact dC hy (by decide +kernel) (by decide +kernel);exact cl _ (by simp);exact dC hy (by decide +kernel) (by decide +kernel);exact dC hy (by decide +kernel) (by decide +kernel);exact dC hy (by decide +kernel) (by decide +kernel);exact cl _ (by simp);exact cl _ (by simp);have h:(K_ "get " 20 2 && MI "get ")=true:=by decide +kernel
 obtain⟨h1,k⟩:=oQ.mp h;exact nG ((((Lp.mk' h1).app (Lp.nm hy)).app (Lp.mk' (x:=" ") (n:=1) (c:=1) (by decide +kernel))).app (Lp.nm hy)) (Lp.mk' (x:=" .") (n:=2) (c:=1) (by decide +kernel)) (nH _ (nH _ (nH _ (ub k)))) (by omega) (by omega);exact dC hy (by decide +kernel) (by decide +kernel);exact dC hy (by decide +kernel) (by decide +kernel);exact cl _ (by simp);exact Ae hy (by decide +kernel);exact dC hy (by decide +kernel) (by decide +kernel);exact dC hy (by decide +kernel) (by decide +kernel);exact cl _ (by simp);exact cl _ (by simp);exact cl _ (by simp);exact cl _ (by simp);exact cl _ (by simp);exact cl _ (by simp);exact cl _ (by simp);exact cl _ (by simp);exact cl _ (by simp);exact cl _ (by simp);exact cl _ (by simp);exact cl _ (by simp);exact cl _ (by simp);exact cl _ (by simp);have h:(K_ "put " 20 2 && MI "put ")=true:=by decide +kernel
 obtain⟨h1,k⟩:=oQ.mp h;exact nG (((Lp.mk' h1).app (Lp.nm hy)).app (Lp.mk' (x:=" ") (n:=1) (c:=1) (by decide +kernel))) G4 (nH _ (nH _ (ub k))) (by omega) (by omega)
end GR
namespace VT
open PySem PySem.Spec PyProof.Rows L2 PySem.Builtin PySem.Builtin.Str
theorem uc:∀(n:Nat)(l:qai),Vals (l.map V.str) (strsFrom n l)
 |_,[]=>.nil
 |n,x::l=>.cons ⟨n,rfl⟩ (uc (n+1) l)
section
theorem G7:Ia X "str.split" (λx xs H Q=>∃(z y:Str),x=.str z/\xs=[.str y]/\(y.length==0)=false/\z.length+2<=sizeLine/\∀l,H l=none->Q (.ref l) (upd H l (.lst ((Txt.split z y).map V.str)))):=by
 intro pins s σ H x xs v us Q I rx rs h;obtain⟨z,y,rfl,rfl,hy,hz,q⟩:=h;obtain⟨t,rfl⟩:=rx;obtain⟨u,rfl,t2,rfl⟩:=vals1 rs;have hz':z.length<=sizeLine:=by omega
 have key:∀(aK:qag)(k:Nat),s.toks<=k->Vals ((Txt.split z y).map V.str) aK->(Txt.split z y).length<=sizeLine ->
   EP X pins σ Q (.ref s.heap.objs.size) {s with toks:=k,heap:=s.heap.push {cls:=.type "list",data:=.seq aK.toArray} }:=λaK k hk r' hl=>
  ⟨.ref s.heap.objs.size,_,I.laid (t':=k) (λb o' e=>eD _ e) (eB _) (show b_ X.prog X.w _ _ _ (.lst ((Txt.split z y).map V.str)) from⟨by rw[bQ];exact hl,aK,0,r',ph _ rfl⟩),rfl,q _ (I.bG.fresh (eB _))⟩
 cases h1:(decide (z.length<y.length) || decide (strKind z<strKind y)) with
 |true=>have e:Txt.split z y=[z]:=if_pos h1;exact call_meets UT (typeIs_str _ _ _) Wb (V7 _ _) (meets_str_split_cannot_occur z y t t2 h1) (key [.str z t] s.toks (eB _) (by rw[e];exact .cons ⟨t,rfl⟩ .nil) (by rw[e];show 1<=sizeLine;decide))
 |false=>
   cases hf:(occurrences z y 0 z.length (z.length+1)).isEmpty with
   |true=>have e:Txt.split z y=[z]:=(if_neg (by rw[h1];exact iV)).trans (if_pos hf);exact call_meets UT (typeIs_str _ _ _) Wb (V7 _ _) (meets_str_split_not_found z y t t2 h1 hy hf) (key [.str z t] s.toks (eB _) (by rw[e];exact .cons ⟨t,rfl⟩ .nil) (by rw[e];show 1<=sizeLine;decide))
   |false=>
     have e:Txt.split z y=partsBetween z (occurrences z y 0 z.length (z.length+1)) y.length:=(if_neg (by rw[h1];exact iV)).trans (if_neg (by rw[hf];exact iV));have hl:(Txt.split z y).length<=sizeLine:=mw (split_le z y) hz;exact call_meets UT (typeIs_str _ _ _) Wb (V7 _ _) (meets_str_split_sep z y t t2 h1 hy hf hz' (by rw[<- e];exact hl)) (by have:=key (strsFrom s.toks (Txt.split z y)) (s.toks+(Txt.split z y).length) (Nat.le_add_right _ _) (uc _ _) hl;rw[e] at this;exact this)
theorem ud:cN X (.type "str") (λxs H Q=>(∃z,xs=[.str z]/\Q (.str z) H)\/∃i:Int,xs=[.int i]/\i.natAbs.log2<1920/\Q (.str (toString i)) H):=by
 intro pins s σ H xs us Q I r h;obtain⟨z,rfl,q⟩|⟨i,rfl,hi,q⟩:=h
 obtain⟨u,rfl,t,rfl⟩:=vals1 r;exact PySem.P.str_of_str ⟨.str z,H,I,⟨t,rfl⟩,q⟩;obtain⟨u,rfl,t,rfl⟩:=vals1 r;exact PySem.P.str_of_int hi ⟨.str _,H,I.tok _,⟨_,rfl⟩,q⟩
theorem Dr:cN X (.type "int") (λxs H Q=>∃(z:Str)(n:Int),xs=[.str z]/\PySem.intText? z=some n/\z.length<=640/\Q (.int n) H):=by intro pins s σ H xs us Q I r h;obtain⟨z,n,rfl,hn,hl,q⟩:=h;obtain⟨u,rfl,t,rfl⟩:=vals1 r;exact PySem.W.KIN.call_text hn hl ⟨.int n,H,I.tok _,⟨_,rfl⟩,q⟩
end
def MJ(ts:qaj)(q:qam):Prop:=match ts with
 |[.str z]=>q (.vw (.str z))
 |[.int i]=>i.natAbs.log2<1920/\q (.vw (.str (toString i)))
 |_=>False
theorem qV:jU K (λxs H Q=>(∃z,xs=[.str z]/\Q (.str z) H)\/∃i:Int,xs=[.int i]/\i.natAbs.log2<1920/\Q (.str (toString i)) H) MJ:=by intro Z tm O ρ σ H ts vs q Q I h hp k;unfold MJ at hp;split at hp;obtain⟨v,rfl,a⟩:=cb h;exact .inl ⟨_,by rw[a.str],k _ hp _ H (aL.refl H) ⟨I,bJ⟩⟩;obtain⟨v,rfl,a⟩:=cb h;exact .inr ⟨_,by rw[a.int],hp.1,k _ hp.2 _ H (aL.refl H) ⟨I,bJ⟩⟩;exact hp.elim
def MK(ts:qaj)(q:qam):Prop:=match ts with
 |[.str z]=>∃n,PySem.intText? z=some n/\z.length<=640/\q (.vw (.int n))
 |_=>False
theorem Af:jU K (λxs H Q=>∃(z:Str)(n:Int),xs=[.str z]/\PySem.intText? z=some n/\z.length<=640/\Q (.int n) H) MK:=by intro Z tm O ρ σ H ts vs q Q I h hp k;unfold MK at hp;split at hp;obtain⟨v,rfl,a⟩:=cb h;obtain⟨n,h1,h2,h3⟩:=hp;exact⟨_,n,by rw[a.str],h1,h2,k _ h3 _ H (aL.refl H) ⟨I,bC⟩⟩;exact hp.elim
theorem G8:bootBuiltins "str"=some (.type "str"):=by decide +kernel
section
variable{o:Expr}{fo:FE}
theorem yj{K:qaf}{H:Hp}{A:qah}:∀ys:qai,aB K H A (ys.map .str) (ys.map V.str)
 |[]=>aB.nil
 |_::ys=>aB.cons bJ (yj ys)
def Qi(fo fe:FE):FP:=λρ Q=>fo ρ λx=>match x with
 |.str z=>fe ρ λy=>match y with
  |.str y=>(y.length==0)=false/\z.length+2<=sizeLine/\Q (.fr (.lst ((Txt.split z y).map .str)))
  |_=>False
 |_=>False
theorem yk(ho:VR X Z o fo)(he:VR X Z e fe)(cO:attributeBase o "split" X.env (eval o X.env)=eval o X.env:=by rfl)(ik:((backTo aT (starEach [e] X.env)).all (λx=>!x.1) && (backToKw aT (keywordEach [] X.env)).all (λx=>x.1.isSome)
    && decide (([e]:qap).length+([]:List Keyword).length+(if ([]:List Keyword).isEmpty then 0 else 1)<30))=true:=by rfl)(cP:(apos.endLine==aT.line)=true:=by rfl)(hs:starEach [e] X.env=(false,eval e X.env)::starEach [] X.env:=by rfl)(dz:(backTo aT (starEach [] X.env)).any (·.1)=false:=by rfl) :
  VP X Z (.Call (.Attribute o "split" apos) [e] [] aT) (Qi fo fe):=.mk λtm=>
 PE.weak (pF US UT PySem.F.type_str_split G7 (ho tm) (bj (he tm) cF hs) cO ik cP hs dz) λσ H Q ⟨ρ,O,q,I,hf,k⟩ =>
  ⟨ρ,O,_,I,hf,λx hx v H1 s1 a1=>by
    split at hx
    rename_i z
    have ev:=a1.str;subst ev;refine⟨rfl,ρ,O,_,I.same s1,hx,λy hy w H2 s2 a2=>?_⟩;split at hy;have ew:=a2.str;subst ew;obtain⟨h1,h2,h3⟩:=hy;exact⟨z,_,rfl,rfl,h1,h2,λl hl=>k _ h3 _ _ ((s1.trans s2).trans (aQ hl)) (((I.same s1).same s2).ze hl (yj _))⟩;exact hy.elim;exact hx.elim⟩
end
noncomputable def vQ(n:Nat)(x:Str):Str:=⟨⟨(List.replicate n x.cps.toList).flatten⟩⟩
theorem ue:∀(l:List (Array Nat))(a:Array Nat),(l.foldl (·++·) a).toList=a.toList++(l.map (·.toList)).flatten
 |[],a=>by simp
 |b::l,a=>by rw[List.foldl_cons,ue l,QQ,dP,Iu,mh]
theorem K'(h2:2<=m)(h1:x.length=1):Txt.mul x (m:Int)=vQ m x:=by unfold Txt.mul;rw[if_neg (by omega),if_neg (by rw[h1];simp;omega)];obtain⟨a⟩:=x;refine congrArg Str.mk (Array.ext' ?_);rw[ue,DW,List.map_replicate];rfl
section
variable{a:Expr}
theorem La:fD X (binaryOp .Mult) (λx y H Q=>∃(z:Str)(m:Nat),x=.str z/\y=.int (m:Int)/\2<=m/\m<=4000/\z.length=1/\Q (.str (vQ m z)) H):=by
 intro pins s σ H x y v u Q I rx ry h;obtain⟨z,m,rfl,rfl,h2,h4,h1,q⟩:=h;obtain⟨t,rfl⟩:=rx;obtain⟨t',rfl⟩:=ry;refine SB.mul ⟨?_,λ_ _=>?_,λ_ _=>?_⟩ λt' k=>?_;have e:(2:Int) ^ 63=9223372036854775808:=by decide
 rw[e,U0];exact⟨decide_eq_false (by omega),decide_eq_false (by omega)⟩;have e:(2:Int) ^ 63=9223372036854775808:=by decide
 rw[e,h1];have h5:(1:Int)<=(9223372036854775808-1) / (m:Int):=Int.le_ediv_of_mul_le (by omega) (by omega);exact Int.not_lt.mpr h5;unfold tooLong;rw[h1,DW,sizeLine_eq];exact decide_eq_false (by omega);rw[K' h2 h1];exact⟨.str _,H,I.tok _,⟨_,rfl⟩,q⟩
def G9(x y:T)(q:qam):Prop:=match x,y with
 |.str z,.int n=>∃m:Nat,n=(m:Int)/\2<=m/\m<=4000/\z.length=1/\q (.vw (.str (vQ m z)))
 |_,_=>False
theorem G_:pL K (λx y H Q=>∃(z:Str)(m:Nat),x=.str z/\y=.int (m:Int)/\2<=m/\m<=4000/\z.length=1/\Q (.str (vQ m z)) H) G9:=by intro Z tm O ρ σ H x y v w q Q I h1 h2 h k;unfold G9 at h;split at h;obtain⟨m,rfl,a,b,c,d⟩:=h;exact⟨_,m,h1.str,h2.int,a,b,c,k _ d _ H (aL.refl H) ⟨I,bJ⟩⟩;exact h.elim
theorem pd(ha:VR X Z a fa)(hb:VR X Z b fb):VP X Z (.BinOp a .Mult b pos) (f2 fa fb G9):=j' La G_ ha hb
end
end VT
namespace VT
open PySem PySem.Spec PySem.Calls PyProof.Rows L2 PySem.Builtin PySem.Builtin.Str
noncomputable def rep1(x y z:Str):Str:=if (occurrences x y 0 x.length 1).isEmpty=true then x else glued z (partsBetween x (occurrences x y 0 x.length 1) y.length)
theorem Ag(x y z:Str)(t u v k:Tok)(hy:(y.length==0)=false)(h0:(u==0 || v==0)=false)(huv:(u==v)=false)(hyz:(y==z)=false)(hl:tooLong (x.length+(occurrences x y 0 x.length 1).length * z.length)=false) :
  Gives («str.replace» ⟨[.str x t,.str y u,.str z v,.int 1 k],[]⟩) (if (occurrences x y 0 x.length 1).isEmpty=true then .val (.str x t) else .str (glued z (partsBetween x (occurrences x y 0 x.length 1) y.length))):=by
 show Gives (if ((occurrences x y 0 x.length 1).isEmpty || (y.length==0 && z.length==0))=true then (do rule "str.replace.nothing";ret (.str x t)) else
   (isSame (.str y u) (.str z v) >>= λsame=>if same=true then (do rule "str.replace.old-is-new";ret (.str x t)) else if tooLong (x.length+(occurrences x y 0 x.length 1).length * z.length)=true then unsupported "str.replace:memory" else retStr (glued z (partsBetween x (occurrences x y 0 x.length 1) y.length)))) _
 rw[hy,DZ,Bool.or_false];cases hc:(occurrences x y 0 x.length 1).isEmpty;rw[isSame_str_other y z u v h0 huv hyz,hl];exact .of_eq rfl;exact .rule (.of_eq rfl)
theorem yl(x y z:Str)(hy:y.length=1):rep1 x y z=x\/∃i,i<x.length/\(rep1 x y z).cps.toList=x.cps.toList.take i++z.cps.toList++x.cps.toList.drop (i+1):=by
 have h1:=StrLaws.occ_length_le x y 0 x.length 1;have h2:=StrLaws.occ_spec x y 0 x.length 1;unfold rep1;cases e:occurrences x y 0 x.length 1 with
 |nil=>exact .inl rfl
 |cons i l=>
  rw[e] at h1 h2;cases l with
  |cons a b=>simp at h1
  |nil=>
   have h3:=(h2 i (by simp)).1;rw[hy] at h3;refine .inr ⟨i,by omega,?_⟩;rw[hy];show ((x.cps.extract 0 i++z.cps)++x.cps.extract (i+1) x.length).toList=_;have hl:x.length=x.cps.toList.length:=by simp[Str.length]
   rw[QQ,QQ,Array.toList_extract,Array.toList_extract];simp only[List.extract_eq_take_drop,List.drop_zero,Nat.sub_zero];rw[LJ (l:=x.cps.toList.drop (i+1)) (by rw[DY,hl];exact eB _)]
theorem qW(x y z:Str)(hy:y.length=1):(rep1 x y z).length<=x.length+z.length:=by
 rcases yl x y z hy with e|⟨i,hi,e⟩
 rw[e];omega;have:=congrArg List.length e;simp only[j6,Ea,DY,B_] at this;simp only[Str.length] at hi ⊢;omega
section
theorem G'{s:Shared}{σ:L2.St}(I:Inv X pins σ H s)(hN:X.N[i]?=some x)(hv:pk X.env.scope x)(e:σ[i]?=some (some v))(h:∀u,RelV v u->Q u s)(hd:fW x:=by decide)(gM:sN x:=by decide) :
  wpAny (model X.prog X.w) X.A (eval (.Name x pos) X.env) Q E s:=by
 obtain⟨m,hn,hl⟩:=I.loc;obtain⟨u,r,l⟩:=hl i x v hN e hv;have fin:Q u s:=h u r;obtain⟨hk,hm⟩|⟨hk,c,hc,pA⟩:=l
 exact wpAny_Name (wpAny_loadName_local I.ok.kind hk hn hm fin) hd;obtain hk|hk:=hk
 exact wpAny_Name (wpAny_loadName_cell I.ok.kind hk hc pA fin) hd;exact wpAny_Name (wpAny_loadName_free I.ok.kind hk hc pA fin gM) hd
theorem Lb{s:Shared}{σ:L2.St}{z:Str}{p0 q1 q2 q3:Pos}{j1 j2 j3:Nat}(I:Inv X pins σ H s)(h0:0<s.toks)(hN:X.N[i]?=some x)(hv:pk X.env.scope x)(e:σ[i]?=some (some (.str z)))(hz:z.length<=1000)(h:∀t k,Q (.str (rep1 z " " "  ") t) {s with toks:=k})(hd:(x==("__debug__":Str))=false)(gM:(x==("__classdict__":Str))=false)(cO:attributeBase (.Name x p0) "replace" X.env (eval (.Name x p0) X.env)=eval (.Name x p0) X.env)(ik:((backTo aT (starEach [.Constant (.str " ") j1 q1,.Constant (.str "  ") j2 q2,.Constant (.int 1) j3 q3] X.env)).all (λx=>!x.1) && (backToKw aT (keywordEach [] X.env)).all (λx=>x.1.isSome)
    && decide (([.Constant (.str " ") j1 q1,.Constant (.str "  ") j2 q2,.Constant (.int 1) j3 q3]:qap).length+([]:List Keyword).length+(if ([]:List Keyword).isEmpty then 0 else 1)<30))=true)(cP:(apos.endLine==aT.line)=true)(hs:starEach [.Constant (.str " ") j1 q1,.Constant (.str "  ") j2 q2,.Constant (.int 1) j3 q3] X.env=[(false,eval (.Constant (.str " ") j1 q1) X.env),(false,eval (.Constant (.str "  ") j2 q2) X.env),(false,eval (.Constant (.int 1) j3 q3) X.env)]) :
  wpAny (model X.prog X.w) X.A (eval (.Call (.Attribute (.Name x p0) "replace" apos) [.Constant (.str " ") j1 q1,.Constant (.str "  ") j2 q2,.Constant (.int 1) j3 q3] [] aT) X.env) Q E s:=by
 refine wpAny_Call_method cO ik cP US PySem.F.slot_str_replace PySem.F.type_str_replace (G' I hN hv e (λu r=>?_) hd gM);obtain⟨t,rfl⟩:=r;refine⟨typeIs_str _ _ _,(λa z=>nomatch z),?_⟩;rw[hs];refine Rq rfl (UZ ?_);show wpAny _ _ (spliced [(false,eval (.Constant (.str " ") j1 q1) X.env),(false,eval (.Constant (.str "  ") j2 q2) X.env),(false,eval (.Constant (.int 1) j3 q3) X.env)]) _ _ s;refine QR (Calls.Constant_str ?_);refine QR (Calls.Constant_str ?_);refine QR (wpAny_Constant_int ?_);refine Calls.spliced_nil ?_;have hlen:=StrLaws.occ_length_le z " " 0 z.length 1;have ly:(((" ":String):Str)).length=1:=by decide +kernel
 have lz:((("  ":String):Str)).length=2:=by decide +kernel
 refine call_gives PySem.F.slot_str_replace (typeIs_str _ _ _) PySem.F.entry_str_replace (PySem.F.args_str_replace_4 _ _ _ _) (Ag z " " "  " t s.toks (s.toks+1) (s.toks+1+1) (by decide +kernel) (by rw[U0];exact⟨beq_false_of_ne (Ca h0),beq_false_of_ne (Nat.succ_ne_zero s.toks)⟩) (beq_false_of_ne (Nat.succ_ne_self s.toks).symm) (by decide +kernel) (by unfold tooLong;rw[lz,sizeLine_eq];exact decide_eq_false (by omega))) ?_
 have hr:=qW z " " "  " ly;rw[lz] at hr;have hq:=h;unfold rep1 at hq hr;cases hc:(occurrences z " " 0 z.length 1).isEmpty;rw[hc] at hq hr;simp only[Bool.false_eq_true,if_false] at hq hr ⊢;exact⟨by rw[sizeLine_eq];omega,hq _ _⟩;rw[hc] at hq;simp only[if_true] at hq ⊢;exact hq _ _
variable{a:qaq}{ga:FS}
noncomputable def Qj(ib il:Nat)(ga:FS):FS:=λd ρ=>∃(n:Int)(z:Str),ρ[ib]?=some (some (.int n,false))/\ρ[il]?=some (some (.str z,false))/\z.length<=1000/\(if n=2 then ga {d with nx:=λ_=>False} ρ else d.rt ρ (.vw (.str (rep1 z " " "  "++"\t"))))
theorem Ds(ib il:Nat){xb xl:Str}{pb qb pc p0 q1 q2 q3 q4 YD YE:Pos}{jb j1 j2 j3 j4:Nat}(ha:i7 X Z a ga)(hNb:X.N[ib]?=some xb:=by rfl)(hNl:X.N[il]?=some xl:=by rfl)(hvb:pk X.env.scope xb:=by exact Or.inl rfl)(hvl:pk X.env.scope xl:=by exact Or.inl rfl)(d1:fW xb:=by decide)(d2:sN xb:=by decide)(d3:fW xl:=by decide)(d4:sN xl:=by decide)(cO:attributeBase (.Name xl p0) "replace" X.env (eval (.Name xl p0) X.env)=eval (.Name xl p0) X.env:=by rfl)(ik:((backTo aT (starEach [.Constant (.str " ") j1 q1,.Constant (.str "  ") j2 q2,.Constant (.int 1) j3 q3] X.env)).all (λx=>!x.1) && (backToKw aT (keywordEach [] X.env)).all (λx=>x.1.isSome)
    && decide (([.Constant (.str " ") j1 q1,.Constant (.str "  ") j2 q2,.Constant (.int 1) j3 q3]:qap).length+([]:List Keyword).length+(if ([]:List Keyword).isEmpty then 0 else 1)<30))=true:=by rfl)(cP:(apos.endLine==aT.line)=true:=by rfl)(hs:starEach [.Constant (.str " ") j1 q1,.Constant (.str "  ") j2 q2,.Constant (.int 1) j3 q3] X.env=[(false,eval (.Constant (.str " ") j1 q1) X.env),(false,eval (.Constant (.str "  ") j2 q2) X.env),(false,eval (.Constant (.int 1) j3 q3) X.env)]:=by rfl) :
  i7 X Z [.If (.Compare (.Name xb pb) [.Eq] [.Constant (.int 2) jb qb] pc) a [] pos,.Return (some (.BinOp (.Call (.Attribute (.Name xl p0) "replace" apos) [.Constant (.str " ") j1 q1,.Constant (.str "  ") j2 q2,.Constant (.int 1) j3 q3] [] aT) .Add (.Constant (.str "\t") j4 q4) YD)) YE] (Qj ib il ga):=by
 refine .mk λtm pins s σ H D J ⟨ρ,O,d,I,⟨n,z,hb,hl,hz,hg⟩,F⟩=>?_;obtain⟨o,s',h3,h4,rfl,v,rfl,h5⟩:=I.sl ib _ hb;obtain⟨o2,s2',k3,k4,rfl,v2,rfl,k5⟩:=I.sl il _ hl;simp only[At] at h5 k5;subst h5 k5;refine wpAny_execs_cons (wpAny_If (wpAny_isTrue_Compare1 (G' J hNb hvb h4 (λu r=>wpAny_Constant_int ?_) d1 d2)));obtain⟨t,rfl⟩:=r;refine PyProof.Rows.eq_int (wpAny_truthy_bool ?_);by_cases hn:n=2
 . rw[if_pos hn] at hg;rw[show (n==2)=true by simpa using hn];refine cm (ha tm pins _ σ H {D with nx:=λ_ _=>False} (J.tok _) ⟨ρ,O,{d with nx:=λ_=>False},I,hg,⟨λ_ _ _ _ _ z=>z,F.rt,F.bk,F.ct⟩⟩) λfl s1 q=>?_;cases fl with
   |next=>obtain⟨_,_,_,q⟩:=q;exact q.elim
   |ret v=>exact q
   |_=>exact q
 rw[if_neg hn] at hg;rw[show (n==2)=false by simpa using hn];refine wpAny_execs_nil ?_;have lt:((("\t":String):Str)).length=1:=by decide +kernel
 have lz:((("  ":String):Str)).length=2:=by decide +kernel
 have hr:=qW z " " "  " (by decide +kernel);refine wpAny_execs_cons (wpAny_Return_some (wpAny_BinOp (Lb (J.tok _) (Nat.succ_pos _) hNl hvl k4 hz (λt k=>Calls.Constant_str ?_) d3 d4 cO ik cP hs)));exact add_str (λt' tk=>⟨.str (rep1 z " " "  "++"\t"),σ,H,J.tok _,⟨_,rfl⟩,F.rt O ρ σ H (.vw (.str _)) _ ⟨I,bJ⟩ hg⟩) (by rw[lt,sizeLine_eq];omega)
end
end VT
namespace GR
open PySem L2 VT Gen rR K9
open z8 (RT eA ck)
theorem vR(h:mj r):Lp (aI r) 200 6/\qT (aI r).cps.toList/\(aI r).cps.toList≠[]:=by obtain⟨h1,h2,h3⟩:=G1 h;obtain⟨c,l,e,_⟩:=qU h;exact⟨⟨h3,h1.line,h2⟩,h1.hd,by rw[e];simp⟩
def oh(x:Str):Prop:=Ln x/\eA (br x)=false
theorem Ha(h:mj r):oh (aI r++" "):=by obtain⟨h1,h2⟩:=vR h;refine⟨nG h1 (Lp.mk' (x:=" ") (n:=1) (c:=1) (by decide +kernel)) h2 (by omega) (by omega),qS ?_⟩;rw[aN,show ((" ":String):Str).cps.toList=[32] by decide +kernel,BL];simp
theorem Ah(h:mj r):oh (" "++aI r):=by
 obtain⟨h1,_⟩:=vR h;have k:(K_ " " 1 1 && MI " ")=true:=by decide +kernel
 obtain⟨k1,k2⟩:=oQ.mp k;refine⟨nG (Lp.mk' k1) h1 (ub k2) (by omega) (by omega),qS ?_⟩;rw[aN,show ((" ":String):Str).cps.toList=[32] by decide +kernel];show []∈jP (32::(aI r).cps.toList);rw[jP,if_pos rfl];exact eE
theorem Hb(h:i<=x.length):(Txt.slice x none (some (i:Int))).cps.toList=x.cps.toList.take i:=by have:=beq_iff_eq.mp (PyProof.Rows.slice_closes_toL (x:=x) (j:=(i:Int)) (by omega) (by omega));rw[this];simp
theorem Ai(h:i<=x.length):(Txt.slice x (some (i:Int)) none).cps.toList=x.cps.toList.drop i:=by
 have:=PyProof.Rows.slice_from_eq (x:=x) (i:=(i:Int)) (b:=(x.length:Int)) (by omega) (by omega) rfl;rw[this];have e:x.cps.toList.length=x.length:=by simp[Str.length]
 simp only[DW,U1];rw[LJ];rw[DY,e];omega
theorem Lc(h:mj r)(hi:i<=(aI r).length):oh (Txt.slice (aI r) none (some (i:Int))++"Z"++Txt.slice (aI r) (some (i:Int)) none):=by
 obtain⟨h1,h2,h3⟩:=vR h;have e:(Txt.slice (aI r) none (some (i:Int))++"Z"++Txt.slice (aI r) (some (i:Int)) none).cps.toList=(aI r).cps.toList.take i++90::(aI r).cps.toList.drop i:=by rw[aN,aN,Hb hi,Ai hi,show (("Z":String):Str).cps.toList=[90] by decide +kernel,mh];rfl
 refine⟨⟨?_,?_,?_,?_⟩,qR (c:=90) (by rw[e];simp) (by decide) (by decide) (by decide) (by decide)⟩;have:=congrArg List.length e;have hl:=h1.len;have e2:(aI r).cps.toList.length=(aI r).length:=by simp[Str.length]
 simp only[j6,rF,Ea,DY,B_] at this;simp only[Str.length] at this hl hi e2 ⊢;omega;rw[e];intro z;rcases gF.mp z with z|z
 exact h1.line (List.mem_of_mem_take z);rcases bL.mp z with z|z
 cases z;exact h1.line (RA z);rw[e,Nc,List.count_cons_of_ne (by decide)];have:=congrArg (List.count 32) (UY i (aI r).cps.toList);rw[Nc] at this;have:=h1.D5;omega;rw[e];cases i with
 |zero=>exact .inr ⟨by decide,by decide⟩
 |succ i=>
  cases hl:(aI r).cps.toList with
  |nil=>exact absurd hl h3
  |cons c l=>rw[hl] at h2;exact h2
theorem Hc(h:mj r):oh (rep1 (aI r) " " "  "++"\t"):=by
 obtain⟨h1,h2,h3⟩:=vR h;obtain⟨c0,l0,e0,c1,c2⟩:=qU h;have et:((("\t":String):Str)).cps.toList=[9]:=by decide +kernel
 have e2:((("  ":String):Str)).cps.toList=[32,32]:=by decide +kernel
 have lp:Lp (rep1 (aI r) " " "  ") 202 8/\qT (rep1 (aI r) " " "  ").cps.toList/\(rep1 (aI r) " " "  ").cps.toList≠[]:=by
  rcases yl (aI r) " " "  " (by decide +kernel) with e|⟨i,hi,e⟩
  rw[e];exact⟨⟨by have:=h1.len;omega,h1.line,by have:=h1.D5;omega⟩,h2,h3⟩;rw[e2] at e;refine⟨⟨?_,?_,?_⟩,?_,?_⟩;have:=qW (aI r) " " "  " (by decide +kernel);rw[show ((("  ":String):Str)).length=2 by decide +kernel] at this;have:=h1.len;omega;rw[e];intro z;rcases gF.mp z with z|z
  rcases gF.mp z with z|z
  exact h1.line (List.mem_of_mem_take z);simp at z;exact h1.line (RA z);rw[e,Nc,Nc];have a1:((aI r).cps.toList.take i).count 32+((aI r).cps.toList.drop i).count 32=(aI r).cps.toList.count 32:=by rw[<- Nc,UY]
  have a2:((aI r).cps.toList.drop (i+1)).count 32<=((aI r).cps.toList.drop i).count 32:=List.Sublist.count_le 32 (by rw[<- List.drop_drop];exact List.drop_sublist _ _);have:=h1.D5;have a3:([32,32]:qao).count 32=2:=by decide
  omega;rw[e];cases i with
  |zero=>exact .inl rfl
  |succ i=>rw[e0] at h2 ⊢;exact h2
  rw[e];simp
 refine⟨nG lp.1 (Lp.mk' (x:="\t") (n:=1) (c:=0) (by decide +kernel)) lp.2 (by omega) (by omega),qR (c:=9) (by rw[aN,et];simp) (by decide) (by decide) (by decide) (by decide)⟩
end GR
namespace EX
open PySem PySem.Spec PySem.Calls PyProof.Rows L2 VT
open PySem.W (findIn typeIn Looks InstAt)
section
variable{ts:qah}{k iz jn:Nat}{z n cl fx:Str}{a:Expr}{p3 p4 p5 p6 p7 p8:Pos}{ta:TA}
def Ug(K:qaf)(S:Addr)(iz jn:Nat)(sp:Sp)(ta:TA):TS:=λD σ H=>ta σ H λvs H1=>sp vs H1 (λv H2=>D.nx σ H2) λc dd H2=>∃C tl,c=.ref C/\XC K C tl/\(C=S\/S∈tl) /\
 ∀e,H1 e=none->H2 e=none->D.nx (((σ.set jn (some (.ref e))).set iz (some (.ref e))).set jn none) (upd H2 e (.ext (PY C e dd)))
theorem Ld(st:X.stack=X.env::X.outer/\X.env.frame=some X.env.locals)(F:eM X.prog X.w X.K X.mg X.base (BA X.prog X.w) k f fd ps sp)(hr:bM k X.A)(hg:Gl X fx)(hm:X.mg fx=some (.ref f))(hk:PySem.W.keepIn X.K (.ref f)=true)(hb:Binds X.K fd ps [])(ha:∀E1,PA (X.j9 E1) [a] ta)(hN:X.N.Nodup)(YF:X.N[iz]?=some z)(Qk:X.N[jn]?=some n)(lz:Loc X.env.scope z)(ln:X.env.scope.names.lookup n=some .local)(YG:Gl X cl)(YH:X.mg cl=some (.ref S))(xs:XC X.K S ts)(gp:∀y,X.fn y=true)(hex:X.ex=[])(d1:fW fx:=by decide)(d2:fW cl:=by decide)(d3:fW n:=by decide)(d4:sN n:=by decide)(he:starEach [a] X.env=(false,eval a X.env)::starEach [] X.env:=by rfl)(fz:(backTo p2 (starEach [] X.env)).any (·.1)=false:=by rfl)(KR:swapsWith (.Call (.Name fx p1) [a] [] p2) none p3.line X.env=pure false:=by rfl)(tu:swapsWith (.Name n p5) (some (.Name z p6)) p7.line X.env=pure false:=by rfl) :
  PS X (.Try [.Expr (.Call (.Name fx p1) [a] [] p2) p3] [.ExceptHandler (some (.Name cl p4)) (some n) [.Assign [.Name z p6] (.Name n p5) p7] p8] [] [] pos) (Ug X.K S iz jn sp ta):=by
 intro pins s σ H D I h;refine wpAny_Try_except ?_;generalize hE1:(λ(e:Value) (s₁:Shared)=>wpAny (model X.prog X.w) X.A (noteFrame e X.env) (λ_ s₂=>wpAny (model X.prog X.w) X.A (setFlight e none) (λ_ s₃=>wpAny (model X.prog X.w) X.A (handleBy e X.env [.ExceptHandler (some (.Name cl p4)) (some n) [.Assign [.Name z p6] (.Name n p5) p7] p8]) (SP X pins D) X.xe s₃) X.xe s₂) X.xe s₁)=E1;refine wpAny_execs_cons ?_;refine wpAny_Expr_any ?_ I.quiet KR;refine wpAny_Call_Name_kw (ie I hg hm ?_ d1);refine RD (h₀:=X.base) I.ok.mod.Nl hk (wpAny_mono (ha E1 p2 pins s σ H _ (I.j9 E1) h) (λus s1 ⟨vs,H1,J1,r,q⟩=>⟨J1.jS,?_⟩) λ_ _ y=>y) he fz;have I1:Inv X pins σ H1 s1:=J1.iW;have hl:us.length=ps.length:=by rw[<- r.length];exact F.len _ _ _ _ q
 have JM:BindsTo s1 fd ⟨us,[]⟩ (ps.zip us):=by have:=hb s1 us I1.jS (by rw[HV];exact hl);rw[HV] at this;exact this
 refine wpAny_call (codeAny_mono (F.run X.A X.stack s1 H1 ⟨us,[]⟩ us vs _ _ hr I1.NV JM r q) λrr s' hq=>?_);cases rr with
 |ok fl=>
   cases fl with
   |ret u=>obtain⟨v,H2,I2,rv,q2⟩:=I1.after hq;exact wpAny_execs_nil (wpAny_execs_nil ⟨_,H2,I2,q2⟩)
   |_=>exact False.elim hq
 |error ev=>
   obtain⟨e,C,dd,T,H2,rfl,os,bare,un,bG,fl,n1,n2,n3,n4,C',tl,eC,xc,hS,q3⟩:=hq;cases eC;have I2:Inv X pins σ H2 s':=I1.Eh os un bG bare λb y=>nomatch y;have n0:H1 e=none:=by
    cases y:H1 e with
    |none=>rfl
    |some o=>obtain⟨u,y2⟩:=ji (I1.bG e o y);rw[n1] at y2;cases y2
   have Il:X.A.frames=some (X.env::X.outer):=by rw[<- st.1];exact I.ok.frames
   have sf:s'.heap.FunFrames X.base (X.env::X.outer):=by have:=I2.stack;rw[st.1] at this;exact this
   show E1 (.ref e) s';rw[<- hE1];refine Bw Il sf st.2 fl λh2 T2 f2 t2 k2=>?_;have I3:Inv X pins σ H2 {s' with heap:=h2}:=z7 I1 I2 st (by rw[st.1];exact k2) n1 (λa y=>by cases y;exact n2) n3 (λa y=>by cases y;exact n4);have t3:s1.heap.get? T2=none:=by
    cases y:s1.heap.get? T2 with
    |none=>rfl
    |some o=>by_cases y3:∃u,H1 T2=some u;obtain⟨o',y4⟩:=un.there T2 o y (by simp);rw[t2] at y4;cases y4;obtain⟨o',y4⟩:=un.there T2 o y (by simp);rw[t2] at y4;cases y4
   have t4:H2 T2=none:=by
    cases y:H2 T2 with
    |none=>rfl
    |some o=>obtain⟨u,y2⟩:=ji (bG T2 o y);rw[t2] at y2;cases y2
   refine vn (s:={s' with heap:=h2}) f2 λh3 f3 k3=>?_;have up:∀{a b:Heap}{T:Addr},Kp [] e (some T) a b->Kp (kK X.stack) e (some T) a b:=λ{a b T} kk=>⟨λb o q n1 n2 _=>kk.keep b o q n1 n2 (by simp),λb o q _ n2 n3=>⟨o.slots,kk.keep b o q n2 n3 (by simp)⟩⟩;have I4:Inv X pins σ H2 {s' with heap:=h3}:=z7 (s:={s' with heap:=h2}) I1 I3 st (up k3) n1 (λa y=>by cases y;exact t3) n3 (λa y=>by cases y;exact t4);obtain⟨oe,vs3,Vu,oe2,oe3,oe4,_⟩:=id f3;refine wpAny_handleBy_cons (codeAny_handlers_test ?_) (by intro y;cases y);refine ie (X:=Ri X e) (s:={s' with heap:=h3}) (Gz I4 e) YG YH ?_ d2;refine x5 (s:={s' with heap:=h3}) I4.jS xc xs hS Vu oe2 ?_;refine codeAny_handlers_suite_as ?_;refine vn (s:={s' with heap:=h3}) f3 λh4 f4 k4=>?_;have I5:Inv X pins σ H2 {s' with heap:=h4}:=z7 (s:={s' with heap:=h3}) I1 I4 st (up k4) n1 (λa y=>by cases y;exact t3) n3 (λa y=>by cases y;exact t4);obtain⟨of,vs4,Z3,of2,of3,of4,_⟩:=id f4;have I6:Inv X pins σ (upd H2 e (.ext (PY C e dd))) {s' with heap:=h4}:=Di (s:={s' with heap:=h4}) I1 I5 n1 hex n3 ⟨⟨of,vs4,Z3,of2,of3,of4⟩,⟨_,Z3⟩,λg1 g2 ⟨o,v,y1,y2⟩ kk=>⟨o,v,kk _ y1,y2⟩⟩;refine kL I6 hN Qk (.inl ln) (v:=.ref e) rfl (λs5 I7=>?_) (.inl (gp _));have jl:jn<(σ.set jn (some (V.ref e))).length:=by rw[Eb,I.len];exact (gN.mp Qk).1
   have ev:(σ.set jn (some (V.ref e)))[jn]?=some (some (.ref e)):=by rw[yF (by rw[Eb] at jl;exact jl)]
   have pw:=yS (X:=(Ri X e).wo) (pos:=p7) (pos':=p6) (e:=.Name n p5) hN YF lz (dQ (X:=(Ri X e).wo) (i:=jn) Qk (.inl ln) d3 d4) tu (.inl (gp _));refine wpAny_execs_cons (wpAny_mono (pw pins s5 _ _ {nx:=λσ' H'=>σ'=(σ.set jn (some (.ref e))).set iz (some (.ref e))/\H'=upd H2 e (.ext (PY C e dd)),rt:=λ_ _=>False} ((Gz I7 e).j9 _) ⟨_,ev,rfl,rfl⟩) (λfl s6 y=>?_) λev s6 y=>?_)
   . cases fl with
     |next=>obtain⟨σ7,H7,I8,rfl,rfl⟩:=y;refine wpAny_execs_nil ?_;show wpAny _ _ _ _ _ _;refine KN (GA I.ok I8.iW) hN Qk ln λs8 I9=>⟨_,_,I9,q3 e n0 n3⟩
     |ret u=>obtain⟨_,_,_,_,_,y⟩:=y;exact y.elim
     |_=>obtain⟨_,_,_,y⟩:=y;exact y.elim
   exact False.elim y
end
section
variable{ts:qah}{k iz jn ia:Nat}{z n cl fx:Str}{p3 p4 p5 p6 p7 p8 p9:Pos}{rest:qaq}{g1:FS}{g2:Addr->Addr->Int->FS}{g3:Addr->Addr->FS}
def Uh(K:qaf)(S:Addr)(ia iz jn:Nat)(G:WT->qaj->(qam)->Prop)(g1:FS)(g2:Addr->Addr->Int->FS)(g3:Addr->Addr->FS):FS:=λd ρ=>noOwn ρ/\∃t W,ρ[ia]?=some (some (t,false))/\G W [t] (λ_=>g1 d ρ) /\
 ∀C p,W C p->(∃tl,XC K C tl/\(C=S\/S∈tl))/\XF K C/\∀e,gX g2 g3 e C p d (((ρ.set jn (some (.ob e,false))).set iz (some (.ob e,false))).set jn none)
theorem He(hP:Z.P=[])(st:X.stack=X.env::X.outer/\X.env.frame=some X.env.locals)(F:eM X.prog X.w X.K X.mg X.base (BA X.prog X.w) k f fd ps (zU X.K 1 G))(hr:bM k X.A)(hg:Gl X fx)(hm:X.mg fx=some (.ref f))(hk:PySem.W.keepIn X.K (.ref f)=true)(hb:Binds X.K fd ps [])(YG:Gl X cl)(YH:X.mg cl=some (.ref S))(xs:XC X.K S ts)(gp:∀y,X.fn y=true)(hex:X.ex=[])(hn:i7 X Z rest g1)(hx:∀e C dd n H0,Ex X.K H0 e C dd (some n)->i7 X ⟨H0,[],Z.Ox⟩ rest (g2 e C n))(hx0:∀e C dd H0,Ex X.K H0 e C dd none->i7 X ⟨H0,[],Z.Ox⟩ rest (g3 e C))(hN:X.N.Nodup)(hia:X.N[ia]?=some y:=by rfl)(YF:X.N[iz]?=some z:=by rfl)(Qk:X.N[jn]?=some n:=by rfl)(vy:pk X.env.scope y:=by first|exact Or.inl rfl|exact Or.inr (Or.inl rfl))(lz:Loc X.env.scope z:=by exact Or.inl rfl)(ln:X.env.scope.names.lookup n=some .local:=by rfl)(d1:fW fx:=by decide)(d2:fW cl:=by decide)(d3:fW n:=by decide)(d4:sN n:=by decide)(d5:fW y:=by decide)(d6:sN y:=by decide)(he:starEach [.Name y p9] X.env=(false,eval (.Name y p9) X.env)::starEach [] X.env:=by rfl)(fz:(backTo p2 (starEach [] X.env)).any (·.1)=false:=by rfl)(KR:swapsWith (.Call (.Name fx p1) [.Name y p9] [] p2) none p3.line X.env=pure false:=by rfl)(tu:swapsWith (.Name n p5) (some (.Name z p6)) p7.line X.env=pure false:=by rfl) :
  i7 X Z (.Try [.Expr (.Call (.Name fx p1) [.Name y p9] [] p2) p3] [.ExceptHandler (some (.Name cl p4)) (some n) [.Assign [.Name z p6] (.Name n p5) p7] p8] [] [] pos::rest) (Uh X.K S ia iz jn G g1 g2 g3):=by
 refine .mk λtm pins s σ H D J ⟨ρ,O,d,I,⟨no,t,W,ht,hG,hW⟩,Fn⟩=>?_;have pt:=Ld (X:=X) (iz:=iz) (jn:=jn) (p1:=p1) (p2:=p2) (p3:=p3) (p4:=p4) (p5:=p5) (p6:=p6) (p7:=p7) (p8:=p8) (pos:=pos) (a:=.Name y p9) (ta:=Ez (Np ia) NR) st F hr hg hm hk hb (λE1=>bj (X:=X.j9 E1) (dQ (X:=X.j9 E1) hia vy d5 d6) cF he) hN YF Qk lz ln YG YH xs gp hex d1 d2 d3 d4 he fz KR tu;have R1:∀pins s σ' H',Inv X pins σ' H' s->((lS X Z tm g1 D σ' H')\/∃e C dd p H0,Ex X.K H0 e C dd p/\lS X ⟨H0,[],Z.Ox⟩ tm (gX g2 g3 e C p) D σ' H')->wpAny (model X.prog X.w) X.A (execs rest X.env) (SP X pins D) X.xe s:=λpins s σ' H' J' h=>by
  obtain h|⟨e,C,dd,p,H0,xh,h⟩:=h
  exact hn tm pins s σ' H' D J' h;cases p with
  |some n=>exact hx e C dd n H0 xh tm pins s σ' H' D J' h
  |none=>exact hx0 e C dd H0 xh tm pins s σ' H' D J' h
 refine wpAny_execs_cons (cm (pt pins s σ H {D with nx:=λσ' H'=>(lS X Z tm g1 D σ' H')\/∃e C dd p H0,Ex X.K H0 e C dd p/\lS X ⟨H0,[],Z.Ox⟩ tm (gX g2 g3 e C p) D σ' H'} J ?_) λfl s1 q=>?_);obtain⟨o,s',h3,h4,rfl,v,rfl,h5⟩:=I.sl ia _ ht;refine⟨v,h4,W,⟨[t],[],av Z O,λ_ _=>g1 d ρ,QX,λ_ z=>absurd z cq,I.Q6,eS rfl (aB.cons h5 aB.nil),hG,λus r hr v' H' fr zz=>?_⟩,λC p dd H' sm pl hw=>?_⟩;have sm:aL H H':=λb o e=>fr b o e cq;exact .inl ⟨_,_,d,I.same sm,hr,Fn⟩;obtain⟨⟨tl,xc,hS⟩,xf,hg2⟩:=hW C p hw;refine⟨C,tl,rfl,xc,hS,λe n1 n2=>.inr ⟨e,C,dd,p,upd H' e (.ext (PY C e dd)),⟨aY,?_,⟨tl,xc⟩,xf⟩,?_⟩⟩;cases p with
 |none=>exact pl
 |some i=>obtain⟨dx,e1,e2⟩:=pl;exact⟨dx,e1,by rw[aH (bf e2 n2)];exact e2⟩
 have s2:aL H (upd H' e (.ext (PY C e dd))):=λb o y=>by rw[aH (λz=>by rw[z,n1] at y;cases y)];exact sm b o y
 have I2:=KS hP (I.same s2) no;have CC:∀i,∀p∈(⟨upd H' e (.ext (PY C e dd)),[],Z.Ox⟩:Zc).P,p.1≠i:=λi p hp=>nomatch hp;have I3:=((I2.put (i:=jn) (t:=.ob e) (v:=.ref e) (CC _) (by simp only[At])).put (i:=iz) (t:=.ob e) (v:=.ref e) (CC _) (by simp only[At]));have I4:=x8 (s:=(none:Option V)) (I3.forget (CC jn)) (by rw[yF (by rw[Eb,Eb,<- I.lσ,J.len];exact (gN.mp Qk).1)]);exact⟨_,_,d,I4,hg2 e,GC hP ((qB hP I).trans s2) Fn⟩
 . cases fl with
   |next=>obtain⟨σ',H',J',q⟩:=q;exact R1 pins s1 σ' H' J' q
   |ret v=>exact q
   |_=>exact q
end
section
variable{W:WT}{k:Nat}
def Ui(n:Nat)(g:FA)(G:WT->qaj->(qam)->Prop)(W:WT):FS:=λd ρ=>g ρ λts=>ts.length=n/\∃W',(∀C p,W' C p->W C p)/\G W' ts λr=>d.rt ρ r
theorem Le(hw:PQ X Z W)(F:eM X.prog X.w X.K X.mg X.base (BA X.prog X.w) k f fd ps (zU X.K n G))(hr:bM k X.A)(hg:Gl X x)(hm:X.mg x=some (.ref f))(hk:PySem.W.keepIn X.K (.ref f)=true)(hb:Binds X.K fd ps [])(ha:VA X Z (e::es) g)(kP:fW x:=by decide)(he:starEach (e::es) X.env=(false,eval e X.env)::starEach es X.env:=by rfl)(fz:(backTo pos (starEach es X.env)).any (·.1)=false:=by rfl) :
  VS X Z (.Return (some (.Call (.Name x p) (e::es) [] pos)) pos') (Ui n g G W):=.mk λtm=>PS.weak (Ek (kO F hr hg hm hk hb .nil (Mv hw) (ha tm) kP he fz)) λD σ H ⟨ρ,O,d,I,q,F⟩ =>
 ⟨ρ,O,_,I,q,λts ⟨hn,W',sub,hG⟩ vs H1 s1 a1=>by have J:=I.same s1;have sm:aL Z.H0 H1:=(qB hw.P0 I).trans s1;exact⟨W',gx J a1 hn hG λr hr v H' s z=>F.rt O ρ σ H' r v z hr,λC p dd H' s2 pl w=>⟨C,p,rfl,sm.trans s2,pl,sub C p w⟩⟩⟩
end
section
variable{e:Addr}{pp:Option Int}
def Uj(K:qaf)(i:Nat)(e C:Addr)(c:Value):FP:=λρ Q=>ρ[i]?=some (some (.ob e,false))/\∃b,PySem.W.kitOne K (.ref C) c=some b/\Q (.vw (.bl b))
theorem bP(i:Nat){ce:Expr}{cv:V}{c:Value}(xz:Ex X.K Z.H0 e C dd pp)(hP:Z.P=[])(rc:∀u,RelV cv u->u=c)(hg:Gl X "isinstance")(hm:X.mg "isinstance"=none)(hc:PE X ce (tC cv))(hN:X.N[i]?=some x:=by rfl)(hv:pk X.env.scope x:=by first|exact Or.inl rfl|exact Or.inr (Or.inl rfl)|exact Or.inr (Or.inr rfl))(hd:fW x:=by decide)(gM:sN x:=by decide)(KR:starEach [.Name x p1,ce] X.env=(false,eval (.Name x p1) X.env)::starEach [ce] X.env:=by rfl)(tu:starEach [ce] X.env=(false,eval ce X.env)::starEach [] X.env:=by rfl)(fz:(backTo pos (starEach [ce] X.env)).any (·.1)=false:=by rfl) :
  VP X Z (.Call (.Name "isinstance" p2) [.Name x p1,ce] [] pos) (Uj X.K i e C c):=.mk λtm pins s σ H Q I ⟨ρ,O,q,E,⟨h1,b,hk,h2⟩,k⟩ =>
 (P4 i xz hP rc hk hg hm hc hN hv hd gM KR tu fz) tm pins s σ H Q I ⟨ρ,O,q,E,⟨h1,h2⟩,k⟩
end
end EX
namespace PySem.AutoSeq1
end PySem.AutoSeq1
namespace VT
open PySem PySem.Spec PyProof.Rows L2
end VT
namespace nI
open PySem L2 VT Gen rR K9 GR EX
open dj (d9 d8 g7 vd jc)
open z8 (RT eA ck)
noncomputable def top(i:Nat):Stmt:=PySem.Challenge.pw_slicewise_k18_texts_refused.main.body.getD i (.Pass ⟨0,0,0,0⟩)
noncomputable abbrev Aj:Stmt:=top 43
noncomputable abbrev qX:Stmt:=top 44
noncomputable abbrev nJ:Stmt:=top 45
noncomputable abbrev dy:Stmt:=top 46
noncomputable def Ak:List (Str×T):=[("def",.int 2),("call",.int 3)]
structure Uk(w:World)(K:qaf)(mg:qae):Prop where
 Lf:∃t,mg "FIGURES"=some (.str sG t)
 qY:∃t,mg "LONGEST_NUMBER"=some (.int 32 t)
 Ul:∃a,mg "AHEAD_OF_TUPLE"=some (.ref a)/\xu w K a Ak
 isinstance:mg "isinstance"=none
 tuple:mg "tuple"=none
 str:mg "str"=none
 int:mg "int"=none
 len:mg "len"=none
 all:mg "all"=none
 enumerate:mg "enumerate"=none
theorem c_(h:n<=4000):n<=sizeLine:=by rw[sizeLine_eq];omega
def BR(ts:qaj)(q:qam):Prop:=∃x:Str,ts=[.str x]/\x.length<=3100/\q (.vw (.bl (iG x)))
def BS(ts:qaj)(q:qam):Prop:=∃x:Str,ts=[.str x]/\x.length<=3100/\q (.vw (bD x))
def Hf(ts:qaj)(q:qam):Prop:=∃x:Str,ts=[.str x]/\Ln x/\q (.vw (br x))
def Um(c0 c2 c3 c4:Addr)(W:WT)(xs:qai)(q:qam):Prop:=match ck (xs.map br) 0 with
 |some i=>W c4 (some (i:Int))
 |none=>(60<xs.length->W c0 none)/\(xs.length<=60->∃rs:qal,xs.map br=rs.map bw/\(match brk [] rs 0 with
  |some i=>W c2 (some (i:Int))
  |none=>match fM rs with
   |some i=>W c3 (some (i:Int))
   |none=>q (.fr (.lst (rs.map bw)))))
noncomputable def BU:T->Bool
 |.bR=>true
 |.bl _=>true
 |.int _=>true
 |.tup _=>true
 |.lst _=>true
 |_=>false
def Hg(c0 c2 c3 c4:Addr)(W:WT)(ts:qaj)(q:qam):Prop:=(∃t,ts=[t]/\BU t=true/\W c4 (some 0)) \/
 ∃xs:qai,ts=[.str (Txt.join "\n" xs)]/\2<=xs.length/\xs.length<=80/\(∀x∈xs,Ln x)/\Um c0 c2 c3 c4 W xs q
theorem ym:∀l:qao,cz (l.map ((λt:T=>match t with | .str y=>.bl (tw y sG)|_=>.bR) ∘ λc=>T.str ⟨#[c]⟩))=some (l.map BG)
 |[]=>rfl
 |c::l=>by rw[dP,dP];show (cz _).map _=_;rw[ym l];rfl
theorem vS{ts:qaj}{k:Nat}:gQ ts none (some (k:Int))=ts.take k:=by unfold gQ;rw[HT.jy];simp[HT.dD]
theorem Al{ts:qaj}{k:Nat}:gQ ts (some (k:Int)) none=ts.drop k:=by unfold gQ;rw[HT.jy,HT.pC,LJ (by rw[DY];omega)];by_cases h:k<=ts.length;rw[Nat.min_eq_left h];rw[Nat.min_eq_right (by omega),RG,Wf (by omega)]
def YI(c0 c2 c3 c4:Addr)(W:WT)(q:qam):FS:=λd ρ=>∃(xs:qai)(x:Str),ρ=[some (.str x,false),some (.lst (xs.map T.str),false),none,none,none]/\xs.length<=80/\(∀x∈xs,Ln x)/\Um c0 c2 c3 c4 W xs q/\∀ρ r,q r->d.rt ρ r
noncomputable def YJ(q:qam):FS:=λd ρ=>∃x y:Str,ρ=[some (.str x,false),some (.str y,false)]/\gm x=y/\x.length<=3100/\y.length<=3100/\q (.vw (.bl (iG x)))/\∀ρ r,q r->d.rt ρ r
section
variable{fS nE ej fu vT:Addr}
noncomputable abbrev fH:qai:=["word","figures"]
theorem hV:aJ fH qaA (ak dy):=L2.ij
theorem jQ:(fH++(["sign"]:qai)).Nodup:=by decide +kernel
theorem nK(D:Df K mg "writes_number" dy qaA f fd)(M:Uk w K mg):cM P w K mg base "writes_number" qaA 1 (cy K 1 BR):=by
 refine D.lg (mi D.F hV rfl λbS A outer s H E Ox hr ts q hG=>?_);have nd:=hV.nd;have hu:=bM.iw hr;have np:∀{i:Nat},ba ⟨H,[],Ox⟩ i:=mW;obtain⟨tF,mF⟩:=M.Lf;obtain⟨tN,mN⟩:=M.qY;have nL:∀{pos},VP (fE kU P w K mg base fH "writes_number" (ak dy) f bS A outer s H E).wo ⟨H,[],Ox⟩ (.Name "LONGEST_NUMBER" pos) (fC (.int 32)):=fg (by rfl) mN (v:=.int 32) ⟨tN,rfl⟩ λ_ _=>bC;refine⟨_,(af (aM (i:=1) nd rfl (Or.inl rfl) (qau (E2 (cp (mY (ae 0) (qas ah))) (cS (ae 0) (dt (qas ag)) fj) (VE.vp (ao 0)))) np)
  (i7.weak (u:=(YJ q)) (af (aS (VW.vc (gw (bF hu (ae 1) (qas ah)) (ir (wO (qas (az aD aE (by rfl) M.len iU (aq (ae 0) au))) (qas nL)))))
   (ai (ay (qau fL)))
   ax)
  (af (aS (dA (cp (az (cQ rfl) gU (by rfl) M.all xg (aq (qas (jB (ts:=["sign"]) rfl (by rfl) (fF (ao 1)) (λ_ _ _ _ _ _=>(aX (i:=2) jQ rfl (Or.inl rfl) np)) (λ_ _ _ _ _ _=>fm) (λ_ _ _ _ _ _=>(qat (Fq (ae 2) (qas (fg (by rfl) mF (v:=.str sG) ⟨tF,rfl⟩ λ_ _=>bJ))))))) au))))
   (ai (ay (qau fL)))
   ax)
  (ai (ay (qau (EY (sZ hu (ae 0) (qas ah)) (pM (EZ (mY (ae 1) (qas ah)))))))))) ?w1)),λ_=>?main⟩
 case w1=>
  rintro d ρ ⟨x,y,rfl,ey,hl,hly,hq,fin⟩;unfold iG at hq;rw[ey] at hq;refine ow (λh1=>?_) (λh1=>?_);have OM:decide (y="")=true:=h1;rw[OM] at hq;exact fin _ _ hq;have OM:decide (y="")=false:=by simpa using h1
  rw[OM,RJ] at hq;refine⟨c_ (by omega),?_⟩;refine ow (λh2=>?_) (λh2=>?_);have Fm:decide ((32:Int)<(x.length:Int))=true:=h2;rw[Fm] at hq;exact fin _ _ hq;have Fm:decide ((32:Int)<(x.length:Int))=false:=by simpa using h2
  rw[Fm,Bool.not_false,yI] at hq;refine⟨rfl,by rw[bQ,B_];exact c_ (by show y.length<=4000;omega),gR (λ_=>true) (λt=>match t with | .str y=>.bl (tw y sG)|_=>.bR) (λt ht k r h=>?_) ?_⟩;obtain⟨c,_,rfl⟩:=iS.mp ht;exact⟨_,rfl,h⟩;rw[List.filter_eq_self.mpr (λ_ _=>rfl),AQ];refine⟨y.cps.toList.map BG,ym y.cps.toList,?_⟩;rw[Q0];refine ow (λh3=>?_) (λh3=>?_);have Pw:y.cps.toList.all BG=false:=by simpa using h3
  rw[Pw,DZ] at hq;exact fin _ _ hq;have Pw:y.cps.toList.all BG=true:=by simpa using h3
  rw[Pw,yI] at hq;refine jc (c:=decide (x="0")) (λh4=>?_) (λh4=>?_);rw[h4,Bool.true_or] at hq;exact fin _ _ hq;rw[h4,RJ] at hq;exact fin _ _ hq
 case main=>
  obtain⟨x,rfl,hl,hq⟩:=hG;cases hs:Txt.startswith x "-" with
  |true=>refine xi hs ⟨c_ (by omega),x,_,rfl,by unfold gm;rw[if_pos hs],hl,mw (LM x _ _) hl,hq,λ_ _ h=>h⟩
  |false=>exact eU hs ⟨x,x,rfl,by unfold gm;rw[hs,if_neg iV],hl,hl,hq,λ_ _ h=>h⟩
abbrev Dt:qai:=qaA
theorem qZ:aJ Dt qaA (ak nJ):=L2.ij
theorem Am(D:Df K mg "part_of" nJ qaA f fd)(M:Uk w K mg)(oN:cM P w K mg base "writes_number" qaA 1 (cy K 1 BR)):cM P w K mg base "part_of" qaA 2 (cy K 1 BS):=by
 refine D.lg (mi D.F qZ rfl λbS A outer s H E Ox hr ts q hG=>?_);have nd:=qZ.nd;refine⟨_,(ai (ay (qau (E2 (cp (bp oN hr (aa (ao 0) aj))) (cY Dr Af (by rfl) M.int Mf (aq (ae 0) au)) (VE.vp (ao 0)))))),λ_=>?_⟩;obtain⟨x,rfl,hl,hq⟩:=hG;refine⟨rfl,x,rfl,hl,?_⟩;unfold bD at hq;cases hw:iG x with
 |false=>rw[hw,if_neg iV] at hq;exact eU rfl hq
 |true=>rw[hw,if_pos rfl] at hq;exact xi rfl ⟨Dq x,P_ hw,by have:=Ab hw;omega,hq⟩
noncomputable abbrev yn:qai:=["line","parts","ahead"]
theorem uf:aJ yn ["line"] (ak qX):=L2.ij
theorem vU:(yn++(["word"]:qai)).Nodup:=by decide +kernel
theorem Du(D:Df K mg "row_of" qX ["line"] f fd)(M:Uk w K mg)(Dv:cM P w K mg base "part_of" qaA 2 (cy K 1 BS)):cM P w K mg base "row_of" ["line"] 3 (cy K 1 Hf):=by
 refine D.lg (mi D.F uf rfl λbS A outer s H E Ox hr ts q hG=>?_);have nd:=uf.nd;have np:∀{i:Nat},ba ⟨H,[],Ox⟩ i:=mW;obtain⟨aA,nM,l9⟩:=M.Ul;refine⟨_,(af (oY (i:=1) (ts:=qaA) nd rfl (Or.inl rfl) rfl (by rfl) (fF (qat (yk (ae 0) (qas ah)))) (λ_ _ _ _ _ _=>(aX (i:=3) vU rfl (Or.inl rfl) np)) (λ_ _ _ _ _ _=>fm) (λ_ _ _ _ _ _=>(qat (bp Dv hr (aa (ao 3) aj)))) np)
  (af (aM (i:=2) nd rfl (Or.inl rfl) (qau (xv (by rfl) nM l9 (qas (bo (ae 1) (qas ag))) ⟨rfl,rfl,rfl,rfl⟩)) np)
  (af (aS (tD (ae 2) (qas i5))
   (ai (ay (qau (cY dg fB (by rfl) M.tuple gz (aq (ae 1) au)))))
   ax)
  (ai (ay (qau (ar (qas (cY dg fB (by rfl) M.tuple gz (aq (qas (cS (ae 1) fj (dt (ae 2)))) au))) (qas (bc (aa (qat (cY dg fB (by rfl) M.tuple gz (aq (qas (cS (ae 1) (dt (ae 2)) fj)) au))) aj)))))))))),λ_=>?_⟩
 obtain⟨x,rfl,hx,hq⟩:=hG;have hl:=hx.len;have hn:=ua hx;refine⟨rfl,by decide +kernel,by rw[sizeLine_eq];omega,?_⟩;show _/\_;have ew:Txt.split x " "=cH x:=rfl;rw[ew];refine⟨by rw[bQ];exact c_ (by omega),?_⟩;refine gk (f:=T.str) (u:=bD) (λw hw k hk=>⟨rfl,w,rfl,by have:=yh hw;omega,hk⟩) ?_;obtain⟨l,ls,e,YK⟩:=GY hx.hd;have ews:cH x=⟨⟨l⟩⟩::ls.map λl=>(⟨⟨l⟩⟩:Str):=by rw[e8,e];rfl
 unfold br at hq;rw[ews] at hq hn ⊢;generalize (ls.map λl=>(⟨⟨l⟩⟩:Str))=vs at hq hn ⊢;generalize (⟨⟨l⟩⟩:Str)=w0 at hq YK ⊢;have Ii:q (.vw (jO (.str w0::vs.map bD) (ahead (.str w0)))):=by rw[<- bA YK];exact hq
 have em:List.map bD (w0::vs)=T.str w0::vs.map bD:=by rw[dP,bA YK]
 rw[em];have hv:(vs.map bD).length<=9:=by rw[bQ];simpa using hn
 generalize vs.map bD=us at Ii hv ⊢;by_cases e1:w0="def";subst e1;have h:q (.vw (.tup ((T.str "def"::us).take 2++[.tup ((T.str "def"::us).drop 2)]))):=Ii;rw[<- vS,<- Al] at h;refine⟨_,aG (j:=0) rfl,c_ (by simp),?_,h⟩;show (gQ (T.str "def"::us) none (some (2:Nat))).length+1<=sizeLine;rw[vS];exact c_ (by rw[Ea];omega);by_cases e2:w0="call";subst e2;have h:q (.vw (.tup ((T.str "call"::us).take 3++[.tup ((T.str "call"::us).drop 3)]))):=Ii;rw[<- vS,<- Al] at h;refine⟨_,aG (j:=0) rfl,c_ (by simp),?_,h⟩;show (gQ (T.str "call"::us) none (some (3:Nat))).length+1<=sizeLine;rw[vS];exact c_ (by rw[Ea];omega);have ea:ahead (.str w0)=none:=by show (if w0="def" then some 2 else if w0="call" then some 3 else none)=_;rw[if_neg e1,if_neg e2]
 rw[ea] at Ii;have ek:CL Ak w0=none:=by have h1:((Sum.inr "def":Key)=.inr w0)↔False:=⟨λz=>e1 (Sum.inr.inj z).symm,False.elim⟩;have h2:((Sum.inr "call":Key)=.inr w0)↔False:=⟨λz=>e2 (Sum.inr.inj z).symm,False.elim⟩;simp[CL,Ak,gu,h1,h2]
 refine⟨_,aG (j:=0) rfl,?_⟩;dsimp only[Rt.t,onStr];rw[ek];exact Ii
noncomputable abbrev Hh:qai:=["text","lines","rows","place","row"]
theorem BV:aJ Hh ["text"] (ak Aj):=L2.ij
theorem An:(Hh++(["line"]:qai)).Nodup:=by decide +kernel
theorem Lg(D:Df K mg "read" Aj ["text"] f fd)(M:Uk w K mg)(jG:XP P w K mg base "NoText" vT 1)(Hi:cM P w K mg base "row_of" ["line"] 3 (cy K 1 Hf))(qI:cM P w K mg base "is_row" ["row"] 5 (cy K 1 dj.Px))(vV:sr P w K mg base "program_of" ["rows"] 7 (zU K 1 (z8.GD fS nE ej fu))):sr P w K mg base "read" ["text"] 8 (zU K 1 (Hg fS ej fu vT)):=by
 obtain⟨Lh,Ir,vW,vX,vY,vZ⟩:=vV;refine⟨f,fd,D.m,D.F.kp,D.b,T1 D.F BV rfl λbS A outer s H E Ox hr W ts q hG hw=>?_⟩;have nd:=BV.nd;have hu:=bM.iw hr;have np:∀{i:Nat},ba ⟨H,[],Ox⟩ i:=mW;refine⟨_,(af (aS (dA (cp (fq k_ (by rfl) M.isinstance (by rfl) M.str Bj (ae 0))))
    (ai (gi hw jG (hr.mono (by decide)) (by rfl) (aa (qat ag) aj)))
    ax)
   (af (aM (i:=1) nd rfl (Or.inl rfl) (qau (E2 (jT hu (ae 0) (qas ah)) (yk (ae 0) (qas ah)) (bx aj))) np)
   (i7.weak (u:=(YI fS ej fu vT W q)) (af (oY (i:=2) (ts:=["line"]) nd rfl (Or.inl rfl) rfl (by rfl) (fF (ao 1)) (λ_ _ _ _ _ _=>(aX (i:=5) An rfl (Or.inl rfl) np)) (λ_ _ _ _ _ _=>fm) (λ_ _ _ _ _ _=>(qat (bp Hi hr (aa (ao 5) aj)))) np)
   (af (eQ hw.own rfl (lb (by rfl) M.enumerate (ao 2)) (ke (n:=2) rfl (cj (aX (i:=3) nd rfl (Or.inl rfl) np) (cj (aX (i:=4) nd rfl (Or.inl rfl) np) iu)))
     (ai (aS (dA (cp (bp qI hr (aa (ao 4) aj))))
       (ai (gi hw jG (hr.mono (by decide)) (by rfl) (aa (ao 3) aj)))
       ax)))
   (ai (Le hw vZ (hr.mono (by decide)) (by rfl) vW vX vY (aa (ao 2) aj))))) ?w1))),λ_=>?main⟩
 case w1=>
  rintro d ρ ⟨xs,x,rfl,hn,Li,hR,fin⟩;refine⟨rfl,by rw[bQ];exact c_ (by omega),?_⟩;refine gk (f:=T.str) (u:=br) (λy hy k hk=>⟨rfl,y,rfl,Li y hy,hk⟩) ?_;have e0:xs.map br=(xs.map br).map id:=by simp
  rw[e0];refine g8 (λi ρ=>∃b3 b4,ρ=[some (.str x,false),some (.lst (xs.map T.str),false),some (.lst ((xs.map br).map id),false),b3,b4]/\ck (xs.map br) 0=ck ((xs.map br).drop i) i) ⟨_,_,rfl,rfl⟩ ?_ ?_;rintro i t ρ ht ⟨b3,b4,rfl,hb⟩;have hi:=(gN.mp ht).1;have D3:i<xs.length:=by rw[bQ] at hi;exact hi
  have ed:(xs.map br).drop i=t::(xs.map br).drop (i+1):=by obtain⟨h1,h2⟩:=gN.mp ht;rw[<- h2];exact Ro h1
  rw[ed] at hb;obtain⟨y,hy,ey⟩:=iS.mp (mn ht);obtain⟨z,ps,ex,hp,Yu⟩:=BP (Li y hy);rw[ey] at ex;subst ex;refine⟨rfl,rfl,rfl,z,ps,rfl,hp,Yu,?_⟩;cases hg:d8 z ps with
  |true=>refine⟨_,_,rfl,?_⟩;rw[hb];show (if d8 z ps=true then _ else _)=_;rw[if_pos hg]
  |false=>
    have e2:ck (xs.map br) 0=some i:=by rw[hb];show (if d8 z ps=true then _ else _)=_;rw[hg];rfl
    unfold Um at hR;rw[e2] at hR;exact⟨(i:Int),rfl,by omega,by omega,hR⟩
  rintro ρ ⟨b3,b4,rfl,hb⟩;have hl:(xs.map br).length=xs.length:=bQ _;rw[RG] at hb;have Vt:ck (xs.map br) 0=none:=hb;unfold Um at hR;rw[Vt] at hR;obtain⟨r1,r2⟩:=hR;have e1:(xs.map br).map id=xs.map br:=by simp
  refine⟨rfl,W,λ_ _ z=>z,xs.map br,by rw[e1],by omega,λt ht=>?_,λz=>r1 (by omega),λz=>?_⟩;obtain⟨y,hy,rfl⟩:=iS.mp ht;exact BP (Li y hy);rw[Vt];obtain⟨rs,D8,hm⟩:=r2 (by omega);refine⟨rs,D8,?_⟩;cases h1:brk [] rs 0 with
  |some i=>rw[h1] at hm;exact hm
  |none=>
    rw[h1] at hm;cases h2:fM rs with
    |some i=>simp only[h2] at hm ⊢;exact hm
    |none=>simp only[h2] at hm ⊢;exact fin _ _ hm
 case main=>
  obtain⟨t,rfl,hs,hW⟩|⟨xs,rfl,h2,hn,Li,hR⟩:=hG
  cases t with
  |bR=>exact⟨rfl,0,rfl,by decide,by decide,hW⟩
  |bl b=>exact⟨rfl,0,rfl,by decide,by decide,hW⟩
  |int i=>exact⟨rfl,0,rfl,by decide,by decide,hW⟩
  |tup l=>exact⟨rfl,0,rfl,by decide,by decide,hW⟩
  |lst l=>exact⟨rfl,0,rfl,by decide,by decide,hW⟩
  |_=>cases hs
  refine⟨rfl,?_⟩;have jz:Txt.join "\n" xs≠"":=λz=>by
   have z1:=l7.mp z;rw[vM,jo] at z1
   match xs,h2 with
   |a::b::l,_=>have z2:a.cps.toList++10::gl 10 ((b::l).map (·.cps.toList))=[]:=z1;simp at z2
  refine xi (c:=!decide (Txt.join "\n" xs="")) (by rw[decide_eq_false jz];rfl) ?_;refine⟨by decide +kernel,?_,?_⟩;have:=yc 10 xs (n:=3100) λx hx=>(Li x hx).len;rw[<- vM] at this;rw[sizeLine_eq];have h3:xs.length * 3100<=80 * 3100:=Nat.mul_le_mul_right _ hn;omega;have es:Txt.split (Txt.join "\n" xs) "\n"=xs:=by rw[vM];exact ku (by intro z;rw[z] at h2;simp at h2) λw hw=>(Li w hw).line
  rw[es];exact⟨xs,_,rfl,hn,Li,hR,λ_ _ h=>h⟩
end
end nI
namespace fJ
open PySem L2 VT Gen
open rR (bt)
noncomputable def top(i:Nat):Stmt:=PySem.Challenge.pw_slicewise_k18_texts_refused.main.body.getD i (.Pass ⟨0,0,0,0⟩)
noncomputable abbrev nN:Stmt:=top 48
noncomputable abbrev v3:Stmt:=top 49
noncomputable abbrev nO:Stmt:=top 50
noncomputable abbrev Hj:Stmt:=top 51
noncomputable abbrev s_call:Stmt:=top 52
noncomputable abbrev q8:Stmt:=top 53
noncomputable abbrev Hk:Stmt:=top 54
noncomputable abbrev Ao:Stmt:=top 55
noncomputable abbrev nP:Stmt:=top 56
structure Ql(mg:qae):Prop where
 len:mg "len"=none
 range:mg "range"=none
 tuple:mg "tuple"=none
 sum:mg "sum"=none
def MM(ts:qaj)(q:qam):Prop:=∃(ns:qan)(j:Nat),ts=[.lst (ns.map .int),.int (j:Int)]/\q (.vw (.int (ns.getD j 0)))
def Hl(ts:qaj)(q:qam):Prop:=∃(c:Int)(m:Nat),ts=[.int c,.int (m:Int)]/\2<=m/\m<=20/\q (.fr (.lst ((bU c m).map .str)))
section
noncomputable abbrev Dw:qai:=qaB
theorem q9:aJ Dw qaB (ak nN):=L2.ij
theorem Ap(D:Df K mg "_law_cell_at" nN qaB f fd)(M:Ql mg):cM P w K mg base "_law_cell_at" qaB 1 (cy K 2 MM):=by
 refine D.lg (mi D.F q9 rfl λbS A outer s H E Ox hr ts q hG=>?_);have nd:=q9.nd;refine⟨_,(af (aS (i6 (ae 1) (qas (az aD aE (by rfl) M.len iU (aq (ae 0) au))))
    (ai (ay (qau (bo (ae 0) (ae 1)))))
    ax)
   (ai (ay (qau ag)))),λ_=>?_⟩
 obtain⟨ns,j,rfl,hq⟩:=hG;refine ow (λh=>?_) (λh=>?_);have h':(j:Int)<((ns.map T.int).length:Int):=of_decide_eq_true h;rw[bQ] at h';have hj:j<ns.length:=by omega
 refine⟨.int (ns.getD j 0),aG ?_,hq⟩;rw[mf,kB hj,List.getD,kB hj];rfl;have h':¬ ((j:Int)<((ns.map T.int).length:Int)):=λz=>h (decide_eq_true z);rw[bQ] at h';have e:ns.getD j 0=0:=by rw[List.getD,List.getElem?_eq_none (by omega)];rfl
 rw[e] at hq;exact hq
noncomputable abbrev Lj:qai:=["_law_cell","_law_many","_law_letters","_law_size","_law_at","_law_words_here","_law_k","_law_word","_law_j","_law_number"]
theorem yo:aJ Lj qaC (ak v3):=L2.ij
theorem Hm(D:Df K mg "_law_words" v3 qaC f fd)(M:Ql mg):cM P w K mg base "_law_words" qaC 1 (cy K 2 Hl):=by
 refine D.lg (mi D.F yo rfl λbS A outer s H E Ox hr ts q hG=>?_);have nd:=yo.nd;have hu:=bM.iw hr;have np:∀{i:Nat},ba ⟨H,[],Ox⟩ i:=mW;refine⟨_,(af (aM (i:=2) nd rfl (Or.inl rfl) (qau ah) np)
  (af (aM (i:=0) nd rfl (Or.inl rfl) (qau (aU (ae 0) (qas (kb (qas ag) (qas ag))))) np)
  (af (aM (i:=3) nd rfl (Or.inl rfl) (qau (ar (qas ag) (qas (aU (ae 0) (qas ag))))) np)
  (af (aM (i:=4) nd rfl (Or.inl rfl) (qau (aU (qas (a_ (ae 0) (qas ag))) (ae 3))) np)
  (af (dR (i:=5) nd rfl (Or.inl rfl) (qau (bx aj)) np)
  (af (eQ HW rfl (fR (by rfl) M.range (ae 1)) (aX (i:=6) nd rfl (Or.inl rfl) np)
   (af (aM (i:=7) nd rfl (Or.inl rfl) (qau ah) np)
   (af (eQ HW rfl (fR (by rfl) M.range (ae 3)) (aX (i:=8) nd rfl (Or.inl rfl) np)
    (af (aM (i:=9) nd rfl (Or.inl rfl) (qau (ar (qas (a_ (qas (a_ (ae 0) (qas ag))) (qas (ar (ae 8) (qas ag))))) (qas (gG (ae 8) (ae 8))))) np)
    (af (aS (bF hu (ae 8) (ae 4))
     (ai (Ow (i:=9) nd rfl (Or.inl rfl) (ae 6) II E9 np))
     ax)
    (ai (aM (i:=7) nd rfl (Or.inl rfl) (qau (ar (ae 7) (qas (bo (ae 2) (qas (aU (ae 9) (qas ag))))))) np)))))
   (ai (bg (cL 5 rH rJ aZ aV (aa (ao 7) aj)))))))
  (af (aS (bF hu (qas (aU (qas (a_ (ae 0) (qas ag))) (qas ag))) (qas ag))
   (ai (pQ 5 (qat (ar (qas (bo (ae 5) (qas ag))) (qas (bo (ae 2) (qas (aU (qas (a_ (ae 0) (qas ag))) (qas ag))))))) (qas ag)))
   ax)
  (ai (ay (k7 5 np)))))))))),λ_=>?_⟩
 obtain⟨c,m,rfl,hm2,acQ,hq⟩:=hG;have YL:(10:Int) ^ (12:Int).toNat=1000000000000:=TB;have hz:(1:Int)+c % (10:Int) ^ (12:Int).toNat % 7=(ja c:Int):=by rw[YL];exact (Mk c).symm
 have oW:=qg c;refine⟨⟨by decide,by decide,by decide⟩,(by show (0:Int)<10 ^ (12:Int).toNat;decide),(by show (0:Int)<7;decide),⟨by decide,by decide⟩,(by show (0:Int)<1+c % 10 ^ (12:Int).toNat % 7;rw[hz];omega),nU _,by omega,by omega,?_⟩;refine f9 (λk ρ=>∃kv wv jv nv,ρ=[some (.int (sd c),false),some (.int (m:Int),false),some (.str bt,false),some (.int (ja c:Int),false),some (.int (CM c:Int),false),some (.lst (((List.range k).map λk=>cc c k (ja c)).map .str),true),kv,wv,jv,nv]) ⟨none,none,none,none,?_⟩ ?_ ?_;have ha:c % (10:Int) ^ (12:Int).toNat / 7 % (1+c % (10:Int) ^ (12:Int).toNat % 7)=(CM c:Int):=by rw[hz,YL];exact (Ml c).symm
 show [some (T.int (c % (10:Int) ^ (12:Int).toNat),false),_,_,some (T.int (1+c % (10:Int) ^ (12:Int).toNat % 7),false),some (T.int (c % (10:Int) ^ (12:Int).toNat / 7 % (1+c % (10:Int) ^ (12:Int).toNat % 7)),false),_,_,_,_,_]=_;rw[ha,hz,YL];rfl;rintro k ρ hk ⟨kv,wv,jv,nv,rfl⟩;refine⟨by omega,by omega,?_⟩;refine f9 (λj ρ=>∃jv nv,ρ=[some (.int (sd c),false),some (.int (m:Int),false),some (.str bt,false),some (.int (ja c:Int),false),some (.int (CM c:Int),false),some (.lst (((List.range k).map λk=>cc c k (ja c)).map .str),true),some (.int (0+(k:Int)),false),some (.str (cc c k j),false),jv,nv]) ⟨_,_,rfl⟩ ?_ ?_;rintro j ρ hj ⟨jv,nv,rfl⟩;have S8:j<ja c:=by omega
 refine⟨⟨by decide,by decide⟩,⟨by show (0:Int)<0+(j:Int)+1;omega,by show 0+(j:Int)+1<1073741824;omega⟩,.inl ⟨by show -(2 ^ 64)<0+(j:Int);omega,by show 0+(j:Int)<2 ^ 64;omega⟩,?_⟩;have last:∀n:Int,n=va c k j->∃c',kF bt.cps.toList (n % 26)=some c'/\(cc c k j).length+(Str.mk #[c']).length<=sizeLine/\(cc c k j++⟨#[c']⟩)=cc c k (j+1):=by rintro n rfl;refine⟨_,tK _,?_,(zy c k j).symm⟩;rw[dG,sizeLine_eq];show j+1<=16777216;omega
 refine cA (λh=>?_) (λh=>?_);have YM:j=CM c:=by have h:(0:Int)+(j:Int)=(CM c:Int):=h;omega
 obtain⟨c',h1,h2,h3⟩:=last (sd c / 49 / (0+(j:Int)+1)+(0+(j:Int)) * (0+(j:Int))+(0+(k:Int))) (by unfold va;rw[if_pos YM];simp only[Int.zero_add]);exact⟨by show (0:Int)<26;decide,gH,c',h1,h2,_,_,by rw[<- h3];rfl⟩;have YM:¬ j=CM c:=λz=>h (by show (0:Int)+(j:Int)=(CM c:Int);omega);obtain⟨c',h1,h2,h3⟩:=last (sd c / 49 / (0+(j:Int)+1)+(0+(j:Int)) * (0+(j:Int))) (by unfold va;rw[if_neg YM];simp only[Int.zero_add,Int.add_zero]);exact⟨by show (0:Int)<26;decide,gH,c',h1,h2,_,_,by rw[<- h3];rfl⟩;rintro ρ ⟨jv,nv,rfl⟩;refine⟨?_,some (.int (0+(k:Int)),false),some (.str (cc c k (ja c)),false),jv,nv,?_⟩;rw[bQ,bQ,HU,sizeLine_eq];omega;rw[List.range_succ,wm,wm];rfl;rintro ρ ⟨kv,wv,jv,nv,rfl⟩;refine⟨⟨by decide,by decide⟩,(by show (0:Int)<3;decide),cA (λh=>?_) (λh=>?_)⟩;have hc:sd c / 49 % 3=1:=h;have e0:kF (((List.range m).map λk=>cc c k (ja c)).map T.str) 0=some (T.str (cc c 0 (ja c))):=by refine aG (j:=0) ?_;rw[mf,mf,List.getElem?_range (by omega)];rfl
 refine⟨_,e0,⟨by decide,by decide⟩,(by show (0:Int)<26;decide),gH,_,tK _,?_,1,?_,?_⟩;rw[dG,sizeLine_eq];show ja c+1<=16777216;omega;unfold wq;rw[if_pos (by decide),if_pos (by rw[bQ,bQ,HU];omega)];rfl;have e:(bU c m).map T.str=(((List.range m).map λk=>cc c k (ja c)).map T.str).set 1 (T.str (cc c 0 (ja c)++⟨#[gW (sd c / 147)]⟩)):=by unfold bU;rw[if_pos hc,List.map_set]
 rw[e] at hq;exact hq;have hc:¬ sd c / 49 % 3=1:=h;have e:(bU c m).map T.str=(((List.range m).map λk=>cc c k (ja c)).map T.str):=by unfold bU;rw[if_neg hc]
 rw[e] at hq;exact hq
end
def hX(ts:qaj)(q:qam):Prop:=∃(n:Int)(ys:qai),ts=[.int n,.lst (ys.map .str)]/\ys.length=6/\0<=n/\n<2147483648/\∀o,cT ys o->q (.vw (tO o))
def Uo(ts:qaj)(q:qam):Prop:=∃(n:Int)(ys:qai),ts=[.int n,.lst (ys.map .str)]/\ys.length=6/\(∀y∈ys,y.length<=100)/\0<=n/\n<2147483648/\∀k,zB ys k->q (.vw (Rc k))
def MN(ts:qaj)(q:qam):Prop:=∃(n:Int)(x:Str)(ys:qai)(pl:Plan),ts=[.int n,.str x,.lst (ys.map .str),.lst (pl.map bz)]/\ys.length=6/\pl≠[]/\pl.length<=3/\(∀p∈pl,p.2.length<=4)/\x∈ys/\0<=n/\n<2147483648 /\
 ∀f as,gY ys pl (.call x f as)->q (.vw (bw (.call x f as)))
structure Given(ys:qai)(pl:Plan):Prop where
 y6:ys.length=6
 sm:∀y∈ys,y.length<=100
 p3:pl.length<=3
 p4:∀p∈pl,p.2.length<=4
def BW(ts:qaj)(q:qam):Prop:=∃(n:Int)(ys:qai)(pl:Plan),ts=[.int n,.lst (ys.map .str),.lst (pl.map bz)]/\Given ys pl/\0<=n/\n<2147483648/\∀r,gY ys pl r->q (.vw (bw r))
section
noncomputable abbrev Dx:qai:=qaD
theorem q_:aJ Dx qaD (ak nO):=L2.ij
theorem kj(D:Df K mg "_law_operand" nO qaD f fd):cM P w K mg base "_law_operand" qaD 1 (cy K 2 hX):=by
 refine D.lg (mi D.F q_ rfl λbS A outer s H E Ox hr ts q hG=>?_);have nd:=q_.nd;have hu:=bM.iw hr;refine⟨_,(af (aS (wO (qas (aU (ae 0) (qas ag))) (qas ag))
    (ai (ay (qau (bo (ae 1) (qas (aU (qas (a_ (ae 0) (qas ag))) (qas ag)))))))
    ax)
   (af (aS (bF hu (qas (aU (ae 0) (qas ag))) (qas ag))
     (ai (ay (qau (mM (qas (aU (qas (ar (qas (gG (qas (gG (ae 0) (qas ag))) (qas (kb (qas ag) (qas ag))))) (ae 0))) (qas (gG (qas ag) (qas (kb (qas ag) (qas ag))))))) (qas (kb (qas ag) (qas ag)))))))
     ax)
   (ai (ay (qau (mM (qas (aU (qas (a_ (ae 0) (qas ag))) (qas ag))) (qas ag))))))),λ_=>?_⟩
 obtain⟨n,ys,rfl,ml,Up,VF,hq⟩:=hG;refine⟨(by show (0:Int)<3;decide),cA (λ_=>?_) (λ_=>?_)⟩;obtain⟨y,hy,e⟩:=lq ml (n:=n / 3) (m:=4) (by decide) (by decide);exact⟨⟨by decide,by decide⟩,(by show (0:Int)<4;decide),_,e,hq (.nm y) hy⟩;refine⟨(by show (0:Int)<15;decide),cA (λ_=>?_) (λ_=>?_)⟩;refine⟨.inr ⟨by decide,by decide⟩,⟨by decide,by decide,by decide⟩,.inl ⟨by show -(2 ^ 64:Int)<n * 1000003;omega,by show n * 1000003<(2 ^ 64:Int);omega⟩,⟨by decide,by decide,by decide⟩,.inl ⟨by decide,by decide⟩,(by show (0:Int)<2 * 10 ^ (30:Int).toNat;decide),⟨by decide,by decide,by decide⟩,hq (.nu _) ?_⟩;show -1000000000000000000000000000000<=(n * 1000003 * 10 ^ (20:Int).toNat+n) % (2 * 10 ^ (30:Int).toNat)-10 ^ (30:Int).toNat/\(n * 1000003 * 10 ^ (20:Int).toNat+n) % (2 * 10 ^ (30:Int).toNat)-10 ^ (30:Int).toNat<1000000000000000000000000000000;rw[TF];have h0:=kD (n * 1000003 * 10 ^ (20:Int).toNat+n) (show (2 * 1000000000000000000000000000000:Int)≠0 by decide);have h1:=mq (n * 1000003 * 10 ^ (20:Int).toNat+n) (show (0:Int)<2 * 1000000000000000000000000000000 by decide);exact⟨by omega,by omega⟩;refine⟨⟨by decide,by decide⟩,(by show (0:Int)<9;decide),hq (.nu _) ?_⟩;show -1000000000000000000000000000000<=n / 3 % 9-4/\n / 3 % 9-4<1000000000000000000000000000000;have h0:=kD (n / 3) (show (9:Int)≠0 by decide);have h1:=mq (n / 3) (show (0:Int)<9 by decide);exact⟨by omega,by omega⟩
abbrev Uq:qai:=qaD
theorem Hn:aJ Uq qaD (ak Hj):=L2.ij
theorem Qm(D:Df K mg "_law_key" Hj qaD f fd)(c1:cM P w K mg base "_law_operand" qaD 1 (cy K 2 hX)):cM P w K mg base "_law_key" qaD 2 (cy K 2 Uo):=by
 obtain⟨jH,iH,bW,bX,bY,bZ⟩:=c1;refine D.lg (mi D.F Hn rfl λbS A outer s H E Ox hr ts q hG=>?_);have nd:=Hn.nd;have hu:=bM.iw hr;refine⟨_,(af (aS (bF hu (qas (aU (ae 0) (qas ag))) (qas ag))
    (ai (ay (qau (ar (qas ah) (qas (bo (ae 1) (qas (aU (qas (a_ (ae 0) (qas ag))) (qas ag)))))))))
    ax)
   (ai (ay (qau (bu bZ (hr.mono (by decide)) (by rfl) bW bX bY (aa (qat (a_ (ae 0) (qas ag))) (aa (ao 1) aj))))))),λ_=>?_⟩
 obtain⟨n,ys,rfl,ml,hsm,Up,VF,hq⟩:=hG;refine⟨(by show (0:Int)<2;decide),cA (λ_=>?_) (λ_=>?_)⟩;obtain⟨y,hy,e⟩:=lq ml (n:=n / 2) (m:=2) (by decide) (by decide);refine⟨⟨by decide,by decide⟩,(by show (0:Int)<2;decide),_,e,?_,hq (.fld y) hy⟩;rw[Yd,sizeLine_eq];have:=hsm y hy;omega;exact⟨⟨by decide,by decide⟩,rfl,_,ys,rfl,ml,by show 0<=n / 2;omega,by show n / 2<2147483648;omega,λo ho=>hq (.op o) ho⟩
noncomputable abbrev Qn:qai:=["_law_number","_law_name","_law_words_here","_law_later","_law_other","_law_parameters","_law_operands","_law_k"]
theorem BX:aJ Qn qaE (ak s_call):=L2.ij
theorem Ll(D:Df K mg "_law_call" s_call qaE f fd)(M:Ql mg)(c1:cM P w K mg base "_law_operand" qaD 1 (cy K 2 hX)) :
  cM P w K mg base "_law_call" qaE 2 (cy K 4 MN):=by
 obtain⟨jH,iH,bW,bX,bY,bZ⟩:=c1;refine D.lg (mi D.F BX rfl λbS A outer s H E Ox hr ts q hG=>?_);have nd:=BX.nd;have np:∀{i:Nat},ba ⟨H,[],Ox⟩ i:=mW;refine⟨_,(af (OB (qat (bo (ae 3) (qas (aU (ae 0) (qas (az aD aE (by rfl) M.len iU (aq (ae 3) au))))))) (ke (n:=2) rfl (cj (aX (i:=4) nd rfl (Or.inl rfl) np) (cj (aX (i:=5) nd rfl (Or.inl rfl) np) iu))))
   (af (dR (i:=6) nd rfl (Or.inl rfl) (qau (bx aj)) np)
   (af (eQ HW rfl (fR (by rfl) M.range (qas (az aD aE (by rfl) M.len iU (aq (ae 5) au)))) (aX (i:=7) nd rfl (Or.inl rfl) np)
     (ai (bg (cL 6 rH rJ aZ aV (aa (qat (bu bZ (hr.mono (by decide)) (by rfl) bW bX bY (aa (qat (a_ (ae 0) (qas (ar (qas (az aD aE (by rfl) M.len iU (aq (ae 3) au))) (ae 7))))) (aa (ao 2) aj)))) aj)))))
   (ai (ay (qau (bc (aa (qat ah) (aa (ao 1) (aa (ao 4) (aa (qat (cY dg fB (by rfl) M.tuple gz (aq (ae 6) au))) aj))))))))))),λ_=>?_⟩
 obtain⟨n,x,ys,pl,rfl,ml,jz,hp3,Yt,hx,Up,VF,hq⟩:=hG;have acR:0<pl.length:=by cases pl with|nil=>exact absurd rfl jz|cons a r=>simp
 have eL:((pl.map bz).length:Int)=pl.length:=by rw[bQ]
 have h0:0<=n % ((pl.map bz).length:Int):=kD n (by omega);have h1:n % ((pl.map bz).length:Int)<pl.length:=by rw[eL];exact mq n (by omega)
 obtain⟨j,hj⟩:=AN h0;have Vy:j<pl.length:=by omega
 obtain⟨p,hp⟩:∃p:Str×qai,p=pl[j]:=⟨_,rfl⟩;obtain⟨fn,ps⟩:=p;have Ur:(fn,ps)∈pl:=by rw[hp];exact yO Vy
 have hps:ps.length<=4:=Yt _ Ur;refine⟨(by show (0:Int)<((pl.map bz).length:Int);omega),bz (fn,ps),?_,rfl,?_⟩;rw[hj];refine aG ?_;rw[mf,kB Vy,<- hp];rfl;refine⟨rfl,nU _,by omega,by show ((ps.map T.str).length:Int)<2 ^ 62;rw[bQ];omega,?_⟩;refine f9 (λk ρ=>∃kv os as,ρ=[some (.int n,false),some (.str x,false),some (.lst (ys.map .str),false),some (.lst (pl.map bz),false),some (.str fn,false),some (.tup (ps.map .str),false),some (.lst os,true),kv]/\os=as.map tO/\as.length=k/\∀a∈as,cT ys a)
  ⟨none,[],[],rfl,rfl,rfl,λ_ z=>nomatch z⟩ ?_ ?_
 rintro k ρ hk ⟨kv,_,as,rfl,rfl,rfl,gp⟩;have CH:as.length<ps.length:=by rw[bQ,DW] at hk;exact hk
 clear hk;refine⟨⟨by show (0:Int)<((pl.map bz).length:Int)+(0+(as.length:Int));omega,by show ((pl.map bz).length:Int)+(0+(as.length:Int))<1073741824;omega⟩,rfl,_,ys,rfl,ml,?_,?_,λo ho=>⟨?_,_,_,as++[o],rfl,?_,by simp,λa ha=>?_⟩⟩;exact Int.ediv_nonneg Up (by omega);exact Int.lt_of_le_of_lt (Int.ediv_le_self _ Up) VF;rw[bQ,sizeLine_eq];omega;rw[wm];rfl;rcases gF.mp ha with z|z
 exact gp a z;rw[wj.mp z];exact ho;rintro ρ ⟨kv,_,as,rfl,rfl,hlen,gp⟩;refine⟨by show 4<=sizeLine;rw[sizeLine_eq];decide,hq fn as ⟨hx,⟨ps,Ur,?_⟩,gp⟩⟩;rw[hlen,bQ];rfl
end
theorem fits(h:n<=1001):n<sizeLine:=by rw[sizeLine_eq];omega
theorem c_(h:n<=8):n<=sizeLine:=small (by omega)
noncomputable def YN(q:qam)(n:Int)(ys:qai)(pl:Plan)(y z:Str):FS:=λd ρ=>(∃wv,ρ=[some (.int n,false),some (.lst (ys.map .str),false),some (.lst (pl.map bz),false),some (.int (n % 13),false),some (.str y,false),some (.str z,false),some (.int (n / 208),false),wv])/\∀ρ r,q r->d.rt ρ r
noncomputable def Us:GT:=λts q=>∃(rs:qal)(bI:qai)(c:Int)(ys:qai)(pl:Plan),ts=[.lst (rs.map bw),.lst (bI.map .str),.int c,.lst (ys.map .str),.lst (pl.map bz)]/\Given ys pl/\rs.length<=1000/\bI.length<=1000 /\
 ∀new dB,mZ ys pl bI new dB->q [.lst ((rs++new).map bw),.lst (dB.map .str)] (.vw .bR)
section
noncomputable abbrev Ho:qai:=["_law_number","_law_words_here","_law_later","_law_kind","_law_name","_law_other","_law_rest","_law_word"]
theorem ug:aJ Ho qaF (ak q8):=L2.ij
theorem Dy(D:Df K mg "_law_simple" q8 qaF f fd)(c1:cM P w K mg base "_law_operand" qaD 1 (cy K 2 hX))(c2:cM P w K mg base "_law_key" qaD 2 (cy K 2 Uo))(c3:cM P w K mg base "_law_call" qaE 2 (cy K 4 MN)) :
  cM P w K mg base "_law_simple" qaF 3 (cy K 3 BW):=by
 obtain⟨jH,iH,bW,bX,bY,bZ⟩:=c1;obtain⟨Z4,YO,MO,MQ,MR,MS⟩:=c2;obtain⟨YQ,VH,Qo,Qp,Qq,Qr⟩:=c3;refine D.lg (mi D.F ug rfl λbS A outer s H E Ox hr ts q hG=>?_);have nd:=ug.nd;have hu:=bM.iw hr;have np:∀{i:Nat},ba ⟨H,[],Ox⟩ i:=mW;obtain⟨n,ys,pl,rfl,G,Up,VF,hq⟩:=hG;obtain⟨y,hy,ey⟩:=lq G.y6 (n:=n / 13) (m:=4) (by decide) (by decide);obtain⟨z,hz,ez⟩:=lq G.y6 (n:=n / 52) (m:=4) (by decide) (by decide);refine⟨_,(af (aM (i:=3) nd rfl (Or.inl rfl) (qau (aU (ae 0) (qas ag))) np)
   (af (aM (i:=4) nd rfl (Or.inl rfl) (qau (bo (ae 1) (qas (aU (qas (a_ (ae 0) (qas ag))) (qas ag))))) np)
   (af (aM (i:=5) nd rfl (Or.inl rfl) (qau (bo (ae 1) (qas (aU (qas (a_ (ae 0) (qas ag))) (qas ag))))) np)
   (af (aM (i:=6) nd rfl (Or.inl rfl) (qau (a_ (ae 0) (qas ag))) np)
   (af (aS (i6 (ae 3) (qas ag))
     (ai (ay (qau (bc (aa (qat ah) (aa (ao 4) (aa (qat (bu bZ (hr.mono (by decide)) (by rfl) bW bX bY (aa (ao 6) (aa (ao 1) aj)))) aj)))))))
     ax)
   (af (aS (i6 (ae 3) (qas ag))
     (af (aM (i:=7) nd rfl (Or.inl rfl) (qau (bo (qas (bx (aa (qat ah) (aa (qat ah) (aa (qat ah) (aa (qat ah) (aa (qat ah) (aa (qat ah) (aa (qat ah) aj))))))))) (qas (aU (ae 6) (qas ag))))) np)
     (ai (ay (qau (bc (aa (qat ah) (aa (ao 4) (aa (qat (bu bZ (hr.mono (by decide)) (by rfl) bW bX bY (aa (qat (a_ (ae 6) (qas ag))) (aa (ao 1) aj)))) (aa (ao 7) (aa (qat (bu bZ (hr.mono (by decide)) (by rfl) bW bX bY (aa (qat (a_ (ae 6) (qas ag))) (aa (ao 1) aj)))) aj))))))))))
     ax)
   (af (aS (bF hu (ae 3) (qas ag))
     (ai (ay (qau (bc (aa (qat ah) (aa (ao 4) aj))))))
     ax)
   (af (aS (i6 (ae 3) (qas ag))
     (ai (ay (qau (bc (aa (qat ah) (aa (ao 4) (aa (ao 5) (aa (qat (bu MS (hr.mono (by decide)) (by rfl) MO MQ MR (aa (ao 6) (aa (ao 1) aj)))) aj))))))))
     ax)
   (af (aS (i6 (ae 3) (qas ag))
     (ai (ay (qau (bc (aa (qat ah) (aa (ao 5) (aa (qat (bu MS (hr.mono (by decide)) (by rfl) MO MQ MR (aa (ao 6) (aa (ao 1) aj)))) (aa (qat (bu bZ (hr.mono (by decide)) (by rfl) bW bX bY (aa (qat (a_ (ae 6) (qas ag))) (aa (ao 1) aj)))) aj))))))))
     ax)
   (af (aS (VW.vc (eO (bF hu (ae 3) (qas ag)) (dq (jT hu (ae 2) (qas (bx aj))))))
     (ai (ay (qau (bu Qr (hr.mono (by decide)) (by rfl) Qo Qp Qq (aa (ao 6) (aa (ao 4) (aa (ao 1) (aa (ao 2) aj))))))))
     ax)
   (i7.weak (u:=(YN q n ys pl y z)) (af (aS (VW.vc (eO (bF hu (ae 3) (qas ag)) (dq (bF hu (qas (aU (ae 6) (qas ag))) (qas ag)))))
     (ai (ay (qau (bc (aa (qat ah) (aa (qat (bo (ae 1) (qas (ar (qas ag) (qas (aU (qas (a_ (ae 6) (qas ag))) (qas ag))))))) aj))))))
     ax)
   (af (aS (VW.vc (eO (bF hu (ae 3) (qas ag)) (dq (bF hu (qas (aU (ae 6) (qas ag))) (qas ag)))))
     (ai (ay (qau (bc (aa (qat ah) aj)))))
     ax)
   (ai (ay (qau (bc (aa (qat ah) (aa (ao 4) (aa (ao 5) aj))))))))) ?w_cutS))))))))))),λ_=>?_⟩
 case w_cutS=>
  rintro d ρ ⟨⟨wv,rfl⟩,kk⟩;have fin:=kk;refine cA (λ_=>?_) (λ_=>?_);refine⟨(by show (0:Int)<3;decide),cA (λ_=>?_) (λ_=>?_)⟩;obtain⟨x,hx,ex⟩:=Pj G.y6 (n / 208 / 3);exact⟨⟨by decide,by decide⟩,(by show (0:Int)<2;decide),_,ex,c_ (by simp),kk _ _ (hq (.fail x) hx)⟩;refine cA (λ_=>?_) (λ_=>⟨c_ (by simp),kk _ _ (hq (.put y (.nm z)) ⟨hy,hz⟩)⟩);exact⟨(by show (0:Int)<2;decide),cA (λ_=>⟨c_ (by simp),kk _ _ (hq .skip trivial)⟩) (λ_=>⟨c_ (by simp),kk _ _ (hq (.put y (.nm z)) ⟨hy,hz⟩)⟩)⟩;refine eU rfl (cA (λ_=>?_) (λ_=>eU rfl ⟨c_ (by simp),kk _ _ (hq (.put y (.nm z)) ⟨hy,hz⟩)⟩));exact⟨(by show (0:Int)<2;decide),cA (λ_=>⟨c_ (by simp),kk _ _ (hq .skip trivial)⟩) (λ_=>⟨c_ (by simp),kk _ _ (hq (.put y (.nm z)) ⟨hy,hz⟩)⟩)⟩
 have m0:0<=n / 208:=by omega
 have m1:n / 208<2147483648:=by omega
 have dv:∀e:Int,0<e->0<=n / 208 / e/\n / 208 / e<2147483648:=λe he=>⟨Int.ediv_nonneg m0 (by omega),Int.lt_of_le_of_lt (Int.ediv_le_self _ m0) m1⟩;refine⟨(by show (0:Int)<13;decide),⟨by decide,by decide⟩,(by show (0:Int)<4;decide),_,ey,⟨by decide,by decide⟩,(by show (0:Int)<4;decide),_,ez,⟨by decide,by decide⟩,?_⟩;refine cA (λ_=>?_) (λ_=>?_);exact⟨rfl,_,ys,rfl,G.y6,m0,m1,λo ho=>⟨c_ (by simp),hq (.put y o) ⟨hy,ho⟩⟩⟩;refine cA (λ_=>?_) (λ_=>?_);obtain⟨op,hop,eop⟩:=TK (n / 208);exact⟨c_ (by simp),(by show (0:Int)<7;decide),_,eop,⟨by decide,by decide⟩,rfl,_,ys,rfl,G.y6,(dv 7 (by decide)).1,(dv 7 (by decide)).2,λo ho=>⟨⟨by decide,by decide⟩,rfl,_,ys,rfl,G.y6,(dv 420 (by decide)).1,(dv 420 (by decide)).2,λo2 A1=>⟨c_ (by simp),hq (.Bn y o op o2) ⟨hy,ho,hop,A1⟩⟩⟩⟩;refine cA (λ_=>⟨c_ (by simp),hq (.new y) hy⟩) (λ_=>?_);refine cA (λ_=>?_) (λ_=>?_);exact⟨rfl,_,ys,rfl,G.y6,G.sm,m0,m1,λk hk=>⟨c_ (by simp),hq (.get y z k) ⟨hy,hz,hk⟩⟩⟩;refine cA (λ_=>?_) (λ_=>?_);exact⟨rfl,_,ys,rfl,G.y6,G.sm,m0,m1,λk hk=>⟨⟨by decide,by decide⟩,rfl,_,ys,rfl,G.y6,(dv 90 (by decide)).1,(dv 90 (by decide)).2,λo ho=>⟨c_ (by simp),hq (.set z k o) ⟨hz,hk,ho⟩⟩⟩⟩;refine cA (λ_=>?_) (λ_=>eU rfl ⟨⟨_,rfl⟩,λ_ _ h=>h⟩);refine⟨nU _,xy pl,rfl,CN pl,?_⟩;cases pl with
 |nil=>exact eU rfl ⟨⟨_,rfl⟩,λ_ _ h=>h⟩
 |cons p pl=>exact xi rfl ⟨rfl,_,y,ys,p::pl,rfl,G.y6,by simp,G.p3,G.p4,hy,m0,m1,λfn as hs=>hq _ hs⟩
end
noncomputable def Hq(q:qaj->qam)(rs:qal)(bI:qai)(c n mv:Int)(ys:qai)(pl:Plan):FS:=λd ρ=>(∃nv,ρ=[some (.lst (rs.map bw),true),some (.lst (bI.map .str),true),some (.int c,false),some (.lst (ys.map .str),false),some (.lst (pl.map bz),false),some (.int n,false),some (.int mv,false),nv]) /\
 ∀ρ,q (mQ [true,true,false,false,false] ρ) (.vw .bR)->d.nx ρ
theorem rf(l:qai):plainT (.lst (l.map .str))=true:=by simp only[plainT];exact iA (λ_=>by simp[plainT]) l
theorem yp(l:qai):dep (.lst (l.map .str))<=100:=by have:=lr (f:=T.str) (n:=0) (λ_=>by simp[dep]) l;simp only[dep];omega
section
noncomputable abbrev Ut:qai:=["_law_rows","_law_stack","_law_cell","_law_words_here","_law_later","_law_number","_law_move","_law_name"]
theorem Hr:aJ Ut qaG (ak Hk):=L2.ij
theorem Qs(D:Df K mg "_law_lay" Hk qaG f fd)(M:Ql mg)(c1:cM P w K mg base "_law_operand" qaD 1 (cy K 2 hX))(c2:cM P w K mg base "_law_simple" qaF 3 (cy K 3 BW)) :
  cM P w K mg base "_law_lay" qaG 4 (wU K [true,true,false,false,false] Us):=by
 obtain⟨jH,iH,bW,bX,bY,bZ⟩:=c1;obtain⟨Uu,Rl,Hs,Ht,Hu,Hv⟩:=c2;refine D.lg (Xx D.F Hr rfl λbS A outer s H E as Ox hr ts q hl hG=>?_);have nd:=Hr.nd;have hu:=bM.iw hr;obtain⟨rs,bI,c,ys,pl,rfl,G,Z5,KR,hq⟩:=hG;have n0:0<=c / 8 * 48271 % 2147483647:=kD _ (by decide);have n1:c / 8 * 48271 % 2147483647<2147483647:=mq _ (by decide);have n2:c / 8 * 48271 % 2147483647<2147483648:=by omega
 have d3:0<=c / 8 * 48271 % 2147483647 / 3/\c / 8 * 48271 % 2147483647 / 3<2147483648:=⟨by omega,by omega⟩;have Dz:(rs.map bw).length<sizeLine:=by rw[bQ];exact fits (by omega)
 have Uv:(bI.map T.str).length<sizeLine:=by rw[bQ];exact fits (by omega)
 have one:∀{r:Rw}{dB:qai},mZ ys pl bI [r] dB->q [.lst (rs.map bw++[bw r]),.lst (dB.map .str)] (.vw .bR):=λ{r dB} h=>by have:=hq [r] dB h;rw[wm] at this;exact this
 have push:∀x:Str,(bI++[x]).map T.str=bI.map T.str++[T.str x]:=λx=>by rw[wm];rfl
 refine⟨_,(af (aM (i:=5) nd rfl (Or.inl rfl) (qau (aU (qas (gG (qas (a_ (ae 2) (qas ag))) (qas ag))) (qas ag))) (Fw (by decide)))
   (af (aM (i:=6) nd rfl (Or.inl rfl) (qau (aU (ae 2) (qas ag))) (Fw (by decide)))
   (i7.weak (u:=(Hq q rs bI c (c / 8 * 48271 % 2147483647) (c % 8) ys pl)) (ai (aS (VW.vc (eO (bF hu (ae 6) (qas ag)) (dq (i6 (qas (az aD aE (by rfl) M.len iU (aq (ae 1) au))) (qas ag)))))
     (af (bg (cL 0 rH rJ aZ aV (aa (qat (bc (aa (qat ah) (aa (qat (bu bZ (hr.mono (by decide)) (by rfl) bW bX bY (aa (ao 5) (aa (ao 3) aj)))) aj)))) aj)))
     (ai (bg (cL 1 rH rJ aZ aV (aa (qat ah) aj)))))
     (i7.weak (u:=(Hq q rs bI c (c / 8 * 48271 % 2147483647) (c % 8) ys pl)) (ai (aS (VW.vc (eO (bF hu (ae 6) (qas ag)) (dq (i6 (qas (az aD aE (by rfl) M.len iU (aq (ae 1) au))) (qas ag)))))
       (af (bg (cL 1 rH rJ aZ aV (aa (qat ah) aj)))
       (ai (aS (bF hu (qas (aU (ae 5) (qas ag))) (qas ag))
         (ai (bg (cL 0 rH rJ aZ aV (aa (qat (bc (aa (qat ah) (aa (qat (bu bZ (hr.mono (by decide)) (by rfl) bW bX bY (aa (qat (a_ (ae 5) (qas ag))) (aa (ao 3) aj)))) aj)))) aj))))
         (af (aM (i:=7) nd rfl (Or.inl rfl) (qau (bo (ae 3) (qas (aU (qas (a_ (ae 5) (qas ag))) (qas ag))))) (Fw (by decide)))
         (af (bg (cL 0 rH rJ aZ aV (aa (qat (bc (aa (qat ah) (aa (ao 7) aj)))) aj)))
         (ai (bg (cL 0 rH rJ aZ aV (aa (qat (bc (aa (qat ah) (aa (ao 7) (aa (ao 7) (aa (qat ah) (aa (qat ag) aj))))))) aj)))))))))
       (i7.weak (u:=(Hq q rs bI c (c / 8 * 48271 % 2147483647) (c % 8) ys pl)) (ai (aS (VW.vc (eO (bF hu (ae 6) (qas ag)) (eO (jT hu (ae 1) (qas (bx aj))) (dq (bF hu (qas (bo (ae 1) (qas (kc (qas ag))))) (qas ah))))))
         (af (bg (cL 0 rH rJ aZ aV (aa (qat (bc (aa (qat ah) aj))) aj)))
         (ai (pQ 1 (qat ah) (qas (kc (qas ag))))))
         (i7.weak (u:=(Hq q rs bI c (c / 8 * 48271 % 2147483647) (c % 8) ys pl)) (ai (aS (VW.vc (eO (bF hu (ae 6) (qas ag)) (dq (jT hu (ae 1) (qas (bx aj))))))
           (af (bg (cL 0 rH rJ aZ aV (aa (qat (bc (aa (qat ah) aj))) aj)))
           (ai (bg (Fc 1 PySem.F.slot_list_pop PySem.F.type_list_pop EI Bf))))
           (i7.weak (u:=(Hq q rs bI c (c / 8 * 48271 % 2147483647) (c % 8) ys pl)) (ai (bg (cL 0 rH rJ aZ aV (aa (qat (bu Hv (hr.mono (by decide)) (by rfl) Hs Ht Hu (aa (ao 5) (aa (ao 3) (aa (ao 4) aj))))) aj)))) ?w5))) ?w4))) ?w3))) ?w2))) ?w1))),?_⟩
 case w5=>
  rintro d ρ ⟨⟨nv,rfl⟩,kk⟩;exact⟨rfl,_,ys,pl,rfl,G,n0,n2,λr hs=>⟨Dz,kk _ (one (.inr (.inr (.inr (.inr (.inr ⟨r,hs,rfl,rfl⟩))))))⟩⟩
 case w4=>
  rintro d ρ ⟨⟨nv,rfl⟩,kk⟩;refine cA (λ_=>?_) (λ_=>eU rfl ⟨⟨nv,rfl⟩,kk⟩);refine⟨nU _,rf bI,rfl,yp bI,?_⟩;rcases UX bI with e|⟨s0,x,e⟩
  subst e;exact eU rfl ⟨⟨nv,rfl⟩,kk⟩;have en:eqT (.lst (bI.map .str)) (.lst [])=false:=by rw[e];cases s0<;>simp[eqT,fZ]
  refine xi (by show (!eqT (.lst (bI.map .str)) (.lst []))=true;rw[en];rfl) ⟨c_ (by simp),Dz,rfl,T.str x,?_,?_⟩;rw[e];simp;have e2:(bI.map T.str).dropLast=s0.map T.str:=by rw[e];simp
  refine kk _ ?_;show q [.lst (rs.map bw++[bw .fin]),.lst ((bI.map T.str).dropLast)] _;rw[e2];exact one (.inr (.inr (.inr (.inr (.inl ⟨s0,x,by rw[e,V2],rfl,rfl⟩)))))
 case w3=>
  rintro d ρ ⟨⟨nv,rfl⟩,kk⟩;refine cA (λ_=>?_) (λ_=>eU rfl ⟨⟨nv,rfl⟩,kk⟩);refine⟨nU _,rf bI,rfl,yp bI,?_⟩;rcases UX bI with e|⟨s0,x,e⟩
  subst e;exact eU rfl (eU rfl ⟨⟨nv,rfl⟩,kk⟩);have en:eqT (.lst (bI.map .str)) (.lst [])=false:=by rw[e];cases s0<;>simp[eqT,fZ]
  have ex:kF (bI.map T.str) (-1)=some (T.str x):=by rw[e,V2,wm];exact wC _ _
  refine xi (by show (!eqT (.lst (bI.map .str)) (.lst []))=true;rw[en];rfl) ⟨_,ex,cA (λhx=>?_) (λ_=>⟨⟨nv,rfl⟩,kk⟩)⟩;have LZ:x="if":=hx;subst LZ;have JQ:(bI.map T.str).length=s0.length+1:=by rw[e];simp
  refine⟨c_ (by simp),Dz,s0.length,?_,kk _ ?_⟩;unfold wq;rw[JQ,if_neg (by decide),if_pos (by omega)]
  congr 1
  omega;have e2:(bI.map T.str).set s0.length (T.str "else")=(s0++([("else":Str)]:qai)).map T.str:=by rw[e];simp
  show q [.lst (rs.map bw++[bw .TC]),.lst ((bI.map T.str).set s0.length (T.str "else"))] _;rw[e2];exact one (.inr (.inr (.inr (.inl ⟨s0,by rw[e];simp,rfl,rfl⟩))))
 case w2=>
  rintro d ρ ⟨⟨nv,rfl⟩,kk⟩;refine cA (λ_=>?_) (λ_=>eU rfl ⟨⟨nv,rfl⟩,kk⟩);refine cA (λ_=>?_) (λ_=>⟨⟨nv,rfl⟩,kk⟩);refine⟨Uv,(by show (0:Int)<3;decide),cA (λ_=>?_) (λ_=>?_)⟩;refine⟨⟨by decide,by decide⟩,rfl,_,ys,rfl,G.y6,d3.1,d3.2,λo ho=>⟨c_ (by simp),Dz,kk _ ?_⟩⟩;have:=one (r:=.yL o) (.inr (.inl ⟨o,ho,rfl,rfl⟩));rw[push] at this;exact this;obtain⟨y,hy,ey⟩:=lq G.y6 (n:=c / 8 * 48271 % 2147483647 / 3) (m:=4) (by decide) (by decide);refine⟨⟨by decide,by decide⟩,(by show (0:Int)<4;decide),_,ey,c_ (by simp),Dz,c_ (by simp),?_,kk _ ?_⟩;rw[j6,bQ];exact fits (by simp;omega);have:=hq [.yL (.nm y),.Bn y (.nm y) "minus" (.nu 1)] _ (.inr (.inr (.inl ⟨y,hy,rfl,rfl⟩)));rw[push,wm] at this;show q [.lst ((rs.map bw++[bw (.yL (.nm y))])++[bw (.Bn y (.nm y) "minus" (.nu 1))]),_] _;rw[mh];exact this
 case w1=>
  rintro d ρ ⟨⟨nv,rfl⟩,kk⟩;refine cA (λ_=>?_) (λ_=>eU rfl ⟨⟨nv,rfl⟩,kk⟩);refine cA (λ_=>?_) (λ_=>⟨⟨nv,rfl⟩,kk⟩);refine⟨rfl,_,ys,rfl,G.y6,n0,n2,λo ho=>⟨c_ (by simp),Dz,Uv,kk _ ?_⟩⟩;have:=one (r:=.Ij o) (.inl ⟨o,ho,rfl,rfl⟩);rw[push] at this;exact this
 exact⟨⟨by decide,by decide⟩,.inr ⟨by decide,by decide⟩,(by show (0:Int)<2147483647;decide),(by show (0:Int)<8;decide),⟨none,rfl⟩,λ_ h=>h⟩
end
def MU(ts:qaj)(q:qam):Prop:=∃(c:Int)(ys:qai),ts=[.int c,.lst (ys.map .str)]/\ys.length=6/\∀pl,m9 ys pl->1<=pl.length->pl.length<=3->q (.fr (.lst (pl.map bz)))
section
noncomputable abbrev Hw:qai:=["_law_cell","_law_words_here","_law_number","_law_plan_here","_law_k","_law_parameters"]
theorem BY:aJ Hw qaH (ak Ao):=L2.ij
theorem Aq:(Hw++(["_law_j"]:qai)).Nodup:=by decide +kernel
theorem Lm(D:Df K mg "_law_plan" Ao qaH f fd)(M:Ql mg):cM P w K mg base "_law_plan" qaH 1 (cy K 2 MU):=by
 refine D.lg (mi D.F BY rfl λbS A outer s H E Ox hr ts q hG=>?_);have nd:=BY.nd;have np:∀{i:Nat},ba ⟨H,[],Ox⟩ i:=mW;refine⟨_,(af (aM (i:=2) nd rfl (Or.inr rfl) (qau (aU (ae 0) (qas (kb (qas ag) (qas ag))))) np)
  (af (dR (i:=3) nd rfl (Or.inl rfl) (qau (bx aj)) np)
  (af (eQ HW rfl (fR (by rfl) M.range (qas (ar (qas ag) (qas (aU (ae 2) (qas ag)))))) (aX (i:=4) nd rfl (Or.inl rfl) np)
   (af (aM (i:=2) nd rfl (Or.inr rfl) (qau (aU (qas (ar (qas (ar (qas (gG (ae 2) (ae 2))) (qas (gG (qas ag) (ae 2))))) (ae 4))) (qas ag))) np)
   (af (oY (i:=5) (ts:=["_law_j"]) nd rfl (Or.inl rfl) rfl (by rfl) (fR (by rfl) M.range (qas (aU (ae 2) (qas ag)))) (λ_ _ _ _ _ _=>(aX (i:=6) Aq rfl (Or.inl rfl) np)) (λ_ _ _ _ _ _=>fm) (λ_ _ _ _ _ _=>(qat (bo (ae 1) (qas (aU (qas (ar (qas (a_ (ae 2) (qas ag))) (ae 6))) (qas ag)))))) np)
   (ai (bg (cL 3 rH rJ aZ aV (aa (qat (bc (aa (qat (bo (ae 1) (ae 4))) (aa (qat (cY dg fB (by rfl) M.tuple gz (aq (ae 5) au))) aj)))) aj)))))))
  (ai (ay (k7 3 np)))))),λ_=>?_⟩
 obtain⟨c,ys,rfl,ml,hq⟩:=hG;refine⟨⟨by decide,by decide,by decide⟩,(by show (0:Int)<10 ^ (9:Int).toNat;decide),nU _,(by show (0:Int)<3;decide),?_⟩;have m0:0<=c % (10:Int) ^ (9:Int).toNat:=kD _ (by decide);have m1:c % (10:Int) ^ (9:Int).toNat<1000000000:=by rw[TH];exact mq _ (by decide)
 have t0:0<=c % (10:Int) ^ (9:Int).toNat % 3:=kD _ (by decide);have t1:c % (10:Int) ^ (9:Int).toNat % 3<3:=mq _ (by decide);refine⟨(by show -(2 ^ 62:Int)<=1+c % 10 ^ (9:Int).toNat % 3;omega),(by show 1+c % 10 ^ (9:Int).toNat % 3<(2 ^ 62:Int);omega),?_⟩;refine f9 (λk ρ=>∃n kv pv ts pl,ρ=[some (.int c,false),some (.lst (ys.map .str),false),some (.int n,false),some (.lst ts,true),kv,pv]/\ts=pl.map bz/\0<=n/\n<2147483648/\pl.length=k/\m9 ys pl)
  ⟨_,none,none,_,[],rfl,rfl,m0,by omega,rfl,λk f ps e=>by simp at e⟩ ?_ ?_
 rintro k ρ hk ⟨n,kv,pv,_,pl,rfl,rfl,p0,p1,rfl,bG⟩;have hk3:pl.length<3:=by omega
 refine⟨.inl ⟨by omega,by omega⟩,.inl ⟨by decide,by decide⟩,(by show (0:Int)<2147483647;decide),rfl,(by show (0:Int)<3;decide),?_⟩;have g0:0<=(n * n+48271 * n+(0+(pl.length:Int))) % 2147483647:=kD _ (by decide);have g1:(n * n+48271 * n+(0+(pl.length:Int))) % 2147483647<2147483647:=mq _ (by decide);have u0:0<=(n * n+48271 * n+(0+(pl.length:Int))) % 2147483647 % 3:=kD _ (by decide);have u1:(n * n+48271 * n+(0+(pl.length:Int))) % 2147483647 % 3<3:=mq _ (by decide);refine⟨(by show -(2 ^ 62:Int)<=(n * n+48271 * n+(0+(pl.length:Int))) % 2147483647 % 3;omega),(by show (n * n+48271 * n+(0+(pl.length:Int))) % 2147483647 % 3<(2 ^ 62:Int);omega),?_⟩;refine⟨by rw[pZ];exact small (by show ((n * n+48271 * n+(0+(pl.length:Int))) % 2147483647 % 3).toNat<=1000;omega),?_⟩;refine gR (λ_=>true) (λt=>match t with | .int j=>.str (ys.getD (((n * n+48271 * n+(0+(pl.length:Int))) % 2147483647 / 3+j) % 4).toNat Str.empty)|_=>.bR) ?_ ?_;intro t ht _ r hr;obtain⟨i,hi,e⟩:=Rz.mp ht;obtain⟨_,rfl⟩:=p_ (by rw[kB hi,e]:(rangeT _ _)[i]?=some t);rw[if_pos rfl] at hr;exact⟨⟨by decide,by decide⟩,(by show (0:Int)<4;decide),_,FY ml _,hr⟩;generalize Nn:(n * n+48271 * n+(0+(pl.length:Int))) % 2147483647=n' at g0 g1 u0 u1;have Z6:pl.length<ys.length:=by omega
 have ek:kF (ys.map T.str) (0+(pl.length:Int))=some (T.str ys[pl.length]):=by rw[Int.zero_add];refine aG ?_;rw[mf,kB Z6];rfl
 have eps:(((rangeT 0 (n' % 3).toNat).filter λ_=>true).map λt=>match t with | .int j=>T.str (ys.getD ((n' / 3+j) % 4).toNat Str.empty)|_=>.bR)=((List.range (n' % 3).toNat).map λj=>ys.getD ((n' / 3+((j:Nat):Int)) % 4).toNat Str.empty).map T.str:=by unfold rangeT;rw[UP.mpr (λ_ _=>rfl),AQ,AQ];apply RC;intro j _;show T.str (ys.getD ((n' / 3+(0+(j:Int))) % 4).toNat Str.empty)=T.str (ys.getD ((n' / 3+(j:Int)) % 4).toNat Str.empty);rw[Int.zero_add]
 rw[eps];refine⟨_,ek,c_ (by simp),by rw[bQ];exact fits (by omega),n',_,_,_,pl++[(ys[pl.length],(List.range (n' % 3).toNat).map λj=>ys.getD ((n' / 3+((j:Nat):Int)) % 4).toNat Str.empty)],rfl,?_,g0,by omega,by simp,?_⟩;rw[wm];rfl;intro k' f' Mq e;by_cases gq:k'<pl.length;rw[wg gq] at e;exact bG k' f' Mq e;by_cases he:k'=pl.length;subst he;rw[AL (eB _),Nat.sub_self] at e;simp only[Rp,Option.some.injEq,Prod.mk.injEq] at e;obtain⟨e1,e2⟩:=e;subst e1 e2;exact⟨kB Z6,n' / 3,(n' % 3).toNat,by omega,rfl⟩;rw[List.getElem?_eq_none (by simp;omega)] at e;cases e;rintro ρ ⟨n,kv,pv,_,pl,rfl,rfl,p0,p1,hlen,bG⟩;exact hq pl bG (by omega) (by omega)
end
def yq(ts:qaj)(q:qam):Prop:=∃(ns:qan)(ys:qai)(pl:Plan),ts=[.lst (ns.map .int),.lst (ys.map .str),.lst (pl.map bz)]/\ns.length<=63/\Given ys pl/\1<=pl.length /\
 ∀rs,Pre ys pl pl.length rs->rs.length<=60->q (.fr (.lst (rs.map bw)))
theorem BZ(f:α->T)(ns:List α)(lo hi:Option Int):∃ms:List α,gQ (ns.map f) lo hi=ms.map f/\ms.length<=ns.length:=by unfold gQ;rw[bQ,<- List.map_drop,<- List.map_take];refine⟨_,rfl,?_⟩;rw[Ea,DY];omega
theorem Hx(f:α->T)(ts:List α)(k:Nat)(h:k<=ts.length):gQ (ts.map f) (some (k:Int)) none=(ts.drop k).map f:=by unfold gQ;rw[bQ,HT.jy,HT.pC,Nat.min_eq_left h,<- List.map_drop,<- List.map_take,LJ (by rw[DY];omega)]
theorem ints_map:∀ms:qan,intsOf (ms.map T.int)=some ms
 |[]=>rfl
 |m::ms=>by simp only[dP,intsOf,ints_map ms];rfl
section
noncomputable abbrev DA:qai:=["_law_cells","_law_words_here","_law_plan_here","_law_rows","_law_k","_law_stack","_law_start","_law_stop","_law_share","_law_cell","_law_word"]
theorem rg:aJ DA qaI (ak nP):=L2.ij
theorem Ar(D:Df K mg "_law_program" nP qaI f fd)(M:Ql mg)(c1:cM P w K mg base "_law_operand" qaD 1 (cy K 2 hX))(c2:cM P w K mg base "_law_lay" qaG 4 (wU K [true,true,false,false,false] Us)) :
  cM P w K mg base "_law_program" qaI 5 (cy K 3 yq):=by
 obtain⟨jH,iH,bW,bX,bY,bZ⟩:=c1;obtain⟨Z7,YR,Uw,Ux,Uy,Uz⟩:=c2;refine D.lg (mi D.F rg rfl λbS A outer s H E Ox hr ts q hG=>?_);have nd:=rg.nd;have hu:=bM.iw hr;have np:∀{i:Nat},ba ⟨H,[],Ox⟩ i:=mW;have UA:∀{is:qao},∀i∈is,ba ⟨H,[],Ox⟩ i:=λi _=>mW;obtain⟨ns,ys,pl,rfl,N_,G,hp1,hq⟩:=hG;refine⟨_,(af (dR (i:=3) nd rfl (Or.inl rfl) (qau (bx aj)) np)
   (af (eQ HW rfl (fR (by rfl) M.range (qas (az aD aE (by rfl) M.len iU (aq (ae 2) au)))) (aX (i:=4) nd rfl (Or.inl rfl) np)
     (af (bg (cL 3 rH rJ aZ aV (aa (qat (bc (aa (qat ah) (aa (qat (bo (qas (bo (ae 2) (ae 4))) (qas ag))) (aa (qat (bo (qas (bo (ae 2) (ae 4))) (qas ag))) aj))))) aj)))
     (af (dR (i:=5) nd rfl (Or.inl rfl) (qau (bx aj)) np)
     (af (aM (i:=6) nd rfl (Or.inl rfl) (qau (a_ (qas (gG (ae 4) (qas (az aD aE (by rfl) M.len iU (aq (ae 0) au))))) (qas (az aD aE (by rfl) M.len iU (aq (ae 2) au))))) np)
     (af (aM (i:=7) nd rfl (Or.inl rfl) (qau (a_ (qas (gG (qas (ar (ae 4) (qas ag))) (qas (az aD aE (by rfl) M.len iU (aq (ae 0) au))))) (qas (az aD aE (by rfl) M.len iU (aq (ae 2) au))))) np)
     (af (aM (i:=8) nd rfl (Or.inl rfl) (qau (cS (ae 0) (dt (ae 6)) (dt (ae 7)))) np)
     (af (eQ HW rfl (fF (ao 8)) (aX (i:=9) nd rfl (Or.inl rfl) np)
       (ai (aS (i6 (qas (ar (qas (az aD aE (by rfl) M.len iU (aq (ae 3) au))) (qas (az aD aE (by rfl) M.len iU (aq (ae 5) au))))) (qas (mM (qas ag) (qas (gG (qas ag) (qas (mM (qas (mM (qas (az aD aE (by rfl) M.len iU (aq (ae 2) au))) (qas ag))) (ae 4))))))))
         (ai (bg (wX Uz (hr.mono (by decide)) (by rfl) Uw Ux Uy (uR 3 (uR 5 (k8 (ao 9) (k8 (ao 1) (k8 (qat (cS (ae 2) (dt (qas (ar (ae 4) (qas ag)))) fj)) Bh))))))))
         ax)))
     (uO [5] (af (eQ HW rfl (fF (ao 5)) (aX (i:=10) nd rfl (Or.inl rfl) np)
       (ai (bg (cL 3 rH rJ aZ aV (aa (qat (bc (aa (qat ah) aj))) aj)))))
     (af (bg (cL 3 rH rJ aZ aV (aa (qat (bc (aa (qat ah) (aa (qat (bu bZ (hr.mono (by decide)) (by rfl) bW bX bY (aa (qat (aU (qas (az (rQ rfl) Cz (by rfl) M.sum Tf (aq (ae 8) au))) (qas (kb (qas ag) (qas ag))))) (aa (ao 1) aj)))) aj)))) aj)))
     (ai (aS (VW.vc (eO (bF hu (qas (aU (ae 4) (qas ag))) (qas ag)) (dq (bF hu (qas (aU (qas (az aD aE (by rfl) M.len iU (aq (ae 8) au))) (qas ag))) (qas ag)))))
       (ai (bg (cL 3 rH rJ aZ aV (aa (qat (bc (aa (qat ah) aj))) aj))))
       ax)))) UA))))))))
   (ai (ay (k7 3 np))))),λ_=>?_⟩
 have hp3:=G.p3;have eT:((pl.map bz).length)=pl.length:=bQ _;have eN:((ns.map T.int).length)=ns.length:=bQ _;refine⟨nU _,by omega,by omega,?_⟩;refine f9 (λk ρ=>∃kv a5 a6 a7 a8 a9 YS rt rs,ρ=[some (.lst (ns.map .int),false),some (.lst (ys.map .str),false),some (.lst (pl.map bz),false),some (.lst rt,true),kv,a5,a6,a7,a8,a9,YS]/\rt=rs.map bw/\Pre ys pl k rs/\rs.length+3 * (pl.length-k)<=60)
  ⟨none,none,none,none,none,none,none,_,[],rfl,rfl,.zero,by simp;omega⟩ ?_ ?_
 rintro k ρ hk ⟨kv,a5,a6,a7,a8,a9,YS,_,rs,rfl,rfl,jM,hlen⟩;rw[eT,DW] at hk;obtain⟨p,hp⟩:∃p:Str×qai,p=pl[k]:=⟨_,rfl⟩;obtain⟨fn,uL⟩:=p;have Z8:pl[k]?=some (fn,uL):=by rw[kB hk,hp]
 have et:kF (pl.map bz) (0+(k:Int))=some (bz (fn,uL)):=by rw[Int.zero_add];refine aG ?_;rw[mf,Z8];rfl
 have hk3:k<3:=by omega
 have YT:(rs.map bw).length<sizeLine:=by rw[bQ];exact fits (by omega)
 refine⟨_,et,_,aG (j:=0) rfl,_,et,_,aG (j:=1) rfl,c_ (by simp),YT,nU _,.inl ⟨by show -(2 ^ 64:Int)<0+(k:Int);omega,by show 0+(k:Int)<(2 ^ 64:Int);omega⟩,⟨by show (0:Int)<((pl.map bz).length:Int);omega,by show ((pl.map bz).length:Int)<1073741824;omega⟩,
  .inl ⟨by show -(2 ^ 64:Int)<0+(k:Int)+1;omega,by show 0+(k:Int)+1<(2 ^ 64:Int);omega⟩,⟨by show (0:Int)<((pl.map bz).length:Int);omega,by show ((pl.map bz).length:Int)<1073741824;omega⟩,?_⟩
 obtain⟨ms,YU,X_⟩:=BZ T.int ns (some ((0+(k:Int)) * ((ns.map T.int).length:Int) / ((pl.map bz).length:Int))) (some ((0+(k:Int)+1) * ((ns.map T.int).length:Int) / ((pl.map bz).length:Int)));show s_ (gQ (ns.map T.int) (some ((0+(k:Int)) * ((ns.map T.int).length:Int) / ((pl.map bz).length:Int))) (some ((0+(k:Int)+1) * ((ns.map T.int).length:Int) / ((pl.map bz).length:Int)))) _ _ _ _;rw[YU];refine qa (λi ρ=>∃b6 b7 b9 MV rt st body bI,ρ=[some (.lst (ns.map .int),false),some (.lst (ys.map .str),false),some (.lst (pl.map bz),false),some (.lst rt,true),some (.int (0+(k:Int)),false),some (.lst st,true),b6,b7,some (.lst (ms.map .int),false),b9,MV]/\rt=(rs++[Rw.df fn uL]++body).map bw/\st=bI.map .str/\Body ys (pl.drop (k+1)) bI body/\rs.length+1+body.length+bI.length+3 * (pl.length-1-k)<=58)
  ⟨_,_,_,_,_,_,[],[],rfl,by simp;rfl,rfl,.nil,by simp;omega⟩ ?_ ?_
 rintro i z ρ hi ⟨b6,b7,b9,MV,_,_,body,bI,rfl,rfl,rfl,hB,hb⟩;refine⟨.inl ⟨by decide,by decide⟩,cA (λh=>?_) (λ_=>⟨b6,b7,_,MV,_,_,body,bI,rfl,rfl,rfl,hB,hb⟩)⟩;have hg:(((rs++[Rw.df fn uL]++body).map bw).length:Int)+((bI.map T.str).length:Int)<56-3 * (((pl.map bz).length:Int)-1-(0+(k:Int))):=h;have YV:gQ (pl.map bz) (some (0+(k:Int)+1)) none=(pl.drop (k+1)).map bz:=by
  have:(0+(k:Int)+1)=((k+1:Nat):Int):=by omega
  rw[this];exact Hx bz pl (k+1) hk
 have Hy:(rs++[Rw.df fn uL]++body).length=rs.length+1+body.length:=by simp only[j6,Rr]
 rw[bQ,bQ,eT,Hy] at hg;refine⟨rs++[Rw.df fn uL]++body,bI,z,ys,pl.drop (k+1),?_,⟨G.y6,G.sm,by rw[DY];omega,λp hp=>G.p4 p (RA hp)⟩,by rw[Hy];omega,by omega,λnw dB UB=>?_⟩;rw[<- YV];rfl;have hlr:=JY UB;refine⟨b6,b7,_,MV,_,_,body++nw,dB,rfl,?_,rfl,.step hB UB,by rw[j6];omega⟩;rw[mh];rintro ρ ⟨b6,b7,b9,MV,_,_,body,bI,rfl,rfl,rfl,hB,hb⟩;have Hy:(rs++[Rw.df fn uL]++body).length=rs.length+1+body.length:=by simp only[j6,Rr]
 refine qa (f:=T.str) (xs:=bI) (λi ρ=>∃MV rt,ρ=[some (.lst (ns.map .int),false),some (.lst (ys.map .str),false),some (.lst (pl.map bz),false),some (.lst rt,true),some (.int (0+(k:Int)),false),some (.lst (bI.map .str),false),b6,b7,some (.lst (ms.map .int),false),b9,MV]/\rt=(rs++[Rw.df fn uL]++body++List.replicate i Rw.fin).map bw)
  ⟨MV,_,rfl,by simp⟩ ?_ ?_
 rintro i x ρ hi ⟨c10,_,rfl,rfl⟩;have D3:i<bI.length:=(gN.mp hi).1;refine⟨c_ (by simp),by rw[bQ,j6,Hy,DV];exact fits (by omega),_,_,rfl,?_⟩;rw[List.replicate_succ',<- mh,wm (l₂:=[Rw.fin])];rfl;rintro ρ ⟨c10,_,rfl,rfl⟩;have UC:(rs++[Rw.df fn uL]++body++List.replicate bI.length Rw.fin).length=rs.length+1+body.length+bI.length:=by rw[j6,Hy,DV]
 have v0:0<=ms.sum % 10 ^ (6:Int).toNat:=by rw[TJ];exact kD _ (by decide)
 have v1:ms.sum % 10 ^ (6:Int).toNat<2147483648:=by rw[TJ];have:=mq ms.sum (show (0:Int)<1000000 by decide);omega
 refine⟨ms,ints_map ms,⟨by decide,by decide,by decide⟩,(by show (0:Int)<10 ^ (6:Int).toNat;decide),rfl,_,ys,rfl,G.y6,v0,v1,λo ho=>⟨c_ (by simp),by rw[bQ,UC];exact fits (by omega),(by show (0:Int)<2;decide),?_⟩⟩;have fin:∀sk:qal,(sk=[]\/sk=[Rw.skip])->Pre ys pl (k+1) (rs++(Rw.df fn uL::(body++(List.replicate bI.length Rw.fin++(Rw.give o::sk)))))/\(rs++(Rw.df fn uL::(body++(List.replicate bI.length Rw.fin++(Rw.give o::sk))))).length+3 * (pl.length-(k+1))<=60:=λsk Z9=>by
  refine⟨.succ jM Z8 hB ho Z9,?_⟩;have:sk.length<=1:=by obtain rfl|rfl:=Z9<;>simp
  simp only[j6,rF,DV];omega
 have e0:(rs++[Rw.df fn uL]++body++List.replicate bI.length Rw.fin).map bw++[bw (Rw.give o)]=(rs++(Rw.df fn uL::(body++(List.replicate bI.length Rw.fin++(Rw.give o::[]))))).map bw:=by simp[mh]
 have e1:(rs++[Rw.df fn uL]++body++List.replicate bI.length Rw.fin).map bw++[bw (Rw.give o)]++[bw Rw.skip]=(rs++(Rw.df fn uL::(body++(List.replicate bI.length Rw.fin++(Rw.give o::[Rw.skip]))))).map bw:=by simp[mh]
 refine cA (λ_=>?_) (λ_=>eU rfl ⟨_,_,_,_,_,_,_,_,_,rfl,e0,fin [] (.inl rfl)⟩);refine⟨(by show (0:Int)<2;decide),cA (λ_=>?_) (λ_=>⟨_,_,_,_,_,_,_,_,_,rfl,e0,fin [] (.inl rfl)⟩)⟩;refine⟨c_ (by simp),?_,⟨_,_,_,_,_,_,_,_,_,rfl,e1,fin [.skip] (.inr rfl)⟩⟩;rw[j6,bQ,UC];exact fits (by simp;omega);rintro ρ ⟨kv,a5,a6,a7,a8,a9,YS,_,rs,rfl,rfl,jM,hlen⟩;rw[eT,DW] at jM;exact hq rs jM (by omega)
end
end fJ
namespace VT
open PySem PySem.Spec PyProof.Rows L2
def B0:V->qak->Hp->VK->Prop:=λx vs H Q=>∃(l:Addr)(xs:qak)(k:Nat)(y:V),x=.ref l/\vs=[.int (k:Int),y]/\k<=1000/\H l=some (.lst xs)/\xs.length<sizeLine/\Q .bR (upd H l (.lst (xs.take k++[y]++xs.drop k)))
theorem uh:∀{xs:qak}{us:qag}(k:Nat),Vals xs us->Vals (xs.take k) (us.take k)
 |_,_,0,_=>.nil
 |_,_,_+1,.nil=>.nil
 |_,_,k+1,.cons r t=>.cons r (uh k t)
theorem ui:∀{xs:qak}{us:qag}(k:Nat),Vals xs us->Vals (xs.drop k) (us.drop k)
 |_,_,0,h=>h
 |_,_,_+1,.nil=>.nil
 |_,_,k+1,.cons _ t=>ui k t
theorem nQ:WO X "list.insert" B0:=by
 intro pins s σ H x vs v us Q I rx rv h;obtain⟨l,xs,k,y,rfl,rfl,hk,hH,hz,q⟩:=h;cases rx;obtain⟨u1,u2,rfl,r1,r2⟩:=vals2 rv;obtain⟨t,e1⟩:=(show ∃t,u1=Value.int (k:Int) t from r1);obtain⟨x,hx⟩:∃x:Int,x=(k:Int):=⟨_,rfl⟩;rw[<- hx] at e1;subst e1;obtain⟨z,aK,n,r,hl,e⟩:=I.IY hH;have Tn:Builtin.List.listFitsIndex x=true:=by unfold Builtin.List.listFitsIndex;rw[eJ,decide_eq_true_eq,decide_eq_true_eq];exact⟨by omega,by omega⟩
 have hc0:¬(!Builtin.List.listFitsIndex x)=true:=by rw[Tn];decide
 have oW:aK.toArray.size<=sizeLine:=by rw[iR];omega
 have mm:=PySem.AutoSeq1.list_insert_list_int_val_1 l aK.toArray n x t u2 hc0 oW;refine call_meets F.slot_list_insert ⟨_,e,rfl⟩ F.entry_list_insert (F.args_list_insert_3 _ _ _) mm ⟨e,?_⟩;refine⟨.bR,_,I.N7 (its':=aK.take k++[u2]++aK.drop k) hH e ?_ (((uh k r).append (.cons r2 .nil)).append (ui k r)) ?_,rfl,q⟩;have ek:(if x<0 then (x+(aK.toArray.size:Int)).toNat else min x.toNat aK.toArray.size)=min k aK.length:=by rw[if_neg (by omega),hx,DW,iR]
 show (aK.toArray.extract 0 (if x<0 then (x+(aK.toArray.size:Int)).toNat else min x.toNat aK.toArray.size)).push u2++aK.toArray.extract (if x<0 then (x+(aK.toArray.size:Int)).toNat else min x.toNat aK.toArray.size)=_;rw[ek];apply Array.ext';simp only[QQ,Array.toList_push,Array.toList_extract,List.extract_eq_take_drop,List.drop_zero,Nat.sub_zero];by_cases Jx:k<=aK.length;rw[Nat.min_eq_left Jx];simp;exact LJ (by rw[DY];omega);rw[Nat.min_eq_right (by omega),LJ (eB _),LJ (by omega:aK.length<=k),Wf (eB _),Wf (by omega:aK.length<=k)];simp;rw[j6,j6,Ea,DY,Rr];omega
def B1(ts us:qaj)(q:qaj->T->Prop):Prop:=match us with
 |[.int i,t]=>0<=i/\i<=1000/\ts.length<sizeLine/\q (ts.take i.toNat++[t]++ts.drop i.toNat) .bR
 |_=>False
theorem ky:Q8 K B0 B1:=by
 intro H A l xs ts us vs q Q hl hH h1 h2 hp k;unfold B1 at hp;split at hp
 rename_i i t
 obtain⟨h0,hi,hz,hq⟩:=hp;simp only[aB,At] at h2;obtain⟨v1,r1,rfl,rfl,v2,r2,rfl,a2,rfl⟩:=h2;exact⟨l,xs,i.toNat,v2,rfl,by rw[Int.toNat_of_nonneg h0],by omega,hH,by rw[h1.length];exact hz,k _ _ hq _ _ (((h1.take i.toNat).append (aB.cons a2 aB.nil)).append (h1.drop i.toNat)) mJ⟩;exact hp.elim
end VT
namespace e_
open PySem L2 VT Gen rR K9 GR nI EX
open dj (d9 g7 jc)
open z8 (RT eA ck)
noncomputable def top(i:Nat):Stmt:=PySem.Challenge.pw_slicewise_k18_texts_refused.main.body.getD i (.Pass ⟨0,0,0,0⟩)
noncomputable abbrev As:Stmt:=top 57
noncomputable abbrev kz:Stmt:=top 58
noncomputable abbrev Au:Stmt:=top 59
noncomputable abbrev fU:Stmt:=top 60
noncomputable abbrev l_:Stmt:=top 61
structure VJ(mg:qae):Prop where
 list:mg "list"=none
 len:mg "len"=none
 isinstance:mg "isinstance"=none
 str:mg "str"=none
 tuple:mg "tuple"=none
theorem c_(h:n<=4000):n<=sizeLine:=by rw[sizeLine_eq];omega
def MW(ts:qaj)(q:qam):Prop:=∃r:Rw,ts=[bw r]/\mj r/\q (.vw (.str (aI r)))
noncomputable def gT:Pt ⊕ List Pt->T
 |.inl p=>p.t
 |.inr ps=>.tup (ps.map Pt.t)
def gP:Pt ⊕ List Pt->List Pt
 |.inl p=>[p]
 |.inr ps=>ps
noncomputable def v5:Rw->List (Pt ⊕ List Pt)
 |.df f ps=>[.inl (.nm "def"),.inl (.nm f),.inr (ps.map .nm)]
 |.call x f as=>[.inl (.nm "call"),.inl (.nm x),.inl (.nm f),.inr (as.map BJ)]
 |r=>(hU r).map .inl
theorem UD(l:List Pt):(l.map (Sum.inl:Pt->Pt ⊕ List Pt)).flatMap gP=l:=by
 induction l with
 |nil=>rfl
 |cons p l ih=>rw[dP,List.flatMap_cons,ih];rfl
theorem Lo(r:Rw):(v5 r).flatMap gP=hU r:=by
 cases r with
 |df f ps=>simp[v5,gP,hU,cU,wd]
 |call x f as=>simp[v5,gP,hU,cU,wd]
 |_=>exact UD _
theorem Lq(r:Rw):bw r=.tup ((v5 r).map gT):=by
 have h:=ye r;cases r with
 |df f ps=>rw[<- h];rfl
 |call x f as=>rw[<- h];rfl
 |_=>rw[<- h];rfl
theorem Hz(r:Rw):∃gs,v5 r=.inl (.nm (wd r))::gs:=by cases r<;>exact⟨_,rfl⟩
theorem Lr(h:mj r):(v5 r).length<=6:=by
 have:=h.len;cases r<;>first
  | (simp only[v5,bQ];exact this)
  | (simp[v5])
section
noncomputable abbrev HA:qai:=["_law_row","_law_words_here","_law_part"]
theorem B2:aJ HA qaJ (ak As):=L2.ij
theorem Av:(HA++(["_law_one"]:qai)).Nodup:=by decide +kernel
theorem Ls(D:Df K mg "_law_line" As qaJ f fd)(M:VJ mg):cM P w K mg base "_law_line" qaJ 1 (cy K 1 MW):=by
 refine D.lg (mi D.F B2 rfl λbS A outer s H E Ox hr ts q hG=>?_);have nd:=B2.nd;have np:∀{i:Nat},ba ⟨H,[],Ox⟩ i:=mW;have UA:∀{is:qao},∀i∈is,ba ⟨H,[],Ox⟩ i:=λi _=>mW;refine⟨_,(af (dR (i:=1) nd rfl (Or.inl rfl) (qau (bx (aa (qat (bo (ae 0) (qas ag))) aj))) np)
  (af (eQ HW rfl (fF (qat (cS (ae 0) (dt (qas ag)) fj))) (aX (i:=2) nd rfl (Or.inl rfl) np)
   (ai (aS (cp (fq kh (by rfl) M.isinstance (by rfl) M.tuple gz (ae 2)))
    (ai (dR (i:=1) nd rfl (Or.inl rfl) (qau (ar (ae 1) (qas (jB (ts:=["_law_one"]) rfl (by rfl) (fF (ao 2)) (λ_ _ _ _ _ _=>(aX (i:=3) Av rfl (Or.inl rfl) np)) (λ_ _ _ _ _ _=>fm) (λ_ _ _ _ _ _=>(qat (cY ud qV (by rfl) M.str G8 (aq (ae 3) au)))))))) np))
    (ai (bg (cL 1 rH rJ aZ aV (aa (qat (cY ud qV (by rfl) M.str G8 (aq (ae 2) au))) aj)))))))
  (uO [1] (ai (ay (qau (nD (qas ah) (aq (ae 1) au))))) UA))),λ_=>?_⟩
 obtain⟨r,rfl,ko,hq⟩:=hG;have eg:=Lq r;have ep:=Lo r;have bG:∀g∈v5 r,∀p∈gP g,p.ok:=λg hg p hp=>ko.ok p (by rw[<- ep];exact List.mem_flatMap.mpr ⟨g,hg,hp⟩);have hlen:=ko.len;have X9:=Lr ko;obtain⟨gs,e0⟩:=Hz r;rw[eg,e0];rw[e0] at ep bG X9;have ec:gQ (List.map gT (Sum.inl (Pt.nm (wd r))::gs)) (some 1) none=gs.map gT:=Al (k:=1);refine⟨_,aG (j:=0) rfl,c_ (by simp),λz=>?_,?_⟩;have z1:=z.1;rw[show (1:Int)=((1:Nat):Int) from rfl,HT.jy,dP,rF] at z1;omega;show s_ (gQ (List.map gT (Sum.inl (Pt.nm (wd r))::gs)) (some 1) none) _ _ _ _;rw[ec];have YW:∀(g:Pt ⊕ List Pt)(i:Nat),g∈gs->(gP g).length<=6/\((gs.take i).flatMap gP).length<=6:=λg i hg=>by
  have h1:((Sum.inl (Pt.nm (wd r))::gs).flatMap gP).length<=6:=by rw[ep];exact hlen
  rw[List.flatMap_cons,j6] at h1;constructor;obtain⟨a,b,e⟩:=List.append_of_mem hg;rw[e,List.flatMap_append,List.flatMap_cons,j6,j6] at h1;omega;rw[<- UY i gs,List.flatMap_append,j6] at h1;omega
 refine qa (λi ρ=>∃b2 ws,ρ=[some (.tup (List.map gT (Sum.inl (Pt.nm (wd r))::gs)),false),some (.lst ws,true),b2]/\ws=(Pt.nm (wd r)::(gs.take i).flatMap gP).map λp=>T.str p.s) ⟨none,[T.str (wd r)],rfl,by simp[Pt.s]⟩ ?_ ?_;rintro i g ρ hg ⟨b2,ws,rfl,ew⟩;have Z_:=mn hg;have hgo:=bG g (fY _ Z_);obtain⟨a6,b6⟩:=YW g i Z_;have et:(Pt.nm (wd r)::(gs.take (i+1)).flatMap gP).map (λp=>T.str p.s)=ws++(gP g).map λp=>T.str p.s:=by rw[List.take_succ,hg,ew,List.flatMap_append,dP,dP,wm];simp
 have Q3:ws.length<=7:=by rw[ew,bQ,rF];omega
 have sz:ws.length+((gP g).map λp=>T.str p.s).length<=sizeLine:=c_ (by rw[bQ];omega);cases g with
 |inr ps=>
  have fz:ps.length<=6:=a6;have UE:∀p∈ps,p.ok:=hgo;refine⟨rfl,?_⟩;refine⟨rfl,by show (ps.map Pt.t).length<=sizeLine;rw[bQ];exact c_ (by omega),?_⟩;refine gk (f:=Pt.t) (u:=λp=>T.str p.s) (λp hp k hk=>?_) ?_;cases p with
  |nm x=>exact hk
  |fd x=>exact hk
  |nu i=>exact⟨GL (UE _ hp).1 (UE _ hp).2,hk⟩
  exact⟨sz,_,_,rfl,et.symm⟩
 |inl p=>
  have hpo:p.ok:=hgo p eE;cases p with
  |nm x=>exact⟨rfl,sz,_,_,rfl,et.symm⟩
  |fd x=>exact⟨rfl,sz,_,_,rfl,et.symm⟩
  |nu i=>exact⟨rfl,GL hpo.1 hpo.2,sz,_,_,rfl,et.symm⟩
 rintro ρ ⟨b2,ws,rfl,ew⟩;have RN:Pt.nm (wd r)::gs.flatMap gP=hU r:=ep;rw[List.take_length,RN] at ew;subst ew;refine⟨(hU r).map Pt.s,by rw[AQ];rfl,?_,hq⟩;have s:=qP (f:=λx:Str=>x.length) (n:=32) (l:=(hU r).map Pt.s) λx hx=>by obtain⟨p,hp,rfl⟩:=iS.mp hx;exact Pt.len (ko.ok p hp)
 rw[bQ] at s ⊢;have:(((" ":String):Str)).length=1:=by decide +kernel
 rw[this];omega
end
end e_
namespace VT
open PySem PySem.Spec PyProof.Rows L2
def Qt:FS:=λ_ _=>False
theorem uj{ss:qaq}:i7 X Z ss Qt:=.mk λtm=>λpins s σ H D I h=>by obtain⟨_,_,_,_,q,_⟩:=h;exact q.elim
end VT
namespace e_
open PySem L2 VT Gen rR K9 GR nI EX
open z8 (RT eA ck)
structure MgC(K:qaf)(mg:qae)(S c0 c1 c2 c3 c4 c5 c6 c7 c8:Addr):Prop where
 mS:mg "SliceError"=some (.ref S)
 m0:mg "TooGreat"=some (.ref c0)
 m1:mg "NoRow"=some (.ref c1)
 m2:mg "NoBlock"=some (.ref c2)
 m3:mg "NoCall"=some (.ref c3)
 m4:mg "NoText"=some (.ref c4)
 m5:mg "NoPlace"=some (.ref c5)
 m6:mg "Unlike"=some (.ref c6)
 m7:mg "NoFault"=some (.ref c7)
 m8:mg "Done"=some (.ref c8)
 xs:XC K S []
 nd:[c0,c1,c2,c3,c4,c5,c6,c7,c8].Nodup
 hk:∀C∈[c0,c1,c2,c3,c4,c5,c6,c7,c8],∀D∈[c0,c1,c2,c3,c4,c5,c6,c7,c8],PySem.W.kitOne K (.ref C) (.ref D)=some (decide (C=D))
 hv:∀C∈[c0,c1,c2,c3,c4,c5,c6,c7,c8],PySem.W.kitOne K (.ref C) (.type "ValueError")=some true
 xk:∀C∈[c0,c1,c2,c3,c4,c5,c6,c7,c8],XC K C [S]/\XF K C
 isinstance:mg "isinstance"=none
 int:mg "int"=none
 bool:mg "bool"=none
 list:mg "list"=none
 ValueError:mg "ValueError"=none
theorem cJ:∀u,RelV (.ref a) u->u=Value.ref a:=λ_ z=>z
theorem MX{n:String}:∀u,RelV (.ty n) u->u=Value.type n:=λ_ z=>z
def B3(xs:qai)(q:qam):Prop:=match ck (xs.map br) 0 with
 |some i=>q (.vw (.tup [.str "text",.int (i:Int)]))
 |none=>(60<xs.length->q (.vw (.tup [.str "great",.int 0])))/\(xs.length<=60->∃rs:qal,xs.map br=rs.map bw/\(match brk [] rs 0 with
  |some i=>q (.vw (.tup [.str "block",.int (i:Int)]))
  |none=>match fM rs with
   |some i=>q (.vw (.tup [.str "call",.int (i:Int)]))
   |none=>q (.vw (.tup [.str "read",.int 0]))))
def MY(ts:qaj)(q:qam):Prop:=(∃t,ts=[t]/\BU t=true/\q (.vw (.tup [.str "text",.int 0]))) \/
 ∃xs:qai,ts=[.str (Txt.join "\n" xs)]/\2<=xs.length/\xs.length<=80/\(∀x∈xs,Ln x)/\B3 xs q
section
variable{c0 c1 c2 c3 c4 c5 c6 c7 c8:Addr}
noncomputable abbrev jI:qai:=["_law_text","_law_error","e","_law_some","_law_kinds","_law_word"]
theorem rh:aJ jI ["_law_text"] (ak fU):=L2.ij
theorem Aw(D:Df K mg "_law_outcome" fU ["_law_text"] f fd)(M:MgC K mg S c0 c1 c2 c3 c4 c5 c6 c7 c8)(Qu:sr P w K mg base "read" ["text"] 8 (zU K 1 (Hg c0 c2 c3 c4))) :
  cM P w K mg base "_law_outcome" ["_law_text"] 9 (cy K 1 MY):=by
 obtain⟨YX,VL,Qv,Qw,Qx,Qy⟩:=Qu;refine D.lg (mi D.F rh rfl λbS A outer s H E Ox hr ts q hG=>?_);have nd:=rh.nd;have hu:=bM.iw hr;have np:∀{i:Nat},ba ⟨H,[],Ox⟩ i:=mW;have mS:=M.mS;have xs:=M.xs;have pg:∀{x:Str}{a:Addr}{pos:Pos},mg x=some (.ref a)->(x==("__debug__":Str))=false->Gl (fE kU P w K mg base jI "_law_outcome" (ak fU) f bS A outer s H E).wo x->PE (fE kU P w K mg base jI "_law_outcome" (ak fU) f bS A outer s H E).wo (.Name x pos) (tC (.ref a)):=λhm hd hg=>oV hg hm rfl hd;have oi:∀{pos},_:=λ{pos}=>pg (pos:=pos) M.m0 (by decide) (by rfl);have yr:∀{pos},_:=λ{pos}=>pg (pos:=pos) M.m1 (by decide) (by rfl);have rj:∀{pos},_:=λ{pos}=>pg (pos:=pos) M.m2 (by decide) (by rfl);have uk:∀{pos},_:=λ{pos}=>pg (pos:=pos) M.m3 (by decide) (by rfl);have um:∀{pos},_:=λ{pos}=>pg (pos:=pos) M.m4 (by decide) (by rfl);have rl:∀{pos},_:=λ{pos}=>pg (pos:=pos) M.m5 (by decide) (by rfl);have uo:∀{pos},_:=λ{pos}=>pg (pos:=pos) M.m6 (by decide) (by rfl);have rm:∀{pos},_:=λ{pos}=>pg (pos:=pos) M.m7 (by decide) (by rfl);have B4:∀{pos},_:=λ{pos}=>pg (pos:=pos) M.m8 (by decide) (by rfl);have j0:∀{pos},PE (fE kU P w K mg base jI "_law_outcome" (ak fU) f bS A outer s H E).wo (.Name "ValueError" pos) (tC (.ty "ValueError")):=λ{pos} pins s σ H Q I h=>j8 I (by rfl) M.ValueError (by decide +kernel) ⟨.ty "ValueError",H,I,rfl,h⟩;refine⟨_,(af (aM (i:=1) nd rfl (Or.inl rfl) (qau i5) np)
   (He (ia:=0) (iz:=1) (jn:=2) rfl ⟨rfl,rfl⟩ Qy (hr.mono (by decide)) (by rfl) Qv Qw Qx (by rfl) mS xs (λ_=>rfl) rfl
   (af (aS (tD (ae 1) (qas i5))
     (ai (ay (qau (bc (aa (qat ah) (aa (qat ag) aj))))))
     ax) uj)
   (λe C dd n H0 xz=>
     (af (aS (tD (ae 1) (qas i5))
       (ai (ay (qau (bc (aa (qat ah) (aa (qat ag) aj))))))
       ax)
     (af (aM (i:=3) nd rfl (Or.inl rfl) (qau (bx (aa (qat (bP 1 xz rfl cJ (by rfl) M.isinstance yr)) (aa (qat (bP 1 xz rfl cJ (by rfl) M.isinstance B4)) (aa (qat (bP 1 xz rfl cJ (by rfl) M.isinstance rl)) (aa (qat (bP 1 xz rfl cJ (by rfl) M.isinstance uo)) aj)))))) np)
     (af (dR (i:=4) nd rfl (Or.inl rfl) (qau (bx (aa (qat (bP 1 xz rfl cJ (by rfl) M.isinstance um)) (aa (qat (bP 1 xz rfl cJ (by rfl) M.isinstance rj)) (aa (qat (bP 1 xz rfl cJ (by rfl) M.isinstance uk)) aj))))) np)
     (af (bg (cL 4 rH rJ aZ aV (aa (qat (bP 1 xz rfl cJ (by rfl) M.isinstance oi)) aj)))
     (af (aS (VW.vc (gw (Bi (qas fL) (ae 3)) (gw (cp (bP 1 xz rfl cJ (by rfl) M.isinstance rm)) (gw (jT hu (qas (n9 (ae 4) (aq (qas fL) au))) (qas ag)) (ir (dA (cp (bP 1 xz rfl MX (by rfl) M.isinstance j0))))))))
       (ai (ay (qau (bc (aa (qat ah) (aa (qat ag) aj))))))
       ax)
     (af (aM (i:=5) nd rfl (Or.inl rfl) (qau (bo (qas (bx (aa (qat ah) (aa (qat ah) (aa (qat ah) (aa (qat ah) aj)))))) (qas (n_ (ae 4) (aq (qas fL) au))))) np)
     (af (aS (bF hu (ae 5) (qas ah))
       (ai (ay (qau (bc (aa (ao 5) (aa (qat ag) aj))))))
       ax)
     (af (aS (cp (fq tq (by rfl) M.isinstance (by rfl) M.bool Fv (qas (MD 1 xz rfl))))
       (ai (ay (qau (bc (aa (qat ah) (aa (qat ag) aj))))))
       ax)
     (ai (ay (qau (bc (aa (ao 5) (aa (qat (MD 1 xz rfl)) aj)))))))))))))))
   (λe C dd H0 xz=>
     (af (aS (tD (ae 1) (qas i5))
       (ai (ay (qau (bc (aa (qat ah) (aa (qat ag) aj))))))
       ax)
     (af (aM (i:=3) nd rfl (Or.inl rfl) (qau (bx (aa (qat (bP 1 xz rfl cJ (by rfl) M.isinstance yr)) (aa (qat (bP 1 xz rfl cJ (by rfl) M.isinstance B4)) (aa (qat (bP 1 xz rfl cJ (by rfl) M.isinstance rl)) (aa (qat (bP 1 xz rfl cJ (by rfl) M.isinstance uo)) aj)))))) np)
     (af (dR (i:=4) nd rfl (Or.inl rfl) (qau (bx (aa (qat (bP 1 xz rfl cJ (by rfl) M.isinstance um)) (aa (qat (bP 1 xz rfl cJ (by rfl) M.isinstance rj)) (aa (qat (bP 1 xz rfl cJ (by rfl) M.isinstance uk)) aj))))) np)
     (af (bg (cL 4 rH rJ aZ aV (aa (qat (bP 1 xz rfl cJ (by rfl) M.isinstance oi)) aj)))
     (af (aS (VW.vc (gw (Bi (qas fL) (ae 3)) (gw (cp (bP 1 xz rfl cJ (by rfl) M.isinstance rm)) (gw (jT hu (qas (n9 (ae 4) (aq (qas fL) au))) (qas ag)) (ir (dA (cp (bP 1 xz rfl MX (by rfl) M.isinstance j0))))))))
       (ai (ay (qau (bc (aa (qat ah) (aa (qat ag) aj))))))
       ax)
     (af (aM (i:=5) nd rfl (Or.inl rfl) (qau (bo (qas (bx (aa (qat ah) (aa (qat ah) (aa (qat ah) (aa (qat ah) aj)))))) (qas (n_ (ae 4) (aq (qas fL) au))))) np)
     (af (aS (bF hu (ae 5) (qas ah))
       (ai (ay (qau (bc (aa (ao 5) (aa (qat ag) aj))))))
       ax)
     uj)))))))) nd)),λ_=>?_⟩
 obtain⟨t,rfl,hG2⟩:∃t,ts=[t]/\((BU t=true/\q (.vw (.tup [.str "text",.int 0])))\/∃xs:qai,t=.str (Txt.join "\n" xs)/\2<=xs.length/\xs.length<=80/\(∀x∈xs,Ln x)/\B3 xs q):=by
  obtain⟨t,e,h⟩|⟨xs,e,h⟩:=hG
  exact⟨t,e,.inl h⟩;exact⟨_,e,.inr ⟨xs,rfl,h⟩⟩
 refine⟨?_,t,λC p=>(c0=C/\p=none/\q (.vw (.tup [.str "great",.int 0])))\/(∃i:Nat,c4=C/\p=some (i:Int)/\q (.vw (.tup [.str "text",.int (i:Int)])))\/(∃i:Nat,c2=C/\p=some (i:Int)/\q (.vw (.tup [.str "block",.int (i:Int)])))\/∃i:Nat,c3=C/\p=some (i:Int)/\q (.vw (.tup [.str "call",.int (i:Int)])),rfl,?_,λC p hW=>?_⟩;intro i t
 match i with
 |0=>intro z;cases z
 |1=>intro z;cases z
 |2=>intro z;cases z
 |3=>intro z;cases z
 |4=>intro z;cases z
 |5=>intro z;cases z
 |i+6=>intro z;cases z
 obtain⟨hs,hq⟩|⟨xs,rfl,h2,hn,Li,hR⟩:=hG2
 exact .inl ⟨t,rfl,hs,.inr (.inl ⟨0,rfl,rfl,hq⟩)⟩;refine .inr ⟨xs,rfl,h2,hn,Li,?_⟩;unfold B3 at hR;unfold Um;cases hb:ck (xs.map br) 0 with
 |some i=>rw[hb] at hR;exact .inr (.inl ⟨i,rfl,rfl,hR⟩)
 |none=>
   rw[hb] at hR;refine⟨λh=>.inl ⟨rfl,rfl,hR.1 h⟩,λh=>?_⟩;obtain⟨rs,D8,hm⟩:=hR.2 h;refine⟨rs,D8,?_⟩;cases h1:brk [] rs 0 with
   |some i=>rw[h1] at hm;exact .inr (.inr (.inl ⟨i,rfl,rfl,hm⟩))
   |none=>
     rw[h1] at hm;cases h2:fM rs with
     |some i=>simp only[h2] at hm ⊢;exact .inr (.inr (.inr ⟨i,by trivial,by trivial,hm⟩))
     |none=>simp only[h2] at hm ⊢;exact⟨small (by simp),hm⟩
 have kf:∀(i j:Nat)(hi:i<9)(hj:j<9),i≠j->PySem.W.kitOne K (.ref ([c0,c1,c2,c3,c4,c5,c6,c7,c8][i]'hi)) (.ref ([c0,c1,c2,c3,c4,c5,c6,c7,c8][j]'hj))=some false:=λi j hi hj h=>by rw[M.hk _ (yO _) _ (yO _),decide_eq_false λz=>h ((List.getElem_inj M.nd).mp z)]
 have kt:∀(i:Nat)(hi:i<9),PySem.W.kitOne K (.ref ([c0,c1,c2,c3,c4,c5,c6,c7,c8][i]'hi)) (.ref ([c0,c1,c2,c3,c4,c5,c6,c7,c8][i]'hi))=some true:=λi hi=>by rw[M.hk _ (yO _) _ (yO _),decide_eq_true rfl]
 obtain⟨rfl,rfl,hq⟩|⟨i,rfl,rfl,hq⟩|⟨i,rfl,rfl,hq⟩|⟨i,rfl,rfl,hq⟩:=hW
 obtain⟨x1,x2⟩:=M.xk c0 (by simp);refine⟨⟨[S],x1,.inr (by simp)⟩,x2,λe=>?_⟩;refine⟨rfl,false,kf 0 1 (by decide) (by decide) (by decide),rfl,false,kf 0 8 (by decide) (by decide) (by decide),rfl,false,kf 0 5 (by decide) (by decide) (by decide),rfl,false,kf 0 6 (by decide) (by decide) (by decide),small (by simp),?_⟩;refine⟨rfl,false,kf 0 4 (by decide) (by decide) (by decide),rfl,false,kf 0 2 (by decide) (by decide) (by decide),rfl,false,kf 0 3 (by decide) (by decide) (by decide),small (by simp),?_⟩;refine⟨rfl,true,kt 0 (by decide),small (by simp),?_⟩;refine⟨rfl,rfl,rfl,false,kf 0 7 (by decide) (by decide) (by decide),[false,false,false,true],true,rfl,rfl,rfl,true,M.hv c0 (by simp),?_⟩;refine⟨small (by simp),[false,false,false,true],true,3,rfl,rfl,rfl,?_,by simp,?_⟩;intro j hj
 match j,hj with
 |0,_=>simp
 |1,_=>simp
 |2,_=>simp
 refine⟨_,aG (j:=3) rfl,?_⟩;exact⟨small (by simp),hq⟩;obtain⟨x1,x2⟩:=M.xk c4 (by simp);refine⟨⟨[S],x1,.inr (by simp)⟩,x2,λe=>?_⟩;refine⟨rfl,false,kf 4 1 (by decide) (by decide) (by decide),rfl,false,kf 4 8 (by decide) (by decide) (by decide),rfl,false,kf 4 5 (by decide) (by decide) (by decide),rfl,false,kf 4 6 (by decide) (by decide) (by decide),small (by simp),?_⟩;refine⟨rfl,true,kt 4 (by decide),rfl,false,kf 4 2 (by decide) (by decide) (by decide),rfl,false,kf 4 3 (by decide) (by decide) (by decide),small (by simp),?_⟩;refine⟨rfl,false,kf 4 0 (by decide) (by decide) (by decide),small (by simp),?_⟩;refine⟨rfl,rfl,rfl,false,kf 4 7 (by decide) (by decide) (by decide),[true,false,false,false],true,rfl,rfl,rfl,true,M.hv c4 (by simp),?_⟩;refine⟨small (by simp),[true,false,false,false],true,0,rfl,rfl,rfl,?_,by simp,?_⟩;intro j hj;exact absurd hj (Nat.not_lt_zero _);refine⟨_,aG (j:=0) rfl,?_⟩
 first
  |exact⟨rfl,rfl,small (by simp),hq⟩
  |exact⟨rfl,rfl,rfl,small (by simp),hq⟩
  |exact⟨rfl,rfl,rfl,rfl,small (by simp),hq⟩
  |exact⟨rfl,small (by simp),hq⟩
 obtain⟨x1,x2⟩:=M.xk c2 (by simp);refine⟨⟨[S],x1,.inr (by simp)⟩,x2,λe=>?_⟩;refine⟨rfl,false,kf 2 1 (by decide) (by decide) (by decide),rfl,false,kf 2 8 (by decide) (by decide) (by decide),rfl,false,kf 2 5 (by decide) (by decide) (by decide),rfl,false,kf 2 6 (by decide) (by decide) (by decide),small (by simp),?_⟩;refine⟨rfl,false,kf 2 4 (by decide) (by decide) (by decide),rfl,true,kt 2 (by decide),rfl,false,kf 2 3 (by decide) (by decide) (by decide),small (by simp),?_⟩;refine⟨rfl,false,kf 2 0 (by decide) (by decide) (by decide),small (by simp),?_⟩;refine⟨rfl,rfl,rfl,false,kf 2 7 (by decide) (by decide) (by decide),[false,true,false,false],true,rfl,rfl,rfl,true,M.hv c2 (by simp),?_⟩;refine⟨small (by simp),[false,true,false,false],true,1,rfl,rfl,rfl,?_,by simp,?_⟩;intro j hj
 match j,hj with
 |0,_=>simp
 refine⟨_,aG (j:=1) rfl,?_⟩
 first
  |exact⟨rfl,rfl,small (by simp),hq⟩
  |exact⟨rfl,rfl,rfl,small (by simp),hq⟩
  |exact⟨rfl,rfl,rfl,rfl,small (by simp),hq⟩
  |exact⟨rfl,small (by simp),hq⟩
 obtain⟨x1,x2⟩:=M.xk c3 (by simp);refine⟨⟨[S],x1,.inr (by simp)⟩,x2,λe=>?_⟩;refine⟨rfl,false,kf 3 1 (by decide) (by decide) (by decide),rfl,false,kf 3 8 (by decide) (by decide) (by decide),rfl,false,kf 3 5 (by decide) (by decide) (by decide),rfl,false,kf 3 6 (by decide) (by decide) (by decide),small (by simp),?_⟩;refine⟨rfl,false,kf 3 4 (by decide) (by decide) (by decide),rfl,false,kf 3 2 (by decide) (by decide) (by decide),rfl,true,kt 3 (by decide),small (by simp),?_⟩;refine⟨rfl,false,kf 3 0 (by decide) (by decide) (by decide),small (by simp),?_⟩;refine⟨rfl,rfl,rfl,false,kf 3 7 (by decide) (by decide) (by decide),[false,false,true,false],true,rfl,rfl,rfl,true,M.hv c3 (by simp),?_⟩;refine⟨small (by simp),[false,false,true,false],true,2,rfl,rfl,rfl,?_,by simp,?_⟩;intro j hj
 match j,hj with
 |0,_=>simp
 |1,_=>simp
 refine⟨_,aG (j:=2) rfl,?_⟩
 first
  |exact⟨rfl,rfl,small (by simp),hq⟩
  |exact⟨rfl,rfl,rfl,small (by simp),hq⟩
  |exact⟨rfl,rfl,rfl,rfl,small (by simp),hq⟩
  |exact⟨rfl,small (by simp),hq⟩
end
def MZ(ts:qaj)(q:qam):Prop:=∃(n:Int)(y:Str),ts=[.int n,.str y]/\aW y=true/\∀x∈vP y,q (.vw (.str x))
theorem Qz(y:Str)(n:Int):∃x∈vP y,kF ((vP y).map T.str) (n % 41)=some (T.str x):=by
 have h0:0<=n % 41:=kD n (by omega);have h1:n % 41<41:=mq n (by omega);obtain⟨j,hj⟩:=AN h0;have gq:j<(vP y).length:=by show j<41;omega
 rw[hj];exact⟨(vP y)[j],yO gq,aG (by rw[mf,kB gq];rfl)⟩
theorem ap{a b:Str}{k:Nat}(ha:a.length<=m)(hb:b.length<=k):(a++b).length<=m+k:=by rw[len_app];omega
theorem sz{a b:Str}{k:Nat}(ha:a.length<=m)(hb:b.length<=k)(h:m+k<=4000):a.length+b.length<=sizeLine:=c_ (by omega)
section
noncomputable abbrev Ax:qai:=["_law_cell","_law_name","_law_some"]
theorem oj:aJ Ax qaK (ak kz):=L2.ij
theorem yt(D:Df K mg "_law_bad_line" kz qaK f fd)(M:VJ mg):cM P w K mg base "_law_bad_line" qaK 1 (cy K 2 MZ):=by
 refine D.lg (mi D.F oj rfl λbS A outer s H E Ox hr ts q hG=>?_);have nd:=oj.nd;have np:∀{i:Nat},ba ⟨H,[],Ox⟩ i:=mW;refine⟨_,(af (aM (i:=2) nd rfl (Or.inl rfl) (qau (bx (aa (qat ah) (aa (qat ah) (aa (qat ah) (aa (qat (ar (qas ah) (ae 1))) (aa (qat (ar (qas (ar (qas ah) (ae 1))) (qas ah))) (aa (qat (ar (qas (ar (qas ah) (ae 1))) (qas ah))) (aa (qat (ar (qas (ar (qas ah) (ae 1))) (qas ah))) aj))))))))) np)
  (af (aM (i:=2) nd rfl (Or.inl rfl) (qau (ar (ae 2) (qas (bx (aa (qat (ar (qas (ar (qas ah) (ae 1))) (qas ah))) (aa (qat (ar (qas (ar (qas (ar (qas ah) (ae 1))) (qas ah))) (qas (pd (qas ah) (qas ag))))) (aa (qat (ar (qas (ar (qas (ar (qas ah) (ae 1))) (qas ah))) (qas (pd (qas ah) (qas ag))))) aj))))))) np)
  (af (aM (i:=2) nd rfl (Or.inl rfl) (qau (ar (ae 2) (qas (bx (aa (qat (ar (qas (ar (qas (ar (qas (ar (qas (ar (qas ah) (ae 1))) (qas ah))) (qas (pd (qas ah) (qas ag))))) (qas ah))) (qas ah))) (aa (qat (ar (qas ah) (ae 1))) (aa (qat (ar (qas (ar (qas ah) (ae 1))) (qas ah))) (aa (qat ah) aj)))))))) np)
  (af (aM (i:=2) nd rfl (Or.inl rfl) (qau (ar (ae 2) (qas (bx (aa (qat (ar (qas (ar (qas ah) (ae 1))) (qas ah))) (aa (qat (ar (qas (ar (qas ah) (ae 1))) (qas ah))) (aa (qat (ar (qas (ar (qas ah) (ae 1))) (qas ah))) (aa (qat ah) (aa (qat ah) aj))))))))) np)
  (af (aM (i:=2) nd rfl (Or.inl rfl) (qau (ar (ae 2) (qas (bx (aa (qat (ar (qas (ar (qas (ar (qas (ar (qas ah) (ae 1))) (qas ah))) (ae 1))) (qas ah))) (aa (qat (ar (qas (ar (qas ah) (ae 1))) (qas ah))) (aa (qat (ar (qas (ar (qas ah) (ae 1))) (qas ah))) (aa (qat ah) aj)))))))) np)
  (af (aM (i:=2) nd rfl (Or.inl rfl) (qau (ar (ae 2) (qas (bx (aa (qat (ar (qas ah) (ae 1))) (aa (qat (ar (qas (ar (qas ah) (ae 1))) (qas ah))) (aa (qat (ar (qas (ar (qas ah) (ae 1))) (qas ah))) (aa (qat ah) (aa (qat ah) aj))))))))) np)
  (af (aM (i:=2) nd rfl (Or.inl rfl) (qau (ar (ae 2) (qas (bx (aa (qat ah) aj))))) np)
  (af (aM (i:=2) nd rfl (Or.inl rfl) (qau (ar (ae 2) (qas (bx (aa (qat ah) (aa (qat ah) (aa (qat ah) (aa (qat ah) (aa (qat ah) (aa (qat ah) (aa (qat ah) (aa (qat ah) (aa (qat ah) (aa (qat ah) aj)))))))))))))) np)
  (ai (ay (qau (bo (qas (ar (ae 2) (qas (bx (aa (qat ah) (aa (qat (ar (qas (ar (qas (ar (qas ah) (ae 1))) (qas ah))) (qas (pd (qas ah) (qas ag))))) aj)))))) (qas (aU (ae 0) (qas ag))))))))))))))),λ_=>?_⟩
 obtain⟨n,y,rfl,hy,hq⟩:=hG;have hl:=hJ hy;refine⟨sz (show ((("put ":String):Str)).length<=4 from by decide +kernel) hl (by decide),sz (show ((("put ":String):Str)).length<=4 from by decide +kernel) hl (by decide),sz (ap (show ((("put ":String):Str)).length<=4 from by decide +kernel) hl) (show (((" 01":String):Str)).length<=3 from by decide +kernel) (by decide),sz (show ((("put ":String):Str)).length<=4 from by decide +kernel) hl (by decide),sz (ap (show ((("put ":String):Str)).length<=4 from by decide +kernel) hl) (show (((" +1":String):Str)).length<=3 from by decide +kernel) (by decide),sz (show ((("put ":String):Str)).length<=4 from by decide +kernel) hl (by decide),sz (ap (show ((("put ":String):Str)).length<=4 from by decide +kernel) hl) (show (((" -0":String):Str)).length<=3 from by decide +kernel) (by decide),c_ (by simp),?_⟩;refine⟨sz (show ((("put ":String):Str)).length<=4 from by decide +kernel) hl (by decide),sz (ap (show ((("put ":String):Str)).length<=4 from by decide +kernel) hl) (show (((" 1_0":String):Str)).length<=4 from by decide +kernel) (by decide),sz (show ((("put ":String):Str)).length<=4 from by decide +kernel) hl (by decide),sz (ap (show ((("put ":String):Str)).length<=4 from by decide +kernel) hl) (show (((" 1":String):Str)).length<=2 from by decide +kernel) (by decide),30,rfl,by decide,by decide,by decide +kernel,sz (ap (ap (show ((("put ":String):Str)).length<=4 from by decide +kernel) hl) (show (((" 1":String):Str)).length<=2 from by decide +kernel)) (show (vQ 30 (("0":String):Str)).length<=30 from by decide +kernel) (by decide),sz (show ((("put ":String):Str)).length<=4 from by decide +kernel) hl (by decide),sz (ap (show ((("put ":String):Str)).length<=4 from by decide +kernel) hl) (show (((" ":String):Str)).length<=1 from by decide +kernel) (by decide),32,rfl,by decide,by decide,by decide +kernel,sz (ap (ap (show ((("put ":String):Str)).length<=4 from by decide +kernel) hl) (show (((" ":String):Str)).length<=1 from by decide +kernel)) (show (vQ 32 (("9":String):Str)).length<=32 from by decide +kernel) (by decide),c_ (by simp),c_ (by simp),?_⟩;refine⟨sz (show ((("put ":String):Str)).length<=4 from by decide +kernel) hl (by decide),sz (ap (show ((("put ":String):Str)).length<=4 from by decide +kernel) hl) (show (((" -1":String):Str)).length<=3 from by decide +kernel) (by decide),29,rfl,by decide,by decide,by decide +kernel,sz (ap (ap (show ((("put ":String):Str)).length<=4 from by decide +kernel) hl) (show (((" -1":String):Str)).length<=3 from by decide +kernel)) (show (vQ 29 (("0":String):Str)).length<=29 from by decide +kernel) (by decide),sz (ap (ap (ap (show ((("put ":String):Str)).length<=4 from by decide +kernel) hl) (show (((" -1":String):Str)).length<=3 from by decide +kernel)) (show (vQ 29 (("0":String):Str)).length<=29 from by decide +kernel)) (show ((("1":String):Str)).length<=1 from by decide +kernel) (by decide),sz (ap (ap (ap (ap (show ((("put ":String):Str)).length<=4 from by decide +kernel) hl) (show (((" -1":String):Str)).length<=3 from by decide +kernel)) (show (vQ 29 (("0":String):Str)).length<=29 from by decide +kernel)) (show ((("1":String):Str)).length<=1 from by decide +kernel)) (show ((("0":String):Str)).length<=1 from by decide +kernel) (by decide),sz (show ((("put 5 ":String):Str)).length<=6 from by decide +kernel) hl (by decide),sz (show ((("put ":String):Str)).length<=4 from by decide +kernel) hl (by decide),sz (ap (show ((("put ":String):Str)).length<=4 from by decide +kernel) hl) (show ((("  1":String):Str)).length<=3 from by decide +kernel) (by decide),c_ (by simp),c_ (by simp),?_⟩;refine⟨sz (show ((("do ":String):Str)).length<=3 from by decide +kernel) hl (by decide),sz (ap (show ((("do ":String):Str)).length<=3 from by decide +kernel) hl) (show (((" plus 1 2":String):Str)).length<=9 from by decide +kernel) (by decide),sz (show ((("do ":String):Str)).length<=3 from by decide +kernel) hl (by decide),sz (ap (show ((("do ":String):Str)).length<=3 from by decide +kernel) hl) (show (((" 1 + 2":String):Str)).length<=6 from by decide +kernel) (by decide),sz (show ((("do ":String):Str)).length<=3 from by decide +kernel) hl (by decide),sz (ap (show ((("do ":String):Str)).length<=3 from by decide +kernel) hl) (show (((" 1 plus 2 3":String):Str)).length<=11 from by decide +kernel) (by decide),c_ (by simp),c_ (by simp),?_⟩;refine⟨sz (show ((("get ":String):Str)).length<=4 from by decide +kernel) hl (by decide),sz (ap (show ((("get ":String):Str)).length<=4 from by decide +kernel) hl) (show (((" ":String):Str)).length<=1 from by decide +kernel) (by decide),sz (ap (ap (show ((("get ":String):Str)).length<=4 from by decide +kernel) hl) (show (((" ":String):Str)).length<=1 from by decide +kernel)) hl (by decide),sz (ap (ap (ap (show ((("get ":String):Str)).length<=4 from by decide +kernel) hl) (show (((" ":String):Str)).length<=1 from by decide +kernel)) hl) (show (((" .":String):Str)).length<=2 from by decide +kernel) (by decide),sz (show ((("get ":String):Str)).length<=4 from by decide +kernel) hl (by decide),sz (ap (show ((("get ":String):Str)).length<=4 from by decide +kernel) hl) (show (((" 4 .a":String):Str)).length<=5 from by decide +kernel) (by decide),sz (show ((("set ":String):Str)).length<=4 from by decide +kernel) hl (by decide),sz (ap (show ((("set ":String):Str)).length<=4 from by decide +kernel) hl) (show (((" .a":String):Str)).length<=3 from by decide +kernel) (by decide),c_ (by simp),c_ (by simp),?_⟩;refine⟨sz (show ((("call ":String):Str)).length<=5 from by decide +kernel) hl (by decide),sz (show ((("call ":String):Str)).length<=5 from by decide +kernel) hl (by decide),sz (ap (show ((("call ":String):Str)).length<=5 from by decide +kernel) hl) (show (((" 5 1":String):Str)).length<=4 from by decide +kernel) (by decide),sz (show ((("call ":String):Str)).length<=5 from by decide +kernel) hl (by decide),sz (ap (show ((("call ":String):Str)).length<=5 from by decide +kernel) hl) (show (((" a 1 2 3 4 5":String):Str)).length<=12 from by decide +kernel) (by decide),c_ (by simp),c_ (by simp),?_⟩;refine⟨c_ (by simp),c_ (by simp),?_⟩;refine⟨c_ (by simp),c_ (by simp),?_⟩;refine⟨sz (show ((("put ":String):Str)).length<=4 from by decide +kernel) hl (by decide),sz (ap (show ((("put ":String):Str)).length<=4 from by decide +kernel) hl) (show (((" ":String):Str)).length<=1 from by decide +kernel) (by decide),3000,rfl,by decide,by decide,by decide +kernel,sz (ap (ap (show ((("put ":String):Str)).length<=4 from by decide +kernel) hl) (show (((" ":String):Str)).length<=1 from by decide +kernel)) G4.len (by decide),c_ (by simp),c_ (by simp),?_⟩;obtain⟨x,hx,e⟩:=Qz y n;refine⟨by decide,_,e,hq x hx⟩
end
def M0(ts:qaj)(q:qam):Prop:=∃(r:Rw)(c:Int),ts=[.str (aI r),.int c]/\mj r/\∀x,oh x->q (.vw (.str x))
section
noncomputable abbrev QA:qai:=["_law_line_here","_law_cell","_law_bend","_law_at"]
theorem B5:aJ QA qaL (ak Au):=L2.ij
theorem Lu(D:Df K mg "_law_bent" Au qaL f fd)(M:VJ mg):cM P w K mg base "_law_bent" qaL 1 (cy K 2 M0):=by
 refine D.lg (mi D.F B5 rfl λbS A outer s H E Ox hr ts q hG=>?_);have nd:=B5.nd;have hu:=bM.iw hr;have np:∀{i:Nat},ba ⟨H,[],Ox⟩ i:=mW;refine⟨_,(af (aM (i:=2) nd rfl (Or.inl rfl) (qau (aU (ae 1) (qas ag))) np)
  (af (aM (i:=3) nd rfl (Or.inl rfl) (qau (aU (qas (a_ (ae 1) (qas ag))) (qas (ar (qas (az aD aE (by rfl) M.len iU (aq (ae 0) au))) (qas ag))))) np)
  (af (aS (bF hu (ae 2) (qas ag))
   (ai (ay (qau (ar (ae 0) (qas ah)))))
   ax)
  (af (aS (bF hu (ae 2) (qas ag))
   (ai (ay (qau (ar (qas (ar (qas (cS (ae 0) fj (dt (ae 3)))) (qas ah))) (qas (cS (ae 0) (dt (ae 3)) fj))))))
   ax)
  (Ds 2 0
  (ai (ay (qau (ar (qas ah) (ae 0)))))))))),λ_=>?_⟩
 obtain⟨r,c,rfl,ko,hq⟩:=hG;have hl:=yd ko;have l1:(((" ":String):Str)).length=1:=by decide +kernel
 have lZ:((("Z":String):Str)).length=1:=by decide +kernel
 have h0:(0:Int)<((aI r).length:Int)+1:=by omega
 refine⟨by decide,⟨by decide,by decide⟩,c_ (by omega),h0,?_⟩;refine ow (λh1=>?_) (λh1=>?_);exact⟨by rw[l1,sizeLine_eq];omega,hq _ (Ha ko)⟩;refine ow (λh2=>?_) (λh2=>?_);have m0:0<=c / 4 % (((aI r).length:Int)+1):=kD _ (by omega);have m1:c / 4 % (((aI r).length:Int)+1)<((aI r).length:Int)+1:=mq _ h0;obtain⟨i,hi⟩:=AN m0;have D3:i<=(aI r).length:=by omega
 rw[hi];have s1:=LM (aI r) none (some (i:Int));have s2:=LM (aI r) (some (i:Int)) none;exact⟨c_ (by omega),by rw[lZ,sizeLine_eq];omega,c_ (by omega),by rw[len_app,lZ,sizeLine_eq];omega,hq _ (Lc ko D3)⟩;refine⟨c % 4,aI r,rfl,rfl,by omega,?_⟩;split;exact⟨by rw[l1,sizeLine_eq];omega,hq _ (Ah ko)⟩;exact hq _ (Hc ko)
end
end e_
namespace GR
open PySem L2 VT Gen rR K9
open dj (d9)
open z8 (RT eA ck)
theorem Lv{l:qaj}:∀{i m:Nat}{t:T},l[m]?=some t->eA t=false->(∀j<m,∀u,l[j]?=some u->eA u=true)->ck l i=some (i+m):=by
 induction l with
 |nil=>intro i m t h;cases h
 |cons a l ih=>
  intro i m t h hb hg;unfold ck;cases m with
  |zero=>
   have e:a=t:=by simpa using h
   subst e;rw[if_neg (by rw[hb];exact iV)];rfl
  |succ m=>
   rw[if_pos (hg 0 (Nat.succ_pos _) a rfl),ih (i:=i+1) (m:=m) (t:=t) (by simpa using h) hb λj hj u hu=>hg (j+1) (by omega) u (by simpa using hu)]
   congr 1
   omega
theorem DB{xs:qai}(h:xs[m]?=some x)(hb:eA (br x)=false)(hg:∀j<m,∀y,xs[j]?=some y->eA (br y)=true):ck (xs.map br) 0=some m:=by
 have:=Lv (l:=xs.map br) (i:=0) (m:=m) (t:=br x) (by rw[mf,h];rfl) hb λj hj u hu=>by rw[mf] at hu;obtain⟨y,hy,rfl⟩:=M_.mp hu;exact hg j hj y hy
 rw[this,Nat.zero_add]
def QB(x:Str):Prop:=∃r:Rw,mj r/\d9 (bw r)/\x=aI r
theorem QB.ok(h:QB x):Ln x/\eA (br x)=true:=by obtain⟨r,h1,h2,rfl⟩:=h;refine⟨(G1 h1).1,?_⟩;rw[yf h1];exact (z8.KW h2).2
structure sH(xs:qai)(ps:qao):Prop where
 bad:∀p∈ps,∃x,xs[p]?=some x/\oh x
 good:∀(j:Nat) x,xs[j]?=some x->j∉ps->QB x
theorem sH.ln{xs:qai}{ps:qao}(h:sH xs ps):∀x∈xs,Ln x:=λx hx=>by
 obtain⟨j,hj,e⟩:=Rz.mp hx;have e':xs[j]?=some x:=by rw[kB hj,e]
 by_cases z:j∈ps;obtain⟨y,hy,hb⟩:=h.bad j z;rw[e'] at hy;cases hy;exact hb.1;exact (h.good j x e' z).ok.1
theorem sH.first{xs:qai}{ps:qao}(h:sH xs ps)(hm:m∈ps)(hl:∀p∈ps,m<=p):ck (xs.map br) 0=some m:=by obtain⟨x,e,hb⟩:=h.bad m hm;exact DB e hb.2 λj hj y hy=>(h.good j y hy λz=>by have:=hl j z;omega).ok.2
theorem sH.none{xs:qai}(h:sH xs []):ck (xs.map br) 0=none:=z8.x9 _ _ λt ht=>by obtain⟨x,hx,rfl⟩:=iS.mp ht;obtain⟨j,hj,e⟩:=Rz.mp hx;exact (h.good j x (by rw[kB hj,e]) cq).ok.2
theorem sH.set{xs:qai}{ps:qao}(h:sH xs ps){p:Nat}(hp:p<xs.length)(hx:oh x):sH (xs.set p x) (ps++[p]):=by
 constructor;intro k hk;by_cases z:k=p;subst z;exact⟨x,by rw[yF hp],hx⟩;rcases gF.mp hk with hk|hk
 obtain⟨y,hy,hb⟩:=h.bad k hk;exact⟨y,by rw[uA (λw=>z w.symm)];exact hy,hb⟩;exact absurd (by simpa using hk) z;intro j y hy hj;have z:j≠p:=λw=>hj (by rw[w];simp);rw[uA (λw=>z w.symm)] at hy;exact h.good j y hy λw=>hj (j5 _ w)
theorem sH.ins{xs:qai}(h:sH xs []){p:Nat}(hp:p<=xs.length)(hx:oh x):sH (xs.take p++x::xs.drop p) [p]:=by
 have lt:(xs.take p).length=p:=by rw[Ea];omega
 constructor;intro k hk;have e:k=p:=by simpa using hk
 subst e;refine⟨x,?_,hx⟩;rw[AL (by omega),lt,Nat.sub_self];rfl;intro j y hy hj;have z:j≠p:=λw=>hj (by rw[w];simp);by_cases c:j<p;rw[wg (by omega),List.getElem?_take_of_lt c] at hy;exact h.good j y hy cq;rw[AL (by omega),lt] at hy;obtain⟨k,e⟩:∃k,j-p=k+1:=⟨j-p-1,by omega⟩;rw[e,List.getElem?_cons_succ,List.getElem?_drop] at hy;exact h.good _ y hy cq
theorem sH.rows(h:∀r∈rs,mj r/\d9 (bw r)):sH (rs.map aI) []:=⟨λp hp=>absurd hp cq,λj x hx _=>by rw[mf] at hx;obtain⟨r,hr,rfl⟩:=M_.mp hx;obtain⟨h1,h2⟩:=h r (mn hr);exact⟨r,h1,h2,rfl⟩⟩
end GR
namespace Gen
open PySem L2 VT
theorem uq{rs:qal}{f:Str}{j:Nat}:∀n,oJ (bh rs n) f=some j->∀k<j,∀ps,rs[k]?≠some (.df f ps)
 |0,h=>nomatch h
 |n+1,h=>by
  have old:oJ (bh rs n) f=some j->∀k<j,∀ps,rs[k]?≠some (.df f ps):=uq n;simp only[bh] at h;split at h
  rename_i r hr
  cases r with
  |df g ps=>
   simp only[Mp] at h;split at h;exact old h
   rename_i hn
   rw[o8] at h;split at h
   rename_i i hi
   cases h;exact old hi
   rename_i EC
   simp only[oJ] at h;split at h
   rename_i e
   cases h;intro k hk qs hq;obtain⟨j2,hj2⟩:=g9 hq _ hk;rw[EC] at hj2;cases hj2;cases h
  |_=>exact old h
  exact old h
theorem ur:∀(rs:qal)(st:qai)(i j:Nat),brk st rs i=none->brk st rs j=none
 |[],st,i,j,h=>by
  unfold brk at h ⊢;split at h
  rename_i e;rw[if_pos e]
  cases h
 |r::rs,st,i,j,h=>by
  unfold brk at h ⊢;split at h
  rename_i e;rw[if_pos e];exact ur rs _ _ _ h
  cases h
theorem B6{x f:Str}{as:List oE}{g:Str}{ps:qai}{b:qal}:∀(a:qal)(st:qai)(i:Nat),brk st (a++.df g ps::b) i=none->brk st (a++.df g ps::.call x f as::b) i=none
 |[],st,i,h=>by
  rw[RH] at h ⊢;unfold brk at h ⊢;split at h
  rename_i e
  rw[if_pos e];have hw:wd (Rw.df g ps)="def":=rfl;have hw2:wd (Rw.call x f as)="call":=rfl;rw[hw,Bs] at h ⊢;unfold brk;have hm:dI (st++[nB]) "call"=true:=by unfold dI;rw[QP];decide +kernel
  have hg:jg (st++[nB]) "call"=st++[nB]:=by unfold jg;rw[if_neg (by decide +kernel),if_neg (by decide +kernel),if_neg (by decide +kernel)]
  rw[hw2,if_pos hm,hg];exact ur _ _ _ _ h;cases h
 |r::a,st,i,h=>by
  rw[QU] at h ⊢;unfold brk at h ⊢;split at h
  rename_i e;rw[if_pos e];exact B6 a _ _ h
  cases h
theorem B7:∀(rs:qal)(st:qai)(i:Nat),oI (some st) rs=some []->brk st rs i=none
 |[],st,i,h=>by have:st=[]:=Option.some.inj h;unfold brk;rw[if_pos this]
 |r::rs,st,i,h=>by
  have h':oI (Kk (some st) r) rs=some []:=h;cases hm:dI st (wd r) with
  |false=>
   have:Kk (some st) r=none:=by show (if dI st (wd r)=true then _ else _)=_;rw[hm];rfl
   rw[this,Gm] at h';cases h'
  |true=>rw[tX hm] at h';unfold brk;rw[if_pos hm];exact B7 rs _ _ h'
end Gen
namespace GR
open PySem L2 VT Gen rR K9
theorem Lw(rs:qal):brk [] (.fin::rs) 0=some 0:=by unfold brk;rw[show dI [] (wd .fin)=false by decide +kernel];rfl
theorem Lx{f g:Str}{as:List oE}{rest:qal}(hfg:f≠g)(hr:∀qs,Rw.df g qs∉rest):fM (.df f ps::.call x g as::rest)=some 1:=by
 have h0:(Rw.df f ps::Rw.call x g as::rest)[0]?=some (.df f ps):=rfl;refine qz (by simp) (λj hj=>?_) ?_;have e:j=0:=by omega
 subst e;obtain⟨k,hk⟩:=g9 h0 (Rw.df f ps::Rw.call x g as::rest).length (by simp);have hm:=uq _ hk;have e:k=0:=by by_cases z:k=0;exact z;exact absurd h0 (hm 0 (by omega) ps)
 subst e;unfold de;rw[h0];dsimp only;rw[hk];rfl;unfold de;show (!sj _ 1 g as)=true;rw[t5];rfl;cases ha:oJ (bh (Rw.df f ps::Rw.call x g as::rest) (Rw.df f ps::Rw.call x g as::rest).length) g with
 |none=>rfl
 |some j=>
  exfalso;obtain⟨_,qs,hj⟩:=lK _ ha
  match j,hj with
  |0,hj=>exact hfg (by have:=Option.some.inj hj;injection this)
  |1,hj=>have:=Option.some.inj hj;injection this
  |j+2,hj=>exact hr qs (mn (i:=j) hj)
theorem DC{k:Nat}(h:Pre ys pl k rs):1<=k->∃f ps r rest,rs=.df f ps::r::rest:=by
 induction h with
 |zero=>intro h;omega
 |@succ k rs f ps bI body o sk h0 _ _ _ _ ih=>
  intro _;by_cases z:k=0;subst z;cases h0;rw[RH];cases hb:body++(List.replicate bI.length Rw.fin++(Rw.give o::sk)) with
  |nil=>simp at hb
  |cons r rest=>exact⟨f,ps,r,rest,rfl⟩
  obtain⟨f',Mq,r,rest,e⟩:=ih (by omega);rw[e];exact⟨f',Mq,r,_,rfl⟩
theorem uu{c:Int}(h:y∈bU c m):y.length=ja c\/y.length=ja c+1:=by
 rcases tW h with⟨k,_,rfl⟩|rfl
 exact .inl (dG _ _ _);exact .inr (by rw[Br,dG])
noncomputable def four:qai:=["nobody","nowhere","noone","nought"]
theorem Ly{c:Int}:∃g l,(four.filter λx=>!decide (x∈bU c m))=g::l/\g∈four/\g∉bU c m:=by
 have key:∃g∈four,g∉bU c m:=by
  by_cases h5:(("noone":String):Str)∈bU c m;refine⟨"nowhere",by decide +kernel,λh7=>?_⟩;have e5:(("noone":String):Str).length=5:=by decide +kernel
  have e7:(("nowhere":String):Str).length=7:=by decide +kernel
  have:=uu h5;have:=uu h7;omega;exact⟨"noone",by decide +kernel,h5⟩
 obtain⟨g,hg,hn⟩:=key;have hm:g∈four.filter λx=>!decide (x∈bU c m):=Nd.mpr ⟨hg,by simp[hn]⟩;cases hf:four.filter λx=>!decide (x∈bU c m) with
 |nil=>rw[hf] at hm;cases hm
 |cons a l=>
  have ha:a∈four.filter λx=>!decide (x∈bU c m):=by rw[hf];exact eE
  obtain⟨h1,h2⟩:=Nd.mp ha;exact⟨a,l,rfl,h1,by simpa using h2⟩
theorem uv{g:Str}(h:g∈four):aW g=true:=by
 have:∀x∈four,aW x=true:=by decide +kernel
 exact this g h
theorem DD{g:Str}(h:g∈four):aI (.call "a" g [])=("call a ":String)++g:=by
 have:∀x∈four,aI (.call "a" x [])=(("call a ":String):Str)++x:=by decide +kernel
 exact this g h
theorem gx{g:Str}(h:g∈four):(∀y∈([("a":String),g]:qai),aW y=true)/\sh [("a":String),g] (.call "a" g []):=by
 refine⟨λy hy=>?_,by simp[sh]⟩;rcases bL.mp hy with rfl|hy
 decide +kernel;rw[wj.mp hy];exact uv h
theorem HB:aI .fin=("end":String):=by decide +kernel
theorem DE:aI .skip=("skip":String):=by decide +kernel
end GR
namespace VT
open PySem PySem.Spec PyProof.Rows L2 EX
def UG(j k:Nat)(fl:FP)(fc:FB):FS:=λd ρ=>∃ts,ρ[j]?=some (some (.lst ts,true)) /\
 fl (ρ.set j (some (.lst ts,false))) λr=>∃us,r=.fr (.lst us)/\(∀u∈us,fc ((ρ.set j (some (.lst ts,false))).set k (some (u,false))) λb=>b=false)/\d.nx (ρ.set k none)
section
theorem Lz(j k:Nat){c:Expr}{a:qaq}{fl:FP}{fc:FB}{xp ip:Pos}(hp:PassesOwn (model X.prog X.w) X.A X.env X.xe)(hc:X.calm=true)(hP:Z.P=[])(nd:X.N.Nodup)(hl:∀Ox,VP X ⟨λ_=>none,[],Ox⟩ iter fl)(ht:∀Ox,VC X ⟨λ_=>none,[],Ox⟩ c fc)(hN:X.N[k]?=some x:=by rfl)(hx:Loc X.env.scope x:=by exact Or.inl rfl)(hf:X.fn x=true\/X.env.scope.names.lookup x=some .local:=by first|exact .inl rfl|exact .inr rfl|assumption)(hs:∀x,foldedSetIterable iter X.env x=pure x:=by intro _;rfl):VS X Z (.For (.Name x xp) iter [.If c a [] ip] [] pos) (UG j k fl fc):=by
 refine .mk λtm pins s σ H D J ⟨ρ,O,d,I,⟨ts,hj,hg⟩,F⟩=>?_;have I0:aw X.K ⟨λ_=>none,[],Z.Ox⟩ tm O ρ σ H:=⟨I.lσ,I.lO,I.sl,I.nd,λa h=>⟨.inr rfl,(I.own a h).2⟩,λp hp=>(nomatch hp),I.ox,λb o h=>(nomatch h),I.oy⟩;have IL:=I0.yP mW hj;refine Er (wi:=S4 X.K (lP X ⟨λ_=>none,[],Z.Ox⟩ tm fl)) (g:=iK k) (tb:=Nz (lB X ⟨λ_=>none,[],Z.Ox⟩ tm fc) yR Ej) hp hc (Fd (hl Z.Ox tm)) (AV nd hN hx hf) (jw (LS (ht Z.Ox tm) Cf AU)) hs pins s σ H D J ?_;refine⟨_,_,_,IL,hg,λr hr v H' sm z=>?_⟩;obtain⟨us,rfl,hu,hd⟩:=hr;obtain⟨b,rfl,IE,hR,_⟩:=z;obtain⟨vs,hb,hat⟩:=hR;refine .inl ⟨b,rfl,⟨vs,.inl (.inl hb)⟩,?_⟩;have hlen:=hat.length;refine⟨λi m σ1 H1=>m=us.length-i/\i<=us.length/\aL H' H1/\(σ1=σ\/∃w,σ1=σ.set k (some w)),⟨us.length,by simp,nU _,aL.refl _,.inl rfl⟩,?_⟩;rintro i m σ1 H1 ⟨rfl,hi,s1,hσ⟩;have JM:H1 b=some (.lst vs):=s1 _ _ hb;have hv:fN X.K H1 b vs:=.inl (.inl JM);have YY:=hat.same s1;by_cases gq:i<us.length;refine .inr ⟨⟨vs,vs[i]'(by omega),hv,by simp⟩,λσ' H2=>aL H' H2/\∃w,σ'=σ.set k (some w),λσ' H2 ⟨p1,p2⟩=>⟨us.length-(i+1),by omega,rfl,gq,p1,.inr p2⟩,λy H2 hy=>?_⟩;have e:us[i]?=some us[i]:=by simp[gq]
 obtain⟨rfl,hy⟩:=hy;obtain⟨v,e1,e2⟩:=YY.get e;have:=hy vs hv;rw[e1] at this;cases this;have eσ:σ1.set k (some y)=σ.set k (some y):=by
  obtain rfl|⟨w,rfl⟩:=hσ
  rfl;rw[List.set_set]
 show Nz _ yR Ej _ (σ1.set k (some y)) _;rw[eσ];have IB:=(IL.same (sm.trans s1)).put (i:=k) (t:=us[i]) (v:=y) (λp hp=>nomatch hp) (e2.bB λc hc=>(gF.mp hc).elim (λz=>j5 _ z) λz=>kC _ (fY _ z));exact⟨_,_,_,IB,hu us[i] (yO _),λbb WX H3 s3=>by subst WX;exact⟨s1.trans s3,y,rfl⟩⟩
 have e:i=us.length:=by omega
 have EV:=(I.same (sm.trans s1)).forget (i:=k) (λp hp=>by rw[hP] at hp;cases hp);refine .inl ⟨⟨vs,hv,by omega⟩,?_⟩;obtain rfl|⟨w,rfl⟩:=hσ
 exact F.nx _ _ _ _ EV hd;exact F.nx _ _ _ _ (x8 EV (by rw[yF (by rw[<- I.lσ,J.len];exact (gN.mp hN).1)])) hd
end
end VT
namespace VT
open PySem PySem.Spec PyProof.Rows L2
section
theorem DF(hc:X.calm=true):cN X (.builtin "min") (λxs H Q=>∃(p:Addr)(ns:qan),xs=[.ref p]/\fN X.K H p (ns.map V.int)/\0<ns.length/\∀m,m∈ns->(∀i∈ns,m<=i)->Q (.int m) H):=by
 intro pins s σ H xs us Q I r h;obtain⟨p,ns,rfl,hq,jz,q⟩:=h;obtain⟨u,rfl,rx⟩:=vals1 r;cases rx;obtain⟨aK,rv,pl,hz⟩:=I.list hq;have hI:IntsAre aK ns:=intsAre_of rv;obtain⟨xs,e⟩:=hI.allInts.items;have N_:ns=xs.toList.map (·.1):=by rw[<- hI.numsOf,<- nums_intItems,<- e]
 have hl:s.heap.IsList p (intItems xs):=by rw[<- e];exact pl.isList
 have oW:0<xs.size:=by have h3:=jz;rw[N_,bQ,B_] at h3;exact h3
 refine min_intList (I.ok.hd hc) hl oW λv h' tk hv hk=>?_;obtain⟨t,rfl⟩:=intItems_at hv;obtain⟨h1,h2⟩:=argBest_lt (numAt xs) (xs.size-1);refine⟨.int _,H,I.kept hk,⟨_,rfl⟩,q _ ?_ λa ha=>?_⟩;rw[N_,numAt_eq];exact getD_mem (by rw[bQ,B_];omega);rw[N_] at ha;obtain⟨j,hj,rfl⟩:=mem_getD ha;rw[bQ,B_] at hj;rw[<- numAt_eq];exact h2 j (by omega)
def M5(ts:qaj)(q:qam):Prop:=match ts with
 |[.lst l]=>∃ns,intsOf l=some ns/\0<ns.length/\∀m,m∈ns->(∀i∈ns,m<=i)->q (.vw (.int m))
 |_=>False
theorem Ay:jU K (λxs H Q=>∃(p:Addr)(ns:qan),xs=[.ref p]/\fN K H p (ns.map V.int)/\0<ns.length/\∀m,m∈ns->(∀i∈ns,m<=i)->Q (.int m) H) M5:=by intro Z tm O ρ σ H ts vs q Q I h hp k;unfold M5 at hp;split at hp;obtain⟨bs,e,h0,hp⟩:=hp;obtain⟨v,rfl,a⟩:=cb h;obtain⟨p,ws,rfl,q1,q2⟩:=a.lst;rw[u3 e q2] at q1;exact⟨p,bs,rfl,q1,h0,λm m1 m2=>k _ (hp m m1 m2) _ H (aL.refl H) ⟨I,bC⟩⟩;exact hp.elim
end
end VT
namespace e_
open PySem L2 VT Gen rR K9 GR nI EX
open z8 (RT eA ck)
structure MgL(mg:qae):Prop where
 list:mg "list"=none
 len:mg "len"=none
 min:mg "min"=none
def LA(ts:qaj)(q:qam):Prop:=∃ns:qan,ts=[.lst (ns.map .int)]/\ns.length<=63/\q (.vw (.bl true))
theorem HC(h:vj rs):fM rs=none:=by
 refine qA λj hj=>?_;unfold de;obtain⟨r,hr⟩:∃r,rs[j]?=some r:=⟨_,kB hj⟩;rw[hr];cases r with
 |df g ps=>show (!decide _)=false;rw[h.first hr];simp
 |call x f as=>show (!sj rs j f as)=false;obtain⟨i,ps,h1,h2,h3⟩:=h.ca j x f as hr;rw[t6 (h.first h2) h2,if_neg (by omega),h3];simp
 |_=>rfl
theorem HF(h:∀r∈rs,mj r):(rs.map aI).map br=rs.map bw:=by rw[AQ];exact RC λr hr=>yf (h r hr)
theorem pe(hk:∀r∈rs,mj r/\dj.d9 (bw r))(h1:60<rs.length->q (.vw (.tup [.str "great",.int 0])))(h2:rs.length<=60->(match brk [] rs 0 with
  |some i=>q (.vw (.tup [.str "block",.int (i:Int)]))
  |none=>match fM rs with
    |some i=>q (.vw (.tup [.str "call",.int (i:Int)]))
    |none=>q (.vw (.tup [.str "read",.int 0])))):B3 (rs.map aI) q:=by
 unfold B3;rw[(sH.rows hk).none];refine⟨λh=>h1 (by rw[bQ] at h;exact h),λh=>⟨rs,HF λr hr=>(hk r hr).1,h2 (by rw[bQ] at h;exact h)⟩⟩
theorem LB(hk:∀r∈rs,mj r/\dj.d9 (bw r))(hl:rs.length<=60)(hb:brk [] rs 0=none)(hc:fM rs=none)(hq:q (.vw (.tup [.str "read",.int 0]))):B3 (rs.map aI) q :=
 pe hk (λh=>by omega) λ_=>by rw[hb];dsimp only;rw[hc];exact hq
theorem HG(hk:∀r∈rs,mj r/\dj.d9 (bw r))(hl:rs.length<=60)(hb:brk [] rs 0=some i)(hq:q (.vw (.tup [.str "block",.int (i:Int)]))):B3 (rs.map aI) q :=
 pe hk (λh=>by omega) λ_=>by rw[hb];exact hq
theorem LC(hk:∀r∈rs,mj r/\dj.d9 (bw r))(hl:rs.length<=60)(hb:brk [] rs 0=none)(hc:fM rs=some i)(hq:q (.vw (.tup [.str "call",.int (i:Int)]))):B3 (rs.map aI) q :=
 pe hk (λh=>by omega) λ_=>by rw[hb];dsimp only;rw[hc];exact hq
theorem HH(hk:∀r∈rs,mj r/\dj.d9 (bw r))(hl:60<rs.length)(hq:q (.vw (.tup [.str "great",.int 0]))):B3 (rs.map aI) q :=
 pe hk (λ_=>hq) λh=>by omega
theorem LD{xs:qai}{ps:qao}(h:sH xs ps)(hm:m∈ps)(hl:∀p∈ps,m<=p)(hq:q (.vw (.tup [.str "text",.int (m:Int)]))):B3 xs q:=by unfold B3;rw[h.first hm hl];exact hq
theorem QC(wd:Str)(i:Int):dep (.tup [.str wd,.int i])<=100:=by simp[dep,pN]
noncomputable def UH(q:qam):FS:=λd ρ=>∃(ns:qan)(ys xs:qai)(b2 b5 b6:Option (T×Bool))(wd:Str)(i:Int),ρ=[some (.lst (ns.map .int),false),some (.lst (ys.map .str),false),b2,some (.lst (xs.map .str),true),some (.tup [.str wd,.int i],false),b5,b6,none,none,none,none,none]/\ns.length<=63/\ys.length=6/\(∀y∈ys,aW y=true)/\sH xs []/\2<=xs.length/\xs.length<=71/\(∀q',q' (.vw (.tup [.str wd,.int i]))->B3 xs q')/\q (.vw (.bl true))/\∀ρ r,q r->d.rt ρ r
noncomputable def YZ(q:qam):FS:=λd ρ=>∃(ns:qan)(ys xs:qai)(b2 b4 b5 b6:Option (T×Bool)),ρ=[some (.lst (ns.map .int),false),some (.lst (ys.map .str),false),b2,some (.lst (xs.map .str),true),b4,b5,b6,none,none,none,none,none]/\ns.length<=63/\ys.length=6/\(∀y∈ys,aW y=true)/\sH xs []/\2<=xs.length/\xs.length<=71/\q (.vw (.bl true))/\∀ρ r,q r->d.rt ρ r
theorem ux:∀l:qai,nY (l.map T.str)=true
 |[]=>rfl
 |x::l=>by rw[dP];exact ux l
theorem yu(n:Nat):(List.replicate n [T.str ("skip":String)]).flatten=(List.replicate n Rw.skip).map λr=>T.str (aI r):=by
 induction n with
 |zero=>rfl
 |succ n ih=>rw[AO,Iu,ih,AO,dP,DE];rfl
theorem jJ{d:Jt}{ns:qan}{l:qaj}{b2 b5 b6:Option (T×Bool)}{wd:Str}{i:Int}(el:l=(rs.map aI).map .str)(B8:ns.length<=63)(ml:ys.length=6)(rG:∀y∈ys,aW y=true)(hk:∀r∈rs,mj r/\dj.d9 (bw r))(h2:2<=rs.length)(UI:rs.length<=71)(hd:∀q',q' (.vw (.tup [.str wd,.int i]))->B3 (rs.map aI) q')(hq:q (.vw (.bl true)))(fin:∀ρ r,q r->d.rt ρ r) :
  UH q d [some (.lst (ns.map .int),false),some (.lst (ys.map .str),false),b2,some (.lst l,true),some (.tup [.str wd,.int i],false),b5,b6,none,none,none,none,none]:=by
 subst el;exact⟨ns,ys,rs.map aI,b2,b5,b6,wd,i,rfl,B8,ml,rG,sH.rows hk,by rw[bQ];exact h2,by rw[bQ];exact UI,hd,hq,fin⟩
theorem LF(h:4<=ys.length)(n:Int):∃y∈ys,kF (ys.map T.str) (n % 4)=some (.str y):=by
 have h0:0<=n % 4:=kD n (by omega);have h1:n % 4<4:=mq n (by omega);obtain⟨j,hj⟩:=AN h0;have gq:j<ys.length:=by omega
 rw[hj];exact⟨ys[j],yO gq,aG (by rw[mf,kB gq];rfl)⟩
noncomputable def Y0(q:qam):FS:=λd ρ=>∃(ns:qan)(ys xs:qai)(b2 b4 b5 b6:Option (T×Bool))(c:Int)(p:Nat),ρ=[some (.lst (ns.map .int),false),some (.lst (ys.map .str),false),b2,some (.lst (xs.map .str),true),b4,b5,b6,none,some (.int c,false),some (.int (p:Int),false),none,none]/\ns.length<=63/\ys.length=6/\(∀y∈ys,aW y=true)/\sH xs [p]/\2<=xs.length/\xs.length<=72/\q (.vw (.bl true))/\∀ρ r,q r->d.rt ρ r
theorem HI:∀{ps:qao},ps≠[]->∃m∈ps,∀p∈ps,m<=p
 |[],h=>absurd rfl h
 |[a],_=>⟨a,by simp,λp hp=>by
  have:p=a:=by simpa using hp
  omega⟩
 |a::b::l,_=>by obtain⟨m,hm,hl⟩:=HI (ps:=b::l) (by simp);by_cases z:a<=m;exact⟨a,eE,λp hp=>(bL.mp hp).elim (λe=>by omega) λh=>by have:=hl p h;omega⟩;exact⟨m,fY _ hm,λp hp=>(bL.mp hp).elim (λe=>by omega) λh=>hl p h⟩
theorem ints_map:∀ps:qao,intsOf (ps.map λp:Nat=>T.int (p:Int))=some (ps.map λp:Nat=>(p:Int))
 |[]=>rfl
 |p::ps=>by rw[dP,dP];show (intsOf _).map _=_;rw[ints_map ps];rfl
def cutD(q:qam):FS:=λd ρ=>∃(xs:qai)(ps:qao)(b0 b1 b2 b4 b5 b6 b8 b9 b11:Option (T×Bool)),ρ=[b0,b1,b2,some (.lst (xs.map .str),true),b4,b5,b6,none,b8,b9,some (.lst (ps.map λp:Nat=>T.int (p:Int)),true),b11]/\sH xs ps/\ps≠[]/\2<=xs.length/\xs.length<=72/\q (.vw (.bl true))/\∀ρ r,q r->d.rt ρ r
section
noncomputable abbrev HJ:qai:=["_law_script","_law_words_here","_law_rows","_law_lines","_law_due","_law_bend","_law_strange","_law_thing","_law_cell","_law_at","_law_places","_law_other"]
theorem HK:aJ HJ qaM (ak l_):=L2.ij
theorem DG:(HJ++(["_law_row"]:qai)).Nodup:=by decide +kernel
theorem DH:(HJ++(["_law_word"]:qai)).Nodup:=by decide +kernel
theorem QD(D:Df K mg "law" l_ qaM f fd)(M:MgL mg)(dH:cM P w K mg base "_law_cell_at" qaB 1 (cy K 2 fJ.MM))(LG:cM P w K mg base "_law_words" qaC 1 (cy K 2 fJ.Hl))(QE:cM P w K mg base "_law_plan" qaH 1 (cy K 2 fJ.MU))(DI:cM P w K mg base "_law_program" qaI 5 (cy K 3 fJ.yq))(QF:cM P w K mg base "_law_line" qaJ 1 (cy K 1 MW))(nR:cM P w K mg base "_law_outcome" ["_law_text"] 9 (cy K 1 MY))(QG:cM P w K mg base "_law_bent" qaL 1 (cy K 2 M0))(rn:cM P w K mg base "_law_bad_line" qaK 1 (cy K 2 MZ)):eM P w K mg base kU 10 f fd qaM (cy K 1 LA):=by
 refine mi D.F HK rfl λbS A outer s H E Ox hr ts q hG=>?_;have nd:=HK.nd;have hu:=bM.iw hr;have np:∀{i:Nat},ba ⟨H,[],Ox⟩ i:=mW;have UA:∀{is:qao},∀i∈is,ba ⟨H,[],Ox⟩ i:=λi _=>mW;refine⟨_,(af (aM (i:=1) nd rfl (Or.inr rfl) (qau (bp LG hr (aa (qat (bp dH hr (aa (ao 0) (aa (qat ag) aj)))) (aa (qat ag) aj)))) np)
  (af (aM (i:=2) nd rfl (Or.inl rfl) (qau (bp DI hr (aa (qat (cS (ae 0) (dt (qas ag)) fj)) (aa (ao 1) (aa (qat (bp QE hr (aa (qat (bp dH hr (aa (ao 0) (aa (qat ag) aj)))) (aa (ao 1) aj)))) aj))))) np)
  (af (Fg (i:=3) (ts:=qaJ) nd rfl (Or.inl rfl) rfl (by rfl) (fF (ao 2)) (λ_ _ _ _ _ _=>(aX (i:=12) DG rfl (Or.inl rfl) np)) (λ_ _ _ _ _ _=>fm) (λ_ _ _ _ _ _=>(qat (bp QF hr (aa (ao 12) aj)))) np)
  (af (aM (i:=4) nd rfl (Or.inl rfl) (qau (bc (aa (qat ah) (aa (qat ag) aj)))) np)
  (af (aM (i:=5) nd rfl (Or.inl rfl) (qau (aU (qas (a_ (qas (bp dH hr (aa (ao 0) (aa (qat ag) aj)))) (qas ag))) (qas ag))) np)
  (af (aS (VW.vc (eO (bF hu (ae 5) (qas ag)) (dq (i6 (qas (az aD aE (by rfl) M.len iU (aq (ae 3) au))) (qas ag)))))
   (af (bg (cL 3 V8 V9 nQ ky (aa (qat ag) (aa (qat ah) aj))))
   (ai (aM (i:=4) nd rfl (Or.inl rfl) (qau (bc (aa (qat ah) (aa (qat ag) aj)))) np)))
   ax)
  (af (aS (VW.vc (eO (bF hu (ae 5) (qas ag)) (dq (i6 (qas (az aD aE (by rfl) M.len iU (aq (ae 3) au))) (qas ag)))))
   (af (oY (i:=6) (ts:=["_law_word"]) nd rfl (Or.inl rfl) rfl (by rfl) (fF (qat (bx (aa (qat ah) (aa (qat ah) (aa (qat ah) (aa (qat ah) aj))))))) (λ_ _ _ _ _ _=>(aX (i:=12) DH rfl (Or.inl rfl) np)) (λ_ _ _ _ _ _=>(Jw (OP (ae 12) (ae 1)))) (λ_ _ _ _ _ _=>(ao 12)) np)
   (af (bg (cL 3 V8 V9 nQ ky (aa (qat ag) (aa (qat (ar (qas ah) (qas (bo (ae 6) (qas ag))))) aj))))
   (ai (aM (i:=4) nd rfl (Or.inl rfl) (qau (bc (aa (qat ah) (aa (qat ag) aj)))) np))))
   ax)
  (af (aS (bF hu (ae 5) (qas ag))
   (af (dR (i:=3) nd rfl (Or.inl rfl) (qau (ar (ae 3) (qas (OR (bx (aa (qat ah) aj)) (qas (mM (qas (ar (qas ag) (qas (aU (qas (a_ (qas (bp dH hr (aa (ao 0) (aa (qat ag) aj)))) (qas ag))) (qas ag))))) (qas (az aD aE (by rfl) M.len iU (aq (ae 3) au))))))))) np)
   (ai (aM (i:=4) nd rfl (Or.inl rfl) (qau (bc (aa (qat ah) (aa (qat ag) aj)))) np)))
   ax)
  (i7.weak (u:=(UH q)) (af (aS (jT hu (qas (bp nR hr (aa (qat (nD (qas ah) (aq (ae 3) au))) aj))) (ae 4))
   (ai (ay (qau fL)))
   ax)
  (af (Lz 3 7 HW rfl rfl nd (λOx=>(bx (aa (qat i5) (aa (qat ag) (aa (ao 3) (aa (qat (bc (aa (qat ah) aj))) (aa (qat fL) aj))))))) (λOx=>(jT hu (qas (bp nR hr (aa (ao 7) aj))) (qas (bc (aa (qat ah) (aa (qat ag) aj)))))))
  (i7.weak (u:=(YZ q)) (af (aM (i:=8) nd rfl (Or.inl rfl) (qau (aU (qas (bp dH hr (aa (ao 0) (aa (qat ag) aj)))) (qas (kb (qas ag) (qas ag))))) np)
  (af (aM (i:=9) nd rfl (Or.inl rfl) (qau (aU (qas (bp dH hr (aa (ao 0) (aa (qat ag) aj)))) (qas (az aD aE (by rfl) M.len iU (aq (ae 3) au))))) np)
  (af (aS (bF hu (qas (aU (ae 8) (qas ag))) (qas ag))
   (ai (pQ 3 (qat (bp QG hr (aa (qat (bo (ae 3) (ae 9))) (aa (qat (a_ (ae 8) (qas ag))) aj)))) (ae 9)))
   (af (aM (i:=9) nd rfl (Or.inl rfl) (qau (aU (qas (bp dH hr (aa (ao 0) (aa (qat ag) aj)))) (qas (ar (qas (az aD aE (by rfl) M.len iU (aq (ae 3) au))) (qas ag))))) np)
   (ai (bg (cL 3 V8 V9 nQ ky (aa (ao 9) (aa (qat (bp rn hr (aa (qat (a_ (ae 8) (qas ag))) (aa (qat (bo (ae 1) (qas (aU (qas (a_ (ae 8) (qas ag))) (qas ag))))) aj)))) aj)))))))
  (i7.weak (u:=(Y0 q)) (af (dR (i:=10) nd rfl (Or.inl rfl) (qau (bx (aa (ao 9) aj))) np)
  (af (aS (bF hu (qas (aU (qas (a_ (ae 8) (qas ag))) (qas ag))) (qas ag))
   (af (aM (i:=11) nd rfl (Or.inl rfl) (qau (aU (qas (bp dH hr (aa (ao 0) (aa (qat ag) aj)))) (qas (az aD aE (by rfl) M.len iU (aq (ae 3) au))))) np)
   (af (pQ 3 (qat (bp rn hr (aa (qat (ar (qas ag) (qas (a_ (ae 8) (qas ag))))) (aa (qat (bo (ae 1) (qas ag))) aj)))) (ae 11))
   (ai (bg (cL 10 rH rJ aZ aV (aa (ao 11) aj))))))
   ax)
  (i7.weak (u:=(cutD q)) (uO [3] (ai (ay (qau (sZ hu (qas (bp nR hr (aa (qat (nD (qas ah) (aq (ae 3) au))) aj))) (qas (bc (aa (qat ah) (aa (qat (az (DF rfl) Ay (by rfl) M.min Tg (aq (ae 10) au))) aj)))))))) UA) ?w4))) ?w3)))) ?w2))) ?w1))))))))),λ_=>?main⟩
 case w2=>
  rintro d ρ ⟨ns,ys,xs,b2,b4,b5,b6,rfl,B8,ml,rG,hL,h2,UI,hq,fin⟩;have Y1:((xs.map T.str).length:Int)=(xs.length:Int):=by rw[bQ]
  refine⟨rfl,ns,2,rfl,⟨by decide,by decide⟩,by decide,?_⟩;refine⟨rfl,ns,3,rfl,by rw[Y1];omega,?_⟩;have m0:0<=ns.getD 3 0 % ((xs.map T.str).length:Int):=kD _ (by omega);have m1:ns.getD 3 0 % ((xs.map T.str).length:Int)<((xs.map T.str).length:Int):=mq _ (by omega);obtain⟨p,hp⟩:=AN m0;have L0:p<xs.length:=by omega
  refine⟨by decide,?_⟩;refine ow (λho=>?_) (λho=>?_);obtain⟨r,Z5,VM,er⟩:=hL.good p _ (kB L0) cq;have ea:kF (xs.map T.str) (p:Int)=some (.str (aI r)):=aG (by rw[mf,kB L0,er];rfl);rw[hp];refine⟨_,ea,⟨by decide,by decide⟩,rfl,r,_,rfl,Z5,λx hx=>?_⟩;have ei:wq (xs.map T.str).length (p:Int)=some p:=by rw[bQ];unfold wq;simp;omega
  refine⟨p,ei,ns,ys,xs.set p x,b2,b4,b5,b6,_,p,by rw[List.map_set];rfl,B8,ml,rG,?_,by rw[Eb];omega,by rw[Eb];omega,hq,fin⟩;have:=hL.set L0 hx;exact this;have q0:(0:Int)<((xs.map T.str).length:Int)+1:=by omega
  have k0:0<=ns.getD 3 0 % (((xs.map T.str).length:Int)+1):=kD _ (by omega);have k1:ns.getD 3 0 % (((xs.map T.str).length:Int)+1)<((xs.map T.str).length:Int)+1:=mq _ q0;obtain⟨p2,CC⟩:=AN k0;have Y2:p2<=xs.length:=by omega
  refine⟨rfl,ns,3,rfl,q0,?_⟩;rw[CC];obtain⟨y,hy,ey⟩:=LF (ys:=ys) (by omega) (ns.getD 2 0 % 10 ^ Int.toNat 9 / 82);refine⟨⟨by decide,by decide⟩,⟨by decide,by decide⟩,by decide,_,ey,rfl,_,y,rfl,rG y hy,λx hx=>?_⟩;refine⟨by omega,by omega,by rw[bQ,sizeLine_eq];omega,?_⟩;refine⟨ns,ys,xs.take p2++x::xs.drop p2,b2,b4,b5,b6,ns.getD 2 0 % 10 ^ Int.toNat 9,p2,?_,B8,ml,rG,hL.ins Y2 ⟨G6 (rG y hy) x hx,BQ (rG y hy) x hx⟩,by simp;omega,by simp;omega,hq,fin⟩;simp;exact⟨rfl,rfl,rfl⟩
 case w3=>
  rintro d ρ ⟨ns,ys,xs,b2,b4,b5,b6,c,p,rfl,B8,ml,rG,hL,h2,Y3,hq,fin⟩;refine⟨small (by simp),⟨by decide,by decide⟩,by decide,?_⟩;refine ow (λho=>?_) (λho=>?_);have Y1:((xs.map T.str).length:Int)=(xs.length:Int):=by rw[bQ]
  have m0:0<=ns.getD 4 0 % ((xs.map T.str).length:Int):=kD _ (by omega);have m1:ns.getD 4 0 % ((xs.map T.str).length:Int)<((xs.map T.str).length:Int):=mq _ (by omega);obtain⟨o,A1⟩:=AN m0;have wz:o<xs.length:=by omega
  have hy0:0<ys.length:=by omega
  have Y4:=rG ys[0] (yO hy0);refine⟨rfl,ns,4,rfl,by rw[Y1];omega,?_⟩;rw[A1];refine⟨⟨by decide,by decide⟩,_,aG (j:=0) (v:=.str ys[0]) (by rw[mf,kB hy0];rfl),rfl,_,ys[0],rfl,Y4,λx hx=>?_⟩;have ei:wq (xs.map T.str).length (o:Int)=some o:=by rw[bQ];unfold wq;simp;omega
  refine⟨o,ei,small (by simp),?_⟩;refine⟨xs.set o x,[p,o],_,_,b2,b4,b5,b6,_,_,_,by rw[List.map_set];rfl,?_,by simp,by rw[Eb];omega,by rw[Eb];omega,hq,fin⟩;exact hL.set wz ⟨G6 Y4 x hx,BQ Y4 x hx⟩;exact⟨xs,[p],_,_,b2,b4,b5,b6,_,_,_,rfl,hL,by simp,h2,Y3,hq,fin⟩
 case w4=>
  rintro d ρ ⟨xs,ps,b0,b1,b2,b4,b5,b6,b8,b9,b11,rfl,hL,jz,h2,Y3,hq,fin⟩;have b1:((("\n":String):Str)).length=1:=by decide +kernel
  have sz:(xs.map λx:Str=>x.length).sum+((("\n":String):Str)).length * xs.length<=sizeLine:=by have s:=qP (f:=λx:Str=>x.length) (n:=3100) (l:=xs) λx hx=>(hL.ln x hx).len;have:xs.length * 3100<=72 * 3100:=Nat.mul_le_mul_right _ Y3;rw[b1,sizeLine_eq];omega
  obtain⟨m,hm,UJ⟩:=HI jz;refine⟨xs,rfl,?_,?_⟩
  first|exact sz|(rw[Nat.mul_comm];exact sz)|(rw[b1];rw[b1] at sz;omega)
  refine⟨rfl,.inr ⟨xs,rfl,h2,by omega,hL.ln,LD hL hm UJ ?_⟩⟩;refine⟨ps.map λp:Nat=>(p:Int),ints_map ps,by rw[bQ];exact List.length_pos_iff.mpr jz,λm' h1 h3=>?_⟩;have em:m'=(m:Int):=by obtain⟨p,hp,rfl⟩:=iS.mp h1;have a:=UJ p hp;have b:=h3 (m:Int) (iS.mpr ⟨m,hm,rfl⟩);omega
  subst em;refine⟨small (by simp),rfl,rfl,QC "text" (m:Int),?_⟩;have e:eqT (.tup [.str "text",.int (m:Int)]) (.tup [.str "text",.int (m:Int)])=true:=by simp[eqT,fZ]
  refine fin _ _ ?_;show q (.vw (.bl (eqT (.tup [.str "text",.int (m:Int)]) (.tup [.str "text",.int (m:Int)]))));rw[e];exact hq
 case w1=>
  rintro d ρ ⟨ns,ys,xs,b2,b5,b6,wd,i,rfl,B8,ml,rG,hL,h2,UI,hd,hq,fin⟩;have b1:((("\n":String):Str)).length=1:=by decide +kernel
  have sz:(xs.map λx:Str=>x.length).sum+((("\n":String):Str)).length * xs.length<=sizeLine:=by have s:=qP (f:=λx:Str=>x.length) (n:=3100) (l:=xs) λx hx=>(hL.ln x hx).len;have:xs.length * 3100<=71 * 3100:=Nat.mul_le_mul_right _ UI;rw[b1,sizeLine_eq];omega
  refine⟨xs,rfl,?_,?_⟩
  first|exact sz|(rw[Nat.mul_comm];exact sz)|(rw[b1];rw[b1] at sz;omega)
  refine⟨rfl,.inr ⟨xs,rfl,h2,by omega,hL.ln,hd _ ?_⟩⟩;refine⟨rfl,rfl,?_,?_⟩;exact QC wd i;refine eU (c:=!eqT (.tup [.str wd,.int i]) (.tup [.str wd,.int i])) (by simp[eqT,fZ]) ?_;refine⟨xs.map .str,rfl,small (by simp),small (by simp),?_⟩;refine⟨_,rfl,λu hu=>?_,ns,ys,xs,b2,_,b5,b6,rfl,B8,ml,rG,hL,h2,UI,hq,fin⟩;have EC:BU u=true:=by simp only[bL,cq,or_false] at hu;obtain rfl|rfl|rfl|rfl|rfl:=hu<;>rfl
  refine⟨rfl,.inl ⟨u,rfl,EC,?_⟩⟩;exact⟨small (by simp),rfl,rfl,QC "text" 0,rfl⟩
 case main=>
  obtain⟨ns,rfl,B8,hq⟩:=hG;have ml:(bU (ns.getD 0 0) 6).length=6:=zA _ _;have rG:∀y∈bU (ns.getD 0 0) 6,aW y=true:=zM;have OL:(bU (ns.getD 0 0) 6).Nodup:=xI (by decide);refine⟨rfl,ns,0,rfl,rfl,_,6,rfl,by decide,by decide,?_⟩;have AW:=Ly (c:=ns.getD 0 0) (m:=6);generalize bU (ns.getD 0 0) 6=ys at ml rG OL AW ⊢;obtain⟨ms,YU,X_⟩:=fJ.BZ T.int ns (some 4) none;refine⟨rfl,ns,1,rfl,rfl,_,ys,rfl,ml,λpl fz h1 h3=>?_⟩;refine⟨rfl,ms,ys,pl,by rw[<- YU];rfl,by omega,⟨ml,λy hy=>by have:=dj.jf (rG y hy);omega,h3,λp hp=>?_⟩,h1,λrs jM hlen=>?_⟩;have:=(xJ ml fz p.1 p.2 hp).2;omega;have Y5:∀r∈rs,sh ys r:=PB ml OL fz jM;have gp:∀r∈rs,mj r/\dj.d9 (bw r):=λr hr=>⟨vL rG (Y5 r hr),dj.g7 rG (Y5 r hr)⟩;have Rk:brk [] rs 0=none:=B7 rs [] 0 (Km jM);refine⟨rfl,by rw[bQ];exact c_ (by omega),?_⟩;refine gk (f:=bw) (u:=λr=>T.str (aI r)) (λr ko k hk=>⟨rfl,r,rfl,(gp r ko).1,hk⟩) ?_;refine⟨small (by simp),rfl,ns,1,rfl,⟨by decide,by decide⟩,by decide,?_⟩;have Y6:((rs.map λr=>T.str (aI r)).length:Int)=(rs.length:Int):=by rw[bQ]
  have emap:∀l:qal,(l.map λr=>T.str (aI r))=(l.map aI).map T.str:=λl=>by rw[AQ];rfl
  obtain⟨f0,VN,r0,HL,D8⟩:=DC jM h1;have VM:2<=rs.length:=by rw[D8];simp
  have Q5:∀q':qam,q' (.vw (.tup [.str "read",.int 0]))->B3 (rs.map aI) q':=λq' h=>LB gp hlen Rk (HC (Gr OL fz jM)) h;generalize hn:ns.getD 1 0 / 3 % 4=n;by_cases c1:n=1;refine xi (c:=decide (n=1)) (decide_eq_true c1) ?_;refine cA (c:=((rs.map λr=>T.str (aI r)).length:Int)<60) (λhl=>?_) (λhl=>?_);rw[Y6] at hl;have hk:∀r∈Rw.fin::rs,mj r/\dj.d9 (bw r):=λr hr=>(bL.mp hr).elim (λe=>by subst e;exact⟨vL (ys:=[]) (λ_ h=>absurd h cq) trivial,dj.g7 (ys:=[]) (λ_ h=>absurd h cq) trivial⟩) (gp r);refine⟨by decide,by decide,by rw[bQ,sizeLine_eq];omega,?_⟩;refine⟨small (by simp),?_⟩;refine eU (c:=decide (n=2)) (decide_eq_false (by omega)) ?_;refine eU (c:=decide (n=3)) (decide_eq_false (by omega)) ?_;refine jJ (rs:=Rw.fin::rs) ?_ B8 ml rG hk (by rw[rF];omega) (by rw[rF];omega) (λq' h=>HG (i:=0) hk (by rw[rF];omega) (Lw rs) h) hq λ_ _ h=>h;rw[dP,HB,dP,<- emap];rfl;refine eU (c:=decide (n=2)) (decide_eq_false (by omega)) ?_;refine eU (c:=decide (n=3)) (decide_eq_false (by omega)) ?_;exact jJ (emap rs) B8 ml rG gp VM (by omega) Q5 hq λ_ _ h=>h;refine eU (c:=decide (n=1)) (decide_eq_false c1) ?_;by_cases c2:n=2;refine xi (c:=decide (n=2)) (decide_eq_true c2) ?_;refine cA (c:=((rs.map λr=>T.str (aI r)).length:Int)<60) (λhl=>?_) (λhl=>?_);rw[Y6] at hl;refine⟨rfl,small (by simp),small (by simp),?_⟩;refine kr (xs:=four) (f:=T.str) (u:=T.str) (p:=λx=>!decide (x∈ys)) (λ_ _ _ _ _=>trivial) (λx hx k s hk=>?_) ?_;refine⟨rfl,ux ys,?_⟩;show if (!w_ (.str x) (ys.map T.str))=true then k (.str x) else s
  rw[o6];exact hk;obtain⟨g,l,eg,Rm,hgn⟩:=AW;rw[eg];have Rb:∀qs,Rw.df g qs∉rs:=λqs hm=>hgn (Y5 _ hm).1;have hk:∀r∈Rw.df f0 VN::.call "a" g []::r0::HL,mj r/\dj.d9 (bw r):=λr hr=>by
   rcases bL.mp hr with rfl|hr
   exact gp _ (by rw[D8];simp);rcases bL.mp hr with rfl|hr
   exact⟨vL (gx Rm).1 (gx Rm).2,dj.g7 (gx Rm).1 (gx Rm).2⟩;exact gp r (by rw[D8];exact fY _ hr)
  have PF:(Rw.df f0 VN::.call "a" g []::r0::HL).length=rs.length+1:=by rw[D8];rfl
  refine⟨_,aG (j:=0) rfl,?_⟩;refine⟨?_,?_⟩;have:=dj.jf (uv Rm);have e:(("call a ":String):Str).length=7:=by decide +kernel
  rw[e,sizeLine_eq];omega;refine⟨by decide,by decide,by rw[bQ,sizeLine_eq];omega,?_⟩;refine⟨small (by simp),?_⟩;refine eU (c:=decide (n=3)) (decide_eq_false (by omega)) ?_;refine jJ (rs:=Rw.df f0 VN::.call "a" g []::r0::HL) ?_ B8 ml rG hk (by rw[PF];omega) (by rw[PF];omega) (λq' h=>LC (i:=1) hk (by rw[PF];omega) (B6 [] [] 0 (by rw[D8] at Rk;exact Rk)) (Lx (λe=>Rb VN (by rw[D8,e];exact eE)) λqs hm=>Rb qs (by rw[D8];exact fY _ hm)) h) hq λ_ _ h=>h;rw[D8,<- emap,dP,dP,dP,dP,DD Rm];rfl;refine eU (c:=decide (n=3)) (decide_eq_false (by omega)) ?_;exact jJ (emap rs) B8 ml rG gp VM (by omega) Q5 hq λ_ _ h=>h;refine eU (c:=decide (n=2)) (decide_eq_false c2) ?_;by_cases c3:n=3;subst c3;refine⟨small (by simp),rfl,ns,1,rfl,⟨by decide,by decide⟩,by decide,?_⟩;have m0:0<=ns.getD 1 0 / 12 % 10:=kD _ (by omega);have m1:ns.getD 1 0 / 12 % 10<10:=mq _ (by omega);generalize hz:ns.getD 1 0 / 12 % 10=z at m0 m1;obtain⟨k,ek⟩:∃k:Nat,61+z-(rs.length:Int)=(k:Int):=AN (by omega);have ev:61+z-((rs.map λr=>T.str (aI r)).length:Int)=(k:Int):=by rw[Y6];exact ek
  have PF:(rs++List.replicate k Rw.skip).length=rs.length+k:=by rw[j6,DV]
  have Y7:k<=70:=by omega
  have hk:∀r∈rs++List.replicate k Rw.skip,mj r/\dj.d9 (bw r):=λr hr=>(gF.mp hr).elim (gp r) λh=>by rw[(List.mem_replicate.mp h).2];exact⟨vL (ys:=[]) (λ_ h=>absurd h cq) trivial,dj.g7 (ys:=[]) (λ_ h=>absurd h cq) trivial⟩
  refine⟨?_,?_,?_,?_⟩;rw[ev];exact Int.le_trans (by decide) (Int.natCast_nonneg k);rw[ev];exact Int.lt_of_le_of_lt (Int.ofNat_le.mpr Y7) (by decide);rw[ev,sizeLine_eq];show 1 * k<=_;omega;rw[ev];refine⟨?_,?_⟩;rw[bQ,show (List.replicate ((k:Int).toNat) [(Rt.vw (T.str ("skip":String))).t]).flatten.length=k from (congrArg List.length (yu k)).trans (by simp),sizeLine_eq];omega;refine⟨small (by simp),?_⟩;refine jJ (rs:=rs++List.replicate k Rw.skip) ?_ B8 ml rG hk (by omega) (by omega) (λq' h=>HH hk (by omega) h) hq λ_ _ h=>h;rw[<- emap,wm];exact congrArg (_++·) (yu k);refine eU (c:=decide (n=3)) (decide_eq_false c3) ?_;exact jJ (emap rs) B8 ml rG gp VM (by omega) Q5 hq λ_ _ h=>h
end
end e_
namespace sI
open PySem L2 VT EX
noncomputable def top(i:Nat):Stmt:=PySem.Challenge.pw_slicewise_k18_texts_refused.main.body.getD i (.Pass ⟨0,0,0,0⟩)
noncomputable abbrev hY:Stmt:=inClass (top 8) 0
noncomputable abbrev jr:Stmt:=inClass (top 9) 0
noncomputable abbrev ma:Stmt:=inClass (top 7) 0
noncomputable abbrev jt:Stmt:=inClass (top 10) 0
structure DX(K:qaf)(mg:qae)(x qual:Str)(st:Stmt)(S C f:Addr)(fd:FuncData):Prop where
 F:Ic K "__init__" qual st f fd
 m:mg x=some (.ref C)
 kp:PySem.W.keepIn K (.ref C)=true
 b:Binds K fd qay []
 xc:XC K C [S]
 xf:XF K C
 hi:PySem.W.findIn K (.ref C) "__init__"=some (some (.ref f))
 ht:PySem.W.typeIn K (.ref f)=some (.type "function")
theorem Az:aJ qay qay (ak hY):=L2.ij
theorem DJ:aJ qay qay (ak jr):=L2.ij
theorem HM:aJ qay qay (ak ma):=L2.ij
theorem DK:aJ qay qay (ak jt):=L2.ij
section
theorem AA(D:DX K mg "NoBlock" "NoBlock.__init__" hY S C f fd)(xs:XS K S)(mS:mg "SliceError"=some (.ref S)):XP P w K mg base "NoBlock" C 1:=by refine⟨D.m,D.kp,⟨_,D.xc⟩,f,fd,D.hi,D.ht,D.b,D.F.ok Az (λvs H Q E h=>?_) λbS A outer s H vs Q E hr h=>?_⟩;obtain⟨e,i,rfl,_⟩:=h;rfl;obtain⟨e,i,rfl,h0,h1,he,hq⟩:=h;refine⟨_,iX (jx (lQ xs (by rfl) mS D.xc (bj (pv 0) (bj (xS (pv 1)) cF)))) (jw (Bz D.xc D.xf (pv 0) (pv 1))),?_⟩;refine⟨_,rfl,_,rfl,i,rfl,h0,h1,λx=>⟨e,x,rfl,he,_,rfl,_,rfl,e,i,rfl,rfl,he,hq⟩⟩
theorem DM(D:DX K mg "NoCall" "NoCall.__init__" jr S C f fd)(xs:XS K S)(mS:mg "SliceError"=some (.ref S)):XP P w K mg base "NoCall" C 1:=by refine⟨D.m,D.kp,⟨_,D.xc⟩,f,fd,D.hi,D.ht,D.b,D.F.ok DJ (λvs H Q E h=>?_) λbS A outer s H vs Q E hr h=>?_⟩;obtain⟨e,i,rfl,_⟩:=h;rfl;obtain⟨e,i,rfl,h0,h1,he,hq⟩:=h;refine⟨_,iX (jx (lQ xs (by rfl) mS D.xc (bj (pv 0) (bj (xS (pv 1)) cF)))) (jw (Bz D.xc D.xf (pv 0) (pv 1))),?_⟩;refine⟨_,rfl,_,rfl,i,rfl,h0,h1,λx=>⟨e,x,rfl,he,_,rfl,_,rfl,e,i,rfl,rfl,he,hq⟩⟩
theorem HN(D:DX K mg "NoRow" "NoRow.__init__" ma S C f fd)(xs:XS K S)(mS:mg "SliceError"=some (.ref S)):XP P w K mg base "NoRow" C 1:=by refine⟨D.m,D.kp,⟨_,D.xc⟩,f,fd,D.hi,D.ht,D.b,D.F.ok HM (λvs H Q E h=>?_) λbS A outer s H vs Q E hr h=>?_⟩;obtain⟨e,i,rfl,_⟩:=h;rfl;obtain⟨e,i,rfl,h0,h1,he,hq⟩:=h;refine⟨_,iX (jx (lQ xs (by rfl) mS D.xc (bj (pv 0) (bj (xS (pv 1)) cF)))) (jw (Bz D.xc D.xf (pv 0) (pv 1))),?_⟩;refine⟨_,rfl,_,rfl,i,rfl,h0,h1,λx=>⟨e,x,rfl,he,_,rfl,_,rfl,e,i,rfl,rfl,he,hq⟩⟩
theorem DN(D:DX K mg "NoText" "NoText.__init__" jt S C f fd)(xs:XS K S)(mS:mg "SliceError"=some (.ref S)):XP P w K mg base "NoText" C 1:=by refine⟨D.m,D.kp,⟨_,D.xc⟩,f,fd,D.hi,D.ht,D.b,D.F.ok DK (λvs H Q E h=>?_) λbS A outer s H vs Q E hr h=>?_⟩;obtain⟨e,i,rfl,_⟩:=h;rfl;obtain⟨e,i,rfl,h0,h1,he,hq⟩:=h;refine⟨_,iX (jx (lQ xs (by rfl) mS D.xc (bj (pv 0) (bj (xS (pv 1)) cF)))) (jw (Bz D.xc D.xf (pv 0) (pv 1))),?_⟩;refine⟨_,rfl,_,rfl,i,rfl,h0,h1,λx=>⟨e,x,rfl,he,_,rfl,_,rfl,e,i,rfl,rfl,he,hq⟩⟩
end
end sI
namespace jR
open PySem L2 VT
theorem UK(X:K.In h)(G:h.Ns mainGlobals mg){oc:Value}{od an:qar}{AZ:Array (Option Value)}{kV doc pm bS ct:Value}(a:PySem.W.nsIn K mainGlobals x=some (some (.ref f)))(l:K.lookup f=some ⟨oc,od,.func (PySem.W.fnOf x x (ff st) (cK st) (ak st) .none kV doc pm an bS ct),AZ⟩)(c:PySem.W.codeIn K bS x=true)(k:PySem.W.keepIn K (.ref f)=true)(hb:∀(kV doc pm:Value) (an:qar) (bS ct:Value) (us:qag),us.length=ps.length->bindArgs (PySem.W.fnOf x x (ff st) (cK st) (ak st) .none kV doc pm an bS ct) ⟨us,[]⟩=pure (ps.zip us)) :
  ∃f fd,Df K mg x st ps f fd:=by
 have F:=mG (st:=st) l c k;exact⟨f,_,F,ic X G a,F.binds hb⟩
theorem Y8{C:qag->Prop}(h:C []):∀us:qag,us.length=0->C us
 |[],_=>h
theorem UL{C:qag->Prop}(h:∀a,∀us:qag,us.length=n->C (a::us)):∀us:qag,us.length=n+1->C us
 |a::us,e=>h a us (Nat.succ.inj e)
theorem UM{C:qag->Prop}(h:∀a,C [a]):∀us:qag,us.length=1->C us:=UL λa=>Y8 (h a)
theorem bn1{C:qag->Prop}(h:∀a,C [a]):∀us:qag,us.length=1->C us:=UM h
theorem VQ{C:qag->Prop}(h:∀a b,C [a,b]):∀us:qag,us.length=2->C us:=UL λa=>bn1 (h a)
abbrev pE:Program:=PySem.Challenge.pw_slicewise_k18_texts_refused
noncomputable def qE:Program:=PySem.W.view pE [1,2,3,4,5,6,7,8,9,10,12,13,14,15,16,17,18,19,20,21,22,23,24,25,26,28,29,30,31,32,33,34,35,36,37,38,40,41,42,43,44,45,46,48,49,50,51,52,53,54,55,56,57,58,59,60,61]
noncomputable def rq:qai:=["FORMS","AHEAD_OF_TUPLE"]
noncomputable def M6:qah:=[0,1,2,3,4,5,6,7,8,9,10,11,12,13,14,15,22,23,24,25,28,35,36,37,40,47,48,49,52,59,60,61,64,71,72,73,76,83,84,85,88,95,96,97,98,99,100,101,102,103,104,107,114,115,116,117,118,119,120,121,122,123,126,133,134,135,136,137,138,139,140,141,142,145,152,153,154,155,156,157,158,159,160,161,164,165,166,167,168,169,170,171,172,173,174,175,176,177,178,179,180,181,182,183,184,185,186,187,188,189,190,191,192,193,194,195,196,197,198,199,200,201,202,203,204,205,206,207,208,209,210,211,212,213,214,215,216,217,218,219,220,221,222,223,224,225,226,227,228,229,230,231,232,233,234,235,236,237,238,239,240,241,242,243,244,245,246,247,248,249,250,251,252,253,254,255,256,257,258,259,260,261,262,263,264,265,266,267,268,269,270,271,272,273,274,275,276,277,278,279,280,281,282,283,284,285,286,287,288,289,290,291,292,293,294,295,296,297,298,299,300,301,302,303,304,305,306,307,308,309,310,311,312,313,314,315,316,317,318,319,320,321,322,323,324,325,326,327,328,329,330,331,332,333,334,335,336,337,338,339,340,341,342,343,344,345,346,347,348,349,350,351,352,353,354,355,356,357,358,359,360,361,362,363,364,365,366,367,368,369,370,371,372,373,374,375,376,377,378,379,380,381,382,383,384,385,386,387,388,389,390,391,392,393,394,395,396,397,398,399,400,401,402,403,404,405,406,407]
abbrev OV:=Option (Option Value)
abbrev OO:=Option Obj
abbrev N(K:qaf)(x:Str):=PySem.W.nsIn K mainGlobals x
abbrev Lk(K:qaf)(a:Addr):=List.lookup a K
abbrev R(a:Addr):OV:=some (some (.ref a))
noncomputable abbrev fo(x q:Str)(st:Stmt)(pm:Value)(c:Addr):OO:=some ⟨.type "function",none,.func (PySem.W.fnOf x q (ff st) (cK st) (ak st) .none .none .none pm none (.ref c) .none),#[]⟩
abbrev cI(K:qaf)(c:Value)(q:Str):=PySem.W.codeIn K c q
abbrev kI(K:qaf)(f:Addr):=PySem.W.keepIn K (.ref f)
abbrev fI(K:qaf)(c:Addr)(x:Str):=PySem.W.findIn K (.ref c) x
abbrev Q4:=OV×OO×Bool×Bool
noncomputable def q4(K:qaf)(x:Str)(f c:Addr):Q4:=(N K x,Lk K f,cI K (.ref c) x,kI K f)
noncomputable def v4(x:Str)(st:Stmt)(f:Addr)(pm:Value)(c:Addr):Q4:=(R f,fo x x st pm c,true,true)
def BN:qai->(qag->Prop)->Prop
 |[],C=>C []
 |_::ps,C=>∀v,BN ps λus=>C (v::us)
theorem bnA:∀{ps:qai}{C:qag->Prop},BN ps C->∀us:qag,us.length=ps.length->C us
 |[],_,h,[],_=>h
 |_::_,_,h,v::us,e=>bnA (h v) us (Nat.succ.inj e)
theorem dM{D:Prop}(X:K.In h)(G:h.Ns mainGlobals mg){c:Addr}{pm:Value}(e:q4 K x f c=v4 x st f pm c)(k:∀{f:Addr} {fd:FuncData},Df K mg x st ps f fd->D)(hb:∀(kV doc pm:Value) (an:qar) (bS ct:Value),BN ps λus=>bindArgs (PySem.W.fnOf x x (ff st) (cK st) (ak st) .none kV doc pm an bS ct) ⟨us,[]⟩=pure (ps.zip us):=by simp only[BN];intros;rfl):D:=by unfold q4 v4 at e;simp only[Prod.mk.injEq] at e;obtain⟨_,_,d⟩:=UK X G e.1 e.2.1 e.2.2.1 e.2.2.2 λa b c d e f=>bnA (hb a b c d e f);exact k d
def Tk(P:Program)(w:World)(base:Heap):Prop:=True
theorem dN(z:Tk P w base)(X:K.In h)(G:h.Ns mainGlobals mg){c:Addr}{pm:Value}(e:q4 K x f c=v4 x st f pm c)(k:∀{f:Addr} {fd:FuncData},Df K mg x st ps f fd->cM P w K mg base x ps n sp)(hb:∀(kV doc pm:Value) (an:qar) (bS ct:Value),BN ps λus=>bindArgs (PySem.W.fnOf x x (ff st) (cK st) (ak st) .none kV doc pm an bS ct) ⟨us,[]⟩=pure (ps.zip us):=by simp only[BN];intros;rfl):cM P w K mg base x ps n sp:=dM X G e k hb
noncomputable abbrev tU(l:Array Value):OO:=some ⟨.type "tuple",none,.seq l 0,#[]⟩
noncomputable abbrev kE(w:World)(x:Str)(t:Tok)(r:Addr):DictEntry:=⟨PyData.keyHash w.params x,.str x t,.ref r⟩
abbrev B9:Value:=.str "law_slicewise_k18_texts_refused" 616
abbrev VU:Value:=.str "slicewise.errors" 187
abbrev M7:Value:=.str "slicewise.programs" 493
noncomputable abbrev LH:Value:=.str "slicewise.rows" 387
abbrev VY:Value:=.str "slicewise.texts" 578
abbrev M8:=(OV×OV)×(OV×OV)
abbrev QH:=(Q4×Q4)×(Q4×Q4)
abbrev Y9:=(Bool×Bool)×(Bool×OV)
abbrev Y_:=(OO×OO)×(OO×OO)
abbrev tX4:=(Bool×OO)×(Bool×Bool)
abbrev tX5:=(Bool×OV)×(Bool×OO)
abbrev XX:Type:=(((((M8×M8)×(((OO×OV)×(OO×OV))×((OO×OV)×(OV×OV))))×((M8×M8)×(M8×M8)))×(((((OV×OV)×(OV×OO))×Y_)×(Y_×Y_))×((((OO×OO)×(OV×OO))×M8)×(M8×((OV×OV)×(Bool×Bool))))))×((((Y9×tX4)×(tX5×Y9))×((tX4×tX5)×(Y9×((OO×Bool)×(Bool×Q4)))))×(((QH×QH)×(QH×QH))×((QH×QH)×(QH×((Q4×Q4)×(Q4×(Q4×Q4))))))))
noncomputable def FF(K:qaf):XX:=(((((((N K "H",N K "LETTERS"),(N K "FIGURES",N K "LONGEST_NAME")),((N K "MOST_PARTS",N K "MOST_ROWS"),(N K "LONGEST_NUMBER",N K "RECKONINGS"))),(((Lk K 164,N K "OPENERS"),(Lk K 235,N K "CLOSERS")),((Lk K 236,N K "isinstance"),(N K "int",N K "bool")))),((((N K "str",N K "len"),(N K "all",N K "tuple")),((N K "set",N K "zip"),(N K "range",N K "sum"))),(((N K "list",N K "enumerate"),(N K "min",N K "ValueError")),((N K "is_name",N K "are_parameters"),(N K "is_operand",N K "is_reckoning"))))),(((((N K "is_key",N K "are_operands"),(N K "FORMS",Lk K 215)),((Lk K 229,Lk K 228),(Lk K 227,Lk K 226))),(((Lk K 225,Lk K 224),(Lk K 223,Lk K 222)),((Lk K 221,Lk K 220),(Lk K 219,Lk K 218)))),((((Lk K 217,Lk K 216),(N K "AHEAD_OF_TUPLE",Lk K 293)),((N K "SliceError",N K "TooGreat"),(N K "NoRow",N K "NoBlock"))),(((N K "NoCall",N K "NoText"),(N K "NoPlace",N K "Unlike")),((N K "NoFault",N K "Done"),(EX.Z1 K [37,104,123,142,161,49,61,73,85] 24,EX.Yr K 24)))))),((((((EX.Vz K 24 [],kI K 37),(EX.T6 K 37,fI K 104 "__init__")),((PySem.W.isFn K (.ref 101),Lk K 101),(cI K (.ref 100) "NoRow.__init__",kI K 101))),(((kI K 104,fI K 123 "__init__"),(PySem.W.isFn K (.ref 120),Lk K 120)),((cI K (.ref 119) "NoBlock.__init__",kI K 120),(kI K 123,fI K 142 "__init__")))),((((PySem.W.isFn K (.ref 139),Lk K 139),(cI K (.ref 138) "NoCall.__init__",kI K 139)),((kI K 142,fI K 161 "__init__"),(PySem.W.isFn K (.ref 158),Lk K 158))),(((cI K (.ref 157) "NoText.__init__",kI K 158),(kI K 161,N K "law")),((Lk K 407,cI K (.ref 406) "law"),(kI K 407,q4 K "is_number" 171 170))))),(((((q4 K "is_name" 176 175,q4 K "is_operand" 183 182),(q4 K "is_field" 190 189,q4 K "is_key" 197 196)),((q4 K "is_reckoning" 204 203,q4 K "are_operands" 209 208),(q4 K "are_parameters" 214 213,q4 K "is_row" 234 233))),(((q4 K "may_stand" 264 263,q4 K "go_past" 271 270),(q4 K "check_rows" 250 249,q4 K "check_blocks" 257 256)),((q4 K "first_defs" 285 284,q4 K "may_call" 292 291),(q4 K "check_calls" 278 277,q4 K "program_of" 243 242)))),((((q4 K "writes_number" 315 314,q4 K "part_of" 310 309),(q4 K "row_of" 303 302,q4 K "read" 298 297)),((q4 K "_law_cell_at" 322 321,q4 K "_law_words" 329 328),(q4 K "_law_operand" 336 335,q4 K "_law_key" 343 342))),(((q4 K "_law_call" 350 349,q4 K "_law_simple" 357 356),(q4 K "_law_lay" 364 363,q4 K "_law_plan" 369 368)),((q4 K "_law_program" 376 375,q4 K "_law_line" 381 380),(q4 K "_law_outcome" 402 401,(q4 K "_law_bad_line" 388 387,q4 K "_law_bent" 395 394))))))))
noncomputable def VV(w:World):XX:=(((((((some (some (.int 1000000000000000000000000000000 389)),some (some (.str rR.bt 391))),(some (some (.str K9.sG 580)),some (some (.int 8 393)))),((some (some (.int 4 395)),some (some (.int 60 495))),(some (some (.int 32 582)),R 164))),(((tU #[.str "plus" 397,.str "minus" 398,.str "times" 399,.str "over" 400,.str "rest" 401,.str "less" 402,.str "same" 403],R 235),(tU #[.str "def" 497,.str "if" 498,.str "while" 499],R 236)),((tU #[.str "give" 501,.str "end" 502],some none),(some none,some none)))),((((some none,some none),(some none,some none)),((some none,some none),(some none,some none))),(((some none,some none),(some none,some none)),((R 176,R 214),(R 183,R 204))))),(((((R 197,R 209),(R 215,some ⟨.type "dict",none,.dict #[kE w "def" 458 216,kE w "give" 459 217,kE w "put" 460 218,kE w "do" 461 219,kE w "new" 462 220,kE w "get" 463 221,kE w "set" 464 222,kE w "call" 465 223,kE w "fail" 466 224,kE w "if" 467 225,kE w "else" 468 226,kE w "while" 469 227,kE w "end" 470 228,kE w "skip" 471 229] 14,#[]⟩)),((tU #[],tU #[]),(tU #[.ref 183],tU #[]))),(((tU #[.ref 183],tU #[.ref 176]),(tU #[.ref 176,.ref 176,.ref 209],tU #[.ref 176,.ref 197,.ref 183])),((tU #[.ref 176,.ref 176,.ref 197],tU #[.ref 176]),(tU #[.ref 176,.ref 183,.ref 204,.ref 183],tU #[.ref 176,.ref 183])))),((((tU #[.ref 183],tU #[.ref 176,.ref 214]),(R 293,some ⟨.type "dict",none,.dict #[⟨PyData.keyHash w.params "def",.str "def" 584,.int (2) 585⟩,⟨PyData.keyHash w.params "call",.str "call" 586,.int (3) 587⟩] 2,#[]⟩)),((R 24,R 37),(R 104,R 123))),(((R 142,R 161),(R 49,R 61)),((R 73,R 85),(true,true)))))),((((((true,true),(true,some (some (.ref 101)))),((true,fo "__init__" "NoRow.__init__" sI.ma VU 100),(true,true))),(((true,some (some (.ref 120))),(true,fo "__init__" "NoBlock.__init__" sI.hY VU 119)),((true,true),(true,some (some (.ref 139)))))),((((true,fo "__init__" "NoCall.__init__" sI.jr VU 138),(true,true)),((true,some (some (.ref 158))),(true,fo "__init__" "NoText.__init__" sI.jt VU 157))),(((true,true),(true,R 407)),((fo "law" "law" e_.l_ B9 406,true),(true,v4 "is_number" dj.gA 171 LH 170))))),(((((v4 "is_name" dj.jC 176 LH 175,v4 "is_operand" dj.iB 183 LH 182),(v4 "is_field" dj.ki 190 LH 189,v4 "is_key" dj.qh 197 LH 196)),((v4 "is_reckoning" dj.dU 204 LH 203,v4 "are_operands" dj.dW 209 LH 208),(v4 "are_parameters" dj.eZ 214 LH 213,v4 "is_row" dj.qo 234 LH 233))),(((v4 "may_stand" dj.jh 264 M7 263,v4 "go_past" dj.g_ 271 M7 270),(v4 "check_rows" z8.iE 250 M7 249,v4 "check_blocks" KI.gj 257 M7 256)),((v4 "first_defs" dj.iC 285 M7 284,v4 "may_call" KI.kq 292 M7 291),(v4 "check_calls" KI.gL 278 M7 277,v4 "program_of" z8.fP 243 M7 242)))),((((v4 "writes_number" nI.dy 315 VY 314,v4 "part_of" nI.nJ 310 VY 309),(v4 "row_of" nI.qX 303 VY 302,v4 "read" nI.Aj 298 VY 297)),((v4 "_law_cell_at" fJ.nN 322 B9 321,v4 "_law_words" fJ.v3 329 B9 328),(v4 "_law_operand" fJ.nO 336 B9 335,v4 "_law_key" fJ.Hj 343 B9 342))),(((v4 "_law_call" fJ.s_call 350 B9 349,v4 "_law_simple" fJ.q8 357 B9 356),(v4 "_law_lay" fJ.Hk 364 B9 363,v4 "_law_plan" fJ.Ao 369 B9 368)),((v4 "_law_program" fJ.nP 376 B9 375,v4 "_law_line" e_.As 381 B9 380),(v4 "_law_outcome" e_.fU 402 B9 401,(v4 "_law_bad_line" e_.kz 388 B9 387,v4 "_law_bent" e_.Au 395 B9 394))))))))
theorem AB(w:World)(os:OsState):HE.lookA pE qE rq [] [] (HE.eI (w.withFollow "special-get-raises" false).params) (PySem.W.boot_heap (w.withFollow "special-get-raises" false).params) (w.withFollow "special-get-raises" false) 3778 os=some (true,(PySem.W.openGood qE rq).1,(PySem.W.openGood qE rq).2.1):=by
 rw[PySem.W.Fast.te2848547177322276819]
 kernel_rfl
theorem DO(w:World)(os:OsState):HE.lookA pE qE rq [] [] (HE.eI (w.withFollow "special-get-raises" true).params) (PySem.W.boot_heap (w.withFollow "special-get-raises" true).params) (w.withFollow "special-get-raises" true) 3778 os=some (true,(PySem.W.openGood qE rq).1,(PySem.W.openGood qE rq).2.1):=by
 rw[PySem.W.Fast.te2848547177322276819]
 kernel_rfl
theorem Y'(w:World)(os:OsState):HE.lookA pE qE rq [] [] (HE.eI (w).params) (PySem.W.boot_heap (w).params) (w) 3778 os=some (true,(PySem.W.openGood qE rq).1,(PySem.W.openGood qE rq).2.1) :=
 PySem.W.byRow2 "special-get-raises" (P:=λw=>∀os,HE.lookA pE qE rq [] [] (HE.eI (w).params) (PySem.W.boot_heap (w).params) (w) 3778 os=some (true,(PySem.W.openGood qE rq).1,(PySem.W.openGood qE rq).2.1)) AB DO w os
theorem AD(w:World)(os:OsState):HE.lookB pE qE rq [] [] (HE.eI (w.withFollow "special-get-raises" false).params) (w.withFollow "special-get-raises" false) 3778 os=some (PySem.W.openGood qE rq).2.2:=by
 rw[PySem.W.Fast.te312265020846911052]
 kernel_rfl
theorem DP(w:World)(os:OsState):HE.lookB pE qE rq [] [] (HE.eI (w.withFollow "special-get-raises" true).params) (w.withFollow "special-get-raises" true) 3778 os=some (PySem.W.openGood qE rq).2.2:=by
 rw[PySem.W.Fast.te312265020846911052]
 kernel_rfl
theorem Za(w:World)(os:OsState):HE.lookB pE qE rq [] [] (HE.eI (w).params) (w) 3778 os=some (PySem.W.openGood qE rq).2.2 :=
 PySem.W.byRow2 "special-get-raises" (P:=λw=>∀os,HE.lookB pE qE rq [] [] (HE.eI (w).params) (w) 3778 os=some (PySem.W.openGood qE rq).2.2) AD DP w os
theorem AE(w:World)(os:OsState):HE.lookC pE M6 FF (HE.eI (w.withFollow "special-get-raises" false).params) (w.withFollow "special-get-raises" false) 3778 os=some (VV (w.withFollow "special-get-raises" false)):=by
 rw[PySem.W.Fast.te3135357915001837337]
 kernel_rfl
theorem DQ(w:World)(os:OsState):HE.lookC pE M6 FF (HE.eI (w.withFollow "special-get-raises" true).params) (w.withFollow "special-get-raises" true) 3778 os=some (VV (w.withFollow "special-get-raises" true)):=by
 rw[PySem.W.Fast.te3135357915001837337]
 kernel_rfl
theorem runC(w:World)(os:OsState):HE.lookC pE M6 FF (HE.eI (w).params) (w) 3778 os=some (VV (w)) :=
 PySem.W.byRow2 "special-get-raises" (P:=λw=>∀os,HE.lookC pE M6 FF (HE.eI (w).params) (w) 3778 os=some (VV (w))) AE DQ w os
theorem QI:PySem.Challenge.rw_slicewise_k18_texts_refused.wellSaid=true:=by kernel_rfl
noncomputable abbrev KE(w:World):qaf:=HE.Kf M6 (HE.u5 pE 8236 w)
noncomputable abbrev dE:DefRec:=HE.Tp e_.l_
theorem hd:PySem.W.LeftO pE qE rq (HE.JN qE [] []) (λs=>M6.map s.heap.get?) (λw=>M6.map (HE.u5 pE 8236 w)) 8236/\∀w,FF (KE w)=VV w:=HE.head (p:=pE) (q:=qE) (loose:=rq) (lv:=[]) (R:=[]) (as:=M6) (N:=8236) (M:=3778) (F:=FF) (v:=VV) (by kernel_rfl) rfl (λs=>by kernel_rfl) rfl Y' Za runC
theorem QJ{l:PySem.W.OpenLaw}{fa:Addr}(X:K.In h)(G:h.Ns mainGlobals mg)(hfa:mg "law"=some (.ref fa))(hF:FF K=VV w) :
  ∃fd:FuncData,(∀(s:Shared)(v:Value),BindsTo s fd ⟨[v],[]⟩ [("_law_script",v)])/\∀base:Heap,K.In base->base.Ns mainGlobals mg->eM l.prog w K mg base kU 10 fa fd qaM (cy K 1 e_.LA):=by
 have Q {β:Type} (f:XX->β):=congrArg f hF;have dn:=yN X G (Q (·.1.1.1.2.2.1.2) :);have v7:=yN X G (Q (·.1.1.1.2.2.2.1) :);have v8:=yN X G (Q (·.1.1.1.2.2.2.2) :);have v_:=yN X G (Q (·.1.1.2.1.1.1.1) :);have kA:=yN X G (Q (·.1.1.2.1.1.1.2) :);have AF:=yN X G (Q (·.1.1.2.1.1.2.1) :);have md:=yN X G (Q (·.1.1.2.1.1.2.2) :);have QK:=yN X G (Q (·.1.1.2.1.2.1.1) :);have QL:=yN X G (Q (·.1.1.2.1.2.1.2) :);have HP:=yN X G (Q (·.1.1.2.1.2.2.1) :);have QM:=yN X G (Q (·.1.1.2.1.2.2.2) :);have pf:=yN X G (Q (·.1.1.2.2.1.1.1) :);have me:=yN X G (Q (·.1.1.2.2.1.1.2) :);have QN:=yN X G (Q (·.1.1.2.2.1.2.1) :);have sJ:=yN X G (Q (·.1.1.2.2.1.2.2) :);have e:=hfa.symm.trans (ic X G (Q (·.2.1.2.2.1.2.2) :));cases e;have yw:=mG (st:=sI.ma) (Q (·.2.1.1.1.2.1.2) :) (Q (·.2.1.1.1.2.2.1) :) (Q (·.2.1.1.1.2.2.2) :);have HQ:sI.DX K mg "NoRow" "NoRow.__init__" sI.ma 24 104 101 _:=⟨yw,ic X G (Q (·.1.2.2.1.2.2.1) :),(Q (·.2.1.1.2.1.1.1) :),yw.binds (λ_ _ _ _ _ _=>(jR.VQ λ_ _=>rfl)),((EX.iQ (Q (·.1.2.2.2.2.2.1) :)).2.2 104 (by simp)).1,((EX.iQ (Q (·.1.2.2.2.2.2.1) :)).2.2 104 (by simp)).2,(Q (·.2.1.1.1.1.2.2) :),beq_iff_eq.mp (Q (·.2.1.1.1.2.1.1) :)⟩;have rz:=mG (st:=sI.hY) (Q (·.2.1.1.2.1.2.2) :) (Q (·.2.1.1.2.2.1.1) :) (Q (·.2.1.1.2.2.1.2) :);have AG:sI.DX K mg "NoBlock" "NoBlock.__init__" sI.hY 24 123 120 _:=⟨rz,ic X G (Q (·.1.2.2.1.2.2.2) :),(Q (·.2.1.1.2.2.2.1) :),rz.binds (λ_ _ _ _ _ _=>(jR.VQ λ_ _=>rfl)),((EX.iQ (Q (·.1.2.2.2.2.2.1) :)).2.2 123 (by simp)).1,((EX.iQ (Q (·.1.2.2.2.2.2.1) :)).2.2 123 (by simp)).2,(Q (·.2.1.1.2.1.1.2) :),beq_iff_eq.mp (Q (·.2.1.1.2.1.2.1) :)⟩;have uy:=mG (st:=sI.jr) (Q (·.2.1.2.1.1.1.2) :) (Q (·.2.1.2.1.1.2.1) :) (Q (·.2.1.2.1.1.2.2) :);have DR:sI.DX K mg "NoCall" "NoCall.__init__" sI.jr 24 142 139 _:=⟨uy,ic X G (Q (·.1.2.2.2.1.1.1) :),(Q (·.2.1.2.1.2.1.1) :),uy.binds (λ_ _ _ _ _ _=>(jR.VQ λ_ _=>rfl)),((EX.iQ (Q (·.1.2.2.2.2.2.1) :)).2.2 142 (by simp)).1,((EX.iQ (Q (·.1.2.2.2.2.2.1) :)).2.2 142 (by simp)).2,(Q (·.2.1.1.2.2.2.2) :),beq_iff_eq.mp (Q (·.2.1.2.1.1.1.1) :)⟩;have uz:=mG (st:=sI.jt) (Q (·.2.1.2.1.2.2.2) :) (Q (·.2.1.2.2.1.1.1) :) (Q (·.2.1.2.2.1.1.2) :);have DS:sI.DX K mg "NoText" "NoText.__init__" sI.jt 24 161 158 _:=⟨uz,ic X G (Q (·.1.2.2.2.1.1.2) :),(Q (·.2.1.2.2.1.2.1) :),uz.binds (λ_ _ _ _ _ _=>(jR.VQ λ_ _=>rfl)),((EX.iQ (Q (·.1.2.2.2.2.2.1) :)).2.2 161 (by simp)).1,((EX.iQ (Q (·.1.2.2.2.2.2.1) :)).2.2 161 (by simp)).2,(Q (·.2.1.2.1.2.1.2) :),beq_iff_eq.mp (Q (·.2.1.2.1.2.2.1) :)⟩;have M2:dj.Vs mg:=⟨⟨_,ic X G (Q (·.1.1.1.1.1.1.1) :)⟩,⟨_,ic X G (Q (·.1.1.1.1.1.1.2) :)⟩,⟨_,ic X G (Q (·.1.1.1.1.1.2.2) :)⟩,dn,v7,v8,v_,kA,AF⟩;have M3:dj.Pp w K mg:=⟨M2,⟨_,ic X G (Q (·.1.1.1.1.2.1.1) :)⟩,⟨164,ic X G (Q (·.1.1.1.1.2.2.2) :),λH=>.inr ⟨_,_,_,(Q (·.1.1.1.2.1.1.1) :),rfl,rfl,Gen.xw rfl,.cons ⟨_,rfl⟩ (.cons ⟨_,rfl⟩ (.cons ⟨_,rfl⟩ (.cons ⟨_,rfl⟩ (.cons ⟨_,rfl⟩ (.cons ⟨_,rfl⟩ (.cons ⟨_,rfl⟩ (.nil)))))))⟩⟩,dn,v7,v8,v_,kA,AF,md,QK,QL⟩;have M4:dj.ZQ w K mg:=⟨M3,⟨215,λs=>match s with | .nm=>176 | .op=>183 | .key=>197 | .rk=>204 | .par=>214 | .ops=>209,(ic X G (Q (·.1.2.1.1.1.2.1) :)),λs=>match s with | .nm=>(ic X G (Q (·.1.1.2.2.2.1.1) :)) | .op=>(ic X G (Q (·.1.1.2.2.2.2.1) :)) | .key=>(ic X G (Q (·.1.2.1.1.1.1.1) :)) | .rk=>(ic X G (Q (·.1.1.2.2.2.2.2) :)) | .par=>(ic X G (Q (·.1.1.2.2.2.1.2) :)) | .ops=>(ic X G (Q (·.1.2.1.1.1.1.2) :)),⟨_,_,(Q (·.1.2.1.1.1.2.2) :),(by first|rfl|decide),.cons ⟨rfl,⟨_,rfl⟩,.ref 216,rfl,λ_ _=>bK (vs:=[V.ref 176,V.ref 214]) (.inr ⟨_,_,_,(Q (·.1.2.2.1.1.1.2) :),rfl,rfl,Gen.xw rfl,.cons rfl (.cons rfl (.nil))⟩) (aB.cons (by simp only[At]) (aB.cons (by simp only[At]) (aB.nil)))⟩ (.cons ⟨rfl,⟨_,rfl⟩,.ref 217,rfl,λ_ _=>bK (vs:=[V.ref 183]) (.inr ⟨_,_,_,(Q (·.1.2.2.1.1.1.1) :),rfl,rfl,Gen.xw rfl,.cons rfl (.nil)⟩) (aB.cons (by simp only[At]) (aB.nil))⟩ (.cons ⟨rfl,⟨_,rfl⟩,.ref 218,rfl,λ_ _=>bK (vs:=[V.ref 176,V.ref 183]) (.inr ⟨_,_,_,(Q (·.1.2.1.2.2.2.2) :),rfl,rfl,Gen.xw rfl,.cons rfl (.cons rfl (.nil))⟩) (aB.cons (by simp only[At]) (aB.cons (by simp only[At]) (aB.nil)))⟩ (.cons ⟨rfl,⟨_,rfl⟩,.ref 219,rfl,λ_ _=>bK (vs:=[V.ref 176,V.ref 183,V.ref 204,V.ref 183]) (.inr ⟨_,_,_,(Q (·.1.2.1.2.2.2.1) :),rfl,rfl,Gen.xw rfl,.cons rfl (.cons rfl (.cons rfl (.cons rfl (.nil))))⟩) (aB.cons (by simp only[At]) (aB.cons (by simp only[At]) (aB.cons (by simp only[At]) (aB.cons (by simp only[At]) (aB.nil)))))⟩ (.cons ⟨rfl,⟨_,rfl⟩,.ref 220,rfl,λ_ _=>bK (vs:=[V.ref 176]) (.inr ⟨_,_,_,(Q (·.1.2.1.2.2.1.2) :),rfl,rfl,Gen.xw rfl,.cons rfl (.nil)⟩) (aB.cons (by simp only[At]) (aB.nil))⟩ (.cons ⟨rfl,⟨_,rfl⟩,.ref 221,rfl,λ_ _=>bK (vs:=[V.ref 176,V.ref 176,V.ref 197]) (.inr ⟨_,_,_,(Q (·.1.2.1.2.2.1.1) :),rfl,rfl,Gen.xw rfl,.cons rfl (.cons rfl (.cons rfl (.nil)))⟩) (aB.cons (by simp only[At]) (aB.cons (by simp only[At]) (aB.cons (by simp only[At]) (aB.nil))))⟩ (.cons ⟨rfl,⟨_,rfl⟩,.ref 222,rfl,λ_ _=>bK (vs:=[V.ref 176,V.ref 197,V.ref 183]) (.inr ⟨_,_,_,(Q (·.1.2.1.2.1.2.2) :),rfl,rfl,Gen.xw rfl,.cons rfl (.cons rfl (.cons rfl (.nil)))⟩) (aB.cons (by simp only[At]) (aB.cons (by simp only[At]) (aB.cons (by simp only[At]) (aB.nil))))⟩ (.cons ⟨rfl,⟨_,rfl⟩,.ref 223,rfl,λ_ _=>bK (vs:=[V.ref 176,V.ref 176,V.ref 209]) (.inr ⟨_,_,_,(Q (·.1.2.1.2.1.2.1) :),rfl,rfl,Gen.xw rfl,.cons rfl (.cons rfl (.cons rfl (.nil)))⟩) (aB.cons (by simp only[At]) (aB.cons (by simp only[At]) (aB.cons (by simp only[At]) (aB.nil))))⟩ (.cons ⟨rfl,⟨_,rfl⟩,.ref 224,rfl,λ_ _=>bK (vs:=[V.ref 176]) (.inr ⟨_,_,_,(Q (·.1.2.1.2.1.1.2) :),rfl,rfl,Gen.xw rfl,.cons rfl (.nil)⟩) (aB.cons (by simp only[At]) (aB.nil))⟩ (.cons ⟨rfl,⟨_,rfl⟩,.ref 225,rfl,λ_ _=>bK (vs:=[V.ref 183]) (.inr ⟨_,_,_,(Q (·.1.2.1.2.1.1.1) :),rfl,rfl,Gen.xw rfl,.cons rfl (.nil)⟩) (aB.cons (by simp only[At]) (aB.nil))⟩ (.cons ⟨rfl,⟨_,rfl⟩,.ref 226,rfl,λ_ _=>bK (vs:=[]) (.inr ⟨_,_,_,(Q (·.1.2.1.1.2.2.2) :),rfl,rfl,Gen.xw rfl,.nil⟩) (aB.nil)⟩ (.cons ⟨rfl,⟨_,rfl⟩,.ref 227,rfl,λ_ _=>bK (vs:=[V.ref 183]) (.inr ⟨_,_,_,(Q (·.1.2.1.1.2.2.1) :),rfl,rfl,Gen.xw rfl,.cons rfl (.nil)⟩) (aB.cons (by simp only[At]) (aB.nil))⟩ (.cons ⟨rfl,⟨_,rfl⟩,.ref 228,rfl,λ_ _=>bK (vs:=[]) (.inr ⟨_,_,_,(Q (·.1.2.1.1.2.1.2) :),rfl,rfl,Gen.xw rfl,.nil⟩) (aB.nil)⟩ (.cons ⟨rfl,⟨_,rfl⟩,.ref 229,rfl,λ_ _=>bK (vs:=[]) (.inr ⟨_,_,_,(Q (·.1.2.1.1.2.1.1) :),rfl,rfl,Gen.xw rfl,.nil⟩) (aB.nil)⟩ (.nil)))))))))))))),by show ([("def":Str),("give":Str),("put":Str),("do":Str),("new":Str),("get":Str),("set":Str),("call":Str),("fail":Str),("if":Str),("else":Str),("while":Str),("end":Str),("skip":Str)]).Nodup;decide +kernel⟩⟩⟩;have MP:dj.Kr w K mg:=⟨⟨_,ic X G (Q (·.1.1.1.1.2.1.2) :)⟩,⟨235,ic X G (Q (·.1.1.1.2.1.1.2) :),λH=>.inr ⟨_,_,_,(Q (·.1.1.1.2.1.2.1) :),rfl,rfl,Gen.xw rfl,.cons ⟨_,rfl⟩ (.cons ⟨_,rfl⟩ (.cons ⟨_,rfl⟩ (.nil)))⟩⟩,⟨236,ic X G (Q (·.1.1.1.2.1.2.2) :),λH=>.inr ⟨_,_,_,(Q (·.1.1.1.2.2.1.1) :),rfl,rfl,Gen.xw rfl,.cons ⟨_,rfl⟩ (.cons ⟨_,rfl⟩ (.nil))⟩⟩,pf,kA,me⟩;have MT:nI.Uk w K mg:=⟨⟨_,ic X G (Q (·.1.1.1.1.1.2.1) :)⟩,⟨_,ic X G (Q (·.1.1.1.1.2.2.1) :)⟩,⟨293,(ic X G (Q (·.1.2.2.1.1.2.1) :)),⟨_,_,(Q (·.1.2.2.1.1.2.2) :),(by first|rfl|decide),.cons ⟨rfl,⟨_,rfl⟩,.int 2,⟨_,rfl⟩,λ_ _=>bC⟩ (.cons ⟨rfl,⟨_,rfl⟩,.int 3,⟨_,rfl⟩,λ_ _=>bC⟩ (.nil)),by show ([("def":Str),("call":Str)]).Nodup;decide +kernel⟩⟩,dn,md,v_,v7,kA,AF,me⟩;have MB:e_.VJ mg:=⟨pf,kA,dn,v_,md⟩;have ML:e_.MgL mg:=⟨pf,kA,QN⟩;have MG:fJ.Ql mg:=⟨kA,HP,md,QM⟩;have VZ:EX.XS K 24:=EX.T9 (Q (·.1.2.2.2.2.2.2) :);have MC:e_.MgC K mg 24 37 104 123 142 161 49 61 73 85:=⟨ic X G (Q (·.1.2.2.1.2.1.1) :),ic X G (Q (·.1.2.2.1.2.1.2) :),ic X G (Q (·.1.2.2.1.2.2.1) :),ic X G (Q (·.1.2.2.1.2.2.2) :),ic X G (Q (·.1.2.2.2.1.1.1) :),ic X G (Q (·.1.2.2.2.1.1.2) :),ic X G (Q (·.1.2.2.2.1.2.1) :),ic X G (Q (·.1.2.2.2.1.2.2) :),ic X G (Q (·.1.2.2.2.2.1.1) :),ic X G (Q (·.1.2.2.2.2.1.2) :),EX.MF (Q (·.2.1.1.1.1.1.1) :),by decide,(EX.iQ (Q (·.1.2.2.2.2.2.1) :)).1,(EX.iQ (Q (·.1.2.2.2.2.2.1) :)).2.1,(EX.iQ (Q (·.1.2.2.2.2.2.1) :)).2.2,dn,v7,v8,pf,sJ⟩;have yx:EX.X0 K mg "TooGreat" 37:=EX.T_ (ic X G (Q (·.1.2.2.1.2.1.2) :)) (Q (·.2.1.1.1.1.1.2) :) ((EX.iQ (Q (·.1.2.2.2.2.2.1) :)).2.2 37 (by simp)).1 (Q (·.2.1.1.1.1.2.1) :);have F:=mG (st:=e_.l_) (Q (·.2.1.2.2.2.1.1) :) (Q (·.2.1.2.2.2.1.2) :) (Q (·.2.1.2.2.2.2.1) :);have DL:Df K mg "law" e_.l_ qaM 407 _:=⟨F,hfa,F.binds (λ_ _ _ _ _ _=>UM λ_=>rfl)⟩;refine⟨PySem.W.fnOf "law" "law" (ff e_.l_) (cK e_.l_) (ak e_.l_) .none (.none) (.none) (.str "law_slicewise_k18_texts_refused" 616) none (.ref 406) (.none),λs v=>.of_eq rfl,λbase _ _=>?_⟩;have zT:Tk l.prog w base:=trivial;have qH:=sI.HN (P:=l.prog) (w:=w) (base:=base) HQ VZ (ic X G (Q (·.1.2.2.1.2.1.1) :));have iD:=sI.AA (P:=l.prog) (w:=w) (base:=base) AG VZ (ic X G (Q (·.1.2.2.1.2.1.1) :));have jE:=sI.DM (P:=l.prog) (w:=w) (base:=base) DR VZ (ic X G (Q (·.1.2.2.1.2.1.1) :));have jG:=sI.DN (P:=l.prog) (w:=w) (base:=base) DS VZ (ic X G (Q (·.1.2.2.1.2.1.1) :));have yy:=dN zT X G (Q (·.2.1.2.2.2.2.2) :) λD=>dj.CO D M2;have jK:=dN zT X G (Q (·.2.2.1.1.1.1.1) :) λD=>dj.J_ D M2;have iI:=dM X G (Q (·.2.2.1.1.1.1.2) :) λD=>dj.kj D jK yy;have AH:=dM X G (Q (·.2.2.1.1.1.2.1) :) λD=>dj.xF D M3 jK;have HR:=dM X G (Q (·.2.2.1.1.1.2.2) :) λD=>dj.CS D M3 AH iI;have rA:=dN zT X G (Q (·.2.2.1.1.2.1.1) :) λD=>dj.oF D M3;have ju:=dM X G (Q (·.2.2.1.1.2.1.2) :) λD=>dj.oG D M3 iI;have nS:=dM X G (Q (·.2.2.1.1.2.2.1) :) λD=>dj.lH D M3 ju jK;have yz:=dM X G (Q (·.2.2.1.1.2.2.2) :) λD=>dj.CU D M4 jK iI HR rA nS ju;have yA:=dN zT X G (Q (·.2.2.1.2.1.1.1) :) λD=>dj.vk D MP;have DT:=dN zT X G (Q (·.2.2.1.2.1.1.2) :) λD=>dj.zR D MP;have wa:=dM X G (Q (·.2.2.1.2.1.2.1) :) λD=>z8.sx D MP qH yz;have rB:=dM X G (Q (·.2.2.1.2.1.2.2) :) λD=>KI.oM D MP iD yA DT;have wb:=dN zT X G (Q (·.2.2.1.2.2.1.1) :) λD=>dj.si D MP;have AI:=dN zT X G (Q (·.2.2.1.2.2.1.2) :) λD=>KI.x4 D MP;have sL:=dM X G (Q (·.2.2.1.2.2.2.1) :) λD=>KI.qF D MP jE wb AI;have wc:=dM X G (Q (·.2.2.1.2.2.2.2) :) λD=>z8.sy D MP yx wa rB sL;have oO:=dN zT X G (Q (·.2.2.2.1.1.1.1) :) λD=>nI.nK D MT;have DU:=dM X G (Q (·.2.2.2.1.1.1.2) :) λD=>nI.Am D MT oO;have HS:=dM X G (Q (·.2.2.2.1.1.2.1) :) λD=>nI.Du D MT DU;have QO:=dM X G (Q (·.2.2.2.1.1.2.2) :) λD=>nI.Lg D MT jG HS yz wc;have rC:=dN zT X G (Q (·.2.2.2.1.2.1.1) :) λD=>fJ.Ap D MG;have we:=dN zT X G (Q (·.2.2.2.1.2.1.2) :) λD=>fJ.Hm D MG;have cW:=dN zT X G (Q (·.2.2.2.1.2.2.1) :) λD=>fJ.kj D;have AJ:=dM X G (Q (·.2.2.2.1.2.2.2) :) λD=>fJ.Qm D cW;have yB:=dM X G (Q (·.2.2.2.2.1.1.1) :) λD=>fJ.Ll D MG cW;have sM:=dM X G (Q (·.2.2.2.2.1.1.2) :) λD=>fJ.Dy D cW AJ yB;have AK:=dM X G (Q (·.2.2.2.2.1.2.1) :) λD=>fJ.Qs D MG cW sM;have yC:=dN zT X G (Q (·.2.2.2.2.1.2.2) :) λD=>fJ.Lm D MG;have rD:=dM X G (Q (·.2.2.2.2.2.1.1) :) λD=>fJ.Ar D MG cW AK;have yD:=dN zT X G (Q (·.2.2.2.2.2.1.2) :) λD=>e_.Ls D MB;have rE:=dM X G (Q (·.2.2.2.2.2.2.1) :) λD=>e_.Aw D MC QO;have oP:=dN zT X G (Q (·.2.2.2.2.2.2.2.1) :) λD=>e_.yt D MB;have yE:=dN zT X G (Q (·.2.2.2.2.2.2.2.2) :) λD=>e_.Lu D MB;exact e_.QD DL ML rC we yC rD yD rE yE oP
theorem walk{l:PySem.W.OpenLaw}{q:Program}{loose:qai}{XP:(qae)->Heap->Prop}{d:DefRec}{K:World->qaf}(hn:l.most=some 63)(WW:d.params.defaults=[])(F:∀(w:World) (mg:qae) (fa:Addr) (h:Heap),(K w).In h->h.Ns mainGlobals mg->mg d.name=some (.ref fa) ->
    ∃fd:FuncData,(∀(s:Shared) (u:Value),BindsTo s fd ⟨[u],[]⟩ [("_law_script",u)])/\∀base:Heap,(K w).In base->base.Ns mainGlobals mg->eM l.prog w (K w) mg base kU 10 fa fd qaM (cy (K w) 1 e_.LA)) :
  PySem.W.WalkO q loose XP (λw h=>(K w).In h) l.row.toRowW d [] (λf vs=>PySem.call f vs):=by
 refine Vc.wD hn WW λw s₀ s₁ mg mb fa o pm cd doc a vs ns G Y ho hd gM Sv N9 hints hlen hg=>?_;obtain⟨fd,hb,hF⟩:=F w mg fa _ Y G.T.g Sv;exact EJ (CX:=kU) (sp:=cy (K w) 1 e_.LA) (k:=10) Y G.T.g G.T.b G.T.builtins G.T.nolimit hg N9 hints (mw hlen (by decide)) ⟨rfl,by decide,by decide⟩ hF hb (λH _ hS=>
  ⟨[.lst (ns.map .int)],[],[],λ_ r=>r=.vw (.bl true),QX,λ_ z=>(nomatch z),λ_ z=>(nomatch z),eS rfl (aB.cons (by
     simp only[At];refine⟨a,ns.map V.int,rfl,hS.imp (λz=>⟨z,λm=>nomatch m⟩) id,?_⟩;clear hS;clear hints hlen;induction ns with
     |nil=>exact aB.nil
     |cons n ns ih=>exact aB.cons bC ih) aB.nil),⟨ns,rfl,hlen,rfl⟩,λus r hr v H' _ z=>by
     subst hr;have:=z.1;simpa only[At] using this⟩) λ_ _ _ z=>z
end jR
open PySem PySem.W PyProof.Rows
set_option maxRecDepth 100000 in
set_option maxHeartbeats 0 in
theorem PySem.Challenge.cw_slicewise_k18_texts_refused_holds : PySem.Challenge.rw_slicewise_k18_texts_refused.Holds := by
 w_on
 refine PySem.W.holds_law jR.QI λQI=>?_;refine PySem.W.holds_openX (q:=jR.qE) (loose:=jR.rq) (Xt:=HE.JN jR.qE [] []) (XP:=PySem.W.XL jR.qE []) (d:=jR.dE) (kwd:=[]) (N:=8236) jR.hd.1 (λs e=>PySem.W.xl_of s (oQ.mp e).1) PySem.W.XL.keeps (by kernel_rfl) (by kernel_rfl) (by kernel_rfl) (λs e=>PySem.W.recFacts_of (oQ.mp e).2) (by kernel_rfl) QI (by kernel_rfl) ⟨rfl,rfl,rfl,rfl,rfl,by decide +kernel⟩ ?hw ?hc
 (case hw=>w_witness2)
 exact HE.FJ (jR.walk (l:=PySem.Challenge.rw_slicewise_k18_texts_refused) (K:=jR.KE) rfl rfl (λw mg fa h KX G Sv=>jR.QJ KX G Sv (jR.hd.2 w)))
