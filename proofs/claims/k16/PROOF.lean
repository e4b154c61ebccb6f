import PyProof.Rows.All
import Wide.All
import OpenK.AllK
import Wide.FinOn
import Lean
import PyProof.EqAt
import PyProof.EqKinds
import PyProof.TupleCall
import PyProof.NeKinds
import PyProof.Rows.SumAny
import PyProof.StrBlockL
import PyProof.StrBlockI
import PyProof.FitsReplace
import PyProof.Rows.SeqMore
import PyProof.Rows.TupAdd
import PyProof.Draws
import PyProof.ZipIter
import OpenK.ZGo
import PyProof.ListNew
import PyProof.Rows.SortStr
import PyProof.Rows.SortWalk
import PyProof.IsRules
import KE.KDictLaws
import PyProof.DictWalks
import PyProof.WalkInts
import PyProof.DictItems
import PyProof.Rows.DictItemsRows
import KE.KPairComp
import PyProof.Rows.BitMore
import PyProof.Rows.SetFrom
import PyProof.SetRoads
import PyProof.CollectIter
import PyProof.Rows.SortShellK
import PyProof.SeqRoads2
import PySem.Challenge.RW_slicewise_k16_cut_anywhere
set_option Elab.async false
set_option linter.all false
set_option maxRecDepth 100000
set_option maxHeartbeats 8000000
variable{w:PySem.World}{n i j most t' m:Nat}{f a C dx d:PySem.Addr}{fd:PySem.FuncData}{x qual y:PySem.Str}{e b o c iter:PySem.Expr}{A:PySem.Around}{P prog:PySem.Program}{α β:Type}{p apos a5 gu p1 p2:PySem.Pos}{base h h':PySem.Heap}{O:HD}{u:PySem.Value}{B:Prop}{s':PySem.Shared}{sc:PySem.Scope}
abbrev HD:=List (Option PySem.Addr)
abbrev qaa:=List (PySem.Addr×PySem.Obj)
abbrev qad:=PySem.Value->PySem.Shared->Prop
abbrev qae:=PySem.Str->Option PySem.Value
abbrev qaf:=PySem.W.Frag
abbrev qag:=List PySem.Value
abbrev qah:=List PySem.Addr
abbrev qai:=List PySem.Str
abbrev qan:=List Int
abbrev qao:=List Nat
abbrev qap:=List PySem.Expr
abbrev qaq:=List PySem.Stmt
abbrev qar:=Option PySem.Addr
abbrev qav:List PySem.Str:=["self","program","most","poke"]
abbrev qaw:List PySem.Str:=["call","names"]
abbrev qax:List PySem.Str:=["thing"]
abbrev qay:List PySem.Str:=["program"]
abbrev qaz:List PySem.Str:=["self","program"]
abbrev qaA:List PySem.Str:=["layout","place"]
abbrev qaB:List PySem.Str:=["number"]
abbrev qaC:List PySem.Str:=["value"]
abbrev qaD:List PySem.Str:=["one","other"]
abbrev qaE:List PySem.Str:=["one","word","other"]
abbrev qaF:List PySem.Str:=["self","call","names"]
abbrev qaG:List PySem.Str:=["machine","part"]
abbrev qaH:List PySem.Str:=["key","used"]
abbrev qaI:List PySem.Str:=["machine","row","used"]
abbrev qaJ:List PySem.Str:=["machine","row","used","made"]
abbrev qaK:List PySem.Str:=["machine","place","call","given"]
abbrev qaL:List PySem.Str:=["machine","row"]
abbrev qaM:List PySem.Str:=["program","inputs","most","poke"]
abbrev qaN:List PySem.Str:=["program","inputs","most"]
abbrev qaO:List PySem.Str:=["_law_script","_law_k"]
abbrev qaP:List PySem.Str:=["_law_cell"]
abbrev qaQ:List PySem.Str:=["_law_cell","_law_names_here"]
abbrev qaR:List PySem.Str:=["_law_cell","_law_many"]
abbrev qaS:List PySem.Str:=["_law_k"]
abbrev qaT:List PySem.Str:=["_law_kind","_law_cell","_law_names_here","_law_there"]
abbrev qaU:List PySem.Str:=["_law_rows","_law_blocks","_law_cell","_law_names_here","_law_there"]
abbrev qaV:List PySem.Str:=["_law_cells","_law_names_here","_law_head"]
abbrev qaW:List PySem.Str:=["_law_told"]
abbrev qaX:List PySem.Str:=["_law_rows","_law_inputs","_law_most","_law_doings","_law_end"]
abbrev qaY:List PySem.Str:=["_law_script"]
abbrev jD(x:PySem.Str):Prop:=(x==("__debug__":PySem.Str))=false
abbrev yT(x:PySem.Str):Prop:=(x==("__classdict__":PySem.Str))=false
abbrev bW:=@List.mem_append_right
abbrev cC:=@List.mem_append_left
abbrev eW:=@List.getElem?_eq_some_iff
abbrev cU:=@List.mem_append
abbrev dP:=@List.mem_cons_self
abbrev c3:=@List.length_map
abbrev c4:=@List.mem_cons
abbrev ic:=@List.mem_cons_of_mem
abbrev iw:=@List.mem_of_getElem?
abbrev c_:=@Nat.le_refl
abbrev gD:=@List.not_mem_nil
abbrev ie:=@List.getElem?_map
abbrev lT:=@List.getElem?_eq_getElem
abbrev jb:=@Bool.false_ne_true
abbrev iU:=@List.size_toArray
abbrev qe:=@List.getElem?_append_right
abbrev oi:=@List.getElem?_append_left
abbrev jO:=@PySem.W.mg_none_of
abbrev jV:=@List.mem_singleton
abbrev og:=@PySem.Heap.get?_push_of_some
abbrev ix:=@List.map_cons
abbrev oh:=@List.filterMap_cons
abbrev jW:=@PySem.boot_len
abbrev pH:=@List.length_append
abbrev m9:=@Bool.and_eq_true
abbrev jE:=@PySem.Heap.lt_size
abbrev mW:=@List.nodup_cons
abbrev qf:=@Int.emod_lt_of_pos
abbrev y3:=@List.getLast?_eq_getElem?
abbrev uc:=@List.getElem?_set_ne
abbrev lU:=@PySem.W.mg_of
abbrev ud:=@List.replicate_succ
abbrev jU:=@Nat.zero_le
abbrev vy:=@PySem.Heap.get?_push_size
abbrev qg:=@Int.emod_nonneg
abbrev mX:=@Nat.le_trans
abbrev BB:=@List.length_replicate
abbrev Ec:=@PySem.F.slot_list_append
abbrev Ed:=@PySem.F.type_list_append
abbrev t_:=@List.map_append
abbrev yU:=@Nat.lt_of_lt_of_le
abbrev pJ:=@Nat.ne_of_lt
abbrev Ee:=@List.getElem?_set_self
abbrev yV:=@Int.toNat_natCast
abbrev BF:=@List.length_dropLast
abbrev Fz:=@List.getElem?_replicate
abbrev FC:=@Int.eq_ofNat_of_zero_le
abbrev y4:=@List.length_cons
abbrev BG:=@List.nodup_append
abbrev vz:=@List.mem_map
abbrev IC:=@Bool.false_eq_true
abbrev Ry:=@List.mem_iff_getElem?
abbrev NA:=@List.getElem?_eq_none
abbrev IV:=@List.set_cons_succ
abbrev Ef:=@List.mem_range
abbrev FD:=@List.append_nil
abbrev ID:=@Nat.lt_succ_self
abbrev IE:=@List.length_take
abbrev N0:=@List.getElem?_range
abbrev Rz:=@List.length_eq_zero_iff
abbrev N1:=@List.getLast?_concat
abbrev NB:=@List.flatten_cons
abbrev NC:=@List.length_range
abbrev RA:=@PySem.F.slot_dict_get
abbrev Eg:=@List.map_map
abbrev N2:=@List.zip_cons_cons
abbrev ND:=@List.lookup_cons
abbrev Tf:=@List.getElem?_dropLast
abbrev RB:=@Array.length_toList
abbrev RC:=@PySem.mem_of_lookup
abbrev NF:=@List.length_set
abbrev XT:=@List.mem_or_eq_of_mem_set
abbrev NG:=@List.find?_cons
abbrev RD:=@List.set_cons_zero
abbrev Tg:=@List.dropLast_concat
abbrev XU:=@PySem.F.plainAttrs_list
abbrev RE:=@List.ext_getElem?
abbrev YF:=@PyProof.Rows.callWith_type1
abbrev N3:=@PySem.PassesOwn.never
abbrev NH:=@Bool.not_true
abbrev NI:=@Bool.and_self
abbrev RF:=@List.cons_append
abbrev Th:=@PySem.Calls.spliced_cons
abbrev N4:=@List.nodup_nil
abbrev YG:=@Classical.byContradiction
abbrev Ti:=@List.append_assoc
abbrev Tj:=@Nat.lt_succ_of_lt
abbrev N5:=@Nat.lt_irrefl
abbrev YH:=@List.filter_cons_of_pos
abbrev YI:=@PySem.F.args_dict_get_3
abbrev YJ:=@PySem.F.plainAttrs_dict
abbrev XW:=@List.length_pos_iff
abbrev Tn:=@List.all_eq_true
abbrev YK:=@PySem.Calls.callWith_builtin
abbrev YL:=@Option.map_eq_some_iff
abbrev YM:=@PySem.F.entry_dict_get
abbrev N6:=@List.map_nil
abbrev To:=@PySem.W.kia_one
abbrev Tp:=@List.length_zip
abbrev RG:=@List.any_cons
abbrev abN:=@PySem.F.slot_tuple_iterator_next
abbrev YN:=@List.getElem?_mapIdx
abbrev YO:=@List.getElem?_zipIdx
abbrev RH:=@Nat.ne_of_gt
abbrev XY:=@List.getElem_mem
abbrev RJ:=@Nat.min_self
abbrev XZ:=@Option.bind_some
abbrev YQ:=@List.map_congr_left
abbrev abV:=@PyProof.Rows.slot_tuple_getitem
abbrev abW:=@List.getElem?_cons_zero
abbrev Tq:=@PySem.Paired.length
abbrev X0:=@List.mem_filter
abbrev X1:=@List.nil_append
abbrev X2:=@Option.map_some
abbrev X3:=@List.length_nil
abbrev YR:=@List.getElem?_set
abbrev ab3:=@Bool.beq_eq_decide_eq
abbrev ab4:=@PySem.F.slot_list_pop
abbrev ab5:=@PySem.F.type_list_pop
abbrev ab6:=@List.take_append_drop
abbrev Tr:=@Nat.sub_self
abbrev YS:=@List.length_drop
abbrev ab9:=@PySem.Calls.evalArgs_plain
abbrev aca:=@PySem.F.slot_NoneType_hash
abbrev acb:=@List.getD_eq_getElem?_getD
abbrev YT:=@Bool.eq_iff_iff
abbrev ace:=@List.drop_eq_getElem_cons
abbrev YU:=@Nat.min_eq_left
abbrev acg:=@List.mem_filterMap
abbrev ach:=@PySem.W.callWith_K
abbrev aci:=@PySem.F.args_tuple_add_2
abbrev acj:=@Nat.lt_of_le_of_lt
abbrev ack:=@List.filter_append
abbrev X4:=@Int.zero_add
abbrev YV:=@Bool.false_and
abbrev YW:=@PySem.Heap.size_push
abbrev acp:=@PySem.F.entry_tuple_add
abbrev acq:=@List.filter_cons_of_neg
abbrev X5:=@Nat.le_succ
abbrev acs:=@PySem.F.slot_tuple_add
abbrev acu:=@List.zipWith_cons_cons
abbrev YX:=@Bool.true_and
abbrev acw:=@Option.getD_some
namespace L2
open PySem PySem.Spec PyProof.Rows
abbrev Key:=Sum Int Str
def vA:Key->Value->Bool
 |.inl k,v=>Value.isInt k v
 |.inr x,v=>Value.isStrOf x v
def ae5(w:World):Key->Int
 |.inl k=>hashInt k
 |.inr x=>hashStr w x
theorem cD:∀{k:Key}{v:Value},vA k v=true->(∃i t,k=Sum.inl i/\v=Value.int i t)\/(∃x t,k=Sum.inr x/\v=Value.str x t)
 |.inl i,v,h=>by obtain⟨t,e⟩:=Value.isInt_shape (k:=i) (v:=v) h;exact .inl ⟨i,t,rfl,e⟩
 |.inr x,v,h=>by obtain⟨t,e⟩:=Value.isStrOf_shape (x:=x) (v:=v) h;exact .inr ⟨x,t,rfl,e⟩
theorem FH(i:Int)(t:Tok):vA (.inl i) (.int i t)=true:=by simp[vA,Value.isInt]
theorem FJ(x:Str)(t:Tok):vA (.inr x) (.str x t)=true:=by simp[vA,Value.isStrOf]
theorem Ts(a b:Int):decide ((Sum.inl a:Key)=Sum.inl b)=(a==b):=by by_cases e:a=b;subst e;simp;have h:¬ (Sum.inl a:Key)=Sum.inl b:=λq=>e (Sum.inl.inj q);rw[decide_eq_false h];exact (beq_eq_false_iff_ne.mpr e).symm
theorem Tt(a b:Str):decide ((Sum.inr a:Key)=Sum.inr b)=decide (a=b):=by by_cases e:a=b;subst e;simp;have h:¬ (Sum.inr a:Key)=Sum.inr b:=λq=>e (Sum.inr.inj q);rw[decide_eq_false h,decide_eq_false e]
theorem Tu(a:Int)(b:Str):decide ((Sum.inl a:Key)=Sum.inr b)=false:=decide_eq_false (λq=>nomatch q)
theorem Tv(a:Str)(b:Int):decide ((Sum.inr a:Key)=Sum.inl b)=false:=decide_eq_false (λq=>nomatch q)
def aX(prog:Program)(w:World):PySem.KeyKind prog w Key where
 is:=vA
 hash:=ae5 w
 inj:=λv a b ha hb=>by
  rcases cD ha with⟨i,t,rfl,rfl⟩|⟨x,t,rfl,rfl⟩
  rcases cD hb with⟨j,u,rfl,e⟩|⟨y,u,rfl,e⟩
  injection e with e1 _;rw[e1]
  exact nomatch e;rcases cD hb with⟨j,u,rfl,e⟩|⟨y,u,rfl,e⟩
  exact nomatch e;injection e with e1 _;rw[e1]
 byValue:=λk v h=>by rcases cD h with⟨i,t,rfl,rfl⟩|⟨x,t,rfl,rfl⟩<;>rfl
 pyHash:=λhv h=>by
  rcases cD hv with⟨i,t,rfl,rfl⟩|⟨x,t,rfl,rfl⟩
  exact wpAny_pyHash_int h;exact wpAny_pyHash_str h
 eqBool:=λhu hv h=>by
  rcases cD hu with⟨i,t,rfl,rfl⟩|⟨x,t,rfl,rfl⟩
  rcases cD hv with⟨j,u,rfl,rfl⟩|⟨y,u,rfl,rfl⟩
  rw[Ts] at h;exact wpAny_eqBool_int h;rw[Tu] at h;exact SeqAt.EqAt.int_str i t y u _ _ _ _ h;rcases cD hv with⟨j,u,rfl,rfl⟩|⟨y,u,rfl,rfl⟩
  rw[Tv] at h;exact SeqAt.EqAt.str_int x t j u _ _ _ _ h;rw[Tt] at h;exact wpAny_eqBool_str h
 «strs»:=λk x t v h=>by
  rcases cD h with⟨i,u,rfl,e⟩|⟨y,u,rfl,e⟩
  exact nomatch e;injection e with e1 _
  subst e1;cases v<;>rfl
theorem y6(prog:Program)(w:World)(i:Int)(t:Tok):(aX prog w).is (.inl i) (.int i t)=true:=FH i t
theorem y7(prog:Program)(w:World)(x:Str)(t:Tok):(aX prog w).is (.inr x) (.str x t)=true:=FJ x t
inductive V where
 |aP|bl (b:Bool)|int (i:Int)|str (x:Str)|byt (b:Array UInt8)|X6 (b:UInt64)|ref (a:Addr)|ty (n:String)
 deriving DecidableEq
def RelV:V->Value->Prop
 |.aP,u=>u=Value.none
 |.bl b,u=>u=Value.bool b
 |.int i,u=>∃t,u=Value.int i t
 |.str x,u=>∃t,u=Value.str x t
 |.byt b,u=>∃t,u=Value.bytes b t
 |.X6 b,u=>∃t,u=Value.float b t
 |.ref a,u=>u=Value.ref a
 |.ty n,u=>u=Value.type n
abbrev Vals:List V->qag->Prop:=Paired RelV
theorem Vals.length{xs:List V}{us:qag}(r:Vals xs us):xs.length=us.length:=Tq r
theorem Vals.get:∀{xs:List V}{us:qag}{i:Nat}{x:V},Vals xs us->xs[i]?=some x->∃u,us[i]?=some u/\RelV x u
 |_,_,_,_,.nil,e=>by simp at e
 |_,_,0,_,.cons r _,e=>by simp at e;subst e;exact⟨_,rfl,r⟩
 |_,_,i+1,x,.cons _ t,e=>by obtain⟨u,h1,h2⟩:=Vals.get (i:=i) (x:=x) t (by simpa using e);exact⟨u,by simpa using h1,h2⟩
theorem Vals.set{x:V}{u:Value}(r:RelV x u):∀{xs:List V}{us:qag}(i:Nat),Vals xs us->Vals (xs.set i x) (us.set i u)
 |_,_,_,.nil=>.nil
 |_,_,0,.cons _ t=>.cons r t
 |_,_,i+1,.cons q t=>.cons q (Vals.set r i t)
theorem Vals.append:∀{xs ys:List V}{us ws:qag},Vals xs us->Vals ys ws->Vals (xs++ys) (us++ws)
 |_,_,_,_,.nil,s=>s
 |_,_,_,_,.cons r t,s=>.cons r (Vals.append t s)
theorem Vals.take:∀{xs:List V}{us:qag}(n:Nat),Vals xs us->Vals (xs.take n) (us.take n)
 |_,_,0,_=>.nil
 |_,_,_+1,.nil=>.nil
 |_,_,n+1,.cons r t=>.cons r (Vals.take n t)
theorem Vals.drop:∀{xs:List V}{us:qag}(n:Nat),Vals xs us->Vals (xs.drop n) (us.drop n)
 |_,_,0,r=>r
 |_,_,_+1,.nil=>.nil
 |_,_,n+1,.cons _ t=>Vals.drop n t
def lx:Option V->Option Value->Prop
 |some v,some u=>RelV v u
 |none,none=>True
 |_,_=>False
def KV{κ:Type}:List (κ×V)->List (κ×Value)->Prop:=Paired λ(p:κ×V) (q:κ×Value)=>p.1=q.1/\RelV p.2 q.2
def kV:Key->V
 |.inl i=>.int i
 |.inr x=>.str x
inductive HO where
 |lst (xs:List V)
 |tup (xs:List V)
 |dK (a_:List (Key×V))|dT (a_:List (List Key×V))
 |set (S:Int->Bool) (n:Nat)
 |ins (C dx:Addr) (fs:List (Str×V))
 |own (x:Addr)
 |xd (fs:List (Str×V))
 |met (f x:Addr)
 |rng (lo hi:Int)
 |y8 (o:Obj) (u:HO)
 |Tw (ps:Array Value)
 |ext (φ:Heap->Prop)
abbrev Hp:=Addr->Option HO
def upd(H:Hp)(a:Addr)(o:HO):Hp:=λb=>if b=a then some o else H b
theorem aH{H:Hp}{o:HO}:upd H a o a=some o:=by unfold upd;rw[if_pos rfl]
theorem aE{H:Hp}{b:Addr}{o:HO}(h:b≠a):upd H a o b=H b:=by unfold upd;rw[if_neg h]
theorem IW{H:Hp}{b:Addr}{o u:HO}(h:H a=some o)(h':H b=some u)(d:o≠u):a≠b:=by intro e;subst e;rw[h] at h';exact d (Option.some.inj h')
theorem bo{H:Hp}{b:Addr}{o:HO}(h:H a=some o)(h':H b=none):a≠b:=by intro e;subst e;rw[h] at h';cases h'
section
variable(P:Program)(w:World)
def cH(H:Hp)(h:Heap)(a:Addr):HO->Prop
 |.lst xs=>xs.length<=sizeLine/\∃(a4:qag)(n:Nat),Vals xs a4/\h.get? a=some {cls:=.type "list",data:=.seq a4.toArray n}
 |.tup xs=>xs.length<=sizeLine/\∃a4:qag,Vals xs a4/\IsTup h a a4.toArray
 |.dK a_=>a_.length<=sizeLine/\(a==sysModules)=false/\∃vs,KV a_ vs/\h.DictOf (aX P w) a vs
 |.dT a_=>a_.length<=sizeLine/\(a==sysModules)=false/\∃xs:List (List Key×Addr×Value),
  Paired (λ(p:List Key×V) (q:List Key×Addr×Value)=>p.1=q.1/\H q.2.1=some (.tup (p.1.map kV))/\RelV p.2 q.2.2) a_ xs /\
  ∃o es ep,h.get? a=some o/\o.ExactDict/\o.data=.dict es ep/\es.toList=xs.map (entryOfKey (tupleKind (aX P w)))/\(xs.map (·.1)).Nodup
 |.set S n=>h.SetOf (intKind P w) a S n
 |.ins C dx fs=>H dx=some (.own a)/\fs.length<=1000/\dx≠a/\h.get? a=some (PySem.W.instObj C dx) /\
  ∃mA,h.Ns1 dx mA/\(∀f,lx (fs.lookup f) (mA f))/\PySem.Within mA (fs.map (·.1))
 |.own _=>∃o,h.get? a=some o
 |.xd fs=>∃mA,h.Ns1 a mA/\∀f,lx (fs.lookup f) (mA f)
 |.rng lo hi=>∃t u v,h.get? a=some {cls:=.type "range",data:=.fields #[.int lo t,.int hi u,.int 1 v]}
 |.y8 o u=>h.get? a=some o/\cH H h a u
 |.Tw ps=>h.get? a=some {cls:=.none,data:=.fields ps}
 |.met f x=>h.get? a=some (PySem.W.methodObj (.ref f) (.ref x))
 |.ext φ=>φ h/\(∃o,h.get? a=some o)/\∀h1 h2:Heap,φ h1->(∀o,h1.get? a=some o->h2.get? a=some o)->φ h2
def mY(H:Hp)(h:Heap):Prop:=∀a o,H a=some o->cH P w H h a o
end
section
variable{H H':Hp}{o:HO}
theorem cH.lt(x:cH P w H h a o):a<h.objs.size:=by
 cases o with
 |lst xs=>obtain⟨_,_,_,_,e⟩:=x;exact jE e
 |tup xs=>obtain⟨_,_,_,p⟩:=x;exact p.lt
 |dK a_=>obtain⟨_,_,_,_,o,_,_,e,_⟩:=x;exact jE e
 |dT a_=>obtain⟨_,_,_,_,o,_,_,e,_⟩:=x;exact jE e
 |set S n=>obtain⟨o,_,_,_,e,_⟩:=x;exact jE e
 |ins C dx fs=>obtain⟨_,_,_,e,_⟩:=x;exact jE e
 |own y=>obtain⟨_,e⟩:=x;exact jE e
 |xd fs=>obtain⟨_,⟨_,_,_,e,_⟩,_⟩:=x;exact jE e
 |rng lo hi=>obtain⟨_,_,_,e⟩:=x;exact jE e
 |y8 ob u=>obtain⟨e,_⟩:=x;exact jE e
 |Tw ps=>exact jE (show h.get? a=some _ from x)
 |met f y=>exact jE (show h.get? a=some _ from x)
 |ext φ=>obtain⟨_,⟨_,e⟩,_⟩:=x;exact jE e
theorem Paired.oj{α β:Type}{F G:α->β->Prop}:∀{l₁:List α}{l₂:List β},Paired F l₁ l₂->(∀a b,F a b->G a b)->Paired G l₁ l₂
 |_,_,.nil,_=>.nil
 |_,_,.cons r t,f=>.cons (f _ _ r) (Paired.oj t f)
theorem cH.FK(x:cH P w H h a o)(k:∀b u,(b=a\/H b=some (.own a))->h.get? b=some u->h'.get? b=some u)(ho:∀b,H b=some (.own a)->H' b=some (.own a))(ht:∀b xs,H b=some (.tup xs)->H' b=some (.tup xs)):cH P w H' h' a o:=by
 induction o with
 |lst xs=>obtain⟨z,a4,n,r,e⟩:=x;exact⟨z,a4,n,r,k _ _ (.inl rfl) e⟩
 |tup xs=>obtain⟨z,a4,r,ob,e,c⟩:=x;exact⟨z,a4,r,ob,k _ _ (.inl rfl) e,c⟩
 |dK a_=>obtain⟨z,y,vs,r,ob,es,ep,e,c⟩:=x;exact⟨z,y,vs,r,ob,es,ep,k _ _ (.inl rfl) e,c⟩
 |dT a_=>obtain⟨z,y,xs,r,ob,es,ep,e,c⟩:=x;exact⟨z,y,xs,Paired.oj r λp q z=>⟨z.1,ht _ _ z.2.1,z.2.2⟩,ob,es,ep,k _ _ (.inl rfl) e,c⟩
 |set S n=>obtain⟨ob,es,ep,t,e,c⟩:=x;exact⟨ob,es,ep,t,k _ _ (.inl rfl) e,c⟩
 |ins C dx fs=>obtain⟨d,z,ne,e,mA,⟨od,es,ep,e2,c⟩,r⟩:=x;exact⟨ho _ d,z,ne,k _ _ (.inl rfl) e,mA,⟨od,es,ep,k _ _ (.inr d) e2,c⟩,r⟩
 |own y=>obtain⟨ob,e⟩:=x;exact⟨ob,k _ _ (.inl rfl) e⟩
 |xd fs=>obtain⟨mA,⟨od,es,ep,e,c⟩,r⟩:=x;exact⟨mA,⟨od,es,ep,k _ _ (.inl rfl) e,c⟩,r⟩
 |rng lo hi=>obtain⟨t,u,v,e⟩:=x;exact⟨t,u,v,k _ _ (.inl rfl) e⟩
 |y8 ob u ih=>obtain⟨e,q⟩:=x;exact⟨k _ _ (.inl rfl) e,ih q⟩
 |Tw ps=>have e:h.get? a=some {cls:=.none,data:=.fields ps}:=x;show h'.get? a=some {cls:=.none,data:=.fields ps};exact k a _ (.inl rfl) e
 |met f y=>have e:h.get? a=some (PySem.W.methodObj (.ref f) (.ref y)):=x;show h'.get? a=some (PySem.W.methodObj (.ref f) (.ref y));exact k a _ (.inl rfl) e
 |ext φ=>obtain⟨p,⟨o,e⟩,st⟩:=x;exact⟨st _ _ p λo q=>k _ _ (.inl rfl) q,⟨o,k _ _ (.inl rfl) e⟩,st⟩
theorem mY.lt(x:mY P w H h)(e:H a=some o):a<h.objs.size:=(x a o e).lt
theorem mY.fresh(x:mY P w H h)(e:h.objs.size<=a):H a=none:=by
 cases q:H a with
 |none=>rfl
 |some u=>exact absurd (yU (x.lt q) e) (N5 _)
theorem mY.kept(x:mY P w H h)(k:∀b u,h.get? b=some u->h'.get? b=some u):mY P w H h':=λa o e=>
 (x a o e).FK (λb u _ q=>k b u q) (λ_ q=>q) λ_ _ q=>q
theorem mY.laid(x:mY P w H h)(k:∀b u,h.get? b=some u->h'.get? b=some u)(hp:h.objs.size<=a)(new:cH P w (upd H a o) h' a o):mY P w (upd H a o) h':=λb u e=>by have hn:=x.fresh hp;by_cases hb:b=a;subst hb;rw[aH] at e;cases e;exact new;rw[aE hb] at e;exact (x b u e).FK (λc v _ q=>k c v q) (λc q=>by rw[aE (bo q hn)];exact q) λc xs q=>by rw[aE (bo q hn)];exact q
end
def Rd(H:Hp)(a:Addr)(u:HO):Prop:=H a=some u\/∃o,H a=some (.y8 o u)
theorem Rd.ok{H:Hp}{u:HO}(r:Rd H a u)(x:mY P w H h):cH P w H h a u:=by
 obtain r|⟨o,r⟩:=r
 exact x a u r;obtain⟨_,q⟩:=x a _ r;exact q
def YY:Option HO->Prop
 |some (.lst _)=>True
 |some (.dK _)=>True
 |some (.dT _)=>True
 |some (.set _ _)=>True
 |some (.ins _ _ _)=>True
 |some (.ext _)=>True
 |_=>False
section
variable{H:Hp}{x e:Addr}{o':HO}
theorem mY.write(ok:mY P w H h)(mu:YY (H x))(he:e=x\/H e=some (.own x))(k:∀b u,b≠e->h.get? b=some u->h'.get? b=some u)(NJ:∃u,h'.get? e=some u)(new:cH P w (upd H x o') h' x o'):mY P w (upd H x o') h':=λb u q=>by
 have YZ:∀c y,H c=some (.own y)->c≠x:=λc y r z=>by subst z;rw[r] at mu;exact mu
 have ae6:∀c xs,H c=some (.tup xs)->c≠x:=λc xs r z=>by subst z;rw[r] at mu;exact mu
 by_cases hb:b=x;subst hb;rw[aH] at q;cases q;exact new;rw[aE hb] at q;by_cases FQ:b=e;have q':H b=some (.own x):=by
  obtain z|z:=he
  exact absurd (FQ.trans z) hb;rw[FQ];exact z
 rw[q] at q';cases q';obtain⟨v,hv⟩:=NJ;exact⟨v,by rw[FQ];exact hv⟩;refine (ok b u q).FK (λc v hc r=>k c v ?_ r) (λc r=>by rw[aE (YZ c b r)];exact r) λc xs r=>by rw[aE (ae6 c xs r)];exact r
 obtain rfl|hc:=hc
 exact FQ;rintro rfl;obtain z|z:=he
 exact YZ c b hc z;rw[hc] at z;cases z;exact hb rfl
end
structure Un(fs ex:qah)(H H':Hp)(h h':Heap):Prop where
 keep:∀b o,h.get? b=some o->H b=none->b∉fs->b∉ex->h'.get? b=some o
 slot:∀b o,h.get? b=some o->H b=none->b∈fs->b∉ex->∃sl,h'.get? b=some {o with slots:=sl}
 free:∀b o,h.get? b=some o->H b=none->b∉ex->H' b=none
 there:∀b o,h.get? b=some o->b∉ex->∃o',h'.get? b=some o'
 y9:∀b xs,H b=some (.tup xs)->H' b=some (.tup xs)
 wD:∀b o u,H b=some (.y8 o u)->H' b=some (.y8 o u)
 y_:∀b ps,H b=some (.Tw ps)->∃more,H' b=some (.Tw (ps++more))
section
variable{fs fs' ex ex':qah}{H H1 H2:Hp}{h1 h2:Heap}{x e:Addr}{o:HO}
theorem Un.any(u:Un fs ex H H1 h h1){b:Addr}{ob:Obj}(q:h.get? b=some ob)(n:H b=none)(hx:b∉ex):∃sl,h1.get? b=some {ob with slots:=sl}:=by by_cases hb:b∈fs;exact u.slot b ob q n hb hx;exact⟨ob.slots,u.keep b ob q n hb hx⟩
theorem Un.kept(k:∀b u,h.get? b=some u->h'.get? b=some u):Un fs ex H H h h' :=
 ⟨λb ob q _ _ _=>k b ob q,λb ob q _ _ _=>⟨ob.slots,k b ob q⟩,λ_ _ _ n _=>n,λb ob q _=>⟨ob,k b ob q⟩,λ_ _ q=>q,λ_ _ _ q=>q,λ_ ps q=>⟨#[],by rw[q];simp⟩⟩
theorem Un.refl:Un fs ex H H h h:=Un.kept λ_ _ q=>q
theorem Un.laid(k:∀b u,h.get? b=some u->h'.get? b=some u)(hp:h.objs.size<=a)(hn:H a=none):Un fs ex H (upd H a o) h h' where
 keep:=λb u q _ _ _=>k b u q
 slot:=λb u q _ _ _=>⟨u.slots,k b u q⟩
 free:=λb u q n _=>by rw[aE (pJ (yU (jE q) hp))];exact n
 there:=λb u q _=>⟨u,k b u q⟩
 y9:=λb xs q=>by rw[aE (bo q hn)];exact q
 wD:=λb u xs q=>by rw[aE (bo q hn)];exact q
 y_:=λb ps q=>⟨#[],by rw[aE (bo q hn),q];simp⟩
theorem Un.write(mu:YY (H x))(he:e=x\/H e=some (.own x))(k:∀b u,b≠e->h.get? b=some u->h'.get? b=some u)(NJ:∃u,h'.get? e=some u):Un fs ex H (upd H x o) h h':=by
 have hx:∀b,H b=none->b≠x:=λb n z=>by subst z;rw[n] at mu;exact mu
 have hb:∀b,H b=none->b≠e:=λb n z=>by
  subst z;obtain r|r:=he
  exact hx b n r;rw[n] at r;cases r
 have hm:∀b u,H b=some u->¬ YY (some u)->b≠x:=λb u q nm z=>by subst z;rw[q] at mu;exact nm mu
 refine⟨λb u q n _ _=>k b u (hb b n) q,λb u q n _ _=>⟨u.slots,k b u (hb b n) q⟩,λb u q n _=>by rw[aE (hx b n)];exact n,λb u q _=>?_,
  λb xs q=>by rw[aE (hm b _ q λz=>z)];exact q,λb u xs q=>by rw[aE (hm b _ q λz=>z)];exact q,λb ps q=>⟨#[],by rw[aE (hm b _ q λz=>z),q];simp⟩⟩
 by_cases FQ:b=e;subst FQ;exact NJ;exact⟨u,k b u FQ q⟩
end
def trk(h:Heap)(H:Hp):qah:=(List.range h.objs.size).filter λa=>(H a).isSome
def wF(h:Heap)(H:Hp):Heap:=PySem.W.hideAll h (trk h H)
theorem FR(h:Heap)(H:Hp):(wF h H).objs.size=h.objs.size:=PySem.W.hideAll_size _ _
theorem IX{H:Hp}{b:Addr}{o:Obj}(e:h.get? b=some o)(n:H b=none):(wF h H).get? b=some o :=
 PySem.W.hideAll_get _ e λhm=>by have q:(H b).isSome=true:=(X0.mp hm).2;rw[n] at q;simp at q
theorem N7{H:Hp}{b:Addr}{o:Obj}(e:(wF h H).get? b=some o):h.get? b=some o/\H b=none:=by
 have e':h.get? b=some o:=PySem.W.of_hideAll (trk h H) e;refine⟨e',?_⟩;cases q:H b with
 |none=>rfl
 |some x=>have hm:b∈trk h H:=X0.mpr ⟨Ef.mpr (jE e'),by simp[q]⟩;have z:(wF h H).get? b=none:=PySem.W.hideAll_none (trk h H) hm;rw[z] at e;cases e
def N8(g h:Heap)(L:Addr):qaa:=(List.range h.objs.size).filterMap λa=>if a=L\/(g.get? a).isSome=true then none else (h.get? a).map λo=>(a,o)
def rest(g h:Heap)(L d:Addr):qaa:=(N8 g h L).filter λp=>decide (p.1≠d)
structure Mod(K:qaf)(mg:qae)(base:Heap):Prop where
 X7:K.In base
 glob:base.Ns mainGlobals mg
 blt:∃mb,base.Ns builtinsNs mb/\∀x:Str,x≠"__name__"->mb x=bootBuiltins x
 nolimit:base.NoLimit
structure Cx where
 prog:Program
 w:World
 K:qaf
 mg:qae
 base:Heap
 A:Around
 N:qai
 s₀:Shared
 H₀:Hp
 env:Env
 outer:List Env
 stack:List Env
 ex:qah
 fn:Str->Bool
 calm:Bool
 pn:qaa
 xe:qad
def IF(l:List Env):qah:=l.filterMap (·.frame)
abbrev Cx.fs(X:Cx):qah:=IF X.outer
def mZ(sc:Scope)(x:Str):Prop:=sc.names.lookup x=some .local\/sc.names.lookup x=some .cell\/sc.names.lookup x=some .free
def Loc(sc:Scope)(x:Str):Prop:=sc.names.lookup x=some .local\/sc.names.lookup x=some .cell
def Look(env:Env)(h:Heap)(m:qae)(x:Str)(u:Value):Prop :=
 (env.kindOf x=some .local/\m x=some u)\/((env.kindOf x=some .cell\/env.kindOf x=some .free)/\∃c,env.cells.lookup x=some c/\h.IsCell c (some u))
structure Cx.Ok(X:Cx):Prop where
 mod:Mod X.K X.mg X.base
 kind:X.env.scope.kind=.function
 glob:X.env.globals=mainGlobals
 blt:X.env.builtins=builtinsNs
 above:X.s₀.heap.objs.size<=X.env.locals
 inj:∀x y c,X.env.cells.lookup x=some c->X.env.cells.lookup y=some c->x=y
 has:∀x,(X.env.kindOf x=some .cell\/X.env.kindOf x=some .free)->∃c,X.env.cells.lookup x=some c
 Tx:∀x c,X.fn x=true->X.env.cells.lookup x=some c->X.s₀.heap.objs.size<=c
 hd:X.calm=true->X.A.handled=none
 frames:X.A.frames=some X.stack
 X8:X.stack=X.outer\/(X.stack=X.env::X.outer/\X.env.frame=some X.env.locals)
 exf:∀b∈X.ex,b≠X.env.locals/\∀x c,X.env.cells.lookup x=some c->c≠b
 bs:∀b o,X.base.get? b=some o->X.s₀.heap.get? b=some o/\X.H₀ b=none
 IG:X.base.objs.size<=X.s₀.heap.objs.size
 BH:∀b o,X.base.get? b=some o->b∉X.ex
 FT:∀b∈X.ex,b∉X.fs
 m_:X.s₀.heap.FunFrames X.base X.outer
 N9:∀b∈X.fs,X.H₀ b=none
structure Inv(X:Cx)(pins:qaa)(σ:List (Option V))(H:Hp)(s:Shared):Prop where
 ok:X.Ok
 os:s.os=X.s₀.os
 bare:AllBare s.gens
 base:Un X.fs X.ex X.H₀ H X.s₀.heap s.heap
 loc:∃m,s.heap.Ns X.env.locals m/\∀(i:Nat)(x:Str)(v:V),X.N[i]?=some x->σ[i]?=some (some v)->mZ X.env.scope x->∃u,RelV v u/\Look X.env s.heap m x u
 cell:∀x c,X.env.cells.lookup x=some c->∃v,s.heap.IsCell c v
 free:H X.env.locals=none
 iW:∀x c,X.env.cells.lookup x=some c->H c=none
 pin:∀p∈X.pn++pins,s.heap.get? p.1=some p.2/\H p.1=none/\p.1≠X.env.locals/\p.1∉X.fs/\∀v,p.2.data≠.cell v
 cx:mY X.prog X.w H s.heap
 len:σ.length=X.N.length
section
variable{X:Cx}{pins:qaa}{σ:List (Option V)}{H H':Hp}{s:Shared}
theorem Cx.Ok.ae7(ok:X.Ok){b:Addr}{o:Obj}(e:X.base.get? b=some o):b∉X.fs:=λhb=>by have:=(ok.m_.mem hb).1;rw[e] at this;cases this
theorem Inv.bs(I:Inv X pins σ H s):∀b o,X.base.get? b=some o->s.heap.get? b=some o/\H b=none:=λb o e=>
 ⟨I.base.keep b o (I.ok.bs b o e).1 (I.ok.bs b o e).2 (I.ok.ae7 e) (I.ok.BH b o e),I.base.free b o (I.ok.bs b o e).1 (I.ok.bs b o e).2 (I.ok.BH b o e)⟩
theorem Inv.bk(I:Inv X pins σ H s):∀b o,X.base.get? b=some o->s.heap.get? b=some o:=λb o e=>(I.bs b o e).1
theorem Inv.mod(I:Inv X pins σ H s):Mod X.K X.mg X.base:=I.ok.mod
theorem Inv.ue(I:Inv X pins σ H s):X.K.In s.heap:=I.ok.mod.X7.keeps I.bk
theorem Inv.fr(I:Inv X pins σ H s):∃m,Fr X.base X.env.locals s.heap m :=
 let ⟨m,hn,_⟩:=I.loc
 ⟨m,hn,I.bk,mX I.ok.IG I.ok.above⟩
theorem Inv.lt(I:Inv X pins σ H s):X.env.locals<s.heap.objs.size:=let ⟨_,hn,_⟩:=I.loc;hn.lt
theorem Inv.sz(I:Inv X pins σ H s):X.s₀.heap.objs.size<=s.heap.objs.size:=mX I.ok.above (Nat.le_of_lt I.lt)
theorem Inv.ae8(I:Inv X pins σ H s)(h:s.heap.objs.size<=a):a∉X.fs:=λhb=>by obtain⟨_,o,ho,_⟩:=I.ok.m_.mem hb;exact absurd (yU (jE ho) (mX I.sz h)) (N5 _)
theorem Inv.N_(I:Inv X pins σ H s):∀x c,X.env.cells.lookup x=some c->c≠X.env.locals:=λx c e z=>by obtain⟨v,o,ho,hd⟩:=I.cell x c e;obtain⟨m,⟨o',es,ep,jP,IH,_⟩,_⟩:=I.loc;rw[z,jP] at ho;cases ho;rw[IH] at hd;cases hd
theorem Inv.m_(I:Inv X pins σ H s):s.heap.FunFrames X.base X.outer:=by
 have all:∀(l:List Env),(∀b∈IF l,b∈X.fs)->X.s₀.heap.FunFrames X.base l->s.heap.FunFrames X.base l:=by
  intro l;induction l with
  |nil=>intro _ _;trivial
  |cons env r ih=>intro hs hl;obtain⟨hk,⟨L,o,hf,hn,ho,hd⟩,hr⟩:=hl;have hL:L∈X.fs:=hs L (by unfold IF;rw[oh,hf];exact dP);obtain⟨sl,e⟩:=I.base.slot L o ho (I.ok.N9 L hL) hL λz=>I.ok.FT L z hL;exact⟨hk,⟨L,_,hf,hn,e,hd⟩,ih (λb hb=>hs b (by unfold IF;rw[oh,hf];exact ic _ hb)) hr⟩
 exact all X.outer (λ_ hb=>hb) I.ok.m_
theorem Inv.stack(I:Inv X pins σ H s):s.heap.FunFrames X.base X.stack:=by
 obtain e|⟨e,hf⟩:=I.ok.X8
 rw[e];exact I.m_;rw[e];obtain⟨m,hn,_⟩:=I.loc;refine .cons (by rw[I.ok.kind];decide) hf hn ?_ I.m_;exact Heap.get?_none_of_le (mX I.ok.IG I.ok.above)
theorem Inv.BI(I:Inv X pins σ H s):∀b∈IF X.stack,b∈X.env.locals::X.fs:=λb hb=>by
 obtain e|⟨e,hf⟩:=I.ok.X8
 rw[e] at hb;exact ic _ hb;rw[e] at hb;unfold IF at hb;rw[oh,hf] at hb;exact hb
theorem Inv.Eh(I:Inv X pins σ H s):∀b∈IF X.stack,H b=none:=λb hb=>by
 rcases c4.mp (I.BI b hb) with e|hb
 rw[e];exact I.free;obtain⟨_,o,ho,_⟩:=I.ok.m_.mem hb;exact I.base.free b o ho (I.ok.N9 b hb) λz=>I.ok.FT b z hb
theorem Inv.step{g':Array GenState}{d':Drawn}{ch:qah}(I:Inv X pins σ H s)(NL:∀b∈ch,(b∈X.ex\/X.s₀.heap.objs.size<=b)/\b≠X.env.locals/\(∀x c,X.env.cells.lookup x=some c->c≠b)/\∀p∈X.pn++pins,p.1≠b)(keep:∀b o,b≠X.env.locals->b∉X.fs->b∉ch->s.heap.get? b=some o->H b=none->h'.get? b=some o)(slot:∀b o,b≠X.env.locals->b∈X.fs->b∉ch->s.heap.get? b=some o->H b=none->∃sl,h'.get? b=some {o with slots:=sl})(free:∀b o,b∉ch->s.heap.get? b=some o->H b=none->H' b=none)(there:∀b o,b∉ch->s.heap.get? b=some o->∃o',h'.get? b=some o')(y9:∀b xs,H b=some (.tup xs)->H' b=some (.tup xs))(wD:∀b o u,H b=some (.y8 o u)->H' b=some (.y8 o u))(y_:∀b ps,H b=some (.Tw ps)->∃more,H' b=some (.Tw (ps++more)))(ns:∀m,s.heap.Ns X.env.locals m->h'.Ns X.env.locals m)(cx:mY X.prog X.w H' h')(hg:AllBare g') :
  Inv X pins σ H' {s with heap:=h',gens:=g',drawn:=d',toks:=t'}:=by
 have neL:∀b o,X.s₀.heap.get? b=some o->b≠X.env.locals:=λb o e=>pJ (yU (jE e) I.ok.above);have neC:∀b o,X.s₀.heap.get? b=some o->b∉X.ex->b∉ch:=λb o e hx hb=>by
  rcases (NL b hb).1 with z|z
  exact hx z;exact absurd (yU (jE e) z) (N5 _)
 have cellK:∀x c,X.env.cells.lookup x=some c->∀v,s.heap.IsCell c v->h'.IsCell c v:=λx c e v ⟨o,ho,hd⟩=>by have RL:c∉ch:=λz=>(NL c z).2.2.1 x c e rfl;by_cases hc:c∈X.fs;obtain⟨sl,q⟩:=slot c o (I.N_ x c e) hc RL ho (I.iW x c e);exact⟨_,q,hd⟩;exact⟨o,keep c o (I.N_ x c e) hc RL ho (I.iW x c e),hd⟩
 refine⟨I.ok,I.os,hg,⟨λb o e n hb hx=>?_,λb o e n hb hx=>?_,λb o e n hx=>?_,λb o e hx=>?_,λb xs e=>y9 b xs (I.base.y9 b xs e),λb o xs e=>wD b o xs (I.base.wD b o xs e),λb ps e=>?_⟩,?_,λx c e=>?_,?_,λx c e=>?_,λp hp=>?_,cx,I.len⟩;exact keep b o (neL b o e) hb (neC b o e hx) (I.base.keep b o e n hb hx) (I.base.free b o e n hx);obtain⟨sl,e1⟩:=I.base.slot b o e n hb hx;obtain⟨sl',e2⟩:=slot b _ (neL b o e) hb (neC b o e hx) e1 (I.base.free b o e n hx);exact⟨sl',e2⟩;obtain⟨o',e1⟩:=I.base.there b o e hx;exact free b o' (neC b o e hx) e1 (I.base.free b o e n hx);obtain⟨o',e1⟩:=I.base.there b o e hx;exact there b o' (neC b o e hx) e1;obtain⟨m1,e1⟩:=I.base.y_ b ps e;obtain⟨m2,e2⟩:=y_ b _ e1;exact⟨m1++m2,by rw[e2,Array.append_assoc]⟩;obtain⟨m,hn,hl⟩:=I.loc;refine⟨m,ns m hn,λi x v e1 e2 e3=>?_⟩;obtain⟨u,r,l⟩:=hl i x v e1 e2 e3;refine⟨u,r,?_⟩;obtain l|⟨k,c,e,z⟩:=l
 exact .inl l;exact .inr ⟨k,c,e,cellK x c e _ z⟩;obtain⟨v,z⟩:=I.cell x c e;exact⟨v,cellK x c e v z⟩;obtain⟨m,⟨o,_,_,ho,_⟩,_⟩:=I.loc;exact free _ o (λz=>(NL _ z).2.1 rfl) ho I.free;obtain⟨v,o,ho,hd⟩:=I.cell x c e;exact free c o (λz=>(NL c z).2.2.1 x c e rfl) ho (I.iW x c e);obtain⟨e,n,ne,nf,d⟩:=I.pin p hp;have RL:p.1∉ch:=λz=>(NL p.1 z).2.2.2 p hp rfl;exact⟨keep p.1 p.2 ne nf RL e n,free p.1 p.2 RL e n,ne,nf,d⟩
theorem Inv.un(I:Inv X pins σ H s)(u:Un X.fs [] H H' s.heap h')(cx:mY X.prog X.w H' h'):Inv X pins σ H' {s with heap:=h',toks:=t'}:=by
 obtain⟨m,⟨o,es,ep,ho,r⟩,_⟩:=id I.loc;obtain⟨sl,hL⟩:=u.any ho I.free (by simp);exact I.step (g':=s.gens) (d':=s.drawn) (ch:=[]) (λ_ z=>nomatch z) (λb o _ hb _ e n=>u.keep b o e n hb (by simp)) (λb o _ hb _ e n=>u.slot b o e n hb (by simp)) (λb o _ e n=>u.free b o e n (by simp)) (λb o _ e=>u.there b o e (by simp)) u.y9 u.wD u.y_ (λm' hm=>by obtain⟨o',es',ep',jP,r'⟩:=hm;rw[ho] at jP;cases jP;exact⟨_,es',ep',hL,r'⟩) cx I.bare
theorem Inv.call{g':Array GenState}{d':Drawn}{ch:qah}(I:Inv X pins σ H s)(u:Un (IF X.stack) ch H H' s.heap h')(cx:mY X.prog X.w H' h')(hg:AllBare g')(NL:∀b∈ch,(b∈X.ex\/X.s₀.heap.objs.size<=b)/\b≠X.env.locals/\(∀x c,X.env.cells.lookup x=some c->c≠b)/\∀p∈X.pn++pins,p.1≠b) :
  Inv X pins σ H' {s with heap:=h',gens:=g',drawn:=d',toks:=t'}:=by
 obtain⟨m,⟨o,es,ep,ho,r⟩,_⟩:=id I.loc;obtain⟨sl,hL⟩:=u.any ho I.free λz=>(NL _ z).2.1 rfl;exact I.step (ch:=ch) NL (λb o hL hb hc e n=>u.keep b o e n (λz=>(c4.mp (I.BI b z)).elim hL hb) hc) (λb o _ _ hc e n=>u.any e n hc) (λb o hc e n=>u.free b o e n hc) (λb o hc e=>u.there b o e hc) u.y9 u.wD u.y_ (λm' hm=>by obtain⟨o',es',ep',jP,r'⟩:=hm;rw[ho] at jP;cases jP;exact⟨_,es',ep',hL,r'⟩) cx hg
theorem Inv.turned{it:Addr}(I:Inv X pins σ H s)(k:∀b o,b≠it->s.heap.get? b=some o->h'.get? b=some o)(hn:H it=none)(hL:it≠X.env.locals)(h1:it∈X.ex\/X.s₀.heap.objs.size<=it)(h2:∀x c,X.env.cells.lookup x=some c->c≠it)(h3:∀p∈X.pn++pins,p.1≠it):Inv X pins σ H {s with heap:=h',toks:=t'}:=by
 have nit:∀b u,H b=some u->b≠it:=λb u e z=>by rw[z,hn] at e;cases e
 refine I.step (g':=s.gens) (d':=s.drawn) (ch:=[it]) (λb hb=>?_) (λb o _ _ hc e _=>k b o (λz=>hc (by simp[z])) e) (λb o _ _ hc e _=>⟨o.slots,k b o (λz=>hc (by simp[z])) e⟩) (λ_ _ _ _ n=>n)
  (λb o hc e=>⟨o,k b o (λz=>hc (by simp[z])) e⟩) (λ_ _ e=>e) (λ_ _ _ e=>e) (λb ps e=>⟨#[],by rw[e];simp⟩) (λm hm=>?_) (λb u e=>?_) I.bare
 have e:b=it:=by simpa using hb
 subst e;exact⟨h1,hL,h2,h3⟩;obtain⟨o,es,ep,ho,r⟩:=hm;exact⟨o,es,ep,k _ o (Ne.symm hL) ho,r⟩;refine (I.cx b u e).FK (λc v hc q=>k c v ?_ q) (λ_ q=>q) λ_ _ q=>q;obtain z|z:=hc
 rw[z];exact nit b u e;exact nit c _ z
theorem Inv.tok(I:Inv X pins σ H s)(t:Nat):Inv X pins σ H {s with toks:=t}:=I.un (h':=s.heap) (t':=t) Un.refl I.cx
theorem Inv.kept(I:Inv X pins σ H s)(k:∀b u,s.heap.get? b=some u->h'.get? b=some u):Inv X pins σ H {s with heap:=h',toks:=t'}:=I.un (Un.kept k) (I.cx.kept k)
theorem Inv.laid{o:HO}(I:Inv X pins σ H s)(k:∀b u,s.heap.get? b=some u->h'.get? b=some u)(hp:s.heap.objs.size<=a)(new:cH X.prog X.w (upd H a o) h' a o) :
 Inv X pins σ (upd H a o) {s with heap:=h',toks:=t'}:=I.un (Un.laid k hp (I.cx.fresh hp)) (I.cx.laid k hp new)
theorem Inv.write{x e:Addr}{o:HO}(I:Inv X pins σ H s)(mu:YY (H x))(he:e=x\/H e=some (.own x))(k:∀b u,b≠e->s.heap.get? b=some u->h'.get? b=some u)(NJ:∃u,h'.get? e=some u)(new:cH X.prog X.w (upd H x o) h' x o):Inv X pins σ (upd H x o) {s with heap:=h',toks:=t'}:=I.un (Un.write mu he k NJ) (I.cx.write mu he k NJ new)
theorem Inv.weak{σ':List (Option V)}(I:Inv X pins σ H s)(hl:σ'.length=σ.length)(w:∀(i:Nat) v,σ'[i]?=some (some v)->σ[i]?=some (some v)):Inv X pins σ' H s :=
 ⟨I.ok,I.os,I.bare,I.base,let ⟨m,hn,y'⟩:=I.loc;⟨m,hn,λi x v e1 e2 e3=>y' i x v e1 (w i v e2) e3⟩,I.cell,I.free,I.iW,I.pin,I.cx,hl.trans I.len⟩
theorem Inv.Ei{Ej:qaa}(I:Inv X pins σ H s)(h:∀p∈Ej,s.heap.get? p.1=some p.2/\H p.1=none/\p.1≠X.env.locals/\p.1∉X.fs/\∀v,p.2.data≠.cell v):Inv X Ej σ H s :=
 ⟨I.ok,I.os,I.bare,I.base,I.loc,I.cell,I.free,I.iW,λp hp=>(cU.mp hp).elim (λz=>I.pin p (cC _ z)) (h p),I.cx,I.len⟩
theorem za{N:qai}(hN:N.Nodup)(a:N[i]?=some x)(b:N[j]?=some x):i=j:=by obtain⟨h1,e1⟩:=eW.mp a;obtain⟨h2,e2⟩:=eW.mp b;exact (List.getElem_inj hN).mp (e1.trans e2.symm)
theorem vB{M:Model}{E:qad}{v:V}{Q:Unit->Shared->Prop}(I:Inv X pins σ H s)(hN:X.N.Nodup)(hi:X.N[i]?=some x)(hx:Loc X.env.scope x)(r:RelV v u)(h:∀s',Inv X pins (σ.set i (some v)) H s'->(∃a,Heap.SameBut a s.heap s'.heap/\(a=X.env.locals\/X.env.cells.lookup x=some a))->Q () s')(hf:X.fn x=true\/X.env.scope.names.lookup x=some .local:=by first|exact .inl rfl|exact .inr rfl|assumption):wpAny M A (storeName X.env x u) Q E s:=by
 obtain⟨m,hn,hl⟩:=id I.loc;have ae9:(X.env.scope.kind==.class || (X.env.scope.kind==.module && X.env.locals != X.env.globals))=false:=by rw[I.ok.kind];rfl
 have hiσ:i<σ.length:=by rw[I.len];exact (eW.mp hi).1
 have N_:=I.N_;have tracked:∀{a:Addr}{h':Heap},(∃o,s.heap.get? a=some o/\H a=none)->Heap.SameBut a s.heap h'->mY X.prog X.w H h':=λ{a h'} ha hs b ob e=>by
  obtain⟨_,_,RM⟩:=ha;refine (I.cx b ob e).FK (λc w' hc q=>(hs.2 c ?_).trans q) (λ_ q=>q) λ_ _ q=>q;rintro rfl;obtain rfl|hc:=hc
  rw[RM] at e;cases e;rw[RM] at hc;cases hc
 obtain hk|hk:=hx
 refine wpAny_storeName_local hk hn (λh' hn' hs=>?_) ae9;obtain⟨oL,_,_,hoL,_⟩:=id hn;refine h _ ⟨I.ok,I.os,I.bare,⟨λb o e n hb hx=>?_,λb o e n hb hx=>?_,I.base.free,λb o e hx=>?_,I.base.y9,I.base.wD,I.base.y_⟩,⟨_,hn',λj y v' e1 e2 e3=>?_⟩,λy c e=>?_,I.free,I.iW,λp hp=>?_,tracked ⟨oL,hoL,I.free⟩ hs,by simpa using I.len⟩ ⟨_,hs,.inl rfl⟩;exact (hs.2 b (pJ (yU (jE e) I.ok.above))).trans (I.base.keep b o e n hb hx);obtain⟨sl,e1⟩:=I.base.slot b o e n hb hx;exact⟨sl,(hs.2 b (pJ (yU (jE e) I.ok.above))).trans e1⟩;obtain⟨o',e1⟩:=I.base.there b o e hx;exact⟨o',(hs.2 b (pJ (yU (jE e) I.ok.above))).trans e1⟩;by_cases hj:j=i;subst hj;rw[hi] at e1;cases e1;rw[Ee hiσ] at e2;cases e2;exact⟨u,r,.inl ⟨hk,by simp⟩⟩;rw[uc (Ne.symm hj)] at e2;obtain⟨u',r',q⟩:=hl j y v' e1 e2 e3;refine⟨u',r',?_⟩;obtain⟨k,e⟩|⟨k,c,e,z⟩:=q
 refine .inl ⟨k,?_⟩;have:y≠x:=λe=>hj (za hN e1 (e▸hi));simp[this,e];exact .inr ⟨k,c,e,z.sameBut hs (N_ y c e)⟩;obtain⟨w',z⟩:=I.cell y c e;exact⟨w',z.sameBut hs (N_ y c e)⟩;obtain⟨e,n,ne,nf,d⟩:=I.pin p hp;exact⟨(hs.2 p.1 ne).trans e,n,ne,nf,d⟩;have hfn:X.fn x=true:=by
  obtain z|z:=hf
  exact z;rw[z] at hk;cases hk
 obtain⟨c,hc⟩:=I.ok.has x (.inl hk);obtain⟨w',z⟩:=I.cell x c hc;refine wpAny_storeName_cell I.ok.kind hk hc z (λh' m4 hs=>?_);obtain⟨oc,hoc,afa⟩:=id z;refine h {s with heap:=h'} ⟨I.ok,I.os,I.bare,⟨λb o e n hb hx=>?_,λb o e n hb hx=>?_,I.base.free,λb o e hx=>?_,I.base.y9,I.base.wD,I.base.y_⟩,⟨m,hn.sameBut hs (Ne.symm (N_ x c hc)),λj y v' e1 e2 e3=>?_⟩,λy c' e=>?_,I.free,I.iW,λp hp=>?_,tracked ⟨oc,hoc,I.iW x c hc⟩ hs,by simpa using I.len⟩ ⟨c,hs,.inr hc⟩;exact (hs.2 b (pJ (yU (jE e) (I.ok.Tx x c hfn hc)))).trans (I.base.keep b o e n hb hx);obtain⟨sl,e1⟩:=I.base.slot b o e n hb hx;exact⟨sl,(hs.2 b (pJ (yU (jE e) (I.ok.Tx x c hfn hc)))).trans e1⟩;obtain⟨o',e1⟩:=I.base.there b o e hx;exact⟨o',(hs.2 b (pJ (yU (jE e) (I.ok.Tx x c hfn hc)))).trans e1⟩;by_cases hj:j=i;subst hj;rw[hi] at e1;cases e1;rw[Ee hiσ] at e2;cases e2;exact⟨u,r,.inr ⟨.inl hk,c,hc,m4⟩⟩;rw[uc (Ne.symm hj)] at e2;obtain⟨u',r',q⟩:=hl j y v' e1 e2 e3;refine⟨u',r',?_⟩;obtain q|⟨k,c',e,z'⟩:=q
 exact .inl q;refine .inr ⟨k,c',e,z'.sameBut hs ?_⟩;rintro rfl;exact hj (za hN e1 (I.ok.inj _ _ _ e hc▸hi));by_cases hcc:c'=c;subst hcc;exact⟨_,m4⟩;obtain⟨w2,z2⟩:=I.cell y c' e;exact⟨w2,z2.sameBut hs hcc⟩;obtain⟨e,n,ne,nf,d⟩:=I.pin p hp;refine⟨(hs.2 p.1 ?_).trans e,n,ne,nf,d⟩;intro q;rw[q,hoc] at e;have q':oc=p.2:=Option.some.inj e;exact d w' (by rw[<- q'];exact afa)
theorem zb{M:Model}{E:qad}{v:V}{Q:Unit->Shared->Prop}(I:Inv X pins σ H s)(hN:X.N.Nodup)(hi:X.N[i]?=some x)(hx:Loc X.env.scope x)(r:RelV v u)(h:∀s',Inv X pins (σ.set i (some v)) H s'->Q () s')(hf:X.fn x=true\/X.env.scope.names.lookup x=some .local:=by first|exact .inl rfl|exact .inr rfl|assumption):wpAny M A (storeName X.env x u) Q E s :=
 vB I hN hi hx r (λs' I' _=>h s' I') hf
theorem Inv.Y0{ch:qah}(I:Inv X pins σ H s)(ho:s'.os=s.os)(u:Un (IF X.stack) ch H H' s.heap s'.heap)(cx:mY X.prog X.w H' s'.heap)(hg:AllBare s'.gens)(NL:∀b∈ch,(b∈X.ex\/X.s₀.heap.objs.size<=b)/\b≠X.env.locals/\(∀x c,X.env.cells.lookup x=some c->c≠b)/\∀p∈X.pn++pins,p.1≠b):Inv X pins σ H' s':=by obtain⟨h',g',d',t',o'⟩:=s';have e:o'=s.os:=ho;subst e;exact I.call (g':=g') (t':=t') (d':=d') u cx hg NL
end
abbrev XK:=Value->qar->Hp->Prop
abbrev St:=List (Option V)
abbrev VK:=V->Hp->Prop
abbrev TE:=St->Hp->VK->Prop
abbrev TT:=St->Hp->(Bool->Hp->Prop)->Prop
abbrev TA:=St->Hp->(List V->Hp->Prop)->Prop
structure Ends where
 nx:St->Hp->Prop
 rt:VK
 bk:St->Hp->Prop:=λ_ _=>False
 ct:St->Hp->Prop:=λ_ _=>False
abbrev TS:=Ends->St->Hp->Prop
def EP(X:Cx)(pins:qaa)(σ:St)(Q:VK)(u:Value)(s':Shared):Prop:=∃v H',Inv X pins σ H' s'/\RelV v u/\Q v H'
def TP(X:Cx)(pins:qaa)(σ:St)(Q:Bool->Hp->Prop)(b:Bool)(s':Shared):Prop:=∃H',Inv X pins σ H' s'/\Q b H'
def AP(X:Cx)(pins:qaa)(σ:St)(Q:List V->Hp->Prop)(us:qag)(s':Shared):Prop:=∃vs H',Inv X pins σ H' s'/\Vals vs us/\Q vs H'
def SP(X:Cx)(pins:qaa)(D:Ends)(f:Flow)(s':Shared):Prop :=
 match f with
 |.next=>∃σ' H',Inv X pins σ' H' s'/\D.nx σ' H'
 |.brk=>∃σ' H',Inv X pins σ' H' s'/\D.bk σ' H'
 |.cont=>∃σ' H',Inv X pins σ' H' s'/\D.ct σ' H'
 |.ret u=>∃v σ' H',Inv X pins σ' H' s'/\RelV v u/\D.rt v H'
def PE(X:Cx)(e:Expr)(t:TE):Prop :=
 ∀(pins:qaa)(s:Shared)(σ:St)(H:Hp)(Q:VK),Inv X pins σ H s->t σ H Q->wpAny (model X.prog X.w) X.A (eval e X.env) (EP X pins σ Q) X.xe s
def PT(X:Cx)(e:Expr)(t:TT):Prop :=
 ∀(pins:qaa)(s:Shared)(σ:St)(H:Hp)(Q:Bool->Hp->Prop),Inv X pins σ H s->t σ H Q->wpAny (model X.prog X.w) X.A (isTrue e X.env (eval e X.env)) (TP X pins σ Q) X.xe s
def PW(X:Cx)(e:Expr)(t:TT):Prop :=
 ∀(whole:Sem Value)(pins:qaa)(s:Shared)(σ:St)(H:Hp)(Q:Bool->Hp->Prop),Inv X pins σ H s->t σ H Q->wpAny (model X.prog X.w) X.A (isTrue e X.env whole) (TP X pins σ Q) X.xe s
theorem PW.pt{X:Cx}{t:TT}(h:PW X e t):PT X e t:=h _
def PA(X:Cx)(es:qap)(t:TA):Prop :=
 ∀(pos:Pos)(pins:qaa)(s:Shared)(σ:St)(H:Hp)(Q:List V->Hp->Prop),Inv X pins σ H s->t σ H Q->wpAny (model X.prog X.w) X.A (spliced (backTo pos (starEach es X.env))) (AP X pins σ Q) X.xe s
def PS(X:Cx)(st:Stmt)(t:TS):Prop :=
 ∀(pins:qaa)(s:Shared)(σ:St)(H:Hp)(D:Ends),Inv X pins σ H s->t D σ H->wpAny (model X.prog X.w) X.A (exec st X.env) (SP X pins D) X.xe s
def jc(X:Cx)(st:qaq)(t:TS):Prop :=
 ∀(pins:qaa)(s:Shared)(σ:St)(H:Hp)(D:Ends),Inv X pins σ H s->t D σ H->wpAny (model X.prog X.w) X.A (execs st X.env) (SP X pins D) X.xe s
theorem cc{t:Sem α}{Q Q':α->Shared->Prop}{M:Model}{E:qad}{s:Shared}(h:wpAny M A t Q E s)(hQ:∀a s,Q a s->Q' a s):wpAny M A t Q' E s:=wpAny_mono h hQ λ_ _ x=>x
section
variable{X:Cx}
theorem bin{a:Expr}{ta tb:TE}(ha:PE X a ta)(hb:PE X b tb){pins:qaa}{s:Shared}{σ:St}{H:Hp}{R:V->V->Hp->Prop}(I:Inv X pins σ H s)(h:ta σ H λx H1=>tb σ H1 λy H2=>R x y H2){Q:α->Shared->Prop}{f:Value->Value->Sem α}(hf:∀v u s2 x y H2,Inv X pins σ H2 s2->RelV x v->RelV y u->R x y H2->wpAny (model X.prog X.w) X.A (f v u) Q X.xe s2) :
  wpAny (model X.prog X.w) X.A (eval a X.env) (λv s₁=>wpAny (model X.prog X.w) X.A (eval b X.env) (λu s₂=>wpAny (model X.prog X.w) X.A (f v u) Q X.xe s₂) X.xe s₁) X.xe s:=by
 refine cc (ha pins s σ H _ I h) λv s1 ⟨x,H1,I1,r1,q1⟩=>?_;refine cc (hb pins s1 σ H1 _ I1 q1) λu s2 ⟨y,H2,I2,r2,q2⟩=>?_;exact hf v u s2 x y H2 I2 r1 r2 q2
def Y1(i:Nat):TE:=λσ H Q=>∃v,σ[i]?=some (some v)/\Q v H
def tC(v:V):TE:=λ_ H Q=>Q v H
theorem bX{pos:Pos}(hN:X.N[i]?=some x)(hv:mZ X.env.scope x)(hd:jD x:=by decide)(ig:yT x:=by decide):PE X (.Name x pos) (Y1 i):=by
 intro pins s σ H Q I h;obtain⟨v,e,h⟩:=h;obtain⟨m,hn,hl⟩:=I.loc;obtain⟨u,r,l⟩:=hl i x v hN e hv;have fin:EP X pins σ Q u s:=⟨v,H,I,r,h⟩;obtain⟨hk,hm⟩|⟨hk,c,hc,RN⟩:=l
 exact wpAny_Name (wpAny_loadName_local I.ok.kind hk hn hm fin) hd;obtain hk|hk:=hk
 exact wpAny_Name (wpAny_loadName_cell I.ok.kind hk hc RN fin) hd;exact wpAny_Name (wpAny_loadName_free I.ok.kind hk hc RN fin ig) hd
theorem IY{i j pos}:PE X (.Constant (.int i) j pos) (tC (.int i)):=λ_ _ _ H _ I h=>wpAny_Constant_int ⟨.int i,H,I.tok _,⟨_,rfl⟩,h⟩
theorem Y2{b j pos}:PE X (.Constant (.bool b) j pos) (tC (.bl b)):=λ_ _ _ H _ I h=>Constant_bool ⟨.bl b,H,I,rfl,h⟩
theorem BJ{j pos}:PE X (.Constant .none j pos) (tC .aP):=λ_ _ _ H _ I h=>Constant_none ⟨.aP,H,I,rfl,h⟩
theorem Tz{x j pos}:PE X (.Constant (.str x) j pos) (tC (.str x)):=λ_ _ _ H _ I h=>Calls.Constant_str ⟨.str x,H,I.tok _,⟨_,rfl⟩,h⟩
def Gl(X:Cx)(x:Str):Prop:=X.env.kindOf x=some .globalImplicit
theorem wG{E:qad}{pins:qaa}{s:Shared}{σ:St}{H:Hp}{pos:Pos}{Q:qad}(I:Inv X pins σ H s)(hg:Gl X x)(hm:X.mg x=some u)(h:Q u s)(hd:jD x:=by decide):wpAny (model X.prog X.w) X.A (eval (.Name x pos) X.env) Q E s :=
 Calls.Name_function_global I.ok.kind hg (Calls.loadGlobal_global (by rw[I.ok.glob];exact I.mod.glob.keeps I.bk) hm h) hd
theorem lV{E:qad}{pins:qaa}{s:Shared}{σ:St}{H:Hp}{pos:Pos}{Q:qad}(I:Inv X pins σ H s)(hg:Gl X x)(hm:X.mg x=none)(hv:bootBuiltins x=some u)(h:Q u s)(hn:x≠"__name__":=by decide)(hd:jD x:=by decide):wpAny (model X.prog X.w) X.A (eval (.Name x pos) X.env) Q E s:=by obtain⟨mb,h1,h2⟩:=I.mod.blt;exact Calls.Name_function_global I.ok.kind hg (Calls.loadGlobal_builtin (by rw[I.ok.glob];exact I.mod.glob.keeps I.bk) hm (by rw[I.ok.blt];exact h1.keeps I.bk) ((h2 x hn).trans hv) h) hd
theorem wH{v:V}{pos:Pos}(hg:Gl X x)(hm:X.mg x=some u)(r:RelV v u)(hd:jD x:=by decide):PE X (.Name x pos) (tC v) :=
 λ_ _ _ H _ I h=>wG I hg hm ⟨v,H,I,r,h⟩ hd
theorem N'{v:V}{pos:Pos}(hg:Gl X x)(hm:X.mg x=none)(hv:bootBuiltins x=some u)(r:RelV v u)(hn:x≠"__name__":=by decide)(hd:jD x:=by decide):PE X (.Name x pos) (tC v) :=
 λ_ _ _ H _ I h=>lV I hg hm hv ⟨v,H,I,r,h⟩ hn hd
variable{a:Expr}{ta tb:TE}{pos:Pos}
def PC(X:Cx)(op:CmpOp)(a b:Expr)(t:TE):Prop :=
 ∀(pins:qaa)(s:Shared)(σ:St)(H:Hp)(Q:VK),Inv X pins σ H s->t σ H Q ->
  wpAny (model X.prog X.w) X.A (eval a X.env) (λv s₁=>wpAny (model X.prog X.w) X.A (eval b X.env) (λu s₂=>wpAny (model X.prog X.w) X.A (compareOp op v u) (EP X pins σ Q) X.xe s₂) X.xe s₁) X.xe s
theorem IZ(b:Expr){op:CmpOp}(h:op≠.In)(h2:op≠.NotIn):behindInMarks op b=false:=by
 have e1:(op==CmpOp.In)=false:=by cases op<;>first|rfl|exact absurd rfl h
 have e2:(op==CmpOp.NotIn)=false:=by cases op<;>first|rfl|exact absurd rfl h2
 cases b<;>simp[behindInMarks,e1,e2]
def tB(t:TE):TT:=λσ H Q=>t σ H λx H1=>∃c,x=.bl c/\Q c H1
theorem afb{op:CmpOp}{t:TE}(h:PC X op a b t)(h1:behindInMarks op b=false:=by first|exact IZ _ (by decide) (by decide)|rfl):PT X (.Compare a [op] [b] pos) (tB t):=by intro pins s σ H Q I hw;refine wpAny_isTrue_Compare1 (cc (h pins s σ H _ I hw) λv s1 h1=>cc h1 λu s2 h2=>cc h2 λc s3 ⟨x,H1,I1,r1,q1⟩=>?_) h1;obtain⟨d,rfl,q⟩:=q1;cases r1;exact wpAny_truthy_bool ⟨H1,I1,q⟩
theorem TB{t:TE}(h:PE X e t)(he:∀whole,isTrue e X.env whole=(do let v <- whole;standAt e.pos;holding [v] (truthy v)):=by intro _;rfl):PT X e (tB t):=by intro pins s σ H Q I hw;refine isTrue_plain (cc (h pins s σ H _ I hw) λv s1 ⟨x,H1,I1,r1,q1⟩=>?_) (he _);obtain⟨d,rfl,q⟩:=q1;cases r1;exact wpAny_truthy_bool ⟨H1,I1,q⟩
variable{tA Y3:TT}{rest:qap}
def afc(t u:TT):TT:=λσ H Q=>t σ H λc H1=>if c=true then u σ H1 Q else Q false H1
def tOr(t u:TT):TT:=λσ H Q=>t σ H λc H1=>if c=true then Q true H1 else u σ H1 Q
def afd(t:TT):TT:=λσ H Q=>t σ H λc H1=>Q (!c) H1
theorem pw_and1(ha:PT X a tA):PW X (.BoolOp .And [a] pos) tA:=by
 intro wh pins s σ H Q I h;refine isTrue_and (cc (ha pins s σ H Q I h) λc s1 e=>?_);cases c with
 |true=>exact isTrue_and_nil e
 |false=>exact e
theorem pw_or1(ha:PT X a tA):PW X (.BoolOp .Or [a] pos) tA:=by
 intro wh pins s σ H Q I h;refine isTrue_or (cc (ha pins s σ H Q I h) λc s1 e=>?_);cases c with
 |false=>exact isTrue_or_nil e
 |true=>exact e
theorem pw_and(ha:PT X a tA)(hb:PW X (.BoolOp .And (b::rest) pos) Y3):PW X (.BoolOp .And (a::b::rest) pos) (afc tA Y3):=by
 intro wh pins s σ H Q I h;refine isTrue_and (cc (ha pins s σ H _ I h) λc s1 ⟨H1,I1,q1⟩=>?_);cases c with
 |true=>exact hb wh pins s1 σ H1 Q I1 q1
 |false=>exact⟨H1,I1,q1⟩
theorem pw_or(ha:PT X a tA)(hb:PW X (.BoolOp .Or (b::rest) pos) Y3):PW X (.BoolOp .Or (a::b::rest) pos) (tOr tA Y3):=by
 intro wh pins s σ H Q I h;refine isTrue_or (cc (ha pins s σ H _ I h) λc s1 ⟨H1,I1,q1⟩=>?_);cases c with
 |true=>exact⟨H1,I1,q1⟩
 |false=>exact hb wh pins s1 σ H1 Q I1 q1
theorem TC(ha:PT X a tA):PT X (.UnaryOp .Not a pos) (afd tA):=by intro pins s σ H Q I h;exact isTrue_not (ha pins s σ H (λc H1=>Q (!c) H1) I h)
def Y4(ta tb:TE):TE:=λσ H Q=>ta σ H λx H1=>∃c,x=.bl c/\if c=true then tb σ H1 Q else Q (.bl false) H1
theorem TF{op}{t:TE}(h:PE X a t):PE X (.BoolOp op [a] pos) t:=λpins s σ H Q I hw=>BoolOp_one (h pins s σ H Q I hw)
theorem TH(ha:PE X a ta)(hb:PE X (.BoolOp .And (b::rest) pos) tb):PE X (.BoolOp .And (a::b::rest) pos) (Y4 ta tb):=by
 intro pins s σ H Q I h;refine BoolOp_and (cc (ha pins s σ H _ I h) λv s1 ⟨x,H1,I1,r1,q1⟩=>?_);obtain⟨c,rfl,q1⟩:=q1;cases r1;refine wpAny_truthy_bool ?_;cases c with
 |true=>exact hb pins s1 σ H1 Q I1 q1
 |false=>exact⟨.bl false,H1,I1,rfl,q1⟩
def tIf(t:TT)(ta tb:TE):TE:=λσ H Q=>t σ H λc H1=>if c=true then ta σ H1 Q else tb σ H1 Q
theorem I9(hc:PT X c tA)(ha:PE X a ta)(hb:PE X b tb):PE X (.IfExp c a b pos) (tIf tA ta tb):=by
 intro pins s σ H Q I h;refine wpAny_IfExp (cc (hc pins s σ H _ I h) λd s1 ⟨H1,I1,q1⟩=>?_);cases d with
 |true=>exact ha pins s1 σ H1 Q I1 q1
 |false=>exact hb pins s1 σ H1 Q I1 q1
end
def iV(K:qaf)(H:Hp)(a:Addr)(xs:List V):Prop :=
 Rd H a (.lst xs) \/
  ∃(o:Obj)(a4:Array Value)(n:Nat),K.lookup a=some o/\o.cls=.type "list"/\o.dict=none/\o.data=.seq a4 n/\a4.size<=sizeLine/\Vals xs a4.toList
def fM(K:qaf)(H:Hp)(a:Addr)(xs:List V):Prop :=
 Rd H a (.tup xs) \/
  ∃(o:Obj)(a4:Array Value)(n:Nat),K.lookup a=some o/\o.cls=.type "tuple"/\o.data=.seq a4 n/\a4.size<=sizeLine/\Vals xs a4.toList
def afe:Value->Option V
 |.none=>some .aP
 |.bool b=>some (.bl b)
 |.int i _=>some (.int i)
 |.str x _=>some (.str x)
 |.bytes b _=>some (.byt b)
 |.float b _=>some (.X6 b)
 |.ref a=>some (.ref a)
 |.type n=>some (.ty n)
 |_=>none
theorem RelV.abs{x:V}(r:RelV x u):afe u=some x:=by
 cases x with
 |aP=>cases r;rfl
 |bl _=>cases r;rfl
 |ref _=>cases r;rfl
 |ty _=>cases r;rfl
 |_=>obtain⟨t,rfl⟩:=r;rfl
theorem RelV.inj{x y:V}(r:RelV x u)(q:RelV y u):x=y:=Option.some.inj (r.abs.symm.trans q.abs)
theorem Vals.inj:∀{xs ys:List V}{us:qag},Vals xs us->Vals ys us->xs=ys
 |_,_,_,.nil,.nil=>rfl
 |_,_,_,.cons r t,.cons r' t'=>by rw[r.inj r',Vals.inj t t']
section
variable{X:Cx}{pins:qaa}{σ:St}{H:Hp}{s:Shared}{xs ys:List V}
theorem iV.of{K:qaf}(h:H a=some (.lst xs)):iV K H a xs:=.inl (.inl h)
theorem fM.of{K:qaf}(h:H a=some (.tup xs)):fM K H a xs:=.inl (.inl h)
theorem Inv.list(I:Inv X pins σ H s)(h:iV X.K H a xs):∃a4:qag,Vals xs a4/\PlainL s.heap a a4.toArray/\xs.length<=sizeLine:=by
 obtain h|⟨o,a4,n,hk,hc,hd,hs,hz,r⟩:=h
 obtain⟨z,a4,n,r,e⟩:=h.ok I.cx;exact⟨a4,r,⟨_,n,e,rfl,rfl,rfl⟩,z⟩;refine⟨a4.toList,r,⟨o,n,I.ue a o hk,hc,hd,by simpa using hs⟩,?_⟩;have e:=r.length;simp only[RB] at e;omega
theorem Inv.tuple(I:Inv X pins σ H s)(h:fM X.K H a xs):∃a4:qag,Vals xs a4/\IsTup s.heap a a4.toArray/\xs.length<=sizeLine:=by
 obtain h|⟨o,a4,n,hk,hc,hs,hz,r⟩:=h
 obtain⟨z,a4,r,p⟩:=h.ok I.cx;exact⟨a4,r,p,z⟩;refine⟨a4.toList,r,⟨o,I.ue a o hk,hc,n,by simpa using hs⟩,?_⟩;have e:=r.length;simp only[RB] at e;omega
theorem Inv.qW(I:Inv X pins σ H s)(h:iV X.K H a xs)(h':iV X.K H a ys):xs=ys:=by
 obtain⟨a4,r,⟨o,n,e,_,_,d⟩,_⟩:=I.list h;obtain⟨its',r',⟨o',n',e',_,_,d'⟩,_⟩:=I.list h';rw[e] at e';cases e';rw[d] at d';injection d' with d1 _
 have:a4=its':=by simpa using congrArg Array.toList d1
 subst this;exact r.inj r'
theorem Inv.om(I:Inv X pins σ H s)(h:fM X.K H a xs)(h':fM X.K H a ys):xs=ys:=by
 obtain⟨a4,r,⟨o,e,_,n,d⟩,_⟩:=I.tuple h;obtain⟨its',r',⟨o',e',_,n',d'⟩,_⟩:=I.tuple h';rw[e] at e';cases e';rw[d] at d';injection d' with d1 _
 have:a4=its':=by simpa using congrArg Array.toList d1
 subst this;exact r.inj r'
end
abbrev Cx.uf(X:Cx)(E:qad):Cx:={X with xe:=E}
abbrev Cx.qX(X:Cx):Cx:=X.uf λ_ _=>False
theorem Cx.Ok.uf{X:Cx}(ok:X.Ok)(E:qad):(X.uf E).Ok :=
 ⟨ok.mod,ok.kind,ok.glob,ok.blt,ok.above,ok.inj,ok.has,ok.Tx,ok.hd,ok.frames,ok.X8,ok.exf,ok.bs,ok.IG,ok.BH,ok.FT,ok.m_,ok.N9⟩
theorem Cx.Ok.oq{X:Cx}{E:qad}(ok:(X.uf E).Ok):X.Ok :=
 ⟨ok.mod,ok.kind,ok.glob,ok.blt,ok.above,ok.inj,ok.has,ok.Tx,ok.hd,ok.frames,ok.X8,ok.exf,ok.bs,ok.IG,ok.BH,ok.FT,ok.m_,ok.N9⟩
section
variable{X:Cx}{pins:qaa}{σ:St}{H:Hp}{s:Shared}{E:qad}
theorem Inv.uf(I:Inv X pins σ H s)(E:qad):Inv (X.uf E) pins σ H s:=⟨I.ok.uf E,I.os,I.bare,I.base,I.loc,I.cell,I.free,I.iW,I.pin,I.cx,I.len⟩
theorem Inv.oq(I:Inv (X.uf E) pins σ H s):Inv X pins σ H s:=⟨I.ok.oq,I.os,I.bare,I.base,I.loc,I.cell,I.free,I.iW,I.pin,I.cx,I.len⟩
theorem SP.oq{D:Ends}{f:Flow}(h:SP (X.uf E) pins D f s'):SP X pins D f s':=by
 cases f with
 |ret u=>obtain⟨v,σ',H',I,r,q⟩:=h;exact⟨v,σ',H',I.oq,r,q⟩
 |_=>obtain⟨σ',H',I,q⟩:=h;exact⟨σ',H',I.oq,q⟩
theorem jc.qX{st:qaq}{t:TS}(h:jc X.qX st t):jc X st t:=λpins s σ H D I hw=>
 wpAny_mono (h pins s σ H D (I.uf _) hw) (λ_ _ q=>q.oq) λ_ _ z=>False.elim z
end
section
variable{X:Cx}{st:Stmt}{rest:qaq}{t u:TS}{te:TE}{pos:Pos}
def Y5:TS:=λD σ H=>D.nx σ H
def aff(t u:TS):TS:=λD σ H=>t {D with nx:=u D} σ H
theorem Ek:jc X [] Y5:=λ_ _ σ H _ I h=>wpAny_execs_nil ⟨σ,H,I,h⟩
theorem cV(h1:PS X st t)(h2:jc X rest u):jc X (st::rest) (aff t u):=by
 intro pins s σ H D I h;refine wpAny_execs_cons (cc (h1 pins s σ H {D with nx:=u D} I h) λf s1 q=>?_);cases f with
 |next=>obtain⟨σ',H',I',q⟩:=q;exact h2 pins s1 σ' H' D I' q
 |ret v=>exact q
 |_=>exact q
theorem kZ(h1:PS X st t):jc X [st] t:=by
 intro pins s σ H D I h;refine wpAny_execs_cons (cc (h1 pins s σ H D I h) λf s1 q=>?_);cases f with
 |next=>exact wpAny_execs_nil q
 |ret v=>exact q
 |_=>exact q
theorem Inv.quiet{pins:qaa}{σ:St}{H:Hp}{s:Shared}(I:Inv X pins σ H s):interactive X.env=false:=by simp[interactive,I.ok.kind]
def Y6(te:TE):TS:=λD σ H=>te σ H λ_ H1=>D.nx σ H1
theorem ng(he:PE X e te)(hs:swapsWith e none pos.line X.env=pure false:=by rfl):PS X (.Expr e pos) (Y6 te):=by intro pins s σ H D I h;exact wpAny_Expr_any (cc (he pins s σ H _ I h) λv s1 ⟨x,H1,I1,r1,q1⟩=>⟨σ,H1,I1,q1⟩) I.quiet hs
def afg(te:TE):TS:=λD σ H=>te σ H D.rt
theorem wI(he:PE X e te):PS X (.Return (some e) pos) (afg te):=by intro pins s σ H D I h;exact wpAny_Return_some (cc (he pins s σ H _ I h) λv s1 ⟨x,H1,I1,r1,q1⟩=>⟨x,σ,H1,I1,r1,q1⟩)
def afh(c:TT)(t u:TS):TS:=λD σ H=>c σ H λb H1=>if b=true then t D σ H1 else u D σ H1
theorem RO{a b:qaq}{tc:TT}(hc:PT X c tc)(ha:jc X a t)(hb:jc X b u):PS X (.If c a b pos) (afh tc t u):=by
 intro pins s σ H D I h;refine wpAny_If (cc (hc pins s σ H _ I h) λd s1 ⟨H1,I1,q1⟩=>?_);cases d with
 |true=>exact ha pins s1 σ H1 D I1 q1
 |false=>exact hb pins s1 σ H1 D I1 q1
end
abbrev TG:=V->St->Hp->(St->Hp->Prop)->Prop
abbrev Oa:=List V->St->Hp->(St->Hp->Prop)->Prop
def PG(X:Cx)(target:Expr)(t:TG):Prop :=
 ∀(pins:qaa)(s:Shared)(σ:St)(H:Hp)(v:V)(u:Value)(Q:St->Hp->Prop),Inv X pins σ H s->RelV v u->t v σ H Q ->
  wpAny (model X.prog X.w) X.A (assign target X.env u) (λ_ s'=>∃σ' H',Inv X pins σ' H' s'/\Q σ' H') X.xe s
def I_(X:Cx)(ts:qap)(t:Oa):Prop :=
 ∀(pins:qaa)(s:Shared)(σ:St)(H:Hp)(vs:List V)(us:qag)(Q:St->Hp->Prop),Inv X pins σ H s->Vals vs us->t vs σ H Q ->
  wpAny (model X.prog X.w) X.A (assignInOrder ((assignEach ts X.env).map (·.2)) us) (λ_ s'=>∃σ' H',Inv X pins σ' H' s'/\Q σ' H') X.xe s
abbrev TJ:=V->V->V->Hp->(Hp->Prop)->Prop
def Y7(X:Cx)(t:TJ):Prop :=
 ∀(pins:qaa)(s:Shared)(σ:St)(H:Hp)(o i v:V)(ov iv u:Value)(Q:Hp->Prop),Inv X pins σ H s->RelV o ov->RelV i iv->RelV v u->t o i v H Q ->
  wpAny (model X.prog X.w) X.A (setItem ov iv u) (λ_ s'=>∃H',Inv X pins σ H' s'/\Q H') X.xe s
section
variable{X:Cx}{pos:Pos}
def lC(i:Nat):TG:=λv σ H Q=>Q (σ.set i (some v)) H
theorem Ob(hN:X.N.Nodup)(hi:X.N[i]?=some x)(hx:Loc X.env.scope x)(hf:X.fn x=true\/X.env.scope.names.lookup x=some .local:=by first|exact .inl rfl|exact .inr rfl|assumption):PG X (.Name x pos) (lC i):=by intro pins s σ H v u Q I r h;exact wpAny_assign_Name (zb I hN hi hx r (λs' I'=>⟨_,H,I',h⟩) hf)
def afi:Oa:=λvs σ H Q=>vs=[]/\Q σ H
def Y8(t:TG)(u:Oa):Oa:=λvs σ H Q=>∃v r,vs=v::r/\t v σ H λσ' H'=>u r σ' H' Q
theorem Oc:I_ X [] afi:=by intro pins s σ H vs us Q I r h;obtain⟨e,h⟩:=h;subst e;cases r;exact assignInOrder_nil ⟨σ,H,I,h⟩
theorem Ja{es:qap}{t:TG}{u:Oa}(h1:PG X e t)(h2:I_ X es u)(hs:(assignEach (e::es) X.env).map (·.2)=assign e X.env::(assignEach es X.env).map (·.2):=by rfl):I_ X (e::es) (Y8 t u):=by
 intro pins s σ H vs us Q I r h;obtain⟨v,vr,e1,h⟩:=h;subst e1;cases r with
 |cons r rr=>rw[hs];refine assignInOrder_cons (cc (h1 pins s σ H _ _ _ I r h) λ_ s1 ⟨σ1,H1,I1,q1⟩=>?_);exact h2 pins s1 σ1 H1 _ _ Q I1 rr q1
def afj(K:qaf)(n:Nat)(t:Oa):TG:=λv σ H Q=>∃a xs,v=.ref a/\fM K H a xs/\xs.length=n/\t xs σ H Q
theorem TK{es:qap}{k:Nat}{t:Oa}(hc:X.calm=true)(h:I_ X es t)(hn:(assignEach es X.env).length=n:=by rfl)(Od:(assignEach es X.env).findIdx? (·.1)=none:=by rfl):PG X (.Tuple es k pos) (afj X.K n t):=by intro pins s σ H v u Q I r hw;obtain⟨a,xs,e1,hq,hl,hw⟩:=hw;subst e1;cases r;obtain⟨a4,rv,ht,hz⟩:=I.tuple hq;refine assign_Tuple_tuple (I.ok.hd hc) ht (by simp[hn,<- hl,rv.length]) Od λh' hx=>?_;have I1:Inv X pins σ H {s with heap:=h'}:=I.kept (t':=s.toks) λb o e=>hx b o (pJ (jE e)) e;exact h pins _ σ H xs _ Q I1 (by simpa using rv) hw
def afk(to ti:TE)(t:TJ):TG:=λv σ H Q=>to σ H λo H1=>ti σ H1 λi H2=>t o i v H2 λH3=>Q σ H3
theorem TL{i:Expr}{to ti:TE}{t:TJ}(ho:PE X o to)(hi:PE X i ti)(hs:Y7 X t)(ha:∀v,assign (.Subscript o i pos) X.env v=(do
    let ov <- holding [v] (eval o X.env)
    let iv <- holding [v,ov] (eval i X.env)
    standAt pos
    holding [v,ov,iv] (setItem ov iv v)
    release [v,ov,iv] []):=by intro _;rfl):PG X (.Subscript o i pos) (afk to ti t):=by
 intro pins s σ H v u Q I r h;rw[ha];refine wpAny_bind (wpAny_holding (cc (ho pins s σ H _ I h) λov s1 ⟨x,H1,I1,r1,q1⟩=>?_));refine wpAny_bind (wpAny_holding (cc (hi pins s1 σ H1 _ I1 q1) λiv s2 ⟨y,H2,I2,r2,q2⟩=>?_));refine wpAny_bind (wpAny_standAt (wpAny_bind (wpAny_holding (cc (hs pins s2 σ H2 x y v ov iv u _ I2 r1 r2 r q2) λ_ s3 ⟨H3,I3,q3⟩=>?_))));exact wpAny_release ⟨σ,H3,I3,q3⟩
def Oe(te:TE)(g:TG):TS:=λD σ H=>te σ H λx H1=>g x σ H1 D.nx
theorem Jb{tg:Expr}{te:TE}{g:TG}(he:PE X e te)(hg:PG X tg g)(hs:swapsWithSole [tg] e pos.line X.env=pure false:=by rfl)(hw:swappedStores [tg] e X.env=pure none:=by rfl)(h1:(assignEach [tg] X.env).map (·.2)=[assign tg X.env]:=by rfl):PS X (.Assign [tg] e pos) (Oe te g):=by intro pins s σ H D I h;refine wpAny_Assign_stores (cc (he pins s σ H _ I h) λv s1 ⟨x,H1,I1,r1,q1⟩=>?_) hs hw;rw[h1];exact cc (hg pins s1 σ H1 x v _ I1 r1 q1) λ_ s2 q=>q
theorem wJ{te:TE}{pos':Pos}(hN:X.N.Nodup)(hi:X.N[i]?=some x)(hx:Loc X.env.scope x)(he:PE X e te)(hs:swapsWith e (some (.Name x pos')) pos.line X.env=pure false:=by rfl)(hf:X.fn x=true\/X.env.scope.names.lookup x=some .local:=by first|exact .inl rfl|exact .inr rfl|assumption) :
  PS X (.Assign [.Name x pos'] e pos) (Oe te (lC i)):=by
 intro pins s σ H D I h;refine wpAny_Assign_Name (cc (he pins s σ H _ I h) λv s1 ⟨y,H1,I1,r1,q1⟩=>?_) hs;exact zb I1 hN hi hx r1 (λs2 I2=>⟨_,H1,I2,q1⟩) hf
end
section
variable{X:Cx}{pos:Pos}
def TM(c:TT)(tb:TS):TS:=λD σ H=>∃W:Nat->St->Hp->Prop,(∃m,W m σ H)/\∀m σ H,W m σ H ->
 c σ H λb H1=>if b=true then ∃N:St->Hp->Prop,(∀σ' H',N σ' H'->∃m',m'<m/\W m' σ' H')/\tb {D with nx:=N,ct:=N,bk:=D.nx} σ H1 else D.nx σ H1
theorem zc{body:qaq}{tc:TT}{tb:TS}(hp:PassesOwn (model X.prog X.w) X.A X.env X.xe)(hc:PT X c tc)(hb:jc X body tb):PS X (.While c body [] pos) (TM tc tb):=by
 intro pins s σ H D I h;obtain⟨W,⟨m0,w0⟩,turn⟩:=h;refine wpAny_While (codeAny_whileLoop (λn s'=>∃σ' H',Inv X pins σ' H' s'/\W n σ' H') ?_ m0 ⟨σ,H,I,w0⟩);rintro n s1 ⟨σ1,H1,I1,w1⟩;refine wpAny_passesOwn hp (cc (hc pins s1 σ1 H1 _ I1 (turn n σ1 H1 w1)) λb s2 ⟨H2,I2,q2⟩=>?_);cases b with
 |true=>
  obtain⟨N,hN,q2⟩:=q2;rw[if_pos rfl];refine wpAny_passesOwn hp (cc (hb pins s2 σ1 H2 _ I2 q2) λf s3 q3=>?_);cases f with
  |next=>obtain⟨σ3,H3,I3,n3⟩:=q3;obtain⟨m',hm,w3⟩:=hN σ3 H3 n3;exact⟨m',hm,σ3,H3,I3,w3⟩
  |cont=>obtain⟨σ3,H3,I3,n3⟩:=q3;obtain⟨m',hm,w3⟩:=hN σ3 H3 n3;exact⟨m',hm,σ3,H3,I3,w3⟩
  |brk=>exact q3
  |ret v=>exact q3
 |false=>rw[if_neg jb];exact wpAny_execs_nil ⟨σ1,H2,I2,q2⟩
end
structure It where
 go:Nat->Hp->Prop
 Y9:Nat->Hp->V->Hp->Prop
 stop:Nat->Hp->Prop
def qh(X:Cx)(pins:qaa)(H:Hp)(b:Addr):Prop :=
 H b=none/\b≠X.env.locals/\b∉X.fs/\(b∈X.ex\/X.s₀.heap.objs.size<=b)/\(∀x c,X.env.cells.lookup x=some c->c≠b)/\∀p∈X.pn++pins,p.1≠b
theorem Inv.qY{X:Cx}{pins:qaa}{σ:St}{H H':Hp}{s:Shared}{b:Addr}(I:Inv X pins σ H s)(hb:s.heap.objs.size<=b)(hn:H' b=none):qh X pins H' b:=by refine⟨hn,RH (yU I.lt hb),I.ae8 hb,.inr (mX I.sz hb),λx c e z=>?_,λp hp z=>?_⟩;obtain⟨v,q⟩:=I.cell x c e;exact absurd (yU q.lt (by rw[z];exact hb)) (N5 _);exact absurd (yU (jE (I.pin p hp).1) (by rw[z];exact hb)) (N5 _)
structure Turn(P:Program)(w:World)(K:qaf)(tg:Expr)(J:It)(fp:qah)(it:Addr)(tn:Nat->Heap->Prop):Prop where
 mem:it∈fp
 obj:∀i h,tn i h->∀b∈fp,∃o,h.get? b=some o/\∀v,o.data≠.cell v
 keep:∀i h h',tn i h->(∀b∈fp,∀o,h.get? b=some o->h'.get? b=some o)->tn i h'
 item:∀(X:Cx),X.prog=P->X.w=w->X.K=K->X.calm=true->∀(i:Nat)(pins:qaa)(s:Shared)(σ:St)(H:Hp)(E:qad),Inv X pins σ H s->(∀b∈fp,qh X pins H b)->tn i s.heap->J.go i H ->
  wpAny (model P w) X.A (pyNext (.ref it)) (λr s1=>∃u,r=some u /\
   wpAny (model P w) X.A (letOwnedTupleGo tg (.ref it) u) (λ_ s2=>∃x H',Inv X pins σ H' s2/\RelV x u/\J.Y9 i H x H'/\tn (i+1) s2.heap/\∀b∈fp,H' b=none) E s1) E s
 done:∀(X:Cx),X.prog=P->X.w=w->X.K=K->X.calm=true->∀(i:Nat)(pins:qaa)(s:Shared)(σ:St)(H:Hp)(E:qad),Inv X pins σ H s->(∀b∈fp,qh X pins H b)->tn i s.heap->J.stop i H ->
  wpAny (model P w) X.A (pyNext (.ref it)) (λr s1=>r=none/\Inv X pins σ H s1) E s
 self:∀(A:Around)(i:Nat)(s:Shared)(Q:qad)(E:qad),tn i s.heap->Q (.ref it) s->wpAny (model P w) A (pyIter (.ref it)) Q E s
abbrev TI:=St->Hp->(It->Hp->Prop)->Prop
def PIE(X:Cx)(pins:qaa)(σ:St)(tg:Expr)(R:It->Hp->Prop)(itv:Value)(s2:Shared):Prop :=
 ∃(it:Addr)(fp:qah)(tn:Nat->Heap->Prop)(J:It)(H':Hp),itv=.ref it/\Inv X pins σ H' s2/\Turn X.prog X.w X.K tg J fp it tn/\tn 0 s2.heap/\(∀b∈fp,qh X pins H' b)/\R J H'
def PI(X:Cx)(tg iter:Expr)(wi:TI):Prop :=
 ∀(pins:qaa)(s:Shared)(σ:St)(H:Hp)(R:It->Hp->Prop),Inv X pins σ H s->wi σ H R ->
  wpAny (model X.prog X.w) X.A (eval iter X.env) (λv s1=>wpAny (model X.prog X.w) X.A (pyIter v) (PIE X pins σ tg R) X.xe s1) X.xe s
theorem El{M:Model}{E:qad}{s:Shared}{tg:Expr}{it:Addr}{o:Obj}{n:String}{vs:Array Value}{Q:Unit->Shared->Prop}(ho:s.heap.get? it=some o)(hc:o.cls=.type n)(hd:o.data=.fields vs)(hn:["enumerate","zip","dict_itemiterator","dict_reverseitemiterator","odict_iterator","itertools.zip_longest","itertools.pairwise"].contains n=false)(hQ:Q () s):wpAny M A (letOwnedTupleGo tg (.ref it) u) Q E s:=by
 unfold letOwnedTupleGo;cases tg<;>first
  |exact wpAny_pure hQ
  | (cases u<;>first
      |exact wpAny_pure hQ
      | (refine wpAny_bind (wpAny_load ho ?_)
         rw[hc,hd];show wpAny M A (if (["enumerate","zip","dict_itemiterator","dict_reverseitemiterator","odict_iterator","itertools.zip_longest","itertools.pairwise"].contains n && vs[0]?==some (rawInt _))=true then _ else _) Q E s;rw[if_neg (by intro h;rw[hn,YV] at h;cases h)];exact wpAny_pure hQ))
def Itl(K:qaf)(a:Addr):It :=
 ⟨λi H=>∃xs x,iV K H a xs/\xs[i]?=some x,λi H x H'=>H'=H/\∀xs,iV K H a xs->xs[i]?=some x,λi H=>∃xs,iV K H a xs/\xs.length<=i⟩
def Itt(K:qaf)(a:Addr):It :=
 ⟨λi H=>∃xs x,fM K H a xs/\xs[i]?=some x,λi H x H'=>H'=H/\∀xs,fM K H a xs->xs[i]?=some x,λi H=>∃xs,fM K H a xs/\xs.length<=i⟩
def Y_(lo:Int)(n:Nat):It:=⟨λi _=>i<n,λi H x H'=>H'=H/\x=.int (lo+i),λi _=>n<=i⟩
theorem FU{K:qaf}{tg:Expr}(a it:Addr):Turn P w K tg (Itl K a) [it] it (λi h=>h.IsListIter it a i) where
 mem:=by simp
 obj:=λi h st b hb=>by
  have e:b=it:=by simpa using hb
  subst e;obtain⟨o,e,c,d⟩:=st;exact⟨o,e,λv z=>by rw[d] at z;cases z⟩
 keep:=λi h h' st k=>st.at λo e=>k it (by simp) o e
 item:=by intro X hP hw hK hc i pins s σ H E I hf st hg;subst hP hw hK;obtain⟨xs,x,hq,hx⟩:=hg;obtain⟨a4,rv,p,hz⟩:=I.list hq;obtain⟨u,hu,ru⟩:=rv.get hx;obtain⟨f0,f1,f2,f3,f4,f5⟩:=hf it (by simp);refine wpAny_pyNext_list_item st p.isList (x:=u) (by simpa using hu) λh' BK sb=>?_;have I1:Inv X pins σ H {s with heap:=h'}:=I.turned (t':=s.toks) (λb o hb e=>(sb.2 b hb).trans e) f0 f1 f3 f4 f5;obtain⟨o,e,c,d⟩:=id BK;exact⟨u,rfl,El (s:={s with heap:=h'}) e c d (by decide) ⟨x,H,I1,ru,⟨rfl,λys hy=>by rw[I.qW hy hq];exact hx⟩,BK,λb hb=>(hf b hb).1⟩⟩
 done:=by intro X hP hw hK hc i pins s σ H E I hf st hg;subst hP hw hK;obtain⟨xs,hq,hx⟩:=hg;obtain⟨a4,rv,p,hz⟩:=I.list hq;obtain⟨f0,f1,f2,f3,f4,f5⟩:=hf it (by simp);have hl:=rv.length;exact wpAny_pyNext_list_end (I.ok.hd hc) st p.isList (by simp;omega) λh' eb=>⟨rfl,I.turned (t':=s.toks) (λb o hb e=>eb b o hb e) f0 f1 f3 f4 f5⟩
 self:=λ_ _ _ _ _ st h=>wpAny_pyIter_listiter st h
theorem BL{K:qaf}{tg:Expr}(a it:Addr):Turn P w K tg (Itt K a) [it] it (λi h=>h.IsTupleIter it a i) where
 mem:=by simp
 obj:=λi h st b hb=>by
  have e:b=it:=by simpa using hb
  subst e;obtain⟨o,e,c,d⟩:=st;exact⟨o,e,λv z=>by rw[d] at z;cases z⟩
 keep:=λi h h' st k=>st.at λo e=>k it (by simp) o e
 item:=by intro X hP hw hK hc i pins s σ H E I hf st hg;subst hP hw hK;obtain⟨xs,x,hq,hx⟩:=hg;obtain⟨a4,rv,p,hz⟩:=I.tuple hq;obtain⟨u,hu,ru⟩:=rv.get hx;obtain⟨f0,f1,f2,f3,f4,f5⟩:=hf it (by simp);refine wpAny_pyNext_tuple_item st (show s.heap.IsTuple a a4.toArray from p) (x:=u) (by simpa using hu) λh' BK sb=>?_;have I1:Inv X pins σ H {s with heap:=h'}:=I.turned (t':=s.toks) (λb o hb e=>(sb.2 b hb).trans e) f0 f1 f3 f4 f5;obtain⟨o,e,c,d⟩:=id BK;exact⟨u,rfl,El (s:={s with heap:=h'}) e c d (by decide) ⟨x,H,I1,ru,⟨rfl,λys hy=>by rw[I.om hy hq];exact hx⟩,BK,λb hb=>(hf b hb).1⟩⟩
 done:=by intro X hP hw hK hc i pins s σ H E I hf st hg;subst hP hw hK;obtain⟨xs,hq,hx⟩:=hg;obtain⟨a4,rv,p,hz⟩:=I.tuple hq;obtain⟨f0,f1,f2,f3,f4,f5⟩:=hf it (by simp);have hl:=rv.length;exact wpAny_pyNext_tuple_end (I.ok.hd hc) st (show s.heap.IsTuple a a4.toArray from p) (by simp;omega) λh' eb=>⟨rfl,I.turned (t':=s.toks) (λb o hb e=>eb b o hb e) f0 f1 f3 f4 f5⟩
 self:=λ_ _ _ _ _ st h=>wpAny_pyIter_tupleiter st h
theorem BM{K:qaf}{tg:Expr}(it:Addr)(lo:Int)(n:Nat):Turn P w K tg (Y_ lo n) [it] it (λi h=>IsRangeIter h it (lo+(i:Nat) * 1) ((n:Int)-(i:Nat)) 1) where
 mem:=by simp
 obj:=λi h st b hb=>by
  have e:b=it:=by simpa using hb
  subst e;exact⟨_,st,λv z=>by have z':Data.fields _=Data.cell v:=z;cases z'⟩
 keep:=λi h h' st k=>k it (by simp) _ st
 item:=by intro X hP hw hK hc i pins s σ H E I hf st hg;subst hP hw hK;obtain⟨f0,f1,f2,f3,f4,f5⟩:=hf it (by simp);have W:=Walks.range (prog:=X.prog) (w:=X.w) (I.ok.hd hc) it lo 1 n;refine W.item i s _ _ hg st λv h' tk hv BK kk=>?_;obtain⟨t,rfl⟩:=hv;have I1:Inv X pins σ H {s with heap:=h',toks:=tk}:=I.turned (λb o hb e=>kk b o (by simpa using hb) e) f0 f1 f3 f4 f5;refine⟨_,rfl,El (s:={s with heap:=h',toks:=tk}) (n:="range_iterator") BK rfl rfl (by decide) ⟨.int (lo+i),H,I1,⟨t,?_⟩,⟨rfl,rfl⟩,BK,λb hb=>(hf b hb).1⟩⟩;rw[Int.mul_one]
 done:=by intro X hP hw hK hc i pins s σ H E I hf st hg;subst hP hw hK;obtain⟨f0,f1,f2,f3,f4,f5⟩:=hf it (by simp);exact wpAny_pyNext_range_end (I.ok.hd hc) st (by have:n<=i:=hg;omega) λh' eb=>⟨rfl,I.turned (t':=s.toks) (λb o hb e=>eb b o hb e) f0 f1 f3 f4 f5⟩
 self:=λ_ _ _ _ _ st h=>wpAny_pyIter_rangeiter st h
section
variable{X:Cx}{tg:Expr}
theorem zd{pins:qaa}{σ:St}{H:Hp}{s:Shared}{R:It->Hp->Prop}{E:qad}{lo hi:Int}{t u v:Tok}{tk:Nat}(I:Inv X pins σ H s)(h1 : -(2 ^ 62)<=lo)(h2:lo<2 ^ 62)(h3 : -(2 ^ 62)<=hi)(h4:hi<2 ^ 62)(q:R (Y_ lo (hi-lo).toNat) H):wpAny (model X.prog X.w) X.A (pyIter (.ref s.heap.objs.size)) (PIE X pins σ tg R) E {s with heap:=s.heap.push {cls:=.type "range",data:=.fields #[.int lo t,.int hi u,.int 1 v]},toks:=tk}:=by
 refine wpAny_pyIter_range (IsRange.new ..) (small_one h1 h2 h3 h4) ?_;have I1:Inv X pins σ H {s with heap:=s.heap.push {cls:=.type "range",data:=.fields #[.int lo t,.int hi u,.int 1 v]},toks:=tk}:=I.kept λb o e=>og _ e;refine⟨(s.heap.push {cls:=.type "range",data:=.fields #[.int lo t,.int hi u,.int 1 v]}).objs.size,[(s.heap.push {cls:=.type "range",data:=.fields #[.int lo t,.int hi u,.int 1 v]}).objs.size],_,_,H,rfl,
  I1.kept (t':=tk) λb o e=>og _ e,BM _ lo (hi-lo).toNat,?_,λb hb=>?_,q⟩
 have e1:lo+((0:Nat):Int) * 1=lo:=by simp
 have e2:(((hi-lo).toNat:Nat):Int)-((0:Nat):Int)=Builtin.Range.rangeSize lo hi 1:=by rw[rangeSize_one];split<;>omega
 show IsRangeIter _ _ (lo+((0:Nat):Int) * 1) ((((hi-lo).toNat:Nat):Int)-((0:Nat):Int)) 1;rw[e1,e2];exact vy _ rfl;have e:b=(s.heap.push {cls:=.type "range",data:=.fields #[.int lo t,.int hi u,.int 1 v]}).objs.size:=by simpa using hb
 subst e;exact I1.qY (c_ _) (I1.cx.fresh (c_ _))
def Y'(ta:TA):TI:=λσ H R=>ta σ H λvs H1=>∃j:Int,vs=[.int j]/\-(2 ^ 62)<=j/\j<2 ^ 62/\R (Y_ 0 j.toNat) H1
def Za(ta:TA):TI:=λσ H R=>ta σ H λvs H1=>∃i j:Int,vs=[.int i,.int j]/\(-(2 ^ 62)<=i/\i<2 ^ 62/\-(2 ^ 62)<=j/\j<2 ^ 62)/\R (Y_ i (j-i).toNat) H1
theorem FV{a:Expr}{ta:TA}{pos:Pos}(hg:Gl X "range")(hm:X.mg "range"=none)(ha:PA X [a] ta)(hs:starEach [a] X.env=[(false,eval a X.env)]:=by rfl):PI X tg (.Call (.Name "range" p) [a] [] pos) (Y' ta):=by
 intro pins s σ H R I h;refine Call_ (lV I hg hm boot_range (YF (cc (ha pos pins s σ H _ I h) λus s1 ⟨vs,H1,I1,r1,q1⟩=>?_) hs rfl));obtain⟨j,e,q1,q2,q⟩:=q1;subst e;cases r1 with
 |cons r rr=>cases rr;obtain⟨t,rfl⟩:=r;exact call_range_1 (zd I1 (by omega) (by omega) q1 q2 (by simpa using q))
theorem FW{a:Expr}{ta:TA}{pos:Pos}(hg:Gl X "range")(hm:X.mg "range"=none)(ha:PA X [a,b] ta)(hs:starEach [a,b] X.env=[(false,eval a X.env),(false,eval b X.env)]:=by rfl)(FY:starEach [b] X.env=[(false,eval b X.env)]:=by rfl) :
  PI X tg (.Call (.Name "range" p) [a,b] [] pos) (Za ta):=by
 intro pins s σ H R I h;refine Call_ (lV I hg hm boot_range (YF (cc (ha pos pins s σ H _ I h) λus s1 ⟨vs,H1,I1,r1,q1⟩=>?_) (by rw[hs,FY]) (by rw[FY];rfl)));obtain⟨i,j,e,⟨q1,q2,q3,q4⟩,q⟩:=q1;subst e;cases r1 with
 |cons r rr=>
   cases rr with
   |cons r' rr=>cases rr;obtain⟨t,rfl⟩:=r;obtain⟨t',rfl⟩:=r';exact call_range_2 (zd I1 q1 q2 q3 q4 q)
def afl(wi:TI)(g:TG)(tb:TS):TS:=λD σ H=>wi σ H λJ H1=>∃W:Nat->Nat->St->Hp->Prop,(∃m,W 0 m σ H1)/\∀i m σ H,W i m σ H ->
 (J.stop i H/\D.nx σ H)\/(J.go i H/\∃N:St->Hp->Prop,(∀σ' H',N σ' H'->∃m',m'<m/\W (i+1) m' σ' H')/\∀x H',J.Y9 i H x H'->g x σ H' λσ2 H2=>tb {D with nx:=N,ct:=N,bk:=D.nx} σ2 H2)
def qZ(fp:qah)(h:Heap):qaa:=fp.filterMap λb=>(h.get? b).map λo=>(b,o)
theorem je{fp:qah}{b:Addr}{o:Obj}(hb:b∈fp)(e:h.get? b=some o):(b,o)∈qZ fp h:=acg.mpr ⟨b,hb,by rw[e];rfl⟩
theorem FZ{fp:qah}{p:Addr×Obj}(hp:p∈qZ fp h):p.1∈fp/\h.get? p.1=some p.2:=by
 obtain⟨b,hb,e⟩:=acg.mp hp;cases q:h.get? b with
 |none=>rw[q] at e;cases e
 |some o=>rw[q] at e;have e':(b,o)=p:=Option.some.inj e;subst e';exact⟨hb,q⟩
theorem Inv.pinned{pins:qaa}{σ:St}{H:Hp}{s:Shared}{fp:qah}(I:Inv X pins σ H s)(hf:∀b∈fp,qh X pins H b)(ho:∀b∈fp,∃o,s.heap.get? b=some o/\∀v,o.data≠.cell v):Inv X (pins++qZ fp s.heap) σ H s :=
 I.Ei λp hp=>(cU.mp hp).elim (λz=>I.pin p (bW _ z)) λz=>by obtain⟨hb,e⟩:=FZ z;obtain⟨f0,f1,f2,_⟩:=hf p.1 hb;obtain⟨o,e',d⟩:=ho p.1 hb;rw[e] at e';cases e';exact⟨e,f0,f1,f2,d⟩
theorem Inv.ni{pins pl:qaa}{σ:St}{H:Hp}{s:Shared}(I:Inv X (pins++pl) σ H s):Inv X pins σ H s:=I.Ei λp hp=>I.pin p (bW _ (cC _ hp))
theorem TN{body:qaq}{wi:TI}{g:TG}{tb:TS}{pos:Pos}(hp:PassesOwn (model X.prog X.w) X.A X.env X.xe)(hc:X.calm=true)(hi:PI X tg iter wi)(hg:PG X tg g)(hb:jc X body tb)(hs:∀x,foldedSetIterable iter X.env x=pure x:=by intro _;rfl):PS X (.For tg iter body [] pos) (afl wi g tb):=by
 intro pins s σ H D I h;refine wpAny_For (cc (hi pins s σ H _ I h) λv s1 h1=>cc h1 λitv s2 h2=>?_) hs;obtain⟨it,fp,tn,J,H2,e,I2,T,ze,f2,W,⟨m0,w0⟩,turn⟩:=h2;subst e;have TQ:∀{H':Hp},(∀b∈fp,H' b=none)->∀b∈fp,qh X pins H' b:=λhn b hb=>⟨hn b hb,(f2 b hb).2⟩;refine codeAny_forLoop_any (λn s'=>∃i σ' H',Inv X pins σ' H' s'/\tn i s'.heap/\(∀b∈fp,H' b=none)/\W i n σ' H') ?_ m0 ⟨0,σ,H2,I2,ze,λb hb=>(f2 b hb).1,w0⟩;rintro n s3 ⟨i,σ3,H3,I3,Zb,Zd,w3⟩;rcases turn i n σ3 H3 w3 with⟨stop,qn⟩|⟨go,N,hN,step⟩
 . refine wpAny_passesOwn hp (cc (T.done X rfl rfl rfl hc i pins s3 σ3 H3 X.xe I3 (TQ Zd) Zb stop) λr s4 ⟨hr,I4⟩=>?_);subst hr;exact wpAny_execs_nil ⟨σ3,H3,I4,qn⟩
 refine wpAny_passesOwn hp (cc (T.item X rfl rfl rfl hc i pins s3 σ3 H3 X.xe I3 (TQ Zd) Zb go) λr s4 ⟨u,hr,h4⟩=>?_);subst hr;refine wpAny_passesOwn hp (cc h4 λ_ s5 ⟨x,H5,I5,r5,y5,TR,fr5⟩=>?_);have I5':=I5.pinned (TQ fr5) (T.obj _ _ TR);refine wpAny_passesOwn hp (cc (hg _ s5 σ3 H5 x u _ I5' r5 (step x H5 y5)) λ_ s6 ⟨σ6,H6,I6,q6⟩=>?_);refine wpAny_passesOwn hp (cc (hb _ s6 σ6 H6 _ I6 q6) λf s7 q7=>?_);have again:∀{σ7:St}{H7:Hp},Inv X (pins++qZ fp s5.heap) σ7 H7 s7->N σ7 H7->∃m,m<n/\∃i σ' H',Inv X pins σ' H' s7/\tn i s7.heap/\(∀b∈fp,H' b=none)/\W i m σ' H':=λ{σ7 H7} I7 n7=>by obtain⟨m',hm,w7⟩:=hN σ7 H7 n7;refine⟨m',hm,i+1,σ7,H7,I7.ni,T.keep _ _ _ TR λb hb o e=>(I7.pin (b,o) (bW _ (bW _ (je hb e)))).1,λb hb=>?_,w7⟩;obtain⟨o,e,d⟩:=T.obj _ _ TR b hb;exact (I7.pin (b,o) (bW _ (bW _ (je hb e)))).2.1
 cases f with
 |brk=>obtain⟨σ7,H7,I7,q7⟩:=q7;exact⟨σ7,H7,I7.ni,q7⟩
 |ret v=>obtain⟨x7,σ7,H7,I7,r7,q7⟩:=q7;exact⟨x7,σ7,H7,I7.ni,r7,q7⟩
 |_=>obtain⟨σ7,H7,I7,n7⟩:=q7;exact again I7 n7
end
abbrev R2:=V->V->Hp->VK->Prop
def gH(X:Cx)(f:Value->Value->Sem Value)(r:R2):Prop :=
 ∀(pins:qaa)(s:Shared)(σ:St)(H:Hp)(x y:V)(v u:Value)(Q:VK),Inv X pins σ H s->RelV x v->RelV y u->r x y H Q ->
  wpAny (model X.prog X.w) X.A (f v u) (EP X pins σ Q) X.xe s
def UnR(X:Cx)(f:Value->Sem Value)(r:V->Hp->VK->Prop):Prop :=
 ∀(pins:qaa)(s:Shared)(σ:St)(H:Hp)(x:V)(v:Value)(Q:VK),Inv X pins σ H s->RelV x v->r x H Q ->
  wpAny (model X.prog X.w) X.A (f v) (EP X pins σ Q) X.xe s
def fF(X:Cx)(f:Value)(r:List V->Hp->VK->Prop):Prop :=
 ∀(pins:qaa)(s:Shared)(σ:St)(H:Hp)(xs:List V)(us:qag)(Q:VK),Inv X pins σ H s->Vals xs us->r xs H Q ->
  wpAny (model X.prog X.w) X.A (call f us) (EP X pins σ Q) X.xe s
def Ze(r:R2)(ta tb:TE):TE:=λσ H Q=>ta σ H λx H1=>tb σ H1 λy H2=>r x y H2 Q
def tUn(r:V->Hp->VK->Prop)(ta:TE):TE:=λσ H Q=>ta σ H λx H1=>r x H1 Q
def rI(C:Int->Int->Prop)(g:Int->Int->V):R2:=λx y H Q=>∃i j,x=.int i/\y=.int j/\C i j/\Q (g i j) H
def vC(g:Int->Int->V):R2:=λx y H Q=>∃i j,x=.int i/\y=.int j/\Q (g i j) H
def rU(g:Int->V):V->Hp->VK->Prop:=λx H Q=>∃i,x=.int i/\Q (g i) H
section
variable{X:Cx}{a:Expr}{ta tb tc:TE}{pos:Pos}
theorem TU(ha:PE X a ta)(hb:PE X b tb){pins:qaa}{s:Shared}{σ:St}{H:Hp}{R:V->V->Hp->Prop}(I:Inv X pins σ H s)(h:ta σ H λx H1=>tb σ H1 λy H2=>R x y H2){Q:qad}{f:Value->Value->Sem Value}(hf:∀v u s2 x y H2,Inv X pins σ H2 s2->RelV x v->RelV y u->R x y H2->wpAny (model X.prog X.w) X.A (f v u) Q X.xe s2) :
  wpAny (model X.prog X.w) X.A (eval a X.env) (λv s₁=>wpAny (model X.prog X.w) X.A (eval b X.env) (λu s₂=>wpAny (model X.prog X.w) X.A (f v u) Q X.xe s₂) X.xe s₁) X.xe s:=by
 refine cc (ha pins s σ H _ I h) λv s1 ⟨x,H1,I1,r1,q1⟩=>?_;refine cc (hb pins s1 σ H1 _ I1 q1) λu s2 ⟨y,H2,I2,r2,q2⟩=>?_;exact hf v u s2 x y H2 I2 r1 r2 q2
theorem RP{op:Operator}{r:R2}(ho:gH X (binaryOp op) r)(ha:PE X a ta)(hb:PE X b tb):PE X (.BinOp a op b pos) (Ze r ta tb):=by intro pins s σ H Q I h;exact wpAny_BinOp (TU ha hb I h λv u s2 x y H2 I2 rx ry q=>ho pins s2 σ H2 x y v u Q I2 rx ry q)
theorem RQ{op:UnaryOp}{r:V->Hp->VK->Prop}(ho:UnR X (unaryOp op) r)(ha:PE X a ta):PE X (.UnaryOp op a pos) (tUn r ta):=by intro pins s σ H Q I h;exact UnaryOp_ (cc (ha pins s σ H _ I h) λv s1 ⟨x,H1,I1,r1,q1⟩=>ho pins s1 σ H1 x v Q I1 r1 q1)
theorem TV{f:Value->Value->Sem Value}{C:Int->Int->Prop}{g:Int->Int->Int}(rule:∀(i j:Int) (t u:Tok) (s:Shared) (Q:qad) (E:qad),C i j->Q (.int (g i j) s.toks) {s with toks:=s.toks+1}->wpAny (model X.prog X.w) X.A (f (.int i t) (.int j u)) Q E s) :
  gH X f (rI C λi j=>.int (g i j)):=by
 intro pins s σ H x y v u Q I rx ry h;obtain⟨i,j,rfl,rfl,hc,q⟩:=h;obtain⟨t,rfl⟩:=rx;obtain⟨t',rfl⟩:=ry;exact rule i j t t' s _ _ hc ⟨.int (g i j),H,I.tok _,⟨_,rfl⟩,q⟩
theorem Zf{f:Value->Value->Sem Value}{g:Int->Int->Int}(rule:∀(i j:Int) (t u:Tok) (s:Shared) (Q:qad) (E:qad),Q (.int (g i j) s.toks) {s with toks:=s.toks+1}->wpAny (model X.prog X.w) X.A (f (.int i t) (.int j u)) Q E s) :
  gH X f (vC λi j=>.int (g i j)):=by
 intro pins s σ H x y v u Q I rx ry h;obtain⟨i,j,rfl,rfl,q⟩:=h;obtain⟨t,rfl⟩:=rx;obtain⟨t',rfl⟩:=ry;exact rule i j t t' s _ _ ⟨.int (g i j),H,I.tok _,⟨_,rfl⟩,q⟩
theorem Og{f:Value->Value->Sem Value}{g:Int->Int->Bool}(rule:∀(i j:Int) (t u:Tok) (s:Shared) (Q:qad) (E:qad),Q (.bool (g i j)) s->wpAny (model X.prog X.w) X.A (f (.int i t) (.int j u)) Q E s) :
  gH X f (vC λi j=>.bl (g i j)):=by
 intro pins s σ H x y v u Q I rx ry h;obtain⟨i,j,rfl,rfl,q⟩:=h;obtain⟨t,rfl⟩:=rx;obtain⟨t',rfl⟩:=ry;exact rule i j t t' s _ _ ⟨.bl (g i j),H,I,rfl,q⟩
def Zg(i j:Int):Prop:=0<j/\j<1073741824
def Zh(i j:Int):Prop:=0<=j/\j<=1000000/\i.natAbs<2 ^ 64
def Jc(i j:Int):Prop:=(-(2 ^ 64)<i/\i<2 ^ 64)\/(-(2 ^ 64)<j/\j<2 ^ 64)
theorem Jc.ok{i j:Int}(h:Jc i j):IntMulOk i j:=by
 obtain⟨h1,h2⟩|⟨h1,h2⟩:=h
 exact .of_left (intBits_le_64 h1 h2);exact .of_right (intBits_le_64 h1 h2)
theorem TX:gH X (binaryOp .Add) (vC λi j=>.int (i+j)):=Zf λ_ _ _ _ _ _ _ q=>add_int q
theorem TY:gH X (binaryOp .Sub) (vC λi j=>.int (i-j)):=Zf λ_ _ _ _ _ _ _ q=>sub_int q
theorem TZ:gH X (binaryOp .Mult) (rI Jc λi j=>.int (i * j)):=TV λ_ _ _ _ _ _ _ hc q=>mul_int q hc.ok
theorem Oh:gH X (binaryOp .FloorDiv) (rI Zg λi j=>.int (i / j)):=TV λi j _ _ _ _ _ hc q=>by have h1:(0:Int)<j:=hc.1;have h2:j<1073741824:=hc.2;exact floordiv_int (by omega) (by rw[Int.fdiv_eq_ediv_of_nonneg i (by omega)];exact q) (.inl (PyProof.noPylong_small (by omega)))
theorem T1:gH X (binaryOp .Mod) (rI (λ_ j=>0<j) λi j=>.int (i % j)):=TV λi j _ _ _ _ _ hc q=>by have h1:(0:Int)<j:=hc;exact mod_int' (by omega) (by rw[Int.fmod_eq_emod_of_nonneg i (by omega)];exact q)
theorem T2:gH X (binaryOp .Pow) (rI Zh λi j=>.int (i ^ j.toNat)):=TV λ_ _ _ _ _ _ _ hc q=>pow_int_small hc.1 hc.2.1 hc.2.2 q
theorem unI{f:Value->Sem Value}{g:Int->Int}(rule:∀(i:Int) (t:Tok) (s:Shared) (Q:qad) (E:qad),Q (.int (g i) s.toks) {s with toks:=s.toks+1}->wpAny (model X.prog X.w) X.A (f (.int i t)) Q E s) :
  UnR X f (rU λi=>.int (g i)):=by
 intro pins s σ H x v Q I rx h;obtain⟨i,rfl,q⟩:=h;obtain⟨t,rfl⟩:=rx;exact rule i t s _ _ ⟨.int (g i),H,I.tok _,⟨_,rfl⟩,q⟩
theorem Jd:UnR X (unaryOp .USub) (rU λi=>.int (-i)):=unI λ_ _ _ _ _ q=>neg_int q
end
section
variable{X:Cx}{a:Expr}{ta tb tc:TE}{pos:Pos}
theorem BN{pins:qaa}{σ:St}{H:Hp}{s:Shared}{Q:VK}{k k':Bool}(I:Inv X pins σ H s)(q:Q (.bl k) H)(e:k=k'):EP X pins σ Q (.bool k') s:=by subst e;exact⟨.bl k,H,I,rfl,q⟩
theorem Zi:gH X (compareOp .Lt) (vC λi j=>.bl (decide (i<j))):=Og λ_ _ _ _ _ _ _ q=>lt_int q
theorem zg:gH X (compareOp .LtE) (vC λi j=>.bl (decide (i<=j))):=Og λ_ _ _ _ _ _ _ q=>le_int q
theorem Zj:gH X (compareOp .Gt) (vC λi j=>.bl (decide (j<i))):=Og λ_ _ _ _ _ _ _ q=>gt_int q
theorem Zk:gH X (compareOp .GtE) (vC λi j=>.bl (decide (j<=i))):=Og λ_ _ _ _ _ _ _ q=>ge_int q
theorem F0:gH X (compareOp .In) (λx y H Q=>∃i j,x=.str i/\y=.str j/\Q (.bl (!(Builtin.Str.occurrences j i 0 j.length 1).isEmpty)) H):=by intro pins s σ H x y v u Q I rx ry h;obtain⟨i,j,rfl,rfl,q⟩:=h;obtain⟨t,rfl⟩:=rx;obtain⟨t',rfl⟩:=ry;exact in_str (BN I q rfl)
theorem T3:gH X (compareOp .Is) (λx y H Q=>y=.aP/\Q (.bl (decide (x=.aP))) H):=by
 intro pins s σ H x y v u Q I rx ry h;obtain⟨rfl,q⟩:=h;cases ry;refine is_none_gen (BN I q ?_);cases x<;>first
  | (cases rx;rfl)
  | (obtain⟨t,rfl⟩:=rx;rfl)
theorem Oi:gH X (compareOp .IsNot) (λx y H Q=>y=.aP/\Q (.bl (!decide (x=.aP))) H):=by
 intro pins s σ H x y v u Q I rx ry h;obtain⟨rfl,q⟩:=h;cases ry;refine isnot_none_gen (BN I q ?_);cases x<;>first
  | (cases rx;rfl)
  | (obtain⟨t,rfl⟩:=rx;rfl)
theorem gH.or{f:Value->Value->Sem Value}{r r':R2}(h:gH X f r)(h':gH X f r'):gH X f (λx y H Q=>r x y H Q\/r' x y H Q):=by
 intro pins s σ H x y v u Q I rx ry q;obtain q|q:=q
 exact h pins s σ H x y v u Q I rx ry q;exact h' pins s σ H x y v u Q I rx ry q
theorem jf(b:Expr){op:CmpOp}(h:op≠.In:=by decide)(h2:op≠.NotIn:=by decide):behindInMarks op b=false:=by
 have e1:(op==CmpOp.In)=false:=by cases op<;>first|rfl|exact absurd rfl h
 have e2:(op==CmpOp.NotIn)=false:=by cases op<;>first|rfl|exact absurd rfl h2
 cases b<;>simp[behindInMarks,e1,e2]
theorem Oj{op:CmpOp}{r:R2}(ho:gH X (compareOp op) r)(ha:PE X a ta)(hb:PE X b tb)(hm:behindInMarks op b=false):PE X (.Compare a [op] [b] pos) (Ze r ta tb):=by intro pins s σ H Q I h;exact wpAny_Compare1 (TU ha hb I h λv u s2 x y H2 I2 rx ry q=>ho pins s2 σ H2 x y v u Q I2 rx ry q) hm
def RS(t:TE):TT:=λσ H Q=>t σ H λx H'=>∃k,x=.bl k/\Q k H'
theorem Ol{op:CmpOp}{r:R2}(ho:gH X (compareOp op) r)(ha:PE X a ta)(hb:PE X b tb)(hm:behindInMarks op b=false):PT X (.Compare a [op] [b] pos) (RS (Ze r ta tb)):=by
 intro pins s σ H Q I h;refine wpAny_isTrue_Compare1 (cc (ha pins s σ H _ I h) λv s1 ⟨x,H1,I1,r1,q1⟩=>cc (hb pins s1 σ H1 _ I1 q1) λu s2 ⟨y,H2,I2,r2,q2⟩ =>
  cc (ho pins s2 σ H2 x y v u _ I2 r1 r2 q2) λc s3 ⟨z,H3,I3,r3,k,e,q3⟩=>?_) hm
 subst e;cases r3;exact wpAny_truthy_bool ⟨H3,I3,q3⟩
def BO(r r':R2)(ta tb tc:TE):TE:=λσ H Q=>ta σ H λx H1=>tb σ H1 λy H2=>r x y H2 λz H3=>∃k,z=.bl k /\
 (if k=true then tc σ H3 λw' H4=>r' y w' H4 Q else Q (.bl false) H3)
theorem Je{op BP:CmpOp}{r r':R2}(ho:gH X (compareOp op) r)(jP:gH X (compareOp BP) r')(ha:PE X a ta)(hb:PE X b tb)(hc:PE X c tc)(hm:lastMarks [op,BP] [b,c]=false:=by with_unfolding_all rfl):PE X (.Compare a [op,BP] [b,c] pos) (BO r r' ta tb tc):=by
 intro pins s σ H Q I h;refine Compare_chain (cc (ha pins s σ H _ I h) λv s1 ⟨x,H1,I1,r1,q1⟩=>chain_link (cc (hb pins s1 σ H1 _ I1 q1) λu s2 ⟨y,H2,I2,r2,q2⟩ =>
  cc (ho pins s2 σ H2 x y v u _ I2 r1 r2 q2) λd s3 ⟨z,H3,I3,r3,k,e,q3⟩=>?_)) hm
 subst e;cases r3;refine wpAny_truthy_bool ?_;cases k with
 |false=>exact ite_ff ⟨.bl false,H3,I3,rfl,q3⟩
 |true=>exact ite_tt (chain_last (cc (hc pins s3 σ H3 _ I3 q3) λw' s4 ⟨z',H4,I4,r4,q4⟩=>jP pins s4 σ H4 y z' u w' Q I4 r2 r4 q4))
theorem Jf{op BP:CmpOp}{r r':R2}(ho:gH X (compareOp op) r)(jP:gH X (compareOp BP) r')(ha:PE X a ta)(hb:PE X b tb)(hc:PE X c tc)(hm:lastMarks [op,BP] [b,c]=false:=by with_unfolding_all rfl):PT X (.Compare a [op,BP] [b,c] pos) (RS (BO r r' ta tb tc)):=by
 intro pins s σ H Q I h;refine isTrue_chain (cc (ha pins s σ H _ I h) λv s1 ⟨x,H1,I1,r1,q1⟩=>test_link (cc (hb pins s1 σ H1 _ I1 q1) λu s2 ⟨y,H2,I2,r2,q2⟩ =>
  cc (ho pins s2 σ H2 x y v u _ I2 r1 r2 q2) λd s3 ⟨z,H3,I3,r3,k,e,q3⟩=>?_)) hm
 subst e;cases r3;refine wpAny_truthy_bool ?_;cases k with
 |false=>obtain⟨k',e',q'⟩:=q3;cases e';exact ite_ff ⟨H3,I3,q'⟩
 |true=>refine ite_tt (test_last (cc (hc pins s3 σ H3 _ I3 q3) λw' s4 ⟨z',H4,I4,r4,q4⟩=>cc (jP pins s4 σ H4 y z' u w' _ I4 r2 r4 q4) λd' s5 ⟨z2,H5,I5,r5,k2,e2,q5⟩=>?_));subst e2;cases r5;exact wpAny_truthy_bool ⟨H5,I5,q5⟩
theorem ot:(sizeLine:Nat)<2 ^ 63:=by rw[sizeLine_eq];decide
theorem BQ:gH X (binaryOp .Add) (λx y H Q=>∃i j,x=.str i/\y=.str j/\i.length+j.length<=sizeLine/\Q (.str (i++j)) H):=by intro pins s σ H x y v u Q I rx ry h;obtain⟨i,j,rfl,rfl,hz,q⟩:=h;obtain⟨t,rfl⟩:=rx;obtain⟨t',rfl⟩:=ry;exact add_str (λt' tk=>⟨.str (i++j),H,I.tok _,⟨_,rfl⟩,q⟩) hz
theorem vals1{x:V}{us:qag}(r:Vals [x] us):∃u,us=[u]/\RelV x u:=by
 cases r with
 |cons r1 r2=>cases r2;exact⟨_,rfl,r1⟩
theorem vals2{x y:V}{us:qag}(r:Vals [x,y] us):∃u w',us=[u,w']/\RelV x u/\RelV y w':=by
 cases r with
 |cons r1 r2=>
  cases r2 with
  |cons r3 r4=>cases r4;exact⟨_,_,rfl,r1,r3⟩
end
structure F4(h:Heap)(x dx C:Addr)(mA:qae):Prop where
 obj:h.get? x=some (PySem.W.instObj C dx)
 ns:h.Ns1 dx mA
 ne:dx≠x
theorem F5{mA:qae}(n:h.Ns1 dx mA):∃od,h.get? dx=some od/\∀name,PySem.W.lookIn name od=some (mA name):=by
 obtain⟨o,es,ep,ho,hd,hk,_,hm⟩:=n;refine⟨o,ho,λname=>?_⟩;have e:=hm name;unfold nsFind findBy at e;rw[<- Array.find?_toList] at e;unfold PySem.W.lookIn;rw[hd];dsimp only;split
 rename_i y q
 rw[q] at e;exact congrArg some e
 rename_i q
 rw[q] at e;have a:es.toList.any (·.refKey)=false:=by rw[List.any_eq_false];intro y hy;obtain⟨z,t,afm⟩:=hk y (Array.mem_toList_iff.mp hy);simp[DictEntry.refKey,afm]
 have a':¬ es.toList.any (·.refKey)=true:=by rw[a];exact jb
 rw[if_neg a'];exact congrArg some e
theorem F4.look{x:Addr}{mA:qae}(I:F4 h x dx C mA):∃od,PySem.W.InstAt h x (PySem.W.instObj C dx) C (some od)/\∀name,PySem.W.lookIn name od=some (mA name) :=
 let ⟨od,ho,hl⟩:=F5 I.ns
 ⟨od,⟨I.obj,rfl,rfl,ho⟩,hl⟩
section
variable{E:qad}{s:Shared}{K:qaf}{x:Addr}{mA:qae}{name:Str}{v:Value}
theorem get_map{expr:Bool}{Q:qad}(X:K.In s.heap)(I:F4 s.heap x dx C mA)(hg:PySem.W.plainGet K C name=true)(hh:PySem.W.hasDictIn K C=true)(ha:PySem.W.findIn K (.ref C) name=some none)(hv:mA name=some v)(Jg:PySem.W.handedIn v=true)(h:Q v {s with toks:=s.toks+1}) :
  wpAny (model prog w) A (getAttr (.ref x) name expr) Q E s:=by
 obtain⟨od,J,hl⟩:=I.look;exact PySem.W.get_value X J (PySem.W.plainGet_of hg).1 (PySem.W.findObj_own hh ha rfl (by rw[hl,hv])) Jg h
theorem Om{ns:qai}{Q:Unit->Shared->Prop}(X:K.In s.heap)(I:F4 s.heap x dx C mA)(hs:PySem.W.findIn K (.ref C) "__setattr__"=some (some (.builtin "object.__setattr__")))(hp:PySem.W.plainOver K C=true)(ht:PySem.W.takerIn K C name=some none)(hh:PySem.W.hasDictIn K C=true)(hw:PySem.Within mA ns)(hsz:ns.length<=sizeLine)(h:∀h',F4 h' x dx C (λy=>if y=name then some v else mA y)->Heap.SameBut dx s.heap h'->Q () {s with heap:=h',toks:=s.toks+2}) :
  wpAny (model prog w) A (setAttr (.ref x) name v) Q E s:=by
 obtain⟨od,J,hl⟩:=I.look;refine PySem.W.set_plain X J hs (PySem.W.osa_open (s:={s with toks:=s.toks+1}) (r:=none) X J hp ht λb=>?_);obtain⟨cd,hc,IH⟩:=PySem.W.any_some hh;have hx:s.heap.get? x=some ⟨.ref C,some dx,.plain,#[]⟩:=I.obj;refine wpAny_bind (wpAny_pure (wpAny_bind (wpAny_bind (wpAny_loadPart hx (wpAny_bind (PySem.W.Looks.here (s:={s with toks:=s.toks+1}) (PySem.W.looks_clsIn X hc) ?_))))));rw[IH];refine wpAny_pure (a:=some dx) (wpAny_bind (wpAny_pure (wpAny_bind ?_)));refine wpAny_nsSet1 (s:={s with toks:=s.toks+1}) I.ns λh' hn2 FY=>?_;obtain⟨oD,esD,epD,hoD,hdD,hcD⟩:=hn2.count (PySem.Within.cons name v hw);refine wpAny_bind (wpAny_lookBehind hoD (by rw[hdD];exact pastItsLine_dict (mX hcD (by rw[y4];omega))) ?_);exact wpAny_pure (h _ ⟨(FY.2 _ (Ne.symm I.ne)).trans I.obj,hn2,I.ne⟩ FY)
theorem Jh{R:Result->Shared->Prop}{vs:qag}{kw:List (Str×Value)}(X:K.In s.heap)(hm:PySem.W.makesIn K C=true)(hi:PySem.W.findIn K (.ref C) "__init__"=some (some (.ref f)))(hf:PySem.W.typeIn K (.ref f)=some (.type "function"))(h:codeAny (model prog w) (A.under (.builtin "type.__call__" ⟨.ref C::vs,kw⟩)) (.call (.ref f) ⟨.ref (s.heap.objs.size+1)::vs,kw⟩) (PySem.W.InitBack (s.heap.objs.size+1) R)
    {s with heap:=(s.heap.push PySem.W.emptyDict).push (PySem.W.instObj C s.heap.objs.size)}) :
  codeAny (model prog w) A (.call (.ref C) ⟨vs,kw⟩) R s:=by
 obtain⟨hh,g,d,t,os⟩:=s;exact PySem.W.make_core (PySem.W.makes_of X hm) (PySem.W.looks_findIn X hi) (λself=>PySem.W.bind_fn X self hf) (.inl rfl) h
end
def eI(f:Str)(v:V):List (Str×V)->List (Str×V)
 |[]=>[(f,v)]
 | (g,x)::r=>if g=f then (g,v)::r else (g,x)::eI f v r
theorem pK(f g:Str)(v:V):∀fs:List (Str×V),(eI f v fs).lookup g=if g=f then some v else fs.lookup g
 |[]=>by show List.lookup g [(f,v)]=_;by_cases h:g=f;have hb:(g==f)=true:=beq_iff_eq.mpr h;simp only[List.lookup,hb,if_pos h];have hb:(g==f)=false:=beq_eq_false_iff_ne.mpr h;simp only[List.lookup,hb,if_neg h]
 | (k,x)::r=>by have ih:=pK f g v r;rw[show eI f v ((k,x)::r)=(if k=f then (k,v)::r else (k,x)::eI f v r) from rfl];by_cases hk:k=f;rw[if_pos hk];by_cases h:g=k;have hb:(g==k)=true:=beq_iff_eq.mpr h;simp only[List.lookup,hb,if_pos (h.trans hk)];have hb:(g==k)=false:=beq_eq_false_iff_ne.mpr h;simp only[List.lookup,hb,if_neg (λe:g=f=>h (e.trans hk.symm))];rw[if_neg hk];by_cases h:g=k;have hb:(g==k)=true:=beq_iff_eq.mpr h;simp only[List.lookup,hb,if_neg (λe:g=f=>hk (h.symm.trans e))];have hb:(g==k)=false:=beq_eq_false_iff_ne.mpr h;simp only[List.lookup,hb];exact ih
theorem ou(f:Str)(v:V):∀fs:List (Str×V),f∈(eI f v fs).map (·.1)/\∀g,g∈fs.map (·.1)->g∈(eI f v fs).map (·.1)
 |[]=>⟨by simp[eI],λg h=>by simp at h⟩
 | (k,x)::r=>by
  obtain⟨i1,i2⟩:=ou f v r;rw[show eI f v ((k,x)::r)=(if k=f then (k,v)::r else (k,x)::eI f v r) from rfl];by_cases hk:k=f;rw[if_pos hk];subst hk;exact⟨by simp,λg h=>by simpa using h⟩;rw[if_neg hk];refine⟨?_,λg h=>?_⟩;rw[ix];exact ic _ i1;rw[ix] at h ⊢;rcases c4.mp h with e|e
  exact c4.mpr (.inl e);exact ic _ (i2 g e)
theorem pL(f:Str)(v:V):∀fs:List (Str×V),(eI f v fs).length<=fs.length+1
 |[]=>by simp[eI]
 | (k,x)::r=>by have ih:=pL f v r;rw[show eI f v ((k,x)::r)=(if k=f then (k,v)::r else (k,x)::eI f v r) from rfl];by_cases hk:k=f;rw[if_pos hk,y4,y4];omega;rw[if_neg hk,y4,y4];omega
theorem lx.some_of{v:V}{o:Option Value}(r:lx (some v) o):∃u,o=some u/\RelV v u:=by
 cases o with
 |none=>exact (show False from r).elim
 |some u=>exact⟨u,rfl,r⟩
theorem F6{v:V}(r:RelV v u):PySem.W.handedIn u=true:=by
 cases v with
 |aP=>cases (show u=Value.none from r);rfl
 |bl b=>cases (show u=Value.bool b from r);rfl
 |int i=>obtain⟨t,e⟩:=(show ∃t,u=Value.int i t from r);cases e;rfl
 |str x=>obtain⟨t,e⟩:=(show ∃t,u=Value.str x t from r);cases e;rfl
 |byt b=>obtain⟨t,e⟩:=(show ∃t,u=Value.bytes b t from r);cases e;rfl
 |X6 b=>obtain⟨t,e⟩:=(show ∃t,u=Value.float b t from r);cases e;rfl
 |ref a=>cases (show u=Value.ref a from r);rfl
 |ty n=>cases (show u=Value.type n from r);rfl
section
variable{H H':Hp}{fs fs':List (Str×V)}
theorem Em(cx:mY P w H h)(e:H a=some (.ins C dx fs)):∃mA,F4 h a dx C mA/\(∀f,lx (fs.lookup f) (mA f))/\PySem.Within mA (fs.map (·.1))/\fs.length<=1000/\H dx=some (.own a):=by obtain⟨d,z,ne,ob,mA,n,r,q⟩:=(show cH P w H h a (.ins C dx fs) from cx a _ e);exact⟨mA,⟨ob,n,ne⟩,r,q,z,d⟩
end
structure BR(K:qaf)(C:Addr):Prop where
 pg:PySem.W.plainGet K C Str.empty=true
 hd:PySem.W.hasDictIn K C=true
 po:PySem.W.plainOver K C=true
 sa:PySem.W.findIn K (.ref C) "__setattr__"=some (some (.builtin "object.__setattr__"))
theorem BR.get{K:qaf}{C:Addr}(c:BR K C)(f:Str):PySem.W.plainGet K C f=true:=c.pg
def bp(K:qaf)(C:Addr)(f:Str):Prop:=PySem.W.findIn K (.ref C) f=some none
theorem bp.Zl{K:qaf}{f:Str}(n:bp K C f):PySem.W.takerIn K C f=some none:=by unfold PySem.W.takerIn;rw[show PySem.W.findIn K (.ref C) f=some none from n];rfl
section
variable{X:Cx}{pins:qaa}{σ:St}{H:Hp}{s:Shared}{fs:List (Str×V)}{f:Str}{v:V}{E:qad}
theorem BU{b:Bool}{Q:qad}(I:Inv X pins σ H s)(e:H a=some (.ins C dx fs))(c:BR X.K C)(n:bp X.K C f)(l:fs.lookup f=some v)(h:∀u s',Inv X pins σ H s'->RelV v u->Q u s'):wpAny (model X.prog X.w) A (getAttr (.ref a) f b) Q E s:=by obtain⟨mA,O,r,_,_,_⟩:=Em I.cx e;obtain⟨u,hu,ru⟩:=lx.some_of (v:=v) (o:=mA f) (by rw[<- l];exact r f);exact get_map I.ue O (c.get f) c.hd n hu (F6 ru) (h u _ (I.tok _) ru)
theorem BV{y:V}{Q:Unit->Shared->Prop}(I:Inv X pins σ H s)(e:H a=some (.ins C dx fs))(c:BR X.K C)(n:bp X.K C f)(hl:fs.length<1000)(ry:RelV y u)(h:∀s',Inv X pins σ (upd H a (.ins C dx (eI f y fs))) s'->Q () s'):wpAny (model X.prog X.w) A (setAttr (.ref a) f u) Q E s:=by
 obtain⟨mA,O,r,wi,_,ho⟩:=Em I.cx e;have hz:(fs.map (·.1)).length<=sizeLine:=by rw[c3,sizeLine_eq];omega
 refine Om I.ue O c.sa c.po n.Zl c.hd wi hz λh' O' sb=>h _ ?_;have hd:∃o,h'.get? dx=some o:=let ⟨o,_,_,e',_⟩:=O'.ns;⟨o,e'⟩;refine I.write (x:=a) (e:=dx) (by rw[e];exact True.intro) (.inr ho) (λb q hb z=>(sb.2 b hb).trans z) hd ?_;refine⟨by rw[aE O.ne];exact ho,?_,O.ne,O'.obj,_,O'.ns,λg=>?_,λg hg=>?_⟩;have:=pL f y fs;omega;show lx ((eI f y fs).lookup g) (if g=f then some u else mA g);rw[pK];by_cases q:g=f;rw[if_pos q,if_pos q];exact ry;rw[if_neg q,if_neg q];exact r g;by_cases q:g=f;rw[q];exact (ou f y fs).1;refine (ou f y fs).2 g (wi g λz=>hg ?_);show (if g=f then some u else mA g)=none;rw[if_neg q];exact z
theorem Inv.made(I:Inv X pins σ H s):Inv X pins σ (upd (upd H s.heap.objs.size (.own (s.heap.objs.size+1))) (s.heap.objs.size+1) (.ins C s.heap.objs.size []))
  {s with heap:=(s.heap.push PySem.W.emptyDict).push (PySem.W.instObj C s.heap.objs.size)}:=by
 have e1:(s.heap.push PySem.W.emptyDict).get? s.heap.objs.size=some PySem.W.emptyDict:=vy s.heap rfl;have e2:((s.heap.push PySem.W.emptyDict).push (PySem.W.instObj C s.heap.objs.size)).get? (s.heap.objs.size+1)=some (PySem.W.instObj C s.heap.objs.size):=by
  have:=vy (s.heap.push PySem.W.emptyDict) (o:=PySem.W.instObj C s.heap.objs.size) rfl
  rwa [YW] at this
 have e3:(s.heap.push PySem.W.emptyDict).Ns s.heap.objs.size (λ_=>none):=⟨PySem.W.emptyDict,#[],_,e1,rfl,(λe he=>absurd he (by simp)),λ_=>rfl⟩;have I1:=I.laid (a:=s.heap.objs.size) (o:=.own (s.heap.objs.size+1)) (h':=s.heap.push PySem.W.emptyDict) (t':=s.toks) (λb u q=>og _ q) (c_ _) ⟨_,e1⟩;refine I1.laid (a:=s.heap.objs.size+1) (o:=.ins C s.heap.objs.size []) (t':=s.toks) (λb u q=>og _ q) (Nat.le_of_eq (YW _ _)) ?_;have ne:s.heap.objs.size≠s.heap.objs.size+1:=pJ (ID _);refine⟨by rw[aE ne,aH],jU _,ne,e2,λ_=>none,(Heap.Ns1.of_empty e3).at λo q=>og _ q,λ_=>True.intro,λy hy=>absurd rfl hy⟩
theorem Oo{env:Env}{f:Str}{pos:Pos}{s:Shared}{Q:qad}(hb:attributeBase e f env (eval e env)=eval e env)(h:wpAny (model prog w) A (eval e env) (λo s₁=>wpAny (model prog w) A (getAttr o f true) Q E s₁) E s):wpAny (model prog w) A (eval (.Attribute e f pos) env) Q E s :=
 Attribute_any_ h (by rw[arm_eval_Attribute,hb])
end
def afn(K:qaf)(ta:TE)(f:Str):TE:=λσ H Q=>ta σ H λx H1=>∃a C dx fs v,x=.ref a/\H1 a=some (.ins C dx fs)/\BR K C/\bp K C f/\fs.lookup f=some v/\Q v H1
def afo(K:qaf)(ta tv:TE)(f:Str):TS:=λD σ H=>tv σ H λy H1=>ta σ H1 λx H2=>∃a C dx fs,x=.ref a/\H2 a=some (.ins C dx fs)/\BR K C/\bp K C f/\fs.length<1000 /\
 D.nx σ (upd H2 a (.ins C dx (eI f y fs)))
section
variable{X:Cx}{value:Expr}{f:Str}{pos pos':Pos}{ta tv:TE}
theorem BW(he:PE X e ta)(hb:attributeBase e f X.env (eval e X.env)=eval e X.env):PE X (.Attribute e f pos) (afn X.K ta f):=by intro pins s σ H Q I h;refine Oo hb (cc (he pins s σ H _ I h) λu s1 ⟨x,H1,I1,rx,a,C,dx,fs,v,ex,ea,c,n,l,q⟩=>?_);subst ex;obtain rfl:u=Value.ref a:=rx;exact BU I1 ea c n l λu' s2 I2 ru=>⟨v,H1,I2,ru,q⟩
theorem gT(ha:PE X o ta)(hv:PE X value tv)(hs:swapsWith value (some (.Attribute o f pos')) pos.line X.env=pure false):PS X (.Assign [.Attribute o f pos'] value pos) (afo X.K ta tv f):=by intro pins s σ H D I h;refine plainObj_wpAny_Assign_Attribute (cc (hv pins s σ H _ I h) λu s1 ⟨y,H1,I1,ry,q⟩=>cc (ha pins s1 σ H1 _ I1 q) λov s2 ⟨x,H2,I2,rx,a,C,dx,fs,ex,ea,c,n,l,q2⟩=>?_) hs;subst ex;obtain rfl:ov=Value.ref a:=rx;exact BV I2 ea c n l ry λs3 I3=>⟨σ,_,I3,q2⟩
end
structure bA(k:Nat)(A:Around):Prop where
 hd:A.handled=none
 dp:A.depth+3 * k+5<recursionLimit
 un:A.units+16 * k+200<cLine
theorem bA.mono{k:Nat}(r:bA k A)(h:j<=k):bA j A:=⟨r.hd,by have:=r.dp;omega,by have:=r.un;omega⟩
theorem bA.deeper{k:Nat}(r:bA (k+1) A)(env:Env):bA k (A.deeper env) :=
 ⟨r.hd,by have:=r.dp;show A.depth+1+3 * k+5<_;omega,by have:=r.un;show A.units+3+16 * k+200<_;omega⟩
theorem BX{us:qag}{kw:List (Str×Value)}:(A.under (.builtin "type.__call__" ⟨.ref C::us,kw⟩)).depth=A.depth+1:=by first|rfl|simp[Around.under,Code.weight,Code.isCreation,Code.isGuard,Code.isCaller,Code.frames,Code.isFrame,guardIds]
theorem BY{us:qag}{kw:List (Str×Value)}:(A.under (.builtin "type.__call__" ⟨.ref C::us,kw⟩)).units=A.units+1:=by first|rfl|simp[Around.under,Code.cUnits,Code.frames,Code.isFrame]
theorem bA.make{k:Nat}(r:bA (k+1) A)(C:Addr)(us:qag)(kw:List (Str×Value)):bA k (A.under (.builtin "type.__call__" ⟨.ref C::us,kw⟩)) :=
 ⟨r.hd,by have:=r.dp;rw[BX];omega,by have:=r.un;rw[BY];omega⟩
theorem bA.depth{k:Nat}(r:bA k A):A.depth<recursionLimit:=by have:=r.dp;omega
def afp:TA:=λ_ H Q=>Q [] H
def Zm(ta:TE)(tr:TA):TA:=λσ H Q=>ta σ H λx H1=>tr σ H1 λxs H2=>Q (x::xs) H2
section
variable{X:Cx}{es:qap}{te:TE}{t:TA}{pos:Pos}
theorem c6:PA X [] afp:=λ_ _ _ _ H Q I h=>Calls.spliced_nil ⟨[],H,I,.nil,h⟩
theorem bD(ha:PE X e te)(hr:PA X es t)(hs:starEach (e::es) X.env=(false,eval e X.env)::starEach es X.env:=by rfl):PA X (e::es) (Zm te t):=by intro pos pins s σ H Q I h;rw[hs];show wpAny _ _ (spliced ((false,eval e X.env)::backTo pos (starEach es X.env))) _ _ s;refine Th (cc (ha pins s σ H _ I h) λu s1 ⟨x,H1,I1,r1,q1⟩=>?_);exact cc (hr pos pins s1 σ H1 _ I1 q1) λus s2 ⟨xs,H2,I2,r2,q2⟩=>⟨x::xs,H2,I2,.cons r1 r2,q2⟩
def afq(t:TA):TE:=λσ H Q=>t σ H λxs H1=>xs.length<=sizeLine/\∀p,H1 p=none->Q (.ref p) (upd H1 p (.tup xs))
def afr(t:TA):TE:=λσ H Q=>t σ H λxs H1=>xs.length<=sizeLine/\∀p,H1 p=none->Q (.ref p) (upd H1 p (.lst xs))
theorem BZ{x1}(h:PA X es t):PE X (.Tuple es x1 pos) (afq t):=by intro pins s σ H Q I hq;refine wpAny_Tuple_spliced (cc (h pos pins s σ H _ I hq) λus s1 ⟨xs,H1,I1,r,z,q⟩=>⟨by rw[<- r.length];exact z,?_⟩);have hf:H1 s1.heap.objs.size=none:=I1.cx.fresh (c_ _);refine⟨.ref s1.heap.objs.size,upd H1 s1.heap.objs.size (.tup xs),I1.laid (t':=s1.toks) (λb u e=>og _ e) (c_ _) ?_,rfl,q _ hf⟩;exact⟨z,us,r,⟨_,vy _ rfl,rfl,_,rfl⟩⟩
theorem B0(h:PA X es t):PE X (.List es pos) (afr t):=by intro pins s σ H Q I hq;refine wpAny_List_spliced (cc (h pos pins s σ H _ I hq) λus s1 ⟨xs,H1,I1,r,z,q⟩=>⟨by rw[<- r.length];exact z,?_⟩);have hf:H1 s1.heap.objs.size=none:=I1.cx.fresh (c_ _);refine⟨.ref s1.heap.objs.size,upd H1 s1.heap.objs.size (.lst xs),I1.laid (t':=s1.toks) (λb u e=>og _ e) (c_ _) ?_,rfl,q _ hf⟩;exact⟨z,us,0,r,vy _ rfl⟩
end
abbrev Sp:=List V->Hp->VK->XK->Prop
abbrev II:=List Env->Hp->Shared->XK->qad
structure B1(P:Program)(w:World)(K:qaf)(mg:qae)(base:Heap)(A:Around)(outer:List Env)(s:Shared)(H:Hp):Prop where
 frames:A.frames=some outer
 mod:Mod K mg base
 bs:∀b o,base.get? b=some o->s.heap.get? b=some o/\H b=none
 IG:base.objs.size<=s.heap.objs.size
 m_:s.heap.FunFrames base outer
 N9:∀b∈IF outer,H b=none
 cx:mY P w H s.heap
 bare:AllBare s.gens
def CE(outer:List Env)(P:Program)(w:World)(H:Hp)(s:Shared)(Q:VK)(u:Value)(s':Shared):Prop :=
 ∃v H',s'.os=s.os/\AllBare s'.gens/\Un (IF outer) [] H H' s.heap s'.heap/\mY P w H' s'.heap/\RelV v u/\Q v H'
def CR(CX:II)(outer:List Env)(P:Program)(w:World)(H:Hp)(s:Shared)(Q:VK)(E:XK)(r:Result)(s':Shared):Prop :=
 match r with
 |.ok (.ret u)=>CE outer P w H s Q u s'
 |.ok _=>False
 |.error e=>CX outer H s E e s'
structure bY(P:Program)(w:World)(K:qaf)(mg:qae)(base:Heap)(CX:II)(k:Nat)(f:Addr)(fd:FuncData)(ps:qai)(sp:Sp):Prop where
 len:∀vs H Q E,sp vs H Q E->vs.length=ps.length
 run:∀(A:Around)(outer:List Env)(s:Shared)(H:Hp)(args:Args)(us:qag)(vs:List V)(Q:VK)(E:XK),bA k A->B1 P w K mg base A outer s H->BindsTo s fd args (ps.zip us)->Vals vs us->sp vs H Q E ->
  codeAny (model P w) A (.call (.ref f) args) (CR CX outer P w H s Q E) s
theorem B1.make{K:qaf}{mg:qae}{outer:List Env}{s:Shared}{H:Hp}(e:B1 P w K mg base A outer s H)(C:Addr)(us:qag)(kw:List (Str×Value)) :
 B1 P w K mg base (A.under (.builtin "type.__call__" ⟨.ref C::us,kw⟩)) outer s H:=⟨by first|exact e.frames|(simpa[Around.under,Code.envs,Code.isFrame,pushEnvs] using e.frames),e.mod,e.bs,e.IG,e.m_,e.N9,e.cx,e.bare⟩
section
variable{X:Cx}{pins:qaa}{σ:St}{H:Hp}{s:Shared}
theorem Inv.Zn(I:Inv X pins σ H s):B1 X.prog X.w X.K X.mg X.base X.A X.stack s H :=
 ⟨I.ok.frames,I.ok.mod,I.bs,mX I.ok.IG I.sz,I.stack,I.Eh,I.cx,I.bare⟩
theorem Inv.after{Q:VK}(I:Inv X pins σ H s)(h:CE X.stack X.prog X.w H s Q u s'):EP X pins σ Q u s':=by obtain⟨v,H',os,bare,un,cx,r,q⟩:=h;obtain⟨hh,g,d,t,os'⟩:=s';obtain rfl:os'=s.os:=os;exact⟨v,H',I.call (h':=hh) (g':=g) (d':=d) (t':=t) (ch:=[]) un cx bare (λb z=>absurd z (by simp)),r,q⟩
end
def Zo(sp:Sp)(wK:List V)(E:XK)(t:TA):TE:=λσ H Q=>t σ H λvs H1=>sp (vs++wK) H1 Q E
def Zp(C:Addr)(sp:Sp)(wK:List V)(E:XK)(t:TA):TE:=λσ H Q=>t σ H λvs H1=>∀x dx,H1 x=none->H1 dx=none->dx≠x ->
 sp (.ref x::(vs++wK)) (upd (upd H1 dx (.own x)) x (.ins C dx [])) (λv H2=>v=.aP/\Q (.ref x) H2) E
def Binds(K:qaf)(fd:FuncData)(ps:qai)(ds:qag):Prop :=
 ∀(s:Shared)(us:qag),K.In s.heap->(us++ds).length=ps.length->BindsTo s fd ⟨us,[]⟩ (ps.zip (us++ds))
theorem Binds.all{K:qaf}{ps:qai}(h:∀us:qag,us.length=ps.length->bindArgs fd ⟨us,[]⟩=pure (ps.zip us)):Binds K fd ps []:=λs us _ hl=>by rw[FD] at hl ⊢;exact .of_eq (h us hl)
def Passes(CX:II)(X:Cx)(E:XK):Prop:=∀(pins:qaa)(σ:St)(H:Hp)(s:Shared)(e:Value)(s':Shared),Inv X pins σ H s->CX X.stack H s E e s'->X.xe e s'
section
variable{X:Cx}{CX:II}{k:Nat}{ps:qai}{sp:Sp}{wK:List V}{ds:qag}{E:XK}{m:Str}{pos:Pos}{es:qap}{ta:TE}{t:TA}
theorem B2{pins:qaa}{σ:St}{H:Hp}{s:Shared}{Q:VK}{us:qag}{vs:List V}(F:bY X.prog X.w X.K X.mg X.base CX k f fd ps sp)(hr:bA k X.A)(hb:Binds X.K fd ps ds)(hd:Vals wK ds)(hx:Passes CX X E)(I:Inv X pins σ H s)(r:Vals vs us)(h:sp (vs++wK) H Q E):wpAny (model X.prog X.w) X.A (call (.ref f) us) (EP X pins σ Q) X.xe s:=by
 have r2:Vals (vs++wK) (us++ds):=r.append hd;have hl:(us++ds).length=ps.length:=by rw[<- r2.length];exact F.len _ _ _ _ h
 refine wpAny_call (codeAny_mono (F.run X.A X.stack s H ⟨us,[]⟩ (us++ds) (vs++wK) Q E hr I.Zn (hb s us I.ue hl) r2 h) λr s' hq=>?_);cases r with
 |error e=>exact hx pins σ H s e s' I hq
 |ok fl=>
  cases fl with
  |ret u=>exact I.after hq
  |_=>exact False.elim hq
theorem nq(F:bY X.prog X.w X.K X.mg X.base CX k f fd ps sp)(hr:bA k X.A)(hg:Gl X x)(hm:X.mg x=some (.ref f))(hk:PySem.W.keepIn X.K (.ref f)=true)(hb:Binds X.K fd ps ds)(hd:Vals wK ds)(hx:Passes CX X E)(ha:PA X (e::es) t)(q_:jD x:=by decide)(he:starEach (e::es) X.env=(false,eval e X.env)::starEach es X.env:=by rfl)(jF:(backTo pos (starEach es X.env)).any (·.1)=false:=by rfl) :
  PE X (.Call (.Name x p) (e::es) [] pos) (Zo sp wK E t):=by
 intro pins s σ H Q I h;refine wpAny_Call_Name_kw (wG I hg hm ?_ q_);refine ach (h₀:=X.base) I.ok.mod.X7 hk (cc (ha pos pins s σ H _ I h) λus s1 ⟨vs,H1,I1,r,q⟩=>⟨I1.ue,?_⟩) he jF;exact B2 F hr hb hd hx I1 r q
structure Mk(K:qaf)(C f:Addr):Prop where
 makes:PySem.W.makesIn K C=true
 init:PySem.W.findIn K (.ref C) "__init__"=some (some (.ref f))
 fn:PySem.W.isFn K (.ref f)=true
 kp:PySem.W.keepIn K (.ref C)=true
theorem Ji{pins:qaa}{σ:St}{H:Hp}{s:Shared}{Q:VK}{us:qag}{vs:List V}(M:Mk X.K C f)(F:bY X.prog X.w X.K X.mg X.base CX k f fd ps sp)(hr:bA (k+1) X.A)(hb:Binds X.K fd ps ds)(hd:Vals wK ds)(hx:Passes CX X E)(I:Inv X pins σ H s)(r:Vals vs us)(h:∀x dx,H x=none->H dx=none->dx≠x->sp (.ref x::(vs++wK)) (upd (upd H dx (.own x)) x (.ins C dx [])) (λv H2=>v=.aP/\Q (.ref x) H2) E) :
  wpAny (model X.prog X.w) X.A (call (.ref C) us) (EP X pins σ Q) X.xe s:=by
 have hq:=h (s.heap.objs.size+1) s.heap.objs.size (I.cx.fresh (X5 _)) (I.cx.fresh (c_ _)) (pJ (ID _));have I2:=Inv.made (C:=C) I;have r2:Vals (V.ref (s.heap.objs.size+1)::(vs++wK)) (Value.ref (s.heap.objs.size+1)::(us++ds)):=.cons rfl (r.append hd);have hl:(Value.ref (s.heap.objs.size+1)::us++ds).length=ps.length:=by have e:=r2.length;rw[F.len _ _ _ _ hq] at e;exact e.symm
 refine wpAny_call (Jh (f:=f) I.ue M.makes M.init (beq_iff_eq.mp M.fn) (codeAny_mono (F.run _ X.stack _ _ ⟨Value.ref (s.heap.objs.size+1)::us,[]⟩ (Value.ref (s.heap.objs.size+1)::(us++ds)) _ _ E (hr.make C us [])
  (I2.Zn.make C us []) (hb _ (Value.ref (s.heap.objs.size+1)::us) I2.ue hl) r2 hq) λr s' fg=>?_))
 cases r with
 |error e=>exact hx pins σ _ _ e s' I2 fg
 |ok fl=>
   cases fl with
   |ret u=>obtain⟨v,H',I3,rv,ev,q3⟩:=I2.after fg;subst ev;exact⟨rv,⟨V.ref (s.heap.objs.size+1),H',I3,rfl,q3⟩⟩
   |_=>exact False.elim fg
theorem wL(M:Mk X.K C f)(F:bY X.prog X.w X.K X.mg X.base CX k f fd ps sp)(hr:bA (k+1) X.A)(hg:Gl X x)(hm:X.mg x=some (.ref C))(hb:Binds X.K fd ps ds)(hd:Vals wK ds)(hx:Passes CX X E)(ha:PA X (e::es) t)(q_:jD x:=by decide)(he:starEach (e::es) X.env=(false,eval e X.env)::starEach es X.env:=by rfl)(jF:(backTo pos (starEach es X.env)).any (·.1)=false:=by rfl) :
  PE X (.Call (.Name x p) (e::es) [] pos) (Zp C sp wK E t):=by
 intro pins s σ H Q I h;refine wpAny_Call_Name_kw (wG I hg hm ?_ q_);refine ach (h₀:=X.base) I.ok.mod.X7 M.kp (cc (ha pos pins s σ H _ I h) λus s1 ⟨vs,H1,I1,r,q⟩=>⟨I1.ue,?_⟩) he jF;exact Ji M F hr hb hd hx I1 r q
end
section
variable{X:Cx}{CX:II}{k:Nat}{ps ks:qai}{sp:Sp}{E:XK}{m:Str}{pos afs:Pos}{es:qap}{kws:List Keyword}{te ta:TE}{t tk:TA}{nm:Option Str}
variable{g:qag->qag->qag}{gV:List V->List V->List V}
end
structure az(N P:qai)(sc:Scope):Prop where
 kind:sc.kind=.function
 co:sc.isCoroutine=false
 gen:sc.isGenerator=false
 nd:N.Nodup
 pre:N.take P.length=P
 par:∀x∈P,sc.names.lookup x=some .local\/sc.names.lookup x=some .cell
 T4:∀y∈sc.names,y.2≠.free
theorem gJ{N P:qai}(a:sc.kind=.function:=by rfl)(b:sc.isCoroutine=false:=by rfl)(c:sc.isGenerator=false:=by rfl)(d:N.Nodup:=by decide +kernel)(e:N.take P.length=P:=by rfl)(f:∀x∈P,sc.names.lookup x=some .local\/sc.names.lookup x=some .cell:=by decide +kernel)(g:∀y∈sc.names,y.2≠.free:=by decide +kernel):az N P sc:=⟨a,b,c,d,e,f,g⟩
theorem vD{kindOf:Str->Option NameKind}{x:Str}:∀{binds:List (Str×Value)}{m:qae},(∀v,(x,v)∉binds)->bindL kindOf binds m x=m x
 |[],_,_=>rfl
 | (n,v)::r,m,h=>by
  unfold bindL;rw[vD λw hw=>h w (ic _ hw)];split;have:x≠n:=by rintro rfl;exact h v dP
  simp[this];rfl
theorem vE{kindOf:Str->Option NameKind}{x:Str}:∀{binds:List (Str×Value)}{m:qae},(∀v,(x,v)∉binds)->bindC kindOf binds m x=m x
 |[],_,_=>rfl
 | (n,v)::r,m,h=>by
  unfold bindC;rw[vE λw hw=>h w (ic _ hw)];split;rfl;have:x≠n:=by rintro rfl;exact h v dP
  simp[this]
theorem vF{kindOf:Str->Option NameKind}{x:Str}{v:Value}:∀{P:qai}{vs:qag}{i:Nat}{m:qae},P.Nodup->P[i]?=some x->vs[i]?=some v->kindOf x=some .local ->
  bindL kindOf (P.zip vs) m x=some v
 |[],_,_,_,_,h,_,_=>by simp at h
 |_::_,[],_,_,_,_,h,_=>by simp at h
 |p::P,w::vs,0,m,nd,h1,h2,hk=>by simp at h1 h2;subst h1;subst h2;show bindL kindOf ((p,w)::P.zip vs) m p=_;unfold bindL;rw[vD λv hv=>(mW.mp nd).1 (List.of_mem_zip hv).1,if_pos hk];simp
 |p::P,w::vs,i+1,m,nd,h1,h2,hk=>by show bindL kindOf ((p,w)::P.zip vs) m x=_;unfold bindL;exact vF (i:=i) (mW.mp nd).2 (by simpa using h1) (by simpa using h2) hk
theorem vG{kindOf:Str->Option NameKind}{x:Str}{v:Value}:∀{P:qai}{vs:qag}{i:Nat}{m:qae},P.Nodup->P[i]?=some x->vs[i]?=some v->kindOf x≠some .local ->
  bindC kindOf (P.zip vs) m x=some v
 |[],_,_,_,_,h,_,_=>by simp at h
 |_::_,[],_,_,_,_,h,_=>by simp at h
 |p::P,w::vs,0,m,nd,h1,h2,hk=>by simp at h1 h2;subst h1;subst h2;show bindC kindOf ((p,w)::P.zip vs) m p=_;unfold bindC;rw[vE λv hv=>(mW.mp nd).1 (List.of_mem_zip hv).1,if_neg hk];simp
 |p::P,w::vs,i+1,m,nd,h1,h2,hk=>by show bindC kindOf ((p,w)::P.zip vs) m x=_;unfold bindC;exact vG (i:=i) (mW.mp nd).2 (by simpa using h1) (by simpa using h2) hk
def start(N:qai)(vs:List V):St:=vs.map some++List.replicate (N.length-vs.length) none
def gK(CX:II)(P:Program)(w:World)(K:qaf)(mg:qae)(base:Heap)(N:qai)(qual:Str)(scope:Scope)(f:Addr)(cd:Value)(A:Around)(outer:List Env)(s:Shared)(H:Hp)(E:XK):Cx where
 prog:=P
 w:=w
 K:=K
 mg:=mg
 base:=base
 A:=A.deeper (envOfC qual scope s.heap.objs.size f cd)
 N:=N
 s₀:=s
 H₀:=H
 env:=envOfC qual scope s.heap.objs.size f cd
 outer:=outer
 stack:=envOfC qual scope s.heap.objs.size f cd::outer
 ex:=[]
 calm:=true
 fn:=λ_=>true
 pn:=[]
 xe:=λe s'=>wpAny (model P w) (A.deeper (envOfC qual scope s.heap.objs.size f cd)) (leaving (envOfC qual scope s.heap.objs.size f cd) e) (λ_ Zq=>CX outer H s E e Zq) (λe' Zq=>CX outer H s E e' Zq) s'
theorem zh(h:sc.names.lookup x=some .cell):∃c,(cellsFrom n sc.names []).lookup x=some c:=by have q:=PySem.W.cellsFrom_some sc.names n [] (.inl h);exact Option.isSome_iff_exists.mp q
theorem F7{CX:II}{K:qaf}{mg:qae}{N ps:qai}{scope:Scope}{cd:Value}{outer:List Env}{s s1:Shared}{H:Hp}{E:XK}{us:qag}{vs:List V}(S:az N ps scope)(hd:A.handled=none)(e0:B1 P w K mg base A outer s H)(hl:vs.length=ps.length)(r:Vals vs us)(x:InCallC s s.heap.objs.size (bindL (envOfC qual scope s.heap.objs.size f cd).kindOf (ps.zip us) λ_=>none) (cellsFrom (s.heap.objs.size+1) scope.names []) (bindC (envOfC qual scope s.heap.objs.size f cd).kindOf (ps.zip us) λ_=>none) s1) :
  Inv (gK CX P w K mg base N qual scope f cd A outer s H E) [] (start N vs) H s1:=by
 have jF:ps.length<=N.length:=by have:=congrArg List.length S.pre;rw[IE] at this;omega
 obtain⟨h1,tk,rfl,hk⟩:=x.done;have Zr:∀b:Addr,b∉(gK CX P w K mg base N qual scope f cd A outer s H E).ex:=λb z=>absurd (show b∈([]:qah) from z) (by simp);refine⟨⟨e0.mod,S.kind,rfl,rfl,c_ _,λy z c h1 h2=>?_,λy hy=>?_,λy c _ h=>?_,λ_=>hd,Around.frames_deeper e0.frames,.inr ⟨rfl,rfl⟩,λb z=>absurd z (Zr b),e0.bs,e0.IG,λb _ _=>Zr b,λb z=>absurd z (Zr b),e0.m_,e0.N9⟩,
  rfl,e0.bare,Un.kept hk,⟨_,x.toInCall.ns,λi y v h1 h2 h3=>?_⟩,λy c h=>⟨_,x.cell y c h⟩,e0.cx.fresh (c_ _),λy c h=>?_,λp hp=>absurd (show p∈([]:qaa) from hp) (by simp),e0.cx.kept hk,?_⟩
 exact name_of_addr x.apart (RC h1) (RC h2);have hy:scope.names.lookup y=some .cell\/scope.names.lookup y=some .free:=hy;obtain hy|hy:=hy
 exact zh hy;exact absurd rfl (S.T4 _ (RC hy));exact Nat.le_of_lt (x.above y c (RC h));have hi:i<vs.length:=by unfold start at h2;by_cases hi:i<vs.length;exact hi;rw[qe (by simpa using hi)] at h2;rw[Fz] at h2;split at h2<;>cases h2
 have ha:vs[i]?=some v:=by
  unfold start at h2;rw[oi (by simpa using hi),ie] at h2;cases e:vs[i]? with
  |none=>rw[e] at h2;cases h2
  |some a=>rw[e] at h2;cases h2;rfl
 obtain⟨u,hu,rv⟩:=r.get ha;have hp:ps[i]?=some y:=by rw[<- S.pre,List.getElem?_take_of_lt (by omega)];exact h1
 have ndP:ps.Nodup:=by rw[<- S.pre];exact S.nd.sublist (List.take_sublist _ _)
 refine⟨u,rv,?_⟩;rcases S.par y (iw hp) with k|k
 exact .inl ⟨k,vF ndP hp hu k⟩;obtain⟨c,e⟩:=zh (n:=s.heap.objs.size+1) k;refine .inr ⟨.inl k,c,e,?_⟩;have q:=x.cell y c e;rw[vG ndP hp hu (by show scope.names.lookup y≠_;rw[k];decide)] at q;exact q;exact e0.cx.fresh (Nat.le_of_lt (x.above y c (RC h)));unfold start;show _=N.length;rw[pH,c3,BB];omega
theorem RT{CX:II}{K:qaf}{mg:qae}{k:Nat}{name:Str}{params:Arguments}{body:qaq}{scope:Scope}{dV kV doc pm bz ct oc:Value}{an od:qar}{F8:Array (Option Value)}{N ps:qai}{sp:Sp}(lk:K.lookup f=some ⟨oc,od,.func (PySem.W.fnOf name qual params body scope dV kV doc pm an bz ct),F8⟩)(ig:PySem.W.codeIn K bz qual=true)(S:az N ps scope)(len:∀vs H Q E,sp vs H Q E->vs.length=ps.length)(eJ:∀(A:Around) (outer:List Env) (s:Shared) (H:Hp) (vs:List V) (Q:VK) (E:XK),bA k (A.deeper (envOfC qual scope s.heap.objs.size f bz))->sp vs H Q E ->
    ∃t,jc (gK CX P w K mg base N qual scope f bz A outer s H E) body t/\t {nx:=λ_ H'=>Q .aP H',rt:=Q} (start N vs) H) :
  bY P w K mg base CX (k+1) f (PySem.W.fnOf name qual params body scope dV kV doc pm an bz ct) ps sp:=by
 refine⟨len,λA outer s H args us vs Q E hr e0 hb r NM=>?_⟩;have hl:=len _ _ _ _ NM;have KX:K.In s.heap:=e0.mod.X7.keeps λb o e=>(e0.bs b o e).1;have lim:s.heap.NoLimit:=e0.mod.nolimit.keeps λb o e=>(e0.bs b o e).1;have Zs:∀y∈ps.zip us,scope.names.lookup y.1=some .local\/(scope.names.lookup y.1=some .cell/\((cellsFrom (s.heap.objs.size+1) scope.names []).lookup y.1).isSome=true):=λ⟨n,v⟩ hy=>by
  rcases S.par n (List.of_mem_zip hy).1 with q|q
  exact .inl q;exact .inr ⟨q,PySem.W.cellsFrom_some _ _ _ (.inl q)⟩
 refine codeAny_call_function hr.depth (KX _ _ lk) rfl S.co S.gen rfl (PySem.W.codeRec_of KX ig) (hb _ _ _ _ ?_);refine wpAny_newFunctionEnv_cells S.kind Zs λenv he s1 x=>?_;subst he;refine⟨lim.keeps x.toInCall.keep,codeAny_func ?_⟩;obtain⟨t,ht,hq⟩:=eJ A outer s H vs Q E (hr.deeper _) NM;have I:Inv (gK CX P w K mg base N qual scope f bz A outer s H E) [] (start N vs) H s1:=F7 S hr.hd e0 hl r x;refine wpAny_mono (ht [] s1 (start N vs) H _ I hq) (λfl s' hs=>?_) λe s' hs=>hs;have fin:∀{σ':St}{H':Hp}{v:V}{u:Value},Inv (gK CX P w K mg base N qual scope f bz A outer s H E) [] σ' H' s'->RelV v u->Q v H'->CE outer P w H s Q u s' :=
  λ{σ' H' v u} J rv q=>⟨v,H',J.os,J.bare,J.base,J.cx,rv,q⟩
 cases fl with
 |ret u=>obtain⟨v,σ',H',J,rv,q⟩:=hs;exact fin J rv q
 |next=>obtain⟨σ',H',J,q⟩:=hs;exact fin (v:=V.aP) (u:=Value.none) J rfl q
 |brk=>obtain⟨_,_,_,q⟩:=hs;exact False.elim q
 |cont=>obtain⟨_,_,_,q⟩:=hs;exact False.elim q
section
variable{X:Cx}{pos:Pos}{es:qap}{t:TA}{id T:String}{r:List V->Hp->VK->Prop}
def tCB(r:List V->Hp->VK->Prop)(t:TA):TE:=λσ H Q=>t σ H λvs H1=>r vs H1 Q
theorem rf(hc:fF X (.builtin id) r)(hg:Gl X x)(hm:X.mg x=none)(hv:bootBuiltins x=some (.builtin id))(ha:PA X (e::es) t)(hn:x≠"__name__":=by decide)(q_:jD x:=by decide)(he:starEach (e::es) X.env=(false,eval e X.env)::starEach es X.env:=by rfl)(jF:(backTo pos (starEach es X.env)).any (·.1)=false:=by rfl):PE X (.Call (.Name x p) (e::es) [] pos) (tCB r t):=by intro pins s σ H Q I h;refine wpAny_Call_Name_kw (lV I hg hm hv ?_ hn q_);exact PyProof.Rows.callWith_builtin1 (cc (ha pos pins s σ H _ I h) λus s1 ⟨vs,H1,I1,r1,q1⟩=>hc pins s1 σ H1 vs us Q I1 r1 q1) he jF
theorem F9(hc:fF X (.type T) r)(hg:Gl X x)(hm:X.mg x=none)(hv:bootBuiltins x=some (.type T))(ha:PA X (e::es) t)(hn:x≠"__name__":=by decide)(q_:jD x:=by decide)(he:starEach (e::es) X.env=(false,eval e X.env)::starEach es X.env:=by rfl)(jF:(backTo pos (starEach es X.env)).any (·.1)=false:=by rfl):PE X (.Call (.Name x p) (e::es) [] pos) (tCB r t):=by intro pins s σ H Q I h;refine wpAny_Call_Name_kw (lV I hg hm hv ?_ hn q_);exact YF (cc (ha pos pins s σ H _ I h) λus s1 ⟨vs,H1,I1,r1,q1⟩=>hc pins s1 σ H1 vs us Q I1 r1 q1) he jF
end
end L2
variable{X:L2.Cx}{K:qaf}{H H':L2.Hp}{σ:L2.St}{v:L2.V}{E Q:qad}{pins:qaa}{mg:qae}{ps ys:qai}{es:qap}{fp Ox:qah}{ta te:L2.TE}{us:qag}{sp:L2.Sp}{is:qao}{ks:List L2.Key}{a_:List (L2.Key×L2.V)}
abbrev qac:=List (PySem.Str×L2.V)
abbrev qak:=List L2.V
namespace HT
open PySem PyProof.Rows
section
open PySem.SeqAt
open PySem.AutoSeq1 (wpAny_loadPart')
open PySem.MeetsSeq PySem.MeetsSeq2 PySem.MeetsSeq3
end
section
variable{s:Shared}
theorem Oq{t b:Addr}{vs ws:qag}(ht:IsTup s.heap t vs.toArray)(hb:IsTup s.heap b ws.toArray)(hv:vs≠[])(h1:ws=[]->Q (.ref t) s)(h2:ws≠[]->Q (.ref s.heap.objs.size) {s with heap:=s.heap.push {cls:=.type "tuple",data:=.seq (vs++ws).toArray} })(hsz:vs.length+ws.length<=sizeLine):wpAny (model prog w) A (binaryOp .Add (.ref t) (.ref b)) Q E s:=by
 obtain⟨⟨cls,dd,data,sl⟩,ho,hc,n,hd⟩:=id ht;obtain⟨⟨Zt,X9,data2,X_⟩,F_,RU,n2,hd2⟩:=id hb;simp only at hc hd RU hd2;subst hc hd RU hd2;have e:vs.toArray++ws.toArray=(vs++ws).toArray:=by simp
 by_cases hw:ws=[];exact concat_meets ⟨_,ho,rfl⟩ ⟨_,F_,rfl⟩ noFill_tuple_add seq_tuple_add acs acp (aci _ _)
  (tuple_addW1 t b vs.toArray ws.toArray n n2 dd X9 sl X_ (by simpa using hv) (by simp[hw])) ⟨ho,F_,h1 hw⟩
 refine concat_meets ⟨_,ho,rfl⟩ ⟨_,F_,rfl⟩ noFill_tuple_add seq_tuple_add acs acp (aci _ _)
  (tuple_addW2 t b vs.toArray ws.toArray n n2 dd X9 sl X_ (by simpa using hv) (by simpa using hw) (by rw[iU,iU];exact hsz)) ⟨ho,F_,?_⟩
 rw[e];exact h2 hw
def fj(n d:Nat):Option Int->Nat
 |none=>d
 |some v=>if v<0 then (v+(n:Int)).toNat else min v.toNat n
theorem Jj(n d:Nat):fj n d none=d:=rfl
theorem k5(n d k:Nat):fj n d (some (k:Int))=min k n:=by show (if (k:Int)<0 then ((k:Int)+(n:Int)).toNat else min (k:Int).toNat n)=min k n;rw[if_neg (by omega),yV]
theorem T5(n d:Nat)(hd:d<=n)(o:Option Int):fj n d o<=n:=by
 cases o with
 |none=>exact hd
 |some v=>show (if v<0 then (v+(n:Int)).toNat else min v.toNat n)<=n;by_cases hv:v<0;rw[if_pos hv];omega;rw[if_neg hv];exact Nat.min_le_right _ _
theorem Eo(v:Int)(n d:Nat):(if v<0 then max (v+(n:Int)) 0 else min v (n:Int))=((fj n d (some v):Nat):Int):=by show (if v<0 then max (v+(n:Int)) 0 else min v (n:Int))=(((if v<0 then (v+(n:Int)).toNat else min v.toNat n):Nat):Int);by_cases hv:v<0;simp only[if_pos hv];omega;simp only[if_neg hv];omega
theorem B3(lo hi:Option Int)(n:Nat):Builtin.Slice.sliceAdjust lo hi 1 (n:Int)=(((fj n 0 lo:Nat):Int),((fj n n hi:Nat):Int)):=by
 have h1:¬ ((1:Int)<0):=by omega
 unfold Builtin.Slice.sliceAdjust;simp only[h1,if_false];refine Prod.ext ?_ ?_;cases lo with
 |none=>rfl
 |some v=>exact Eo v n 0
 cases hi with
 |none=>rfl
 |some v=>exact Eo v n n
theorem B4(i j:Nat):Builtin.Slice.slicePlaces (i:Int) (j:Int) 1=j-i:=by
 unfold Builtin.Slice.slicePlaces;have h1:(1:Int) > 0:=by omega
 simp only[h1,if_true,Int.ediv_one];split<;>omega
theorem rg{v:Value}{o:Option Int}{Q:Option Int->Shared->Prop}(p:IsPart v o)(h:Q o s):wpAny (model prog w) A (Builtin.Slice.slicePartIndex v) Q E s:=by
 cases p with
 |none=>exact slicePart_none h
 |int i t=>exact slicePart_int h
theorem ow{sl:Addr}{vl vu:Value}{lo hi:Option Int}{Q:Int×Int×Nat->Shared->Prop}(hs:s.heap.IsSliceOf sl vl vu .none)(pl:IsPart vl lo)(pu:IsPart vu hi)(h:Q (((fj n 0 lo:Nat):Int),1,fj n n hi-fj n 0 lo) s):wpAny (model prog w) A (Builtin.Slice.sliceApplied (.ref sl) (pure (n:Int))) Q E s:=by obtain⟨os,Zu,hcs,hds⟩:=id hs;unfold Builtin.Slice.sliceApplied Builtin.Slice.sliceFields;refine wpAny_bind (wpAny_bind (wpAny_field Zu hds (x:=vl) rfl (wpAny_bind (wpAny_field Zu hds (x:=vu) rfl (wpAny_bind (wpAny_field Zu hds (x:=.none) rfl (wpAny_pure ?_)))))));refine wpAny_bind (slicePart_none ?_);show wpAny _ _ (if ((1:Int)==0)=true then _ else _) _ _ s;rw[if_neg (by decide)];refine wpAny_bind (rg pl (wpAny_bind (rg pu (wpAny_bind (wpAny_pure ?_)))));show wpAny _ _ (match Builtin.Slice.sliceAdjust lo hi 1 (n:Int) with|(lo,hi)=>pure (lo,(1:Int),Builtin.Slice.slicePlaces lo hi 1)) _ _ s;rw[B3 lo hi n];show wpAny _ _ (pure (((fj n 0 lo:Nat):Int),(1:Int),Builtin.Slice.slicePlaces ((fj n 0 lo:Nat):Int) ((fj n n hi:Nat):Int) 1)) _ _ s;rw[B4];exact wpAny_pure h
theorem Jk(xs:Array Value)(i k:Nat):((List.range k).filterMap λ(m:Nat)=>xs[((i:Int)+(m:Int) * 1).toNat]?).toArray=((xs.toList.drop i).take k).toArray:=by
 have e:(λ(m:Nat)=>xs[((i:Int)+(m:Int) * 1).toNat]?)=λm=>xs[i+m]?:=by
  funext m;have:((i:Int)+(m:Int) * 1).toNat=i+m:=by omega
  rw[this]
 rw[e];have:=pick_run xs i k;rw[List.filterMap_map] at this;have e2:((λx=>xs[x]?) ∘ λx=>i+x)=λm=>xs[i+m]?:=rfl;rw[e2] at this;rw[this]
theorem nt{t sl:Addr}{items:Array Value}{vl vu:Value}{lo hi:Option Int}(ht:IsTup s.heap t items)(hs:s.heap.IsSliceOf sl vl vu .none)(pl:IsPart vl lo)(pu:IsPart vu hi)(hw:¬ (fj items.size 0 lo=0/\fj items.size items.size hi=items.size))(h:Q (.ref s.heap.objs.size) {s with heap:=s.heap.push {cls:=.type "tuple",data:=.seq ((items.toList.drop (fj items.size 0 lo)).take (fj items.size items.size hi-fj items.size 0 lo)).toArray} })(hsz:items.size<=sizeLine):wpAny (model prog w) A (getItem (.ref t) (.ref sl)) Q E s:=by
 have Ep:sizeOk (.seq ((items.toList.drop (fj items.size 0 lo)).take (fj items.size items.size hi-fj items.size 0 lo)).toArray):=by show ((items.toList.drop (fj items.size 0 lo)).take (fj items.size items.size hi-fj items.size 0 lo)).toArray.size<=sizeLine;rw[iU,IE,YS,RB];omega
 have hj:fj items.size items.size hi<=items.size:=T5 _ _ (c_ _) hi;obtain⟨os,Zu,hcs,hds⟩:=id hs;have hTs:s.TypeIs (.ref sl) "slice":=⟨os,Zu,hcs⟩;unfold getItem
 try with_reducible refine wpAny_holding ?_
 first|refine wpAny_bind (wpAny_pure ?_)|skip
 refine wpAny_bind (wpAny_sequenceKey ht.typeIs (by decide) ?_);refine wpAny_bind (wpAny_callSpecial?_slot (name:=Str.ofString "__getitem__") ht.typeIs abV
  (wpAny_call_entry abV ht.typeIs entry_tuple_getitem ?_ (args_tuple_getitem _ _)))
 show wpAny _ _ (Builtin.Tuple.tupleItemsOf (.ref t) >>= _) _ _ s;refine wpAny_bind (tupleItemsOf_ ht ?_);refine wpAny_bind (wpAny_typeOf hTs ?_);rw[if_pos (by decide)];refine wpAny_bind (ow hs pl pu ?_);have hno:¬ ((((fj items.size 0 lo:Nat):Int)==0 && (1:Int)==1 && (fj items.size items.size hi-fj items.size 0 lo)==items.size)=true):=by intro q;rw[m9,m9] at q;have q1:((fj items.size 0 lo:Nat):Int)=0:=eq_of_beq q.1.1;have q2:fj items.size items.size hi-fj items.size 0 lo=items.size:=eq_of_beq q.2;exact hw ⟨by omega,by omega⟩
 show wpAny _ _ (if (((fj items.size 0 lo:Nat):Int)==0 && (1:Int)==1 && (fj items.size items.size hi-fj items.size 0 lo)==items.size)=true then _ else _) _ _ s;rw[if_neg hno,Jk]
 first
  |exact wpAny_bind (m:=Builtin.Tuple.tupleExact _) (wpAny_newObj_type (wpAny_pure ⟨_,rfl,wpAny_pure h⟩) Ep)
  |exact wpAny_bind (m:=Builtin.Tuple.tupleExact _) (wpAny_newObj_type (wpAny_bind (wpAny_pure (wpAny_pure ⟨_,rfl,wpAny_pure h⟩))) Ep)
  |exact wpAny_bind (wpAny_bind (m:=Builtin.Tuple.tupleExact _) (wpAny_newObj_type (wpAny_pure (wpAny_pure ⟨_,rfl,wpAny_pure h⟩)) Ep))
  |exact wpAny_bind (wpAny_bind (m:=Builtin.Tuple.tupleExact _) (wpAny_newObj_type (wpAny_pure ⟨_,rfl,wpAny_pure h⟩) Ep))
end
end HT
variable{vs xs:qak}
namespace L2
open PySem PySem.Spec PyProof.Rows
abbrev TO:=St->Hp->(Option Int->Hp->Prop)->Prop
def PO(X:Cx)(e:Option Expr)(t:TO):Prop :=
 ∀(pins:qaa)(s:Shared)(σ:St)(H:Hp)(Q:Option Int->Hp->Prop),Inv X pins σ H s->t σ H Q ->
  wpAny (model X.prog X.w) X.A (evalPart e X.env) (λu s'=>∃o H',Inv X pins σ H' s'/\IsPart u o/\Q o H') X.xe s
def Ot:TO:=λ_ H Q=>Q none H
def Zv(t:TE):TO:=λσ H Q=>t σ H λx H1=>∃i,x=.int i/\Q (some i) H1
section
variable{lo hi:Option Expr}{tl th:TO}{pos:Pos}
theorem Ou:PO X none Ot:=by intro pins s σ H Q I h;rw[evalPart_none];exact wpAny_pure ⟨none,H,I,.none,h⟩
theorem Ov(h:PE X e te):PO X (some e) (Zv te):=by intro pins s σ H Q I hw;rw[evalPart_some];refine cc (h pins s σ H _ I hw) λu s1 ⟨x,H1,I1,r1,q1⟩=>?_;obtain⟨i,rfl,q⟩:=q1;obtain⟨t,rfl⟩:=r1;exact⟨some i,H1,I1,.int i t,q⟩
def Jl(X:Cx)(r:V->Option Int->Option Int->Hp->VK->Prop):Prop :=
 ∀(pins:qaa)(s:Shared)(σ:St)(H:Hp)(x:V)(v vl vu:Value)(lo hi:Option Int)(sl:Addr)(Q:VK),Inv X pins σ H s->RelV x v->s.heap.IsSliceOf sl vl vu .none->IsPart vl lo->IsPart vu hi->r x lo hi H Q ->
  ∃T id,typeLookup (.type T) "__getitem__"=pure (some (.builtin id))/\s.TypeIs v T/\wpAny (model X.prog X.w) X.A (getItem v (.ref sl)) (EP X pins σ Q) X.xe s
theorem Jl.or{r r':V->Option Int->Option Int->Hp->VK->Prop}(h:Jl X r)(h':Jl X r'):Jl X (λx lo hi H Q=>r x lo hi H Q\/r' x lo hi H Q):=by
 intro pins s σ H x v vl vu lo hi sl Q I rx hs pl pu q;obtain q|q:=q
 exact h pins s σ H x v vl vu lo hi sl Q I rx hs pl pu q;exact h' pins s σ H x v vl vu lo hi sl Q I rx hs pl pu q
def tSl(r:V->Option Int->Option Int->Hp->VK->Prop)(te:TE)(tl th:TO):TE:=λσ H Q=>te σ H λx H1=>tl σ H1 λl H2=>th σ H2 λu H3=>r x l u H3 Q
theorem Jm{r:V->Option Int->Option Int->Hp->VK->Prop}(hr:Jl X r)(he:PE X e te)(hl:PO X lo tl)(hu:PO X hi th):PE X (.Subscript e (.Slice lo hi none p2) pos) (tSl r te tl th):=by intro pins s σ H Q I h;refine Subscript_ (cc (he pins s σ H _ I h) λv s1 ⟨x,H1,I1,r1,q1⟩=>?_);refine wpAny_Slice (cc (hl pins s1 σ H1 _ I1 q1) λvl s2 ⟨l,H2,I2,pl,q2⟩=>cc (hu pins s2 σ H2 _ I2 q2) λvu s3 ⟨u,H3,I3,pu,q3⟩=>?_);rw[evalPart_none];refine wpAny_pure ?_;have I4:Inv X pins σ H3 {s3 with heap:=s3.heap.push {cls:=.type "slice",data:=.fields #[vl,vu,.none]} }:=I3.kept (t':=s3.toks) λb ob q=>og _ q;obtain⟨T,id,hT,ht,hg⟩:=hr pins {s3 with heap:=s3.heap.push {cls:=.type "slice",data:=.fields #[vl,vu,.none]} } σ H3 x v vl vu l u s3.heap.objs.size Q I4 r1 (Heap.IsSliceOf.new ..) pl pu q3;show wpAny (model X.prog X.w) X.A (subscriptTail e (.Slice lo hi none p2) v (.ref s3.heap.objs.size)) (EP X pins σ Q) X.xe {s3 with heap:=s3.heap.push {cls:=.type "slice",data:=.fields #[vl,vu,.none]} };exact tail_any (ops:=[.ref s3.heap.objs.size,v]) ht hT hg (by with_unfolding_all rfl)
def zi(xs:qak)(lo hi:Option Int):qak:=(xs.drop (HT.fj xs.length 0 lo)).take (HT.fj xs.length xs.length hi-HT.fj xs.length 0 lo)
theorem pM(xs:qak)(lo hi:Option Int):(zi xs lo hi).length<=xs.length:=by unfold zi;rw[IE,YS];omega
def Zw(K:qaf):V->Option Int->Option Int->Hp->VK->Prop:=λx lo hi H Q=>∃a xs,x=.ref a/\fM K H a xs /\
 ¬ (HT.fj xs.length 0 lo=0/\HT.fj xs.length xs.length hi=xs.length)/\∀p,H p=none->Q (.ref p) (upd H p (.tup (zi xs lo hi)))
theorem T6:Jl X (Zw X.K):=by
 intro pins s σ H x v vl vu lo hi sl Q I rx hs pl pu h;obtain⟨a,xs,rfl,hx,hw,q⟩:=h;cases rx;obtain⟨a4,r,ht,hz⟩:=I.tuple hx;have hlen:a4.toArray.size=xs.length:=by rw[iU];exact r.length.symm
 refine⟨"tuple",_,abV.lookup,ht.typeIs,?_⟩;refine HT.nt ht hs pl pu (by rw[hlen];exact hw) ?_ (by rw[hlen];exact hz);rw[hlen];refine⟨.ref s.heap.objs.size,_,I.laid (t':=s.toks) (o:=.tup (zi xs lo hi)) (λb ob q=>og _ q) (c_ _) ?_,rfl,q _ (I.cx.fresh (c_ _))⟩;exact⟨mX (pM xs lo hi) hz,_,(r.drop (HT.fj xs.length 0 lo)).take (HT.fj xs.length xs.length hi-HT.fj xs.length 0 lo),IsTup.new _ _⟩
theorem Vals.k6(r:Vals xs us):us=[]↔xs=[]:=by
 cases r with
 |_=>simp
end
def wM(n:Nat)(i:Int):Option Nat:=if 0<=i then (if i<n then some i.toNat else none) else if -(n:Int)<=i then some (i+n).toNat else none
def jQ{α:Type}(xs:List α)(i:Int):Option α:=(wM xs.length i).bind λj=>xs[j]?
theorem Er{i:Int}(h:wM n i=some j):seqIndex? i n=some j/\j<n/\-(n:Int)<=i/\i<n:=by unfold wM at h;by_cases h0:0<=i;rw[if_pos h0] at h;by_cases h1:i<n;rw[if_pos h1] at h;have e:i.toNat=j:=Option.some.inj h;exact⟨by rw[seqIndex_of h0 h1,e],by omega,by omega,h1⟩;rw[if_neg h1] at h;cases h;rw[if_neg h0] at h;by_cases h1 : -(n:Int)<=i;rw[if_pos h1] at h;have e:(i+n).toNat=j:=Option.some.inj h;exact⟨by rw[seqIndex_neg (by omega) h1,e],by omega,h1,by omega⟩;rw[if_neg h1] at h;cases h
theorem wN{xs:List α}{i:Int}{v:α}(h:jQ xs i=some v):∃j,seqIndex? i xs.length=some j/\xs[j]?=some v/\j<xs.length/\-(xs.length:Int)<=i/\i<xs.length:=by
 unfold jQ at h;cases e:wM xs.length i with
 |none=>rw[e] at h;cases h
 |some j=>rw[e] at h;obtain⟨h1,h2,h3,h4⟩:=Er e;exact⟨j,h1,h,h2,h3,h4⟩
theorem ah{xs:List α}{v:α}(h:xs[j]?=some v):jQ xs (j:Int)=some v:=by
 have hj:j<xs.length:=(eW.mp h).1;have e:wM xs.length (j:Int)=some j:=by unfold wM;rw[if_pos (by omega),if_pos (by omega)];simp
 unfold jQ;rw[e];exact h
theorem jX(xs:List α)(v:α):jQ (xs++[v]) (-1)=some v:=by
 have hl:(xs++[v]).length=xs.length+1:=by simp
 have e:wM (xs++[v]).length (-1)=some xs.length:=by
  unfold wM;rw[hl,if_neg (by decide),if_pos (by omega)]
  congr 1
  omega
 unfold jQ;rw[e];show (xs++[v])[xs.length]?=some v;simp
def wO(b:Expr):Prop:=∀o i,subscripted b false o i=operate [o,i] (getItem o i)
def Ow(X:Cx)(r:R2):Prop :=
 ∀(value slice:Expr)(pins:qaa)(s:Shared)(σ:St)(H:Hp)(x y:V)(v u:Value)(Q:VK),Inv X pins σ H s->RelV x v->RelV y u->r x y H Q ->
  subscripted slice false v u=operate [v,u] (getItem v u)->wpAny (model X.prog X.w) X.A (subscriptTail value slice v u) (EP X pins σ Q) X.xe s
def RW(X:Cx)(id:String)(r:V->qak->Hp->VK->Prop):Prop :=
 ∀(pins:qaa)(s:Shared)(σ:St)(H:Hp)(x:V)(xs:qak)(v:Value)(us:qag)(Q:VK),Inv X pins σ H s->RelV x v->Vals xs us->r x xs H Q ->
  wpAny (model X.prog X.w) X.A (call (.builtin id) (v::us)) (EP X pins σ Q) X.xe s
section
variable{a:Expr}{tb:TE}{pos:Pos}
theorem Ow.or{r r':R2}(h:Ow X r)(h':Ow X r'):Ow X (λx y H Q=>r x y H Q\/r' x y H Q):=by
 intro value slice pins s σ H x y v u Q I rx ry q hs;obtain q|q:=q
 exact h value slice pins s σ H x y v u Q I rx ry q hs;exact h' value slice pins s σ H x y v u Q I rx ry q hs
theorem RX{r:R2}(hr:Ow X r)(ha:PE X a ta)(hb:PE X b tb)(hs:wO b):PE X (.Subscript a b pos) (Ze r ta tb):=by intro pins s σ H Q I h;exact Subscript_ (TU ha hb I h λv u s2 x y H2 I2 rx ry q=>hr a b pins s2 σ H2 x y v u Q I2 rx ry q (hs _ _))
def Zx(K:qaf):R2:=λx y H Q=>∃p xs i v,x=.ref p/\y=.int i/\iV K H p xs/\jQ xs i=some v/\Q v H
def Zy(K:qaf):R2:=λx y H Q=>∃p xs i v,x=.ref p/\y=.int i/\fM K H p xs/\jQ xs i=some v/\Q v H
def Zz:R2:=λx y H Q=>∃z i c,x=.str z/\y=.int i/\z.length<=sizeLine/\jQ z.cps.toList i=some c/\Q (.str ⟨#[c]⟩) H
theorem Es:Ow X (Zx X.K):=by
 intro value slice pins s σ H x y v u Q I rx ry h hs;obtain⟨p,xs,i,z,rfl,rfl,hq,he,q⟩:=h;cases rx;obtain⟨t,rfl⟩:=ry;obtain⟨a4,r,pl,hz⟩:=I.list hq;obtain⟨j,h1,h2,h3,h4,h5⟩:=wN he;obtain⟨w,ew,rw'⟩:=r.get h2;have hl:=r.length;have hn:=ot;have fin:EP X pins σ Q w s:=⟨z,H,I,rw',q⟩;by_cases h0:0<=i;have hj:i.toNat=j:=by rw[seqIndex_of h0 h5] at h1;exact Option.some.inj h1
 exact item_listR pl.isList h0 (by omega) (by rw[hj];simpa using ew) fin hs;have hj:(i+(a4.toArray.size:Int)).toNat=j:=by rw[seqIndex_neg (by omega) h4] at h1;rw[iU,<- hl];exact Option.some.inj h1
 exact subscriptTail_builtinR (x:=w) pl.isList.typeIs slot_list_getitem.lookup
  (wpAny_getItem_list_neg (Q:=λr s'=>r=w/\EP X pins σ Q r s') pl.isList (by omega) (by rw[iU]<;>omega) (by omega) (by rw[hj];simpa using ew) ⟨rfl,fin⟩) hs
theorem T7:Ow X (Zy X.K):=by
 intro value slice pins s σ H x y v u Q I rx ry h hs;obtain⟨p,xs,i,z,rfl,rfl,hq,he,q⟩:=h;cases rx;obtain⟨t,rfl⟩:=ry;obtain⟨a4,r,pl,hz⟩:=I.tuple hq;obtain⟨j,h1,h2,h3,h4,h5⟩:=wN he;obtain⟨w,ew,rw'⟩:=r.get h2;have hl:=r.length;have hn:=ot;have fin:EP X pins σ Q w s:=⟨z,H,I,rw',q⟩;exact subscriptTail_builtinR (x:=w) pl.typeIs slot_tuple_getitem.lookup
  (getItem_tuple (j:=j) (Q:=λr s'=>r=w/\EP X pins σ Q r s') pl (by omega) (by omega) (by rw[iU,<- hl];exact h1) (by simpa using ew) ⟨rfl,fin⟩) hs
theorem T8:Ow X Zz:=by
 intro value slice pins s σ H x y v u Q I rx ry h hs;obtain⟨z,i,c,rfl,rfl,hz,he,q⟩:=h;obtain⟨t,rfl⟩:=rx;obtain⟨t',rfl⟩:=ry;obtain⟨j,h1,h2,h3,h4,h5⟩:=wN he;have hl:z.cps.toList.length=z.length:=by simp[Str.length]
 rw[hl] at h1 h4 h5;have hn:=ot;exact tail_any (typeIs_str s z t) slot_str_getitem.lookup (getItem_str (c:=c) (by have e1:decide (i < -(2 ^ 63:Int))=false:=decide_eq_false (by omega);have e2:decide (i ≥ 2 ^ 63)=false:=decide_eq_false (by omega);rw[e1,e2,Bool.or_false]) (by rw[h1];simpa using h2) ⟨.str ⟨#[c]⟩,H,I.tok _,⟨_,rfl⟩,q⟩) hs
def rIx(K:qaf):R2:=λx y H Q=>Zx K x y H Q\/Zy K x y H Q\/Zz x y H Q
theorem T9:Ow X (rIx X.K):=Es.or (T7.or T8)
theorem B5(a4:qag)(n j:Nat)(u:Value):Obj.mapSeq (·.setIfInBounds j u) {cls:=.type "list",data:=.seq a4.toArray n}={cls:=.type "list",data:=.seq (a4.set j u).toArray n}:=by simp[Obj.mapSeq]
theorem Inv.lst{s:Shared}{p:Addr}(I:Inv X pins σ H s)(h:H p=some (.lst xs)) :
  ∃(a4:qag)(n:Nat),Vals xs a4/\s.heap.get? p=some {cls:=.type "list",data:=.seq a4.toArray n}/\xs.length<=sizeLine:=by
 obtain⟨z,a4,n,r,e⟩:=I.cx p _ h;exact⟨a4,n,r,e,z⟩
theorem Inv.T_{s:Shared}{p:Addr}{ys:qak}{a4 its':qag}{n':Nat}{f:Obj->Obj}(I:Inv X pins σ H s)(h:H p=some (.lst xs))(ho:s.heap.get? p=some {cls:=.type "list",data:=.seq a4.toArray n})(hf:f {cls:=.type "list",data:=.seq a4.toArray n}={cls:=.type "list",data:=.seq its'.toArray n'})(r:Vals ys its')(hz:ys.length<=sizeLine)(t:Nat) :
  Inv X pins σ (upd H p (.lst ys)) {s with heap:=s.heap.update p f,toks:=t}:=by
 have e:(s.heap.update p f).get? p=some {cls:=.type "list",data:=.seq its'.toArray n'}:=by rw[Heap.get?_update_self f ho (by rw[hf]<;>rfl),hf]
 refine I.write (x:=p) (e:=p) (by rw[h];trivial) (.inl rfl) (λb u hb q=>(Heap.get?_update_other _ _ (Ne.symm hb)).trans q) ⟨_,e⟩ ?_;exact⟨hz,its',n',r,e⟩
def ZA:V->V->V->Hp->(Hp->Prop)->Prop:=λo i v H Q=>∃p xs k j,o=.ref p/\i=.int k/\H p=some (.lst xs)/\wM xs.length k=some j/\Q (upd H p (.lst (xs.set j v)))
theorem set_list:Y7 X ZA:=by
 intro pins s σ H o i v ov iv u Q I ro ri rv h;obtain⟨p,xs,k,j,rfl,rfl,hp,hj,q⟩:=h;cases ro;obtain⟨t,rfl⟩:=ri;obtain⟨a4,n,r,ho,hz⟩:=I.lst hp;obtain⟨h1,h2,h3,h4⟩:=Er hj;have hl:=r.length;have hn:=ot;have I':Inv X pins σ (upd H p (.lst (xs.set j v))) {s with heap:=s.heap.update p (Obj.mapSeq (·.setIfInBounds j u))} :=
  I.T_ hp ho (B5 a4 n j u) (r.set rv j) (by rw[NF];exact hz) s.toks
 by_cases h0:0<=k;have hk:k.toNat=j:=by rw[seqIndex_of h0 h4] at h1;exact Option.some.inj h1
 exact PySem.W.ki_setAt ho h0 (by omega) (by rw[iU,<- hl];exact h4) (by rw[hk];exact⟨_,I',q⟩);have hk:(k+(a4.toArray.size:Int)).toNat=j:=by rw[seqIndex_neg (by omega) h3] at h1;rw[iU,<- hl];exact Option.some.inj h1
 exact PySem.W.ki_setBack ho (by omega) (by rw[iU,<- hl];exact h3) (by omega) (by rw[hk];exact⟨_,I',q⟩)
theorem wQ(lo hi:Option Int)(n:Nat):(sliceBounds lo hi none n).1=((HT.fj n 0 lo:Nat):Int)/\(sliceBounds lo hi none n).2.1=((HT.fj n n hi:Nat):Int)/\(sliceBounds lo hi none n).2.2=1:=by
 refine⟨?_,?_,rfl⟩;cases lo with
 |none=>simp[sliceBounds,HT.fj]
 |some i=>simp only[sliceBounds,HT.fj,Option.getD_none,show (1:Int) > 0 by decide,if_true];by_cases h:i<0;simp only[h,if_true]<;>omega;simp only[h,if_false]<;>omega
 cases hi with
 |none=>simp[sliceBounds,HT.fj]
 |some i=>simp only[sliceBounds,HT.fj,Option.getD_none,show (1:Int) > 0 by decide,if_true];by_cases h:i<0;simp only[h,if_true]<;>omega;simp only[h,if_false]<;>omega
theorem ug(a4:qag)(lo hi:Option Int):slicePick a4.toArray lo hi none=((a4.drop (HT.fj a4.length 0 lo)).take (HT.fj a4.length a4.length hi-HT.fj a4.length 0 lo)).toArray:=by obtain⟨h1,h2,h3⟩:=wQ lo hi a4.toArray.size;unfold slicePick;rw[h1,h2,h3];simp only[sliceRange_one,pick_run,iU]<;>rfl
def ZC(K:qaf):V->Option Int->Option Int->Hp->VK->Prop:=λx lo hi H Q=>∃a xs,x=.ref a/\iV K H a xs/\∀p,H p=none->Q (.ref p) (upd H p (.lst (zi xs lo hi)))
theorem Oy:Jl X (ZC X.K):=by intro pins s σ H x v vl vu lo hi sl Q I rx hs pl pu h;obtain⟨a,xs,rfl,hx,q⟩:=h;cases rx;obtain⟨a4,r,ht,hz⟩:=I.list hx;have hlen:=r.length;refine⟨"list",_,slot_list_getitem.lookup,ht.isList.typeIs,?_⟩;refine wpAny_getItem_list_slice ht.isList hs pl pu .none (by simp) ?_ (by rw[iU]<;>omega);rw[ug,<- hlen];refine⟨.ref s.heap.objs.size,_,I.laid (t':=s.toks) (o:=.lst (zi xs lo hi)) (λb ob q=>og _ q) (c_ _) ?_,rfl,q _ (I.cx.fresh (c_ _))⟩;exact⟨mX (pM xs lo hi) hz,_,0,(r.drop (HT.fj xs.length 0 lo)).take (HT.fj xs.length xs.length hi-HT.fj xs.length 0 lo),vy _ rfl⟩
def jY:V->Bool
 |.aP=>true
 |.bl _=>true
 |.int _=>true
 |.str _=>true
 |_=>false
def NN:V->V->Bool
 |.aP,.aP=>true
 |.bl a,.bl b=>a==b
 |.bl a,.int b=>(if a then 1 else 0)==b
 |.int a,.bl b=>a==(if b then 1 else 0)
 |.int a,.int b=>a==b
 |.str a,.str b=>a==b
 |_,_=>false
theorem T'{s:Shared}{y x:V}{v:Value}(ry:RelV y u)(rx:RelV x v)(fy:jY y=true)(fx:jY x=true):SeqAt.EqAt A s u v (NN y x):=by
 cases y with
 |aP=>
  cases ry;cases x with
  |aP=>cases rx;exact SeqAt.EqAt.same _
  |bl b=>cases rx;exact SeqAt.EqAt.none_bool b
  |int b=>obtain⟨t,rfl⟩:=rx;exact SeqAt.EqAt.none_int b t
  |str b=>obtain⟨t,rfl⟩:=rx;exact SeqAt.EqAt.none_str b t
  |_=>exact absurd (show false=true from fx) jb
 |bl a=>
  cases ry;cases x with
  |aP=>cases rx;exact SeqAt.EqAt.bool_none a
  |bl b=>cases rx;exact SeqAt.EqAt.bool_bool a b
  |int b=>obtain⟨t,rfl⟩:=rx;exact SeqAt.EqAt.bool_int a b t
  |str b=>obtain⟨t,rfl⟩:=rx;exact SeqAt.EqAt.bool_str a b t
  |_=>exact absurd (show false=true from fx) jb
 |int a=>
  obtain⟨t',rfl⟩:=ry;cases x with
  |aP=>cases rx;exact SeqAt.EqAt.int_none a t'
  |bl b=>cases rx;exact SeqAt.EqAt.int_bool a t' b
  |int b=>obtain⟨t,rfl⟩:=rx;exact SeqAt.EqAt.int_int a t' b t
  |str b=>obtain⟨t,rfl⟩:=rx;exact SeqAt.EqAt.int_str a t' b t
  |_=>exact absurd (show false=true from fx) jb
 |str a=>
  obtain⟨t',rfl⟩:=ry;cases x with
  |aP=>cases rx;exact SeqAt.EqAt.str_none a t'
  |bl b=>cases rx;exact SeqAt.EqAt.str_bool a t' b
  |int b=>obtain⟨t,rfl⟩:=rx;exact SeqAt.EqAt.str_int a t' b t
  |str b=>obtain⟨t,rfl⟩:=rx;exact SeqAt.EqAt.str_str a t' b t
  |_=>exact absurd (show false=true from fx) jb
 |_=>exact absurd (show false=true from fy) jb
def Oz(x:V)(u:Value):Bool:=match u with
 |.none=>NN .aP x
 |.bool b=>NN (.bl b) x
 |.int i _=>NN (.int i) x
 |.str z _=>NN (.str z) x
 |_=>false
theorem Jn{x y:V}(r:RelV y u)(f:jY y=true):Oz x u=NN y x:=by
 cases y with
 |aP=>cases r;rfl
 |bl b=>cases r;rfl
 |int i=>obtain⟨t,rfl⟩:=r;rfl
 |str z=>obtain⟨t,rfl⟩:=r;rfl
 |_=>exact absurd (show false=true from f) jb
theorem wR{x:V}:∀{xs:qak}{us:qag},Vals xs us->xs.all jY=true->us.any (Oz x)=xs.any λy=>NN y x
 |_,_,.nil,_=>rfl
 |y::xs,u::us,.cons r t,f=>by rw[List.all_cons,m9] at f;rw[RG,RG,Jn r f.1,wR t f.2]
theorem rh{A:Around}{s:Shared}{x:V}{v:Value}(rx:RelV x v)(fx:jY x=true):∀{xs:qak}{us:qag},Vals xs us->xs.all jY=true->∀u∈us,SeqAt.EqAt A s u v (Oz x u)
 |_,_,.nil,_=>λu hu=>by cases hu
 |y::xs,u::us,.cons r t,f=>λu' hu=>by
  rw[List.all_cons,m9] at f;rcases c4.mp hu with rfl|hu
  rw[Jn r f.1];exact T' r rx f.1 fx;exact rh rx fx t f.2 u' hu
def inV(x:V)(xs:qak):Bool:=xs.any λy=>NN y x
def rIn(K:qaf)(neg:Bool):R2:=λx y H Q=>∃p xs,y=.ref p/\(iV K H p xs\/fM K H p xs)/\jY x=true/\xs.all jY=true/\Q (.bl (if neg then !inV x xs else inV x xs)) H
theorem Ga:gH X (compareOp .In) (rIn X.K false):=by
 intro pins s σ H x y v u Q I rx ry h;obtain⟨p,xs,rfl,hq,fx,fs,q⟩:=h;cases ry;obtain hq|hq:=hq
 obtain⟨a4,r,pl,hz⟩:=I.list hq;refine SeqAt.in_listAt (Oz x) pl.isList (λw hw=>rh rx fx r fs w (by simpa using hw)) ⟨.bl _,H,I,rfl,?_⟩;rw[show a4.toArray.any (Oz x)=a4.any (Oz x) by simp,wR r fs];exact q;obtain⟨a4,r,pl,hz⟩:=I.tuple hq;refine SeqAt.in_tupleAt (Oz x) pl (λw hw=>rh rx fx r fs w (by simpa using hw)) ⟨.bl _,H,I,rfl,?_⟩;rw[show a4.toArray.any (Oz x)=a4.any (Oz x) by simp,wR r fs];exact q
theorem wU:fF X (.builtin "len") (λxs H Q=>∃p ys,xs=[.ref p]/\(iV X.K H p ys\/fM X.K H p ys)/\Q (.int ys.length) H):=by
 intro pins s σ H xs us Q I r h;obtain⟨p,ys,rfl,hq,q⟩:=h;obtain⟨u,rfl,rx⟩:=vals1 r;cases rx;have hn:=ot;obtain hq|hq:=hq
 obtain⟨a4,r',pl,hz⟩:=I.list hq;have hlen:=r'.length;exact Calls.call_len_list pl.isList (by simp only[iU]<;>omega) ⟨.int ys.length,H,I.tok _,⟨s.toks+1,by rw[iU,hlen]⟩,q⟩;obtain⟨a4,r',pl,hz⟩:=I.tuple hq;have hlen:=r'.length;exact len_tuple pl (by simp only[iU]<;>omega) ⟨.int ys.length,H,I.tok _,⟨s.toks+1,by rw[iU,hlen]⟩,q⟩
theorem wV:fF X (.builtin "len") (λxs H Q=>∃z,xs=[.str z]/\z.length<=sizeLine/\Q (.int z.length) H):=by intro pins s σ H xs us Q I r h;obtain⟨z,rfl,hz,q⟩:=h;obtain⟨u,rfl,t,rfl⟩:=vals1 r;have hn:=ot;exact len_str (by omega) ⟨.int z.length,H,I.tok _,⟨_,rfl⟩,q⟩
theorem fF.or{f:Value}{r r':qak->Hp->VK->Prop}(h:fF X f r)(h':fF X f r'):fF X f (λxs H Q=>r xs H Q\/r' xs H Q):=by
 intro pins s σ H xs us Q I rs q;obtain q|q:=q
 exact h pins s σ H xs us Q I rs q;exact h' pins s σ H xs us Q I rs q
theorem dR:fF X (.type "list") (λxs H Q=>∃p ys,xs=[.ref p]/\(iV X.K H p ys\/fM X.K H p ys)/\∀l,H l=none->Q (.ref l) (upd H l (.lst ys))):=by
 intro pins s σ H xs us Q I r h;obtain⟨p,ys,rfl,hq,q⟩:=h;obtain⟨u,rfl,rx⟩:=vals1 r;cases rx;have fin:∀(a4:qag),Vals ys a4->ys.length<=sizeLine->∀(h':Heap)(c':Nat),(∀b o',s.heap.get? b=some o'->h'.get? b=some o') ->
   h'.get? s.heap.objs.size=some {cls:=.type "list",dict:=none,data:=.seq a4.toArray c',slots:=#[]}->EP X pins σ Q (.ref s.heap.objs.size) {s with heap:=h'}:=λa4 r' hz h' c' kp e=>
  ⟨.ref s.heap.objs.size,_,I.laid (t':=s.toks) kp (c_ _) (show cH X.prog X.w _ h' _ (.lst ys) from⟨hz,a4,c',r',e⟩),rfl,q _ (I.cx.fresh (c_ _))⟩
 obtain hq|hq:=hq
 obtain⟨a4,r',pl,hz⟩:=I.list hq;have hlen:=r'.length;obtain⟨o,ho,hc,n,hd⟩:=pl.isList;exact call_list_seq p (.inl rfl) ho hc hd (λh' c' kp e=>fin a4 r' hz h' c' kp e) (by simp only[iU]<;>omega);obtain⟨a4,r',pl,hz⟩:=I.tuple hq;have hlen:=r'.length;obtain⟨o,ho,hc,n,hd⟩:=pl;exact call_list_seq p (.inr rfl) ho hc hd (λh' c' kp e=>fin a4 r' hz h' c' kp e) (by simp only[iU]<;>omega)
theorem iL:fF X (.type "tuple") (λxs H Q=>∃p ys,xs=[.ref p]/\((iV X.K H p ys/\∀l,H l=none->Q (.ref l) (upd H l (.tup ys)))\/(fM X.K H p ys/\Q (.ref p) H))):=by
 intro pins s σ H xs us Q I r h;obtain⟨p,ys,rfl,h⟩:=h;obtain⟨u,rfl,rx⟩:=vals1 r;cases rx;obtain⟨hq,q⟩|⟨hq,q⟩:=h
 obtain⟨a4,r',pl,hz⟩:=I.list hq;have hlen:=r'.length;refine call_tuple_list pl.isList (λh' kp=>?_) (by simp only[iU]<;>omega);have I1:Inv X pins σ H {s with heap:=h'}:=I.kept (t':=s.toks) kp;have I2:Inv X pins σ (upd H h'.objs.size (.tup ys)) {s with heap:=h'.push {cls:=.type "tuple",data:=.seq a4.toArray} } :=
  I1.laid (t':=s.toks) (λb o e=>og _ e) (c_ _) (show cH X.prog X.w _ _ _ (.tup ys) from⟨hz,a4,r',IsTup.new _ _⟩)
 exact⟨.ref h'.objs.size,_,I2,rfl,q _ (I1.cx.fresh (c_ _))⟩;obtain⟨a4,r',pl,hz⟩:=I.tuple hq;exact call_tuple_same pl ⟨.ref p,H,I,rfl,q⟩
def tyV(K:qaf)(T:String)(x:V)(H:Hp):Prop:=match x with
 |.str _=>T="str"
 |.int _=>T="int"
 |.ref p=>(T="list"/\∃xs,iV K H p xs)\/(T="tuple"/\∃o,K.lookup p=some o/\o.cls=.type "tuple"/\o.dict=none) \/
  (T="dict"/\((∃a_,H p=some (.dK a_))\/∃a_,H p=some (.dT a_)))\/(T="set"/\∃S n,H p=some (.set S n))
 |_=>False
theorem Jo{s:Shared}{T:String}{x:V}{v:Value}(I:Inv X pins σ H s)(r:RelV x v)(ty:tyV X.K T x H) :
  s.TypeIs v T/\∀a,v=.ref a->∃ob,s.heap.get? a=some ob/\ob.dict=none:=by
 cases x with
 |str z=>obtain⟨t,rfl⟩:=r;cases (show T="str" from ty);exact⟨typeIs_str s z t,λ_ e=>nomatch e⟩
 |int i=>obtain⟨t,rfl⟩:=r;cases (show T="int" from ty);exact⟨typeIs_int s i t,λ_ e=>nomatch e⟩
 |ref p=>
   cases r;obtain⟨rfl,xs,hq⟩|⟨rfl,o,hk,hc,hd⟩|⟨rfl,hk⟩|⟨rfl,S,n,hk⟩:=ty
   obtain⟨a4,_,pl,_⟩:=I.list hq;refine⟨pl.isList.typeIs,λa e=>?_⟩;cases e;obtain⟨o,n,e,c,hd,_⟩:=pl;exact⟨o,e,hd⟩;refine⟨⟨o,I.ue p o hk,hc⟩,λa e=>?_⟩;cases e;exact⟨o,I.ue _ o hk,hd⟩;have z:∃o,s.heap.get? p=some o/\o.ExactDict:=by
    obtain⟨a_,hk⟩|⟨a_,hk⟩:=hk
    obtain⟨_,_,_,_,o,_,_,e,ex,_⟩:=I.cx p _ hk;exact⟨o,e,ex⟩;obtain⟨_,_,_,_,o,_,_,e,ex,_⟩:=I.cx p _ hk;exact⟨o,e,ex⟩
   obtain⟨o,e,ex⟩:=z;refine⟨⟨o,e,ex.1⟩,λa e2=>?_⟩;cases e2;exact⟨o,e,ex.2.1⟩;obtain⟨o,_,_,_,e,ex,_⟩:=I.cx p _ hk;refine⟨⟨o,e,ex.1⟩,λa e2=>?_⟩;cases e2;exact⟨o,e,ex.2.1⟩
 |_=>exact False.elim ty
def aft(K:qaf)(T:String)(r:V->qak->Hp->VK->Prop)(to:TE):TE:=λσ H Q=>to σ H λx H1=>tyV K T x H1/\r x [] H1 Q
def tBM(K:qaf)(T:String)(r:V->qak->Hp->VK->Prop)(to:TE)(t:TA):TE:=λσ H Q=>to σ H λx H1=>tyV K T x H1/\t σ H1 λxs H2=>r x xs H2 Q
variable{to:TE}{t:TA}{name:Str}{T id:String}{r:V->qak->Hp->VK->Prop}
theorem B6(pa:PlainAttrs T)(slot:Slot T name id)(Ua:typeOf (.builtin id)=pure (.type "method_descriptor"))(hm:RW X id r)(ho:PE X o to)(dv:attributeBase o name X.env (eval o X.env)=eval o X.env:=by rfl)(dw:(apos.endLine==a5.line)=true:=by rfl):PE X (.Call (.Attribute o name apos) [] [] a5) (aft X.K T r to):=by intro pins s σ H Q I h;refine wpAny_Call_method0_late dv dw (cc (ho pins s σ H _ I h) λv s1 ⟨x,H1,I1,r1,ty,q1⟩=>?_);obtain⟨h1,h2⟩:=Jo I1 r1 ty;exact⟨T,id,pa,slot,Ua,h1,h2,YK rfl (PySem.evalArgs_none (hm pins s1 σ H1 x [] v [] Q I1 r1 .nil q1))⟩
theorem rj(pa:PlainAttrs T)(slot:Slot T name id)(Ua:typeOf (.builtin id)=pure (.type "method_descriptor"))(hm:RW X id r)(ho:PE X o to)(ha:PA X (e::es) t)(dv:attributeBase o name X.env (eval o X.env)=eval o X.env:=by rfl)(lW:((backTo a5 (starEach (e::es) X.env)).all (λx=>!x.1) && (backToKw a5 (keywordEach [] X.env)).all (λx=>x.1.isSome)
    && decide ((e::es).length+([]:List Keyword).length+(if ([]:List Keyword).isEmpty then 0 else 1)<30))=true:=by rfl)(dw:(apos.endLine==a5.line)=true:=by rfl)(hs:starEach (e::es) X.env=(false,eval e X.env)::starEach es X.env:=by rfl)(eZ:(backTo a5 (starEach es X.env)).any (·.1)=false:=by rfl) :
  PE X (.Call (.Attribute o name apos) (e::es) [] a5) (tBM X.K T r to t):=by
 intro pins s σ H Q I h;refine wpAny_Call_method_late dv lW dw rfl (cc (ho pins s σ H _ I h) λv s1 ⟨x,H1,I1,r1,ty,q1⟩=>?_);obtain⟨h1,h2⟩:=Jo I1 r1 ty;refine⟨T,id,pa,slot,Ua,h1,h2,?_⟩;have hA:=ha a5 pins s1 σ H1 _ I1 q1;rw[hs] at hA ⊢;refine YK (by show (false || (backTo a5 (starEach es X.env)).any (·.1))=false;rw[eZ]<;>rfl) (ab9 ?_);exact cc hA λus s2 ⟨vs,H2,I2,r2,q2⟩=>hm pins s2 σ H2 x vs v us Q I2 r1 r2 q2
end
def MtM(X:Cx)(id:String)(r:V->qak->Hp->VK->Prop):Prop :=
 ∀(pins:qaa)(s:Shared)(σ:St)(H:Hp)(x:V)(xs:qak)(v:Value)(us:qag)(Q:VK),Inv X pins σ H s->RelV x v->Vals xs us->r x xs H Q ->
  wpAny (model X.prog X.w) X.A (call (.builtin id) (v::us)) (EP X pins σ Q) X.xe s
theorem Vals.one:∀{x:V}{us:qag},Vals [x] us->∃u,us=[u]/\RelV x u
 |_,_,.cons r .nil=>⟨_,rfl,r⟩
theorem Vals.zero:∀{us:qag},Vals [] us->us=[]
 |_,.nil=>rfl
theorem Vals.dropLast(h:Vals xs us):Vals xs.dropLast us.dropLast:=by
 induction h with
 |nil=>exact .nil
 |cons r t ih=>
  cases t with
  |nil=>exact .nil
  |cons q t'=>exact .cons r ih
theorem Vals.rep{xs:qak}{us:qag}(h:Vals xs us):∀k:Nat,Vals (List.replicate k xs).flatten (List.replicate k us).flatten
 |0=>.nil
 |k+1=>by rw[ud,ud,NB,NB];exact Vals.append h (Vals.rep h k)
theorem B7(l:List α):l.eraseIdx (l.length-1)=l.dropLast:=by
 induction l with
 |nil=>rfl
 |cons a r ih=>
  cases r with
  |nil=>rfl
  |cons b r=>
   have e:(a::b::r).length-1=((b::r).length-1)+1:=by have h1:(a::b::r).length=r.length+2:=rfl;have h2:(b::r).length=r.length+1:=rfl;omega
   rw[e,List.eraseIdx_cons_succ,ih]
   all_goals rfl
theorem foldl_rep(a4:qag):∀(k:Nat)(acc:qag),
  List.foldl (λx1 x2=>x1++x2) acc.toArray (List.replicate k a4.toArray)=(acc++(List.replicate k a4).flatten).toArray
 |0,acc=>by simp
 |k+1,acc=>by
   have e:acc.toArray++a4.toArray=(acc++a4).toArray:=by simp
   have e2:(acc++a4)++(List.replicate k a4).flatten=acc++(List.replicate (k+1) a4).flatten:=by rw[ud,NB,Ti]
   rw[<- e2,<- foldl_rep a4 k (acc++a4),<- e,ud,List.foldl_cons]
section
variable{s:Shared}{l b:Addr}{ys zs:qak}
theorem Inv.Ub{a4 its':qag}{f:Array Value->Array Value}(I:Inv X pins σ H s)(hH:H l=some (.lst xs))(e:s.heap.get? l=some {cls:=.type "list",data:=.seq a4.toArray n})(hf:f a4.toArray=its'.toArray)(hv:Vals ys its')(hz:ys.length<=sizeLine) :
  Inv X pins σ (upd H l (.lst ys)) {s with heap:=s.heap.update l (Obj.mapSeq f),toks:=t'}:=by
 have q:=PySem.IsL.update e f;rw[hf] at q;refine I.write (x:=l) (e:=l) (by rw[hH];exact trivial) (.inl rfl) (λb' u hb hu=>(Heap.get?_update_other s.heap (Obj.mapSeq f) (Ne.symm hb)).trans hu) ⟨_,q⟩ ?_;exact⟨hz,its',_,hv,q⟩
theorem Inv.ZD{a4:qag}(I:Inv X pins σ H s)(hv:Vals ys a4)(hz:ys.length<=sizeLine) :
  Inv X pins σ (upd H s.heap.objs.size (.lst ys)) {s with heap:=s.heap.push {cls:=.type "list",data:=.seq a4.toArray},toks:=t'} :=
 I.laid (λ_ _ q=>og _ q) (c_ _) ⟨hz,a4,0,hv,vy _ rfl⟩
theorem Inv.fresh(I:Inv X pins σ H s):H s.heap.objs.size=none:=I.cx.fresh (c_ _)
theorem Inv.Jp(I:Inv X pins σ H s)(hH:H l=some (.lst xs)):xs.length<=sizeLine/\∃(a4:qag)(n:Nat),Vals xs a4/\xs.length=a4.length/\s.heap.get? l=some {cls:=.type "list",data:=.seq a4.toArray n}:=by obtain⟨z,a4,n,r,e⟩:=I.cx l _ hH;exact⟨z,a4,n,r,r.length,e⟩
theorem zj(h:n<=sizeLine):Builtin.List.listTooLong n=false:=by unfold Builtin.List.listTooLong;exact decide_eq_false (by omega)
end
section
def Et:V->qak->Hp->VK->Prop:=λx vs H Q=>∃l xs y,x=.ref l/\vs=[y]/\H l=some (.lst xs)/\xs.length<sizeLine/\Q .aP (upd H l (.lst (xs++[y])))
theorem bQ:MtM X "list.append" Et:=by intro pins s σ H x vs v us Q I rx rv h;obtain⟨l,xs,y,rfl,rfl,hH,hz,q⟩:=h;cases rx;obtain⟨u,rfl,ru⟩:=rv.one;obtain⟨z,a4,n,r,hl,e⟩:=I.Jp hH;refine call_meets F.slot_list_append ⟨_,e,rfl⟩ F.entry_list_append (F.args_list_append_2 _ _) (PySem.list_append l a4.toArray n u (by rw[iU];omega)) ⟨e,?_⟩;refine⟨.aP,_,I.Ub (its':=a4++[u]) hH e (by simp) (r.append (.cons ru .nil)) ?_,rfl,q⟩;rw[pH,List.length_singleton];omega
def OA:V->qak->Hp->VK->Prop:=λx vs H Q=>∃l b xs zs,x=.ref l/\vs=[.ref b]/\H l=some (.lst xs)/\H b=some (.lst zs)/\xs.length+zs.length<=sizeLine/\Q .aP (upd H l (.lst (xs++zs)))
theorem Gb:MtM X "list.extend" OA:=by
 intro pins s σ H x vs v us Q I rx rv h;obtain⟨l,b,xs,zs,rfl,rfl,hH,hB,hz,q⟩:=h;cases rx;obtain⟨u,rfl,ru⟩:=rv.one;cases ru;obtain⟨z,a4,n,r,hl,e⟩:=I.Jp hH;obtain⟨z2,ij,n2,r2,hl2,e2⟩:=I.Jp hB;have hsz:a4.toArray.size+ij.toArray.size<=sizeLine:=by rw[iU,iU];omega
 have Jq:¬ (!a4.toArray.isEmpty && Builtin.List.listTooLong (a4.toArray.size+ij.toArray.size))=true:=by rw[zj hsz,Bool.and_false];exact jb
 refine call_meets F.slot_list_extend ⟨_,e,rfl⟩ F.entry_list_extend (F.args_list_extend_2 _ _)
  (AutoSeq1.list_extend_list_list_0 l a4.toArray n b ij.toArray n2 Jq (by rw[iU];omega) (by omega)) ⟨e,e2,?_⟩
 refine⟨.aP,_,I.Ub (its':=a4++ij) hH e (by simp) (r.append r2) ?_,rfl,q⟩;rw[pH];omega
def ZE:V->qak->Hp->VK->Prop:=λx vs H Q=>∃l xs y,x=.ref l/\vs=[]/\H l=some (.lst xs)/\xs[xs.length-1]?=some y/\Q y (upd H l (.lst xs.dropLast))
theorem wW:MtM X "list.pop" ZE:=by
 intro pins s σ H x vs v us Q I rx rv h;obtain⟨l,xs,y,rfl,rfl,hH,hy,q⟩:=h;cases rx;have Uc:=rv.zero;subst Uc;obtain⟨z,a4,n,r,hl,e⟩:=I.Jp hH;obtain⟨u,hu,ru⟩:=r.get hy;have hy':a4.toArray[a4.toArray.size-1]?=some u:=by show a4.toArray[a4.length-1]?=some u;rw[<- Array.getElem?_toList,<- hl];exact hu
 refine call_meets F.slot_list_pop ⟨_,e,rfl⟩ F.entry_list_pop (F.args_list_pop_1 _) (MeetsSeq.list_pop_last l a4.toArray n u hy' (by rw[iU];omega)) ⟨e,?_⟩;refine⟨y,_,I.Ub (its':=a4.dropLast) hH e ?_ r.dropLast ?_,ru,q⟩;show a4.toArray.eraseIdxIfInBounds (a4.toArray.size-1)=a4.dropLast.toArray;rw[iU,List.eraseIdxIfInBounds_toArray,B7];rw[BF];omega
def afu:R2:=λx y H Q=>∃l k xs,x=.ref l/\y=.int k/\H l=some (.lst xs)/\-(2 ^ 63)<=k/\k<2 ^ 63/\xs.length * k.toNat<=sizeLine /\
 ∀p,H p=none->Q (.ref p) (upd H p (.lst (List.replicate k.toNat xs).flatten))
theorem len_rep(xs:List α)(k:Nat):(List.replicate k xs).flatten.length=k * xs.length:=by
 induction k with
 |zero=>simp
 |succ k ih=>rw[ud,NB,pH,ih,Nat.succ_mul,Nat.add_comm]
theorem Ud:gH X (binaryOp .Mult) afu:=by
 intro pins s σ H x y v u Q I rx ry h;obtain⟨l,k,xs,rfl,rfl,hH,h1,h2,hz,q⟩:=h;cases rx;obtain⟨t,rfl⟩:=ry;obtain⟨z,a4,n,r,hl,e⟩:=I.Jp hH;have hlen:a4.toArray.size * k.toNat<=sizeLine:=by rw[iU,<- hl];exact hz
 have afv:¬ a4.toArray.size * k.toNat > (2 ^ 63-1) / 8:=by
  have:(sizeLine:Nat)<=(2 ^ 63-1) / 8:=by decide
  omega
 have afw:¬ (!Builtin.List.listFitsIndex k)=true:=by rw[fitsIndex_both h1 h2];exact jb
 have Jq:¬ Builtin.List.listTooLong (a4.toArray.size * k.toNat)=true:=by rw[zj hlen];exact jb
 have afx:List.foldl (λx1 x2=>x1++x2) #[] (List.replicate (if a4.toArray.isEmpty=true then 0 else k.toNat) a4.toArray)=(List.replicate k.toNat a4).flatten.toArray:=by
  have f0:∀m:Nat,List.foldl (λx1 x2=>x1++x2) #[] (List.replicate m a4.toArray)=(List.replicate m a4).flatten.toArray:=λm=>by have:=foldl_rep a4 m [];rw[X1] at this;exact this
  rw[f0];cases a4 with
  |nil=>simp
  |cons a r'=>rw[if_neg (by simp)]
 refine wpAny_binaryOp_repeat_ref (T:="list") (U:="int") (by decide) ⟨_,e,rfl⟩ (λs'=>typeIs_int s' k t) noFill_list_mul F.fills_int_mul F.slot_int_rmul repeat_list F.slot_int_index.lookup
  (call_meets F.slot_int_rmul (typeIs_int s k t) F.entry_int_rmul (F.args_int_rmul_2 _ _) (int___rmul___int_list k t l a4.toArray n)
   ⟨e,rfl,⟨_,e,rfl⟩,call_meets F.slot_list_mul ⟨_,e,rfl⟩ F.entry_list_mul (F.args_list_mul_2 _ _) (AutoListH.list___mul___list_int_3 l a4.toArray n k t afw afv Jq) ⟨e,?_⟩⟩)
 rw[afx];exact⟨.ref _,_,I.ZD (t':=s.toks) (r.rep k.toNat) (by rw[len_rep,Nat.mul_comm];exact hz),rfl,q _ I.fresh⟩
end
end L2
namespace Att
open PySem PySem.W PySem.Calls PyProof.Rows
theorem qi{P:Params}:∀(ns:qan)(vs:qag),WellAll P h vs (ns.map WData.int)->IntsAre vs ns:=by
 intro ns;induction ns with
 |nil=>intro vs w;rw[N6] at w;cases w;exact .nil
 |cons n ns ih=>
  intro vs w;rw[ix] at w;cases w with
  |cons a b=>cases a;exact .cons _ _ (ih _ b)
theorem Gd{l:OpenLaw}(hn:l.most=some n){P:Params}{args:List WData}{vals:qag}(jg:l.row.toRowW.claim.pre args=true)(ZF:WellAll P h vals args) :
  ∃a vs ns,vals=[Value.ref a]/\args=[WData.list (ns.map WData.int)]/\h.get? a=some {cls:=.type "list",data:=.seq vs.toArray}/\IntsAre vs ns/\ns.length<=n:=by
 have hsh:WShape.hasAll [] args [.list .int]=true:=(pre_splitW jg).1;have hc:l.pre.holds [] {args:=args}=true:=(pre_splitW jg).2;obtain⟨d,r,rfl,h1,h2⟩:=hasAllW_cons hsh;obtain rfl:=hasAllW_nil h2;obtain⟨xs,rfl,h3⟩:=hasW_list h1;obtain⟨ns,rfl⟩:=items_int h3;have hlen:ns.length<=n:=by
  unfold OpenLaw.pre at hc;have h4:(WTm.not (.lt (.lit (.int (n:Int))) (.len (.arg 0)))).holds [] {args:=[.list (ns.map .int)]}=true:=by have h4:=(holds_andW hc).1;rw[hn] at h4;exact h4
  have h5:=condW_of h4 (w_not (w_lt w_lit (w_len_list (w_arg rfl))));rw[c3] at h5;refine Nat.le_of_not_lt λq=>?_;have q':(n:Int)<((ns.length:Nat):Int):=by omega
  first
   | (rw[decide_eq_true q'] at h5;exact absurd h5 (by decide))
   | (simp at h5;omega)
 cases ZF with
 |cons w1 w2=>
   cases w2;cases w1 with
   |list ho Ge=>exact⟨_,_,ns,rfl,rfl,ho,qi ns _ Ge,hlen⟩
theorem Gf(l:OpenLaw)(args:List WData):l.row.toRowW.claim.post args (.bool true) args=true :=
 postW_of (r:=l.row.toRowW) (X:=(true==true))
  (show WShape.has [] (.bool true) .bool=true by first|rfl|decide|simp[WShape.has,WShape.arms,WShape.armsAll])
  (show (WTm.eq .res (.lit (.bool true))).value [] {args:=args,res:=some (.bool true),after:=args}=some (.bool (true==true)) from w_eq_bool (w_res rfl) w_lit) rfl
theorem zk{l:OpenLaw}{q:Program}{loose:qai}{XP:(qae)->Heap->Prop}{YP:World->Heap->Prop}{d:DefRec}(hn:l.most=some n)(hdf:d.params.defaults=[])(call:∀(w:World) (s₀ s₁:Shared) (mg mb:qae) (fa:Addr) (o:Obj) (pm cd doc:Value) (a:Addr) (vs:qag) (ns:qan),
    Ground q loose [] XP w s₀ mg mb s₁.heap->YP w s₁.heap ->
    s₁.heap.get? fa=some o->o.data=.func (docDef d.name d.params d.body d.scope pm cd doc)->s₁.heap.CodeRec cd d.name->mg d.name=some (.ref fa) ->
    s₁.heap.get? a=some {cls:=.type "list",data:=.seq vs.toArray}->IntsAre vs ns->ns.length<=n->s₁.gens=#[] ->
    codeAny (model l.prog w) callerA (.call (.ref fa) ⟨[.ref a],[]⟩) (λr s'=>r=.ok (.ret (.bool true))/\OldK s₁.heap s'.heap/\s'.os=s₁.os/\AllBare s'.gens) s₁) :
  WalkO q loose XP YP l.row.toRowW d [] (λf vs=>PySem.call f vs):=by
 intro w s₀ s₁ mg mb G Y fa o pm cd doc dV kV ho hd ig hD ZG hg args vals as jg ZH hrd ZF hlo;obtain rfl:dV=.none:=Dflts.none hD hdf;obtain rfl:kV=.none:=Dflts.noKw hD;obtain⟨a,vs,ns,rfl,rfl,Ue,hints,hlen⟩:=Gd hn jg ZF;refine enter_call (codeAny_mono (call w s₀ s₁ mg mb fa o pm cd doc a vs ns G Y ho (fd_plain hd) ig ZG Ue hints hlen hg) λr s' hq=>?_);obtain⟨rfl,h2,h3,h4⟩:=hq;exact⟨.inl ⟨.bool true,.bool true,[],rfl,λ_=>rfl,.bool true,Gf l _,λ_=>⟨List.Pairwise.nil,λ_ hm=>(nomatch hm)⟩⟩,h2,h3,h4⟩
end Att
namespace L2
open PySem PySem.Spec PyProof.Rows
theorem vH:∀{vs:qag}{ns:qan},IntsAre vs ns->Vals (ns.map V.int) vs
 |_,_,.nil=>.nil
 |_,_,.cons n t h=>.cons ⟨t,rfl⟩ (vH h)
def ZI(H:Hp):Prop:=∀b,H b=none\/∃o xs,H b=some (.y8 o (.lst xs))
theorem Jr{mb:qae}{CX:II}{k:Nat}{fa:Addr}{s₁:Shared}{vs:qag}{ns:qan}(KX:K.In s₁.heap)(hns:s₁.heap.Ns mainGlobals mg)(hb:s₁.heap.Ns builtinsNs mb)(hbb:∀x:Str,x≠"__name__"->mb x=bootBuiltins x)(afy:s₁.heap.NoLimit)(hg:s₁.gens=#[])(ha:s₁.heap.get? a=some {cls:=.type "list",data:=.seq vs.toArray})(hi:IntsAre vs ns)(hl:ns.length<=sizeLine)(hr:bA k callerA)(F:∀base:Heap,K.In base->base.Ns mainGlobals mg->bY P w K mg base CX k fa fd [x] sp)(ZJ:∀(s:Shared) (u:Value),BindsTo s fd ⟨[u],[]⟩ [(x,u)])(NM:∀H:Hp,ZI H->iV K H a (ns.map V.int)->sp [.ref a] H (λv _=>v=.bl true) λ_ _ _=>False)(hCX:∀H e s',CX [] H s₁ (λ_ _ _=>False) e s'->False) :
  codeAny (model P w) callerA (.call (.ref fa) ⟨[.ref a],[]⟩) (λr s'=>r=.ok (.ret (.bool true))/\OldK s₁.heap s'.heap/\s'.os=s₁.os/\AllBare s'.gens) s₁:=by
 have rv:=vH hi;have afz:=hi.length;have core:∀H:Hp,ZI H->iV K H a (ns.map V.int)->mY P w H s₁.heap->(∀b,H b≠none->b=a)->(H a≠none->K.lookup a=none) ->
   codeAny (model P w) callerA (.call (.ref fa) ⟨[.ref a],[]⟩) (λr s'=>r=.ok (.ret (.bool true))/\OldK s₁.heap s'.heap/\s'.os=s₁.os/\AllBare s'.gens) s₁:=by
  intro H hO hS cx hA hK;have Eu:∀{b:Addr}{o:Obj},s₁.heap.get? b=some o->H b=none->(wF s₁.heap H).get? b=some o:=λe n=>IX e n;have Zr:∀{b:Addr}{o:Obj}{es:Array DictEntry}{ep:Nat},s₁.heap.get? b=some o->o.data=.dict es ep->H b=none:=λ{b o es ep} e d=>by
   cases q:H b with
   |none=>rfl
   |some u=>have e':b=a:=hA b (by rw[q];simp);subst e';rw[ha] at e;cases e;have d':Data.seq vs.toArray _=Data.dict es ep:=d;cases d'
  have nsK:∀{b:Addr}{m:qae},s₁.heap.Ns b m->(wF s₁.heap H).Ns b m:=λ{b m} ⟨o,es,ep,e,d,r⟩=>⟨o,es,ep,Eu e (Zr e d),d,r⟩;have hKb:K.In (wF s₁.heap H):=λb o e=>Eu (KX b o e) (by
   cases q:H b with
   |none=>rfl
   |some u=>have e':b=a:=hA b (by rw[q];simp);subst e';rw[hK (by rw[q];simp)] at e;cases e)
  have hM:Mod K mg (wF s₁.heap H):=⟨hKb,nsK hns,⟨mb,nsK hb,hbb⟩,let ⟨mc,h1,h2⟩:=afy;⟨mc,nsK h1,h2⟩⟩;have e0:B1 P w K mg (wF s₁.heap H) callerA [] s₁ H:=⟨rfl,hM,λb o e=>N7 e,Nat.le_of_eq (FR _ _),trivial,λb hb=>absurd (show b∈([]:qah) from hb) (by simp),cx,.of_eq hg⟩;refine codeAny_mono ((F _ hKb (nsK hns)).run callerA [] s₁ H ⟨[.ref a],[]⟩ [.ref a] [.ref a] _ _ hr e0 (ZJ s₁ (.ref a)) (.cons rfl .nil) (NM H hO hS)) λr s' h=>?_;cases r with
  |error e=>exact (hCX H e s' h).elim
  |ok fl=>
    cases fl with
    |ret u=>
      obtain⟨v,H',os,bare,un,afA,r',q⟩:=h;have q':v=.bl true:=q;subst q';obtain rfl:u=Value.bool true:=r';refine⟨rfl,OldK.of_keep λb o e=>?_,os,bare⟩;cases q:H b with
      |none=>exact un.keep b o e q (by intro z;exact absurd (show b∈([]:qah) from z) (by simp)) (by simp)
      |some u=>
        rcases hO b with z|⟨ob,xs,z⟩
        rw[q] at z;cases z;have z2:=un.wD b ob _ z;obtain⟨e1,_⟩:=cx b _ z;obtain⟨e2,_⟩:=afA b _ z2;rw[e] at e1;cases e1;exact e2
    |_=>exact False.elim h
 cases hk:K.lookup a with
 |some o=>have e:=KX a o hk;rw[ha] at e;cases e;refine core (λ_=>none) (λ_=>.inl rfl) (.inr ⟨_,vs.toArray,_,hk,rfl,rfl,rfl,by rw[iU,afz];exact hl,by simpa using rv⟩) (λb u z=>by have z':(none:Option HO)=some u:=z;cases z') (λb z=>absurd rfl z) λz=>absurd rfl z
 |none=>refine core (λb=>if b=a then some (.y8 {cls:=.type "list",data:=.seq vs.toArray} (.lst (ns.map V.int))) else none) (λb=>?_) (.inl (.inr ⟨{cls:=.type "list",data:=.seq vs.toArray},if_pos rfl⟩)) (λb u z=>?_) (λb z=>?_) λ_=>hk;by_cases hb:b=a;exact .inr ⟨_,_,if_pos hb⟩;exact .inl (if_neg hb);by_cases hb:b=a;have z':=(if_pos hb).symm.trans z;cases z';subst hb;exact⟨ha,by rw[c3];exact hl,vs,_,rv,ha⟩;have z':=(if_neg hb).symm.trans z;cases z';by_cases hb:b=a;exact hb;exact absurd (if_neg hb) z
def inClass(s:Stmt)(j:Nat):Stmt:=match s with
 |.ClassDef _ _ _ body _ _ _ _ _ _ _=>body.getD j (.Pass ⟨0,0,0,0⟩)
 |_=>.Pass ⟨0,0,0,0⟩
def dm(s:Stmt):Arguments:=match s with
 |.FunctionDef _ a _ _ _ _ _ _ _ _=>a
 |_=>{posonlyargs:=[],args:=[],vararg:=none,kwonlyargs:=[],kw_defaults:=[],kwarg:=none,defaults:=[]}
def bM(s:Stmt):qaq:=match s with
 |.FunctionDef _ _ b _ _ _ _ _ _ _=>b
 |_=>[]
def ai(s:Stmt):Scope:=match s with
 |.FunctionDef _ _ _ _ _ _ sc _ _ _=>sc
 |_=>{kind:=.function,names:=[],isGenerator:=false,isCoroutine:=false}
abbrev fG:II:=λ_ _ _ _ _ _=>False
abbrev E0:XK:=λ_ _ _=>False
theorem lF:Passes fG X E0:=λ_ _ _ _ _ _ _ h=>h.elim
structure Ew(K:qaf)(x qual:Str)(st:Stmt)(f:Addr)(fd:FuncData):Prop where
 ex:∃(oc:Value)(od:qar)(kV doc pm:Value)(an:qar)(bz ct:Value)(F8:Array (Option Value)),
  fd=PySem.W.fnOf x qual (dm st) (bM st) (ai st) .none kV doc pm an bz ct/\K.lookup f=some ⟨oc,od,.func fd,F8⟩/\PySem.W.codeIn K bz qual=true
 kp:PySem.W.keepIn K (.ref f)=true
section
theorem Ew.ok{st:Stmt}{N:qai}{k:Nat}(F:Ew K x qual st f fd)(S:az N ps (ai st))(len:∀vs H Q E,sp vs H Q E->vs.length=ps.length)(eJ:∀(bz:Value) (A:Around) (outer:List Env) (s:Shared) (H:Hp) (vs:qak) (Q:VK) (E:XK),bA k (A.deeper (envOfC qual (ai st) s.heap.objs.size f bz))->sp vs H Q E ->
    ∃t,jc (gK fG P w K mg base N qual (ai st) f bz A outer s H E).qX (bM st) t/\t {nx:=λ_ H'=>Q .aP H',rt:=Q} (start N vs) H):bY P w K mg base fG (k+1) f fd ps sp:=by
 obtain⟨oc,od,kV,doc,pm,an,bz,ct,F8,rfl,lk,ig⟩:=F.ex;refine RT lk ig S len λA outer s H vs Q E hr NM=>?_;obtain⟨t,h,q⟩:=eJ bz A outer s H vs Q E hr NM;exact⟨t,h.qX,q⟩
theorem Ew.binds{st:Stmt}(F:Ew K x qual st f fd)(h:∀(kV doc pm:Value) (an:qar) (bz ct:Value) (us:qag),us.length=ps.length->bindArgs (PySem.W.fnOf x qual (dm st) (bM st) (ai st) .none kV doc pm an bz ct) ⟨us,[]⟩=pure (ps.zip us)):Binds K fd ps []:=by obtain⟨oc,od,kV,doc,pm,an,bz,ct,F8,rfl,lk,ig⟩:=F.ex;exact .all (h kV doc pm an bz ct)
theorem rm{st:Stmt}{oc:Value}{od an:qar}{F8:Array (Option Value)}{kV doc pm bz ct:Value}(l:K.lookup f=some ⟨oc,od,.func (PySem.W.fnOf x qual (dm st) (bM st) (ai st) .none kV doc pm an bz ct),F8⟩)(c:PySem.W.codeIn K bz qual=true)(k:PySem.W.keepIn K (.ref f)=true):Ew K x qual st f (PySem.W.fnOf x qual (dm st) (bM st) (ai st) .none kV doc pm an bz ct):=⟨⟨oc,od,kV,doc,pm,an,bz,ct,F8,rfl,l,c⟩,k⟩
end
theorem Gh(h:n<=1000):n<sizeLine:=acj h (by decide)
theorem Ug{A:Prop}(h:B):if false=true then A else B:=by rw[if_neg jb];exact h
theorem Uh{A:Prop}(h:A):if true=true then A else B:=by rw[if_pos rfl];exact h
theorem zl{c A:Prop}[Decidable c](h1:c->A)(h2:¬ c->B):if c then A else B:=by by_cases h:c;rw[if_pos h];exact h1 h;rw[if_neg h];exact h2 h
def aY(H H':Hp):Prop:=∀b o,H b=some o->H' b=some o
theorem aY.refl(H:Hp):aY H H:=λ_ _ h=>h
theorem aY.trans{H1 H2:Hp}(a:aY H H1)(b:aY H1 H2):aY H H2:=λc o h=>b c o (a c o h)
section
theorem jh{env:Env}{f:Str×NameKind->List (Str×Addr)->Sem (ForInStep (List (Str×Addr)))}:∀(l:List (Str×NameKind))(cs:List (Str×Addr)),
  (∀p∈l,∀r,(p.2=.free->∃c,env.cells.lookup p.1=some c/\f p r=pure (.yield ((p.1,c)::r)))/\(p.2≠.free->f p r=pure (.yield r))) ->
  ∃cl,forIn l cs f=pure cl/\(∀y c,cl.lookup y=some c->cs.lookup y=some c\/env.cells.lookup y=some c)/\(∀y,(cs.lookup y).isSome=true->(cl.lookup y).isSome=true) /\
   ∀p∈l,p.2=.free->(cl.lookup p.1).isSome=true
 |[],cs,_=>⟨cs,by rw[List.forIn_nil],λ_ _ h=>.inl h,λ_ h=>h,λ_ h=>nomatch h⟩
 |p::l,cs,hf=>by
   have hr:∀q∈l,∀r,(q.2=.free->∃c,env.cells.lookup q.1=some c/\f q r=pure (.yield ((q.1,c)::r)))/\(q.2≠.free->f q r=pure (.yield r)):=λq hq r=>hf q (ic _ hq) r;by_cases hp:p.2=.free;obtain⟨c,hc,e⟩:=(hf p dP cs).1 hp;obtain⟨cl,h1,h2,h3,h4⟩:=jh l ((p.1,c)::cs) hr;refine⟨cl,?_,λy d h=>?_,λy h=>h3 y ?_,λq hq hqf=>?_⟩;rw[List.forIn_cons,e];exact h1;rcases h2 y d h with z|z
   rw[ND] at z;cases hy:y==p.1 with
   |true=>rw[hy] at z;have ey:y=p.1:=eq_of_beq hy;cases z;rw[ey];exact .inr hc
   |false=>rw[hy] at z;exact .inl z
   exact .inr z;rw[ND];cases hy:y==p.1 with
   |true=>rfl
   |false=>exact h
   rcases c4.mp hq with z|z
   subst z;refine h3 _ ?_;rw[ND,beq_self_eq_true];rfl;exact h4 q z hqf;have e:=(hf p dP cs).2 hp;obtain⟨cl,h1,h2,h3,h4⟩:=jh l cs hr;refine⟨cl,?_,h2,h3,λq hq hqf=>?_⟩;rw[List.forIn_cons,e];exact h1;rcases c4.mp hq with z|z
   subst z;exact absurd hqf hp;exact h4 q z hqf
theorem jG{scope:Scope}{env:Env}(h:∀p∈scope.names,p.2=.free->∃c,env.cells.lookup p.1=some c) :
  ∃cl,closureFor scope env=pure cl/\(∀y c,cl.lookup y=some c->env.cells.lookup y=some c)/\∀p∈scope.names,p.2=.free->∃c,cl.lookup p.1=some c:=by
 have key:∃cl,closureFor scope env=pure cl/\(∀y c,cl.lookup y=some c->([]:List (Str×Addr)).lookup y=some c\/env.cells.lookup y=some c)/\(∀y,(([]:List (Str×Addr)).lookup y).isSome=true->(cl.lookup y).isSome=true) /\
   ∀p∈scope.names,p.2=.free->(cl.lookup p.1).isSome=true:=by
  simp only[closureFor];have go:=@jh env (λx r=>if x.2==NameKind.free then (do let c <- cellOf env x.1;pure (ForInStep.yield ((x.1,c)::r))) else pure (ForInStep.yield r)) scope.names [] ?_;obtain⟨cl,h1,h2⟩:=go;refine⟨cl,?_,h2⟩
  first
   | (show (forIn scope.names [] _ >>= λcs=>pure cs)=_;rw[h1];rfl)
   | (rw[h1];rfl)
   |exact congrArg (· >>= pure) h1
  intro p hp r;refine⟨λhf=>?_,λhf=>?_⟩;obtain⟨c,hc⟩:=h p hp hf;refine⟨c,hc,?_⟩;have e1:(p.2==NameKind.free)=true:=by rw[hf];rfl
  have e2:cellOf env p.1=pure c:=by unfold cellOf;rw[hc]
  rw[e1,if_pos rfl,e2];rfl;have e1:(p.2==NameKind.free)=false:=by simpa using hf
  rw[e1,if_neg (by decide)]
 obtain⟨cl,h1,h2,h3,h4⟩:=key;refine⟨cl,h1,λy c e=>?_,λp hp hf=>Option.isSome_iff_exists.mp (h4 p hp hf)⟩;rcases h2 y c e with z|z
 rw[List.lookup_nil] at z;cases z;exact z
theorem ny{scope:Scope}{env:Env}(y:Str):(relabel scope env).names.lookup y =
  (scope.names.lookup y).map λk=>if (k==.free && env.scope.kind==.function && env.kindOf y==some .cell)=true then .cell else k:=by
 have key:∀l:List (Str×NameKind),(l.map λ(n,k)=>if (k==NameKind.free && env.scope.kind==.function && env.kindOf n==some .cell) then (n,NameKind.cell) else (n,k)).lookup y =
   (l.lookup y).map λk=>if (k==.free && env.scope.kind==.function && env.kindOf y==some .cell)=true then .cell else k:=by
  intro l;induction l with
  |nil=>rfl
  |cons p l ih=>
    obtain⟨n,k⟩:=p;rw[ix];show List.lookup y ((if (k==NameKind.free && env.scope.kind==.function && env.kindOf n==some .cell)=true then (n,NameKind.cell) else (n,k))::_)=_;by_cases hc:(k==NameKind.free && env.scope.kind==.function && env.kindOf n==some .cell)=true;rw[if_pos hc,ND,ND];cases hy:y==n with
    |true=>have ey:y=n:=eq_of_beq hy;subst ey;show some NameKind.cell=some (if _ then _ else _);rw[if_pos hc]
    |false=>exact ih
    rw[if_neg hc,ND,ND];cases hy:y==n with
    |true=>have ey:y=n:=eq_of_beq hy;subst ey;show some k=some (if _ then _ else _);rw[if_neg hc]
    |false=>exact ih
 exact key scope.names
end
def jZ(N ts:qai)(out sc:Scope):Bool :=
 (sc.kind==.function) && sc.names.all (λp=>(p.2 != .cell) && (p.2 != .free || out.names.lookup p.1==some .cell || out.names.lookup p.1==some .free) && (p.2 != .local || sc.names.lookup p.1==some .local))
  && N.all (λy=>sc.names.lookup y != some .local) && ts.all (λy=>sc.names.lookup y==some .local) && decide ((N++ts).Nodup)
structure rn(N ts:qai)(out sc:Scope):Prop where
 kind:sc.kind=.function
 Js:∀p∈sc.names,p.2≠.cell
 fr:∀p∈sc.names,p.2=.free->out.names.lookup p.1=some .cell\/out.names.lookup p.1=some .free
 names:∀p∈sc.names,p.2=.local->sc.names.lookup p.1=some .local
 own:∀y∈N,sc.names.lookup y≠some .local
 tgt:∀y∈ts,sc.names.lookup y=some .local
 nd:(N++ts).Nodup
theorem vI{N ts:qai}{out:Scope}(h:jZ N ts out sc=true):rn N ts out sc:=by unfold jZ at h;rw[m9,m9,m9,m9] at h;obtain⟨⟨⟨⟨h1,h2⟩,h3⟩,h4⟩,h5⟩:=h;rw[Tn] at h2 h3 h4;refine⟨eq_of_beq h1,λp hp=>?_,λp hp hf=>?_,λp hp hl=>?_,λy hy=>?_,λy hy=>?_,of_decide_eq_true h5⟩;have:=h2 p hp;rw[m9,m9] at this;simpa using this.1.1;have:=h2 p hp;rw[m9,m9] at this;have q:=this.1.2;rw[hf] at q;simpa using q;have:=h2 p hp;rw[m9,m9] at this;have q:=this.2;rw[hl] at q;simpa using q;simpa using h3 y hy;simpa using h4 y hy
def bB(X:Cx)(ts:qai)(sc:Scope)(cl:List (Str×Addr))(C:Addr)(fp:qah)(s:Shared)(H:Hp):Cx where
 prog:=X.prog
 w:=X.w
 K:=X.K
 mg:=X.mg
 base:=X.base
 A:=X.A
 N:=X.N++ts
 s₀:=s
 H₀:=H
 env:=compEnvC sc cl C X.env
 outer:=X.stack
 stack:=X.stack
 ex:=fp
 fn:=λ_=>false
 calm:=X.calm
 pn:=[]
 xe:=λ_ _=>False
section
variable{s:Shared}{ts:qai}{cl:List (Str×Addr)}{D:Addr}
theorem vJ(hS:rn X.N ts X.env.scope sc)(h:mZ (relabel sc X.env) y):sc.names.lookup y=some .local\/(sc.names.lookup y=some .free/\((relabel sc X.env).names.lookup y=some .cell\/(relabel sc X.env).names.lookup y=some .free)):=by
 have e:=ny (scope:=sc) (env:=X.env) y;cases hk:sc.names.lookup y with
 |none=>rw[hk] at e;have e':(relabel sc X.env).names.lookup y=none:=e;obtain h|h|h:=h<;>rw[e'] at h<;>cases h
 |some k=>
  have hm:(y,k)∈sc.names:=RC hk;rw[hk] at e;cases k with
  |«local»=>exact .inl rfl
  |cell=>exact absurd rfl (hS.Js _ hm)
  |free=>refine .inr ⟨rfl,?_⟩;rw[e,X2];by_cases hc:(NameKind.free==.free && X.env.scope.kind==.function && X.env.kindOf y==some .cell)=true;rw[if_pos hc];exact .inl rfl;rw[if_neg hc];exact .inr rfl
  |globalExplicit=>have e':(relabel sc X.env).names.lookup y=some .globalExplicit:=e;obtain h|h|h:=h<;>rw[e'] at h<;>cases h
  |globalImplicit=>have e':(relabel sc X.env).names.lookup y=some .globalImplicit:=e;obtain h|h|h:=h<;>rw[e'] at h<;>cases h
theorem Ex(I:Inv X pins σ H s)(hf:∀b∈fp,qh X pins H b):∀b∈fp,b∉IF X.stack:=λb hb z=>by
 obtain⟨_,f1,f2,_⟩:=hf b hb;rcases c4.mp (I.BI b z) with e|e
 exact f1 e;exact f2 e
theorem OB(I:Inv X pins σ H s)(hf:∀b∈fp,qh X pins H b)(Ui:∀b∈fp,∃o,s.heap.get? b=some o)(hS:rn X.N ts X.env.scope sc)(c1:∀y c,cl.lookup y=some c->X.env.cells.lookup y=some c)(c2:∀p∈sc.names,p.2=.free->∃c,cl.lookup p.1=some c)(hC:s.heap.objs.size<=C)(hD:s.heap.objs.size<=D)(hDC:D≠C){h1:Heap}{m:qae}{t:Nat}(k:∀b o,s.heap.get? b=some o->h1.get? b=some o)(hn:h1.Ns C m)(hd:h1.get? D=some {cls:=.type "list",data:=.seq ([]:qag).toArray n}) :
  Inv (bB X ts sc cl C fp s H) [] (σ++ts.map λ_=>none) (upd H D (.lst [])) {s with heap:=h1,toks:=t}:=by
 have sz:=I.sz;have afB:∀b∈fp,b<s.heap.objs.size:=λb hb=>by obtain⟨o,e⟩:=Ui b hb;exact jE e
 have N_:∀y c,cl.lookup y=some c->c<s.heap.objs.size:=λy c e=>by obtain⟨v,q⟩:=I.cell y c (c1 y c e);exact q.lt
 have ok:(bB X ts sc cl C fp s H).Ok:=by
  refine⟨I.ok.mod,hS.kind,I.ok.glob,I.ok.blt,hC,λx y c e1 e2=>I.ok.inj x y c (c1 x c e1) (c1 y c e2),λx hx=>?_,λx c hx=>absurd hx (by simp[bB]),I.ok.hd,I.ok.frames,.inl rfl,λb hb=>?_,λb o e=>I.bs b o e,
   mX I.ok.IG sz,λb o e hb=>?_,Ex I hf,I.stack,λb hb=>I.Eh b hb⟩
  have hv:mZ (relabel sc X.env) x:=by
   obtain hx|hx:=hx
   exact .inr (.inl hx);exact .inr (.inr hx)
  rcases vJ hS hv with z|⟨z,_⟩
  have e:=ny (scope:=sc) (env:=X.env) x;rw[z] at e;have e':(relabel sc X.env).names.lookup x=some .local:=e;have NO:(relabel sc X.env).names.lookup x=some .cell\/(relabel sc X.env).names.lookup x=some .free:=hx;rw[e'] at NO;obtain q|q:=NO<;>cases q
  exact c2 _ (RC z) rfl;exact⟨λe=>absurd (yU (afB b hb) hC) (by have e':b=C:=e;rw[e'];exact N5 _),λx c e z=>(hf b hb).2.2.2.2.1 x c (c1 x c e) z⟩;rcases (hf b hb).2.2.2.1 with z|z
  exact I.ok.BH b o e z;exact absurd (yU (jE e) (mX I.ok.IG z)) (N5 _)
 have hnD:H D=none:=I.cx.fresh hD;refine⟨ok,rfl,I.bare,Un.laid k hD hnD,⟨m,hn,λi x v e1 e2 e3=>?_⟩,λx c e=>?_,?_,λx c e=>?_,λp hp=>absurd (show p∈([]:qaa) from hp) (by simp),I.cx.laid k hD ⟨jU _,[],n,.nil,hd⟩,?_⟩;have hi:i<σ.length:=by
  by_cases hi:i<σ.length;exact hi;rw[qe (by omega),ie] at e2;cases q:ts[i-σ.length]? with
  |none=>rw[q] at e2;cases e2
  |some a=>rw[q] at e2;cases e2
 have NP:σ[i]?=some (some v):=by rw[oi hi] at e2;exact e2
 have e1':X.N[i]?=some x:=by have ZK:(X.N++ts)[i]?=some x:=e1;rw[oi (by rw[<- I.len];exact hi)] at ZK;exact ZK
 rcases vJ hS e3 with z|⟨z,zr⟩
 exact absurd z (hS.own x (iw e1'));have hm:=RC z;have ho:=hS.fr _ hm rfl;obtain⟨m0,_,hl⟩:=I.loc;obtain⟨u,r,l⟩:=hl i x v e1' NP (.inr ho);obtain⟨c',m4⟩:=c2 _ hm rfl;obtain⟨l,_⟩|⟨_,c,hc,z2⟩:=l
 have l':X.env.scope.names.lookup x=some .local:=l;rw[l'] at ho;obtain q|q:=ho<;>cases q
 have ec:=c1 x c' m4;rw[hc] at ec;cases ec;exact⟨u,r,.inr ⟨zr,_,m4,z2.keeps k⟩⟩;obtain⟨v,z⟩:=I.cell x c (c1 x c e);exact⟨v,z.keeps k⟩;show upd H D (.lst []) C=none;rw[aE (Ne.symm hDC)];exact I.cx.fresh hC;show upd H D (.lst []) c=none;rw[aE (pJ (yU (N_ x c e) hD))];exact I.iW x c (c1 x c e);show (σ++ts.map λ_=>none).length=(X.N++ts).length;rw[pH,pH,c3,I.len]
theorem zm(I:Inv X pins σ H s)(hf:∀b∈fp,qh X pins H b){Ej:qaa}{σ':St}(J:Inv (bB X ts sc cl C fp s H) Ej σ' H' s'):Inv X pins σ H' s' :=
 I.Y0 J.os J.base J.cx J.bare λb hb=>by obtain⟨_,f1,_,f3,f4,f5⟩:=hf b hb;exact⟨f3,f1,f4,f5⟩
end
section
variable{R:Result->Shared->Prop}{s:Shared}
theorem ly{elt target:Expr}{ifs:qap}{scope:Scope}{pos:Pos}{it acc:Value}{env:Env}(I:Nat->Shared->Prop)(turn:∀n s,I n s->wpAny (model prog w) A (pyNext it) (λr s₁=>match r with
    |none=>R (.ok .next) s₁
    |some v=>wpAny (model prog w) A (letOwnedTupleGo target it v) (λ_ s₁'=>wpAny (model prog w) A (assign target env v) (λ_ s₂=>
       wpAny (model prog w) A (forIn ifs true λc r=>if r=true then do let ok <- isTrue c env (eval c env);pure (ForInStep.yield ok) else pure (ForInStep.yield r)) (λok s₃=>
        if ok=true then wpAny (model prog w) A (eval elt env) (λx s₄=>
         wpAny (model prog w) A (call (.builtin "list.append") [acc,x]) (λ_ s₅=>∃m,m<n/\I m s₅) (notedBy (model prog w) A env λe s'=>R (.error e) s') s₄) (notedBy (model prog w) A env λe s'=>R (.error e) s') s₃
        else ∃m,m<n/\I m s₃) (notedBy (model prog w) A env λe s'=>R (.error e) s') s₂) (notedBy (model prog w) A env λe s'=>R (.error e) s') s₁')
       (notedBy (model prog w) A env λe s'=>R (.error e) s') s₁) (notedBy (model prog w) A env λe s'=>R (.error e) s') s)(n:Nat)(h:I n s):codeAny (model prog w) A (.compLoop (.ListComp elt [⟨target,iter,ifs,0⟩] scope pos) 0 it acc env) R s:=by
 refine codeAny_loop rfl I (λn s hI=>?_) n h;show wpAny _ A ((compTurn (.ListComp elt [⟨target,iter,ifs,0⟩] scope pos) 0 it acc env).onRaise (λx=>do noteFrame x env;theTreesLotGoes x)) _ _ s;refine wpAny_noted ?_;rw[compTurn_list];refine wpAny_bind (wpAny_standAt (wpAny_bind (wpAny_mono (turn n s hI) (λr s₁ h₁=>?_) λ_ _ h'=>h')));cases r with
 |none=>exact wpAny_pure h₁
 |some v=>
   refine wpAny_bind (wpAny_mono h₁ (λ_ s₁' h₁'=>?_) λ_ _ h'=>h');refine wpAny_bind (wpAny_mono h₁' (λ_ s₂ h₂=>wpAny_bind (wpAny_mono h₂ (λok s₃ h₃=>?_) λ_ _ h'=>h')) λ_ _ h'=>h');cases ok with
   |false=>exact wpAny_pure ⟨rfl,h₃⟩
   |true=>exact wpAny_bind (wpAny_bind (wpAny_mono h₃ (λx s₄ h₄=>wpAny_bind (wpAny_mono h₄ (λ_ s₅ h₅=>wpAny_pure (wpAny_pure ⟨rfl,h₅⟩)) λ_ _ h'=>h')) λ_ _ h'=>h'))
end
def Jt(X:Cx)(ifs:qap)(t:TT):Prop :=
 ∀(pins:qaa)(s:Shared)(σ:St)(H:Hp)(Q:Bool->Hp->Prop),Inv X pins σ H s->t σ H Q ->
  wpAny (model X.prog X.w) X.A (forIn ifs true λc r=>if r=true then do let ok <- isTrue c X.env (eval c X.env);pure (ForInStep.yield ok) else pure (ForInStep.yield r)) (TP X pins σ Q) X.xe s
def afC:TT:=λ_ H Q=>Q true H
theorem OC:Jt X [] afC:=λ_ _ _ H _ I h=>wpAny_tests_nil ⟨H,I,h⟩
theorem OD{t:TT}(h:PT X c t):Jt X [c] t:=λpins s σ H Q I hw=>wpAny_tests_one (h pins s σ H Q I hw)
def Ju(J:It)(g:TG)(tt:TT)(te:TE)(n:Nat)(σ:St)(D:Addr)(Q:Hp->Prop)(H1:Hp):Prop :=
 ∃W:Nat->Nat->qak->Hp->Prop,(∃m,W 0 m [] (upd H1 D (.lst [])))/\∀i m acc H2,W i m acc H2->H2 D=some (.lst acc) /\
  ((J.stop i H2/\Q H2)\/(J.go i H2/\acc.length<sizeLine/\∀x H3,J.Y9 i H2 x H3->g x (σ++List.replicate n none) H3 λσ4 H4=>(σ4.length=σ.length+n/\∀(i:Nat) v,σ[i]?=some (some v)->σ4[i]?=some (some v)) /\
   tt σ4 H4 λb H5=>if b=true then te σ4 H5 λy H6=>H6 D=some (.lst acc)/\∃m',m'<m/\W (i+1) m' (acc++[y]) (upd H6 D (.lst (acc++[y]))) else ∃m',m'<m/\W (i+1) m' acc H5))
section
variable{s:Shared}{ts:qai}{cl:List (Str×Addr)}
theorem Gi{Y:Cx}{pl:qaa}{σ4:St}(I:Inv Y pl σ4 H' s')(hl:σ4.length=σ.length+n)(hs:∀(i:Nat) v,σ[i]?=some (some v)->σ4[i]?=some (some v)) :
  Inv Y pl (σ++List.replicate n none) H' s':=by
 refine I.weak (by rw[pH,BB,hl]) λi v e=>?_;by_cases hi:i<σ.length;rw[oi hi] at e;exact hs i v e;rw[qe (by omega),Fz] at e;split at e<;>cases e
theorem zo{elt tg:Expr}{ifs:qap}{pos:Pos}{it:Addr}{tn:Nat->Heap->Prop}{J:It}{g:TG}{tt:TT}{Q:Hp->Prop}{RR:Value->Addr->Result->Shared->Prop}(hc:X.calm=true)(I:Inv X pins σ H s)(T:Turn X.prog X.w X.K tg J fp it tn)(st:tn 0 s.heap)(hf:∀b∈fp,qh X pins H b)(hS:rn X.N ts X.env.scope sc)(c1:∀y c,cl.lookup y=some c->X.env.cells.lookup y=some c)(c2:∀p∈sc.names,p.2=.free->∃c,cl.lookup p.1=some c)(hg:∀C,PG (bB X ts sc cl C fp s H) tg g)(ht:∀C,Jt (bB X ts sc cl C fp s H) ifs tt)(he:∀C,PE (bB X ts sc cl C fp s H) elt te)(hw:Ju J g tt te ts.length σ s.heap.objs.size Q H)(fin:∀(C:Addr) (H':Hp) (s':Shared) (σ':St),s.heap.objs.size<=C->Inv (bB X ts sc cl C fp s H) [] σ' H' s'->Q H'->RR (.ref s.heap.objs.size) C (.ok .next) s') :
  wpAny (model X.prog X.w) X.A (newList []) (λacc s₃=>wpAny (model X.prog X.w) X.A (newFunctionEnv sc X.env.globals cl [] X.env.qual none .none (some X.env)) (λZL s₄=>
   codeAny (model X.prog X.w) X.A (.compStart (.ListComp elt [⟨tg,iter,ifs,0⟩] sc pos) 0 (.ref it) acc {ZL with scope:=relabel sc X.env}) (RR acc ZL.locals) s₄) E s₃) E s:=by
 obtain⟨W,⟨m0,w0⟩,turn⟩:=hw;have afD:=T.obj 0 _ st;have Ui:∀b∈fp,∃o,s.heap.get? b=some o:=λb hb=>let ⟨o,e,_⟩:=afD b hb;⟨o,e⟩;refine wpAny_newObj_type (wpAny_newFunctionEnv hS.Js (by intro y hy;simp at hy) (λh₁ Uj OE=>?_) hS.kind);dsimp only at Uj OE ⊢;generalize hH2:s.heap.push {cls:=.type "list",dict:=none,data:=.seq ([]:qag).toArray}=H2 at Uj OE ⊢;have hC:H2.objs.size=s.heap.objs.size+1:=by rw[<- hH2,YW]
 have hDC:s.heap.objs.size≠H2.objs.size:=by rw[hC];exact pJ (ID _)
 have ZM:s.heap.objs.size<=H2.objs.size:=by rw[hC];exact X5 _
 have below:∀b,b<s.heap.objs.size->b≠H2.objs.size/\b≠s.heap.objs.size:=λb hb=>⟨by rw[hC];exact pJ (Tj hb),pJ hb⟩;have old:∀b o,s.heap.get? b=some o->h₁.get? b=some o:=λb o e=>OE.extBut b o (below b (jE e)).1 (og _ (hH2▸og _ e));have afE:h₁.get? s.heap.objs.size=some {cls:=.type "list",data:=.seq ([]:qag).toArray}:=OE.extBut _ _ hDC (og _ (hH2▸vy _ rfl));have ZN:tn 0 h₁:=T.keep _ _ _ st λb hb o e=>old b o e;have fresh:H s.heap.objs.size=none:=I.cx.fresh (c_ _);have jd:∀{H':Hp},(∀b∈fp,H' b=none)->∀b∈fp,qh (bB X ts sc cl H2.objs.size fp s H) [] H' b:=λ{H'} hn b hb=>by obtain⟨o,e⟩:=Ui b hb;refine⟨hn b hb,λz=>?_,Ex I hf b hb,.inl hb,λx c e z=>(hf b hb).2.2.2.2.1 x c (c1 x c e) z,λp hp=>absurd (show p∈([]:qaa) from hp) (by simp)⟩;have z':b=H2.objs.size:=z;exact (below b (jE e)).1 z'
 have vK:∀b∈fp,(upd H s.heap.objs.size (.lst [])) b=none:=λb hb=>by obtain⟨o,e⟩:=Ui b hb;rw[aE (pJ (jE e))];exact (hf b hb).1
 have eN:(ts.map λ_=>(none:Option V))=List.replicate ts.length none:=List.map_const';have loop:∀s₃:Shared,s₃={s with heap:=h₁,toks:=s.toks+([]:List (Str×Value)).length} ->
   codeAny (model X.prog X.w) X.A (.compLoop (.ListComp elt [⟨tg,iter,ifs,0⟩] sc pos) 0 (.ref it) (.ref s.heap.objs.size) (compEnvC sc cl H2.objs.size X.env)) (RR (.ref s.heap.objs.size) H2.objs.size) s₃:=by
  rintro s₃ rfl;have J0:=OB (ts:=ts) (t:=s.toks+([]:List (Str×Value)).length) I hf Ui hS c1 c2 ZM (c_ _) hDC old Uj afE;rw[eN] at J0;refine ly (λn s'=>∃i acc H',Inv (bB X ts sc cl H2.objs.size fp s H) [] (σ++List.replicate ts.length none) H' s'/\tn i s'.heap/\(∀b∈fp,H' b=none)/\W i n acc H') ?_ m0 ⟨0,[],_,J0,ZN,vK,w0⟩;rintro n s3 ⟨i,acc,H3,J3,Zb,Zd,w3⟩;obtain⟨hD3,alt⟩:=turn i n acc H3 w3;obtain⟨stop,q⟩|⟨go,hz,step⟩:=alt
  . refine cc (T.done (bB X ts sc cl H2.objs.size fp s H) rfl rfl rfl hc i [] s3 _ H3 _ J3 (jd Zd) Zb stop) λr s4 ⟨hr,J4⟩=>?_;subst hr;exact fin _ H3 s4 _ ZM J4 q
  refine cc (T.item (bB X ts sc cl H2.objs.size fp s H) rfl rfl rfl hc i [] s3 _ H3 _ J3 (jd Zd) Zb go) λr s4 ⟨u,hr,h4⟩=>?_;subst hr;refine cc h4 λ_ s5 ⟨x,H5,J5,r5,y5,TR,fr5⟩=>?_;have J5':=J5.pinned (jd fr5) (T.obj _ _ TR);have again:∀{σ7:St}{H7:Hp}{s7:Shared},Inv (bB X ts sc cl H2.objs.size fp s H) ([]++qZ fp s5.heap) σ7 H7 s7->(σ7.length=σ.length+ts.length/\∀(i:Nat) v,σ[i]?=some (some v)->σ7[i]?=some (some v))->∀Uk m',W (i+1) m' Uk H7->m'<n ->
    ∃m,m<n/\∃i acc H',Inv (bB X ts sc cl H2.objs.size fp s H) [] (σ++List.replicate ts.length none) H' s7/\tn i s7.heap/\(∀b∈fp,H' b=none)/\W i m acc H':=λ{σ7 H7 s7} I7 hσ Uk m' w7 hm=>by
   refine⟨m',hm,i+1,Uk,H7,Gi I7.ni hσ.1 hσ.2,T.keep _ _ _ TR λb hb o e=>(I7.pin (b,o) (bW _ (bW _ (je hb e)))).1,λb hb=>?_,w7⟩;obtain⟨o,e,d⟩:=T.obj _ _ TR b hb;exact (I7.pin (b,o) (bW _ (bW _ (je hb e)))).2.1
  refine wpAny_mono (hg H2.objs.size _ s5 _ H5 x u _ J5' r5 (step x H5 y5)) (λ_ s6 ⟨σ6,H6,J6,hσ,q6⟩=>?_) λ_ _ z=>False.elim z;refine wpAny_mono (ht H2.objs.size _ s6 σ6 H6 _ J6 q6) (λb s7 ⟨H7,J7,q7⟩=>?_) λ_ _ z=>False.elim z;cases b with
  |false=>obtain⟨m',hm,w7⟩:=q7;exact again J7 hσ acc m' w7 hm
  |true=>show wpAny _ _ _ _ _ _;refine wpAny_mono (he H2.objs.size _ s7 σ6 H7 _ J7 q7) (λy s8 ⟨yv,H8,J8,ry,hD8,m',hm,w8⟩=>?_) λ_ _ z=>False.elim z;refine wpAny_mono (bQ (X:=bB X ts sc cl H2.objs.size fp s H) _ s8 σ6 H8 (.ref s.heap.objs.size) [yv] (.ref s.heap.objs.size) [y] (λv H9=>v=.aP/\H9=upd H8 s.heap.objs.size (.lst (acc++[yv]))) J8 rfl (.cons ry .nil) ⟨_,acc,yv,rfl,rfl,hD8,hz,rfl,rfl⟩) (λv9 s9 ⟨v,H9,J9,_,_,e9⟩=>?_) λ_ _ z=>False.elim z;subst e9;exact again J9 hσ (acc++[yv]) m' w8 hm
 exact codeAny_compStart_list (loop _ rfl) (T.self _ 0 _ _ _ ZN (loop _ rfl))
def Jv(n:Nat)(wi:TI)(g:TG)(tt:TT)(te:TE):TE:=λσ H Q=>wi σ H λJ H1=>∀D,H1 D=none->Ju J g tt te n σ D (Q (.ref D)) H1
theorem zp(I:Inv X pins σ H s)(hS:rn X.N ts X.env.scope sc):∀p∈sc.names,p.2=.free->∃c,X.env.cells.lookup p.1=some c:=λp hp hf=>by
 rcases hS.fr p hp hf with z|z
 exact I.ok.has p.1 (.inl z);exact I.ok.has p.1 (.inr z)
theorem OF{elt tg:Expr}{ifs:qap}{pos:Pos}{wi:TI}{g:TG}{tt:TT}(hc:X.calm=true)(hS:jZ X.N ts X.env.scope sc=true)(hi:PI X tg iter wi)(hg:∀cl C fp s H,PG (bB X ts sc cl C fp s H) tg g)(ht:∀cl C fp s H,Jt (bB X ts sc cl C fp s H) ifs tt)(he:∀cl C fp s H,PE (bB X ts sc cl C fp s H) elt te)(hs:∀x,foldedSetIterable iter X.env x=pure x:=by intro _;rfl):PE X (.ListComp elt [⟨tg,iter,ifs,0⟩] sc pos) (Jv ts.length wi g tt te):=by intro pins s σ H Q I h;have S:=vI hS;obtain⟨cl,Jw,c1,c2⟩:=jG (zp I S);rw[eval_ListComp];refine wpAny_comprehension_free (use:=none) rfl hs Jw S.kind S.names ?_;refine cc (hi pins s σ H _ I h) λv s1 h1=>cc h1 λitv s2 h2=>?_;obtain⟨it,fp,tn,J,H2,e,I2,T,ze,f2,q2⟩:=h2;subst e;refine zo (E:=X.xe) (RR:=λacc C=>compPost (model X.prog X.w) X.A X.xe none (EP X pins σ Q) acc C) hc I2 T ze f2 S c1 c2 (λC=>hg cl C fp s2 H2) (λC=>ht cl C fp s2 H2) (λC=>he cl C fp s2 H2) (q2 _ (I2.cx.fresh (c_ _))) ?_;intro C H' s' σ' hC J' q';obtain⟨m,hn,_⟩:=J'.loc;refine⟨m,hn,λh' sb=>?_⟩;have I':=zm I2 f2 J';have fk:=I2.qY (H':=H') hC J'.free;obtain⟨f0,f1,_,f3,f4,f5⟩:=fk;exact⟨.ref _,H',I'.turned (t':=s'.toks) (λb o hb e=>(sb.2 b hb).trans e) f0 f1 f3 f4 f5,rfl,q'⟩
theorem OG{py:Pos}{rp:Pos}{elt tg:Expr}{ifs:qap}{pos:Pos}{wi:TI}{g:TG}{tt:TT}(hN:X.N.Nodup)(hy:X.N[i]?=some y)(hx:Loc X.env.scope y)(hc:X.calm=true)(hS:jZ X.N ts X.env.scope sc=true)(hi:PI X tg iter wi)(hg:∀cl C fp s H,PG (bB X ts sc cl C fp s H) tg g)(ht:∀cl C fp s H,Jt (bB X ts sc cl C fp s H) ifs tt)(he:∀cl C fp s H,PE (bB X ts sc cl C fp s H) elt te)(Jx:swapsWith (.ListComp elt [⟨tg,iter,ifs,0⟩] sc pos) (some (.Name y py)) rp.line X.env=pure true:=by rfl)(hs:∀x,foldedSetIterable iter X.env x=pure x:=by intro _;rfl)(hf:X.fn y=true\/X.env.scope.names.lookup y=some .local:=by first|exact .inl rfl|exact .inr rfl|assumption) :
  PS X (.Assign [.Name y py] (.ListComp elt [⟨tg,iter,ifs,0⟩] sc pos) rp) (Oe (Jv ts.length wi g tt te) (lC i)):=by
 intro pins s σ H D I h;have S:=vI hS;obtain⟨cl,Jw,c1,c2⟩:=jG (zp I S);rw[exec_Assign_Name_used _ _ _ _ Jx];refine wpAny_bind (wpAny_standAt (wpAny_bind ?_));show wpAny _ X.A (do let _ <- comprehension (.ListComp elt [⟨tg,iter,ifs,0⟩] sc pos) sc X.env _ (newList []) false (eval iter X.env) (some (assign (.Name y py) X.env))) _ _ s;refine wpAny_bind (wpAny_mono (wpAny_comprehension_free (use:=some (assign (.Name y py) X.env)) (Q:=λ_ s'=>SP X pins D .next s') (E:=X.xe) rfl hs Jw S.kind S.names ?_) (λ_ s' hq=>wpAny_pure (wpAny_pure hq)) λ_ _ e=>e);refine cc (hi pins s σ H _ I h) λv s1 h1=>cc h1 λitv s2 h2=>?_;obtain⟨it,fp,tn,J,H2,e,I2,T,ze,f2,q2⟩:=h2;subst e;refine zo (E:=X.xe) (RR:=λacc C=>compPost (model X.prog X.w) X.A X.xe (some (assign (.Name y py) X.env)) (λ_ s'=>SP X pins D .next s') acc C) hc I2 T ze f2 S c1 c2 (λC=>hg cl C fp s2 H2) (λC=>ht cl C fp s2 H2) (λC=>he cl C fp s2 H2) (q2 _ (I2.cx.fresh (c_ _))) ?_;intro C H' s' σ' hC J' q';obtain⟨m,hn,_⟩:=J'.loc;have I':=zm I2 f2 J';have fk:=I2.qY (H':=H') hC J'.free;obtain⟨f0,f1,_,f3,f4,f5⟩:=fk;show wpAny _ X.A (assign (.Name y py) X.env (.ref s2.heap.objs.size)) _ _ s';refine wpAny_assign_Name (vB (v:=.ref s2.heap.objs.size) I' hN hy hx rfl (λs3 I3 ⟨a,sb,ha⟩=>?_) hf);have hCa:C≠a:=by
  obtain z|z:=ha
  rw[z];exact f1;exact λe=>f4 y a z e.symm
 refine⟨m,hn.sameBut sb hCa,λh' sb'=>?_⟩;exact⟨_,H',I3.turned (t':=s3.toks) (λb o hb e=>(sb'.2 b hb).trans e) f0 f1 f3 f4 f5,q'⟩
end
def Its(x:Str):It:=⟨λi _=>i<x.cps.size,λi H v H'=>H'=H/\∃c,x.cps[i]?=some c/\v=.str ⟨#[c]⟩,λi _=>x.cps.size<=i⟩
theorem gb(x:Str):(strIterType x="str_ascii_iterator")\/(strIterType x="str_iterator"):=by unfold strIterType;cases x.cps.all (·<128);exact .inr rfl;exact .inl rfl
theorem Jy{tg:Expr}(x:Str)(t:Tok)(it:Addr):Turn P w K tg (Its x) [it] it (λi h=>h.IsStrIter it (strIterType x) x t i) where
 mem:=by simp
 obj:=λi h st b hb=>by
  have e:b=it:=by simpa using hb
  subst e;obtain⟨o,e,c,d⟩:=st;exact⟨o,e,λv z=>by rw[d] at z;cases z⟩
 keep:=λi h h' st k=>by obtain⟨o,e,c,d⟩:=st;exact⟨o,k it (by simp) o e,c,d⟩
 item:=by
  intro X hP hw hK hc i pins s σ H E I hf st hg;subst hP hw hK;obtain⟨f0,f1,f2,f3,f4,f5⟩:=hf it (by simp);have hi:i<x.cps.size:=hg;have hx:x.cps[i]?=some x.cps[i]:=by simp[hi]
  have fin:∀h',h'.IsStrIter it (strIterType x) x t (i+1)->Heap.SameBut it s.heap h'->∃u,(some (Value.str ⟨#[x.cps[i]]⟩ s.toks):Option Value)=some u /\
    wpAny (model X.prog X.w) X.A (letOwnedTupleGo tg (.ref it) u) (λ_ s2=>∃y H',Inv X pins σ H' s2/\RelV y u/\(Its x).Y9 i H y H'/\Heap.IsStrIter s2.heap it (strIterType x) x t (i+1)/\∀b∈[it],H' b=none) E {s with heap:=h',toks:=s.toks+1}:=λh' BK sb=>by
   have I1:Inv X pins σ H {s with heap:=h',toks:=s.toks+1}:=I.turned (t':=s.toks+1) (λb o hb e=>(sb.2 b hb).trans e) f0 f1 f3 f4 f5;obtain⟨o,e,c,d⟩:=id BK;refine⟨_,rfl,El (s:={s with heap:=h',toks:=s.toks+1}) e c d ?_ ⟨.str ⟨#[x.cps[i]]⟩,H,I1,⟨_,rfl⟩,⟨rfl,_,hx,rfl⟩,BK,λb hb=>(hf b hb).1⟩⟩;rcases gb x with z|z<;>rw[z]<;>decide
  rcases gb x with z|z
  rw[z] at st fin;refine wpAny_pyNext_ascii_item st hx λh' BK sb=>?_;have:=fin h' BK sb;rw[<- z] at this;simpa[z] using this;rw[z] at st fin;refine wpAny_pyNext_wide_item st hx λh' BK sb=>?_;have:=fin h' BK sb;simpa[z] using this
 done:=by
  intro X hP hw hK hc i pins s σ H E I hf st hg;subst hP hw hK;obtain⟨f0,f1,f2,f3,f4,f5⟩:=hf it (by simp);have hi:x.cps.size<=i:=hg;have hx:x.cps[i]?=none:=by simp[hi]
  rcases gb x with z|z
  rw[z] at st;exact wpAny_pyNext_ascii_end (I.ok.hd hc) st hx λh' eb=>⟨rfl,I.turned (t':=s.toks) (λb o hb e=>eb b o hb e) f0 f1 f3 f4 f5⟩;rw[z] at st;exact wpAny_pyNext_wide_end (I.ok.hd hc) st hx λh' eb=>⟨rfl,I.turned (t':=s.toks) (λb o hb e=>eb b o hb e) f0 f1 f3 f4 f5⟩
 self:=λA i s Q E st h=>by
  rcases gb x with z|z
  rw[z] at st;exact wpAny_pyIter_striter_ascii st h;rw[z] at st;exact wpAny_pyIter_striter_wide st h
section
variable{tg:Expr}
theorem rq(hc:X.calm=true):fF X (.builtin "all") (λxs H Q=>∃(p:Addr)(bs:List Bool),xs=[.ref p]/\iV X.K H p (bs.map V.bl)/\Q (.bl (bs.all id)) H):=by
 intro pins s σ H xs us Q I r h;obtain⟨p,bs,rfl,hq,q⟩:=h;obtain⟨u,rfl,rx⟩:=vals1 r;cases rx;obtain⟨a4,rv,pl,hz⟩:=I.list hq;refine call_all_walk (wpAny_pyIter_list pl.isList ?_);have k7:p<s.heap.objs.size:=by obtain⟨o,n,e,_⟩:=pl;exact jE e
 have ik:p≠s.heap.objs.size:=pJ k7;have hh:X.A.in1.handled=none:=I.ok.hd hc;refine⟨s.heap.objs.size,_,_,_,_,_,λi=>bs.getD i true,rfl,Walks.list hh s.heap.objs.size p ik a4.toArray,⟨⟨_,vy _ rfl,rfl,rfl⟩,pl.isList.push _⟩,?_,λh' tk k=>?_⟩;intro i v s' Q' E' hP hQ;have ZO:a4[i]?=some v:=by simpa using hP
 have hb:i<bs.length:=by have:=rv.length;have h2:=(eW.mp ZO).1;rw[c3] at this;omega
 obtain⟨u,e1,r1⟩:=rv.get (i:=i) (x:=.bl bs[i]) (by simp[hb]);rw[ZO] at e1;cases e1;obtain rfl:v=Value.bool bs[i]:=r1;have e3:bs.getD i true=bs[i]:=by simp[List.getD,hb]
 dsimp only at hQ;rw[e3] at hQ;exact wpAny_truthy_bool hQ;have hl:a4.toArray.size=bs.length:=by have:=rv.length;rw[c3] at this;rw[iU];omega
 have e:(List.range a4.toArray.size).all (λi=>bs.getD i true)=bs.all id:=by rw[hl,YT,Tn,Tn];constructor;intro h x hx;obtain⟨i,hi,e⟩:=List.mem_iff_getElem.mp hx;have:=h i (Ef.mpr hi);simp only[List.getD,lT hi,acw] at this;rw[<- e];exact this;intro h i hi;have Jz:=Ef.mp hi;simp only[List.getD,lT Jz,acw];exact h _ (XY Jz)
 rw[e];refine⟨.bl (bs.all id),H,?_,rfl,q⟩;have I0:Inv X pins σ H {s with heap:=s.heap.push {cls:=.type "list_iterator",data:=.fields #[.ref p,.int 0 0]} }:=I.kept (t':=s.toks) λb o e=>og _ e;have fk:=I.qY (H':=H) (c_ s.heap.objs.size) I.fresh;obtain⟨f0,f1,_,f3,f4,f5⟩:=fk;exact I0.turned (t':=tk) (λb o hb e=>k b o (by simpa using hb) e) f0 f1 f3 f4 f5
theorem uh:RW X "str.startswith" (λx xs H Q=>∃z y,x=.str z/\xs=[.str y]/\Q (.bl (Txt.startswith z y)) H):=by intro pins s σ H x xs v us Q I rx rs h;obtain⟨z,y,rfl,rfl,q⟩:=h;obtain⟨t,rfl⟩:=rx;obtain⟨u,rfl,t',rfl⟩:=vals1 rs;exact SC.startswith ⟨.bl _,H,I,rfl,q⟩
theorem rA:∀{ys:qai}{us:qag},Vals (ys.map V.str) us->StrsAre us ys
 |[],us,r=>by rw[N6] at r;cases r;exact .nil
 |y::ys,us,r=>by
  rw[ix] at r;cases r with
  |cons r1 r2=>obtain⟨t,e⟩:=r1;subst e;exact .cons y t (rA r2)
theorem OH:RW X "str.join" (λx xs H Q=>∃(z:Str)(p:Addr)(ys:qai),x=.str z/\xs=[.ref p]/\iV X.K H p (ys.map V.str)/\(ys.map (·.length)).sum+ys.length * z.length<=16777216/\Q (.str (Txt.join z ys)) H):=by intro pins s σ H x xs v us Q I rx rs h;obtain⟨z,p,ys,rfl,rfl,hq,hz,q⟩:=h;obtain⟨t,rfl⟩:=rx;obtain⟨u,rfl,r1⟩:=vals1 rs;cases r1;obtain⟨a4,rv,pl,_⟩:=I.list hq;exact join_list pl.isList (by simpa using rA rv) hz λt' k=>⟨.str _,H,I.tok _,⟨_,rfl⟩,q⟩
def ZP:V->Option Int->Option Int->Hp->VK->Prop:=λx lo hi H Q=>∃z,x=.str z/\z.length<=sizeLine/\Q (.str (Txt.slice z lo hi)) H
theorem Ul:Jl X ZP:=by
 intro pins s σ H x v vl vu lo hi sl Q I rx hs pl pu h;obtain⟨z,rfl,hz,q⟩:=h;obtain⟨t,rfl⟩:=rx;obtain⟨o,e,c,d⟩:=hs;refine⟨"str",_,slot_str_getitem.lookup,typeIs_str _ _ _,?_⟩;cases pl with
 |none=>
  cases pu with
  |none=>exact wpAny_getItem_str_slice (l:=none) (u:=none) (st:=none) ⟨o,e,c,d⟩ rfl (post_val_or_str ⟨mX (Txt.slice_le z _ _) hz,λt' k=>⟨.str _,H,I.tok _,⟨_,rfl⟩,q⟩⟩)
  |int j tj=>exact wpAny_getItem_str_slice (l:=none) (u:=some (j,tj)) (st:=none) ⟨o,e,c,d⟩ rfl (post_val_or_str ⟨mX (Txt.slice_le z _ _) hz,λt' k=>⟨.str _,H,I.tok _,⟨_,rfl⟩,q⟩⟩)
 |int i ti=>
  cases pu with
  |none=>exact wpAny_getItem_str_slice (l:=some (i,ti)) (u:=none) (st:=none) ⟨o,e,c,d⟩ rfl (post_val_or_str ⟨mX (Txt.slice_le z _ _) hz,λt' k=>⟨.str _,H,I.tok _,⟨_,rfl⟩,q⟩⟩)
  |int j tj=>exact wpAny_getItem_str_slice (l:=some (i,ti)) (u:=some (j,tj)) (st:=none) ⟨o,e,c,d⟩ rfl (post_val_or_str ⟨mX (Txt.slice_le z _ _) hz,λt' k=>⟨.str _,H,I.tok _,⟨_,rfl⟩,q⟩⟩)
end
theorem aJ{D:Addr}{o:HO}(h:H D=none):aY H (upd H D o):=λb u e=>by rw[aE (bo e h)];exact e
section
variable{s:Shared}
theorem Inv.grown{ch:qah}{t:Addr}{o:HO}(I:Inv X pins σ H s)(k:∀b u,b∉ch->s.heap.get? b=some u->h'.get? b=some u)(hf:∀b∈ch,qh X pins H b)(ht:s.heap.objs.size<=t)(new:cH X.prog X.w (upd H t o) h' t o):Inv X pins σ (upd H t o) {s with heap:=h',toks:=t'}:=by
 have hn:H t=none:=I.cx.fresh ht;have RL:∀b u,H b=some u->b∉ch:=λb u e z=>by rw[(hf b z).1] at e;cases e
 refine I.step (g':=s.gens) (d':=s.drawn) (ch:=ch) (λb hb=>?_) (λb u _ _ hc e _=>k b u hc e) (λb u _ _ hc e _=>⟨u.slots,k b u hc e⟩) (λb u _ e n=>?_) (λb u hc e=>⟨u,k b u hc e⟩)
  (λb xs e=>?_) (λb u v e=>?_) (λb ps e=>⟨#[],?_⟩) (λm hm=>?_) (λb u e=>?_) I.bare
 obtain⟨_,f1,_,f3,f4,f5⟩:=hf b hb;exact⟨f3,f1,f4,f5⟩;rw[aE (pJ (yU (jE e) ht))];exact n;rw[aE (bo e hn)];exact e;rw[aE (bo e hn)];exact e;rw[aE (bo e hn),e];simp;obtain⟨ob,es,ep,ho,r⟩:=hm;exact⟨ob,es,ep,k _ ob (λz=>(hf _ z).2.1 rfl) ho,r⟩;by_cases hb:b=t;subst hb;rw[aH] at e;cases e;exact new;rw[aE hb] at e;refine (I.cx b u e).FK (λc v hc q=>k c v ?_ q) (λc q=>by rw[aE (bo q hn)];exact q) λc xs q=>by rw[aE (bo q hn)];exact q
 obtain z|z:=hc
 rw[z];exact RL b u e;exact RL c _ z
end
def Ite(K:qaf)(a:Addr):It :=
 ⟨λi H=>∃xs x,iV K H a xs/\xs[i]?=some x,λi H v H'=>∃t x,H t=none/\v=.ref t/\(∀xs,iV K H a xs->xs[i]?=some x)/\H'=upd H t (.tup [.int (i:Int),x]),λi H=>∃xs,iV K H a xs/\xs.length<=i⟩
theorem Gj{elts:qap}{x1}{tp:Pos}(a e it:Addr)(ik:e≠it) :
  Turn P w K (.Tuple elts x1 tp) (Ite K a) [e,it] e (λi h=>(∃old,IsEnum h e it (i:Int) old)/\h.IsListIter it a i) where
 mem:=by simp
 obj:=λi h st b hb=>by
  obtain⟨⟨old,h1⟩,o,h2,c,d⟩:=st;rcases c4.mp hb with z|z
  subst z;exact⟨_,h1,λv z=>by cases z⟩;have z':b=it:=by simpa using z
  subst z';exact⟨o,h2,λv z=>by rw[d] at z;cases z⟩
 keep:=λi h h' st k=>by obtain⟨⟨old,h1⟩,ze⟩:=st;exact⟨⟨old,k e (by simp) _ h1⟩,ze.at λo q=>k it (by simp) o q⟩
 item:=by
  intro X hP hw hK hc i pins s σ H E I hf st hg;subst hP hw hK;obtain⟨xs,x,hq,hx⟩:=hg;obtain⟨a4,rv,p,hz⟩:=I.list hq;obtain⟨u,hu,ru⟩:=rv.get hx;obtain⟨⟨old,h1⟩,ze⟩:=st;refine wpAny_pyNext_enum_item h1 ze p.isList (x:=u) (by simpa using hu) ik λh₁ NJ Um ht₁ hz₁ hk₁=>?_;refine⟨_,rfl,wpAny_letOwnedTupleGo_enum NJ λh₂ he₂ hs₂=>?_⟩;have B8:Heap.SameBut e h₁ h₂:=hs₂;have k7:e<s.heap.objs.size:=jE h1;have hte:s.heap.objs.size≠e:=RH k7;have kk:∀b ob,b∉[e,it]->s.heap.get? b=some ob->h₂.get? b=some ob:=λb ob hb q=>by have FQ:b≠e:=λz=>hb (by simp[z]);have hbi:b≠it:=λz=>hb (by simp[z]);exact (B8.2 b FQ).trans (hk₁ b ob FQ hbi q)
  have new:cH X.prog X.w (upd H s.heap.objs.size (.tup [.int (i:Int),x])) h₂ s.heap.objs.size (.tup [.int (i:Int),x]) :=
   ⟨by show 2<=sizeLine;rw[sizeLine_eq];decide,[.int i s.toks,u],.cons ⟨_,rfl⟩ (.cons ru .nil),⟨_,(B8.2 _ hte).trans ht₁,rfl,_,rfl⟩⟩
  refine⟨.ref s.heap.objs.size,upd H s.heap.objs.size (.tup [.int (i:Int),x]),I.grown (t':=s.toks+1) kk hf (c_ _) new,rfl,⟨_,x,I.fresh,rfl,λys hy=>by rw[I.qW hy hq];exact hx,rfl⟩,⟨⟨u,?_⟩,?_⟩,λb hb=>?_⟩;have:((i:Int)+1)=((i+1:Nat):Int):=by omega
  rw[<- this];exact he₂;obtain⟨o,q,r⟩:=Um;exact⟨o,(B8.2 it (Ne.symm ik)).trans q,r⟩;have Uo:b<s.heap.objs.size:=by
   rcases c4.mp hb with z|z
   subst z;exact k7;have z':b=it:=by simpa using z
   subst z';obtain⟨o,q,_⟩:=ze;exact jE q
  rw[aE (pJ Uo)];exact (hf b hb).1
 done:=by intro X hP hw hK hc i pins s σ H E I hf st hg;subst hP hw hK;obtain⟨xs,hq,hx⟩:=hg;obtain⟨a4,rv,p,hz⟩:=I.list hq;have hl:=rv.length;obtain⟨⟨old,h1⟩,ze⟩:=st;obtain⟨f0,f1,f2,f3,f4,f5⟩:=hf it (by simp);exact wpAny_pyNext_enum_end (I.ok.hd hc) h1 ze p.isList (by simp;omega) λh' eb=>⟨rfl,I.turned (t':=s.toks) (λb o hb q=>eb b o hb q) f0 f1 f3 f4 f5⟩
 self:=λ_ _ _ _ _ st h=>by obtain⟨⟨old,h1⟩,_⟩:=st;exact wpAny_pyIter_enum h1 h
def ZQ(K:qaf)(ta:TA):TI:=λσ H R=>ta σ H λvs H1=>∃a,vs=[.ref a]/\(∃xs,iV K H1 a xs)/\R (Ite K a) H1
section
theorem boot_enumerate:bootBuiltins "enumerate"=some (.type "enumerate"):=by decide +kernel
theorem OI{elts:qap}{x1}{tp:Pos}{a:Expr}{ta:TA}{pos:Pos}(hg:Gl X "enumerate")(hm:X.mg "enumerate"=none)(ha:PA X [a] ta)(hs:starEach [a] X.env=[(false,eval a X.env)]:=by rfl) :
  PI X (.Tuple elts x1 tp) (.Call (.Name "enumerate" p) [a] [] pos) (ZQ X.K ta):=by
 intro pins s σ H R I h;refine Call_ (lV I hg hm boot_enumerate (YF (cc (ha pos pins s σ H _ I h) λus s1 ⟨vs,H1,I1,r1,q1⟩=>?_) hs rfl));obtain⟨b,e,⟨xs,hq⟩,q⟩:=q1;subst e;obtain⟨u,rfl,ru⟩:=vals1 r1;cases ru;obtain⟨a4,rv,pl,hz⟩:=I1.list hq;refine call_enumerate_list pl.isList λh' he hit hsz hk=>?_;have I2:Inv X pins σ H1 {s1 with heap:=h'}:=I1.kept (t':=s1.toks) hk;refine wpAny_pyIter_enum he ?_;refine⟨s1.heap.objs.size+1,[s1.heap.objs.size+1,s1.heap.objs.size],_,_,H1,rfl,I2,Gj b _ _ (RH (ID _)),⟨⟨_,he⟩,hit⟩,λc hc=>?_,q⟩;rcases c4.mp hc with z|z
 subst z;exact I1.qY (X5 _) (I1.cx.fresh (X5 _));have z':c=s1.heap.objs.size:=by simpa using z
 subst z';exact I1.qY (c_ _) I1.fresh
end
end L2
namespace pN
open PySem Builtin Builtin.Str
def bT:Str:="abcdefghijklmnopqrstuvwxyz"
def Gk(c:Nat):Bool:=!(occurrences bT ⟨#[c]⟩ 0 bT.length 1).isEmpty
theorem OJ:Gk 46=false:=by decide +kernel
theorem B9:((".":String):Str)=⟨#[46]⟩:=by decide +kernel
def d_(x:Str):Bool:=decide (1<=(x.length:Int)) && (decide ((x.length:Int)<=8) && x.cps.toList.all Gk)
def rB(x:Str):Bool:=Txt.startswith x "." && d_ (Txt.slice x (some 1) none)
theorem uj(h:x.cps.toList.all Gk=true):Txt.startswith x "."=false:=by
 obtain⟨⟨l⟩⟩:=x;rw[B9];unfold Txt.startswith subAt;cases l with
 |nil=>rfl
 |cons c r=>
  have hc:Gk c=true:=by have:=Tn.mp h c (by simp);exact this
  have ne:c≠46:=λe=>by rw[e,OJ] at hc;cases hc
  have e1:(Array.extract ({toList:=c::r}:Array Nat) 0 (0+(Str.mk #[46]).length)==(Str.mk #[46]).cps)=false:=by rw[beq_eq_false_iff_ne];intro q;have q2:=congrArg (λa=>a[0]?) q;simp[Str.length] at q2;exact ne q2
  show (decide _ && (Array.extract ({toList:=c::r}:Array Nat) 0 (0+(Str.mk #[46]).length)==(Str.mk #[46]).cps))=false;rw[e1,Bool.and_false]
theorem wX(h:d_ x=true):x.cps.toList.all Gk=true:=by unfold d_ at h;rw[m9,m9] at h;exact h.2.2
theorem rC(x:Str):Txt.startswith ((".":String)++x) "."=true:=by obtain⟨⟨l⟩⟩:=x;rw[B9];unfold Txt.startswith subAt;rw[m9];refine⟨?_,?_⟩;apply decide_eq_true;show 0+1<=(#[46]++({toList:=l}:Array Nat)).size;simp;show (Array.extract (#[46]++({toList:=l}:Array Nat)) 0 (0+1)==#[46])=true;rw[beq_iff_eq];apply Array.ext';simp
theorem vL(x:Str):Txt.slice ((".":String)++x) (some 1) none=x:=by
 obtain⟨⟨l⟩⟩:=x;rw[B9];have hl:(Str.length (Str.mk #[46]++Str.mk {toList:=l}))=l.length+1:=by show (#[46]++({toList:=l}:Array Nat)).size=_;simp
 have hi:strSliceIndices (some 1) none 1 (l.length+1)=(List.range l.length).map (λk=>k+1):=by
  unfold strSliceIndices sliceRange;simp only[show (1:Int) > 0 by decide,if_true];have e0:max 0 (min (if (1:Int)<0 then 1+((l.length+1:Nat):Int) else 1) ((l.length+1:Nat):Int))=1:=by rw[if_neg (by decide)];omega
  rw[e0];by_cases hn:l.length=0;rw[hn];rfl;have e1:((1:Int)<((l.length+1:Nat):Int)):=by omega
  rw[if_pos e1];have e2:((((l.length+1:Nat):Int)-1+1-1) / 1).toNat=l.length:=by rw[Int.ediv_one];omega
  rw[e2];apply YQ;intro k hk;omega
 unfold Txt.slice;rw[hl,hi];have ik:¬ (((1:Int)==1 && (List.map (λk=>k+1) (List.range l.length)).length==l.length+1)=true):=by rw[m9,c3,NC];intro q;have:=beq_iff_eq.mp q.2;omega
 rw[if_neg ik]
 congr 1
 apply Array.ext';rw[List.toList_toArray];show List.filterMap (λi=>(#[46]++({toList:=l}:Array Nat))[i]?) (List.map (λk=>k+1) (List.range l.length))=l;rw[List.filterMap_map];have e:∀k,((λi=>(#[46]++({toList:=l}:Array Nat))[i]?) ∘ λk=>k+1) k=l[k]?:=λk=>by show (#[46]++({toList:=l}:Array Nat))[k+1]?=l[k]?;rw[<- Array.getElem?_toList];simp
 rw[show ((λi=>(#[46]++({toList:=l}:Array Nat))[i]?) ∘ λk=>k+1)=λk=>l[k]? from funext e];clear e ik hi hl;induction l with
 |nil=>rfl
 |cons a r ih=>
  rw[y4,List.range_succ_eq_map,oh];simp only[abW,List.filterMap_map]
  congr 1
end pN
namespace VT
open PySem PySem.Spec PyProof.Rows L2
abbrev St:=L2.St
inductive T where
 |aP|bl (b:Bool)|int (i:Int)|str (x:Str)|tup (l:List T)|lst (l:List T)|dk (ks:List Key) (vs:List T)|dt (ks:List (List Key)) (vs:List T)|df (o:Obj) (ks:List (List Key)) (vs:List T)|dz (o:Obj) (ks:List Key) (vs:List T)|dc (nh:List Key×Key->Int) (ks:List (List Key×Key)) (vs:List T)|kt (k:List Key)|ins (C:Addr) (ns:qai) (vs:List T)|pin (a:Addr) (t:T)|ob (a:Addr)|ty (n:String)
def uk(K:qaf)(H:Hp)(O:qah)(a:Addr)(vs:qak):Prop :=
 (Rd H a (.lst vs)/\a∉O)\/∃(o:Obj)(a4:Array Value)(n:Nat),K.lookup a=some o/\o.cls=.type "list"/\o.dict=none/\o.data=.seq a4 n/\a4.size<=sizeLine/\Vals vs a4.toList
theorem uk.sq{O:qah}(h:uk K H O a vs):iV K H a vs:=by
 obtain h|h:=h
 exact .inl h.1;exact .inr h
def rD(H:Hp)(O:qah)(a:Addr)(u:HO):Prop:=H a=some u/\a∉O
def oy(nh:List Key×Key->Int)(a:Addr)(xs:List ((List Key×Key)×Addr×Value)):Heap->Prop:=λh=>∃o es ep,h.get? a=some o/\o.ExactDict/\o.data=.dict es ep/\es.toList=xs.map (λx=>⟨nh x.1,.ref x.2.1,x.2.2⟩)/\(xs.map (·.1)).Nodup
def qj(K:qaf)(H:Hp)(c:List Key×Key)(b:Addr):Prop:=∃d,fM K H b [.ref d,kV c.2]/\fM K H d (c.1.map kV)
mutual
def At(K:qaf)(H:Hp)(O:qah):T->V->Prop
 |.aP,v=>v=.aP
 |.bl b,v=>v=.bl b
 |.int i,v=>v=.int i
 |.str x,v=>v=.str x
 |.ob a,v=>v=.ref a
 |.ty n,v=>v=.ty n
 |.tup ts,v=>∃a vs,v=.ref a/\fM K H a vs/\aB K H O ts vs
 |.lst ts,v=>∃a vs,v=.ref a/\uk K H O a vs/\aB K H O ts vs
 |.dk ks ts,v=>∃a vs,v=.ref a/\ks.length=vs.length/\rD H O a (.dK (ks.zip vs))/\aB K H O ts vs
 |.dt ks ts,v=>∃a vs,v=.ref a/\ks.length=vs.length/\rD H O a (.dT (ks.zip vs))/\aB K H O ts vs
 |.df o ks ts,v=>∃a vs,v=.ref a/\ks.length=vs.length/\rD H O a (.y8 o (.dT (ks.zip vs)))/\aB K H O ts vs
 |.dz o ks ts,v=>∃a vs,v=.ref a/\ks.length=vs.length/\rD H O a (.y8 o (.dK (ks.zip vs)))/\aB K H O ts vs
 |.dc nh ks ts,v=>∃a xs vs,v=.ref a/\rD H O a (.ext (oy nh a xs))/\ks=xs.map (·.1)/\(a==sysModules)=false/\(∀x∈xs,qj K H x.1 x.2.1)/\Vals vs (xs.map (·.2.2))/\aB K H O ts vs
 |.kt k,v=>∃a,v=.ref a/\rD H O a (.tup (k.map kV))
 |.pin a t,v=>v=.ref a/\At K H O t v
 |.ins C ns ts,v=>∃a dx vs,v=.ref a/\ns.length=vs.length/\rD H O a (.ins C dx (ns.zip vs))/\aB K H O ts vs
def aB(K:qaf)(H:Hp)(O:qah):List T->qak->Prop
 |[],vs=>vs=[]
 |t::ts,vs=>∃v r,vs=v::r/\At K H O t v/\aB K H O ts r
end
section
variable{O O':qah}
mutual
theorem At.map(hl:∀a vs,uk K H O a vs->uk K H' O' a vs)(ht:∀a vs,fM K H a vs->fM K H' a vs)(hd:∀a u,rD H O a u->rD H' O' a u):∀{t:T}{v:V},At K H O t v->At K H' O' t v
 |.aP,_,h=>by simpa only[At] using h
 |.bl _,_,h=>by simpa only[At] using h
 |.int _,_,h=>by simpa only[At] using h
 |.str _,_,h=>by simpa only[At] using h
 |.ob _,_,h=>by simpa only[At] using h
 |.ty _,_,h=>by simpa only[At] using h
 |.tup ts,_,h=>by simp only[At] at h ⊢;obtain⟨a,vs,e,h1,h2⟩:=h;exact⟨a,vs,e,ht a vs h1,aB.map hl ht hd h2⟩
 |.lst ts,_,h=>by simp only[At] at h ⊢;obtain⟨a,vs,e,h1,h2⟩:=h;exact⟨a,vs,e,hl a vs h1,aB.map hl ht hd h2⟩
 |.dk ks ts,_,h=>by simp only[At] at h ⊢;obtain⟨a,vs,e,h0,h1,h2⟩:=h;exact⟨a,vs,e,h0,hd _ _ h1,aB.map hl ht hd h2⟩
 |.dt ks ts,_,h=>by simp only[At] at h ⊢;obtain⟨a,vs,e,h0,h1,h2⟩:=h;exact⟨a,vs,e,h0,hd _ _ h1,aB.map hl ht hd h2⟩
 |.df o ks ts,_,h=>by simp only[At] at h ⊢;obtain⟨a,vs,e,h0,h1,h2⟩:=h;exact⟨a,vs,e,h0,hd _ _ h1,aB.map hl ht hd h2⟩
 |.dz o ks ts,_,h=>by simp only[At] at h ⊢;obtain⟨a,vs,e,h0,h1,h2⟩:=h;exact⟨a,vs,e,h0,hd _ _ h1,aB.map hl ht hd h2⟩
 |.dc nh ks ts,_,h=>by simp only[At] at h ⊢;obtain⟨a,xs,vs,e,h0,h1,hm,h2,h3,h4⟩:=h;exact⟨a,xs,vs,e,hd _ _ h0,h1,hm,λx hx=>let ⟨d,q1,q2⟩:=h2 x hx;⟨d,ht _ _ q1,ht _ _ q2⟩,h3,aB.map hl ht hd h4⟩
 |.kt k,_,h=>by simp only[At] at h ⊢;obtain⟨a,e,h1⟩:=h;exact⟨a,e,hd _ _ h1⟩
 |.pin a t,_,h=>by simp only[At] at h ⊢;exact⟨h.1,At.map hl ht hd h.2⟩
 |.ins C ns ts,_,h=>by simp only[At] at h ⊢;obtain⟨a,dx,vs,e,h0,h1,h2⟩:=h;exact⟨a,dx,vs,e,h0,hd _ _ h1,aB.map hl ht hd h2⟩
theorem aB.map(hl:∀a vs,uk K H O a vs->uk K H' O' a vs)(ht:∀a vs,fM K H a vs->fM K H' a vs)(hd:∀a u,rD H O a u->rD H' O' a u):∀{ts:List T}{vs:qak},aB K H O ts vs->aB K H' O' ts vs
 |[],_,h=>by simpa only[aB] using h
 |t::ts,_,h=>by simp only[aB] at h ⊢;obtain⟨v,r,e,h1,h2⟩:=h;exact⟨v,r,e,At.map hl ht hd h1,aB.map hl ht hd h2⟩
end
theorem Rd.same{u:HO}(s:aY H H')(h:Rd H a u):Rd H' a u:=by
 obtain h|⟨o,h⟩:=h
 exact .inl (s _ _ h);exact .inr ⟨o,s _ _ h⟩
theorem fM.same(s:aY H H')(h:fM K H a vs):fM K H' a vs:=by
 obtain h|h:=h
 exact .inl (Rd.same s h);exact .inr h
theorem uk.same(s:aY H H')(h:uk K H O a vs):uk K H' O a vs:=by
 obtain h|h:=h
 exact .inl ⟨Rd.same s h.1,h.2⟩;exact .inr h
theorem At.same{t:T}(s:aY H H')(h:At K H O t v):At K H' O t v:=At.map (λ_ _ q=>q.same s) (λ_ _ q=>fM.same s q) (λ_ _ q=>⟨s _ _ q.1,q.2⟩) h
theorem aB.same{t:List T}{v:qak}(s:aY H H')(h:aB K H O t v):aB K H' O t v:=aB.map (λ_ _ q=>q.same s) (λ_ _ q=>fM.same s q) (λ_ _ q=>⟨s _ _ q.1,q.2⟩) h
theorem At.a8{t:T}(s:∀a∈O',a∈O)(h:At K H O t v):At K H O' t v :=
 At.map (λa vs q=>q.elim (λz=>.inl ⟨z.1,λm=>z.2 (s a m)⟩) .inr) (λ_ _ q=>q) (λa _ q=>⟨q.1,λm=>q.2 (s a m)⟩) h
theorem aB.a8{t:List T}{v:qak}(s:∀a∈O',a∈O)(h:aB K H O t v):aB K H O' t v :=
 aB.map (λa vs q=>q.elim (λz=>.inl ⟨z.1,λm=>z.2 (s a m)⟩) .inr) (λ_ _ q=>q) (λa _ q=>⟨q.1,λm=>q.2 (s a m)⟩) h
theorem Rd.some{u:HO}(h:Rd H a u):H a≠none:=by obtain h|⟨o,h⟩:=h<;>rw[h]<;>simp
theorem At.more{t:T}(s:∀a∈O',a∈O\/H a=none)(h:At K H O t v):At K H O' t v :=
 At.map (λa vs q=>q.elim (λz=>.inl ⟨z.1,λm=>(s a m).elim z.2 (Rd.some z.1)⟩) .inr) (λ_ _ q=>q) (λa a_ q=>⟨q.1,λm=>(s a m).elim q.2 (by rw[q.1];simp)⟩) h
theorem aB.more{t:List T}{v:qak}(s:∀a∈O',a∈O\/H a=none)(h:aB K H O t v):aB K H O' t v :=
 aB.map (λa vs q=>q.elim (λz=>.inl ⟨z.1,λm=>(s a m).elim z.2 (Rd.some z.1)⟩) .inr) (λ_ _ q=>q) (λa a_ q=>⟨q.1,λm=>(s a m).elim q.2 (by rw[q.1];simp)⟩) h
def lz:HO->Bool
 |.lst _=>true
 |.dK _=>true
 |.dT _=>true
 |.ins _ _ _=>true
 |.ext _=>true
 |_=>false
theorem At.wrote{t:T}{o u:HO}(ha:a∈O)(hu:H a=some u)(hm:lz u=true)(h:At K H O t v):At K (upd H a o) O t v:=by
 have ne:∀b,b∉O->b≠a:=λb hb e=>hb (by rw[e];exact ha);refine At.map (λb vs q=>?_) (λb vs q=>?_) (λb a_ q=>?_) h;obtain q|q:=q
 refine .inl ⟨?_,q.2⟩;obtain z|⟨o',z⟩:=q.1
 exact .inl (by rw[aE (ne b q.2)];exact z);exact .inr ⟨o',by rw[aE (ne b q.2)];exact z⟩;exact .inr q;obtain z|z:=q
 refine .inl ?_;obtain z|⟨o',z⟩:=z
 exact .inl (by rw[aE (IW z hu (by intro e;subst e;cases hm))];exact z);exact .inr ⟨o',by rw[aE (IW z hu (by intro e;subst e;cases hm))];exact z⟩;exact .inr z;exact⟨by rw[aE (ne b q.2)];exact q.1,q.2⟩
theorem aB.iff{ts:List T}:∀{vs:qak},aB K H O ts vs↔Paired (λv t=>At K H O t v) vs ts:=by
 induction ts with
 |nil=>intro vs;simp only[aB];exact⟨λe=>by subst e;exact .nil,λh=>by cases h;rfl⟩
 |cons t ts ih=>
  intro vs;simp only[aB];constructor;rintro⟨v,r,rfl,h1,h2⟩;exact .cons h1 (ih.mp h2);intro h;cases h with
  |cons h1 h2=>exact⟨_,_,rfl,h1,ih.mpr h2⟩
theorem aB.wrote{t:List T}{v:qak}{o u:HO}(ha:a∈O)(hu:H a=some u)(hm:lz u=true)(h:aB K H O t v):aB K (upd H a o) O t v :=
 aB.iff.mpr (Paired.oj (aB.iff.mp h) λ_ _ q=>q.wrote ha hu hm)
theorem aB.length{ts:List T}{vs:qak}(h:aB K H O ts vs):vs.length=ts.length:=Tq (aB.iff.mp h)
theorem aB.get{ts:List T}{vs:qak}(h:aB K H O ts vs){i:Nat}{t:T}(e:ts[i]?=some t):∃v,vs[i]?=some v/\At K H O t v:=by
 have q:=aB.iff.mp h;clear h;induction q generalizing i with
 |nil=>simp at e
 |cons r _ ih=>
  cases i with
  |zero=>simp at e;subst e;exact⟨_,rfl,r⟩
  |succ i=>obtain⟨v,h1,h2⟩:=ih (i:=i) (by simpa using e);exact⟨v,by simpa using h1,h2⟩
theorem aB.cons{t:T}{ts:List T}{v:V}{vs:qak}(h:At K H O t v)(hs:aB K H O ts vs):aB K H O (t::ts) (v::vs):=by simp only[aB];exact⟨v,vs,rfl,h,hs⟩
theorem aB.nil:aB K H O [] []:=by simp only[aB]
theorem aB.append{ts us:List T}{ws:qak}(h:aB K H O ts vs)(h':aB K H O us ws):aB K H O (ts++us) (vs++ws):=by
 rw[aB.iff] at h h' ⊢;induction h with
 |nil=>exact h'
 |cons r _ ih=>exact .cons r ih
theorem aB.drop{ts:List T}(n:Nat)(h:aB K H O ts vs):aB K H O (ts.drop n) (vs.drop n):=by
 rw[aB.iff] at h ⊢;induction h generalizing n with
 |nil=>cases n<;>exact .nil
 |cons r t ih=>cases n with
  |zero=>exact .cons r t
  |succ n=>exact ih n
theorem aB.take{ts:List T}(n:Nat)(h:aB K H O ts vs):aB K H O (ts.take n) (vs.take n):=by
 rw[aB.iff] at h ⊢;induction h generalizing n with
 |nil=>cases n<;>exact .nil
 |cons r t ih=>cases n with
  |zero=>exact .nil
  |succ n=>exact .cons r (ih n)
theorem aB.set{ts:List T}{t:T}(i:Nat)(h:aB K H O ts vs)(q:At K H O t v):aB K H O (ts.set i t) (vs.set i v):=by
 rw[aB.iff] at h ⊢;induction h generalizing i with
 |nil=>exact .nil
 |cons r s ih=>cases i with
  |zero=>exact .cons q s
  |succ i=>exact .cons r (ih i)
end
mutual
def bP:T->Bool
 |.tup ts=>eD ts
 |.lst _=>false
 |.dk _ _=>false
 |.dt _ _=>false
 |.df _ _ _=>false
 |.dz _ _ _=>false
 |.dc _ _ _=>false
 |.kt _=>false
 |.ins _ _ _=>false
 |.pin _ _=>false
 |_=>true
def eD:List T->Bool
 |[]=>true
 |t::ts=>bP t && eD ts
end
section
variable{O O':qah}
mutual
theorem At.bP:∀{t:T}{v:V},bP t=true->At K H O t v->At K H O' t v
 |.aP,_,_,h=>by simpa only[At] using h
 |.bl _,_,_,h=>by simpa only[At] using h
 |.int _,_,_,h=>by simpa only[At] using h
 |.str _,_,_,h=>by simpa only[At] using h
 |.ob _,_,_,h=>by simpa only[At] using h
 |.ty _,_,_,h=>by simpa only[At] using h
 |.tup ts,_,i,h=>by simp only[At] at h ⊢;simp only[VT.bP] at i;obtain⟨a,vs,e,h1,h2⟩:=h;exact⟨a,vs,e,h1,aB.bP i h2⟩
 |.lst ts,_,i,h=>by simp only[VT.bP] at i;cases i
 |.dk _ _,_,i,h=>by simp only[VT.bP] at i;cases i
 |.dt _ _,_,i,h=>by simp only[VT.bP] at i;cases i
 |.df _ _ _,_,i,h=>by simp only[VT.bP] at i;cases i
 |.dz _ _ _,_,i,h=>by simp only[VT.bP] at i;cases i
 |.dc _ _ _,_,i,h=>by simp only[VT.bP] at i;cases i
 |.kt _,_,i,h=>by simp only[VT.bP] at i;cases i
 |.ins _ _ _,_,i,h=>by simp only[VT.bP] at i;cases i
 |.pin _ _,_,i,h=>by simp only[VT.bP] at i;cases i
theorem aB.bP:∀{ts:List T}{vs:qak},eD ts=true->aB K H O ts vs->aB K H O' ts vs
 |[],_,_,h=>by simpa only[aB] using h
 |t::ts,_,i,h=>by simp only[VT.eD,m9] at i;simp only[aB] at h ⊢;obtain⟨v,r,e,h1,h2⟩:=h;exact⟨v,r,e,At.bP i.1 h1,aB.bP i.2 h2⟩
end
end
abbrev En:=List (Option (T×Bool))
structure Zc where
 H0:Hp
 P:List (Nat×Addr)
 Ox:qah
def Zc.ex(Z:Zc)(a:Addr):Zc:={Z with Ox:=a::Z.Ox}
def cW(K:qaf)(H:Hp)(A:qah)(a:Addr):T->Prop
 |.lst ts=>∃vs,H a=some (.lst vs)/\aB K H A ts vs
 |.dk ks ts=>∃vs,ks.length=vs.length/\H a=some (.dK (ks.zip vs))/\aB K H A ts vs
 |.dt ks ts=>∃vs,ks.length=vs.length/\H a=some (.dT (ks.zip vs))/\aB K H A ts vs
 |.ins C ns ts=>∃dx vs,ns.length=vs.length/\H a=some (.ins C dx (ns.zip vs))/\aB K H A ts vs
 |_=>False
def oz(K:qaf)(H:Hp)(A:qah):Option (T×Bool)->qar->Option V->Prop
 |none,o,_=>o=none
 |some (t,false),o,s=>o=none/\∃v,s=some v/\At K H A t v
 |some (t,true),o,s=>∃a,o=some a/\s=some (.ref a)/\cW K H A a t
def roots(O:HD):qah:=O.filterMap id
def av(Z:Zc)(O:HD):qah:=roots O++Z.Ox
structure ay(K:qaf)(Z:Zc)(tm:List (T×V))(O:HD)(ρ:En)(σ:St)(H:Hp):Prop where
 lσ:σ.length=ρ.length
 lO:O.length=ρ.length
 sl:∀(i:Nat) e,ρ[i]?=some e->∃o s,O[i]?=some o/\σ[i]?=some s/\oz K H (av Z O) e o s
 nd:(roots O).Nodup
 own:∀a∈roots O,(a∈Z.P.map (·.2)\/Z.H0 a=none)/\a∉Z.Ox/\∃u,H a=some u/\lz u=true
 par:∀p∈Z.P,O[p.1]?=some (some p.2)
 ox:∀a∈Z.Ox,H a≠none
 keep:∀b o,Z.H0 b=some o->b∉Z.P.map (·.2)->H b=some o
 rE:∀p∈tm,At K H (av Z O) p.1 p.2
section
variable{Z:Zc}{tm:List (T×V)}{ρ:En}
theorem cW.map{A A':qah}{t:T}(h:cW K H A a t)(h1:H' a=H a)(h2:∀ts vs,aB K H A ts vs->aB K H' A' ts vs):cW K H' A' a t:=by
 cases t with
 |lst ts=>obtain⟨vs,e,q⟩:=h;exact⟨vs,h1.trans e,h2 _ _ q⟩
 |dk ks ts=>obtain⟨vs,l,e,q⟩:=h;exact⟨vs,l,h1.trans e,h2 _ _ q⟩
 |dt ks ts=>obtain⟨vs,l,e,q⟩:=h;exact⟨vs,l,h1.trans e,h2 _ _ q⟩
 |ins C ns ts=>obtain⟨dx,vs,l,e,q⟩:=h;exact⟨dx,vs,l,h1.trans e,h2 _ _ q⟩
 |_=>exact h.elim
theorem cW.mut{A:qah}{t:T}(h:cW K H A a t):∃u,H a=some u/\lz u=true:=by
 cases t with
 |lst ts=>obtain⟨vs,e,q⟩:=h;exact⟨_,e,rfl⟩
 |dk ks ts=>obtain⟨vs,l,e,q⟩:=h;exact⟨_,e,rfl⟩
 |dt ks ts=>obtain⟨vs,l,e,q⟩:=h;exact⟨_,e,rfl⟩
 |ins C ns ts=>obtain⟨dx,vs,l,e,q⟩:=h;exact⟨_,e,rfl⟩
 |_=>exact h.elim
theorem cW.a8{A A':qah}{t:T}(h:cW K H A a t)(s:∀b∈A',b∈A):cW K H A' a t:=h.map rfl λ_ _ q=>q.a8 s
theorem cW.same{A:qah}{t:T}(h:cW K H A a t)(s:aY H H'):cW K H' A a t:=by obtain⟨u,e,_⟩:=h.mut;exact h.map (by rw[e];exact s _ _ e) λ_ _ q=>q.same s
theorem cW.at{A:qah}{t:T}(h:cW K H A a t)(n:a∉A):At K H A t (.ref a):=by
 cases t with
 |lst ts=>obtain⟨vs,e,q⟩:=h;simp only[At];exact⟨a,vs,rfl,.inl ⟨.inl e,n⟩,q⟩
 |dk ks ts=>obtain⟨vs,l,e,q⟩:=h;simp only[At];exact⟨a,vs,rfl,l,⟨e,n⟩,q⟩
 |dt ks ts=>obtain⟨vs,l,e,q⟩:=h;simp only[At];exact⟨a,vs,rfl,l,⟨e,n⟩,q⟩
 |ins C ns ts=>obtain⟨dx,vs,l,e,q⟩:=h;simp only[At];exact⟨a,dx,vs,rfl,l,⟨e,n⟩,q⟩
 |_=>exact h.elim
theorem oz.map{A A':qah}{e:Option (T×Bool)}{o:qar}{s:Option V}(h:oz K H A e o s)(h1:∀t v,At K H A t v->At K H' A' t v)(h2:∀a t,o=some a->cW K H A a t->cW K H' A' a t):oz K H' A' e o s:=by
 match e,h with
 |none,h=>exact h
 |some (t,false),⟨e,v,es,q⟩=>exact⟨e,v,es,h1 _ _ q⟩
 |some (t,true),⟨a,e,es,q⟩=>exact⟨a,e,es,h2 _ _ e q⟩
theorem aM:a∈roots O↔some a∈O:=by unfold roots;rw[acg];exact⟨λ⟨x,h,e⟩=>by rw[id] at e;rw[<- e];exact h,λh=>⟨_,h,rfl⟩⟩
theorem ay.BC(I:ay K Z tm O ρ σ H):∀a∈av Z O,H a≠none:=λa h=>by
 rcases cU.mp h with h|h
 obtain⟨_,_,u,e,_⟩:=I.own a h;rw[e];simp;exact I.ox a h
theorem ay.same(I:ay K Z tm O ρ σ H)(s:aY H H'):ay K Z tm O ρ σ H' :=
 ⟨I.lσ,I.lO,λi e h=>let ⟨o,w,h1,h2,h3⟩:=I.sl i e h;⟨o,w,h1,h2,h3.map (λ_ _ q=>q.same s) λ_ _ _ q=>q.same s⟩,I.nd,
  λa h=>let ⟨h1,h2,u,e,m⟩:=I.own a h;⟨h1,h2,u,s _ _ e,m⟩,I.par,λa h=>by
   cases e:H a with
   |none=>exact absurd e (I.ox a h)
   |some u=>rw[s _ _ e];simp,
  λb o e n=>s _ _ (I.keep b o e n),λp hp=>(I.rE p hp).same s⟩
theorem cj(i:Nat):∀a∈roots (O.set i none),a∈roots O:=λa h=>by
 rw[aM] at h ⊢;rcases XT h with z|z
 exact z;cases z
theorem iy:∀(O:HD)(i:Nat),(roots O).Nodup->(roots (O.set i none)).Nodup
 |[],i,h=>by simpa using h
 |o::O,0,h=>by
  cases o with
  |none=>simpa[roots] using h
  |some a=>simp only[roots,RD,oh,id] at h ⊢;exact (mW.mp h).2
 |o::O,i+1,h=>by
  have key:=iy O i;cases o with
  |none=>simp only[roots,IV,oh,id] at h ⊢;exact key h
  |some a=>simp only[roots,IV,oh,id] at h ⊢;rw[mW] at h ⊢;exact⟨λz=>h.1 (cj i a z),key h.2⟩
theorem ck(i:Nat):∀a∈av Z (O.set i none),a∈av Z O:=λa h=>by
 rcases cU.mp h with h|h
 exact cC _ (cj i a h);exact bW _ h
theorem get_set{l:List α}{x y:α}(h:(l.set i x)[j]?=some y):(j=i/\y=x/\i<l.length)\/(j≠i/\l[j]?=some y):=by rw[YR] at h;by_cases e:i=j;rw[if_pos e] at h;by_cases hl:i<l.length;rw[if_pos hl] at h;exact .inl ⟨e.symm,(Option.some.inj h).symm,hl⟩;rw[if_neg hl] at h;cases h;rw[if_neg e] at h;exact .inr ⟨λz=>e z.symm,h⟩
theorem ay.put(I:ay K Z tm O ρ σ H){t:T}(hp:∀p∈Z.P,p.1≠i)(hv:At K H (av Z O) t v):ay K Z tm (O.set i none) (ρ.set i (some (t,false))) (σ.set i (some v)) H:=by
 have fw:∀{t:T}{v:V},At K H (av Z O) t v->At K H (av Z (O.set i none)) t v:=λq=>q.a8 (ck i);refine⟨by simp[I.lσ],by simp[I.lO],λj e h=>?_,iy _ _ I.nd,λa h=>I.own a (cj i a h),λp q=>?_,I.ox,I.keep,λp q=>fw (I.rE p q)⟩;rcases get_set h with⟨rfl,rfl,hl⟩|⟨ne,h⟩
 exact⟨none,some v,by rw[Ee (by rw[I.lO];exact hl)],by rw[Ee (by rw[I.lσ];exact hl)],rfl,v,rfl,fw hv⟩;obtain⟨o,s,h1,h2,h3⟩:=I.sl j e h;exact⟨o,s,by rw[uc (Ne.symm ne)];exact h1,by rw[uc (Ne.symm ne)];exact h2,h3.map (λ_ _ q=>fw q) λ_ _ _ q=>q.a8 (ck i)⟩;rw[uc (Ne.symm (hp p q))];exact I.par p q
theorem ay.forget(I:ay K Z tm O ρ σ H)(hp:∀p∈Z.P,p.1≠i):ay K Z tm (O.set i none) (ρ.set i none) σ H:=by
 have fw:∀{t:T}{v:V},At K H (av Z O) t v->At K H (av Z (O.set i none)) t v:=λq=>q.a8 (ck i);refine⟨by simp[I.lσ],by simp[I.lO],λj e h=>?_,iy _ _ I.nd,λa h=>I.own a (cj i a h),λp q=>?_,I.ox,I.keep,λp q=>fw (I.rE p q)⟩;rcases get_set h with⟨rfl,rfl,hl⟩|⟨ne,h⟩
 obtain⟨s,hs⟩:∃s,σ[j]?=some s:=⟨σ[j]'(by rw[I.lσ];exact hl),by simp⟩;exact⟨none,s,by rw[Ee (by rw[I.lO];exact hl)],hs,rfl⟩;obtain⟨o,s,h1,h2,h3⟩:=I.sl j e h;exact⟨o,s,by rw[uc (Ne.symm ne)];exact h1,h2,h3.map (λ_ _ q=>fw q) λ_ _ _ q=>q.a8 (ck i)⟩;rw[uc (Ne.symm (hp p q))];exact I.par p q
theorem pO:∀(O:HD)(i:Nat)(a:Addr),a∉roots O->(roots O).Nodup->(roots (O.set i (some a))).Nodup
 |[],i,a,_,h=>by simpa using h
 |o::O,0,a,n,h=>by
  cases o with
  |none=>simp only[roots,RD,oh,id] at n h ⊢;exact mW.mpr ⟨n,h⟩
  |some b=>simp only[roots,RD,oh,id] at n h ⊢;exact mW.mpr ⟨λz=>n (ic _ z),(mW.mp h).2⟩
 |o::O,i+1,a,n,h=>by
  have key:=pO O i a;cases o with
  |none=>simp only[roots,IV,oh,id] at n h ⊢;exact key n h
  |some b=>
   simp only[roots,IV,oh,id] at n h ⊢;rw[mW] at h ⊢;refine⟨λz=>?_,key (λz=>n (ic _ z)) h.2⟩;have z':some b∈O.set i (some a):=aM.mp z;rcases XT z' with q|q
   exact h.1 (aM.mpr q);exact n (by rw[Option.some.inj q];exact dP)
theorem zq(i:Nat):∀b∈av Z (O.set i (some a)),b∈av (Z.ex a) O:=λb h=>by
 rcases cU.mp h with h|h
 rcases XT (aM.mp h) with z|z
 exact cC _ (aM.mpr z);exact bW _ (by rw[Option.some.inj z];exact dP);exact bW _ (ic _ h)
theorem ay.ZR(I:ay K (Z.ex a) tm O ρ σ H){t:T}(hp:∀p∈Z.P,p.1≠i)(hv:cW K H (av (Z.ex a) O) a t)(h0:Z.H0 a=none)(hx:a∉Z.Ox):ay K Z tm (O.set i (some a)) (ρ.set i (some (t,true))) (σ.set i (some (.ref a))) H:=by
 have sub:=zq (Z:=Z) (O:=O) (a:=a) i;have fw:∀{t:T}{v:V},At K H (av (Z.ex a) O) t v->At K H (av Z (O.set i (some a))) t v:=λq=>q.a8 sub;have na:a∉roots O:=λz=>(I.own a z).2.1 dP;refine⟨by simp[I.lσ],by simp[I.lO],λj e h=>?_,pO _ _ _ na I.nd,λb h=>?_,λp q=>?_,λb h=>I.ox b (ic _ h),I.keep,λp q=>fw (I.rE p q)⟩;rcases get_set h with⟨rfl,rfl,hl⟩|⟨ne,h⟩
 exact⟨some a,some (.ref a),by rw[Ee (by rw[I.lO];exact hl)],by rw[Ee (by rw[I.lσ];exact hl)],a,rfl,rfl,hv.a8 sub⟩;obtain⟨o,s,h1,h2,h3⟩:=I.sl j e h;exact⟨o,s,by rw[uc (Ne.symm ne)];exact h1,by rw[uc (Ne.symm ne)];exact h2,h3.map (λ_ _ q=>fw q) λ_ _ _ q=>q.a8 sub⟩;rcases XT (aM.mp h) with z|z
 obtain⟨h1,h2,h3⟩:=I.own b (aM.mpr z);exact⟨h1,λq=>h2 (ic _ q),h3⟩;cases z;exact⟨.inr h0,hx,hv.mut⟩;rw[uc (Ne.symm (hp p q))];exact I.par p q
theorem ay.y8(I:ay K Z tm O ρ σ H){t:T}(hp:∀p∈Z.P,p.1≠i)(hi:ρ[i]?=some (some (t,true))):ay K Z tm (O.set i none) (ρ.set i (some (t,false))) σ H:=by
 have fw:∀{t:T}{v:V},At K H (av Z O) t v->At K H (av Z (O.set i none)) t v:=λq=>q.a8 (ck i);obtain⟨o,s,h1,h2,a,rfl,rfl,hr⟩:=I.sl i _ hi;have ha:a∈roots O:=aM.mpr (iw h1);have na:a∉roots (O.set i none):=λz=>by
  obtain⟨j,hj⟩:=Ry.mp (aM.mp z);rcases get_set hj with⟨_,q,_⟩|⟨ne,q⟩
  cases q
  -- two places of one root
  have key:∀(O:HD)(i j:Nat),i<j->O[i]?=some (some a)->O[j]?=some (some a)->(roots O).Nodup->False:=by
   intro O;induction O with
   |nil=>intro i j _ h;simp at h
   |cons o O ih=>
    intro i j hij e1 e2 nd;cases j with
    |zero=>omega
    |succ j=>
     have NP:O[j]?=some (some a):=by simpa using e2
     cases i with
     |zero=>
      have:o=some a:=by simpa using e1
      subst this;simp only[roots,oh,id] at nd;exact (mW.mp nd).1 (aM.mpr (iw NP))
     |succ i=>
      refine ih i j (by omega) (by simpa using e1) NP ?_;cases o with
      |none=>simpa[roots] using nd
      |some b=>simp only[roots,oh,id] at nd;exact (mW.mp nd).2
  rcases Nat.lt_or_gt_of_ne ne with l|l
  exact key O j i l q h1 I.nd;exact key O i j l h1 q I.nd
 have nav:a∉av Z (O.set i none):=λz=>by
  rcases cU.mp z with z|z
  exact na z;exact (I.own a ha).2.1 z
 refine⟨by simp[I.lσ],by simp[I.lO],λj e h=>?_,iy _ _ I.nd,λa h=>I.own a (cj i a h),λp q=>?_,I.ox,I.keep,λp q=>fw (I.rE p q)⟩;rcases get_set h with⟨rfl,rfl,hl⟩|⟨ne,h⟩
 exact⟨none,some (.ref a),by rw[Ee (by rw[I.lO];exact hl)],h2,rfl,.ref a,rfl,(hr.a8 (ck j)).at nav⟩;obtain⟨o,s,h1,h2,h3⟩:=I.sl j e h;exact⟨o,s,by rw[uc (Ne.symm ne)];exact h1,h2,h3.map (λ_ _ q=>fw q) λ_ _ _ q=>q.a8 (ck i)⟩;rw[uc (Ne.symm (hp p q))];exact I.par p q
theorem ay.wrote(I:ay K Z tm O ρ σ H){t t':T}{u:HO}(hi:ρ[i]?=some (some (t,true)))(hO:O[i]?=some (some a))(hr:cW K (upd H a u) (av Z O) a t'):ay K Z tm O (ρ.set i (some (t',true))) σ (upd H a u):=by
 have ha:a∈roots O:=aM.mpr (iw hO);have OK:a∈av Z O:=cC _ ha;obtain⟨hP,hx,u0,e0,m0⟩:=I.own a ha;have inj:∀j b,j≠i->O[j]?=some (some b)->b≠a:=by
  intro j b ne hj e;subst e;have key:∀(O:HD)(i j:Nat),i<j->O[i]?=some (some b)->O[j]?=some (some b)->(roots O).Nodup->False:=by
   intro O;induction O with
   |nil=>intro i j _ h;simp at h
   |cons o O ih=>
    intro i j hij e1 e2 nd;cases j with
    |zero=>omega
    |succ j=>
     have NP:O[j]?=some (some b):=by simpa using e2
     cases i with
     |zero=>
      have:o=some b:=by simpa using e1
      subst this;simp only[roots,oh,id] at nd;exact (mW.mp nd).1 (aM.mpr (iw NP))
     |succ i=>
      refine ih i j (by omega) (by simpa using e1) NP ?_;cases o with
      |none=>simpa[roots] using nd
      |some c=>simp only[roots,oh,id] at nd;exact (mW.mp nd).2
  rcases Nat.lt_or_gt_of_ne ne with l|l
  exact key O j i l hj hO I.nd;exact key O i j l hO hj I.nd
 refine⟨by simp[I.lσ],by simp[I.lO],λj e h=>?_,I.nd,λb h=>?_,I.par,λb h=>?_,λb o e n=>?_,λp q=>(I.rE p q).wrote OK e0 m0⟩;rcases get_set h with⟨rfl,rfl,hl⟩|⟨ne,h⟩
 obtain⟨o,s,h1,h2,a',h4,h5,h6⟩:=I.sl j _ hi;rw[hO] at h1;cases h1;cases h4;exact⟨_,s,hO,h2,a,rfl,h5,hr⟩;obtain⟨o,s,h1,h2,h3⟩:=I.sl j e h;refine⟨o,s,h1,h2,h3.map (λ_ _ q=>q.wrote OK e0 m0) λb t e q=>?_⟩;subst e;exact q.map (aE (inj j b ne h1)) λ_ _ z=>z.wrote OK e0 m0;obtain⟨h1,h2,v,e,m⟩:=I.own b h;by_cases hb:b=a;subst hb;exact⟨h1,h2,hr.mut⟩;exact⟨h1,h2,v,by rw[aE hb];exact e,m⟩;by_cases hb:b=a;subst hb;exact absurd h hx;rw[aE hb];exact I.ox b h;by_cases hb:b=a;subst hb;obtain q|q:=hP
 exact absurd q n;rw[q] at e;cases e;rw[aE hb];exact I.keep b o e n
theorem ay.fresh(I:ay K Z tm O ρ σ H)(h:H a=none):a∉av Z O/\a∉Z.Ox/\Z.H0 a=none:=by
 refine⟨λz=>I.BC a z h,λz=>I.ox a z h,?_⟩;cases e:Z.H0 a with
 |none=>rfl
 |some o=>by_cases hp:a∈Z.P.map (·.2);obtain⟨p,Up,rfl⟩:=vz.mp hp;obtain⟨_,_,u,e',_⟩:=I.own p.2 (aM.mpr (iw (I.par p Up)));rw[h] at e';cases e';rw[I.keep a o e hp] at h;cases h
theorem dS:∀b∈av (Z.ex a) O,b∈av Z O\/b=a:=λb h=>by
 rcases cU.mp h with h|h
 exact .inl (cC _ h);rcases c4.mp h with h|h
 exact .inr h;exact .inl (bW _ h)
theorem gR:∀b∈av Z O,b∈av (Z.ex a) O:=λb h=>by
 rcases cU.mp h with h|h
 exact cC _ h;exact bW _ (ic _ h)
theorem ay.new(I:ay K Z tm O ρ σ H){u:HO}(h:H a=none)(hu:lz u=true):ay K (Z.ex a) tm O ρ σ (upd H a u):=by
 have s:aY H (upd H a u):=aJ h;have J:=I.same s;obtain⟨n1,n2,n3⟩:=I.fresh h;have mr:∀b∈av (Z.ex a) O,b∈av Z O\/H b=none:=λb hb=>(dS b hb).imp id λe=>by rw[e];exact h
 have fw:∀{t:T}{v:V},At K H (av Z O) t v->At K (upd H a u) (av (Z.ex a) O) t v:=λq=>(q.more mr).same s;refine⟨J.lσ,J.lO,λi e hi=>?_,J.nd,λb hb=>?_,J.par,λb hb=>?_,J.keep,λp hp=>fw (I.rE p hp)⟩;obtain⟨o,w,h1,h2,h3⟩:=I.sl i e hi;refine⟨o,w,h1,h2,h3.map (λ_ _ q=>fw q) λb t eo q=>?_⟩;refine cW.same (q.map rfl λ_ _ z=>z.more mr) s;obtain⟨q1,q2,q3⟩:=J.own b hb;refine⟨q1,λz=>?_,q3⟩;rcases c4.mp z with z|z
 exact n1 (by rw[<- z];exact cC _ hb);exact q2 z;rcases c4.mp hb with z|z
 rw[z,aH];simp;exact J.ox b z
theorem ay.afF(I:ay K (Z.ex a) tm O ρ σ H):ay K Z tm O ρ σ H :=
 ⟨I.lσ,I.lO,λi e h=>let ⟨o,w,h1,h2,h3⟩:=I.sl i e h;⟨o,w,h1,h2,h3.map (λ_ _ q=>q.a8 gR) λ_ _ _ q=>q.a8 gR⟩,I.nd,
  λb h=>let ⟨q1,q2,q3⟩:=I.own b h;⟨q1,λz=>q2 (ic _ z),q3⟩,I.par,λb h=>I.ox b (ic _ h),I.keep,λp hp=>(I.rE p hp).a8 gR⟩
end
inductive Rt where
 |vw (t:T)
 |fr (t:T)
def Rt.t:Rt->T
 |.vw t=>t
 |.fr t=>t
def iz(K:qaf)(H:Hp)(A:qah)(t:T)(v:V):Prop:=At K H A t v\/∃a,v=.ref a/\cW K H A a t
def il(K:qaf)(Z:Zc)(tm:List (T×V))(O:HD)(ρ:En)(σ:St)(H:Hp):Rt->V->Prop
 |.vw t,v=>ay K Z tm O ρ σ H/\At K H (av Z O) t v
 |.fr t,v=>∃a,v=.ref a/\ay K (Z.ex a) tm O ρ σ H/\cW K H (av (Z.ex a) O) a t/\Z.H0 a=none/\a∉Z.Ox
abbrev FE:=En->(T->Prop)->Prop
abbrev FP:=En->(Rt->Prop)->Prop
abbrev FX:=En->(En->Rt->Prop)->Prop
abbrev FB:=En->(Bool->Prop)->Prop
abbrev FA:=En->(List T->Prop)->Prop
section
variable{Z:Zc}{tm:List (T×V)}{ρ:En}{A:qah}
theorem iz.same{t:T}(s:aY H H')(h:iz K H A t v):iz K H' A t v:=h.imp (λq=>q.same s) λ⟨a,e,q⟩=>⟨a,e,q.same s⟩
theorem iz.lst{ts:List T}(h:iz K H A (.lst ts) v):∃a vs,v=.ref a/\iV K H a vs/\aB K H A ts vs:=by
 obtain h|⟨a,rfl,vs,e,q⟩:=h
 simp only[At] at h;obtain⟨a,vs,rfl,l,q⟩:=h;exact⟨a,vs,rfl,l.sq,q⟩;exact⟨a,vs,rfl,iV.of e,q⟩
theorem iz.tup{ts:List T}(h:iz K H A (.tup ts) v):∃a vs,v=.ref a/\fM K H a vs/\aB K H A ts vs:=by
 obtain h|⟨a,rfl,q⟩:=h
 simpa only[At] using h;exact q.elim
theorem iz.dk{ts:List T}(h:iz K H A (.dk ks ts) v):∃a vs,v=.ref a/\ks.length=vs.length/\H a=some (.dK (ks.zip vs))/\aB K H A ts vs:=by
 obtain h|⟨a,rfl,vs,l,e,q⟩:=h
 simp only[At] at h;obtain⟨a,vs,rfl,l,d,q⟩:=h;exact⟨a,vs,rfl,l,d.1,q⟩;exact⟨a,vs,rfl,l,e,q⟩
theorem iz.dt{ks:List (List Key)}{ts:List T}(h:iz K H A (.dt ks ts) v):∃a vs,v=.ref a/\ks.length=vs.length/\H a=some (.dT (ks.zip vs))/\aB K H A ts vs:=by
 obtain h|⟨a,rfl,vs,l,e,q⟩:=h
 simp only[At] at h;obtain⟨a,vs,rfl,l,d,q⟩:=h;exact⟨a,vs,rfl,l,d.1,q⟩;exact⟨a,vs,rfl,l,e,q⟩
theorem iz.df{o:Obj}{ks:List (List Key)}{ts:List T}(h:iz K H A (.df o ks ts) v):∃a vs,v=.ref a/\ks.length=vs.length/\H a=some (.y8 o (.dT (ks.zip vs)))/\aB K H A ts vs:=by
 obtain h|⟨a,rfl,q⟩:=h
 simp only[At] at h;obtain⟨a,vs,rfl,l,d,q⟩:=h;exact⟨a,vs,rfl,l,d.1,q⟩;exact q.elim
theorem iz.dz{o:Obj}{ts:List T}(h:iz K H A (.dz o ks ts) v):∃a vs,v=.ref a/\ks.length=vs.length/\H a=some (.y8 o (.dK (ks.zip vs)))/\aB K H A ts vs:=by
 obtain h|⟨a,rfl,q⟩:=h
 simp only[At] at h;obtain⟨a,vs,rfl,l,d,q⟩:=h;exact⟨a,vs,rfl,l,d.1,q⟩;exact q.elim
theorem iz.dc{nh:List Key×Key->Int}{ks:List (List Key×Key)}{ts:List T}(h:iz K H A (.dc nh ks ts) v):∃a xs vs,v=.ref a/\H a=some (.ext (oy nh a xs))/\ks=xs.map (·.1)/\(a==sysModules)=false/\(∀x∈xs,qj K H x.1 x.2.1)/\Vals vs (xs.map (·.2.2))/\aB K H A ts vs:=by
 obtain h|⟨a,rfl,q⟩:=h
 simp only[At] at h;obtain⟨a,xs,vs,rfl,d,q⟩:=h;exact⟨a,xs,vs,rfl,d.1,q⟩;exact q.elim
theorem iz.kt{k:List Key}(h:iz K H A (.kt k) v):∃a,v=.ref a/\H a=some (.tup (k.map kV)):=by
 obtain h|⟨a,rfl,q⟩:=h
 simp only[At] at h;obtain⟨a,rfl,d⟩:=h;exact⟨a,rfl,d.1⟩;exact q.elim
theorem iz.ins{ns:qai}{ts:List T}(h:iz K H A (.ins C ns ts) v):∃a dx vs,v=.ref a/\ns.length=vs.length/\H a=some (.ins C dx (ns.zip vs))/\aB K H A ts vs:=by
 obtain h|⟨a,rfl,dx,vs,l,e,q⟩:=h
 simp only[At] at h;obtain⟨a,dx,vs,rfl,l,d,q⟩:=h;exact⟨a,dx,vs,rfl,l,d.1,q⟩;exact⟨a,dx,vs,rfl,l,e,q⟩
theorem iz.int{i:Int}(h:iz K H A (.int i) v):v=.int i:=h.elim (λq=>by simpa only[At] using q) λ⟨_,_,q⟩=>q.elim
theorem iz.str{i:Str}(h:iz K H A (.str i) v):v=.str i:=h.elim (λq=>by simpa only[At] using q) λ⟨_,_,q⟩=>q.elim
theorem iz.bl{i:Bool}(h:iz K H A (.bl i) v):v=.bl i:=h.elim (λq=>by simpa only[At] using q) λ⟨_,_,q⟩=>q.elim
theorem iz.aP(h:iz K H A .aP v):v=.aP:=h.elim (λq=>by simpa only[At] using q) λ⟨_,_,q⟩=>q.elim
theorem iz.ob(h:iz K H A (.ob a) v):v=.ref a:=h.elim (λq=>by simpa only[At] using q) λ⟨_,_,q⟩=>q.elim
theorem bC{i:Int}:At K H A (.int i) (.int i):=by simp only[At]
theorem dy{i:Str}:At K H A (.str i) (.str i):=by simp only[At]
theorem fH{i:Bool}:At K H A (.bl i) (.bl i):=by simp only[At]
theorem wY:At K H A .aP .aP:=by simp only[At]
theorem cA{ts:List T}(h:fM K H a vs)(q:aB K H A ts vs):At K H A (.tup ts) (.ref a):=by simp only[At];exact⟨a,vs,rfl,h,q⟩
theorem il.env{r:Rt}(h:il K Z tm O ρ σ H r v):ay K Z tm O ρ σ H:=by
 cases r with
 |vw t=>exact h.1
 |fr t=>obtain⟨a,_,I,_⟩:=h;exact I.afF
theorem il.at{r:Rt}(h:il K Z tm O ρ σ H r v):At K H (av Z O) r.t v:=by
 cases r with
 |vw t=>exact h.2
 |fr t=>
  obtain⟨a,rfl,I,q,_,hx⟩:=h;refine (q.a8 gR).at λz=>?_;rcases cU.mp z with z|z
  exact (I.own a z).2.1 dP;exact hx z
theorem ay.Gm(I:ay K Z tm O ρ σ H){ts:List T}(h:H a=none)(q:aB K H (av Z O) ts vs):il K Z tm O ρ σ (upd H a (.lst vs)) (.fr (.lst ts)) (.ref a):=by obtain⟨n1,n2,n3⟩:=I.fresh h;exact⟨a,rfl,I.new h rfl,⟨vs,aH,(q.more λb hb=>(dS b hb).imp id λe=>by rw[e];exact h).same (aJ h)⟩,n3,n2⟩
theorem ay.newD(I:ay K Z tm O ρ σ H){ts:List T}(h:H a=none)(hl:ks.length=vs.length)(q:aB K H (av Z O) ts vs):il K Z tm O ρ σ (upd H a (.dK (ks.zip vs))) (.fr (.dk ks ts)) (.ref a):=by obtain⟨n1,n2,n3⟩:=I.fresh h;exact⟨a,rfl,I.new h rfl,⟨vs,hl,aH,(q.more λb hb=>(dS b hb).imp id λe=>by rw[e];exact h).same (aJ h)⟩,n3,n2⟩
end
structure Bx(p:List (T×V)->Prop):Prop where
 h:∀tm,p tm
section
variable(X:Cx)(Z:Zc)
def lR(tm:List (T×V))(f:FE):TE:=λσ H Q=>∃ρ O q,ay X.K Z tm O ρ σ H/\f ρ q/\∀t,q t->∀v H',aY H H'->iz X.K H' (av Z O) t v->Q v H'
def lE(tm:List (T×V))(f:FE):TE:=λσ H Q=>∃ρ O q,ay X.K Z tm O ρ σ H/\f ρ q/\∀t,q t->∀v H',aY H H'->At X.K H' (av Z O) t v->Q v H'
def lP(tm:List (T×V))(f:FP):TE:=λσ H Q=>∃ρ O q,ay X.K Z tm O ρ σ H/\f ρ q/\∀r,q r->∀v H',aY H H'->il X.K Z tm O ρ σ H' r v->Q v H'
def lX(tm:List (T×V))(f:FX):TE:=λσ H Q=>∃ρ O q,ay X.K Z tm O ρ σ H/\f ρ q/\∀ρ' r,q ρ' r->∀O' v H',il X.K Z tm O' ρ' σ H' r v->Q v H'
def lB(tm:List (T×V))(f:FB):TT:=λσ H Q=>∃ρ O q,ay X.K Z tm O ρ σ H/\f ρ q/\∀b,q b->∀H',aY H H'->Q b H'
def lA(tm:List (T×V))(f:FA):TA:=λσ H Q=>∃ρ O q,ay X.K Z tm O ρ σ H/\f ρ q/\∀ts,q ts->∀vs H',aY H H'->aB X.K H' (av Z O) ts vs->Q vs H'
def lAR(tm:List (T×V))(f:FA):TA:=λσ H Q=>∃ρ O q,ay X.K Z tm O ρ σ H/\f ρ q/\∀ts,q ts->∀vs H',aY H H'->Paired (λv t=>iz X.K H' (av Z O) t v) vs ts->Q vs H'
def VR(e:Expr)(f:FE):Prop:=Bx λtm=>PE X e (lR X Z tm f)
instance{e:Expr}{f:FE}:CoeFun (VR X Z e f) λ_=>∀tm,PE X e (lR X Z tm f):=⟨λh=>Bx.h h⟩
def VE(e:Expr)(f:FE):Prop:=Bx λtm=>PE X e (lE X Z tm f)
instance{e:Expr}{f:FE}:CoeFun (VE X Z e f) λ_=>∀tm,PE X e (lE X Z tm f):=⟨λh=>Bx.h h⟩
def VP(e:Expr)(f:FP):Prop:=Bx λtm=>PE X e (lP X Z tm f)
instance{e:Expr}{f:FP}:CoeFun (VP X Z e f) λ_=>∀tm,PE X e (lP X Z tm f):=⟨λh=>Bx.h h⟩
def VX(e:Expr)(f:FX):Prop:=Bx λtm=>PE X e (lX X Z tm f)
instance{e:Expr}{f:FX}:CoeFun (VX X Z e f) λ_=>∀tm,PE X e (lX X Z tm f):=⟨λh=>Bx.h h⟩
def VC(e:Expr)(f:FB):Prop:=Bx λtm=>PT X e (lB X Z tm f)
instance{e:Expr}{f:FB}:CoeFun (VC X Z e f) λ_=>∀tm,PT X e (lB X Z tm f):=⟨λh=>Bx.h h⟩
def VW(e:Expr)(f:FB):Prop:=Bx λtm=>PW X e (lB X Z tm f)
instance{e:Expr}{f:FB}:CoeFun (VW X Z e f) λ_=>∀tm,PW X e (lB X Z tm f):=⟨λh=>Bx.h h⟩
def VA(es:qap)(f:FA):Prop:=Bx λtm=>PA X es (lA X Z tm f)
instance{es:qap}{f:FA}:CoeFun (VA X Z es f) λ_=>∀tm,PA X es (lA X Z tm f):=⟨λh=>Bx.h h⟩
def Uq(es:qap)(f:FA):Prop:=Bx λtm=>PA X es (lAR X Z tm f)
instance{es:qap}{f:FA}:CoeFun (Uq X Z es f) λ_=>∀tm,PA X es (lAR X Z tm f):=⟨λh=>Bx.h h⟩
end
theorem PE.weak{t t':TE}(h:PE X e t)(hw:∀σ H Q,t' σ H Q->t σ H Q):PE X e t':=λpins s σ H Q I q=>h pins s σ H Q I (hw _ _ _ q)
theorem PT.weak{t t':TT}(h:PT X e t)(hw:∀σ H Q,t' σ H Q->t σ H Q):PT X e t':=λpins s σ H Q I q=>h pins s σ H Q I (hw _ _ _ q)
theorem PW.weak{t t':TT}(h:PW X e t)(hw:∀σ H Q,t' σ H Q->t σ H Q):PW X e t':=λwh pins s σ H Q I q=>h wh pins s σ H Q I (hw _ _ _ q)
theorem PA.weak{e:qap}{t t':TA}(h:PA X e t)(hw:∀σ H Q,t' σ H Q->t σ H Q):PA X e t':=λpos pins s σ H Q I q=>h pos pins s σ H Q I (hw _ _ _ q)
theorem PS.weak{b:Stmt}{t t':TS}(h:PS X b t)(hw:∀D σ H,t' D σ H->t D σ H):PS X b t':=λpins s σ H D I q=>h pins s σ H D I (hw D σ H q)
theorem jc.jH{b:qaq}{t t':TS}(h:jc X b t)(hw:∀D σ H,t' D σ H->t D σ H):jc X b t':=λpins s σ H D I q=>h pins s σ H D I (hw D σ H q)
section
variable{Z:Zc}{a:Expr}{pos:Pos}
theorem VE.vr{f:FE}(h:VE X Z e f):VR X Z e f:=.mk λtm=>PE.weak (h tm) λσ H Q ⟨ρ,O,q,I,hf,k⟩=>⟨ρ,O,q,I,hf,λt ht v H' s z=>k t ht v H' s (.inl z)⟩
def fT(f:FP):FE:=λρ Q=>f ρ λr=>Q r.t
def fV(f:FE):FP:=λρ Q=>f ρ λt=>Q (.vw t)
def fX(f:FP):FX:=λρ Q=>f ρ λr=>Q ρ r
theorem VP.ve{f:FP}(h:VP X Z e f):VE X Z e (fT f):=.mk λtm=>PE.weak (h tm) λσ H Q ⟨ρ,O,q,I,hf,k⟩=>⟨ρ,O,λr=>q r.t,I,hf,λr hr v H' s z=>k r.t hr v H' s z.at⟩
theorem VP.vr{f:FP}(h:VP X Z e f):VR X Z e (fT f):=h.ve.vr
theorem VP.vx{f:FP}(h:VP X Z e f):VX X Z e (fX f):=.mk λtm=>PE.weak (h tm) λσ H Q ⟨ρ,O,q,I,hf,k⟩=>⟨ρ,O,λr=>q ρ r,I,hf,λr hr v H' s z=>k ρ r hr O v H' z⟩
theorem VE.vp{f:FE}(h:VE X Z e f):VP X Z e (fV f):=.mk λtm=>PE.weak (h tm) λσ H Q ⟨ρ,O,q,I,hf,k⟩=>⟨ρ,O,λt=>q (.vw t),I,hf,λt hr v H' s z=>k (.vw t) hr v H' s ⟨I.same s,z⟩⟩
def jR(i:Nat):FE:=λρ Q=>match ρ[i]? with
 |some (some (t,false))=>Q t
 |_=>False
def zt(i:Nat):FE:=λρ Q=>match ρ[i]? with
 |some (some (t,_))=>Q t
 |_=>False
theorem aq(i:Nat)(hN:X.N[i]?=some x:=by rfl)(hv:mZ X.env.scope x:=by first|exact Or.inl rfl|exact Or.inr (Or.inl rfl)|exact Or.inr (Or.inr rfl))(hd:jD x:=by decide)(ig:yT x:=by decide):VE X Z (.Name x pos) (jR i):=.mk λtm=>PE.weak (bX hN hv hd ig) λσ H Q ⟨ρ,O,q,I,hf,k⟩=>by
 unfold jR at hf;split at hf
 rename_i t e
 obtain⟨o,s,h1,h2,rfl,v,rfl,h3⟩:=I.sl i _ e;exact⟨v,h2,k t hf v H (aY.refl H) h3⟩;exact hf.elim
theorem aa(i:Nat)(hN:X.N[i]?=some x:=by rfl)(hv:mZ X.env.scope x:=by first|exact Or.inl rfl|exact Or.inr (Or.inl rfl)|exact Or.inr (Or.inr rfl))(hd:jD x:=by decide)(ig:yT x:=by decide):VR X Z (.Name x pos) (zt i):=.mk λtm=>PE.weak (bX hN hv hd ig) λσ H Q ⟨ρ,O,q,I,hf,k⟩=>by
 unfold zt at hf;split at hf
 rename_i t b e
 obtain⟨o,s,h1,h2,h3⟩:=I.sl i _ e;cases b with
 |false=>obtain⟨rfl,v,rfl,h3⟩:=h3;exact⟨v,h2,k t hf v H (aY.refl H) (.inl h3)⟩
 |true=>obtain⟨a,rfl,rfl,h3⟩:=h3;exact⟨_,h2,k t hf _ H (aY.refl H) (.inr ⟨a,rfl,h3⟩)⟩
 exact hf.elim
def fC(t:T):FP:=λ_ Q=>Q (.vw t)
theorem JA{t:T}(h:PE X e (tC v))(ht:∀H A,At X.K H A t v):VP X Z e (fC t):=.mk λtm=>PE.weak h λσ H Q ⟨ρ,O,q,I,hf,k⟩=>k _ hf v H (aY.refl H) ⟨I,ht _ _⟩
theorem af{i j pos}:VP X Z (.Constant (.int i) j pos) (fC (.int i)):=JA IY λ_ _=>bC
theorem rF{i j pos}:VP X Z (.Constant (.bool i) j pos) (fC (.bl i)):=JA Y2 λ_ _=>fH
theorem aG{i j pos}:VP X Z (.Constant (.str i) j pos) (fC (.str i)):=JA Tz λ_ _=>dy
theorem dA{j pos}:VP X Z (.Constant .none j pos) (fC .aP):=JA BJ λ_ _=>wY
theorem ji{t:T}(hg:Gl X x)(hm:X.mg x=some u)(r:RelV v u)(ht:∀H A,At X.K H A t v)(hd:jD x:=by decide):VP X Z (.Name x pos) (fC t):=JA (wH hg hm r hd) ht
def rG(K:qaf)(r:R2)(p:T->T->(Rt->Prop)->Prop):Prop :=
 ∀(Z:Zc)(tm:List (T×V))(O:HD)(ρ:En)(σ:St)(H:Hp)(x y:T)(v w:V)(q:Rt->Prop)(Q:VK),ay K Z tm O ρ σ H->iz K H (av Z O) x v->iz K H (av Z O) y w->p x y q ->
  (∀t,q t->∀u H',aY H H'->il K Z tm O ρ σ H' t u->Q u H')->r v w H Q
def f2(fa fb:FE)(p:T->T->(Rt->Prop)->Prop):FP:=λρ Q=>fa ρ λx=>fb ρ λy=>p x y Q
theorem two{r:R2}{fa fb:FE}{p:T->T->(Rt->Prop)->Prop}(ho:rG X.K r p){tm:List (T×V)}:∀σ H Q,lP X Z tm (f2 fa fb p) σ H Q->Ze r (lR X Z tm fa) (lR X Z tm fb) σ H Q:=λσ H Q ⟨ρ,O,q,I,hf,k⟩ =>
 ⟨ρ,O,λx=>fb ρ λy=>p x y q,I,hf,λx hx v H1 s1 a1=>⟨ρ,O,λy=>p x y q,I.same s1,hx,λy hy w H2 s2 a2=>
  ho Z tm O ρ σ H2 x y v w q Q ((I.same s1).same s2) (a1.same s2) a2 hy λt ht u H' s a=>k t ht u H' ((s1.trans s2).trans s) a⟩⟩
theorem jj{op:Operator}{r:R2}{fa fb:FE}{p:T->T->(Rt->Prop)->Prop}(h:gH X (binaryOp op) r)(ho:rG X.K r p)(ha:VR X Z a fa)(hb:VR X Z b fb):VP X Z (.BinOp a op b pos) (f2 fa fb p) :=
 .mk λtm=>PE.weak (RP h (ha tm) (hb tm)) (two ho)
theorem JB{op:CmpOp}{r:R2}{fa fb:FE}{p:T->T->(Rt->Prop)->Prop}(h:gH X (compareOp op) r)(ho:rG X.K r p)(ha:VR X Z a fa)(hb:VR X Z b fb)(hm:behindInMarks op b=false):VP X Z (.Compare a [op] [b] pos) (f2 fa fb p) :=
 .mk λtm=>PE.weak (Oj h (ha tm) (hb tm) hm) (two ho)
def oA(f:FP):FB:=λρ Q=>f ρ λr=>match r with
 |.vw (.bl c)=>Q c
 |_=>False
theorem B_{r:Rt}{Q:Bool->Prop}(h:match r with | .vw (.bl c)=>Q c|_=>False):∃c,r=.vw (.bl c)/\Q c:=by split at h;exact⟨_,rfl,h⟩;exact h.elim
theorem jk{op:CmpOp}{r:R2}{fa fb:FE}{p:T->T->(Rt->Prop)->Prop}(h:gH X (compareOp op) r)(ho:rG X.K r p)(ha:VR X Z a fa)(hb:VR X Z b fb)(hm:behindInMarks op b=false):VC X Z (.Compare a [op] [b] pos) (oA (f2 fa fb p)) :=
 .mk λtm=>PT.weak (Ol h (ha tm) (hb tm) hm) λσ H Q ⟨ρ,O,q,I,hf,k⟩=>two ho σ H _ ⟨ρ,O,_,I,hf,λt ht u H' s a=>by obtain⟨c,rfl,hc⟩:=B_ ht;have e:=a.2;simp only[At] at e;exact⟨c,e,k c hc H' s⟩⟩
theorem gv{f:FP}(h:VP X Z e f)(he:∀whole,isTrue e X.env whole=(do let v <- whole;standAt e.pos;holding [v] (truthy v)):=by intro _;rfl):VC X Z e (oA f) :=
 .mk λtm=>PT.weak (TB (h tm) he) λσ H Q ⟨ρ,O,q,I,hf,k⟩=>⟨ρ,O,_,I,hf,λt ht u H' s a=>by obtain⟨c,rfl,hc⟩:=B_ ht;have e:=a.2;simp only[At] at e;exact⟨c,e,k c hc H' s⟩⟩
def afG(f g:FB):FB:=λρ Q=>f ρ λc=>if c=true then g ρ Q else Q false
def fOr(f g:FB):FB:=λρ Q=>f ρ λc=>if c=true then Q true else g ρ Q
def ZS(f:FB):FB:=λρ Q=>f ρ λc=>Q (!c)
theorem VW.vc{f:FB}(h:VW X Z e f):VC X Z e f:=.mk λtm=>PW.pt (h tm)
theorem eX{f:FB}(h:VC X Z a f):VW X Z (.BoolOp .And [a] pos) f:=.mk λtm=>pw_and1 (h tm)
theorem rH{f:FB}(h:VC X Z a f):VW X Z (.BoolOp .Or [a] pos) f:=.mk λtm=>pw_or1 (h tm)
theorem fN{rest:qap}{f g:FB}(h:VC X Z a f)(h':VW X Z (.BoolOp .And (b::rest) pos) g):VW X Z (.BoolOp .And (a::b::rest) pos) (afG f g) :=
 .mk λtm=>PW.weak (pw_and (h tm) (h' tm)) λσ H Q ⟨ρ,O,q,I,hf,k⟩=>⟨ρ,O,_,I,hf,λc hc H1 s1=>by
  cases c with
  |true=>rw[if_pos rfl] at hc ⊢;exact⟨ρ,O,q,I.same s1,hc,λb hb H' s=>k b hb H' (s1.trans s)⟩
  |false=>rw[if_neg jb] at hc ⊢;exact k false hc H1 s1⟩
theorem rJ{rest:qap}{f g:FB}(h:VC X Z a f)(h':VW X Z (.BoolOp .Or (b::rest) pos) g):VW X Z (.BoolOp .Or (a::b::rest) pos) (fOr f g) :=
 .mk λtm=>PW.weak (pw_or (h tm) (h' tm)) λσ H Q ⟨ρ,O,q,I,hf,k⟩=>⟨ρ,O,_,I,hf,λc hc H1 s1=>by
  cases c with
  |true=>rw[if_pos rfl] at hc ⊢;exact k true hc H1 s1
  |false=>rw[if_neg jb] at hc ⊢;exact⟨ρ,O,q,I.same s1,hc,λb hb H' s=>k b hb H' (s1.trans s)⟩⟩
theorem iM{f:FB}(h:VC X Z a f):VC X Z (.UnaryOp .Not a pos) (ZS f) :=
 .mk λtm=>PT.weak (TC (h tm)) λσ H Q ⟨ρ,O,q,I,hf,k⟩=>⟨ρ,O,_,I,hf,λc hc H1 s1=>k _ hc H1 s1⟩
def JC(f g:FP):FP:=λρ Q=>f ρ λr=>match r with
 |.vw (.bl true)=>g ρ Q
 |.vw (.bl false)=>Q (.vw (.bl false))
 |_=>False
theorem wZ{op}{f:FP}(h:VP X Z a f):VP X Z (.BoolOp op [a] pos) f:=.mk λtm=>TF (h tm)
theorem rK{rest:qap}{f g:FP}(h:VP X Z a f)(h':VP X Z (.BoolOp .And (b::rest) pos) g):VP X Z (.BoolOp .And (a::b::rest) pos) (JC f g) :=
 .mk λtm=>PE.weak (TH (h tm) (h' tm)) λσ H Q ⟨ρ,O,q,I,hf,k⟩=>⟨ρ,O,_,I,hf,λr hr v H1 s1 z=>by split at hr;have e:=z.2;simp only[At] at e;exact⟨true,e,by rw[if_pos rfl];exact⟨ρ,O,q,I.same s1,hr,λb hb v H' s=>k b hb v H' (s1.trans s)⟩⟩;have e:=z.2;simp only[At] at e;exact⟨false,e,by rw[if_neg jb];exact k _ hr _ H1 s1 ⟨I.same s1,fH⟩⟩;exact hr.elim⟩
def fIf(c:FB)(f g:FP):FP:=λρ Q=>c ρ λb=>if b=true then f ρ Q else g ρ Q
theorem jI{fc:FB}{f g:FP}(hc:VC X Z c fc)(h:VP X Z a f)(h':VP X Z b g):VP X Z (.IfExp c a b pos) (fIf fc f g) :=
 .mk λtm=>PE.weak (I9 (hc tm) (h tm) (h' tm)) λσ H Q ⟨ρ,O,q,I,hf,k⟩=>⟨ρ,O,_,I,hf,λc hc H1 s1=>by
  cases c with
  |true=>rw[if_pos rfl] at hc ⊢;exact⟨ρ,O,q,I.same s1,hc,λb hb v H' s=>k b hb v H' (s1.trans s)⟩
  |false=>rw[if_neg jb] at hc ⊢;exact⟨ρ,O,q,I.same s1,hc,λb hb v H' s=>k b hb v H' (s1.trans s)⟩⟩
def qk:FA:=λ_ Q=>Q []
def eB(f:FE)(g:FA):FA:=λρ Q=>f ρ λt=>g ρ λts=>Q (t::ts)
theorem ar:VA X Z [] qk:=.mk λtm=>PA.weak c6 λσ H Q ⟨ρ,O,q,I,hf,k⟩=>k _ hf [] H (aY.refl H) aB.nil
theorem ae{f:FE}{g:FA}(h:VE X Z e f)(h':VA X Z es g)(hs:starEach (e::es) X.env=(false,eval e X.env)::starEach es X.env:=by rfl):VA X Z (e::es) (eB f g) :=
 .mk λtm=>PA.weak (bD (h tm) (h' tm) hs) λσ H Q ⟨ρ,O,q,I,hf,k⟩=>⟨ρ,O,_,I,hf,λt ht v H1 s1 a1=>⟨ρ,O,_,I.same s1,ht,λts gw vs H2 s2 a2=>k _ gw _ H2 (s1.trans s2) (aB.cons (a1.same s2) a2)⟩⟩
theorem aK:Uq X Z [] qk:=.mk λtm=>PA.weak c6 λσ H Q ⟨ρ,O,q,I,hf,k⟩=>k _ hf [] H (aY.refl H) .nil
theorem aA{f:FE}{g:FA}(h:VR X Z e f)(h':Uq X Z es g)(hs:starEach (e::es) X.env=(false,eval e X.env)::starEach es X.env:=by rfl):Uq X Z (e::es) (eB f g) :=
 .mk λtm=>PA.weak (bD (h tm) (h' tm) hs) λσ H Q ⟨ρ,O,q,I,hf,k⟩=>⟨ρ,O,_,I,hf,λt ht v H1 s1 a1=>⟨ρ,O,_,I.same s1,ht,λts gw vs H2 s2 a2=>k _ gw _ H2 (s1.trans s2) (.cons (a1.same s2) a2)⟩⟩
def ZT(g:FA):FP:=λρ Q=>g ρ λts=>ts.length<=sizeLine/\Q (.vw (.tup ts))
def afH(g:FA):FP:=λρ Q=>g ρ λts=>ts.length<=sizeLine/\Q (.fr (.lst ts))
theorem br{g:FA}{x1}(h:VA X Z es g):VP X Z (.Tuple es x1 pos) (ZT g) :=
 .mk λtm=>PE.weak (BZ (h tm)) λσ H Q ⟨ρ,O,q,I,hf,k⟩=>⟨ρ,O,_,I,hf,λts gw vs H1 s1 a1=>⟨by rw[a1.length];exact gw.1,λp hp=>k _ gw.2 _ _ (s1.trans (aJ hp)) ⟨(I.same s1).same (aJ hp),cA (fM.of aH) (a1.same (aJ hp))⟩⟩⟩
theorem c7{g:FA}(h:VA X Z es g):VP X Z (.List es pos) (afH g) :=
 .mk λtm=>PE.weak (B0 (h tm)) λσ H Q ⟨ρ,O,q,I,hf,k⟩=>⟨ρ,O,_,I,hf,λts gw vs H1 s1 a1=>⟨by rw[a1.length];exact gw.1,λp hp=>k _ gw.2 _ _ (s1.trans (aJ hp)) ((I.same s1).Gm hp a1)⟩⟩
end
mutual
def eqT:T->T->Bool
 |.aP,.aP=>true
 |.bl a,.bl b=>a==b
 |.bl a,.int b=>(if a then 1 else 0)==b
 |.int a,.bl b=>a==(if b then 1 else 0)
 |.int a,.int b=>a==b
 |.str a,.str b=>a==b
 |.tup a,.tup b=>gM a b
 |.lst a,.lst b=>gM a b
 |_,_=>false
def gM:List T->List T->Bool
 |[],[]=>true
 |a::as,b::bs=>eqT a b && gM as bs
 |_,_=>false
end
mutual
def plainT:T->Bool
 |.tup l=>bH l
 |.lst l=>bH l
 |.dk _ _=>false
 |.dt _ _=>false
 |.df _ _ _=>false
 |.dz _ _ _=>false
 |.dc _ _ _=>false
 |.kt _=>false
 |.ins _ _ _=>false
 |.pin _ _=>false
 |.ob _=>false
 |.ty _=>false
 |_=>true
def bH:List T->Bool
 |[]=>true
 |t::ts=>plainT t && bH ts
end
mutual
def dep:T->Nat
 |.tup l=>gx l+1
 |.lst l=>gx l+1
 |_=>0
def gx:List T->Nat
 |[]=>0
 |t::ts=>max (dep t) (gx ts)
end
mutual
theorem eO:∀(t:T),plainT t=true->eqT t t=true
 |.aP,_=>by simp[eqT]
 |.bl _,_=>by simp[eqT]
 |.int _,_=>by simp[eqT]
 |.str _,_=>by simp[eqT]
 |.tup l,h=>by simp only[plainT] at h;simp only[eqT];exact oB l h
 |.lst l,h=>by simp only[plainT] at h;simp only[eqT];exact oB l h
 |.dk _ _,h=>by simp only[plainT] at h;cases h
 |.dt _ _,h=>by simp only[plainT] at h;cases h
 |.df _ _ _,h=>by simp only[plainT] at h;cases h
 |.dz _ _ _,h=>by simp only[plainT] at h;cases h
 |.dc _ _ _,h=>by simp only[plainT] at h;cases h
 |.kt _,h=>by simp only[plainT] at h;cases h
 |.ins _ _ _,h=>by simp only[plainT] at h;cases h
 |.pin _ _,h=>by simp only[plainT] at h;cases h
 |.ob _,h=>by simp only[plainT] at h;cases h
 |.ty _,h=>by simp only[plainT] at h;cases h
theorem oB:∀(t:List T),bH t=true->gM t t=true
 |[],_=>by simp[gM]
 |t::ts,h=>by simp only[bH,m9] at h;simp only[gM,m9];exact⟨eO t h.1,oB ts h.2⟩
end
theorem j1:∀{a b:List T},gM a b=true->a.length=b.length
 |[],[],_=>rfl
 |a::as,b::bs,h=>by simp only[gM,m9] at h;simp[j1 h.2]
 |[],_::_,h=>by simp[gM] at h
 |_::_,[],h=>by simp[gM] at h
theorem j2:∀{a b:List T},a.length=b.length->gM a b=(List.range a.length).all λj=>match a[j]?,b[j]? with
  |some x,some y=>eqT x y
  |_,_=>true
 |[],[],_=>by simp[gM]
 |a::as,b::bs,h=>by have ih:=j2 (a:=as) (b:=bs) (by simpa using h);simp only[gM];rw[ih,y4,List.range_succ_eq_map,List.all_cons,List.all_map];rfl
 |[],_::_,h=>by simp at h
 |_::_,[],h=>by simp at h
theorem rM:∀{a b:List T},gM a b=((List.range (min a.length b.length)).all (λj=>match a[j]?,b[j]? with
  |some x,some y=>eqT x y
  |_,_=>true) && a.length==b.length)
 |a,b=>by
   by_cases h:a.length=b.length;rw[j2 h,h,RJ];simp;have e:(a.length==b.length)=false:=by simpa using h
   rw[e,Bool.and_false];cases q:gM a b with
   |false=>rfl
   |true=>exact absurd (j1 q) h
section
variable{s:Shared}{O O':qah}
theorem zu(I:Inv X pins σ H s){ys:qak}(h:iV X.K H a xs)(h':fM X.K H a ys):False:=by
 obtain⟨a4,_,p,_⟩:=I.list h;obtain⟨ij,_,p2,_⟩:=I.tuple h';obtain⟨o,n,e,c,_⟩:=p;obtain⟨o2,e2,c2,_⟩:=p2;rw[e] at e2;cases e2;rw[c] at c2;injection c2 with c2
 exact absurd c2 (by decide)
mutual
theorem At.inj(I:Inv X pins σ H s):∀{t u:T}{v:V},plainT t=true->plainT u=true->At X.K H O t v->At X.K H O' u v->t=u
 |.aP,u,v,_,pu,h,h'=>by simp only[At] at h;subst h;cases u<;>simp only[At] at h'<;>first|rfl|(simp only[plainT] at pu;cases pu;done)|(obtain⟨_,_,e,_⟩:=h';cases e)|(cases h';done)
 |.bl b,u,v,_,pu,h,h'=>by simp only[At] at h;subst h;cases u<;>simp only[At] at h'<;>first|(simp only[plainT] at pu;cases pu;done)|(obtain⟨_,_,e,_⟩:=h';cases e;done)|(cases h';rfl)|(cases h';done)
 |.int b,u,v,_,pu,h,h'=>by simp only[At] at h;subst h;cases u<;>simp only[At] at h'<;>first|(simp only[plainT] at pu;cases pu;done)|(obtain⟨_,_,e,_⟩:=h';cases e;done)|(cases h';rfl)|(cases h';done)
 |.str b,u,v,_,pu,h,h'=>by simp only[At] at h;subst h;cases u<;>simp only[At] at h'<;>first|(simp only[plainT] at pu;cases pu;done)|(obtain⟨_,_,e,_⟩:=h';cases e;done)|(cases h';rfl)|(cases h';done)
 |.dk _ _,_,_,p,_,_,_=>by simp only[plainT] at p;cases p
 |.dt _ _,_,_,p,_,_,_=>by simp only[plainT] at p;cases p
 |.df _ _ _,_,_,p,_,_,_=>by simp only[plainT] at p;cases p
 |.dz _ _ _,_,_,p,_,_,_=>by simp only[plainT] at p;cases p
 |.dc _ _ _,_,_,p,_,_,_=>by simp only[plainT] at p;cases p
 |.kt _,_,_,p,_,_,_=>by simp only[plainT] at p;cases p
 |.ins _ _ _,_,_,p,_,_,_=>by simp only[plainT] at p;cases p
 |.pin _ _,_,_,p,_,_,_=>by simp only[plainT] at p;cases p
 |.ob _,_,_,p,_,_,_=>by simp only[plainT] at p;cases p
 |.ty _,_,_,p,_,_,_=>by simp only[plainT] at p;cases p
 |.tup ts,u,v,p,pu,h,h'=>by
  simp only[At] at h;obtain⟨a,vs,rfl,h1,h2⟩:=h;cases u with
  |tup us=>simp only[At] at h';obtain⟨b,ws,e,g1,g2⟩:=h';cases e;cases I.om h1 g1;simp only[plainT] at p pu;rw[aB.inj I p pu h2 g2]
  |lst us=>simp only[At] at h';obtain⟨b,ws,e,g1,g2⟩:=h';cases e;exact (zu I g1.sq h1).elim
  |dk _ _=>simp only[plainT] at pu;cases pu
  |dt _ _=>simp only[plainT] at pu;cases pu
  |df _ _ _=>simp only[plainT] at pu;cases pu
  |dz _ _ _=>simp only[plainT] at pu;cases pu
  |dc _ _ _=>simp only[plainT] at pu;cases pu
  |kt _=>simp only[plainT] at pu;cases pu
  |ins _ _ _=>simp only[plainT] at pu;cases pu
  |pin _ _=>simp only[plainT] at pu;cases pu
  |ob _=>simp only[plainT] at pu;cases pu
  |ty _=>simp only[plainT] at pu;cases pu
  |_=>simp only[At] at h';cases h'
 |.lst ts,u,v,p,pu,h,h'=>by
  simp only[At] at h;obtain⟨a,vs,rfl,h1,h2⟩:=h;cases u with
  |lst us=>simp only[At] at h';obtain⟨b,ws,e,g1,g2⟩:=h';cases e;cases I.qW h1.sq g1.sq;simp only[plainT] at p pu;rw[aB.inj I p pu h2 g2]
  |tup us=>simp only[At] at h';obtain⟨b,ws,e,g1,g2⟩:=h';cases e;exact (zu I h1.sq g1).elim
  |dk _ _=>simp only[plainT] at pu;cases pu
  |dt _ _=>simp only[plainT] at pu;cases pu
  |df _ _ _=>simp only[plainT] at pu;cases pu
  |dz _ _ _=>simp only[plainT] at pu;cases pu
  |dc _ _ _=>simp only[plainT] at pu;cases pu
  |kt _=>simp only[plainT] at pu;cases pu
  |ins _ _ _=>simp only[plainT] at pu;cases pu
  |pin _ _=>simp only[plainT] at pu;cases pu
  |ob _=>simp only[plainT] at pu;cases pu
  |ty _=>simp only[plainT] at pu;cases pu
  |_=>simp only[At] at h';cases h'
theorem aB.inj(I:Inv X pins σ H s):∀{ts us:List T}{vs:qak},bH ts=true->bH us=true->aB X.K H O ts vs->aB X.K H O' us vs->ts=us
 |[],[],_,_,_,_,_=>rfl
 |[],_::_,_,_,_,h,h'=>by simp only[aB] at h h';subst h;obtain⟨_,_,e,_⟩:=h';cases e
 |_::_,[],_,_,_,h,h'=>by simp only[aB] at h h';subst h';obtain⟨_,_,e,_⟩:=h;cases e
 |t::ts,u::us,_,p,pu,h,h'=>by simp only[aB] at h h';simp only[bH,m9] at p pu;obtain⟨v,r,rfl,h1,h2⟩:=h;obtain⟨v',r',e,g1,g2⟩:=h';cases e;rw[At.inj I p.1 pu.1 h1 g1,aB.inj I p.2 pu.2 h2 g2]
end
theorem jl:∀{ts:List T}{j:Nat}{x:T},ts[j]?=some x->dep x<=gx ts
 |[],_,_,h=>by simp at h
 |t::ts,0,x,h=>by simp at h;subst h;simp only[gx];omega
 |t::ts,j+1,x,h=>by have:=jl (ts:=ts) (j:=j) (x:=x) (by simpa using h);simp only[gx];omega
theorem bR:∀{ts:List T}{j:Nat}{x:T},bH ts=true->ts[j]?=some x->plainT x=true
 |[],_,_,_,h=>by simp at h
 |t::ts,0,x,p,h=>by simp at h;subst h;simp only[bH,m9] at p;exact p.1
 |t::ts,j+1,x,p,h=>by simp only[bH,m9] at p;exact bR (ts:=ts) (j:=j) p.2 (by simpa using h)
theorem in1_units(A:Around):A.in1.units=A.units+1:=by first|rfl|simp[Around.in1,Around.units]
theorem iX(I:Inv X pins σ H s){ts us:List T}{ws:qak}{a4 ij:qag}(h1:aB X.K H O ts vs)(h2:aB X.K H O' us ws)(r1:Vals vs a4)(r2:Vals ws ij)(key:∀(j:Nat) x y v w u u',ts[j]?=some x->us[j]?=some y->At X.K H O x v->At X.K H O' y w->RelV v u->RelV w u'->SeqAt.EqAt A s u u' (eqT x y)) :
  ∀(j:Nat)(g1:j<a4.toArray.size)(g2:j<ij.toArray.size),SeqAt.EqAt A s a4.toArray[j] ij.toArray[j] (match ts[j]?,us[j]? with
   |some x,some y=>eqT x y
   |_,_=>true):=λj g1 g2=>by
 have l1:=h1.length;have l2:=h2.length;have m1:=r1.length;have m2:=r2.length;simp only[iU] at g1 g2;have e1:ts[j]?=some (ts[j]'(by omega)):=by simp
 have e2:us[j]?=some (us[j]'(by omega)):=by simp
 obtain⟨v,a1,a2⟩:=h1.get e1;obtain⟨w,b1,b2⟩:=h2.get e2;obtain⟨u,c1,c2⟩:=r1.get a1;obtain⟨u',d1,d2⟩:=r2.get b1;have f1:a4.toArray[j]=u:=by rw[lT (by omega)] at c1;simpa using c1
 have f2:ij.toArray[j]=u':=by rw[lT (by omega)] at d1;simpa using d1
 rw[f1,f2,e1,e2];exact key j _ _ v w u u' e1 e2 a2 b2 c2 d2
theorem gU{O:qah}(I:Inv X pins σ H s){u:T}{w:V}{b:Value}(pu:plainT u=true)(hw:At X.K H O u w)(r:RelV w b):(u=.aP/\b=.none)\/(∃c,u=.bl c/\b=.bool c)\/(∃c t,u=.int c/\b=.int c t)\/(∃c t,u=.str c/\b=.str c t)\/(∃l p xs,u=.tup l/\b=.ref p/\s.heap.IsTuple p xs)\/∃l p xs,u=.lst l/\b=.ref p/\s.heap.IsList p xs:=by
 cases u with
 |tup l=>simp only[At] at hw;obtain⟨p,ws,rfl,q,_⟩:=hw;cases r;obtain⟨_,_,p1,_⟩:=I.tuple q;exact .inr (.inr (.inr (.inr (.inl ⟨l,p,_,rfl,rfl,p1⟩))))
 |lst l=>simp only[At] at hw;obtain⟨p,ws,rfl,q,_⟩:=hw;cases r;obtain⟨_,_,p1,_⟩:=I.list q.sq;exact .inr (.inr (.inr (.inr (.inr ⟨l,p,_,rfl,rfl,p1.isList⟩))))
 |aP=>simp only[At] at hw;subst hw;cases r;exact .inl ⟨rfl,rfl⟩
 |bl c=>simp only[At] at hw;subst hw;cases r;exact .inr (.inl ⟨c,rfl,rfl⟩)
 |int c=>simp only[At] at hw;subst hw;obtain⟨t,rfl⟩:=r;exact .inr (.inr (.inl ⟨c,t,rfl,rfl⟩))
 |str c=>simp only[At] at hw;subst hw;obtain⟨t,rfl⟩:=r;exact .inr (.inr (.inr (.inl ⟨c,t,rfl,rfl⟩)))
 |_=>simp only[plainT] at pu;cases pu
theorem w_(I:Inv X pins σ H s):∀(n:Nat)(t u:T)(v w:V)(a b:Value)(A:Around),dep t<=n->A.units+n<cLine->plainT t=true->plainT u=true->At X.K H O t v->At X.K H O' u w->RelV v a->RelV w b->SeqAt.EqAt A s a b (eqT t u):=by
 intro n;induction n with
 |zero=>
  intro t u v w a b A hd hu pt pu ht hw rv rw';have dQ:A.units<cLine:=by omega
  rcases gU I pt ht rv with⟨rfl,rfl⟩|⟨d,rfl,rfl⟩|⟨d,t',rfl,rfl⟩|⟨d,t',rfl,rfl⟩|⟨l,p,xs,rfl,_⟩|⟨l,p,xs,rfl,_⟩
  rcases gU I pu hw rw' with⟨rfl,rfl⟩|⟨c,rfl,rfl⟩|⟨c,t,rfl,rfl⟩|⟨c,t,rfl,rfl⟩|⟨l,p,xs,rfl,rfl,h⟩|⟨l,p,xs,rfl,rfl,h⟩<;>simp only[eqT]
  exact SeqAt.EqAt.same _;exact SeqAt.EqAt.none_bool c;exact SeqAt.EqAt.none_int c t;exact SeqAt.EqAt.none_str c t;exact SeqAt.EqAt.none_tuple h dQ;exact SeqAt.EqAt.none_list h dQ;rcases gU I pu hw rw' with⟨rfl,rfl⟩|⟨c,rfl,rfl⟩|⟨c,t,rfl,rfl⟩|⟨c,t,rfl,rfl⟩|⟨l,p,xs,rfl,rfl,h⟩|⟨l,p,xs,rfl,rfl,h⟩<;>simp only[eqT]
  exact SeqAt.EqAt.bool_none d;exact SeqAt.EqAt.bool_bool d c;exact SeqAt.EqAt.bool_int d c t;exact SeqAt.EqAt.bool_str d c t;exact SeqAt.EqAt.bool_tuple d h dQ;exact SeqAt.EqAt.bool_list d h dQ;rcases gU I pu hw rw' with⟨rfl,rfl⟩|⟨c,rfl,rfl⟩|⟨c,t,rfl,rfl⟩|⟨c,t,rfl,rfl⟩|⟨l,p,xs,rfl,rfl,h⟩|⟨l,p,xs,rfl,rfl,h⟩<;>simp only[eqT]
  exact SeqAt.EqAt.int_none d t';exact SeqAt.EqAt.int_bool d t' c;exact SeqAt.EqAt.int_int d t' c t;exact SeqAt.EqAt.int_str d t' c t;exact SeqAt.EqAt.int_tuple d t' h dQ;exact SeqAt.EqAt.int_list d t' h dQ;rcases gU I pu hw rw' with⟨rfl,rfl⟩|⟨c,rfl,rfl⟩|⟨c,t,rfl,rfl⟩|⟨c,t,rfl,rfl⟩|⟨l,p,xs,rfl,rfl,h⟩|⟨l,p,xs,rfl,rfl,h⟩<;>simp only[eqT]
  exact SeqAt.EqAt.str_none d t';exact SeqAt.EqAt.str_bool d t' c;exact SeqAt.EqAt.str_int d t' c t;exact SeqAt.EqAt.str_str d t' c t;exact SeqAt.EqAt.str_tuple d t' h dQ;exact SeqAt.EqAt.str_list d t' h dQ;simp only[dep] at hd;omega;simp only[dep] at hd;omega
 |succ n ih=>
  intro t u v w a b A hd hu pt pu ht hw rv rw';by_cases h0:dep t<=n;exact ih t u v w a b A h0 (by omega) pt pu ht hw rv rw'
  . have dQ:A.units<cLine:=by omega
    have ua:A.in1.units+n<cLine:=by rw[in1_units];omega
    cases t with
    |tup l=>
     simp only[plainT] at pt;simp only[dep] at hd;have ht0:=ht;simp only[At] at ht;obtain⟨p,vs,rfl,h1,h2⟩:=ht;cases rv;obtain⟨a4,r1,p1,_⟩:=I.tuple h1;cases u with
     |tup l'=>have hw0:=hw;simp only[At] at hw;obtain⟨p',ws,rfl,g1,g2⟩:=hw;cases rw';simp only[plainT] at pu;by_cases e:p=p';subst e;have:=At.inj I (t:=.tup l) (u:=.tup l') (by simp only[plainT];exact pt) (by simp only[plainT];exact pu) ht0 hw0;rw[<- this,eO _ (by simp only[plainT];exact pt)];exact SeqAt.EqAt.same _;obtain⟨ij,r2,p2,_⟩:=I.tuple g1;refine SeqAt.EqAt.of_refs e ?_;have:=SeqAt.RcAt.tuples (A:=A) p1 p2 dQ (iX I h2 g2 r1 r2 λj x y v w u u' e1 e2 a1 a2 b1 b2=>ih x y v w u u' A.in1 (mX (jl e1) (by omega)) ua (bR pt e1) (bR pu e2) a1 a2 b1 b2);simp only[eqT];rw[rM];have e1:=r1.length;have e2:=r2.length;have e3:=h2.length;have e4:=g2.length;simp only[iU] at this;rw[<- e1,<- e2,e3,e4] at this;exact this
     |_=>
      rcases gU I pu hw rw' with⟨e,rfl⟩|⟨c,e,rfl⟩|⟨c,t,e,rfl⟩|⟨c,t,e,rfl⟩|⟨l,p,xs,e,rfl,h⟩|⟨l,p,xs,e,rfl,h⟩<;>cases e<;>simp only[eqT]
      all_goals first|exact SeqAt.EqAt.tuple_none p1 dQ|exact SeqAt.EqAt.tuple_bool _ p1 dQ|exact SeqAt.EqAt.tuple_int _ _ p1 dQ|exact SeqAt.EqAt.tuple_str _ _ p1 dQ|exact SeqAt.EqAt.tuple_list p1 (by assumption) dQ
    |lst l=>
     simp only[plainT] at pt;simp only[dep] at hd;have ht0:=ht;simp only[At] at ht;obtain⟨p,vs,rfl,h1,h2⟩:=ht;cases rv;obtain⟨a4,r1,p1,_⟩:=I.list h1.sq;cases u with
     |lst l'=>
      have hw0:=hw;simp only[At] at hw;obtain⟨p',ws,rfl,g1,g2⟩:=hw;cases rw';simp only[plainT] at pu;by_cases e:p=p';subst e;have:=At.inj I (t:=.lst l) (u:=.lst l') (by simp only[plainT];exact pt) (by simp only[plainT];exact pu) ht0 hw0;rw[<- this,eO _ (by simp only[plainT];exact pt)];exact SeqAt.EqAt.same _;obtain⟨ij,r2,p2,_⟩:=I.list g1.sq;refine SeqAt.EqAt.of_refs e ?_;have e1:=r1.length;have e2:=r2.length;have e3:=h2.length;have e4:=g2.length;by_cases hl:l.length=l'.length;have:=SeqAt.RcAt.lists (A:=A) p1.isList p2.isList (by simp only[iU];omega) dQ (iX I h2 g2 r1 r2 λj x y v w u u' e1 e2 a1 a2 b1 b2=>ih x y v w u u' A.in1 (mX (jl e1) (by omega)) ua (bR pt e1) (bR pu e2) a1 a2 b1 b2);simp only[eqT];rw[j2 hl];simp only[iU] at this;rw[<- e1,e3] at this;exact this;simp only[eqT];have:gM l l'=false:=by
       cases q:gM l l' with
       |false=>rfl
       |true=>exact absurd (j1 q) hl
      rw[this];exact SeqAt.RcAt.lists_lengths p1.isList p2.isList (by simp only[iU];rw[bne_iff_ne];omega) dQ
     |_=>
      rcases gU I pu hw rw' with⟨e,rfl⟩|⟨c,e,rfl⟩|⟨c,t,e,rfl⟩|⟨c,t,e,rfl⟩|⟨l,p,xs,e,rfl,h⟩|⟨l,p,xs,e,rfl,h⟩<;>cases e<;>simp only[eqT]
      all_goals first|exact SeqAt.EqAt.list_none p1.isList dQ|exact SeqAt.EqAt.list_bool _ p1.isList dQ|exact SeqAt.EqAt.list_int _ _ p1.isList dQ|exact SeqAt.EqAt.list_str _ _ p1.isList dQ|exact SeqAt.EqAt.list_tuple p1.isList (by assumption) dQ
    |_=>exact absurd (jU n) h0
end
section
variable{s:Shared}{O O':qah}
theorem Ur(I:Inv X pins σ H s)(t u:T)(v w:V)(a b:Value)(A:Around)(hd:dep t<=100)(hu:A.units+101<cLine)(pt:plainT t=true)(pu:plainT u=true)(ht:At X.K H O t v)(hw:At X.K H O' u w)(rv:RelV v a)(rw':RelV w b):SeqAt.RcAt A s a b (eqT t u):=by
 have dQ:A.units<cLine:=by omega
 have ua:A.in1.units+100<cLine:=by rw[in1_units];omega
 rcases gU I pt ht rv with⟨rfl,rfl⟩|⟨d,rfl,rfl⟩|⟨d,_,rfl,rfl⟩|⟨d,_,rfl,rfl⟩|⟨l,p,_,rfl,rfl,h⟩|⟨l,p,_,rfl,rfl,h⟩<;>rcases gU I pu hw rw' with⟨rfl,rfl⟩|⟨c,rfl,rfl⟩|⟨c,_,rfl,rfl⟩|⟨c,_,rfl,rfl⟩|⟨l',p',_,rfl,rfl,h'⟩|⟨l',p',_,rfl,rfl,h'⟩<;>simp only[eqT]
 exact .none_none;exact .none_bool _;exact .none_int _ _;exact .none_str _ _;exact .none_tuple h' dQ;exact .none_list h' dQ;exact .bool_none _;exact .bool_bool _ _;exact .bool_int _ _ _;exact .bool_str _ _ _;exact .bool_tuple _ h' dQ;exact .bool_list _ h' dQ;exact .int_none _ _;exact .int_bool _ _ _;exact .int_int _ _ _ _;exact .int_str _ _ _ _;exact .int_tuple _ _ h' dQ;exact .int_list _ _ h' dQ;exact .str_none _ _;exact .str_bool _ _ _;exact .str_int _ _ _ _;exact .str_str _ _ _ _;exact .str_tuple _ _ h' dQ;exact .str_list _ _ h' dQ;exact .tuple_none h dQ;exact .tuple_bool _ h dQ;exact .tuple_int _ _ h dQ;exact .tuple_str _ _ h dQ;simp only[plainT] at pt pu;simp only[dep] at hd;simp only[At] at ht hw;obtain⟨_,vs,rfl,h1,h2⟩:=ht;obtain⟨_,ws,rfl,g1,g2⟩:=hw;cases rv;cases rw';have e3:=h2.length;have e4:=g2.length;obtain⟨a4,r1,p1,_⟩:=I.tuple h1;obtain⟨ij,r2,p2,_⟩:=I.tuple g1;have e1:=r1.length;have e2:=r2.length;have:=SeqAt.RcAt.tuples (A:=A) p1 p2 dQ (iX I h2 g2 r1 r2 λj x y v w u u' e1 e2 a1 a2 b1 b2=>w_ I 100 x y v w u u' A.in1 (mX (jl e1) (by omega)) ua (bR pt e1) (bR pu e2) a1 a2 b1 b2);simp only[iU] at this;rw[<- e1,<- e2,e3,e4] at this;rw[rM];exact this;exact .tuple_list h h' dQ;exact .list_none h dQ;exact .list_bool _ h dQ;exact .list_int _ _ h dQ;exact .list_str _ _ h dQ;exact .list_tuple h h' dQ;simp only[plainT] at pt pu;simp only[dep] at hd;simp only[At] at ht hw;obtain⟨_,vs,rfl,h1,h2⟩:=ht;obtain⟨_,ws,rfl,g1,g2⟩:=hw;cases rv;cases rw';have e3:=h2.length;have e4:=g2.length;obtain⟨a4,r1,p1,_⟩:=I.list h1.sq;obtain⟨ij,r2,p2,_⟩:=I.list g1.sq;have e1:=r1.length;have e2:=r2.length;by_cases hl:l.length=l'.length;have:=SeqAt.RcAt.lists (A:=A) p1.isList p2.isList (by simp only[iU];omega) dQ (iX I h2 g2 r1 r2 λj x y v w u u' e1 e2 a1 a2 b1 b2=>w_ I 100 x y v w u u' A.in1 (mX (jl e1) (by omega)) ua (bR pt e1) (bR pu e2) a1 a2 b1 b2);simp only[iU] at this;rw[<- e1,e3] at this;rw[j2 hl];exact this;have:gM l l'=false:=by
  cases q:gM l l' with
  |false=>rfl
  |true=>exact absurd (j1 q) hl
 rw[this];exact SeqAt.RcAt.lists_lengths p1.isList p2.isList (by simp only[iU];rw[bne_iff_ne];omega) dQ
theorem Us(I:Inv X pins σ H s)(t u:T)(v w:V)(a b:Value)(A:Around)(hd:dep t<=100)(hu:A.units+101<cLine)(pt:plainT t=true)(pu:plainT u=true)(ht:At X.K H O t v)(hw:At X.K H O' u w)(rv:RelV v a)(rw':RelV w b):SeqAt.RcNeAt A s a b (!eqT t u):=by
 have dQ:A.units<cLine:=by omega
 have ua:A.in1.units+100<cLine:=by rw[in1_units];omega
 rcases gU I pt ht rv with⟨rfl,rfl⟩|⟨d,rfl,rfl⟩|⟨d,_,rfl,rfl⟩|⟨d,_,rfl,rfl⟩|⟨l,p,_,rfl,rfl,h⟩|⟨l,p,_,rfl,rfl,h⟩<;>rcases gU I pu hw rw' with⟨rfl,rfl⟩|⟨c,rfl,rfl⟩|⟨c,_,rfl,rfl⟩|⟨c,_,rfl,rfl⟩|⟨l',p',_,rfl,rfl,h'⟩|⟨l',p',_,rfl,rfl,h'⟩<;>simp only[eqT]
 exact .none_none;exact .none_bool _;exact .none_int _ _;exact .none_str _ _;exact .none_tuple h' dQ;exact .none_list h' dQ;exact .bool_none _;exact .bool_bool _ _;exact .bool_int _ _ _;exact .bool_str _ _ _;exact .bool_tuple _ h' dQ;exact .bool_list _ h' dQ;exact .int_none _ _;exact .int_bool _ _ _;exact .int_int _ _ _ _;exact .int_str _ _ _ _;exact .int_tuple _ _ h' dQ;exact .int_list _ _ h' dQ;exact .str_none _ _;exact .str_bool _ _ _;exact .str_int _ _ _ _;exact .str_str _ _ _ _;exact .str_tuple _ _ h' dQ;exact .str_list _ _ h' dQ;exact .tuple_none h dQ;exact .tuple_bool _ h dQ;exact .tuple_int _ _ h dQ;exact .tuple_str _ _ h dQ;simp only[plainT] at pt pu;simp only[dep] at hd;simp only[At] at ht hw;obtain⟨_,vs,rfl,h1,h2⟩:=ht;obtain⟨_,ws,rfl,g1,g2⟩:=hw;cases rv;cases rw';have e3:=h2.length;have e4:=g2.length;obtain⟨a4,r1,p1,_⟩:=I.tuple h1;obtain⟨ij,r2,p2,_⟩:=I.tuple g1;have e1:=r1.length;have e2:=r2.length;have:=SeqAt.RcNeAt.tuples (A:=A) p1 p2 dQ (iX I h2 g2 r1 r2 λj x y v w u u' e1 e2 a1 a2 b1 b2=>w_ I 100 x y v w u u' A.in1 (mX (jl e1) (by omega)) ua (bR pt e1) (bR pu e2) a1 a2 b1 b2);simp only[iU] at this;rw[<- e1,<- e2,e3,e4] at this;rw[rM];exact this;exact .tuple_list h h' dQ;exact .list_none h dQ;exact .list_bool _ h dQ;exact .list_int _ _ h dQ;exact .list_str _ _ h dQ;exact .list_tuple h h' dQ;simp only[plainT] at pt pu;simp only[dep] at hd;simp only[At] at ht hw;obtain⟨_,vs,rfl,h1,h2⟩:=ht;obtain⟨_,ws,rfl,g1,g2⟩:=hw;cases rv;cases rw';have e3:=h2.length;have e4:=g2.length;obtain⟨a4,r1,p1,_⟩:=I.list h1.sq;obtain⟨ij,r2,p2,_⟩:=I.list g1.sq;have e1:=r1.length;have e2:=r2.length;by_cases hl:l.length=l'.length;have:=SeqAt.RcNeAt.lists (A:=A) p1.isList p2.isList (by simp only[iU];omega) dQ (iX I h2 g2 r1 r2 λj x y v w u u' e1 e2 a1 a2 b1 b2=>w_ I 100 x y v w u u' A.in1 (mX (jl e1) (by omega)) ua (bR pt e1) (bR pu e2) a1 a2 b1 b2);simp only[iU] at this;rw[<- e1,e3] at this;rw[j2 hl];exact this;have:gM l l'=false:=by
  cases q:gM l l' with
  |false=>rfl
  |true=>exact absurd (j1 q) hl
 rw[this];exact SeqAt.RcNeAt.lists_lengths p1.isList p2.isList (by simp only[iU];rw[bne_iff_ne];omega) dQ
theorem iz.bare{A:qah}{t:T}(h:iz K H A t v):At K H [] t v:=by
 obtain h|⟨a,rfl,h⟩:=h
 exact At.a8 (O':=[]) (λ_ z=>absurd z gD) h;exact (cW.a8 (A':=[]) h (λ_ z=>absurd z gD)).at gD
def OL(K:qaf)(neg:Bool):R2:=λx y H Q=>∃t u,At K H [] t x/\At K H [] u y/\plainT t=true/\plainT u=true/\dep t<=100/\Q (.bl (if neg then !eqT t u else eqT t u)) H
theorem JD(hu:X.A.units+101<cLine):gH X (compareOp .Eq) (OL X.K false):=by intro pins s σ H x y v u Q I rx ry ⟨t,t',h1,h2,p1,p2,d,q⟩;exact Ur I t t' x y v u X.A d hu p1 p2 h1 h2 rx ry X.prog X.w X.xe _ ⟨.bl _,H,I,rfl,q⟩
theorem Ut(hu:X.A.units+101<cLine):gH X (compareOp .NotEq) (OL X.K true):=by intro pins s σ H x y v u Q I rx ry ⟨t,t',h1,h2,p1,p2,d,q⟩;exact Us I t t' x y v u X.A d hu p1 p2 h1 h2 rx ry X.prog X.w X.xe _ ⟨.bl _,H,I,rfl,q⟩
end
def Gn(x y:T)(q:Rt->Prop):Prop:=match x,y with
 |.int i,.int j=>q (.vw (.bl (decide (i=j))))
 |.str i,.str j=>q (.vw (.bl (decide (i=j))))
 |.bl i,.bl j=>q (.vw (.bl (decide (i=j))))
 |x,y=>plainT x=true/\plainT y=true/\dep x<=100/\q (.vw (.bl (eqT x y)))
def pNe(x y:T)(q:Rt->Prop):Prop:=match x,y with
 |.int i,.int j=>q (.vw (.bl (!decide (i=j))))
 |.str i,.str j=>q (.vw (.bl (!decide (i=j))))
 |.bl i,.bl j=>q (.vw (.bl (!decide (i=j))))
 |x,y=>plainT x=true/\plainT y=true/\dep x<=100/\q (.vw (.bl (!eqT x y)))
theorem OM{x y:T}{q:Rt->Prop}(h:Gn x y q):plainT x=true/\plainT y=true/\dep x<=100/\q (.vw (.bl (eqT x y))):=by
 unfold Gn at h;split at h;exact⟨rfl,rfl,jU _,by simp only[eqT,ab3];exact h⟩;refine⟨rfl,rfl,jU _,?_⟩;have e:∀i j:Str,(i==j)=decide (i=j):=λi j=>by rw[YT];simp
 simp only[eqT,e];exact h;exact⟨rfl,rfl,jU _,by simp only[eqT,ab3];exact h⟩;exact h
theorem ON{x y:T}{q:Rt->Prop}(h:pNe x y q):plainT x=true/\plainT y=true/\dep x<=100/\q (.vw (.bl (!eqT x y))):=by
 unfold pNe at h;split at h;exact⟨rfl,rfl,jU _,by simp only[eqT,ab3];exact h⟩;refine⟨rfl,rfl,jU _,?_⟩;have e:∀i j:Str,(i==j)=decide (i=j):=λi j=>by rw[YT];simp
 simp only[eqT,e];exact h;exact⟨rfl,rfl,jU _,by simp only[eqT,ab3];exact h⟩;exact h
theorem JE:rG K (OL K false) Gn:=by intro Z tm O ρ σ H x y v w q Q I h1 h2 h k;obtain⟨p1,p2,d,h⟩:=OM h;exact⟨x,y,h1.bare,h2.bare,p1,p2,d,k _ h _ H (aY.refl H) ⟨I,by rw[if_neg jb];exact fH⟩⟩
theorem Uu:rG K (OL K true) pNe:=by intro Z tm O ρ σ H x y v w q Q I h1 h2 h k;obtain⟨p1,p2,d,h⟩:=ON h;exact⟨x,y,h1.bare,h2.bare,p1,p2,d,k _ h _ H (aY.refl H) ⟨I,by rw[if_pos rfl];exact fH⟩⟩
def pI(C:Int->Int->Prop)(g:Int->Int->Int)(x y:T)(q:Rt->Prop):Prop:=match x,y with
 |.int i,.int j=>C i j/\q (.vw (.int (g i j)))
 |_,_=>False
def Uv(g:Int->Int->Bool)(x y:T)(q:Rt->Prop):Prop:=match x,y with
 |.int i,.int j=>q (.vw (.bl (g i j)))
 |_,_=>False
def Uw(x y:T)(q:Rt->Prop):Prop:=match x,y with
 |.int i,.int j=>q (.vw (.int (i-j)))
 |_,_=>False
theorem OQ:rG K (vC λi j=>.int (i-j)) Uw:=by intro Z tm O ρ σ H x y v w q Q I h1 h2 h k;unfold Uw at h;split at h;exact⟨_,_,h1.int,h2.int,k _ h _ H (aY.refl H) ⟨I,bC⟩⟩;exact h.elim
def Ux(x y:T)(q:Rt->Prop):Prop:=match x,y with
 |.int i,.int j=>Jc i j/\q (.vw (.int (i * j)))
 |_,_=>False
theorem OR:rG K (rI Jc λi j=>.int (i * j)) Ux:=by intro Z tm O ρ σ H x y v w q Q I h1 h2 h k;unfold Ux at h;split at h;exact⟨_,_,h1.int,h2.int,h.1,k _ h.2 _ H (aY.refl H) ⟨I,bC⟩⟩;exact h.elim
def Uy(x y:T)(q:Rt->Prop):Prop:=match x,y with
 |.int i,.int j=>(0<j/\j<1073741824)/\q (.vw (.int (i / j)))
 |_,_=>False
theorem OS:rG K (rI Zg λi j=>.int (i / j)) Uy:=by intro Z tm O ρ σ H x y v w q Q I h1 h2 h k;unfold Uy at h;split at h;exact⟨_,_,h1.int,h2.int,h.1,k _ h.2 _ H (aY.refl H) ⟨I,bC⟩⟩;exact h.elim
def Uz(x y:T)(q:Rt->Prop):Prop:=match x,y with
 |.int i,.int j=>0<j/\q (.vw (.int (i % j)))
 |_,_=>False
theorem OT:rG K (rI (λ_ j=>0<j) λi j=>.int (i % j)) Uz:=by intro Z tm O ρ σ H x y v w q Q I h1 h2 h k;unfold Uz at h;split at h;exact⟨_,_,h1.int,h2.int,h.1,k _ h.2 _ H (aY.refl H) ⟨I,bC⟩⟩;exact h.elim
def UA(x y:T)(q:Rt->Prop):Prop:=match x,y with
 |.int i,.int j=>(0<=j/\j<=1000000/\i.natAbs<2 ^ 64)/\q (.vw (.int (i ^ j.toNat)))
 |_,_=>False
theorem OU:rG K (rI Zh λi j=>.int (i ^ j.toNat)) UA:=by intro Z tm O ρ σ H x y v w q Q I h1 h2 h k;unfold UA at h;split at h;exact⟨_,_,h1.int,h2.int,h.1,k _ h.2 _ H (aY.refl H) ⟨I,bC⟩⟩;exact h.elim
def pLt(x y:T)(q:Rt->Prop):Prop:=match x,y with
 |.int i,.int j=>q (.vw (.bl (decide (i<j))))
 |_,_=>False
theorem UB:rG K (vC λi j=>.bl (decide (i<j))) pLt:=by intro Z tm O ρ σ H x y v w q Q I h1 h2 h k;unfold pLt at h;split at h;exact⟨_,_,h1.int,h2.int,k _ h _ H (aY.refl H) ⟨I,fH⟩⟩;exact h.elim
def pLe(x y:T)(q:Rt->Prop):Prop:=match x,y with
 |.int i,.int j=>q (.vw (.bl (decide (i<=j))))
 |_,_=>False
theorem UC:rG K (vC λi j=>.bl (decide (i<=j))) pLe:=by intro Z tm O ρ σ H x y v w q Q I h1 h2 h k;unfold pLe at h;split at h;exact⟨_,_,h1.int,h2.int,k _ h _ H (aY.refl H) ⟨I,fH⟩⟩;exact h.elim
def pGt(x y:T)(q:Rt->Prop):Prop:=match x,y with
 |.int i,.int j=>q (.vw (.bl (decide (j<i))))
 |_,_=>False
theorem UD:rG K (vC λi j=>.bl (decide (j<i))) pGt:=by intro Z tm O ρ σ H x y v w q Q I h1 h2 h k;unfold pGt at h;split at h;exact⟨_,_,h1.int,h2.int,k _ h _ H (aY.refl H) ⟨I,fH⟩⟩;exact h.elim
def pGe(x y:T)(q:Rt->Prop):Prop:=match x,y with
 |.int i,.int j=>q (.vw (.bl (decide (j<=i))))
 |_,_=>False
theorem UE:rG K (vC λi j=>.bl (decide (j<=i))) pGe:=by intro Z tm O ρ σ H x y v w q Q I h1 h2 h k;unfold pGe at h;split at h;exact⟨_,_,h1.int,h2.int,k _ h _ H (aY.refl H) ⟨I,fH⟩⟩;exact h.elim
def RY(K:qaf):R2:=λx y H Q=>∃l b xs zs,x=.ref l/\y=.ref b/\iV K H l xs/\iV K H b zs/\xs.length+zs.length<=sizeLine/\∀p,H p=none->Q (.ref p) (upd H p (.lst (xs++zs)))
def RZ(K:qaf):R2:=λx y H Q=>∃a b xs ys,x=.ref a/\y=.ref b/\fM K H a xs/\fM K H b ys/\xs.length+ys.length<=sizeLine/\(xs=[]->Q (.ref b) H)/\(xs≠[]->ys=[]->Q (.ref a) H)/\(xs≠[]->ys≠[]->∀p,H p=none->Q (.ref p) (upd H p (.tup (xs++ys))))
section
theorem OW:gH X (binaryOp .Add) (RY X.K):=by
 intro pins s σ H x y v u Q I rx ry h;obtain⟨l,b,xs,zs,rfl,rfl,hH,hB,hz,q⟩:=h;cases rx;cases ry;obtain⟨a4,r,p1,z1⟩:=I.list hH;obtain⟨ij,r2,p2,z2⟩:=I.list hB;obtain⟨⟨cls,dd,data,sl⟩,n,ho,hc,_,hd⟩:=p1;obtain⟨⟨Zt,X9,data2,X_⟩,n2,F_,RU,_,hd2⟩:=p2;simp only at hc hd RU hd2;subst hc hd RU hd2;have l1:=r.length;have l2:=r2.length;have e:a4.toArray++ij.toArray=(a4++ij).toArray:=by simp
 refine concat_meets ⟨_,ho,rfl⟩ ⟨_,F_,rfl⟩ noFill_list_add seq_list_add PySem.F.slot_list_add PySem.F.entry_list_add (PySem.F.args_list_add_2 _ _) (list_addW l b a4.toArray ij.toArray n n2 dd X9 sl X_ (by simp only[iU];omega)) ⟨ho,F_,?_⟩;rw[e];exact⟨.ref _,_,I.ZD (t':=s.toks) (r.append r2) (by rw[pH];omega),rfl,q _ I.fresh⟩
theorem OX:gH X (binaryOp .Add) (RZ X.K):=by
 intro pins s σ H x y v u Q I rx ry h;obtain⟨a,b,xs,ys,rfl,rfl,ha,hb,hz,q0,q1,q2⟩:=h;cases rx;cases ry;obtain⟨a4,r1,p1,_⟩:=I.tuple ha;obtain⟨ij,r2,p2,_⟩:=I.tuple hb;by_cases hx:xs=[];obtain⟨⟨cls,dd,data,sl⟩,ho,hc,n,hd⟩:=id p1;obtain⟨⟨Zt,X9,data2,X_⟩,F_,RU,n2,hd2⟩:=id p2;simp only at hc hd RU hd2;subst hc hd RU hd2;exact concat_meets ⟨_,ho,rfl⟩ ⟨_,F_,rfl⟩ noFill_tuple_add seq_tuple_add acs acp (aci _ _)
  (tuple_addW0 a b a4.toArray ij.toArray n n2 dd X9 sl X_ (by simp[r1.k6.mpr hx])) ⟨ho,F_,⟨.ref b,H,I,rfl,q0 hx⟩⟩
 refine HT.Oq p1 p2 (λz=>hx (r1.k6.mp z)) (λz=>⟨.ref a,H,I,rfl,q1 hx (r2.k6.mp z)⟩) (λz=>?_) (by rw[<- r1.length,<- r2.length];exact hz);refine⟨.ref s.heap.objs.size,_,I.laid (t':=s.toks) (o:=.tup (xs++ys)) (λb ob q=>og _ q) (c_ _) ?_,rfl,q2 hx (λw=>z (r2.k6.mpr w)) _ (I.cx.fresh (c_ _))⟩;exact⟨by rw[pH];exact hz,_,r1.append r2,IsTup.new _ _⟩
end
def R0(K:qaf):R2:=λx y H Q=>vC (λi j=>.int (i+j)) x y H Q\/(λx y H Q=>∃i j,x=.str i/\y=.str j/\i.length+j.length<=sizeLine/\Q (.str (i++j)) H) x y H Q\/RY K x y H Q\/RZ K x y H Q
theorem OY:gH X (binaryOp .Add) (R0 X.K):=gH.or TX (gH.or BQ (gH.or OW OX))
def UG(x y:T)(q:Rt->Prop):Prop:=match x,y with
 |.int i,.int j=>q (.vw (.int (i+j)))
 |.str i,.str j=>i.length+j.length<=sizeLine/\q (.vw (.str (i++j)))
 |.lst a,.lst b=>a.length+b.length<=sizeLine/\q (.fr (.lst (a++b)))
 |.tup a,.tup b=>a.length+b.length<=sizeLine/\q (.vw (.tup (a++b)))
 |_,_=>False
theorem OZ:rG K (R0 K) UG:=by
 intro Z tm O ρ σ H x y v w q Q I h1 h2 h k;unfold UG at h;split at h;exact .inl ⟨_,_,h1.int,h2.int,k _ h _ H (aY.refl H) ⟨I,bC⟩⟩;exact .inr (.inl ⟨_,_,h1.str,h2.str,h.1,k _ h.2 _ H (aY.refl H) ⟨I,dy⟩⟩);obtain⟨a,vs,rfl,s1,a1⟩:=h1.lst;obtain⟨b,ws,rfl,s2,a2⟩:=h2.lst;exact .inr (.inr (.inl ⟨a,b,vs,ws,rfl,rfl,s1,s2,by rw[a1.length,a2.length];exact h.1,λp hp=>k _ h.2 _ _ (aJ hp) (I.Gm hp (a1.append a2))⟩));obtain⟨a,vs,rfl,s1,a1⟩:=h1.tup;obtain⟨b,ws,rfl,s2,a2⟩:=h2.tup;refine .inr (.inr (.inr ⟨a,b,vs,ws,rfl,rfl,s1,s2,by rw[a1.length,a2.length];exact h.1,λe=>?_,λ_ e=>?_,λ_ _ p hp=>?_⟩));subst e;have e:=a1.length
 rename_i xs ys
 have e':xs=[]:=Rz.mp e.symm;subst e';exact k _ h.2 _ H (aY.refl H) ⟨I,cA s2 a2⟩;subst e;have e:=a2.length
 rename_i xs ys _
 have e':ys=[]:=Rz.mp e.symm;subst e';exact k _ h.2 _ H (aY.refl H) ⟨I,by rw[FD];exact cA s1 a1⟩;exact k _ h.2 _ _ (aJ hp) ⟨I.same (aJ hp),cA (fM.of aH) ((a1.append a2).same (aJ hp))⟩;exact h.elim
section
variable{Z:Zc}{a:Expr}{pos:Pos}{fa fb:FE}
theorem bZ(ha:VR X Z a fa)(hb:VR X Z b fb):VP X Z (.BinOp a .Add b pos) (f2 fa fb UG):=jj OY OZ ha hb
theorem iN(ha:VR X Z a fa)(hb:VR X Z b fb):VP X Z (.BinOp a .Sub b pos) (f2 fa fb Uw):=jj TY OQ ha hb
theorem gW(ha:VR X Z a fa)(hb:VR X Z b fb):VP X Z (.BinOp a .Mult b pos) (f2 fa fb Ux):=jj TZ OR ha hb
theorem a7(ha:VR X Z a fa)(hb:VR X Z b fb):VP X Z (.BinOp a .FloorDiv b pos) (f2 fa fb Uy):=jj Oh OS ha hb
theorem bj(ha:VR X Z a fa)(hb:VR X Z b fb):VP X Z (.BinOp a .Mod b pos) (f2 fa fb Uz):=jj T1 OT ha hb
theorem j3(ha:VR X Z a fa)(hb:VR X Z b fb):VP X Z (.BinOp a .Pow b pos) (f2 fa fb UA):=jj T2 OU ha hb
def afI(f:FE):FP:=λρ Q=>f ρ λx=>match x with
 |.int i=>Q (.vw (.int (-i)))
 |_=>False
theorem lY(ha:VR X Z a fa):VP X Z (.UnaryOp .USub a pos) (afI fa):=.mk λtm=>PE.weak (RQ Jd (ha tm)) λσ H Q ⟨ρ,O,q,I,hf,k⟩=>⟨ρ,O,_,I,hf,λt ht v H1 s1 a1=>by split at ht;exact⟨_,a1.int,k _ ht _ H1 s1 ⟨I.same s1,bC⟩⟩;exact ht.elim⟩
theorem vM(hu:X.A.units+101<cLine)(ha:VR X Z a fa)(hb:VR X Z b fb):VP X Z (.Compare a [.Eq] [b] pos) (f2 fa fb Gn):=JB (JD hu) JE ha hb (jf _)
theorem bK(hu:X.A.units+101<cLine)(ha:VR X Z a fa)(hb:VR X Z b fb):VC X Z (.Compare a [.Eq] [b] pos) (oA (f2 fa fb Gn)):=jk (JD hu) JE ha hb (jf _)
theorem nz(hu:X.A.units+101<cLine)(ha:VR X Z a fa)(hb:VR X Z b fb):VC X Z (.Compare a [.NotEq] [b] pos) (oA (f2 fa fb pNe)):=jk (Ut hu) Uu ha hb (jf _)
theorem pP(ha:VR X Z a fa)(hb:VR X Z b fb):VC X Z (.Compare a [.Lt] [b] pos) (oA (f2 fa fb pLt)):=jk Zi UB ha hb (jf _)
theorem ZU(ha:VR X Z a fa)(hb:VR X Z b fb):VC X Z (.Compare a [.LtE] [b] pos) (oA (f2 fa fb pLe)):=jk zg UC ha hb (jf _)
theorem JF(ha:VR X Z a fa)(hb:VR X Z b fb):VC X Z (.Compare a [.Gt] [b] pos) (oA (f2 fa fb pGt)):=jk Zj UD ha hb (jf _)
theorem ZV(ha:VR X Z a fa)(hb:VR X Z b fb):VC X Z (.Compare a [.GtE] [b] pos) (oA (f2 fa fb pGe)):=jk Zk UE ha hb (jf _)
def f3(fa fb fc:FE)(p p':T->T->(Rt->Prop)->Prop):FP:=λρ Q=>fa ρ λx=>fb ρ λy=>p x y λr=>match r with
 |.vw (.bl true)=>fc ρ λz=>p' y z Q
 |.vw (.bl false)=>Q (.vw (.bl false))
 |_=>False
end
theorem JG{A:qah}{ts:List T}{i:Int}{t:T}(h:aB K H A ts vs)(e:jQ ts i=some t):∃v,jQ vs i=some v/\At K H A t v:=by
 unfold jQ at e ⊢;rw[h.length];cases q:wM ts.length i with
 |none=>rw[q] at e;cases e
 |some j=>rw[q] at e;obtain⟨v,h1,h2⟩:=h.get (i:=j) e;exact⟨v,h1,h2⟩
def ZW(x y:T)(q:Rt->Prop):Prop:=match x,y with
 |.lst ts,.int i=>∃t,jQ ts i=some t/\q (.vw t)
 |.tup ts,.int i=>∃t,jQ ts i=some t/\q (.vw t)
 |.str z,.int i=>z.length<=sizeLine/\∃c,jQ z.cps.toList i=some c/\q (.vw (.str ⟨#[c]⟩))
 |_,_=>False
theorem UH:rG K (rIx K) ZW:=by intro Z tm O ρ σ H x y v w q Q I h1 h2 h k;unfold ZW at h;split at h;obtain⟨t,e,h⟩:=h;obtain⟨a,vs,rfl,s1,a1⟩:=h1.lst;obtain⟨u,e',a2⟩:=JG a1 e;exact .inl ⟨a,vs,_,u,rfl,h2.int,s1,e',k _ h _ H (aY.refl H) ⟨I,a2⟩⟩;obtain⟨t,e,h⟩:=h;obtain⟨a,vs,rfl,s1,a1⟩:=h1.tup;obtain⟨u,e',a2⟩:=JG a1 e;exact .inr (.inl ⟨a,vs,_,u,rfl,h2.int,s1,e',k _ h _ H (aY.refl H) ⟨I,a2⟩⟩);obtain⟨hz,c,e,h⟩:=h;exact .inr (.inr ⟨_,_,c,h1.str,h2.int,hz,e,k _ h _ H (aY.refl H) ⟨I,dy⟩⟩);exact h.elim
section
variable{Z:Zc}{a:Expr}{pos:Pos}{fa fb:FE}
theorem aC(ha:VR X Z a fa)(hb:VR X Z b fb)(hs:wO b:=by exact λ_ _=>rfl):VP X Z (.Subscript a b pos) (f2 fa fb ZW) :=
 .mk λtm=>PE.weak (RX T9 (ha tm) (hb tm) hs) (two UH)
end
abbrev FO:=En->(Option Int->Prop)->Prop
def lO(X:Cx)(Z:Zc)(tm:List (T×V))(f:FO):TO:=λσ H Q=>∃ρ O q,ay X.K Z tm O ρ σ H/\f ρ q/\∀o,q o->∀H',aY H H'->Q o H'
def VO(X:Cx)(Z:Zc)(e:Option Expr)(f:FO):Prop:=Bx λtm=>PO X e (lO X Z tm f)
instance{X:Cx}{Z:Zc}{e:Option Expr}{f:FO}:CoeFun (VO X Z e f) λ_=>∀tm,PO X e (lO X Z tm f):=⟨λh=>Bx.h h⟩
theorem PO.weak{e:Option Expr}{t t':TO}(h:PO X e t)(hw:∀σ H Q,t' σ H Q->t σ H Q):PO X e t':=λpins s σ H Q I q=>h pins s σ H Q I (hw _ _ _ q)
def fO0:FO:=λ_ Q=>Q none
def fO1(f:FE):FO:=λρ Q=>f ρ λt=>match t with
 |.int i=>Q (some i)
 |_=>False
def gk{α:Type}(xs:List α)(lo hi:Option Int):List α:=(xs.drop (HT.fj xs.length 0 lo)).take (HT.fj xs.length xs.length hi-HT.fj xs.length 0 lo)
theorem aB.cut{A:qah}{ts:List T}(h:aB K H A ts vs)(lo hi:Option Int):aB K H A (gk ts lo hi) (zi vs lo hi):=by unfold gk zi;rw[h.length];exact (h.drop _).take _
def afJ(K:qaf):V->Option Int->Option Int->Hp->VK->Prop:=λx lo hi H Q=>ZC K x lo hi H Q\/Zw K x lo hi H Q\/ZP x lo hi H Q
theorem afK:Jl X (afJ X.K):=Jl.or Oy (Jl.or T6 Ul)
def pSl(x:T)(lo hi:Option Int)(q:Rt->Prop):Prop:=match x with
 |.lst ts=>q (.fr (.lst (gk ts lo hi)))
 |.tup ts=>¬ (HT.fj ts.length 0 lo=0/\HT.fj ts.length ts.length hi=ts.length)/\q (.vw (.tup (gk ts lo hi)))
 |.str z=>z.length<=sizeLine/\q (.vw (.str (Txt.slice z lo hi)))
 |_=>False
def fSl(fa:FE)(fl fh:FO):FP:=λρ Q=>fa ρ λx=>fl ρ λlo=>fh ρ λhi=>pSl x lo hi Q
section
variable{Z:Zc}{a:Expr}{lo hi:Option Expr}{pos:Pos}{fa:FE}{fl fh:FO}
theorem k_:VO X Z none fO0:=.mk λtm=>PO.weak Ou λσ H Q ⟨ρ,O,q,I,hf,k⟩=>k _ hf H (aY.refl H)
theorem gc(h:VR X Z e fa):VO X Z (some e) (fO1 fa):=.mk λtm=>PO.weak (Ov (h tm)) λσ H Q ⟨ρ,O,q,I,hf,k⟩=>⟨ρ,O,_,I,hf,λt ht v H' s z=>by split at ht;exact⟨_,z.int,k _ ht H' s⟩;exact ht.elim⟩
theorem gm(he:VR X Z e fa)(hl:VO X Z lo fl)(hh:VO X Z hi fh):VP X Z (.Subscript e (.Slice lo hi none p2) pos) (fSl fa fl fh) :=
 .mk λtm=>PE.weak (Jm afK (he tm) (hl tm) (hh tm)) λσ H Q ⟨ρ,O,q,I,hf,k⟩=>⟨ρ,O,_,I,hf,λx hx v H1 s1 a1=>⟨ρ,O,_,I.same s1,hx,λl hl H2 s2=>⟨ρ,O,_,(I.same s1).same s2,hl,λu hu H3 s3=>by have J:=((I.same s1).same s2).same s3;have a3:=(a1.same s2).same s3;have S:=(s1.trans s2).trans s3;unfold pSl at hu;split at hu;obtain⟨p,vs,rfl,q1,q2⟩:=a3.lst;exact .inl ⟨p,vs,rfl,q1,λr hr=>k _ hu _ _ (S.trans (aJ hr)) (J.Gm hr (q2.cut _ _))⟩;obtain⟨p,vs,rfl,q1,q2⟩:=a3.tup;refine .inr (.inl ⟨p,vs,rfl,q1,by rw[q2.length];exact hu.1,λr hr=>k _ hu.2 _ _ (S.trans (aJ hr)) ⟨J.same (aJ hr),cA (fM.of aH) ((q2.cut _ _).same (aJ hr))⟩⟩);exact .inr (.inr ⟨_,a3.str,hu.1,k _ hu.2 _ H3 S ⟨J,dy⟩⟩);exact hu.elim⟩⟩⟩
end
def R1(g:FA)(p:List T->(Rt->Prop)->Prop):FP:=λρ Q=>g ρ λts=>p ts Q
def rN(K:qaf)(r:qak->Hp->VK->Prop)(p:List T->(Rt->Prop)->Prop):Prop :=
 ∀(Z:Zc)(tm:List (T×V))(O:HD)(ρ:En)(σ:St)(H:Hp)(ts:List T)(vs:qak)(q:Rt->Prop)(Q:VK),ay K Z tm O ρ σ H->Paired (λv t=>iz K H (av Z O) t v) vs ts->p ts q ->
  (∀t,q t->∀u H',aY H H'->il K Z tm O ρ σ H' t u->Q u H')->r vs H Q
section
variable{Z:Zc}{a:Expr}{pos:Pos}{g:FA}{id Ty:String}{r:qak->Hp->VK->Prop}{pp:List T->(Rt->Prop)->Prop}
theorem aT(hc:fF X (.builtin id) r)(ht:rN X.K r pp)(hg:Gl X x)(hm:X.mg x=none)(hv:bootBuiltins x=some (.builtin id))(ha:Uq X Z (e::es) g)(hn:x≠"__name__":=by decide)(q_:jD x:=by decide)(hs:starEach (e::es) X.env=(false,eval e X.env)::starEach es X.env:=by rfl)(jF:(backTo pos (starEach es X.env)).any (·.1)=false:=by rfl):VP X Z (.Call (.Name x p) (e::es) [] pos) (R1 g pp) :=
 .mk λtm=>PE.weak (rf hc hg hm hv (ha tm) hn q_ hs jF) λσ H Q ⟨ρ,O,q,I,hf,k⟩=>⟨ρ,O,_,I,hf,λts gw vs H1 s1 a1=>ht Z tm O ρ σ H1 ts vs q _ (I.same s1) a1 gw λt h u H' s z=>k t h u H' (s1.trans s) z⟩
theorem dU(hc:fF X (.type Ty) r)(ht:rN X.K r pp)(hg:Gl X x)(hm:X.mg x=none)(hv:bootBuiltins x=some (.type Ty))(ha:Uq X Z (e::es) g)(hn:x≠"__name__":=by decide)(q_:jD x:=by decide)(hs:starEach (e::es) X.env=(false,eval e X.env)::starEach es X.env:=by rfl)(jF:(backTo pos (starEach es X.env)).any (·.1)=false:=by rfl):VP X Z (.Call (.Name x p) (e::es) [] pos) (R1 g pp) :=
 .mk λtm=>PE.weak (F9 hc hg hm hv (ha tm) hn q_ hs jF) λσ H Q ⟨ρ,O,q,I,hf,k⟩=>⟨ρ,O,_,I,hf,λts gw vs H1 s1 a1=>ht Z tm O ρ σ H1 ts vs q _ (I.same s1) a1 gw λt h u H' s z=>k t h u H' (s1.trans s) z⟩
end
def ZX(ts:List T)(q:Rt->Prop):Prop:=match ts with
 |[.lst l]=>q (.vw (.int l.length))
 |[.tup l]=>q (.vw (.int l.length))
 |[.str z]=>z.length<=sizeLine/\q (.vw (.int z.length))
 |_=>False
def R4(K:qaf):qak->Hp->VK->Prop:=λxs H Q=>(∃p ys,xs=[.ref p]/\(iV K H p ys\/fM K H p ys)/\Q (.int ys.length) H)\/(∃z,xs=[.str z]/\z.length<=sizeLine/\Q (.int z.length) H)
theorem aN:fF X (.builtin "len") (R4 X.K):=fF.or wU wV
theorem eY{F:α->β->Prop}{vs:List α}{t:β}(h:Paired F vs [t]):∃v,vs=[v]/\F v t:=by
 cases h with
 |cons r q=>cases q;exact⟨_,rfl,r⟩
theorem O0{F:α->β->Prop}{vs:List α}{t u:β}(h:Paired F vs [t,u]):∃v w,vs=[v,w]/\F v t/\F w u:=by
 cases h with
 |cons r q=>cases q with
  |cons r2 q2=>cases q2;exact⟨_,_,rfl,r,r2⟩
theorem aO:rN K (R4 K) ZX:=by intro Z tm O ρ σ H ts vs q Q I h hp k;unfold ZX at hp;split at hp;obtain⟨v,rfl,a⟩:=eY h;obtain⟨p,ws,rfl,q1,q2⟩:=a.lst;exact .inl ⟨p,ws,rfl,.inl q1,k _ hp _ H (aY.refl H) ⟨I,by rw[q2.length];exact bC⟩⟩;obtain⟨v,rfl,a⟩:=eY h;obtain⟨p,ws,rfl,q1,q2⟩:=a.tup;exact .inl ⟨p,ws,rfl,.inr q1,k _ hp _ H (aY.refl H) ⟨I,by rw[q2.length];exact bC⟩⟩;obtain⟨v,rfl,a⟩:=eY h;exact .inr ⟨_,by rw[a.str],hp.1,k _ hp.2 _ H (aY.refl H) ⟨I,bC⟩⟩;exact hp.elim
def R5(ts:List T)(q:Rt->Prop):Prop:=match ts with
 |[.lst l]=>q (.fr (.lst l))
 |[.tup l]=>q (.fr (.lst l))
 |_=>False
theorem fO:rN K (λxs H Q=>∃p ys,xs=[.ref p]/\(iV K H p ys\/fM K H p ys)/\∀l,H l=none->Q (.ref l) (upd H l (.lst ys))) R5:=by intro Z tm O ρ σ H ts vs q Q I h hp k;unfold R5 at hp;split at hp;obtain⟨v,rfl,a⟩:=eY h;obtain⟨p,ws,rfl,q1,q2⟩:=a.lst;exact⟨p,ws,rfl,.inl q1,λl hl=>k _ hp _ _ (aJ hl) (I.Gm hl q2)⟩;obtain⟨v,rfl,a⟩:=eY h;obtain⟨p,ws,rfl,q1,q2⟩:=a.tup;exact⟨p,ws,rfl,.inr q1,λl hl=>k _ hp _ _ (aJ hl) (I.Gm hl q2)⟩;exact hp.elim
def JH(ts:List T)(q:Rt->Prop):Prop:=match ts with
 |[.lst l]=>q (.vw (.tup l))
 |[.tup l]=>q (.vw (.tup l))
 |_=>False
theorem j4:rN K (λxs H Q=>∃p ys,xs=[.ref p]/\((iV K H p ys/\∀l,H l=none->Q (.ref l) (upd H l (.tup ys)))\/(fM K H p ys/\Q (.ref p) H))) JH:=by intro Z tm O ρ σ H ts vs q Q I h hp k;unfold JH at hp;split at hp;obtain⟨v,rfl,a⟩:=eY h;obtain⟨p,ws,rfl,q1,q2⟩:=a.lst;exact⟨p,ws,rfl,.inl ⟨q1,λl hl=>k _ hp _ _ (aJ hl) ⟨I.same (aJ hl),cA (fM.of aH) (q2.same (aJ hl))⟩⟩⟩;obtain⟨v,rfl,a⟩:=eY h;obtain⟨p,ws,rfl,q1,q2⟩:=a.tup;exact⟨p,ws,rfl,.inr ⟨q1,k _ hp _ H (aY.refl H) ⟨I,cA q1 q2⟩⟩⟩;exact hp.elim
structure JI where
 nx:En->Prop
 rt:En->Rt->Prop
 bk:En->Prop:=λ_=>False
 ct:En->Prop:=λ_=>False
structure Fin(K:qaf)(Z:Zc)(tm:List (T×V))(d:JI)(D:Ends):Prop where
 nx:∀O ρ σ H,ay K Z tm O ρ σ H->d.nx ρ->D.nx σ H
 rt:∀O ρ σ H r v,il K Z tm O ρ σ H r v->d.rt ρ r->D.rt v H
 bk:∀O ρ σ H,ay K Z tm O ρ σ H->d.bk ρ->D.bk σ H
 ct:∀O ρ σ H,ay K Z tm O ρ σ H->d.ct ρ->D.ct σ H
abbrev FS:=JI->En->Prop
def lS(X:Cx)(Z:Zc)(tm:List (T×V))(g:FS):TS:=λD σ H=>∃ρ O d,ay X.K Z tm O ρ σ H/\g d ρ/\Fin X.K Z tm d D
def VS(X:Cx)(Z:Zc)(st:Stmt)(g:FS):Prop:=Bx λtm=>PS X st (lS X Z tm g)
instance{X:Cx}{Z:Zc}{st:Stmt}{g:FS}:CoeFun (VS X Z st g) λ_=>∀tm,PS X st (lS X Z tm g):=⟨λh=>Bx.h h⟩
def m5(X:Cx)(Z:Zc)(st:qaq)(g:FS):Prop:=Bx λtm=>jc X st (lS X Z tm g)
instance{X:Cx}{Z:Zc}{st:qaq}{g:FS}:CoeFun (m5 X Z st g) λ_=>∀tm,jc X st (lS X Z tm g):=⟨λh=>Bx.h h⟩
def bO(Z:Zc)(i:Nat):Prop:=∀p∈Z.P,p.1≠i
section
variable{Z:Zc}{st:Stmt}{rest:qaq}{g u:FS}{pos:Pos}
def ZY:FS:=λd ρ=>d.nx ρ
def UI(g u:FS):FS:=λd ρ=>g {d with nx:=u d} ρ
theorem aV:m5 X Z [] ZY:=.mk λtm=>jc.jH Ek λD σ H ⟨ρ,O,d,I,h,F⟩=>F.nx O ρ σ H I h
theorem aj(h1:VS X Z st g)(h2:m5 X Z rest u):m5 X Z (st::rest) (UI g u):=.mk λtm=>jc.jH (cV (h1 tm) (h2 tm)) λD σ H ⟨ρ,O,d,I,h,F⟩ =>
 ⟨ρ,O,{d with nx:=u d},I,h,⟨λO' ρ' σ' H' I' h'=>⟨ρ',O',d,I',h',F⟩,F.rt,F.bk,F.ct⟩⟩
theorem aw(h1:VS X Z st g):m5 X Z [st] g:=.mk λtm=>kZ (h1 tm)
theorem m5.weak(h:m5 X Z rest g)(hw:∀d ρ,u d ρ->g d ρ):m5 X Z rest u:=.mk λtm=>jc.jH (h tm) λD σ H ⟨ρ,O,d,I,q,F⟩=>⟨ρ,O,d,I,hw d ρ q,F⟩
def ZZ(f:FX):FS:=λd ρ=>f ρ λρ' _=>d.nx ρ'
theorem cw{f:FX}(h:VX X Z e f)(hs:swapsWith e none pos.line X.env=pure false:=by rfl):VS X Z (.Expr e pos) (ZZ f):=.mk λtm=>PS.weak (ng (h tm) hs) λD σ H ⟨ρ,O,d,I,q,F⟩ =>
 ⟨ρ,O,_,I,q,λρ' r hr O' v H' z=>F.nx O' ρ' σ H' z.env hr⟩
def Z0(f:FX):FS:=λd ρ=>f ρ λρ' r=>d.rt ρ' r
theorem aI{f:FX}(h:VX X Z e f):VS X Z (.Return (some e) pos) (Z0 f):=.mk λtm=>PS.weak (wI (h tm)) λD σ H ⟨ρ,O,d,I,q,F⟩ =>
 ⟨ρ,O,_,I,q,λρ' r hr O' v H' z=>F.rt O' ρ' σ H' r v z hr⟩
def gIf(c:FB)(g u:FS):FS:=λd ρ=>c ρ λb=>if b=true then g d ρ else u d ρ
theorem bt{fc:FB}{a b:qaq}(hc:VC X Z c fc)(ha:m5 X Z a g)(hb:m5 X Z b u):VS X Z (.If c a b pos) (gIf fc g u):=.mk λtm=>PS.weak (RO (hc tm) (ha tm) (hb tm)) λD σ H ⟨ρ,O,d,I,q,F⟩ =>
 ⟨ρ,O,_,I,q,λb hb H' s=>by
  cases b with
  |true=>rw[if_pos rfl] at hb ⊢;exact⟨ρ,O,d,I.same s,hb,F⟩
  |false=>rw[if_neg jb] at hb ⊢;exact⟨ρ,O,d,I.same s,hb,F⟩⟩
def Z1(i:Nat)(f:FX):FS:=λd ρ=>f ρ λρ' r=>d.nx (ρ'.set i (some (r.t,false)))
def Z2(i:Nat)(f:FX):FS:=λd ρ=>f ρ λρ' r=>match r with
 |.fr t=>d.nx (ρ'.set i (some (t,true)))
 |_=>False
theorem bq{f:FX}{pos':Pos}(hN:X.N.Nodup)(hi:X.N[i]?=some x)(hx:Loc X.env.scope x)(he:VX X Z e f)(hp:bO Z i)(hs:swapsWith e (some (.Name x pos')) pos.line X.env=pure false:=by rfl)(hf:X.fn x=true\/X.env.scope.names.lookup x=some .local:=by first|exact .inl rfl|exact .inr rfl|assumption):VS X Z (.Assign [.Name x pos'] e pos) (Z1 i f):=.mk λtm=>PS.weak (wJ hN hi hx (he tm) hs hf) λD σ H ⟨ρ,O,d,I,q,F⟩ =>
 ⟨ρ,O,_,I,q,λρ' r hr O' v H' z=>F.nx _ _ _ H' (z.env.put hp z.at) hr⟩
theorem gX{f:FX}{pos':Pos}(hN:X.N.Nodup)(hi:X.N[i]?=some x)(hx:Loc X.env.scope x)(he:VX X Z e f)(hp:bO Z i)(hs:swapsWith e (some (.Name x pos')) pos.line X.env=pure false:=by rfl)(hf:X.fn x=true\/X.env.scope.names.lookup x=some .local:=by first|exact .inl rfl|exact .inr rfl|assumption):VS X Z (.Assign [.Name x pos'] e pos) (Z2 i f):=.mk λtm=>PS.weak (wJ hN hi hx (he tm) hs hf) λD σ H ⟨ρ,O,d,I,q,F⟩ =>
 ⟨ρ,O,_,I,q,λρ' r hr O' v H' z=>by split at hr;obtain⟨a,rfl,J,hR,h0,NO⟩:=z;exact F.nx _ _ _ H' (J.ZR hp hR h0 NO) hr;exact hr.elim⟩
def ag7(i:Nat)(f:FE)(p:T->T->(Rt->Prop)->Prop):FS:=λd ρ=>match ρ[i]? with
 |some (some (x,false))=>f ρ λy=>p x y λr=>d.nx (ρ.set i (some (r.t,false)))
 |_=>False
def Z3(is:qao)(g:FS):FS:=λd ρ=>g d (is.foldl (λρ i=>match ρ[i]? with
 |some (some (t,true))=>ρ.set i (some (t,false))
 |_=>ρ) ρ)
theorem rO{K:qaf}{tm:List (T×V)}:∀(is:qao){O:HD}{ρ:En}{σ:St}{H:Hp},(∀i∈is,bO Z i)->ay K Z tm O ρ σ H->∃O',ay K Z tm O' (is.foldl (λρ i=>match ρ[i]? with
 |some (some (t,true))=>ρ.set i (some (t,false))
 |_=>ρ) ρ) σ H
 |[],O,ρ,σ,H,_,I=>⟨O,I⟩
 |i::is,O,ρ,σ,H,hp,I=>by
  rw[List.foldl_cons];have Up:∀j∈is,bO Z j:=λj hj=>hp j (ic _ hj);split
  rename_i t e
  exact rO is Up (I.y8 (hp i dP) e);exact rO is Up I
theorem Ey(is:qao)(h:m5 X Z rest g)(hp:∀i∈is,bO Z i):m5 X Z rest (Z3 is g):=.mk λtm=>jc.jH (h tm) λD σ H ⟨ρ,O,d,I,q,F⟩=>let ⟨O',I'⟩:=rO is hp I;⟨_,O',d,I',q,F⟩
end
section
variable{Z:Zc}{a:Expr}{pos:Pos}
theorem ay.root{tm:List (T×V)}{ρ:En}(I:ay K Z tm O ρ σ H){k:Nat}{t:T}(e:ρ[k]?=some (some (t,true))):∃a,O[k]?=some (some a)/\σ[k]?=some (some (.ref a))/\cW K H (av Z O) a t:=by obtain⟨o,s,h1,h2,a,rfl,rfl,h3⟩:=I.sl k _ e;exact⟨a,h1,h2,h3⟩
def Ez(k:Nat)(g:FA)(p:List T->List T->(List T->T->Prop)->Prop):FX:=λρ Q=>match ρ[k]? with
 |some (some (.lst ts,true))=>g ρ λvs=>p ts vs λlZ r=>Q (ρ.set k (some (.lst lZ,true))) (.vw r)
 |_=>False
def Z4(K:qaf)(r:V->qak->Hp->VK->Prop)(p:List T->List T->(List T->T->Prop)->Prop):Prop :=
 ∀(H:Hp)(A:qah)(l:Addr)(xs:qak)(ts us:List T)(vs:qak)(q:List T->T->Prop)(Q:VK),l∈A->H l=some (.lst xs)->aB K H A ts xs->aB K H A us vs->p ts us q ->
  (∀lZ t,q lZ t->∀IJ v,aB K H A lZ IJ->At K H A t v->Q v (upd H l (.lst IJ)))->r (.ref l) vs H Q
theorem EA{r:V->qak->Hp->VK->Prop}{p:List T->List T->(List T->T->Prop)->Prop}(hm:Z4 X.K r p){k:Nat}{g:FA}{tm:List (T×V)}{Q:VK}(h:lX X Z tm (Ez k g p) σ H Q) :
  ∃l,σ[k]?=some (some (.ref l))/\(∃xs,iV X.K H l xs)/\lA X Z tm g σ H λvs H1=>r (.ref l) vs H1 Q:=by
 obtain⟨ρ,O,q,I,hf,kk⟩:=h;unfold Ez at hf;split at hf
 rename_i ts e0
 obtain⟨l,h1,h2,xs,h3,h4⟩:=I.root e0;refine⟨l,h2,⟨xs,iV.of h3⟩,ρ,O,_,I,hf,λus Uc vs H1 s1 a1=>?_⟩;have J:=I.same s1;have ha:l∈av Z O:=cC _ (aM.mpr (iw h1));refine hm H1 (av Z O) l xs ts us vs _ Q ha (s1 _ _ h3) (h4.same s1) a1 Uc λlZ t ht IJ v b1 b2=>?_;exact kk _ _ ht O _ _ ⟨J.wrote e0 h1 ⟨IJ,aH,b1.wrote ha (s1 _ _ h3) rfl⟩,b2.wrote ha (s1 _ _ h3) rfl⟩;exact hf.elim
theorem jJ(k:Nat){name:Str}{id:String}{g:FA}{r:V->qak->Hp->VK->Prop}{pp:List T->List T->(List T->T->Prop)->Prop}(slot:Slot "list" name id)(Ua:typeOf (.builtin id)=pure (.type "method_descriptor"))(hm:RW X id r)(ht:Z4 X.K r pp)(ha:VA X Z (e::es) g)(hN:X.N[k]?=some x:=by rfl)(hv:mZ X.env.scope x:=by first|exact Or.inl rfl|exact Or.inr (Or.inl rfl)|exact Or.inr (Or.inr rfl))(hd:jD x:=by decide)(ig:yT x:=by decide)(dv:attributeBase (.Name x p) name X.env (eval (.Name x p) X.env)=eval (.Name x p) X.env:=by rfl)(lW:((backTo a5 (starEach (e::es) X.env)).all (λx=>!x.1) && (backToKw a5 (keywordEach [] X.env)).all (λx=>x.1.isSome)
    && decide ((e::es).length+([]:List Keyword).length+(if ([]:List Keyword).isEmpty then 0 else 1)<30))=true:=by rfl)(dw:(apos.endLine==a5.line)=true:=by rfl)(hs:starEach (e::es) X.env=(false,eval e X.env)::starEach es X.env:=by rfl)(eZ:(backTo a5 (starEach es X.env)).any (·.1)=false:=by rfl) :
  VX X Z (.Call (.Attribute (.Name x p) name apos) (e::es) [] a5) (Ez k g pp):=.mk λtm=>
 PE.weak (rj XU slot Ua hm (bX hN hv hd ig) (ha tm) dv lW dw hs eZ) λσ H Q h=>
  let ⟨l,h1,h2,h3⟩:=EA ht h;⟨.ref l,h1,.inl ⟨rfl,h2⟩,h3⟩
theorem B'(k:Nat){name:Str}{id:String}{r:V->qak->Hp->VK->Prop}{pp:List T->List T->(List T->T->Prop)->Prop}(slot:Slot "list" name id)(Ua:typeOf (.builtin id)=pure (.type "method_descriptor"))(hm:RW X id r)(ht:Z4 X.K r pp)(hN:X.N[k]?=some x:=by rfl)(hv:mZ X.env.scope x:=by first|exact Or.inl rfl|exact Or.inr (Or.inl rfl)|exact Or.inr (Or.inr rfl))(hd:jD x:=by decide)(ig:yT x:=by decide)(dv:attributeBase (.Name x p) name X.env (eval (.Name x p) X.env)=eval (.Name x p) X.env:=by rfl)(dw:(apos.endLine==a5.line)=true:=by rfl):VX X Z (.Call (.Attribute (.Name x p) name apos) [] [] a5) (Ez k qk pp):=.mk λtm=>
 PE.weak (B6 XU slot Ua hm (bX hN hv hd ig) dv dw) λσ H Q h=>by obtain⟨l,h1,h2,ρ,O,q,I,hf,kk⟩:=EA ht h;exact⟨.ref l,h1,.inl ⟨rfl,h2⟩,kk [] hf [] H (aY.refl H) aB.nil⟩
def EB(ts us:List T)(q:List T->T->Prop):Prop:=match us with
 |[t]=>ts.length<sizeLine/\q (ts++[t]) .aP
 |_=>False
theorem b_:Z4 K Et EB:=by intro H A l xs ts us vs q Q hl hH h1 h2 hp k;unfold EB at hp;split at hp;obtain⟨v,rfl,a⟩:=eY (aB.iff.mp h2);exact⟨l,xs,v,rfl,rfl,hH,by rw[h1.length];exact hp.1,k _ _ hp.2 _ _ (h1.append (aB.cons a aB.nil)) wY⟩;exact hp.elim
def afL(ts us:List T)(q:List T->T->Prop):Prop:=us=[]/\∃t,ts[ts.length-1]?=some t/\q ts.dropLast t
theorem aB.dropLast{A:qah}{ts:List T}(h:aB K H A ts vs):aB K H A ts.dropLast vs.dropLast:=by rw[List.dropLast_eq_take,List.dropLast_eq_take,h.length];exact h.take _
theorem xa:Z4 K ZE afL:=by
 intro H A l xs ts us vs q Q hl hH h1 h2 hp k;obtain⟨rfl,t,e1,hq⟩:=hp;have e:vs=[]:=by simpa only[aB] using h2
 obtain⟨v,e2,a⟩:=h1.get e1;exact⟨l,xs,v,rfl,e,hH,by rw[h1.length];exact e2,k _ _ hq _ _ h1.dropLast a⟩
def UJ(k:Nat)(f fi:FE):FS:=λd ρ=>f ρ λv=>fi ρ λi=>match ρ[k]?,i with
 |some (some (.lst ts,true)),.int j=>∃n,wM ts.length j=some n/\d.nx (ρ.set k (some (.lst (ts.set n v),true)))
 |_,_=>False
def R6(k:Nat)(f fi:FE):FS:=λd ρ=>match ρ[k]? with
 |some (some (.lst ts,true))=>f ρ λv=>fi ρ λi=>match i with
  |.int j=>∃n,wM ts.length j=some n/\d.nx (ρ.set k (some (.lst (ts.set n v),true)))
  |_=>False
 |_=>False
theorem l0(k:Nat){f fi:FE}{i:Expr}(he:VE X Z e f)(hi:VR X Z i fi)(hN:X.N[k]?=some x:=by rfl)(hv:mZ X.env.scope x:=by first|exact Or.inl rfl|exact Or.inr (Or.inl rfl)|exact Or.inr (Or.inr rfl))(hd:jD x:=by decide)(ig:yT x:=by decide)(ha:∀v,assign (.Subscript (.Name x p) i gu) X.env v=(do
    let ov <- holding [v] (eval (.Name x p) X.env)
    let iv <- holding [v,ov] (eval i X.env)
    standAt gu
    holding [v,ov,iv] (setItem ov iv v)
    release [v,ov,iv] []):=by intro _;rfl)(hs:swapsWithSole [.Subscript (.Name x p) i gu] e pos.line X.env=pure false:=by rfl)(hw:swappedStores [.Subscript (.Name x p) i gu] e X.env=pure none:=by rfl)(h1:(assignEach [.Subscript (.Name x p) i gu] X.env).map (·.2)=[assign (.Subscript (.Name x p) i gu) X.env]:=by rfl):VS X Z (.Assign [.Subscript (.Name x p) i gu] e pos) (R6 k f fi):=.mk λtm=>
 PS.weak (Jb (he tm) (TL (bX hN hv hd ig) (hi tm) set_list ha) hs hw h1) λD σ H ⟨ρ,O,d,I,q,F⟩=>by
  unfold R6 at q;split at q
  rename_i ts e0
  obtain⟨l,h1,h2,xs,h3,h4⟩:=I.root e0;have ha:l∈av Z O:=cC _ (aM.mpr (iw h1));refine⟨ρ,O,_,I,q,λt ht v H1 s1 a1=>⟨.ref l,h2,ρ,O,_,I.same s1,ht,λj hj w H2 s2 a2=>?_⟩⟩;split at hj;obtain⟨n,e1,hj⟩:=hj;refine⟨l,xs,_,n,rfl,a2.int,s2 _ _ (s1 _ _ h3),by rw[h4.length];exact e1,?_⟩;refine F.nx O _ σ _ (((I.same s1).same s2).wrote (t':=.lst (ts.set n t)) e0 h1 ⟨xs.set n v,aH,?_⟩) hj;exact aB.wrote ha (s2 _ _ (s1 _ _ h3)) rfl (((h4.same s1).same s2).set n (a1.same s2));exact hj.elim;exact q.elim
theorem ay.give{tm:List (T×V)}{ρ:En}(I:ay K Z tm O ρ σ H){t:T}(hp:bO Z i)(hi:ρ[i]?=some (some (t,true))):∃a,σ[i]?=some (some (.ref a))/\il K Z tm (O.set i none) (ρ.set i none) σ H (.fr t) (.ref a):=by
 obtain⟨a,h1,h2,h3⟩:=I.root hi;have ha:a∈roots O:=aM.mpr (iw h1);obtain⟨o1,o2,o3⟩:=I.own a ha;have J:=I.forget hp;have J2:=I.y8 hp hi;have na:a∉roots (O.set i none):=λz=>by
  obtain⟨o,s,g1,g2,g3,v,g4,g5⟩:=J2.sl i (some (t,false)) (by rw[Ee (by rw[<- I.lO];exact (eW.mp h1).1)]);rw[h2] at g2;cases g2;cases g4;have nn:a∉av Z (O.set i none):=by
   obtain⟨u,eu,mu⟩:=h3.mut;cases t with
   |lst ts=>
    simp only[At] at g5;obtain⟨b,vs,eb,l,_⟩:=g5;cases eb;obtain l|⟨oo,_,_,lk,_⟩:=l
    exact l.2;exact λz2=>by
     have key:∀(O:HD)(i:Nat),O[i]?=some (some a)->(roots O).Nodup->a∉roots (O.set i none):=by
      intro O;induction O with
      |nil=>intro i h;simp at h
      |cons o O ih=>
       intro i h nd;cases i with
       |zero=>
        have:o=some a:=by simpa using h
        subst this;simp only[roots,RD,oh,id] at nd ⊢;exact (mW.mp nd).1
       |succ i=>
        have h':O[i]?=some (some a):=by simpa using h
        cases o with
        |none=>simp only[roots,IV,oh,id] at nd ⊢;exact ih i h' nd
        |some b=>
         simp only[roots,IV,oh,id] at nd ⊢;rw[mW] at nd;intro z;rcases c4.mp z with z|z
         exact nd.1 (by rw[<- z];exact aM.mpr (iw h'));exact ih i h' nd.2 z
     rcases cU.mp z2 with z2|z2
     exact key O i h1 I.nd z2;exact o2 z2
   |dk ks ts=>simp only[At] at g5;obtain⟨b,vs,eb,_,d,_⟩:=g5;cases eb;exact d.2
   |dt ks ts=>simp only[At] at g5;obtain⟨b,vs,eb,_,d,_⟩:=g5;cases eb;exact d.2
   |ins C ns ts=>simp only[At] at g5;obtain⟨b,dx,vs,eb,_,d,_⟩:=g5;cases eb;exact d.2
   |_=>exact h3.elim
  exact nn (cC _ z)
 have hP:Z.H0 a=none:=by
  obtain z|z:=o1
  obtain⟨p,hpm,rfl⟩:=vz.mp z;have:=J.par p hpm;exact absurd (aM.mpr (iw this)) na;exact z
 have sub:∀b∈av (Z.ex a) (O.set i none),b∈av Z O:=λb hb=>by
  rcases dS b hb with z|z
  exact ck i b z;rw[z];exact cC _ ha
 refine⟨a,h2,a,rfl,⟨J.lσ,J.lO,λj e h=>?_,J.nd,λb hb=>?_,J.par,λb hb=>?_,J.keep,λp hp=>(I.rE p hp).a8 sub⟩,h3.a8 sub,hP,o2⟩;rcases get_set h with⟨rfl,rfl,hl⟩|⟨ne,h⟩
 obtain⟨o,s,g1,g2,g3⟩:=J.sl j none (by rw[Ee hl]);exact⟨o,s,g1,g2,g3⟩;obtain⟨o,s,g1,g2,g3⟩:=I.sl j e h;exact⟨o,s,by rw[uc (Ne.symm ne)];exact g1,g2,g3.map (λ_ _ q=>q.a8 sub) λ_ _ _ q=>q.a8 sub⟩;obtain⟨q1,q2,q3⟩:=J.own b hb;refine⟨q1,λz=>?_,q3⟩;rcases c4.mp z with z|z
 exact na (by rw[<- z];exact hb);exact q2 z;rcases c4.mp hb with z|z
 obtain⟨u,eu,_⟩:=o3;rw[z,eu];simp;exact I.ox b z
def R7(i:Nat):FX:=λρ Q=>match ρ[i]? with
 |some (some (t,true))=>Q (ρ.set i none) (.fr t)
 |some (some (t,false))=>Q ρ (.vw t)
 |_=>False
theorem xb(i:Nat)(hp:bO Z i)(hN:X.N[i]?=some x:=by rfl)(hv:mZ X.env.scope x:=by first|exact Or.inl rfl|exact Or.inr (Or.inl rfl)|exact Or.inr (Or.inr rfl))(hd:jD x:=by decide)(ig:yT x:=by decide):VX X Z (.Name x pos) (R7 i):=.mk λtm=>PE.weak (bX hN hv hd ig) λσ H Q ⟨ρ,O,q,I,hf,k⟩=>by
 unfold R7 at hf;split at hf
 rename_i t e
 obtain⟨a,h1,h2⟩:=I.give hp e;exact⟨_,h1,k _ _ hf _ _ H h2⟩
 rename_i t e
 obtain⟨o,s,h1,h2,rfl,v,rfl,h3⟩:=I.sl i _ e;exact⟨v,h2,k _ _ hf O v H ⟨I,h3⟩⟩;exact hf.elim
end
theorem ay.zv{Z:Zc}{tm tm':List (T×V)}{ρ:En}(I:ay K Z tm O ρ σ H)(h:∀p∈tm',At K H (av Z O) p.1 p.2):ay K Z tm' O ρ σ H :=
 ⟨I.lσ,I.lO,I.sl,I.nd,I.own,I.par,I.ox,I.keep,h⟩
theorem il.zv{Z:Zc}{cp tm:List (T×V)}{ρ:En}{r:Rt}(h:il K Z (cp++tm) O ρ σ H r v):il K Z tm O ρ σ H r v:=by
 cases r with
 |vw t=>exact⟨h.1.zv λp hp=>h.1.rE p (bW _ hp),h.2⟩
 |fr t=>obtain⟨a,e,I,q⟩:=h;exact⟨a,e,I.zv λp hp=>I.rE p (bW _ hp),q⟩
def Wk(K:qaf)(J:It)(cp:List (T×V))(ts:List T):Prop:=∀H A,(∀a∈A,H a≠none)->(∀p∈cp,At K H A p.1 p.2)->∀i:Nat,
 (i<ts.length->J.go i H)/\(ts.length=i->J.stop i H)/\∀t,ts[i]?=some t->∀x H',J.Y9 i H x H'->aY H H'/\At K H' A t x
abbrev FI:=En->(List T->Prop)->Prop
def lI(X:Cx)(Z:Zc)(tm:List (T×V))(f:FI):TI:=λσ H R=>∃ρ O q,ay X.K Z tm O ρ σ H/\f ρ q/\∀ts,q ts->∀J H' cp,aY H H'->(∀p∈cp,At X.K H' (av Z O) p.1 p.2)->Wk X.K J cp ts->R J H'
def VI(X:Cx)(Z:Zc)(tg iter:Expr)(f:FI):Prop:=Bx λtm=>PI X tg iter (lI X Z tm f)
instance{X:Cx}{Z:Zc}{tg iter:Expr}{f:FI}:CoeFun (VI X Z tg iter f) λ_=>∀tm,PI X tg iter (lI X Z tm f):=⟨λh=>Bx.h h⟩
theorem PI.weak{tg:Expr}{t t':TI}(h:PI X tg e t)(hw:∀σ H R,t' σ H R->t σ H R):PI X tg e t':=λpins s σ H R I q=>h pins s σ H R I (hw _ _ _ q)
theorem PG.weak{tg:Expr}{t t':TG}(h:PG X tg t)(hw:∀v σ H Q,t' v σ H Q->t v σ H Q):PG X tg t':=λpins s σ H v u Q I r q=>h pins s σ H v u Q I r (hw _ _ _ _ q)
theorem I_.weak{tg:qap}{t t':Oa}(h:I_ X tg t)(hw:∀v σ H Q,t' v σ H Q->t v σ H Q):I_ X tg t':=λpins s σ H v u Q I r q=>h pins s σ H v u Q I r (hw _ _ _ _ q)
def afM(K:qaf)(tl:TE):TI:=λσ H R=>tl σ H λx H1=>(∃a,x=.ref a/\(∃xs,iV K H1 a xs)/\R (Itl K a) H1)\/(∃a,x=.ref a/\(∃xs,fM K H1 a xs)/\R (Itt K a) H1)\/∃z,x=.str z/\R (Its z) H1
section
variable{Z:Zc}{tg:Expr}
theorem UK{l:Expr}{tl:TE}(hl:PE X l tl):PI X tg l (afM X.K tl):=by
 intro pins s σ H R I h;refine cc (hl pins s σ H _ I h) λv s1 ⟨x,H1,I1,r1,q1⟩=>?_;obtain⟨a,e,hq,q⟩|⟨a,e,hq,q⟩|⟨z,e,q⟩:=q1
 subst e;cases r1;obtain⟨xs,hq⟩:=hq;obtain⟨a4,rv,p,hz⟩:=I1.list hq;refine wpAny_pyIter_list p.isList ?_;refine⟨s1.heap.objs.size,[s1.heap.objs.size],_,_,H1,rfl,I1.kept (t':=s1.toks) λb o e=>og _ e,FU a _,⟨_,vy _ rfl,rfl,rfl⟩,λb hb=>?_,q⟩;have e:b=s1.heap.objs.size:=by simpa using hb
 subst e;exact I1.qY (c_ _) (I1.cx.fresh (c_ _));subst e;cases r1;obtain⟨xs,hq⟩:=hq;obtain⟨a4,rv,p,hz⟩:=I1.tuple hq;refine wpAny_pyIter_tuple (show s1.heap.IsTuple a a4.toArray from p) ?_;refine⟨s1.heap.objs.size,[s1.heap.objs.size],_,_,H1,rfl,I1.kept (t':=s1.toks) λb o e=>og _ e,BL a _,⟨_,vy _ rfl,rfl,rfl⟩,λb hb=>?_,q⟩;have e:b=s1.heap.objs.size:=by simpa using hb
 subst e;exact I1.qY (c_ _) (I1.cx.fresh (c_ _));subst e;obtain⟨t,rfl⟩:=r1;refine wpAny_pyIter_strU ?_;have I2:Inv X pins σ H1 {s1 with heap:=s1.heap.push {cls:=.type (strIterType z),data:=.fields #[.str z t,.int 0 0]} }:=I1.kept (t':=s1.toks) λb o e=>og _ e;refine⟨s1.heap.objs.size,[s1.heap.objs.size],_,_,H1,rfl,I2,Jy z t _,⟨_,vy _ rfl,rfl,rfl⟩,λb hb=>?_,q⟩;have e:b=s1.heap.objs.size:=by simpa using hb
 subst e;exact I1.qY (c_ _) I1.fresh
def afN(f:FE):FI:=λρ Q=>f ρ λt=>match t with
 |.lst ts=>Q ts
 |.tup ts=>Q ts
 |.str z=>Q (z.cps.toList.map λc=>.str ⟨#[c]⟩)
 |_=>False
theorem O3{ts:List T}:Wk K (Itl K a) [(.lst ts,.ref a)] ts:=λH A hA h i=>by have h:=h _ dP;simp only[At] at h;obtain⟨b,vs,e,l,q⟩:=h;cases e;have hl:=q.length;refine⟨λhi=>⟨vs,vs[i]'(by omega),l.sq,by simp⟩,λhi=>⟨vs,l.sq,by omega⟩,λt ht x H' y=>?_⟩;obtain⟨rfl,y⟩:=y;obtain⟨v,e1,e2⟩:=q.get ht;have:=y vs l.sq;rw[e1] at this;cases this;exact⟨aY.refl _,e2⟩
theorem UL{ts:List T}:Wk K (Itt K a) [(.tup ts,.ref a)] ts:=λH A hA h i=>by have h:=h _ dP;simp only[At] at h;obtain⟨b,vs,e,l,q⟩:=h;cases e;have hl:=q.length;refine⟨λhi=>⟨vs,vs[i]'(by omega),l,by simp⟩,λhi=>⟨vs,l,by omega⟩,λt ht x H' y=>?_⟩;obtain⟨rfl,y⟩:=y;obtain⟨v,e1,e2⟩:=q.get ht;have:=y vs l;rw[e1] at this;cases this;exact⟨aY.refl _,e2⟩
theorem UM{z:Str}:Wk K (Its z) [] (z.cps.toList.map λc=>T.str ⟨#[c]⟩):=λH A hA h i=>by refine⟨λhi=>by rw[c3,RB] at hi;exact hi,λhi=>by rw[c3,RB] at hi;exact Nat.le_of_eq hi,λt ht x H' y=>?_⟩;obtain⟨rfl,c,hc,rfl⟩:=y;rw[ie,Array.getElem?_toList,hc] at ht;cases ht;exact⟨aY.refl _,dy⟩
theorem j5{l:Expr}{f:FE}(h:VE X Z l f):VI X Z tg l (afN f):=.mk λtm=>PI.weak (UK (h tm)) λσ H R ⟨ρ,O,q,I,hf,k⟩=>⟨ρ,O,_,I,hf,λt ht v H' s a=>by split at ht;have a0:=a;simp only[At] at a;obtain⟨p,vs,rfl,l,_⟩:=a;exact .inl ⟨p,rfl,⟨vs,l.sq⟩,k _ ht _ H' _ s (λp hp=>by rw[jV.mp hp];exact a0) O3⟩;have a0:=a;simp only[At] at a;obtain⟨p,vs,rfl,l,_⟩:=a;exact .inr (.inl ⟨p,rfl,⟨vs,l⟩,k _ ht _ H' _ s (λp hp=>by rw[jV.mp hp];exact a0) UL⟩);have e:=a;simp only[At] at e;exact .inr (.inr ⟨_,e,k _ ht _ H' [] s (λp hp=>nomatch hp) UM⟩);exact ht.elim⟩
def rangeT(lo:Int)(n:Nat):List T:=(List.range n).map λi=>T.int (lo+((i:Nat):Int))
theorem zw{lo:Int}:Wk K (Y_ lo n) [] (rangeT lo n):=λH A hA h i=>by
 unfold rangeT;refine⟨λhi=>by rw[c3,NC] at hi;exact hi,λhi=>by rw[c3,NC] at hi;exact Nat.le_of_eq hi,λt ht x H' y=>?_⟩;obtain⟨rfl,rfl⟩:=y;rw[ie] at ht;cases e:(List.range n)[i]? with
 |none=>rw[e] at ht;cases ht
 |some j=>
  rw[e] at ht;have hj:j=i:=by have:=eW.mp e;obtain⟨h1,h2⟩:=this;simpa using h2.symm
  subst hj;cases ht;exact⟨aY.refl _,bC⟩
def pR1(ts:List T)(Q:List T->Prop):Prop:=match ts with
 |[.int j]=>-(2 ^ 62)<=j/\j<2 ^ 62/\Q (rangeT 0 j.toNat)
 |_=>False
def pR2(ts:List T)(Q:List T->Prop):Prop:=match ts with
 |[.int i,.int j]=>(-(2 ^ 62)<=i/\i<2 ^ 62/\-(2 ^ 62)<=j/\j<2 ^ 62)/\Q (rangeT i (j-i).toNat)
 |_=>False
def JJ(g:FA)(p:List T->(List T->Prop)->Prop):FI:=λρ Q=>g ρ λts=>p ts Q
theorem fP{a:Expr}{g:FE}{pos:Pos}(hg:Gl X "range")(hm:X.mg "range"=none)(ha:VR X Z a g)(hs:starEach [a] X.env=[(false,eval a X.env)]:=by rfl) :
  VI X Z tg (.Call (.Name "range" p) [a] [] pos) (JJ (eB g qk) pR1):=.mk λtm=>PI.weak (FV hg hm ((aA ha aK hs) tm) hs) λσ H R ⟨ρ,O,q,I,hf,k⟩=>⟨ρ,O,_,I,hf,λts gw vs H' s a=>by
 unfold pR1 at gw;split at gw;obtain⟨v,rfl,a1⟩:=eY a;exact⟨_,by rw[a1.int],gw.1,gw.2.1,k _ gw.2.2 _ H' [] s (λp hp=>nomatch hp) zw⟩;exact gw.elim⟩
theorem Gp{a:Expr}{g h:FE}{pos:Pos}(hg:Gl X "range")(hm:X.mg "range"=none)(ha:VR X Z a g)(hb:VR X Z b h)(hs:starEach [a,b] X.env=[(false,eval a X.env),(false,eval b X.env)]:=by rfl)(FY:starEach [b] X.env=[(false,eval b X.env)]:=by rfl) :
  VI X Z tg (.Call (.Name "range" p) [a,b] [] pos) (JJ (eB g (eB h qk)) pR2):=.mk λtm=>PI.weak (FW hg hm ((aA ha (aA hb aK FY) (by rw[hs,FY])) tm) hs FY) λσ H R ⟨ρ,O,q,I,hf,k⟩=>⟨ρ,O,_,I,hf,λts gw vs H' s a=>by
 unfold pR2 at gw;split at gw;obtain⟨v,w,rfl,a1,b1⟩:=O0 a;exact⟨_,_,by rw[a1.int,b1.int],gw.1,k _ gw.2 _ H' [] s (λp hp=>nomatch hp) zw⟩;exact gw.elim⟩
abbrev FG:=T->En->(En->Prop)->Prop
abbrev O5:=List T->En->(En->Prop)->Prop
def lG(X:Cx)(Z:Zc)(tm:List (T×V))(is:qao)(h:FG):TG:=λv σ H Q=>∃ρ O t q,ay X.K Z tm O ρ σ H/\At X.K H (av Z O) t v/\h t ρ q/\∀ρ',q ρ'->∀O' σ',ay X.K Z tm O' ρ' σ' H->(∀a∈roots O',a∈roots O)->(∀(j:Nat),j∉is->O'[j]?=O[j]?)->σ'.length=σ.length->(∀(j:Nat),j∉is->σ'[j]?=σ[j]?)->Q σ' H
def lGs(X:Cx)(Z:Zc)(tm:List (T×V))(is:qao)(h:O5):Oa:=λvs σ H Q=>∃ρ O ts q,ay X.K Z tm O ρ σ H/\aB X.K H (av Z O) ts vs/\h ts ρ q/\∀ρ',q ρ'->∀O' σ',ay X.K Z tm O' ρ' σ' H->(∀a∈roots O',a∈roots O)->(∀(j:Nat),j∉is->O'[j]?=O[j]?)->σ'.length=σ.length->(∀(j:Nat),j∉is->σ'[j]?=σ[j]?)->Q σ' H
def VG(X:Cx)(Z:Zc)(tg:Expr)(is:qao)(h:FG):Prop:=Bx λtm=>PG X tg (lG X Z tm is h)
instance{X:Cx}{Z:Zc}{tg:Expr}{is:qao}{h:FG}:CoeFun (VG X Z tg is h) λ_=>∀tm,PG X tg (lG X Z tm is h):=⟨λh=>Bx.h h⟩
def Z5(X:Cx)(Z:Zc)(tgs:qap)(is:qao)(h:O5):Prop:=Bx λtm=>I_ X tgs (lGs X Z tm is h)
instance{X:Cx}{Z:Zc}{tgs:qap}{is:qao}{h:O5}:CoeFun (Z5 X Z tgs is h) λ_=>∀tm,I_ X tgs (lGs X Z tm is h):=⟨λh=>Bx.h h⟩
def hName(i:Nat):FG:=λt ρ Q=>Q (ρ.set i (some (t,false)))
theorem bE{pos:Pos}(hN:X.N.Nodup)(hi:X.N[i]?=some x)(hx:Loc X.env.scope x)(hp:bO Z i)(hf:X.fn x=true\/X.env.scope.names.lookup x=some .local:=by first|exact .inl rfl|exact .inr rfl|assumption) :
  VG X Z (.Name x pos) [i] (hName i):=.mk λtm=>PG.weak (Ob hN hi hx hf) λv σ H Q ⟨ρ,O,t,q,I,a,h,k⟩ =>
 k _ h _ _ (I.put hp a) (cj i) (λj hj=>uc (λe=>hj (by simp[e]))) (by simp) λj hj=>uc (λe=>hj (by simp[e]))
def afO:O5:=λts ρ Q=>ts=[]/\Q ρ
def R8(h:FG)(hs:O5):O5:=λts ρ Q=>match ts with
 |t::r=>h t ρ λρ'=>hs r ρ' Q
 |[]=>False
def Z6(n:Nat)(h:O5):FG:=λt ρ Q=>match t with
 |.tup ts=>ts.length=n/\h ts ρ Q
 |_=>False
theorem nA:Z5 X Z [] [] afO:=.mk λtm=>I_.weak Oc λvs σ H Q ⟨ρ,O,ts,q,I,a,h,k⟩=>by
 obtain⟨rfl,h⟩:=h;have e:vs=[]:=by simpa only[aB] using a
 exact⟨e,k _ h O σ I (λ_ z=>z) (λ_ _=>rfl) rfl λ_ _=>rfl⟩
theorem eQ{js:qao}{h:FG}{hs:O5}(h1:VG X Z e is h)(h2:Z5 X Z es js hs)(hse:(assignEach (e::es) X.env).map (·.2)=assign e X.env::(assignEach es X.env).map (·.2):=by rfl):Z5 X Z (e::es) (is++js) (R8 h hs):=.mk λtm=>I_.weak (Ja (h1 tm) (h2 tm) hse) λvs σ H Q ⟨ρ,O,ts,q,I,a,hh,k⟩=>by
 unfold R8 at hh;split at hh;simp only[aB] at a;obtain⟨v,r,rfl,a1,a2⟩:=a;refine⟨v,r,rfl,ρ,O,_,_,I,a1,hh,λρ' hρ O' σ' I' ro eo l e=>⟨ρ',O',_,q,I',a2.a8 λb hb=>?_,hρ,λρ2 h2 O2 σ2 I2 ro2 eo2 l2 e2=>k ρ2 h2 O2 σ2 I2 (λa z=>ro a (ro2 a z)) (λj hj=>?_) (l2.trans l) λj hj=>?_⟩⟩;rcases cU.mp hb with z|z
 exact cC _ (ro b z);exact bW _ z;rw[cU,not_or] at hj;exact (eo2 j hj.2).trans (eo j hj.1);rw[cU,not_or] at hj;exact (e2 j hj.2).trans (e j hj.1);exact hh.elim
theorem rP{k:Nat}{h:O5}{pos:Pos}(hc:X.calm=true)(hh:Z5 X Z es is h)(hn:(assignEach es X.env).length=n:=by rfl)(Od:(assignEach es X.env).findIdx? (·.1)=none:=by rfl):VG X Z (.Tuple es k pos) is (Z6 n h):=.mk λtm=>PG.weak (TK hc (hh tm) hn Od) λv σ H Q ⟨ρ,O,t,q,I,a,h',kk⟩=>by unfold Z6 at h';split at h';simp only[At] at a;obtain⟨p,vs,rfl,s,a⟩:=a;exact⟨p,vs,rfl,s,a.length.trans h'.1,ρ,O,_,q,I,a,h'.2,kk⟩;exact h'.elim
def afP(f:FE)(h:FG):FS:=λd ρ=>f ρ λt=>h t ρ d.nx
theorem UN{tg:Expr}{f:FE}{h:FG}{pos:Pos}(he:VE X Z e f)(hg:VG X Z tg is h)(hs:swapsWithSole [tg] e pos.line X.env=pure false:=by rfl)(hw:swappedStores [tg] e X.env=pure none:=by rfl)(h1:(assignEach [tg] X.env).map (·.2)=[assign tg X.env]:=by rfl):VS X Z (.Assign [tg] e pos) (afP f h):=.mk λtm=>PS.weak (Jb (he tm) (hg tm) hs hw h1) λD σ H ⟨ρ,O,d,I,q,F⟩ =>
 ⟨ρ,O,_,I,q,λt ht v H' s a=>⟨ρ,O,t,_,I.same s,a,ht,λρ' hρ O' σ' I' _ _ _ _=>F.nx O' ρ' σ' H' I' hρ⟩⟩
def pQ(ts:List T)(h:FG)(g:FS):FS:=λd ρ=>∃Pv:Nat->En->Prop,Pv 0 ρ/\(∀(i:Nat) t ρ',ts[i]?=some t->Pv i ρ'->h t ρ' λρ2=>g {nx:=Pv (i+1),ct:=Pv (i+1),bk:=d.nx,rt:=d.rt} ρ2)/\∀ρ',Pv ts.length ρ'->d.nx ρ'
def afQ(f:FI)(h:FG)(g:FS):FS:=λd ρ=>f ρ λts=>pQ ts h g d ρ
theorem l9{body:qaq}{f:FI}{h:FG}{g:FS}{pos:Pos}(hp:PassesOwn (model X.prog X.w) X.A X.env X.xe)(hc:X.calm=true)(hi:VI X Z tg iter f)(hg:VG X Z tg is h)(hb:m5 X Z body g)(hs:∀x,foldedSetIterable iter X.env x=pure x:=by intro _;rfl):VS X Z (.For tg iter body [] pos) (afQ f h g):=by
 refine .mk λtm pins s σ H D I0 hw=>?_;obtain⟨ρ,O,d,I,q,F⟩:=hw;refine TN (wi:=lI X Z tm f) (g:=λv σ H Q=>∃cp,lG X Z (cp++tm) is h v σ H Q) (tb:=λD σ H=>∃cp,lS X Z (cp++tm) g D σ H) hp hc (hi tm) (λpins s σ H v u Q I r ⟨cp,z⟩=>hg (cp++tm) pins s σ H v u Q I r z) (λpins s σ H D I ⟨cp,z⟩=>hb (cp++tm) pins s σ H D I z) hs pins s σ H D I0 ?_;refine⟨ρ,O,_,I,q,λts gw J H' cp s a wk=>?_⟩;obtain⟨Pv,p0,step,fin⟩:=gw;have J0:ay X.K Z (cp++tm) O ρ σ H':=(I.same s).zv λp hp=>by
  rcases cU.mp hp with z|z
  exact a p z;exact (I.same s).rE p z
 refine⟨λi m σ H=>m=ts.length-i/\i<=ts.length/\∃ρ O,ay X.K Z (cp++tm) O ρ σ H/\Pv i ρ,⟨ts.length,by simp,jU _,ρ,O,J0,p0⟩,?_⟩;rintro i m σ1 H1 ⟨rfl,hi,ρ1,O1,I1,p1⟩;obtain⟨w1,w2,w3⟩:=wk H1 (av Z O1) I1.BC (λp hp=>I1.rE p (cC _ hp)) i;have un:∀{O:HD}{ρ:En}{σ:St}{H:Hp},ay X.K Z (cp++tm) O ρ σ H->ay X.K Z tm O ρ σ H:=λI=>I.zv λp hp=>I.rE p (bW _ hp);by_cases k7:i<ts.length;refine .inr ⟨w1 k7,λσ' H'=>∃ρ O,ay X.K Z (cp++tm) O ρ σ' H'/\Pv (i+1) ρ,λσ' H' ⟨ρ',O',I',p'⟩=>⟨ts.length-(i+1),by omega,rfl,k7,ρ',O',I',p'⟩,λx H2 y=>?_⟩;have e:ts[i]?=some ts[i]:=by simp[k7]
 obtain⟨s2,a2⟩:=w3 ts[i] e x H2 y;refine⟨cp,ρ1,O1,ts[i],_,I1.same s2,a2,step i _ ρ1 e p1,λρ2 h2 O2 σ2 I2 _ _ _ _=>⟨cp,ρ2,O2,_,I2,h2,?_⟩⟩;exact⟨λO ρ σ H I p=>⟨ρ,O,I,p⟩,λO ρ σ H r v z p=>F.rt O ρ σ H r v z.zv p,λO ρ σ H I p=>F.nx O ρ σ H (un I) p,λO ρ σ H I p=>⟨ρ,O,I,p⟩⟩;have e:i=ts.length:=by omega
 subst e;exact .inl ⟨w2 (rfl),F.nx O1 ρ1 σ1 H1 (un I1) (fin ρ1 p1)⟩
def UO(c:FB)(g:FS):FS:=λd ρ=>∃(Pv:Nat->En->Prop),(∃m,Pv m ρ)/\∀m ρ',Pv m ρ'->c ρ' λb=>if b=true then g {nx:=λρ2=>∃m',m'<m/\Pv m' ρ2,ct:=λρ2=>∃m',m'<m/\Pv m' ρ2,bk:=d.nx,rt:=d.rt} ρ' else d.nx ρ'
theorem JK{body:qaq}{fc:FB}{g:FS}{pos:Pos}(hp:PassesOwn (model X.prog X.w) X.A X.env X.xe)(hc:VC X Z c fc)(hb:m5 X Z body g):VS X Z (.While c body [] pos) (UO fc g):=.mk λtm=>PS.weak (zc hp (hc tm) (hb tm)) λD σ H ⟨ρ,O,d,I,q,F⟩=>by
 obtain⟨Pv,⟨m0,p0⟩,step⟩:=q;refine⟨λm σ H=>∃ρ O,ay X.K Z tm O ρ σ H/\Pv m ρ,⟨m0,ρ,O,I,p0⟩,?_⟩;rintro m σ1 H1 ⟨ρ1,O1,I1,p1⟩;refine⟨ρ1,O1,_,I1,step m ρ1 p1,λb hb H2 s2=>?_⟩;cases b with
 |true=>rw[if_pos rfl] at hb ⊢;refine⟨λσ' H'=>∃m',m'<m/\∃ρ O,ay X.K Z tm O ρ σ' H'/\Pv m' ρ,λσ' H' z=>z,ρ1,O1,_,I1.same s2,hb,?_⟩;exact⟨λO ρ σ H I ⟨m',hm,p⟩=>⟨m',hm,ρ,O,I,p⟩,F.rt,F.nx,λO ρ σ H I ⟨m',hm,p⟩=>⟨m',hm,ρ,O,I,p⟩⟩
 |false=>rw[if_neg jb] at hb ⊢;exact F.nx O1 ρ1 σ1 H2 (I1.same s2) hb
end
theorem fQ(O:HD)(n:Nat):roots (O++List.replicate n none)=roots O:=by
 unfold roots;rw[List.filterMap_append];have:(List.replicate n (none:qar)).filterMap id=[]:=by
  induction n with
  |zero=>rfl
  |succ n ih=>rw[ud,oh];exact ih
 rw[this,FD]
theorem ay.longer{Z:Zc}{tm:List (T×V)}{ρ:En}(I:ay K Z tm O ρ σ H)(n:Nat){τ:St}(hτ:τ.length=n) :
  ay K Z tm (O++List.replicate n none) (ρ++List.replicate n none) (σ++τ) H:=by
 have ea:av Z (O++List.replicate n none)=av Z O:=by unfold av;rw[fQ]
 refine⟨by simp[I.lσ,hτ],by simp[I.lO],λi e h=>?_,by rw[fQ];exact I.nd,λa h=>I.own a (by rw[fQ] at h;exact h),λp hp=>?_,I.ox,I.keep,λp hp=>by rw[ea];exact I.rE p hp⟩;rw[ea];by_cases hi:i<ρ.length;rw[oi hi] at h;obtain⟨o,s,h1,h2,h3⟩:=I.sl i e h;exact⟨o,s,by rw[oi (by rw[I.lO];exact hi)];exact h1,by rw[oi (by rw[I.lσ];exact hi)];exact h2,h3⟩;rw[qe (by omega),Fz] at h;split at h
 rename_i hl
 cases h;refine⟨none,τ[i-σ.length]'(by rw[I.lσ,hτ];exact hl),?_,?_,rfl⟩;rw[qe (by rw[I.lO];omega),Fz,if_pos (by rw[I.lO];exact hl)];rw[qe (by rw[I.lσ];omega)];simp;cases h;have:=I.par p hp;have hl:=(eW.mp this).1;rw[oi hl];exact this
theorem ay.UP{Z:Zc}{tm:List (T×V)}{ρ:En}{u o:HO}(I:ay K (Z.ex a) tm O ρ σ H)(hu:H a=some u)(hm:lz u=true)(h0:Z.H0 a=none):ay K (Z.ex a) tm O ρ σ (upd H a o):=by
 have OK:a∈av (Z.ex a) O:=bW _ dP;have nr:∀b∈roots O,b≠a:=λb hb e=>(I.own b hb).2.1 (by rw[e];exact dP);refine⟨I.lσ,I.lO,λi e h=>?_,I.nd,λb hb=>?_,I.par,λb hb=>?_,λb o' e n=>?_,λp hp=>(I.rE p hp).wrote OK hu hm⟩;obtain⟨o',s,h1,h2,h3⟩:=I.sl i e h;refine⟨o',s,h1,h2,h3.map (λ_ _ q=>q.wrote OK hu hm) λb t e q=>?_⟩;subst e;exact q.map (aE (nr b (aM.mpr (iw h1)))) λ_ _ z=>z.wrote OK hu hm;obtain⟨q1,q2,v,e,m⟩:=I.own b hb;exact⟨q1,q2,v,by rw[aE (nr b hb)];exact e,m⟩;by_cases e:b=a;subst e;rw[aH];simp;rw[aE e];exact I.ox b hb;have:b≠a:=λe'=>by subst e';have e2:Z.H0 b=some o':=e;rw[h0] at e2;cases e2
 rw[aE this];exact I.keep b o' e n
def cm(h:FG)(fc:FB)(fe:FE)(ρ:En):List T->(List T->Prop)->Prop
 |[],Q=>Q []
 |t::ts,Q=>h t ρ λρ2=>fc ρ2 λb=>if b=true then fe ρ2 λu=>cm h fc fe ρ ts λus=>Q (u::us) else cm h fc fe ρ ts Q
def zx(n:Nat)(is:qao)(f:FI)(h:FG)(fc:FB)(fe:FE):FP:=λρ Q=>(is.all λj=>decide (ρ.length<=j))=true/\f ρ λts=>ts.length<=sizeLine/\cm h fc fe (ρ++List.replicate n none) ts λus=>Q (.fr (.lst us))
def UQ(X:Cx)(Z:Zc)(ifs:qap)(f:FB):Prop:=Bx λtm=>Jt X ifs (lB X Z tm f)
instance{X:Cx}{Z:Zc}{ifs:qap}{f:FB}:CoeFun (UQ X Z ifs f) λ_=>∀tm,Jt X ifs (lB X Z tm f):=⟨λh=>Bx.h h⟩
def Gq:FB:=λ_ Q=>Q true
theorem Jt.weak{e:qap}{t t':TT}(h:Jt X e t)(hw:∀σ H Q,t' σ H Q->t σ H Q):Jt X e t':=λpins s σ H Q I q=>h pins s σ H Q I (hw _ _ _ q)
section
variable{Z:Zc}
theorem fm:UQ X Z [] Gq:=.mk λtm=>Jt.weak OC λσ H Q ⟨ρ,O,q,I,h,k⟩=>k true h H (aY.refl H)
theorem EC{f:FB}(h:VC X Z c f):UQ X Z [c] f:=.mk λtm=>OD (h tm)
def cG(X:Cx)(Z:Zc)(tm:List (T×V))(is:qao)(h:FG):TG:=λv σ H Q=>∃D cp,lG X (Z.ex D) (cp++tm) is h v σ H Q
def cB(X:Cx)(Z:Zc)(tm:List (T×V))(f:FB):TT:=λσ H Q=>∃D cp,lB X (Z.ex D) (cp++tm) f σ H Q
def cE(X:Cx)(Z:Zc)(tm:List (T×V))(f:FE):TE:=λσ H Q=>∃D cp,lE X (Z.ex D) (cp++tm) f σ H Q
theorem UR{Z:Zc}{tm cp:List (T×V)}{ρ:En}{H1:Hp}{D:Addr}{J:It}{ts:List T}{h:FG}{fc:FB}{fe:FE}{q:Rt->Prop}{Q:VK}(X:Cx)(hK:X.K=K)(I:ay K Z (cp++tm) O ρ σ H1)(hD:H1 D=none)(wk:Wk K J cp ts)(hz:ts.length<=sizeLine)(NQ:∀j∈is,ρ.length<=j)(hw:cm h fc fe (ρ++List.replicate n none) ts λus=>q (.fr (.lst us)))(k:∀r,q r->∀v H',aY H1 H'->il K Z tm O ρ σ H' r v->Q v H') :
  Ju J (cG X Z tm is h) (cB X Z tm fc) (cE X Z tm fe) n σ D (Q (.ref D)) H1:=by
 subst hK;obtain⟨n1,n2,n3⟩:=I.fresh hD;refine⟨λi m acc H2=>m=ts.length-i/\i<=ts.length/\aY H1 H2/\H2 D=some (.lst acc)/\∃us,aB X.K H2 (av (Z.ex D) O) us acc/\acc.length<=i/\ay X.K (Z.ex D) (cp++tm) O ρ σ H2/\cm h fc fe (ρ++List.replicate n none) (ts.drop i) λr=>q (.fr (.lst (us++r))),
  ⟨ts.length,by simp,jU _,aJ hD,aH,[],aB.nil,jU _,I.new hD rfl,by simpa using hw⟩,?_⟩
 rintro i m acc H2 ⟨rfl,hi,s2,hD2,us,a2,hl,I2,w2⟩;refine⟨hD2,?_⟩;obtain⟨w1,w2',w3⟩:=wk H2 (av (Z.ex D) O) I2.BC (λp hp=>I2.rE p (cC _ hp)) i;by_cases k7:i<ts.length;refine .inr ⟨w1 k7,by omega,λx H3 y=>?_⟩;have e:ts[i]?=some ts[i]:=by simp[k7]
 obtain⟨s3,a3⟩:=w3 ts[i] e x H3 y;rw[ace k7] at w2;have I3:=(I2.same s3).longer n (τ:=List.replicate n none) (by simp);have ea:av (Z.ex D) (O++List.replicate n none)=av (Z.ex D) O:=by unfold av;rw[fQ]
 refine⟨D,cp,_,_,ts[i],_,I3,by rw[ea];exact a3,w2,λρ4 hρ4 O4 σ4 I4 ro4 eo4 l4 e4=>⟨⟨?_,λj v hj=>?_⟩,D,cp,ρ4,O4,_,I4,hρ4,λb hb H5 s5=>?_⟩⟩;rw[l4];simp;have IK:=(eW.mp hj).1;have:j∉is:=λz=>by have:=NQ j z;have:=I.lσ;omega
 rw[e4 j this,oi IK];exact hj;have S5:=(s2.trans s3).trans s5;have J5:=(I2.same s3).same s5;cases b with
 |true=>
   rw[if_pos rfl] at hb;refine Uh ⟨D,cp,ρ4,O4,_,I4.same s5,hb,λu hu y H6 s6 a6=>?_⟩;have hD6:=s6 _ _ (s5 _ _ (s3 _ _ hD2));refine⟨hD6,ts.length-(i+1),by omega,rfl,k7,λb o e=>?_,aH,us++[u],?_,by simp;omega,(J5.same s6).UP hD6 rfl n3,?_⟩;rw[aE (bo e hD)];exact s6 _ _ (S5 _ _ e);have OK:D∈av (Z.ex D) O:=bW _ dP;have a6':At X.K H6 (av (Z.ex D) O) u y:=a6.a8 λb hb=>by
    rcases cU.mp hb with z|z
    obtain⟨j,hj⟩:=Ry.mp (aM.mp z);have IK:=(eW.mp hj).1;have nj:j∉is:=λz=>by have:=NQ j z;have:=I.lO;omega
    have:=eo4 j nj;rw[oi IK,hj] at this;exact cC _ (aM.mpr (iw this));exact bW _ z
   exact aB.wrote OK hD6 rfl ((((a2.same s3).same s5).same s6).append (aB.cons a6' aB.nil));have e2:∀r,(us++[u])++r=us++(u::r):=λr=>by simp
   simp only[e2];exact hu
 |false=>rw[if_neg jb] at hb;exact Ug ⟨ts.length-(i+1),by omega,rfl,k7,S5,s5 _ _ (s3 _ _ hD2),us,(a2.same s3).same s5,by omega,J5,hb⟩
 have e:i=ts.length:=by omega
 subst e;refine .inl ⟨w2' (rfl),?_⟩;rw[List.drop_length] at w2;simp only[cm,FD] at w2;refine k _ w2 _ H2 s2 ⟨D,rfl,I2.zv λp hp=>I2.rE p (bW _ hp),⟨acc,hD2,a2⟩,n3,n2⟩
theorem ED{tm:List (T×V)}{f:FI}{h:FG}{fc:FB}{fe:FE}{Q:VK}(hq:lP X Z tm (zx n is f h fc fe) σ H Q):Jv n (lI X Z tm f) (cG X Z tm is h) (cB X Z tm fc) (cE X Z tm fe) σ H Q:=by
 obtain⟨ρ,O,q,I,⟨NQ,hf⟩,k⟩:=hq;refine⟨ρ,O,_,I,hf,λts gw J H' cp s a wk D hD=>?_⟩;have I':ay X.K Z (cp++tm) O ρ σ H':=(I.same s).zv λp hp=>by
  rcases cU.mp hp with z|z
  exact a p z;exact (I.same s).rE p z
 refine UR X rfl I' hD wk gw.1 (λj hj=>?_) gw.2 λr hr v H2 s2 z=>k r hr v H2 (s.trans s2) z;have:=Tn.mp NQ j hj;exact of_decide_eq_true this
variable{ts:qai}{elt tg:Expr}{ifs:qap}{pos:Pos}{f:FI}{h:FG}{fc:FB}{fe:FE}
theorem iB(hc:X.calm=true)(hS:jZ X.N ts X.env.scope sc=true)(hi:VI X Z tg iter f)(hg:∀D cl C fp s H,VG (bB X ts sc cl C fp s H) (Z.ex D) tg is h)(ht:∀D cl C fp s H,UQ (bB X ts sc cl C fp s H) (Z.ex D) ifs fc)(he:∀D cl C fp s H,VE (bB X ts sc cl C fp s H) (Z.ex D) elt fe)(hs:∀x,foldedSetIterable iter X.env x=pure x:=by intro _;rfl):VP X Z (.ListComp elt [⟨tg,iter,ifs,0⟩] sc pos) (zx ts.length is f h fc fe):=.mk λtm=>
 PE.weak (OF hc hS (hi tm) (λcl C fp s H pins s' σ H' v u Q I r ⟨D,cp,z⟩=>hg D cl C fp s H (cp++tm) pins s' σ H' v u Q I r z) (λcl C fp s H pins s' σ H' Q I ⟨D,cp,z⟩=>ht D cl C fp s H (cp++tm) pins s' σ H' Q I z)
  (λcl C fp s H pins s' σ H' Q I ⟨D,cp,z⟩=>he D cl C fp s H (cp++tm) pins s' σ H' Q I z) hs) λσ H Q hq=>ED hq
theorem pR{py rp:Pos}(hN:X.N.Nodup)(hy:X.N[i]?=some y)(hx:Loc X.env.scope y)(hc:X.calm=true)(hS:jZ X.N ts X.env.scope sc=true)(hi:VI X Z tg iter f)(hg:∀D cl C fp s H,VG (bB X ts sc cl C fp s H) (Z.ex D) tg is h)(ht:∀D cl C fp s H,UQ (bB X ts sc cl C fp s H) (Z.ex D) ifs fc)(he:∀D cl C fp s H,VE (bB X ts sc cl C fp s H) (Z.ex D) elt fe)(Jx:swapsWith (.ListComp elt [⟨tg,iter,ifs,0⟩] sc pos) (some (.Name y py)) rp.line X.env=pure true)(hs:∀x,foldedSetIterable iter X.env x=pure x)(hf:X.fn y=true\/X.env.scope.names.lookup y=some .local)(tm:List (T×V)) :
  PS X (.Assign [.Name y py] (.ListComp elt [⟨tg,iter,ifs,0⟩] sc pos) rp) (Oe (lP X Z tm (zx ts.length is f h fc fe)) (lC i)) :=
 PS.weak (OG hN hy hx hc hS (hi tm) (λcl C fp s H pins s' σ H' v u Q I r ⟨D,cp,z⟩=>hg D cl C fp s H (cp++tm) pins s' σ H' v u Q I r z) (λcl C fp s H pins s' σ H' Q I ⟨D,cp,z⟩=>ht D cl C fp s H (cp++tm) pins s' σ H' Q I z)
  (λcl C fp s H pins s' σ H' Q I ⟨D,cp,z⟩=>he D cl C fp s H (cp++tm) pins s' σ H' Q I z) Jx hs hf) λD σ H hq=>ED hq
theorem qG{py rp:Pos}(hN:X.N.Nodup)(hy:X.N[i]?=some y)(hx:Loc X.env.scope y)(hc:X.calm=true)(hS:jZ X.N ts X.env.scope sc=true)(hi:VI X Z tg iter f)(hg:∀D cl C fp s H,VG (bB X ts sc cl C fp s H) (Z.ex D) tg is h)(ht:∀D cl C fp s H,UQ (bB X ts sc cl C fp s H) (Z.ex D) ifs fc)(he:∀D cl C fp s H,VE (bB X ts sc cl C fp s H) (Z.ex D) elt fe)(hp:bO Z i)(Jx:swapsWith (.ListComp elt [⟨tg,iter,ifs,0⟩] sc pos) (some (.Name y py)) rp.line X.env=pure true:=by rfl)(hs:∀x,foldedSetIterable iter X.env x=pure x:=by intro _;rfl)(hf:X.fn y=true\/X.env.scope.names.lookup y=some .local:=by first|exact .inl rfl|exact .inr rfl|assumption) :
  VS X Z (.Assign [.Name y py] (.ListComp elt [⟨tg,iter,ifs,0⟩] sc pos) rp) (Z1 i (fX (zx ts.length is f h fc fe))):=.mk λtm=>
 PS.weak (pR hN hy hx hc hS hi hg ht he Jx hs hf tm) λD σ H ⟨ρ,O,d,I,q,F⟩=>⟨ρ,O,_,I,q,λr hr v H' s z=>F.nx _ _ _ H' (z.env.put hp z.at) hr⟩
theorem JL{py rp:Pos}(hN:X.N.Nodup)(hy:X.N[i]?=some y)(hx:Loc X.env.scope y)(hc:X.calm=true)(hS:jZ X.N ts X.env.scope sc=true)(hi:VI X Z tg iter f)(hg:∀D cl C fp s H,VG (bB X ts sc cl C fp s H) (Z.ex D) tg is h)(ht:∀D cl C fp s H,UQ (bB X ts sc cl C fp s H) (Z.ex D) ifs fc)(he:∀D cl C fp s H,VE (bB X ts sc cl C fp s H) (Z.ex D) elt fe)(hp:bO Z i)(Jx:swapsWith (.ListComp elt [⟨tg,iter,ifs,0⟩] sc pos) (some (.Name y py)) rp.line X.env=pure true:=by rfl)(hs:∀x,foldedSetIterable iter X.env x=pure x:=by intro _;rfl)(hf:X.fn y=true\/X.env.scope.names.lookup y=some .local:=by first|exact .inl rfl|exact .inr rfl|assumption) :
  VS X Z (.Assign [.Name y py] (.ListComp elt [⟨tg,iter,ifs,0⟩] sc pos) rp) (Z2 i (fX (zx ts.length is f h fc fe))):=.mk λtm=>
 PS.weak (pR hN hy hx hc hS hi hg ht he Jx hs hf tm) λD σ H ⟨ρ,O,d,I,q,F⟩=>⟨ρ,O,_,I,q,λr hr v H' s z=>by
  cases r with
  |fr t=>obtain⟨a,rfl,J,hR,h0,NO⟩:=z;exact F.nx _ _ _ H' (J.ZR hp hR h0 NO) hr
  |vw t=>exact (show False from hr).elim⟩
theorem vN{h:FG}{fc:FB}{fe:FE}{ρ:En}{ts:List T}{Q:List T->Prop}(p:T->Bool)(u:T->T)(step:∀t∈ts,∀k:List T->Prop,∀r:List T->Prop,(if p t=true then r [u t] else r [])->h t ρ λρ2=>fc ρ2 λb=>if b=true then fe ρ2 λx=>r [x] else r [])(hq:Q ((ts.filter p).map u)):cm h fc fe ρ ts Q:=by
 induction ts generalizing Q with
 |nil=>exact hq
 |cons t ts ih=>
  have st:=step t dP (λ_=>True) (λl=>match l with
   |[x]=>cm h fc fe ρ ts λus=>Q (x::us)
   |_=>cm h fc fe ρ ts Q)
  have rest:∀{Q':List T->Prop},Q' ((ts.filter p).map u)->cm h fc fe ρ ts Q':=λhq=>ih (λt ht=>step t (ic _ ht)) hq;simp only[cm];refine st ?_;by_cases hp:p t=true;rw[if_pos hp];refine rest ?_;rw[YH hp] at hq;exact hq;rw[if_neg hp];refine rest ?_;rw[acq hp] at hq;exact hq
end
def gY(K:qaf)(H:Hp)(A:qah):List Bool->qah->List T->qak->Prop
 |[],as,ts,vs=>as=[]/\ts=[]/\vs=[]
 |false::fs,as,ts,vs=>∃t lZ v j6,ts=t::lZ/\vs=v::j6/\At K H A t v/\gY K H A fs as lZ j6
 |true::fs,as,ts,vs=>∃a vO t lZ j6,as=a::vO/\ts=t::lZ/\vs=.ref a::j6/\cW K H A a t/\gY K H A fs vO lZ j6
def Z7(K:qaf)(H:Hp)(as Ox:qah)(H':Hp)(us:List T):Rt->V->Prop
 |.vw t,v=>At K H' (as++Ox) t v/\Paired (λa u=>cW K H' (as++Ox) a u) as us
 |.fr t,v=>∃b,v=.ref b/\H b=none/\b∉as/\cW K H' (b::(as++Ox)) b t/\Paired (λa u=>cW K H' (b::(as++Ox)) a u) as us
abbrev GT:=List T->(List T->Rt->Prop)->Prop
def Ca(K:qaf)(fs:List Bool)(G:GT):Sp:=λvs H Q _=>∃ts as Ox q,as.Nodup/\(∀a∈as,a∉Ox)/\(∀a∈Ox,H a≠none)/\gY K H (as++Ox) fs as ts vs/\G ts q /\
 ∀us r,q us r->∀v H',(∀b o,H b=some o->b∉as->H' b=some o)->Z7 K H as Ox H' us r v->Q v H'
def ro:List Bool->qah->HD
 |[],_=>[]
 |false::fs,as=>none::ro fs as
 |true::fs,a::as=>some a::ro fs as
 |true::fs,[]=>none::ro fs []
def pz:List Bool->qah->Nat->List (Nat×Addr)
 |[],_,_=>[]
 |false::fs,as,k=>pz fs as (k+1)
 |true::fs,a::as,k=>(k,a)::pz fs as (k+1)
 |true::fs,[],k=>pz fs [] (k+1)
def zy:List Bool->List T->En
 |f::fs,t::ts=>some (t,f)::zy fs ts
 |_,_=>[]
def nB:List Bool->En->List T
 |[],_=>[]
 |false::fs,ρ=>nB fs ρ.tail
 |true::fs,some (t,_)::ρ=>t::nB fs ρ
 |true::fs,ρ=>.aP::nB fs ρ.tail
section
variable{A:qah}
theorem j7:∀{fs:List Bool}{as:qah}{ts:List T}{vs:qak},gY K H A fs as ts vs->ts.length=fs.length/\vs.length=fs.length/\(ro fs as).length=fs.length/\(zy fs ts).length=fs.length/\roots (ro fs as)=as
 |[],as,ts,vs,h=>by obtain⟨rfl,rfl,rfl⟩:=h;exact⟨rfl,rfl,rfl,rfl,rfl⟩
 |false::fs,as,ts,vs,h=>by obtain⟨t,lZ,v,j6,rfl,rfl,_,h⟩:=h;obtain⟨h1,h2,h3,h4,h5⟩:=j7 h;exact⟨by simp[h1],by simp[h2],by simp[ro,h3],by simp[zy,h4],by simpa[ro,roots] using h5⟩
 |true::fs,as,ts,vs,h=>by obtain⟨a,vO,t,lZ,j6,rfl,rfl,rfl,_,h⟩:=h;obtain⟨h1,h2,h3,h4,h5⟩:=j7 h;refine⟨by simp[h1],by simp[h2],by simp[ro,h3],by simp[zy,h4],?_⟩;simp only[ro,roots,oh,id] at h5 ⊢;rw[h5]
theorem rQ:∀{fs:List Bool}{as:qah}{ts:List T}{vs:qak},gY K H A fs as ts vs->∀(i:Nat) e,(zy fs ts)[i]?=some e->∃o s,(ro fs as)[i]?=some o/\(vs.map some)[i]?=some s/\oz K H A e o s
 |[],as,ts,vs,h,i,e,he=>by simp[zy] at he
 |false::fs,as,ts,vs,h,i,e,he=>by
  obtain⟨t,lZ,v,j6,rfl,rfl,a,h⟩:=h;cases i with
  |zero=>simp only[zy,abW,Option.some.injEq] at he;subst he;exact⟨none,some v,rfl,rfl,rfl,v,rfl,a⟩
  |succ i=>exact rQ h i e (by simpa[zy] using he)
 |true::fs,as,ts,vs,h,i,e,he=>by
  obtain⟨a,vO,t,lZ,j6,rfl,rfl,rfl,r,h⟩:=h;cases i with
  |zero=>simp only[zy,abW,Option.some.injEq] at he;subst he;exact⟨some a,some (.ref a),rfl,rfl,a,rfl,rfl,r⟩
  |succ i=>exact rQ h i e (by simpa[zy] using he)
theorem oC:∀{fs:List Bool}{as:qah}{ts:List T}{vs:qak},gY K H A fs as ts vs->∀a∈as,∃t,cW K H A a t
 |[],as,ts,vs,h,a,ha=>by obtain⟨rfl,rfl,rfl⟩:=h;cases ha
 |false::fs,as,ts,vs,h,a,ha=>by obtain⟨t,lZ,v,j6,rfl,rfl,_,h⟩:=h;exact oC h a ha
 |true::fs,as,ts,vs,h,a,ha=>by
  obtain⟨b,vO,t,lZ,j6,rfl,rfl,rfl,r,h⟩:=h;rcases c4.mp ha with z|z
  subst z;exact⟨t,r⟩;exact oC h a z
theorem JM:∀{fs:List Bool}{as:qah}{ts:List T}{vs:qak}(k:Nat),gY K H A fs as ts vs->(pz fs as k).map (·.2)=as/\∀p∈pz fs as k,k<=p.1/\(ro fs as)[p.1-k]?=some (some p.2)
 |[],as,ts,vs,k,h=>by obtain⟨rfl,rfl,rfl⟩:=h;exact⟨rfl,λ_ z=>nomatch z⟩
 |false::fs,as,ts,vs,k,h=>by
  obtain⟨t,lZ,v,j6,rfl,rfl,_,h⟩:=h;obtain⟨h1,h2⟩:=JM (k+1) h;refine⟨h1,λp hp=>?_⟩;obtain⟨l,e⟩:=h2 p hp;refine⟨by omega,?_⟩;have:p.1-k=(p.1-(k+1))+1:=by omega
  rw[this];simpa[ro] using e
 |true::fs,as,ts,vs,k,h=>by
  obtain⟨a,vO,t,lZ,j6,rfl,rfl,rfl,_,h⟩:=h;obtain⟨h1,h2⟩:=JM (k+1) h;refine⟨by simp[pz,h1],λp hp=>?_⟩;rcases c4.mp hp with z|z
  subst z;exact⟨c_ _,by simp[ro]⟩;obtain⟨l,e⟩:=h2 p z;refine⟨by omega,?_⟩;have:p.1-k=(p.1-(k+1))+1:=by omega
  rw[this];simpa[ro] using e
theorem xc{R:Addr->T->Prop}{ρ:En}:∀{fs:List Bool}{as:qah}{ts:List T}{vs:qak}(k:Nat),gY K H A fs as ts vs->(∀p∈pz fs as k,∃t,ρ[p.1]?=some (some (t,true))/\R p.2 t)->Paired R as (nB fs (ρ.drop k))
 |[],as,ts,vs,k,h,_=>by obtain⟨rfl,rfl,rfl⟩:=h;exact .nil
 |false::fs,as,ts,vs,k,h,q=>by obtain⟨t,lZ,v,j6,rfl,rfl,_,h⟩:=h;have:=xc (k+1) h q;simp only[nB,List.tail_drop];exact this
 |true::fs,as,ts,vs,k,h,q=>by
  obtain⟨a,vO,t,lZ,j6,rfl,rfl,rfl,_,h⟩:=h;have:=xc (ρ:=ρ) (k+1) h λp hp=>q p (ic _ hp);obtain⟨u,e,r⟩:=q (k,a) dP;have hk:k<ρ.length:=(eW.mp e).1;have e2:ρ[k]=some (u,true):=by rw[lT hk] at e;exact Option.some.inj e
  rw[ace hk,e2];exact .cons r this
end
theorem JN{N:qai}{fs:List Bool}{as:qah}{ts:List T}{Q:VK}{q:List T->Rt->Prop}{g:FS}(nd:as.Nodup)(nx:∀a∈as,a∉Ox)(ox:∀a∈Ox,H a≠none)(ha:gY X.K H (as++Ox) fs as ts vs)(kk:∀us r,q us r->∀v H',(∀b o,H b=some o->b∉as->H' b=some o)->Z7 X.K H as Ox H' us r v->Q v H')(hq:g {nx:=λρ=>q (nB fs ρ) (.vw .aP),rt:=λρ r=>q (nB fs ρ) r} (zy fs ts++List.replicate (N.length-ts.length) none)) :
  lS X ⟨H,pz fs as 0,Ox⟩ [] g {nx:=λ_ H'=>Q .aP H',rt:=Q} (start N vs) H:=by
 obtain⟨K,eK⟩:∃K,K=X.K:=⟨_,rfl⟩;unfold lS;rw[<- eK] at ha kk ⊢;obtain⟨l1,l2,l3,l4,l5⟩:=j7 ha;obtain⟨p1,p2⟩:=JM 0 ha;have ea:av ⟨H,pz fs as 0,Ox⟩ (ro fs as++List.replicate (N.length-ts.length) none)=as++Ox:=by unfold av;rw[fQ,l5]
 have ag8:∀H0 P (O:HD),av ⟨H0,P,Ox⟩ O=roots O++Ox:=λ_ _ _=>rfl;have I0:ay K ⟨H,pz fs as 0,Ox⟩ [] (ro fs as++List.replicate (N.length-ts.length) none) (zy fs ts++List.replicate (N.length-ts.length) none) (start N vs) H:=by
  refine⟨?_,?_,λi e he=>?_,by rw[fQ,l5];exact nd,λa h=>?_,λp hp=>?_,ox,λb o e _=>e,λp hp=>nomatch hp⟩;unfold L2.start;simp[l2,l4,l1];simp[l3,l4];rw[ea];by_cases hi:i<fs.length;rw[oi (by rw[l4];exact hi)] at he;obtain⟨o,s,h1,h2,h3⟩:=rQ ha i e he;refine⟨o,s,by rw[oi (by rw[l3];exact hi)];exact h1,?_,h3⟩;unfold L2.start;rw[oi (by rw[c3,l2];exact hi)];exact h2;rw[List.getElem?_append_right (by omega),Fz] at he;split at he
  rename_i hl
  cases he;refine⟨none,none,?_,?_,rfl⟩;rw[qe (by omega),Fz,if_pos (by rw[l3];rw[l4] at hl;exact hl)];unfold L2.start;rw[qe (by rw[c3];omega),Fz,c3,if_pos (by rw[l2];rw[l4,l1] at hl;exact hl)];cases he;rw[fQ,l5] at h;obtain⟨t,r⟩:=oC ha a h;exact⟨.inl (by show a∈(pz fs as 0).map (·.2);rw[p1];exact h),nx a h,r.mut⟩;obtain⟨_,e⟩:=p2 p hp;rw[Nat.sub_zero] at e;rw[oi (eW.mp e).1];exact e
 have fin:∀{O:HD}{ρ:En}{σ:St}{H':Hp}{Z':Zc},Z'.P=pz fs as 0->ay K Z' [] O ρ σ H'->Paired (λa u=>cW K H' (av Z' O) a u) as (nB fs ρ):=λ{O ρ σ H' Z'} eP I=>by
  have:=xc (ρ:=ρ) (R:=λa u=>cW K H' (av Z' O) a u) 0 ha λp hp=>?_;rw[List.drop_zero] at this;exact this;have e:=I.par p (by rw[eP];exact hp);have hl:=(eW.mp e).1;have y':p.1<ρ.length:=by rw[<- I.lO];exact hl
  obtain⟨o,s',h1,h2,h3⟩:=I.sl p.1 ρ[p.1] (by simp);rw[e] at h1;cases h1;cases q:ρ[p.1] with
  |none=>rw[q] at h3;cases h3
  |some tb=>
    obtain⟨t,b⟩:=tb;rw[q] at h3;cases b with
    |false=>cases h3.1
    |true=>obtain⟨a',e1,_,r⟩:=h3;cases e1;exact⟨t,by rw[<- q];simp,r⟩
 have keep:∀{O:HD}{ρ:En}{σ:St}{H':Hp}{Z':Zc},Z'.H0=H->Z'.P=pz fs as 0->ay K Z' [] O ρ σ H'->∀b o,H b=some o->b∉as->H' b=some o:=λe0 eP I b o e n=>I.keep b o (by rw[e0];exact e) (by rw[eP,p1];exact n);have sub:∀{O:HD}{ρ:En}{σ:St}{H':Hp}{Z':Zc},Z'.P=pz fs as 0->ay K Z' [] O ρ σ H'->∀a∈as,a∈roots O:=λeP I a h=>by
  have:a∈(pz fs as 0).map (·.2):=by rw[p1];exact h
  obtain⟨p,hp,rfl⟩:=vz.mp this;exact aM.mpr (iw (I.par p (by rw[eP];exact hp)))
 refine⟨_,_,_,I0,hq,⟨λO ρ σ H' I h=>?_,λO ρ σ H' r v z h=>?_,λ_ _ _ _ _ h=>h.elim,λ_ _ _ _ _ h=>h.elim⟩⟩;have sb:∀a∈as++Ox,a∈av ⟨H,pz fs as 0,Ox⟩ O:=λa h=>by
  rcases cU.mp h with h|h
  exact cC _ (sub rfl I a h);exact bW _ h
 exact kk _ _ h .aP H' (keep rfl rfl I) ⟨wY,Paired.oj (fin rfl I) λ_ _ q=>q.a8 sb⟩;cases r with
 |vw t=>
   obtain⟨I,a⟩:=z;have sb:∀a∈as++Ox,a∈av ⟨H,pz fs as 0,Ox⟩ O:=λa h=>by
    rcases cU.mp h with h|h
    exact cC _ (sub rfl I a h);exact bW _ h
   exact kk _ _ h v H' (keep rfl rfl I) ⟨a.a8 sb,Paired.oj (fin rfl I) λ_ _ q=>q.a8 sb⟩
 |fr t=>
   obtain⟨b,rfl,I,hR,h0,hx⟩:=z;have sb:∀a∈b::(as++Ox),a∈av (Zc.ex ⟨H,pz fs as 0,Ox⟩ b) O:=λa h=>by
    rcases c4.mp h with h|h
    rw[h];exact bW _ dP;rcases cU.mp h with h|h
    exact cC _ (sub rfl I a h);exact bW _ (ic _ h)
   exact kk _ _ h (.ref b) H' (keep rfl rfl I) ⟨b,rfl,h0,λhb=>(I.own b (sub rfl I b hb)).2.1 dP,hR.a8 sb,Paired.oj (fin rfl I) λ_ _ q=>q.a8 sb⟩
section
theorem fnV{st:Stmt}{N:qai}{k:Nat}{fs:List Bool}{G:GT}(F:Ew K x qual st f fd)(S:az N ps (ai st))(hfs:fs.length=ps.length)(eJ:∀(bz:Value) (A:Around) (outer:List Env) (s:Shared) (H:Hp) (E:XK) (as Ox:qah),bA k (A.deeper (envOfC qual (ai st) s.heap.objs.size f bz))->∀ts q,ts.length=fs.length->G ts q ->
    ∃g,m5 (gK fG P w K mg base N qual (ai st) f bz A outer s H E).qX ⟨H,pz fs as 0,Ox⟩ (bM st) g/\g {nx:=λρ=>q (nB fs ρ) (.vw .aP),rt:=λρ r=>q (nB fs ρ) r} (zy fs ts++List.replicate (N.length-ts.length) none)) :
  bY P w K mg base fG (k+1) f fd ps (Ca K fs G):=by
 refine F.ok S (λvs H Q E h=>?_) (λbz A outer s H vs Q E hr h=>?_);obtain⟨ts,as,Ox,q,_,_,_,ha,_⟩:=h;rw[<- hfs];exact (j7 ha).2.1;obtain⟨ts,as,Ox,q,nd,nx,ox,ha,hG,kk⟩:=h;have l1:=(j7 ha).1;obtain⟨g,hg,hq⟩:=eJ bz A outer s H E as Ox hr ts q l1 hG;exact⟨_,hg [],JN nd nx ox ha kk hq⟩
end
def c8(K:qaf)(n:Nat)(G:List T->(Rt->Prop)->Prop):Sp:=Ca K (List.replicate n false) λts q=>G ts (q [])
section
variable{A:qah}
theorem jm:∀{n:Nat}{ts:List T}{vs:qak},ts.length=n->aB K H A ts vs->gY K H A (List.replicate n false) [] ts vs
 |0,ts,vs,l,h=>by have e:ts=[]:=Rz.mp l;subst e;simp only[aB] at h;exact⟨rfl,rfl,h⟩
 |n+1,ts,vs,l,h=>by
  cases ts with
  |nil=>simp at l
  |cons t ts=>simp only[aB] at h;obtain⟨v,r,rfl,h1,h2⟩:=h;exact⟨t,ts,v,r,rfl,rfl,h1,jm (by simpa using l) h2⟩
end
theorem ay.R9{Z:Zc}{tm:List (T×V)}{ρ:En}(I:ay K Z tm O ρ σ H)(h:H a=none)(s:aY H H'){u:HO}(hu:H' a=some u):ay K (Z.ex a) tm O ρ σ H':=by
 have J:=I.same s;obtain⟨n1,n2,n3⟩:=I.fresh h;have mr:∀b∈av (Z.ex a) O,b∈av Z O\/H b=none:=λb hb=>(dS b hb).imp id λe=>by rw[e];exact h
 have fw:∀{t:T}{v:V},At K H (av Z O) t v->At K H' (av (Z.ex a) O) t v:=λq=>(q.more mr).same s;refine⟨J.lσ,J.lO,λi e hi=>?_,J.nd,λb hb=>?_,J.par,λb hb=>?_,J.keep,λp hp=>fw (I.rE p hp)⟩;obtain⟨o,w,h1,h2,h3⟩:=I.sl i e hi;refine⟨o,w,h1,h2,h3.map (λ_ _ q=>fw q) λb t eo q=>?_⟩;exact cW.same (q.map rfl λ_ _ z=>z.more mr) s;obtain⟨q1,q2,q3⟩:=J.own b hb;refine⟨q1,λz=>?_,q3⟩;rcases c4.mp z with z|z
 exact n1 (by rw[<- z];exact cC _ hb);exact q2 z;rcases c4.mp hb with z|z
 rw[z,hu];simp;exact J.ox b z
def JO(n:Nat)(g:FA)(G:List T->(Rt->Prop)->Prop):FP:=λρ Q=>g ρ λts=>ts.length=n/\G ts Q
section
variable{Z:Zc}{k:Nat}{G:List T->(Rt->Prop)->Prop}{pos:Pos}{g:FA}
theorem EE{tm:List (T×V)}{ρ:En}{ts:List T}{q:Rt->Prop}{Q:VK}(I:ay X.K Z tm O ρ σ H)(a:aB X.K H (av Z O) ts vs)(hn:ts.length=n)(hG:G ts q)(k:∀r,q r->∀v H',aY H H'->il X.K Z tm O ρ σ H' r v->Q v H'):c8 X.K n G (vs++[]) H Q E0:=by
 rw[FD];refine⟨ts,[],av Z O,λ_ r=>q r,N4,λ_ z=>absurd z gD,I.BC,jm hn a,hG,λus r hr v H' fr z=>?_⟩;have s:aY H H':=λb o e=>fr b o e gD;cases r with
 |vw t=>exact k _ hr v H' s ⟨I.same s,z.1⟩
 |fr t=>
  obtain⟨b,rfl,hb,_,hR,_⟩:=z;obtain⟨n1,n2,n3⟩:=I.fresh hb;obtain⟨u,eu,_⟩:=hR.mut;refine k _ hr _ H' s ⟨b,rfl,I.R9 hb s eu,hR.a8 λc hc=>?_,n3,n2⟩;rcases dS c hc with z|z
  exact ic _ z;rw[z];exact dP
theorem aQ(F:bY X.prog X.w X.K X.mg X.base fG k f fd ps (c8 X.K n G))(hr:bA k X.A)(hg:Gl X x)(hm:X.mg x=some (.ref f))(hk:PySem.W.keepIn X.K (.ref f)=true)(hb:Binds X.K fd ps [])(ha:VA X Z (e::es) g)(q_:jD x:=by decide)(he:starEach (e::es) X.env=(false,eval e X.env)::starEach es X.env:=by rfl)(jF:(backTo pos (starEach es X.env)).any (·.1)=false:=by rfl) :
  VP X Z (.Call (.Name x p) (e::es) [] pos) (JO n g G):=.mk λtm=>PE.weak (nq F hr hg hm hk hb .nil lF (ha tm) q_ he jF) λσ H Q ⟨ρ,O,q,I,hf,k⟩ =>
 ⟨ρ,O,_,I,hf,λts gw vs H1 s1 a1=>EE (I.same s1) a1 gw.1 gw.2 λr hr v H' s z=>k r hr v H' (s1.trans s) z⟩
end
def AM(K:qaf)(H:Hp)(A:qah)(O:HD)(ρ:En):List (Option Nat)->List T->qak->Prop
 |[],ts,vs=>ts=[]/\vs=[]
 |none::ms,ts,vs=>∃t lZ v j6,ts=t::lZ/\vs=v::j6/\At K H A t v/\AM K H A O ρ ms lZ j6
 |some k::ms,ts,vs=>∃a t lZ j6,ts=t::lZ/\vs=.ref a::j6/\ρ[k]?=some (some (t,true))/\O[k]?=some (some a)/\AM K H A O ρ ms lZ j6
def lAM(X:Cx)(Z:Zc)(tm:List (T×V))(ms:List (Option Nat))(f:FA):TA:=λσ H Q=>∃ρ O q,ay X.K Z tm O ρ σ H/\f ρ q/\∀ts,q ts->∀vs H',aY H H'->AM X.K H' (av Z O) O ρ ms ts vs->Q vs H'
def UT(X:Cx)(Z:Zc)(es:qap)(ms:List (Option Nat))(f:FA):Prop:=Bx λtm=>PA X es (lAM X Z tm ms f)
instance{X:Cx}{Z:Zc}{es:qap}{ms:List (Option Nat)}{f:FA}:CoeFun (UT X Z es ms f) λ_=>∀tm,PA X es (lAM X Z tm ms f):=⟨λh=>Bx.h h⟩
def JP(i:Nat):FE:=λρ Q=>match ρ[i]? with
 |some (some (t,true))=>Q t
 |_=>False
section
variable{Z:Zc}{g:FA}
theorem O6:UT X Z [] [] qk:=.mk λtm=>PA.weak c6 λσ H Q ⟨ρ,O,q,I,hf,k⟩=>k _ hf [] H (aY.refl H) ⟨rfl,rfl⟩
theorem rR{ms:List (Option Nat)}{f:FE}(h:VE X Z e f)(h':UT X Z es ms g)(hs:starEach (e::es) X.env=(false,eval e X.env)::starEach es X.env:=by rfl):UT X Z (e::es) (none::ms) (eB f g) :=
 .mk λtm=>PA.weak (bD (h tm) (h' tm) hs) λσ H Q ⟨ρ,O,q,I,hf,k⟩=>⟨ρ,O,_,I,hf,λt ht v H1 s1 a1=>⟨ρ,O,_,I.same s1,ht,λts gw vs H2 s2 a2=>k _ gw _ H2 (s1.trans s2) ⟨t,ts,v,vs,rfl,rfl,a1.same s2,a2⟩⟩⟩
theorem EF(j:Nat){ms:List (Option Nat)}{py:Pos}(h':UT X Z es ms g)(hN:X.N[j]?=some y:=by rfl)(hv:mZ X.env.scope y:=by first|exact Or.inl rfl|exact Or.inr (Or.inl rfl)|exact Or.inr (Or.inr rfl))(hd:jD y:=by decide)(ig:yT y:=by decide)(hs:starEach (.Name y py::es) X.env=(false,eval (.Name y py) X.env)::starEach es X.env:=by rfl):UT X Z (.Name y py::es) (some j::ms) (eB (JP j) g) :=
 .mk λtm=>PA.weak (bD (bX hN hv hd ig) (h' tm) hs) λσ H Q ⟨ρ,O,q,I,hf,k⟩=>by
  have hf':JP j ρ λt=>g ρ λts=>q (t::ts):=hf;unfold JP at hf';split at hf'
  rename_i t e0
  obtain⟨a,h1,h2,h3⟩:=I.root e0;exact⟨.ref a,h2,ρ,O,_,I,hf',λts gw vs H2 s2 a2=>k _ gw _ H2 s2 ⟨a,t,ts,vs,rfl,rfl,e0,h1,a2⟩⟩;exact hf'.elim
end
def putK:qao->List T->En->En
 |k::ks,u::us,ρ=>putK ks us (ρ.set k (some (u,true)))
 |_,_,ρ=>ρ
theorem rS:∀(ks:qao)(us:List T)(ρ:En),(putK ks us ρ).length=ρ.length
 |[],_,_=>rfl
 |_::_,[],_=>rfl
 |k::ks,u::us,ρ=>by rw[putK,rS];simp
theorem zz:∀{ks:qao}{us:List T}{ρ:En}{i:Nat}{e:Option (T×Bool)},ks.Nodup->ks.length=us.length->(putK ks us ρ)[i]?=some e->(i∉ks/\ρ[i]?=some e)\/∃(j:Nat)(u:T),ks[j]?=some i/\us[j]?=some u/\e=some (u,true)
 |[],us,ρ,i,e,_,_,h=>.inl ⟨gD,h⟩
 |k::ks,[],ρ,i,e,_,l,h=>by simp at l
 |k::ks,u::us,ρ,i,e,nd,l,h=>by
  rw[mW] at nd;rcases zz nd.2 (by simpa using l) (show (putK ks us (ρ.set k (some (u,true))))[i]?=some e from h) with⟨h1,h2⟩|⟨j,u',h1,h2,h3⟩
  rcases get_set h2 with⟨rfl,rfl,_⟩|⟨ne,h2⟩
  exact .inr ⟨0,u,rfl,rfl,rfl⟩;exact .inl ⟨λz=>by rcases c4.mp z with z|z;exact ne z;exact h1 z,h2⟩;exact .inr ⟨j+1,u',by simpa using h1,by simpa using h2,h3⟩
section
variable{A:qah}
theorem At.rT{as:qah}{t:T}(fr:∀b o,H b=some o->b∉as->H' b=some o)(sub:∀a∈as,a∈A)(mu:∀a∈as,∃u,H a=some u/\lz u=true)(h:At K H A t v):At K H' A t v:=by
 refine At.map (λb vs q=>?_) (λb vs q=>?_) (λb a_ q=>?_) h;obtain q|q:=q
 refine .inl ⟨?_,q.2⟩;have nb:b∉as:=λz=>q.2 (sub b z);obtain z|⟨o',z⟩:=q.1
 exact .inl (fr _ _ z nb);exact .inr ⟨o',fr _ _ z nb⟩;exact .inr q;obtain z|z:=q
 refine .inl ?_;have nb:b∉as:=λm=>by
  obtain⟨u,eu,mu⟩:=mu b m;obtain z|⟨o',z⟩:=z
  rw[z] at eu;cases eu;cases mu;rw[z] at eu;cases eu;cases mu
 obtain z|⟨o',z⟩:=z
 exact .inl (fr _ _ z nb);exact .inr ⟨o',fr _ _ z nb⟩;exact .inr z;exact⟨fr _ _ q.1 λz=>q.2 (sub b z),q.2⟩
theorem AM.args{A':qah}{O:HD}{ρ:En}(sub:∀a∈A',a∈A)(hr:∀(k:Nat) t,ρ[k]?=some (some (t,true))->∃a,O[k]?=some (some a)/\cW K H A a t):∀{ms:List (Option Nat)}{ts:List T}{vs:qak},AM K H A O ρ ms ts vs ->
  ∃as,gY K H A' (ms.map Option.isSome) as ts vs/\Paired (λa k=>O[k]?=some (some a)) as (ms.filterMap id)
 |[],ts,vs,h=>⟨[],⟨rfl,h.1,h.2⟩,.nil⟩
 |none::ms,ts,vs,h=>by obtain⟨t,lZ,v,j6,rfl,rfl,a,h⟩:=h;obtain⟨as,h1,h2⟩:=AM.args sub hr h;exact⟨as,⟨t,lZ,v,j6,rfl,rfl,a.a8 sub,h1⟩,h2⟩
 |some k::ms,ts,vs,h=>by obtain⟨a,t,lZ,j6,rfl,rfl,e0,e1,h⟩:=h;obtain⟨as,h1,h2⟩:=AM.args sub hr h;obtain⟨a',e2,r⟩:=hr k t e0;rw[e1] at e2;cases e2;exact⟨a::as,⟨a,as,t,lZ,j6,rfl,rfl,rfl,r.a8 sub,h1⟩,.cons e1 h2⟩
end
def UU(ms:List (Option Nat))(g:FA)(G:GT):FX:=λρ Q=>g ρ λts=>G ts λus r=>Q (putK (ms.filterMap id) us ρ) r
section
variable{Z:Zc}{k:Nat}{fs:List Bool}{G:GT}{pos:Pos}{g:FA}{ms:List (Option Nat)}
theorem JQ{tm:List (T×V)}{ρ:En}(I:ay K Z tm O ρ σ H)(h1:O[i]?=some (some a))(h2:O[j]?=some (some a)):i=j:=by
 have key:∀(O:HD)(i j:Nat),i<j->O[i]?=some (some a)->O[j]?=some (some a)->(roots O).Nodup->False:=by
  intro O;induction O with
  |nil=>intro i j _ h;simp at h
  |cons o O ih=>
   intro i j hij e1 e2 nd;cases j with
   |zero=>omega
   |succ j=>
    have NP:O[j]?=some (some a):=by simpa using e2
    cases i with
    |zero=>
     have:o=some a:=by simpa using e1
     subst this;simp only[roots,oh,id] at nd;exact (mW.mp nd).1 (aM.mpr (iw NP))
    |succ i=>
     refine ih i j (by omega) (by simpa using e1) NP ?_;cases o with
     |none=>simpa[roots] using nd
     |some b=>simp only[roots,oh,id] at nd;exact (mW.mp nd).2
 rcases Nat.lt_trichotomy i j with l|l|l
 exact (key O i j l h1 h2 I.nd).elim;exact l;exact (key O j i l h2 h1 I.nd).elim
theorem gZ{α β:Type}{F:α->β->Prop}:∀{l₁:List α}{l₂:List β}{a:α},Paired F l₁ l₂->a∈l₁->∃b∈l₂,F a b
 |_,_,_,.nil,h=>nomatch h
 |_,_,a,.cons r t,h=>by
  rcases c4.mp h with z|z
  subst z;exact⟨_,dP,r⟩;obtain⟨b,h1,h2⟩:=gZ t z;exact⟨b,ic _ h1,h2⟩
theorem rV{α β:Type}{F:α->β->Prop}:∀{l₁:List α}{l₂:List β}{i:Nat}{b:β},Paired F l₁ l₂->l₂[i]?=some b->∃a,l₁[i]?=some a/\F a b
 |_,_,_,_,.nil,e=>by simp at e
 |_,_,0,_,.cons r _,e=>by simp at e;subst e;exact⟨_,rfl,r⟩
 |_,_,i+1,b,.cons _ t,e=>by obtain⟨a,h1,h2⟩:=rV (i:=i) (b:=b) t (by simpa using e);exact⟨a,by simpa using h1,h2⟩
theorem j8{α β:Type}{F:α->β->Prop}:∀{l₁:List α}{l₂:List β}{i:Nat}{a:α},Paired F l₁ l₂->l₁[i]?=some a->∃b,l₂[i]?=some b/\F a b
 |_,_,_,_,.nil,e=>by simp at e
 |_,_,0,_,.cons r _,e=>by simp at e;subst e;exact⟨_,rfl,r⟩
 |_,_,i+1,b,.cons _ t,e=>by obtain⟨a,h1,h2⟩:=j8 (i:=i) (a:=b) t (by simpa using e);exact⟨a,by simpa using h1,h2⟩
theorem ay.called{Z':Zc}{tm:List (T×V)}{ρ:En}{as:qah}{ks:qao}{us:List T}(I:ay K Z tm O ρ σ H)(hk:Paired (λa k=>O[k]?=some (some a)) as ks)(nk:ks.Nodup)(fr:∀b o,H b=some o->b∉as->H' b=some o)(hu:Paired (λa u=>cW K H' (av Z' O) a u) as us)(hZ:Z'.H0=Z.H0)(hP:Z'.P=Z.P)(hox:∀a∈Z'.Ox,a∉roots O/\H' a≠none)(more:∀a∈av Z' O,a∈av Z O\/H a=none):ay K Z' tm O (putK ks us ρ) σ H':=by
 have Cb:∀a∈as,a∈roots O:=λa h=>by obtain⟨k,_,e⟩:=gZ hk h;exact aM.mpr (iw e)
 have sub:∀a∈as,a∈av Z O:=λa h=>cC _ (Cb a h);have afR:∀a∈as,a∈av Z' O:=λa h=>cC _ (Cb a h);have mu:∀a∈as,∃u,H a=some u/\lz u=true:=λa h=>(I.own a (Cb a h)).2.2;have fw:∀{t:T}{v:V},At K H (av Z O) t v->At K H' (av Z' O) t v:=λq=>(q.more more).rT fr afR mu;have fwL:∀{t:List T}{v:qak},aB K H (av Z O) t v->aB K H' (av Z' O) t v:=λq=>aB.iff.mpr (Paired.oj (aB.iff.mp q) λ_ _ z=>fw z);refine⟨by rw[rS];exact I.lσ,by rw[rS];exact I.lO,λi e h=>?_,I.nd,λb hb=>?_,by rw[hP];exact I.par,λa ha=>(hox a ha).2,λb o e n=>?_,λp hp=>fw (I.rE p hp)⟩;rcases zz nk (by rw[<- Tq hk,Tq hu]) h with⟨h1,h2⟩|⟨j,u,h1,h2,rfl⟩
 obtain⟨o,s,g1,g2,g3⟩:=I.sl i e h2;refine⟨o,s,g1,g2,g3.map (λ_ _ q=>fw q) λb t eo q=>?_⟩;subst eo;have nb:b∉as:=λm=>by obtain⟨k,m6,Z8⟩:=gZ hk m;exact h1 (by rw[JQ I g1 Z8];exact m6)
 obtain⟨u,eu,_⟩:=q.mut;exact q.map (by rw[eu];exact fr _ _ eu nb) λ_ _ z=>fwL z;obtain⟨a,ha,r⟩:=rV hu h2;obtain⟨k,m6,Z8⟩:=j8 hk ha;rw[h1] at m6;cases m6;have hl:i<ρ.length:=by rw[<- I.lO];exact (eW.mp Z8).1
 obtain⟨o,s,g1,g2,g3⟩:=I.sl i ρ[i] (by simp);rw[Z8] at g1;cases g1;refine⟨some a,s,Z8,g2,a,rfl,?_,r⟩;cases q:ρ[i] with
 |none=>rw[q] at g3;cases g3
 |some tb=>
  obtain⟨t,b⟩:=tb;rw[q] at g3;cases b with
  |false=>cases g3.1
  |true=>obtain⟨a',e1,e2,_⟩:=g3;cases e1;exact e2
 obtain⟨q1,q2,v,e,m⟩:=I.own b hb;refine⟨by rw[hZ,hP];exact q1,λz=>(hox b z).1 hb,?_⟩;by_cases hba:b∈as;obtain⟨j,hj⟩:=Ry.mp hba;obtain⟨u,_,r⟩:=j8 hu hj;exact r.mut;exact⟨v,fr _ _ e hba,m⟩;rw[hZ] at e;rw[hP] at n;refine fr _ _ (I.keep b o e n) λm=>?_;rcases (I.own b (Cb b m)).1 with z|z
 exact n z;rw[z] at e;cases e
theorem JR(F:bY X.prog X.w X.K X.mg X.base fG k f fd ps (Ca X.K fs G))(hr:bA k X.A)(hg:Gl X x)(hm:X.mg x=some (.ref f))(hk:PySem.W.keepIn X.K (.ref f)=true)(hb:Binds X.K fd ps [])(ha:UT X Z (e::es) ms g)(hfs:ms.map Option.isSome=fs:=by rfl)(hnd:(ms.filterMap id).Nodup:=by decide)(q_:jD x:=by decide)(he:starEach (e::es) X.env=(false,eval e X.env)::starEach es X.env:=by rfl)(jF:(backTo pos (starEach es X.env)).any (·.1)=false:=by rfl) :
  VX X Z (.Call (.Name x p) (e::es) [] pos) (UU ms g G):=.mk λtm=>PE.weak (nq F hr hg hm hk hb .nil lF (ha tm) q_ he jF) λσ H Q ⟨ρ,O,q,I,hf,k⟩ =>
 ⟨ρ,O,_,I,hf,λts gw vs H1 s1 a1=>by
   subst hfs;show Ca X.K _ G (vs++[]) H1 Q E0;rw[FD];have J:=I.same s1;obtain⟨as,h1,h2⟩:=AM.args (A':=av Z O) (λ_ z=>z) (λk t e=>by obtain⟨a,q1,q2,q3⟩:=J.root e;exact⟨a,q1,q3⟩) a1;have Cb:∀a∈as,a∈roots O:=λa h=>by obtain⟨k,_,e⟩:=gZ h2 h;exact aM.mpr (iw e)
   have ndA:as.Nodup:=by
    clear h1;have:∀{as:qah}{ks:qao},ks.Nodup->Paired (λa k=>O[k]?=some (some a)) as ks->as.Nodup:=by
     intro as ks nd h;induction h with
     |nil=>exact N4
     |cons r t ih=>rw[mW] at nd ⊢;refine⟨λm=>?_,ih nd.2⟩;obtain⟨k',m1,m2⟩:=gZ t m;exact nd.1 (by rw[JQ J r m2];exact m1)
    exact this hnd h2
   have mOx:∀b,b∈as++(av Z O).filter (λb=>decide (b∉as))↔b∈av Z O:=λb=>by rw[cU,X0];constructor;rintro (z|z);exact cC _ (Cb b z);exact z.1;intro z;by_cases hb:b∈as;exact .inl hb;exact .inr ⟨z,decide_eq_true hb⟩
   obtain⟨vO,EG,JS⟩:=AM.args (A':=as++(av Z O).filter (λb=>decide (b∉as))) (λb z=>(mOx b).mp z) (λk t e=>by obtain⟨a,q1,q2,q3⟩:=J.root e;exact⟨a,q1,q3⟩) a1;have ee:vO=as:=by
    have:∀{as vO:qah}{ks:qao},Paired (λa k=>O[k]?=some (some a)) as ks->Paired (λa k=>O[k]?=some (some a)) vO ks->vO=as:=by
     intro as vO ks h h';induction h generalizing vO with
     |nil=>cases h';rfl
     |cons r t ih=>
       cases h' with
       |cons r' t'=>rw[r] at r';cases r';rw[ih t']
    exact this h2 JS
   subst ee;refine⟨ts,vO,(av Z O).filter (λb=>decide (b∉vO)),_,ndA,λa h z=>?_,λa h=>J.BC a (X0.mp h).1,EG,gw,λus r hr v H' fr z=>?_⟩;exact (of_decide_eq_true (X0.mp z).2) h;have Z9:∀a∈Z.Ox,a∉roots O/\H' a≠none:=λa h=>by
    have na:a∉roots O:=λm=>(J.own a m).2.1 h;refine⟨na,?_⟩;cases e:H1 a with
    |none=>exact absurd e (J.ox a h)
    |some u=>rw[fr _ _ e λm=>na (Cb a m)];simp
   cases r with
   |vw t=>obtain⟨z1,z2⟩:=z;exact k _ _ hr O v H' ⟨J.called h2 hnd fr (Paired.oj z2 λ_ _ q=>q.a8 λb hb=>(mOx b).mpr hb) rfl rfl Z9 λa h=>.inl h,z1.a8 λb hb=>(mOx b).mpr hb⟩
   |fr t=>
     obtain⟨b,rfl,hb,nb,hR,z2⟩:=z;obtain⟨n1,n2,n3⟩:=J.fresh hb;have sb:∀c∈av (Z.ex b) O,c∈b::(vO++(av Z O).filter (λb=>decide (b∉vO))):=λc hc=>by
      rcases dS c hc with z|z
      exact ic _ ((mOx c).mpr z);rw[z];exact dP
     refine k _ _ hr O _ H' ⟨b,rfl,J.called h2 hnd fr (Paired.oj z2 λ_ _ q=>q.a8 sb) rfl rfl (λa h=>?_) (λa h=>(dS a h).imp id λe=>by rw[e];exact hb),hR.a8 sb,n3,n2⟩;rcases c4.mp h with z|z
     subst z;obtain⟨u,eu,_⟩:=hR.mut;exact⟨λm=>n1 (cC _ m),by rw[eu];simp⟩;exact Z9 a z⟩
end
section
variable(K:qaf)
theorem zA:PySem.W.kitOne K (.type "int") (.type "str")=some false:=by kernel_rfl
theorem xf:PySem.W.kitOne K (.type "int") (.type "list")=some false:=by kernel_rfl
theorem um:PySem.W.kitOne K (.type "int") (.type "tuple")=some false:=by kernel_rfl
theorem xg:PySem.W.kitOne K (.type "bool") (.type "str")=some false:=by kernel_rfl
theorem uo:PySem.W.kitOne K (.type "bool") (.type "list")=some false:=by kernel_rfl
theorem rW:PySem.W.kitOne K (.type "bool") (.type "tuple")=some false:=by kernel_rfl
theorem zB:PySem.W.kitOne K (.type "str") (.type "str")=some true:=by kernel_rfl
theorem xh:PySem.W.kitOne K (.type "str") (.type "list")=some false:=by kernel_rfl
theorem uq:PySem.W.kitOne K (.type "str") (.type "tuple")=some false:=by kernel_rfl
theorem xi:PySem.W.kitOne K (.type "list") (.type "str")=some false:=by kernel_rfl
theorem ur:PySem.W.kitOne K (.type "list") (.type "list")=some true:=by kernel_rfl
theorem rX:PySem.W.kitOne K (.type "list") (.type "tuple")=some false:=by kernel_rfl
theorem uu:PySem.W.kitOne K (.type "tuple") (.type "str")=some false:=by kernel_rfl
theorem rY:PySem.W.kitOne K (.type "tuple") (.type "list")=some false:=by kernel_rfl
theorem ql:PySem.W.kitOne K (.type "tuple") (.type "tuple")=some true:=by kernel_rfl
theorem xj:PySem.W.kitOne K (.type "dict") (.type "str")=some false:=by kernel_rfl
theorem uv:PySem.W.kitOne K (.type "dict") (.type "list")=some false:=by kernel_rfl
theorem rZ:PySem.W.kitOne K (.type "dict") (.type "tuple")=some false:=by kernel_rfl
theorem oE:PySem.W.kitOne K (.type "NoneType") (.type "str")=some false:=by kernel_rfl
theorem nC:PySem.W.kitOne K (.type "NoneType") (.type "list")=some false:=by kernel_rfl
theorem l_:PySem.W.kitOne K (.type "NoneType") (.type "tuple")=some false:=by kernel_rfl
end
def Ty2(K:qaf)(H:Hp):V->String->Prop
 |.aP,t=>t="NoneType"
 |.bl _,t=>t="bool"
 |.int _,t=>t="int"
 |.str _,t=>t="str"
 |.ref a,t=>(t="list"/\∃xs,iV K H a xs)\/(t="tuple"/\∃xs,fM K H a xs)\/(t="dict"/\∃a_,H a=some (.dK a_))
 |_,_=>False
def Z_(K:qaf):qak->Hp->VK->Prop:=λxs H Q=>∃x n t b,xs=[x,.ty n]/\Ty2 K H x t/\PySem.W.kitOne K (.type t) (.type n)=some b/\Q (.bl b) H
theorem Gr:fF X (.builtin "isinstance") (Z_ X.K):=by
 intro pins s σ H xs us Q I r h;obtain⟨x,n,t,b,rfl,ty,e,q⟩:=h;obtain⟨u,w',rfl,rx,ry⟩:=vals2 r;obtain rfl:w'=Value.type n:=ry;have fin:∀tk,EP X pins σ Q (.bool b) {s with toks:=tk}:=λtk=>⟨.bl b,H,I.tok _,rfl,q⟩;cases x with
 |aP=>cases (show t=_ from ty);cases (show u=Value.none from rx);exact To PySem.W.kitx_none I.ue True.intro e (λz=>nomatch z) fin
 |bl y=>cases (show t=_ from ty);cases (show u=Value.bool y from rx);exact To PySem.W.kitx_bool I.ue True.intro e (λz=>nomatch z) fin
 |int i=>cases (show t=_ from ty);obtain⟨t,q⟩:=(show ∃t,u=Value.int i t from rx);cases q;exact To PySem.W.kitx_int I.ue True.intro e (λz=>nomatch z) fin
 |str y=>cases (show t=_ from ty);obtain⟨t,q⟩:=(show ∃t,u=Value.str y t from rx);cases q;exact To PySem.W.kitx_str I.ue True.intro e (λz=>nomatch z) fin
 |ref a=>
  cases (show u=Value.ref a from rx);obtain⟨rfl,xs,hq⟩|⟨rfl,xs,hq⟩|⟨rfl,a_,hq⟩:=ty
  obtain⟨a4,_,p,_⟩:=I.list hq;obtain⟨o,n',h1,h2,_⟩:=p;exact To PySem.W.kitx_list I.ue ⟨o,h1,h2⟩ e (λz=>nomatch z) fin;obtain⟨a4,_,p,_⟩:=I.tuple hq;obtain⟨o,h1,h2,_⟩:=p;exact To PySem.W.kitx_tuple I.ue ⟨o,h1,h2⟩ e (λz=>nomatch z) fin;obtain⟨_,_,vs,_,p⟩:=(show cH X.prog X.w H s.heap a (.dK a_) from I.cx a _ hq);obtain⟨o,es,ep,h1,h2,_⟩:=p;exact To PySem.W.kitx_dict I.ue ⟨o,h1,h2.1⟩ e (λz=>nomatch z) fin
 |_=>exact (show False from ty).elim
def isBool:T->Bool
 |.bl _=>true
 |_=>false
def isStr:T->Bool
 |.str _=>true
 |_=>false
def isList:T->Bool
 |.lst _=>true
 |_=>false
def O7:T->Bool
 |.tup _=>true
 |_=>false
def known:T->Bool
 |.dt _ _=>false
 |.df _ _ _=>false
 |.dz _ _ _=>false
 |.dc _ _ _=>false
 |.kt _=>false
 |.ins _ _ _=>false
 |.pin _ _=>false
 |.ob _=>false
 |.ty _=>false
 |_=>true
def xk(K:qaf)(n:String)(p:T->Bool):Prop:=∀H A t v,known t=true->iz K H A t v->∃ty,Ty2 K H v ty/\PySem.W.kitOne K (.type ty) (.type n)=some (p t)
theorem zC:xk K "str" isStr:=by
 intro H A t v hk h;cases t with
 |aP=>rw[h.aP];exact⟨_,rfl,oE K⟩
 |bl b=>rw[h.bl];exact⟨_,rfl,xg K⟩
 |int b=>rw[h.int];exact⟨_,rfl,zA K⟩
 |str b=>rw[h.str];exact⟨_,rfl,zB K⟩
 |tup l=>obtain⟨a,vs,rfl,q,_⟩:=h.tup;exact⟨_,.inr (.inl ⟨rfl,_,q⟩),uu K⟩
 |lst l=>obtain⟨a,vs,rfl,q,_⟩:=h.lst;exact⟨_,.inl ⟨rfl,_,q⟩,xi K⟩
 |dk ks l=>obtain⟨a,vs,rfl,_,q,_⟩:=h.dk;exact⟨_,.inr (.inr ⟨rfl,_,q⟩),xj K⟩
 |_=>simp only[known] at hk;cases hk
theorem Gs:xk K "list" isList:=by
 intro H A t v hk h;cases t with
 |aP=>rw[h.aP];exact⟨_,rfl,nC K⟩
 |bl b=>rw[h.bl];exact⟨_,rfl,uo K⟩
 |int b=>rw[h.int];exact⟨_,rfl,xf K⟩
 |str b=>rw[h.str];exact⟨_,rfl,xh K⟩
 |tup l=>obtain⟨a,vs,rfl,q,_⟩:=h.tup;exact⟨_,.inr (.inl ⟨rfl,_,q⟩),rY K⟩
 |lst l=>obtain⟨a,vs,rfl,q,_⟩:=h.lst;exact⟨_,.inl ⟨rfl,_,q⟩,ur K⟩
 |dk ks l=>obtain⟨a,vs,rfl,_,q,_⟩:=h.dk;exact⟨_,.inr (.inr ⟨rfl,_,q⟩),uv K⟩
 |_=>simp only[known] at hk;cases hk
theorem ma:xk K "tuple" O7:=by
 intro H A t v hk h;cases t with
 |aP=>rw[h.aP];exact⟨_,rfl,l_ K⟩
 |bl b=>rw[h.bl];exact⟨_,rfl,rW K⟩
 |int b=>rw[h.int];exact⟨_,rfl,um K⟩
 |str b=>rw[h.str];exact⟨_,rfl,uq K⟩
 |tup l=>obtain⟨a,vs,rfl,q,_⟩:=h.tup;exact⟨_,.inr (.inl ⟨rfl,_,q⟩),ql K⟩
 |lst l=>obtain⟨a,vs,rfl,q,_⟩:=h.lst;exact⟨_,.inl ⟨rfl,_,q⟩,rX K⟩
 |dk ks l=>obtain⟨a,vs,rfl,_,q,_⟩:=h.dk;exact⟨_,.inr (.inr ⟨rfl,_,q⟩),rZ K⟩
 |_=>simp only[known] at hk;cases hk
def acx(f:FE)(p:T->Bool):FP:=λρ Q=>f ρ λt=>known t=true/\Q (.vw (.bl (p t)))
section
variable{Z:Zc}{a:Expr}{pos:Pos}{fa fb X':FE}
theorem xl:bootBuiltins "isinstance"=some (.builtin "isinstance"):=by decide +kernel
theorem lg{n:String}{q:T->Bool}(hq:xk X.K n q)(hg:Gl X "isinstance")(hm:X.mg "isinstance"=none)(hgy:Gl X y)(hmy:X.mg y=none)(hby:bootBuiltins y=some (.type n))(ha:VR X Z e fa)(hny:y≠"__name__":=by decide)(hdy:jD y:=by decide)(hs:starEach [e,.Name y p2] X.env=(false,eval e X.env)::starEach [.Name y p2] X.env:=by rfl)(FY:starEach [.Name y p2] X.env=(false,eval (.Name y p2) X.env)::starEach [] X.env:=by rfl)(jF:(backTo pos (starEach [.Name y p2] X.env)).any (·.1)=false:=by rfl) :
  VP X Z (.Call (.Name "isinstance" p) [e,.Name y p2] [] pos) (acx fa q):=.mk λtm=>
 PE.weak (rf Gr hg hm xl (bD (ha tm) (bD (N' (v:=.ty n) hgy hmy hby rfl hny hdy) c6 FY) hs) (by decide) (by decide) hs jF) λσ H Q ⟨ρ,O,q',I,hf,k⟩=>⟨ρ,O,_,I,hf,λt ht v H1 s1 a1=>by obtain⟨ty,h1,h2⟩:=hq H1 _ t v ht.1 a1;exact⟨v,n,ty,_,rfl,h1,h2,k _ ht.2 _ H1 s1 ⟨I.same s1,fH⟩⟩⟩
def lH:T->Bool
 |.aP=>true
 |.bl _=>true
 |.int _=>true
 |.str _=>true
 |_=>false
def zD:List T->Bool
 |[]=>true
 |t::ts=>lH t && zD ts
def Cc(x:T):List T->Bool
 |[]=>false
 |t::ts=>eqT t x || Cc x ts
theorem oF{K:qaf}{H:Hp}{A:qah}:∀{ts:List T}{vs:qak}{x:T}{v:V},zD ts=true->lH x=true->aB K H A ts vs->At K H A x v->vs.all jY=true/\jY v=true/\inV v vs=Cc x ts
 |[],vs,x,v,_,fx,h,hx=>by simp only[aB] at h;subst h;refine⟨rfl,?_,rfl⟩;cases x<;>simp only[At] at hx<;>first|(subst hx;rfl)|(simp only[lH] at fx;cases fx)
 |t::ts,vs,x,v,f,fx,h,hx=>by
  simp only[aB] at h;obtain⟨u,r,rfl,h1,h2⟩:=h;simp only[zD,m9] at f;obtain⟨i1,i2,i3⟩:=oF f.2 fx h2 hx;have ft:jY u=true:=by cases t<;>simp only[At] at h1<;>first|(subst h1;rfl)|(have:=f.1;simp only[lH] at this;cases this)
  have e:NN u v=eqT t x:=by
   cases t<;>simp only[At] at h1<;>first
    | (have:=f.1;simp only[lH] at this;cases this;done)
    | (subst h1
       cases x<;>simp only[At] at hx<;>first
        | (simp only[lH] at fx;cases fx;done)
        | (subst hx;simp[NN,eqT];done))
  refine⟨by simp[ft,i1],i2,?_⟩;simp only[Cc,inV,RG];rw[e]
  congr 1
def acy(K:qaf)(neg:Bool):R2:=λx y H Q=>rIn K neg x y H Q\/∃i j,x=.str i/\y=.str j/\Q (.bl (if neg then !(!(Builtin.Str.occurrences j i 0 j.length 1).isEmpty) else !(Builtin.Str.occurrences j i 0 j.length 1).isEmpty)) H
theorem JT:gH X (compareOp .In) (acy X.K false):=by
 intro pins s σ H x y v u Q I rx ry h;obtain h|⟨i,j,h1,h2,h⟩:=h
 exact Ga pins s σ H x y v u Q I rx ry h;exact F0 pins s σ H x y v u Q I rx ry ⟨i,j,h1,h2,by simpa using h⟩
def JU(i j:Str):Bool:=!(Builtin.Str.occurrences j i 0 j.length 1).isEmpty
def pIn(x y:T)(q:Rt->Prop):Prop:=match y with
 |.lst ts=>lH x=true/\zD ts=true/\q (.vw (.bl (Cc x ts)))
 |.tup ts=>lH x=true/\zD ts=true/\q (.vw (.bl (Cc x ts)))
 |.str j=>∃i,x=.str i/\q (.vw (.bl (JU i j)))
 |_=>False
theorem JV:rG K (acy K false) pIn:=by
 intro Z tm O ρ σ H x y v w q Q I h1 h2 h k;have x1:lH x=true->At K H (av Z O) x v:=λf=>by
  obtain h|⟨a,rfl,h⟩:=h1
  exact h;cases x<;>first|exact h.elim|(simp only[lH] at f;cases f)
 unfold pIn at h;split at h;obtain⟨f1,f2,h⟩:=h;obtain⟨a,vs,rfl,q1,q2⟩:=h2.lst;obtain⟨i1,i2,i3⟩:=oF f2 f1 q2 (x1 f1);exact .inl ⟨a,vs,rfl,.inl q1,i2,i1,k _ h _ H (aY.refl H) ⟨I,by rw[if_neg jb,i3];exact fH⟩⟩;obtain⟨f1,f2,h⟩:=h;obtain⟨a,vs,rfl,q1,q2⟩:=h2.tup;obtain⟨i1,i2,i3⟩:=oF f2 f1 q2 (x1 f1);exact .inl ⟨a,vs,rfl,.inr q1,i2,i1,k _ h _ H (aY.refl H) ⟨I,by rw[if_neg jb,i3];exact fH⟩⟩;obtain⟨i,rfl,h⟩:=h;exact .inr ⟨i,_,h1.str,h2.str,k _ h _ H (aY.refl H) ⟨I,by rw[if_neg jb];exact fH⟩⟩;exact h.elim
theorem R_(ha:VR X Z a fa)(hb:VR X Z b fb)(hm:behindInMarks .In b=false:=by rfl):VP X Z (.Compare a [.In] [b] pos) (f2 fa fb pIn):=JB JT JV ha hb hm
theorem vP(ha:VR X Z a fa)(hb:VR X Z b fb)(hm:behindInMarks .In b=false:=by rfl):VC X Z (.Compare a [.In] [b] pos) (oA (f2 fa fb pIn)):=jk JT JV ha hb hm
def r0:T->Bool
 |.aP=>true
 |_=>false
def pIs(x y:T)(q:Rt->Prop):Prop:=match y with
 |.aP=>q (.vw (.bl (r0 x)))
 |_=>False
def Cd(x y:T)(q:Rt->Prop):Prop:=match y with
 |.aP=>q (.vw (.bl (!r0 x)))
 |_=>False
theorem EH{A:qah}{t:T}(h:iz K H A t v):decide (v=.aP)=r0 t:=by
 cases t with
 |aP=>rw[h.aP];rfl
 |bl b=>rw[h.bl];rfl
 |int b=>rw[h.int];rfl
 |str b=>rw[h.str];rfl
 |ob b=>rw[h.ob];rfl
 |ty b=>have:v=.ty b:=h.elim (λq=>by simpa only[At] using q) λ⟨_,_,q⟩=>q.elim;rw[this];rfl
 |tup l=>obtain⟨a,vs,rfl,_⟩:=h.tup;rfl
 |lst l=>obtain⟨a,vs,rfl,_⟩:=h.lst;rfl
 |dk ks l=>obtain⟨a,vs,rfl,_⟩:=h.dk;rfl
 |dt ks l=>obtain⟨a,vs,rfl,_⟩:=h.dt;rfl
 |df o ks l=>obtain⟨a,vs,rfl,_⟩:=h.df;rfl
 |dz o ks l=>obtain⟨a,vs,rfl,_⟩:=h.dz;rfl
 |dc nh ks l=>obtain⟨a,xs,vs,rfl,_⟩:=h.dc;rfl
 |kt k=>obtain⟨a,rfl,_⟩:=h.kt;rfl
 |ins C ns l=>obtain⟨a,dx,vs,rfl,_⟩:=h.ins;rfl
 |pin a t=>have e:v=.ref a:=h.elim (λq=>by simp only[At] at q;exact q.1) λ⟨_,_,q⟩=>q.elim;rw[e];rfl
theorem UW:rG K (λx y H Q=>y=.aP/\Q (.bl (decide (x=.aP))) H) pIs:=by intro Z tm O ρ σ H x y v w q Q I h1 h2 h k;unfold pIs at h;split at h;exact⟨h2.aP,k _ h _ H (aY.refl H) ⟨I,by rw[EH h1];exact fH⟩⟩;exact h.elim
theorem Gu:rG K (λx y H Q=>y=.aP/\Q (.bl (!decide (x=.aP))) H) Cd:=by intro Z tm O ρ σ H x y v w q Q I h1 h2 h k;unfold Cd at h;split at h;exact⟨h2.aP,k _ h _ H (aY.refl H) ⟨I,by rw[EH h1];exact fH⟩⟩;exact h.elim
theorem zE(ha:VR X Z a fa)(hb:VR X Z b fb):VC X Z (.Compare a [.Is] [b] pos) (oA (f2 fa fb pIs)):=jk T3 UW ha hb (jf _)
theorem zF(ha:VR X Z a fa)(hb:VR X Z b fb):VC X Z (.Compare a [.IsNot] [b] pos) (oA (f2 fa fb Cd)):=jk Oi Gu ha hb (jf _)
theorem zG{g g':Int->Int->Bool}{tm:List (T×V)}{Q:VK}(h:lP X Z tm (f3 fa fb X' (Uv g) (Uv g')) σ H Q):BO (vC λi j=>.bl (g i j)) (vC λi j=>.bl (g' i j)) (lR X Z tm fa) (lR X Z tm fb) (lR X Z tm X') σ H Q:=by
 obtain⟨ρ,O,q,I,hf,k⟩:=h;refine⟨ρ,O,_,I,hf,λx hx v H1 s1 a1=>⟨ρ,O,_,I.same s1,hx,λy hy w H2 s2 a2=>?_⟩⟩;have J:=(I.same s1).same s2;unfold Uv at hy;split at hy
 rename_i i j
 refine⟨i,j,(a1.same s2).int,a2.int,_,rfl,?_⟩;cases e:g i j with
 |true=>
  rw[e] at hy;refine Uh ⟨ρ,O,_,J,hy,λz hz w3 H3 s3 a3=>?_⟩;split at hz
  rename_i e1
  cases e1;exact⟨_,_,(a2.same s3).int,a3.int,k _ hz _ H3 ((s1.trans s2).trans s3) ⟨J.same s3,fH⟩⟩;exact hz.elim
 |false=>rw[e] at hy;exact Ug (k _ hy _ H2 (s1.trans s2) ⟨J,fH⟩)
 exact hy.elim
theorem JW{op BP:CmpOp}{g g':Int->Int->Bool}(ho:gH X (compareOp op) (vC λi j=>.bl (g i j)))(jP:gH X (compareOp BP) (vC λi j=>.bl (g' i j)))(ha:VR X Z a fa)(hb:VR X Z b fb)(hc:VR X Z c X')(hm:lastMarks [op,BP] [b,c]=false:=by with_unfolding_all rfl):VP X Z (.Compare a [op,BP] [b,c] pos) (f3 fa fb X' (Uv g) (Uv g')):=.mk λtm=>PE.weak (Je ho jP (ha tm) (hb tm) (hc tm) hm) λσ H Q h=>zG h
theorem JX{op BP:CmpOp}{g g':Int->Int->Bool}(ho:gH X (compareOp op) (vC λi j=>.bl (g i j)))(jP:gH X (compareOp BP) (vC λi j=>.bl (g' i j)))(ha:VR X Z a fa)(hb:VR X Z b fb)(hc:VR X Z c X')(hm:lastMarks [op,BP] [b,c]=false:=by with_unfolding_all rfl):VC X Z (.Compare a [op,BP] [b,c] pos) (oA (f3 fa fb X' (Uv g) (Uv g'))):=.mk λtm=>PT.weak (Jf ho jP (ha tm) (hb tm) (hc tm) hm) λσ H Q ⟨ρ,O,q,I,hf,k⟩ =>
 zG ⟨ρ,O,_,I,hf,λt ht u H' s a=>by obtain⟨c,rfl,hc⟩:=B_ ht;have e:=a.2;simp only[At] at e;exact⟨c,e,k c hc H' s⟩⟩
def eS(ts:List T):List T:=ts.mapIdx λi t=>.tup [.int (i:Int),t]
def acz(f:FE):FI:=λρ Q=>f ρ λt=>match t with
 |.lst ts=>Q (eS ts)
 |_=>False
theorem O8{a:Addr}{ts:List T}:Wk K (Ite K a) [(.lst ts,.ref a)] (eS ts):=λH A hA h i=>by
 have h:=h _ dP;simp only[At] at h;obtain⟨b,vs,e,l,q⟩:=h;cases e;have hl:=q.length;have hle:(eS ts).length=ts.length:=by unfold eS;rw[List.length_mapIdx]
 rw[hle];refine⟨λhi=>⟨vs,vs[i]'(by omega),l.sq,by simp⟩,λhi=>⟨vs,l.sq,by omega⟩,λt ht x H' y=>?_⟩;obtain⟨p,u,hp,rfl,hu,rfl⟩:=y;unfold eS at ht;rw[YN] at ht;cases e:ts[i]? with
 |none=>rw[e] at ht;cases ht
 |some t'=>rw[e] at ht;cases ht;obtain⟨v,e1,e2⟩:=q.get e;have:=hu vs l.sq;rw[e1] at this;cases this;exact⟨aJ hp,cA (fM.of aH) (aB.cons bC (aB.cons (e2.same (aJ hp)) aB.nil))⟩
theorem xm{elts:qap}{x1}{tp:Pos}(hg:Gl X "enumerate")(hm:X.mg "enumerate"=none)(ha:VE X Z a fa)(hs:starEach [a] X.env=[(false,eval a X.env)]:=by rfl) :
  VI X Z (.Tuple elts x1 tp) (.Call (.Name "enumerate" p) [a] [] pos) (acz fa):=.mk λtm=>PI.weak (OI hg hm (bD (ha tm) c6 hs) hs) λσ H R ⟨ρ,O,q,I,hf,k⟩=>⟨ρ,O,_,I,hf,λt ht v H' s a=>by
 split at ht;have a0:=a;simp only[At] at a;obtain⟨p,vs,rfl,l,_⟩:=a;exact⟨p,rfl,⟨vs,l.sq⟩,k _ ht _ H' _ s (λp hp=>by rw[jV.mp hp];exact a0) O8⟩;exact ht.elim⟩
def dB:List T->Option (List Bool)
 |[]=>some []
 |.bl b::ts=>(dB ts).map (b::·)
 |_=>none
def intsOf:List T->Option (qan)
 |[]=>some []
 |.int b::ts=>(intsOf ts).map (b::·)
 |_=>none
theorem JY{K:qaf}{H:Hp}{A:qah}:∀{ts:List T}{bs:List Bool}{vs:qak},dB ts=some bs->aB K H A ts vs->vs=bs.map V.bl
 |[],bs,vs,e,h=>by simp only[dB] at e;cases e;simp only[aB] at h;rw[h];rfl
 |.bl b::ts,bs,vs,e,h=>by
  simp only[dB] at e;cases q:dB ts with
  |none=>rw[q] at e;cases e
  |some cs=>rw[q] at e;cases e;simp only[aB,At] at h;obtain⟨v,r,rfl,rfl,h⟩:=h;rw[JY q h];rfl
 |.aP::_,_,_,e,_=>by simp[dB] at e
 |.int _::_,_,_,e,_=>by simp[dB] at e
 |.str _::_,_,_,e,_=>by simp[dB] at e
 |.tup _::_,_,_,e,_=>by simp[dB] at e
 |.lst _::_,_,_,e,_=>by simp[dB] at e
 |.dk _ _::_,_,_,e,_=>by simp[dB] at e
 |.dt _ _::_,_,_,e,_=>by simp[dB] at e
 |.df _ _ _::_,_,_,e,_=>by simp[dB] at e
 |.dz _ _ _::_,_,_,e,_=>by simp[dB] at e
 |.dc _ _ _::_,_,_,e,_=>by simp[dB] at e
 |.kt _::_,_,_,e,_=>by simp[dB] at e
 |.ins _ _ _::_,_,_,e,_=>by simp[dB] at e
 |.pin _ _::_,_,_,e,_=>by simp[dB] at e
 |.ob _::_,_,_,e,_=>by simp[dB] at e
 |.ty _::_,_,_,e,_=>by simp[dB] at e
def acA(ts:List T)(q:Rt->Prop):Prop:=match ts with
 |[.lst l]=>∃bs,dB l=some bs/\q (.vw (.bl (bs.all id)))
 |_=>False
theorem Gv:rN K (λxs H Q=>∃(p:Addr)(bs:List Bool),xs=[.ref p]/\iV K H p (bs.map V.bl)/\Q (.bl (bs.all id)) H) acA:=by intro Z tm O ρ σ H ts vs q Q I h hp k;unfold acA at hp;split at hp;obtain⟨bs,e,hp⟩:=hp;obtain⟨v,rfl,a⟩:=eY h;obtain⟨p,ws,rfl,q1,q2⟩:=a.lst;rw[JY e q2] at q1;exact⟨p,bs,rfl,q1,k _ hp _ H (aY.refl H) ⟨I,fH⟩⟩;exact hp.elim
def afS(f:FP)(fb:FE):FP:=λρ Q=>f ρ λr=>match r with
 |.fr (.lst ts)=>fb ρ λy=>match y with
  |.int k=>-(2 ^ 63)<=k/\k<2 ^ 63/\ts.length * k.toNat<=sizeLine/\Q (.fr (.lst (List.replicate k.toNat ts).flatten))
  |_=>False
 |_=>False
theorem aB.rep{K:qaf}{H:Hp}{A:qah}{ts:List T}{vs:qak}(h:aB K H A ts vs):∀k:Nat,aB K H A (List.replicate k ts).flatten (List.replicate k vs).flatten
 |0=>aB.nil
 |k+1=>by rw[ud,ud,NB,NB];exact h.append (aB.rep h k)
theorem md{f:FP}(ha:VP X Z a f)(hb:VR X Z b fb):VP X Z (.BinOp a .Mult b pos) (afS f fb):=.mk λtm=>PE.weak (RP Ud (ha tm) (hb tm)) λσ H Q ⟨ρ,O,q,I,hf,k⟩=>⟨ρ,O,_,I,hf,λr hr v H1 s1 z=>by split at hr;obtain⟨l,rfl,J,⟨xs,e,q1⟩,_⟩:=z;refine⟨ρ,O,_,I.same s1,hr,λy hy w H2 s2 a2=>?_⟩;split at hy;obtain⟨h1,h2,h3,hy⟩:=hy;have q2:aB X.K H2 (av Z O) _ xs:=(q1.same s2).a8 gR;exact⟨l,_,xs,rfl,a2.int,s2 _ _ e,h1,h2,by rw[q2.length];exact h3,λp hp=>k _ hy _ _ ((s1.trans s2).trans (aJ hp)) (((I.same s1).same s2).Gm hp (q2.rep _))⟩;exact hy.elim;exact hr.elim⟩
end
structure Df(K:qaf)(mg:qae)(x:Str)(st:Stmt)(ps:qai)(f:Addr)(fd:FuncData):Prop where
 F:Ew K x x st f fd
 m:mg x=some (.ref f)
 b:Binds K fd ps []
def bU(P:Program)(w:World)(K:qaf)(mg:qae)(base:Heap)(x:Str)(ps:qai)(k:Nat)(sp:Sp):Prop :=
 ∃f fd,mg x=some (.ref f)/\PySem.W.keepIn K (.ref f)=true/\Binds K fd ps []/\bY P w K mg base fG k f fd ps sp
theorem Df.g9{st:Stmt}{k:Nat}(D:Df K mg x st ps f fd)(F:bY P w K mg base fG k f fd ps sp):bU P w K mg base x ps k sp :=
 ⟨f,fd,D.m,D.F.kp,D.b,F⟩
theorem pS:bO ⟨H,[],Ox⟩ i:=λ_ z=>nomatch z
section
theorem m7{st:Stmt}{N:qai}{k:Nat}{G:List T->(Rt->Prop)->Prop}(F:Ew K x qual st f fd)(S:az N ps (ai st))(hn:n=ps.length)(eJ:∀(bz:Value) (A:Around) (outer:List Env) (s:Shared) (H:Hp) (E:XK) (Ox:qah),bA k (A.deeper (envOfC qual (ai st) s.heap.objs.size f bz))->∀ts q,G ts q ->
    ∃g,m5 (gK fG P w K mg base N qual (ai st) f bz A outer s H E).qX ⟨H,[],Ox⟩ (bM st) g/\(ts.length=n->g {nx:=λ_=>q (.vw .aP),rt:=λ_ r=>q r} (ts.map (λt=>some (t,false))++List.replicate (N.length-ts.length) none))) :
  bY P w K mg base fG (k+1) f fd ps (c8 K n G):=by
 have hp:∀n (as:qah) k,pz (List.replicate n false) as k=[]:=by
  intro n;induction n with
  |zero=>intro as k;rfl
  |succ n ih=>intro as k;exact ih as (k+1)
 have hfi:∀n (ρ:En),nB (List.replicate n false) ρ=[]:=by
  intro n;induction n with
  |zero=>intro ρ;rfl
  |succ n ih=>intro ρ;exact ih ρ.tail
 have he:∀n (ts:List T),ts.length=n->zy (List.replicate n false) ts=ts.map λt=>some (t,false):=by
  intro n;induction n with
  |zero=>intro ts e;cases ts<;>simp_all [zy]
  |succ n ih=>
    intro ts e;cases ts with
    |nil=>simp at e
    |cons t ts=>rw[ud,zy,ih ts (by simpa using e)];rfl
 refine fnV F S (by rw[BB];exact hn) λbz A outer s H E as Ox hr ts q hl hG=>?_;rw[BB] at hl;obtain⟨g,h1,h2⟩:=eJ bz A outer s H E Ox hr ts (q []) hG;refine⟨g,by rw[hp];exact h1,?_⟩;rw[he n ts hl];simp only[hfi];exact h2 hl
end
theorem bA.gy{k:Nat}(r:bA k A):A.units+101<cLine:=by have:=r.un;omega
theorem me:bootBuiltins "list"=some (.type "list"):=by decide +kernel
theorem lh:bootBuiltins "tuple"=some (.type "tuple"):=by decide +kernel
theorem acB:bootBuiltins "all"=some (.builtin "all"):=by decide +kernel
theorem acC:bootBuiltins "min"=some (.builtin "min"):=by decide +kernel
theorem Sa:bootBuiltins "str"=some (.type "str"):=by decide +kernel
theorem qH:∀{fs:List Bool}{as:qah}{k:Nat},∀p∈pz fs as k,k<=p.1/\fs[p.1-k]?=some true
 |[],_,_,p,hp=>nomatch hp
 |false::fs,as,k,p,hp=>by
  obtain⟨h1,h2⟩:=qH (fs:=fs) (as:=as) (k:=k+1) p hp;refine⟨by omega,?_⟩;have:p.1-k=(p.1-(k+1))+1:=by omega
  rw[this];simpa using h2
 |true::fs,a::as,k,p,hp=>by
  rcases c4.mp hp with z|z
  subst z;exact⟨c_ _,by simp⟩;obtain⟨h1,h2⟩:=qH (fs:=fs) (as:=as) (k:=k+1) p z;refine⟨by omega,?_⟩;have:p.1-k=(p.1-(k+1))+1:=by omega
  rw[this];simpa using h2
 |true::fs,[],k,p,hp=>by
  obtain⟨h1,h2⟩:=qH (fs:=fs) (as:=[]) (k:=k+1) p hp;refine⟨by omega,?_⟩;have:p.1-k=(p.1-(k+1))+1:=by omega
  rw[this];simpa using h2
theorem EI{fs:List Bool}{as:qah}(h:fs[i]?≠some true):bO ⟨H,pz fs as 0,Ox⟩ i:=λp hp e=>by have:=(qH p hp).2;rw[Nat.sub_zero,e] at this;exact h this
theorem dC(lo:Int)(n:Nat):(rangeT lo n).length=n:=by unfold rangeT;rw[c3,NC]
theorem r_{lo:Int}{t:T}(h:(rangeT lo n)[i]?=some t):i<n/\t=.int (lo+(i:Int)):=by
 unfold rangeT at h;rw[ie] at h;cases e:(List.range n)[i]? with
 |none=>rw[e] at h;cases h
 |some j=>rw[e] at h;obtain⟨h1,h2⟩:=eW.mp e;rw[List.getElem_range] at h2;rw[NC] at h1;subst h2;cases h;exact⟨h1,rfl⟩
theorem sd{lo:Int}{h:FG}{g:FS}{d:JI}{ρ:En}(Pv:Nat->En->Prop)(h0:Pv 0 ρ)(hs:∀(i:Nat) ρ',i<n->Pv i ρ'->h (.int (lo+(i:Int))) ρ' λρ2=>g {nx:=Pv (i+1),ct:=Pv (i+1),bk:=d.nx,rt:=d.rt} ρ2)(hd:∀ρ',Pv n ρ'->d.nx ρ'):pQ (rangeT lo n) h g d ρ:=⟨Pv,h0,λi t ρ' e p=>by obtain⟨h1,rfl⟩:=r_ e;exact hs i ρ' h1 p,λρ' p=>hd ρ' (by rw[dC] at p;exact p)⟩
theorem se{f:α->T}{xs:List α}{h:FG}{g:FS}{d:JI}{ρ:En}(Pv:Nat->En->Prop)(h0:Pv 0 ρ)(hs:∀(i:Nat) x ρ',xs[i]?=some x->Pv i ρ'->h (f x) ρ' λρ2=>g {nx:=Pv (i+1),ct:=Pv (i+1),bk:=d.nx,rt:=d.rt} ρ2)(hd:∀ρ',Pv xs.length ρ'->d.nx ρ'):pQ (xs.map f) h g d ρ:=⟨Pv,h0,λi t ρ' e p=>by
 rw[ie] at e;cases q:xs[i]? with
 |none=>rw[q] at e;cases e
 |some x=>rw[q] at e;cases e;exact hs i x ρ' q p,λρ' p=>hd ρ' (by rw[c3] at p;exact p)⟩
theorem JZ{c:Bool}{A:Prop}(hc:c=true)(h:A):if c=true then A else B:=by rw[if_pos hc];exact h
theorem fR{c:Bool}{A:Prop}(hc:c=false)(h:B):if c=true then A else B:=by rw[if_neg (by rw[hc];exact jb)];exact h
theorem cX{c A:Prop}[Decidable c](h1:c->A)(h2:¬ c->B):if decide c=true then A else B:=by by_cases h:c;rw[if_pos (decide_eq_true h)];exact h1 h;rw[if_neg (by rw[decide_eq_false h];exact jb)];exact h2 h
def uw(i:Int):Prop:=i.natAbs<2 ^ 2000
theorem uw.of{i:Int}(h1 : -(10 ^ 200)<=i)(h2:i<=10 ^ 200):uw i:=by
 unfold uw;have e:(10:Nat) ^ 200<2 ^ 2000:=by decide
 have:i.natAbs<=10 ^ 200:=by
  have e2:((10 ^ 200:Nat):Int)=(10:Int) ^ 200:=by rw[Int.natCast_pow];rfl
  generalize (10:Nat) ^ 200=m at *;rw[<- e2] at h1 h2;omega
 exact acj this e
theorem uw.bits{i:Int}(h:uw i):Builtin.Int.intBits i<=2000:=by
 unfold Builtin.Int.intBits;split;exact jU _;have:i.natAbs.log2<2000:=by
  rcases Nat.eq_zero_or_pos i.natAbs with h0|hp
  rw[h0];decide;exact (Nat.log2_lt (RH hp)).mpr h
 omega
theorem uw.log{i:Int}(h:uw i):i.natAbs.log2<9000:=by
 rcases Nat.eq_zero_or_pos i.natAbs with h0|hp
 rw[h0];decide;exact Nat.lt_trans ((Nat.log2_lt (RH hp)).mpr h) (by decide)
def Sb(i j:Int):Prop:=uw i/\uw j
def Sd(i j:Int):Prop:=j≠0/\uw j
def Se(i j:Int):Prop:=j≠0
section
theorem O9:gH X (binaryOp .Mult) (rI Sb λi j=>.int (i * j)):=TV λ_ _ _ _ _ _ _ hc q=>
 mul_int q (IntMulOk.of_bits (mX hc.1.bits (by decide)) (mX hc.2.bits (by decide)))
theorem J_:gH X (binaryOp .FloorDiv) (rI Sd λi j=>.int (i.fdiv j)):=TV λ_ _ _ _ _ _ _ hc q=>floordiv_int hc.1 q (.inl (PyProof.noPylong_of_log2 hc.2.log))
theorem O_:gH X (binaryOp .Mod) (rI Se λi j=>.int (i.fmod j)):=TV λ_ _ _ _ _ _ _ hc q=>mod_int' hc q
end
def Ka(x y:T)(q:Rt->Prop):Prop:=match x,y with
 |.int i,.int j=>(uw i/\uw j)/\q (.vw (.int (i * j)))
 |_,_=>False
theorem Kb:rG K (rI Sb λi j=>.int (i * j)) Ka:=by intro Z tm O ρ σ H x y v w q Q I h1 h2 h k;unfold Ka at h;split at h;exact⟨_,_,h1.int,h2.int,h.1,k _ h.2 _ H (aY.refl H) ⟨I,bC⟩⟩;exact h.elim
def Kc(x y:T)(q:Rt->Prop):Prop:=match x,y with
 |.int i,.int j=>(j≠0/\uw j)/\q (.vw (.int (i.fdiv j)))
 |_,_=>False
theorem Ke:rG K (rI Sd λi j=>.int (i.fdiv j)) Kc:=by intro Z tm O ρ σ H x y v w q Q I h1 h2 h k;unfold Kc at h;split at h;exact⟨_,_,h1.int,h2.int,h.1,k _ h.2 _ H (aY.refl H) ⟨I,bC⟩⟩;exact h.elim
def Kg(x y:T)(q:Rt->Prop):Prop:=match x,y with
 |.int i,.int j=>(j≠0)/\q (.vw (.int (i.fmod j)))
 |_,_=>False
theorem Kh:rG K (rI Se λi j=>.int (i.fmod j)) Kg:=by intro Z tm O ρ σ H x y v w q Q I h1 h2 h k;unfold Kg at h;split at h;exact⟨_,_,h1.int,h2.int,h.1,k _ h.2 _ H (aY.refl H) ⟨I,bC⟩⟩;exact h.elim
section
variable{Z:Zc}{a:Expr}{fa fb:FE}{pos:Pos}
theorem EJ(ha:VR X Z a fa)(hb:VR X Z b fb):VP X Z (.BinOp a .Mult b pos) (f2 fa fb Ka):=jj O9 Kb ha hb
theorem Ki(ha:VR X Z a fa)(hb:VR X Z b fb):VP X Z (.BinOp a .FloorDiv b pos) (f2 fa fb Kc):=jj J_ Ke ha hb
theorem Pa(ha:VR X Z a fa)(hb:VR X Z b fb):VP X Z (.BinOp a .Mod b pos) (f2 fa fb Kg):=jj O_ Kh ha hb
end
theorem nn{a b:Nat}(h:a<b):a≠b:=pJ h
end VT
variable{Z:VT.Zc}{ρ:VT.En}{fa fe fb:VT.FE}{tm:List (VT.T×L2.V)}{g:VT.FA}{fc:VT.FB}
abbrev qab:=List (VT.T×L2.V)
abbrev qaj:=List VT.T
abbrev qam:=VT.Rt->Prop
abbrev qas:=@VT.VP.vr
abbrev qat:=@VT.VP.ve
abbrev qau:=@VT.VP.vx
namespace HE
open PySem PySem.W PySem.Calls PyProof.Rows
noncomputable def qI(tb:String->Option Builtin)(p:Program)(w:World)(n₀:Nat)(ann:Option Value):Nat->SharedT->Thread->Option SharedT
 |0,_,_=>none
 |n+1,s,t=>match through t with
  |true=>some s
  |false=>match stepOk n₀ ann t with
   |false=>none
   |true=>match stepT (denote tb) p w s t with
    |some (s',t')=>qI tb p w n₀ ann n s' t'
    |none=>none
theorem vQ{tb:String->Option Builtin}{p:Program}{w:World}{n₀:Nat}{ann:Option Value}:∀{n:Nat}{s s':SharedT}{t:Thread},qI tb p w n₀ ann n s t=some s'->topRun tb p w n₀ ann n s.abs t=some s'.abs
 |0,_,_,_,h=>by cases h
 |n+1,s,s',t,h=>by
  unfold qI at h;unfold topRun;cases ht:through t with
  |true=>rw[ht] at h;cases h;rfl
  |false=>
   rw[ht] at h;cases hk:stepOk n₀ ann t with
   |false=>rw[hk] at h;cases h
   |true=>
    rw[hk] at h;cases hs:stepT (denote tb) p w s t with
    |none=>rw[hs] at h;cases h
    |some r=>obtain⟨s₂,t₂⟩:=r;rw[hs] at h;rw[stepT_spec hs];exact vQ h
noncomputable def mkT(l:List Obj):BT:=(l.foldl (λ(p:BT×Nat) o=>(p.1.ins p.2 o,p.2+1)) (.nil,0)).1
noncomputable def fJ(P:Params):BT:=mkT (boot_heap P).objs.toList
noncomputable def st0(T:BT)(os:OsState):SharedT:=⟨T,11,{},Array.mk [],boot_drawn,boot_toks,os⟩
theorem boot_abs(P:Params):absHeap (fJ P) 11 {}=boot_heap P:=by kernel_rfl
theorem Gw(P:Params):((boot_heap P).isNs mainGlobals,(boot_heap P).objs.size,(boot_heap P).nsMap mainGlobals "__annotations__")=(true,11,some (.ref 6)):=by kernel_rfl
noncomputable def UX(p:Program)(T:BT)(w:World)(M:Nat)(os:OsState):Option SharedT:=qI treeTable p w 11 (some (.ref 6)) M (st0 T os) (topStub p)
noncomputable def Kf(as:qah)(g:Addr->Option Obj):Frag:=as.filterMap λa=>(g a).map λo=>(a,o)
noncomputable def tg(T:BT)(n:Nat)(a:Addr):Option Obj:=match Nat.blt a n with
 |true=>alive ((T.get a).getD default)
 |false=>none
theorem acD(T:BT)(n:Nat)(life:Life)(a:Addr):(absHeap T n life).get? a=tg T n a:=by
 unfold tg;cases h:Nat.blt a n with
 |true=>
  have hn:a<n:=Nat.ble_eq.mp h;cases g:T.get a with
  |some o=>rw[abs_get hn g];rfl
  |none=>have e:=absHeap_at T n life a;rw[if_pos hn,g] at e;unfold Heap.get?;rw[e];rfl
 |false=>
  have hn:¬ a<n:=λz=>by have:Nat.blt a n=true:=Nat.ble_eq.mpr z;rw[h] at this;cases this
  exact abs_get_none hn
abbrev Pb(q:Program)(lv:List (Str×WData))(R:WRecords)(s:Shared):Bool:=xlAt q lv s && recOk R s
noncomputable def lookA(p q:Program)(loose:qai)(lv:List (Str×WData))(R:WRecords)(T:BT)(H0:Heap)(w:World)(M:Nat)(os:OsState) :=
 (UX p T w M os).map λs=>((staticsOk (importedModules p.main.body) H0 s.abs.heap && namesBound p s.abs.heap && gensDone s.abs && laidKept H0 s.abs.heap),
  (openSeen q loose (importedModules p.main.body) (Pb q lv R) true s.abs).1,(openSeen q loose (importedModules p.main.body) (Pb q lv R) true s.abs).2.1)
noncomputable def lookB(p q:Program)(loose:qai)(lv:List (Str×WData))(R:WRecords)(T:BT)(w:World)(M:Nat)(os:OsState) :=
 (UX p T w M os).map λs=>(openSeen q loose (importedModules p.main.body) (Pb q lv R) true s.abs).2.2
noncomputable def lookC{β:Type}(p:Program)(as:qah)(F:Frag->β)(T:BT)(w:World)(M:Nat)(os:OsState) :=
 (UX p T w M os).map λs=>F (Kf as (tg s.tree s.n))
noncomputable def xn(p:Program)(N:Nat)(w:World)(a:Addr):Option Obj:=(openEnds treeTable p w N).bind (·.heap.get? a)
theorem head{p q:Program}{loose:qai}{lv:List (Str×WData)}{R:WRecords}{as:qah}{N M:Nat}{F:Frag->β}{v:World->β}(e:opening p=plainProg p.main.scope.names)(hN:Nat.ble 600 N=true)(f:∀s,fenceModules? p s=some s)(le:Nat.ble M N=true)(ra:∀(w:World) (os:OsState),lookA p q loose lv R (fJ w.params) (boot_heap w.params) w M os=some (true,(openGood q loose).1,(openGood q loose).2.1))(rb:∀(w:World) (os:OsState),lookB p q loose lv R (fJ w.params) w M os=some (openGood q loose).2.2)(rc:∀(w:World) (os:OsState),lookC p as F (fJ w.params) w M os=some (v w)) :
  LeftO p q loose (Pb q lv R) (λs=>as.map s.heap.get?) (λw=>as.map (xn p N w)) N/\∀w,F (Kf as (xn p N w))=v w:=by
 have key:∀w,∃s,openEnds treeTable p w N=some s/\openSeen q loose (importedModules p.main.body) (Pb q lv R) true s=openGood q loose/\F (Kf as s.heap.get?)=v w:=λw=>by
  obtain⟨⟨h,gs,d,k,os⟩,e1,e2⟩:=YL.mp (boot_open e hN f w);obtain⟨rfl,rfl,rfl,rfl⟩:h=boot_heap w.params/\gs=Array.mk []/\d=boot_drawn/\k=boot_toks:=by simpa using e2
  obtain⟨s,r1,r2⟩:=YL.mp (ra w os);obtain⟨s',r1',rb'⟩:=YL.mp (rb w os);obtain⟨Zq,afT,rc'⟩:=YL.mp (rc w os);obtain rfl:s=s':=Option.some.inj (r1.symm.trans r1');obtain rfl:s=Zq:=Option.some.inj (r1.symm.trans afT);have r3:=congrArg (λx=>x.1) r2;have r4:openSeen q loose (importedModules p.main.body) (Pb q lv R) true s.abs=openGood q loose:=Prod.ext (congrArg (λx=>x.2.1) r2) (Prod.ext (congrArg (λx=>x.2.2) r2) rb');have r5:F (Kf as s.abs.heap.get?)=v w:=by rw[show s.abs.heap.get?=tg s.tree s.n from funext λa=>acD _ _ _ a];exact rc'
  have t1:=vQ r1;have ea:(st0 (fJ w.params) os).abs=⟨boot_heap w.params,Array.mk [],boot_drawn,boot_toks,os⟩:=by show (⟨absHeap (fJ w.params) 11 {},_,_,_,_⟩:Shared)=_;rw[boot_abs];rfl
  rw[ea] at t1;have t2:=topRun_mono (N-M) _ _ _ _ t1;rw[show M+(N-M)=N by have:=Nat.le_of_ble_eq_true le;omega] at t2;have z:=Gw w.params;have z1:=congrArg (λx=>x.1) z;have z2:=congrArg (λx=>x.2.1) z;have z3:=congrArg (λx=>x.2.2) z;refine⟨s.abs,?_,r4,r5⟩;unfold openEnds;rw[e1];show topFrom treeTable p w N _=_;unfold topFrom;dsimp only at z1 z2 z3 ⊢;rw[z1,z2,z3,t2];show (match staticsOk (importedModules p.main.body) (boot_heap w.params) s.abs.heap && namesBound p s.abs.heap && gensDone s.abs && laidKept (boot_heap w.params) s.abs.heap with|true=>_|false=>_)=_;have r3':(staticsOk (importedModules p.main.body) (boot_heap w.params) s.abs.heap && namesBound p s.abs.heap && gensDone s.abs && laidKept (boot_heap w.params) s.abs.heap)=true:=r3;rw[r3']
 refine⟨λw=>?_,λw=>?_⟩;obtain⟨s,a,b,c⟩:=key w;rw[a];have:xn p N w=s.heap.get?:=by funext x;unfold xn;rw[a];rfl
 show some (openSeen q loose (importedModules p.main.body) (Pb q lv R) true s,as.map s.heap.get?)=some (openGood q loose,as.map (xn p N w));rw[b,this];obtain⟨s,a,b,c⟩:=key w;have:xn p N w=s.heap.get?:=by funext x;unfold xn;rw[a];rfl
 rw[this];exact c
theorem kf_in{as:qah}{g:Addr->Option Obj}(e:as.map h.get?=as.map g):(Kf as g).In h:=by
 have key:∀{as:qah},as.map h.get?=as.map g->∀a o,(Kf as g).lookup a=some o->h.get? a=some o:=by
  intro as;induction as with
  |nil=>intro _ a o z;cases z
  |cons x as ih=>
   intro e a o z;rw[ix,ix] at e;injection e with e1 e2
   unfold Kf at z;rw[oh] at z;cases hg:g x with
   |none=>rw[hg] at z;exact ih e2 a o z
   |some o'=>
    rw[hg] at z;simp only[X2,ND] at z;split at z
    rename_i q
    have:a=x:=by simpa using q
    subst this;cases z;rw[e1,hg];exact ih e2 a o z
 exact λa o z=>key e a o z
theorem Kj{q:Program}{loose:qai}{XP:(qae)->Heap->Prop}{as:qah}{g:World->Addr->Option Obj}{r:RowW}{d:DefRec}{kwd:List (Str×Expr)}{run:Value->qag->Sem Value}(h:WalkO q loose XP (λw h=>(Kf as (g w)).In h) r d kwd run):WalkX q loose XP (λs=>as.map s.heap.get?) (λw=>as.map (g w)) r d kwd run :=
 λw s₀ s₁ mg mb G y a o pm cd doc dV kV h1 h2 h3 h4 h5 h6 args vals vO L jg ZH hrd ZF hlo=>h w s₀ s₁ mg mb G (λb o' z=>Laid.keeps L _ _ (kf_in y b o' z)) a o pm cd doc dV kV h1 h2 h3 h4 h5 h6 args vals vO jg ZH hrd ZF hlo
noncomputable def acE:Stmt->DefRec
 |.FunctionDef n ps b _ _ _ sc _ _ p=>⟨n,ps,b,sc,p⟩
 |_=>⟨Str.empty,default,[],default,default⟩
end HE
variable{GL:qaj->(VT.T->Prop)->Prop}
lay_quick HE.lookA HE.lookB HE.lookC
namespace L2
open PySem PySem.Spec PyProof.Rows
section
variable{a:Expr}{tb:TE}{pos:Pos}
variable{tA Y3:TT}{rest:qap}
end
section
variable{CX:II}{k:Nat}{ks:qai}{E:XK}{m:Str}{pos afs:Pos}{kws:List Keyword}{t tk:TA}{nm:Option Str}
variable{g:qag->qag->qag}{gV:qak->qak->qak}
end
section
variable{κ:Type}[DecidableEq κ]
def j9(a_:List (κ×V))(k:κ):Option V:=(a_.find? λkv=>decide (kv.1=k)).map (·.2)
def putK(a_:List (κ×V))(k:κ)(v:V):List (κ×V) :=
 if (a_.any λkv=>decide (kv.1=k))=true then a_.map (λkv=>if kv.1=k then (kv.1,v) else kv) else a_++[(k,v)]
theorem nD{p:κ×V}{r:List (κ×V)}{k:κ}(e:p.1=k):j9 (p::r) k=some p.2:=by simp[j9,NG,e]
theorem nE{p:κ×V}{r:List (κ×V)}{k:κ}(e:¬ p.1=k):j9 (p::r) k=j9 r k:=by simp[j9,NG,e]
theorem sf(k:κ):∀a_:List (κ×V),(a_.any λkv=>decide (kv.1=k))=(j9 a_ k).isSome
 |[]=>rfl
 |p::r=>by rw[RG];by_cases e:p.1=k;simp only[nD e,decide_eq_true e,Bool.true_or,Option.isSome_some];rw[nE e,decide_eq_false e,Bool.false_or];exact sf k r
theorem j_(a_:List (κ×V))(k:κ)(v:V):(putK a_ k v).length<=a_.length+1:=by unfold putK;split;rw[c3];omega;rw[pH,y4,X3];omega
theorem Kk{a_:List (κ×V)}{k:κ}(v:V)(h:j9 a_ k=none):putK a_ k v=a_++[(k,v)]:=by unfold putK;rw[sf,h];exact if_neg (by decide)
theorem lx.Gx{o:Option V}{u:Option Value}(r:lx o u):o.isSome=u.isSome:=by
 cases o with
 |none=>cases u with
  |none=>rfl
  |some _=>exact (show False from r).elim
 |some _=>cases u with
  |none=>exact (show False from r).elim
  |some _=>rfl
theorem lx.getD{o:Option V}{u:Option Value}{d:V}{d':Value}(r:lx o u)(rd:RelV d d'):RelV (o.getD d) (u.getD d'):=by
 cases o with
 |none=>cases u with
  |none=>exact rd
  |some _=>exact (show False from r).elim
 |some _=>cases u with
  |none=>exact (show False from r).elim
  |some _=>exact r
theorem KV.val{a_:List (κ×V)}{vs:List (κ×Value)}(r:KV a_ vs)(k:κ):lx (j9 a_ k) (valueAt vs k):=by
 unfold KV at r;induction r with
 |nil=>exact True.intro
 |@cons p q ps qs h t ih=>
  obtain⟨h1,h2⟩:=h;by_cases e:p.1=k;have e':q.1=k:=h1.symm.trans e;have b:valueAt (q::qs) k=some q.2:=by simp[valueAt,NG,e']
  rw[nD e,b];exact h2;have e':¬ q.1=k:=λz=>e (h1.trans z);have b:valueAt (q::qs) k=valueAt qs k:=by simp[valueAt,NG,e']
  rw[nE e,b];exact ih
theorem KV.any{a_:List (κ×V)}{vs:List (κ×Value)}(r:KV a_ vs)(k:κ):(a_.any λkv=>decide (kv.1=k))=vs.any λkv=>decide (kv.1=k):=by
 unfold KV at r;induction r with
 |nil=>rfl
 |cons h t ih=>rw[RG,RG,ih,h.1]
theorem KV.UY{a_:List (κ×V)}{vs:List (κ×Value)}(r:KV a_ vs)(k:κ){y:V}(ry:RelV y u) :
  KV (a_.map λkv=>if kv.1=k then (kv.1,y) else kv) (vs.map λkv=>if kv.1=k then (kv.1,u) else kv):=by
 unfold KV at r ⊢;induction r with
 |nil=>exact .nil
 |@cons p q ps qs h t ih=>rw[ix,ix];refine .cons ?_ ih;obtain⟨h1,h2⟩:=h;by_cases e:p.1=k;rw[if_pos e,if_pos (h1.symm.trans e)];exact⟨h1,ry⟩;rw[if_neg e,if_neg (λz=>e (h1.trans z))];exact⟨h1,h2⟩
theorem KV.put{a_:List (κ×V)}{vs:List (κ×Value)}(r:KV a_ vs)(k:κ){y:V}(ry:RelV y u):KV (putK a_ k y) (stored vs k u):=by unfold putK stored;rw[r.any k];by_cases e:(vs.any λkv=>decide (kv.1=k))=true;rw[if_pos e,if_pos e];exact r.UY k ry;rw[if_neg e,if_neg e];exact Paired.snoc r ⟨rfl,ry⟩
theorem KV.length{a_:List (κ×V)}{vs:List (κ×Value)}(r:KV a_ vs):a_.length=vs.length:=Tq r
end
theorem pT{k:Key}(r:RelV (kV k) u):(aX P w).is k u=true:=by
 cases k with
 |inl i=>obtain⟨t,e⟩:=(show ∃t,u=Value.int i t from r);subst e;exact y6 P w i t
 |inr x=>obtain⟨t,e⟩:=(show ∃t,u=Value.str x t from r);subst e;exact y7 P w x t
theorem oG{P:Program}{w:World}:∀{ks:List Key}{us:qag},Vals (ks.map kV) us->ItemsAre (aX P w) ks us
 |[],_,r=>by rw[N6] at r;cases r;exact .nil
 |k::ks,_,r=>by
  rw[ix] at r;cases r with
  |cons h t=>exact .cons (pT h) (oG t)
abbrev KT(H:Hp):List (List Key×V)->List (List Key×Addr×Value)->Prop:=Paired λp q=>p.1=q.1/\H q.2.1=some (.tup (p.1.map kV))/\RelV p.2 q.2.2
theorem KT.val{a_:List (List Key×V)}{xs:List (List Key×Addr×Value)}(r:KT H a_ xs)(k:List Key):lx (j9 a_ k) ((atKey xs k).map (·.2)):=by
 induction r with
 |nil=>exact True.intro
 |@cons p q ps qs h t ih=>
  obtain⟨h1,_,h2⟩:=h;by_cases e:p.1=k;have e':q.1=k:=h1.symm.trans e;have b:atKey (q::qs) k=some q.2:=by simp[atKey,NG,e']
  rw[nD e,b];exact h2;have e':¬ q.1=k:=λz=>e (h1.trans z);have b:atKey (q::qs) k=atKey qs k:=by simp[atKey,NG,e']
  rw[nE e,b];exact ih
theorem KT.UY{a_:List (List Key×V)}{xs:List (List Key×Addr×Value)}(r:KT H a_ xs)(k:List Key){y:V}(ry:RelV y u) :
  KT H (a_.map λkv=>if kv.1=k then (kv.1,y) else kv) (xs.map (putAt k u)):=by
 induction r with
 |nil=>exact .nil
 |@cons p q ps qs h t ih=>rw[ix,ix];refine .cons ?_ ih;obtain⟨h1,h2,h3⟩:=h;unfold putAt;by_cases e:p.1=k;rw[if_pos e,if_pos (h1.symm.trans e)];exact⟨h1,h2,ry⟩;rw[if_neg e,if_neg (λz=>e (h1.trans z))];exact⟨h1,h2,h3⟩
theorem KT.put{a_:List (List Key×V)}{xs:List (List Key×Addr×Value)}(r:KT H a_ xs)(k:List Key){b:Addr}{y:V}(hb:H b=some (.tup (k.map kV)))(ry:RelV y u) :
  KT H (putK a_ k y) (storedH xs k b u):=by
 have e:(a_.any λkv=>decide (kv.1=k))=(atKey xs k).isSome:=by rw[sf,(r.val k).Gx,Option.isSome_map]
 unfold putK storedH;rw[e];by_cases q:(atKey xs k).isSome=true;rw[if_pos q,if_pos q];exact r.UY k ry;rw[if_neg q,if_neg q];exact Paired.snoc r ⟨rfl,hb,ry⟩
theorem KT.keeps{a_:List (List Key×V)}{xs:List (List Key×Addr×Value)}(r:KT H a_ xs)(ht:∀b ys,H b=some (.tup ys)->H' b=some (.tup ys)):KT H' a_ xs :=
 Paired.oj r λ_ _ z=>⟨z.1,ht _ _ z.2.1,z.2.2⟩
section
theorem EK{u:HO}(ok:mY P w H h)(e:Rd H a u):cH P w H h a u:=e.ok ok
theorem vR(ok:mY P w H h)(e:Rd H a (.dK a_)):a_.length<=sizeLine/\(a==sysModules)=false/\∃vs,KV a_ vs/\h.DictOf (aX P w) a vs :=
 show cH P w H h a (.dK a_) from EK ok e
theorem EL(ok:mY P w H h)(e:H a=some (.dK a_)):a_.length<=sizeLine/\(a==sysModules)=false/\∃vs,KV a_ vs/\h.DictOf (aX P w) a vs:=vR ok (.inl e)
theorem xo(ok:mY P w H h)(e:H a=some (.tup (ks.map kV))):(tupleKind (aX P w)).is h ks a:=by obtain⟨_,a4,r,o,h1,h2,n,h3⟩:=(show cH P w H h a (.tup (ks.map kV)) from ok a _ e);exact⟨o,a4.toArray,n,h1,h2,h3,by simpa using oG r⟩
theorem zH{a_:List (List Key×V)}(ok:mY P w H h)(e:Rd H a (.dT a_)):a_.length<=sizeLine/\(a==sysModules)=false /\
  ∃xs,KT H a_ xs/\h.DictOfH (tupleKind (aX P w)) a xs:=by
 obtain⟨z,y,xs,r,o,es,ep,h1,h2,h3,h4,h5⟩:=(show cH P w H h a (.dT a_) from EK ok e);refine⟨z,y,xs,r,o,es,ep,h1,h2,h3,h4,λx hx=>?_,h5⟩;have all:∀{l:List (List Key×V)}{m:List (List Key×Addr×Value)},KT H l m->∀x∈m,(tupleKind (aX P w)).is h x.1 x.2.1:=by
  intro l m q;induction q with
  |nil=>intro x hx;exact nomatch hx
  |@cons p q ps qs hq t ih=>
    intro x hx;rcases c4.mp hx with e|hx
    subst e;exact xo ok (by rw[<- hq.1];exact hq.2.1);exact ih x hx
 exact all r x hx
theorem acF{a_:List (List Key×V)}(ok:mY P w H h)(e:H a=some (.dT a_)):a_.length<=sizeLine/\(a==sysModules)=false /\
 ∃xs,KT H a_ xs/\h.DictOfH (tupleKind (aX P w)) a xs:=zH ok (.inl e)
end
def xp(H:Hp)(a:Addr)(y:V)(r:Option V):Prop :=
 (∃a_ k,Rd H a (.dK a_)/\y=kV k/\r=j9 a_ k)\/∃a_ k b,Rd H a (.dT a_)/\y=.ref b/\H b=some (.tup (k.map kV))/\r=j9 a_ k
def Gy(H:Hp)(a:Addr)(y v:V)(H':Hp):Prop :=
 (∃a_ k,H a=some (.dK a_)/\y=kV k/\a_.length<sizeLine/\H'=upd H a (.dK (putK a_ k v))) \/
 ∃a_ k b,H a=some (.dT a_)/\y=.ref b/\H b=some (.tup (k.map kV))/\a_.length<sizeLine/\H'=upd H a (.dT (putK a_ k v))
theorem xp.k{k:Key}(e:H a=some (.dK a_)):xp H a (kV k) (j9 a_ k):=.inl ⟨a_,k,.inl e,rfl,rfl⟩
theorem Gy.k{k:Key}(e:H a=some (.dK a_))(hl:a_.length<sizeLine):Gy H a (kV k) v (upd H a (.dK (putK a_ k v))):=.inl ⟨a_,k,e,rfl,hl,rfl⟩
section
variable{s:Shared}{y:V}{r:Value}{o:Option V}
theorem Inv.big(I:Inv X pins σ H s):sysModules<s.heap.objs.size:=by have h:mainGlobals<s.heap.objs.size:=(I.mod.glob.keeps I.bk).lt;exact Nat.lt_trans (by decide) h
theorem Gz(hu:A.units+1<cLine)(I:Inv X pins σ H s)(g:xp H a y (some v))(ry:RelV y u)(h:∀w' s',Inv X pins σ H s'->RelV v w'->Q w' s') :
  wpAny (model X.prog X.w) A (getItem (.ref a) u) Q E s:=by
 obtain⟨a_,k,e,ey,l⟩|⟨a_,k,b,e,ey,eb,l⟩:=g
 subst ey;obtain⟨z,hd,vs,rel,dd⟩:=vR I.cx e;obtain⟨w',hw,rw'⟩:=lx.some_of (v:=v) (o:=valueAt vs k) (by rw[l];exact rel.val k);exact wpAny_getItem_of (pT ry) dd.mapOf hw (h w' _ (I.tok _) rw');subst ey;cases (show u=Value.ref b from ry);obtain⟨z,hd,xs,rel,dd⟩:=zH I.cx e;obtain⟨w',hw,rw'⟩:=lx.some_of (v:=v) (o:=(atKey xs k).map (·.2)) (by rw[l];exact rel.val k);obtain⟨p,hp,hp2⟩:=YL.mp hw;refine wpAny_getItem_heap (tupleKind_room_in1 hu) (xo I.cx eb) dd hp ?_;rw[hp2];exact h w' _ (I.tok _) rw'
theorem qJ{ob:HO}(I:Inv X pins σ H s)(mu:YY (H a))(hs:Heap.SameBut a s.heap h')(he:∃q,h'.get? a=some q)(new:cH X.prog X.w (upd H a ob) h' a ob) :
  Inv X pins σ (upd H a ob) {s with heap:=h',toks:=t'} :=
 I.write (x:=a) (e:=a) mu (.inl rfl) (λb q hb z=>(hs.2 b hb).trans z) he new
theorem Kl{vs:List (Key×Value)}(z:a_.length<=sizeLine)(hd:(a==sysModules)=false)(rel:KV a_ vs)(dd:h'.DictOf (aX P w) a vs) :
 cH P w H' h' a (.dK a_):=⟨z,hd,vs,rel,dd⟩
theorem GA{Q:Unit->Shared->Prop}(hu:A.units+1<cLine)(I:Inv X pins σ H s)(g:Gy H a y v H')(ry:RelV y u)(rv:RelV v r)(h:∀s',Inv X pins σ H' s'->Q () s') :
  wpAny (model X.prog X.w) A (setItem (.ref a) u r) Q E s:=by
 obtain⟨a_,k,e,ey,l,eH⟩|⟨a_,k,b,e,ey,eb,l,eH⟩:=g
 subst ey eH;obtain⟨z,hd,vs,rel,dd⟩:=EL I.cx e;have hz:vs.length<=sizeLine:=by rw[<- rel.length];exact z
 have hl:(putK a_ k v).length<=sizeLine:=by have:=j_ a_ k v;omega
 refine wpAny_setItem_pairs (hsz:=hz) (pT ry) dd λh' GB hs=>h _ ?_;have he:∃q,h'.get? a=some q:=let ⟨q,_,_,hq,_⟩:=GB;⟨q,hq⟩;exact qJ I (by rw[e];exact True.intro) hs he (Kl hl hd (rel.put k rv) GB);subst ey eH;cases (show u=Value.ref b from ry);obtain⟨z,hd,xs,rel,dd⟩:=acF I.cx e;have hz:xs.length<=sizeLine:=by rw[<- Tq rel];exact z
 have hl:(putK a_ k v).length<=sizeLine:=by have:=j_ a_ k v;omega
 refine wpAny_setItem_heap (hsz:=hz) (tupleKind_room_in1 hu) (xo I.cx eb) dd λh' GB hs=>h _ ?_;obtain⟨q,es,ep,hq,h2,h3,h4,_,h5⟩:=GB;refine qJ I (by rw[e];exact True.intro) hs ⟨q,hq⟩ ⟨hl,hd,_,(rel.put k eb rv).keeps λc ys ec=>?_,q,es,ep,hq,h2,h3,h4,h5⟩;rw[aE (IW ec e (λz=>nomatch z))];exact ec
end
section
variable{s:Shared}{k:Key}
theorem acG(I:Inv X pins σ H s)(e:Rd H a (.dK a_))(h:∀t s',Inv X pins σ H s'->Q (.int a_.length t) s'):wpAny (model X.prog X.w) A (call (.builtin "len") [.ref a]) Q E s:=by obtain⟨z,hd,vs,rel,dd⟩:=vR I.cx e;refine call_len_dict hd dd (by rw[<- rel.length];rw[sizeLine_eq] at z;omega) ?_;rw[<- rel.length];exact h _ _ (I.tok _)
end
def Pc(i:Expr):Prop:=∀ov iv,subscripted i false ov iv=operate [ov,iv] (getItem ov iv)
theorem EM{s:Shared}{env:Env}{value slice:Expr}{pos:Pos}{T id:String}(hl:typeLookup (.type T) "__getitem__"=pure (some (.builtin id)))(hs:Pc slice)(h:wpAny (model prog w) A (eval value env) (λo s₁=>wpAny (model prog w) A (eval slice env) (λi s₂=>s₂.TypeIs o T/\wpAny (model prog w) A (getItem o i) Q E s₂) E s₁) E s) :
  wpAny (model prog w) A (eval (.Subscript value slice pos) env) Q E s:=by
 refine Subscript_ (wpAny_mono h (λo s₁ h₁=>wpAny_mono h₁ (λi s₂ h₂=>?_) λ_ _ x=>x) λ_ _ x=>x);obtain⟨hT,h₂⟩:=h₂;unfold subscriptTail;refine wpAny_bind ?_;rw[getitemInPython_of_ne hT.not_modules];refine wpAny_bind (wpAny_specialOf hT hl ?_);have fin:wpAny (model prog w) A (subscripted slice false o i) (λr s₃=>wpAny (model prog w) A (letTemporaryGo value o r >>= λ_=>pure r) Q E s₃) E s₂:=by rw[hs o i];exact wpAny_operating (wpAny_mono h₂ (λr s₃ h₃=>wpAny_bind (wpAny_letTemporaryGo (wpAny_pure h₃))) λ_ _ x=>x)
 first
  |exact wpAny_pure (wpAny_bind fin)
  |exact wpAny_bind (wpAny_pure (wpAny_bind fin))
  |exact wpAny_bind fin
theorem zI{s:Shared}{y:V}{o:Option V}(I:Inv X pins σ H s)(g:xp H a y o):s.TypeIs (.ref a) "dict":=by
 obtain⟨a_,k,e,_,_⟩|⟨a_,k,b,e,_,_,_⟩:=g
 obtain⟨_,_,vs,_,dd⟩:=vR I.cx e;exact dd.typeIs;obtain⟨_,_,xs,_,dd⟩:=zH I.cx e;exact dd.typeIs
def acH(td ty:TE):TE:=λσ H Q=>td σ H λx H1=>ty σ H1 λy H2=>∃a v,x=.ref a/\xp H2 a y (some v)/\Q v H2
def acI(td ty tv:TE):TS:=λD σ H=>tv σ H λv H1=>td σ H1 λx H2=>ty σ H2 λy H3=>∃a H4,x=.ref a/\Gy H3 a y v H4/\D.nx σ H4
section
variable{i value:Expr}{pos pos':Pos}{td ty tv:TE}
theorem Pe(hu:X.A.units+1<cLine)(ho:PE X o td)(hi:PE X i ty)(hs:Pc i):PE X (.Subscript o i pos) (acH td ty):=by intro pins s σ H Q I h;refine EM PySem.F.slot_dict_getitem.lookup hs (cc (ho pins s σ H _ I h) λu s1 ⟨x,H1,I1,rx,q1⟩=>cc (hi pins s1 σ H1 _ I1 q1) λiv s2 ⟨y,H2,I2,ry,a,v,ex,g,q2⟩=>?_);subst ex;obtain rfl:u=Value.ref a:=rx;exact⟨zI I2 g,Gz hu I2 g ry λw' s3 I3 rw'=>⟨v,H2,I3,rw',q2⟩⟩
theorem EN(hu:X.A.units+1<cLine)(ho:PE X o td)(hi:PE X i ty)(hv:PE X value tv)(hs:swapsWith value (some (.Subscript o i pos')) pos.line X.env=pure false) :
  PS X (.Assign [.Subscript o i pos'] value pos) (acI td ty tv):=by
 intro pins s σ H D I h;refine wpAny_Assign_Subscript (cc (hv pins s σ H _ I h) λr s1 ⟨v,H1,I1,rv,q1⟩=>cc (ho pins s1 σ H1 _ I1 q1) λu s2 ⟨x,H2,I2,rx,q2⟩=>cc (hi pins s2 σ H2 _ I2 q2) λiv s3 ⟨y,H3,I3,ry,a,H4,ex,g,q3⟩=>?_) hs;subst ex;obtain rfl:u=Value.ref a:=rx;exact GA hu I3 g ry rv λs4 I4=>⟨σ,H4,I4,q3⟩
end
theorem zJ(h:Heap)(hb:sysModules<h.objs.size):cH P w H (h.push {cls:=.type "dict",data:=.dict #[]}) h.objs.size (.dK []) :=
 ⟨jU _,beq_eq_false_iff_ne.mpr (Ne.symm (pJ hb)),[],.nil,Heap.DictOf.new h⟩
def UZ:TE:=λ_ H Q=>∀p,H p=none->Q (.ref p) (upd H p (.dK []))
section
variable{pos:Pos}
theorem zK:PE X (.Dict [] [] pos) UZ:=λpins s σ H Q I h=>
 wpAny_Dict_empty ⟨.ref s.heap.objs.size,_,I.laid (a:=s.heap.objs.size) (o:=.dK []) (t':=s.toks) (λ_ _ q=>og _ q) (c_ _) (zJ s.heap I.big),rfl,h _ (I.cx.fresh (c_ _))⟩
end
structure M2(X:Cx)(o:Expr)(m:Str)(apos:Pos)(e f:Expr)(a5:Pos):Prop where
 base:attributeBase o m X.env (eval o X.env)=eval o X.env
 few:((backTo a5 (starEach [e,f] X.env)).all (λx=>!x.1) && (backToKw a5 (keywordEach [] X.env)).all (λx=>x.1.isSome)
  && decide (([e,f]:qap).length+([]:List Keyword).length+(if ([]:List Keyword).isEmpty then 0 else 1)<30))=true
 line:(apos.endLine==a5.line)=true
 trees:backTo a5 (starEach [e,f] X.env)=[(false,eval e X.env),(false,eval f X.env)]
def IsD(H:Hp)(a:Addr):Prop:=(∃a_,Rd H a (.dK a_))\/∃a_,Rd H a (.dT a_)
theorem U0{s:Shared}(I:Inv X pins σ H s)(d:IsD H a) :
  s.TypeIs (.ref a) "dict"/\(∀b,Value.ref a=.ref b->∃ob,s.heap.get? b=some ob/\ob.dict=none)/\(a==sysModules)=false:=by
 obtain⟨a_,e⟩|⟨a_,e⟩:=d
 obtain⟨_,hd,vs,_,dd⟩:=vR I.cx e;refine⟨dd.typeIs,λb q=>?_,hd⟩;cases q;obtain⟨ob,_,_,h1,h2,_⟩:=dd;exact⟨ob,h1,h2.2.1⟩;obtain⟨_,hd,xs,_,dd⟩:=zH I.cx e;refine⟨dd.typeIs,λb q=>?_,hd⟩;cases q;obtain⟨ob,_,_,h1,h2,_⟩:=dd;exact⟨ob,h1,h2.2.1⟩
section
variable{s:Shared}{y d:V}{r:Value}{o:Option V}
theorem U1(hu:A.units+1<cLine)(I:Inv X pins σ H s)(g:xp H a y o)(ry:RelV y u)(rd:RelV d r)(h:∀w' s',Inv X pins σ H s'->RelV (o.getD d) w'->Q w' s') :
  wpAny (model X.prog X.w) A (call (.builtin "dict.get") [.ref a,u,r]) Q E s:=by
 obtain⟨a_,k,e,ey,l⟩|⟨a_,k,b,e,ey,eb,l⟩:=g
 subst ey;obtain⟨z,hd,vs,rel,dd⟩:=vR I.cx e;refine call_meetsIn RA dd.typeIs YM (YI _ _ _) (meets_dict_get_default (aX X.prog X.w) a (pT ry) hd r) ⟨_,dd.mapOf,h _ _ (I.tok _) ?_⟩;rw[l];exact (rel.val k).getD rd;subst ey;cases (show u=Value.ref b from ry);obtain⟨z,hd,xs,rel,dd⟩:=zH I.cx e;refine call_meetsIn RA dd.typeIs YM (YI _ _ _) (meetsH_dict_get_default (tupleKind (aX X.prog X.w)) a b hd r) ⟨tupleKind_room_in1 hu,k,xs,xo I.cx eb,dd,h _ _ (I.tok _) ?_⟩;rw[l];exact (rel.val k).getD rd
end
def U2(td ty tx:TE):TE:=λσ H Q=>td σ H λx H1=>∃a,x=.ref a/\IsD H1 a/\ty σ H1 λy H2=>tx σ H2 λz H3=>∃o,xp H3 a y o/\Q (o.getD z) H3
section
variable{f:Expr}{td ty tx:TE}
theorem Km(hu:X.A.units+1<cLine)(ho:PE X o td)(he:PE X e ty)(hf:PE X f tx)(m:M2 X o "get" apos e f a5):PE X (.Call (.Attribute o "get" apos) [e,f] [] a5) (U2 td ty tx):=by
 intro pins s σ H Q I h;refine wpAny_Call_method m.base m.few m.line YJ RA PySem.F.type_dict_get (cc (ho pins s σ H _ I h) λu s1 ⟨x,H1,I1,rx,a,ex,d,q1⟩=>?_);subst ex;obtain rfl:u=Value.ref a:=rx;obtain⟨t1,t2,_⟩:=U0 I1 d;refine⟨t1,t2,?_⟩;rw[m.trees];refine YK rfl (ab9 (Th (cc (he pins s1 σ H1 _ I1 q1) λiv s2 ⟨y,H2,I2,ry,q2⟩ =>
  Th (cc (hf pins s2 σ H2 _ I2 q2) λfv s3 ⟨z,H3,I3,rz,ov,g,q3⟩=>Calls.spliced_nil ?_))))
 exact U1 hu I3 g ry rz λw' s4 I4 rw'=>⟨_,H3,I4,rw',q3⟩
end
end L2
namespace Att
open PySem PySem.W PySem.Calls PyProof.Rows
end Att
namespace L2
open PySem PySem.Spec PyProof.Rows
section
theorem GC:fF X (.builtin "len") (λxs H Q=>∃a a_,xs=[V.ref a]/\H a=some (.dK a_)/\Q (.int a_.length) H):=by intro pins s σ H xs us Q I r h;obtain⟨a,a_,rfl,ha,q⟩:=h;obtain⟨u,rfl,ru⟩:=vals1 r;cases ru;exact acG I (.inl ha) λt s' I'=>⟨.int a_.length,H,I',⟨t,rfl⟩,q⟩
end
end L2
namespace NK
open PySem PySem.Spec PySem.Calls PyProof.Rows L2
abbrev CK:=List Key×Key
def xq(P:Program)(w:World)(h:Heap)(c:CK)(a:Addr):Prop:=∃o items n b v,h.get? a=some o/\o.cls=.type "tuple"/\o.data=.seq items n/\items.toList=[.ref b,v]/\IsTupleKey (aX P w) h c.1 b/\(aX P w).is c.2 v=true
theorem xq.typeIs{s:Shared}{c:CK}(x:xq P w s.heap c a):s.TypeIs (.ref a) "tuple":=let ⟨o,_,_,_,_,ho,hc,_⟩:=x;⟨o,ho,hc⟩
theorem xq.inj{x y:CK}(hx:xq P w h x a)(hy:xq P w h y a):x=y:=by
 obtain⟨o,items,n,b,v,ho,_,hd,hi,h1,h2⟩:=hx;obtain⟨o',afU,n',b',v',jP,_,IH,Jz,EG,JS⟩:=hy;obtain rfl:o=o':=Option.some.inj (ho.symm.trans jP);rw[hd] at IH;injection IH with e1 _
 subst e1;rw[hi] at Jz;injection Jz with e2 e3
 injection e2 with e2
 injection e3 with e3 _
 subst e2;subst e3;exact Prod.ext (h1.inj EG) ((aX P w).inj _ _ _ h2 JS)
theorem xq.keeps{c:CK}{o:Obj}{es ep}(x:xq P w h c a)(ho:h.get? d=some o)(hd:o.data=.dict es ep)(hs:Heap.SameBut d h h'):xq P w h' c a:=by
 obtain⟨o',items,n,b,v,jP,hc,IH,hi,h1,h2⟩:=x;have ik:a≠d:=by rintro rfl;obtain rfl:o'=o:=Option.some.inj (jP.symm.trans ho);rw[hd] at IH;exact nomatch IH
 exact⟨o',items,n,b,v,(hs.2 a ik).trans jP,hc,IH,hi,h1.keeps ho hd hs,h2⟩
def bu(P:Program)(w:World)(c:CK):Int:=reduceHash (Builtin.Tuple.tupleHashOf [tupleKeyHash (aX P w) c.1,(aX P w).hash c.2])
variable{s:Shared}
theorem sg{c:CK}{Q:Int->Shared->Prop}(hu:A.units+2<cLine)(hk:xq P w s.heap c a)(h:Q (bu P w c) {s with toks:=s.toks+(c.1.length+3)}):wpAny (model P w) A (pyHash (.ref a)) Q E s:=by
 have hT:=hk.typeIs;obtain⟨o,items,n,b,v,ho,_,hd,hi,h1,h2⟩:=hk;unfold pyHash
 first|unfold pyHashByItsType|skip
 first|refine wpAny_bind (wpAny_cRoomFor_or (.inr (by omega)) ?_)|skip
 refine wpAny_bind (wpAny_specialOf hT F.slot_tuple_hash.lookup ?_);show wpAny _ _ (if (some (Value.builtin "tuple.__hash__")==some Value.none)=true then _ else _) Q E s;rw[if_neg (by rw[beq_builtin_none];exact jb)];refine wpAny_bind (wpAny_specialOf hT F.slot_tuple_hash.lookup ?_);show wpAny _ _ (callSpecialIfBoundUnlessNone? (.ref a) "__hash__" _ >>= _) Q E s;refine wpAny_bind (wpAny_callSpecialIfBoundUnlessNone?_slot hT F.slot_tuple_hash (wpAny_call_entry F.slot_tuple_hash hT F.entry_tuple_hash ?_ (F.args_tuple_hash_1 _)));show wpAny _ _ (Builtin.Tuple.tupleItemsOf (.ref a) >>= _) _ _ s;refine wpAny_bind (wpAny_tupleItemsOf ho hd ?_);refine wpAny_bind ?_;rw[<- Array.forIn_toList,hi];refine wpAny_forIn_list _
  (λrest (hs:Array Int) s'=>(rest=[.ref b,v]/\hs=#[]/\s'=s)\/(rest=[v]/\hs=#[tupleKeyHash (aX P w) c.1]/\s'={s with toks:=s.toks+(c.1.length+1)})\/(rest=[]/\hs=#[tupleKeyHash (aX P w) c.1,(aX P w).hash c.2]/\s'={s with toks:=s.toks+(c.1.length+1)+1}))
  _ ?_ ?_ _ _ (.inl ⟨rfl,rfl,rfl⟩)
 rintro x rest hs s' (⟨e,rfl,rfl⟩|⟨e,rfl,rfl⟩|⟨e,_⟩);cases e;refine wpAny_bind (wpAny_pyHash_tuple (knd:=aX P w) (by show A.units+1<cLine;omega) h1 ?_)
 first
  |exact wpAny_pure (.inr (.inl ⟨rfl,rfl,rfl⟩))
  |exact wpAny_bind (wpAny_pure (wpAny_pure (.inr (.inl ⟨rfl,rfl,rfl⟩))))
 cases e;refine wpAny_bind ((aX P w).pyHash h2 ?_)
 first
  |exact wpAny_pure (.inr (.inr ⟨rfl,rfl,rfl⟩))
  |exact wpAny_bind (wpAny_pure (wpAny_pure (.inr (.inr ⟨rfl,rfl,rfl⟩))))
 cases e;rintro hs s' (⟨e,_⟩|⟨e,_⟩|⟨_,rfl,rfl⟩);cases e;cases e;show wpAny _ _ (retInt (Builtin.Tuple.tupleHashOf [tupleKeyHash (aX P w) c.1,(aX P w).hash c.2])) _ _ _;refine wpAny_ret_mkInt ?_;have ht:s.toks+(c.1.length+1)+1+1=s.toks+(c.1.length+3):=by omega
 unfold bu reduceHash at h;generalize Builtin.Tuple.tupleHashOf [tupleKeyHash (aX P w) c.1,(aX P w).hash c.2]=z at h ⊢;show wpAny _ _ (if (decide (-(2:Int) ^ 63<=z) && decide (z<2 ^ 63))=true then _ else _) Q E _;by_cases hr:(decide (-(2:Int) ^ 63<=z) && decide (z<2 ^ 63))=true;rw[if_pos hr];rw[if_pos hr] at h;exact wpAny_pure (by rw[<- ht] at h;exact h);rw[if_neg hr];rw[if_neg hr] at h;exact wpAny_bind (wpAny_rule (wpAny_pure (by rw[<- ht] at h;exact h)))
theorem GD{x y:CK}{b:Addr}{R:Fin->Shared->Prop}(hu:A.units<cLine)(hx:xq P w s.heap x a)(hy:xq P w s.heap y b)(h:R (.done (.ret (.bool (decide (x=y))))) s) :
  wpAny (model P w) A (Builtin.«tuple.__eq__» ⟨[.ref a,.ref b],[]⟩) R E s:=by
 have hTb:=hy.typeIs;obtain⟨oa,xs,na,ba,va,hoa,_,hda,hia,ka,la⟩:=hx;obtain⟨ob,ys,nb,bb,vb,hob,_,q_,hib,kb,lb⟩:=hy;show wpAny _ _ (isInstance (.ref b) (.type "tuple") >>= _) _ _ s;refine wpAny_bind (wpAny_isInstance hTb isSubtype_tuple_tuple ?_);simp only[NH,IC,if_false];refine wpAny_bind (wpAny_tupleItemsOf hoa hda ?_);refine wpAny_bind (wpAny_tupleItemsOf hob q_ ?_);refine wpAny_bind ?_;have sx:(xs.size==ys.size)=true:=by rw[<- RB,<- RB,hia,hib];rfl
 have dec:decide (x=y)=(decide (x.1=y.1) && decide (x.2=y.2)):=by rw[YT];simp[Prod.ext_iff]
 refine wpAny_forIn_list _
  (λrest r s'=>r.1=none/\s'=s/\((rest=List.zip xs.toList ys.toList)\/(rest=[(va,vb)]/\x.1=y.1)\/(rest=[]/\x=y))) _ ?_ ?_ _ _ ⟨rfl,rfl,.inl rfl⟩
 rintro⟨u,v⟩ rest r s' ⟨hr,rfl,h3⟩;obtain e|⟨e,e1⟩|⟨e,_⟩:=h3
 rw[hia,hib] at e;simp only[N2,List.zip_nil_right,List.cons.injEq,Prod.mk.injEq] at e;obtain⟨⟨rfl,rfl⟩,rfl⟩:=e;refine wpAny_bind (wpAny_eqBool_tuple hu ka kb ?_);by_cases hk:x.1=y.1;rw[decide_eq_true hk];simp only[NH,IC,if_false];exact wpAny_pure ⟨rfl,rfl,.inr (.inl ⟨trivial,hk⟩)⟩;rw[decide_eq_false hk];simp only[Bool.not_false,if_true];have hf:decide (x=y)=false:=by rw[dec,decide_eq_false hk];rfl
 rw[hf] at h;exact wpAny_bind (wpAny_pure (wpAny_pure (wpAny_pure h)));simp only[List.cons.injEq,Prod.mk.injEq] at e;obtain⟨⟨rfl,rfl⟩,rfl⟩:=e;refine wpAny_bind ((aX P w).eqBool la lb ?_);by_cases hk:x.2=y.2;rw[decide_eq_true hk];simp only[NH,IC,if_false];exact wpAny_pure ⟨rfl,rfl,.inr (.inr ⟨trivial,Prod.ext e1 hk⟩)⟩;rw[decide_eq_false hk];simp only[Bool.not_false,if_true];have hf:decide (x=y)=false:=by rw[dec,decide_eq_false hk,Bool.and_false]
 rw[hf] at h;exact wpAny_bind (wpAny_pure (wpAny_pure (wpAny_pure h)));cases e
 . rintro⟨r1,r2⟩ s' ⟨hr,rfl,h3⟩;simp only at hr;subst hr;refine wpAny_pure ?_;show R (.done (.ret (.bool (xs.size==ys.size)))) s';rw[sx];obtain e|⟨e,_⟩|⟨_,e⟩:=h3
   rw[hia,hib] at e;cases e;cases e;rw[decide_eq_true e] at h;exact h
theorem Kn{x y:CK}{b:Addr}{Q:Bool->Shared->Prop}(hu:A.units+2<cLine)(hx:xq P w s.heap x a)(hy:xq P w s.heap y b)(h:Q (decide (x=y)) s) :
  wpAny (model P w) A (eqBool (.ref a) (.ref b)) Q E s:=by
 unfold eqBool
 try with_reducible refine wpAny_holding ?_
 show wpAny _ _ (if (Value.ref a==Value.ref b)=true then _ else _) Q E s;by_cases hab:(Value.ref a==Value.ref b)=true;rw[if_pos hab];have e:a=b:=by have:=eq_of_beq hab;injection this
 subst e;obtain rfl:=hx.inj hy;exact wpAny_bind (wpAny_rule (wpAny_pure (by simpa using h)));rw[if_neg hab];exact wpAny_bind (wpAny_richCompare_same_room (op:=.Eq) hx.typeIs hy.typeIs F.slot_tuple_eq
  (wpAny_call_entry F.slot_tuple_eq hx.typeIs F.entry_tuple_eq (GD (by show A.units+1<cLine;omega) hx hy ⟨_,rfl,(λe=>nomatch e),wpAny_truthy_bool h⟩) (F.args_tuple_eq_2 _ _)) (by omega))
theorem U3{Q:Bool->Shared->Prop}(hk:IsTupleKey (aX P w) s.heap ks a)(h:Q true s):wpAny (model P w) A (eqIsQuiet (n+1) (.ref a)) Q E s:=by have hT:=hk.typeIs;obtain⟨o,items,n,ho,_,hd,hi⟩:=hk;unfold eqIsQuiet;refine wpAny_bind (wpAny_specialOf hT F.slot_tuple_eq.lookup ?_);show wpAny _ _ (isInstance (.ref a) (.type "tuple") >>= _) _ _ s;refine wpAny_bind (wpAny_isInstance hT isSubtype_tuple_tuple ?_);simp only[NH,IC,if_false];refine wpAny_bind (wpAny_seqItems ho hd ?_);refine wpAny_bind ?_;show wpAny _ _ (forIn items _ _) _ _ s;rw[<- Array.forIn_toList];refine wpAny_forIn_list _ (λrest r s'=>r.1=none/\s'=s/\∀v∈rest,carriedByValue v=true) _ ?_ ?_ _ _ ⟨rfl,rfl,hi.byValue⟩;rintro v rest r s' ⟨hr,rfl,Ge⟩;rw[eqIsQuiet_byValue _ (Ge v dP)];refine wpAny_bind (wpAny_pure ?_);simp only[NH,IC,if_false];exact wpAny_pure ⟨rfl,rfl,λu dQ=>Ge u (ic _ dQ)⟩;rintro⟨r1,r2⟩ s' ⟨hr,rfl,_⟩;simp only at hr;subst hr;exact wpAny_pure h
theorem EO{c:CK}{Q:Bool->Shared->Prop}(hk:xq P w s.heap c a)(h:Q true s):wpAny (model P w) A (eqIsQuiet 8 (.ref a)) Q E s:=by have hT:=hk.typeIs;obtain⟨o,items,n,b,v,ho,_,hd,hi,h1,h2⟩:=hk;unfold eqIsQuiet;refine wpAny_bind (wpAny_specialOf hT F.slot_tuple_eq.lookup ?_);show wpAny _ _ (isInstance (.ref a) (.type "tuple") >>= _) _ _ s;refine wpAny_bind (wpAny_isInstance hT isSubtype_tuple_tuple ?_);simp only[NH,IC,if_false];refine wpAny_bind (wpAny_seqItems ho hd ?_);refine wpAny_bind ?_;show wpAny _ _ (forIn items _ _) _ _ s;rw[<- Array.forIn_toList,hi];refine wpAny_forIn_list _ (λrest r s'=>r.1=none/\s'=s/\(rest=[.ref b,v]\/rest=[v]\/rest=[])) _ ?_ ?_ _ _ ⟨rfl,rfl,.inl rfl⟩;rintro u rest r s' ⟨hr,rfl,e|e|e⟩;cases e;refine wpAny_bind (U3 h1 ?_);simp only[NH,IC,if_false];exact wpAny_pure ⟨rfl,rfl,.inr (.inl trivial)⟩;cases e;rw[eqIsQuiet_byValue _ ((aX P w).byValue _ _ h2)];refine wpAny_bind (wpAny_pure ?_);simp only[NH,IC,if_false];exact wpAny_pure ⟨rfl,rfl,.inr (.inr trivial)⟩;cases e;rintro⟨r1,r2⟩ s' ⟨hr,rfl,_⟩;simp only at hr;subst hr;exact wpAny_pure h
def si(P:Program)(w:World):HeapKind P w CK where
 is:=xq P w
 hash:=bu P w
 draws:=λc=>c.1.length+3
 room:=λA=>A.units+2<cLine
 inj:=λhx hy=>hx.inj hy
 keeps:=λx ho hd hs=>x.keeps ho hd hs
 pyHash:=λhu hk h=>sg hu hk h
 eqBool:=λhu hx hy h=>Kn hu hx hy h
 quiet:=λhk h=>EO hk h
variable{s:Shared}
theorem zL{Q:Int->Shared->Prop}(hu:A.units<cLine)(h:∀z t,Q z {s with toks:=t}):wpAny (model P w) A (pyHash .none) Q E s:=by
 unfold pyHash
 first|unfold pyHashByItsType|skip
 first|refine wpAny_bind (wpAny_cRoomFor_or (.inr (by omega)) ?_)|skip
 have hT:s.TypeIs .none "NoneType":=rfl;refine wpAny_bind (wpAny_specialOf hT aca.lookup ?_);show wpAny _ _ (if (some (Value.builtin "NoneType.__hash__")==some Value.none)=true then _ else _) Q E s;rw[if_neg (by rw[beq_builtin_none];exact jb)];refine wpAny_bind (wpAny_specialOf hT aca.lookup ?_);show wpAny _ _ (callSpecialIfBoundUnlessNone? .none "__hash__" _ >>= _) Q E s;refine wpAny_bind (wpAny_callSpecialIfBoundUnlessNone?_slot hT aca (wpAny_call_entry aca hT F.entry_NoneType_hash ?_ (F.args_NoneType_hash_1 _)));show wpAny _ _ (retInt 4238894112) _ _ s;refine wpAny_ret_mkInt ?_;show wpAny _ _ (if (decide (-(2:Int) ^ 63<=4238894112) && decide ((4238894112:Int)<2 ^ 63))=true then _ else _) Q E _;rw[if_pos (by decide)];exact wpAny_pure (h _ _)
theorem find_none{o:Obj}{es ep}{xs:List (CK×Addr×Value)}{z:Int}{Q:Option Nat->Shared->Prop}(hu:A.units<cLine)(ho:s.heap.get? d=some o)(hd:o.data=.dict es ep)(he:es.toList=xs.map (entryOfKey (si P w)))(NQ:∀x∈xs,xq P w s.heap x.1 x.2.1)(hq:Q none s) :
  wpAny (model P w) A (dictFind d .none z) Q E s:=by
 have Ko:∀e∈es,∃x∈xs,e=entryOfKey (si P w) x:=by intro e Cf;have:e∈xs.map (entryOfKey (si P w)):=he▸Array.mem_toList_iff.mpr Cf;obtain⟨x,hx,rfl⟩:=vz.mp this;exact⟨x,hx,rfl⟩
 have Od:∀v∈(placesWithHash es.size (λi=>es[i]?.map (·.hash)) z).filterMap (λi=>es[i]?.map (·.key)),∃k' b,v=.ref b/\xq P w s.heap k' b:=by
  intro v hv;obtain⟨i,_,hi⟩:=acg.mp hv;cases Sf:es[i]? with
  |none=>rw[Sf] at hi;cases hi
  |some e=>
    rw[Sf] at hi;obtain rfl:e.key=v:=by simpa using hi
    obtain⟨x,hx,rfl⟩:=Ko e (Array.mem_of_getElem? Sf);exact⟨x.1,x.2.1,rfl,NQ x hx⟩
 unfold dictFind
 try with_reducible refine wpAny_holding ?_
 refine wpAny_bind (wpAny_dictEntries ho hd ?_);dsimp only;have jF:∀i∈placesWithHash es.size (λi=>es[i]?.map (·.hash)) z,∃e,es[i]?=some e:=λi hi=>by
  unfold placesWithHash at hi;have:=(X0.mp hi).2;cases Sf:es[i]? with
  |none=>have Sg:(es[i]?.map (·.hash)==some z)=true:=this;rw[Sf] at Sg;simp at Sg
  |some e=>exact⟨e,rfl⟩
 generalize placesWithHash es.size (λi=>es[i]?.map (·.hash)) z=places at Od jF ⊢;cases places with
 |nil=>rw[if_pos (by rfl)];unfold dictWalkPlain;refine wpAny_bind ?_;rw[List.forIn_nil];exact wpAny_pure (wpAny_pure hq)
 |cons i0 places=>
   obtain⟨e0,h0⟩:=jF i0 dP;have ik:(i0::places).filterMap (λi=>es[i]?.map (·.key))=e0.key::places.filterMap (λi=>es[i]?.map (·.key)):=by rw[oh,h0];rfl
   obtain⟨k0,b0,oH,_⟩:=Od e0.key (by rw[ik];exact dP);rw[if_neg (by rw[ik,oH];simp[carriedByValue])];have afV:¬ (((i0::places).filterMap (λi=>es[i]?.map (·.key)))==[Value.none])=true:=by
    rw[ik,oH];intro hc;have:=eq_of_beq hc;injection this with e1 _
    cases e1
   rw[if_neg afV];have tell:∀{Q':Bool->Shared->Prop},Q' false s->wpAny (model P w) A (tableMayTell .none ((i0::places).filterMap (λi=>es[i]?.map (·.key)))) Q' E s:=λ{Q'} fg=>by unfold tableMayTell;split;exact wpAny_pure fg;rw[eqIsQuiet_byValue _ (rfl:carriedByValue .none=true)];refine wpAny_bind (wpAny_pure ?_);simp only[NH,IC,if_false];refine wpAny_bind ?_;refine wpAny_forIn_list _ (λrest r s'=>s'=s/\r=(none,())/\∀v∈rest,∃k' b,v=.ref b/\xq P w s.heap k' b) _ ?_ ?_ _ _ ⟨rfl,rfl,Od⟩;rintro x rest r s' ⟨rfl,rfl,hr⟩;obtain⟨k',b,rfl,hb⟩:=hr x dP;refine wpAny_bind (EO hb ?_);simp only[NH,IC,if_false];exact wpAny_pure ⟨rfl,rfl,λv hv=>hr v (ic _ hv)⟩;rintro r s' ⟨rfl,rfl,_⟩;exact wpAny_pure fg
   refine wpAny_bind (tell ?_);rw[if_neg (by simp)];refine wpAny_bind ?_;refine wpAny_forIn_list _ (λrest b s'=>s'=s/\b=(none,none)/\∀i∈rest,∃e,es[i]?=some e) _ ?_ ?_ _ _ ⟨rfl,rfl,jF⟩;rintro i rest b s' ⟨rfl,rfl,hr⟩;obtain⟨e,Sf⟩:=hr i dP;have c5:∀j∈rest,∃e,es[j]?=some e:=λj hj=>hr j (ic _ hj);obtain⟨x,hx,ex⟩:=Ko e (Array.mem_of_getElem? Sf);have hk:=NQ x hx;rw[Sf];dsimp only;by_cases hh:(e.hash==z)=true;rw[if_pos hh];obtain⟨ox,items,n,bx,vx,g1,g2,g3,g4,g5,g6⟩:=id hk;have hT:s'.heap.IsTuple x.2.1 items:=⟨ox,g1,g2,n,g3⟩;have ek:e.key=.ref x.2.1:=by rw[ex];rfl
   rw[ek];refine wpAny_bind (wpAny_dictEpoch ho hd (wpAny_bind (SeqAt.EqAt.tuple_none hT hu P w E _ (wpAny_bind (wpAny_dictEpoch ho hd ?_)))));rw[if_neg (by simp)];simp only[IC,if_false,YV];refine wpAny_bind (wpAny_rule ?_);exact wpAny_pure ⟨rfl,rfl,c5⟩;rw[if_neg hh];exact wpAny_pure ⟨rfl,rfl,c5⟩;rintro b s' ⟨rfl,rfl,_⟩;exact wpAny_pure hq
theorem sj(d:Addr)(hd:(d==sysModules)=false)(dflt:Value) :
  MeetsIn P w (Builtin.«dict.get» ⟨[.ref d,.none,dflt],[]⟩) (λA R s=>A.units+1<cLine/\∃xs,s.heap.DictOfH (si P w) d xs/\∀t,R (.ok (.ret dflt)) {s with toks:=t}) :=
 .of_wp λA R s ⟨hu,xs,hm,h⟩=>by
  obtain⟨o,es,ep,ho,_,hdd,he,NQ,hn⟩:=hm;show wpAny _ _ (dictGet d .none >>= _) _ _ s;refine wpAny_bind ?_;unfold dictGet
  try with_reducible refine wpAny_holding ?_
  refine wpAny_bind (zL hu λz t=>wpAny_bind (find_none (s:={s with toks:=t}) hu ho hdd he NQ ?_));refine wpAny_pure ?_;show wpAny _ _ (Builtin.Dict.missed d .none >>= _) _ _ _;exact wpAny_bind (wpAny_missed_other hd (wpAny_pure ⟨dflt,rfl,h t⟩))
end NK
namespace VT
open PySem PySem.Spec PyProof.Rows L2
def zM:T->Option Key
 |.int i=>some (.inl i)
 |.str x=>some (.inr x)
 |_=>none
theorem nF{A:qah}{t:T}{k:Key}(h:iz K H A t v)(e:zM t=some k):v=kV k:=by
 cases t with
 |int i=>cases e;exact h.int
 |str x=>cases e;exact h.str
 |_=>cases e
def dj{α:Type}:List Key->List α->Key->Option α
 |k::ks,t::ts,x=>if k=x then some t else dj ks ts x
 |_,_,_=>none
def GF(ks:List Key)(x:Key):Bool:=ks.any λk=>decide (k=x)
def iY(ks:List Key)(x:Key):List Key:=if GF ks x=true then ks else ks++[x]
def cJ{α:Type}(ks:List Key)(ts:List α)(x:Key)(u:α):List α:=if GF ks x=true then List.zipWith (λk t=>if k=x then u else t) ks ts else ts++[u]
theorem gn:∀(ks:List Key)(vs:qak)(x:Key),j9 (ks.zip vs) x=dj ks vs x
 |[],vs,x=>rfl
 |k::ks,[],x=>rfl
 |k::ks,v::vs,x=>by simp only[dj,N2];by_cases e:k=x;rw[if_pos e,nD (p:=(k,v)) e];rw[if_neg e,nE (p:=(k,v)) e];exact gn ks vs x
theorem zN(ts:List α)(x:Key):dj [] ts x=none:=by cases ts<;>rfl
theorem iC{K:qaf}{H:Hp}{A:qah}:∀{ks:List Key}{ts:qaj}{vs:qak}{x:Key},aB K H A ts vs->(∀t,dj ks ts x=some t->∃v,dj ks vs x=some v/\At K H A t v)/\(dj ks ts x=none->dj ks vs x=none)
 |[],ts,vs,x,h=>by rw[zN,zN];refine⟨λt e=>?_,λ_=>rfl⟩;cases e
 |k::ks,[],vs,x,h=>by simp only[aB] at h;subst h;exact⟨λt e=>(by cases e),λ_=>rfl⟩
 |k::ks,t::ts,vs,x,h=>by simp only[aB] at h;obtain⟨v,r,rfl,h1,h2⟩:=h;simp only[dj];by_cases e:k=x;rw[if_pos e,if_pos e];exact⟨λt e=>by cases e;exact⟨v,rfl,h1⟩,λq=>by cases q⟩;rw[if_neg e,if_neg e];exact iC h2
theorem Pf(ks:List Key)(vs:qak)(x:Key)(hl:ks.length=vs.length):((ks.zip vs).any λkv=>decide (kv.1=x))=GF ks x:=by
 unfold GF;induction ks generalizing vs with
 |nil=>rfl
 |cons k ks ih=>
  cases vs with
  |nil=>simp at hl
  |cons v vs=>rw[N2,RG,RG,ih vs (by simpa using hl)]
theorem zip_map(ks:List Key)(vs:qak)(x:Key)(v:V):(ks.zip vs).map (λkv=>if kv.1=x then (kv.1,v) else kv)=ks.zip (List.zipWith (λk t=>if k=x then v else t) ks vs):=by
 induction ks generalizing vs with
 |nil=>rfl
 |cons k ks ih=>
  cases vs with
  |nil=>rfl
  |cons u vs=>simp only[N2,ix,acu];rw[ih vs];by_cases e:k=x;rw[if_pos e,if_pos e];rw[if_neg e,if_neg e]
theorem Kp(ks:List Key)(vs:qak)(x:Key)(v:V)(hl:ks.length=vs.length):L2.putK (ks.zip vs) x v=(iY ks x).zip (cJ ks vs x v)/\(iY ks x).length=(cJ ks vs x v).length:=by unfold L2.putK iY cJ;rw[Pf ks vs x hl];by_cases e:GF ks x=true;rw[if_pos e,if_pos e,if_pos e];exact⟨zip_map ks vs x v,by simp[hl]⟩;rw[if_neg e,if_neg e,if_neg e];refine⟨?_,by simp[hl]⟩;rw[List.zip_append hl];rfl
theorem zP{A:qah}{ts:qaj}{x:Key}{t:T}(h:aB K H A ts vs)(ht:At K H A t v):aB K H A (cJ ks ts x t) (cJ ks vs x v):=by
 unfold cJ;by_cases e:GF ks x=true;rw[if_pos e,if_pos e];clear e;induction ks generalizing ts vs with
 |nil=>simp only[List.zipWith_nil_left];exact aB.nil
 |cons k ks ih=>
  cases ts with
  |nil=>simp only[aB] at h;subst h;simp only[List.zipWith_nil_right];exact aB.nil
  |cons t0 ts=>simp only[aB] at h;obtain⟨v0,r,rfl,h1,h2⟩:=h;simp only[acu];refine aB.cons ?_ (ih h2);by_cases q:k=x;rw[if_pos q,if_pos q];exact ht;rw[if_neg q,if_neg q];exact h1
 rw[if_neg e,if_neg e];exact h.append (aB.cons ht aB.nil)
section
variable{a:Expr}{fc:FE}{pos:Pos}
def acJ:FP:=λ_ Q=>Q (.fr (.dk [] []))
theorem ER:VP X Z (.Dict [] [] pos) acJ:=.mk λtm=>PE.weak zK λσ H Q ⟨ρ,O,q,I,hf,k⟩ p hp=>
 k _ hf _ _ (aJ hp) (I.newD (ks:=[]) (ts:=[]) (vs:=[]) hp rfl aB.nil)
def acK(fa fb:FE):FP:=λρ Q=>fa ρ λx=>fb ρ λy=>match x,zM y with
 |.dk ks ts,some k=>∃t,dj ks ts k=some t/\Q (.vw t)
 |_,_=>False
theorem U4(hu:X.A.units+1<cLine)(ha:VR X Z a fa)(hb:VR X Z b fb)(hs:Pc b:=by intro _ _;rfl):VP X Z (.Subscript a b pos) (acK fa fb):=.mk λtm=>PE.weak (Pe hu (ha tm) (hb tm) hs) λσ H Q ⟨ρ,O,q,I,hf,k⟩ =>
 ⟨ρ,O,_,I,hf,λx hx v H1 s1 a1=>⟨ρ,O,_,I.same s1,hx,λy hy w H2 s2 a2=>by
  split at hy
  rename_i ks ts kk e
  obtain⟨t,e1,hq⟩:=hy;obtain⟨l,vs,rfl,hl,hd,hv⟩:=(a1.same s2).dk;obtain⟨u,e2,e3⟩:=(iC hv).1 t e1;rw[nF a2 e];exact⟨l,u,rfl,by rw[<- e2,<- gn];exact xp.k hd,k _ hq _ H2 (s1.trans s2) ⟨(I.same s1).same s2,e3⟩⟩;exact hy.elim⟩⟩
def ag9(fa fb:FE):FP:=λρ Q=>fa ρ λx=>match x with
 |.dk ks ts=>fb ρ λy=>match zM y with
  |some k=>Q (.vw ((dj ks ts k).getD .aP))
  |none=>False
 |_=>False
def afW(fa fb fc:FE):FP:=λρ Q=>fa ρ λx=>match x with
 |.dk ks ts=>fb ρ λy=>fc ρ λz=>match zM y with
  |some k=>Q (.vw ((dj ks ts k).getD z))
  |none=>False
 |_=>False
theorem ES{A:qah}{ts:qaj}{k:Key}{z:T}{w:V}(h:aB K H A ts vs)(hz:At K H A z w):At K H A ((dj ks ts k).getD z) ((dj ks vs k).getD w):=by
 cases e:dj ks ts k with
 |none=>rw[(iC h).2 e];exact hz
 |some t=>obtain⟨v,e1,e2⟩:=(iC h).1 t e;rw[e1];exact e2
theorem Cg(hu:X.A.units+1<cLine)(ha:VR X Z a fa)(hb:VR X Z b fb)(hc:VE X Z c fc)(m:M2 X a "get" apos b c a5):VP X Z (.Call (.Attribute a "get" apos) [b,c] [] a5) (afW fa fb fc):=.mk λtm=>PE.weak (Km hu (ha tm) (hb tm) (hc tm) m) λσ H Q ⟨ρ,O,q,I,hf,k⟩ =>
 ⟨ρ,O,_,I,hf,λx hx v H1 s1 a1=>by
  split at hx
  rename_i ks ts
  obtain⟨l,vs,rfl,hl,hd,hv⟩:=a1.dk;refine⟨l,rfl,.inl ⟨_,.inl hd⟩,ρ,O,_,I.same s1,hx,λy hy w H2 s2 a2=>⟨ρ,O,_,(I.same s1).same s2,hy,λz hz u H3 s3 a3=>?_⟩⟩;split at hz
  rename_i kk e
  rw[nF a2 e];refine⟨_,xp.k (s3 _ _ (s2 _ _ hd)),?_⟩;rw[gn];exact k _ hz _ H3 ((s1.trans s2).trans s3) ⟨((I.same s1).same s2).same s3,ES ((hv.same s2).same s3) a3⟩;exact hz.elim;exact hx.elim⟩
def Sh(n:Nat)(f fi:FE):FS:=λd ρ=>match ρ[n]? with
 |some (some (.dk ks ts,true))=>f ρ λv=>fi ρ λi=>match zM i with
  |some k=>ts.length<16777216/\d.nx (ρ.set n (some (.dk (iY ks k) (cJ ks ts k v),true)))
  |none=>False
 |_=>False
theorem Ph(n:Nat){f fi:FE}{i:Expr}(hu:X.A.units+1<cLine)(he:VE X Z e f)(hi:VR X Z i fi)(hN:X.N[n]?=some x:=by rfl)(hv:mZ X.env.scope x:=by first|exact Or.inl rfl|exact Or.inr (Or.inl rfl)|exact Or.inr (Or.inr rfl))(hd:jD x:=by decide)(ig:yT x:=by decide)(hs:swapsWith e (some (.Subscript (.Name x p) i gu)) pos.line X.env=pure false:=by rfl) :
  VS X Z (.Assign [.Subscript (.Name x p) i gu] e pos) (Sh n f fi):=.mk λtm=>
 PS.weak (EN hu (bX hN hv hd ig) (hi tm) (he tm) hs) λD σ H ⟨ρ,O,d,I,q,F⟩=>by
  unfold Sh at q;split at q
  rename_i ks ts e0
  obtain⟨l,h1,h2,xs,hl,h3,h4⟩:=I.root e0;have ha:l∈av Z O:=cC _ (aM.mpr (iw h1));refine⟨ρ,O,_,I,q,λt ht v H1 s1 a1=>⟨.ref l,h2,ρ,O,_,I.same s1,ht,λj hj w H2 s2 a2=>?_⟩⟩;split at hj
  rename_i kk ek
  obtain⟨hlen,hj⟩:=hj;have h3':=s2 _ _ (s1 _ _ h3);have q:=Kp ks xs kk v hl;have hz:(ks.zip xs).length<sizeLine:=by rw[sizeLine_eq,Tp,hl,RJ,h4.length];omega
  rw[nF a2 ek];refine⟨l,_,rfl,Gy.k h3' hz,?_⟩;rw[q.1];refine F.nx O _ σ _ (((I.same s1).same s2).wrote (t':=.dk (iY ks kk) (cJ ks ts kk t)) e0 h1 ⟨cJ ks xs kk v,q.2,aH,?_⟩) hj;exact aB.wrote ha h3' rfl (zP ((h4.same s1).same s2) (a1.same s2));exact hj.elim;exact q.elim
end
section
variable{a:Expr}{pos:Pos}
def Si(ts:qaj)(q:qam):Prop:=match ts with
 |[.dk ks vs]=>q (.vw (.int (vs.length:Int)))
 |_=>False
theorem Ci:rN K (λxs H Q=>∃a a_,xs=[V.ref a]/\H a=some (.dK a_)/\Q (.int a_.length) H) Si:=by intro Z tm O ρ σ H ts vs q Q I h hp k;unfold Si at hp;split at hp;obtain⟨v,rfl,a⟩:=eY h;obtain⟨l,ws,rfl,hl,hd,hv⟩:=a.dk;refine⟨l,_,rfl,hd,?_⟩;rw[Tp,hl,RJ,hv.length];exact k _ hp _ H (aY.refl H) ⟨I,bC⟩;exact hp.elim
end
end VT
namespace RV
open PySem PySem.Spec PyProof.Rows
section
variable{s:Shared}{R:Result->Shared->Prop}
variable{I:Addr}{wr:qah}{G:Array GenState->Array GenState->Prop}{P:Nat->Value->Prop}{St:Nat->Shared->Prop}
end
section
variable{s:Shared}
variable{I:Addr}{wr:qah}{G:Array GenState->Array GenState->Prop}{P:Nat->Value->Prop}{St:Nat->Shared->Prop}
end
end RV
namespace VT
open PySem PySem.Spec PyProof.Rows L2
theorem so(h:n+101<cLine):n+1<cLine:=by omega
def Sj(w:World)(K:qaf)(e:DictEntry)(p:Str×T):Prop:=e.hash=PyData.keyHash w.params p.1/\(∃t,e.key=.str p.1 t)/\∃v,RelV v e.val/\∀H A,At K H A p.2 v
def sr(w:World)(K:qaf)(a:Addr)(l:List (Str×T)):Prop:=∃es ep,K.lookup a=some ⟨.type "dict",none,.dict es ep,#[]⟩/\(a==sysModules)=false/\Paired (Sj w K) es.toList l/\(l.map (·.1)).Nodup
theorem ents{P:Program}{w:World}{K:qaf}:∀{es:List DictEntry}{l:List (Str×T)},Paired (Sj w K) es l ->
  ∃(vs:qak)(us:List (Key×Value)),(∀H A,aB K H A (l.map (·.2)) vs)/\KV ((l.map λp=>(Sum.inr p.1:Key)).zip vs) us/\PySem.Pairs (aX P w) es us/\us.map (·.1)=l.map (λp=>(Sum.inr p.1:Key))/\∀e∈es,∃k,(aX P w).is k e.key=true/\e.hash=(aX P w).hash k
 |_,_,.nil=>⟨[],[],λ_ _=>aB.nil,.nil,.nil,rfl,λ_ h=>nomatch h⟩
 |_,_,.cons (a:=e) (b:=p) r t=>by
   obtain⟨vs,us,h1,h2,h3,h4,h5⟩:=ents (P:=P) t;obtain⟨r1,⟨tk,r2⟩,v,r3,r4⟩:=r;have hk:(aX P w).is (Sum.inr p.1) e.key=true:=by rw[r2];show Value.isStrOf p.1 (.str p.1 tk)=true;simp[Value.isStrOf]
   refine⟨v::vs,(Sum.inr p.1,e.val)::us,λH A=>aB.cons (r4 H A) (h1 H A),.cons ⟨rfl,r3⟩ h2,.cons hk rfl h3,by rw[ix,ix,h4],λe' he=>?_⟩;rcases c4.mp he with q|q
   subst q;exact⟨Sum.inr p.1,hk,r1⟩;exact h5 e' q
theorem sr.of{s:Shared}{l:List (Str×T)}(I:Inv X pins σ H s)(d:sr X.w X.K a l) :
  ∃(vs:qak)(us:List (Key×Value)),(∀H A,aB X.K H A (l.map (·.2)) vs)/\KV ((l.map λp=>(Sum.inr p.1:Key)).zip vs) us/\s.heap.DictOf (aX X.prog X.w) a us/\(a==sysModules)=false:=by
 obtain⟨es,ep,lk,hs,hp,nd⟩:=d;obtain⟨vs,us,h1,h2,h3,h4,h5⟩:=ents (P:=X.prog) hp;refine⟨vs,us,h1,h2,⟨_,es,ep,I.ue a _ lk,⟨rfl,rfl,rfl⟩,rfl,λe he=>h5 e (by simpa using he),h3,?_⟩,hs⟩;rw[h4];have e:(l.map λp=>(Sum.inr p.1:Key))=(l.map (·.1)).map Sum.inr:=by rw[Eg];rfl
 rw[e];exact List.Pairwise.map _ (λa b h z=>h (Sum.inr.inj z)) nd
section
variable{fc:FE}{l:List (Str×T)}
def Cj(l:List (Str×T))(k:Str):Option T:=dj (l.map λp=>(Sum.inr p.1:Key)) (l.map (·.2)) (Sum.inr k)
def onStr(t:T)(f:Str->Prop):Prop:=match t with
 |.str k=>f k
 |_=>False
theorem zR{t:T}{f:Str->Prop}(h:onStr t f):∃k,t=.str k/\f k:=by unfold onStr at h;split at h;exact⟨_,rfl,h⟩;exact h.elim
def afX(l:List (Str×T))(fe fc:FE):FP:=λρ Q=>fe ρ λy=>fc ρ λz=>onStr y λk=>Q (.vw ((Cj l k).getD z))
theorem Kq(hg:Gl X x)(hm:X.mg x=some (.ref a))(d:sr X.w X.K a l)(he:VR X Z e fe)(hc:VE X Z c fc)(m:M2 X (.Name x p) "get" apos e c a5)(hd:jD x:=by decide) :
  VP X Z (.Call (.Attribute (.Name x p) "get" apos) [e,c] [] a5) (afX l fe fc):=.mk λtm pins s σ H Q I ⟨ρ,O,q,E,hf,k⟩=>by
 refine wpAny_Call_method m.base m.few m.line YJ RA PySem.F.type_dict_get (cc (wH hg hm (v:=.ref a) rfl hd pins s σ H (λv H'=>v=.ref a/\H'=H) I ⟨rfl,rfl⟩) λu s1 ⟨x',H1,I1,rx,ex,eH⟩=>?_);subst ex eH;obtain rfl:u=Value.ref a:=rx;obtain⟨vs,us,h1,h2,dd,hs⟩:=d.of I1;refine⟨dd.typeIs,λb q=>?_,?_⟩;cases q;obtain⟨ob,_,_,z1,z2,_⟩:=dd;exact⟨ob,z1,z2.2.1⟩;rw[m.trees];refine YK rfl (ab9 (Th (cc (he tm pins s1 σ H1 (λy H2=>∃t,iz X.K H2 (av Z O) t y/\aY H1 H2/\fc ρ λz=>onStr t λk=>q (.vw ((Cj l k).getD z))) I1 ⟨ρ,O,_,E,hf,λt ht v H' s a1=>⟨t,a1,s,ht⟩⟩) λiv s2 ⟨y,H2,I2,ry,t,a1,sa,q2⟩ =>
  Th (cc (hc tm pins s2 σ H2 (λz H3=>∃tz,At X.K H3 (av Z O) tz z/\aY H2 H3/\onStr t λk=>q (.vw ((Cj l k).getD tz))) I2 ⟨ρ,O,_,E.same sa,q2,λtz htz v H' s a2=>⟨tz,a2,s,htz⟩⟩) λfv s3 ⟨z,H3,I3,rz,tz,a2,sb,q3⟩=>Calls.spliced_nil ?_))))
 obtain⟨kk,et,q3⟩:=zR q3;subst et;obtain⟨j6,U5,EG,JS,GB,hs'⟩:=d.of I3;have ey:=a1.str;subst ey;refine call_meetsIn RA GB.typeIs YM (YI _ _ _) (meets_dict_get_default (aX X.prog X.w) a (pT (k:=Sum.inr kk) ry) hs' fv) ⟨_,GB.mapOf,⟨_,H3,I3.tok _,(JS.val (Sum.inr kk)).getD rz,?_⟩⟩;rw[gn];exact k _ q3 _ H3 (sa.trans sb) ⟨(E.same sa).same sb,ES (EG H3 (av Z O)) a2⟩
end
abbrev FPs:=En->(List (Key×T)->Prop)->Prop
section
theorem Pj:RW X "dict.setdefault" (λx xs H Q=>∃(a:Addr)(a_:List (Key×V))(k:Key)(v:V),x=.ref a/\xs=[kV k,v]/\H a=some (.dK a_)/\a_.length<sizeLine /\
  (∀u,j9 a_ k=some u->Q u H)/\(j9 a_ k=none->Q v (upd H a (.dK (L2.putK a_ k v))))):=by
 intro pins s σ H x xs v us Q I rx rs h;obtain⟨a,a_,k,y,rfl,rfl,ha,hsz,q1,q2⟩:=h;cases rx;obtain⟨u1,u2,rfl,ru1,ru2⟩:∃u1 u2,us=[u1,u2]/\RelV (kV k) u1/\RelV y u2:=by
  cases rs with
  |cons r1 t=>cases t with
    |cons r2 t2=>cases t2;exact⟨_,_,rfl,r1,r2⟩
 obtain⟨z,hd,vs,rel,dd⟩:=EL I.cx ha;refine call_meetsIn PySem.F.slot_dict_setdefault dd.typeIs PySem.F.entry_dict_setdefault (PySem.F.args_dict_setdefault_3 _ _ _) (kt_meets_setdefault (aX X.prog X.w) a (pT ru1) hd u2) ⟨vs,dd,by rw[<- rel.length];omega,λv0 hv=>?_,λhn h' GB hs=>?_⟩;have Jg:=rel.val k;rw[hv] at Jg;cases e:j9 a_ k with
 |none=>rw[e] at Jg;cases Jg
 |some w0=>rw[e] at Jg;have hr:RelV w0 v0:=Jg;exact⟨w0,H,I.tok _,hr,q1 w0 e⟩
 have Jg:=rel.val k;rw[hn] at Jg;cases e:j9 a_ k with
 |some w0=>rw[e] at Jg;cases Jg
 |none=>
   have he:∃q,h'.get? a=some q:=let ⟨q,_,_,hq,_⟩:=GB;⟨q,hq⟩;have hl:(L2.putK a_ k y).length<=sizeLine:=by have:=j_ a_ k y;omega
   exact⟨y,_,qJ (t':=s.toks+1) I (by rw[ha];exact True.intro) hs he (Kl hl hd (rel.put k ru2) GB),ru2,q2 e⟩
end
section
variable{e1 e2:Expr}{f1 f2:FE}
def Sk(n:Nat)(f1 f2:FE):FX:=λρ Q=>match ρ[n]? with
 |some (some (.dk ks ts,true))=>f1 ρ λx=>f2 ρ λy=>match zM x with
  |some k=>ts.length<16777216/\match dj ks ts k with
   |some t=>Q ρ (.vw t)
   |none=>Q (ρ.set n (some (.dk (ks++[k]) (ts++[y]),true))) (.vw y)
  |none=>False
 |_=>False
theorem Pk(n:Nat)(h1:VE X Z e1 f1)(h2:VE X Z e2 f2)(hN:X.N[n]?=some x:=by rfl)(hv:mZ X.env.scope x:=by first|exact Or.inl rfl|exact Or.inr (Or.inl rfl)|exact Or.inr (Or.inr rfl))(hd:jD x:=by decide)(ig:yT x:=by decide)(dv:attributeBase (.Name x p) "setdefault" X.env (eval (.Name x p) X.env)=eval (.Name x p) X.env:=by rfl)(lW:((backTo a5 (starEach [e1,e2] X.env)).all (λx=>!x.1) && (backToKw a5 (keywordEach [] X.env)).all (λx=>x.1.isSome)
    && decide (([e1,e2]:qap).length+([]:List Keyword).length+(if ([]:List Keyword).isEmpty then 0 else 1)<30))=true:=by rfl)(dw:(apos.endLine==a5.line)=true:=by rfl)(hs:starEach [e1,e2] X.env=(false,eval e1 X.env)::starEach [e2] X.env:=by rfl)(FY:starEach [e2] X.env=(false,eval e2 X.env)::starEach [] X.env:=by rfl)(eZ:(backTo a5 (starEach [e2] X.env)).any (·.1)=false:=by rfl) :
  VX X Z (.Call (.Attribute (.Name x p) "setdefault" apos) [e1,e2] [] a5) (Sk n f1 f2):=.mk λtm=>
 PE.weak (rj YJ PySem.F.slot_dict_setdefault PySem.F.type_dict_setdefault Pj (bX hN hv hd ig) (bD (h1 tm) (bD (h2 tm) c6 FY) hs) dv lW dw hs eZ) λσ H Q ⟨ρ,O,q,I,hf,kk⟩=>by
  unfold Sk at hf;split at hf
  rename_i ks ts e0
  obtain⟨l,g1,g2,xs,hl,g3,g4⟩:=I.root e0;have ha:l∈av Z O:=cC _ (aM.mpr (iw g1));refine⟨.ref l,g2,.inr (.inr (.inl ⟨rfl,.inl ⟨_,g3⟩⟩)),ρ,O,_,I,hf,λt ht v H1 s1 a1=>⟨ρ,O,_,I.same s1,ht,λy hy w H2 s2 a2=>?_⟩⟩;split at hy
  rename_i Ya ek
  obtain⟨hlen,hy⟩:=hy;have ev:v=kV Ya:=nF (.inl a1) ek;subst ev;have hz:(ks.zip xs).length<sizeLine:=by rw[sizeLine_eq,Tp,hl,RJ,g4.length];omega
  have J:=(I.same s1).same s2;have b4:=(g4.same s1).same s2;refine⟨l,ks.zip xs,Ya,w,rfl,rfl,s2 _ _ (s1 _ _ g3),hz,λu hu=>?_,λhn=>?_⟩;rw[gn] at hu;cases eg:dj ks ts Ya with
  |none=>rw[(iC b4).2 eg] at hu;cases hu
  |some t0=>rw[eg] at hy;obtain⟨v0,e1,e2⟩:=(iC b4).1 t0 eg;rw[e1] at hu;cases hu;exact kk _ _ hy O _ _ ⟨J,e2⟩
  rw[gn] at hn;cases eg:dj ks ts Ya with
  |some t0=>obtain⟨v0,e1,e2⟩:=(iC b4).1 t0 eg;rw[e1] at hn;cases hn
  |none=>
    rw[eg] at hy;have e1:L2.putK (ks.zip xs) Ya w=(ks++[Ya]).zip (xs++[w]):=by rw[Kk _ (by rw[gn];exact hn),List.zip_append hl];rfl
    rw[e1];refine kk _ _ hy O _ _ ⟨J.wrote e0 g1 ⟨xs++[w],by simp[hl],aH,?_⟩,a2.wrote ha (s2 _ _ (s1 _ _ g3)) rfl⟩;exact (b4.append (aB.cons a2 aB.nil)).wrote ha (s2 _ _ (s1 _ _ g3)) rfl
  exact hy.elim;exact hf.elim
end
def su{α:Type}(f:Str):qai->List α->Option α
 |n::ns,t::ts=>match f==n with
  |true=>some t
  |false=>su f ns ts
 |_,_=>none
def GH(f:Str):qai->qai
 |[]=>[f]
 |n::ns=>if n=f then n::ns else n::GH f ns
def qm{α:Type}(f:Str)(u:α):qai->List α->List α
 |n::ns,t::ts=>if n=f then u::ts else t::qm f u ns ts
 |_,_=>[u]
theorem sy(f:Str):∀(ns:qai)(vs:qak),(ns.zip vs).lookup f=su f ns vs
 |[],vs=>by cases vs<;>rfl
 |n::ns,[]=>rfl
 |n::ns,v::vs=>by
  rw[N2,ND];unfold su;cases f==n with
  |true=>rfl
  |false=>exact sy f ns vs
theorem zS(f:Str)(y:V):∀(ns:qai)(vs:qak),ns.length=vs.length->eI f y (ns.zip vs)=(GH f ns).zip (qm f y ns vs)/\(GH f ns).length=(qm f y ns vs).length
 |[],[],_=>⟨rfl,rfl⟩
 |[],v::vs,h=>by simp at h
 |n::ns,[],h=>by simp at h
 |n::ns,v::vs,h=>by have ih:=zS f y ns vs (by simpa using h);rw[N2];show (if n=f then (n,y)::ns.zip vs else (n,v)::eI f y (ns.zip vs))=_/\_;unfold GH qm;by_cases e:n=f;rw[if_pos e,if_pos e,if_pos e];exact⟨rfl,by simpa using h⟩;rw[if_neg e,if_neg e,if_neg e,ih.1];exact⟨rfl,by simp[ih.2]⟩
section
variable{A:qah}{f:Str}
theorem zT:∀{ns:qai}{ts:qaj}{vs:qak}{t:T},aB K H A ts vs->su f ns ts=some t->∃v,su f ns vs=some v/\At K H A t v
 |[],ts,vs,t,_,e=>by cases ts<;>cases e
 |n::ns,[],vs,t,_,e=>by cases e
 |n::ns,t0::ts,vs,t,h,e=>by
  simp only[aB] at h;obtain⟨v,r,rfl,h1,h2⟩:=h;unfold su at e ⊢;cases q:f==n with
  |true=>rw[q] at e;cases e;exact⟨v,rfl,h1⟩
  |false=>rw[q] at e;exact zT h2 e
theorem ET:∀{ns:qai}{ts:qaj}{vs:qak}{t:T}{v:V},aB K H A ts vs->At K H A t v->aB K H A (qm f t ns ts) (qm f v ns vs)
 |[],ts,vs,t,v,_,q=>by
  have e1:qm f t [] ts=[t]:=by cases ts<;>rfl
  have e2:qm f v [] vs=[v]:=by cases vs<;>rfl
  rw[e1,e2];exact aB.cons q aB.nil
 |n::ns,[],vs,t,v,h,q=>by simp only[aB] at h;subst h;exact aB.cons q aB.nil
 |n::ns,t0::ts,vs,t,v,h,q=>by simp only[aB] at h;obtain⟨v0,r,rfl,h1,h2⟩:=h;unfold qm;by_cases e:n=f;rw[if_pos e,if_pos e];exact aB.cons q h2;rw[if_neg e,if_neg e];exact aB.cons h1 (ET h2 q)
end
section
variable{f:Str}{pos:Pos}
def afY(C:Addr)(f:Str)(fe:FE):FP:=λρ Q=>fe ρ λt=>match t with
 |.ins C' ns ts=>C'=C/\∃u,su f ns ts=some u/\Q (.vw u)
 |_=>False
theorem aZ(cl:BR X.K C)(na:bp X.K C f)(h:VR X Z e fe)(hb:attributeBase e f X.env (eval e X.env)=eval e X.env:=by rfl):VP X Z (.Attribute e f pos) (afY C f fe):=.mk λtm=>
 PE.weak (BW (h tm) hb) λσ H Q ⟨ρ,O,q,I,hf,k⟩=>⟨ρ,O,_,I,hf,λt ht v H1 s1 a1=>by
  split at ht
  rename_i C' ns ts
  obtain⟨rfl,u,e1,hq⟩:=ht;obtain⟨a,dx,vs,rfl,hl,hd,hv⟩:=a1.ins;obtain⟨w,e2,e3⟩:=zT hv e1;exact⟨a,_,dx,_,w,rfl,hd,cl,na,by rw[sy];exact e2,k _ hq _ H1 s1 ⟨I.same s1,e3⟩⟩;exact ht.elim⟩
def Ck(n:Nat)(C:Addr)(f:Str)(fe:FE):FS:=λd ρ=>match ρ[n]? with
 |some (some (.ins C' ns ts,true))=>C'=C/\fe ρ λv=>ts.length<1000/\d.nx (ρ.set n (some (.ins C' (GH f ns) (qm f v ns ts),true)))
 |_=>False
theorem jn(n:Nat)(cl:BR X.K C)(na:bp X.K C f)(he:VE X Z e fe)(hN:X.N[n]?=some x:=by rfl)(hv:mZ X.env.scope x:=by first|exact Or.inl rfl|exact Or.inr (Or.inl rfl)|exact Or.inr (Or.inr rfl))(hd:jD x:=by decide)(ig:yT x:=by decide)(hs:swapsWith e (some (.Attribute (.Name x p) f gu)) pos.line X.env=pure false:=by rfl) :
  VS X Z (.Assign [.Attribute (.Name x p) f gu] e pos) (Ck n C f fe):=.mk λtm=>
 PS.weak (gT (bX hN hv hd ig) (he tm) hs) λD σ H ⟨ρ,O,d,I,q,F⟩=>by
  unfold Ck at q;split at q
  rename_i C' ns ts e0
  obtain⟨rfl,q⟩:=q;obtain⟨l,h1,h2,dx,xs,hl,h3,h4⟩:=I.root e0;have ha:l∈av Z O:=cC _ (aM.mpr (iw h1));refine⟨ρ,O,_,I,q,λt ht v H1 s1 a1=>⟨.ref l,h2,l,_,dx,_,rfl,s1 _ _ h3,cl,na,?_,?_⟩⟩;rw[Tp,hl,RJ,h4.length];exact ht.1;have pz:=zS f v ns xs hl;rw[pz.1];refine F.nx O _ σ _ ((I.same s1).wrote (t':=.ins _ (GH f ns) (qm f t ns ts)) e0 h1 ⟨dx,qm f v ns xs,pz.2,aH,?_⟩) ht.2;exact aB.wrote ha (s1 _ _ h3) rfl (ET (h4.same s1) a1);exact q.elim
def Sl(K:qaf)(C:Addr)(n:Nat)(G:qaj->(T->Prop)->Prop):Sp:=Ca K (true::List.replicate n false) λts q=>match ts with
 |.ins C' [] []::us=>C'=C/\G us λu=>q [u] (.vw .aP)
 |_=>False
theorem EU{G:qaj->(T->Prop)->Prop}{tm:qab}{ts:qaj}{q:qam}{Q:VK}(I:ay X.K Z tm O ρ σ H)(a:aB X.K H (av Z O) ts vs)(hn:ts.length=n)(hG:G ts λu=>q (.fr u))(k:∀r,q r->∀v H',aY H H'->il X.K Z tm O ρ σ H' r v->Q v H'):∀x dx,H x=none->H dx=none->dx≠x->Sl X.K C n G (.ref x::(vs++[])) (upd (upd H dx (.own x)) x (.ins C dx [])) (λv H2=>v=.aP/\Q (.ref x) H2) E0:=by
 intro x dx hx hdx ik;rw[FD];obtain⟨n1,n2,n3⟩:=I.fresh hx;have s0:aY H (upd (upd H dx (.own x)) x (.ins C dx [])):=λb o e=>by rw[aE (bo e hx),aE (bo e hdx)];exact e
 have a1:aB X.K (upd (upd H dx (.own x)) x (.ins C dx [])) ([x]++av Z O) ts vs:=(a.more λb hb=>by
  rcases cU.mp hb with z|z
  exact .inr (by rw[jV.mp z];exact hx);exact .inl z).same s0
 refine⟨.ins C [] []::ts,[x],av Z O,λus r=>r=.vw .aP/\∃u,us=[u]/\q (.fr u),by simp,λb hb=>by rw[jV.mp hb];exact n1,λb hb=>?_,⟨x,[],_,ts,vs,rfl,rfl,rfl,⟨dx,[],rfl,aH,aB.nil⟩,jm hn a1⟩,⟨rfl,?_⟩,λus r hr v H' fr z=>?_⟩;cases e:H b with
 |none=>exact absurd e (I.BC b hb)
 |some o=>rw[s0 _ _ e];simp
 have w:(λu=>q (.fr u))=λu=>((.vw .aP:Rt)=.vw .aP/\∃u',[u]=[u']/\q (.fr u')):=by funext u;exact propext ⟨λh=>⟨rfl,u,rfl,h⟩,λ⟨_,u',e,h⟩=>by cases e;exact h⟩
 rw[<- w];exact hG;obtain⟨rfl,u,rfl,hq⟩:=hr;obtain⟨z1,z2⟩:=z;simp only[At] at z1;refine⟨z1,?_⟩;cases z2 with
 |cons r _=>
  have s:aY H H':=λb o e=>fr b o (s0 b o e) (by rw[jV];exact bo e hx);obtain⟨o,eo,_⟩:=r.mut;refine k _ hq _ H' s ⟨x,rfl,I.R9 hx s eo,r.a8 λc hc=>?_,n3,n2⟩;rcases dS c hc with z|z
  exact bW _ z;rw[z];exact cC _ dP
end
structure Dc(K:qaf)(mg:qae)(cls qual:Str)(st:Stmt)(ps:qai)(C f:Addr)(fd:FuncData):Prop where
 F:Ew K "__init__" qual st f fd
 m:mg cls=some (.ref C)
 b:Binds K fd ps []
 M:Mk K C f
def Kr(P:Program)(w:World)(K:qaf)(mg:qae)(base:Heap)(cls:Str)(C:Addr)(ps:qai)(k n:Nat)(G:qaj->(T->Prop)->Prop):Prop :=
 ∃f fd,Mk K C f/\mg cls=some (.ref C)/\Binds K fd ps []/\bY P w K mg base fG k f fd ps (Sl K C n G)
section
theorem Dc.g9{cls:Str}{st:Stmt}{k:Nat}{G:qaj->(T->Prop)->Prop}(D:Dc K mg cls qual st ps C f fd)(F:bY P w K mg base fG k f fd ps (Sl K C n G)):Kr P w K mg base cls C ps k n G :=
 ⟨f,fd,D.M,D.m,D.b,F⟩
theorem fnI{st:Stmt}{N:qai}{k:Nat}{G:qaj->(T->Prop)->Prop}(F:Ew K x qual st f fd)(S:az N ps (ai st))(hn:n+1=ps.length)(eJ:∀(bz:Value) (A:Around) (outer:List Env) (s:Shared) (H:Hp) (E:XK) (as Ox:qah),bA k (A.deeper (envOfC qual (ai st) s.heap.objs.size f bz))->∀(us:qaj) (q:qaj->qam),us.length=n->G us (λu=>q [u] (.vw .aP)) ->
    ∃g,m5 (gK fG P w K mg base N qual (ai st) f bz A outer s H E).qX ⟨H,pz (true::List.replicate n false) as 0,Ox⟩ (bM st) g /\
     g {nx:=λρ=>q (nB (true::List.replicate n false) ρ) (.vw .aP),rt:=λρ r=>q (nB (true::List.replicate n false) ρ) r} (some (.ins C [] [],true)::zy (List.replicate n false) us++List.replicate (N.length-(us.length+1)) none)) :
  bY P w K mg base fG (k+1) f fd ps (Sl K C n G) :=
 fnV F S (by rw[<- hn];simp) λbz A outer s H E as Ox hr ts q hl hG=>by
  cases ts with
  |nil=>exact hG.elim
  |cons t us=>cases t with
    |ins C' ns vs=>cases ns with
      |nil=>cases vs with
        |nil=>obtain⟨e,hG'⟩:=hG;subst e;exact eJ bz A outer s H E as Ox hr us q (by simpa using hl) hG'
        |cons _ _=>exact hG.elim
      |cons _ _=>exact hG.elim
    |_=>exact hG.elim
end
def EV(a d:Addr):HO:=.ext λh=>h.get? a=some {cls:=.type "dict_values",data:=.fields #[.ref d]}
theorem zU(val:Nat->Int):∀k,∃j≤k,argBest (λi j=>decide (val i<val j)) k=j/\∀i≤k,val j<=val i
 |0=>⟨0,c_ _,rfl,λi hi=>by rw[Nat.le_zero.mp hi];exact Int.le_refl _⟩
 |k+1=>by
  obtain⟨j,hj,e,h⟩:=zU val k;unfold argBest;rw[e];by_cases q:val (k+1)<val j;rw[if_pos (decide_eq_true q)];refine⟨k+1,c_ _,rfl,λi hi=>?_⟩;rcases Nat.lt_or_eq_of_le hi with l|l
  exact Int.le_trans (Int.le_of_lt q) (h i (Nat.le_of_lt_succ l));rw[l];exact Int.le_refl _;rw[if_neg (by rw[decide_eq_true_eq];exact q)];refine⟨j,Nat.le_succ_of_le hj,rfl,λi hi=>?_⟩;rcases Nat.lt_or_eq_of_le hi with l|l
  exact h i (Nat.le_of_lt_succ l);rw[l];exact Int.not_lt.mp q
section
theorem GJ:RW X "dict.values" (λx xs H Q=>∃(d:Addr)(a_:List (Key×V)),x=.ref d/\xs=[]/\H d=some (.dK a_)/\∀a,H a=none->Q (.ref a) (upd H a (EV a d))):=by intro pins s σ H x xs v us Q I rx rs h;obtain⟨d,a_,rfl,rfl,hd,q⟩:=h;cases rx;cases rs;obtain⟨z,hs,vs,rel,dd⟩:=EL I.cx hd;refine call_meetsIn PySem.F.slot_dict_values dd.typeIs PySem.F.entry_dict_values (PySem.F.args_dict_values_1 _) (meets_dict_values (aX X.prog X.w) d hs) ⟨⟨vs,dd⟩,?_⟩;refine⟨.ref s.heap.objs.size,_,I.laid (a:=s.heap.objs.size) (t':=s.toks) (λb o e=>og _ e) (c_ _) ?_,rfl,q _ I.fresh⟩;exact⟨vy _ rfl,⟨_,vy _ rfl⟩,λh1 h2 z k=>k _ z⟩
theorem xr(hc:X.calm=true):fF X (.builtin "min") (λxs H Q=>∃(a d:Addr)(a_:List (Key×V))(is:qan),xs=[.ref a]/\H a=some (EV a d)/\H d=some (.dK a_)/\a_.map (·.2)=is.map V.int/\is≠[]/\∀m,m∈is->(∀i∈is,m<=i)->Q (.int m) H):=by
 intro pins s σ H xs us Q I r h;obtain⟨a,d,a_,is,rfl,ha,hd,hv,ik,q⟩:=h;obtain⟨u,rfl,ru⟩:=vals1 r;cases ru;obtain⟨z,hs,vs,rel,dd⟩:=EL I.cx hd;obtain⟨hA,_,_⟩:=(show cH X.prog X.w H s.heap a (EV a d) from I.cx a _ ha);obtain⟨ep,da⟩:=dd.dictAt;have hh:X.A.in1.handled=none:=by simp[I.ok.hd hc]
 have hlen:vs.length=is.length:=by have:=congrArg List.length hv;rw[c3,c3] at this;rw[<- rel.length];exact this
 have acL:∀(i:Nat)(v:Value),(∃k,vs[i]?=some (k,v))->∃t,v=.int (is.getD i 0) t:=by
  intro i v ⟨k,e⟩;have hi:i<vs.length:=(eW.mp e).1;have hi2:i<a_.length:=by rw[rel.length];exact hi
  have e1:a_[i]?=some a_[i]:=by simp[hi2]
  have key:∀{l₁:List (Key×V)}{l₂:List (Key×Value)}{i:Nat}{p:Key×V}{q:Key×Value},KV l₁ l₂->l₁[i]?=some p->l₂[i]?=some q->RelV p.2 q.2:=by
   intro l₁ l₂ i p q h;unfold KV at h;induction h generalizing i with
   |nil=>intro e;simp at e
   |cons r t ih=>
    intro e e';cases i with
    |zero=>simp at e e';subst e;subst e';exact r.2
    |succ i=>exact ih (by simpa using e) (by simpa using e')
  have rr:=key rel e1 e;have e2:(a_.map (·.2))[i]?=some a_[i].2:=by rw[ie,e1];rfl
  rw[hv,ie] at e2;cases q2:is[i]? with
  |none=>rw[q2] at e2;cases e2
  |some m=>rw[q2] at e2;have e3:a_[i].2=V.int m:=(Option.some.inj e2).symm;rw[e3] at rr;obtain⟨t,et⟩:=rr;exact⟨t,by rw[acb,q2];exact et⟩
 have hn0:0<vs.length:=by rw[hlen];exact XW.mpr ik
 refine call_min_walk (wpAny_pyIter_values ⟨_,hA,rfl,rfl⟩ da ?_);refine⟨_,_,_,_,_,_,_,rfl,Walks.dictValues hh _ d (pJ da.lt_size) vs ep,⟨⟨_,vy _ rfl,rfl,rfl⟩,da.push _⟩,λb hb=>?_,hn0,CmpOf.ints_lt (λi=>is.getD i 0) acL,λv h' tk hP hk=>?_⟩;show b<(s.heap.push _).objs.size;rw[YW];rcases c4.mp hb with rfl|hb
 exact ID _;rw[jV.mp hb];exact Tj da.lt_size;obtain⟨j,hj,e,hm⟩:=zU (λi=>is.getD i 0) (vs.length-1);rw[e] at hP;obtain⟨t,rfl⟩:=acL j v hP;have U6:j<is.length:=by omega
 refine⟨.int (is.getD j 0),H,I.kept (t':=tk) λb u eb=>hk b u (λz=>?_) (og _ eb),⟨t,rfl⟩,q _ ?_ λi hi=>?_⟩;rw[jV.mp z] at eb;exact absurd (jE eb) (N5 _);rw[acb,lT U6];exact XY U6;obtain⟨n,hn⟩:=Ry.mp hi;have hnl:n<is.length:=(eW.mp hn).1;have:=hm n (by omega);have e5:is.getD n 0=i:=by rw[acb,hn];rfl
 rw[e5] at this;exact this
end
section
variable{a:Expr}{GG zQ:Pos}
def acM(fa:FE):FP:=λρ Q=>fa ρ λx=>match x with
 |.dk ks ts=>∃is,ts=is.map T.int/\is≠[]/\∀m,m∈is->(∀i∈is,m<=i)->Q (.vw (.int m))
 |_=>False
theorem Cm(hc:X.calm=true)(hgl:Gl X "min")(hml:X.mg "min"=none)(ha:VR X Z a fa)(dv:attributeBase a "values" X.env (eval a X.env)=eval a X.env:=by rfl)(dw:(apos.endLine==zQ.line)=true:=by rfl)(he:starEach [.Call (.Attribute a "values" apos) [] [] zQ] X.env=(false,eval (.Call (.Attribute a "values" apos) [] [] zQ) X.env)::starEach [] X.env:=by rfl)(jF:(backTo GG (starEach [] X.env)).any (·.1)=false:=by rfl) :
  VP X Z (.Call (.Name "min" p1) [.Call (.Attribute a "values" apos) [] [] zQ] [] GG) (acM fa):=.mk λtm=>
 PE.weak (rf (xr hc) hgl hml acC (bD (B6 YJ PySem.F.slot_dict_values PySem.F.type_dict_values GJ (ha tm) dv dw) c6 he) (by decide) (by decide) he jF) λσ H Q ⟨ρ,O,q,I,hf,k⟩ =>
  ⟨ρ,O,_,I,hf,λx hx v H1 s1 a1=>by
    split at hx
    rename_i ks ts
    obtain⟨is,rfl,ik,hq⟩:=hx;obtain⟨d,vs,rfl,hl,hd,hv⟩:=a1.dk;refine⟨.inr (.inr (.inl ⟨rfl,.inl ⟨_,hd⟩⟩)),d,_,rfl,rfl,hd,λb hb=>?_⟩;have sb:aY H1 (upd H1 b (EV b d)):=aJ hb;have ev:vs=is.map V.int:=by
     clear hq ik hl hd a1;induction is generalizing vs with
     |nil=>simpa only[N6,aB] using hv
     |cons i is ih=>simp only[ix,aB,At] at hv;obtain⟨v,r,rfl,rfl,h2⟩:=hv;rw[ih r h2];rfl
    subst ev;refine⟨b,d,_,is,rfl,aH,sb _ _ hd,?_,ik,λm h1 h2=>k _ (hq m h1 h2) _ _ (s1.trans sb) ⟨(I.same s1).same sb,bC⟩⟩;rw[List.map_snd_zip];rw[hl];exact c_ _;exact hx.elim⟩
end
structure Ks(K:qaf)(H H':Hp)(Ox:qah)(us:qaj)(p:Addr)(ls:qah):Prop where
 same:aY H H'
 tup:H' p=some (.tup (ls.map V.ref))
 nd:ls.Nodup
 new:∀a∈ls,H a=none
 rts:Paired (λa t=>cW K H' (ls++Ox) a t) ls us
def spD(K:qaf)(n:Nat)(G:qaj->(qaj->Prop)->Prop):Sp:=λvs H Q _=>∃ts Ox q,(∀a∈Ox,H a≠none)/\aB K H Ox ts vs/\ts.length=n/\G ts q /\
 ∀us,q us->∀p ls H',Ks K H H' Ox us p ls->Q (.ref p) H'
structure afZ(K:qaf)(Z:Zc)(tm:qab)(d:JI)(dp:qaj->Prop)(D:Ends):Prop where
 fin:Fin K Z tm d D
 dp:∀us,dp us->∀p ls H',Ks K Z.H0 H' Z.Ox us p ls->D.rt (.ref p) H'
abbrev U7:=JI->(qaj->Prop)->En->Prop
def lSD(X:Cx)(Z:Zc)(tm:qab)(g:U7):TS:=λD σ H=>∃ρ O d dp,ay X.K Z tm O ρ σ H/\g d dp ρ/\afZ X.K Z tm d dp D
def Kt(X:Cx)(Z:Zc)(st:qaq)(g:U7):Prop:=Bx λtm=>jc X st (lSD X Z tm g)
instance{X:Cx}{Z:Zc}{st:qaq}{g:U7}:CoeFun (Kt X Z st g) λ_=>∀tm,jc X st (lSD X Z tm g):=⟨λh=>Bx.h h⟩
def Pl(ρ:En):qao->Option (qaj)
 |[]=>some []
 |i::is=>match ρ[i]?,Pl ρ is with
  |some (some (t,true)),some ts=>some (t::ts)
  |_,_=>none
section
variable{st:Stmt}{rest:qaq}{g:FS}{u:U7}{pos:Pos}
def acN(g:FS)(u:U7):U7:=λd dp ρ=>g {d with nx:=u d dp} ρ
theorem iZ(h1:VS X Z st g)(h2:Kt X Z rest u):Kt X Z (st::rest) (acN g u):=.mk λtm=>jc.jH (cV (h1 tm) (h2 tm)) λD σ H ⟨ρ,O,d,dp,I,h,F⟩ =>
 ⟨ρ,O,{d with nx:=u d dp},I,h,⟨λO' ρ' σ' H' I' h'=>⟨ρ',O',d,dp,I',h',F⟩,F.fin.rt,F.fin.bk,F.fin.ct⟩⟩
def xt(X:Cx):qap->qao->Prop
 |[],is=>is=[]
 |e::es,is=>∃x p i js,e=.Name x p/\is=i::js/\X.N[i]?=some x/\mZ X.env.scope x/\(x==("__debug__":Str))=false/\(x==("__classdict__":Str))=false/\starEach (e::es) X.env=(false,eval e X.env)::starEach es X.env/\xt X es js
def acO(is:qao):TA:=λσ H Q=>∃vs,Paired (λ(i:Nat) (v:V)=>σ[i]?=some (some v)) is vs/\Q vs H
theorem EW:∀{es:qap}{is:qao},xt X es is->PA X es (acO is)
 |[],is,h=>λpos pins s σ H Q I ⟨vs,hv,q⟩=>by have e:is=[]:=h;subst e;cases hv;exact c6 pos pins s σ H Q I q
 |e::es,is,h=>by
  obtain⟨x,p,i,js,rfl,rfl,h1,h2,h3,h4,h5,h6⟩:=h;exact PA.weak (bD (bX h1 h2 h3 h4) (EW h6) h5) λσ H Q ⟨vs,hv,q⟩=>by
   cases hv with
   |cons r t=>exact⟨_,r,_,t,q⟩
theorem zV{K:qaf}{tm:qab}{O:HD}{ρ:En}{σ:St}{H:Hp}(I:ay K Z tm O ρ σ H):∀{is:qao}{ts:qaj},Pl ρ is=some ts ->
  ∃ls:qah,Paired (λ(i:Nat) (v:V)=>σ[i]?=some (some v)) is (ls.map V.ref)/\Paired (λ(i:Nat) (a:Addr)=>O[i]?=some (some a)) is ls/\Paired (λa t=>cW K H (av Z O) a t) ls ts
 |[],ts,h=>by cases h;exact⟨[],.nil,.nil,.nil⟩
 |i::is,ts,h=>by
   simp only[Pl] at h;split at h
   rename_i t us e1 e2
   cases h;obtain⟨a,h1,h2,h3⟩:=I.root e1;obtain⟨ls,g1,g2,g3⟩:=zV I e2;exact⟨a::ls,.cons h2 g1,.cons h1 g2,.cons h3 g3⟩;cases h
theorem iO{R:α->β->Prop}{l:List α}{m:List β}(h:Paired R l m){b:β}(hb:b∈m):∃a∈l,R a b:=by
 induction h with
 |nil=>cases hb
 |cons r t ih=>
  rcases c4.mp hb with e|hb
  subst e;exact⟨_,dP,r⟩;obtain⟨a,h1,h2⟩:=ih hb;exact⟨a,ic _ h1,h2⟩
theorem Cn{tm:qab}(I:ay K Z tm O ρ σ H){ls:qah}(nd:is.Nodup)(h:Paired (λ(i:Nat) (a:Addr)=>O[i]?=some (some a)) is ls):ls.Nodup:=by
 induction h with
 |nil=>exact N4
 |cons r t ih=>rw[mW] at nd ⊢;refine⟨λm=>?_,ih nd.2⟩;obtain⟨j,hj,e⟩:=iO t m;exact nd.1 (by rw[JQ I r e];exact hj)
def Sm(is:qao):U7:=λ_ dp ρ=>match Pl ρ is with
 |some ts=>dp ts
 |none=>False
theorem Pm{x1}(hP:Z.P=[])(hn:xt X es is)(nd:is.Nodup)(hl:is.length<=100):Kt X Z [.Return (some (.Tuple es x1 p)) pos] (Sm is):=.mk λtm=>
 kZ (PS.weak (wI (BZ (EW hn))) λD σ H ⟨ρ,O,d,dp,I,h,F⟩=>by
  unfold Sm at h;split at h
  rename_i ts e
  obtain⟨ls,g1,g2,g3⟩:=zV I e;refine⟨ls.map V.ref,g1,?_,λq hq=>F.dp ts h q ls _ ⟨?_,aH,Cn I nd g2,λa ha=>?_,?_⟩⟩;rw[c3,<- Tq g2,sizeLine_eq];omega;intro b o eb;have:=I.keep b o eb (by rw[hP];exact λz=>nomatch z);rw[aE (bo this hq)];exact this;obtain⟨i,_,e⟩:=iO g2 ha;rcases (I.own a (aM.mpr (iw e))).1 with z|z
  rw[hP] at z;exact nomatch z;exact z;refine Paired.oj g3 λa t r=>(r.same (aJ hq)).a8 λb hb=>?_;rcases cU.mp hb with z|z
  obtain⟨i,_,e⟩:=iO g2 z;exact cC _ (aM.mpr (iw e));exact bW _ z;exact h.elim)
end
section
theorem dD(n:Nat):roots (List.replicate n none)=[]:=by
 unfold roots;induction n with
 |zero=>rfl
 |succ n ih=>rw[ud,oh];exact ih
theorem lj{N:qai}{ts:qaj}(hN:ts.length<=N.length)(ox:∀a∈Ox,H a≠none)(h:aB K H Ox ts vs) :
  ay K ⟨H,[],Ox⟩ [] (List.replicate N.length none) (ts.map (λt=>some (t,false))++List.replicate (N.length-ts.length) none) (start N vs) H:=by
 have hl:=h.length;have ea:av ⟨H,[],Ox⟩ (List.replicate N.length none)=Ox:=by unfold av;rw[dD];rfl
 refine⟨?_,by simp;omega,λi e he=>?_,by rw[dD];exact N4,λa ha=>?_,λp hp=>(nomatch hp),ox,λb o e _=>e,λp hp=>(nomatch hp)⟩;unfold L2.start;simp[hl];rw[ea];by_cases hi:i<ts.length;rw[oi (by simpa using hi),ie] at he;have e1:ts[i]?=some ts[i]:=by simp
 rw[e1] at he;cases he;obtain⟨v,h1,h2⟩:=h.get e1;refine⟨none,some v,by rw[Fz,if_pos (by omega)],?_,rfl,v,rfl,h2⟩;unfold L2.start;rw[oi (by rw[c3];omega),ie,h1];rfl;rw[qe (by simpa using hi),Fz] at he;split at he
 rename_i k7
 cases he;rw[c3] at k7;refine⟨none,none,by rw[Fz,if_pos (by omega)],?_,rfl⟩;unfold L2.start;rw[qe (by rw[c3];omega),Fz,c3,if_pos (by omega)];cases he;rw[dD] at ha;exact nomatch ha
theorem fnD{st:Stmt}{N:qai}{k:Nat}{G:qaj->(qaj->Prop)->Prop}(F:Ew K x qual st f fd)(S:az N ps (ai st))(hn:n=ps.length)(hN:n<=N.length)(eJ:∀(bz:Value) (A:Around) (outer:List Env) (s:Shared) (H:Hp) (E:XK) (Ox:qah),bA k (A.deeper (envOfC qual (ai st) s.heap.objs.size f bz))->∀ts q,G ts q ->
    ∃g,Kt (gK fG P w K mg base N qual (ai st) f bz A outer s H E).qX ⟨H,[],Ox⟩ (bM st) g/\(ts.length=n->g {nx:=λ_=>False,rt:=λ_ _=>False} q (ts.map (λt=>some (t,false))++List.replicate (N.length-ts.length) none))) :
  bY P w K mg base fG (k+1) f fd ps (spD K n G):=by
 refine F.ok S (λvs H Q E h=>?_) (λbz A outer s H vs Q E hr h=>?_);obtain⟨ts,Ox,q,_,ha,hl,_⟩:=h;rw[ha.length,hl,hn];obtain⟨ts,Ox,q,ox,ha,hl,hG,kk⟩:=h;obtain⟨g,hg,hq⟩:=eJ bz A outer s H E Ox hr ts q hG;exact⟨_,hg [],_,_,_,q,lj (by omega) ox ha,hq hl,⟨⟨λ_ _ _ _ _ h=>h.elim,λ_ _ _ _ _ _ _ h=>h.elim,λ_ _ _ _ _ h=>h.elim,λ_ _ _ _ _ h=>h.elim⟩,λus hu p ls H' D=>kk us hu p ls H' D⟩⟩
end
section
variable{k:Nat}{G:qaj->(qaj->Prop)->Prop}{pos:Pos}
def lD(X:Cx)(Z:Zc)(tm:qab)(f:En->(qaj->Prop)->Prop):TE:=λσ H Q=>∃ρ O q,ay X.K Z tm O ρ σ H/\f ρ q/\∀us,q us->∀p ls H',Ks X.K H H' (av Z O) us p ls->Q (.ref p) H'
def VD(X:Cx)(Z:Zc)(e:Expr)(f:En->(qaj->Prop)->Prop):Prop:=Bx λtm=>PE X e (lD X Z tm f)
instance{X:Cx}{Z:Zc}{e:Expr}{f:En->(qaj->Prop)->Prop}:CoeFun (VD X Z e f) λ_=>∀tm,PE X e (lD X Z tm f):=⟨λh=>Bx.h h⟩
def U8(n:Nat)(g:FA)(G:qaj->(qaj->Prop)->Prop):En->(qaj->Prop)->Prop:=λρ Q=>g ρ λts=>ts.length=n/\G ts Q
theorem Pn(F:bY X.prog X.w X.K X.mg X.base fG k f fd ps (spD X.K n G))(hr:bA k X.A)(hg:Gl X x)(hm:X.mg x=some (.ref f))(hk:PySem.W.keepIn X.K (.ref f)=true)(hb:Binds X.K fd ps [])(ha:VA X Z (e::es) g)(q_:jD x:=by decide)(he:starEach (e::es) X.env=(false,eval e X.env)::starEach es X.env:=by rfl)(jF:(backTo pos (starEach es X.env)).any (·.1)=false:=by rfl) :
  VD X Z (.Call (.Name x p) (e::es) [] pos) (U8 n g G):=.mk λtm=>PE.weak (nq F hr hg hm hk hb .nil lF (ha tm) q_ he jF) λσ H Q ⟨ρ,O,q,I,hf,k⟩ =>
 ⟨ρ,O,_,I,hf,λts gw vs H1 s1 a1=>by
   show spD X.K n G (vs++[]) H1 Q E0;rw[FD];refine⟨ts,av Z O,q,(I.same s1).BC,a1,gw.1,gw.2,λus hu p ls H' D=>k us hu p ls H' ⟨s1.trans D.same,D.tup,D.nd,λa ha=>?_,D.rts⟩⟩;cases z:H a with
   |none=>rfl
   |some o=>have:=D.new a ha;rw[s1 _ _ z] at this;cases this⟩
theorem Ks.at{tm:qab}{us:qaj}{p:Addr}{ls:qah}(I:ay K Z tm O ρ σ H)(D:Ks K H H' (av Z O) us p ls):At K H' (av Z O) (.tup us) (.ref p):=by
 refine cA (fM.of D.tup) (aB.iff.mpr ?_);have key:∀{ls':qah}{U5:qaj},(∀a∈ls',a∈ls)->Paired (λa t=>cW K H' (ls++av Z O) a t) ls' U5->Paired (λv t=>At K H' (av Z O) t v) (ls'.map V.ref) U5:=by
  intro ls' U5 sub h;induction h with
  |nil=>exact .nil
  |cons r t ih=>refine .cons ((r.a8 λb hb=>bW _ hb).at λz=>?_) (ih λa ha=>sub a (ic _ ha));exact I.BC _ z (D.new _ (sub _ dP))
 exact key (λ_ h=>h) D.rts
def acP(f:En->(qaj->Prop)->Prop):FP:=λρ Q=>f ρ λus=>Q (.vw (.tup us))
theorem VD.vp{f:En->(qaj->Prop)->Prop}(h:VD X Z e f):VP X Z e (acP f):=.mk λtm=>PE.weak (h tm) λσ H Q ⟨ρ,O,q,I,hf,k⟩ =>
 ⟨ρ,O,_,I,hf,λus hu p ls H' D=>k _ hu _ H' D.same ⟨I.same D.same,D.at I⟩⟩
end
theorem ay.pU{tm:qab}(I:ay K Z tm O ρ σ H)(s:Option V)(hp:bO Z i):ay K Z tm (O.set i none) (ρ.set i none) (σ.set i s) H:=by
 have J:=I.forget hp;refine⟨by simp[I.lσ],J.lO,λj e h=>?_,J.nd,J.own,J.par,J.ox,J.keep,J.rE⟩;obtain⟨o,w,h1,h2,h3⟩:=J.sl j e h;rcases get_set h with⟨rfl,rfl,hl⟩|⟨ne,h'⟩
 exact⟨o,s,h1,by rw[Ee (by rw[I.lσ];exact hl)],h3⟩;exact⟨o,w,h1,by rw[uc (Ne.symm ne)];exact h2,h3⟩
def U9(X:Cx)(i:Nat)(y:Str):Cx:={X with N:=X.N.set i y}
theorem U_(o:X.Ok):(U9 X i y).Ok :=
 ⟨o.mod,o.kind,o.glob,o.blt,o.above,o.inj,o.has,o.Tx,o.hd,o.frames,o.X8,o.exf,o.bs,o.IG,o.BH,o.FT,o.m_,o.N9⟩
theorem Ku(o:(U9 X i y).Ok):X.Ok :=
 ⟨o.mod,o.kind,o.glob,o.blt,o.above,o.inj,o.has,o.Tx,o.hd,o.frames,o.X8,o.exf,o.bs,o.IG,o.BH,o.FT,o.m_,o.N9⟩
theorem Po{s:Shared}(i:Nat)(y:Str)(I:Inv X pins σ H s):Inv (U9 X i y) pins (σ.set i none) H s:=by
 obtain⟨m,hn,hl⟩:=I.loc;refine⟨U_ I.ok,I.os,I.bare,I.base,⟨m,hn,λj x v h1 h2 h3=>?_⟩,I.cell,I.free,I.iW,I.pin,I.cx,?_⟩;rcases get_set h2 with⟨_,e,_⟩|⟨ne,h2⟩
 cases e;have EG:(X.N.set i y)[j]?=some x:=h1;rw[uc (Ne.symm ne)] at EG;exact hl j x v EG h2 h3;show (σ.set i none).length=(X.N.set i y).length;rw[NF,NF];exact I.len
theorem ll{s:Shared}(I:Inv (U9 X i y) pins σ H s):Inv X pins (σ.set i none) H s:=by
 obtain⟨m,hn,hl⟩:=I.loc;refine⟨Ku I.ok,I.os,I.bare,I.base,⟨m,hn,λj x v h1 h2 h3=>?_⟩,I.cell,I.free,I.iW,I.pin,I.cx,?_⟩;rcases get_set h2 with⟨_,e,_⟩|⟨ne,h2⟩
 cases e;refine hl j x v ?_ h2 h3;show (X.N.set i y)[j]?=some x;rw[uc (Ne.symm ne)];exact h1;have:=I.len;have e:(U9 X i y).N.length=X.N.length:=by show (X.N.set i y).length=_;rw[NF]
 rw[NF];omega
def Kv(i:Nat)(d:JI):JI:={nx:=λρ=>d.nx (ρ.set i none),rt:=λρ r=>d.rt (ρ.set i none) r,bk:=λρ=>d.bk (ρ.set i none),ct:=λρ=>d.ct (ρ.set i none)}
def acQ(i:Nat)(g:FS):FS:=λd ρ=>g (Kv i d) (ρ.set i none)
def Kw(i:Nat)(D:Ends):Ends:={nx:=λσ H=>D.nx (σ.set i none) H,rt:=D.rt,bk:=λσ H=>D.bk (σ.set i none) H,ct:=λσ H=>D.ct (σ.set i none) H}
theorem il.pU{tm:qab}{r:Rt}(s:Option V)(hp:bO Z i)(h:il K Z tm O ρ σ H r v):il K Z tm (O.set i none) (ρ.set i none) (σ.set i s) H r v:=by
 cases r with
 |vw t=>exact⟨h.1.pU s hp,h.2.a8 (ck i)⟩
 |fr t=>obtain⟨a,e,I,q,h0⟩:=h;exact⟨a,e,I.pU (Z:=Z.ex a) s hp,q.a8 (ck i),h0⟩
theorem Kx{tm:qab}{d:JI}{D:Ends}(hp:bO Z i)(F:Fin K Z tm d D):Fin K Z tm (Kv i d) (Kw i D) :=
 ⟨λO ρ σ H I h=>F.nx _ _ _ H (I.pU none hp) h,λO ρ σ H r v z h=>F.rt _ _ _ H r v (z.pU none hp) h,λO ρ σ H I h=>F.bk _ _ _ H (I.pU none hp) h,λO ρ σ H I h=>F.ct _ _ _ H (I.pU none hp) h⟩
section
variable{st:Stmt}{bS:qaq}{g:FS}
theorem Pp{D:Ends}:∀{f:Flow}{s':Shared},SP (U9 X i y) pins (Kw i D) f s'->SP X pins D f s'
 |.next,s',⟨σ',H',I,q⟩=>⟨σ'.set i none,H',ll I,q⟩
 |.brk,s',⟨σ',H',I,q⟩=>⟨σ'.set i none,H',ll I,q⟩
 |.cont,s',⟨σ',H',I,q⟩=>⟨σ'.set i none,H',ll I,q⟩
 |.ret u,s',⟨v,σ',H',I,r,q⟩=>⟨v,σ'.set i none,H',ll I,r,q⟩
theorem EX(i:Nat)(y:Str)(hp:bO Z i)(h:VS (U9 X i y) Z st g):VS X Z st (acQ i g):=.mk λtm pins s σ H D I ⟨ρ,O,d,J,q,F⟩ =>
 cc (h tm pins s (σ.set i none) H (Kw i D) (Po i y I) ⟨ρ.set i none,O.set i none,Kv i d,J.pU none hp,q,Kx hp F⟩) λf s' z=>Pp z
end
section
variable{fo:FE}
def Pq(fo fe:FE):FP:=λρ Q=>fo ρ λx=>match x with
 |.str z=>fe ρ λy=>match y with
  |.str y=>Q (.vw (.bl (Txt.startswith z y)))
  |_=>False
 |_=>False
theorem GK(ho:VR X Z o fo)(he:VR X Z e fe)(dv:attributeBase o "startswith" X.env (eval o X.env)=eval o X.env:=by rfl)(lW:((backTo a5 (starEach [e] X.env)).all (λx=>!x.1) && (backToKw a5 (keywordEach [] X.env)).all (λx=>x.1.isSome)
    && decide (([e]:qap).length+([]:List Keyword).length+(if ([]:List Keyword).isEmpty then 0 else 1)<30))=true:=by rfl)(dw:(apos.endLine==a5.line)=true:=by rfl)(hs:starEach [e] X.env=(false,eval e X.env)::starEach [] X.env:=by rfl)(eZ:(backTo a5 (starEach [] X.env)).any (·.1)=false:=by rfl) :
  VP X Z (.Call (.Attribute o "startswith" apos) [e] [] a5) (Pq fo fe):=.mk λtm=>
 PE.weak (rj PySem.F.plainAttrs_str PySem.F.slot_str_startswith PySem.F.type_str_startswith uh (ho tm) (bD (he tm) c6 hs) dv lW dw hs eZ) λσ H Q ⟨ρ,O,q,I,hf,k⟩ =>
  ⟨ρ,O,_,I,hf,λx hx v H1 s1 a1=>by
    split at hx
    rename_i z
    have ev:=a1.str;subst ev;refine⟨rfl,ρ,O,_,I.same s1,hx,λy hy w H2 s2 a2=>?_⟩;split at hy;have ew:=a2.str;subst ew;exact⟨z,_,rfl,rfl,k _ hy _ H2 (s1.trans s2) ⟨(I.same s1).same s2,fH⟩⟩;exact hy.elim;exact hx.elim⟩
end
section
variable{fo:FE}
def acR(fo:FE)(g:FA):FP:=λρ Q=>fo ρ λx=>match x with
 |.str z=>g ρ λy=>∃ys:qai,y=[.lst (ys.map .str)]/\(ys.map (·.length)).sum+ys.length * z.length<=16777216/\Q (.vw (.str (Txt.join z ys)))
 |_=>False
theorem zW{K:qaf}{H:Hp}{A:qah}:∀{ys:qai}{vs:qak},aB K H A (ys.map .str) vs->vs=ys.map V.str
 |[],vs,h=>by simpa only[N6,aB] using h
 |y::ys,vs,h=>by simp only[ix,aB,At] at h;obtain⟨v,r,rfl,rfl,h⟩:=h;rw[zW h];rfl
theorem vS(ho:VR X Z o fo)(he:Uq X Z [e] g)(dv:attributeBase o "join" X.env (eval o X.env)=eval o X.env:=by rfl)(lW:((backTo a5 (starEach [e] X.env)).all (λx=>!x.1) && (backToKw a5 (keywordEach [] X.env)).all (λx=>x.1.isSome)
    && decide (([e]:qap).length+([]:List Keyword).length+(if ([]:List Keyword).isEmpty then 0 else 1)<30))=true:=by rfl)(dw:(apos.endLine==a5.line)=true:=by rfl)(hs:starEach [e] X.env=(false,eval e X.env)::starEach [] X.env:=by rfl)(eZ:(backTo a5 (starEach [] X.env)).any (·.1)=false:=by rfl) :
  VP X Z (.Call (.Attribute o "join" apos) [e] [] a5) (acR fo g):=.mk λtm=>
 PE.weak (rj PySem.F.plainAttrs_str PySem.F.slot_str_join PySem.F.type_str_join OH (ho tm) (he tm) dv lW dw hs eZ) λσ H Q ⟨ρ,O,q,I,hf,k⟩ =>
  ⟨ρ,O,_,I,hf,λx hx v H1 s1 a1=>by
    split at hx
    rename_i z
    have ev:=a1.str;subst ev;refine⟨rfl,ρ,O,_,I.same s1,hx,λy hy w H2 s2 a2=>?_⟩;obtain⟨ys,rfl,hl,hq⟩:=hy;obtain⟨u,rfl,a3⟩:=eY a2;obtain⟨p,vs,rfl,h1,h2⟩:=a3.lst;have ev:=zW h2;subst ev;exact⟨z,p,ys,rfl,rfl,h1,hl,k _ hq _ H2 (s1.trans s2) ⟨(I.same s1).same s2,dy⟩⟩;exact hx.elim⟩
end
inductive S where
 |lf (t:T)
 |lst (xs:List S)
 |dk (ks:List Key) (ts:qaj)
 |dc (nh:List Key×Key->Int) (ks:List (List Key×Key)) (ts:qaj)
 |ins (C:Addr) (ns:qai) (xs:List S)
mutual
def S.t:S->T
 |.lf t=>t
 |.lst xs=>.lst (S.ts xs)
 |.dk ks ts=>.dk ks ts
 |.dc nh ks ts=>.dc nh ks ts
 |.ins C ns xs=>.ins C ns (S.ts xs)
def S.ts:List S->qaj
 |[]=>[]
 |x::xs=>S.t x::S.ts xs
end
def U':Key->T
 |.inl i=>.int i
 |.inr x=>.str x
def IL(c:List Key×Key):T:=.tup [.tup (c.1.map U'),U' c.2]
theorem xu{A:qah}(k:Key):At K H A (U' k) v↔v=kV k:=by cases k<;>simp only[U',At,kV]
theorem qK{K:qaf}{H:Hp}{A:qah}:∀(ks:List Key){vs:qak},aB K H A (ks.map U') vs↔vs=ks.map kV
 |[],vs=>by simp only[N6,aB]
 |k::ks,vs=>by simp only[ix,aB];constructor;rintro⟨v,r,rfl,h1,h2⟩;rw[(xu k).mp h1,(qK ks).mp h2];rintro rfl;exact⟨_,_,rfl,(xu k).mpr rfl,(qK ks).mpr rfl⟩
theorem xv{A:qah}{c:List Key×Key}{b:Addr}:At K H A (IL c) (.ref b)↔qj K H c b:=by unfold IL qj;simp only[At,aB];constructor;rintro⟨a,vs,e,h1,v,r,rfl,⟨d,ws,rfl,h2,h3⟩,v2,r2,rfl,h4,rfl⟩;cases e;rw[(xu _).mp h4] at h1;rw[(qK _).mp h3] at h2;exact⟨d,h1,h2⟩;rintro⟨d,h1,h2⟩;exact⟨b,_,rfl,h1,_,_,rfl,⟨d,_,rfl,h2,(qK _).mpr rfl⟩,_,_,rfl,(xu _).mpr rfl,rfl⟩
mutual
def cq(K:qaf)(H:Hp)(A:qah):S->V->qah->Prop
 |.lf t,v,fp=>fp=[]/\At K H A t v
 |.lst xs,v,fp=>∃a vs jd,v=.ref a/\H a=some (.lst vs)/\fp=a::jd/\bf K H A xs vs jd
 |.dk ks ts,v,fp=>∃a vs,v=.ref a/\fp=[a]/\ks.length=vs.length/\H a=some (.dK (ks.zip vs))/\aB K H A ts vs
 |.dc nh ks ts,v,fp=>∃a xs vs,v=.ref a/\fp=[a]/\H a=some (.ext (oy nh a xs))/\ks=xs.map (·.1)/\(a==sysModules)=false/\(∀x∈xs,At K H A (IL x.1) (.ref x.2.1))/\Vals vs (xs.map (·.2.2))/\aB K H A ts vs
 |.ins C ns xs,v,fp=>∃a dx vs jd,v=.ref a/\ns.length=vs.length/\H a=some (.ins C dx (ns.zip vs))/\fp=a::jd/\bf K H A xs vs jd
def bf(K:qaf)(H:Hp)(A:qah):List S->qak->qah->Prop
 |[],vs,fp=>vs=[]/\fp=[]
 |x::xs,vs,fp=>∃v r f g,vs=v::r/\fp=f++g/\cq K H A x v f/\bf K H A xs r g
end
section
variable{A A':qah}
mutual
theorem cq.map(ha:∀t v,At K H A t v->At K H' A' t v):∀{s:S}{v:V}{fp:qah},(∀b∈fp,H' b=H b)->cq K H A s v fp->cq K H' A' s v fp
 |.lf t,v,fp,hn,h=>by simp only[cq] at h ⊢;exact⟨h.1,ha _ _ h.2⟩
 |.lst xs,v,fp,hn,h=>by simp only[cq] at h ⊢;obtain⟨a,vs,jd,rfl,e,rfl,q⟩:=h;exact⟨a,vs,jd,rfl,(hn a dP).trans e,rfl,bf.map ha (λb hb=>hn b (ic _ hb)) q⟩
 |.dk ks ts,v,fp,hn,h=>by simp only[cq] at h ⊢;obtain⟨a,vs,rfl,rfl,l,e,q⟩:=h;exact⟨a,vs,rfl,rfl,l,(hn a dP).trans e,aB.iff.mpr (Paired.oj (aB.iff.mp q) λ_ _ z=>ha _ _ z)⟩
 |.dc nh ks ts,v,fp,hn,h=>by simp only[cq] at h ⊢;obtain⟨a,xs,vs,rfl,rfl,e,ek,em,hk,hv,q⟩:=h;exact⟨a,xs,vs,rfl,rfl,(hn a dP).trans e,ek,em,λx hx=>ha _ _ (hk x hx),hv,aB.iff.mpr (Paired.oj (aB.iff.mp q) λ_ _ z=>ha _ _ z)⟩
 |.ins C ns xs,v,fp,hn,h=>by simp only[cq] at h ⊢;obtain⟨a,dx,vs,jd,rfl,l,e,rfl,q⟩:=h;exact⟨a,dx,vs,jd,rfl,l,(hn a dP).trans e,rfl,bf.map ha (λb hb=>hn b (ic _ hb)) q⟩
theorem bf.map(ha:∀t v,At K H A t v->At K H' A' t v):∀{xs:List S}{vs:qak}{fp:qah},(∀b∈fp,H' b=H b)->bf K H A xs vs fp->bf K H' A' xs vs fp
 |[],vs,fp,hn,h=>by simpa only[bf] using h
 |x::xs,vs,fp,hn,h=>by simp only[bf] at h ⊢;obtain⟨v,r,f,g,rfl,rfl,h1,h2⟩:=h;exact⟨v,r,f,g,rfl,rfl,cq.map ha (λb hb=>hn b (cC _ hb)) h1,bf.map ha (λb hb=>hn b (bW _ hb)) h2⟩
end
mutual
theorem cq.mut:∀{s:S}{v:V}{fp:qah},cq K H A s v fp->∀b∈fp,∃u,H b=some u/\lz u=true
 |.lf t,v,fp,h,b,hb=>by simp only[cq] at h;rw[h.1] at hb;cases hb
 |.lst xs,v,fp,h,b,hb=>by
  simp only[cq] at h;obtain⟨a,vs,jd,rfl,e,rfl,q⟩:=h;rcases c4.mp hb with z|z
  rw[z];exact⟨_,e,rfl⟩;exact bf.mut q b z
 |.dk ks ts,v,fp,h,b,hb=>by simp only[cq] at h;obtain⟨a,vs,rfl,rfl,l,e,q⟩:=h;rw[jV.mp hb];exact⟨_,e,rfl⟩
 |.dc nh ks ts,v,fp,h,b,hb=>by simp only[cq] at h;obtain⟨a,xs,vs,rfl,rfl,e,_⟩:=h;rw[jV.mp hb];exact⟨_,e,rfl⟩
 |.ins C ns xs,v,fp,h,b,hb=>by
  simp only[cq] at h;obtain⟨a,dx,vs,jd,rfl,l,e,rfl,q⟩:=h;rcases c4.mp hb with z|z
  rw[z];exact⟨_,e,rfl⟩;exact bf.mut q b z
theorem bf.mut:∀{xs:List S}{vs:qak}{fp:qah},bf K H A xs vs fp->∀b∈fp,∃u,H b=some u/\lz u=true
 |[],vs,fp,h,b,hb=>by simp only[bf] at h;rw[h.2] at hb;cases hb
 |x::xs,vs,fp,h,b,hb=>by
  simp only[bf] at h;obtain⟨v,r,f,g,rfl,rfl,h1,h2⟩:=h;rcases cU.mp hb with z|z
  exact cq.mut h1 b z;exact bf.mut h2 b z
end
theorem cq.same{s:S}(sm:aY H H')(h:cq K H A s v fp):cq K H' A s v fp :=
 h.map (λ_ _ q=>q.same sm) λb hb=>by obtain⟨u,e,_⟩:=h.mut b hb;rw[e];exact sm _ _ e
theorem cq.more{s:S}(m:∀a∈A',a∈A\/H a=none)(h:cq K H A s v fp):cq K H A' s v fp:=h.map (λ_ _ q=>q.more m) λ_ _=>rfl
theorem cq.a8{s:S}(m:∀a∈A',a∈A)(h:cq K H A s v fp):cq K H A' s v fp:=h.map (λ_ _ q=>q.a8 m) λ_ _=>rfl
mutual
theorem cq.view:∀{s:S}{v:V}{fp:qah},(∀b∈A',b∈A)->(∀b∈fp,b∉A')->cq K H A s v fp->At K H A' s.t v
 |.lf t,v,fp,hs,hn,h=>by simp only[cq,S.t] at h ⊢;exact h.2.a8 hs
 |.lst xs,v,fp,hs,hn,h=>by simp only[cq,S.t,At] at h ⊢;obtain⟨a,vs,jd,rfl,e,rfl,q⟩:=h;exact⟨a,vs,rfl,.inl ⟨.inl e,hn a dP⟩,bf.view hs (λb hb=>hn b (ic _ hb)) q⟩
 |.dk ks ts,v,fp,hs,hn,h=>by simp only[cq,S.t,At] at h ⊢;obtain⟨a,vs,rfl,rfl,l,e,q⟩:=h;exact⟨a,vs,rfl,l,⟨e,hn a dP⟩,q.a8 hs⟩
 |.dc nh ks ts,v,fp,hs,hn,h=>by simp only[cq,S.t,At] at h ⊢;obtain⟨a,xs,vs,rfl,rfl,e,ek,em,hk,hv,q⟩:=h;exact⟨a,xs,vs,rfl,⟨e,hn a dP⟩,ek,em,λx hx=>xv.mp (hk x hx),hv,q.a8 hs⟩
 |.ins C ns xs,v,fp,hs,hn,h=>by simp only[cq,S.t,At] at h ⊢;obtain⟨a,dx,vs,jd,rfl,l,e,rfl,q⟩:=h;exact⟨a,dx,vs,rfl,l,⟨e,hn a dP⟩,bf.view hs (λb hb=>hn b (ic _ hb)) q⟩
theorem bf.view:∀{xs:List S}{vs:qak}{fp:qah},(∀b∈A',b∈A)->(∀b∈fp,b∉A')->bf K H A xs vs fp->aB K H A' (S.ts xs) vs
 |[],vs,fp,hs,hn,h=>by simp only[bf,S.ts,aB] at h ⊢;exact h.1
 |x::xs,vs,fp,hs,hn,h=>by simp only[bf,S.ts,aB] at h ⊢;obtain⟨v,r,f,g,rfl,rfl,h1,h2⟩:=h;exact⟨v,r,rfl,cq.view hs (λb hb=>hn b (cC _ hb)) h1,bf.view hs (λb hb=>hn b (bW _ hb)) h2⟩
end
end
inductive mf where
 |fld (C:Addr) (f:Str)
 |last
def mh(f:Str):qai->Option Nat
 |[]=>none
 |n::ns=>match f==n with
  |true=>some 0
  |false=>(mh f ns).map (· + 1)
def S.kid:S->mf->Option Nat
 |.ins C ns xs,.fld C' f=>if C'=C then mh f ns else none
 |.lst xs,.last=>if 0<xs.length then some (xs.length-1) else none
 |_,_=>none
def S.kids:S->List S
 |.lst xs=>xs
 |.ins _ _ xs=>xs
 |_=>[]
def S.with:S->List S->S
 |.lst _,ys=>.lst ys
 |.ins C ns _,ys=>.ins C ns ys
 |s,_=>s
def S.get:S->List mf->Option S
 |s,[]=>some s
 |s,p::ps=>match s.kid p with
  |some i=>match s.kids[i]? with
   |some x=>x.get ps
   |none=>none
  |none=>none
def S.put:S->List mf->S->S
 |_,[],y=>y
 |s,p::ps,y=>match s.kid p with
  |some i=>match s.kids[i]? with
   |some x=>s.with (s.kids.set i (x.put ps y))
   |none=>s
  |none=>s
def ip(H:Hp)(v:V)(p:mf):Option V:=match v with
 |.ref a=>match H a with
  |some (.ins C _ fs)=>match p with
   |.fld C' f=>if C'=C then fs.lookup f else none
   |.last=>none
  |some (.lst vs)=>match p with
   |.last=>vs.getLast?
   |_=>none
  |_=>none
 |_=>none
def valAt(H:Hp):V->List mf->Option V
 |v,[]=>some v
 |v,p::ps=>(ip H v p).bind λw=>valAt H w ps
theorem oI(H:Hp)(p:mf):∀(ps:List mf)(v:V),valAt H v (ps++[p])=(valAt H v ps).bind λw=>ip H w p
 |[],v=>by show (ip H v p).bind (λw=>some w)=(some v).bind λw=>ip H w p;simp
 |q::ps,v=>by
  show (ip H v q).bind (λw=>valAt H w (ps++[p]))=((ip H v q).bind λw=>valAt H w ps).bind λw=>ip H w p;cases ip H v q with
  |none=>rfl
  |some w=>exact oI H p ps w
theorem oJ(f:Str):∀(ns:qai)(vs:qak){i:Nat},mh f ns=some i->(ns.zip vs).lookup f=vs[i]?
 |[],vs,i,h=>by cases h
 |n::ns,[],i,h=>by simp
 |n::ns,v::vs,i,h=>by
  rw[N2,ND];unfold mh at h;cases q:f==n with
  |true=>rw[q] at h;cases h;rfl
  |false=>
   rw[q] at h;dsimp only at h;cases e:mh f ns with
   |none=>rw[e] at h;cases h
   |some j=>rw[e] at h;cases h;exact oJ f ns vs e
section
variable{A:qah}
theorem bf.length:∀{xs:List S}{vs:qak}{fp:qah},bf K H A xs vs fp->vs.length=xs.length
 |[],vs,fp,h=>by simp only[bf] at h;rw[h.1];rfl
 |x::xs,vs,fp,h=>by simp only[bf] at h;obtain⟨v,r,f,g,rfl,rfl,h1,h2⟩:=h;simp[bf.length h2]
theorem bf.focus:∀{xs:List S}{vs:qak}{fp:qah}{i:Nat}{x:S},bf K H A xs vs fp->xs[i]?=some x->∃v f1 f f2,vs[i]?=some v/\fp=f1++(f++f2)/\cq K H A x v f /\
  ∀{H':Hp}{A':qah}{y:S}{g:qah},(∀t v,At K H A t v->At K H' A' t v)->(∀b∈f1++f2,H' b=H b)->cq K H' A' y v g->bf K H' A' (xs.set i y) vs (f1++(g++f2))
 |[],vs,fp,i,x,h,e=>by simp at e
 |x0::xs,vs,fp,0,x,h,e=>by simp only[abW,Option.some.injEq] at e;subst e;simp only[bf] at h;obtain⟨v,r,f,g,rfl,rfl,h1,h2⟩:=h;refine⟨v,[],f,g,rfl,rfl,h1,λha hn hy=>?_⟩;simp only[RD,bf];exact⟨v,r,_,g,rfl,rfl,hy,bf.map ha (λb hb=>hn b (by simpa using hb)) h2⟩
 |x0::xs,vs,fp,i+1,x,h,e=>by
   simp only[List.getElem?_cons_succ] at e;simp only[bf] at h;obtain⟨v,r,f,g,rfl,rfl,h1,h2⟩:=h;obtain⟨w,f1,f',f2,e1,rfl,h3,k⟩:=bf.focus h2 e;refine⟨w,f++f1,f',f2,by simpa using e1,by rw[Ti],h3,λha hn hy=>?_⟩;simp only[IV,bf];exact⟨v,r,f,_,rfl,by rw[Ti],cq.map ha (λb hb=>hn b (by simp[hb])) h1,k ha (λb hb=>hn b (by
    rcases cU.mp hb with z|z
    simp[z];simp[z])) hy⟩
theorem cq.focus:∀{ps:List mf}{s x:S}{v:V}{fp:qah},cq K H A s v fp->s.get ps=some x->∃w f1 f f2,fp=f1++(f++f2)/\valAt H v ps=some w/\cq K H A x w f /\
  ∀{H':Hp}{A':qah}{y:S}{g:qah},(∀t v,At K H A t v->At K H' A' t v)->(∀b∈f1++f2,H' b=H b)->cq K H' A' y w g->cq K H' A' (s.put ps y) v (f1++(g++f2))
 |[],s,x,v,fp,h,e=>by cases e;exact⟨v,[],fp,[],by simp,rfl,h,λ_ _ hy=>by simpa[S.put] using hy⟩
 |p::ps,s,x,v,fp,h,e=>by
   unfold S.get at e;cases hk:s.kid p with
   |none=>rw[hk] at e;cases e
   |some i=>
     rw[hk] at e;dsimp only at e;cases hx:s.kids[i]? with
     |none=>rw[hx] at e;cases e
     |some x0=>
       rw[hx] at e;dsimp only at e
       match s,h with
       |.lf t,h=>cases p<;>cases hk
       |.dk ks ts,h=>cases p<;>cases hk
       |.dc nh ks ts,h=>cases p<;>cases hk
       |.lst xs,h=>
         simp only[cq] at h;obtain⟨a,vs,jd,rfl,ea,rfl,q⟩:=h;obtain⟨v1,f1,f,f2,hv,rfl,h1,k1⟩:=bf.focus q hx;obtain⟨w,g1,g,g2,rfl,ev,h2,k2⟩:=cq.focus h1 e;have e1:ip H (.ref a) p=some v1:=by
          cases p with
          |fld C f=>cases hk
          |last=>have zX:(if 0<xs.length then some (xs.length-1) else none)=some i:=hk;split at zX;cases zX;unfold ip;dsimp only;rw[ea];dsimp only;rw[y3,q.length];exact hv;cases zX
         refine⟨w,a::(f1++g1),g,g2++f2,by simp,by show (ip H (.ref a) p).bind _=_;rw[e1];exact ev,h2,λ{H' A' y g'} ha hn hy=>?_⟩;unfold S.put;rw[hk];dsimp only;rw[hx];dsimp only;have h3:=k1 ha (λb hb=>hn b (by rcases cU.mp hb with z|z<;>simp[z])) (k2 ha (λb hb=>hn b (by rcases cU.mp hb with z|z<;>simp[z])) hy);simp only[S.with,S.kids,cq];exact⟨a,vs,_,rfl,(hn a (by simp)).trans ea,by simp,h3⟩
       |.ins C ns xs,h=>
         simp only[cq] at h;obtain⟨a,dx,vs,jd,rfl,l,ea,rfl,q⟩:=h;obtain⟨v1,f1,f,f2,hv,rfl,h1,k1⟩:=bf.focus q hx;obtain⟨w,g1,g,g2,rfl,ev,h2,k2⟩:=cq.focus h1 e;have e1:ip H (.ref a) p=some v1:=by
          cases p with
          |last=>cases hk
          |fld C' f=>
            have zX:(if C'=C then mh f ns else none)=some i:=hk;split at zX
            rename_i hC
            unfold ip;dsimp only;rw[ea];dsimp only;rw[if_pos hC,oJ f ns vs zX];exact hv;cases zX
         refine⟨w,a::(f1++g1),g,g2++f2,by simp,by show (ip H (.ref a) p).bind _=_;rw[e1];exact ev,h2,λ{H' A' y g'} ha hn hy=>?_⟩;unfold S.put;rw[hk];dsimp only;rw[hx];dsimp only;have h3:=k1 ha (λb hb=>hn b (by rcases cU.mp hb with z|z<;>simp[z])) (k2 ha (λb hb=>hn b (by rcases cU.mp hb with z|z<;>simp[z])) hy);simp only[S.with,S.kids,cq];exact⟨a,dx,vs,_,rfl,l,(hn a (by simp)).trans ea,by simp,h3⟩
end
structure Mz where
 H0:Hp
 vK:qah
 Ox:qah
 a:Addr
 k:Nat
def qM(H:Hp)(L:qah):Hp:=λb=>if b∈L then none else H b
theorem zY{L:qah}{b:Addr}{o:HO}(h:qM H L b=some o):H b=some o/\b∉L:=by
 unfold qM at h;split at h;cases h
 rename_i n;exact⟨h,n⟩
theorem Kz{L:qah}{b:Addr}(h:qM H L b=none):b∈L\/H b=none:=by
 unfold qM at h;split at h
 rename_i n;exact .inl n
 exact .inr h
theorem KA{L:qah}{b:Addr}(h:b∈L):qM H L b=none:=by unfold qM;rw[if_pos h]
theorem Pr{L:qah}{b:Addr}(h:b∉L):qM H L b=H b:=by unfold qM;rw[if_neg h]
structure Mf(K:qaf)(M:Mz)(O:HD)(fp:qah)(s:S)(H:Hp):Prop where
 pV:cq K H (roots O++(fp++M.Ox)) s (.ref M.a) fp
 nd:fp.Nodup
 oK:∀b∈fp,b∉roots O/\b∉M.Ox
 fr:∀b∈fp,b∈M.vK\/M.H0 b=none
 kp:∀b o,M.H0 b=some o->b∉M.vK->H b=some o/\b∉roots O
abbrev zf(M:Mz)(O:HD)(H:Hp):Zc:=⟨qM H (roots O),[],M.Ox⟩
section
variable{M:Mz}{Of:HD}{s:S}{Hf:Hp}{tm:qab}
theorem Mf.now(F:Mf K M Of fp s Hf)(I:ay K (zf M Of Hf) tm O ρ σ H)(hr:∀b∈roots Of,∃u,Hf b=some u/\lz u=true):Mf K M O fp s H:=by
 have old:∀b∈roots O,b∈roots Of\/Hf b=none:=λb hb=>by
  rcases (I.own b hb).1 with z|z
  cases z;exact Kz z
 have kept:∀b o,Hf b=some o->b∉roots Of->H b=some o:=λb o e n=>I.keep b o (by show qM Hf (roots Of) b=some o;rw[Pr n];exact e) (by show b∉[];simp);have jd:∀b∈fp,∃u,Hf b=some u/\lz u=true:=F.pV.mut;refine⟨?_,F.nd,λb hb=>⟨λz=>?_,(F.oK b hb).2⟩,F.fr,λb o e n=>?_⟩;refine cq.map (λt v q=>?_) (λb hb=>?_) F.pV;have q1:At K Hf (roots Of++(roots O++(fp++M.Ox))) t v:=q.more λa ha=>by
  rcases cU.mp ha with z|z
  exact .inl (cC _ z);rcases cU.mp z with z|z
  rcases old a z with y|y
  exact .inl (cC _ y);exact .inr y;exact .inl (bW _ z)
 have q2:At K H (roots Of++(roots O++(fp++M.Ox))) t v:=q1.rT (as:=roots Of) kept (λa ha=>cC _ ha) hr;exact q2.a8 λa ha=>bW _ ha;obtain⟨u,e,_⟩:=jd b hb;rw[e];exact kept b u e (F.oK b hb).1;rcases old b z with y|y
 exact (F.oK b hb).1 y;obtain⟨u,e,_⟩:=jd b hb;rw[e] at y;cases y;obtain⟨h1,h2⟩:=F.kp b o e n;refine⟨kept b o h1 h2,λz=>?_⟩;rcases old b z with y|y
 exact h2 y;rw[h1] at y;cases y
theorem ay.rebase(I:ay K Z tm O ρ σ H)(hZ:Z.P=[]):ay K ⟨qM H (roots O),[],Z.Ox⟩ tm O ρ σ H :=
 ⟨I.lσ,I.lO,I.sl,I.nd,λa h=>⟨.inr (KA h),(I.own a h).2⟩,λp hp=>(nomatch hp),I.ox,λb o e _=>(zY e).1,I.rE⟩
structure nG(K:qaf)(M:Mz)(ρ:En)(s:S)(σ:St)(H:Hp):Prop where
 ex:∃O fp,Mf K M O fp s H/\ay K (zf M O H) [] O ρ σ H
 pin:ρ[M.k]?=some (some (.pin M.a s.t,false))
theorem nG.of(F:Mf K M Of fp s Hf)(hr:∀b∈roots Of,∃u,Hf b=some u/\lz u=true)(I:ay K (zf M Of Hf) [] O ρ σ H)(hp:ρ[M.k]?=some (some (.pin M.a s.t,false))):nG K M ρ s σ H :=
 ⟨⟨O,fp,F.now I hr,I.rebase (Z:=zf M Of Hf) rfl⟩,hp⟩
theorem bG(I:ay K (zf M O H) tm O ρ σ H):∀b∈roots O,∃u,H b=some u/\lz u=true:=λb hb=>(I.own b hb).2.2
def jo:Option (T×Bool)->Option (T×Bool)
 |some (t,false)=>if bP t=true then some (t,false) else none
 |e=>e
def gp:Option (T×Bool)->Prop
 |some (.lst ts,true)=>eD ts=true
 |some (.dk _ ts,true)=>eD ts=true
 |some (_,true)=>False
 |_=>True
def mi(M:Mz)(ρ:En)(s:S):En:=(ρ.map jo).set M.k (some (.pin M.a s.t,false))
theorem cW.bP{A A':qah}{t:T}(hi:gp (some (t,true)))(h:cW K H A a t)(e:H' a=H a)(hm:∀t v,bP t=true->At K H A t v->At K H' A' t v):cW K H' A' a t:=by
 have ml:∀{ts:qaj}{vs:qak},eD ts=true->aB K H A ts vs->aB K H' A' ts vs:=by
  intro ts;induction ts with
  |nil=>intro vs _ q;simpa only[aB] using q
  |cons t ts ih=>intro vs hi q;simp only[eD,m9] at hi;simp only[aB] at q ⊢;obtain⟨v,r,rfl,q1,q2⟩:=q;exact⟨v,r,rfl,hm _ _ hi.1 q1,ih hi.2 q2⟩
 cases t with
 |lst ts=>obtain⟨vs,e1,q⟩:=h;exact⟨vs,e.trans e1,ml hi q⟩
 |dk ks ts=>obtain⟨vs,l,e1,q⟩:=h;exact⟨vs,l,e.trans e1,ml hi q⟩
 |_=>exact False.elim hi
theorem Mf.write{fp':qah}{s':S}(F:Mf K M O fp s H)(I:ay K (zf M O H) [] O ρ σ H)(qo:∀e∈ρ,gp e)(hk:ρ[M.k]?≠none)(ho:O[M.k]?=some none)(hσ:σ[M.k]?=some (some (.ref M.a)))(fr:∀b o,H b=some o->b∉fp->H' b=some o)(hS:cq K H' (roots O++(fp'++M.Ox)) s' (.ref M.a) fp')(nd:fp'.Nodup)(oK:∀b∈fp',b∉roots O/\b∉M.Ox)(hfr:∀b∈fp',b∈M.vK\/M.H0 b=none):nG K M (mi M ρ s') s' σ H':=by
 have kept:∀b∈roots O,H' b=H b:=λb hb=>by obtain⟨u,e,_⟩:=bG I b hb;rw[e];exact fr _ _ e λz=>(F.oK b z).1 hb
 have tr:∀t v,bP t=true->At K H (av (zf M O H) O) t v->At K H' (roots O++M.Ox) t v:=λt v hi q=>by have q1:At K H fp t v:=At.bP hi q;exact At.bP hi (q1.rT (as:=fp) fr (λa h=>h) F.pV.mut)
 have af0:M.k<ρ.length:=by
  cases h:ρ[M.k]? with
  |none=>exact absurd h hk
  |some e=>exact (eW.mp h).1
 refine⟨⟨O,fp',⟨hS,nd,oK,hfr,λb o e n=>?_⟩,⟨?_,?_,λj e h=>?_,I.nd,λb hb=>⟨.inr (KA hb),(I.own b hb).2.1,?_⟩,λp hp=>(nomatch hp),λb hb=>?_,λb o e _=>(zY e).1,λp hp=>(nomatch hp)⟩⟩,?_⟩;obtain⟨h1,h2⟩:=F.kp b o e n;refine⟨fr _ _ h1 λz=>?_,h2⟩;rcases F.fr b z with y|y
 exact n y;rw[e] at y;cases y;unfold mi;rw[NF,c3];exact I.lσ;unfold mi;rw[NF,c3];exact I.lO;unfold mi at h;rcases get_set h with⟨rfl,rfl,hl⟩|⟨ne,h⟩
 refine⟨none,_,ho,hσ,rfl,.ref M.a,rfl,?_⟩;simp only[At];refine⟨trivial,hS.view (λb hb=>?_) (λb hb z=>?_)⟩;rcases cU.mp hb with z|z
 exact cC _ z;exact bW _ (bW _ z);rcases cU.mp z with z|z
 exact (oK b hb).1 z;exact (oK b hb).2 z;rw[List.getElem?_map] at h;cases h0:ρ[j]? with
 |none=>rw[h0] at h;cases h
 |some e0=>
  rw[h0] at h;have he:jo e0=e:=Option.some.inj h;obtain⟨o,w,h1,h2,h3⟩:=I.sl j e0 h0;refine⟨o,w,h1,h2,?_⟩;subst he
  match e0,h3,h0 with
  |none,h3,_=>exact h3
  |some (t,false),h3,_=>obtain⟨rfl,v,rfl,q⟩:=h3;show oz K H' (av (zf M O H') O) (if bP t=true then some (t,false) else none) none (some v);by_cases hi:bP t=true;rw[if_pos hi];exact⟨rfl,v,rfl,tr t v hi q⟩;rw[if_neg hi];rfl
  |some (t,true),h3,h0=>obtain⟨c,rfl,rfl,q⟩:=h3;exact⟨c,rfl,rfl,q.bP (qo _ (iw h0)) (kept c (aM.mpr (iw h1))) tr⟩
 obtain⟨u,e,m⟩:=(I.own b hb).2.2;exact⟨u,(kept b hb).trans e,m⟩;cases e:H b with
 |none=>exact absurd e (I.ox b hb)
 |some u=>rw[fr _ _ e λz=>(F.oK b z).2 hb];simp
 unfold mi;rw[Ee (by rw[c3];exact af0)]
end
structure Sn where
 nx:En->S->Prop
 rt:En->S->qam
 bk:En->S->Prop:=λ_ _=>False
 ct:En->S->Prop:=λ_ _=>False
structure Va(K:qaf)(M:Mz)(d:Sn)(D:Ends):Prop where
 nx:∀ρ s σ H,nG K M ρ s σ H->d.nx ρ s->D.nx σ H
 rt:∀ρ s σ H r v O fp Of Hf,Mf K M Of fp s Hf->(∀b∈roots Of,∃u,Hf b=some u/\lz u=true)->il K (zf M Of Hf) [] O ρ σ H r v->d.rt ρ s r->D.rt v H
 bk:∀ρ s σ H,nG K M ρ s σ H->d.bk ρ s->D.bk σ H
 ct:∀ρ s σ H,nG K M ρ s σ H->d.ct ρ s->D.ct σ H
abbrev FM:=Sn->En->S->Prop
def lM(X:Cx)(M:Mz)(g:FM):TS:=λD σ H=>∃ρ s d,nG X.K M ρ s σ H/\g d ρ s/\Va X.K M d D
structure Bm(p:Prop):Prop where
 h:p
def MS(X:Cx)(M:Mz)(st:Stmt)(g:FM):Prop:=Bm (PS X st (lM X M g))
def IM(X:Cx)(M:Mz)(st:qaq)(g:FM):Prop:=Bm (jc X st (lM X M g))
section
variable{M:Mz}{st:Stmt}{rest:qaq}{g u:FM}{pos:Pos}
def acS:FM:=λd ρ s=>d.nx ρ s
def af1(g u:FM):FM:=λd ρ s=>g {d with nx:=u d} ρ s
theorem Pt:IM X M [] acS:=⟨jc.jH Ek λD σ H ⟨ρ,s,d,I,h,F⟩=>F.nx ρ s σ H I h⟩
theorem cv(h1:MS X M st g)(h2:IM X M rest u):IM X M (st::rest) (af1 g u):=⟨jc.jH (cV h1.h h2.h) λD σ H ⟨ρ,s,d,I,h,F⟩ =>
 ⟨ρ,s,{d with nx:=u d},I,h,⟨λρ' s' σ' H' I' h'=>⟨ρ',s',d,I',h',F⟩,F.rt,F.bk,F.ct⟩⟩⟩
theorem bN(h1:MS X M st g):IM X M [st] g:=⟨kZ h1.h⟩
theorem IM.weak(h:IM X M rest g)(hw:∀d ρ s,u d ρ s->g d ρ s):IM X M rest u:=⟨jc.jH h.h λD σ H ⟨ρ,s,d,I,q,F⟩=>⟨ρ,s,d,I,hw d ρ s q,F⟩⟩
def dPl(M:Mz)(d:Sn)(s:S):JI:={nx:=λρ'=>ρ'[M.k]?=some (some (.pin M.a s.t,false))/\d.nx ρ' s,rt:=λρ' r=>d.rt ρ' s r,bk:=λρ'=>ρ'[M.k]?=some (some (.pin M.a s.t,false))/\d.bk ρ' s,ct:=λρ'=>ρ'[M.k]?=some (some (.pin M.a s.t,false))/\d.ct ρ' s}
def mPl(M:Mz)(g:FS):FM:=λd ρ s=>g (dPl M d s) ρ
theorem Vb{s:S}{d:Sn}{D:Ends}(F:Mf K M O fp s H)(I:ay K (zf M O H) [] O ρ σ H)(Fi:Va K M d D):Fin K (zf M O H) [] (dPl M d s) D :=
 ⟨λO' ρ' σ' H' J ⟨h1,h2⟩=>Fi.nx _ _ _ _ (nG.of F (bG I) J h1) h2,λO' ρ' σ' H' r v z h=>Fi.rt _ _ _ _ r v _ _ _ _ F (bG I) z h,λO' ρ' σ' H' J ⟨h1,h2⟩=>Fi.bk _ _ _ _ (nG.of F (bG I) J h1) h2,λO' ρ' σ' H' J ⟨h1,h2⟩=>Fi.ct _ _ _ _ (nG.of F (bG I) J h1) h2⟩
theorem fq{g:FS}(h:∀H0,VS X ⟨H0,[],M.Ox⟩ st g):MS X M st (mPl M g):=⟨PS.jH λD σ H ⟨ρ,s,d,⟨⟨O,fp,F,I⟩,hp⟩,hg,Fi⟩=>⟨_,h (qM H (roots O)) [],ρ,O,_,I,hg,Vb F I Fi⟩⟩
 where PS.jH {t:TS} (hw:∀D σ H,t D σ H->∃t':TS,PS X st t'/\t' D σ H):PS X st t:=λpins s σ H D I q=>let ⟨t',h1,h2⟩:=hw D σ H q;h1 pins s σ H D I h2
def mIf(c:FB)(g u:FM):FM:=λd ρ s=>c ρ λb=>if b=true then g d ρ s else u d ρ s
theorem vU{a b:qaq}(hc:∀H0,VC X ⟨H0,[],M.Ox⟩ c fc)(ha:IM X M a g)(hb:IM X M b u):MS X M (.If c a b pos) (mIf fc g u):=⟨λpins s' σ H D J ⟨ρ,s,d,⟨⟨O,fp,F,I⟩,hp⟩,hg,Fi⟩ =>
 RO (hc (qM H (roots O)) []) ha.h hb.h pins s' σ H D J ⟨ρ,O,_,I,hg,λb hb H' sm=>by
  have St:nG X.K M ρ s σ H':=nG.of F (bG I) (I.same sm) hp;cases b with
  |true=>rw[if_pos rfl] at hb;exact Uh ⟨ρ,s,d,St,hb,Fi⟩
  |false=>rw[if_neg jb] at hb;exact Ug ⟨ρ,s,d,St,hb,Fi⟩⟩⟩
end
def j'(k:Nat)(ps:List mf):TE:=λσ H Q=>∃v w,σ[k]?=some (some v)/\valAt H v ps=some w/\Q w H
section
variable{i:Expr}{k:Nat}{ps:List mf}{f:Str}{pos:Pos}
theorem mj(hN:X.N[k]?=some x:=by rfl)(hv:mZ X.env.scope x:=by first|exact Or.inl rfl|exact Or.inr (Or.inl rfl)|exact Or.inr (Or.inr rfl))(hd:jD x:=by decide)(ig:yT x:=by decide):PE X (.Name x pos) (j' k []):=PE.weak (bX hN hv hd ig) λσ H Q ⟨v,w,h1,h2,q⟩=>by cases h2;exact⟨v,h1,q⟩
theorem kc(cl:BR X.K C)(na:bp X.K C f)(he:PE X e (j' k ps))(hb:attributeBase e f X.env (eval e X.env)=eval e X.env:=by rfl):PE X (.Attribute e f pos) (j' k (ps++[.fld C f])) :=
 PE.weak (BW he hb) λσ H Q ⟨v,w,h1,h2,q⟩=>by
  rw[oI] at h2;cases e0:valAt H v ps with
  |none=>rw[e0] at h2;cases h2
  |some w0=>
   rw[e0] at h2;have h3:ip H w0 (.fld C f)=some w:=h2;refine⟨v,w0,h1,e0,?_⟩;unfold ip at h3;split at h3
   rename_i a
   split at h3
   rename_i C' dx fs ea
   dsimp only at h3;split at h3
   rename_i hC
   subst hC;exact⟨a,_,dx,fs,w,rfl,ea,cl,na,h3,q⟩;cases h3;dsimp only at h3;cases h3;cases h3;cases h3
theorem Pu(he:PE X e (j' k ps))(hi:PE X i (tC (.int (-1))))(hs:wO i:=by intro _ _;rfl):PE X (.Subscript e i pos) (j' k (ps++[.last])) :=
 PE.weak (RX Es he hi hs) λσ H Q ⟨v,w,h1,h2,q⟩=>by
  rw[oI] at h2;cases e0:valAt H v ps with
  |none=>rw[e0] at h2;cases h2
  |some w0=>
   rw[e0] at h2;have h3:ip H w0 .last=some w:=h2;refine⟨v,w0,h1,e0,?_⟩;unfold ip at h3;split at h3
   rename_i a
   split at h3;dsimp only at h3;cases h3
   rename_i vs ea
   dsimp only at h3;refine⟨a,vs,-1,w,rfl,rfl,iV.of ea,?_,q⟩;have hl:0<vs.length:=by cases vs<;>simp_all
   rw[y3] at h3;unfold jQ wM;rw[if_neg (by decide),if_pos (by omega)];have e:(-1+(vs.length:Int)).toNat=vs.length-1:=by omega
   rw[e];exact h3;cases h3;cases h3
end
theorem acT{j}{p':Pos}:PE X (.UnaryOp .USub (.Constant (.int 1) j p) p') (tC (.int (-1))):=PE.weak (RQ Jd IY) λσ H Q h=>⟨_,rfl,h⟩
section
variable{M:Mz}{s:S}{A:qah}
theorem bf.So:∀{xs:List S}{vs:qak}{fp:qah}{i:Nat}{t0 t:T}{v:V},bf K H A xs vs fp->xs[i]?=some (.lf t0)->At K H A t v->bf K H A (xs.set i (.lf t)) (vs.set i v) fp
 |[],vs,fp,i,t0,t,v,h,e,q=>by simp at e
 |x::xs,vs,fp,0,t0,t,v,h,e,q=>by cases e;simp only[bf,cq] at h;obtain⟨v0,r,f,g,rfl,rfl,⟨rfl,_⟩,h2⟩:=h;simp only[RD,bf,cq];exact⟨v,r,[],g,rfl,rfl,⟨rfl,q⟩,h2⟩
 |x::xs,vs,fp,i+1,t0,t,v,h,e,q=>by simp only[bf] at h;obtain⟨v0,r,f,g,rfl,rfl,h1,h2⟩:=h;simp only[IV,bf];exact⟨v0,r.set i v,f,g,rfl,rfl,h1,h2.So (by simpa using e) q⟩
theorem EY(f:Str)(y:V):∀(ns:qai)(vs:qak){i:Nat},ns.length=vs.length->mh f ns=some i->eI f y (ns.zip vs)=ns.zip (vs.set i y)
 |[],vs,i,_,h=>by cases h
 |n::ns,[],i,l,h=>by simp at l
 |n::ns,v::vs,i,l,h=>by
  rw[N2];show (if n=f then (n,y)::ns.zip vs else (n,v)::eI f y (ns.zip vs))=_;unfold mh at h;cases q:f==n with
  |true=>rw[q] at h;cases h;rw[if_pos (eq_of_beq q).symm];rfl
  |false=>
   rw[q] at h;have ne:¬ n=f:=λe=>by rw[e] at q;simp at q
   rw[if_neg ne];cases z:mh f ns with
   |none=>rw[z] at h;cases h
   |some j=>rw[z] at h;cases h;rw[EY f y ns vs (by simpa using l) z];rfl
theorem cY(I:ay K (zf M O H) [] O ρ σ H)(hp:ρ[M.k]?=some (some (.pin M.a s.t,false))):O[M.k]?=some none/\σ[M.k]?=some (some (.ref M.a)):=by obtain⟨o,sv,h1,h2,h3⟩:=I.sl M.k _ hp;obtain⟨rfl,v,rfl,q⟩:=h3;simp only[At] at q;obtain⟨rfl,_⟩:=q;exact⟨h1,h2⟩
theorem Mf.put{ps:List mf}{x:S}(F:Mf K M O fp s H)(I:ay K (zf M O H) [] O ρ σ H)(hp:ρ[M.k]?=some (some (.pin M.a s.t,false)))(qo:∀e∈ρ,gp e)(hg:s.get ps=some x) :
  ∃w f,valAt H (.ref M.a) ps=some w/\cq K H (roots O++(fp++M.Ox)) x w f/\(∀b∈f,b∈fp)/\f.Nodup /\
   ∀{b:Addr}{u:HO}{y:S},b∈f->cq K (upd H b u) (roots O++(fp++M.Ox)) y w f->nG K M (mi M ρ (s.put ps y)) (s.put ps y) σ (upd H b u):=by
 obtain⟨w,f1,f,f2,Co,ev,hs,back⟩:=F.pV.focus hg;have sub:∀b∈f,b∈fp:=λb hb=>by rw[Co];exact bW _ (cC _ hb)
 have nd:=F.nd;have Pw:=nd;rw[Co] at Pw;have ndf:f.Nodup:=((BG.mp Pw).2.1 |> BG.mp).1;refine⟨w,f,ev,hs,sub,ndf,λ{b u y} hb hy=>?_⟩;obtain⟨ho,hσ⟩:=cY I hp;obtain⟨u0,e0,m0⟩:=F.pV.mut b (sub b hb);have hA:b∈roots O++(fp++M.Ox):=bW _ (cC _ (sub b hb));refine F.write I qo (by rw[hp];simp) ho hσ (λb' o e n=>?_) (fp':=fp) ?_ nd F.oK F.fr;rw[aE (λz=>n (by rw[z];exact sub b hb))];exact e;have r:=back (H':=upd H b u) (A':=roots O++(fp++M.Ox)) (λt v q=>q.wrote hA e0 m0) (λb' Vc=>?_) hy;rw[<- Co] at r;exact r;refine aE λz=>?_;subst z;have n1:=BG.mp Pw;have n2:=BG.mp n1.2.1;rcases cU.mp Vc with q|q
 exact n1.2.2 _ q _ (cC _ hb) rfl;exact n2.2.2 _ hb _ q rfl
end
section
variable{M:Mz}{f:Str}{pos:Pos}
def af2(M:Mz)(C:Addr)(f:Str)(fe:FE):FM:=λd ρ s=>fe ρ λt=>bP t=true/\(∀e∈ρ,gp e)/\∃ns xs i t0,s=.ins C ns xs/\xs.length<1000/\mh f ns=some i/\xs[i]?=some (.lf t0)/\d.nx (mi M ρ (.ins C ns (xs.set i (.lf t)))) (.ins C ns (xs.set i (.lf t)))
theorem iP(cl:BR X.K C)(na:bp X.K C f)(he:∀H0,VE X ⟨H0,[],M.Ox⟩ e fe)(hN:X.N[M.k]?=some x)(hv:mZ X.env.scope x:=by first|exact Or.inl rfl|exact Or.inr (Or.inl rfl)|exact Or.inr (Or.inr rfl))(hd:jD x:=by decide)(ig:yT x:=by decide)(hs:swapsWith e (some (.Attribute (.Name x p) f gu)) pos.line X.env=pure false:=by rfl) :
  MS X M (.Assign [.Attribute (.Name x p) f gu] e pos) (af2 M C f fe):=⟨λpins s' σ H D J ⟨ρ,s,d,⟨⟨O,fp,F,I⟩,hp⟩,hg,Fi⟩=>by
 refine gT (bX hN hv hd ig) (he (qM H (roots O)) []) hs pins s' σ H D J ⟨ρ,O,_,I,hg,λt ht v H1 sm a=>?_⟩;obtain⟨hi,qo,ns,xs,i,t0,rfl,hlen,hix,hx,hq⟩:=ht;have I0:=I.same sm;have F1:=F.now I0 (bG I);have I1:=I0.rebase (Z:=zf M O H) rfl;obtain⟨w,f',ev,hS,sub,nd,wr⟩:=F1.put (ps:=[]) I1 hp qo rfl;cases ev;have zZ:=hS;simp only[cq] at zZ;obtain⟨a',dx,vs,jd,ea,hl,ha,rfl,hL⟩:=zZ;cases ea;obtain⟨_,hσ⟩:=cY I1 hp;refine⟨.ref M.a,hσ,M.a,C,dx,_,rfl,ha,cl,na,?_,?_⟩;rw[Tp,hl,RJ,hL.length];exact hlen;rw[EY f v ns vs hl hix];have hA:M.a∈roots O++(fp++M.Ox):=bW _ (cC _ (sub _ dP));refine Fi.nx _ _ σ _ (wr (y:=.ins C ns (xs.set i (.lf t))) dP ?_) hq;simp only[cq];refine⟨M.a,dx,vs.set i v,jd,rfl,by rw[NF];exact hl,aH,rfl,?_⟩;refine (hL.map (λt v q=>q.wrote hA ha rfl) λb hb=>aE λz=>?_).So hx ((At.bP hi a).wrote hA ha rfl);subst z;exact (mW.mp nd).1 hb⟩
end
theorem GN(sm:aY H H'){w:V}{p:mf}(h:ip H v p=some w):ip H' v p=some w:=by
 unfold ip at h ⊢;split at h
 rename_i a
 cases e:H a with
 |none=>rw[e] at h;cases h
 |some o=>rw[e] at h;rw[sm _ _ e];exact h
 cases h
theorem g_{H H':Hp}(sm:aY H H'):∀{ps:List mf}{v w:V},valAt H v ps=some w->valAt H' v ps=some w
 |[],v,w,h=>h
 |p::ps,v,w,h=>by
  unfold valAt at h ⊢;cases e:ip H v p with
  |none=>rw[e] at h;cases h
  |some u=>rw[e] at h;rw[GN sm e];exact g_ sm (ps:=ps) h
section
variable{M:Mz}{i:Expr}{ps:List mf}{pos:Pos}
def acU(M:Mz)(ps:List mf)(fi fe:FE):FM:=λd ρ s=>fe ρ λt=>(∃x,s.get ps=some x)/\fi ρ λj=>match zM j with
 |some kk=>bP t=true/\(∀e∈ρ,gp e)/\∃ks ts,s.get ps=some (.dk ks ts)/\ts.length<16777216/\d.nx (mi M ρ (s.put ps (.dk (iY ks kk) (cJ ks ts kk t)))) (s.put ps (.dk (iY ks kk) (cJ ks ts kk t)))
 |none=>False
theorem EZ{fi:FE}(hu:X.A.units+1<cLine)(ho:PE X o (j' M.k ps))(hi:∀H0,VR X ⟨H0,[],M.Ox⟩ i fi)(he:∀H0,VE X ⟨H0,[],M.Ox⟩ e fe)(hs:swapsWith e (some (.Subscript o i gu)) pos.line X.env=pure false:=by rfl) :
  MS X M (.Assign [.Subscript o i gu] e pos) (acU M ps fi fe):=⟨λpins s' σ H D J ⟨ρ,s,d,⟨⟨O,fp,F,I⟩,hp⟩,hg,Fi⟩=>by
 refine EN hu ho (hi (qM H (roots O)) []) (he (qM H (roots O)) []) hs pins s' σ H D J ⟨ρ,O,_,I,hg,λt ht v H1 s1 a1=>?_⟩;obtain⟨⟨x,hx⟩,ht⟩:=ht;obtain⟨w,_,_,_,_,ev,_,_⟩:=(F.now (I.same s1) (bG I)).pV.focus hx;obtain⟨_,hσ⟩:=cY I hp;refine⟨.ref M.a,w,hσ,ev,ρ,O,_,I.same s1,ht,λj hj w' H2 s2 a2=>?_⟩;split at hj
 rename_i kk ek
 obtain⟨KC,qo,ks,ts,GO,hlen,hq⟩:=hj;have I0:=(I.same s1).same s2;have F2:=F.now I0 (bG I);have I2:=I0.rebase (Z:=zf M O H) rfl;obtain⟨w2,f',KD,hS,sub,nd,wr⟩:=F2.put (ps:=ps) I2 hp qo GO;rw[g_ s2 ev] at KD;cases KD;have zZ:=hS;simp only[cq] at zZ;obtain⟨l,xs,rfl,rfl,hl,h3,h4⟩:=zZ;have q:=Kp ks xs kk v hl;have hz:(ks.zip xs).length<sizeLine:=by rw[sizeLine_eq,Tp,hl,RJ,h4.length];omega
 have hA:l∈roots O++(fp++M.Ox):=bW _ (cC _ (sub _ dP));rw[nF a2 ek];refine⟨l,_,rfl,Gy.k h3 hz,?_⟩;rw[q.1];refine Fi.nx _ _ σ _ (wr (y:=.dk (iY ks kk) (cJ ks ts kk t)) dP ?_) hq;simp only[cq];exact⟨l,cJ ks xs kk v,rfl,rfl,q.2,aH,aB.wrote hA h3 rfl (zP h4 (At.bP KC (a1.same s2)))⟩;exact hj.elim⟩
end
theorem bf.KG{A:qah}{t:T}:∀{xs:List S}{vs:qak}{fp:qah},bf K H A xs vs fp->At K H A t v->bf K H A (xs++[.lf t]) (vs++[v]) fp
 |[],vs,fp,h,q=>by simp only[bf] at h;obtain⟨rfl,rfl⟩:=h;simp only[X1,bf,cq];exact⟨v,[],[],[],rfl,rfl,⟨rfl,q⟩,rfl,rfl⟩
 |x::xs,vs,fp,h,q=>by simp only[bf] at h;obtain⟨v0,r,f,g,rfl,rfl,h1,h2⟩:=h;simp only[RF,bf];exact⟨v0,r++[v],f,g,rfl,rfl,h1,h2.KG q⟩
section
variable{M:Mz}{ps:List mf}{pos:Pos}
def af3(M:Mz)(ps:List mf)(fe:FE):FM:=λd ρ s=>∃ys,s.get ps=some (.lst ys)/\ys.length<16777216/\fe ρ λt=>bP t=true/\(∀e∈ρ,gp e)/\d.nx (mi M ρ (s.put ps (.lst (ys++[.lf t])))) (s.put ps (.lst (ys++[.lf t])))
theorem GP(ho:PE X o (j' M.k ps))(he:∀H0,VE X ⟨H0,[],M.Ox⟩ e fe)(dv:attributeBase o "append" X.env (eval o X.env)=eval o X.env:=by rfl)(lW:((backTo a5 (starEach [e] X.env)).all (λx=>!x.1) && (backToKw a5 (keywordEach [] X.env)).all (λx=>x.1.isSome)
    && decide (([e]:qap).length+([]:List Keyword).length+(if ([]:List Keyword).isEmpty then 0 else 1)<30))=true:=by rfl)(dw:(apos.endLine==a5.line)=true:=by rfl)(hs:starEach [e] X.env=(false,eval e X.env)::starEach [] X.env:=by rfl)(eZ:(backTo a5 (starEach [] X.env)).any (·.1)=false:=by rfl)(Jx:swapsWith (.Call (.Attribute o "append" apos) [e] [] a5) none pos.line X.env=pure false:=by rfl) :
  MS X M (.Expr (.Call (.Attribute o "append" apos) [e] [] a5) pos) (af3 M ps fe):=⟨λpins s' σ H D J ⟨ρ,s,d,⟨⟨O,fp,F,I⟩,hp⟩,hg,Fi⟩=>by
 obtain⟨ys,GO,hlen,hg⟩:=hg;obtain⟨w,_,f,_,_,ev,hS0,_⟩:=F.pV.focus GO;have z4:=hS0;simp only[cq] at z4;obtain⟨l,xs,jd,rfl,hl,rfl,hL⟩:=z4;obtain⟨_,hσ⟩:=cY I hp;refine ng (rj XU Ec Ed bQ ho (bD (he (qM H (roots O)) []) c6 hs) dv lW dw hs eZ) Jx pins s' σ H D J
  ⟨.ref M.a,.ref l,hσ,ev,.inl ⟨rfl,xs,iV.of hl⟩,ρ,O,_,I,hg,λt ht v H1 s1 a1=>?_⟩
 obtain⟨KC,qo,hq⟩:=ht;have I0:=I.same s1;have F1:=F.now I0 (bG I);have I1:=I0.rebase (Z:=zf M O H) rfl;obtain⟨w2,f',KD,hS,sub,nd,wr⟩:=F1.put (ps:=ps) I1 hp qo GO;rw[g_ s1 ev] at KD;cases KD;have zZ:=hS;simp only[cq] at zZ;obtain⟨l',IJ,Px,e',y',rfl,hL'⟩:=zZ;cases e';have hA:l∈roots O++(fp++M.Ox):=bW _ (cC _ (sub _ dP));refine⟨l,IJ,v,rfl,rfl,y',by rw[sizeLine_eq,hL'.length];omega,?_⟩;refine Fi.nx _ _ σ _ (wr (y:=.lst (ys++[.lf t])) dP ?_) hq;simp only[cq];refine⟨l,IJ++[v],Px,rfl,aH,rfl,?_⟩;refine (hL'.map (λt v q=>q.wrote hA y' rfl) λb hb=>aE λz=>?_).KG ((At.bP KC a1).wrote hA y' rfl);subst z;exact (mW.mp nd).1 hb⟩
end
section
variable{M:Mz}{s:S}{A:qah}
theorem Mf.af4{ps:List mf}{x:S}(F:Mf K M O fp s H)(I:ay K (zf M O H) [] O ρ σ H)(hp:ρ[M.k]?=some (some (.pin M.a s.t,false)))(qo:∀e∈ρ,gp e)(hg:s.get ps=some x) :
  ∃w f,valAt H (.ref M.a) ps=some w/\cq K H (roots O++(fp++M.Ox)) x w f/\(∀b∈f,b∈fp)/\f.Nodup /\
   ∀{H':Hp}{g:qah}{y:S},(∀b o,H b=some o->b∉f->H' b=some o)->g.Nodup->(∀b∈g,b∈f\/H b=none) ->
    (∀A',(∀t v,At K H (roots O++(fp++M.Ox)) t v->At K H' A' t v)->cq K H' A' y w g)->nG K M (mi M ρ (s.put ps y)) (s.put ps y) σ H':=by
 obtain⟨w,f1,f,f2,Co,ev,hs,back⟩:=F.pV.focus hg;have sub:∀b∈f,b∈fp:=λb hb=>by rw[Co];exact bW _ (cC _ hb)
 have nH:∀b∈f1++f2,b∈fp:=λb hb=>by
  rw[Co];rcases cU.mp hb with z|z
  exact cC _ z;exact bW _ (bW _ z)
 have Pw:=F.nd;rw[Co] at Pw;have n1:=BG.mp Pw;have n2:=BG.mp n1.2.1;refine⟨w,f,ev,hs,sub,n2.1,λ{H' g y} fr ndg Vd hy=>?_⟩;obtain⟨ho,hσ⟩:=cY I hp;have out:∀b∈f1++f2,b∉f:=λb hb z=>by
  rcases cU.mp hb with q|q
  exact n1.2.2 _ q _ (cC _ z) rfl;exact n2.2.2 _ z _ q rfl
 have go:∀t v,At K H (roots O++(fp++M.Ox)) t v->At K H' (roots O++((f1++(g++f2))++M.Ox)) t v:=λt v q=>by
  have q1:At K H (g++(roots O++(fp++M.Ox))) t v:=q.more λa ha=>by
   rcases cU.mp ha with z|z
   rcases Vd a z with y|y
   exact .inl (bW _ (cC _ (sub a y)));exact .inr y;exact .inl z
  have q2:=q1.rT (H':=H') (as:=f) fr (λa ha=>bW _ (bW _ (cC _ (sub a ha)))) λa ha=>F.pV.mut a (sub a ha);refine q2.a8 λa ha=>?_;rcases cU.mp ha with z|z
  exact bW _ (cC _ z);rcases cU.mp z with z|z
  rcases cU.mp z with z|z
  exact bW _ (bW _ (cC _ (nH a (cC _ z))));rcases cU.mp z with z|z
  exact cC _ z;exact bW _ (bW _ (cC _ (nH a (bW _ z))));exact bW _ (bW _ (bW _ z))
 have Ve:∀b∈fp,H b≠none:=λb hb=>by obtain⟨u,e,_⟩:=F.pV.mut b hb;rw[e];simp
 have each:∀b∈f1++(g++f2),b∈fp\/H b=none:=λb hb=>by
  rcases cU.mp hb with z|z
  exact .inl (nH b (cC _ z));rcases cU.mp z with z|z
  exact (Vd b z).imp (sub b) id;exact .inl (nH b (bW _ z))
 have KH:∀b∈g,b∉f1++f2:=λb hb z=>by
  rcases Vd b hb with y|y
  exact out b z y;exact Ve b (nH b z) y
 refine F.write I qo (by rw[hp];simp) ho hσ (λb' o e n=>fr b' o e λz=>n (sub b' z)) (fp':=f1++(g++f2)) ?_ ?_ (λb hb=>?_) λb hb=>?_;refine back (H':=H') (A':=roots O++((f1++(g++f2))++M.Ox)) go (λb' Vc=>?_) (hy _ go);obtain⟨u,e,_⟩:=F.pV.mut b' (nH b' Vc);rw[e];exact fr _ _ e (out b' Vc);refine BG.mpr ⟨n1.1,BG.mpr ⟨ndg,n2.2.1,λa ha b hb z=>?_⟩,λa ha b hb z=>?_⟩;subst z;exact KH a ha (bW _ hb);subst z;rcases cU.mp hb with y|y
 exact KH a y (cC _ ha);exact n1.2.2 _ ha _ (bW _ y) rfl;rcases each b hb with z|z
 exact F.oK b z;refine⟨λy=>I.BC b (cC _ y) z,λy=>I.BC b (bW _ y) z⟩;rcases each b hb with z|z
 exact F.fr b z;cases e:M.H0 b with
 |none=>exact .inr rfl
 |some o=>refine .inl (YG λn=>?_);rw[(F.kp b o e n).1] at z;cases z
theorem nG.put{t:T}(S:nG K M ρ s σ H)(hj:M.k≠j)(hi:bP t=true)(a:At K H A t v):nG K M (ρ.set j (some (t,false))) s (σ.set j (some v)) H:=by obtain⟨⟨O,fp,F,I⟩,hp⟩:=S;exact nG.of F (bG I) (I.put (λp hp=>absurd hp gD) (At.bP hi a)) (by rw[uc (Ne.symm hj)];exact hp)
end
section
variable{A:qah}
theorem bf.KI{z:S}:∀{ys:List S}{vs:qak}{fp:qah},bf K H A (ys++[z]) vs fp->∃Yb v f g,vs=Yb++[v]/\fp=f++g/\bf K H A ys Yb f/\cq K H A z v g
 |[],vs,fp,h=>by simp only[X1,bf] at h;obtain⟨v,r,f,g,rfl,rfl,h1,rfl,rfl⟩:=h;exact⟨[],v,[],f,rfl,by simp,by simp[bf],h1⟩
 |x::xs,vs,fp,h=>by simp only[RF,bf] at h;obtain⟨v0,r,f,g,rfl,rfl,h1,h2⟩:=h;obtain⟨Yb,v,f',g',rfl,rfl,h3,h4⟩:=bf.KI h2;refine⟨v0::Yb,v,f++f',g',rfl,by simp,?_,h4⟩;simp only[bf];exact⟨v0,Yb,f,f',rfl,rfl,h1,h3⟩
theorem bf.acV:∀{xs:List S}{vs:qak}{fp:qah}{i:Nat}{t:T},bf K H A xs vs fp->xs[i]?=some (.lf t)->∃v,vs[i]?=some v/\At K H A t v:=λh e=>by obtain⟨v,f1,f,f2,e1,_,h1,_⟩:=h.focus e;simp only[cq] at h1;exact⟨v,e1,h1.2⟩
end
section
variable{M:Mz}{ps:List mf}{f:Str}{pos acW acX:Pos}
def acY(M:Mz)(j:Nat)(ps:List mf)(C:Addr)(f:Str):FM:=λd ρ s=>∃ys ns zs i t,M.k≠j/\s.get ps=some (.lst (ys++[.ins C ns zs]))/\mh f ns=some i/\zs[i]?=some (.lf t)/\bP t=true/\(∀e∈ρ,gp e)/\d.nx ((mi M ρ (s.put ps (.lst ys))).set j (some (t,false))) (s.put ps (.lst ys))
theorem Py(hN:X.N.Nodup)(hj:X.N[j]?=some x)(hx:Loc X.env.scope x)(cl:BR X.K C)(na:bp X.K C f)(ho:PE X o (j' M.k ps))(dv:attributeBase o "pop" X.env (eval o X.env)=eval o X.env:=by rfl)(dw:(apos.endLine==a5.line)=true:=by rfl)(Yc:attributeBase (.Call (.Attribute o "pop" apos) [] [] a5) f X.env (eval (.Call (.Attribute o "pop" apos) [] [] a5) X.env)=eval (.Call (.Attribute o "pop" apos) [] [] a5) X.env:=by rfl)(hs:swapsWith (.Attribute (.Call (.Attribute o "pop" apos) [] [] a5) f acW) (some (.Name x acX)) pos.line X.env=pure false:=by rfl)(hf:X.fn x=true\/X.env.scope.names.lookup x=some .local:=by first|exact .inl rfl|exact .inr rfl|assumption) :
  MS X M (.Assign [.Name x acX] (.Attribute (.Call (.Attribute o "pop" apos) [] [] a5) f acW) pos) (acY M j ps C f):=⟨λpins s' σ H D J ⟨ρ,s,d,⟨⟨O,fp,F,I⟩,hp⟩,hg,Fi⟩=>by
 obtain⟨ys,ns,zs,i,t,hkj,GO,hix,hz,KC,qo,hq⟩:=hg;obtain⟨w,f',ev,hS,sub,nd,wr⟩:=F.af4 (ps:=ps) I hp qo GO;have zZ:=hS;simp only[cq] at zZ;obtain⟨l,xs,jd,rfl,hl,rfl,hL⟩:=zZ;obtain⟨xs0,v,g1,g2,rfl,rfl,hL1,hZ⟩:=hL.KI;simp only[cq] at hZ;obtain⟨a,dx,vs,fz,rfl,hlen,ha,rfl,hLz⟩:=hZ;obtain⟨u,eu,au⟩:=hLz.acV hz;obtain⟨_,hσ⟩:=cY I hp;have nl:=mW.mp nd;have nal:a≠l:=λz=>nl.1 (by rw[<- z];exact bW _ dP);have hA:l∈roots O++(fp++M.Ox):=bW _ (cC _ (sub _ dP));refine wJ hN hj hx (BW (B6 XU ab4 ab5 wW ho dv dw) Yc) hs hf pins s' σ H D J
  ⟨.ref M.a,.ref l,hσ,ev,.inl ⟨rfl,_,iV.of hl⟩,l,_,.ref a,rfl,rfl,hl,by simp,a,C,dx,_,u,rfl,by rw[aE nal];exact ha,cl,na,by rw[oJ f ns vs hix];exact eu,?_⟩
 rw[Tg];refine Fi.nx _ _ _ _ (nG.put (A:=[]) (wr (H':=upd H l (.lst xs0)) (g:=l::g1) (y:=.lst ys) (λb o e n=>?_) ?_ (λb hb=>?_) λA' go=>?_) hkj KC (At.bP KC (au.wrote hA hl rfl))) hq;rw[aE λz=>n (by rw[z];exact dP)];exact e;refine mW.mpr ⟨λz=>nl.1 (cC _ z),(BG.mp nl.2).1⟩;rcases c4.mp hb with z|z
 exact .inl (by rw[z];exact dP);exact .inl (ic _ (cC _ z));simp only[cq];refine⟨l,xs0,g1,rfl,aH,rfl,hL1.map go λb hb=>aE λz=>?_⟩;subst z;exact nl.1 (cC _ hb)⟩
end
section
variable{M:Mz}{s:S}{A:qah}
theorem Mf.putN{N:qah}{ps:List mf}{x:S}(F:Mf K M O fp s H)(FN:cq K H (N++(roots O++(fp++M.Ox))) s (.ref M.a) fp)(hN:∀b∈N,b∉fp/\b∉roots O/\b∉M.Ox/\(b∈M.vK\/M.H0 b=none))(I:ay K (zf M O H) [] O ρ σ H)(hp:ρ[M.k]?=some (some (.pin M.a s.t,false)))(qo:∀e∈ρ,gp e)(hg:s.get ps=some x) :
  ∃w f,valAt H (.ref M.a) ps=some w/\cq K H (N++(roots O++(fp++M.Ox))) x w f/\(∀b∈f,b∈fp)/\f.Nodup /\
   ∀{H':Hp}{g:qah}{y:S},(∀b o,H b=some o->b∉f->H' b=some o)->g.Nodup->(∀b∈g,b∈f\/H b=none\/b∈N) ->
    (∀A',(∀t v,At K H (N++(roots O++(fp++M.Ox))) t v->At K H' A' t v)->cq K H' A' y w g)->nG K M (mi M ρ (s.put ps y)) (s.put ps y) σ H':=by
 obtain⟨w,f1,f,f2,Co,ev,hs,back⟩:=FN.focus hg;have sub:∀b∈f,b∈fp:=λb hb=>by rw[Co];exact bW _ (cC _ hb)
 have nH:∀b∈f1++f2,b∈fp:=λb hb=>by
  rw[Co];rcases cU.mp hb with z|z
  exact cC _ z;exact bW _ (bW _ z)
 have Pw:=F.nd;rw[Co] at Pw;have n1:=BG.mp Pw;have n2:=BG.mp n1.2.1;refine⟨w,f,ev,hs,sub,n2.1,λ{H' g y} fr ndg Vd hy=>?_⟩;obtain⟨ho,hσ⟩:=cY I hp;have out:∀b∈f1++f2,b∉f:=λb hb z=>by
  rcases cU.mp hb with q|q
  exact n1.2.2 _ q _ (cC _ z) rfl;exact n2.2.2 _ z _ q rfl
 have go:∀t v,At K H (N++(roots O++(fp++M.Ox))) t v->At K H' (roots O++((f1++(g++f2))++M.Ox)) t v:=λt v q=>by
  have q1:At K H (g++(N++(roots O++(fp++M.Ox)))) t v:=q.more λa ha=>by
   rcases cU.mp ha with z|z
   rcases Vd a z with y|y|y
   exact .inl (bW _ (bW _ (cC _ (sub a y))));exact .inr y;exact .inl (cC _ y);exact .inl z
  have q2:=q1.rT (H':=H') (as:=f) fr (λa ha=>bW _ (bW _ (bW _ (cC _ (sub a ha))))) λa ha=>F.pV.mut a (sub a ha);refine q2.a8 λa ha=>?_;rcases cU.mp ha with z|z
  exact bW _ (bW _ (cC _ z));rcases cU.mp z with z|z
  rcases cU.mp z with z|z
  exact bW _ (bW _ (bW _ (cC _ (nH a (cC _ z)))));rcases cU.mp z with z|z
  exact cC _ z;exact bW _ (bW _ (bW _ (cC _ (nH a (bW _ z)))));exact bW _ (bW _ (bW _ (bW _ z)))
 have Ve:∀b∈fp,H b≠none:=λb hb=>by obtain⟨u,e,_⟩:=F.pV.mut b hb;rw[e];simp
 have each:∀b∈f1++(g++f2),b∈fp\/H b=none\/b∈N:=λb hb=>by
  rcases cU.mp hb with z|z
  exact .inl (nH b (cC _ z));rcases cU.mp z with z|z
  exact (Vd b z).imp (sub b) id;exact .inl (nH b (bW _ z))
 have KH:∀b∈g,b∉f1++f2:=λb hb z=>by
  rcases Vd b hb with y|y|y
  exact out b z y;exact Ve b (nH b z) y;exact (hN b y).1 (nH b z)
 refine F.write I qo (by rw[hp];simp) ho hσ (λb' o e n=>fr b' o e λz=>n (sub b' z)) (fp':=f1++(g++f2)) ?_ ?_ (λb hb=>?_) λb hb=>?_;refine back (H':=H') (A':=roots O++((f1++(g++f2))++M.Ox)) go (λb' Vc=>?_) (hy _ go);obtain⟨u,e,_⟩:=F.pV.mut b' (nH b' Vc);rw[e];exact fr _ _ e (out b' Vc);refine BG.mpr ⟨n1.1,BG.mpr ⟨ndg,n2.2.1,λa ha b hb z=>?_⟩,λa ha b hb z=>?_⟩;subst z;exact KH a ha (bW _ hb);subst z;rcases cU.mp hb with y|y
 exact KH a y (cC _ ha);exact n1.2.2 _ ha _ (bW _ y) rfl;rcases each b hb with z|z|z
 exact F.oK b z;refine⟨λy=>I.BC b (cC _ y) z,λy=>I.BC b (bW _ y) z⟩;exact⟨(hN b z).2.1,(hN b z).2.2.1⟩;rcases each b hb with z|z|z
 exact F.fr b z;cases e:M.H0 b with
 |none=>exact .inr rfl
 |some o=>refine .inl (YG λn=>?_);rw[(F.kp b o e n).1] at z;cases z
 exact (hN b z).2.2.2
end
end VT
variable{M:VT.Mz}
namespace PySem
open Sem (wp)
section
variable{s:Shared}
variable{it:Addr}{o:Obj}{es:Array DictEntry}{ep:Nat}
end
end PySem
namespace VT
open PySem PySem.Spec PyProof.Rows L2
def kAd(o:Obj)(i:Nat):Addr:=match o.data with
 |.dict es _=>match es[i]? with
  |some e=>match e.key with
   |.ref b=>b
   |_=>0
  |none=>0
 |_=>0
section
variable{κ:Type}[DecidableEq κ]
def acZ:List κ->List α->κ->Option α
 |k::ks,t::ts,x=>if k=x then some t else acZ ks ts x
 |_,_,_=>none
end
section
variable{a:Expr}{fc:FE}{pos:Pos}
def ag3(fa fb:FE):FP:=λρ Q=>fa ρ λx=>fb ρ λy=>match x,y with
 |.df o ks ts,.pin b _=>∃i k t,b=kAd o i/\ks[i]?=some k/\acZ ks ts k=some t/\Q (.vw t)
 |_,_=>False
def af5:T->T
 |.pin _ t=>t
 |t=>t
def af6(f:FE):FE:=λρ Q=>f ρ λt=>Q (af5 t)
theorem bJ(h:VR X Z e fa):VR X Z e (af6 fa):=.mk λtm=>PE.weak (h tm) λσ H Q ⟨ρ,O,q,I,hf,k⟩=>⟨ρ,O,_,I,hf,λt ht v H' s z=>by
 refine k _ ht v H' s ?_;cases t with
 |pin b t=>
  obtain z|⟨a,_,r⟩:=z
  simp only[At] at z;exact .inl z.2;exact r.elim
 |_=>exact z⟩
end
end VT
namespace PySem
open Sem (wp)
end PySem
namespace VT
open PySem PySem.Spec PyProof.Rows L2
structure MG where
 a:Addr
 dx:Addr
 a1:Addr
 a2:Addr
 C:Addr
 H0:Hp
 n1:a≠a1
 n2:a≠a2
 n3:a1≠a2
structure S2 where
 k1:List (List Key)
 t1:qaj
 k2:List (List Key)
 t2:qaj
section
variable{M:MG}{tm:qab}{s:S2}
def vwO(b:Option T):Option (T×Bool):=b.map λt=>(t,false)
end
structure GEn where
 nx:En->S2->Prop
 rt:S2->T->Prop
 bk:En->S2->Prop:=λ_ _=>False
 ct:En->S2->Prop:=λ_ _=>False
abbrev FG2:=GEn->En->S2->Prop
section
variable{A:qah}
theorem At.frame{t:T}(here:∀b∈A,∃u,H b=some u/\lz u=true)(fr:∀b o,H b=some o->b∉A->H' b=some o)(h:At K H A t v):At K H' A t v:=by
 have rd:∀{a:Addr}{u:HO},a∉A->Rd H a u->Rd H' a u:=λn q=>q.elim (λz=>.inl (fr _ _ z n)) λ⟨o,z⟩=>.inr ⟨o,fr _ _ z n⟩;refine At.map (λa vs q=>q.elim (λz=>.inl ⟨rd z.2 z.1,z.2⟩) .inr) (λa vs q=>q.elim (λz=>.inl (rd (λm=>?_) z)) .inr) (λa u q=>⟨fr _ _ q.1 q.2,q.2⟩) h;obtain⟨u,e,mu⟩:=here a m;obtain z|⟨o,z⟩:=z
 rw[e] at z;cases z;cases mu;rw[e] at z;cases z;cases mu
end
section
variable{Gg:T->S2->(S2->T->Prop)->Prop}{Gli:qaj->(qam)->Prop}
theorem Vf(K:qaf)(H:Hp):ay K ⟨H,[],[]⟩ [] [] [] [] H:=⟨rfl,rfl,λi e h=>by simp at h,N4,λa h=>absurd h gD,λp hp=>absurd hp gD,λa h=>absurd h gD,λb o e _=>e,λp hp=>absurd hp gD⟩
end
section
variable{F1 F2:Str}
def ac0(K:qaf)(C:Addr)(F1 F2:Str)(i n:Nat):TE:=λσ H Q=>∃v1 t1 p ks ts,σ[i]?=some (some v1)/\σ[n]?=some (some (.ref p))/\bP t1=true/\At K H [] t1 v1/\At K H [] (.dk ks ts) (.ref p) /\
 ∀a dx u H3,aY H H3->H a=none->H3 a=some (.ins C dx ([F1,F2].zip [u,.ref p]))->At K H3 [] t1 u->Q (.ref a) H3
theorem Vg{xC:Str}{kC:Nat}{fI:Addr}{fdI:FuncData}{psI:qai}{GI:qaj->(T->Prop)->Prop}{pC pd1 Yd pc:Pos}(MI:Mk X.K C fI)(FI:bY X.prog X.w X.K X.mg X.base fG kC fI fdI psI (Sl X.K C 2 GI))(hGI:∀t1 t2 q,q (.ins C [F1,F2] [t1,t2])->GI [t1,t2] q)(rI:bA (kC+1) X.A)(gI:Gl X xC)(mI:X.mg xC=some (.ref C))(bI:Binds X.K fdI psI [])(hN:X.N[i]?=some x:=by rfl)(hv:mZ X.env.scope x:=by first|exact Or.inl rfl|exact Or.inr (Or.inl rfl)|exact Or.inr (Or.inr rfl))(hd:jD x:=by decide)(ig:yT x:=by decide)(hN2:X.N[n]?=some y:=by rfl)(hv2:mZ X.env.scope y:=by first|exact Or.inl rfl|exact Or.inr (Or.inl rfl)|exact Or.inr (Or.inr rfl))(hd2:jD y:=by decide)(af7:yT y:=by decide)(db1:jD xC:=by decide)(s1:starEach [.Name x pd1,.Name y Yd] X.env=(false,eval (.Name x pd1) X.env)::starEach [.Name y Yd] X.env:=by rfl)(s2:starEach [.Name y Yd] X.env=(false,eval (.Name y Yd) X.env)::starEach [] X.env:=by rfl)(s3:(backTo pc (starEach [.Name y Yd] X.env)).any (·.1)=false:=by rfl):PE X (.Call (.Name xC pC) [.Name x pd1,.Name y Yd] [] pc) (ac0 X.K C F1 F2 i n) :=
 PE.weak (wL MI FI rI gI mI bI .nil lF (bD (bX hN hv hd ig) (bD (bX hN2 hv2 hd2 af7) c6 s2) s1) db1 s1 s3) λσ H Q h=>by obtain⟨v1,t1,p,ks,ts,e1,e2,hi,a1,a2,k⟩:=h;refine⟨v1,e1,.ref p,e2,?_⟩;refine EU (X:=X) (Z:=⟨_,[],[]⟩) (C:=C) (G:=GI) (Q:=Q) (q:=λr=>r=.fr (.ins C [F1,F2] [t1,.pin p (.dk ks ts)])) (Vf X.K _) (ts:=[t1,.pin p (.dk ks ts)]) (vs:=[v1,.ref p]) (aB.cons a1 (aB.cons ?_ aB.nil)) rfl (hGI _ _ (λu=>Rt.fr u=.fr (.ins C [F1,F2] [t1,.pin p (.dk ks ts)])) rfl) (λr er v H3 sm z=>?_);unfold At;exact⟨rfl,a2⟩;subst er;obtain⟨a,rfl,_,⟨dx,vs,hl,ea,hv⟩,n0,_⟩:=z;simp only[aB] at hv;obtain⟨u,_,rfl,h1,_,_,rfl,h2,rfl⟩:=hv;unfold At at h2;obtain⟨rfl,_⟩:=h2;exact k a dx u H3 sm n0 ea (At.bP hi h1)
end
section
variable{A:qah}
theorem bf.snoc{z:S}{g:qah}:∀{xs:List S}{vs:qak}{fp:qah},bf K H A xs vs fp->cq K H A z v g->bf K H A (xs++[z]) (vs++[v]) (fp++g)
 |[],vs,fp,h,q=>by simp only[bf] at h;obtain⟨rfl,rfl⟩:=h;simp only[X1,bf];exact⟨v,[],g,[],rfl,by simp,q,rfl,rfl⟩
 |x::xs,vs,fp,h,q=>by simp only[bf] at h;obtain⟨v0,r,f,f2,rfl,rfl,h1,h2⟩:=h;simp only[RF,bf];exact⟨v0,r++[v],f,f2++g,rfl,by simp,h1,h2.snoc q⟩
end
theorem mm:∀{O:HD}{n:Nat}{p:Addr},(roots O).Nodup->O[n]?=some (some p)->p∉roots (O.set n none)
 |[],n,p,_,e=>by simp at e
 |o::O,0,p,h,e=>by cases e;simp only[roots,RD,oh,id] at h ⊢;exact (mW.mp h).1
 |o::O,n+1,p,h,e=>by
  have e':O[n]?=some (some p):=by simpa using e
  cases o with
  |none=>simp only[roots,IV,oh,id] at h ⊢;exact mm h e'
  |some a=>
   simp only[roots,IV,oh,id] at h ⊢;have h2:=mW.mp h;intro z;rcases c4.mp z with y|y
   exact h2.1 (by rw[<- y];exact aM.mpr (iw e'));exact mm h2.2 e' y
section
variable{mk:Expr}{ps:List mf}{F1 F2:Str}{pos:Pos}
def ac1(M:Mz)(ps:List mf)(C:Addr)(F1 F2:Str)(i n:Nat):FM:=λd ρ s=>∃ys t1 ks ts,s.get ps=some (.lst ys)/\ys.length<16777216/\M.k≠n/\ρ[i]?=some (some (t1,false))/\bP t1=true/\ρ[n]?=some (some (.dk ks ts,true))/\eD ts=true/\(∀e∈ρ,gp e) /\
 d.nx (mi M (ρ.set n none) (s.put ps (.lst (ys++[.ins C [F1,F2] [.lf t1,.dk ks ts]])))) (s.put ps (.lst (ys++[.ins C [F1,F2] [.lf t1,.dk ks ts]])))
theorem Pz(ho:PE X o (j' M.k ps))(he:PE X mk (ac0 X.K C F1 F2 i n))(dv:attributeBase o "append" X.env (eval o X.env)=eval o X.env:=by rfl)(lW:((backTo a5 (starEach [mk] X.env)).all (λx=>!x.1) && (backToKw a5 (keywordEach [] X.env)).all (λx=>x.1.isSome)
    && decide (([mk]:qap).length+([]:List Keyword).length+(if ([]:List Keyword).isEmpty then 0 else 1)<30))=true:=by rfl)(dw:(apos.endLine==a5.line)=true:=by rfl)(hs:starEach [mk] X.env=(false,eval mk X.env)::starEach [] X.env:=by rfl)(eZ:(backTo a5 (starEach [] X.env)).any (·.1)=false:=by rfl)(Jx:swapsWith (.Call (.Attribute o "append" apos) [mk] [] a5) none pos.line X.env=pure false:=by rfl) :
  MS X M (.Expr (.Call (.Attribute o "append" apos) [mk] [] a5) pos) (ac1 M ps C F1 F2 i n):=⟨λpins s' σ H D J ⟨ρ,s,d,⟨⟨O,fp,F,I⟩,hp⟩,hg,Fi⟩=>by
 obtain⟨ys,t1,ks,ts,GO,hlen,Cp,hi,hi1,hn,gw,qo,hq⟩:=hg;obtain⟨w,f1,f,f2,Co,ev,hS0,_⟩:=F.pV.focus GO;have z4:=hS0;simp only[cq] at z4;obtain⟨l,xs,jd,rfl,hl,rfl,hL⟩:=z4;have hlf:l∈fp:=by rw[Co];simp
 obtain⟨_,hσ⟩:=cY I hp;obtain⟨_,_,_,z1,rfl,v1,rfl,b1⟩:=I.sl i _ hi;obtain⟨p,hO,z2,hR⟩:=I.root hn;have Ye:p∈roots O:=aM.mpr (iw hO);obtain⟨vs,hlk,hHp,hvs⟩:=hR;have npl:p≠l:=λz=>(F.oK l hlf).1 (by rw[<- z];exact Ye);refine ng (rj XU Ec Ed bQ ho (bD he c6 hs) dv lW dw hs eZ) Jx pins s' σ H D J
  ⟨.ref M.a,.ref l,hσ,ev,.inl ⟨rfl,xs,iV.of hl⟩,v1,t1,p,ks,ts,z1,z2,hi1,At.bP hi1 b1,?_,λa dx u H3 sm na ea au=>?_⟩
 simp only[At];exact⟨p,vs,rfl,hlk,⟨hHp,λz=>nomatch z⟩,hvs.a8 λb hb=>nomatch hb⟩;have I3f:=(I.same sm).forget (i:=n) (λp hp=>absurd hp gD);have F3:=F.now I3f (bG I);have I3:=I3f.rebase (Z:=zf M O H) rfl;have hp3:(ρ.set n none)[M.k]?=some (some (.pin M.a s.t,false)):=by rw[uc (Ne.symm Cp)];exact hp
 have af8:∀e∈ρ.set n none,gp e:=λe he=>by
  rcases XT he with z|z
  exact qo e z;rw[z];trivial
 have FN:cq X.K H3 ([p,a]++(roots (O.set n none)++(fp++M.Ox))) s (.ref M.a) fp:=(F.pV.more λb hb=>by
  rcases cU.mp hb with z|z
  simp only[c4,gD,or_false] at z;obtain rfl|rfl:=z
  exact .inl (cC _ Ye);exact .inr na;rcases cU.mp z with z|z
  exact .inl (cC _ (cj n b z));exact .inl (bW _ z)).same sm
 have Ve:∀b∈fp,H b≠none:=λb hb=>by obtain⟨u,e,_⟩:=F.pV.mut b hb;rw[e];simp
 have hN:∀b∈[p,a],b∉fp/\b∉roots (O.set n none)/\b∉M.Ox/\(b∈M.vK\/M.H0 b=none):=λb hb=>by
  simp only[c4,gD,or_false] at hb;obtain rfl|rfl:=hb
  refine⟨λz=>(F.oK _ z).1 Ye,mm I.nd hO,(I.own _ Ye).2.1,?_⟩;cases e:M.H0 b with
  |none=>exact .inr rfl
  |some o=>exact .inl (YG λn=>(F.kp b o e n).2 Ye)
  refine⟨λz=>Ve _ z na,λz=>I.BC _ (cC _ (cj n _ z)) na,λz=>I.ox _ z na,?_⟩;cases e:M.H0 b with
  |none=>exact .inr rfl
  |some o=>refine .inl (YG λn=>?_);have:=(F.kp b o e n).1;rw[na] at this;cases this
 obtain⟨w2,f',KD,hS,sub,nd,wr⟩:=F3.putN FN hN I3 hp3 af8 GO;rw[g_ sm ev] at KD;cases KD;have zZ:=hS;simp only[cq] at zZ;obtain⟨l',IJ,Px,e',y',rfl,hL'⟩:=zZ;cases e';have nal:a≠l:=λz=>Ve l hlf (by rw[<- z];exact na);have nap:a≠p:=λz=>by rw[z,hHp] at na;cases na
 have nl:=mW.mp nd;refine⟨l,IJ,.ref a,rfl,rfl,y',by rw[sizeLine_eq,hL'.length];omega,?_⟩;refine Fi.nx _ _ σ _ (wr (H':=upd H3 l (.lst (IJ++[.ref a]))) (g:=l::(Px++[a,p])) (y:=.lst (ys++[.ins C [F1,F2] [.lf t1,.dk ks ts]])) (λb o e n=>?_) ?_ (λb hb=>?_) λA' go=>?_) hq;rw[aE λz=>n (by rw[z];exact dP)];exact e;refine mW.mpr ⟨λz=>?_,BG.mpr ⟨nl.2,by simp[nap],λx hx y hy z=>?_⟩⟩;rcases cU.mp z with z|z
 exact nl.1 z;simp only[c4,gD,or_false] at z;obtain z|z:=z
 exact nal z.symm;exact npl z.symm;subst z;have hxf:x∈fp:=sub x (ic _ hx);simp only[c4,gD,or_false] at hy;obtain rfl|rfl:=hy
 exact Ve _ hxf na;exact (F.oK _ hxf).1 Ye;rcases c4.mp hb with z|z
 exact .inl (by rw[z];exact dP);rcases cU.mp z with z|z
 exact .inl (ic _ z);refine .inr (.inr ?_);simp only[c4,gD,or_false] at z ⊢;exact z.symm;simp only[cq];refine⟨l,IJ++[.ref a],Px++[a,p],rfl,aH,rfl,(hL'.map go λb hb=>aE λz=>?_).snoc ?_⟩;subst z;exact nl.1 hb;have hR':cW X.K (upd H3 l (.lst (IJ++[.ref a]))) A' p (.dk ks ts):=cW.bP (t:=.dk ks ts) (A:=av (zf M O H) O) gw ⟨vs,hlk,hHp,hvs⟩ (by rw[aE npl,sm _ _ hHp,hHp]) λt v hi q=>go t v (At.bP hi (q.same sm));obtain⟨j6,af9,aga,agb⟩:=hR';simp only[cq,bf];exact⟨a,dx,[u,.ref p],[p],rfl,rfl,by rw[aE nal];exact ea,rfl,u,[.ref p],[],[p],rfl,rfl,⟨rfl,go t1 u (At.bP hi1 au)⟩,.ref p,[],[p],[],rfl,rfl,⟨p,j6,rfl,rfl,af9,aga,agb⟩,rfl,rfl⟩⟩
end
def jS(K:qaf)(n:Nat)(G:qaj->S->(S->T->Prop)->Prop):Sp:=λvs H Q _=>∃(a:Addr)(Ox fp:qah)(s:S)(us:qaj)(ws:qak)(q:S->T->Prop),vs=.ref a::ws/\fp.Nodup/\cq K H (fp++Ox) s (.ref a) fp/\(∀b∈fp,b∉Ox)/\(∀b∈Ox,H b≠none) /\
 us.length=n/\aB K H Ox us ws/\G us s q /\
 ∀s' t,q s' t->∀v H' fp',(∀b o,H b=some o->b∉fp->H' b=some o)->fp'.Nodup->(∀b∈fp',b∈fp\/H b=none)->(∀b∈fp',b∉Ox)->cq K H' (fp'++Ox) s' (.ref a) fp'->bP t=true->At K H' [] t v->Q v H'
section
theorem IQ{st:Stmt}{N:qai}{k:Nat}{G:qaj->S->(S->T->Prop)->Prop}(F:Ew K x qual st f fd)(S:az N ps (ai st))(hn:n+1=ps.length)(hN:n+1<=N.length)(eJ:∀(bz:Value) (A:Around) (outer:List Env) (s:Shared) (H:Hp) (E:XK) (M:Mz),M.k=0->bA k (A.deeper (envOfC qual (ai st) s.heap.objs.size f bz))->∀us s0 q,G us s0 q->us.length=n ->
    ∃g,IM (gK fG P w K mg base N qual (ai st) f bz A outer s H E).qX M (bM st) g/\g {nx:=λ_ s'=>q s' .aP,rt:=λ_ s' r=>∃t,r=.vw t/\bP t=true/\q s' t} (some (.pin M.a s0.t,false)::(us.map (λt=>some (t,false))++List.replicate (N.length-(n+1)) none)) s0) :
  bY P w K mg base fG (k+1) f fd ps (jS K n G):=by
 refine F.ok S (λvs H Q E h=>?_) (λbz A outer s H vs Q E hr h=>?_);obtain⟨a,Ox,fp,s,us,ws,q,rfl,_,_,_,_,hu,hA,_⟩:=h;rw[y4,hA.length,hu];exact hn;obtain⟨a,Ox,fp,s0,us,ws,q,rfl,nd,pV,oK,ox,hu,hA,hG,kk⟩:=h;obtain⟨g,hg,hq⟩:=eJ bz A outer s H E ⟨H,fp,Ox,a,0⟩ rfl hr us s0 q hG hu;have view:At K H Ox s0.t (.ref a):=pV.view (λb hb=>bW _ hb) oK;have env:=lj (K:=K) (N:=N) (H:=H) (Ox:=Ox) (ts:=.pin a s0.t::us) (vs:=.ref a::ws) (by rw[y4,hu];exact hN) ox (aB.cons (by simp only[At];exact⟨trivial,view⟩) hA);have fin:∀(ρ:En)(s':VT.S)(σ:St)(H':Hp)(O:HD)(fp':qah)(t:T)(v:V),Mf K ⟨H,fp,Ox,a,0⟩ O fp' s' H'->bP t=true->(∃A,At K H' A t v)->q s' t->Q v H':=λρ s' σ H' O fp' t v F' hi ⟨A,av⟩ hq=>
  kk s' t hq v H' fp' (λb o e n=>(F'.kp b o e n).1) F'.nd F'.fr (λb hb=>(F'.oK b hb).2) (F'.pV.a8 λb hb=>bW _ hb) hi (At.bP hi av)
 refine⟨_,hg.h,_,s0,_,⟨⟨List.replicate N.length none,fp,⟨?_,nd,λb hb=>⟨by rw[dD];simp,oK b hb⟩,λb hb=>.inl hb,λb o e _=>⟨e,by rw[dD];simp⟩⟩,?_⟩,?_⟩,hq,⟨λρ s' σ H' S' z=>?_,λρ s' σ H' r v O fp' Of Hf F' c5 R z=>?_,λ_ _ _ _ _ z=>z.elim,λ_ _ _ _ _ z=>z.elim⟩⟩;rw[dD];exact pV;have e:=env.rebase rfl;have ln:(T.pin a s0.t::us).length=n+1:=by rw[y4,hu]
 rw[ln] at e;exact e;rfl;obtain⟨⟨O,fp',F',I'⟩,_⟩:=S';exact fin ρ s' σ H' O fp' .aP .aP F' rfl ⟨[],by simp only[At]⟩ z;obtain⟨t,rfl,hi,z⟩:=z;exact fin ρ s' σ H' O fp' t v (F'.now R.1 c5) hi ⟨_,R.2⟩ z
end
section
variable{pos:Pos}
def KJ(M:Mz)(n:Nat)(G:qaj->S->(S->T->Prop)->Prop)(fa:FA):FM:=λd ρ s=>(∀e∈ρ,gp e)/\fa ρ λus=>us.length=n/\G us s λs' _=>d.nx (mi M ρ s') s'
theorem z5{G:qaj->S->(S->T->Prop)->Prop}{s:S}{us:qaj}{ws:qak}{q:S->T->Prop}{Q:VK}{E:XK}(F:Mf K M O fp s H)(I:ay K (zf M O H) [] O ρ σ H)(hp:ρ[M.k]?=some (some (.pin M.a s.t,false)))(qo:∀e∈ρ,gp e)(hu:us.length=n)(ha:aB K H (roots O++M.Ox) us ws)(hG:G us s q)(k:∀s' t,q s' t->∀v H',nG K M (mi M ρ s') s' σ H'->bP t=true->At K H' [] t v->Q v H'):jS K n G (.ref M.a::ws) H Q E:=by
 obtain⟨ho,hσ⟩:=cY I hp;refine⟨M.a,roots O++M.Ox,fp,s,us,ws,q,rfl,F.nd,F.pV.a8 λb hb=>?_,λb hb z=>?_,I.BC,hu,ha,hG,λs' t hq v H' fp' fr nd each oK pV hi av=>?_⟩;rcases cU.mp hb with z|z
 exact bW _ (cC _ z);rcases cU.mp z with z|z
 exact cC _ z;exact bW _ (bW _ z);rcases cU.mp z with z|z
 exact (F.oK b hb).1 z;exact (F.oK b hb).2 z;refine k s' t hq v H' (F.write I qo (by rw[hp];simp) ho hσ fr (fp':=fp') (pV.a8 λb hb=>?_) nd (λb hb=>⟨λz=>oK b hb (cC _ z),λz=>oK b hb (bW _ z)⟩) λb hb=>?_) hi av;rcases cU.mp hb with z|z
 exact bW _ (cC _ z);rcases cU.mp z with z|z
 exact cC _ z;exact bW _ (bW _ z);rcases each b hb with z|z
 exact F.fr b z;cases e:M.H0 b with
 |none=>exact .inr rfl
 |some o=>refine .inl (YG λn=>?_);rw[(F.kp b o e n).1] at z;cases z
theorem gN{k:Nat}{G:qaj->S->(S->T->Prop)->Prop}{fa:FA}(Fo:bY X.prog X.w X.K X.mg X.base fG k f fd ps (jS X.K n G))(hr:bA k X.A)(hg:Gl X x)(hm:X.mg x=some (.ref f))(hk:PySem.W.keepIn X.K (.ref f)=true)(hb:Binds X.K fd ps [])(ha:∀H0,VA X ⟨H0,[],M.Ox⟩ es fa)(hN:X.N[M.k]?=some y)(hv:mZ X.env.scope y:=by first|exact Or.inl rfl|exact Or.inr (Or.inl rfl)|exact Or.inr (Or.inr rfl))(hd:jD y:=by decide)(ig:yT y:=by decide)(q_:jD x:=by decide)(he:starEach (.Name y p1::es) X.env=(false,eval (.Name y p1) X.env)::starEach es X.env:=by rfl)(jF:(backTo a5 (starEach es X.env)).any (·.1)=false:=by rfl)(hs:swapsWith (.Call (.Name x p) (.Name y p1::es) [] a5) none pos.line X.env=pure false:=by rfl) :
  MS X M (.Expr (.Call (.Name x p) (.Name y p1::es) [] a5) pos) (KJ M n G fa):=⟨λpins s' σ H D J ⟨ρ,s,d,⟨⟨O,fp,F,I⟩,hp⟩,PB,Fi⟩=>by
 obtain⟨qo,PB⟩:=PB;obtain⟨_,hσ⟩:=cY I hp;refine ng (nq Fo hr hg hm hk hb .nil lF (bD (bX hN hv hd ig) (ha (qM H (roots O)) []) he) q_ he jF) hs pins s' σ H D J ⟨.ref M.a,hσ,ρ,O,_,I,PB,λus Uc ws H1 s1 a1=>?_⟩;obtain⟨hu,hG⟩:=Uc;have I0:=I.same s1;have F1:=F.now I0 (bG I);have I1:=I0.rebase (Z:=zf M O H) rfl;rw[FD];exact z5 F1 I1 hp qo hu a1 hG λs2 t hq v H' S' _ _=>Fi.nx _ _ σ H' S' hq⟩
end
section
variable{g:FM}{pos:Pos}
def Vh(fc:FB)(g:FM):FM:=λd ρ s=>∃Pv:Nat->En->S->Prop,(∃m,Pv m ρ s)/\∀m ρ s,Pv m ρ s->fc ρ λb=>if b=true then g {d with nx:=λρ' s'=>∃m',m'<m/\Pv m' ρ' s',ct:=λρ' s'=>∃m',m'<m/\Pv m' ρ' s',bk:=d.nx} ρ s else d.nx ρ s
theorem KL{body:qaq}(hp:PassesOwn (model X.prog X.w) X.A X.env X.xe)(hc:∀H0,VC X ⟨H0,[],M.Ox⟩ c fc)(hb:IM X M body g):MS X M (.While c body [] pos) (Vh fc g):=⟨λpins s' σ H D J ⟨ρ,s,d,S0,hg,Fi⟩=>by
 obtain⟨Pv,⟨m0,p0⟩,step⟩:=hg;refine zc (tc:=λσ H Q=>∃H0,lB X ⟨H0,[],M.Ox⟩ [] fc σ H Q) hp (λpins s σ H Q I ⟨H0,h⟩=>(hc H0 []) pins s σ H Q I h) hb.h pins s' σ H D J ⟨λm σ H=>∃ρ s,nG X.K M ρ s σ H/\Pv m ρ s,⟨m0,ρ,s,S0,p0⟩,?_⟩;rintro m σ1 H1 ⟨ρ1,s1,⟨⟨O,fp,F,I⟩,hp1⟩,p1⟩;refine⟨qM H1 (roots O),ρ1,O,_,I,step m ρ1 s1 p1,λb hb H2 s2=>?_⟩;have St:nG X.K M ρ1 s1 σ1 H2:=nG.of F (bG I) (I.same s2) hp1;cases b with
 |true=>rw[if_pos rfl] at hb;dsimp only;rw[if_pos rfl];refine⟨λσ' H'=>∃m',m'<m/\∃ρ s,nG X.K M ρ s σ' H'/\Pv m' ρ s,λσ' H' z=>z,ρ1,s1,_,St,hb,?_⟩;exact⟨λρ s σ H I ⟨m',hm,p⟩=>⟨m',hm,ρ,s,I,p⟩,Fi.rt,Fi.nx,λρ s σ H I ⟨m',hm,p⟩=>⟨m',hm,ρ,s,I,p⟩⟩
 |false=>rw[if_neg jb] at hb;dsimp only;rw[if_neg jb];exact Fi.nx ρ1 s1 σ1 H2 St hb⟩
end
section
variable{k:Nat}{pos:Pos}
abbrev GV:=qaj->(qam)->Prop
end
section
variable{fe:Expr}{pos:Pos}
abbrev GM:=qaj->S->(S->T->Prop)->Prop
theorem KN{k:Nat}{Fn:Addr->GM->Prop}{tf:TE}{t:TA}(C:∀f G,Fn f G->PySem.W.keepIn X.K (.ref f)=true/\∃fd ps,Binds X.K fd ps []/\bY X.prog X.w X.K X.mg X.base fG k f fd ps (jS X.K n G))(hr:bA k X.A)(hf:PE X fe tf)(ha:PA X (e::es) t)(he:starEach (e::es) X.env=(false,eval e X.env)::starEach es X.env:=by rfl)(jF:(backTo pos (starEach es X.env)).any (·.1)=false:=by rfl)(ht:eval (.Call fe (e::es) [] pos) X.env=(do
    let f <- eval fe X.env
    callWith pos f [] (backTo pos (starEach (e::es) X.env)) (backToKw pos (keywordEach [] X.env))):=by rfl) :
  PE X (.Call fe (e::es) [] pos) (λσ H Q=>tf σ H λv H1=>∃f G,v=.ref f/\Fn f G/\t σ H1 λvs H2=>jS X.K n G (vs++[]) H2 Q E0):=by
 intro pins s σ H Q I h;rw[ht];refine wpAny_bind (cc (hf pins s σ H _ I h) λu s1 ⟨v,H1,I1,r,f,G,ev,Vi,q1⟩=>?_);subst ev;obtain rfl:u=Value.ref f:=r;obtain⟨hk,fd,ps,hb,F⟩:=C f G Vi;refine ach (h₀:=X.base) I1.ok.mod.X7 hk (cc (ha pos pins s1 σ H1 _ I1 q1) λus s2 ⟨vs,H2,I2,r2,q2⟩=>⟨I2.ue,?_⟩) he jF;exact B2 F hr hb .nil lF I2 r2 q2
def Vj(M:Mz)(n:Nat)(Fn:Addr->GM->Prop)(ff:FE)(fa:FA):FM:=λd ρ s=>(∀e∈ρ,gp e)/\ff ρ λt=>∃f G,t=.ob f/\Fn f G/\fa ρ λus=>us.length=n/\G us s λs' _=>d.nx (mi M ρ s') s'
theorem KO{k:Nat}{Fn:Addr->GM->Prop}{ff:FE}{fa:FA}(C:∀f G,Fn f G->PySem.W.keepIn X.K (.ref f)=true/\∃fd ps,Binds X.K fd ps []/\bY X.prog X.w X.K X.mg X.base fG k f fd ps (jS X.K n G))(hr:bA k X.A)(hf:∀H0,VE X ⟨H0,[],M.Ox⟩ fe ff)(ha:∀H0,VA X ⟨H0,[],M.Ox⟩ es fa)(hN:X.N[M.k]?=some y)(hv:mZ X.env.scope y:=by first|exact Or.inl rfl|exact Or.inr (Or.inl rfl)|exact Or.inr (Or.inr rfl))(hd:jD y:=by decide)(ig:yT y:=by decide)(he:starEach (.Name y p1::es) X.env=(false,eval (.Name y p1) X.env)::starEach es X.env:=by rfl)(jF:(backTo a5 (starEach es X.env)).any (·.1)=false:=by rfl)(ht:eval (.Call fe (.Name y p1::es) [] a5) X.env=(do
    let f <- eval fe X.env
    callWith a5 f [] (backTo a5 (starEach (.Name y p1::es) X.env)) (backToKw a5 (keywordEach [] X.env))):=by rfl)(hs:swapsWith (.Call fe (.Name y p1::es) [] a5) none pos.line X.env=pure false:=by rfl) :
  MS X M (.Expr (.Call fe (.Name y p1::es) [] a5) pos) (Vj M n Fn ff fa):=⟨λpins s' σ H D J ⟨ρ,s,d,⟨⟨O,fp,F,I⟩,hp⟩,PB,Fi⟩=>by
 obtain⟨qo,PB⟩:=PB;obtain⟨_,hσ⟩:=cY I hp;refine ng (KN C hr (hf (qM H (roots O)) []) (bD (bX hN hv hd ig) (ha (qM H (roots O)) []) he) he jF ht) hs pins s' σ H D J ⟨ρ,O,_,I,PB,λt htt v H0 s0 a0=>?_⟩;obtain⟨f,G,rfl,Vi,PB⟩:=htt;simp only[At] at a0;refine⟨f,G,a0,Vi,.ref M.a,hσ,ρ,O,_,I.same s0,PB,λus Uc ws H1 s1 a1=>?_⟩;obtain⟨hu,hG⟩:=Uc;have I0:=(I.same s0).same s1;have F1:=F.now I0 (bG I);have I1:=I0.rebase (Z:=zf M O H) rfl;rw[FD];exact z5 F1 I1 hp qo hu a1 hG λs2 t hq v H' S' _ _=>Fi.nx _ _ σ H' S' hq⟩
end
structure qN(K:qaf)(H0:Hp)(Ox:qah)(x C:Addr)(ns:qai)(xs:List S)(H:Hp):Prop where
 ex:∃fp,cq K H (fp++Ox) (.ins C ns xs) (.ref x) fp/\fp.Nodup/\∀b∈fp,b=x\/H0 b=none
 nx:x∉Ox
 ox:∀b∈Ox,H0 b≠none
 fr:∀b o,H0 b=some o->b≠x->H b=some o
theorem z6(f:Str)(y:V):∀(ns:qai)(vs:qak),ns.length=vs.length->f∉ns->eI f y (ns.zip vs)=(ns++[f]).zip (vs++[y])
 |[],[],_,_=>rfl
 |[],v::vs,h,_=>by simp at h
 |n::ns,[],h,_=>by simp at h
 |n::ns,v::vs,h,q=>by rw[N2];show (if n=f then (n,y)::ns.zip vs else (n,v)::eI f y (ns.zip vs))=_;rw[if_neg (λe=>q (by rw[e];exact dP)),z6 f y ns vs (by simpa using h) (λz=>q (ic _ z))];rfl
section
variable{H0:Hp}{x:Addr}{ns:qai}{xs:List S}
theorem qN.at(I:qN K H0 Ox x C ns xs H):∃dx fs,H x=some (.ins C dx fs)/\fs.length=xs.length:=by obtain⟨fp,h,_⟩:=I.ex;simp only[cq] at h;obtain⟨a,dx,vs,jd,e,hl,ha,_,hL⟩:=h;cases e;exact⟨dx,_,ha,by rw[Tp,hl,RJ,hL.length]⟩
theorem qN.add{H1:Hp}{f:Str}{z:S}{g:qah}{fs:qac}(I:qN K H0 Ox x C ns xs H)(sm:aY H H1)(hf:f∉ns)(hx:H1 x=some (.ins C dx fs))(hg:∀b∈g,H b=none)(nd:g.Nodup)(hz:∀fp:qah,(∀b∈fp,b=x\/H0 b=none)->x∈fp->(∀t w,At K H (fp++Ox) t w->At K (upd H1 x (.ins C dx (eI f v fs))) ((fp++g)++Ox) t w)->cq K (upd H1 x (.ins C dx (eI f v fs))) ((fp++g)++Ox) z v g) :
  qN K H0 Ox x C (ns++[f]) (xs++[z]) (upd H1 x (.ins C dx (eI f v fs))):=by
 obtain⟨fp,h,n,each⟩:=I.ex;have h':=h;simp only[cq] at h';obtain⟨a,dx',vs,jd,e,hl,ha,rfl,hL⟩:=h';cases e;have hx2:=sm _ _ ha;rw[hx] at hx2;cases hx2;have old:∀b∈x::jd,H b≠none:=λb hb=>by obtain⟨u,e,_⟩:=h.mut b hb;rw[e];simp
 have go:∀t w,At K H ((x::jd)++Ox) t w->At K (upd H1 x (.ins C dx (eI f v (ns.zip vs)))) (((x::jd)++g)++Ox) t w:=λt w q=>by
  have q1:At K H (((x::jd)++g)++Ox) t w:=q.more λb hb=>by
   rcases cU.mp hb with y|y
   rcases cU.mp y with y|y
   exact .inl (cC _ y);exact .inr (hg b y);exact .inl (bW _ y)
  exact (q1.same sm).wrote (cC _ (cC _ dP)) hx rfl
 have z1:=hz (x::jd) each dP go;have nxf:x∉jd:=(mW.mp n).1;have rest:bf K (upd H1 x (.ins C dx (eI f v (ns.zip vs)))) (((x::jd)++g)++Ox) xs vs jd:=hL.map go λb hb=>by obtain⟨u,e,_⟩:=bf.mut hL b hb;rw[aE (λy=>nxf (by rw[<- y];exact hb)),e];exact sm _ _ e
 refine⟨⟨(x::jd)++g,?_,?_,λb hb=>?_⟩,I.nx,I.ox,λb o e ne=>?_⟩;simp only[cq];refine⟨x,dx,vs++[v],jd++g,rfl,by simp[hl],?_,rfl,rest.snoc z1⟩;rw[aH,z6 f v ns vs hl hf];exact BG.mpr ⟨n,nd,λa ha b hb e=>by subst e;exact old a ha (hg a hb)⟩;rcases cU.mp hb with y|y
 exact each b y
 right
 cases e:H0 b with
 |none=>rfl
 |some o=>exfalso;have nb:b≠x:=λz=>old x dP (by rw[<- z];exact hg b y);have:=I.fr b o e nb;rw[hg b y] at this;cases this
 rw[aE ne];exact sm _ _ (I.fr b o e ne)
theorem qN.lf{H1:Hp}{f:Str}{t:T}{fs:qac}(I:qN K H0 Ox x C ns xs H)(hf:f∉ns)(hi:bP t=true)(a:At K H [] t v)(hx:H x=some (.ins C dx fs)):qN K H0 Ox x C (ns++[f]) (xs++[.lf t]) (upd H x (.ins C dx (eI f v fs))) :=
 I.add (z:=.lf t) (g:=[]) (λ_ _ e=>e) hf hx (λb hb=>nomatch hb) N4 λfp _ _ go=>by simp only[cq];exact⟨trivial,go t v (At.bP hi a)⟩
theorem qN.lst{f:Str}{p:Addr}{fs:qac}(I:qN K H0 Ox x C ns xs H)(hf:f∉ns)(hp:H p=none)(hx:upd H p (.lst []) x=some (.ins C dx fs)):qN K H0 Ox x C (ns++[f]) (xs++[.lst []]) (upd (upd H p (.lst [])) x (.ins C dx (eI f (.ref p) fs))) :=
 I.add (z:=.lst []) (g:=[p]) (aJ hp) hf hx (λb hb=>by rw[jV.mp hb];exact hp) (by simp) λfp _ _ go=>by
  have ne:p≠x:=λz=>by rw[z,aH] at hx;cases hx
  simp only[cq,bf];exact⟨p,[],[],rfl,by rw[aE ne,aH],rfl,rfl,rfl⟩
theorem qN.dk{f:Str}{p:Addr}{fs:qac}(I:qN K H0 Ox x C ns xs H)(hf:f∉ns)(hp:H p=none)(hx:upd H p (.dK []) x=some (.ins C dx fs)):qN K H0 Ox x C (ns++[f]) (xs++[.dk [] []]) (upd (upd H p (.dK [])) x (.ins C dx (eI f (.ref p) fs))) :=
 I.add (z:=.dk [] []) (g:=[p]) (aJ hp) hf hx (λb hb=>by rw[jV.mp hb];exact hp) (by simp) λfp _ _ go=>by
  have ne:p≠x:=λz=>by rw[z,aH] at hx;cases hx
  simp only[cq];exact⟨p,[],rfl,rfl,rfl,by rw[aE ne,aH];rfl,aB.nil⟩
theorem qN.first{H1:Hp}{f:Str}{t:T}(nx:x∉Ox)(ox:∀b∈Ox,H b≠none)(hx:H x=some (.ins C dx []))(sm:aY H H1)(a:At K H1 (x::Ox) t v):qN K H Ox x C [f] [.lf t] (upd H1 x (.ins C dx (eI f v []))):=by refine⟨⟨[x],?_,by simp,λb hb=>.inl (jV.mp hb)⟩,nx,ox,λb o e ne=>by rw[aE ne];exact sm _ _ e⟩;simp only[cq,bf];exact⟨x,dx,[v],[],rfl,rfl,aH,rfl,v,[],[],[],rfl,rfl,⟨rfl,a.wrote dP (sm _ _ hx) rfl⟩,rfl,rfl⟩
end
def mN:qai:=["layout","most","poke","frames","cells","counts","doings","place","ended"]
def zOk(cz:S):Prop:=cz=.dk [] []\/∃nh,cz=.dc nh [] []
def zO:S->Addr->HO
 |.dc nh _ _,p=>.ext (oy nh p [])
 |_,_=>.dK []
def Vk(cz:S):TE:=λ_ H Q=>∀p,H p=none->(p==sysModules)=false->Q (.ref p) (upd H p (zO cz p))
theorem z7{nh:List Key×Key->Int}{xs:List ((List Key×Key)×Addr×Value)}:∀h1 h2:Heap,oy nh a xs h1->(∀o,h1.get? a=some o->h2.get? a=some o)->oy nh a xs h2:=λh1 h2 ⟨o,es,ep,e,q⟩ k=>⟨o,es,ep,k o e,q⟩
theorem KP{pos:Pos}{cz:S}(hz:zOk cz):PE X (.Dict [] [] pos) (Vk cz):=λpins s σ H Q I h=>by
 have nm:(s.heap.objs.size==sysModules)=false:=beq_eq_false_iff_ne.mpr (Ne.symm (pJ I.big));obtain rfl|⟨nh,rfl⟩:=hz
 exact wpAny_Dict_empty ⟨.ref s.heap.objs.size,_,I.laid (a:=s.heap.objs.size) (o:=.dK []) (t':=s.toks) (λ_ _ q=>og _ q) (c_ _) (zJ s.heap I.big),rfl,h _ (I.cx.fresh (c_ _)) nm⟩;exact wpAny_Dict_empty ⟨.ref s.heap.objs.size,_,I.laid (a:=s.heap.objs.size) (o:=.ext (oy nh s.heap.objs.size [])) (t':=s.toks) (λ_ _ q=>og _ q) (c_ _) ⟨⟨_,#[],0,vy _ rfl,⟨rfl,rfl,rfl⟩,rfl,rfl,N4⟩,⟨_,vy _ rfl⟩,z7⟩,rfl,h _ (I.cx.fresh (c_ _)) nm⟩
theorem qN.cz{H0:Hp}{x:Addr}{ns:qai}{xs:List S}{cz:S}(hz:zOk cz){f:Str}{p:Addr}{fs:qac}(I:qN K H0 Ox x C ns xs H)(hf:f∉ns)(hp:H p=none)(nm:(p==sysModules)=false)(hx:upd H p (zO cz p) x=some (.ins C dx fs)):qN K H0 Ox x C (ns++[f]) (xs++[cz]) (upd (upd H p (zO cz p)) x (.ins C dx (eI f (.ref p) fs))) :=
 I.add (z:=cz) (g:=[p]) (aJ hp) hf hx (λb hb=>by rw[jV.mp hb];exact hp) (by simp) λfp _ _ go=>by
  obtain rfl|⟨nh,rfl⟩:=hz
  have ne:p≠x:=λz=>by rw[z,aH] at hx;cases hx
  simp only[cq];exact⟨p,[],rfl,rfl,rfl,by rw[aE ne,aH];rfl,aB.nil⟩;have ne:p≠x:=λz=>by rw[z,aH] at hx;cases hx
  simp only[cq];exact⟨p,[],[],rfl,rfl,by rw[aE ne,aH];rfl,rfl,nm,λx hx=>(nomatch hx),.nil,aB.nil⟩
def z8(cz:S)(L t2 t3:T):List S:=[.lf L,.lf t2,.lf t3,.lst [],cz,.dk [] [],.lst [],.lf .aP,.lf .aP]
theorem Vm(K:qaf)(H:Hp)(h:∀a∈Ox,H a≠none):ay K ⟨H,[],Ox⟩ [] [] [] [] H:=⟨rfl,rfl,λi e h=>by simp at h,N4,λa h=>absurd h gD,λp hp=>absurd hp gD,h,λb o e _=>e,λp hp=>absurd hp gD⟩
section
variable{CL:Addr}
theorem GQ{pr:T}{vp:V}{q:T->Prop}{Q:VK}(ox:∀b∈Ox,H b≠none)(a:At X.K H Ox pr vp)(hG:GL [pr] q)(k:∀L,q L->∀v H',aY H H'->At X.K H' Ox L v->Q v H') :
  ∀x dx,H x=none->H dx=none->dx≠x->Sl X.K CL 1 GL (.ref x::([vp]++[])) (upd (upd H dx (.own x)) x (.ins CL dx [])) (λv H2=>v=.aP/\Q (.ref x) H2) E0 :=
 EU (X:=X) (Z:=⟨H,[],Ox⟩) (q:=λr=>∃L,r=.fr L/\q L) (Vm X.K H ox) (aB.cons a aB.nil) rfl (by
  have e:q=λu=>∃L,Rt.fr u=Rt.fr L/\q L:=by funext u;exact propext ⟨λh=>⟨u,rfl,h⟩,λ⟨L,e,h⟩=>by cases e;exact h⟩
  rw[<- e];exact hG) λr hr v H' sm z=>by
  obtain⟨L,rfl,hL⟩:=hr;obtain⟨b,rfl,_,rt,n0,nO⟩:=z;refine k L hL _ H' sm ((rt.a8 λc hc=>?_).at nO);exact bW _ (ic _ hc)
def agc(K:qaf)(GL:qaj->(T->Prop)->Prop):TE:=λσ H Q=>∃vp pr Ox q,σ[1]?=some (some vp)/\(∀b∈Ox,H b≠none)/\At K H Ox pr vp/\GL [pr] q/\∀L,q L->∀v H',aY H H'->At K H' Ox L v->Q v H'
theorem Vn{kL:Nat}{fL:Addr}{fdL:FuncData}{psL:qai}{u1 u2 u3:Pos}(ML:Mk X.K CL fL)(FL:bY X.prog X.w X.K X.mg X.base fG kL fL fdL psL (Sl X.K CL 1 GL))(rL:bA (kL+1) X.A)(gL:Gl X "Layout")(mL:X.mg "Layout"=some (.ref CL))(bL:Binds X.K fdL psL [])(h1:X.N[1]?=some ("program":Str))(v1:mZ X.env.scope "program")(s1:starEach [.Name "program" u2] X.env=(false,eval (.Name "program" u2) X.env)::starEach [] X.env)(s2:(backTo u3 (starEach [] X.env)).any (·.1)=false):PE X (.Call (.Name "Layout" u1) [.Name "program" u2] [] u3) (agc X.K GL) :=
 PE.weak (wL ML FL rL gL mL bL .nil lF (bD (bX h1 v1 (by decide) (by decide)) c6 s1) (by decide) s1 s2) λσ H Q ⟨vp,pr,Ox,q,e1,ox,ap,hG,k⟩=>⟨vp,e1,GQ (X:=X) (Q:=Q) ox ap hG k⟩
def ac2(X:Cx)(C:Addr)(cz:S)(GL:qaj->(T->Prop)->Prop):TS:=λD σ H=>∃x dx Ox pr vp t2 v2 t3 v3 q,σ[0]?=some (some (.ref x))/\σ[1]?=some (some vp)/\σ[2]?=some (some v2)/\σ[3]?=some (some v3)/\H x=some (.ins C dx [])/\x∉Ox/\(∀b∈Ox,H b≠none) /\
 At X.K H (x::Ox) pr vp/\bP t2=true/\At X.K H [] t2 v2/\bP t3=true/\At X.K H [] t3 v3/\GL [pr] q/\∀L,q L->∀H',qN X.K H Ox x C mN (z8 cz L t2 t3) H'->D.nx σ H'
theorem ke{fs:List α}{m:Nat}(h:fs.length=n)(h2:n<1000):fs.length<1000:=by omega
theorem KQ{cz:S}(hz:zOk cz){kL:Nat}{fL:Addr}{fdL:FuncData}{psL:qai}(ML:Mk X.K CL fL)(FL:bY X.prog X.w X.K X.mg X.base fG kL fL fdL psL (Sl X.K CL 1 GL))(rL:bA (kL+1) X.A)(gL:Gl X "Layout")(mL:X.mg "Layout"=some (.ref CL))(bL:Binds X.K fdL psL [])(cl:BR X.K C)(n1:bp X.K C "layout")(n2:bp X.K C "most")(n3:bp X.K C "poke")(n4:bp X.K C "frames")(n5:bp X.K C "cells")(n6:bp X.K C "counts")(n7:bp X.K C "doings")(n8:bp X.K C "place")(n9:bp X.K C "ended"){p3 p4 p5 p6 p7 p8 p9 q1 q2 q3 q4 q5 q6 q7 q8 q9 r1 r2 r3 r4 r5 r6 r7 r8 r9 u1 u2 u3 u4 u5 u6 u7 u8 u9 u10 u11:Pos}{k8 k9}(h0:X.N[0]?=some ("self":Str):=by rfl)(h1:X.N[1]?=some ("program":Str):=by rfl)(h2:X.N[2]?=some ("most":Str):=by rfl)(h3:X.N[3]?=some ("poke":Str):=by rfl)(v0:mZ X.env.scope "self":=by exact Or.inl rfl)(v1:mZ X.env.scope "program":=by exact Or.inl rfl)(v2:mZ X.env.scope "most":=by exact Or.inl rfl)(v3:mZ X.env.scope "poke":=by exact Or.inl rfl)(s1:starEach [.Name "program" u2] X.env=(false,eval (.Name "program" u2) X.env)::starEach [] X.env:=by rfl)(s2:(backTo u3 (starEach [] X.env)).any (·.1)=false:=by rfl)(w1:swapsWith (.Call (.Name "Layout" u1) [.Name "program" u2] [] u3) (some (.Attribute (.Name "self" p1) "layout" q1)) r1.line X.env=pure false:=by rfl)(w2:swapsWith (.Name "most" u4) (some (.Attribute (.Name "self" p2) "most" q2)) r2.line X.env=pure false:=by rfl)(w3:swapsWith (.Name "poke" u5) (some (.Attribute (.Name "self" p3) "poke" q3)) r3.line X.env=pure false:=by rfl)(w4:swapsWith (.List [] u6) (some (.Attribute (.Name "self" p4) "frames" q4)) r4.line X.env=pure false:=by rfl)(w5:swapsWith (.Dict [] [] u7) (some (.Attribute (.Name "self" p5) "cells" q5)) r5.line X.env=pure false:=by rfl)(w6:swapsWith (.Dict [] [] u8) (some (.Attribute (.Name "self" p6) "counts" q6)) r6.line X.env=pure false:=by rfl)(w7:swapsWith (.List [] u9) (some (.Attribute (.Name "self" p7) "doings" q7)) r7.line X.env=pure false:=by rfl)(w8:swapsWith (.Constant .none k8 u10) (some (.Attribute (.Name "self" p8) "place" q8)) r8.line X.env=pure false:=by rfl)(w9:swapsWith (.Constant .none k9 u11) (some (.Attribute (.Name "self" p9) "ended" q9)) r9.line X.env=pure false:=by rfl) :
  jc X [.Assign [.Attribute (.Name "self" p1) "layout" q1] (.Call (.Name "Layout" u1) [.Name "program" u2] [] u3) r1,.Assign [.Attribute (.Name "self" p2) "most" q2] (.Name "most" u4) r2,.Assign [.Attribute (.Name "self" p3) "poke" q3] (.Name "poke" u5) r3,
   .Assign [.Attribute (.Name "self" p4) "frames" q4] (.List [] u6) r4,.Assign [.Attribute (.Name "self" p5) "cells" q5] (.Dict [] [] u7) r5,.Assign [.Attribute (.Name "self" p6) "counts" q6] (.Dict [] [] u8) r6,
   .Assign [.Attribute (.Name "self" p7) "doings" q7] (.List [] u9) r7,.Assign [.Attribute (.Name "self" p8) "place" q8] (.Constant .none k8 u10) r8,.Assign [.Attribute (.Name "self" p9) "ended" q9] (.Constant .none k9 u11) r9] (ac2 X C cz GL) :=
 have Sv:∀{p:Pos},PE X (.Name "self" p) (Y1 0):=λ{p}=>bX (X:=X) h0 v0 (by decide) (by decide)
 jc.jH (cV (gT Sv (Vn ML FL rL gL mL bL h1 v1 s1 s2) w1) (cV (gT Sv (bX h2 v2 (by decide) (by decide)) w2) (cV (gT Sv (bX h3 v3 (by decide) (by decide)) w3)
  (cV (gT Sv (B0 c6) w4) (cV (gT Sv (KP hz) w5) (cV (gT Sv zK w6) (cV (gT Sv (B0 c6) w7) (cV (gT Sv BJ w8) (kZ (gT Sv BJ w9)))))))))) λD σ H h=>by
  obtain⟨x,dx,Ox,pr,vp,t2,v2',t3,v3',q,e0,e1,e2,e3,hx,nx,ox,ap,i2,a2,i3,a3,hG,kk⟩:=h;have ox':∀b∈x::Ox,H b≠none:=λb hb=>by
   rcases c4.mp hb with z|z
   rw[z,hx];simp;exact ox b z
  have Sq:∀{H':Hp}{ns:qai}{xs:List S},qN X.K H Ox x C ns xs H'->∀{t:T}{v:V},bP t=true->At X.K H [] t v->At X.K H' [] t v:=λ{H' ns xs} I {t v} hi a=>At.bP hi ((At.bP (O':=[x]) hi a).frame (λb hb=>⟨.ins C dx [],by rw[jV.mp hb];exact hx,rfl⟩) λb o e n=>I.fr b o e (λz=>n (by rw[z];exact dP)));refine⟨vp,pr,x::Ox,q,e1,ox',ap,hG,λL hL v H1 sm aL=>?_⟩;refine⟨.ref x,e0,x,C,dx,[],rfl,sm _ _ hx,cl,n1,by decide,?_⟩;have I1:qN X.K H Ox x C ["layout"] [.lf L] _:=qN.first (f:="layout") nx ox hx sm aL
  obtain⟨d1,f1,g1,l1⟩:=I1.at;refine⟨v2',e2,.ref x,e0,x,C,d1,f1,rfl,g1,cl,n2,ke (n:=1) (m:=0) l1 (by decide),?_⟩;have I2:=I1.lf (H1:=H) (f:="most") (by decide) i2 (Sq I1 i2 a2) g1;obtain⟨d2,f2,g2,l2⟩:=I2.at;refine⟨v3',e3,.ref x,e0,x,C,d2,f2,rfl,g2,cl,n3,ke (n:=2) (m:=0) l2 (by decide),?_⟩;have I3:=I2.lf (H1:=H) (f:="poke") (by decide) i3 (Sq I2 i3 a3) g2;refine⟨jU _,λp4 Vo=>?_⟩;obtain⟨d3,f3,g3,l3⟩:=I3.at;refine⟨.ref x,e0,x,C,d3,f3,rfl,aJ Vo _ _ g3,cl,n4,ke (n:=3) (m:=0) l3 (by decide),?_⟩;have I4:=I3.lst (f:="frames") (by decide) Vo (aJ Vo _ _ g3);intro p5 hp5 nm5;obtain⟨d4,f4,g4,l4⟩:=I4.at;refine⟨.ref x,e0,x,C,d4,f4,rfl,aJ hp5 _ _ g4,cl,n5,ke (n:=4) (m:=0) l4 (by decide),?_⟩;have I5:=I4.cz hz (f:="cells") (by decide) hp5 nm5 (aJ hp5 _ _ g4);intro p6 hp6;obtain⟨d5,f5,g5,l5⟩:=I5.at;refine⟨.ref x,e0,x,C,d5,f5,rfl,aJ hp6 _ _ g5,cl,n6,ke (n:=5) (m:=0) l5 (by decide),?_⟩;have I6:=I5.dk (f:="counts") (by decide) hp6 (aJ hp6 _ _ g5);refine⟨jU _,λp7 hp7=>?_⟩;obtain⟨d6,f6,g6,l6⟩:=I6.at;refine⟨.ref x,e0,x,C,d6,f6,rfl,aJ hp7 _ _ g6,cl,n7,ke (n:=6) (m:=0) l6 (by decide),?_⟩;have I7:=I6.lst (f:="doings") (by decide) hp7 (aJ hp7 _ _ g6);obtain⟨d7,f7,g7,l7⟩:=I7.at;refine⟨.ref x,e0,x,C,d7,f7,rfl,g7,cl,n8,ke (n:=7) (m:=0) l7 (by decide),?_⟩;have I8:=I7.lf (H1:=H) (f:="place") (t:=.aP) (v:=.aP) (by decide) rfl (by simp only[At]) g7;obtain⟨d8,f8,g8,l8⟩:=I8.at;refine⟨.ref x,e0,x,C,d8,f8,rfl,g8,cl,n9,ke (n:=8) (m:=0) l8 (by decide),?_⟩;exact kk L hL _ (I8.lf (H1:=H) (f:="ended") (t:=.aP) (v:=.aP) (by decide) rfl (by simp only[At]) g8)
def spK(K:qaf)(C:Addr)(cz:S)(GL:qaj->(T->Prop)->Prop):Sp:=λvs H Q _=>∃x dx Ox pr vp t2 v2 t3 v3 q,vs=[.ref x,vp,v2,v3]/\H x=some (.ins C dx [])/\x∉Ox/\(∀b∈Ox,H b≠none) /\
 At K H (x::Ox) pr vp/\bP t2=true/\At K H [] t2 v2/\bP t3=true/\At K H [] t3 v3/\GL [pr] q/\∀L,q L->∀H',qN K H Ox x C mN (z8 cz L t2 t3) H'->Q .aP H'
end
section
theorem fnK{cz:S}{st:Stmt}{N:qai}{k:Nat}(F:Ew K "__init__" qual st f fd)(S:az N qav (ai st))(hN:N.length=4)(eJ:∀(bz:Value) (A:Around) (outer:List Env) (s:Shared) (H:Hp) (E:XK),bA k (A.deeper (envOfC qual (ai st) s.heap.objs.size f bz))->jc (gK fG P w K mg base N qual (ai st) f bz A outer s H E).qX (bM st) (ac2 (gK fG P w K mg base N qual (ai st) f bz A outer s H E).qX C cz GL)) :
  bY P w K mg base fG (k+1) f fd qav (spK K C cz GL):=by
 refine F.ok S (λvs H Q E h=>?_) (λbz A outer s H vs Q E hr h=>?_);obtain⟨x,dx,Ox,pr,vp,t2,v2,t3,v3,q,rfl,_⟩:=h;rfl;obtain⟨x,dx,Ox,pr,vp,t2,v2,t3,v3,q,rfl,h⟩:=h;refine⟨_,eJ bz A outer s H E hr,x,dx,Ox,pr,vp,t2,v2,t3,v3,q,?_,?_,?_,?_,h⟩<;>(unfold L2.start;rfl)
end
end VT
namespace VT
open PySem PySem.Spec PyProof.Rows L2 NK
section
variable{σ:L2.St}{s:Shared}
theorem KR(I:Inv X pins σ H s){c:CK}{b:Addr}(h:qj X.K H c b):xq X.prog X.w s.heap c b:=by
 obtain⟨d,h1,h2⟩:=h;obtain⟨a4,r,⟨o,e,ec,n,ed⟩,_⟩:=I.tuple h1;obtain⟨jts,r2,⟨o2,e2,ec2,n2,ed2⟩,_⟩:=I.tuple h2;obtain⟨u1,l1,rfl,z1,r⟩:∃u1 r1,a4=u1::r1/\RelV (.ref d) u1/\Vals [kV c.2] r1:=by cases r with|cons a b=>exact⟨_,_,rfl,a,b⟩
 obtain⟨u2,l2,rfl,z2,r⟩:∃u1 r1,l1=u1::r1/\RelV (kV c.2) u1/\Vals [] r1:=by cases r with|cons a b=>exact⟨_,_,rfl,a,b⟩
 cases r;cases (show u1=Value.ref d from z1);exact⟨o,_,n,d,u2,e,ec,ed,rfl,⟨o2,_,n2,e2,ec2,ed2,by simpa using oG r2⟩,pT z2⟩
theorem Sr(I:Inv X pins σ H s){xs:List (CK×Addr×Value)}(e:H a=some (.ext (oy (bu X.prog X.w) a xs)))(hk:∀x∈xs,qj X.K H x.1 x.2.1):s.heap.DictOfH (si X.prog X.w) a xs:=by obtain⟨⟨o,es,ep,ho,hc,hd,he,hn⟩,_⟩:=(show cH X.prog X.w H s.heap a (.ext _) from I.cx a _ e);exact⟨o,es,ep,ho,hc,hd,he,λx hx=>KR I (hk x hx),hn⟩
def ac3(H:Hp)(a:Addr):Prop:=∃nh xs,H a=some (.ext (oy nh a xs))
theorem PD(I:Inv X pins σ H s)(d:ac3 H a):s.TypeIs (.ref a) "dict"/\(∀b,Value.ref a=.ref b->∃ob,s.heap.get? b=some ob/\ob.dict=none):=by obtain⟨nh,xs,e⟩:=d;obtain⟨⟨o,es,ep,ho,hc,_⟩,_⟩:=(show cH X.prog X.w H s.heap a (.ext _) from I.cx a _ e);exact⟨⟨o,ho,hc.1⟩,λb q=>by cases q;exact⟨o,ho,hc.2.1⟩⟩
end
section
variable{f i value:Expr}{pos pos':Pos}{td ty tx tv:TE}
def ac4(X:Cx)(td ty tx:TE):TE:=λσ H Q=>td σ H λx H1=>∃a,x=.ref a/\ac3 H1 a/\ty σ H1 λy H2=>tx σ H2 λz H3=>∃xs,H3 a=some (.ext (oy (bu X.prog X.w) a xs))/\(a==sysModules)=false/\(∀x∈xs,qj X.K H3 x.1 x.2.1) /\
 ((y=.aP/\Q z H3)\/∃b c v,y=.ref b/\qj X.K H3 c b/\(match atKey xs c with|some p=>RelV v p.2|none=>v=z)/\Q v H3)
theorem KS(hu:X.A.units+3<cLine)(ho:PE X o td)(he:PE X e ty)(hf:PE X f tx)(m:M2 X o "get" apos e f a5):PE X (.Call (.Attribute o "get" apos) [e,f] [] a5) (ac4 X td ty tx):=by
 intro pins s σ H Q I h;refine wpAny_Call_method m.base m.few m.line YJ RA PySem.F.type_dict_get (cc (ho pins s σ H _ I h) λu s1 ⟨x,H1,I1,rx,a,ex,d,q1⟩=>?_);subst ex;obtain rfl:u=Value.ref a:=rx;obtain⟨t1,t2⟩:=PD I1 d;refine⟨t1,t2,?_⟩;rw[m.trees];refine YK rfl (ab9 (Th (cc (he pins s1 σ H1 _ I1 q1) λiv s2 ⟨y,H2,I2,ry,q2⟩ =>
  Th (cc (hf pins s2 σ H2 _ I2 q2) λfv s3 ⟨z,H3,I3,rz,xs,ea,nm,hk,q3⟩=>Calls.spliced_nil ?_))))
 have dd:=Sr I3 ea hk;obtain⟨rfl,q3⟩|⟨b,c,v,rfl,hb,hv,q3⟩:=q3
 cases (show iv=Value.none from ry);exact call_meetsIn RA dd.typeIs YM (YI _ _ _) (sj (P:=X.prog) (w:=X.w) a nm fv) ⟨by omega,xs,dd,λt=>⟨z,H3,I3.tok _,rz,q3⟩⟩;cases (show iv=Value.ref b from ry);refine call_meetsIn RA dd.typeIs YM (YI _ _ _) (meetsH_dict_get_default (si X.prog X.w) a b nm fv) ⟨by show X.A.units+1+2<cLine;omega,c,xs,KR I3 hb,dd,v,H3,I3.tok _,?_,q3⟩;cases e:atKey xs c with
 |none=>rw[e] at hv;subst hv;exact rz
 |some p=>rw[e] at hv;exact hv
def ac5(X:Cx)(td ty tv:TE):TS:=λD σ H=>tv σ H λv H1=>td σ H1 λx H2=>ty σ H2 λy H3=>∃a b c xs,x=.ref a/\y=.ref b/\qj X.K H3 c b/\H3 a=some (.ext (oy (bu X.prog X.w) a xs))/\(∀x∈xs,qj X.K H3 x.1 x.2.1)/\xs.length<=sizeLine /\
 ∀u,RelV v u->D.nx σ (upd H3 a (.ext (oy (bu X.prog X.w) a (storedH xs c b u))))
theorem PF(hu:X.A.units+3<cLine)(ho:PE X o td)(hi:PE X i ty)(hv:PE X value tv)(hs:swapsWith value (some (.Subscript o i pos')) pos.line X.env=pure false) :
  PS X (.Assign [.Subscript o i pos'] value pos) (ac5 X td ty tv):=by
 intro pins s σ H D I h;refine wpAny_Assign_Subscript (cc (hv pins s σ H _ I h) λr s1 ⟨v,H1,I1,rv,q1⟩=>cc (ho pins s1 σ H1 _ I1 q1) λu s2 ⟨x,H2,I2,rx,q2⟩=>cc (hi pins s2 σ H2 _ I2 q2) λiv s3 ⟨y,H3,I3,ry,a,b,c,xs,ex,ey,hb,ea,hk,hz,q3⟩=>?_) hs;subst ex ey;cases (show u=Value.ref a from rx);cases (show iv=Value.ref b from ry);refine wpAny_setItem_heap (knd:=si X.prog X.w) (hsz:=hz) (by show X.A.units+1+2<cLine;omega) (KR I3 hb) (Sr I3 ea hk) λh' hm hs'=>?_;obtain⟨o',es,ep,jP,hc,hd,he,NQ,hn⟩:=hm;refine⟨σ,_,qJ (ob:=.ext (oy (bu X.prog X.w) a (storedH xs c b r))) I3 (by rw[ea];trivial) hs' ⟨_,jP⟩ ⟨⟨o',es,ep,jP,hc,hd,he,hn⟩,⟨_,jP⟩,z7⟩,q3 r rv⟩
end
def kf{α:Type}:List CK->List α->CK->Option α
 |k::ks,t::ts,c=>if k=c then some t else kf ks ts c
 |_,_,_=>none
def GR(ks:List CK)(c:CK):Bool:=ks.any λk=>decide (k=c)
def sA(ks:List CK)(c:CK):List CK:=if GR ks c=true then ks else ks++[c]
def gE{α:Type}(ks:List CK)(ts:List α)(c:CK)(t:α):List α:=if GR ks c=true then List.zipWith (λk v=>if k=c then t else v) ks ts else ts++[t]
section
variable{A:qah}
theorem E2(c:CK):∀{xs:List (CK×Addr×Value)}{ts:qaj}{vs:qak},Vals vs (xs.map (·.2.2))->aB K H A ts vs->match atKey xs c with
  |none=>kf (xs.map (·.1)) ts c=none
  |some p=>∃t v,kf (xs.map (·.1)) ts c=some t/\At K H A t v/\RelV v p.2
 |[],ts,vs,hv,ha=>by show kf [] ts c=none;cases ts<;>rfl
 |x::xs,ts,vs,hv,ha=>by
   rw[ix] at hv;cases hv with
   |@cons v u j6 U5 r hv=>
     cases ts with
     |nil=>simp only[aB] at ha;cases ha
     |cons t ts=>
       simp only[aB] at ha;obtain⟨v',r',e,h1,h2⟩:=ha;cases e;by_cases hc:x.1=c;have e1:atKey (x::xs) c=some x.2:=by simp[atKey,NG,hc]
       rw[e1];exact⟨t,v,by rw[ix];show (if x.1=c then _ else _)=_;rw[if_pos hc],h1,r⟩;have e1:atKey (x::xs) c=atKey xs c:=by simp[atKey,NG,hc]
       have e2:kf ((x::xs).map (·.1)) (t::ts) c=kf (xs.map (·.1)) ts c:=by rw[ix];show (if x.1=c then _ else _)=_;rw[if_neg hc]
       rw[e1,e2];exact E2 c hv h2
theorem GS{xs:List (CK×Addr×Value)}{c:CK}:(atKey xs c).isSome=GR (xs.map (·.1)) c:=by
 induction xs with
 |nil=>rfl
 |cons x xs ih=>
  by_cases hc:x.1=c;simp[atKey,NG,hc,GR];have e1:atKey (x::xs) c=atKey xs c:=by simp[atKey,NG,hc]
  rw[e1,ih];simp[GR,hc]
theorem KU{c:CK}(h:iz K H A (IL c) v):∃b,v=.ref b/\qj K H c b:=by
 obtain h|⟨a,rfl,q⟩:=h
 have h':=h;unfold IL at h';simp only[At] at h';obtain⟨a,vs,rfl,_⟩:=h';exact⟨a,rfl,xv.mp h⟩;exact q.elim
theorem GU{xs:List (CK×Addr×Value)}{ts:qaj}{c:CK}{b:Addr}{t:T}(hv:Vals vs (xs.map (·.2.2)))(ha:aB K H A ts vs)(ht:At K H A t v)(ru:RelV v u) :
  sA (xs.map (·.1)) c=(storedH xs c b u).map (·.1)/\∃j6,Vals j6 ((storedH xs c b u).map (·.2.2))/\aB K H A (gE (xs.map (·.1)) ts c t) j6:=by
 unfold sA gE storedH;rw[GS];by_cases h:GR (xs.map (·.1)) c=true;rw[if_pos h,if_pos h,if_pos h];refine⟨(keys_map_putAt xs c u).symm,?_⟩;clear h;induction xs generalizing ts vs with
 |nil=>
   cases hv;cases ts with
   |nil=>exact⟨[],.nil,aB.nil⟩
   |cons t ts=>simp only[aB] at ha;obtain⟨_,_,e,_⟩:=ha;cases e
 |cons x xs ih=>
   rw[ix] at hv;cases hv with
   |@cons v0 u0 Yb us0 r hv=>
     cases ts with
     |nil=>simp only[aB] at ha;cases ha
     |cons t0 ts=>simp only[aB] at ha;obtain⟨v',r',e,h1,h2⟩:=ha;cases e;obtain⟨ws,w1,w2⟩:=ih hv h2;simp only[ix,acu];by_cases hc:x.1=c;refine⟨v::ws,.cons ?_ w1,aB.cons (by rw[if_pos hc];exact ht) w2⟩;unfold putAt;rw[if_pos hc];exact ru;refine⟨v0::ws,.cons ?_ w1,aB.cons (by rw[if_neg hc];exact h1) w2⟩;unfold putAt;rw[if_neg hc];exact r
 rw[if_neg h,if_neg h,if_neg h];refine⟨by simp,vs++[v],?_,ha.append (aB.cons ht aB.nil)⟩;rw[t_];exact Vals.append hv (.cons ru .nil)
end
section
variable{a:Expr}{fc:FE}
def fCG(nh:CK->Int)(fa fb fc:FE):FP:=λρ Q=>fa ρ λx=>match x with
 |.dc nh' ks ts=>nh'=nh/\fb ρ λy=>fc ρ λz=>(y=.aP/\Q (.vw z))\/∃c,y=IL c/\Q (.vw ((kf ks ts c).getD z))
 |_=>False
theorem Vp(hu:X.A.units+3<cLine)(ha:VR X Z a fa)(hb:VR X Z b fb)(hc:VE X Z c fc)(m:M2 X a "get" apos b c a5):VP X Z (.Call (.Attribute a "get" apos) [b,c] [] a5) (fCG (bu X.prog X.w) fa fb fc):=.mk λtm=>PE.weak (KS hu (ha tm) (hb tm) (hc tm) m) λσ H Q ⟨ρ,O,q,I,hf,k⟩ =>
 ⟨ρ,O,_,I,hf,λx hx v H1 s1 a1=>by
  split at hx
  rename_i nh ks ts
  obtain⟨rfl,hx⟩:=hx;obtain⟨l,xs,vs,rfl,hd,ek,nm,hk,hv,hl⟩:=a1.dc;refine⟨l,rfl,⟨_,_,hd⟩,ρ,O,_,I.same s1,hx,λy hy w H2 s2 a2=>⟨ρ,O,_,(I.same s1).same s2,hy,λz hz u H3 s3 a3=>?_⟩⟩;have sm:aY H1 H3:=s2.trans s3;have hk3:∀x∈xs,qj X.K H3 x.1 x.2.1:=λx hx=>let ⟨d,g1,g2⟩:=hk x hx;⟨d,fM.same sm g1,fM.same sm g2⟩;refine⟨xs,sm _ _ hd,nm,hk3,?_⟩;obtain⟨rfl,hz⟩|⟨c,rfl,hz⟩:=hz
  have e:w=.aP:=by
   obtain a2|⟨_,_,a2⟩:=a2
   simpa only[At] using a2;exact a2.elim
  exact .inl ⟨e,k _ hz _ H3 ((s1.trans s2).trans s3) ⟨((I.same s1).same s2).same s3,a3⟩⟩;obtain⟨b,rfl,kb⟩:=KU (a2.same s3);have cg:=E2 c hv (hl.same sm);refine .inr ?_;cases ea:atKey xs c with
  |none=>rw[ea] at cg;rw[ek,cg] at hz;exact⟨b,c,u,rfl,kb,by rw[ea],k _ hz _ H3 ((s1.trans s2).trans s3) ⟨((I.same s1).same s2).same s3,a3⟩⟩
  |some p=>rw[ea] at cg;obtain⟨t,v',e1,e2,e3⟩:=cg;rw[ek,e1] at hz;exact⟨b,c,v',rfl,kb,by rw[ea];exact e3,k _ hz _ H3 ((s1.trans s2).trans s3) ⟨((I.same s1).same s2).same s3,e2⟩⟩
  exact hx.elim⟩
end
section
variable{i:Expr}{ps:List mf}{pos:Pos}
def ac6(M:Mz)(nh:CK->Int)(ps:List mf)(fi fe:FE):FM:=λd ρ s=>fe ρ λt=>(∃x,s.get ps=some x)/\fi ρ λj=>∃c,j=IL c/\bP t=true/\(∀e∈ρ,gp e)/\∃ks ts,s.get ps=some (.dc nh ks ts)/\ts.length<16777216 /\
 d.nx (mi M ρ (s.put ps (.dc nh (sA ks c) (gE ks ts c t)))) (s.put ps (.dc nh (sA ks c) (gE ks ts c t)))
theorem PH{fi:FE}(hu:X.A.units+3<cLine)(ho:PE X o (j' M.k ps))(hi:∀H0,VR X ⟨H0,[],M.Ox⟩ i fi)(he:∀H0,VE X ⟨H0,[],M.Ox⟩ e fe)(hs:swapsWith e (some (.Subscript o i gu)) pos.line X.env=pure false:=by rfl) :
  MS X M (.Assign [.Subscript o i gu] e pos) (ac6 M (bu X.prog X.w) ps fi fe):=⟨λpins s' σ H D J ⟨ρ,s,d,⟨⟨O,fp,F,I⟩,hp⟩,hg,Fi⟩=>by
 refine PF hu ho (hi (qM H (roots O)) []) (he (qM H (roots O)) []) hs pins s' σ H D J ⟨ρ,O,_,I,hg,λt ht v H1 s1 a1=>?_⟩;obtain⟨⟨x,hx⟩,ht⟩:=ht;obtain⟨w,_,_,_,_,ev,_,_⟩:=(F.now (I.same s1) (bG I)).pV.focus hx;obtain⟨_,hσ⟩:=cY I hp;refine⟨.ref M.a,w,hσ,ev,ρ,O,_,I.same s1,ht,λj hj w' H2 s2 a2=>?_⟩;obtain⟨c,rfl,KC,qo,ks,ts,GO,hlen,hq⟩:=hj;have I0:=(I.same s1).same s2;have F2:=F.now I0 (bG I);have I2:=I0.rebase (Z:=zf M O H) rfl;obtain⟨w2,f',KD,hS,sub,nd,wr⟩:=F2.put (ps:=ps) I2 hp qo GO;rw[g_ s2 ev] at KD;cases KD;have zZ:=hS;simp only[cq] at zZ;obtain⟨l,xs,vs,rfl,rfl,h3,ek,nm,hk,hv,hl⟩:=zZ;obtain⟨b,rfl,kb⟩:=KU a2;have hz:xs.length<=sizeLine:=by have e1:=hv.length;have e2:=hl.length;rw[c3] at e1;rw[sizeLine_eq];omega
 have hA:l∈roots O++(fp++M.Ox):=bW _ (cC _ (sub _ dP));refine⟨l,b,c,xs,rfl,rfl,kb,h3,λx hx=>xv.mp (hk x hx),hz,λu ru=>?_⟩;obtain⟨e1,j6,e2,e3⟩:=GU (b:=b) (c:=c) hv hl (At.bP KC (a1.same s2)) ru;subst ek;refine Fi.nx _ _ σ _ (wr (y:=.dc (bu X.prog X.w) (sA (xs.map (·.1)) c) (gE (xs.map (·.1)) ts c t)) dP ?_) hq;simp only[cq];refine⟨l,_,j6,rfl,rfl,aH,e1,nm,λx hx=>?_,e2,aB.wrote hA h3 rfl e3⟩;unfold storedH at hx;split at hx;obtain⟨y,hy,rfl⟩:=vz.mp hx;have e4:(putAt c u y).1=y.1/\(putAt c u y).2.1=y.2.1:=by unfold putAt;split<;>exact⟨rfl,rfl⟩
 rw[e4.1,e4.2];exact (hk y hy).wrote hA h3 rfl;rcases cU.mp hx with hx|hx
 exact (hk x hx).wrote hA h3 rfl;rw[jV.mp hx];exact (xv.mpr kb).wrote hA h3 rfl⟩
end
end VT
namespace VT
open PySem PySem.Spec PyProof.Rows L2
structure vV(K:qaf)(H H':Hp)(us:qaj)(u:T)(p l:Addr):Prop where
 same:aY H H'
 tup:∃v,H' p=some (.tup [.ref l,v])/\At K H' [] u v
 new:H l=none
 lst:∃vs,H' l=some (.lst vs)/\aB K H' [] us vs
 i1:eD us=true
 i2:bP u=true
def Yf(K:qaf)(n:Nat)(G:qaj->(qaj->T->Prop)->Prop):Sp:=λvs H Q _=>∃ts Ox q,(∀a∈Ox,H a≠none)/\aB K H Ox ts vs/\ts.length=n/\G ts q /\
 ∀us u,q us u->∀p l H',vV K H H' us u p l->Q (.ref p) H'
abbrev Ss:=Sn->(qaj->T->Prop)->En->S->Prop
structure DpM(K:qaf)(M:Mz)(us:qaj)(u:T)(p l:Addr)(H':Hp):Prop where
 kp:∀b o,M.H0 b=some o->b∉M.vK->H' b=some o
 own:l∈M.vK\/M.H0 l=none
 tup:∃v,H' p=some (.tup [.ref l,v])/\At K H' [] u v
 lst:∃vs,H' l=some (.lst vs)/\aB K H' [] us vs
 i1:eD us=true
 i2:bP u=true
def lMD(X:Cx)(M:Mz)(g:Ss):TS:=λD σ H=>∃ρ s d dp,nG X.K M ρ s σ H/\g d dp ρ s/\Va X.K M d D/\∀us u,dp us u->∀p l H',DpM X.K M us u p l H'->D.rt (.ref p) H'
def PJ(X:Cx)(M:Mz)(st:qaq)(g:Ss):Prop:=Bm (jc X st (lMD X M g))
section
variable{st:Stmt}{rest:qaq}{g:FM}{u:Ss}{pos:Pos}
def Su(g:FM)(u:Ss):Ss:=λd dp ρ s=>g {d with nx:=u d dp} ρ s
theorem sC(h1:MS X M st g)(h2:PJ X M rest u):PJ X M (st::rest) (Su g u):=⟨jc.jH (cV h1.h h2.h) λD σ H ⟨ρ,s,d,dp,I,h,F,q⟩ =>
 ⟨ρ,s,{d with nx:=u d dp},I,h,⟨λρ' s' σ' H' I' h'=>⟨ρ',s',d,dp,I',h',F,q⟩,F.rt,F.bk,F.ct⟩⟩⟩
def ac7(ps:List mf)(fe:FE):Ss:=λ_ dp ρ s=>∃ys:qaj,s.get ps=some (.lst (ys.map .lf))/\eD ys=true/\fe ρ λu=>bP u=true/\dp ys u
theorem bf.lfs{K:qaf}{H:Hp}{A:qah}:∀{ys:qaj}{vs:qak}{fp:qah},bf K H A (ys.map .lf) vs fp->aB K H A ys vs
 |[],vs,fp,h=>by simp only[N6,bf] at h;rw[h.1];exact aB.nil
 |y::ys,vs,fp,h=>by simp only[ix,bf,cq] at h;obtain⟨v,r,f,g,rfl,rfl,⟨_,h1⟩,h2⟩:=h;exact aB.cons h1 (bf.lfs h2)
theorem PK{ps:List mf}{x1}{pos:Pos}(ho:PE X o (j' M.k ps))(he:∀H0,VE X ⟨H0,[],M.Ox⟩ e fe)(s1:starEach [o,e] X.env=(false,eval o X.env)::starEach [e] X.env:=by rfl)(s2:starEach [e] X.env=(false,eval e X.env)::starEach [] X.env:=by rfl) :
  PJ X M [.Return (some (.Tuple [o,e] x1 p)) pos] (ac7 ps fe):=⟨λpins s' σ H D J ⟨ρ,s,d,dp,⟨⟨O,fp,F,I⟩,hp⟩,hg,Fi,dpk⟩=>by
 obtain⟨ys,GO,hys,hg⟩:=hg;obtain⟨w,f1,f,f2,Co,ev,hS0,_⟩:=F.pV.focus GO;have z4:=hS0;simp only[cq] at z4;obtain⟨l,xs,jd,rfl,hl,rfl,hL⟩:=z4;obtain⟨_,hσ⟩:=cY I hp;refine kZ (wI (BZ (bD ho (bD (he (qM H (roots O)) []) c6 s2) s1))) pins s' σ H D J ⟨.ref M.a,.ref l,hσ,ev,ρ,O,_,I,hg,λt ht v H1 sm a1=>⟨by rw[sizeLine_eq];simp,λp Up=>?_⟩⟩;obtain⟨hi,hq⟩:=ht;have I0:=I.same sm;have F1:=F.now I0 (bG I);have sp:aY H1 (upd H1 p (.tup [.ref l,v])):=aJ Up;have hlf:l∈fp:=by rw[Co];simp
 refine dpk ys t hq p l _ ⟨λb o e n=>sp _ _ (F1.kp b o e n).1,F1.fr l hlf,⟨v,aH,At.bP hi (a1.same sp)⟩,⟨xs,sp _ _ (sm _ _ hl),?_⟩,hys,hi⟩;exact aB.bP hys ((hL.lfs.same sm).same sp)⟩
def Sw(X:Cx)(k:Nat)(C:Addr)(cz:S)(GL:qaj->(T->Prop)->Prop)(g:Hp->qah->qah->Addr->Ss):TS:=λD σ H=>∃ρ Ox pr t2 t3 q,ay X.K ⟨H,[],Ox⟩ [] (List.replicate X.N.length none) ρ σ H/\k<ρ.length/\ρ[0]?=some (some (pr,false))/\ρ[2]?=some (some (t2,false))/\ρ[3]?=some (some (t3,false)) /\
 bP t2=true/\bP t3=true/\GL [pr] q/\∀L,q L->∀H0 vK a,∃dp,g H0 vK Ox a {nx:=λ_ _=>False,rt:=λ_ _ _=>False} dp (ρ.set k (some (.pin a (S.ins C mN (z8 cz L t2 t3)).t,false))) (.ins C mN (z8 cz L t2 t3))/\∀us u,dp us u->∀p l H',vV X.K H H' us u p l->D.rt (.ref p) H'
theorem KW{cz:S}{k kC:Nat}{fI:Addr}{fdI:FuncData}{g:Hp->qah->qah->Addr->Ss}{px pC e1 e2 e3 pc:Pos}(hN:X.N.Nodup)(hk:X.N[k]?=some x)(hx:Loc X.env.scope x)(MI:Mk X.K C fI)(FI:bY X.prog X.w X.K X.mg X.base fG kC fI fdI qav (spK X.K C cz GL))(rI:bA (kC+1) X.A)(gI:Gl X "Machine")(mI:X.mg "Machine"=some (.ref C))(bI:Binds X.K fdI qav [])(KY:∀H0 vK Ox a,PJ X ⟨H0,vK,Ox,a,k⟩ rest (g H0 vK Ox a))(h0:X.N[0]?=some ("program":Str):=by rfl)(h2:X.N[2]?=some ("most":Str):=by rfl)(h3:X.N[3]?=some ("poke":Str):=by rfl)(v0:mZ X.env.scope "program":=by exact Or.inl rfl)(v2:mZ X.env.scope "most":=by exact Or.inl rfl)(v3:mZ X.env.scope "poke":=by exact Or.inl rfl)(s1:starEach [.Name "program" e1,.Name "most" e2,.Name "poke" e3] X.env=(false,eval (.Name "program" e1) X.env)::starEach [.Name "most" e2,.Name "poke" e3] X.env:=by rfl)(s2:starEach [.Name "most" e2,.Name "poke" e3] X.env=(false,eval (.Name "most" e2) X.env)::starEach [.Name "poke" e3] X.env:=by rfl)(s3:starEach [.Name "poke" e3] X.env=(false,eval (.Name "poke" e3) X.env)::starEach [] X.env:=by rfl)(s4:(backTo pc (starEach [.Name "most" e2,.Name "poke" e3] X.env)).any (·.1)=false:=by rfl)(hs:swapsWith (.Call (.Name "Machine" pC) [.Name "program" e1,.Name "most" e2,.Name "poke" e3] [] pc) (some (.Name x px)) p1.line X.env=pure false:=by rfl)(hf:X.fn x=true\/X.env.scope.names.lookup x=some .local:=by first|exact .inl rfl|exact .inr rfl|assumption) :
  jc X (.Assign [.Name x px] (.Call (.Name "Machine" pC) [.Name "program" e1,.Name "most" e2,.Name "poke" e3] [] pc) p1::rest) (Sw X k C cz GL g):=λpins s' σ H D J ⟨ρ,Ox,pr,t2,t3,q,I,Yg,i0,i2,i3,m2,m3,hG,kk⟩=>by
 obtain⟨_,_,_,z0,rfl,w0,rfl,a0⟩:=I.sl 0 _ i0;obtain⟨_,_,_,z2,rfl,w2,rfl,a2⟩:=I.sl 2 _ i2;obtain⟨_,_,_,z3,rfl,w3,rfl,a3⟩:=I.sl 3 _ i3;have ea:av ⟨H,[],Ox⟩ (List.replicate X.N.length none)=Ox:=by unfold av;rw[dD];rfl
 rw[ea] at a0 a2 a3;have ro:roots ((List.replicate X.N.length (none:qar)).set k none)=[]:=by
  have:(List.replicate X.N.length (none:qar)).set k none=List.replicate X.N.length none:=by
   refine RE λi=>?_;rw[YR];split
   rename_i e;subst e;rw[Fz,BB]
   rfl
  rw[this];exact dD _
 refine cV (wJ hN hk hx (wL MI FI rI gI mI bI .nil lF (bD (bX h0 v0 (by decide) (by decide)) (bD (bX h2 v2 (by decide) (by decide)) (bD (bX h3 v3 (by decide) (by decide)) c6 s3) s2) s1) (by decide) s1 s4) hs hf)
  (t:=_) (u:=λD σ1 H1=>∃fp a,lMD X ⟨H1,fp,Ox,a,k⟩ (g H1 fp Ox a) D σ1 H1) (λpins s σ1 H1 D1 J1 ⟨fp,a,h⟩=>(KY H1 fp Ox a).h pins s σ1 H1 D1 J1 h) pins s' σ H D J ⟨w0,z0,w2,z2,w3,z3,λa dx na ndx ik=>?_⟩
 have nO:a∉Ox:=λz=>I.ox a z na;have s0:aY H (upd (upd H dx (.own a)) a (.ins C dx [])):=λb o e=>by rw[aE (bo e na),aE (bo e ndx)];exact e
 refine⟨a,dx,Ox,pr,w0,t2,w2,t3,w3,q,rfl,aH,nO,λb hb=>?_,(a0.more λb hb=>?_).same s0,m2,At.bP m2 (a2.same s0),m3,At.bP m3 (a3.same s0),hG,λL hL H1 In=>⟨rfl,?_⟩⟩;cases e:H b with
 |none=>exact absurd e (I.ox b hb)
 |some o=>rw[s0 _ _ e];simp
 rcases c4.mp hb with z|z
 exact .inr (by rw[z];exact na);exact .inl z;obtain⟨fp,hS,nd,each⟩:=In.ex;have ne:∀b∈fp,H b=none:=λb hb=>by
  rcases each b hb with z|z
  rw[z];exact na;cases e:H b with
  |none=>rfl
  |some o=>rw[s0 _ _ e] at z;cases z
 have sm:aY H H1:=λb o e=>In.fr b o (s0 _ _ e) (bo e na);have oK:∀b∈fp,b∉Ox:=λb hb z=>I.ox b z (ne b hb);have view:At X.K H1 Ox (S.ins C mN (z8 cz L t2 t3)).t (.ref a):=hS.view (λb hb=>bW _ hb) oK;obtain⟨dp,hg,hd⟩:=kk L hL H1 fp a;have J1:=(I.same sm).put (i:=k) (t:=.pin a (S.ins C mN (z8 cz L t2 t3)).t) (v:=.ref a) (λp hp=>absurd hp gD) (by rw[ea];simp only[At];exact⟨trivial,view⟩);refine⟨fp,a,_,_,_,dp,⟨⟨_,fp,⟨?_,nd,λb hb=>⟨by rw[ro];simp,oK b hb⟩,λb hb=>.inl hb,λb o e n=>⟨e,by rw[ro];simp⟩⟩,J1.rebase (Z:=⟨H,[],Ox⟩) rfl⟩,?_⟩,hg,⟨λ_ _ _ _ _ z=>z.elim,λ_ _ _ _ _ _ _ _ _ _ _ _ _ z=>z.elim,λ_ _ _ _ _ z=>z.elim,λ_ _ _ _ _ z=>z.elim⟩,λus u hu p l H' DM=>hd us u hu p l H' ⟨λb o e=>DM.kp b o (sm _ _ e) (λz=>by rw[ne b z] at e;cases e),DM.tup,?_,DM.lst,DM.i1,DM.i2⟩⟩;rw[ro];exact hS;exact Ee Yg;obtain z|z:=DM.own
 exact ne l z;cases e:H l with
 |none=>rfl
 |some o=>have z':H1 l=none:=z;rw[sm _ _ e] at z';cases z'
end
section
theorem fnR{cz:S}{st:Stmt}{N:qai}{k:Nat}{G:qaj->(qaj->T->Prop)->Prop}(F:Ew K x qual st f fd)(Sc:az N ps (ai st))(hn:4=ps.length)(hN:4<=N.length)(eJ:∀(bz:Value) (A:Around) (outer:List Env) (s:Shared) (H:Hp) (E:XK),bA k (A.deeper (envOfC qual (ai st) s.heap.objs.size f bz))->∀t0 t1 t2 t3 q,G [t0,t1,t2,t3] q->∃g qL,jc (gK fG P w K mg base N qual (ai st) f bz A outer s H E).qX (bM st) (Sw (gK fG P w K mg base N qual (ai st) f bz A outer s H E).qX j C cz GL g)/\j<N.length/\bP t2=true/\bP t3=true/\GL [t0] qL /\
    ∀L,qL L->∀H0 vK Ox a,g H0 vK Ox a {nx:=λ_ _=>False,rt:=λ_ _ _=>False} q ((some (t0,false)::some (t1,false)::some (t2,false)::some (t3,false)::List.replicate (N.length-4) none:En).set j (some (.pin a (S.ins C mN (z8 cz L t2 t3)).t,false))) (.ins C mN (z8 cz L t2 t3))) :
  bY P w K mg base fG (k+1) f fd ps (Yf K 4 G):=by
 refine F.ok Sc (λvs H Q E h=>?_) (λbz A outer s H vs Q E hr h=>?_);obtain⟨ts,Ox,q,_,ha,hl,_⟩:=h;rw[ha.length,hl,hn];obtain⟨ts,Ox,q,ox,ha,hl,hG,kk⟩:=h
 match ts,hl with
 |[t0,t1,t2,t3],_=>obtain⟨g,qL,hP,hj,m2,m3,hL,hg⟩:=eJ bz A outer s H E hr t0 t1 t2 t3 q hG;refine⟨_,hP,_,Ox,t0,t2,t3,qL,lj (N:=N) (ts:=[t0,t1,t2,t3]) hN ox ha,?_,rfl,rfl,rfl,m2,m3,hL,λL hq H0 vK a=>⟨q,hg L hq H0 vK Ox a,λus u hu p l H' D=>kk us u hu p l H' D⟩⟩;show j<(_::_::_::_::List.replicate (N.length-4) none:En).length;simp only[y4,BB];omega
end
structure KZ(K:qaf)(x qual:Str)(st:Stmt)(f:Addr)(fd:FuncData):Prop where
 ex:∃(oc:Value)(od:qar)(dV kV doc pm:Value)(an:qar)(bz ct:Value)(F8:Array (Option Value)),
  fd=PySem.W.fnOf x qual (dm st) (bM st) (ai st) dV kV doc pm an bz ct/\K.lookup f=some ⟨oc,od,.func fd,F8⟩/\PySem.W.codeIn K bz qual=true
 kp:PySem.W.keepIn K (.ref f)=true
section
theorem KZ.ok{st:Stmt}{N:qai}{k:Nat}(F:KZ K x qual st f fd)(S:az N ps (ai st))(len:∀vs H Q E,sp vs H Q E->vs.length=ps.length)(eJ:∀(bz:Value) (A:Around) (outer:List Env) (s:Shared) (H:Hp) (vs:qak) (Q:VK) (E:XK),bA k (A.deeper (envOfC qual (ai st) s.heap.objs.size f bz))->sp vs H Q E ->
    ∃t,jc (gK fG P w K mg base N qual (ai st) f bz A outer s H E).qX (bM st) t/\t {nx:=λ_ H'=>Q .aP H',rt:=Q} (start N vs) H):bY P w K mg base fG (k+1) f fd ps sp:=by
 obtain⟨oc,od,dV,kV,doc,pm,an,bz,ct,F8,rfl,lk,ig⟩:=F.ex;refine RT lk ig S len λA outer s H vs Q E hr NM=>?_;obtain⟨t,h,q⟩:=eJ bz A outer s H vs Q E hr NM;exact⟨t,h.qX,q⟩
end
section
variable{k:Nat}{G:qaj->(qaj->T->Prop)->Prop}{pos:Pos}{ds:qag}{wK:qak}{dts:qaj}
def lDR(X:Cx)(Z:Zc)(tm:qab)(f:En->(qaj->T->Prop)->Prop):TE:=λσ H Q=>∃ρ O q,ay X.K Z tm O ρ σ H/\f ρ q/\∀us u,q us u->∀p l H',vV X.K H H' us u p l->Q (.ref p) H'
def NR(X:Cx)(Z:Zc)(e:Expr)(f:En->(qaj->T->Prop)->Prop):Prop:=Bx λtm=>PE X e (lDR X Z tm f)
instance{X:Cx}{Z:Zc}{e:Expr}{f:En->(qaj->T->Prop)->Prop}:CoeFun (NR X Z e f) λ_=>∀tm,PE X e (lDR X Z tm f):=⟨λh=>Bx.h h⟩
def K0(n:Nat)(dts:qaj)(g:FA)(G:qaj->(qaj->T->Prop)->Prop):En->(qaj->T->Prop)->Prop:=λρ Q=>g ρ λts=>(ts++dts).length=n/\G (ts++dts) Q
theorem kg(F:bY X.prog X.w X.K X.mg X.base fG k f fd ps (Yf X.K n G))(hr:bA k X.A)(hg:Gl X x)(hm:X.mg x=some (.ref f))(hk:PySem.W.keepIn X.K (.ref f)=true)(hb:Binds X.K fd ps ds)(hd:Vals wK ds)(hdt:∀H A,aB X.K H A dts wK)(ha:VA X Z (e::es) g)(q_:jD x:=by decide)(he:starEach (e::es) X.env=(false,eval e X.env)::starEach es X.env:=by rfl)(jF:(backTo pos (starEach es X.env)).any (·.1)=false:=by rfl) :
  NR X Z (.Call (.Name x p) (e::es) [] pos) (K0 n dts g G):=.mk λtm=>PE.weak (nq F hr hg hm hk hb hd lF (ha tm) q_ he jF) λσ H Q ⟨ρ,O,q,I,hf,k⟩ =>
 ⟨ρ,O,_,I,hf,λts gw vs H1 s1 a1=>by
   refine⟨ts++dts,av Z O,q,(I.same s1).BC,a1.append (hdt H1 _),gw.1,gw.2,λus u hu p l H' D=>k us u hu p l H' ⟨s1.trans D.same,D.tup,?_,D.lst,D.i1,D.i2⟩⟩;cases z:H l with
   |none=>rfl
   |some o=>have:=D.new;rw[s1 _ _ z] at this;cases this⟩
theorem vV.at{tm:qab}{us:qaj}{u:T}{p l:Addr}(I:ay K Z tm O ρ σ H)(D:vV K H H' us u p l):At K H' (av Z O) (.tup [.lst us,u]) (.ref p):=by obtain⟨v,h1,h2⟩:=D.tup;obtain⟨vs,h3,h4⟩:=D.lst;refine cA (fM.of h1) (aB.cons ?_ (aB.cons (At.bP D.i2 h2) aB.nil));simp only[At];exact⟨l,vs,rfl,.inl ⟨.inl h3,λz=>I.BC _ z D.new⟩,aB.bP D.i1 h4⟩
def Sx(f:En->(qaj->T->Prop)->Prop):FP:=λρ Q=>f ρ λus u=>Q (.vw (.tup [.lst us,u]))
theorem NR.vp{f:En->(qaj->T->Prop)->Prop}(h:NR X Z e f):VP X Z e (Sx f):=.mk λtm=>PE.weak (h tm) λσ H Q ⟨ρ,O,q,I,hf,k⟩ =>
 ⟨ρ,O,λus u=>q (.vw (.tup [.lst us,u])),I,hf,λus u hu p l H' D=>k _ hu _ H' D.same ⟨I.same D.same,D.at I⟩⟩
theorem K1{f:En->(qaj->T->Prop)->Prop}{pos:Pos}(h:NR X Z e f):jc X [.Return (some e) pos] (λD σ H=>∃ρ O q,ay X.K Z [] O ρ σ H/\f ρ q/\∀us u,q us u->∀p l H',vV X.K H H' us u p l->D.rt (.ref p) H') :=
 kZ (wI (h []))
end
section
theorem agd{st:Stmt}{N:qai}{k:Nat}{G:qaj->(qaj->T->Prop)->Prop}(F:KZ K x qual st f fd)(S:az N ps (ai st))(hn:n=ps.length)(hN:n<=N.length)(eJ:∀(bz:Value) (A:Around) (outer:List Env) (s:Shared) (H:Hp) (E:XK) (Ox:qah),bA k (A.deeper (envOfC qual (ai st) s.heap.objs.size f bz))->∀ts q,G ts q->ts.length=n->∃e pos f',bM st=[.Return (some e) pos]/\NR (gK fG P w K mg base N qual (ai st) f bz A outer s H E).qX ⟨H,[],Ox⟩ e f'/\f' (ts.map (λt=>some (t,false))++List.replicate (N.length-ts.length) none) q) :
  bY P w K mg base fG (k+1) f fd ps (Yf K n G):=by
 refine F.ok S (λvs H Q E h=>?_) (λbz A outer s H vs Q E hr h=>?_);obtain⟨ts,Ox,q,_,ha,hl,_⟩:=h;rw[ha.length,hl,hn];obtain⟨ts,Ox,q,ox,ha,hl,hG,kk⟩:=h;obtain⟨e,pos,f',hb,hV,hf⟩:=eJ bz A outer s H E Ox hr ts q hG hl;rw[hb];exact⟨_,K1 hV,_,_,q,lj (by omega) ox ha,hf,kk⟩
end
end VT
namespace VT
open PySem PySem.Spec PyProof.Rows L2
open AutoSeq1 (wpAny_loadPart')
theorem GW(b:Addr)(xs:Array Value)(m:Nat)(dq:qar)(sq:Array (Option Value)) :
  Meets (Builtin.«enumerate.__new__» ⟨[.type "enumerate",.ref b],[]⟩) (λ_ R s=>s.heap.get? b=some ⟨.type "tuple",dq,.seq xs m,sq⟩ /\
   R (.ok (.ret (.ref (s.heap.push {cls:=.type "tuple_iterator",data:=.fields #[.ref b,.int 0 0]}).objs.size)))
    {s with heap:=(s.heap.push {cls:=.type "tuple_iterator",data:=.fields #[.ref b,.int 0 0]}).push ⟨.type "enumerate",none,.fields #[.none,.bool false,.ref s.heap.objs.size,rawInt 0,.none,.none],#[]⟩}) :=
 .of_wp λprog w A R s ⟨hb,k⟩=>by
  obtain⟨h0,g0,d0,t0,os0⟩:=s;have aha:=sub_enumerate;have hT:Heap.IsTuple (Shared.heap ⟨h0,g0,d0,t0,os0⟩) b xs:=⟨_,hb,rfl,m,rfl⟩
  wp_walk using wpAny_loadPart' hb
  refine wpAny_stack_any λst=>wpAny_pure ?_;split
  rename_i c _ _ _ _ _
  cases (c==Value.type "enumerate")<;>(wp_walk using wpAny_loadPart' hb,wpAny_pyIter_tuple hT)<;>exact⟨_,rfl,k⟩
  wp_walk using wpAny_loadPart' hb,wpAny_pyIter_tuple hT
  exact⟨_,rfl,k⟩
section
variable{s:Shared}
theorem K2{b:Addr}{xs:Array Value}(hT:s.heap.IsTuple b xs)(k:∀h',IsEnum h' (s.heap.objs.size+1) s.heap.objs.size 0 .none->h'.IsTupleIter s.heap.objs.size b 0->(∀c o,s.heap.get? c=some o->h'.get? c=some o)->Q (.ref (s.heap.objs.size+1)) {s with heap:=h'}) :
  wpAny (model prog w) A (call (.type "enumerate") [.ref b]) Q E s:=by
 obtain⟨⟨c,dq,dt,sq⟩,hb,hc,m,hd⟩:=hT;have e1:c=.type "tuple":=hc;have e2:dt=.seq xs m:=hd;subst e1 e2;refine callType_new F.called_enumerate (by decide) (F.typeCall_enumerate_1 _) (F.newCall_enumerate_1 _) (λobj=>F.args_object_init_2 obj _) F.entry_enumerate_new (GW b xs m dq sq) ⟨hb,?_⟩;have z1:(s.heap.push {cls:=.type "tuple_iterator",data:=.fields #[.ref b,.int 0 0]}).objs.size=s.heap.objs.size+1:=YW ..;have z2:IsEnum ((s.heap.push {cls:=.type "tuple_iterator",data:=.fields #[.ref b,.int 0 0]}).push ⟨.type "enumerate",none,.fields #[.none,.bool false,.ref s.heap.objs.size,rawInt 0,.none,.none],#[]⟩) (s.heap.objs.size+1) s.heap.objs.size 0 .none:=by rw[<- z1];exact vy _ rfl
 show _/\_;rw[z1];exact⟨⟨_,z2,rfl⟩,k _ z2 ⟨_,og _ (vy _ rfl),rfl,rfl⟩ λc o q=>og _ (og _ q)⟩
theorem Cq{j b:Addr}{xs:Array Value}{y:Value}(hj:s.heap.IsTupleIter j b n)(hb:s.heap.IsTuple b xs)(hy:xs[n]?=some y)(k:∀h',h'.IsTupleIter j b (n+1)->Heap.SameBut j s.heap h'->Q y {s with heap:=h'}):wpAny (model prog w) A (Builtin.SmallTypes.nextOf (.ref j)) Q E s:=by obtain⟨u,g1,g2,g3⟩:=id hj;obtain⟨v,f1,_,q,f2⟩:=hb;unfold Builtin.SmallTypes.nextOf;refine wpAny_bind (wpAny_callSpecial?_slot (name:=Str.ofString "__next__") hj.typeIs abN (wpAny_call_entry abN hj.typeIs F.entry_tuple_iterator_next ?_ (F.args_tuple_iterator_next_1 _)));show wpAny _ _ (field (.ref j) 0 >>= _) _ _ s;refine wpAny_bind (wpAny_field g1 g3 (x:=.ref b) rfl ?_);show wpAny _ _ (if (Value.ref b==Value.none)=true then _ else _) _ _ s;rw[if_neg (show ¬ ((Value.ref b==Value.none)=true) from jb)];show wpAny _ _ (field (.ref j) 1 >>= _) _ _ s;refine wpAny_bind (wpAny_field g1 g3 (x:=.int n 0) rfl ?_);show wpAny _ _ (seqItems? (.ref b) >>= _) _ _ s;refine wpAny_bind (wpAny_seqItems f1 f2 ?_);simp only[yV,hy];refine wpAny_bind (wpAny_setField g1 g3 (by simp) (wpAny_pure ⟨y,rfl,wpAny_pure (k _ ⟨_,Heap.get?_update_self _ g1 (Obj.isFreed_of_fields (Obj.data_mapFields g3 _)),(Obj.cls_mapFields ..).trans g2,by rw[Obj.data_mapFields g3];simp[rawInt]⟩ (Heap.SameBut.update ..))⟩))
theorem vW{j b:Addr}{xs:Array Value}(hh:A.handled=none)(hj:s.heap.IsTupleIter j b n)(hb:s.heap.IsTuple b xs)(hy:xs[n]?=none)(k:∀h' e,Heap.ExtBut j s.heap h'->(∃o,h'.get? e=some o/\o.cls=.type "StopIteration")->E (.ref e) {s with heap:=h'}):wpAny (model prog w) A (Builtin.SmallTypes.nextOf (.ref j)) Q E s:=by
 obtain⟨u,g1,g2,g3⟩:=id hj;obtain⟨v,f1,_,q,f2⟩:=hb;unfold Builtin.SmallTypes.nextOf;refine wpAny_bind (wpAny_callSpecial?_slot (name:=Str.ofString "__next__") hj.typeIs abN (wpAny_call_entry abN hj.typeIs F.entry_tuple_iterator_next ?_ (F.args_tuple_iterator_next_1 _)));show wpAny _ _ (field (.ref j) 0 >>= _) _ _ s;refine wpAny_bind (wpAny_field g1 g3 (x:=.ref b) rfl ?_);show wpAny _ _ (if (Value.ref b==Value.none)=true then _ else _) _ _ s;rw[if_neg (show ¬ ((Value.ref b==Value.none)=true) from jb)];show wpAny _ _ (field (.ref j) 1 >>= _) _ _ s;refine wpAny_bind (wpAny_field g1 g3 (x:=.int n 0) rfl ?_);show wpAny _ _ (seqItems? (.ref b) >>= _) _ _ s;refine wpAny_bind (wpAny_seqItems f1 f2 ?_);simp only[yV,hy];refine wpAny_bind (wpAny_rule (wpAny_bind (wpAny_setField g1 g3 (by simp) ?_)));show wpAny _ _ (newExc (.type "StopIteration") [] >>= _) _ _ _;refine wpAny_bind ?_;simp only[newExc,newTuple];refine wpAny_bind (wpAny_newObj_type ?_ (by size_fits));refine wpAny_bind (m:=firstArgMember _ _) (wpAny_of_eq (a:=Value.none) (by first|rfl|(simp only[firstArgMember];rfl)) ?_);refine wpAny_newObj_type ?_ (by size_fits);simp only[raiseNew];refine wpAny_bind (wpAny_handled ?_)
 first|rw[show A.in1.handled=none from hh]|rw[hh]
 exact wpAny_bind (wpAny_pure (wpAny_throw (k _ _ (((Heap.SameBut.update ..).extBut.push _).push _) ⟨_,vy _ rfl,rfl⟩)))
end
theorem ac8(hh:A.handled=none)(j b:Addr)(ik:b≠j)(xs:Array Value):Draws prog w A j [j,b] xs.size (λi v=>xs[i]?=some v) (λi h=>h.IsTupleIter j b i/\h.IsTuple b xs) where
 live:=λ_ _ st=>let ⟨o,ho,_⟩:=st.1;⟨o,ho⟩
 frame:=λ_ _ _ st hk=>⟨let ⟨o,e,r⟩:=st.1;⟨o,hk j (by simp) o e,r⟩,let ⟨o,e,r⟩:=st.2;⟨o,hk b (by simp) o e,r⟩⟩
 item:=λi s Q E hi st k=>Cq st.1 st.2 (y:=xs[i]) (by simp[hi]) λh' h1 h2=>k _ h' s.toks (by simp[hi]) ⟨h1,st.2.extBut h2.extBut ik⟩ h2
 done:=λs Q E st k=>vW hh st.1 st.2 (by simp) k
theorem ac9(hh:A.handled=none)(j b:Addr)(xs:Array Value)(i:Nat)(hi:xs[i]?=none):Draws prog w A j [j,b] i (λ_ _=>False) (λk h=>k=i/\h.IsTupleIter j b i/\h.IsTuple b xs) where
 live:=λ_ _ st=>let ⟨o,ho,_⟩:=st.2.1;⟨o,ho⟩
 frame:=λ_ _ _ st hk=>⟨st.1,let ⟨o,e,r⟩:=st.2.1;⟨o,hk j (by simp) o e,r⟩,let ⟨o,e,r⟩:=st.2.2;⟨o,hk b (by simp) o e,r⟩⟩
 item:=λk s Q E hk st _=>absurd st.1 (pJ hk)
 done:=λs Q E st k=>vW hh st.2.1 st.2.2 hi k
def Vq(K:qaf)(a:Addr):It :=
 ⟨λi H=>∃xs x,fM K H a xs/\xs[i]?=some x,λi H v H'=>∃t x,H t=none/\v=.ref t/\(∀xs,fM K H a xs->xs[i]?=some x)/\H'=upd H t (.tup [.int (i:Int),x]),λi H=>∃xs,fM K H a xs/\xs.length<=i⟩
theorem Cr{elts:qap}{x1}{tp:Pos}(a e it:Addr)(ik:e≠it)(hea:e≠a)(hai:a≠it) :
  Turn P w K (.Tuple elts x1 tp) (Vq K a) [e,it] e (λi h=>(∃old,IsEnum h e it (i:Int) old)/\h.IsTupleIter it a i) where
 mem:=by simp
 obj:=λi h st b hb=>by
  obtain⟨⟨old,h1⟩,o,h2,c,d⟩:=st;rcases c4.mp hb with z|z
  subst z;exact⟨_,h1,λv z=>by cases z⟩;have z':b=it:=by simpa using z
  subst z';exact⟨o,h2,λv z=>by rw[d] at z;cases z⟩
 keep:=λi h h' st k=>by obtain⟨⟨old,h1⟩,o,e2,r⟩:=st;exact⟨⟨old,k e (by simp) _ h1⟩,o,k it (by simp) o e2,r⟩
 item:=by
  intro X hP hw hK hc i pins s σ H E I hf st hg;subst hP hw hK;obtain⟨xs,x,hq,hx⟩:=hg;obtain⟨a4,rv,p,hz⟩:=I.tuple hq;obtain⟨u,hu,ru⟩:=rv.get hx;obtain⟨⟨old,h1⟩,ze⟩:=st;have hi:i<a4.toArray.size:=by simp;exact (eW.mp hu).1
  refine wpAny_pyNext_enum_itemD (ac8 (show X.A.in1.handled=none from I.ok.hd hc) it a hai a4.toArray) h1 ⟨ze,p⟩ hi ik (by simp[ik,hea]) λu' h₁ tk hP NJ Um ht₁ hz₁ hk₁=>?_;have eu:u'=u:=by
   have ZO:a4[i]?=some u':=by simpa using hP
   rw[hu] at ZO;exact (Option.some.inj ZO).symm
  subst eu;refine⟨_,rfl,wpAny_letOwnedTupleGo_enum NJ λh₂ he₂ hs₂=>?_⟩;have B8:Heap.SameBut e h₁ h₂:=hs₂;have k7:e<s.heap.objs.size:=jE h1;have hte:s.heap.objs.size≠e:=RH k7;have kk:∀b ob,b∉[e,it]->s.heap.get? b=some ob->h₂.get? b=some ob:=λb ob hb q=>by have FQ:b≠e:=λz=>hb (by simp[z]);exact (B8.2 b FQ).trans (hk₁ b ob FQ (λz=>hb (by simp[z])) q)
  have new:cH X.prog X.w (upd H s.heap.objs.size (.tup [.int (i:Int),x])) h₂ s.heap.objs.size (.tup [.int (i:Int),x]) :=
   ⟨by show 2<=sizeLine;rw[sizeLine_eq];decide,[.int i tk,u'],.cons ⟨_,rfl⟩ (.cons ru .nil),⟨_,(B8.2 _ hte).trans ht₁,rfl,_,rfl⟩⟩
  refine⟨.ref s.heap.objs.size,upd H s.heap.objs.size (.tup [.int (i:Int),x]),I.grown (t':=tk+1) kk hf (c_ _) new,rfl,⟨_,x,I.fresh,rfl,λys hy=>by rw[I.om hy hq];exact hx,rfl⟩,⟨⟨u',?_⟩,?_⟩,λb hb=>?_⟩;have:((i:Int)+1)=((i+1:Nat):Int):=by omega
  rw[<- this];exact he₂;obtain⟨⟨o,q,r⟩,_⟩:=Um;exact⟨o,(B8.2 it (Ne.symm ik)).trans q,r⟩;have Uo:b<s.heap.objs.size:=by
   rcases c4.mp hb with z|z
   subst z;exact k7;have z':b=it:=by simpa using z
   subst z';obtain⟨o,q,_⟩:=ze;exact jE q
  rw[aE (pJ Uo)];exact (hf b hb).1
 done:=by intro X hP hw hK hc i pins s σ H E I hf st hg;subst hP hw hK;obtain⟨xs,hq,hx⟩:=hg;obtain⟨a4,rv,p,hz⟩:=I.tuple hq;have hl:=rv.length;obtain⟨⟨old,h1⟩,ze⟩:=st;obtain⟨f0,f1,f2,f3,f4,f5⟩:=hf it (by simp);exact wpAny_pyNext_enum_endD (ac9 (show X.A.in1.handled=none from I.ok.hd hc) it a a4.toArray i (by simp;omega)) h1 ⟨rfl,ze,p⟩ λh' eb=>⟨rfl,I.turned (t':=s.toks) (λb o hb q=>eb b o hb q) f0 f1 f3 f4 f5⟩
 self:=λ_ _ _ _ _ st h=>by obtain⟨⟨old,h1⟩,_⟩:=st;exact wpAny_pyIter_enum h1 h
section
def Vr(K:qaf)(ta:TA):TI:=λσ H R=>ta σ H λvs H1=>∃a,vs=[.ref a]/\(∃xs,fM K H1 a xs)/\R (Vq K a) H1
theorem K3{elts:qap}{x1}{tp:Pos}{a:Expr}{ta:TA}{pos:Pos}(hg:Gl X "enumerate")(hm:X.mg "enumerate"=none)(ha:PA X [a] ta)(hs:starEach [a] X.env=[(false,eval a X.env)]:=by rfl) :
  PI X (.Tuple elts x1 tp) (.Call (.Name "enumerate" p) [a] [] pos) (Vr X.K ta):=by
 intro pins s σ H R I h;refine Call_ (lV I hg hm L2.boot_enumerate (YF (cc (ha pos pins s σ H _ I h) λus s1 ⟨vs,H1,I1,r1,q1⟩=>?_) hs rfl));obtain⟨b,e,⟨xs,hq⟩,q⟩:=q1;subst e;obtain⟨u,rfl,ru⟩:=vals1 r1;cases ru;obtain⟨a4,rv,pl,hz⟩:=I1.tuple hq;have hb:b<s1.heap.objs.size:=by obtain⟨o,ho,_⟩:=pl;exact jE ho
 refine K2 pl λh' he hit hk=>wpAny_pyIter_enum he ?_;refine⟨s1.heap.objs.size+1,[s1.heap.objs.size+1,s1.heap.objs.size],_,_,H1,rfl,I1.kept (t':=s1.toks) hk,Cr b _ _ (RH (ID _)) (RH (Tj hb)) (pJ hb),⟨⟨_,he⟩,hit⟩,λc hc=>?_,q⟩;rcases c4.mp hc with z|z
 subst z;exact I1.qY (X5 _) (I1.cx.fresh (X5 _));have z':c=s1.heap.objs.size:=by simpa using z
 subst z';exact I1.qY (c_ _) I1.fresh
end
def Vs(f:FE):FI:=λρ Q=>f ρ λt=>match t with
 |.tup ts=>Q (eS ts)
 |_=>False
theorem K4{ts:qaj}:Wk K (Vq K a) [(.tup ts,.ref a)] (eS ts):=λH A hA h i=>by
 have h:=h _ dP;simp only[At] at h;obtain⟨b,vs,e,l,q⟩:=h;cases e;have hl:=q.length;have hle:(eS ts).length=ts.length:=by unfold eS;rw[List.length_mapIdx]
 rw[hle];refine⟨λhi=>⟨vs,vs[i]'(by omega),l,by simp⟩,λhi=>⟨vs,l,by omega⟩,λt ht x H' y=>?_⟩;obtain⟨p,u,hp,rfl,hu,rfl⟩:=y;unfold eS at ht;rw[YN] at ht;cases e:ts[i]? with
 |none=>rw[e] at ht;cases ht
 |some t'=>rw[e] at ht;cases ht;obtain⟨v,e1,e2⟩:=q.get e;have:=hu vs l;rw[e1] at this;cases this;exact⟨aJ hp,cA (fM.of aH) (aB.cons bC (aB.cons (e2.same (aJ hp)) aB.nil))⟩
theorem K6{a:Expr}{pos:Pos}{elts:qap}{x1}{tp:Pos}(hg:Gl X "enumerate")(hm:X.mg "enumerate"=none)(ha:VE X Z a fa)(hs:starEach [a] X.env=[(false,eval a X.env)]:=by rfl) :
  VI X Z (.Tuple elts x1 tp) (.Call (.Name "enumerate" p) [a] [] pos) (Vs fa):=.mk λtm=>PI.weak (K3 hg hm (bD (ha tm) c6 hs) hs) λσ H R ⟨ρ,O,q,I,hf,k⟩=>⟨ρ,O,_,I,hf,λt ht v H' s a=>by
 split at ht;have a0:=a;simp only[At] at a;obtain⟨p,vs,rfl,l,_⟩:=a;exact⟨p,rfl,⟨vs,l⟩,k _ ht _ H' _ s (λp hp=>by rw[jV.mp hp];exact a0) K4⟩;exact ht.elim⟩
theorem E3{ds:qag}{o:Obj}{xs:Array Value}(h1:fd.defaults=.ref a)(h2:K.lookup a=some o)(h3:o.data=.seq xs n)(hl:ps.length=m+ds.length)(h:∀us:qag,us.length=m->∃k,bindArgs fd ⟨us,[]⟩=seqItems? fd.defaults >>= k/\k (some xs)=pure (ps.zip (us++ds))):Binds K fd ps ds:=λs us KX e=>by obtain⟨k,e1,e2⟩:=h us (by rw[pH] at e;omega);exact BindsTo.of_defaults h1 (KX _ _ h2) h3 e1 e2
section
variable{vv sl:Expr}{sp pos:Pos}{l:List (Str×T)}{k:Nat}
def ada(l:List (Str×T))(fe:FE):FP:=λρ Q=>fe ρ λy=>onStr y λk=>∃t,Cj l k=some t/\Q (.vw t)
theorem K7(hg:Gl X x)(hm:X.mg x=some (.ref a))(d:sr X.w X.K a l)(he:VR X Z e fe)(hs:Pc e:=by intro _ _;rfl)(hd:jD x:=by decide) :
  VP X Z (.Subscript (.Name x p) e pos) (ada l fe):=.mk λtm pins s σ H Q I ⟨ρ,O,q,E,hf,k⟩=>by
 refine EM PySem.F.slot_dict_getitem.lookup hs (cc (wH hg hm (v:=.ref a) rfl hd pins s σ H (λv H'=>v=.ref a/\H'=H) I ⟨rfl,rfl⟩) λu s1 ⟨x',H1,I1,rx,ex,eH⟩=>?_);subst ex eH;obtain rfl:u=Value.ref a:=rx;refine cc (he tm pins s1 σ H1 (λy H2=>∃t,iz X.K H2 (av Z O) t y/\aY H1 H2/\onStr t λk=>∃t',Cj l k=some t'/\q (.vw t')) I1 ⟨ρ,O,_,E,hf,λt ht v H' s a1=>⟨t,a1,s,ht⟩⟩) λiv s2 ⟨y,H2,I2,ry,t,a1,sa,q3⟩=>?_;obtain⟨kk,et,t',hg',q4⟩:=zR q3;subst et;obtain⟨j6,U5,EG,JS,GB,hs'⟩:=d.of I2;have ey:=a1.str;subst ey;obtain⟨v,ev,av'⟩:=(iC (EG H2 (av Z O))).1 t' hg';obtain⟨w',hw,rw'⟩:=lx.some_of (v:=v) (o:=valueAt U5 (Sum.inr kk)) (by rw[<- ev,<- gn];exact JS.val (Sum.inr kk));exact⟨GB.typeIs,wpAny_getItem_of (pT (k:=Sum.inr kk) ry) GB.mapOf hw ⟨v,H2,I2.tok _,rw',k _ q4 _ H2 sa ⟨E.same sa,av'⟩⟩⟩
def Vt(ff:FP)(n:Nat)(g:FA)(Fn:Addr->GV->Prop):FP:=λρ Q=>ff ρ λr=>match r with
 |.vw (.ob f)=>∃G,Fn f G/\g ρ λts=>ts.length=n/\G ts Q
 |_=>False
theorem nI(args:qap)(keywords:List Keyword)(env:Env):eval (.Call (.Subscript vv sl sp) args keywords pos) env=(do
 callWith pos (<- eval (.Subscript vv sl sp) env) [] (backTo pos (starEach args env)) (backToKw pos (keywordEach keywords env))):=rfl
theorem K8{ff:FP}{Fn:Addr->GV->Prop}(hx:VP X Z (.Subscript vv sl sp) ff)(C:∀f G,Fn f G->PySem.W.keepIn X.K (.ref f)=true/\∃fd ps,Binds X.K fd ps []/\bY X.prog X.w X.K X.mg X.base fG k f fd ps (c8 X.K n G))(hr:bA k X.A)(ha:VA X Z (e::es) g)(he:starEach (e::es) X.env=(false,eval e X.env)::starEach es X.env:=by rfl)(jF:(backTo pos (starEach es X.env)).any (·.1)=false:=by rfl) :
  VP X Z (.Call (.Subscript vv sl sp) (e::es) [] pos) (Vt ff n g Fn):=.mk λtm pins s σ H Q I ⟨ρ,O,q,E,hf,kk⟩=>by
 rw[nI];refine wpAny_bind (cc (hx tm pins s σ H (λv H'=>∃f G,v=.ref f/\aY H H'/\Fn f G/\g ρ λts=>ts.length=n/\G ts q) I ⟨ρ,O,_,E,hf,λr hr v H' s z=>?_⟩) λu s1 ⟨v,H1,I1,r,f,G,ev,sa,Vi,hg⟩=>?_);split at hr;obtain⟨G,Vi,hg⟩:=hr;have:=z.2;simp only[At] at this;exact⟨_,G,this,s,Vi,hg⟩;exact hr.elim;subst ev;obtain rfl:u=Value.ref f:=r;obtain⟨hk,fd,ps,hb,F⟩:=C f G Vi;have E1:=E.same sa;refine ach (h₀:=X.base) I1.ok.mod.X7 hk (cc (ha tm pos pins s1 σ H1 (λvs H2=>c8 X.K n G (vs++[]) H2 Q E0) I1 ⟨ρ,O,_,E1,hg,λts gw vs H2 s2 a2=>EE (E1.same s2) a2 gw.1 gw.2 λr hr v H' s z=>kk r hr v H' ((sa.trans s2).trans s) z⟩) λus s2 ⟨vs,H2,I2,r2,q2⟩=>⟨I2.ue,?_⟩) he jF;exact B2 F hr hb .nil lF I2 r2 q2
end
section
variable{a i:Expr}{fo fi:FE}{pos:Pos}
def adb(k:Nat)(f:FP):FX:=λρ Q=>match ρ[k]? with
 |some (some (.lst ts,true))=>f ρ λr=>match r with
  |.fr (.lst us)=>ts.length+us.length<=sizeLine/\Q (ρ.set k (some (.lst (ts++us),true))) (.vw .aP)
  |_=>False
 |_=>False
theorem PL(k:Nat){f:FP}(he:VP X Z e f)(hN:X.N[k]?=some x:=by rfl)(hv:mZ X.env.scope x:=by first|exact Or.inl rfl|exact Or.inr (Or.inl rfl)|exact Or.inr (Or.inr rfl))(hd:jD x:=by decide)(ig:yT x:=by decide)(dv:attributeBase (.Name x p) "extend" X.env (eval (.Name x p) X.env)=eval (.Name x p) X.env:=by rfl)(lW:((backTo a5 (starEach [e] X.env)).all (λx=>!x.1) && (backToKw a5 (keywordEach [] X.env)).all (λx=>x.1.isSome)
    && decide (([e]:qap).length+([]:List Keyword).length+(if ([]:List Keyword).isEmpty then 0 else 1)<30))=true:=by rfl)(dw:(apos.endLine==a5.line)=true:=by rfl)(hs:starEach [e] X.env=(false,eval e X.env)::starEach [] X.env:=by rfl)(eZ:(backTo a5 (starEach [] X.env)).any (·.1)=false:=by rfl) :
  VX X Z (.Call (.Attribute (.Name x p) "extend" apos) [e] [] a5) (adb k f):=.mk λtm=>
 PE.weak (rj XU PySem.F.slot_list_extend PySem.F.type_list_extend Gb (bX hN hv hd ig) (bD (he tm) c6 hs) dv lW dw hs eZ) λσ H Q ⟨ρ,O,q,I,hf,kk⟩=>by
  unfold adb at hf;split at hf
  rename_i ts e0
  obtain⟨l,h1,h2,xs,h3,h4⟩:=I.root e0;have ha:l∈av Z O:=cC _ (aM.mpr (iw h1));refine⟨.ref l,h2,.inl ⟨rfl,xs,iV.of h3⟩,ρ,O,_,I,hf,λr hr v H1 s1 z=>?_⟩;split at hr;obtain⟨hz,hq⟩:=hr;have J:=z.env;obtain⟨b,rfl,I2,⟨zs,hb,aL⟩,_,_⟩:=z;have aL':=aL.a8 gR;refine⟨l,b,xs,zs,rfl,rfl,s1 _ _ h3,hb,by rw[h4.length,aL.length];exact hz,kk _ _ hq O _ _ ⟨J.wrote e0 h1 ⟨xs++zs,aH,?_⟩,wY⟩⟩;exact ((h4.same s1).append aL').wrote ha (s1 _ _ h3) rfl;exact hr.elim;exact hf.elim
end
end VT
namespace Gen
open PySem L2 VT
open pN (bT)
theorem small(h:n<=1000):n<=sizeLine:=Nat.le_of_lt (Gh h)
def ux(n:Int):Nat:=bT.cps.toList.getD (n % 26).toNat 0
theorem z9:bT.cps.toList.length=26:=by decide +kernel
theorem xw:bT.length=26:=by decide +kernel
theorem lJ:bT.length<=sizeLine:=by rw[xw,sizeLine_eq];decide
theorem vX(n:Int):jQ bT.cps.toList (n % 26)=some (ux n):=by
 have h0:0<=n % 26:=qg n (by decide);have h1:n % 26<26:=qf n (by decide);unfold ux;obtain⟨j,hj⟩:=FC h0;rw[hj];have k7:j<bT.cps.toList.length:=by rw[z9];omega
 refine ah ?_;rw[yV,List.getD,lT k7];rfl
inductive jK where
 |nm (x:Str)
 |nu (i:Int)
inductive Ky where
 |fld (x:Str)
 |op (o:jK)
inductive Rw where
 |df (f:Str) (ps:qai)
 |give (a:jK)
 |put (x:Str) (a:jK)
 |m8 (x:Str) (a:jK) (op:Str) (b:jK)
 |new (x:Str)
 |get (x r:Str) (k:Ky)
 |set (r:Str) (k:Ky) (a:jK)
 |call (x f:Str) (as:List jK)
 |fail (w:Str)
 |mn (a:jK)
 |mq
 |gS (a:jK)
 |fin
 |skip
def gF:jK->T
 |.nm x=>.str x
 |.nu i=>.int i
def vY:Ky->T
 |.fld x=>.str (((".":String):Str)++x)
 |.op o=>gF o
def aW:Rw->T
 |.df f ps=>.tup [.str "def",.str f,.tup (ps.map .str)]
 |.give a=>.tup [.str "give",gF a]
 |.put x a=>.tup [.str "put",.str x,gF a]
 |.m8 x a op b=>.tup [.str "do",.str x,gF a,.str op,gF b]
 |.new x=>.tup [.str "new",.str x]
 |.get x r k=>.tup [.str "get",.str x,.str r,vY k]
 |.set r k a=>.tup [.str "set",.str r,vY k,gF a]
 |.call x f as=>.tup [.str "call",.str x,.str f,.tup (as.map gF)]
 |.fail w=>.tup [.str "fail",.str w]
 |.mn a=>.tup [.str "if",gF a]
 |.mq=>.tup [.str "else"]
 |.gS a=>.tup [.str "while",gF a]
 |.fin=>.tup [.str "end"]
 |.skip=>.tup [.str "skip"]
def eU(ys:qai):jK->Prop
 |.nm x=>x∈ys
 |.nu i=>-1000000000000000000000000000000<=i/\i<1000000000000000000000000000000
def GX(ys:qai):Ky->Prop
 |.fld x=>x∈ys
 |.op o=>eU ys o
abbrev Plan:=List (Str×qai)
def reckon:qai:=["plus","minus","times","over","rest","less","same"]
def i4(ys:qai)(later:Plan):Rw->Prop
 |.put x a=>x∈ys/\eU ys a
 |.m8 x a op b=>x∈ys/\eU ys a/\op∈reckon/\eU ys b
 |.new x=>x∈ys
 |.get x r k=>x∈ys/\r∈ys/\GX ys k
 |.set r k a=>r∈ys/\GX ys k/\eU ys a
 |.call x f as=>x∈ys/\(∃ps,(f,ps)∈later/\as.length=ps.length)/\∀a∈as,eU ys a
 |.fail w=>w∈ys
 |.skip=>True
 |_=>False
theorem ade:(10:Int) ^ (30:Int).toNat=1000000000000000000000000000000:=by decide +kernel
theorem agf:(((".":String):Str)).length=1:=by decide +kernel
theorem adf(i:Int):∃op∈reckon,jQ [T.str "plus",T.str "minus",T.str "times",T.str "over",T.str "rest",T.str "less",T.str "same"] (i % 7)=some (T.str op):=by
 have h0:0<=i % 7:=qg i (by decide);have h1:i % 7<7:=qf i (by decide);obtain⟨j,hj⟩:=FC h0;rw[hj] at h1 ⊢;have:j=0\/j=1\/j=2\/j=3\/j=4\/j=5\/j=6:=by omega
 obtain rfl|rfl|rfl|rfl|rfl|rfl|rfl:=this
 exact⟨"plus",by simp[reckon],ah rfl⟩;exact⟨"minus",by simp[reckon],ah rfl⟩;exact⟨"times",by simp[reckon],ah rfl⟩;exact⟨"over",by simp[reckon],ah rfl⟩;exact⟨"rest",by simp[reckon],ah rfl⟩;exact⟨"less",by simp[reckon],ah rfl⟩;exact⟨"same",by simp[reckon],ah rfl⟩
def mw(ys:qai)(pl:Plan)(bS:qai)(new:List Rw)(dF:qai):Prop :=
 (∃o,eU ys o/\new=[.mn o]/\dF=bS++([("if":Str)]:qai))\/(∃o,eU ys o/\new=[.gS o]/\dF=bS++([("while":Str)]:qai)) \/
 (∃y,y∈ys/\new=[.gS (.nm y),.m8 y (.nm y) "minus" (.nu 1)]/\dF=bS++([("while":Str)]:qai))\/(∃s0,bS=s0++([("if":Str)]:qai)/\new=[.mq]/\dF=s0++([("else":Str)]:qai)) \/
 (∃s0 x,bS=s0++[x]/\new=[.fin]/\dF=s0)\/(∃r,i4 ys pl r/\new=[r]/\dF=bS)
def xx(ys:qai)(pl:Plan):Prop:=∀(k:Nat) f ps,pl[k]?=some (f,ps)->ys[k]?=some f/\∃(a:Int)(r:Nat),r<=2/\ps=(List.range r).map λj=>ys.getD ((a+((j:Nat):Int)) % 4).toNat Str.empty
inductive Body(ys:qai)(later:Plan):qai->List Rw->Prop
 |nil:Body ys later [] []
 |step {bS dF:qai} {body new:List Rw}:Body ys later bS body->mw ys later bS new dF->Body ys later dF (body++new)
inductive Pre(ys:qai)(pl:Plan):Nat->List Rw->Prop
 |zero:Pre ys pl 0 []
 |succ {k:Nat} {rs:List Rw} {f:Str} {ps:qai} {bS:qai} {body:List Rw} {o:jK} {sk:List Rw}:Pre ys pl k rs->pl[k]?=some (f,ps)->Body ys (pl.drop (k+1)) bS body->eU ys o->(sk=[]\/sk=[.skip]) ->
  Pre ys pl (k+1) (rs++(.df f ps::(body++(List.replicate bS.length .fin++(.give o::sk)))))
theorem c9{α:Type}{f:α->T}(h:∀x,plainT (f x)=true):∀l:List α,bH (l.map f)=true
 |[]=>by simp[bH]
 |x::l=>by simp only[ix,bH,h x,c9 h l,NI]
theorem fu{α:Type}{f:α->T}{n:Nat}(h:∀x,dep (f x)<=n):∀l:List α,gx (l.map f)<=n
 |[]=>by simp[gx]
 |x::l=>by have:=h x;have:=fu h l;simp only[ix,gx];omega
theorem oM(o:jK):plainT (gF o)=true:=by cases o<;>simp[gF,plainT]
theorem GY(o:Ky):plainT (vY o)=true:=by cases o with|fld x=>simp[vY,plainT]|op o=>exact oM o
theorem Cs(r:Rw):plainT (aW r)=true:=by cases r<;>simp[aW,plainT,bH,oM,GY,c9 (f:=T.str) (λ_=>by simp[plainT]),c9 (f:=gF) oM]
theorem xy(o:jK):dep (gF o)=0:=by cases o<;>simp[gF,dep]
theorem PM(o:Ky):dep (vY o)=0:=by cases o with|fld x=>simp[vY,dep]|op o=>exact xy o
theorem K9(r:Rw):dep (aW r)<=2:=by have h1:=λl:qai=>fu (f:=T.str) (n:=0) (λ_=>by simp[dep]) l;have h2:=λl:List jK=>fu (f:=gF) (n:=0) (λo=>by simp[xy]) l;cases r<;>simp[aW,dep,gx,xy,PM]<;>first|(rename_i x;have:=h1 x;omega)|(rename_i x;have:=h2 x;omega)|skip
theorem xA(o:jK):bP (gF o)=true:=by cases o<;>simp[gF,bP]
theorem PN(o:Ky):bP (vY o)=true:=by cases o with|fld x=>simp[vY,bP]|op o=>exact xA o
theorem fA{α:Type}{f:α->T}(h:∀x,bP (f x)=true):∀l:List α,eD (l.map f)=true
 |[]=>by simp[eD]
 |x::l=>by simp only[ix,eD,h x,fA h l,NI]
theorem kh(r:Rw):bP (aW r)=true:=by cases r<;>simp[aW,bP,eD,xA,PN,fA (f:=T.str) (λ_=>by simp[bP]),fA (f:=gF) xA]
end Gen
variable{r:Gen.Rw}{pl:Gen.Plan}
abbrev qal:=List Gen.Rw
set_option exponentiation.threshold 4000
namespace ki
open PySem L2 VT
def eF(i:Int):Int:=(i+1000000000000000000000000000000) % (2 * 1000000000000000000000000000000)-1000000000000000000000000000000
def RI(i:Int):Prop:=-1000000000000000000000000000000<=i/\i<1000000000000000000000000000000
theorem RI.big{i:Int}(h:RI i):uw i:=by
 unfold RI at h;unfold uw;have:i.natAbs<=1000000000000000000000000000000:=by omega
 exact acj this (by decide +kernel)
inductive Vl where
 |num (i:Int)
 |GZ (p r:Int)
 deriving DecidableEq
def vT:Vl->T
 |.num i=>.int i
 |.GZ p r=>.tup [.int p,.int r]
def nm:Vl->Int
 |.num i=>i
 |.GZ _ _=>0
inductive G0 where
 |plus|minus|times|over|rest|less
def kj:G0->Str
 |.plus=>"plus"
 |.minus=>"minus"
 |.times=>"times"
 |.over=>"over"
 |.rest=>"rest"
 |.less=>"less"
def Cu:G0->Bool
 |.over=>true
 |.rest=>true
 |_=>false
def PQ:G0->Int->Int->Int
 |.plus,x,y=>x+y
 |.minus,x,y=>x-y
 |.times,x,y=>x * y
 |.over,x,y=>x.fdiv y
 |.rest,x,y=>x.fmod y
 |.less,x,y=>if x<y then 1 else 0
def rkT(o:G0)(x y:Int):T:=if Cu o=true/\y=0 then .aP else .int (eF (PQ o x y))
def z_(a b:Vl):T:=.int (if a=b then 1 else 0)
theorem bgS{i:Int}(h : -100000000000000<=i/\i<=100000000000000):uw i:=by
 unfold uw;have:i.natAbs<=100000000000000:=by omega
 exact acj this (by decide +kernel)
theorem bg(i:Int)(h : -100000000000000<=i/\i<=100000000000000:=by decide):uw i:=bgS h
end ki
variable{rs:qal}
namespace Gen
open PySem L2 VT
open pN (bT Gk d_)
theorem E4(n:Int):Gk (ux n)=true:=by
 have h0:0<=n % 26:=qg n (by decide);have h1:n % 26<26:=qf n (by decide);have h:∀j<26,Gk (bT.cps.toList.getD j 0)=true:=by decide +kernel
 exact h _ (by omega)
theorem K_{a b:Int}(h:ux a=ux b):a % 26=b % 26:=by
 have a0:0<=a % 26:=qg a (by decide);have a1:a % 26<26:=qf a (by decide);have b0:0<=b % 26:=qg b (by decide);have b1:b % 26<26:=qf b (by decide);have k:∀i<26,∀j<26,bT.cps.toList.getD i 0=bT.cps.toList.getD j 0->i=j:=by decide +kernel
 have:=k (a % 26).toNat (by omega) (b % 26).toNat (by omega) h;omega
def G1(ys:qai):Rw->Prop
 |.df f ps=>f∈ys/\ps.length<=2/\ps.Nodup/\∀p∈ps,p∈ys
 |.give a=>eU ys a
 |.put x a=>x∈ys/\eU ys a
 |.m8 x a op b=>x∈ys/\eU ys a/\op∈reckon/\eU ys b
 |.new x=>x∈ys
 |.get x r k=>x∈ys/\r∈ys/\GX ys k
 |.set r k a=>r∈ys/\GX ys k/\eU ys a
 |.call x f as=>x∈ys/\f∈ys/\as.length<=2/\∀a∈as,eU ys a
 |.fail w=>w∈ys
 |.mn a=>eU ys a
 |.gS a=>eU ys a
 |_=>True
theorem Vu{l:qai}(nd:l.Nodup)(hi:i<l.length)(hj:j<l.length)(e:l[i]=l[j]):i=j:=by
 rw[List.Nodup,List.pairwise_iff_getElem] at nd;rcases Nat.lt_trichotomy i j with h|h|h
 exact absurd e (nd i j hi hj h);exact h;exact absurd e.symm (nd j i hj hi h)
theorem G2(hp:∀f ps,(f,ps)∈pl->f∈ys/\ps.length<=2)(h:i4 ys pl r):G1 ys r:=by
 cases r<;>first
  |exact h
  |exact h.elim
  | (obtain⟨h1,⟨ps,h2,h3⟩,h4⟩:=h
     exact⟨h1,(hp _ _ h2).1,by rw[h3];exact (hp _ _ h2).2,h4⟩)
theorem Vv(hp:∀f ps,(f,ps)∈pl->f∈ys/\ps.length<=2){bS new dF}(h:mw ys pl bS new dF):∀r∈new,G1 ys r:=by
 obtain⟨o,ho,rfl,_⟩|⟨o,ho,rfl,_⟩|⟨y,hy,rfl,_⟩|⟨s0,_,rfl,_⟩|⟨s0,x,_,rfl,_⟩|⟨r,hr,rfl,_⟩:=h<;>intro r' c5
 simp only[c4,gD,or_false] at c5;subst c5;exact ho;simp only[c4,gD,or_false] at c5;subst c5;exact ho;simp only[c4,gD,or_false] at c5;obtain rfl|rfl:=c5
 exact hy;exact⟨hy,hy,by simp[reckon],by decide,by decide⟩;simp only[c4,gD,or_false] at c5;subst c5;trivial;simp only[c4,gD,or_false] at c5;subst c5;trivial;simp only[c4,gD,or_false] at c5;subst c5;exact G2 hp hr
theorem PR(hp:∀f ps,(f,ps)∈pl->f∈ys/\ps.length<=2){bS body}(h:Body ys pl bS body):∀r∈body,G1 ys r:=by
 induction h with
 |nil=>intro r hr;cases hr
 |step _ h2 ih=>
  intro r hr;rcases cU.mp hr with hr|hr
  exact ih r hr;exact Vv hp h2 r hr
def wd:Rw->Str
 |.df _ _=>"def"
 |.give _=>"give"
 |.put _ _=>"put"
 |.m8 _ _ _ _=>"do"
 |.new _=>"new"
 |.get _ _ _=>"get"
 |.set _ _ _=>"set"
 |.call _ _ _=>"call"
 |.fail _=>"fail"
 |.mn _=>"if"
 |.mq=>"else"
 |.gS _=>"while"
 |.fin=>"end"
 |.skip=>"skip"
def gz(st:qai)(x:Str):Bool:=match st.getLast? with
 |none=>Cc (.str x) [.str "def",.str "skip"]
 |some l=>if x="give" then decide (l="def") else if x="else" then decide (l="if") else if x="end" then !decide (l="def") else !decide (x="def")
def mx(st:qai)(x:Str):qai :=
 if x="def"\/x="if"\/x="while" then st++[x] else if x="give"\/x="end" then st.dropLast else if x="else" then st.dropLast++[("else":Str)] else st
theorem E5(x:Str):∀l:qai,Cc (.str x) (l.map .str)=decide (x∈l)
 |[]=>by simp[Cc]
 |y::l=>by rw[ix];show (eqT (.str y) (.str x) || Cc (.str x) (l.map .str))=_;rw[E5 x l];show (decide (y=x) || decide (x∈l))=_;rw[YT];simp only[Bool.or_eq_true,decide_eq_true_eq,c4];constructor;rintro (h|h);exact .inl h.symm;exact .inr h;rintro (h|h);exact .inl h.symm;exact .inr h
theorem qO(r:Rw):∃l,aW r=.tup (.str (wd r)::l):=by cases r<;>exact⟨_,rfl⟩
theorem vZ{f:α->T}{xs:List α}{h:FG}{g:FS}{d:JI}(Pv:Nat->En->Prop)(h0:Pv 0 ρ)(hs:∀(i:Nat) x ρ',xs[i]?=some x->Pv i ρ'->h (.tup [.int (i:Int),f x]) ρ' λρ2=>g {nx:=Pv (i+1),ct:=Pv (i+1),bk:=d.nx,rt:=d.rt} ρ2)(hd:∀ρ',Pv xs.length ρ'->d.nx ρ'):pQ (eS (xs.map f)) h g d ρ:=⟨Pv,h0,λi t ρ' e p=>by
 unfold eS at e;rw[YN,ie] at e;cases q:xs[i]? with
 |none=>rw[q] at e;cases e
 |some x=>rw[q] at e;cases e;exact hs i x ρ' q p,λρ' p=>hd ρ' (by unfold eS at p;rw[List.length_mapIdx,c3] at p;exact p)⟩
def PU(o:Option (qai))(r:Rw):Option (qai):=o.bind λst=>if gz st (wd r)=true then some (mx st (wd r)) else none
def lp(o:Option (qai))(rs:qal):Option (qai):=rs.foldl PU o
theorem jq(o:Option (qai))(a b:qal):lp o (a++b)=lp (lp o a) b:=List.foldl_append
theorem Aa(rs:qal):lp none rs=none:=by
 induction rs with
 |nil=>rfl
 |cons r rs ih=>exact ih
theorem G3{st:qai}(h:gz st (wd r)=true):PU (some st) r=some (mx st (wd r)):=by show (if gz st (wd r)=true then _ else _)=_;rw[if_pos h]
theorem dW{st:qai}(h:gz st (wd r)=true):lp (some st) [r]=some (mx st (wd r)):=G3 h
theorem Ab{st:qai}(h:lp (some []) rs=some st)(i:Nat)(hr:rs[i]?=some r) :
  ∃s,lp (some []) (rs.take i)=some s/\gz s (wd r)=true/\lp (some []) (rs.take (i+1))=some (mx s (wd r)):=by
 have hi:=(eW.mp hr).1;have e:rs=rs.take i++(r::rs.drop (i+1)):=by have hg:=(eW.mp hr).2;rw[<- hg,List.getElem_cons_drop,ab6]
 have e2:rs.take (i+1)=rs.take i++[r]:=by have hg:=(eW.mp hr).2;rw[<- hg,List.take_append_getElem]
 rw[e,jq] at h;cases hs:lp (some []) (rs.take i) with
 |none=>rw[hs,Aa] at h;cases h
 |some s=>
   rw[hs] at h;have h':lp (PU (some s) r) (rs.drop (i+1))=some st:=h;cases hm:gz s (wd r) with
   |false=>
     have:PU (some s) r=none:=by show (if gz s (wd r)=true then _ else _)=_;rw[hm];rfl
     rw[this,Aa] at h';cases h'
   |true=>exact⟨s,rfl,hm,by rw[e2,jq,hs];exact dW hm⟩
abbrev qP:Str:="def"
def Hd(x:Str):Prop:=x="if"\/x="while"\/x="else"
theorem Hd.ne(h:Hd x):x≠"def":=by obtain rfl|rfl|rfl:=h<;>decide +kernel
theorem v5(h:i4 ys pl r):∀st,st≠[]->gz st (wd r)=true/\mx st (wd r)=st:=by
 intro st Od;obtain⟨l,hl⟩:∃l,st.getLast?=some l:=by
  cases e:st.getLast? with
  |none=>rw[List.getLast?_eq_none_iff] at e;exact absurd e Od
  |some l=>exact⟨l,rfl⟩
 have k:∀x:Str,(x="put"\/x="do"\/x="new"\/x="get"\/x="set"\/x="call"\/x="fail"\/x="skip")->gz st x=true/\mx st x=st:=by intro x hx;unfold gz mx;rw[hl];obtain rfl|rfl|rfl|rfl|rfl|rfl|rfl|rfl:=hx<;>exact⟨(by show (if _ then _ else _)=true;rw[if_neg (by decide +kernel),if_neg (by decide +kernel),if_neg (by decide +kernel)];decide +kernel),(by rw[if_neg (by decide +kernel),if_neg (by decide +kernel),if_neg (by decide +kernel)])⟩
 cases r<;>first
  |exact h.elim
  |exact k _ (by simp[wd])
theorem K'(st:qai):mx st "if"=st++[("if":Str)]:=by unfold mx;rw[if_pos (.inr (.inl rfl))]
theorem oN(st:qai):mx st "while"=st++[("while":Str)]:=by unfold mx;rw[if_pos (.inr (.inr rfl))]
theorem E6(st:qai):mx st "def"=st++[qP]:=by unfold mx;rw[if_pos (.inl rfl)]
theorem xB(st:qai):mx st "end"=st.dropLast:=by unfold mx;rw[if_neg (by decide +kernel),if_pos (by decide +kernel)]
theorem Ac(st:qai):mx st "give"=st.dropLast:=by unfold mx;rw[if_neg (by decide +kernel),if_pos (by decide +kernel)]
theorem Ad(st:qai):mx st "else"=st.dropLast++[("else":Str)]:=by unfold mx;rw[if_neg (by decide +kernel),if_neg (by decide +kernel),if_pos rfl]
theorem xD(st:qai)(l x:Str)(hx:x="if"\/x="while"):gz (st++[l]) x=true:=by unfold gz;rw[N1];obtain rfl|rfl:=hx<;>(show (if _ then _ else _)=true;rw[if_neg (by decide +kernel),if_neg (by decide +kernel),if_neg (by decide +kernel)];decide +kernel)
theorem G4(st:qai):gz (st++[("if":Str)]) "else"=true:=by unfold gz;rw[N1];show (if _ then _ else _)=true;rw[if_neg (by decide +kernel),if_pos rfl];decide +kernel
theorem Ae(st:qai){l:Str}(h:l≠"def"):gz (st++[l]) "end"=true:=by unfold gz;rw[N1];show (if _ then _ else _)=true;rw[if_neg (by decide +kernel),if_neg (by decide +kernel),if_pos rfl,decide_eq_false h];rfl
theorem G5(st:qai):gz (st++[qP]) "give"=true:=by unfold gz;rw[N1];show (if _ then _ else _)=true;rw[if_pos rfl];decide +kernel
theorem qQ{st:qai}(h:st≠[]):∃s l,st=s++[l]:=⟨st.dropLast,st.getLast h,(List.dropLast_concat_getLast h).symm⟩
theorem PV{bS new dF}(h:mw ys pl bS new dF)(hs:∀x∈bS,Hd x) :
  lp (some (qP::bS)) new=some (qP::dF)/\∀x∈dF,Hd x:=by
 have hd:∀st:qai,∃s l,qP::st=s++[l]:=λst=>qQ (by simp);obtain⟨o,_,rfl,rfl⟩|⟨o,_,rfl,rfl⟩|⟨y,_,rfl,rfl⟩|⟨s0,rfl,rfl,rfl⟩|⟨s0,x,es,rfl,e'⟩|⟨r,hr,rfl,e'⟩:=h
 obtain⟨s,l,e⟩:=hd bS;refine⟨?_,?_⟩;rw[dW (st:=qP::bS) (r:=.mn o) (by rw[e];exact xD s l _ (.inl rfl))];show some (mx _ "if")=_;rw[K'];rfl;intro x hx;rcases cU.mp hx with hx|hx
 exact hs x hx;simp only[c4,gD,or_false] at hx;exact .inl hx;obtain⟨s,l,e⟩:=hd bS;refine⟨?_,?_⟩;rw[dW (st:=qP::bS) (r:=.gS o) (by rw[e];exact xD s l _ (.inr rfl))];show some (mx _ "while")=_;rw[oN];rfl;intro x hx;rcases cU.mp hx with hx|hx
 exact hs x hx;simp only[c4,gD,or_false] at hx;exact .inr (.inl hx);obtain⟨s,l,e⟩:=hd bS;refine⟨?_,?_⟩;have h1:lp (some (qP::bS)) [Rw.gS (.nm y)]=some ((qP::bS)++[("while":Str)]):=by rw[dW (st:=qP::bS) (r:=.gS (.nm y)) (by rw[e];exact xD s l _ (.inr rfl))];show some (mx _ "while")=_;rw[oN]
 have h2:=v5 (ys:=[y]) (pl:=[]) (r:=.m8 y (.nm y) "minus" (.nu 1)) ⟨by simp,by simp[eU],by simp[reckon],by decide,by decide⟩ ((qP::bS)++[("while":Str)]) (by simp);show lp (lp (some (qP::bS)) [Rw.gS (.nm y)]) [Rw.m8 y (.nm y) "minus" (.nu 1)]=_;rw[h1,dW h2.1,h2.2];rfl;intro x hx;rcases cU.mp hx with hx|hx
 exact hs x hx;simp only[c4,gD,or_false] at hx;exact .inr (.inl hx);refine⟨?_,?_⟩;have e:qP::(s0++[("if":Str)])=(qP::s0)++[("if":Str)]:=rfl;rw[e,dW (G4 _)];show some (mx _ "else")=_;rw[Ad,Tg];rfl;intro x hx;rcases cU.mp hx with hx|hx
 exact hs x (cC _ hx);simp only[c4,gD,or_false] at hx;exact .inr (.inr hx);subst es;subst e';refine⟨?_,λy hy=>hs y (cC _ hy)⟩;have e:qP::(dF++[x])=(qP::dF)++[x]:=rfl;rw[e,dW (Ae _ (hs x (by simp)).ne)];show some (mx _ "end")=_;rw[xB,Tg];subst e';have:=v5 hr (qP::dF) (by simp);refine⟨?_,hs⟩;rw[dW this.1,this.2]
theorem La{bS body}(h:Body ys pl bS body):lp (some [qP]) body=some (qP::bS)/\∀x∈bS,Hd x:=by
 induction h with
 |nil=>exact⟨rfl,λx hx=>nomatch hx⟩
 |step _ h2 ih=>have:=PV h2 ih.2;exact⟨by rw[jq,ih.1];exact this.1,this.2⟩
theorem Af:∀(n:Nat)(bS:qai),bS.length=n->(∀x∈bS,Hd x)->lp (some (qP::bS)) (List.replicate n .fin)=some [qP]
 |0,bS,hl,_=>by rw[Rz] at hl;subst hl;rfl
 |n+1,bS,hl,hs=>by obtain⟨s,l,rfl⟩:=qQ (st:=bS) (by intro z;subst z;cases hl);rw[ud];show lp (lp (some ((qP::s)++[l])) [Rw.fin]) (List.replicate n .fin)=_;rw[dW (Ae _ (hs l (by simp)).ne)];show lp (some (mx _ "end")) _=_;rw[xB,Tg];exact Af n s (by simpa using hl) λx hx=>hs x (cC _ hx)
theorem PX(h:Pre ys pl n rs):lp (some []) rs=some []:=by
 induction h with
 |zero=>rfl
 |@succ k rs f ps bS body o sk _ hk hb ho hs ih=>
  rw[jq,ih];show lp (lp (some []) [Rw.df f ps]) _=_;rw[dW (by show gz [] "def"=true;decide +kernel)];show lp (some (mx [] "def")) _=_;rw[E6,jq];have hB:=La hb;show lp (lp (some [qP]) body) _=_;rw[hB.1,jq,Af _ bS rfl hB.2];show lp (lp (some ([]++[qP])) [Rw.give o]) sk=_;rw[dW (G5 [])];show lp (some (mx _ "give")) sk=_;rw[Ac,Tg];obtain rfl|rfl:=hs
  rfl;rw[dW (by show gz [] "skip"=true;decide +kernel)];show some (mx [] "skip")=_;rfl
theorem G6(n:Nat):lp (some []) (List.replicate n .skip)=some []:=by
 induction n with
 |zero=>rfl
 |succ n ih=>rw[ud];show lp (lp (some []) [Rw.skip]) (List.replicate n .skip)=_;rw[dW (by show gz [] "skip"=true;decide +kernel)];exact ih
def yW:List (Str×Nat)->Str->Option Nat
 |[],_=>none
 | (k,i)::l,f=>if k=f then some i else yW l f
theorem xE(l m:List (Str×Nat))(f:Str):yW (l++m) f=match yW l f with
  |some i=>some i
  |none=>yW m f:=by
 induction l with
 |nil=>rfl
 |cons p l ih=>obtain⟨k,i⟩:=p;simp only[RF,yW];by_cases h:k=f;rw[if_pos h,if_pos h];rw[if_neg h,if_neg h];exact ih
def NS(l:List (Str×Nat))(i:Nat):Rw->List (Str×Nat)
 |.df f _=>match yW l f with
  |some _=>l
  |none=>l++[(f,i)]
 |_=>l
def bc(rs:qal):Nat->List (Str×Nat)
 |0=>[]
 |n+1=>match rs[n]? with
  |some r=>NS (bc rs n) n r
  |none=>bc rs n
theorem Ag{rs:qal}{f:Str}{j:Nat}:∀n,yW (bc rs n) f=some j->j<n/\∃ps,rs[j]?=some (.df f ps)
 |0,h=>nomatch h
 |n+1,h=>by
  have old:yW (bc rs n) f=some j->j<n+1/\∃ps,rs[j]?=some (.df f ps):=λh=>by have:=Ag n h;exact⟨by omega,this.2⟩
  simp only[bc] at h;split at h
  rename_i r hr
  cases r with
  |df g ps=>
   simp only[NS] at h;split at h;exact old h
   rename_i hn
   rw[xE] at h;split at h
   rename_i i hi
   cases h;exact old hi;simp only[yW] at h;split at h
   rename_i e
   cases h;subst e;exact⟨by omega,ps,hr⟩;cases h
  |_=>exact old h
  exact old h
theorem v7{rs:qal}{f:Str}{i:Nat}{ps:qai}(hi:rs[i]?=some (.df f ps)):∀n,i<n->∃j,yW (bc rs n) f=some j
 |0,h=>absurd h (by omega)
 |n+1,h=>by
  simp only[bc];by_cases e:i=n;subst e;rw[hi];simp only[NS];cases ha:yW (bc rs i) f with
  |some j=>exact⟨j,ha⟩
  |none=>refine⟨i,?_⟩;simp only;rw[xE,ha];simp only[yW,if_true]
  obtain⟨j,hj⟩:=v7 hi n (by omega);split
  rename_i r hr
  cases r with
  |df g qs=>simp only[NS];split;exact⟨j,hj⟩;rw[xE,hj];exact⟨j,rfl⟩
  |_=>exact⟨j,hj⟩
  exact⟨j,hj⟩
structure my(rs:qal):Prop where
 un:∀(i i':Nat)(f:Str)(ps Yh:qai),rs[i]?=some (Rw.df f ps)->rs[i']?=some (Rw.df f Yh)->i=i'
 ca:∀(i:Nat)(x f:Str)(as:List jK),rs[i]?=some (Rw.call x f as)->∃(j:Nat)(ps:qai),i<j/\rs[j]?=some (Rw.df f ps)/\ps.length=as.length
theorem my.first(h:my rs){f:Str}(hi:rs[i]?=some (.df f ps)):yW (bc rs rs.length) f=some i:=by obtain⟨j,hj⟩:=v7 hi rs.length (eW.mp hi).1;obtain⟨_,qs,hq⟩:=Ag _ hj;rw[hj,h.un j i f qs ps hq hi]
def Cv(pl:Plan):Rw->Prop
 |.df _ _=>False
 |.call _ f as=>∃ps,(f,ps)∈pl/\as.length=ps.length
 |_=>True
theorem G7(h:i4 ys pl r):Cv pl r:=by
 cases r<;>first
  |exact trivial
  |exact h.elim
  |exact h.2.1
theorem PY{bS body}(h:Body ys pl bS body):∀r∈body,Cv pl r:=by
 induction h with
 |nil=>intro r hr;cases hr
 |step _ h2 ih=>
  intro r hr;rcases cU.mp hr with hr|hr
  exact ih r hr;obtain⟨o,ho,rfl,_⟩|⟨o,ho,rfl,_⟩|⟨y,hy,rfl,_⟩|⟨s0,_,rfl,_⟩|⟨s0,x,_,rfl,_⟩|⟨r',c5,rfl,_⟩:=h2
  simp only[c4,gD,or_false] at hr;subst hr;trivial;simp only[c4,gD,or_false] at hr;subst hr;trivial;simp only[c4,gD,or_false] at hr;obtain rfl|rfl:=hr<;>trivial
  simp only[c4,gD,or_false] at hr;subst hr;trivial;simp only[c4,gD,or_false] at hr;subst hr;trivial;simp only[c4,gD,or_false] at hr;subst hr;exact G7 c5
structure agg(pl:Plan)(k:Nat)(rs:qal):Prop where
 a:∀(i:Nat)(f:Str)(ps:qai),rs[i]?=some (Rw.df f ps)->∃m,m<k/\pl[m]?=some (f,ps)
 c:∀(i:Nat)(x f:Str)(as:List jK),rs[i]?=some (Rw.call x f as)->∃(m:Nat)(ps:qai),pl[m]?=some (f,ps)/\as.length=ps.length/\(m<k->∃j,i<j/\rs[j]?=some (Rw.df f ps))
 u:∀(i i':Nat)(f:Str)(ps Yh:qai),rs[i]?=some (Rw.df f ps)->rs[i']?=some (Rw.df f Yh)->i=i'
theorem adg(nd:ys.Nodup)(hP:xx ys pl)(h:Pre ys pl n rs):agg pl n rs:=by
 induction h with
 |zero=>exact⟨λi f ps h=>by simp at h,λi x f as h=>by simp at h,λi i' f ps Yh h=>by simp at h⟩
 |@succ k rs f ps bS body o sk _ hk hb ho hs ih=>
  have Cf:=PY hb;generalize KY:body++(List.replicate bS.length Rw.fin++(Rw.give o::sk))=rest;have hR:∀r∈rest,Cv (pl.drop (k+1)) r:=by
   intro r hr;rw[<- KY] at hr;rcases cU.mp hr with hr|hr
   exact Cf r hr;rcases cU.mp hr with hr|hr
   rw[(List.mem_replicate.mp hr).2];trivial;rcases c4.mp hr with rfl|hr
   trivial;obtain rfl|rfl:=hs
   cases hr;simp only[c4,gD,or_false] at hr;subst hr;trivial
  have split:∀i r,(rs++Rw.df f ps::rest)[i]?=some r->rs[i]?=some r\/(i=rs.length/\r=.df f ps)\/(rs.length<i/\r∈rest):=by
   intro i r hi;rcases Nat.lt_trichotomy i rs.length with h|h|h
   rw[oi h] at hi;exact .inl hi;subst h;rw[qe (c_ _),Tr] at hi;exact .inr (.inl ⟨rfl,(Option.some.inj hi).symm⟩);rw[qe (by omega)] at hi;obtain⟨d,hd⟩:∃d,i-rs.length=d+1:=⟨i-rs.length-1,by omega⟩;rw[hd,List.getElem?_cons_succ] at hi;exact .inr (.inr ⟨h,iw hi⟩)
  have here:(rs++Rw.df f ps::rest)[rs.length]?=some (.df f ps):=by rw[qe (c_ _),Tr];rfl
  have left:∀j r,rs[j]?=some r->(rs++Rw.df f ps::rest)[j]?=some r:=λj r h=>by rw[oi (eW.mp h).1];exact h
  have Sy:∀(i:Nat)(g:Str)(qs:qai),rs[i]?=some (Rw.df g qs)->g≠f:=by intro i g qs hi e;obtain⟨m,hm,hp⟩:=ih.a i g qs hi;have h1:=(hP m g qs hp).1;have h2:=(hP k f ps hk).1;rw[e] at h1;obtain⟨l1,e1⟩:=eW.mp h1;obtain⟨l2,e2⟩:=eW.mp h2;have:=Vu nd l1 l2 (e1.trans e2.symm);omega
  refine⟨λi g qs hi=>?_,λi x g as hi=>?_,λi i' g qs qs' hi Jz=>?_⟩;rcases split i _ hi with h|⟨_,e⟩|⟨_,h⟩
  obtain⟨m,hm,hp⟩:=ih.a i g qs h;exact⟨m,by omega,hp⟩;cases e;exact⟨k,by omega,hk⟩;exact (hR _ h).elim;rcases split i _ hi with h|⟨_,e⟩|⟨_,h⟩
  obtain⟨m,qs,hp,hl,hj⟩:=ih.c i x g as h;refine⟨m,qs,hp,hl,λhm=>?_⟩;by_cases e:m=k;subst e;rw[hk] at hp;cases hp;exact⟨rs.length,(eW.mp h).1,here⟩;obtain⟨j,h1,h2⟩:=hj (by omega);exact⟨j,h1,left j _ h2⟩;cases e;obtain⟨qs,hq,hl⟩:=hR _ h;obtain⟨m,hm⟩:=List.getElem?_of_mem hq;rw[List.getElem?_drop] at hm;exact⟨k+1+m,qs,hm,hl,λz=>absurd z (by omega)⟩;rcases split i _ hi with h|⟨h,e⟩|⟨_,h⟩
  rcases split i' _ Jz with h'|⟨h',e'⟩|⟨_,h'⟩
  exact ih.u i i' g qs qs' h h';cases e';exact absurd rfl (Sy i _ _ h);exact (hR _ h').elim;rcases split i' _ Jz with h'|⟨h',e'⟩|⟨_,h'⟩
  cases e;exact absurd rfl (Sy i' _ _ h');omega;exact (hR _ h').elim;exact (hR _ h).elim
theorem Lb(nd:ys.Nodup)(hP:xx ys pl)(h:Pre ys pl pl.length rs):my rs:=by have P:=adg nd hP h;refine⟨P.u,λi x f as hi=>?_⟩;obtain⟨m,ps,hp,hl,hj⟩:=P.c i x f as hi;obtain⟨j,h1,h2⟩:=hj (eW.mp hp).1;exact⟨j,ps,h1,h2,hl.symm⟩
theorem Cw(n:Nat)(h:my rs):my (List.replicate n .skip++rs):=by
 have sh:∀i r,(List.replicate n Rw.skip++rs)[i]?=some r->r=.skip\/∃d,i=n+d/\rs[d]?=some r:=by intro i r hi;by_cases hl:i<n;rw[oi (by simpa using hl),Fz,if_pos hl] at hi;exact .inl (Option.some.inj hi).symm;rw[qe (by simpa using hl),BB] at hi;exact .inr ⟨i-n,by omega,hi⟩
 have bk:∀d r,rs[d]?=some r->(List.replicate n Rw.skip++rs)[n+d]?=some r:=λd r hd=>by rw[qe (by simp),BB,Nat.add_sub_cancel_left];exact hd
 refine⟨λi i' f ps Yh h1 h2=>?_,λi x f as h1=>?_⟩;rcases sh i _ h1 with e|⟨d,rfl,hd⟩
 cases e;rcases sh i' _ h2 with e|⟨d',rfl,IH⟩
 cases e;rw[h.un d d' f ps Yh hd IH];rcases sh i _ h1 with e|⟨d,rfl,hd⟩
 cases e;obtain⟨j,ps,hj,hp,hl⟩:=h.ca d x f as hd;exact⟨n+j,ps,by omega,bk j _ hp,hl⟩
end Gen
namespace K5
structure Kd where
 op:Bool
 cl:Bool
 el:Bool
 df:Bool
deriving DecidableEq,Inhabited
section
variable(kd:Nat->Kd)
def st:Nat->qao
 |0=>[]
 |k+1=>let s:=if (kd k).cl=true then (st k).dropLast else st k
  if (kd k).op=true then s++[k] else s
def dp(k:Nat):Nat:=(st kd k).length
structure WF(n:Nat):Prop where
 ex:∀k,k<n->(kd k).op=true->(kd k).cl=false
 cl:∀k,k<n->(kd k).cl=true->st kd k≠[]
 el:∀k,k<n->(kd k).el=true->st kd k≠[]
 nc:∀k,k<n->(kd k).el=true->(kd k).cl=false/\(kd k).op=false
 dn:∀k,k<n->(kd k).df=true->(kd k).op=true
 fin:st kd n=[]
end
section
variable{kd:Nat->Kd}
theorem nJ{k:Nat}(h:(kd k).op=true)(h':(kd k).cl=false):st kd (k+1)=st kd k++[k]:=by simp[st,h,h']
theorem nK{k:Nat}(h:(kd k).cl=true)(h':(kd k).op=false):st kd (k+1)=(st kd k).dropLast:=by simp[st,h,h']
theorem sD{k:Nat}(h:(kd k).cl=false)(h':(kd k).op=false):st kd (k+1)=st kd k:=by simp[st,h,h']
theorem WF.ex'(W:WF kd n){k:Nat}(hk:k<n)(h:(kd k).cl=true):(kd k).op=false:=by
 cases q:(kd k).op with
 |false=>rfl
 |true=>rw[W.ex k hk q] at h;cases h
theorem v8(W:WF kd n){k:Nat}(hk:k<n)(h:(kd k).op=true):dp kd (k+1)=dp kd k+1:=by unfold dp;rw[nJ h (W.ex k hk h)];simp
theorem Ah(W:WF kd n){k:Nat}(hk:k<n)(h:(kd k).cl=true):dp kd (k+1)+1=dp kd k:=by unfold dp;rw[nK h (W.ex' hk h),BF];have:0<(st kd k).length:=XW.mpr (W.cl k hk h);omega
theorem Ai{k:Nat}(h:(kd k).cl=false)(h':(kd k).op=false):dp kd (k+1)=dp kd k:=by unfold dp;rw[sD h h']
theorem Aj(W:WF kd n):∀k,k<=n->∀i j,(st kd k)[i]?=some j->j<k/\(kd j).op=true/\dp kd j=i/\∀m,j<m->m<=k->i<dp kd m
 |0,_,i,j,h=>by simp[st] at h
 |k+1,hk,i,j,h=>by
  have ih:=Aj W k (by omega);have zX:k<n:=by omega
  have ext:∀{i j:Nat},(st kd k)[i]?=some j->i<dp kd (k+1)->j<k+1/\(kd j).op=true/\dp kd j=i/\∀m,j<m->m<=k+1->i<dp kd m:=λ{i j} h hd=>by obtain⟨a,b,c,d⟩:=ih i j h;refine⟨by omega,b,c,λm h1 h2=>?_⟩;by_cases e:m=k+1;rw[e];exact hd;exact d m h1 (by omega)
  by_cases ho:(kd k).op=true;rw[nJ ho (W.ex k zX ho)] at h;have hd:=v8 W zX ho;by_cases hi:i<(st kd k).length;rw[oi hi] at h;exact ext h (by rw[hd];exact Tj hi);rw[qe (by omega)] at h;have e:i-(st kd k).length=0:=by
   cases q:i-(st kd k).length with
   |zero=>rfl
   |succ r=>rw[q] at h;simp at h
  rw[e] at h;simp at h;subst h;have ei:i=dp kd k:=by unfold dp;omega
  refine⟨by omega,ho,ei.symm,λm h1 h2=>?_⟩;have:m=k+1:=by omega
  rw[this,hd,ei];omega;have jP:(kd k).op=false:=by cases q:(kd k).op<;>simp_all
  by_cases hc:(kd k).cl=true;rw[nK hc jP] at h;have hi:i<(st kd k).dropLast.length:=(eW.mp h).1;have hd:dp kd (k+1)=(st kd k).dropLast.length:=by unfold dp;rw[nK hc jP]
  rw[Tf,if_pos (by rw[BF] at hi;exact hi)] at h;exact ext h (by rw[hd];exact hi);have m4:(kd k).cl=false:=by cases q:(kd k).cl<;>simp_all
  rw[sD m4 jP] at h;have hd:dp kd (k+1)=dp kd k:=Ai m4 jP;exact ext h (by rw[hd];exact (eW.mp h).1)
theorem Sz(W:WF kd n){j:Nat}(ho:(kd j).op=true):∀k,j<k->k<=n->(∀m,j<m->m<=k->dp kd j<dp kd m)->(st kd k)[dp kd j]?=some j
 |0,h,_,_=>by omega
 |k+1,h,hk,hm=>by
  have zX:k<n:=by omega
  by_cases e:j=k;subst e;rw[nJ ho (W.ex j zX ho)];unfold dp;rw[qe (c_ _)];simp;have ih:=Sz W ho k (by omega) (by omega) λm h1 h2=>hm m h1 (by omega);have hd:=hm (k+1) (by omega) (c_ _);by_cases jP:(kd k).op=true;rw[nJ jP (W.ex k zX jP),oi (eW.mp ih).1];exact ih;have Vw:(kd k).op=false:=by cases q:(kd k).op<;>simp_all
  by_cases hc:(kd k).cl=true;have hl:dp kd (k+1)=(st kd k).length-1:=by unfold dp;rw[nK hc Vw,BF]
  rw[nK hc Vw,Tf,if_pos (by omega)];exact ih;have m4:(kd k).cl=false:=by cases q:(kd k).cl<;>simp_all
  rw[sD m4 Vw];exact ih
def lq(kd:Nat->Kd)(n d:Nat):Nat->Nat->Option Nat
 |0,_=>none
 |f+1,k=>if k<n then (if dp kd (k+1)=d then some k else lq kd n d f (k+1)) else none
def endOf(kd:Nat->Kd)(n j:Nat):Option Nat:=lq kd n (dp kd j) (n-(j+1)) (j+1)
theorem nL{d:Nat}:∀{f k e:Nat},lq kd n d f k=some e->k<=e/\e<n/\dp kd (e+1)=d/\∀m,k<=m->m<e->dp kd (m+1)≠d
 |0,_,_,h=>by cases h
 |f+1,k,e,h=>by
  simp only[lq] at h;split at h
  rename_i hk
  split at h
  rename_i hd
  cases h;exact⟨c_ _,hk,hd,λm h1 h2=>by omega⟩
  rename_i hd
  obtain⟨a,b,c,r⟩:=nL h;refine⟨by omega,b,c,λm h1 h2=>?_⟩;by_cases em:m=k;rw[em];exact hd;exact r m (by omega) h2;cases h
theorem nM{d:Nat}:∀{f k:Nat},lq kd n d f k=none->∀m,k<=m->m<k+f->m<n->dp kd (m+1)≠d
 |0,k,_,m,h1,h2,_=>by omega
 |f+1,k,h,m,h1,h2,h3=>by
  simp only[lq] at h;split at h;split at h;cases h
  rename_i hd
  by_cases em:m=k;rw[em];exact hd;exact nM h m (by omega) (by omega) h3;omega
theorem PZ(W:WF kd n){k:Nat}(hk:k<n):dp kd k<=dp kd (k+1)+1:=by
 by_cases ho:(kd k).op=true;rw[v8 W hk ho];omega;have jP:(kd k).op=false:=by cases q:(kd k).op<;>simp_all
 by_cases hc:(kd k).cl=true;rw[Ah W hk hc];exact c_ _;have m4:(kd k).cl=false:=by cases q:(kd k).cl<;>simp_all
 rw[Ai m4 jP];omega
theorem above(W:WF kd n){j:Nat}(hj:j<n)(ho:(kd j).op=true):∀k,j<k->k<=n->(∀m,j<m->m<k->dp kd (m+1)≠dp kd j)->∀m,j<m->m<=k->dp kd j<dp kd m
 |0,h,_,_,m,_,_=>by omega
 |k+1,h,hk,ik,m,h1,h2=>by by_cases em:m=k+1;subst em;by_cases e:j=k;subst e;rw[v8 W hj ho];omega;have ih:=above W hj ho k (by omega) (by omega) (λm a b=>ik m a (by omega)) k (by omega) (c_ _);have s:=PZ W (k:=k) (by omega);have ne:=ik k (by omega) (by omega);omega;by_cases e:j=k;omega;exact above W hj ho k (by omega) (by omega) (λm a b=>ik m a (by omega)) m h1 (by omega)
theorem end_is(W:WF kd n)(hj:j<n)(ho:(kd j).op=true):∃e,endOf kd n j=some e/\j<e/\e<n/\dp kd (e+1)=dp kd j/\∀m,j<m->m<e->dp kd (m+1)≠dp kd j:=by
 cases h:endOf kd n j with
 |some e=>obtain⟨a,b,c,d⟩:=nL h;exact⟨e,rfl,by omega,b,c,λm h1 h2=>d m (by omega) h2⟩
 |none=>
  exfalso;have q:=nM h;have a:=above W hj ho n hj (c_ _) (λm h1 h2=>q m (by omega) (by omega) h2) n hj (c_ _);have z:dp kd n=0:=by unfold dp;rw[W.fin];rfl
  omega
theorem lr:∀k,(st kd k).Pairwise (·<·)/\∀j∈st kd k,j<k
 |0=>⟨List.Pairwise.nil,λj h=>(by simp[st] at h)⟩
 |k+1=>by
  obtain⟨h1,h2⟩:=lr k;have base:∀{s:qao},s.Sublist (st kd k)->s.Pairwise (·<·)/\∀j∈s,j<k:=λsl=>⟨h1.sublist sl,λj h=>h2 j (sl.subset h)⟩;have key:∀{s:qao},s.Sublist (st kd k)->(if (kd k).op=true then s++[k] else s).Pairwise (·<·)/\∀j∈(if (kd k).op=true then s++[k] else s),j<k+1:=λ{s} sl=>by
   obtain⟨a,b⟩:=base sl;split;refine⟨List.pairwise_append.mpr ⟨a,List.pairwise_singleton _ _,λx hx y hy=>by rw[jV.mp hy];exact b x hx⟩,λj hj=>?_⟩;rcases cU.mp hj with h|h
   exact Tj (b j h);rw[jV.mp h];exact ID _;exact⟨a,λj hj=>Tj (b j hj)⟩
  simp only[st];by_cases hc:(kd k).cl=true;rw[if_pos hc];exact key (List.dropLast_sublist _);rw[if_neg hc];exact key (List.Sublist.refl _)
def endsAt(kd:Nat->Kd)(n j:Nat):Option Nat:=if (kd j).op=true then endOf kd n j else none
theorem P0(W:WF kd n){k:Nat}(hk:k<n)(hc:(kd k).cl=true)(ht:(st kd k).getLast?=some j):endsAt kd n j=some k/\j<k:=by
 have hl:(st kd k)[(st kd k).length-1]?=some j:=by rw[<- y3];exact ht
 obtain⟨a,b,c,d⟩:=Aj W k (by omega) _ j hl;obtain⟨e,h1,h2,h3,h4,h5⟩:=end_is W (by omega) b;refine⟨?_,a⟩;unfold endsAt;rw[if_pos b,h1]
 congr 1
 have hd:=Ah W hk hc;have m6:dp kd (k+1)=dp kd j:=by rw[c];unfold dp at hd ⊢;omega
 rcases Nat.lt_or_ge e k with l|l
 have:=d (e+1) (by omega) (by omega);omega;rcases Nat.lt_or_ge k e with l2|l2
 exact absurd m6 (h5 k a l2);omega
theorem xF(W:WF kd n){k:Nat}(hk:k<n)(he:endsAt kd n j=some k)(hj:j<n):(kd k).cl=true/\(st kd k).getLast?=some j:=by
 unfold endsAt at he;by_cases ho:(kd j).op=true;rw[if_pos ho] at he;obtain⟨e,h1,h2,h3,h4,h5⟩:=end_is W hj ho;rw[h1] at he;cases he;have ab:=above W hj ho k h2 (by omega) λm x y=>h5 m x y;have oH:=ab k h2 (c_ _);have hc:(kd k).cl=true:=by
  cases q:(kd k).cl with
  |true=>rfl
  |false=>exfalso;by_cases jP:(kd k).op=true;rw[v8 W hk jP] at h4;omega;rw[Ai q (by cases r:(kd k).op<;>simp_all)] at h4;omega
 refine⟨hc,?_⟩;have hd:=Ah W hk hc;have:=Sz W ho k h2 (by omega) ab;rw[y3];have e:(st kd k).length-1=dp kd j:=by unfold dp at hd h4 ⊢;omega
 rw[e];exact this;rw[if_neg ho] at he;cases he
end
end K5
namespace K5
open PySem L2 VT Gen
def wordOf:Rw->Str
 |.df _ _=>"def" | .give _=>"give" | .put _ _=>"put" | .m8 _ _ _ _=>"do" | .new _=>"new" | .get _ _ _=>"get" | .set _ _ _=>"set" | .call _ _ _=>"call" | .fail _=>"fail"
 |.mn _=>"if" | .mq=>"else" | .gS _=>"while" | .fin=>"end" | .skip=>"skip"
theorem i5(r:Rw):∃l,aW r=.tup (.str (wordOf r)::l):=by cases r<;>exact⟨_,rfl⟩
def a9:Rw->Kd
 |.df _ _=>⟨true,false,false,true⟩
 |.give _=>⟨false,true,false,false⟩
 |.mn _=>⟨true,false,false,false⟩
 |.mq=>⟨false,false,true,false⟩
 |.gS _=>⟨true,false,false,false⟩
 |.fin=>⟨false,true,false,false⟩
 |_=>⟨false,false,false,false⟩
theorem adh(r:Rw):decide (wordOf r="def")=(a9 r).df:=by cases r<;>first|rfl|decide +kernel
theorem adi(r:Rw):decide (wordOf r="else")=(a9 r).el:=by cases r<;>first|rfl|decide +kernel
theorem adj(r:Rw):Cc (.str (wordOf r)) [.str "give",.str "end"]=(a9 r).cl:=by cases r<;>first|rfl|decide +kernel
theorem adk(r:Rw):Cc (.str (wordOf r)) [.str "def",.str "if",.str "while"]=(a9 r).op:=by cases r<;>first|rfl|decide +kernel
def bw(rs:qal)(k:Nat):Kd:=match rs[k]? with
 |some r=>a9 r
 |none=>⟨false,false,false,false⟩
theorem fS{k:Nat}(h:rs[k]?=some r):bw rs k=a9 r:=by unfold bw;rw[h]
def Yi(rs:qal):Prop:=WF (bw rs) rs.length
def oT:Option Nat->T
 |none=>.aP
 |some k=>.int (k:Int)
def tab(f:Nat->Option Nat)(n k:Nat):qaj:=(List.range n).map λi=>if i<k then oT (f i) else .aP
def jT(e:Nat->Option Nat)(n k:Nat):qaj:=(List.range n).map λj=>match e j with
 |some m=>if m<k then .int (m:Int) else .aP
 |none=>.aP
theorem nN(f n k):(tab f n k).length=n:=by simp[tab]
theorem Ak(f n k):(jT f n k).length=n:=by simp[jT]
theorem Am(f n):tab f n 0=List.replicate n .aP:=by unfold tab;rw[List.eq_replicate_iff];exact⟨by simp,λx hx=>by simp at hx;exact hx.2.symm⟩
theorem G8(f n):jT f n 0=List.replicate n .aP:=by unfold jT;rw[List.eq_replicate_iff];refine⟨by simp,λx hx=>?_⟩;obtain⟨j,_,rfl⟩:=vz.mp hx;split<;>simp
theorem qR{f:Nat->Option Nat}{k:Nat}:(tab f n k).set k (oT (f k))=tab f n (k+1):=by refine RE λi=>?_;rw[YR,nN];unfold tab;rw[ie,ie];by_cases hi:i<n;rw[N0 hi];by_cases e:k=i;subst e;rw[if_pos rfl,if_pos hi];simp;rw[if_neg e];simp only[X2];by_cases l:i<k;rw[if_pos l,if_pos (by omega)];rw[if_neg l,if_neg (by omega)];rw[NA (by simp;omega)];split;rw[if_neg (by omega)];rfl;rfl
theorem An{f:Nat->Option Nat}{k:Nat}(h:f k=none):tab f n k=tab f n (k+1):=by unfold tab;refine YQ λi _=>?_;by_cases e:i=k;subst e;rw[if_neg (N5 _),if_pos (ID _),h];rfl;by_cases l:i<k;rw[if_pos l,if_pos (by omega)];rw[if_neg l,if_neg (by omega)]
theorem Ao(f n):tab f n n=(List.range n).map λi=>oT (f i):=by unfold tab;exact YQ λi hi=>by rw[if_pos (Ef.mp hi)]
theorem Lc{e:Nat->Option Nat}{k:Nat}(h:e j=some k)(u:∀i,i<n->e i=some k->i=j):(jT e n k).set j (.int (k:Int))=jT e n (k+1):=by
 refine RE λi=>?_;rw[YR,Ak];unfold jT;rw[ie,ie];by_cases hi:i<n;rw[List.getElem?_range hi];by_cases q:j=i;subst q;rw[if_pos rfl,if_pos hi];simp[h];rw[if_neg q];simp only[X2];cases r:e i with
 |none=>rfl
 |some m=>have:m≠k:=λz=>q (u i hi (by rw[r,z])).symm;simp only;by_cases l:m<k;rw[if_pos l,if_pos (by omega)];rw[if_neg l,if_neg (by omega)]
 rw[NA (by simp;omega)];split;rw[if_neg (by omega)];rfl;rfl
theorem G9{e:Nat->Option Nat}{k:Nat}(u:∀i,i<n->e i≠some k):jT e n k=jT e n (k+1):=by
 unfold jT;refine YQ λi hi=>?_;cases r:e i with
 |none=>rfl
 |some m=>have:m≠k:=λz=>u i (Ef.mp hi) (by rw[r,z]);simp only;by_cases l:m<k;rw[if_pos l,if_pos (by omega)];rw[if_neg l,if_neg (by omega)]
theorem G_{e:Nat->Option Nat}(h:∀j m,j<n->e j=some m->m<n):jT e n n=(List.range n).map λi=>oT (e i):=by
 unfold jT;refine YQ λi hi=>?_;cases r:e i with
 |none=>rfl
 |some m=>simp only;rw[if_pos (h i m (Ef.mp hi) r)];rfl
section
variable(kd:Nat->Kd)
def nP(k:Nat):Option Nat:=(st kd k).getLast?
def BD(k:Nat):Option Nat:=if (kd k).df=true then some k else (st kd k).head?
def yX(n:Nat):Nat->qaj
 |0=>List.replicate n .aP
 |k+1=>match (kd k).el,nP kd k with
  |true,some h=>(yX n k).set h (.int (k:Int))
  |_,_=>yX n k
end
theorem qS(kd n):∀k,(yX kd n k).length=n
 |0=>by simp[yX]
 |k+1=>by simp only[yX];split;rw[NF];exact qS kd n k;exact qS kd n k
def Ld(rs:qal):qaj:=[.lst ((List.range rs.length).map λi=>oT (nP (bw rs) i)),.lst ((List.range rs.length).map λi=>oT (endsAt (bw rs) rs.length i)),.lst (yX (bw rs) rs.length rs.length),.lst ((List.range rs.length).map λi=>oT (BD (bw rs) i))]
theorem Le(rs:qal):eS (rs.map aW)=(rs.zipIdx).map λp=>.tup [.int (p.2:Int),aW p.1]:=by unfold eS;refine RE λi=>?_;rw[YN,ie,ie,YO];cases rs[i]?<;>simp
def dr:Nat->qal->Option Nat
 |d,[]=>some d
 |d,r::rs=>if (a9 r).cl=true then (if d=0 then none else dr (d-1) rs) else if (a9 r).el=true then (if d=0 then none else dr d rs) else if (a9 r).op=true then dr (d+1) rs else dr d rs
theorem gA:∀(a b:qal)(d:Nat),dr d (a++b)=(dr d a).bind λe=>dr e b
 |[],b,d=>rfl
 |r::a,b,d=>by simp only[RF,dr];split;split;rfl;exact gA a b _;split;split;rfl;exact gA a b _;split;exact gA a b _;exact gA a b _
theorem Vx(rs:qal){k:Nat}(h:rs[k]?=some r):(st (bw rs) (k+1)).length=(if (a9 r).cl=true then (st (bw rs) k).length-1 else if (a9 r).op=true then (st (bw rs) k).length+1 else (st (bw rs) k).length):=by
 have pW:=fS h;by_cases hc:(a9 r).cl=true;have ho:(a9 r).op=false:=by cases r<;>first|rfl|(cases hc)
 rw[if_pos hc,nK (by rw[pW];exact hc) (by rw[pW];exact ho),BF];have m4:(a9 r).cl=false:=by cases q:(a9 r).cl<;>simp_all
 rw[if_neg hc];by_cases ho:(a9 r).op=true;rw[if_pos ho,nJ (by rw[pW];exact ho) (by rw[pW];exact m4)];simp;rw[if_neg ho,sD (by rw[pW];exact m4) (by rw[pW];cases q:(a9 r).op<;>simp_all)]
theorem qT{rs:qal}(h:dr 0 rs=some 0):∀k,k<=rs.length->dr 0 (rs.take k)=some (st (bw rs) k).length
 |0,_=>rfl
 |k+1,hk=>by
  have ih:=qT h k (by omega);have e:rs[k]?=some rs[k]:=by simp
  have et:rs.take (k+1)=rs.take k++[rs[k]]:=by rw[List.take_succ,e];rfl
  have hs:(dr 0 (rs.take (k+1))).isSome=true:=by
   rw[<- ab6 (k+1) rs,gA] at h;cases q:dr 0 (rs.take (k+1)) with
   |some _=>rfl
   |none=>rw[q] at h;cases h
  rw[et,gA,ih,XZ] at hs ⊢;rw[Vx rs e];simp only[dr] at hs ⊢;by_cases hc:(a9 rs[k]).cl=true;rw[if_pos hc,if_pos hc] at *;by_cases z:(st (bw rs) k).length=0;rw[if_pos z] at hs;cases hs;rw[if_neg z]
  . rw[if_neg hc,if_neg hc] at *;by_cases hl:(a9 rs[k]).el=true
    . have ho:¬ (a9 rs[k]).op=true:=by generalize rs[k]=r at hl;cases r<;>first|(cases hl;done)|(intro z;cases z)
      rw[if_pos hl,if_neg ho] at *;by_cases z:(st (bw rs) k).length=0;rw[if_pos z] at hs;cases hs;rw[if_neg z]
    rw[if_neg hl] at *;split<;>rfl
theorem adl(h:dr 0 rs=some 0):Yi rs:=by
 have at':∀{k:Nat},k<rs.length->∃r,rs[k]?=some r/\bw rs k=a9 r:=λ{k} hk=>⟨rs[k],by simp,fS (by simp)⟩;have step:∀{k:Nat}{r:Rw},rs[k]?=some r->(a9 r).cl=true\/(a9 r).el=true->st (bw rs) k≠[]:=λ{k r} hr Jw z=>by
  have hk:k<rs.length:=(eW.mp hr).1;have h1:=qT h k (by omega);have h2:=qT h (k+1) (by omega);have et:rs.take (k+1)=rs.take k++[r]:=by rw[List.take_succ,hr];rfl
  rw[et,gA,h1,XZ,z] at h2;simp only[dr,X3] at h2;obtain q|q:=Jw
  rw[if_pos q,if_pos True.intro] at h2;cases h2;by_cases q2:(a9 r).cl=true;rw[if_pos q2,if_pos True.intro] at h2;cases h2;rw[if_neg q2,if_pos q,if_pos True.intro] at h2;cases h2
 refine⟨λk hk ho=>?_,λk hk hc=>?_,λk hk hc=>?_,λk hk hc=>?_,λk hk hc=>?_,?_⟩;obtain⟨r,hr,e⟩:=at' hk;rw[e] at ho ⊢;cases r<;>first|rfl|(cases ho)
 obtain⟨r,hr,e⟩:=at' hk;exact step hr (.inl (by rw[<- e];exact hc));obtain⟨r,hr,e⟩:=at' hk;exact step hr (.inr (by rw[<- e];exact hc));obtain⟨r,hr,e⟩:=at' hk;rw[e] at hc ⊢;cases r<;>first|exact⟨rfl,rfl⟩|(cases hc)
 obtain⟨r,hr,e⟩:=at' hk;rw[e] at hc ⊢;cases r<;>first|rfl|(cases hc)
 have:=qT h rs.length (c_ _);rw[List.take_length,h] at this;exact Rz.mp (Option.some.inj this).symm
theorem Ap(h:i4 ys pl r):(a9 r).cl=false/\(a9 r).el=false/\(a9 r).op=false:=by cases r<;>first|exact⟨rfl,rfl,rfl⟩|exact h.elim
theorem Vy{bS new dF}(h:mw ys pl bS new dF){d:Nat}(hd:0<d):dr (d+bS.length) new=some (d+dF.length):=by
 obtain⟨o,_,rfl,rfl⟩|⟨o,_,rfl,rfl⟩|⟨y,_,rfl,rfl⟩|⟨s0,rfl,rfl,rfl⟩|⟨s0,x,rfl,rfl,rfl⟩|⟨r,hs,rfl,rfl⟩:=h
 simp[dr,a9];omega;simp[dr,a9];omega;simp[dr,a9];omega;simp[dr,a9];simp[dr,a9];obtain⟨a,b,c⟩:=Ap hs;simp[dr,a,b,c]
theorem P4{later:Plan}{bS:qai}{body:qal}(h:Body ys later bS body){d:Nat}(hd:0<d):dr d body=some (d+bS.length):=by
 induction h with
 |nil=>rfl
 |step _ hl ih=>rw[gA,ih,XZ];exact Vy hl hd
theorem E7:∀(n d:Nat),dr (d+n) (List.replicate n Rw.fin)=some d
 |0,d=>rfl
 |n+1,d=>by rw[ud];simp only[dr,a9,if_true];rw[if_neg (by omega)];exact E7 n d
theorem Vz{k:Nat}(h:Pre ys pl k rs):dr 0 rs=some 0:=by
 induction h with
 |zero=>rfl
 |succ _ _ hb _ hsk ih=>rw[gA,ih,XZ];show dr 1 _=some 0;rw[gA,P4 hb (by decide),XZ,gA,E7,XZ];obtain rfl|rfl:=hsk<;>rfl
end K5
namespace Lay
open PySem L2 VT Gen K5
def Yj(l:List (Str×Nat)):T:=.dk (l.map λp=>(Sum.inr p.1:Key)) (l.map λp=>T.int (p.2:Int))
theorem Lf(l:List (Str×Nat))(f:Str):dj (l.map λp=>(Sum.inr p.1:Key)) (l.map λp=>T.int (p.2:Int)) (Sum.inr f)=(yW l f).map λi=>T.int (i:Int):=by
 induction l with
 |nil=>rfl
 |cons p l ih=>obtain⟨k,i⟩:=p;simp only[ix,dj,yW];by_cases h:k=f;rw[if_pos h,if_pos (by rw[h])];rfl;rw[if_neg h,if_neg (λz=>h (Sum.inr.inj z))];exact ih
theorem sE(rs:qal):∀n,(bc rs n).length<=n
 |0=>c_ _
 |n+1=>by
  have:=sE rs n;simp only[bc];split
  rename_i r _
  cases r<;>simp only[NS]<;>first
   |omega
   | (split<;>simp<;>omega)
  omega
def adm:Rw->Bool
 |.df _ _=>true
 |_=>false
def fB(rs:qal):Option Nat:=rs.findIdx? adm
theorem v_(rs:qal):∀n,∀p∈bc rs n,p.2<n/\∃ps,rs[p.2]?=some (.df p.1 ps)
 |0,p,h=>nomatch h
 |n+1,p,h=>by
  have old:p∈bc rs n->p.2<n+1/\∃ps,rs[p.2]?=some (.df p.1 ps):=λh=>by have:=v_ rs n p h;exact⟨by omega,this.2⟩
  simp only[bc] at h;split at h
  rename_i r hr
  cases r with
  |df g ps=>
   simp only[NS] at h;split at h;exact old h;rcases cU.mp h with z|z
   exact old z;rw[jV] at z;subst z;exact⟨ID _,ps,hr⟩
  |_=>exact old h
  exact old h
theorem iD{rs:qal}{i:Nat}(h:∀j,j<i->∀f ps,rs[j]?≠some (.df f ps)):∀n≤i,bc rs n=[]
 |0,_=>rfl
 |n+1,hn=>by
  simp only[bc];split
  rename_i r hr
  rw[iD h n (by omega)];cases r with
  |df g ps=>exact absurd hr (h n (by omega) g ps)
  |_=>rfl
  exact iD h n (by omega)
theorem km{rs:qal}{i:Nat}{g:Str}{ps:qai}(hi:rs[i]?=some (.df g ps))(h:∀j,j<i->∀f ps,rs[j]?≠some (.df f ps)):∀n,i<n->∃l,bc rs n=(g,i)::l
 |0,hn=>absurd hn (Nat.not_lt_zero _)
 |n+1,hn=>by
  by_cases e:i=n;subst e;refine⟨[],?_⟩;simp only[bc,hi,NS];rw[iD h i (c_ _)];rfl;obtain⟨l,hl⟩:=km hi h n (by omega);simp only[bc];rw[hl];split
  rename_i r _
  cases r with
  |df f qs=>simp only[NS];split;exact⟨l,rfl⟩;exact⟨l++[(f,n)],rfl⟩
  |_=>exact⟨l,rfl⟩
  exact⟨l,rfl⟩
theorem P5(h:adm r=true):∃f ps,r=.df f ps:=by
 cases r with
 |df f ps=>exact⟨f,ps,rfl⟩
 |_=>cases h
theorem i6(h:fB rs=some i):(∃f ps,rs[i]?=some (.df f ps))/\∀j,j<i->∀f ps,rs[j]?≠some (.df f ps):=by unfold fB at h;rw[List.findIdx?_eq_some_iff_getElem] at h;obtain⟨hl,h1,h2⟩:=h;obtain⟨f,ps,e⟩:=P5 h1;refine⟨⟨f,ps,by rw[lT hl,e]⟩,λj hj f ps e=>?_⟩;obtain⟨U6,ej⟩:=eW.mp e;have:=h2 j hj;rw[ej] at this;exact this rfl
theorem wa(h:fB rs=none):∀(j:Nat) f ps,rs[j]?≠some (Rw.df f ps):=by unfold fB at h;rw[List.findIdx?_eq_none_iff] at h;intro j f ps e;have:=h _ (iw e);cases this
theorem Cy(h:fB rs=none):bc rs rs.length=[]:=iD (i:=rs.length) (λj _=>wa h j) _ (c_ _)
theorem Lg{m:Int}(h1:m∈(bc rs rs.length).map λp=>(p.2:Int))(h2:∀i∈(bc rs rs.length).map λp=>(p.2:Int),m<=i):T.int m=oT (fB rs):=by
 cases e:fB rs with
 |none=>rw[Cy e] at h1;cases h1
 |some i=>
  obtain⟨⟨g,ps,hi⟩,hm⟩:=i6 e;obtain⟨l,hl⟩:=km hi hm rs.length (eW.mp hi).1;obtain⟨p,hp,rfl⟩:=vz.mp h1;obtain⟨_,qs,hq⟩:=v_ rs _ p hp;have le1:(p.2:Int)<=(i:Int):=h2 _ (vz.mpr ⟨(g,i),by rw[hl];exact dP,rfl⟩);have le2:¬ p.2<i:=λz=>hm _ z _ _ hq;have:p.2=i:=by omega
  rw[this];rfl
def P6(rs:qal):qaj:=(List.range rs.length).map λi=>oT (nP (bw rs) i)
def E8(rs:qal):qaj:=(List.range rs.length).map λi=>oT (endsAt (bw rs) rs.length i)
def VB(rs:qal):qaj:=yX (bw rs) rs.length rs.length
def adn(rs:qal):qaj:=(List.range rs.length).map λi=>oT (BD (bw rs) i)
theorem Lh(rs:qal):Ld rs=[.lst (P6 rs),.lst (E8 rs),.lst (VB rs),.lst (adn rs)]:=rfl
def cb(C:Addr)(rs:qal):T:=.ins C ["program","heads","ends","elses","homes","defs","main"] [.lst (rs.map aW),.lst (P6 rs),.lst (E8 rs),.lst (VB rs),.lst (adn rs),Yj (bc rs rs.length),oT (fB rs)]
section
theorem kn(h:rs[i]?=some r):jQ (rs.map aW) (i:Int)=some (aW r):=ah (by rw[ie,h];rfl)
theorem VF(h:i<rs.length):jQ (P6 rs) (i:Int)=some (oT (nP (bw rs) i)):=ah (by unfold P6;rw[ie,N0 h];rfl)
theorem E9(h:i<rs.length):jQ (E8 rs) (i:Int)=some (oT (endsAt (bw rs) rs.length i)):=ah (by unfold E8;rw[ie,N0 h];rfl)
end
def Ev(rs:qal)(k j:Nat):Prop:=∃k',k'<k/\rs[k']?=some .mq/\nP (bw rs) k'=some j
structure Al(rs:qal)(k:Nat)(s:qai):Prop where
 len:s.length=(st (bw rs) k).length
 wds:∀i j:Nat,(st (bw rs) k)[i]?=some j->∃r,rs[j]?=some r/\((¬ Ev rs k j/\s[i]?=some (wd r))\/(Ev rs k j/\s[i]?=some ("else":Str)/\wd r="if"))
 bot:∀(i:Nat)(x:Str),s[i]?=some x->(x=("def":Str)↔i=0)
theorem ado(h:wd r="if"):∃a,r=.mn a:=by cases r<;>first|exact⟨_,rfl⟩|exact absurd h (by show ¬ ((_:Str)="if");simp only[wd];decide +kernel)
theorem Ev.succ{rs:qal}{k j:Nat}(h:Ev rs k j):Ev rs (k+1) j:=let ⟨k',a,b⟩:=h;⟨k',Tj a,b⟩
theorem xG{k:Nat}(h:rs[k]?≠some .mq):Ev rs (k+1) j↔Ev rs k j:=by refine⟨λ⟨k',a,b,c⟩=>?_,Ev.succ⟩;by_cases e:k'=k;subst e;exact absurd b h;exact⟨k',by omega,b,c⟩
section
theorem P7{k:Nat}{s:qai}(A:Al rs k s)(hs:st (bw rs) (k+1)=st (bw rs) k)(he:rs[k]?≠some .mq):Al rs (k+1) s :=
 ⟨by rw[hs];exact A.len,λi j h=>by rw[hs] at h;obtain⟨r,h1,h2⟩:=A.wds i j h;exact⟨r,h1,by rw[xG he];exact h2⟩,A.bot⟩
theorem E_{k:Nat}{s:qai}(A:Al rs k s)(hs:st (bw rs) (k+1)=(st (bw rs) k).dropLast)(he:rs[k]?≠some .mq):Al rs (k+1) s.dropLast :=
 ⟨by rw[hs,BF,BF,A.len],λi j h=>by
  rw[hs] at h;have hi:=(eW.mp h).1;rw[BF] at hi;rw[Tf,if_pos hi] at h;obtain⟨r,h1,h2⟩:=A.wds i j h;rw[Tf,if_pos (by rw[A.len];exact hi)];exact⟨r,h1,by rw[xG he];exact h2⟩,λi x h=>by
  have hi:=(eW.mp h).1;rw[BF] at hi;rw[Tf,if_pos hi] at h;exact A.bot i x h⟩
theorem xH{k:Nat}{s:qai}(W:Yi rs)(hk:k<rs.length)(A:Al rs k s)(hr:rs[k]?=some r)(hs:st (bw rs) (k+1)=st (bw rs) k++[k])(he:r≠.mq)(hb:wd r=("def":Str)↔s=[]):Al rs (k+1) (s++[wd r]):=by
 have he':rs[k]?≠some .mq:=by rw[hr];intro z;exact he (Option.some.inj z)
 have nev:¬ Ev rs (k+1) k:=λ⟨k',a,b,c⟩=>by
  have zX:k'<=k:=by omega
  unfold nP at c;have hm:k∈st (bw rs) k':=List.mem_of_getLast? c;have:=(lr (kd:=bw rs) k').2 k hm;omega
 refine⟨by rw[hs,pH,pH,A.len];rfl,λi j h=>?_,λi x h=>?_⟩;rw[hs] at h;by_cases hi:i<(st (bw rs) k).length;rw[oi hi] at h;rw[oi (by rw[A.len];exact hi)];obtain⟨r',h1,h2⟩:=A.wds i j h;exact⟨r',h1,by rw[xG he'];exact h2⟩;rw[qe (by omega)] at h;have e:i-(st (bw rs) k).length=0:=by
  cases q:i-(st (bw rs) k).length with
  |zero=>rfl
  |succ m=>rw[q] at h;simp at h
 rw[e] at h;simp at h;subst h;refine⟨r,hr,.inl ⟨nev,?_⟩⟩;rw[qe (by rw[A.len];omega),A.len,e];rfl;by_cases hi:i<s.length;rw[oi hi] at h;exact A.bot i x h;rw[qe (by omega)] at h;have e:i-s.length=0:=by
  cases q:i-s.length with
  |zero=>rfl
  |succ m=>rw[q] at h;simp at h
 rw[e] at h;simp at h;subst h;rw[hb];constructor;rintro rfl;simpa using e;rintro rfl;have:s.length=0:=by omega
 exact Rz.mp this
theorem P8{k:Nat}{s:qai}(A:Al rs k s)(hr:rs[k]?=some .mq)(hl:s.getLast?=some ("if":Str))(hs:st (bw rs) (k+1)=st (bw rs) k):Al rs (k+1) (s.dropLast++[("else":Str)]):=by
 have ik:s≠[]:=by rintro rfl;cases hl
 have agh:0<s.length:=XW.mpr ik;have y':s[s.length-1]?=some ("if":Str):=by rw[<- y3];exact hl
 refine⟨by rw[hs,pH,BF,<- A.len];simp;omega,λi j h=>?_,λi x h=>?_⟩;rw[hs] at h;have hi:i<s.length:=by rw[A.len];exact (eW.mp h).1
 obtain⟨r,h1,h2⟩:=A.wds i j h;by_cases e:i=s.length-1;subst e;have hh:nP (bw rs) k=some j:=by unfold nP;rw[y3,<- A.len];exact h
 refine⟨r,h1,.inr ⟨⟨k,ID _,hr,hh⟩,?_,?_⟩⟩;rw[qe (by rw[BF];omega),BF,Tr];rfl;obtain⟨_,h2⟩|⟨_,h2,_⟩:=h2
 rw[y'] at h2;exact (Option.some.inj h2).symm;rw[y'] at h2;exact absurd (Option.some.inj h2) (by decide +kernel);have agi:¬ nP (bw rs) k=some j:=λz=>by unfold nP at z;rw[y3,<- A.len] at z;have hw:=(lr (kd:=bw rs) k).1;obtain⟨a1,b1⟩:=eW.mp h;obtain⟨a2,b2⟩:=eW.mp z;have:=(List.pairwise_iff_getElem.mp hw) i (s.length-1) a1 a2 (by omega);omega
 have hev:Ev rs (k+1) j↔Ev rs k j:=by refine⟨λ⟨k',a,b,c⟩=>?_,Ev.succ⟩;by_cases e:k'=k;subst e;exact absurd c agi;exact⟨k',by omega,b,c⟩
 refine⟨r,h1,?_⟩;rw[hev,oi (by rw[BF];omega),Tf,if_pos (by omega)];exact h2;by_cases hi:i<s.dropLast.length;rw[oi hi] at h;rw[BF] at hi;rw[Tf,if_pos hi] at h;exact A.bot i x h;rw[qe (by omega)] at h;have e:i-s.dropLast.length=0:=by
  cases q:i-s.dropLast.length with
  |zero=>rfl
  |succ m=>rw[q] at h;simp at h
 rw[e] at h;simp at h;subst h;rw[BF] at e hi;have ei:i=s.length-1:=by omega
 have hbo:=A.bot (s.length-1) _ y';constructor;intro z;exact absurd z (by decide +kernel);intro z;rw[ei] at z;exact absurd (hbo.mpr z) (by decide +kernel)
theorem ko{s:qai}(h:gz s x=true)(e:s=[]):x="def"\/x="skip":=by subst e;have:Cc (.str x) ([("def":Str),"skip"].map T.str)=true:=h;rw[E5] at this;simpa using this
theorem kq{s:qai}{l:Str}(h:gz s x=true)(e:s.getLast?=some l):(x="give"->l="def")/\(x="else"->l="if")/\(x="end"->l≠"def")/\x≠"def":=by unfold gz at h;rw[e] at h;dsimp only at h;by_cases h1:x="give";rw[if_pos h1] at h;subst h1;exact⟨λ_=>of_decide_eq_true h,λz=>absurd z (by decide +kernel),λz=>absurd z (by decide +kernel),by decide +kernel⟩;rw[if_neg h1] at h;by_cases h2:x="else";rw[if_pos h2] at h;subst h2;exact⟨λz=>absurd z h1,λ_=>of_decide_eq_true h,λz=>absurd z (by decide +kernel),by decide +kernel⟩;rw[if_neg h2] at h;by_cases h3:x="end";rw[if_pos h3] at h;subst h3;exact⟨λz=>absurd z h1,λz=>absurd z h2,λ_=>by simpa using h,by decide +kernel⟩;rw[if_neg h3] at h;exact⟨λz=>absurd z h1,λz=>absurd z h2,λz=>absurd z h3,by simpa using h⟩
theorem Li(s:qai)(h1:(a9 r).op=false)(h2:(a9 r).cl=false)(h3:(a9 r).el=false):mx s (wd r)=s:=by
 have k:∀x:Str,(x="put"\/x="do"\/x="new"\/x="get"\/x="set"\/x="call"\/x="fail"\/x="skip")->mx s x=s:=by intro x hx;unfold mx;obtain rfl|rfl|rfl|rfl|rfl|rfl|rfl|rfl:=hx<;>rw[if_neg (by decide +kernel),if_neg (by decide +kernel),if_neg (by decide +kernel)]
 cases r<;>first
  |exact Bool.noConfusion (show true=false from h1)
  |exact Bool.noConfusion (show true=false from h2)
  |exact Bool.noConfusion (show true=false from h3)
  | (refine k _ ?_;simp[wd];done)
theorem Lj(W:Yi rs)(hb:lp (some []) rs=some []):∀k,k<=rs.length->∃s,lp (some []) (rs.take k)=some s/\Al rs k s
 |0,_=>⟨[],rfl,⟨rfl,λi j h=>by simp[st] at h,λi x h=>by simp at h⟩⟩
 |k+1,hk=>by
  obtain⟨s,hs,A⟩:=Lj W hb k (by omega);have k7:k<rs.length:=by omega
  have hr:rs[k]?=some rs[k]:=lT k7;obtain⟨s',h1,h2,h3⟩:=Ab hb k hr;rw[hs] at h1;cases h1;refine⟨_,h3,?_⟩;generalize rs[k]=r at hr h2;have kk:=fS hr;have nil:s=[]->wd r="def"\/wd r="skip":=ko h2;have ne:s≠[]->∃l,s.getLast?=some l:=λz=>by obtain⟨a,l,e⟩:=qQ z;exact⟨l,by rw[e,N1]⟩
  cases r with
  |df f ps=>
   have e:s=[]:=by by_cases z:s=[];exact z;obtain⟨l,hl⟩:=ne z;exact absurd rfl (kq h2 hl).2.2.2
   have:=xH W k7 A hr (nJ (by rw[kk];rfl) (by rw[kk];rfl)) (by simp) ⟨λ_=>e,λ_=>rfl⟩;rw[show wd (.df f ps)="def" from rfl] at this ⊢;rw[E6];exact this
  |mn a=>
   have e:s≠[]:=λz=>by rcases nil z with h|h<;>exact absurd h (by show ¬ (("if":Str)=_);decide +kernel)
   have:=xH W k7 A hr (nJ (by rw[kk];rfl) (by rw[kk];rfl)) (by simp) ⟨λh=>absurd h (by show ¬ (("if":Str)=_);decide +kernel),λh=>absurd h e⟩;rw[show wd (.mn a)="if" from rfl] at this ⊢;rw[K'];exact this
  |gS a=>
   have e:s≠[]:=λz=>by rcases nil z with h|h<;>exact absurd h (by show ¬ (("while":Str)=_);decide +kernel)
   have:=xH W k7 A hr (nJ (by rw[kk];rfl) (by rw[kk];rfl)) (by simp) ⟨λh=>absurd h (by show ¬ (("while":Str)=_);decide +kernel),λh=>absurd h e⟩;rw[show wd (.gS a)="while" from rfl] at this ⊢;rw[oN];exact this
  |give a=>have:=E_ A (nK (by rw[kk];rfl) (by rw[kk];rfl)) (by rw[hr];simp);rw[show wd (.give a)="give" from rfl,Ac];exact this
  |fin=>have:=E_ A (nK (by rw[kk];rfl) (by rw[kk];rfl)) (by rw[hr];simp);rw[show wd .fin="end" from rfl,xB];exact this
  |mq=>
   have e:s≠[]:=λz=>by rcases nil z with h|h<;>exact absurd h (by show ¬ (("else":Str)=_);decide +kernel)
   obtain⟨l,hl⟩:=ne e;have hl2:=(kq h2 hl).2.1 rfl;rw[hl2] at hl;have:=P8 A hr hl (sD (by rw[kk];rfl) (by rw[kk];rfl));rw[show wd .mq="else" from rfl,Ad];exact this
  |_=>rw[Li s rfl rfl rfl];exact P7 A (sD (by rw[kk];rfl) (by rw[kk];rfl)) (by rw[hr];simp)
end
structure Bl(rs:qal):Prop where
 W:Yi rs
 b:lp (some []) rs=some []
section
theorem Bl.at(B:Bl rs){k:Nat}(hr:rs[k]?=some r):∃s,Al rs k s/\gz s (wd r)=true:=by have hk:=(eW.mp hr).1;obtain⟨s,hs,A⟩:=Lj B.W B.b k (by omega);obtain⟨s',h1,h2,h3⟩:=Ab B.b k hr;rw[hs] at h1;cases h1;exact⟨s,A,h2⟩
theorem Al.k6{k:Nat}{s:qai}(A:Al rs k s):s=[]↔st (bw rs) k=[]:=by rw[<- Rz,<- Rz,A.len]
theorem Al.last{k:Nat}{s:qai}(A:Al rs k s){l:Str}(h:s.getLast?=some l):∃o r,nP (bw rs) k=some o/\rs[o]?=some r/\((¬ Ev rs k o/\l=wd r)\/(Ev rs k o/\l="else"/\wd r="if")):=by
 rw[y3] at h;have hi:=(eW.mp h).1;have hj:(st (bw rs) k)[s.length-1]?=some ((st (bw rs) k)[s.length-1]'(by rw[<- A.len];exact hi)):=lT _;obtain⟨r,h1,h2⟩:=A.wds _ _ hj;have hh:nP (bw rs) k=(st (bw rs) k)[s.length-1]?:=by unfold nP;rw[y3,<- A.len]
 refine⟨_,r,hh.trans hj,h1,?_⟩;rw[h] at h2;obtain⟨a,b⟩|⟨a,b,c⟩:=h2
 exact .inl ⟨a,Option.some.inj b⟩;exact .inr ⟨a,Option.some.inj b,c⟩
theorem lastOf{s:qai}(z:s≠[]):∃l,s.getLast?=some l:=by obtain⟨a,l,e⟩:=qQ z;exact⟨l,by rw[e,N1]⟩
theorem Bl.inn(B:Bl rs){k:Nat}(hr:rs[k]?=some r)(h1:wd r≠"def")(h2:wd r≠"skip"):st (bw rs) k≠[]:=by
 obtain⟨s,A,m⟩:=B.at hr;rw[Ne,<- A.k6];intro z;rcases ko m z with h|h
 exact h1 h;exact h2 h
theorem Bl.give(B:Bl rs){k:Nat}{a}(hr:rs[k]?=some (.give a)):(st (bw rs) k).length=1:=by
 obtain⟨s,A,m⟩:=B.at hr;have z:s≠[]:=λz=>by rcases ko m z with h|h<;>exact absurd h (by show ¬ (("give":Str)=_);decide +kernel)
 obtain⟨l,hl⟩:=lastOf z;have hd:=(kq m hl).1 rfl;rw[y3,hd] at hl;have:=(A.bot _ _ hl).mp rfl;have:=XW.mpr z;rw[<- A.len];omega
theorem Bl.fin(B:Bl rs){k:Nat}(hr:rs[k]?=some .fin):2<=dp (bw rs) k/\∃o r,nP (bw rs) k=some o/\rs[o]?=some r/\wd r≠"def":=by
 obtain⟨s,A,m⟩:=B.at hr;have z:s≠[]:=λz=>by rcases ko m z with h|h<;>exact absurd h (by show ¬ (("end":Str)=_);decide +kernel)
 obtain⟨l,hl⟩:=lastOf z;have hd:=(kq m hl).2.2.1 rfl;obtain⟨o,r,h1,h2,h3⟩:=A.last hl;refine⟨?_,o,r,h1,h2,?_⟩;rw[y3] at hl;have h0:¬ s.length-1=0:=λq=>hd ((A.bot _ _ hl).mpr q);unfold dp;rw[<- A.len];omega;obtain⟨_,q⟩|⟨_,_,q⟩:=h3
 rw[<- q];exact hd;rw[q];decide +kernel
theorem Bl.mq(B:Bl rs){k:Nat}(hr:rs[k]?=some .mq):2<=dp (bw rs) k/\∃o a,nP (bw rs) k=some o/\rs[o]?=some (.mn a)/\¬ Ev rs k o:=by
 obtain⟨s,A,m⟩:=B.at hr;have z:s≠[]:=λz=>by rcases ko m z with h|h<;>exact absurd h (by show ¬ (("else":Str)=_);decide +kernel)
 obtain⟨l,hl⟩:=lastOf z;have hd:=(kq m hl).2.1 rfl;obtain⟨o,r,h1,h2,h3⟩:=A.last hl;refine⟨?_,?_⟩;rw[y3,hd] at hl;have h0:¬ s.length-1=0:=λq=>absurd ((A.bot _ _ hl).mpr q) (by decide +kernel);unfold dp;rw[<- A.len];omega;obtain⟨a,q⟩|⟨_,q,_⟩:=h3
 rw[hd] at q;obtain⟨x,rfl⟩:=ado q.symm;exact⟨o,x,h1,h2,a⟩;rw[hd] at q;exact absurd q (by decide +kernel)
theorem Bl.top(B:Bl rs){o e:Nat}(ho:o<rs.length)(BE:(bw rs o).op=true)(he:endsAt (bw rs) rs.length o=some e):o<e/\e<rs.length/\dp (bw rs) (e+1)=dp (bw rs) o/\(∀m,o<m->m<=e->dp (bw rs) o<dp (bw rs) m)/\(∀m,o<m->m<e->dp (bw rs) (m+1)≠dp (bw rs) o):=by unfold endsAt at he;rw[if_pos BE] at he;obtain⟨e',h1,h2,h3,h4,h5⟩:=end_is B.W ho BE;rw[he] at h1;cases h1;exact⟨h2,h3,h4,above B.W ho BE e h2 (by omega) h5,h5⟩
end
section
def VH(kd:Nat->Kd):Nat->Nat->Option Nat
 |0,_=>none
 |k+1,j=>if (kd k).el=true/\nP kd k=some j then some k else VH kd k j
theorem Ll(kd:Nat->Kd)(n:Nat){j:Nat}(hj:j<n):∀k,(yX kd n k)[j]?=some (oT (VH kd k j))
 |0=>by simp[yX,VH,oT,hj]
 |k+1=>by
  have ih:=Ll kd n hj k;simp only[yX,VH];cases hc:(kd k).el with
  |false=>simp only[IC,false_and,if_false];exact ih
  |true=>
   cases hh:nP kd k with
   |none=>simp only[reduceCtorEq,and_false,if_false];exact ih
   |some h=>simp only[Option.some.injEq,true_and];by_cases e:h=j;subst e;rw[if_pos rfl,Ee (by rw[qS];exact hj)];rfl;rw[if_neg e,uc e];exact ih
theorem Aq{kd:Nat->Kd}{j x:Nat}:∀{k},VH kd k j=some x->x<k/\(kd x).el=true/\nP kd x=some j
 |0,h=>by cases h
 |k+1,h=>by
  simp only[VH] at h;split at h
  rename_i q;cases h;exact⟨ID _,q⟩
  have:=Aq h;exact⟨by omega,this.2⟩
def Lm(rs:qal)(j:Nat):Option Nat:=VH (bw rs) rs.length j
theorem VJ(hj:j<rs.length):jQ (VB rs) (j:Int)=some (oT (Lm rs j)):=ah (Ll _ _ hj _)
theorem VL{x:Nat}(h:(bw rs x).el=true):rs[x]?=some .mq:=by
 unfold bw at h;split at h
 rename_i r hr
 rw[hr];cases r<;>first|rfl|exact Bool.noConfusion (show false=true from h)
 exact Bool.noConfusion (show false=true from h)
structure Blo(rs:qal)(o e:Nat):Prop where
 lt:o<rs.length
 op:(bw rs o).op=true
 en:endsAt (bw rs) rs.length o=some e
 d1:1<=dp (bw rs) o
 le:o<e
 el:e<rs.length
 ab:∀m,o<m->m<=e->dp (bw rs) o<dp (bw rs) m
 fi:∀m,o<m->m<e->dp (bw rs) (m+1)≠dp (bw rs) o
 de:dp (bw rs) e=dp (bw rs) o+1
 re:rs[e]?=some .fin
theorem Bl.blo(B:Bl rs){o:Nat}(hr:rs[o]?=some r)(hw:wd r="if"\/wd r="while"):∃e,Blo rs o e:=by
 have BE:(bw rs o).op=true:=by rw[fS hr];cases r<;>first|rfl|exact absurd hw (by show ¬ ((_:Str)="if"\/(_:Str)="while");simp only[wd];decide +kernel)
 have ho:=(eW.mp hr).1;obtain⟨e,h1,h2,h3,h4,h5⟩:=end_is B.W ho BE;have he:endsAt (bw rs) rs.length o=some e:=by unfold endsAt;rw[if_pos BE];exact h1
 obtain⟨a,b,c,d,f⟩:=B.top ho BE he;have ik:st (bw rs) o≠[]:=B.inn hr (by obtain q|q:=hw<;>rw[q]<;>decide +kernel) (by obtain q|q:=hw<;>rw[q]<;>decide +kernel);have d1:1<=dp (bw rs) o:=by unfold dp;exact XW.mpr ik
 obtain⟨Jw,ahb⟩:=xF B.W b he ho;have ig:=Ah B.W b Jw;have re:rs[e]?=some .fin:=by
  have hre:rs[e]?=some rs[e]:=lT b;have kk:=fS hre;rw[kk] at Jw;generalize rs[e]=q at hre Jw;cases q with
  |fin=>exact hre
  |give x=>have:=B.give hre;unfold dp at ig c d1;omega
  |_=>exact Bool.noConfusion (show false=true from Jw)
 exact⟨e,ho,BE,he,d1,a,b,d,f,by omega,re⟩
def qp(rs:qal)(o:Nat):Int:=match endsAt (bw rs) rs.length o with
 |some e=>(e:Int)
 |none=>0
def IS(rs:qal)(j:Nat):Nat:=(nP (bw rs) j).getD 0
def P9(rs:qal)(j:Nat):Int:=match rs[j]? with
 |some (.gS _)=>qp rs j+1
 |_=>match Lm rs j with
  |none=>qp rs j
  |some x=>(x:Int)+1
def Cz(rs:qal)(j:Nat):Int:=match rs[j]? with
 |some .mq=>qp rs (IS rs j)
 |some .fin=>match rs[IS rs j]? with
  |some (.gS _)=>(IS rs j:Int)
  |_=>(j:Int)+1
 |_=>(j:Int)+1
def Ln:Rw->Bool
 |.mn _=>true
 |.gS _=>true
 |_=>false
end
end Lay
namespace BS
open PySem PySem.Builtin PyProof.Rows
def ib(x:Int)(k:Nat):Bool:=decide (x / 2 ^ k % 2=1)
def sub(y x:Int):Prop:=∀k,ib y k=true->ib x k=true
def below(m:Nat)(x:Int):Prop:=0<=x/\x<2 ^ m
def sw(CA:qan):Nat->Int->Int
 |0,x=>x
 |k+1,x=>if ib (sw CA k x) k=true then bitOr (sw CA k x) (CA.getD k 0) else sw CA k x
def rounds(CA:qan):Nat->Int->Int
 |0,x=>x
 |t+1,x=>sw CA CA.length (rounds CA t x)
def mem(x:Int):qao:=(List.range (Builtin.Int.intBits x)).filter (ib x)
def lst(CA:qan)(x:Int):Int:=rounds CA CA.length x
end BS
namespace BS
open PySem PySem.Builtin
end BS
namespace Lay
open PySem L2 VT Gen K5 BS
open PySem.Builtin (bitOr)
end Lay
namespace S30
open PySem L2 VT Gen K5 Lay BS
open PySem.Builtin (bitOr)
def oP(a c:Nat)(f:Str)(ps:qai)(body:qal)(o:jK):qal:=List.replicate a .skip++(.df f ps::(body++(.give o::List.replicate c .skip)))
end S30
set_option exponentiation.threshold 4000
namespace Rg
open PySem L2 VT Gen K5 Lay
open pN (d_)
open ki (Vl vT nm eF RI)
theorem cf(h:n<=1000):n<=sizeLine:=Gen.small h
theorem Lo(i:Int):RI (eF i):=by unfold RI eF;omega
theorem SA(h:n+101<cLine):n+3<cLine:=by omega
theorem VM:RI 0:=by unfold RI;decide
theorem RI1:RI 1:=by unfold RI;decide
theorem sF{α β:Type}(f:α->β):∀(ks:List Key)(is:List α)(k:Key),dj ks (is.map f) k=(dj ks is k).map f
 |[],is,k=>by cases is<;>rfl
 |a::ks,[],k=>rfl
 |a::ks,i::is,k=>by simp only[ix,dj];split;rfl;exact sF f ks is k
theorem wb(f:α->β)(ks:List Key)(is:List α)(k:Key)(v:α):cJ ks (is.map f) k (f v)=(cJ ks is k v).map f:=by
 unfold cJ;split;rw[List.zipWith_map_right,List.map_zipWith]
 congr 1
 funext a b;split<;>rfl;simp
theorem oQ(ks:List Key)(is:List α)(k:Key)(v:α):(cJ ks is k v).length<=is.length+1:=by unfold cJ;split;rw[List.length_zipWith];omega;simp
theorem G'{is:List α}{k:Key}{v i:α}(h:i∈cJ ks is k v):i∈is\/i=v:=by
 unfold cJ at h;split at h;rw[List.mem_iff_getElem?] at h;obtain⟨j,hj⟩:=h;rw[List.getElem?_zipWith] at hj;cases e1:ks[j]? with
 |none=>rw[e1] at hj;cases hj
 |some a=>
  cases e2:is[j]? with
  |none=>rw[e1,e2] at hj;cases hj
  |some b=>rw[e1,e2] at hj;have IK:(if a=k then v else b)=i:=Option.some.inj hj;split at IK;exact .inr IK.symm;exact .inl (by rw[<- IK];exact iw e2)
 rcases cU.mp h with z|z
 exact .inl z;exact .inr (jV.mp z)
theorem Ar{α:Type}:∀{ks:List Key}{is:List α}{k:Key}{v:α},dj ks is k=some v->v∈is
 |[],is,k,v,h=>by cases is<;>cases h
 |a::ks,[],k,v,h=>by cases h
 |a::ks,i::is,k,v,h=>by simp only[dj] at h;split at h;cases h;exact dP;exact ic _ (Ar h)
structure Ev where
 ks:List Key
 is:List Vl
def Ev.ts(e:Ev):qaj:=e.is.map vT
def Ev.get(e:Ev)(x:Str):Vl:=(dj e.ks e.is (.inr x)).getD (.num 0)
def Ev.put(e:Ev)(x:Str)(v:Vl):Ev:=⟨iY e.ks (.inr x),cJ e.ks e.is (.inr x) v⟩
def ev0:Ev:=⟨[],[]⟩
theorem VN(e:Ev)(x:Str):(dj e.ks e.ts (.inr x)).getD (.int 0)=vT (e.get x):=by unfold Ev.ts Ev.get;rw[sF];cases dj e.ks e.is (.inr x)<;>rfl
theorem CB(e:Ev)(x:Str)(v:Vl):cJ e.ks e.ts (.inr x) (vT v)=(e.put x v).ts:=wb vT e.ks e.is (.inr x) v
theorem e_(v:Vl):bP (vT v)=true:=by cases v<;>rfl
def RV(v:Vl):Prop:=RI (nm v)
structure hJ(e:Ev)(n:Nat):Prop where
 n:e.is.length<=n
 ri:∀i∈e.is,RV i
theorem hJ.put{e:Ev}(h:hJ e n)(x:Str){v:Vl}(hv:RV v):hJ (e.put x v) (n+1):=by
 refine⟨?_,λi hi=>?_⟩;have:=oQ e.ks e.is (.inr x) v;have:=h.n;show (cJ e.ks e.is (.inr x) v).length<=n+1;omega;rcases G' hi with z|z
 exact h.ri i z;rw[z];exact hv
theorem hJ.get{e:Ev}{n:Nat}(h:hJ e n)(x:Str):RV (e.get x):=by
 unfold Ev.get;cases g:dj e.ks e.is (.inr x) with
 |none=>exact VM
 |some v=>exact h.ri v (Ar g)
def look(e:Ev):jK->Vl
 |.nm x=>e.get x
 |.nu i=>.num i
def sG:jK->Prop
 |.nm x=>d_ x=true/\x.length<=100
 |.nu i=>RI i
def NT:Ky->Prop
 |.fld x=>d_ x=true/\x.length<=50
 |.op o=>sG o
theorem hJ.look{e:Ev}(h:hJ e n){o:jK}(ho:sG o):RV (look e o):=by
 cases o with
 |nm x=>exact h.get x
 |nu i=>exact ho
def rkI(op:Str)(x y:Int):Option Int :=
 if op="plus" then some (eF (x+y)) else if op="minus" then some (eF (x-y)) else if op="times" then some (eF (x * y)) else if op="less" then some (if x<y then 1 else 0) else if op="same" then some (if x=y then 1 else 0)
 else if y=0 then none else if op="over" then some (eF (x.fdiv y)) else some (eF (x.fmod y))
def CC(op:Str)(a b:Vl):Option Int:=if op="same" then some (if a=b then 1 else 0) else rkI op (nm a) (nm b)
theorem VQ{op:Str}{x y v:Int}(h:rkI op x y=some v):RI v:=by
 unfold rkI at h
 repeat' split at h
 all_goals (cases h)
 all_goals first|exact Lo _|exact VM|exact RI1
theorem VU{op:Str}{a b:Vl}{v:Int}(h:CC op a b=some v):RI v:=by
 unfold CC at h;split at h;cases h;split<;>first|exact VM|exact RI1
 exact VQ h
def oV:Option Vl->T
 |some v=>vT v
 |none=>.aP
theorem xI(o:Option Vl):bP (oV o)=true:=by cases o<;>first|rfl|exact e_ _
structure Fr where
 call:Option Nat
 ev:Ev
structure Ct where
 ks:List Key
 is:qan
def Ct.ts(c:Ct):qaj:=c.is.map .int
def Ct.get(c:Ct)(p:Nat):Int:=(dj c.ks c.is (.inl (p:Int))).getD 0
def Ct.up(c:Ct)(p:Nat):Ct:=⟨iY c.ks (.inl (p:Int)),cJ c.ks c.is (.inl (p:Int)) (c.get p+1)⟩
theorem Lp(c:Ct)(p:Nat):(dj c.ks c.ts (.inl (p:Int))).getD (.int 0)=.int (c.get p):=by unfold Ct.ts Ct.get;rw[sF];cases dj c.ks c.is (.inl (p:Int))<;>rfl
theorem adp(c:Ct)(p:Nat):cJ c.ks c.ts (.inl (p:Int)) (.int (c.get p+1))=(c.up p).ts:=wb T.int c.ks c.is (.inl (p:Int)) (c.get p+1)
structure Ce where
 ks:List (List Key×Key)
 is:List Vl
def Ce.ts(c:Ce):qaj:=c.is.map vT
def Ce.get(c:Ce)(k:List Key×Key):Vl:=(kf c.ks c.is k).getD (.num 0)
def Ce.put(c:Ce)(k:List Key×Key)(v:Vl):Ce:=⟨sA c.ks k,gE c.ks c.is k v⟩
def Ce.at'(c:Ce):Option (List Key×Key)->Vl
 |some k=>c.get k
 |none=>.num 0
def Ce.VY(c:Ce)(v:Vl):Option (List Key×Key)->Ce
 |some k=>c.put k v
 |none=>c
def Ce.s(nh:List Key×Key->Int)(c:Ce):S:=.dc nh c.ks c.ts
theorem As{α β:Type}(f:α->β):∀(ks:List (List Key×Key))(is:List α)(k:List Key×Key),kf ks (is.map f) k=(kf ks is k).map f
 |[],is,k=>by cases is<;>rfl
 |a::ks,[],k=>rfl
 |a::ks,i::is,k=>by simp only[ix,kf];split;rfl;exact As f ks is k
theorem Ha(f:α->β)(ks:List (List Key×Key))(is:List α)(k:List Key×Key)(v:α):gE ks (is.map f) k (f v)=(gE ks is k v).map f:=by
 unfold gE;split;rw[List.zipWith_map_right,List.map_zipWith]
 congr 1
 funext a b;split<;>rfl;simp
theorem VZ(c:Ce)(k:List Key×Key):(kf c.ks c.ts k).getD (.int 0)=vT (c.get k):=by unfold Ce.ts Ce.get;rw[As];cases kf c.ks c.is k<;>rfl
theorem V0(c:Ce)(k:List Key×Key)(v:Vl):gE c.ks c.ts k (vT v)=(c.put k v).ts:=Ha vT c.ks c.is k v
theorem Hb(ks:List (List Key×Key))(is:List α)(k:List Key×Key)(v:α):(gE ks is k v).length<=is.length+1:=by unfold gE;split;rw[List.length_zipWith];omega;simp
theorem Hc{ks:List (List Key×Key)}{is:List α}{k:List Key×Key}{v i:α}(h:i∈gE ks is k v):i∈is\/i=v:=by
 unfold gE at h;split at h;rw[List.mem_iff_getElem?] at h;obtain⟨j,hj⟩:=h;rw[List.getElem?_zipWith] at hj;cases e1:ks[j]? with
 |none=>rw[e1] at hj;cases hj
 |some a=>
  cases e2:is[j]? with
  |none=>rw[e1,e2] at hj;cases hj
  |some b=>rw[e1,e2] at hj;have IK:(if a=k then v else b)=i:=Option.some.inj hj;split at IK;exact .inr IK.symm;exact .inl (by rw[<- IK];exact iw e2)
 rcases cU.mp h with z|z
 exact .inl z;exact .inr (jV.mp z)
theorem Au{α:Type}:∀{ks:List (List Key×Key)}{is:List α}{k:List Key×Key}{v:α},kf ks is k=some v->v∈is
 |[],is,k,v,h=>by cases is<;>cases h
 |a::ks,[],k,v,h=>by cases h
 |a::ks,i::is,k,v,h=>by simp only[kf] at h;split at h;cases h;exact dP;exact ic _ (Au h)
def mz(c:Ce)(n:Nat):Prop:=c.is.length<=n/\∀v∈c.is,RV v
theorem mz.get{c:Ce}{n:Nat}(h:mz c n)(k:List Key×Key):RV (c.get k):=by
 unfold Ce.get;cases g:kf c.ks c.is k with
 |none=>exact VM
 |some v=>exact h.2 v (Au g)
theorem mz.put{c:Ce}(h:mz c n)(k:List Key×Key){v:Vl}(hv:RV v):mz (c.put k v) (n+1):=by
 refine⟨?_,λi hi=>?_⟩;have:=Hb c.ks c.is k v;have:=h.1;show (gE c.ks c.is k v).length<=n+1;omega;rcases Hc hi with z|z
 exact h.2 i z;rw[z];exact hv
def jL(v:Vl):T:=.tup [.str "done",vT v]
def sH:T:=.tup [.str "fault",.str "zero"]
def eG:T:=.tup [.str "cut",.int 0]
def wc(w:Str):T:=.tup [.str "fault",.str w]
def P_:Ky->List jK
 |.fld _=>[]
 |.op o=>[o]
def gq:Rw->List jK
 |.df _ ps=>ps.map .nm
 |.put _ a=>[a]
 |.give a=>[a]
 |.mn a=>[a]
 |.gS a=>[a]
 |.m8 _ a _ b=>[a,b]
 |.call _ _ as=>as
 |.get _ r k=>.nm r::P_ k
 |.set r k a=>.nm r::(P_ k++[a])
 |_=>[]
def cellK(e:Ev)(r:Str)(k:Ky):Option (List Key×Key):=match e.get r with
 |.GZ p n=>some ([.inl p,.inl n],match k with
  |.fld x=>.inr (((".":String):Str)++x)
  |.op o=>.inl (nm (look e o)))
 |.num _=>none
def we(e:Ev)(ce:Ce)(c:Ct)(p:Nat):Rw->Option Vl
 |.get _ r k=>some (ce.at' (cellK e r k))
 |.set _ _ a=>some (look e a)
 |.put _ a=>some (look e a)
 |.give a=>some (look e a)
 |.m8 _ a op b=>(CC op (look e a) (look e b)).map .num
 |.new _=>some (.GZ p (c.get p))
 |.mn a=>some (.num (if look e a=.num 0 then 0 else 1))
 |.gS a=>some (.num (if look e a=.num 0 then 0 else 1))
 |_=>none
def ub(e:Ev)(ce:Ce)(c:Ct)(p:Nat)(r:Rw):T:=.tup [.int (p:Int),.tup ((gq r).map λo=>vT (look e o)),oV (we e ce c p r)]
def cy(ps:qai)(gs:List Vl):Nat->Ev
 |0=>ev0
 |k+1=>match ps[k]? with
  |some x=>(cy ps gs k).put x (gs.getD k (.num 0))
  |none=>cy ps gs k
structure Lv where
 fs:List Fr
 f:Fr
 ce:Ce
 ct:Ct
 dn:qaj
 pl:Nat
abbrev Res:=List T×T
def mB:Rw->Bool
 |.mq=>true
 |.fin=>true
 |.skip=>true
 |_=>false
def wg(s:Lv)(x:Str)(v:Vl)(d:T):Lv:={s with f:={s.f with ev:=s.f.ev.put x v},dn:=s.dn++[d],pl:=s.pl+1}
def cT(rs:qal)(r:Rw)(s:Lv):Lv ⊕ Res :=
 let e:=s.f.ev
 let d:=ub e s.ce s.ct s.pl r
 match r with
 |.df _ _=>.inl {s with dn:=s.dn++[d],pl:=s.pl+1}
 |.put x a=>.inl (wg s x (look e a) d)
 |.m8 x a op b=>match CC op (look e a) (look e b) with
  |none=>.inr (s.dn++[d],sH)
  |some v=>.inl (wg s x (.num v) d)
 |.new x=>.inl (wg {s with ct:=s.ct.up s.pl} x (.GZ s.pl (s.ct.get s.pl)) d)
 |.mn a=>.inl {s with dn:=s.dn++[d],pl:=if look e a=.num 0 then (P9 rs s.pl).toNat else s.pl+1}
 |.gS a=>.inl {s with dn:=s.dn++[d],pl:=if look e a=.num 0 then (P9 rs s.pl).toNat else s.pl+1}
 |.get x r k=>.inl (wg s x (s.ce.at' (cellK e r k)) d)
 |.set r k a=>.inl {s with ce:=s.ce.VY (look e a) (cellK e r k),dn:=s.dn++[d],pl:=s.pl+1}
 |.fail w=>.inr (s.dn++[d],wc w)
 |.give a=>match s.f.call,s.fs.getLast? with
  |some c,some g=>match rs[c]? with
   |some (.call x _ _)=>.inl {fs:=s.fs.dropLast,f:={g with ev:=g.ev.put x (look e a)},ce:=s.ce,ct:=s.ct,dn:=s.dn++[d],pl:=c+1}
   |_=>.inr (s.dn,eG)
  |_,_=>.inr (s.dn++[d],jL (look e a))
 |.call _ g as=>match yW (bc rs rs.length) g with
  |some p=>match rs[p]? with
   |some (.df _ ps)=>.inl {fs:=s.fs++[s.f],f:=⟨some s.pl,cy ps (as.map (look e)) ps.length⟩,ce:=s.ce,ct:=s.ct,dn:=s.dn++[d],pl:=p}
   |_=>.inr (s.dn,eG)
  |none=>.inr (s.dn,eG)
 |_=>.inr (s.dn,eG)
def i7(rs:qal)(most:Nat)(s:Lv):Lv ⊕ Res:=match rs[s.pl]? with
 |none=>.inr (s.dn,eG)
 |some r=>if mB r=true then .inl {s with pl:=(Cz rs s.pl).toNat} else if most<=s.dn.length then .inr (s.dn,eG) else cT rs r s
def yY(cF:Addr)(f:Fr):S:=.ins cF qaw [.lf (oT f.call),.dk f.ev.ks f.ev.ts]
def frT(cF:Addr)(f:Fr):T:=.ins cF qaw [oT f.call,.dk f.ev.ks f.ev.ts]
def du(cM cF:Addr)(L:T)(most:Int)(pk:T)(fr:List Fr)(ce:S)(ct:Ct)(dn:qaj)(pl en:T):S:=.ins cM mN [.lf L,.lf (.int most),.lf pk,.lst (fr.map (yY cF)),ce,.dk ct.ks ct.ts,.lst (dn.map .lf),.lf pl,.lf en]
def Yk(cM cF:Addr)(L:T)(most:Int)(pk:T)(fr:List Fr)(ce:S)(ct:Ct)(dn:qaj)(pl en:T):T:=.ins cM mN [L,.int most,pk,.lst (fr.map (frT cF)),ce.t,.dk ct.ks ct.ts,.lst dn,pl,en]
theorem SD(cF:Addr):∀fr:List Fr,S.ts (fr.map (yY cF))=fr.map (frT cF)
 |[]=>by simp[S.ts]
 |e::fr=>by simp[S.ts,SD cF fr,yY,frT,S.t]
theorem SE:∀dn:qaj,S.ts (dn.map .lf)=dn
 |[]=>by simp[S.ts]
 |e::fr=>by simp[S.ts,SE fr,S.t]
section
variable{cM cF:Addr}{L:T}{most:Int}{pk:T}{fr fs:List Fr}{f:Fr}{ce:S}{ct:Ct}{dn:qaj}{pl en:T}
theorem hU:(du cM cF L most pk fr ce ct dn pl en).t=Yk cM cF L most pk fr ce ct dn pl en:=by unfold du Yk;simp only[S.t,S.ts,SD,SE]
theorem SF(C:Addr)(f:Str)(ns:qai)(xs:List S):(S.ins C ns xs).kid (.fld C f)=mh f ns:=by show (if C=C then mh f ns else none)=_;rw[if_pos rfl]
theorem wj{f:Str}{ns:qai}{xs:List S}{x:S}{ps:List mf}(h1:mh f ns=some i)(h2:xs[i]?=some x):(S.ins C ns xs).get (.fld C f::ps)=x.get ps:=by rw[S.get,SF,h1];show (match xs[i]? with|some x=>x.get ps|none=>none)=_;rw[h2]
theorem wm{f:Str}{ns:qai}{xs:List S}{x y:S}{ps:List mf}(h1:mh f ns=some i)(h2:xs[i]?=some x):(S.ins C ns xs).put (.fld C f::ps) y=.ins C ns (xs.set i (x.put ps y)):=by rw[S.put,SF,h1];show (match xs[i]? with|some x=>S.ins C ns (xs.set i (x.put ps y))|none=>_)=_;rw[h2]
theorem SG(xs:List S)(x:S):(S.lst (xs++[x])).kid .last=some xs.length:=by show (if 0<(xs++[x]).length then some ((xs++[x]).length-1) else none)=_;rw[if_pos (by simp)];simp
theorem adq{xs:List S}{x:S}{ps:List mf}:(S.lst (xs++[x])).get (.last::ps)=x.get ps:=by rw[S.get,SG];show (match (xs++[x])[xs.length]? with|some x=>x.get ps|none=>none)=_;rw[qe (c_ _),Tr];rfl
theorem ads{xs:List S}{x y:S}{ps:List mf}:(S.lst (xs++[x])).put (.last::ps) y=.lst (xs++[x.put ps y]):=by rw[S.put,SG];show (match (xs++[x])[xs.length]? with|some z=>S.lst ((xs++[x]).set xs.length (z.put ps y))|none=>S.lst (xs++[x]))=_;rw[qe (c_ _),Tr];show S.lst ((xs++[x]).set xs.length (x.put ps y))=_;rw[List.set_append_right _ _ (c_ _),Tr];rfl
theorem Av(s:S):s.get []=some s:=by cases s<;>rfl
theorem Aw(s y:S):s.put [] y=y:=by cases s<;>rfl
theorem Lq:(du cM cF L most pk fr ce ct dn pl en).get [.fld cM "frames"]=some (.lst (fr.map (yY cF))):=by unfold du;rw[wj (i:=3) rfl rfl,Av]
theorem Lr{fr':List Fr}:(du cM cF L most pk fr ce ct dn pl en).put [.fld cM "frames"] (.lst (fr'.map (yY cF)))=du cM cF L most pk fr' ce ct dn pl en:=by unfold du;rw[wm (i:=3) rfl rfl,Aw];rfl
theorem Ls:(du cM cF L most pk fr ce ct dn pl en).get [.fld cM "cells"]=some ce:=by unfold du;rw[wj (i:=4) rfl rfl,Av]
theorem V1{V2:S}:(du cM cF L most pk fr ce ct dn pl en).put [.fld cM "cells"] V2=du cM cF L most pk fr V2 ct dn pl en:=by unfold du;rw[wm (i:=4) rfl rfl,Aw];rfl
theorem Lu:(du cM cF L most pk fr ce ct dn pl en).get [.fld cM "counts"]=some (.dk ct.ks ct.ts):=by unfold du;rw[wj (i:=5) rfl rfl,Av]
theorem V3{p:Nat}:(du cM cF L most pk fr ce ct dn pl en).put [.fld cM "counts"] (.dk (iY ct.ks (.inl (p:Int))) (cJ ct.ks ct.ts (.inl (p:Int)) (.int (ct.get p+1))))=du cM cF L most pk fr ce (ct.up p) dn pl en:=by unfold du;rw[wm (i:=5) rfl rfl,Aw,adp];rfl
theorem xJ:(du cM cF L most pk fr ce ct dn pl en).get [.fld cM "doings"]=some (.lst (dn.map .lf)):=by unfold du;rw[wj (i:=6) rfl rfl,Av]
theorem Lw{t:T}:(du cM cF L most pk fr ce ct dn pl en).put [.fld cM "doings"] (.lst (dn.map .lf++[.lf t]))=du cM cF L most pk fr ce ct (dn++[t]) pl en:=by unfold du;rw[wm (i:=6) rfl rfl,Aw,t_];rfl
theorem Lx:(du cM cF L most pk (fs++[f]) ce ct dn pl en).get [.fld cM "frames",.last,.fld cF "names"]=some (.dk f.ev.ks f.ev.ts):=by unfold du;rw[wj (i:=3) rfl rfl,t_];show S.get (.lst (fs.map (yY cF)++[yY cF f])) _=_;rw[adq];unfold yY;rw[wj (i:=1) rfl rfl,Av]
theorem V4{v:Vl}:(du cM cF L most pk (fs++[f]) ce ct dn pl en).put [.fld cM "frames",.last,.fld cF "names"] (.dk (iY f.ev.ks (.inr x)) (cJ f.ev.ks f.ev.ts (.inr x) (vT v)))=du cM cF L most pk (fs++[{f with ev:=f.ev.put x v}]) ce ct dn pl en:=by
 unfold du;rw[t_,wm (i:=3) (x:=.lst (fs.map (yY cF)++[yY cF f])) rfl rfl,ads];show S.ins cM mN (List.set _ 3 (.lst (fs.map (yY cF)++[(yY cF f).put _ _])))=_;have e:(yY cF f).put [.fld cF "names"] (.dk (iY f.ev.ks (.inr x)) (cJ f.ev.ks f.ev.ts (.inr x) (vT v)))=yY cF {f with ev:=f.ev.put x v}:=by unfold yY;rw[wm (i:=1) rfl rfl,Aw,CB];rfl
 rw[e,t_];rfl
end
end Rg
namespace VT
open PySem PySem.Spec PyProof.Rows L2
theorem dG{α:Type}{f u:α->T}{h:FG}{fe:FE}{ρ:En}:∀{xs:List α}{Q:qaj->Prop},(∀x∈xs,∀r:T->Prop,r (u x)->h (f x) ρ λρ2=>fe ρ2 r)->Q (xs.map u)->cm h Gq fe ρ (xs.map f) Q
 |[],Q,_,hq=>hq
 |x::xs,Q,step,hq=>by simp only[ix,cm];exact step x dP (λy=>cm h Gq fe ρ (xs.map f) λus=>Q (y::us)) (dG (Q:=λus=>Q (u x::us)) (λy hy=>step y (ic _ hy)) hq)
theorem kr{lo:Int}{u:Nat->T}{h:FG}{Q:qaj->Prop}(step:∀i<n,∀r:T->Prop,r (u i)->h (.int (lo+(i:Int))) ρ λρ2=>fe ρ2 r)(hq:Q ((List.range n).map u)):cm h Gq fe ρ (rangeT lo n) Q :=
 dG (f:=λi:Nat=>T.int (lo+(i:Int))) (u:=u) (λi hi=>step i (Ef.mp hi)) hq
theorem Ax{h:FG}{fe:FE}{ρ:En}{Q:qaj->Prop}{Pd:T->Prop}:∀{ts:qaj},(∀t∈ts,∀r:T->Prop,(∀x,Pd x->r x)->h t ρ λρ2=>fe ρ2 r)->(∀us:qaj,us.length=ts.length->(∀x∈us,Pd x)->Q us)->cm h Gq fe ρ ts Q
 |[],_,hq=>hq [] rfl (λ_ z=>nomatch z)
 |t::ts,step,hq=>by
  simp only[cm];have:=step t dP (λu=>cm h Gq fe ρ ts λus=>Q (u::us)) λx hx=>Ax (λt ht=>step t (ic _ ht)) λus hl ha=>hq (x::us) (by simp[hl]) λy hy=>by
   rcases c4.mp hy with z|z
   rw[z];exact hx;exact ha y z
  exact this
theorem Ay{α:Type}{f:α->T}{R:α->Prop}:∀us:qaj,(∀t∈us,∃a,t=f a/\R a)->∃as:List α,us=as.map f/\∀a∈as,R a
 |[],_=>⟨[],rfl,λ_ z=>nomatch z⟩
 |t::us,h=>by
  obtain⟨a,rfl,ha⟩:=h t dP;obtain⟨as,rfl,hs⟩:=Ay us λt ht=>h t (ic _ ht);exact⟨a::as,rfl,λb hb=>by
   rcases c4.mp hb with z|z
   rw[z];exact ha;exact hs b z⟩
theorem mC{α:Type}{f u:α->T}{p:α->Bool}{h:FG}{fc:FB}{fe:FE}{ρ:En}:∀{xs:List α}{Q:qaj->Prop},(∀x∈xs,∀r s:Prop,(if p x=true then ∀k:T->Prop,(k (u x)->r)->r else s)->True)->(∀x∈xs,∀(k:T->Prop)(s:Prop),(if p x=true then k (u x) else s)->h (f x) ρ λρ2=>fc ρ2 λb=>if b=true then fe ρ2 k else s)->Q ((xs.filter p).map u)->cm h fc fe ρ (xs.map f) Q
 |[],Q,_,_,hq=>hq
 |x::xs,Q,t0,step,hq=>by simp only[ix,cm];refine step x dP _ _ ?_;by_cases hp:p x=true;rw[if_pos hp];rw[YH hp] at hq;exact mC (Q:=λus=>Q (u x::us)) (λ_ _ _ _ _=>trivial) (λy hy=>step y (ic _ hy)) hq;rw[if_neg hp];rw[acq hp] at hq;exact mC (λ_ _ _ _ _=>trivial) (λy hy=>step y (ic _ hy)) hq
end VT
namespace VT
open PySem PySem.Spec PyProof.Rows
def ddp{K:Type}[DecidableEq K](l:List K)(v:K):List K:=if v∈l then l else l++[v]
def met{K:Type}[DecidableEq K](val:Nat->K):Nat->List K
 |0=>[]
 |i+1=>ddp (met val i) (val i)
section
variable{R:Result->Shared->Prop}{I:Addr}{wr:qah}{G:Array GenState->Array GenState->Prop}{P:Nat->Value->Prop}{St:Nat->Shared->Prop}
variable{K:Type}[DecidableEq K]{knd:PySem.KeyKind prog w K}
end
end VT
namespace VT
open PySem PySem.Spec PyProof.Rows L2
end VT
namespace Nm
open PySem L2 VT Gen pN
def top(i:Nat):Stmt:=PySem.Challenge.pw_slicewise_k16_cut_anywhere.main.body.getD i (.Pass ⟨0,0,0,0⟩)
abbrev lu:Stmt:=top 6
abbrev mE:Stmt:=top 7
structure Mg2(mg:qae):Prop where
 Qa:∃t,mg "LETTERS"=some (.str bT t)
 xK:∃t,mg "LONGEST_NAME"=some (.int 8 t)
 isinstance:mg "isinstance"=none
 str:mg "str"=none
 len:mg "len"=none
 all:mg "all"=none
theorem cf(h:n<=1000):n<=sizeLine:=small h
def Qb:T->Bool
 |.lst _=>false
 |.dk _ _=>false
 |.dt _ _=>false
 |.df _ _ _=>false
 |.dz _ _ _=>false
 |.dc _ _ _=>false
 |.kt _=>false
 |.ins _ _ _=>false
 |.pin _ _=>false
 |.ob _=>false
 |.ty _=>false
 |_=>true
def Fb:T->Bool
 |.str x=>d_ x
 |_=>false
def lC(ts:qaj)(q:qam):Prop:=∃t,ts=[t]/\Qb t=true/\(∀x,t=.str x->x.length<=1000)/\q (.vw (.bl (Fb t)))
def V5(r:Rt)(A:Prop)(B:Prop):Prop:=match r with
 |.vw (.bl true)=>A
 |.vw (.bl false)=>B
 |_=>False
theorem sI{c:Bool}{A:Prop}(h1:c=true->A)(h2:c=false->B):V5 (.vw (.bl c)) A B:=by
 cases c with
 |true=>exact h1 rfl
 |false=>exact h2 rfl
def mF:T->Bool
 |.str x=>rB x
 |_=>false
def Az(t:T):Prop:=(∃x,t=.str x/\x.length<=100)\/∃i,t=.int i
def Ck(ts:qaj)(q:qam):Prop:=∃t,ts=[t]/\Az t/\q (.vw (.bl (mF t)))
def andM(r:Rt)(A:Prop)(B:Prop):Prop:=match r with
 |.vw (.bl true)=>A
 |.vw (.bl false)=>B
 |_=>False
theorem Qc{c:Bool}{A:Prop}(h1:c=true->A)(h2:c=false->B):andM (.vw (.bl c)) A B:=by
 cases c with
 |true=>exact h1 rfl
 |false=>exact h2 rfl
theorem Fc:∀l:qao,dB (l.map ((λt:T=>match t with | .str y=>.bl (JU y bT)|_=>.aP) ∘ λc=>T.str ⟨#[c]⟩))=some (l.map Gk)
 |[]=>rfl
 |c::l=>by rw[ix,ix];show (dB _).map _=_;rw[Fc l];rfl
section
abbrev oR:qai:=qax
theorem sJ:az oR qax (ai lu):=L2.gJ
theorem uy:(oR++(["sign"]:qai)).Nodup:=by decide +kernel
theorem Qd(D:Df K mg "is_name" lu qax f fd)(M:Mg2 mg):bU P w K mg base "is_name" qax 1 (c8 K 1 lC):=by
 refine D.g9 (m7 D.F sJ rfl λbz A outer s H E Ox hr ts q hG=>?_);have nd:=sJ.nd;have np:∀{i:Nat},bO ⟨H,[],Ox⟩ i:=pS;obtain⟨tL,mL⟩:=M.Qa;obtain⟨tN,mN⟩:=M.xK;have sL:∀{pos},VP (gK fG P w K mg base oR "is_name" (ai lu) f bz A outer s H E).qX ⟨H,[],Ox⟩ (.Name "LONGEST_NAME" pos) (fC (.int 8)):=ji (by rfl) mN (v:=.int 8) ⟨tN,rfl⟩ λ_ _=>bC;refine⟨_,(aj (bt (VW.vc (rJ (iM (gv (lg zC (by rfl) M.isinstance (by rfl) M.str Sa (aa 0)))) (rH (iM (JX zg zg (qas af) (qas (aT aN aO (by rfl) M.len jW (aA (aa 0) aK))) (qas sL))))))
    (aw (aI (qau rF)))
    aV)
   (aw (aI (qau (aT (rq rfl) Gv (by rfl) M.all acB (aA (qas (iB (ts:=["sign"]) rfl (by rfl) (j5 (aq 0)) (λ_ _ _ _ _ _=>(bE (i:=1) uy rfl (Or.inl rfl) np)) (λ_ _ _ _ _ _=>fm) (λ_ _ _ _ _ _=>(qat (R_ (aa 1) (qas (ji (by rfl) mL (v:=.str bT) ⟨tL,rfl⟩ λ_ _=>dy))))))) aK)))))),λ_=>?_⟩
 obtain⟨t,rfl,ht,hx,hq⟩:=hG;cases t with
 |aP=>exact⟨rfl,hq⟩
 |bl b=>exact⟨rfl,hq⟩
 |int x=>exact⟨rfl,hq⟩
 |tup l=>exact⟨rfl,hq⟩
 |str x=>
   have hl:=hx x rfl;have fg:q (.vw (.bl (decide (1<=(x.length:Int)) && (decide ((x.length:Int)<=8) && x.cps.toList.all Gk)))):=hq;refine⟨rfl,cf hl,sI (c:=decide (1<=(x.length:Int))) (λh1=>?_) (λh1=>?_)⟩;rw[h1,YX] at fg;refine zl (λh2=>?_) (λh2=>?_);have JS:(!decide ((x.length:Int)<=8))=true:=h2;have h3:decide ((x.length:Int)<=8)=false:=by simpa using JS
   rw[h3,YV] at fg;exact fg;have JS:¬ (!decide ((x.length:Int)<=8))=true:=h2;have h3:decide ((x.length:Int)<=8)=true:=by simpa using JS
   rw[h3,YX] at fg;refine⟨rfl,by rw[c3,RB];exact cf hl,vN (λ_=>true) (λt=>match t with | .str y=>.bl (JU y bT)|_=>.aP) (λt ht k r h=>?_) ?_⟩;obtain⟨c,_,rfl⟩:=vz.mp ht;exact⟨_,rfl,h⟩;rw[List.filter_eq_self.mpr (λ_ _=>rfl),Eg];refine⟨x.cps.toList.map Gk,Fc x.cps.toList,?_⟩;rw[List.all_map];exact fg;rw[h1,YV] at fg;exact fg
 |_=>cases ht
abbrev CD:qai:=qax
theorem pX:az CD qax (ai mE):=L2.gJ
theorem AA(D:Df K mg "is_field" mE qax f fd)(M:Mg2 mg)(oS:bU P w K mg base "is_name" qax 1 (c8 K 1 lC)):bU P w K mg base "is_field" qax 2 (c8 K 1 Ck):=by
 obtain⟨He,CF,oU,oW,oX,oY⟩:=oS;refine D.g9 (m7 D.F pX rfl λbz A outer s H E Ox hr ts q hG=>?_);have nd:=pX.nd;refine⟨_,(aw (aI (qau (rK (lg zC (by rfl) M.isinstance (by rfl) M.str Sa (aa 0)) (rK (GK (aa 0) (qas aG)) (wZ (aQ oY (hr.mono (by decide)) (by rfl) oU oW oX (ae (qat (gm (aa 0) (gc (qas af)) k_)) ar)))))))),λ_=>?_⟩;obtain⟨t,rfl,ht,hq⟩:=hG;obtain⟨x,rfl,hx⟩|⟨i,rfl⟩:=ht
 refine⟨rfl,?_⟩;have fg:q (.vw (.bl (Txt.startswith x "." && d_ (Txt.slice x (some 1) none)))):=hq;refine Qc (c:=Txt.startswith x ".") (λh=>?_) (λh=>?_);rw[h,YX] at fg;refine⟨cf (by omega),rfl,_,rfl,rfl,λy e=>?_,fg⟩;cases e;exact mX (Txt.slice_le x _ _) (by omega);rw[h,YV] at fg;exact fg;exact⟨rfl,hq⟩
end
end Nm
namespace PySem
open Sem (wp)
namespace F
end F
end PySem
namespace VT
open PySem PySem.Spec PyProof.Rows L2
end VT
namespace Yl
open PySem L2 VT Gen pN Nm
def ku:Rw->qaj
 |.give a=>[gF a]
 |.mn a=>[gF a]
 |.gS a=>[gF a]
 |.put _ a=>[gF a]
 |.m8 _ a _ b=>[gF a,gF b]
 |.get _ r k=>[.str r,vY k]
 |.set r k a=>[.str r,vY k,gF a]
 |.call _ _ as=>as.map gF
 |_=>[]
abbrev mG:Stmt:=top 9
def adt:List (Str×T):=[("give",.tup [.int 1]),("put",.tup [.int 2]),("do",.tup [.int 2,.int 4]),("get",.tup [.int 2,.int 3]),("set",.tup [.int 1,.int 2,.int 3]),("if",.tup [.int 1]),("while",.tup [.int 1])]
structure MgU(w:World)(K:qaf)(mg:qae):Prop where
 list:mg "list"=none
 US:∃a,mg "USED_PLACES"=some (.ref a)/\sr w K a adt
def Fd:Rw->qaj
 |.call _ _ as=>as.map gF
 |r=>(ku r).filter λt=>!mF t
def Fe(ts:qaj)(q:qam):Prop:=∃r:Rw,ts=[aW r]/\(∀t∈ku r,Az t)/\q (.fr (.lst (Fd r)))
section
abbrev mJ:qai:=["row","parts"]
theorem pY:az mJ ["row"] (ai mG):=L2.gJ
theorem sM:(mJ++(["place"]:qai)).Nodup:=by decide +kernel
theorem sN:(mJ++(["part"]:qai)).Nodup:=by decide +kernel
theorem AB(D:Df K mg "operands" mG ["row"] f fd)(M:MgU w K mg)(mK:bU P w K mg base "is_field" qax 2 (c8 K 1 Ck)):bU P w K mg base "operands" ["row"] 3 (c8 K 1 Fe):=by
 obtain⟨CG,AD,mM,mO,mP,mQ⟩:=mK;refine D.g9 (m7 D.F pY rfl λbz A outer s H E Ox hr ts q hG=>?_);have nd:=pY.nd;have hu:=bA.gy hr;have np:∀{i:Nat},bO ⟨H,[],Ox⟩ i:=pS;obtain⟨aU,uz,sO⟩:=M.US;refine⟨_,(aj (bt (bK hu (qas (aC (aa 0) (qas af))) (qas aG))
    (aw (aI (qau (dU dR fO (by rfl) M.list me (aA (qas (aC (aa 0) (qas af))) aK)))))
    aV)
   (aj (qG (i:=1) (ts:=["place"]) nd rfl (Or.inl rfl) rfl (by rfl) (j5 (qat (Kq (by rfl) uz sO (qas (aC (aa 0) (qas af))) (qat (br ar)) ⟨rfl,rfl,rfl,rfl⟩))) (λ_ _ _ _ _ _=>(bE (i:=2) sM rfl (Or.inl rfl) np)) (λ_ _ _ _ _ _=>fm) (λ_ _ _ _ _ _=>(qat (aC (aa 0) (aa 2)))) np)
   (aw (aI (qau (iB (ts:=["part"]) rfl (by rfl) (j5 (aq 1)) (λ_ _ _ _ _ _=>(bE (i:=2) sN rfl (Or.inl rfl) np)) (λ_ _ _ _ _ _=>(EC (iM (gv (aQ mQ (hr.mono (by decide)) (by rfl) mM mO mP (ae (aq 2) ar)))))) (λ_ _ _ _ _ _=>(aq 2)))))))),λ_=>?_⟩
 obtain⟨r,rfl,hl,hq⟩:=hG;have fin:∀(ps:qaj),(∀t∈ps,Az t)->q (.fr (.lst (ps.filter λt=>!mF t)))->cm (hName 2) (ZS (oA (JO 1 (eB (jR 2) qk) Ck))) (jR 2) [some (aW r,false),some (.lst ps,false),none] ps λus=>q (.fr (.lst us)):=λps Ym hq=>by refine vN (λt=>!mF t) (λt=>t) (λt ht k r h=>?_) (by rw[List.map_id'];exact hq);refine⟨rfl,t,rfl,Ym t ht,?_⟩;exact h
 cases r with
 |call x f as=>exact⟨_,ah (j:=0) rfl,_,ah (j:=3) rfl,hq⟩
 |give a=>refine⟨_,ah (j:=0) rfl,rfl,_,ah (j:=0) rfl,jU _,?_⟩;show ([T.int 1]:qaj).length<=sizeLine/\cm _ _ _ _ [T.int 1] _;exact⟨cf (by simp),_,ah (j:=1) rfl,rfl,cf (by simp),fin _ hl hq⟩
 |mn a=>refine⟨_,ah (j:=0) rfl,rfl,_,ah (j:=0) rfl,jU _,?_⟩;show ([T.int 1]:qaj).length<=sizeLine/\cm _ _ _ _ [T.int 1] _;exact⟨cf (by simp),_,ah (j:=1) rfl,rfl,cf (by simp),fin _ hl hq⟩
 |gS a=>refine⟨_,ah (j:=0) rfl,rfl,_,ah (j:=0) rfl,jU _,?_⟩;show ([T.int 1]:qaj).length<=sizeLine/\cm _ _ _ _ [T.int 1] _;exact⟨cf (by simp),_,ah (j:=1) rfl,rfl,cf (by simp),fin _ hl hq⟩
 |put x a=>refine⟨_,ah (j:=0) rfl,rfl,_,ah (j:=0) rfl,jU _,?_⟩;show ([T.int 2]:qaj).length<=sizeLine/\cm _ _ _ _ [T.int 2] _;exact⟨cf (by simp),_,ah (j:=2) rfl,rfl,cf (by simp),fin _ hl hq⟩
 |m8 x a op b=>refine⟨_,ah (j:=0) rfl,rfl,_,ah (j:=0) rfl,jU _,?_⟩;show ([T.int 2,T.int 4]:qaj).length<=sizeLine/\cm _ _ _ _ [T.int 2,T.int 4] _;exact⟨cf (by simp),_,ah (j:=2) rfl,_,ah (j:=4) rfl,rfl,cf (by simp),fin _ hl hq⟩
 |get x y k=>refine⟨_,ah (j:=0) rfl,rfl,_,ah (j:=0) rfl,jU _,?_⟩;show ([T.int 2,T.int 3]:qaj).length<=sizeLine/\cm _ _ _ _ [T.int 2,T.int 3] _;exact⟨cf (by simp),_,ah (j:=2) rfl,_,ah (j:=3) rfl,rfl,cf (by simp),fin _ hl hq⟩
 |set y k a=>refine⟨_,ah (j:=0) rfl,rfl,_,ah (j:=0) rfl,jU _,?_⟩;show ([T.int 1,T.int 2,T.int 3]:qaj).length<=sizeLine/\cm _ _ _ _ [T.int 1,T.int 2,T.int 3] _;exact⟨cf (by simp),_,ah (j:=1) rfl,_,ah (j:=2) rfl,_,ah (j:=3) rfl,rfl,cf (by simp),fin _ hl hq⟩
 |_=>refine⟨_,ah (j:=0) rfl,rfl,_,ah (j:=0) rfl,jU _,?_⟩;show ([]:qaj).length<=sizeLine/\cm _ _ _ _ [] _;exact⟨jU _,rfl,jU _,fin _ hl hq⟩
end
end Yl
namespace Lay
open PySem L2 VT Gen K5
def top(i:Nat):Stmt:=PySem.Challenge.pw_slicewise_k16_cut_anywhere.main.body.getD i (.Pass ⟨0,0,0,0⟩)
abbrev jr:Stmt:=top 13
structure MgF(mg:qae):Prop where
 enumerate:mg "enumerate"=none
def Ly(ts:qaj)(q:qam):Prop:=∃rs:qal,ts=[.lst (rs.map aW)]/\rs.length<=100/\q (.fr (Yj (bc rs rs.length)))
section
abbrev xM:qai:=["program","firsts","place","row"]
theorem lK:az xM qay (ai jr):=L2.gJ
theorem uA(D:Df K mg "first_defs" jr qay f fd)(M:MgF mg):bU P w K mg base "first_defs" qay 1 (c8 K 1 Ly):=by
 refine D.g9 (m7 D.F lK rfl λbz A outer s H E Ox hr ts q hG=>?_);have nd:=lK.nd;have hu:=bA.gy hr;have np:∀{i:Nat},bO ⟨H,[],Ox⟩ i:=pS;refine⟨_,(aj (gX (i:=1) nd rfl (Or.inl rfl) (qau ER) np)
  (aj (l9 N3 rfl (xm (by rfl) M.enumerate (aq 0)) (rP (n:=2) rfl (eQ (bE (i:=2) nd rfl (Or.inl rfl) np) (eQ (bE (i:=3) nd rfl (Or.inl rfl) np) nA)))
   (aw (bt (bK hu (qas (aC (aa 3) (qas af))) (qas aG))
    (aw (cw (Pk 1 (qat (aC (aa 3) (qas af))) (aq 2))))
    aV)))
  (aw (aI (xb 1 np))))),λ_=>?_⟩
 obtain⟨rs,rfl,hn,hq⟩:=hG;refine vZ (λi ρ=>∃b2 b3,ρ=[some (.lst (rs.map aW),false),some (Yj (bc rs i),true),b2,b3]) ⟨_,_,rfl⟩ ?_ ?_;rintro i r ρ hr ⟨b2,b3,rfl⟩;have hi:=(eW.mp hr).1;have hlen:((bc rs i).map λp=>T.int (p.2:Int)).length<16777216:=by rw[c3];have:=sE rs i;omega
 have es:bc rs (i+1)=NS (bc rs i) i r:=by simp only[bc,hr]
 cases r with
 |df g ps=>
  refine⟨rfl,rfl,_,ah (j:=0) rfl,?_⟩;refine⟨_,ah (j:=1) rfl,hlen,?_⟩;rw[es];simp only[NS];rw[Lf];cases ha:yW (bc rs i) g with
  |some j=>exact⟨_,_,rfl⟩
  |none=>
   show ∃b2 b3,_=[_,some (Yj (bc rs i++[(g,i)]),true),b2,b3];have ef:Yj (bc rs i++[(g,i)])=.dk (((bc rs i).map λp=>(Sum.inr p.1:Key))++[Sum.inr g]) (((bc rs i).map λp=>T.int (p.2:Int))++[T.int (i:Int)]):=by simp only[Yj,t_,ix,N6]
   rw[ef];exact⟨_,_,rfl⟩
 |_=>refine⟨rfl,rfl,_,ah (j:=0) rfl,?_⟩;rw[es];exact⟨_,_,rfl⟩
 rintro ρ ⟨b2,b3,rfl⟩;exact hq
end
end Lay
namespace K5V
open PySem L2 VT Gen K5
def top(i:Nat):Stmt:=PySem.Challenge.pw_slicewise_k16_cut_anywhere.main.body.getD i (.Pass ⟨0,0,0,0⟩)
abbrev nQ:Stmt:=top 14
structure Mg5(K:qaf)(mg:qae):Prop where
 len:mg "len"=none
 range:mg "range"=none
 enumerate:mg "enumerate"=none
 isinstance:mg "isinstance"=none
 int:mg "int"=none
 bool:mg "bool"=none
 tuple:mg "tuple"=none
 list:mg "list"=none
 zip:mg "zip"=none
 CL:∃a,mg "CLOSERS"=some (.ref a)/\∀H,fM K H a [.str "give",.str "end"]
 OP:∃a,mg "OPENERS"=some (.ref a)/\∀H,fM K H a [.str "def",.str "if",.str "while"]
def Lz(ts:qaj)(q:qaj->Prop):Prop:=∃rs:qal,ts=[.lst (rs.map aW)]/\Yi rs/\rs.length<=100/\q (Ld rs)
theorem jX{l:qaj}{t:T}(h:l.getLast?=some t):jQ l (-1)=some t:=by
 have hl:0<l.length:=by cases l<;>simp_all
 rw[y3] at h;unfold jQ wM;rw[if_neg (by decide),if_pos (by omega)];have e:(-1+(l.length:Int)).toNat=l.length-1:=by omega
 rw[e];exact h
theorem LA(kd:Nat->Kd):∀k,(st kd k).length<=k
 |0=>c_ _
 |k+1=>by have:=LA kd k;simp only[st];split<;>split<;>simp<;>omega
theorem cf(h:n<=1000):n<=sizeLine:=small h
theorem Qe(n:Nat)(t:T):(List.replicate n [t]).flatten=List.replicate n t:=by
 induction n with
 |zero=>rfl
 |succ n ih=>rw[ud,NB,ih];rfl
def LB(rs:qal)(h e l o s:qaj)(k:Nat)(r:Rw):En:=[some (.lst (rs.map aW),false),some (.lst h,true),some (.lst e,true),some (.lst l,true),some (.lst o,true),some (.lst s,true),some (.int (k:Int),false),some (aW r,false)]
def xN(rs:qal)(k:Nat):qaj:=(st (bw rs) k).map λ(j:Nat)=>T.int (j:Int)
def adu(rs:qal)(k:Nat)(ρ:En):Prop:=∃b6 b7 h e l o s,ρ=[some (.lst (rs.map aW),false),some (.lst h,true),some (.lst e,true),some (.lst l,true),some (.lst o,true),some (.lst s,true),b6,b7]/\h=tab (nP (bw rs)) rs.length k/\e=jT (endsAt (bw rs) rs.length) rs.length k/\l=yX (bw rs) rs.length k/\o=tab (BD (bw rs)) rs.length k/\s=xN rs k
def Qf(rs:qal)(M:Nat->Rw->qaj->qaj->qaj->qaj->qaj->Prop):FS:=λd ρ=>∃k r h e l o s,rs[k]?=some r/\ρ=LB rs h e l o s k r/\h=tab (nP (bw rs)) rs.length (k+1)/\M k r h e l o s/\∀ρ',adu rs (k+1) ρ'->d.nx ρ'
def M1(rs:qal)(k:Nat)(r:Rw)(h e l o s:qaj):Prop:=e=jT (endsAt (bw rs) rs.length) rs.length k/\l=yX (bw rs) rs.length k/\s=xN rs k/\o.length=rs.length/\((a9 r).df=true->o.set k (.int (k:Int))=tab (BD (bw rs)) rs.length (k+1))/\((a9 r).df=false->o=tab (BD (bw rs)) rs.length (k+1))
def M2(rs:qal)(k:Nat)(r:Rw)(h e l o s:qaj):Prop:=e=jT (endsAt (bw rs) rs.length) rs.length k/\l=yX (bw rs) rs.length k/\s=xN rs k/\o=tab (BD (bw rs)) rs.length (k+1)
def M3(rs:qal)(k:Nat)(r:Rw)(h e l o s:qaj):Prop:=e=jT (endsAt (bw rs) rs.length) rs.length k/\l=yX (bw rs) rs.length (k+1)/\s=xN rs k/\o=tab (BD (bw rs)) rs.length (k+1)
def M4(rs:qal)(k:Nat)(r:Rw)(h e l o s:qaj):Prop:=e=jT (endsAt (bw rs) rs.length) rs.length (k+1)/\l=yX (bw rs) rs.length (k+1)/\o=tab (BD (bw rs)) rs.length (k+1)/\s=(if (a9 r).cl=true then (xN rs k).dropLast else xN rs k)
theorem sP{k:Nat}(h:k<n):wM n (k:Int)=some k:=by unfold wM;rw[if_pos (by omega),if_pos (by omega),yV]
theorem xO{k:Nat}(h:st (bw rs) k≠[]):∃j,(st (bw rs) k).getLast?=some j/\jQ (xN rs k) (-1)=some (.int (j:Int)):=by obtain⟨j,hj⟩:∃j,(st (bw rs) k).getLast?=some j:=⟨_,List.getLast?_eq_some_getLast h⟩;exact⟨j,hj,jX (by unfold xN;rw[List.getLast?_map,hj];rfl)⟩
section
abbrev xP:qai:=["program","heads","ends","elses","homes","opened","place","row"]
theorem AE:az xP qay (ai nQ):=L2.gJ
theorem LC(D:Df K mg "shape" nQ qay f fd)(M:Mg5 K mg):bU P w K mg base "shape" qay 1 (spD K 1 Lz):=by
 refine D.g9 (fnD D.F AE rfl (by decide) λbz A outer s H E Ox hr ts q hG=>?_);have nd:=AE.nd;have hu:=bA.gy hr;have np:∀{i:Nat},bO ⟨H,[],Ox⟩ i:=pS;obtain⟨ac,mc,hac⟩:=M.CL;obtain⟨ao,mo,hao⟩:=M.OP;have Hg:∀{pos},VP (gK fG P w K mg base xP "shape" (ai nQ) f bz A outer s H E).qX ⟨H,[],Ox⟩ (.Name "CLOSERS" pos) (fC (.tup [.str "give",.str "end"])):=ji (by rfl) mc (v:=.ref ac) rfl λH A=>cA (hac H) (aB.cons dy (aB.cons dy aB.nil));have Hh:∀{pos},VP (gK fG P w K mg base xP "shape" (ai nQ) f bz A outer s H E).qX ⟨H,[],Ox⟩ (.Name "OPENERS" pos) (fC (.tup [.str "def",.str "if",.str "while"])):=ji (by rfl) mo (v:=.ref ao) rfl λH A=>cA (hao H) (aB.cons dy (aB.cons dy (aB.cons dy aB.nil)));obtain⟨rs,rfl,W,hn,hq⟩:=hG;refine⟨_,(iZ (gX (i:=1) nd rfl (Or.inl rfl) (qau (md (c7 (ae (qat dA) ar)) (qas (aT aN aO (by rfl) M.len jW (aA (aa 0) aK))))) np)
  (iZ (gX (i:=2) nd rfl (Or.inl rfl) (qau (md (c7 (ae (qat dA) ar)) (qas (aT aN aO (by rfl) M.len jW (aA (aa 0) aK))))) np)
  (iZ (gX (i:=3) nd rfl (Or.inl rfl) (qau (md (c7 (ae (qat dA) ar)) (qas (aT aN aO (by rfl) M.len jW (aA (aa 0) aK))))) np)
  (iZ (gX (i:=4) nd rfl (Or.inl rfl) (qau (md (c7 (ae (qat dA) ar)) (qas (aT aN aO (by rfl) M.len jW (aA (aa 0) aK))))) np)
  (iZ (gX (i:=5) nd rfl (Or.inl rfl) (qau (c7 ar)) np)
  (iZ (l9 N3 rfl (xm (by rfl) M.enumerate (aq 0)) (rP (n:=2) rfl (eQ (bE (i:=6) nd rfl (Or.inl rfl) np) (eQ (bE (i:=7) nd rfl (Or.inl rfl) np) nA)))
   (aj (bt (JF (qas (aT aN aO (by rfl) M.len jW (aA (aa 5) aK))) (qas af))
    (aj (l0 1 (qat (aC (aa 5) (qas (lY (qas af))))) (aa 6))
    (aw (l0 4 (qat (aC (aa 5) (qas af))) (aa 6))))
    aV)
   (m5.weak (u:=(Qf rs (M1 rs))) (aj (bt (bK hu (qas (aC (aa 7) (qas af))) (qas aG))
    (aw (l0 4 (aq 6) (aa 6)))
    aV)
   (m5.weak (u:=(Qf rs (M2 rs))) (aj (bt (bK hu (qas (aC (aa 7) (qas af))) (qas aG))
    (aw (l0 3 (aq 6) (qas (aC (aa 5) (qas (lY (qas af)))))))
    aV)
   (m5.weak (u:=(Qf rs (M3 rs))) (aj (bt (vP (qas (aC (aa 7) (qas af))) (qas Hg))
    (aj (l0 2 (aq 6) (qas (aC (aa 5) (qas (lY (qas af))))))
    (aw (cw (B' 5 ab4 ab5 wW xa))))
    aV)
   (m5.weak (u:=(Qf rs (M4 rs))) (aw (bt (vP (qas (aC (aa 7) (qas af))) (qas Hh))
    (aw (cw (jJ 5 Ec Ed bQ b_ (ae (aq 6) ar))))
    aV)) ?w4)) ?w3)) ?w2)) ?w1)))
  (Pm (is:=[1,2,3,4]) rfl ⟨_,_,1,_,rfl,rfl,rfl,Or.inl rfl,by decide,by decide,rfl,⟨_,_,2,_,rfl,rfl,rfl,Or.inl rfl,by decide,by decide,rfl,⟨_,_,3,_,rfl,rfl,rfl,Or.inl rfl,by decide,by decide,rfl,⟨_,_,4,_,rfl,rfl,rfl,Or.inl rfl,by decide,by decide,rfl,rfl⟩⟩⟩⟩ (by decide) (by decide)))))))),λ_=>?main⟩
 case w4=>
  rintro d ρ ⟨k,r,h,e,l,o,s,c5,rfl,rfl,⟨rfl,rfl,rfl,rfl⟩,fin⟩;have Cp:k<rs.length:=(eW.mp c5).1;have pW:=fS c5;obtain⟨rl,er⟩:=i5 r;unfold LB;rw[er];refine⟨_,ah (j:=0) rfl,rfl,rfl,?_⟩;refine zl (λh1=>?_) (λh1=>?_);have ho:(a9 r).op=true:=by rw[<- adk];exact h1
  have hc:(a9 r).cl=false:=by have:=W.ex k Cp (by rw[pW];exact ho);rw[pW] at this;exact this
  rw[hc,if_neg jb];refine⟨?_,fin _ ⟨_,_,_,_,_,_,_,rfl,rfl,rfl,rfl,rfl,?_⟩⟩;have:=LA (bw rs) k;unfold xN;rw[c3,sizeLine_eq];omega;unfold xN;rw[nJ (by rw[pW];exact ho) (by rw[pW];exact hc),t_];rfl;have ho:(a9 r).op=false:=by
   cases q:(a9 r).op with
   |false=>rfl
   |true=>exact (h1 ((adk r).trans q)).elim
  refine fin _ ⟨_,_,_,_,_,_,_,rfl,rfl,rfl,rfl,rfl,?_⟩;unfold xN;by_cases hc:(a9 r).cl=true;rw[if_pos hc,nK (by rw[pW];exact hc) (by rw[pW];exact ho),List.map_dropLast];rw[if_neg hc,sD (by rw[pW];cases q:(a9 r).cl<;>simp_all) (by rw[pW];exact ho)]
 case w3=>
  rintro d ρ ⟨k,r,h,e,l,o,s,c5,rfl,rfl,⟨rfl,rfl,rfl,rfl⟩,fin⟩;have Cp:k<rs.length:=(eW.mp c5).1;have pW:=fS c5;obtain⟨rl,er⟩:=i5 r;unfold LB;rw[er];refine⟨_,ah (j:=0) rfl,rfl,rfl,?_⟩;refine zl (λh1=>?_) (λh1=>?_);have hc:(a9 r).cl=true:=by rw[<- adj];exact h1
  have m4:(bw rs k).cl=true:=by rw[pW];exact hc
  obtain⟨j,hj,ej⟩:=xO (W.cl k Cp m4);obtain⟨te,hjk⟩:=P0 W Cp m4 hj;refine⟨_,ej,j,by rw[Ak];exact sP (by omega),rfl,.int (j:Int),?_,k,r,_,_,_,_,_,c5,by rw[<- er];rfl,rfl,⟨?_,rfl,rfl,by rw[if_pos hc]⟩,fin⟩;unfold xN;rw[c3,ie,<- y3,hj];rfl;refine Lc te λi hi he=>?_;have:=(xF W Cp he hi).2;rw[hj] at this;exact (Option.some.inj this).symm;have hc:(a9 r).cl=false:=by
   cases q:(a9 r).cl with
   |false=>rfl
   |true=>exact (h1 ((adj r).trans q)).elim
  refine⟨k,r,_,_,_,_,_,c5,by rw[<- er];rfl,rfl,⟨G9 λi hi he=>?_,rfl,rfl,by rw[hc,if_neg jb]⟩,fin⟩;have:=(xF W Cp he hi).1;rw[pW,hc] at this;cases this
 case w2=>
  rintro d ρ ⟨k,r,h,e,l,o,s,c5,rfl,rfl,⟨rfl,rfl,rfl,rfl⟩,fin⟩;have Cp:k<rs.length:=(eW.mp c5).1;have pW:=fS c5;obtain⟨rl,er⟩:=i5 r;unfold LB;rw[er];refine⟨_,ah (j:=0) rfl,?_⟩;refine zl (λh1=>?_) (λh1=>?_);have hc:(a9 r).el=true:=by rw[<- adi];exact h1
  have m4:(bw rs k).el=true:=by rw[pW];exact hc
  obtain⟨j,hj,ej⟩:=xO (W.el k Cp m4);have U6:j<k:=(lr k).2 j (List.mem_of_getLast? hj);refine⟨_,ej,j,by rw[qS];exact sP (by omega),k,r,_,_,_,_,_,c5,by rw[<- er];rfl,rfl,⟨rfl,?_,rfl,rfl⟩,fin⟩;simp only[yX,nP,m4,hj];have hc:(a9 r).el=false:=by
   cases q:(a9 r).el with
   |false=>rfl
   |true=>exact (h1 ((adi r).trans q)).elim
  refine⟨k,r,_,_,_,_,_,c5,by rw[<- er];rfl,rfl,⟨rfl,?_,rfl,rfl⟩,fin⟩;simp only[yX,pW,hc]
 case w1=>
  rintro d ρ ⟨k,r,h,e,l,o,s,c5,rfl,rfl,⟨rfl,rfl,rfl,ol,o1,o2⟩,fin⟩;have Cp:k<rs.length:=(eW.mp c5).1;obtain⟨rl,er⟩:=i5 r;unfold LB;rw[er];refine⟨_,ah (j:=0) rfl,?_⟩;refine zl (λh1=>?_) (λh1=>?_);exact⟨k,by rw[ol];exact sP Cp,k,r,_,_,_,_,_,c5,by rw[<- er];rfl,rfl,⟨rfl,rfl,rfl,o1 (by rw[<- adh];exact h1)⟩,fin⟩;have hc:(a9 r).df=false:=by
   cases q:(a9 r).df with
   |false=>rfl
   |true=>exact (h1 ((adh r).trans q)).elim
  exact⟨k,r,_,_,_,_,_,c5,by rw[<- er];rfl,rfl,⟨rfl,rfl,rfl,o2 hc⟩,fin⟩
 case main=>
  have hlen:((rs.map aW).length:Int)=(rs.length:Int):=by rw[c3]
  have agj:(List.replicate ((rs.map aW).length:Int).toNat [T.aP]).flatten=List.replicate rs.length T.aP:=by rw[hlen,yV];exact Qe _ _
  have hb1 : -(2 ^ 63)<=((rs.map aW).length:Int):=by omega
  have Yc:((rs.map aW).length:Int)<2 ^ 63:=by omega
  have hb3:[T.aP].length * ((rs.map aW).length:Int).toNat<=sizeLine:=by rw[hlen,yV,sizeLine_eq];simp;omega
  refine⟨cf (by simp),hb1,Yc,hb3,cf (by simp),hb1,Yc,hb3,cf (by simp),hb1,Yc,hb3,cf (by simp),hb1,Yc,hb3,cf (by simp),?_⟩;show pQ (eS (rs.map aW)) _ _ _ [some (.lst (rs.map aW),false),some (.lst (List.replicate ((rs.map aW).length:Int).toNat [T.aP]).flatten,true),some (.lst (List.replicate ((rs.map aW).length:Int).toNat [T.aP]).flatten,true),some (.lst (List.replicate ((rs.map aW).length:Int).toNat [T.aP]).flatten,true),some (.lst (List.replicate ((rs.map aW).length:Int).toNat [T.aP]).flatten,true),some (.lst [],true),none,none];rw[Le,agj];refine se (adu rs)
   ⟨_,_,_,_,_,_,_,rfl,(Am _ _).symm,(G8 _ _).symm,rfl,(Am _ _).symm,rfl⟩ ?_ ?_
  . rintro k ⟨r,k'⟩ ρ hk ⟨b6,b7,_,_,_,_,_,rfl,rfl,rfl,rfl,rfl,rfl⟩;rw[YO] at hk;cases c5:rs[k]? with
    |none=>rw[c5] at hk;cases hk
    |some r'=>
    rw[c5] at hk;simp at hk;obtain⟨rfl,rfl⟩:=hk;have Cp:k<rs.length:=(eW.mp c5).1;obtain⟨rl,er⟩:=i5 r';refine⟨rfl,rfl,?_⟩;show UI _ _ _ [some (.lst (rs.map aW),false),some (.lst (tab (nP (bw rs)) rs.length k),true),some (.lst (jT (endsAt (bw rs) rs.length) rs.length k),true),some (.lst (yX (bw rs) rs.length k),true),some (.lst (tab (BD (bw rs)) rs.length k),true),some (.lst (xN rs k),true),some (.int (k:Int),false),some (aW r',false)];rw[er];have pW:=fS c5;refine cX (λh1=>?_) (λh1=>?_);have ik:st (bw rs) k≠[]:=λz=>by have EG:((xN rs k).length:Int) > 0:=h1;unfold xN at EG;rw[z] at EG;simp at EG
    obtain⟨j,hj,ej⟩:=xO ik;obtain⟨j0,hj0⟩:∃j0,(st (bw rs) k).head?=some j0:=⟨_,List.head?_eq_some_head ik⟩;have ej0:jQ (xN rs k) 0=some (.int (j0:Int)):=ah (j:=0) (by unfold xN;rw[ie,<- List.head?_eq_getElem?,hj0];rfl);refine⟨_,ej,k,by rw[nN];exact sP Cp,_,ej0,k,by rw[nN];exact sP Cp,k,r',_,_,_,_,_,c5,by rw[<- er];rfl,?_,⟨rfl,rfl,rfl,by rw[NF,nN],λhd=>?_,λhd=>?_⟩,λρ' h=>h⟩;have e1:T.int (j:Int)=oT (nP (bw rs) k):=by unfold nP;rw[hj];rfl
    rw[e1];exact qR;rw[List.set_set];have e1:T.int (k:Int)=oT (BD (bw rs) k):=by unfold BD;rw[pW,if_pos hd];rfl
    rw[e1];exact qR;have e1:T.int (j0:Int)=oT (BD (bw rs) k):=by unfold BD;rw[pW,hd,if_neg jb,hj0];rfl
    rw[e1];exact qR;have ik:st (bw rs) k=[]:=by
     cases q:st (bw rs) k with
     |nil=>rfl
     |cons a b=>exfalso;refine h1 ?_;show ((xN rs k).length:Int) > 0;unfold xN;rw[q];simp
    refine⟨k,r',_,_,_,_,_,c5,by rw[<- er];rfl,An (by unfold nP;rw[ik];rfl),⟨rfl,rfl,rfl,by rw[nN],λhd=>?_,λhd=>?_⟩,λρ' h=>h⟩;have e1:T.int (k:Int)=oT (BD (bw rs) k):=by unfold BD;rw[pW,if_pos hd];rfl
    rw[e1];exact qR;exact An (by unfold BD;rw[pW,hd,if_neg jb,ik];rfl)
  rintro ρ ⟨b6,b7,_,_,_,_,_,rfl,rfl,rfl,rfl,rfl,rfl⟩;rw[List.length_zipIdx,Ao,Ao,G_];exact hq;intro j m hj he;unfold endsAt at he;split at he
  rename_i ho
  obtain⟨e,h1,h2,h3,_⟩:=end_is W hj ho;rw[h1] at he;cases he;exact h3;cases he
end
end K5V
namespace Lay
open PySem L2 VT Gen K5
abbrev kz:Stmt:=inClass (top 16) 0
structure adv(mg:qae):Prop where
 len:mg "len"=none
 min:mg "min"=none
structure Qg(K:qaf)(C:Addr):Prop where
 cl:BR K C
 di:bp K C "program"
 Ff:bp K C "heads"
 oZ:bp K C "ends"
 xQ:bp K C "elses"
 Qh:bp K C "homes"
 xR:bp K C "defs"
 LD:bp K C "main"
def nR(C:Addr)(ts:qaj)(q:T->Prop):Prop:=∃rs:qal,ts=[.lst (rs.map aW)]/\Yi rs/\rs.length<=100/\q (cb C rs)
section
variable{cLayout:Addr}
abbrev LF:qai:=["self","program","parts"]
theorem wo:az LF qaz (ai kz):=L2.gJ
theorem Hi(D:Dc K mg "Layout" "Layout.__init__" kz qaz cLayout f fd)(M:adv mg)(M1:Qg K cLayout)(Qi:bU P w K mg base "shape" qay 1 (spD K 1 K5V.Lz))(xS:bU P w K mg base "first_defs" qay 1 (c8 K 1 Ly)):Kr P w K mg base "Layout" cLayout qaz 2 1 (nR cLayout):=by
 obtain⟨aeV,adw,Qj,Qk,Ql,Qm⟩:=Qi;obtain⟨Qn,NU,xT,xU,xV,xW⟩:=xS;refine D.g9 (fnI D.F wo rfl λbz A outer s H E as Ox hr us q hl hG=>?_);have nd:=wo.nd;have ax:=M1;refine⟨_,(aj (bq (i:=2) nd rfl (Or.inl rfl) (qau (VD.vp (Pn Qm (hr.mono (by decide)) (by rfl) Qj Qk Ql (ae (aq 1) ar)))) (EI (by decide)))
  (aj (jn 0 ax.cl ax.di (aq 1))
  (aj (jn 0 ax.cl ax.Ff (qat (aC (aa 2) (qas af))))
  (aj (jn 0 ax.cl ax.oZ (qat (aC (aa 2) (qas af))))
  (aj (jn 0 ax.cl ax.xQ (qat (aC (aa 2) (qas af))))
  (aj (jn 0 ax.cl ax.Qh (qat (aC (aa 2) (qas af))))
  (aj (jn 0 ax.cl ax.xR (qat (aQ xW (hr.mono (by decide)) (by rfl) xT xU xV (ae (aq 1) ar))))
  (aw (jn 0 ax.cl ax.LD (qat (jI (JF (qas (aT GC Ci (by rfl) M.len jW (aA (qas (aZ ax.cl ax.xR (aa 0))) aK))) (qas af)) (Cm rfl (by rfl) M.min (qas (aZ ax.cl ax.xR (aa 0)))) dA))))))))))),?_⟩
 obtain⟨rs,rfl,W,hn,hq⟩:=hG;refine⟨rfl,rs,rfl,W,hn,?_⟩;rw[Lh];refine⟨rfl,by show 0<1000;decide,?_⟩;refine⟨rfl,_,ah (j:=0) rfl,by show 1<1000;decide,?_⟩;refine⟨rfl,_,ah (j:=1) rfl,by show 2<1000;decide,?_⟩;refine⟨rfl,_,ah (j:=2) rfl,by show 3<1000;decide,?_⟩;refine⟨rfl,_,ah (j:=3) rfl,by show 4<1000;decide,?_⟩;refine⟨rfl,rfl,rs,rfl,hn,by show 5<1000;decide,?_⟩;refine⟨rfl,?_⟩;refine⟨rfl,_,rfl,?_⟩;refine cX (λh=>?_) (λh=>?_);refine⟨rfl,_,rfl,(bc rs rs.length).map (λp=>(p.2:Int)),?_,?_,λm h1 h2=>?_⟩;rw[Eg];rfl;intro z;rw[List.map_eq_nil_iff] at z;rw[z] at h;exact absurd h (by decide);refine⟨by show 6<1000;decide,?_⟩;have e:=Lg h1 h2;show q [_] _;rw[e];exact hq;refine⟨by show 6<1000;decide,?_⟩;have z:bc rs rs.length=[]:=by
  cases e:bc rs rs.length with
  |nil=>rfl
  |cons a b=>exfalso;apply h;rw[e];simp
 have e:fB rs=none:=by
  cases e:fB rs with
  |none=>rfl
  |some i=>obtain⟨⟨g,ps,hi⟩,hm⟩:=i6 e;obtain⟨l,hl⟩:=km hi hm rs.length (eW.mp hi).1;rw[z] at hl;cases hl
 have e2:T.aP=oT (fB rs):=by rw[e];rfl
 unfold cb at hq;rw[<- e2] at hq;exact hq
end
end Lay
namespace PySem
namespace SetTable
end SetTable
end PySem
namespace PySem
section
variable{K:Type}[DecidableEq K](knd:KeyKind prog w K)
variable{knd}
variable{s:Shared}
end
end PySem
namespace VT
open PySem PySem.Spec PyProof.Rows
section
variable{R:Result->Shared->Prop}{I:Addr}{wr:qah}{G:Array GenState->Array GenState->Prop}{P:Nat->Value->Prop}{St:Nat->Shared->Prop}
variable{K:Type}[DecidableEq K]{knd:PySem.KeyKind prog w K}
end
section
variable{s:Shared}
variable{K:Type}[DecidableEq K]{knd:PySem.KeyKind prog w K}
end
end VT
namespace PySem
open Sem (wp)
namespace F
end F
section
variable{s:Shared}
variable{o:Obj}{es:Array (Int×Value)}{ep:Nat}{t:SetTable}
end
end PySem
namespace PySem
open Sem (wp)
section
variable{s:Shared}
variable{it:Addr}{o:Obj}{es:Array (Int×Value)}{ep:Nat}{t:SetTable}{slot:Nat}{ord:List (Int×Value)}
end
end PySem
namespace VT
open PySem PyProof.Rows L2
end VT
namespace PySem
open Sem (wp)
section
variable{s:Shared}
variable{o:Obj}{es:Array (Int×Value)}{ep:Nat}{t:SetTable}
end
end PySem
namespace VT
open PySem PySem.Spec PyProof.Rows L2
end VT
namespace Lay
open PySem L2 VT Gen K5
def Qo:Rw->Bool
 |.mn _=>false
 |.gS _=>false
 |.mq=>false
 |.fin=>false
 |.give _=>false
 |_=>true
theorem rk(r:Rw):(∃a,r=.mn a)\/(∃a,r=.gS a)\/r=.mq\/r=.fin\/(∃a,r=.give a)\/Qo r=true:=by cases r<;>simp[Qo]
def V6:qai:=["def","put","do","new","get","set","call","fail","skip"]
theorem V7(h:Qo r=true):wd r∈V6:=by cases r<;>first|exact Bool.noConfusion (show false=true from h)|simp[V6,wd]
theorem V8:∀x∈V6,x≠"give"/\x≠"if"/\x≠"while"/\x≠"else"/\x≠"end":=by decide +kernel
theorem V9(h:Qo r=true):wd r≠"give"/\wd r≠"if"/\wd r≠"while"/\wd r≠"else"/\wd r≠"end":=V8 _ (V7 h)
theorem LG(hr:rs[j]?=some r)(h:Qo r=true):Cz rs j=(j:Int)+1:=by unfold Cz;rw[hr];cases r<;>first|exact Bool.noConfusion (show false=true from h)|rfl
end Lay
namespace VT
open PySem PySem.Spec PyProof.Rows L2
end VT
namespace Nx
open PySem L2 VT Gen K5 Lay
abbrev o4:Stmt:=top 17
abbrev sQ:Stmt:=top 18
abbrev jt:Stmt:=top 19
theorem V_(h:wd r="while"):∃a,r=.gS a:=by cases r<;>first|exact⟨_,rfl⟩|exact absurd h (by show ¬ ((_:Str)="while");simp only[wd];decide +kernel)
def V'(ts:qaj)(q:qam):Prop:=∃k:Int,ts=[.int k]/\q (.vw (.int (k+1)))
def gNo(C:Addr)(ts:qaj)(q:qam):Prop:=∃(rs:qal)(j:Nat)(r:Rw),ts=[cb C rs,.int (j:Int)]/\Bl rs/\rs[j]?=some r/\Ln r=true/\q (.vw (.int (P9 rs j)))
def Hj(C:Addr)(ts:qaj)(q:qam):Prop:=∃(rs:qal)(j:Nat)(r:Rw),ts=[cb C rs,.int (j:Int)]/\Bl rs/\rs[j]?=some r/\q (.vw (.int (Cz rs j)))
section
variable{cLayout:Addr}
abbrev Hk:qai:=["place"]
theorem sR:az Hk ["place"] (ai o4):=L2.gJ
theorem CH(D:Df K mg "yes_row" o4 ["place"] f fd):bU P w K mg base "yes_row" ["place"] 1 (c8 K 1 V'):=by refine D.g9 (m7 D.F sR rfl λbz A outer s H E Ox hr ts q hG=>?_);have nd:=sR.nd;refine⟨_,(aw (aI (qau (bZ (aa 0) (qas af))))),λ_=>?_⟩;obtain⟨k,rfl,hq⟩:=hG;exact hq
abbrev LH:qai:=qaA
theorem wq:az LH qaA (ai sQ):=L2.gJ
theorem Hl(D:Df K mg "no_row" sQ qaA f fd)(M:Qg K cLayout):bU P w K mg base "no_row" qaA 1 (c8 K 2 (gNo cLayout)):=by
 refine D.g9 (m7 D.F wq rfl λbz A outer s H E Ox hr ts q hG=>?_);have nd:=wq.nd;have hu:=bA.gy hr;have ax:=M;refine⟨_,(aj (bt (bK hu (qas (aC (qas (aC (qas (aZ ax.cl ax.di (aa 0))) (aa 1))) (qas af))) (qas aG))
    (aw (aI (qau (bZ (qas (aC (qas (aZ ax.cl ax.oZ (aa 0))) (aa 1))) (qas af)))))
    aV)
   (aj (bt (zE (qas (aC (qas (aZ ax.cl ax.xQ (aa 0))) (aa 1))) (qas dA))
     (aw (aI (qau (aC (qas (aZ ax.cl ax.oZ (aa 0))) (aa 1)))))
     aV)
   (aw (aI (qau (bZ (qas (aC (qas (aZ ax.cl ax.xQ (aa 0))) (aa 1))) (qas af))))))),λ_=>?_⟩
 obtain⟨rs,j,r,rfl,B,c5,hh,hq⟩:=hG;have hj:=(eW.mp c5).1;have he:=E9 hj;have hl:=VJ hj;unfold P9 at hq;rw[c5] at hq;cases r with
 |gS a=>obtain⟨e,b⟩:=B.blo c5 (.inr rfl);unfold qp at hq;rw[b.en] at hq he;exact⟨rfl,_,rfl,_,kn c5,_,ah (j:=0) rfl,rfl,_,rfl,_,he,hq⟩
 |mn a=>
   obtain⟨e,b⟩:=B.blo c5 (.inl rfl);dsimp only at hq;unfold qp at hq;rw[b.en] at hq he;refine⟨rfl,_,rfl,_,kn c5,_,ah (j:=0) rfl,rfl,_,rfl,_,hl,?_⟩;cases hv:Lm rs j with
   |none=>rw[hv] at hq;exact⟨rfl,_,rfl,_,he,hq⟩
   |some x=>rw[hv] at hq hl;exact⟨rfl,_,rfl,_,hl,hq⟩
 |_=>cases hh
abbrev xX:qai:=["layout","place","word","head"]
theorem lL:az xX qaA (ai jt):=L2.gJ
theorem uB(D:Df K mg "row_behind" jt qaA f fd)(M:Qg K cLayout):bU P w K mg base "row_behind" qaA 1 (c8 K 2 (Hj cLayout)):=by
 refine D.g9 (m7 D.F lL rfl λbz A outer s H E Ox hr ts q hG=>?_);have nd:=lL.nd;have hu:=bA.gy hr;have np:∀{i:Nat},bO ⟨H,[],Ox⟩ i:=pS;have ax:=M;refine⟨_,(aj (bq (i:=2) nd rfl (Or.inl rfl) (qau (aC (qas (aC (qas (aZ ax.cl ax.di (aa 0))) (aa 1))) (qas af))) np)
  (aj (bq (i:=3) nd rfl (Or.inl rfl) (qau (aC (qas (aZ ax.cl ax.Ff (aa 0))) (aa 1))) np)
  (aj (bt (bK hu (aa 2) (qas aG))
   (aw (aI (qau (aC (qas (aZ ax.cl ax.oZ (aa 0))) (aa 3)))))
   aV)
  (aj (bt (VW.vc (fN (bK hu (aa 2) (qas aG)) (eX (bK hu (qas (aC (qas (aC (qas (aZ ax.cl ax.di (aa 0))) (aa 3))) (qas af))) (qas aG)))))
   (aw (aI (qau (VE.vp (aq 3)))))
   aV)
  (aw (aI (qau (bZ (aa 1) (qas af))))))))),λ_=>?_⟩
 obtain⟨rs,j,r,rfl,B,c5,hq⟩:=hG;have hj:=(eW.mp c5).1;have hh:=VF hj;unfold Cz at hq;rw[c5] at hq;refine⟨rfl,_,rfl,_,kn c5,?_⟩;rcases rk r with⟨a,rfl⟩|⟨a,rfl⟩|rfl|rfl|⟨a,rfl⟩|ho
 exact⟨_,ah (j:=0) rfl,rfl,_,rfl,_,hh,hq⟩;exact⟨_,ah (j:=0) rfl,rfl,_,rfl,_,hh,hq⟩;obtain⟨_,o,a,h1,h2,_⟩:=B.mq c5;have ho:=(eW.mp h2).1;obtain⟨e,b⟩:=B.blo h2 (.inl rfl);have he:=E9 ho;unfold qp IS at hq;rw[h1] at hq hh;simp only[acw] at hq;rw[b.en] at hq he;exact⟨_,ah (j:=0) rfl,rfl,_,rfl,_,hh,rfl,_,rfl,_,he,hq⟩;obtain⟨_,o,r2,h1,h2,h3⟩:=B.fin c5;unfold IS at hq;rw[h1] at hq hh;simp only[acw] at hq;rw[h2] at hq;have hra:=kn h2;obtain⟨l2,el2⟩:=qO r2;rw[el2] at hra;refine⟨_,ah (j:=0) rfl,rfl,_,rfl,_,hh,rfl,_,rfl,_,hra,_,ah (j:=0) rfl,cX (λz=>?_) (λz=>?_)⟩;have z':wd r2="while":=z;obtain⟨a,rfl⟩:=V_ z';exact hq;have z':¬ wd r2="while":=z;cases r2<;>first|exact hq|exact absurd rfl z'
 exact⟨_,ah (j:=0) rfl,rfl,_,rfl,_,hh,hq⟩;obtain⟨l,el⟩:=qO r;obtain⟨g1,g2,g3,g4,g5⟩:=V9 ho;have hb:=LG c5 ho;unfold Cz at hb;rw[c5] at hb;rw[hb] at hq;rw[el];refine⟨_,ah (j:=0) rfl,rfl,_,rfl,_,hh,cX (λz=>absurd z g4) (λ_=>cX (λz=>absurd z g5) (λ_=>fR rfl hq))⟩
end
end Nx
set_option exponentiation.threshold 4000
namespace ki
open PySem L2 VT
def top(i:Nat):Stmt:=PySem.Challenge.pw_slicewise_k16_cut_anywhere.main.body.getD i (.Pass ⟨0,0,0,0⟩)
abbrev Fg:Stmt:=top 21
abbrev kA:Stmt:=top 22
abbrev kB:Stmt:=top 23
abbrev CI:Stmt:=top 24
abbrev xY:Stmt:=top 25
abbrev xZ:Stmt:=top 26
abbrev CJ:Stmt:=top 27
abbrev CM:Stmt:=top 28
abbrev CN:Stmt:=top 29
abbrev ju:Stmt:=top 31
structure Mg(w:World)(K:qaf)(mg:qae):Prop where
 H:∃t,mg "H"=some (.int 1000000000000000000000000000000 t)
 Hm:∃a,mg "DIVISIONS"=some (.ref a)/\∀H,fM K H a [.str "over",.str "rest"]
 isinstance:mg "isinstance"=none
 int:mg "int"=none
 bool:mg "bool"=none
 tuple:mg "tuple"=none
 len:mg "len"=none
 range:mg "range"=none
 RK:∃(a:Addr)(fo:G0->Addr),mg "RECKONERS"=some (.ref a)/\(∀o,mg (kj o)=some (.ref (fo o)))/\sr w K a [("plus",.ob (fo .plus)),("minus",.ob (fo .minus)),("times",.ob (fo .times)),("over",.ob (fo .over)),("rest",.ob (fo .rest)),("less",.ob (fo .less))]
def Hn(ts:qaj)(q:qam):Prop:=∃i,ts=[.int i]/\q (.vw (.int (eF i)))
def Wa(ts:qaj)(q:qam):Prop:=∃a:Vl,ts=[vT a]/\q (.vw (.bl (match a with | .num _=>false | .GZ _ _=>true)))
def gNm(ts:qaj)(q:qam):Prop:=∃a:Vl,ts=[vT a]/\q (.vw (.int (nm a)))
def Qp(o:G0)(ts:qaj)(q:qam):Prop:=∃x y:Int,ts=[.int x,.int y]/\uw x/\uw y/\(Cu o=true->y≠0)/\q (.vw (.int (PQ o x y)))
abbrev SH:=Qp .plus
abbrev LI:=Qp .minus
abbrev LJ:=Qp .times
abbrev SI:=Qp .over
abbrev SJ:=Qp .rest
abbrev SK:=Qp .less
def LK(ts:qaj)(q:qam):Prop:=(∃a b,ts=[vT a,.str "same",vT b]/\q (.vw (z_ a b)))\/(∃a b o,ts=[vT a,.str (kj o),vT b]/\RI (nm a)/\RI (nm b)/\q (.vw (rkT o (nm a) (nm b))))
theorem adx(a b:Vl):eqT (vT a) (vT b)=decide (a=b):=by cases a<;>cases b<;>simp[vT,eqT,gM]<;>rfl
theorem LL{a b:Vl}{q:qam}(h:q (.vw (.bl (decide (a=b))))):Gn (vT a) (vT b) q:=by
 have e:=adx a b;cases a with
 |num i=>cases b with
  |num j=>have:decide (i=j)=decide (Vl.num i=Vl.num j):=decide_eq_decide.mpr (by simp);show q (.vw (.bl (decide (i=j))));rw[this];exact h
  |GZ p r=>exact⟨rfl,rfl,by simp[vT,dep],by rw[<- e] at h;exact h⟩
 |GZ p r=>exact⟨rfl,by cases b<;>rfl,by simp[vT,dep,gx],by rw[<- e] at h;exact h⟩
theorem Qq{a b:Vl}{q:qam}(h:q (.vw (z_ a b))):if decide (a=b)=true then q (.vw (.int 1)) else q (.vw (.int 0)):=by unfold z_ at h;by_cases e:a=b;rw[if_pos (decide_eq_true e)];rw[if_pos e] at h;exact h;rw[if_neg (by rw[decide_eq_false e];exact jb)];rw[if_neg e] at h;exact h
theorem LM(o:G0):decide (kj o=("same":Str))=false:=by cases o<;>decide +kernel
theorem LN(o:G0):Cc (.str (kj o)) [.str "over",.str "rest"]=Cu o:=by cases o<;>first|rfl|decide +kernel
section
abbrev SM:qai:=qaB
theorem LO:az SM qaB (ai Fg):=L2.gJ
theorem Wb(D:Df K mg "fit" Fg qaB f fd)(M:Mg w K mg):bU P w K mg base "fit" qaB 1 (c8 K 1 Hn):=by refine D.g9 (m7 D.F LO rfl λbz A outer s H E Ox hr ts q hG=>?_);have nd:=LO.nd;obtain⟨tH,mH⟩:=M.H;have g_H:∀{pos},VP (gK fG P w K mg base SM "fit" (ai Fg) f bz A outer s H E).qX ⟨H,[],Ox⟩ (.Name "H" pos) (fC (.int 1000000000000000000000000000000)):=ji (by rfl) mH (v:=.int 1000000000000000000000000000000) ⟨_,rfl⟩ λ_ _=>bC;refine⟨_,(aw (aI (qau (iN (qas (bj (qas (bZ (aa 0) (qas g_H))) (qas (EJ (qas af) (qas g_H))))) (qas g_H))))),λ_=>?_⟩;obtain⟨i,rfl,hq⟩:=hG;exact⟨⟨bg 2,uw.of (by decide +kernel) (by decide +kernel)⟩,(by show (0:Int)<2 * 1000000000000000000000000000000;decide),hq⟩
abbrev AF:qai:=qaC
theorem nS:az AF qaC (ai kA):=L2.gJ
theorem x4(D:Df K mg "is_record" kA qaC f fd)(M:Mg w K mg):bU P w K mg base "is_record" qaC 1 (c8 K 1 Wa):=by
 refine D.g9 (m7 D.F nS rfl λbz A outer s H E Ox hr ts q hG=>?_);have nd:=nS.nd;refine⟨_,(aw (aI (qau (lg ma (by rfl) M.isinstance (by rfl) M.tuple lh (aa 0))))),λ_=>?_⟩;obtain⟨a,rfl,hq⟩:=hG;cases a with
 |num i=>exact⟨rfl,hq⟩
 |GZ p r=>exact⟨rfl,hq⟩
abbrev AG:qai:=qaC
theorem nT:az AG qaC (ai kB):=L2.gJ
theorem x5(D:Df K mg "number_of" kB qaC f fd)(M:Mg w K mg)(kD:bU P w K mg base "is_record" qaC 1 (c8 K 1 Wa)):bU P w K mg base "number_of" qaC 2 (c8 K 1 gNm):=by
 obtain⟨AH,x6,kE,kF,kG,kH⟩:=kD;refine D.g9 (m7 D.F nT rfl λbz A outer s H E Ox hr ts q hG=>?_);have nd:=nT.nd;refine⟨_,(aw (aI (qau (jI (gv (aQ kH (hr.mono (by decide)) (by rfl) kE kF kG (ae (aq 0) ar))) af (VE.vp (aq 0)))))),λ_=>?_⟩;obtain⟨a,rfl,hq⟩:=hG;refine⟨rfl,a,rfl,?_⟩;cases a with
 |num i=>exact hq
 |GZ p r=>exact hq
abbrev Wc:qai:=qaD
theorem Fh:az Wc qaD (ai CI):=L2.gJ
theorem Qr(D:Df K mg "plus" CI qaD f fd)(M:Mg w K mg):bU P w K mg base "plus" qaD 1 (c8 K 2 SH):=by refine D.g9 (m7 D.F Fh rfl λbz A outer s H E Ox hr ts q hG=>?_);have nd:=Fh.nd;refine⟨_,(aw (aI (qau (bZ (aa 0) (aa 1))))),λ_=>?_⟩;obtain⟨x,y,rfl,hx,hy,_,hq⟩:=hG;exact hq
abbrev Qs:qai:=qaD
theorem AI:az Qs qaD (ai xY):=L2.gJ
theorem LP(D:Df K mg "minus" xY qaD f fd)(M:Mg w K mg):bU P w K mg base "minus" qaD 1 (c8 K 2 LI):=by refine D.g9 (m7 D.F AI rfl λbz A outer s H E Ox hr ts q hG=>?_);have nd:=AI.nd;refine⟨_,(aw (aI (qau (iN (aa 0) (aa 1))))),λ_=>?_⟩;obtain⟨x,y,rfl,hx,hy,_,hq⟩:=hG;exact hq
abbrev Qt:qai:=qaD
theorem AJ:az Qt qaD (ai xZ):=L2.gJ
theorem LQ(D:Df K mg "times" xZ qaD f fd)(M:Mg w K mg):bU P w K mg base "times" qaD 1 (c8 K 2 LJ):=by refine D.g9 (m7 D.F AJ rfl λbz A outer s H E Ox hr ts q hG=>?_);have nd:=AJ.nd;refine⟨_,(aw (aI (qau (EJ (aa 0) (aa 1))))),λ_=>?_⟩;obtain⟨x,y,rfl,hx,hy,_,hq⟩:=hG;exact⟨⟨hx,hy⟩,hq⟩
abbrev Wd:qai:=qaD
theorem Fj:az Wd qaD (ai CJ):=L2.gJ
theorem Qu(D:Df K mg "over" CJ qaD f fd)(M:Mg w K mg):bU P w K mg base "over" qaD 1 (c8 K 2 SI):=by refine D.g9 (m7 D.F Fj rfl λbz A outer s H E Ox hr ts q hG=>?_);have nd:=Fj.nd;refine⟨_,(aw (aI (qau (Ki (aa 0) (aa 1))))),λ_=>?_⟩;obtain⟨x,y,rfl,hx,hy,hd,hq⟩:=hG;exact⟨⟨hd rfl,hy⟩,hq⟩
abbrev We:qai:=qaD
theorem Fl:az We qaD (ai CM):=L2.gJ
theorem Qv(D:Df K mg "rest" CM qaD f fd)(M:Mg w K mg):bU P w K mg base "rest" qaD 1 (c8 K 2 SJ):=by refine D.g9 (m7 D.F Fl rfl λbz A outer s H E Ox hr ts q hG=>?_);have nd:=Fl.nd;refine⟨_,(aw (aI (qau (Pa (aa 0) (aa 1))))),λ_=>?_⟩;obtain⟨x,y,rfl,hx,hy,hd,hq⟩:=hG;exact⟨hd rfl,hq⟩
abbrev Wf:qai:=qaD
theorem Fm:az Wf qaD (ai CN):=L2.gJ
theorem Qw(D:Df K mg "less" CN qaD f fd)(M:Mg w K mg):bU P w K mg base "less" qaD 1 (c8 K 2 SK):=by refine D.g9 (m7 D.F Fm rfl λbz A outer s H E Ox hr ts q hG=>?_);have nd:=Fm.nd;refine⟨_,(aw (aI (qau (jI (pP (aa 0) (aa 1)) af af)))),λ_=>?_⟩;obtain⟨x,y,rfl,hx,hy,_,hq⟩:=hG;have fg:q (.vw (.int (if x<y then 1 else 0))):=hq;refine cX (λh=>?_) (λh=>?_);have h':x<y:=h;rw[if_pos h'] at fg;exact fg;have h':¬ x<y:=h;rw[if_neg h'] at fg;exact fg
abbrev sS:qai:=["one","word","other","left","right"]
theorem pZ:az sS qaE (ai ju):=L2.gJ
theorem AK(D:Df K mg "reckoned" ju qaE f fd)(M:Mg w K mg)(LR:bU P w K mg base "fit" qaB 1 (c8 K 1 Hn))(kJ:bU P w K mg base "number_of" qaC 2 (c8 K 1 gNm))(Wg:bU P w K mg base "plus" qaD 1 (c8 K 2 SH))(Qx:bU P w K mg base "minus" qaD 1 (c8 K 2 LI))(Qy:bU P w K mg base "times" qaD 1 (c8 K 2 LJ))(Wh:bU P w K mg base "over" qaD 1 (c8 K 2 SI))(Wi:bU P w K mg base "rest" qaD 1 (c8 K 2 SJ))(Wj:bU P w K mg base "less" qaD 1 (c8 K 2 SK)):bU P w K mg base "reckoned" qaE 3 (c8 K 3 LK):=by
 obtain⟨ady,Wm,LS,LU,LV,LW⟩:=LR;obtain⟨AL,x8,iE,iF,iG,iH⟩:=kJ;obtain⟨agk,aeW,Wn,Wo,Wq,Wr⟩:=Wg;obtain⟨aeX,adz,Qz,QA,QB,QC⟩:=Qx;obtain⟨aeY,adA,QD,QE,QF,QG⟩:=Qy;obtain⟨agl,aeZ,Ws,Wt,Wu,Wv⟩:=Wh;obtain⟨agm,ae0,Ww,Wx,Wy,Wz⟩:=Wi;obtain⟨agn,ae1,WA,WB,WC,WD⟩:=Wj;refine D.g9 (m7 D.F pZ rfl λbz A outer s H E Ox hr ts q hG=>?_);have nd:=pZ.nd;have hu:=bA.gy hr;have np:∀{i:Nat},bO ⟨H,[],Ox⟩ i:=pS;obtain⟨aD,mD,hD⟩:=M.Hm;obtain⟨aR,fo,AN,Ui,x9⟩:=M.RK;have AO:∀{pos},VP (gK fG P w K mg base sS "reckoned" (ai ju) f bz A outer s H E).qX ⟨H,[],Ox⟩ (.Name "DIVISIONS" pos) (fC (.tup [.str "over",.str "rest"])):=ji (by rfl) mD (v:=.ref aD) rfl λH A=>cA (hD H) (aB.cons dy (aB.cons dy aB.nil));have AQ:∀f' G,(∃o:G0,f'=fo o/\G=Qp o)->PySem.W.keepIn K (.ref f')=true/\∃fd ps,Binds K fd ps []/\bY P w K mg base fG 1 f' fd ps (c8 K 2 G):=by
  rintro f' G ⟨o,rfl,rfl⟩;have h:=Ui o;cases o with
  |plus=>cases Wn.symm.trans h;exact⟨Wo,_,_,Wq,Wr⟩
  |minus=>cases Qz.symm.trans h;exact⟨QA,_,_,QB,QC⟩
  |times=>cases QD.symm.trans h;exact⟨QE,_,_,QF,QG⟩
  |over=>cases Ws.symm.trans h;exact⟨Wt,_,_,Wu,Wv⟩
  |rest=>cases Ww.symm.trans h;exact⟨Wx,_,_,Wy,Wz⟩
  |less=>cases WA.symm.trans h;exact⟨WB,_,_,WC,WD⟩
 refine⟨_,(aj (bt (bK hu (aa 1) (qas aG))
    (aw (aI (qau (jI (bK hu (aa 0) (aa 2)) af af))))
    aV)
   (aj (bq (i:=3) nd rfl (Or.inl rfl) (qau (aQ iH (hr.mono (by decide)) (by rfl) iE iF iG (ae (aq 0) ar))) np)
   (aj (bq (i:=4) nd rfl (Or.inl rfl) (qau (aQ iH (hr.mono (by decide)) (by rfl) iE iF iG (ae (aq 2) ar))) np)
   (aj (bt (VW.vc (fN (vP (aa 1) (qas AO)) (eX (bK hu (aa 4) (qas af)))))
     (aw (aI (qau dA)))
     aV)
   (aw (aI (qau (aQ LW (hr.mono (by decide)) (by rfl) LS LU LV (ae (qat (K8 (K7 (by rfl) AN x9 (aa 1)) AQ (hr.mono (by decide)) (ae (aq 3) (ae (aq 4) ar)))) ar))))))))),λ_=>?_⟩
 obtain⟨a,b,rfl,hq⟩|⟨a,b,o,rfl,ha,hb,hq⟩:=hG
 show Gn (vT a) (vT b) (λr=>match r with
  |.vw (.bl c)=>(if c=true then q (.vw (.int 1)) else q (.vw (.int 0)))
  |_=>False)
 exact LL (Qq hq);refine fR (c:=decide (kj o=("same":Str))) (LM o) ?_;refine⟨rfl,a,rfl,rfl,b,rfl,rfl,rfl,?_⟩;have fg:q (.vw (if Cu o=true/\nm b=0 then .aP else .int (eF (PQ o (nm a) (nm b))))):=hq;have go:(Cu o=true->nm b≠0)->q (.vw (.int (eF (PQ o (nm a) (nm b)))))->∃t,Cj [("plus",.ob (fo .plus)),("minus",.ob (fo .minus)),("times",.ob (fo .times)),("over",.ob (fo .over)),("rest",.ob (fo .rest)),("less",.ob (fo .less))] (kj o)=some t/\(match Rt.vw t with
  |.vw (.ob f)=>∃G,(∃o:G0,f=fo o/\G=Qp o)/\([T.int (nm a),T.int (nm b)].length=2/\G [T.int (nm a),T.int (nm b)] λr=>([r.t].length=1/\Hn [r.t] q))
  |_=>False):=λhd Yn=>by
  refine⟨.ob (fo o),by cases o<;>rfl,Qp o,⟨o,rfl,rfl⟩,rfl,nm a,nm b,rfl,ha.big,hb.big,hd,rfl,_,rfl,Yn⟩
 refine zl (λh=>?_) (λh=>?_);have h':Cu o=true:=by rw[<- LN];exact h
 refine cX (λh2=>?_) (λh2=>?_);have h3:nm b=0:=h2;rw[if_pos ⟨h',h3⟩] at fg;exact fg;have h3:¬ nm b=0:=h2;rw[if_neg (λz=>h3 z.2)] at fg;exact go (λ_=>h3) fg;have h':¬ Cu o=true:=λz=>h (by rw[<- LN] at z;exact z);rw[if_neg (λz=>h' z.1)] at fg;exact go (λz=>(h' z).elim) fg
end
end ki
namespace Rg
open PySem L2 VT Gen K5 Lay
open pN (d_)
open Nx (Hj)
open Nm (lC Fb)
open Yl (Fe Fd ku)
open ki (Vl vT nm G0 kj rkT z_ LK Hn eF RI)
def top(i:Nat):Stmt:=PySem.Challenge.pw_slicewise_k16_cut_anywhere.main.body.getD i (.Pass ⟨0,0,0,0⟩)
abbrev nU:Stmt:=inClass (top 34) 0
abbrev i8:Stmt:=inClass (top 35) 0
abbrev x_:Stmt:=top 36
abbrev mR:Stmt:=top 37
abbrev o5:Stmt:=top 38
abbrev hW:Stmt:=top 39
abbrev iQ:Stmt:=top 40
abbrev kK:Stmt:=top 41
abbrev iR:Stmt:=top 45
abbrev jv:Stmt:=top 42
abbrev jw:Stmt:=top 43
abbrev o6:Stmt:=top 32
abbrev iS:Stmt:=top 44
abbrev iT:Stmt:=top 46
abbrev gB:Stmt:=top 47
abbrev mT:Stmt:=top 49
abbrev ya:Stmt:=top 50
abbrev iI:Stmt:=top 52
abbrev hX:Stmt:=top 51
structure MgR(mg:qae):Prop where
 len:mg "len"=none
 enumerate:mg "enumerate"=none
 tuple:mg "tuple"=none
structure Yo(K:qaf)(C:Addr):Prop where
 cl:BR K C
 LX:bp K C "call"
 nV:bp K C "names"
structure AR(K:qaf)(C:Addr):Prop where
 cl:BR K C
 fD:bp K C "layout"
 LY:bp K C "most"
 yb:bp K C "poke"
 kM:bp K C "frames"
 yc:bp K C "cells"
 nW:bp K C "counts"
 kN:bp K C "doings"
 cK:bp K C "place"
 iJ:bp K C "ended"
def LZ(C:Addr)(ts:qaj)(q:T->Prop):Prop:=∃t1 t2,ts=[t1,t2]/\q (.ins C qaw [t1,t2])
def adB(cM cF:Addr)(ts:qaj)(q:qam):Prop:=∃a L most pk fs f ce ct dn pl en o n,ts=[.pin a (Yk cM cF L most pk (fs++[f]) ce ct dn pl en),gF o]/\sG o/\hJ f.ev n/\n<=1000000/\q (.vw (vT (look f.ev o)))
def RdR:Rw->Prop
 |.mq=>False
 |.fin=>False
 |.skip=>False
 |.m8 _ _ op _=>op∈reckon
 |.get _ _ k=>NT k
 |.set _ k _=>NT k
 |_=>True
def ckO:Option (List Key×Key)->T
 |none=>.aP
 |some c=>IL c
def yd(ts:qaj)(q:qam):Prop:=∃(e:Ev)(r:Str)(k:Ky)(l:List jK),ts=[vY k,.tup ((jK.nm r::(P_ k++l)).map λo=>vT (look e o))]/\NT k/\q (.vw (ckO (cellK e r k)))
def Fp(cM cF:Addr)(nh:List Key×Key->Int)(ts:qaj)(q:qam):Prop:=∃a L most pk fr ce ct dn p en e r n,ts=[.pin a (Yk cM cF L most pk fr (Ce.s nh ce) ct dn (.int ((p:Nat):Int)) en),aW r,.tup ((gq r).map λo=>vT (look e o))]/\RdR r/\(∀o∈gq r,sG o)/\hJ e n/\q (.vw (oV (we e ce ct p r)))
structure QH(rs:qal)(j:Nat)(r:Rw):Prop where
 B:Bl rs
 at':rs[j]?=some r
 o:Qo r=true
def o7(cM cF cL:Addr)(us:qaj)(s:S)(q:S->T->Prop):Prop:=∃rs r j most pk fr ce ct dn u1 u2 u3,us=[u1,u2,u3]/\s=du cM cF (cb cL rs) most pk fr ce ct dn (.int ((j:Nat):Int)) .aP/\QH rs j r/\q (du cM cF (cb cL rs) most pk fr ce ct dn (.int ((j+1:Nat):Int)) .aP) .aP
def mkN:Rw->Str->Prop
 |.put y _,x=>y=x
 |.get y _ _,x=>y=x
 |.m8 y _ _ _,x=>y=x
 |.new y,x=>y=x
 |.call y _ _,x=>y=x
 |_,_=>False
def mU(cM cF cL:Addr)(us:qaj)(s:S)(q:S->T->Prop):Prop:=∃rs r j most pk fs f ce ct dn u2 x v,us=[aW r,u2,vT v]/\bP u2=true/\s=du cM cF (cb cL rs) most pk (fs++[f]) ce ct dn (.int ((j:Nat):Int)) .aP/\QH rs j r/\mkN r x/\f.ev.is.length<=1000000/\q (du cM cF (cb cL rs) most pk (fs++[{f with ev:=f.ev.put x v}]) ce ct dn (.int ((j+1:Nat):Int)) .aP) .aP
theorem sT{o:jK}(h:sG o):Nm.mF (gF o)=false:=by
 cases o with
 |nm x=>have:=pN.uj (pN.wX h.1);show (Txt.startswith x "." && _)=false;rw[this];rfl
 |nu i=>rfl
theorem ye{o:jK}(h:sG o):Nm.Az (gF o):=by
 cases o with
 |nm x=>exact .inl ⟨x,rfl,h.2⟩
 |nu i=>exact .inr ⟨i,rfl⟩
theorem Fq(x:Str):(((".":String):Str)++x).length=x.length+1:=by show (((".":String):Str).cps++x.cps).size=_;rw[Array.size_append,show (((".":String):Str).cps).size=1 by decide +kernel,Nat.add_comm];rfl
theorem QI(o:G0)(a b:Vl):rkT o (nm a) (nm b)=oV ((CC (kj o) a b).map .num):=by
 have e:CC (kj o) a b=rkI (kj o) (nm a) (nm b):=by unfold CC;rw[if_neg (by cases o<;>decide +kernel)]
 rw[e];generalize nm a=x;generalize nm b=y;unfold rkT rkI;cases o with
 |less=>show T.int (eF (if x<y then 1 else 0))=T.int (if x<y then 1 else 0);split<;>rfl
 |over=>show (if true=true/\y=0 then T.aP else _)=oV ((if y=0 then none else some (eF (x.fdiv y))).map .num);by_cases h:y=0;rw[if_pos ⟨rfl,h⟩,if_pos h];rfl;rw[if_neg (λz=>h z.2),if_neg h];rfl
 |rest=>show (if true=true/\y=0 then T.aP else _)=oV ((if y=0 then none else some (eF (x.fmod y))).map .num);by_cases h:y=0;rw[if_pos ⟨rfl,h⟩,if_pos h];rfl;rw[if_neg (λz=>h z.2),if_neg h];rfl
 |_=>rfl
theorem QJ(a b:Vl):z_ a b=oV ((CC "same" a b).map .num):=rfl
theorem adC{op:Str}(h:op∈reckon):op="same"\/∃o:G0,op=kj o:=by
 unfold reckon at h;simp only[c4,gD,or_false] at h;obtain rfl|rfl|rfl|rfl|rfl|rfl|rfl:=h
 exact .inr ⟨.plus,rfl⟩;exact .inr ⟨.minus,rfl⟩;exact .inr ⟨.times,rfl⟩;exact .inr ⟨.over,rfl⟩;exact .inr ⟨.rest,rfl⟩;exact .inr ⟨.less,rfl⟩;exact .inl rfl
theorem QH.bh(h:QH rs j r):Cz rs j=((j+1:Nat):Int):=by rw[LG h.at' h.o];push_cast;rfl
section
variable{cLayout cFrame ak:Addr}
abbrev QK:qai:=qaF
theorem AS:az QK qaF (ai nU):=L2.gJ
theorem L0(D:Dc K mg "Frame" "Frame.__init__" nU qaF cFrame f fd)(M:Yo K cFrame):Kr P w K mg base "Frame" cFrame qaF 1 2 (LZ cFrame):=by
 refine D.g9 (fnI D.F AS rfl λbz A outer s H E as Ox hr us q hl hG=>?_);have nd:=AS.nd;have bV:=M;refine⟨_,(aj (jn 0 bV.cl bV.LX (aq 1))
  (aw (jn 0 bV.cl bV.nV (aq 2)))),?_⟩
 obtain⟨t1,t2,rfl,hq⟩:=hG;exact⟨rfl,by show 0<1000;decide,rfl,by show 1<1000;decide,hq⟩
abbrev CO:qai:=qaG
theorem p_:az CO qaG (ai mR):=L2.gJ
theorem AU(D:Df K mg "value_of" mR qaG f fd)(M:AR K ak)(M1:Yo K cFrame)(oS:bU P w K mg base "is_name" qax 1 (c8 K 1 lC)):bU P w K mg base "value_of" qaG 2 (c8 K 2 (adB ak cFrame)):=by
 obtain⟨He,CF,oU,oW,oX,oY⟩:=oS;refine D.g9 (m7 D.F p_ rfl λbz A outer s H E Ox hr ts q hG=>?_);have nd:=p_.nd;have hu:=bA.gy hr;have ag:=M;have bV:=M1;have ua:=so hu;refine⟨_,(aw (aI (qau (jI (gv (aQ oY (hr.mono (by decide)) (by rfl) oU oW oX (ae (aq 1) ar))) (Cg ua (qas (aZ bV.cl bV.nV (qas (aC (qas (aZ ag.cl ag.kM (bJ (aa 0)))) (qas (lY (qas af))))))) (aa 1) (qat af) ⟨rfl,rfl,rfl,rfl⟩) (VE.vp (aq 1)))))),λ_=>?_⟩;obtain⟨a,L,most,pk,fs,f0,ce,ct,dn,pl,en,o,n,rfl,ho,he,hn,hq⟩:=hG;cases o with
 |nm x=>
  refine⟨rfl,.str x,rfl,rfl,(λy z=>by cases z;have:=ho.2;omega),?_⟩;refine JZ (c:=Fb (.str x)) ho.1 ?_;have el:jQ ((fs++[f0]).map (frT cFrame)) (-1)=some (frT cFrame f0):=by rw[t_];exact L2.jX _ _
  refine⟨rfl,_,rfl,_,el,rfl,_,rfl,?_⟩;show q (.vw ((dj f0.ev.ks f0.ev.ts (.inr x)).getD (.int 0)));rw[VN];exact hq
 |nu i=>refine⟨rfl,.int i,rfl,rfl,(λy z=>by cases z),?_⟩;exact hq
abbrev Ho:qai:=qaH
theorem sU:az Ho qaH (ai o6):=L2.gJ
theorem CP(D:Df K mg "cell_of" o6 qaH f fd)(M:MgR mg)(kD:bU P w K mg base "is_record" qaC 1 (c8 K 1 ki.Wa))(mK:bU P w K mg base "is_field" qax 2 (c8 K 1 Nm.Ck))(kJ:bU P w K mg base "number_of" qaC 2 (c8 K 1 ki.gNm)):bU P w K mg base "cell_of" qaH 3 (c8 K 2 yd):=by
 obtain⟨AH,x6,kE,kF,kG,kH⟩:=kD;obtain⟨CG,AD,mM,mO,mP,mQ⟩:=mK;obtain⟨AL,x8,iE,iF,iG,iH⟩:=kJ;refine D.g9 (m7 D.F sU rfl λbz A outer s H E Ox hr ts q hG=>?_);have nd:=sU.nd;refine⟨_,(aj (bt (iM (gv (aQ kH (hr.mono (by decide)) (by rfl) kE kF kG (ae (qat (aC (aa 1) (qas af))) ar))))
    (aw (aI (qau dA)))
    aV)
   (aw (aI (qau (br (ae (qat (aC (aa 1) (qas af))) (ae (qat (jI (gv (aQ mQ (hr.mono (by decide)) (by rfl) mM mO mP (ae (aq 0) ar))) (VE.vp (aq 0)) (aQ iH (hr.mono (by decide)) (by rfl) iE iF iG (ae (qat (aC (aa 1) (qas af))) ar)))) ar))))))),λ_=>?_⟩
 obtain⟨e,r,k,l,rfl,hk,hq⟩:=hG;unfold cellK at hq;refine⟨_,ah (j:=0) rfl,rfl,e.get r,rfl,?_⟩;cases hv:e.get r with
 |num i=>rw[hv] at hq;exact hq
 |GZ p n=>
   rw[hv] at hq;have hvT:vT (look e (.nm r))=.tup [.int p,.int n]:=by show vT (e.get r)=_;rw[hv];rfl
   cases k with
   |fld x=>
     have hf:Nm.mF (vY (.fld x))=true:=by show pN.rB (((".":String):Str)++x)=true;unfold pN.rB;rw[pN.vL,hk.1,Bool.and_true];exact pN.rC x
     refine fR (c:=false) rfl ?_;refine⟨_,ah (j:=0) rfl,rfl,_,rfl,.inl ⟨_,rfl,by rw[Fq];have:=hk.2;omega⟩,?_⟩;refine JZ hf ?_;have fg:q (.vw (.tup [vT (look e (.nm r)),vY (.fld x)])):=by rw[hvT];exact hq
     exact⟨cf (by simp),fg⟩
   |op o=>
     have hf:Nm.mF (vY (.op o))=false:=sT hk;refine fR (c:=false) rfl ?_;refine⟨_,ah (j:=0) rfl,rfl,_,rfl,ye hk,?_⟩;refine fR hf ?_;have fg:q (.vw (.tup [vT (look e (.nm r)),.int (nm (look e o))])):=by rw[hvT];exact hq
     exact⟨_,ah (j:=1) rfl,rfl,look e o,rfl,cf (by simp),fg⟩
abbrev Hq:qai:=["machine","row","used","word"]
theorem sV:az Hq qaI (ai o5):=L2.gJ
theorem CQ(D:Df K mg "made_by" o5 qaI f fd)(M:AR K ak)(CS:bU P w K mg base "reckoned" qaE 3 (c8 K 3 LK))(o8:bU P w K mg base "cell_of" qaH 3 (c8 K 2 yd)):bU P w K mg base "made_by" qaI 4 (c8 K 3 (Fp ak cFrame (NK.bu P w))):=by
 obtain⟨WE,SN,CT,CU,CV,CW⟩:=CS;obtain⟨Hr,CY,o9,o_,pb,pd⟩:=o8;refine D.g9 (m7 D.F sV rfl λbz A outer s H E Ox hr ts q hG=>?_);have nd:=sV.nd;have hu:=bA.gy hr;have np:∀{i:Nat},bO ⟨H,[],Ox⟩ i:=pS;have ag:=M;have ua:=so hu;have hu3:=SA hu;refine⟨_,(aj (bq (i:=3) nd rfl (Or.inl rfl) (qau (aC (aa 1) (qas af))) np)
  (aj (bt (bK hu (aa 3) (qas aG))
   (aw (aI (qau (aQ CW (hr.mono (by decide)) (by rfl) CT CU CV (ae (qat (aC (aa 2) (qas af))) (ae (qat (aC (aa 1) (qas af))) (ae (qat (aC (aa 2) (qas af))) ar)))))))
   aV)
  (aj (bt (bK hu (aa 3) (qas aG))
   (aw (aI (qau (br (ae (qat (aZ ag.cl ag.cK (bJ (aa 0)))) (ae (qat (Cg ua (qas (aZ ag.cl ag.nW (bJ (aa 0)))) (qas (aZ ag.cl ag.cK (bJ (aa 0)))) (qat af) ⟨rfl,rfl,rfl,rfl⟩)) ar))))))
   aV)
  (aj (bt (bK hu (aa 3) (qas aG))
   (aw (aI (qau (Vp hu3 (qas (aZ ag.cl ag.yc (bJ (aa 0)))) (qas (aQ pd (hr.mono (by decide)) (by rfl) o9 o_ pb (ae (qat (aC (aa 1) (qas af))) (ae (aq 2) ar)))) (qat af) ⟨rfl,rfl,rfl,rfl⟩))))
   aV)
  (aj (bt (vP (aa 3) (qas (br (ae (qat aG) (ae (qat aG) ar)))))
   (aw (aI (qau (jI (bK hu (qas (aC (aa 2) (qas af))) (qas af)) af af))))
   aV)
  (aw (aI (qau (jI (vP (aa 3) (qas (br (ae (qat aG) (ae (qat aG) (ae (qat aG) ar)))))) (aC (aa 2) (qas (lY (qas af)))) dA))))))))),λ_=>?_⟩
 obtain⟨a,L,most,pk,fr,ce,ct,dn,p,en,e,r,n,rfl,hk,oO,he,hq⟩:=hG;have ch:∀v:Vl,q (.vw (.int (if v=.num 0 then 0 else 1)))->(if decide (v=.num 0)=true then q (.vw (.int 0)) else q (.vw (.int 1))):=λv h=>by by_cases e:v=.num 0;rw[if_pos (decide_eq_true e)];rw[if_pos e] at h;exact h;rw[if_neg (by rw[decide_eq_false e];exact jb)];rw[if_neg e] at h;exact h
 cases r with
 |df f' ps=>exact⟨_,ah (j:=0) rfl,cf (by simp),rfl,rfl,cf (by simp),rfl,rfl,hq⟩
 |put x a=>exact⟨_,ah (j:=0) rfl,cf (by simp),rfl,rfl,cf (by simp),rfl,rfl,_,rfl,hq⟩
 |give a=>exact⟨_,ah (j:=0) rfl,cf (by simp),rfl,rfl,cf (by simp),rfl,rfl,_,rfl,hq⟩
 |call x g as=>exact⟨_,ah (j:=0) rfl,cf (by simp),rfl,rfl,cf (by simp),rfl,rfl,hq⟩
 |fail w=>exact⟨_,ah (j:=0) rfl,cf (by simp),rfl,rfl,cf (by simp),rfl,rfl,hq⟩
 |set y k b=>refine⟨_,ah (j:=0) rfl,cf (by simp),rfl,rfl,cf (by simp),rfl,rfl,_,?_,hq⟩;show jQ ((jK.nm y::(P_ k++[b])).map λo=>vT (look e o)) (-1)=some (vT (look e b));rw[<- RF,t_];exact L2.jX _ _
 |get x y k=>
  refine⟨_,ah (j:=0) rfl,rfl,_,rfl,rfl,_,ah (j:=3) rfl,rfl,e,y,k,[],by rw[FD];rfl,hk,?_⟩;have fg:q (.vw (vT (ce.at' (cellK e y k)))):=hq;cases hc:cellK e y k with
  |none=>rw[hc] at fg;exact .inl ⟨rfl,fg⟩
  |some c=>rw[hc] at fg;refine .inr ⟨c,rfl,?_⟩;show q (.vw ((kf ce.ks ce.ts c).getD (.int 0)));rw[VZ];exact fg
 |m8 x a op b=>
  have h1:=he.look (oO a (by simp[gq]));have h2:=he.look (oO b (by simp[gq]));refine⟨_,ah (j:=0) rfl,_,ah (j:=0) rfl,_,ah (j:=3) rfl,_,ah (j:=1) rfl,rfl,?_⟩;rcases adC hk with rfl|⟨o,rfl⟩
  exact .inl ⟨_,_,rfl,by rw[QJ];exact hq⟩;exact .inr ⟨_,_,o,rfl,h1,h2,by rw[QI];exact hq⟩
 |new x=>refine⟨_,ah (j:=0) rfl,rfl,_,rfl,rfl,_,rfl,rfl,_,rfl,?_⟩;show [T.int (p:Int),(dj ct.ks ct.ts (.inl (p:Int))).getD (.int 0)].length<=sizeLine/\q (.vw (.tup [T.int (p:Int),(dj ct.ks ct.ts (.inl (p:Int))).getD (.int 0)]));rw[Lp];exact⟨cf (by simp),hq⟩
 |mn a=>
  refine⟨_,ah (j:=0) rfl,cf (by simp),rfl,rfl,_,ah (j:=0) rfl,?_⟩;show Gn (vT (look e a)) (vT (.num 0)) (λr=>match r with
   |.vw (.bl c)=>(if c=true then q (.vw (.int 0)) else q (.vw (.int 1)))
   |_=>False)
  exact ki.LL (ch _ hq)
 |gS a=>
  refine⟨_,ah (j:=0) rfl,cf (by simp),rfl,rfl,_,ah (j:=0) rfl,?_⟩;show Gn (vT (look e a)) (vT (.num 0)) (λr=>match r with
   |.vw (.bl c)=>(if c=true then q (.vw (.int 0)) else q (.vw (.int 1)))
   |_=>False)
  exact ki.LL (ch _ hq)
 |_=>exact hk.elim
end
end Rg
namespace Rg
open PySem L2 VT Gen K5 Lay
open Nx (Hj V' gNo)
open ki (Vl vT nm eF RI)
theorem qq:∀{ρ:En},(ρ.all λe=>match e with|some (_,true)=>false|_=>true)=true->∀e∈ρ,gp e:=λ{ρ} h e he=>by
 have:=Tn.mp h e he
 match e,this with
 |none,_=>trivial
 |some (t,false),_=>cases t<;>trivial
theorem eC{t:T}(h:bP t=true):jo (some (t,false))=some (t,false):=by show (if bP t=true then some (t,false) else none)=_;rw[if_pos h]
theorem WG(b:Option T):gp (vwO b):=by
 cases b with
 |none=>trivial
 |some t=>cases t<;>trivial
theorem adD{s:S}(h:∀e∈ρ,gp e):∀e∈mi M ρ s,gp e:=λe he=>by
 unfold mi at he;rcases XT he with z|z
 obtain⟨e0,h0,rfl⟩:=vz.mp z;have:=h e0 h0
 match e0,this with
 |none,_=>trivial
 |some (t,true),q=>exact q
 |some (t,false),_=>show gp (if bP t=true then some (t,false) else none);by_cases hi:bP t=true;rw[if_pos hi];cases t<;>trivial;rw[if_neg hi];trivial
 rw[z];trivial
theorem yf{d:Sn}{ρ':En}{s s':S}(e:s=s')(hρ:mi M ρ s'=ρ')(h:d.nx ρ' s'):d.nx (mi M ρ s) s:=by rw[e,hρ];exact h
theorem SO{F:En->S->Prop}{ρ':En}{s s':S}(e:s=s')(hρ:mi M ρ s'=ρ')(h:F ρ' s'):F (mi M ρ s) s:=by rw[e,hρ];exact h
theorem QL{d:Sn}{ρ':En}{s s':S}{t:T}(e:s=s')(hρ:mi M ρ s'=ρ')(h:d.nx (ρ'.set j (some (t,false))) s'):d.nx ((mi M ρ s).set j (some (t,false))) s:=by rw[e,hρ];exact h
theorem adE{d:Sn}{s s':S}(e:s=s')(h:d.nx (mi M ρ s') s'):d.nx (mi M ρ s) s:=by rw[e];exact h
def WH(cM cF cL:Addr)(us:qaj)(s:S)(q:S->T->Prop):Prop:=∃rs r j most pk fs f ce ct dn u2 x o,us=[aW r,u2,oV o]/\bP u2=true/\s=du cM cF (cb cL rs) most pk (fs++[f]) ce ct dn (.int ((j:Nat):Int)) .aP/\QH rs j r/\mkN r x/\f.ev.is.length<=1000000 /\
 match o with
 |none=>q (du cM cF (cb cL rs) most pk (fs++[f]) ce ct dn (.int ((j:Nat):Int)) sH) .aP
 |some v=>q (du cM cF (cb cL rs) most pk (fs++[{f with ev:=f.ev.put x v}]) ce ct dn (.int ((j+1:Nat):Int)) .aP) .aP
def L4(cM cF cL:Addr)(us:qaj)(s:S)(q:S->T->Prop):Prop:=∃rs r j most pk fs f ce ct dn u2 x v,us=[aW r,u2,vT v]/\bP u2=true/\s=du cM cF (cb cL rs) most pk (fs++[f]) ce ct dn (.int ((j:Nat):Int)) .aP/\QH rs j r/\mkN r x/\f.ev.is.length<=1000000/\ct.is.length<=1000000/\q (du cM cF (cb cL rs) most pk (fs++[{f with ev:=f.ev.put x v}]) ce (ct.up j) dn (.int ((j+1:Nat):Int)) .aP) .aP
def CZ(cM cF cL:Addr)(us:qaj)(s:S)(q:S->T->Prop):Prop:=∃L most pk fr ce ct dn pl w u2 u3,us=[aW (.fail w),u2,u3]/\s=du cM cF L most pk fr ce ct dn pl .aP/\q (du cM cF L most pk fr ce ct dn pl (wc w)) .aP
def yg(cM cF cL:Addr)(us:qaj)(s:S)(q:S->T->Prop):Prop:=∃rs r j most pk fr ce ct dn u1 u2 c,us=[u1,u2,.int c]/\s=du cM cF (cb cL rs) most pk fr ce ct dn (.int ((j:Nat):Int)) .aP/\Bl rs/\rs[j]?=some r/\Ln r=true/\q (du cM cF (cb cL rs) most pk fr ce ct dn (.int (if c=1 then (j:Int)+1 else P9 rs j)) .aP) .aP
def C0(cM cF cL:Addr)(us:qaj)(s:S)(q:S->T->Prop):Prop:=∃rs j f ps gs most pk fr ce ct dn p0 c g,us=[.int ((j:Nat):Int),oT c,g]/\(g=.lst (gs.map vT)\/g=.tup (gs.map vT))/\s=du cM cF (cb cL rs) most pk fr ce ct dn p0 .aP/\rs[j]?=some (.df f ps)/\ps.length<=100/\fr.length<=1000000 /\
 q (du cM cF (cb cL rs) most pk (fr++[⟨c,cy ps gs ps.length⟩]) ce ct dn (.int ((j:Nat):Int)) .aP) .aP
def C1(cM cF cL:Addr)(us:qaj)(s:S)(q:S->T->Prop):Prop:=∃rs j p x g as f ps gs most pk fr ce ct dn u3,us=[aW (.call x g as),.tup (gs.map vT),u3]/\s=du cM cF (cb cL rs) most pk fr ce ct dn (.int ((j:Nat):Int)) .aP/\yW (bc rs rs.length) g=some p/\rs[p]?=some (.df f ps)/\ps.length<=100/\fr.length<=1000000 /\
 q (du cM cF (cb cL rs) most pk (fr++[⟨some j,cy ps gs ps.length⟩]) ce ct dn (.int ((p:Nat):Int)) .aP) .aP
def C2(cM cF cL:Addr)(us:qaj)(s:S)(q:S->T->Prop):Prop:=∃rs most pk fs f ce ct dn pl u1 u2 v,us=[u1,u2,vT v]/\bP u2=true/\s=du cM cF (cb cL rs) most pk (fs++[f]) ce ct dn pl .aP /\
 ((f.call=none/\q (du cM cF (cb cL rs) most pk fs ce ct dn pl (jL v)) .aP)\/∃c gs g r x,f.call=some c/\fs=gs++[g]/\QH rs c r/\mkN r x/\g.ev.is.length<=1000000/\q (du cM cF (cb cL rs) most pk (gs++[{g with ev:=g.ev.put x v}]) ce ct dn (.int ((c+1:Nat):Int)) .aP) .aP)
def L5(cM cF cL:Addr)(nh:List Key×Key->Int)(us:qaj)(s:S)(q:S->T->Prop):Prop:=∃rs x k a j most pk fr ce ct dn e v,us=[aW (.set x k a),.tup ((gq (.set x k a)).map λo=>vT (look e o)),vT v]/\NT k/\s=du cM cF (cb cL rs) most pk fr (Ce.s nh ce) ct dn (.int ((j:Nat):Int)) .aP/\QH rs j (.set x k a)/\ce.is.length<=1000000 /\
 q (du cM cF (cb cL rs) most pk fr (Ce.s nh (ce.VY v (cellK e x k))) ct dn (.int ((j+1:Nat):Int)) .aP) .aP
theorem Fs(k:Key):bP (U' k)=true:=by cases k<;>rfl
theorem QM(c:List Key×Key):bP (IL c)=true:=by unfold IL;simp only[bP,eD,Fs,Bool.and_true];exact fA (f:=U') Fs c.1
theorem L6(c:Option Nat):bP (oT c)=true:=by cases c<;>rfl
theorem kn(h:rs[j]?=some r):jQ (rs.map aW) (j:Int)=some (aW r):=ah (by rw[ie,h];rfl)
theorem AV(ps:qai)(gs:List Vl):∀k,(cy ps gs k).is.length<=k
 |0=>c_ _
 |k+1=>by have ih:=AV ps gs k;unfold cy;split;have:=oQ (cy ps gs k).ks (cy ps gs k).is (.inr ‹Str›) (gs.getD k (.num 0));exact mX this (by omega);omega
section
variable{cLayout cFrame ak:Addr}
abbrev sW:qai:=qaJ
theorem jM:az sW qaJ (ai hW):=L2.gJ
theorem qr(D:Df K mg "follow_plain" hW qaJ f fd)(M:AR K ak)(jx:bU P w K mg base "row_behind" qaA 1 (c8 K 2 (Hj cLayout))):bU P w K mg base "follow_plain" qaJ 2 (jS K 3 (o7 ak cFrame cLayout)):=by obtain⟨yh,uC,jy,jz,jA,jB⟩:=jx;refine D.g9 (IQ D.F jM rfl (by decide) λbz A outer s H E M0 oH hr us s0 q hG hl=>?_);obtain⟨AW,kO,yZ,a0,sX⟩:=M0;have m6:sX=0:=oH;subst m6;have nd:=jM.nd;have ag:=M;refine⟨_,(bN (iP ag.cl ag.cK (λ_=>(qat (aQ jB (hr.mono (by decide)) (by rfl) jy jz jA (ae (qat (aZ ag.cl ag.fD (bJ (aa 0)))) (ae (qat (aZ ag.cl ag.cK (bJ (aa 0)))) ar))))) rfl)),?_⟩;obtain⟨rs,r,j,most,pk,fr,ce,ct,dn,u1,u2,u3,rfl,rfl,h,hq⟩:=hG;rw[hU];refine⟨rfl,_,rfl,rfl,_,rfl,rfl,rs,j,r,rfl,h.B,h.at',rfl,qq rfl,_,_,7,_,rfl,(by show 9<1000;decide),rfl,rfl,?_⟩;rw[h.bh];exact hq
abbrev uD:qai:=qaJ
theorem kP:az uD qaJ (ai iQ):=L2.gJ
theorem sY(D:Df K mg "follow_name" iQ qaJ f fd)(M:AR K ak)(M1:Yo K cFrame)(dH:bU P w K mg base "follow_plain" qaJ 2 (jS K 3 (o7 ak cFrame cLayout))):bU P w K mg base "follow_name" qaJ 3 (jS K 3 (mU ak cFrame cLayout)):=by
 obtain⟨cZ,jN,dI,dJ,dM,dN⟩:=dH;refine D.g9 (IQ D.F kP rfl (by decide) λbz A outer s H E M0 oH hr us s0 q hG hl=>?_);obtain⟨AW,kO,yZ,a0,sX⟩:=M0;have m6:sX=0:=oH;subst m6;have nd:=kP.nd;have hu:=bA.gy hr;have ua:=so hu;have ag:=M;have bV:=M1;refine⟨_,(cv (EZ ua (kc bV.cl bV.nV (Pu (kc ag.cl ag.kM (mj)) acT)) (λ_=>(qas (aC (aa 1) (qas af)))) (λ_=>(aq 3)))
  (bN (gN dN (hr.mono (by decide)) (by rfl) dI dJ dM (λ_=>(ae (aq 1) (ae (aq 2) (ae (aq 3) ar)))) rfl))),?_⟩
 obtain⟨rs,r,j,most,pk,fs,f0,ce,ct,dn,u2,x,v,rfl,i2,rfl,h,hx,hn,hq⟩:=hG;have hi:=kh r;obtain⟨y,l,er⟩:∃y l,aW r=.tup (.str y::.str x::l):=by cases r<;>first|exact hx.elim|(cases hx;exact⟨_,_,rfl⟩)
 rw[hU,er];rw[er] at hi;refine⟨⟨_,Lx⟩,_,ah (j:=1) rfl,e_ v,qq rfl,_,_,Lx,(by show (f0.ev.ts).length<_;unfold Ev.ts;rw[c3];omega),?_⟩;refine yf (ρ':=[some (.pin a0 (du ak cFrame (cb cLayout rs) most pk (fs++[{f0 with ev:=f0.ev.put x v}]) ce ct dn (.int (j:Int)) .aP).t,false),some (.tup (.str y::.str x::l),false),some (u2,false),some (vT v,false)]) (V4 (x:=x) (v:=v)) ?_ ?_;show [_,jo (some (.tup (.str y::.str x::l),false)),jo (some (u2,false)),jo (some (vT v,false))]=_;rw[eC hi,eC i2,eC (e_ v)];exact⟨qq rfl,rfl,rs,r,j,most,pk,_,ce,ct,dn,_,_,_,rfl,rfl,h,hq⟩
abbrev AX:qai:=qaJ
theorem nX:az AX qaJ (ai kK):=L2.gJ
theorem yi(D:Df K mg "follow_do" kK qaJ f fd)(M:AR K ak)(cN:bU P w K mg base "follow_name" qaJ 3 (jS K 3 (mU ak cFrame cLayout))):bU P w K mg base "follow_do" qaJ 4 (jS K 3 (WH ak cFrame cLayout)):=by
 obtain⟨cn,hY,cO,cP,cQ,cR⟩:=cN;refine D.g9 (IQ D.F nX rfl (by decide) λbz A outer s H E M0 oH hr us s0 q hG hl=>?_);obtain⟨AW,kO,yZ,a0,sX⟩:=M0;have m6:sX=0:=oH;subst m6;have nd:=nX.nd;have ag:=M;refine⟨_,(bN (vU (λ_=>(zE (aa 3) (qas dA)))
  (bN (iP ag.cl ag.iJ (λ_=>(qat (br (ae (qat aG) (ae (qat aG) ar))))) rfl))
  (bN (gN cR (hr.mono (by decide)) (by rfl) cO cP cQ (λ_=>(ae (aq 1) (ae (aq 2) (ae (aq 3) ar)))) rfl)))),?_⟩
 obtain⟨rs,r,j,most,pk,fs,f0,ce,ct,dn,u2,x,o,rfl,i2,rfl,h,hx,hn,hq⟩:=hG;cases o with
 |none=>refine⟨cf (by simp),rfl,qq rfl,_,_,8,_,rfl,(by show 9<1000;decide),rfl,rfl,?_⟩;exact hq
 |some v=>
  have hv:r0 (vT v)=false:=by cases v<;>rfl
  refine fR (c:=r0 (vT v)) hv ?_;exact⟨qq rfl,rfl,rs,r,j,most,pk,fs,f0,ce,ct,dn,u2,x,v,rfl,i2,rfl,h,hx,hn,hq⟩
abbrev yj:qai:=qaJ
theorem lN:az yj qaJ (ai jv):=L2.gJ
theorem uE(D:Df K mg "follow_new" jv qaJ f fd)(M:AR K ak)(cN:bU P w K mg base "follow_name" qaJ 3 (jS K 3 (mU ak cFrame cLayout))):bU P w K mg base "follow_new" qaJ 4 (jS K 3 (L4 ak cFrame cLayout)):=by
 obtain⟨cn,hY,cO,cP,cQ,cR⟩:=cN;refine D.g9 (IQ D.F lN rfl (by decide) λbz A outer s H E M0 oH hr us s0 q hG hl=>?_);obtain⟨AW,kO,yZ,a0,sX⟩:=M0;have m6:sX=0:=oH;subst m6;have nd:=lN.nd;have hu:=bA.gy hr;have ua:=so hu;have ag:=M;refine⟨_,(cv (EZ ua (kc ag.cl ag.nW (mj)) (λ_=>(qas (aZ ag.cl ag.cK (bJ (aa 0))))) (λ_=>(qat (bZ (qas (Cg ua (qas (aZ ag.cl ag.nW (bJ (aa 0)))) (qas (aZ ag.cl ag.cK (bJ (aa 0)))) (qat af) ⟨rfl,rfl,rfl,rfl⟩)) (qas af)))))
  (bN (gN cR (hr.mono (by decide)) (by rfl) cO cP cQ (λ_=>(ae (aq 1) (ae (aq 2) (ae (aq 3) ar)))) rfl))),?_⟩
 obtain⟨rs,r,j,most,pk,fs,f0,ce,ct,dn,u2,x,v,rfl,i2,rfl,h,hx,hn,hc,hq⟩:=hG;rw[hU];refine⟨rfl,_,rfl,rfl,_,rfl,?_⟩;dsimp only[zM,fT,fC,Rt.t];rw[Lp];refine⟨⟨_,Lu⟩,rfl,_,rfl,rfl,qq rfl,_,_,Lu,(by show ct.ts.length<_;unfold Ct.ts;rw[c3];omega),?_⟩;refine SO (F:=KJ ⟨AW,kO,yZ,a0,0⟩ 3 (mU ak cFrame cLayout) (eB (jR 1) (eB (jR 2) (eB (jR 3) qk))) _) (ρ':=[some (.pin a0 (du ak cFrame (cb cLayout rs) most pk (fs++[f0]) ce (ct.up j) dn (.int (j:Int)) .aP).t,false),some (aW r,false),some (u2,false),some (vT v,false)]) (V3 (p:=j)) ?_ ?_;show [_,jo (some (aW r,false)),jo (some (u2,false)),jo (some (vT v,false))]=_;rw[eC (kh r),eC i2,eC (e_ v)];exact⟨qq rfl,rfl,rs,r,j,most,pk,fs,f0,_,_,dn,_,x,v,rfl,i2,rfl,h,hx,hn,hq⟩
abbrev uF:qai:=qaJ
theorem kQ:az uF qaJ (ai iT):=L2.gJ
theorem sZ(D:Df K mg "follow_fail" iT qaJ f fd)(M:AR K ak):bU P w K mg base "follow_fail" qaJ 1 (jS K 3 (CZ ak cFrame cLayout)):=by refine D.g9 (IQ D.F kQ rfl (by decide) λbz A outer s H E M0 oH hr us s0 q hG hl=>?_);obtain⟨AW,kO,yZ,a0,sX⟩:=M0;have m6:sX=0:=oH;subst m6;have nd:=kQ.nd;have ag:=M;refine⟨_,(bN (iP ag.cl ag.iJ (λ_=>(qat (br (ae (qat aG) (ae (qat (aC (aa 1) (qas af))) ar))))) rfl)),?_⟩;obtain⟨L,most,pk,fr,ce,ct,dn,pl,w',u2,u3,rfl,rfl,hq⟩:=hG;exact⟨_,ah (j:=1) rfl,cf (by simp),rfl,qq rfl,_,_,8,_,rfl,(by show 9<1000;decide),rfl,rfl,hq⟩
abbrev qt:qai:=qaJ
theorem i9:az qt qaJ (ai gB):=L2.gJ
theorem pe(D:Df K mg "follow_choice" gB qaJ f fd)(M:AR K ak)(Hs:bU P w K mg base "yes_row" ["place"] 1 (c8 K 1 V'))(L7:bU P w K mg base "no_row" qaA 1 (c8 K 2 (gNo cLayout))):bU P w K mg base "follow_choice" qaJ 2 (jS K 3 (yg ak cFrame cLayout)):=by obtain⟨Yp,WI,Ht,Hu,Hv,Hw⟩:=Hs;obtain⟨adF,Yq,L8,L9,L_,L'⟩:=L7;refine D.g9 (IQ D.F i9 rfl (by decide) λbz A outer s H E M0 oH hr us s0 q hG hl=>?_);obtain⟨AW,kO,yZ,a0,sX⟩:=M0;have m6:sX=0:=oH;subst m6;have nd:=i9.nd;have hu:=bA.gy hr;have ag:=M;refine⟨_,(bN (iP ag.cl ag.cK (λ_=>(qat (jI (bK hu (aa 3) (qas af)) (aQ Hw (hr.mono (by decide)) (by rfl) Ht Hu Hv (ae (qat (aZ ag.cl ag.cK (bJ (aa 0)))) ar)) (aQ L' (hr.mono (by decide)) (by rfl) L8 L9 L_ (ae (qat (aZ ag.cl ag.fD (bJ (aa 0)))) (ae (qat (aZ ag.cl ag.cK (bJ (aa 0)))) ar)))))) rfl)),?_⟩;obtain⟨rs,r,j,most,pk,fr,ce,ct,dn,u1,u2,c,rfl,rfl,B,c5,hh,hq⟩:=hG;rw[hU];refine cX (λe=>?_) (λe=>?_);have e':c=1:=e;rw[if_pos e'] at hq;exact⟨rfl,_,rfl,rfl,_,rfl,rfl,qq rfl,_,_,7,_,rfl,(by show 9<1000;decide),rfl,rfl,hq⟩;have e':¬ c=1:=e;rw[if_neg e'] at hq;exact⟨rfl,_,rfl,rfl,_,rfl,rfl,rs,j,r,rfl,B,c5,hh,rfl,qq rfl,_,_,7,_,rfl,(by show 9<1000;decide),rfl,rfl,hq⟩
abbrev yk:qai:=["machine","row","used","made","cell"]
theorem lQ:az yk qaJ (ai jw):=L2.gJ
theorem uG(D:Df K mg "follow_set" jw qaJ f fd)(M:AR K ak)(o8:bU P w K mg base "cell_of" qaH 3 (c8 K 2 yd))(dH:bU P w K mg base "follow_plain" qaJ 2 (jS K 3 (o7 ak cFrame cLayout))):bU P w K mg base "follow_set" qaJ 4 (jS K 3 (L5 ak cFrame cLayout (NK.bu P w))):=by
 obtain⟨Hr,CY,o9,o_,pb,pd⟩:=o8;obtain⟨cZ,jN,dI,dJ,dM,dN⟩:=dH;refine D.g9 (IQ D.F lQ rfl (by decide) λbz A outer s H E M0 oH hr us s0 q hG hl=>?_);obtain⟨AW,kO,yZ,a0,sX⟩:=M0;have m6:sX=0:=oH;subst m6;have nd:=lQ.nd;have hu:=bA.gy hr;have ag:=M;have hu3:=SA hu;refine⟨_,(cv (fq λ_=>(bq (i:=4) nd rfl (Or.inl rfl) (qau (aQ pd (hr.mono (by decide)) (by rfl) o9 o_ pb (ae (qat (aC (aa 1) (qas af))) (ae (aq 2) ar)))) pS))
  (cv (vU (λ_=>(zF (aa 4) (qas dA)))
   (bN (PH hu3 (kc ag.cl ag.yc (mj)) (λ_=>(aa 4)) (λ_=>(aq 3))))
   Pt)
  (bN (gN dN (hr.mono (by decide)) (by rfl) dI dJ dM (λ_=>(ae (aq 1) (ae (aq 2) (ae (aq 3) ar)))) rfl)))),?_⟩
 obtain⟨rs,x,k,a,j,most,pk,fr,ce,ct,dn,e,v,rfl,hk,rfl,h,hn,hq⟩:=hG;have iu:bP (.tup ((gq (.set x k a)).map λo=>vT (look e o)))=true:=by simp only[bP];exact fA (f:=λo=>vT (look e o)) (λo=>e_ _) _
 have ir:=kh (.set x k a);refine⟨_,ah (j:=2) rfl,rfl,e,x,k,[a],rfl,hk,rfl,?_⟩;cases hc:cellK e x k with
 |none=>rw[hc] at hq;exact⟨qq rfl,rfl,rs,_,j,most,pk,fr,_,ct,dn,_,_,_,rfl,rfl,h,hq⟩
 |some c=>
  rw[hc] at hq;refine⟨⟨_,Ls⟩,c,rfl,e_ v,qq rfl,ce.ks,ce.ts,Ls,(by show ce.ts.length<_;unfold Ce.ts;rw[c3];omega),?_⟩;have hp:(du ak cFrame (cb cLayout rs) most pk fr (Ce.s (NK.bu P w) ce) ct dn (.int (j:Int)) .aP).put [.fld ak "cells"] (.dc (NK.bu P w) (sA ce.ks c) (gE ce.ks ce.ts c (vT v)))=du ak cFrame (cb cLayout rs) most pk fr (Ce.s (NK.bu P w) (ce.put c v)) ct dn (.int (j:Int)) .aP:=by rw[V1,V0];rfl
  refine SO (F:=KJ ⟨AW,kO,yZ,a0,0⟩ 3 (o7 ak cFrame cLayout) (eB (jR 1) (eB (jR 2) (eB (jR 3) qk))) _) (ρ':=[some (.pin a0 (du ak cFrame (cb cLayout rs) most pk fr (Ce.s (NK.bu P w) (ce.put c v)) ct dn (.int (j:Int)) .aP).t,false),some (aW (.set x k a),false),some (.tup ((gq (.set x k a)).map λo=>vT (look e o)),false),some (vT v,false),some (IL c,false)]) hp ?_ ?_;show [_,jo (some (aW (.set x k a),false)),jo (some (.tup ((gq (.set x k a)).map λo=>vT (look e o)),false)),jo (some (vT v,false)),jo (some (IL c,false))]=_;rw[eC ir,eC iu,eC (e_ v),eC (QM c)];exact⟨qq rfl,rfl,rs,_,j,most,pk,fr,_,ct,dn,_,_,_,rfl,rfl,h,hq⟩
abbrev QN:qai:=["machine","place","call","given","names","at","name"]
theorem AY:az QN qaK (ai x_):=L2.gJ
theorem Ma(D:Df K mg "enter" x_ qaK f fd)(M:MgR mg)(M1:AR K ak)(M2:Yo K cFrame)(M3:Qg K cLayout)(QO:Kr P w K mg base "Frame" cFrame qaF 1 2 (LZ cFrame)):bU P w K mg base "enter" qaK 3 (jS K 3 (C0 ak cFrame cLayout)):=by
 obtain⟨ae2,adG,QP,QQ,QR,QS⟩:=QO;refine D.g9 (IQ D.F AY rfl (by decide) λbz A outer s H E M0 oH hr us s0 q hG hl=>?_);obtain⟨AW,kO,yZ,a0,sX⟩:=M0;have m6:sX=0:=oH;subst m6;have nd:=AY.nd;have hu:=bA.gy hr;have ua:=so hu;have ag:=M1;have bV:=M2;have ax:=M3;refine⟨_,(cv (fq λ_=>(gX (i:=4) nd rfl (Or.inl rfl) (qau ER) pS))
  (cv (fq λ_=>(l9 N3 rfl (K6 (by rfl) M.enumerate (qat (aC (qas (aC (qas (aZ ax.cl ax.di (qas (aZ ag.cl ag.fD (bJ (aa 0)))))) (aa 1))) (qas af)))) (rP (n:=2) rfl (eQ (bE (i:=5) nd rfl (Or.inl rfl) pS) (eQ (bE (i:=6) nd rfl (Or.inl rfl) pS) nA)))
   (aw (Ph 4 ua (qat (jI (pP (aa 5) (qas (aT aN aO (by rfl) M.len jW (aA (aa 3) aK)))) (aC (aa 3) (aa 5)) af)) (aa 6)))))
  (cv (Pz (i:=2) (n:=4) (kc ag.cl ag.kM (mj)) (Vg QP QS (λt1 t2 q hq=>⟨t1,t2,rfl,hq⟩) (hr.mono (by decide)) (by rfl) QQ QR))
  (bN (iP ag.cl ag.cK (λ_=>(aq 1)) rfl))))),?_⟩
 obtain⟨rs,j,f',ps,gs,most,pk,fr,ce,ct,dn,p0,c,g,rfl,hg,rfl,c5,Ym,hfr,hq⟩:=hG;rw[hU];refine⟨by rw[hU];rfl,?_⟩;refine⟨rfl,_,rfl,rfl,_,rfl,_,kn c5,_,ah (j:=2) rfl,?_⟩;show pQ (eS (ps.map T.str)) _ _ _ [some (.pin a0 (Yk ak cFrame (cb cLayout rs) most pk fr ce ct dn p0 .aP),false),some (.int (j:Int),false),some (oT c,false),some (g,false),some (.dk [] [],true),none,none];refine vZ (f:=T.str) (λi ρ=>∃b5 b6,ρ=[some (.pin a0 (Yk ak cFrame (cb cLayout rs) most pk fr ce ct dn p0 .aP),false),some (.int (j:Int),false),some (oT c,false),some (g,false),some (.dk (cy ps gs i).ks (cy ps gs i).ts,true),vwO b5,vwO b6]) ⟨none,none,rfl⟩ ?_ ?_
 . rintro i x ρ hx ⟨b5,b6,rfl⟩;have es:cy ps gs (i+1)=(cy ps gs i).put x (gs.getD i (.num 0)):=by simp only[cy,hx]
   have Uo:((cy ps gs i).ts).length<16777216:=by have:=AV ps gs i;have:=(eW.mp hx).1;unfold Ev.ts;rw[c3];omega
   rw[es];obtain rfl|rfl:=hg
   all_goals
    refine⟨rfl,rfl,cX (λh=>?_) (λh=>?_)⟩;have h':(i:Int)<((gs.map vT).length:Int):=h;rw[c3] at h';have hg':i<gs.length:=by omega
    have ev:gs.getD i (.num 0)=gs[i]:=by rw[List.getD,lT hg'];rfl
    refine⟨vT gs[i],ah (by rw[ie,lT hg'];rfl),Uo,?_⟩;rw[ev,<- CB];exact⟨some (.int (i:Int)),some (.str x),rfl⟩;have h':¬ ((i:Int)<((gs.map vT).length:Int)):=h;rw[c3] at h';have ev:gs.getD i (.num 0)=.num 0:=by rw[List.getD,NA (by omega)];rfl
    refine⟨Uo,?_⟩;rw[ev,<- CB];exact⟨some (.int (i:Int)),some (.str x),rfl⟩
 rintro ρ ⟨b5,b6,rfl⟩;refine⟨by rw[hU];rfl,?_⟩;refine⟨_,oT c,_,_,Lq,by rw[c3];omega,(λz=>nomatch z),rfl,L6 c,rfl,?_,?_,?_⟩;exact fA (f:=vT) e_ _;intro e he;simp only[c4,gD,or_false] at he;obtain rfl|rfl|rfl|rfl|rfl|rfl|rfl:=he
 trivial;trivial;cases c<;>trivial;obtain rfl|rfl:=hg<;>trivial
 exact fA (f:=vT) e_ _;exact WG b5;exact WG b6;have e:S.lst (fr.map (yY cFrame)++[.ins cFrame qaw [.lf (oT c),.dk (cy ps gs ps.length).ks (cy ps gs ps.length).ts]])=.lst ((fr++[Fr.mk c (cy ps gs ps.length)]).map (yY cFrame)):=by rw[t_];rfl
 refine adE (s':=du ak cFrame (cb cLayout rs) most pk (fr++[Fr.mk c (cy ps gs ps.length)]) ce ct dn p0 .aP) (by show S.put _ _ _=_;rw[e];exact Lr) ?_;refine⟨rfl,adD ?_,_,_,7,_,rfl,(by show 9<1000;decide),rfl,rfl,?_⟩;intro e he;simp only[RD,IV,c4,gD,or_false] at he;obtain rfl|rfl|rfl|rfl|rfl|rfl|rfl:=he
 trivial;trivial;cases c<;>trivial;obtain rfl|rfl:=hg<;>trivial
 trivial;exact WG b5;exact WG b6;exact hq
abbrev uH:qai:=qaJ
theorem kR:az uH qaJ (ai iS):=L2.gJ
theorem s_(D:Df K mg "follow_call" iS qaJ f fd)(M:AR K ak)(M1:Qg K cLayout)(yl:bU P w K mg base "enter" qaK 3 (jS K 3 (C0 ak cFrame cLayout))):bU P w K mg base "follow_call" qaJ 4 (jS K 3 (C1 ak cFrame cLayout)):=by
 obtain⟨QT,Mb,ym,k_enter,yn,yo⟩:=yl;refine D.g9 (IQ D.F kR rfl (by decide) λbz A outer s H E M0 oH hr us s0 q hG hl=>?_);obtain⟨AW,kO,yZ,a0,sX⟩:=M0;have m6:sX=0:=oH;subst m6;have nd:=kR.nd;have hu:=bA.gy hr;have ua:=so hu;have ag:=M;have ax:=M1;have ua:=so hu;refine⟨_,(bN (gN yo (hr.mono (by decide)) (by rfl) ym k_enter yn (λ_=>(ae (qat (U4 ua (qas (aZ ax.cl ax.xR (qas (aZ ag.cl ag.fD (bJ (aa 0)))))) (qas (aC (aa 1) (qas af))))) (ae (qat (aZ ag.cl ag.cK (bJ (aa 0)))) (ae (aq 2) ar)))) rfl)),?_⟩;obtain⟨rs,j,p,x,g,as,f',ps,gs,most,pk,fr,ce,ct,dn,u3,rfl,rfl,hp,c5,Ym,hfr,hq⟩:=hG;rw[hU];have hd:dj ((bc rs rs.length).map λp=>(Sum.inr p.1:Key)) ((bc rs rs.length).map λp=>T.int (p.2:Int)) (Sum.inr g)=some (.int (p:Int)):=by rw[Lf,hp];rfl
 refine⟨qq rfl,rfl,_,rfl,rfl,_,rfl,_,ah (j:=2) rfl,_,hd,rfl,_,rfl,rfl,rs,p,f',ps,gs,most,pk,fr,ce,ct,dn,_,some j,_,rfl,.inr rfl,rfl,c5,Ym,hfr,hq⟩
abbrev uI:qai:=["machine","row","used","made","call"]
theorem kS:az uI qaJ (ai iR):=L2.gJ
theorem tq(D:Df K mg "follow_give" iR qaJ f fd)(M:AR K ak)(M1:Yo K cFrame)(M2:Qg K cLayout)(cN:bU P w K mg base "follow_name" qaJ 3 (jS K 3 (mU ak cFrame cLayout))):bU P w K mg base "follow_give" qaJ 4 (jS K 3 (C2 ak cFrame cLayout)):=by
 obtain⟨cn,hY,cO,cP,cQ,cR⟩:=cN;refine D.g9 (IQ D.F kS rfl (by decide) λbz A outer s H E M0 oH hr us s0 q hG hl=>?_);obtain⟨AW,kO,yZ,a0,sX⟩:=M0;have m6:sX=0:=oH;subst m6;have nd:=kS.nd;have ag:=M;have bV:=M1;have ax:=M2;refine⟨_,(cv (Py (j:=4) nd rfl (Or.inl rfl) bV.cl bV.LX (kc ag.cl ag.kM (mj)))
  (bN (vU (λ_=>(zE (aa 4) (qas dA)))
   (bN (iP ag.cl ag.iJ (λ_=>(qat (br (ae (qat aG) (ae (aq 3) ar))))) rfl))
   (cv (iP ag.cl ag.cK (λ_=>(aq 4)) rfl)
   (bN (gN cR (hr.mono (by decide)) (by rfl) cO cP cQ (λ_=>(ae (qat (aC (qas (aZ ax.cl ax.di (qas (aZ ag.cl ag.fD (bJ (aa 0)))))) (aa 4))) (ae (aq 2) (ae (aq 3) ar)))) rfl)))))),?_⟩
 obtain⟨rs,most,pk,fs,f0,ce,ct,dn,pl,u1,u2,v,rfl,i2,rfl,hq⟩:=hG;refine⟨fs.map (yY cFrame),qaw,[.lf (oT f0.call),.dk f0.ev.ks f0.ev.ts],0,oT f0.call,(λz=>nomatch z),(by show S.get _ [.fld ak "frames"]=_;rw[Lq,t_];rfl),rfl,rfl,L6 _,qq rfl,?_⟩;have hρ:mi ⟨AW,kO,yZ,a0,0⟩ [some (.pin a0 (du ak cFrame (cb cLayout rs) most pk (fs++[f0]) ce ct dn pl .aP).t,false),some (u1,false),some (u2,false),some (vT v,false),none] (du ak cFrame (cb cLayout rs) most pk fs ce ct dn pl .aP)=[some (.pin a0 (du ak cFrame (cb cLayout rs) most pk fs ce ct dn pl .aP).t,false),jo (some (u1,false)),some (u2,false),some (vT v,false),none]:=by show [_,jo (some (u1,false)),jo (some (u2,false)),jo (some (vT v,false)),jo none]=_;rw[eC i2,eC (e_ v)];rfl
 have iu1:∀e,e=jo (some (u1,false))->gp e:=λe he=>by rw[he];show gp (if bP u1=true then some (u1,false) else none);split;cases u1<;>trivial;trivial
 refine QL (Lr (fr':=fs)) hρ ?_;have iA:∀e∈[some (.pin a0 (du ak cFrame (cb cLayout rs) most pk fs ce ct dn pl .aP).t,false),jo (some (u1,false)),some (u2,false),some (vT v,false),some (oT f0.call,false)],gp e:=λe he=>by
  simp only[c4,gD,or_false] at he;obtain rfl|he|rfl|rfl|rfl:=he
  trivial;exact iu1 e he;cases u2<;>trivial;cases v<;>trivial;cases f0.call<;>trivial
 obtain⟨hc,hq⟩|⟨c,gs,g,r,x,hc,rfl,h,hx,hn,hq⟩:=hq
 rw[hc];exact⟨cf (by simp),(by show bP (.tup [.str "done",vT v])=true;simp only[bP,eD,e_];rfl),by rw[hc] at iA;exact iA,_,_,8,_,rfl,(by show 9<1000;decide),rfl,rfl,hq⟩;rw[hc];refine⟨rfl,by rw[hc] at iA;exact iA,_,_,7,_,rfl,(by show 9<1000;decide),rfl,rfl,?_⟩;refine yf (s':=du ak cFrame (cb cLayout rs) most pk (gs++[g]) ce ct dn (.int (c:Int)) .aP) (ρ':=[some (.pin a0 (du ak cFrame (cb cLayout rs) most pk (gs++[g]) ce ct dn (.int (c:Int)) .aP).t,false),jo (jo (some (u1,false))),some (u2,false),some (vT v,false),some (.int (c:Int),false)]) rfl ?_ ?_;show [_,jo (jo (some (u1,false))),jo (some (u2,false)),jo (some (vT v,false)),jo (some (.int (c:Int),false))]=_;rw[eC i2,eC (e_ v),eC (t:=.int (c:Int)) rfl];refine⟨λe he=>?_,?_⟩;simp only[c4,gD,or_false] at he;obtain rfl|he|rfl|rfl|rfl:=he
 trivial;rw[he];show gp (jo (if bP u1=true then some (u1,false) else none));by_cases h1:bP u1=true;rw[if_pos h1,eC h1];cases u1<;>trivial;rw[if_neg h1];trivial;cases u2<;>trivial;cases v<;>trivial;trivial;rw[hU];exact⟨rfl,_,rfl,rfl,_,rfl,_,kn h.at',rfl,rs,r,c,most,pk,gs,g,ce,ct,dn,_,x,v,rfl,i2,rfl,h,hx,hn,hq⟩
end
end Rg
namespace Rg
open PySem L2 VT Gen K5 Lay
open pN (d_)
open ki (Vl vT nm eF RI)
def Yr:Rw->Prop
 |.df _ ps=>ps.length<=50/\∀x∈ps,d_ x=true/\x.length<=100
 |.put _ a=>sG a
 |.give a=>sG a
 |.mn a=>sG a
 |.gS a=>sG a
 |.m8 _ a op b=>sG a/\op∈reckon/\sG b
 |.get _ r k=>sG (.nm r)/\NT k
 |.set r k a=>sG (.nm r)/\NT k/\sG a
 |.call _ _ as=>as.length<=50/\∀o∈as,sG o
 |_=>True
structure Wl(rs:qal):Prop where
 B:Bl rs
 ok:∀r∈rs,Yr r
 D:my rs
 n:rs.length<=100
inductive h7(rs:qal):List Fr->Fr->Prop
 |main {f:Fr} (h:f.call=none):h7 rs [] f
 |sub {gs:List Fr} {g f:Fr} {c:Nat} {x h:Str} {as:List jK} (hc:f.call=some c) (hr:rs[c]?=some (.call x h as)) (hd:1<=dp (bw rs) c) (k:h7 rs gs g):h7 rs (gs++[g]) f
theorem h7.inv{fs:List Fr}{f:Fr}(h:h7 rs fs f):(fs=[]/\f.call=none)\/∃(gs:List Fr)(g:Fr)(c:Nat)(x y:Str)(as:List jK),fs=gs++[g]/\f.call=some c/\rs[c]?=some (.call x y as)/\1<=dp (bw rs) c/\h7 rs gs g:=by
 cases h with
 |main h=>exact .inl ⟨rfl,h⟩
 |sub hc hr hd k=>exact .inr ⟨_,_,_,_,_,_,rfl,hc,hr,hd,k⟩
theorem h7.same{fs:List Fr}{f g:Fr}(h:h7 rs fs f)(e:g.call=f.call):h7 rs fs g:=by
 obtain⟨rfl,h1⟩|⟨gs,g',c,x,y,as,rfl,h1,h2,h3,h4⟩:=h.inv
 exact .main (e.trans h1);exact .sub (e.trans h1) h2 h3 h4
structure qU(rs:qal)(s:Lv):Prop where
 pl:s.pl<rs.length
 ins:1<=dp (bw rs) s.pl\/∃f ps,rs[s.pl]?=some (.df f ps)
 ev:hJ s.f.ev (100+s.dn.length)
 fs:∀g∈s.fs,hJ g.ev (100+s.dn.length)
 nf:s.fs.length<=s.dn.length
 ce:mz s.ce s.dn.length
 ct:s.ct.is.length<=s.dn.length
 ca:h7 rs s.fs s.f
section
theorem hJ.up{e:Ev}(h:hJ e n)(hm:n<=m):hJ e m:=⟨by have:=h.n;omega,h.ri⟩
theorem mz.up{c:Ce}(h:mz c n)(hm:n<=m):mz c m:=⟨by have:=h.1;omega,h.2⟩
theorem AZ(B:Bl rs)(hj:j<=rs.length)(h:1<=dp (bw rs) j):j<rs.length:=by
 rcases Nat.lt_or_ge j rs.length with z|z
 exact z;have e:j=rs.length:=by omega
 subst e;unfold dp at h;rw[B.W.fin] at h;exact absurd h (by simp)
theorem kT(B:Bl rs)(hr:rs[j]?=some r)(ho:Qo r=true)(hi:1<=dp (bw rs) j\/∃f ps,rs[j]?=some (.df f ps)):j+1<rs.length/\1<=dp (bw rs) (j+1):=by
 have hj:=(eW.mp hr).1;have kk:=fS hr;have h1:1<=dp (bw rs) (j+1):=by
  by_cases BE:(a9 r).op=true;rw[v8 B.W hj (by rw[kk];exact BE)];omega;obtain hi|⟨f,ps,hd⟩:=hi
  rw[Ai (by rw[kk];cases r<;>first|rfl|cases ho) (by rw[kk];simpa using BE)];exact hi;rw[hr] at hd;cases hd;exact absurd rfl BE
 exact⟨AZ B (by omega) h1,h1⟩
theorem Mc(ho:Ln r=true):wd r="if"\/wd r="while":=by cases r<;>first|(cases ho;done)|exact .inl rfl|exact .inr rfl
theorem C3(B:Bl rs)(hr:rs[j]?=some r)(ho:Ln r=true):1<=dp (bw rs) j/\j+1<rs.length/\1<=dp (bw rs) (j+1):=by
 have hj:=(eW.mp hr).1;have kk:=fS hr;have h0:1<=dp (bw rs) j:=by have:=B.inn hr (by rcases Mc ho with e|e<;>rw[e]<;>decide +kernel) (by rcases Mc ho with e|e<;>rw[e]<;>decide +kernel);unfold dp;exact XW.mpr this
 have BE:(a9 r).op=true:=by cases r<;>first|rfl|cases ho
 have h1:1<=dp (bw rs) (j+1):=by rw[v8 B.W hj (by rw[kk];exact BE)];omega
 exact⟨h0,AZ B (by omega) h1,h1⟩
theorem Ft(B:Bl rs)(hr:rs[j]?=some r)(ho:Ln r=true):∃k:Nat,P9 rs j=(k:Int)/\j<k/\k<rs.length/\1<=dp (bw rs) k:=by
 obtain⟨h0,_,_⟩:=C3 B hr ho;obtain⟨e,b⟩:=B.blo hr (Mc ho);obtain⟨g1,g2,g3,g4,g5⟩:=B.top b.lt b.op b.en;have ee:qp rs j=(e:Int):=by unfold qp;rw[b.en]
 unfold P9;rw[hr];cases r with
 |gS a=>
  refine⟨e+1,by show qp rs j+1=_;rw[ee];push_cast;rfl,by omega,?_⟩;have h1:1<=dp (bw rs) (e+1):=by rw[g3];exact h0
  exact⟨AZ B (by omega) h1,h1⟩
 |mn a=>
  show ∃k:Nat,(match Lm rs j with|none=>qp rs j|some x=>(x:Int)+1)=(k:Int)/\_;cases hx:Lm rs j with
  |none=>exact⟨e,ee,by omega,by omega,by rw[b.de];omega⟩
  |some x=>
   obtain⟨x1,x2,x3⟩:=Aq hx;have hxe:=VL x2;obtain⟨d2,o,_,q1,_,_⟩:=B.mq hxe;have hxl:=(eW.mp hxe).1;have kx:=fS hxe;have h1:dp (bw rs) (x+1)=dp (bw rs) x:=Ai (by rw[kx];rfl) (by rw[kx];rfl);have h2:1<=dp (bw rs) (x+1):=by omega
   have hjx:j<x:=by unfold nP at x3;rw[y3] at x3;exact (Aj B.W x (by omega) _ _ x3).1
   exact⟨x+1,by push_cast;rfl,by omega,AZ B (by omega) h2,h2⟩
 |_=>cases ho
theorem Md(B:Bl rs)(hr:rs[j]?=some r)(hs:mB r=true)(hi:1<=dp (bw rs) j):∃k:Nat,Cz rs j=(k:Int)/\k<rs.length/\1<=dp (bw rs) k/\(j<k\/∃a,rs[k]?=some (.gS a)):=by
 have hj:=(eW.mp hr).1;have kk:=fS hr;unfold Cz;rw[hr];cases r with
 |skip=>obtain⟨h1,h2⟩:=kT B hr rfl (.inl hi);exact⟨j+1,by push_cast;rfl,h1,h2,.inl (by omega)⟩
 |mq=>
  obtain⟨d2,o,a,q1,q2,_⟩:=B.mq hr;have eh:IS rs j=o:=by unfold IS;rw[q1];rfl
  show ∃k:Nat,qp rs (IS rs j)=(k:Int)/\_;rw[eh];obtain⟨e,b⟩:=B.blo q2 (.inl rfl);have WJ:=q1;unfold nP at WJ;rw[y3] at WJ;obtain⟨s1,s2,s3,s4⟩:=Aj B.W j (by omega) _ _ WJ;have hje:j<e:=by
   rcases Nat.lt_or_ge j e with z|z
   exact z;have h9:=(B.top b.lt b.op b.en).2.2.1;by_cases ej:j=e;subst ej;rw[b.re] at hr;cases hr;have:=s4 (e+1) (by have:=b.le;omega) (by omega);omega
  exact⟨e,by unfold qp;rw[b.en],b.el,by rw[b.de];omega,.inl hje⟩
 |fin=>
  obtain⟨d2,o,r',q1,q2,_⟩:=B.fin hr;have eh:IS rs j=o:=by unfold IS;rw[q1];rfl
  show ∃k:Nat,(match rs[IS rs j]? with|some (.gS _)=>(IS rs j:Int)|_=>(j:Int)+1)=(k:Int)/\_;rw[eh,q2];have WJ:=q1;unfold nP at WJ;rw[y3] at WJ;obtain⟨s1,s2,s3,s4⟩:=Aj B.W j (by omega) _ _ WJ;have Jw:dp (bw rs) (j+1)+1=dp (bw rs) j:=Ah B.W hj (by rw[kk];rfl);have h2:1<=dp (bw rs) (j+1):=by omega
  have nx:∃k:Nat,(j:Int)+1=(k:Int)/\k<rs.length/\1<=dp (bw rs) k/\(j<k\/∃a,rs[k]?=some (.gS a)):=⟨j+1,by push_cast;rfl,AZ B (by omega) h2,h2,.inl (by omega)⟩;cases r' with
  |gS a=>exact⟨o,rfl,by omega,by rw[s3];unfold dp at d2;omega,.inr ⟨a,q2⟩⟩
  |_=>exact nx
 |_=>cases hs
theorem yp(ps:qai)(gs:List Vl)(hg:∀g∈gs,RV g):∀k,hJ (cy ps gs k) k
 |0=>⟨c_ _,λi hi=>nomatch hi⟩
 |k+1=>by
  have ih:=yp ps gs hg k;unfold cy;split;refine ih.put _ ?_;rw[List.getD];cases e:gs[k]? with
  |none=>exact VM
  |some g=>exact hg g (iw e)
  exact ih.up (by omega)
theorem i_(W:Wl rs){s:Lv}(I:qU rs s)(hr:rs[s.pl]?=some r)(hs:mB r=false):(∃s',cT rs r s=.inl s'/\qU rs s'/\s'.dn.length=s.dn.length+1)\/∃R,cT rs r s=.inr R:=by
 have IT:=W.ok r (iw hr);have e1:∀d:T,(s.dn++[d]).length=s.dn.length+1:=λd=>by simp
 have WK:=I.ev;have name:∀(x:Str)(v:Vl)(d:T)(ct':Ct),RV v->ct'.is.length<=s.dn.length+1->Qo r=true->qU rs (wg {s with ct:=ct'} x v d):=λx v d ct' hv hc ho=>by obtain⟨h1,h2⟩:=kT W.B hr ho I.ins;refine⟨h1,.inl h2,?_,λg hg=>?_,?_,?_,?_,?_⟩;show hJ (s.f.ev.put x v) (100+(s.dn++[d]).length);rw[e1];exact WK.put x hv;show hJ g.ev (100+(s.dn++[d]).length);rw[e1];exact (I.fs g hg).up (by omega);show s.fs.length<=(s.dn++[d]).length;rw[e1];have:=I.nf;omega;show mz s.ce (s.dn++[d]).length;rw[e1];exact I.ce.up (by omega);show ct'.is.length<=(s.dn++[d]).length;rw[e1];exact hc;show h7 rs s.fs {s.f with ev:=s.f.ev.put x v};exact I.ca.same rfl
 have Yt:s.ct.is.length<=s.dn.length+1:=by have:=I.ct;omega
 have move:∀(d:T)(V2:Ce)(p:Nat),mz V2 (s.dn.length+1)->p<rs.length->1<=dp (bw rs) p->qU rs {s with ce:=V2,dn:=s.dn++[d],pl:=p}:=λd V2 p hc h1 h2=>by refine⟨h1,.inl h2,?_,λg hg=>?_,?_,?_,?_,I.ca⟩;show hJ s.f.ev (100+(s.dn++[d]).length);rw[e1];exact WK.up (by omega);show hJ g.ev (100+(s.dn++[d]).length);rw[e1];exact (I.fs g hg).up (by omega);show s.fs.length<=(s.dn++[d]).length;rw[e1];have:=I.nf;omega;show mz V2 (s.dn++[d]).length;rw[e1];exact hc;show s.ct.is.length<=(s.dn++[d]).length;rw[e1];exact Yt
 have Yu:mz s.ce (s.dn.length+1):=I.ce.up (by omega);cases r with
 |df f ps=>obtain⟨h1,h2⟩:=kT W.B hr rfl I.ins;exact .inl ⟨_,rfl,move _ s.ce _ Yu h1 h2,e1 _⟩
 |put x a=>exact .inl ⟨_,rfl,name x _ _ s.ct (WK.look IT) Yt rfl,e1 _⟩
 |get x y k=>
  refine .inl ⟨_,rfl,name x _ _ s.ct ?_ Yt rfl,e1 _⟩;cases cellK s.f.ev y k with
  |none=>exact VM
  |some c=>exact I.ce.get c
 |set y k a=>
  obtain⟨h1,h2⟩:=kT W.B hr rfl I.ins;refine .inl ⟨_,rfl,move _ (s.ce.VY (look s.f.ev a) (cellK s.f.ev y k)) _ ?_ h1 h2,e1 _⟩;cases cellK s.f.ev y k with
  |none=>exact Yu
  |some c=>exact I.ce.put c (WK.look IT.2.2)
 |m8 x a op b=>
  show (∃s',(match CC op (look s.f.ev a) (look s.f.ev b) with|none=>Sum.inr _|some v=>Sum.inl _)=Sum.inl s'/\_)\/∃R,(match CC op (look s.f.ev a) (look s.f.ev b) with|none=>Sum.inr _|some v=>Sum.inl _)=Sum.inr R;cases hk:CC op (look s.f.ev a) (look s.f.ev b) with
  |none=>exact .inr ⟨_,rfl⟩
  |some v=>exact .inl ⟨_,rfl,name x (.num v) _ s.ct (VU hk) Yt rfl,e1 _⟩
 |new x=>refine .inl ⟨_,rfl,name x _ _ (s.ct.up s.pl) VM ?_ rfl,e1 _⟩;have:=oQ s.ct.ks s.ct.is (.inl (s.pl:Int)) (s.ct.get s.pl+1);have:=I.ct;show (cJ s.ct.ks s.ct.is (.inl (s.pl:Int)) (s.ct.get s.pl+1)).length<=_;omega
 |mn a=>obtain⟨_,y1,y2⟩:=C3 W.B hr rfl;obtain⟨k,n1,_,n3,n4⟩:=Ft W.B hr rfl;refine .inl ⟨_,rfl,move _ s.ce _ Yu ?_ ?_,e1 _⟩;split;rw[n1];exact n3;exact y1;split;rw[n1];exact n4;exact y2
 |gS a=>obtain⟨_,y1,y2⟩:=C3 W.B hr rfl;obtain⟨k,n1,_,n3,n4⟩:=Ft W.B hr rfl;refine .inl ⟨_,rfl,move _ s.ce _ Yu ?_ ?_,e1 _⟩;split;rw[n1];exact n3;exact y1;split;rw[n1];exact n4;exact y2
 |fail w=>exact .inr ⟨_,rfl⟩
 |give a=>
  have hv:=WK.look IT;obtain⟨h0,h1⟩|⟨gs,g,c,x,y,as,h0,h1,h2,h3,h4⟩:=I.ca.inv
  refine .inr ⟨(s.dn++[ub s.f.ev s.ce s.ct s.pl (.give a)],jL (look s.f.ev a)),?_⟩;unfold cT;dsimp only;rw[h1];have ed:cT rs (.give a) s=.inl {fs:=gs,f:={g with ev:=g.ev.put x (look s.f.ev a)},ce:=s.ce,ct:=s.ct,dn:=s.dn++[ub s.f.ev s.ce s.ct s.pl (.give a)],pl:=c+1}:=by unfold cT;dsimp only;rw[h1,h0,N1];dsimp only;rw[h2,Tg]
  obtain⟨p1,p2⟩:=kT W.B h2 rfl (.inl h3);refine .inl ⟨_,ed,⟨p1,.inl p2,?_,λg' hg=>?_,?_,?_,?_,?_⟩,e1 _⟩;show hJ (g.ev.put x (look s.f.ev a)) (100+(s.dn++[_]).length);rw[e1];exact (I.fs g (by rw[h0];simp)).put x hv;show hJ g'.ev (100+(s.dn++[_]).length);rw[e1];exact (I.fs g' (by rw[h0];exact cC _ hg)).up (by omega);show gs.length<=(s.dn++[_]).length;have:=I.nf;rw[h0,pH] at this;rw[e1];omega;show mz s.ce (s.dn++[_]).length;rw[e1];exact Yu;show s.ct.is.length<=(s.dn++[_]).length;rw[e1];exact Yt;exact h4.same rfl
 |call x g as=>
  obtain⟨p,ps,q1,q2,q3⟩:=W.D.ca s.pl x g as hr;have ef:=W.D.first q2
  have WL:=W.ok _ (iw q2);have hp:=(eW.mp q2).1;have ed:cT rs (.call x g as) s=.inl {fs:=s.fs++[s.f],f:=⟨some s.pl,cy ps (as.map (look s.f.ev)) ps.length⟩,ce:=s.ce,ct:=s.ct,dn:=s.dn++[ub s.f.ev s.ce s.ct s.pl (.call x g as)],pl:=p}:=by unfold cT;dsimp only;rw[ef];dsimp only;rw[q2]
  refine .inl ⟨_,ed,⟨hp,.inr ⟨g,ps,q2⟩,?_,λg' hg=>?_,?_,?_,?_,?_⟩,e1 _⟩;show hJ (cy ps (as.map (look s.f.ev)) ps.length) (100+(s.dn++[_]).length);refine (yp ps _ (λv hv=>?_) ps.length).up (by have:=WL.1;omega);obtain⟨o,ho,rfl⟩:=vz.mp hv;exact WK.look (IT.2 o ho);show hJ g'.ev (100+(s.dn++[_]).length);rw[e1];rcases cU.mp hg with z|z
  exact (I.fs g' z).up (by omega);rw[jV.mp z];exact WK.up (by omega);show (s.fs++[s.f]).length<=(s.dn++[_]).length;rw[e1];have:=I.nf;simp;omega;show mz s.ce (s.dn++[_]).length;rw[e1];exact Yu;show s.ct.is.length<=(s.dn++[_]).length;rw[e1];exact Yt;refine .sub rfl hr ?_ I.ca;obtain z|⟨f,ps,z⟩:=I.ins
  exact z;rw[hr] at z;cases z
 |_=>cases hs
theorem tu(W:Wl rs){s:Lv}(I:qU rs s):(∃s',i7 rs most s=.inl s'/\qU rs s'/\((s'.dn.length=s.dn.length+1/\s.dn.length<most)\/(s'.dn=s.dn/\(∀a,rs[s.pl]?≠some (.gS a))/\((∃a,rs[s'.pl]?=some (.gS a))\/s.pl<s'.pl))))\/∃R,i7 rs most s=.inr R:=by
 obtain⟨r,hr⟩:∃r,rs[s.pl]?=some r:=⟨_,lT I.pl⟩;unfold i7;rw[hr];dsimp only;by_cases hs:mB r=true;rw[if_pos hs];have hi:1<=dp (bw rs) s.pl:=by
  obtain z|⟨f,ps,z⟩:=I.ins
  exact z;rw[hr] at z;cases z;cases hs
 obtain⟨k,h1,h2,h3,h4⟩:=Md W.B hr hs hi;refine .inl ⟨_,rfl,⟨?_,?_,I.ev,I.fs,I.nf,I.ce,I.ct,I.ca⟩,.inr ⟨rfl,(λa z=>by cases z;cases hs),?_⟩⟩;show (Cz rs s.pl).toNat<_;rw[h1];exact h2;show 1<=dp (bw rs) (Cz rs s.pl).toNat\/_;rw[h1];exact .inl h3;show (∃a,rs[(Cz rs s.pl).toNat]?=_)\/_<(Cz rs s.pl).toNat;rw[h1];obtain z|z:=h4
 exact .inr z;exact .inl z;rw[if_neg hs];by_cases hm:most<=s.dn.length;rw[if_pos hm];exact .inr ⟨_,rfl⟩;rw[if_neg hm];rcases i_ W I hr (by simpa using hs) with⟨s',h1,h2,h3⟩|⟨R,h⟩
 exact .inl ⟨s',h1,h2,.inl ⟨h3,by omega⟩⟩;exact .inr ⟨R,h⟩
inductive qV(rs:qal)(most:Nat):Nat->Lv->Res->Prop
 |fin {s:Lv} {R:Res} (h:i7 rs most s=.inr R):qV rs most 0 s R
 |go {n:Nat} {s s':Lv} {R:Res} (h:i7 rs most s=.inl s') (k:qV rs most n s' R):qV rs most (n+1) s R
def rank(rs:qal)(s:Lv):Nat:=match rs[s.pl]? with
 |some (.gS _)=>0
 |_=>rs.length-s.pl+1
theorem QU(rs:qal)(s:Lv):rank rs s<=rs.length+1:=by unfold rank;split<;>omega
theorem Me{s:Lv}{a:jK}(h:rs[s.pl]?=some (.gS a)):rank rs s=0:=by unfold rank;rw[h]
theorem Mh{s:Lv}(h:∀a,rs[s.pl]?≠some (.gS a)):rank rs s=rs.length-s.pl+1:=by
 unfold rank;split
 rename_i a e;exact absurd e (h a)
 rfl
theorem WM(W:Wl rs):∀(m:Nat){s:Lv},qU rs s->(most-s.dn.length) * (rs.length+2)+rank rs s<m->∃n R,qV rs most n s R:=by
 intro m;induction m with
 |zero=>intro s I h;omega
 |succ m ih=>
  intro s I h;rcases tu W I (most:=most) with⟨s',h1,h2,h3⟩|⟨R,h⟩
  have:(most-s'.dn.length) * (rs.length+2)+rank rs s'<m:=by
   obtain⟨h3,h4⟩|⟨h3,h5,h4⟩:=h3
   have e:most-s.dn.length=(most-s'.dn.length)+1:=by omega
   have:=QU rs s';rw[e,Nat.add_mul] at h;omega;rw[h3];rw[Mh h5] at h;have hp:=I.pl;obtain⟨a,z⟩|z:=h4
   rw[Me z];omega;have Up:=h2.pl;by_cases hw:∃a,rs[s'.pl]?=some (.gS a);obtain⟨a,z⟩:=hw;rw[Me z];omega;rw[Mh λa z=>hw ⟨a,z⟩];omega
  obtain⟨n,R,hR⟩:=ih h2 this;exact⟨n+1,R,.go h1 hR⟩;exact⟨0,R,.fin h⟩
theorem QV(W:Wl rs)(most:Nat){s:Lv}(I:qU rs s):∃n R,qV rs most n s R:=WM W _ I (ID _)
end
end Rg
namespace Rg
open PySem L2 VT Gen K5 Lay
open pN (d_)
open Nx (Hj)
open Nm (lC Fb Az mF)
open Yl (Fe Fd ku)
open ki (Vl vT nm eF RI)
structure MgS(K:qaf)(mg:qae):Prop where
 len:mg "len"=none
 tuple:mg "tuple"=none
 WN:∃a,mg "SILENT"=some (.ref a)/\∀H,fM K H a [.str "else",.str "end",.str "skip"]
def SQ(cM cF cL:Addr)(nh:List Key×Key->Int)(rs:qal)(most:Nat)(s:Lv):S:=du cM cF (cb cL rs) (most:Int) .aP (s.fs++[s.f]) (Ce.s nh s.ce) s.ct s.dn (.int ((s.pl:Nat):Int)) .aP
def A0(cM cF cL:Addr)(nh:List Key×Key->Int)(rs:qal)(most:Nat)(q:S->Prop):Lv ⊕ Res->Prop
 |.inl s=>q (SQ cM cF cL nh rs most s)
 |.inr R=>∀fr ce ct pl,q (du cM cF (cb cL rs) (most:Int) .aP fr ce ct R.1 pl R.2)
def SR(cM cF cL:Addr)(nh:List Key×Key->Int)(us:qaj)(st:S)(q:S->T->Prop):Prop:=∃rs r s most,us=[aW r]/\st=SQ cM cF cL nh rs most s/\Wl rs/\qU rs s/\rs[s.pl]?=some r/\mB r=false/\s.dn.length<=1000/\A0 cM cF cL nh rs most (λs'=>q s' .aP) (cT rs r s)
def SS(cM cF cL:Addr)(nh:List Key×Key->Int)(us:qaj)(st:S)(q:S->T->Prop):Prop:=∃rs s most,us=[]/\st=SQ cM cF cL nh rs most s/\Wl rs/\qU rs s/\s.dn.length<=1000/\A0 cM cF cL nh rs most (λs'=>q s' .aP) (i7 rs most s)
theorem WO(h:d_ x=true):mF (vY (.fld x))=true:=by show pN.rB (((".":String):Str)++x)=true;unfold pN.rB;rw[pN.vL,h,Bool.and_true];exact pN.rC x
theorem Fu{k:Ky}(h:NT k):([vY k].filter λt=>!mF t)=(P_ k).map gF:=by
 cases k with
 |fld x=>rw[acq (by rw[WO h.1];decide)];rfl
 |op o=>rw[YH (by show (!mF (gF o))=true;rw[sT h];rfl)];rfl
theorem tw:∀{l:List jK},(∀o∈l,sG o)->((l.map gF).filter λt=>!mF t)=l.map gF
 |[],_=>rfl
 |o::l,h=>by rw[ix,YH (by rw[sT (h o dP)];rfl),tw λo ho=>h o (ic _ ho)]
theorem Mi(ok:Yr r):∀o∈gq r,sG o:=by
 have kk:∀{k:Ky},NT k->∀o∈P_ k,sG o:=λ{k} h o ho=>by
  cases k with
  |fld x=>cases ho
  |op o'=>rw[jV.mp ho];exact h
 intro o ho;cases r with
 |df f ps=>obtain⟨x,hx,rfl⟩:=vz.mp ho;exact ok.2 x hx
 |put x a=>rw[jV.mp ho];exact ok
 |give a=>rw[jV.mp ho];exact ok
 |mn a=>rw[jV.mp ho];exact ok
 |gS a=>rw[jV.mp ho];exact ok
 |m8 x a op b=>
  simp only[gq,c4,gD,or_false] at ho;obtain rfl|rfl:=ho
  exact ok.1;exact ok.2.2
 |get x y k=>
  rcases c4.mp ho with rfl|ho
  exact ok.1;exact kk ok.2 o ho
 |set y k a=>
  rcases c4.mp ho with rfl|ho
  exact ok.1;rcases cU.mp ho with ho|ho
  exact kk ok.2.1 o ho;rw[jV.mp ho];exact ok.2.2
 |call x f as=>exact ok.2 o ho
 |_=>cases ho
theorem QW(ok:Yr r):(gq r).length<=100:=by
 have kk:∀k:Ky,(P_ k).length<=1:=λk=>by cases k<;>simp[P_]
 cases r with
 |df f ps=>rw[gq,c3];have:=ok.1;omega
 |call x f as=>have:=ok.1;show as.length<=100;omega
 |get x y k=>have:=kk k;simp only[gq,y4];omega
 |set y k a=>have:=kk k;simp only[gq,y4,pH,X3];omega
 |_=>simp[gq]
theorem QX(ok:Yr r)(hd:∀f ps,r≠.df f ps):Fd r=(gq r).map gF/\∀t∈ku r,Az t:=by
 have ol:∀{o:jK},sG o->Az (gF o):=λh=>ye h;have kl:∀{k:Ky},NT k->Az (vY k):=λ{k} h=>by
  cases k with
  |fld x=>exact .inl ⟨_,rfl,by rw[Fq];have:=h.2;omega⟩
  |op o=>exact ye h
 have one:∀{a:jK},sG a->([gF a].filter λt=>!mF t)=[gF a]:=λh=>tw (l:=[_]) λo ho=>by rw[jV.mp ho];exact h
 cases r with
 |df f ps=>exact absurd rfl (hd f ps)
 |put x a=>exact⟨one ok,λt ht=>by rw[jV.mp ht];exact ol ok⟩
 |give a=>exact⟨one ok,λt ht=>by rw[jV.mp ht];exact ol ok⟩
 |mn a=>exact⟨one ok,λt ht=>by rw[jV.mp ht];exact ol ok⟩
 |gS a=>exact⟨one ok,λt ht=>by rw[jV.mp ht];exact ol ok⟩
 |m8 x a op b=>
  refine⟨tw (l:=[a,b]) (Mi (r:=.m8 x a op b) ok),λt ht=>?_⟩;simp only[ku,c4,gD,or_false] at ht;obtain rfl|rfl:=ht
  exact ol ok.1;exact ol ok.2.2
 |get x y k=>
  refine⟨?_,λt ht=>?_⟩;show (([gF (.nm y)]++[vY k]).filter λt=>!mF t)=_;rw[ack,one ok.1,Fu ok.2];rfl;simp only[ku,c4,gD,or_false] at ht;obtain rfl|rfl:=ht
  exact ol ok.1;exact kl ok.2
 |set y k a=>
  refine⟨?_,λt ht=>?_⟩;show ((([gF (.nm y)]++[vY k])++[gF a]).filter λt=>!mF t)=_;rw[ack,ack,one ok.1,one ok.2.2,Fu ok.2.1];show _=(jK.nm y::(P_ k++[a])).map gF;rw[ix,t_];rfl;simp only[ku,c4,gD,or_false] at ht;obtain rfl|rfl|rfl:=ht
  exact ol ok.1;exact kl ok.2.1;exact ol ok.2.2
 |call x f as=>exact⟨rfl,λt ht=>by obtain⟨o,ho,rfl⟩:=vz.mp ht;exact ol (ok.2 o ho)⟩
 |_=>exact⟨rfl,λt ht=>nomatch ht⟩
theorem EK(ok:Yr r)(hs:mB r=false):RdR r:=by
 cases r with
 |mq=>cases hs
 |fin=>cases hs
 |skip=>cases hs
 |m8 x a op b=>exact ok.2.1
 |get x y k=>exact ok.2
 |set y k a=>exact ok.2.1
 |_=>trivial
theorem bY.up{k k':Nat}(h:bY P w K mg base fG k f fd ps sp)(hk:k<=k'):bY P w K mg base fG k' f fd ps sp :=
 ⟨h.len,λA outer s H args us vs Q E hr e0 hb r NM=>h.run A outer s H args us vs Q E (hr.mono hk) e0 hb r NM⟩
structure Fos(w:World)(K:qaf)(mg:qae):Prop where
 ex:∃(a:Addr)(f1 f2 f3 f4 f5 f6 f7 f8 f9:Addr),mg "FOLLOWERS"=some (.ref a)/\mg "follow_plain"=some (.ref f1)/\mg "follow_give"=some (.ref f2)/\mg "follow_name"=some (.ref f3)/\mg "follow_do"=some (.ref f4)/\mg "follow_new"=some (.ref f5)/\mg "follow_set"=some (.ref f6)/\mg "follow_call"=some (.ref f7)/\mg "follow_fail"=some (.ref f8)/\mg "follow_choice"=some (.ref f9) /\
  sr w K a [("def",.ob f1),("give",.ob f2),("put",.ob f3),("do",.ob f4),("new",.ob f5),("get",.ob f3),("set",.ob f6),("call",.ob f7),("fail",.ob f8),("if",.ob f9),("while",.ob f9)]
inductive IU(cM cF cL:Addr)(nh:List Key×Key->Int)(f1 f2 f3 f4 f5 f6 f7 f8 f9:Addr):Addr->(qaj->S->(S->T->Prop)->Prop)->Prop
 |plain:IU cM cF cL nh f1 f2 f3 f4 f5 f6 f7 f8 f9 f1 (o7 cM cF cL)
 |give:IU cM cF cL nh f1 f2 f3 f4 f5 f6 f7 f8 f9 f2 (C2 cM cF cL)
 |name:IU cM cF cL nh f1 f2 f3 f4 f5 f6 f7 f8 f9 f3 (mU cM cF cL)
 |do_:IU cM cF cL nh f1 f2 f3 f4 f5 f6 f7 f8 f9 f4 (WH cM cF cL)
 |new:IU cM cF cL nh f1 f2 f3 f4 f5 f6 f7 f8 f9 f5 (L4 cM cF cL)
 |set:IU cM cF cL nh f1 f2 f3 f4 f5 f6 f7 f8 f9 f6 (L5 cM cF cL nh)
 |call:IU cM cF cL nh f1 f2 f3 f4 f5 f6 f7 f8 f9 f7 (C1 cM cF cL)
 |fail:IU cM cF cL nh f1 f2 f3 f4 f5 f6 f7 f8 f9 f8 (CZ cM cF cL)
 |choice:IU cM cF cL nh f1 f2 f3 f4 f5 f6 f7 f8 f9 f9 (yg cM cF cL)
abbrev usT(s:Lv)(r:Rw):T:=.tup ((gq r).map λo=>vT (look s.f.ev o))
abbrev mdT(s:Lv)(r:Rw):T:=oV (we s.f.ev s.ce s.ct s.pl r)
theorem yq(s:Lv)(r:Rw):bP (usT s r)=true:=by simp only[bP];exact fA (f:=λo=>vT (look s.f.ev o)) (λo=>e_ _) _
def cutD(cM cF cL a0:Addr)(nh:List Key×Key->Int):FM:=λd ρ st=>∃rs r s most P,ρ=[some (.pin a0 st.t,false),some (aW r,false),some (P,false),none,none]/\st=SQ cM cF cL nh rs most s/\(P=.tup ((gq r).map gF)\/P=.lst ((gq r).map gF))/\Wl rs/\qU rs s/\rs[s.pl]?=some r/\mB r=false/\s.dn.length<=1000/\A0 cM cF cL nh rs most (λs'=>∀ρ',d.nx ρ' s') (cT rs r s)
abbrev NV(cM cF cL:Addr)(nh:List Key×Key->Int)(rs:qal)(most:Nat)(s:Lv)(r:Rw):S:=du cM cF (cb cL rs) (most:Int) .aP (s.fs++[s.f]) (Ce.s nh s.ce) s.ct (s.dn++[ub s.f.ev s.ce s.ct s.pl r]) (.int ((s.pl:Nat):Int)) .aP
abbrev NW(a:Addr)(st:S)(s:Lv)(r:Rw)(x:Option (T×Bool)):En:=[some (.pin a st.t,false),some (aW r,false),x,some (usT s r,false),some (mdT s r,false)]
theorem WQ{cM cF cL:Addr}{nh:List Key×Key->Int}{f1 f2 f3 f4 f5 f6 f7 f8 f9:Addr}{s:Lv}{q:S->T->Prop}(W:Wl rs)(I:qU rs s)(hr:rs[s.pl]?=some r)(hs:mB r=false)(WR:s.dn.length<=1000)(hq:A0 cM cF cL nh rs most (λs'=>q s' .aP) (cT rs r s)) :
  ∃f G,Cj [("def",T.ob f1),("give",.ob f2),("put",.ob f3),("do",.ob f4),("new",.ob f5),("get",.ob f3),("set",.ob f6),("call",.ob f7),("fail",.ob f8),("if",.ob f9),("while",.ob f9)] (wd r)=some (.ob f)/\IU cM cF cL nh f1 f2 f3 f4 f5 f6 f7 f8 f9 f G/\G [aW r,usT s r,mdT s r] (NV cM cF cL nh rs most s r) q:=by
 have IT:=W.ok r (iw hr);have hel:s.f.ev.is.length<=1000000:=by have:=I.ev.n;omega
 have hfl:(s.fs++[s.f]).length<=1000000:=by have:=I.nf;simp;omega
 have at':Qo r=true->QH rs s.pl r:=λh=>⟨W.B,hr,h⟩;have ui:=yq s r;cases r with
 |df f ps=>exact⟨f1,_,rfl,.plain,rs,_,s.pl,most,.aP,_,_,_,_,_,_,_,rfl,rfl,at' rfl,hq⟩
 |put x a=>exact⟨f3,_,rfl,.name,rs,_,s.pl,most,.aP,s.fs,s.f,_,_,_,_,x,look s.f.ev a,rfl,ui,rfl,at' rfl,rfl,hel,hq⟩
 |get x y k=>exact⟨f3,_,rfl,.name,rs,_,s.pl,most,.aP,s.fs,s.f,_,_,_,_,x,s.ce.at' (cellK s.f.ev y k),rfl,ui,rfl,at' rfl,rfl,hel,hq⟩
 |set y k a=>exact⟨f6,_,rfl,.set,rs,y,k,a,s.pl,most,.aP,_,s.ce,_,_,s.f.ev,look s.f.ev a,rfl,IT.2.1,rfl,at' rfl,by have:=I.ce.1;omega,hq⟩
 |new x=>exact⟨f5,_,rfl,.new,rs,_,s.pl,most,.aP,s.fs,s.f,_,_,_,_,x,.GZ s.pl (s.ct.get s.pl),rfl,ui,rfl,at' rfl,rfl,hel,by have:=I.ct;omega,hq⟩
 |m8 x a op b=>
   refine⟨f4,_,rfl,.do_,rs,_,s.pl,most,.aP,s.fs,s.f,_,_,_,_,x,(CC op (look s.f.ev a) (look s.f.ev b)).map .num,rfl,ui,rfl,at' rfl,rfl,hel,?_⟩;have fg:A0 cM cF cL nh rs most (λs'=>q s' .aP) (match CC op (look s.f.ev a) (look s.f.ev b) with
    |none=>.inr (s.dn++[ub s.f.ev s.ce s.ct s.pl (.m8 x a op b)],sH)
    |some v=>.inl (wg s x (.num v) (ub s.f.ev s.ce s.ct s.pl (.m8 x a op b)))):=hq
   cases hk:CC op (look s.f.ev a) (look s.f.ev b) with
   |none=>rw[hk] at fg;exact fg _ _ _ _
   |some v=>rw[hk] at fg;exact fg
 |mn a=>obtain⟨k,n1,_,_,_⟩:=Ft W.B hr rfl;refine⟨f9,_,rfl,.choice,rs,_,s.pl,most,.aP,_,_,_,_,_,_,(if look s.f.ev a=.num 0 then 0 else 1),rfl,rfl,W.B,hr,rfl,?_⟩;have fg:q (du cM cF (cb cL rs) (most:Int) .aP (s.fs++[s.f]) (Ce.s nh s.ce) s.ct (s.dn++[ub s.f.ev s.ce s.ct s.pl (.mn a)]) (.int (((if look s.f.ev a=.num 0 then (P9 rs s.pl).toNat else s.pl+1:Nat)):Int)) .aP) .aP:=hq;by_cases h:look s.f.ev a=.num 0;rw[if_pos h] at fg ⊢;rw[if_neg (by decide),n1];rw[n1] at fg;exact fg;rw[if_neg h] at fg ⊢;rw[if_pos rfl];exact fg
 |gS a=>obtain⟨k,n1,_,_,_⟩:=Ft W.B hr rfl;refine⟨f9,_,rfl,.choice,rs,_,s.pl,most,.aP,_,_,_,_,_,_,(if look s.f.ev a=.num 0 then 0 else 1),rfl,rfl,W.B,hr,rfl,?_⟩;have fg:q (du cM cF (cb cL rs) (most:Int) .aP (s.fs++[s.f]) (Ce.s nh s.ce) s.ct (s.dn++[ub s.f.ev s.ce s.ct s.pl (.gS a)]) (.int (((if look s.f.ev a=.num 0 then (P9 rs s.pl).toNat else s.pl+1:Nat)):Int)) .aP) .aP:=hq;by_cases h:look s.f.ev a=.num 0;rw[if_pos h] at fg ⊢;rw[if_neg (by decide),n1];rw[n1] at fg;exact fg;rw[if_neg h] at fg ⊢;rw[if_pos rfl];exact fg
 |fail w=>exact⟨f8,_,rfl,.fail,_,most,.aP,_,_,_,_,_,w,_,_,rfl,rfl,hq _ _ _ _⟩
 |give a=>
   obtain⟨h0,h1⟩|⟨gs,g,c,x,y,as,h0,h1,h2,h3,h4⟩:=I.ca.inv
   have ed:cT rs (.give a) s=.inr (s.dn++[ub s.f.ev s.ce s.ct s.pl (.give a)],jL (look s.f.ev a)):=by unfold cT;dsimp only;rw[h1]
   rw[ed] at hq;exact⟨f2,_,rfl,.give,rs,most,.aP,s.fs,s.f,_,_,_,_,_,_,look s.f.ev a,rfl,ui,rfl,.inl ⟨h1,hq _ _ _ _⟩⟩;have ed:cT rs (.give a) s=.inl {fs:=gs,f:={g with ev:=g.ev.put x (look s.f.ev a)},ce:=s.ce,ct:=s.ct,dn:=s.dn++[ub s.f.ev s.ce s.ct s.pl (.give a)],pl:=c+1}:=by unfold cT;dsimp only;rw[h1,h0,N1];dsimp only;rw[h2,Tg]
   rw[ed] at hq;have hgl:g.ev.is.length<=1000000:=by have:=(I.fs g (by rw[h0];simp)).n;omega
   exact⟨f2,_,rfl,.give,rs,most,.aP,s.fs,s.f,_,_,_,_,_,_,look s.f.ev a,rfl,ui,rfl,.inr ⟨c,gs,g,_,x,h1,h0,⟨W.B,h2,rfl⟩,rfl,hgl,hq⟩⟩
 |call x g as=>
   obtain⟨p,ps,q1,q2,q3⟩:=W.D.ca s.pl x g as hr;have ef:=W.D.first q2
   have WL:=W.ok _ (iw q2);have ed:cT rs (.call x g as) s=.inl {fs:=s.fs++[s.f],f:=⟨some s.pl,cy ps (as.map (look s.f.ev)) ps.length⟩,ce:=s.ce,ct:=s.ct,dn:=s.dn++[ub s.f.ev s.ce s.ct s.pl (.call x g as)],pl:=p}:=by unfold cT;dsimp only;rw[ef];dsimp only;rw[q2]
   rw[ed] at hq;exact⟨f7,_,rfl,.call,rs,s.pl,p,x,g,as,g,ps,as.map (look s.f.ev),most,.aP,s.fs++[s.f],_,_,_,_,by rw[Eg];rfl,rfl,ef,q2,by have:=WL.1;omega,hfl,hq⟩
 |_=>cases hs
section
variable{cLayout cFrame ak:Addr}
abbrev tD:qai:=["machine","row","parts","used","made"]
theorem qa:az tD qaL (ai mT):=L2.gJ
theorem tE:(tD++(["part"]:qai)).Nodup:=by decide +kernel
theorem A1(D:Df K mg "done_row" mT qaL f fd)(M:MgS K mg)(M1:AR K ak)(M2:Fos w K mg)(C4:bU P w K mg base "operands" ["row"] 3 (c8 K 1 Fe))(C5:bU P w K mg base "value_of" qaG 2 (c8 K 2 (adB ak cFrame)))(Hx:bU P w K mg base "made_by" qaI 4 (c8 K 3 (Fp ak cFrame (NK.bu P w))))(dH:bU P w K mg base "follow_plain" qaJ 2 (jS K 3 (o7 ak cFrame cLayout)))(cN:bU P w K mg base "follow_name" qaJ 3 (jS K 3 (mU ak cFrame cLayout)))(A2:bU P w K mg base "follow_do" qaJ 4 (jS K 3 (WH ak cFrame cLayout)))(uJ:bU P w K mg base "follow_give" qaJ 4 (jS K 3 (C2 ak cFrame cLayout)))(yr:bU P w K mg base "follow_new" qaJ 4 (jS K 3 (L4 ak cFrame cLayout)))(yt:bU P w K mg base "follow_set" qaJ 4 (jS K 3 (L5 ak cFrame cLayout (NK.bu P w))))(uK:bU P w K mg base "follow_call" qaJ 4 (jS K 3 (C1 ak cFrame cLayout)))(uL:bU P w K mg base "follow_fail" qaJ 1 (jS K 3 (CZ ak cFrame cLayout)))(qu:bU P w K mg base "follow_choice" qaJ 2 (jS K 3 (yg ak cFrame cLayout))):bU P w K mg base "done_row" qaL 5 (jS K 1 (SR ak cFrame cLayout (NK.bu P w))):=by
 obtain⟨WS,SU,C6,C7,C8,C9⟩:=C4;obtain⟨WT,SV,C_,Dd,De,Dh⟩:=C5;obtain⟨Yv,WU,Hy,Hz,HA,HB⟩:=Hx;obtain⟨cZ,jN,dI,dJ,dM,dN⟩:=dH;obtain⟨cn,hY,cO,cP,cQ,cR⟩:=cN;obtain⟨iK,QY,A3,A4,A5,A6⟩:=A2;obtain⟨gd,Mj,uM,uN,uO,uP⟩:=uJ;obtain⟨gO,NX,yu,yw,yx,yy⟩:=yr;obtain⟨gP,NY,yz,yA,yB,yC⟩:=yt;obtain⟨gf,Ml,uQ,uR,uS,uT⟩:=uK;obtain⟨gg,Mm,uU,uV,uW,uX⟩:=uL;obtain⟨dh,HC,qv,qw,qx,qy⟩:=qu;refine D.g9 (IQ D.F qa rfl (by decide) λbz A outer s H E M0 oH hr us s0 q hG hl=>?_);obtain⟨AW,kO,yZ,a0,sX⟩:=M0;have m6:sX=0:=oH;subst m6;have nd:=qa.nd;have hu:=bA.gy hr;have ag:=M1;obtain⟨aF,f1,f2,f3,f4,f5,f6,f7,f8,f9,A7,e1,e2,e3,e4,e5,e6,e7,e8,e9,yD⟩:=M2.ex;cases dI.symm.trans e1;cases uM.symm.trans e2;cases cO.symm.trans e3;cases A3.symm.trans e4;cases yu.symm.trans e5;cases yz.symm.trans e6;cases uQ.symm.trans e7;cases uU.symm.trans e8;cases qv.symm.trans e9;have A8:∀f' G,IU ak cFrame cLayout (NK.bu P w) cZ gd cn iK gO gP gf gg dh f' G->PySem.W.keepIn K (.ref f')=true/\∃fd ps,Binds K fd ps []/\bY P w K mg base fG 4 f' fd ps (jS K 3 G):=by
  intro f' G h;cases h with
  |plain=>exact⟨dJ,_,_,dM,bY.up dN (by decide)⟩
  |give=>exact⟨uN,_,_,uO,bY.up uP (by decide)⟩
  |name=>exact⟨cP,_,_,cQ,bY.up cR (by decide)⟩
  |do_=>exact⟨A4,_,_,A5,bY.up A6 (by decide)⟩
  |new=>exact⟨yw,_,_,yx,bY.up yy (by decide)⟩
  |set=>exact⟨yA,_,_,yB,bY.up yC (by decide)⟩
  |call=>exact⟨uR,_,_,uS,bY.up uT (by decide)⟩
  |fail=>exact⟨uV,_,_,uW,bY.up uX (by decide)⟩
  |choice=>exact⟨qw,_,_,qx,bY.up qy (by decide)⟩
 refine⟨_,(cv (fq λ_=>(bq (i:=2) nd rfl (Or.inl rfl) (qau (jI (bK hu (qas (aC (aa 1) (qas af))) (qas aG)) (aC (aa 1) (qas af)) (aQ C9 (hr.mono (by decide)) (by rfl) C6 C7 C8 (ae (aq 1) ar)))) pS))
  (IM.weak (u:=(cutD ak cFrame cLayout a0 (NK.bu P w))) (cv (fq λ_=>(bq (i:=3) nd rfl (Or.inl rfl) (qau (dU iL j4 (by rfl) M.tuple lh (aA (qas (iB (ts:=["part"]) rfl (by rfl) (j5 (aq 2)) (λ_ _ _ _ _ _=>(bE (i:=5) tE rfl (Or.inl rfl) pS)) (λ_ _ _ _ _ _=>fm) (λ_ _ _ _ _ _=>(qat (aQ Dh (hr.mono (by decide)) (by rfl) C_ Dd De (ae (aq 0) (ae (aq 5) ar))))))) aK))) pS))
  (cv (fq λ_=>(bq (i:=4) nd rfl (Or.inl rfl) (qau (aQ HB (hr.mono (by decide)) (by rfl) Hy Hz HA (ae (aq 0) (ae (aq 1) (ae (aq 3) ar))))) pS))
  (cv (fq λ_=>(bt (VW.vc (fN (zF (qas (aZ ag.cl ag.yb (bJ (aa 0)))) (qas dA)) (eX (bK hu (qas (aC (qas (aZ ag.cl ag.yb (bJ (aa 0)))) (qas af))) (qas (aT aN aO (by rfl) M.len jW (aA (qas (aZ ag.cl ag.kN (bJ (aa 0)))) aK)))))))
   (aw (bq (i:=4) nd rfl (Or.inl rfl) (qau (aC (qas (aZ ag.cl ag.yb (bJ (aa 0)))) (qas af))) pS))
   aV))
  (cv (GP (kc ag.cl ag.kN (mj)) (λ_=>(qat (br (ae (qat (aZ ag.cl ag.cK (bJ (aa 0)))) (ae (aq 3) (ae (aq 4) ar)))))))
  (bN (KO A8 (hr.mono (by decide)) (λ_=>qat (K7 (by rfl) A7 yD (qas (aC (aa 1) (qas af))))) (λ_=>(ae (aq 1) (ae (aq 3) (ae (aq 4) ar)))) rfl)))))) ?w1)),?main⟩
 case w1=>
  rintro d ρ st ⟨rs,r,s,most,P',rfl,rfl,hP,W,I,c5,hs,WR,hq⟩;have IT:=W.ok r (iw c5);have oO:=Mi IT;have oL:=QW IT;have rd:=EK IT hs;have KC:bP (ub s.f.ev s.ce s.ct s.pl r)=true:=by unfold ub;have:=yq s r;simp only[bP] at this;simp only[bP,eD,this,xI,NI]
  have fol:∀x2:Option (T×Bool),fT (ada [("def",.ob cZ),("give",.ob gd),("put",.ob cn),("do",.ob iK),("new",.ob gO),("get",.ob cn),("set",.ob gP),("call",.ob gf),("fail",.ob gg),("if",.ob dh),("while",.ob dh)] (fT (f2 (zt 1) (fT (fC (.int 0))) ZW))) (NW a0 (NV ak cFrame cLayout (NK.bu P w) rs most s r) s r x2) λt=>∃f G,t=.ob f/\IU ak cFrame cLayout (NK.bu P w) cZ gd cn iK gO gP gf gg dh f G/\(eB (jR 1) (eB (jR 3) (eB (jR 4) qk))) (NW a0 (NV ak cFrame cLayout (NK.bu P w) rs most s r) s r x2) λus=>us.length=3/\G us (NV ak cFrame cLayout (NK.bu P w) rs most s r) λs' _=>d.nx (mi ⟨AW,kO,yZ,a0,0⟩ (NW a0 (NV ak cFrame cLayout (NK.bu P w) rs most s r) s r x2) s') s':=λx2=>by
   have Yn:A0 ak cFrame cLayout (NK.bu P w) rs most (λs'=>d.nx (mi ⟨AW,kO,yZ,a0,0⟩ (NW a0 (NV ak cFrame cLayout (NK.bu P w) rs most s r) s r x2) s') s') (cT rs r s):=by
    cases hd:cT rs r s with
    |inl s'=>rw[hd] at hq;exact hq _
    |inr R=>rw[hd] at hq;exact λfr ce ct pl=>hq fr ce ct pl _
   obtain⟨f',G,h1,h2,h3⟩:=WQ (q:=λs' _=>d.nx (mi ⟨AW,kO,yZ,a0,0⟩ (NW a0 (NV ak cFrame cLayout (NK.bu P w) rs most s r) s r x2) s') s') (f1:=cZ) (f2:=gd) (f3:=cn) (f4:=iK) (f5:=gO) (f6:=gP) (f7:=gf) (f8:=gg) (f9:=dh) W I c5 hs WR Yn;obtain⟨l,el⟩:=qO r;unfold NW at h3 ⊢;rw[el] at h3 ⊢;exact⟨_,ah (j:=0) rfl,_,h1,f',G,rfl,h2,rfl,h3⟩
  have adH:∀t,∀x∈NW a0 (NV ak cFrame cLayout (NK.bu P w) rs most s r) s r (jo (some (t,false))),gp x:=λt x hx=>by
   simp only[NW,c4,gD,or_false] at hx;obtain rfl|rfl|rfl|rfl|rfl:=hx
   trivial;exact WG (some (aW r));show gp (if bP t=true then some (t,false) else none);split;exact WG (some t);trivial;trivial;exact WG (some (mdT s r))
  rw[SQ,hU];obtain rfl|rfl:=hP
  refine⟨rfl,by rw[c3];exact cf (by omega),?_⟩;refine dG (f:=gF) (u:=λo=>vT (look s.f.ev o)) (λo ho k hk=>?_) ?_;exact⟨rfl,a0,_,_,_,s.fs,s.f,_,_,_,_,_,o,_,rfl,oO o ho,I.ev,by omega,hk⟩;refine⟨by rw[hU];rfl,rfl,a0,_,_,_,_,s.ce,s.ct,s.dn,s.pl,_,s.f.ev,r,_,rfl,rd,oO,I.ev,by rw[hU];rfl,?_⟩;refine⟨rfl,_,rfl,by rw[hU];rfl,?_⟩;refine⟨s.dn.map .lf,xJ,by rw[c3];omega,?_⟩;refine⟨rfl,_,rfl,cf (by simp),KC,qq rfl,?_⟩;refine yf (ρ':=NW a0 (NV ak cFrame cLayout (NK.bu P w) rs most s r) s r (jo (some (.tup ((gq r).map gF),false)))) Lw ?_ ?_;show [_,jo (some (aW r,false)),jo (some (_,false)),jo (some (usT s r,false)),jo (some (mdT s r,false))]=_;rw[eC (kh r),eC (yq s r),eC (xI _)];rfl;exact⟨adH _,fol _⟩;refine⟨rfl,by rw[c3];exact cf (by omega),?_⟩;refine dG (f:=gF) (u:=λo=>vT (look s.f.ev o)) (λo ho k hk=>?_) ?_;exact⟨rfl,a0,_,_,_,s.fs,s.f,_,_,_,_,_,o,_,rfl,oO o ho,I.ev,by omega,hk⟩;refine⟨by rw[hU];rfl,rfl,a0,_,_,_,_,s.ce,s.ct,s.dn,s.pl,_,s.f.ev,r,_,rfl,rd,oO,I.ev,by rw[hU];rfl,?_⟩;refine⟨rfl,_,rfl,by rw[hU];rfl,?_⟩;refine⟨s.dn.map .lf,xJ,by rw[c3];omega,?_⟩;refine⟨rfl,_,rfl,cf (by simp),KC,qq rfl,?_⟩;refine yf (ρ':=NW a0 (NV ak cFrame cLayout (NK.bu P w) rs most s r) s r (jo (some (.lst ((gq r).map gF),false)))) Lw ?_ ?_;show [_,jo (some (aW r,false)),jo (some (_,false)),jo (some (usT s r,false)),jo (some (mdT s r,false))]=_;rw[eC (kh r),eC (yq s r),eC (xI _)];rfl;exact⟨adH _,fol _⟩
 case main=>
  obtain⟨rs,r,s,most,rfl,rfl,W,I,c5,hs,WR,hq⟩:=hG;have IT:=W.ok r (iw c5);have Yn:A0 ak cFrame cLayout (NK.bu P w) rs most (λs'=>∀ρ':En,q s' .aP) (cT rs r s):=by
   cases hd:cT rs r s with
   |inl s'=>rw[hd] at hq;exact λ_=>hq
   |inr R=>rw[hd] at hq;exact λfr ce ct pl _=>hq fr ce ct pl
  cases r with
  |df f' ps=>exact⟨_,ah (j:=0) rfl,_,ah (j:=2) rfl,rfl,rs,_,s,most,_,rfl,rfl,.inl (by rw[gq,Eg];rfl),W,I,c5,hs,WR,Yn⟩
  |skip=>cases hs
  |mq=>cases hs
  |fin=>cases hs
  |_=>obtain⟨o1,o2⟩:=QX IT (λf ps z=>by cases z);exact⟨_,ah (j:=0) rfl,rfl,_,rfl,o2,rfl,rs,_,s,most,_,rfl,rfl,.inr (congrArg T.lst o1),W,I,c5,hs,WR,Yn⟩
abbrev Mn:qai:=qaL
theorem Fv:az Mn ["machine"] (ai ya):=L2.gJ
theorem QZ(D:Df K mg "step" ya ["machine"] f fd)(M:MgS K mg)(M1:AR K ak)(M2:Qg K cLayout)(jx:bU P w K mg base "row_behind" qaA 1 (c8 K 2 (Hj cLayout)))(Di:bU P w K mg base "done_row" qaL 5 (jS K 1 (SR ak cFrame cLayout (NK.bu P w)))):bU P w K mg base "step" ["machine"] 6 (jS K 0 (SS ak cFrame cLayout (NK.bu P w))):=by
 obtain⟨yh,uC,jy,jz,jA,jB⟩:=jx;obtain⟨WV,SW,Dj,Dl,Dm,Dn⟩:=Di;refine D.g9 (IQ D.F Fv rfl (by decide) λbz A outer s H E M0 oH hr us s0 q hG hl=>?_);obtain⟨AW,kO,yZ,a0,sX⟩:=M0;have m6:sX=0:=oH;subst m6;have nd:=Fv.nd;have ag:=M1;have ax:=M2;obtain⟨aS,mS,hS⟩:=M.WN;have Mo:∀{H':Hp}{pos},VP (gK fG P w K mg base Mn "step" (ai ya) f bz A outer s H E).qX ⟨H',[],yZ⟩ (.Name "SILENT" pos) (fC (.tup [.str "else",.str "end",.str "skip"])):=λ{H' pos}=>ji (by rfl) mS (v:=.ref aS) rfl λH A=>cA (hS H) (aB.cons dy (aB.cons dy (aB.cons dy aB.nil)));refine⟨_,(cv (fq λ_=>(bq (i:=1) nd rfl (Or.inl rfl) (qau (aC (qas (aZ ax.cl ax.di (qas (aZ ag.cl ag.fD (bJ (aa 0)))))) (qas (aZ ag.cl ag.cK (bJ (aa 0)))))) pS))
  (bN (vU (λ_=>(vP (qas (aC (aa 1) (qas af))) (qas Mo)))
   (bN (iP ag.cl ag.cK (λ_=>(qat (aQ jB (hr.mono (by decide)) (by rfl) jy jz jA (ae (qat (aZ ag.cl ag.fD (bJ (aa 0)))) (ae (qat (aZ ag.cl ag.cK (bJ (aa 0)))) ar))))) rfl))
   (bN (vU (λ_=>(ZV (qas (aT aN aO (by rfl) M.len jW (aA (qas (aZ ag.cl ag.kN (bJ (aa 0)))) aK))) (qas (aZ ag.cl ag.LY (bJ (aa 0))))))
    (bN (iP ag.cl ag.iJ (λ_=>(qat (br (ae (qat aG) (ae (qat af) ar))))) rfl))
    (bN (gN Dn (hr.mono (by decide)) (by rfl) Dj Dl Dm (λ_=>(ae (aq 1) ar)) rfl))))))),?_⟩
 obtain⟨rs,l,most,rfl,rfl,W,I,WR,hq⟩:=hG;obtain⟨r,c5⟩:∃r,rs[l.pl]?=some r:=⟨_,lT I.pl⟩;unfold i7 at hq;rw[c5] at hq;dsimp only at hq;rw[SQ,hU];refine⟨rfl,_,rfl,rfl,_,rfl,rfl,_,rfl,_,kn c5,by rw[hU];rfl,?_⟩;have ago:mB r=true->1<=dp (bw rs) l.pl:=λhs=>by
  obtain z|⟨f,ps,z⟩:=I.ins
  exact z;rw[c5] at z;cases z;cases hs
 have WW:mB r=true->q (du ak cFrame (cb cLayout rs) (most:Int) .aP (l.fs++[l.f]) (Ce.s (NK.bu P w) l.ce) l.ct l.dn (.int (Cz rs l.pl)) .aP) .aP:=λhs=>by obtain⟨k,h1,_,_,_⟩:=Md W.B c5 hs (ago hs);rw[if_pos hs] at hq;have fg:q (du ak cFrame (cb cLayout rs) (most:Int) .aP (l.fs++[l.f]) (Ce.s (NK.bu P w) l.ce) l.ct l.dn (.int (((Cz rs l.pl).toNat:Nat):Int)) .aP) .aP:=hq;rw[h1] at fg ⊢;exact fg
 have agp:mB r=false->(most:Int)<=(l.dn.length:Int)->q (du ak cFrame (cb cLayout rs) (most:Int) .aP (l.fs++[l.f]) (Ce.s (NK.bu P w) l.ce) l.ct l.dn (.int ((l.pl:Nat):Int)) eG) .aP:=λh1 h2=>by rw[if_neg (by rw[h1];exact jb),if_pos (by omega)] at hq;exact hq _ _ _ _
 have adI:mB r=false->¬ (most:Int)<=(l.dn.length:Int)->A0 ak cFrame cLayout (NK.bu P w) rs most (λs'=>q s' .aP) (cT rs r l):=λh1 h2=>by rw[if_neg (by rw[h1];exact jb),if_neg (by omega)] at hq;exact hq
 cases r with
 |skip=>exact⟨_,ah (j:=0) rfl,rfl,rfl,rfl,_,rfl,rfl,_,rfl,rfl,rs,l.pl,.skip,rfl,W.B,c5,rfl,qq rfl,_,_,7,_,rfl,(by show 9<1000;decide),rfl,rfl,WW rfl⟩
 |mq=>exact⟨_,ah (j:=0) rfl,rfl,rfl,rfl,_,rfl,rfl,_,rfl,rfl,rs,l.pl,.mq,rfl,W.B,c5,rfl,qq rfl,_,_,7,_,rfl,(by show 9<1000;decide),rfl,rfl,WW rfl⟩
 |fin=>exact⟨_,ah (j:=0) rfl,rfl,rfl,rfl,_,rfl,rfl,_,rfl,rfl,rs,l.pl,.fin,rfl,W.B,c5,rfl,qq rfl,_,_,7,_,rfl,(by show 9<1000;decide),rfl,rfl,WW rfl⟩
 |_=>refine⟨_,ah (j:=0) rfl,rfl,rfl,rfl,_,rfl,rfl,_,rfl,cX (λh=>?_) (λh=>?_)⟩;have h':(most:Int)<=(l.dn.length:Int):=h;refine⟨cf (by simp),rfl,qq rfl,_,_,8,_,rfl,(by show 9<1000;decide),rfl,rfl,?_⟩;exact agp rfl h';have h':¬ (most:Int)<=(l.dn.length:Int):=h;exact⟨qq rfl,rfl,rs,_,l,most,rfl,rfl,W,I,c5,rfl,WR,adI rfl h'⟩
end
theorem Mp(e:Ev)(ce:Ce)(c:Ct)(p:Nat)(r:Rw):bP (ub e ce c p r)=true:=by unfold ub;have:eD ((gq r).map λo=>vT (look e o))=true:=fA (f:=λo=>vT (look e o)) (λo=>e_ _) _;simp only[bP,eD,this,xI,NI]
theorem tF:∀{a b:qaj},eD a=true->eD b=true->eD (a++b)=true
 |[],b,_,h=>h
 |t::a,b,h1,h2=>by simp only[eD,m9] at h1;simp only[RF,eD,h1.1,tF h1.2 h2,NI]
def uY(t:T):Prop:=(∃v,t=jL v)\/t=sH\/t=eG\/∃w,t=wc w
theorem uY.bP{t:T}(h:uY t):bP t=true/\r0 t=false:=by
 obtain⟨v,rfl⟩|rfl|rfl|⟨w,rfl⟩:=h
 exact⟨by unfold jL;simp only[VT.bP,eD,e_];rfl,rfl⟩;exact⟨rfl,rfl⟩;exact⟨rfl,rfl⟩;exact⟨rfl,rfl⟩
section
theorem gh(W:Wl rs){s:Lv}(I:qU rs s)(hr:rs[s.pl]?=some r)(hs:mB r=false):match cT rs r s with
  |.inl s'=>s'.dn=s.dn++[ub s.f.ev s.ce s.ct s.pl r]
  |.inr R=>R.1=s.dn++[ub s.f.ev s.ce s.ct s.pl r]/\uY R.2/\R.2≠eG:=by
 cases r with
 |df f ps=>exact rfl
 |put x a=>exact rfl
 |get x y k=>exact rfl
 |set y k a=>exact rfl
 |new x=>exact rfl
 |mn a=>exact rfl
 |gS a=>exact rfl
 |fail w=>exact⟨rfl,.inr (.inr (.inr ⟨w,rfl⟩)),by unfold wc eG;intro e;injection e with e;injection e with e1 _;injection e1 with e1;exact absurd e1 (by decide +kernel)⟩
 |m8 x a op b=>
   unfold cT;dsimp only;cases CC op (look s.f.ev a) (look s.f.ev b) with
   |none=>exact⟨rfl,.inr (.inl rfl),by unfold sH eG;intro e;injection e with e;injection e with e1 _;injection e1 with e1;exact absurd e1 (by decide +kernel)⟩
   |some v=>exact rfl
 |give a=>
   obtain⟨h0,h1⟩|⟨gs,g,c,x,y,as,h0,h1,h2,h3,h4⟩:=I.ca.inv
   unfold cT;dsimp only;rw[h1];exact⟨rfl,.inl ⟨_,rfl⟩,by unfold jL eG;intro e;injection e with e;injection e with e1 _;injection e1 with e1;exact absurd e1 (by decide +kernel)⟩;unfold cT;dsimp only;rw[h1,h0,N1];dsimp only;rw[h2]
 |call x g as=>obtain⟨p,ps,q1,q2,q3⟩:=W.D.ca s.pl x g as hr;unfold cT;dsimp only;rw[W.D.first q2];dsimp only;rw[q2]
 |_=>cases hs
theorem cS(W:Wl rs){s:Lv}(I:qU rs s):(∃s',qU rs s'/\s'.dn=s.dn/\∀most,i7 rs most s=.inl s')\/∃r,rs[s.pl]?=some r/\mB r=false/\∀most,i7 rs most s=if most<=s.dn.length then .inr (s.dn,eG) else cT rs r s:=by
 obtain⟨r,hr⟩:∃r,rs[s.pl]?=some r:=⟨_,lT I.pl⟩;by_cases hs:mB r=true
 left
 rcases tu W I (most:=0) with⟨s',h1,h2,h3⟩|⟨R,h⟩
 unfold i7 at h1;rw[hr] at h1;dsimp only at h1;rw[if_pos hs] at h1;cases h1;exact⟨_,h2,rfl,λmost=>by unfold i7;rw[hr];dsimp only;rw[if_pos hs]⟩;unfold i7 at h;rw[hr] at h;dsimp only at h;rw[if_pos hs] at h;cases h;exact .inr ⟨r,hr,by simpa using hs,λmost=>by unfold i7;rw[hr];dsimp only;rw[if_neg hs]⟩
theorem qV.det:∀{n m:Nat}{s:Lv}{R R':Res},qV rs most n s R->qV rs most m s R'->R=R':=by
 intro n m s R R' h;induction h generalizing m R' with
 |fin h=>
  intro h';cases h' with
  |fin h2=>rw[h] at h2;exact Sum.inr.inj h2
  |go h2 k=>rw[h] at h2;cases h2
 |go h k ih=>
  intro h';cases h' with
  |fin h2=>rw[h] at h2;cases h2
  |go h2 k2=>rw[h] at h2;cases h2;exact ih k2
theorem qV.tells(W:Wl rs){s:Lv}{R:Res}(h:qV rs most n s R):qU rs s->eD s.dn=true->s.dn.length<=most->eD R.1=true/\uY R.2/\R.1.length<=most/\(R.2=eG->R.1.length=most)/\∃l,R.1=s.dn++l:=by
 induction h with
 |@fin s R h=>
  intro I hi hl;rcases cS W I with⟨s',_,_,h2⟩|⟨r,hr,hs,h2⟩
  rw[h2] at h;cases h;rw[h2] at h;split at h
  rename_i hm
  cases h;exact⟨hi,.inr (.inr (.inl rfl)),hl,λ_=>by show s.dn.length=most;omega,[],by simp⟩;have:=gh W I hr hs;rw[h] at this;obtain⟨e1,e2,e3⟩:=this;rw[e1];exact⟨tF hi (by simp only[eD,Mp,NI]),e2,by simp;omega,λz=>absurd z e3,_,rfl⟩
 |@go n s s' R h k ih=>
  intro I hi hl;rcases cS W I with⟨s2,I2,e2,h2⟩|⟨r,hr,hs,h2⟩
  rw[h2] at h;cases h;have:=ih I2 (by rw[e2];exact hi) (by rw[e2];exact hl);rw[e2] at this;exact this;rw[h2] at h;split at h;cases h;have e:=gh W I hr hs;rw[h] at e;have e':s'.dn=_:=e;rcases i_ W I hr hs with⟨s3,h3,I3,_⟩|⟨R3,h3⟩
  rw[h] at h3;cases h3;obtain⟨g1,g2,g3,g4,l,g5⟩:=ih I3 (by rw[e'];exact tF hi (by simp only[eD,Mp,NI])) (by rw[e'];simp;omega);exact⟨g1,g2,g3,g4,ub s.f.ev s.ce s.ct s.pl r::l,by rw[g5,e'];simp⟩;rw[h] at h3;cases h3
theorem qV.grow(W:Wl rs){s:Lv}{R:Res}(h:qV rs most n s R):qU rs s->∃l,R.1=s.dn++l:=by
 induction h with
 |@fin s R h=>
  intro I;rcases cS W I with⟨s',_,_,h2⟩|⟨r,hr,hs,h2⟩
  rw[h2] at h;cases h;rw[h2] at h;split at h;cases h;exact⟨[],by simp⟩;have:=gh W I hr hs;rw[h] at this;exact⟨_,this.1⟩
 |@go n s s' R h k ih=>
  intro I;rcases cS W I with⟨s2,I2,e2,h2⟩|⟨r,hr,hs,h2⟩
  rw[h2] at h;cases h;have:=ih I2;rw[e2] at this;exact this;rw[h2] at h;split at h;cases h;have e:=gh W I hr hs;rw[h] at e;have e':s'.dn=_:=e;rcases i_ W I hr hs with⟨s3,h3,I3,_⟩|⟨R3,h3⟩
  rw[h] at h3;cases h3;obtain⟨l,g5⟩:=ih I3;exact⟨ub s.f.ev s.ce s.ct s.pl r::l,by rw[g5,e'];simp⟩;rw[h] at h3;cases h3
theorem qV.more(W:Wl rs){o:Nat}{s:Lv}{R:Res}(h:qV rs most n s R):qU rs s->s.dn.length<=most->R.2≠eG->R.1.length<=o->qV rs o n s R:=by
 induction h with
 |@fin s R h=>
  intro I hl hc ho;rcases cS W I with⟨s',_,_,h2⟩|⟨r,hr,hs,h2⟩
  rw[h2] at h;cases h;rw[h2] at h;split at h;cases h;exact absurd rfl hc;have:=gh W I hr hs;rw[h] at this;refine .fin ?_;rw[h2,if_neg ?_];exact h;have e:=this.1;rw[e] at ho;simp at ho;omega
 |@go n s s' R h k ih=>
  intro I hl hc ho;rcases cS W I with⟨s2,I2,e2,h2⟩|⟨r,hr,hs,h2⟩
  rw[h2] at h;cases h;exact .go (h2 o) (ih I2 (by rw[e2];exact hl) hc ho);rw[h2] at h;split at h;cases h;have e:=gh W I hr hs;rw[h] at e;have e':s'.dn=_:=e;rcases i_ W I hr hs with⟨s3,h3,I3,hl3⟩|⟨R3,h3⟩
  rw[h] at h3;cases h3;obtain⟨l,g5⟩:=k.grow W I3;have F_:s.dn.length<o:=by rw[g5,pH] at ho;omega
  exact .go (by rw[h2,if_neg (by omega)];exact h) (ih I3 (by omega) hc ho);rw[h] at h3;cases h3
theorem qV.less(W:Wl rs){o:Nat}{s:Lv}{R:Res}(h:qV rs most n s R):qU rs s->s.dn.length<=o->o<R.1.length->∃n',qV rs o n' s (R.1.take o,eG):=by
 induction h with
 |@fin s R h=>
  intro I hl ho;rcases cS W I with⟨s',_,_,h2⟩|⟨r,hr,hs,h2⟩
  rw[h2] at h;cases h;rw[h2] at h;split at h;cases h;have jP:o<s.dn.length:=ho;omega;have:=gh W I hr hs;rw[h] at this;have e:=this.1;rw[e] at ho ⊢;simp at ho;have eo:o=s.dn.length:=by omega
  subst eo;exact⟨0,.fin (by rw[h2,if_pos (c_ _),List.take_left])⟩
 |@go n s s' R h k ih=>
  intro I hl ho;rcases cS W I with⟨s2,I2,e2,h2⟩|⟨r,hr,hs,h2⟩
  rw[h2] at h;cases h;obtain⟨n',hn⟩:=ih I2 (by rw[e2];exact hl) ho;exact⟨n'+1,.go (h2 o) hn⟩;rw[h2] at h;split at h;cases h;have e:=gh W I hr hs;rw[h] at e;have e':s'.dn=_:=e;rcases i_ W I hr hs with⟨s3,h3,I3,hl3⟩|⟨R3,h3⟩
  rw[h] at h3;cases h3;by_cases eo:o=s.dn.length;subst eo;obtain⟨l,g5⟩:=k.grow W I3;refine⟨0,.fin ?_⟩;rw[h2,if_pos (c_ _),g5,e',Ti,List.take_left];obtain⟨n',hn⟩:=ih I3 (by omega) ho;exact⟨n'+1,.go (by rw[h2,if_neg (by omega)];exact h) hn⟩;rw[h] at h3;cases h3
theorem qV.ext(W:Wl rs){o n':Nat}{s:Lv}{R R':Res}(I:qU rs s)(hi:eD s.dn=true)(hl:s.dn.length<=most)(ho:most<=o)(h:qV rs most n s R)(hc:R.2=eG)(h':qV rs o n' s R'):∃l,R'.1=R.1++l:=by
 obtain⟨_,_,g3,g4,_⟩:=h.tells W I hi hl;obtain⟨_,_,k3,k4,_⟩:=h'.tells W I hi (by omega);have e:=g4 hc;by_cases hm:most<R'.1.length;obtain⟨m,hm'⟩:=h'.less W I hl hm;have:=h.det hm';rw[this];exact⟨R'.1.drop most,(ab6 most R'.1).symm⟩;by_cases m4:R'.2=eG;have:=k4 m4;have eo:o=most:=by omega
 subst eo;rw[h.det h'];exact⟨[],by simp⟩;have:=h.det (h'.more W I (by omega) m4 (by omega));rw[this];exact⟨[],by simp⟩
end
end Rg
namespace Rg
open PySem L2 VT Gen K5 Lay
open ki (Hn Vl vT nm eF RI)
def Dp(ins:qan):List Vl:=ins.map λi=>.num (eF i)
def Yw(a:Nat)(ps:qai)(ins:qan):Lv:=⟨[],⟨none,cy ps (Dp ins) ps.length⟩,⟨[],[]⟩,⟨[],[]⟩,[],a⟩
inductive gG(rs:qal)(ins:qan)(most:Nat):Res->Prop where
 |bare (h:fB rs=none):gG rs ins most ([],jL (.num 0))
 |oP {a n:Nat} {f:Str} {ps:qai} {R:Res} (h:fB rs=some a) (hd:rs[a]?=some (.df f ps)) (k:qV rs most n (Yw a ps ins) R):gG rs ins most R
def gPk(ts:qaj)(q:qaj->T->Prop):Prop:=∃rs ins most R,ts=[.lst (rs.map aW),.lst (ins.map .int),.int ((most:Nat):Int),.aP]/\Wl rs/\ins.length<=100/\most<=900/\gG rs ins most R/\q R.1 R.2
theorem yE(W:Wl rs){a:Nat}{f:Str}(hd:rs[a]?=some (.df f ps))(ins:qan):qU rs (Yw a ps ins):=by have WL:=W.ok _ (iw hd);refine⟨(eW.mp hd).1,.inr ⟨f,ps,hd⟩,?_,(λg hg=>nomatch hg),c_ _,⟨c_ _,(λv hv=>nomatch hv)⟩,c_ _,.main rfl⟩;refine (yp ps _ (λv hv=>?_) ps.length).up (by have:=WL.1;show _<=100+0;omega);obtain⟨i,_,rfl⟩:=vz.mp hv;exact Rg.Lo i
def adJ(P:Program)(w:World)(K:qaf)(mg:qae)(base:Heap)(C:Addr)(GL:qaj->(T->Prop)->Prop)(k:Nat):Prop :=
 ∃f fd,Mk K C f/\mg "Machine"=some (.ref C)/\Binds K fd qav []/\bY P w K mg base fG k f fd qav (spK K C (.dc (NK.bu P w) [] []) GL)
def Yx(a:Addr)(most:Nat)(m:T)(s:S):En:=[none,none,some (.int (most:Int),false),some (.aP,false),some (.pin a s.t,false),some (m,false)]
section
variable{cLayout cFrame ak:Addr}
abbrev HF:qai:=qav
theorem Dq:az HF qav (ai i8):=L2.gJ
theorem Dr(D:Dc K mg "Machine" "Machine.__init__" i8 qav ak f fd)(L:AR K ak)(Mq:Kr P w K mg base "Layout" cLayout qaz 2 1 (nR cLayout)):adJ P w K mg base ak (nR cLayout) 4:=by obtain⟨adK,Yy,Mr,Ms,Mt,Mu⟩:=Mq;exact⟨f,fd,D.M,D.m,D.b,fnK D.F Dq rfl λbz A outer s H E hr=>KQ (.inr ⟨_,rfl⟩) Mr Mu (hr.mono (by decide)) (by rfl) Ms Mt L.cl L.fD L.LY L.yb L.kM L.yc L.nW L.kN L.cK L.iJ⟩
abbrev kU:qai:=["program","inputs","most","poke","machine","main"]
theorem nY:az kU qaM (ai iI):=L2.gJ
theorem qz:(kU++(["number"]:qai)).Nodup:=by decide +kernel
theorem yF(D:Df K mg "run_poked" iI qaM f fd)(ag:AR K ak)(ax:Qg K cLayout)(HG:adJ P w K mg base ak (nR cLayout) 4)(yl:bU P w K mg base "enter" qaK 3 (jS K 3 (C0 ak cFrame cLayout)))(LR:bU P w K mg base "fit" qaB 1 (c8 K 1 Hn))(WX:bU P w K mg base "step" ["machine"] 6 (jS K 0 (SS ak cFrame cLayout (NK.bu P w)))) :
  bU P w K mg base "run_poked" qaM 7 (Yf K 4 gPk):=by
 obtain⟨Yz,WY,HH,HI,HJ,HK⟩:=HG;obtain⟨QT,Mb,ym,k_enter,yn,yo⟩:=yl;obtain⟨ady,Wm,LS,LU,LV,LW⟩:=LR;obtain⟨agq,ae3,WZ,W0,W2,W3⟩:=WX;refine D.g9 (fnR (GL:=nR cLayout) (cz:=.dc (NK.bu P w) [] []) (j:=4) (C:=ak) D.F nY rfl (by decide) λbz A outer s H E hr t0 t1 t2 t3 q hG=>?_);have nd:=nY.nd;obtain⟨rs,ins,most,R,et,W,Cf,W4,hR,hq⟩:=hG;cases et;refine⟨_,λL=>L=cb cLayout rs,KW (X:=(gK fG P w K mg base kU "run_poked" (ai iI) f bz A outer s H E).qX) (k:=4) nd rfl (Or.inl rfl) HH HK (hr.mono (by decide)) (by rfl) HI HJ (λH0 vK Ox a=>(sC (fq λ_=>(bq (i:=5) nd rfl (Or.inl rfl) (qau (aZ ax.cl ax.LD (qas (aZ ag.cl ag.fD (bJ (aa 4)))))) pS))
   (sC (vU (λ_=>(zE (aa 5) (qas dA)))
     (bN (iP ag.cl ag.iJ (λ_=>(qat (br (ae (qat aG) (ae (qat af) ar))))) rfl))
     (bN (gN yo (hr.mono (by decide)) (by rfl) ym k_enter yn (λ_=>(ae (aq 5) (ae (qat dA) (ae (qat (iB (ts:=qaB) rfl (by rfl) (j5 (aq 1)) (λ_ _ _ _ _ _=>(bE (i:=6) qz rfl (Or.inl rfl) pS)) (λ_ _ _ _ _ _=>fm) (λ_ _ _ _ _ _=>(qat (aQ LW (hr.mono (by decide)) (by rfl) LS LU LV (ae (aq 6) ar)))))) ar)))) rfl)))
   (sC (KL N3 (λ_=>(zE (qas (aZ ag.cl ag.iJ (bJ (aa 4)))) (qas dA)))
     (bN (gN W3 (hr.mono (by decide)) (by rfl) WZ W0 W2 (λ_=>ar) rfl)))
   (PK (kc ag.cl ag.kN (mj)) (λ_=>(qat (aZ ag.cl ag.iJ (bJ (aa 4)))))))))),by decide,rfl,rfl,⟨rs,rfl,W.B.W,W.n,rfl⟩,?_⟩
 rintro L rfl H0 vK Ox a;show Su _ _ _ _ [some (.lst (rs.map aW),false),some (.lst (ins.map .int),false),some (.int (most:Int),false),some (.aP,false),some (.pin a (du ak cFrame (cb cLayout rs) most .aP [] (.dc (NK.bu P w) [] []) ⟨[],[]⟩ [] .aP .aP).t,false),none] (du ak cFrame (cb cLayout rs) most .aP [] (.dc (NK.bu P w) [] []) ⟨[],[]⟩ [] .aP .aP);rw[hU];refine⟨rfl,_,rfl,rfl,_,rfl,by rw[hU];rfl,?_⟩;cases hR with
 |bare h=>rw[h];refine⟨cf (by simp),rfl,qq rfl,_,_,8,_,rfl,(by show 9<1000;decide),rfl,rfl,?_⟩;refine⟨λ_ ρ s=>ρ=Yx a most .aP s/\s=du ak cFrame (cb cLayout rs) most .aP [] (.dc (NK.bu P w) [] []) ⟨[],[]⟩ [] .aP (jL (.num 0)),⟨0,rfl,rfl⟩,?_⟩;rintro m ρ s ⟨rfl,rfl⟩;unfold Yx;rw[hU];refine⟨rfl,_,rfl,?_⟩;exact⟨[],xJ,rfl,rfl,_,rfl,rfl,hq⟩
 |@oP a' n f' ps R' h hd k0=>
   rw[h];have WL:=W.ok _ (iw hd);have I0:=yE W hd ins;obtain⟨t1,t2,_⟩:=k0.tells W I0 rfl (jU _);obtain⟨t3,hN⟩:=t2.bP;refine⟨qq rfl,rfl,cf (by rw[c3];omega),?_⟩;refine dG (f:=T.int) (u:=λi=>.int (eF i)) (λi _ k hk=>⟨rfl,i,rfl,hk⟩) ?_;refine⟨rfl,rs,a',f',ps,Dp ins,most,.aP,[],_,_,_,_,none,_,rfl,.inl (by unfold Dp;rw[Eg];rfl),rfl,hd,by have:=WL.1;omega,by decide,?_⟩;refine⟨λm ρ s=>(∃l,ρ=Yx a most (.int ((a':Nat):Int)) s/\s=SQ ak cFrame cLayout (NK.bu P w) rs most l/\qU rs l/\l.dn.length<=most/\∃m',m=m'+1/\qV rs most m' l R)\/(∃fr ce ct pl,ρ=Yx a most (.int ((a':Nat):Int)) s/\s=du ak cFrame (cb cLayout rs) most .aP fr ce ct R.1 pl R.2/\m=0),
    ⟨_,.inl ⟨Yw a' ps ins,rfl,rfl,I0,jU _,n,rfl,k0⟩⟩,?_⟩
   rintro m ρ s (⟨l,rfl,rfl,I,hl,m',rfl,hk⟩|⟨fr,ce,ct,pl,rfl,rfl,rfl⟩);unfold Yx SQ;rw[hU];refine⟨rfl,_,rfl,?_⟩;refine⟨qq rfl,rfl,rs,l,most,rfl,rfl,W,I,by omega,?_⟩;cases hk with
   |fin h2=>rw[h2];exact λfr ce ct pl=>⟨0,by omega,.inr ⟨fr,ce,ct,pl,rfl,rfl,rfl⟩⟩
   |@go n' _ s' _ h2 k2=>
     have hs:qU rs s'/\s'.dn.length<=most:=by
      rcases tu W I (most:=most) with⟨s3,h3,I3,h4⟩|⟨R3,h3⟩
      rw[h2] at h3;cases h3;refine⟨I3,?_⟩;obtain⟨e1,e2⟩|⟨e1,_⟩:=h4
      omega;rw[e1];exact hl;rw[h2] at h3;cases h3
     rw[h2];exact⟨n'+1,by omega,.inl ⟨s',rfl,rfl,hs.1,hs.2,n',rfl,k2⟩⟩
   unfold Yx;rw[hU];refine⟨rfl,_,rfl,?_⟩;refine fR (c:=r0 R.2) hN ?_;exact⟨R.1,xJ,t1,rfl,_,rfl,t3,hq⟩
abbrev adL:qai:=qaN
theorem W5:az adL qaN (ai hX):=L2.gJ
def adM(ts:qaj)(q:qaj->T->Prop):Prop:=∃rs ins most R,ts=[.lst (rs.map aW),.lst (ins.map .int),.int ((most:Nat):Int)]/\Wl rs/\ins.length<=100/\most<=900/\gG rs ins most R/\q R.1 R.2
def W6(P:Program)(w:World)(K:qaf)(mg:qae)(base:Heap):Prop :=
 ∃f fd tk,mg "run"=some (.ref f)/\PySem.W.keepIn K (.ref f)=true/\Binds K fd qaN []/\Binds K fd qaN [.int 200 tk]/\bY P w K mg base fG 8 f fd qaN (Yf K 3 adM)
theorem W7{tk:Tok}(F:KZ K "run" "run" hX f fd)(m:mg "run"=some (.ref f))(b:Binds K fd qaN [])(b2:Binds K fd qaN [.int 200 tk])(A9:bU P w K mg base "run_poked" qaM 7 (Yf K 4 gPk)):W6 P w K mg base:=by obtain⟨SX,Q0,A_,Ba,Bb,Bc⟩:=A9;refine⟨f,fd,tk,m,F.kp,b,b2,agd F W5 rfl (by decide) λbz A outer s H E Ox hr ts q hG hl=>?_⟩;obtain⟨rs,ins,most,R,rfl,W,Cf,W4,hR,hq⟩:=hG;exact⟨_,_,_,rfl,kg Bc (hr.mono (by decide)) (by rfl) A_ Ba Bb .nil (dts:=[]) (λ_ _=>aB.nil) (ae (aq 0) (ae (aq 1) (ae (aq 2) (ae (qat dA) ar)))),rfl,rs,ins,most,R,rfl,W,Cf,W4,hR,hq⟩
end
end Rg
namespace W8
open PySem L2 VT Gen
open pN (bT Gk d_)
def one(c:Nat):Str:=⟨#[c]⟩
theorem empty_eq:(("":String):Str)=⟨#[]⟩:=by decide +kernel
theorem glue:∀l:qao,Txt.join "" (l.map one)=⟨l.toArray⟩
 |[]=>by decide +kernel
 |c::l=>by
  have ih:=glue l;unfold Txt.join at ih ⊢;rw[StrLaws.glued_eq_join] at ih ⊢;cases l with
  |nil=>rfl
  |cons d l=>rw[ix,ix];show one c++(("":String):Str)++Str.join _ (one d::l.map one)=_;rw[ix] at ih;rw[ih,empty_eq];show (⟨(#[c]++#[])++(d::l).toArray⟩:Str)=_;simp
def bL(n:Int)(j:Nat):Nat:=ux (n / (7 * (j:Int)+3))
def fK(n:Int):qai:=(List.range 8).map λj=>one (bL n j)
def W9(n:Int)(k:Nat):Str:=⟨((List.range (k+1)).map (bL n)).toArray⟩
def uZ(n:Int)(p k j:Nat):Nat:=if j=p then ux (n / 5+(k:Int)) else bL n j
def alt(n:Int)(sz p k:Nat):Str:=⟨((List.range sz).map (uZ n p k)).toArray⟩
structure yG(m:Nat)(ys:qai):Prop where
 l:ys.length=m
 nd:ys.Nodup
 nm:∀y∈ys,d_ y=true
theorem tG(n:Int):(fK n).length=8:=by simp[fK]
theorem Bd(l:qao)(h1:1<=l.length)(h8:l.length<=8)(h:∀c∈l,Gk c=true):d_ ⟨l.toArray⟩=true:=by
 unfold d_;have e:(⟨l.toArray⟩:Str).length=l.length:=by simp[Str.length]
 rw[e,decide_eq_true (by omega),decide_eq_true (by omega),YX,YX];exact Tn.mpr h
theorem W_(n:Int)(hm:m<=8):yG m ((List.range m).map (W9 n)):=by
 refine⟨by simp,?_,λy hy=>?_⟩;rw[List.Nodup,List.pairwise_map];refine List.Pairwise.imp_of_mem ?_ (List.nodup_range (n:=m));intro i j hi hj ik e;have e2:(W9 n i).length=(W9 n j).length:=by rw[e]
 simp[W9,Str.length] at e2;exact ik e2;obtain⟨k,hk,rfl⟩:=vz.mp hy;have zX:=Ef.mp hk;refine Bd _ (by simp) (by simp;omega) λc hc=>?_;obtain⟨j,_,rfl⟩:=vz.mp hc;exact E4 _
theorem W'(n:Int){sz p:Nat}(h1:1<=sz)(h8:sz<=8)(hp:p<sz)(hm:m<=26):yG m ((List.range m).map (alt n sz p)):=by
 refine⟨by simp,?_,λy hy=>?_⟩;rw[List.Nodup,List.pairwise_map];refine List.Pairwise.imp_of_mem ?_ (List.nodup_range (n:=m));intro i j hi hj ik e;have Jz:=Ef.mp hi;have IK:=Ef.mp hj;have h2:(List.range sz).map (uZ n p i)=(List.range sz).map (uZ n p j):=by have:=congrArg (λy:Str=>y.cps.toList) e;exact this
 have h3:=congrArg (λl:qao=>l[p]?) h2;simp only[ie,N0 hp,X2,Option.some.injEq,uZ,if_true] at h3;have h4:=K_ h3;omega;obtain⟨k,hk,rfl⟩:=vz.mp hy;refine Bd _ (by simp;omega) (by simp;omega) λc hc=>?_;obtain⟨j,_,rfl⟩:=vz.mp hc;unfold uZ;split<;>exact E4 _
theorem wt(n:Int){k:Nat}(hk:k<=8):(fK n).take k=((List.range k).map (bL n)).map one:=by unfold fK;rw[<- List.map_take,List.take_range,YU hk,Eg];rfl
theorem Mv(n:Int){sz p k:Nat}(hsz:sz<=8)(hp:p<sz):((fK n).take sz).set p (one (ux (n / 5+(k:Int))))=((List.range sz).map (uZ n p k)).map one:=by
 rw[wt n hsz,Eg,Eg];refine RE λi=>?_;rw[YR,ie,ie];by_cases hi:i<sz;rw[N0 hi];by_cases e:p=i;subst e;rw[if_pos rfl,if_pos (by simpa using hp)];simp[uZ];rw[if_neg e];have:¬ i=p:=λz=>e z.symm;simp[uZ,this];rw[NA (by simp;omega)];split;split
 rename_i h1 h2;omega
 rfl;rfl
end W8
namespace eV
open PySem L2 VT Gen W8
open pN (bT)
def top(i:Nat):Stmt:=PySem.Challenge.pw_slicewise_k16_cut_anywhere.main.body.getD i (.Pass ⟨0,0,0,0⟩)
abbrev pf:Stmt:=top 54
abbrev yH:Stmt:=top 55
abbrev tI:Stmt:=top 56
abbrev ph:Stmt:=top 57
abbrev Mw:Stmt:=top 58
abbrev tJ:Stmt:=top 59
structure Mg(mg:qae):Prop where
 len:mg "len"=none
 range:mg "range"=none
 tuple:mg "tuple"=none
theorem cf(h:n<=1000):n<=sizeLine:=Gen.small h
abbrev gC(ys:qai):T:=.lst (ys.map .str)
def jC(pl:Plan):T:=.lst (pl.map λp=>.tup [.str p.1,.int (p.2.length:Int)])
def NZ(n:Int):Prop:=0<=n/\n<2147483648
theorem NZ.div{n:Int}(h:NZ n){e:Int}(he:0<e):NZ (n / e):=⟨Int.ediv_nonneg h.1 (by omega),Int.lt_of_le_of_lt (Int.ediv_le_self _ h.1) h.2⟩
structure Ys(ys:qai):Prop where
 l3:3<=ys.length
 l8:ys.length<=8
 sm:∀y∈ys,y.length<=100
theorem Ys.at(h:Ys ys)(n:Int):∃y∈ys,jQ (ys.map T.str) (n % ((ys.map T.str).length:Int))=some (T.str y):=by
 have e:((ys.map T.str).length:Int)=(ys.length:Int):=by rw[c3]
 have l3:=h.l3;have h0:0<=n % ((ys.map T.str).length:Int):=qg n (by omega);have h1:n % ((ys.map T.str).length:Int)<ys.length:=by rw[e];exact qf n (by omega)
 obtain⟨j,hj⟩:=FC h0;have k7:j<ys.length:=by omega
 refine⟨ys[j],XY k7,?_⟩;rw[hj];refine ah ?_;rw[ie,lT k7];rfl
theorem Ys.two(h:Ys ys)(n:Int):∃y∈ys,jQ (ys.map T.str) (n % 2)=some (T.str y):=by
 have l3:=h.l3;have h0:0<=n % 2:=qg n (by decide);have h1:n % 2<2:=qf n (by decide);obtain⟨j,hj⟩:=FC h0;have k7:j<ys.length:=by omega
 refine⟨ys[j],XY k7,?_⟩;rw[hj];refine ah ?_;rw[ie,lT k7];rfl
theorem Ys.pos(h:Ys ys):(0:Int)<((ys.map T.str).length:Int):=by rw[c3];have:=h.l3;omega
def Mx(ts:qaj)(q:qam):Prop:=∃(ns:qan)(j:Nat),ts=[.lst (ns.map .int),.int (j:Int)]/\q (.vw (.int (ns.getD j 0)))
def Dt(ts:qaj)(q:qam):Prop:=∃(c:Int)(m:Nat),ts=[.int c,.int (m:Int)]/\m<=8/\∀ys,yG m ys->q (.fr (gC ys))
def SY(ts:qaj)(q:qam):Prop:=∃c:Int,ts=[.int c]/\NZ c/\∀i,-1000000000000000000000000000000<=i/\i<1000000000000000000000000000000->q (.vw (.int i))
def Be(ts:qaj)(q:qam):Prop:=∃(c:Int)(ys:qai),ts=[.int c,gC ys]/\NZ c/\Ys ys/\∀o,eU ys o->q (.vw (gF o))
def adN(ts:qaj)(q:qam):Prop:=∃(c:Int)(ys:qai),ts=[.int c,gC ys]/\NZ c/\Ys ys/\∀k,GX ys k->q (.vw (vY k))
def S3(ts:qaj)(q:qam):Prop:=∃(kd:Int)(c:Int)(ys:qai)(pl:Plan),ts=[.int kd,.int c,gC ys,jC pl]/\NZ c/\Ys ys/\pl.length<=3/\(∀p∈pl,p.2.length<=4)/\∀r,i4 ys pl r->q (.vw (aW r))
theorem Du(f:α->β)(l:List α)(k:Nat)(h:k<=l.length):gk (l.map f) none (some (k:Int))=(l.take k).map f:=by unfold gk;rw[c3,HT.k5,HT.Jj,YU h,List.drop_zero,Nat.sub_zero,<- List.map_take]
theorem agr(l:qao):((l.map one).map (·.length)).sum=l.length:=by
 induction l with
 |nil=>rfl
 |cons c l ih=>rw[ix,ix,List.sum_cons,ih];show 1+l.length=l.length+1;omega
theorem Xa:((("":String):Str)).length=0:=by decide +kernel
theorem S4{l:qao}(h:l.length<=100):((l.map one).map (·.length)).sum+(l.map one).length * ((("":String):Str)).length<=16777216:=by rw[agr,Xa];omega
section
abbrev HL:qai:=qaO
theorem tK:az HL qaO (ai pf):=L2.gJ
theorem Dv(D:Df K mg "_law_cell_at" pf qaO f fd)(M:Mg mg):bU P w K mg base "_law_cell_at" qaO 1 (c8 K 2 Mx):=by
 refine D.g9 (m7 D.F tK rfl λbz A outer s H E Ox hr ts q hG=>?_);have nd:=tK.nd;refine⟨_,(aj (bt (pP (aa 1) (qas (aT aN aO (by rfl) M.len jW (aA (aa 0) aK))))
    (aw (aI (qau (aC (aa 0) (aa 1)))))
    aV)
   (aw (aI (qau af)))),λ_=>?_⟩
 obtain⟨ns,j,rfl,hq⟩:=hG;refine zl (λh=>?_) (λh=>?_);have h':(j:Int)<((ns.map T.int).length:Int):=of_decide_eq_true h;rw[c3] at h';have hj:j<ns.length:=by omega
 refine⟨.int (ns.getD j 0),ah ?_,hq⟩;rw[ie,lT hj,List.getD,lT hj];rfl;have h':¬ ((j:Int)<((ns.map T.int).length:Int)):=λz=>h (decide_eq_true z);rw[c3] at h';have e:ns.getD j 0=0:=by rw[List.getD,NA (by omega)];rfl
 rw[e] at hq;exact hq
abbrev My:qai:=qaP
theorem wu:az My qaP (ai tI):=L2.gJ
theorem HM(D:Df K mg "_law_number" tI qaP f fd)(M:Mg mg):bU P w K mg base "_law_number" qaP 1 (c8 K 1 SY):=by
 refine D.g9 (m7 D.F wu rfl λbz A outer s H E Ox hr ts q hG=>?_);have nd:=wu.nd;have hu:=bA.gy hr;refine⟨_,(aj (bt (bK hu (qas (bj (aa 0) (qas af))) (qas af))
    (aw (aI (qau (iN (qas (bj (qas (j3 (qas (bZ (qas (gW (aa 0) (qas af))) (qas af))) (qas af))) (qas (gW (qas af) (qas (j3 (qas af) (qas af))))))) (qas (j3 (qas af) (qas af)))))))
    aV)
   (aw (aI (qau (iN (qas (bj (qas (a7 (aa 0) (qas af))) (qas af))) (qas af)))))),λ_=>?_⟩
 obtain⟨c,rfl,⟨h0,h1⟩,hq⟩:=hG;refine⟨by decide,cX (λ_=>?_) (λ_=>?_)⟩;refine⟨.inl ⟨by omega,by omega⟩,⟨by decide,by decide,by show (c * 48271+7).natAbs<2 ^ 64;omega⟩,⟨by decide,by decide,by decide⟩,.inl ⟨by decide,by decide⟩,by decide +kernel,⟨by decide,by decide,by decide⟩,hq _ ?_⟩;rw[ade];have g0:=qg ((c * 48271+7) ^ (5:Int).toNat) (show (2 * 1000000000000000000000000000000:Int)≠0 by decide);have g1:=qf ((c * 48271+7) ^ (5:Int).toNat) (show (0:Int)<2 * 1000000000000000000000000000000 by decide);exact⟨by omega,by omega⟩;refine⟨⟨by decide,by decide⟩,by decide,hq _ ?_⟩;have g0:=qg (c / 3) (show (7:Int)≠0 by decide);have g1:=qf (c / 3) (show (0:Int)<7 by decide);exact⟨by omega,by omega⟩
abbrev HN:qai:=qaQ
theorem tM:az HN qaQ (ai ph):=L2.gJ
theorem Dw(D:Df K mg "_law_operand" ph qaQ f fd)(M:Mg mg)(MA:bU P w K mg base "_law_number" qaP 1 (c8 K 1 SY)):bU P w K mg base "_law_operand" qaQ 2 (c8 K 2 Be):=by
 obtain⟨adO,YA,MB,MC,MD,ME⟩:=MA;refine D.g9 (m7 D.F tM rfl λbz A outer s H E Ox hr ts q hG=>?_);have nd:=tM.nd;have hu:=bA.gy hr;refine⟨_,(aj (bt (bK hu (qas (bj (aa 0) (qas af))) (qas af))
    (aw (aI (qau (aC (aa 1) (qas (bj (qas (a7 (aa 0) (qas af))) (qas (aT aN aO (by rfl) M.len jW (aA (aa 1) aK)))))))))
    aV)
   (aw (aI (qau (aQ ME (hr.mono (by decide)) (by rfl) MB MC MD (ae (qat (a7 (aa 0) (qas af))) ar)))))),λ_=>?_⟩
 obtain⟨c,ys,rfl,R,Y,hq⟩:=hG;refine⟨by decide,cX (λ_=>?_) (λ_=>?_)⟩;obtain⟨y,hy,e⟩:=Y.at (c / 2);exact⟨⟨by decide,by decide⟩,Y.pos,_,e,hq (.nm y) hy⟩;exact⟨⟨by decide,by decide⟩,rfl,_,rfl,R.div (by decide),λi hi=>hq (.nu i) hi⟩
abbrev adP:qai:=qaQ
theorem MH:az adP qaQ (ai Mw):=L2.gJ
theorem Xb(D:Df K mg "_law_key" Mw qaQ f fd)(M:Mg mg)(fU:bU P w K mg base "_law_operand" qaQ 2 (c8 K 2 Be)):bU P w K mg base "_law_key" qaQ 3 (c8 K 2 adN):=by
 obtain⟨pj,mV,dX,dY,dZ,d9⟩:=fU;refine D.g9 (m7 D.F MH rfl λbz A outer s H E Ox hr ts q hG=>?_);have nd:=MH.nd;have hu:=bA.gy hr;refine⟨_,(aj (bt (bK hu (qas (bj (aa 0) (qas af))) (qas af))
    (aw (aI (qau (aQ d9 (hr.mono (by decide)) (by rfl) dX dY dZ (ae (qat (a7 (aa 0) (qas af))) (ae (aq 1) ar))))))
    aV)
   (aw (aI (qau (bZ (qas aG) (qas (aC (aa 1) (qas (bj (qas (a7 (aa 0) (qas af))) (qas af)))))))))),λ_=>?_⟩
 obtain⟨c,ys,rfl,R,Y,hq⟩:=hG;refine⟨by decide,cX (λ_=>?_) (λ_=>?_)⟩;exact⟨⟨by decide,by decide⟩,rfl,_,ys,rfl,R.div (by decide),Y,λo ho=>hq (.op o) ho⟩;obtain⟨y,hy,e⟩:=Y.two (c / 3);refine⟨⟨by decide,by decide⟩,by decide,_,e,?_,hq (.fld y) hy⟩;rw[agf,sizeLine_eq];have:=Y.sm y hy;omega
abbrev nV:qai:=["_law_cell","_law_many","_law_letters","_law_number_here","_law_size","_law_base","_law_names_here","_law_k","_law_here"]
theorem Bf:az nV qaR (ai yH):=L2.gJ
theorem Bg:((["_law_cell","_law_many","_law_letters","_law_number_here","_law_size","_law_base","_law_names_here","#_law_k","_law_here"]:qai)++(["_law_k"]:qai)).Nodup:=by decide +kernel
theorem Bh:((["_law_cell","_law_many","_law_letters","_law_number_here","_law_size","_law_base","_law_names_here","#_law_k","_law_here"]:qai)++(["_law_k"]:qai)).Nodup:=by decide +kernel
theorem Bi:(["_law_cell","_law_many","_law_letters","_law_number_here","_law_size","_law_base","_law_names_here","#_law_k","_law_here"]:qai).Nodup:=by decide +kernel
theorem MJ(D:Df K mg "_law_names" yH qaR f fd)(M:Mg mg):bU P w K mg base "_law_names" qaR 1 (c8 K 2 Dt):=by
 refine D.g9 (m7 D.F Bf rfl λbz A outer s H E Ox hr ts q hG=>?_);have nd:=Bf.nd;have hu:=bA.gy hr;have np:∀{i:Nat},bO ⟨H,[],Ox⟩ i:=pS;have npf:∀{is:qao},∀i∈is,bO ⟨H,[],Ox⟩ i:=λi _=>pS;refine⟨_,(aj (bq (i:=2) nd rfl (Or.inr rfl) (qau aG) np)
  (aj (bq (i:=3) nd rfl (Or.inr rfl) (qau (bj (qas (gW (qas (bj (aa 0) (qas (j3 (qas af) (qas af))))) (qas af))) (qas af))) np)
  (aj (bq (i:=4) nd rfl (Or.inl rfl) (qau (bZ (qas af) (qas (bj (aa 3) (qas af))))) np)
  (aj (EX 7 "#_law_k" np (bq (i:=5) Bi rfl (Or.inr rfl) (qau (iB (ts:=qaS) rfl (by rfl) (fP (by rfl) M.range (qas af)) (λ_ _ _ _ _ _=>(bE (i:=9) Bg rfl (Or.inl rfl) np)) (λ_ _ _ _ _ _=>fm) (λ_ _ _ _ _ _=>(qat (aC (aa 2) (qas (bj (qas (a7 (aa 3) (qas (bZ (qas (gW (qas af) (aa 9))) (qas af))))) (qas af)))))))) np))
  (aj (bt (bK hu (qas (bj (qas (a7 (aa 3) (qas af))) (qas af))) (qas af))
   (aw (EX 7 "#_law_k" np (aI (qau (iB (ts:=qaS) rfl (by rfl) (fP (by rfl) M.range (aa 1)) (λ_ _ _ _ _ _=>(bE (i:=9) Bh rfl (Or.inl rfl) np)) (λ_ _ _ _ _ _=>fm) (λ_ _ _ _ _ _=>(qat (vS (qas aG) (aA (qas (gm (aa 5) k_ (gc (qas (bZ (aa 9) (qas af)))))) aK)))))))))
   aV)
  (aj (gX (i:=6) nd rfl (Or.inl rfl) (qau (c7 ar)) np)
  (aj (l9 N3 rfl (fP (by rfl) M.range (aa 1)) (bE (i:=7) nd rfl (Or.inl rfl) np)
   (aj (gX (i:=8) nd rfl (Or.inl rfl) (qau (gm (aa 5) k_ (gc (aa 4)))) np)
   (aj (l0 8 (qat (aC (aa 2) (qas (bj (qas (bZ (qas (a7 (aa 3) (qas af))) (aa 7))) (qas af))))) (qas (bj (qas (a7 (aa 3) (qas af))) (aa 4))))
   (Ey [8] (aw (cw (jJ 6 Ec Ed bQ b_ (ae (qat (vS (qas aG) (aA (aa 8) aK))) ar)))) npf))))
  (aw (aI (xb 6 np)))))))))),λ_=>?_⟩
 obtain⟨c,m,rfl,hm,hq⟩:=hG;refine⟨⟨by decide,by decide,by decide⟩,by decide +kernel,.inr ⟨by decide,by decide⟩,by decide,by decide,?_⟩;generalize hn:c % (10:Int) ^ (9:Int).toNat * 48271 % 2147483647=n;have n0:0<=n:=by rw[<- hn];exact qg _ (by decide)
 have n1:n<2147483647:=by rw[<- hn];exact qf _ (by decide)
 obtain⟨sz,esz⟩:=FC (show 0<=1+n % 8 by have:=qg n (show (8:Int)≠0 by decide);omega);have ags:1<=sz:=by have:=qg n (show (8:Int)≠0 by decide);omega
 have Xc:sz<=8:=by have:=qf n (show (0:Int)<8 by decide);omega
 refine⟨rfl,by decide,by decide,by rw[dC];exact cf (by decide),?_⟩;refine kr (u:=λj=>.str (one (bL n j))) (λj hj r hr=>?_) ?_;have hj8:j<8:=hj;rw[X4];refine⟨.inl ⟨by decide,by decide⟩,⟨by show (0:Int)<7 * (j:Int)+3;omega,by show 7 * (j:Int)+3<1073741824;omega⟩,by decide,?_⟩;exact⟨lJ,_,vX _,hr⟩;have eb:((List.range 8).map λj=>T.str (one (bL n j)))=(fK n).map T.str:=by unfold fK;rw[Eg];rfl
 rw[show (8:Int).toNat=8 from rfl,eb,esz];refine⟨⟨by decide,by decide⟩,by decide,cX (λ_=>?_) (λ_=>?_)⟩;refine⟨rfl,by omega,by omega,by rw[dC];exact cf (by omega),?_⟩;rw[yV];refine kr (u:=λk=>.str (W9 n k)) (λk hk r hr=>?_) ?_;rw[X4];have ec:gk ((fK n).map T.str) none (some ((k:Int)+1))=(((List.range (k+1)).map (bL n)).map one).map T.str:=by
  have:((k:Int)+1)=((k+1:Nat):Int):=by omega
  rw[this,Du T.str (fK n) (k+1) (by rw[tG];omega),wt n (by omega)]
 refine⟨((List.range (k+1)).map (bL n)).map one,?_,S4 (by simp;omega),?_⟩;show [T.lst (gk ((fK n).map T.str) none (some ((k:Int)+1)))]=_;rw[ec];rw[glue];exact hr;have e2:((List.range m).map λk=>T.str (W9 n k))=((List.range m).map (W9 n)).map T.str:=by rw[Eg];rfl
 rw[e2];exact hq _ (W_ n hm);refine⟨cf (by simp),by omega,by omega,?_⟩;rw[yV];refine sd (λk ρ=>∃b7 b8,ρ=[some (.int c,false),some (.int (m:Int),false),some (.str bT,false),some (.int n,false),some (.int (sz:Int),false),some (.lst ((fK n).map .str),false),some (.lst (((List.range k).map (alt n sz (n / 24 % (sz:Int)).toNat)).map .str),true),b7,b8]) ⟨_,_,rfl⟩ ?_ ?_;rintro k ρ hk ⟨b7,b8,rfl⟩;rw[X4];have ec:gk ((fK n).map T.str) none (some (sz:Int))=((fK n).take sz).map T.str:=Du T.str (fK n) sz (by rw[tG];exact Xc);have p0:0<=n / 24 % (sz:Int):=qg _ (by omega);have p1:n / 24 % (sz:Int)<(sz:Int):=qf _ (by omega);obtain⟨p,ep⟩:=FC p0;have hp:p<sz:=by omega
 have el:(((fK n).take sz).map T.str).length=sz:=by rw[c3,IE,tG];omega
 refine⟨⟨by decide,by decide⟩,by decide,lJ,_,vX _,⟨by decide,by decide⟩,by show (0:Int)<(sz:Int);omega,p,?_,?_⟩;rw[ep];show wM (gk ((fK n).map T.str) none (some (sz:Int))).length _=_;rw[ec,el];unfold wM;rw[if_pos (by omega),if_pos (by omega),yV];have es:(((fK n).take sz).map T.str).set p (T.str (one (ux (n / 5+(k:Int)))))=(((List.range sz).map (uZ n p k)).map one).map T.str:=by rw[<- Mv n Xc hp,List.map_set]
 refine⟨((List.range sz).map (uZ n p k)).map one,?_,S4 (by simp;omega),?_,some (.int (k:Int),false),?_⟩;show [T.lst ((gk ((fK n).map T.str) none (some (sz:Int))).set p (T.str (one (ux (n / 5+(k:Int))))))]=_;rw[ec,es];rw[c3,c3,NC,sizeLine_eq];omega;rw[glue];have eA:((List.range (k+1)).map (alt n sz (n / 24 % (sz:Int)).toNat)).map T.str=((List.range k).map (alt n sz (n / 24 % (sz:Int)).toNat)).map T.str++[T.str (alt n sz p k)]:=by rw[List.range_succ,t_,t_,ep];rfl
 rw[eA];exact⟨_,rfl⟩;rintro ρ ⟨b7,b8,rfl⟩;refine hq _ (W' n ags Xc ?_ (by omega));have p1:n / 24 % (sz:Int)<(sz:Int):=qf _ (by omega);omega
end
theorem Bj(pl:Plan):plainT (jC pl)=true:=by unfold jC;simp only[plainT];exact c9 (λ_=>by simp[plainT,bH]) pl
theorem HP(pl:Plan):dep (jC pl)<=100:=by unfold jC;have:=fu (f:=λp:Str×qai=>T.tup [.str p.1,.int (p.2.length:Int)]) (n:=1) (λ_=>by simp[dep,gx]) pl;simp only[dep];omega
section
abbrev Bk:qai:=["_law_kind","_law_cell","_law_names_here","_law_there","_law_name","_law_one","_law_word","_law_other","_law_many"]
theorem wx:az Bk qaT (ai tJ):=L2.gJ
theorem yI:(Bk++(["_law_k"]:qai)).Nodup:=by decide +kernel
theorem HQ(D:Df K mg "_law_simple" tJ qaT f fd)(M:Mg mg)(fU:bU P w K mg base "_law_operand" qaQ 2 (c8 K 2 Be))(adQ:bU P w K mg base "_law_key" qaQ 3 (c8 K 2 adN)):bU P w K mg base "_law_simple" qaT 4 (c8 K 4 S3):=by
 obtain⟨pj,mV,dX,dY,dZ,d9⟩:=fU;obtain⟨ag4,agt,S6,S7,S8,S9⟩:=adQ;refine D.g9 (m7 D.F wx rfl λbz A outer s H E Ox hr ts q hG=>?_);have nd:=wx.nd;have hu:=bA.gy hr;have np:∀{i:Nat},bO ⟨H,[],Ox⟩ i:=pS;refine⟨_,(aj (bq (i:=4) nd rfl (Or.inl rfl) (qau (aC (aa 2) (qas (bj (aa 1) (qas (aT aN aO (by rfl) M.len jW (aA (aa 2) aK))))))) np)
  (aj (bq (i:=5) nd rfl (Or.inl rfl) (qau (aQ d9 (hr.mono (by decide)) (by rfl) dX dY dZ (ae (qat (a7 (aa 1) (qas af))) (ae (aq 2) ar)))) np)
  (aj (bt (pP (aa 0) (qas af))
   (aw (aI (qau (br (ae (qat aG) (ae (aq 4) (ae (aq 5) ar)))))))
   aV)
  (aj (bt (pP (aa 0) (qas af))
   (aj (bq (i:=6) nd rfl (Or.inl rfl) (qau (aC (qas (c7 (ae (qat aG) (ae (qat aG) (ae (qat aG) (ae (qat aG) (ae (qat aG) (ae (qat aG) (ae (qat aG) ar))))))))) (qas (bj (qas (a7 (aa 1) (qas af))) (qas af))))) np)
   (aw (aI (qau (br (ae (qat aG) (ae (aq 4) (ae (aq 5) (ae (aq 6) (ae (qat (aQ d9 (hr.mono (by decide)) (by rfl) dX dY dZ (ae (qat (a7 (aa 1) (qas af))) (ae (aq 2) ar)))) ar))))))))))
   aV)
  (aj (bt (bK hu (aa 0) (qas af))
   (aw (aI (qau (br (ae (qat aG) (ae (aq 4) ar))))))
   aV)
  (aj (bt (bK hu (aa 0) (qas af))
   (aw (aI (qau (br (ae (qat aG) (ae (aq 4) (ae (qat (aC (aa 2) (qas (bj (qas (a7 (aa 1) (qas af))) (qas (aT aN aO (by rfl) M.len jW (aA (aa 2) aK))))))) (ae (qat (aQ S9 (hr.mono (by decide)) (by rfl) S6 S7 S8 (ae (qat (a7 (aa 1) (qas af))) (ae (aq 2) ar)))) ar))))))))
   aV)
  (aj (bt (bK hu (aa 0) (qas af))
   (aw (aI (qau (br (ae (qat aG) (ae (aq 4) (ae (qat (aQ S9 (hr.mono (by decide)) (by rfl) S6 S7 S8 (ae (qat (a7 (aa 1) (qas af))) (ae (aq 2) ar)))) (ae (aq 5) ar))))))))
   aV)
  (aj (bt (VW.vc (fN (bK hu (aa 0) (qas af)) (eX (nz hu (aa 3) (qas (c7 ar))))))
   (aj (UN (qat (aC (aa 3) (qas (bj (qas (a7 (aa 1) (qas af))) (qas (aT aN aO (by rfl) M.len jW (aA (aa 3) aK))))))) (rP (n:=2) rfl (eQ (bE (i:=7) nd rfl (Or.inl rfl) np) (eQ (bE (i:=8) nd rfl (Or.inl rfl) np) nA))))
   (aw (aI (qau (br (ae (qat aG) (ae (aq 4) (ae (aq 7) (ae (qat (dU iL j4 (by rfl) M.tuple lh (aA (qas (iB (ts:=qaS) rfl (by rfl) (fP (by rfl) M.range (aa 8)) (λ_ _ _ _ _ _=>(bE (i:=9) yI rfl (Or.inl rfl) np)) (λ_ _ _ _ _ _=>fm) (λ_ _ _ _ _ _=>(qat (aQ d9 (hr.mono (by decide)) (by rfl) dX dY dZ (ae (qat (a7 (aa 1) (qas (bZ (qas af) (aa 9))))) (ae (aq 2) ar))))))) aK))) ar)))))))))
   aV)
  (aj (bt (VW.vc (fN (bK hu (aa 0) (qas af)) (eX (bK hu (qas (bj (aa 1) (qas af))) (qas af)))))
   (aw (aI (qau (br (ae (qat aG) (ae (qat (aC (aa 2) (qas (bj (qas (a7 (aa 1) (qas af))) (qas (aT aN aO (by rfl) M.len jW (aA (aa 2) aK))))))) ar))))))
   aV)
  (aj (bt (bK hu (aa 0) (qas af))
   (aw (aI (qau (br (ae (qat aG) ar)))))
   aV)
  (aw (aI (qau (br (ae (qat aG) (ae (aq 4) (ae (aq 5) ar))))))))))))))))),λ_=>?_⟩
 obtain⟨kd,c,ys,pl,rfl,R,Y,hp3,Vo,hq⟩:=hG;obtain⟨y,hy,ey⟩:=Y.at c;refine⟨Y.pos,_,ey,⟨by decide,by decide⟩,rfl,_,ys,rfl,R.div (by decide),Y,λo ho=>?_⟩;refine cX (λ_=>?_) (λ_=>?_);exact⟨cf (by simp),hq (.put y o) ⟨hy,ho⟩⟩;refine cX (λ_=>?_) (λ_=>?_);obtain⟨op,BE,eop⟩:=adf (c / 35);exact⟨cf (by simp),⟨by decide,by decide⟩,by decide,_,eop,⟨by decide,by decide⟩,rfl,_,ys,rfl,R.div (by decide),Y,λo2 F_=>⟨cf (by simp),hq (.m8 y o op o2) ⟨hy,ho,BE,F_⟩⟩⟩;refine cX (λ_=>⟨cf (by simp),hq (.new y) hy⟩) (λ_=>?_);refine cX (λ_=>?_) (λ_=>?_);obtain⟨z,hz,ez⟩:=Y.at (c / 7);exact⟨⟨by decide,by decide⟩,Y.pos,_,ez,⟨by decide,by decide⟩,rfl,_,ys,rfl,R.div (by decide),Y,λk hk=>⟨cf (by simp),hq (.get y z k) ⟨hy,hz,hk⟩⟩⟩;refine cX (λ_=>?_) (λ_=>?_);exact⟨⟨by decide,by decide⟩,rfl,_,ys,rfl,R.div (by decide),Y,λk hk=>⟨cf (by simp),hq (.set y k o) ⟨hy,hk,ho⟩⟩⟩;refine cX (λh9=>?_) (λ_=>?_);refine⟨jU _,Bj pl,rfl,HP pl,?_⟩;cases pl with
 |nil=>refine fR rfl ?_;refine fR (c:=decide (kd=15)) (decide_eq_false (by omega)) ?_;refine fR rfl ?_;refine fR (c:=decide (kd=14)) (decide_eq_false (by omega)) ?_;exact⟨cf (by simp),hq (.put y o) ⟨hy,ho⟩⟩
 |cons p0 pl=>
  refine JZ rfl ?_;have eL:(((p0::pl).map λp=>T.tup [.str p.1,.int (p.2.length:Int)]).length:Int)=((p0::pl).length:Int):=by rw[c3]
  have agh:0<(p0::pl).length:=by simp
  generalize p0::pl=S_ at *;have h0:0<=c / 7 % ((S_.map λp=>T.tup [.str p.1,.int (p.2.length:Int)]).length:Int):=qg _ (by omega);have h1:c / 7 % ((S_.map λp=>T.tup [.str p.1,.int (p.2.length:Int)]).length:Int)<S_.length:=by rw[eL];exact qf _ (by omega)
  obtain⟨j,hj⟩:=FC h0;have U6:j<S_.length:=by omega
  obtain⟨p,hp⟩:∃p:Str×qai,p=S_[j]:=⟨_,rfl⟩;obtain⟨fn,ps⟩:=p;have Ko:(fn,ps)∈S_:=by rw[hp];exact XY U6
  have Ym:ps.length<=4:=Vo _ Ko;refine⟨⟨by decide,by decide⟩,by show (0:Int)<((S_.map λp=>T.tup [.str p.1,.int (p.2.length:Int)]).length:Int);omega,.tup [.str fn,.int (ps.length:Int)],?_,rfl,?_⟩;show jQ _ (c / 7 % ((S_.map λp=>T.tup [.str p.1,.int (p.2.length:Int)]).length:Int))=_;rw[hj];refine ah ?_;rw[ie,lT U6,<- hp];rfl;refine⟨rfl,rfl,by show -(2 ^ 62:Int)<=(ps.length:Int);omega,by show (ps.length:Int)<2 ^ 62;omega,by rw[dC];exact cf (by show (ps.length:Int).toNat<=1000;omega),?_⟩;refine Ax (Pd:=λt=>∃a,t=gF a/\eU ys a) (λt ht r hr=>?_) λus hl Ge=>?_;obtain⟨i,hi⟩:=Ry.mp ht;obtain⟨k7,rfl⟩:=r_ hi;refine⟨⟨by show (0:Int)<17+(0+(i:Int));omega,?_⟩,rfl,_,ys,rfl,R.div (by omega),Y,λo ho=>hr _ ⟨o,rfl,ho⟩⟩;have:i<(ps.length:Int).toNat:=k7;show 17+(0+(i:Int))<1073741824;omega;obtain⟨as,rfl,ha⟩:=Ay us Ge;rw[dC] at hl;have y':as.length=ps.length:=by rw[c3] at hl;have:as.length=(ps.length:Int).toNat:=hl;omega
  refine⟨cf (by simp),hq (.call y fn as) ⟨hy,⟨ps,Ko,y'⟩,ha⟩⟩
 refine fR rfl ?_;refine cX (λ_=>⟨by decide,cX (λ_=>?_) (λ_=>?_)⟩) (λ_=>fR rfl ?_);obtain⟨z,hz,ez⟩:=Y.at (c / 4);exact⟨⟨by decide,by decide⟩,Y.pos,_,ez,cf (by simp),hq (.fail z) hz⟩;refine cX (λ_=>⟨cf (by simp),hq .skip trivial⟩) (λ_=>⟨cf (by simp),hq (.put y o) ⟨hy,ho⟩⟩);refine cX (λ_=>⟨cf (by simp),hq .skip trivial⟩) (λ_=>⟨cf (by simp),hq (.put y o) ⟨hy,ho⟩⟩)
end
abbrev MK:Stmt:=top 60
theorem fits(h:n<=1001):n<sizeLine:=by rw[sizeLine_eq];omega
theorem tO(l:qai):plainT (.lst (l.map .str))=true:=by simp only[plainT];exact c9 (λ_=>by simp[plainT]) l
theorem Bn(l:qai):dep (.lst (l.map .str))<=100:=by have:=fu (f:=T.str) (n:=0) (λ_=>by simp[dep]) l;simp only[dep];omega
def UJ:GT:=λts q=>∃(rs:qal)(bS:qai)(c:Int)(ys:qai)(pl:Plan),ts=[.lst (rs.map aW),.lst (bS.map .str),.int c,gC ys,jC pl]/\Ys ys/\pl.length<=3/\(∀p∈pl,p.2.length<=4)/\rs.length<=900/\bS.length<=4 /\
 ∀new dF,mw ys pl bS new dF->dF.length<=4->q [.lst ((rs++new).map aW),.lst (dF.map .str)] (.vw .aP)
def Q1(q:qaj->qam)(rs:qal)(bS:qai)(c n mv:Int)(ys:qai)(pl:Plan):FS:=λd ρ=>(∃nv,ρ=[some (.lst (rs.map aW),true),some (.lst (bS.map .str),true),some (.int c,false),some (gC ys,false),some (jC pl,false),some (.int n,false),some (.int mv,false),nv]) /\
 ∀ρ,q (nB [true,true,false,false,false] ρ) (.vw .aP)->d.nx ρ
section
abbrev adR:qai:=["_law_rows","_law_blocks","_law_cell","_law_names_here","_law_there","_law_number_here","_law_kind","_law_name"]
theorem MM:az adR qaU (ai MK):=L2.gJ
theorem Xd(D:Df K mg "_law_put" MK qaU f fd)(M:Mg mg)(fU:bU P w K mg base "_law_operand" qaQ 2 (c8 K 2 Be))(MN:bU P w K mg base "_law_simple" qaT 4 (c8 K 4 S3)):bU P w K mg base "_law_put" qaU 5 (Ca K [true,true,false,false,false] UJ):=by
 obtain⟨pj,mV,dX,dY,dZ,d9⟩:=fU;obtain⟨adS,YB,MO,MP,MQ,MT⟩:=MN;refine D.g9 (fnV D.F MM rfl λbz A outer s H E as Ox hr ts q hl hG=>?_);have nd:=MM.nd;have hu:=bA.gy hr;obtain⟨rs,bS,c,ys,pl,rfl,Y,hp3,Vo,hr1,Ta,hq⟩:=hG;obtain⟨n,hn⟩:∃n,(c % (10:Int) ^ (9:Int).toNat+3) * 48271 % 2147483647=n:=⟨_,rfl⟩;have R:NZ n:=⟨by rw[<- hn];exact qg _ (by decide),by rw[<- hn];have:=qf ((c % (10:Int) ^ (9:Int).toNat+3) * 48271) (show (0:Int)<2147483647 by decide);omega⟩;have MV:(rs.map aW).length<sizeLine:=by rw[c3];exact fits (by omega)
 have adT:(bS.map T.str).length<sizeLine:=by rw[c3];exact fits (by omega)
 have one:∀{r:Rw}{dF:qai},mw ys pl bS [r] dF->dF.length<=4->q [.lst (rs.map aW++[aW r]),.lst (dF.map .str)] (.vw .aP):=λ{r dF} h h4=>by have:=hq [r] dF h h4;rw[t_] at this;exact this
 have push:∀x:Str,(bS++[x]).map T.str=bS.map T.str++[T.str x]:=λx=>by rw[t_];rfl
 have adU:((bS.map T.str).length:Int)=(bS.length:Int):=by rw[c3]
 refine⟨_,(aj (bq (i:=5) nd rfl (Or.inl rfl) (qau (bj (qas (gW (qas (bZ (qas (bj (aa 2) (qas (j3 (qas af) (qas af))))) (qas af))) (qas af))) (qas af))) (EI (by decide)))
  (aj (bq (i:=6) nd rfl (Or.inl rfl) (qau (bj (aa 5) (qas af))) (EI (by decide)))
  (aw (bt (VW.vc (fN (bK hu (aa 6) (qas af)) (eX (pP (qas (aT aN aO (by rfl) M.len jW (aA (aa 1) aK))) (qas af)))))
   (aj (cw (jJ 0 Ec Ed bQ b_ (ae (qat (br (ae (qat aG) (ae (qat (aQ d9 (hr.mono (by decide)) (by rfl) dX dY dZ (ae (qat (a7 (aa 5) (qas af))) (ae (aq 3) ar)))) ar)))) ar)))
   (aw (cw (jJ 1 Ec Ed bQ b_ (ae (qat aG) ar)))))
   (m5.weak (u:=(Q1 q rs bS c n (n % 16) ys pl)) (aw (bt (VW.vc (fN (bK hu (aa 6) (qas af)) (eX (pP (qas (aT aN aO (by rfl) M.len jW (aA (aa 1) aK))) (qas af)))))
    (aj (bq (i:=7) nd rfl (Or.inl rfl) (qau (aC (aa 3) (qas (bj (qas (a7 (aa 5) (qas af))) (qas (aT aN aO (by rfl) M.len jW (aA (aa 3) aK))))))) (EI (by decide)))
    (aj (cw (jJ 0 Ec Ed bQ b_ (ae (qat (br (ae (qat aG) (ae (aq 7) ar)))) ar)))
    (aj (cw (jJ 1 Ec Ed bQ b_ (ae (qat aG) ar)))
    (aw (bt (bK hu (qas (bj (qas (a7 (aa 5) (qas af))) (qas af))) (qas af))
     (aw (cw (jJ 0 Ec Ed bQ b_ (ae (qat (br (ae (qat aG) (ae (aq 7) (ae (aq 7) (ae (qat aG) (ae (qat af) ar))))))) ar))))
     aV)))))
    (m5.weak (u:=(Q1 q rs bS c n (n % 16) ys pl)) (aw (bt (VW.vc (fN (bK hu (aa 6) (qas af)) (fN (nz hu (aa 1) (qas (c7 ar))) (eX (bK hu (qas (aC (aa 1) (qas (lY (qas af))))) (qas aG))))))
     (aj (cw (jJ 0 Ec Ed bQ b_ (ae (qat (br (ae (qat aG) ar))) ar)))
     (aw (l0 1 (qat aG) (qas (lY (qas af))))))
     (m5.weak (u:=(Q1 q rs bS c n (n % 16) ys pl)) (aw (bt (VW.vc (fN (bK hu (aa 6) (qas af)) (eX (nz hu (aa 1) (qas (c7 ar))))))
      (aj (cw (jJ 0 Ec Ed bQ b_ (ae (qat (br (ae (qat aG) ar))) ar)))
      (aw (cw (B' 1 ab4 ab5 wW xa))))
      (m5.weak (u:=(Q1 q rs bS c n (n % 16) ys pl)) (aw (cw (jJ 0 Ec Ed bQ b_ (ae (qat (aQ MT (hr.mono (by decide)) (by rfl) MO MP MQ (ae (aq 6) (ae (qat (a7 (aa 5) (qas af))) (ae (aq 3) (ae (aq 4) ar)))))) ar)))) ?w5))) ?w4))) ?w3))) ?w2))))),?_⟩
 case w5=>
  rintro d ρ ⟨⟨nv,rfl⟩,kk⟩;exact⟨⟨by decide,by decide⟩,rfl,_,_,ys,pl,rfl,R.div (by decide),Y,hp3,Vo,λr hs=>⟨MV,kk _ (one (.inr (.inr (.inr (.inr (.inr ⟨r,hs,rfl,rfl⟩))))) Ta)⟩⟩
 case w4=>
  rintro d ρ ⟨⟨nv,rfl⟩,kk⟩;refine cX (λ_=>?_) (λ_=>fR rfl ⟨⟨nv,rfl⟩,kk⟩);refine⟨jU _,tO bS,rfl,Bn bS,?_⟩;rcases List.eq_nil_or_concat bS with e|⟨s0,x,e⟩
  subst e;exact fR rfl ⟨⟨nv,rfl⟩,kk⟩;have en:eqT (.lst (bS.map .str)) (.lst [])=false:=by rw[e];cases s0<;>simp[eqT,gM]
  refine JZ (by show (!eqT (.lst (bS.map .str)) (.lst []))=true;rw[en];rfl) ⟨cf (by simp),MV,rfl,T.str x,?_,?_⟩;rw[e];simp;have e2:(bS.map T.str).dropLast=s0.map T.str:=by rw[e];simp
  refine kk _ ?_;show q [.lst (rs.map aW++[aW .fin]),.lst ((bS.map T.str).dropLast)] _;rw[e2];exact one (.inr (.inr (.inr (.inr (.inl ⟨s0,x,by rw[e,List.concat_eq_append],rfl,rfl⟩))))) (by rw[e] at Ta;simp at Ta;omega)
 case w3=>
  rintro d ρ ⟨⟨nv,rfl⟩,kk⟩;refine cX (λ_=>?_) (λ_=>fR rfl ⟨⟨nv,rfl⟩,kk⟩);refine⟨jU _,tO bS,rfl,Bn bS,?_⟩;rcases List.eq_nil_or_concat bS with e|⟨s0,x,e⟩
  subst e;exact fR rfl (fR rfl ⟨⟨nv,rfl⟩,kk⟩);have en:eqT (.lst (bS.map .str)) (.lst [])=false:=by rw[e];cases s0<;>simp[eqT,gM]
  have ex:jQ (bS.map T.str) (-1)=some (T.str x):=by rw[e,List.concat_eq_append,t_];exact jX _ _
  refine JZ (by show (!eqT (.lst (bS.map .str)) (.lst []))=true;rw[en];rfl) ⟨_,ex,cX (λhx=>?_) (λ_=>⟨⟨nv,rfl⟩,kk⟩)⟩;have NO:x="if":=hx;subst NO;have hl1:(bS.map T.str).length=s0.length+1:=by rw[e];simp
  refine⟨cf (by simp),MV,s0.length,?_,kk _ ?_⟩;unfold wM;rw[hl1,if_neg (by decide),if_pos (by omega)]
  congr 1
  omega;have e2:(bS.map T.str).set s0.length (T.str "else")=(s0++([("else":Str)]:qai)).map T.str:=by rw[e];simp
  show q [.lst (rs.map aW++[aW .mq]),.lst ((bS.map T.str).set s0.length (T.str "else"))] _;rw[e2];exact one (.inr (.inr (.inr (.inl ⟨s0,by rw[e];simp,rfl,rfl⟩)))) (by rw[e] at Ta;simpa using Ta)
 case w2=>
  rintro d ρ ⟨⟨nv,rfl⟩,kk⟩;refine cX (λ_=>?_) (λ_=>fR rfl ⟨⟨nv,rfl⟩,kk⟩);refine cX (λh4=>?_) (λ_=>⟨⟨nv,rfl⟩,kk⟩);have h4':bS.length<4:=by have:((bS.map T.str).length:Int)<4:=h4;omega
  obtain⟨y,hy,ey⟩:=Y.at (n / 32);refine⟨⟨by decide,by decide⟩,Y.pos,_,ey,cf (by simp),MV,adT,⟨by decide,by decide⟩,by decide,cX (λ_=>?_) (λ_=>?_)⟩;refine⟨cf (by simp),?_,kk _ ?_⟩;rw[pH,c3];exact fits (by simp;omega);have:=hq [.gS (.nm y),.m8 y (.nm y) "minus" (.nu 1)] _ (.inr (.inr (.inl ⟨y,hy,rfl,rfl⟩))) (by simp;omega);rw[push,t_] at this;show q [.lst ((rs.map aW++[aW (.gS (.nm y))])++[aW (.m8 y (.nm y) "minus" (.nu 1))]),_] _;rw[Ti];exact this;refine kk _ ?_;have:=one (r:=.gS (.nm y)) (.inr (.inl ⟨.nm y,hy,rfl,rfl⟩)) (by simp;omega);rw[push] at this;exact this
 refine⟨⟨by decide,by decide,by decide⟩,by decide +kernel,.inr ⟨by decide,by decide⟩,by decide,by decide,?_⟩;rw[hn];refine cX (λ_=>?_) (λ_=>fR rfl ⟨⟨none,rfl⟩,λ_ h=>h⟩);refine cX (λh4=>?_) (λ_=>⟨⟨none,rfl⟩,λ_ h=>h⟩);have h4':bS.length<4:=by have:((bS.map T.str).length:Int)<4:=h4;omega
 refine⟨⟨by decide,by decide⟩,rfl,_,ys,rfl,R.div (by decide),Y,λo ho=>⟨cf (by simp),MV,adT,?_⟩⟩;have:=one (r:=.mn o) (.inl ⟨o,ho,rfl,rfl⟩) (by simp;omega);rw[push] at this;exact this
end
abbrev pq:Stmt:=top 61
theorem Q2{bS new dF}(h:mw ys pl bS new dF):new.length<=2:=by obtain⟨o,_,rfl,rfl⟩|⟨o,_,rfl,rfl⟩|⟨y,_,rfl,rfl⟩|⟨s0,rfl,rfl,rfl⟩|⟨s0,x,rfl,rfl,rfl⟩|⟨r,_,rfl,rfl⟩:=h<;>simp
def wy(h:Int):qao:=[(h / 3 % 3).toNat,(h / 9 % 3).toNat,(h / 27 % 3).toNat]
theorem tP(h:Int){k:Nat}(hk:k<3):(wy h).getD k 0<=2:=by
 have h1:h / 3 % 3<3:=qf _ (by decide);have h2:h / 9 % 3<3:=qf _ (by decide);have h3:h / 27 % 3<3:=qf _ (by decide)
 match k,hk with
 |0,_=>show (h / 3 % 3).toNat<=2;omega
 |1,_=>show (h / 9 % 3).toNat<=2;omega
 |2,_=>show (h / 27 % 3).toNat<=2;omega
def szT(h:Int):qaj:=[.int (h / 3 % 3),.int (h / 9 % 3),.int (h / 27 % 3)]
theorem MW(h:Int){k:Nat}(hk:k<3):jQ (szT h) (k:Int)=some (.int ((wy h).getD k 0:Nat)):=by
 have h1:0<=h / 3 % 3:=qg _ (by decide);have h2:0<=h / 9 % 3:=qg _ (by decide);have h3:0<=h / 27 % 3:=qg _ (by decide);refine ah ?_
 match k,hk with
 |0,_=>show some (T.int (h / 3 % 3))=some (T.int ((h / 3 % 3).toNat:Nat));rw[Int.toNat_of_nonneg h1]
 |1,_=>show some (T.int (h / 9 % 3))=some (T.int ((h / 9 % 3).toNat:Nat));rw[Int.toNat_of_nonneg h2]
 |2,_=>show some (T.int (h / 27 % 3))=some (T.int ((h / 27 % 3).toNat:Nat));rw[Int.toNat_of_nonneg h3]
def dO(ys:qai)(h:Int)(m:Nat):Plan:=(List.range m).map λk=>(ys.getD k Str.empty,ys.take ((wy h).getD k 0))
theorem h_(ys h m):(dO ys h m).length=m:=by simp[dO]
theorem pv{h:Int}{k:Nat}(hk:k<m):(dO ys h m)[k]?=some (ys.getD k Str.empty,ys.take ((wy h).getD k 0)):=by unfold dO;rw[ie,N0 hk];rfl
theorem HR(Y:Ys ys){h:Int}(hm:m<=3):xx ys (dO ys h m):=by
 intro k f ps e;have hk:k<m:=by have:=(eW.mp e).1;rw[h_] at this;exact this
 rw[pv hk] at e;cases e;have l3:=Y.l3;have hz:=tP h (k:=k) (by omega);refine⟨by rw[List.getD,lT (by omega:k<ys.length)];rfl,0,(wy h).getD k 0,hz,?_⟩;refine RE λi=>?_;rw[List.getElem?_take,ie];by_cases hi:i<(wy h).getD k 0;rw[if_pos hi,N0 hi];have e:((0+(i:Int)) % 4).toNat=i:=by omega
 simp only[X2,e];rw[List.getD,lT (by omega:i<ys.length)];rfl;rw[if_neg hi,NA (by rw[NC];omega)];rfl
def MX(ys:qai)(pl:Plan):Prop:=∀p∈pl,p.1∈ys/\∃m,m<=2/\p.2=ys.take m
theorem HS(Y:Ys ys){h:Int}(hm:m<=3):MX ys (dO ys h m):=λp hp=>by obtain⟨k,hk,rfl⟩:=vz.mp hp;have zX:=Ef.mp hk;have l3:=Y.l3;refine⟨?_,_,tP h (k:=k) (by omega),rfl⟩;show ys.getD k Str.empty∈ys;rw[List.getD,lT (by omega:k<ys.length)];exact XY _
theorem Bo{h:Int}(hm:m<=3):∀p∈dO ys h m,p.2.length<=4:=λp hp=>by obtain⟨k,hk,rfl⟩:=vz.mp hp;have zX:=Ef.mp hk;have:=tP h (k:=k) (by omega);rw[IE];omega
def MY(ts:qaj)(q:qam):Prop:=∃(ns:qan)(ys:qai)(h:Int),ts=[.lst (ns.map .int),gC ys,.int h]/\ns.length<=63/\NZ h/\Ys ys /\
 ∀(n:Nat)(pl:Plan)(rs:qal),n<=1->1<=pl.length->pl.length<=3->xx ys pl->MX ys pl->Pre ys pl pl.length rs->rs.length<=18+2 * ns.length->q (.fr (.lst ((List.replicate n Rw.skip++rs).map aW)))
theorem Q3(f:α->β)(l:List α)(a b:Nat)(ha:a<=l.length)(hb:b<=l.length):gk (l.map f) (some (a:Int)) (some (b:Int))=((l.drop a).take (b-a)).map f:=by unfold gk;rw[c3,HT.k5,HT.k5,YU ha,YU hb,<- List.map_drop,<- List.map_take]
def IP(ns:qan)(ys:qai)(h:Int)(m0 sh n1:Nat)(k:Nat)(ρ:En):Prop:=∃b7 b8 b9 yJ y0 rt rs,ρ=[some (.lst (ns.map .int),false),some (gC ys,false),some (.int h,false),some (.int (1+(m0:Int)),false),some (.lst (szT h),false),some (.int (sh:Int),false),some (.lst rt,true),b7,b8,b9,yJ,y0]/\rt=(List.replicate n1 Rw.skip++rs).map aW/\Pre ys (dO ys h (1+m0)) k rs/\rs.length<=6 * k+2 * (if k=1+m0 then ns.length else k * sh)
def agu(ns:qan)(ys:qai)(h:Int)(m0 sh n1:Nat):FS:=λd ρ=>∃(k L:Nat)(rs:qal)(y0:Option (T×Bool)),k<1+m0/\L<=ns.length/\k * sh<=L/\(L=if k=m0 then ns.length else (k+1) * sh)/\Pre ys (dO ys h (1+m0)) k rs/\rs.length<=6 * k+2 * (k * sh) /\
 ρ=[some (.lst (ns.map .int),false),some (gC ys,false),some (.int h,false),some (.int (1+(m0:Int)),false),some (.lst (szT h),false),some (.int (sh:Int),false),some (.lst ((List.replicate n1 Rw.skip++rs++[Rw.df (ys.getD k Str.empty) (ys.take ((wy h).getD k 0))]).map aW),true),some (.int (k:Int),false),some (jC ((dO ys h (1+m0)).drop (k+1)),false),some (.lst [],true),some (.int (L:Int),false),y0]/\∀ρ',IP ns ys h m0 sh n1 (k+1) ρ'->d.nx ρ'
section
abbrev di:qai:=["_law_cells","_law_names_here","_law_head","_law_many","_law_sizes","_law_share","_law_rows","_law_k","_law_there","_law_blocks","_law_last","_law_cell"]
theorem tQ:az di qaV (ai pq):=L2.gJ
theorem u_:(di++(["_law_j"]:qai)).Nodup:=by decide +kernel
theorem Dx(D:Df K mg "_law_program" pq qaV f fd)(M:Mg mg)(adV:bU P w K mg base "_law_put" qaU 5 (Ca K [true,true,false,false,false] UJ))(fU:bU P w K mg base "_law_operand" qaQ 2 (c8 K 2 Be)):bU P w K mg base "_law_program" qaV 6 (c8 K 3 MY):=by
 obtain⟨ag5,agv,adW,k_put,adX,adY⟩:=adV;obtain⟨pj,mV,dX,dY,dZ,d9⟩:=fU;refine D.g9 (m7 D.F tQ rfl λbz A outer s H E Ox hr ts q hG=>?_);have nd:=tQ.nd;have hu:=bA.gy hr;have np:∀{i:Nat},bO ⟨H,[],Ox⟩ i:=pS;obtain⟨ns,ys,h,rfl,hns,R,Y,hq⟩:=hG;obtain⟨m0,em0⟩:=FC (qg h (show (3:Int)≠0 by decide));have hm0:m0<3:=by have:=qf h (show (0:Int)<3 by decide);omega
 obtain⟨n1,en1⟩:=FC (qg (h / 81) (show (2:Int)≠0 by decide));have hn1:n1<2:=by have:=qf (h / 81) (show (0:Int)<2 by decide);omega
 have eN:((ns.map T.int).length:Int)=(ns.length:Int):=by rw[c3]
 have l3:=Y.l3;obtain⟨sh,esh⟩:∃sh:Nat,sh=ns.length / (1+m0):=⟨_,rfl⟩;have ahc:(1+m0) * sh<=ns.length:=by rw[esh];exact Nat.mul_div_le _ _
 refine⟨_,(aj (bq (i:=3) nd rfl (Or.inl rfl) (qau (bZ (qas af) (qas (bj (aa 2) (qas af))))) np)
  (aj (bq (i:=4) nd rfl (Or.inr rfl) (qau (c7 (ae (qat (bj (qas (a7 (aa 2) (qas af))) (qas af))) (ae (qat (bj (qas (a7 (aa 2) (qas af))) (qas af))) (ae (qat (bj (qas (a7 (aa 2) (qas af))) (qas af))) ar))))) np)
  (aj (bq (i:=5) nd rfl (Or.inl rfl) (qau (a7 (qas (aT aN aO (by rfl) M.len jW (aA (aa 0) aK))) (aa 3))) np)
  (aj (gX (i:=6) nd rfl (Or.inl rfl) (qau (md (c7 (ae (qat (br (ae (qat aG) ar))) ar)) (qas (bj (qas (a7 (aa 2) (qas af))) (qas af))))) np)
  (aj (l9 N3 rfl (fP (by rfl) M.range (aa 3)) (bE (i:=7) nd rfl (Or.inl rfl) np)
   (aj (cw (jJ 6 Ec Ed bQ b_ (ae (qat (br (ae (qat aG) (ae (qat (aC (aa 1) (aa 7))) (ae (qat (dU iL j4 (by rfl) M.tuple lh (aA (qas (gm (aa 1) k_ (gc (qas (aC (aa 4) (aa 7)))))) aK))) ar))))) ar)))
   (aj (qG (i:=8) (ts:=["_law_j"]) nd rfl (Or.inl rfl) rfl (by rfl) (Gp (by rfl) M.range (qas (bZ (aa 7) (qas af))) (aa 3)) (λ_ _ _ _ _ _=>(bE (i:=12) u_ rfl (Or.inl rfl) np)) (λ_ _ _ _ _ _=>fm) (λ_ _ _ _ _ _=>(qat (br (ae (qat (aC (aa 1) (aa 12))) (ae (qat (aC (aa 4) (aa 12))) ar))))) np)
   (aj (gX (i:=9) nd rfl (Or.inl rfl) (qau (c7 ar)) np)
   (aj (bq (i:=10) nd rfl (Or.inl rfl) (qau (jI (bK hu (aa 7) (qas (iN (aa 3) (qas af)))) (aT aN aO (by rfl) M.len jW (aA (aa 0) aK)) (gW (qas (bZ (aa 7) (qas af))) (aa 5)))) np)
   (m5.weak (u:=(agu ns ys h m0 sh n1)) (aj (l9 N3 rfl (j5 (qat (gm (aa 0) (gc (qas (gW (aa 7) (aa 5)))) (gc (aa 10))))) (bE (i:=11) nd rfl (Or.inl rfl) np)
    (aw (cw (JR adY (hr.mono (by decide)) (by rfl) adW k_put adX (EF 6 (EF 9 (rR (aq 11) (rR (aq 1) (rR (aq 8) O6)))))))))
   (aj (cw (PL 6 (md (c7 (ae (qat (br (ae (qat aG) ar))) ar)) (qas (aT aN aO (by rfl) M.len jW (aA (aa 9) aK))))))
   (aw (cw (jJ 6 Ec Ed bQ b_ (ae (qat (br (ae (qat aG) (ae (qat (aQ d9 (hr.mono (by decide)) (by rfl) dX dY dZ (ae (qat (a7 (aa 2) (qas (bZ (qas af) (aa 7))))) (ae (aq 1) ar)))) ar)))) ar)))))) ?w1))))))
  (aw (aI (xb 6 np)))))))),λ_=>?main⟩
 case w1=>
  rintro d ρ ⟨k,L,rs,y0,hk,hL,hkL,eL,jg,hlen,rfl,kk⟩;have hpk:=pv (ys:=ys) (h:=h) hk;have hd3:((dO ys h (1+m0)).drop (k+1)).length<=3:=by rw[YS,h_];omega
  have hd4:∀p∈(dO ys h (1+m0)).drop (k+1),p.2.length<=4:=λp hp=>Bo (by omega) p (List.mem_of_mem_drop hp);have agw:k * sh<=ns.length:=by omega
  have Q5:gk (ns.map T.int) (some ((k:Int) * (sh:Int))) (some (L:Int))=((ns.drop (k * sh)).take (L-k * sh)).map T.int:=by
   have e3:(k:Int) * (sh:Int)=((k * sh:Nat):Int):=by push_cast;rfl
   rw[e3];exact Q3 T.int ns _ _ agw hL
  generalize hms:(ns.drop (k * sh)).take (L-k * sh)=ms at Q5;have agx:ms.length=L-k * sh:=by rw[<- hms,IE,YS];omega
  refine⟨.inl ⟨by show -(2 ^ 64:Int)<(k:Int);omega,by show (k:Int)<(2 ^ 64:Int);omega⟩,?_⟩;show pQ (gk (ns.map T.int) (some ((k:Int) * (sh:Int))) (some (L:Int))) _ _ _ _;rw[Q5];refine se (λi ρ=>∃y0 rt st body bS,ρ=[some (.lst (ns.map .int),false),some (gC ys,false),some (.int h,false),some (.int (1+(m0:Int)),false),some (.lst (szT h),false),some (.int (sh:Int),false),some (.lst rt,true),some (.int (k:Int),false),some (jC ((dO ys h (1+m0)).drop (k+1)),false),some (.lst st,true),some (.int (L:Int),false),y0]/\rt=(List.replicate n1 Rw.skip++rs++[Rw.df (ys.getD k Str.empty) (ys.take ((wy h).getD k 0))]++body).map aW/\st=bS.map .str/\Body ys ((dO ys h (1+m0)).drop (k+1)) bS body/\body.length<=2 * i/\bS.length<=4)
   ⟨y0,_,_,[],[],rfl,by rw[FD],rfl,.nil,by simp,by simp⟩ ?_ ?_
  rintro i z ρ hi ⟨y0,_,_,body,bS,rfl,rfl,rfl,hB,hb,Ta⟩;have hil:i<ms.length:=(eW.mp hi).1;have Uo:body.length<=3 * 63:=by omega
  refine⟨_,bS,z,ys,_,rfl,Y,hd3,hd4,?_,Ta,λnew dF adZ h4=>?_⟩;simp only[pH,BB,y4,X3];have:2 * (k * sh)<=2 * 63:=by omega
  omega;have hl:=Q2 adZ;refine⟨_,_,_,body++new,dF,rfl,by rw[<- Ti],rfl,.step hB adZ,?_,h4⟩;rw[pH];omega;rintro ρ ⟨y0,_,_,body,bS,rfl,rfl,rfl,hB,hb,Ta⟩;have adU:((bS.map T.str).length:Int)=(bS.length:Int):=by rw[c3]
  rw[agx] at hb;refine⟨cf (by simp),cf (by simp),by omega,by omega,by rw[sizeLine_eq];simp;omega,?_⟩;have eE:(List.replicate ((bS.map T.str).length:Int).toNat [(Rt.vw (T.tup [(Rt.vw (T.str "end")).t])).t]).flatten=(List.replicate bS.length Rw.fin).map aW:=by
   rw[adU,yV,List.map_replicate];generalize bS.length=n;induction n with
   |zero=>rfl
   |succ n ih=>rw[ud,NB,ih,ud];rfl
  rw[eE];have hrl:(List.replicate n1 Rw.skip++rs++[Rw.df (ys.getD k Str.empty) (ys.take ((wy h).getD k 0))]++body).length<=700:=by simp only[pH,BB,y4,X3];omega
  refine⟨by rw[c3,c3,BB,sizeLine_eq];omega,?_⟩;refine⟨⟨by show (0:Int)<162+(k:Int);omega,by show 162+(k:Int)<1073741824;omega⟩,rfl,_,ys,rfl,R.div (by omega),Y,λo ho=>⟨cf (by simp),?_,kk _ ?_⟩⟩;rw[pH,c3,c3,BB];exact fits (by omega);refine⟨_,_,_,_,_,_,rs++(Rw.df (ys.getD k Str.empty) (ys.take ((wy h).getD k 0))::(body++(List.replicate bS.length Rw.fin++(Rw.give o::[])))),rfl,?_,.succ jg hpk hB ho (.inl rfl),?_⟩;simp only[t_,ix,N6,Ti,RF,X1];rfl;simp only[pH,y4,BB,X3];have ahd:2 * (k * sh)+2 * (L-k * sh)<=2 * (if k+1=1+m0 then ns.length else (k+1) * sh):=by by_cases hkm:k=m0;rw[if_pos (by omega)];omega;rw[if_neg (by omega)];rw[if_neg hkm] at eL;omega
  omega
 case main=>
 refine⟨by decide,?_⟩;rw[em0];refine⟨⟨by decide,by decide⟩,by decide,⟨by decide,by decide⟩,by decide,⟨by decide,by decide⟩,by decide,cf (by simp),⟨by show (0:Int)<1+(m0:Int);omega,by show 1+(m0:Int)<1073741824;omega⟩,?_⟩;have Xe:((ns.map T.int).length:Int) / (1+(m0:Int))=(sh:Int):=by
  have e1:(1+(m0:Int))=((1+m0:Nat):Int):=by omega
  rw[eN,esh,e1,Int.natCast_ediv]
 refine⟨cf (by simp),cf (by simp),⟨by decide,by decide⟩,by decide,?_⟩;rw[en1,Xe];refine⟨by omega,by omega,by rw[sizeLine_eq];simp;omega,?_⟩;rw[yV];refine⟨by omega,by omega,?_⟩;have eM:(1+(m0:Int)).toNat=1+m0:=by omega
 rw[eM];have eR:(List.replicate n1 [(Rt.vw (T.tup [(Rt.vw (T.str "skip")).t])).t]).flatten=(List.replicate n1 Rw.skip).map aW:=by
  rw[List.map_replicate];clear hn1 en1;induction n1 with
  |zero=>rfl
  |succ n ih=>rw[ud,NB,ih,ud];rfl
 rw[eR];refine sd (IP ns ys h m0 sh n1)
  ⟨_,_,_,_,_,_,[],rfl,by rw[FD],.zero,by simp⟩ ?_ ?_
 rintro k ρ hk ⟨b7,b8,b9,yJ,y0,_,rs,rfl,rfl,jg,hlen⟩;rw[X4];rw[if_neg (by omega)] at hlen;have hk3:k<3:=by omega
 have hz:=tP h hk3;have hks:k * sh+sh<=ns.length:=by
  have:(k+1) * sh<=(1+m0) * sh:=Nat.mul_le_mul_right _ (by omega);have e:(k+1) * sh=k * sh+sh:=by rw[Nat.add_mul,Nat.one_mul]
  omega
 have hyk:k<ys.length:=by omega
 have ek:jQ (ys.map T.str) (k:Int)=some (.str (ys.getD k Str.empty)):=ah (by rw[ie,lT hyk,List.getD,lT hyk];rfl);have esz:=MW h hk3;have Q5:gk (ys.map T.str) none (some (((wy h).getD k 0:Nat):Int))=(ys.take ((wy h).getD k 0)).map T.str:=Du T.str ys _ (by omega);have hpk:=pv (ys:=ys) (h:=h) hk;have agy:((List.replicate n1 Rw.skip++rs).map aW).length<sizeLine:=by rw[c3,pH,BB];exact fits (by omega)
 refine⟨_,ek,_,esz,cf (by simp),agy,rfl,⟨by omega,by omega,by omega,by omega⟩,by rw[dC];exact cf (by omega),?_⟩;have eT:(1+(m0:Int)-((k:Int)+1)).toNat=m0-k:=by omega
 rw[eT];refine kr (u:=λi=>.tup [.str (ys.getD (k+1+i) Str.empty),.int ((ys.take ((wy h).getD (k+1+i) 0)).length:Nat)]) (λi hi r hr=>?_) ?_;have hi2:k+1+i<3:=by omega
 have e1:((k:Int)+1+(i:Int))=((k+1+i:Nat):Int):=by omega
 rw[e1];have hy2:k+1+i<ys.length:=by omega
 have ek2:jQ (ys.map T.str) ((k+1+i:Nat):Int)=some (.str (ys.getD (k+1+i) Str.empty)):=ah (by rw[ie,lT hy2,List.getD,lT hy2];rfl);have hz2:=tP h hi2;have el:(ys.take ((wy h).getD (k+1+i) 0)).length=(wy h).getD (k+1+i) 0:=by rw[IE];omega
 rw[el] at hr;exact⟨_,ek2,_,MW h hi2,cf (by simp),hr⟩;have eTh:((List.range (m0-k)).map λi=>T.tup [.str (ys.getD (k+1+i) Str.empty),.int ((ys.take ((wy h).getD (k+1+i) 0)).length:Nat)])=((dO ys h (1+m0)).drop (k+1)).map λp=>T.tup [.str p.1,.int (p.2.length:Int)]:=by unfold dO;refine RE λi=>?_;rw[ie,ie,List.getElem?_drop,ie];by_cases hi:i<m0-k;rw[N0 hi,N0 (by omega)];rfl;rw[NA (by rw[NC];omega),NA (by rw[NC];omega)];rfl
 have agz:(List.replicate n1 Rw.skip++rs).map aW++[T.tup [T.str "def",T.str (ys.getD k Str.empty),T.tup (gk (ys.map T.str) none (some (((wy h).getD k 0:Nat):Int)))]]=(List.replicate n1 Rw.skip++rs++[Rw.df (ys.getD k Str.empty) (ys.take ((wy h).getD k 0))]).map aW:=by rw[t_ (l₂:=[_]),Q5];rfl
 show UI _ _ _ [_,_,_,_,_,_,some (.lst ((List.replicate n1 Rw.skip++rs).map aW++[T.tup [T.str "def",T.str (ys.getD k Str.empty),T.tup (gk (ys.map T.str) none (some (((wy h).getD k 0:Nat):Int)))]]),true),_,some (.lst ((List.range (m0-k)).map λi=>T.tup [.str (ys.getD (k+1+i) Str.empty),.int ((ys.take ((wy h).getD (k+1+i) 0)).length:Nat)]),false),_,_,_];rw[eTh,agz];refine⟨cf (by simp),?_⟩;refine cX (λhkm=>?_) (λhkm=>?_);have agA:(k:Int)=1+(m0:Int)-1:=hkm;refine⟨k,ns.length,rs,y0,hk,c_ _,by omega,by rw[if_pos (by omega)],jg,hlen,?_,λρ' h=>h⟩;rw[<- eN];rfl;have agA:¬ ((k:Int)=1+(m0:Int)-1):=hkm;refine⟨.inl ⟨by show -(2 ^ 64:Int)<(k:Int)+1;omega,by show (k:Int)+1<(2 ^ 64:Int);omega⟩,k,(k+1) * sh,rs,y0,hk,by rw[Nat.add_mul,Nat.one_mul];omega,Nat.mul_le_mul_right _ (by omega),by rw[if_neg (by omega)],jg,hlen,?_,λρ' h=>h⟩;have e3:(((k+1) * sh:Nat):Int)=((k:Int)+1) * (sh:Int):=by push_cast;rfl
 rw[e3];rfl;rintro ρ ⟨b7,b8,b9,yJ,y0,_,rs,rfl,rfl,jg,hlen⟩;rw[if_pos rfl] at hlen;refine hq n1 (dO ys h (1+m0)) rs (by omega) (by rw[h_];omega) (by rw[h_];omega) (HR Y (by omega)) (HS Y (by omega)) (by rw[h_];exact jg) (by omega)
end
end eV
namespace BS
open PySem PySem.Builtin PyProof.Rows
end BS
namespace On
open PySem L2 VT Gen K5 Lay BS
def X6(p:Nat->Bool):qai->qao->qai
 |x::s,j::t=>if p j=true then x::X6 p s t else X6 p s t
 |_,_=>[]
end On
namespace On
open PySem L2 VT Gen K5 Lay BS
open PySem.Builtin (bitOr)
theorem Q6(hp:∀p∈pl,p.1∈ys/\p.2.length<=2/\p.2.Nodup/\∀x∈p.2,x∈ys)(h:Pre ys pl n rs):∀r∈rs,G1 ys r:=by
 induction h with
 |zero=>intro r hr;cases hr
 |@succ k rs f ps bS body o sk _ hk hb ho hs ih=>
  intro r hr;rcases cU.mp hr with hr|hr
  exact ih r hr;rcases List.mem_cons.mp hr with rfl|hr
  obtain⟨h1,h2,h3,h4⟩:=hp _ (iw hk);exact⟨h1,h2,h3,h4⟩;rcases cU.mp hr with hr|hr
  exact PR (λf ps h=>⟨(hp _ (List.mem_of_mem_drop h)).1,(hp _ (List.mem_of_mem_drop h)).2.1⟩) hb r hr;rcases cU.mp hr with hr|hr
  rw[(List.mem_replicate.mp hr).2];trivial;rcases c4.mp hr with rfl|hr
  exact ho;obtain rfl|rfl:=hs
  cases hr;simp only[c4,gD,or_false] at hr;subst hr;trivial
end On
namespace VT
open PySem PySem.Spec PyProof.Rows L2 PySem.MeetsSeq PySem.SeqAt
end VT
namespace kW
open PySem L2 VT Gen W8 Rg Lay K5
open eV (Ys NZ gC Mx Dt)
open pN (d_)
open ki (Vl vT nm eF RI)
def top(i:Nat):Stmt:=PySem.Challenge.pw_slicewise_k16_cut_anywhere.main.body.getD i (.Pass ⟨0,0,0,0⟩)
abbrev Dy:Stmt:=top 62
abbrev MZ:Stmt:=top 63
abbrev nZ:Stmt:=top 64
structure MgL(mg:qae):Prop where
 isinstance:mg "isinstance"=none
 tuple:mg "tuple"=none
 list:mg "list"=none
 len:mg "len"=none
 range:mg "range"=none
 enumerate:mg "enumerate"=none
theorem cf(h:n<=1000):n<=sizeLine:=Gen.small h
def Dg(t:T):Prop:=plainT t=true/\dep t<=3
theorem Q7(v:Vl):plainT (vT v)=true/\dep (vT v)<=1:=by
 cases v with
 |num i=>exact⟨rfl,by simp[vT,dep]⟩
 |GZ p r=>exact⟨rfl,by simp[vT,dep,gx]⟩
theorem ad0(e:Ev)(ce:Ce)(c:Ct)(p:Nat)(r:Rw):Dg (ub e ce c p r):=by
 have h1:bH ((gq r).map λo=>vT (look e o))=true:=c9 (f:=λo=>vT (look e o)) (λo=>(Q7 _).1) _;have h2:=fu (f:=λo=>vT (look e o)) (n:=1) (λo=>(Q7 _).2) (gq r);have h3:plainT (oV (we e ce c p r))=true/\dep (oV (we e ce c p r))<=1:=by
  cases we e ce c p r with
  |none=>exact⟨rfl,by simp[oV,dep]⟩
  |some v=>exact Q7 v
 unfold ub Dg;simp only[plainT,bH,dep,gx,h1,h3.1,NI,true_and];have:=h3.2;omega
theorem M6{t:T}(h:uY t):plainT t=true/\dep t<=2:=by
 obtain⟨v,rfl⟩|rfl|rfl|⟨w,rfl⟩:=h
 have:=Q7 v;unfold jL;simp only[plainT,bH,dep,gx,this.1,NI,true_and];have:=this.2;omega;exact⟨rfl,by simp[sH,dep,gx]⟩;exact⟨rfl,by simp[eG,dep,gx]⟩;exact⟨rfl,by simp[wc,dep,gx]⟩
theorem yK{t:T}(h:uY t):∃x u,t=.tup [.str x,u]/\Cc (.str x) [.str "done",.str "fault",.str "cut"]=true/\(x="cut"↔t=eG):=by
 obtain⟨v,rfl⟩|rfl|rfl|⟨w,rfl⟩:=h
 exact⟨_,_,rfl,by decide +kernel,λe=>absurd e (by decide +kernel),λe=>by unfold jL eG at e;injection e with e;injection e with e1 _;injection e1⟩;exact⟨_,_,rfl,by decide +kernel,λe=>absurd e (by decide +kernel),λe=>by unfold sH eG at e;injection e with e;injection e with e1 _;injection e1⟩;exact⟨_,_,rfl,by decide +kernel,λ_=>rfl,λ_=>rfl⟩;exact⟨_,_,rfl,by decide +kernel,λe=>absurd e (by decide +kernel),λe=>by unfold wc eG at e;injection e with e;injection e with e1 _;injection e1⟩
section
theorem Xf(W:Wl rs){s:Lv}{R:Res}(h:qV rs most n s R):qU rs s->(∀t∈s.dn,Dg t)->∀t∈R.1,Dg t:=by
 have add:∀{l:qaj}{t:T},(∀u∈l,Dg u)->Dg t->∀u∈l++[t],Dg u:=λ{l t} hl ht u hu=>by
  rcases cU.mp hu with z|z
  exact hl u z;rw[jV.mp z];exact ht
 induction h with
 |@fin s R h=>
  intro I hd;rcases cS W I with⟨s',_,_,h2⟩|⟨r,hr,hs,h2⟩
  rw[h2] at h;cases h;rw[h2] at h;split at h;cases h;exact hd;have:=gh W I hr hs;rw[h] at this;rw[this.1];exact add hd (ad0 _ _ _ _ _)
 |@go n s s' R h k ih=>
  intro I hd;rcases cS W I with⟨s2,I2,e2,h2⟩|⟨r,hr,hs,h2⟩
  rw[h2] at h;cases h;exact ih I2 (by rw[e2];exact hd);rw[h2] at h;split at h;cases h;have e:=gh W I hr hs;rw[h] at e;have e':s'.dn=_:=e;rcases i_ W I hr hs with⟨s3,h3,I3,_⟩|⟨R3,h3⟩
  rw[h] at h3;cases h3;exact ih I3 (by rw[e'];exact add hd (ad0 _ _ _ _ _));rw[h] at h3;cases h3
structure Told(most:Nat)(R:Res):Prop where
 im:eD R.1=true
 dg:∀t∈R.1,Dg t
 en:uY R.2
 le:R.1.length<=most
 cu:R.2=eG->R.1.length=most
theorem gr(W:Wl rs){ins:qan}{R:Res}(h:gG rs ins most R):Told most R:=by
 cases h with
 |bare h=>exact⟨rfl,(λt ht=>nomatch ht),.inl ⟨_,rfl⟩,jU _,λe=>by unfold jL eG at e;injection e with e;injection e with e1 _;injection e1 with e1;exact absurd e1 (by decide +kernel)⟩
 |oP h hd k=>have I:=yE W hd ins;obtain⟨h1,h2,h3,h4,_⟩:=k.tells W I rfl (jU _);exact⟨h1,Xf W k I (λt ht=>nomatch ht),h2,h3,h4⟩
theorem yL(W:Wl rs)(ins:qan)(most:Nat):∃R,gG rs ins most R:=by
 cases hm:fB rs with
 |none=>exact⟨_,.bare hm⟩
 |some a=>obtain⟨⟨f,ps,hd⟩,_⟩:=i6 hm;obtain⟨n,R,h⟩:=QV W most (yE W hd ins);exact⟨R,.oP hm hd h⟩
theorem M7(W:Wl rs){ins:qan}{o:Nat}{R R':Res}(h:gG rs ins most R)(h':gG rs ins o R'):(o<R.1.length->R'=(R.1.take o,eG))/\(R.1.length<=o->R.2≠eG->R'=R)/\(R.1.length<=o->R.2=eG->∃l,R'.1=R.1++l):=by
 cases h with
 |bare h=>
  cases h' with
  |bare h2=>exact⟨λz=>absurd z (by simp),λ_ _=>rfl,λ_ _=>⟨[],rfl⟩⟩
  |oP h2 hd k=>rw[h] at h2;cases h2
 |oP h hd k=>
  cases h' with
  |bare h2=>rw[h] at h2;cases h2
  |oP h2 hd2 k2=>rw[h] at h2;cases h2;rw[hd] at hd2;cases hd2;have I:=yE W hd ins;refine⟨λz=>?_,λz hc=>?_,λz hc=>?_⟩;obtain⟨m,hm⟩:=k.less W I (jU _) z;exact k2.det hm;exact k2.det (k.more W I (jU _) hc z);have:=(gr W (.oP h hd k)).cu hc;exact k.ext W I rfl (jU _) (by omega) hc k2
end
def c0(R:Res):T:=.tup [.lst R.1,R.2]
def M8(ts:qaj)(q:qam):Prop:=∃R:Res,ts=[c0 R]/\uY R.2/\q (.vw (.bl true))
def ad1(ts:qaj)(q:qam):Prop:=∃(rs:qal)(ins:qan)(o most:Nat)(R:Res),ts=[.lst (rs.map aW),.lst (ins.map .int),.int (o:Int),.lst R.1,R.2]/\Wl rs/\ins.length<=100/\o<=900/\gG rs ins most R/\most<=900/\q (.vw (.bl true))
theorem dgs{l:qaj}(h:∀t∈l,Dg t):plainT (.lst l)=true/\dep (.lst l)<=4:=by
 simp only[plainT,dep];induction l with
 |nil=>exact⟨rfl,by simp[gx]⟩
 |cons t l ih=>obtain⟨a,b⟩:=h t dP;obtain⟨c,d⟩:=ih λu hu=>h u (ic _ hu);simp only[bH,gx,a,c,NI,true_and];omega
theorem Bp(l:qaj)(k:Nat):gk l none (some (k:Int))=l.take k:=by unfold gk;rw[HT.k5];by_cases h:k<=l.length;rw[YU h];simp[HT.fj];rw[Nat.min_eq_right (by omega),List.take_of_length_le (l:=l) (by omega:l.length<=k)];simp[HT.fj]
section
abbrev oZ:qai:=qaW
theorem Fw:az oZ qaW (ai Dy):=L2.gJ
theorem Q8(D:Df K mg "_law_ends" Dy qaW f fd)(M:MgL mg):bU P w K mg base "_law_ends" qaW 1 (c8 K 1 M8):=by
 refine D.g9 (m7 D.F Fw rfl λbz A outer s H E Ox hr ts q hG=>?_);have nd:=Fw.nd;have hu:=bA.gy hr;refine⟨_,(aj (bt (VW.vc (rJ (iM (gv (lg ma (by rfl) M.isinstance (by rfl) M.tuple lh (aa 0)))) (rJ (nz hu (qas (aT aN aO (by rfl) M.len jW (aA (aa 0) aK))) (qas af)) (rJ (iM (gv (lg Gs (by rfl) M.isinstance (by rfl) M.list me (qas (aC (aa 0) (qas af)))))) (rH (iM (gv (lg ma (by rfl) M.isinstance (by rfl) M.tuple lh (qas (aC (aa 0) (qas af)))))))))))
   (aw (aI (qau rF)))
   aV)
  (aw (aI (qau (rK (vM hu (qas (aT aN aO (by rfl) M.len jW (aA (qas (aC (aa 0) (qas af))) aK))) (qas af)) (wZ (R_ (qas (aC (qas (aC (aa 0) (qas af))) (qas af))) (qas (br (ae (qat aG) (ae (qat aG) (ae (qat aG) ar)))))))))))),λ_=>?_⟩
 obtain⟨R,rfl,hE,hq⟩:=hG;obtain⟨x,u,e,hx,_⟩:=yK hE;unfold c0;rw[e];refine⟨rfl,_,ah (j:=0) rfl,rfl,_,ah (j:=1) rfl,rfl,?_⟩;refine⟨_,ah (j:=1) rfl,_,ah (j:=1) rfl,_,ah (j:=0) rfl,cf (by simp),rfl,rfl,?_⟩;show q (.vw (.bl (Cc (.str x) [.str "done",.str "fault",.str "cut"])));rw[hx];exact hq
abbrev ad2:qai:=["_law_rows","_law_inputs","_law_most","_law_doings","_law_end","_law_told"]
theorem M9:az ad2 qaX (ai MZ):=L2.gJ
theorem Xg(D:Df K mg "_law_cut" MZ qaX f fd)(M:MgL mg)(M_:W6 P w K mg base)(Dz:bU P w K mg base "_law_ends" qaW 1 (c8 K 1 M8)):bU P w K mg base "_law_cut" qaX 9 (c8 K 5 ad1):=by
 obtain⟨ad3,Xh,Xi,Bq,Br,Bs,ad4,Bt⟩:=M_;obtain⟨Xj,Q9,DA,DB,DC,DD⟩:=Dz;refine D.g9 (m7 D.F M9 rfl λbz A outer s H E Ox hr ts q hG=>?_);have nd:=M9.nd;have hu:=bA.gy hr;have np:∀{i:Nat},bO ⟨H,[],Ox⟩ i:=pS;refine⟨_,(aj (bq (i:=5) nd rfl (Or.inl rfl) (qau (NR.vp (kg Bt (hr.mono (by decide)) (by rfl) Bq Br Bs .nil (dts:=[]) (λ_ _=>aB.nil) (ae (qat (dU dR fO (by rfl) M.list me (aA (aa 0) aK))) (ae (qat (dU dR fO (by rfl) M.list me (aA (aa 1) aK))) (ae (aq 2) ar)))))) np)
  (aj (bt (iM (gv (aQ DD (hr.mono (by decide)) (by rfl) DA DB DC (ae (aq 5) ar))))
   (aw (aI (qau rF)))
   aV)
  (aj (bt (pP (aa 2) (qas (aT aN aO (by rfl) M.len jW (aA (aa 3) aK))))
   (aw (aI (qau (vM hu (aa 5) (qas (br (ae (qat (gm (aa 3) k_ (gc (aa 2)))) (ae (qat (br (ae (qat aG) (ae (qat af) ar)))) ar))))))))
   aV)
  (aj (bt (bK hu (qas (aC (aa 4) (qas af))) (qas aG))
   (aw (aI (qau (rK (JW zg zg (qas (aT aN aO (by rfl) M.len jW (aA (aa 3) aK))) (qas (aT aN aO (by rfl) M.len jW (aA (qas (aC (aa 5) (qas af))) aK))) (aa 2)) (wZ (vM hu (qas (gm (qas (aC (aa 5) (qas af))) k_ (gc (qas (aT aN aO (by rfl) M.len jW (aA (aa 3) aK)))))) (aa 3)))))))
   aV)
  (aw (aI (qau (vM hu (aa 5) (qas (br (ae (aq 3) (ae (aq 4) ar)))))))))))),λ_=>?_⟩
 obtain⟨rs,ins,o,most,R,rfl,W,Cf,ho,hR,hm,hq⟩:=hG;obtain⟨R',hR'⟩:=yL W ins o;have t1:=gr W hR;have t2:=gr W hR';obtain⟨L1,L2,L3⟩:=M7 W hR hR';refine⟨rfl,rs,ins,o,R',rfl,W,Cf,ho,hR',?_⟩;refine⟨rfl,R',rfl,t2.en,?_⟩;refine fR (c:=false) rfl ?_;have pl:∀{R:Res},(∀t∈R.1,Dg t)->uY R.2->plainT (c0 R)=true/\dep (c0 R)<=100:=λ{R} h1 h2=>by obtain⟨a,b⟩:=dgs h1;obtain⟨c,d⟩:=M6 h2;unfold c0;simp only[plainT,bH,dep,gx] at a b ⊢;rw[a,c];exact⟨rfl,by omega⟩
 have p2:=pl t2.dg t2.en;have e2:=eO _ p2.1;refine cX (λh=>?_) (λh=>?_);have h':o<R.1.length:=by omega
 have:=L1 h';subst this;have ec:gk R.1 none (some (o:Int))=R.1.take o:=Bp R.1 o;refine⟨cf (by simp),cf (by simp),?_⟩;show Gn (c0 (R.1.take o,eG)) (.tup [.lst (gk R.1 none (some (o:Int))),eG]) _;rw[ec];refine⟨p2.1,p2.1,p2.2,?_⟩;show q (.vw (.bl (eqT (c0 (R.1.take o,eG)) (c0 (R.1.take o,eG)))));rw[e2];exact hq;have h':R.1.length<=o:=by omega
 obtain⟨x,u,e,hx,hc⟩:=yK t1.en;obtain⟨Ds,En⟩:=R;have e':En=.tup [.str x,u]:=e;subst e';refine⟨_,ah (j:=0) rfl,?_⟩;refine cX (λhx=>?_) (λhx=>?_);obtain⟨l,hl⟩:=L3 h' (hc.mp hx);have y':R'.1=Ds++l:=hl;have hle:=t2.le;refine⟨_,ah (j:=0) rfl,?_⟩;refine Nm.sI (c:=decide ((Ds.length:Int)<=(R'.1.length:Int))) (λ_=>?_) (λz=>absurd z (by rw[decide_eq_true (by rw[y',pH];omega)];decide));refine Nm.sI (c:=decide ((R'.1.length:Int)<=(o:Int))) (λ_=>?_) (λz=>absurd z (by rw[decide_eq_true (by omega)];decide));have ec:gk R'.1 none (some (Ds.length:Int))=Ds:=by rw[Bp,y',List.take_left]
 obtain⟨d1,d2⟩:=dgs t1.dg;refine⟨_,ah (j:=0) rfl,?_⟩;show Gn (.lst (gk R'.1 none (some (Ds.length:Int)))) (.lst Ds) _;rw[ec];refine⟨d1,d1,mX d2 (by decide),?_⟩;show q (.vw (.bl (eqT (.lst Ds) (.lst Ds))));rw[eO _ d1];exact hq;have:=L2 h' (λz=>hx (hc.mpr z));subst this;refine⟨cf (by simp),p2.1,p2.1,p2.2,?_⟩;show q (.vw (.bl (eqT (c0 (Ds,.tup [.str x,u])) (c0 (Ds,.tup [.str x,u])))));rw[e2];exact hq
end
def Q_(ts:qaj)(q:qam):Prop:=∃ns:qan,ts=[.lst (ns.map .int)]/\ns.length<=63/\q (.vw (.bl true))
theorem tR(h:pN.d_ y=true):y.length<=8:=by unfold pN.d_ at h;simp only[m9,decide_eq_true_eq] at h;omega
theorem ad5(hy:∀y∈ys,pN.d_ y=true)(h:G1 ys r):Yr r:=by
 have nmo:∀{x:Str},x∈ys->sG (.nm x):=λ{x} hx=>⟨hy x hx,by have:=tR (hy x hx);omega⟩;have op:∀{o:jK},eU ys o->sG o:=λ{o} ho=>by
  cases o with
  |nm x=>exact nmo ho
  |nu i=>exact ho
 have ky:∀{k:Ky},GX ys k->NT k:=λ{k} hk=>by
  cases k with
  |fld x=>exact⟨hy x hk,by have:=tR (hy x hk);omega⟩
  |op o=>exact op hk
 cases r with
 |df f ps=>exact⟨mX h.2.1 (by decide),λx hx=>nmo (h.2.2.2 x hx)⟩
 |give a=>exact op h
 |put x a=>exact op h.2
 |m8 x a o b=>exact⟨op h.2.1,h.2.2.1,op h.2.2.2⟩
 |get x r k=>exact⟨nmo h.2.1,ky h.2.2⟩
 |set r k a=>exact⟨nmo h.1,ky h.2.1,op h.2.2⟩
 |call x f as=>exact⟨mX h.2.2.1 (by decide),λo ho=>op (h.2.2.2 o ho)⟩
 |mn a=>exact op h
 |gS a=>exact op h
 |_=>trivial
theorem Bu:∀n,dr 0 (List.replicate n Rw.skip)=some 0
 |0=>rfl
 |n+1=>by rw[ud];simp only[dr,a9];exact Bu n
theorem M'{k:Nat}(h:Pre ys pl k rs)(hk:1<=k)(n:Nat):∃i,fB (List.replicate n Rw.skip++rs)=some i:=by
 cases h with
 |zero=>omega
 |@succ k rs f ps bS body o sk _ _ _ _ _=>
  cases e:fB (List.replicate n Rw.skip++(rs++(.df f ps::(body++(List.replicate bS.length .fin++(.give o::sk)))))) with
  |some i=>exact⟨i,rfl⟩
  |none=>have hm:Rw.df f ps∈List.replicate n Rw.skip++(rs++(.df f ps::(body++(List.replicate bS.length .fin++(.give o::sk))))):=bW _ (bW _ dP);obtain⟨j,hj⟩:=Ry.mp hm;exact absurd hj (wa e j f ps)
theorem Xk(ns:qan):gk (ns.map T.int) (some 4) (some 24)=((ns.drop (min 4 ns.length)).take (min 24 ns.length-min 4 ns.length)).map T.int:=by unfold gk;rw[c3,<- List.map_drop,<- List.map_take];rw[show (4:Int)=((4:Nat):Int) from rfl,show (24:Int)=((24:Nat):Int) from rfl,HT.k5,HT.k5]
theorem DE(rs:qal):plainT (.lst (rs.map aW))=true:=by simp only[plainT];exact c9 Cs rs
theorem bind_eq(ps:qai){gs gs':List Vl}:∀k,(∀j,j<k->gs.getD j (.num 0)=gs'.getD j (.num 0))->cy ps gs k=cy ps gs' k
 |0,_=>rfl
 |k+1,h=>by unfold cy;rw[bind_eq ps k λj hj=>h j (by omega),h k (by omega)]
theorem Bv{a:Nat}{f:Str}(hm:fB rs=some a)(hd:rs[a]?=some (.df f ps)){ins Ra:qan}{R:Res}(h:∀j,j<ps.length->eF (ins.getD j 0)=eF (Ra.getD j 0))(hR:gG rs ins most R):gG rs Ra most R:=by
 have g0:∀(l:qan)(j:Nat),(Dp l).getD j (.num 0)=.num (eF (l.getD j 0)):=λl j=>by unfold Dp;rw[List.getD,List.getD,ie];cases l[j]?<;>rfl
 have e:cy ps (Dp ins) ps.length=cy ps (Dp Ra) ps.length:=bind_eq ps _ λj hj=>by rw[g0,g0,h j hj]
 cases hR with
 |bare h2=>rw[hm] at h2;cases h2
 |oP h2 hd2 k=>
  rw[hm] at h2;cases h2;rw[hd] at hd2;cases hd2;have e2:Yw a ps Ra=Yw a ps ins:=by unfold Yw;rw[e]
  exact .oP hm hd (by rw[e2];exact k)
theorem Rb{ins:qan}{R R':Res}(h:gG rs ins most R)(h':gG rs ins most R'):R=R':=by
 cases h with
 |bare h=>
  cases h' with
  |bare _=>rfl
  |oP h2 _ _=>rw[h] at h2;cases h2
 |oP h hd k=>
  cases h' with
  |bare h2=>rw[h] at h2;cases h2
  |oP h2 hd2 k2=>rw[h] at h2;cases h2;rw[hd] at hd2;cases hd2;exact k.det k2
theorem HU(l:qan):eS (l.map T.int)=(l.zipIdx).map λp=>.tup [.int (p.2:Int),.int p.1]:=by unfold eS;refine RE λi=>?_;rw[YN,ie,ie,YO];cases l[i]?<;>simp
def kX(ins:qan):qan:=(ins.zipIdx).map λp=>p.1+2 * 10 ^ (30:Int).toNat * ((p.2:Int)-1)
theorem Rc(ins:qan)(j:Nat):eF ((kX ins).getD j 0)=eF (ins.getD j 0):=by
 unfold kX;rw[List.getD,List.getD,ie,YO];cases ins[j]? with
 |none=>rfl
 |some i=>show eF (i+2 * 10 ^ (30:Int).toNat * (((0+j:Nat):Int)-1))=eF i;unfold eF;rw[show (10:Int) ^ (30:Int).toNat=1000000000000000000000000000000 by decide +kernel,Int.add_right_comm,Int.add_mul_emod_self_left]
theorem ad6:∀k:Nat,(List.replicate k [T.int 7]).flatten=(List.replicate k (7:Int)).map T.int
 |0=>rfl
 |k+1=>by rw[ud,NB,ad6 k,ud];rfl
theorem ad7{c:Bool}{A:Prop}(hc:c=true)(h:A):if c=true then A else B:=by rw[if_pos hc];exact h
def Rf:Rw->Bool
 |.df _ _=>true
 |_=>false
theorem Rh(r:Rw):decide (wd r="def")=Rf r:=by cases r<;>rfl
theorem Na{a:Nat}{f:Str}(hm:fB rs=some a)(hd:rs[a]?=some (.df f ps)):(rs.filter Rf)[0]?=some (.df f ps):=by
 obtain⟨_,hb⟩:=i6 hm;have ha:=(eW.mp hd).1;have e:rs=rs.take a++.df f ps::rs.drop (a+1):=by
  have:rs.drop a=.df f ps::rs.drop (a+1):=by obtain⟨h1,h2⟩:=eW.mp hd;rw[<- h2];exact ace h1
  rw[<- this,ab6]
 have e0:(rs.take a).filter Rf=[]:=by
  rw[List.filter_eq_nil_iff];intro r hr hz;obtain⟨j,hj⟩:=Ry.mp hr;rw[List.getElem?_take] at hj;split at hj;cases r with
  |df g qs=>exact hb j (by assumption) g qs hj
  |_=>cases hz
  cases hj
 rw[e,ack,e0,X1,YH rfl];rfl
structure Pg(rs:qal)(a:Nat)(f:Str)(ps:qai):Prop where
 W:Wl rs
 m:fB rs=some a
 d:rs[a]?=some (.df f ps)
 p:ps.length<=2
abbrev vw(t:T):Option (T×Bool):=some (t,false)
def ad8:FS:=λd ρ=>∃(ns:qan)(rs:qal)(a:Nat)(f:Str)(ps:qai)(ins:qan)(b1 b2:Option (T×Bool)),ρ=[vw (.lst (ns.map .int)),b1,b2,vw (.lst (rs.map aW)),vw (.lst (ins.map .int)),none,none,none,none,none,none,none,none]/\Pg rs a f ps/\ins.length<=3/\∀ρ,d.rt ρ (.vw (.bl true))
def Xl:FS:=λd ρ=>∃(ns:qan)(rs:qal)(a:Nat)(f:Str)(ps:qai)(ins:qan)(most:Nat)(R:Res)(b1 b2 b6 yJ:Option (T×Bool)),ρ=[vw (.lst (ns.map .int)),b1,b2,vw (.lst (rs.map aW)),vw (.lst (ins.map .int)),vw (.int (most:Int)),b6,vw (c0 R),vw (.lst R.1),vw R.2,yJ,none,none]/\Pg rs a f ps/\ins.length<=3/\most<=60/\gG rs ins most R/\∀ρ,d.rt ρ (.vw (.bl true))
def ad9:FS:=λd ρ=>∃(ns:qan)(rs:qal)(a:Nat)(f:Str)(ps:qai)(ins:qan)(most:Nat)(R:Res)(od:qan)(b1 b2 b6 yJ y0:Option (T×Bool)),ρ=[vw (.lst (ns.map .int)),b1,b2,vw (.lst (rs.map aW)),vw (.lst (ins.map .int)),vw (.int (most:Int)),b6,vw (c0 R),vw (.lst R.1),vw R.2,yJ,y0,some (.lst (od.map .int),true)]/\Pg rs a f ps/\ins.length<=3/\most<=60/\gG rs ins most R/\(od.length=ins.length/\∀j,eF (od.getD j 0)=eF (ins.getD j 0))/\∀ρ,d.rt ρ (.vw (.bl true))
section
abbrev Bw:qai:=["_law_script","_law_head","_law_names_here","_law_rows","_law_inputs","_law_most","_law_handed","_law_told","_law_doings","_law_end","_law_other","_law_parameters","_law_odd"]
theorem Nb:az Bw qaY (ai nZ):=L2.gJ
theorem HV:(Bw++(["_law_k"]:qai)).Nodup:=by decide +kernel
theorem HW:(Bw++(["_law_k"]:qai)).Nodup:=by decide +kernel
theorem HX:(Bw++(["_law_row"]:qai)).Nodup:=by decide +kernel
theorem wz:(Bw++(["_law_k","_law_number_here"]:qai)).Nodup:=by decide +kernel
theorem Xm(D:Df K mg "law" nZ qaY f fd)(M:MgL mg)(HY:bU P w K mg base "_law_cell_at" qaO 1 (c8 K 2 Mx))(Ri:bU P w K mg base "_law_names" qaR 1 (c8 K 2 Dt))(HZ:bU P w K mg base "_law_program" qaV 6 (c8 K 3 eV.MY))(M_:W6 P w K mg base)(Dz:bU P w K mg base "_law_ends" qaW 1 (c8 K 1 M8))(aea:bU P w K mg base "_law_cut" qaX 9 (c8 K 5 ad1)):bY P w K mg base fG 10 f fd qaY (c8 K 1 Q_):=by
 obtain⟨YC,Xn,fW,fY,fZ,f_⟩:=HY;obtain⟨ae4,aeb,Rj,Rk,Rl,Rm⟩:=Ri;obtain⟨YD,Xo,H_,Ia,Ib,Ic⟩:=HZ;obtain⟨ad3,Xh,Xi,Bq,Br,Bs,ad4,Bt⟩:=M_;obtain⟨Xj,Q9,DA,DB,DC,DD⟩:=Dz;obtain⟨ag6,agB,aec,aed,aee,aef⟩:=aea;refine m7 D.F Nb rfl λbz A outer s H E Ox hr ts q hG=>?_;obtain⟨ns,rfl,h63,hq⟩:=hG;have nd:=Nb.nd;have hu:=bA.gy hr;have np:∀{i:Nat},bO ⟨H,[],Ox⟩ i:=pS;have npf:∀{is:qao},∀i∈is,bO ⟨H,[],Ox⟩ i:=λi _=>pS;refine⟨_,(aj (bq (i:=1) nd rfl (Or.inl rfl) (qau (bj (qas (aQ f_ (hr.mono (by decide)) (by rfl) fW fY fZ (ae (aq 0) (ae (qat af) ar)))) (qas (j3 (qas af) (qas af))))) np)
  (aj (bq (i:=2) nd rfl (Or.inl rfl) (qau (aQ Rm (hr.mono (by decide)) (by rfl) Rj Rk Rl (ae (qat (aQ f_ (hr.mono (by decide)) (by rfl) fW fY fZ (ae (aq 0) (ae (qat af) ar)))) (ae (qat (bZ (qas af) (qas (bj (qas (a7 (aa 1) (qas af))) (qas af))))) ar)))) np)
  (aj (bq (i:=3) nd rfl (Or.inl rfl) (qau (aQ Ic (hr.mono (by decide)) (by rfl) H_ Ia Ib (ae (qat (gm (aa 0) (gc (qas af)) (gc (qas af)))) (ae (aq 2) (ae (aq 1) ar))))) np)
  (aj (qG (i:=4) (ts:=qaS) nd rfl (Or.inl rfl) rfl (by rfl) (fP (by rfl) M.range (qas (bj (qas (a7 (aa 1) (qas af))) (qas af)))) (λ_ _ _ _ _ _=>(bE (i:=13) HV rfl (Or.inl rfl) np)) (λ_ _ _ _ _ _=>fm) (λ_ _ _ _ _ _=>(qat (iN (qas (bj (qas (a7 (qas (aQ f_ (hr.mono (by decide)) (by rfl) fW fY fZ (ae (aq 0) (ae (qat af) ar)))) (qas (bZ (qas (gW (aa 13) (aa 13))) (qas af))))) (qas (j3 (qas af) (qas af))))) (qas af)))) np)
  (aj (bt (bK hu (qas (bj (qas (aQ f_ (hr.mono (by decide)) (by rfl) fW fY fZ (ae (aq 0) (ae (qat af) ar)))) (qas af))) (qas af))
   (aw (qG (i:=4) (ts:=qaS) nd rfl (Or.inl rfl) rfl (by rfl) (fP (by rfl) M.range (qas (bj (qas (a7 (aa 1) (qas af))) (qas af)))) (λ_ _ _ _ _ _=>(bE (i:=13) HW rfl (Or.inl rfl) np)) (λ_ _ _ _ _ _=>fm) (λ_ _ _ _ _ _=>(qat (iN (qas (bj (qas (a7 (qas (aQ f_ (hr.mono (by decide)) (by rfl) fW fY fZ (ae (aq 0) (ae (qat af) ar)))) (qas (bZ (qas (gW (qas af) (aa 13))) (qas af))))) (qas af))) (qas af)))) np))
   aV)
  (m5.weak (u:=(ad8)) (aj (bq (i:=5) nd rfl (Or.inl rfl) (qau (bj (qas (aQ f_ (hr.mono (by decide)) (by rfl) fW fY fZ (ae (aq 0) (ae (qat af) ar)))) (qas af))) np)
  (aj (bq (i:=6) nd rfl (Or.inl rfl) (qau (c7 (ae (qat (dU dR fO (by rfl) M.list me (aA (aa 3) aK))) (ae (qat (dU dR fO (by rfl) M.list me (aA (aa 4) aK))) ar)))) np)
  (aj (bq (i:=7) nd rfl (Or.inl rfl) (qau (NR.vp (kg Bt (hr.mono (by decide)) (by rfl) Bq Br Bs .nil (dts:=[]) (λ_ _=>aB.nil) (ae (qat (aC (aa 6) (qas af))) (ae (qat (aC (aa 6) (qas af))) (ae (aq 5) ar)))))) np)
  (aj (bt (VW.vc (rJ (iM (gv (aQ DD (hr.mono (by decide)) (by rfl) DA DB DC (ae (aq 7) ar)))) (rH (nz hu (aa 6) (qas (c7 (ae (aq 3) (ae (aq 4) ar))))))))
   (aw (aI (qau rF)))
   aV)
  (aj (bq (i:=8) nd rfl (Or.inl rfl) (qau (dU dR fO (by rfl) M.list me (aA (qas (aC (aa 7) (qas af))) aK))) np)
  (aj (bq (i:=9) nd rfl (Or.inl rfl) (qau (aC (aa 7) (qas af))) np)
  (aj (bt (VW.vc (rJ (VW.vc (fN (bK hu (qas (aC (aa 9) (qas af))) (qas aG)) (eX (VW.vc (rJ (nz hu (aa 9) (qas (br (ae (qat aG) (ae (qat af) ar))))) (rH (nz hu (qas (aT aN aO (by rfl) M.len jW (aA (aa 8) aK))) (aa 5)))))))) (rH (JF (qas (aT aN aO (by rfl) M.len jW (aA (aa 8) aK))) (aa 5)))))
   (aw (aI (qau rF)))
   aV)
  (m5.weak (u:=(Xl)) (aj (l9 N3 rfl (j5 (qat (c7 (ae (qat (bj (qas (a7 (qas (aQ f_ (hr.mono (by decide)) (by rfl) fW fY fZ (ae (aq 0) (ae (qat af) ar)))) (qas af))) (qas (bZ (qas (aT aN aO (by rfl) M.len jW (aA (aa 8) aK))) (qas af))))) (ae (qat af) (ae (qat af) ar)))))) (bE (i:=10) nd rfl (Or.inl rfl) np)
   (aw (bt (iM (gv (aQ aef (hr.mono (by decide)) (by rfl) aec aed aee (ae (aq 3) (ae (aq 4) (ae (aq 10) (ae (aq 8) (ae (aq 9) ar))))))))
    (aw (aI (qau rF)))
    aV)))
  (m5.weak (u:=(Xl)) (aj (bq (i:=11) nd rfl (Or.inl rfl) (qau (aC (qas (aC (qas (iB (ts:=["_law_row"]) rfl (by rfl) (j5 (aq 3)) (λ_ _ _ _ _ _=>(bE (i:=13) HX rfl (Or.inl rfl) np)) (λ_ _ _ _ _ _=>(EC (bK hu (qas (aC (aa 13) (qas af))) (qas aG)))) (λ_ _ _ _ _ _=>(aq 13)))) (qas af))) (qas af))) np)
  (aj (JL (i:=12) (ts:=["_law_k","_law_number_here"]) nd rfl (Or.inl rfl) rfl (by rfl) (xm (by rfl) M.enumerate (aq 4)) (λ_ _ _ _ _ _=>(rP (n:=2) rfl (eQ (bE (i:=13) wz rfl (Or.inl rfl) np) (eQ (bE (i:=14) wz rfl (Or.inl rfl) np) nA)))) (λ_ _ _ _ _ _=>fm) (λ_ _ _ _ _ _=>(qat (bZ (aa 14) (qas (gW (qas (gW (qas af) (qas (j3 (qas af) (qas af))))) (qas (iN (aa 13) (qas af)))))))) np)
  (aj (bt (VW.vc (fN (nz hu (qas (NR.vp (kg Bt (hr.mono (by decide)) (by rfl) Bq Br Bs .nil (dts:=[]) (λ_ _=>aB.nil) (ae (aq 3) (ae (qat (bZ (aa 12) (qas (md (c7 (ae (qat af) ar)) (qas (iN (qas af) (qas (aT aN aO (by rfl) M.len jW (aA (aa 12) aK))))))))) (ae (aq 5) ar)))))) (aa 7)) (eX (ZU (qas (aT aN aO (by rfl) M.len jW (aA (aa 11) aK))) (qas (aT aN aO (by rfl) M.len jW (aA (aa 12) aK)))))))
   (aw (aI (qau rF)))
   aV)
  (m5.weak (u:=(ad9)) (aj (JK N3 (VW.vc (fN (nz hu (aa 12) (qas (c7 ar))) (eX (bK hu (qas (aC (aa 4) (qas (iN (qas (aT aN aO (by rfl) M.len jW (aA (aa 12) aK))) (qas af))))) (qas af)))))
   (aw (cw (B' 12 ab4 ab5 wW xa))))
  (Ey [12] (aw (aI (qau (rK (vM hu (qas (NR.vp (kg Bt (hr.mono (by decide)) (by rfl) Bq Br Bs .nil (dts:=[]) (λ_ _=>aB.nil) (ae (aq 3) (ae (aq 12) (ae (aq 5) ar)))))) (qas (br (ae (aq 8) (ae (aq 9) ar))))) (wZ (vM hu (qas (aC (aa 7) (qas af))) (aa 8))))))) npf)) ?w4)))) ?w3)) ?w2)))))))) ?w1)))))),λ_=>?main⟩
 case w1=>
  rintro d ρ ⟨ns,rs,a,f',ps,ins,b1,b2,rfl,G,Cf,fin⟩;have W:=G.W;refine⟨rfl,ns,3,rfl,(by show (0:Int)<61;decide),?_⟩;have m0:0<=ns.getD 3 0 % 61:=qg _ (by decide);have m1:ns.getD 3 0 % 61<61:=qf _ (by decide);generalize ns.getD 3 0 % 61=m' at m0 m1 ⊢;obtain⟨most,rfl⟩:=FC m0;obtain⟨R,hR⟩:=yL W ins most;have t1:=gr W hR;refine⟨cf (by simp),_,ah (j:=0) rfl,_,ah (j:=1) rfl,rfl,rs,ins,most,R,rfl,W,by omega,by omega,hR,?_⟩;refine⟨rfl,R,rfl,t1.en,?_⟩;refine fR (c:=false) rfl ?_;have hp:plainT (.lst [.lst (rs.map aW),.lst (ins.map T.int)])=true:=by have h1:=DE rs;have h2:bH (ins.map T.int)=true:=c9 (f:=T.int) (λ_=>rfl) ins;simp only[plainT,bH] at h1 ⊢;rw[h1,h2];rfl
  have hd:dep (.lst [.lst (rs.map aW),.lst (ins.map T.int)])<=100:=by have h1:=fu (f:=aW) (n:=2) K9 rs;have h2:=fu (f:=T.int) (n:=0) (λ_=>c_ _) ins;simp only[dep,gx];omega
  refine⟨cf (by simp),hp,hp,hd,?_⟩;refine fR (c:=!eqT (.lst [.lst (rs.map aW),.lst (ins.map T.int)]) (.lst [.lst (rs.map aW),.lst (ins.map T.int)])) (by rw[eO _ hp];rfl) ?_;obtain⟨x,u,e,hx,hc⟩:=yK t1.en;obtain⟨Ds,En⟩:=R;have e':En=.tup [.str x,u]:=e;subst e';refine⟨_,ah (j:=0) rfl,_,ah (j:=1) rfl,_,ah (j:=0) rfl,?_⟩;have hle:=t1.le;have last:∀ρ':En,ρ'=[vw (.lst (ns.map .int)),b1,b2,vw (.lst (rs.map aW)),vw (.lst (ins.map .int)),vw (.int (most:Int)),vw (.lst [.lst (rs.map aW),.lst (ins.map T.int)]),vw (c0 (Ds,.tup [.str x,u])),vw (.lst Ds),vw (.tup [.str x,u]),none,none,none]->Xl d ρ':=λρ' hρ=>⟨ns,rs,a,f',ps,ins,most,(Ds,.tup [.str x,u]),b1,b2,_,none,hρ,G,Cf,by omega,hR,fin⟩;refine cX (λhxc=>?_) (λhxc=>?_);have m4:=hc.mp hxc;have dQ:u=.int 0:=by
   unfold eG at m4;injection m4 with m4
   injection m4 with _ h2
   injection h2
  have NO:x="cut":=hxc;subst dQ NO;refine⟨cf (by simp),rfl,rfl,by show dep (.tup [.str _,.int _])<=100;simp[dep,gx],?_⟩;refine fR (c:=!eqT (.tup [.str "cut",.int 0]) (.tup [.str "cut",.int 0])) (by rw[eO _ rfl];rfl) ?_;have hlm:=t1.cu m4;have ahe:Ds.length=most:=hlm;refine fR (c:=!decide ((Ds.length:Int)=(most:Int))) (by rw[decide_eq_true (by omega)];rfl) ?_;refine cX (λz=>absurd z (by have:Ds.length<=most:=hle;omega)) (λ_=>last _ rfl);exact cX (λz=>absurd z (by have:Ds.length<=most:=hle;omega)) (λ_=>last _ rfl)
 case w2=>
  rintro d ρ ⟨ns,rs,a,f',ps,ins,most,R,b1,b2,b6,yJ,rfl,G,Cf,W4,hR,fin⟩;have W:=G.W;have t1:=gr W hR;have hle:=t1.le;refine⟨rfl,ns,3,rfl,⟨by decide,by decide⟩,(by show (0:Int)<(R.1.length:Int)+2;omega),cf (by simp),?_⟩;have o0:0<=ns.getD 3 0 / 61 % ((R.1.length:Int)+2):=qg _ (by omega);have o1:ns.getD 3 0 / 61 % ((R.1.length:Int)+2)<(R.1.length:Int)+2:=qf _ (by omega);generalize ns.getD 3 0 / 61 % ((R.1.length:Int)+2)=o' at o0 o1 ⊢;obtain⟨o,rfl⟩:=FC o0;show pQ ([o,0,60].map λi:Nat=>T.int (i:Int)) _ _ _ _;refine se (λ_ ρ=>∃yJ:Option (T×Bool),ρ=[vw (.lst (ns.map .int)),b1,b2,vw (.lst (rs.map aW)),vw (.lst (ins.map .int)),vw (.int (most:Int)),b6,vw (c0 R),vw (.lst R.1),vw R.2,yJ,none,none]) ⟨_,rfl⟩ ?_ ?_;rintro i o' ρ ho ⟨yJ,rfl⟩;have hm:=iw ho;simp only[c4,gD,or_false] at hm;have ho9:o'<=900:=by obtain rfl|rfl|rfl:=hm<;>omega
  refine⟨rfl,rs,ins,o',most,R,rfl,W,by omega,ho9,hR,by omega,?_⟩;exact fR (c:=false) rfl ⟨_,rfl⟩;rintro ρ ⟨yJ,rfl⟩;exact⟨ns,rs,a,f',ps,ins,most,R,b1,b2,b6,yJ,rfl,G,Cf,W4,hR,fin⟩
 case w3=>
  rintro d ρ ⟨ns,rs,a,f',ps,ins,most,R,b1,b2,b6,yJ,rfl,G,Cf,W4,hR,fin⟩;have W:=G.W;have t1:=gr W hR;have hn:=W.n;refine⟨rfl,by rw[c3];exact cf (by omega),?_⟩;refine mC (xs:=rs) (f:=aW) (u:=aW) (p:=Rf) (λ_ _ _ _ _=>trivial) (λr hr k s hk=>?_) ?_;obtain⟨l,el⟩:=qO r;rw[el] at hk ⊢;refine⟨_,ah (j:=0) rfl,?_⟩;show if decide (wd r="def")=true then _ else _
  rw[Rh];exact hk;refine⟨aW (.df f' ps),ah (j:=0) (by rw[ie,Na G.m G.d];rfl),_,ah (j:=2) rfl,?_⟩;refine⟨rfl,?_⟩;show (eS (ins.map T.int)).length<=sizeLine/\cm _ _ _ _ (eS (ins.map T.int)) _;rw[HU];refine⟨by rw[c3,List.length_zipIdx];exact cf (by omega),?_⟩;refine dG (f:=λp:Int×Nat=>T.tup [.int (p.2:Int),.int p.1]) (u:=λp:Int×Nat=>T.int (p.1+2 * 10 ^ (30:Int).toNat * ((p.2:Int)-1))) (λp hp k hk=>?_) ?_;have hp2:p.2<ins.length:=by
   obtain⟨j,hj⟩:=Ry.mp hp;rw[YO] at hj;cases hi:ins[j]? with
   |none=>rw[hi] at hj;cases hj
   |some i=>rw[hi] at hj;cases hj;have:=(eW.mp hi).1;show 0+j<_;omega
  refine⟨rfl,rfl,⟨by decide,by decide,by decide⟩,.inl ⟨by decide,by decide⟩,.inr ⟨?_,?_⟩,hk⟩;show -(2 ^ 64:Int)<(p.2:Int)-1;omega;show (p.2:Int)-1<(2 ^ 64:Int);omega;have eod:(ins.zipIdx).map (λp:Int×Nat=>T.int (p.1+2 * 10 ^ (30:Int).toNat * ((p.2:Int)-1)))=(kX ins).map T.int:=by unfold kX;rw[Eg];rfl
  rw[eod];have YE:(kX ins).length=ins.length:=by unfold kX;rw[c3,List.length_zipIdx]
  have hof:=Rc ins;obtain⟨k4,ek4⟩:∃k4:Nat,(4:Int)-(((kX ins).map T.int).length:Int)=(k4:Int):=⟨4-ins.length,by rw[c3,YE];omega⟩;have hk4:k4<=4:=by omega
  obtain⟨R2,hR2⟩:=yL W (kX ins++List.replicate k4 7) most;have t2:=gr W hR2;have pl:∀{R:Res},(∀t∈R.1,Dg t)->uY R.2->plainT (c0 R)=true/\dep (c0 R)<=100:=λ{R} h1 h2=>by obtain⟨a,b⟩:=dgs h1;obtain⟨c,d⟩:=M6 h2;unfold c0;simp only[plainT,bH,dep,gx] at a b ⊢;rw[a,c];exact⟨rfl,by omega⟩
  have p1:=pl t1.dg t1.en;have p2:=pl t2.dg t2.en;refine⟨cf (by simp),?_⟩;show -(2 ^ 63:Int)<=(4:Int)-(((kX ins).map T.int).length:Int)/\_;rw[ek4];refine⟨by omega,by omega,by rw[yV];show 1 * k4<=sizeLine;exact cf (by omega),?_⟩;rw[yV];have e7:(List.replicate k4 [T.int 7]).flatten=(List.replicate k4 (7:Int)).map T.int:=ad6 k4;have agC:[T.lst (rs.map aW),.lst ((kX ins).map T.int++(List.replicate k4 [T.int 7]).flatten),.int (most:Int)]=[.lst (rs.map aW),.lst ((kX ins++List.replicate k4 7).map T.int),.int (most:Int)]:=by rw[e7,t_]
  refine⟨cf (by show _+((List.replicate k4 [T.int 7]).flatten).length<=1000;rw[e7,c3,c3,YE,BB];omega),rfl,rs,_,most,R2,agC,W,by rw[pH,YE,BB];omega,by omega,hR2,?_⟩;refine⟨p2.1,p1.1,p2.2,?_⟩;have last:ad9 d [vw (.lst (ns.map .int)),b1,b2,vw (.lst (rs.map aW)),vw (.lst (ins.map .int)),vw (.int (most:Int)),b6,vw (c0 R),vw (.lst R.1),vw R.2,yJ,vw (.tup (ps.map T.str)),some (.lst ((kX ins).map .int),true)]:=⟨ns,rs,a,f',ps,ins,most,R,kX ins,b1,b2,b6,yJ,_,rfl,G,Cf,W4,hR,⟨YE,hof⟩,fin⟩;by_cases Ym:ps.length<=ins.length;have aeg:R2=R:=by
   refine Rb hR2 (Bv G.m G.d (λj hj=>?_) hR);have hjo:j<(kX ins).length:=by omega
   have eg:(kX ins++List.replicate k4 7).getD j 0=(kX ins).getD j 0:=by rw[List.getD,List.getD,oi hjo]
   rw[eg];exact (hof j).symm
  subst aeg;exact fR (c:=!eqT (c0 R2) (c0 R2)) (by rw[eO _ p1.1];rfl) last;refine zl (λ_=>?_) (λ_=>last);have hz:¬ (((ps.map T.str).length:Int)<=(((kX ins).map T.int).length:Int)):=by rw[c3,c3,YE];omega
  exact cX (λz=>absurd z hz) (λ_=>last)
 case w4=>
  rintro d ρ ⟨ns,rs,a,f',ps,ins,most,R,od,b1,b2,b6,yJ,y0,rfl,G,Cf,W4,hR,hod,fin⟩;have W:=G.W;have t1:=gr W hR;obtain⟨YE,hof⟩:=hod;have pi:∀l:qan,plainT (.lst (l.map T.int))=true/\dep (.lst (l.map T.int))<=100:=λl=>by have h2:=fu (f:=T.int) (n:=0) (λ_=>c_ _) l;simp only[plainT,dep];exact⟨c9 (f:=T.int) (λ_=>rfl) l,by omega⟩
  refine⟨λm ρ=>∃k:Nat,m=k/\k<=od.length/\ρ=[vw (.lst (ns.map .int)),b1,b2,vw (.lst (rs.map aW)),vw (.lst (ins.map .int)),vw (.int (most:Int)),b6,vw (c0 R),vw (.lst R.1),vw R.2,yJ,y0,some (.lst ((od.take k).map .int),true)]/\∀j,k<=j->ins.getD j 0=0,⟨_,od.length,rfl,c_ _,by rw[List.take_length],λj hj=>by rw[List.getD,NA (by omega)];rfl⟩,?_⟩;rintro m ρ ⟨k,rfl,hk,rfl,hz⟩;have Yg:(od.take m).length=m:=by rw[IE];omega
  have exit:Z3 [12] (Z0 (fX (JC (f2 (fT (Sx (K0 3 [] (eB (jR 3) (eB (jR 12) (eB (jR 5) qk))) adM))) (fT (ZT (eB (jR 8) (eB (jR 9) qk)))) Gn) (f2 (fT (f2 (zt 7) (fT (fC (.int 0))) ZW)) (zt 8) Gn)))) d [vw (.lst (ns.map .int)),b1,b2,vw (.lst (rs.map aW)),vw (.lst (ins.map .int)),vw (.int (most:Int)),b6,vw (c0 R),vw (.lst R.1),vw R.2,yJ,y0,some (.lst ((od.take m).map .int),true)]:=by
   have hR3:gG rs (od.take m) most R:=Bv G.m G.d (λj hj=>by
    by_cases hjm:j<m;have:(od.take m).getD j 0=od.getD j 0:=by rw[List.getD,List.getD,List.getElem?_take,if_pos hjm]
    rw[this];exact (hof j).symm;have:(od.take m).getD j 0=0:=by rw[List.getD,NA (by omega)];rfl
    rw[this,hz j (by omega)]) hR
   have p1:plainT (c0 R)=true/\dep (c0 R)<=100:=by obtain⟨a,b⟩:=dgs t1.dg;obtain⟨c,d⟩:=M6 t1.en;unfold c0;simp only[plainT,bH,dep,gx] at a b ⊢;rw[a,c];exact⟨rfl,by omega⟩
   obtain⟨d1,d2⟩:=dgs t1.dg;refine⟨rfl,rs,od.take m,most,R,rfl,W,by omega,by omega,hR3,cf (by simp),?_⟩;refine⟨p1.1,p1.1,p1.2,?_⟩;show (JC (λ_ Q=>Q (.vw (.bl (eqT (c0 R) (c0 R))))) _) _ _;rw[eO _ p1.1];refine⟨_,ah (j:=0) rfl,d1,d1,mX d2 (by decide),?_⟩;show d.rt _ (.vw (.bl (eqT (.lst R.1) (.lst R.1))));rw[eO _ d1];exact fin _
  obtain⟨q1,q2⟩:=pi (od.take m);refine⟨cf (by simp),q1,rfl,q2,?_⟩;cases m with
  |zero=>exact exit
  |succ m=>
   have ik:(!eqT (.lst ((od.take (m+1)).map T.int)) (.lst []))=true:=by
    cases ht:od.take (m+1) with
    |nil=>rw[ht] at Yg;cases Yg
    |cons x l=>rfl
   refine ad7 ik ?_;have hmi:m<ins.length:=by omega
   have hat:jQ (ins.map T.int) ((((od.take (m+1)).map T.int).length:Int)-1)=some (.int ins[m]):=by rw[c3,Yg,show (((m+1:Nat):Int)-1)=(m:Int) by omega];exact ah (by rw[ie,lT hmi];rfl)
   refine⟨_,hat,?_⟩;refine cX (λh0=>?_) (λ_=>exit);have agD:m<od.length:=by omega
   have etk:od.take (m+1)=od.take m++[od[m]]:=by rw[List.take_succ,lT agD];rfl
   refine⟨rfl,.int od[m],?_,m,by omega,m,rfl,by omega,?_,λj hj=>?_⟩;rw[c3,Yg,ie,etk];have:(od.take m).length=m:=by rw[IE];omega
   rw[show m+1-1=m by omega,qe (by omega),this,Tr];rfl;have:(((od.take (m+1)).map T.int)).dropLast=(od.take m).map T.int:=by rw[etk,t_];simp
   show [_,_,_,_,_,_,_,_,_,_,_,_,some (T.lst (((od.take (m+1)).map T.int)).dropLast,true)]=_;rw[this];by_cases ej:j=m;subst ej;rw[List.getD,lT hmi];exact h0;exact hz j (by omega)
 case main=>
  refine⟨rfl,ns,1,rfl,⟨by decide,by decide,by decide⟩,by decide +kernel,?_⟩;generalize hh:ns.getD 1 0 % (10:Int) ^ (9:Int).toNat=h;have h0:0<=h:=by rw[<- hh];exact qg _ (by decide)
  have h1:h<1000000000:=by rw[<- hh];exact qf _ (by decide)
  obtain⟨m0,em0⟩:=FC (qg (h / 648) (show (3:Int)≠0 by decide));have hm0:m0<3:=by have:=qf (h / 648) (show (0:Int)<3 by decide);omega
  refine⟨rfl,ns,0,rfl,⟨by decide,by decide⟩,by decide,rfl,ns.getD 0 0,3+m0,?_,by omega,λys hN=>?_⟩;rw[em0];push_cast;rfl;have Y:eV.Ys ys:=⟨by rw[hN.l];omega,by rw[hN.l];omega,λy hy=>by have:=tR (hN.nm y hy);omega⟩;refine⟨rfl,(ns.drop (min 4 ns.length)).take (min 24 ns.length-min 4 ns.length),ys,h,?_,by rw[IE,YS];omega,⟨h0,by omega⟩,Y,λn pl rs hn hp1 hp3 jF agE jg hlen=>?_⟩;rw[Xk];rfl;have hl:rs.length<=58:=by rw[IE] at hlen;omega
  have agF:∀p∈pl,p.1∈ys/\p.2.length<=2/\p.2.Nodup/\∀x∈p.2,x∈ys:=λp hp=>by obtain⟨a,m,hm,e⟩:=agE p hp;refine⟨a,?_,?_,?_⟩;rw[e,IE];omega;rw[e];exact (List.take_sublist _ _).nodup hN.nd;intro x hx;rw[e] at hx;exact List.mem_of_mem_take hx
  have Dk:my (List.replicate n Rw.skip++rs):=Cw _ (Lb hN.nd jF jg);have B:Bl (List.replicate n Rw.skip++rs):=⟨adl (by rw[gA,Bu];exact Vz jg),by rw[jq,G6];exact PX jg⟩;have hrw:∀r∈List.replicate n Rw.skip++rs,G1 ys r:=λr hr=>by
   rcases cU.mp hr with z|z
   rw[(List.mem_replicate.mp z).2];trivial;exact On.Q6 agF jg r z
  have Tb:(List.replicate n Rw.skip++rs).length<=100:=by simp;omega
  obtain⟨f0,hf0⟩:=M' jg hp1 n;generalize List.replicate n Rw.skip++rs=rs' at Dk B hrw hf0 Tb ⊢;obtain⟨⟨f',ps,hfd⟩,_⟩:=i6 hf0;have G:Pg rs' f0 f' ps:=⟨⟨B,λr hr=>ad5 hN.nm (hrw r hr),Dk,Tb⟩,hf0,hfd,(hrw _ (iw hfd)).2.1⟩;have fin:∀ρ':En,(λ(_:En) (r:Rt)=>q r) ρ' (.vw (.bl true)):=λ_=>hq;have k0:0<=h / 7 % 4:=qg _ (by decide);have k1:h / 7 % 4<4:=qf _ (by decide);obtain⟨kk,ekk⟩:=FC k0;have hkk:kk<4:=by omega
  refine⟨rfl,⟨by decide,by decide⟩,(by show (0:Int)<4;decide),?_⟩;rw[ekk];refine⟨by omega,by omega,?_⟩;have agG:∀g:Nat->Int,((List.range kk).map g).length<=3:=λg=>by rw[c3,NC];omega
  have last:∀(g:Nat->Int)(ρ':En),ρ'=[vw (.lst (ns.map .int)),vw (.int h),vw (gC ys),vw (.lst (rs'.map aW)),vw (.lst (((List.range kk).map g).map .int)),none,none,none,none,none,none,none,none]->ad8 {nx:=λ_=>q (.vw .aP),rt:=λ_ r=>q r} ρ':=λg ρ' hρ=>⟨ns,rs',f0,f',ps,_,_,_,hρ,G,agG g,fin⟩;refine⟨by rw[dC,yV];exact cf (by omega),?_⟩;show cm _ _ _ _ (rangeT 0 ((kk:Int)).toNat) _;rw[yV];refine dG (xs:=List.range kk) (f:=λi:Nat=>T.int (0+(i:Int))) (u:=λi:Nat=>T.int (ns.getD 2 0 / ((i:Int) * (i:Int)+1) % 10 ^ (31:Int).toNat-5)) (λi hi k hk=>?_) ?_;have Jz:=Ef.mp hi;rw[X4];refine⟨rfl,ns,2,rfl,.inl ⟨?_,?_⟩,⟨?_,?_⟩,⟨by decide,by decide,by decide⟩,by decide +kernel,hk⟩;show -(2 ^ 64:Int)<(i:Int);omega;show (i:Int)<(2 ^ 64:Int);omega;show 0<(i:Int) * (i:Int)+1;have:=Int.mul_nonneg (Int.natCast_nonneg i) (Int.natCast_nonneg i);omega;show (i:Int) * (i:Int)+1<1073741824;have h3:(i:Int)<=3:=by omega
  have:=Int.mul_le_mul h3 h3 (Int.natCast_nonneg i) (by decide);omega;refine⟨rfl,ns,2,rfl,(by show (0:Int)<3;decide),?_⟩;refine cX (λ_=>?_) (λ_=>last (λi=>ns.getD 2 0 / ((i:Int) * (i:Int)+1) % 10 ^ (31:Int).toNat-5) _ (by rw[Eg];rfl));refine⟨rfl,⟨by decide,by decide⟩,(by show (0:Int)<4;decide),?_⟩;rw[ekk];refine⟨by omega,by omega,?_⟩;refine⟨by rw[dC,yV];exact cf (by omega),?_⟩;show cm _ _ _ _ (rangeT 0 ((kk:Int)).toNat) _;rw[yV];refine dG (xs:=List.range kk) (f:=λi:Nat=>T.int (0+(i:Int))) (u:=λi:Nat=>T.int (ns.getD 2 0 / (3 * (i:Int)+3) % 5-1)) (λi hi k hk=>?_) ?_;have Jz:=Ef.mp hi;rw[X4];refine⟨rfl,ns,2,rfl,.inl ⟨by decide,by decide⟩,⟨?_,?_⟩,(by show (0:Int)<5;decide),hk⟩;show 0<3 * (i:Int)+3;omega;show 3 * (i:Int)+3<1073741824;omega;exact last (λi=>ns.getD 2 0 / (3 * (i:Int)+3) % 5-1) _ (by rw[Eg];rfl)
end
end kW
namespace iq
open PySem L2 VT
theorem aeh(X:K.In h)(G:h.Ns mainGlobals mg){st:Stmt}{oc:Value}{od an:qar}{F8:Array (Option Value)}{kV doc pm bz ct:Value}(a:PySem.W.nsIn K mainGlobals x=some (some (.ref f)))(l:K.lookup f=some ⟨oc,od,.func (PySem.W.fnOf x x (dm st) (bM st) (ai st) .none kV doc pm an bz ct),F8⟩)(c:PySem.W.codeIn K bz x=true)(k:PySem.W.keepIn K (.ref f)=true)(hb:∀(kV doc pm:Value) (an:qar) (bz ct:Value) (us:qag),us.length=ps.length->bindArgs (PySem.W.fnOf x x (dm st) (bM st) (ai st) .none kV doc pm an bz ct) ⟨us,[]⟩=pure (ps.zip us)) :
  ∃f fd,Df K mg x st ps f fd:=by
 have F:=rm (st:=st) l c k;exact⟨f,_,F,lU X G a,F.binds hb⟩
theorem Xp{C:qag->Prop}(h:C []):∀us:qag,us.length=0->C us
 |[],_=>h
theorem vd{C:qag->Prop}(h:∀a,∀us:qag,us.length=n->C (a::us)):∀us:qag,us.length=n+1->C us
 |a::us,e=>h a us (Nat.succ.inj e)
theorem aei{C:qag->Prop}(h:∀a,C [a]):∀us:qag,us.length=1->C us:=vd λa=>Xp (h a)
theorem bn1{C:qag->Prop}(h:∀a,C [a]):∀us:qag,us.length=1->C us:=aei h
theorem bn2{C:qag->Prop}(h:∀a b,C [a,b]):∀us:qag,us.length=2->C us:=vd λa=>bn1 (h a)
theorem bn3{C:qag->Prop}(h:∀a b c,C [a,b,c]):∀us:qag,us.length=3->C us:=vd λa=>bn2 (h a)
theorem bn4{C:qag->Prop}(h:∀a b c d,C [a,b,c,d]):∀us:qag,us.length=4->C us:=vd λa=>bn3 (h a)
theorem bn5{C:qag->Prop}(h:∀a b c d e,C [a,b,c,d,e]):∀us:qag,us.length=5->C us:=vd λa=>bn4 (h a)
abbrev pE:Program:=PySem.Challenge.pw_slicewise_k16_cut_anywhere
noncomputable def qE:Program:=PySem.W.view pE [1,2,3,4,5,6,7,8,9,11,12,13,14,16,17,18,19,21,22,23,24,25,26,27,28,29,30,31,32,34,35,36,37,38,39,40,41,42,43,44,45,46,47,48,49,50,52,54,55,56,57,58,59,60,61,62,63,64]
def tS:qai:=["USED_PLACES","RECKONERS","FOLLOWERS","run"]
def Tc:qah:=[0,1,2,3,4,5,6,7,8,9,10,11,12,13,14,15,16,17,18,19,20,21,22,23,24,25,26,27,28,29,30,31,32,33,34,35,36,37,38,39,40,41,42,43,44,45,46,47,48,49,50,51,52,53,54,55,56,57,65,66,67,68,69,70,71,72,73,74,75,76,79,80,81,82,83,84,85,86,87,88,89,90,91,92,93,94,95,96,97,98,99,100,101,102,103,104,105,106,107,108,109,110,111,112,113,114,115,116,117,118,119,120,121,122,123,124,125,126,127,128,129,130,131,132,133,134,135,136,137,138,139,140,141,142,143,144,145,146,147,148,149,150,151,152,153,154,155,156,157,158,159,160,161,162,163,164,165,166,167,168,169,170,171,172,173,174,175,176,177,185,186,187,188,189,190,191,192,193,194,195,196,206,207,208,209,210,211,212,213,214,215,216,217,220,221,222,223,224,225,226,227,228,229,230,231,232,233,234,235,236,237,238,239,240,241,242,243,244,245,246,247,248,249,250,251,252,253,254,255,256,257,258,259,260,261,262,263,264,265,266,267,268,269,270,271,272,273,274,275,276,277,278,279,280,281,282,283,284,285,286,287,288,289,290,291,292,293,294,295,296,297,298,299,300,301,302,303,304,305,306,307,308,309,310,311,312,313,314,315,316,317,318,319,320,321,322,323,324,325,326,327,328,329,330,331,332,333,334,335,336,337,338,339,340,341,342,343,344,345,346,347,348,349,350,351,352,353,354,355,356,357,358,359,360,361,362,363,364,365,366,367,368,369,370,371,372,373,374,375,376,377,378,379,380,381,382,383,384,385,386,387,388,389,390,391,392,393,394,395,396,397,398]
abbrev OV:=Option (Option Value)
abbrev OO:=Option Obj
abbrev N(K:qaf)(x:Str):=PySem.W.nsIn K mainGlobals x
abbrev Lk(K:qaf)(a:Addr):=List.lookup a K
abbrev R(a:Addr):OV:=some (some (.ref a))
abbrev fo(x q:Str)(st:Stmt)(pm:Value)(c:Addr):OO:=some ⟨.type "function",none,.func (PySem.W.fnOf x q (dm st) (bM st) (ai st) .none .none .none pm none (.ref c) .none),#[]⟩
abbrev cI(K:qaf)(c:Value)(q:Str):=PySem.W.codeIn K c q
abbrev kI(K:qaf)(f:Addr):=PySem.W.keepIn K (.ref f)
abbrev fI(K:qaf)(c:Addr)(x:Str):=PySem.W.findIn K (.ref c) x
abbrev Q4:=OV×OO×Bool×Bool
noncomputable def q4(K:qaf)(x:Str)(f c:Addr):Q4:=(N K x,Lk K f,cI K (.ref c) x,kI K f)
noncomputable def v4(x:Str)(st:Stmt)(f:Addr)(pm:Value)(c:Addr):Q4:=(R f,fo x x st pm c,true,true)
theorem bF(X:K.In h)(G:h.Ns mainGlobals mg){st:Stmt}{c:Addr}{pm:Value}(e:q4 K x f c=v4 x st f pm c)(hb:∀(kV doc pm:Value) (an:qar) (bz ct:Value) (us:qag),us.length=ps.length->bindArgs (PySem.W.fnOf x x (dm st) (bM st) (ai st) .none kV doc pm an bz ct) ⟨us,[]⟩=pure (ps.zip us):=by first|exact λ_ _ _ _ _ _=>bn1 λ_=>rfl|exact λ_ _ _ _ _ _=>bn2 λ_ _=>rfl|exact λ_ _ _ _ _ _=>bn3 λ_ _ _=>rfl|exact λ_ _ _ _ _ _=>bn4 λ_ _ _ _=>rfl|exact λ_ _ _ _ _ _=>bn5 λ_ _ _ _ _=>rfl) :
  ∃f fd,Df K mg x st ps f fd:=by
 unfold q4 v4 at e;simp only[Prod.mk.injEq] at e;exact aeh X G e.1 e.2.1 e.2.2.1 e.2.2.2 hb
abbrev XX:Type:=(((((((OV×OV)×(OV×OV))×((OO×OV)×(OO×(OV×OO))))×(((OV×OO)×(OV×(OO×OO)))×((OO×OO)×(OO×(OO×OO)))))×((((OO×OV)×(OV×(OV×OV)))×((OV×OV)×(OV×(OO×OV))))×(((OV×OV)×(OV×(OV×OV)))×((OV×OV)×(OV×(OV×OO))))))×(((((OV×OV)×(OV×(OV×OV)))×((OV×OV)×(OV×(OV×OV))))×(((OV×OV)×(OV×(OV×Bool)))×((OO×Bool)×(Bool×(Bool×Bool)))))×((((Bool×OV)×(Bool×(Bool×OV)))×((OV×OV)×(OV×(OV×OV))))×(((OV×OV)×(OV×(Bool×OO)))×((Bool×Bool)×(Bool×(Bool×Bool)))))))×((((((OV×Bool)×(Bool×OV))×((OV×OV)×(OV×(Bool×OO))))×(((Bool×Bool)×(Bool×(Bool×Bool)))×((OV×Bool)×(Bool×(OV×OV)))))×((((OV×OV)×(OV×(OV×OV)))×((OV×OV)×(OV×(OO×Bool))))×(((Bool×OO)×(OV×(OO×Bool)))×((Bool×Q4)×(Q4×(Q4×Q4))))))×(((((Q4×Q4)×(Q4×(Q4×Q4)))×((Q4×Q4)×(Q4×(Q4×Q4))))×(((Q4×Q4)×(Q4×(Q4×Q4)))×((Q4×Q4)×(Q4×(Q4×Q4)))))×((((Q4×Q4)×(Q4×(Q4×Q4)))×((Q4×Q4)×(Q4×(Q4×Q4))))×(((Q4×Q4)×(Q4×(Q4×Q4)))×((Q4×Q4)×(Q4×(Q4×Q4))))))))
noncomputable def FF(K:qaf):XX:=(((((((N K "LETTERS",N K "LONGEST_NAME"),(N K "H",N K "DIVISIONS")),((Lk K 15,N K "SILENT"),(Lk K 16,(N K "CLOSERS",Lk K 43)))),(((N K "OPENERS",Lk K 42),(N K "USED_PLACES",(Lk K 29,Lk K 36))),((Lk K 35,Lk K 34),(Lk K 33,(Lk K 32,Lk K 31))))),((((Lk K 30,N K "plus"),(N K "minus",(N K "times",N K "over"))),((N K "rest",N K "less"),(N K "RECKONERS",(Lk K 163,N K "follow_plain")))),(((N K "follow_give",N K "follow_name"),(N K "follow_do",(N K "follow_new",N K "follow_set"))),((N K "follow_call",N K "follow_fail"),(N K "follow_choice",(N K "FOLLOWERS",Lk K 304)))))),(((((N K "isinstance",N K "str"),(N K "int",(N K "bool",N K "len"))),((N K "all",N K "list"),(N K "tuple",(N K "range",N K "enumerate")))),(((N K "zip",N K "min"),(N K "Layout",(fI K 74 "__init__",PySem.W.isFn K (.ref 71)))),((Lk K 71,cI K (.ref 70) "Layout.__init__"),(kI K 71,(PySem.W.plainGet K 74 Str.empty,PySem.W.hasDictIn K 74))))),((((PySem.W.plainOver K 74,fI K 74 "__setattr__"),(PySem.W.makesIn K 74,(kI K 74,fI K 74 "program"))),((fI K 74 "heads",fI K 74 "ends"),(fI K 74 "elses",(fI K 74 "homes",fI K 74 "defs")))),(((fI K 74 "main",N K "Frame"),(fI K 194 "__init__",(PySem.W.isFn K (.ref 191),Lk K 191))),((cI K (.ref 190) "Frame.__init__",kI K 191),(PySem.W.plainGet K 194 Str.empty,(PySem.W.hasDictIn K 194,PySem.W.plainOver K 194))))))),((((((fI K 194 "__setattr__",PySem.W.makesIn K 194),(kI K 194,fI K 194 "call")),((fI K 194 "names",N K "Machine"),(fI K 215 "__init__",(PySem.W.isFn K (.ref 212),Lk K 212)))),(((cI K (.ref 211) "Machine.__init__",kI K 212),(PySem.W.plainGet K 215 Str.empty,(PySem.W.hasDictIn K 215,PySem.W.plainOver K 215))),((fI K 215 "__setattr__",PySem.W.makesIn K 215),(kI K 215,(fI K 215 "layout",fI K 215 "most"))))),((((fI K 215 "poke",fI K 215 "frames"),(fI K 215 "cells",(fI K 215 "counts",fI K 215 "doings"))),((fI K 215 "place",fI K 215 "ended"),(N K "run",(Lk K 324,cI K (.ref 323) "run")))),(((kI K 324,Lk K 317),(N K "law",(Lk K 398,cI K (.ref 397) "law"))),((kI K 398,q4 K "is_name" 21 20),(q4 K "is_field" 28 27,(q4 K "operands" 41 40,q4 K "shape" 57 56)))))),(((((q4 K "first_defs" 50 49,q4 K "row_behind" 99 98),(q4 K "yes_row" 85 84,(q4 K "no_row" 92 91,q4 K "fit" 106 105))),((q4 K "is_record" 113 112,q4 K "number_of" 120 119),(q4 K "plus" 127 126,(q4 K "minus" 134 133,q4 K "times" 141 140)))),(((q4 K "over" 148 147,q4 K "rest" 155 154),(q4 K "less" 162 161,(q4 K "reckoned" 170 169,q4 K "value_of" 233 232))),((q4 K "cell_of" 177 176,q4 K "made_by" 240 239),(q4 K "follow_plain" 247 246,(q4 K "follow_name" 254 253,q4 K "follow_do" 261 260))))),((((q4 K "follow_give" 289 288,q4 K "enter" 226 225),(q4 K "follow_new" 268 267,(q4 K "follow_fail" 296 295,q4 K "follow_choice" 303 302))),((q4 K "follow_set" 275 274,q4 K "follow_call" 282 281),(q4 K "done_row" 309 308,(q4 K "step" 316 315,q4 K "run_poked" 329 328)))),(((q4 K "_law_cell_at" 336 335,q4 K "_law_names" 341 340),(q4 K "_law_number" 348 347,(q4 K "_law_operand" 355 354,q4 K "_law_key" 362 361))),((q4 K "_law_simple" 367 366,q4 K "_law_put" 374 373),(q4 K "_law_program" 379 378,(q4 K "_law_ends" 386 385,q4 K "_law_cut" 393 392))))))))
noncomputable def VV(w:World):XX:=(((((((some (some (.str pN.bT 191)),some (some (.int 8 193))),(some (some (.int 1000000000000000000000000000000 189)),R 15)),((some ⟨.type "tuple",none,.seq #[.str "over" 195,.str "rest" 196] 0,#[]⟩,R 16),(some ⟨.type "tuple",none,.seq #[.str "else" 198,.str "end" 199,.str "skip" 200] 0,#[]⟩,(R 43,some ⟨.type "tuple",none,.seq #[.str "give" 253,.str "end" 254] 0,#[]⟩)))),(((R 42,some ⟨.type "tuple",none,.seq #[.str "def" 249,.str "if" 250,.str "while" 251] 0,#[]⟩),(R 29,(some ⟨.type "dict",none,.dict #[⟨PyData.keyHash w.params "give",.str "give" 215,.ref 30⟩,⟨PyData.keyHash w.params "put",.str "put" 217,.ref 31⟩,⟨PyData.keyHash w.params "do",.str "do" 219,.ref 32⟩,⟨PyData.keyHash w.params "get",.str "get" 222,.ref 33⟩,⟨PyData.keyHash w.params "set",.str "set" 225,.ref 34⟩,⟨PyData.keyHash w.params "if",.str "if" 229,.ref 35⟩,⟨PyData.keyHash w.params "while",.str "while" 231,.ref 36⟩] 7,#[]⟩,some ⟨.type "tuple",none,.seq #[.int (1) 232] 0,#[]⟩))),((some ⟨.type "tuple",none,.seq #[.int (1) 230] 0,#[]⟩,some ⟨.type "tuple",none,.seq #[.int (1) 226,.int (2) 227,.int (3) 228] 0,#[]⟩),(some ⟨.type "tuple",none,.seq #[.int (2) 223,.int (3) 224] 0,#[]⟩,(some ⟨.type "tuple",none,.seq #[.int (2) 220,.int (4) 221] 0,#[]⟩,some ⟨.type "tuple",none,.seq #[.int (2) 218] 0,#[]⟩))))),((((some ⟨.type "tuple",none,.seq #[.int (1) 216] 0,#[]⟩,R 127),(R 134,(R 141,R 148))),((R 155,R 162),(R 163,(some ⟨.type "dict",none,.dict #[⟨PyData.keyHash w.params "plus",.str "plus" 414,.ref 127⟩,⟨PyData.keyHash w.params "minus",.str "minus" 415,.ref 134⟩,⟨PyData.keyHash w.params "times",.str "times" 416,.ref 141⟩,⟨PyData.keyHash w.params "over",.str "over" 417,.ref 148⟩,⟨PyData.keyHash w.params "rest",.str "rest" 418,.ref 155⟩,⟨PyData.keyHash w.params "less",.str "less" 419,.ref 162⟩] 6,#[]⟩,R 247)))),(((R 289,R 254),(R 261,(R 268,R 275))),((R 282,R 296),(R 303,(R 304,some ⟨.type "dict",none,.dict #[⟨PyData.keyHash w.params "def",.str "def" 641,.ref 247⟩,⟨PyData.keyHash w.params "give",.str "give" 642,.ref 289⟩,⟨PyData.keyHash w.params "put",.str "put" 643,.ref 254⟩,⟨PyData.keyHash w.params "do",.str "do" 644,.ref 261⟩,⟨PyData.keyHash w.params "new",.str "new" 645,.ref 268⟩,⟨PyData.keyHash w.params "get",.str "get" 646,.ref 254⟩,⟨PyData.keyHash w.params "set",.str "set" 647,.ref 275⟩,⟨PyData.keyHash w.params "call",.str "call" 648,.ref 282⟩,⟨PyData.keyHash w.params "fail",.str "fail" 649,.ref 296⟩,⟨PyData.keyHash w.params "if",.str "if" 650,.ref 303⟩,⟨PyData.keyHash w.params "while",.str "while" 651,.ref 303⟩] 11,#[]⟩)))))),(((((some none,some none),(some none,(some none,some none))),((some none,some none),(some none,(some none,some none)))),(((some none,some none),(R 74,(some (some (.ref 71)),true))),((fo "__init__" "Layout.__init__" Lay.kz (.str "slicewise.layouts" 280) 70,true),(true,(true,true))))),((((true,some (some (.builtin "object.__setattr__"))),(true,(true,some none))),((some none,some none),(some none,(some none,some none)))),(((some none,R 194),(some (some (.ref 191)),(true,fo "__init__" "Frame.__init__" Rg.nU (.str "slicewise.runs" 446) 190))),((true,true),(true,(true,true))))))),((((((some (some (.builtin "object.__setattr__")),true),(true,some none)),((some none,R 215),(some (some (.ref 212)),(true,fo "__init__" "Machine.__init__" Rg.i8 (.str "slicewise.runs" 446) 211)))),(((true,true),(true,(true,true))),((some (some (.builtin "object.__setattr__")),true),(true,(some none,some none))))),((((some none,some none),(some none,(some none,some none))),((some none,some none),(R 324,(some ⟨.type "function",none,.func (PySem.W.fnOf "run" "run" (dm Rg.hX) (bM Rg.hX) (ai Rg.hX) (.ref 317) (.none) (.none) (.str "slicewise.runs" 446) none (.ref 323) (.none)),#[]⟩,true)))),(((true,some ⟨.type "tuple",none,.seq #[.int (200) 678] 0,#[]⟩),(R 398,(fo "law" "law" kW.nZ (.str "law_slicewise_k16_cut_anywhere" 694) 397,true))),((true,v4 "is_name" Nm.lu 21 (.str "slicewise.rows" 187) 20),(v4 "is_field" Nm.mE 28 (.str "slicewise.rows" 187) 27,(v4 "operands" Yl.mG 41 (.str "slicewise.rows" 187) 40,v4 "shape" K5V.nQ 57 (.str "slicewise.programs" 247) 56)))))),(((((v4 "first_defs" Lay.jr 50 (.str "slicewise.programs" 247) 49,v4 "row_behind" Nx.jt 99 (.str "slicewise.layouts" 280) 98),(v4 "yes_row" Nx.o4 85 (.str "slicewise.layouts" 280) 84,(v4 "no_row" Nx.sQ 92 (.str "slicewise.layouts" 280) 91,v4 "fit" ki.Fg 106 (.str "slicewise.values" 343) 105))),((v4 "is_record" ki.kA 113 (.str "slicewise.values" 343) 112,v4 "number_of" ki.kB 120 (.str "slicewise.values" 343) 119),(v4 "plus" ki.CI 127 (.str "slicewise.values" 343) 126,(v4 "minus" ki.xY 134 (.str "slicewise.values" 343) 133,v4 "times" ki.xZ 141 (.str "slicewise.values" 343) 140)))),(((v4 "over" ki.CJ 148 (.str "slicewise.values" 343) 147,v4 "rest" ki.CM 155 (.str "slicewise.values" 343) 154),(v4 "less" ki.CN 162 (.str "slicewise.values" 343) 161,(v4 "reckoned" ki.ju 170 (.str "slicewise.values" 343) 169,v4 "value_of" Rg.mR 233 (.str "slicewise.runs" 446) 232))),((v4 "cell_of" Rg.o6 177 (.str "slicewise.values" 343) 176,v4 "made_by" Rg.o5 240 (.str "slicewise.runs" 446) 239),(v4 "follow_plain" Rg.hW 247 (.str "slicewise.runs" 446) 246,(v4 "follow_name" Rg.iQ 254 (.str "slicewise.runs" 446) 253,v4 "follow_do" Rg.kK 261 (.str "slicewise.runs" 446) 260))))),((((v4 "follow_give" Rg.iR 289 (.str "slicewise.runs" 446) 288,v4 "enter" Rg.x_ 226 (.str "slicewise.runs" 446) 225),(v4 "follow_new" Rg.jv 268 (.str "slicewise.runs" 446) 267,(v4 "follow_fail" Rg.iT 296 (.str "slicewise.runs" 446) 295,v4 "follow_choice" Rg.gB 303 (.str "slicewise.runs" 446) 302))),((v4 "follow_set" Rg.jw 275 (.str "slicewise.runs" 446) 274,v4 "follow_call" Rg.iS 282 (.str "slicewise.runs" 446) 281),(v4 "done_row" Rg.mT 309 (.str "slicewise.runs" 446) 308,(v4 "step" Rg.ya 316 (.str "slicewise.runs" 446) 315,v4 "run_poked" Rg.iI 329 (.str "slicewise.runs" 446) 328)))),(((v4 "_law_cell_at" eV.pf 336 (.str "law_slicewise_k16_cut_anywhere" 694) 335,v4 "_law_names" eV.yH 341 (.str "law_slicewise_k16_cut_anywhere" 694) 340),(v4 "_law_number" eV.tI 348 (.str "law_slicewise_k16_cut_anywhere" 694) 347,(v4 "_law_operand" eV.ph 355 (.str "law_slicewise_k16_cut_anywhere" 694) 354,v4 "_law_key" eV.Mw 362 (.str "law_slicewise_k16_cut_anywhere" 694) 361))),((v4 "_law_simple" eV.tJ 367 (.str "law_slicewise_k16_cut_anywhere" 694) 366,v4 "_law_put" eV.MK 374 (.str "law_slicewise_k16_cut_anywhere" 694) 373),(v4 "_law_program" eV.pq 379 (.str "law_slicewise_k16_cut_anywhere" 694) 378,(v4 "_law_ends" kW.Dy 386 (.str "law_slicewise_k16_cut_anywhere" 694) 385,v4 "_law_cut" kW.MZ 393 (.str "law_slicewise_k16_cut_anywhere" 694) 392))))))))
theorem DF(w:World)(os:OsState):HE.lookA pE qE tS [] [] (HE.fJ (w.withFollow "special-get-raises" false).params) (PySem.W.boot_heap (w.withFollow "special-get-raises" false).params) (w.withFollow "special-get-raises" false) 2658 os=some (true,(PySem.W.openGood qE tS).1,(PySem.W.openGood qE tS).2.1):=by
 rw[PySem.W.Fast.te2848547177322276819]
 kernel_rfl
theorem Ie(w:World)(os:OsState):HE.lookA pE qE tS [] [] (HE.fJ (w.withFollow "special-get-raises" true).params) (PySem.W.boot_heap (w.withFollow "special-get-raises" true).params) (w.withFollow "special-get-raises" true) 2658 os=some (true,(PySem.W.openGood qE tS).1,(PySem.W.openGood qE tS).2.1):=by
 rw[PySem.W.Fast.te2848547177322276819]
 kernel_rfl
theorem agH(w:World)(os:OsState):HE.lookA pE qE tS [] [] (HE.fJ (w).params) (PySem.W.boot_heap (w).params) (w) 2658 os=some (true,(PySem.W.openGood qE tS).1,(PySem.W.openGood qE tS).2.1) :=
 PySem.W.byRow2 "special-get-raises" (P:=λw=>∀os,HE.lookA pE qE tS [] [] (HE.fJ (w).params) (PySem.W.boot_heap (w).params) (w) 2658 os=some (true,(PySem.W.openGood qE tS).1,(PySem.W.openGood qE tS).2.1)) DF Ie w os
theorem DG(w:World)(os:OsState):HE.lookB pE qE tS [] [] (HE.fJ (w.withFollow "special-get-raises" false).params) (w.withFollow "special-get-raises" false) 2658 os=some (PySem.W.openGood qE tS).2.2:=by
 rw[PySem.W.Fast.te312265020846911052]
 kernel_rfl
theorem Ig(w:World)(os:OsState):HE.lookB pE qE tS [] [] (HE.fJ (w.withFollow "special-get-raises" true).params) (w.withFollow "special-get-raises" true) 2658 os=some (PySem.W.openGood qE tS).2.2:=by
 rw[PySem.W.Fast.te312265020846911052]
 kernel_rfl
theorem agI(w:World)(os:OsState):HE.lookB pE qE tS [] [] (HE.fJ (w).params) (w) 2658 os=some (PySem.W.openGood qE tS).2.2 :=
 PySem.W.byRow2 "special-get-raises" (P:=λw=>∀os,HE.lookB pE qE tS [] [] (HE.fJ (w).params) (w) 2658 os=some (PySem.W.openGood qE tS).2.2) DG Ig w os
theorem DH(w:World)(os:OsState):HE.lookC pE Tc FF (HE.fJ (w.withFollow "special-get-raises" false).params) (w.withFollow "special-get-raises" false) 2658 os=some (VV (w.withFollow "special-get-raises" false)):=by
 rw[PySem.W.Fast.te3135357915001837337]
 kernel_rfl
theorem Ih(w:World)(os:OsState):HE.lookC pE Tc FF (HE.fJ (w.withFollow "special-get-raises" true).params) (w.withFollow "special-get-raises" true) 2658 os=some (VV (w.withFollow "special-get-raises" true)):=by
 rw[PySem.W.Fast.te3135357915001837337]
 kernel_rfl
theorem runC(w:World)(os:OsState):HE.lookC pE Tc FF (HE.fJ (w).params) (w) 2658 os=some (VV (w)) :=
 PySem.W.byRow2 "special-get-raises" (P:=λw=>∀os,HE.lookC pE Tc FF (HE.fJ (w).params) (w) 2658 os=some (VV (w))) DH Ih w os
theorem Xq:PySem.Challenge.rw_slicewise_k16_cut_anywhere.wellSaid=true:=by kernel_rfl
noncomputable abbrev KE(w:World):qaf:=HE.Kf Tc (HE.xn pE 5996 w)
noncomputable abbrev dE:DefRec:=HE.acE kW.nZ
theorem hd:PySem.W.LeftO pE qE tS (HE.Pb qE [] []) (λs=>Tc.map s.heap.get?) (λw=>Tc.map (HE.xn pE 5996 w)) 5996/\∀w,FF (KE w)=VV w:=HE.head (p:=pE) (q:=qE) (loose:=tS) (lv:=[]) (R:=[]) (as:=Tc) (N:=5996) (M:=2658) (F:=FF) (v:=VV) (by kernel_rfl) rfl (λs=>by kernel_rfl) rfl agH agI runC
theorem Xr{l:PySem.W.OpenLaw}{fa:Addr}(X:K.In h)(G:h.Ns mainGlobals mg)(hfa:mg "law"=some (.ref fa))(hF:FF K=VV w) :
  ∃fd:FuncData,(∀(s:Shared)(v:Value),BindsTo s fd ⟨[v],[]⟩ [("_law_script",v)])/\∀base:Heap,K.In base->base.Ns mainGlobals mg->bY l.prog w K mg base fG 10 fa fd qaY (c8 K 1 kW.Q_):=by
 simp only[FF,VV,Prod.mk.injEq] at hF;obtain⟨⟨⟨⟨⟨⟨⟨mz5,mi6⟩,⟨mi7,mt8⟩⟩,⟨⟨mu8,mt9⟩,⟨mu9,⟨agJ,agK⟩⟩⟩⟩,⟨⟨⟨agL,agM⟩,⟨agN,⟨agO,Xs⟩⟩⟩,⟨⟨Xu,Xv⟩,⟨Xw,⟨Xx,Xy⟩⟩⟩⟩⟩,⟨⟨⟨⟨Xz,Rn⟩,⟨Nc,⟨Nd,Ro⟩⟩⟩,⟨⟨Rp,Rq⟩,⟨agP,⟨agQ,qA⟩⟩⟩⟩,⟨⟨⟨tT,tU⟩,⟨yM,⟨vf,vg⟩⟩⟩,⟨⟨tV,tW⟩,⟨pw,⟨agR,agS⟩⟩⟩⟩⟩⟩,⟨⟨⟨⟨⟨gi,XA⟩,⟨Nf,⟨Fx,kY⟩⟩⟩,⟨⟨XB,yN⟩,⟨ja,⟨n_,gQ⟩⟩⟩⟩,⟨⟨⟨XC,XD⟩,⟨Ii,⟨Ij,Ik⟩⟩⟩,⟨⟨Il,Im⟩,⟨Io,⟨Ip,Iq⟩⟩⟩⟩⟩,⟨⟨⟨⟨Ir,Iu⟩,⟨Iv,⟨Iw,pA⟩⟩⟩,⟨⟨tX,vh⟩,⟨tY,⟨tZ,vi⟩⟩⟩⟩,⟨⟨⟨vj,Ng⟩,⟨Nh,⟨Ni,Nj⟩⟩⟩,⟨⟨Nk,Nl⟩,⟨Nn,⟨Np,Nq⟩⟩⟩⟩⟩⟩⟩,⟨⟨⟨⟨⟨⟨Nr,Nt⟩,⟨Nu,yO⟩⟩,⟨⟨vk,DI⟩,⟨DJ,⟨DK,DN⟩⟩⟩⟩,⟨⟨⟨DO,DP⟩,⟨DQ,⟨DR,DS⟩⟩⟩,⟨⟨DT,DU⟩,⟨DV,⟨pB,t4⟩⟩⟩⟩⟩,⟨⟨⟨⟨t5,pD⟩,⟨qB,⟨pF,pG⟩⟩⟩,⟨⟨qC,qD⟩,⟨XE,⟨XF,XG⟩⟩⟩⟩,⟨⟨⟨XH,Nv⟩,⟨aej,⟨aek,ael⟩⟩⟩,⟨⟨aem,agT⟩,⟨agU,⟨agV,agW⟩⟩⟩⟩⟩⟩,⟨⟨⟨⟨⟨agX,agY⟩,⟨agZ,⟨ag0,ag1⟩⟩⟩,⟨⟨ag2,aen⟩,⟨aeo,⟨aep,aeq⟩⟩⟩⟩,⟨⟨⟨aer,aes⟩,⟨aet,⟨aeu,aev⟩⟩⟩,⟨⟨aew,aex⟩,⟨aey,⟨aez,aeA⟩⟩⟩⟩⟩,⟨⟨⟨⟨aeB,aeC⟩,⟨aeD,⟨aeE,aeF⟩⟩⟩,⟨⟨aeG,aeH⟩,⟨aeI,⟨aeJ,aeK⟩⟩⟩⟩,⟨⟨⟨aeL,aeM⟩,⟨aeN,⟨aeO,aeP⟩⟩⟩,⟨⟨aeQ,aeR⟩,⟨aeS,⟨aeT,aeU⟩⟩⟩⟩⟩⟩⟩⟩:=hF;have e:=hfa.symm.trans (lU X G aej);cases e;have ax:Lay.Qg K 74:=⟨⟨Ip,Iq,Ir,Iu⟩,pA,tX,vh,tY,tZ,vi,vj⟩;have wA:=rm (st:=Lay.kz) Il Im Io;have Iy:Dc K mg "Layout" "Layout.__init__" Lay.kz qaz 74 71 _:=⟨wA,lU X G Ii,wA.binds (λ_ _ _ _ _ _=>(iq.bn2 λ_ _=>rfl)),⟨Iv,Ij,Ik,Iw⟩⟩;have bV:Rg.Yo K 194:=⟨⟨Nn,Np,Nq,Nr⟩,yO,vk⟩;have By:=rm (st:=Rg.nU) Nj Nk Nl;have Nw:Dc K mg "Frame" "Frame.__init__" Rg.nU qaF 194 191 _:=⟨By,lU X G Ng,By.binds (λ_ _ _ _ _ _=>(iq.bn3 λ_ _ _=>rfl)),⟨Nt,Nh,Ni,Nu⟩⟩;have ag:Rg.AR K 215:=⟨⟨DQ,DR,DS,DT⟩,pB,t4,t5,pD,qB,pF,pG,qC,qD⟩;have t6:=rm (st:=Rg.i8) DN DO DP;have DW:Dc K mg "Machine" "Machine.__init__" Rg.i8 qav 215 212 _:=⟨t6,lU X G DI,t6.binds (λ_ _ _ _ _ _=>(iq.bn4 λ_ _ _ _=>rfl)),⟨DU,DJ,DK,DV⟩⟩;have M2:Nm.Mg2 mg:=⟨⟨_,lU X G mz5⟩,⟨_,lU X G mi6⟩,(jO X G gi),(jO X G XA),(jO X G kY),(jO X G XB)⟩;have MU:Yl.MgU w K mg:=⟨(jO X G yN),⟨29,lU X G agN,⟨_,_,agO,(by first|rfl|decide),.cons ⟨rfl,⟨_,rfl⟩,.ref 30,rfl,λ_ _=>cA (vs:=[V.int 1]) (.inr ⟨_,_,_,Xz,rfl,rfl,Gen.small (by simp),.cons ⟨_,rfl⟩ (.nil)⟩) (aB.cons bC (aB.nil))⟩ (.cons ⟨rfl,⟨_,rfl⟩,.ref 31,rfl,λ_ _=>cA (vs:=[V.int 2]) (.inr ⟨_,_,_,Xy,rfl,rfl,Gen.small (by simp),.cons ⟨_,rfl⟩ (.nil)⟩) (aB.cons bC (aB.nil))⟩ (.cons ⟨rfl,⟨_,rfl⟩,.ref 32,rfl,λ_ _=>cA (vs:=[V.int 2,V.int 4]) (.inr ⟨_,_,_,Xx,rfl,rfl,Gen.small (by simp),.cons ⟨_,rfl⟩ (.cons ⟨_,rfl⟩ (.nil))⟩) (aB.cons bC (aB.cons bC (aB.nil)))⟩ (.cons ⟨rfl,⟨_,rfl⟩,.ref 33,rfl,λ_ _=>cA (vs:=[V.int 2,V.int 3]) (.inr ⟨_,_,_,Xw,rfl,rfl,Gen.small (by simp),.cons ⟨_,rfl⟩ (.cons ⟨_,rfl⟩ (.nil))⟩) (aB.cons bC (aB.cons bC (aB.nil)))⟩ (.cons ⟨rfl,⟨_,rfl⟩,.ref 34,rfl,λ_ _=>cA (vs:=[V.int 1,V.int 2,V.int 3]) (.inr ⟨_,_,_,Xv,rfl,rfl,Gen.small (by simp),.cons ⟨_,rfl⟩ (.cons ⟨_,rfl⟩ (.cons ⟨_,rfl⟩ (.nil)))⟩) (aB.cons bC (aB.cons bC (aB.cons bC (aB.nil))))⟩ (.cons ⟨rfl,⟨_,rfl⟩,.ref 35,rfl,λ_ _=>cA (vs:=[V.int 1]) (.inr ⟨_,_,_,Xu,rfl,rfl,Gen.small (by simp),.cons ⟨_,rfl⟩ (.nil)⟩) (aB.cons bC (aB.nil))⟩ (.cons ⟨rfl,⟨_,rfl⟩,.ref 36,rfl,λ_ _=>cA (vs:=[V.int 1]) (.inr ⟨_,_,_,Xs,rfl,rfl,Gen.small (by simp),.cons ⟨_,rfl⟩ (.nil)⟩) (aB.cons bC (aB.nil))⟩ (.nil))))))),by show ([("give":Str),("put":Str),("do":Str),("get":Str),("set":Str),("if":Str),("while":Str)]).Nodup;decide +kernel⟩⟩⟩;have MR:ki.Mg w K mg:=⟨⟨_,lU X G mi7⟩,⟨15,lU X G mt8,λH=>.inr ⟨_,_,_,mu8,rfl,rfl,Gen.small (by simp),.cons ⟨_,rfl⟩ (.cons ⟨_,rfl⟩ (.nil))⟩⟩,(jO X G gi),(jO X G Nf),(jO X G Fx),(jO X G ja),(jO X G kY),(jO X G n_),⟨163,(λo=>match o with | .plus=>127 | .minus=>134 | .times=>141 | .over=>148 | .rest=>155 | .less=>162),(lU X G agP),(λo=>match o with | .plus=>(lU X G Rn) | .minus=>(lU X G Nc) | .times=>(lU X G Nd) | .over=>(lU X G Ro) | .rest=>(lU X G Rp) | .less=>(lU X G Rq)),⟨_,_,agQ,(by first|rfl|decide),.cons ⟨rfl,⟨_,rfl⟩,.ref 127,rfl,λ_ _=>by simp only[At]⟩ (.cons ⟨rfl,⟨_,rfl⟩,.ref 134,rfl,λ_ _=>by simp only[At]⟩ (.cons ⟨rfl,⟨_,rfl⟩,.ref 141,rfl,λ_ _=>by simp only[At]⟩ (.cons ⟨rfl,⟨_,rfl⟩,.ref 148,rfl,λ_ _=>by simp only[At]⟩ (.cons ⟨rfl,⟨_,rfl⟩,.ref 155,rfl,λ_ _=>by simp only[At]⟩ (.cons ⟨rfl,⟨_,rfl⟩,.ref 162,rfl,λ_ _=>by simp only[At]⟩ (.nil)))))),by show ([("plus":Str),("minus":Str),("times":Str),("over":Str),("rest":Str),("less":Str)]).Nodup;decide +kernel⟩⟩⟩;have M5:K5V.Mg5 K mg:=⟨(jO X G kY),(jO X G n_),(jO X G gQ),(jO X G gi),(jO X G Nf),(jO X G Fx),(jO X G ja),(jO X G yN),(jO X G XC),⟨43,lU X G agJ,λH=>.inr ⟨_,_,_,agK,rfl,rfl,Gen.small (by simp),.cons ⟨_,rfl⟩ (.cons ⟨_,rfl⟩ (.nil))⟩⟩,⟨42,lU X G agL,λH=>.inr ⟨_,_,_,agM,rfl,rfl,Gen.small (by simp),.cons ⟨_,rfl⟩ (.cons ⟨_,rfl⟩ (.cons ⟨_,rfl⟩ (.nil)))⟩⟩⟩;have MF:Lay.MgF mg:=⟨(jO X G gQ)⟩;have MLy:Lay.adv mg:=⟨(jO X G kY),(jO X G XD)⟩;have MRu:Rg.MgR mg:=⟨(jO X G kY),(jO X G gQ),(jO X G ja)⟩;have nG:Rg.MgS K mg:=⟨(jO X G kY),(jO X G ja),⟨16,lU X G mt9,λH=>.inr ⟨_,_,_,mu9,rfl,rfl,Gen.small (by simp),.cons ⟨_,rfl⟩ (.cons ⟨_,rfl⟩ (.cons ⟨_,rfl⟩ (.nil)))⟩⟩⟩;have FO:Rg.Fos w K mg:=⟨⟨304,247,289,254,261,268,275,282,296,303,(lU X G agR),(lU X G qA),(lU X G tT),(lU X G tU),(lU X G yM),(lU X G vf),(lU X G vg),(lU X G tV),(lU X G tW),(lU X G pw),⟨_,_,agS,(by first|rfl|decide),.cons ⟨rfl,⟨_,rfl⟩,.ref 247,rfl,λ_ _=>by simp only[At]⟩ (.cons ⟨rfl,⟨_,rfl⟩,.ref 289,rfl,λ_ _=>by simp only[At]⟩ (.cons ⟨rfl,⟨_,rfl⟩,.ref 254,rfl,λ_ _=>by simp only[At]⟩ (.cons ⟨rfl,⟨_,rfl⟩,.ref 261,rfl,λ_ _=>by simp only[At]⟩ (.cons ⟨rfl,⟨_,rfl⟩,.ref 268,rfl,λ_ _=>by simp only[At]⟩ (.cons ⟨rfl,⟨_,rfl⟩,.ref 254,rfl,λ_ _=>by simp only[At]⟩ (.cons ⟨rfl,⟨_,rfl⟩,.ref 275,rfl,λ_ _=>by simp only[At]⟩ (.cons ⟨rfl,⟨_,rfl⟩,.ref 282,rfl,λ_ _=>by simp only[At]⟩ (.cons ⟨rfl,⟨_,rfl⟩,.ref 296,rfl,λ_ _=>by simp only[At]⟩ (.cons ⟨rfl,⟨_,rfl⟩,.ref 303,rfl,λ_ _=>by simp only[At]⟩ (.cons ⟨rfl,⟨_,rfl⟩,.ref 303,rfl,λ_ _=>by simp only[At]⟩ (.nil))))))))))),by show ([("def":Str),("give":Str),("put":Str),("do":Str),("new":Str),("get":Str),("set":Str),("call":Str),("fail":Str),("if":Str),("while":Str)]).Nodup;decide +kernel⟩⟩⟩;have MG:eV.Mg mg:=⟨(jO X G kY),(jO X G n_),(jO X G ja)⟩;have ML:kW.MgL mg:=⟨(jO X G gi),(jO X G ja),(jO X G yN),(jO X G kY),(jO X G n_),(jO X G gQ)⟩;obtain⟨_,_,D0⟩:=bF (ps:=qax) X G agT;obtain⟨_,_,D1⟩:=bF (ps:=qax) X G agU;obtain⟨_,_,D2⟩:=bF (ps:=["row"]) X G agV;obtain⟨_,_,D3⟩:=bF (ps:=qay) X G agW;obtain⟨_,_,D4⟩:=bF (ps:=qay) X G agX;obtain⟨_,_,D5⟩:=bF (ps:=qaA) X G agY;obtain⟨_,_,D6⟩:=bF (ps:=["place"]) X G agZ;obtain⟨_,_,D7⟩:=bF (ps:=qaA) X G ag0;obtain⟨_,_,D8⟩:=bF (ps:=qaB) X G ag1;obtain⟨_,_,D9⟩:=bF (ps:=qaC) X G ag2;obtain⟨_,_,D10⟩:=bF (ps:=qaC) X G aen;obtain⟨_,_,D11⟩:=bF (ps:=qaD) X G aeo;obtain⟨_,_,D12⟩:=bF (ps:=qaD) X G aep;obtain⟨_,_,D13⟩:=bF (ps:=qaD) X G aeq;obtain⟨_,_,D14⟩:=bF (ps:=qaD) X G aer;obtain⟨_,_,D15⟩:=bF (ps:=qaD) X G aes;obtain⟨_,_,D16⟩:=bF (ps:=qaD) X G aet;obtain⟨_,_,D17⟩:=bF (ps:=qaE) X G aeu;obtain⟨_,_,D18⟩:=bF (ps:=qaG) X G aev;obtain⟨_,_,D19⟩:=bF (ps:=qaH) X G aew;obtain⟨_,_,D20⟩:=bF (ps:=qaI) X G aex;obtain⟨_,_,D21⟩:=bF (ps:=qaJ) X G aey;obtain⟨_,_,D22⟩:=bF (ps:=qaJ) X G aez;obtain⟨_,_,D23⟩:=bF (ps:=qaJ) X G aeA;obtain⟨_,_,D24⟩:=bF (ps:=qaJ) X G aeB;obtain⟨_,_,D25⟩:=bF (ps:=qaK) X G aeC;obtain⟨_,_,D26⟩:=bF (ps:=qaJ) X G aeD;obtain⟨_,_,D27⟩:=bF (ps:=qaJ) X G aeE;obtain⟨_,_,D28⟩:=bF (ps:=qaJ) X G aeF;obtain⟨_,_,D29⟩:=bF (ps:=qaJ) X G aeG;obtain⟨_,_,D30⟩:=bF (ps:=qaJ) X G aeH;obtain⟨_,_,D31⟩:=bF (ps:=qaL) X G aeI;obtain⟨_,_,D32⟩:=bF (ps:=["machine"]) X G aeJ;obtain⟨_,_,D33⟩:=bF (ps:=qaM) X G aeK;obtain⟨_,_,D34⟩:=bF (ps:=qaO) X G aeL;obtain⟨_,_,D35⟩:=bF (ps:=qaR) X G aeM;obtain⟨_,_,D36⟩:=bF (ps:=qaP) X G aeN;obtain⟨_,_,D37⟩:=bF (ps:=qaQ) X G aeO;obtain⟨_,_,D38⟩:=bF (ps:=qaQ) X G aeP;obtain⟨_,_,D39⟩:=bF (ps:=qaT) X G aeQ;obtain⟨_,_,D40⟩:=bF (ps:=qaU) X G aeR;obtain⟨_,_,D41⟩:=bF (ps:=qaV) X G aeS;obtain⟨_,_,D42⟩:=bF (ps:=qaW) X G aeT;obtain⟨_,_,D43⟩:=bF (ps:=qaX) X G aeU;have F:=rm (st:=kW.nZ) aek ael aem;have DL:Df K mg "law" kW.nZ qaY 398 _:=⟨F,hfa,F.binds (λ_ _ _ _ _ _=>aei λ_=>rfl)⟩;refine⟨PySem.W.fnOf "law" "law" (dm kW.nZ) (bM kW.nZ) (ai kW.nZ) .none (.none) (.none) (.str "law_slicewise_k16_cut_anywhere" 694) none (.ref 397) (.none),λs v=>.of_eq rfl,λbase _ _=>?_⟩;have wB:=Nm.Qd (P:=l.prog) (w:=w) (base:=base) D0 M2;have t7:=Nm.AA (P:=l.prog) (w:=w) (base:=base) D1 M2 wB;have DX:=Yl.AB (P:=l.prog) (w:=w) (base:=base) D2 MU t7;have Rr:=K5V.LC (P:=l.prog) (w:=w) (base:=base) D3 M5;have yP:=Lay.uA (P:=l.prog) (w:=w) (base:=base) D4 MF;have Ny:=Lay.Hi (P:=l.prog) (w:=w) (base:=base) Iy MLy ax Rr yP;have oe:=Nx.uB (P:=l.prog) (w:=w) (base:=base) D5 ax;have Iz:=Nx.CH (P:=l.prog) (w:=w) (base:=base) D6;have Nz:=Nx.Hl (P:=l.prog) (w:=w) (base:=base) D7 ax;have Td:=ki.Wb (P:=l.prog) (w:=w) (base:=base) D8 MR;have qb:=ki.x4 (P:=l.prog) (w:=w) (base:=base) D9 MR;have qc:=ki.x5 (P:=l.prog) (w:=w) (base:=base) D10 MR qb;have XI:=ki.Qr (P:=l.prog) (w:=w) (base:=base) D11 MR;have Ru:=ki.LP (P:=l.prog) (w:=w) (base:=base) D12 MR;have Rv:=ki.LQ (P:=l.prog) (w:=w) (base:=base) D13 MR;have XJ:=ki.Qu (P:=l.prog) (w:=w) (base:=base) D14 MR;have XM:=ki.Qv (P:=l.prog) (w:=w) (base:=base) D15 MR;have XN:=ki.Qw (P:=l.prog) (w:=w) (base:=base) D16 MR;have DY:=ki.AK (P:=l.prog) (w:=w) (base:=base) D17 MR Td qc XI Ru Rv XJ XM XN;have Rx:=Rg.L0 (P:=l.prog) (w:=w) (base:=base) Nw bV;have DZ:=Rg.AU (P:=l.prog) (w:=w) (base:=base) D18 ag bV wB;have wC:=Rg.CP (P:=l.prog) (w:=w) (base:=base) D19 MRu qb t7 qc;have IA:=Rg.CQ (P:=l.prog) (w:=w) (base:=base) D20 (cFrame:=194) ag DY wC;have ia:=Rg.qr (P:=l.prog) (w:=w) (base:=base) D21 (cFrame:=194) ag oe;have gj:=Rg.sY (P:=l.prog) (w:=w) (base:=base) D22 ag bV ia;have Bz:=Rg.yi (P:=l.prog) (w:=w) (base:=base) D23 ag gj;have vm:=Rg.tq (P:=l.prog) (w:=w) (base:=base) D24 ag bV ax gj;have Fy:=Rg.Ma (P:=l.prog) (w:=w) (base:=base) D25 MRu ag bV ax Rx;have yQ:=Rg.uE (P:=l.prog) (w:=w) (base:=base) D26 ag gj;have vn:=Rg.sZ (P:=l.prog) (w:=w) (base:=base) D27 (cFrame:=194) (cLayout:=74) ag;have qF:=Rg.pe (P:=l.prog) (w:=w) (base:=base) D28 (cFrame:=194) ag Iz Nz;have yR:=Rg.uG (P:=l.prog) (w:=w) (base:=base) D29 ag wC ia;have vo:=Rg.s_ (P:=l.prog) (w:=w) (base:=base) D30 ag ax Fy;have D_:=Rg.A1 (P:=l.prog) (w:=w) (base:=base) D31 nG ag FO DX DZ IA ia gj Bz vm yQ yR vo vn qF;have XO:=Rg.QZ (P:=l.prog) (w:=w) (base:=base) D32 nG ag ax oe D_;have IB:=Rg.Dr (P:=l.prog) (w:=w) (base:=base) DW ag Ny;have BA:=Rg.yF (P:=l.prog) (w:=w) (base:=base) D33 ag ax IB Fy Td XO;have XQ:KZ K "run" "run" Rg.hX 324 (PySem.W.fnOf "run" "run" (dm Rg.hX) (bM Rg.hX) (ai Rg.hX) (.ref 317) (.none) (.none) (.str "slicewise.runs" 446) none (.ref 323) (.none)):=⟨⟨_,_,_,_,_,_,_,_,_,_,rfl,XF,XG⟩,XH⟩;have XR:Binds K (PySem.W.fnOf "run" "run" (dm Rg.hX) (bM Rg.hX) (ai Rg.hX) (.ref 317) (.none) (.none) (.str "slicewise.runs" 446) none (.ref 323) (.none)) qaN []:=E3 (m:=3) rfl Nv rfl rfl (iq.vd λ_=>(iq.vd λ_=>(iq.vd λ_=>(iq.Xp ⟨_,rfl,rfl⟩))));have XS:Binds K (PySem.W.fnOf "run" "run" (dm Rg.hX) (bM Rg.hX) (ai Rg.hX) (.ref 317) (.none) (.none) (.str "slicewise.runs" 446) none (.ref 323) (.none)) qaN [.int (200) 678]:=E3 (m:=2) rfl Nv rfl rfl (iq.vd λ_=>(iq.vd λ_=>(iq.Xp ⟨_,rfl,rfl⟩)));have Te:=Rg.W7 (P:=l.prog) (w:=w) (base:=base) XQ (lU X G XE) XR XS BA;have t8:=eV.Dv (P:=l.prog) (w:=w) (base:=base) D34 MG;have yS:=eV.MJ (P:=l.prog) (w:=w) (base:=base) D35 MG;have vq:=eV.HM (P:=l.prog) (w:=w) (base:=base) D36 MG;have fE:=eV.Dw (P:=l.prog) (w:=w) (base:=base) D37 MG vq;have D':=eV.Xb (P:=l.prog) (w:=w) (base:=base) D38 MG fE;have vt:=eV.HQ (P:=l.prog) (w:=w) (base:=base) D39 MG fE D';have Ea:=eV.Xd (P:=l.prog) (w:=w) (base:=base) D40 MG fE vt;have t9:=eV.Dx (P:=l.prog) (w:=w) (base:=base) D41 MG Ea fE;have qd:=kW.Q8 (P:=l.prog) (w:=w) (base:=base) D42 ML;have Eb:=kW.Xg (P:=l.prog) (w:=w) (base:=base) D43 ML Te qd;exact kW.Xm (P:=l.prog) (w:=w) (base:=base) DL ML t8 yS t9 Te qd Eb
theorem walk{l:PySem.W.OpenLaw}{q:Program}{loose:qai}{XP:(qae)->Heap->Prop}{d:DefRec}{K:World->qaf}(hn:l.most=some 63)(hdf:d.params.defaults=[])(F:∀(w:World) (mg:qae) (fa:Addr) (h:Heap),(K w).In h->h.Ns mainGlobals mg->mg d.name=some (.ref fa) ->
    ∃fd:FuncData,(∀(s:Shared) (u:Value),BindsTo s fd ⟨[u],[]⟩ [("_law_script",u)])/\∀base:Heap,(K w).In base->base.Ns mainGlobals mg->bY l.prog w (K w) mg base fG 10 fa fd qaY (c8 (K w) 1 kW.Q_)) :
  PySem.W.WalkO q loose XP (λw h=>(K w).In h) l.row.toRowW d [] (λf vs=>PySem.call f vs):=by
 refine Att.zk hn hdf λw s₀ s₁ mg mb fa o pm cd doc a vs ns G Y ho hd ig ZG Ue hints hlen hg=>?_;obtain⟨fd,hb,hF⟩:=F w mg fa _ Y G.T.g ZG;exact Jr (CX:=fG) (sp:=c8 (K w) 1 kW.Q_) (k:=10) Y G.T.g G.T.b G.T.builtins G.T.nolimit hg Ue hints (mX hlen (by decide)) ⟨rfl,by decide,by decide⟩ hF hb (λH _ hS=>
  ⟨[.lst (ns.map .int)],[],[],λ_ r=>r=.vw (.bl true),N4,λ_ z=>(nomatch z),λ_ z=>(nomatch z),jm rfl (aB.cons (by
     simp only[At];refine⟨a,ns.map V.int,rfl,hS.imp (λz=>⟨z,λm=>nomatch m⟩) id,?_⟩;clear hS;clear hints hlen;induction ns with
     |nil=>exact aB.nil
     |cons n ns ih=>exact aB.cons bC ih) aB.nil),⟨ns,rfl,hlen,rfl⟩,λus r hr v H' _ z=>by
     subst hr;have:=z.1;simpa only[At] using this⟩) λ_ _ _ z=>z
end iq
open PySem PySem.W PyProof.Rows
set_option maxRecDepth 100000 in
set_option maxHeartbeats 0 in
theorem PySem.Challenge.cw_slicewise_k16_cut_anywhere_holds : PySem.Challenge.rw_slicewise_k16_cut_anywhere.Holds := by
 w_on
 refine PySem.W.holds_law iq.Xq λXq=>?_;refine PySem.W.holds_openX (q:=iq.qE) (loose:=iq.tS) (Xt:=HE.Pb iq.qE [] []) (XP:=PySem.W.XL iq.qE []) (d:=iq.dE) (kwd:=[]) (N:=5996) iq.hd.1 (λs e=>PySem.W.xl_of s (Bool.and_eq_true_iff.mp e).1) PySem.W.XL.keeps (by kernel_rfl) (by kernel_rfl) (by kernel_rfl) (λs e=>PySem.W.recFacts_of (Bool.and_eq_true_iff.mp e).2) (by kernel_rfl) Xq (by kernel_rfl) ⟨rfl,rfl,rfl,rfl,rfl,by decide +kernel⟩ ?hw ?hc
 (case hw=>w_witness2)
 exact HE.Kj (iq.walk (l:=PySem.Challenge.rw_slicewise_k16_cut_anywhere) (K:=iq.KE) rfl rfl (λw mg fa h KX G ZG=>iq.Xr KX G ZG (iq.hd.2 w)))
