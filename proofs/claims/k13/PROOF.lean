import PyProof.Rows.All
import Wide.All
import OpenK.AllK
import Wide.FinOn
import Lean
import PyProof.EqAt
import PyProof.EqKinds
import PyProof.TupleCall
import PyProof.NeKinds
import PyProof.Rows.SumAny
import PyProof.StrBlockL
import PyProof.StrBlockI
import PyProof.FitsReplace
import PyProof.Rows.SeqMore
import PyProof.Rows.TupAdd
import PyProof.Draws
import PyProof.ZipIter
import OpenK.ZGo
import PyProof.ListNew
import PyProof.Rows.SortStr
import PyProof.Rows.SortWalk
import PyProof.IsRules
import KE.KDictLaws
import PyProof.DictWalks
import PyProof.WalkInts
import PyProof.DictItems
import PyProof.Rows.DictItemsRows
import KE.KPairComp
import PyProof.Rows.SetFrom
import PyProof.SetRoads
import PyProof.CollectIter
import PyProof.Rows.SortShellK
import PyProof.Rows.BitMore
import PyProof.SeqRoads2
import PySem.Challenge.RW_slicewise_k13_records_and_cells
set_option Elab.async false
set_option linter.all false
set_option genSizeOf false
set_option genSizeOfSpec false
set_option bootstrap.genMatcherCode false
set_option maxRecDepth 100000
set_option maxHeartbeats 8000000
variable{w:PySem.World}{a f C dx it:PySem.Addr}{x qual y:PySem.Str}{n i j t':Nat}{e b o c iter:PySem.Expr}{fd:PySem.FuncData}{P prog:PySem.Program}{A:PySem.Around}{α β:Type}{p apos aN eI tp p1:PySem.Pos}{base h h':PySem.Heap}{O:HD}{u:PySem.Value}{B:Prop}{s':PySem.Shared}{sc:PySem.Scope}
abbrev HD:=List (Option PySem.Addr)
abbrev qaa:=List (PySem.Addr×PySem.Obj)
abbrev qad:=PySem.Value->PySem.Shared->Prop
abbrev qae:=PySem.Str->Option PySem.Value
abbrev qaf:=PySem.W.Frag
abbrev qag:=List PySem.Value
abbrev qah:=List PySem.Addr
abbrev qai:=List PySem.Str
abbrev qan:=List Int
abbrev qao:=List Nat
abbrev qap:=List PySem.Expr
abbrev qaq:=List PySem.Stmt
abbrev qar:=Option PySem.Addr
abbrev qav:List PySem.Str:=["thing"]
abbrev qaw:List PySem.Str:=["program"]
abbrev qax:List PySem.Str:=["self","program"]
abbrev qay:List PySem.Str:=["layout","place"]
abbrev qaz:List PySem.Str:=["value"]
abbrev qaA:List PySem.Str:=["one","word","other"]
abbrev qaB:List PySem.Str:=["self","program","most","poke"]
abbrev qaC:List PySem.Str:=["call","names"]
abbrev qaD:List PySem.Str:=["self","call","names"]
abbrev qaE:List PySem.Str:=["machine","part"]
abbrev qaF:List PySem.Str:=["key","used"]
abbrev qaG:List PySem.Str:=["machine","row","used"]
abbrev qaH:List PySem.Str:=["machine","row","used","made"]
abbrev qaI:List PySem.Str:=["machine","place","call","given"]
abbrev qaJ:List PySem.Str:=["machine","row"]
abbrev qaK:List PySem.Str:=["program","inputs","most","poke"]
abbrev qaL:List PySem.Str:=["program","inputs","most"]
abbrev qaM:List PySem.Str:=["_law_script","_law_k"]
abbrev qaN:List PySem.Str:=["_law_cell_here"]
abbrev qaO:List PySem.Str:=["_law_cell_here","_law_names_here"]
abbrev qaP:List PySem.Str:=["_law_cell_here","_law_many"]
abbrev qaQ:List PySem.Str:=["_law_found","_law_due_here"]
abbrev qaR:List PySem.Str:=["_law_number_here"]
abbrev qaS:List PySem.Str:=["_law_held","_law_operand_here"]
abbrev qaT:List PySem.Str:=["_law_held","_law_key_here"]
abbrev qaU:List PySem.Str:=["_law_place","_law_row_here","_law_held","_law_cells","_law_news"]
abbrev qaV:List PySem.Str:=["_law_rows","_law_inputs"]
abbrev qaW:List PySem.Str:=["_law_script"]
abbrev gp(x:PySem.Str):Prop:=(x==("__debug__":PySem.Str))=false
abbrev se(x:PySem.Str):Prop:=(x==("__classdict__":PySem.Str))=false
abbrev bK:=@List.mem_append_right
abbrev cj:=@List.mem_append_left
abbrev cS:=@List.mem_cons_self
abbrev cJ:=@List.mem_append
abbrev fG:=@List.getElem?_eq_some_iff
abbrev cW:=@List.length_map
abbrev d_:=@List.mem_cons_of_mem
abbrev fE:=@PySem.Heap.get?_push_of_some
abbrev cT:=@List.mem_cons
abbrev eh:=@Bool.false_ne_true
abbrev fR:=@List.mem_of_getElem?
abbrev cU:=@Nat.le_refl
abbrev gq:=@List.mem_singleton
abbrev gg:=@List.not_mem_nil
abbrev ij:=@List.getElem?_map
abbrev iq:=@List.size_toArray
abbrev m6:=@List.getElem?_eq_getElem
abbrev fS:=@List.map_cons
abbrev fF:=@PySem.Heap.lt_size
abbrev k5:=@List.filterMap_cons
abbrev qg:=@List.getElem?_append_left
abbrev k6:=@PySem.Heap.get?_push_size
abbrev jm:=@Bool.and_eq_true
abbrev jh:=@List.nodup_cons
abbrev k7:=@List.length_append
abbrev uI:=@List.getElem?_append_right
abbrev j9:=@List.length_cons
abbrev qS:=@List.getElem?_set_ne
abbrev ji:=@Nat.zero_le
abbrev qT:=@Nat.lt_of_lt_of_le
abbrev j4:=@Nat.ne_of_lt
abbrev zy:=@List.getElem?_replicate
abbrev zz:=@List.getElem?_set_self
abbrev uJ:=@Int.emod_lt_of_pos
abbrev m7:=@Nat.le_trans
abbrev nW:=@PySem.W.mg_of
abbrev sf:=@List.map_append
abbrev sg:=@PySem.boot_len
abbrev xK:=@List.nodup_append
abbrev uK:=@Int.emod_nonneg
abbrev sh:=@List.mem_map
abbrev A2:=@Int.toNat_natCast
abbrev CM:=@PySem.W.mg_none_of
abbrev C4:=@List.replicate_succ
abbrev KR:=@PySem.F.slot_tuple_iterator_next
abbrev C5:=@List.set_cons_succ
abbrev C6:=@Bool.false_eq_true
abbrev CN:=@List.cons_append
abbrev KS:=@PySem.F.slot_list_append
abbrev KU:=@PySem.F.type_list_append
abbrev Hm:=@List.getElem?_eq_none
abbrev KW:=@Int.eq_ofNat_of_zero_le
abbrev zA:=@Bool.and_self
abbrev CO:=@List.append_nil
abbrev C7:=@Nat.lt_succ_self
abbrev Hn:=@Array.length_toList
abbrev KY:=@List.length_replicate
abbrev KZ:=@PySem.F.slot_dict_get
abbrev zB:=@List.map_map
abbrev C8:=@List.length_nil
abbrev Qf:=@PyProof.Rows.callWith_type1
abbrev Ho:=@List.zip_cons_cons
abbrev Mi:=@PySem.F.plainAttrs_list
abbrev G1:=@List.lookup_cons
abbrev CP:=@Nat.lt_irrefl
abbrev CQ:=@List.any_cons
abbrev C9:=@PySem.Heap.size_push
abbrev Mj:=@List.zipWith_cons_cons
abbrev K0:=@PySem.mem_of_lookup
abbrev G2:=@List.length_set
abbrev Qg:=@List.mem_or_eq_of_mem_set
abbrev G3:=@List.find?_cons
abbrev Qh:=@List.getLast?_eq_getElem?
abbrev CS:=@Nat.ne_of_gt
abbrev K1:=@List.set_cons_zero
abbrev G4:=@List.mem_range
abbrev G5:=@List.nodup_nil
abbrev Hq:=@PySem.PassesOwn.never
abbrev G6:=@Bool.not_true
abbrev K2:=@List.all_eq_true
abbrev K3:=@List.getElem_mem
abbrev Ml:=@PySem.Calls.spliced_cons
abbrev UI:=@List.mem_iff_getElem?
abbrev QN:=@Classical.byContradiction
abbrev Mm:=@List.flatten_cons
abbrev QO:=@PySem.F.args_dict_get_3
abbrev QP:=@PySem.F.plainAttrs_dict
abbrev Qi:=@List.length_zipWith
abbrev Mn:=@List.length_take
abbrev UJ:=@PySem.F.args_tuple_iterator_next_1
abbrev G7:=@Nat.le_succ
abbrev QQ:=@PySem.Calls.callWith_builtin
abbrev QR:=@PySem.F.entry_dict_get
abbrev Hr:=@List.map_nil
abbrev UK:=@PySem.F.entry_tuple_iterator_next
abbrev Mo:=@PySem.W.kia_one
abbrev Mp:=@List.length_zip
abbrev Qj:=@Nat.lt_succ_of_lt
abbrev Qk:=@List.length_range
abbrev Ql:=@List.ext_getElem?
abbrev QS:=@List.length_dropLast
abbrev K4:=@Nat.min_self
abbrev QT:=@List.map_congr_left
abbrev UL:=@List.getElem?_range
abbrev VY:=@PyProof.Rows.slot_tuple_getitem
abbrev UM:=@List.getElem?_cons_zero
abbrev UN:=@List.length_eq_zero_iff
abbrev Mq:=@PySem.Paired.length
abbrev Mr:=@Bool.true_and
abbrev Qm:=@List.nil_append
abbrev UO:=@Option.map_eq_some_iff
abbrev QU:=@List.getElem?_set
abbrev UP:=@Bool.beq_eq_decide_eq
abbrev UQ:=@List.getElem?_zipWith
abbrev UR:=@PySem.Calls.evalArgs_plain
abbrev UT:=@List.getElem?_mapIdx
abbrev UU:=@PySem.F.slot_NoneType_hash
abbrev VZ:=@List.getD_eq_getElem?_getD
abbrev UW:=@PySem.Heap.SameBut.update
abbrev QV:=@Option.map_some
abbrev QW:=@Bool.eq_iff_iff
abbrev V0:=@List.drop_eq_getElem_cons
abbrev UX:=@List.mem_filterMap
abbrev V1:=@PySem.F.args_tuple_add_2
abbrev UY:=@PySem.Obj.data_mapFields
abbrev QX:=@Bool.false_and
abbrev QY:=@Bool.and_false
abbrev V2:=@PySem.F.entry_tuple_add
abbrev V3:=@List.filter_cons_of_pos
abbrev V4:=@List.countP_cons_of_pos
abbrev V5:=@PySem.F.slot_tuple_add
abbrev QZ:=@List.all_cons
namespace L2
open PySem PySem.Spec PyProof.Rows
abbrev Key:=Sum Int Str
def qU:Key->Value->Bool
 |.inl k,v=>Value.isInt k v
 |.inr x,v=>Value.isStrOf x v
def V6(w:World):Key->Int
 |.inl k=>hashInt k
 |.inr x=>hashStr w x
theorem cm:∀{k:Key}{v:Value},qU k v=true->(∃i t,k=Sum.inl i/\v=Value.int i t)\/(∃x t,k=Sum.inr x/\v=Value.str x t)
 |.inl i,v,h=>by obtain⟨t,e⟩:=Value.isInt_shape (k:=i) (v:=v) h;exact .inl ⟨i,t,rfl,e⟩
 |.inr x,v,h=>by obtain⟨t,e⟩:=Value.isStrOf_shape (x:=x) (v:=v) h;exact .inr ⟨x,t,rfl,e⟩
theorem A3(i:Int)(t:Tok):qU (.inl i) (.int i t)=true:=by simp[qU,Value.isInt]
theorem A4(x:Str)(t:Tok):qU (.inr x) (.str x t)=true:=by simp[qU,Value.isStrOf]
theorem Ms(a b:Int):decide ((Sum.inl a:Key)=Sum.inl b)=(a==b):=by by_cases e:a=b;subst e;simp;have h:¬ (Sum.inl a:Key)=Sum.inl b:=λq=>e (Sum.inl.inj q);rw[decide_eq_false h];exact (beq_eq_false_iff_ne.mpr e).symm
theorem Mt(a b:Str):decide ((Sum.inr a:Key)=Sum.inr b)=decide (a=b):=by by_cases e:a=b;subst e;simp;have h:¬ (Sum.inr a:Key)=Sum.inr b:=λq=>e (Sum.inr.inj q);rw[decide_eq_false h,decide_eq_false e]
theorem Mu(a:Int)(b:Str):decide ((Sum.inl a:Key)=Sum.inr b)=false:=decide_eq_false (λq=>nomatch q)
theorem Mv(a:Str)(b:Int):decide ((Sum.inr a:Key)=Sum.inl b)=false:=decide_eq_false (λq=>nomatch q)
noncomputable def aO(prog:Program)(w:World):PySem.KeyKind prog w Key where
 is:=qU
 hash:=V6 w
 inj:=λv a b ha hb=>by
  rcases cm ha with⟨i,t,rfl,rfl⟩|⟨x,t,rfl,rfl⟩
  rcases cm hb with⟨j,u,rfl,e⟩|⟨y,u,rfl,e⟩
  injection e with e1 _;rw[e1]
  exact nomatch e;rcases cm hb with⟨j,u,rfl,e⟩|⟨y,u,rfl,e⟩
  exact nomatch e;injection e with e1 _;rw[e1]
 byValue:=λk v h=>by rcases cm h with⟨i,t,rfl,rfl⟩|⟨x,t,rfl,rfl⟩<;>rfl
 pyHash:=λhv h=>by
  rcases cm hv with⟨i,t,rfl,rfl⟩|⟨x,t,rfl,rfl⟩
  exact wpAny_pyHash_int h;exact wpAny_pyHash_str h
 eqBool:=λhu hv h=>by
  rcases cm hu with⟨i,t,rfl,rfl⟩|⟨x,t,rfl,rfl⟩
  rcases cm hv with⟨j,u,rfl,rfl⟩|⟨y,u,rfl,rfl⟩
  rw[Ms] at h;exact wpAny_eqBool_int h;rw[Mu] at h;exact SeqAt.EqAt.int_str i t y u _ _ _ _ h;rcases cm hv with⟨j,u,rfl,rfl⟩|⟨y,u,rfl,rfl⟩
  rw[Mv] at h;exact SeqAt.EqAt.str_int x t j u _ _ _ _ h;rw[Mt] at h;exact wpAny_eqBool_str h
 «strs»:=λk x t v h=>by
  rcases cm h with⟨i,u,rfl,e⟩|⟨y,u,rfl,e⟩
  exact nomatch e;injection e with e1 _
  subst e1;cases v<;>rfl
theorem uL(prog:Program)(w:World)(i:Int)(t:Tok):(aO prog w).is (.inl i) (.int i t)=true:=A3 i t
theorem uM(prog:Program)(w:World)(x:Str)(t:Tok):(aO prog w).is (.inr x) (.str x t)=true:=A4 x t
inductive V where
 |aQ|bl (b:Bool)|int (i:Int)|str (x:Str)|V7 (b:Array UInt8)|V8 (b:UInt64)|ref (a:Addr)|ty (n:String)
 deriving DecidableEq
def RelV:V->Value->Prop
 |.aQ,u=>u=Value.none
 |.bl b,u=>u=Value.bool b
 |.int i,u=>∃t,u=Value.int i t
 |.str x,u=>∃t,u=Value.str x t
 |.V7 b,u=>∃t,u=Value.bytes b t
 |.V8 b,u=>∃t,u=Value.float b t
 |.ref a,u=>u=Value.ref a
 |.ty n,u=>u=Value.type n
abbrev Vals:List V->qag->Prop:=Paired RelV
theorem Vals.length{xs:List V}{us:qag}(r:Vals xs us):xs.length=us.length:=Mq r
theorem Vals.get:∀{xs:List V}{us:qag}{i:Nat}{x:V},Vals xs us->xs[i]?=some x->∃u,us[i]?=some u/\RelV x u
 |_,_,_,_,.nil,e=>by simp at e
 |_,_,0,_,.cons r _,e=>by simp at e;subst e;exact⟨_,rfl,r⟩
 |_,_,i+1,x,.cons _ t,e=>by obtain⟨u,h1,h2⟩:=Vals.get (i:=i) (x:=x) t (by simpa using e);exact⟨u,by simpa using h1,h2⟩
theorem Vals.set{x:V}{u:Value}(r:RelV x u):∀{xs:List V}{us:qag}(i:Nat),Vals xs us->Vals (xs.set i x) (us.set i u)
 |_,_,_,.nil=>.nil
 |_,_,0,.cons _ t=>.cons r t
 |_,_,i+1,.cons q t=>.cons q (Vals.set r i t)
theorem Vals.append:∀{xs ys:List V}{us ws:qag},Vals xs us->Vals ys ws->Vals (xs++ys) (us++ws)
 |_,_,_,_,.nil,s=>s
 |_,_,_,_,.cons r t,s=>.cons r (Vals.append t s)
theorem Vals.take:∀{xs:List V}{us:qag}(n:Nat),Vals xs us->Vals (xs.take n) (us.take n)
 |_,_,0,_=>.nil
 |_,_,_+1,.nil=>.nil
 |_,_,n+1,.cons r t=>.cons r (Vals.take n t)
theorem Vals.drop:∀{xs:List V}{us:qag}(n:Nat),Vals xs us->Vals (xs.drop n) (us.drop n)
 |_,_,0,r=>r
 |_,_,_+1,.nil=>.nil
 |_,_,n+1,.cons _ t=>Vals.drop n t
def j_:Option V->Option Value->Prop
 |some v,some u=>RelV v u
 |none,none=>True
 |_,_=>False
def KV{κ:Type}:List (κ×V)->List (κ×Value)->Prop:=Paired λ(p:κ×V) (q:κ×Value)=>p.1=q.1/\RelV p.2 q.2
noncomputable def kV:Key->V
 |.inl i=>.int i
 |.inr x=>.str x
inductive HO where
 |lst (xs:List V)
 |tup (xs:List V)
 |dK (aY:List (Key×V))|dT (aY:List (List Key×V))
 |set (S:Int->Bool) (n:Nat)
 |ins (C dx:Addr) (fs:List (Str×V))
 |own (x:Addr)
 |xd (fs:List (Str×V))
 |met (f x:Addr)
 |V9 (lo hi:Int)
 |A5 (o:Obj) (u:HO)
 |Mw (ps:Array Value)
 |ext (φ:Heap->Prop)
abbrev Hp:=Addr->Option HO
def upd(H:Hp)(a:Addr)(o:HO):Hp:=λb=>if b=a then some o else H b
theorem aB{H:Hp}{o:HO}:upd H a o a=some o:=by unfold upd;rw[if_pos rfl]
theorem az{H:Hp}{b:Addr}{o:HO}(h:b≠a):upd H a o b=H b:=by unfold upd;rw[if_neg h]
theorem C_{H:Hp}{b:Addr}{o u:HO}(h:H a=some o)(h':H b=some u)(d:o≠u):a≠b:=by intro e;subst e;rw[h] at h';exact d (Option.some.inj h')
theorem aZ{H:Hp}{b:Addr}{o:HO}(h:H a=some o)(h':H b=none):a≠b:=by intro e;subst e;rw[h] at h';cases h'
section
variable(P:Program)(w:World)
def cc(H:Hp)(h:Heap)(a:Addr):HO->Prop
 |.lst xs=>xs.length<=sizeLine/\∃(aM:qag)(n:Nat),Vals xs aM/\h.get? a=some {cls:=.type "list",data:=.seq aM.toArray n}
 |.tup xs=>xs.length<=sizeLine/\∃aM:qag,Vals xs aM/\IsTup h a aM.toArray
 |.dK aY=>aY.length<=sizeLine/\(a==sysModules)=false/\∃vs,KV aY vs/\h.DictOf (aO P w) a vs
 |.dT aY=>aY.length<=sizeLine/\(a==sysModules)=false/\∃xs:List (List Key×Addr×Value),
  Paired (λ(p:List Key×V) (q:List Key×Addr×Value)=>p.1=q.1/\H q.2.1=some (.tup (p.1.map kV))/\RelV p.2 q.2.2) aY xs /\
  ∃o es ep,h.get? a=some o/\o.ExactDict/\o.data=.dict es ep/\es.toList=xs.map (entryOfKey (tupleKind (aO P w)))/\(xs.map (·.1)).Nodup
 |.set S n=>h.SetOf (intKind P w) a S n
 |.ins C dx fs=>H dx=some (.own a)/\fs.length<=1000/\dx≠a/\h.get? a=some (PySem.W.instObj C dx) /\
  ∃mA,h.Ns1 dx mA/\(∀f,j_ (fs.lookup f) (mA f))/\PySem.Within mA (fs.map (·.1))
 |.own _=>∃o,h.get? a=some o
 |.xd fs=>∃mA,h.Ns1 a mA/\∀f,j_ (fs.lookup f) (mA f)
 |.V9 lo hi=>∃t u v,h.get? a=some {cls:=.type "range",data:=.fields #[.int lo t,.int hi u,.int 1 v]}
 |.A5 o u=>h.get? a=some o/\cc H h a u
 |.Mw ps=>h.get? a=some {cls:=.none,data:=.fields ps}
 |.met f x=>h.get? a=some (PySem.W.methodObj (.ref f) (.ref x))
 |.ext φ=>φ h/\(∃o,h.get? a=some o)/\∀h1 h2:Heap,φ h1->(∀o,h1.get? a=some o->h2.get? a=some o)->φ h2
def j5(H:Hp)(h:Heap):Prop:=∀a o,H a=some o->cc P w H h a o
end
section
variable{H H':Hp}{o:HO}
theorem cc.lt(x:cc P w H h a o):a<h.objs.size:=by
 cases o with
 |lst xs=>obtain⟨_,_,_,_,e⟩:=x;exact fF e
 |tup xs=>obtain⟨_,_,_,p⟩:=x;exact p.lt
 |dK aY=>obtain⟨_,_,_,_,o,_,_,e,_⟩:=x;exact fF e
 |dT aY=>obtain⟨_,_,_,_,o,_,_,e,_⟩:=x;exact fF e
 |set S n=>obtain⟨o,_,_,_,e,_⟩:=x;exact fF e
 |ins C dx fs=>obtain⟨_,_,_,e,_⟩:=x;exact fF e
 |own y=>obtain⟨_,e⟩:=x;exact fF e
 |xd fs=>obtain⟨_,⟨_,_,_,e,_⟩,_⟩:=x;exact fF e
 |V9 lo hi=>obtain⟨_,_,_,e⟩:=x;exact fF e
 |A5 ob u=>obtain⟨e,_⟩:=x;exact fF e
 |Mw ps=>exact fF (show h.get? a=some _ from x)
 |met f y=>exact fF (show h.get? a=some _ from x)
 |ext φ=>obtain⟨_,⟨_,e⟩,_⟩:=x;exact fF e
theorem Paired.m8{α β:Type}{F G:α->β->Prop}:∀{l₁:List α}{l₂:List β},Paired F l₁ l₂->(∀a b,F a b->G a b)->Paired G l₁ l₂
 |_,_,.nil,_=>.nil
 |_,_,.cons r t,f=>.cons (f _ _ r) (Paired.m8 t f)
theorem cc.si(x:cc P w H h a o)(k:∀b u,(b=a\/H b=some (.own a))->h.get? b=some u->h'.get? b=some u)(ho:∀b,H b=some (.own a)->H' b=some (.own a))(ht:∀b xs,H b=some (.tup xs)->H' b=some (.tup xs)):cc P w H' h' a o:=by
 induction o with
 |lst xs=>obtain⟨z,aM,n,r,e⟩:=x;exact⟨z,aM,n,r,k _ _ (.inl rfl) e⟩
 |tup xs=>obtain⟨z,aM,r,ob,e,c⟩:=x;exact⟨z,aM,r,ob,k _ _ (.inl rfl) e,c⟩
 |dK aY=>obtain⟨z,y,vs,r,ob,es,ep,e,c⟩:=x;exact⟨z,y,vs,r,ob,es,ep,k _ _ (.inl rfl) e,c⟩
 |dT aY=>obtain⟨z,y,xs,r,ob,es,ep,e,c⟩:=x;exact⟨z,y,xs,Paired.m8 r λp q z=>⟨z.1,ht _ _ z.2.1,z.2.2⟩,ob,es,ep,k _ _ (.inl rfl) e,c⟩
 |set S n=>obtain⟨ob,es,ep,t,e,c⟩:=x;exact⟨ob,es,ep,t,k _ _ (.inl rfl) e,c⟩
 |ins C dx fs=>obtain⟨d,z,ne,e,mA,⟨od,es,ep,e2,c⟩,r⟩:=x;exact⟨ho _ d,z,ne,k _ _ (.inl rfl) e,mA,⟨od,es,ep,k _ _ (.inr d) e2,c⟩,r⟩
 |own y=>obtain⟨ob,e⟩:=x;exact⟨ob,k _ _ (.inl rfl) e⟩
 |xd fs=>obtain⟨mA,⟨od,es,ep,e,c⟩,r⟩:=x;exact⟨mA,⟨od,es,ep,k _ _ (.inl rfl) e,c⟩,r⟩
 |V9 lo hi=>obtain⟨t,u,v,e⟩:=x;exact⟨t,u,v,k _ _ (.inl rfl) e⟩
 |A5 ob u ih=>obtain⟨e,q⟩:=x;exact⟨k _ _ (.inl rfl) e,ih q⟩
 |Mw ps=>have e:h.get? a=some {cls:=.none,data:=.fields ps}:=x;show h'.get? a=some {cls:=.none,data:=.fields ps};exact k a _ (.inl rfl) e
 |met f y=>have e:h.get? a=some (PySem.W.methodObj (.ref f) (.ref y)):=x;show h'.get? a=some (PySem.W.methodObj (.ref f) (.ref y));exact k a _ (.inl rfl) e
 |ext φ=>obtain⟨p,⟨o,e⟩,st⟩:=x;exact⟨st _ _ p λo q=>k _ _ (.inl rfl) q,⟨o,k _ _ (.inl rfl) e⟩,st⟩
theorem j5.lt(x:j5 P w H h)(e:H a=some o):a<h.objs.size:=(x a o e).lt
theorem j5.fresh(x:j5 P w H h)(e:h.objs.size<=a):H a=none:=by
 cases q:H a with
 |none=>rfl
 |some u=>exact absurd (qT (x.lt q) e) (CP _)
theorem j5.kept(x:j5 P w H h)(k:∀b u,h.get? b=some u->h'.get? b=some u):j5 P w H h':=λa o e=>
 (x a o e).si (λb u _ q=>k b u q) (λ_ q=>q) λ_ _ q=>q
theorem j5.laid(x:j5 P w H h)(k:∀b u,h.get? b=some u->h'.get? b=some u)(hp:h.objs.size<=a)(new:cc P w (upd H a o) h' a o):j5 P w (upd H a o) h':=λb u e=>by have hn:=x.fresh hp;by_cases hb:b=a;subst hb;rw[aB] at e;cases e;exact new;rw[az hb] at e;exact (x b u e).si (λc v _ q=>k c v q) (λc q=>by rw[az (aZ q hn)];exact q) λc xs q=>by rw[az (aZ q hn)];exact q
end
def Rd(H:Hp)(a:Addr)(u:HO):Prop:=H a=some u\/∃o,H a=some (.A5 o u)
theorem Rd.ok{H:Hp}{u:HO}(r:Rd H a u)(x:j5 P w H h):cc P w H h a u:=by
 obtain r|⟨o,r⟩:=r
 exact x a u r;obtain⟨_,q⟩:=x a _ r;exact q
def Q0:Option HO->Prop
 |some (.lst _)=>True
 |some (.dK _)=>True
 |some (.dT _)=>True
 |some (.set _ _)=>True
 |some (.ins _ _ _)=>True
 |some (.ext _)=>True
 |_=>False
section
variable{H:Hp}{x e:Addr}{o':HO}
theorem j5.write(ok:j5 P w H h)(mu:Q0 (H x))(he:e=x\/H e=some (.own x))(k:∀b u,b≠e->h.get? b=some u->h'.get? b=some u)(G8:∃u,h'.get? e=some u)(new:cc P w (upd H x o') h' x o'):j5 P w (upd H x o') h':=λb u q=>by
 have Q1:∀c y,H c=some (.own y)->c≠x:=λc y r z=>by subst z;rw[r] at mu;exact mu
 have V_:∀c xs,H c=some (.tup xs)->c≠x:=λc xs r z=>by subst z;rw[r] at mu;exact mu
 by_cases hb:b=x;subst hb;rw[aB] at q;cases q;exact new;rw[az hb] at q;by_cases A6:b=e;have q':H b=some (.own x):=by
  obtain z|z:=he
  exact absurd (A6.trans z) hb;rw[A6];exact z
 rw[q] at q';cases q';obtain⟨v,hv⟩:=G8;exact⟨v,by rw[A6];exact hv⟩;refine (ok b u q).si (λc v hc r=>k c v ?_ r) (λc r=>by rw[az (Q1 c b r)];exact r) λc xs r=>by rw[az (V_ c xs r)];exact r
 obtain rfl|hc:=hc
 exact A6;rintro rfl;obtain z|z:=he
 exact Q1 c b hc z;rw[hc] at z;cases z;exact hb rfl
end
structure Un(fs ex:qah)(H H':Hp)(h h':Heap):Prop where
 keep:∀b o,h.get? b=some o->H b=none->b∉fs->b∉ex->h'.get? b=some o
 slot:∀b o,h.get? b=some o->H b=none->b∈fs->b∉ex->∃sl,h'.get? b=some {o with slots:=sl}
 free:∀b o,h.get? b=some o->H b=none->b∉ex->H' b=none
 there:∀b o,h.get? b=some o->b∉ex->∃o',h'.get? b=some o'
 uN:∀b xs,H b=some (.tup xs)->H' b=some (.tup xs)
 sj:∀b o u,H b=some (.A5 o u)->H' b=some (.A5 o u)
 uO:∀b ps,H b=some (.Mw ps)->∃more,H' b=some (.Mw (ps++more))
section
variable{fs V' ex Wa:qah}{H H1 H2:Hp}{h1 h2:Heap}{x e:Addr}{o:HO}
theorem Un.any(u:Un fs ex H H1 h h1){b:Addr}{ob:Obj}(q:h.get? b=some ob)(n:H b=none)(hx:b∉ex):∃sl,h1.get? b=some {ob with slots:=sl}:=by by_cases hb:b∈fs;exact u.slot b ob q n hb hx;exact⟨ob.slots,u.keep b ob q n hb hx⟩
theorem Un.kept(k:∀b u,h.get? b=some u->h'.get? b=some u):Un fs ex H H h h' :=
 ⟨λb ob q _ _ _=>k b ob q,λb ob q _ _ _=>⟨ob.slots,k b ob q⟩,λ_ _ _ n _=>n,λb ob q _=>⟨ob,k b ob q⟩,λ_ _ q=>q,λ_ _ _ q=>q,λ_ ps q=>⟨#[],by rw[q];simp⟩⟩
theorem Un.refl:Un fs ex H H h h:=Un.kept λ_ _ q=>q
theorem Un.laid(k:∀b u,h.get? b=some u->h'.get? b=some u)(hp:h.objs.size<=a)(hn:H a=none):Un fs ex H (upd H a o) h h' where
 keep:=λb u q _ _ _=>k b u q
 slot:=λb u q _ _ _=>⟨u.slots,k b u q⟩
 free:=λb u q n _=>by rw[az (j4 (qT (fF q) hp))];exact n
 there:=λb u q _=>⟨u,k b u q⟩
 uN:=λb xs q=>by rw[az (aZ q hn)];exact q
 sj:=λb u xs q=>by rw[az (aZ q hn)];exact q
 uO:=λb ps q=>⟨#[],by rw[az (aZ q hn),q];simp⟩
theorem Un.write(mu:Q0 (H x))(he:e=x\/H e=some (.own x))(k:∀b u,b≠e->h.get? b=some u->h'.get? b=some u)(G8:∃u,h'.get? e=some u):Un fs ex H (upd H x o) h h':=by
 have hx:∀b,H b=none->b≠x:=λb n z=>by subst z;rw[n] at mu;exact mu
 have hb:∀b,H b=none->b≠e:=λb n z=>by
  subst z;obtain r|r:=he
  exact hx b n r;rw[n] at r;cases r
 have hm:∀b u,H b=some u->¬ Q0 (some u)->b≠x:=λb u q nm z=>by subst z;rw[q] at mu;exact nm mu
 refine⟨λb u q n _ _=>k b u (hb b n) q,λb u q n _ _=>⟨u.slots,k b u (hb b n) q⟩,λb u q n _=>by rw[az (hx b n)];exact n,λb u q _=>?_,
  λb xs q=>by rw[az (hm b _ q λz=>z)];exact q,λb u xs q=>by rw[az (hm b _ q λz=>z)];exact q,λb ps q=>⟨#[],by rw[az (hm b _ q λz=>z),q];simp⟩⟩
 by_cases A6:b=e;subst A6;exact G8;exact⟨u,k b u A6 q⟩
end
def UZ(h:Heap)(H:Hp):qah:=(List.range h.objs.size).filter λa=>(H a).isSome
def sk(h:Heap)(H:Hp):Heap:=PySem.W.hideAll h (UZ h H)
theorem A7(h:Heap)(H:Hp):(sk h H).objs.size=h.objs.size:=PySem.W.hideAll_size _ _
theorem Dd{H:Hp}{b:Addr}{o:Obj}(e:h.get? b=some o)(n:H b=none):(sk h H).get? b=some o :=
 PySem.W.hideAll_get _ e λhm=>by have q:(H b).isSome=true:=(List.mem_filter.mp hm).2;rw[n] at q;simp at q
theorem Hs{H:Hp}{b:Addr}{o:Obj}(e:(sk h H).get? b=some o):h.get? b=some o/\H b=none:=by
 have e':h.get? b=some o:=PySem.W.of_hideAll (UZ h H) e;refine⟨e',?_⟩;cases q:H b with
 |none=>rfl
 |some x=>have hm:b∈UZ h H:=List.mem_filter.mpr ⟨G4.mpr (fF e'),by simp[q]⟩;have z:(sk h H).get? b=none:=PySem.W.hideAll_none (UZ h H) hm;rw[z] at e;cases e
def Ht(g h:Heap)(L:Addr):qaa:=(List.range h.objs.size).filterMap λa=>if a=L\/(g.get? a).isSome=true then none else (h.get? a).map λo=>(a,o)
def rest(g h:Heap)(L d:Addr):qaa:=(Ht g h L).filter λp=>decide (p.1≠d)
structure Mod(K:qaf)(mg:qae)(base:Heap):Prop where
 Q2:K.In base
 glob:base.Ns mainGlobals mg
 blt:∃mb,base.Ns builtinsNs mb/\∀x:Str,x≠"__name__"->mb x=bootBuiltins x
 nolimit:base.NoLimit
structure Cx where
 prog:Program
 w:World
 K:qaf
 mg:qae
 base:Heap
 A:Around
 N:qai
 s₀:Shared
 H₀:Hp
 env:Env
 outer:List Env
 stack:List Env
 ex:qah
 fn:Str->Bool
 calm:Bool
 pn:qaa
 xe:qad
def CT(l:List Env):qah:=l.filterMap (·.frame)
abbrev Cx.fs(X:Cx):qah:=CT X.outer
def jA(sc:Scope)(x:Str):Prop:=sc.names.lookup x=some .local\/sc.names.lookup x=some .cell\/sc.names.lookup x=some .free
def Loc(sc:Scope)(x:Str):Prop:=sc.names.lookup x=some .local\/sc.names.lookup x=some .cell
def Look(env:Env)(h:Heap)(m:qae)(x:Str)(u:Value):Prop :=
 (env.kindOf x=some .local/\m x=some u)\/((env.kindOf x=some .cell\/env.kindOf x=some .free)/\∃c,env.cells.lookup x=some c/\h.IsCell c (some u))
structure Cx.Ok(X:Cx):Prop where
 mod:Mod X.K X.mg X.base
 kind:X.env.scope.kind=.function
 glob:X.env.globals=mainGlobals
 blt:X.env.builtins=builtinsNs
 above:X.s₀.heap.objs.size<=X.env.locals
 inj:∀x y c,X.env.cells.lookup x=some c->X.env.cells.lookup y=some c->x=y
 has:∀x,(X.env.kindOf x=some .cell\/X.env.kindOf x=some .free)->∃c,X.env.cells.lookup x=some c
 Mx:∀x c,X.fn x=true->X.env.cells.lookup x=some c->X.s₀.heap.objs.size<=c
 hd:X.calm=true->X.A.handled=none
 frames:X.A.frames=some X.stack
 Qn:X.stack=X.outer\/(X.stack=X.env::X.outer/\X.env.frame=some X.env.locals)
 U0:∀b∈X.ex,b≠X.env.locals/\∀x c,X.env.cells.lookup x=some c->c≠b
 bs:∀b o,X.base.get? b=some o->X.s₀.heap.get? b=some o/\X.H₀ b=none
 CU:X.base.objs.size<=X.s₀.heap.objs.size
 xM:∀b o,X.base.get? b=some o->b∉X.ex
 A8:∀b∈X.ex,b∉X.fs
 j':X.s₀.heap.FunFrames X.base X.outer
 Hu:∀b∈X.fs,X.H₀ b=none
structure Inv(X:Cx)(pins:qaa)(σ:List (Option V))(H:Hp)(s:Shared):Prop where
 ok:X.Ok
 os:s.os=X.s₀.os
 bare:AllBare s.gens
 base:Un X.fs X.ex X.H₀ H X.s₀.heap s.heap
 loc:∃m,s.heap.Ns X.env.locals m/\∀(i:Nat)(x:Str)(v:V),X.N[i]?=some x->σ[i]?=some (some v)->jA X.env.scope x->∃u,RelV v u/\Look X.env s.heap m x u
 cell:∀x c,X.env.cells.lookup x=some c->∃v,s.heap.IsCell c v
 free:H X.env.locals=none
 gu:∀x c,X.env.cells.lookup x=some c->H c=none
 pin:∀p∈X.pn++pins,s.heap.get? p.1=some p.2/\H p.1=none/\p.1≠X.env.locals/\p.1∉X.fs/\∀v,p.2.data≠.cell v
 b_:j5 X.prog X.w H s.heap
 len:σ.length=X.N.length
section
variable{X:Cx}{pins:qaa}{σ:List (Option V)}{H H':Hp}{s:Shared}
theorem Cx.Ok.Wb(ok:X.Ok){b:Addr}{o:Obj}(e:X.base.get? b=some o):b∉X.fs:=λhb=>by have:=(ok.j'.mem hb).1;rw[e] at this;cases this
theorem Inv.bs(I:Inv X pins σ H s):∀b o,X.base.get? b=some o->s.heap.get? b=some o/\H b=none:=λb o e=>
 ⟨I.base.keep b o (I.ok.bs b o e).1 (I.ok.bs b o e).2 (I.ok.Wb e) (I.ok.xM b o e),I.base.free b o (I.ok.bs b o e).1 (I.ok.bs b o e).2 (I.ok.xM b o e)⟩
theorem Inv.bk(I:Inv X pins σ H s):∀b o,X.base.get? b=some o->s.heap.get? b=some o:=λb o e=>(I.bs b o e).1
theorem Inv.mod(I:Inv X pins σ H s):Mod X.K X.mg X.base:=I.ok.mod
theorem Inv.qV(I:Inv X pins σ H s):X.K.In s.heap:=I.ok.mod.Q2.keeps I.bk
theorem Inv.fr(I:Inv X pins σ H s):∃m,Fr X.base X.env.locals s.heap m :=
 let ⟨m,hn,_⟩:=I.loc
 ⟨m,hn,I.bk,m7 I.ok.CU I.ok.above⟩
theorem Inv.lt(I:Inv X pins σ H s):X.env.locals<s.heap.objs.size:=let ⟨_,hn,_⟩:=I.loc;hn.lt
theorem Inv.sz(I:Inv X pins σ H s):X.s₀.heap.objs.size<=s.heap.objs.size:=m7 I.ok.above (Nat.le_of_lt I.lt)
theorem Inv.Wc(I:Inv X pins σ H s)(h:s.heap.objs.size<=a):a∉X.fs:=λhb=>by obtain⟨_,o,ho,_⟩:=I.ok.j'.mem hb;exact absurd (qT (fF ho) (m7 I.sz h)) (CP _)
theorem Inv.Hv(I:Inv X pins σ H s):∀x c,X.env.cells.lookup x=some c->c≠X.env.locals:=λx c e z=>by obtain⟨v,o,ho,hd⟩:=I.cell x c e;obtain⟨m,⟨o',es,ep,jn,CV,_⟩,_⟩:=I.loc;rw[z,jn] at ho;cases ho;rw[CV] at hd;cases hd
theorem Inv.j'(I:Inv X pins σ H s):s.heap.FunFrames X.base X.outer:=by
 have all:∀(l:List Env),(∀b∈CT l,b∈X.fs)->X.s₀.heap.FunFrames X.base l->s.heap.FunFrames X.base l:=by
  intro l;induction l with
  |nil=>intro _ _;trivial
  |cons env r ih=>intro hs hl;obtain⟨hk,⟨L,o,hf,hn,ho,hd⟩,hr⟩:=hl;have hL:L∈X.fs:=hs L (by unfold CT;rw[k5,hf];exact cS);obtain⟨sl,e⟩:=I.base.slot L o ho (I.ok.Hu L hL) hL λz=>I.ok.A8 L z hL;exact⟨hk,⟨L,_,hf,hn,e,hd⟩,ih (λb hb=>hs b (by unfold CT;rw[k5,hf];exact d_ _ hb)) hr⟩
 exact all X.outer (λ_ hb=>hb) I.ok.j'
theorem Inv.stack(I:Inv X pins σ H s):s.heap.FunFrames X.base X.stack:=by
 obtain e|⟨e,hf⟩:=I.ok.Qn
 rw[e];exact I.j';rw[e];obtain⟨m,hn,_⟩:=I.loc;refine .cons (by rw[I.ok.kind];decide) hf hn ?_ I.j';exact Heap.get?_none_of_le (m7 I.ok.CU I.ok.above)
theorem Inv.xN(I:Inv X pins σ H s):∀b∈CT X.stack,b∈X.env.locals::X.fs:=λb hb=>by
 obtain e|⟨e,hf⟩:=I.ok.Qn
 rw[e] at hb;exact d_ _ hb;rw[e] at hb;unfold CT at hb;rw[k5,hf] at hb;exact hb
theorem Inv.zC(I:Inv X pins σ H s):∀b∈CT X.stack,H b=none:=λb hb=>by
 rcases cT.mp (I.xN b hb) with e|hb
 rw[e];exact I.free;obtain⟨_,o,ho,_⟩:=I.ok.j'.mem hb;exact I.base.free b o ho (I.ok.Hu b hb) λz=>I.ok.A8 b z hb
theorem Inv.step{g':Array GenState}{d':Drawn}{ch:qah}(I:Inv X pins σ H s)(G9:∀b∈ch,(b∈X.ex\/X.s₀.heap.objs.size<=b)/\b≠X.env.locals/\(∀x c,X.env.cells.lookup x=some c->c≠b)/\∀p∈X.pn++pins,p.1≠b)(keep:∀b o,b≠X.env.locals->b∉X.fs->b∉ch->s.heap.get? b=some o->H b=none->h'.get? b=some o)(slot:∀b o,b≠X.env.locals->b∈X.fs->b∉ch->s.heap.get? b=some o->H b=none->∃sl,h'.get? b=some {o with slots:=sl})(free:∀b o,b∉ch->s.heap.get? b=some o->H b=none->H' b=none)(there:∀b o,b∉ch->s.heap.get? b=some o->∃o',h'.get? b=some o')(uN:∀b xs,H b=some (.tup xs)->H' b=some (.tup xs))(sj:∀b o u,H b=some (.A5 o u)->H' b=some (.A5 o u))(uO:∀b ps,H b=some (.Mw ps)->∃more,H' b=some (.Mw (ps++more)))(ns:∀m,s.heap.Ns X.env.locals m->h'.Ns X.env.locals m)(b_:j5 X.prog X.w H' h')(hg:AllBare g') :
  Inv X pins σ H' {s with heap:=h',gens:=g',drawn:=d',toks:=t'}:=by
 have YQ:∀b o,X.s₀.heap.get? b=some o->b≠X.env.locals:=λb o e=>j4 (qT (fF e) I.ok.above);have U1:∀b o,X.s₀.heap.get? b=some o->b∉X.ex->b∉ch:=λb o e hx hb=>by
  rcases (G9 b hb).1 with z|z
  exact hx z;exact absurd (qT (fF e) z) (CP _)
 have cellK:∀x c,X.env.cells.lookup x=some c->∀v,s.heap.IsCell c v->h'.IsCell c v:=λx c e v ⟨o,ho,hd⟩=>by have De:c∉ch:=λz=>(G9 c z).2.2.1 x c e rfl;by_cases hc:c∈X.fs;obtain⟨sl,q⟩:=slot c o (I.Hv x c e) hc De ho (I.gu x c e);exact⟨_,q,hd⟩;exact⟨o,keep c o (I.Hv x c e) hc De ho (I.gu x c e),hd⟩
 refine⟨I.ok,I.os,hg,⟨λb o e n hb hx=>?_,λb o e n hb hx=>?_,λb o e n hx=>?_,λb o e hx=>?_,λb xs e=>uN b xs (I.base.uN b xs e),λb o xs e=>sj b o xs (I.base.sj b o xs e),λb ps e=>?_⟩,?_,λx c e=>?_,?_,λx c e=>?_,λp hp=>?_,b_,I.len⟩;exact keep b o (YQ b o e) hb (U1 b o e hx) (I.base.keep b o e n hb hx) (I.base.free b o e n hx);obtain⟨sl,e1⟩:=I.base.slot b o e n hb hx;obtain⟨sl',e2⟩:=slot b _ (YQ b o e) hb (U1 b o e hx) e1 (I.base.free b o e n hx);exact⟨sl',e2⟩;obtain⟨o',e1⟩:=I.base.there b o e hx;exact free b o' (U1 b o e hx) e1 (I.base.free b o e n hx);obtain⟨o',e1⟩:=I.base.there b o e hx;exact there b o' (U1 b o e hx) e1;obtain⟨m1,e1⟩:=I.base.uO b ps e;obtain⟨m2,e2⟩:=uO b _ e1;exact⟨m1++m2,by rw[e2,Array.append_assoc]⟩;obtain⟨m,hn,hl⟩:=I.loc;refine⟨m,ns m hn,λi x v e1 e2 e3=>?_⟩;obtain⟨u,r,l⟩:=hl i x v e1 e2 e3;refine⟨u,r,?_⟩;obtain l|⟨k,c,e,z⟩:=l
 exact .inl l;exact .inr ⟨k,c,e,cellK x c e _ z⟩;obtain⟨v,z⟩:=I.cell x c e;exact⟨v,cellK x c e v z⟩;obtain⟨m,⟨o,_,_,ho,_⟩,_⟩:=I.loc;exact free _ o (λz=>(G9 _ z).2.1 rfl) ho I.free;obtain⟨v,o,ho,hd⟩:=I.cell x c e;exact free c o (λz=>(G9 c z).2.2.1 x c e rfl) ho (I.gu x c e);obtain⟨e,n,ne,nf,d⟩:=I.pin p hp;have De:p.1∉ch:=λz=>(G9 p.1 z).2.2.2 p hp rfl;exact⟨keep p.1 p.2 ne nf De e n,free p.1 p.2 De e n,ne,nf,d⟩
theorem Inv.un(I:Inv X pins σ H s)(u:Un X.fs [] H H' s.heap h')(b_:j5 X.prog X.w H' h'):Inv X pins σ H' {s with heap:=h',toks:=t'}:=by
 obtain⟨m,⟨o,es,ep,ho,r⟩,_⟩:=id I.loc;obtain⟨sl,hL⟩:=u.any ho I.free (by simp);exact I.step (g':=s.gens) (d':=s.drawn) (ch:=[]) (λ_ z=>nomatch z) (λb o _ hb _ e n=>u.keep b o e n hb (by simp)) (λb o _ hb _ e n=>u.slot b o e n hb (by simp)) (λb o _ e n=>u.free b o e n (by simp)) (λb o _ e=>u.there b o e (by simp)) u.uN u.sj u.uO (λm' hm=>by obtain⟨o',Wd,We,jn,r'⟩:=hm;rw[ho] at jn;cases jn;exact⟨_,Wd,We,hL,r'⟩) b_ I.bare
theorem Inv.call{g':Array GenState}{d':Drawn}{ch:qah}(I:Inv X pins σ H s)(u:Un (CT X.stack) ch H H' s.heap h')(b_:j5 X.prog X.w H' h')(hg:AllBare g')(G9:∀b∈ch,(b∈X.ex\/X.s₀.heap.objs.size<=b)/\b≠X.env.locals/\(∀x c,X.env.cells.lookup x=some c->c≠b)/\∀p∈X.pn++pins,p.1≠b) :
  Inv X pins σ H' {s with heap:=h',gens:=g',drawn:=d',toks:=t'}:=by
 obtain⟨m,⟨o,es,ep,ho,r⟩,_⟩:=id I.loc;obtain⟨sl,hL⟩:=u.any ho I.free λz=>(G9 _ z).2.1 rfl;exact I.step (ch:=ch) G9 (λb o hL hb hc e n=>u.keep b o e n (λz=>(cT.mp (I.xN b z)).elim hL hb) hc) (λb o _ _ hc e n=>u.any e n hc) (λb o hc e n=>u.free b o e n hc) (λb o hc e=>u.there b o e hc) u.uN u.sj u.uO (λm' hm=>by obtain⟨o',Wd,We,jn,r'⟩:=hm;rw[ho] at jn;cases jn;exact⟨_,Wd,We,hL,r'⟩) b_ hg
theorem Inv.turned(I:Inv X pins σ H s)(k:∀b o,b≠it->s.heap.get? b=some o->h'.get? b=some o)(hn:H it=none)(hL:it≠X.env.locals)(h1:it∈X.ex\/X.s₀.heap.objs.size<=it)(h2:∀x c,X.env.cells.lookup x=some c->c≠it)(h3:∀p∈X.pn++pins,p.1≠it):Inv X pins σ H {s with heap:=h',toks:=t'}:=by
 have YR:∀b u,H b=some u->b≠it:=λb u e z=>by rw[z,hn] at e;cases e
 refine I.step (g':=s.gens) (d':=s.drawn) (ch:=[it]) (λb hb=>?_) (λb o _ _ hc e _=>k b o (λz=>hc (by simp[z])) e) (λb o _ _ hc e _=>⟨o.slots,k b o (λz=>hc (by simp[z])) e⟩) (λ_ _ _ _ n=>n)
  (λb o hc e=>⟨o,k b o (λz=>hc (by simp[z])) e⟩) (λ_ _ e=>e) (λ_ _ _ e=>e) (λb ps e=>⟨#[],by rw[e];simp⟩) (λm hm=>?_) (λb u e=>?_) I.bare
 have e:b=it:=by simpa using hb
 subst e;exact⟨h1,hL,h2,h3⟩;obtain⟨o,es,ep,ho,r⟩:=hm;exact⟨o,es,ep,k _ o (Ne.symm hL) ho,r⟩;refine (I.b_ b u e).si (λc v hc q=>k c v ?_ q) (λ_ q=>q) λ_ _ q=>q;obtain z|z:=hc
 rw[z];exact YR b u e;exact YR c _ z
theorem Inv.tok(I:Inv X pins σ H s)(t:Nat):Inv X pins σ H {s with toks:=t}:=I.un (h':=s.heap) (t':=t) Un.refl I.b_
theorem Inv.kept(I:Inv X pins σ H s)(k:∀b u,s.heap.get? b=some u->h'.get? b=some u):Inv X pins σ H {s with heap:=h',toks:=t'}:=I.un (Un.kept k) (I.b_.kept k)
theorem Inv.laid{o:HO}(I:Inv X pins σ H s)(k:∀b u,s.heap.get? b=some u->h'.get? b=some u)(hp:s.heap.objs.size<=a)(new:cc X.prog X.w (upd H a o) h' a o) :
 Inv X pins σ (upd H a o) {s with heap:=h',toks:=t'}:=I.un (Un.laid k hp (I.b_.fresh hp)) (I.b_.laid k hp new)
theorem Inv.write{x e:Addr}{o:HO}(I:Inv X pins σ H s)(mu:Q0 (H x))(he:e=x\/H e=some (.own x))(k:∀b u,b≠e->s.heap.get? b=some u->h'.get? b=some u)(G8:∃u,h'.get? e=some u)(new:cc X.prog X.w (upd H x o) h' x o):Inv X pins σ (upd H x o) {s with heap:=h',toks:=t'}:=I.un (Un.write mu he k G8) (I.b_.write mu he k G8 new)
theorem Inv.weak{σ':List (Option V)}(I:Inv X pins σ H s)(hl:σ'.length=σ.length)(w:∀(i:Nat) v,σ'[i]?=some (some v)->σ[i]?=some (some v)):Inv X pins σ' H s :=
 ⟨I.ok,I.os,I.bare,I.base,let ⟨m,hn,K6⟩:=I.loc;⟨m,hn,λi x v e1 e2 e3=>K6 i x v e1 (w i v e2) e3⟩,I.cell,I.free,I.gu,I.pin,I.b_,hl.trans I.len⟩
theorem Inv.zD{zE:qaa}(I:Inv X pins σ H s)(h:∀p∈zE,s.heap.get? p.1=some p.2/\H p.1=none/\p.1≠X.env.locals/\p.1∉X.fs/\∀v,p.2.data≠.cell v):Inv X zE σ H s :=
 ⟨I.ok,I.os,I.bare,I.base,I.loc,I.cell,I.free,I.gu,λp hp=>(cJ.mp hp).elim (λz=>I.pin p (cj _ z)) (h p),I.b_,I.len⟩
theorem uP{N:qai}(hN:N.Nodup)(a:N[i]?=some x)(b:N[j]?=some x):i=j:=by obtain⟨h1,e1⟩:=fG.mp a;obtain⟨h2,e2⟩:=fG.mp b;exact (List.getElem_inj hN).mp (e1.trans e2.symm)
theorem qW{M:Model}{E:qad}{v:V}{Q:Unit->Shared->Prop}(I:Inv X pins σ H s)(hN:X.N.Nodup)(hi:X.N[i]?=some x)(hx:Loc X.env.scope x)(r:RelV v u)(h:∀s',Inv X pins (σ.set i (some v)) H s'->(∃a,Heap.SameBut a s.heap s'.heap/\(a=X.env.locals\/X.env.cells.lookup x=some a))->Q () s')(hf:X.fn x=true\/X.env.scope.names.lookup x=some .local:=by first|exact .inl rfl|exact .inr rfl|assumption):wpAny M A (storeName X.env x u) Q E s:=by
 obtain⟨m,hn,hl⟩:=id I.loc;have Wf:(X.env.scope.kind==.class || (X.env.scope.kind==.module && X.env.locals != X.env.globals))=false:=by rw[I.ok.kind];rfl
 have YS:i<σ.length:=by rw[I.len];exact (fG.mp hi).1
 have Hv:=I.Hv;have tracked:∀{a:Addr}{h':Heap},(∃o,s.heap.get? a=some o/\H a=none)->Heap.SameBut a s.heap h'->j5 X.prog X.w H h':=λ{a h'} ha hs b ob e=>by
  obtain⟨_,_,K7⟩:=ha;refine (I.b_ b ob e).si (λc w' hc q=>(hs.2 c ?_).trans q) (λ_ q=>q) λ_ _ q=>q;rintro rfl;obtain rfl|hc:=hc
  rw[K7] at e;cases e;rw[K7] at hc;cases hc
 obtain hk|hk:=hx
 refine wpAny_storeName_local hk hn (λh' hn' hs=>?_) Wf;obtain⟨oL,_,_,hoL,_⟩:=id hn;refine h _ ⟨I.ok,I.os,I.bare,⟨λb o e n hb hx=>?_,λb o e n hb hx=>?_,I.base.free,λb o e hx=>?_,I.base.uN,I.base.sj,I.base.uO⟩,⟨_,hn',λj y v' e1 e2 e3=>?_⟩,λy c e=>?_,I.free,I.gu,λp hp=>?_,tracked ⟨oL,hoL,I.free⟩ hs,by simpa using I.len⟩ ⟨_,hs,.inl rfl⟩;exact (hs.2 b (j4 (qT (fF e) I.ok.above))).trans (I.base.keep b o e n hb hx);obtain⟨sl,e1⟩:=I.base.slot b o e n hb hx;exact⟨sl,(hs.2 b (j4 (qT (fF e) I.ok.above))).trans e1⟩;obtain⟨o',e1⟩:=I.base.there b o e hx;exact⟨o',(hs.2 b (j4 (qT (fF e) I.ok.above))).trans e1⟩;by_cases hj:j=i;subst hj;rw[hi] at e1;cases e1;rw[zz YS] at e2;cases e2;exact⟨u,r,.inl ⟨hk,by simp⟩⟩;rw[qS (Ne.symm hj)] at e2;obtain⟨u',r',q⟩:=hl j y v' e1 e2 e3;refine⟨u',r',?_⟩;obtain⟨k,e⟩|⟨k,c,e,z⟩:=q
 refine .inl ⟨k,?_⟩;have:y≠x:=λe=>hj (uP hN e1 (e▸hi));simp[this,e];exact .inr ⟨k,c,e,z.sameBut hs (Hv y c e)⟩;obtain⟨w',z⟩:=I.cell y c e;exact⟨w',z.sameBut hs (Hv y c e)⟩;obtain⟨e,n,ne,nf,d⟩:=I.pin p hp;exact⟨(hs.2 p.1 ne).trans e,n,ne,nf,d⟩;have Wg:X.fn x=true:=by
  obtain z|z:=hf
  exact z;rw[z] at hk;cases hk
 obtain⟨c,hc⟩:=I.ok.has x (.inl hk);obtain⟨w',z⟩:=I.cell x c hc;refine wpAny_storeName_cell I.ok.kind hk hc z (λh' qh hs=>?_);obtain⟨oc,YT,Wh⟩:=id z;refine h {s with heap:=h'} ⟨I.ok,I.os,I.bare,⟨λb o e n hb hx=>?_,λb o e n hb hx=>?_,I.base.free,λb o e hx=>?_,I.base.uN,I.base.sj,I.base.uO⟩,⟨m,hn.sameBut hs (Ne.symm (Hv x c hc)),λj y v' e1 e2 e3=>?_⟩,λy c' e=>?_,I.free,I.gu,λp hp=>?_,tracked ⟨oc,YT,I.gu x c hc⟩ hs,by simpa using I.len⟩ ⟨c,hs,.inr hc⟩;exact (hs.2 b (j4 (qT (fF e) (I.ok.Mx x c Wg hc)))).trans (I.base.keep b o e n hb hx);obtain⟨sl,e1⟩:=I.base.slot b o e n hb hx;exact⟨sl,(hs.2 b (j4 (qT (fF e) (I.ok.Mx x c Wg hc)))).trans e1⟩;obtain⟨o',e1⟩:=I.base.there b o e hx;exact⟨o',(hs.2 b (j4 (qT (fF e) (I.ok.Mx x c Wg hc)))).trans e1⟩;by_cases hj:j=i;subst hj;rw[hi] at e1;cases e1;rw[zz YS] at e2;cases e2;exact⟨u,r,.inr ⟨.inl hk,c,hc,qh⟩⟩;rw[qS (Ne.symm hj)] at e2;obtain⟨u',r',q⟩:=hl j y v' e1 e2 e3;refine⟨u',r',?_⟩;obtain q|⟨k,c',e,z'⟩:=q
 exact .inl q;refine .inr ⟨k,c',e,z'.sameBut hs ?_⟩;rintro rfl;exact hj (uP hN e1 (I.ok.inj _ _ _ e hc▸hi));by_cases YU:c'=c;subst YU;exact⟨_,qh⟩;obtain⟨w2,z2⟩:=I.cell y c' e;exact⟨w2,z2.sameBut hs YU⟩;obtain⟨e,n,ne,nf,d⟩:=I.pin p hp;refine⟨(hs.2 p.1 ?_).trans e,n,ne,nf,d⟩;intro q;rw[q,YT] at e;have q':oc=p.2:=Option.some.inj e;exact d w' (by rw[<- q'];exact Wh)
theorem uQ{M:Model}{E:qad}{v:V}{Q:Unit->Shared->Prop}(I:Inv X pins σ H s)(hN:X.N.Nodup)(hi:X.N[i]?=some x)(hx:Loc X.env.scope x)(r:RelV v u)(h:∀s',Inv X pins (σ.set i (some v)) H s'->Q () s')(hf:X.fn x=true\/X.env.scope.names.lookup x=some .local:=by first|exact .inl rfl|exact .inr rfl|assumption):wpAny M A (storeName X.env x u) Q E s :=
 qW I hN hi hx r (λs' I' _=>h s' I') hf
theorem Inv.Q3{ch:qah}(I:Inv X pins σ H s)(ho:s'.os=s.os)(u:Un (CT X.stack) ch H H' s.heap s'.heap)(b_:j5 X.prog X.w H' s'.heap)(hg:AllBare s'.gens)(G9:∀b∈ch,(b∈X.ex\/X.s₀.heap.objs.size<=b)/\b≠X.env.locals/\(∀x c,X.env.cells.lookup x=some c->c≠b)/\∀p∈X.pn++pins,p.1≠b):Inv X pins σ H' s':=by obtain⟨h',g',d',t',o'⟩:=s';have e:o'=s.os:=ho;subst e;exact I.call (g':=g') (t':=t') (d':=d') u b_ hg G9
end
abbrev XK:=Value->qar->Hp->Prop
abbrev St:=List (Option V)
abbrev VK:=V->Hp->Prop
abbrev TE:=St->Hp->VK->Prop
abbrev TT:=St->Hp->(Bool->Hp->Prop)->Prop
abbrev TA:=St->Hp->(List V->Hp->Prop)->Prop
structure Ends where
 nx:St->Hp->Prop
 rt:VK
 bk:St->Hp->Prop:=λ_ _=>False
 ct:St->Hp->Prop:=λ_ _=>False
abbrev TS:=Ends->St->Hp->Prop
def EP(X:Cx)(pins:qaa)(σ:St)(Q:VK)(u:Value)(s':Shared):Prop:=∃v H',Inv X pins σ H' s'/\RelV v u/\Q v H'
def TP(X:Cx)(pins:qaa)(σ:St)(Q:Bool->Hp->Prop)(b:Bool)(s':Shared):Prop:=∃H',Inv X pins σ H' s'/\Q b H'
def AP(X:Cx)(pins:qaa)(σ:St)(Q:List V->Hp->Prop)(us:qag)(s':Shared):Prop:=∃vs H',Inv X pins σ H' s'/\Vals vs us/\Q vs H'
def SP(X:Cx)(pins:qaa)(D:Ends)(f:Flow)(s':Shared):Prop :=
 match f with
 |.next=>∃σ' H',Inv X pins σ' H' s'/\D.nx σ' H'
 |.brk=>∃σ' H',Inv X pins σ' H' s'/\D.bk σ' H'
 |.cont=>∃σ' H',Inv X pins σ' H' s'/\D.ct σ' H'
 |.ret u=>∃v σ' H',Inv X pins σ' H' s'/\RelV v u/\D.rt v H'
def PE(X:Cx)(e:Expr)(t:TE):Prop :=
 ∀(pins:qaa)(s:Shared)(σ:St)(H:Hp)(Q:VK),Inv X pins σ H s->t σ H Q->wpAny (model X.prog X.w) X.A (eval e X.env) (EP X pins σ Q) X.xe s
def PT(X:Cx)(e:Expr)(t:TT):Prop :=
 ∀(pins:qaa)(s:Shared)(σ:St)(H:Hp)(Q:Bool->Hp->Prop),Inv X pins σ H s->t σ H Q->wpAny (model X.prog X.w) X.A (isTrue e X.env (eval e X.env)) (TP X pins σ Q) X.xe s
def PW(X:Cx)(e:Expr)(t:TT):Prop :=
 ∀(whole:Sem Value)(pins:qaa)(s:Shared)(σ:St)(H:Hp)(Q:Bool->Hp->Prop),Inv X pins σ H s->t σ H Q->wpAny (model X.prog X.w) X.A (isTrue e X.env whole) (TP X pins σ Q) X.xe s
theorem PW.pt{X:Cx}{t:TT}(h:PW X e t):PT X e t:=h _
def PA(X:Cx)(es:qap)(t:TA):Prop :=
 ∀(pos:Pos)(pins:qaa)(s:Shared)(σ:St)(H:Hp)(Q:List V->Hp->Prop),Inv X pins σ H s->t σ H Q->wpAny (model X.prog X.w) X.A (spliced (backTo pos (starEach es X.env))) (AP X pins σ Q) X.xe s
def PS(X:Cx)(st:Stmt)(t:TS):Prop :=
 ∀(pins:qaa)(s:Shared)(σ:St)(H:Hp)(D:Ends),Inv X pins σ H s->t D σ H->wpAny (model X.prog X.w) X.A (exec st X.env) (SP X pins D) X.xe s
def gw(X:Cx)(st:qaq)(t:TS):Prop :=
 ∀(pins:qaa)(s:Shared)(σ:St)(H:Hp)(D:Ends),Inv X pins σ H s->t D σ H->wpAny (model X.prog X.w) X.A (execs st X.env) (SP X pins D) X.xe s
theorem bY{t:Sem α}{Q Q':α->Shared->Prop}{M:Model}{E:qad}{s:Shared}(h:wpAny M A t Q E s)(hQ:∀a s,Q a s->Q' a s):wpAny M A t Q' E s:=wpAny_mono h hQ λ_ _ x=>x
section
variable{X:Cx}
theorem bin{a:Expr}{ta tb:TE}(ha:PE X a ta)(hb:PE X b tb){pins:qaa}{s:Shared}{σ:St}{H:Hp}{R:V->V->Hp->Prop}(I:Inv X pins σ H s)(h:ta σ H λx H1=>tb σ H1 λy H2=>R x y H2){Q:α->Shared->Prop}{f:Value->Value->Sem α}(hf:∀v u s2 x y H2,Inv X pins σ H2 s2->RelV x v->RelV y u->R x y H2->wpAny (model X.prog X.w) X.A (f v u) Q X.xe s2) :
  wpAny (model X.prog X.w) X.A (eval a X.env) (λv s₁=>wpAny (model X.prog X.w) X.A (eval b X.env) (λu s₂=>wpAny (model X.prog X.w) X.A (f v u) Q X.xe s₂) X.xe s₁) X.xe s:=by
 refine bY (ha pins s σ H _ I h) λv s1 ⟨x,H1,I1,r1,q1⟩=>?_;refine bY (hb pins s1 σ H1 _ I1 q1) λu s2 ⟨y,H2,I2,r2,q2⟩=>?_;exact hf v u s2 x y H2 I2 r1 r2 q2
def Hw(i:Nat):TE:=λσ H Q=>∃v,σ[i]?=some (some v)/\Q v H
def tC(v:V):TE:=λ_ H Q=>Q v H
theorem bN{pos:Pos}(hN:X.N[i]?=some x)(hv:jA X.env.scope x)(hd:gp x:=by decide)(fH:se x:=by decide):PE X (.Name x pos) (Hw i):=by
 intro pins s σ H Q I h;obtain⟨v,e,h⟩:=h;obtain⟨m,hn,hl⟩:=I.loc;obtain⟨u,r,l⟩:=hl i x v hN e hv;have fin:EP X pins σ Q u s:=⟨v,H,I,r,h⟩;obtain⟨hk,hm⟩|⟨hk,c,hc,K8⟩:=l
 exact wpAny_Name (wpAny_loadName_local I.ok.kind hk hn hm fin) hd;obtain hk|hk:=hk
 exact wpAny_Name (wpAny_loadName_cell I.ok.kind hk hc K8 fin) hd;exact wpAny_Name (wpAny_loadName_free I.ok.kind hk hc K8 fin fH) hd
theorem xO{i j pos}:PE X (.Constant (.int i) j pos) (tC (.int i)):=λ_ _ _ H _ I h=>wpAny_Constant_int ⟨.int i,H,I.tok _,⟨_,rfl⟩,h⟩
theorem Q5{b j pos}:PE X (.Constant (.bool b) j pos) (tC (.bl b)):=λ_ _ _ H _ I h=>Constant_bool ⟨.bl b,H,I,rfl,h⟩
theorem xP{j pos}:PE X (.Constant .none j pos) (tC .aQ):=λ_ _ _ H _ I h=>Constant_none ⟨.aQ,H,I,rfl,h⟩
theorem My{x j pos}:PE X (.Constant (.str x) j pos) (tC (.str x)):=λ_ _ _ H _ I h=>Calls.Constant_str ⟨.str x,H,I.tok _,⟨_,rfl⟩,h⟩
def Gl(X:Cx)(x:Str):Prop:=X.env.kindOf x=some .globalImplicit
theorem so{E:qad}{pins:qaa}{s:Shared}{σ:St}{H:Hp}{pos:Pos}{Q:qad}(I:Inv X pins σ H s)(hg:Gl X x)(hm:X.mg x=some u)(h:Q u s)(hd:gp x:=by decide):wpAny (model X.prog X.w) X.A (eval (.Name x pos) X.env) Q E s :=
 Calls.Name_function_global I.ok.kind hg (Calls.loadGlobal_global (by rw[I.ok.glob];exact I.mod.glob.keeps I.bk) hm h) hd
theorem ix{E:qad}{pins:qaa}{s:Shared}{σ:St}{H:Hp}{pos:Pos}{Q:qad}(I:Inv X pins σ H s)(hg:Gl X x)(hm:X.mg x=none)(hv:bootBuiltins x=some u)(h:Q u s)(hn:x≠"__name__":=by decide)(hd:gp x:=by decide):wpAny (model X.prog X.w) X.A (eval (.Name x pos) X.env) Q E s:=by obtain⟨mb,h1,h2⟩:=I.mod.blt;exact Calls.Name_function_global I.ok.kind hg (Calls.loadGlobal_builtin (by rw[I.ok.glob];exact I.mod.glob.keeps I.bk) hm (by rw[I.ok.blt];exact h1.keeps I.bk) ((h2 x hn).trans hv) h) hd
theorem sr{v:V}{pos:Pos}(hg:Gl X x)(hm:X.mg x=some u)(r:RelV v u)(hd:gp x:=by decide):PE X (.Name x pos) (tC v) :=
 λ_ _ _ H _ I h=>so I hg hm ⟨v,H,I,r,h⟩ hd
theorem Hx{v:V}{pos:Pos}(hg:Gl X x)(hm:X.mg x=none)(hv:bootBuiltins x=some u)(r:RelV v u)(hn:x≠"__name__":=by decide)(hd:gp x:=by decide):PE X (.Name x pos) (tC v) :=
 λ_ _ _ H _ I h=>ix I hg hm hv ⟨v,H,I,r,h⟩ hn hd
variable{a:Expr}{ta tb:TE}{pos:Pos}
def PC(X:Cx)(op:CmpOp)(a b:Expr)(t:TE):Prop :=
 ∀(pins:qaa)(s:Shared)(σ:St)(H:Hp)(Q:VK),Inv X pins σ H s->t σ H Q ->
  wpAny (model X.prog X.w) X.A (eval a X.env) (λv s₁=>wpAny (model X.prog X.w) X.A (eval b X.env) (λu s₂=>wpAny (model X.prog X.w) X.A (compareOp op v u) (EP X pins σ Q) X.xe s₂) X.xe s₁) X.xe s
theorem Dg(b:Expr){op:CmpOp}(h:op≠.In)(h2:op≠.NotIn):behindInMarks op b=false:=by
 have e1:(op==CmpOp.In)=false:=by cases op<;>first|rfl|exact absurd rfl h
 have e2:(op==CmpOp.NotIn)=false:=by cases op<;>first|rfl|exact absurd rfl h2
 cases b<;>simp[behindInMarks,e1,e2]
def tB(t:TE):TT:=λσ H Q=>t σ H λx H1=>∃c,x=.bl c/\Q c H1
theorem Wi{op:CmpOp}{t:TE}(h:PC X op a b t)(h1:behindInMarks op b=false:=by first|exact Dg _ (by decide) (by decide)|rfl):PT X (.Compare a [op] [b] pos) (tB t):=by intro pins s σ H Q I hw;refine wpAny_isTrue_Compare1 (bY (h pins s σ H _ I hw) λv s1 h1=>bY h1 λu s2 h2=>bY h2 λc s3 ⟨x,H1,I1,r1,q1⟩=>?_) h1;obtain⟨d,rfl,q⟩:=q1;cases r1;exact wpAny_truthy_bool ⟨H1,I1,q⟩
theorem MA{t:TE}(h:PE X e t)(he:∀whole,isTrue e X.env whole=(do let v <- whole;standAt e.pos;holding [v] (truthy v)):=by intro _;rfl):PT X e (tB t):=by intro pins s σ H Q I hw;refine isTrue_plain (bY (h pins s σ H _ I hw) λv s1 ⟨x,H1,I1,r1,q1⟩=>?_) (he _);obtain⟨d,rfl,q⟩:=q1;cases r1;exact wpAny_truthy_bool ⟨H1,I1,q⟩
variable{tA Q6:TT}{rest:qap}
def Wj(t u:TT):TT:=λσ H Q=>t σ H λc H1=>if c=true then u σ H1 Q else Q false H1
def tOr(t u:TT):TT:=λσ H Q=>t σ H λc H1=>if c=true then Q true H1 else u σ H1 Q
def Wm(t:TT):TT:=λσ H Q=>t σ H λc H1=>Q (!c) H1
theorem pw_and1(ha:PT X a tA):PW X (.BoolOp .And [a] pos) tA:=by
 intro wh pins s σ H Q I h;refine isTrue_and (bY (ha pins s σ H Q I h) λc s1 e=>?_);cases c with
 |true=>exact isTrue_and_nil e
 |false=>exact e
theorem pw_or1(ha:PT X a tA):PW X (.BoolOp .Or [a] pos) tA:=by
 intro wh pins s σ H Q I h;refine isTrue_or (bY (ha pins s σ H Q I h) λc s1 e=>?_);cases c with
 |false=>exact isTrue_or_nil e
 |true=>exact e
theorem pw_and(ha:PT X a tA)(hb:PW X (.BoolOp .And (b::rest) pos) Q6):PW X (.BoolOp .And (a::b::rest) pos) (Wj tA Q6):=by
 intro wh pins s σ H Q I h;refine isTrue_and (bY (ha pins s σ H _ I h) λc s1 ⟨H1,I1,q1⟩=>?_);cases c with
 |true=>exact hb wh pins s1 σ H1 Q I1 q1
 |false=>exact⟨H1,I1,q1⟩
theorem pw_or(ha:PT X a tA)(hb:PW X (.BoolOp .Or (b::rest) pos) Q6):PW X (.BoolOp .Or (a::b::rest) pos) (tOr tA Q6):=by
 intro wh pins s σ H Q I h;refine isTrue_or (bY (ha pins s σ H _ I h) λc s1 ⟨H1,I1,q1⟩=>?_);cases c with
 |true=>exact⟨H1,I1,q1⟩
 |false=>exact hb wh pins s1 σ H1 Q I1 q1
theorem MB(ha:PT X a tA):PT X (.UnaryOp .Not a pos) (Wm tA):=by intro pins s σ H Q I h;exact isTrue_not (ha pins s σ H (λc H1=>Q (!c) H1) I h)
def Q7(ta tb:TE):TE:=λσ H Q=>ta σ H λx H1=>∃c,x=.bl c/\if c=true then tb σ H1 Q else Q (.bl false) H1
def Q8(ta:TE):TE:=λσ H Q=>ta σ H λx H1=>∃c,x=.bl c/\Q (.bl (!c)) H1
theorem MC{op}{t:TE}(h:PE X a t):PE X (.BoolOp op [a] pos) t:=λpins s σ H Q I hw=>BoolOp_one (h pins s σ H Q I hw)
theorem MD(ha:PE X a ta)(hb:PE X (.BoolOp .And (b::rest) pos) tb):PE X (.BoolOp .And (a::b::rest) pos) (Q7 ta tb):=by
 intro pins s σ H Q I h;refine BoolOp_and (bY (ha pins s σ H _ I h) λv s1 ⟨x,H1,I1,r1,q1⟩=>?_);obtain⟨c,rfl,q1⟩:=q1;cases r1;refine wpAny_truthy_bool ?_;cases c with
 |true=>exact hb pins s1 σ H1 Q I1 q1
 |false=>exact⟨.bl false,H1,I1,rfl,q1⟩
theorem ME(ha:PE X a ta):PE X (.UnaryOp .Not a pos) (Q8 ta):=by intro pins s σ H Q I h;refine UnaryOp_ (bY (ha pins s σ H _ I h) λv s1 ⟨x,H1,I1,r1,q1⟩=>?_);obtain⟨c,rfl,q1⟩:=q1;cases r1;exact not_of (wpAny_truthy_bool ⟨.bl (!c),H1,I1,rfl,q1⟩)
def tIf(t:TT)(ta tb:TE):TE:=λσ H Q=>t σ H λc H1=>if c=true then ta σ H1 Q else tb σ H1 Q
theorem Dh(hc:PT X c tA)(ha:PE X a ta)(hb:PE X b tb):PE X (.IfExp c a b pos) (tIf tA ta tb):=by
 intro pins s σ H Q I h;refine wpAny_IfExp (bY (hc pins s σ H _ I h) λd s1 ⟨H1,I1,q1⟩=>?_);cases d with
 |true=>exact ha pins s1 σ H1 Q I1 q1
 |false=>exact hb pins s1 σ H1 Q I1 q1
end
def eU(K:qaf)(H:Hp)(a:Addr)(xs:List V):Prop :=
 Rd H a (.lst xs) \/
  ∃(o:Obj)(aM:Array Value)(n:Nat),K.lookup a=some o/\o.cls=.type "list"/\o.dict=none/\o.data=.seq aM n/\aM.size<=sizeLine/\Vals xs aM.toList
def dD(K:qaf)(H:Hp)(a:Addr)(xs:List V):Prop :=
 Rd H a (.tup xs) \/
  ∃(o:Obj)(aM:Array Value)(n:Nat),K.lookup a=some o/\o.cls=.type "tuple"/\o.data=.seq aM n/\aM.size<=sizeLine/\Vals xs aM.toList
noncomputable def Wn:Value->Option V
 |.none=>some .aQ
 |.bool b=>some (.bl b)
 |.int i _=>some (.int i)
 |.str x _=>some (.str x)
 |.bytes b _=>some (.V7 b)
 |.float b _=>some (.V8 b)
 |.ref a=>some (.ref a)
 |.type n=>some (.ty n)
 |_=>none
theorem RelV.abs{x:V}(r:RelV x u):Wn u=some x:=by
 cases x with
 |aQ=>cases r;rfl
 |bl _=>cases r;rfl
 |ref _=>cases r;rfl
 |ty _=>cases r;rfl
 |_=>obtain⟨t,rfl⟩:=r;rfl
theorem RelV.inj{x y:V}(r:RelV x u)(q:RelV y u):x=y:=Option.some.inj (r.abs.symm.trans q.abs)
theorem Vals.inj:∀{xs ys:List V}{us:qag},Vals xs us->Vals ys us->xs=ys
 |_,_,_,.nil,.nil=>rfl
 |_,_,_,.cons r t,.cons r' t'=>by rw[r.inj r',Vals.inj t t']
section
variable{X:Cx}{pins:qaa}{σ:St}{H:Hp}{s:Shared}{xs ys:List V}
theorem eU.of{K:qaf}(h:H a=some (.lst xs)):eU K H a xs:=.inl (.inl h)
theorem dD.of{K:qaf}(h:H a=some (.tup xs)):dD K H a xs:=.inl (.inl h)
theorem Inv.list(I:Inv X pins σ H s)(h:eU X.K H a xs):∃aM:qag,Vals xs aM/\PlainL s.heap a aM.toArray/\xs.length<=sizeLine:=by
 obtain h|⟨o,aM,n,hk,hc,hd,hs,hz,r⟩:=h
 obtain⟨z,aM,n,r,e⟩:=h.ok I.b_;exact⟨aM,r,⟨_,n,e,rfl,rfl,rfl⟩,z⟩;refine⟨aM.toList,r,⟨o,n,I.qV a o hk,hc,hd,by simpa using hs⟩,?_⟩;have e:=r.length;simp only[Hn] at e;omega
theorem Inv.tuple(I:Inv X pins σ H s)(h:dD X.K H a xs):∃aM:qag,Vals xs aM/\IsTup s.heap a aM.toArray/\xs.length<=sizeLine:=by
 obtain h|⟨o,aM,n,hk,hc,hs,hz,r⟩:=h
 obtain⟨z,aM,r,p⟩:=h.ok I.b_;exact⟨aM,r,p,z⟩;refine⟨aM.toList,r,⟨o,I.qV a o hk,hc,n,by simpa using hs⟩,?_⟩;have e:=r.length;simp only[Hn] at e;omega
theorem Inv.kc(I:Inv X pins σ H s)(h:eU X.K H a xs)(h':eU X.K H a ys):xs=ys:=by
 obtain⟨aM,r,⟨o,n,e,_,_,d⟩,_⟩:=I.list h;obtain⟨its',r',⟨o',n',e',_,_,d'⟩,_⟩:=I.list h';rw[e] at e';cases e';rw[d] at d';injection d' with d1 _
 have:aM=its':=by simpa using congrArg Array.toList d1
 subst this;exact r.inj r'
theorem Inv.i8(I:Inv X pins σ H s)(h:dD X.K H a xs)(h':dD X.K H a ys):xs=ys:=by
 obtain⟨aM,r,⟨o,e,_,n,d⟩,_⟩:=I.tuple h;obtain⟨its',r',⟨o',e',_,n',d'⟩,_⟩:=I.tuple h';rw[e] at e';cases e';rw[d] at d';injection d' with d1 _
 have:aM=its':=by simpa using congrArg Array.toList d1
 subst this;exact r.inj r'
end
noncomputable abbrev Cx.qi(X:Cx)(E:qad):Cx:={X with xe:=E}
noncomputable abbrev Cx.nX(X:Cx):Cx:=X.qi λ_ _=>False
theorem Cx.Ok.qi{X:Cx}(ok:X.Ok)(E:qad):(X.qi E).Ok :=
 ⟨ok.mod,ok.kind,ok.glob,ok.blt,ok.above,ok.inj,ok.has,ok.Mx,ok.hd,ok.frames,ok.Qn,ok.U0,ok.bs,ok.CU,ok.xM,ok.A8,ok.j',ok.Hu⟩
theorem Cx.Ok.k_{X:Cx}{E:qad}(ok:(X.qi E).Ok):X.Ok :=
 ⟨ok.mod,ok.kind,ok.glob,ok.blt,ok.above,ok.inj,ok.has,ok.Mx,ok.hd,ok.frames,ok.Qn,ok.U0,ok.bs,ok.CU,ok.xM,ok.A8,ok.j',ok.Hu⟩
section
variable{X:Cx}{pins:qaa}{σ:St}{H:Hp}{s:Shared}{E:qad}
theorem Inv.qi(I:Inv X pins σ H s)(E:qad):Inv (X.qi E) pins σ H s:=⟨I.ok.qi E,I.os,I.bare,I.base,I.loc,I.cell,I.free,I.gu,I.pin,I.b_,I.len⟩
theorem Inv.k_(I:Inv (X.qi E) pins σ H s):Inv X pins σ H s:=⟨I.ok.k_,I.os,I.bare,I.base,I.loc,I.cell,I.free,I.gu,I.pin,I.b_,I.len⟩
theorem SP.k_{D:Ends}{f:Flow}(h:SP (X.qi E) pins D f s'):SP X pins D f s':=by
 cases f with
 |ret u=>obtain⟨v,σ',H',I,r,q⟩:=h;exact⟨v,σ',H',I.k_,r,q⟩
 |_=>obtain⟨σ',H',I,q⟩:=h;exact⟨σ',H',I.k_,q⟩
theorem gw.nX{st:qaq}{t:TS}(h:gw X.nX st t):gw X st t:=λpins s σ H D I hw=>
 wpAny_mono (h pins s σ H D (I.qi _) hw) (λ_ _ q=>q.k_) λ_ _ z=>False.elim z
end
section
variable{X:Cx}{st:Stmt}{rest:qaq}{t u:TS}{te:TE}{pos:Pos}
def Q9:TS:=λD σ H=>D.nx σ H
def Wo(t u:TS):TS:=λD σ H=>t {D with nx:=u D} σ H
theorem su:gw X [] Q9:=λ_ _ σ H _ I h=>wpAny_execs_nil ⟨σ,H,I,h⟩
theorem bT(h1:PS X st t)(h2:gw X rest u):gw X (st::rest) (Wo t u):=by
 intro pins s σ H D I h;refine wpAny_execs_cons (bY (h1 pins s σ H {D with nx:=u D} I h) λf s1 q=>?_);cases f with
 |next=>obtain⟨σ',H',I',q⟩:=q;exact h2 pins s1 σ' H' D I' q
 |ret v=>exact q
 |_=>exact q
theorem i9(h1:PS X st t):gw X [st] t:=by
 intro pins s σ H D I h;refine wpAny_execs_cons (bY (h1 pins s σ H D I h) λf s1 q=>?_);cases f with
 |next=>exact wpAny_execs_nil q
 |ret v=>exact q
 |_=>exact q
theorem Inv.quiet{pins:qaa}{σ:St}{H:Hp}{s:Shared}(I:Inv X pins σ H s):interactive X.env=false:=by simp[interactive,I.ok.kind]
def Q_(te:TE):TS:=λD σ H=>te σ H λ_ H1=>D.nx σ H1
theorem i_(he:PE X e te)(hs:swapsWith e none pos.line X.env=pure false:=by rfl):PS X (.Expr e pos) (Q_ te):=by intro pins s σ H D I h;exact wpAny_Expr_any (bY (he pins s σ H _ I h) λv s1 ⟨x,H1,I1,r1,q1⟩=>⟨σ,H1,I1,q1⟩) I.quiet hs
def Wq(te:TE):TS:=λD σ H=>te σ H D.rt
theorem sy(he:PE X e te):PS X (.Return (some e) pos) (Wq te):=by intro pins s σ H D I h;exact wpAny_Return_some (bY (he pins s σ H _ I h) λv s1 ⟨x,H1,I1,r1,q1⟩=>⟨x,σ,H1,I1,r1,q1⟩)
def Wr(c:TT)(t u:TS):TS:=λD σ H=>c σ H λb H1=>if b=true then t D σ H1 else u D σ H1
theorem Di{a b:qaq}{tc:TT}(hc:PT X c tc)(ha:gw X a t)(hb:gw X b u):PS X (.If c a b pos) (Wr tc t u):=by
 intro pins s σ H D I h;refine wpAny_If (bY (hc pins s σ H _ I h) λd s1 ⟨H1,I1,q1⟩=>?_);cases d with
 |true=>exact ha pins s1 σ H1 D I1 q1
 |false=>exact hb pins s1 σ H1 D I1 q1
end
abbrev TG:=V->St->Hp->(St->Hp->Prop)->Prop
abbrev Hy:=List V->St->Hp->(St->Hp->Prop)->Prop
def PG(X:Cx)(target:Expr)(t:TG):Prop :=
 ∀(pins:qaa)(s:Shared)(σ:St)(H:Hp)(v:V)(u:Value)(Q:St->Hp->Prop),Inv X pins σ H s->RelV v u->t v σ H Q ->
  wpAny (model X.prog X.w) X.A (assign target X.env u) (λ_ s'=>∃σ' H',Inv X pins σ' H' s'/\Q σ' H') X.xe s
def Dj(X:Cx)(ts:qap)(t:Hy):Prop :=
 ∀(pins:qaa)(s:Shared)(σ:St)(H:Hp)(vs:List V)(us:qag)(Q:St->Hp->Prop),Inv X pins σ H s->Vals vs us->t vs σ H Q ->
  wpAny (model X.prog X.w) X.A (assignInOrder ((assignEach ts X.env).map (·.2)) us) (λ_ s'=>∃σ' H',Inv X pins σ' H' s'/\Q σ' H') X.xe s
abbrev MH:=V->V->V->Hp->(Hp->Prop)->Prop
def Ra(X:Cx)(t:MH):Prop :=
 ∀(pins:qaa)(s:Shared)(σ:St)(H:Hp)(o i v:V)(ov iv u:Value)(Q:Hp->Prop),Inv X pins σ H s->RelV o ov->RelV i iv->RelV v u->t o i v H Q ->
  wpAny (model X.prog X.w) X.A (setItem ov iv u) (λ_ s'=>∃H',Inv X pins σ H' s'/\Q H') X.xe s
section
variable{X:Cx}{pos:Pos}
def jo(i:Nat):TG:=λv σ H Q=>Q (σ.set i (some v)) H
theorem Hz(hN:X.N.Nodup)(hi:X.N[i]?=some x)(hx:Loc X.env.scope x)(hf:X.fn x=true\/X.env.scope.names.lookup x=some .local:=by first|exact .inl rfl|exact .inr rfl|assumption):PG X (.Name x pos) (jo i):=by intro pins s σ H v u Q I r h;exact wpAny_assign_Name (uQ I hN hi hx r (λs' I'=>⟨_,H,I',h⟩) hf)
def Ws:Hy:=λvs σ H Q=>vs=[]/\Q σ H
def Rb(t:TG)(u:Hy):Hy:=λvs σ H Q=>∃v r,vs=v::r/\t v σ H λσ' H'=>u r σ' H' Q
theorem HA:Dj X [] Ws:=by intro pins s σ H vs us Q I r h;obtain⟨e,h⟩:=h;subst e;cases r;exact assignInOrder_nil ⟨σ,H,I,h⟩
theorem Dl{es:qap}{t:TG}{u:Hy}(h1:PG X e t)(h2:Dj X es u)(hs:(assignEach (e::es) X.env).map (·.2)=assign e X.env::(assignEach es X.env).map (·.2):=by rfl):Dj X (e::es) (Rb t u):=by
 intro pins s σ H vs us Q I r h;obtain⟨v,vr,e1,h⟩:=h;subst e1;cases r with
 |cons r rr=>rw[hs];refine assignInOrder_cons (bY (h1 pins s σ H _ _ _ I r h) λ_ s1 ⟨σ1,H1,I1,q1⟩=>?_);exact h2 pins s1 σ1 H1 _ _ Q I1 rr q1
def Wt(K:qaf)(n:Nat)(t:Hy):TG:=λv σ H Q=>∃a xs,v=.ref a/\dD K H a xs/\xs.length=n/\t xs σ H Q
theorem MJ{es:qap}{k:Nat}{t:Hy}(hc:X.calm=true)(h:Dj X es t)(hn:(assignEach es X.env).length=n:=by rfl)(MK:(assignEach es X.env).findIdx? (·.1)=none:=by rfl):PG X (.Tuple es k pos) (Wt X.K n t):=by intro pins s σ H v u Q I r hw;obtain⟨a,xs,e1,hq,hl,hw⟩:=hw;subst e1;cases r;obtain⟨aM,rv,ht,hz⟩:=I.tuple hq;refine assign_Tuple_tuple (I.ok.hd hc) ht (by simp[hn,<- hl,rv.length]) MK λh' hx=>?_;have I1:Inv X pins σ H {s with heap:=h'}:=I.kept (t':=s.toks) λb o e=>hx b o (j4 (fF e)) e;exact h pins _ σ H xs _ Q I1 (by simpa using rv) hw
def Wu(to ti:TE)(t:MH):TG:=λv σ H Q=>to σ H λo H1=>ti σ H1 λi H2=>t o i v H2 λH3=>Q σ H3
theorem MM{i:Expr}{to ti:TE}{t:MH}(ho:PE X o to)(hi:PE X i ti)(hs:Ra X t)(ha:∀v,assign (.Subscript o i pos) X.env v=(do
    let ov <- holding [v] (eval o X.env)
    let iv <- holding [v,ov] (eval i X.env)
    standAt pos
    holding [v,ov,iv] (setItem ov iv v)
    release [v,ov,iv] []):=by intro _;rfl):PG X (.Subscript o i pos) (Wu to ti t):=by
 intro pins s σ H v u Q I r h;rw[ha];refine wpAny_bind (wpAny_holding (bY (ho pins s σ H _ I h) λov s1 ⟨x,H1,I1,r1,q1⟩=>?_));refine wpAny_bind (wpAny_holding (bY (hi pins s1 σ H1 _ I1 q1) λiv s2 ⟨y,H2,I2,r2,q2⟩=>?_));refine wpAny_bind (wpAny_standAt (wpAny_bind (wpAny_holding (bY (hs pins s2 σ H2 x y v ov iv u _ I2 r1 r2 r q2) λ_ s3 ⟨H3,I3,q3⟩=>?_))));exact wpAny_release ⟨σ,H3,I3,q3⟩
def HB(te:TE)(g:TG):TS:=λD σ H=>te σ H λx H1=>g x σ H1 D.nx
theorem xQ{tg:Expr}{te:TE}{g:TG}(he:PE X e te)(hg:PG X tg g)(hs:swapsWithSole [tg] e pos.line X.env=pure false:=by rfl)(hw:swappedStores [tg] e X.env=pure none:=by rfl)(h1:(assignEach [tg] X.env).map (·.2)=[assign tg X.env]:=by rfl):PS X (.Assign [tg] e pos) (HB te g):=by intro pins s σ H D I h;refine wpAny_Assign_stores (bY (he pins s σ H _ I h) λv s1 ⟨x,H1,I1,r1,q1⟩=>?_) hs hw;rw[h1];exact bY (hg pins s1 σ H1 x v _ I1 r1 q1) λ_ s2 q=>q
theorem nY{te:TE}{pos':Pos}(hN:X.N.Nodup)(hi:X.N[i]?=some x)(hx:Loc X.env.scope x)(he:PE X e te)(hs:swapsWith e (some (.Name x pos')) pos.line X.env=pure false:=by rfl)(hf:X.fn x=true\/X.env.scope.names.lookup x=some .local:=by first|exact .inl rfl|exact .inr rfl|assumption) :
  PS X (.Assign [.Name x pos'] e pos) (HB te (jo i)):=by
 intro pins s σ H D I h;refine wpAny_Assign_Name (bY (he pins s σ H _ I h) λv s1 ⟨y,H1,I1,r1,q1⟩=>?_) hs;exact uQ I1 hN hi hx r1 (λs2 I2=>⟨_,H1,I2,q1⟩) hf
end
section
variable{X:Cx}{pos:Pos}
def MN(c:TT)(tb:TS):TS:=λD σ H=>∃W:Nat->St->Hp->Prop,(∃m,W m σ H)/\∀m σ H,W m σ H ->
 c σ H λb H1=>if b=true then ∃N:St->Hp->Prop,(∀σ' H',N σ' H'->∃m',m'<m/\W m' σ' H')/\tb {D with nx:=N,ct:=N,bk:=D.nx} σ H1 else D.nx σ H1
theorem Dm{body:qaq}{tc:TT}{tb:TS}(hp:PassesOwn (model X.prog X.w) X.A X.env X.xe)(hc:PT X c tc)(hb:gw X body tb):PS X (.While c body [] pos) (MN tc tb):=by
 intro pins s σ H D I h;obtain⟨W,⟨m0,w0⟩,turn⟩:=h;refine wpAny_While (codeAny_whileLoop (λn s'=>∃σ' H',Inv X pins σ' H' s'/\W n σ' H') ?_ m0 ⟨σ,H,I,w0⟩);rintro n s1 ⟨σ1,H1,I1,w1⟩;refine wpAny_passesOwn hp (bY (hc pins s1 σ1 H1 _ I1 (turn n σ1 H1 w1)) λb s2 ⟨H2,I2,q2⟩=>?_);cases b with
 |true=>
  obtain⟨N,hN,q2⟩:=q2;rw[if_pos rfl];refine wpAny_passesOwn hp (bY (hb pins s2 σ1 H2 _ I2 q2) λf s3 q3=>?_);cases f with
  |next=>obtain⟨σ3,H3,I3,n3⟩:=q3;obtain⟨m',hm,w3⟩:=hN σ3 H3 n3;exact⟨m',hm,σ3,H3,I3,w3⟩
  |cont=>obtain⟨σ3,H3,I3,n3⟩:=q3;obtain⟨m',hm,w3⟩:=hN σ3 H3 n3;exact⟨m',hm,σ3,H3,I3,w3⟩
  |brk=>exact q3
  |ret v=>exact q3
 |false=>rw[if_neg eh];exact wpAny_execs_nil ⟨σ1,H2,I2,q2⟩
end
structure It where
 go:Nat->Hp->Prop
 Rc:Nat->Hp->V->Hp->Prop
 stop:Nat->Hp->Prop
def lg(X:Cx)(pins:qaa)(H:Hp)(b:Addr):Prop :=
 H b=none/\b≠X.env.locals/\b∉X.fs/\(b∈X.ex\/X.s₀.heap.objs.size<=b)/\(∀x c,X.env.cells.lookup x=some c->c≠b)/\∀p∈X.pn++pins,p.1≠b
theorem Inv.m9{X:Cx}{pins:qaa}{σ:St}{H H':Hp}{s:Shared}{b:Addr}(I:Inv X pins σ H s)(hb:s.heap.objs.size<=b)(hn:H' b=none):lg X pins H' b:=by refine⟨hn,CS (qT I.lt hb),I.Wc hb,.inr (m7 I.sz hb),λx c e z=>?_,λp hp z=>?_⟩;obtain⟨v,q⟩:=I.cell x c e;exact absurd (qT q.lt (by rw[z];exact hb)) (CP _);exact absurd (qT (fF (I.pin p hp).1) (by rw[z];exact hb)) (CP _)
structure Turn(P:Program)(w:World)(K:qaf)(tg:Expr)(J:It)(fp:qah)(it:Addr)(tn:Nat->Heap->Prop):Prop where
 mem:it∈fp
 obj:∀i h,tn i h->∀b∈fp,∃o,h.get? b=some o/\∀v,o.data≠.cell v
 keep:∀i h h',tn i h->(∀b∈fp,∀o,h.get? b=some o->h'.get? b=some o)->tn i h'
 item:∀(X:Cx),X.prog=P->X.w=w->X.K=K->X.calm=true->∀(i:Nat)(pins:qaa)(s:Shared)(σ:St)(H:Hp)(E:qad),Inv X pins σ H s->(∀b∈fp,lg X pins H b)->tn i s.heap->J.go i H ->
  wpAny (model P w) X.A (pyNext (.ref it)) (λr s1=>∃u,r=some u /\
   wpAny (model P w) X.A (letOwnedTupleGo tg (.ref it) u) (λ_ s2=>∃x H',Inv X pins σ H' s2/\RelV x u/\J.Rc i H x H'/\tn (i+1) s2.heap/\∀b∈fp,H' b=none) E s1) E s
 done:∀(X:Cx),X.prog=P->X.w=w->X.K=K->X.calm=true->∀(i:Nat)(pins:qaa)(s:Shared)(σ:St)(H:Hp)(E:qad),Inv X pins σ H s->(∀b∈fp,lg X pins H b)->tn i s.heap->J.stop i H ->
  wpAny (model P w) X.A (pyNext (.ref it)) (λr s1=>r=none/\Inv X pins σ H s1) E s
 self:∀(A:Around)(i:Nat)(s:Shared)(Q:qad)(E:qad),tn i s.heap->Q (.ref it) s->wpAny (model P w) A (pyIter (.ref it)) Q E s
abbrev TI:=St->Hp->(It->Hp->Prop)->Prop
def YV(X:Cx)(pins:qaa)(σ:St)(tg:Expr)(R:It->Hp->Prop)(U2:Value)(s2:Shared):Prop :=
 ∃(it:Addr)(fp:qah)(tn:Nat->Heap->Prop)(J:It)(H':Hp),U2=.ref it/\Inv X pins σ H' s2/\Turn X.prog X.w X.K tg J fp it tn/\tn 0 s2.heap/\(∀b∈fp,lg X pins H' b)/\R J H'
def PI(X:Cx)(tg iter:Expr)(wi:TI):Prop :=
 ∀(pins:qaa)(s:Shared)(σ:St)(H:Hp)(R:It->Hp->Prop),Inv X pins σ H s->wi σ H R ->
  wpAny (model X.prog X.w) X.A (eval iter X.env) (λv s1=>wpAny (model X.prog X.w) X.A (pyIter v) (YV X pins σ tg R) X.xe s1) X.xe s
theorem zF{M:Model}{E:qad}{s:Shared}{tg:Expr}{o:Obj}{n:String}{vs:Array Value}{Q:Unit->Shared->Prop}(ho:s.heap.get? it=some o)(hc:o.cls=.type n)(hd:o.data=.fields vs)(hn:["enumerate","zip","dict_itemiterator","dict_reverseitemiterator","odict_iterator","itertools.zip_longest","itertools.pairwise"].contains n=false)(hQ:Q () s):wpAny M A (letOwnedTupleGo tg (.ref it) u) Q E s:=by
 unfold letOwnedTupleGo;cases tg<;>first
  |exact wpAny_pure hQ
  | (cases u<;>first
      |exact wpAny_pure hQ
      | (refine wpAny_bind (wpAny_load ho ?_)
         rw[hc,hd];show wpAny M A (if (["enumerate","zip","dict_itemiterator","dict_reverseitemiterator","odict_iterator","itertools.zip_longest","itertools.pairwise"].contains n && vs[0]?==some (rawInt _))=true then _ else _) Q E s;rw[if_neg (by intro h;rw[hn,QX] at h;cases h)];exact wpAny_pure hQ))
def Wv(K:qaf)(a:Addr):It :=
 ⟨λi H=>∃xs x,eU K H a xs/\xs[i]?=some x,λi H x H'=>H'=H/\∀xs,eU K H a xs->xs[i]?=some x,λi H=>∃xs,eU K H a xs/\xs.length<=i⟩
def Ww(K:qaf)(a:Addr):It :=
 ⟨λi H=>∃xs x,dD K H a xs/\xs[i]?=some x,λi H x H'=>H'=H/\∀xs,dD K H a xs->xs[i]?=some x,λi H=>∃xs,dD K H a xs/\xs.length<=i⟩
def Rf(lo:Int)(n:Nat):It:=⟨λi _=>i<n,λi H x H'=>H'=H/\x=.int (lo+i),λi _=>n<=i⟩
theorem A9{K:qaf}{tg:Expr}(a it:Addr):Turn P w K tg (Wv K a) [it] it (λi h=>h.IsListIter it a i) where
 mem:=by simp
 obj:=λi h st b hb=>by
  have e:b=it:=by simpa using hb
  subst e;obtain⟨o,e,c,d⟩:=st;exact⟨o,e,λv z=>by rw[d] at z;cases z⟩
 keep:=λi h h' st k=>st.at λo e=>k it (by simp) o e
 item:=by intro X hP hw hK hc i pins s σ H E I hf st hg;subst hP hw hK;obtain⟨xs,x,hq,hx⟩:=hg;obtain⟨aM,rv,p,hz⟩:=I.list hq;obtain⟨u,hu,ru⟩:=rv.get hx;obtain⟨f0,f1,f2,f3,f4,f5⟩:=hf it (by simp);refine wpAny_pyNext_list_item st p.isList (x:=u) (by simpa using hu) λh' xR sb=>?_;have I1:Inv X pins σ H {s with heap:=h'}:=I.turned (t':=s.toks) (λb o hb e=>(sb.2 b hb).trans e) f0 f1 f3 f4 f5;obtain⟨o,e,c,d⟩:=id xR;exact⟨u,rfl,zF (s:={s with heap:=h'}) e c d (by decide) ⟨x,H,I1,ru,⟨rfl,λys hy=>by rw[I.kc hy hq];exact hx⟩,xR,λb hb=>(hf b hb).1⟩⟩
 done:=by intro X hP hw hK hc i pins s σ H E I hf st hg;subst hP hw hK;obtain⟨xs,hq,hx⟩:=hg;obtain⟨aM,rv,p,hz⟩:=I.list hq;obtain⟨f0,f1,f2,f3,f4,f5⟩:=hf it (by simp);have hl:=rv.length;exact wpAny_pyNext_list_end (I.ok.hd hc) st p.isList (by simp;omega) λh' eb=>⟨rfl,I.turned (t':=s.toks) (λb o hb e=>eb b o hb e) f0 f1 f3 f4 f5⟩
 self:=λ_ _ _ _ _ st h=>wpAny_pyIter_listiter st h
theorem xS{K:qaf}{tg:Expr}(a it:Addr):Turn P w K tg (Ww K a) [it] it (λi h=>h.IsTupleIter it a i) where
 mem:=by simp
 obj:=λi h st b hb=>by
  have e:b=it:=by simpa using hb
  subst e;obtain⟨o,e,c,d⟩:=st;exact⟨o,e,λv z=>by rw[d] at z;cases z⟩
 keep:=λi h h' st k=>st.at λo e=>k it (by simp) o e
 item:=by intro X hP hw hK hc i pins s σ H E I hf st hg;subst hP hw hK;obtain⟨xs,x,hq,hx⟩:=hg;obtain⟨aM,rv,p,hz⟩:=I.tuple hq;obtain⟨u,hu,ru⟩:=rv.get hx;obtain⟨f0,f1,f2,f3,f4,f5⟩:=hf it (by simp);refine wpAny_pyNext_tuple_item st (show s.heap.IsTuple a aM.toArray from p) (x:=u) (by simpa using hu) λh' xR sb=>?_;have I1:Inv X pins σ H {s with heap:=h'}:=I.turned (t':=s.toks) (λb o hb e=>(sb.2 b hb).trans e) f0 f1 f3 f4 f5;obtain⟨o,e,c,d⟩:=id xR;exact⟨u,rfl,zF (s:={s with heap:=h'}) e c d (by decide) ⟨x,H,I1,ru,⟨rfl,λys hy=>by rw[I.i8 hy hq];exact hx⟩,xR,λb hb=>(hf b hb).1⟩⟩
 done:=by intro X hP hw hK hc i pins s σ H E I hf st hg;subst hP hw hK;obtain⟨xs,hq,hx⟩:=hg;obtain⟨aM,rv,p,hz⟩:=I.tuple hq;obtain⟨f0,f1,f2,f3,f4,f5⟩:=hf it (by simp);have hl:=rv.length;exact wpAny_pyNext_tuple_end (I.ok.hd hc) st (show s.heap.IsTuple a aM.toArray from p) (by simp;omega) λh' eb=>⟨rfl,I.turned (t':=s.toks) (λb o hb e=>eb b o hb e) f0 f1 f3 f4 f5⟩
 self:=λ_ _ _ _ _ st h=>wpAny_pyIter_tupleiter st h
theorem xT{K:qaf}{tg:Expr}(it:Addr)(lo:Int)(n:Nat):Turn P w K tg (Rf lo n) [it] it (λi h=>IsRangeIter h it (lo+(i:Nat) * 1) ((n:Int)-(i:Nat)) 1) where
 mem:=by simp
 obj:=λi h st b hb=>by
  have e:b=it:=by simpa using hb
  subst e;exact⟨_,st,λv z=>by have z':Data.fields _=Data.cell v:=z;cases z'⟩
 keep:=λi h h' st k=>k it (by simp) _ st
 item:=by intro X hP hw hK hc i pins s σ H E I hf st hg;subst hP hw hK;obtain⟨f0,f1,f2,f3,f4,f5⟩:=hf it (by simp);have W:=Walks.range (prog:=X.prog) (w:=X.w) (I.ok.hd hc) it lo 1 n;refine W.item i s _ _ hg st λv h' tk hv xR kk=>?_;obtain⟨t,rfl⟩:=hv;have I1:Inv X pins σ H {s with heap:=h',toks:=tk}:=I.turned (λb o hb e=>kk b o (by simpa using hb) e) f0 f1 f3 f4 f5;refine⟨_,rfl,zF (s:={s with heap:=h',toks:=tk}) (n:="range_iterator") xR rfl rfl (by decide) ⟨.int (lo+i),H,I1,⟨t,?_⟩,⟨rfl,rfl⟩,xR,λb hb=>(hf b hb).1⟩⟩;rw[Int.mul_one]
 done:=by intro X hP hw hK hc i pins s σ H E I hf st hg;subst hP hw hK;obtain⟨f0,f1,f2,f3,f4,f5⟩:=hf it (by simp);exact wpAny_pyNext_range_end (I.ok.hd hc) st (by have:n<=i:=hg;omega) λh' eb=>⟨rfl,I.turned (t':=s.toks) (λb o hb e=>eb b o hb e) f0 f1 f3 f4 f5⟩
 self:=λ_ _ _ _ _ st h=>wpAny_pyIter_rangeiter st h
section
variable{X:Cx}{tg:Expr}
theorem uR{pins:qaa}{σ:St}{H:Hp}{s:Shared}{R:It->Hp->Prop}{E:qad}{lo hi:Int}{t u v:Tok}{tk:Nat}(I:Inv X pins σ H s)(h1 : -(2 ^ 62)<=lo)(h2:lo<2 ^ 62)(h3 : -(2 ^ 62)<=hi)(h4:hi<2 ^ 62)(q:R (Rf lo (hi-lo).toNat) H):wpAny (model X.prog X.w) X.A (pyIter (.ref s.heap.objs.size)) (YV X pins σ tg R) E {s with heap:=s.heap.push {cls:=.type "range",data:=.fields #[.int lo t,.int hi u,.int 1 v]},toks:=tk}:=by
 refine wpAny_pyIter_range (IsRange.new ..) (small_one h1 h2 h3 h4) ?_;have I1:Inv X pins σ H {s with heap:=s.heap.push {cls:=.type "range",data:=.fields #[.int lo t,.int hi u,.int 1 v]},toks:=tk}:=I.kept λb o e=>fE _ e;refine⟨(s.heap.push {cls:=.type "range",data:=.fields #[.int lo t,.int hi u,.int 1 v]}).objs.size,[(s.heap.push {cls:=.type "range",data:=.fields #[.int lo t,.int hi u,.int 1 v]}).objs.size],_,_,H,rfl,
  I1.kept (t':=tk) λb o e=>fE _ e,xT _ lo (hi-lo).toNat,?_,λb hb=>?_,q⟩
 have e1:lo+((0:Nat):Int) * 1=lo:=by simp
 have e2:(((hi-lo).toNat:Nat):Int)-((0:Nat):Int)=Builtin.Range.rangeSize lo hi 1:=by rw[rangeSize_one];split<;>omega
 show IsRangeIter _ _ (lo+((0:Nat):Int) * 1) ((((hi-lo).toNat:Nat):Int)-((0:Nat):Int)) 1;rw[e1,e2];exact k6 _ rfl;have e:b=(s.heap.push {cls:=.type "range",data:=.fields #[.int lo t,.int hi u,.int 1 v]}).objs.size:=by simpa using hb
 subst e;exact I1.m9 (cU _) (I1.b_.fresh (cU _))
def Rh(ta:TA):TI:=λσ H R=>ta σ H λvs H1=>∃j:Int,vs=[.int j]/\-(2 ^ 62)<=j/\j<2 ^ 62/\R (Rf 0 j.toNat) H1
def Ri(ta:TA):TI:=λσ H R=>ta σ H λvs H1=>∃i j:Int,vs=[.int i,.int j]/\(-(2 ^ 62)<=i/\i<2 ^ 62/\-(2 ^ 62)<=j/\j<2 ^ 62)/\R (Rf i (j-i).toNat) H1
theorem A_{a:Expr}{ta:TA}{pos:Pos}(hg:Gl X "range")(hm:X.mg "range"=none)(ha:PA X [a] ta)(hs:starEach [a] X.env=[(false,eval a X.env)]:=by rfl):PI X tg (.Call (.Name "range" p) [a] [] pos) (Rh ta):=by
 intro pins s σ H R I h;refine Call_ (ix I hg hm boot_range (Qf (bY (ha pos pins s σ H _ I h) λus s1 ⟨vs,H1,I1,r1,q1⟩=>?_) hs rfl));obtain⟨j,e,q1,q2,q⟩:=q1;subst e;cases r1 with
 |cons r rr=>cases rr;obtain⟨t,rfl⟩:=r;exact call_range_1 (uR I1 (by omega) (by omega) q1 q2 (by simpa using q))
theorem Ba{a:Expr}{ta:TA}{pos:Pos}(hg:Gl X "range")(hm:X.mg "range"=none)(ha:PA X [a,b] ta)(hs:starEach [a,b] X.env=[(false,eval a X.env),(false,eval b X.env)]:=by rfl)(qX:starEach [b] X.env=[(false,eval b X.env)]:=by rfl) :
  PI X tg (.Call (.Name "range" p) [a,b] [] pos) (Ri ta):=by
 intro pins s σ H R I h;refine Call_ (ix I hg hm boot_range (Qf (bY (ha pos pins s σ H _ I h) λus s1 ⟨vs,H1,I1,r1,q1⟩=>?_) (by rw[hs,qX]) (by rw[qX];rfl)));obtain⟨i,j,e,⟨q1,q2,q3,q4⟩,q⟩:=q1;subst e;cases r1 with
 |cons r rr=>
   cases rr with
   |cons r' rr=>cases rr;obtain⟨t,rfl⟩:=r;obtain⟨t',rfl⟩:=r';exact call_range_2 (uR I1 q1 q2 q3 q4 q)
def Wx(wi:TI)(g:TG)(tb:TS):TS:=λD σ H=>wi σ H λJ H1=>∃W:Nat->Nat->St->Hp->Prop,(∃m,W 0 m σ H1)/\∀i m σ H,W i m σ H ->
 (J.stop i H/\D.nx σ H)\/(J.go i H/\∃N:St->Hp->Prop,(∀σ' H',N σ' H'->∃m',m'<m/\W (i+1) m' σ' H')/\∀x H',J.Rc i H x H'->g x σ H' λσ2 H2=>tb {D with nx:=N,ct:=N,bk:=D.nx} σ2 H2)
def nZ(fp:qah)(h:Heap):qaa:=fp.filterMap λb=>(h.get? b).map λo=>(b,o)
theorem gR{fp:qah}{b:Addr}{o:Obj}(hb:b∈fp)(e:h.get? b=some o):(b,o)∈nZ fp h:=UX.mpr ⟨b,hb,by rw[e];rfl⟩
theorem Bb{fp:qah}{p:Addr×Obj}(hp:p∈nZ fp h):p.1∈fp/\h.get? p.1=some p.2:=by
 obtain⟨b,hb,e⟩:=UX.mp hp;cases q:h.get? b with
 |none=>rw[q] at e;cases e
 |some o=>rw[q] at e;have e':(b,o)=p:=Option.some.inj e;subst e';exact⟨hb,q⟩
theorem Inv.pinned{pins:qaa}{σ:St}{H:Hp}{s:Shared}{fp:qah}(I:Inv X pins σ H s)(hf:∀b∈fp,lg X pins H b)(ho:∀b∈fp,∃o,s.heap.get? b=some o/\∀v,o.data≠.cell v):Inv X (pins++nZ fp s.heap) σ H s :=
 I.zD λp hp=>(cJ.mp hp).elim (λz=>I.pin p (bK _ z)) λz=>by obtain⟨hb,e⟩:=Bb z;obtain⟨f0,f1,f2,_⟩:=hf p.1 hb;obtain⟨o,e',d⟩:=ho p.1 hb;rw[e] at e';cases e';exact⟨e,f0,f1,f2,d⟩
theorem Inv.ke{pins pl:qaa}{σ:St}{H:Hp}{s:Shared}(I:Inv X (pins++pl) σ H s):Inv X pins σ H s:=I.zD λp hp=>I.pin p (bK _ (cj _ hp))
theorem Dn{body:qaq}{wi:TI}{g:TG}{tb:TS}{pos:Pos}(hp:PassesOwn (model X.prog X.w) X.A X.env X.xe)(hc:X.calm=true)(hi:PI X tg iter wi)(hg:PG X tg g)(hb:gw X body tb)(hs:∀x,foldedSetIterable iter X.env x=pure x:=by intro _;rfl):PS X (.For tg iter body [] pos) (Wx wi g tb):=by
 intro pins s σ H D I h;refine wpAny_For (bY (hi pins s σ H _ I h) λv s1 h1=>bY h1 λU2 s2 h2=>?_) hs;obtain⟨it,fp,tn,J,H2,e,I2,T,uS,f2,W,⟨m0,w0⟩,turn⟩:=h2;subst e;have MO:∀{H':Hp},(∀b∈fp,H' b=none)->∀b∈fp,lg X pins H' b:=λhn b hb=>⟨hn b hb,(f2 b hb).2⟩;refine codeAny_forLoop_any (λn s'=>∃i σ' H',Inv X pins σ' H' s'/\tn i s'.heap/\(∀b∈fp,H' b=none)/\W i n σ' H') ?_ m0 ⟨0,σ,H2,I2,uS,λb hb=>(f2 b hb).1,w0⟩;rintro n s3 ⟨i,σ3,H3,I3,Rj,Rk,w3⟩;rcases turn i n σ3 H3 w3 with⟨stop,qn⟩|⟨go,N,hN,step⟩
 . refine wpAny_passesOwn hp (bY (T.done X rfl rfl rfl hc i pins s3 σ3 H3 X.xe I3 (MO Rk) Rj stop) λr s4 ⟨hr,I4⟩=>?_);subst hr;exact wpAny_execs_nil ⟨σ3,H3,I4,qn⟩
 refine wpAny_passesOwn hp (bY (T.item X rfl rfl rfl hc i pins s3 σ3 H3 X.xe I3 (MO Rk) Rj go) λr s4 ⟨u,hr,h4⟩=>?_);subst hr;refine wpAny_passesOwn hp (bY h4 λ_ s5 ⟨x,H5,I5,r5,y5,MP,Wy⟩=>?_);have I5':=I5.pinned (MO Wy) (T.obj _ _ MP);refine wpAny_passesOwn hp (bY (hg _ s5 σ3 H5 x u _ I5' r5 (step x H5 y5)) λ_ s6 ⟨σ6,H6,I6,q6⟩=>?_);refine wpAny_passesOwn hp (bY (hb _ s6 σ6 H6 _ I6 q6) λf s7 q7=>?_);have again:∀{σ7:St}{H7:Hp},Inv X (pins++nZ fp s5.heap) σ7 H7 s7->N σ7 H7->∃m,m<n/\∃i σ' H',Inv X pins σ' H' s7/\tn i s7.heap/\(∀b∈fp,H' b=none)/\W i m σ' H':=λ{σ7 H7} I7 n7=>by obtain⟨m',hm,w7⟩:=hN σ7 H7 n7;refine⟨m',hm,i+1,σ7,H7,I7.ke,T.keep _ _ _ MP λb hb o e=>(I7.pin (b,o) (bK _ (bK _ (gR hb e)))).1,λb hb=>?_,w7⟩;obtain⟨o,e,d⟩:=T.obj _ _ MP b hb;exact (I7.pin (b,o) (bK _ (bK _ (gR hb e)))).2.1
 cases f with
 |brk=>obtain⟨σ7,H7,I7,q7⟩:=q7;exact⟨σ7,H7,I7.ke,q7⟩
 |ret v=>obtain⟨x7,σ7,H7,I7,r7,q7⟩:=q7;exact⟨x7,σ7,H7,I7.ke,r7,q7⟩
 |_=>obtain⟨σ7,H7,I7,n7⟩:=q7;exact again I7 n7
end
abbrev R2:=V->V->Hp->VK->Prop
def fU(X:Cx)(f:Value->Value->Sem Value)(r:R2):Prop :=
 ∀(pins:qaa)(s:Shared)(σ:St)(H:Hp)(x y:V)(v u:Value)(Q:VK),Inv X pins σ H s->RelV x v->RelV y u->r x y H Q ->
  wpAny (model X.prog X.w) X.A (f v u) (EP X pins σ Q) X.xe s
def Wz(X:Cx)(f:Value->Sem Value)(r:V->Hp->VK->Prop):Prop :=
 ∀(pins:qaa)(s:Shared)(σ:St)(H:Hp)(x:V)(v:Value)(Q:VK),Inv X pins σ H s->RelV x v->r x H Q ->
  wpAny (model X.prog X.w) X.A (f v) (EP X pins σ Q) X.xe s
def dF(X:Cx)(f:Value)(r:List V->Hp->VK->Prop):Prop :=
 ∀(pins:qaa)(s:Shared)(σ:St)(H:Hp)(xs:List V)(us:qag)(Q:VK),Inv X pins σ H s->Vals xs us->r xs H Q ->
  wpAny (model X.prog X.w) X.A (call f us) (EP X pins σ Q) X.xe s
def Rl(r:R2)(ta tb:TE):TE:=λσ H Q=>ta σ H λx H1=>tb σ H1 λy H2=>r x y H2 Q
def tUn(r:V->Hp->VK->Prop)(ta:TE):TE:=λσ H Q=>ta σ H λx H1=>r x H1 Q
def rI(C:Int->Int->Prop)(g:Int->Int->V):R2:=λx y H Q=>∃i j,x=.int i/\y=.int j/\C i j/\Q (g i j) H
def uT(g:Int->Int->V):R2:=λx y H Q=>∃i j,x=.int i/\y=.int j/\Q (g i j) H
def rU(g:Int->V):V->Hp->VK->Prop:=λx H Q=>∃i,x=.int i/\Q (g i) H
section
variable{X:Cx}{a:Expr}{ta tb tc:TE}{pos:Pos}
theorem MQ(ha:PE X a ta)(hb:PE X b tb){pins:qaa}{s:Shared}{σ:St}{H:Hp}{R:V->V->Hp->Prop}(I:Inv X pins σ H s)(h:ta σ H λx H1=>tb σ H1 λy H2=>R x y H2){Q:qad}{f:Value->Value->Sem Value}(hf:∀v u s2 x y H2,Inv X pins σ H2 s2->RelV x v->RelV y u->R x y H2->wpAny (model X.prog X.w) X.A (f v u) Q X.xe s2) :
  wpAny (model X.prog X.w) X.A (eval a X.env) (λv s₁=>wpAny (model X.prog X.w) X.A (eval b X.env) (λu s₂=>wpAny (model X.prog X.w) X.A (f v u) Q X.xe s₂) X.xe s₁) X.xe s:=by
 refine bY (ha pins s σ H _ I h) λv s1 ⟨x,H1,I1,r1,q1⟩=>?_;refine bY (hb pins s1 σ H1 _ I1 q1) λu s2 ⟨y,H2,I2,r2,q2⟩=>?_;exact hf v u s2 x y H2 I2 r1 r2 q2
theorem K9{op:Operator}{r:R2}(ho:fU X (binaryOp op) r)(ha:PE X a ta)(hb:PE X b tb):PE X (.BinOp a op b pos) (Rl r ta tb):=by intro pins s σ H Q I h;exact wpAny_BinOp (MQ ha hb I h λv u s2 x y H2 I2 rx ry q=>ho pins s2 σ H2 x y v u Q I2 rx ry q)
theorem K_{op:UnaryOp}{r:V->Hp->VK->Prop}(ho:Wz X (unaryOp op) r)(ha:PE X a ta):PE X (.UnaryOp op a pos) (tUn r ta):=by intro pins s σ H Q I h;exact UnaryOp_ (bY (ha pins s σ H _ I h) λv s1 ⟨x,H1,I1,r1,q1⟩=>ho pins s1 σ H1 x v Q I1 r1 q1)
theorem Qo{f:Value->Value->Sem Value}{C:Int->Int->Prop}{g:Int->Int->Int}(rule:∀(i j:Int) (t u:Tok) (s:Shared) (Q:qad) (E:qad),C i j->Q (.int (g i j) s.toks) {s with toks:=s.toks+1}->wpAny (model X.prog X.w) X.A (f (.int i t) (.int j u)) Q E s) :
  fU X f (rI C λi j=>.int (g i j)):=by
 intro pins s σ H x y v u Q I rx ry h;obtain⟨i,j,rfl,rfl,hc,q⟩:=h;obtain⟨t,rfl⟩:=rx;obtain⟨t',rfl⟩:=ry;exact rule i j t t' s _ _ hc ⟨.int (g i j),H,I.tok _,⟨_,rfl⟩,q⟩
theorem Rm{f:Value->Value->Sem Value}{g:Int->Int->Int}(rule:∀(i j:Int) (t u:Tok) (s:Shared) (Q:qad) (E:qad),Q (.int (g i j) s.toks) {s with toks:=s.toks+1}->wpAny (model X.prog X.w) X.A (f (.int i t) (.int j u)) Q E s) :
  fU X f (uT λi j=>.int (g i j)):=by
 intro pins s σ H x y v u Q I rx ry h;obtain⟨i,j,rfl,rfl,q⟩:=h;obtain⟨t,rfl⟩:=rx;obtain⟨t',rfl⟩:=ry;exact rule i j t t' s _ _ ⟨.int (g i j),H,I.tok _,⟨_,rfl⟩,q⟩
theorem HC{f:Value->Value->Sem Value}{g:Int->Int->Bool}(rule:∀(i j:Int) (t u:Tok) (s:Shared) (Q:qad) (E:qad),Q (.bool (g i j)) s->wpAny (model X.prog X.w) X.A (f (.int i t) (.int j u)) Q E s) :
  fU X f (uT λi j=>.bl (g i j)):=by
 intro pins s σ H x y v u Q I rx ry h;obtain⟨i,j,rfl,rfl,q⟩:=h;obtain⟨t,rfl⟩:=rx;obtain⟨t',rfl⟩:=ry;exact rule i j t t' s _ _ ⟨.bl (g i j),H,I,rfl,q⟩
def Rn(i j:Int):Prop:=0<j/\j<1073741824
def Ro(i j:Int):Prop:=0<=j/\j<=1000000/\i.natAbs<2 ^ 64
def Dp(i j:Int):Prop:=(-(2 ^ 64)<i/\i<2 ^ 64)\/(-(2 ^ 64)<j/\j<2 ^ 64)
theorem Dp.ok{i j:Int}(h:Dp i j):IntMulOk i j:=by
 obtain⟨h1,h2⟩|⟨h1,h2⟩:=h
 exact .of_left (intBits_le_64 h1 h2);exact .of_right (intBits_le_64 h1 h2)
theorem MT:fU X (binaryOp .Add) (uT λi j=>.int (i+j)):=Rm λ_ _ _ _ _ _ _ q=>add_int q
theorem MV:fU X (binaryOp .Sub) (uT λi j=>.int (i-j)):=Rm λ_ _ _ _ _ _ _ q=>sub_int q
theorem MW:fU X (binaryOp .Mult) (rI Dp λi j=>.int (i * j)):=Qo λ_ _ _ _ _ _ _ hc q=>mul_int q hc.ok
theorem HF:fU X (binaryOp .FloorDiv) (rI Rn λi j=>.int (i / j)):=Qo λi j _ _ _ _ _ hc q=>by have h1:(0:Int)<j:=hc.1;have h2:j<1073741824:=hc.2;exact floordiv_int (by omega) (by rw[Int.fdiv_eq_ediv_of_nonneg i (by omega)];exact q) (.inl (PyProof.noPylong_small (by omega)))
theorem MX:fU X (binaryOp .Mod) (rI (λ_ j=>0<j) λi j=>.int (i % j)):=Qo λi j _ _ _ _ _ hc q=>by have h1:(0:Int)<j:=hc;exact mod_int' (by omega) (by rw[Int.fmod_eq_emod_of_nonneg i (by omega)];exact q)
theorem MY:fU X (binaryOp .Pow) (rI Ro λi j=>.int (i ^ j.toNat)):=Qo λ_ _ _ _ _ _ _ hc q=>pow_int_small hc.1 hc.2.1 hc.2.2 q
theorem unI{f:Value->Sem Value}{g:Int->Int}(rule:∀(i:Int) (t:Tok) (s:Shared) (Q:qad) (E:qad),Q (.int (g i) s.toks) {s with toks:=s.toks+1}->wpAny (model X.prog X.w) X.A (f (.int i t)) Q E s) :
  Wz X f (rU λi=>.int (g i)):=by
 intro pins s σ H x v Q I rx h;obtain⟨i,rfl,q⟩:=h;obtain⟨t,rfl⟩:=rx;exact rule i t s _ _ ⟨.int (g i),H,I.tok _,⟨_,rfl⟩,q⟩
theorem Dq:Wz X (unaryOp .USub) (rU λi=>.int (-i)):=unI λ_ _ _ _ _ q=>neg_int q
end
section
variable{X:Cx}{a:Expr}{ta tb tc:TE}{pos:Pos}
theorem xU{pins:qaa}{σ:St}{H:Hp}{s:Shared}{Q:VK}{k k':Bool}(I:Inv X pins σ H s)(q:Q (.bl k) H)(e:k=k'):EP X pins σ Q (.bool k') s:=by subst e;exact⟨.bl k,H,I,rfl,q⟩
theorem Rp:fU X (compareOp .Lt) (uT λi j=>.bl (decide (i<j))):=HC λ_ _ _ _ _ _ _ q=>lt_int q
theorem K':fU X (compareOp .LtE) (uT λi j=>.bl (decide (i<=j))):=HC λ_ _ _ _ _ _ _ q=>le_int q
theorem Rq:fU X (compareOp .Gt) (uT λi j=>.bl (decide (j<i))):=HC λ_ _ _ _ _ _ _ q=>gt_int q
theorem Rr:fU X (compareOp .GtE) (uT λi j=>.bl (decide (j<=i))):=HC λ_ _ _ _ _ _ _ q=>ge_int q
theorem Bc:fU X (compareOp .In) (λx y H Q=>∃i j,x=.str i/\y=.str j/\Q (.bl (!(Builtin.Str.occurrences j i 0 j.length 1).isEmpty)) H):=by intro pins s σ H x y v u Q I rx ry h;obtain⟨i,j,rfl,rfl,q⟩:=h;obtain⟨t,rfl⟩:=rx;obtain⟨t',rfl⟩:=ry;exact in_str (xU I q rfl)
theorem MZ:fU X (compareOp .Is) (λx y H Q=>y=.aQ/\Q (.bl (decide (x=.aQ))) H):=by
 intro pins s σ H x y v u Q I rx ry h;obtain⟨rfl,q⟩:=h;cases ry;refine is_none_gen (xU I q ?_);cases x<;>first
  | (cases rx;rfl)
  | (obtain⟨t,rfl⟩:=rx;rfl)
theorem HG:fU X (compareOp .IsNot) (λx y H Q=>y=.aQ/\Q (.bl (!decide (x=.aQ))) H):=by
 intro pins s σ H x y v u Q I rx ry h;obtain⟨rfl,q⟩:=h;cases ry;refine isnot_none_gen (xU I q ?_);cases x<;>first
  | (cases rx;rfl)
  | (obtain⟨t,rfl⟩:=rx;rfl)
theorem fU.or{f:Value->Value->Sem Value}{r r':R2}(h:fU X f r)(h':fU X f r'):fU X f (λx y H Q=>r x y H Q\/r' x y H Q):=by
 intro pins s σ H x y v u Q I rx ry q;obtain q|q:=q
 exact h pins s σ H x y v u Q I rx ry q;exact h' pins s σ H x y v u Q I rx ry q
theorem iy(b:Expr){op:CmpOp}(h:op≠.In:=by decide)(h2:op≠.NotIn:=by decide):behindInMarks op b=false:=by
 have e1:(op==CmpOp.In)=false:=by cases op<;>first|rfl|exact absurd rfl h
 have e2:(op==CmpOp.NotIn)=false:=by cases op<;>first|rfl|exact absurd rfl h2
 cases b<;>simp[behindInMarks,e1,e2]
theorem HH{op:CmpOp}{r:R2}(ho:fU X (compareOp op) r)(ha:PE X a ta)(hb:PE X b tb)(hm:behindInMarks op b=false):PE X (.Compare a [op] [b] pos) (Rl r ta tb):=by intro pins s σ H Q I h;exact wpAny_Compare1 (MQ ha hb I h λv u s2 x y H2 I2 rx ry q=>ho pins s2 σ H2 x y v u Q I2 rx ry q) hm
def La(t:TE):TT:=λσ H Q=>t σ H λx H'=>∃k,x=.bl k/\Q k H'
theorem HI{op:CmpOp}{r:R2}(ho:fU X (compareOp op) r)(ha:PE X a ta)(hb:PE X b tb)(hm:behindInMarks op b=false):PT X (.Compare a [op] [b] pos) (La (Rl r ta tb)):=by
 intro pins s σ H Q I h;refine wpAny_isTrue_Compare1 (bY (ha pins s σ H _ I h) λv s1 ⟨x,H1,I1,r1,q1⟩=>bY (hb pins s1 σ H1 _ I1 q1) λu s2 ⟨y,H2,I2,r2,q2⟩ =>
  bY (ho pins s2 σ H2 x y v u _ I2 r1 r2 q2) λc s3 ⟨z,H3,I3,r3,k,e,q3⟩=>?_) hm
 subst e;cases r3;exact wpAny_truthy_bool ⟨H3,I3,q3⟩
def Dr(r r':R2)(ta tb tc:TE):TE:=λσ H Q=>ta σ H λx H1=>tb σ H1 λy H2=>r x y H2 λz H3=>∃k,z=.bl k /\
 (if k=true then tc σ H3 λw' H4=>r' y w' H4 Q else Q (.bl false) H3)
theorem Ds{op M6:CmpOp}{r r':R2}(ho:fU X (compareOp op) r)(jn:fU X (compareOp M6) r')(ha:PE X a ta)(hb:PE X b tb)(hc:PE X c tc)(hm:lastMarks [op,M6] [b,c]=false:=by with_unfolding_all rfl):PT X (.Compare a [op,M6] [b,c] pos) (La (Dr r r' ta tb tc)):=by
 intro pins s σ H Q I h;refine isTrue_chain (bY (ha pins s σ H _ I h) λv s1 ⟨x,H1,I1,r1,q1⟩=>test_link (bY (hb pins s1 σ H1 _ I1 q1) λu s2 ⟨y,H2,I2,r2,q2⟩ =>
  bY (ho pins s2 σ H2 x y v u _ I2 r1 r2 q2) λd s3 ⟨z,H3,I3,r3,k,e,q3⟩=>?_)) hm
 subst e;cases r3;refine wpAny_truthy_bool ?_;cases k with
 |false=>obtain⟨k',e',q'⟩:=q3;cases e';exact ite_ff ⟨H3,I3,q'⟩
 |true=>refine ite_tt (test_last (bY (hc pins s3 σ H3 _ I3 q3) λw' s4 ⟨z',H4,I4,r4,q4⟩=>bY (jn pins s4 σ H4 y z' u w' _ I4 r2 r4 q4) λd' s5 ⟨z2,H5,I5,r5,k2,e2,q5⟩=>?_));subst e2;cases r5;exact wpAny_truthy_bool ⟨H5,I5,q5⟩
theorem lh:(sizeLine:Nat)<2 ^ 63:=by rw[sizeLine_eq];decide
theorem xV:fU X (binaryOp .Add) (λx y H Q=>∃i j,x=.str i/\y=.str j/\i.length+j.length<=sizeLine/\Q (.str (i++j)) H):=by intro pins s σ H x y v u Q I rx ry h;obtain⟨i,j,rfl,rfl,hz,q⟩:=h;obtain⟨t,rfl⟩:=rx;obtain⟨t',rfl⟩:=ry;exact add_str (λt' tk=>⟨.str (i++j),H,I.tok _,⟨_,rfl⟩,q⟩) hz
theorem vals1{x:V}{us:qag}(r:Vals [x] us):∃u,us=[u]/\RelV x u:=by
 cases r with
 |cons r1 r2=>cases r2;exact⟨_,rfl,r1⟩
theorem vals2{x y:V}{us:qag}(r:Vals [x,y] us):∃u w',us=[u,w']/\RelV x u/\RelV y w':=by
 cases r with
 |cons r1 r2=>
  cases r2 with
  |cons r3 r4=>cases r4;exact⟨_,_,rfl,r1,r3⟩
theorem Bd:dF X (.type "int") (λxs H Q=>(∃i,xs=[.int i]/\Q (.int i) H)\/∃k,xs=[.bl k]/\Q (.int (if k then 1 else 0)) H):=by
 intro pins s σ H xs us Q I r h;obtain⟨i,rfl,q⟩|⟨k,rfl,q⟩:=h
 obtain⟨u,rfl,t,rfl⟩:=vals1 r;exact call_int_int ⟨.int i,H,I,⟨_,rfl⟩,q⟩;obtain⟨u,rfl,r1⟩:=vals1 r;cases r1;exact call_int_bool ⟨.int (if k then 1 else 0),H,I.tok _,⟨_,rfl⟩,q⟩
end
structure Be(h:Heap)(x dx C:Addr)(mA:qae):Prop where
 obj:h.get? x=some (PySem.W.instObj C dx)
 ns:h.Ns1 dx mA
 ne:dx≠x
theorem Bf{mA:qae}(n:h.Ns1 dx mA):∃od,h.get? dx=some od/\∀name,PySem.W.lookIn name od=some (mA name):=by
 obtain⟨o,es,ep,ho,hd,hk,_,hm⟩:=n;refine⟨o,ho,λname=>?_⟩;have e:=hm name;unfold nsFind findBy at e;rw[<- Array.find?_toList] at e;unfold PySem.W.lookIn;rw[hd];dsimp only;split
 rename_i y q
 rw[q] at e;exact congrArg some e
 rename_i q
 rw[q] at e;have a:es.toList.any (·.refKey)=false:=by rw[List.any_eq_false];intro y hy;obtain⟨z,t,WA⟩:=hk y (Array.mem_toList_iff.mp hy);simp[DictEntry.refKey,WA]
 have a':¬ es.toList.any (·.refKey)=true:=by rw[a];exact eh
 rw[if_neg a'];exact congrArg some e
theorem Be.look{x:Addr}{mA:qae}(I:Be h x dx C mA):∃od,PySem.W.InstAt h x (PySem.W.instObj C dx) C (some od)/\∀name,PySem.W.lookIn name od=some (mA name) :=
 let ⟨od,ho,hl⟩:=Bf I.ns
 ⟨od,⟨I.obj,rfl,rfl,ho⟩,hl⟩
section
variable{E:qad}{s:Shared}{K:qaf}{x:Addr}{mA:qae}{name:Str}{v:Value}
theorem get_map{expr:Bool}{Q:qad}(X:K.In s.heap)(I:Be s.heap x dx C mA)(hg:PySem.W.plainGet K C name=true)(hh:PySem.W.hasDictIn K C=true)(ha:PySem.W.findIn K (.ref C) name=some none)(hv:mA name=some v)(uU:PySem.W.handedIn v=true)(h:Q v {s with toks:=s.toks+1}) :
  wpAny (model prog w) A (getAttr (.ref x) name expr) Q E s:=by
 obtain⟨od,J,hl⟩:=I.look;exact PySem.W.get_value X J (PySem.W.plainGet_of hg).1 (PySem.W.findObj_own hh ha rfl (by rw[hl,hv])) uU h
theorem HJ{ns:qai}{Q:Unit->Shared->Prop}(X:K.In s.heap)(I:Be s.heap x dx C mA)(hs:PySem.W.findIn K (.ref C) "__setattr__"=some (some (.builtin "object.__setattr__")))(hp:PySem.W.plainOver K C=true)(ht:PySem.W.takerIn K C name=some none)(hh:PySem.W.hasDictIn K C=true)(hw:PySem.Within mA ns)(hsz:ns.length<=sizeLine)(h:∀h',Be h' x dx C (λy=>if y=name then some v else mA y)->Heap.SameBut dx s.heap h'->Q () {s with heap:=h',toks:=s.toks+2}) :
  wpAny (model prog w) A (setAttr (.ref x) name v) Q E s:=by
 obtain⟨od,J,hl⟩:=I.look;refine PySem.W.set_plain X J hs (PySem.W.osa_open (s:={s with toks:=s.toks+1}) (r:=none) X J hp ht λb=>?_);obtain⟨cd,hc,CV⟩:=PySem.W.any_some hh;have hx:s.heap.get? x=some ⟨.ref C,some dx,.plain,#[]⟩:=I.obj;refine wpAny_bind (wpAny_pure (wpAny_bind (wpAny_bind (wpAny_loadPart hx (wpAny_bind (PySem.W.Looks.here (s:={s with toks:=s.toks+1}) (PySem.W.looks_clsIn X hc) ?_))))));rw[CV];refine wpAny_pure (a:=some dx) (wpAny_bind (wpAny_pure (wpAny_bind ?_)));refine wpAny_nsSet1 (s:={s with toks:=s.toks+1}) I.ns λh' YW qX=>?_;obtain⟨oD,esD,epD,hoD,hdD,hcD⟩:=YW.count (PySem.Within.cons name v hw);refine wpAny_bind (wpAny_lookBehind hoD (by rw[hdD];exact pastItsLine_dict (m7 hcD (by rw[j9];omega))) ?_);exact wpAny_pure (h _ ⟨(qX.2 _ (Ne.symm I.ne)).trans I.obj,YW,I.ne⟩ qX)
theorem Dt{R:Result->Shared->Prop}{vs:qag}{kw:List (Str×Value)}(X:K.In s.heap)(hm:PySem.W.makesIn K C=true)(hi:PySem.W.findIn K (.ref C) "__init__"=some (some (.ref f)))(hf:PySem.W.typeIn K (.ref f)=some (.type "function"))(h:codeAny (model prog w) (A.under (.builtin "type.__call__" ⟨.ref C::vs,kw⟩)) (.call (.ref f) ⟨.ref (s.heap.objs.size+1)::vs,kw⟩) (PySem.W.InitBack (s.heap.objs.size+1) R)
    {s with heap:=(s.heap.push PySem.W.emptyDict).push (PySem.W.instObj C s.heap.objs.size)}) :
  codeAny (model prog w) A (.call (.ref C) ⟨vs,kw⟩) R s:=by
 obtain⟨hh,g,d,t,os⟩:=s;exact PySem.W.make_core (PySem.W.makes_of X hm) (PySem.W.looks_findIn X hi) (λself=>PySem.W.bind_fn X self hf) (.inl rfl) h
end
noncomputable def dh(f:Str)(v:V):List (Str×V)->List (Str×V)
 |[]=>[(f,v)]
 | (g,x)::r=>if g=f then (g,v)::r else (g,x)::dh f v r
theorem mz(f g:Str)(v:V):∀fs:List (Str×V),(dh f v fs).lookup g=if g=f then some v else fs.lookup g
 |[]=>by show List.lookup g [(f,v)]=_;by_cases h:g=f;have hb:(g==f)=true:=beq_iff_eq.mpr h;simp only[List.lookup,hb,if_pos h];have hb:(g==f)=false:=beq_eq_false_iff_ne.mpr h;simp only[List.lookup,hb,if_neg h]
 | (k,x)::r=>by have ih:=mz f g v r;rw[show dh f v ((k,x)::r)=(if k=f then (k,v)::r else (k,x)::dh f v r) from rfl];by_cases hk:k=f;rw[if_pos hk];by_cases h:g=k;have hb:(g==k)=true:=beq_iff_eq.mpr h;simp only[List.lookup,hb,if_pos (h.trans hk)];have hb:(g==k)=false:=beq_eq_false_iff_ne.mpr h;simp only[List.lookup,hb,if_neg (λe:g=f=>h (e.trans hk.symm))];rw[if_neg hk];by_cases h:g=k;have hb:(g==k)=true:=beq_iff_eq.mpr h;simp only[List.lookup,hb,if_neg (λe:g=f=>hk (h.symm.trans e))];have hb:(g==k)=false:=beq_eq_false_iff_ne.mpr h;simp only[List.lookup,hb];exact ih
theorem lj(f:Str)(v:V):∀fs:List (Str×V),f∈(dh f v fs).map (·.1)/\∀g,g∈fs.map (·.1)->g∈(dh f v fs).map (·.1)
 |[]=>⟨by simp[dh],λg h=>by simp at h⟩
 | (k,x)::r=>by
  obtain⟨i1,i2⟩:=lj f v r;rw[show dh f v ((k,x)::r)=(if k=f then (k,v)::r else (k,x)::dh f v r) from rfl];by_cases hk:k=f;rw[if_pos hk];subst hk;exact⟨by simp,λg h=>by simpa using h⟩;rw[if_neg hk];refine⟨?_,λg h=>?_⟩;rw[fS];exact d_ _ i1;rw[fS] at h ⊢;rcases cT.mp h with e|e
  exact cT.mpr (.inl e);exact d_ _ (i2 g e)
theorem mB(f:Str)(v:V):∀fs:List (Str×V),(dh f v fs).length<=fs.length+1
 |[]=>by simp[dh]
 | (k,x)::r=>by have ih:=mB f v r;rw[show dh f v ((k,x)::r)=(if k=f then (k,v)::r else (k,x)::dh f v r) from rfl];by_cases hk:k=f;rw[if_pos hk,j9,j9];omega;rw[if_neg hk,j9,j9];omega
theorem j_.some_of{v:V}{o:Option Value}(r:j_ (some v) o):∃u,o=some u/\RelV v u:=by
 cases o with
 |none=>exact (show False from r).elim
 |some u=>exact⟨u,rfl,r⟩
theorem Bg{v:V}(r:RelV v u):PySem.W.handedIn u=true:=by
 cases v with
 |aQ=>cases (show u=Value.none from r);rfl
 |bl b=>cases (show u=Value.bool b from r);rfl
 |int i=>obtain⟨t,e⟩:=(show ∃t,u=Value.int i t from r);cases e;rfl
 |str x=>obtain⟨t,e⟩:=(show ∃t,u=Value.str x t from r);cases e;rfl
 |V7 b=>obtain⟨t,e⟩:=(show ∃t,u=Value.bytes b t from r);cases e;rfl
 |V8 b=>obtain⟨t,e⟩:=(show ∃t,u=Value.float b t from r);cases e;rfl
 |ref a=>cases (show u=Value.ref a from r);rfl
 |ty n=>cases (show u=Value.type n from r);rfl
section
variable{H H':Hp}{fs V':List (Str×V)}
theorem zG(b_:j5 P w H h)(e:H a=some (.ins C dx fs)):∃mA,Be h a dx C mA/\(∀f,j_ (fs.lookup f) (mA f))/\PySem.Within mA (fs.map (·.1))/\fs.length<=1000/\H dx=some (.own a):=by obtain⟨d,z,ne,ob,mA,n,r,q⟩:=(show cc P w H h a (.ins C dx fs) from b_ a _ e);exact⟨mA,⟨ob,n,ne⟩,r,q,z,d⟩
end
structure xW(K:qaf)(C:Addr):Prop where
 pg:PySem.W.plainGet K C Str.empty=true
 hd:PySem.W.hasDictIn K C=true
 po:PySem.W.plainOver K C=true
 sa:PySem.W.findIn K (.ref C) "__setattr__"=some (some (.builtin "object.__setattr__"))
theorem xW.get{K:qaf}{C:Addr}(c:xW K C)(f:Str):PySem.W.plainGet K C f=true:=c.pg
def a8(K:qaf)(C:Addr)(f:Str):Prop:=PySem.W.findIn K (.ref C) f=some none
theorem a8.Ru{K:qaf}{f:Str}(n:a8 K C f):PySem.W.takerIn K C f=some none:=by unfold PySem.W.takerIn;rw[show PySem.W.findIn K (.ref C) f=some none from n];rfl
section
variable{X:Cx}{pins:qaa}{σ:St}{H:Hp}{s:Shared}{fs:List (Str×V)}{f:Str}{v:V}{E:qad}
theorem xX{b:Bool}{Q:qad}(I:Inv X pins σ H s)(e:H a=some (.ins C dx fs))(c:xW X.K C)(n:a8 X.K C f)(l:fs.lookup f=some v)(h:∀u s',Inv X pins σ H s'->RelV v u->Q u s'):wpAny (model X.prog X.w) A (getAttr (.ref a) f b) Q E s:=by obtain⟨mA,O,r,_,_,_⟩:=zG I.b_ e;obtain⟨u,hu,ru⟩:=j_.some_of (v:=v) (o:=mA f) (by rw[<- l];exact r f);exact get_map I.qV O (c.get f) c.hd n hu (Bg ru) (h u _ (I.tok _) ru)
theorem xY{y:V}{Q:Unit->Shared->Prop}(I:Inv X pins σ H s)(e:H a=some (.ins C dx fs))(c:xW X.K C)(n:a8 X.K C f)(hl:fs.length<1000)(ry:RelV y u)(h:∀s',Inv X pins σ (upd H a (.ins C dx (dh f y fs))) s'->Q () s'):wpAny (model X.prog X.w) A (setAttr (.ref a) f u) Q E s:=by
 obtain⟨mA,O,r,wi,_,ho⟩:=zG I.b_ e;have hz:(fs.map (·.1)).length<=sizeLine:=by rw[cW,sizeLine_eq];omega
 refine HJ I.qV O c.sa c.po n.Ru c.hd wi hz λh' O' sb=>h _ ?_;have hd:∃o,h'.get? dx=some o:=let ⟨o,_,_,e',_⟩:=O'.ns;⟨o,e'⟩;refine I.write (x:=a) (e:=dx) (by rw[e];exact True.intro) (.inr ho) (λb q hb z=>(sb.2 b hb).trans z) hd ?_;refine⟨by rw[az O.ne];exact ho,?_,O.ne,O'.obj,_,O'.ns,λg=>?_,λg hg=>?_⟩;have:=mB f y fs;omega;show j_ ((dh f y fs).lookup g) (if g=f then some u else mA g);rw[mz];by_cases q:g=f;rw[if_pos q,if_pos q];exact ry;rw[if_neg q,if_neg q];exact r g;by_cases q:g=f;rw[q];exact (lj f y fs).1;refine (lj f y fs).2 g (wi g λz=>hg ?_);show (if g=f then some u else mA g)=none;rw[if_neg q];exact z
theorem Inv.made(I:Inv X pins σ H s):Inv X pins σ (upd (upd H s.heap.objs.size (.own (s.heap.objs.size+1))) (s.heap.objs.size+1) (.ins C s.heap.objs.size []))
  {s with heap:=(s.heap.push PySem.W.emptyDict).push (PySem.W.instObj C s.heap.objs.size)}:=by
 have e1:(s.heap.push PySem.W.emptyDict).get? s.heap.objs.size=some PySem.W.emptyDict:=k6 s.heap rfl;have e2:((s.heap.push PySem.W.emptyDict).push (PySem.W.instObj C s.heap.objs.size)).get? (s.heap.objs.size+1)=some (PySem.W.instObj C s.heap.objs.size):=by
  have:=k6 (s.heap.push PySem.W.emptyDict) (o:=PySem.W.instObj C s.heap.objs.size) rfl
  rwa [C9] at this
 have e3:(s.heap.push PySem.W.emptyDict).Ns s.heap.objs.size (λ_=>none):=⟨PySem.W.emptyDict,#[],_,e1,rfl,(λe he=>absurd he (by simp)),λ_=>rfl⟩;have I1:=I.laid (a:=s.heap.objs.size) (o:=.own (s.heap.objs.size+1)) (h':=s.heap.push PySem.W.emptyDict) (t':=s.toks) (λb u q=>fE _ q) (cU _) ⟨_,e1⟩;refine I1.laid (a:=s.heap.objs.size+1) (o:=.ins C s.heap.objs.size []) (t':=s.toks) (λb u q=>fE _ q) (Nat.le_of_eq (C9 _ _)) ?_;have ne:s.heap.objs.size≠s.heap.objs.size+1:=j4 (C7 _);refine⟨by rw[az ne,aB],ji _,ne,e2,λ_=>none,(Heap.Ns1.of_empty e3).at λo q=>fE _ q,λ_=>True.intro,λy hy=>absurd rfl hy⟩
theorem HK{env:Env}{f:Str}{pos:Pos}{s:Shared}{Q:qad}(hb:attributeBase e f env (eval e env)=eval e env)(h:wpAny (model prog w) A (eval e env) (λo s₁=>wpAny (model prog w) A (getAttr o f true) Q E s₁) E s):wpAny (model prog w) A (eval (.Attribute e f pos) env) Q E s :=
 Attribute_any_ h (by rw[arm_eval_Attribute,hb])
end
def WB(K:qaf)(ta:TE)(f:Str):TE:=λσ H Q=>ta σ H λx H1=>∃a C dx fs v,x=.ref a/\H1 a=some (.ins C dx fs)/\xW K C/\a8 K C f/\fs.lookup f=some v/\Q v H1
noncomputable def WC(K:qaf)(ta tv:TE)(f:Str):TS:=λD σ H=>tv σ H λy H1=>ta σ H1 λx H2=>∃a C dx fs,x=.ref a/\H2 a=some (.ins C dx fs)/\xW K C/\a8 K C f/\fs.length<1000 /\
 D.nx σ (upd H2 a (.ins C dx (dh f y fs)))
section
variable{X:Cx}{value:Expr}{f:Str}{pos pos':Pos}{ta tv:TE}
theorem xZ(he:PE X e ta)(hb:attributeBase e f X.env (eval e X.env)=eval e X.env):PE X (.Attribute e f pos) (WB X.K ta f):=by intro pins s σ H Q I h;refine HK hb (bY (he pins s σ H _ I h) λu s1 ⟨x,H1,I1,rx,a,C,dx,fs,v,ex,ea,c,n,l,q⟩=>?_);subst ex;obtain rfl:u=Value.ref a:=rx;exact xX I1 ea c n l λu' s2 I2 ru=>⟨v,H1,I2,ru,q⟩
theorem eV(ha:PE X o ta)(hv:PE X value tv)(hs:swapsWith value (some (.Attribute o f pos')) pos.line X.env=pure false):PS X (.Assign [.Attribute o f pos'] value pos) (WC X.K ta tv f):=by intro pins s σ H D I h;refine plainObj_wpAny_Assign_Attribute (bY (hv pins s σ H _ I h) λu s1 ⟨y,H1,I1,ry,q⟩=>bY (ha pins s1 σ H1 _ I1 q) λov s2 ⟨x,H2,I2,rx,a,C,dx,fs,ex,ea,c,n,l,q2⟩=>?_) hs;subst ex;obtain rfl:ov=Value.ref a:=rx;exact xY I2 ea c n l ry λs3 I3=>⟨σ,_,I3,q2⟩
end
structure bh(k:Nat)(A:Around):Prop where
 hd:A.handled=none
 dp:A.depth+3 * k+5<recursionLimit
 un:A.units+16 * k+200<cLine
theorem bh.mono{k:Nat}(r:bh k A)(h:j<=k):bh j A:=⟨r.hd,by have:=r.dp;omega,by have:=r.un;omega⟩
theorem bh.deeper{k:Nat}(r:bh (k+1) A)(env:Env):bh k (A.deeper env) :=
 ⟨r.hd,by have:=r.dp;show A.depth+1+3 * k+5<_;omega,by have:=r.un;show A.units+3+16 * k+200<_;omega⟩
theorem x3{us:qag}{kw:List (Str×Value)}:(A.under (.builtin "type.__call__" ⟨.ref C::us,kw⟩)).depth=A.depth+1:=by first|rfl|simp[Around.under,Code.weight,Code.isCreation,Code.isGuard,Code.isCaller,Code.frames,Code.isFrame,guardIds]
theorem x4{us:qag}{kw:List (Str×Value)}:(A.under (.builtin "type.__call__" ⟨.ref C::us,kw⟩)).units=A.units+1:=by first|rfl|simp[Around.under,Code.cUnits,Code.frames,Code.isFrame]
theorem bh.make{k:Nat}(r:bh (k+1) A)(C:Addr)(us:qag)(kw:List (Str×Value)):bh k (A.under (.builtin "type.__call__" ⟨.ref C::us,kw⟩)) :=
 ⟨r.hd,by have:=r.dp;rw[x3];omega,by have:=r.un;rw[x4];omega⟩
theorem bh.depth{k:Nat}(r:bh k A):A.depth<recursionLimit:=by have:=r.dp;omega
def WD:TA:=λ_ H Q=>Q [] H
def Rv(ta:TE)(tr:TA):TA:=λσ H Q=>ta σ H λx H1=>tr σ H1 λxs H2=>Q (x::xs) H2
section
variable{X:Cx}{es:qap}{te:TE}{t:TA}{pos:Pos}
theorem cN:PA X [] WD:=λ_ _ _ _ H Q I h=>Calls.spliced_nil ⟨[],H,I,.nil,h⟩
theorem bf(ha:PE X e te)(hr:PA X es t)(hs:starEach (e::es) X.env=(false,eval e X.env)::starEach es X.env:=by rfl):PA X (e::es) (Rv te t):=by intro pos pins s σ H Q I h;rw[hs];show wpAny _ _ (spliced ((false,eval e X.env)::backTo pos (starEach es X.env))) _ _ s;refine Ml (bY (ha pins s σ H _ I h) λu s1 ⟨x,H1,I1,r1,q1⟩=>?_);exact bY (hr pos pins s1 σ H1 _ I1 q1) λus s2 ⟨xs,H2,I2,r2,q2⟩=>⟨x::xs,H2,I2,.cons r1 r2,q2⟩
def WE(t:TA):TE:=λσ H Q=>t σ H λxs H1=>xs.length<=sizeLine/\∀p,H1 p=none->Q (.ref p) (upd H1 p (.tup xs))
def WG(t:TA):TE:=λσ H Q=>t σ H λxs H1=>xs.length<=sizeLine/\∀p,H1 p=none->Q (.ref p) (upd H1 p (.lst xs))
theorem x5{x1}(h:PA X es t):PE X (.Tuple es x1 pos) (WE t):=by intro pins s σ H Q I hq;refine wpAny_Tuple_spliced (bY (h pos pins s σ H _ I hq) λus s1 ⟨xs,H1,I1,r,z,q⟩=>⟨by rw[<- r.length];exact z,?_⟩);have hf:H1 s1.heap.objs.size=none:=I1.b_.fresh (cU _);refine⟨.ref s1.heap.objs.size,upd H1 s1.heap.objs.size (.tup xs),I1.laid (t':=s1.toks) (λb u e=>fE _ e) (cU _) ?_,rfl,q _ hf⟩;exact⟨z,us,r,⟨_,k6 _ rfl,rfl,_,rfl⟩⟩
theorem x6(h:PA X es t):PE X (.List es pos) (WG t):=by intro pins s σ H Q I hq;refine wpAny_List_spliced (bY (h pos pins s σ H _ I hq) λus s1 ⟨xs,H1,I1,r,z,q⟩=>⟨by rw[<- r.length];exact z,?_⟩);have hf:H1 s1.heap.objs.size=none:=I1.b_.fresh (cU _);refine⟨.ref s1.heap.objs.size,upd H1 s1.heap.objs.size (.lst xs),I1.laid (t':=s1.toks) (λb u e=>fE _ e) (cU _) ?_,rfl,q _ hf⟩;exact⟨z,us,0,r,k6 _ rfl⟩
end
abbrev Sp:=List V->Hp->VK->XK->Prop
abbrev CW:=List Env->Hp->Shared->XK->qad
structure x8(P:Program)(w:World)(K:qaf)(mg:qae)(base:Heap)(A:Around)(outer:List Env)(s:Shared)(H:Hp):Prop where
 frames:A.frames=some outer
 mod:Mod K mg base
 bs:∀b o,base.get? b=some o->s.heap.get? b=some o/\H b=none
 CU:base.objs.size<=s.heap.objs.size
 j':s.heap.FunFrames base outer
 Hu:∀b∈CT outer,H b=none
 b_:j5 P w H s.heap
 bare:AllBare s.gens
def CE(outer:List Env)(P:Program)(w:World)(H:Hp)(s:Shared)(Q:VK)(u:Value)(s':Shared):Prop :=
 ∃v H',s'.os=s.os/\AllBare s'.gens/\Un (CT outer) [] H H' s.heap s'.heap/\j5 P w H' s'.heap/\RelV v u/\Q v H'
def CR(CX:CW)(outer:List Env)(P:Program)(w:World)(H:Hp)(s:Shared)(Q:VK)(E:XK)(r:Result)(s':Shared):Prop :=
 match r with
 |.ok (.ret u)=>CE outer P w H s Q u s'
 |.ok _=>False
 |.error e=>CX outer H s E e s'
structure cn(P:Program)(w:World)(K:qaf)(mg:qae)(base:Heap)(CX:CW)(k:Nat)(f:Addr)(fd:FuncData)(ps:qai)(sp:Sp):Prop where
 len:∀vs H Q E,sp vs H Q E->vs.length=ps.length
 run:∀(A:Around)(outer:List Env)(s:Shared)(H:Hp)(args:Args)(us:qag)(vs:List V)(Q:VK)(E:XK),bh k A->x8 P w K mg base A outer s H->BindsTo s fd args (ps.zip us)->Vals vs us->sp vs H Q E ->
  codeAny (model P w) A (.call (.ref f) args) (CR CX outer P w H s Q E) s
theorem x8.make{K:qaf}{mg:qae}{outer:List Env}{s:Shared}{H:Hp}(e:x8 P w K mg base A outer s H)(C:Addr)(us:qag)(kw:List (Str×Value)) :
 x8 P w K mg base (A.under (.builtin "type.__call__" ⟨.ref C::us,kw⟩)) outer s H:=⟨by first|exact e.frames|(simpa[Around.under,Code.envs,Code.isFrame,pushEnvs] using e.frames),e.mod,e.bs,e.CU,e.j',e.Hu,e.b_,e.bare⟩
section
variable{X:Cx}{pins:qaa}{σ:St}{H:Hp}{s:Shared}
theorem Inv.Rx(I:Inv X pins σ H s):x8 X.prog X.w X.K X.mg X.base X.A X.stack s H :=
 ⟨I.ok.frames,I.ok.mod,I.bs,m7 I.ok.CU I.sz,I.stack,I.zC,I.b_,I.bare⟩
theorem Inv.after{Q:VK}(I:Inv X pins σ H s)(h:CE X.stack X.prog X.w H s Q u s'):EP X pins σ Q u s':=by obtain⟨v,H',os,bare,un,b_,r,q⟩:=h;obtain⟨hh,g,d,t,os'⟩:=s';obtain rfl:os'=s.os:=os;exact⟨v,H',I.call (h':=hh) (g':=g) (d':=d) (t':=t) (ch:=[]) un b_ bare (λb z=>absurd z (by simp)),r,q⟩
end
def Ry(sp:Sp)(sA:List V)(E:XK)(t:TA):TE:=λσ H Q=>t σ H λvs H1=>sp (vs++sA) H1 Q E
def Rz(C:Addr)(sp:Sp)(sA:List V)(E:XK)(t:TA):TE:=λσ H Q=>t σ H λvs H1=>∀x dx,H1 x=none->H1 dx=none->dx≠x ->
 sp (.ref x::(vs++sA)) (upd (upd H1 dx (.own x)) x (.ins C dx [])) (λv H2=>v=.aQ/\Q (.ref x) H2) E
def Binds(K:qaf)(fd:FuncData)(ps:qai)(ds:qag):Prop :=
 ∀(s:Shared)(us:qag),K.In s.heap->(us++ds).length=ps.length->BindsTo s fd ⟨us,[]⟩ (ps.zip (us++ds))
theorem Binds.all{K:qaf}{ps:qai}(h:∀us:qag,us.length=ps.length->bindArgs fd ⟨us,[]⟩=pure (ps.zip us)):Binds K fd ps []:=λs us _ hl=>by rw[CO] at hl ⊢;exact .of_eq (h us hl)
def Passes(CX:CW)(X:Cx)(E:XK):Prop:=∀(pins:qaa)(σ:St)(H:Hp)(s:Shared)(e:Value)(s':Shared),Inv X pins σ H s->CX X.stack H s E e s'->X.xe e s'
section
variable{X:Cx}{CX:CW}{k:Nat}{ps:qai}{sp:Sp}{sA:List V}{ds:qag}{E:XK}{m:Str}{pos:Pos}{es:qap}{ta:TE}{t:TA}
theorem Du{pins:qaa}{σ:St}{H:Hp}{s:Shared}{Q:VK}{us:qag}{vs:List V}(F:cn X.prog X.w X.K X.mg X.base CX k f fd ps sp)(hr:bh k X.A)(hb:Binds X.K fd ps ds)(hd:Vals sA ds)(hx:Passes CX X E)(I:Inv X pins σ H s)(r:Vals vs us)(h:sp (vs++sA) H Q E):wpAny (model X.prog X.w) X.A (call (.ref f) us) (EP X pins σ Q) X.xe s:=by
 have r2:Vals (vs++sA) (us++ds):=r.append hd;have hl:(us++ds).length=ps.length:=by rw[<- r2.length];exact F.len _ _ _ _ h
 refine wpAny_call (codeAny_mono (F.run X.A X.stack s H ⟨us,[]⟩ (us++ds) (vs++sA) Q E hr I.Rx (hb s us I.qV hl) r2 h) λr s' hq=>?_);cases r with
 |error e=>exact hx pins σ H s e s' I hq
 |ok fl=>
  cases fl with
  |ret u=>exact I.after hq
  |_=>exact False.elim hq
theorem i'(F:cn X.prog X.w X.K X.mg X.base CX k f fd ps sp)(hr:bh k X.A)(hg:Gl X x)(hm:X.mg x=some (.ref f))(hk:PySem.W.keepIn X.K (.ref f)=true)(hb:Binds X.K fd ps ds)(hd:Vals sA ds)(hx:Passes CX X E)(ha:PA X (e::es) t)(kf:gp x:=by decide)(he:starEach (e::es) X.env=(false,eval e X.env)::starEach es X.env:=by rfl)(gN:(backTo pos (starEach es X.env)).any (·.1)=false:=by rfl) :
  PE X (.Call (.Name x p) (e::es) [] pos) (Ry sp sA E t):=by
 intro pins s σ H Q I h;refine wpAny_Call_Name_kw (so I hg hm ?_ kf);refine PySem.W.callWith_K (h₀:=X.base) I.ok.mod.Q2 hk (bY (ha pos pins s σ H _ I h) λus s1 ⟨vs,H1,I1,r,q⟩=>⟨I1.qV,?_⟩) he gN;exact Du F hr hb hd hx I1 r q
structure Mk(K:qaf)(C f:Addr):Prop where
 makes:PySem.W.makesIn K C=true
 init:PySem.W.findIn K (.ref C) "__init__"=some (some (.ref f))
 fn:PySem.W.isFn K (.ref f)=true
 kp:PySem.W.keepIn K (.ref C)=true
theorem Dv{pins:qaa}{σ:St}{H:Hp}{s:Shared}{Q:VK}{us:qag}{vs:List V}(M:Mk X.K C f)(F:cn X.prog X.w X.K X.mg X.base CX k f fd ps sp)(hr:bh (k+1) X.A)(hb:Binds X.K fd ps ds)(hd:Vals sA ds)(hx:Passes CX X E)(I:Inv X pins σ H s)(r:Vals vs us)(h:∀x dx,H x=none->H dx=none->dx≠x->sp (.ref x::(vs++sA)) (upd (upd H dx (.own x)) x (.ins C dx [])) (λv H2=>v=.aQ/\Q (.ref x) H2) E) :
  wpAny (model X.prog X.w) X.A (call (.ref C) us) (EP X pins σ Q) X.xe s:=by
 have hq:=h (s.heap.objs.size+1) s.heap.objs.size (I.b_.fresh (G7 _)) (I.b_.fresh (cU _)) (j4 (C7 _));have I2:=Inv.made (C:=C) I;have r2:Vals (V.ref (s.heap.objs.size+1)::(vs++sA)) (Value.ref (s.heap.objs.size+1)::(us++ds)):=.cons rfl (r.append hd);have hl:(Value.ref (s.heap.objs.size+1)::us++ds).length=ps.length:=by have e:=r2.length;rw[F.len _ _ _ _ hq] at e;exact e.symm
 refine wpAny_call (Dt (f:=f) I.qV M.makes M.init (beq_iff_eq.mp M.fn) (codeAny_mono (F.run _ X.stack _ _ ⟨Value.ref (s.heap.objs.size+1)::us,[]⟩ (Value.ref (s.heap.objs.size+1)::(us++ds)) _ _ E (hr.make C us [])
  (I2.Rx.make C us []) (hb _ (Value.ref (s.heap.objs.size+1)::us) I2.qV hl) r2 hq) λr s' gS=>?_))
 cases r with
 |error e=>exact hx pins σ _ _ e s' I2 gS
 |ok fl=>
   cases fl with
   |ret u=>obtain⟨v,H',I3,rv,ev,q3⟩:=I2.after gS;subst ev;exact⟨rv,⟨V.ref (s.heap.objs.size+1),H',I3,rfl,q3⟩⟩
   |_=>exact False.elim gS
theorem sC(M:Mk X.K C f)(F:cn X.prog X.w X.K X.mg X.base CX k f fd ps sp)(hr:bh (k+1) X.A)(hg:Gl X x)(hm:X.mg x=some (.ref C))(hb:Binds X.K fd ps ds)(hd:Vals sA ds)(hx:Passes CX X E)(ha:PA X (e::es) t)(kf:gp x:=by decide)(he:starEach (e::es) X.env=(false,eval e X.env)::starEach es X.env:=by rfl)(gN:(backTo pos (starEach es X.env)).any (·.1)=false:=by rfl) :
  PE X (.Call (.Name x p) (e::es) [] pos) (Rz C sp sA E t):=by
 intro pins s σ H Q I h;refine wpAny_Call_Name_kw (so I hg hm ?_ kf);refine PySem.W.callWith_K (h₀:=X.base) I.ok.mod.Q2 M.kp (bY (ha pos pins s σ H _ I h) λus s1 ⟨vs,H1,I1,r,q⟩=>⟨I1.qV,?_⟩) he gN;exact Dv M F hr hb hd hx I1 r q
end
section
variable{X:Cx}{CX:CW}{k:Nat}{ps ks:qai}{sp:Sp}{E:XK}{m:Str}{pos WH:Pos}{es:qap}{kws:List Keyword}{te ta:TE}{t tk:TA}{nm:Option Str}
variable{g:qag->qag->qag}{gV:List V->List V->List V}
end
structure aA(N P:qai)(sc:Scope):Prop where
 kind:sc.kind=.function
 co:sc.isCoroutine=false
 gen:sc.isGenerator=false
 nd:N.Nodup
 pre:N.take P.length=P
 par:∀x∈P,sc.names.lookup x=some .local\/sc.names.lookup x=some .cell
 M7:∀y∈sc.names,y.2≠.free
theorem gO{N P:qai}(a:sc.kind=.function:=by rfl)(b:sc.isCoroutine=false:=by rfl)(c:sc.isGenerator=false:=by rfl)(d:N.Nodup:=by decide +kernel)(e:N.take P.length=P:=by rfl)(f:∀x∈P,sc.names.lookup x=some .local\/sc.names.lookup x=some .cell:=by decide +kernel)(g:∀y∈sc.names,y.2≠.free:=by decide +kernel):aA N P sc:=⟨a,b,c,d,e,f,g⟩
theorem qY{kindOf:Str->Option NameKind}{x:Str}:∀{binds:List (Str×Value)}{m:qae},(∀v,(x,v)∉binds)->bindL kindOf binds m x=m x
 |[],_,_=>rfl
 | (n,v)::r,m,h=>by
  unfold bindL;rw[qY λw hw=>h w (d_ _ hw)];split;have:x≠n:=by rintro rfl;exact h v cS
  simp[this];rfl
theorem qZ{kindOf:Str->Option NameKind}{x:Str}:∀{binds:List (Str×Value)}{m:qae},(∀v,(x,v)∉binds)->bindC kindOf binds m x=m x
 |[],_,_=>rfl
 | (n,v)::r,m,h=>by
  unfold bindC;rw[qZ λw hw=>h w (d_ _ hw)];split;rfl;have:x≠n:=by rintro rfl;exact h v cS
  simp[this]
theorem q_{kindOf:Str->Option NameKind}{x:Str}{v:Value}:∀{P:qai}{vs:qag}{i:Nat}{m:qae},P.Nodup->P[i]?=some x->vs[i]?=some v->kindOf x=some .local ->
  bindL kindOf (P.zip vs) m x=some v
 |[],_,_,_,_,h,_,_=>by simp at h
 |_::_,[],_,_,_,_,h,_=>by simp at h
 |p::P,w::vs,0,m,nd,h1,h2,hk=>by simp at h1 h2;subst h1;subst h2;show bindL kindOf ((p,w)::P.zip vs) m p=_;unfold bindL;rw[qY λv hv=>(jh.mp nd).1 (List.of_mem_zip hv).1,if_pos hk];simp
 |p::P,w::vs,i+1,m,nd,h1,h2,hk=>by show bindL kindOf ((p,w)::P.zip vs) m x=_;unfold bindL;exact q_ (i:=i) (jh.mp nd).2 (by simpa using h1) (by simpa using h2) hk
theorem rf{kindOf:Str->Option NameKind}{x:Str}{v:Value}:∀{P:qai}{vs:qag}{i:Nat}{m:qae},P.Nodup->P[i]?=some x->vs[i]?=some v->kindOf x≠some .local ->
  bindC kindOf (P.zip vs) m x=some v
 |[],_,_,_,_,h,_,_=>by simp at h
 |_::_,[],_,_,_,_,h,_=>by simp at h
 |p::P,w::vs,0,m,nd,h1,h2,hk=>by simp at h1 h2;subst h1;subst h2;show bindC kindOf ((p,w)::P.zip vs) m p=_;unfold bindC;rw[qZ λv hv=>(jh.mp nd).1 (List.of_mem_zip hv).1,if_neg hk];simp
 |p::P,w::vs,i+1,m,nd,h1,h2,hk=>by show bindC kindOf ((p,w)::P.zip vs) m x=_;unfold bindC;exact rf (i:=i) (jh.mp nd).2 (by simpa using h1) (by simpa using h2) hk
noncomputable def start(N:qai)(vs:List V):St:=vs.map some++List.replicate (N.length-vs.length) none
noncomputable def eR(CX:CW)(P:Program)(w:World)(K:qaf)(mg:qae)(base:Heap)(N:qai)(qual:Str)(scope:Scope)(f:Addr)(cd:Value)(A:Around)(outer:List Env)(s:Shared)(H:Hp)(E:XK):Cx where
 prog:=P
 w:=w
 K:=K
 mg:=mg
 base:=base
 A:=A.deeper (envOfC qual scope s.heap.objs.size f cd)
 N:=N
 s₀:=s
 H₀:=H
 env:=envOfC qual scope s.heap.objs.size f cd
 outer:=outer
 stack:=envOfC qual scope s.heap.objs.size f cd::outer
 ex:=[]
 calm:=true
 fn:=λ_=>true
 pn:=[]
 xe:=λe s'=>wpAny (model P w) (A.deeper (envOfC qual scope s.heap.objs.size f cd)) (leaving (envOfC qual scope s.heap.objs.size f cd) e) (λ_ RA=>CX outer H s E e RA) (λe' RA=>CX outer H s E e' RA) s'
theorem uV(h:sc.names.lookup x=some .cell):∃c,(cellsFrom n sc.names []).lookup x=some c:=by have q:=PySem.W.cellsFrom_some sc.names n [] (.inl h);exact Option.isSome_iff_exists.mp q
theorem Bh{CX:CW}{K:qaf}{mg:qae}{N ps:qai}{scope:Scope}{cd:Value}{outer:List Env}{s s1:Shared}{H:Hp}{E:XK}{us:qag}{vs:List V}(S:aA N ps scope)(hd:A.handled=none)(e0:x8 P w K mg base A outer s H)(hl:vs.length=ps.length)(r:Vals vs us)(x:InCallC s s.heap.objs.size (bindL (envOfC qual scope s.heap.objs.size f cd).kindOf (ps.zip us) λ_=>none) (cellsFrom (s.heap.objs.size+1) scope.names []) (bindC (envOfC qual scope s.heap.objs.size f cd).kindOf (ps.zip us) λ_=>none) s1) :
  Inv (eR CX P w K mg base N qual scope f cd A outer s H E) [] (start N vs) H s1:=by
 have gN:ps.length<=N.length:=by have:=congrArg List.length S.pre;rw[Mn] at this;omega
 obtain⟨h1,tk,rfl,hk⟩:=x.done;have RB:∀b:Addr,b∉(eR CX P w K mg base N qual scope f cd A outer s H E).ex:=λb z=>absurd (show b∈([]:qah) from z) (by simp);refine⟨⟨e0.mod,S.kind,rfl,rfl,cU _,λy z c h1 h2=>?_,λy hy=>?_,λy c _ h=>?_,λ_=>hd,Around.frames_deeper e0.frames,.inr ⟨rfl,rfl⟩,λb z=>absurd z (RB b),e0.bs,e0.CU,λb _ _=>RB b,λb z=>absurd z (RB b),e0.j',e0.Hu⟩,
  rfl,e0.bare,Un.kept hk,⟨_,x.toInCall.ns,λi y v h1 h2 h3=>?_⟩,λy c h=>⟨_,x.cell y c h⟩,e0.b_.fresh (cU _),λy c h=>?_,λp hp=>absurd (show p∈([]:qaa) from hp) (by simp),e0.b_.kept hk,?_⟩
 exact name_of_addr x.apart (K0 h1) (K0 h2);have hy:scope.names.lookup y=some .cell\/scope.names.lookup y=some .free:=hy;obtain hy|hy:=hy
 exact uV hy;exact absurd rfl (S.M7 _ (K0 hy));exact Nat.le_of_lt (x.above y c (K0 h));have hi:i<vs.length:=by unfold start at h2;by_cases hi:i<vs.length;exact hi;rw[uI (by simpa using hi)] at h2;rw[zy] at h2;split at h2<;>cases h2
 have ha:vs[i]?=some v:=by
  unfold start at h2;rw[qg (by simpa using hi),ij] at h2;cases e:vs[i]? with
  |none=>rw[e] at h2;cases h2
  |some a=>rw[e] at h2;cases h2;rfl
 obtain⟨u,hu,rv⟩:=r.get ha;have hp:ps[i]?=some y:=by rw[<- S.pre,List.getElem?_take_of_lt (by omega)];exact h1
 have YX:ps.Nodup:=by rw[<- S.pre];exact S.nd.sublist (List.take_sublist _ _)
 refine⟨u,rv,?_⟩;rcases S.par y (fR hp) with k|k
 exact .inl ⟨k,q_ YX hp hu k⟩;obtain⟨c,e⟩:=uV (n:=s.heap.objs.size+1) k;refine .inr ⟨.inl k,c,e,?_⟩;have q:=x.cell y c e;rw[rf YX hp hu (by show scope.names.lookup y≠_;rw[k];decide)] at q;exact q;exact e0.b_.fresh (Nat.le_of_lt (x.above y c (K0 h)));unfold start;show _=N.length;rw[k7,cW,KY];omega
theorem Lb{CX:CW}{K:qaf}{mg:qae}{k:Nat}{name:Str}{params:Arguments}{body:qaq}{scope:Scope}{dV kV doc pm bq ct oc:Value}{an od:qar}{Bi:Array (Option Value)}{N ps:qai}{sp:Sp}(lk:K.lookup f=some ⟨oc,od,.func (PySem.W.fnOf name qual params body scope dV kV doc pm an bq ct),Bi⟩)(fH:PySem.W.codeIn K bq qual=true)(S:aA N ps scope)(len:∀vs H Q E,sp vs H Q E->vs.length=ps.length)(cx:∀(A:Around) (outer:List Env) (s:Shared) (H:Hp) (vs:List V) (Q:VK) (E:XK),bh k (A.deeper (envOfC qual scope s.heap.objs.size f bq))->sp vs H Q E ->
    ∃t,gw (eR CX P w K mg base N qual scope f bq A outer s H E) body t/\t {nx:=λ_ H'=>Q .aQ H',rt:=Q} (start N vs) H) :
  cn P w K mg base CX (k+1) f (PySem.W.fnOf name qual params body scope dV kV doc pm an bq ct) ps sp:=by
 refine⟨len,λA outer s H args us vs Q E hr e0 hb r G_=>?_⟩;have hl:=len _ _ _ _ G_;have KX:K.In s.heap:=e0.mod.Q2.keeps λb o e=>(e0.bs b o e).1;have lim:s.heap.NoLimit:=e0.mod.nolimit.keeps λb o e=>(e0.bs b o e).1;have RC:∀y∈ps.zip us,scope.names.lookup y.1=some .local\/(scope.names.lookup y.1=some .cell/\((cellsFrom (s.heap.objs.size+1) scope.names []).lookup y.1).isSome=true):=λ⟨n,v⟩ hy=>by
  rcases S.par n (List.of_mem_zip hy).1 with q|q
  exact .inl q;exact .inr ⟨q,PySem.W.cellsFrom_some _ _ _ (.inl q)⟩
 refine codeAny_call_function hr.depth (KX _ _ lk) rfl S.co S.gen rfl (PySem.W.codeRec_of KX fH) (hb _ _ _ _ ?_);refine wpAny_newFunctionEnv_cells S.kind RC λenv he s1 x=>?_;subst he;refine⟨lim.keeps x.toInCall.keep,codeAny_func ?_⟩;obtain⟨t,ht,hq⟩:=cx A outer s H vs Q E (hr.deeper _) G_;have I:Inv (eR CX P w K mg base N qual scope f bq A outer s H E) [] (start N vs) H s1:=Bh S hr.hd e0 hl r x;refine wpAny_mono (ht [] s1 (start N vs) H _ I hq) (λfl s' hs=>?_) λe s' hs=>hs;have fin:∀{σ':St}{H':Hp}{v:V}{u:Value},Inv (eR CX P w K mg base N qual scope f bq A outer s H E) [] σ' H' s'->RelV v u->Q v H'->CE outer P w H s Q u s' :=
  λ{σ' H' v u} J rv q=>⟨v,H',J.os,J.bare,J.base,J.b_,rv,q⟩
 cases fl with
 |ret u=>obtain⟨v,σ',H',J,rv,q⟩:=hs;exact fin J rv q
 |next=>obtain⟨σ',H',J,q⟩:=hs;exact fin (v:=V.aQ) (u:=Value.none) J rfl q
 |brk=>obtain⟨_,_,_,q⟩:=hs;exact False.elim q
 |cont=>obtain⟨_,_,_,q⟩:=hs;exact False.elim q
section
variable{X:Cx}{pos:Pos}{es:qap}{t:TA}{id T:String}{r:List V->Hp->VK->Prop}
def YY(r:List V->Hp->VK->Prop)(t:TA):TE:=λσ H Q=>t σ H λvs H1=>r vs H1 Q
theorem n_(hc:dF X (.builtin id) r)(hg:Gl X x)(hm:X.mg x=none)(hv:bootBuiltins x=some (.builtin id))(ha:PA X (e::es) t)(hn:x≠"__name__":=by decide)(kf:gp x:=by decide)(he:starEach (e::es) X.env=(false,eval e X.env)::starEach es X.env:=by rfl)(gN:(backTo pos (starEach es X.env)).any (·.1)=false:=by rfl):PE X (.Call (.Name x p) (e::es) [] pos) (YY r t):=by intro pins s σ H Q I h;refine wpAny_Call_Name_kw (ix I hg hm hv ?_ hn kf);exact PyProof.Rows.callWith_builtin1 (bY (ha pos pins s σ H _ I h) λus s1 ⟨vs,H1,I1,r1,q1⟩=>hc pins s1 σ H1 vs us Q I1 r1 q1) he gN
theorem Bj(hc:dF X (.type T) r)(hg:Gl X x)(hm:X.mg x=none)(hv:bootBuiltins x=some (.type T))(ha:PA X (e::es) t)(hn:x≠"__name__":=by decide)(kf:gp x:=by decide)(he:starEach (e::es) X.env=(false,eval e X.env)::starEach es X.env:=by rfl)(gN:(backTo pos (starEach es X.env)).any (·.1)=false:=by rfl):PE X (.Call (.Name x p) (e::es) [] pos) (YY r t):=by intro pins s σ H Q I h;refine wpAny_Call_Name_kw (ix I hg hm hv ?_ hn kf);exact Qf (bY (ha pos pins s σ H _ I h) λus s1 ⟨vs,H1,I1,r1,q1⟩=>hc pins s1 σ H1 vs us Q I1 r1 q1) he gN
end
end L2
variable{X:L2.Cx}{K:qaf}{H H':L2.Hp}{σ:L2.St}{v:L2.V}{pins:qaa}{ps ys:qai}{E Q:qad}{mg:qae}{es elts:qap}{fp Ox:qah}{ta te:L2.TE}{us:qag}{sp:L2.Sp}{is:qao}{ks:List L2.Key}{aY:List (L2.Key×L2.V)}
abbrev qac:=List (PySem.Str×L2.V)
abbrev qak:=List L2.V
namespace HT
open PySem PyProof.Rows
section
open PySem.SeqAt
open PySem.AutoSeq1 (wpAny_loadPart')
open PySem.MeetsSeq PySem.MeetsSeq2 PySem.MeetsSeq3
end
section
variable{s:Shared}
theorem HL{t b:Addr}{vs ws:qag}(ht:IsTup s.heap t vs.toArray)(hb:IsTup s.heap b ws.toArray)(hv:vs≠[])(h1:ws=[]->Q (.ref t) s)(h2:ws≠[]->Q (.ref s.heap.objs.size) {s with heap:=s.heap.push {cls:=.type "tuple",data:=.seq (vs++ws).toArray} })(hsz:vs.length+ws.length<=sizeLine):wpAny (model prog w) A (binaryOp .Add (.ref t) (.ref b)) Q E s:=by
 obtain⟨⟨cls,dd,data,sl⟩,ho,hc,n,hd⟩:=id ht;obtain⟨⟨RD,Qp,data2,Qq⟩,G',CY,n2,hd2⟩:=id hb;simp only at hc hd CY hd2;subst hc hd CY hd2;have e:vs.toArray++ws.toArray=(vs++ws).toArray:=by simp
 by_cases hw:ws=[];exact concat_meets ⟨_,ho,rfl⟩ ⟨_,G',rfl⟩ noFill_tuple_add seq_tuple_add V5 V2 (V1 _ _)
  (tuple_addW1 t b vs.toArray ws.toArray n n2 dd Qp sl Qq (by simpa using hv) (by simp[hw])) ⟨ho,G',h1 hw⟩
 refine concat_meets ⟨_,ho,rfl⟩ ⟨_,G',rfl⟩ noFill_tuple_add seq_tuple_add V5 V2 (V1 _ _)
  (tuple_addW2 t b vs.toArray ws.toArray n n2 dd Qp sl Qq (by simpa using hv) (by simpa using hw) (by rw[iq,iq];exact hsz)) ⟨ho,G',?_⟩
 rw[e];exact h2 hw
noncomputable def dB(n d:Nat):Option Int->Nat
 |none=>d
 |some v=>if v<0 then (v+(n:Int)).toNat else min v.toNat n
theorem Dw(n d:Nat):dB n d none=d:=rfl
theorem HM(n d k:Nat):dB n d (some (k:Int))=min k n:=by show (if (k:Int)<0 then ((k:Int)+(n:Int)).toNat else min (k:Int).toNat n)=min k n;rw[if_neg (by omega),A2]
theorem M8(n d:Nat)(hd:d<=n)(o:Option Int):dB n d o<=n:=by
 cases o with
 |none=>exact hd
 |some v=>show (if v<0 then (v+(n:Int)).toNat else min v.toNat n)<=n;by_cases hv:v<0;rw[if_pos hv];omega;rw[if_neg hv];exact Nat.min_le_right _ _
theorem zH(v:Int)(n d:Nat):(if v<0 then max (v+(n:Int)) 0 else min v (n:Int))=((dB n d (some v):Nat):Int):=by show (if v<0 then max (v+(n:Int)) 0 else min v (n:Int))=(((if v<0 then (v+(n:Int)).toNat else min v.toNat n):Nat):Int);by_cases hv:v<0;simp only[if_pos hv];omega;simp only[if_neg hv];omega
theorem x9(lo hi:Option Int)(n:Nat):Builtin.Slice.sliceAdjust lo hi 1 (n:Int)=(((dB n 0 lo:Nat):Int),((dB n n hi:Nat):Int)):=by
 have h1:¬ ((1:Int)<0):=by omega
 unfold Builtin.Slice.sliceAdjust;simp only[h1,if_false];refine Prod.ext ?_ ?_;cases lo with
 |none=>rfl
 |some v=>exact zH v n 0
 cases hi with
 |none=>rfl
 |some v=>exact zH v n n
theorem x_(i j:Nat):Builtin.Slice.slicePlaces (i:Int) (j:Int) 1=j-i:=by
 unfold Builtin.Slice.slicePlaces;have h1:(1:Int) > 0:=by omega
 simp only[h1,if_true,Int.ediv_one];split<;>omega
theorem og{v:Value}{o:Option Int}{Q:Option Int->Shared->Prop}(p:IsPart v o)(h:Q o s):wpAny (model prog w) A (Builtin.Slice.slicePartIndex v) Q E s:=by
 cases p with
 |none=>exact slicePart_none h
 |int i t=>exact slicePart_int h
theorem ll{sl:Addr}{vl vu:Value}{lo hi:Option Int}{Q:Int×Int×Nat->Shared->Prop}(hs:s.heap.IsSliceOf sl vl vu .none)(pl:IsPart vl lo)(pu:IsPart vu hi)(h:Q (((dB n 0 lo:Nat):Int),1,dB n n hi-dB n 0 lo) s):wpAny (model prog w) A (Builtin.Slice.sliceApplied (.ref sl) (pure (n:Int))) Q E s:=by obtain⟨os,RE,YZ,U3⟩:=id hs;unfold Builtin.Slice.sliceApplied Builtin.Slice.sliceFields;refine wpAny_bind (wpAny_bind (wpAny_field RE U3 (x:=vl) rfl (wpAny_bind (wpAny_field RE U3 (x:=vu) rfl (wpAny_bind (wpAny_field RE U3 (x:=.none) rfl (wpAny_pure ?_)))))));refine wpAny_bind (slicePart_none ?_);show wpAny _ _ (if ((1:Int)==0)=true then _ else _) _ _ s;rw[if_neg (by decide)];refine wpAny_bind (og pl (wpAny_bind (og pu (wpAny_bind (wpAny_pure ?_)))));show wpAny _ _ (match Builtin.Slice.sliceAdjust lo hi 1 (n:Int) with|(lo,hi)=>pure (lo,(1:Int),Builtin.Slice.slicePlaces lo hi 1)) _ _ s;rw[x9 lo hi n];show wpAny _ _ (pure (((dB n 0 lo:Nat):Int),(1:Int),Builtin.Slice.slicePlaces ((dB n 0 lo:Nat):Int) ((dB n n hi:Nat):Int) 1)) _ _ s;rw[x_];exact wpAny_pure h
theorem Dx(xs:Array Value)(i k:Nat):((List.range k).filterMap λ(m:Nat)=>xs[((i:Int)+(m:Int) * 1).toNat]?).toArray=((xs.toList.drop i).take k).toArray:=by
 have e:(λ(m:Nat)=>xs[((i:Int)+(m:Int) * 1).toNat]?)=λm=>xs[i+m]?:=by
  funext m;have:((i:Int)+(m:Int) * 1).toNat=i+m:=by omega
  rw[this]
 rw[e];have:=pick_run xs i k;rw[List.filterMap_map] at this;have e2:((λx=>xs[x]?) ∘ λx=>i+x)=λm=>xs[i+m]?:=rfl;rw[e2] at this;rw[this]
theorem kg{t sl:Addr}{items:Array Value}{vl vu:Value}{lo hi:Option Int}(ht:IsTup s.heap t items)(hs:s.heap.IsSliceOf sl vl vu .none)(pl:IsPart vl lo)(pu:IsPart vu hi)(hw:¬ (dB items.size 0 lo=0/\dB items.size items.size hi=items.size))(h:Q (.ref s.heap.objs.size) {s with heap:=s.heap.push {cls:=.type "tuple",data:=.seq ((items.toList.drop (dB items.size 0 lo)).take (dB items.size items.size hi-dB items.size 0 lo)).toArray} })(hsz:items.size<=sizeLine):wpAny (model prog w) A (getItem (.ref t) (.ref sl)) Q E s:=by
 have zI:sizeOk (.seq ((items.toList.drop (dB items.size 0 lo)).take (dB items.size items.size hi-dB items.size 0 lo)).toArray):=by show ((items.toList.drop (dB items.size 0 lo)).take (dB items.size items.size hi-dB items.size 0 lo)).toArray.size<=sizeLine;rw[iq,Mn,List.length_drop,Hn];omega
 have hj:dB items.size items.size hi<=items.size:=M8 _ _ (cU _) hi;obtain⟨os,RE,YZ,U3⟩:=id hs;have hTs:s.TypeIs (.ref sl) "slice":=⟨os,RE,YZ⟩;unfold getItem
 try with_reducible refine wpAny_holding ?_
 first|refine wpAny_bind (wpAny_pure ?_)|skip
 refine wpAny_bind (wpAny_sequenceKey ht.typeIs (by decide) ?_);refine wpAny_bind (wpAny_callSpecial?_slot (name:=Str.ofString "__getitem__") ht.typeIs VY
  (wpAny_call_entry VY ht.typeIs entry_tuple_getitem ?_ (args_tuple_getitem _ _)))
 show wpAny _ _ (Builtin.Tuple.tupleItemsOf (.ref t) >>= _) _ _ s;refine wpAny_bind (tupleItemsOf_ ht ?_);refine wpAny_bind (wpAny_typeOf hTs ?_);rw[if_pos (by decide)];refine wpAny_bind (ll hs pl pu ?_);have hno:¬ ((((dB items.size 0 lo:Nat):Int)==0 && (1:Int)==1 && (dB items.size items.size hi-dB items.size 0 lo)==items.size)=true):=by intro q;rw[jm,jm] at q;have q1:((dB items.size 0 lo:Nat):Int)=0:=eq_of_beq q.1.1;have q2:dB items.size items.size hi-dB items.size 0 lo=items.size:=eq_of_beq q.2;exact hw ⟨by omega,by omega⟩
 show wpAny _ _ (if (((dB items.size 0 lo:Nat):Int)==0 && (1:Int)==1 && (dB items.size items.size hi-dB items.size 0 lo)==items.size)=true then _ else _) _ _ s;rw[if_neg hno,Dx]
 first
  |exact wpAny_bind (m:=Builtin.Tuple.tupleExact _) (wpAny_newObj_type (wpAny_pure ⟨_,rfl,wpAny_pure h⟩) zI)
  |exact wpAny_bind (m:=Builtin.Tuple.tupleExact _) (wpAny_newObj_type (wpAny_bind (wpAny_pure (wpAny_pure ⟨_,rfl,wpAny_pure h⟩))) zI)
  |exact wpAny_bind (wpAny_bind (m:=Builtin.Tuple.tupleExact _) (wpAny_newObj_type (wpAny_pure (wpAny_pure ⟨_,rfl,wpAny_pure h⟩)) zI))
  |exact wpAny_bind (wpAny_bind (m:=Builtin.Tuple.tupleExact _) (wpAny_newObj_type (wpAny_pure ⟨_,rfl,wpAny_pure h⟩) zI))
end
end HT
variable{vs xs:qak}
namespace L2
open PySem PySem.Spec PyProof.Rows
abbrev TO:=St->Hp->(Option Int->Hp->Prop)->Prop
def PO(X:Cx)(e:Option Expr)(t:TO):Prop :=
 ∀(pins:qaa)(s:Shared)(σ:St)(H:Hp)(Q:Option Int->Hp->Prop),Inv X pins σ H s->t σ H Q ->
  wpAny (model X.prog X.w) X.A (evalPart e X.env) (λu s'=>∃o H',Inv X pins σ H' s'/\IsPart u o/\Q o H') X.xe s
def HN:TO:=λ_ H Q=>Q none H
def RF(t:TE):TO:=λσ H Q=>t σ H λx H1=>∃i,x=.int i/\Q (some i) H1
section
variable{lo hi:Option Expr}{tl th:TO}{pos p2:Pos}
theorem HP:PO X none HN:=by intro pins s σ H Q I h;rw[evalPart_none];exact wpAny_pure ⟨none,H,I,.none,h⟩
theorem HQ(h:PE X e te):PO X (some e) (RF te):=by intro pins s σ H Q I hw;rw[evalPart_some];refine bY (h pins s σ H _ I hw) λu s1 ⟨x,H1,I1,r1,q1⟩=>?_;obtain⟨i,rfl,q⟩:=q1;obtain⟨t,rfl⟩:=r1;exact⟨some i,H1,I1,.int i t,q⟩
def Dy(X:Cx)(r:V->Option Int->Option Int->Hp->VK->Prop):Prop :=
 ∀(pins:qaa)(s:Shared)(σ:St)(H:Hp)(x:V)(v vl vu:Value)(lo hi:Option Int)(sl:Addr)(Q:VK),Inv X pins σ H s->RelV x v->s.heap.IsSliceOf sl vl vu .none->IsPart vl lo->IsPart vu hi->r x lo hi H Q ->
  ∃T id,typeLookup (.type T) "__getitem__"=pure (some (.builtin id))/\s.TypeIs v T/\wpAny (model X.prog X.w) X.A (getItem v (.ref sl)) (EP X pins σ Q) X.xe s
theorem Dy.or{r r':V->Option Int->Option Int->Hp->VK->Prop}(h:Dy X r)(h':Dy X r'):Dy X (λx lo hi H Q=>r x lo hi H Q\/r' x lo hi H Q):=by
 intro pins s σ H x v vl vu lo hi sl Q I rx hs pl pu q;obtain q|q:=q
 exact h pins s σ H x v vl vu lo hi sl Q I rx hs pl pu q;exact h' pins s σ H x v vl vu lo hi sl Q I rx hs pl pu q
def tSl(r:V->Option Int->Option Int->Hp->VK->Prop)(te:TE)(tl th:TO):TE:=λσ H Q=>te σ H λx H1=>tl σ H1 λl H2=>th σ H2 λu H3=>r x l u H3 Q
theorem Dz{r:V->Option Int->Option Int->Hp->VK->Prop}(hr:Dy X r)(he:PE X e te)(hl:PO X lo tl)(hu:PO X hi th):PE X (.Subscript e (.Slice lo hi none p2) pos) (tSl r te tl th):=by intro pins s σ H Q I h;refine Subscript_ (bY (he pins s σ H _ I h) λv s1 ⟨x,H1,I1,r1,q1⟩=>?_);refine wpAny_Slice (bY (hl pins s1 σ H1 _ I1 q1) λvl s2 ⟨l,H2,I2,pl,q2⟩=>bY (hu pins s2 σ H2 _ I2 q2) λvu s3 ⟨u,H3,I3,pu,q3⟩=>?_);rw[evalPart_none];refine wpAny_pure ?_;have I4:Inv X pins σ H3 {s3 with heap:=s3.heap.push {cls:=.type "slice",data:=.fields #[vl,vu,.none]} }:=I3.kept (t':=s3.toks) λb ob q=>fE _ q;obtain⟨T,id,hT,ht,hg⟩:=hr pins {s3 with heap:=s3.heap.push {cls:=.type "slice",data:=.fields #[vl,vu,.none]} } σ H3 x v vl vu l u s3.heap.objs.size Q I4 r1 (Heap.IsSliceOf.new ..) pl pu q3;show wpAny (model X.prog X.w) X.A (subscriptTail e (.Slice lo hi none p2) v (.ref s3.heap.objs.size)) (EP X pins σ Q) X.xe {s3 with heap:=s3.heap.push {cls:=.type "slice",data:=.fields #[vl,vu,.none]} };exact tail_any (ops:=[.ref s3.heap.objs.size,v]) ht hT hg (by with_unfolding_all rfl)
noncomputable def uW(xs:qak)(lo hi:Option Int):qak:=(xs.drop (HT.dB xs.length 0 lo)).take (HT.dB xs.length xs.length hi-HT.dB xs.length 0 lo)
theorem mC(xs:qak)(lo hi:Option Int):(uW xs lo hi).length<=xs.length:=by unfold uW;rw[Mn,List.length_drop];omega
def RG(K:qaf):V->Option Int->Option Int->Hp->VK->Prop:=λx lo hi H Q=>∃a xs,x=.ref a/\dD K H a xs /\
 ¬ (HT.dB xs.length 0 lo=0/\HT.dB xs.length xs.length hi=xs.length)/\∀p,H p=none->Q (.ref p) (upd H p (.tup (uW xs lo hi)))
theorem M9:Dy X (RG X.K):=by
 intro pins s σ H x v vl vu lo hi sl Q I rx hs pl pu h;obtain⟨a,xs,rfl,hx,hw,q⟩:=h;cases rx;obtain⟨aM,r,ht,hz⟩:=I.tuple hx;have hlen:aM.toArray.size=xs.length:=by rw[iq];exact r.length.symm
 refine⟨"tuple",_,VY.lookup,ht.typeIs,?_⟩;refine HT.kg ht hs pl pu (by rw[hlen];exact hw) ?_ (by rw[hlen];exact hz);rw[hlen];refine⟨.ref s.heap.objs.size,_,I.laid (t':=s.toks) (o:=.tup (uW xs lo hi)) (λb ob q=>fE _ q) (cU _) ?_,rfl,q _ (I.b_.fresh (cU _))⟩;exact⟨m7 (mC xs lo hi) hz,_,(r.drop (HT.dB xs.length 0 lo)).take (HT.dB xs.length xs.length hi-HT.dB xs.length 0 lo),IsTup.new _ _⟩
theorem Vals.nG(r:Vals xs us):us=[]↔xs=[]:=by
 cases r with
 |_=>simp
end
noncomputable def uD(n:Nat)(i:Int):Option Nat:=if 0<=i then (if i<n then some i.toNat else none) else if -(n:Int)<=i then some (i+n).toNat else none
noncomputable def jB{α:Type}(xs:List α)(i:Int):Option α:=(uD xs.length i).bind λj=>xs[j]?
theorem zJ{i:Int}(h:uD n i=some j):seqIndex? i n=some j/\j<n/\-(n:Int)<=i/\i<n:=by unfold uD at h;by_cases h0:0<=i;rw[if_pos h0] at h;by_cases h1:i<n;rw[if_pos h1] at h;have e:i.toNat=j:=Option.some.inj h;exact⟨by rw[seqIndex_of h0 h1,e],by omega,by omega,h1⟩;rw[if_neg h1] at h;cases h;rw[if_neg h0] at h;by_cases h1 : -(n:Int)<=i;rw[if_pos h1] at h;have e:(i+n).toNat=j:=Option.some.inj h;exact⟨by rw[seqIndex_neg (by omega) h1,e],by omega,h1,by omega⟩;rw[if_neg h1] at h;cases h
theorem sD{xs:List α}{i:Int}{v:α}(h:jB xs i=some v):∃j,seqIndex? i xs.length=some j/\xs[j]?=some v/\j<xs.length/\-(xs.length:Int)<=i/\i<xs.length:=by
 unfold jB at h;cases e:uD xs.length i with
 |none=>rw[e] at h;cases h
 |some j=>rw[e] at h;obtain⟨h1,h2,h3,h4⟩:=zJ e;exact⟨j,h1,h,h2,h3,h4⟩
theorem ak{xs:List α}{v:α}(h:xs[j]?=some v):jB xs (j:Int)=some v:=by
 have hj:j<xs.length:=(fG.mp h).1;have e:uD xs.length (j:Int)=some j:=by unfold uD;rw[if_pos (by omega),if_pos (by omega)];simp
 unfold jB;rw[e];exact h
theorem iz(xs:List α)(v:α):jB (xs++[v]) (-1)=some v:=by
 have hl:(xs++[v]).length=xs.length+1:=by simp
 have e:uD (xs++[v]).length (-1)=some xs.length:=by
  unfold uD;rw[hl,if_neg (by decide),if_pos (by omega)]
  congr 1
  omega
 unfold jB;rw[e];show (xs++[v])[xs.length]?=some v;simp
def nH(b:Expr):Prop:=∀o i,subscripted b false o i=operate [o,i] (getItem o i)
def HR(X:Cx)(r:R2):Prop :=
 ∀(value slice:Expr)(pins:qaa)(s:Shared)(σ:St)(H:Hp)(x y:V)(v u:Value)(Q:VK),Inv X pins σ H s->RelV x v->RelV y u->r x y H Q ->
  subscripted slice false v u=operate [v,u] (getItem v u)->wpAny (model X.prog X.w) X.A (subscriptTail value slice v u) (EP X pins σ Q) X.xe s
def HS(X:Cx)(id:String)(r:V->qak->Hp->VK->Prop):Prop :=
 ∀(pins:qaa)(s:Shared)(σ:St)(H:Hp)(x:V)(xs:qak)(v:Value)(us:qag)(Q:VK),Inv X pins σ H s->RelV x v->Vals xs us->r x xs H Q ->
  wpAny (model X.prog X.w) X.A (call (.builtin id) (v::us)) (EP X pins σ Q) X.xe s
section
variable{a:Expr}{tb:TE}{pos:Pos}
theorem HR.or{r r':R2}(h:HR X r)(h':HR X r'):HR X (λx y H Q=>r x y H Q\/r' x y H Q):=by
 intro value slice pins s σ H x y v u Q I rx ry q hs;obtain q|q:=q
 exact h value slice pins s σ H x y v u Q I rx ry q hs;exact h' value slice pins s σ H x y v u Q I rx ry q hs
theorem DA{r:R2}(hr:HR X r)(ha:PE X a ta)(hb:PE X b tb)(hs:nH b):PE X (.Subscript a b pos) (Rl r ta tb):=by intro pins s σ H Q I h;exact Subscript_ (MQ ha hb I h λv u s2 x y H2 I2 rx ry q=>hr a b pins s2 σ H2 x y v u Q I2 rx ry q (hs _ _))
noncomputable def RH(K:qaf):R2:=λx y H Q=>∃p xs i v,x=.ref p/\y=.int i/\eU K H p xs/\jB xs i=some v/\Q v H
noncomputable def RJ(K:qaf):R2:=λx y H Q=>∃p xs i v,x=.ref p/\y=.int i/\dD K H p xs/\jB xs i=some v/\Q v H
noncomputable def RK:R2:=λx y H Q=>∃z i c,x=.str z/\y=.int i/\z.length<=sizeLine/\jB z.cps.toList i=some c/\Q (.str ⟨#[c]⟩) H
theorem zK:HR X (RH X.K):=by
 intro value slice pins s σ H x y v u Q I rx ry h hs;obtain⟨p,xs,i,z,rfl,rfl,hq,he,q⟩:=h;cases rx;obtain⟨t,rfl⟩:=ry;obtain⟨aM,r,pl,hz⟩:=I.list hq;obtain⟨j,h1,h2,h3,h4,h5⟩:=sD he;obtain⟨w,ew,rw'⟩:=r.get h2;have hl:=r.length;have hn:=lh;have fin:EP X pins σ Q w s:=⟨z,H,I,rw',q⟩;by_cases h0:0<=i;have hj:i.toNat=j:=by rw[seqIndex_of h0 h5] at h1;exact Option.some.inj h1
 exact item_listR pl.isList h0 (by omega) (by rw[hj];simpa using ew) fin hs;have hj:(i+(aM.toArray.size:Int)).toNat=j:=by rw[seqIndex_neg (by omega) h4] at h1;rw[iq,<- hl];exact Option.some.inj h1
 exact subscriptTail_builtinR (x:=w) pl.isList.typeIs slot_list_getitem.lookup
  (wpAny_getItem_list_neg (Q:=λr s'=>r=w/\EP X pins σ Q r s') pl.isList (by omega) (by rw[iq]<;>omega) (by omega) (by rw[hj];simpa using ew) ⟨rfl,fin⟩) hs
theorem DB:HR X (RJ X.K):=by
 intro value slice pins s σ H x y v u Q I rx ry h hs;obtain⟨p,xs,i,z,rfl,rfl,hq,he,q⟩:=h;cases rx;obtain⟨t,rfl⟩:=ry;obtain⟨aM,r,pl,hz⟩:=I.tuple hq;obtain⟨j,h1,h2,h3,h4,h5⟩:=sD he;obtain⟨w,ew,rw'⟩:=r.get h2;have hl:=r.length;have hn:=lh;have fin:EP X pins σ Q w s:=⟨z,H,I,rw',q⟩;exact subscriptTail_builtinR (x:=w) pl.typeIs slot_tuple_getitem.lookup
  (getItem_tuple (j:=j) (Q:=λr s'=>r=w/\EP X pins σ Q r s') pl (by omega) (by omega) (by rw[iq,<- hl];exact h1) (by simpa using ew) ⟨rfl,fin⟩) hs
theorem M_:HR X RK:=by
 intro value slice pins s σ H x y v u Q I rx ry h hs;obtain⟨z,i,c,rfl,rfl,hz,he,q⟩:=h;obtain⟨t,rfl⟩:=rx;obtain⟨t',rfl⟩:=ry;obtain⟨j,h1,h2,h3,h4,h5⟩:=sD he;have hl:z.cps.toList.length=z.length:=by simp[Str.length]
 rw[hl] at h1 h4 h5;have hn:=lh;exact tail_any (typeIs_str s z t) slot_str_getitem.lookup (getItem_str (c:=c) (by have e1:decide (i < -(2 ^ 63:Int))=false:=decide_eq_false (by omega);have e2:decide (i ≥ 2 ^ 63)=false:=decide_eq_false (by omega);rw[e1,e2,Bool.or_false]) (by rw[h1];simpa using h2) ⟨.str ⟨#[c]⟩,H,I.tok _,⟨_,rfl⟩,q⟩) hs
noncomputable def Y0(K:qaf):R2:=λx y H Q=>RH K x y H Q\/RJ K x y H Q\/RK x y H Q
theorem M':HR X (Y0 X.K):=zK.or (DB.or M_)
theorem ya(aM:qag)(n j:Nat)(u:Value):Obj.mapSeq (·.setIfInBounds j u) {cls:=.type "list",data:=.seq aM.toArray n}={cls:=.type "list",data:=.seq (aM.set j u).toArray n}:=by simp[Obj.mapSeq]
theorem Inv.lst{s:Shared}{p:Addr}(I:Inv X pins σ H s)(h:H p=some (.lst xs)) :
  ∃(aM:qag)(n:Nat),Vals xs aM/\s.heap.get? p=some {cls:=.type "list",data:=.seq aM.toArray n}/\xs.length<=sizeLine:=by
 obtain⟨z,aM,n,r,e⟩:=I.b_ p _ h;exact⟨aM,n,r,e,z⟩
theorem Inv.Na{s:Shared}{p:Addr}{ys:qak}{aM its':qag}{n':Nat}{f:Obj->Obj}(I:Inv X pins σ H s)(h:H p=some (.lst xs))(ho:s.heap.get? p=some {cls:=.type "list",data:=.seq aM.toArray n})(hf:f {cls:=.type "list",data:=.seq aM.toArray n}={cls:=.type "list",data:=.seq its'.toArray n'})(r:Vals ys its')(hz:ys.length<=sizeLine)(t:Nat) :
  Inv X pins σ (upd H p (.lst ys)) {s with heap:=s.heap.update p f,toks:=t}:=by
 have e:(s.heap.update p f).get? p=some {cls:=.type "list",data:=.seq its'.toArray n'}:=by rw[Heap.get?_update_self f ho (by rw[hf]<;>rfl),hf]
 refine I.write (x:=p) (e:=p) (by rw[h];trivial) (.inl rfl) (λb u hb q=>(Heap.get?_update_other _ _ (Ne.symm hb)).trans q) ⟨_,e⟩ ?_;exact⟨hz,its',n',r,e⟩
def RL:V->V->V->Hp->(Hp->Prop)->Prop:=λo i v H Q=>∃p xs k j,o=.ref p/\i=.int k/\H p=some (.lst xs)/\uD xs.length k=some j/\Q (upd H p (.lst (xs.set j v)))
theorem set_list:Ra X RL:=by
 intro pins s σ H o i v ov iv u Q I ro ri rv h;obtain⟨p,xs,k,j,rfl,rfl,hp,hj,q⟩:=h;cases ro;obtain⟨t,rfl⟩:=ri;obtain⟨aM,n,r,ho,hz⟩:=I.lst hp;obtain⟨h1,h2,h3,h4⟩:=zJ hj;have hl:=r.length;have hn:=lh;have I':Inv X pins σ (upd H p (.lst (xs.set j v))) {s with heap:=s.heap.update p (Obj.mapSeq (·.setIfInBounds j u))} :=
  I.Na hp ho (ya aM n j u) (r.set rv j) (by rw[G2];exact hz) s.toks
 by_cases h0:0<=k;have hk:k.toNat=j:=by rw[seqIndex_of h0 h4] at h1;exact Option.some.inj h1
 exact PySem.W.ki_setAt ho h0 (by omega) (by rw[iq,<- hl];exact h4) (by rw[hk];exact⟨_,I',q⟩);have hk:(k+(aM.toArray.size:Int)).toNat=j:=by rw[seqIndex_neg (by omega) h3] at h1;rw[iq,<- hl];exact Option.some.inj h1
 exact PySem.W.ki_setBack ho (by omega) (by rw[iq,<- hl];exact h3) (by omega) (by rw[hk];exact⟨_,I',q⟩)
theorem sE(lo hi:Option Int)(n:Nat):(sliceBounds lo hi none n).1=((HT.dB n 0 lo:Nat):Int)/\(sliceBounds lo hi none n).2.1=((HT.dB n n hi:Nat):Int)/\(sliceBounds lo hi none n).2.2=1:=by
 refine⟨?_,?_,rfl⟩;cases lo with
 |none=>simp[sliceBounds,HT.dB]
 |some i=>simp only[sliceBounds,HT.dB,Option.getD_none,show (1:Int) > 0 by decide,if_true];by_cases h:i<0;simp only[h,if_true]<;>omega;simp only[h,if_false]<;>omega
 cases hi with
 |none=>simp[sliceBounds,HT.dB]
 |some i=>simp only[sliceBounds,HT.dB,Option.getD_none,show (1:Int) > 0 by decide,if_true];by_cases h:i<0;simp only[h,if_true]<;>omega;simp only[h,if_false]<;>omega
theorem qj(aM:qag)(lo hi:Option Int):slicePick aM.toArray lo hi none=((aM.drop (HT.dB aM.length 0 lo)).take (HT.dB aM.length aM.length hi-HT.dB aM.length 0 lo)).toArray:=by obtain⟨h1,h2,h3⟩:=sE lo hi aM.toArray.size;unfold slicePick;rw[h1,h2,h3];simp only[sliceRange_one,pick_run,iq]<;>rfl
def RM(K:qaf):V->Option Int->Option Int->Hp->VK->Prop:=λx lo hi H Q=>∃a xs,x=.ref a/\eU K H a xs/\∀p,H p=none->Q (.ref p) (upd H p (.lst (uW xs lo hi)))
theorem HU:Dy X (RM X.K):=by intro pins s σ H x v vl vu lo hi sl Q I rx hs pl pu h;obtain⟨a,xs,rfl,hx,q⟩:=h;cases rx;obtain⟨aM,r,ht,hz⟩:=I.list hx;have hlen:=r.length;refine⟨"list",_,slot_list_getitem.lookup,ht.isList.typeIs,?_⟩;refine wpAny_getItem_list_slice ht.isList hs pl pu .none (by simp) ?_ (by rw[iq]<;>omega);rw[qj,<- hlen];refine⟨.ref s.heap.objs.size,_,I.laid (t':=s.toks) (o:=.lst (uW xs lo hi)) (λb ob q=>fE _ q) (cU _) ?_,rfl,q _ (I.b_.fresh (cU _))⟩;exact⟨m7 (mC xs lo hi) hz,_,0,(r.drop (HT.dB xs.length 0 lo)).take (HT.dB xs.length xs.length hi-HT.dB xs.length 0 lo),k6 _ rfl⟩
def iA:V->Bool
 |.aQ=>true
 |.bl _=>true
 |.int _=>true
 |.str _=>true
 |_=>false
noncomputable def Ha:V->V->Bool
 |.aQ,.aQ=>true
 |.bl a,.bl b=>a==b
 |.bl a,.int b=>(if a then 1 else 0)==b
 |.int a,.bl b=>a==(if b then 1 else 0)
 |.int a,.int b=>a==b
 |.str a,.str b=>a==b
 |_,_=>false
theorem Nb{s:Shared}{y x:V}{v:Value}(ry:RelV y u)(rx:RelV x v)(fy:iA y=true)(fx:iA x=true):SeqAt.EqAt A s u v (Ha y x):=by
 cases y with
 |aQ=>
  cases ry;cases x with
  |aQ=>cases rx;exact SeqAt.EqAt.same _
  |bl b=>cases rx;exact SeqAt.EqAt.none_bool b
  |int b=>obtain⟨t,rfl⟩:=rx;exact SeqAt.EqAt.none_int b t
  |str b=>obtain⟨t,rfl⟩:=rx;exact SeqAt.EqAt.none_str b t
  |_=>exact absurd (show false=true from fx) eh
 |bl a=>
  cases ry;cases x with
  |aQ=>cases rx;exact SeqAt.EqAt.bool_none a
  |bl b=>cases rx;exact SeqAt.EqAt.bool_bool a b
  |int b=>obtain⟨t,rfl⟩:=rx;exact SeqAt.EqAt.bool_int a b t
  |str b=>obtain⟨t,rfl⟩:=rx;exact SeqAt.EqAt.bool_str a b t
  |_=>exact absurd (show false=true from fx) eh
 |int a=>
  obtain⟨t',rfl⟩:=ry;cases x with
  |aQ=>cases rx;exact SeqAt.EqAt.int_none a t'
  |bl b=>cases rx;exact SeqAt.EqAt.int_bool a t' b
  |int b=>obtain⟨t,rfl⟩:=rx;exact SeqAt.EqAt.int_int a t' b t
  |str b=>obtain⟨t,rfl⟩:=rx;exact SeqAt.EqAt.int_str a t' b t
  |_=>exact absurd (show false=true from fx) eh
 |str a=>
  obtain⟨t',rfl⟩:=ry;cases x with
  |aQ=>cases rx;exact SeqAt.EqAt.str_none a t'
  |bl b=>cases rx;exact SeqAt.EqAt.str_bool a t' b
  |int b=>obtain⟨t,rfl⟩:=rx;exact SeqAt.EqAt.str_int a t' b t
  |str b=>obtain⟨t,rfl⟩:=rx;exact SeqAt.EqAt.str_str a t' b t
  |_=>exact absurd (show false=true from fx) eh
 |_=>exact absurd (show false=true from fy) eh
noncomputable def HV(x:V)(u:Value):Bool:=match u with
 |.none=>Ha .aQ x
 |.bool b=>Ha (.bl b) x
 |.int i _=>Ha (.int i) x
 |.str z _=>Ha (.str z) x
 |_=>false
theorem DC{x y:V}(r:RelV y u)(f:iA y=true):HV x u=Ha y x:=by
 cases y with
 |aQ=>cases r;rfl
 |bl b=>cases r;rfl
 |int i=>obtain⟨t,rfl⟩:=r;rfl
 |str z=>obtain⟨t,rfl⟩:=r;rfl
 |_=>exact absurd (show false=true from f) eh
theorem sF{x:V}:∀{xs:qak}{us:qag},Vals xs us->xs.all iA=true->us.any (HV x)=xs.any λy=>Ha y x
 |_,_,.nil,_=>rfl
 |y::xs,u::us,.cons r t,f=>by rw[QZ,jm] at f;rw[CQ,CQ,DC r f.1,sF t f.2]
theorem oh{A:Around}{s:Shared}{x:V}{v:Value}(rx:RelV x v)(fx:iA x=true):∀{xs:qak}{us:qag},Vals xs us->xs.all iA=true->∀u∈us,SeqAt.EqAt A s u v (HV x u)
 |_,_,.nil,_=>λu hu=>by cases hu
 |y::xs,u::us,.cons r t,f=>λu' hu=>by
  rw[QZ,jm] at f;rcases cT.mp hu with rfl|hu
  rw[DC r f.1];exact Nb r rx f.1 fx;exact oh rx fx t f.2 u' hu
noncomputable def U4(x:V)(xs:qak):Bool:=xs.any λy=>Ha y x
noncomputable def Y1(K:qaf)(neg:Bool):R2:=λx y H Q=>∃p xs,y=.ref p/\(eU K H p xs\/dD K H p xs)/\iA x=true/\xs.all iA=true/\Q (.bl (if neg then !U4 x xs else U4 x xs)) H
theorem Bk:fU X (compareOp .In) (Y1 X.K false):=by
 intro pins s σ H x y v u Q I rx ry h;obtain⟨p,xs,rfl,hq,fx,fs,q⟩:=h;cases ry;obtain hq|hq:=hq
 obtain⟨aM,r,pl,hz⟩:=I.list hq;refine SeqAt.in_listAt (HV x) pl.isList (λw hw=>oh rx fx r fs w (by simpa using hw)) ⟨.bl _,H,I,rfl,?_⟩;rw[show aM.toArray.any (HV x)=aM.any (HV x) by simp,sF r fs];exact q;obtain⟨aM,r,pl,hz⟩:=I.tuple hq;refine SeqAt.in_tupleAt (HV x) pl (λw hw=>oh rx fx r fs w (by simpa using hw)) ⟨.bl _,H,I,rfl,?_⟩;rw[show aM.toArray.any (HV x)=aM.any (HV x) by simp,sF r fs];exact q
theorem sG:dF X (.builtin "len") (λxs H Q=>∃p ys,xs=[.ref p]/\(eU X.K H p ys\/dD X.K H p ys)/\Q (.int ys.length) H):=by
 intro pins s σ H xs us Q I r h;obtain⟨p,ys,rfl,hq,q⟩:=h;obtain⟨u,rfl,rx⟩:=vals1 r;cases rx;have hn:=lh;obtain hq|hq:=hq
 obtain⟨aM,r',pl,hz⟩:=I.list hq;have hlen:=r'.length;exact Calls.call_len_list pl.isList (by simp only[iq]<;>omega) ⟨.int ys.length,H,I.tok _,⟨s.toks+1,by rw[iq,hlen]⟩,q⟩;obtain⟨aM,r',pl,hz⟩:=I.tuple hq;have hlen:=r'.length;exact len_tuple pl (by simp only[iq]<;>omega) ⟨.int ys.length,H,I.tok _,⟨s.toks+1,by rw[iq,hlen]⟩,q⟩
theorem sI:dF X (.builtin "len") (λxs H Q=>∃z,xs=[.str z]/\z.length<=sizeLine/\Q (.int z.length) H):=by intro pins s σ H xs us Q I r h;obtain⟨z,rfl,hz,q⟩:=h;obtain⟨u,rfl,t,rfl⟩:=vals1 r;have hn:=lh;exact len_str (by omega) ⟨.int z.length,H,I.tok _,⟨_,rfl⟩,q⟩
theorem dF.or{f:Value}{r r':qak->Hp->VK->Prop}(h:dF X f r)(h':dF X f r'):dF X f (λxs H Q=>r xs H Q\/r' xs H Q):=by
 intro pins s σ H xs us Q I rs q;obtain q|q:=q
 exact h pins s σ H xs us Q I rs q;exact h' pins s σ H xs us Q I rs q
theorem gT:dF X (.type "list") (λxs H Q=>∃p ys,xs=[.ref p]/\(eU X.K H p ys\/dD X.K H p ys)/\∀l,H l=none->Q (.ref l) (upd H l (.lst ys))):=by
 intro pins s σ H xs us Q I r h;obtain⟨p,ys,rfl,hq,q⟩:=h;obtain⟨u,rfl,rx⟩:=vals1 r;cases rx;have fin:∀(aM:qag),Vals ys aM->ys.length<=sizeLine->∀(h':Heap)(c':Nat),(∀b o',s.heap.get? b=some o'->h'.get? b=some o') ->
   h'.get? s.heap.objs.size=some {cls:=.type "list",dict:=none,data:=.seq aM.toArray c',slots:=#[]}->EP X pins σ Q (.ref s.heap.objs.size) {s with heap:=h'}:=λaM r' hz h' c' kp e=>
  ⟨.ref s.heap.objs.size,_,I.laid (t':=s.toks) kp (cU _) (show cc X.prog X.w _ h' _ (.lst ys) from⟨hz,aM,c',r',e⟩),rfl,q _ (I.b_.fresh (cU _))⟩
 obtain hq|hq:=hq
 obtain⟨aM,r',pl,hz⟩:=I.list hq;have hlen:=r'.length;obtain⟨o,ho,hc,n,hd⟩:=pl.isList;exact call_list_seq p (.inl rfl) ho hc hd (λh' c' kp e=>fin aM r' hz h' c' kp e) (by simp only[iq]<;>omega);obtain⟨aM,r',pl,hz⟩:=I.tuple hq;have hlen:=r'.length;obtain⟨o,ho,hc,n,hd⟩:=pl;exact call_list_seq p (.inr rfl) ho hc hd (λh' c' kp e=>fin aM r' hz h' c' kp e) (by simp only[iq]<;>omega)
theorem gh:dF X (.type "tuple") (λxs H Q=>∃p ys,xs=[.ref p]/\((eU X.K H p ys/\∀l,H l=none->Q (.ref l) (upd H l (.tup ys)))\/(dD X.K H p ys/\Q (.ref p) H))):=by
 intro pins s σ H xs us Q I r h;obtain⟨p,ys,rfl,h⟩:=h;obtain⟨u,rfl,rx⟩:=vals1 r;cases rx;obtain⟨hq,q⟩|⟨hq,q⟩:=h
 obtain⟨aM,r',pl,hz⟩:=I.list hq;have hlen:=r'.length;refine call_tuple_list pl.isList (λh' kp=>?_) (by simp only[iq]<;>omega);have I1:Inv X pins σ H {s with heap:=h'}:=I.kept (t':=s.toks) kp;have I2:Inv X pins σ (upd H h'.objs.size (.tup ys)) {s with heap:=h'.push {cls:=.type "tuple",data:=.seq aM.toArray} } :=
  I1.laid (t':=s.toks) (λb o e=>fE _ e) (cU _) (show cc X.prog X.w _ _ _ (.tup ys) from⟨hz,aM,r',IsTup.new _ _⟩)
 exact⟨.ref h'.objs.size,_,I2,rfl,q _ (I1.b_.fresh (cU _))⟩;obtain⟨aM,r',pl,hz⟩:=I.tuple hq;exact call_tuple_same pl ⟨.ref p,H,I,rfl,q⟩
def WI(K:qaf)(T:String)(x:V)(H:Hp):Prop:=match x with
 |.str _=>T="str"
 |.int _=>T="int"
 |.ref p=>(T="list"/\∃xs,eU K H p xs)\/(T="tuple"/\∃o,K.lookup p=some o/\o.cls=.type "tuple"/\o.dict=none) \/
  (T="dict"/\((∃aY,H p=some (.dK aY))\/∃aY,H p=some (.dT aY)))\/(T="set"/\∃S n,H p=some (.set S n))
 |_=>False
theorem DE{s:Shared}{T:String}{x:V}{v:Value}(I:Inv X pins σ H s)(r:RelV x v)(ty:WI X.K T x H) :
  s.TypeIs v T/\∀a,v=.ref a->∃ob,s.heap.get? a=some ob/\ob.dict=none:=by
 cases x with
 |str z=>obtain⟨t,rfl⟩:=r;cases (show T="str" from ty);exact⟨typeIs_str s z t,λ_ e=>nomatch e⟩
 |int i=>obtain⟨t,rfl⟩:=r;cases (show T="int" from ty);exact⟨typeIs_int s i t,λ_ e=>nomatch e⟩
 |ref p=>
   cases r;obtain⟨rfl,xs,hq⟩|⟨rfl,o,hk,hc,hd⟩|⟨rfl,hk⟩|⟨rfl,S,n,hk⟩:=ty
   obtain⟨aM,_,pl,_⟩:=I.list hq;refine⟨pl.isList.typeIs,λa e=>?_⟩;cases e;obtain⟨o,n,e,c,hd,_⟩:=pl;exact⟨o,e,hd⟩;refine⟨⟨o,I.qV p o hk,hc⟩,λa e=>?_⟩;cases e;exact⟨o,I.qV _ o hk,hd⟩;have z:∃o,s.heap.get? p=some o/\o.ExactDict:=by
    obtain⟨aY,hk⟩|⟨aY,hk⟩:=hk
    obtain⟨_,_,_,_,o,_,_,e,ex,_⟩:=I.b_ p _ hk;exact⟨o,e,ex⟩;obtain⟨_,_,_,_,o,_,_,e,ex,_⟩:=I.b_ p _ hk;exact⟨o,e,ex⟩
   obtain⟨o,e,ex⟩:=z;refine⟨⟨o,e,ex.1⟩,λa e2=>?_⟩;cases e2;exact⟨o,e,ex.2.1⟩;obtain⟨o,_,_,_,e,ex,_⟩:=I.b_ p _ hk;refine⟨⟨o,e,ex.1⟩,λa e2=>?_⟩;cases e2;exact⟨o,e,ex.2.1⟩
 |_=>exact False.elim ty
def WJ(K:qaf)(T:String)(r:V->qak->Hp->VK->Prop)(to:TE):TE:=λσ H Q=>to σ H λx H1=>WI K T x H1/\r x [] H1 Q
def tBM(K:qaf)(T:String)(r:V->qak->Hp->VK->Prop)(to:TE)(t:TA):TE:=λσ H Q=>to σ H λx H1=>WI K T x H1/\t σ H1 λxs H2=>r x xs H2 Q
variable{to:TE}{t:TA}{name:Str}{T id:String}{r:V->qak->Hp->VK->Prop}
theorem sJ(pa:PlainAttrs T)(slot:Slot T name id)(HW:typeOf (.builtin id)=pure (.type "method_descriptor"))(hm:HS X id r)(ho:PE X o to)(cX:attributeBase o name X.env (eval o X.env)=eval o X.env:=by rfl)(cY:(apos.endLine==aN.line)=true:=by rfl):PE X (.Call (.Attribute o name apos) [] [] aN) (WJ X.K T r to):=by intro pins s σ H Q I h;refine wpAny_Call_method0_late cX cY (bY (ho pins s σ H _ I h) λv s1 ⟨x,H1,I1,r1,ty,q1⟩=>?_);obtain⟨h1,h2⟩:=DE I1 r1 ty;exact⟨T,id,pa,slot,HW,h1,h2,QQ rfl (PySem.evalArgs_none (hm pins s1 σ H1 x [] v [] Q I1 r1 .nil q1))⟩
theorem oi(pa:PlainAttrs T)(slot:Slot T name id)(HW:typeOf (.builtin id)=pure (.type "method_descriptor"))(hm:HS X id r)(ho:PE X o to)(ha:PA X (e::es) t)(cX:attributeBase o name X.env (eval o X.env)=eval o X.env:=by rfl)(jC:((backTo aN (starEach (e::es) X.env)).all (λx=>!x.1) && (backToKw aN (keywordEach [] X.env)).all (λx=>x.1.isSome)
    && decide ((e::es).length+([]:List Keyword).length+(if ([]:List Keyword).isEmpty then 0 else 1)<30))=true:=by rfl)(cY:(apos.endLine==aN.line)=true:=by rfl)(hs:starEach (e::es) X.env=(false,eval e X.env)::starEach es X.env:=by rfl)(dw:(backTo aN (starEach es X.env)).any (·.1)=false:=by rfl) :
  PE X (.Call (.Attribute o name apos) (e::es) [] aN) (tBM X.K T r to t):=by
 intro pins s σ H Q I h;refine wpAny_Call_method_late cX jC cY rfl (bY (ho pins s σ H _ I h) λv s1 ⟨x,H1,I1,r1,ty,q1⟩=>?_);obtain⟨h1,h2⟩:=DE I1 r1 ty;refine⟨T,id,pa,slot,HW,h1,h2,?_⟩;have hA:=ha aN pins s1 σ H1 _ I1 q1;rw[hs] at hA ⊢;refine QQ (by show (false || (backTo aN (starEach es X.env)).any (·.1))=false;rw[dw]<;>rfl) (UR ?_);exact bY hA λus s2 ⟨vs,H2,I2,r2,q2⟩=>hm pins s2 σ H2 x vs v us Q I2 r1 r2 q2
end
def U5(X:Cx)(id:String)(r:V->qak->Hp->VK->Prop):Prop :=
 ∀(pins:qaa)(s:Shared)(σ:St)(H:Hp)(x:V)(xs:qak)(v:Value)(us:qag)(Q:VK),Inv X pins σ H s->RelV x v->Vals xs us->r x xs H Q ->
  wpAny (model X.prog X.w) X.A (call (.builtin id) (v::us)) (EP X pins σ Q) X.xe s
theorem Vals.one:∀{x:V}{us:qag},Vals [x] us->∃u,us=[u]/\RelV x u
 |_,_,.cons r .nil=>⟨_,rfl,r⟩
theorem Vals.zero:∀{us:qag},Vals [] us->us=[]
 |_,.nil=>rfl
theorem Vals.dropLast(h:Vals xs us):Vals xs.dropLast us.dropLast:=by
 induction h with
 |nil=>exact .nil
 |cons r t ih=>
  cases t with
  |nil=>exact .nil
  |cons q t'=>exact .cons r ih
theorem Vals.reverse(h:Vals xs us):Vals xs.reverse us.reverse:=by
 induction h with
 |nil=>exact .nil
 |cons r t ih=>rw[List.reverse_cons,List.reverse_cons];exact Vals.append ih (.cons r .nil)
theorem Vals.rep{xs:qak}{us:qag}(h:Vals xs us):∀k:Nat,Vals (List.replicate k xs).flatten (List.replicate k us).flatten
 |0=>.nil
 |k+1=>by rw[C4,C4,Mm,Mm];exact Vals.append h (Vals.rep h k)
theorem yb(l:List α):l.eraseIdx (l.length-1)=l.dropLast:=by
 induction l with
 |nil=>rfl
 |cons a r ih=>
  cases r with
  |nil=>rfl
  |cons b r=>
   have e:(a::b::r).length-1=((b::r).length-1)+1:=by have h1:(a::b::r).length=r.length+2:=rfl;have h2:(b::r).length=r.length+1:=rfl;omega
   rw[e,List.eraseIdx_cons_succ,ih]
   all_goals rfl
theorem foldl_rep(aM:qag):∀(k:Nat)(acc:qag),
  List.foldl (λx1 x2=>x1++x2) acc.toArray (List.replicate k aM.toArray)=(acc++(List.replicate k aM).flatten).toArray
 |0,acc=>by simp
 |k+1,acc=>by
   have e:acc.toArray++aM.toArray=(acc++aM).toArray:=by simp
   have e2:(acc++aM)++(List.replicate k aM).flatten=acc++(List.replicate (k+1) aM).flatten:=by rw[C4,Mm,List.append_assoc]
   rw[<- e2,<- foldl_rep aM k (acc++aM),<- e,C4,List.foldl_cons]
section
variable{s:Shared}{l b:Addr}{ys zs:qak}
theorem Inv.Nc{aM its':qag}{f:Array Value->Array Value}(I:Inv X pins σ H s)(hH:H l=some (.lst xs))(e:s.heap.get? l=some {cls:=.type "list",data:=.seq aM.toArray n})(hf:f aM.toArray=its'.toArray)(hv:Vals ys its')(hz:ys.length<=sizeLine) :
  Inv X pins σ (upd H l (.lst ys)) {s with heap:=s.heap.update l (Obj.mapSeq f),toks:=t'}:=by
 have q:=PySem.IsL.update e f;rw[hf] at q;refine I.write (x:=l) (e:=l) (by rw[hH];exact trivial) (.inl rfl) (λb' u hb hu=>(Heap.get?_update_other s.heap (Obj.mapSeq f) (Ne.symm hb)).trans hu) ⟨_,q⟩ ?_;exact⟨hz,its',_,hv,q⟩
theorem Inv.RN{aM:qag}(I:Inv X pins σ H s)(hv:Vals ys aM)(hz:ys.length<=sizeLine) :
  Inv X pins σ (upd H s.heap.objs.size (.lst ys)) {s with heap:=s.heap.push {cls:=.type "list",data:=.seq aM.toArray},toks:=t'} :=
 I.laid (λ_ _ q=>fE _ q) (cU _) ⟨hz,aM,0,hv,k6 _ rfl⟩
theorem Inv.fresh(I:Inv X pins σ H s):H s.heap.objs.size=none:=I.b_.fresh (cU _)
theorem Inv.HX(I:Inv X pins σ H s)(hH:H l=some (.lst xs)):xs.length<=sizeLine/\∃(aM:qag)(n:Nat),Vals xs aM/\xs.length=aM.length/\s.heap.get? l=some {cls:=.type "list",data:=.seq aM.toArray n}:=by obtain⟨z,aM,n,r,e⟩:=I.b_ l _ hH;exact⟨z,aM,n,r,r.length,e⟩
theorem DF(h:n<=sizeLine):Builtin.List.listTooLong n=false:=by unfold Builtin.List.listTooLong;exact decide_eq_false (by omega)
end
section
def zL:V->qak->Hp->VK->Prop:=λx vs H Q=>∃l xs y,x=.ref l/\vs=[y]/\H l=some (.lst xs)/\xs.length<sizeLine/\Q .aQ (upd H l (.lst (xs++[y])))
theorem c7:U5 X "list.append" zL:=by intro pins s σ H x vs v us Q I rx rv h;obtain⟨l,xs,y,rfl,rfl,hH,hz,q⟩:=h;cases rx;obtain⟨u,rfl,ru⟩:=rv.one;obtain⟨z,aM,n,r,hl,e⟩:=I.HX hH;refine call_meets F.slot_list_append ⟨_,e,rfl⟩ F.entry_list_append (F.args_list_append_2 _ _) (PySem.list_append l aM.toArray n u (by rw[iq];omega)) ⟨e,?_⟩;refine⟨.aQ,_,I.Nc (its':=aM++[u]) hH e (by simp) (r.append (.cons ru .nil)) ?_,rfl,q⟩;rw[k7,List.length_singleton];omega
def RO:V->qak->Hp->VK->Prop:=λx vs H Q=>∃l xs y,x=.ref l/\vs=[]/\H l=some (.lst xs)/\xs[xs.length-1]?=some y/\Q y (upd H l (.lst xs.dropLast))
theorem DG:U5 X "list.pop" RO:=by
 intro pins s σ H x vs v us Q I rx rv h;obtain⟨l,xs,y,rfl,rfl,hH,hy,q⟩:=h;cases rx;have Bl:=rv.zero;subst Bl;obtain⟨z,aM,n,r,hl,e⟩:=I.HX hH;obtain⟨u,hu,ru⟩:=r.get hy;have hy':aM.toArray[aM.toArray.size-1]?=some u:=by show aM.toArray[aM.length-1]?=some u;rw[<- Array.getElem?_toList,<- hl];exact hu
 refine call_meets F.slot_list_pop ⟨_,e,rfl⟩ F.entry_list_pop (F.args_list_pop_1 _) (MeetsSeq.list_pop_last l aM.toArray n u hy' (by rw[iq];omega)) ⟨e,?_⟩;refine⟨y,_,I.Nc (its':=aM.dropLast) hH e ?_ r.dropLast ?_,ru,q⟩;show aM.toArray.eraseIdxIfInBounds (aM.toArray.size-1)=aM.dropLast.toArray;rw[iq,List.eraseIdxIfInBounds_toArray,yb];rw[QS];omega
def uX:V->qak->Hp->VK->Prop:=λx vs H Q=>∃l xs,x=.ref l/\vs=[]/\H l=some (.lst xs)/\Q .aQ (upd H l (.lst xs.reverse))
theorem yc:U5 X "list.reverse" uX:=by intro pins s σ H x vs v us Q I rx rv h;obtain⟨l,xs,rfl,rfl,hH,q⟩:=h;cases rx;have Bl:=rv.zero;subst Bl;obtain⟨z,aM,n,r,hl,e⟩:=I.HX hH;refine call_meets F.slot_list_reverse ⟨_,e,rfl⟩ F.entry_list_reverse (F.args_list_reverse_1 _) (AutoSeq1.list_reverse_list_0 l aM.toArray n (by rw[iq];omega)) ⟨e,?_⟩;refine⟨.aQ,_,I.Nc (its':=aM.reverse) hH e (by simp) r.reverse ?_,rfl,q⟩;rw[List.length_reverse];omega
def WK:R2:=λx y H Q=>∃l k xs,x=.ref l/\y=.int k/\H l=some (.lst xs)/\-(2 ^ 63)<=k/\k<2 ^ 63/\xs.length * k.toNat<=sizeLine /\
 ∀p,H p=none->Q (.ref p) (upd H p (.lst (List.replicate k.toNat xs).flatten))
theorem len_rep(xs:List α)(k:Nat):(List.replicate k xs).flatten.length=k * xs.length:=by
 induction k with
 |zero=>simp
 |succ k ih=>rw[C4,Mm,k7,ih,Nat.succ_mul,Nat.add_comm]
theorem Nd:fU X (binaryOp .Mult) WK:=by
 intro pins s σ H x y v u Q I rx ry h;obtain⟨l,k,xs,rfl,rfl,hH,h1,h2,hz,q⟩:=h;cases rx;obtain⟨t,rfl⟩:=ry;obtain⟨z,aM,n,r,hl,e⟩:=I.HX hH;have hlen:aM.toArray.size * k.toNat<=sizeLine:=by rw[iq,<- hl];exact hz
 have WL:¬ aM.toArray.size * k.toNat > (2 ^ 63-1) / 8:=by
  have:(sizeLine:Nat)<=(2 ^ 63-1) / 8:=by decide
  omega
 have WM:¬ (!Builtin.List.listFitsIndex k)=true:=by rw[fitsIndex_both h1 h2];exact eh
 have RP:¬ Builtin.List.listTooLong (aM.toArray.size * k.toNat)=true:=by rw[DF hlen];exact eh
 have WN:List.foldl (λx1 x2=>x1++x2) #[] (List.replicate (if aM.toArray.isEmpty=true then 0 else k.toNat) aM.toArray)=(List.replicate k.toNat aM).flatten.toArray:=by
  have f0:∀m:Nat,List.foldl (λx1 x2=>x1++x2) #[] (List.replicate m aM.toArray)=(List.replicate m aM).flatten.toArray:=λm=>by have:=foldl_rep aM m [];rw[Qm] at this;exact this
  rw[f0];cases aM with
  |nil=>simp
  |cons a r'=>rw[if_neg (by simp)]
 refine wpAny_binaryOp_repeat_ref (T:="list") (U:="int") (by decide) ⟨_,e,rfl⟩ (λs'=>typeIs_int s' k t) noFill_list_mul F.fills_int_mul F.slot_int_rmul repeat_list F.slot_int_index.lookup
  (call_meets F.slot_int_rmul (typeIs_int s k t) F.entry_int_rmul (F.args_int_rmul_2 _ _) (int___rmul___int_list k t l aM.toArray n)
   ⟨e,rfl,⟨_,e,rfl⟩,call_meets F.slot_list_mul ⟨_,e,rfl⟩ F.entry_list_mul (F.args_list_mul_2 _ _) (AutoListH.list___mul___list_int_3 l aM.toArray n k t WM WL RP) ⟨e,?_⟩⟩)
 rw[WN];exact⟨.ref _,_,I.RN (t':=s.toks) (r.rep k.toNat) (by rw[len_rep,Nat.mul_comm];exact hz),rfl,q _ I.fresh⟩
end
end L2
namespace U6
open PySem PySem.W PySem.Calls PyProof.Rows
theorem m_{P:Params}:∀(ns:qan)(vs:qag),WellAll P h vs (ns.map WData.int)->IntsAre vs ns:=by
 intro ns;induction ns with
 |nil=>intro vs w;rw[Hr] at w;cases w;exact .nil
 |cons n ns ih=>
  intro vs w;rw[fS] at w;cases w with
  |cons a b=>cases a;exact .cons _ _ (ih _ b)
theorem Bn{l:OpenLaw}(hn:l.most=some n){P:Params}{args:List WData}{vals:qag}(Bo:l.row.toRowW.claim.pre args=true)(RQ:WellAll P h vals args) :
  ∃a vs ns,vals=[Value.ref a]/\args=[WData.list (ns.map WData.int)]/\h.get? a=some {cls:=.type "list",data:=.seq vs.toArray}/\IntsAre vs ns/\ns.length<=n:=by
 have hsh:WShape.hasAll [] args [.list .int]=true:=(pre_splitW Bo).1;have hc:l.pre.holds [] {args:=args}=true:=(pre_splitW Bo).2;obtain⟨d,r,rfl,h1,h2⟩:=hasAllW_cons hsh;obtain rfl:=hasAllW_nil h2;obtain⟨xs,rfl,h3⟩:=hasW_list h1;obtain⟨ns,rfl⟩:=items_int h3;have hlen:ns.length<=n:=by
  unfold OpenLaw.pre at hc;have h4:(WTm.not (.lt (.lit (.int (n:Int))) (.len (.arg 0)))).holds [] {args:=[.list (ns.map .int)]}=true:=by have h4:=(holds_andW hc).1;rw[hn] at h4;exact h4
  have h5:=condW_of h4 (w_not (w_lt w_lit (w_len_list (w_arg rfl))));rw[cW] at h5;refine Nat.le_of_not_lt λq=>?_;have q':(n:Int)<((ns.length:Nat):Int):=by omega
  first
   | (rw[decide_eq_true q'] at h5;exact absurd h5 (by decide))
   | (simp at h5;omega)
 cases RQ with
 |cons w1 w2=>
   cases w2;cases w1 with
   |list ho HY=>exact⟨_,_,ns,rfl,rfl,ho,m_ ns _ HY,hlen⟩
theorem Bp(l:OpenLaw)(args:List WData):l.row.toRowW.claim.post args (.bool true) args=true :=
 postW_of (r:=l.row.toRowW) (X:=(true==true))
  (show WShape.has [] (.bool true) .bool=true by first|rfl|decide|simp[WShape.has,WShape.arms,WShape.armsAll])
  (show (WTm.eq .res (.lit (.bool true))).value [] {args:=args,res:=some (.bool true),after:=args}=some (.bool (true==true)) from w_eq_bool (w_res rfl) w_lit) rfl
theorem uY{l:OpenLaw}{q:Program}{loose:qai}{XP:(qae)->Heap->Prop}{YP:World->Heap->Prop}{d:DefRec}(hn:l.most=some n)(Nf:d.params.defaults=[])(call:∀(w:World) (s₀ s₁:Shared) (mg mb:qae) (fa:Addr) (o:Obj) (pm cd doc:Value) (a:Addr) (vs:qag) (ns:qan),
    Ground q loose [] XP w s₀ mg mb s₁.heap->YP w s₁.heap ->
    s₁.heap.get? fa=some o->o.data=.func (docDef d.name d.params d.body d.scope pm cd doc)->s₁.heap.CodeRec cd d.name->mg d.name=some (.ref fa) ->
    s₁.heap.get? a=some {cls:=.type "list",data:=.seq vs.toArray}->IntsAre vs ns->ns.length<=n->s₁.gens=#[] ->
    codeAny (model l.prog w) callerA (.call (.ref fa) ⟨[.ref a],[]⟩) (λr s'=>r=.ok (.ret (.bool true))/\OldK s₁.heap s'.heap/\s'.os=s₁.os/\AllBare s'.gens) s₁) :
  WalkO q loose XP YP l.row.toRowW d [] (λf vs=>PySem.call f vs):=by
 intro w s₀ s₁ mg mb G Y fa o pm cd doc dV kV ho hd fH hD RS hg args vals as Bo RT Y2 RQ Y3;obtain rfl:dV=.none:=Dflts.none hD Nf;obtain rfl:kV=.none:=Dflts.noKw hD;obtain⟨a,vs,ns,rfl,rfl,Ng,hints,hlen⟩:=Bn hn Bo RQ;refine enter_call (codeAny_mono (call w s₀ s₁ mg mb fa o pm cd doc a vs ns G Y ho (fd_plain hd) fH RS Ng hints hlen hg) λr s' hq=>?_);obtain⟨rfl,h2,h3,h4⟩:=hq;exact⟨.inl ⟨.bool true,.bool true,[],rfl,λ_=>rfl,.bool true,Bp l _,λ_=>⟨List.Pairwise.nil,λ_ hm=>(nomatch hm)⟩⟩,h2,h3,h4⟩
end U6
namespace L2
open PySem PySem.Spec PyProof.Rows
theorem rg:∀{vs:qag}{ns:qan},IntsAre vs ns->Vals (ns.map V.int) vs
 |_,_,.nil=>.nil
 |_,_,.cons n t h=>.cons ⟨t,rfl⟩ (rg h)
def RU(H:Hp):Prop:=∀b,H b=none\/∃o xs,H b=some (.A5 o (.lst xs))
theorem DH{mb:qae}{CX:CW}{k:Nat}{fa:Addr}{s₁:Shared}{vs:qag}{ns:qan}(KX:K.In s₁.heap)(Y4:s₁.heap.Ns mainGlobals mg)(hb:s₁.heap.Ns builtinsNs mb)(hbb:∀x:Str,x≠"__name__"->mb x=bootBuiltins x)(WO:s₁.heap.NoLimit)(hg:s₁.gens=#[])(ha:s₁.heap.get? a=some {cls:=.type "list",data:=.seq vs.toArray})(hi:IntsAre vs ns)(hl:ns.length<=sizeLine)(hr:bh k callerA)(F:∀base:Heap,K.In base->base.Ns mainGlobals mg->cn P w K mg base CX k fa fd [x] sp)(RW:∀(s:Shared) (u:Value),BindsTo s fd ⟨[u],[]⟩ [(x,u)])(G_:∀H:Hp,RU H->eU K H a (ns.map V.int)->sp [.ref a] H (λv _=>v=.bl true) λ_ _ _=>False)(hCX:∀H e s',CX [] H s₁ (λ_ _ _=>False) e s'->False) :
  codeAny (model P w) callerA (.call (.ref fa) ⟨[.ref a],[]⟩) (λr s'=>r=.ok (.ret (.bool true))/\OldK s₁.heap s'.heap/\s'.os=s₁.os/\AllBare s'.gens) s₁:=by
 have rv:=rg hi;have WQ:=hi.length;have core:∀H:Hp,RU H->eU K H a (ns.map V.int)->j5 P w H s₁.heap->(∀b,H b≠none->b=a)->(H a≠none->K.lookup a=none) ->
   codeAny (model P w) callerA (.call (.ref fa) ⟨[.ref a],[]⟩) (λr s'=>r=.ok (.ret (.bool true))/\OldK s₁.heap s'.heap/\s'.os=s₁.os/\AllBare s'.gens) s₁:=by
  intro H hO hS b_ hA hK;have zM:∀{b:Addr}{o:Obj},s₁.heap.get? b=some o->H b=none->(sk s₁.heap H).get? b=some o:=λe n=>Dd e n;have RB:∀{b:Addr}{o:Obj}{es:Array DictEntry}{ep:Nat},s₁.heap.get? b=some o->o.data=.dict es ep->H b=none:=λ{b o es ep} e d=>by
   cases q:H b with
   |none=>rfl
   |some u=>have e':b=a:=hA b (by rw[q];simp);subst e';rw[ha] at e;cases e;have d':Data.seq vs.toArray _=Data.dict es ep:=d;cases d'
  have U7:∀{b:Addr}{m:qae},s₁.heap.Ns b m->(sk s₁.heap H).Ns b m:=λ{b m} ⟨o,es,ep,e,d,r⟩=>⟨o,es,ep,zM e (RB e d),d,r⟩;have Y5:K.In (sk s₁.heap H):=λb o e=>zM (KX b o e) (by
   cases q:H b with
   |none=>rfl
   |some u=>have e':b=a:=hA b (by rw[q];simp);subst e';rw[hK (by rw[q];simp)] at e;cases e)
  have hM:Mod K mg (sk s₁.heap H):=⟨Y5,U7 Y4,⟨mb,U7 hb,hbb⟩,let ⟨mc,h1,h2⟩:=WO;⟨mc,U7 h1,h2⟩⟩;have e0:x8 P w K mg (sk s₁.heap H) callerA [] s₁ H:=⟨rfl,hM,λb o e=>Hs e,Nat.le_of_eq (A7 _ _),trivial,λb hb=>absurd (show b∈([]:qah) from hb) (by simp),b_,.of_eq hg⟩;refine codeAny_mono ((F _ Y5 (U7 Y4)).run callerA [] s₁ H ⟨[.ref a],[]⟩ [.ref a] [.ref a] _ _ hr e0 (RW s₁ (.ref a)) (.cons rfl .nil) (G_ H hO hS)) λr s' h=>?_;cases r with
  |error e=>exact (hCX H e s' h).elim
  |ok fl=>
    cases fl with
    |ret u=>
      obtain⟨v,H',os,bare,un,WR,r',q⟩:=h;have q':v=.bl true:=q;subst q';obtain rfl:u=Value.bool true:=r';refine⟨rfl,OldK.of_keep λb o e=>?_,os,bare⟩;cases q:H b with
      |none=>exact un.keep b o e q (by intro z;exact absurd (show b∈([]:qah) from z) (by simp)) (by simp)
      |some u=>
        rcases hO b with z|⟨ob,xs,z⟩
        rw[q] at z;cases z;have z2:=un.sj b ob _ z;obtain⟨e1,_⟩:=b_ b _ z;obtain⟨e2,_⟩:=WR b _ z2;rw[e] at e1;cases e1;exact e2
    |_=>exact False.elim h
 cases hk:K.lookup a with
 |some o=>have e:=KX a o hk;rw[ha] at e;cases e;refine core (λ_=>none) (λ_=>.inl rfl) (.inr ⟨_,vs.toArray,_,hk,rfl,rfl,rfl,by rw[iq,WQ];exact hl,by simpa using rv⟩) (λb u z=>by have z':(none:Option HO)=some u:=z;cases z') (λb z=>absurd rfl z) λz=>absurd rfl z
 |none=>refine core (λb=>if b=a then some (.A5 {cls:=.type "list",data:=.seq vs.toArray} (.lst (ns.map V.int))) else none) (λb=>?_) (.inl (.inr ⟨{cls:=.type "list",data:=.seq vs.toArray},if_pos rfl⟩)) (λb u z=>?_) (λb z=>?_) λ_=>hk;by_cases hb:b=a;exact .inr ⟨_,_,if_pos hb⟩;exact .inl (if_neg hb);by_cases hb:b=a;have z':=(if_pos hb).symm.trans z;cases z';subst hb;exact⟨ha,by rw[cW];exact hl,vs,_,rv,ha⟩;have z':=(if_neg hb).symm.trans z;cases z';by_cases hb:b=a;exact hb;exact absurd (if_neg hb) z
noncomputable def inClass(s:Stmt)(j:Nat):Stmt:=match s with
 |.ClassDef _ _ _ body _ _ _ _ _ _ _=>body.getD j (.Pass ⟨0,0,0,0⟩)
 |_=>.Pass ⟨0,0,0,0⟩
noncomputable def cV(s:Stmt):Arguments:=match s with
 |.FunctionDef _ a _ _ _ _ _ _ _ _=>a
 |_=>{posonlyargs:=[],args:=[],vararg:=none,kwonlyargs:=[],kw_defaults:=[],kwarg:=none,defaults:=[]}
def bw(s:Stmt):qaq:=match s with
 |.FunctionDef _ _ b _ _ _ _ _ _ _=>b
 |_=>[]
noncomputable def ah(s:Stmt):Scope:=match s with
 |.FunctionDef _ _ _ _ _ _ sc _ _ _=>sc
 |_=>{kind:=.function,names:=[],isGenerator:=false,isCoroutine:=false}
abbrev dO:CW:=λ_ _ _ _ _ _=>False
abbrev E0:XK:=λ_ _ _=>False
theorem jq:Passes dO X E0:=λ_ _ _ _ _ _ _ h=>h.elim
structure yd(K:qaf)(x qual:Str)(st:Stmt)(f:Addr)(fd:FuncData):Prop where
 ex:∃(oc:Value)(od:qar)(kV doc pm:Value)(an:qar)(bq ct:Value)(Bi:Array (Option Value)),
  fd=PySem.W.fnOf x qual (cV st) (bw st) (ah st) .none kV doc pm an bq ct/\K.lookup f=some ⟨oc,od,.func fd,Bi⟩/\PySem.W.codeIn K bq qual=true
 kp:PySem.W.keepIn K (.ref f)=true
section
theorem yd.ok{st:Stmt}{N:qai}{k:Nat}(F:yd K x qual st f fd)(S:aA N ps (ah st))(len:∀vs H Q E,sp vs H Q E->vs.length=ps.length)(cx:∀(bq:Value) (A:Around) (outer:List Env) (s:Shared) (H:Hp) (vs:qak) (Q:VK) (E:XK),bh k (A.deeper (envOfC qual (ah st) s.heap.objs.size f bq))->sp vs H Q E ->
    ∃t,gw (eR dO P w K mg base N qual (ah st) f bq A outer s H E).nX (bw st) t/\t {nx:=λ_ H'=>Q .aQ H',rt:=Q} (start N vs) H):cn P w K mg base dO (k+1) f fd ps sp:=by
 obtain⟨oc,od,kV,doc,pm,an,bq,ct,Bi,rfl,lk,fH⟩:=F.ex;refine Lb lk fH S len λA outer s H vs Q E hr G_=>?_;obtain⟨t,h,q⟩:=cx bq A outer s H vs Q E hr G_;exact⟨t,h.nX,q⟩
theorem yd.binds{st:Stmt}(F:yd K x qual st f fd)(h:∀(kV doc pm:Value) (an:qar) (bq ct:Value) (us:qag),us.length=ps.length->bindArgs (PySem.W.fnOf x qual (cV st) (bw st) (ah st) .none kV doc pm an bq ct) ⟨us,[]⟩=pure (ps.zip us)):Binds K fd ps []:=by obtain⟨oc,od,kV,doc,pm,an,bq,ct,Bi,rfl,lk,fH⟩:=F.ex;exact .all (h kV doc pm an bq ct)
theorem oj{st:Stmt}{oc:Value}{od an:qar}{Bi:Array (Option Value)}{kV doc pm bq ct:Value}(l:K.lookup f=some ⟨oc,od,.func (PySem.W.fnOf x qual (cV st) (bw st) (ah st) .none kV doc pm an bq ct),Bi⟩)(c:PySem.W.codeIn K bq qual=true)(k:PySem.W.keepIn K (.ref f)=true):yd K x qual st f (PySem.W.fnOf x qual (cV st) (bw st) (ah st) .none kV doc pm an bq ct):=⟨⟨oc,od,kV,doc,pm,an,bq,ct,Bi,rfl,l,c⟩,k⟩
end
theorem Bq(h:n<=1000):n<sizeLine:=Nat.lt_of_le_of_lt h (by decide)
theorem Nh{A:Prop}(h:B):if false=true then A else B:=by rw[if_neg eh];exact h
theorem Ni{A:Prop}(h:A):if true=true then A else B:=by rw[if_pos rfl];exact h
theorem ye{c A:Prop}[Decidable c](h1:c->A)(h2:¬ c->B):if c then A else B:=by by_cases h:c;rw[if_pos h];exact h1 h;rw[if_neg h];exact h2 h
def aK(H H':Hp):Prop:=∀b o,H b=some o->H' b=some o
theorem aK.refl(H:Hp):aK H H:=λ_ _ h=>h
theorem aK.trans{H1 H2:Hp}(a:aK H H1)(b:aK H1 H2):aK H H2:=λc o h=>b c o (a c o h)
section
theorem gU{env:Env}{f:Str×NameKind->List (Str×Addr)->Sem (ForInStep (List (Str×Addr)))}:∀(l:List (Str×NameKind))(cs:List (Str×Addr)),
  (∀p∈l,∀r,(p.2=.free->∃c,env.cells.lookup p.1=some c/\f p r=pure (.yield ((p.1,c)::r)))/\(p.2≠.free->f p r=pure (.yield r))) ->
  ∃cl,forIn l cs f=pure cl/\(∀y c,cl.lookup y=some c->cs.lookup y=some c\/env.cells.lookup y=some c)/\(∀y,(cs.lookup y).isSome=true->(cl.lookup y).isSome=true) /\
   ∀p∈l,p.2=.free->(cl.lookup p.1).isSome=true
 |[],cs,_=>⟨cs,by rw[List.forIn_nil],λ_ _ h=>.inl h,λ_ h=>h,λ_ h=>nomatch h⟩
 |p::l,cs,hf=>by
   have hr:∀q∈l,∀r,(q.2=.free->∃c,env.cells.lookup q.1=some c/\f q r=pure (.yield ((q.1,c)::r)))/\(q.2≠.free->f q r=pure (.yield r)):=λq hq r=>hf q (d_ _ hq) r;by_cases hp:p.2=.free;obtain⟨c,hc,e⟩:=(hf p cS cs).1 hp;obtain⟨cl,h1,h2,h3,h4⟩:=gU l ((p.1,c)::cs) hr;refine⟨cl,?_,λy d h=>?_,λy h=>h3 y ?_,λq hq U8=>?_⟩;rw[List.forIn_cons,e];exact h1;rcases h2 y d h with z|z
   rw[G1] at z;cases hy:y==p.1 with
   |true=>rw[hy] at z;have ey:y=p.1:=eq_of_beq hy;cases z;rw[ey];exact .inr hc
   |false=>rw[hy] at z;exact .inl z
   exact .inr z;rw[G1];cases hy:y==p.1 with
   |true=>rfl
   |false=>exact h
   rcases cT.mp hq with z|z
   subst z;refine h3 _ ?_;rw[G1,beq_self_eq_true];rfl;exact h4 q z U8;have e:=(hf p cS cs).2 hp;obtain⟨cl,h1,h2,h3,h4⟩:=gU l cs hr;refine⟨cl,?_,h2,h3,λq hq U8=>?_⟩;rw[List.forIn_cons,e];exact h1;rcases cT.mp hq with z|z
   subst z;exact absurd U8 hp;exact h4 q z U8
theorem ic{scope:Scope}{env:Env}(h:∀p∈scope.names,p.2=.free->∃c,env.cells.lookup p.1=some c) :
  ∃cl,closureFor scope env=pure cl/\(∀y c,cl.lookup y=some c->env.cells.lookup y=some c)/\∀p∈scope.names,p.2=.free->∃c,cl.lookup p.1=some c:=by
 have key:∃cl,closureFor scope env=pure cl/\(∀y c,cl.lookup y=some c->([]:List (Str×Addr)).lookup y=some c\/env.cells.lookup y=some c)/\(∀y,(([]:List (Str×Addr)).lookup y).isSome=true->(cl.lookup y).isSome=true) /\
   ∀p∈scope.names,p.2=.free->(cl.lookup p.1).isSome=true:=by
  simp only[closureFor];have go:=@gU env (λx r=>if x.2==NameKind.free then (do let c <- cellOf env x.1;pure (ForInStep.yield ((x.1,c)::r))) else pure (ForInStep.yield r)) scope.names [] ?_;obtain⟨cl,h1,h2⟩:=go;refine⟨cl,?_,h2⟩
  first
   | (show (forIn scope.names [] _ >>= λcs=>pure cs)=_;rw[h1];rfl)
   | (rw[h1];rfl)
   |exact congrArg (· >>= pure) h1
  intro p hp r;refine⟨λhf=>?_,λhf=>?_⟩;obtain⟨c,hc⟩:=h p hp hf;refine⟨c,hc,?_⟩;have e1:(p.2==NameKind.free)=true:=by rw[hf];rfl
  have e2:cellOf env p.1=pure c:=by unfold cellOf;rw[hc]
  rw[e1,if_pos rfl,e2];rfl;have e1:(p.2==NameKind.free)=false:=by simpa using hf
  rw[e1,if_neg (by decide)]
 obtain⟨cl,h1,h2,h3,h4⟩:=key;refine⟨cl,h1,λy c e=>?_,λp hp hf=>Option.isSome_iff_exists.mp (h4 p hp hf)⟩;rcases h2 y c e with z|z
 rw[List.lookup_nil] at z;cases z;exact z
theorem kh{scope:Scope}{env:Env}(y:Str):(relabel scope env).names.lookup y =
  (scope.names.lookup y).map λk=>if (k==.free && env.scope.kind==.function && env.kindOf y==some .cell)=true then .cell else k:=by
 have key:∀l:List (Str×NameKind),(l.map λ(n,k)=>if (k==NameKind.free && env.scope.kind==.function && env.kindOf n==some .cell) then (n,NameKind.cell) else (n,k)).lookup y =
   (l.lookup y).map λk=>if (k==.free && env.scope.kind==.function && env.kindOf y==some .cell)=true then .cell else k:=by
  intro l;induction l with
  |nil=>rfl
  |cons p l ih=>
    obtain⟨n,k⟩:=p;rw[fS];show List.lookup y ((if (k==NameKind.free && env.scope.kind==.function && env.kindOf n==some .cell)=true then (n,NameKind.cell) else (n,k))::_)=_;by_cases hc:(k==NameKind.free && env.scope.kind==.function && env.kindOf n==some .cell)=true;rw[if_pos hc,G1,G1];cases hy:y==n with
    |true=>have ey:y=n:=eq_of_beq hy;subst ey;show some NameKind.cell=some (if _ then _ else _);rw[if_pos hc]
    |false=>exact ih
    rw[if_neg hc,G1,G1];cases hy:y==n with
    |true=>have ey:y=n:=eq_of_beq hy;subst ey;show some k=some (if _ then _ else _);rw[if_neg hc]
    |false=>exact ih
 exact key scope.names
end
noncomputable def jD(N ts:qai)(out sc:Scope):Bool :=
 (sc.kind==.function) && sc.names.all (λp=>(p.2 != .cell) && (p.2 != .free || out.names.lookup p.1==some .cell || out.names.lookup p.1==some .free) && (p.2 != .local || sc.names.lookup p.1==some .local))
  && N.all (λy=>sc.names.lookup y != some .local) && ts.all (λy=>sc.names.lookup y==some .local) && decide ((N++ts).Nodup)
structure om(N ts:qai)(out sc:Scope):Prop where
 kind:sc.kind=.function
 DI:∀p∈sc.names,p.2≠.cell
 fr:∀p∈sc.names,p.2=.free->out.names.lookup p.1=some .cell\/out.names.lookup p.1=some .free
 names:∀p∈sc.names,p.2=.local->sc.names.lookup p.1=some .local
 own:∀y∈N,sc.names.lookup y≠some .local
 tgt:∀y∈ts,sc.names.lookup y=some .local
 nd:(N++ts).Nodup
theorem rh{N ts:qai}{out:Scope}(h:jD N ts out sc=true):om N ts out sc:=by unfold jD at h;rw[jm,jm,jm,jm] at h;obtain⟨⟨⟨⟨h1,h2⟩,h3⟩,h4⟩,h5⟩:=h;rw[K2] at h2 h3 h4;refine⟨eq_of_beq h1,λp hp=>?_,λp hp hf=>?_,λp hp hl=>?_,λy hy=>?_,λy hy=>?_,of_decide_eq_true h5⟩;have:=h2 p hp;rw[jm,jm] at this;simpa using this.1.1;have:=h2 p hp;rw[jm,jm] at this;have q:=this.1.2;rw[hf] at q;simpa using q;have:=h2 p hp;rw[jm,jm] at this;have q:=this.2;rw[hl] at q;simpa using q;simpa using h3 y hy;simpa using h4 y hy
noncomputable def bD(X:Cx)(ts:qai)(sc:Scope)(cl:List (Str×Addr))(C:Addr)(fp:qah)(s:Shared)(H:Hp):Cx where
 prog:=X.prog
 w:=X.w
 K:=X.K
 mg:=X.mg
 base:=X.base
 A:=X.A
 N:=X.N++ts
 s₀:=s
 H₀:=H
 env:=compEnvC sc cl C X.env
 outer:=X.stack
 stack:=X.stack
 ex:=fp
 fn:=λ_=>false
 calm:=X.calm
 pn:=[]
 xe:=λ_ _=>False
section
variable{s:Shared}{ts:qai}{cl:List (Str×Addr)}{D:Addr}
theorem rj(hS:om X.N ts X.env.scope sc)(h:jA (relabel sc X.env) y):sc.names.lookup y=some .local\/(sc.names.lookup y=some .free/\((relabel sc X.env).names.lookup y=some .cell\/(relabel sc X.env).names.lookup y=some .free)):=by
 have e:=kh (scope:=sc) (env:=X.env) y;cases hk:sc.names.lookup y with
 |none=>rw[hk] at e;have e':(relabel sc X.env).names.lookup y=none:=e;obtain h|h|h:=h<;>rw[e'] at h<;>cases h
 |some k=>
  have hm:(y,k)∈sc.names:=K0 hk;rw[hk] at e;cases k with
  |«local»=>exact .inl rfl
  |cell=>exact absurd rfl (hS.DI _ hm)
  |free=>refine .inr ⟨rfl,?_⟩;rw[e,QV];by_cases hc:(NameKind.free==.free && X.env.scope.kind==.function && X.env.kindOf y==some .cell)=true;rw[if_pos hc];exact .inl rfl;rw[if_neg hc];exact .inr rfl
  |globalExplicit=>have e':(relabel sc X.env).names.lookup y=some .globalExplicit:=e;obtain h|h|h:=h<;>rw[e'] at h<;>cases h
  |globalImplicit=>have e':(relabel sc X.env).names.lookup y=some .globalImplicit:=e;obtain h|h|h:=h<;>rw[e'] at h<;>cases h
theorem zN(I:Inv X pins σ H s)(hf:∀b∈fp,lg X pins H b):∀b∈fp,b∉CT X.stack:=λb hb z=>by
 obtain⟨_,f1,f2,_⟩:=hf b hb;rcases cT.mp (I.xN b z) with e|e
 exact f1 e;exact f2 e
theorem HZ(I:Inv X pins σ H s)(hf:∀b∈fp,lg X pins H b)(RX:∀b∈fp,∃o,s.heap.get? b=some o)(hS:om X.N ts X.env.scope sc)(c1:∀y c,cl.lookup y=some c->X.env.cells.lookup y=some c)(c2:∀p∈sc.names,p.2=.free->∃c,cl.lookup p.1=some c)(hC:s.heap.objs.size<=C)(hD:s.heap.objs.size<=D)(U9:D≠C){h1:Heap}{m:qae}{t:Nat}(k:∀b o,s.heap.get? b=some o->h1.get? b=some o)(hn:h1.Ns C m)(hd:h1.get? D=some {cls:=.type "list",data:=.seq ([]:qag).toArray n}) :
  Inv (bD X ts sc cl C fp s H) [] (σ++ts.map λ_=>none) (upd H D (.lst [])) {s with heap:=h1,toks:=t}:=by
 have sz:=I.sz;have WS:∀b∈fp,b<s.heap.objs.size:=λb hb=>by obtain⟨o,e⟩:=RX b hb;exact fF e
 have Hv:∀y c,cl.lookup y=some c->c<s.heap.objs.size:=λy c e=>by obtain⟨v,q⟩:=I.cell y c (c1 y c e);exact q.lt
 have ok:(bD X ts sc cl C fp s H).Ok:=by
  refine⟨I.ok.mod,hS.kind,I.ok.glob,I.ok.blt,hC,λx y c e1 e2=>I.ok.inj x y c (c1 x c e1) (c1 y c e2),λx hx=>?_,λx c hx=>absurd hx (by simp[bD]),I.ok.hd,I.ok.frames,.inl rfl,λb hb=>?_,λb o e=>I.bs b o e,
   m7 I.ok.CU sz,λb o e hb=>?_,zN I hf,I.stack,λb hb=>I.zC b hb⟩
  have hv:jA (relabel sc X.env) x:=by
   obtain hx|hx:=hx
   exact .inr (.inl hx);exact .inr (.inr hx)
  rcases rj hS hv with z|⟨z,_⟩
  have e:=kh (scope:=sc) (env:=X.env) x;rw[z] at e;have e':(relabel sc X.env).names.lookup x=some .local:=e;have U_:(relabel sc X.env).names.lookup x=some .cell\/(relabel sc X.env).names.lookup x=some .free:=hx;rw[e'] at U_;obtain q|q:=U_<;>cases q
  exact c2 _ (K0 z) rfl;exact⟨λe=>absurd (qT (WS b hb) hC) (by have e':b=C:=e;rw[e'];exact CP _),λx c e z=>(hf b hb).2.2.2.2.1 x c (c1 x c e) z⟩;rcases (hf b hb).2.2.2.1 with z|z
  exact I.ok.xM b o e z;exact absurd (qT (fF e) (m7 I.ok.CU z)) (CP _)
 have hnD:H D=none:=I.b_.fresh hD;refine⟨ok,rfl,I.bare,Un.laid k hD hnD,⟨m,hn,λi x v e1 e2 e3=>?_⟩,λx c e=>?_,?_,λx c e=>?_,λp hp=>absurd (show p∈([]:qaa) from hp) (by simp),I.b_.laid k hD ⟨ji _,[],n,.nil,hd⟩,?_⟩;have hi:i<σ.length:=by
  by_cases hi:i<σ.length;exact hi;rw[uI (by omega),ij] at e2;cases q:ts[i-σ.length]? with
  |none=>rw[q] at e2;cases e2
  |some a=>rw[q] at e2;cases e2
 have Hb:σ[i]?=some (some v):=by rw[qg hi] at e2;exact e2
 have Y6:X.N[i]?=some x:=by have RY:(X.N++ts)[i]?=some x:=e1;rw[qg (by rw[<- I.len];exact hi)] at RY;exact RY
 rcases rj hS e3 with z|⟨z,zr⟩
 exact absurd z (hS.own x (fR Y6));have hm:=K0 z;have ho:=hS.fr _ hm rfl;obtain⟨m0,_,hl⟩:=I.loc;obtain⟨u,r,l⟩:=hl i x v Y6 Hb (.inr ho);obtain⟨c',qh⟩:=c2 _ hm rfl;obtain⟨l,_⟩|⟨_,c,hc,z2⟩:=l
 have l':X.env.scope.names.lookup x=some .local:=l;rw[l'] at ho;obtain q|q:=ho<;>cases q
 have ec:=c1 x c' qh;rw[hc] at ec;cases ec;exact⟨u,r,.inr ⟨zr,_,qh,z2.keeps k⟩⟩;obtain⟨v,z⟩:=I.cell x c (c1 x c e);exact⟨v,z.keeps k⟩;show upd H D (.lst []) C=none;rw[az (Ne.symm U9)];exact I.b_.fresh hC;show upd H D (.lst []) c=none;rw[az (j4 (qT (Hv x c e) hD))];exact I.gu x c (c1 x c e);show (σ++ts.map λ_=>none).length=(X.N++ts).length;rw[k7,k7,cW,I.len]
theorem uZ(I:Inv X pins σ H s)(hf:∀b∈fp,lg X pins H b){zE:qaa}{σ':St}(J:Inv (bD X ts sc cl C fp s H) zE σ' H' s'):Inv X pins σ H' s' :=
 I.Q3 J.os J.base J.b_ J.bare λb hb=>by obtain⟨_,f1,_,f3,f4,f5⟩:=hf b hb;exact⟨f3,f1,f4,f5⟩
end
section
variable{R:Result->Shared->Prop}{s:Shared}
theorem jj{elt target:Expr}{ifs:qap}{scope:Scope}{pos:Pos}{it acc:Value}{env:Env}(I:Nat->Shared->Prop)(turn:∀n s,I n s->wpAny (model prog w) A (pyNext it) (λr s₁=>match r with
    |none=>R (.ok .next) s₁
    |some v=>wpAny (model prog w) A (letOwnedTupleGo target it v) (λ_ Y7=>wpAny (model prog w) A (assign target env v) (λ_ s₂=>
       wpAny (model prog w) A (forIn ifs true λc r=>if r=true then do let ok <- isTrue c env (eval c env);pure (ForInStep.yield ok) else pure (ForInStep.yield r)) (λok s₃=>
        if ok=true then wpAny (model prog w) A (eval elt env) (λx s₄=>
         wpAny (model prog w) A (call (.builtin "list.append") [acc,x]) (λ_ s₅=>∃m,m<n/\I m s₅) (notedBy (model prog w) A env λe s'=>R (.error e) s') s₄) (notedBy (model prog w) A env λe s'=>R (.error e) s') s₃
        else ∃m,m<n/\I m s₃) (notedBy (model prog w) A env λe s'=>R (.error e) s') s₂) (notedBy (model prog w) A env λe s'=>R (.error e) s') Y7)
       (notedBy (model prog w) A env λe s'=>R (.error e) s') s₁) (notedBy (model prog w) A env λe s'=>R (.error e) s') s)(n:Nat)(h:I n s):codeAny (model prog w) A (.compLoop (.ListComp elt [⟨target,iter,ifs,0⟩] scope pos) 0 it acc env) R s:=by
 refine codeAny_loop rfl I (λn s hI=>?_) n h;show wpAny _ A ((compTurn (.ListComp elt [⟨target,iter,ifs,0⟩] scope pos) 0 it acc env).onRaise (λx=>do noteFrame x env;theTreesLotGoes x)) _ _ s;refine wpAny_noted ?_;rw[compTurn_list];refine wpAny_bind (wpAny_standAt (wpAny_bind (wpAny_mono (turn n s hI) (λr s₁ h₁=>?_) λ_ _ h'=>h')));cases r with
 |none=>exact wpAny_pure h₁
 |some v=>
   refine wpAny_bind (wpAny_mono h₁ (λ_ Y7 h₁'=>?_) λ_ _ h'=>h');refine wpAny_bind (wpAny_mono h₁' (λ_ s₂ h₂=>wpAny_bind (wpAny_mono h₂ (λok s₃ h₃=>?_) λ_ _ h'=>h')) λ_ _ h'=>h');cases ok with
   |false=>exact wpAny_pure ⟨rfl,h₃⟩
   |true=>exact wpAny_bind (wpAny_bind (wpAny_mono h₃ (λx s₄ h₄=>wpAny_bind (wpAny_mono h₄ (λ_ s₅ h₅=>wpAny_pure (wpAny_pure ⟨rfl,h₅⟩)) λ_ _ h'=>h')) λ_ _ h'=>h'))
end
def DJ(X:Cx)(ifs:qap)(t:TT):Prop :=
 ∀(pins:qaa)(s:Shared)(σ:St)(H:Hp)(Q:Bool->Hp->Prop),Inv X pins σ H s->t σ H Q ->
  wpAny (model X.prog X.w) X.A (forIn ifs true λc r=>if r=true then do let ok <- isTrue c X.env (eval c X.env);pure (ForInStep.yield ok) else pure (ForInStep.yield r)) (TP X pins σ Q) X.xe s
def WT:TT:=λ_ H Q=>Q true H
theorem H_:DJ X [] WT:=λ_ _ _ H _ I h=>wpAny_tests_nil ⟨H,I,h⟩
theorem Ia{t:TT}(h:PT X c t):DJ X [c] t:=λpins s σ H Q I hw=>wpAny_tests_one (h pins s σ H Q I hw)
def DK(J:It)(g:TG)(tt:TT)(te:TE)(n:Nat)(σ:St)(D:Addr)(Q:Hp->Prop)(H1:Hp):Prop :=
 ∃W:Nat->Nat->qak->Hp->Prop,(∃m,W 0 m [] (upd H1 D (.lst [])))/\∀i m acc H2,W i m acc H2->H2 D=some (.lst acc) /\
  ((J.stop i H2/\Q H2)\/(J.go i H2/\acc.length<sizeLine/\∀x H3,J.Rc i H2 x H3->g x (σ++List.replicate n none) H3 λσ4 H4=>(σ4.length=σ.length+n/\∀(i:Nat) v,σ[i]?=some (some v)->σ4[i]?=some (some v)) /\
   tt σ4 H4 λb H5=>if b=true then te σ4 H5 λy H6=>H6 D=some (.lst acc)/\∃m',m'<m/\W (i+1) m' (acc++[y]) (upd H6 D (.lst (acc++[y]))) else ∃m',m'<m/\W (i+1) m' acc H5))
section
variable{s:Shared}{ts:qai}{cl:List (Str×Addr)}
theorem Br{Y:Cx}{pl:qaa}{σ4:St}(I:Inv Y pl σ4 H' s')(hl:σ4.length=σ.length+n)(hs:∀(i:Nat) v,σ[i]?=some (some v)->σ4[i]?=some (some v)) :
  Inv Y pl (σ++List.replicate n none) H' s':=by
 refine I.weak (by rw[k7,KY,hl]) λi v e=>?_;by_cases hi:i<σ.length;rw[qg hi] at e;exact hs i v e;rw[uI (by omega),zy] at e;split at e<;>cases e
theorem u_{elt tg:Expr}{ifs:qap}{pos:Pos}{tn:Nat->Heap->Prop}{J:It}{g:TG}{tt:TT}{Q:Hp->Prop}{RR:Value->Addr->Result->Shared->Prop}(hc:X.calm=true)(I:Inv X pins σ H s)(T:Turn X.prog X.w X.K tg J fp it tn)(st:tn 0 s.heap)(hf:∀b∈fp,lg X pins H b)(hS:om X.N ts X.env.scope sc)(c1:∀y c,cl.lookup y=some c->X.env.cells.lookup y=some c)(c2:∀p∈sc.names,p.2=.free->∃c,cl.lookup p.1=some c)(hg:∀C,PG (bD X ts sc cl C fp s H) tg g)(ht:∀C,DJ (bD X ts sc cl C fp s H) ifs tt)(he:∀C,PE (bD X ts sc cl C fp s H) elt te)(hw:DK J g tt te ts.length σ s.heap.objs.size Q H)(fin:∀(C:Addr) (H':Hp) (s':Shared) (σ':St),s.heap.objs.size<=C->Inv (bD X ts sc cl C fp s H) [] σ' H' s'->Q H'->RR (.ref s.heap.objs.size) C (.ok .next) s') :
  wpAny (model X.prog X.w) X.A (newList []) (λacc s₃=>wpAny (model X.prog X.w) X.A (newFunctionEnv sc X.env.globals cl [] X.env.qual none .none (some X.env)) (λRZ s₄=>
   codeAny (model X.prog X.w) X.A (.compStart (.ListComp elt [⟨tg,iter,ifs,0⟩] sc pos) 0 (.ref it) acc {RZ with scope:=relabel sc X.env}) (RR acc RZ.locals) s₄) E s₃) E s:=by
 obtain⟨W,⟨m0,w0⟩,turn⟩:=hw;have WU:=T.obj 0 _ st;have RX:∀b∈fp,∃o,s.heap.get? b=some o:=λb hb=>let ⟨o,e,_⟩:=WU b hb;⟨o,e⟩;refine wpAny_newObj_type (wpAny_newFunctionEnv hS.DI (by intro y hy;simp at hy) (λh₁ Nj Ib=>?_) hS.kind);dsimp only at Nj Ib ⊢;generalize WV:s.heap.push {cls:=.type "list",dict:=none,data:=.seq ([]:qag).toArray}=H2 at Nj Ib ⊢;have hC:H2.objs.size=s.heap.objs.size+1:=by rw[<- WV,C9]
 have U9:s.heap.objs.size≠H2.objs.size:=by rw[hC];exact j4 (C7 _)
 have R0:s.heap.objs.size<=H2.objs.size:=by rw[hC];exact G7 _
 have below:∀b,b<s.heap.objs.size->b≠H2.objs.size/\b≠s.heap.objs.size:=λb hb=>⟨by rw[hC];exact j4 (Qj hb),j4 hb⟩;have old:∀b o,s.heap.get? b=some o->h₁.get? b=some o:=λb o e=>Ib.extBut b o (below b (fF e)).1 (fE _ (WV▸fE _ e));have WW:h₁.get? s.heap.objs.size=some {cls:=.type "list",data:=.seq ([]:qag).toArray}:=Ib.extBut _ _ U9 (fE _ (WV▸k6 _ rfl));have R1:tn 0 h₁:=T.keep _ _ _ st λb hb o e=>old b o e;have fresh:H s.heap.objs.size=none:=I.b_.fresh (cU _);have gP:∀{H':Hp},(∀b∈fp,H' b=none)->∀b∈fp,lg (bD X ts sc cl H2.objs.size fp s H) [] H' b:=λ{H'} hn b hb=>by obtain⟨o,e⟩:=RX b hb;refine⟨hn b hb,λz=>?_,zN I hf b hb,.inl hb,λx c e z=>(hf b hb).2.2.2.2.1 x c (c1 x c e) z,λp hp=>absurd (show p∈([]:qaa) from hp) (by simp)⟩;have z':b=H2.objs.size:=z;exact (below b (fF e)).1 z'
 have rk:∀b∈fp,(upd H s.heap.objs.size (.lst [])) b=none:=λb hb=>by obtain⟨o,e⟩:=RX b hb;rw[az (j4 (fF e))];exact (hf b hb).1
 have eN:(ts.map λ_=>(none:Option V))=List.replicate ts.length none:=List.map_const';have loop:∀s₃:Shared,s₃={s with heap:=h₁,toks:=s.toks+([]:List (Str×Value)).length} ->
   codeAny (model X.prog X.w) X.A (.compLoop (.ListComp elt [⟨tg,iter,ifs,0⟩] sc pos) 0 (.ref it) (.ref s.heap.objs.size) (compEnvC sc cl H2.objs.size X.env)) (RR (.ref s.heap.objs.size) H2.objs.size) s₃:=by
  rintro s₃ rfl;have J0:=HZ (ts:=ts) (t:=s.toks+([]:List (Str×Value)).length) I hf RX hS c1 c2 R0 (cU _) U9 old Nj WW;rw[eN] at J0;refine jj (λn s'=>∃i acc H',Inv (bD X ts sc cl H2.objs.size fp s H) [] (σ++List.replicate ts.length none) H' s'/\tn i s'.heap/\(∀b∈fp,H' b=none)/\W i n acc H') ?_ m0 ⟨0,[],_,J0,R1,rk,w0⟩;rintro n s3 ⟨i,acc,H3,J3,Rj,Rk,w3⟩;obtain⟨hD3,alt⟩:=turn i n acc H3 w3;obtain⟨stop,q⟩|⟨go,hz,step⟩:=alt
  . refine bY (T.done (bD X ts sc cl H2.objs.size fp s H) rfl rfl rfl hc i [] s3 _ H3 _ J3 (gP Rk) Rj stop) λr s4 ⟨hr,J4⟩=>?_;subst hr;exact fin _ H3 s4 _ R0 J4 q
  refine bY (T.item (bD X ts sc cl H2.objs.size fp s H) rfl rfl rfl hc i [] s3 _ H3 _ J3 (gP Rk) Rj go) λr s4 ⟨u,hr,h4⟩=>?_;subst hr;refine bY h4 λ_ s5 ⟨x,H5,J5,r5,y5,MP,Wy⟩=>?_;have J5':=J5.pinned (gP Wy) (T.obj _ _ MP);have again:∀{σ7:St}{H7:Hp}{s7:Shared},Inv (bD X ts sc cl H2.objs.size fp s H) ([]++nZ fp s5.heap) σ7 H7 s7->(σ7.length=σ.length+ts.length/\∀(i:Nat) v,σ[i]?=some (some v)->σ7[i]?=some (some v))->∀Nk m',W (i+1) m' Nk H7->m'<n ->
    ∃m,m<n/\∃i acc H',Inv (bD X ts sc cl H2.objs.size fp s H) [] (σ++List.replicate ts.length none) H' s7/\tn i s7.heap/\(∀b∈fp,H' b=none)/\W i m acc H':=λ{σ7 H7 s7} I7 hσ Nk m' w7 hm=>by
   refine⟨m',hm,i+1,Nk,H7,Br I7.ke hσ.1 hσ.2,T.keep _ _ _ MP λb hb o e=>(I7.pin (b,o) (bK _ (bK _ (gR hb e)))).1,λb hb=>?_,w7⟩;obtain⟨o,e,d⟩:=T.obj _ _ MP b hb;exact (I7.pin (b,o) (bK _ (bK _ (gR hb e)))).2.1
  refine wpAny_mono (hg H2.objs.size _ s5 _ H5 x u _ J5' r5 (step x H5 y5)) (λ_ s6 ⟨σ6,H6,J6,hσ,q6⟩=>?_) λ_ _ z=>False.elim z;refine wpAny_mono (ht H2.objs.size _ s6 σ6 H6 _ J6 q6) (λb s7 ⟨H7,J7,q7⟩=>?_) λ_ _ z=>False.elim z;cases b with
  |false=>obtain⟨m',hm,w7⟩:=q7;exact again J7 hσ acc m' w7 hm
  |true=>show wpAny _ _ _ _ _ _;refine wpAny_mono (he H2.objs.size _ s7 σ6 H7 _ J7 q7) (λy s8 ⟨yv,H8,J8,ry,hD8,m',hm,w8⟩=>?_) λ_ _ z=>False.elim z;refine wpAny_mono (c7 (X:=bD X ts sc cl H2.objs.size fp s H) _ s8 σ6 H8 (.ref s.heap.objs.size) [yv] (.ref s.heap.objs.size) [y] (λv H9=>v=.aQ/\H9=upd H8 s.heap.objs.size (.lst (acc++[yv]))) J8 rfl (.cons ry .nil) ⟨_,acc,yv,rfl,rfl,hD8,hz,rfl,rfl⟩) (λv9 s9 ⟨v,H9,J9,_,_,e9⟩=>?_) λ_ _ z=>False.elim z;subst e9;exact again J9 hσ (acc++[yv]) m' w8 hm
 exact codeAny_compStart_list (loop _ rfl) (T.self _ 0 _ _ _ R1 (loop _ rfl))
def DN(n:Nat)(wi:TI)(g:TG)(tt:TT)(te:TE):TE:=λσ H Q=>wi σ H λJ H1=>∀D,H1 D=none->DK J g tt te n σ D (Q (.ref D)) H1
theorem vd(I:Inv X pins σ H s)(hS:om X.N ts X.env.scope sc):∀p∈sc.names,p.2=.free->∃c,X.env.cells.lookup p.1=some c:=λp hp hf=>by
 rcases hS.fr p hp hf with z|z
 exact I.ok.has p.1 (.inl z);exact I.ok.has p.1 (.inr z)
theorem Ic{elt tg:Expr}{ifs:qap}{pos:Pos}{wi:TI}{g:TG}{tt:TT}(hc:X.calm=true)(hS:jD X.N ts X.env.scope sc=true)(hi:PI X tg iter wi)(hg:∀cl C fp s H,PG (bD X ts sc cl C fp s H) tg g)(ht:∀cl C fp s H,DJ (bD X ts sc cl C fp s H) ifs tt)(he:∀cl C fp s H,PE (bD X ts sc cl C fp s H) elt te)(hs:∀x,foldedSetIterable iter X.env x=pure x:=by intro _;rfl):PE X (.ListComp elt [⟨tg,iter,ifs,0⟩] sc pos) (DN ts.length wi g tt te):=by intro pins s σ H Q I h;have S:=rh hS;obtain⟨cl,Qr,c1,c2⟩:=ic (vd I S);rw[eval_ListComp];refine wpAny_comprehension_free (use:=none) rfl hs Qr S.kind S.names ?_;refine bY (hi pins s σ H _ I h) λv s1 h1=>bY h1 λU2 s2 h2=>?_;obtain⟨it,fp,tn,J,H2,e,I2,T,uS,f2,q2⟩:=h2;subst e;refine u_ (E:=X.xe) (RR:=λacc C=>compPost (model X.prog X.w) X.A X.xe none (EP X pins σ Q) acc C) hc I2 T uS f2 S c1 c2 (λC=>hg cl C fp s2 H2) (λC=>ht cl C fp s2 H2) (λC=>he cl C fp s2 H2) (q2 _ (I2.b_.fresh (cU _))) ?_;intro C H' s' σ' hC J' q';obtain⟨m,hn,_⟩:=J'.loc;refine⟨m,hn,λh' sb=>?_⟩;have I':=uZ I2 f2 J';have fk:=I2.m9 (H':=H') hC J'.free;obtain⟨f0,f1,_,f3,f4,f5⟩:=fk;exact⟨.ref _,H',I'.turned (t':=s'.toks) (λb o hb e=>(sb.2 b hb).trans e) f0 f1 f3 f4 f5,rfl,q'⟩
theorem Ie{py:Pos}{vf:Pos}{elt tg:Expr}{ifs:qap}{pos:Pos}{wi:TI}{g:TG}{tt:TT}(hN:X.N.Nodup)(hy:X.N[i]?=some y)(hx:Loc X.env.scope y)(hc:X.calm=true)(hS:jD X.N ts X.env.scope sc=true)(hi:PI X tg iter wi)(hg:∀cl C fp s H,PG (bD X ts sc cl C fp s H) tg g)(ht:∀cl C fp s H,DJ (bD X ts sc cl C fp s H) ifs tt)(he:∀cl C fp s H,PE (bD X ts sc cl C fp s H) elt te)(Ig:swapsWith (.ListComp elt [⟨tg,iter,ifs,0⟩] sc pos) (some (.Name y py)) vf.line X.env=pure true:=by rfl)(hs:∀x,foldedSetIterable iter X.env x=pure x:=by intro _;rfl)(hf:X.fn y=true\/X.env.scope.names.lookup y=some .local:=by first|exact .inl rfl|exact .inr rfl|assumption) :
  PS X (.Assign [.Name y py] (.ListComp elt [⟨tg,iter,ifs,0⟩] sc pos) vf) (HB (DN ts.length wi g tt te) (jo i)):=by
 intro pins s σ H D I h;have S:=rh hS;obtain⟨cl,Qr,c1,c2⟩:=ic (vd I S);rw[exec_Assign_Name_used _ _ _ _ Ig];refine wpAny_bind (wpAny_standAt (wpAny_bind ?_));show wpAny _ X.A (do let _ <- comprehension (.ListComp elt [⟨tg,iter,ifs,0⟩] sc pos) sc X.env _ (newList []) false (eval iter X.env) (some (assign (.Name y py) X.env))) _ _ s;refine wpAny_bind (wpAny_mono (wpAny_comprehension_free (use:=some (assign (.Name y py) X.env)) (Q:=λ_ s'=>SP X pins D .next s') (E:=X.xe) rfl hs Qr S.kind S.names ?_) (λ_ s' hq=>wpAny_pure (wpAny_pure hq)) λ_ _ e=>e);refine bY (hi pins s σ H _ I h) λv s1 h1=>bY h1 λU2 s2 h2=>?_;obtain⟨it,fp,tn,J,H2,e,I2,T,uS,f2,q2⟩:=h2;subst e;refine u_ (E:=X.xe) (RR:=λacc C=>compPost (model X.prog X.w) X.A X.xe (some (assign (.Name y py) X.env)) (λ_ s'=>SP X pins D .next s') acc C) hc I2 T uS f2 S c1 c2 (λC=>hg cl C fp s2 H2) (λC=>ht cl C fp s2 H2) (λC=>he cl C fp s2 H2) (q2 _ (I2.b_.fresh (cU _))) ?_;intro C H' s' σ' hC J' q';obtain⟨m,hn,_⟩:=J'.loc;have I':=uZ I2 f2 J';have fk:=I2.m9 (H':=H') hC J'.free;obtain⟨f0,f1,_,f3,f4,f5⟩:=fk;show wpAny _ X.A (assign (.Name y py) X.env (.ref s2.heap.objs.size)) _ _ s';refine wpAny_assign_Name (qW (v:=.ref s2.heap.objs.size) I' hN hy hx rfl (λs3 I3 ⟨a,sb,ha⟩=>?_) hf);have hCa:C≠a:=by
  obtain z|z:=ha
  rw[z];exact f1;exact λe=>f4 y a z e.symm
 refine⟨m,hn.sameBut sb hCa,λh' sb'=>?_⟩;exact⟨_,H',I3.turned (t':=s3.toks) (λb o hb e=>(sb'.2 b hb).trans e) f0 f1 f3 f4 f5,q'⟩
end
def U'(x:Str):It:=⟨λi _=>i<x.cps.size,λi H v H'=>H'=H/\∃c,x.cps[i]?=some c/\v=.str ⟨#[c]⟩,λi _=>x.cps.size<=i⟩
theorem di(x:Str):(strIterType x="str_ascii_iterator")\/(strIterType x="str_iterator"):=by unfold strIterType;cases x.cps.all (·<128);exact .inr rfl;exact .inl rfl
theorem DO{tg:Expr}(x:Str)(t:Tok)(it:Addr):Turn P w K tg (U' x) [it] it (λi h=>h.IsStrIter it (strIterType x) x t i) where
 mem:=by simp
 obj:=λi h st b hb=>by
  have e:b=it:=by simpa using hb
  subst e;obtain⟨o,e,c,d⟩:=st;exact⟨o,e,λv z=>by rw[d] at z;cases z⟩
 keep:=λi h h' st k=>by obtain⟨o,e,c,d⟩:=st;exact⟨o,k it (by simp) o e,c,d⟩
 item:=by
  intro X hP hw hK hc i pins s σ H E I hf st hg;subst hP hw hK;obtain⟨f0,f1,f2,f3,f4,f5⟩:=hf it (by simp);have hi:i<x.cps.size:=hg;have hx:x.cps[i]?=some x.cps[i]:=by simp[hi]
  have fin:∀h',h'.IsStrIter it (strIterType x) x t (i+1)->Heap.SameBut it s.heap h'->∃u,(some (Value.str ⟨#[x.cps[i]]⟩ s.toks):Option Value)=some u /\
    wpAny (model X.prog X.w) X.A (letOwnedTupleGo tg (.ref it) u) (λ_ s2=>∃y H',Inv X pins σ H' s2/\RelV y u/\(U' x).Rc i H y H'/\Heap.IsStrIter s2.heap it (strIterType x) x t (i+1)/\∀b∈[it],H' b=none) E {s with heap:=h',toks:=s.toks+1}:=λh' xR sb=>by
   have I1:Inv X pins σ H {s with heap:=h',toks:=s.toks+1}:=I.turned (t':=s.toks+1) (λb o hb e=>(sb.2 b hb).trans e) f0 f1 f3 f4 f5;obtain⟨o,e,c,d⟩:=id xR;refine⟨_,rfl,zF (s:={s with heap:=h',toks:=s.toks+1}) e c d ?_ ⟨.str ⟨#[x.cps[i]]⟩,H,I1,⟨_,rfl⟩,⟨rfl,_,hx,rfl⟩,xR,λb hb=>(hf b hb).1⟩⟩;rcases di x with z|z<;>rw[z]<;>decide
  rcases di x with z|z
  rw[z] at st fin;refine wpAny_pyNext_ascii_item st hx λh' xR sb=>?_;have:=fin h' xR sb;rw[<- z] at this;simpa[z] using this;rw[z] at st fin;refine wpAny_pyNext_wide_item st hx λh' xR sb=>?_;have:=fin h' xR sb;simpa[z] using this
 done:=by
  intro X hP hw hK hc i pins s σ H E I hf st hg;subst hP hw hK;obtain⟨f0,f1,f2,f3,f4,f5⟩:=hf it (by simp);have hi:x.cps.size<=i:=hg;have hx:x.cps[i]?=none:=by simp[hi]
  rcases di x with z|z
  rw[z] at st;exact wpAny_pyNext_ascii_end (I.ok.hd hc) st hx λh' eb=>⟨rfl,I.turned (t':=s.toks) (λb o hb e=>eb b o hb e) f0 f1 f3 f4 f5⟩;rw[z] at st;exact wpAny_pyNext_wide_end (I.ok.hd hc) st hx λh' eb=>⟨rfl,I.turned (t':=s.toks) (λb o hb e=>eb b o hb e) f0 f1 f3 f4 f5⟩
 self:=λA i s Q E st h=>by
  rcases di x with z|z
  rw[z] at st;exact wpAny_pyIter_striter_ascii st h;rw[z] at st;exact wpAny_pyIter_striter_wide st h
section
variable{tg:Expr}
theorem oq(hc:X.calm=true):dF X (.builtin "all") (λxs H Q=>∃(p:Addr)(bs:List Bool),xs=[.ref p]/\eU X.K H p (bs.map V.bl)/\Q (.bl (bs.all id)) H):=by
 intro pins s σ H xs us Q I r h;obtain⟨p,bs,rfl,hq,q⟩:=h;obtain⟨u,rfl,rx⟩:=vals1 r;cases rx;obtain⟨aM,rv,pl,hz⟩:=I.list hq;refine call_all_walk (wpAny_pyIter_list pl.isList ?_);have gQ:p<s.heap.objs.size:=by obtain⟨o,n,e,_⟩:=pl;exact fF e
 have eW:p≠s.heap.objs.size:=j4 gQ;have hh:X.A.in1.handled=none:=I.ok.hd hc;refine⟨s.heap.objs.size,_,_,_,_,_,λi=>bs.getD i true,rfl,Walks.list hh s.heap.objs.size p eW aM.toArray,⟨⟨_,k6 _ rfl,rfl,rfl⟩,pl.isList.push _⟩,?_,λh' tk k=>?_⟩;intro i v s' Q' E' hP hQ;have R3:aM[i]?=some v:=by simpa using hP
 have hb:i<bs.length:=by have:=rv.length;have h2:=(fG.mp R3).1;rw[cW] at this;omega
 obtain⟨u,e1,r1⟩:=rv.get (i:=i) (x:=.bl bs[i]) (by simp[hb]);rw[R3] at e1;cases e1;obtain rfl:v=Value.bool bs[i]:=r1;have e3:bs.getD i true=bs[i]:=by simp[List.getD,hb]
 dsimp only at hQ;rw[e3] at hQ;exact wpAny_truthy_bool hQ;have hl:aM.toArray.size=bs.length:=by have:=rv.length;rw[cW] at this;rw[iq];omega
 have e:(List.range aM.toArray.size).all (λi=>bs.getD i true)=bs.all id:=by rw[hl,QW,K2,K2];constructor;intro h x hx;obtain⟨i,hi,e⟩:=List.mem_iff_getElem.mp hx;have:=h i (G4.mpr hi);simp only[List.getD,m6 hi,Option.getD_some] at this;rw[<- e];exact this;intro h i hi;have DP:=G4.mp hi;simp only[List.getD,m6 DP,Option.getD_some];exact h _ (K3 DP)
 rw[e];refine⟨.bl (bs.all id),H,?_,rfl,q⟩;have I0:Inv X pins σ H {s with heap:=s.heap.push {cls:=.type "list_iterator",data:=.fields #[.ref p,.int 0 0]} }:=I.kept (t':=s.toks) λb o e=>fE _ e;have fk:=I.m9 (H':=H) (cU s.heap.objs.size) I.fresh;obtain⟨f0,f1,_,f3,f4,f5⟩:=fk;exact I0.turned (t':=tk) (λb o hb e=>k b o (by simpa using hb) e) f0 f1 f3 f4 f5
theorem qk:HS X "str.startswith" (λx xs H Q=>∃z y,x=.str z/\xs=[.str y]/\Q (.bl (Txt.startswith z y)) H):=by intro pins s σ H x xs v us Q I rx rs h;obtain⟨z,y,rfl,rfl,q⟩:=h;obtain⟨t,rfl⟩:=rx;obtain⟨u,rfl,t',rfl⟩:=vals1 rs;exact SC.startswith ⟨.bl _,H,I,rfl,q⟩
theorem ot:∀{ys:qai}{us:qag},Vals (ys.map V.str) us->StrsAre us ys
 |[],us,r=>by rw[Hr] at r;cases r;exact .nil
 |y::ys,us,r=>by
  rw[fS] at r;cases r with
  |cons r1 r2=>obtain⟨t,e⟩:=r1;subst e;exact .cons y t (ot r2)
theorem Ih:HS X "str.join" (λx xs H Q=>∃(z:Str)(p:Addr)(ys:qai),x=.str z/\xs=[.ref p]/\eU X.K H p (ys.map V.str)/\(ys.map (·.length)).sum+ys.length * z.length<=16777216/\Q (.str (Txt.join z ys)) H):=by intro pins s σ H x xs v us Q I rx rs h;obtain⟨z,p,ys,rfl,rfl,hq,hz,q⟩:=h;obtain⟨t,rfl⟩:=rx;obtain⟨u,rfl,r1⟩:=vals1 rs;cases r1;obtain⟨aM,rv,pl,_⟩:=I.list hq;exact join_list pl.isList (by simpa using ot rv) hz λt' k=>⟨.str _,H,I.tok _,⟨_,rfl⟩,q⟩
def R4:V->Option Int->Option Int->Hp->VK->Prop:=λx lo hi H Q=>∃z,x=.str z/\z.length<=sizeLine/\Q (.str (Txt.slice z lo hi)) H
theorem Nl:Dy X R4:=by
 intro pins s σ H x v vl vu lo hi sl Q I rx hs pl pu h;obtain⟨z,rfl,hz,q⟩:=h;obtain⟨t,rfl⟩:=rx;obtain⟨o,e,c,d⟩:=hs;refine⟨"str",_,slot_str_getitem.lookup,typeIs_str _ _ _,?_⟩;cases pl with
 |none=>
  cases pu with
  |none=>exact wpAny_getItem_str_slice (l:=none) (u:=none) (st:=none) ⟨o,e,c,d⟩ rfl (post_val_or_str ⟨m7 (Txt.slice_le z _ _) hz,λt' k=>⟨.str _,H,I.tok _,⟨_,rfl⟩,q⟩⟩)
  |int j tj=>exact wpAny_getItem_str_slice (l:=none) (u:=some (j,tj)) (st:=none) ⟨o,e,c,d⟩ rfl (post_val_or_str ⟨m7 (Txt.slice_le z _ _) hz,λt' k=>⟨.str _,H,I.tok _,⟨_,rfl⟩,q⟩⟩)
 |int i ti=>
  cases pu with
  |none=>exact wpAny_getItem_str_slice (l:=some (i,ti)) (u:=none) (st:=none) ⟨o,e,c,d⟩ rfl (post_val_or_str ⟨m7 (Txt.slice_le z _ _) hz,λt' k=>⟨.str _,H,I.tok _,⟨_,rfl⟩,q⟩⟩)
  |int j tj=>exact wpAny_getItem_str_slice (l:=some (i,ti)) (u:=some (j,tj)) (st:=none) ⟨o,e,c,d⟩ rfl (post_val_or_str ⟨m7 (Txt.slice_le z _ _) hz,λt' k=>⟨.str _,H,I.tok _,⟨_,rfl⟩,q⟩⟩)
end
theorem aC{D:Addr}{o:HO}(h:H D=none):aK H (upd H D o):=λb u e=>by rw[az (aZ e h)];exact e
section
variable{s:Shared}
theorem Inv.grown{ch:qah}{t:Addr}{o:HO}(I:Inv X pins σ H s)(k:∀b u,b∉ch->s.heap.get? b=some u->h'.get? b=some u)(hf:∀b∈ch,lg X pins H b)(ht:s.heap.objs.size<=t)(new:cc X.prog X.w (upd H t o) h' t o):Inv X pins σ (upd H t o) {s with heap:=h',toks:=t'}:=by
 have hn:H t=none:=I.b_.fresh ht;have De:∀b u,H b=some u->b∉ch:=λb u e z=>by rw[(hf b z).1] at e;cases e
 refine I.step (g':=s.gens) (d':=s.drawn) (ch:=ch) (λb hb=>?_) (λb u _ _ hc e _=>k b u hc e) (λb u _ _ hc e _=>⟨u.slots,k b u hc e⟩) (λb u _ e n=>?_) (λb u hc e=>⟨u,k b u hc e⟩)
  (λb xs e=>?_) (λb u v e=>?_) (λb ps e=>⟨#[],?_⟩) (λm hm=>?_) (λb u e=>?_) I.bare
 obtain⟨_,f1,_,f3,f4,f5⟩:=hf b hb;exact⟨f3,f1,f4,f5⟩;rw[az (j4 (qT (fF e) ht))];exact n;rw[az (aZ e hn)];exact e;rw[az (aZ e hn)];exact e;rw[az (aZ e hn),e];simp;obtain⟨ob,es,ep,ho,r⟩:=hm;exact⟨ob,es,ep,k _ ob (λz=>(hf _ z).2.1 rfl) ho,r⟩;by_cases hb:b=t;subst hb;rw[aB] at e;cases e;exact new;rw[az hb] at e;refine (I.b_ b u e).si (λc v hc q=>k c v ?_ q) (λc q=>by rw[az (aZ q hn)];exact q) λc xs q=>by rw[az (aZ q hn)];exact q
 obtain z|z:=hc
 rw[z];exact De b u e;exact De c _ z
end
def WX(K:qaf)(a:Addr):It :=
 ⟨λi H=>∃xs x,eU K H a xs/\xs[i]?=some x,λi H v H'=>∃t x,H t=none/\v=.ref t/\(∀xs,eU K H a xs->xs[i]?=some x)/\H'=upd H t (.tup [.int (i:Int),x]),λi H=>∃xs,eU K H a xs/\xs.length<=i⟩
theorem Bs{x1}(a e it:Addr)(eW:e≠it) :
  Turn P w K (.Tuple elts x1 tp) (WX K a) [e,it] e (λi h=>(∃old,IsEnum h e it (i:Int) old)/\h.IsListIter it a i) where
 mem:=by simp
 obj:=λi h st b hb=>by
  obtain⟨⟨old,h1⟩,o,h2,c,d⟩:=st;rcases cT.mp hb with z|z
  subst z;exact⟨_,h1,λv z=>by cases z⟩;have z':b=it:=by simpa using z
  subst z';exact⟨o,h2,λv z=>by rw[d] at z;cases z⟩
 keep:=λi h h' st k=>by obtain⟨⟨old,h1⟩,uS⟩:=st;exact⟨⟨old,k e (by simp) _ h1⟩,uS.at λo q=>k it (by simp) o q⟩
 item:=by
  intro X hP hw hK hc i pins s σ H E I hf st hg;subst hP hw hK;obtain⟨xs,x,hq,hx⟩:=hg;obtain⟨aM,rv,p,hz⟩:=I.list hq;obtain⟨u,hu,ru⟩:=rv.get hx;obtain⟨⟨old,h1⟩,uS⟩:=st;refine wpAny_pyNext_enum_item h1 uS p.isList (x:=u) (by simpa using hu) eW λh₁ G8 Nn WY CZ WZ=>?_;refine⟨_,rfl,wpAny_letOwnedTupleGo_enum G8 λh₂ W0 ou=>?_⟩;have ki:Heap.SameBut e h₁ h₂:=ou;have gQ:e<s.heap.objs.size:=fF h1;have R5:s.heap.objs.size≠e:=CS gQ;have kk:∀b ob,b∉[e,it]->s.heap.get? b=some ob->h₂.get? b=some ob:=λb ob hb q=>by have A6:b≠e:=λz=>hb (by simp[z]);have hbi:b≠it:=λz=>hb (by simp[z]);exact (ki.2 b A6).trans (WZ b ob A6 hbi q)
  have new:cc X.prog X.w (upd H s.heap.objs.size (.tup [.int (i:Int),x])) h₂ s.heap.objs.size (.tup [.int (i:Int),x]) :=
   ⟨by show 2<=sizeLine;rw[sizeLine_eq];decide,[.int i s.toks,u],.cons ⟨_,rfl⟩ (.cons ru .nil),⟨_,(ki.2 _ R5).trans WY,rfl,_,rfl⟩⟩
  refine⟨.ref s.heap.objs.size,upd H s.heap.objs.size (.tup [.int (i:Int),x]),I.grown (t':=s.toks+1) kk hf (cU _) new,rfl,⟨_,x,I.fresh,rfl,λys hy=>by rw[I.kc hy hq];exact hx,rfl⟩,⟨⟨u,?_⟩,?_⟩,λb hb=>?_⟩;have:((i:Int)+1)=((i+1:Nat):Int):=by omega
  rw[<- this];exact W0;obtain⟨o,q,r⟩:=Nn;exact⟨o,(ki.2 it (Ne.symm eW)).trans q,r⟩;have Bt:b<s.heap.objs.size:=by
   rcases cT.mp hb with z|z
   subst z;exact gQ;have z':b=it:=by simpa using z
   subst z';obtain⟨o,q,_⟩:=uS;exact fF q
  rw[az (j4 Bt)];exact (hf b hb).1
 done:=by intro X hP hw hK hc i pins s σ H E I hf st hg;subst hP hw hK;obtain⟨xs,hq,hx⟩:=hg;obtain⟨aM,rv,p,hz⟩:=I.list hq;have hl:=rv.length;obtain⟨⟨old,h1⟩,uS⟩:=st;obtain⟨f0,f1,f2,f3,f4,f5⟩:=hf it (by simp);exact wpAny_pyNext_enum_end (I.ok.hd hc) h1 uS p.isList (by simp;omega) λh' eb=>⟨rfl,I.turned (t':=s.toks) (λb o hb q=>eb b o hb q) f0 f1 f3 f4 f5⟩
 self:=λ_ _ _ _ _ st h=>by obtain⟨⟨old,h1⟩,_⟩:=st;exact wpAny_pyIter_enum h1 h
def R6(K:qaf)(ta:TA):TI:=λσ H R=>ta σ H λvs H1=>∃a,vs=[.ref a]/\(∃xs,eU K H1 a xs)/\R (WX K a) H1
section
theorem boot_enumerate:bootBuiltins "enumerate"=some (.type "enumerate"):=by decide +kernel
theorem Ii{x1}{a:Expr}{ta:TA}{pos:Pos}(hg:Gl X "enumerate")(hm:X.mg "enumerate"=none)(ha:PA X [a] ta)(hs:starEach [a] X.env=[(false,eval a X.env)]:=by rfl) :
  PI X (.Tuple elts x1 tp) (.Call (.Name "enumerate" p) [a] [] pos) (R6 X.K ta):=by
 intro pins s σ H R I h;refine Call_ (ix I hg hm boot_enumerate (Qf (bY (ha pos pins s σ H _ I h) λus s1 ⟨vs,H1,I1,r1,q1⟩=>?_) hs rfl));obtain⟨b,e,⟨xs,hq⟩,q⟩:=q1;subst e;obtain⟨u,rfl,ru⟩:=vals1 r1;cases ru;obtain⟨aM,rv,pl,hz⟩:=I1.list hq;refine call_enumerate_list pl.isList λh' he hit hsz hk=>?_;have I2:Inv X pins σ H1 {s1 with heap:=h'}:=I1.kept (t':=s1.toks) hk;refine wpAny_pyIter_enum he ?_;refine⟨s1.heap.objs.size+1,[s1.heap.objs.size+1,s1.heap.objs.size],_,_,H1,rfl,I2,Bs b _ _ (CS (C7 _)),⟨⟨_,he⟩,hit⟩,λc hc=>?_,q⟩;rcases cT.mp hc with z|z
 subst z;exact I1.m9 (G7 _) (I1.b_.fresh (G7 _));have z':c=s1.heap.objs.size:=by simpa using z
 subst z';exact I1.m9 (cU _) I1.fresh
end
end L2
namespace ng
open PySem Builtin Builtin.Str
def bM:Str:="abcdefghijklmnopqrstuvwxyz"
noncomputable def Bu(c:Nat):Bool:=!(occurrences bM ⟨#[c]⟩ 0 bM.length 1).isEmpty
theorem Ij:Bu 46=false:=by decide +kernel
theorem yf:((".":String):Str)=⟨#[46]⟩:=by decide +kernel
noncomputable def cK(x:Str):Bool:=decide (1<=(x.length:Int)) && (decide ((x.length:Int)<=8) && x.cps.toList.all Bu)
noncomputable def ow(x:Str):Bool:=Txt.startswith x "." && cK (Txt.slice x (some 1) none)
theorem ql(h:x.cps.toList.all Bu=true):Txt.startswith x "."=false:=by
 obtain⟨⟨l⟩⟩:=x;rw[yf];unfold Txt.startswith subAt;cases l with
 |nil=>rfl
 |cons c r=>
  have hc:Bu c=true:=by have:=K2.mp h c (by simp);exact this
  have ne:c≠46:=λe=>by rw[e,Ij] at hc;cases hc
  have e1:(Array.extract ({toList:=c::r}:Array Nat) 0 (0+(Str.mk #[46]).length)==(Str.mk #[46]).cps)=false:=by rw[beq_eq_false_iff_ne];intro q;have q2:=congrArg (λa=>a[0]?) q;simp[Str.length] at q2;exact ne q2
  show (decide _ && (Array.extract ({toList:=c::r}:Array Nat) 0 (0+(Str.mk #[46]).length)==(Str.mk #[46]).cps))=false;rw[e1,QY]
theorem sL(h:cK x=true):x.cps.toList.all Bu=true:=by unfold cK at h;rw[jm,jm] at h;exact h.2.2
theorem oy(x:Str):Txt.startswith ((".":String)++x) "."=true:=by obtain⟨⟨l⟩⟩:=x;rw[yf];unfold Txt.startswith subAt;rw[jm];refine⟨?_,?_⟩;apply decide_eq_true;show 0+1<=(#[46]++({toList:=l}:Array Nat)).size;simp;show (Array.extract (#[46]++({toList:=l}:Array Nat)) 0 (0+1)==#[46])=true;rw[beq_iff_eq];apply Array.ext';simp
theorem rm(x:Str):Txt.slice ((".":String)++x) (some 1) none=x:=by
 obtain⟨⟨l⟩⟩:=x;rw[yf];have hl:(Str.length (Str.mk #[46]++Str.mk {toList:=l}))=l.length+1:=by show (#[46]++({toList:=l}:Array Nat)).size=_;simp
 have hi:strSliceIndices (some 1) none 1 (l.length+1)=(List.range l.length).map (λk=>k+1):=by
  unfold strSliceIndices sliceRange;simp only[show (1:Int) > 0 by decide,if_true];have e0:max 0 (min (if (1:Int)<0 then 1+((l.length+1:Nat):Int) else 1) ((l.length+1:Nat):Int))=1:=by rw[if_neg (by decide)];omega
  rw[e0];by_cases hn:l.length=0;rw[hn];rfl;have e1:((1:Int)<((l.length+1:Nat):Int)):=by omega
  rw[if_pos e1];have e2:((((l.length+1:Nat):Int)-1+1-1) / 1).toNat=l.length:=by rw[Int.ediv_one];omega
  rw[e2];apply QT;intro k hk;omega
 unfold Txt.slice;rw[hl,hi];have eW:¬ (((1:Int)==1 && (List.map (λk=>k+1) (List.range l.length)).length==l.length+1)=true):=by rw[jm,cW,Qk];intro q;have:=beq_iff_eq.mp q.2;omega
 rw[if_neg eW]
 congr 1
 apply Array.ext';rw[List.toList_toArray];show List.filterMap (λi=>(#[46]++({toList:=l}:Array Nat))[i]?) (List.map (λk=>k+1) (List.range l.length))=l;rw[List.filterMap_map];have e:∀k,((λi=>(#[46]++({toList:=l}:Array Nat))[i]?) ∘ λk=>k+1) k=l[k]?:=λk=>by show (#[46]++({toList:=l}:Array Nat))[k+1]?=l[k]?;rw[<- Array.getElem?_toList];simp
 rw[show ((λi=>(#[46]++({toList:=l}:Array Nat))[i]?) ∘ λk=>k+1)=λk=>l[k]? from funext e];clear e eW hi hl;induction l with
 |nil=>rfl
 |cons a r ih=>
  rw[j9,List.range_succ_eq_map,k5];simp only[UM,List.filterMap_map]
  congr 1
end ng
namespace VT
open PySem PySem.Spec PyProof.Rows L2
abbrev St:=L2.St
inductive T where
 |aQ|bl (b:Bool)|int (i:Int)|str (x:Str)|tup (l:List T)|lst (l:List T)|dk (ks:List Key) (vs:List T)|dc (nh:List Key×Key->Int) (ks:List (List Key×Key)) (vs:List T)|ins (C:Addr) (ns:qai) (vs:List T)|pin (a:Addr) (t:T)|ob (a:Addr)|ty (n:String)
def qm(K:qaf)(H:Hp)(O:qah)(a:Addr)(vs:qak):Prop :=
 (Rd H a (.lst vs)/\a∉O)\/∃(o:Obj)(aM:Array Value)(n:Nat),K.lookup a=some o/\o.cls=.type "list"/\o.dict=none/\o.data=.seq aM n/\aM.size<=sizeLine/\Vals vs aM.toList
theorem qm.sq{O:qah}(h:qm K H O a vs):eU K H a vs:=by
 obtain h|h:=h
 exact .inl h.1;exact .inr h
def yg(H:Hp)(O:qah)(a:Addr)(u:HO):Prop:=H a=some u/\a∉O
def lp(nh:List Key×Key->Int)(a:Addr)(xs:List ((List Key×Key)×Addr×Value)):Heap->Prop:=λh=>∃o es ep,h.get? a=some o/\o.ExactDict/\o.data=.dict es ep/\es.toList=xs.map (λx=>⟨nh x.1,.ref x.2.1,x.2.2⟩)/\(xs.map (·.1)).Nodup
def nq(K:qaf)(H:Hp)(c:List Key×Key)(b:Addr):Prop:=∃d,dD K H b [.ref d,kV c.2]/\dD K H d (c.1.map kV)
mutual
def At(K:qaf)(H:Hp)(O:qah):T->V->Prop
 |.aQ,v=>v=.aQ
 |.bl b,v=>v=.bl b
 |.int i,v=>v=.int i
 |.str x,v=>v=.str x
 |.ob a,v=>v=.ref a
 |.ty n,v=>v=.ty n
 |.tup ts,v=>∃a vs,v=.ref a/\dD K H a vs/\ay K H O ts vs
 |.lst ts,v=>∃a vs,v=.ref a/\qm K H O a vs/\ay K H O ts vs
 |.dk ks ts,v=>∃a vs,v=.ref a/\ks.length=vs.length/\yg H O a (.dK (ks.zip vs))/\ay K H O ts vs
 |.dc nh ks ts,v=>∃a xs vs,v=.ref a/\yg H O a (.ext (lp nh a xs))/\ks=xs.map (·.1)/\(a==sysModules)=false/\(∀x∈xs,nq K H x.1 x.2.1)/\Vals vs (xs.map (·.2.2))/\ay K H O ts vs
 |.pin a t,v=>v=.ref a/\At K H O t v
 |.ins C ns ts,v=>∃a dx vs,v=.ref a/\ns.length=vs.length/\yg H O a (.ins C dx (ns.zip vs))/\ay K H O ts vs
def ay(K:qaf)(H:Hp)(O:qah):List T->qak->Prop
 |[],vs=>vs=[]
 |t::ts,vs=>∃v r,vs=v::r/\At K H O t v/\ay K H O ts r
end
section
variable{O O':qah}
mutual
theorem At.map(hl:∀a vs,qm K H O a vs->qm K H' O' a vs)(ht:∀a vs,dD K H a vs->dD K H' a vs)(hd:∀a u,yg H O a u->yg H' O' a u):∀{t:T}{v:V},At K H O t v->At K H' O' t v
 |.aQ,_,h=>by simpa only[At] using h
 |.bl _,_,h=>by simpa only[At] using h
 |.int _,_,h=>by simpa only[At] using h
 |.str _,_,h=>by simpa only[At] using h
 |.ob _,_,h=>by simpa only[At] using h
 |.ty _,_,h=>by simpa only[At] using h
 |.tup ts,_,h=>by simp only[At] at h ⊢;obtain⟨a,vs,e,h1,h2⟩:=h;exact⟨a,vs,e,ht a vs h1,ay.map hl ht hd h2⟩
 |.lst ts,_,h=>by simp only[At] at h ⊢;obtain⟨a,vs,e,h1,h2⟩:=h;exact⟨a,vs,e,hl a vs h1,ay.map hl ht hd h2⟩
 |.dk ks ts,_,h=>by simp only[At] at h ⊢;obtain⟨a,vs,e,h0,h1,h2⟩:=h;exact⟨a,vs,e,h0,hd _ _ h1,ay.map hl ht hd h2⟩
 |.dc nh ks ts,_,h=>by simp only[At] at h ⊢;obtain⟨a,xs,vs,e,h0,h1,hm,h2,h3,h4⟩:=h;exact⟨a,xs,vs,e,hd _ _ h0,h1,hm,λx hx=>let ⟨d,q1,q2⟩:=h2 x hx;⟨d,ht _ _ q1,ht _ _ q2⟩,h3,ay.map hl ht hd h4⟩
 |.pin a t,_,h=>by simp only[At] at h ⊢;exact⟨h.1,At.map hl ht hd h.2⟩
 |.ins C ns ts,_,h=>by simp only[At] at h ⊢;obtain⟨a,dx,vs,e,h0,h1,h2⟩:=h;exact⟨a,dx,vs,e,h0,hd _ _ h1,ay.map hl ht hd h2⟩
theorem ay.map(hl:∀a vs,qm K H O a vs->qm K H' O' a vs)(ht:∀a vs,dD K H a vs->dD K H' a vs)(hd:∀a u,yg H O a u->yg H' O' a u):∀{ts:List T}{vs:qak},ay K H O ts vs->ay K H' O' ts vs
 |[],_,h=>by simpa only[ay] using h
 |t::ts,_,h=>by simp only[ay] at h ⊢;obtain⟨v,r,e,h1,h2⟩:=h;exact⟨v,r,e,At.map hl ht hd h1,ay.map hl ht hd h2⟩
end
theorem Rd.same{u:HO}(s:aK H H')(h:Rd H a u):Rd H' a u:=by
 obtain h|⟨o,h⟩:=h
 exact .inl (s _ _ h);exact .inr ⟨o,s _ _ h⟩
theorem dD.same(s:aK H H')(h:dD K H a vs):dD K H' a vs:=by
 obtain h|h:=h
 exact .inl (Rd.same s h);exact .inr h
theorem qm.same(s:aK H H')(h:qm K H O a vs):qm K H' O a vs:=by
 obtain h|h:=h
 exact .inl ⟨Rd.same s h.1,h.2⟩;exact .inr h
theorem At.same{t:T}(s:aK H H')(h:At K H O t v):At K H' O t v:=At.map (λ_ _ q=>q.same s) (λ_ _ q=>dD.same s q) (λ_ _ q=>⟨s _ _ q.1,q.2⟩) h
theorem ay.same{t:List T}{v:qak}(s:aK H H')(h:ay K H O t v):ay K H' O t v:=ay.map (λ_ _ q=>q.same s) (λ_ _ q=>dD.same s q) (λ_ _ q=>⟨s _ _ q.1,q.2⟩) h
theorem At.aR{t:T}(s:∀a∈O',a∈O)(h:At K H O t v):At K H O' t v :=
 At.map (λa vs q=>q.elim (λz=>.inl ⟨z.1,λm=>z.2 (s a m)⟩) .inr) (λ_ _ q=>q) (λa _ q=>⟨q.1,λm=>q.2 (s a m)⟩) h
theorem ay.aR{t:List T}{v:qak}(s:∀a∈O',a∈O)(h:ay K H O t v):ay K H O' t v :=
 ay.map (λa vs q=>q.elim (λz=>.inl ⟨z.1,λm=>z.2 (s a m)⟩) .inr) (λ_ _ q=>q) (λa _ q=>⟨q.1,λm=>q.2 (s a m)⟩) h
theorem Rd.some{u:HO}(h:Rd H a u):H a≠none:=by obtain h|⟨o,h⟩:=h<;>rw[h]<;>simp
theorem At.more{t:T}(s:∀a∈O',a∈O\/H a=none)(h:At K H O t v):At K H O' t v :=
 At.map (λa vs q=>q.elim (λz=>.inl ⟨z.1,λm=>(s a m).elim z.2 (Rd.some z.1)⟩) .inr) (λ_ _ q=>q) (λa aY q=>⟨q.1,λm=>(s a m).elim q.2 (by rw[q.1];simp)⟩) h
theorem ay.more{t:List T}{v:qak}(s:∀a∈O',a∈O\/H a=none)(h:ay K H O t v):ay K H O' t v :=
 ay.map (λa vs q=>q.elim (λz=>.inl ⟨z.1,λm=>(s a m).elim z.2 (Rd.some z.1)⟩) .inr) (λ_ _ q=>q) (λa aY q=>⟨q.1,λm=>(s a m).elim q.2 (by rw[q.1];simp)⟩) h
def jk:HO->Bool
 |.lst _=>true
 |.dK _=>true
 |.dT _=>true
 |.ins _ _ _=>true
 |.ext _=>true
 |_=>false
theorem At.wrote{t:T}{o u:HO}(ha:a∈O)(hu:H a=some u)(hm:jk u=true)(h:At K H O t v):At K (upd H a o) O t v:=by
 have ne:∀b,b∉O->b≠a:=λb hb e=>hb (by rw[e];exact ha);refine At.map (λb vs q=>?_) (λb vs q=>?_) (λb aY q=>?_) h;obtain q|q:=q
 refine .inl ⟨?_,q.2⟩;obtain z|⟨o',z⟩:=q.1
 exact .inl (by rw[az (ne b q.2)];exact z);exact .inr ⟨o',by rw[az (ne b q.2)];exact z⟩;exact .inr q;obtain z|z:=q
 refine .inl ?_;obtain z|⟨o',z⟩:=z
 exact .inl (by rw[az (C_ z hu (by intro e;subst e;cases hm))];exact z);exact .inr ⟨o',by rw[az (C_ z hu (by intro e;subst e;cases hm))];exact z⟩;exact .inr z;exact⟨by rw[az (ne b q.2)];exact q.1,q.2⟩
theorem ay.iff{ts:List T}:∀{vs:qak},ay K H O ts vs↔Paired (λv t=>At K H O t v) vs ts:=by
 induction ts with
 |nil=>intro vs;simp only[ay];exact⟨λe=>by subst e;exact .nil,λh=>by cases h;rfl⟩
 |cons t ts ih=>
  intro vs;simp only[ay];constructor;rintro⟨v,r,rfl,h1,h2⟩;exact .cons h1 (ih.mp h2);intro h;cases h with
  |cons h1 h2=>exact⟨_,_,rfl,h1,ih.mpr h2⟩
theorem ay.wrote{t:List T}{v:qak}{o u:HO}(ha:a∈O)(hu:H a=some u)(hm:jk u=true)(h:ay K H O t v):ay K (upd H a o) O t v :=
 ay.iff.mpr (Paired.m8 (ay.iff.mp h) λ_ _ q=>q.wrote ha hu hm)
theorem ay.length{ts:List T}{vs:qak}(h:ay K H O ts vs):vs.length=ts.length:=Mq (ay.iff.mp h)
theorem ay.get{ts:List T}{vs:qak}(h:ay K H O ts vs){i:Nat}{t:T}(e:ts[i]?=some t):∃v,vs[i]?=some v/\At K H O t v:=by
 have q:=ay.iff.mp h;clear h;induction q generalizing i with
 |nil=>simp at e
 |cons r _ ih=>
  cases i with
  |zero=>simp at e;subst e;exact⟨_,rfl,r⟩
  |succ i=>obtain⟨v,h1,h2⟩:=ih (i:=i) (by simpa using e);exact⟨v,by simpa using h1,h2⟩
theorem ay.cons{t:T}{ts:List T}{v:V}{vs:qak}(h:At K H O t v)(hs:ay K H O ts vs):ay K H O (t::ts) (v::vs):=by simp only[ay];exact⟨v,vs,rfl,h,hs⟩
theorem ay.nil:ay K H O [] []:=by simp only[ay]
theorem ay.append{ts us:List T}{ws:qak}(h:ay K H O ts vs)(h':ay K H O us ws):ay K H O (ts++us) (vs++ws):=by
 rw[ay.iff] at h h' ⊢;induction h with
 |nil=>exact h'
 |cons r _ ih=>exact .cons r ih
theorem ay.drop{ts:List T}(n:Nat)(h:ay K H O ts vs):ay K H O (ts.drop n) (vs.drop n):=by
 rw[ay.iff] at h ⊢;induction h generalizing n with
 |nil=>cases n<;>exact .nil
 |cons r t ih=>cases n with
  |zero=>exact .cons r t
  |succ n=>exact ih n
theorem ay.take{ts:List T}(n:Nat)(h:ay K H O ts vs):ay K H O (ts.take n) (vs.take n):=by
 rw[ay.iff] at h ⊢;induction h generalizing n with
 |nil=>cases n<;>exact .nil
 |cons r t ih=>cases n with
  |zero=>exact .nil
  |succ n=>exact .cons r (ih n)
theorem ay.set{ts:List T}{vs:qak}{t:T}{v:V}(i:Nat)(h:ay K H O ts vs)(q:At K H O t v):ay K H O (ts.set i t) (vs.set i v):=by
 rw[ay.iff] at h ⊢;induction h generalizing i with
 |nil=>exact .nil
 |cons r s ih=>cases i with
  |zero=>exact .cons q s
  |succ i=>exact .cons r (ih i)
end
mutual
def bJ:T->Bool
 |.tup ts=>cb ts
 |.lst _=>false
 |.dk _ _=>false
 |.dc _ _ _=>false
 |.ins _ _ _=>false
 |.pin _ _=>false
 |_=>true
def cb:List T->Bool
 |[]=>true
 |t::ts=>bJ t && cb ts
end
section
variable{O O':qah}
mutual
theorem At.bJ:∀{t:T}{v:V},bJ t=true->At K H O t v->At K H O' t v
 |.aQ,_,_,h=>by simpa only[At] using h
 |.bl _,_,_,h=>by simpa only[At] using h
 |.int _,_,_,h=>by simpa only[At] using h
 |.str _,_,_,h=>by simpa only[At] using h
 |.ob _,_,_,h=>by simpa only[At] using h
 |.ty _,_,_,h=>by simpa only[At] using h
 |.tup ts,_,i,h=>by simp only[At] at h ⊢;simp only[VT.bJ] at i;obtain⟨a,vs,e,h1,h2⟩:=h;exact⟨a,vs,e,h1,ay.bJ i h2⟩
 |.lst ts,_,i,h=>by simp only[VT.bJ] at i;cases i
 |.dk _ _,_,i,h=>by simp only[VT.bJ] at i;cases i
 |.dc _ _ _,_,i,h=>by simp only[VT.bJ] at i;cases i
 |.ins _ _ _,_,i,h=>by simp only[VT.bJ] at i;cases i
 |.pin _ _,_,i,h=>by simp only[VT.bJ] at i;cases i
theorem ay.bJ:∀{ts:List T}{vs:qak},cb ts=true->ay K H O ts vs->ay K H O' ts vs
 |[],_,_,h=>by simpa only[ay] using h
 |t::ts,_,i,h=>by simp only[VT.cb,jm] at i;simp only[ay] at h ⊢;obtain⟨v,r,e,h1,h2⟩:=h;exact⟨v,r,e,At.bJ i.1 h1,ay.bJ i.2 h2⟩
end
end
abbrev En:=List (Option (T×Bool))
structure Zc where
 H0:Hp
 P:List (Nat×Addr)
 Ox:qah
noncomputable def Zc.ex(Z:Zc)(a:Addr):Zc:={Z with Ox:=a::Z.Ox}
def cC(K:qaf)(H:Hp)(A:qah)(a:Addr):T->Prop
 |.lst ts=>∃vs,H a=some (.lst vs)/\ay K H A ts vs
 |.dk ks ts=>∃vs,ks.length=vs.length/\H a=some (.dK (ks.zip vs))/\ay K H A ts vs
 |.ins C ns ts=>∃dx vs,ns.length=vs.length/\H a=some (.ins C dx (ns.zip vs))/\ay K H A ts vs
 |_=>False
def lq(K:qaf)(H:Hp)(A:qah):Option (T×Bool)->qar->Option V->Prop
 |none,o,_=>o=none
 |some (t,false),o,s=>o=none/\∃v,s=some v/\At K H A t v
 |some (t,true),o,s=>∃a,o=some a/\s=some (.ref a)/\cC K H A a t
noncomputable def roots(O:HD):qah:=O.filterMap id
noncomputable def av(Z:Zc)(O:HD):qah:=roots O++Z.Ox
structure aw(K:qaf)(Z:Zc)(tm:List (T×V))(O:HD)(ρ:En)(σ:St)(H:Hp):Prop where
 lσ:σ.length=ρ.length
 lO:O.length=ρ.length
 sl:∀(i:Nat) e,ρ[i]?=some e->∃o s,O[i]?=some o/\σ[i]?=some s/\lq K H (av Z O) e o s
 nd:(roots O).Nodup
 own:∀a∈roots O,(a∈Z.P.map (·.2)\/Z.H0 a=none)/\a∉Z.Ox/\∃u,H a=some u/\jk u=true
 par:∀p∈Z.P,O[p.1]?=some (some p.2)
 ox:∀a∈Z.Ox,H a≠none
 keep:∀b o,Z.H0 b=some o->b∉Z.P.map (·.2)->H b=some o
 mD:∀p∈tm,At K H (av Z O) p.1 p.2
section
variable{Z:Zc}{tm:List (T×V)}{ρ:En}
theorem cC.map{A A':qah}{t:T}(h:cC K H A a t)(h1:H' a=H a)(h2:∀ts vs,ay K H A ts vs->ay K H' A' ts vs):cC K H' A' a t:=by
 cases t with
 |lst ts=>obtain⟨vs,e,q⟩:=h;exact⟨vs,h1.trans e,h2 _ _ q⟩
 |dk ks ts=>obtain⟨vs,l,e,q⟩:=h;exact⟨vs,l,h1.trans e,h2 _ _ q⟩
 |ins C ns ts=>obtain⟨dx,vs,l,e,q⟩:=h;exact⟨dx,vs,l,h1.trans e,h2 _ _ q⟩
 |_=>exact h.elim
theorem cC.mut{A:qah}{t:T}(h:cC K H A a t):∃u,H a=some u/\jk u=true:=by
 cases t with
 |lst ts=>obtain⟨vs,e,q⟩:=h;exact⟨_,e,rfl⟩
 |dk ks ts=>obtain⟨vs,l,e,q⟩:=h;exact⟨_,e,rfl⟩
 |ins C ns ts=>obtain⟨dx,vs,l,e,q⟩:=h;exact⟨_,e,rfl⟩
 |_=>exact h.elim
theorem cC.aR{A A':qah}{t:T}(h:cC K H A a t)(s:∀b∈A',b∈A):cC K H A' a t:=h.map rfl λ_ _ q=>q.aR s
theorem cC.same{A:qah}{t:T}(h:cC K H A a t)(s:aK H H'):cC K H' A a t:=by obtain⟨u,e,_⟩:=h.mut;exact h.map (by rw[e];exact s _ _ e) λ_ _ q=>q.same s
theorem cC.at{A:qah}{t:T}(h:cC K H A a t)(n:a∉A):At K H A t (.ref a):=by
 cases t with
 |lst ts=>obtain⟨vs,e,q⟩:=h;simp only[At];exact⟨a,vs,rfl,.inl ⟨.inl e,n⟩,q⟩
 |dk ks ts=>obtain⟨vs,l,e,q⟩:=h;simp only[At];exact⟨a,vs,rfl,l,⟨e,n⟩,q⟩
 |ins C ns ts=>obtain⟨dx,vs,l,e,q⟩:=h;simp only[At];exact⟨a,dx,vs,rfl,l,⟨e,n⟩,q⟩
 |_=>exact h.elim
theorem lq.map{A A':qah}{e:Option (T×Bool)}{o:qar}{s:Option V}(h:lq K H A e o s)(h1:∀t v,At K H A t v->At K H' A' t v)(h2:∀a t,o=some a->cC K H A a t->cC K H' A' a t):lq K H' A' e o s:=by
 match e,h with
 |none,h=>exact h
 |some (t,false),⟨e,v,es,q⟩=>exact⟨e,v,es,h1 _ _ q⟩
 |some (t,true),⟨a,e,es,q⟩=>exact⟨a,e,es,h2 _ _ e q⟩
theorem aG:a∈roots O↔some a∈O:=by unfold roots;rw[UX];exact⟨λ⟨x,h,e⟩=>by rw[id] at e;rw[<- e];exact h,λh=>⟨_,h,rfl⟩⟩
theorem aw.xG(I:aw K Z tm O ρ σ H):∀a∈av Z O,H a≠none:=λa h=>by
 rcases cJ.mp h with h|h
 obtain⟨_,_,u,e,_⟩:=I.own a h;rw[e];simp;exact I.ox a h
theorem aw.same(I:aw K Z tm O ρ σ H)(s:aK H H'):aw K Z tm O ρ σ H' :=
 ⟨I.lσ,I.lO,λi e h=>let ⟨o,w,h1,h2,h3⟩:=I.sl i e h;⟨o,w,h1,h2,h3.map (λ_ _ q=>q.same s) λ_ _ _ q=>q.same s⟩,I.nd,
  λa h=>let ⟨h1,h2,u,e,m⟩:=I.own a h;⟨h1,h2,u,s _ _ e,m⟩,I.par,λa h=>by
   cases e:H a with
   |none=>exact absurd e (I.ox a h)
   |some u=>rw[s _ _ e];simp,
  λb o e n=>s _ _ (I.keep b o e n),λp hp=>(I.mD p hp).same s⟩
theorem bF(i:Nat):∀a∈roots (O.set i none),a∈roots O:=λa h=>by
 rw[aG] at h ⊢;rcases Qg h with z|z
 exact z;cases z
theorem fW:∀(O:HD)(i:Nat),(roots O).Nodup->(roots (O.set i none)).Nodup
 |[],i,h=>by simpa using h
 |o::O,0,h=>by
  cases o with
  |none=>simpa[roots] using h
  |some a=>simp only[roots,K1,k5,id] at h ⊢;exact (jh.mp h).2
 |o::O,i+1,h=>by
  have key:=fW O i;cases o with
  |none=>simp only[roots,C5,k5,id] at h ⊢;exact key h
  |some a=>simp only[roots,C5,k5,id] at h ⊢;rw[jh] at h ⊢;exact⟨λz=>h.1 (bF i a z),key h.2⟩
theorem bV(i:Nat):∀a∈av Z (O.set i none),a∈av Z O:=λa h=>by
 rcases cJ.mp h with h|h
 exact cj _ (bF i a h);exact bK _ h
theorem get_set{l:List α}{x y:α}(h:(l.set i x)[j]?=some y):(j=i/\y=x/\i<l.length)\/(j≠i/\l[j]?=some y):=by rw[QU] at h;by_cases e:i=j;rw[if_pos e] at h;by_cases hl:i<l.length;rw[if_pos hl] at h;exact .inl ⟨e.symm,(Option.some.inj h).symm,hl⟩;rw[if_neg hl] at h;cases h;rw[if_neg e] at h;exact .inr ⟨λz=>e z.symm,h⟩
theorem aw.put(I:aw K Z tm O ρ σ H){i:Nat}{t:T}{v:V}(hp:∀p∈Z.P,p.1≠i)(hv:At K H (av Z O) t v):aw K Z tm (O.set i none) (ρ.set i (some (t,false))) (σ.set i (some v)) H:=by
 have fw:∀{t:T}{v:V},At K H (av Z O) t v->At K H (av Z (O.set i none)) t v:=λq=>q.aR (bV i);refine⟨by simp[I.lσ],by simp[I.lO],λj e h=>?_,fW _ _ I.nd,λa h=>I.own a (bF i a h),λp q=>?_,I.ox,I.keep,λp q=>fw (I.mD p q)⟩;rcases get_set h with⟨rfl,rfl,hl⟩|⟨ne,h⟩
 exact⟨none,some v,by rw[zz (by rw[I.lO];exact hl)],by rw[zz (by rw[I.lσ];exact hl)],rfl,v,rfl,fw hv⟩;obtain⟨o,s,h1,h2,h3⟩:=I.sl j e h;exact⟨o,s,by rw[qS (Ne.symm ne)];exact h1,by rw[qS (Ne.symm ne)];exact h2,h3.map (λ_ _ q=>fw q) λ_ _ _ q=>q.aR (bV i)⟩;rw[qS (Ne.symm (hp p q))];exact I.par p q
theorem aw.forget(I:aw K Z tm O ρ σ H)(hp:∀p∈Z.P,p.1≠i):aw K Z tm (O.set i none) (ρ.set i none) σ H:=by
 have fw:∀{t:T}{v:V},At K H (av Z O) t v->At K H (av Z (O.set i none)) t v:=λq=>q.aR (bV i);refine⟨by simp[I.lσ],by simp[I.lO],λj e h=>?_,fW _ _ I.nd,λa h=>I.own a (bF i a h),λp q=>?_,I.ox,I.keep,λp q=>fw (I.mD p q)⟩;rcases get_set h with⟨rfl,rfl,hl⟩|⟨ne,h⟩
 obtain⟨s,hs⟩:∃s,σ[j]?=some s:=⟨σ[j]'(by rw[I.lσ];exact hl),by simp⟩;exact⟨none,s,by rw[zz (by rw[I.lO];exact hl)],hs,rfl⟩;obtain⟨o,s,h1,h2,h3⟩:=I.sl j e h;exact⟨o,s,by rw[qS (Ne.symm ne)];exact h1,h2,h3.map (λ_ _ q=>fw q) λ_ _ _ q=>q.aR (bV i)⟩;rw[qS (Ne.symm (hp p q))];exact I.par p q
theorem mE:∀(O:HD)(i:Nat)(a:Addr),a∉roots O->(roots O).Nodup->(roots (O.set i (some a))).Nodup
 |[],i,a,_,h=>by simpa using h
 |o::O,0,a,n,h=>by
  cases o with
  |none=>simp only[roots,K1,k5,id] at n h ⊢;exact jh.mpr ⟨n,h⟩
  |some b=>simp only[roots,K1,k5,id] at n h ⊢;exact jh.mpr ⟨λz=>n (d_ _ z),(jh.mp h).2⟩
 |o::O,i+1,a,n,h=>by
  have key:=mE O i a;cases o with
  |none=>simp only[roots,C5,k5,id] at n h ⊢;exact key n h
  |some b=>
   simp only[roots,C5,k5,id] at n h ⊢;rw[jh] at h ⊢;refine⟨λz=>?_,key (λz=>n (d_ _ z)) h.2⟩;have z':some b∈O.set i (some a):=aG.mp z;rcases Qg z' with q|q
   exact h.1 (aG.mpr q);exact n (by rw[Option.some.inj q];exact cS)
theorem vg(i:Nat):∀b∈av Z (O.set i (some a)),b∈av (Z.ex a) O:=λb h=>by
 rcases cJ.mp h with h|h
 rcases Qg (aG.mp h) with z|z
 exact cj _ (aG.mpr z);exact bK _ (by rw[Option.some.inj z];exact cS);exact bK _ (d_ _ h)
theorem aw.W2(I:aw K (Z.ex a) tm O ρ σ H){t:T}(hp:∀p∈Z.P,p.1≠i)(hv:cC K H (av (Z.ex a) O) a t)(h0:Z.H0 a=none)(hx:a∉Z.Ox):aw K Z tm (O.set i (some a)) (ρ.set i (some (t,true))) (σ.set i (some (.ref a))) H:=by
 have sub:=vg (Z:=Z) (O:=O) (a:=a) i;have fw:∀{t:T}{v:V},At K H (av (Z.ex a) O) t v->At K H (av Z (O.set i (some a))) t v:=λq=>q.aR sub;have na:a∉roots O:=λz=>(I.own a z).2.1 cS;refine⟨by simp[I.lσ],by simp[I.lO],λj e h=>?_,mE _ _ _ na I.nd,λb h=>?_,λp q=>?_,λb h=>I.ox b (d_ _ h),I.keep,λp q=>fw (I.mD p q)⟩;rcases get_set h with⟨rfl,rfl,hl⟩|⟨ne,h⟩
 exact⟨some a,some (.ref a),by rw[zz (by rw[I.lO];exact hl)],by rw[zz (by rw[I.lσ];exact hl)],a,rfl,rfl,hv.aR sub⟩;obtain⟨o,s,h1,h2,h3⟩:=I.sl j e h;exact⟨o,s,by rw[qS (Ne.symm ne)];exact h1,by rw[qS (Ne.symm ne)];exact h2,h3.map (λ_ _ q=>fw q) λ_ _ _ q=>q.aR sub⟩;rcases Qg (aG.mp h) with z|z
 obtain⟨h1,h2,h3⟩:=I.own b (aG.mpr z);exact⟨h1,λq=>h2 (d_ _ q),h3⟩;cases z;exact⟨.inr h0,hx,hv.mut⟩;rw[qS (Ne.symm (hp p q))];exact I.par p q
theorem aw.A5(I:aw K Z tm O ρ σ H){t:T}(hp:∀p∈Z.P,p.1≠i)(hi:ρ[i]?=some (some (t,true))):aw K Z tm (O.set i none) (ρ.set i (some (t,false))) σ H:=by
 have fw:∀{t:T}{v:V},At K H (av Z O) t v->At K H (av Z (O.set i none)) t v:=λq=>q.aR (bV i);obtain⟨o,s,h1,h2,a,rfl,rfl,hr⟩:=I.sl i _ hi;have ha:a∈roots O:=aG.mpr (fR h1);have na:a∉roots (O.set i none):=λz=>by
  obtain⟨j,hj⟩:=UI.mp (aG.mp z);rcases get_set hj with⟨_,q,_⟩|⟨ne,q⟩
  cases q
  -- two places of one root
  have key:∀(O:HD)(i j:Nat),i<j->O[i]?=some (some a)->O[j]?=some (some a)->(roots O).Nodup->False:=by
   intro O;induction O with
   |nil=>intro i j _ h;simp at h
   |cons o O ih=>
    intro i j Y8 e1 e2 nd;cases j with
    |zero=>omega
    |succ j=>
     have Hb:O[j]?=some (some a):=by simpa using e2
     cases i with
     |zero=>
      have:o=some a:=by simpa using e1
      subst this;simp only[roots,k5,id] at nd;exact (jh.mp nd).1 (aG.mpr (fR Hb))
     |succ i=>
      refine ih i j (by omega) (by simpa using e1) Hb ?_;cases o with
      |none=>simpa[roots] using nd
      |some b=>simp only[roots,k5,id] at nd;exact (jh.mp nd).2
  rcases Nat.lt_or_gt_of_ne ne with l|l
  exact key O j i l q h1 I.nd;exact key O i j l h1 q I.nd
 have nav:a∉av Z (O.set i none):=λz=>by
  rcases cJ.mp z with z|z
  exact na z;exact (I.own a ha).2.1 z
 refine⟨by simp[I.lσ],by simp[I.lO],λj e h=>?_,fW _ _ I.nd,λa h=>I.own a (bF i a h),λp q=>?_,I.ox,I.keep,λp q=>fw (I.mD p q)⟩;rcases get_set h with⟨rfl,rfl,hl⟩|⟨ne,h⟩
 exact⟨none,some (.ref a),by rw[zz (by rw[I.lO];exact hl)],h2,rfl,.ref a,rfl,(hr.aR (bV j)).at nav⟩;obtain⟨o,s,h1,h2,h3⟩:=I.sl j e h;exact⟨o,s,by rw[qS (Ne.symm ne)];exact h1,h2,h3.map (λ_ _ q=>fw q) λ_ _ _ q=>q.aR (bV i)⟩;rw[qS (Ne.symm (hp p q))];exact I.par p q
theorem aw.wrote(I:aw K Z tm O ρ σ H){t t':T}{u:HO}(hi:ρ[i]?=some (some (t,true)))(hO:O[i]?=some (some a))(hr:cC K (upd H a u) (av Z O) a t'):aw K Z tm O (ρ.set i (some (t',true))) σ (upd H a u):=by
 have ha:a∈roots O:=aG.mpr (fR hO);have Ik:a∈av Z O:=cj _ ha;obtain⟨hP,hx,u0,e0,m0⟩:=I.own a ha;have inj:∀j b,j≠i->O[j]?=some (some b)->b≠a:=by
  intro j b ne hj e;subst e;have key:∀(O:HD)(i j:Nat),i<j->O[i]?=some (some b)->O[j]?=some (some b)->(roots O).Nodup->False:=by
   intro O;induction O with
   |nil=>intro i j _ h;simp at h
   |cons o O ih=>
    intro i j Y8 e1 e2 nd;cases j with
    |zero=>omega
    |succ j=>
     have Hb:O[j]?=some (some b):=by simpa using e2
     cases i with
     |zero=>
      have:o=some b:=by simpa using e1
      subst this;simp only[roots,k5,id] at nd;exact (jh.mp nd).1 (aG.mpr (fR Hb))
     |succ i=>
      refine ih i j (by omega) (by simpa using e1) Hb ?_;cases o with
      |none=>simpa[roots] using nd
      |some c=>simp only[roots,k5,id] at nd;exact (jh.mp nd).2
  rcases Nat.lt_or_gt_of_ne ne with l|l
  exact key O j i l hj hO I.nd;exact key O i j l hO hj I.nd
 refine⟨by simp[I.lσ],by simp[I.lO],λj e h=>?_,I.nd,λb h=>?_,I.par,λb h=>?_,λb o e n=>?_,λp q=>(I.mD p q).wrote Ik e0 m0⟩;rcases get_set h with⟨rfl,rfl,hl⟩|⟨ne,h⟩
 obtain⟨o,s,h1,h2,a',h4,h5,h6⟩:=I.sl j _ hi;rw[hO] at h1;cases h1;cases h4;exact⟨_,s,hO,h2,a,rfl,h5,hr⟩;obtain⟨o,s,h1,h2,h3⟩:=I.sl j e h;refine⟨o,s,h1,h2,h3.map (λ_ _ q=>q.wrote Ik e0 m0) λb t e q=>?_⟩;subst e;exact q.map (az (inj j b ne h1)) λ_ _ z=>z.wrote Ik e0 m0;obtain⟨h1,h2,v,e,m⟩:=I.own b h;by_cases hb:b=a;subst hb;exact⟨h1,h2,hr.mut⟩;exact⟨h1,h2,v,by rw[az hb];exact e,m⟩;by_cases hb:b=a;subst hb;exact absurd h hx;rw[az hb];exact I.ox b h;by_cases hb:b=a;subst hb;obtain q|q:=hP
 exact absurd q n;rw[q] at e;cases e;rw[az hb];exact I.keep b o e n
theorem aw.fresh(I:aw K Z tm O ρ σ H)(h:H a=none):a∉av Z O/\a∉Z.Ox/\Z.H0 a=none:=by
 refine⟨λz=>I.xG a z h,λz=>I.ox a z h,?_⟩;cases e:Z.H0 a with
 |none=>rfl
 |some o=>by_cases hp:a∈Z.P.map (·.2);obtain⟨p,Qs,rfl⟩:=sh.mp hp;obtain⟨_,_,u,e',_⟩:=I.own p.2 (aG.mpr (fR (I.par p Qs)));rw[h] at e';cases e';rw[I.keep a o e hp] at h;cases h
theorem dS:∀b∈av (Z.ex a) O,b∈av Z O\/b=a:=λb h=>by
 rcases cJ.mp h with h|h
 exact .inl (cj _ h);rcases cT.mp h with h|h
 exact .inr h;exact .inl (bK _ h)
theorem gx:∀b∈av Z O,b∈av (Z.ex a) O:=λb h=>by
 rcases cJ.mp h with h|h
 exact cj _ h;exact bK _ (d_ _ h)
theorem aw.new(I:aw K Z tm O ρ σ H){a:Addr}{u:HO}(h:H a=none)(hu:jk u=true):aw K (Z.ex a) tm O ρ σ (upd H a u):=by
 have s:aK H (upd H a u):=aC h;have J:=I.same s;obtain⟨n1,n2,n3⟩:=I.fresh h;have mr:∀b∈av (Z.ex a) O,b∈av Z O\/H b=none:=λb hb=>(dS b hb).imp id λe=>by rw[e];exact h
 have fw:∀{t:T}{v:V},At K H (av Z O) t v->At K (upd H a u) (av (Z.ex a) O) t v:=λq=>(q.more mr).same s;refine⟨J.lσ,J.lO,λi e hi=>?_,J.nd,λb hb=>?_,J.par,λb hb=>?_,J.keep,λp hp=>fw (I.mD p hp)⟩;obtain⟨o,w,h1,h2,h3⟩:=I.sl i e hi;refine⟨o,w,h1,h2,h3.map (λ_ _ q=>fw q) λb t eo q=>?_⟩;refine cC.same (q.map rfl λ_ _ z=>z.more mr) s;obtain⟨q1,q2,q3⟩:=J.own b hb;refine⟨q1,λz=>?_,q3⟩;rcases cT.mp z with z|z
 exact n1 (by rw[<- z];exact cj _ hb);exact q2 z;rcases cT.mp hb with z|z
 rw[z,aB];simp;exact J.ox b z
theorem aw.W3(I:aw K (Z.ex a) tm O ρ σ H):aw K Z tm O ρ σ H :=
 ⟨I.lσ,I.lO,λi e h=>let ⟨o,w,h1,h2,h3⟩:=I.sl i e h;⟨o,w,h1,h2,h3.map (λ_ _ q=>q.aR gx) λ_ _ _ q=>q.aR gx⟩,I.nd,
  λb h=>let ⟨q1,q2,q3⟩:=I.own b h;⟨q1,λz=>q2 (d_ _ z),q3⟩,I.par,λb h=>I.ox b (d_ _ h),I.keep,λp hp=>(I.mD p hp).aR gx⟩
end
inductive Rt where
 |vw (t:T)
 |fr (t:T)
def Rt.t:Rt->T
 |.vw t=>t
 |.fr t=>t
def iw(K:qaf)(H:Hp)(A:qah)(t:T)(v:V):Prop:=At K H A t v\/∃a,v=.ref a/\cC K H A a t
def fJ(K:qaf)(Z:Zc)(tm:List (T×V))(O:HD)(ρ:En)(σ:St)(H:Hp):Rt->V->Prop
 |.vw t,v=>aw K Z tm O ρ σ H/\At K H (av Z O) t v
 |.fr t,v=>∃a,v=.ref a/\aw K (Z.ex a) tm O ρ σ H/\cC K H (av (Z.ex a) O) a t/\Z.H0 a=none/\a∉Z.Ox
abbrev FE:=En->(T->Prop)->Prop
abbrev FP:=En->(Rt->Prop)->Prop
abbrev FX:=En->(En->Rt->Prop)->Prop
abbrev FB:=En->(Bool->Prop)->Prop
abbrev FA:=En->(List T->Prop)->Prop
section
variable{Z:Zc}{tm:List (T×V)}{ρ:En}{A:qah}
theorem iw.same{t:T}(s:aK H H')(h:iw K H A t v):iw K H' A t v:=h.imp (λq=>q.same s) λ⟨a,e,q⟩=>⟨a,e,q.same s⟩
theorem iw.lst{ts:List T}(h:iw K H A (.lst ts) v):∃a vs,v=.ref a/\eU K H a vs/\ay K H A ts vs:=by
 obtain h|⟨a,rfl,vs,e,q⟩:=h
 simp only[At] at h;obtain⟨a,vs,rfl,l,q⟩:=h;exact⟨a,vs,rfl,l.sq,q⟩;exact⟨a,vs,rfl,eU.of e,q⟩
theorem iw.tup{ts:List T}(h:iw K H A (.tup ts) v):∃a vs,v=.ref a/\dD K H a vs/\ay K H A ts vs:=by
 obtain h|⟨a,rfl,q⟩:=h
 simpa only[At] using h;exact q.elim
theorem iw.dk{ts:List T}(h:iw K H A (.dk ks ts) v):∃a vs,v=.ref a/\ks.length=vs.length/\H a=some (.dK (ks.zip vs))/\ay K H A ts vs:=by
 obtain h|⟨a,rfl,vs,l,e,q⟩:=h
 simp only[At] at h;obtain⟨a,vs,rfl,l,d,q⟩:=h;exact⟨a,vs,rfl,l,d.1,q⟩;exact⟨a,vs,rfl,l,e,q⟩
theorem iw.dc{nh:List Key×Key->Int}{ks:List (List Key×Key)}{ts:List T}(h:iw K H A (.dc nh ks ts) v):∃a xs vs,v=.ref a/\H a=some (.ext (lp nh a xs))/\ks=xs.map (·.1)/\(a==sysModules)=false/\(∀x∈xs,nq K H x.1 x.2.1)/\Vals vs (xs.map (·.2.2))/\ay K H A ts vs:=by
 obtain h|⟨a,rfl,q⟩:=h
 simp only[At] at h;obtain⟨a,xs,vs,rfl,d,q⟩:=h;exact⟨a,xs,vs,rfl,d.1,q⟩;exact q.elim
theorem iw.ins{ns:qai}{ts:List T}(h:iw K H A (.ins C ns ts) v):∃a dx vs,v=.ref a/\ns.length=vs.length/\H a=some (.ins C dx (ns.zip vs))/\ay K H A ts vs:=by
 obtain h|⟨a,rfl,dx,vs,l,e,q⟩:=h
 simp only[At] at h;obtain⟨a,dx,vs,rfl,l,d,q⟩:=h;exact⟨a,dx,vs,rfl,l,d.1,q⟩;exact⟨a,dx,vs,rfl,l,e,q⟩
theorem iw.int{i:Int}(h:iw K H A (.int i) v):v=.int i:=h.elim (λq=>by simpa only[At] using q) λ⟨_,_,q⟩=>q.elim
theorem iw.str{i:Str}(h:iw K H A (.str i) v):v=.str i:=h.elim (λq=>by simpa only[At] using q) λ⟨_,_,q⟩=>q.elim
theorem iw.bl{i:Bool}(h:iw K H A (.bl i) v):v=.bl i:=h.elim (λq=>by simpa only[At] using q) λ⟨_,_,q⟩=>q.elim
theorem iw.aQ(h:iw K H A .aQ v):v=.aQ:=h.elim (λq=>by simpa only[At] using q) λ⟨_,_,q⟩=>q.elim
theorem iw.ob(h:iw K H A (.ob a) v):v=.ref a:=h.elim (λq=>by simpa only[At] using q) λ⟨_,_,q⟩=>q.elim
theorem bc{i:Int}:At K H A (.int i) (.int i):=by simp only[At]
theorem c_{i:Str}:At K H A (.str i) (.str i):=by simp only[At]
theorem dP{i:Bool}:At K H A (.bl i) (.bl i):=by simp only[At]
theorem yh:At K H A .aQ .aQ:=by simp only[At]
theorem cf{ts:List T}(h:dD K H a vs)(q:ay K H A ts vs):At K H A (.tup ts) (.ref a):=by simp only[At];exact⟨a,vs,rfl,h,q⟩
theorem fJ.env{r:Rt}(h:fJ K Z tm O ρ σ H r v):aw K Z tm O ρ σ H:=by
 cases r with
 |vw t=>exact h.1
 |fr t=>obtain⟨a,_,I,_⟩:=h;exact I.W3
theorem fJ.at{r:Rt}(h:fJ K Z tm O ρ σ H r v):At K H (av Z O) r.t v:=by
 cases r with
 |vw t=>exact h.2
 |fr t=>
  obtain⟨a,rfl,I,q,_,hx⟩:=h;refine (q.aR gx).at λz=>?_;rcases cJ.mp z with z|z
  exact (I.own a z).2.1 cS;exact hx z
theorem aw.nt(I:aw K Z tm O ρ σ H){ts:List T}(h:H a=none)(q:ay K H (av Z O) ts vs):fJ K Z tm O ρ σ (upd H a (.lst vs)) (.fr (.lst ts)) (.ref a):=by obtain⟨n1,n2,n3⟩:=I.fresh h;exact⟨a,rfl,I.new h rfl,⟨vs,aB,(q.more λb hb=>(dS b hb).imp id λe=>by rw[e];exact h).same (aC h)⟩,n3,n2⟩
theorem aw.newD(I:aw K Z tm O ρ σ H){ts:List T}(h:H a=none)(hl:ks.length=vs.length)(q:ay K H (av Z O) ts vs):fJ K Z tm O ρ σ (upd H a (.dK (ks.zip vs))) (.fr (.dk ks ts)) (.ref a):=by obtain⟨n1,n2,n3⟩:=I.fresh h;exact⟨a,rfl,I.new h rfl,⟨vs,hl,aB,(q.more λb hb=>(dS b hb).imp id λe=>by rw[e];exact h).same (aC h)⟩,n3,n2⟩
end
structure Bx(p:List (T×V)->Prop):Prop where
 h:∀tm,p tm
section
variable(X:Cx)(Z:Zc)
noncomputable def lR(tm:List (T×V))(f:FE):TE:=λσ H Q=>∃ρ O q,aw X.K Z tm O ρ σ H/\f ρ q/\∀t,q t->∀v H',aK H H'->iw X.K H' (av Z O) t v->Q v H'
noncomputable def lE(tm:List (T×V))(f:FE):TE:=λσ H Q=>∃ρ O q,aw X.K Z tm O ρ σ H/\f ρ q/\∀t,q t->∀v H',aK H H'->At X.K H' (av Z O) t v->Q v H'
def lP(tm:List (T×V))(f:FP):TE:=λσ H Q=>∃ρ O q,aw X.K Z tm O ρ σ H/\f ρ q/\∀r,q r->∀v H',aK H H'->fJ X.K Z tm O ρ σ H' r v->Q v H'
def lX(tm:List (T×V))(f:FX):TE:=λσ H Q=>∃ρ O q,aw X.K Z tm O ρ σ H/\f ρ q/\∀ρ' r,q ρ' r->∀O' v H',fJ X.K Z tm O' ρ' σ H' r v->Q v H'
def lB(tm:List (T×V))(f:FB):TT:=λσ H Q=>∃ρ O q,aw X.K Z tm O ρ σ H/\f ρ q/\∀b,q b->∀H',aK H H'->Q b H'
noncomputable def lA(tm:List (T×V))(f:FA):TA:=λσ H Q=>∃ρ O q,aw X.K Z tm O ρ σ H/\f ρ q/\∀ts,q ts->∀vs H',aK H H'->ay X.K H' (av Z O) ts vs->Q vs H'
noncomputable def Y9(tm:List (T×V))(f:FA):TA:=λσ H Q=>∃ρ O q,aw X.K Z tm O ρ σ H/\f ρ q/\∀ts,q ts->∀vs H',aK H H'->Paired (λv t=>iw X.K H' (av Z O) t v) vs ts->Q vs H'
def VR(e:Expr)(f:FE):Prop:=Bx λtm=>PE X e (lR X Z tm f)
instance{e:Expr}{f:FE}:CoeFun (VR X Z e f) λ_=>∀tm,PE X e (lR X Z tm f):=⟨λh=>Bx.h h⟩
def VE(e:Expr)(f:FE):Prop:=Bx λtm=>PE X e (lE X Z tm f)
instance{e:Expr}{f:FE}:CoeFun (VE X Z e f) λ_=>∀tm,PE X e (lE X Z tm f):=⟨λh=>Bx.h h⟩
def VP(e:Expr)(f:FP):Prop:=Bx λtm=>PE X e (lP X Z tm f)
instance{e:Expr}{f:FP}:CoeFun (VP X Z e f) λ_=>∀tm,PE X e (lP X Z tm f):=⟨λh=>Bx.h h⟩
def VX(e:Expr)(f:FX):Prop:=Bx λtm=>PE X e (lX X Z tm f)
instance{e:Expr}{f:FX}:CoeFun (VX X Z e f) λ_=>∀tm,PE X e (lX X Z tm f):=⟨λh=>Bx.h h⟩
def VC(e:Expr)(f:FB):Prop:=Bx λtm=>PT X e (lB X Z tm f)
instance{e:Expr}{f:FB}:CoeFun (VC X Z e f) λ_=>∀tm,PT X e (lB X Z tm f):=⟨λh=>Bx.h h⟩
def VW(e:Expr)(f:FB):Prop:=Bx λtm=>PW X e (lB X Z tm f)
instance{e:Expr}{f:FB}:CoeFun (VW X Z e f) λ_=>∀tm,PW X e (lB X Z tm f):=⟨λh=>Bx.h h⟩
def VA(es:qap)(f:FA):Prop:=Bx λtm=>PA X es (lA X Z tm f)
instance{es:qap}{f:FA}:CoeFun (VA X Z es f) λ_=>∀tm,PA X es (lA X Z tm f):=⟨λh=>Bx.h h⟩
def Il(es:qap)(f:FA):Prop:=Bx λtm=>PA X es (Y9 X Z tm f)
instance{es:qap}{f:FA}:CoeFun (Il X Z es f) λ_=>∀tm,PA X es (Y9 X Z tm f):=⟨λh=>Bx.h h⟩
end
theorem PE.weak{t t':TE}(h:PE X e t)(hw:∀σ H Q,t' σ H Q->t σ H Q):PE X e t':=λpins s σ H Q I q=>h pins s σ H Q I (hw _ _ _ q)
theorem PT.weak{t t':TT}(h:PT X e t)(hw:∀σ H Q,t' σ H Q->t σ H Q):PT X e t':=λpins s σ H Q I q=>h pins s σ H Q I (hw _ _ _ q)
theorem PW.weak{t t':TT}(h:PW X e t)(hw:∀σ H Q,t' σ H Q->t σ H Q):PW X e t':=λwh pins s σ H Q I q=>h wh pins s σ H Q I (hw _ _ _ q)
theorem PA.weak{e:qap}{t t':TA}(h:PA X e t)(hw:∀σ H Q,t' σ H Q->t σ H Q):PA X e t':=λpos pins s σ H Q I q=>h pos pins s σ H Q I (hw _ _ _ q)
theorem PS.weak{b:Stmt}{t t':TS}(h:PS X b t)(hw:∀D σ H,t' D σ H->t D σ H):PS X b t':=λpins s σ H D I q=>h pins s σ H D I (hw D σ H q)
theorem gw.gy{b:qaq}{t t':TS}(h:gw X b t)(hw:∀D σ H,t' D σ H->t D σ H):gw X b t':=λpins s σ H D I q=>h pins s σ H D I (hw D σ H q)
section
variable{Z:Zc}{a:Expr}{pos:Pos}
theorem VE.vr{f:FE}(h:VE X Z e f):VR X Z e f:=.mk λtm=>PE.weak (h tm) λσ H Q ⟨ρ,O,q,I,hf,k⟩=>⟨ρ,O,q,I,hf,λt ht v H' s z=>k t ht v H' s (.inl z)⟩
def fT(f:FP):FE:=λρ Q=>f ρ λr=>Q r.t
def fV(f:FE):FP:=λρ Q=>f ρ λt=>Q (.vw t)
def fX(f:FP):FX:=λρ Q=>f ρ λr=>Q ρ r
theorem VP.ve{f:FP}(h:VP X Z e f):VE X Z e (fT f):=.mk λtm=>PE.weak (h tm) λσ H Q ⟨ρ,O,q,I,hf,k⟩=>⟨ρ,O,λr=>q r.t,I,hf,λr hr v H' s z=>k r.t hr v H' s z.at⟩
theorem VP.vr{f:FP}(h:VP X Z e f):VR X Z e (fT f):=h.ve.vr
theorem VP.vx{f:FP}(h:VP X Z e f):VX X Z e (fX f):=.mk λtm=>PE.weak (h tm) λσ H Q ⟨ρ,O,q,I,hf,k⟩=>⟨ρ,O,λr=>q ρ r,I,hf,λr hr v H' s z=>k ρ r hr O v H' z⟩
theorem VE.vp{f:FE}(h:VE X Z e f):VP X Z e (fV f):=.mk λtm=>PE.weak (h tm) λσ H Q ⟨ρ,O,q,I,hf,k⟩=>⟨ρ,O,λt=>q (.vw t),I,hf,λt hr v H' s z=>k (.vw t) hr v H' s ⟨I.same s,z⟩⟩
def jE(i:Nat):FE:=λρ Q=>match ρ[i]? with
 |some (some (t,false))=>Q t
 |_=>False
def zP(i:Nat):FE:=λρ Q=>match ρ[i]? with
 |some (some (t,_))=>Q t
 |_=>False
theorem aj(i:Nat)(hN:X.N[i]?=some x:=by rfl)(hv:jA X.env.scope x:=by first|exact Or.inl rfl|exact Or.inr (Or.inl rfl)|exact Or.inr (Or.inr rfl))(hd:gp x:=by decide)(fH:se x:=by decide):VE X Z (.Name x pos) (jE i):=.mk λtm=>PE.weak (bN hN hv hd fH) λσ H Q ⟨ρ,O,q,I,hf,k⟩=>by
 unfold jE at hf;split at hf
 rename_i t e
 obtain⟨o,s,h1,h2,rfl,v,rfl,h3⟩:=I.sl i _ e;exact⟨v,h2,k t hf v H (aK.refl H) h3⟩;exact hf.elim
theorem ae(i:Nat)(hN:X.N[i]?=some x:=by rfl)(hv:jA X.env.scope x:=by first|exact Or.inl rfl|exact Or.inr (Or.inl rfl)|exact Or.inr (Or.inr rfl))(hd:gp x:=by decide)(fH:se x:=by decide):VR X Z (.Name x pos) (zP i):=.mk λtm=>PE.weak (bN hN hv hd fH) λσ H Q ⟨ρ,O,q,I,hf,k⟩=>by
 unfold zP at hf;split at hf
 rename_i t b e
 obtain⟨o,s,h1,h2,h3⟩:=I.sl i _ e;cases b with
 |false=>obtain⟨rfl,v,rfl,h3⟩:=h3;exact⟨v,h2,k t hf v H (aK.refl H) (.inl h3)⟩
 |true=>obtain⟨a,rfl,rfl,h3⟩:=h3;exact⟨_,h2,k t hf _ H (aK.refl H) (.inr ⟨a,rfl,h3⟩)⟩
 exact hf.elim
def fC(t:T):FP:=λ_ Q=>Q (.vw t)
theorem DQ{t:T}(h:PE X e (tC v))(ht:∀H A,At X.K H A t v):VP X Z e (fC t):=.mk λtm=>PE.weak h λσ H Q ⟨ρ,O,q,I,hf,k⟩=>k _ hf v H (aK.refl H) ⟨I,ht _ _⟩
theorem af{i j pos}:VP X Z (.Constant (.int i) j pos) (fC (.int i)):=DQ xO λ_ _=>bc
theorem rn{i j pos}:VP X Z (.Constant (.bool i) j pos) (fC (.bl i)):=DQ Q5 λ_ _=>dP
theorem aW{i j pos}:VP X Z (.Constant (.str i) j pos) (fC (.str i)):=DQ My λ_ _=>c_
theorem cZ{j pos}:VP X Z (.Constant .none j pos) (fC .aQ):=DQ xP λ_ _=>yh
theorem ja{t:T}(hg:Gl X x)(hm:X.mg x=some u)(r:RelV v u)(ht:∀H A,At X.K H A t v)(hd:gp x:=by decide):VP X Z (.Name x pos) (fC t):=DQ (sr hg hm r hd) ht
def qo(K:qaf)(r:R2)(p:T->T->(Rt->Prop)->Prop):Prop :=
 ∀(Z:Zc)(tm:List (T×V))(O:HD)(ρ:En)(σ:St)(H:Hp)(x y:T)(v w:V)(q:Rt->Prop)(Q:VK),aw K Z tm O ρ σ H->iw K H (av Z O) x v->iw K H (av Z O) y w->p x y q ->
  (∀t,q t->∀u H',aK H H'->fJ K Z tm O ρ σ H' t u->Q u H')->r v w H Q
def f2(fa fb:FE)(p:T->T->(Rt->Prop)->Prop):FP:=λρ Q=>fa ρ λx=>fb ρ λy=>p x y Q
theorem two{r:R2}{fa fb:FE}{p:T->T->(Rt->Prop)->Prop}(ho:qo X.K r p){tm:List (T×V)}:∀σ H Q,lP X Z tm (f2 fa fb p) σ H Q->Rl r (lR X Z tm fa) (lR X Z tm fb) σ H Q:=λσ H Q ⟨ρ,O,q,I,hf,k⟩ =>
 ⟨ρ,O,λx=>fb ρ λy=>p x y q,I,hf,λx hx v H1 s1 a1=>⟨ρ,O,λy=>p x y q,I.same s1,hx,λy hy w H2 s2 a2=>
  ho Z tm O ρ σ H2 x y v w q Q ((I.same s1).same s2) (a1.same s2) a2 hy λt ht u H' s a=>k t ht u H' ((s1.trans s2).trans s) a⟩⟩
theorem iB{op:Operator}{r:R2}{fa fb:FE}{p:T->T->(Rt->Prop)->Prop}(h:fU X (binaryOp op) r)(ho:qo X.K r p)(ha:VR X Z a fa)(hb:VR X Z b fb):VP X Z (.BinOp a op b pos) (f2 fa fb p) :=
 .mk λtm=>PE.weak (K9 h (ha tm) (hb tm)) (two ho)
theorem DR{op:CmpOp}{r:R2}{fa fb:FE}{p:T->T->(Rt->Prop)->Prop}(h:fU X (compareOp op) r)(ho:qo X.K r p)(ha:VR X Z a fa)(hb:VR X Z b fb)(hm:behindInMarks op b=false):VP X Z (.Compare a [op] [b] pos) (f2 fa fb p) :=
 .mk λtm=>PE.weak (HH h (ha tm) (hb tm) hm) (two ho)
def lr(f:FP):FB:=λρ Q=>f ρ λr=>match r with
 |.vw (.bl c)=>Q c
 |_=>False
theorem yi{r:Rt}{Q:Bool->Prop}(h:match r with | .vw (.bl c)=>Q c|_=>False):∃c,r=.vw (.bl c)/\Q c:=by split at h;exact⟨_,rfl,h⟩;exact h.elim
theorem iC{op:CmpOp}{r:R2}{fa fb:FE}{p:T->T->(Rt->Prop)->Prop}(h:fU X (compareOp op) r)(ho:qo X.K r p)(ha:VR X Z a fa)(hb:VR X Z b fb)(hm:behindInMarks op b=false):VC X Z (.Compare a [op] [b] pos) (lr (f2 fa fb p)) :=
 .mk λtm=>PT.weak (HI h (ha tm) (hb tm) hm) λσ H Q ⟨ρ,O,q,I,hf,k⟩=>two ho σ H _ ⟨ρ,O,_,I,hf,λt ht u H' s a=>by obtain⟨c,rfl,hc⟩:=yi ht;have e:=a.2;simp only[At] at e;exact⟨c,e,k c hc H' s⟩⟩
theorem dy{f:FP}(h:VP X Z e f)(he:∀whole,isTrue e X.env whole=(do let v <- whole;standAt e.pos;holding [v] (truthy v)):=by intro _;rfl):VC X Z e (lr f) :=
 .mk λtm=>PT.weak (MA (h tm) he) λσ H Q ⟨ρ,O,q,I,hf,k⟩=>⟨ρ,O,_,I,hf,λt ht u H' s a=>by obtain⟨c,rfl,hc⟩:=yi ht;have e:=a.2;simp only[At] at e;exact⟨c,e,k c hc H' s⟩⟩
def W4(f g:FB):FB:=λρ Q=>f ρ λc=>if c=true then g ρ Q else Q false
def fOr(f g:FB):FB:=λρ Q=>f ρ λc=>if c=true then Q true else g ρ Q
def R7(f:FB):FB:=λρ Q=>f ρ λc=>Q (!c)
theorem VW.vc{f:FB}(h:VW X Z e f):VC X Z e f:=.mk λtm=>PW.pt (h tm)
theorem nI{f:FB}(h:VC X Z a f):VW X Z (.BoolOp .And [a] pos) f:=.mk λtm=>pw_and1 (h tm)
theorem oz{f:FB}(h:VC X Z a f):VW X Z (.BoolOp .Or [a] pos) f:=.mk λtm=>pw_or1 (h tm)
theorem oA{rest:qap}{f g:FB}(h:VC X Z a f)(h':VW X Z (.BoolOp .And (b::rest) pos) g):VW X Z (.BoolOp .And (a::b::rest) pos) (W4 f g) :=
 .mk λtm=>PW.weak (pw_and (h tm) (h' tm)) λσ H Q ⟨ρ,O,q,I,hf,k⟩=>⟨ρ,O,_,I,hf,λc hc H1 s1=>by
  cases c with
  |true=>rw[if_pos rfl] at hc ⊢;exact⟨ρ,O,q,I.same s1,hc,λb hb H' s=>k b hb H' (s1.trans s)⟩
  |false=>rw[if_neg eh] at hc ⊢;exact k false hc H1 s1⟩
theorem vh{rest:qap}{f g:FB}(h:VC X Z a f)(h':VW X Z (.BoolOp .Or (b::rest) pos) g):VW X Z (.BoolOp .Or (a::b::rest) pos) (fOr f g) :=
 .mk λtm=>PW.weak (pw_or (h tm) (h' tm)) λσ H Q ⟨ρ,O,q,I,hf,k⟩=>⟨ρ,O,_,I,hf,λc hc H1 s1=>by
  cases c with
  |true=>rw[if_pos rfl] at hc ⊢;exact k true hc H1 s1
  |false=>rw[if_neg eh] at hc ⊢;exact⟨ρ,O,q,I.same s1,hc,λb hb H' s=>k b hb H' (s1.trans s)⟩⟩
theorem lu{f:FB}(h:VC X Z a f):VC X Z (.UnaryOp .Not a pos) (R7 f) :=
 .mk λtm=>PT.weak (MB (h tm)) λσ H Q ⟨ρ,O,q,I,hf,k⟩=>⟨ρ,O,_,I,hf,λc hc H1 s1=>k _ hc H1 s1⟩
def R8(f g:FP):FP:=λρ Q=>f ρ λr=>match r with
 |.vw (.bl true)=>g ρ Q
 |.vw (.bl false)=>Q (.vw (.bl false))
 |_=>False
def R9(f:FP):FP:=λρ Q=>f ρ λr=>match r with
 |.vw (.bl c)=>Q (.vw (.bl (!c)))
 |_=>False
theorem sM{op}{f:FP}(h:VP X Z a f):VP X Z (.BoolOp op [a] pos) f:=.mk λtm=>MC (h tm)
theorem lx{rest:qap}{f g:FP}(h:VP X Z a f)(h':VP X Z (.BoolOp .And (b::rest) pos) g):VP X Z (.BoolOp .And (a::b::rest) pos) (R8 f g) :=
 .mk λtm=>PE.weak (MD (h tm) (h' tm)) λσ H Q ⟨ρ,O,q,I,hf,k⟩=>⟨ρ,O,_,I,hf,λr hr v H1 s1 z=>by split at hr;have e:=z.2;simp only[At] at e;exact⟨true,e,by rw[if_pos rfl];exact⟨ρ,O,q,I.same s1,hr,λb hb v H' s=>k b hb v H' (s1.trans s)⟩⟩;have e:=z.2;simp only[At] at e;exact⟨false,e,by rw[if_neg eh];exact k _ hr _ H1 s1 ⟨I.same s1,dP⟩⟩;exact hr.elim⟩
theorem Np{f:FP}(h:VP X Z a f):VP X Z (.UnaryOp .Not a pos) (R9 f) :=
 .mk λtm=>PE.weak (ME (h tm)) λσ H Q ⟨ρ,O,q,I,hf,k⟩=>⟨ρ,O,_,I,hf,λr hr v H1 s1 z=>by split at hr;have e:=z.2;simp only[At] at e;exact⟨_,e,k _ hr _ H1 s1 ⟨I.same s1,dP⟩⟩;exact hr.elim⟩
def Y_(c:FB)(f g:FP):FP:=λρ Q=>c ρ λb=>if b=true then f ρ Q else g ρ Q
theorem iD{fc:FB}{f g:FP}(hc:VC X Z c fc)(h:VP X Z a f)(h':VP X Z b g):VP X Z (.IfExp c a b pos) (Y_ fc f g) :=
 .mk λtm=>PE.weak (Dh (hc tm) (h tm) (h' tm)) λσ H Q ⟨ρ,O,q,I,hf,k⟩=>⟨ρ,O,_,I,hf,λc hc H1 s1=>by
  cases c with
  |true=>rw[if_pos rfl] at hc ⊢;exact⟨ρ,O,q,I.same s1,hc,λb hb v H' s=>k b hb v H' (s1.trans s)⟩
  |false=>rw[if_neg eh] at hc ⊢;exact⟨ρ,O,q,I.same s1,hc,λb hb v H' s=>k b hb v H' (s1.trans s)⟩⟩
def nv:FA:=λ_ Q=>Q []
def dA(f:FE)(g:FA):FA:=λρ Q=>f ρ λt=>g ρ λts=>Q (t::ts)
theorem ar:VA X Z [] nv:=.mk λtm=>PA.weak cN λσ H Q ⟨ρ,O,q,I,hf,k⟩=>k _ hf [] H (aK.refl H) ay.nil
theorem aa{f:FE}{g:FA}(h:VE X Z e f)(h':VA X Z es g)(hs:starEach (e::es) X.env=(false,eval e X.env)::starEach es X.env:=by rfl):VA X Z (e::es) (dA f g) :=
 .mk λtm=>PA.weak (bf (h tm) (h' tm) hs) λσ H Q ⟨ρ,O,q,I,hf,k⟩=>⟨ρ,O,_,I,hf,λt ht v H1 s1 a1=>⟨ρ,O,_,I.same s1,ht,λts eF vs H2 s2 a2=>k _ eF _ H2 (s1.trans s2) (ay.cons (a1.same s2) a2)⟩⟩
theorem aV:Il X Z [] nv:=.mk λtm=>PA.weak cN λσ H Q ⟨ρ,O,q,I,hf,k⟩=>k _ hf [] H (aK.refl H) .nil
theorem aJ{f:FE}{g:FA}(h:VR X Z e f)(h':Il X Z es g)(hs:starEach (e::es) X.env=(false,eval e X.env)::starEach es X.env:=by rfl):Il X Z (e::es) (dA f g) :=
 .mk λtm=>PA.weak (bf (h tm) (h' tm) hs) λσ H Q ⟨ρ,O,q,I,hf,k⟩=>⟨ρ,O,_,I,hf,λt ht v H1 s1 a1=>⟨ρ,O,_,I.same s1,ht,λts eF vs H2 s2 a2=>k _ eF _ H2 (s1.trans s2) (.cons (a1.same s2) a2)⟩⟩
def Nq(g:FA):FP:=λρ Q=>g ρ λts=>ts.length<=sizeLine/\Q (.vw (.tup ts))
def W5(g:FA):FP:=λρ Q=>g ρ λts=>ts.length<=sizeLine/\Q (.fr (.lst ts))
theorem a9{g:FA}{x1}(h:VA X Z es g):VP X Z (.Tuple es x1 pos) (Nq g) :=
 .mk λtm=>PE.weak (x5 (h tm)) λσ H Q ⟨ρ,O,q,I,hf,k⟩=>⟨ρ,O,_,I,hf,λts eF vs H1 s1 a1=>⟨by rw[a1.length];exact eF.1,λp hp=>k _ eF.2 _ _ (s1.trans (aC hp)) ⟨(I.same s1).same (aC hp),cf (dD.of aB) (a1.same (aC hp))⟩⟩⟩
theorem eJ{g:FA}(h:VA X Z es g):VP X Z (.List es pos) (W5 g) :=
 .mk λtm=>PE.weak (x6 (h tm)) λσ H Q ⟨ρ,O,q,I,hf,k⟩=>⟨ρ,O,_,I,hf,λts eF vs H1 s1 a1=>⟨by rw[a1.length];exact eF.1,λp hp=>k _ eF.2 _ _ (s1.trans (aC hp)) ((I.same s1).nt hp a1)⟩⟩
end
mutual
noncomputable def eqT:T->T->Bool
 |.aQ,.aQ=>true
 |.bl a,.bl b=>a==b
 |.bl a,.int b=>(if a then 1 else 0)==b
 |.int a,.bl b=>a==(if b then 1 else 0)
 |.int a,.int b=>a==b
 |.str a,.str b=>a==b
 |.tup a,.tup b=>gz a b
 |.lst a,.lst b=>gz a b
 |_,_=>false
noncomputable def gz:List T->List T->Bool
 |[],[]=>true
 |a::as,b::bs=>eqT a b && gz as bs
 |_,_=>false
end
mutual
def plainT:T->Bool
 |.tup l=>cO l
 |.lst l=>cO l
 |.dk _ _=>false
 |.dc _ _ _=>false
 |.ins _ _ _=>false
 |.pin _ _=>false
 |.ob _=>false
 |.ty _=>false
 |_=>true
def cO:List T->Bool
 |[]=>true
 |t::ts=>plainT t && cO ts
end
mutual
def dep:T->Nat
 |.tup l=>ly l+1
 |.lst l=>ly l+1
 |_=>0
def ly:List T->Nat
 |[]=>0
 |t::ts=>max (dep t) (ly ts)
end
mutual
theorem gA:∀(t:T),plainT t=true->eqT t t=true
 |.aQ,_=>by simp[eqT]
 |.bl _,_=>by simp[eqT]
 |.int _,_=>by simp[eqT]
 |.str _,_=>by simp[eqT]
 |.tup l,h=>by simp only[plainT] at h;simp only[eqT];exact lz l h
 |.lst l,h=>by simp only[plainT] at h;simp only[eqT];exact lz l h
 |.dk _ _,h=>by simp only[plainT] at h;cases h
 |.dc _ _ _,h=>by simp only[plainT] at h;cases h
 |.ins _ _ _,h=>by simp only[plainT] at h;cases h
 |.pin _ _,h=>by simp only[plainT] at h;cases h
 |.ob _,h=>by simp only[plainT] at h;cases h
 |.ty _,h=>by simp only[plainT] at h;cases h
theorem lz:∀(t:List T),cO t=true->gz t t=true
 |[],_=>by simp[gz]
 |t::ts,h=>by simp only[cO,jm] at h;simp only[gz,jm];exact⟨gA t h.1,lz ts h.2⟩
end
theorem kj:∀{a b:List T},gz a b=true->a.length=b.length
 |[],[],_=>rfl
 |a::as,b::bs,h=>by simp only[gz,jm] at h;simp[kj h.2]
 |[],_::_,h=>by simp[gz] at h
 |_::_,[],h=>by simp[gz] at h
theorem km:∀{a b:List T},a.length=b.length->gz a b=(List.range a.length).all λj=>match a[j]?,b[j]? with
  |some x,some y=>eqT x y
  |_,_=>true
 |[],[],_=>by simp[gz]
 |a::as,b::bs,h=>by have ih:=km (a:=as) (b:=bs) (by simpa using h);simp only[gz];rw[ih,j9,List.range_succ_eq_map,QZ,List.all_map];rfl
 |[],_::_,h=>by simp at h
 |_::_,[],h=>by simp at h
theorem vi:∀{a b:List T},gz a b=((List.range (min a.length b.length)).all (λj=>match a[j]?,b[j]? with
  |some x,some y=>eqT x y
  |_,_=>true) && a.length==b.length)
 |a,b=>by
   by_cases h:a.length=b.length;rw[km h,h,K4];simp;have e:(a.length==b.length)=false:=by simpa using h
   rw[e,QY];cases q:gz a b with
   |false=>rfl
   |true=>exact absurd (kj q) h
section
variable{s:Shared}{O O':qah}
theorem vj(I:Inv X pins σ H s){ys:qak}(h:eU X.K H a xs)(h':dD X.K H a ys):False:=by
 obtain⟨aM,_,p,_⟩:=I.list h;obtain⟨jF,_,p2,_⟩:=I.tuple h';obtain⟨o,n,e,c,_⟩:=p;obtain⟨o2,e2,c2,_⟩:=p2;rw[e] at e2;cases e2;rw[c] at c2;injection c2 with c2
 exact absurd c2 (by decide)
mutual
theorem At.inj(I:Inv X pins σ H s):∀{t u:T}{v:V},plainT t=true->plainT u=true->At X.K H O t v->At X.K H O' u v->t=u
 |.aQ,u,v,_,pu,h,h'=>by simp only[At] at h;subst h;cases u<;>simp only[At] at h'<;>first|rfl|(simp only[plainT] at pu;cases pu;done)|(obtain⟨_,_,e,_⟩:=h';cases e)|(cases h';done)
 |.bl b,u,v,_,pu,h,h'=>by simp only[At] at h;subst h;cases u<;>simp only[At] at h'<;>first|(simp only[plainT] at pu;cases pu;done)|(obtain⟨_,_,e,_⟩:=h';cases e;done)|(cases h';rfl)|(cases h';done)
 |.int b,u,v,_,pu,h,h'=>by simp only[At] at h;subst h;cases u<;>simp only[At] at h'<;>first|(simp only[plainT] at pu;cases pu;done)|(obtain⟨_,_,e,_⟩:=h';cases e;done)|(cases h';rfl)|(cases h';done)
 |.str b,u,v,_,pu,h,h'=>by simp only[At] at h;subst h;cases u<;>simp only[At] at h'<;>first|(simp only[plainT] at pu;cases pu;done)|(obtain⟨_,_,e,_⟩:=h';cases e;done)|(cases h';rfl)|(cases h';done)
 |.dk _ _,_,_,p,_,_,_=>by simp only[plainT] at p;cases p
 |.dc _ _ _,_,_,p,_,_,_=>by simp only[plainT] at p;cases p
 |.ins _ _ _,_,_,p,_,_,_=>by simp only[plainT] at p;cases p
 |.pin _ _,_,_,p,_,_,_=>by simp only[plainT] at p;cases p
 |.ob _,_,_,p,_,_,_=>by simp only[plainT] at p;cases p
 |.ty _,_,_,p,_,_,_=>by simp only[plainT] at p;cases p
 |.tup ts,u,v,p,pu,h,h'=>by
  simp only[At] at h;obtain⟨a,vs,rfl,h1,h2⟩:=h;cases u with
  |tup us=>simp only[At] at h';obtain⟨b,ws,e,g1,g2⟩:=h';cases e;cases I.i8 h1 g1;simp only[plainT] at p pu;rw[ay.inj I p pu h2 g2]
  |lst us=>simp only[At] at h';obtain⟨b,ws,e,g1,g2⟩:=h';cases e;exact (vj I g1.sq h1).elim
  |dk _ _=>simp only[plainT] at pu;cases pu
  |dc _ _ _=>simp only[plainT] at pu;cases pu
  |ins _ _ _=>simp only[plainT] at pu;cases pu
  |pin _ _=>simp only[plainT] at pu;cases pu
  |ob _=>simp only[plainT] at pu;cases pu
  |ty _=>simp only[plainT] at pu;cases pu
  |_=>simp only[At] at h';cases h'
 |.lst ts,u,v,p,pu,h,h'=>by
  simp only[At] at h;obtain⟨a,vs,rfl,h1,h2⟩:=h;cases u with
  |lst us=>simp only[At] at h';obtain⟨b,ws,e,g1,g2⟩:=h';cases e;cases I.kc h1.sq g1.sq;simp only[plainT] at p pu;rw[ay.inj I p pu h2 g2]
  |tup us=>simp only[At] at h';obtain⟨b,ws,e,g1,g2⟩:=h';cases e;exact (vj I h1.sq g1).elim
  |dk _ _=>simp only[plainT] at pu;cases pu
  |dc _ _ _=>simp only[plainT] at pu;cases pu
  |ins _ _ _=>simp only[plainT] at pu;cases pu
  |pin _ _=>simp only[plainT] at pu;cases pu
  |ob _=>simp only[plainT] at pu;cases pu
  |ty _=>simp only[plainT] at pu;cases pu
  |_=>simp only[At] at h';cases h'
theorem ay.inj(I:Inv X pins σ H s):∀{ts us:List T}{vs:qak},cO ts=true->cO us=true->ay X.K H O ts vs->ay X.K H O' us vs->ts=us
 |[],[],_,_,_,_,_=>rfl
 |[],_::_,_,_,_,h,h'=>by simp only[ay] at h h';subst h;obtain⟨_,_,e,_⟩:=h';cases e
 |_::_,[],_,_,_,h,h'=>by simp only[ay] at h h';subst h';obtain⟨_,_,e,_⟩:=h;cases e
 |t::ts,u::us,_,p,pu,h,h'=>by simp only[ay] at h h';simp only[cO,jm] at p pu;obtain⟨v,r,rfl,h1,h2⟩:=h;obtain⟨v',r',e,g1,g2⟩:=h';cases e;rw[At.inj I p.1 pu.1 h1 g1,ay.inj I p.2 pu.2 h2 g2]
end
theorem kn:∀{ts:List T}{j:Nat}{x:T},ts[j]?=some x->dep x<=ly ts
 |[],_,_,h=>by simp at h
 |t::ts,0,x,h=>by simp at h;subst h;simp only[ly];omega
 |t::ts,j+1,x,h=>by have:=kn (ts:=ts) (j:=j) (x:=x) (by simpa using h);simp only[ly];omega
theorem cP:∀{ts:List T}{j:Nat}{x:T},cO ts=true->ts[j]?=some x->plainT x=true
 |[],_,_,_,h=>by simp at h
 |t::ts,0,x,p,h=>by simp at h;subst h;simp only[cO,jm] at p;exact p.1
 |t::ts,j+1,x,p,h=>by simp only[cO,jm] at p;exact cP (ts:=ts) (j:=j) p.2 (by simpa using h)
theorem in1_units(A:Around):A.in1.units=A.units+1:=by first|rfl|simp[Around.in1,Around.units]
theorem ko(I:Inv X pins σ H s){ts us:List T}{ws:qak}{aM jF:qag}(h1:ay X.K H O ts vs)(h2:ay X.K H O' us ws)(r1:Vals vs aM)(r2:Vals ws jF)(key:∀(j:Nat) x y v w u u',ts[j]?=some x->us[j]?=some y->At X.K H O x v->At X.K H O' y w->RelV v u->RelV w u'->SeqAt.EqAt A s u u' (eqT x y)) :
  ∀(j:Nat)(g1:j<aM.toArray.size)(g2:j<jF.toArray.size),SeqAt.EqAt A s aM.toArray[j] jF.toArray[j] (match ts[j]?,us[j]? with
   |some x,some y=>eqT x y
   |_,_=>true):=λj g1 g2=>by
 have l1:=h1.length;have l2:=h2.length;have m1:=r1.length;have m2:=r2.length;simp only[iq] at g1 g2;have e1:ts[j]?=some (ts[j]'(by omega)):=by simp
 have e2:us[j]?=some (us[j]'(by omega)):=by simp
 obtain⟨v,a1,a2⟩:=h1.get e1;obtain⟨w,b1,b2⟩:=h2.get e2;obtain⟨u,c1,c2⟩:=r1.get a1;obtain⟨u',d1,d2⟩:=r2.get b1;have f1:aM.toArray[j]=u:=by rw[m6 (by omega)] at c1;simpa using c1
 have f2:jF.toArray[j]=u':=by rw[m6 (by omega)] at d1;simpa using d1
 rw[f1,f2,e1,e2];exact key j _ _ v w u u' e1 e2 a2 b2 c2 d2
theorem oB{O:qah}(I:Inv X pins σ H s){u:T}{w:V}{b:Value}(pu:plainT u=true)(hw:At X.K H O u w)(r:RelV w b):(u=.aQ/\b=.none)\/(∃c,u=.bl c/\b=.bool c)\/(∃c t,u=.int c/\b=.int c t)\/(∃c t,u=.str c/\b=.str c t)\/(∃l p xs,u=.tup l/\b=.ref p/\s.heap.IsTuple p xs)\/∃l p xs,u=.lst l/\b=.ref p/\s.heap.IsList p xs:=by
 cases u with
 |tup l=>simp only[At] at hw;obtain⟨p,ws,rfl,q,_⟩:=hw;cases r;obtain⟨_,_,p1,_⟩:=I.tuple q;exact .inr (.inr (.inr (.inr (.inl ⟨l,p,_,rfl,rfl,p1⟩))))
 |lst l=>simp only[At] at hw;obtain⟨p,ws,rfl,q,_⟩:=hw;cases r;obtain⟨_,_,p1,_⟩:=I.list q.sq;exact .inr (.inr (.inr (.inr (.inr ⟨l,p,_,rfl,rfl,p1.isList⟩))))
 |aQ=>simp only[At] at hw;subst hw;cases r;exact .inl ⟨rfl,rfl⟩
 |bl c=>simp only[At] at hw;subst hw;cases r;exact .inr (.inl ⟨c,rfl,rfl⟩)
 |int c=>simp only[At] at hw;subst hw;obtain⟨t,rfl⟩:=r;exact .inr (.inr (.inl ⟨c,t,rfl,rfl⟩))
 |str c=>simp only[At] at hw;subst hw;obtain⟨t,rfl⟩:=r;exact .inr (.inr (.inr (.inl ⟨c,t,rfl,rfl⟩)))
 |_=>simp only[plainT] at pu;cases pu
theorem zQ(I:Inv X pins σ H s){t u:T}{w:V}{a b:Value}(fK:A.units<cLine)(key:∀(x y:T) (v w:V) (a b:Value),dep x+1<=dep t->plainT x=true->plainT y=true->At X.K H O x v->At X.K H O' y w->RelV v a->RelV w b->SeqAt.EqAt A.in1 s a b (eqT x y))(pt:plainT t=true)(pu:plainT u=true)(ht:At X.K H O t v)(hw:At X.K H O' u w)(rv:RelV v a)(rw':RelV w b):SeqAt.RcAt A s a b (eqT t u):=by
 rcases oB I pt ht rv with⟨rfl,rfl⟩|⟨d,rfl,rfl⟩|⟨d,_,rfl,rfl⟩|⟨d,_,rfl,rfl⟩|⟨l,p,_,rfl,rfl,h⟩|⟨l,p,_,rfl,rfl,h⟩<;>rcases oB I pu hw rw' with⟨rfl,rfl⟩|⟨c,rfl,rfl⟩|⟨c,_,rfl,rfl⟩|⟨c,_,rfl,rfl⟩|⟨l',p',_,rfl,rfl,h'⟩|⟨l',p',_,rfl,rfl,h'⟩<;>simp only[eqT]
 exact .none_none;exact .none_bool _;exact .none_int _ _;exact .none_str _ _;exact .none_tuple h' fK;exact .none_list h' fK;exact .bool_none _;exact .bool_bool _ _;exact .bool_int _ _ _;exact .bool_str _ _ _;exact .bool_tuple _ h' fK;exact .bool_list _ h' fK;exact .int_none _ _;exact .int_bool _ _ _;exact .int_int _ _ _ _;exact .int_str _ _ _ _;exact .int_tuple _ _ h' fK;exact .int_list _ _ h' fK;exact .str_none _ _;exact .str_bool _ _ _;exact .str_int _ _ _ _;exact .str_str _ _ _ _;exact .str_tuple _ _ h' fK;exact .str_list _ _ h' fK;exact .tuple_none h fK;exact .tuple_bool _ h fK;exact .tuple_int _ _ h fK;exact .tuple_str _ _ h fK;simp only[plainT] at pt pu;simp only[At] at ht hw;obtain⟨_,vs,rfl,h1,h2⟩:=ht;obtain⟨_,ws,rfl,g1,g2⟩:=hw;cases rv;cases rw';have e3:=h2.length;have e4:=g2.length;obtain⟨aM,r1,p1,_⟩:=I.tuple h1;obtain⟨jF,r2,p2,_⟩:=I.tuple g1;have e1:=r1.length;have e2:=r2.length;have:=SeqAt.RcAt.tuples (A:=A) p1 p2 fK (ko I h2 g2 r1 r2 λj x y v w u u' e1 e2 a1 a2 b1 b2=>key x y v w u u' (m7 (Nat.succ_le_succ (kn e1)) (by simp only[dep];omega)) (cP pt e1) (cP pu e2) a1 a2 b1 b2);simp only[iq] at this;rw[<- e1,<- e2,e3,e4] at this;rw[vi];exact this;exact .tuple_list h h' fK;exact .list_none h fK;exact .list_bool _ h fK;exact .list_int _ _ h fK;exact .list_str _ _ h fK;exact .list_tuple h h' fK;simp only[plainT] at pt pu;simp only[At] at ht hw;obtain⟨_,vs,rfl,h1,h2⟩:=ht;obtain⟨_,ws,rfl,g1,g2⟩:=hw;cases rv;cases rw';have e3:=h2.length;have e4:=g2.length;obtain⟨aM,r1,p1,_⟩:=I.list h1.sq;obtain⟨jF,r2,p2,_⟩:=I.list g1.sq;have e1:=r1.length;have e2:=r2.length;by_cases hl:l.length=l'.length;have:=SeqAt.RcAt.lists (A:=A) p1.isList p2.isList (by simp only[iq];omega) fK (ko I h2 g2 r1 r2 λj x y v w u u' e1 e2 a1 a2 b1 b2=>key x y v w u u' (m7 (Nat.succ_le_succ (kn e1)) (by simp only[dep];omega)) (cP pt e1) (cP pu e2) a1 a2 b1 b2);simp only[iq] at this;rw[<- e1,e3] at this;rw[km hl];exact this;have:gz l l'=false:=by
  cases q:gz l l' with
  |false=>rfl
  |true=>exact absurd (kj q) hl
 rw[this];exact SeqAt.RcAt.lists_lengths p1.isList p2.isList (by simp only[iq];rw[bne_iff_ne];omega) fK
theorem DS{a b:Value}{k:Bool}(h:SeqAt.RcAt A s a b k)(g:a=b->k=true)(f:∀x t,a≠.float x t):SeqAt.EqAt A s a b k:=λprog w E Q hq=>by
 unfold eqBool;refine wpAny_holding (wpAny_ite_split (λe=>?_) λ_=>?_);rw[g (eq_of_beq e)] at hq;exact wpAny_bind (wpAny_rule (wpAny_pure hq));cases a with
 |float x t=>exact absurd rfl (f x t)
 |_=>exact wpAny_bind (h prog w E _ (wpAny_truthy_bool hq))
theorem yj(I:Inv X pins σ H s)(n:Nat):∀(t u:T)(v w:V)(a b:Value)(A:Around),dep t<=n->A.units+n<cLine->plainT t=true->plainT u=true->At X.K H O t v->At X.K H O' u w->RelV v a->RelV w b->SeqAt.EqAt A s a b (eqT t u):=by
 induction n using Nat.strongRecOn with
 |_ n ih=>intro t u v w a b A hd hu pt pu ht hw rv rw';refine DS (zQ I (by omega) (λx y v w a b h=>?_) pt pu ht hw rv rw') (λe=>?_) λx t e=>?_;exact ih (n-1) (by omega) x y v w a b A.in1 (by omega) (by rw[in1_units];omega);subst e;cases rv.inj rw';cases At.inj I pt pu ht hw;exact gA _ pt;rcases oB I pt ht rv with⟨_,h⟩|⟨_,_,h⟩|⟨_,_,_,h⟩|⟨_,_,_,h⟩|⟨_,_,_,_,h,_⟩|⟨_,_,_,_,h,_⟩<;>cases e.symm.trans h
end
section
variable{s:Shared}{O O':qah}
theorem Nr(I:Inv X pins σ H s)(t u:T)(v w:V)(a b:Value)(A:Around)(hd:dep t<=100)(hu:A.units+101<cLine)(pt:plainT t=true)(pu:plainT u=true)(ht:At X.K H O t v)(hw:At X.K H O' u w)(rv:RelV v a)(rw':RelV w b):SeqAt.RcAt A s a b (eqT t u) :=
 zQ I (by omega) (λx y v w a b h=>yj I 100 x y v w a b A.in1 (by omega) (by rw[in1_units];omega)) pt pu ht hw rv rw'
theorem Nt(I:Inv X pins σ H s)(t u:T)(v w:V)(a b:Value)(A:Around)(hd:dep t<=100)(hu:A.units+101<cLine)(pt:plainT t=true)(pu:plainT u=true)(ht:At X.K H O t v)(hw:At X.K H O' u w)(rv:RelV v a)(rw':RelV w b):SeqAt.RcNeAt A s a b (!eqT t u):=by
 have fK:A.units<cLine:=by omega
 have uE:A.in1.units+100<cLine:=by rw[in1_units];omega
 rcases oB I pt ht rv with⟨rfl,rfl⟩|⟨d,rfl,rfl⟩|⟨d,_,rfl,rfl⟩|⟨d,_,rfl,rfl⟩|⟨l,p,_,rfl,rfl,h⟩|⟨l,p,_,rfl,rfl,h⟩<;>rcases oB I pu hw rw' with⟨rfl,rfl⟩|⟨c,rfl,rfl⟩|⟨c,_,rfl,rfl⟩|⟨c,_,rfl,rfl⟩|⟨l',p',_,rfl,rfl,h'⟩|⟨l',p',_,rfl,rfl,h'⟩<;>simp only[eqT]
 exact .none_none;exact .none_bool _;exact .none_int _ _;exact .none_str _ _;exact .none_tuple h' fK;exact .none_list h' fK;exact .bool_none _;exact .bool_bool _ _;exact .bool_int _ _ _;exact .bool_str _ _ _;exact .bool_tuple _ h' fK;exact .bool_list _ h' fK;exact .int_none _ _;exact .int_bool _ _ _;exact .int_int _ _ _ _;exact .int_str _ _ _ _;exact .int_tuple _ _ h' fK;exact .int_list _ _ h' fK;exact .str_none _ _;exact .str_bool _ _ _;exact .str_int _ _ _ _;exact .str_str _ _ _ _;exact .str_tuple _ _ h' fK;exact .str_list _ _ h' fK;exact .tuple_none h fK;exact .tuple_bool _ h fK;exact .tuple_int _ _ h fK;exact .tuple_str _ _ h fK;simp only[plainT] at pt pu;simp only[dep] at hd;simp only[At] at ht hw;obtain⟨_,vs,rfl,h1,h2⟩:=ht;obtain⟨_,ws,rfl,g1,g2⟩:=hw;cases rv;cases rw';have e3:=h2.length;have e4:=g2.length;obtain⟨aM,r1,p1,_⟩:=I.tuple h1;obtain⟨jF,r2,p2,_⟩:=I.tuple g1;have e1:=r1.length;have e2:=r2.length;have:=SeqAt.RcNeAt.tuples (A:=A) p1 p2 fK (ko I h2 g2 r1 r2 λj x y v w u u' e1 e2 a1 a2 b1 b2=>yj I 100 x y v w u u' A.in1 (m7 (kn e1) (by omega)) uE (cP pt e1) (cP pu e2) a1 a2 b1 b2);simp only[iq] at this;rw[<- e1,<- e2,e3,e4] at this;rw[vi];exact this;exact .tuple_list h h' fK;exact .list_none h fK;exact .list_bool _ h fK;exact .list_int _ _ h fK;exact .list_str _ _ h fK;exact .list_tuple h h' fK;simp only[plainT] at pt pu;simp only[dep] at hd;simp only[At] at ht hw;obtain⟨_,vs,rfl,h1,h2⟩:=ht;obtain⟨_,ws,rfl,g1,g2⟩:=hw;cases rv;cases rw';have e3:=h2.length;have e4:=g2.length;obtain⟨aM,r1,p1,_⟩:=I.list h1.sq;obtain⟨jF,r2,p2,_⟩:=I.list g1.sq;have e1:=r1.length;have e2:=r2.length;by_cases hl:l.length=l'.length;have:=SeqAt.RcNeAt.lists (A:=A) p1.isList p2.isList (by simp only[iq];omega) fK (ko I h2 g2 r1 r2 λj x y v w u u' e1 e2 a1 a2 b1 b2=>yj I 100 x y v w u u' A.in1 (m7 (kn e1) (by omega)) uE (cP pt e1) (cP pu e2) a1 a2 b1 b2);simp only[iq] at this;rw[<- e1,e3] at this;rw[km hl];exact this;have:gz l l'=false:=by
  cases q:gz l l' with
  |false=>rfl
  |true=>exact absurd (kj q) hl
 rw[this];exact SeqAt.RcNeAt.lists_lengths p1.isList p2.isList (by simp only[iq];rw[bne_iff_ne];omega) fK
theorem iw.bare{A:qah}{t:T}(h:iw K H A t v):At K H [] t v:=by
 obtain h|⟨a,rfl,h⟩:=h
 exact At.aR (O':=[]) (λ_ z=>absurd z gg) h;exact (cC.aR (A':=[]) h (λ_ z=>absurd z gg)).at gg
noncomputable def Im(K:qaf)(neg:Bool):R2:=λx y H Q=>∃t u,At K H [] t x/\At K H [] u y/\plainT t=true/\plainT u=true/\dep t<=100/\Q (.bl (if neg then !eqT t u else eqT t u)) H
theorem DT(hu:X.A.units+101<cLine):fU X (compareOp .Eq) (Im X.K false):=by intro pins s σ H x y v u Q I rx ry ⟨t,t',h1,h2,p1,p2,d,q⟩;exact Nr I t t' x y v u X.A d hu p1 p2 h1 h2 rx ry X.prog X.w X.xe _ ⟨.bl _,H,I,rfl,q⟩
theorem Nu(hu:X.A.units+101<cLine):fU X (compareOp .NotEq) (Im X.K true):=by intro pins s σ H x y v u Q I rx ry ⟨t,t',h1,h2,p1,p2,d,q⟩;exact Nt I t t' x y v u X.A d hu p1 p2 h1 h2 rx ry X.prog X.w X.xe _ ⟨.bl _,H,I,rfl,q⟩
end
def Nv(x y:T)(q:Rt->Prop):Prop:=match x,y with
 |.int i,.int j=>q (.vw (.bl (decide (i=j))))
 |.str i,.str j=>q (.vw (.bl (decide (i=j))))
 |.bl i,.bl j=>q (.vw (.bl (decide (i=j))))
 |x,y=>plainT x=true/\plainT y=true/\dep x<=100/\q (.vw (.bl (eqT x y)))
def Va(x y:T)(q:Rt->Prop):Prop:=match x,y with
 |.int i,.int j=>q (.vw (.bl (!decide (i=j))))
 |.str i,.str j=>q (.vw (.bl (!decide (i=j))))
 |.bl i,.bl j=>q (.vw (.bl (!decide (i=j))))
 |x,y=>plainT x=true/\plainT y=true/\dep x<=100/\q (.vw (.bl (!eqT x y)))
theorem Io{x y:T}{q:Rt->Prop}(h:Nv x y q):plainT x=true/\plainT y=true/\dep x<=100/\q (.vw (.bl (eqT x y))):=by
 unfold Nv at h;split at h;exact⟨rfl,rfl,ji _,by simp only[eqT,UP];exact h⟩;refine⟨rfl,rfl,ji _,?_⟩;have e:∀i j:Str,(i==j)=decide (i=j):=λi j=>by rw[QW];simp
 simp only[eqT,e];exact h;exact⟨rfl,rfl,ji _,by simp only[eqT,UP];exact h⟩;exact h
theorem Ip{x y:T}{q:Rt->Prop}(h:Va x y q):plainT x=true/\plainT y=true/\dep x<=100/\q (.vw (.bl (!eqT x y))):=by
 unfold Va at h;split at h;exact⟨rfl,rfl,ji _,by simp only[eqT,UP];exact h⟩;refine⟨rfl,rfl,ji _,?_⟩;have e:∀i j:Str,(i==j)=decide (i=j):=λi j=>by rw[QW];simp
 simp only[eqT,e];exact h;exact⟨rfl,rfl,ji _,by simp only[eqT,UP];exact h⟩;exact h
theorem DU:qo K (Im K false) Nv:=by intro Z tm O ρ σ H x y v w q Q I h1 h2 h k;obtain⟨p1,p2,d,h⟩:=Io h;exact⟨x,y,h1.bare,h2.bare,p1,p2,d,k _ h _ H (aK.refl H) ⟨I,by rw[if_neg eh];exact dP⟩⟩
theorem Nw:qo K (Im K true) Va:=by intro Z tm O ρ σ H x y v w q Q I h1 h2 h k;obtain⟨p1,p2,d,h⟩:=Ip h;exact⟨x,y,h1.bare,h2.bare,p1,p2,d,k _ h _ H (aK.refl H) ⟨I,by rw[if_pos rfl];exact dP⟩⟩
def pI(C:Int->Int->Prop)(g:Int->Int->Int)(x y:T)(q:Rt->Prop):Prop:=match x,y with
 |.int i,.int j=>C i j/\q (.vw (.int (g i j)))
 |_,_=>False
def R_(g:Int->Int->Bool)(x y:T)(q:Rt->Prop):Prop:=match x,y with
 |.int i,.int j=>q (.vw (.bl (g i j)))
 |_,_=>False
def Ny(x y:T)(q:Rt->Prop):Prop:=match x,y with
 |.int i,.int j=>q (.vw (.int (i-j)))
 |_,_=>False
theorem Iq:qo K (uT λi j=>.int (i-j)) Ny:=by intro Z tm O ρ σ H x y v w q Q I h1 h2 h k;unfold Ny at h;split at h;exact⟨_,_,h1.int,h2.int,k _ h _ H (aK.refl H) ⟨I,bc⟩⟩;exact h.elim
def Nz(x y:T)(q:Rt->Prop):Prop:=match x,y with
 |.int i,.int j=>Dp i j/\q (.vw (.int (i * j)))
 |_,_=>False
theorem Ir:qo K (rI Dp λi j=>.int (i * j)) Nz:=by intro Z tm O ρ σ H x y v w q Q I h1 h2 h k;unfold Nz at h;split at h;exact⟨_,_,h1.int,h2.int,h.1,k _ h.2 _ H (aK.refl H) ⟨I,bc⟩⟩;exact h.elim
def NA(x y:T)(q:Rt->Prop):Prop:=match x,y with
 |.int i,.int j=>(0<j/\j<1073741824)/\q (.vw (.int (i / j)))
 |_,_=>False
theorem Iu:qo K (rI Rn λi j=>.int (i / j)) NA:=by intro Z tm O ρ σ H x y v w q Q I h1 h2 h k;unfold NA at h;split at h;exact⟨_,_,h1.int,h2.int,h.1,k _ h.2 _ H (aK.refl H) ⟨I,bc⟩⟩;exact h.elim
def NB(x y:T)(q:Rt->Prop):Prop:=match x,y with
 |.int i,.int j=>0<j/\q (.vw (.int (i % j)))
 |_,_=>False
theorem Iv:qo K (rI (λ_ j=>0<j) λi j=>.int (i % j)) NB:=by intro Z tm O ρ σ H x y v w q Q I h1 h2 h k;unfold NB at h;split at h;exact⟨_,_,h1.int,h2.int,h.1,k _ h.2 _ H (aK.refl H) ⟨I,bc⟩⟩;exact h.elim
def NC(x y:T)(q:Rt->Prop):Prop:=match x,y with
 |.int i,.int j=>(0<=j/\j<=1000000/\i.natAbs<2 ^ 64)/\q (.vw (.int (i ^ j.toNat)))
 |_,_=>False
theorem Iw:qo K (rI Ro λi j=>.int (i ^ j.toNat)) NC:=by intro Z tm O ρ σ H x y v w q Q I h1 h2 h k;unfold NC at h;split at h;exact⟨_,_,h1.int,h2.int,h.1,k _ h.2 _ H (aK.refl H) ⟨I,bc⟩⟩;exact h.elim
def W6(x y:T)(q:Rt->Prop):Prop:=match x,y with
 |.int i,.int j=>q (.vw (.bl (decide (i<j))))
 |_,_=>False
theorem ND:qo K (uT λi j=>.bl (decide (i<j))) W6:=by intro Z tm O ρ σ H x y v w q Q I h1 h2 h k;unfold W6 at h;split at h;exact⟨_,_,h1.int,h2.int,k _ h _ H (aK.refl H) ⟨I,dP⟩⟩;exact h.elim
def W7(x y:T)(q:Rt->Prop):Prop:=match x,y with
 |.int i,.int j=>q (.vw (.bl (decide (j<i))))
 |_,_=>False
theorem NF:qo K (uT λi j=>.bl (decide (j<i))) W7:=by intro Z tm O ρ σ H x y v w q Q I h1 h2 h k;unfold W7 at h;split at h;exact⟨_,_,h1.int,h2.int,k _ h _ H (aK.refl H) ⟨I,dP⟩⟩;exact h.elim
def W8(x y:T)(q:Rt->Prop):Prop:=match x,y with
 |.int i,.int j=>q (.vw (.bl (decide (j<=i))))
 |_,_=>False
theorem NG:qo K (uT λi j=>.bl (decide (j<=i))) W8:=by intro Z tm O ρ σ H x y v w q Q I h1 h2 h k;unfold W8 at h;split at h;exact⟨_,_,h1.int,h2.int,k _ h _ H (aK.refl H) ⟨I,dP⟩⟩;exact h.elim
def Lc(K:qaf):R2:=λx y H Q=>∃l b xs zs,x=.ref l/\y=.ref b/\eU K H l xs/\eU K H b zs/\xs.length+zs.length<=sizeLine/\∀p,H p=none->Q (.ref p) (upd H p (.lst (xs++zs)))
def Ld(K:qaf):R2:=λx y H Q=>∃a b xs ys,x=.ref a/\y=.ref b/\dD K H a xs/\dD K H b ys/\xs.length+ys.length<=sizeLine/\(xs=[]->Q (.ref b) H)/\(xs≠[]->ys=[]->Q (.ref a) H)/\(xs≠[]->ys≠[]->∀p,H p=none->Q (.ref p) (upd H p (.tup (xs++ys))))
section
theorem Iz:fU X (binaryOp .Add) (Lc X.K):=by
 intro pins s σ H x y v u Q I rx ry h;obtain⟨l,b,xs,zs,rfl,rfl,hH,hB,hz,q⟩:=h;cases rx;cases ry;obtain⟨aM,r,p1,z1⟩:=I.list hH;obtain⟨jF,r2,p2,z2⟩:=I.list hB;obtain⟨⟨cls,dd,data,sl⟩,n,ho,hc,_,hd⟩:=p1;obtain⟨⟨RD,Qp,data2,Qq⟩,n2,G',CY,_,hd2⟩:=p2;simp only at hc hd CY hd2;subst hc hd CY hd2;have l1:=r.length;have l2:=r2.length;have e:aM.toArray++jF.toArray=(aM++jF).toArray:=by simp
 refine concat_meets ⟨_,ho,rfl⟩ ⟨_,G',rfl⟩ noFill_list_add seq_list_add PySem.F.slot_list_add PySem.F.entry_list_add (PySem.F.args_list_add_2 _ _) (list_addW l b aM.toArray jF.toArray n n2 dd Qp sl Qq (by simp only[iq];omega)) ⟨ho,G',?_⟩;rw[e];exact⟨.ref _,_,I.RN (t':=s.toks) (r.append r2) (by rw[k7];omega),rfl,q _ I.fresh⟩
theorem IA:fU X (binaryOp .Add) (Ld X.K):=by
 intro pins s σ H x y v u Q I rx ry h;obtain⟨a,b,xs,ys,rfl,rfl,ha,hb,hz,q0,q1,q2⟩:=h;cases rx;cases ry;obtain⟨aM,r1,p1,_⟩:=I.tuple ha;obtain⟨jF,r2,p2,_⟩:=I.tuple hb;by_cases hx:xs=[];obtain⟨⟨cls,dd,data,sl⟩,ho,hc,n,hd⟩:=id p1;obtain⟨⟨RD,Qp,data2,Qq⟩,G',CY,n2,hd2⟩:=id p2;simp only at hc hd CY hd2;subst hc hd CY hd2;exact concat_meets ⟨_,ho,rfl⟩ ⟨_,G',rfl⟩ noFill_tuple_add seq_tuple_add V5 V2 (V1 _ _)
  (tuple_addW0 a b aM.toArray jF.toArray n n2 dd Qp sl Qq (by simp[r1.nG.mpr hx])) ⟨ho,G',⟨.ref b,H,I,rfl,q0 hx⟩⟩
 refine HT.HL p1 p2 (λz=>hx (r1.nG.mp z)) (λz=>⟨.ref a,H,I,rfl,q1 hx (r2.nG.mp z)⟩) (λz=>?_) (by rw[<- r1.length,<- r2.length];exact hz);refine⟨.ref s.heap.objs.size,_,I.laid (t':=s.toks) (o:=.tup (xs++ys)) (λb ob q=>fE _ q) (cU _) ?_,rfl,q2 hx (λw=>z (r2.nG.mpr w)) _ (I.b_.fresh (cU _))⟩;exact⟨by rw[k7];exact hz,_,r1.append r2,IsTup.new _ _⟩
end
def Le(K:qaf):R2:=λx y H Q=>uT (λi j=>.int (i+j)) x y H Q\/(λx y H Q=>∃i j,x=.str i/\y=.str j/\i.length+j.length<=sizeLine/\Q (.str (i++j)) H) x y H Q\/Lc K x y H Q\/Ld K x y H Q
theorem IB:fU X (binaryOp .Add) (Le X.K):=fU.or MT (fU.or xV (fU.or Iz IA))
def NH(x y:T)(q:Rt->Prop):Prop:=match x,y with
 |.int i,.int j=>q (.vw (.int (i+j)))
 |.str i,.str j=>i.length+j.length<=sizeLine/\q (.vw (.str (i++j)))
 |.lst a,.lst b=>a.length+b.length<=sizeLine/\q (.fr (.lst (a++b)))
 |.tup a,.tup b=>a.length+b.length<=sizeLine/\q (.vw (.tup (a++b)))
 |_,_=>False
theorem IC:qo K (Le K) NH:=by
 intro Z tm O ρ σ H x y v w q Q I h1 h2 h k;unfold NH at h;split at h;exact .inl ⟨_,_,h1.int,h2.int,k _ h _ H (aK.refl H) ⟨I,bc⟩⟩;exact .inr (.inl ⟨_,_,h1.str,h2.str,h.1,k _ h.2 _ H (aK.refl H) ⟨I,c_⟩⟩);obtain⟨a,vs,rfl,s1,a1⟩:=h1.lst;obtain⟨b,ws,rfl,s2,a2⟩:=h2.lst;exact .inr (.inr (.inl ⟨a,b,vs,ws,rfl,rfl,s1,s2,by rw[a1.length,a2.length];exact h.1,λp hp=>k _ h.2 _ _ (aC hp) (I.nt hp (a1.append a2))⟩));obtain⟨a,vs,rfl,s1,a1⟩:=h1.tup;obtain⟨b,ws,rfl,s2,a2⟩:=h2.tup;refine .inr (.inr (.inr ⟨a,b,vs,ws,rfl,rfl,s1,s2,by rw[a1.length,a2.length];exact h.1,λe=>?_,λ_ e=>?_,λ_ _ p hp=>?_⟩));subst e;have e:=a1.length
 rename_i xs ys
 have e':xs=[]:=UN.mp e.symm;subst e';exact k _ h.2 _ H (aK.refl H) ⟨I,cf s2 a2⟩;subst e;have e:=a2.length
 rename_i xs ys _
 have e':ys=[]:=UN.mp e.symm;subst e';exact k _ h.2 _ H (aK.refl H) ⟨I,by rw[CO];exact cf s1 a1⟩;exact k _ h.2 _ _ (aC hp) ⟨I.same (aC hp),cf (dD.of aB) ((a1.append a2).same (aC hp))⟩;exact h.elim
section
variable{Z:Zc}{a:Expr}{pos:Pos}{fa fb:FE}
theorem cQ(ha:VR X Z a fa)(hb:VR X Z b fb):VP X Z (.BinOp a .Add b pos) (f2 fa fb NH):=iB IB IC ha hb
theorem jG(ha:VR X Z a fa)(hb:VR X Z b fb):VP X Z (.BinOp a .Sub b pos) (f2 fa fb Ny):=iB MV Iq ha hb
theorem oC(ha:VR X Z a fa)(hb:VR X Z b fb):VP X Z (.BinOp a .Mult b pos) (f2 fa fb Nz):=iB MW Ir ha hb
theorem bU(ha:VR X Z a fa)(hb:VR X Z b fb):VP X Z (.BinOp a .FloorDiv b pos) (f2 fa fb NA):=iB HF Iu ha hb
theorem bG(ha:VR X Z a fa)(hb:VR X Z b fb):VP X Z (.BinOp a .Mod b pos) (f2 fa fb NB):=iB MX Iv ha hb
theorem jH(ha:VR X Z a fa)(hb:VR X Z b fb):VP X Z (.BinOp a .Pow b pos) (f2 fa fb NC):=iB MY Iw ha hb
def W9(f:FE):FP:=λρ Q=>f ρ λx=>match x with
 |.int i=>Q (.vw (.int (-i)))
 |_=>False
theorem lC(ha:VR X Z a fa):VP X Z (.UnaryOp .USub a pos) (W9 fa):=.mk λtm=>PE.weak (K_ Dq (ha tm)) λσ H Q ⟨ρ,O,q,I,hf,k⟩=>⟨ρ,O,_,I,hf,λt ht v H1 s1 a1=>by split at ht;exact⟨_,a1.int,k _ ht _ H1 s1 ⟨I.same s1,bc⟩⟩;exact ht.elim⟩
theorem vk(hu:X.A.units+101<cLine)(ha:VR X Z a fa)(hb:VR X Z b fb):VP X Z (.Compare a [.Eq] [b] pos) (f2 fa fb Nv):=DR (DT hu) DU ha hb (iy _)
theorem cy(hu:X.A.units+101<cLine)(ha:VR X Z a fa)(hb:VR X Z b fb):VC X Z (.Compare a [.Eq] [b] pos) (lr (f2 fa fb Nv)):=iC (DT hu) DU ha hb (iy _)
theorem vm(hu:X.A.units+101<cLine)(ha:VR X Z a fa)(hb:VR X Z b fb):VC X Z (.Compare a [.NotEq] [b] pos) (lr (f2 fa fb Va)):=iC (Nu hu) Nw ha hb (iy _)
theorem zR(ha:VR X Z a fa)(hb:VR X Z b fb):VC X Z (.Compare a [.Lt] [b] pos) (lr (f2 fa fb W6)):=iC Rp ND ha hb (iy _)
theorem DV(ha:VR X Z a fa)(hb:VR X Z b fb):VC X Z (.Compare a [.Gt] [b] pos) (lr (f2 fa fb W7)):=iC Rq NF ha hb (iy _)
theorem Sa(ha:VR X Z a fa)(hb:VR X Z b fb):VC X Z (.Compare a [.GtE] [b] pos) (lr (f2 fa fb W8)):=iC Rr NG ha hb (iy _)
def f3(fa fb fc:FE)(p p':T->T->(Rt->Prop)->Prop):FP:=λρ Q=>fa ρ λx=>fb ρ λy=>p x y λr=>match r with
 |.vw (.bl true)=>fc ρ λz=>p' y z Q
 |.vw (.bl false)=>Q (.vw (.bl false))
 |_=>False
end
theorem DW{A:qah}{ts:List T}{i:Int}{t:T}(h:ay K H A ts vs)(e:jB ts i=some t):∃v,jB vs i=some v/\At K H A t v:=by
 unfold jB at e ⊢;rw[h.length];cases q:uD ts.length i with
 |none=>rw[q] at e;cases e
 |some j=>rw[q] at e;obtain⟨v,h1,h2⟩:=h.get (i:=j) e;exact⟨v,h1,h2⟩
def Vb(x y:T)(q:Rt->Prop):Prop:=match x,y with
 |.lst ts,.int i=>∃t,jB ts i=some t/\q (.vw t)
 |.tup ts,.int i=>∃t,jB ts i=some t/\q (.vw t)
 |.str z,.int i=>z.length<=sizeLine/\∃c,jB z.cps.toList i=some c/\q (.vw (.str ⟨#[c]⟩))
 |_,_=>False
theorem NI:qo K (Y0 K) Vb:=by intro Z tm O ρ σ H x y v w q Q I h1 h2 h k;unfold Vb at h;split at h;obtain⟨t,e,h⟩:=h;obtain⟨a,vs,rfl,s1,a1⟩:=h1.lst;obtain⟨u,e',a2⟩:=DW a1 e;exact .inl ⟨a,vs,_,u,rfl,h2.int,s1,e',k _ h _ H (aK.refl H) ⟨I,a2⟩⟩;obtain⟨t,e,h⟩:=h;obtain⟨a,vs,rfl,s1,a1⟩:=h1.tup;obtain⟨u,e',a2⟩:=DW a1 e;exact .inr (.inl ⟨a,vs,_,u,rfl,h2.int,s1,e',k _ h _ H (aK.refl H) ⟨I,a2⟩⟩);obtain⟨hz,c,e,h⟩:=h;exact .inr (.inr ⟨_,_,c,h1.str,h2.int,hz,e,k _ h _ H (aK.refl H) ⟨I,c_⟩⟩);exact h.elim
section
variable{Z:Zc}{a:Expr}{pos:Pos}{fa fb:FE}
theorem aH(ha:VR X Z a fa)(hb:VR X Z b fb)(hs:nH b:=by exact λ_ _=>rfl):VP X Z (.Subscript a b pos) (f2 fa fb Vb) :=
 .mk λtm=>PE.weak (DA M' (ha tm) (hb tm) hs) (two NI)
end
abbrev FO:=En->(Option Int->Prop)->Prop
def lO(X:Cx)(Z:Zc)(tm:List (T×V))(f:FO):TO:=λσ H Q=>∃ρ O q,aw X.K Z tm O ρ σ H/\f ρ q/\∀o,q o->∀H',aK H H'->Q o H'
def VO(X:Cx)(Z:Zc)(e:Option Expr)(f:FO):Prop:=Bx λtm=>PO X e (lO X Z tm f)
instance{X:Cx}{Z:Zc}{e:Option Expr}{f:FO}:CoeFun (VO X Z e f) λ_=>∀tm,PO X e (lO X Z tm f):=⟨λh=>Bx.h h⟩
theorem PO.weak{e:Option Expr}{t t':TO}(h:PO X e t)(hw:∀σ H Q,t' σ H Q->t σ H Q):PO X e t':=λpins s σ H Q I q=>h pins s σ H Q I (hw _ _ _ q)
def fO0:FO:=λ_ Q=>Q none
def fO1(f:FE):FO:=λρ Q=>f ρ λt=>match t with
 |.int i=>Q (some i)
 |_=>False
noncomputable def gB{α:Type}(xs:List α)(lo hi:Option Int):List α:=(xs.drop (HT.dB xs.length 0 lo)).take (HT.dB xs.length xs.length hi-HT.dB xs.length 0 lo)
theorem ay.cut{A:qah}{ts:List T}(h:ay K H A ts vs)(lo hi:Option Int):ay K H A (gB ts lo hi) (uW vs lo hi):=by unfold gB uW;rw[h.length];exact (h.drop _).take _
def W_(K:qaf):V->Option Int->Option Int->Hp->VK->Prop:=λx lo hi H Q=>RM K x lo hi H Q\/RG K x lo hi H Q\/R4 x lo hi H Q
theorem W':Dy X (W_ X.K):=Dy.or HU (Dy.or M9 Nl)
def Y'(x:T)(lo hi:Option Int)(q:Rt->Prop):Prop:=match x with
 |.lst ts=>q (.fr (.lst (gB ts lo hi)))
 |.tup ts=>¬ (HT.dB ts.length 0 lo=0/\HT.dB ts.length ts.length hi=ts.length)/\q (.vw (.tup (gB ts lo hi)))
 |.str z=>z.length<=sizeLine/\q (.vw (.str (Txt.slice z lo hi)))
 |_=>False
def fSl(fa:FE)(fl fh:FO):FP:=λρ Q=>fa ρ λx=>fl ρ λlo=>fh ρ λhi=>Y' x lo hi Q
section
variable{Z:Zc}{a:Expr}{lo hi:Option Expr}{pos p2:Pos}{fa:FE}{fl fh:FO}
theorem kq:VO X Z none fO0:=.mk λtm=>PO.weak HP λσ H Q ⟨ρ,O,q,I,hf,k⟩=>k _ hf H (aK.refl H)
theorem gW(h:VR X Z e fa):VO X Z (some e) (fO1 fa):=.mk λtm=>PO.weak (HQ (h tm)) λσ H Q ⟨ρ,O,q,I,hf,k⟩=>⟨ρ,O,_,I,hf,λt ht v H' s z=>by split at ht;exact⟨_,z.int,k _ ht H' s⟩;exact ht.elim⟩
theorem gC(he:VR X Z e fa)(hl:VO X Z lo fl)(hh:VO X Z hi fh):VP X Z (.Subscript e (.Slice lo hi none p2) pos) (fSl fa fl fh) :=
 .mk λtm=>PE.weak (Dz W' (he tm) (hl tm) (hh tm)) λσ H Q ⟨ρ,O,q,I,hf,k⟩=>⟨ρ,O,_,I,hf,λx hx v H1 s1 a1=>⟨ρ,O,_,I.same s1,hx,λl hl H2 s2=>⟨ρ,O,_,(I.same s1).same s2,hl,λu hu H3 s3=>by have J:=((I.same s1).same s2).same s3;have a3:=(a1.same s2).same s3;have S:=(s1.trans s2).trans s3;unfold Y' at hu;split at hu;obtain⟨p,vs,rfl,q1,q2⟩:=a3.lst;exact .inl ⟨p,vs,rfl,q1,λr hr=>k _ hu _ _ (S.trans (aC hr)) (J.nt hr (q2.cut _ _))⟩;obtain⟨p,vs,rfl,q1,q2⟩:=a3.tup;refine .inr (.inl ⟨p,vs,rfl,q1,by rw[q2.length];exact hu.1,λr hr=>k _ hu.2 _ _ (S.trans (aC hr)) ⟨J.same (aC hr),cf (dD.of aB) ((q2.cut _ _).same (aC hr))⟩⟩);exact .inr (.inr ⟨_,a3.str,hu.1,k _ hu.2 _ H3 S ⟨J,c_⟩⟩);exact hu.elim⟩⟩⟩
end
def Lf(g:FA)(p:List T->(Rt->Prop)->Prop):FP:=λρ Q=>g ρ λts=>p ts Q
def mF(K:qaf)(r:qak->Hp->VK->Prop)(p:List T->(Rt->Prop)->Prop):Prop :=
 ∀(Z:Zc)(tm:List (T×V))(O:HD)(ρ:En)(σ:St)(H:Hp)(ts:List T)(vs:qak)(q:Rt->Prop)(Q:VK),aw K Z tm O ρ σ H->Paired (λv t=>iw K H (av Z O) t v) vs ts->p ts q ->
  (∀t,q t->∀u H',aK H H'->fJ K Z tm O ρ σ H' t u->Q u H')->r vs H Q
section
variable{Z:Zc}{a:Expr}{pos:Pos}{g:FA}{id Ty:String}{r:qak->Hp->VK->Prop}{pp:List T->(Rt->Prop)->Prop}
theorem bA(hc:dF X (.builtin id) r)(ht:mF X.K r pp)(hg:Gl X x)(hm:X.mg x=none)(hv:bootBuiltins x=some (.builtin id))(ha:Il X Z (e::es) g)(hn:x≠"__name__":=by decide)(kf:gp x:=by decide)(hs:starEach (e::es) X.env=(false,eval e X.env)::starEach es X.env:=by rfl)(gN:(backTo pos (starEach es X.env)).any (·.1)=false:=by rfl):VP X Z (.Call (.Name x p) (e::es) [] pos) (Lf g pp) :=
 .mk λtm=>PE.weak (n_ hc hg hm hv (ha tm) hn kf hs gN) λσ H Q ⟨ρ,O,q,I,hf,k⟩=>⟨ρ,O,_,I,hf,λts eF vs H1 s1 a1=>ht Z tm O ρ σ H1 ts vs q _ (I.same s1) a1 eF λt h u H' s z=>k t h u H' (s1.trans s) z⟩
theorem dU(hc:dF X (.type Ty) r)(ht:mF X.K r pp)(hg:Gl X x)(hm:X.mg x=none)(hv:bootBuiltins x=some (.type Ty))(ha:Il X Z (e::es) g)(hn:x≠"__name__":=by decide)(kf:gp x:=by decide)(hs:starEach (e::es) X.env=(false,eval e X.env)::starEach es X.env:=by rfl)(gN:(backTo pos (starEach es X.env)).any (·.1)=false:=by rfl):VP X Z (.Call (.Name x p) (e::es) [] pos) (Lf g pp) :=
 .mk λtm=>PE.weak (Bj hc hg hm hv (ha tm) hn kf hs gN) λσ H Q ⟨ρ,O,q,I,hf,k⟩=>⟨ρ,O,_,I,hf,λts eF vs H1 s1 a1=>ht Z tm O ρ σ H1 ts vs q _ (I.same s1) a1 eF λt h u H' s z=>k t h u H' (s1.trans s) z⟩
end
def Sb(ts:List T)(q:Rt->Prop):Prop:=match ts with
 |[.lst l]=>q (.vw (.int l.length))
 |[.tup l]=>q (.vw (.int l.length))
 |[.str z]=>z.length<=sizeLine/\q (.vw (.int z.length))
 |_=>False
def Lg(K:qaf):qak->Hp->VK->Prop:=λxs H Q=>(∃p ys,xs=[.ref p]/\(eU K H p ys\/dD K H p ys)/\Q (.int ys.length) H)\/(∃z,xs=[.str z]/\z.length<=sizeLine/\Q (.int z.length) H)
theorem br:dF X (.builtin "len") (Lg X.K):=dF.or sG sI
theorem cR{F:α->β->Prop}{vs:List α}{t:β}(h:Paired F vs [t]):∃v,vs=[v]/\F v t:=by
 cases h with
 |cons r q=>cases q;exact⟨_,rfl,r⟩
theorem ID{F:α->β->Prop}{vs:List α}{t u:β}(h:Paired F vs [t,u]):∃v w,vs=[v,w]/\F v t/\F w u:=by
 cases h with
 |cons r q=>cases q with
  |cons r2 q2=>cases q2;exact⟨_,_,rfl,r,r2⟩
theorem bt:mF K (Lg K) Sb:=by intro Z tm O ρ σ H ts vs q Q I h hp k;unfold Sb at hp;split at hp;obtain⟨v,rfl,a⟩:=cR h;obtain⟨p,ws,rfl,q1,q2⟩:=a.lst;exact .inl ⟨p,ws,rfl,.inl q1,k _ hp _ H (aK.refl H) ⟨I,by rw[q2.length];exact bc⟩⟩;obtain⟨v,rfl,a⟩:=cR h;obtain⟨p,ws,rfl,q1,q2⟩:=a.tup;exact .inl ⟨p,ws,rfl,.inr q1,k _ hp _ H (aK.refl H) ⟨I,by rw[q2.length];exact bc⟩⟩;obtain⟨v,rfl,a⟩:=cR h;exact .inr ⟨_,by rw[a.str],hp.1,k _ hp.2 _ H (aK.refl H) ⟨I,bc⟩⟩;exact hp.elim
def Lh(ts:List T)(q:Rt->Prop):Prop:=match ts with
 |[.lst l]=>q (.fr (.lst l))
 |[.tup l]=>q (.fr (.lst l))
 |_=>False
theorem jI:mF K (λxs H Q=>∃p ys,xs=[.ref p]/\(eU K H p ys\/dD K H p ys)/\∀l,H l=none->Q (.ref l) (upd H l (.lst ys))) Lh:=by intro Z tm O ρ σ H ts vs q Q I h hp k;unfold Lh at hp;split at hp;obtain⟨v,rfl,a⟩:=cR h;obtain⟨p,ws,rfl,q1,q2⟩:=a.lst;exact⟨p,ws,rfl,.inl q1,λl hl=>k _ hp _ _ (aC hl) (I.nt hl q2)⟩;obtain⟨v,rfl,a⟩:=cR h;obtain⟨p,ws,rfl,q1,q2⟩:=a.tup;exact⟨p,ws,rfl,.inr q1,λl hl=>k _ hp _ _ (aC hl) (I.nt hl q2)⟩;exact hp.elim
def DX(ts:List T)(q:Rt->Prop):Prop:=match ts with
 |[.lst l]=>q (.vw (.tup l))
 |[.tup l]=>q (.vw (.tup l))
 |_=>False
theorem iE:mF K (λxs H Q=>∃p ys,xs=[.ref p]/\((eU K H p ys/\∀l,H l=none->Q (.ref l) (upd H l (.tup ys)))\/(dD K H p ys/\Q (.ref p) H))) DX:=by intro Z tm O ρ σ H ts vs q Q I h hp k;unfold DX at hp;split at hp;obtain⟨v,rfl,a⟩:=cR h;obtain⟨p,ws,rfl,q1,q2⟩:=a.lst;exact⟨p,ws,rfl,.inl ⟨q1,λl hl=>k _ hp _ _ (aC hl) ⟨I.same (aC hl),cf (dD.of aB) (q2.same (aC hl))⟩⟩⟩;obtain⟨v,rfl,a⟩:=cR h;obtain⟨p,ws,rfl,q1,q2⟩:=a.tup;exact⟨p,ws,rfl,.inr ⟨q1,k _ hp _ H (aK.refl H) ⟨I,cf q1 q2⟩⟩⟩;exact hp.elim
structure DY where
 nx:En->Prop
 rt:En->Rt->Prop
 bk:En->Prop:=λ_=>False
 ct:En->Prop:=λ_=>False
structure Fin(K:qaf)(Z:Zc)(tm:List (T×V))(d:DY)(D:Ends):Prop where
 nx:∀O ρ σ H,aw K Z tm O ρ σ H->d.nx ρ->D.nx σ H
 rt:∀O ρ σ H r v,fJ K Z tm O ρ σ H r v->d.rt ρ r->D.rt v H
 bk:∀O ρ σ H,aw K Z tm O ρ σ H->d.bk ρ->D.bk σ H
 ct:∀O ρ σ H,aw K Z tm O ρ σ H->d.ct ρ->D.ct σ H
abbrev FS:=DY->En->Prop
def lS(X:Cx)(Z:Zc)(tm:List (T×V))(g:FS):TS:=λD σ H=>∃ρ O d,aw X.K Z tm O ρ σ H/\g d ρ/\Fin X.K Z tm d D
def VS(X:Cx)(Z:Zc)(st:Stmt)(g:FS):Prop:=Bx λtm=>PS X st (lS X Z tm g)
instance{X:Cx}{Z:Zc}{st:Stmt}{g:FS}:CoeFun (VS X Z st g) λ_=>∀tm,PS X st (lS X Z tm g):=⟨λh=>Bx.h h⟩
def mG(X:Cx)(Z:Zc)(st:qaq)(g:FS):Prop:=Bx λtm=>gw X st (lS X Z tm g)
instance{X:Cx}{Z:Zc}{st:qaq}{g:FS}:CoeFun (mG X Z st g) λ_=>∀tm,gw X st (lS X Z tm g):=⟨λh=>Bx.h h⟩
def bE(Z:Zc)(i:Nat):Prop:=∀p∈Z.P,p.1≠i
section
variable{Z:Zc}{st:Stmt}{rest:qaq}{g u:FS}{pos:Pos}
def Sd:FS:=λd ρ=>d.nx ρ
def Se(g u:FS):FS:=λd ρ=>g {d with nx:=u d} ρ
theorem aP:mG X Z [] Sd:=.mk λtm=>gw.gy su λD σ H ⟨ρ,O,d,I,h,F⟩=>F.nx O ρ σ H I h
theorem ai(h1:VS X Z st g)(h2:mG X Z rest u):mG X Z (st::rest) (Se g u):=.mk λtm=>gw.gy (bT (h1 tm) (h2 tm)) λD σ H ⟨ρ,O,d,I,h,F⟩ =>
 ⟨ρ,O,{d with nx:=u d},I,h,⟨λO' ρ' σ' H' I' h'=>⟨ρ',O',d,I',h',F⟩,F.rt,F.bk,F.ct⟩⟩
theorem ax(h1:VS X Z st g):mG X Z [st] g:=.mk λtm=>i9 (h1 tm)
theorem mG.weak(h:mG X Z rest g)(hw:∀d ρ,u d ρ->g d ρ):mG X Z rest u:=.mk λtm=>gw.gy (h tm) λD σ H ⟨ρ,O,d,I,q,F⟩=>⟨ρ,O,d,I,hw d ρ q,F⟩
def Sf(f:FX):FS:=λd ρ=>f ρ λρ' _=>d.nx ρ'
theorem fY{f:FX}(h:VX X Z e f)(hs:swapsWith e none pos.line X.env=pure false:=by rfl):VS X Z (.Expr e pos) (Sf f):=.mk λtm=>PS.weak (i_ (h tm) hs) λD σ H ⟨ρ,O,d,I,q,F⟩ =>
 ⟨ρ,O,_,I,q,λρ' r hr O' v H' z=>F.nx O' ρ' σ H' z.env hr⟩
def Sg(f:FX):FS:=λd ρ=>f ρ λρ' r=>d.rt ρ' r
theorem aI{f:FX}(h:VX X Z e f):VS X Z (.Return (some e) pos) (Sg f):=.mk λtm=>PS.weak (sy (h tm)) λD σ H ⟨ρ,O,d,I,q,F⟩ =>
 ⟨ρ,O,_,I,q,λρ' r hr O' v H' z=>F.rt O' ρ' σ H' r v z hr⟩
def gIf(c:FB)(g u:FS):FS:=λd ρ=>c ρ λb=>if b=true then g d ρ else u d ρ
theorem bH{fc:FB}{a b:qaq}(hc:VC X Z c fc)(ha:mG X Z a g)(hb:mG X Z b u):VS X Z (.If c a b pos) (gIf fc g u):=.mk λtm=>PS.weak (Di (hc tm) (ha tm) (hb tm)) λD σ H ⟨ρ,O,d,I,q,F⟩ =>
 ⟨ρ,O,_,I,q,λb hb H' s=>by
  cases b with
  |true=>rw[if_pos rfl] at hb ⊢;exact⟨ρ,O,d,I.same s,hb,F⟩
  |false=>rw[if_neg eh] at hb ⊢;exact⟨ρ,O,d,I.same s,hb,F⟩⟩
def Sh(i:Nat)(f:FX):FS:=λd ρ=>f ρ λρ' r=>d.nx (ρ'.set i (some (r.t,false)))
def Xa(i:Nat)(f:FX):FS:=λd ρ=>f ρ λρ' r=>match r with
 |.fr t=>d.nx (ρ'.set i (some (t,true)))
 |_=>False
theorem bj{f:FX}{pos':Pos}(hN:X.N.Nodup)(hi:X.N[i]?=some x)(hx:Loc X.env.scope x)(he:VX X Z e f)(hp:bE Z i)(hs:swapsWith e (some (.Name x pos')) pos.line X.env=pure false:=by rfl)(hf:X.fn x=true\/X.env.scope.names.lookup x=some .local:=by first|exact .inl rfl|exact .inr rfl|assumption):VS X Z (.Assign [.Name x pos'] e pos) (Sh i f):=.mk λtm=>PS.weak (nY hN hi hx (he tm) hs hf) λD σ H ⟨ρ,O,d,I,q,F⟩ =>
 ⟨ρ,O,_,I,q,λρ' r hr O' v H' z=>F.nx _ _ _ H' (z.env.put hp z.at) hr⟩
theorem dz{f:FX}{pos':Pos}(hN:X.N.Nodup)(hi:X.N[i]?=some x)(hx:Loc X.env.scope x)(he:VX X Z e f)(hp:bE Z i)(hs:swapsWith e (some (.Name x pos')) pos.line X.env=pure false:=by rfl)(hf:X.fn x=true\/X.env.scope.names.lookup x=some .local:=by first|exact .inl rfl|exact .inr rfl|assumption):VS X Z (.Assign [.Name x pos'] e pos) (Xa i f):=.mk λtm=>PS.weak (nY hN hi hx (he tm) hs hf) λD σ H ⟨ρ,O,d,I,q,F⟩ =>
 ⟨ρ,O,_,I,q,λρ' r hr O' v H' z=>by split at hr;obtain⟨a,rfl,J,hR,h0,U_⟩:=z;exact F.nx _ _ _ H' (J.W2 hp hR h0 U_) hr;exact hr.elim⟩
def acn(i:Nat)(f:FE)(p:T->T->(Rt->Prop)->Prop):FS:=λd ρ=>match ρ[i]? with
 |some (some (x,false))=>f ρ λy=>p x y λr=>d.nx (ρ.set i (some (r.t,false)))
 |_=>False
def Si(is:qao)(g:FS):FS:=λd ρ=>g d (is.foldl (λρ i=>match ρ[i]? with
 |some (some (t,true))=>ρ.set i (some (t,false))
 |_=>ρ) ρ)
theorem oE{K:qaf}{tm:List (T×V)}:∀(is:qao){O:HD}{ρ:En}{σ:St}{H:Hp},(∀i∈is,bE Z i)->aw K Z tm O ρ σ H->∃O',aw K Z tm O' (is.foldl (λρ i=>match ρ[i]? with
 |some (some (t,true))=>ρ.set i (some (t,false))
 |_=>ρ) ρ) σ H
 |[],O,ρ,σ,H,_,I=>⟨O,I⟩
 |i::is,O,ρ,σ,H,hp,I=>by
  rw[List.foldl_cons];have Qs:∀j∈is,bE Z j:=λj hj=>hp j (d_ _ hj);split
  rename_i t e
  exact oE is Qs (I.A5 (hp i cS) e);exact oE is Qs I
theorem zS(is:qao)(h:mG X Z rest g)(hp:∀i∈is,bE Z i):mG X Z rest (Si is g):=.mk λtm=>gw.gy (h tm) λD σ H ⟨ρ,O,d,I,q,F⟩=>let ⟨O',I'⟩:=oE is hp I;⟨_,O',d,I',q,F⟩
end
section
variable{Z:Zc}{a:Expr}{pos:Pos}
theorem aw.root{tm:List (T×V)}{ρ:En}(I:aw K Z tm O ρ σ H){k:Nat}{t:T}(e:ρ[k]?=some (some (t,true))):∃a,O[k]?=some (some a)/\σ[k]?=some (some (.ref a))/\cC K H (av Z O) a t:=by obtain⟨o,s,h1,h2,a,rfl,rfl,h3⟩:=I.sl k _ e;exact⟨a,h1,h2,h3⟩
def zT(k:Nat)(g:FA)(p:List T->List T->(List T->T->Prop)->Prop):FX:=λρ Q=>match ρ[k]? with
 |some (some (.lst ts,true))=>g ρ λvs=>p ts vs λgD r=>Q (ρ.set k (some (.lst gD,true))) (.vw r)
 |_=>False
def Sj(K:qaf)(r:V->qak->Hp->VK->Prop)(p:List T->List T->(List T->T->Prop)->Prop):Prop :=
 ∀(H:Hp)(A:qah)(l:Addr)(xs:qak)(ts us:List T)(vs:qak)(q:List T->T->Prop)(Q:VK),l∈A->H l=some (.lst xs)->ay K H A ts xs->ay K H A us vs->p ts us q ->
  (∀gD t,q gD t->∀C0 v,ay K H A gD C0->At K H A t v->Q v (upd H l (.lst C0)))->r (.ref l) vs H Q
theorem zU{r:V->qak->Hp->VK->Prop}{p:List T->List T->(List T->T->Prop)->Prop}(hm:Sj X.K r p){k:Nat}{g:FA}{tm:List (T×V)}{Q:VK}(h:lX X Z tm (zT k g p) σ H Q) :
  ∃l,σ[k]?=some (some (.ref l))/\(∃xs,eU X.K H l xs)/\lA X Z tm g σ H λvs H1=>r (.ref l) vs H1 Q:=by
 obtain⟨ρ,O,q,I,hf,kk⟩:=h;unfold zT at hf;split at hf
 rename_i ts e0
 obtain⟨l,h1,h2,xs,h3,h4⟩:=I.root e0;refine⟨l,h2,⟨xs,eU.of h3⟩,ρ,O,_,I,hf,λus Bl vs H1 s1 a1=>?_⟩;have J:=I.same s1;have ha:l∈av Z O:=cj _ (aG.mpr (fR h1));refine hm H1 (av Z O) l xs ts us vs _ Q ha (s1 _ _ h3) (h4.same s1) a1 Bl λgD t ht C0 v b1 b2=>?_;exact kk _ _ ht O _ _ ⟨J.wrote e0 h1 ⟨C0,aB,b1.wrote ha (s1 _ _ h3) rfl⟩,b2.wrote ha (s1 _ _ h3) rfl⟩;exact hf.elim
theorem rp(k:Nat){name:Str}{id:String}{g:FA}{r:V->qak->Hp->VK->Prop}{pp:List T->List T->(List T->T->Prop)->Prop}(slot:Slot "list" name id)(HW:typeOf (.builtin id)=pure (.type "method_descriptor"))(hm:HS X id r)(ht:Sj X.K r pp)(ha:VA X Z (e::es) g)(hN:X.N[k]?=some x:=by rfl)(hv:jA X.env.scope x:=by first|exact Or.inl rfl|exact Or.inr (Or.inl rfl)|exact Or.inr (Or.inr rfl))(hd:gp x:=by decide)(fH:se x:=by decide)(cX:attributeBase (.Name x p) name X.env (eval (.Name x p) X.env)=eval (.Name x p) X.env:=by rfl)(jC:((backTo aN (starEach (e::es) X.env)).all (λx=>!x.1) && (backToKw aN (keywordEach [] X.env)).all (λx=>x.1.isSome)
    && decide ((e::es).length+([]:List Keyword).length+(if ([]:List Keyword).isEmpty then 0 else 1)<30))=true:=by rfl)(cY:(apos.endLine==aN.line)=true:=by rfl)(hs:starEach (e::es) X.env=(false,eval e X.env)::starEach es X.env:=by rfl)(dw:(backTo aN (starEach es X.env)).any (·.1)=false:=by rfl) :
  VX X Z (.Call (.Attribute (.Name x p) name apos) (e::es) [] aN) (zT k g pp):=.mk λtm=>
 PE.weak (oi Mi slot HW hm (bN hN hv hd fH) (ha tm) cX jC cY hs dw) λσ H Q h=>
  let ⟨l,h1,h2,h3⟩:=zU ht h;⟨.ref l,h1,.inl ⟨rfl,h2⟩,h3⟩
theorem NJ(k:Nat){name:Str}{id:String}{r:V->qak->Hp->VK->Prop}{pp:List T->List T->(List T->T->Prop)->Prop}(slot:Slot "list" name id)(HW:typeOf (.builtin id)=pure (.type "method_descriptor"))(hm:HS X id r)(ht:Sj X.K r pp)(hN:X.N[k]?=some x:=by rfl)(hv:jA X.env.scope x:=by first|exact Or.inl rfl|exact Or.inr (Or.inl rfl)|exact Or.inr (Or.inr rfl))(hd:gp x:=by decide)(fH:se x:=by decide)(cX:attributeBase (.Name x p) name X.env (eval (.Name x p) X.env)=eval (.Name x p) X.env:=by rfl)(cY:(apos.endLine==aN.line)=true:=by rfl):VX X Z (.Call (.Attribute (.Name x p) name apos) [] [] aN) (zT k nv pp):=.mk λtm=>
 PE.weak (sJ Mi slot HW hm (bN hN hv hd fH) cX cY) λσ H Q h=>by obtain⟨l,h1,h2,ρ,O,q,I,hf,kk⟩:=zU ht h;exact⟨.ref l,h1,.inl ⟨rfl,h2⟩,kk [] hf [] H (aK.refl H) ay.nil⟩
def zV(ts us:List T)(q:List T->T->Prop):Prop:=match us with
 |[t]=>ts.length<sizeLine/\q (ts++[t]) .aQ
 |_=>False
theorem dW:Sj K zL zV:=by intro H A l xs ts us vs q Q hl hH h1 h2 hp k;unfold zV at hp;split at hp;obtain⟨v,rfl,a⟩:=cR (ay.iff.mp h2);exact⟨l,xs,v,rfl,rfl,hH,by rw[h1.length];exact hp.1,k _ _ hp.2 _ _ (h1.append (ay.cons a ay.nil)) yh⟩;exact hp.elim
def Xb(ts us:List T)(q:List T->T->Prop):Prop:=us=[]/\∃t,ts[ts.length-1]?=some t/\q ts.dropLast t
theorem ay.dropLast{A:qah}{ts:List T}(h:ay K H A ts vs):ay K H A ts.dropLast vs.dropLast:=by rw[List.dropLast_eq_take,List.dropLast_eq_take,h.length];exact h.take _
theorem IE:Sj K RO Xb:=by
 intro H A l xs ts us vs q Q hl hH h1 h2 hp k;obtain⟨rfl,t,e1,hq⟩:=hp;have e:vs=[]:=by simpa only[ay] using h2
 obtain⟨v,e2,a⟩:=h1.get e1;exact⟨l,xs,v,rfl,e,hH,by rw[h1.length];exact e2,k _ _ hq _ _ h1.dropLast a⟩
def aco(k:Nat)(f fi:FE):FS:=λd ρ=>f ρ λv=>fi ρ λi=>match ρ[k]?,i with
 |some (some (.lst ts,true)),.int j=>∃n,uD ts.length j=some n/\d.nx (ρ.set k (some (.lst (ts.set n v),true)))
 |_,_=>False
noncomputable def Li(k:Nat)(f fi:FE):FS:=λd ρ=>match ρ[k]? with
 |some (some (.lst ts,true))=>f ρ λv=>fi ρ λi=>match i with
  |.int j=>∃n,uD ts.length j=some n/\d.nx (ρ.set k (some (.lst (ts.set n v),true)))
  |_=>False
 |_=>False
theorem lF(k:Nat){f fi:FE}{i:Expr}(he:VE X Z e f)(hi:VR X Z i fi)(hN:X.N[k]?=some x:=by rfl)(hv:jA X.env.scope x:=by first|exact Or.inl rfl|exact Or.inr (Or.inl rfl)|exact Or.inr (Or.inr rfl))(hd:gp x:=by decide)(fH:se x:=by decide)(ha:∀v,assign (.Subscript (.Name x p) i eI) X.env v=(do
    let ov <- holding [v] (eval (.Name x p) X.env)
    let iv <- holding [v,ov] (eval i X.env)
    standAt eI
    holding [v,ov,iv] (setItem ov iv v)
    release [v,ov,iv] []):=by intro _;rfl)(hs:swapsWithSole [.Subscript (.Name x p) i eI] e pos.line X.env=pure false:=by rfl)(hw:swappedStores [.Subscript (.Name x p) i eI] e X.env=pure none:=by rfl)(h1:(assignEach [.Subscript (.Name x p) i eI] X.env).map (·.2)=[assign (.Subscript (.Name x p) i eI) X.env]:=by rfl):VS X Z (.Assign [.Subscript (.Name x p) i eI] e pos) (Li k f fi):=.mk λtm=>
 PS.weak (xQ (he tm) (MM (bN hN hv hd fH) (hi tm) set_list ha) hs hw h1) λD σ H ⟨ρ,O,d,I,q,F⟩=>by
  unfold Li at q;split at q
  rename_i ts e0
  obtain⟨l,h1,h2,xs,h3,h4⟩:=I.root e0;have ha:l∈av Z O:=cj _ (aG.mpr (fR h1));refine⟨ρ,O,_,I,q,λt ht v H1 s1 a1=>⟨.ref l,h2,ρ,O,_,I.same s1,ht,λj hj w H2 s2 a2=>?_⟩⟩;split at hj;obtain⟨n,e1,hj⟩:=hj;refine⟨l,xs,_,n,rfl,a2.int,s2 _ _ (s1 _ _ h3),by rw[h4.length];exact e1,?_⟩;refine F.nx O _ σ _ (((I.same s1).same s2).wrote (t':=.lst (ts.set n t)) e0 h1 ⟨xs.set n v,aB,?_⟩) hj;exact ay.wrote ha (s2 _ _ (s1 _ _ h3)) rfl (((h4.same s1).same s2).set n (a1.same s2));exact hj.elim;exact q.elim
theorem aw.give{tm:List (T×V)}{ρ:En}(I:aw K Z tm O ρ σ H){t:T}(hp:bE Z i)(hi:ρ[i]?=some (some (t,true))):∃a,σ[i]?=some (some (.ref a))/\fJ K Z tm (O.set i none) (ρ.set i none) σ H (.fr t) (.ref a):=by
 obtain⟨a,h1,h2,h3⟩:=I.root hi;have ha:a∈roots O:=aG.mpr (fR h1);obtain⟨o1,o2,o3⟩:=I.own a ha;have J:=I.forget hp;have J2:=I.A5 hp hi;have na:a∉roots (O.set i none):=λz=>by
  obtain⟨o,s,g1,g2,g3,v,g4,g5⟩:=J2.sl i (some (t,false)) (by rw[zz (by rw[<- I.lO];exact (fG.mp h1).1)]);rw[h2] at g2;cases g2;cases g4;have nn:a∉av Z (O.set i none):=by
   obtain⟨u,eu,mu⟩:=h3.mut;cases t with
   |lst ts=>
    simp only[At] at g5;obtain⟨b,vs,eb,l,_⟩:=g5;cases eb;obtain l|⟨oo,_,_,lk,_⟩:=l
    exact l.2;exact λz2=>by
     have key:∀(O:HD)(i:Nat),O[i]?=some (some a)->(roots O).Nodup->a∉roots (O.set i none):=by
      intro O;induction O with
      |nil=>intro i h;simp at h
      |cons o O ih=>
       intro i h nd;cases i with
       |zero=>
        have:o=some a:=by simpa using h
        subst this;simp only[roots,K1,k5,id] at nd ⊢;exact (jh.mp nd).1
       |succ i=>
        have h':O[i]?=some (some a):=by simpa using h
        cases o with
        |none=>simp only[roots,C5,k5,id] at nd ⊢;exact ih i h' nd
        |some b=>
         simp only[roots,C5,k5,id] at nd ⊢;rw[jh] at nd;intro z;rcases cT.mp z with z|z
         exact nd.1 (by rw[<- z];exact aG.mpr (fR h'));exact ih i h' nd.2 z
     rcases cJ.mp z2 with z2|z2
     exact key O i h1 I.nd z2;exact o2 z2
   |dk ks ts=>simp only[At] at g5;obtain⟨b,vs,eb,_,d,_⟩:=g5;cases eb;exact d.2
   |ins C ns ts=>simp only[At] at g5;obtain⟨b,dx,vs,eb,_,d,_⟩:=g5;cases eb;exact d.2
   |_=>exact h3.elim
  exact nn (cj _ z)
 have hP:Z.H0 a=none:=by
  obtain z|z:=o1
  obtain⟨p,hpm,rfl⟩:=sh.mp z;have:=J.par p hpm;exact absurd (aG.mpr (fR this)) na;exact z
 have sub:∀b∈av (Z.ex a) (O.set i none),b∈av Z O:=λb hb=>by
  rcases dS b hb with z|z
  exact bV i b z;rw[z];exact cj _ ha
 refine⟨a,h2,a,rfl,⟨J.lσ,J.lO,λj e h=>?_,J.nd,λb hb=>?_,J.par,λb hb=>?_,J.keep,λp hp=>(I.mD p hp).aR sub⟩,h3.aR sub,hP,o2⟩;rcases get_set h with⟨rfl,rfl,hl⟩|⟨ne,h⟩
 obtain⟨o,s,g1,g2,g3⟩:=J.sl j none (by rw[zz hl]);exact⟨o,s,g1,g2,g3⟩;obtain⟨o,s,g1,g2,g3⟩:=I.sl j e h;exact⟨o,s,by rw[qS (Ne.symm ne)];exact g1,g2,g3.map (λ_ _ q=>q.aR sub) λ_ _ _ q=>q.aR sub⟩;obtain⟨q1,q2,q3⟩:=J.own b hb;refine⟨q1,λz=>?_,q3⟩;rcases cT.mp z with z|z
 exact na (by rw[<- z];exact hb);exact q2 z;rcases cT.mp hb with z|z
 obtain⟨u,eu,_⟩:=o3;rw[z,eu];simp;exact I.ox b z
def Lj(i:Nat):FX:=λρ Q=>match ρ[i]? with
 |some (some (t,true))=>Q (ρ.set i none) (.fr t)
 |some (some (t,false))=>Q ρ (.vw t)
 |_=>False
theorem zW(i:Nat)(hp:bE Z i)(hN:X.N[i]?=some x:=by rfl)(hv:jA X.env.scope x:=by first|exact Or.inl rfl|exact Or.inr (Or.inl rfl)|exact Or.inr (Or.inr rfl))(hd:gp x:=by decide)(fH:se x:=by decide):VX X Z (.Name x pos) (Lj i):=.mk λtm=>PE.weak (bN hN hv hd fH) λσ H Q ⟨ρ,O,q,I,hf,k⟩=>by
 unfold Lj at hf;split at hf
 rename_i t e
 obtain⟨a,h1,h2⟩:=I.give hp e;exact⟨_,h1,k _ _ hf _ _ H h2⟩
 rename_i t e
 obtain⟨o,s,h1,h2,rfl,v,rfl,h3⟩:=I.sl i _ e;exact⟨v,h2,k _ _ hf O v H ⟨I,h3⟩⟩;exact hf.elim
end
theorem aw.vn{Z:Zc}{tm Za:List (T×V)}{ρ:En}(I:aw K Z tm O ρ σ H)(h:∀p∈Za,At K H (av Z O) p.1 p.2):aw K Z Za O ρ σ H :=
 ⟨I.lσ,I.lO,I.sl,I.nd,I.own,I.par,I.ox,I.keep,h⟩
theorem fJ.vn{Z:Zc}{bW tm:List (T×V)}{ρ:En}{r:Rt}(h:fJ K Z (bW++tm) O ρ σ H r v):fJ K Z tm O ρ σ H r v:=by
 cases r with
 |vw t=>exact⟨h.1.vn λp hp=>h.1.mD p (bK _ hp),h.2⟩
 |fr t=>obtain⟨a,e,I,q⟩:=h;exact⟨a,e,I.vn λp hp=>I.mD p (bK _ hp),q⟩
def Wk(K:qaf)(J:It)(bW:List (T×V))(ts:List T):Prop:=∀H A,(∀a∈A,H a≠none)->(∀p∈bW,At K H A p.1 p.2)->∀i:Nat,
 (i<ts.length->J.go i H)/\(ts.length=i->J.stop i H)/\∀t,ts[i]?=some t->∀x H',J.Rc i H x H'->aK H H'/\At K H' A t x
abbrev FI:=En->(List T->Prop)->Prop
noncomputable def lI(X:Cx)(Z:Zc)(tm:List (T×V))(f:FI):TI:=λσ H R=>∃ρ O q,aw X.K Z tm O ρ σ H/\f ρ q/\∀ts,q ts->∀J H' bW,aK H H'->(∀p∈bW,At X.K H' (av Z O) p.1 p.2)->Wk X.K J bW ts->R J H'
def VI(X:Cx)(Z:Zc)(tg iter:Expr)(f:FI):Prop:=Bx λtm=>PI X tg iter (lI X Z tm f)
instance{X:Cx}{Z:Zc}{tg iter:Expr}{f:FI}:CoeFun (VI X Z tg iter f) λ_=>∀tm,PI X tg iter (lI X Z tm f):=⟨λh=>Bx.h h⟩
theorem PI.weak{tg:Expr}{t t':TI}(h:PI X tg e t)(hw:∀σ H R,t' σ H R->t σ H R):PI X tg e t':=λpins s σ H R I q=>h pins s σ H R I (hw _ _ _ q)
theorem PG.weak{tg:Expr}{t t':TG}(h:PG X tg t)(hw:∀v σ H Q,t' v σ H Q->t v σ H Q):PG X tg t':=λpins s σ H v u Q I r q=>h pins s σ H v u Q I r (hw _ _ _ _ q)
theorem Dj.weak{tg:qap}{t t':Hy}(h:Dj X tg t)(hw:∀v σ H Q,t' v σ H Q->t v σ H Q):Dj X tg t':=λpins s σ H v u Q I r q=>h pins s σ H v u Q I r (hw _ _ _ _ q)
def Sk(K:qaf)(tl:TE):TI:=λσ H R=>tl σ H λx H1=>(∃a,x=.ref a/\(∃xs,eU K H1 a xs)/\R (Wv K a) H1)\/(∃a,x=.ref a/\(∃xs,dD K H1 a xs)/\R (Ww K a) H1)\/∃z,x=.str z/\R (U' z) H1
section
variable{Z:Zc}{tg:Expr}
theorem DZ{l:Expr}{tl:TE}(hl:PE X l tl):PI X tg l (Sk X.K tl):=by
 intro pins s σ H R I h;refine bY (hl pins s σ H _ I h) λv s1 ⟨x,H1,I1,r1,q1⟩=>?_;obtain⟨a,e,hq,q⟩|⟨a,e,hq,q⟩|⟨z,e,q⟩:=q1
 subst e;cases r1;obtain⟨xs,hq⟩:=hq;obtain⟨aM,rv,p,hz⟩:=I1.list hq;refine wpAny_pyIter_list p.isList ?_;refine⟨s1.heap.objs.size,[s1.heap.objs.size],_,_,H1,rfl,I1.kept (t':=s1.toks) λb o e=>fE _ e,A9 a _,⟨_,k6 _ rfl,rfl,rfl⟩,λb hb=>?_,q⟩;have e:b=s1.heap.objs.size:=by simpa using hb
 subst e;exact I1.m9 (cU _) (I1.b_.fresh (cU _));subst e;cases r1;obtain⟨xs,hq⟩:=hq;obtain⟨aM,rv,p,hz⟩:=I1.tuple hq;refine wpAny_pyIter_tuple (show s1.heap.IsTuple a aM.toArray from p) ?_;refine⟨s1.heap.objs.size,[s1.heap.objs.size],_,_,H1,rfl,I1.kept (t':=s1.toks) λb o e=>fE _ e,xS a _,⟨_,k6 _ rfl,rfl,rfl⟩,λb hb=>?_,q⟩;have e:b=s1.heap.objs.size:=by simpa using hb
 subst e;exact I1.m9 (cU _) (I1.b_.fresh (cU _));subst e;obtain⟨t,rfl⟩:=r1;refine wpAny_pyIter_strU ?_;have I2:Inv X pins σ H1 {s1 with heap:=s1.heap.push {cls:=.type (strIterType z),data:=.fields #[.str z t,.int 0 0]} }:=I1.kept (t':=s1.toks) λb o e=>fE _ e;refine⟨s1.heap.objs.size,[s1.heap.objs.size],_,_,H1,rfl,I2,DO z t _,⟨_,k6 _ rfl,rfl,rfl⟩,λb hb=>?_,q⟩;have e:b=s1.heap.objs.size:=by simpa using hb
 subst e;exact I1.m9 (cU _) I1.fresh
def Xc(f:FE):FI:=λρ Q=>f ρ λt=>match t with
 |.lst ts=>Q ts
 |.tup ts=>Q ts
 |.str z=>Q (z.cps.toList.map λc=>.str ⟨#[c]⟩)
 |_=>False
theorem IF{ts:List T}:Wk K (Wv K a) [(.lst ts,.ref a)] ts:=λH A hA h i=>by have h:=h _ cS;simp only[At] at h;obtain⟨b,vs,e,l,q⟩:=h;cases e;have hl:=q.length;refine⟨λhi=>⟨vs,vs[i]'(by omega),l.sq,by simp⟩,λhi=>⟨vs,l.sq,by omega⟩,λt ht x H' y=>?_⟩;obtain⟨rfl,y⟩:=y;obtain⟨v,e1,e2⟩:=q.get ht;have:=y vs l.sq;rw[e1] at this;cases this;exact⟨aK.refl _,e2⟩
theorem NL{ts:List T}:Wk K (Ww K a) [(.tup ts,.ref a)] ts:=λH A hA h i=>by have h:=h _ cS;simp only[At] at h;obtain⟨b,vs,e,l,q⟩:=h;cases e;have hl:=q.length;refine⟨λhi=>⟨vs,vs[i]'(by omega),l,by simp⟩,λhi=>⟨vs,l,by omega⟩,λt ht x H' y=>?_⟩;obtain⟨rfl,y⟩:=y;obtain⟨v,e1,e2⟩:=q.get ht;have:=y vs l;rw[e1] at this;cases this;exact⟨aK.refl _,e2⟩
theorem NM{z:Str}:Wk K (U' z) [] (z.cps.toList.map λc=>T.str ⟨#[c]⟩):=λH A hA h i=>by refine⟨λhi=>by rw[cW,Hn] at hi;exact hi,λhi=>by rw[cW,Hn] at hi;exact Nat.le_of_eq hi,λt ht x H' y=>?_⟩;obtain⟨rfl,c,hc,rfl⟩:=y;rw[ij,Array.getElem?_toList,hc] at ht;cases ht;exact⟨aK.refl _,c_⟩
theorem jJ{l:Expr}{f:FE}(h:VE X Z l f):VI X Z tg l (Xc f):=.mk λtm=>PI.weak (DZ (h tm)) λσ H R ⟨ρ,O,q,I,hf,k⟩=>⟨ρ,O,_,I,hf,λt ht v H' s a=>by split at ht;have a0:=a;simp only[At] at a;obtain⟨p,vs,rfl,l,_⟩:=a;exact .inl ⟨p,rfl,⟨vs,l.sq⟩,k _ ht _ H' _ s (λp hp=>by rw[gq.mp hp];exact a0) IF⟩;have a0:=a;simp only[At] at a;obtain⟨p,vs,rfl,l,_⟩:=a;exact .inr (.inl ⟨p,rfl,⟨vs,l⟩,k _ ht _ H' _ s (λp hp=>by rw[gq.mp hp];exact a0) NL⟩);have e:=a;simp only[At] at e;exact .inr (.inr ⟨_,e,k _ ht _ H' [] s (λp hp=>nomatch hp) NM⟩);exact ht.elim⟩
def rangeT(lo:Int)(n:Nat):List T:=(List.range n).map λi=>T.int (lo+((i:Nat):Int))
theorem vo{lo:Int}:Wk K (Rf lo n) [] (rangeT lo n):=λH A hA h i=>by
 unfold rangeT;refine⟨λhi=>by rw[cW,Qk] at hi;exact hi,λhi=>by rw[cW,Qk] at hi;exact Nat.le_of_eq hi,λt ht x H' y=>?_⟩;obtain⟨rfl,rfl⟩:=y;rw[ij] at ht;cases e:(List.range n)[i]? with
 |none=>rw[e] at ht;cases ht
 |some j=>
  rw[e] at ht;have hj:j=i:=by have:=fG.mp e;obtain⟨h1,h2⟩:=this;simpa using h2.symm
  subst hj;cases ht;exact⟨aK.refl _,bc⟩
def Zb(ts:List T)(Q:List T->Prop):Prop:=match ts with
 |[.int j]=>-(2 ^ 62)<=j/\j<2 ^ 62/\Q (rangeT 0 j.toNat)
 |_=>False
def Zd(ts:List T)(Q:List T->Prop):Prop:=match ts with
 |[.int i,.int j]=>(-(2 ^ 62)<=i/\i<2 ^ 62/\-(2 ^ 62)<=j/\j<2 ^ 62)/\Q (rangeT i (j-i).toNat)
 |_=>False
def D0(g:FA)(p:List T->(List T->Prop)->Prop):FI:=λρ Q=>g ρ λts=>p ts Q
theorem jb{a:Expr}{g:FE}{pos:Pos}(hg:Gl X "range")(hm:X.mg "range"=none)(ha:VR X Z a g)(hs:starEach [a] X.env=[(false,eval a X.env)]:=by rfl) :
  VI X Z tg (.Call (.Name "range" p) [a] [] pos) (D0 (dA g nv) Zb):=.mk λtm=>PI.weak (A_ hg hm ((aJ ha aV hs) tm) hs) λσ H R ⟨ρ,O,q,I,hf,k⟩=>⟨ρ,O,_,I,hf,λts eF vs H' s a=>by
 unfold Zb at eF;split at eF;obtain⟨v,rfl,a1⟩:=cR a;exact⟨_,by rw[a1.int],eF.1,eF.2.1,k _ eF.2.2 _ H' [] s (λp hp=>nomatch hp) vo⟩;exact eF.elim⟩
theorem Bv{a:Expr}{g h:FE}{pos:Pos}(hg:Gl X "range")(hm:X.mg "range"=none)(ha:VR X Z a g)(hb:VR X Z b h)(hs:starEach [a,b] X.env=[(false,eval a X.env),(false,eval b X.env)]:=by rfl)(qX:starEach [b] X.env=[(false,eval b X.env)]:=by rfl) :
  VI X Z tg (.Call (.Name "range" p) [a,b] [] pos) (D0 (dA g (dA h nv)) Zd):=.mk λtm=>PI.weak (Ba hg hm ((aJ ha (aJ hb aV qX) (by rw[hs,qX])) tm) hs qX) λσ H R ⟨ρ,O,q,I,hf,k⟩=>⟨ρ,O,_,I,hf,λts eF vs H' s a=>by
 unfold Zd at eF;split at eF;obtain⟨v,w,rfl,a1,b1⟩:=ID a;exact⟨_,_,by rw[a1.int,b1.int],eF.1,k _ eF.2 _ H' [] s (λp hp=>nomatch hp) vo⟩;exact eF.elim⟩
abbrev FG:=T->En->(En->Prop)->Prop
abbrev IG:=List T->En->(En->Prop)->Prop
noncomputable def lG(X:Cx)(Z:Zc)(tm:List (T×V))(is:qao)(h:FG):TG:=λv σ H Q=>∃ρ O t q,aw X.K Z tm O ρ σ H/\At X.K H (av Z O) t v/\h t ρ q/\∀ρ',q ρ'->∀O' σ',aw X.K Z tm O' ρ' σ' H->(∀a∈roots O',a∈roots O)->(∀(j:Nat),j∉is->O'[j]?=O[j]?)->σ'.length=σ.length->(∀(j:Nat),j∉is->σ'[j]?=σ[j]?)->Q σ' H
noncomputable def Ze(X:Cx)(Z:Zc)(tm:List (T×V))(is:qao)(h:IG):Hy:=λvs σ H Q=>∃ρ O ts q,aw X.K Z tm O ρ σ H/\ay X.K H (av Z O) ts vs/\h ts ρ q/\∀ρ',q ρ'->∀O' σ',aw X.K Z tm O' ρ' σ' H->(∀a∈roots O',a∈roots O)->(∀(j:Nat),j∉is->O'[j]?=O[j]?)->σ'.length=σ.length->(∀(j:Nat),j∉is->σ'[j]?=σ[j]?)->Q σ' H
def VG(X:Cx)(Z:Zc)(tg:Expr)(is:qao)(h:FG):Prop:=Bx λtm=>PG X tg (lG X Z tm is h)
instance{X:Cx}{Z:Zc}{tg:Expr}{is:qao}{h:FG}:CoeFun (VG X Z tg is h) λ_=>∀tm,PG X tg (lG X Z tm is h):=⟨λh=>Bx.h h⟩
def Sn(X:Cx)(Z:Zc)(Vc:qap)(is:qao)(h:IG):Prop:=Bx λtm=>Dj X Vc (Ze X Z tm is h)
instance{X:Cx}{Z:Zc}{Vc:qap}{is:qao}{h:IG}:CoeFun (Sn X Z Vc is h) λ_=>∀tm,Dj X Vc (Ze X Z tm is h):=⟨λh=>Bx.h h⟩
def hName(i:Nat):FG:=λt ρ Q=>Q (ρ.set i (some (t,false)))
theorem a_{pos:Pos}(hN:X.N.Nodup)(hi:X.N[i]?=some x)(hx:Loc X.env.scope x)(hp:bE Z i)(hf:X.fn x=true\/X.env.scope.names.lookup x=some .local:=by first|exact .inl rfl|exact .inr rfl|assumption) :
  VG X Z (.Name x pos) [i] (hName i):=.mk λtm=>PG.weak (Hz hN hi hx hf) λv σ H Q ⟨ρ,O,t,q,I,a,h,k⟩ =>
 k _ h _ _ (I.put hp a) (bF i) (λj hj=>qS (λe=>hj (by simp[e]))) (by simp) λj hj=>qS (λe=>hj (by simp[e]))
def Xd:IG:=λts ρ Q=>ts=[]/\Q ρ
def Ll(h:FG)(hs:IG):IG:=λts ρ Q=>match ts with
 |t::r=>h t ρ λρ'=>hs r ρ' Q
 |[]=>False
def NN(n:Nat)(h:IG):FG:=λt ρ Q=>match t with
 |.tup ts=>ts.length=n/\h ts ρ Q
 |_=>False
theorem fZ:Sn X Z [] [] Xd:=.mk λtm=>Dj.weak HA λvs σ H Q ⟨ρ,O,ts,q,I,a,h,k⟩=>by
 obtain⟨rfl,h⟩:=h;have e:vs=[]:=by simpa only[ay] using a
 exact⟨e,k _ h O σ I (λ_ z=>z) (λ_ _=>rfl) rfl λ_ _=>rfl⟩
theorem bO{js:qao}{h:FG}{hs:IG}(h1:VG X Z e is h)(h2:Sn X Z es js hs)(hse:(assignEach (e::es) X.env).map (·.2)=assign e X.env::(assignEach es X.env).map (·.2):=by rfl):Sn X Z (e::es) (is++js) (Ll h hs):=.mk λtm=>Dj.weak (Dl (h1 tm) (h2 tm) hse) λvs σ H Q ⟨ρ,O,ts,q,I,a,hh,k⟩=>by
 unfold Ll at hh;split at hh;simp only[ay] at a;obtain⟨v,r,rfl,a1,a2⟩:=a;refine⟨v,r,rfl,ρ,O,_,_,I,a1,hh,λρ' hρ O' σ' I' ro eo l e=>⟨ρ',O',_,q,I',a2.aR λb hb=>?_,hρ,λρ2 h2 O2 σ2 I2 ro2 eo2 l2 e2=>k ρ2 h2 O2 σ2 I2 (λa z=>ro a (ro2 a z)) (λj hj=>?_) (l2.trans l) λj hj=>?_⟩⟩;rcases cJ.mp hb with z|z
 exact cj _ (ro b z);exact bK _ z;rw[cJ,not_or] at hj;exact (eo2 j hj.2).trans (eo j hj.1);rw[cJ,not_or] at hj;exact (e2 j hj.2).trans (e j hj.1);exact hh.elim
theorem iF{k:Nat}{h:IG}{pos:Pos}(hc:X.calm=true)(hh:Sn X Z es is h)(hn:(assignEach es X.env).length=n:=by rfl)(MK:(assignEach es X.env).findIdx? (·.1)=none:=by rfl):VG X Z (.Tuple es k pos) is (NN n h):=.mk λtm=>PG.weak (MJ hc (hh tm) hn MK) λv σ H Q ⟨ρ,O,t,q,I,a,h',kk⟩=>by unfold NN at h';split at h';simp only[At] at a;obtain⟨p,vs,rfl,s,a⟩:=a;exact⟨p,vs,rfl,s,a.length.trans h'.1,ρ,O,_,q,I,a,h'.2,kk⟩;exact h'.elim
def Xe(f:FE)(h:FG):FS:=λd ρ=>f ρ λt=>h t ρ d.nx
theorem NO{tg:Expr}{f:FE}{h:FG}{pos:Pos}(he:VE X Z e f)(hg:VG X Z tg is h)(hs:swapsWithSole [tg] e pos.line X.env=pure false:=by rfl)(hw:swappedStores [tg] e X.env=pure none:=by rfl)(h1:(assignEach [tg] X.env).map (·.2)=[assign tg X.env]:=by rfl):VS X Z (.Assign [tg] e pos) (Xe f h):=.mk λtm=>PS.weak (xQ (he tm) (hg tm) hs hw h1) λD σ H ⟨ρ,O,d,I,q,F⟩ =>
 ⟨ρ,O,_,I,q,λt ht v H' s a=>⟨ρ,O,t,_,I.same s,a,ht,λρ' hρ O' σ' I' _ _ _ _=>F.nx O' ρ' σ' H' I' hρ⟩⟩
def mJ(ts:List T)(h:FG)(g:FS):FS:=λd ρ=>∃Pv:Nat->En->Prop,Pv 0 ρ/\(∀(i:Nat) t ρ',ts[i]?=some t->Pv i ρ'->h t ρ' λρ2=>g {nx:=Pv (i+1),ct:=Pv (i+1),bk:=d.nx,rt:=d.rt} ρ2)/\∀ρ',Pv ts.length ρ'->d.nx ρ'
def Xf(f:FI)(h:FG)(g:FS):FS:=λd ρ=>f ρ λts=>mJ ts h g d ρ
theorem jK{body:qaq}{f:FI}{h:FG}{g:FS}{pos:Pos}(hp:PassesOwn (model X.prog X.w) X.A X.env X.xe)(hc:X.calm=true)(hi:VI X Z tg iter f)(hg:VG X Z tg is h)(hb:mG X Z body g)(hs:∀x,foldedSetIterable iter X.env x=pure x:=by intro _;rfl):VS X Z (.For tg iter body [] pos) (Xf f h g):=by
 refine .mk λtm pins s σ H D I0 hw=>?_;obtain⟨ρ,O,d,I,q,F⟩:=hw;refine Dn (wi:=lI X Z tm f) (g:=λv σ H Q=>∃bW,lG X Z (bW++tm) is h v σ H Q) (tb:=λD σ H=>∃bW,lS X Z (bW++tm) g D σ H) hp hc (hi tm) (λpins s σ H v u Q I r ⟨bW,z⟩=>hg (bW++tm) pins s σ H v u Q I r z) (λpins s σ H D I ⟨bW,z⟩=>hb (bW++tm) pins s σ H D I z) hs pins s σ H D I0 ?_;refine⟨ρ,O,_,I,q,λts eF J H' bW s a wk=>?_⟩;obtain⟨Pv,p0,step,fin⟩:=eF;have J0:aw X.K Z (bW++tm) O ρ σ H':=(I.same s).vn λp hp=>by
  rcases cJ.mp hp with z|z
  exact a p z;exact (I.same s).mD p z
 refine⟨λi m σ H=>m=ts.length-i/\i<=ts.length/\∃ρ O,aw X.K Z (bW++tm) O ρ σ H/\Pv i ρ,⟨ts.length,by simp,ji _,ρ,O,J0,p0⟩,?_⟩;rintro i m σ1 H1 ⟨rfl,hi,ρ1,O1,I1,p1⟩;obtain⟨w1,w2,w3⟩:=wk H1 (av Z O1) I1.xG (λp hp=>I1.mD p (cj _ hp)) i;have un:∀{O:HD}{ρ:En}{σ:St}{H:Hp},aw X.K Z (bW++tm) O ρ σ H->aw X.K Z tm O ρ σ H:=λI=>I.vn λp hp=>I.mD p (bK _ hp);by_cases gQ:i<ts.length;refine .inr ⟨w1 gQ,λσ' H'=>∃ρ O,aw X.K Z (bW++tm) O ρ σ' H'/\Pv (i+1) ρ,λσ' H' ⟨ρ',O',I',p'⟩=>⟨ts.length-(i+1),by omega,rfl,gQ,ρ',O',I',p'⟩,λx H2 y=>?_⟩;have e:ts[i]?=some ts[i]:=by simp[gQ]
 obtain⟨s2,a2⟩:=w3 ts[i] e x H2 y;refine⟨bW,ρ1,O1,ts[i],_,I1.same s2,a2,step i _ ρ1 e p1,λρ2 h2 O2 σ2 I2 _ _ _ _=>⟨bW,ρ2,O2,_,I2,h2,?_⟩⟩;exact⟨λO ρ σ H I p=>⟨ρ,O,I,p⟩,λO ρ σ H r v z p=>F.rt O ρ σ H r v z.vn p,λO ρ σ H I p=>F.nx O ρ σ H (un I) p,λO ρ σ H I p=>⟨ρ,O,I,p⟩⟩;have e:i=ts.length:=by omega
 subst e;exact .inl ⟨w2 (rfl),F.nx O1 ρ1 σ1 H1 (un I1) (fin ρ1 p1)⟩
end
theorem dX(O:HD)(n:Nat):roots (O++List.replicate n none)=roots O:=by
 unfold roots;rw[List.filterMap_append];have:(List.replicate n (none:qar)).filterMap id=[]:=by
  induction n with
  |zero=>rfl
  |succ n ih=>rw[C4,k5];exact ih
 rw[this,CO]
theorem aw.longer{Z:Zc}{tm:List (T×V)}{ρ:En}(I:aw K Z tm O ρ σ H)(n:Nat){τ:St}(hτ:τ.length=n) :
  aw K Z tm (O++List.replicate n none) (ρ++List.replicate n none) (σ++τ) H:=by
 have ea:av Z (O++List.replicate n none)=av Z O:=by unfold av;rw[dX]
 refine⟨by simp[I.lσ,hτ],by simp[I.lO],λi e h=>?_,by rw[dX];exact I.nd,λa h=>I.own a (by rw[dX] at h;exact h),λp hp=>?_,I.ox,I.keep,λp hp=>by rw[ea];exact I.mD p hp⟩;rw[ea];by_cases hi:i<ρ.length;rw[qg hi] at h;obtain⟨o,s,h1,h2,h3⟩:=I.sl i e h;exact⟨o,s,by rw[qg (by rw[I.lO];exact hi)];exact h1,by rw[qg (by rw[I.lσ];exact hi)];exact h2,h3⟩;rw[uI (by omega),zy] at h;split at h
 rename_i hl
 cases h;refine⟨none,τ[i-σ.length]'(by rw[I.lσ,hτ];exact hl),?_,?_,rfl⟩;rw[uI (by rw[I.lO];omega),zy,if_pos (by rw[I.lO];exact hl)];rw[uI (by rw[I.lσ];omega)];simp;cases h;have:=I.par p hp;have hl:=(fG.mp this).1;rw[qg hl];exact this
theorem aw.NP{Z:Zc}{tm:List (T×V)}{ρ:En}{u o:HO}(I:aw K (Z.ex a) tm O ρ σ H)(hu:H a=some u)(hm:jk u=true)(h0:Z.H0 a=none):aw K (Z.ex a) tm O ρ σ (upd H a o):=by
 have Ik:a∈av (Z.ex a) O:=bK _ cS;have nr:∀b∈roots O,b≠a:=λb hb e=>(I.own b hb).2.1 (by rw[e];exact cS);refine⟨I.lσ,I.lO,λi e h=>?_,I.nd,λb hb=>?_,I.par,λb hb=>?_,λb o' e n=>?_,λp hp=>(I.mD p hp).wrote Ik hu hm⟩;obtain⟨o',s,h1,h2,h3⟩:=I.sl i e h;refine⟨o',s,h1,h2,h3.map (λ_ _ q=>q.wrote Ik hu hm) λb t e q=>?_⟩;subst e;exact q.map (az (nr b (aG.mpr (fR h1)))) λ_ _ z=>z.wrote Ik hu hm;obtain⟨q1,q2,v,e,m⟩:=I.own b hb;exact⟨q1,q2,v,by rw[az (nr b hb)];exact e,m⟩;by_cases e:b=a;subst e;rw[aB];simp;rw[az e];exact I.ox b hb;have:b≠a:=λe'=>by subst e';have e2:Z.H0 b=some o':=e;rw[h0] at e2;cases e2
 rw[az this];exact I.keep b o' e n
def cA(h:FG)(fc:FB)(fe:FE)(ρ:En):List T->(List T->Prop)->Prop
 |[],Q=>Q []
 |t::ts,Q=>h t ρ λρ2=>fc ρ2 λb=>if b=true then fe ρ2 λu=>cA h fc fe ρ ts λus=>Q (u::us) else cA h fc fe ρ ts Q
def zX(n:Nat)(is:qao)(f:FI)(h:FG)(fc:FB)(fe:FE):FP:=λρ Q=>(is.all λj=>decide (ρ.length<=j))=true/\f ρ λts=>ts.length<=sizeLine/\cA h fc fe (ρ++List.replicate n none) ts λus=>Q (.fr (.lst us))
def Qt(X:Cx)(Z:Zc)(ifs:qap)(f:FB):Prop:=Bx λtm=>DJ X ifs (lB X Z tm f)
instance{X:Cx}{Z:Zc}{ifs:qap}{f:FB}:CoeFun (Qt X Z ifs f) λ_=>∀tm,DJ X ifs (lB X Z tm f):=⟨λh=>Bx.h h⟩
def Bw:FB:=λ_ Q=>Q true
theorem DJ.weak{e:qap}{t t':TT}(h:DJ X e t)(hw:∀σ H Q,t' σ H Q->t σ H Q):DJ X e t':=λpins s σ H Q I q=>h pins s σ H Q I (hw _ _ _ q)
section
variable{Z:Zc}
theorem eS:Qt X Z [] Bw:=.mk λtm=>DJ.weak H_ λσ H Q ⟨ρ,O,q,I,h,k⟩=>k true h H (aK.refl H)
theorem IH{f:FB}(h:VC X Z c f):Qt X Z [c] f:=.mk λtm=>Ia (h tm)
noncomputable def cG(X:Cx)(Z:Zc)(tm:List (T×V))(is:qao)(h:FG):TG:=λv σ H Q=>∃D bW,lG X (Z.ex D) (bW++tm) is h v σ H Q
noncomputable def cB(X:Cx)(Z:Zc)(tm:List (T×V))(f:FB):TT:=λσ H Q=>∃D bW,lB X (Z.ex D) (bW++tm) f σ H Q
noncomputable def cE(X:Cx)(Z:Zc)(tm:List (T×V))(f:FE):TE:=λσ H Q=>∃D bW,lE X (Z.ex D) (bW++tm) f σ H Q
theorem NQ{Z:Zc}{tm bW:List (T×V)}{ρ:En}{H1:Hp}{D:Addr}{J:It}{ts:List T}{h:FG}{fc:FB}{fe:FE}{q:Rt->Prop}{Q:VK}(X:Cx)(hK:X.K=K)(I:aw K Z (bW++tm) O ρ σ H1)(hD:H1 D=none)(wk:Wk K J bW ts)(hz:ts.length<=sizeLine)(Hc:∀j∈is,ρ.length<=j)(hw:cA h fc fe (ρ++List.replicate n none) ts λus=>q (.fr (.lst us)))(k:∀r,q r->∀v H',aK H1 H'->fJ K Z tm O ρ σ H' r v->Q v H') :
  DK J (cG X Z tm is h) (cB X Z tm fc) (cE X Z tm fe) n σ D (Q (.ref D)) H1:=by
 subst hK;obtain⟨n1,n2,n3⟩:=I.fresh hD;refine⟨λi m acc H2=>m=ts.length-i/\i<=ts.length/\aK H1 H2/\H2 D=some (.lst acc)/\∃us,ay X.K H2 (av (Z.ex D) O) us acc/\acc.length<=i/\aw X.K (Z.ex D) (bW++tm) O ρ σ H2/\cA h fc fe (ρ++List.replicate n none) (ts.drop i) λr=>q (.fr (.lst (us++r))),
  ⟨ts.length,by simp,ji _,aC hD,aB,[],ay.nil,ji _,I.new hD rfl,by simpa using hw⟩,?_⟩
 rintro i m acc H2 ⟨rfl,hi,s2,Vd,us,a2,hl,I2,w2⟩;refine⟨Vd,?_⟩;obtain⟨w1,w2',w3⟩:=wk H2 (av (Z.ex D) O) I2.xG (λp hp=>I2.mD p (cj _ hp)) i;by_cases gQ:i<ts.length;refine .inr ⟨w1 gQ,by omega,λx H3 y=>?_⟩;have e:ts[i]?=some ts[i]:=by simp[gQ]
 obtain⟨s3,a3⟩:=w3 ts[i] e x H3 y;rw[V0 gQ] at w2;have I3:=(I2.same s3).longer n (τ:=List.replicate n none) (by simp);have ea:av (Z.ex D) (O++List.replicate n none)=av (Z.ex D) O:=by unfold av;rw[dX]
 refine⟨D,bW,_,_,ts[i],_,I3,by rw[ea];exact a3,w2,λρ4 hρ4 O4 σ4 I4 ro4 eo4 l4 e4=>⟨⟨?_,λj v hj=>?_⟩,D,bW,ρ4,O4,_,I4,hρ4,λb hb H5 s5=>?_⟩⟩;rw[l4];simp;have C1:=(fG.mp hj).1;have:j∉is:=λz=>by have:=Hc j z;have:=I.lσ;omega
 rw[e4 j this,qg C1];exact hj;have S5:=(s2.trans s3).trans s5;have J5:=(I2.same s3).same s5;cases b with
 |true=>
   rw[if_pos rfl] at hb;refine Ni ⟨D,bW,ρ4,O4,_,I4.same s5,hb,λu hu y H6 s6 a6=>?_⟩;have Xg:=s6 _ _ (s5 _ _ (s3 _ _ Vd));refine⟨Xg,ts.length-(i+1),by omega,rfl,gQ,λb o e=>?_,aB,us++[u],?_,by simp;omega,(J5.same s6).NP Xg rfl n3,?_⟩;rw[az (aZ e hD)];exact s6 _ _ (S5 _ _ e);have Ik:D∈av (Z.ex D) O:=bK _ cS;have a6':At X.K H6 (av (Z.ex D) O) u y:=a6.aR λb hb=>by
    rcases cJ.mp hb with z|z
    obtain⟨j,hj⟩:=UI.mp (aG.mp z);have C1:=(fG.mp hj).1;have nj:j∉is:=λz=>by have:=Hc j z;have:=I.lO;omega
    have:=eo4 j nj;rw[qg C1,hj] at this;exact cj _ (aG.mpr (fR this));exact bK _ z
   exact ay.wrote Ik Xg rfl ((((a2.same s3).same s5).same s6).append (ay.cons a6' ay.nil));have e2:∀r,(us++[u])++r=us++(u::r):=λr=>by simp
   simp only[e2];exact hu
 |false=>rw[if_neg eh] at hb;exact Nh ⟨ts.length-(i+1),by omega,rfl,gQ,S5,s5 _ _ (s3 _ _ Vd),us,(a2.same s3).same s5,by omega,J5,hb⟩
 have e:i=ts.length:=by omega
 subst e;refine .inl ⟨w2' (rfl),?_⟩;rw[List.drop_length] at w2;simp only[cA,CO] at w2;refine k _ w2 _ H2 s2 ⟨D,rfl,I2.vn λp hp=>I2.mD p (bK _ hp),⟨acc,Vd,a2⟩,n3,n2⟩
theorem zY{tm:List (T×V)}{f:FI}{h:FG}{fc:FB}{fe:FE}{Q:VK}(hq:lP X Z tm (zX n is f h fc fe) σ H Q):DN n (lI X Z tm f) (cG X Z tm is h) (cB X Z tm fc) (cE X Z tm fe) σ H Q:=by
 obtain⟨ρ,O,q,I,⟨Hc,hf⟩,k⟩:=hq;refine⟨ρ,O,_,I,hf,λts eF J H' bW s a wk D hD=>?_⟩;have I':aw X.K Z (bW++tm) O ρ σ H':=(I.same s).vn λp hp=>by
  rcases cJ.mp hp with z|z
  exact a p z;exact (I.same s).mD p z
 refine NQ X rfl I' hD wk eF.1 (λj hj=>?_) eF.2 λr hr v H2 s2 z=>k r hr v H2 (s.trans s2) z;have:=K2.mp Hc j hj;exact of_decide_eq_true this
variable{ts:qai}{elt tg:Expr}{ifs:qap}{pos:Pos}{f:FI}{h:FG}{fc:FB}{fe:FE}
theorem f_(hc:X.calm=true)(hS:jD X.N ts X.env.scope sc=true)(hi:VI X Z tg iter f)(hg:∀D cl C fp s H,VG (bD X ts sc cl C fp s H) (Z.ex D) tg is h)(ht:∀D cl C fp s H,Qt (bD X ts sc cl C fp s H) (Z.ex D) ifs fc)(he:∀D cl C fp s H,VE (bD X ts sc cl C fp s H) (Z.ex D) elt fe)(hs:∀x,foldedSetIterable iter X.env x=pure x:=by intro _;rfl):VP X Z (.ListComp elt [⟨tg,iter,ifs,0⟩] sc pos) (zX ts.length is f h fc fe):=.mk λtm=>
 PE.weak (Ic hc hS (hi tm) (λcl C fp s H pins s' σ H' v u Q I r ⟨D,bW,z⟩=>hg D cl C fp s H (bW++tm) pins s' σ H' v u Q I r z) (λcl C fp s H pins s' σ H' Q I ⟨D,bW,z⟩=>ht D cl C fp s H (bW++tm) pins s' σ H' Q I z)
  (λcl C fp s H pins s' σ H' Q I ⟨D,bW,z⟩=>he D cl C fp s H (bW++tm) pins s' σ H' Q I z) hs) λσ H Q hq=>zY hq
theorem vq{py vf:Pos}(hN:X.N.Nodup)(hy:X.N[i]?=some y)(hx:Loc X.env.scope y)(hc:X.calm=true)(hS:jD X.N ts X.env.scope sc=true)(hi:VI X Z tg iter f)(hg:∀D cl C fp s H,VG (bD X ts sc cl C fp s H) (Z.ex D) tg is h)(ht:∀D cl C fp s H,Qt (bD X ts sc cl C fp s H) (Z.ex D) ifs fc)(he:∀D cl C fp s H,VE (bD X ts sc cl C fp s H) (Z.ex D) elt fe)(Ig:swapsWith (.ListComp elt [⟨tg,iter,ifs,0⟩] sc pos) (some (.Name y py)) vf.line X.env=pure true)(hs:∀x,foldedSetIterable iter X.env x=pure x)(hf:X.fn y=true\/X.env.scope.names.lookup y=some .local)(tm:List (T×V)) :
  PS X (.Assign [.Name y py] (.ListComp elt [⟨tg,iter,ifs,0⟩] sc pos) vf) (HB (lP X Z tm (zX ts.length is f h fc fe)) (jo i)) :=
 PS.weak (Ie hN hy hx hc hS (hi tm) (λcl C fp s H pins s' σ H' v u Q I r ⟨D,bW,z⟩=>hg D cl C fp s H (bW++tm) pins s' σ H' v u Q I r z) (λcl C fp s H pins s' σ H' Q I ⟨D,bW,z⟩=>ht D cl C fp s H (bW++tm) pins s' σ H' Q I z)
  (λcl C fp s H pins s' σ H' Q I ⟨D,bW,z⟩=>he D cl C fp s H (bW++tm) pins s' σ H' Q I z) Ig hs hf) λD σ H hq=>zY hq
theorem zZ{py vf:Pos}(hN:X.N.Nodup)(hy:X.N[i]?=some y)(hx:Loc X.env.scope y)(hc:X.calm=true)(hS:jD X.N ts X.env.scope sc=true)(hi:VI X Z tg iter f)(hg:∀D cl C fp s H,VG (bD X ts sc cl C fp s H) (Z.ex D) tg is h)(ht:∀D cl C fp s H,Qt (bD X ts sc cl C fp s H) (Z.ex D) ifs fc)(he:∀D cl C fp s H,VE (bD X ts sc cl C fp s H) (Z.ex D) elt fe)(hp:bE Z i)(Ig:swapsWith (.ListComp elt [⟨tg,iter,ifs,0⟩] sc pos) (some (.Name y py)) vf.line X.env=pure true:=by rfl)(hs:∀x,foldedSetIterable iter X.env x=pure x:=by intro _;rfl)(hf:X.fn y=true\/X.env.scope.names.lookup y=some .local:=by first|exact .inl rfl|exact .inr rfl|assumption) :
  VS X Z (.Assign [.Name y py] (.ListComp elt [⟨tg,iter,ifs,0⟩] sc pos) vf) (Sh i (fX (zX ts.length is f h fc fe))):=.mk λtm=>
 PS.weak (vq hN hy hx hc hS hi hg ht he Ig hs hf tm) λD σ H ⟨ρ,O,d,I,q,F⟩=>⟨ρ,O,_,I,q,λr hr v H' s z=>F.nx _ _ _ H' (z.env.put hp z.at) hr⟩
theorem rq{h:FG}{fc:FB}{fe:FE}{ρ:En}{ts:List T}{Q:List T->Prop}(p:T->Bool)(u:T->T)(step:∀t∈ts,∀k:List T->Prop,∀r:List T->Prop,(if p t=true then r [u t] else r [])->h t ρ λρ2=>fc ρ2 λb=>if b=true then fe ρ2 λx=>r [x] else r [])(hq:Q ((ts.filter p).map u)):cA h fc fe ρ ts Q:=by
 induction ts generalizing Q with
 |nil=>exact hq
 |cons t ts ih=>
  have st:=step t cS (λ_=>True) (λl=>match l with
   |[x]=>cA h fc fe ρ ts λus=>Q (x::us)
   |_=>cA h fc fe ρ ts Q)
  have rest:∀{Q':List T->Prop},Q' ((ts.filter p).map u)->cA h fc fe ρ ts Q':=λhq=>ih (λt ht=>step t (d_ _ ht)) hq;simp only[cA];refine st ?_;by_cases hp:p t=true;rw[if_pos hp];refine rest ?_;rw[V3 hp] at hq;exact hq;rw[if_neg hp];refine rest ?_;rw[List.filter_cons_of_neg hp] at hq;exact hq
end
def eL(K:qaf)(H:Hp)(A:qah):List Bool->qah->List T->qak->Prop
 |[],as,ts,vs=>as=[]/\ts=[]/\vs=[]
 |false::fs,as,ts,vs=>∃t gD v eT,ts=t::gD/\vs=v::eT/\At K H A t v/\eL K H A fs as gD eT
 |true::fs,as,ts,vs=>∃a sN t gD eT,as=a::sN/\ts=t::gD/\vs=.ref a::eT/\cC K H A a t/\eL K H A fs sN gD eT
def So(K:qaf)(H:Hp)(as Ox:qah)(H':Hp)(us:List T):Rt->V->Prop
 |.vw t,v=>At K H' (as++Ox) t v/\Paired (λa u=>cC K H' (as++Ox) a u) as us
 |.fr t,v=>∃b,v=.ref b/\H b=none/\b∉as/\cC K H' (b::(as++Ox)) b t/\Paired (λa u=>cC K H' (b::(as++Ox)) a u) as us
abbrev GT:=List T->(List T->Rt->Prop)->Prop
def vt(K:qaf)(fs:List Bool)(G:GT):Sp:=λvs H Q _=>∃ts as Ox q,as.Nodup/\(∀a∈as,a∉Ox)/\(∀a∈Ox,H a≠none)/\eL K H (as++Ox) fs as ts vs/\G ts q /\
 ∀us r,q us r->∀v H',(∀b o,H b=some o->b∉as->H' b=some o)->So K H as Ox H' us r v->Q v H'
noncomputable def ro:List Bool->qah->HD
 |[],_=>[]
 |false::fs,as=>none::ro fs as
 |true::fs,a::as=>some a::ro fs as
 |true::fs,[]=>none::ro fs []
noncomputable def pz:List Bool->qah->Nat->List (Nat×Addr)
 |[],_,_=>[]
 |false::fs,as,k=>pz fs as (k+1)
 |true::fs,a::as,k=>(k,a)::pz fs as (k+1)
 |true::fs,[],k=>pz fs [] (k+1)
noncomputable def uF:List Bool->List T->En
 |f::fs,t::ts=>some (t,f)::uF fs ts
 |_,_=>[]
noncomputable def jL:List Bool->En->List T
 |[],_=>[]
 |false::fs,ρ=>jL fs ρ.tail
 |true::fs,some (t,_)::ρ=>t::jL fs ρ
 |true::fs,ρ=>.aQ::jL fs ρ.tail
section
variable{A:qah}
theorem eX:∀{fs:List Bool}{as:qah}{ts:List T}{vs:qak},eL K H A fs as ts vs->ts.length=fs.length/\vs.length=fs.length/\(ro fs as).length=fs.length/\(uF fs ts).length=fs.length/\roots (ro fs as)=as
 |[],as,ts,vs,h=>by obtain⟨rfl,rfl,rfl⟩:=h;exact⟨rfl,rfl,rfl,rfl,rfl⟩
 |false::fs,as,ts,vs,h=>by obtain⟨t,gD,v,eT,rfl,rfl,_,h⟩:=h;obtain⟨h1,h2,h3,h4,h5⟩:=eX h;exact⟨by simp[h1],by simp[h2],by simp[ro,h3],by simp[uF,h4],by simpa[ro,roots] using h5⟩
 |true::fs,as,ts,vs,h=>by obtain⟨a,sN,t,gD,eT,rfl,rfl,rfl,_,h⟩:=h;obtain⟨h1,h2,h3,h4,h5⟩:=eX h;refine⟨by simp[h1],by simp[h2],by simp[ro,h3],by simp[uF,h4],?_⟩;simp only[ro,roots,k5,id] at h5 ⊢;rw[h5]
theorem oF:∀{fs:List Bool}{as:qah}{ts:List T}{vs:qak},eL K H A fs as ts vs->∀(i:Nat) e,(uF fs ts)[i]?=some e->∃o s,(ro fs as)[i]?=some o/\(vs.map some)[i]?=some s/\lq K H A e o s
 |[],as,ts,vs,h,i,e,he=>by simp[uF] at he
 |false::fs,as,ts,vs,h,i,e,he=>by
  obtain⟨t,gD,v,eT,rfl,rfl,a,h⟩:=h;cases i with
  |zero=>simp only[uF,UM,Option.some.injEq] at he;subst he;exact⟨none,some v,rfl,rfl,rfl,v,rfl,a⟩
  |succ i=>exact oF h i e (by simpa[uF] using he)
 |true::fs,as,ts,vs,h,i,e,he=>by
  obtain⟨a,sN,t,gD,eT,rfl,rfl,rfl,r,h⟩:=h;cases i with
  |zero=>simp only[uF,UM,Option.some.injEq] at he;subst he;exact⟨some a,some (.ref a),rfl,rfl,a,rfl,rfl,r⟩
  |succ i=>exact oF h i e (by simpa[uF] using he)
theorem lH:∀{fs:List Bool}{as:qah}{ts:List T}{vs:qak},eL K H A fs as ts vs->∀a∈as,∃t,cC K H A a t
 |[],as,ts,vs,h,a,ha=>by obtain⟨rfl,rfl,rfl⟩:=h;cases ha
 |false::fs,as,ts,vs,h,a,ha=>by obtain⟨t,gD,v,eT,rfl,rfl,_,h⟩:=h;exact lH h a ha
 |true::fs,as,ts,vs,h,a,ha=>by
  obtain⟨b,sN,t,gD,eT,rfl,rfl,rfl,r,h⟩:=h;rcases cT.mp ha with z|z
  subst z;exact⟨t,r⟩;exact lH h a z
theorem D2:∀{fs:List Bool}{as:qah}{ts:List T}{vs:qak}(k:Nat),eL K H A fs as ts vs->(pz fs as k).map (·.2)=as/\∀p∈pz fs as k,k<=p.1/\(ro fs as)[p.1-k]?=some (some p.2)
 |[],as,ts,vs,k,h=>by obtain⟨rfl,rfl,rfl⟩:=h;exact⟨rfl,λ_ z=>nomatch z⟩
 |false::fs,as,ts,vs,k,h=>by
  obtain⟨t,gD,v,eT,rfl,rfl,_,h⟩:=h;obtain⟨h1,h2⟩:=D2 (k+1) h;refine⟨h1,λp hp=>?_⟩;obtain⟨l,e⟩:=h2 p hp;refine⟨by omega,?_⟩;have:p.1-k=(p.1-(k+1))+1:=by omega
  rw[this];simpa[ro] using e
 |true::fs,as,ts,vs,k,h=>by
  obtain⟨a,sN,t,gD,eT,rfl,rfl,rfl,_,h⟩:=h;obtain⟨h1,h2⟩:=D2 (k+1) h;refine⟨by simp[pz,h1],λp hp=>?_⟩;rcases cT.mp hp with z|z
  subst z;exact⟨cU _,by simp[ro]⟩;obtain⟨l,e⟩:=h2 p z;refine⟨by omega,?_⟩;have:p.1-k=(p.1-(k+1))+1:=by omega
  rw[this];simpa[ro] using e
theorem sO{R:Addr->T->Prop}{ρ:En}:∀{fs:List Bool}{as:qah}{ts:List T}{vs:qak}(k:Nat),eL K H A fs as ts vs->(∀p∈pz fs as k,∃t,ρ[p.1]?=some (some (t,true))/\R p.2 t)->Paired R as (jL fs (ρ.drop k))
 |[],as,ts,vs,k,h,_=>by obtain⟨rfl,rfl,rfl⟩:=h;exact .nil
 |false::fs,as,ts,vs,k,h,q=>by obtain⟨t,gD,v,eT,rfl,rfl,_,h⟩:=h;have:=sO (k+1) h q;simp only[jL,List.tail_drop];exact this
 |true::fs,as,ts,vs,k,h,q=>by
  obtain⟨a,sN,t,gD,eT,rfl,rfl,rfl,_,h⟩:=h;have:=sO (ρ:=ρ) (k+1) h λp hp=>q p (d_ _ hp);obtain⟨u,e,r⟩:=q (k,a) cS;have hk:k<ρ.length:=(fG.mp e).1;have e2:ρ[k]=some (u,true):=by rw[m6 hk] at e;exact Option.some.inj e
  rw[V0 hk,e2];exact .cons r this
end
theorem vy{N:qai}{fs:List Bool}{as:qah}{ts:List T}{Q:VK}{q:List T->Rt->Prop}{g:FS}(nd:as.Nodup)(nx:∀a∈as,a∉Ox)(ox:∀a∈Ox,H a≠none)(ha:eL X.K H (as++Ox) fs as ts vs)(kk:∀us r,q us r->∀v H',(∀b o,H b=some o->b∉as->H' b=some o)->So X.K H as Ox H' us r v->Q v H')(hq:g {nx:=λρ=>q (jL fs ρ) (.vw .aQ),rt:=λρ r=>q (jL fs ρ) r} (uF fs ts++List.replicate (N.length-ts.length) none)) :
  lS X ⟨H,pz fs as 0,Ox⟩ [] g {nx:=λ_ H'=>Q .aQ H',rt:=Q} (start N vs) H:=by
 obtain⟨K,eK⟩:∃K,K=X.K:=⟨_,rfl⟩;unfold lS;rw[<- eK] at ha kk ⊢;obtain⟨l1,l2,l3,l4,l5⟩:=eX ha;obtain⟨p1,p2⟩:=D2 0 ha;have ea:av ⟨H,pz fs as 0,Ox⟩ (ro fs as++List.replicate (N.length-ts.length) none)=as++Ox:=by unfold av;rw[dX,l5]
 have acp:∀H0 P (O:HD),av ⟨H0,P,Ox⟩ O=roots O++Ox:=λ_ _ _=>rfl;have I0:aw K ⟨H,pz fs as 0,Ox⟩ [] (ro fs as++List.replicate (N.length-ts.length) none) (uF fs ts++List.replicate (N.length-ts.length) none) (start N vs) H:=by
  refine⟨?_,?_,λi e he=>?_,by rw[dX,l5];exact nd,λa h=>?_,λp hp=>?_,ox,λb o e _=>e,λp hp=>nomatch hp⟩;unfold L2.start;simp[l2,l4,l1];simp[l3,l4];rw[ea];by_cases hi:i<fs.length;rw[qg (by rw[l4];exact hi)] at he;obtain⟨o,s,h1,h2,h3⟩:=oF ha i e he;refine⟨o,s,by rw[qg (by rw[l3];exact hi)];exact h1,?_,h3⟩;unfold L2.start;rw[qg (by rw[cW,l2];exact hi)];exact h2;rw[List.getElem?_append_right (by omega),zy] at he;split at he
  rename_i hl
  cases he;refine⟨none,none,?_,?_,rfl⟩;rw[uI (by omega),zy,if_pos (by rw[l3];rw[l4] at hl;exact hl)];unfold L2.start;rw[uI (by rw[cW];omega),zy,cW,if_pos (by rw[l2];rw[l4,l1] at hl;exact hl)];cases he;rw[dX,l5] at h;obtain⟨t,r⟩:=lH ha a h;exact⟨.inl (by show a∈(pz fs as 0).map (·.2);rw[p1];exact h),nx a h,r.mut⟩;obtain⟨_,e⟩:=p2 p hp;rw[Nat.sub_zero] at e;rw[qg (fG.mp e).1];exact e
 have fin:∀{O:HD}{ρ:En}{σ:St}{H':Hp}{Z':Zc},Z'.P=pz fs as 0->aw K Z' [] O ρ σ H'->Paired (λa u=>cC K H' (av Z' O) a u) as (jL fs ρ):=λ{O ρ σ H' Z'} eP I=>by
  have:=sO (ρ:=ρ) (R:=λa u=>cC K H' (av Z' O) a u) 0 ha λp hp=>?_;rw[List.drop_zero] at this;exact this;have e:=I.par p (by rw[eP];exact hp);have hl:=(fG.mp e).1;have K6:p.1<ρ.length:=by rw[<- I.lO];exact hl
  obtain⟨o,s',h1,h2,h3⟩:=I.sl p.1 ρ[p.1] (by simp);rw[e] at h1;cases h1;cases q:ρ[p.1] with
  |none=>rw[q] at h3;cases h3
  |some tb=>
    obtain⟨t,b⟩:=tb;rw[q] at h3;cases b with
    |false=>cases h3.1
    |true=>obtain⟨a',e1,_,r⟩:=h3;cases e1;exact⟨t,by rw[<- q];simp,r⟩
 have keep:∀{O:HD}{ρ:En}{σ:St}{H':Hp}{Z':Zc},Z'.H0=H->Z'.P=pz fs as 0->aw K Z' [] O ρ σ H'->∀b o,H b=some o->b∉as->H' b=some o:=λe0 eP I b o e n=>I.keep b o (by rw[e0];exact e) (by rw[eP,p1];exact n);have sub:∀{O:HD}{ρ:En}{σ:St}{H':Hp}{Z':Zc},Z'.P=pz fs as 0->aw K Z' [] O ρ σ H'->∀a∈as,a∈roots O:=λeP I a h=>by
  have:a∈(pz fs as 0).map (·.2):=by rw[p1];exact h
  obtain⟨p,hp,rfl⟩:=sh.mp this;exact aG.mpr (fR (I.par p (by rw[eP];exact hp)))
 refine⟨_,_,_,I0,hq,⟨λO ρ σ H' I h=>?_,λO ρ σ H' r v z h=>?_,λ_ _ _ _ _ h=>h.elim,λ_ _ _ _ _ h=>h.elim⟩⟩;have sb:∀a∈as++Ox,a∈av ⟨H,pz fs as 0,Ox⟩ O:=λa h=>by
  rcases cJ.mp h with h|h
  exact cj _ (sub rfl I a h);exact bK _ h
 exact kk _ _ h .aQ H' (keep rfl rfl I) ⟨yh,Paired.m8 (fin rfl I) λ_ _ q=>q.aR sb⟩;cases r with
 |vw t=>
   obtain⟨I,a⟩:=z;have sb:∀a∈as++Ox,a∈av ⟨H,pz fs as 0,Ox⟩ O:=λa h=>by
    rcases cJ.mp h with h|h
    exact cj _ (sub rfl I a h);exact bK _ h
   exact kk _ _ h v H' (keep rfl rfl I) ⟨a.aR sb,Paired.m8 (fin rfl I) λ_ _ q=>q.aR sb⟩
 |fr t=>
   obtain⟨b,rfl,I,hR,h0,hx⟩:=z;have sb:∀a∈b::(as++Ox),a∈av (Zc.ex ⟨H,pz fs as 0,Ox⟩ b) O:=λa h=>by
    rcases cT.mp h with h|h
    rw[h];exact bK _ cS;rcases cJ.mp h with h|h
    exact cj _ (sub rfl I a h);exact bK _ (d_ _ h)
   exact kk _ _ h (.ref b) H' (keep rfl rfl I) ⟨b,rfl,h0,λhb=>(I.own b (sub rfl I b hb)).2.1 cS,hR.aR sb,Paired.m8 (fin rfl I) λ_ _ q=>q.aR sb⟩
section
theorem Zf{st:Stmt}{N:qai}{k:Nat}{fs:List Bool}{G:GT}(F:yd K x qual st f fd)(S:aA N ps (ah st))(Sq:fs.length=ps.length)(cx:∀(bq:Value) (A:Around) (outer:List Env) (s:Shared) (H:Hp) (E:XK) (as Ox:qah),bh k (A.deeper (envOfC qual (ah st) s.heap.objs.size f bq))->∀ts q,ts.length=fs.length->G ts q ->
    ∃g,mG (eR dO P w K mg base N qual (ah st) f bq A outer s H E).nX ⟨H,pz fs as 0,Ox⟩ (bw st) g/\g {nx:=λρ=>q (jL fs ρ) (.vw .aQ),rt:=λρ r=>q (jL fs ρ) r} (uF fs ts++List.replicate (N.length-ts.length) none)) :
  cn P w K mg base dO (k+1) f fd ps (vt K fs G):=by
 refine F.ok S (λvs H Q E h=>?_) (λbq A outer s H vs Q E hr h=>?_);obtain⟨ts,as,Ox,q,_,_,_,ha,_⟩:=h;rw[<- Sq];exact (eX ha).2.1;obtain⟨ts,as,Ox,q,nd,nx,ox,ha,hG,kk⟩:=h;have l1:=(eX ha).1;obtain⟨g,hg,hq⟩:=cx bq A outer s H E as Ox hr ts q l1 hG;exact⟨_,hg [],vy nd nx ox ha kk hq⟩
end
def de(K:qaf)(n:Nat)(G:List T->(Rt->Prop)->Prop):Sp:=vt K (List.replicate n false) λts q=>G ts (q [])
section
variable{A:qah}
theorem eY:∀{n:Nat}{ts:List T}{vs:qak},ts.length=n->ay K H A ts vs->eL K H A (List.replicate n false) [] ts vs
 |0,ts,vs,l,h=>by have e:ts=[]:=UN.mp l;subst e;simp only[ay] at h;exact⟨rfl,rfl,h⟩
 |n+1,ts,vs,l,h=>by
  cases ts with
  |nil=>simp at l
  |cons t ts=>simp only[ay] at h;obtain⟨v,r,rfl,h1,h2⟩:=h;exact⟨t,ts,v,r,rfl,rfl,h1,eY (by simpa using l) h2⟩
end
theorem aw.D3{Z:Zc}{tm:List (T×V)}{ρ:En}(I:aw K Z tm O ρ σ H)(h:H a=none)(s:aK H H'){u:HO}(hu:H' a=some u):aw K (Z.ex a) tm O ρ σ H':=by
 have J:=I.same s;obtain⟨n1,n2,n3⟩:=I.fresh h;have mr:∀b∈av (Z.ex a) O,b∈av Z O\/H b=none:=λb hb=>(dS b hb).imp id λe=>by rw[e];exact h
 have fw:∀{t:T}{v:V},At K H (av Z O) t v->At K H' (av (Z.ex a) O) t v:=λq=>(q.more mr).same s;refine⟨J.lσ,J.lO,λi e hi=>?_,J.nd,λb hb=>?_,J.par,λb hb=>?_,J.keep,λp hp=>fw (I.mD p hp)⟩;obtain⟨o,w,h1,h2,h3⟩:=I.sl i e hi;refine⟨o,w,h1,h2,h3.map (λ_ _ q=>fw q) λb t eo q=>?_⟩;exact cC.same (q.map rfl λ_ _ z=>z.more mr) s;obtain⟨q1,q2,q3⟩:=J.own b hb;refine⟨q1,λz=>?_,q3⟩;rcases cT.mp z with z|z
 exact n1 (by rw[<- z];exact cj _ hb);exact q2 z;rcases cT.mp hb with z|z
 rw[z,hu];simp;exact J.ox b z
def yk(n:Nat)(g:FA)(G:List T->(Rt->Prop)->Prop):FP:=λρ Q=>g ρ λts=>ts.length=n/\G ts Q
noncomputable def NR:Rt->Bool
 |.vw t=>bJ t
 |.fr (.lst ts)=>cb ts
 |_=>false
noncomputable def NS(n:Nat)(g:FA)(G:List T->(Rt->Prop)->Prop):FP:=λρ Q=>g ρ λts=>ts.length=n/\G ts λr=>NR r=true/\Q r
section
variable{Z:Zc}{k:Nat}{G:List T->(Rt->Prop)->Prop}{pos:Pos}{g:FA}
theorem II{tm:List (T×V)}{ρ:En}{ts:List T}{q:Rt->Prop}{Q:VK}(I:aw X.K Z tm O ρ σ H)(a:ay X.K H (av Z O) ts vs)(hn:ts.length=n)(hG:G ts q)(k:∀r,q r->∀v H',aK H H'->fJ X.K Z tm O ρ σ H' r v->Q v H'):de X.K n G (vs++[]) H Q E0:=by
 rw[CO];refine⟨ts,[],av Z O,λ_ r=>q r,G5,λ_ z=>absurd z gg,I.xG,eY hn a,hG,λus r hr v H' fr z=>?_⟩;have s:aK H H':=λb o e=>fr b o e gg;cases r with
 |vw t=>exact k _ hr v H' s ⟨I.same s,z.1⟩
 |fr t=>
  obtain⟨b,rfl,hb,_,hR,_⟩:=z;obtain⟨n1,n2,n3⟩:=I.fresh hb;obtain⟨u,eu,_⟩:=hR.mut;refine k _ hr _ H' s ⟨b,rfl,I.D3 hb s eu,hR.aR λc hc=>?_,n3,n2⟩;rcases dS c hc with z|z
  exact d_ _ z;rw[z];exact cS
theorem z6(F:cn X.prog X.w X.K X.mg X.base dO k f fd ps (de X.K n G))(hr:bh k X.A)(hg:Gl X x)(hm:X.mg x=some (.ref f))(hk:PySem.W.keepIn X.K (.ref f)=true)(hb:Binds X.K fd ps [])(ha:VA X Z (e::es) g)(kf:gp x:=by decide)(he:starEach (e::es) X.env=(false,eval e X.env)::starEach es X.env:=by rfl)(gN:(backTo pos (starEach es X.env)).any (·.1)=false:=by rfl) :
  VP X Z (.Call (.Name x p) (e::es) [] pos) (yk n g G):=.mk λtm=>PE.weak (i' F hr hg hm hk hb .nil jq (ha tm) kf he gN) λσ H Q ⟨ρ,O,q,I,hf,k⟩ =>
 ⟨ρ,O,_,I,hf,λts eF vs H1 s1 a1=>II (I.same s1) a1 eF.1 eF.2 λr hr v H' s z=>k r hr v H' (s1.trans s) z⟩
theorem D4(F:cn X.prog X.w X.K X.mg X.base dO k f fd ps (de X.K n G))(hr:bh k X.A)(hg:Gl X x)(hm:X.mg x=some (.ref f))(hk:PySem.W.keepIn X.K (.ref f)=true)(hb:Binds X.K fd ps [])(ha:Il X Z (e::es) g)(kf:gp x:=by decide)(he:starEach (e::es) X.env=(false,eval e X.env)::starEach es X.env:=by rfl)(gN:(backTo pos (starEach es X.env)).any (·.1)=false:=by rfl) :
  VP X Z (.Call (.Name x p) (e::es) [] pos) (NS n g G):=.mk λtm=>PE.weak (i' F hr hg hm hk hb .nil jq (ha tm) kf he gN) λσ H Q ⟨ρ,O,q,I,hf,k⟩ =>
 ⟨ρ,O,_,I,hf,λts eF vs H1 s1 a1=>by
   show de X.K n G (vs++[]) H1 Q E0;rw[CO];have J:=I.same s1;have a2:ay X.K H1 [] ts vs:=ay.iff.mpr (Paired.m8 a1 λ_ _ z=>z.bare);refine⟨ts,[],[],λ_ r=>NR r=true/\q r,G5,λ_ z=>absurd z gg,λ_ z=>absurd z gg,eY eF.1 a2,eF.2,λus r ⟨hi,hr⟩ v H' fr z=>?_⟩;have s:aK H1 H':=λb o e=>fr b o e gg;cases r with
   |vw t=>exact k _ hr v H' (s1.trans s) ⟨J.same s,At.bJ hi z.1⟩
   |fr t=>
     obtain⟨b,rfl,hb,_,hR,_⟩:=z;obtain⟨n1,n2,n3⟩:=J.fresh hb;obtain⟨u,eu,_⟩:=hR.mut;cases t with
     |lst ts=>obtain⟨ws,e1,e2⟩:=hR;exact k _ hr _ H' (s1.trans s) ⟨b,rfl,J.D3 hb s eu,⟨ws,e1,ay.bJ hi e2⟩,n3,n2⟩
     |_=>exact absurd hi (by simp[NR])⟩
end
def AM(K:qaf)(H:Hp)(A:qah)(O:HD)(ρ:En):List (Option Nat)->List T->qak->Prop
 |[],ts,vs=>ts=[]/\vs=[]
 |none::ms,ts,vs=>∃t gD v eT,ts=t::gD/\vs=v::eT/\At K H A t v/\AM K H A O ρ ms gD eT
 |some k::ms,ts,vs=>∃a t gD eT,ts=t::gD/\vs=.ref a::eT/\ρ[k]?=some (some (t,true))/\O[k]?=some (some a)/\AM K H A O ρ ms gD eT
def Zg(X:Cx)(Z:Zc)(tm:List (T×V))(ms:List (Option Nat))(f:FA):TA:=λσ H Q=>∃ρ O q,aw X.K Z tm O ρ σ H/\f ρ q/\∀ts,q ts->∀vs H',aK H H'->AM X.K H' (av Z O) O ρ ms ts vs->Q vs H'
def VAM(X:Cx)(Z:Zc)(es:qap)(ms:List (Option Nat))(f:FA):Prop:=Bx λtm=>PA X es (Zg X Z tm ms f)
instance{X:Cx}{Z:Zc}{es:qap}{ms:List (Option Nat)}{f:FA}:CoeFun (VAM X Z es ms f) λ_=>∀tm,PA X es (Zg X Z tm ms f):=⟨λh=>Bx.h h⟩
def D5(i:Nat):FE:=λρ Q=>match ρ[i]? with
 |some (some (t,true))=>Q t
 |_=>False
noncomputable def putK:qao->List T->En->En
 |k::ks,u::us,ρ=>putK ks us (ρ.set k (some (u,true)))
 |_,_,ρ=>ρ
theorem oG:∀(ks:qao)(us:List T)(ρ:En),(putK ks us ρ).length=ρ.length
 |[],_,_=>rfl
 |_::_,[],_=>rfl
 |k::ks,u::us,ρ=>by rw[putK,oG];simp
theorem vz:∀{ks:qao}{us:List T}{ρ:En}{i:Nat}{e:Option (T×Bool)},ks.Nodup->ks.length=us.length->(putK ks us ρ)[i]?=some e->(i∉ks/\ρ[i]?=some e)\/∃(j:Nat)(u:T),ks[j]?=some i/\us[j]?=some u/\e=some (u,true)
 |[],us,ρ,i,e,_,_,h=>.inl ⟨gg,h⟩
 |k::ks,[],ρ,i,e,_,l,h=>by simp at l
 |k::ks,u::us,ρ,i,e,nd,l,h=>by
  rw[jh] at nd;rcases vz nd.2 (by simpa using l) (show (putK ks us (ρ.set k (some (u,true))))[i]?=some e from h) with⟨h1,h2⟩|⟨j,u',h1,h2,h3⟩
  rcases get_set h2 with⟨rfl,rfl,_⟩|⟨ne,h2⟩
  exact .inr ⟨0,u,rfl,rfl,rfl⟩;exact .inl ⟨λz=>by rcases cT.mp z with z|z;exact ne z;exact h1 z,h2⟩;exact .inr ⟨j+1,u',by simpa using h1,by simpa using h2,h3⟩
section
variable{A:qah}
theorem At.oH{as:qah}{t:T}(fr:∀b o,H b=some o->b∉as->H' b=some o)(sub:∀a∈as,a∈A)(mu:∀a∈as,∃u,H a=some u/\jk u=true)(h:At K H A t v):At K H' A t v:=by
 refine At.map (λb vs q=>?_) (λb vs q=>?_) (λb aY q=>?_) h;obtain q|q:=q
 refine .inl ⟨?_,q.2⟩;have nb:b∉as:=λz=>q.2 (sub b z);obtain z|⟨o',z⟩:=q.1
 exact .inl (fr _ _ z nb);exact .inr ⟨o',fr _ _ z nb⟩;exact .inr q;obtain z|z:=q
 refine .inl ?_;have nb:b∉as:=λm=>by
  obtain⟨u,eu,mu⟩:=mu b m;obtain z|⟨o',z⟩:=z
  rw[z] at eu;cases eu;cases mu;rw[z] at eu;cases eu;cases mu
 obtain z|⟨o',z⟩:=z
 exact .inl (fr _ _ z nb);exact .inr ⟨o',fr _ _ z nb⟩;exact .inr z;exact⟨fr _ _ q.1 λz=>q.2 (sub b z),q.2⟩
end
section
variable{Z:Zc}{k:Nat}{fs:List Bool}{G:GT}{pos:Pos}{g:FA}{ms:List (Option Nat)}
theorem z7{tm:List (T×V)}{ρ:En}(I:aw K Z tm O ρ σ H)(h1:O[i]?=some (some a))(h2:O[j]?=some (some a)):i=j:=by
 have key:∀(O:HD)(i j:Nat),i<j->O[i]?=some (some a)->O[j]?=some (some a)->(roots O).Nodup->False:=by
  intro O;induction O with
  |nil=>intro i j _ h;simp at h
  |cons o O ih=>
   intro i j Y8 e1 e2 nd;cases j with
   |zero=>omega
   |succ j=>
    have Hb:O[j]?=some (some a):=by simpa using e2
    cases i with
    |zero=>
     have:o=some a:=by simpa using e1
     subst this;simp only[roots,k5,id] at nd;exact (jh.mp nd).1 (aG.mpr (fR Hb))
    |succ i=>
     refine ih i j (by omega) (by simpa using e1) Hb ?_;cases o with
     |none=>simpa[roots] using nd
     |some b=>simp only[roots,k5,id] at nd;exact (jh.mp nd).2
 rcases Nat.lt_trichotomy i j with l|l|l
 exact (key O i j l h1 h2 I.nd).elim;exact l;exact (key O j i l h2 h1 I.nd).elim
theorem dY{α β:Type}{F:α->β->Prop}:∀{l₁:List α}{l₂:List β}{a:α},Paired F l₁ l₂->a∈l₁->∃b∈l₂,F a b
 |_,_,_,.nil,h=>nomatch h
 |_,_,a,.cons r t,h=>by
  rcases cT.mp h with z|z
  subst z;exact⟨_,cS,r⟩;obtain⟨b,h1,h2⟩:=dY t z;exact⟨b,d_ _ h1,h2⟩
theorem oI{α β:Type}{F:α->β->Prop}:∀{l₁:List α}{l₂:List β}{i:Nat}{b:β},Paired F l₁ l₂->l₂[i]?=some b->∃a,l₁[i]?=some a/\F a b
 |_,_,_,_,.nil,e=>by simp at e
 |_,_,0,_,.cons r _,e=>by simp at e;subst e;exact⟨_,rfl,r⟩
 |_,_,i+1,b,.cons _ t,e=>by obtain⟨a,h1,h2⟩:=oI (i:=i) (b:=b) t (by simpa using e);exact⟨a,by simpa using h1,h2⟩
theorem iG{α β:Type}{F:α->β->Prop}:∀{l₁:List α}{l₂:List β}{i:Nat}{a:α},Paired F l₁ l₂->l₁[i]?=some a->∃b,l₂[i]?=some b/\F a b
 |_,_,_,_,.nil,e=>by simp at e
 |_,_,0,_,.cons r _,e=>by simp at e;subst e;exact⟨_,rfl,r⟩
 |_,_,i+1,b,.cons _ t,e=>by obtain⟨a,h1,h2⟩:=iG (i:=i) (a:=b) t (by simpa using e);exact⟨a,by simpa using h1,h2⟩
theorem aw.called{Z':Zc}{tm:List (T×V)}{ρ:En}{as:qah}{ks:qao}{us:List T}(I:aw K Z tm O ρ σ H)(hk:Paired (λa k=>O[k]?=some (some a)) as ks)(nk:ks.Nodup)(fr:∀b o,H b=some o->b∉as->H' b=some o)(hu:Paired (λa u=>cC K H' (av Z' O) a u) as us)(hZ:Z'.H0=Z.H0)(hP:Z'.P=Z.P)(Zh:∀a∈Z'.Ox,a∉roots O/\H' a≠none)(more:∀a∈av Z' O,a∈av Z O\/H a=none):aw K Z' tm O (putK ks us ρ) σ H':=by
 have vA:∀a∈as,a∈roots O:=λa h=>by obtain⟨k,_,e⟩:=dY hk h;exact aG.mpr (fR e)
 have sub:∀a∈as,a∈av Z O:=λa h=>cj _ (vA a h);have Xh:∀a∈as,a∈av Z' O:=λa h=>cj _ (vA a h);have mu:∀a∈as,∃u,H a=some u/\jk u=true:=λa h=>(I.own a (vA a h)).2.2;have fw:∀{t:T}{v:V},At K H (av Z O) t v->At K H' (av Z' O) t v:=λq=>(q.more more).oH fr Xh mu;have fwL:∀{t:List T}{v:qak},ay K H (av Z O) t v->ay K H' (av Z' O) t v:=λq=>ay.iff.mpr (Paired.m8 (ay.iff.mp q) λ_ _ z=>fw z);refine⟨by rw[oG];exact I.lσ,by rw[oG];exact I.lO,λi e h=>?_,I.nd,λb hb=>?_,by rw[hP];exact I.par,λa ha=>(Zh a ha).2,λb o e n=>?_,λp hp=>fw (I.mD p hp)⟩;rcases vz nk (by rw[<- Mq hk,Mq hu]) h with⟨h1,h2⟩|⟨j,u,h1,h2,rfl⟩
 obtain⟨o,s,g1,g2,g3⟩:=I.sl i e h2;refine⟨o,s,g1,g2,g3.map (λ_ _ q=>fw q) λb t eo q=>?_⟩;subst eo;have nb:b∉as:=λm=>by obtain⟨k,nJ,Sr⟩:=dY hk m;exact h1 (by rw[z7 I g1 Sr];exact nJ)
 obtain⟨u,eu,_⟩:=q.mut;exact q.map (by rw[eu];exact fr _ _ eu nb) λ_ _ z=>fwL z;obtain⟨a,ha,r⟩:=oI hu h2;obtain⟨k,nJ,Sr⟩:=iG hk ha;rw[h1] at nJ;cases nJ;have hl:i<ρ.length:=by rw[<- I.lO];exact (fG.mp Sr).1
 obtain⟨o,s,g1,g2,g3⟩:=I.sl i ρ[i] (by simp);rw[Sr] at g1;cases g1;refine⟨some a,s,Sr,g2,a,rfl,?_,r⟩;cases q:ρ[i] with
 |none=>rw[q] at g3;cases g3
 |some tb=>
  obtain⟨t,b⟩:=tb;rw[q] at g3;cases b with
  |false=>cases g3.1
  |true=>obtain⟨a',e1,e2,_⟩:=g3;cases e1;exact e2
 obtain⟨q1,q2,v,e,m⟩:=I.own b hb;refine⟨by rw[hZ,hP];exact q1,λz=>(Zh b z).1 hb,?_⟩;by_cases Zi:b∈as;obtain⟨j,hj⟩:=UI.mp Zi;obtain⟨u,_,r⟩:=iG hu hj;exact r.mut;exact⟨v,fr _ _ e Zi,m⟩;rw[hZ] at e;rw[hP] at n;refine fr _ _ (I.keep b o e n) λm=>?_;rcases (I.own b (vA b m)).1 with z|z
 exact n z;rw[z] at e;cases e
end
section
variable(K:qaf)
theorem vB:PySem.W.kitOne K (.type "int") (.type "int")=some true:=by kernel_rfl
theorem sP:PySem.W.kitOne K (.type "int") (.type "bool")=some false:=by kernel_rfl
theorem vC:PySem.W.kitOne K (.type "int") (.type "str")=some false:=by kernel_rfl
theorem sQ:PySem.W.kitOne K (.type "int") (.type "list")=some false:=by kernel_rfl
theorem qp:PySem.W.kitOne K (.type "int") (.type "tuple")=some false:=by kernel_rfl
theorem sR:PySem.W.kitOne K (.type "bool") (.type "int")=some true:=by kernel_rfl
theorem qq:PySem.W.kitOne K (.type "bool") (.type "bool")=some true:=by kernel_rfl
theorem sS:PySem.W.kitOne K (.type "bool") (.type "str")=some false:=by kernel_rfl
theorem qr:PySem.W.kitOne K (.type "bool") (.type "list")=some false:=by kernel_rfl
theorem oJ:PySem.W.kitOne K (.type "bool") (.type "tuple")=some false:=by kernel_rfl
theorem vD:PySem.W.kitOne K (.type "str") (.type "int")=some false:=by kernel_rfl
theorem sT:PySem.W.kitOne K (.type "str") (.type "bool")=some false:=by kernel_rfl
theorem vE:PySem.W.kitOne K (.type "str") (.type "str")=some true:=by kernel_rfl
theorem sU:PySem.W.kitOne K (.type "str") (.type "list")=some false:=by kernel_rfl
theorem qt:PySem.W.kitOne K (.type "str") (.type "tuple")=some false:=by kernel_rfl
theorem sV:PySem.W.kitOne K (.type "list") (.type "int")=some false:=by kernel_rfl
theorem qu:PySem.W.kitOne K (.type "list") (.type "bool")=some false:=by kernel_rfl
theorem sW:PySem.W.kitOne K (.type "list") (.type "str")=some false:=by kernel_rfl
theorem qv:PySem.W.kitOne K (.type "list") (.type "list")=some true:=by kernel_rfl
theorem oK:PySem.W.kitOne K (.type "list") (.type "tuple")=some false:=by kernel_rfl
theorem qw:PySem.W.kitOne K (.type "tuple") (.type "int")=some false:=by kernel_rfl
theorem oM:PySem.W.kitOne K (.type "tuple") (.type "bool")=some false:=by kernel_rfl
theorem qx:PySem.W.kitOne K (.type "tuple") (.type "str")=some false:=by kernel_rfl
theorem oN:PySem.W.kitOne K (.type "tuple") (.type "list")=some false:=by kernel_rfl
theorem ny:PySem.W.kitOne K (.type "tuple") (.type "tuple")=some true:=by kernel_rfl
theorem sX:PySem.W.kitOne K (.type "dict") (.type "int")=some false:=by kernel_rfl
theorem qy:PySem.W.kitOne K (.type "dict") (.type "bool")=some false:=by kernel_rfl
theorem sY:PySem.W.kitOne K (.type "dict") (.type "str")=some false:=by kernel_rfl
theorem qz:PySem.W.kitOne K (.type "dict") (.type "list")=some false:=by kernel_rfl
theorem oP:PySem.W.kitOne K (.type "dict") (.type "tuple")=some false:=by kernel_rfl
theorem lJ:PySem.W.kitOne K (.type "NoneType") (.type "int")=some false:=by kernel_rfl
theorem kr:PySem.W.kitOne K (.type "NoneType") (.type "bool")=some false:=by kernel_rfl
theorem lK:PySem.W.kitOne K (.type "NoneType") (.type "str")=some false:=by kernel_rfl
theorem ku:PySem.W.kitOne K (.type "NoneType") (.type "list")=some false:=by kernel_rfl
theorem jM:PySem.W.kitOne K (.type "NoneType") (.type "tuple")=some false:=by kernel_rfl
end
def Zj(K:qaf)(H:Hp):V->String->Prop
 |.aQ,t=>t="NoneType"
 |.bl _,t=>t="bool"
 |.int _,t=>t="int"
 |.str _,t=>t="str"
 |.ref a,t=>(t="list"/\∃xs,eU K H a xs)\/(t="tuple"/\∃xs,dD K H a xs)\/(t="dict"/\∃aY,H a=some (.dK aY))
 |_,_=>False
def Ss(K:qaf):qak->Hp->VK->Prop:=λxs H Q=>∃x n t b,xs=[x,.ty n]/\Zj K H x t/\PySem.W.kitOne K (.type t) (.type n)=some b/\Q (.bl b) H
theorem By:dF X (.builtin "isinstance") (Ss X.K):=by
 intro pins s σ H xs us Q I r h;obtain⟨x,n,t,b,rfl,ty,e,q⟩:=h;obtain⟨u,w',rfl,rx,ry⟩:=vals2 r;obtain rfl:w'=Value.type n:=ry;have fin:∀tk,EP X pins σ Q (.bool b) {s with toks:=tk}:=λtk=>⟨.bl b,H,I.tok _,rfl,q⟩;cases x with
 |aQ=>cases (show t=_ from ty);cases (show u=Value.none from rx);exact Mo PySem.W.kitx_none I.qV True.intro e (λz=>nomatch z) fin
 |bl y=>cases (show t=_ from ty);cases (show u=Value.bool y from rx);exact Mo PySem.W.kitx_bool I.qV True.intro e (λz=>nomatch z) fin
 |int i=>cases (show t=_ from ty);obtain⟨t,q⟩:=(show ∃t,u=Value.int i t from rx);cases q;exact Mo PySem.W.kitx_int I.qV True.intro e (λz=>nomatch z) fin
 |str y=>cases (show t=_ from ty);obtain⟨t,q⟩:=(show ∃t,u=Value.str y t from rx);cases q;exact Mo PySem.W.kitx_str I.qV True.intro e (λz=>nomatch z) fin
 |ref a=>
  cases (show u=Value.ref a from rx);obtain⟨rfl,xs,hq⟩|⟨rfl,xs,hq⟩|⟨rfl,aY,hq⟩:=ty
  obtain⟨aM,_,p,_⟩:=I.list hq;obtain⟨o,n',h1,h2,_⟩:=p;exact Mo PySem.W.kitx_list I.qV ⟨o,h1,h2⟩ e (λz=>nomatch z) fin;obtain⟨aM,_,p,_⟩:=I.tuple hq;obtain⟨o,h1,h2,_⟩:=p;exact Mo PySem.W.kitx_tuple I.qV ⟨o,h1,h2⟩ e (λz=>nomatch z) fin;obtain⟨_,_,vs,_,p⟩:=(show cc X.prog X.w H s.heap a (.dK aY) from I.b_ a _ hq);obtain⟨o,es,ep,h1,h2,_⟩:=p;exact Mo PySem.W.kitx_dict I.qV ⟨o,h1,h2.1⟩ e (λz=>nomatch z) fin
 |_=>exact (show False from ty).elim
def isInt:T->Bool
 |.int _=>true
 |.bl _=>true
 |_=>false
def isBool:T->Bool
 |.bl _=>true
 |_=>false
def isStr:T->Bool
 |.str _=>true
 |_=>false
def isList:T->Bool
 |.lst _=>true
 |_=>false
def z8:T->Bool
 |.tup _=>true
 |_=>false
noncomputable def known:T->Bool
 |.dc _ _ _=>false
 |.ins _ _ _=>false
 |.pin _ _=>false
 |.ob _=>false
 |.ty _=>false
 |_=>true
def lL(K:qaf)(n:String)(p:T->Bool):Prop:=∀H A t v,known t=true->iw K H A t v->∃ty,Zj K H v ty/\PySem.W.kitOne K (.type ty) (.type n)=some (p t)
theorem D6:lL K "int" isInt:=by
 intro H A t v hk h;cases t with
 |aQ=>rw[h.aQ];exact⟨_,rfl,lJ K⟩
 |bl b=>rw[h.bl];exact⟨_,rfl,sR K⟩
 |int b=>rw[h.int];exact⟨_,rfl,vB K⟩
 |str b=>rw[h.str];exact⟨_,rfl,vD K⟩
 |tup l=>obtain⟨a,vs,rfl,q,_⟩:=h.tup;exact⟨_,.inr (.inl ⟨rfl,_,q⟩),qw K⟩
 |lst l=>obtain⟨a,vs,rfl,q,_⟩:=h.lst;exact⟨_,.inl ⟨rfl,_,q⟩,sV K⟩
 |dk ks l=>obtain⟨a,vs,rfl,_,q,_⟩:=h.dk;exact⟨_,.inr (.inr ⟨rfl,_,q⟩),sX K⟩
 |_=>simp only[known] at hk;cases hk
theorem Bz:lL K "bool" isBool:=by
 intro H A t v hk h;cases t with
 |aQ=>rw[h.aQ];exact⟨_,rfl,kr K⟩
 |bl b=>rw[h.bl];exact⟨_,rfl,qq K⟩
 |int b=>rw[h.int];exact⟨_,rfl,sP K⟩
 |str b=>rw[h.str];exact⟨_,rfl,sT K⟩
 |tup l=>obtain⟨a,vs,rfl,q,_⟩:=h.tup;exact⟨_,.inr (.inl ⟨rfl,_,q⟩),oM K⟩
 |lst l=>obtain⟨a,vs,rfl,q,_⟩:=h.lst;exact⟨_,.inl ⟨rfl,_,q⟩,qu K⟩
 |dk ks l=>obtain⟨a,vs,rfl,_,q,_⟩:=h.dk;exact⟨_,.inr (.inr ⟨rfl,_,q⟩),qy K⟩
 |_=>simp only[known] at hk;cases hk
theorem eZ:lL K "str" isStr:=by
 intro H A t v hk h;cases t with
 |aQ=>rw[h.aQ];exact⟨_,rfl,lK K⟩
 |bl b=>rw[h.bl];exact⟨_,rfl,sS K⟩
 |int b=>rw[h.int];exact⟨_,rfl,vC K⟩
 |str b=>rw[h.str];exact⟨_,rfl,vE K⟩
 |tup l=>obtain⟨a,vs,rfl,q,_⟩:=h.tup;exact⟨_,.inr (.inl ⟨rfl,_,q⟩),qx K⟩
 |lst l=>obtain⟨a,vs,rfl,q,_⟩:=h.lst;exact⟨_,.inl ⟨rfl,_,q⟩,sW K⟩
 |dk ks l=>obtain⟨a,vs,rfl,_,q,_⟩:=h.dk;exact⟨_,.inr (.inr ⟨rfl,_,q⟩),sY K⟩
 |_=>simp only[known] at hk;cases hk
theorem lN:lL K "list" isList:=by
 intro H A t v hk h;cases t with
 |aQ=>rw[h.aQ];exact⟨_,rfl,ku K⟩
 |bl b=>rw[h.bl];exact⟨_,rfl,qr K⟩
 |int b=>rw[h.int];exact⟨_,rfl,sQ K⟩
 |str b=>rw[h.str];exact⟨_,rfl,sU K⟩
 |tup l=>obtain⟨a,vs,rfl,q,_⟩:=h.tup;exact⟨_,.inr (.inl ⟨rfl,_,q⟩),oN K⟩
 |lst l=>obtain⟨a,vs,rfl,q,_⟩:=h.lst;exact⟨_,.inl ⟨rfl,_,q⟩,qv K⟩
 |dk ks l=>obtain⟨a,vs,rfl,_,q,_⟩:=h.dk;exact⟨_,.inr (.inr ⟨rfl,_,q⟩),qz K⟩
 |_=>simp only[known] at hk;cases hk
theorem c0:lL K "tuple" z8:=by
 intro H A t v hk h;cases t with
 |aQ=>rw[h.aQ];exact⟨_,rfl,jM K⟩
 |bl b=>rw[h.bl];exact⟨_,rfl,oJ K⟩
 |int b=>rw[h.int];exact⟨_,rfl,qp K⟩
 |str b=>rw[h.str];exact⟨_,rfl,qt K⟩
 |tup l=>obtain⟨a,vs,rfl,q,_⟩:=h.tup;exact⟨_,.inr (.inl ⟨rfl,_,q⟩),ny K⟩
 |lst l=>obtain⟨a,vs,rfl,q,_⟩:=h.lst;exact⟨_,.inl ⟨rfl,_,q⟩,oK K⟩
 |dk ks l=>obtain⟨a,vs,rfl,_,q,_⟩:=h.dk;exact⟨_,.inr (.inr ⟨rfl,_,q⟩),oP K⟩
 |_=>simp only[known] at hk;cases hk
noncomputable def Lm(f:FE)(p:T->Bool):FP:=λρ Q=>f ρ λt=>known t=true/\Q (.vw (.bl (p t)))
section
variable{Z:Zc}{a:Expr}{pos p2:Pos}{fa fb Ve:FE}
theorem sZ:bootBuiltins "isinstance"=some (.builtin "isinstance"):=by decide +kernel
theorem bQ{n:String}{q:T->Bool}(hq:lL X.K n q)(hg:Gl X "isinstance")(hm:X.mg "isinstance"=none)(hgy:Gl X y)(hmy:X.mg y=none)(hby:bootBuiltins y=some (.type n))(ha:VR X Z e fa)(hny:y≠"__name__":=by decide)(hdy:gp y:=by decide)(hs:starEach [e,.Name y p2] X.env=(false,eval e X.env)::starEach [.Name y p2] X.env:=by rfl)(qX:starEach [.Name y p2] X.env=(false,eval (.Name y p2) X.env)::starEach [] X.env:=by rfl)(gN:(backTo pos (starEach [.Name y p2] X.env)).any (·.1)=false:=by rfl) :
  VP X Z (.Call (.Name "isinstance" p) [e,.Name y p2] [] pos) (Lm fa q):=.mk λtm=>
 PE.weak (n_ By hg hm sZ (bf (ha tm) (bf (Hx (v:=.ty n) hgy hmy hby rfl hny hdy) cN qX) hs) (by decide) (by decide) hs gN) λσ H Q ⟨ρ,O,q',I,hf,k⟩=>⟨ρ,O,_,I,hf,λt ht v H1 s1 a1=>by obtain⟨ty,h1,h2⟩:=hq H1 _ t v ht.1 a1;exact⟨v,n,ty,_,rfl,h1,h2,k _ ht.2 _ H1 s1 ⟨I.same s1,dP⟩⟩⟩
def jr:T->Bool
 |.aQ=>true
 |.bl _=>true
 |.int _=>true
 |.str _=>true
 |_=>false
def vF:List T->Bool
 |[]=>true
 |t::ts=>jr t && vF ts
noncomputable def IJ(x:T):List T->Bool
 |[]=>false
 |t::ts=>eqT t x || IJ x ts
theorem lQ{K:qaf}{H:Hp}{A:qah}:∀{ts:List T}{vs:qak}{x:T}{v:V},vF ts=true->jr x=true->ay K H A ts vs->At K H A x v->vs.all iA=true/\iA v=true/\U4 v vs=IJ x ts
 |[],vs,x,v,_,fx,h,hx=>by simp only[ay] at h;subst h;refine⟨rfl,?_,rfl⟩;cases x<;>simp only[At] at hx<;>first|(subst hx;rfl)|(simp only[jr] at fx;cases fx)
 |t::ts,vs,x,v,f,fx,h,hx=>by
  simp only[ay] at h;obtain⟨u,r,rfl,h1,h2⟩:=h;simp only[vF,jm] at f;obtain⟨i1,i2,i3⟩:=lQ f.2 fx h2 hx;have ft:iA u=true:=by cases t<;>simp only[At] at h1<;>first|(subst h1;rfl)|(have:=f.1;simp only[jr] at this;cases this)
  have e:Ha u v=eqT t x:=by
   cases t<;>simp only[At] at h1<;>first
    | (have:=f.1;simp only[jr] at this;cases this;done)
    | (subst h1
       cases x<;>simp only[At] at hx<;>first
        | (simp only[jr] at fx;cases fx;done)
        | (subst hx;simp[Ha,eqT];done))
  refine⟨by simp[ft,i1],i2,?_⟩;simp only[IJ,U4,CQ];rw[e]
  congr 1
noncomputable def Su(K:qaf)(neg:Bool):R2:=λx y H Q=>Y1 K neg x y H Q\/∃i j,x=.str i/\y=.str j/\Q (.bl (if neg then !(!(Builtin.Str.occurrences j i 0 j.length 1).isEmpty) else !(Builtin.Str.occurrences j i 0 j.length 1).isEmpty)) H
theorem D7:fU X (compareOp .In) (Su X.K false):=by
 intro pins s σ H x y v u Q I rx ry h;obtain h|⟨i,j,h1,h2,h⟩:=h
 exact Bk pins s σ H x y v u Q I rx ry h;exact Bc pins s σ H x y v u Q I rx ry ⟨i,j,h1,h2,by simpa using h⟩
noncomputable def D8(i j:Str):Bool:=!(Builtin.Str.occurrences j i 0 j.length 1).isEmpty
def Vf(x y:T)(q:Rt->Prop):Prop:=match y with
 |.lst ts=>jr x=true/\vF ts=true/\q (.vw (.bl (IJ x ts)))
 |.tup ts=>jr x=true/\vF ts=true/\q (.vw (.bl (IJ x ts)))
 |.str j=>∃i,x=.str i/\q (.vw (.bl (D8 i j)))
 |_=>False
theorem D9:qo K (Su K false) Vf:=by
 intro Z tm O ρ σ H x y v w q Q I h1 h2 h k;have x1:jr x=true->At K H (av Z O) x v:=λf=>by
  obtain h|⟨a,rfl,h⟩:=h1
  exact h;cases x<;>first|exact h.elim|(simp only[jr] at f;cases f)
 unfold Vf at h;split at h;obtain⟨f1,f2,h⟩:=h;obtain⟨a,vs,rfl,q1,q2⟩:=h2.lst;obtain⟨i1,i2,i3⟩:=lQ f2 f1 q2 (x1 f1);exact .inl ⟨a,vs,rfl,.inl q1,i2,i1,k _ h _ H (aK.refl H) ⟨I,by rw[if_neg eh,i3];exact dP⟩⟩;obtain⟨f1,f2,h⟩:=h;obtain⟨a,vs,rfl,q1,q2⟩:=h2.tup;obtain⟨i1,i2,i3⟩:=lQ f2 f1 q2 (x1 f1);exact .inl ⟨a,vs,rfl,.inr q1,i2,i1,k _ h _ H (aK.refl H) ⟨I,by rw[if_neg eh,i3];exact dP⟩⟩;obtain⟨i,rfl,h⟩:=h;exact .inr ⟨i,_,h1.str,h2.str,k _ h _ H (aK.refl H) ⟨I,by rw[if_neg eh];exact dP⟩⟩;exact h.elim
theorem Sw(ha:VR X Z a fa)(hb:VR X Z b fb)(hm:behindInMarks .In b=false:=by rfl):VP X Z (.Compare a [.In] [b] pos) (f2 fa fb Vf):=DR D7 D9 ha hb hm
theorem vG(ha:VR X Z a fa)(hb:VR X Z b fb)(hm:behindInMarks .In b=false:=by rfl):VC X Z (.Compare a [.In] [b] pos) (lr (f2 fa fb Vf)):=iC D7 D9 ha hb hm
def mK:T->Bool
 |.aQ=>true
 |_=>false
def Xi(x y:T)(q:Rt->Prop):Prop:=match y with
 |.aQ=>q (.vw (.bl (mK x)))
 |_=>False
def yl(x y:T)(q:Rt->Prop):Prop:=match y with
 |.aQ=>q (.vw (.bl (!mK x)))
 |_=>False
theorem z9{A:qah}{t:T}(h:iw K H A t v):decide (v=.aQ)=mK t:=by
 cases t with
 |aQ=>rw[h.aQ];rfl
 |bl b=>rw[h.bl];rfl
 |int b=>rw[h.int];rfl
 |str b=>rw[h.str];rfl
 |ob b=>rw[h.ob];rfl
 |ty b=>have:v=.ty b:=h.elim (λq=>by simpa only[At] using q) λ⟨_,_,q⟩=>q.elim;rw[this];rfl
 |tup l=>obtain⟨a,vs,rfl,_⟩:=h.tup;rfl
 |lst l=>obtain⟨a,vs,rfl,_⟩:=h.lst;rfl
 |dk ks l=>obtain⟨a,vs,rfl,_⟩:=h.dk;rfl
 |dc nh ks l=>obtain⟨a,xs,vs,rfl,_⟩:=h.dc;rfl
 |ins C ns l=>obtain⟨a,dx,vs,rfl,_⟩:=h.ins;rfl
 |pin a t=>have e:v=.ref a:=h.elim (λq=>by simp only[At] at q;exact q.1) λ⟨_,_,q⟩=>q.elim;rw[e];rfl
theorem NT:qo K (λx y H Q=>y=.aQ/\Q (.bl (decide (x=.aQ))) H) Xi:=by intro Z tm O ρ σ H x y v w q Q I h1 h2 h k;unfold Xi at h;split at h;exact⟨h2.aQ,k _ h _ H (aK.refl H) ⟨I,by rw[z9 h1];exact dP⟩⟩;exact h.elim
theorem BA:qo K (λx y H Q=>y=.aQ/\Q (.bl (!decide (x=.aQ))) H) yl:=by intro Z tm O ρ σ H x y v w q Q I h1 h2 h k;unfold yl at h;split at h;exact⟨h2.aQ,k _ h _ H (aK.refl H) ⟨I,by rw[z9 h1];exact dP⟩⟩;exact h.elim
theorem vH(ha:VR X Z a fa)(hb:VR X Z b fb):VC X Z (.Compare a [.Is] [b] pos) (lr (f2 fa fb Xi)):=iC MZ NT ha hb (iy _)
theorem vI(ha:VR X Z a fa)(hb:VR X Z b fb):VC X Z (.Compare a [.IsNot] [b] pos) (lr (f2 fa fb yl)):=iC HG BA ha hb (iy _)
theorem D_{g g':Int->Int->Bool}{tm:List (T×V)}{Q:VK}(h:lP X Z tm (f3 fa fb Ve (R_ g) (R_ g')) σ H Q):Dr (uT λi j=>.bl (g i j)) (uT λi j=>.bl (g' i j)) (lR X Z tm fa) (lR X Z tm fb) (lR X Z tm Ve) σ H Q:=by
 obtain⟨ρ,O,q,I,hf,k⟩:=h;refine⟨ρ,O,_,I,hf,λx hx v H1 s1 a1=>⟨ρ,O,_,I.same s1,hx,λy hy w H2 s2 a2=>?_⟩⟩;have J:=(I.same s1).same s2;unfold R_ at hy;split at hy
 rename_i i j
 refine⟨i,j,(a1.same s2).int,a2.int,_,rfl,?_⟩;cases e:g i j with
 |true=>
  rw[e] at hy;refine Ni ⟨ρ,O,_,J,hy,λz hz w3 H3 s3 a3=>?_⟩;split at hz
  rename_i e1
  cases e1;exact⟨_,_,(a2.same s3).int,a3.int,k _ hz _ H3 ((s1.trans s2).trans s3) ⟨J.same s3,dP⟩⟩;exact hz.elim
 |false=>rw[e] at hy;exact Nh (k _ hy _ H2 (s1.trans s2) ⟨J,dP⟩)
 exact hy.elim
theorem D'{op M6:CmpOp}{g g':Int->Int->Bool}(ho:fU X (compareOp op) (uT λi j=>.bl (g i j)))(jn:fU X (compareOp M6) (uT λi j=>.bl (g' i j)))(ha:VR X Z a fa)(hb:VR X Z b fb)(hc:VR X Z c Ve)(hm:lastMarks [op,M6] [b,c]=false:=by with_unfolding_all rfl):VC X Z (.Compare a [op,M6] [b,c] pos) (lr (f3 fa fb Ve (R_ g) (R_ g'))):=.mk λtm=>PT.weak (Ds ho jn (ha tm) (hb tm) (hc tm) hm) λσ H Q ⟨ρ,O,q,I,hf,k⟩ =>
 D_ ⟨ρ,O,_,I,hf,λt ht u H' s a=>by obtain⟨c,rfl,hc⟩:=yi ht;have e:=a.2;simp only[At] at e;exact⟨c,e,k c hc H' s⟩⟩
def eB(ts:List T):List T:=ts.mapIdx λi t=>.tup [.int (i:Int),t]
def Sx(f:FE):FI:=λρ Q=>f ρ λt=>match t with
 |.lst ts=>Q (eB ts)
 |_=>False
theorem IK{a:Addr}{ts:List T}:Wk K (WX K a) [(.lst ts,.ref a)] (eB ts):=λH A hA h i=>by
 have h:=h _ cS;simp only[At] at h;obtain⟨b,vs,e,l,q⟩:=h;cases e;have hl:=q.length;have hle:(eB ts).length=ts.length:=by unfold eB;rw[List.length_mapIdx]
 rw[hle];refine⟨λhi=>⟨vs,vs[i]'(by omega),l.sq,by simp⟩,λhi=>⟨vs,l.sq,by omega⟩,λt ht x H' y=>?_⟩;obtain⟨p,u,hp,rfl,hu,rfl⟩:=y;unfold eB at ht;rw[UT] at ht;cases e:ts[i]? with
 |none=>rw[e] at ht;cases ht
 |some t'=>rw[e] at ht;cases ht;obtain⟨v,e1,e2⟩:=q.get e;have:=hu vs l.sq;rw[e1] at this;cases this;exact⟨aC hp,cf (dD.of aB) (ay.cons bc (ay.cons (e2.same (aC hp)) ay.nil))⟩
theorem z_{x1}(hg:Gl X "enumerate")(hm:X.mg "enumerate"=none)(ha:VE X Z a fa)(hs:starEach [a] X.env=[(false,eval a X.env)]:=by rfl) :
  VI X Z (.Tuple elts x1 tp) (.Call (.Name "enumerate" p) [a] [] pos) (Sx fa):=.mk λtm=>PI.weak (Ii hg hm (bf (ha tm) cN hs) hs) λσ H R ⟨ρ,O,q,I,hf,k⟩=>⟨ρ,O,_,I,hf,λt ht v H' s a=>by
 split at ht;have a0:=a;simp only[At] at a;obtain⟨p,vs,rfl,l,_⟩:=a;exact⟨p,rfl,⟨vs,l.sq⟩,k _ ht _ H' _ s (λp hp=>by rw[gq.mp hp];exact a0) IK⟩;exact ht.elim⟩
noncomputable def dG:List T->Option (List Bool)
 |[]=>some []
 |.bl b::ts=>(dG ts).map (b::·)
 |_=>none
def intsOf:List T->Option (qan)
 |[]=>some []
 |.int b::ts=>(intsOf ts).map (b::·)
 |_=>none
theorem Ea{K:qaf}{H:Hp}{A:qah}:∀{ts:List T}{bs:List Bool}{vs:qak},dG ts=some bs->ay K H A ts vs->vs=bs.map V.bl
 |[],bs,vs,e,h=>by simp only[dG] at e;cases e;simp only[ay] at h;rw[h];rfl
 |.bl b::ts,bs,vs,e,h=>by
  simp only[dG] at e;cases q:dG ts with
  |none=>rw[q] at e;cases e
  |some cs=>rw[q] at e;cases e;simp only[ay,At] at h;obtain⟨v,r,rfl,rfl,h⟩:=h;rw[Ea q h];rfl
 |.aQ::_,_,_,e,_=>by simp[dG] at e
 |.int _::_,_,_,e,_=>by simp[dG] at e
 |.str _::_,_,_,e,_=>by simp[dG] at e
 |.tup _::_,_,_,e,_=>by simp[dG] at e
 |.lst _::_,_,_,e,_=>by simp[dG] at e
 |.dk _ _::_,_,_,e,_=>by simp[dG] at e
 |.dc _ _ _::_,_,_,e,_=>by simp[dG] at e
 |.ins _ _ _::_,_,_,e,_=>by simp[dG] at e
 |.pin _ _::_,_,_,e,_=>by simp[dG] at e
 |.ob _::_,_,_,e,_=>by simp[dG] at e
 |.ty _::_,_,_,e,_=>by simp[dG] at e
def Sy(ts:List T)(q:Rt->Prop):Prop:=match ts with
 |[.lst l]=>∃bs,dG l=some bs/\q (.vw (.bl (bs.all id)))
 |_=>False
theorem BB:mF K (λxs H Q=>∃(p:Addr)(bs:List Bool),xs=[.ref p]/\eU K H p (bs.map V.bl)/\Q (.bl (bs.all id)) H) Sy:=by intro Z tm O ρ σ H ts vs q Q I h hp k;unfold Sy at hp;split at hp;obtain⟨bs,e,hp⟩:=hp;obtain⟨v,rfl,a⟩:=cR h;obtain⟨p,ws,rfl,q1,q2⟩:=a.lst;rw[Ea e q2] at q1;exact⟨p,bs,rfl,q1,k _ hp _ H (aK.refl H) ⟨I,dP⟩⟩;exact hp.elim
def Ln(ts:List T)(q:Rt->Prop):Prop:=match ts with
 |[.int i]=>q (.vw (.int i))
 |[.bl b]=>q (.vw (.int (if b then 1 else 0)))
 |_=>False
theorem ym:mF K (λxs H Q=>(∃i,xs=[.int i]/\Q (.int i) H)\/∃k,xs=[.bl k]/\Q (.int (if k then 1 else 0)) H) Ln:=by intro Z tm O ρ σ H ts vs q Q I h hp k;unfold Ln at hp;split at hp;obtain⟨v,rfl,a⟩:=cR h;exact .inl ⟨_,by rw[a.int],k _ hp _ H (aK.refl H) ⟨I,bc⟩⟩;obtain⟨v,rfl,a⟩:=cR h;exact .inr ⟨_,by rw[a.bl],k _ hp _ H (aK.refl H) ⟨I,bc⟩⟩;exact hp.elim
def Xj(f:FP)(fb:FE):FP:=λρ Q=>f ρ λr=>match r with
 |.fr (.lst ts)=>fb ρ λy=>match y with
  |.int k=>-(2 ^ 63)<=k/\k<2 ^ 63/\ts.length * k.toNat<=sizeLine/\Q (.fr (.lst (List.replicate k.toNat ts).flatten))
  |_=>False
 |_=>False
theorem ay.rep{K:qaf}{H:Hp}{A:qah}{ts:List T}{vs:qak}(h:ay K H A ts vs):∀k:Nat,ay K H A (List.replicate k ts).flatten (List.replicate k vs).flatten
 |0=>ay.nil
 |k+1=>by rw[C4,C4,Mm,Mm];exact h.append (ay.rep h k)
theorem oQ{f:FP}(ha:VP X Z a f)(hb:VR X Z b fb):VP X Z (.BinOp a .Mult b pos) (Xj f fb):=.mk λtm=>PE.weak (K9 Nd (ha tm) (hb tm)) λσ H Q ⟨ρ,O,q,I,hf,k⟩=>⟨ρ,O,_,I,hf,λr hr v H1 s1 z=>by split at hr;obtain⟨l,rfl,J,⟨xs,e,q1⟩,_⟩:=z;refine⟨ρ,O,_,I.same s1,hr,λy hy w H2 s2 a2=>?_⟩;split at hy;obtain⟨h1,h2,h3,hy⟩:=hy;have q2:ay X.K H2 (av Z O) _ xs:=(q1.same s2).aR gx;exact⟨l,_,xs,rfl,a2.int,s2 _ _ e,h1,h2,by rw[q2.length];exact h3,λp hp=>k _ hy _ _ ((s1.trans s2).trans (aC hp)) (((I.same s1).same s2).nt hp (q2.rep _))⟩;exact hy.elim;exact hr.elim⟩
end
structure Df(K:qaf)(mg:qae)(x:Str)(st:Stmt)(ps:qai)(f:Addr)(fd:FuncData):Prop where
 F:yd K x x st f fd
 m:mg x=some (.ref f)
 b:Binds K fd ps []
def cp(P:Program)(w:World)(K:qaf)(mg:qae)(base:Heap)(x:Str)(ps:qai)(k:Nat)(sp:Sp):Prop :=
 ∃f fd,mg x=some (.ref f)/\PySem.W.keepIn K (.ref f)=true/\Binds K fd ps []/\cn P w K mg base dO k f fd ps sp
theorem Df.gX{st:Stmt}{k:Nat}(D:Df K mg x st ps f fd)(F:cn P w K mg base dO k f fd ps sp):cp P w K mg base x ps k sp :=
 ⟨f,fd,D.m,D.F.kp,D.b,F⟩
theorem mM:bE ⟨H,[],Ox⟩ i:=λ_ z=>nomatch z
section
theorem nz{st:Stmt}{N:qai}{k:Nat}{G:List T->(Rt->Prop)->Prop}(F:yd K x qual st f fd)(S:aA N ps (ah st))(hn:n=ps.length)(cx:∀(bq:Value) (A:Around) (outer:List Env) (s:Shared) (H:Hp) (E:XK) (Ox:qah),bh k (A.deeper (envOfC qual (ah st) s.heap.objs.size f bq))->∀ts q,G ts q ->
    ∃g,mG (eR dO P w K mg base N qual (ah st) f bq A outer s H E).nX ⟨H,[],Ox⟩ (bw st) g/\(ts.length=n->g {nx:=λ_=>q (.vw .aQ),rt:=λ_ r=>q r} (ts.map (λt=>some (t,false))++List.replicate (N.length-ts.length) none))) :
  cn P w K mg base dO (k+1) f fd ps (de K n G):=by
 have hp:∀n (as:qah) k,pz (List.replicate n false) as k=[]:=by
  intro n;induction n with
  |zero=>intro as k;rfl
  |succ n ih=>intro as k;exact ih as (k+1)
 have hfi:∀n (ρ:En),jL (List.replicate n false) ρ=[]:=by
  intro n;induction n with
  |zero=>intro ρ;rfl
  |succ n ih=>intro ρ;exact ih ρ.tail
 have he:∀n (ts:List T),ts.length=n->uF (List.replicate n false) ts=ts.map λt=>some (t,false):=by
  intro n;induction n with
  |zero=>intro ts e;cases ts<;>simp_all [uF]
  |succ n ih=>
    intro ts e;cases ts with
    |nil=>simp at e
    |cons t ts=>rw[C4,uF,ih ts (by simpa using e)];rfl
 refine Zf F S (by rw[KY];exact hn) λbq A outer s H E as Ox hr ts q hl hG=>?_;rw[KY] at hl;obtain⟨g,h1,h2⟩:=cx bq A outer s H E Ox hr ts (q []) hG;refine⟨g,by rw[hp];exact h1,?_⟩;rw[he n ts hl];simp only[hfi];exact h2 hl
end
theorem bh.fM{k:Nat}(r:bh k A):A.units+101<cLine:=by have:=r.un;omega
theorem lT:bootBuiltins "list"=some (.type "list"):=by decide +kernel
theorem dH:bootBuiltins "tuple"=some (.type "tuple"):=by decide +kernel
theorem Sz:bootBuiltins "all"=some (.builtin "all"):=by decide +kernel
theorem SA:bootBuiltins "min"=some (.builtin "min"):=by decide +kernel
theorem Lo:bootBuiltins "int"=some (.type "int"):=by decide +kernel
theorem NU:bootBuiltins "bool"=some (.type "bool"):=by decide +kernel
theorem oR:bootBuiltins "str"=some (.type "str"):=by decide +kernel
theorem nK:∀{fs:List Bool}{as:qah}{k:Nat},∀p∈pz fs as k,k<=p.1/\fs[p.1-k]?=some true
 |[],_,_,p,hp=>nomatch hp
 |false::fs,as,k,p,hp=>by
  obtain⟨h1,h2⟩:=nK (fs:=fs) (as:=as) (k:=k+1) p hp;refine⟨by omega,?_⟩;have:p.1-k=(p.1-(k+1))+1:=by omega
  rw[this];simpa using h2
 |true::fs,a::as,k,p,hp=>by
  rcases cT.mp hp with z|z
  subst z;exact⟨cU _,by simp⟩;obtain⟨h1,h2⟩:=nK (fs:=fs) (as:=as) (k:=k+1) p z;refine⟨by omega,?_⟩;have:p.1-k=(p.1-(k+1))+1:=by omega
  rw[this];simpa using h2
 |true::fs,[],k,p,hp=>by
  obtain⟨h1,h2⟩:=nK (fs:=fs) (as:=[]) (k:=k+1) p hp;refine⟨by omega,?_⟩;have:p.1-k=(p.1-(k+1))+1:=by omega
  rw[this];simpa using h2
theorem gb{fs:List Bool}{as:qah}(h:fs[i]?≠some true):bE ⟨H,pz fs as 0,Ox⟩ i:=λp hp e=>by have:=(nK p hp).2;rw[Nat.sub_zero,e] at this;exact h this
theorem gY(lo:Int)(n:Nat):(rangeT lo n).length=n:=by unfold rangeT;rw[cW,Qk]
theorem yn{lo:Int}{t:T}(h:(rangeT lo n)[i]?=some t):i<n/\t=.int (lo+(i:Int)):=by
 unfold rangeT at h;rw[ij] at h;cases e:(List.range n)[i]? with
 |none=>rw[e] at h;cases h
 |some j=>rw[e] at h;obtain⟨h1,h2⟩:=fG.mp e;rw[List.getElem_range] at h2;rw[Qk] at h1;subst h2;cases h;exact⟨h1,rfl⟩
theorem oS{lo:Int}{h:FG}{g:FS}{d:DY}{ρ:En}(Pv:Nat->En->Prop)(h0:Pv 0 ρ)(hs:∀(i:Nat) ρ',i<n->Pv i ρ'->h (.int (lo+(i:Int))) ρ' λρ2=>g {nx:=Pv (i+1),ct:=Pv (i+1),bk:=d.nx,rt:=d.rt} ρ2)(hd:∀ρ',Pv n ρ'->d.nx ρ'):mJ (rangeT lo n) h g d ρ:=⟨Pv,h0,λi t ρ' e p=>by obtain⟨h1,rfl⟩:=yn e;exact hs i ρ' h1 p,λρ' p=>hd ρ' (by rw[gY] at p;exact p)⟩
theorem Eb{f:α->T}{xs:List α}{h:FG}{g:FS}{d:DY}{ρ:En}(Pv:Nat->En->Prop)(h0:Pv 0 ρ)(hs:∀(i:Nat) x ρ',xs[i]?=some x->Pv i ρ'->h (f x) ρ' λρ2=>g {nx:=Pv (i+1),ct:=Pv (i+1),bk:=d.nx,rt:=d.rt} ρ2)(hd:∀ρ',Pv xs.length ρ'->d.nx ρ'):mJ (xs.map f) h g d ρ:=⟨Pv,h0,λi t ρ' e p=>by
 rw[ij] at e;cases q:xs[i]? with
 |none=>rw[q] at e;cases e
 |some x=>rw[q] at e;cases e;exact hs i x ρ' q p,λρ' p=>hd ρ' (by rw[cW] at p;exact p)⟩
theorem SD{c:Bool}{A:Prop}(hc:c=true)(h:A):if c=true then A else B:=by rw[if_pos hc];exact h
theorem lU{c:Bool}{A:Prop}(hc:c=false)(h:B):if c=true then A else B:=by rw[if_neg (by rw[hc];exact eh)];exact h
theorem ik{c A:Prop}[Decidable c](h1:c->A)(h2:¬ c->B):if decide c=true then A else B:=by by_cases h:c;rw[if_pos (decide_eq_true h)];exact h1 h;rw[if_neg (by rw[decide_eq_false h];exact eh)];exact h2 h
section
variable{s:Shared}
theorem kx{t:Addr}{items:Array Value}{x:Value}(hit:s.heap.IsTupleIter it t i)(ht:s.heap.IsTuple t items)(hx:items[i]?=some x)(hQ:∀h',h'.IsTupleIter it t (i+1)->Heap.SameBut it s.heap h'->Q x {s with heap:=h'}):wpAny (model prog w) A (Builtin.SmallTypes.nextOf (.ref it)) Q E s:=by
 obtain⟨o,ho,hc,hd⟩:=id hit;obtain⟨ol,Xk,_,nl,Vg⟩:=ht;unfold Builtin.SmallTypes.nextOf;refine wpAny_bind (wpAny_callSpecial?_slot (name:=Str.ofString "__next__") hit.typeIs KR
  (wpAny_call_entry KR hit.typeIs UK ?_ (UJ _)))
 show wpAny _ _ (field (.ref it) 0 >>= _) _ _ s;refine wpAny_bind (wpAny_field ho hd (x:=.ref t) rfl ?_);show wpAny _ _ (if (Value.ref t==Value.none)=true then _ else _) _ _ s;rw[if_neg (show ¬ ((Value.ref t==Value.none)=true) from eh)];show wpAny _ _ (field (.ref it) 1 >>= _) _ _ s;refine wpAny_bind (wpAny_field ho hd (x:=.int i 0) rfl ?_);show wpAny _ _ (seqItems? (.ref t) >>= _) _ _ s;refine wpAny_bind (wpAny_seqItems Xk Vg ?_);simp only[A2,hx];refine wpAny_bind (wpAny_setField ho hd (by simp) (wpAny_pure ⟨x,rfl,wpAny_pure (hQ _ ?_ (UW ..))⟩));exact⟨_,Heap.get?_update_self _ ho (Obj.isFreed_of_fields (UY hd _)),(Obj.cls_mapFields ..).trans hc,by
  rw[UY hd];simp[rawInt]⟩
theorem lV{t:Addr}{items:Array Value}(hh:A.handled=none)(hit:s.heap.IsTupleIter it t i)(ht:s.heap.IsTuple t items)(hx:items[i]?=none)(hE:∀h' e,Heap.ExtBut it s.heap h'->(∃o,h'.get? e=some o/\o.cls=.type "StopIteration")->E (.ref e) {s with heap:=h'}):wpAny (model prog w) A (Builtin.SmallTypes.nextOf (.ref it)) Q E s:=by
 obtain⟨o,ho,hc,hd⟩:=id hit;obtain⟨ol,Xk,_,nl,Vg⟩:=ht;unfold Builtin.SmallTypes.nextOf;refine wpAny_bind (wpAny_callSpecial?_slot (name:=Str.ofString "__next__") hit.typeIs KR
  (wpAny_call_entry KR hit.typeIs UK ?_ (UJ _)))
 show wpAny _ _ (field (.ref it) 0 >>= _) _ _ s;refine wpAny_bind (wpAny_field ho hd (x:=.ref t) rfl ?_);show wpAny _ _ (if (Value.ref t==Value.none)=true then _ else _) _ _ s;rw[if_neg (show ¬ ((Value.ref t==Value.none)=true) from eh)];show wpAny _ _ (field (.ref it) 1 >>= _) _ _ s;refine wpAny_bind (wpAny_field ho hd (x:=.int i 0) rfl ?_);show wpAny _ _ (seqItems? (.ref t) >>= _) _ _ s;refine wpAny_bind (wpAny_seqItems Xk Vg ?_);simp only[A2,hx];refine wpAny_bind (wpAny_rule (wpAny_bind (wpAny_setField ho hd (by simp) ?_)));show wpAny _ _ (newExc (.type "StopIteration") [] >>= _) _ _ _;refine wpAny_bind ?_;simp only[newExc,newTuple];refine wpAny_bind (wpAny_newObj_type ?_ (by size_fits));refine wpAny_bind (m:=firstArgMember _ _) (wpAny_of_eq (a:=Value.none) (by first|rfl|(simp only[firstArgMember];rfl)) ?_);refine wpAny_newObj_type ?_ (by size_fits);simp only[raiseNew];refine wpAny_bind (wpAny_handled ?_)
 first|rw[show A.in1.handled=none from hh]|rw[hh]
 refine wpAny_bind (wpAny_pure (wpAny_throw ?_));exact hE _ _ (((UW ..).extBut.push _).push _) ⟨_,k6 _ rfl,rfl⟩
end
structure Part(prog:Program)(w:World)(i:Addr)(fp:qah)(n:Nat)(Pv:Nat->Value->Prop)(st:Nat->Heap->Prop):Prop where
 draws:∀A:Around,A.handled=none->Draws prog w A i fp n Pv st
 mem:i∈fp
 fld:∀k h,st k h->∃o vs,h.get? i=some o/\o.data=.fields vs
theorem BC(it l:Addr)(eW:l≠it)(items:Array Value):Part prog w it [it,l] items.size (λi v=>items[i]?=some v) (λi h=>h.IsListIter it l i/\h.IsList l items) :=
 ⟨λA hh=>Draws.list hh it l eW items,by simp,λk h st=>let ⟨⟨o,e,_,d⟩,_⟩:=st;⟨o,_,e,d⟩⟩
theorem yo(it l:Addr)(eW:l≠it)(items:Array Value):Part prog w it [it,l] items.size (λi v=>items[i]?=some v) (λi h=>h.IsTupleIter it l i/\h.IsTuple l items) :=
 ⟨λA hh=>{live:=λ_ _ st=>let ⟨o,ho,_⟩:=st.1;⟨o,ho⟩,frame:=λ_ _ _ st hk=>⟨let ⟨o,ho,r⟩:=st.1;⟨o,hk it (by simp) o ho,r⟩,let ⟨o,ho,r⟩:=st.2;⟨o,hk l (by simp) o ho,r⟩⟩,item:=λi s Q E hi st hQ=>kx st.1 st.2 (x:=items[i]) (by simp[hi]) λh' Xl NV=>hQ _ h' s.toks (by simp[hi]) ⟨Xl,st.2.extBut NV.extBut eW⟩ NV,done:=λs Q E st hE=>lV hh st.1 st.2 (by simp) hE},by simp,λk h st=>let ⟨⟨o,e,_,d⟩,_⟩:=st;⟨o,_,e,d⟩⟩
theorem Ec(it:Addr)(x:Str)(t:Tok):Part prog w it [it] x.cps.size (λi v=>∃c u,x.cps[i]?=some c/\v=.str ⟨#[c]⟩ u) (λi h=>h.IsStrIter it (strIterType x) x t i):=by
 rcases di x with z|z
 rw[z];exact⟨λA hh=>Draws.strAscii hh it x t,by simp,λk h st=>let ⟨o,e,_,d⟩:=st;⟨o,_,e,d⟩⟩;rw[z];exact⟨λA hh=>Draws.strWide hh it x t,by simp,λk h st=>let ⟨o,e,_,d⟩:=st;⟨o,_,e,d⟩⟩
structure Apart(z TI TO i1 i2:Addr)(oU nL:qah):Prop where
 TIz:TI≠z
 TOz:TO≠z
 i1z:i1≠z
 i2z:i2≠z
 TITO:TI≠TO
 TIi1:TI≠i1
 TIi2:TI≠i2
 TOi1:TO≠i1
 TOi2:TO≠i2
 i12:i1≠i2
 z1:z∉oU
 z2:z∉nL
 O1:TO∉oU
 O2:TO∉nL
 x1:i2∉oU
 x2:i1∉nL
section
variable{s:Shared}{z TI TO i1 i2:Addr}{oU nL:qah}{n1 n2:Nat}{P1 P2:Nat->Value->Prop}{S1 S2:Nat->Heap->Prop}
theorem Ed{k:Nat}{a b:Value}(hh:A.handled=none)(D:Apart z TI TO i1 i2 oU nL)(p1:Part prog w i1 oU n1 P1 S1)(p2:Part prog w i2 nL n2 P2 S2)(hz:IsZip s.heap z TI TO .none)(IL:IsPair s.heap TI (.ref i1) (.ref i2))(IM:IsPair s.heap TO a b)(h1:S1 k s.heap)(h2:S2 k s.heap)(hx:k<n1)(hy:k<n2)(hQ:∀x y h' tk,P1 k x->P2 k y->IsZip h' z TI TO (rawInt s.heap.objs.size)->IsPair h' TO x y->S1 (k+1) h'->S2 (k+1) h'->IsPair h' s.heap.objs.size x y->h'.objs.size=s.heap.objs.size+1 ->
    (∀c o,c≠z->c≠TO->c≠i1->c≠i2->s.heap.get? c=some o->h'.get? c=some o)->Q (.ref s.heap.objs.size) {s with heap:=h',toks:=tk}) :
  wpAny (model prog w) A (Builtin.«zip.__next__» ⟨[.ref z],[]⟩) (λfin s'=>∃v,fin=.done (.ret v)/\Q v s') E s:=by
 show wpAny _ _ (field (.ref z) 2 >>= _) _ _ _;refine wpAny_bind (wpAny_field hz rfl (x:=.bool false) rfl ?_);show wpAny _ _ (field (.ref z) 3 >>= _) _ _ _;refine wpAny_bind (wpAny_field hz rfl (x:=.ref TI) rfl ?_);refine wpAny_bind (wpAny_seqItems IL rfl ?_);show wpAny _ _ (Builtin.SmallTypes.ownedTupleIsFree (.ref z) >>= _) _ _ _;refine wpAny_bind ?_;unfold Builtin.SmallTypes.ownedTupleIsFree;refine wpAny_bind (wpAny_field hz rfl (x:=.none) rfl (wpAny_pure ?_));simp only[if_true];refine wpAny_bind (wpAny_rule ?_);refine wpAny_bind (wpAny_field hz rfl (x:=.ref TO) rfl ?_);refine wpAny_bind (wpAny_setField_rec hz (by simp) λh₁ CZ C2=>?_)
 replace CZ:IsZip h₁ z TI TO .ellipsis:=CZ
 refine wpAny_bind ?_;simp only[List.zipIdx_cons,List.zipIdx_nil,List.forIn_cons,List.forIn_nil];have f1:∀{m h h' c},c∉oU->S1 m h->Heap.SameBut c h h'->S1 m h':=λ{m h h' c} hc st sb=>(p1.draws A hh).frame m h h' st λb hb o e=>sb.extBut b o (λq=>hc (q▸hb)) e;have f2:∀{m h h' c},c∉nL->S2 m h->Heap.SameBut c h h'->S2 m h':=λ{m h h' c} hc st sb=>(p2.draws A hh).frame m h h' st λb hb o e=>sb.extBut b o (λq=>hc (q▸hb)) e;refine wpAny_bind (wpAny_bind (wpAny_onRaise ?_));show wpAny _ _ (Builtin.SmallTypes.nextOf (.ref i1) >>= _) _ _ _;refine wpAny_bind ((p1.draws _ hh).item k _ _ _ hx (f1 D.z1 h1 C2) λx h₂ tk₂ px Zk ou=>wpAny_pure ?_)
 replace ou:Heap.SameBut i1 h₁ h₂:=ou
 have Ee:IsPair h₂ TO a b:=ou.extBut _ _ D.TOi1 (C2.extBut _ _ D.TOz IM);refine wpAny_bind (wpAny_seqItems Ee rfl ?_);refine wpAny_bind (wpAny_updateSeq_pair Ee λh₃ IP xH=>?_)
 replace IP:IsPair h₃ TO x b:=IP
 replace xH:Heap.SameBut TO h₂ h₃:=xH
 refine wpAny_bind (wpAny_letGo (wpAny_pure ?_));refine wpAny_bind (wpAny_bind (wpAny_onRaise ?_));show wpAny _ _ (Builtin.SmallTypes.nextOf (.ref i2) >>= _) _ _ _;refine wpAny_bind ((p2.draws _ hh).item k _ _ _ hy (f2 D.O2 (f2 D.x2 (f2 D.z2 h2 C2) ou) xH) λy h₄ tk₄ py h2₄ He=>wpAny_pure ?_)
 replace He:Heap.SameBut i2 h₃ h₄:=He
 have SE:IsPair h₄ TO x b:=He.extBut _ _ D.TOi2 IP;refine wpAny_bind (wpAny_seqItems SE rfl ?_);refine wpAny_bind (wpAny_updateSeq_pair SE λh₅ IQ Hg=>?_)
 replace IQ:IsPair h₅ TO x y:=IQ
 replace Hg:Heap.SameBut TO h₄ h₅:=Hg
 refine wpAny_bind (wpAny_letGo (wpAny_pure (wpAny_pure ?_)));refine wpAny_bind (wpAny_seqItems IQ rfl ?_);refine wpAny_bind (wpAny_newTuple ?_);have hsz:h₅.objs.size=s.heap.objs.size:=by rw[Hg.1,He.1,xH.1,ou.1,C2.1]
 have Zl:IsZip h₅ z TI TO .ellipsis:=Hg.extBut _ _ D.TOz.symm (He.extBut _ _ D.i2z.symm (xH.extBut _ _ D.TOz.symm (ou.extBut _ _ D.i1z.symm CZ)));have hk₅:∀c o,c≠z->c≠TO->c≠i1->c≠i2->s.heap.get? c=some o->h₅.get? c=some o:=λc o c1 c2 c3 c4 e=>
  Hg.extBut _ _ c2 (He.extBut _ _ c4 (xH.extBut _ _ c2 (ou.extBut _ _ c3 (C2.extBut _ _ c1 e))))
 have h1₅:S1 (k+1) h₅:=f1 D.O1 (f1 D.x1 (f1 D.O1 Zk xH) He) Hg;have h2₅:S2 (k+1) h₅:=f2 D.O2 h2₄ Hg;have SF:z<h₅.objs.size:=fF Zl;show wpAny _ _ (Builtin.SmallTypes.ownedTupleHandOut (.ref z) (.ref h₅.objs.size) >>= _) _ _ _;refine wpAny_bind ?_;unfold Builtin.SmallTypes.ownedTupleHandOut;have hz₆:IsZip (h₅.push {cls:=.type "tuple",data:=.seq #[x,y]}) z TI TO .ellipsis:=fE _ Zl;refine wpAny_bind (wpAny_setField_rec hz₆ (by simp) λh₇ Xm Xn=>?_)
 replace Xm:IsZip h₇ z TI TO (rawInt h₅.objs.size):=Xm
 refine wpAny_setField_rec Xm (by simp) λh₈ Vh Xo=>?_
 replace Vh:IsZip h₈ z TI TO (rawInt h₅.objs.size):=Vh
 have up:∀c o,c≠z->h₅.get? c=some o->h₈.get? c=some o:=λc o c1 e=>Xo.extBut _ _ c1 (Xn.extBut _ _ c1 (fE _ e));have Zm:IsPair h₈ h₅.objs.size x y:=Xo.extBut _ _ (CS SF) (Xn.extBut _ _ (CS SF) (k6 _ rfl));have Zn:h₈.objs.size=h₅.objs.size+1:=by rw[Xo.1,Xn.1,C9]
 have h1₈:S1 (k+1) h₈:=(p1.draws A hh).frame _ _ _ h1₅ λb hb o e=>up b o (λq=>D.z1 (q▸hb)) e;have h2₈:S2 (k+1) h₈:=(p2.draws A hh).frame _ _ _ h2₅ λb hb o e=>up b o (λq=>D.z2 (q▸hb)) e;rw[hsz] at Vh Zm Zn;refine wpAny_pure ⟨_,rfl,?_⟩;show Q (.ref h₅.objs.size) _;rw[hsz];exact hQ x y h₈ tk₄ px py Vh (up _ _ D.TOz IQ) h1₈ h2₈ Zm Zn λc o c1 c2 c3 c4 e=>up c o c1 (hk₅ c o c1 c2 c3 c4 e)
theorem IS{k:Nat}{a b:Value}{Q:PySem.Fin->Shared->Prop}(hh:A.handled=none)(D:Apart z TI TO i1 i2 oU nL)(p1:Part prog w i1 oU n1 P1 S1)(p2:Part prog w i2 nL n2 P2 S2)(hz:IsZip s.heap z TI TO .none)(IL:IsPair s.heap TI (.ref i1) (.ref i2))(IM:IsPair s.heap TO a b)(h1:S1 k s.heap)(h2:S2 k s.heap)(NW:k=n1\/(k<n1/\k=n2))(hE:∀h' tk e,(∀c o,c≠z->c≠TO->c≠i1->c≠i2->s.heap.get? c=some o->h'.get? c=some o)->(∃o,h'.get? e=some o/\o.cls=.type "StopIteration")->E (.ref e) {s with heap:=h',toks:=tk}) :
  wpAny (model prog w) A (Builtin.«zip.__next__» ⟨[.ref z],[]⟩) Q E s:=by
 have f1:∀{m h h' c},c∉oU->S1 m h->Heap.SameBut c h h'->S1 m h':=λ{m h h' c} hc st sb=>(p1.draws A hh).frame m h h' st λb hb o e=>sb.extBut b o (λq=>hc (q▸hb)) e;have f2:∀{m h h' c},c∉nL->S2 m h->Heap.SameBut c h h'->S2 m h':=λ{m h h' c} hc st sb=>(p2.draws A hh).frame m h h' st λb hb o e=>sb.extBut b o (λq=>hc (q▸hb)) e;show wpAny _ _ (field (.ref z) 2 >>= _) _ _ _;refine wpAny_bind (wpAny_field hz rfl (x:=.bool false) rfl ?_);show wpAny _ _ (field (.ref z) 3 >>= _) _ _ _;refine wpAny_bind (wpAny_field hz rfl (x:=.ref TI) rfl ?_);refine wpAny_bind (wpAny_seqItems IL rfl ?_);show wpAny _ _ (Builtin.SmallTypes.ownedTupleIsFree (.ref z) >>= _) _ _ _;refine wpAny_bind ?_;unfold Builtin.SmallTypes.ownedTupleIsFree;refine wpAny_bind (wpAny_field hz rfl (x:=.none) rfl (wpAny_pure ?_));simp only[if_true];refine wpAny_bind (wpAny_rule ?_);refine wpAny_bind (wpAny_field hz rfl (x:=.ref TO) rfl ?_);refine wpAny_bind (wpAny_setField_rec hz (by simp) λh₁ CZ C2=>?_)
 replace CZ:IsZip h₁ z TI TO .ellipsis:=CZ
 refine wpAny_bind ?_;simp only[List.zipIdx_cons,List.zipIdx_nil,List.forIn_cons,List.forIn_nil];refine wpAny_bind (wpAny_bind (wpAny_onRaise ?_));show wpAny _ _ (Builtin.SmallTypes.nextOf (.ref i1) >>= _) _ _ _;obtain rfl|⟨gQ,rfl⟩:=NW
 . refine wpAny_bind ((p1.draws _ hh).done _ _ _ (f1 D.z1 h1 C2) λh₂ e ou he=>?_);obtain⟨oe,NX,Aa⟩:=he;have Vi:IsZip h₂ z TI TO .ellipsis:=ou _ _ D.i1z.symm CZ;have Xp:e≠z:=λx=>by subst x;rw[Vi] at NX;cases NX;simp at Aa
   refine wpAny_setField_rec Vi (by simp) λh₃ _ xH=>hE h₃ _ e (λc o c1 _ c3 _ x=>xH.extBut _ _ c1 (ou _ _ c3 (C2.extBut _ _ c1 x))) ⟨oe,xH.extBut _ _ Xp NX,Aa⟩
 . refine wpAny_bind ((p1.draws _ hh).item k _ _ _ gQ (f1 D.z1 h1 C2) λx h₂ tk₂ px Zk ou=>wpAny_pure ?_)
   replace ou:Heap.SameBut i1 h₁ h₂:=ou
   have Ee:IsPair h₂ TO a b:=ou.extBut _ _ D.TOi1 (C2.extBut _ _ D.TOz IM);refine wpAny_bind (wpAny_seqItems Ee rfl ?_);refine wpAny_bind (wpAny_updateSeq_pair Ee λh₃ IP xH=>?_)
   replace xH:Heap.SameBut TO h₂ h₃:=xH
   refine wpAny_bind (wpAny_letGo (wpAny_pure ?_));refine wpAny_bind (wpAny_bind (wpAny_onRaise ?_));show wpAny _ _ (Builtin.SmallTypes.nextOf (.ref i2) >>= _) _ _ _;refine wpAny_bind ((p2.draws _ hh).done _ _ _ (f2 D.O2 (f2 D.x2 (f2 D.z2 h2 C2) ou) xH) λh₄ e He he=>?_);obtain⟨oe,NX,Aa⟩:=he;have Zo:IsZip h₄ z TI TO .ellipsis:=He _ _ D.i2z.symm (xH.extBut _ _ D.TOz.symm (ou.extBut _ _ D.i1z.symm CZ));have Xp:e≠z:=λx=>by subst x;rw[Zo] at NX;cases NX;simp at Aa
   refine wpAny_setField_rec Zo (by simp) λh₅ _ Hg=>hE h₅ _ e (λc o c1 c2 c3 c4 x=>Hg.extBut _ _ c1 (He _ _ c4 (xH.extBut _ _ c2 (ou.extBut _ _ c3 (C2.extBut _ _ c1 x))))) ⟨oe,Hg.extBut _ _ Xp NX,Aa⟩
theorem nA{k:Nat}{a b:Value}{Q:(Option Value)->Shared->Prop}(hh:A.handled=none)(D:Apart z TI TO i1 i2 oU nL)(p1:Part prog w i1 oU n1 P1 S1)(p2:Part prog w i2 nL n2 P2 S2)(hz:IsZip s.heap z TI TO .none)(IL:IsPair s.heap TI (.ref i1) (.ref i2))(IM:IsPair s.heap TO a b)(h1:S1 k s.heap)(h2:S2 k s.heap)(hx:k<n1)(hy:k<n2)(hQ:∀x y h' tk,P1 k x->P2 k y->IsZip h' z TI TO (rawInt s.heap.objs.size)->IsPair h' TO x y->S1 (k+1) h'->S2 (k+1) h'->IsPair h' s.heap.objs.size x y->h'.objs.size=s.heap.objs.size+1 ->
    (∀c o,c≠z->c≠TO->c≠i1->c≠i2->s.heap.get? c=some o->h'.get? c=some o)->Q (some (.ref s.heap.objs.size)) {s with heap:=h',toks:=tk}):wpAny (model prog w) A (pyNext (.ref z)) Q E s:=by
 have hT:s.TypeIs (.ref z) "zip":=⟨_,hz,rfl⟩;unfold pyNext;exact wpAny_bind (wpAny_attempt (wpAny_callSpecial?_slot (name:=Str.ofString "__next__") hT F.slot_zip_next
  (wpAny_call_entry F.slot_zip_next hT F.entry_zip_next
    (Ed hh D p1 p2 hz IL IM h1 h2 hx hy λx y h' tk q1 q2 a1 a2 a3 a4 a5 a6 a7=>wpAny_pure (hQ x y h' tk q1 q2 a1 a2 a3 a4 a5 a6 a7)) (F.args_zip_next_1 _))))
theorem oW{k:Nat}{a b:Value}{Q:(Option Value)->Shared->Prop}(hh:A.handled=none)(D:Apart z TI TO i1 i2 oU nL)(p1:Part prog w i1 oU n1 P1 S1)(p2:Part prog w i2 nL n2 P2 S2)(hz:IsZip s.heap z TI TO .none)(IL:IsPair s.heap TI (.ref i1) (.ref i2))(IM:IsPair s.heap TO a b)(h1:S1 k s.heap)(h2:S2 k s.heap)(NW:k=n1\/(k<n1/\k=n2))(hQ:∀h' tk,(∀c o,c≠z->c≠TO->c≠i1->c≠i2->s.heap.get? c=some o->h'.get? c=some o)->Q none {s with heap:=h',toks:=tk}):wpAny (model prog w) A (pyNext (.ref z)) Q E s:=by
 have hT:s.TypeIs (.ref z) "zip":=⟨_,hz,rfl⟩;unfold pyNext;refine wpAny_bind (wpAny_attempt (wpAny_callSpecial?_slot (name:=Str.ofString "__next__") hT F.slot_zip_next
  (wpAny_call_entry F.slot_zip_next hT F.entry_zip_next (IS hh D p1 p2 hz IL IM h1 h2 NW λh' tk e hk he=>?_) (F.args_zip_next_1 _))))
 obtain⟨o,ho,hc⟩:=he;refine wpAny_bind (wpAny_isInstance (T:="StopIteration") (b:=true) ⟨o,ho,hc⟩ isSubtype_stop ?_);exact wpAny_pure (hQ _ _ hk)
end
def uG(i:Int):Prop:=i.natAbs<2 ^ 2000
theorem uG.of{i:Int}(h1 : -(10 ^ 200)<=i)(h2:i<=10 ^ 200):uG i:=by
 unfold uG;have e:(10:Nat) ^ 200<2 ^ 2000:=by decide
 have:i.natAbs<=10 ^ 200:=by
  have e2:((10 ^ 200:Nat):Int)=(10:Int) ^ 200:=by rw[Int.natCast_pow];rfl
  generalize (10:Nat) ^ 200=m at *;rw[<- e2] at h1 h2;omega
 exact Nat.lt_of_le_of_lt this e
theorem uG.bits{i:Int}(h:uG i):Builtin.Int.intBits i<=2000:=by
 unfold Builtin.Int.intBits;split;exact ji _;have:i.natAbs.log2<2000:=by
  rcases Nat.eq_zero_or_pos i.natAbs with h0|hp
  rw[h0];decide;exact (Nat.log2_lt (CS hp)).mpr h
 omega
def Lp(i j:Int):Prop:=uG i/\uG j
def Lq(i j:Int):Prop:=0<=j/\j<=1000/\uG i
section
theorem IT:fU X (binaryOp .Mult) (rI Lp λi j=>.int (i * j)):=Qo λ_ _ _ _ _ _ _ hc q=>
 mul_int q (IntMulOk.of_bits (m7 hc.1.bits (by decide)) (m7 hc.2.bits (by decide)))
theorem IU:fU X (binaryOp .Pow) (rI Lq λi j=>.int (i ^ j.toNat)):=Qo λi j _ _ _ _ _ hc q=>pow_int hc.1 (by
 have h1:=hc.2.2.bits;have h2:=hc.2.1;have h0:=hc.1;have e:(2:Int) ^ 27=134217728:=by decide
 have:(Builtin.Int.intBits i:Int) * j<=2000 * 1000:=Int.mul_le_mul (by omega) h2 h0 (by decide);omega) q
end
def Ef(x y:T)(q:Rt->Prop):Prop:=match x,y with
 |.int i,.int j=>(uG i/\uG j)/\q (.vw (.int (i * j)))
 |_,_=>False
theorem Eg:qo K (rI Lp λi j=>.int (i * j)) Ef:=by intro Z tm O ρ σ H x y v w q Q I h1 h2 h k;unfold Ef at h;split at h;exact⟨_,_,h1.int,h2.int,h.1,k _ h.2 _ H (aK.refl H) ⟨I,bc⟩⟩;exact h.elim
def Eh(x y:T)(q:Rt->Prop):Prop:=match x,y with
 |.int i,.int j=>(0<=j/\j<=1000/\uG i)/\q (.vw (.int (i ^ j.toNat)))
 |_,_=>False
theorem Ei:qo K (rI Lq λi j=>.int (i ^ j.toNat)) Eh:=by intro Z tm O ρ σ H x y v w q Q I h1 h2 h k;unfold Eh at h;split at h;exact⟨_,_,h1.int,h2.int,h.1,k _ h.2 _ H (aK.refl H) ⟨I,bc⟩⟩;exact h.elim
section
variable{Z:Zc}{a:Expr}{fa fb:FE}{pos:Pos}
theorem Ab(ha:VR X Z a fa)(hb:VR X Z b fb):VP X Z (.BinOp a .Mult b pos) (f2 fa fb Ef):=iB IT Eg ha hb
theorem s_(ha:VR X Z a fa)(hb:VR X Z b fb):VP X Z (.BinOp a .Pow b pos) (f2 fa fb Eh):=iB IU Ei ha hb
end
def iH(v:Value)(o:Obj)(c:Heap->Prop):Prop:=∀(prog:Program)(w:World)(A:Around)(E:qad)(s:Shared)(Q:qad),c s.heap ->
 Q (.ref s.heap.objs.size) {s with heap:=s.heap.push o}->wpAny (model prog w) A (pyIter v) Q E s
theorem vJ(l:Addr)(items:Array Value):iH (.ref l) {cls:=.type "list_iterator",data:=.fields #[.ref l,.int 0 0]} (λh=>h.IsList l items):=λ_ _ _ _ _ _ h q=>wpAny_pyIter_list h q
theorem tq(l:Addr)(items:Array Value):iH (.ref l) {cls:=.type "tuple_iterator",data:=.fields #[.ref l,.int 0 0]} (λh=>h.IsTuple l items):=λ_ _ _ _ _ _ h q=>wpAny_pyIter_tuple h q
theorem yp(x:Str)(t:Tok):iH (.str x t) {cls:=.type (strIterType x),data:=.fields #[.str x t,.int 0 0]} (λ_=>True):=λ_ _ _ _ _ _ _ q=>wpAny_pyIter_strU q
noncomputable abbrev Vj(h:Heap)(o1 o2:Obj):Heap:=((h.push o1).push o2).push {cls:=.type "tuple",data:=.seq #[.ref h.objs.size,.ref (h.push o1).objs.size]}
noncomputable abbrev Vk(h:Heap)(o1 o2:Obj):Heap:=(Vj h o1 o2).push {cls:=.type "tuple",data:=.seq #[.none,.none]}
noncomputable abbrev NY(h:Heap)(o1 o2:Obj):Heap:=(Vk h o1 o2).push {cls:=.type "zip",data:=.fields #[.none,.bool false,.bool false,.ref ((h.push o1).push o2).objs.size,.ref (Vj h o1 o2).objs.size]}
theorem yq{v1 v2:Value}{o1 o2:Obj}{c1 c2:Heap->Prop}(i1:iH v1 o1 c1)(i2:iH v2 o2 c2)(IV:∀h o,c2 h->c2 (h.push o)) :
  Meets (Builtin.«zip.__new__» ⟨[.type "zip",v1,v2],[]⟩) (λ_ R s=>c1 s.heap/\c2 s.heap /\
   R (.ok (.ret (.ref (Vk s.heap o1 o2).objs.size))) {s with heap:=NY s.heap o1 o2}) :=
 .of_wp λprog w A R s h=>by
  obtain⟨hp,g,d,tk,os⟩:=s;obtain⟨Xq,CY,h⟩:=h;have Xr:=sub_zip;have hC2:=IV _ o1 CY;have I1:∀(A:Around)(E:qad)(Q:qad),Q (.ref hp.objs.size) ⟨hp.push o1,g,d,tk,os⟩->wpAny (model prog w) A (pyIter v1) Q E ⟨hp,g,d,tk,os⟩:=λA E Q q=>i1 prog w A E _ Q Xq q;have I2:∀(A:Around)(E:qad)(Q:qad),Q (.ref (hp.push o1).objs.size) ⟨(hp.push o1).push o2,g,d,tk,os⟩->wpAny (model prog w) A (pyIter v2) Q E ⟨hp.push o1,g,d,tk,os⟩:=λA E Q q=>i2 prog w A E _ Q hC2 q
  wp_walk using I1,I2
  exact⟨_,rfl,h⟩
section
variable{s:Shared}
theorem BD{v1 v2:Value}{o1 o2:Obj}{c1 c2:Heap->Prop}(i1:iH v1 o1 c1)(i2:iH v2 o2 c2)(IV:∀h o,c2 h->c2 (h.push o))(h1:c1 s.heap)(h2:c2 s.heap)(Xs:o1.isFreed=false)(Xu:o2.isFreed=false)(h:∀h',IsZip h' (s.heap.objs.size+4) (s.heap.objs.size+2) (s.heap.objs.size+3) .none->IsPair h' (s.heap.objs.size+2) (.ref s.heap.objs.size) (.ref (s.heap.objs.size+1)) ->
    IsPair h' (s.heap.objs.size+3) .none .none->h'.get? s.heap.objs.size=some o1->h'.get? (s.heap.objs.size+1)=some o2->h'.objs.size=s.heap.objs.size+5 ->
    (∀c o,s.heap.get? c=some o->h'.get? c=some o)->Q (.ref (s.heap.objs.size+4)) {s with heap:=h'}) :
  wpAny (model prog w) A (call (.type "zip") [v1,v2]) Q E s:=by
 refine callType_new F.called_zip (by decide) (F.typeCall_zip_2 _ _) (F.newCall_zip_2 _ _) (λobj=>F.args_object_init_3 obj _ _) F.entry_zip_new
  (yq i1 i2 IV) ⟨h1,h2,?_⟩
 have z1:(s.heap.push o1).objs.size=s.heap.objs.size+1:=C9 ..;have z2:((s.heap.push o1).push o2).objs.size=s.heap.objs.size+2:=by rw[C9,z1]
 have z3:(Vj s.heap o1 o2).objs.size=s.heap.objs.size+3:=by rw[C9,z2]
 have z4:(Vk s.heap o1 o2).objs.size=s.heap.objs.size+4:=by rw[C9,z3]
 have z5:(NY s.heap o1 o2).objs.size=s.heap.objs.size+5:=by rw[C9,z4]
 have g5:(NY s.heap o1 o2).get? (Vk s.heap o1 o2).objs.size=some _:=k6 _ rfl;have g4:(NY s.heap o1 o2).get? (Vj s.heap o1 o2).objs.size=some _:=fE _ (k6 _ rfl);have g3:(NY s.heap o1 o2).get? ((s.heap.push o1).push o2).objs.size=some _:=fE _ (fE _ (k6 _ rfl));have g2:(NY s.heap o1 o2).get? (s.heap.push o1).objs.size=some _:=fE _ (fE _ (fE _ (k6 _ Xu)));have g1:(NY s.heap o1 o2).get? s.heap.objs.size=some _:=fE _ (fE _ (fE _ (fE _ (k6 _ Xs))));show _/\_;rw[z2,z3,z4] at g5;rw[z1,z2] at g3;rw[z3] at g4;rw[z1] at g2;rw[z4];exact⟨⟨_,g5,rfl⟩,h _ g5 g3 g4 g1 g2 z5 λc o x=>
  fE _ (fE _ (fE _ (fE _ (fE _ x))))⟩
end
structure BE(P:Program)(w:World)(K:qaf)(i:Addr)(fp:qah)(sq:Hp->qak->Prop)(it:Nat->Heap->Prop):Prop where
 part:∀(X:Cx)(pins:qaa)(σ:St)(H:Hp)(s:Shared),X.prog=P->X.w=w->X.K=K->Inv X pins σ H s->∀xs,sq H xs ->
  ∃(Pv:Nat->Value->Prop)(S:Nat->Heap->Prop),Part P w i fp xs.length Pv S/\(∀k v,Pv k v->∃x,xs[k]?=some x/\RelV x v)/\(∀k h,S k h->it k h)/\∀k,it k s.heap->S k s.heap
 keep:∀k h h',it k h->(∀o,h.get? i=some o->h'.get? i=some o)->it k h'
 obj:∀k h,it k h->∃o,h.get? i=some o/\∀v,o.data≠.cell v
 inj:∀(X:Cx)(pins:qaa)(σ:St)(H:Hp)(s:Shared),X.K=K->Inv X pins σ H s->∀xs ys,sq H xs->sq H ys->xs=ys
theorem src_list(i l:Addr)(eW:l≠i):BE P w K i [i,l] (λH xs=>eU K H l xs) (λk h=>h.IsListIter i l k) where
 part:=λX pins σ H s hP hw hK I xs hq=>by
  subst hP hw hK;obtain⟨aM,rv,p,hz⟩:=I.list hq;have e:aM.toArray.size=xs.length:=by simp[rv.length]
  refine⟨_,_,e▸BC i l eW aM.toArray,λk v hv=>?_,λk h st=>st.1,λk st=>⟨st,p.isList⟩⟩;have uU:aM[k]?=some v:=by simpa using hv
  have hk:k<xs.length:=by rw[<- e];simp;exact (fG.mp uU).1
  obtain⟨u,hu,ru⟩:=rv.get (show xs[k]?=some xs[k] by simp);rw[uU] at hu;cases hu;exact⟨_,by simp,ru⟩
 keep:=λk h h' st q=>st.at q
 obj:=λk h st=>let ⟨o,e,_,d⟩:=st;⟨o,e,λv z=>by rw[d] at z;cases z⟩
 inj:=λX pins σ H s hK I xs ys h1 h2=>by subst hK;exact I.kc h1 h2
theorem src_tuple(i l:Addr)(eW:l≠i):BE P w K i [i,l] (λH xs=>dD K H l xs) (λk h=>h.IsTupleIter i l k) where
 part:=λX pins σ H s hP hw hK I xs hq=>by
  subst hP hw hK;obtain⟨aM,rv,p,hz⟩:=I.tuple hq;have e:aM.toArray.size=xs.length:=by simp[rv.length]
  refine⟨_,_,e▸yo i l eW aM.toArray,λk v hv=>?_,λk h st=>st.1,λk st=>⟨st,p⟩⟩;have uU:aM[k]?=some v:=by simpa using hv
  have hk:k<xs.length:=by rw[<- e];simp;exact (fG.mp uU).1
  obtain⟨u,hu,ru⟩:=rv.get (show xs[k]?=some xs[k] by simp);rw[uU] at hu;cases hu;exact⟨_,by simp,ru⟩
 keep:=λk h h' st q=>let ⟨o,e,r⟩:=st;⟨o,q o e,r⟩
 obj:=λk h st=>let ⟨o,e,_,d⟩:=st;⟨o,e,λv z=>by rw[d] at z;cases z⟩
 inj:=λX pins σ H s hK I xs ys h1 h2=>by subst hK;exact I.i8 h1 h2
def yr(x:Str):qak:=x.cps.toList.map λc=>.str ⟨#[c]⟩
theorem IW(i:Addr)(x:Str)(t:Tok):BE P w K i [i] (λ_ xs=>xs=yr x) (λk h=>h.IsStrIter i (strIterType x) x t k) where
 part:=λX pins σ H s hP hw hK I xs hq=>by
  subst hP hw hK hq;have e:x.cps.size=(yr x).length:=by unfold yr;simp
  refine⟨_,_,e▸Ec i x t,λk v hv=>?_,λk h st=>st,λk st=>st⟩;obtain⟨c,u,h1,rfl⟩:=hv;exact⟨.str ⟨#[c]⟩,by unfold yr;rw[ij];simp[h1],u,rfl⟩
 keep:=λk h h' st q=>let ⟨o,e,r⟩:=st;⟨o,q o e,r⟩
 obj:=λk h st=>let ⟨o,e,_,d⟩:=st;⟨o,e,λv z=>by rw[d] at z;cases z⟩
 inj:=λX pins σ H s hK I xs ys h1 h2=>by rw[h1,h2]
section
variable{s:Shared}
theorem IX{ch:qah}(I:Inv X pins σ H s)(k:∀b u,b∉ch->s.heap.get? b=some u->h'.get? b=some u)(hf:∀b∈ch,lg X pins H b):Inv X pins σ H {s with heap:=h',toks:=t'}:=by
 have De:∀b u,H b=some u->b∉ch:=λb u e z=>by rw[(hf b z).1] at e;cases e
 refine I.step (g':=s.gens) (d':=s.drawn) (ch:=ch) (λb hb=>?_) (λb u _ _ hc e _=>k b u hc e) (λb u _ _ hc e _=>⟨u.slots,k b u hc e⟩) (λb u _ e n=>n) (λb u hc e=>⟨u,k b u hc e⟩)
  (λb xs e=>e) (λb u v e=>e) (λb ps e=>⟨#[],?_⟩) (λm hm=>?_) (λb u e=>?_) I.bare
 obtain⟨_,f1,_,f3,f4,f5⟩:=hf b hb;exact⟨f3,f1,f4,f5⟩;rw[e];simp;obtain⟨ob,es,ep,ho,r⟩:=hm;exact⟨ob,es,ep,k _ ob (λz=>(hf _ z).2.1 rfl) ho,r⟩;refine (I.b_ b u e).si (λc v hc q=>k c v ?_ q) (λc q=>q) λc xs q=>q;obtain z|z:=hc
 rw[z];exact De b u e;exact De c _ z
end
def Xv(yt yu:Hp->qak->Prop):It :=
 ⟨λi H=>∃xs ys,yt H xs/\yu H ys/\i<xs.length/\i<ys.length,λi H v H'=>∃t x y,H t=none/\v=.ref t/\(∀xs,yt H xs->xs[i]?=some x)/\(∀ys,yu H ys->ys[i]?=some y)/\H'=upd H t (.tup [x,y]),
  λi H=>∃xs ys,yt H xs/\yu H ys/\(i=xs.length\/(i<xs.length/\i=ys.length))⟩
theorem Ej{x1}{z TI TO i1 i2:Addr}{oU nL:qah}{yt yu:Hp->qak->Prop}{t1 t2:Nat->Heap->Prop}(D:Apart z TI TO i1 i2 oU nL)(p1:BE P w K i1 oU yt t1)(p2:BE P w K i2 nL yu t2) :
  Turn P w K (.Tuple elts x1 tp) (Xv yt yu) [z,TI,TO,i1,i2] z (λi h=>IsZip h z TI TO .none/\IsPair h TI (.ref i1) (.ref i2)/\(∃a b,IsPair h TO a b)/\t1 i h/\t2 i h) where
 mem:=by simp
 obj:=λi h st b hb=>by
  obtain⟨h1,h2,⟨a,c,h3⟩,h4,h5⟩:=st;simp only[cT,gg,or_false] at hb;obtain rfl|rfl|rfl|rfl|rfl:=hb
  exact⟨_,h1,λv q=>by cases q⟩;exact⟨_,h2,λv q=>by cases q⟩;exact⟨_,h3,λv q=>by cases q⟩;exact p1.obj i h h4;exact p2.obj i h h5
 keep:=λi h h' st k=>by obtain⟨h1,h2,⟨a,c,h3⟩,h4,h5⟩:=st;exact⟨k z (by simp) _ h1,k TI (by simp) _ h2,⟨a,c,k TO (by simp) _ h3⟩,p1.keep i h h' h4 λo q=>k i1 (by simp) o q,p2.keep i h h' h5 λo q=>k i2 (by simp) o q⟩
 item:=by
  intro X hP hw hK hc i pins s σ H E I hf st hg;obtain⟨xs,ys,Vm,IY,l1,l2⟩:=hg;obtain⟨h1,h2,⟨a,c,h3⟩,h4,h5⟩:=st;obtain⟨P1,S1,q1,v1,b1,f1⟩:=p1.part X pins σ H s hP hw hK I xs Vm;obtain⟨P2,S2,q2,v2,b2,f2⟩:=p2.part X pins σ H s hP hw hK I ys IY;refine nA (I.ok.hd hc) D q1 q2 h1 h2 h3 (f1 i h4) (f2 i h5) l1 l2 λx y h₁ tk px py CZ Xw s1 s2 hp₁ hsz hk=>?_;obtain⟨x',ex,rx⟩:=v1 i x px;obtain⟨y',ey,ry⟩:=v2 i y py;refine⟨_,rfl,wpAny_letOwnedTupleGo_zip CZ λh₂ Vi ou=>?_⟩;have ki:Heap.SameBut z h₁ h₂:=ou;have gQ:z<s.heap.objs.size:=fF h1;have R5:s.heap.objs.size≠z:=CS gQ;have kk:∀b ob,b∉[z,TI,TO,i1,i2]->s.heap.get? b=some ob->h₂.get? b=some ob:=λb ob hb q=>by simp only[cT,gg,or_false,not_or] at hb;exact (ki.2 b hb.1).trans (hk b ob hb.1 hb.2.2.1 hb.2.2.2.1 hb.2.2.2.2 q)
  have new:cc X.prog X.w (upd H s.heap.objs.size (.tup [x',y'])) h₂ s.heap.objs.size (.tup [x',y']) :=
   ⟨by show 2<=sizeLine;rw[sizeLine_eq];decide,[x,y],.cons rx (.cons ry .nil),⟨_,(ki.2 _ R5).trans hp₁,rfl,_,rfl⟩⟩
  refine⟨.ref s.heap.objs.size,upd H s.heap.objs.size (.tup [x',y']),I.grown (t':=tk) kk hf (cU _) new,rfl,⟨_,x',y',I.fresh,rfl,λzs hz=>by rw[p1.inj X pins σ H s hK I _ _ hz Vm];exact ex,λzs hz=>by rw[p2.inj X pins σ H s hK I _ _ hz IY];exact ey,rfl⟩,⟨Vi,?_,⟨x,y,?_⟩,?_,?_⟩,λb hb=>?_⟩;exact (ki.2 TI D.TIz).trans (hk TI _ D.TIz D.TITO D.TIi1 D.TIi2 h2);exact (ki.2 TO D.TOz).trans Xw;exact p1.keep _ _ _ (b1 _ _ s1) λo q=>(ki.2 i1 D.i1z).trans q;exact p2.keep _ _ _ (b2 _ _ s2) λo q=>(ki.2 i2 D.i2z).trans q;have Bt:b<s.heap.objs.size:=by
   simp only[cT,gg,or_false] at hb;obtain rfl|rfl|rfl|rfl|rfl:=hb
   exact gQ;exact fF h2;exact fF h3;obtain⟨o,e,_⟩:=p1.obj i _ h4;exact fF e;obtain⟨o,e,_⟩:=p2.obj i _ h5;exact fF e
  rw[az (j4 Bt)];exact (hf b hb).1
 done:=by intro X hP hw hK hc i pins s σ H E I hf st hg;obtain⟨xs,ys,Vm,IY,he⟩:=hg;obtain⟨h1,h2,⟨a,c,h3⟩,h4,h5⟩:=st;obtain⟨P1,S1,q1,v1,b1,f1⟩:=p1.part X pins σ H s hP hw hK I xs Vm;obtain⟨P2,S2,q2,v2,b2,f2⟩:=p2.part X pins σ H s hP hw hK I ys IY;refine oW (I.ok.hd hc) D q1 q2 h1 h2 h3 (f1 i h4) (f2 i h5) he λh' tk hk=>⟨rfl,?_⟩;refine IX (t':=tk) I (λb u hb q=>?_) hf;simp only[cT,gg,or_false,not_or] at hb;exact hk b u hb.1 hb.2.2.1 hb.2.2.2.1 hb.2.2.2.2 q
 self:=λ_ _ _ _ _ st h=>by obtain⟨h1,_⟩:=st;exact wpAny_pyIter_zip h1 h
inductive ZK(K:qaf)(H:Hp):V->(Hp->qak->Prop)->Prop where
 |lst {a:Addr} {xs:qak}:eU K H a xs->ZK K H (.ref a) (λH xs=>eU K H a xs)
 |tup {a:Addr} {xs:qak}:dD K H a xs->ZK K H (.ref a) (λH xs=>dD K H a xs)
 |str (z:Str):ZK K H (.str z) (λ_ xs=>xs=yr z)
theorem Lr{s:Shared}{x:V}{sq:Hp->qak->Prop}(I:Inv X pins σ H s)(z:ZK X.K H x sq)(r:RelV x u) :
  ∃(o:Obj)(c:Heap->Prop)(fp:qah)(it:Addr->Nat->Heap->Prop),iH u o c/\c s.heap/\(∀h o,c h->c (h.push o))/\o.isFreed=false/\(∀b∈fp,b<s.heap.objs.size) /\
   ∀i,s.heap.objs.size<=i->BE X.prog X.w X.K i (i::fp) sq (it i)/\∀h,h.get? i=some o->it i 0 h:=by
 cases z with
 |lst hq=>
   rename_i a xs
   cases r;obtain⟨aM,rv,p,hz⟩:=I.list hq;have hl:a<s.heap.objs.size:=by obtain⟨o,n,e,_⟩:=p;exact fF e
   refine⟨_,_,[a],λi k h=>h.IsListIter i a k,vJ a aM.toArray,p.isList,λh o q=>Heap.IsList.push q _,rfl,λb hb=>by rw[gq.mp hb];exact hl,λi hi=>⟨src_list i a (j4 (qT hl hi)),λh e=>⟨_,e,rfl,rfl⟩⟩⟩
 |tup hq=>
   rename_i a xs
   cases r;obtain⟨aM,rv,p,hz⟩:=I.tuple hq;have hl:a<s.heap.objs.size:=by obtain⟨o,e,_⟩:=p;exact fF e
   refine⟨_,_,[a],λi k h=>h.IsTupleIter i a k,tq a aM.toArray,p,λh o q=>(let ⟨o',e,r⟩:=q;⟨o',fE _ e,r⟩),rfl,λb hb=>by rw[gq.mp hb];exact hl,λi hi=>⟨src_tuple i a (j4 (qT hl hi)),λh e=>⟨_,e,rfl,rfl⟩⟩⟩
 |str z=>obtain⟨t,rfl⟩:=r;refine⟨_,_,[],λi k h=>h.IsStrIter i (strIterType z) z t k,yp z t,trivial,λ_ _ _=>trivial,rfl,λb hb=>?_,λi hi=>⟨IW i z t,λh e=>⟨_,e,rfl,rfl⟩⟩⟩;cases hb
theorem nn{a b:Nat}(h:a<b):a≠b:=j4 h
theorem Ek{oU nL:qah}(h1:∀b∈oU,b<n)(h2:∀b∈nL,b<n):Apart (n+4) (n+2) (n+3) n (n+1) (n::oU) ((n+1)::nL):=by
 have k1:∀b:Nat,n<b->b∉(n::oU):=λb hb m=>by
  rcases cT.mp m with q|q
  exact CS hb q;exact CP _ (Nat.lt_trans hb (h1 b q))
 have k2:∀b:Nat,n+1<b->b∉((n+1)::nL):=λb hb m=>by
  rcases cT.mp m with q|q
  exact CS hb q;exact CP _ (Nat.lt_trans (Nat.lt_trans (C7 n) hb) (h2 b q))
 have k3:n∉((n+1)::nL):=λm=>by
  rcases cT.mp m with q|q
  exact j4 (C7 n) q;exact CP _ (h2 n q)
 exact⟨nn (by omega),nn (by omega),nn (by omega),nn (by omega),nn (by omega),(nn (by omega)).symm,(nn (by omega)).symm,(nn (by omega)).symm,(nn (by omega)).symm,nn (by omega),k1 _ (by omega),k2 _ (by omega),k1 _ (by omega),k2 _ (by omega),k1 _ (by omega),k3⟩
theorem IZ{c:Nat}(h:c∈[n+4,n+2,n+3,n,n+1]):n<=c:=by simp only[cT,gg,or_false] at h;omega
def Xx(K:qaf)(ta:TA):TI:=λσ H R=>ta σ H λvs H1=>∃x y yt yu,vs=[x,y]/\ZK K H1 x yt/\ZK K H1 y yu/\R (Xv yt yu) H1
section
variable{Z:Zc}
theorem boot_zip:bootBuiltins "zip"=some (.type "zip"):=by decide +kernel
theorem NZ{x1}{a:Expr}{ta:TA}{pos:Pos}(hg:Gl X "zip")(hm:X.mg "zip"=none)(ha:PA X [a,b] ta)(hs:starEach [a,b] X.env=[(false,eval a X.env),(false,eval b X.env)])(qX:starEach [b] X.env=[(false,eval b X.env)]) :
  PI X (.Tuple elts x1 tp) (.Call (.Name "zip" p) [a,b] [] pos) (Xx X.K ta):=by
 intro pins s σ H R I h;refine Call_ (ix I hg hm boot_zip (Qf (bY (ha pos pins s σ H _ I h) λus s1 ⟨vs,H1,I1,r1,q1⟩=>?_) (by rw[hs,qX]) (by rw[qX];rfl)));obtain⟨x,y,yt,yu,e,k1,k2,q⟩:=q1;subst e;obtain⟨u,w',rfl,ru,rw'⟩:=vals2 r1;obtain⟨o1,c1,oU,t1,i1,Xq,Zp,Xs,Qu,z1⟩:=Lr I1 k1 ru;obtain⟨o2,c2,nL,t2,i2,CY,IV,Xu,BF,z2⟩:=Lr I1 k2 rw';refine BD i1 i2 IV Xq CY Xs Xu λh' hz IL IM g1 g2 hsz hk=>?_;have I2:Inv X pins σ H1 {s1 with heap:=h'}:=I1.kept (t':=s1.toks) hk;refine wpAny_pyIter_zip hz ?_;obtain⟨S1,a1⟩:=z1 s1.heap.objs.size (cU _);obtain⟨S2,a2⟩:=z2 (s1.heap.objs.size+1) (G7 _);have D:Apart (s1.heap.objs.size+4) (s1.heap.objs.size+2) (s1.heap.objs.size+3) s1.heap.objs.size (s1.heap.objs.size+1) (s1.heap.objs.size::oU) ((s1.heap.objs.size+1)::nL):=by exact Ek Qu BF
 refine⟨s1.heap.objs.size+4,_,_,_,H1,rfl,I2,Ej D S1 S2,⟨hz,IL,⟨_,_,IM⟩,a1 _ g1,a2 _ g2⟩,λc hc=>?_,q⟩;have Zq:s1.heap.objs.size<=c:=IZ hc;exact I1.m9 Zq (I1.b_.fresh Zq)
noncomputable def N0:T->Option (List T)
 |.lst ts=>some ts
 |.tup ts=>some ts
 |.str z=>some (z.cps.toList.map λc=>.str ⟨#[c]⟩)
 |_=>none
noncomputable def oX(xs ys:List T):List T:=List.zipWith (λa b=>.tup [a,b]) xs ys
noncomputable def Xy(fa fb:FE):FI:=λρ Q=>fa ρ λx=>fb ρ λy=>match N0 x,N0 y with
 |some xs,some ys=>Q (oX xs ys)
 |_,_=>False
theorem Ls{A:qah}{x:T}{xs:List T}(h:At K H A x v)(e:N0 x=some xs):∃sq,ZK K H v sq/\∀H A,At K H A x v->∃vs,sq H vs/\ay K H A xs vs:=by
 cases x with
 |lst ts=>cases e;simp only[At] at h;obtain⟨a,vs,rfl,l,q⟩:=h;refine⟨_,.lst l.sq,λH A h=>?_⟩;simp only[At] at h;obtain⟨a',eT,e,l',q'⟩:=h;cases e;exact⟨eT,l'.sq,q'⟩
 |tup ts=>cases e;simp only[At] at h;obtain⟨a,vs,rfl,l,q⟩:=h;refine⟨_,.tup l,λH A h=>?_⟩;simp only[At] at h;obtain⟨a',eT,e,l',q'⟩:=h;cases e;exact⟨eT,l',q'⟩
 |str z=>
  cases e;simp only[At] at h;subst h;refine⟨_,.str z,λH A h=>⟨yr z,rfl,?_⟩⟩;unfold yr;generalize z.cps.toList=l;induction l with
  |nil=>exact ay.nil
  |cons c l ih=>exact ay.cons c_ ih
 |_=>cases e
theorem N1{x y:T}{w:V}{xs ys:List T}{yt yu:Hp->qak->Prop}(h1:∀H A,At K H A x v->∃vs,yt H vs/\ay K H A xs vs)(h2:∀H A,At K H A y w->∃vs,yu H vs/\ay K H A ys vs) :
  Wk K (Xv yt yu) [(x,v),(y,w)] (oX xs ys):=λH A hA h i=>by
 obtain⟨vs,q1,l1⟩:=h1 H A (h _ cS);obtain⟨ws,q2,l2⟩:=h2 H A (h _ (d_ _ cS));have e1:=l1.length;have e2:=l2.length;have el:(oX xs ys).length=min xs.length ys.length:=by unfold oX;rw[Qi]
 rw[el];refine⟨λhi=>⟨vs,ws,q1,q2,by omega,by omega⟩,λhi=>⟨vs,ws,q1,q2,by omega⟩,λt ht x H' y=>?_⟩;obtain⟨p,a,b,hp,rfl,ha,hb,rfl⟩:=y;unfold oX at ht;rw[UQ] at ht;cases ex:xs[i]? with
 |none=>rw[ex] at ht;cases ht
 |some tx=>
   cases ey:ys[i]? with
   |none=>rw[ex,ey] at ht;cases ht
   |some ty=>rw[ex,ey] at ht;cases ht;obtain⟨v1,g1,g2⟩:=l1.get ex;obtain⟨v2,g3,g4⟩:=l2.get ey;have z1:=ha vs q1;have z2:=hb ws q2;rw[g1] at z1;rw[g3] at z2;cases z1;cases z2;exact⟨aC hp,cf (dD.of aB) (ay.cons (g2.same (aC hp)) (ay.cons (g4.same (aC hp)) ay.nil))⟩
theorem El{x1}{pos:Pos}{a:Expr}{fa fb:FE}(hg:Gl X "zip")(hm:X.mg "zip"=none)(ha:VE X Z a fa)(hb:VE X Z b fb)(hs:starEach [a,b] X.env=[(false,eval a X.env),(false,eval b X.env)]:=by rfl)(qX:starEach [b] X.env=[(false,eval b X.env)]:=by rfl) :
  VI X Z (.Tuple elts x1 tp) (.Call (.Name "zip" p) [a,b] [] pos) (Xy fa fb):=.mk λtm=>
 PI.weak (NZ hg hm (bf (ha tm) (bf (hb tm) cN qX) (by rw[hs,qX])) hs qX) λσ H R ⟨ρ,O,q,I,hf,k⟩=>⟨ρ,O,_,I,hf,λx hx v H1 s1 a1=>⟨ρ,O,_,I.same s1,hx,λy hy w H2 s2 a2=>by
  split at hy
  rename_i xs ys e1 e2
  obtain⟨yt,k1,w1⟩:=Ls (a1.same s2) e1;obtain⟨yu,k2,w2⟩:=Ls a2 e2;exact⟨v,w,yt,yu,rfl,k1,k2,k _ hy _ H2 _ (s1.trans s2) (λp hp=>by
   rcases cT.mp hp with e|hp
   rw[e];exact a1.same s2;rw[gq.mp hp];exact a2) (N1 w1 w2)⟩
  exact hy.elim⟩⟩
end
end VT
variable{Z:VT.Zc}{ρ:VT.En}{fa fe fb:VT.FE}{g:VT.FA}{tm:List (VT.T×L2.V)}
abbrev qab:=List (VT.T×L2.V)
abbrev qaj:=List VT.T
abbrev qam:=VT.Rt->Prop
abbrev qas:=@VT.VP.vr
abbrev qat:=@VT.VP.ve
abbrev qau:=@VT.VP.vx
namespace HE
open PySem PySem.W PySem.Calls PyProof.Rows
noncomputable def nM(tb:String->Option Builtin)(p:Program)(w:World)(n₀:Nat)(ann:Option Value):Nat->SharedT->Thread->Option SharedT
 |0,_,_=>none
 |n+1,s,t=>match through t with
  |true=>some s
  |false=>match stepOk n₀ ann t with
   |false=>none
   |true=>match stepT (denote tb) p w s t with
    |some (s',t')=>nM tb p w n₀ ann n s' t'
    |none=>none
theorem rA{tb:String->Option Builtin}{p:Program}{w:World}{n₀:Nat}{ann:Option Value}:∀{n:Nat}{s s':SharedT}{t:Thread},nM tb p w n₀ ann n s t=some s'->topRun tb p w n₀ ann n s.abs t=some s'.abs
 |0,_,_,_,h=>by cases h
 |n+1,s,s',t,h=>by
  unfold nM at h;unfold topRun;cases ht:through t with
  |true=>rw[ht] at h;cases h;rfl
  |false=>
   rw[ht] at h;cases hk:stepOk n₀ ann t with
   |false=>rw[hk] at h;cases h
   |true=>
    rw[hk] at h;cases hs:stepT (denote tb) p w s t with
    |none=>rw[hs] at h;cases h
    |some r=>obtain⟨s₂,t₂⟩:=r;rw[hs] at h;rw[stepT_spec hs];exact rA h
noncomputable def mkT(l:List Obj):BT:=(l.foldl (λ(p:BT×Nat) o=>(p.1.ins p.2 o,p.2+1)) (.nil,0)).1
noncomputable def dQ(P:Params):BT:=mkT (boot_heap P).objs.toList
noncomputable def Zr(T:BT)(os:OsState):SharedT:=⟨T,11,{},Array.mk [],boot_drawn,boot_toks,os⟩
theorem boot_abs(P:Params):absHeap (dQ P) 11 {}=boot_heap P:=by kernel_rfl
theorem BG(P:Params):((boot_heap P).isNs mainGlobals,(boot_heap P).objs.size,(boot_heap P).nsMap mainGlobals "__annotations__")=(true,11,some (.ref 6)):=by kernel_rfl
noncomputable def N2(p:Program)(T:BT)(w:World)(M:Nat)(os:OsState):Option SharedT:=nM treeTable p w 11 (some (.ref 6)) M (Zr T os) (topStub p)
noncomputable def Kf(as:qah)(g:Addr->Option Obj):Frag:=as.filterMap λa=>(g a).map λo=>(a,o)
noncomputable def tg(T:BT)(n:Nat)(a:Addr):Option Obj:=match Nat.blt a n with
 |true=>alive ((T.get a).getD default)
 |false=>none
theorem SG(T:BT)(n:Nat)(life:Life)(a:Addr):(absHeap T n life).get? a=tg T n a:=by
 unfold tg;cases h:Nat.blt a n with
 |true=>
  have hn:a<n:=Nat.ble_eq.mp h;cases g:T.get a with
  |some o=>rw[abs_get hn g];rfl
  |none=>have e:=absHeap_at T n life a;rw[if_pos hn,g] at e;unfold Heap.get?;rw[e];rfl
 |false=>
  have hn:¬ a<n:=λz=>by have:Nat.blt a n=true:=Nat.ble_eq.mpr z;rw[h] at this;cases this
  exact abs_get_none hn
abbrev I9(q:Program)(lv:List (Str×WData))(R:WRecords)(s:Shared):Bool:=xlAt q lv s && recOk R s
noncomputable def lookA(p q:Program)(loose:qai)(lv:List (Str×WData))(R:WRecords)(T:BT)(H0:Heap)(w:World)(M:Nat)(os:OsState) :=
 (N2 p T w M os).map λs=>((staticsOk (importedModules p.main.body) H0 s.abs.heap && namesBound p s.abs.heap && gensDone s.abs && laidKept H0 s.abs.heap),
  (openSeen q loose (importedModules p.main.body) (I9 q lv R) true s.abs).1,(openSeen q loose (importedModules p.main.body) (I9 q lv R) true s.abs).2.1)
noncomputable def lookB(p q:Program)(loose:qai)(lv:List (Str×WData))(R:WRecords)(T:BT)(w:World)(M:Nat)(os:OsState) :=
 (N2 p T w M os).map λs=>(openSeen q loose (importedModules p.main.body) (I9 q lv R) true s.abs).2.2
noncomputable def lookC{β:Type}(p:Program)(as:qah)(F:Frag->β)(T:BT)(w:World)(M:Nat)(os:OsState) :=
 (N2 p T w M os).map λs=>F (Kf as (tg s.tree s.n))
noncomputable def tu(p:Program)(N:Nat)(w:World)(a:Addr):Option Obj:=(openEnds treeTable p w N).bind (·.heap.get? a)
theorem head{p q:Program}{loose:qai}{lv:List (Str×WData)}{R:WRecords}{as:qah}{N M:Nat}{F:Frag->β}{v:World->β}(e:opening p=plainProg p.main.scope.names)(hN:Nat.ble 600 N=true)(f:∀s,fenceModules? p s=some s)(le:Nat.ble M N=true)(ra:∀(w:World) (os:OsState),lookA p q loose lv R (dQ w.params) (boot_heap w.params) w M os=some (true,(openGood q loose).1,(openGood q loose).2.1))(rb:∀(w:World) (os:OsState),lookB p q loose lv R (dQ w.params) w M os=some (openGood q loose).2.2)(rc:∀(w:World) (os:OsState),lookC p as F (dQ w.params) w M os=some (v w)) :
  LeftO p q loose (I9 q lv R) (λs=>as.map s.heap.get?) (λw=>as.map (tu p N w)) N/\∀w,F (Kf as (tu p N w))=v w:=by
 have key:∀w,∃s,openEnds treeTable p w N=some s/\openSeen q loose (importedModules p.main.body) (I9 q lv R) true s=openGood q loose/\F (Kf as s.heap.get?)=v w:=λw=>by
  obtain⟨⟨h,gs,d,k,os⟩,e1,e2⟩:=UO.mp (boot_open e hN f w);obtain⟨rfl,rfl,rfl,rfl⟩:h=boot_heap w.params/\gs=Array.mk []/\d=boot_drawn/\k=boot_toks:=by simpa using e2
  obtain⟨s,r1,r2⟩:=UO.mp (ra w os);obtain⟨s',r1',rb'⟩:=UO.mp (rb w os);obtain⟨RA,Xz,rc'⟩:=UO.mp (rc w os);obtain rfl:s=s':=Option.some.inj (r1.symm.trans r1');obtain rfl:s=RA:=Option.some.inj (r1.symm.trans Xz);have r3:=congrArg (λx=>x.1) r2;have r4:openSeen q loose (importedModules p.main.body) (I9 q lv R) true s.abs=openGood q loose:=Prod.ext (congrArg (λx=>x.2.1) r2) (Prod.ext (congrArg (λx=>x.2.2) r2) rb');have r5:F (Kf as s.abs.heap.get?)=v w:=by rw[show s.abs.heap.get?=tg s.tree s.n from funext λa=>SG _ _ _ a];exact rc'
  have t1:=rA r1;have ea:(Zr (dQ w.params) os).abs=⟨boot_heap w.params,Array.mk [],boot_drawn,boot_toks,os⟩:=by show (⟨absHeap (dQ w.params) 11 {},_,_,_,_⟩:Shared)=_;rw[boot_abs];rfl
  rw[ea] at t1;have t2:=topRun_mono (N-M) _ _ _ _ t1;rw[show M+(N-M)=N by have:=Nat.le_of_ble_eq_true le;omega] at t2;have z:=BG w.params;have z1:=congrArg (λx=>x.1) z;have z2:=congrArg (λx=>x.2.1) z;have z3:=congrArg (λx=>x.2.2) z;refine⟨s.abs,?_,r4,r5⟩;unfold openEnds;rw[e1];show topFrom treeTable p w N _=_;unfold topFrom;dsimp only at z1 z2 z3 ⊢;rw[z1,z2,z3,t2];show (match staticsOk (importedModules p.main.body) (boot_heap w.params) s.abs.heap && namesBound p s.abs.heap && gensDone s.abs && laidKept (boot_heap w.params) s.abs.heap with|true=>_|false=>_)=_;have r3':(staticsOk (importedModules p.main.body) (boot_heap w.params) s.abs.heap && namesBound p s.abs.heap && gensDone s.abs && laidKept (boot_heap w.params) s.abs.heap)=true:=r3;rw[r3']
 refine⟨λw=>?_,λw=>?_⟩;obtain⟨s,a,b,c⟩:=key w;rw[a];have:tu p N w=s.heap.get?:=by funext x;unfold tu;rw[a];rfl
 show some (openSeen q loose (importedModules p.main.body) (I9 q lv R) true s,as.map s.heap.get?)=some (openGood q loose,as.map (tu p N w));rw[b,this];obtain⟨s,a,b,c⟩:=key w;have:tu p N w=s.heap.get?:=by funext x;unfold tu;rw[a];rfl
 rw[this];exact c
theorem kf_in{as:qah}{g:Addr->Option Obj}(e:as.map h.get?=as.map g):(Kf as g).In h:=by
 have key:∀{as:qah},as.map h.get?=as.map g->∀a o,(Kf as g).lookup a=some o->h.get? a=some o:=by
  intro as;induction as with
  |nil=>intro _ a o z;cases z
  |cons x as ih=>
   intro e a o z;rw[fS,fS] at e;injection e with e1 e2
   unfold Kf at z;rw[k5] at z;cases hg:g x with
   |none=>rw[hg] at z;exact ih e2 a o z
   |some o'=>
    rw[hg] at z;simp only[QV,G1] at z;split at z
    rename_i q
    have:a=x:=by simpa using q
    subst this;cases z;rw[e1,hg];exact ih e2 a o z
 exact λa o z=>key e a o z
theorem Em{q:Program}{loose:qai}{XP:(qae)->Heap->Prop}{as:qah}{g:World->Addr->Option Obj}{r:RowW}{d:DefRec}{kwd:List (Str×Expr)}{run:Value->qag->Sem Value}(h:WalkO q loose XP (λw h=>(Kf as (g w)).In h) r d kwd run):WalkX q loose XP (λs=>as.map s.heap.get?) (λw=>as.map (g w)) r d kwd run :=
 λw s₀ s₁ mg mb G y a o pm cd doc dV kV h1 h2 h3 h4 h5 h6 args vals sN L Bo RT Y2 RQ Y3=>h w s₀ s₁ mg mb G (λb o' z=>Laid.keeps L _ _ (kf_in y b o' z)) a o pm cd doc dV kV h1 h2 h3 h4 h5 h6 args vals sN Bo RT Y2 RQ Y3
noncomputable def SH:Stmt->DefRec
 |.FunctionDef n ps b _ _ _ sc _ _ p=>⟨n,ps,b,sc,p⟩
 |_=>⟨Str.empty,default,[],default,default⟩
end HE
variable{GL:qaj->(VT.T->Prop)->Prop}
lay_quick HE.lookA HE.lookB HE.lookC
namespace VT
open PySem PySem.Spec PyProof.Rows L2
section
variable{k k':Nat}{pos:Pos}{G:qaj->(qam)->Prop}
theorem aE(C:cp X.prog X.w X.K X.mg X.base x ps k (de X.K n G))(hr:bh k' X.A)(ha:VA X Z (e::es) g)(hg:Gl X x:=by rfl)(hk:k<=k':=by decide)(kf:gp x:=by decide)(he:starEach (e::es) X.env=(false,eval e X.env)::starEach es X.env:=by rfl)(gN:(backTo pos (starEach es X.env)).any (·.1)=false:=by rfl) :
  VP X Z (.Call (.Name x p) (e::es) [] pos) (yk n g G):=by
 obtain⟨f,fd,h1,h2,h3,F⟩:=C;exact z6 F (hr.mono hk) hg h1 h2 h3 ha kf he gN
end
end VT
namespace L2
open PySem PySem.Spec PyProof.Rows
section
variable{a:Expr}{tb:TE}{pos:Pos}
variable{tA Q6:TT}{rest:qap}
end
section
variable{CX:CW}{k:Nat}{ks:qai}{E:XK}{m:Str}{pos WH:Pos}{kws:List Keyword}{t tk:TA}{nm:Option Str}
variable{g:qag->qag->qag}{gV:qak->qak->qak}
end
section
variable{κ:Type}[DecidableEq κ]
noncomputable def iI(aY:List (κ×V))(k:κ):Option V:=(aY.find? λkv=>decide (kv.1=k)).map (·.2)
noncomputable def putK(aY:List (κ×V))(k:κ)(v:V):List (κ×V) :=
 if (aY.any λkv=>decide (kv.1=k))=true then aY.map (λkv=>if kv.1=k then (kv.1,v) else kv) else aY++[(k,v)]
theorem ky{p:κ×V}{r:List (κ×V)}{k:κ}(e:p.1=k):iI (p::r) k=some p.2:=by simp[iI,G3,e]
theorem kz{p:κ×V}{r:List (κ×V)}{k:κ}(e:¬ p.1=k):iI (p::r) k=iI r k:=by simp[iI,G3,e]
theorem oY(k:κ):∀aY:List (κ×V),(aY.any λkv=>decide (kv.1=k))=(iI aY k).isSome
 |[]=>rfl
 |p::r=>by rw[CQ];by_cases e:p.1=k;simp only[ky e,decide_eq_true e,Bool.true_or,Option.isSome_some];rw[kz e,decide_eq_false e,Bool.false_or];exact oY k r
theorem iJ(aY:List (κ×V))(k:κ)(v:V):(putK aY k v).length<=aY.length+1:=by unfold putK;split;rw[cW];omega;rw[k7,j9,C8];omega
theorem Eo{aY:List (κ×V)}{k:κ}(v:V)(h:iI aY k=none):putK aY k v=aY++[(k,v)]:=by unfold putK;rw[oY,h];exact if_neg (by decide)
theorem j_.BH{o:Option V}{u:Option Value}(r:j_ o u):o.isSome=u.isSome:=by
 cases o with
 |none=>cases u with
  |none=>rfl
  |some _=>exact (show False from r).elim
 |some _=>cases u with
  |none=>exact (show False from r).elim
  |some _=>rfl
theorem j_.getD{o:Option V}{u:Option Value}{d:V}{d':Value}(r:j_ o u)(rd:RelV d d'):RelV (o.getD d) (u.getD d'):=by
 cases o with
 |none=>cases u with
  |none=>exact rd
  |some _=>exact (show False from r).elim
 |some _=>cases u with
  |none=>exact (show False from r).elim
  |some _=>exact r
theorem KV.val{aY:List (κ×V)}{vs:List (κ×Value)}(r:KV aY vs)(k:κ):j_ (iI aY k) (valueAt vs k):=by
 unfold KV at r;induction r with
 |nil=>exact True.intro
 |@cons p q ps qs h t ih=>
  obtain⟨h1,h2⟩:=h;by_cases e:p.1=k;have e':q.1=k:=h1.symm.trans e;have b:valueAt (q::qs) k=some q.2:=by simp[valueAt,G3,e']
  rw[ky e,b];exact h2;have e':¬ q.1=k:=λz=>e (h1.trans z);have b:valueAt (q::qs) k=valueAt qs k:=by simp[valueAt,G3,e']
  rw[kz e,b];exact ih
theorem KV.any{aY:List (κ×V)}{vs:List (κ×Value)}(r:KV aY vs)(k:κ):(aY.any λkv=>decide (kv.1=k))=vs.any λkv=>decide (kv.1=k):=by
 unfold KV at r;induction r with
 |nil=>rfl
 |cons h t ih=>rw[CQ,CQ,ih,h.1]
theorem KV.N3{aY:List (κ×V)}{vs:List (κ×Value)}(r:KV aY vs)(k:κ){y:V}(ry:RelV y u) :
  KV (aY.map λkv=>if kv.1=k then (kv.1,y) else kv) (vs.map λkv=>if kv.1=k then (kv.1,u) else kv):=by
 unfold KV at r ⊢;induction r with
 |nil=>exact .nil
 |@cons p q ps qs h t ih=>rw[fS,fS];refine .cons ?_ ih;obtain⟨h1,h2⟩:=h;by_cases e:p.1=k;rw[if_pos e,if_pos (h1.symm.trans e)];exact⟨h1,ry⟩;rw[if_neg e,if_neg (λz=>e (h1.trans z))];exact⟨h1,h2⟩
theorem KV.put{aY:List (κ×V)}{vs:List (κ×Value)}(r:KV aY vs)(k:κ){y:V}{u:Value}(ry:RelV y u):KV (putK aY k y) (stored vs k u):=by unfold putK stored;rw[r.any k];by_cases e:(vs.any λkv=>decide (kv.1=k))=true;rw[if_pos e,if_pos e];exact r.N3 k ry;rw[if_neg e,if_neg e];exact Paired.snoc r ⟨rfl,ry⟩
theorem KV.length{aY:List (κ×V)}{vs:List (κ×Value)}(r:KV aY vs):aY.length=vs.length:=Mq r
end
theorem oZ{k:Key}(r:RelV (kV k) u):(aO P w).is k u=true:=by
 cases k with
 |inl i=>obtain⟨t,e⟩:=(show ∃t,u=Value.int i t from r);subst e;exact uL P w i t
 |inr x=>obtain⟨t,e⟩:=(show ∃t,u=Value.str x t from r);subst e;exact uM P w x t
theorem lW{P:Program}{w:World}:∀{ks:List Key}{us:qag},Vals (ks.map kV) us->ItemsAre (aO P w) ks us
 |[],_,r=>by rw[Hr] at r;cases r;exact .nil
 |k::ks,_,r=>by
  rw[fS] at r;cases r with
  |cons h t=>exact .cons (oZ h) (lW t)
abbrev KT(H:Hp):List (List Key×V)->List (List Key×Addr×Value)->Prop:=Paired λp q=>p.1=q.1/\H q.2.1=some (.tup (p.1.map kV))/\RelV p.2 q.2.2
theorem KT.val{aY:List (List Key×V)}{xs:List (List Key×Addr×Value)}(r:KT H aY xs)(k:List Key):j_ (iI aY k) ((atKey xs k).map (·.2)):=by
 induction r with
 |nil=>exact True.intro
 |@cons p q ps qs h t ih=>
  obtain⟨h1,_,h2⟩:=h;by_cases e:p.1=k;have e':q.1=k:=h1.symm.trans e;have b:atKey (q::qs) k=some q.2:=by simp[atKey,G3,e']
  rw[ky e,b];exact h2;have e':¬ q.1=k:=λz=>e (h1.trans z);have b:atKey (q::qs) k=atKey qs k:=by simp[atKey,G3,e']
  rw[kz e,b];exact ih
theorem KT.N3{aY:List (List Key×V)}{xs:List (List Key×Addr×Value)}(r:KT H aY xs)(k:List Key){y:V}(ry:RelV y u) :
  KT H (aY.map λkv=>if kv.1=k then (kv.1,y) else kv) (xs.map (putAt k u)):=by
 induction r with
 |nil=>exact .nil
 |@cons p q ps qs h t ih=>rw[fS,fS];refine .cons ?_ ih;obtain⟨h1,h2,h3⟩:=h;unfold putAt;by_cases e:p.1=k;rw[if_pos e,if_pos (h1.symm.trans e)];exact⟨h1,h2,ry⟩;rw[if_neg e,if_neg (λz=>e (h1.trans z))];exact⟨h1,h2,h3⟩
theorem KT.put{H:Hp}{aY:List (List Key×V)}{xs:List (List Key×Addr×Value)}(r:KT H aY xs)(k:List Key){b:Addr}{y:V}{u:Value}(hb:H b=some (.tup (k.map kV)))(ry:RelV y u) :
  KT H (putK aY k y) (storedH xs k b u):=by
 have e:(aY.any λkv=>decide (kv.1=k))=(atKey xs k).isSome:=by rw[oY,(r.val k).BH,Option.isSome_map]
 unfold putK storedH;rw[e];by_cases q:(atKey xs k).isSome=true;rw[if_pos q,if_pos q];exact r.N3 k ry;rw[if_neg q,if_neg q];exact Paired.snoc r ⟨rfl,hb,ry⟩
theorem KT.keeps{aY:List (List Key×V)}{xs:List (List Key×Addr×Value)}(r:KT H aY xs)(ht:∀b ys,H b=some (.tup ys)->H' b=some (.tup ys)):KT H' aY xs :=
 Paired.m8 r λ_ _ z=>⟨z.1,ht _ _ z.2.1,z.2.2⟩
section
theorem Lu{u:HO}(ok:j5 P w H h)(e:Rd H a u):cc P w H h a u:=e.ok ok
theorem Ac(ok:j5 P w H h)(e:Rd H a (.dK aY)):aY.length<=sizeLine/\(a==sysModules)=false/\∃vs,KV aY vs/\h.DictOf (aO P w) a vs :=
 show cc P w H h a (.dK aY) from Lu ok e
theorem Ad(ok:j5 P w H h)(e:H a=some (.dK aY)):aY.length<=sizeLine/\(a==sysModules)=false/\∃vs,KV aY vs/\h.DictOf (aO P w) a vs:=Ac ok (.inl e)
theorem yw(ok:j5 P w H h)(e:H a=some (.tup (ks.map kV))):(tupleKind (aO P w)).is h ks a:=by obtain⟨_,aM,r,o,h1,h2,n,h3⟩:=(show cc P w H h a (.tup (ks.map kV)) from ok a _ e);exact⟨o,aM.toArray,n,h1,h2,h3,by simpa using lW r⟩
theorem Ep{aY:List (List Key×V)}(ok:j5 P w H h)(e:Rd H a (.dT aY)):aY.length<=sizeLine/\(a==sysModules)=false /\
  ∃xs,KT H aY xs/\h.DictOfH (tupleKind (aO P w)) a xs:=by
 obtain⟨z,y,xs,r,o,es,ep,h1,h2,h3,h4,h5⟩:=(show cc P w H h a (.dT aY) from Lu ok e);refine⟨z,y,xs,r,o,es,ep,h1,h2,h3,h4,λx hx=>?_,h5⟩;have all:∀{l:List (List Key×V)}{m:List (List Key×Addr×Value)},KT H l m->∀x∈m,(tupleKind (aO P w)).is h x.1 x.2.1:=by
  intro l m q;induction q with
  |nil=>intro x hx;exact nomatch hx
  |@cons p q ps qs hq t ih=>
    intro x hx;rcases cT.mp hx with e|hx
    subst e;exact yw ok (by rw[<- hq.1];exact hq.2.1);exact ih x hx
 exact all r x hx
theorem SI{aY:List (List Key×V)}(ok:j5 P w H h)(e:H a=some (.dT aY)):aY.length<=sizeLine/\(a==sysModules)=false /\
 ∃xs,KT H aY xs/\h.DictOfH (tupleKind (aO P w)) a xs:=Ep ok (.inl e)
end
def Er(H:Hp)(a:Addr)(y:V)(r:Option V):Prop :=
 (∃aY k,Rd H a (.dK aY)/\y=kV k/\r=iI aY k)\/∃aY k b,Rd H a (.dT aY)/\y=.ref b/\H b=some (.tup (k.map kV))/\r=iI aY k
def BI(H:Hp)(a:Addr)(y v:V)(H':Hp):Prop :=
 (∃aY k,H a=some (.dK aY)/\y=kV k/\aY.length<sizeLine/\H'=upd H a (.dK (putK aY k v))) \/
 ∃aY k b,H a=some (.dT aY)/\y=.ref b/\H b=some (.tup (k.map kV))/\aY.length<sizeLine/\H'=upd H a (.dT (putK aY k v))
theorem Er.k{k:Key}(e:H a=some (.dK aY)):Er H a (kV k) (iI aY k):=.inl ⟨aY,k,.inl e,rfl,rfl⟩
theorem BI.k{k:Key}(e:H a=some (.dK aY))(hl:aY.length<sizeLine):BI H a (kV k) v (upd H a (.dK (putK aY k v))):=.inl ⟨aY,k,e,rfl,hl,rfl⟩
section
variable{s:Shared}{y:V}{r:Value}{o:Option V}
theorem Inv.big(I:Inv X pins σ H s):sysModules<s.heap.objs.size:=by have h:mainGlobals<s.heap.objs.size:=(I.mod.glob.keeps I.bk).lt;exact Nat.lt_trans (by decide) h
theorem nN{ob:HO}(I:Inv X pins σ H s)(mu:Q0 (H a))(hs:Heap.SameBut a s.heap h')(he:∃q,h'.get? a=some q)(new:cc X.prog X.w (upd H a ob) h' a ob) :
  Inv X pins σ (upd H a ob) {s with heap:=h',toks:=t'} :=
 I.write (x:=a) (e:=a) mu (.inl rfl) (λb q hb z=>(hs.2 b hb).trans z) he new
theorem Es{vs:List (Key×Value)}(z:aY.length<=sizeLine)(hd:(a==sysModules)=false)(rel:KV aY vs)(dd:h'.DictOf (aO P w) a vs) :
 cc P w H' h' a (.dK aY):=⟨z,hd,vs,rel,dd⟩
theorem BJ{Q:Unit->Shared->Prop}(hu:A.units+1<cLine)(I:Inv X pins σ H s)(g:BI H a y v H')(ry:RelV y u)(rv:RelV v r)(h:∀s',Inv X pins σ H' s'->Q () s') :
  wpAny (model X.prog X.w) A (setItem (.ref a) u r) Q E s:=by
 obtain⟨aY,k,e,ey,l,eH⟩|⟨aY,k,b,e,ey,eb,l,eH⟩:=g
 subst ey eH;obtain⟨z,hd,vs,rel,dd⟩:=Ad I.b_ e;have hz:vs.length<=sizeLine:=by rw[<- rel.length];exact z
 have hl:(putK aY k v).length<=sizeLine:=by have:=iJ aY k v;omega
 refine wpAny_setItem_pairs (hsz:=hz) (oZ ry) dd λh' BK hs=>h _ ?_;have he:∃q,h'.get? a=some q:=let ⟨q,_,_,hq,_⟩:=BK;⟨q,hq⟩;exact nN I (by rw[e];exact True.intro) hs he (Es hl hd (rel.put k rv) BK);subst ey eH;cases (show u=Value.ref b from ry);obtain⟨z,hd,xs,rel,dd⟩:=SI I.b_ e;have hz:xs.length<=sizeLine:=by rw[<- Mq rel];exact z
 have hl:(putK aY k v).length<=sizeLine:=by have:=iJ aY k v;omega
 refine wpAny_setItem_heap (hsz:=hz) (tupleKind_room_in1 hu) (yw I.b_ eb) dd λh' BK hs=>h _ ?_;obtain⟨q,es,ep,hq,h2,h3,h4,_,h5⟩:=BK;refine nN I (by rw[e];exact True.intro) hs ⟨q,hq⟩ ⟨hl,hd,_,(rel.put k eb rv).keeps λc ys ec=>?_,q,es,ep,hq,h2,h3,h4,h5⟩;rw[az (C_ ec e (λz=>nomatch z))];exact ec
end
section
variable{s:Shared}{k:Key}
theorem SJ(I:Inv X pins σ H s)(e:Rd H a (.dK aY))(h:∀t s',Inv X pins σ H s'->Q (.int aY.length t) s'):wpAny (model X.prog X.w) A (call (.builtin "len") [.ref a]) Q E s:=by obtain⟨z,hd,vs,rel,dd⟩:=Ac I.b_ e;refine call_len_dict hd dd (by rw[<- rel.length];rw[sizeLine_eq] at z;omega) ?_;rw[<- rel.length];exact h _ _ (I.tok _)
end
def SK(i:Expr):Prop:=∀ov iv,subscripted i false ov iv=operate [ov,iv] (getItem ov iv)
theorem I_{s:Shared}{env:Env}{value slice:Expr}{pos:Pos}{T id:String}(hl:typeLookup (.type T) "__getitem__"=pure (some (.builtin id)))(hs:SK slice)(h:wpAny (model prog w) A (eval value env) (λo s₁=>wpAny (model prog w) A (eval slice env) (λi s₂=>s₂.TypeIs o T/\wpAny (model prog w) A (getItem o i) Q E s₂) E s₁) E s) :
  wpAny (model prog w) A (eval (.Subscript value slice pos) env) Q E s:=by
 refine Subscript_ (wpAny_mono h (λo s₁ h₁=>wpAny_mono h₁ (λi s₂ h₂=>?_) λ_ _ x=>x) λ_ _ x=>x);obtain⟨hT,h₂⟩:=h₂;unfold subscriptTail;refine wpAny_bind ?_;rw[getitemInPython_of_ne hT.not_modules];refine wpAny_bind (wpAny_specialOf hT hl ?_);have fin:wpAny (model prog w) A (subscripted slice false o i) (λr s₃=>wpAny (model prog w) A (letTemporaryGo value o r >>= λ_=>pure r) Q E s₃) E s₂:=by rw[hs o i];exact wpAny_operating (wpAny_mono h₂ (λr s₃ h₃=>wpAny_bind (wpAny_letTemporaryGo (wpAny_pure h₃))) λ_ _ x=>x)
 first
  |exact wpAny_pure (wpAny_bind fin)
  |exact wpAny_bind (wpAny_pure (wpAny_bind fin))
  |exact wpAny_bind fin
def SM(td ty tv:TE):TS:=λD σ H=>tv σ H λv H1=>td σ H1 λx H2=>ty σ H2 λy H3=>∃a H4,x=.ref a/\BI H3 a y v H4/\D.nx σ H4
section
variable{i value:Expr}{pos pos':Pos}{td ty tv:TE}
theorem Ae(hu:X.A.units+1<cLine)(ho:PE X o td)(hi:PE X i ty)(hv:PE X value tv)(hs:swapsWith value (some (.Subscript o i pos')) pos.line X.env=pure false) :
  PS X (.Assign [.Subscript o i pos'] value pos) (SM td ty tv):=by
 intro pins s σ H D I h;refine wpAny_Assign_Subscript (bY (hv pins s σ H _ I h) λr s1 ⟨v,H1,I1,rv,q1⟩=>bY (ho pins s1 σ H1 _ I1 q1) λu s2 ⟨x,H2,I2,rx,q2⟩=>bY (hi pins s2 σ H2 _ I2 q2) λiv s3 ⟨y,H3,I3,ry,a,H4,ex,g,q3⟩=>?_) hs;subst ex;obtain rfl:u=Value.ref a:=rx;exact BJ hu I3 g ry rv λs4 I4=>⟨σ,H4,I4,q3⟩
end
theorem vK(h:Heap)(hb:sysModules<h.objs.size):cc P w H (h.push {cls:=.type "dict",data:=.dict #[]}) h.objs.size (.dK []) :=
 ⟨ji _,beq_eq_false_iff_ne.mpr (Ne.symm (j4 hb)),[],.nil,Heap.DictOf.new h⟩
def N4:TE:=λ_ H Q=>∀p,H p=none->Q (.ref p) (upd H p (.dK []))
section
variable{pos:Pos}
theorem vL:PE X (.Dict [] [] pos) N4:=λpins s σ H Q I h=>
 wpAny_Dict_empty ⟨.ref s.heap.objs.size,_,I.laid (a:=s.heap.objs.size) (o:=.dK []) (t':=s.toks) (λ_ _ q=>fE _ q) (cU _) (vK s.heap I.big),rfl,h _ (I.b_.fresh (cU _))⟩
end
structure M2(X:Cx)(o:Expr)(m:Str)(apos:Pos)(e f:Expr)(aN:Pos):Prop where
 base:attributeBase o m X.env (eval o X.env)=eval o X.env
 XA:((backTo aN (starEach [e,f] X.env)).all (λx=>!x.1) && (backToKw aN (keywordEach [] X.env)).all (λx=>x.1.isSome)
  && decide (([e,f]:qap).length+([]:List Keyword).length+(if ([]:List Keyword).isEmpty then 0 else 1)<30))=true
 line:(apos.endLine==aN.line)=true
 trees:backTo aN (starEach [e,f] X.env)=[(false,eval e X.env),(false,eval f X.env)]
def Zs(H:Hp)(a:Addr):Prop:=(∃aY,Rd H a (.dK aY))\/∃aY,Rd H a (.dT aY)
theorem N5{s:Shared}(I:Inv X pins σ H s)(d:Zs H a) :
  s.TypeIs (.ref a) "dict"/\(∀b,Value.ref a=.ref b->∃ob,s.heap.get? b=some ob/\ob.dict=none)/\(a==sysModules)=false:=by
 obtain⟨aY,e⟩|⟨aY,e⟩:=d
 obtain⟨_,hd,vs,_,dd⟩:=Ac I.b_ e;refine⟨dd.typeIs,λb q=>?_,hd⟩;cases q;obtain⟨ob,_,_,h1,h2,_⟩:=dd;exact⟨ob,h1,h2.2.1⟩;obtain⟨_,hd,xs,_,dd⟩:=Ep I.b_ e;refine⟨dd.typeIs,λb q=>?_,hd⟩;cases q;obtain⟨ob,_,_,h1,h2,_⟩:=dd;exact⟨ob,h1,h2.2.1⟩
section
variable{s:Shared}{y d:V}{r:Value}{o:Option V}
theorem N6(hu:A.units+1<cLine)(I:Inv X pins σ H s)(g:Er H a y o)(ry:RelV y u)(rd:RelV d r)(h:∀w' s',Inv X pins σ H s'->RelV (o.getD d) w'->Q w' s') :
  wpAny (model X.prog X.w) A (call (.builtin "dict.get") [.ref a,u,r]) Q E s:=by
 obtain⟨aY,k,e,ey,l⟩|⟨aY,k,b,e,ey,eb,l⟩:=g
 subst ey;obtain⟨z,hd,vs,rel,dd⟩:=Ac I.b_ e;refine call_meetsIn KZ dd.typeIs QR (QO _ _ _) (meets_dict_get_default (aO X.prog X.w) a (oZ ry) hd r) ⟨_,dd.mapOf,h _ _ (I.tok _) ?_⟩;rw[l];exact (rel.val k).getD rd;subst ey;cases (show u=Value.ref b from ry);obtain⟨z,hd,xs,rel,dd⟩:=Ep I.b_ e;refine call_meetsIn KZ dd.typeIs QR (QO _ _ _) (meetsH_dict_get_default (tupleKind (aO X.prog X.w)) a b hd r) ⟨tupleKind_room_in1 hu,k,xs,yw I.b_ eb,dd,h _ _ (I.tok _) ?_⟩;rw[l];exact (rel.val k).getD rd
end
def N7(td ty tx:TE):TE:=λσ H Q=>td σ H λx H1=>∃a,x=.ref a/\Zs H1 a/\ty σ H1 λy H2=>tx σ H2 λz H3=>∃o,Er H3 a y o/\Q (o.getD z) H3
section
variable{f:Expr}{td ty tx:TE}
theorem Et(hu:X.A.units+1<cLine)(ho:PE X o td)(he:PE X e ty)(hf:PE X f tx)(m:M2 X o "get" apos e f aN):PE X (.Call (.Attribute o "get" apos) [e,f] [] aN) (N7 td ty tx):=by
 intro pins s σ H Q I h;refine wpAny_Call_method m.base m.XA m.line QP KZ PySem.F.type_dict_get (bY (ho pins s σ H _ I h) λu s1 ⟨x,H1,I1,rx,a,ex,d,q1⟩=>?_);subst ex;obtain rfl:u=Value.ref a:=rx;obtain⟨t1,t2,_⟩:=N5 I1 d;refine⟨t1,t2,?_⟩;rw[m.trees];refine QQ rfl (UR (Ml (bY (he pins s1 σ H1 _ I1 q1) λiv s2 ⟨y,H2,I2,ry,q2⟩ =>
  Ml (bY (hf pins s2 σ H2 _ I2 q2) λfv s3 ⟨z,H3,I3,rz,ov,g,q3⟩=>Calls.spliced_nil ?_))))
 exact N6 hu I3 g ry rz λw' s4 I4 rw'=>⟨_,H3,I4,rw',q3⟩
end
end L2
namespace U6
open PySem PySem.W PySem.Calls PyProof.Rows
end U6
namespace L2
open PySem PySem.Spec PyProof.Rows
section
theorem BL:dF X (.builtin "len") (λxs H Q=>∃a aY,xs=[V.ref a]/\H a=some (.dK aY)/\Q (.int aY.length) H):=by intro pins s σ H xs us Q I r h;obtain⟨a,aY,rfl,ha,q⟩:=h;obtain⟨u,rfl,ru⟩:=vals1 r;cases ru;exact SJ I (.inl ha) λt s' I'=>⟨.int aY.length,H,I',⟨t,rfl⟩,q⟩
end
end L2
namespace VT
open PySem PySem.Spec PyProof.Rows L2
noncomputable def vM:T->Option Key
 |.int i=>some (.inl i)
 |.str x=>some (.inr x)
 |_=>none
theorem nP{A:qah}{t:T}{k:Key}(h:iw K H A t v)(e:vM t=some k):v=kV k:=by
 cases t with
 |int i=>cases e;exact h.int
 |str x=>cases e;exact h.str
 |_=>cases e
noncomputable def bP{α:Type}:List Key->List α->Key->Option α
 |k::ks,t::ts,x=>if k=x then some t else bP ks ts x
 |_,_,_=>none
def kA(ks:List Key)(x:Key):Bool:=ks.any λk=>decide (k=x)
def dI(ks:List Key)(x:Key):List Key:=if kA ks x=true then ks else ks++[x]
noncomputable def bR{α:Type}(ks:List Key)(ts:List α)(x:Key)(u:α):List α:=if kA ks x=true then List.zipWith (λk t=>if k=x then u else t) ks ts else ts++[u]
theorem e_:∀(ks:List Key)(vs:qak)(x:Key),iI (ks.zip vs) x=bP ks vs x
 |[],vs,x=>rfl
 |k::ks,[],x=>rfl
 |k::ks,v::vs,x=>by simp only[bP,Ho];by_cases e:k=x;rw[if_pos e,ky (p:=(k,v)) e];rw[if_neg e,kz (p:=(k,v)) e];exact e_ ks vs x
theorem vN(ts:List α)(x:Key):bP [] ts x=none:=by cases ts<;>rfl
theorem gZ{K:qaf}{H:Hp}{A:qah}:∀{ks:List Key}{ts:qaj}{vs:qak}{x:Key},ay K H A ts vs->(∀t,bP ks ts x=some t->∃v,bP ks vs x=some v/\At K H A t v)/\(bP ks ts x=none->bP ks vs x=none)
 |[],ts,vs,x,h=>by rw[vN,vN];refine⟨λt e=>?_,λ_=>rfl⟩;cases e
 |k::ks,[],vs,x,h=>by simp only[ay] at h;subst h;exact⟨λt e=>(by cases e),λ_=>rfl⟩
 |k::ks,t::ts,vs,x,h=>by simp only[ay] at h;obtain⟨v,r,rfl,h1,h2⟩:=h;simp only[bP];by_cases e:k=x;rw[if_pos e,if_pos e];exact⟨λt e=>by cases e;exact⟨v,rfl,h1⟩,λq=>by cases q⟩;rw[if_neg e,if_neg e];exact gZ h2
theorem Ja(ks:List Key)(vs:qak)(x:Key)(hl:ks.length=vs.length):((ks.zip vs).any λkv=>decide (kv.1=x))=kA ks x:=by
 unfold kA;induction ks generalizing vs with
 |nil=>rfl
 |cons k ks ih=>
  cases vs with
  |nil=>simp at hl
  |cons v vs=>rw[Ho,CQ,CQ,ih vs (by simpa using hl)]
theorem zip_map(ks:List Key)(vs:qak)(x:Key)(v:V):(ks.zip vs).map (λkv=>if kv.1=x then (kv.1,v) else kv)=ks.zip (List.zipWith (λk t=>if k=x then v else t) ks vs):=by
 induction ks generalizing vs with
 |nil=>rfl
 |cons k ks ih=>
  cases vs with
  |nil=>rfl
  |cons u vs=>simp only[Ho,fS,Mj];rw[ih vs];by_cases e:k=x;rw[if_pos e,if_pos e];rw[if_neg e,if_neg e]
theorem Eu(ks:List Key)(vs:qak)(x:Key)(v:V)(hl:ks.length=vs.length):L2.putK (ks.zip vs) x v=(dI ks x).zip (bR ks vs x v)/\(dI ks x).length=(bR ks vs x v).length:=by unfold L2.putK dI bR;rw[Ja ks vs x hl];by_cases e:kA ks x=true;rw[if_pos e,if_pos e,if_pos e];exact⟨zip_map ks vs x v,by simp[hl]⟩;rw[if_neg e,if_neg e,if_neg e];refine⟨?_,by simp[hl]⟩;rw[List.zip_append hl];rfl
theorem vO{A:qah}{ts:qaj}{x:Key}{t:T}(h:ay K H A ts vs)(ht:At K H A t v):ay K H A (bR ks ts x t) (bR ks vs x v):=by
 unfold bR;by_cases e:kA ks x=true;rw[if_pos e,if_pos e];clear e;induction ks generalizing ts vs with
 |nil=>simp only[List.zipWith_nil_left];exact ay.nil
 |cons k ks ih=>
  cases ts with
  |nil=>simp only[ay] at h;subst h;simp only[List.zipWith_nil_right];exact ay.nil
  |cons t0 ts=>simp only[ay] at h;obtain⟨v0,r,rfl,h1,h2⟩:=h;simp only[Mj];refine ay.cons ?_ (ih h2);by_cases q:k=x;rw[if_pos q,if_pos q];exact ht;rw[if_neg q,if_neg q];exact h1
 rw[if_neg e,if_neg e];exact h.append (ay.cons ht ay.nil)
section
variable{a:Expr}{fc:FE}{pos:Pos}
def SN:FP:=λ_ Q=>Q (.fr (.dk [] []))
theorem tw:VP X Z (.Dict [] [] pos) SN:=.mk λtm=>PE.weak vL λσ H Q ⟨ρ,O,q,I,hf,k⟩ p hp=>
 k _ hf _ _ (aC hp) (I.newD (ks:=[]) (ts:=[]) (vs:=[]) hp rfl ay.nil)
def Zt(fa fb:FE):FP:=λρ Q=>fa ρ λx=>fb ρ λy=>match x,vM y with
 |.dk ks ts,some k=>∃t,bP ks ts k=some t/\Q (.vw t)
 |_,_=>False
def acq(fa fb:FE):FP:=λρ Q=>fa ρ λx=>match x with
 |.dk ks ts=>fb ρ λy=>match vM y with
  |some k=>Q (.vw ((bP ks ts k).getD .aQ))
  |none=>False
 |_=>False
noncomputable def XB(fa fb fc:FE):FP:=λρ Q=>fa ρ λx=>match x with
 |.dk ks ts=>fb ρ λy=>fc ρ λz=>match vM y with
  |some k=>Q (.vw ((bP ks ts k).getD z))
  |none=>False
 |_=>False
theorem Af{A:qah}{ts:qaj}{k:Key}{z:T}{w:V}(h:ay K H A ts vs)(hz:At K H A z w):At K H A ((bP ks ts k).getD z) ((bP ks vs k).getD w):=by
 cases e:bP ks ts k with
 |none=>rw[(gZ h).2 e];exact hz
 |some t=>obtain⟨v,e1,e2⟩:=(gZ h).1 t e;rw[e1];exact e2
theorem tD(hu:X.A.units+1<cLine)(ha:VR X Z a fa)(hb:VR X Z b fb)(hc:VE X Z c fc)(m:M2 X a "get" apos b c aN):VP X Z (.Call (.Attribute a "get" apos) [b,c] [] aN) (XB fa fb fc):=.mk λtm=>PE.weak (Et hu (ha tm) (hb tm) (hc tm) m) λσ H Q ⟨ρ,O,q,I,hf,k⟩ =>
 ⟨ρ,O,_,I,hf,λx hx v H1 s1 a1=>by
  split at hx
  rename_i ks ts
  obtain⟨l,vs,rfl,hl,hd,hv⟩:=a1.dk;refine⟨l,rfl,.inl ⟨_,.inl hd⟩,ρ,O,_,I.same s1,hx,λy hy w H2 s2 a2=>⟨ρ,O,_,(I.same s1).same s2,hy,λz hz u H3 s3 a3=>?_⟩⟩;split at hz
  rename_i kk e
  rw[nP a2 e];refine⟨_,Er.k (s3 _ _ (s2 _ _ hd)),?_⟩;rw[e_];exact k _ hz _ H3 ((s1.trans s2).trans s3) ⟨((I.same s1).same s2).same s3,Af ((hv.same s2).same s3) a3⟩;exact hz.elim;exact hx.elim⟩
noncomputable def Lw(n:Nat)(f fi:FE):FS:=λd ρ=>match ρ[n]? with
 |some (some (.dk ks ts,true))=>f ρ λv=>fi ρ λi=>match vM i with
  |some k=>ts.length<16777216/\d.nx (ρ.set n (some (.dk (dI ks k) (bR ks ts k v),true)))
  |none=>False
 |_=>False
theorem tE(n:Nat){f fi:FE}{i:Expr}(hu:X.A.units+1<cLine)(he:VE X Z e f)(hi:VR X Z i fi)(hN:X.N[n]?=some x:=by rfl)(hv:jA X.env.scope x:=by first|exact Or.inl rfl|exact Or.inr (Or.inl rfl)|exact Or.inr (Or.inr rfl))(hd:gp x:=by decide)(fH:se x:=by decide)(hs:swapsWith e (some (.Subscript (.Name x p) i eI)) pos.line X.env=pure false:=by rfl) :
  VS X Z (.Assign [.Subscript (.Name x p) i eI] e pos) (Lw n f fi):=.mk λtm=>
 PS.weak (Ae hu (bN hN hv hd fH) (hi tm) (he tm) hs) λD σ H ⟨ρ,O,d,I,q,F⟩=>by
  unfold Lw at q;split at q
  rename_i ks ts e0
  obtain⟨l,h1,h2,xs,hl,h3,h4⟩:=I.root e0;have ha:l∈av Z O:=cj _ (aG.mpr (fR h1));refine⟨ρ,O,_,I,q,λt ht v H1 s1 a1=>⟨.ref l,h2,ρ,O,_,I.same s1,ht,λj hj w H2 s2 a2=>?_⟩⟩;split at hj
  rename_i kk ek
  obtain⟨hlen,hj⟩:=hj;have Zu:=s2 _ _ (s1 _ _ h3);have q:=Eu ks xs kk v hl;have hz:(ks.zip xs).length<sizeLine:=by rw[sizeLine_eq,Mp,hl,K4,h4.length];omega
  rw[nP a2 ek];refine⟨l,_,rfl,BI.k Zu hz,?_⟩;rw[q.1];refine F.nx O _ σ _ (((I.same s1).same s2).wrote (t':=.dk (dI ks kk) (bR ks ts kk t)) e0 h1 ⟨bR ks xs kk v,q.2,aB,?_⟩) hj;exact ay.wrote ha Zu rfl (vO ((h4.same s1).same s2) (a1.same s2));exact hj.elim;exact q.elim
end
section
variable{a:Expr}{pos:Pos}
def Lx(ts:qaj)(q:qam):Prop:=match ts with
 |[.dk ks vs]=>q (.vw (.int (vs.length:Int)))
 |_=>False
theorem yx:mF K (λxs H Q=>∃a aY,xs=[V.ref a]/\H a=some (.dK aY)/\Q (.int aY.length) H) Lx:=by intro Z tm O ρ σ H ts vs q Q I h hp k;unfold Lx at hp;split at hp;obtain⟨v,rfl,a⟩:=cR h;obtain⟨l,ws,rfl,hl,hd,hv⟩:=a.dk;refine⟨l,_,rfl,hd,?_⟩;rw[Mp,hl,K4,hv.length];exact k _ hp _ H (aK.refl H) ⟨I,bc⟩;exact hp.elim
end
end VT
namespace RV
open PySem PySem.Spec PyProof.Rows
section
variable{s:Shared}{R:Result->Shared->Prop}
variable{I:Addr}{wr:qah}{G:Array GenState->Array GenState->Prop}{P:Nat->Value->Prop}{St:Nat->Shared->Prop}
end
section
variable{s:Shared}
variable{I:Addr}{wr:qah}{G:Array GenState->Array GenState->Prop}{P:Nat->Value->Prop}{St:Nat->Shared->Prop}
end
end RV
namespace VT
open PySem PySem.Spec PyProof.Rows L2
theorem o4(h:n+101<cLine):n+1<cLine:=by omega
def Ly(w:World)(K:qaf)(e:DictEntry)(p:Str×T):Prop:=e.hash=PyData.keyHash w.params p.1/\(∃t,e.key=.str p.1 t)/\∃v,RelV v e.val/\∀H A,At K H A p.2 v
def rB(w:World)(K:qaf)(a:Addr)(l:List (Str×T)):Prop:=∃es ep,K.lookup a=some ⟨.type "dict",none,.dict es ep,#[]⟩/\(a==sysModules)=false/\Paired (Ly w K) es.toList l/\(l.map (·.1)).Nodup
theorem ents{P:Program}{w:World}{K:qaf}:∀{es:List DictEntry}{l:List (Str×T)},Paired (Ly w K) es l ->
  ∃(vs:qak)(us:List (Key×Value)),(∀H A,ay K H A (l.map (·.2)) vs)/\KV ((l.map λp=>(Sum.inr p.1:Key)).zip vs) us/\PySem.Pairs (aO P w) es us/\us.map (·.1)=l.map (λp=>(Sum.inr p.1:Key))/\∀e∈es,∃k,(aO P w).is k e.key=true/\e.hash=(aO P w).hash k
 |_,_,.nil=>⟨[],[],λ_ _=>ay.nil,.nil,.nil,rfl,λ_ h=>nomatch h⟩
 |_,_,.cons (a:=e) (b:=p) r t=>by
   obtain⟨vs,us,h1,h2,h3,h4,h5⟩:=ents (P:=P) t;obtain⟨r1,⟨tk,r2⟩,v,r3,r4⟩:=r;have hk:(aO P w).is (Sum.inr p.1) e.key=true:=by rw[r2];show Value.isStrOf p.1 (.str p.1 tk)=true;simp[Value.isStrOf]
   refine⟨v::vs,(Sum.inr p.1,e.val)::us,λH A=>ay.cons (r4 H A) (h1 H A),.cons ⟨rfl,r3⟩ h2,.cons hk rfl h3,by rw[fS,fS,h4],λe' he=>?_⟩;rcases cT.mp he with q|q
   subst q;exact⟨Sum.inr p.1,hk,r1⟩;exact h5 e' q
theorem rB.of{s:Shared}{l:List (Str×T)}(I:Inv X pins σ H s)(d:rB X.w X.K a l) :
  ∃(vs:qak)(us:List (Key×Value)),(∀H A,ay X.K H A (l.map (·.2)) vs)/\KV ((l.map λp=>(Sum.inr p.1:Key)).zip vs) us/\s.heap.DictOf (aO X.prog X.w) a us/\(a==sysModules)=false:=by
 obtain⟨es,ep,lk,hs,hp,nd⟩:=d;obtain⟨vs,us,h1,h2,h3,h4,h5⟩:=ents (P:=X.prog) hp;refine⟨vs,us,h1,h2,⟨_,es,ep,I.qV a _ lk,⟨rfl,rfl,rfl⟩,rfl,λe he=>h5 e (by simpa using he),h3,?_⟩,hs⟩;rw[h4];have e:(l.map λp=>(Sum.inr p.1:Key))=(l.map (·.1)).map Sum.inr:=by rw[zB];rfl
 rw[e];exact List.Pairwise.map _ (λa b h z=>h (Sum.inr.inj z)) nd
section
variable{fc:FE}{l:List (Str×T)}
noncomputable def BO(l:List (Str×T))(k:Str):Option T:=bP (l.map λp=>(Sum.inr p.1:Key)) (l.map (·.2)) (Sum.inr k)
def onStr(t:T)(f:Str->Prop):Prop:=match t with
 |.str k=>f k
 |_=>False
theorem vP{t:T}{f:Str->Prop}(h:onStr t f):∃k,t=.str k/\f k:=by unfold onStr at h;split at h;exact⟨_,rfl,h⟩;exact h.elim
noncomputable def XC(l:List (Str×T))(fe fc:FE):FP:=λρ Q=>fe ρ λy=>fc ρ λz=>onStr y λk=>Q (.vw ((BO l k).getD z))
theorem Ew(hg:Gl X x)(hm:X.mg x=some (.ref a))(d:rB X.w X.K a l)(he:VR X Z e fe)(hc:VE X Z c fc)(m:M2 X (.Name x p) "get" apos e c aN)(hd:gp x:=by decide) :
  VP X Z (.Call (.Attribute (.Name x p) "get" apos) [e,c] [] aN) (XC l fe fc):=.mk λtm pins s σ H Q I ⟨ρ,O,q,E,hf,k⟩=>by
 refine wpAny_Call_method m.base m.XA m.line QP KZ PySem.F.type_dict_get (bY (sr hg hm (v:=.ref a) rfl hd pins s σ H (λv H'=>v=.ref a/\H'=H) I ⟨rfl,rfl⟩) λu s1 ⟨x',H1,I1,rx,ex,eH⟩=>?_);subst ex eH;obtain rfl:u=Value.ref a:=rx;obtain⟨vs,us,h1,h2,dd,hs⟩:=d.of I1;refine⟨dd.typeIs,λb q=>?_,?_⟩;cases q;obtain⟨ob,_,_,z1,z2,_⟩:=dd;exact⟨ob,z1,z2.2.1⟩;rw[m.trees];refine QQ rfl (UR (Ml (bY (he tm pins s1 σ H1 (λy H2=>∃t,iw X.K H2 (av Z O) t y/\aK H1 H2/\fc ρ λz=>onStr t λk=>q (.vw ((BO l k).getD z))) I1 ⟨ρ,O,_,E,hf,λt ht v H' s a1=>⟨t,a1,s,ht⟩⟩) λiv s2 ⟨y,H2,I2,ry,t,a1,sa,q2⟩ =>
  Ml (bY (hc tm pins s2 σ H2 (λz H3=>∃tz,At X.K H3 (av Z O) tz z/\aK H2 H3/\onStr t λk=>q (.vw ((BO l k).getD tz))) I2 ⟨ρ,O,_,E.same sa,q2,λtz htz v H' s a2=>⟨tz,a2,s,htz⟩⟩) λfv s3 ⟨z,H3,I3,rz,tz,a2,sb,q3⟩=>Calls.spliced_nil ?_))))
 obtain⟨kk,et,q3⟩:=vP q3;subst et;obtain⟨eT,N8,yy,Ag,BK,NV⟩:=d.of I3;have ey:=a1.str;subst ey;refine call_meetsIn KZ BK.typeIs QR (QO _ _ _) (meets_dict_get_default (aO X.prog X.w) a (oZ (k:=Sum.inr kk) ry) NV fv) ⟨_,BK.mapOf,⟨_,H3,I3.tok _,(Ag.val (Sum.inr kk)).getD rz,?_⟩⟩;rw[e_];exact k _ q3 _ H3 (sa.trans sb) ⟨(E.same sa).same sb,Af (yy H3 (av Z O)) a2⟩
end
abbrev FPs:=En->(List (Key×T)->Prop)->Prop
section
theorem Jc:HS X "dict.setdefault" (λx xs H Q=>∃(a:Addr)(aY:List (Key×V))(k:Key)(v:V),x=.ref a/\xs=[kV k,v]/\H a=some (.dK aY)/\aY.length<sizeLine /\
  (∀u,iI aY k=some u->Q u H)/\(iI aY k=none->Q v (upd H a (.dK (L2.putK aY k v))))):=by
 intro pins s σ H x xs v us Q I rx rs h;obtain⟨a,aY,k,y,rfl,rfl,ha,hsz,q1,q2⟩:=h;cases rx;obtain⟨u1,u2,rfl,ru1,Zv⟩:∃u1 u2,us=[u1,u2]/\RelV (kV k) u1/\RelV y u2:=by
  cases rs with
  |cons r1 t=>cases t with
    |cons r2 t2=>cases t2;exact⟨_,_,rfl,r1,r2⟩
 obtain⟨z,hd,vs,rel,dd⟩:=Ad I.b_ ha;refine call_meetsIn PySem.F.slot_dict_setdefault dd.typeIs PySem.F.entry_dict_setdefault (PySem.F.args_dict_setdefault_3 _ _ _) (kt_meets_setdefault (aO X.prog X.w) a (oZ ru1) hd u2) ⟨vs,dd,by rw[<- rel.length];omega,λv0 hv=>?_,λhn h' BK hs=>?_⟩;have uU:=rel.val k;rw[hv] at uU;cases e:iI aY k with
 |none=>rw[e] at uU;cases uU
 |some w0=>rw[e] at uU;have hr:RelV w0 v0:=uU;exact⟨w0,H,I.tok _,hr,q1 w0 e⟩
 have uU:=rel.val k;rw[hn] at uU;cases e:iI aY k with
 |some w0=>rw[e] at uU;cases uU
 |none=>
   have he:∃q,h'.get? a=some q:=let ⟨q,_,_,hq,_⟩:=BK;⟨q,hq⟩;have hl:(L2.putK aY k y).length<=sizeLine:=by have:=iJ aY k y;omega
   exact⟨y,_,nN (t':=s.toks+1) I (by rw[ha];exact True.intro) hs he (Es hl hd (rel.put k Zv) BK),Zv,q2 e⟩
end
section
variable{e1 e2:Expr}{f1 f2:FE}
noncomputable def Lz(n:Nat)(f1 f2:FE):FX:=λρ Q=>match ρ[n]? with
 |some (some (.dk ks ts,true))=>f1 ρ λx=>f2 ρ λy=>match vM x with
  |some k=>ts.length<16777216/\match bP ks ts k with
   |some t=>Q ρ (.vw t)
   |none=>Q (ρ.set n (some (.dk (ks++[k]) (ts++[y]),true))) (.vw y)
  |none=>False
 |_=>False
theorem Jd(n:Nat)(h1:VE X Z e1 f1)(h2:VE X Z e2 f2)(hN:X.N[n]?=some x:=by rfl)(hv:jA X.env.scope x:=by first|exact Or.inl rfl|exact Or.inr (Or.inl rfl)|exact Or.inr (Or.inr rfl))(hd:gp x:=by decide)(fH:se x:=by decide)(cX:attributeBase (.Name x p) "setdefault" X.env (eval (.Name x p) X.env)=eval (.Name x p) X.env:=by rfl)(jC:((backTo aN (starEach [e1,e2] X.env)).all (λx=>!x.1) && (backToKw aN (keywordEach [] X.env)).all (λx=>x.1.isSome)
    && decide (([e1,e2]:qap).length+([]:List Keyword).length+(if ([]:List Keyword).isEmpty then 0 else 1)<30))=true:=by rfl)(cY:(apos.endLine==aN.line)=true:=by rfl)(hs:starEach [e1,e2] X.env=(false,eval e1 X.env)::starEach [e2] X.env:=by rfl)(qX:starEach [e2] X.env=(false,eval e2 X.env)::starEach [] X.env:=by rfl)(dw:(backTo aN (starEach [e2] X.env)).any (·.1)=false:=by rfl) :
  VX X Z (.Call (.Attribute (.Name x p) "setdefault" apos) [e1,e2] [] aN) (Lz n f1 f2):=.mk λtm=>
 PE.weak (oi QP PySem.F.slot_dict_setdefault PySem.F.type_dict_setdefault Jc (bN hN hv hd fH) (bf (h1 tm) (bf (h2 tm) cN qX) hs) cX jC cY hs dw) λσ H Q ⟨ρ,O,q,I,hf,kk⟩=>by
  unfold Lz at hf;split at hf
  rename_i ks ts e0
  obtain⟨l,g1,g2,xs,hl,g3,g4⟩:=I.root e0;have ha:l∈av Z O:=cj _ (aG.mpr (fR g1));refine⟨.ref l,g2,.inr (.inr (.inl ⟨rfl,.inl ⟨_,g3⟩⟩)),ρ,O,_,I,hf,λt ht v H1 s1 a1=>⟨ρ,O,_,I.same s1,ht,λy hy w H2 s2 a2=>?_⟩⟩;split at hy
  rename_i Qv ek
  obtain⟨hlen,hy⟩:=hy;have ev:v=kV Qv:=nP (.inl a1) ek;subst ev;have hz:(ks.zip xs).length<sizeLine:=by rw[sizeLine_eq,Mp,hl,K4,g4.length];omega
  have J:=(I.same s1).same s2;have b4:=(g4.same s1).same s2;refine⟨l,ks.zip xs,Qv,w,rfl,rfl,s2 _ _ (s1 _ _ g3),hz,λu hu=>?_,λhn=>?_⟩;rw[e_] at hu;cases eg:bP ks ts Qv with
  |none=>rw[(gZ b4).2 eg] at hu;cases hu
  |some t0=>rw[eg] at hy;obtain⟨v0,e1,e2⟩:=(gZ b4).1 t0 eg;rw[e1] at hu;cases hu;exact kk _ _ hy O _ _ ⟨J,e2⟩
  rw[e_] at hn;cases eg:bP ks ts Qv with
  |some t0=>obtain⟨v0,e1,e2⟩:=(gZ b4).1 t0 eg;rw[e1] at hn;cases hn
  |none=>
    rw[eg] at hy;have e1:L2.putK (ks.zip xs) Qv w=(ks++[Qv]).zip (xs++[w]):=by rw[Eo _ (by rw[e_];exact hn),List.zip_append hl];rfl
    rw[e1];refine kk _ _ hy O _ _ ⟨J.wrote e0 g1 ⟨xs++[w],by simp[hl],aB,?_⟩,a2.wrote ha (s2 _ _ (s1 _ _ g3)) rfl⟩;exact (b4.append (ay.cons a2 ay.nil)).wrote ha (s2 _ _ (s1 _ _ g3)) rfl
  exact hy.elim;exact hf.elim
end
noncomputable def o5{α:Type}(f:Str):qai->List α->Option α
 |n::ns,t::ts=>match f==n with
  |true=>some t
  |false=>o5 f ns ts
 |_,_=>none
noncomputable def BP(f:Str):qai->qai
 |[]=>[f]
 |n::ns=>if n=f then n::ns else n::BP f ns
noncomputable def nB{α:Type}(f:Str)(u:α):qai->List α->List α
 |n::ns,t::ts=>if n=f then u::ts else t::nB f u ns ts
 |_,_=>[u]
theorem o6(f:Str):∀(ns:qai)(vs:qak),(ns.zip vs).lookup f=o5 f ns vs
 |[],vs=>by cases vs<;>rfl
 |n::ns,[]=>rfl
 |n::ns,v::vs=>by
  rw[Ho,G1];unfold o5;cases f==n with
  |true=>rfl
  |false=>exact o6 f ns vs
theorem vQ(f:Str)(y:V):∀(ns:qai)(vs:qak),ns.length=vs.length->dh f y (ns.zip vs)=(BP f ns).zip (nB f y ns vs)/\(BP f ns).length=(nB f y ns vs).length
 |[],[],_=>⟨rfl,rfl⟩
 |[],v::vs,h=>by simp at h
 |n::ns,[],h=>by simp at h
 |n::ns,v::vs,h=>by have ih:=vQ f y ns vs (by simpa using h);rw[Ho];show (if n=f then (n,y)::ns.zip vs else (n,v)::dh f y (ns.zip vs))=_/\_;unfold BP nB;by_cases e:n=f;rw[if_pos e,if_pos e,if_pos e];exact⟨rfl,by simpa using h⟩;rw[if_neg e,if_neg e,if_neg e,ih.1];exact⟨rfl,by simp[ih.2]⟩
section
variable{A:qah}{f:Str}
theorem vR:∀{ns:qai}{ts:qaj}{vs:qak}{t:T},ay K H A ts vs->o5 f ns ts=some t->∃v,o5 f ns vs=some v/\At K H A t v
 |[],ts,vs,t,_,e=>by cases ts<;>cases e
 |n::ns,[],vs,t,_,e=>by cases e
 |n::ns,t0::ts,vs,t,h,e=>by
  simp only[ay] at h;obtain⟨v,r,rfl,h1,h2⟩:=h;unfold o5 at e ⊢;cases q:f==n with
  |true=>rw[q] at e;cases e;exact⟨v,rfl,h1⟩
  |false=>rw[q] at e;exact vR h2 e
theorem Ah:∀{ns:qai}{ts:qaj}{vs:qak}{t:T}{v:V},ay K H A ts vs->At K H A t v->ay K H A (nB f t ns ts) (nB f v ns vs)
 |[],ts,vs,t,v,_,q=>by
  have e1:nB f t [] ts=[t]:=by cases ts<;>rfl
  have e2:nB f v [] vs=[v]:=by cases vs<;>rfl
  rw[e1,e2];exact ay.cons q ay.nil
 |n::ns,[],vs,t,v,h,q=>by simp only[ay] at h;subst h;exact ay.cons q ay.nil
 |n::ns,t0::ts,vs,t,v,h,q=>by simp only[ay] at h;obtain⟨v0,r,rfl,h1,h2⟩:=h;unfold nB;by_cases e:n=f;rw[if_pos e,if_pos e];exact ay.cons q h2;rw[if_neg e,if_neg e];exact ay.cons h1 (Ah h2 q)
end
section
variable{f:Str}{pos:Pos}
noncomputable def XD(C:Addr)(f:Str)(fe:FE):FP:=λρ Q=>fe ρ λt=>match t with
 |.ins C' ns ts=>C'=C/\∃u,o5 f ns ts=some u/\Q (.vw u)
 |_=>False
theorem bo(cl:xW X.K C)(na:a8 X.K C f)(h:VR X Z e fe)(hb:attributeBase e f X.env (eval e X.env)=eval e X.env:=by rfl):VP X Z (.Attribute e f pos) (XD C f fe):=.mk λtm=>
 PE.weak (xZ (h tm) hb) λσ H Q ⟨ρ,O,q,I,hf,k⟩=>⟨ρ,O,_,I,hf,λt ht v H1 s1 a1=>by
  split at ht
  rename_i C' ns ts
  obtain⟨rfl,u,e1,hq⟩:=ht;obtain⟨a,dx,vs,rfl,hl,hd,hv⟩:=a1.ins;obtain⟨w,e2,e3⟩:=vR hv e1;exact⟨a,_,dx,_,w,rfl,hd,cl,na,by rw[o6];exact e2,k _ hq _ H1 s1 ⟨I.same s1,e3⟩⟩;exact ht.elim⟩
noncomputable def yz(n:Nat)(C:Addr)(f:Str)(fe:FE):FS:=λd ρ=>match ρ[n]? with
 |some (some (.ins C' ns ts,true))=>C'=C/\fe ρ λv=>ts.length<1000/\d.nx (ρ.set n (some (.ins C' (BP f ns) (nB f v ns ts),true)))
 |_=>False
theorem g9(n:Nat)(cl:xW X.K C)(na:a8 X.K C f)(he:VE X Z e fe)(hN:X.N[n]?=some x:=by rfl)(hv:jA X.env.scope x:=by first|exact Or.inl rfl|exact Or.inr (Or.inl rfl)|exact Or.inr (Or.inr rfl))(hd:gp x:=by decide)(fH:se x:=by decide)(hs:swapsWith e (some (.Attribute (.Name x p) f eI)) pos.line X.env=pure false:=by rfl) :
  VS X Z (.Assign [.Attribute (.Name x p) f eI] e pos) (yz n C f fe):=.mk λtm=>
 PS.weak (eV (bN hN hv hd fH) (he tm) hs) λD σ H ⟨ρ,O,d,I,q,F⟩=>by
  unfold yz at q;split at q
  rename_i C' ns ts e0
  obtain⟨rfl,q⟩:=q;obtain⟨l,h1,h2,dx,xs,hl,h3,h4⟩:=I.root e0;have ha:l∈av Z O:=cj _ (aG.mpr (fR h1));refine⟨ρ,O,_,I,q,λt ht v H1 s1 a1=>⟨.ref l,h2,l,_,dx,_,rfl,s1 _ _ h3,cl,na,?_,?_⟩⟩;rw[Mp,hl,K4,h4.length];exact ht.1;have pz:=vQ f v ns xs hl;rw[pz.1];refine F.nx O _ σ _ ((I.same s1).wrote (t':=.ins _ (BP f ns) (nB f t ns ts)) e0 h1 ⟨dx,nB f v ns xs,pz.2,aB,?_⟩) ht.2;exact ay.wrote ha (s1 _ _ h3) rfl (Ah (h4.same s1) a1);exact q.elim
def LA(K:qaf)(C:Addr)(n:Nat)(G:qaj->(T->Prop)->Prop):Sp:=vt K (true::List.replicate n false) λts q=>match ts with
 |.ins C' [] []::us=>C'=C/\G us λu=>q [u] (.vw .aQ)
 |_=>False
theorem Ai{G:qaj->(T->Prop)->Prop}{tm:qab}{ts:qaj}{q:qam}{Q:VK}(I:aw X.K Z tm O ρ σ H)(a:ay X.K H (av Z O) ts vs)(hn:ts.length=n)(hG:G ts λu=>q (.fr u))(k:∀r,q r->∀v H',aK H H'->fJ X.K Z tm O ρ σ H' r v->Q v H'):∀x dx,H x=none->H dx=none->dx≠x->LA X.K C n G (.ref x::(vs++[])) (upd (upd H dx (.own x)) x (.ins C dx [])) (λv H2=>v=.aQ/\Q (.ref x) H2) E0:=by
 intro x dx hx hdx eW;rw[CO];obtain⟨n1,n2,n3⟩:=I.fresh hx;have s0:aK H (upd (upd H dx (.own x)) x (.ins C dx [])):=λb o e=>by rw[az (aZ e hx),az (aZ e hdx)];exact e
 have a1:ay X.K (upd (upd H dx (.own x)) x (.ins C dx [])) ([x]++av Z O) ts vs:=(a.more λb hb=>by
  rcases cJ.mp hb with z|z
  exact .inr (by rw[gq.mp z];exact hx);exact .inl z).same s0
 refine⟨.ins C [] []::ts,[x],av Z O,λus r=>r=.vw .aQ/\∃u,us=[u]/\q (.fr u),by simp,λb hb=>by rw[gq.mp hb];exact n1,λb hb=>?_,⟨x,[],_,ts,vs,rfl,rfl,rfl,⟨dx,[],rfl,aB,ay.nil⟩,eY hn a1⟩,⟨rfl,?_⟩,λus r hr v H' fr z=>?_⟩;cases e:H b with
 |none=>exact absurd e (I.xG b hb)
 |some o=>rw[s0 _ _ e];simp
 have w:(λu=>q (.fr u))=λu=>((.vw .aQ:Rt)=.vw .aQ/\∃u',[u]=[u']/\q (.fr u')):=by funext u;exact propext ⟨λh=>⟨rfl,u,rfl,h⟩,λ⟨_,u',e,h⟩=>by cases e;exact h⟩
 rw[<- w];exact hG;obtain⟨rfl,u,rfl,hq⟩:=hr;obtain⟨z1,z2⟩:=z;simp only[At] at z1;refine⟨z1,?_⟩;cases z2 with
 |cons r _=>
  have s:aK H H':=λb o e=>fr b o (s0 b o e) (by rw[gq];exact aZ e hx);obtain⟨o,eo,_⟩:=r.mut;refine k _ hq _ H' s ⟨x,rfl,I.D3 hx s eo,r.aR λc hc=>?_,n3,n2⟩;rcases dS c hc with z|z
  exact bK _ z;rw[z];exact cj _ cS
end
structure Dc(K:qaf)(mg:qae)(cls qual:Str)(st:Stmt)(ps:qai)(C f:Addr)(fd:FuncData):Prop where
 F:yd K "__init__" qual st f fd
 m:mg cls=some (.ref C)
 b:Binds K fd ps []
 M:Mk K C f
def Ex(P:Program)(w:World)(K:qaf)(mg:qae)(base:Heap)(cls:Str)(C:Addr)(ps:qai)(k n:Nat)(G:qaj->(T->Prop)->Prop):Prop :=
 ∃f fd,Mk K C f/\mg cls=some (.ref C)/\Binds K fd ps []/\cn P w K mg base dO k f fd ps (LA K C n G)
section
theorem Dc.gX{cls:Str}{st:Stmt}{k:Nat}{G:qaj->(T->Prop)->Prop}(D:Dc K mg cls qual st ps C f fd)(F:cn P w K mg base dO k f fd ps (LA K C n G)):Ex P w K mg base cls C ps k n G :=
 ⟨f,fd,D.M,D.m,D.b,F⟩
theorem Zw{st:Stmt}{N:qai}{k:Nat}{G:qaj->(T->Prop)->Prop}(F:yd K x qual st f fd)(S:aA N ps (ah st))(hn:n+1=ps.length)(cx:∀(bq:Value) (A:Around) (outer:List Env) (s:Shared) (H:Hp) (E:XK) (as Ox:qah),bh k (A.deeper (envOfC qual (ah st) s.heap.objs.size f bq))->∀(us:qaj) (q:qaj->qam),us.length=n->G us (λu=>q [u] (.vw .aQ)) ->
    ∃g,mG (eR dO P w K mg base N qual (ah st) f bq A outer s H E).nX ⟨H,pz (true::List.replicate n false) as 0,Ox⟩ (bw st) g /\
     g {nx:=λρ=>q (jL (true::List.replicate n false) ρ) (.vw .aQ),rt:=λρ r=>q (jL (true::List.replicate n false) ρ) r} (some (.ins C [] [],true)::uF (List.replicate n false) us++List.replicate (N.length-(us.length+1)) none)) :
  cn P w K mg base dO (k+1) f fd ps (LA K C n G) :=
 Zf F S (by rw[<- hn];simp) λbq A outer s H E as Ox hr ts q hl hG=>by
  cases ts with
  |nil=>exact hG.elim
  |cons t us=>cases t with
    |ins C' ns vs=>cases ns with
      |nil=>cases vs with
        |nil=>obtain⟨e,hG'⟩:=hG;subst e;exact cx bq A outer s H E as Ox hr us q (by simpa using hl) hG'
        |cons _ _=>exact hG.elim
      |cons _ _=>exact hG.elim
    |_=>exact hG.elim
end
def Aj(a d:Addr):HO:=.ext λh=>h.get? a=some {cls:=.type "dict_values",data:=.fields #[.ref d]}
theorem vS(val:Nat->Int):∀k,∃j≤k,argBest (λi j=>decide (val i<val j)) k=j/\∀i≤k,val j<=val i
 |0=>⟨0,cU _,rfl,λi hi=>by rw[Nat.le_zero.mp hi];exact Int.le_refl _⟩
 |k+1=>by
  obtain⟨j,hj,e,h⟩:=vS val k;unfold argBest;rw[e];by_cases q:val (k+1)<val j;rw[if_pos (decide_eq_true q)];refine⟨k+1,cU _,rfl,λi hi=>?_⟩;rcases Nat.lt_or_eq_of_le hi with l|l
  exact Int.le_trans (Int.le_of_lt q) (h i (Nat.le_of_lt_succ l));rw[l];exact Int.le_refl _;rw[if_neg (by rw[decide_eq_true_eq];exact q)];refine⟨j,Nat.le_succ_of_le hj,rfl,λi hi=>?_⟩;rcases Nat.lt_or_eq_of_le hi with l|l
  exact h i (Nat.le_of_lt_succ l);rw[l];exact Int.not_lt.mp q
section
theorem BQ:HS X "dict.values" (λx xs H Q=>∃(d:Addr)(aY:List (Key×V)),x=.ref d/\xs=[]/\H d=some (.dK aY)/\∀a,H a=none->Q (.ref a) (upd H a (Aj a d))):=by intro pins s σ H x xs v us Q I rx rs h;obtain⟨d,aY,rfl,rfl,hd,q⟩:=h;cases rx;cases rs;obtain⟨z,hs,vs,rel,dd⟩:=Ad I.b_ hd;refine call_meetsIn PySem.F.slot_dict_values dd.typeIs PySem.F.entry_dict_values (PySem.F.args_dict_values_1 _) (meets_dict_values (aO X.prog X.w) d hs) ⟨⟨vs,dd⟩,?_⟩;refine⟨.ref s.heap.objs.size,_,I.laid (a:=s.heap.objs.size) (t':=s.toks) (λb o e=>fE _ e) (cU _) ?_,rfl,q _ I.fresh⟩;exact⟨k6 _ rfl,⟨_,k6 _ rfl⟩,λh1 h2 z k=>k _ z⟩
theorem tF(hc:X.calm=true):dF X (.builtin "min") (λxs H Q=>∃(a d:Addr)(aY:List (Key×V))(is:qan),xs=[.ref a]/\H a=some (Aj a d)/\H d=some (.dK aY)/\aY.map (·.2)=is.map V.int/\is≠[]/\∀m,m∈is->(∀i∈is,m<=i)->Q (.int m) H):=by
 intro pins s σ H xs us Q I r h;obtain⟨a,d,aY,is,rfl,ha,hd,hv,eW,q⟩:=h;obtain⟨u,rfl,ru⟩:=vals1 r;cases ru;obtain⟨z,hs,vs,rel,dd⟩:=Ad I.b_ hd;obtain⟨hA,_,_⟩:=(show cc X.prog X.w H s.heap a (Aj a d) from I.b_ a _ ha);obtain⟨ep,da⟩:=dd.dictAt;have hh:X.A.in1.handled=none:=by simp[I.ok.hd hc]
 have hlen:vs.length=is.length:=by have:=congrArg List.length hv;rw[cW,cW] at this;rw[<- rel.length];exact this
 have SO:∀(i:Nat)(v:Value),(∃k,vs[i]?=some (k,v))->∃t,v=.int (is.getD i 0) t:=by
  intro i v ⟨k,e⟩;have hi:i<vs.length:=(fG.mp e).1;have hi2:i<aY.length:=by rw[rel.length];exact hi
  have e1:aY[i]?=some aY[i]:=by simp[hi2]
  have key:∀{l₁:List (Key×V)}{l₂:List (Key×Value)}{i:Nat}{p:Key×V}{q:Key×Value},KV l₁ l₂->l₁[i]?=some p->l₂[i]?=some q->RelV p.2 q.2:=by
   intro l₁ l₂ i p q h;unfold KV at h;induction h generalizing i with
   |nil=>intro e;simp at e
   |cons r t ih=>
    intro e e';cases i with
    |zero=>simp at e e';subst e;subst e';exact r.2
    |succ i=>exact ih (by simpa using e) (by simpa using e')
  have rr:=key rel e1 e;have e2:(aY.map (·.2))[i]?=some aY[i].2:=by rw[ij,e1];rfl
  rw[hv,ij] at e2;cases q2:is[i]? with
  |none=>rw[q2] at e2;cases e2
  |some m=>rw[q2] at e2;have e3:aY[i].2=V.int m:=(Option.some.inj e2).symm;rw[e3] at rr;obtain⟨t,et⟩:=rr;exact⟨t,by rw[VZ,q2];exact et⟩
 have hn0:0<vs.length:=by rw[hlen];exact List.length_pos_iff.mpr eW
 refine call_min_walk (wpAny_pyIter_values ⟨_,hA,rfl,rfl⟩ da ?_);refine⟨_,_,_,_,_,_,_,rfl,Walks.dictValues hh _ d (j4 da.lt_size) vs ep,⟨⟨_,k6 _ rfl,rfl,rfl⟩,da.push _⟩,λb hb=>?_,hn0,CmpOf.ints_lt (λi=>is.getD i 0) SO,λv h' tk hP hk=>?_⟩;show b<(s.heap.push _).objs.size;rw[C9];rcases cT.mp hb with rfl|hb
 exact C7 _;rw[gq.mp hb];exact Qj da.lt_size;obtain⟨j,hj,e,hm⟩:=vS (λi=>is.getD i 0) (vs.length-1);rw[e] at hP;obtain⟨t,rfl⟩:=SO j v hP;have Vn:j<is.length:=by omega
 refine⟨.int (is.getD j 0),H,I.kept (t':=tk) λb u eb=>hk b u (λz=>?_) (fE _ eb),⟨t,rfl⟩,q _ ?_ λi hi=>?_⟩;rw[gq.mp z] at eb;exact absurd (fF eb) (CP _);rw[VZ,m6 Vn];exact K3 Vn;obtain⟨n,hn⟩:=UI.mp hi;have Zx:n<is.length:=(fG.mp hn).1;have:=hm n (by omega);have e5:is.getD n 0=i:=by rw[VZ,hn];rfl
 rw[e5] at this;exact this
end
section
variable{a:Expr}{Jb BM:Pos}
def SQ(fa:FE):FP:=λρ Q=>fa ρ λx=>match x with
 |.dk ks ts=>∃is,ts=is.map T.int/\is≠[]/\∀m,m∈is->(∀i∈is,m<=i)->Q (.vw (.int m))
 |_=>False
theorem yA(hc:X.calm=true)(XE:Gl X "min")(hml:X.mg "min"=none)(ha:VR X Z a fa)(cX:attributeBase a "values" X.env (eval a X.env)=eval a X.env:=by rfl)(cY:(apos.endLine==BM.line)=true:=by rfl)(he:starEach [.Call (.Attribute a "values" apos) [] [] BM] X.env=(false,eval (.Call (.Attribute a "values" apos) [] [] BM) X.env)::starEach [] X.env:=by rfl)(gN:(backTo Jb (starEach [] X.env)).any (·.1)=false:=by rfl) :
  VP X Z (.Call (.Name "min" p1) [.Call (.Attribute a "values" apos) [] [] BM] [] Jb) (SQ fa):=.mk λtm=>
 PE.weak (n_ (tF hc) XE hml SA (bf (sJ QP PySem.F.slot_dict_values PySem.F.type_dict_values BQ (ha tm) cX cY) cN he) (by decide) (by decide) he gN) λσ H Q ⟨ρ,O,q,I,hf,k⟩ =>
  ⟨ρ,O,_,I,hf,λx hx v H1 s1 a1=>by
    split at hx
    rename_i ks ts
    obtain⟨is,rfl,eW,hq⟩:=hx;obtain⟨d,vs,rfl,hl,hd,hv⟩:=a1.dk;refine⟨.inr (.inr (.inl ⟨rfl,.inl ⟨_,hd⟩⟩)),d,_,rfl,rfl,hd,λb hb=>?_⟩;have sb:aK H1 (upd H1 b (Aj b d)):=aC hb;have ev:vs=is.map V.int:=by
     clear hq eW hl hd a1;induction is generalizing vs with
     |nil=>simpa only[Hr,ay] using hv
     |cons i is ih=>simp only[fS,ay,At] at hv;obtain⟨v,r,rfl,rfl,h2⟩:=hv;rw[ih r h2];rfl
    subst ev;refine⟨b,d,_,is,rfl,aB,sb _ _ hd,?_,eW,λm h1 h2=>k _ (hq m h1 h2) _ _ (s1.trans sb) ⟨(I.same s1).same sb,bc⟩⟩;rw[List.map_snd_zip];rw[hl];exact cU _;exact hx.elim⟩
end
structure Ey(K:qaf)(H H':Hp)(Ox:qah)(us:qaj)(p:Addr)(ls:qah):Prop where
 same:aK H H'
 tup:H' p=some (.tup (ls.map V.ref))
 nd:ls.Nodup
 new:∀a∈ls,H a=none
 Zy:Paired (λa t=>cC K H' (ls++Ox) a t) ls us
def SR(K:qaf)(n:Nat)(G:qaj->(qaj->Prop)->Prop):Sp:=λvs H Q _=>∃ts Ox q,(∀a∈Ox,H a≠none)/\ay K H Ox ts vs/\ts.length=n/\G ts q /\
 ∀us,q us->∀p ls H',Ey K H H' Ox us p ls->Q (.ref p) H'
structure XF(K:qaf)(Z:Zc)(tm:qab)(d:DY)(dp:qaj->Prop)(D:Ends):Prop where
 fin:Fin K Z tm d D
 dp:∀us,dp us->∀p ls H',Ey K Z.H0 H' Z.Ox us p ls->D.rt (.ref p) H'
abbrev N9:=DY->(qaj->Prop)->En->Prop
def Zz(X:Cx)(Z:Zc)(tm:qab)(g:N9):TS:=λD σ H=>∃ρ O d dp,aw X.K Z tm O ρ σ H/\g d dp ρ/\XF X.K Z tm d dp D
def Ez(X:Cx)(Z:Zc)(st:qaq)(g:N9):Prop:=Bx λtm=>gw X st (Zz X Z tm g)
instance{X:Cx}{Z:Zc}{st:qaq}{g:N9}:CoeFun (Ez X Z st g) λ_=>∀tm,gw X st (Zz X Z tm g):=⟨λh=>Bx.h h⟩
noncomputable def Je(ρ:En):qao->Option (qaj)
 |[]=>some []
 |i::is=>match ρ[i]?,Je ρ is with
  |some (some (t,true)),some ts=>some (t::ts)
  |_,_=>none
section
variable{st:Stmt}{rest:qaq}{g:FS}{u:N9}{pos:Pos}
def SS(g:FS)(u:N9):N9:=λd dp ρ=>g {d with nx:=u d dp} ρ
theorem gE(h1:VS X Z st g)(h2:Ez X Z rest u):Ez X Z (st::rest) (SS g u):=.mk λtm=>gw.gy (bT (h1 tm) (h2 tm)) λD σ H ⟨ρ,O,d,dp,I,h,F⟩ =>
 ⟨ρ,O,{d with nx:=u d dp},I,h,⟨λO' ρ' σ' H' I' h'=>⟨ρ',O',d,dp,I',h',F⟩,F.fin.rt,F.fin.bk,F.fin.ct⟩⟩
def tG(X:Cx):qap->qao->Prop
 |[],is=>is=[]
 |e::es,is=>∃x p i js,e=.Name x p/\is=i::js/\X.N[i]?=some x/\jA X.env.scope x/\(x==("__debug__":Str))=false/\(x==("__classdict__":Str))=false/\starEach (e::es) X.env=(false,eval e X.env)::starEach es X.env/\tG X es js
def SU(is:qao):TA:=λσ H Q=>∃vs,Paired (λ(i:Nat) (v:V)=>σ[i]?=some (some v)) is vs/\Q vs H
theorem Ak:∀{es:qap}{is:qao},tG X es is->PA X es (SU is)
 |[],is,h=>λpos pins s σ H Q I ⟨vs,hv,q⟩=>by have e:is=[]:=h;subst e;cases hv;exact cN pos pins s σ H Q I q
 |e::es,is,h=>by
  obtain⟨x,p,i,js,rfl,rfl,h1,h2,h3,h4,h5,h6⟩:=h;exact PA.weak (bf (bN h1 h2 h3 h4) (Ak h6) h5) λσ H Q ⟨vs,hv,q⟩=>by
   cases hv with
   |cons r t=>exact⟨_,r,_,t,q⟩
theorem vU{K:qaf}{tm:qab}{O:HD}{ρ:En}{σ:St}{H:Hp}(I:aw K Z tm O ρ σ H):∀{is:qao}{ts:qaj},Je ρ is=some ts ->
  ∃ls:qah,Paired (λ(i:Nat) (v:V)=>σ[i]?=some (some v)) is (ls.map V.ref)/\Paired (λ(i:Nat) (a:Addr)=>O[i]?=some (some a)) is ls/\Paired (λa t=>cC K H (av Z O) a t) ls ts
 |[],ts,h=>by cases h;exact⟨[],.nil,.nil,.nil⟩
 |i::is,ts,h=>by
   simp only[Je] at h;split at h
   rename_i t us e1 e2
   cases h;obtain⟨a,h1,h2,h3⟩:=I.root e1;obtain⟨ls,g1,g2,g3⟩:=vU I e2;exact⟨a::ls,.cons h2 g1,.cons h1 g2,.cons h3 g3⟩;cases h
theorem gi{R:α->β->Prop}{l:List α}{m:List β}(h:Paired R l m){b:β}(hb:b∈m):∃a∈l,R a b:=by
 induction h with
 |nil=>cases hb
 |cons r t ih=>
  rcases cT.mp hb with e|hb
  subst e;exact⟨_,cS,r⟩;obtain⟨a,h1,h2⟩:=ih hb;exact⟨a,d_ _ h1,h2⟩
theorem yB{tm:qab}(I:aw K Z tm O ρ σ H){ls:qah}(nd:is.Nodup)(h:Paired (λ(i:Nat) (a:Addr)=>O[i]?=some (some a)) is ls):ls.Nodup:=by
 induction h with
 |nil=>exact G5
 |cons r t ih=>rw[jh] at nd ⊢;refine⟨λm=>?_,ih nd.2⟩;obtain⟨j,hj,e⟩:=gi t m;exact nd.1 (by rw[z7 I r e];exact hj)
noncomputable def LB(is:qao):N9:=λ_ dp ρ=>match Je ρ is with
 |some ts=>dp ts
 |none=>False
theorem Jf{x1}(hP:Z.P=[])(hn:tG X es is)(nd:is.Nodup)(hl:is.length<=100):Ez X Z [.Return (some (.Tuple es x1 p)) pos] (LB is):=.mk λtm=>
 i9 (PS.weak (sy (x5 (Ak hn))) λD σ H ⟨ρ,O,d,dp,I,h,F⟩=>by
  unfold LB at h;split at h
  rename_i ts e
  obtain⟨ls,g1,g2,g3⟩:=vU I e;refine⟨ls.map V.ref,g1,?_,λq hq=>F.dp ts h q ls _ ⟨?_,aB,yB I nd g2,λa ha=>?_,?_⟩⟩;rw[cW,<- Mq g2,sizeLine_eq];omega;intro b o eb;have:=I.keep b o eb (by rw[hP];exact λz=>nomatch z);rw[az (aZ this hq)];exact this;obtain⟨i,_,e⟩:=gi g2 ha;rcases (I.own a (aG.mpr (fR e))).1 with z|z
  rw[hP] at z;exact nomatch z;exact z;refine Paired.m8 g3 λa t r=>(r.same (aC hq)).aR λb hb=>?_;rcases cJ.mp hb with z|z
  obtain⟨i,_,e⟩:=gi g2 z;exact cj _ (aG.mpr (fR e));exact bK _ z;exact h.elim)
end
section
theorem c5(n:Nat):roots (List.replicate n none)=[]:=by
 unfold roots;induction n with
 |zero=>rfl
 |succ n ih=>rw[C4,k5];exact ih
theorem jc{N:qai}{ts:qaj}(hN:ts.length<=N.length)(ox:∀a∈Ox,H a≠none)(h:ay K H Ox ts vs) :
  aw K ⟨H,[],Ox⟩ [] (List.replicate N.length none) (ts.map (λt=>some (t,false))++List.replicate (N.length-ts.length) none) (start N vs) H:=by
 have hl:=h.length;have ea:av ⟨H,[],Ox⟩ (List.replicate N.length none)=Ox:=by unfold av;rw[c5];rfl
 refine⟨?_,by simp;omega,λi e he=>?_,by rw[c5];exact G5,λa ha=>?_,λp hp=>(nomatch hp),ox,λb o e _=>e,λp hp=>(nomatch hp)⟩;unfold L2.start;simp[hl];rw[ea];by_cases hi:i<ts.length;rw[qg (by simpa using hi),ij] at he;have e1:ts[i]?=some ts[i]:=by simp
 rw[e1] at he;cases he;obtain⟨v,h1,h2⟩:=h.get e1;refine⟨none,some v,by rw[zy,if_pos (by omega)],?_,rfl,v,rfl,h2⟩;unfold L2.start;rw[qg (by rw[cW];omega),ij,h1];rfl;rw[uI (by simpa using hi),zy] at he;split at he
 rename_i gQ
 cases he;rw[cW] at gQ;refine⟨none,none,by rw[zy,if_pos (by omega)],?_,rfl⟩;unfold L2.start;rw[uI (by rw[cW];omega),zy,cW,if_pos (by omega)];cases he;rw[c5] at ha;exact nomatch ha
theorem fnD{st:Stmt}{N:qai}{k:Nat}{G:qaj->(qaj->Prop)->Prop}(F:yd K x qual st f fd)(S:aA N ps (ah st))(hn:n=ps.length)(hN:n<=N.length)(cx:∀(bq:Value) (A:Around) (outer:List Env) (s:Shared) (H:Hp) (E:XK) (Ox:qah),bh k (A.deeper (envOfC qual (ah st) s.heap.objs.size f bq))->∀ts q,G ts q ->
    ∃g,Ez (eR dO P w K mg base N qual (ah st) f bq A outer s H E).nX ⟨H,[],Ox⟩ (bw st) g/\(ts.length=n->g {nx:=λ_=>False,rt:=λ_ _=>False} q (ts.map (λt=>some (t,false))++List.replicate (N.length-ts.length) none))) :
  cn P w K mg base dO (k+1) f fd ps (SR K n G):=by
 refine F.ok S (λvs H Q E h=>?_) (λbq A outer s H vs Q E hr h=>?_);obtain⟨ts,Ox,q,_,ha,hl,_⟩:=h;rw[ha.length,hl,hn];obtain⟨ts,Ox,q,ox,ha,hl,hG,kk⟩:=h;obtain⟨g,hg,hq⟩:=cx bq A outer s H E Ox hr ts q hG;exact⟨_,hg [],_,_,_,q,jc (by omega) ox ha,hq hl,⟨⟨λ_ _ _ _ _ h=>h.elim,λ_ _ _ _ _ _ _ h=>h.elim,λ_ _ _ _ _ h=>h.elim,λ_ _ _ _ _ h=>h.elim⟩,λus hu p ls H' D=>kk us hu p ls H' D⟩⟩
end
section
variable{k:Nat}{G:qaj->(qaj->Prop)->Prop}{pos:Pos}
noncomputable def lD(X:Cx)(Z:Zc)(tm:qab)(f:En->(qaj->Prop)->Prop):TE:=λσ H Q=>∃ρ O q,aw X.K Z tm O ρ σ H/\f ρ q/\∀us,q us->∀p ls H',Ey X.K H H' (av Z O) us p ls->Q (.ref p) H'
def VD(X:Cx)(Z:Zc)(e:Expr)(f:En->(qaj->Prop)->Prop):Prop:=Bx λtm=>PE X e (lD X Z tm f)
instance{X:Cx}{Z:Zc}{e:Expr}{f:En->(qaj->Prop)->Prop}:CoeFun (VD X Z e f) λ_=>∀tm,PE X e (lD X Z tm f):=⟨λh=>Bx.h h⟩
def N_(n:Nat)(g:FA)(G:qaj->(qaj->Prop)->Prop):En->(qaj->Prop)->Prop:=λρ Q=>g ρ λts=>ts.length=n/\G ts Q
theorem Jg(F:cn X.prog X.w X.K X.mg X.base dO k f fd ps (SR X.K n G))(hr:bh k X.A)(hg:Gl X x)(hm:X.mg x=some (.ref f))(hk:PySem.W.keepIn X.K (.ref f)=true)(hb:Binds X.K fd ps [])(ha:VA X Z (e::es) g)(kf:gp x:=by decide)(he:starEach (e::es) X.env=(false,eval e X.env)::starEach es X.env:=by rfl)(gN:(backTo pos (starEach es X.env)).any (·.1)=false:=by rfl) :
  VD X Z (.Call (.Name x p) (e::es) [] pos) (N_ n g G):=.mk λtm=>PE.weak (i' F hr hg hm hk hb .nil jq (ha tm) kf he gN) λσ H Q ⟨ρ,O,q,I,hf,k⟩ =>
 ⟨ρ,O,_,I,hf,λts eF vs H1 s1 a1=>by
   show SR X.K n G (vs++[]) H1 Q E0;rw[CO];refine⟨ts,av Z O,q,(I.same s1).xG,a1,eF.1,eF.2,λus hu p ls H' D=>k us hu p ls H' ⟨s1.trans D.same,D.tup,D.nd,λa ha=>?_,D.Zy⟩⟩;cases z:H a with
   |none=>rfl
   |some o=>have:=D.new a ha;rw[s1 _ _ z] at this;cases this⟩
theorem Ey.at{tm:qab}{us:qaj}{p:Addr}{ls:qah}(I:aw K Z tm O ρ σ H)(D:Ey K H H' (av Z O) us p ls):At K H' (av Z O) (.tup us) (.ref p):=by
 refine cf (dD.of D.tup) (ay.iff.mpr ?_);have key:∀{Vo:qah}{N8:qaj},(∀a∈Vo,a∈ls)->Paired (λa t=>cC K H' (ls++av Z O) a t) Vo N8->Paired (λv t=>At K H' (av Z O) t v) (Vo.map V.ref) N8:=by
  intro Vo N8 sub h;induction h with
  |nil=>exact .nil
  |cons r t ih=>refine .cons ((r.aR λb hb=>bK _ hb).at λz=>?_) (ih λa ha=>sub a (d_ _ ha));exact I.xG _ z (D.new _ (sub _ cS))
 exact key (λ_ h=>h) D.Zy
def SV(f:En->(qaj->Prop)->Prop):FP:=λρ Q=>f ρ λus=>Q (.vw (.tup us))
theorem VD.vp{f:En->(qaj->Prop)->Prop}(h:VD X Z e f):VP X Z e (SV f):=.mk λtm=>PE.weak (h tm) λσ H Q ⟨ρ,O,q,I,hf,k⟩ =>
 ⟨ρ,O,_,I,hf,λus hu p ls H' D=>k _ hu _ H' D.same ⟨I.same D.same,D.at I⟩⟩
end
theorem aw.mO{tm:qab}(I:aw K Z tm O ρ σ H)(s:Option V)(hp:bE Z i):aw K Z tm (O.set i none) (ρ.set i none) (σ.set i s) H:=by
 have J:=I.forget hp;refine⟨by simp[I.lσ],J.lO,λj e h=>?_,J.nd,J.own,J.par,J.ox,J.keep,J.mD⟩;obtain⟨o,w,h1,h2,h3⟩:=J.sl j e h;rcases get_set h with⟨rfl,rfl,hl⟩|⟨ne,h'⟩
 exact⟨o,s,h1,by rw[zz (by rw[I.lσ];exact hl)],h3⟩;exact⟨o,w,h1,by rw[qS (Ne.symm ne)];exact h2,h3⟩
noncomputable def N'(X:Cx)(i:Nat)(y:Str):Cx:={X with N:=X.N.set i y}
theorem Oa(o:X.Ok):(N' X i y).Ok :=
 ⟨o.mod,o.kind,o.glob,o.blt,o.above,o.inj,o.has,o.Mx,o.hd,o.frames,o.Qn,o.U0,o.bs,o.CU,o.xM,o.A8,o.j',o.Hu⟩
theorem EA(o:(N' X i y).Ok):X.Ok :=
 ⟨o.mod,o.kind,o.glob,o.blt,o.above,o.inj,o.has,o.Mx,o.hd,o.frames,o.Qn,o.U0,o.bs,o.CU,o.xM,o.A8,o.j',o.Hu⟩
theorem Jh{s:Shared}(i:Nat)(y:Str)(I:Inv X pins σ H s):Inv (N' X i y) pins (σ.set i none) H s:=by
 obtain⟨m,hn,hl⟩:=I.loc;refine⟨Oa I.ok,I.os,I.bare,I.base,⟨m,hn,λj x v h1 h2 h3=>?_⟩,I.cell,I.free,I.gu,I.pin,I.b_,?_⟩;rcases get_set h2 with⟨_,e,_⟩|⟨ne,h2⟩
 cases e;have yy:(X.N.set i y)[j]?=some x:=h1;rw[qS (Ne.symm ne)] at yy;exact hl j x v yy h2 h3;show (σ.set i none).length=(X.N.set i y).length;rw[G2,G2];exact I.len
theorem jd{s:Shared}(I:Inv (N' X i y) pins σ H s):Inv X pins (σ.set i none) H s:=by
 obtain⟨m,hn,hl⟩:=I.loc;refine⟨EA I.ok,I.os,I.bare,I.base,⟨m,hn,λj x v h1 h2 h3=>?_⟩,I.cell,I.free,I.gu,I.pin,I.b_,?_⟩;rcases get_set h2 with⟨_,e,_⟩|⟨ne,h2⟩
 cases e;refine hl j x v ?_ h2 h3;show (X.N.set i y)[j]?=some x;rw[qS (Ne.symm ne)];exact h1;have:=I.len;have e:(N' X i y).N.length=X.N.length:=by show (X.N.set i y).length=_;rw[G2]
 rw[G2];omega
def EB(i:Nat)(d:DY):DY:={nx:=λρ=>d.nx (ρ.set i none),rt:=λρ r=>d.rt (ρ.set i none) r,bk:=λρ=>d.bk (ρ.set i none),ct:=λρ=>d.ct (ρ.set i none)}
def SW(i:Nat)(g:FS):FS:=λd ρ=>g (EB i d) (ρ.set i none)
def EC(i:Nat)(D:Ends):Ends:={nx:=λσ H=>D.nx (σ.set i none) H,rt:=D.rt,bk:=λσ H=>D.bk (σ.set i none) H,ct:=λσ H=>D.ct (σ.set i none) H}
theorem fJ.mO{tm:qab}{r:Rt}(s:Option V)(hp:bE Z i)(h:fJ K Z tm O ρ σ H r v):fJ K Z tm (O.set i none) (ρ.set i none) (σ.set i s) H r v:=by
 cases r with
 |vw t=>exact⟨h.1.mO s hp,h.2.aR (bV i)⟩
 |fr t=>obtain⟨a,e,I,q,h0⟩:=h;exact⟨a,e,I.mO (Z:=Z.ex a) s hp,q.aR (bV i),h0⟩
theorem ED{tm:qab}{d:DY}{D:Ends}(hp:bE Z i)(F:Fin K Z tm d D):Fin K Z tm (EB i d) (EC i D) :=
 ⟨λO ρ σ H I h=>F.nx _ _ _ H (I.mO none hp) h,λO ρ σ H r v z h=>F.rt _ _ _ H r v (z.mO none hp) h,λO ρ σ H I h=>F.bk _ _ _ H (I.mO none hp) h,λO ρ σ H I h=>F.ct _ _ _ H (I.mO none hp) h⟩
section
variable{st:Stmt}{sts:qaq}{g:FS}
theorem Ji{D:Ends}:∀{f:Flow}{s':Shared},SP (N' X i y) pins (EC i D) f s'->SP X pins D f s'
 |.next,s',⟨σ',H',I,q⟩=>⟨σ'.set i none,H',jd I,q⟩
 |.brk,s',⟨σ',H',I,q⟩=>⟨σ'.set i none,H',jd I,q⟩
 |.cont,s',⟨σ',H',I,q⟩=>⟨σ'.set i none,H',jd I,q⟩
 |.ret u,s',⟨v,σ',H',I,r,q⟩=>⟨v,σ'.set i none,H',jd I,r,q⟩
theorem tI(i:Nat)(y:Str)(hp:bE Z i)(h:VS (N' X i y) Z st g):VS X Z st (SW i g):=.mk λtm pins s σ H D I ⟨ρ,O,d,J,q,F⟩ =>
 bY (h tm pins s (σ.set i none) H (EC i D) (Jh i y I) ⟨ρ.set i none,O.set i none,EB i d,J.mO none hp,q,ED hp F⟩) λf s' z=>Ji z
end
section
variable{fo:FE}
def Jj(fo fe:FE):FP:=λρ Q=>fo ρ λx=>match x with
 |.str z=>fe ρ λy=>match y with
  |.str y=>Q (.vw (.bl (Txt.startswith z y)))
  |_=>False
 |_=>False
theorem BR(ho:VR X Z o fo)(he:VR X Z e fe)(cX:attributeBase o "startswith" X.env (eval o X.env)=eval o X.env:=by rfl)(jC:((backTo aN (starEach [e] X.env)).all (λx=>!x.1) && (backToKw aN (keywordEach [] X.env)).all (λx=>x.1.isSome)
    && decide (([e]:qap).length+([]:List Keyword).length+(if ([]:List Keyword).isEmpty then 0 else 1)<30))=true:=by rfl)(cY:(apos.endLine==aN.line)=true:=by rfl)(hs:starEach [e] X.env=(false,eval e X.env)::starEach [] X.env:=by rfl)(dw:(backTo aN (starEach [] X.env)).any (·.1)=false:=by rfl) :
  VP X Z (.Call (.Attribute o "startswith" apos) [e] [] aN) (Jj fo fe):=.mk λtm=>
 PE.weak (oi PySem.F.plainAttrs_str PySem.F.slot_str_startswith PySem.F.type_str_startswith qk (ho tm) (bf (he tm) cN hs) cX jC cY hs dw) λσ H Q ⟨ρ,O,q,I,hf,k⟩ =>
  ⟨ρ,O,_,I,hf,λx hx v H1 s1 a1=>by
    split at hx
    rename_i z
    have ev:=a1.str;subst ev;refine⟨rfl,ρ,O,_,I.same s1,hx,λy hy w H2 s2 a2=>?_⟩;split at hy;have ew:=a2.str;subst ew;exact⟨z,_,rfl,rfl,k _ hy _ H2 (s1.trans s2) ⟨(I.same s1).same s2,dP⟩⟩;exact hy.elim;exact hx.elim⟩
end
section
variable{fo:FE}
def SX(fo:FE)(g:FA):FP:=λρ Q=>fo ρ λx=>match x with
 |.str z=>g ρ λy=>∃ys:qai,y=[.lst (ys.map .str)]/\(ys.map (·.length)).sum+ys.length * z.length<=16777216/\Q (.vw (.str (Txt.join z ys)))
 |_=>False
theorem vV{K:qaf}{H:Hp}{A:qah}:∀{ys:qai}{vs:qak},ay K H A (ys.map .str) vs->vs=ys.map V.str
 |[],vs,h=>by simpa only[Hr,ay] using h
 |y::ys,vs,h=>by simp only[fS,ay,At] at h;obtain⟨v,r,rfl,rfl,h⟩:=h;rw[vV h];rfl
theorem rC(ho:VR X Z o fo)(he:Il X Z [e] g)(cX:attributeBase o "join" X.env (eval o X.env)=eval o X.env:=by rfl)(jC:((backTo aN (starEach [e] X.env)).all (λx=>!x.1) && (backToKw aN (keywordEach [] X.env)).all (λx=>x.1.isSome)
    && decide (([e]:qap).length+([]:List Keyword).length+(if ([]:List Keyword).isEmpty then 0 else 1)<30))=true:=by rfl)(cY:(apos.endLine==aN.line)=true:=by rfl)(hs:starEach [e] X.env=(false,eval e X.env)::starEach [] X.env:=by rfl)(dw:(backTo aN (starEach [] X.env)).any (·.1)=false:=by rfl) :
  VP X Z (.Call (.Attribute o "join" apos) [e] [] aN) (SX fo g):=.mk λtm=>
 PE.weak (oi PySem.F.plainAttrs_str PySem.F.slot_str_join PySem.F.type_str_join Ih (ho tm) (he tm) cX jC cY hs dw) λσ H Q ⟨ρ,O,q,I,hf,k⟩ =>
  ⟨ρ,O,_,I,hf,λx hx v H1 s1 a1=>by
    split at hx
    rename_i z
    have ev:=a1.str;subst ev;refine⟨rfl,ρ,O,_,I.same s1,hx,λy hy w H2 s2 a2=>?_⟩;obtain⟨ys,rfl,hl,hq⟩:=hy;obtain⟨u,rfl,a3⟩:=cR a2;obtain⟨p,vs,rfl,h1,h2⟩:=a3.lst;have ev:=vV h2;subst ev;exact⟨z,p,ys,rfl,rfl,h1,hl,k _ hq _ H2 (s1.trans s2) ⟨(I.same s1).same s2,c_⟩⟩;exact hx.elim⟩
end
inductive S where
 |lf (t:T)
 |lst (xs:List S)
 |dk (ks:List Key) (ts:qaj)
 |dc (nh:List Key×Key->Int) (ks:List (List Key×Key)) (ts:qaj)
 |ins (C:Addr) (ns:qai) (xs:List S)
mutual
noncomputable def S.t:S->T
 |.lf t=>t
 |.lst xs=>.lst (S.ts xs)
 |.dk ks ts=>.dk ks ts
 |.dc nh ks ts=>.dc nh ks ts
 |.ins C ns xs=>.ins C ns (S.ts xs)
noncomputable def S.ts:List S->qaj
 |[]=>[]
 |x::xs=>S.t x::S.ts xs
end
def Ob:Key->T
 |.inl i=>.int i
 |.inr x=>.str x
def C3(c:List Key×Key):T:=.tup [.tup (c.1.map Ob),Ob c.2]
theorem tJ{A:qah}(k:Key):At K H A (Ob k) v↔v=kV k:=by cases k<;>simp only[Ob,At,kV]
theorem nQ{K:qaf}{H:Hp}{A:qah}:∀(ks:List Key){vs:qak},ay K H A (ks.map Ob) vs↔vs=ks.map kV
 |[],vs=>by simp only[Hr,ay]
 |k::ks,vs=>by simp only[fS,ay];constructor;rintro⟨v,r,rfl,h1,h2⟩;rw[(tJ k).mp h1,(nQ ks).mp h2];rintro rfl;exact⟨_,_,rfl,(tJ k).mpr rfl,(nQ ks).mpr rfl⟩
theorem tK{A:qah}{c:List Key×Key}{b:Addr}:At K H A (C3 c) (.ref b)↔nq K H c b:=by unfold C3 nq;simp only[At,ay];constructor;rintro⟨a,vs,e,h1,v,r,rfl,⟨d,ws,rfl,h2,h3⟩,v2,r2,rfl,h4,rfl⟩;cases e;rw[(tJ _).mp h4] at h1;rw[(nQ _).mp h3] at h2;exact⟨d,h1,h2⟩;rintro⟨d,h1,h2⟩;exact⟨b,_,rfl,h1,_,_,rfl,⟨d,_,rfl,h2,(nQ _).mpr rfl⟩,_,_,rfl,(tJ _).mpr rfl,rfl⟩
mutual
def bX(K:qaf)(H:Hp)(A:qah):S->V->qah->Prop
 |.lf t,v,fp=>fp=[]/\At K H A t v
 |.lst xs,v,fp=>∃a vs gP,v=.ref a/\H a=some (.lst vs)/\fp=a::gP/\aX K H A xs vs gP
 |.dk ks ts,v,fp=>∃a vs,v=.ref a/\fp=[a]/\ks.length=vs.length/\H a=some (.dK (ks.zip vs))/\ay K H A ts vs
 |.dc nh ks ts,v,fp=>∃a xs vs,v=.ref a/\fp=[a]/\H a=some (.ext (lp nh a xs))/\ks=xs.map (·.1)/\(a==sysModules)=false/\(∀x∈xs,At K H A (C3 x.1) (.ref x.2.1))/\Vals vs (xs.map (·.2.2))/\ay K H A ts vs
 |.ins C ns xs,v,fp=>∃a dx vs gP,v=.ref a/\ns.length=vs.length/\H a=some (.ins C dx (ns.zip vs))/\fp=a::gP/\aX K H A xs vs gP
def aX(K:qaf)(H:Hp)(A:qah):List S->qak->qah->Prop
 |[],vs,fp=>vs=[]/\fp=[]
 |x::xs,vs,fp=>∃v r f g,vs=v::r/\fp=f++g/\bX K H A x v f/\aX K H A xs r g
end
section
variable{A A':qah}
mutual
theorem bX.map(ha:∀t v,At K H A t v->At K H' A' t v):∀{s:S}{v:V}{fp:qah},(∀b∈fp,H' b=H b)->bX K H A s v fp->bX K H' A' s v fp
 |.lf t,v,fp,hn,h=>by simp only[bX] at h ⊢;exact⟨h.1,ha _ _ h.2⟩
 |.lst xs,v,fp,hn,h=>by simp only[bX] at h ⊢;obtain⟨a,vs,gP,rfl,e,rfl,q⟩:=h;exact⟨a,vs,gP,rfl,(hn a cS).trans e,rfl,aX.map ha (λb hb=>hn b (d_ _ hb)) q⟩
 |.dk ks ts,v,fp,hn,h=>by simp only[bX] at h ⊢;obtain⟨a,vs,rfl,rfl,l,e,q⟩:=h;exact⟨a,vs,rfl,rfl,l,(hn a cS).trans e,ay.iff.mpr (Paired.m8 (ay.iff.mp q) λ_ _ z=>ha _ _ z)⟩
 |.dc nh ks ts,v,fp,hn,h=>by simp only[bX] at h ⊢;obtain⟨a,xs,vs,rfl,rfl,e,ek,em,hk,hv,q⟩:=h;exact⟨a,xs,vs,rfl,rfl,(hn a cS).trans e,ek,em,λx hx=>ha _ _ (hk x hx),hv,ay.iff.mpr (Paired.m8 (ay.iff.mp q) λ_ _ z=>ha _ _ z)⟩
 |.ins C ns xs,v,fp,hn,h=>by simp only[bX] at h ⊢;obtain⟨a,dx,vs,gP,rfl,l,e,rfl,q⟩:=h;exact⟨a,dx,vs,gP,rfl,l,(hn a cS).trans e,rfl,aX.map ha (λb hb=>hn b (d_ _ hb)) q⟩
theorem aX.map(ha:∀t v,At K H A t v->At K H' A' t v):∀{xs:List S}{vs:qak}{fp:qah},(∀b∈fp,H' b=H b)->aX K H A xs vs fp->aX K H' A' xs vs fp
 |[],vs,fp,hn,h=>by simpa only[aX] using h
 |x::xs,vs,fp,hn,h=>by simp only[aX] at h ⊢;obtain⟨v,r,f,g,rfl,rfl,h1,h2⟩:=h;exact⟨v,r,f,g,rfl,rfl,bX.map ha (λb hb=>hn b (cj _ hb)) h1,aX.map ha (λb hb=>hn b (bK _ hb)) h2⟩
end
mutual
theorem bX.mut:∀{s:S}{v:V}{fp:qah},bX K H A s v fp->∀b∈fp,∃u,H b=some u/\jk u=true
 |.lf t,v,fp,h,b,hb=>by simp only[bX] at h;rw[h.1] at hb;cases hb
 |.lst xs,v,fp,h,b,hb=>by
  simp only[bX] at h;obtain⟨a,vs,gP,rfl,e,rfl,q⟩:=h;rcases cT.mp hb with z|z
  rw[z];exact⟨_,e,rfl⟩;exact aX.mut q b z
 |.dk ks ts,v,fp,h,b,hb=>by simp only[bX] at h;obtain⟨a,vs,rfl,rfl,l,e,q⟩:=h;rw[gq.mp hb];exact⟨_,e,rfl⟩
 |.dc nh ks ts,v,fp,h,b,hb=>by simp only[bX] at h;obtain⟨a,xs,vs,rfl,rfl,e,_⟩:=h;rw[gq.mp hb];exact⟨_,e,rfl⟩
 |.ins C ns xs,v,fp,h,b,hb=>by
  simp only[bX] at h;obtain⟨a,dx,vs,gP,rfl,l,e,rfl,q⟩:=h;rcases cT.mp hb with z|z
  rw[z];exact⟨_,e,rfl⟩;exact aX.mut q b z
theorem aX.mut:∀{xs:List S}{vs:qak}{fp:qah},aX K H A xs vs fp->∀b∈fp,∃u,H b=some u/\jk u=true
 |[],vs,fp,h,b,hb=>by simp only[aX] at h;rw[h.2] at hb;cases hb
 |x::xs,vs,fp,h,b,hb=>by
  simp only[aX] at h;obtain⟨v,r,f,g,rfl,rfl,h1,h2⟩:=h;rcases cJ.mp hb with z|z
  exact bX.mut h1 b z;exact aX.mut h2 b z
end
theorem bX.same{s:S}(sm:aK H H')(h:bX K H A s v fp):bX K H' A s v fp :=
 h.map (λ_ _ q=>q.same sm) λb hb=>by obtain⟨u,e,_⟩:=h.mut b hb;rw[e];exact sm _ _ e
theorem bX.more{s:S}(m:∀a∈A',a∈A\/H a=none)(h:bX K H A s v fp):bX K H A' s v fp:=h.map (λ_ _ q=>q.more m) λ_ _=>rfl
theorem bX.aR{s:S}(m:∀a∈A',a∈A)(h:bX K H A s v fp):bX K H A' s v fp:=h.map (λ_ _ q=>q.aR m) λ_ _=>rfl
mutual
theorem bX.view:∀{s:S}{v:V}{fp:qah},(∀b∈A',b∈A)->(∀b∈fp,b∉A')->bX K H A s v fp->At K H A' s.t v
 |.lf t,v,fp,hs,hn,h=>by simp only[bX,S.t] at h ⊢;exact h.2.aR hs
 |.lst xs,v,fp,hs,hn,h=>by simp only[bX,S.t,At] at h ⊢;obtain⟨a,vs,gP,rfl,e,rfl,q⟩:=h;exact⟨a,vs,rfl,.inl ⟨.inl e,hn a cS⟩,aX.view hs (λb hb=>hn b (d_ _ hb)) q⟩
 |.dk ks ts,v,fp,hs,hn,h=>by simp only[bX,S.t,At] at h ⊢;obtain⟨a,vs,rfl,rfl,l,e,q⟩:=h;exact⟨a,vs,rfl,l,⟨e,hn a cS⟩,q.aR hs⟩
 |.dc nh ks ts,v,fp,hs,hn,h=>by simp only[bX,S.t,At] at h ⊢;obtain⟨a,xs,vs,rfl,rfl,e,ek,em,hk,hv,q⟩:=h;exact⟨a,xs,vs,rfl,⟨e,hn a cS⟩,ek,em,λx hx=>tK.mp (hk x hx),hv,q.aR hs⟩
 |.ins C ns xs,v,fp,hs,hn,h=>by simp only[bX,S.t,At] at h ⊢;obtain⟨a,dx,vs,gP,rfl,l,e,rfl,q⟩:=h;exact⟨a,dx,vs,rfl,l,⟨e,hn a cS⟩,aX.view hs (λb hb=>hn b (d_ _ hb)) q⟩
theorem aX.view:∀{xs:List S}{vs:qak}{fp:qah},(∀b∈A',b∈A)->(∀b∈fp,b∉A')->aX K H A xs vs fp->ay K H A' (S.ts xs) vs
 |[],vs,fp,hs,hn,h=>by simp only[aX,S.ts,ay] at h ⊢;exact h.1
 |x::xs,vs,fp,hs,hn,h=>by simp only[aX,S.ts,ay] at h ⊢;obtain⟨v,r,f,g,rfl,rfl,h1,h2⟩:=h;exact⟨v,r,rfl,bX.view hs (λb hb=>hn b (cj _ hb)) h1,aX.view hs (λb hb=>hn b (bK _ hb)) h2⟩
end
end
inductive jN where
 |fld (C:Addr) (f:Str)
 |last
def jO(f:Str):qai->Option Nat
 |[]=>none
 |n::ns=>match f==n with
  |true=>some 0
  |false=>(jO f ns).map (· + 1)
def S.SY:S->jN->Option Nat
 |.ins C ns xs,.fld C' f=>if C'=C then jO f ns else none
 |.lst xs,.last=>if 0<xs.length then some (xs.length-1) else none
 |_,_=>none
def S.kids:S->List S
 |.lst xs=>xs
 |.ins _ _ xs=>xs
 |_=>[]
def S.with:S->List S->S
 |.lst _,ys=>.lst ys
 |.ins C ns _,ys=>.ins C ns ys
 |s,_=>s
def S.get:S->List jN->Option S
 |s,[]=>some s
 |s,p::ps=>match s.SY p with
  |some i=>match s.kids[i]? with
   |some x=>x.get ps
   |none=>none
  |none=>none
def S.put:S->List jN->S->S
 |_,[],y=>y
 |s,p::ps,y=>match s.SY p with
  |some i=>match s.kids[i]? with
   |some x=>s.with (s.kids.set i (x.put ps y))
   |none=>s
  |none=>s
def fN(H:Hp)(v:V)(p:jN):Option V:=match v with
 |.ref a=>match H a with
  |some (.ins C _ fs)=>match p with
   |.fld C' f=>if C'=C then fs.lookup f else none
   |.last=>none
  |some (.lst vs)=>match p with
   |.last=>vs.getLast?
   |_=>none
  |_=>none
 |_=>none
def valAt(H:Hp):V->List jN->Option V
 |v,[]=>some v
 |v,p::ps=>(fN H v p).bind λw=>valAt H w ps
theorem lY(H:Hp)(p:jN):∀(ps:List jN)(v:V),valAt H v (ps++[p])=(valAt H v ps).bind λw=>fN H w p
 |[],v=>by show (fN H v p).bind (λw=>some w)=(some v).bind λw=>fN H w p;simp
 |q::ps,v=>by
  show (fN H v q).bind (λw=>valAt H w (ps++[p]))=((fN H v q).bind λw=>valAt H w ps).bind λw=>fN H w p;cases fN H v q with
  |none=>rfl
  |some w=>exact lY H p ps w
theorem lZ(f:Str):∀(ns:qai)(vs:qak){i:Nat},jO f ns=some i->(ns.zip vs).lookup f=vs[i]?
 |[],vs,i,h=>by cases h
 |n::ns,[],i,h=>by simp
 |n::ns,v::vs,i,h=>by
  rw[Ho,G1];unfold jO at h;cases q:f==n with
  |true=>rw[q] at h;cases h;rfl
  |false=>
   rw[q] at h;dsimp only at h;cases e:jO f ns with
   |none=>rw[e] at h;cases h
   |some j=>rw[e] at h;cases h;exact lZ f ns vs e
section
variable{A:qah}
theorem aX.length:∀{xs:List S}{vs:qak}{fp:qah},aX K H A xs vs fp->vs.length=xs.length
 |[],vs,fp,h=>by simp only[aX] at h;rw[h.1];rfl
 |x::xs,vs,fp,h=>by simp only[aX] at h;obtain⟨v,r,f,g,rfl,rfl,h1,h2⟩:=h;simp[aX.length h2]
theorem aX.focus:∀{xs:List S}{vs:qak}{fp:qah}{i:Nat}{x:S},aX K H A xs vs fp->xs[i]?=some x->∃v f1 f f2,vs[i]?=some v/\fp=f1++(f++f2)/\bX K H A x v f /\
  ∀{H':Hp}{A':qah}{y:S}{g:qah},(∀t v,At K H A t v->At K H' A' t v)->(∀b∈f1++f2,H' b=H b)->bX K H' A' y v g->aX K H' A' (xs.set i y) vs (f1++(g++f2))
 |[],vs,fp,i,x,h,e=>by simp at e
 |x0::xs,vs,fp,0,x,h,e=>by simp only[UM,Option.some.injEq] at e;subst e;simp only[aX] at h;obtain⟨v,r,f,g,rfl,rfl,h1,h2⟩:=h;refine⟨v,[],f,g,rfl,rfl,h1,λha hn hy=>?_⟩;simp only[K1,aX];exact⟨v,r,_,g,rfl,rfl,hy,aX.map ha (λb hb=>hn b (by simpa using hb)) h2⟩
 |x0::xs,vs,fp,i+1,x,h,e=>by
   simp only[List.getElem?_cons_succ] at e;simp only[aX] at h;obtain⟨v,r,f,g,rfl,rfl,h1,h2⟩:=h;obtain⟨w,f1,f',f2,e1,rfl,h3,k⟩:=aX.focus h2 e;refine⟨w,f++f1,f',f2,by simpa using e1,by rw[List.append_assoc],h3,λha hn hy=>?_⟩;simp only[C5,aX];exact⟨v,r,f,_,rfl,by rw[List.append_assoc],bX.map ha (λb hb=>hn b (by simp[hb])) h1,k ha (λb hb=>hn b (by
    rcases cJ.mp hb with z|z
    simp[z];simp[z])) hy⟩
theorem bX.focus:∀{ps:List jN}{s x:S}{v:V}{fp:qah},bX K H A s v fp->s.get ps=some x->∃w f1 f f2,fp=f1++(f++f2)/\valAt H v ps=some w/\bX K H A x w f /\
  ∀{H':Hp}{A':qah}{y:S}{g:qah},(∀t v,At K H A t v->At K H' A' t v)->(∀b∈f1++f2,H' b=H b)->bX K H' A' y w g->bX K H' A' (s.put ps y) v (f1++(g++f2))
 |[],s,x,v,fp,h,e=>by cases e;exact⟨v,[],fp,[],by simp,rfl,h,λ_ _ hy=>by simpa[S.put] using hy⟩
 |p::ps,s,x,v,fp,h,e=>by
   unfold S.get at e;cases hk:s.SY p with
   |none=>rw[hk] at e;cases e
   |some i=>
     rw[hk] at e;dsimp only at e;cases hx:s.kids[i]? with
     |none=>rw[hx] at e;cases e
     |some x0=>
       rw[hx] at e;dsimp only at e
       match s,h with
       |.lf t,h=>cases p<;>cases hk
       |.dk ks ts,h=>cases p<;>cases hk
       |.dc nh ks ts,h=>cases p<;>cases hk
       |.lst xs,h=>
         simp only[bX] at h;obtain⟨a,vs,gP,rfl,ea,rfl,q⟩:=h;obtain⟨v1,f1,f,f2,hv,rfl,h1,k1⟩:=aX.focus q hx;obtain⟨w,g1,g,g2,rfl,ev,h2,k2⟩:=bX.focus h1 e;have e1:fN H (.ref a) p=some v1:=by
          cases p with
          |fld C f=>cases hk
          |last=>have Al:(if 0<xs.length then some (xs.length-1) else none)=some i:=hk;split at Al;cases Al;unfold fN;dsimp only;rw[ea];dsimp only;rw[Qh,q.length];exact hv;cases Al
         refine⟨w,a::(f1++g1),g,g2++f2,by simp,by show (fN H (.ref a) p).bind _=_;rw[e1];exact ev,h2,λ{H' A' y g'} ha hn hy=>?_⟩;unfold S.put;rw[hk];dsimp only;rw[hx];dsimp only;have h3:=k1 ha (λb hb=>hn b (by rcases cJ.mp hb with z|z<;>simp[z])) (k2 ha (λb hb=>hn b (by rcases cJ.mp hb with z|z<;>simp[z])) hy);simp only[S.with,S.kids,bX];exact⟨a,vs,_,rfl,(hn a (by simp)).trans ea,by simp,h3⟩
       |.ins C ns xs,h=>
         simp only[bX] at h;obtain⟨a,dx,vs,gP,rfl,l,ea,rfl,q⟩:=h;obtain⟨v1,f1,f,f2,hv,rfl,h1,k1⟩:=aX.focus q hx;obtain⟨w,g1,g,g2,rfl,ev,h2,k2⟩:=bX.focus h1 e;have e1:fN H (.ref a) p=some v1:=by
          cases p with
          |last=>cases hk
          |fld C' f=>
            have Al:(if C'=C then jO f ns else none)=some i:=hk;split at Al
            rename_i hC
            unfold fN;dsimp only;rw[ea];dsimp only;rw[if_pos hC,lZ f ns vs Al];exact hv;cases Al
         refine⟨w,a::(f1++g1),g,g2++f2,by simp,by show (fN H (.ref a) p).bind _=_;rw[e1];exact ev,h2,λ{H' A' y g'} ha hn hy=>?_⟩;unfold S.put;rw[hk];dsimp only;rw[hx];dsimp only;have h3:=k1 ha (λb hb=>hn b (by rcases cJ.mp hb with z|z<;>simp[z])) (k2 ha (λb hb=>hn b (by rcases cJ.mp hb with z|z<;>simp[z])) hy);simp only[S.with,S.kids,bX];exact⟨a,dx,vs,_,rfl,l,(hn a (by simp)).trans ea,by simp,h3⟩
end
structure Mz where
 H0:Hp
 rk:qah
 Ox:qah
 a:Addr
 k:Nat
noncomputable def jl(H:Hp)(L:qah):Hp:=λb=>if b∈L then none else H b
theorem vW{L:qah}{b:Addr}{o:HO}(h:jl H L b=some o):H b=some o/\b∉L:=by
 unfold jl at h;split at h;cases h
 rename_i n;exact⟨h,n⟩
theorem vX{L:qah}{b:Addr}(h:jl H L b=none):b∈L\/H b=none:=by
 unfold jl at h;split at h
 rename_i n;exact .inl n
 exact .inr h
theorem EE{L:qah}{b:Addr}(h:b∈L):jl H L b=none:=by unfold jl;rw[if_pos h]
theorem Am{L:qah}{b:Addr}(h:b∉L):jl H L b=H b:=by unfold jl;rw[if_neg h]
structure Mf(K:qaf)(M:Mz)(O:HD)(fp:qah)(s:S)(H:Hp):Prop where
 mP:bX K H (roots O++(fp++M.Ox)) s (.ref M.a) fp
 nd:fp.Nodup
 l0:∀b∈fp,b∉roots O/\b∉M.Ox
 fr:∀b∈fp,b∈M.rk\/M.H0 b=none
 kp:∀b o,M.H0 b=some o->b∉M.rk->H b=some o/\b∉roots O
noncomputable abbrev zf(M:Mz)(O:HD)(H:Hp):Zc:=⟨jl H (roots O),[],M.Ox⟩
section
variable{M:Mz}{Of:HD}{s:S}{Hf:Hp}{tm:qab}
theorem Mf.now(F:Mf K M Of fp s Hf)(I:aw K (zf M Of Hf) tm O ρ σ H)(hr:∀b∈roots Of,∃u,Hf b=some u/\jk u=true):Mf K M O fp s H:=by
 have old:∀b∈roots O,b∈roots Of\/Hf b=none:=λb hb=>by
  rcases (I.own b hb).1 with z|z
  cases z;exact vX z
 have kept:∀b o,Hf b=some o->b∉roots Of->H b=some o:=λb o e n=>I.keep b o (by show jl Hf (roots Of) b=some o;rw[Am n];exact e) (by show b∉[];simp);have gP:∀b∈fp,∃u,Hf b=some u/\jk u=true:=F.mP.mut;refine⟨?_,F.nd,λb hb=>⟨λz=>?_,(F.l0 b hb).2⟩,F.fr,λb o e n=>?_⟩;refine bX.map (λt v q=>?_) (λb hb=>?_) F.mP;have q1:At K Hf (roots Of++(roots O++(fp++M.Ox))) t v:=q.more λa ha=>by
  rcases cJ.mp ha with z|z
  exact .inl (cj _ z);rcases cJ.mp z with z|z
  rcases old a z with y|y
  exact .inl (cj _ y);exact .inr y;exact .inl (bK _ z)
 have q2:At K H (roots Of++(roots O++(fp++M.Ox))) t v:=q1.oH (as:=roots Of) kept (λa ha=>cj _ ha) hr;exact q2.aR λa ha=>bK _ ha;obtain⟨u,e,_⟩:=gP b hb;rw[e];exact kept b u e (F.l0 b hb).1;rcases old b z with y|y
 exact (F.l0 b hb).1 y;obtain⟨u,e,_⟩:=gP b hb;rw[e] at y;cases y;obtain⟨h1,h2⟩:=F.kp b o e n;refine⟨kept b o h1 h2,λz=>?_⟩;rcases old b z with y|y
 exact h2 y;rw[h1] at y;cases y
theorem aw.rebase(I:aw K Z tm O ρ σ H)(hZ:Z.P=[]):aw K ⟨jl H (roots O),[],Z.Ox⟩ tm O ρ σ H :=
 ⟨I.lσ,I.lO,I.sl,I.nd,λa h=>⟨.inr (EE h),(I.own a h).2⟩,λp hp=>(nomatch hp),I.ox,λb o e _=>(vW e).1,I.mD⟩
structure kB(K:qaf)(M:Mz)(ρ:En)(s:S)(σ:St)(H:Hp):Prop where
 ex:∃O fp,Mf K M O fp s H/\aw K (zf M O H) [] O ρ σ H
 pin:ρ[M.k]?=some (some (.pin M.a s.t,false))
theorem kB.of(F:Mf K M Of fp s Hf)(hr:∀b∈roots Of,∃u,Hf b=some u/\jk u=true)(I:aw K (zf M Of Hf) [] O ρ σ H)(hp:ρ[M.k]?=some (some (.pin M.a s.t,false))):kB K M ρ s σ H :=
 ⟨⟨O,fp,F.now I hr,I.rebase (Z:=zf M Of Hf) rfl⟩,hp⟩
theorem bu(I:aw K (zf M O H) tm O ρ σ H):∀b∈roots O,∃u,H b=some u/\jk u=true:=λb hb=>(I.own b hb).2.2
noncomputable def o7:Option (T×Bool)->Option (T×Bool)
 |some (t,false)=>if bJ t=true then some (t,false) else none
 |e=>e
def fO:Option (T×Bool)->Prop
 |some (.lst ts,true)=>cb ts=true
 |some (.dk _ ts,true)=>cb ts=true
 |some (_,true)=>False
 |_=>True
noncomputable def j6(M:Mz)(ρ:En)(s:S):En:=(ρ.map o7).set M.k (some (.pin M.a s.t,false))
theorem cC.bJ{A A':qah}{t:T}(hi:fO (some (t,true)))(h:cC K H A a t)(e:H' a=H a)(hm:∀t v,bJ t=true->At K H A t v->At K H' A' t v):cC K H' A' a t:=by
 have ml:∀{ts:qaj}{vs:qak},cb ts=true->ay K H A ts vs->ay K H' A' ts vs:=by
  intro ts;induction ts with
  |nil=>intro vs _ q;simpa only[ay] using q
  |cons t ts ih=>intro vs hi q;simp only[cb,jm] at hi;simp only[ay] at q ⊢;obtain⟨v,r,rfl,q1,q2⟩:=q;exact⟨v,r,rfl,hm _ _ hi.1 q1,ih hi.2 q2⟩
 cases t with
 |lst ts=>obtain⟨vs,e1,q⟩:=h;exact⟨vs,e.trans e1,ml hi q⟩
 |dk ks ts=>obtain⟨vs,l,e1,q⟩:=h;exact⟨vs,l,e.trans e1,ml hi q⟩
 |_=>exact False.elim hi
theorem Mf.write{fp':qah}{s':S}(F:Mf K M O fp s H)(I:aw K (zf M O H) [] O ρ σ H)(nC:∀e∈ρ,fO e)(hk:ρ[M.k]?≠none)(ho:O[M.k]?=some none)(hσ:σ[M.k]?=some (some (.ref M.a)))(fr:∀b o,H b=some o->b∉fp->H' b=some o)(hS:bX K H' (roots O++(fp'++M.Ox)) s' (.ref M.a) fp')(nd:fp'.Nodup)(l0:∀b∈fp',b∉roots O/\b∉M.Ox)(ZA:∀b∈fp',b∈M.rk\/M.H0 b=none):kB K M (j6 M ρ s') s' σ H':=by
 have kept:∀b∈roots O,H' b=H b:=λb hb=>by obtain⟨u,e,_⟩:=bu I b hb;rw[e];exact fr _ _ e λz=>(F.l0 b z).1 hb
 have tr:∀t v,bJ t=true->At K H (av (zf M O H) O) t v->At K H' (roots O++M.Ox) t v:=λt v hi q=>by have q1:At K H fp t v:=At.bJ hi q;exact At.bJ hi (q1.oH (as:=fp) fr (λa h=>h) F.mP.mut)
 have XG:M.k<ρ.length:=by
  cases h:ρ[M.k]? with
  |none=>exact absurd h hk
  |some e=>exact (fG.mp h).1
 refine⟨⟨O,fp',⟨hS,nd,l0,ZA,λb o e n=>?_⟩,⟨?_,?_,λj e h=>?_,I.nd,λb hb=>⟨.inr (EE hb),(I.own b hb).2.1,?_⟩,λp hp=>(nomatch hp),λb hb=>?_,λb o e _=>(vW e).1,λp hp=>(nomatch hp)⟩⟩,?_⟩;obtain⟨h1,h2⟩:=F.kp b o e n;refine⟨fr _ _ h1 λz=>?_,h2⟩;rcases F.fr b z with y|y
 exact n y;rw[e] at y;cases y;unfold j6;rw[G2,cW];exact I.lσ;unfold j6;rw[G2,cW];exact I.lO;unfold j6 at h;rcases get_set h with⟨rfl,rfl,hl⟩|⟨ne,h⟩
 refine⟨none,_,ho,hσ,rfl,.ref M.a,rfl,?_⟩;simp only[At];refine⟨trivial,hS.view (λb hb=>?_) (λb hb z=>?_)⟩;rcases cJ.mp hb with z|z
 exact cj _ z;exact bK _ (bK _ z);rcases cJ.mp z with z|z
 exact (l0 b hb).1 z;exact (l0 b hb).2 z;rw[List.getElem?_map] at h;cases h0:ρ[j]? with
 |none=>rw[h0] at h;cases h
 |some e0=>
  rw[h0] at h;have he:o7 e0=e:=Option.some.inj h;obtain⟨o,w,h1,h2,h3⟩:=I.sl j e0 h0;refine⟨o,w,h1,h2,?_⟩;subst he
  match e0,h3,h0 with
  |none,h3,_=>exact h3
  |some (t,false),h3,_=>obtain⟨rfl,v,rfl,q⟩:=h3;show lq K H' (av (zf M O H') O) (if bJ t=true then some (t,false) else none) none (some v);by_cases hi:bJ t=true;rw[if_pos hi];exact⟨rfl,v,rfl,tr t v hi q⟩;rw[if_neg hi];rfl
  |some (t,true),h3,h0=>obtain⟨c,rfl,rfl,q⟩:=h3;exact⟨c,rfl,rfl,q.bJ (nC _ (fR h0)) (kept c (aG.mpr (fR h1))) tr⟩
 obtain⟨u,e,m⟩:=(I.own b hb).2.2;exact⟨u,(kept b hb).trans e,m⟩;cases e:H b with
 |none=>exact absurd e (I.ox b hb)
 |some u=>rw[fr _ _ e λz=>(F.l0 b z).2 hb];simp
 unfold j6;rw[zz (by rw[cW];exact XG)]
end
structure LC where
 nx:En->S->Prop
 rt:En->S->qam
 bk:En->S->Prop:=λ_ _=>False
 ct:En->S->Prop:=λ_ _=>False
structure Oc(K:qaf)(M:Mz)(d:LC)(D:Ends):Prop where
 nx:∀ρ s σ H,kB K M ρ s σ H->d.nx ρ s->D.nx σ H
 rt:∀ρ s σ H r v O fp Of Hf,Mf K M Of fp s Hf->(∀b∈roots Of,∃u,Hf b=some u/\jk u=true)->fJ K (zf M Of Hf) [] O ρ σ H r v->d.rt ρ s r->D.rt v H
 bk:∀ρ s σ H,kB K M ρ s σ H->d.bk ρ s->D.bk σ H
 ct:∀ρ s σ H,kB K M ρ s σ H->d.ct ρ s->D.ct σ H
abbrev FM:=LC->En->S->Prop
def lM(X:Cx)(M:Mz)(g:FM):TS:=λD σ H=>∃ρ s d,kB X.K M ρ s σ H/\g d ρ s/\Oc X.K M d D
structure Bm(p:Prop):Prop where
 h:p
def MS(X:Cx)(M:Mz)(st:Stmt)(g:FM):Prop:=Bm (PS X st (lM X M g))
def An(X:Cx)(M:Mz)(st:qaq)(g:FM):Prop:=Bm (gw X st (lM X M g))
section
variable{M:Mz}{st:Stmt}{rest:qaq}{g u:FM}{pos:Pos}
def S3:FM:=λd ρ s=>d.nx ρ s
def XH(g u:FM):FM:=λd ρ s=>g {d with nx:=u d} ρ s
theorem Jk:An X M [] S3:=⟨gw.gy su λD σ H ⟨ρ,s,d,I,h,F⟩=>F.nx ρ s σ H I h⟩
theorem cq(h1:MS X M st g)(h2:An X M rest u):An X M (st::rest) (XH g u):=⟨gw.gy (bT h1.h h2.h) λD σ H ⟨ρ,s,d,I,h,F⟩ =>
 ⟨ρ,s,{d with nx:=u d},I,h,⟨λρ' s' σ' H' I' h'=>⟨ρ',s',d,I',h',F⟩,F.rt,F.bk,F.ct⟩⟩⟩
theorem cu(h1:MS X M st g):An X M [st] g:=⟨i9 h1.h⟩
theorem An.weak(h:An X M rest g)(hw:∀d ρ s,u d ρ s->g d ρ s):An X M rest u:=⟨gw.gy h.h λD σ H ⟨ρ,s,d,I,q,F⟩=>⟨ρ,s,d,I,hw d ρ s q,F⟩⟩
noncomputable def ZC(M:Mz)(d:LC)(s:S):DY:={nx:=λρ'=>ρ'[M.k]?=some (some (.pin M.a s.t,false))/\d.nx ρ' s,rt:=λρ' r=>d.rt ρ' s r,bk:=λρ'=>ρ'[M.k]?=some (some (.pin M.a s.t,false))/\d.bk ρ' s,ct:=λρ'=>ρ'[M.k]?=some (some (.pin M.a s.t,false))/\d.ct ρ' s}
noncomputable def mPl(M:Mz)(g:FS):FM:=λd ρ s=>g (ZC M d s) ρ
theorem Od{s:S}{d:LC}{D:Ends}(F:Mf K M O fp s H)(I:aw K (zf M O H) [] O ρ σ H)(Fi:Oc K M d D):Fin K (zf M O H) [] (ZC M d s) D :=
 ⟨λO' ρ' σ' H' J ⟨h1,h2⟩=>Fi.nx _ _ _ _ (kB.of F (bu I) J h1) h2,λO' ρ' σ' H' r v z h=>Fi.rt _ _ _ _ r v _ _ _ _ F (bu I) z h,λO' ρ' σ' H' J ⟨h1,h2⟩=>Fi.bk _ _ _ _ (kB.of F (bu I) J h1) h2,λO' ρ' σ' H' J ⟨h1,h2⟩=>Fi.ct _ _ _ _ (kB.of F (bu I) J h1) h2⟩
theorem dJ{g:FS}(h:∀H0,VS X ⟨H0,[],M.Ox⟩ st g):MS X M st (mPl M g):=⟨PS.gy λD σ H ⟨ρ,s,d,⟨⟨O,fp,F,I⟩,hp⟩,hg,Fi⟩=>⟨_,h (jl H (roots O)) [],ρ,O,_,I,hg,Od F I Fi⟩⟩
 where PS.gy {t:TS} (hw:∀D σ H,t D σ H->∃t':TS,PS X st t'/\t' D σ H):PS X st t:=λpins s σ H D I q=>let ⟨t',h1,h2⟩:=hw D σ H q;h1 pins s σ H D I h2
def mIf(c:FB)(g u:FM):FM:=λd ρ s=>c ρ λb=>if b=true then g d ρ s else u d ρ s
theorem rD{fc:FB}{a b:qaq}(hc:∀H0,VC X ⟨H0,[],M.Ox⟩ c fc)(ha:An X M a g)(hb:An X M b u):MS X M (.If c a b pos) (mIf fc g u):=⟨λpins s' σ H D J ⟨ρ,s,d,⟨⟨O,fp,F,I⟩,hp⟩,hg,Fi⟩ =>
 Di (hc (jl H (roots O)) []) ha.h hb.h pins s' σ H D J ⟨ρ,O,_,I,hg,λb hb H' sm=>by
  have St:kB X.K M ρ s σ H':=kB.of F (bu I) (I.same sm) hp;cases b with
  |true=>rw[if_pos rfl] at hb;exact Ni ⟨ρ,s,d,St,hb,Fi⟩
  |false=>rw[if_neg eh] at hb;exact Nh ⟨ρ,s,d,St,hb,Fi⟩⟩⟩
end
noncomputable def iK(k:Nat)(ps:List jN):TE:=λσ H Q=>∃v w,σ[k]?=some (some v)/\valAt H v ps=some w/\Q w H
section
variable{i:Expr}{k:Nat}{ps:List jN}{f:Str}{pos:Pos}
theorem jP(hN:X.N[k]?=some x:=by rfl)(hv:jA X.env.scope x:=by first|exact Or.inl rfl|exact Or.inr (Or.inl rfl)|exact Or.inr (Or.inr rfl))(hd:gp x:=by decide)(fH:se x:=by decide):PE X (.Name x pos) (iK k []):=PE.weak (bN hN hv hd fH) λσ H Q ⟨v,w,h1,h2,q⟩=>by cases h2;exact⟨v,h1,q⟩
theorem iL(cl:xW X.K C)(na:a8 X.K C f)(he:PE X e (iK k ps))(hb:attributeBase e f X.env (eval e X.env)=eval e X.env:=by rfl):PE X (.Attribute e f pos) (iK k (ps++[.fld C f])) :=
 PE.weak (xZ he hb) λσ H Q ⟨v,w,h1,h2,q⟩=>by
  rw[lY] at h2;cases e0:valAt H v ps with
  |none=>rw[e0] at h2;cases h2
  |some w0=>
   rw[e0] at h2;have h3:fN H w0 (.fld C f)=some w:=h2;refine⟨v,w0,h1,e0,?_⟩;unfold fN at h3;split at h3
   rename_i a
   split at h3
   rename_i C' dx fs ea
   dsimp only at h3;split at h3
   rename_i hC
   subst hC;exact⟨a,_,dx,fs,w,rfl,ea,cl,na,h3,q⟩;cases h3;dsimp only at h3;cases h3;cases h3;cases h3
theorem Jl(he:PE X e (iK k ps))(hi:PE X i (tC (.int (-1))))(hs:nH i:=by intro _ _;rfl):PE X (.Subscript e i pos) (iK k (ps++[.last])) :=
 PE.weak (DA zK he hi hs) λσ H Q ⟨v,w,h1,h2,q⟩=>by
  rw[lY] at h2;cases e0:valAt H v ps with
  |none=>rw[e0] at h2;cases h2
  |some w0=>
   rw[e0] at h2;have h3:fN H w0 .last=some w:=h2;refine⟨v,w0,h1,e0,?_⟩;unfold fN at h3;split at h3
   rename_i a
   split at h3;dsimp only at h3;cases h3
   rename_i vs ea
   dsimp only at h3;refine⟨a,vs,-1,w,rfl,rfl,eU.of ea,?_,q⟩;have hl:0<vs.length:=by cases vs<;>simp_all
   rw[Qh] at h3;unfold jB uD;rw[if_neg (by decide),if_pos (by omega)];have e:(-1+(vs.length:Int)).toNat=vs.length-1:=by omega
   rw[e];exact h3;cases h3;cases h3
end
theorem S4{j}{p':Pos}:PE X (.UnaryOp .USub (.Constant (.int 1) j p) p') (tC (.int (-1))):=PE.weak (K_ Dq xO) λσ H Q h=>⟨_,rfl,h⟩
section
variable{M:Mz}{s:S}{A:qah}
theorem aX.LD:∀{xs:List S}{vs:qak}{fp:qah}{i:Nat}{t0 t:T}{v:V},aX K H A xs vs fp->xs[i]?=some (.lf t0)->At K H A t v->aX K H A (xs.set i (.lf t)) (vs.set i v) fp
 |[],vs,fp,i,t0,t,v,h,e,q=>by simp at e
 |x::xs,vs,fp,0,t0,t,v,h,e,q=>by cases e;simp only[aX,bX] at h;obtain⟨v0,r,f,g,rfl,rfl,⟨rfl,_⟩,h2⟩:=h;simp only[K1,aX,bX];exact⟨v,r,[],g,rfl,rfl,⟨rfl,q⟩,h2⟩
 |x::xs,vs,fp,i+1,t0,t,v,h,e,q=>by simp only[aX] at h;obtain⟨v0,r,f,g,rfl,rfl,h1,h2⟩:=h;simp only[C5,aX];exact⟨v0,r.set i v,f,g,rfl,rfl,h1,h2.LD (by simpa using e) q⟩
theorem Ao(f:Str)(y:V):∀(ns:qai)(vs:qak){i:Nat},ns.length=vs.length->jO f ns=some i->dh f y (ns.zip vs)=ns.zip (vs.set i y)
 |[],vs,i,_,h=>by cases h
 |n::ns,[],i,l,h=>by simp at l
 |n::ns,v::vs,i,l,h=>by
  rw[Ho];show (if n=f then (n,y)::ns.zip vs else (n,v)::dh f y (ns.zip vs))=_;unfold jO at h;cases q:f==n with
  |true=>rw[q] at h;cases h;rw[if_pos (eq_of_beq q).symm];rfl
  |false=>
   rw[q] at h;have ne:¬ n=f:=λe=>by rw[e] at q;simp at q
   rw[if_neg ne];cases z:jO f ns with
   |none=>rw[z] at h;cases h
   |some j=>rw[z] at h;cases h;rw[Ao f y ns vs (by simpa using l) z];rfl
theorem cD(I:aw K (zf M O H) [] O ρ σ H)(hp:ρ[M.k]?=some (some (.pin M.a s.t,false))):O[M.k]?=some none/\σ[M.k]?=some (some (.ref M.a)):=by obtain⟨o,sv,h1,h2,h3⟩:=I.sl M.k _ hp;obtain⟨rfl,v,rfl,q⟩:=h3;simp only[At] at q;obtain⟨rfl,_⟩:=q;exact⟨h1,h2⟩
theorem Mf.put{ps:List jN}{x:S}(F:Mf K M O fp s H)(I:aw K (zf M O H) [] O ρ σ H)(hp:ρ[M.k]?=some (some (.pin M.a s.t,false)))(nC:∀e∈ρ,fO e)(hg:s.get ps=some x) :
  ∃w f,valAt H (.ref M.a) ps=some w/\bX K H (roots O++(fp++M.Ox)) x w f/\(∀b∈f,b∈fp)/\f.Nodup /\
   ∀{b:Addr}{u:HO}{y:S},b∈f->bX K (upd H b u) (roots O++(fp++M.Ox)) y w f->kB K M (j6 M ρ (s.put ps y)) (s.put ps y) σ (upd H b u):=by
 obtain⟨w,f1,f,f2,yC,ev,hs,back⟩:=F.mP.focus hg;have sub:∀b∈f,b∈fp:=λb hb=>by rw[yC];exact bK _ (cj _ hb)
 have nd:=F.nd;have Jm:=nd;rw[yC] at Jm;have ndf:f.Nodup:=((xK.mp Jm).2.1 |> xK.mp).1;refine⟨w,f,ev,hs,sub,ndf,λ{b u y} hb hy=>?_⟩;obtain⟨ho,hσ⟩:=cD I hp;obtain⟨u0,e0,m0⟩:=F.mP.mut b (sub b hb);have hA:b∈roots O++(fp++M.Ox):=bK _ (cj _ (sub b hb));refine F.write I nC (by rw[hp];simp) ho hσ (λb' o e n=>?_) (fp':=fp) ?_ nd F.l0 F.fr;rw[az (λz=>n (by rw[z];exact sub b hb))];exact e;have r:=back (H':=upd H b u) (A':=roots O++(fp++M.Ox)) (λt v q=>q.wrote hA e0 m0) (λb' Oe=>?_) hy;rw[<- yC] at r;exact r;refine az λz=>?_;subst z;have n1:=xK.mp Jm;have n2:=xK.mp n1.2.1;rcases cJ.mp Oe with q|q
 exact n1.2.2 _ q _ (cj _ hb) rfl;exact n2.2.2 _ hb _ q rfl
end
section
variable{M:Mz}{f:Str}{pos:Pos}
noncomputable def XI(M:Mz)(C:Addr)(f:Str)(fe:FE):FM:=λd ρ s=>fe ρ λt=>bJ t=true/\(∀e∈ρ,fO e)/\∃ns xs i t0,s=.ins C ns xs/\xs.length<1000/\jO f ns=some i/\xs[i]?=some (.lf t0)/\d.nx (j6 M ρ (.ins C ns (xs.set i (.lf t)))) (.ins C ns (xs.set i (.lf t)))
theorem tM(cl:xW X.K C)(na:a8 X.K C f)(he:∀H0,VE X ⟨H0,[],M.Ox⟩ e fe)(hN:X.N[M.k]?=some x)(hv:jA X.env.scope x:=by first|exact Or.inl rfl|exact Or.inr (Or.inl rfl)|exact Or.inr (Or.inr rfl))(hd:gp x:=by decide)(fH:se x:=by decide)(hs:swapsWith e (some (.Attribute (.Name x p) f eI)) pos.line X.env=pure false:=by rfl) :
  MS X M (.Assign [.Attribute (.Name x p) f eI] e pos) (XI M C f fe):=⟨λpins s' σ H D J ⟨ρ,s,d,⟨⟨O,fp,F,I⟩,hp⟩,hg,Fi⟩=>by
 refine eV (bN hN hv hd fH) (he (jl H (roots O)) []) hs pins s' σ H D J ⟨ρ,O,_,I,hg,λt ht v H1 sm a=>?_⟩;obtain⟨hi,nC,ns,xs,i,t0,rfl,hlen,XJ,hx,hq⟩:=ht;have I0:=I.same sm;have F1:=F.now I0 (bu I);have I1:=I0.rebase (Z:=zf M O H) rfl;obtain⟨w,f',ev,hS,sub,nd,wr⟩:=F1.put (ps:=[]) I1 hp nC rfl;cases ev;have vY:=hS;simp only[bX] at vY;obtain⟨a',dx,vs,gP,ea,hl,ha,rfl,hL⟩:=vY;cases ea;obtain⟨_,hσ⟩:=cD I1 hp;refine⟨.ref M.a,hσ,M.a,C,dx,_,rfl,ha,cl,na,?_,?_⟩;rw[Mp,hl,K4,hL.length];exact hlen;rw[Ao f v ns vs hl XJ];have hA:M.a∈roots O++(fp++M.Ox):=bK _ (cj _ (sub _ cS));refine Fi.nx _ _ σ _ (wr (y:=.ins C ns (xs.set i (.lf t))) cS ?_) hq;simp only[bX];refine⟨M.a,dx,vs.set i v,gP,rfl,by rw[G2];exact hl,aB,rfl,?_⟩;refine (hL.map (λt v q=>q.wrote hA ha rfl) λb hb=>az λz=>?_).LD hx ((At.bJ hi a).wrote hA ha rfl);subst z;exact (jh.mp nd).1 hb⟩
end
theorem BU(sm:aK H H'){w:V}{p:jN}(h:fN H v p=some w):fN H' v p=some w:=by
 unfold fN at h ⊢;split at h
 rename_i a
 cases e:H a with
 |none=>rw[e] at h;cases h
 |some o=>rw[e] at h;rw[sm _ _ e];exact h
 cases h
theorem fg{H H':Hp}(sm:aK H H'):∀{ps:List jN}{v w:V},valAt H v ps=some w->valAt H' v ps=some w
 |[],v,w,h=>h
 |p::ps,v,w,h=>by
  unfold valAt at h ⊢;cases e:fN H v p with
  |none=>rw[e] at h;cases h
  |some u=>rw[e] at h;rw[BU sm e];exact fg sm (ps:=ps) h
section
variable{M:Mz}{i:Expr}{ps:List jN}{pos:Pos}
noncomputable def S6(M:Mz)(ps:List jN)(fi fe:FE):FM:=λd ρ s=>fe ρ λt=>(∃x,s.get ps=some x)/\fi ρ λj=>match vM j with
 |some kk=>bJ t=true/\(∀e∈ρ,fO e)/\∃ks ts,s.get ps=some (.dk ks ts)/\ts.length<16777216/\d.nx (j6 M ρ (s.put ps (.dk (dI ks kk) (bR ks ts kk t)))) (s.put ps (.dk (dI ks kk) (bR ks ts kk t)))
 |none=>False
theorem Ap{fi:FE}(hu:X.A.units+1<cLine)(ho:PE X o (iK M.k ps))(hi:∀H0,VR X ⟨H0,[],M.Ox⟩ i fi)(he:∀H0,VE X ⟨H0,[],M.Ox⟩ e fe)(hs:swapsWith e (some (.Subscript o i eI)) pos.line X.env=pure false:=by rfl) :
  MS X M (.Assign [.Subscript o i eI] e pos) (S6 M ps fi fe):=⟨λpins s' σ H D J ⟨ρ,s,d,⟨⟨O,fp,F,I⟩,hp⟩,hg,Fi⟩=>by
 refine Ae hu ho (hi (jl H (roots O)) []) (he (jl H (roots O)) []) hs pins s' σ H D J ⟨ρ,O,_,I,hg,λt ht v H1 s1 a1=>?_⟩;obtain⟨⟨x,hx⟩,ht⟩:=ht;obtain⟨w,_,_,_,_,ev,_,_⟩:=(F.now (I.same s1) (bu I)).mP.focus hx;obtain⟨_,hσ⟩:=cD I hp;refine⟨.ref M.a,w,hσ,ev,ρ,O,_,I.same s1,ht,λj hj w' H2 s2 a2=>?_⟩;split at hj
 rename_i kk ek
 obtain⟨Hh,nC,ks,ts,BV,hlen,hq⟩:=hj;have I0:=(I.same s1).same s2;have F2:=F.now I0 (bu I);have I2:=I0.rebase (Z:=zf M O H) rfl;obtain⟨w2,f',EF,hS,sub,nd,wr⟩:=F2.put (ps:=ps) I2 hp nC BV;rw[fg s2 ev] at EF;cases EF;have vY:=hS;simp only[bX] at vY;obtain⟨l,xs,rfl,rfl,hl,h3,h4⟩:=vY;have q:=Eu ks xs kk v hl;have hz:(ks.zip xs).length<sizeLine:=by rw[sizeLine_eq,Mp,hl,K4,h4.length];omega
 have hA:l∈roots O++(fp++M.Ox):=bK _ (cj _ (sub _ cS));rw[nP a2 ek];refine⟨l,_,rfl,BI.k h3 hz,?_⟩;rw[q.1];refine Fi.nx _ _ σ _ (wr (y:=.dk (dI ks kk) (bR ks ts kk t)) cS ?_) hq;simp only[bX];exact⟨l,bR ks xs kk v,rfl,rfl,q.2,aB,ay.wrote hA h3 rfl (vO h4 (At.bJ Hh (a1.same s2)))⟩;exact hj.elim⟩
end
theorem aX.EG{A:qah}{t:T}:∀{xs:List S}{vs:qak}{fp:qah},aX K H A xs vs fp->At K H A t v->aX K H A (xs++[.lf t]) (vs++[v]) fp
 |[],vs,fp,h,q=>by simp only[aX] at h;obtain⟨rfl,rfl⟩:=h;simp only[Qm,aX,bX];exact⟨v,[],[],[],rfl,rfl,⟨rfl,q⟩,rfl,rfl⟩
 |x::xs,vs,fp,h,q=>by simp only[aX] at h;obtain⟨v0,r,f,g,rfl,rfl,h1,h2⟩:=h;simp only[CN,aX];exact⟨v0,r++[v],f,g,rfl,rfl,h1,h2.EG q⟩
section
variable{M:Mz}{ps:List jN}{pos:Pos}
noncomputable def XM(M:Mz)(ps:List jN)(fe:FE):FM:=λd ρ s=>∃ys,s.get ps=some (.lst ys)/\ys.length<16777216/\fe ρ λt=>bJ t=true/\(∀e∈ρ,fO e)/\d.nx (j6 M ρ (s.put ps (.lst (ys++[.lf t])))) (s.put ps (.lst (ys++[.lf t])))
theorem BW(ho:PE X o (iK M.k ps))(he:∀H0,VE X ⟨H0,[],M.Ox⟩ e fe)(cX:attributeBase o "append" X.env (eval o X.env)=eval o X.env:=by rfl)(jC:((backTo aN (starEach [e] X.env)).all (λx=>!x.1) && (backToKw aN (keywordEach [] X.env)).all (λx=>x.1.isSome)
    && decide (([e]:qap).length+([]:List Keyword).length+(if ([]:List Keyword).isEmpty then 0 else 1)<30))=true:=by rfl)(cY:(apos.endLine==aN.line)=true:=by rfl)(hs:starEach [e] X.env=(false,eval e X.env)::starEach [] X.env:=by rfl)(dw:(backTo aN (starEach [] X.env)).any (·.1)=false:=by rfl)(Ig:swapsWith (.Call (.Attribute o "append" apos) [e] [] aN) none pos.line X.env=pure false:=by rfl) :
  MS X M (.Expr (.Call (.Attribute o "append" apos) [e] [] aN) pos) (XM M ps fe):=⟨λpins s' σ H D J ⟨ρ,s,d,⟨⟨O,fp,F,I⟩,hp⟩,hg,Fi⟩=>by
 obtain⟨ys,BV,hlen,hg⟩:=hg;obtain⟨w,_,f,_,_,ev,S7,_⟩:=F.mP.focus BV;have vZ:=S7;simp only[bX] at vZ;obtain⟨l,xs,gP,rfl,hl,rfl,hL⟩:=vZ;obtain⟨_,hσ⟩:=cD I hp;refine i_ (oi Mi KS KU c7 ho (bf (he (jl H (roots O)) []) cN hs) cX jC cY hs dw) Ig pins s' σ H D J
  ⟨.ref M.a,.ref l,hσ,ev,.inl ⟨rfl,xs,eU.of hl⟩,ρ,O,_,I,hg,λt ht v H1 s1 a1=>?_⟩
 obtain⟨Hh,nC,hq⟩:=ht;have I0:=I.same s1;have F1:=F.now I0 (bu I);have I1:=I0.rebase (Z:=zf M O H) rfl;obtain⟨w2,f',EF,hS,sub,nd,wr⟩:=F1.put (ps:=ps) I1 hp nC BV;rw[fg s1 ev] at EF;cases EF;have vY:=hS;simp only[bX] at vY;obtain⟨l',C0,Jn,e',K6,rfl,S8⟩:=vY;cases e';have hA:l∈roots O++(fp++M.Ox):=bK _ (cj _ (sub _ cS));refine⟨l,C0,v,rfl,rfl,K6,by rw[sizeLine_eq,S8.length];omega,?_⟩;refine Fi.nx _ _ σ _ (wr (y:=.lst (ys++[.lf t])) cS ?_) hq;simp only[bX];refine⟨l,C0++[v],Jn,rfl,aB,rfl,?_⟩;refine (S8.map (λt v q=>q.wrote hA K6 rfl) λb hb=>az λz=>?_).EG ((At.bJ Hh a1).wrote hA K6 rfl);subst z;exact (jh.mp nd).1 hb⟩
end
section
variable{M:Mz}{s:S}{A:qah}
theorem Mf.XN{ps:List jN}{x:S}(F:Mf K M O fp s H)(I:aw K (zf M O H) [] O ρ σ H)(hp:ρ[M.k]?=some (some (.pin M.a s.t,false)))(nC:∀e∈ρ,fO e)(hg:s.get ps=some x) :
  ∃w f,valAt H (.ref M.a) ps=some w/\bX K H (roots O++(fp++M.Ox)) x w f/\(∀b∈f,b∈fp)/\f.Nodup /\
   ∀{H':Hp}{g:qah}{y:S},(∀b o,H b=some o->b∉f->H' b=some o)->g.Nodup->(∀b∈g,b∈f\/H b=none) ->
    (∀A',(∀t v,At K H (roots O++(fp++M.Ox)) t v->At K H' A' t v)->bX K H' A' y w g)->kB K M (j6 M ρ (s.put ps y)) (s.put ps y) σ H':=by
 obtain⟨w,f1,f,f2,yC,ev,hs,back⟩:=F.mP.focus hg;have sub:∀b∈f,b∈fp:=λb hb=>by rw[yC];exact bK _ (cj _ hb)
 have kD:∀b∈f1++f2,b∈fp:=λb hb=>by
  rw[yC];rcases cJ.mp hb with z|z
  exact cj _ z;exact bK _ (bK _ z)
 have Jm:=F.nd;rw[yC] at Jm;have n1:=xK.mp Jm;have n2:=xK.mp n1.2.1;refine⟨w,f,ev,hs,sub,n2.1,λ{H' g y} fr XO Og hy=>?_⟩;obtain⟨ho,hσ⟩:=cD I hp;have out:∀b∈f1++f2,b∉f:=λb hb z=>by
  rcases cJ.mp hb with q|q
  exact n1.2.2 _ q _ (cj _ z) rfl;exact n2.2.2 _ z _ q rfl
 have go:∀t v,At K H (roots O++(fp++M.Ox)) t v->At K H' (roots O++((f1++(g++f2))++M.Ox)) t v:=λt v q=>by
  have q1:At K H (g++(roots O++(fp++M.Ox))) t v:=q.more λa ha=>by
   rcases cJ.mp ha with z|z
   rcases Og a z with y|y
   exact .inl (bK _ (cj _ (sub a y)));exact .inr y;exact .inl z
  have q2:=q1.oH (H':=H') (as:=f) fr (λa ha=>bK _ (bK _ (cj _ (sub a ha)))) λa ha=>F.mP.mut a (sub a ha);refine q2.aR λa ha=>?_;rcases cJ.mp ha with z|z
  exact bK _ (cj _ z);rcases cJ.mp z with z|z
  rcases cJ.mp z with z|z
  exact bK _ (bK _ (cj _ (kD a (cj _ z))));rcases cJ.mp z with z|z
  exact cj _ z;exact bK _ (bK _ (cj _ (kD a (bK _ z))));exact bK _ (bK _ (bK _ z))
 have Oh:∀b∈fp,H b≠none:=λb hb=>by obtain⟨u,e,_⟩:=F.mP.mut b hb;rw[e];simp
 have each:∀b∈f1++(g++f2),b∈fp\/H b=none:=λb hb=>by
  rcases cJ.mp hb with z|z
  exact .inl (kD b (cj _ z));rcases cJ.mp z with z|z
  exact (Og b z).imp (sub b) id;exact .inl (kD b (bK _ z))
 have EH:∀b∈g,b∉f1++f2:=λb hb z=>by
  rcases Og b hb with y|y
  exact out b z y;exact Oh b (kD b z) y
 refine F.write I nC (by rw[hp];simp) ho hσ (λb' o e n=>fr b' o e λz=>n (sub b' z)) (fp':=f1++(g++f2)) ?_ ?_ (λb hb=>?_) λb hb=>?_;refine back (H':=H') (A':=roots O++((f1++(g++f2))++M.Ox)) go (λb' Oe=>?_) (hy _ go);obtain⟨u,e,_⟩:=F.mP.mut b' (kD b' Oe);rw[e];exact fr _ _ e (out b' Oe);refine xK.mpr ⟨n1.1,xK.mpr ⟨XO,n2.2.1,λa ha b hb z=>?_⟩,λa ha b hb z=>?_⟩;subst z;exact EH a ha (bK _ hb);subst z;rcases cJ.mp hb with y|y
 exact EH a y (cj _ ha);exact n1.2.2 _ ha _ (bK _ y) rfl;rcases each b hb with z|z
 exact F.l0 b z;refine⟨λy=>I.xG b (cj _ y) z,λy=>I.xG b (bK _ y) z⟩;rcases each b hb with z|z
 exact F.fr b z;cases e:M.H0 b with
 |none=>exact .inr rfl
 |some o=>refine .inl (QN λn=>?_);rw[(F.kp b o e n).1] at z;cases z
theorem kB.put{j:Nat}{t:T}{v:V}(S:kB K M ρ s σ H)(hj:M.k≠j)(hi:bJ t=true)(a:At K H A t v):kB K M (ρ.set j (some (t,false))) s (σ.set j (some v)) H:=by obtain⟨⟨O,fp,F,I⟩,hp⟩:=S;exact kB.of F (bu I) (I.put (λp hp=>absurd hp gg) (At.bJ hi a)) (by rw[qS (Ne.symm hj)];exact hp)
end
section
variable{A:qah}
theorem aX.EI{z:S}:∀{ys:List S}{vs:qak}{fp:qah},aX K H A (ys++[z]) vs fp->∃LF v f g,vs=LF++[v]/\fp=f++g/\aX K H A ys LF f/\bX K H A z v g
 |[],vs,fp,h=>by simp only[Qm,aX] at h;obtain⟨v,r,f,g,rfl,rfl,h1,rfl,rfl⟩:=h;exact⟨[],v,[],f,rfl,by simp,by simp[aX],h1⟩
 |x::xs,vs,fp,h=>by simp only[CN,aX] at h;obtain⟨v0,r,f,g,rfl,rfl,h1,h2⟩:=h;obtain⟨LF,v,f',g',rfl,rfl,h3,h4⟩:=aX.EI h2;refine⟨v0::LF,v,f++f',g',rfl,by simp,?_,h4⟩;simp only[aX];exact⟨v0,LF,f,f',rfl,rfl,h1,h3⟩
theorem aX.S9:∀{xs:List S}{vs:qak}{fp:qah}{i:Nat}{t:T},aX K H A xs vs fp->xs[i]?=some (.lf t)->∃v,vs[i]?=some v/\At K H A t v:=λh e=>by obtain⟨v,f1,f,f2,e1,_,h1,_⟩:=h.focus e;simp only[bX] at h1;exact⟨v,e1,h1.2⟩
end
section
variable{M:Mz}{ps:List jN}{f:Str}{pos S_ Ta:Pos}
noncomputable def Tb(M:Mz)(j:Nat)(ps:List jN)(C:Addr)(f:Str):FM:=λd ρ s=>∃ys ns zs i t,M.k≠j/\s.get ps=some (.lst (ys++[.ins C ns zs]))/\jO f ns=some i/\zs[i]?=some (.lf t)/\bJ t=true/\(∀e∈ρ,fO e)/\d.nx ((j6 M ρ (s.put ps (.lst ys))).set j (some (t,false))) (s.put ps (.lst ys))
theorem Jo(hN:X.N.Nodup)(hj:X.N[j]?=some x)(hx:Loc X.env.scope x)(cl:xW X.K C)(na:a8 X.K C f)(ho:PE X o (iK M.k ps))(cX:attributeBase o "pop" X.env (eval o X.env)=eval o X.env:=by rfl)(cY:(apos.endLine==aN.line)=true:=by rfl)(BF:attributeBase (.Call (.Attribute o "pop" apos) [] [] aN) f X.env (eval (.Call (.Attribute o "pop" apos) [] [] aN) X.env)=eval (.Call (.Attribute o "pop" apos) [] [] aN) X.env:=by rfl)(hs:swapsWith (.Attribute (.Call (.Attribute o "pop" apos) [] [] aN) f S_) (some (.Name x Ta)) pos.line X.env=pure false:=by rfl)(hf:X.fn x=true\/X.env.scope.names.lookup x=some .local:=by first|exact .inl rfl|exact .inr rfl|assumption) :
  MS X M (.Assign [.Name x Ta] (.Attribute (.Call (.Attribute o "pop" apos) [] [] aN) f S_) pos) (Tb M j ps C f):=⟨λpins s' σ H D J ⟨ρ,s,d,⟨⟨O,fp,F,I⟩,hp⟩,hg,Fi⟩=>by
 obtain⟨ys,ns,zs,i,t,hkj,BV,XJ,hz,Hh,nC,hq⟩:=hg;obtain⟨w,f',ev,hS,sub,nd,wr⟩:=F.XN (ps:=ps) I hp nC BV;have vY:=hS;simp only[bX] at vY;obtain⟨l,xs,gP,rfl,hl,rfl,hL⟩:=vY;obtain⟨ZD,v,g1,g2,rfl,rfl,hL1,hZ⟩:=hL.EI;simp only[bX] at hZ;obtain⟨a,dx,vs,fz,rfl,hlen,ha,rfl,hLz⟩:=hZ;obtain⟨u,eu,au⟩:=hLz.S9 hz;obtain⟨_,hσ⟩:=cD I hp;have nl:=jh.mp nd;have Vp:a≠l:=λz=>nl.1 (by rw[<- z];exact bK _ cS);have hA:l∈roots O++(fp++M.Ox):=bK _ (cj _ (sub _ cS));refine nY hN hj hx (xZ (sJ Mi PySem.F.slot_list_pop PySem.F.type_list_pop DG ho cX cY) BF) hs hf pins s' σ H D J
  ⟨.ref M.a,.ref l,hσ,ev,.inl ⟨rfl,_,eU.of hl⟩,l,_,.ref a,rfl,rfl,hl,by simp,a,C,dx,_,u,rfl,by rw[az Vp];exact ha,cl,na,by rw[lZ f ns vs XJ];exact eu,?_⟩
 rw[List.dropLast_concat];refine Fi.nx _ _ _ _ (kB.put (A:=[]) (wr (H':=upd H l (.lst ZD)) (g:=l::g1) (y:=.lst ys) (λb o e n=>?_) ?_ (λb hb=>?_) λA' go=>?_) hkj Hh (At.bJ Hh (au.wrote hA hl rfl))) hq;rw[az λz=>n (by rw[z];exact cS)];exact e;refine jh.mpr ⟨λz=>nl.1 (cj _ z),(xK.mp nl.2).1⟩;rcases cT.mp hb with z|z
 exact .inl (by rw[z];exact cS);exact .inl (d_ _ (cj _ z));simp only[bX];refine⟨l,ZD,g1,rfl,aB,rfl,hL1.map go λb hb=>az λz=>?_⟩;subst z;exact nl.1 (cj _ hb)⟩
end
section
variable{M:Mz}{s:S}{A:qah}
theorem Mf.putN{N:qah}{ps:List jN}{x:S}(F:Mf K M O fp s H)(FN:bX K H (N++(roots O++(fp++M.Ox))) s (.ref M.a) fp)(hN:∀b∈N,b∉fp/\b∉roots O/\b∉M.Ox/\(b∈M.rk\/M.H0 b=none))(I:aw K (zf M O H) [] O ρ σ H)(hp:ρ[M.k]?=some (some (.pin M.a s.t,false)))(nC:∀e∈ρ,fO e)(hg:s.get ps=some x) :
  ∃w f,valAt H (.ref M.a) ps=some w/\bX K H (N++(roots O++(fp++M.Ox))) x w f/\(∀b∈f,b∈fp)/\f.Nodup /\
   ∀{H':Hp}{g:qah}{y:S},(∀b o,H b=some o->b∉f->H' b=some o)->g.Nodup->(∀b∈g,b∈f\/H b=none\/b∈N) ->
    (∀A',(∀t v,At K H (N++(roots O++(fp++M.Ox))) t v->At K H' A' t v)->bX K H' A' y w g)->kB K M (j6 M ρ (s.put ps y)) (s.put ps y) σ H':=by
 obtain⟨w,f1,f,f2,yC,ev,hs,back⟩:=FN.focus hg;have sub:∀b∈f,b∈fp:=λb hb=>by rw[yC];exact bK _ (cj _ hb)
 have kD:∀b∈f1++f2,b∈fp:=λb hb=>by
  rw[yC];rcases cJ.mp hb with z|z
  exact cj _ z;exact bK _ (bK _ z)
 have Jm:=F.nd;rw[yC] at Jm;have n1:=xK.mp Jm;have n2:=xK.mp n1.2.1;refine⟨w,f,ev,hs,sub,n2.1,λ{H' g y} fr XO Og hy=>?_⟩;obtain⟨ho,hσ⟩:=cD I hp;have out:∀b∈f1++f2,b∉f:=λb hb z=>by
  rcases cJ.mp hb with q|q
  exact n1.2.2 _ q _ (cj _ z) rfl;exact n2.2.2 _ z _ q rfl
 have go:∀t v,At K H (N++(roots O++(fp++M.Ox))) t v->At K H' (roots O++((f1++(g++f2))++M.Ox)) t v:=λt v q=>by
  have q1:At K H (g++(N++(roots O++(fp++M.Ox)))) t v:=q.more λa ha=>by
   rcases cJ.mp ha with z|z
   rcases Og a z with y|y|y
   exact .inl (bK _ (bK _ (cj _ (sub a y))));exact .inr y;exact .inl (cj _ y);exact .inl z
  have q2:=q1.oH (H':=H') (as:=f) fr (λa ha=>bK _ (bK _ (bK _ (cj _ (sub a ha))))) λa ha=>F.mP.mut a (sub a ha);refine q2.aR λa ha=>?_;rcases cJ.mp ha with z|z
  exact bK _ (bK _ (cj _ z));rcases cJ.mp z with z|z
  rcases cJ.mp z with z|z
  exact bK _ (bK _ (bK _ (cj _ (kD a (cj _ z)))));rcases cJ.mp z with z|z
  exact cj _ z;exact bK _ (bK _ (bK _ (cj _ (kD a (bK _ z)))));exact bK _ (bK _ (bK _ (bK _ z)))
 have Oh:∀b∈fp,H b≠none:=λb hb=>by obtain⟨u,e,_⟩:=F.mP.mut b hb;rw[e];simp
 have each:∀b∈f1++(g++f2),b∈fp\/H b=none\/b∈N:=λb hb=>by
  rcases cJ.mp hb with z|z
  exact .inl (kD b (cj _ z));rcases cJ.mp z with z|z
  exact (Og b z).imp (sub b) id;exact .inl (kD b (bK _ z))
 have EH:∀b∈g,b∉f1++f2:=λb hb z=>by
  rcases Og b hb with y|y|y
  exact out b z y;exact Oh b (kD b z) y;exact (hN b y).1 (kD b z)
 refine F.write I nC (by rw[hp];simp) ho hσ (λb' o e n=>fr b' o e λz=>n (sub b' z)) (fp':=f1++(g++f2)) ?_ ?_ (λb hb=>?_) λb hb=>?_;refine back (H':=H') (A':=roots O++((f1++(g++f2))++M.Ox)) go (λb' Oe=>?_) (hy _ go);obtain⟨u,e,_⟩:=F.mP.mut b' (kD b' Oe);rw[e];exact fr _ _ e (out b' Oe);refine xK.mpr ⟨n1.1,xK.mpr ⟨XO,n2.2.1,λa ha b hb z=>?_⟩,λa ha b hb z=>?_⟩;subst z;exact EH a ha (bK _ hb);subst z;rcases cJ.mp hb with y|y
 exact EH a y (cj _ ha);exact n1.2.2 _ ha _ (bK _ y) rfl;rcases each b hb with z|z|z
 exact F.l0 b z;refine⟨λy=>I.xG b (cj _ y) z,λy=>I.xG b (bK _ y) z⟩;exact⟨(hN b z).2.1,(hN b z).2.2.1⟩;rcases each b hb with z|z|z
 exact F.fr b z;cases e:M.H0 b with
 |none=>exact .inr rfl
 |some o=>refine .inl (QN λn=>?_);rw[(F.kp b o e n).1] at z;cases z
 exact (hN b z).2.2.2
end
end VT
variable{M:VT.Mz}
namespace PySem
open Sem (wp)
section
variable{s:Shared}
variable{d:Addr}{o:Obj}{es:Array DictEntry}{ep:Nat}
end
end PySem
namespace VT
open PySem PySem.Spec PyProof.Rows L2
def kAd(o:Obj)(i:Nat):Addr:=match o.data with
 |.dict es _=>match es[i]? with
  |some e=>match e.key with
   |.ref b=>b
   |_=>0
  |none=>0
 |_=>0
section
variable{κ:Type}[DecidableEq κ]
def XQ:List κ->List α->κ->Option α
 |k::ks,t::ts,x=>if k=x then some t else XQ ks ts x
 |_,_,_=>none
end
section
variable{a:Expr}{fc:FE}{pos:Pos}
def ZE(fa fb:FE):FP:=λρ Q=>fa ρ λx=>fb ρ λy=>match x,y with
 |_,_=>False
def XR:T->T
 |.pin _ t=>t
 |t=>t
def XS(f:FE):FE:=λρ Q=>f ρ λt=>Q (XR t)
theorem bZ(h:VR X Z e fa):VR X Z e (XS fa):=.mk λtm=>PE.weak (h tm) λσ H Q ⟨ρ,O,q,I,hf,k⟩=>⟨ρ,O,_,I,hf,λt ht v H' s z=>by
 refine k _ ht v H' s ?_;cases t with
 |pin b t=>
  obtain z|⟨a,_,r⟩:=z
  simp only[At] at z;exact .inl z.2;exact r.elim
 |_=>exact z⟩
end
end VT
namespace PySem
open Sem (wp)
end PySem
namespace VT
open PySem PySem.Spec PyProof.Rows L2
structure MG where
 a:Addr
 dx:Addr
 a1:Addr
 a2:Addr
 C:Addr
 H0:Hp
 n1:a≠a1
 n2:a≠a2
 n3:a1≠a2
structure S2 where
 k1:List (List Key)
 t1:qaj
 k2:List (List Key)
 t2:qaj
section
variable{M:MG}{tm:qab}{s:S2}
noncomputable def XT(b:Option T):Option (T×Bool):=b.map λt=>(t,false)
end
structure GEn where
 nx:En->S2->Prop
 rt:S2->T->Prop
 bk:En->S2->Prop:=λ_ _=>False
 ct:En->S2->Prop:=λ_ _=>False
abbrev FG2:=GEn->En->S2->Prop
section
variable{A:qah}
theorem At.frame{t:T}(here:∀b∈A,∃u,H b=some u/\jk u=true)(fr:∀b o,H b=some o->b∉A->H' b=some o)(h:At K H A t v):At K H' A t v:=by
 have rd:∀{a:Addr}{u:HO},a∉A->Rd H a u->Rd H' a u:=λn q=>q.elim (λz=>.inl (fr _ _ z n)) λ⟨o,z⟩=>.inr ⟨o,fr _ _ z n⟩;refine At.map (λa vs q=>q.elim (λz=>.inl ⟨rd z.2 z.1,z.2⟩) .inr) (λa vs q=>q.elim (λz=>.inl (rd (λm=>?_) z)) .inr) (λa u q=>⟨fr _ _ q.1 q.2,q.2⟩) h;obtain⟨u,e,mu⟩:=here a m;obtain z|⟨o,z⟩:=z
 rw[e] at z;cases z;cases mu;rw[e] at z;cases z;cases mu
end
section
variable{Gg:T->S2->(S2->T->Prop)->Prop}{Gli:qaj->(qam)->Prop}
theorem Oi(K:qaf)(H:Hp):aw K ⟨H,[],[]⟩ [] [] [] [] H:=⟨rfl,rfl,λi e h=>by simp at h,G5,λa h=>absurd h gg,λp hp=>absurd hp gg,λa h=>absurd h gg,λb o e _=>e,λp hp=>absurd hp gg⟩
end
section
variable{F1 F2:Str}
noncomputable def Tc(K:qaf)(C:Addr)(F1 F2:Str)(i n:Nat):TE:=λσ H Q=>∃v1 t1 p ks ts,σ[i]?=some (some v1)/\σ[n]?=some (some (.ref p))/\bJ t1=true/\At K H [] t1 v1/\At K H [] (.dk ks ts) (.ref p) /\
 ∀a dx u H3,aK H H3->H a=none->H3 a=some (.ins C dx ([F1,F2].zip [u,.ref p]))->At K H3 [] t1 u->Q (.ref a) H3
theorem Oj{xC:Str}{kC:Nat}{fI:Addr}{Td:FuncData}{ZF:qai}{GI:qaj->(T->Prop)->Prop}{pC XU Qw pc:Pos}(MI:Mk X.K C fI)(FI:cn X.prog X.w X.K X.mg X.base dO kC fI Td ZF (LA X.K C 2 GI))(hGI:∀t1 t2 q,q (.ins C [F1,F2] [t1,t2])->GI [t1,t2] q)(rI:bh (kC+1) X.A)(gI:Gl X xC)(mI:X.mg xC=some (.ref C))(bI:Binds X.K Td ZF [])(hN:X.N[i]?=some x:=by rfl)(hv:jA X.env.scope x:=by first|exact Or.inl rfl|exact Or.inr (Or.inl rfl)|exact Or.inr (Or.inr rfl))(hd:gp x:=by decide)(fH:se x:=by decide)(hN2:X.N[n]?=some y:=by rfl)(hv2:jA X.env.scope y:=by first|exact Or.inl rfl|exact Or.inr (Or.inl rfl)|exact Or.inr (Or.inr rfl))(hd2:gp y:=by decide)(XW:se y:=by decide)(db1:gp xC:=by decide)(s1:starEach [.Name x XU,.Name y Qw] X.env=(false,eval (.Name x XU) X.env)::starEach [.Name y Qw] X.env:=by rfl)(s2:starEach [.Name y Qw] X.env=(false,eval (.Name y Qw) X.env)::starEach [] X.env:=by rfl)(s3:(backTo pc (starEach [.Name y Qw] X.env)).any (·.1)=false:=by rfl):PE X (.Call (.Name xC pC) [.Name x XU,.Name y Qw] [] pc) (Tc X.K C F1 F2 i n) :=
 PE.weak (sC MI FI rI gI mI bI .nil jq (bf (bN hN hv hd fH) (bf (bN hN2 hv2 hd2 XW) cN s2) s1) db1 s1 s3) λσ H Q h=>by obtain⟨v1,t1,p,ks,ts,e1,e2,hi,a1,a2,k⟩:=h;refine⟨v1,e1,.ref p,e2,?_⟩;refine Ai (X:=X) (Z:=⟨_,[],[]⟩) (C:=C) (G:=GI) (Q:=Q) (q:=λr=>r=.fr (.ins C [F1,F2] [t1,.pin p (.dk ks ts)])) (Oi X.K _) (ts:=[t1,.pin p (.dk ks ts)]) (vs:=[v1,.ref p]) (ay.cons a1 (ay.cons ?_ ay.nil)) rfl (hGI _ _ (λu=>Rt.fr u=.fr (.ins C [F1,F2] [t1,.pin p (.dk ks ts)])) rfl) (λr er v H3 sm z=>?_);unfold At;exact⟨rfl,a2⟩;subst er;obtain⟨a,rfl,_,⟨dx,vs,hl,ea,hv⟩,n0,_⟩:=z;simp only[ay] at hv;obtain⟨u,_,rfl,h1,_,_,rfl,h2,rfl⟩:=hv;unfold At at h2;obtain⟨rfl,_⟩:=h2;exact k a dx u H3 sm n0 ea (At.bJ hi h1)
end
section
variable{A:qah}
theorem aX.snoc{z:S}{g:qah}:∀{xs:List S}{vs:qak}{fp:qah},aX K H A xs vs fp->bX K H A z v g->aX K H A (xs++[z]) (vs++[v]) (fp++g)
 |[],vs,fp,h,q=>by simp only[aX] at h;obtain⟨rfl,rfl⟩:=h;simp only[Qm,aX];exact⟨v,[],g,[],rfl,by simp,q,rfl,rfl⟩
 |x::xs,vs,fp,h,q=>by simp only[aX] at h;obtain⟨v0,r,f,f2,rfl,rfl,h1,h2⟩:=h;simp only[CN,aX];exact⟨v0,r++[v],f,f2++g,rfl,by simp,h1,h2.snoc q⟩
end
theorem jQ:∀{O:HD}{n:Nat}{p:Addr},(roots O).Nodup->O[n]?=some (some p)->p∉roots (O.set n none)
 |[],n,p,_,e=>by simp at e
 |o::O,0,p,h,e=>by cases e;simp only[roots,K1,k5,id] at h ⊢;exact (jh.mp h).1
 |o::O,n+1,p,h,e=>by
  have e':O[n]?=some (some p):=by simpa using e
  cases o with
  |none=>simp only[roots,C5,k5,id] at h ⊢;exact jQ h e'
  |some a=>
   simp only[roots,C5,k5,id] at h ⊢;have h2:=jh.mp h;intro z;rcases cT.mp z with y|y
   exact h2.1 (by rw[<- y];exact aG.mpr (fR e'));exact jQ h2.2 e' y
section
variable{mk:Expr}{ps:List jN}{F1 F2:Str}{pos:Pos}
noncomputable def Te(M:Mz)(ps:List jN)(C:Addr)(F1 F2:Str)(i n:Nat):FM:=λd ρ s=>∃ys t1 ks ts,s.get ps=some (.lst ys)/\ys.length<16777216/\M.k≠n/\ρ[i]?=some (some (t1,false))/\bJ t1=true/\ρ[n]?=some (some (.dk ks ts,true))/\cb ts=true/\(∀e∈ρ,fO e) /\
 d.nx (j6 M (ρ.set n none) (s.put ps (.lst (ys++[.ins C [F1,F2] [.lf t1,.dk ks ts]])))) (s.put ps (.lst (ys++[.ins C [F1,F2] [.lf t1,.dk ks ts]])))
theorem Jp(ho:PE X o (iK M.k ps))(he:PE X mk (Tc X.K C F1 F2 i n))(cX:attributeBase o "append" X.env (eval o X.env)=eval o X.env:=by rfl)(jC:((backTo aN (starEach [mk] X.env)).all (λx=>!x.1) && (backToKw aN (keywordEach [] X.env)).all (λx=>x.1.isSome)
    && decide (([mk]:qap).length+([]:List Keyword).length+(if ([]:List Keyword).isEmpty then 0 else 1)<30))=true:=by rfl)(cY:(apos.endLine==aN.line)=true:=by rfl)(hs:starEach [mk] X.env=(false,eval mk X.env)::starEach [] X.env:=by rfl)(dw:(backTo aN (starEach [] X.env)).any (·.1)=false:=by rfl)(Ig:swapsWith (.Call (.Attribute o "append" apos) [mk] [] aN) none pos.line X.env=pure false:=by rfl) :
  MS X M (.Expr (.Call (.Attribute o "append" apos) [mk] [] aN) pos) (Te M ps C F1 F2 i n):=⟨λpins s' σ H D J ⟨ρ,s,d,⟨⟨O,fp,F,I⟩,hp⟩,hg,Fi⟩=>by
 obtain⟨ys,t1,ks,ts,BV,hlen,yD,hi,XY,hn,eF,nC,hq⟩:=hg;obtain⟨w,f1,f,f2,yC,ev,S7,_⟩:=F.mP.focus BV;have vZ:=S7;simp only[bX] at vZ;obtain⟨l,xs,gP,rfl,hl,rfl,hL⟩:=vZ;have Vq:l∈fp:=by rw[yC];simp
 obtain⟨_,hσ⟩:=cD I hp;obtain⟨_,_,_,z1,rfl,v1,rfl,b1⟩:=I.sl i _ hi;obtain⟨p,hO,z2,hR⟩:=I.root hn;have Qx:p∈roots O:=aG.mpr (fR hO);obtain⟨vs,ZG,Tf,ZH⟩:=hR;have ZI:p≠l:=λz=>(F.l0 l Vq).1 (by rw[<- z];exact Qx);refine i_ (oi Mi KS KU c7 ho (bf he cN hs) cX jC cY hs dw) Ig pins s' σ H D J
  ⟨.ref M.a,.ref l,hσ,ev,.inl ⟨rfl,xs,eU.of hl⟩,v1,t1,p,ks,ts,z1,z2,XY,At.bJ XY b1,?_,λa dx u H3 sm na ea au=>?_⟩
 simp only[At];exact⟨p,vs,rfl,ZG,⟨Tf,λz=>nomatch z⟩,ZH.aR λb hb=>nomatch hb⟩;have ZJ:=(I.same sm).forget (i:=n) (λp hp=>absurd hp gg);have F3:=F.now ZJ (bu I);have I3:=ZJ.rebase (Z:=zf M O H) rfl;have hp3:(ρ.set n none)[M.k]?=some (some (.pin M.a s.t,false)):=by rw[qS (Ne.symm yD)];exact hp
 have XZ:∀e∈ρ.set n none,fO e:=λe he=>by
  rcases Qg he with z|z
  exact nC e z;rw[z];trivial
 have FN:bX X.K H3 ([p,a]++(roots (O.set n none)++(fp++M.Ox))) s (.ref M.a) fp:=(F.mP.more λb hb=>by
  rcases cJ.mp hb with z|z
  simp only[cT,gg,or_false] at z;obtain rfl|rfl:=z
  exact .inl (cj _ Qx);exact .inr na;rcases cJ.mp z with z|z
  exact .inl (cj _ (bF n b z));exact .inl (bK _ z)).same sm
 have Oh:∀b∈fp,H b≠none:=λb hb=>by obtain⟨u,e,_⟩:=F.mP.mut b hb;rw[e];simp
 have hN:∀b∈[p,a],b∉fp/\b∉roots (O.set n none)/\b∉M.Ox/\(b∈M.rk\/M.H0 b=none):=λb hb=>by
  simp only[cT,gg,or_false] at hb;obtain rfl|rfl:=hb
  refine⟨λz=>(F.l0 _ z).1 Qx,jQ I.nd hO,(I.own _ Qx).2.1,?_⟩;cases e:M.H0 b with
  |none=>exact .inr rfl
  |some o=>exact .inl (QN λn=>(F.kp b o e n).2 Qx)
  refine⟨λz=>Oh _ z na,λz=>I.xG _ (cj _ (bF n _ z)) na,λz=>I.ox _ z na,?_⟩;cases e:M.H0 b with
  |none=>exact .inr rfl
  |some o=>refine .inl (QN λn=>?_);have:=(F.kp b o e n).1;rw[na] at this;cases this
 obtain⟨w2,f',EF,hS,sub,nd,wr⟩:=F3.putN FN hN I3 hp3 XZ BV;rw[fg sm ev] at EF;cases EF;have vY:=hS;simp only[bX] at vY;obtain⟨l',C0,Jn,e',K6,rfl,S8⟩:=vY;cases e';have Vp:a≠l:=λz=>Oh l Vq (by rw[<- z];exact na);have nap:a≠p:=λz=>by rw[z,Tf] at na;cases na
 have nl:=jh.mp nd;refine⟨l,C0,.ref a,rfl,rfl,K6,by rw[sizeLine_eq,S8.length];omega,?_⟩;refine Fi.nx _ _ σ _ (wr (H':=upd H3 l (.lst (C0++[.ref a]))) (g:=l::(Jn++[a,p])) (y:=.lst (ys++[.ins C [F1,F2] [.lf t1,.dk ks ts]])) (λb o e n=>?_) ?_ (λb hb=>?_) λA' go=>?_) hq;rw[az λz=>n (by rw[z];exact cS)];exact e;refine jh.mpr ⟨λz=>?_,xK.mpr ⟨nl.2,by simp[nap],λx hx y hy z=>?_⟩⟩;rcases cJ.mp z with z|z
 exact nl.1 z;simp only[cT,gg,or_false] at z;obtain z|z:=z
 exact Vp z.symm;exact ZI z.symm;subst z;have ZL:x∈fp:=sub x (d_ _ hx);simp only[cT,gg,or_false] at hy;obtain rfl|rfl:=hy
 exact Oh _ ZL na;exact (F.l0 _ ZL).1 Qx;rcases cT.mp hb with z|z
 exact .inl (by rw[z];exact cS);rcases cJ.mp z with z|z
 exact .inl (d_ _ z);refine .inr (.inr ?_);simp only[cT,gg,or_false] at z ⊢;exact z.symm;simp only[bX];refine⟨l,C0++[.ref a],Jn++[a,p],rfl,aB,rfl,(S8.map go λb hb=>az λz=>?_).snoc ?_⟩;subst z;exact nl.1 hb;have hR':cC X.K (upd H3 l (.lst (C0++[.ref a]))) A' p (.dk ks ts):=cC.bJ (t:=.dk ks ts) (A:=av (zf M O H) O) eF ⟨vs,ZG,Tf,ZH⟩ (by rw[az ZI,sm _ _ Tf,Tf]) λt v hi q=>go t v (At.bJ hi (q.same sm));obtain⟨eT,X0,X1,X2⟩:=hR';simp only[bX,aX];exact⟨a,dx,[u,.ref p],[p],rfl,rfl,by rw[az Vp];exact ea,rfl,u,[.ref p],[],[p],rfl,rfl,⟨rfl,go t1 u (At.bJ XY au)⟩,.ref p,[],[p],[],rfl,rfl,⟨p,eT,rfl,rfl,X0,X1,X2⟩,rfl,rfl⟩⟩
end
noncomputable def j7(K:qaf)(n:Nat)(G:qaj->S->(S->T->Prop)->Prop):Sp:=λvs H Q _=>∃(a:Addr)(Ox fp:qah)(s:S)(us:qaj)(ws:qak)(q:S->T->Prop),vs=.ref a::ws/\fp.Nodup/\bX K H (fp++Ox) s (.ref a) fp/\(∀b∈fp,b∉Ox)/\(∀b∈Ox,H b≠none) /\
 us.length=n/\ay K H Ox us ws/\G us s q /\
 ∀s' t,q s' t->∀v H' fp',(∀b o,H b=some o->b∉fp->H' b=some o)->fp'.Nodup->(∀b∈fp',b∈fp\/H b=none)->(∀b∈fp',b∉Ox)->bX K H' (fp'++Ox) s' (.ref a) fp'->bJ t=true->At K H' [] t v->Q v H'
section
theorem Jq{st:Stmt}{N:qai}{k:Nat}{G:qaj->S->(S->T->Prop)->Prop}(F:yd K x qual st f fd)(S:aA N ps (ah st))(hn:n+1=ps.length)(hN:n+1<=N.length)(cx:∀(bq:Value) (A:Around) (outer:List Env) (s:Shared) (H:Hp) (E:XK) (M:Mz),M.k=0->bh k (A.deeper (envOfC qual (ah st) s.heap.objs.size f bq))->∀us s0 q,G us s0 q->us.length=n ->
    ∃g,An (eR dO P w K mg base N qual (ah st) f bq A outer s H E).nX M (bw st) g/\g {nx:=λ_ s'=>q s' .aQ,rt:=λ_ s' r=>∃t,r=.vw t/\bJ t=true/\q s' t} (some (.pin M.a s0.t,false)::(us.map (λt=>some (t,false))++List.replicate (N.length-(n+1)) none)) s0) :
  cn P w K mg base dO (k+1) f fd ps (j7 K n G):=by
 refine F.ok S (λvs H Q E h=>?_) (λbq A outer s H vs Q E hr h=>?_);obtain⟨a,Ox,fp,s,us,ws,q,rfl,_,_,_,_,hu,hA,_⟩:=h;rw[j9,hA.length,hu];exact hn;obtain⟨a,Ox,fp,s0,us,ws,q,rfl,nd,mP,l0,ox,hu,hA,hG,kk⟩:=h;obtain⟨g,hg,hq⟩:=cx bq A outer s H E ⟨H,fp,Ox,a,0⟩ rfl hr us s0 q hG hu;have view:At K H Ox s0.t (.ref a):=mP.view (λb hb=>bK _ hb) l0;have env:=jc (K:=K) (N:=N) (H:=H) (Ox:=Ox) (ts:=.pin a s0.t::us) (vs:=.ref a::ws) (by rw[j9,hu];exact hN) ox (ay.cons (by simp only[At];exact⟨trivial,view⟩) hA);have fin:∀(ρ:En)(s':VT.S)(σ:St)(H':Hp)(O:HD)(fp':qah)(t:T)(v:V),Mf K ⟨H,fp,Ox,a,0⟩ O fp' s' H'->bJ t=true->(∃A,At K H' A t v)->q s' t->Q v H':=λρ s' σ H' O fp' t v F' hi ⟨A,av⟩ hq=>
  kk s' t hq v H' fp' (λb o e n=>(F'.kp b o e n).1) F'.nd F'.fr (λb hb=>(F'.l0 b hb).2) (F'.mP.aR λb hb=>bK _ hb) hi (At.bJ hi av)
 refine⟨_,hg.h,_,s0,_,⟨⟨List.replicate N.length none,fp,⟨?_,nd,λb hb=>⟨by rw[c5];simp,l0 b hb⟩,λb hb=>.inl hb,λb o e _=>⟨e,by rw[c5];simp⟩⟩,?_⟩,?_⟩,hq,⟨λρ s' σ H' S' z=>?_,λρ s' σ H' r v O fp' Of Hf F' eG R z=>?_,λ_ _ _ _ _ z=>z.elim,λ_ _ _ _ _ z=>z.elim⟩⟩;rw[c5];exact mP;have e:=env.rebase rfl;have ln:(T.pin a s0.t::us).length=n+1:=by rw[j9,hu]
 rw[ln] at e;exact e;rfl;obtain⟨⟨O,fp',F',I'⟩,_⟩:=S';exact fin ρ s' σ H' O fp' .aQ .aQ F' rfl ⟨[],by simp only[At]⟩ z;obtain⟨t,rfl,hi,z⟩:=z;exact fin ρ s' σ H' O fp' t v (F'.now R.1 eG) hi ⟨_,R.2⟩ z
end
section
variable{pos:Pos}
noncomputable def Aq(M:Mz)(n:Nat)(G:qaj->S->(S->T->Prop)->Prop)(fa:FA):FM:=λd ρ s=>(∀e∈ρ,fO e)/\fa ρ λus=>us.length=n/\G us s λs' _=>d.nx (j6 M ρ s') s'
theorem v5{G:qaj->S->(S->T->Prop)->Prop}{s:S}{us:qaj}{ws:qak}{q:S->T->Prop}{Q:VK}{E:XK}(F:Mf K M O fp s H)(I:aw K (zf M O H) [] O ρ σ H)(hp:ρ[M.k]?=some (some (.pin M.a s.t,false)))(nC:∀e∈ρ,fO e)(hu:us.length=n)(ha:ay K H (roots O++M.Ox) us ws)(hG:G us s q)(k:∀s' t,q s' t->∀v H',kB K M (j6 M ρ s') s' σ H'->bJ t=true->At K H' [] t v->Q v H'):j7 K n G (.ref M.a::ws) H Q E:=by
 obtain⟨ho,hσ⟩:=cD I hp;refine⟨M.a,roots O++M.Ox,fp,s,us,ws,q,rfl,F.nd,F.mP.aR λb hb=>?_,λb hb z=>?_,I.xG,hu,ha,hG,λs' t hq v H' fp' fr nd each l0 mP hi av=>?_⟩;rcases cJ.mp hb with z|z
 exact bK _ (cj _ z);rcases cJ.mp z with z|z
 exact cj _ z;exact bK _ (bK _ z);rcases cJ.mp z with z|z
 exact (F.l0 b hb).1 z;exact (F.l0 b hb).2 z;refine k s' t hq v H' (F.write I nC (by rw[hp];simp) ho hσ fr (fp':=fp') (mP.aR λb hb=>?_) nd (λb hb=>⟨λz=>l0 b hb (cj _ z),λz=>l0 b hb (bK _ z)⟩) λb hb=>?_) hi av;rcases cJ.mp hb with z|z
 exact bK _ (cj _ z);rcases cJ.mp z with z|z
 exact cj _ z;exact bK _ (bK _ z);rcases each b hb with z|z
 exact F.fr b z;cases e:M.H0 b with
 |none=>exact .inr rfl
 |some o=>refine .inl (QN λn=>?_);rw[(F.kp b o e n).1] at z;cases z
theorem Jr{k:Nat}{G:qaj->S->(S->T->Prop)->Prop}{fa:FA}(Fo:cn X.prog X.w X.K X.mg X.base dO k f fd ps (j7 X.K n G))(hr:bh k X.A)(hg:Gl X x)(hm:X.mg x=some (.ref f))(hk:PySem.W.keepIn X.K (.ref f)=true)(hb:Binds X.K fd ps [])(ha:∀H0,VA X ⟨H0,[],M.Ox⟩ es fa)(hN:X.N[M.k]?=some y)(hv:jA X.env.scope y:=by first|exact Or.inl rfl|exact Or.inr (Or.inl rfl)|exact Or.inr (Or.inr rfl))(hd:gp y:=by decide)(fH:se y:=by decide)(kf:gp x:=by decide)(he:starEach (.Name y p1::es) X.env=(false,eval (.Name y p1) X.env)::starEach es X.env:=by rfl)(gN:(backTo aN (starEach es X.env)).any (·.1)=false:=by rfl)(hs:swapsWith (.Call (.Name x p) (.Name y p1::es) [] aN) none pos.line X.env=pure false:=by rfl) :
  MS X M (.Expr (.Call (.Name x p) (.Name y p1::es) [] aN) pos) (Aq M n G fa):=⟨λpins s' σ H D J ⟨ρ,s,d,⟨⟨O,fp,F,I⟩,hp⟩,Js,Fi⟩=>by
 obtain⟨nC,Js⟩:=Js;obtain⟨_,hσ⟩:=cD I hp;refine i_ (i' Fo hr hg hm hk hb .nil jq (bf (bN hN hv hd fH) (ha (jl H (roots O)) []) he) kf he gN) hs pins s' σ H D J ⟨.ref M.a,hσ,ρ,O,_,I,Js,λus Bl ws H1 s1 a1=>?_⟩;obtain⟨hu,hG⟩:=Bl;have I0:=I.same s1;have F1:=F.now I0 (bu I);have I1:=I0.rebase (Z:=zf M O H) rfl;rw[CO];exact v5 F1 I1 hp nC hu a1 hG λs2 t hq v H' S' _ _=>Fi.nx _ _ σ H' S' hq⟩
end
section
variable{pos:Pos}
theorem fj{k k':Nat}{G:qaj->S->(S->T->Prop)->Prop}{fa:FA}(C:cp X.prog X.w X.K X.mg X.base x ps k (j7 X.K n G))(hr:bh k' X.A)(ha:∀H0,VA X ⟨H0,[],M.Ox⟩ es fa)(hN:X.N[M.k]?=some y)(hg:Gl X x:=by rfl)(hk:k<=k':=by decide)(hv:jA X.env.scope y:=by first|exact Or.inl rfl|exact Or.inr (Or.inl rfl)|exact Or.inr (Or.inr rfl))(hd:gp y:=by decide)(fH:se y:=by decide)(kf:gp x:=by decide)(he:starEach (.Name y p1::es) X.env=(false,eval (.Name y p1) X.env)::starEach es X.env:=by rfl)(gN:(backTo aN (starEach es X.env)).any (·.1)=false:=by rfl)(hs:swapsWith (.Call (.Name x p) (.Name y p1::es) [] aN) none pos.line X.env=pure false:=by rfl) :
  MS X M (.Expr (.Call (.Name x p) (.Name y p1::es) [] aN) pos) (Aq M n G fa):=by
 obtain⟨f,fd,h1,h2,h3,F⟩:=C;exact Jr F (hr.mono hk) hg h1 h2 h3 ha hN hv hd fH kf he gN hs
end
theorem fm{α:Type}{f u:α->T}{h:FG}{fe:FE}{ρ:En}:∀{xs:List α}{Q:qaj->Prop},(∀x∈xs,∀r:T->Prop,r (u x)->h (f x) ρ λρ2=>fe ρ2 r)->Q (xs.map u)->cA h Bw fe ρ (xs.map f) Q
 |[],Q,_,hq=>hq
 |x::xs,Q,step,hq=>by simp only[fS,cA];exact step x cS (λy=>cA h Bw fe ρ (xs.map f) λus=>Q (y::us)) (fm (Q:=λus=>Q (u x::us)) (λy hy=>step y (d_ _ hy)) hq)
theorem iM{lo:Int}{u:Nat->T}{h:FG}{Q:qaj->Prop}(step:∀i<n,∀r:T->Prop,r (u i)->h (.int (lo+(i:Int))) ρ λρ2=>fe ρ2 r)(hq:Q ((List.range n).map u)):cA h Bw fe ρ (rangeT lo n) Q :=
 fm (f:=λi:Nat=>T.int (lo+(i:Int))) (u:=u) (λi hi=>step i (G4.mp hi)) hq
theorem v7{h:FG}{fe:FE}{ρ:En}{Q:qaj->Prop}{Pd:T->Prop}:∀{ts:qaj},(∀t∈ts,∀r:T->Prop,(∀x,Pd x->r x)->h t ρ λρ2=>fe ρ2 r)->(∀us:qaj,us.length=ts.length->(∀x∈us,Pd x)->Q us)->cA h Bw fe ρ ts Q
 |[],_,hq=>hq [] rfl (λ_ z=>nomatch z)
 |t::ts,step,hq=>by
  simp only[cA];have:=step t cS (λu=>cA h Bw fe ρ ts λus=>Q (u::us)) λx hx=>v7 (λt ht=>step t (d_ _ ht)) λus hl ha=>hq (x::us) (by simp[hl]) λy hy=>by
   rcases cT.mp hy with z|z
   rw[z];exact hx;exact ha y z
  exact this
end VT
namespace VT
open PySem PySem.Spec PyProof.Rows
def ddp{K:Type}[DecidableEq K](l:List K)(v:K):List K:=if v∈l then l else l++[v]
def met{K:Type}[DecidableEq K](val:Nat->K):Nat->List K
 |0=>[]
 |i+1=>ddp (met val i) (val i)
section
variable{R:Result->Shared->Prop}{I:Addr}{wr:qah}{G:Array GenState->Array GenState->Prop}{P:Nat->Value->Prop}{St:Nat->Shared->Prop}
variable{K:Type}[DecidableEq K]{knd:PySem.KeyKind prog w K}
end
end VT
namespace VT
open PySem PySem.Spec PyProof.Rows L2
end VT
namespace Gen
open PySem L2 VT
open ng (bM)
theorem small(h:n<=1000):n<=sizeLine:=Nat.le_of_lt (Bq h)
theorem cw(h:Nat.ble n 1000=true):n<=sizeLine:=small (Nat.le_of_ble_eq_true h)
noncomputable def qA(n:Int):Nat:=bM.cps.toList.getD (n % 26).toNat 0
theorem v8:bM.cps.toList.length=26:=by decide +kernel
theorem tO:bM.length=26:=by decide +kernel
theorem jt:bM.length<=sizeLine:=by rw[tO,sizeLine_eq];decide
theorem rE(n:Int):jB bM.cps.toList (n % 26)=some (qA n):=by
 have h0:0<=n % 26:=uK n (by decide);have h1:n % 26<26:=uJ n (by decide);unfold qA;obtain⟨j,hj⟩:=KW h0;rw[hj];have gQ:j<bM.cps.toList.length:=by rw[v8];omega
 refine ak ?_;rw[A2,List.getD,m6 gQ];rfl
inductive fP where
 |nm (x:Str)
 |nu (i:Int)
inductive Ky where
 |fld (x:Str)
 |op (o:fP)
inductive Rw where
 |df (f:Str) (ps:qai)
 |give (a:fP)
 |put (x:Str) (a:fP)
 |ju (x:Str) (a:fP) (op:Str) (b:fP)
 |new (x:Str)
 |get (x r:Str) (k:Ky)
 |set (r:Str) (k:Ky) (a:fP)
 |call (x f:Str) (as:List fP)
 |fail (w:Str)
 |Jt (a:fP)
 |Qy
 |EJ (a:fP)
 |fin
 |skip
noncomputable def eM:fP->T
 |.nm x=>.str x
 |.nu i=>.int i
noncomputable def qB:Ky->T
 |.fld x=>.str (((".":String):Str)++x)
 |.op o=>eM o
noncomputable def aT:Rw->T
 |.df f ps=>.tup [.str "def",.str f,.tup (ps.map .str)]
 |.give a=>.tup [.str "give",eM a]
 |.put x a=>.tup [.str "put",.str x,eM a]
 |.ju x a op b=>.tup [.str "do",.str x,eM a,.str op,eM b]
 |.new x=>.tup [.str "new",.str x]
 |.get x r k=>.tup [.str "get",.str x,.str r,qB k]
 |.set r k a=>.tup [.str "set",.str r,qB k,eM a]
 |.call x f as=>.tup [.str "call",.str x,.str f,.tup (as.map eM)]
 |.fail w=>.tup [.str "fail",.str w]
 |.Jt a=>.tup [.str "if",eM a]
 |.Qy=>.tup [.str "else"]
 |.EJ a=>.tup [.str "while",eM a]
 |.fin=>.tup [.str "end"]
 |.skip=>.tup [.str "skip"]
def o8(ys:qai):fP->Prop
 |.nm x=>x∈ys
 |.nu i=>-1000000000000000000000000000000<=i/\i<1000000000000000000000000000000
def Ju(ys:qai):Ky->Prop
 |.fld x=>x∈ys
 |.op o=>o8 ys o
theorem LG:(10:Int) ^ (30:Int).toNat=1000000000000000000000000000000:=by decide +kernel
theorem X3:(((".":String):Str)).length=1:=by decide +kernel
theorem g_{α:Type}{f:α->T}(h:∀x,plainT (f x)=true):∀l:List α,cO (l.map f)=true
 |[]=>by simp[cO]
 |x::l=>by simp only[fS,cO,h x,g_ h l,zA]
theorem kE{α:Type}{f:α->T}{n:Nat}(h:∀x,dep (f x)<=n):∀l:List α,ly (l.map f)<=n
 |[]=>by simp[ly]
 |x::l=>by have:=h x;have:=kE h l;simp only[fS,ly];omega
theorem l9(o:fP):plainT (eM o)=true:=by cases o<;>simp[eM,plainT]
theorem BX(o:Ky):plainT (qB o)=true:=by cases o with|fld x=>simp[qB,plainT]|op o=>exact l9 o
theorem yE(r:Rw):plainT (aT r)=true:=by cases r<;>simp[aT,plainT,cO,l9,BX,g_ (f:=T.str) (λ_=>by simp[plainT]),g_ (f:=eM) l9]
theorem tP(o:fP):dep (eM o)=0:=by cases o<;>simp[eM,dep]
theorem Jv(o:Ky):dep (qB o)=0:=by cases o with|fld x=>simp[qB,dep]|op o=>exact tP o
theorem EK(r:Rw):dep (aT r)<=2:=by have h1:=λl:qai=>kE (f:=T.str) (n:=0) (λ_=>by simp[dep]) l;have h2:=λl:List fP=>kE (f:=eM) (n:=0) (λo=>by simp[tP]) l;cases r<;>simp[aT,dep,ly,tP,Jv]<;>first|(rename_i x;have:=h1 x;omega)|(rename_i x;have:=h2 x;omega)|skip
theorem tQ(o:fP):bJ (eM o)=true:=by cases o<;>simp[eM,bJ]
theorem Jw(o:Ky):bJ (qB o)=true:=by cases o with|fld x=>simp[qB,bJ]|op o=>exact tQ o
theorem dN{α:Type}{f:α->T}(h:∀x,bJ (f x)=true):∀l:List α,cb (l.map f)=true
 |[]=>by simp[cb]
 |x::l=>by simp only[fS,cb,h x,dN h l,zA]
theorem iN(r:Rw):bJ (aT r)=true:=by cases r<;>simp[aT,bJ,cb,tQ,Jw,dN (f:=T.str) (λ_=>by simp[bJ]),dN (f:=eM) tQ]
end Gen
variable{r:Gen.Rw}
abbrev qal:=List Gen.Rw
namespace Gen
open PySem L2 VT
open ng (bM Bu cK)
theorem Ar(n:Int):Bu (qA n)=true:=by
 have h0:0<=n % 26:=uK n (by decide);have h1:n % 26<26:=uJ n (by decide);have h:∀j<26,Bu (bM.cps.toList.getD j 0)=true:=by decide +kernel
 exact h _ (by omega)
theorem EL{a b:Int}(h:qA a=qA b):a % 26=b % 26:=by
 have a0:0<=a % 26:=uK a (by decide);have a1:a % 26<26:=uJ a (by decide);have b0:0<=b % 26:=uK b (by decide);have b1:b % 26<26:=uJ b (by decide);have k:∀i<26,∀j<26,bM.cps.toList.getD i 0=bM.cps.toList.getD j 0->i=j:=by decide +kernel
 have:=k (a % 26).toNat (by omega) (b % 26).toNat (by omega) h;omega
end Gen
variable{rs:qal}
namespace Nm
open PySem L2 VT Gen ng
noncomputable def top(i:Nat):Stmt:=PySem.Challenge.pw_slicewise_k13_records_and_cells.main.body.getD i (.Pass ⟨0,0,0,0⟩)
noncomputable abbrev je:Stmt:=top 6
noncomputable abbrev jR:Stmt:=top 7
structure X4(mg:qae):Prop where
 Jx:∃t,mg "LETTERS"=some (.str bM t)
 tR:∃t,mg "LONGEST_NAME"=some (.int 8 t)
 isinstance:mg "isinstance"=none
 str:mg "str"=none
 len:mg "len"=none
 all:mg "all"=none
theorem mQ(h:n<=1000):n<=sizeLine:=small h
noncomputable def Jy:T->Bool
 |.lst _=>false
 |.dk _ _=>false
 |.dc _ _ _=>false
 |.ins _ _ _=>false
 |.pin _ _=>false
 |.ob _=>false
 |.ty _=>false
 |_=>true
noncomputable def As:T->Bool
 |.str x=>cK x
 |_=>false
def jo(ts:qaj)(q:qam):Prop:=∃t,ts=[t]/\Jy t=true/\(∀x,t=.str x->x.length<=1000)/\q (.vw (.bl (As t)))
def Ol(r:Rt)(A:Prop)(B:Prop):Prop:=match r with
 |.vw (.bl true)=>A
 |.vw (.bl false)=>B
 |_=>False
theorem EM{c:Bool}{A:Prop}(h1:c=true->A)(h2:c=false->B):Ol (.vw (.bl c)) A B:=by
 cases c with
 |true=>exact h1 rfl
 |false=>exact h2 rfl
noncomputable def jS:T->Bool
 |.str x=>ow x
 |_=>false
def v_(t:T):Prop:=(∃x,t=.str x/\x.length<=100)\/∃i,t=.int i
def yz(ts:qaj)(q:qam):Prop:=∃t,ts=[t]/\v_ t/\q (.vw (.bl (jS t)))
def andM(r:Rt)(A:Prop)(B:Prop):Prop:=match r with
 |.vw (.bl true)=>A
 |.vw (.bl false)=>B
 |_=>False
theorem Jz{c:Bool}{A:Prop}(h1:c=true->A)(h2:c=false->B):andM (.vw (.bl c)) A B:=by
 cases c with
 |true=>exact h1 rfl
 |false=>exact h2 rfl
theorem Au:∀l:qao,dG (l.map ((λt:T=>match t with | .str y=>.bl (D8 y bM)|_=>.aQ) ∘ λc=>T.str ⟨#[c]⟩))=some (l.map Bu)
 |[]=>rfl
 |c::l=>by rw[fS,fS];show (dG _).map _=_;rw[Au l];rfl
section
abbrev l_:qai:=qav
theorem o9:aA l_ qav (ah je):=L2.gO
theorem qC:(l_++(["sign"]:qai)).Nodup:=by decide +kernel
theorem JA(D:Df K mg "is_name" je qav f fd)(M:X4 mg):cp P w K mg base "is_name" qav 1 (de K 1 jo):=by
 refine D.gX (nz D.F o9 rfl λbq A outer s H E Ox hr ts q hG=>?_);have nd:=o9.nd;have np:∀{i:Nat},bE ⟨H,[],Ox⟩ i:=mM;obtain⟨tL,mL⟩:=M.Jx;obtain⟨tN,mN⟩:=M.tR;have o_:∀{pos},VP (eR dO P w K mg base l_ "is_name" (ah je) f bq A outer s H E).nX ⟨H,[],Ox⟩ (.Name "LONGEST_NAME" pos) (fC (.int 8)):=ja (by rfl) mN (v:=.int 8) ⟨tN,rfl⟩ λ_ _=>bc;refine⟨_,(ai (bH (VW.vc (vh (lu (dy (bQ eZ (by rfl) M.isinstance (by rfl) M.str oR (ae 0)))) (oz (lu (D' K' K' (qas af) (qas (bA br bt (by rfl) M.len sg (aJ (ae 0) aV))) (qas o_))))))
    (ax (aI (qau rn)))
    aP)
   (ax (aI (qau (bA (oq rfl) BB (by rfl) M.all Sz (aJ (qas (f_ (ts:=["sign"]) rfl (by rfl) (jJ (aj 0)) (λ_ _ _ _ _ _=>(a_ (i:=1) qC rfl (Or.inl rfl) np)) (λ_ _ _ _ _ _=>eS) (λ_ _ _ _ _ _=>(qat (Sw (ae 1) (qas (ja (by rfl) mL (v:=.str bM) ⟨tL,rfl⟩ λ_ _=>c_))))))) aV)))))),λ_=>?_⟩
 obtain⟨t,rfl,ht,hx,hq⟩:=hG;cases t with
 |aQ=>exact⟨rfl,hq⟩
 |bl b=>exact⟨rfl,hq⟩
 |int x=>exact⟨rfl,hq⟩
 |tup l=>exact⟨rfl,hq⟩
 |str x=>
   have hl:=hx x rfl;have gS:q (.vw (.bl (decide (1<=(x.length:Int)) && (decide ((x.length:Int)<=8) && x.cps.toList.all Bu)))):=hq;refine⟨rfl,mQ hl,EM (c:=decide (1<=(x.length:Int))) (λh1=>?_) (λh1=>?_)⟩;rw[h1,Mr] at gS;refine ye (λh2=>?_) (λh2=>?_);have Ag:(!decide ((x.length:Int)<=8))=true:=h2;have h3:decide ((x.length:Int)<=8)=false:=by simpa using Ag
   rw[h3,QX] at gS;exact gS;have Ag:¬ (!decide ((x.length:Int)<=8))=true:=h2;have h3:decide ((x.length:Int)<=8)=true:=by simpa using Ag
   rw[h3,Mr] at gS;refine⟨rfl,by rw[cW,Hn];exact mQ hl,rq (λ_=>true) (λt=>match t with | .str y=>.bl (D8 y bM)|_=>.aQ) (λt ht k r h=>?_) ?_⟩;obtain⟨c,_,rfl⟩:=sh.mp ht;exact⟨_,rfl,h⟩;rw[List.filter_eq_self.mpr (λ_ _=>rfl),zB];refine⟨x.cps.toList.map Bu,Au x.cps.toList,?_⟩;rw[List.all_map];exact gS;rw[h1,QX] at gS;exact gS
 |_=>cases ht
abbrev yF:qai:=qav
theorem mR:aA yF qav (ah jR):=L2.gO
theorem wa(D:Df K mg "is_field" jR qav f fd)(M:X4 mg)(ma:cp P w K mg base "is_name" qav 1 (de K 1 jo)):cp P w K mg base "is_field" qav 2 (de K 1 yz):=by
 refine D.gX (nz D.F mR rfl λbq A outer s H E Ox hr ts q hG=>?_);have nd:=mR.nd;refine⟨_,(ax (aI (qau (lx (bQ eZ (by rfl) M.isinstance (by rfl) M.str oR (ae 0)) (lx (BR (ae 0) (qas aW)) (sM (aE ma hr (aa (qat (gC (ae 0) (gW (qas af)) kq)) ar)))))))),λ_=>?_⟩;obtain⟨t,rfl,ht,hq⟩:=hG;obtain⟨x,rfl,hx⟩|⟨i,rfl⟩:=ht
 refine⟨rfl,?_⟩;have gS:q (.vw (.bl (Txt.startswith x "." && cK (Txt.slice x (some 1) none)))):=hq;refine Jz (c:=Txt.startswith x ".") (λh=>?_) (λh=>?_);rw[h,Mr] at gS;refine⟨mQ (by omega),rfl,_,rfl,rfl,λy e=>?_,gS⟩;cases e;exact m7 (Txt.slice_le x _ _) (by omega);rw[h,QX] at gS;exact gS;exact⟨rfl,hq⟩
end
end Nm
namespace PySem
open Sem (wp)
namespace F
end F
end PySem
namespace VT
open PySem PySem.Spec PyProof.Rows L2
end VT
namespace Qz
open PySem L2 VT Gen ng Nm
noncomputable def iO:Rw->qaj
 |.give a=>[eM a]
 |.Jt a=>[eM a]
 |.EJ a=>[eM a]
 |.put _ a=>[eM a]
 |.ju _ a _ b=>[eM a,eM b]
 |.get _ r k=>[.str r,qB k]
 |.set r k a=>[.str r,qB k,eM a]
 |.call _ _ as=>as.map eM
 |_=>[]
noncomputable abbrev jT:Stmt:=top 9
noncomputable def Tg:List (Str×T):=[("give",.tup [.int 1]),("put",.tup [.int 2]),("do",.tup [.int 2,.int 4]),("get",.tup [.int 2,.int 3]),("set",.tup [.int 1,.int 2,.int 3]),("if",.tup [.int 1]),("while",.tup [.int 1])]
structure ZM(w:World)(K:qaf)(mg:qae):Prop where
 list:mg "list"=none
 US:∃a,mg "USED_PLACES"=some (.ref a)/\rB w K a Tg
noncomputable def Av:Rw->qaj
 |.call _ _ as=>as.map eM
 |r=>(iO r).filter λt=>!jS t
def Aw(ts:qaj)(q:qam):Prop:=∃r:Rw,ts=[aT r]/\(∀t∈iO r,v_ t)/\q (.fr (.lst (Av r)))
section
noncomputable abbrev jU:qai:=["row","parts"]
theorem mT:aA jU ["row"] (ah jT):=L2.gO
theorem pb:(jU++(["place"]:qai)).Nodup:=by decide +kernel
theorem pd:(jU++(["part"]:qai)).Nodup:=by decide +kernel
theorem wb(D:Df K mg "operands" jT ["row"] f fd)(M:ZM w K mg)(jV:cp P w K mg base "is_field" qav 2 (de K 1 yz)):cp P w K mg base "operands" ["row"] 3 (de K 1 Aw):=by
 refine D.gX (nz D.F mT rfl λbq A outer s H E Ox hr ts q hG=>?_);have nd:=mT.nd;have hu:=bh.fM hr;have np:∀{i:Nat},bE ⟨H,[],Ox⟩ i:=mM;obtain⟨aU,qD,pe⟩:=M.US;refine⟨_,(ai (bH (cy hu (qas (aH (ae 0) (qas af))) (qas aW))
    (ax (aI (qau (dU gT jI (by rfl) M.list lT (aJ (qas (aH (ae 0) (qas af))) aV)))))
    aP)
   (ai (zZ (i:=1) (ts:=["place"]) nd rfl (Or.inl rfl) rfl (by rfl) (jJ (qat (Ew (by rfl) qD pe (qas (aH (ae 0) (qas af))) (qat (a9 ar)) ⟨rfl,rfl,rfl,rfl⟩))) (λ_ _ _ _ _ _=>(a_ (i:=2) pb rfl (Or.inl rfl) np)) (λ_ _ _ _ _ _=>eS) (λ_ _ _ _ _ _=>(qat (aH (ae 0) (ae 2)))) np)
   (ax (aI (qau (f_ (ts:=["part"]) rfl (by rfl) (jJ (aj 1)) (λ_ _ _ _ _ _=>(a_ (i:=2) pd rfl (Or.inl rfl) np)) (λ_ _ _ _ _ _=>(IH (lu (dy (aE jV hr (aa (aj 2) ar)))))) (λ_ _ _ _ _ _=>(aj 2)))))))),λ_=>?_⟩
 obtain⟨r,rfl,hl,hq⟩:=hG;have fin:∀(ps:qaj),(∀t∈ps,v_ t)->q (.fr (.lst (ps.filter λt=>!jS t)))->cA (hName 2) (R7 (lr (yk 1 (dA (jE 2) nv) yz))) (jE 2) [some (aT r,false),some (.lst ps,false),none] ps λus=>q (.fr (.lst us)):=λps Om hq=>by refine rq (λt=>!jS t) (λt=>t) (λt ht k r h=>?_) (by rw[List.map_id'];exact hq);refine⟨rfl,t,rfl,Om t ht,?_⟩;exact h
 cases r with
 |call x f as=>exact⟨_,ak (j:=0) rfl,_,ak (j:=3) rfl,hq⟩
 |give a=>refine⟨_,ak (j:=0) rfl,rfl,_,ak (j:=0) rfl,ji _,?_⟩;show ([T.int 1]:qaj).length<=sizeLine/\cA _ _ _ _ [T.int 1] _;exact⟨Gen.cw rfl,_,ak (j:=1) rfl,rfl,Gen.cw rfl,fin _ hl hq⟩
 |Jt a=>refine⟨_,ak (j:=0) rfl,rfl,_,ak (j:=0) rfl,ji _,?_⟩;show ([T.int 1]:qaj).length<=sizeLine/\cA _ _ _ _ [T.int 1] _;exact⟨Gen.cw rfl,_,ak (j:=1) rfl,rfl,Gen.cw rfl,fin _ hl hq⟩
 |EJ a=>refine⟨_,ak (j:=0) rfl,rfl,_,ak (j:=0) rfl,ji _,?_⟩;show ([T.int 1]:qaj).length<=sizeLine/\cA _ _ _ _ [T.int 1] _;exact⟨Gen.cw rfl,_,ak (j:=1) rfl,rfl,Gen.cw rfl,fin _ hl hq⟩
 |put x a=>refine⟨_,ak (j:=0) rfl,rfl,_,ak (j:=0) rfl,ji _,?_⟩;show ([T.int 2]:qaj).length<=sizeLine/\cA _ _ _ _ [T.int 2] _;exact⟨Gen.cw rfl,_,ak (j:=2) rfl,rfl,Gen.cw rfl,fin _ hl hq⟩
 |ju x a op b=>refine⟨_,ak (j:=0) rfl,rfl,_,ak (j:=0) rfl,ji _,?_⟩;show ([T.int 2,T.int 4]:qaj).length<=sizeLine/\cA _ _ _ _ [T.int 2,T.int 4] _;exact⟨Gen.cw rfl,_,ak (j:=2) rfl,_,ak (j:=4) rfl,rfl,Gen.cw rfl,fin _ hl hq⟩
 |get x y k=>refine⟨_,ak (j:=0) rfl,rfl,_,ak (j:=0) rfl,ji _,?_⟩;show ([T.int 2,T.int 3]:qaj).length<=sizeLine/\cA _ _ _ _ [T.int 2,T.int 3] _;exact⟨Gen.cw rfl,_,ak (j:=2) rfl,_,ak (j:=3) rfl,rfl,Gen.cw rfl,fin _ hl hq⟩
 |set y k a=>refine⟨_,ak (j:=0) rfl,rfl,_,ak (j:=0) rfl,ji _,?_⟩;show ([T.int 1,T.int 2,T.int 3]:qaj).length<=sizeLine/\cA _ _ _ _ [T.int 1,T.int 2,T.int 3] _;exact⟨Gen.cw rfl,_,ak (j:=1) rfl,_,ak (j:=2) rfl,_,ak (j:=3) rfl,rfl,Gen.cw rfl,fin _ hl hq⟩
 |_=>refine⟨_,ak (j:=0) rfl,rfl,_,ak (j:=0) rfl,ji _,?_⟩;show ([]:qaj).length<=sizeLine/\cA _ _ _ _ [] _;exact⟨ji _,rfl,ji _,fin _ hl hq⟩
end
end Qz
namespace Gen
open PySem L2 VT
noncomputable def wd:Rw->Str
 |.df _ _=>"def"
 |.give _=>"give"
 |.put _ _=>"put"
 |.ju _ _ _ _=>"do"
 |.new _=>"new"
 |.get _ _ _=>"get"
 |.set _ _ _=>"set"
 |.call _ _ _=>"call"
 |.fail _=>"fail"
 |.Jt _=>"if"
 |.Qy=>"else"
 |.EJ _=>"while"
 |.fin=>"end"
 |.skip=>"skip"
theorem nR(r:Rw):∃l,aT r=.tup (.str (wd r)::l):=by cases r<;>exact⟨_,rfl⟩
theorem rF{f:α->T}{xs:List α}{h:FG}{g:FS}{d:DY}(Pv:Nat->En->Prop)(h0:Pv 0 ρ)(hs:∀(i:Nat) x ρ',xs[i]?=some x->Pv i ρ'->h (.tup [.int (i:Int),f x]) ρ' λρ2=>g {nx:=Pv (i+1),ct:=Pv (i+1),bk:=d.nx,rt:=d.rt} ρ2)(hd:∀ρ',Pv xs.length ρ'->d.nx ρ'):mJ (eB (xs.map f)) h g d ρ:=⟨Pv,h0,λi t ρ' e p=>by
 unfold eB at e;rw[UT,ij] at e;cases q:xs[i]? with
 |none=>rw[q] at e;cases e
 |some x=>rw[q] at e;cases e;exact hs i x ρ' q p,λρ' p=>hd ρ' (by unfold eB at p;rw[List.length_mapIdx,cW] at p;exact p)⟩
noncomputable def Hi:List (Str×Nat)->Str->Option Nat
 |[],_=>none
 | (k,i)::l,f=>if k=f then some i else Hi l f
theorem Vr(l m:List (Str×Nat))(f:Str):Hi (l++m) f=match Hi l f with
  |some i=>some i
  |none=>Hi m f:=by
 induction l with
 |nil=>rfl
 |cons p l ih=>obtain⟨k,i⟩:=p;simp only[CN,Hi];by_cases h:k=f;rw[if_pos h,if_pos h];rw[if_neg h,if_neg h];exact ih
noncomputable def Oo(l:List (Str×Nat))(i:Nat):Rw->List (Str×Nat)
 |.df f _=>match Hi l f with
  |some _=>l
  |none=>l++[(f,i)]
 |_=>l
noncomputable def bz(rs:qal):Nat->List (Str×Nat)
 |0=>[]
 |n+1=>match rs[n]? with
  |some r=>Oo (bz rs n) n r
  |none=>bz rs n
end Gen
namespace K5
structure Kd where
 op:Bool
 cl:Bool
 el:Bool
 df:Bool
deriving DecidableEq,Inhabited
section
variable(kd:Nat->Kd)
noncomputable def st:Nat->qao
 |0=>[]
 |k+1=>let s:=if (kd k).cl=true then (st k).dropLast else st k
  if (kd k).op=true then s++[k] else s
noncomputable def dp(k:Nat):Nat:=(st kd k).length
structure WF(n:Nat):Prop where
 ex:∀k,k<n->(kd k).op=true->(kd k).cl=false
 cl:∀k,k<n->(kd k).cl=true->st kd k≠[]
 el:∀k,k<n->(kd k).el=true->st kd k≠[]
 nc:∀k,k<n->(kd k).el=true->(kd k).cl=false/\(kd k).op=false
 dn:∀k,k<n->(kd k).df=true->(kd k).op=true
 fin:st kd n=[]
end
section
variable{kd:Nat->Kd}
theorem rG{k:Nat}(h:(kd k).op=true)(h':(kd k).cl=false):st kd (k+1)=st kd k++[k]:=by simp[st,h,h']
theorem pf{k:Nat}(h:(kd k).cl=true)(h':(kd k).op=false):st kd (k+1)=(st kd k).dropLast:=by simp[st,h,h']
theorem wc{k:Nat}(h:(kd k).cl=false)(h':(kd k).op=false):st kd (k+1)=st kd k:=by simp[st,h,h']
theorem WF.Wa(W:WF kd n){k:Nat}(hk:k<n)(h:(kd k).cl=true):(kd k).op=false:=by
 cases q:(kd k).op with
 |false=>rfl
 |true=>rw[W.ex k hk q] at h;cases h
theorem Ax(W:WF kd n){k:Nat}(hk:k<n)(h:(kd k).op=true):dp kd (k+1)=dp kd k+1:=by unfold dp;rw[rG h (W.ex k hk h)];simp
theorem EN(W:WF kd n){k:Nat}(hk:k<n)(h:(kd k).cl=true):dp kd (k+1)+1=dp kd k:=by unfold dp;rw[pf h (W.Wa hk h),QS];have:0<(st kd k).length:=List.length_pos_iff.mpr (W.cl k hk h);omega
theorem EO{k:Nat}(h:(kd k).cl=false)(h':(kd k).op=false):dp kd (k+1)=dp kd k:=by unfold dp;rw[wc h h']
theorem LH(W:WF kd n):∀k,k<=n->∀i j,(st kd k)[i]?=some j->j<k/\(kd j).op=true/\dp kd j=i/\∀m,j<m->m<=k->i<dp kd m
 |0,_,i,j,h=>by simp[st] at h
 |k+1,hk,i,j,h=>by
  have ih:=LH W k (by omega);have Al:k<n:=by omega
  have ext:∀{i j:Nat},(st kd k)[i]?=some j->i<dp kd (k+1)->j<k+1/\(kd j).op=true/\dp kd j=i/\∀m,j<m->m<=k+1->i<dp kd m:=λ{i j} h hd=>by obtain⟨a,b,c,d⟩:=ih i j h;refine⟨by omega,b,c,λm h1 h2=>?_⟩;by_cases e:m=k+1;rw[e];exact hd;exact d m h1 (by omega)
  by_cases ho:(kd k).op=true;rw[rG ho (W.ex k Al ho)] at h;have hd:=Ax W Al ho;by_cases hi:i<(st kd k).length;rw[qg hi] at h;exact ext h (by rw[hd];exact Qj hi);rw[uI (by omega)] at h;have e:i-(st kd k).length=0:=by
   cases q:i-(st kd k).length with
   |zero=>rfl
   |succ r=>rw[q] at h;simp at h
  rw[e] at h;simp at h;subst h;have ei:i=dp kd k:=by unfold dp;omega
  refine⟨by omega,ho,ei.symm,λm h1 h2=>?_⟩;have:m=k+1:=by omega
  rw[this,hd,ei];omega;have jn:(kd k).op=false:=by cases q:(kd k).op<;>simp_all
  by_cases hc:(kd k).cl=true;rw[pf hc jn] at h;have hi:i<(st kd k).dropLast.length:=(fG.mp h).1;have hd:dp kd (k+1)=(st kd k).dropLast.length:=by unfold dp;rw[pf hc jn]
  rw[List.getElem?_dropLast,if_pos (by rw[QS] at hi;exact hi)] at h;exact ext h (by rw[hd];exact hi);have qh:(kd k).cl=false:=by cases q:(kd k).cl<;>simp_all
  rw[wc qh jn] at h;have hd:dp kd (k+1)=dp kd k:=EO qh jn;exact ext h (by rw[hd];exact (fG.mp h).1)
theorem LI(W:WF kd n){j:Nat}(ho:(kd j).op=true):∀k,j<k->k<=n->(∀m,j<m->m<=k->dp kd j<dp kd m)->(st kd k)[dp kd j]?=some j
 |0,h,_,_=>by omega
 |k+1,h,hk,hm=>by
  have Al:k<n:=by omega
  by_cases e:j=k;subst e;rw[rG ho (W.ex j Al ho)];unfold dp;rw[uI (cU _)];simp;have ih:=LI W ho k (by omega) (by omega) λm h1 h2=>hm m h1 (by omega);have hd:=hm (k+1) (by omega) (cU _);by_cases jn:(kd k).op=true;rw[rG jn (W.ex k Al jn),qg (fG.mp ih).1];exact ih;have Oq:(kd k).op=false:=by cases q:(kd k).op<;>simp_all
  by_cases hc:(kd k).cl=true;have hl:dp kd (k+1)=(st kd k).length-1:=by unfold dp;rw[pf hc Oq,QS]
  rw[pf hc Oq,List.getElem?_dropLast,if_pos (by omega)];exact ih;have qh:(kd k).cl=false:=by cases q:(kd k).cl<;>simp_all
  rw[wc qh Oq];exact ih
noncomputable def jf(kd:Nat->Kd)(n d:Nat):Nat->Nat->Option Nat
 |0,_=>none
 |f+1,k=>if k<n then (if dp kd (k+1)=d then some k else jf kd n d f (k+1)) else none
noncomputable def endOf(kd:Nat->Kd)(n j:Nat):Option Nat:=jf kd n (dp kd j) (n-(j+1)) (j+1)
theorem kF{d:Nat}:∀{f k e:Nat},jf kd n d f k=some e->k<=e/\e<n/\dp kd (e+1)=d/\∀m,k<=m->m<e->dp kd (m+1)≠d
 |0,_,_,h=>by cases h
 |f+1,k,e,h=>by
  simp only[jf] at h;split at h
  rename_i hk
  split at h
  rename_i hd
  cases h;exact⟨cU _,hk,hd,λm h1 h2=>by omega⟩
  rename_i hd
  obtain⟨a,b,c,r⟩:=kF h;refine⟨by omega,b,c,λm h1 h2=>?_⟩;by_cases em:m=k;rw[em];exact hd;exact r m (by omega) h2;cases h
theorem kG{d:Nat}:∀{f k:Nat},jf kd n d f k=none->∀m,k<=m->m<k+f->m<n->dp kd (m+1)≠d
 |0,k,_,m,h1,h2,_=>by omega
 |f+1,k,h,m,h1,h2,h3=>by
  simp only[jf] at h;split at h;split at h;cases h
  rename_i hd
  by_cases em:m=k;rw[em];exact hd;exact kG h m (by omega) (by omega) h3;omega
theorem JB(W:WF kd n){k:Nat}(hk:k<n):dp kd k<=dp kd (k+1)+1:=by
 by_cases ho:(kd k).op=true;rw[Ax W hk ho];omega;have jn:(kd k).op=false:=by cases q:(kd k).op<;>simp_all
 by_cases hc:(kd k).cl=true;rw[EN W hk hc];exact cU _;have qh:(kd k).cl=false:=by cases q:(kd k).cl<;>simp_all
 rw[EO qh jn];omega
theorem above(W:WF kd n){j:Nat}(hj:j<n)(ho:(kd j).op=true):∀k,j<k->k<=n->(∀m,j<m->m<k->dp kd (m+1)≠dp kd j)->∀m,j<m->m<=k->dp kd j<dp kd m
 |0,h,_,_,m,_,_=>by omega
 |k+1,h,hk,eW,m,h1,h2=>by by_cases em:m=k+1;subst em;by_cases e:j=k;subst e;rw[Ax W hj ho];omega;have ih:=above W hj ho k (by omega) (by omega) (λm a b=>eW m a (by omega)) k (by omega) (cU _);have s:=JB W (k:=k) (by omega);have ne:=eW k (by omega) (by omega);omega;by_cases e:j=k;omega;exact above W hj ho k (by omega) (by omega) (λm a b=>eW m a (by omega)) m h1 (by omega)
theorem end_is(W:WF kd n)(hj:j<n)(ho:(kd j).op=true):∃e,endOf kd n j=some e/\j<e/\e<n/\dp kd (e+1)=dp kd j/\∀m,j<m->m<e->dp kd (m+1)≠dp kd j:=by
 cases h:endOf kd n j with
 |some e=>obtain⟨a,b,c,d⟩:=kF h;exact⟨e,rfl,by omega,b,c,λm h1 h2=>d m (by omega) h2⟩
 |none=>
  exfalso;have q:=kG h;have a:=above W hj ho n hj (cU _) (λm h1 h2=>q m (by omega) (by omega) h2) n hj (cU _);have z:dp kd n=0:=by unfold dp;rw[W.fin];rfl
  omega
theorem rH:∀k,(st kd k).Pairwise (·<·)/\∀j∈st kd k,j<k
 |0=>⟨List.Pairwise.nil,λj h=>(by simp[st] at h)⟩
 |k+1=>by
  obtain⟨h1,h2⟩:=rH k;have base:∀{s:qao},s.Sublist (st kd k)->s.Pairwise (·<·)/\∀j∈s,j<k:=λsl=>⟨h1.sublist sl,λj h=>h2 j (sl.subset h)⟩;have key:∀{s:qao},s.Sublist (st kd k)->(if (kd k).op=true then s++[k] else s).Pairwise (·<·)/\∀j∈(if (kd k).op=true then s++[k] else s),j<k+1:=λ{s} sl=>by
   obtain⟨a,b⟩:=base sl;split;refine⟨List.pairwise_append.mpr ⟨a,List.pairwise_singleton _ _,λx hx y hy=>by rw[gq.mp hy];exact b x hx⟩,λj hj=>?_⟩;rcases cJ.mp hj with h|h
   exact Qj (b j h);rw[gq.mp h];exact C7 _;exact⟨a,λj hj=>Qj (b j hj)⟩
  simp only[st];by_cases hc:(kd k).cl=true;rw[if_pos hc];exact key (List.dropLast_sublist _);rw[if_neg hc];exact key (List.Sublist.refl _)
noncomputable def endsAt(kd:Nat->Kd)(n j:Nat):Option Nat:=if (kd j).op=true then endOf kd n j else none
theorem JC(W:WF kd n){k:Nat}(hk:k<n)(hc:(kd k).cl=true)(ht:(st kd k).getLast?=some j):endsAt kd n j=some k/\j<k:=by
 have hl:(st kd k)[(st kd k).length-1]?=some j:=by rw[<- Qh];exact ht
 obtain⟨a,b,c,d⟩:=LH W k (by omega) _ j hl;obtain⟨e,h1,h2,h3,h4,h5⟩:=end_is W (by omega) b;refine⟨?_,a⟩;unfold endsAt;rw[if_pos b,h1]
 congr 1
 have hd:=EN W hk hc;have nJ:dp kd (k+1)=dp kd j:=by rw[c];unfold dp at hd ⊢;omega
 rcases Nat.lt_or_ge e k with l|l
 have:=d (e+1) (by omega) (by omega);omega;rcases Nat.lt_or_ge k e with l2|l2
 exact absurd nJ (h5 k a l2);omega
theorem Ay(W:WF kd n){k:Nat}(hk:k<n)(he:endsAt kd n j=some k)(hj:j<n):(kd k).cl=true/\(st kd k).getLast?=some j:=by
 unfold endsAt at he;by_cases ho:(kd j).op=true;rw[if_pos ho] at he;obtain⟨e,h1,h2,h3,h4,h5⟩:=end_is W hj ho;rw[h1] at he;cases he;have ab:=above W hj ho k h2 (by omega) λm x y=>h5 m x y;have qF:=ab k h2 (cU _);have hc:(kd k).cl=true:=by
  cases q:(kd k).cl with
  |true=>rfl
  |false=>exfalso;by_cases jn:(kd k).op=true;rw[Ax W hk jn] at h4;omega;rw[EO q (by cases r:(kd k).op<;>simp_all)] at h4;omega
 refine⟨hc,?_⟩;have hd:=EN W hk hc;have:=LI W ho k h2 (by omega) ab;rw[Qh];have e:(st kd k).length-1=dp kd j:=by unfold dp at hd h4 ⊢;omega
 rw[e];exact this;rw[if_neg ho] at he;cases he
end
end K5
namespace K5
open PySem L2 VT Gen
noncomputable def wordOf:Rw->Str
 |.df _ _=>"def" | .give _=>"give" | .put _ _=>"put" | .ju _ _ _ _=>"do" | .new _=>"new" | .get _ _ _=>"get" | .set _ _ _=>"set" | .call _ _ _=>"call" | .fail _=>"fail"
 |.Jt _=>"if" | .Qy=>"else" | .EJ _=>"while" | .fin=>"end" | .skip=>"skip"
theorem gF(r:Rw):∃l,aT r=.tup (.str (wordOf r)::l):=by cases r<;>exact⟨_,rfl⟩
noncomputable def bB:Rw->Kd
 |.df _ _=>⟨true,false,false,true⟩
 |.give _=>⟨false,true,false,false⟩
 |.Jt _=>⟨true,false,false,false⟩
 |.Qy=>⟨false,false,true,false⟩
 |.EJ _=>⟨true,false,false,false⟩
 |.fin=>⟨false,true,false,false⟩
 |_=>⟨false,false,false,false⟩
theorem Th(r:Rw):decide (wordOf r="def")=(bB r).df:=by cases r<;>first|rfl|decide +kernel
theorem Ti(r:Rw):decide (wordOf r="else")=(bB r).el:=by cases r<;>first|rfl|decide +kernel
theorem Tj(r:Rw):IJ (.str (wordOf r)) [.str "give",.str "end"]=(bB r).cl:=by cases r<;>first|rfl|decide +kernel
theorem Tn(r:Rw):IJ (.str (wordOf r)) [.str "def",.str "if",.str "while"]=(bB r).op:=by cases r<;>first|rfl|decide +kernel
noncomputable def dC(rs:qal)(k:Nat):Kd:=match rs[k]? with
 |some r=>bB r
 |none=>⟨false,false,false,false⟩
theorem md{k:Nat}(h:rs[k]?=some r):dC rs k=bB r:=by unfold dC;rw[h]
def To(rs:qal):Prop:=WF (dC rs) rs.length
def oT:Option Nat->T
 |none=>.aQ
 |some k=>.int (k:Int)
def tab(f:Nat->Option Nat)(n k:Nat):qaj:=(List.range n).map λi=>if i<k then oT (f i) else .aQ
def il(e:Nat->Option Nat)(n k:Nat):qaj:=(List.range n).map λj=>match e j with
 |some m=>if m<k then .int (m:Int) else .aQ
 |none=>.aQ
theorem kH(f n k):(tab f n k).length=n:=by simp[tab]
theorem we(f n k):(il f n k).length=n:=by simp[il]
theorem wg(f n):tab f n 0=List.replicate n .aQ:=by unfold tab;rw[List.eq_replicate_iff];exact⟨by simp,λx hx=>by simp at hx;exact hx.2.symm⟩
theorem BY(f n):il f n 0=List.replicate n .aQ:=by unfold il;rw[List.eq_replicate_iff];refine⟨by simp,λx hx=>?_⟩;obtain⟨j,_,rfl⟩:=sh.mp hx;split<;>simp
theorem nS{f:Nat->Option Nat}{k:Nat}:(tab f n k).set k (oT (f k))=tab f n (k+1):=by refine Ql λi=>?_;rw[QU,kH];unfold tab;rw[ij,ij];by_cases hi:i<n;rw[UL hi];by_cases e:k=i;subst e;rw[if_pos rfl,if_pos hi];simp;rw[if_neg e];simp only[QV];by_cases l:i<k;rw[if_pos l,if_pos (by omega)];rw[if_neg l,if_neg (by omega)];rw[Hm (by simp;omega)];split;rw[if_neg (by omega)];rfl;rfl
theorem wj{f:Nat->Option Nat}{k:Nat}(h:f k=none):tab f n k=tab f n (k+1):=by unfold tab;refine QT λi _=>?_;by_cases e:i=k;subst e;rw[if_neg (CP _),if_pos (C7 _),h];rfl;by_cases l:i<k;rw[if_pos l,if_pos (by omega)];rw[if_neg l,if_neg (by omega)]
theorem wm(f n):tab f n n=(List.range n).map λi=>oT (f i):=by unfold tab;exact QT λi hi=>by rw[if_pos (G4.mp hi)]
theorem ER{e:Nat->Option Nat}{k:Nat}(h:e j=some k)(u:∀i,i<n->e i=some k->i=j):(il e n k).set j (.int (k:Int))=il e n (k+1):=by
 refine Ql λi=>?_;rw[QU,we];unfold il;rw[ij,ij];by_cases hi:i<n;rw[List.getElem?_range hi];by_cases q:j=i;subst q;rw[if_pos rfl,if_pos hi];simp[h];rw[if_neg q];simp only[QV];cases r:e i with
 |none=>rfl
 |some m=>have:m≠k:=λz=>q (u i hi (by rw[r,z])).symm;simp only;by_cases l:m<k;rw[if_pos l,if_pos (by omega)];rw[if_neg l,if_neg (by omega)]
 rw[Hm (by simp;omega)];split;rw[if_neg (by omega)];rfl;rfl
theorem BZ{e:Nat->Option Nat}{k:Nat}(u:∀i,i<n->e i≠some k):il e n k=il e n (k+1):=by
 unfold il;refine QT λi hi=>?_;cases r:e i with
 |none=>rfl
 |some m=>have:m≠k:=λz=>u i (G4.mp hi) (by rw[r,z]);simp only;by_cases l:m<k;rw[if_pos l,if_pos (by omega)];rw[if_neg l,if_neg (by omega)]
theorem B0{e:Nat->Option Nat}(h:∀j m,j<n->e j=some m->m<n):il e n n=(List.range n).map λi=>oT (e i):=by
 unfold il;refine QT λi hi=>?_;cases r:e i with
 |none=>rfl
 |some m=>simp only;rw[if_pos (h i m (G4.mp hi) r)];rfl
section
variable(kd:Nat->Kd)
noncomputable def B1(k:Nat):Option Nat:=(st kd k).getLast?
noncomputable def xI(k:Nat):Option Nat:=if (kd k).df=true then some k else (st kd k).head?
noncomputable def yG(n:Nat):Nat->qaj
 |0=>List.replicate n .aQ
 |k+1=>match (kd k).el,B1 kd k with
  |true,some h=>(yG n k).set h (.int (k:Int))
  |_,_=>yG n k
end
theorem tS(kd n):∀k,(yG kd n k).length=n
 |0=>by simp[yG]
 |k+1=>by simp only[yG];split;rw[G2];exact tS kd n k;exact tS kd n k
noncomputable def ES(rs:qal):qaj:=[.lst ((List.range rs.length).map λi=>oT (B1 (dC rs) i)),.lst ((List.range rs.length).map λi=>oT (endsAt (dC rs) rs.length i)),.lst (yG (dC rs) rs.length rs.length),.lst ((List.range rs.length).map λi=>oT (xI (dC rs) i))]
theorem ET(rs:qal):eB (rs.map aT)=(rs.zipIdx).map λp=>.tup [.int (p.2:Int),aT p.1]:=by unfold eB;refine Ql λi=>?_;rw[UT,ij,ij,List.getElem?_zipIdx];cases rs[i]?<;>simp
noncomputable def dr:Nat->qal->Option Nat
 |d,[]=>some d
 |d,r::rs=>if (bB r).cl=true then (if d=0 then none else dr (d-1) rs) else if (bB r).el=true then (if d=0 then none else dr d rs) else if (bB r).op=true then dr (d+1) rs else dr d rs
theorem jW:∀(a b:qal)(d:Nat),dr d (a++b)=(dr d a).bind λe=>dr e b
 |[],b,d=>rfl
 |r::a,b,d=>by simp only[CN,dr];split;split;rfl;exact jW a b _;split;split;rfl;exact jW a b _;split;exact jW a b _;exact jW a b _
theorem Ot(rs:qal){k:Nat}(h:rs[k]?=some r):(st (dC rs) (k+1)).length=(if (bB r).cl=true then (st (dC rs) k).length-1 else if (bB r).op=true then (st (dC rs) k).length+1 else (st (dC rs) k).length):=by
 have mU:=md h;by_cases hc:(bB r).cl=true;have ho:(bB r).op=false:=by cases r<;>first|rfl|(cases hc)
 rw[if_pos hc,pf (by rw[mU];exact hc) (by rw[mU];exact ho),QS];have qh:(bB r).cl=false:=by cases q:(bB r).cl<;>simp_all
 rw[if_neg hc];by_cases ho:(bB r).op=true;rw[if_pos ho,rG (by rw[mU];exact ho) (by rw[mU];exact qh)];simp;rw[if_neg ho,wc (by rw[mU];exact qh) (by rw[mU];cases q:(bB r).op<;>simp_all)]
theorem nT{rs:qal}(h:dr 0 rs=some 0):∀k,k<=rs.length->dr 0 (rs.take k)=some (st (dC rs) k).length
 |0,_=>rfl
 |k+1,hk=>by
  have ih:=nT h k (by omega);have e:rs[k]?=some rs[k]:=by simp
  have et:rs.take (k+1)=rs.take k++[rs[k]]:=by rw[List.take_succ,e];rfl
  have hs:(dr 0 (rs.take (k+1))).isSome=true:=by
   rw[<- List.take_append_drop (k+1) rs,jW] at h;cases q:dr 0 (rs.take (k+1)) with
   |some _=>rfl
   |none=>rw[q] at h;cases h
  rw[et,jW,ih,Option.bind_some] at hs ⊢;rw[Ot rs e];simp only[dr] at hs ⊢;by_cases hc:(bB rs[k]).cl=true;rw[if_pos hc,if_pos hc] at *;by_cases z:(st (dC rs) k).length=0;rw[if_pos z] at hs;cases hs;rw[if_neg z]
  . rw[if_neg hc,if_neg hc] at *;by_cases hl:(bB rs[k]).el=true
    . have ho:¬ (bB rs[k]).op=true:=by generalize rs[k]=r at hl;cases r<;>first|(cases hl;done)|(intro z;cases z)
      rw[if_pos hl,if_neg ho] at *;by_cases z:(st (dC rs) k).length=0;rw[if_pos z] at hs;cases hs;rw[if_neg z]
    rw[if_neg hl] at *;split<;>rfl
theorem Tp(h:dr 0 rs=some 0):To rs:=by
 have at':∀{k:Nat},k<rs.length->∃r,rs[k]?=some r/\dC rs k=bB r:=λ{k} hk=>⟨rs[k],by simp,md (by simp)⟩;have step:∀{k:Nat}{r:Rw},rs[k]?=some r->(bB r).cl=true\/(bB r).el=true->st (dC rs) k≠[]:=λ{k r} hr Qr z=>by
  have hk:k<rs.length:=(fG.mp hr).1;have h1:=nT h k (by omega);have h2:=nT h (k+1) (by omega);have et:rs.take (k+1)=rs.take k++[r]:=by rw[List.take_succ,hr];rfl
  rw[et,jW,h1,Option.bind_some,z] at h2;simp only[dr,C8] at h2;obtain q|q:=Qr
  rw[if_pos q,if_pos True.intro] at h2;cases h2;by_cases q2:(bB r).cl=true;rw[if_pos q2,if_pos True.intro] at h2;cases h2;rw[if_neg q2,if_pos q,if_pos True.intro] at h2;cases h2
 refine⟨λk hk ho=>?_,λk hk hc=>?_,λk hk hc=>?_,λk hk hc=>?_,λk hk hc=>?_,?_⟩;obtain⟨r,hr,e⟩:=at' hk;rw[e] at ho ⊢;cases r<;>first|rfl|(cases ho)
 obtain⟨r,hr,e⟩:=at' hk;exact step hr (.inl (by rw[<- e];exact hc));obtain⟨r,hr,e⟩:=at' hk;exact step hr (.inr (by rw[<- e];exact hc));obtain⟨r,hr,e⟩:=at' hk;rw[e] at hc ⊢;cases r<;>first|exact⟨rfl,rfl⟩|(cases hc)
 obtain⟨r,hr,e⟩:=at' hk;rw[e] at hc ⊢;cases r<;>first|rfl|(cases hc)
 have:=nT h rs.length (cU _);rw[List.take_length,h] at this;exact UN.mp (Option.some.inj this).symm
end K5
namespace Lay
open PySem L2 VT Gen K5
def QA(l:List (Str×Nat)):T:=.dk (l.map λp=>(Sum.inr p.1:Key)) (l.map λp=>T.int (p.2:Int))
theorem Ou(l:List (Str×Nat))(f:Str):bP (l.map λp=>(Sum.inr p.1:Key)) (l.map λp=>T.int (p.2:Int)) (Sum.inr f)=(Hi l f).map λi=>T.int (i:Int):=by
 induction l with
 |nil=>rfl
 |cons p l ih=>obtain⟨k,i⟩:=p;simp only[fS,bP,Hi];by_cases h:k=f;rw[if_pos h,if_pos (by rw[h])];rfl;rw[if_neg h,if_neg (λz=>h (Sum.inr.inj z))];exact ih
theorem ph(rs:qal):∀n,(bz rs n).length<=n
 |0=>cU _
 |n+1=>by
  have:=ph rs n;simp only[bz];split
  rename_i r _
  cases r<;>simp only[Oo]<;>first
   |omega
   | (split<;>simp<;>omega)
  omega
def Tq:Rw->Bool
 |.df _ _=>true
 |_=>false
def gc(rs:qal):Option Nat:=rs.findIdx? Tq
theorem rJ(rs:qal):∀n,∀p∈bz rs n,p.2<n/\∃ps,rs[p.2]?=some (.df p.1 ps)
 |0,p,h=>nomatch h
 |n+1,p,h=>by
  have old:p∈bz rs n->p.2<n+1/\∃ps,rs[p.2]?=some (.df p.1 ps):=λh=>by have:=rJ rs n p h;exact⟨by omega,this.2⟩
  simp only[bz] at h;split at h
  rename_i r hr
  cases r with
  |df g ps=>
   simp only[Oo] at h;split at h;exact old h;rcases cJ.mp h with z|z
   exact old z;rw[gq] at z;subst z;exact⟨C7 _,ps,hr⟩
  |_=>exact old h
  exact old h
theorem gd{rs:qal}{i:Nat}(h:∀j,j<i->∀f ps,rs[j]?≠some (.df f ps)):∀n≤i,bz rs n=[]
 |0,_=>rfl
 |n+1,hn=>by
  simp only[bz];split
  rename_i r hr
  rw[gd h n (by omega)];cases r with
  |df g ps=>exact absurd hr (h n (by omega) g ps)
  |_=>rfl
  exact gd h n (by omega)
theorem iP{rs:qal}{i:Nat}{g:Str}{ps:qai}(hi:rs[i]?=some (.df g ps))(h:∀j,j<i->∀f ps,rs[j]?≠some (.df f ps)):∀n,i<n->∃l,bz rs n=(g,i)::l
 |0,hn=>absurd hn (Nat.not_lt_zero _)
 |n+1,hn=>by
  by_cases e:i=n;subst e;refine⟨[],?_⟩;simp only[bz,hi,Oo];rw[gd h i (cU _)];rfl;obtain⟨l,hl⟩:=iP hi h n (by omega);simp only[bz];rw[hl];split
  rename_i r _
  cases r with
  |df f qs=>simp only[Oo];split;exact⟨l,rfl⟩;exact⟨l++[(f,n)],rfl⟩
  |_=>exact⟨l,rfl⟩
  exact⟨l,rfl⟩
theorem JD(h:Tq r=true):∃f ps,r=.df f ps:=by
 cases r with
 |df f ps=>exact⟨f,ps,rfl⟩
 |_=>cases h
theorem rK(h:gc rs=some i):(∃f ps,rs[i]?=some (.df f ps))/\∀j,j<i->∀f ps,rs[j]?≠some (.df f ps):=by unfold gc at h;rw[List.findIdx?_eq_some_iff_getElem] at h;obtain⟨hl,h1,h2⟩:=h;obtain⟨f,ps,e⟩:=JD h1;refine⟨⟨f,ps,by rw[m6 hl,e]⟩,λj hj f ps e=>?_⟩;obtain⟨Vn,ej⟩:=fG.mp e;have:=h2 j hj;rw[ej] at this;exact this rfl
theorem B2(h:gc rs=none):∀(j:Nat) f ps,rs[j]?≠some (Rw.df f ps):=by unfold gc at h;rw[List.findIdx?_eq_none_iff] at h;intro j f ps e;have:=h _ (fR e);cases this
theorem yH(h:gc rs=none):bz rs rs.length=[]:=gd (i:=rs.length) (λj _=>B2 h j) _ (cU _)
theorem EU{m:Int}(h1:m∈(bz rs rs.length).map λp=>(p.2:Int))(h2:∀i∈(bz rs rs.length).map λp=>(p.2:Int),m<=i):T.int m=oT (gc rs):=by
 cases e:gc rs with
 |none=>rw[yH e] at h1;cases h1
 |some i=>
  obtain⟨⟨g,ps,hi⟩,hm⟩:=rK e;obtain⟨l,hl⟩:=iP hi hm rs.length (fG.mp hi).1;obtain⟨p,hp,rfl⟩:=sh.mp h1;obtain⟨_,qs,hq⟩:=rJ rs _ p hp;have le1:(p.2:Int)<=(i:Int):=h2 _ (sh.mpr ⟨(g,i),by rw[hl];exact cS,rfl⟩);have le2:¬ p.2<i:=λz=>hm _ z _ _ hq;have:p.2=i:=by omega
  rw[this];rfl
noncomputable def JE(rs:qal):qaj:=(List.range rs.length).map λi=>oT (B1 (dC rs) i)
noncomputable def LJ(rs:qal):qaj:=(List.range rs.length).map λi=>oT (endsAt (dC rs) rs.length i)
noncomputable def Tr(rs:qal):qaj:=yG (dC rs) rs.length rs.length
noncomputable def Ts(rs:qal):qaj:=(List.range rs.length).map λi=>oT (xI (dC rs) i)
theorem EV(rs:qal):ES rs=[.lst (JE rs),.lst (LJ rs),.lst (Tr rs),.lst (Ts rs)]:=rfl
noncomputable def dj(C:Addr)(rs:qal):T:=.ins C ["program","heads","ends","elses","homes","defs","main"] [.lst (rs.map aT),.lst (JE rs),.lst (LJ rs),.lst (Tr rs),.lst (Ts rs),QA (bz rs rs.length),oT (gc rs)]
section
theorem pj(h:rs[i]?=some r):jB (rs.map aT) (i:Int)=some (aT r):=ak (by rw[ij,h];rfl)
theorem Ov(h:i<rs.length):jB (JE rs) (i:Int)=some (oT (B1 (dC rs) i)):=ak (by unfold JE;rw[ij,UL h];rfl)
end
noncomputable def top(i:Nat):Stmt:=PySem.Challenge.pw_slicewise_k13_records_and_cells.main.body.getD i (.Pass ⟨0,0,0,0⟩)
noncomputable abbrev hJ:Stmt:=top 13
structure ZN(mg:qae):Prop where
 enumerate:mg "enumerate"=none
def EW(ts:qaj)(q:qam):Prop:=∃rs:qal,ts=[.lst (rs.map aT)]/\rs.length<=100/\q (.fr (QA (bz rs rs.length)))
section
noncomputable abbrev tT:qai:=["program","firsts","place","row"]
theorem jv:aA tT qaw (ah hJ):=L2.gO
theorem qG(D:Df K mg "first_defs" hJ qaw f fd)(M:ZN mg):cp P w K mg base "first_defs" qaw 1 (de K 1 EW):=by
 refine D.gX (nz D.F jv rfl λbq A outer s H E Ox hr ts q hG=>?_);have nd:=jv.nd;have hu:=bh.fM hr;have np:∀{i:Nat},bE ⟨H,[],Ox⟩ i:=mM;refine⟨_,(ai (dz (i:=1) nd rfl (Or.inl rfl) (qau tw) np)
  (ai (jK Hq rfl (z_ (by rfl) M.enumerate (aj 0)) (iF (n:=2) rfl (bO (a_ (i:=2) nd rfl (Or.inl rfl) np) (bO (a_ (i:=3) nd rfl (Or.inl rfl) np) fZ)))
   (ax (bH (cy hu (qas (aH (ae 3) (qas af))) (qas aW))
    (ax (fY (Jd 1 (qat (aH (ae 3) (qas af))) (aj 2))))
    aP)))
  (ax (aI (zW 1 np))))),λ_=>?_⟩
 obtain⟨rs,rfl,hn,hq⟩:=hG;refine rF (λi ρ=>∃b2 b3,ρ=[some (.lst (rs.map aT),false),some (QA (bz rs i),true),b2,b3]) ⟨_,_,rfl⟩ ?_ ?_;rintro i r ρ hr ⟨b2,b3,rfl⟩;have hi:=(fG.mp hr).1;have hlen:((bz rs i).map λp=>T.int (p.2:Int)).length<16777216:=by rw[cW];have:=ph rs i;omega
 have es:bz rs (i+1)=Oo (bz rs i) i r:=by simp only[bz,hr]
 cases r with
 |df g ps=>
  refine⟨rfl,rfl,_,ak (j:=0) rfl,?_⟩;refine⟨_,ak (j:=1) rfl,hlen,?_⟩;rw[es];simp only[Oo];rw[Ou];cases ha:Hi (bz rs i) g with
  |some j=>exact⟨_,_,rfl⟩
  |none=>
   show ∃b2 b3,_=[_,some (QA (bz rs i++[(g,i)]),true),b2,b3];have ef:QA (bz rs i++[(g,i)])=.dk (((bz rs i).map λp=>(Sum.inr p.1:Key))++[Sum.inr g]) (((bz rs i).map λp=>T.int (p.2:Int))++[T.int (i:Int)]):=by simp only[QA,sf,fS,Hr]
   rw[ef];exact⟨_,_,rfl⟩
 |_=>refine⟨rfl,rfl,_,ak (j:=0) rfl,?_⟩;rw[es];exact⟨_,_,rfl⟩
 rintro ρ ⟨b2,b3,rfl⟩;exact hq
end
end Lay
namespace Tt
open PySem L2 VT Gen K5
noncomputable def top(i:Nat):Stmt:=PySem.Challenge.pw_slicewise_k13_records_and_cells.main.body.getD i (.Pass ⟨0,0,0,0⟩)
noncomputable abbrev kJ:Stmt:=top 14
structure ZO(K:qaf)(mg:qae):Prop where
 len:mg "len"=none
 range:mg "range"=none
 enumerate:mg "enumerate"=none
 isinstance:mg "isinstance"=none
 int:mg "int"=none
 bool:mg "bool"=none
 tuple:mg "tuple"=none
 list:mg "list"=none
 zip:mg "zip"=none
 CL:∃a,mg "CLOSERS"=some (.ref a)/\∀H,dD K H a [.str "give",.str "end"]
 OP:∃a,mg "OPENERS"=some (.ref a)/\∀H,dD K H a [.str "def",.str "if",.str "while"]
def EX(ts:qaj)(q:qaj->Prop):Prop:=∃rs:qal,ts=[.lst (rs.map aT)]/\To rs/\rs.length<=100/\q (ES rs)
theorem iz{l:qaj}{t:T}(h:l.getLast?=some t):jB l (-1)=some t:=by
 have hl:0<l.length:=by cases l<;>simp_all
 rw[Qh] at h;unfold jB uD;rw[if_neg (by decide),if_pos (by omega)];have e:(-1+(l.length:Int)).toNat=l.length-1:=by omega
 rw[e];exact h
theorem EY(kd:Nat->Kd):∀k,(st kd k).length<=k
 |0=>cU _
 |k+1=>by have:=EY kd k;simp only[st];split<;>split<;>simp<;>omega
theorem JF(n:Nat)(t:T):(List.replicate n [t]).flatten=List.replicate n t:=by
 induction n with
 |zero=>rfl
 |succ n ih=>rw[C4,Mm,ih];rfl
noncomputable def EZ(rs:qal)(h e l o s:qaj)(k:Nat)(r:Rw):En:=[some (.lst (rs.map aT),false),some (.lst h,true),some (.lst e,true),some (.lst l,true),some (.lst o,true),some (.lst s,true),some (.int (k:Int),false),some (aT r,false)]
noncomputable def tU(rs:qal)(k:Nat):qaj:=(st (dC rs) k).map λ(j:Nat)=>T.int (j:Int)
def Tu(rs:qal)(k:Nat)(ρ:En):Prop:=∃b6 b7 h e l o s,ρ=[some (.lst (rs.map aT),false),some (.lst h,true),some (.lst e,true),some (.lst l,true),some (.lst o,true),some (.lst s,true),b6,b7]/\h=tab (B1 (dC rs)) rs.length k/\e=il (endsAt (dC rs) rs.length) rs.length k/\l=yG (dC rs) rs.length k/\o=tab (xI (dC rs)) rs.length k/\s=tU rs k
noncomputable def JG(rs:qal)(M:Nat->Rw->qaj->qaj->qaj->qaj->qaj->Prop):FS:=λd ρ=>∃k r h e l o s,rs[k]?=some r/\ρ=EZ rs h e l o s k r/\h=tab (B1 (dC rs)) rs.length (k+1)/\M k r h e l o s/\∀ρ',Tu rs (k+1) ρ'->d.nx ρ'
def M1(rs:qal)(k:Nat)(r:Rw)(h e l o s:qaj):Prop:=e=il (endsAt (dC rs) rs.length) rs.length k/\l=yG (dC rs) rs.length k/\s=tU rs k/\o.length=rs.length/\((bB r).df=true->o.set k (.int (k:Int))=tab (xI (dC rs)) rs.length (k+1))/\((bB r).df=false->o=tab (xI (dC rs)) rs.length (k+1))
def M2(rs:qal)(k:Nat)(r:Rw)(h e l o s:qaj):Prop:=e=il (endsAt (dC rs) rs.length) rs.length k/\l=yG (dC rs) rs.length k/\s=tU rs k/\o=tab (xI (dC rs)) rs.length (k+1)
def M3(rs:qal)(k:Nat)(r:Rw)(h e l o s:qaj):Prop:=e=il (endsAt (dC rs) rs.length) rs.length k/\l=yG (dC rs) rs.length (k+1)/\s=tU rs k/\o=tab (xI (dC rs)) rs.length (k+1)
def M4(rs:qal)(k:Nat)(r:Rw)(h e l o s:qaj):Prop:=e=il (endsAt (dC rs) rs.length) rs.length (k+1)/\l=yG (dC rs) rs.length (k+1)/\o=tab (xI (dC rs)) rs.length (k+1)/\s=(if (bB r).cl=true then (tU rs k).dropLast else tU rs k)
theorem pq{k:Nat}(h:k<n):uD n (k:Int)=some k:=by unfold uD;rw[if_pos (by omega),if_pos (by omega),A2]
theorem tV{k:Nat}(h:st (dC rs) k≠[]):∃j,(st (dC rs) k).getLast?=some j/\jB (tU rs k) (-1)=some (.int (j:Int)):=by obtain⟨j,hj⟩:∃j,(st (dC rs) k).getLast?=some j:=⟨_,List.getLast?_eq_some_getLast h⟩;exact⟨j,hj,iz (by unfold tU;rw[List.getLast?_map,hj];rfl)⟩
section
noncomputable abbrev tW:qai:=["program","heads","ends","elses","homes","opened","place","row"]
theorem wo:aA tW qaw (ah kJ):=L2.gO
theorem E1(D:Df K mg "shape" kJ qaw f fd)(M:ZO K mg):cp P w K mg base "shape" qaw 1 (SR K 1 EX):=by
 refine D.gX (fnD D.F wo rfl (by decide) λbq A outer s H E Ox hr ts q hG=>?_);have nd:=wo.nd;have hu:=bh.fM hr;have np:∀{i:Nat},bE ⟨H,[],Ox⟩ i:=mM;obtain⟨ac,mc,hac⟩:=M.CL;obtain⟨ao,mo,hao⟩:=M.OP;have B3:∀{pos},VP (eR dO P w K mg base tW "shape" (ah kJ) f bq A outer s H E).nX ⟨H,[],Ox⟩ (.Name "CLOSERS" pos) (fC (.tup [.str "give",.str "end"])):=ja (by rfl) mc (v:=.ref ac) rfl λH A=>cf (hac H) (ay.cons c_ (ay.cons c_ ay.nil));have B4:∀{pos},VP (eR dO P w K mg base tW "shape" (ah kJ) f bq A outer s H E).nX ⟨H,[],Ox⟩ (.Name "OPENERS" pos) (fC (.tup [.str "def",.str "if",.str "while"])):=ja (by rfl) mo (v:=.ref ao) rfl λH A=>cf (hao H) (ay.cons c_ (ay.cons c_ (ay.cons c_ ay.nil)));obtain⟨rs,rfl,W,hn,hq⟩:=hG;refine⟨_,(gE (dz (i:=1) nd rfl (Or.inl rfl) (qau (oQ (eJ (aa (qat cZ) ar)) (qas (bA br bt (by rfl) M.len sg (aJ (ae 0) aV))))) np)
  (gE (dz (i:=2) nd rfl (Or.inl rfl) (qau (oQ (eJ (aa (qat cZ) ar)) (qas (bA br bt (by rfl) M.len sg (aJ (ae 0) aV))))) np)
  (gE (dz (i:=3) nd rfl (Or.inl rfl) (qau (oQ (eJ (aa (qat cZ) ar)) (qas (bA br bt (by rfl) M.len sg (aJ (ae 0) aV))))) np)
  (gE (dz (i:=4) nd rfl (Or.inl rfl) (qau (oQ (eJ (aa (qat cZ) ar)) (qas (bA br bt (by rfl) M.len sg (aJ (ae 0) aV))))) np)
  (gE (dz (i:=5) nd rfl (Or.inl rfl) (qau (eJ ar)) np)
  (gE (jK Hq rfl (z_ (by rfl) M.enumerate (aj 0)) (iF (n:=2) rfl (bO (a_ (i:=6) nd rfl (Or.inl rfl) np) (bO (a_ (i:=7) nd rfl (Or.inl rfl) np) fZ)))
   (ai (bH (DV (qas (bA br bt (by rfl) M.len sg (aJ (ae 5) aV))) (qas af))
    (ai (lF 1 (qat (aH (ae 5) (qas (lC (qas af))))) (ae 6))
    (ax (lF 4 (qat (aH (ae 5) (qas af))) (ae 6))))
    aP)
   (mG.weak (u:=(JG rs (M1 rs))) (ai (bH (cy hu (qas (aH (ae 7) (qas af))) (qas aW))
    (ax (lF 4 (aj 6) (ae 6)))
    aP)
   (mG.weak (u:=(JG rs (M2 rs))) (ai (bH (cy hu (qas (aH (ae 7) (qas af))) (qas aW))
    (ax (lF 3 (aj 6) (qas (aH (ae 5) (qas (lC (qas af)))))))
    aP)
   (mG.weak (u:=(JG rs (M3 rs))) (ai (bH (vG (qas (aH (ae 7) (qas af))) (qas B3))
    (ai (lF 2 (aj 6) (qas (aH (ae 5) (qas (lC (qas af))))))
    (ax (fY (NJ 5 PySem.F.slot_list_pop PySem.F.type_list_pop DG IE))))
    aP)
   (mG.weak (u:=(JG rs (M4 rs))) (ax (bH (vG (qas (aH (ae 7) (qas af))) (qas B4))
    (ax (fY (rp 5 KS KU c7 dW (aa (aj 6) ar))))
    aP)) ?w4)) ?w3)) ?w2)) ?w1)))
  (Jf (is:=[1,2,3,4]) rfl ⟨_,_,1,_,rfl,rfl,rfl,Or.inl rfl,by decide,by decide,rfl,⟨_,_,2,_,rfl,rfl,rfl,Or.inl rfl,by decide,by decide,rfl,⟨_,_,3,_,rfl,rfl,rfl,Or.inl rfl,by decide,by decide,rfl,⟨_,_,4,_,rfl,rfl,rfl,Or.inl rfl,by decide,by decide,rfl,rfl⟩⟩⟩⟩ (by decide) (by decide)))))))),λ_=>?main⟩
 case w4=>
  rintro d ρ ⟨k,r,h,e,l,o,s,eG,rfl,rfl,⟨rfl,rfl,rfl,rfl⟩,fin⟩;have yD:k<rs.length:=(fG.mp eG).1;have mU:=md eG;obtain⟨rl,er⟩:=gF r;unfold EZ;rw[er];refine⟨_,ak (j:=0) rfl,rfl,rfl,?_⟩;refine ye (λh1=>?_) (λh1=>?_);have ho:(bB r).op=true:=by rw[<- Tn];exact h1
  have hc:(bB r).cl=false:=by have:=W.ex k yD (by rw[mU];exact ho);rw[mU] at this;exact this
  rw[hc,if_neg eh];refine⟨?_,fin _ ⟨_,_,_,_,_,_,_,rfl,rfl,rfl,rfl,rfl,?_⟩⟩;have:=EY (dC rs) k;unfold tU;rw[cW,sizeLine_eq];omega;unfold tU;rw[rG (by rw[mU];exact ho) (by rw[mU];exact hc),sf];rfl;have ho:(bB r).op=false:=by
   cases q:(bB r).op with
   |false=>rfl
   |true=>exact (h1 ((Tn r).trans q)).elim
  refine fin _ ⟨_,_,_,_,_,_,_,rfl,rfl,rfl,rfl,rfl,?_⟩;unfold tU;by_cases hc:(bB r).cl=true;rw[if_pos hc,pf (by rw[mU];exact hc) (by rw[mU];exact ho),List.map_dropLast];rw[if_neg hc,wc (by rw[mU];cases q:(bB r).cl<;>simp_all) (by rw[mU];exact ho)]
 case w3=>
  rintro d ρ ⟨k,r,h,e,l,o,s,eG,rfl,rfl,⟨rfl,rfl,rfl,rfl⟩,fin⟩;have yD:k<rs.length:=(fG.mp eG).1;have mU:=md eG;obtain⟨rl,er⟩:=gF r;unfold EZ;rw[er];refine⟨_,ak (j:=0) rfl,rfl,rfl,?_⟩;refine ye (λh1=>?_) (λh1=>?_);have hc:(bB r).cl=true:=by rw[<- Tj];exact h1
  have qh:(dC rs k).cl=true:=by rw[mU];exact hc
  obtain⟨j,hj,ej⟩:=tV (W.cl k yD qh);obtain⟨te,hjk⟩:=JC W yD qh hj;refine⟨_,ej,j,by rw[we];exact pq (by omega),rfl,.int (j:Int),?_,k,r,_,_,_,_,_,eG,by rw[<- er];rfl,rfl,⟨?_,rfl,rfl,by rw[if_pos hc]⟩,fin⟩;unfold tU;rw[cW,ij,<- Qh,hj];rfl;refine ER te λi hi he=>?_;have:=(Ay W yD he hi).2;rw[hj] at this;exact (Option.some.inj this).symm;have hc:(bB r).cl=false:=by
   cases q:(bB r).cl with
   |false=>rfl
   |true=>exact (h1 ((Tj r).trans q)).elim
  refine⟨k,r,_,_,_,_,_,eG,by rw[<- er];rfl,rfl,⟨BZ λi hi he=>?_,rfl,rfl,by rw[hc,if_neg eh]⟩,fin⟩;have:=(Ay W yD he hi).1;rw[mU,hc] at this;cases this
 case w2=>
  rintro d ρ ⟨k,r,h,e,l,o,s,eG,rfl,rfl,⟨rfl,rfl,rfl,rfl⟩,fin⟩;have yD:k<rs.length:=(fG.mp eG).1;have mU:=md eG;obtain⟨rl,er⟩:=gF r;unfold EZ;rw[er];refine⟨_,ak (j:=0) rfl,?_⟩;refine ye (λh1=>?_) (λh1=>?_);have hc:(bB r).el=true:=by rw[<- Ti];exact h1
  have qh:(dC rs k).el=true:=by rw[mU];exact hc
  obtain⟨j,hj,ej⟩:=tV (W.el k yD qh);have Vn:j<k:=(rH k).2 j (List.mem_of_getLast? hj);refine⟨_,ej,j,by rw[tS];exact pq (by omega),k,r,_,_,_,_,_,eG,by rw[<- er];rfl,rfl,⟨rfl,?_,rfl,rfl⟩,fin⟩;simp only[yG,B1,qh,hj];have hc:(bB r).el=false:=by
   cases q:(bB r).el with
   |false=>rfl
   |true=>exact (h1 ((Ti r).trans q)).elim
  refine⟨k,r,_,_,_,_,_,eG,by rw[<- er];rfl,rfl,⟨rfl,?_,rfl,rfl⟩,fin⟩;simp only[yG,mU,hc]
 case w1=>
  rintro d ρ ⟨k,r,h,e,l,o,s,eG,rfl,rfl,⟨rfl,rfl,rfl,ol,o1,o2⟩,fin⟩;have yD:k<rs.length:=(fG.mp eG).1;obtain⟨rl,er⟩:=gF r;unfold EZ;rw[er];refine⟨_,ak (j:=0) rfl,?_⟩;refine ye (λh1=>?_) (λh1=>?_);exact⟨k,by rw[ol];exact pq yD,k,r,_,_,_,_,_,eG,by rw[<- er];rfl,rfl,⟨rfl,rfl,rfl,o1 (by rw[<- Th];exact h1)⟩,fin⟩;have hc:(bB r).df=false:=by
   cases q:(bB r).df with
   |false=>rfl
   |true=>exact (h1 ((Th r).trans q)).elim
  exact⟨k,r,_,_,_,_,_,eG,by rw[<- er];rfl,rfl,⟨rfl,rfl,rfl,o2 hc⟩,fin⟩
 case main=>
  have hlen:((rs.map aT).length:Int)=(rs.length:Int):=by rw[cW]
  have X5:(List.replicate ((rs.map aT).length:Int).toNat [T.aQ]).flatten=List.replicate rs.length T.aQ:=by rw[hlen,A2];exact JF _ _
  have Qu : -(2 ^ 63)<=((rs.map aT).length:Int):=by omega
  have BF:((rs.map aT).length:Int)<2 ^ 63:=by omega
  have Vs:[T.aQ].length * ((rs.map aT).length:Int).toNat<=sizeLine:=by rw[hlen,A2,sizeLine_eq];simp;omega
  refine⟨Gen.cw rfl,Qu,BF,Vs,Gen.cw rfl,Qu,BF,Vs,Gen.cw rfl,Qu,BF,Vs,Gen.cw rfl,Qu,BF,Vs,Gen.cw rfl,?_⟩;show mJ (eB (rs.map aT)) _ _ _ [some (.lst (rs.map aT),false),some (.lst (List.replicate ((rs.map aT).length:Int).toNat [T.aQ]).flatten,true),some (.lst (List.replicate ((rs.map aT).length:Int).toNat [T.aQ]).flatten,true),some (.lst (List.replicate ((rs.map aT).length:Int).toNat [T.aQ]).flatten,true),some (.lst (List.replicate ((rs.map aT).length:Int).toNat [T.aQ]).flatten,true),some (.lst [],true),none,none];rw[ET,X5];refine Eb (Tu rs)
   ⟨_,_,_,_,_,_,_,rfl,(wg _ _).symm,(BY _ _).symm,rfl,(wg _ _).symm,rfl⟩ ?_ ?_
  . rintro k ⟨r,k'⟩ ρ hk ⟨b6,b7,_,_,_,_,_,rfl,rfl,rfl,rfl,rfl,rfl⟩;rw[List.getElem?_zipIdx] at hk;cases eG:rs[k]? with
    |none=>rw[eG] at hk;cases hk
    |some r'=>
    rw[eG] at hk;simp at hk;obtain⟨rfl,rfl⟩:=hk;have yD:k<rs.length:=(fG.mp eG).1;obtain⟨rl,er⟩:=gF r';refine⟨rfl,rfl,?_⟩;show Se _ _ _ [some (.lst (rs.map aT),false),some (.lst (tab (B1 (dC rs)) rs.length k),true),some (.lst (il (endsAt (dC rs) rs.length) rs.length k),true),some (.lst (yG (dC rs) rs.length k),true),some (.lst (tab (xI (dC rs)) rs.length k),true),some (.lst (tU rs k),true),some (.int (k:Int),false),some (aT r',false)];rw[er];have mU:=md eG;refine ik (λh1=>?_) (λh1=>?_);have eW:st (dC rs) k≠[]:=λz=>by have yy:((tU rs k).length:Int) > 0:=h1;unfold tU at yy;rw[z] at yy;simp at yy
    obtain⟨j,hj,ej⟩:=tV eW;obtain⟨j0,ZP⟩:∃j0,(st (dC rs) k).head?=some j0:=⟨_,List.head?_eq_some_head eW⟩;have ej0:jB (tU rs k) 0=some (.int (j0:Int)):=ak (j:=0) (by unfold tU;rw[ij,<- List.head?_eq_getElem?,ZP];rfl);refine⟨_,ej,k,by rw[kH];exact pq yD,_,ej0,k,by rw[kH];exact pq yD,k,r',_,_,_,_,_,eG,by rw[<- er];rfl,?_,⟨rfl,rfl,rfl,by rw[G2,kH],λhd=>?_,λhd=>?_⟩,λρ' h=>h⟩;have e1:T.int (j:Int)=oT (B1 (dC rs) k):=by unfold B1;rw[hj];rfl
    rw[e1];exact nS;rw[List.set_set];have e1:T.int (k:Int)=oT (xI (dC rs) k):=by unfold xI;rw[mU,if_pos hd];rfl
    rw[e1];exact nS;have e1:T.int (j0:Int)=oT (xI (dC rs) k):=by unfold xI;rw[mU,hd,if_neg eh,ZP];rfl
    rw[e1];exact nS;have eW:st (dC rs) k=[]:=by
     cases q:st (dC rs) k with
     |nil=>rfl
     |cons a b=>exfalso;refine h1 ?_;show ((tU rs k).length:Int) > 0;unfold tU;rw[q];simp
    refine⟨k,r',_,_,_,_,_,eG,by rw[<- er];rfl,wj (by unfold B1;rw[eW];rfl),⟨rfl,rfl,rfl,by rw[kH],λhd=>?_,λhd=>?_⟩,λρ' h=>h⟩;have e1:T.int (k:Int)=oT (xI (dC rs) k):=by unfold xI;rw[mU,if_pos hd];rfl
    rw[e1];exact nS;exact wj (by unfold xI;rw[mU,hd,if_neg eh,eW];rfl)
  rintro ρ ⟨b6,b7,_,_,_,_,_,rfl,rfl,rfl,rfl,rfl,rfl⟩;rw[List.length_zipIdx,wm,wm,B0];exact hq;intro j m hj he;unfold endsAt at he;split at he
  rename_i ho
  obtain⟨e,h1,h2,h3,_⟩:=end_is W hj ho;rw[h1] at he;cases he;exact h3;cases he
end
end Tt
namespace Lay
open PySem L2 VT Gen K5
noncomputable abbrev iQ:Stmt:=inClass (top 16) 0
structure Tv(mg:qae):Prop where
 len:mg "len"=none
 min:mg "min"=none
structure QB(K:qaf)(C:Addr):Prop where
 cl:xW K C
 gG:a8 K C "program"
 Az:a8 K C "heads"
 E2:a8 K C "ends"
 JH:a8 K C "elses"
 JI:a8 K C "homes"
 yI:a8 K C "defs"
 E3:a8 K C "main"
def kK(C:Addr)(ts:qaj)(q:T->Prop):Prop:=∃rs:qal,ts=[.lst (rs.map aT)]/\To rs/\rs.length<=100/\q (dj C rs)
section
variable{cLayout:Addr}
noncomputable abbrev E4:qai:=["self","program","parts"]
theorem rM:aA E4 qax (ah iQ):=L2.gO
theorem B5(D:Dc K mg "Layout" "Layout.__init__" iQ qax cLayout f fd)(M:Tv mg)(M1:QB K cLayout)(JJ:cp P w K mg base "shape" qaw 1 (SR K 1 Tt.EX))(tX:cp P w K mg base "first_defs" qaw 1 (de K 1 EW)):Ex P w K mg base "Layout" cLayout qax 2 1 (kK cLayout):=by
 obtain⟨Vt,Tw,JK,JL,JM,JN⟩:=JJ;refine D.gX (Zw D.F rM rfl λbq A outer s H E as Ox hr us q hl hG=>?_);have nd:=rM.nd;have aD:=M1;refine⟨_,(ai (bj (i:=2) nd rfl (Or.inl rfl) (qau (VD.vp (Jg JN (hr.mono (by decide)) (by rfl) JK JL JM (aa (aj 1) ar)))) (gb (by decide)))
  (ai (g9 0 aD.cl aD.gG (aj 1))
  (ai (g9 0 aD.cl aD.Az (qat (aH (ae 2) (qas af))))
  (ai (g9 0 aD.cl aD.E2 (qat (aH (ae 2) (qas af))))
  (ai (g9 0 aD.cl aD.JH (qat (aH (ae 2) (qas af))))
  (ai (g9 0 aD.cl aD.JI (qat (aH (ae 2) (qas af))))
  (ai (g9 0 aD.cl aD.yI (qat (aE tX hr (aa (aj 1) ar))))
  (ax (g9 0 aD.cl aD.E3 (qat (iD (DV (qas (bA BL yx (by rfl) M.len sg (aJ (qas (bo aD.cl aD.yI (ae 0))) aV))) (qas af)) (yA rfl (by rfl) M.min (qas (bo aD.cl aD.yI (ae 0)))) cZ))))))))))),?_⟩
 obtain⟨rs,rfl,W,hn,hq⟩:=hG;refine⟨rfl,rs,rfl,W,hn,?_⟩;rw[EV];refine⟨rfl,by show 0<1000;decide,?_⟩;refine⟨rfl,_,ak (j:=0) rfl,by show 1<1000;decide,?_⟩;refine⟨rfl,_,ak (j:=1) rfl,by show 2<1000;decide,?_⟩;refine⟨rfl,_,ak (j:=2) rfl,by show 3<1000;decide,?_⟩;refine⟨rfl,_,ak (j:=3) rfl,by show 4<1000;decide,?_⟩;refine⟨rfl,rfl,rs,rfl,hn,by show 5<1000;decide,?_⟩;refine⟨rfl,?_⟩;refine⟨rfl,_,rfl,?_⟩;refine ik (λh=>?_) (λh=>?_);refine⟨rfl,_,rfl,(bz rs rs.length).map (λp=>(p.2:Int)),?_,?_,λm h1 h2=>?_⟩;rw[zB];rfl;intro z;rw[List.map_eq_nil_iff] at z;rw[z] at h;exact absurd h (by decide);refine⟨by show 6<1000;decide,?_⟩;have e:=EU h1 h2;show q [_] _;rw[e];exact hq;refine⟨by show 6<1000;decide,?_⟩;have z:bz rs rs.length=[]:=by
  cases e:bz rs rs.length with
  |nil=>rfl
  |cons a b=>exfalso;apply h;rw[e];simp
 have e:gc rs=none:=by
  cases e:gc rs with
  |none=>rfl
  |some i=>obtain⟨⟨g,ps,hi⟩,hm⟩:=rK e;obtain⟨l,hl⟩:=iP hi hm rs.length (fG.mp hi).1;rw[z] at hl;cases hl
 have e2:T.aQ=oT (gc rs):=by rw[e];rfl
 unfold dj at hq;rw[<- e2] at hq;exact hq
end
end Lay
namespace VT
open PySem PySem.Spec PyProof.Rows L2
def Ow:FS:=λ_ _=>False
theorem rN{ss:qaq}:mG X Z ss Ow:=.mk λtm=>λpins s σ H D I h=>by obtain⟨_,_,_,_,q,_⟩:=h;exact q.elim
end VT
namespace Nx
open PySem L2 VT Gen K5 Lay
noncomputable abbrev hU:Stmt:=top 19
def Oy(r:Rw):Prop:=wd r≠"else"/\wd r≠"end"
def E5(C:Addr)(ts:qaj)(q:qam):Prop:=∃(rs:qal)(j:Nat)(r:Rw),ts=[dj C rs,.int (j:Int)]/\Oy r/\rs[j]?=some r/\q (.vw (.int ((j+1:Nat):Int)))
section
variable{cLayout:Addr}
noncomputable abbrev tY:qai:=["layout","place","word","head"]
theorem jw:aA tY qay (ah hU):=L2.gO
theorem qH(D:Df K mg "row_behind" hU qay f fd)(M:QB K cLayout):cp P w K mg base "row_behind" qay 1 (de K 2 (E5 cLayout)):=by
 refine D.gX (nz D.F jw rfl λbq A outer s H E Ox hr ts q hG=>?_);have nd:=jw.nd;have hu:=bh.fM hr;have np:∀{i:Nat},bE ⟨H,[],Ox⟩ i:=mM;have aD:=M;refine⟨_,(ai (bj (i:=2) nd rfl (Or.inl rfl) (qau (aH (qas (aH (qas (bo aD.cl aD.gG (ae 0))) (ae 1))) (qas af))) np)
  (ai (bj (i:=3) nd rfl (Or.inl rfl) (qau (aH (qas (bo aD.cl aD.Az (ae 0))) (ae 1))) np)
  (ai (bH (cy hu (ae 2) (qas aW))
   (ax (aI (qau (aH (qas (bo aD.cl aD.E2 (ae 0))) (ae 3)))))
   aP)
  (ai (bH (VW.vc (oA (cy hu (ae 2) (qas aW)) (nI (cy hu (qas (aH (qas (aH (qas (bo aD.cl aD.gG (ae 0))) (ae 3))) (qas af))) (qas aW)))))
   (ax (aI (qau (VE.vp (aj 3)))))
   aP)
  (ax (aI (qau (cQ (ae 1) (qas af))))))))),λ_=>?_⟩
 obtain⟨rs,j,r,rfl,ho,eG,hq⟩:=hG;have hh:=Ov (fG.mp eG).1;obtain⟨l,el⟩:=nR r;refine⟨rfl,_,rfl,_,pj eG,?_⟩;rw[el];refine⟨_,ak (j:=0) rfl,rfl,_,rfl,_,hh,ik (λz=>absurd z ho.1) (λ_=>ik (λz=>absurd z ho.2) (λ_=>lU rfl hq))⟩
end
end Nx
namespace VT
open PySem PySem.Spec PyProof.Rows L2
section
variable{vv sl:Expr}{sp pos:Pos}{l:List (Str×T)}{k:Nat}
noncomputable def Tx(l:List (Str×T))(fe:FE):FP:=λρ Q=>fe ρ λy=>onStr y λk=>∃t,BO l k=some t/\Q (.vw t)
theorem Oz(hg:Gl X x)(hm:X.mg x=some (.ref a))(d:rB X.w X.K a l)(he:VR X Z e fe)(hs:SK e:=by intro _ _;rfl)(hd:gp x:=by decide) :
  VP X Z (.Subscript (.Name x p) e pos) (Tx l fe):=.mk λtm pins s σ H Q I ⟨ρ,O,q,E,hf,k⟩=>by
 refine I_ PySem.F.slot_dict_getitem.lookup hs (bY (sr hg hm (v:=.ref a) rfl hd pins s σ H (λv H'=>v=.ref a/\H'=H) I ⟨rfl,rfl⟩) λu s1 ⟨x',H1,I1,rx,ex,eH⟩=>?_);subst ex eH;obtain rfl:u=Value.ref a:=rx;refine bY (he tm pins s1 σ H1 (λy H2=>∃t,iw X.K H2 (av Z O) t y/\aK H1 H2/\onStr t λk=>∃t',BO l k=some t'/\q (.vw t')) I1 ⟨ρ,O,_,E,hf,λt ht v H' s a1=>⟨t,a1,s,ht⟩⟩) λiv s2 ⟨y,H2,I2,ry,t,a1,sa,q3⟩=>?_;obtain⟨kk,et,t',Vu,q4⟩:=vP q3;subst et;obtain⟨eT,N8,yy,Ag,BK,NV⟩:=d.of I2;have ey:=a1.str;subst ey;obtain⟨v,ev,av'⟩:=(gZ (yy H2 (av Z O))).1 t' Vu;obtain⟨w',hw,rw'⟩:=j_.some_of (v:=v) (o:=valueAt N8 (Sum.inr kk)) (by rw[<- ev,<- e_];exact Ag.val (Sum.inr kk));exact⟨BK.typeIs,wpAny_getItem_of (oZ (k:=Sum.inr kk) ry) BK.mapOf hw ⟨v,H2,I2.tok _,rw',k _ q4 _ H2 sa ⟨E.same sa,av'⟩⟩⟩
end
end VT
set_option exponentiation.threshold 4000
namespace j8
open PySem L2 VT
noncomputable def eC(i:Int):Int:=(i+1000000000000000000000000000000) % (2 * 1000000000000000000000000000000)-1000000000000000000000000000000
def RI(i:Int):Prop:=-1000000000000000000000000000000<=i/\i<1000000000000000000000000000000
inductive Vl where
 |num (i:Int)
 |dZ (p r:Int)
 deriving DecidableEq
noncomputable def vT:Vl->T
 |.num i=>.int i
 |.dZ p r=>.tup [.int p,.int r]
def nm:Vl->Int
 |.num i=>i
 |.dZ _ _=>0
noncomputable def wq(a b:Vl):T:=.int (if a=b then 1 else 0)
theorem ZQ{i:Int}(h : -100000000000000<=i/\i<=100000000000000):uG i:=by
 unfold uG;have:i.natAbs<=100000000000000:=by omega
 exact Nat.lt_of_le_of_lt this (by decide +kernel)
theorem bg(i:Int)(h : -100000000000000<=i/\i<=100000000000000:=by decide):uG i:=ZQ h
theorem Tz:uG (10 ^ (30:Int).toNat):=uG.of (by decide +kernel) (by decide +kernel)
theorem pw(j:Int)(h:0<=j/\j<=1000:=by decide):0<=j/\j<=1000/\uG 10:=⟨h.1,h.2,bg 10⟩
noncomputable def top(i:Nat):Stmt:=PySem.Challenge.pw_slicewise_k13_records_and_cells.main.body.getD i (.Pass ⟨0,0,0,0⟩)
noncomputable abbrev mV:Stmt:=top 21
noncomputable abbrev iR:Stmt:=top 22
noncomputable abbrev iS:Stmt:=top 23
noncomputable abbrev jX:Stmt:=top 31
structure Mg(mg:qae):Prop where
 H:∃t,mg "H"=some (.int 1000000000000000000000000000000 t)
 isinstance:mg "isinstance"=none
 tuple:mg "tuple"=none
def JO(ts:qaj)(q:qam):Prop:=∃i,ts=[.int i]/\q (.vw (.int (eC i)))
def OA(ts:qaj)(q:qam):Prop:=∃a:Vl,ts=[vT a]/\q (.vw (.bl (match a with | .num _=>false | .dZ _ _=>true)))
def ZR(ts:qaj)(q:qam):Prop:=∃a:Vl,ts=[vT a]/\q (.vw (.int (nm a)))
def E6(ts:qaj)(q:qam):Prop:=∃a b,ts=[vT a,.str "same",vT b]/\q (.vw (wq a b))
theorem wt(a b:Vl):eqT (vT a) (vT b)=decide (a=b):=by cases a<;>cases b<;>simp[vT,eqT,gz]<;>rfl
theorem TB{a b:Vl}{q:qam}(h:q (.vw (.bl (decide (a=b))))):Nv (vT a) (vT b) q:=by
 have e:=wt a b;cases a with
 |num i=>cases b with
  |num j=>have:decide (i=j)=decide (Vl.num i=Vl.num j):=decide_eq_decide.mpr (by simp);show q (.vw (.bl (decide (i=j))));rw[this];exact h
  |dZ p r=>exact⟨rfl,rfl,by simp[vT,dep],by rw[<- e] at h;exact h⟩
 |dZ p r=>exact⟨rfl,by cases b<;>rfl,by simp[vT,dep,ly],by rw[<- e] at h;exact h⟩
theorem JP{a b:Vl}{q:qam}(h:q (.vw (wq a b))):if decide (a=b)=true then q (.vw (.int 1)) else q (.vw (.int 0)):=by unfold wq at h;by_cases e:a=b;rw[if_pos (decide_eq_true e)];rw[if_pos e] at h;exact h;rw[if_neg (by rw[decide_eq_false e];exact eh)];rw[if_neg e] at h;exact h
section
abbrev AA:qai:=["number"]
theorem pv:aA AA ["number"] (ah mV):=L2.gO
theorem yJ(D:Df K mg "fit" mV ["number"] f fd)(M:Mg mg):cp P w K mg base "fit" ["number"] 1 (de K 1 JO):=by refine D.gX (nz D.F pv rfl λbq A outer s H E Ox hr ts q hG=>?_);have nd:=pv.nd;obtain⟨tH,mH⟩:=M.H;have X6:∀{pos},VP (eR dO P w K mg base AA "fit" (ah mV) f bq A outer s H E).nX ⟨H,[],Ox⟩ (.Name "H" pos) (fC (.int 1000000000000000000000000000000)):=ja (by rfl) mH (v:=.int 1000000000000000000000000000000) ⟨_,rfl⟩ λ_ _=>bc;refine⟨_,(ax (aI (qau (jG (qas (bG (qas (cQ (ae 0) (qas X6))) (qas (Ab (qas af) (qas X6))))) (qas X6))))),λ_=>?_⟩;obtain⟨i,rfl,hq⟩:=hG;exact⟨⟨bg 2,uG.of (by decide +kernel) (by decide +kernel)⟩,(by show (0:Int)<2 * 1000000000000000000000000000000;decide),hq⟩
abbrev wu:qai:=qaz
theorem kM:aA wu qaz (ah iR):=L2.gO
theorem tZ(D:Df K mg "is_record" iR qaz f fd)(M:Mg mg):cp P w K mg base "is_record" qaz 1 (de K 1 OA):=by
 refine D.gX (nz D.F kM rfl λbq A outer s H E Ox hr ts q hG=>?_);have nd:=kM.nd;refine⟨_,(ax (aI (qau (bQ c0 (by rfl) M.isinstance (by rfl) M.tuple dH (ae 0))))),λ_=>?_⟩;obtain⟨a,rfl,hq⟩:=hG;cases a with
 |num i=>exact⟨rfl,hq⟩
 |dZ p r=>exact⟨rfl,hq⟩
abbrev wx:qai:=qaz
theorem kN:aA wx qaz (ah iS):=L2.gO
theorem t4(D:Df K mg "number_of" iS qaz f fd)(M:Mg mg)(iT:cp P w K mg base "is_record" qaz 1 (de K 1 OA)):cp P w K mg base "number_of" qaz 2 (de K 1 ZR):=by
 refine D.gX (nz D.F kN rfl λbq A outer s H E Ox hr ts q hG=>?_);have nd:=kN.nd;refine⟨_,(ax (aI (qau (iD (dy (aE iT hr (aa (aj 0) ar))) af (VE.vp (aj 0)))))),λ_=>?_⟩;obtain⟨a,rfl,hq⟩:=hG;refine⟨rfl,a,rfl,?_⟩;cases a with
 |num i=>exact hq
 |dZ p r=>exact hq
noncomputable abbrev yK:qai:=["one","word","other","left","right"]
theorem mW:aA yK qaA (ah jX):=L2.gO
theorem wy(D:Df K mg "reckoned" jX qaA f fd):cp P w K mg base "reckoned" qaA 3 (de K 3 E6):=by
 refine D.gX (nz D.F mW rfl λbq A outer s H E Ox hr ts q hG=>?_);have nd:=mW.nd;have hu:=bh.fM hr;refine⟨_,(ai (bH (cy hu (ae 1) (qas aW))
    (ax (aI (qau (iD (cy hu (ae 0) (ae 2)) af af))))
    aP)
   rN),λ_=>?_⟩
 obtain⟨a,b,rfl,hq⟩:=hG;show Nv (vT a) (vT b) (λr=>match r with
  |.vw (.bl c)=>(if c=true then q (.vw (.int 1)) else q (.vw (.int 0)))
  |_=>False)
 exact TB (JP hq)
end
end j8
namespace NK
open PySem PySem.Spec PySem.Calls PyProof.Rows L2
abbrev CK:=List Key×Key
def t5(P:Program)(w:World)(h:Heap)(c:CK)(a:Addr):Prop:=∃o items n b v,h.get? a=some o/\o.cls=.type "tuple"/\o.data=.seq items n/\items.toList=[.ref b,v]/\IsTupleKey (aO P w) h c.1 b/\(aO P w).is c.2 v=true
theorem t5.typeIs{s:Shared}{c:CK}(x:t5 P w s.heap c a):s.TypeIs (.ref a) "tuple":=let ⟨o,_,_,_,_,ho,hc,_⟩:=x;⟨o,ho,hc⟩
theorem t5.inj{x y:CK}(hx:t5 P w h x a)(hy:t5 P w h y a):x=y:=by
 obtain⟨o,items,n,b,v,ho,_,hd,hi,h1,h2⟩:=hx;obtain⟨o',X7,n',b',v',jn,_,CV,DP,yy,Ag⟩:=hy;obtain rfl:o=o':=Option.some.inj (ho.symm.trans jn);rw[hd] at CV;injection CV with e1 _
 subst e1;rw[hi] at DP;injection DP with e2 e3
 injection e2 with e2
 injection e3 with e3 _
 subst e2;subst e3;exact Prod.ext (h1.inj yy) ((aO P w).inj _ _ _ h2 Ag)
theorem t5.keeps{c:CK}{d:Addr}{o:Obj}{es ep}(x:t5 P w h c a)(ho:h.get? d=some o)(hd:o.data=.dict es ep)(hs:Heap.SameBut d h h'):t5 P w h' c a:=by
 obtain⟨o',items,n,b,v,jn,hc,CV,hi,h1,h2⟩:=x;have eW:a≠d:=by rintro rfl;obtain rfl:o'=o:=Option.some.inj (jn.symm.trans ho);rw[hd] at CV;exact nomatch CV
 exact⟨o',items,n,b,v,(hs.2 a eW).trans jn,hc,CV,hi,h1.keeps ho hd hs,h2⟩
noncomputable def bp(P:Program)(w:World)(c:CK):Int:=reduceHash (Builtin.Tuple.tupleHashOf [tupleKeyHash (aO P w) c.1,(aO P w).hash c.2])
variable{s:Shared}
theorem pA{c:CK}{Q:Int->Shared->Prop}(hu:A.units+2<cLine)(hk:t5 P w s.heap c a)(h:Q (bp P w c) {s with toks:=s.toks+(c.1.length+3)}):wpAny (model P w) A (pyHash (.ref a)) Q E s:=by
 have hT:=hk.typeIs;obtain⟨o,items,n,b,v,ho,_,hd,hi,h1,h2⟩:=hk;unfold pyHash
 first|unfold pyHashByItsType|skip
 first|refine wpAny_bind (wpAny_cRoomFor_or (.inr (by omega)) ?_)|skip
 refine wpAny_bind (wpAny_specialOf hT F.slot_tuple_hash.lookup ?_);show wpAny _ _ (if (some (Value.builtin "tuple.__hash__")==some Value.none)=true then _ else _) Q E s;rw[if_neg (by rw[beq_builtin_none];exact eh)];refine wpAny_bind (wpAny_specialOf hT F.slot_tuple_hash.lookup ?_);show wpAny _ _ (callSpecialIfBoundUnlessNone? (.ref a) "__hash__" _ >>= _) Q E s;refine wpAny_bind (wpAny_callSpecialIfBoundUnlessNone?_slot hT F.slot_tuple_hash (wpAny_call_entry F.slot_tuple_hash hT F.entry_tuple_hash ?_ (F.args_tuple_hash_1 _)));show wpAny _ _ (Builtin.Tuple.tupleItemsOf (.ref a) >>= _) _ _ s;refine wpAny_bind (wpAny_tupleItemsOf ho hd ?_);refine wpAny_bind ?_;rw[<- Array.forIn_toList,hi];refine wpAny_forIn_list _
  (λrest (hs:Array Int) s'=>(rest=[.ref b,v]/\hs=#[]/\s'=s)\/(rest=[v]/\hs=#[tupleKeyHash (aO P w) c.1]/\s'={s with toks:=s.toks+(c.1.length+1)})\/(rest=[]/\hs=#[tupleKeyHash (aO P w) c.1,(aO P w).hash c.2]/\s'={s with toks:=s.toks+(c.1.length+1)+1}))
  _ ?_ ?_ _ _ (.inl ⟨rfl,rfl,rfl⟩)
 rintro x rest hs s' (⟨e,rfl,rfl⟩|⟨e,rfl,rfl⟩|⟨e,_⟩);cases e;refine wpAny_bind (wpAny_pyHash_tuple (knd:=aO P w) (by show A.units+1<cLine;omega) h1 ?_)
 first
  |exact wpAny_pure (.inr (.inl ⟨rfl,rfl,rfl⟩))
  |exact wpAny_bind (wpAny_pure (wpAny_pure (.inr (.inl ⟨rfl,rfl,rfl⟩))))
 cases e;refine wpAny_bind ((aO P w).pyHash h2 ?_)
 first
  |exact wpAny_pure (.inr (.inr ⟨rfl,rfl,rfl⟩))
  |exact wpAny_bind (wpAny_pure (wpAny_pure (.inr (.inr ⟨rfl,rfl,rfl⟩))))
 cases e;rintro hs s' (⟨e,_⟩|⟨e,_⟩|⟨_,rfl,rfl⟩);cases e;cases e;show wpAny _ _ (retInt (Builtin.Tuple.tupleHashOf [tupleKeyHash (aO P w) c.1,(aO P w).hash c.2])) _ _ _;refine wpAny_ret_mkInt ?_;have ht:s.toks+(c.1.length+1)+1+1=s.toks+(c.1.length+3):=by omega
 unfold bp reduceHash at h;generalize Builtin.Tuple.tupleHashOf [tupleKeyHash (aO P w) c.1,(aO P w).hash c.2]=z at h ⊢;show wpAny _ _ (if (decide (-(2:Int) ^ 63<=z) && decide (z<2 ^ 63))=true then _ else _) Q E _;by_cases hr:(decide (-(2:Int) ^ 63<=z) && decide (z<2 ^ 63))=true;rw[if_pos hr];rw[if_pos hr] at h;exact wpAny_pure (by rw[<- ht] at h;exact h);rw[if_neg hr];rw[if_neg hr] at h;exact wpAny_bind (wpAny_rule (wpAny_pure (by rw[<- ht] at h;exact h)))
theorem B6{x y:CK}{b:Addr}{R:Fin->Shared->Prop}(hu:A.units<cLine)(hx:t5 P w s.heap x a)(hy:t5 P w s.heap y b)(h:R (.done (.ret (.bool (decide (x=y))))) s) :
  wpAny (model P w) A (Builtin.«tuple.__eq__» ⟨[.ref a,.ref b],[]⟩) R E s:=by
 have hTb:=hy.typeIs;obtain⟨oa,xs,na,ba,va,hoa,_,hda,X8,ka,la⟩:=hx;obtain⟨ob,ys,nb,bb,vb,hob,_,kf,X9,kb,lb⟩:=hy;show wpAny _ _ (isInstance (.ref b) (.type "tuple") >>= _) _ _ s;refine wpAny_bind (wpAny_isInstance hTb isSubtype_tuple_tuple ?_);simp only[G6,C6,if_false];refine wpAny_bind (wpAny_tupleItemsOf hoa hda ?_);refine wpAny_bind (wpAny_tupleItemsOf hob kf ?_);refine wpAny_bind ?_;have sx:(xs.size==ys.size)=true:=by rw[<- Hn,<- Hn,X8,X9];rfl
 have dec:decide (x=y)=(decide (x.1=y.1) && decide (x.2=y.2)):=by rw[QW];simp[Prod.ext_iff]
 refine wpAny_forIn_list _
  (λrest r s'=>r.1=none/\s'=s/\((rest=List.zip xs.toList ys.toList)\/(rest=[(va,vb)]/\x.1=y.1)\/(rest=[]/\x=y))) _ ?_ ?_ _ _ ⟨rfl,rfl,.inl rfl⟩
 rintro⟨u,v⟩ rest r s' ⟨hr,rfl,h3⟩;obtain e|⟨e,e1⟩|⟨e,_⟩:=h3
 rw[X8,X9] at e;simp only[Ho,List.zip_nil_right,List.cons.injEq,Prod.mk.injEq] at e;obtain⟨⟨rfl,rfl⟩,rfl⟩:=e;refine wpAny_bind (wpAny_eqBool_tuple hu ka kb ?_);by_cases hk:x.1=y.1;rw[decide_eq_true hk];simp only[G6,C6,if_false];exact wpAny_pure ⟨rfl,rfl,.inr (.inl ⟨trivial,hk⟩)⟩;rw[decide_eq_false hk];simp only[Bool.not_false,if_true];have hf:decide (x=y)=false:=by rw[dec,decide_eq_false hk];rfl
 rw[hf] at h;exact wpAny_bind (wpAny_pure (wpAny_pure (wpAny_pure h)));simp only[List.cons.injEq,Prod.mk.injEq] at e;obtain⟨⟨rfl,rfl⟩,rfl⟩:=e;refine wpAny_bind ((aO P w).eqBool la lb ?_);by_cases hk:x.2=y.2;rw[decide_eq_true hk];simp only[G6,C6,if_false];exact wpAny_pure ⟨rfl,rfl,.inr (.inr ⟨trivial,Prod.ext e1 hk⟩)⟩;rw[decide_eq_false hk];simp only[Bool.not_false,if_true];have hf:decide (x=y)=false:=by rw[dec,decide_eq_false hk,QY]
 rw[hf] at h;exact wpAny_bind (wpAny_pure (wpAny_pure (wpAny_pure h)));cases e
 . rintro⟨r1,r2⟩ s' ⟨hr,rfl,h3⟩;simp only at hr;subst hr;refine wpAny_pure ?_;show R (.done (.ret (.bool (xs.size==ys.size)))) s';rw[sx];obtain e|⟨e,_⟩|⟨_,e⟩:=h3
   rw[X8,X9] at e;cases e;cases e;rw[decide_eq_true e] at h;exact h
theorem E7{x y:CK}{b:Addr}{Q:Bool->Shared->Prop}(hu:A.units+2<cLine)(hx:t5 P w s.heap x a)(hy:t5 P w s.heap y b)(h:Q (decide (x=y)) s) :
  wpAny (model P w) A (eqBool (.ref a) (.ref b)) Q E s:=by
 unfold eqBool
 try with_reducible refine wpAny_holding ?_
 show wpAny _ _ (if (Value.ref a==Value.ref b)=true then _ else _) Q E s;by_cases X_:(Value.ref a==Value.ref b)=true;rw[if_pos X_];have e:a=b:=by have:=eq_of_beq X_;injection this
 subst e;obtain rfl:=hx.inj hy;exact wpAny_bind (wpAny_rule (wpAny_pure (by simpa using h)));rw[if_neg X_];exact wpAny_bind (wpAny_richCompare_same_room (op:=.Eq) hx.typeIs hy.typeIs F.slot_tuple_eq
  (wpAny_call_entry F.slot_tuple_eq hx.typeIs F.entry_tuple_eq (B6 (by show A.units+1<cLine;omega) hx hy ⟨_,rfl,(λe=>nomatch e),wpAny_truthy_bool h⟩) (F.args_tuple_eq_2 _ _)) (by omega))
theorem OB{Q:Bool->Shared->Prop}(hk:IsTupleKey (aO P w) s.heap ks a)(h:Q true s):wpAny (model P w) A (eqIsQuiet (n+1) (.ref a)) Q E s:=by have hT:=hk.typeIs;obtain⟨o,items,n,ho,_,hd,hi⟩:=hk;unfold eqIsQuiet;refine wpAny_bind (wpAny_specialOf hT F.slot_tuple_eq.lookup ?_);show wpAny _ _ (isInstance (.ref a) (.type "tuple") >>= _) _ _ s;refine wpAny_bind (wpAny_isInstance hT isSubtype_tuple_tuple ?_);simp only[G6,C6,if_false];refine wpAny_bind (wpAny_seqItems ho hd ?_);refine wpAny_bind ?_;show wpAny _ _ (forIn items _ _) _ _ s;rw[<- Array.forIn_toList];refine wpAny_forIn_list _ (λrest r s'=>r.1=none/\s'=s/\∀v∈rest,carriedByValue v=true) _ ?_ ?_ _ _ ⟨rfl,rfl,hi.byValue⟩;rintro v rest r s' ⟨hr,rfl,HY⟩;rw[eqIsQuiet_byValue _ (HY v cS)];refine wpAny_bind (wpAny_pure ?_);simp only[G6,C6,if_false];exact wpAny_pure ⟨rfl,rfl,λu fK=>HY u (d_ _ fK)⟩;rintro⟨r1,r2⟩ s' ⟨hr,rfl,_⟩;simp only at hr;subst hr;exact wpAny_pure h
theorem AB{c:CK}{Q:Bool->Shared->Prop}(hk:t5 P w s.heap c a)(h:Q true s):wpAny (model P w) A (eqIsQuiet 8 (.ref a)) Q E s:=by have hT:=hk.typeIs;obtain⟨o,items,n,b,v,ho,_,hd,hi,h1,h2⟩:=hk;unfold eqIsQuiet;refine wpAny_bind (wpAny_specialOf hT F.slot_tuple_eq.lookup ?_);show wpAny _ _ (isInstance (.ref a) (.type "tuple") >>= _) _ _ s;refine wpAny_bind (wpAny_isInstance hT isSubtype_tuple_tuple ?_);simp only[G6,C6,if_false];refine wpAny_bind (wpAny_seqItems ho hd ?_);refine wpAny_bind ?_;show wpAny _ _ (forIn items _ _) _ _ s;rw[<- Array.forIn_toList,hi];refine wpAny_forIn_list _ (λrest r s'=>r.1=none/\s'=s/\(rest=[.ref b,v]\/rest=[v]\/rest=[])) _ ?_ ?_ _ _ ⟨rfl,rfl,.inl rfl⟩;rintro u rest r s' ⟨hr,rfl,e|e|e⟩;cases e;refine wpAny_bind (OB h1 ?_);simp only[G6,C6,if_false];exact wpAny_pure ⟨rfl,rfl,.inr (.inl trivial)⟩;cases e;rw[eqIsQuiet_byValue _ ((aO P w).byValue _ _ h2)];refine wpAny_bind (wpAny_pure ?_);simp only[G6,C6,if_false];exact wpAny_pure ⟨rfl,rfl,.inr (.inr trivial)⟩;cases e;rintro⟨r1,r2⟩ s' ⟨hr,rfl,_⟩;simp only at hr;subst hr;exact wpAny_pure h
noncomputable def pB(P:Program)(w:World):HeapKind P w CK where
 is:=t5 P w
 hash:=bp P w
 draws:=λc=>c.1.length+3
 room:=λA=>A.units+2<cLine
 inj:=λhx hy=>hx.inj hy
 keeps:=λx ho hd hs=>x.keeps ho hd hs
 pyHash:=λhu hk h=>pA hu hk h
 eqBool:=λhu hx hy h=>E7 hu hx hy h
 quiet:=λhk h=>AB hk h
variable{s:Shared}
theorem wz{Q:Int->Shared->Prop}(hu:A.units<cLine)(h:∀z t,Q z {s with toks:=t}):wpAny (model P w) A (pyHash .none) Q E s:=by
 unfold pyHash
 first|unfold pyHashByItsType|skip
 first|refine wpAny_bind (wpAny_cRoomFor_or (.inr (by omega)) ?_)|skip
 have hT:s.TypeIs .none "NoneType":=rfl;refine wpAny_bind (wpAny_specialOf hT UU.lookup ?_);show wpAny _ _ (if (some (Value.builtin "NoneType.__hash__")==some Value.none)=true then _ else _) Q E s;rw[if_neg (by rw[beq_builtin_none];exact eh)];refine wpAny_bind (wpAny_specialOf hT UU.lookup ?_);show wpAny _ _ (callSpecialIfBoundUnlessNone? .none "__hash__" _ >>= _) Q E s;refine wpAny_bind (wpAny_callSpecialIfBoundUnlessNone?_slot hT UU (wpAny_call_entry UU hT F.entry_NoneType_hash ?_ (F.args_NoneType_hash_1 _)));show wpAny _ _ (retInt 4238894112) _ _ s;refine wpAny_ret_mkInt ?_;show wpAny _ _ (if (decide (-(2:Int) ^ 63<=4238894112) && decide ((4238894112:Int)<2 ^ 63))=true then _ else _) Q E _;rw[if_pos (by decide)];exact wpAny_pure (h _ _)
theorem find_none{d:Addr}{o:Obj}{es ep}{xs:List (CK×Addr×Value)}{z:Int}{Q:Option Nat->Shared->Prop}(hu:A.units<cLine)(ho:s.heap.get? d=some o)(hd:o.data=.dict es ep)(he:es.toList=xs.map (entryOfKey (pB P w)))(Hc:∀x∈xs,t5 P w s.heap x.1 x.2.1)(hq:Q none s) :
  wpAny (model P w) A (dictFind d .none z) Q E s:=by
 have TC:∀e∈es,∃x∈xs,e=entryOfKey (pB P w) x:=by intro e E8;have:e∈xs.map (entryOfKey (pB P w)):=he▸Array.mem_toList_iff.mpr E8;obtain⟨x,hx,rfl⟩:=sh.mp this;exact⟨x,hx,rfl⟩
 have MK:∀v∈(placesWithHash es.size (λi=>es[i]?.map (·.hash)) z).filterMap (λi=>es[i]?.map (·.key)),∃k' b,v=.ref b/\t5 P w s.heap k' b:=by
  intro v hv;obtain⟨i,_,hi⟩:=UX.mp hv;cases LK:es[i]? with
  |none=>rw[LK] at hi;cases hi
  |some e=>
    rw[LK] at hi;obtain rfl:e.key=v:=by simpa using hi
    obtain⟨x,hx,rfl⟩:=TC e (Array.mem_of_getElem? LK);exact⟨x.1,x.2.1,rfl,Hc x hx⟩
 unfold dictFind
 try with_reducible refine wpAny_holding ?_
 refine wpAny_bind (wpAny_dictEntries ho hd ?_);dsimp only;have gN:∀i∈placesWithHash es.size (λi=>es[i]?.map (·.hash)) z,∃e,es[i]?=some e:=λi hi=>by
  unfold placesWithHash at hi;have:=(List.mem_filter.mp hi).2;cases LK:es[i]? with
  |none=>have LL:(es[i]?.map (·.hash)==some z)=true:=this;rw[LK] at LL;simp at LL
  |some e=>exact⟨e,rfl⟩
 generalize placesWithHash es.size (λi=>es[i]?.map (·.hash)) z=places at MK gN ⊢;cases places with
 |nil=>rw[if_pos (by rfl)];unfold dictWalkPlain;refine wpAny_bind ?_;rw[List.forIn_nil];exact wpAny_pure (wpAny_pure hq)
 |cons i0 places=>
   obtain⟨e0,h0⟩:=gN i0 cS;have eW:(i0::places).filterMap (λi=>es[i]?.map (·.key))=e0.key::places.filterMap (λi=>es[i]?.map (·.key)):=by rw[k5,h0];rfl
   obtain⟨k0,b0,qF,_⟩:=MK e0.key (by rw[eW];exact cS);rw[if_neg (by rw[eW,qF];simp[carriedByValue])];have X':¬ (((i0::places).filterMap (λi=>es[i]?.map (·.key)))==[Value.none])=true:=by
    rw[eW,qF];intro hc;have:=eq_of_beq hc;injection this with e1 _
    cases e1
   rw[if_neg X'];have tell:∀{Q':Bool->Shared->Prop},Q' false s->wpAny (model P w) A (tableMayTell .none ((i0::places).filterMap (λi=>es[i]?.map (·.key)))) Q' E s:=λ{Q'} gS=>by unfold tableMayTell;split;exact wpAny_pure gS;rw[eqIsQuiet_byValue _ (rfl:carriedByValue .none=true)];refine wpAny_bind (wpAny_pure ?_);simp only[G6,C6,if_false];refine wpAny_bind ?_;refine wpAny_forIn_list _ (λrest r s'=>s'=s/\r=(none,())/\∀v∈rest,∃k' b,v=.ref b/\t5 P w s.heap k' b) _ ?_ ?_ _ _ ⟨rfl,rfl,MK⟩;rintro x rest r s' ⟨rfl,rfl,hr⟩;obtain⟨k',b,rfl,hb⟩:=hr x cS;refine wpAny_bind (AB hb ?_);simp only[G6,C6,if_false];exact wpAny_pure ⟨rfl,rfl,λv hv=>hr v (d_ _ hv)⟩;rintro r s' ⟨rfl,rfl,_⟩;exact wpAny_pure gS
   refine wpAny_bind (tell ?_);rw[if_neg (by simp)];refine wpAny_bind ?_;refine wpAny_forIn_list _ (λrest b s'=>s'=s/\b=(none,none)/\∀i∈rest,∃e,es[i]?=some e) _ ?_ ?_ _ _ ⟨rfl,rfl,gN⟩;rintro i rest b s' ⟨rfl,rfl,hr⟩;obtain⟨e,LK⟩:=hr i cS;have eG:∀j∈rest,∃e,es[j]?=some e:=λj hj=>hr j (d_ _ hj);obtain⟨x,hx,ex⟩:=TC e (Array.mem_of_getElem? LK);have hk:=Hc x hx;rw[LK];dsimp only;by_cases hh:(e.hash==z)=true;rw[if_pos hh];obtain⟨ox,items,n,bx,vx,g1,g2,g3,g4,g5,g6⟩:=id hk;have hT:s'.heap.IsTuple x.2.1 items:=⟨ox,g1,g2,n,g3⟩;have ek:e.key=.ref x.2.1:=by rw[ex];rfl
   rw[ek];refine wpAny_bind (wpAny_dictEpoch ho hd (wpAny_bind (SeqAt.EqAt.tuple_none hT hu P w E _ (wpAny_bind (wpAny_dictEpoch ho hd ?_)))));rw[if_neg (by simp)];simp only[C6,if_false,QX];refine wpAny_bind (wpAny_rule ?_);exact wpAny_pure ⟨rfl,rfl,eG⟩;rw[if_neg hh];exact wpAny_pure ⟨rfl,rfl,eG⟩;rintro b s' ⟨rfl,rfl,_⟩;exact wpAny_pure hq
theorem pD(d:Addr)(hd:(d==sysModules)=false)(dflt:Value) :
  MeetsIn P w (Builtin.«dict.get» ⟨[.ref d,.none,dflt],[]⟩) (λA R s=>A.units+1<cLine/\∃xs,s.heap.DictOfH (pB P w) d xs/\∀t,R (.ok (.ret dflt)) {s with toks:=t}) :=
 .of_wp λA R s ⟨hu,xs,hm,h⟩=>by
  obtain⟨o,es,ep,ho,_,hdd,he,Hc,hn⟩:=hm;show wpAny _ _ (dictGet d .none >>= _) _ _ s;refine wpAny_bind ?_;unfold dictGet
  try with_reducible refine wpAny_holding ?_
  refine wpAny_bind (wz hu λz t=>wpAny_bind (find_none (s:={s with toks:=t}) hu ho hdd he Hc ?_));refine wpAny_pure ?_;show wpAny _ _ (Builtin.Dict.missed d .none >>= _) _ _ _;exact wpAny_bind (wpAny_missed_other hd (wpAny_pure ⟨dflt,rfl,h t⟩))
end NK
namespace VT
open PySem PySem.Spec PyProof.Rows L2
section
variable{g:FM}{pos:Pos}
def OC(fc:FB)(g:FM):FM:=λd ρ s=>∃Pv:Nat->En->S->Prop,(∃m,Pv m ρ s)/\∀m ρ s,Pv m ρ s->fc ρ λb=>if b=true then g {d with nx:=λρ' s'=>∃m',m'<m/\Pv m' ρ' s',ct:=λρ' s'=>∃m',m'<m/\Pv m' ρ' s',bk:=d.nx} ρ s else d.nx ρ s
theorem E9{body:qaq}{fc:FB}(hp:PassesOwn (model X.prog X.w) X.A X.env X.xe)(hc:∀H0,VC X ⟨H0,[],M.Ox⟩ c fc)(hb:An X M body g):MS X M (.While c body [] pos) (OC fc g):=⟨λpins s' σ H D J ⟨ρ,s,d,S0,hg,Fi⟩=>by
 obtain⟨Pv,⟨m0,p0⟩,step⟩:=hg;refine Dm (tc:=λσ H Q=>∃H0,lB X ⟨H0,[],M.Ox⟩ [] fc σ H Q) hp (λpins s σ H Q I ⟨H0,h⟩=>(hc H0 []) pins s σ H Q I h) hb.h pins s' σ H D J ⟨λm σ H=>∃ρ s,kB X.K M ρ s σ H/\Pv m ρ s,⟨m0,ρ,s,S0,p0⟩,?_⟩;rintro m σ1 H1 ⟨ρ1,s1,⟨⟨O,fp,F,I⟩,Zp⟩,p1⟩;refine⟨jl H1 (roots O),ρ1,O,_,I,step m ρ1 s1 p1,λb hb H2 s2=>?_⟩;have St:kB X.K M ρ1 s1 σ1 H2:=kB.of F (bu I) (I.same s2) Zp;cases b with
 |true=>rw[if_pos rfl] at hb;dsimp only;rw[if_pos rfl];refine⟨λσ' H'=>∃m',m'<m/\∃ρ s,kB X.K M ρ s σ' H'/\Pv m' ρ s,λσ' H' z=>z,ρ1,s1,_,St,hb,?_⟩;exact⟨λρ s σ H I ⟨m',hm,p⟩=>⟨m',hm,ρ,s,I,p⟩,Fi.rt,Fi.nx,λρ s σ H I ⟨m',hm,p⟩=>⟨m',hm,ρ,s,I,p⟩⟩
 |false=>rw[if_neg eh] at hb;dsimp only;rw[if_neg eh];exact Fi.nx ρ1 s1 σ1 H2 St hb⟩
end
section
variable{fe:Expr}{pos:Pos}
abbrev GM:=qaj->S->(S->T->Prop)->Prop
theorem E_{k:Nat}{Fn:Addr->GM->Prop}{tf:TE}{t:TA}(C:∀f G,Fn f G->PySem.W.keepIn X.K (.ref f)=true/\∃fd ps,Binds X.K fd ps []/\cn X.prog X.w X.K X.mg X.base dO k f fd ps (j7 X.K n G))(hr:bh k X.A)(hf:PE X fe tf)(ha:PA X (e::es) t)(he:starEach (e::es) X.env=(false,eval e X.env)::starEach es X.env:=by rfl)(gN:(backTo pos (starEach es X.env)).any (·.1)=false:=by rfl)(ht:eval (.Call fe (e::es) [] pos) X.env=(do
    let f <- eval fe X.env
    callWith pos f [] (backTo pos (starEach (e::es) X.env)) (backToKw pos (keywordEach [] X.env))):=by rfl) :
  PE X (.Call fe (e::es) [] pos) (λσ H Q=>tf σ H λv H1=>∃f G,v=.ref f/\Fn f G/\t σ H1 λvs H2=>j7 X.K n G (vs++[]) H2 Q E0):=by
 intro pins s σ H Q I h;rw[ht];refine wpAny_bind (bY (hf pins s σ H _ I h) λu s1 ⟨v,H1,I1,r,f,G,ev,Ya,q1⟩=>?_);subst ev;obtain rfl:u=Value.ref f:=r;obtain⟨hk,fd,ps,hb,F⟩:=C f G Ya;refine PySem.W.callWith_K (h₀:=X.base) I1.ok.mod.Q2 hk (bY (ha pos pins s1 σ H1 _ I1 q1) λus s2 ⟨vs,H2,I2,r2,q2⟩=>⟨I2.qV,?_⟩) he gN;exact Du F hr hb .nil jq I2 r2 q2
noncomputable def OD(M:Mz)(n:Nat)(Fn:Addr->GM->Prop)(ff:FE)(fa:FA):FM:=λd ρ s=>(∀e∈ρ,fO e)/\ff ρ λt=>∃f G,t=.ob f/\Fn f G/\fa ρ λus=>us.length=n/\G us s λs' _=>d.nx (j6 M ρ s') s'
theorem Fb{k:Nat}{Fn:Addr->GM->Prop}{ff:FE}{fa:FA}(C:∀f G,Fn f G->PySem.W.keepIn X.K (.ref f)=true/\∃fd ps,Binds X.K fd ps []/\cn X.prog X.w X.K X.mg X.base dO k f fd ps (j7 X.K n G))(hr:bh k X.A)(hf:∀H0,VE X ⟨H0,[],M.Ox⟩ fe ff)(ha:∀H0,VA X ⟨H0,[],M.Ox⟩ es fa)(hN:X.N[M.k]?=some y)(hv:jA X.env.scope y:=by first|exact Or.inl rfl|exact Or.inr (Or.inl rfl)|exact Or.inr (Or.inr rfl))(hd:gp y:=by decide)(fH:se y:=by decide)(he:starEach (.Name y p1::es) X.env=(false,eval (.Name y p1) X.env)::starEach es X.env:=by rfl)(gN:(backTo aN (starEach es X.env)).any (·.1)=false:=by rfl)(ht:eval (.Call fe (.Name y p1::es) [] aN) X.env=(do
    let f <- eval fe X.env
    callWith aN f [] (backTo aN (starEach (.Name y p1::es) X.env)) (backToKw aN (keywordEach [] X.env))):=by rfl)(hs:swapsWith (.Call fe (.Name y p1::es) [] aN) none pos.line X.env=pure false:=by rfl) :
  MS X M (.Expr (.Call fe (.Name y p1::es) [] aN) pos) (OD M n Fn ff fa):=⟨λpins s' σ H D J ⟨ρ,s,d,⟨⟨O,fp,F,I⟩,hp⟩,Js,Fi⟩=>by
 obtain⟨nC,Js⟩:=Js;obtain⟨_,hσ⟩:=cD I hp;refine i_ (E_ C hr (hf (jl H (roots O)) []) (bf (bN hN hv hd fH) (ha (jl H (roots O)) []) he) he gN ht) hs pins s' σ H D J ⟨ρ,O,_,I,Js,λt htt v H0 s0 a0=>?_⟩;obtain⟨f,G,rfl,Ya,Js⟩:=htt;simp only[At] at a0;refine⟨f,G,a0,Ya,.ref M.a,hσ,ρ,O,_,I.same s0,Js,λus Bl ws H1 s1 a1=>?_⟩;obtain⟨hu,hG⟩:=Bl;have I0:=(I.same s0).same s1;have F1:=F.now I0 (bu I);have I1:=I0.rebase (Z:=zf M O H) rfl;rw[CO];exact v5 F1 I1 hp nC hu a1 hG λs2 t hq v H' S' _ _=>Fi.nx _ _ σ H' S' hq⟩
end
theorem jg{rest:qaq}:An X M rest (λ_ _ _=>False):=⟨λ_ _ _ _ _ _ ⟨_,_,_,_,h,_⟩=>h.elim⟩
structure nU(K:qaf)(H0:Hp)(Ox:qah)(x C:Addr)(ns:qai)(xs:List S)(H:Hp):Prop where
 ex:∃fp,bX K H (fp++Ox) (.ins C ns xs) (.ref x) fp/\fp.Nodup/\∀b∈fp,b=x\/H0 b=none
 nx:x∉Ox
 ox:∀b∈Ox,H0 b≠none
 fr:∀b o,H0 b=some o->b≠x->H b=some o
theorem wA(f:Str)(y:V):∀(ns:qai)(vs:qak),ns.length=vs.length->f∉ns->dh f y (ns.zip vs)=(ns++[f]).zip (vs++[y])
 |[],[],_,_=>rfl
 |[],v::vs,h,_=>by simp at h
 |n::ns,[],h,_=>by simp at h
 |n::ns,v::vs,h,q=>by rw[Ho];show (if n=f then (n,y)::ns.zip vs else (n,v)::dh f y (ns.zip vs))=_;rw[if_neg (λe=>q (by rw[e];exact cS)),wA f y ns vs (by simpa using h) (λz=>q (d_ _ z))];rfl
section
variable{H0:Hp}{x:Addr}{ns:qai}{xs:List S}
theorem nU.at(I:nU K H0 Ox x C ns xs H):∃dx fs,H x=some (.ins C dx fs)/\fs.length=xs.length:=by obtain⟨fp,h,_⟩:=I.ex;simp only[bX] at h;obtain⟨a,dx,vs,gP,e,hl,ha,_,hL⟩:=h;cases e;exact⟨dx,_,ha,by rw[Mp,hl,K4,hL.length]⟩
theorem nU.add{H1:Hp}{f:Str}{z:S}{g:qah}{fs:qac}(I:nU K H0 Ox x C ns xs H)(sm:aK H H1)(hf:f∉ns)(hx:H1 x=some (.ins C dx fs))(hg:∀b∈g,H b=none)(nd:g.Nodup)(hz:∀fp:qah,(∀b∈fp,b=x\/H0 b=none)->x∈fp->(∀t w,At K H (fp++Ox) t w->At K (upd H1 x (.ins C dx (dh f v fs))) ((fp++g)++Ox) t w)->bX K (upd H1 x (.ins C dx (dh f v fs))) ((fp++g)++Ox) z v g) :
  nU K H0 Ox x C (ns++[f]) (xs++[z]) (upd H1 x (.ins C dx (dh f v fs))):=by
 obtain⟨fp,h,n,each⟩:=I.ex;have h':=h;simp only[bX] at h';obtain⟨a,dx',vs,gP,e,hl,ha,rfl,hL⟩:=h';cases e;have ZS:=sm _ _ ha;rw[hx] at ZS;cases ZS;have old:∀b∈x::gP,H b≠none:=λb hb=>by obtain⟨u,e,_⟩:=h.mut b hb;rw[e];simp
 have go:∀t w,At K H ((x::gP)++Ox) t w->At K (upd H1 x (.ins C dx (dh f v (ns.zip vs)))) (((x::gP)++g)++Ox) t w:=λt w q=>by
  have q1:At K H (((x::gP)++g)++Ox) t w:=q.more λb hb=>by
   rcases cJ.mp hb with y|y
   rcases cJ.mp y with y|y
   exact .inl (cj _ y);exact .inr (hg b y);exact .inl (bK _ y)
  exact (q1.same sm).wrote (cj _ (cj _ cS)) hx rfl
 have z1:=hz (x::gP) each cS go;have nxf:x∉gP:=(jh.mp n).1;have rest:aX K (upd H1 x (.ins C dx (dh f v (ns.zip vs)))) (((x::gP)++g)++Ox) xs vs gP:=hL.map go λb hb=>by obtain⟨u,e,_⟩:=aX.mut hL b hb;rw[az (λy=>nxf (by rw[<- y];exact hb)),e];exact sm _ _ e
 refine⟨⟨(x::gP)++g,?_,?_,λb hb=>?_⟩,I.nx,I.ox,λb o e ne=>?_⟩;simp only[bX];refine⟨x,dx,vs++[v],gP++g,rfl,by simp[hl],?_,rfl,rest.snoc z1⟩;rw[aB,wA f v ns vs hl hf];exact xK.mpr ⟨n,nd,λa ha b hb e=>by subst e;exact old a ha (hg a hb)⟩;rcases cJ.mp hb with y|y
 exact each b y
 right
 cases e:H0 b with
 |none=>rfl
 |some o=>exfalso;have nb:b≠x:=λz=>old x cS (by rw[<- z];exact hg b y);have:=I.fr b o e nb;rw[hg b y] at this;cases this
 rw[az ne];exact sm _ _ (I.fr b o e ne)
theorem nU.lf{H1:Hp}{f:Str}{t:T}{fs:qac}(I:nU K H0 Ox x C ns xs H)(hf:f∉ns)(hi:bJ t=true)(a:At K H [] t v)(hx:H x=some (.ins C dx fs)):nU K H0 Ox x C (ns++[f]) (xs++[.lf t]) (upd H x (.ins C dx (dh f v fs))) :=
 I.add (z:=.lf t) (g:=[]) (λ_ _ e=>e) hf hx (λb hb=>nomatch hb) G5 λfp _ _ go=>by simp only[bX];exact⟨trivial,go t v (At.bJ hi a)⟩
theorem nU.lst{f:Str}{p:Addr}{fs:qac}(I:nU K H0 Ox x C ns xs H)(hf:f∉ns)(hp:H p=none)(hx:upd H p (.lst []) x=some (.ins C dx fs)):nU K H0 Ox x C (ns++[f]) (xs++[.lst []]) (upd (upd H p (.lst [])) x (.ins C dx (dh f (.ref p) fs))) :=
 I.add (z:=.lst []) (g:=[p]) (aC hp) hf hx (λb hb=>by rw[gq.mp hb];exact hp) (by simp) λfp _ _ go=>by
  have ne:p≠x:=λz=>by rw[z,aB] at hx;cases hx
  simp only[bX,aX];exact⟨p,[],[],rfl,by rw[az ne,aB],rfl,rfl,rfl⟩
theorem nU.dk{f:Str}{p:Addr}{fs:qac}(I:nU K H0 Ox x C ns xs H)(hf:f∉ns)(hp:H p=none)(hx:upd H p (.dK []) x=some (.ins C dx fs)):nU K H0 Ox x C (ns++[f]) (xs++[.dk [] []]) (upd (upd H p (.dK [])) x (.ins C dx (dh f (.ref p) fs))) :=
 I.add (z:=.dk [] []) (g:=[p]) (aC hp) hf hx (λb hb=>by rw[gq.mp hb];exact hp) (by simp) λfp _ _ go=>by
  have ne:p≠x:=λz=>by rw[z,aB] at hx;cases hx
  simp only[bX];exact⟨p,[],rfl,rfl,rfl,by rw[az ne,aB];rfl,ay.nil⟩
theorem nU.first{H1:Hp}{f:Str}{t:T}(nx:x∉Ox)(ox:∀b∈Ox,H b≠none)(hx:H x=some (.ins C dx []))(sm:aK H H1)(a:At K H1 (x::Ox) t v):nU K H Ox x C [f] [.lf t] (upd H1 x (.ins C dx (dh f v []))):=by refine⟨⟨[x],?_,by simp,λb hb=>.inl (gq.mp hb)⟩,nx,ox,λb o e ne=>by rw[az ne];exact sm _ _ e⟩;simp only[bX,aX];exact⟨x,dx,[v],[],rfl,rfl,aB,rfl,v,[],[],[],rfl,rfl,⟨rfl,a.wrote cS (sm _ _ hx) rfl⟩,rfl,rfl⟩
end
noncomputable def mN:qai:=["layout","most","poke","frames","cells","counts","doings","place","ended"]
def Yb(cz:S):Prop:=cz=.dk [] []\/∃nh,cz=.dc nh [] []
noncomputable def zO:S->Addr->HO
 |.dc nh _ _,p=>.ext (lp nh p [])
 |_,_=>.dK []
noncomputable def OE(cz:S):TE:=λ_ H Q=>∀p,H p=none->(p==sysModules)=false->Q (.ref p) (upd H p (zO cz p))
theorem wB{nh:List Key×Key->Int}{xs:List ((List Key×Key)×Addr×Value)}:∀h1 h2:Heap,lp nh a xs h1->(∀o,h1.get? a=some o->h2.get? a=some o)->lp nh a xs h2:=λh1 h2 ⟨o,es,ep,e,q⟩ k=>⟨o,es,ep,k o e,q⟩
theorem Fc{pos:Pos}{cz:S}(hz:Yb cz):PE X (.Dict [] [] pos) (OE cz):=λpins s σ H Q I h=>by
 have nm:(s.heap.objs.size==sysModules)=false:=beq_eq_false_iff_ne.mpr (Ne.symm (j4 I.big));obtain rfl|⟨nh,rfl⟩:=hz
 exact wpAny_Dict_empty ⟨.ref s.heap.objs.size,_,I.laid (a:=s.heap.objs.size) (o:=.dK []) (t':=s.toks) (λ_ _ q=>fE _ q) (cU _) (vK s.heap I.big),rfl,h _ (I.b_.fresh (cU _)) nm⟩;exact wpAny_Dict_empty ⟨.ref s.heap.objs.size,_,I.laid (a:=s.heap.objs.size) (o:=.ext (lp nh s.heap.objs.size [])) (t':=s.toks) (λ_ _ q=>fE _ q) (cU _) ⟨⟨_,#[],0,k6 _ rfl,⟨rfl,rfl,rfl⟩,rfl,rfl,G5⟩,⟨_,k6 _ rfl⟩,wB⟩,rfl,h _ (I.b_.fresh (cU _)) nm⟩
theorem nU.cz{H0:Hp}{x:Addr}{ns:qai}{xs:List S}{cz:S}(hz:Yb cz){f:Str}{p:Addr}{fs:qac}(I:nU K H0 Ox x C ns xs H)(hf:f∉ns)(hp:H p=none)(nm:(p==sysModules)=false)(hx:upd H p (zO cz p) x=some (.ins C dx fs)):nU K H0 Ox x C (ns++[f]) (xs++[cz]) (upd (upd H p (zO cz p)) x (.ins C dx (dh f (.ref p) fs))) :=
 I.add (z:=cz) (g:=[p]) (aC hp) hf hx (λb hb=>by rw[gq.mp hb];exact hp) (by simp) λfp _ _ go=>by
  obtain rfl|⟨nh,rfl⟩:=hz
  have ne:p≠x:=λz=>by rw[z,aB] at hx;cases hx
  simp only[bX];exact⟨p,[],rfl,rfl,rfl,by rw[az ne,aB];rfl,ay.nil⟩;have ne:p≠x:=λz=>by rw[z,aB] at hx;cases hx
  simp only[bX];exact⟨p,[],[],rfl,rfl,by rw[az ne,aB];rfl,rfl,nm,λx hx=>(nomatch hx),.nil,ay.nil⟩
noncomputable def wC(cz:S)(L t2 t3:T):List S:=[.lf L,.lf t2,.lf t3,.lst [],cz,.dk [] [],.lst [],.lf .aQ,.lf .aQ]
theorem OF(K:qaf)(H:Hp)(h:∀a∈Ox,H a≠none):aw K ⟨H,[],Ox⟩ [] [] [] [] H:=⟨rfl,rfl,λi e h=>by simp at h,G5,λa h=>absurd h gg,λp hp=>absurd hp gg,h,λb o e _=>e,λp hp=>absurd hp gg⟩
section
variable{CL:Addr}
theorem B7{pr:T}{vp:V}{q:T->Prop}{Q:VK}(ox:∀b∈Ox,H b≠none)(a:At X.K H Ox pr vp)(hG:GL [pr] q)(k:∀L,q L->∀v H',aK H H'->At X.K H' Ox L v->Q v H') :
  ∀x dx,H x=none->H dx=none->dx≠x->LA X.K CL 1 GL (.ref x::([vp]++[])) (upd (upd H dx (.own x)) x (.ins CL dx [])) (λv H2=>v=.aQ/\Q (.ref x) H2) E0 :=
 Ai (X:=X) (Z:=⟨H,[],Ox⟩) (q:=λr=>∃L,r=.fr L/\q L) (OF X.K H ox) (ay.cons a ay.nil) rfl (by
  have e:q=λu=>∃L,Rt.fr u=Rt.fr L/\q L:=by funext u;exact propext ⟨λh=>⟨u,rfl,h⟩,λ⟨L,e,h⟩=>by cases e;exact h⟩
  rw[<- e];exact hG) λr hr v H' sm z=>by
  obtain⟨L,rfl,hL⟩:=hr;obtain⟨b,rfl,_,rt,n0,nO⟩:=z;refine k L hL _ H' sm ((rt.aR λc hc=>?_).at nO);exact bK _ (d_ _ hc)
def Yc(K:qaf)(GL:qaj->(T->Prop)->Prop):TE:=λσ H Q=>∃vp pr Ox q,σ[1]?=some (some vp)/\(∀b∈Ox,H b≠none)/\At K H Ox pr vp/\GL [pr] q/\∀L,q L->∀v H',aK H H'->At K H' Ox L v->Q v H'
theorem OG{kL:Nat}{fL:Addr}{TF:FuncData}{TH:qai}{u1 u2 u3:Pos}(ML:Mk X.K CL fL)(FL:cn X.prog X.w X.K X.mg X.base dO kL fL TF TH (LA X.K CL 1 GL))(rL:bh (kL+1) X.A)(gL:Gl X "Layout")(mL:X.mg "Layout"=some (.ref CL))(bL:Binds X.K TF TH [])(h1:X.N[1]?=some ("program":Str))(v1:jA X.env.scope "program")(s1:starEach [.Name "program" u2] X.env=(false,eval (.Name "program" u2) X.env)::starEach [] X.env)(s2:(backTo u3 (starEach [] X.env)).any (·.1)=false):PE X (.Call (.Name "Layout" u1) [.Name "program" u2] [] u3) (Yc X.K GL) :=
 PE.weak (sC ML FL rL gL mL bL .nil jq (bf (bN h1 v1 (by decide) (by decide)) cN s1) (by decide) s1 s2) λσ H Q ⟨vp,pr,Ox,q,e1,ox,ap,hG,k⟩=>⟨vp,e1,B7 (X:=X) (Q:=Q) ox ap hG k⟩
noncomputable def TJ(X:Cx)(C:Addr)(cz:S)(GL:qaj->(T->Prop)->Prop):TS:=λD σ H=>∃x dx Ox pr vp t2 v2 t3 v3 q,σ[0]?=some (some (.ref x))/\σ[1]?=some (some vp)/\σ[2]?=some (some v2)/\σ[3]?=some (some v3)/\H x=some (.ins C dx [])/\x∉Ox/\(∀b∈Ox,H b≠none) /\
 At X.K H (x::Ox) pr vp/\bJ t2=true/\At X.K H [] t2 v2/\bJ t3=true/\At X.K H [] t3 v3/\GL [pr] q/\∀L,q L->∀H',nU X.K H Ox x C mN (wC cz L t2 t3) H'->D.nx σ H'
theorem iU{fs:List α}{m:Nat}(h:fs.length=n)(h2:n<1000):fs.length<1000:=by omega
theorem Fd{cz:S}(hz:Yb cz){kL:Nat}{fL:Addr}{TF:FuncData}{TH:qai}(ML:Mk X.K CL fL)(FL:cn X.prog X.w X.K X.mg X.base dO kL fL TF TH (LA X.K CL 1 GL))(rL:bh (kL+1) X.A)(gL:Gl X "Layout")(mL:X.mg "Layout"=some (.ref CL))(bL:Binds X.K TF TH [])(cl:xW X.K C)(n1:a8 X.K C "layout")(n2:a8 X.K C "most")(n3:a8 X.K C "poke")(n4:a8 X.K C "frames")(n5:a8 X.K C "cells")(n6:a8 X.K C "counts")(n7:a8 X.K C "doings")(n8:a8 X.K C "place")(n9:a8 X.K C "ended"){p2 p3 p4 p5 p6 p7 p8 p9 q1 q2 q3 q4 q5 q6 q7 q8 q9 r1 r2 r3 r4 r5 r6 r7 r8 r9 u1 u2 u3 u4 u5 u6 u7 u8 u9 ZT ZU:Pos}{k8 k9}(h0:X.N[0]?=some ("self":Str):=by rfl)(h1:X.N[1]?=some ("program":Str):=by rfl)(h2:X.N[2]?=some ("most":Str):=by rfl)(h3:X.N[3]?=some ("poke":Str):=by rfl)(v0:jA X.env.scope "self":=by exact Or.inl rfl)(v1:jA X.env.scope "program":=by exact Or.inl rfl)(v2:jA X.env.scope "most":=by exact Or.inl rfl)(v3:jA X.env.scope "poke":=by exact Or.inl rfl)(s1:starEach [.Name "program" u2] X.env=(false,eval (.Name "program" u2) X.env)::starEach [] X.env:=by rfl)(s2:(backTo u3 (starEach [] X.env)).any (·.1)=false:=by rfl)(w1:swapsWith (.Call (.Name "Layout" u1) [.Name "program" u2] [] u3) (some (.Attribute (.Name "self" p1) "layout" q1)) r1.line X.env=pure false:=by rfl)(w2:swapsWith (.Name "most" u4) (some (.Attribute (.Name "self" p2) "most" q2)) r2.line X.env=pure false:=by rfl)(w3:swapsWith (.Name "poke" u5) (some (.Attribute (.Name "self" p3) "poke" q3)) r3.line X.env=pure false:=by rfl)(w4:swapsWith (.List [] u6) (some (.Attribute (.Name "self" p4) "frames" q4)) r4.line X.env=pure false:=by rfl)(w5:swapsWith (.Dict [] [] u7) (some (.Attribute (.Name "self" p5) "cells" q5)) r5.line X.env=pure false:=by rfl)(w6:swapsWith (.Dict [] [] u8) (some (.Attribute (.Name "self" p6) "counts" q6)) r6.line X.env=pure false:=by rfl)(w7:swapsWith (.List [] u9) (some (.Attribute (.Name "self" p7) "doings" q7)) r7.line X.env=pure false:=by rfl)(w8:swapsWith (.Constant .none k8 ZT) (some (.Attribute (.Name "self" p8) "place" q8)) r8.line X.env=pure false:=by rfl)(w9:swapsWith (.Constant .none k9 ZU) (some (.Attribute (.Name "self" p9) "ended" q9)) r9.line X.env=pure false:=by rfl) :
  gw X [.Assign [.Attribute (.Name "self" p1) "layout" q1] (.Call (.Name "Layout" u1) [.Name "program" u2] [] u3) r1,.Assign [.Attribute (.Name "self" p2) "most" q2] (.Name "most" u4) r2,.Assign [.Attribute (.Name "self" p3) "poke" q3] (.Name "poke" u5) r3,
   .Assign [.Attribute (.Name "self" p4) "frames" q4] (.List [] u6) r4,.Assign [.Attribute (.Name "self" p5) "cells" q5] (.Dict [] [] u7) r5,.Assign [.Attribute (.Name "self" p6) "counts" q6] (.Dict [] [] u8) r6,
   .Assign [.Attribute (.Name "self" p7) "doings" q7] (.List [] u9) r7,.Assign [.Attribute (.Name "self" p8) "place" q8] (.Constant .none k8 ZT) r8,.Assign [.Attribute (.Name "self" p9) "ended" q9] (.Constant .none k9 ZU) r9] (TJ X C cz GL) :=
 have Sv:∀{p:Pos},PE X (.Name "self" p) (Hw 0):=λ{p}=>bN (X:=X) h0 v0 (by decide) (by decide)
 gw.gy (bT (eV Sv (OG ML FL rL gL mL bL h1 v1 s1 s2) w1) (bT (eV Sv (bN h2 v2 (by decide) (by decide)) w2) (bT (eV Sv (bN h3 v3 (by decide) (by decide)) w3)
  (bT (eV Sv (x6 cN) w4) (bT (eV Sv (Fc hz) w5) (bT (eV Sv vL w6) (bT (eV Sv (x6 cN) w7) (bT (eV Sv xP w8) (i9 (eV Sv xP w9)))))))))) λD σ H h=>by
  obtain⟨x,dx,Ox,pr,vp,t2,v2',t3,v3',q,e0,e1,e2,e3,hx,nx,ox,ap,i2,a2,i3,a3,hG,kk⟩:=h;have ox':∀b∈x::Ox,H b≠none:=λb hb=>by
   rcases cT.mp hb with z|z
   rw[z,hx];simp;exact ox b z
  have LM:∀{H':Hp}{ns:qai}{xs:List S},nU X.K H Ox x C ns xs H'->∀{t:T}{v:V},bJ t=true->At X.K H [] t v->At X.K H' [] t v:=λ{H' ns xs} I {t v} hi a=>At.bJ hi ((At.bJ (O':=[x]) hi a).frame (λb hb=>⟨.ins C dx [],by rw[gq.mp hb];exact hx,rfl⟩) λb o e n=>I.fr b o e (λz=>n (by rw[z];exact cS)));refine⟨vp,pr,x::Ox,q,e1,ox',ap,hG,λL hL v H1 sm aL=>?_⟩;refine⟨.ref x,e0,x,C,dx,[],rfl,sm _ _ hx,cl,n1,by decide,?_⟩;have I1:nU X.K H Ox x C ["layout"] [.lf L] _:=nU.first (f:="layout") nx ox hx sm aL
  obtain⟨d1,f1,g1,l1⟩:=I1.at;refine⟨v2',e2,.ref x,e0,x,C,d1,f1,rfl,g1,cl,n2,iU (n:=1) (m:=0) l1 (by decide),?_⟩;have I2:=I1.lf (H1:=H) (f:="most") (by decide) i2 (LM I1 i2 a2) g1;obtain⟨d2,f2,g2,l2⟩:=I2.at;refine⟨v3',e3,.ref x,e0,x,C,d2,f2,rfl,g2,cl,n3,iU (n:=2) (m:=0) l2 (by decide),?_⟩;have I3:=I2.lf (H1:=H) (f:="poke") (by decide) i3 (LM I2 i3 a3) g2;refine⟨ji _,λp4 Yd=>?_⟩;obtain⟨d3,f3,g3,l3⟩:=I3.at;refine⟨.ref x,e0,x,C,d3,f3,rfl,aC Yd _ _ g3,cl,n4,iU (n:=3) (m:=0) l3 (by decide),?_⟩;have I4:=I3.lst (f:="frames") (by decide) Yd (aC Yd _ _ g3);intro p5 Ye nm5;obtain⟨d4,f4,g4,l4⟩:=I4.at;refine⟨.ref x,e0,x,C,d4,f4,rfl,aC Ye _ _ g4,cl,n5,iU (n:=4) (m:=0) l4 (by decide),?_⟩;have I5:=I4.cz hz (f:="cells") (by decide) Ye nm5 (aC Ye _ _ g4);intro p6 Yf;obtain⟨d5,f5,g5,l5⟩:=I5.at;refine⟨.ref x,e0,x,C,d5,f5,rfl,aC Yf _ _ g5,cl,n6,iU (n:=5) (m:=0) l5 (by decide),?_⟩;have I6:=I5.dk (f:="counts") (by decide) Yf (aC Yf _ _ g5);refine⟨ji _,λp7 Yg=>?_⟩;obtain⟨d6,f6,g6,l6⟩:=I6.at;refine⟨.ref x,e0,x,C,d6,f6,rfl,aC Yg _ _ g6,cl,n7,iU (n:=6) (m:=0) l6 (by decide),?_⟩;have I7:=I6.lst (f:="doings") (by decide) Yg (aC Yg _ _ g6);obtain⟨d7,f7,g7,l7⟩:=I7.at;refine⟨.ref x,e0,x,C,d7,f7,rfl,g7,cl,n8,iU (n:=7) (m:=0) l7 (by decide),?_⟩;have I8:=I7.lf (H1:=H) (f:="place") (t:=.aQ) (v:=.aQ) (by decide) rfl (by simp only[At]) g7;obtain⟨d8,f8,g8,l8⟩:=I8.at;refine⟨.ref x,e0,x,C,d8,f8,rfl,g8,cl,n9,iU (n:=8) (m:=0) l8 (by decide),?_⟩;exact kk L hL _ (I8.lf (H1:=H) (f:="ended") (t:=.aQ) (v:=.aQ) (by decide) rfl (by simp only[At]) g8)
noncomputable def Yh(K:qaf)(C:Addr)(cz:S)(GL:qaj->(T->Prop)->Prop):Sp:=λvs H Q _=>∃x dx Ox pr vp t2 v2 t3 v3 q,vs=[.ref x,vp,v2,v3]/\H x=some (.ins C dx [])/\x∉Ox/\(∀b∈Ox,H b≠none) /\
 At K H (x::Ox) pr vp/\bJ t2=true/\At K H [] t2 v2/\bJ t3=true/\At K H [] t3 v3/\GL [pr] q/\∀L,q L->∀H',nU K H Ox x C mN (wC cz L t2 t3) H'->Q .aQ H'
end
section
theorem fnK{cz:S}{st:Stmt}{N:qai}{k:Nat}(F:yd K "__init__" qual st f fd)(S:aA N qaB (ah st))(hN:N.length=4)(cx:∀(bq:Value) (A:Around) (outer:List Env) (s:Shared) (H:Hp) (E:XK),bh k (A.deeper (envOfC qual (ah st) s.heap.objs.size f bq))->gw (eR dO P w K mg base N qual (ah st) f bq A outer s H E).nX (bw st) (TJ (eR dO P w K mg base N qual (ah st) f bq A outer s H E).nX C cz GL)) :
  cn P w K mg base dO (k+1) f fd qaB (Yh K C cz GL):=by
 refine F.ok S (λvs H Q E h=>?_) (λbq A outer s H vs Q E hr h=>?_);obtain⟨x,dx,Ox,pr,vp,t2,v2,t3,v3,q,rfl,_⟩:=h;rfl;obtain⟨x,dx,Ox,pr,vp,t2,v2,t3,v3,q,rfl,h⟩:=h;refine⟨_,cx bq A outer s H E hr,x,dx,Ox,pr,vp,t2,v2,t3,v3,q,?_,?_,?_,?_,h⟩<;>(unfold L2.start;rfl)
end
end VT
namespace VT
open PySem PySem.Spec PyProof.Rows L2 NK
section
variable{σ:L2.St}{s:Shared}
theorem Fe(I:Inv X pins σ H s){c:CK}{b:Addr}(h:nq X.K H c b):t5 X.prog X.w s.heap c b:=by
 obtain⟨d,h1,h2⟩:=h;obtain⟨aM,r,⟨o,e,ec,n,ed⟩,_⟩:=I.tuple h1;obtain⟨jts,r2,⟨o2,e2,ec2,n2,ed2⟩,_⟩:=I.tuple h2;obtain⟨u1,l1,rfl,z1,r⟩:∃u1 r1,aM=u1::r1/\RelV (.ref d) u1/\Vals [kV c.2] r1:=by cases r with|cons a b=>exact⟨_,_,rfl,a,b⟩
 obtain⟨u2,l2,rfl,z2,r⟩:∃u1 r1,l1=u1::r1/\RelV (kV c.2) u1/\Vals [] r1:=by cases r with|cons a b=>exact⟨_,_,rfl,a,b⟩
 cases r;cases (show u1=Value.ref d from z1);exact⟨o,_,n,d,u2,e,ec,ed,rfl,⟨o2,_,n2,e2,ec2,ed2,by simpa using lW r2⟩,oZ z2⟩
theorem LN(I:Inv X pins σ H s){xs:List (CK×Addr×Value)}(e:H a=some (.ext (lp (bp X.prog X.w) a xs)))(hk:∀x∈xs,nq X.K H x.1 x.2.1):s.heap.DictOfH (pB X.prog X.w) a xs:=by obtain⟨⟨o,es,ep,ho,hc,hd,he,hn⟩,_⟩:=(show cc X.prog X.w H s.heap a (.ext _) from I.b_ a _ e);exact⟨o,es,ep,ho,hc,hd,he,λx hx=>Fe I (hk x hx),hn⟩
def TK(H:Hp)(a:Addr):Prop:=∃nh xs,H a=some (.ext (lp nh a xs))
theorem JQ(I:Inv X pins σ H s)(d:TK H a):s.TypeIs (.ref a) "dict"/\(∀b,Value.ref a=.ref b->∃ob,s.heap.get? b=some ob/\ob.dict=none):=by obtain⟨nh,xs,e⟩:=d;obtain⟨⟨o,es,ep,ho,hc,_⟩,_⟩:=(show cc X.prog X.w H s.heap a (.ext _) from I.b_ a _ e);exact⟨⟨o,ho,hc.1⟩,λb q=>by cases q;exact⟨o,ho,hc.2.1⟩⟩
end
section
variable{f i value:Expr}{pos pos':Pos}{td ty tx tv:TE}
noncomputable def TL(X:Cx)(td ty tx:TE):TE:=λσ H Q=>td σ H λx H1=>∃a,x=.ref a/\TK H1 a/\ty σ H1 λy H2=>tx σ H2 λz H3=>∃xs,H3 a=some (.ext (lp (bp X.prog X.w) a xs))/\(a==sysModules)=false/\(∀x∈xs,nq X.K H3 x.1 x.2.1) /\
 ((y=.aQ/\Q z H3)\/∃b c v,y=.ref b/\nq X.K H3 c b/\(match atKey xs c with|some p=>RelV v p.2|none=>v=z)/\Q v H3)
theorem Ff(hu:X.A.units+3<cLine)(ho:PE X o td)(he:PE X e ty)(hf:PE X f tx)(m:M2 X o "get" apos e f aN):PE X (.Call (.Attribute o "get" apos) [e,f] [] aN) (TL X td ty tx):=by
 intro pins s σ H Q I h;refine wpAny_Call_method m.base m.XA m.line QP KZ PySem.F.type_dict_get (bY (ho pins s σ H _ I h) λu s1 ⟨x,H1,I1,rx,a,ex,d,q1⟩=>?_);subst ex;obtain rfl:u=Value.ref a:=rx;obtain⟨t1,t2⟩:=JQ I1 d;refine⟨t1,t2,?_⟩;rw[m.trees];refine QQ rfl (UR (Ml (bY (he pins s1 σ H1 _ I1 q1) λiv s2 ⟨y,H2,I2,ry,q2⟩ =>
  Ml (bY (hf pins s2 σ H2 _ I2 q2) λfv s3 ⟨z,H3,I3,rz,xs,ea,nm,hk,q3⟩=>Calls.spliced_nil ?_))))
 have dd:=LN I3 ea hk;obtain⟨rfl,q3⟩|⟨b,c,v,rfl,hb,hv,q3⟩:=q3
 cases (show iv=Value.none from ry);exact call_meetsIn KZ dd.typeIs QR (QO _ _ _) (pD (P:=X.prog) (w:=X.w) a nm fv) ⟨by omega,xs,dd,λt=>⟨z,H3,I3.tok _,rz,q3⟩⟩;cases (show iv=Value.ref b from ry);refine call_meetsIn KZ dd.typeIs QR (QO _ _ _) (meetsH_dict_get_default (pB X.prog X.w) a b nm fv) ⟨by show X.A.units+1+2<cLine;omega,c,xs,Fe I3 hb,dd,v,H3,I3.tok _,?_,q3⟩;cases e:atKey xs c with
 |none=>rw[e] at hv;subst hv;exact rz
 |some p=>rw[e] at hv;exact hv
noncomputable def TM(X:Cx)(td ty tv:TE):TS:=λD σ H=>tv σ H λv H1=>td σ H1 λx H2=>ty σ H2 λy H3=>∃a b c xs,x=.ref a/\y=.ref b/\nq X.K H3 c b/\H3 a=some (.ext (lp (bp X.prog X.w) a xs))/\(∀x∈xs,nq X.K H3 x.1 x.2.1)/\xs.length<=sizeLine /\
 ∀u,RelV v u->D.nx σ (upd H3 a (.ext (lp (bp X.prog X.w) a (storedH xs c b u))))
theorem JR(hu:X.A.units+3<cLine)(ho:PE X o td)(hi:PE X i ty)(hv:PE X value tv)(hs:swapsWith value (some (.Subscript o i pos')) pos.line X.env=pure false) :
  PS X (.Assign [.Subscript o i pos'] value pos) (TM X td ty tv):=by
 intro pins s σ H D I h;refine wpAny_Assign_Subscript (bY (hv pins s σ H _ I h) λr s1 ⟨v,H1,I1,rv,q1⟩=>bY (ho pins s1 σ H1 _ I1 q1) λu s2 ⟨x,H2,I2,rx,q2⟩=>bY (hi pins s2 σ H2 _ I2 q2) λiv s3 ⟨y,H3,I3,ry,a,b,c,xs,ex,ey,hb,ea,hk,hz,q3⟩=>?_) hs;subst ex ey;cases (show u=Value.ref a from rx);cases (show iv=Value.ref b from ry);refine wpAny_setItem_heap (knd:=pB X.prog X.w) (hsz:=hz) (by show X.A.units+1+2<cLine;omega) (Fe I3 hb) (LN I3 ea hk) λh' hm NV=>?_;obtain⟨o',es,ep,jn,hc,hd,he,Hc,hn⟩:=hm;refine⟨σ,_,nN (ob:=.ext (lp (bp X.prog X.w) a (storedH xs c b r))) I3 (by rw[ea];trivial) NV ⟨_,jn⟩ ⟨⟨o',es,ep,jn,hc,hd,he,hn⟩,⟨_,jn⟩,wB⟩,q3 r rv⟩
end
noncomputable def dm{α:Type}:List CK->List α->CK->Option α
 |k::ks,t::ts,c=>if k=c then some t else dm ks ts c
 |_,_,_=>none
def kO(ks:List CK)(c:CK):Bool:=ks.any λk=>decide (k=c)
def gH(ks:List CK)(c:CK):List CK:=if kO ks c=true then ks else ks++[c]
noncomputable def c8{α:Type}(ks:List CK)(ts:List α)(c:CK)(t:α):List α:=if kO ks c=true then List.zipWith (λk v=>if k=c then t else v) ks ts else ts++[t]
section
variable{A:qah}
theorem AD(c:CK):∀{xs:List (CK×Addr×Value)}{ts:qaj}{vs:qak},Vals vs (xs.map (·.2.2))->ay K H A ts vs->match atKey xs c with
  |none=>dm (xs.map (·.1)) ts c=none
  |some p=>∃t v,dm (xs.map (·.1)) ts c=some t/\At K H A t v/\RelV v p.2
 |[],ts,vs,hv,ha=>by show dm [] ts c=none;cases ts<;>rfl
 |x::xs,ts,vs,hv,ha=>by
   rw[fS] at hv;cases hv with
   |@cons v u eT N8 r hv=>
     cases ts with
     |nil=>simp only[ay] at ha;cases ha
     |cons t ts=>
       simp only[ay] at ha;obtain⟨v',r',e,h1,h2⟩:=ha;cases e;by_cases hc:x.1=c;have e1:atKey (x::xs) c=some x.2:=by simp[atKey,G3,hc]
       rw[e1];exact⟨t,v,by rw[fS];show (if x.1=c then _ else _)=_;rw[if_pos hc],h1,r⟩;have e1:atKey (x::xs) c=atKey xs c:=by simp[atKey,G3,hc]
       have e2:dm ((x::xs).map (·.1)) (t::ts) c=dm (xs.map (·.1)) ts c:=by rw[fS];show (if x.1=c then _ else _)=_;rw[if_neg hc]
       rw[e1,e2];exact AD c hv h2
theorem B8{xs:List (CK×Addr×Value)}{c:CK}:(atKey xs c).isSome=kO (xs.map (·.1)) c:=by
 induction xs with
 |nil=>rfl
 |cons x xs ih=>
  by_cases hc:x.1=c;simp[atKey,G3,hc,kO];have e1:atKey (x::xs) c=atKey xs c:=by simp[atKey,G3,hc]
  rw[e1,ih];simp[kO,hc]
theorem Fg{c:CK}(h:iw K H A (C3 c) v):∃b,v=.ref b/\nq K H c b:=by
 obtain h|⟨a,rfl,q⟩:=h
 have h':=h;unfold C3 at h';simp only[At] at h';obtain⟨a,vs,rfl,_⟩:=h';exact⟨a,rfl,tK.mp h⟩;exact q.elim
theorem B9{xs:List (CK×Addr×Value)}{ts:qaj}{c:CK}{b:Addr}{t:T}(hv:Vals vs (xs.map (·.2.2)))(ha:ay K H A ts vs)(ht:At K H A t v)(ru:RelV v u) :
  gH (xs.map (·.1)) c=(storedH xs c b u).map (·.1)/\∃eT,Vals eT ((storedH xs c b u).map (·.2.2))/\ay K H A (c8 (xs.map (·.1)) ts c t) eT:=by
 unfold gH c8 storedH;rw[B8];by_cases h:kO (xs.map (·.1)) c=true;rw[if_pos h,if_pos h,if_pos h];refine⟨(keys_map_putAt xs c u).symm,?_⟩;clear h;induction xs generalizing ts vs with
 |nil=>
   cases hv;cases ts with
   |nil=>exact⟨[],.nil,ay.nil⟩
   |cons t ts=>simp only[ay] at ha;obtain⟨_,_,e,_⟩:=ha;cases e
 |cons x xs ih=>
   rw[fS] at hv;cases hv with
   |@cons v0 u0 LF us0 r hv=>
     cases ts with
     |nil=>simp only[ay] at ha;cases ha
     |cons t0 ts=>simp only[ay] at ha;obtain⟨v',r',e,h1,h2⟩:=ha;cases e;obtain⟨ws,w1,w2⟩:=ih hv h2;simp only[fS,Mj];by_cases hc:x.1=c;refine⟨v::ws,.cons ?_ w1,ay.cons (by rw[if_pos hc];exact ht) w2⟩;unfold putAt;rw[if_pos hc];exact ru;refine⟨v0::ws,.cons ?_ w1,ay.cons (by rw[if_neg hc];exact h1) w2⟩;unfold putAt;rw[if_neg hc];exact r
 rw[if_neg h,if_neg h,if_neg h];refine⟨by simp,vs++[v],?_,ha.append (ay.cons ht ay.nil)⟩;rw[sf];exact Vals.append hv (.cons ru .nil)
end
section
variable{a:Expr}{fc:FE}
noncomputable def fCG(nh:CK->Int)(fa fb fc:FE):FP:=λρ Q=>fa ρ λx=>match x with
 |.dc nh' ks ts=>nh'=nh/\fb ρ λy=>fc ρ λz=>(y=.aQ/\Q (.vw z))\/∃c,y=C3 c/\Q (.vw ((dm ks ts c).getD z))
 |_=>False
theorem OH(hu:X.A.units+3<cLine)(ha:VR X Z a fa)(hb:VR X Z b fb)(hc:VE X Z c fc)(m:M2 X a "get" apos b c aN):VP X Z (.Call (.Attribute a "get" apos) [b,c] [] aN) (fCG (bp X.prog X.w) fa fb fc):=.mk λtm=>PE.weak (Ff hu (ha tm) (hb tm) (hc tm) m) λσ H Q ⟨ρ,O,q,I,hf,k⟩ =>
 ⟨ρ,O,_,I,hf,λx hx v H1 s1 a1=>by
  split at hx
  rename_i nh ks ts
  obtain⟨rfl,hx⟩:=hx;obtain⟨l,xs,vs,rfl,hd,ek,nm,hk,hv,hl⟩:=a1.dc;refine⟨l,rfl,⟨_,_,hd⟩,ρ,O,_,I.same s1,hx,λy hy w H2 s2 a2=>⟨ρ,O,_,(I.same s1).same s2,hy,λz hz u H3 s3 a3=>?_⟩⟩;have sm:aK H1 H3:=s2.trans s3;have hk3:∀x∈xs,nq X.K H3 x.1 x.2.1:=λx hx=>let ⟨d,g1,g2⟩:=hk x hx;⟨d,dD.same sm g1,dD.same sm g2⟩;refine⟨xs,sm _ _ hd,nm,hk3,?_⟩;obtain⟨rfl,hz⟩|⟨c,rfl,hz⟩:=hz
  have e:w=.aQ:=by
   obtain a2|⟨_,_,a2⟩:=a2
   simpa only[At] using a2;exact a2.elim
  exact .inl ⟨e,k _ hz _ H3 ((s1.trans s2).trans s3) ⟨((I.same s1).same s2).same s3,a3⟩⟩;obtain⟨b,rfl,kb⟩:=Fg (a2.same s3);have cg:=AD c hv (hl.same sm);refine .inr ?_;cases ea:atKey xs c with
  |none=>rw[ea] at cg;rw[ek,cg] at hz;exact⟨b,c,u,rfl,kb,by rw[ea],k _ hz _ H3 ((s1.trans s2).trans s3) ⟨((I.same s1).same s2).same s3,a3⟩⟩
  |some p=>rw[ea] at cg;obtain⟨t,v',e1,e2,e3⟩:=cg;rw[ek,e1] at hz;exact⟨b,c,v',rfl,kb,by rw[ea];exact e3,k _ hz _ H3 ((s1.trans s2).trans s3) ⟨((I.same s1).same s2).same s3,e2⟩⟩
  exact hx.elim⟩
end
section
variable{i:Expr}{ps:List jN}{pos:Pos}
noncomputable def TN(M:Mz)(nh:CK->Int)(ps:List jN)(fi fe:FE):FM:=λd ρ s=>fe ρ λt=>(∃x,s.get ps=some x)/\fi ρ λj=>∃c,j=C3 c/\bJ t=true/\(∀e∈ρ,fO e)/\∃ks ts,s.get ps=some (.dc nh ks ts)/\ts.length<16777216 /\
 d.nx (j6 M ρ (s.put ps (.dc nh (gH ks c) (c8 ks ts c t)))) (s.put ps (.dc nh (gH ks c) (c8 ks ts c t)))
theorem JS{fi:FE}(hu:X.A.units+3<cLine)(ho:PE X o (iK M.k ps))(hi:∀H0,VR X ⟨H0,[],M.Ox⟩ i fi)(he:∀H0,VE X ⟨H0,[],M.Ox⟩ e fe)(hs:swapsWith e (some (.Subscript o i eI)) pos.line X.env=pure false:=by rfl) :
  MS X M (.Assign [.Subscript o i eI] e pos) (TN M (bp X.prog X.w) ps fi fe):=⟨λpins s' σ H D J ⟨ρ,s,d,⟨⟨O,fp,F,I⟩,hp⟩,hg,Fi⟩=>by
 refine JR hu ho (hi (jl H (roots O)) []) (he (jl H (roots O)) []) hs pins s' σ H D J ⟨ρ,O,_,I,hg,λt ht v H1 s1 a1=>?_⟩;obtain⟨⟨x,hx⟩,ht⟩:=ht;obtain⟨w,_,_,_,_,ev,_,_⟩:=(F.now (I.same s1) (bu I)).mP.focus hx;obtain⟨_,hσ⟩:=cD I hp;refine⟨.ref M.a,w,hσ,ev,ρ,O,_,I.same s1,ht,λj hj w' H2 s2 a2=>?_⟩;obtain⟨c,rfl,Hh,nC,ks,ts,BV,hlen,hq⟩:=hj;have I0:=(I.same s1).same s2;have F2:=F.now I0 (bu I);have I2:=I0.rebase (Z:=zf M O H) rfl;obtain⟨w2,f',EF,hS,sub,nd,wr⟩:=F2.put (ps:=ps) I2 hp nC BV;rw[fg s2 ev] at EF;cases EF;have vY:=hS;simp only[bX] at vY;obtain⟨l,xs,vs,rfl,rfl,h3,ek,nm,hk,hv,hl⟩:=vY;obtain⟨b,rfl,kb⟩:=Fg a2;have hz:xs.length<=sizeLine:=by have e1:=hv.length;have e2:=hl.length;rw[cW] at e1;rw[sizeLine_eq];omega
 have hA:l∈roots O++(fp++M.Ox):=bK _ (cj _ (sub _ cS));refine⟨l,b,c,xs,rfl,rfl,kb,h3,λx hx=>tK.mp (hk x hx),hz,λu ru=>?_⟩;obtain⟨e1,eT,e2,e3⟩:=B9 (b:=b) (c:=c) hv hl (At.bJ Hh (a1.same s2)) ru;subst ek;refine Fi.nx _ _ σ _ (wr (y:=.dc (bp X.prog X.w) (gH (xs.map (·.1)) c) (c8 (xs.map (·.1)) ts c t)) cS ?_) hq;simp only[bX];refine⟨l,_,eT,rfl,rfl,aB,e1,nm,λx hx=>?_,e2,ay.wrote hA h3 rfl e3⟩;unfold storedH at hx;split at hx;obtain⟨y,hy,rfl⟩:=sh.mp hx;have e4:(putAt c u y).1=y.1/\(putAt c u y).2.1=y.2.1:=by unfold putAt;split<;>exact⟨rfl,rfl⟩
 rw[e4.1,e4.2];exact (hk y hy).wrote hA h3 rfl;rcases cJ.mp hx with hx|hx
 exact (hk x hx).wrote hA h3 rfl;rw[gq.mp hx];exact (tK.mpr kb).wrote hA h3 rfl⟩
end
end VT
namespace VT
open PySem PySem.Spec PyProof.Rows L2
structure rO(K:qaf)(H H':Hp)(us:qaj)(u:T)(p l:Addr):Prop where
 same:aK H H'
 tup:∃v,H' p=some (.tup [.ref l,v])/\At K H' [] u v
 new:H l=none
 lst:∃vs,H' l=some (.lst vs)/\ay K H' [] us vs
 i1:cb us=true
 i2:bJ u=true
def QC(K:qaf)(n:Nat)(G:qaj->(qaj->T->Prop)->Prop):Sp:=λvs H Q _=>∃ts Ox q,(∀a∈Ox,H a≠none)/\ay K H Ox ts vs/\ts.length=n/\G ts q /\
 ∀us u,q us u->∀p l H',rO K H H' us u p l->Q (.ref p) H'
abbrev LO:=LC->(qaj->T->Prop)->En->S->Prop
structure DpM(K:qaf)(M:Mz)(us:qaj)(u:T)(p l:Addr)(H':Hp):Prop where
 kp:∀b o,M.H0 b=some o->b∉M.rk->H' b=some o
 own:l∈M.rk\/M.H0 l=none
 tup:∃v,H' p=some (.tup [.ref l,v])/\At K H' [] u v
 lst:∃vs,H' l=some (.lst vs)/\ay K H' [] us vs
 i1:cb us=true
 i2:bJ u=true
def ZV(X:Cx)(M:Mz)(g:LO):TS:=λD σ H=>∃ρ s d dp,kB X.K M ρ s σ H/\g d dp ρ s/\Oc X.K M d D/\∀us u,dp us u->∀p l H',DpM X.K M us u p l H'->D.rt (.ref p) H'
def JT(X:Cx)(M:Mz)(st:qaq)(g:LO):Prop:=Bm (gw X st (ZV X M g))
section
variable{st:Stmt}{rest:qaq}{g:FM}{u:LO}{pos:Pos}
def LP(g:FM)(u:LO):LO:=λd dp ρ s=>g {d with nx:=u d dp} ρ s
theorem pF(h1:MS X M st g)(h2:JT X M rest u):JT X M (st::rest) (LP g u):=⟨gw.gy (bT h1.h h2.h) λD σ H ⟨ρ,s,d,dp,I,h,F,q⟩ =>
 ⟨ρ,s,{d with nx:=u d dp},I,h,⟨λρ' s' σ' H' I' h'=>⟨ρ',s',d,dp,I',h',F,q⟩,F.rt,F.bk,F.ct⟩⟩⟩
noncomputable def TQ(ps:List jN)(fe:FE):LO:=λ_ dp ρ s=>∃ys:qaj,s.get ps=some (.lst (ys.map .lf))/\cb ys=true/\fe ρ λu=>bJ u=true/\dp ys u
theorem aX.ZW{K:qaf}{H:Hp}{A:qah}:∀{ys:qaj}{vs:qak}{fp:qah},aX K H A (ys.map .lf) vs fp->ay K H A ys vs
 |[],vs,fp,h=>by simp only[Hr,aX] at h;rw[h.1];exact ay.nil
 |y::ys,vs,fp,h=>by simp only[fS,aX,bX] at h;obtain⟨v,r,f,g,rfl,rfl,⟨_,h1⟩,h2⟩:=h;exact ay.cons h1 (aX.ZW h2)
theorem JU{ps:List jN}{x1}{pos:Pos}(ho:PE X o (iK M.k ps))(he:∀H0,VE X ⟨H0,[],M.Ox⟩ e fe)(s1:starEach [o,e] X.env=(false,eval o X.env)::starEach [e] X.env:=by rfl)(s2:starEach [e] X.env=(false,eval e X.env)::starEach [] X.env:=by rfl) :
  JT X M [.Return (some (.Tuple [o,e] x1 p)) pos] (TQ ps fe):=⟨λpins s' σ H D J ⟨ρ,s,d,dp,⟨⟨O,fp,F,I⟩,hp⟩,hg,Fi,dpk⟩=>by
 obtain⟨ys,BV,ZX,hg⟩:=hg;obtain⟨w,f1,f,f2,yC,ev,S7,_⟩:=F.mP.focus BV;have vZ:=S7;simp only[bX] at vZ;obtain⟨l,xs,gP,rfl,hl,rfl,hL⟩:=vZ;obtain⟨_,hσ⟩:=cD I hp;refine i9 (sy (x5 (bf ho (bf (he (jl H (roots O)) []) cN s2) s1))) pins s' σ H D J ⟨.ref M.a,.ref l,hσ,ev,ρ,O,_,I,hg,λt ht v H1 sm a1=>⟨by rw[sizeLine_eq];simp,λp Qs=>?_⟩⟩;obtain⟨hi,hq⟩:=ht;have I0:=I.same sm;have F1:=F.now I0 (bu I);have sp:aK H1 (upd H1 p (.tup [.ref l,v])):=aC Qs;have Vq:l∈fp:=by rw[yC];simp
 refine dpk ys t hq p l _ ⟨λb o e n=>sp _ _ (F1.kp b o e n).1,F1.fr l Vq,⟨v,aB,At.bJ hi (a1.same sp)⟩,⟨xs,sp _ _ (sm _ _ hl),?_⟩,ZX,hi⟩;exact ay.bJ ZX ((hL.ZW.same sm).same sp)⟩
noncomputable def LQ(X:Cx)(k:Nat)(C:Addr)(cz:S)(GL:qaj->(T->Prop)->Prop)(g:Hp->qah->qah->Addr->LO):TS:=λD σ H=>∃ρ Ox pr t2 t3 q,aw X.K ⟨H,[],Ox⟩ [] (List.replicate X.N.length none) ρ σ H/\k<ρ.length/\ρ[0]?=some (some (pr,false))/\ρ[2]?=some (some (t2,false))/\ρ[3]?=some (some (t3,false)) /\
 bJ t2=true/\bJ t3=true/\GL [pr] q/\∀L,q L->∀H0 rk a,∃dp,g H0 rk Ox a {nx:=λ_ _=>False,rt:=λ_ _ _=>False} dp (ρ.set k (some (.pin a (S.ins C mN (wC cz L t2 t3)).t,false))) (.ins C mN (wC cz L t2 t3))/\∀us u,dp us u->∀p l H',rO X.K H H' us u p l->D.rt (.ref p) H'
theorem Fh{cz:S}{k kC:Nat}{fI:Addr}{Td:FuncData}{g:Hp->qah->qah->Addr->LO}{px pC e1 e2 e3 pc:Pos}(hN:X.N.Nodup)(hk:X.N[k]?=some x)(hx:Loc X.env.scope x)(MI:Mk X.K C fI)(FI:cn X.prog X.w X.K X.mg X.base dO kC fI Td qaB (Yh X.K C cz GL))(rI:bh (kC+1) X.A)(gI:Gl X "Machine")(mI:X.mg "Machine"=some (.ref C))(bI:Binds X.K Td qaB [])(wD:∀H0 rk Ox a,JT X ⟨H0,rk,Ox,a,k⟩ rest (g H0 rk Ox a))(h0:X.N[0]?=some ("program":Str):=by rfl)(h2:X.N[2]?=some ("most":Str):=by rfl)(h3:X.N[3]?=some ("poke":Str):=by rfl)(v0:jA X.env.scope "program":=by exact Or.inl rfl)(v2:jA X.env.scope "most":=by exact Or.inl rfl)(v3:jA X.env.scope "poke":=by exact Or.inl rfl)(s1:starEach [.Name "program" e1,.Name "most" e2,.Name "poke" e3] X.env=(false,eval (.Name "program" e1) X.env)::starEach [.Name "most" e2,.Name "poke" e3] X.env:=by rfl)(s2:starEach [.Name "most" e2,.Name "poke" e3] X.env=(false,eval (.Name "most" e2) X.env)::starEach [.Name "poke" e3] X.env:=by rfl)(s3:starEach [.Name "poke" e3] X.env=(false,eval (.Name "poke" e3) X.env)::starEach [] X.env:=by rfl)(s4:(backTo pc (starEach [.Name "most" e2,.Name "poke" e3] X.env)).any (·.1)=false:=by rfl)(hs:swapsWith (.Call (.Name "Machine" pC) [.Name "program" e1,.Name "most" e2,.Name "poke" e3] [] pc) (some (.Name x px)) p1.line X.env=pure false:=by rfl)(hf:X.fn x=true\/X.env.scope.names.lookup x=some .local:=by first|exact .inl rfl|exact .inr rfl|assumption) :
  gw X (.Assign [.Name x px] (.Call (.Name "Machine" pC) [.Name "program" e1,.Name "most" e2,.Name "poke" e3] [] pc) p1::rest) (LQ X k C cz GL g):=λpins s' σ H D J ⟨ρ,Ox,pr,t2,t3,q,I,hkl,i0,i2,i3,m2,m3,hG,kk⟩=>by
 obtain⟨_,_,_,z0,rfl,w0,rfl,a0⟩:=I.sl 0 _ i0;obtain⟨_,_,_,z2,rfl,w2,rfl,a2⟩:=I.sl 2 _ i2;obtain⟨_,_,_,z3,rfl,w3,rfl,a3⟩:=I.sl 3 _ i3;have ea:av ⟨H,[],Ox⟩ (List.replicate X.N.length none)=Ox:=by unfold av;rw[c5];rfl
 rw[ea] at a0 a2 a3;have ro:roots ((List.replicate X.N.length (none:qar)).set k none)=[]:=by
  have:(List.replicate X.N.length (none:qar)).set k none=List.replicate X.N.length none:=by
   refine Ql λi=>?_;rw[QU];split
   rename_i e;subst e;rw[zy,KY]
   rfl
  rw[this];exact c5 _
 refine bT (nY hN hk hx (sC MI FI rI gI mI bI .nil jq (bf (bN h0 v0 (by decide) (by decide)) (bf (bN h2 v2 (by decide) (by decide)) (bf (bN h3 v3 (by decide) (by decide)) cN s3) s2) s1) (by decide) s1 s4) hs hf)
  (t:=_) (u:=λD σ1 H1=>∃fp a,ZV X ⟨H1,fp,Ox,a,k⟩ (g H1 fp Ox a) D σ1 H1) (λpins s σ1 H1 D1 J1 ⟨fp,a,h⟩=>(wD H1 fp Ox a).h pins s σ1 H1 D1 J1 h) pins s' σ H D J ⟨w0,z0,w2,z2,w3,z3,λa dx na ndx eW=>?_⟩
 have nO:a∉Ox:=λz=>I.ox a z na;have s0:aK H (upd (upd H dx (.own a)) a (.ins C dx [])):=λb o e=>by rw[az (aZ e na),az (aZ e ndx)];exact e
 refine⟨a,dx,Ox,pr,w0,t2,w2,t3,w3,q,rfl,aB,nO,λb hb=>?_,(a0.more λb hb=>?_).same s0,m2,At.bJ m2 (a2.same s0),m3,At.bJ m3 (a3.same s0),hG,λL hL H1 In=>⟨rfl,?_⟩⟩;cases e:H b with
 |none=>exact absurd e (I.ox b hb)
 |some o=>rw[s0 _ _ e];simp
 rcases cT.mp hb with z|z
 exact .inr (by rw[z];exact na);exact .inl z;obtain⟨fp,hS,nd,each⟩:=In.ex;have ne:∀b∈fp,H b=none:=λb hb=>by
  rcases each b hb with z|z
  rw[z];exact na;cases e:H b with
  |none=>rfl
  |some o=>rw[s0 _ _ e] at z;cases z
 have sm:aK H H1:=λb o e=>In.fr b o (s0 _ _ e) (aZ e na);have l0:∀b∈fp,b∉Ox:=λb hb z=>I.ox b z (ne b hb);have view:At X.K H1 Ox (S.ins C mN (wC cz L t2 t3)).t (.ref a):=hS.view (λb hb=>bK _ hb) l0;obtain⟨dp,hg,hd⟩:=kk L hL H1 fp a;have J1:=(I.same sm).put (i:=k) (t:=.pin a (S.ins C mN (wC cz L t2 t3)).t) (v:=.ref a) (λp hp=>absurd hp gg) (by rw[ea];simp only[At];exact⟨trivial,view⟩);refine⟨fp,a,_,_,_,dp,⟨⟨_,fp,⟨?_,nd,λb hb=>⟨by rw[ro];simp,l0 b hb⟩,λb hb=>.inl hb,λb o e n=>⟨e,by rw[ro];simp⟩⟩,J1.rebase (Z:=⟨H,[],Ox⟩) rfl⟩,?_⟩,hg,⟨λ_ _ _ _ _ z=>z.elim,λ_ _ _ _ _ _ _ _ _ _ _ _ _ z=>z.elim,λ_ _ _ _ _ z=>z.elim,λ_ _ _ _ _ z=>z.elim⟩,λus u hu p l H' DM=>hd us u hu p l H' ⟨λb o e=>DM.kp b o (sm _ _ e) (λz=>by rw[ne b z] at e;cases e),DM.tup,?_,DM.lst,DM.i1,DM.i2⟩⟩;rw[ro];exact hS;exact zz hkl;obtain z|z:=DM.own
 exact ne l z;cases e:H l with
 |none=>rfl
 |some o=>have z':H1 l=none:=z;rw[sm _ _ e] at z';cases z'
end
section
theorem fnR{cz:S}{st:Stmt}{N:qai}{k:Nat}{G:qaj->(qaj->T->Prop)->Prop}(F:yd K x qual st f fd)(Sc:aA N ps (ah st))(hn:4=ps.length)(hN:4<=N.length)(cx:∀(bq:Value) (A:Around) (outer:List Env) (s:Shared) (H:Hp) (E:XK),bh k (A.deeper (envOfC qual (ah st) s.heap.objs.size f bq))->∀t0 t1 t2 t3 q,G [t0,t1,t2,t3] q->∃g qL,gw (eR dO P w K mg base N qual (ah st) f bq A outer s H E).nX (bw st) (LQ (eR dO P w K mg base N qual (ah st) f bq A outer s H E).nX j C cz GL g)/\j<N.length/\bJ t2=true/\bJ t3=true/\GL [t0] qL /\
    ∀L,qL L->∀H0 rk Ox a,g H0 rk Ox a {nx:=λ_ _=>False,rt:=λ_ _ _=>False} q ((some (t0,false)::some (t1,false)::some (t2,false)::some (t3,false)::List.replicate (N.length-4) none:En).set j (some (.pin a (S.ins C mN (wC cz L t2 t3)).t,false))) (.ins C mN (wC cz L t2 t3))) :
  cn P w K mg base dO (k+1) f fd ps (QC K 4 G):=by
 refine F.ok Sc (λvs H Q E h=>?_) (λbq A outer s H vs Q E hr h=>?_);obtain⟨ts,Ox,q,_,ha,hl,_⟩:=h;rw[ha.length,hl,hn];obtain⟨ts,Ox,q,ox,ha,hl,hG,kk⟩:=h
 match ts,hl with
 |[t0,t1,t2,t3],_=>obtain⟨g,qL,hP,hj,m2,m3,hL,hg⟩:=cx bq A outer s H E hr t0 t1 t2 t3 q hG;refine⟨_,hP,_,Ox,t0,t2,t3,qL,jc (N:=N) (ts:=[t0,t1,t2,t3]) hN ox ha,?_,rfl,rfl,rfl,m2,m3,hL,λL hq H0 rk a=>⟨q,hg L hq H0 rk Ox a,λus u hu p l H' D=>kk us u hu p l H' D⟩⟩;show j<(_::_::_::_::List.replicate (N.length-4) none:En).length;simp only[j9,KY];omega
end
structure Fj(K:qaf)(x qual:Str)(st:Stmt)(f:Addr)(fd:FuncData):Prop where
 ex:∃(oc:Value)(od:qar)(dV kV doc pm:Value)(an:qar)(bq ct:Value)(Bi:Array (Option Value)),
  fd=PySem.W.fnOf x qual (cV st) (bw st) (ah st) dV kV doc pm an bq ct/\K.lookup f=some ⟨oc,od,.func fd,Bi⟩/\PySem.W.codeIn K bq qual=true
 kp:PySem.W.keepIn K (.ref f)=true
section
theorem Fj.ok{st:Stmt}{N:qai}{k:Nat}(F:Fj K x qual st f fd)(S:aA N ps (ah st))(len:∀vs H Q E,sp vs H Q E->vs.length=ps.length)(cx:∀(bq:Value) (A:Around) (outer:List Env) (s:Shared) (H:Hp) (vs:qak) (Q:VK) (E:XK),bh k (A.deeper (envOfC qual (ah st) s.heap.objs.size f bq))->sp vs H Q E ->
    ∃t,gw (eR dO P w K mg base N qual (ah st) f bq A outer s H E).nX (bw st) t/\t {nx:=λ_ H'=>Q .aQ H',rt:=Q} (start N vs) H):cn P w K mg base dO (k+1) f fd ps sp:=by
 obtain⟨oc,od,dV,kV,doc,pm,an,bq,ct,Bi,rfl,lk,fH⟩:=F.ex;refine Lb lk fH S len λA outer s H vs Q E hr G_=>?_;obtain⟨t,h,q⟩:=cx bq A outer s H vs Q E hr G_;exact⟨t,h.nX,q⟩
end
section
variable{k:Nat}{G:qaj->(qaj->T->Prop)->Prop}{pos:Pos}{ds:qag}{sA:qak}{dts:qaj}
def ZY(X:Cx)(Z:Zc)(tm:qab)(f:En->(qaj->T->Prop)->Prop):TE:=λσ H Q=>∃ρ O q,aw X.K Z tm O ρ σ H/\f ρ q/\∀us u,q us u->∀p l H',rO X.K H H' us u p l->Q (.ref p) H'
def LR(X:Cx)(Z:Zc)(e:Expr)(f:En->(qaj->T->Prop)->Prop):Prop:=Bx λtm=>PE X e (ZY X Z tm f)
instance{X:Cx}{Z:Zc}{e:Expr}{f:En->(qaj->T->Prop)->Prop}:CoeFun (LR X Z e f) λ_=>∀tm,PE X e (ZY X Z tm f):=⟨λh=>Bx.h h⟩
def OI(n:Nat)(dts:qaj)(g:FA)(G:qaj->(qaj->T->Prop)->Prop):En->(qaj->T->Prop)->Prop:=λρ Q=>g ρ λts=>(ts++dts).length=n/\G (ts++dts) Q
theorem pG(F:cn X.prog X.w X.K X.mg X.base dO k f fd ps (QC X.K n G))(hr:bh k X.A)(hg:Gl X x)(hm:X.mg x=some (.ref f))(hk:PySem.W.keepIn X.K (.ref f)=true)(hb:Binds X.K fd ps ds)(hd:Vals sA ds)(hdt:∀H A,ay X.K H A dts sA)(ha:VA X Z (e::es) g)(kf:gp x:=by decide)(he:starEach (e::es) X.env=(false,eval e X.env)::starEach es X.env:=by rfl)(gN:(backTo pos (starEach es X.env)).any (·.1)=false:=by rfl) :
  LR X Z (.Call (.Name x p) (e::es) [] pos) (OI n dts g G):=.mk λtm=>PE.weak (i' F hr hg hm hk hb hd jq (ha tm) kf he gN) λσ H Q ⟨ρ,O,q,I,hf,k⟩ =>
 ⟨ρ,O,_,I,hf,λts eF vs H1 s1 a1=>by
   refine⟨ts++dts,av Z O,q,(I.same s1).xG,a1.append (hdt H1 _),eF.1,eF.2,λus u hu p l H' D=>k us u hu p l H' ⟨s1.trans D.same,D.tup,?_,D.lst,D.i1,D.i2⟩⟩;cases z:H l with
   |none=>rfl
   |some o=>have:=D.new;rw[s1 _ _ z] at this;cases this⟩
theorem rO.at{tm:qab}{us:qaj}{u:T}{p l:Addr}(I:aw K Z tm O ρ σ H)(D:rO K H H' us u p l):At K H' (av Z O) (.tup [.lst us,u]) (.ref p):=by obtain⟨v,h1,h2⟩:=D.tup;obtain⟨vs,h3,h4⟩:=D.lst;refine cf (dD.of h1) (ay.cons ?_ (ay.cons (At.bJ D.i2 h2) ay.nil));simp only[At];exact⟨l,vs,rfl,.inl ⟨.inl h3,λz=>I.xG _ z D.new⟩,ay.bJ D.i1 h4⟩
def TR(f:En->(qaj->T->Prop)->Prop):FP:=λρ Q=>f ρ λus u=>Q (.vw (.tup [.lst us,u]))
theorem LR.vp{f:En->(qaj->T->Prop)->Prop}(h:LR X Z e f):VP X Z e (TR f):=.mk λtm=>PE.weak (h tm) λσ H Q ⟨ρ,O,q,I,hf,k⟩ =>
 ⟨ρ,O,λus u=>q (.vw (.tup [.lst us,u])),I,hf,λus u hu p l H' D=>k _ hu _ H' D.same ⟨I.same D.same,D.at I⟩⟩
theorem Fl{f:En->(qaj->T->Prop)->Prop}{pos:Pos}(h:LR X Z e f):gw X [.Return (some e) pos] (λD σ H=>∃ρ O q,aw X.K Z [] O ρ σ H/\f ρ q/\∀us u,q us u->∀p l H',rO X.K H H' us u p l->D.rt (.ref p) H') :=
 i9 (sy (h []))
end
section
theorem Yi{st:Stmt}{N:qai}{k:Nat}{G:qaj->(qaj->T->Prop)->Prop}(F:Fj K x qual st f fd)(S:aA N ps (ah st))(hn:n=ps.length)(hN:n<=N.length)(cx:∀(bq:Value) (A:Around) (outer:List Env) (s:Shared) (H:Hp) (E:XK) (Ox:qah),bh k (A.deeper (envOfC qual (ah st) s.heap.objs.size f bq))->∀ts q,G ts q->ts.length=n->∃e pos f',bw st=[.Return (some e) pos]/\LR (eR dO P w K mg base N qual (ah st) f bq A outer s H E).nX ⟨H,[],Ox⟩ e f'/\f' (ts.map (λt=>some (t,false))++List.replicate (N.length-ts.length) none) q) :
  cn P w K mg base dO (k+1) f fd ps (QC K n G):=by
 refine F.ok S (λvs H Q E h=>?_) (λbq A outer s H vs Q E hr h=>?_);obtain⟨ts,Ox,q,_,ha,hl,_⟩:=h;rw[ha.length,hl,hn];obtain⟨ts,Ox,q,ox,ha,hl,hG,kk⟩:=h;obtain⟨e,pos,f',hb,hV,hf⟩:=cx bq A outer s H E Ox hr ts q hG hl;rw[hb];exact⟨_,Fl hV,_,_,q,jc (by omega) ox ha,hf,kk⟩
end
structure Hd(K:qaf)(Z:Zc)(i:Nat)(tm:qab)(p l:Addr)(O:HD)(ρ:En)(σ:St)(H:Hp):Prop where
 I:aw K ⟨jl H (roots O),[],l::Z.Ox⟩ tm O ρ σ H
 hi:ρ[i]?=some (some (.ob p,false))
 hp:∃v,H p=some (.tup [.ref l,v])
 hl:∃vs,H l=some (.lst vs)
 kp:∀b o,Z.H0 b=some o->H b=some o/\b∉roots O/\b≠l
 lO:l∉Z.Ox
section
variable{tm:qab}{p l:Addr}{O':HD}{ρ':En}{σ':St}{as:qah}
theorem Hd.out(h:Hd K Z i tm p l O ρ σ H)(hP:Z.P=[])(J:aw K ⟨jl H (roots O),[],as++l::Z.Ox⟩ tm O' ρ' σ' H'):aw K ⟨Z.H0,Z.P,as++Z.Ox⟩ tm O' ρ' σ' H':=by
 have sub:∀b∈av ⟨Z.H0,Z.P,as++Z.Ox⟩ O',b∈av ⟨jl H (roots O),[],as++l::Z.Ox⟩ O':=λb hb=>by
  rcases cJ.mp hb with z|z
  exact cj _ z;rcases cJ.mp z with z|z
  exact bK _ (cj _ z);exact bK _ (bK _ (d_ _ z))
 refine⟨J.lσ,J.lO,λj e q=>?_,J.nd,λb hb=>?_,(λq hq=>by rw[hP] at hq;cases hq),λb hb=>J.ox b ?_,λb o e _=>?_,λq hq=>(J.mD q hq).aR sub⟩;obtain⟨o,s,h1,h2,h3⟩:=J.sl j e q;exact⟨o,s,h1,h2,h3.map (λ_ _ q=>q.aR sub) λ_ _ _ q=>q.aR sub⟩;obtain⟨h1,h2,h3⟩:=J.own b hb;refine⟨.inr ?_,λz=>h2 ?_,h3⟩;cases e:Z.H0 b with
 |none=>rfl
 |some o=>
  exfalso;obtain⟨k1,k2,_⟩:=h.kp b o e;obtain z|z:=h1
  cases z;rcases vX z with z|z
  exact k2 z;rw[k1] at z;cases z
 rcases cJ.mp z with z|z
 exact cj _ z;exact bK _ (d_ _ z);rcases cJ.mp hb with z|z
 exact cj _ z;exact bK _ (d_ _ z);obtain⟨k1,k2,_⟩:=h.kp b o e;exact J.keep b o (by show jl H (roots O) b=_;rw[Am k2];exact k1) (by simp)
end
def ZZ(X:Cx)(Z:Zc)(i:Nat)(tm:qab)(g:Addr->FS):TS:=λD σ H=>∃ρ O d p l,Hd X.K Z i tm p l O ρ σ H/\g p d ρ/\Fin X.K Z tm d D
def OJ(X:Cx)(Z:Zc)(i:Nat)(st:qaq)(g:Addr->FS):Prop:=Bx λtm=>gw X st (ZZ X Z i tm g)
instance{X:Cx}{Z:Zc}{i:Nat}{st:qaq}{g:Addr->FS}:CoeFun (OJ X Z i st g) λ_=>∀tm,gw X st (ZZ X Z i tm g):=⟨λh=>Bx.h h⟩
section
variable{st:Stmt}{rest:qaq}{g:FS}{u:Addr->FS}{pos:Pos}
def Yj(i:Nat)(g:FS):Addr->FS:=λ_ d ρ=>g d (ρ.set i none)
def TU(i:Nat)(f:En->(qaj->T->Prop)->Prop)(fc:FB)(gr:FS)(u:Addr->FS):FS:=λd ρ=>f ρ λus w=>i<ρ.length/\fc (ρ.set i (some (.tup [.lst us,w],false))) λb=>if b=true then gr {d with nx:=λ_=>False} (ρ.set i (some (.tup [.lst us,w],false))) else ∀p,u p d (ρ.set i (some (.ob p,false)))
theorem Fm{rb:qaq}{f:En->(qaj->T->Prop)->Prop}{fc:FB}{gr:FS}{px p2:Pos}(hP:Z.P=[])(hN:X.N.Nodup)(hi:X.N[i]?=some x)(hx:Loc X.env.scope x)(he:LR X Z e f)(hc:VC X Z c fc)(hr:mG X Z rb gr)(wD:OJ X Z i rest u)(hs:swapsWith e (some (.Name x px)) p1.line X.env=pure false:=by rfl)(hf:X.fn x=true\/X.env.scope.names.lookup x=some .local:=by first|exact .inl rfl|exact .inr rfl|assumption) :
  mG X Z (.Assign [.Name x px] e p1::.If c rb [] p2::rest) (TU i f fc gr u):=.mk λtm=>
 gw.gy (bT (nY hN hi hx (he tm) hs hf) (bT (Di (hc tm) (hr tm) su) (wD tm))) λD σ H ⟨ρ,O,d,I,q,F⟩=>by
  have Z0:bE Z i:=λp hp=>by rw[hP] at hp;cases hp
  refine⟨ρ,O,_,I,q,λus w Bl p l H1 DD=>?_⟩;obtain⟨hil,hq⟩:=Bl;have I1:aw X.K Z tm (O.set i none) (ρ.set i (some (.tup [.lst us,w],false))) (σ.set i (some (.ref p))) H1:=(I.same DD.same).put Z0 (DD.at I);show lB X Z tm fc (σ.set i (some (.ref p))) H1 _;refine⟨_,_,_,I1,hq,λb BF H2 s2=>?_⟩;cases b with
  |true=>rw[if_pos rfl] at BF ⊢;exact⟨_,_,_,I1.same s2,BF,⟨λ_ _ _ _ _ h'=>h'.elim,F.rt,F.bk,F.ct⟩⟩
  |false=>
    rw[if_neg eh] at BF ⊢;have sH:aK H H2:=DD.same.trans s2;obtain⟨v,h1,_⟩:=DD.tup;obtain⟨vs,h3,_⟩:=DD.lst;have I2:aw X.K Z tm (O.set i none) (ρ.set i (some (.ob p,false))) (σ.set i (some (.ref p))) H2:=(I.same sH).put Z0 (by simp only[At]);have fresh:∀a∈l::av Z O,a∈av Z O\/H a=none:=λa ha=>by
     rcases cT.mp ha with z|z
     exact .inr (by rw[z];exact DD.new);exact .inl z
    have OK:∀b∈av ⟨Z.H0,Z.P,l::Z.Ox⟩ O,b∈l::av Z O:=λb hb=>by
     rcases cJ.mp hb with z|z
     exact d_ _ (cj _ z);rcases cT.mp z with z|z
     rw[z];exact cS;exact d_ _ (bK _ z)
    have lO:l∉Z.Ox:=λz=>I.ox l z DD.new;have nlr:l∉roots O:=λz=>I.xG l (cj _ z) DD.new;have Ix:aw X.K ⟨Z.H0,Z.P,l::Z.Ox⟩ tm O ρ σ H2:=by
     refine⟨I.lσ,I.lO,λj e hj=>?_,I.nd,λb hb=>?_,I.par,λb hb=>?_,λb o e n=>sH _ _ (I.keep b o e n),λq hq=>?_⟩;obtain⟨o,s,r1,r2,r3⟩:=I.sl j e hj;refine⟨o,s,r1,r2,(r3.map (A':=av ⟨Z.H0,Z.P,l::Z.Ox⟩ O) (H':=H2) (λ_ _ q=>((q.more fresh).same sH).aR OK) λa t _ q=>?_)⟩;obtain⟨u0,e0,_⟩:=q.mut;exact q.map (by rw[e0];exact sH _ _ e0) λ_ _ q=>((q.more fresh).same sH).aR OK;obtain⟨y1,y2,u0,y3,y4⟩:=I.own b hb;refine⟨y1,λz=>?_,u0,sH _ _ y3,y4⟩;rcases cT.mp z with z|z
     exact nlr (by rw[<- z];exact hb);exact y2 z;rcases cT.mp hb with z|z
     rw[z,s2 _ _ h3];simp;exact (I.same sH).ox b z;exact (((I.mD q hq).more fresh).same sH).aR OK
    have Iy:=(Ix.put (i:=i) (t:=.ob p) (v:=.ref p) (by rw[hP];exact λp hp=>absurd hp gg) (by simp only[At])).rebase (Z:=⟨Z.H0,Z.P,l::Z.Ox⟩) hP;refine⟨_,_,d,p,l,⟨Iy,zz hil,⟨v,s2 _ _ h1⟩,⟨vs,s2 _ _ h3⟩,λb o e=>?_,lO⟩,BF p,F⟩;have eb:=I.keep b o e (by rw[hP];simp);refine⟨sH _ _ eb,λz=>?_,λz=>by rw[z,DD.new] at eb;cases eb⟩;have z':=bF i b z;rcases (I.own b z').1 with y|y
    rw[hP] at y;cases y;rw[e] at y;cases y
end
end VT
namespace VT
open PySem PySem.Spec PyProof.Rows L2
open AutoSeq1 (wpAny_loadPart')
theorem B_(b:Addr)(xs:Array Value)(m:Nat)(dq:qar)(sq:Array (Option Value)) :
  Meets (Builtin.«enumerate.__new__» ⟨[.type "enumerate",.ref b],[]⟩) (λ_ R s=>s.heap.get? b=some ⟨.type "tuple",dq,.seq xs m,sq⟩ /\
   R (.ok (.ret (.ref (s.heap.push {cls:=.type "tuple_iterator",data:=.fields #[.ref b,.int 0 0]}).objs.size)))
    {s with heap:=(s.heap.push {cls:=.type "tuple_iterator",data:=.fields #[.ref b,.int 0 0]}).push ⟨.type "enumerate",none,.fields #[.none,.bool false,.ref s.heap.objs.size,rawInt 0,.none,.none],#[]⟩}) :=
 .of_wp λprog w A R s ⟨hb,k⟩=>by
  obtain⟨h0,g0,d0,t0,os0⟩:=s;have Xr:=sub_enumerate;have hT:Heap.IsTuple (Shared.heap ⟨h0,g0,d0,t0,os0⟩) b xs:=⟨_,hb,rfl,m,rfl⟩
  wp_walk using wpAny_loadPart' hb
  refine wpAny_stack_any λst=>wpAny_pure ?_;split
  rename_i c _ _ _ _ _
  cases (c==Value.type "enumerate")<;>(wp_walk using wpAny_loadPart' hb,wpAny_pyIter_tuple hT)<;>exact⟨_,rfl,k⟩
  wp_walk using wpAny_loadPart' hb,wpAny_pyIter_tuple hT
  exact⟨_,rfl,k⟩
section
variable{s:Shared}
theorem Fp{b:Addr}{xs:Array Value}(hT:s.heap.IsTuple b xs)(k:∀h',IsEnum h' (s.heap.objs.size+1) s.heap.objs.size 0 .none->h'.IsTupleIter s.heap.objs.size b 0->(∀c o,s.heap.get? c=some o->h'.get? c=some o)->Q (.ref (s.heap.objs.size+1)) {s with heap:=h'}) :
  wpAny (model prog w) A (call (.type "enumerate") [.ref b]) Q E s:=by
 obtain⟨⟨c,dq,dt,sq⟩,hb,hc,m,hd⟩:=hT;have e1:c=.type "tuple":=hc;have e2:dt=.seq xs m:=hd;subst e1 e2;refine callType_new F.called_enumerate (by decide) (F.typeCall_enumerate_1 _) (F.newCall_enumerate_1 _) (λobj=>F.args_object_init_2 obj _) F.entry_enumerate_new (B_ b xs m dq sq) ⟨hb,?_⟩;have z1:(s.heap.push {cls:=.type "tuple_iterator",data:=.fields #[.ref b,.int 0 0]}).objs.size=s.heap.objs.size+1:=C9 ..;have z2:IsEnum ((s.heap.push {cls:=.type "tuple_iterator",data:=.fields #[.ref b,.int 0 0]}).push ⟨.type "enumerate",none,.fields #[.none,.bool false,.ref s.heap.objs.size,rawInt 0,.none,.none],#[]⟩) (s.heap.objs.size+1) s.heap.objs.size 0 .none:=by rw[<- z1];exact k6 _ rfl
 show _/\_;rw[z1];exact⟨⟨_,z2,rfl⟩,k _ z2 ⟨_,fE _ (k6 _ rfl),rfl,rfl⟩ λc o q=>fE _ (fE _ q)⟩
theorem yL{j b:Addr}{xs:Array Value}{y:Value}(hj:s.heap.IsTupleIter j b n)(hb:s.heap.IsTuple b xs)(hy:xs[n]?=some y)(k:∀h',h'.IsTupleIter j b (n+1)->Heap.SameBut j s.heap h'->Q y {s with heap:=h'}):wpAny (model prog w) A (Builtin.SmallTypes.nextOf (.ref j)) Q E s:=by obtain⟨u,g1,g2,g3⟩:=id hj;obtain⟨v,f1,_,q,f2⟩:=hb;unfold Builtin.SmallTypes.nextOf;refine wpAny_bind (wpAny_callSpecial?_slot (name:=Str.ofString "__next__") hj.typeIs KR (wpAny_call_entry KR hj.typeIs UK ?_ (UJ _)));show wpAny _ _ (field (.ref j) 0 >>= _) _ _ s;refine wpAny_bind (wpAny_field g1 g3 (x:=.ref b) rfl ?_);show wpAny _ _ (if (Value.ref b==Value.none)=true then _ else _) _ _ s;rw[if_neg (show ¬ ((Value.ref b==Value.none)=true) from eh)];show wpAny _ _ (field (.ref j) 1 >>= _) _ _ s;refine wpAny_bind (wpAny_field g1 g3 (x:=.int n 0) rfl ?_);show wpAny _ _ (seqItems? (.ref b) >>= _) _ _ s;refine wpAny_bind (wpAny_seqItems f1 f2 ?_);simp only[A2,hy];refine wpAny_bind (wpAny_setField g1 g3 (by simp) (wpAny_pure ⟨y,rfl,wpAny_pure (k _ ⟨_,Heap.get?_update_self _ g1 (Obj.isFreed_of_fields (UY g3 _)),(Obj.cls_mapFields ..).trans g2,by rw[UY g3];simp[rawInt]⟩ (UW ..))⟩))
theorem rP{j b:Addr}{xs:Array Value}(hh:A.handled=none)(hj:s.heap.IsTupleIter j b n)(hb:s.heap.IsTuple b xs)(hy:xs[n]?=none)(k:∀h' e,Heap.ExtBut j s.heap h'->(∃o,h'.get? e=some o/\o.cls=.type "StopIteration")->E (.ref e) {s with heap:=h'}):wpAny (model prog w) A (Builtin.SmallTypes.nextOf (.ref j)) Q E s:=by
 obtain⟨u,g1,g2,g3⟩:=id hj;obtain⟨v,f1,_,q,f2⟩:=hb;unfold Builtin.SmallTypes.nextOf;refine wpAny_bind (wpAny_callSpecial?_slot (name:=Str.ofString "__next__") hj.typeIs KR (wpAny_call_entry KR hj.typeIs UK ?_ (UJ _)));show wpAny _ _ (field (.ref j) 0 >>= _) _ _ s;refine wpAny_bind (wpAny_field g1 g3 (x:=.ref b) rfl ?_);show wpAny _ _ (if (Value.ref b==Value.none)=true then _ else _) _ _ s;rw[if_neg (show ¬ ((Value.ref b==Value.none)=true) from eh)];show wpAny _ _ (field (.ref j) 1 >>= _) _ _ s;refine wpAny_bind (wpAny_field g1 g3 (x:=.int n 0) rfl ?_);show wpAny _ _ (seqItems? (.ref b) >>= _) _ _ s;refine wpAny_bind (wpAny_seqItems f1 f2 ?_);simp only[A2,hy];refine wpAny_bind (wpAny_rule (wpAny_bind (wpAny_setField g1 g3 (by simp) ?_)));show wpAny _ _ (newExc (.type "StopIteration") [] >>= _) _ _ _;refine wpAny_bind ?_;simp only[newExc,newTuple];refine wpAny_bind (wpAny_newObj_type ?_ (by size_fits));refine wpAny_bind (m:=firstArgMember _ _) (wpAny_of_eq (a:=Value.none) (by first|rfl|(simp only[firstArgMember];rfl)) ?_);refine wpAny_newObj_type ?_ (by size_fits);simp only[raiseNew];refine wpAny_bind (wpAny_handled ?_)
 first|rw[show A.in1.handled=none from hh]|rw[hh]
 exact wpAny_bind (wpAny_pure (wpAny_throw (k _ _ (((UW ..).extBut.push _).push _) ⟨_,k6 _ rfl,rfl⟩)))
end
theorem TV(hh:A.handled=none)(j b:Addr)(eW:b≠j)(xs:Array Value):Draws prog w A j [j,b] xs.size (λi v=>xs[i]?=some v) (λi h=>h.IsTupleIter j b i/\h.IsTuple b xs) where
 live:=λ_ _ st=>let ⟨o,ho,_⟩:=st.1;⟨o,ho⟩
 frame:=λ_ _ _ st hk=>⟨let ⟨o,e,r⟩:=st.1;⟨o,hk j (by simp) o e,r⟩,let ⟨o,e,r⟩:=st.2;⟨o,hk b (by simp) o e,r⟩⟩
 item:=λi s Q E hi st k=>yL st.1 st.2 (y:=xs[i]) (by simp[hi]) λh' h1 h2=>k _ h' s.toks (by simp[hi]) ⟨h1,st.2.extBut h2.extBut eW⟩ h2
 done:=λs Q E st k=>rP hh st.1 st.2 (by simp) k
theorem TX(hh:A.handled=none)(j b:Addr)(xs:Array Value)(i:Nat)(hi:xs[i]?=none):Draws prog w A j [j,b] i (λ_ _=>False) (λk h=>k=i/\h.IsTupleIter j b i/\h.IsTuple b xs) where
 live:=λ_ _ st=>let ⟨o,ho,_⟩:=st.2.1;⟨o,ho⟩
 frame:=λ_ _ _ st hk=>⟨st.1,let ⟨o,e,r⟩:=st.2.1;⟨o,hk j (by simp) o e,r⟩,let ⟨o,e,r⟩:=st.2.2;⟨o,hk b (by simp) o e,r⟩⟩
 item:=λk s Q E hk st _=>absurd st.1 (j4 hk)
 done:=λs Q E st k=>rP hh st.2.1 st.2.2 hi k
def OL(K:qaf)(a:Addr):It :=
 ⟨λi H=>∃xs x,dD K H a xs/\xs[i]?=some x,λi H v H'=>∃t x,H t=none/\v=.ref t/\(∀xs,dD K H a xs->xs[i]?=some x)/\H'=upd H t (.tup [.int (i:Int),x]),λi H=>∃xs,dD K H a xs/\xs.length<=i⟩
theorem yM{x1}(a e it:Addr)(eW:e≠it)(hea:e≠a)(hai:a≠it) :
  Turn P w K (.Tuple elts x1 tp) (OL K a) [e,it] e (λi h=>(∃old,IsEnum h e it (i:Int) old)/\h.IsTupleIter it a i) where
 mem:=by simp
 obj:=λi h st b hb=>by
  obtain⟨⟨old,h1⟩,o,h2,c,d⟩:=st;rcases cT.mp hb with z|z
  subst z;exact⟨_,h1,λv z=>by cases z⟩;have z':b=it:=by simpa using z
  subst z';exact⟨o,h2,λv z=>by rw[d] at z;cases z⟩
 keep:=λi h h' st k=>by obtain⟨⟨old,h1⟩,o,e2,r⟩:=st;exact⟨⟨old,k e (by simp) _ h1⟩,o,k it (by simp) o e2,r⟩
 item:=by
  intro X hP hw hK hc i pins s σ H E I hf st hg;subst hP hw hK;obtain⟨xs,x,hq,hx⟩:=hg;obtain⟨aM,rv,p,hz⟩:=I.tuple hq;obtain⟨u,hu,ru⟩:=rv.get hx;obtain⟨⟨old,h1⟩,uS⟩:=st;have hi:i<aM.toArray.size:=by simp;exact (fG.mp hu).1
  refine wpAny_pyNext_enum_itemD (TV (show X.A.in1.handled=none from I.ok.hd hc) it a hai aM.toArray) h1 ⟨uS,p⟩ hi eW (by simp[eW,hea]) λu' h₁ tk hP G8 Nn WY CZ WZ=>?_;have eu:u'=u:=by
   have R3:aM[i]?=some u':=by simpa using hP
   rw[hu] at R3;exact (Option.some.inj R3).symm
  subst eu;refine⟨_,rfl,wpAny_letOwnedTupleGo_enum G8 λh₂ W0 ou=>?_⟩;have ki:Heap.SameBut e h₁ h₂:=ou;have gQ:e<s.heap.objs.size:=fF h1;have R5:s.heap.objs.size≠e:=CS gQ;have kk:∀b ob,b∉[e,it]->s.heap.get? b=some ob->h₂.get? b=some ob:=λb ob hb q=>by have A6:b≠e:=λz=>hb (by simp[z]);exact (ki.2 b A6).trans (WZ b ob A6 (λz=>hb (by simp[z])) q)
  have new:cc X.prog X.w (upd H s.heap.objs.size (.tup [.int (i:Int),x])) h₂ s.heap.objs.size (.tup [.int (i:Int),x]) :=
   ⟨by show 2<=sizeLine;rw[sizeLine_eq];decide,[.int i tk,u'],.cons ⟨_,rfl⟩ (.cons ru .nil),⟨_,(ki.2 _ R5).trans WY,rfl,_,rfl⟩⟩
  refine⟨.ref s.heap.objs.size,upd H s.heap.objs.size (.tup [.int (i:Int),x]),I.grown (t':=tk+1) kk hf (cU _) new,rfl,⟨_,x,I.fresh,rfl,λys hy=>by rw[I.i8 hy hq];exact hx,rfl⟩,⟨⟨u',?_⟩,?_⟩,λb hb=>?_⟩;have:((i:Int)+1)=((i+1:Nat):Int):=by omega
  rw[<- this];exact W0;obtain⟨⟨o,q,r⟩,_⟩:=Nn;exact⟨o,(ki.2 it (Ne.symm eW)).trans q,r⟩;have Bt:b<s.heap.objs.size:=by
   rcases cT.mp hb with z|z
   subst z;exact gQ;have z':b=it:=by simpa using z
   subst z';obtain⟨o,q,_⟩:=uS;exact fF q
  rw[az (j4 Bt)];exact (hf b hb).1
 done:=by intro X hP hw hK hc i pins s σ H E I hf st hg;subst hP hw hK;obtain⟨xs,hq,hx⟩:=hg;obtain⟨aM,rv,p,hz⟩:=I.tuple hq;have hl:=rv.length;obtain⟨⟨old,h1⟩,uS⟩:=st;obtain⟨f0,f1,f2,f3,f4,f5⟩:=hf it (by simp);exact wpAny_pyNext_enum_endD (TX (show X.A.in1.handled=none from I.ok.hd hc) it a aM.toArray i (by simp;omega)) h1 ⟨rfl,uS,p⟩ λh' eb=>⟨rfl,I.turned (t':=s.toks) (λb o hb q=>eb b o hb q) f0 f1 f3 f4 f5⟩
 self:=λ_ _ _ _ _ st h=>by obtain⟨⟨old,h1⟩,_⟩:=st;exact wpAny_pyIter_enum h1 h
section
def OM(K:qaf)(ta:TA):TI:=λσ H R=>ta σ H λvs H1=>∃a,vs=[.ref a]/\(∃xs,dD K H1 a xs)/\R (OL K a) H1
theorem Fq{x1}{a:Expr}{ta:TA}{pos:Pos}(hg:Gl X "enumerate")(hm:X.mg "enumerate"=none)(ha:PA X [a] ta)(hs:starEach [a] X.env=[(false,eval a X.env)]:=by rfl) :
  PI X (.Tuple elts x1 tp) (.Call (.Name "enumerate" p) [a] [] pos) (OM X.K ta):=by
 intro pins s σ H R I h;refine Call_ (ix I hg hm L2.boot_enumerate (Qf (bY (ha pos pins s σ H _ I h) λus s1 ⟨vs,H1,I1,r1,q1⟩=>?_) hs rfl));obtain⟨b,e,⟨xs,hq⟩,q⟩:=q1;subst e;obtain⟨u,rfl,ru⟩:=vals1 r1;cases ru;obtain⟨aM,rv,pl,hz⟩:=I1.tuple hq;have hb:b<s1.heap.objs.size:=by obtain⟨o,ho,_⟩:=pl;exact fF ho
 refine Fp pl λh' he hit hk=>wpAny_pyIter_enum he ?_;refine⟨s1.heap.objs.size+1,[s1.heap.objs.size+1,s1.heap.objs.size],_,_,H1,rfl,I1.kept (t':=s1.toks) hk,yM b _ _ (CS (C7 _)) (CS (Qj hb)) (j4 hb),⟨⟨_,he⟩,hit⟩,λc hc=>?_,q⟩;rcases cT.mp hc with z|z
 subst z;exact I1.m9 (G7 _) (I1.b_.fresh (G7 _));have z':c=s1.heap.objs.size:=by simpa using z
 subst z';exact I1.m9 (cU _) I1.fresh
end
def ON(f:FE):FI:=λρ Q=>f ρ λt=>match t with
 |.tup ts=>Q (eB ts)
 |_=>False
theorem Fs{ts:qaj}:Wk K (OL K a) [(.tup ts,.ref a)] (eB ts):=λH A hA h i=>by
 have h:=h _ cS;simp only[At] at h;obtain⟨b,vs,e,l,q⟩:=h;cases e;have hl:=q.length;have hle:(eB ts).length=ts.length:=by unfold eB;rw[List.length_mapIdx]
 rw[hle];refine⟨λhi=>⟨vs,vs[i]'(by omega),l,by simp⟩,λhi=>⟨vs,l,by omega⟩,λt ht x H' y=>?_⟩;obtain⟨p,u,hp,rfl,hu,rfl⟩:=y;unfold eB at ht;rw[UT] at ht;cases e:ts[i]? with
 |none=>rw[e] at ht;cases ht
 |some t'=>rw[e] at ht;cases ht;obtain⟨v,e1,e2⟩:=q.get e;have:=hu vs l;rw[e1] at this;cases this;exact⟨aC hp,cf (dD.of aB) (ay.cons bc (ay.cons (e2.same (aC hp)) ay.nil))⟩
theorem Ft{a:Expr}{pos:Pos}{x1}(hg:Gl X "enumerate")(hm:X.mg "enumerate"=none)(ha:VE X Z a fa)(hs:starEach [a] X.env=[(false,eval a X.env)]:=by rfl) :
  VI X Z (.Tuple elts x1 tp) (.Call (.Name "enumerate" p) [a] [] pos) (ON fa):=.mk λtm=>PI.weak (Fq hg hm (bf (ha tm) cN hs) hs) λσ H R ⟨ρ,O,q,I,hf,k⟩=>⟨ρ,O,_,I,hf,λt ht v H' s a=>by
 split at ht;have a0:=a;simp only[At] at a;obtain⟨p,vs,rfl,l,_⟩:=a;exact⟨p,rfl,⟨vs,l⟩,k _ ht _ H' _ s (λp hp=>by rw[gq.mp hp];exact a0) Fs⟩;exact ht.elim⟩
theorem AE{ds:qag}{o:Obj}{xs:Array Value}{m:Nat}(h1:fd.defaults=.ref a)(h2:K.lookup a=some o)(h3:o.data=.seq xs n)(hl:ps.length=m+ds.length)(h:∀us:qag,us.length=m->∃k,bindArgs fd ⟨us,[]⟩=seqItems? fd.defaults >>= k/\k (some xs)=pure (ps.zip (us++ds))):Binds K fd ps ds:=λs us KX e=>by obtain⟨k,e1,e2⟩:=h us (by rw[k7] at e;omega);exact BindsTo.of_defaults h1 (KX _ _ h2) h3 e1 e2
end VT
namespace Lay
open PySem L2 VT Gen K5
section
noncomputable def Z1(kd:Nat->Kd):Nat->Nat->Option Nat
 |0,_=>none
 |k+1,j=>if (kd k).el=true/\B1 kd k=some j then some k else Z1 kd k j
noncomputable def Yk(rs:qal)(j:Nat):Option Nat:=Z1 (dC rs) rs.length j
noncomputable def OQ(rs:qal)(o:Nat):Int:=match endsAt (dC rs) rs.length o with
 |some e=>(e:Int)
 |none=>0
noncomputable def Yl(rs:qal)(j:Nat):Nat:=(B1 (dC rs) j).getD 0
noncomputable def Z2(rs:qal)(j:Nat):Int:=match rs[j]? with
 |some (.EJ _)=>OQ rs j+1
 |_=>match Yk rs j with
  |none=>OQ rs j
  |some x=>(x:Int)+1
noncomputable def bhI(rs:qal)(j:Nat):Int:=match rs[j]? with
 |some .Qy=>OQ rs (Yl rs j)
 |some .fin=>match rs[Yl rs j]? with
  |some (.EJ _)=>(Yl rs j:Int)
  |_=>(j:Int)+1
 |_=>(j:Int)+1
end
end Lay
namespace BS
open PySem PySem.Builtin PyProof.Rows
def ib(x:Int)(k:Nat):Bool:=decide (x / 2 ^ k % 2=1)
def sub(y x:Int):Prop:=∀k,ib y k=true->ib x k=true
def below(m:Nat)(x:Int):Prop:=0<=x/\x<2 ^ m
def sw(B':qan):Nat->Int->Int
 |0,x=>x
 |k+1,x=>if ib (sw B' k x) k=true then bitOr (sw B' k x) (B'.getD k 0) else sw B' k x
def rounds(B':qan):Nat->Int->Int
 |0,x=>x
 |t+1,x=>sw B' B'.length (rounds B' t x)
def mem(x:Int):qao:=(List.range (Builtin.Int.intBits x)).filter (ib x)
def lst(B':qan)(x:Int):Int:=rounds B' B'.length x
end BS
namespace BS
open PySem PySem.Builtin
end BS
namespace Lay
open PySem L2 VT Gen K5 BS
open PySem.Builtin (bitOr)
end Lay
namespace S30
open PySem L2 VT Gen K5 Lay BS
open PySem.Builtin (bitOr)
def OR(a c:Nat)(f:Str)(ps:qai)(body:qal)(o:fP):qal:=List.replicate a .skip++(.df f ps::(body++(.give o::List.replicate c .skip)))
end S30
set_option exponentiation.threshold 4000
namespace Rg
open PySem L2 VT Gen K5 Lay
open ng (cK)
open j8 (Vl vT nm eC RI)
theorem mQ(h:n<=1000):n<=sizeLine:=Gen.small h
theorem yN(i:Int):RI (eC i):=by unfold RI eC;omega
theorem LS(h:n+101<cLine):n+3<cLine:=by omega
theorem Hj:RI 0:=by unfold RI;decide
theorem Ym:RI 1:=by unfold RI;decide
theorem pH{α β:Type}(f:α->β):∀(ks:List Key)(is:List α)(k:Key),bP ks (is.map f) k=(bP ks is k).map f
 |[],is,k=>by cases is<;>rfl
 |a::ks,[],k=>rfl
 |a::ks,i::is,k=>by simp only[fS,bP];split;rfl;exact pH f ks is k
theorem rQ(f:α->β)(ks:List Key)(is:List α)(k:Key)(v:α):bR ks (is.map f) k (f v)=(bR ks is k v).map f:=by
 unfold bR;split;rw[List.zipWith_map_right,List.map_zipWith]
 congr 1
 funext a b;split<;>rfl;simp
theorem me(ks:List Key)(is:List α)(k:Key)(v:α):(bR ks is k v).length<=is.length+1:=by unfold bR;split;rw[Qi];omega;simp
theorem Ca{is:List α}{k:Key}{v i:α}(h:i∈bR ks is k v):i∈is\/i=v:=by
 unfold bR at h;split at h;rw[List.mem_iff_getElem?] at h;obtain⟨j,hj⟩:=h;rw[UQ] at hj;cases e1:ks[j]? with
 |none=>rw[e1] at hj;cases hj
 |some a=>
  cases e2:is[j]? with
  |none=>rw[e1,e2] at hj;cases hj
  |some b=>rw[e1,e2] at hj;have C1:(if a=k then v else b)=i:=Option.some.inj hj;split at C1;exact .inr C1.symm;exact .inl (by rw[<- C1];exact fR e2)
 rcases cJ.mp h with z|z
 exact .inl z;exact .inr (gq.mp z)
theorem wF{α:Type}:∀{ks:List Key}{is:List α}{k:Key}{v:α},bP ks is k=some v->v∈is
 |[],is,k,v,h=>by cases is<;>cases h
 |a::ks,[],k,v,h=>by cases h
 |a::ks,i::is,k,v,h=>by simp only[bP] at h;split at h;cases h;exact cS;exact d_ _ (wF h)
structure Ev where
 ks:List Key
 is:List Vl
noncomputable def Ev.ts(e:Ev):qaj:=e.is.map vT
noncomputable def Ev.get(e:Ev)(x:Str):Vl:=(bP e.ks e.is (.inr x)).getD (.num 0)
noncomputable def Ev.put(e:Ev)(x:Str)(v:Vl):Ev:=⟨dI e.ks (.inr x),bR e.ks e.is (.inr x) v⟩
def ev0:Ev:=⟨[],[]⟩
theorem Fu(e:Ev)(x:Str):(bP e.ks e.ts (.inr x)).getD (.int 0)=vT (e.get x):=by unfold Ev.ts Ev.get;rw[pH];cases bP e.ks e.is (.inr x)<;>rfl
theorem pJ(e:Ev)(x:Str)(v:Vl):bR e.ks e.ts (.inr x) (vT v)=(e.put x v).ts:=rQ vT e.ks e.is (.inr x) v
theorem cH(v:Vl):bJ (vT v)=true:=by cases v<;>rfl
def RV(v:Vl):Prop:=RI (nm v)
structure hW(e:Ev)(n:Nat):Prop where
 n:e.is.length<=n
 ri:∀i∈e.is,RV i
theorem hW.put{e:Ev}{n:Nat}(h:hW e n)(x:Str){v:Vl}(hv:RV v):hW (e.put x v) (n+1):=by
 refine⟨?_,λi hi=>?_⟩;have:=me e.ks e.is (.inr x) v;have:=h.n;show (bR e.ks e.is (.inr x) v).length<=n+1;omega;rcases Ca hi with z|z
 exact h.ri i z;rw[z];exact hv
theorem hW.get{e:Ev}{n:Nat}(h:hW e n)(x:Str):RV (e.get x):=by
 unfold Ev.get;cases g:bP e.ks e.is (.inr x) with
 |none=>exact Hj
 |some v=>exact h.ri v (wF g)
noncomputable def look(e:Ev):fP->Vl
 |.nm x=>e.get x
 |.nu i=>.num i
def rR:fP->Prop
 |.nm x=>cK x=true/\x.length<=100
 |.nu i=>RI i
def JV:Ky->Prop
 |.fld x=>cK x=true/\x.length<=50
 |.op o=>rR o
theorem hW.look{e:Ev}(h:hW e n){o:fP}(ho:rR o):RV (look e o):=by
 cases o with
 |nm x=>exact h.get x
 |nu i=>exact ho
noncomputable def Yn(op:Str)(x y:Int):Option Int :=
 if op="plus" then some (eC (x+y)) else if op="minus" then some (eC (x-y)) else if op="times" then some (eC (x * y)) else if op="less" then some (if x<y then 1 else 0) else if op="same" then some (if x=y then 1 else 0)
 else if y=0 then none else if op="over" then some (eC (x.fdiv y)) else some (eC (x.fmod y))
noncomputable def TY(op:Str)(a b:Vl):Option Int:=if op="same" then some (if a=b then 1 else 0) else Yn op (nm a) (nm b)
theorem OS{op:Str}{x y v:Int}(h:Yn op x y=some v):RI v:=by
 unfold Yn at h
 repeat' split at h
 all_goals (cases h)
 all_goals first|exact yN _|exact Hj|exact Ym
theorem OT{op:Str}{a b:Vl}{v:Int}(h:TY op a b=some v):RI v:=by
 unfold TY at h;split at h;cases h;split<;>first|exact Hj|exact Ym
 exact OS h
noncomputable def oV:Option Vl->T
 |some v=>vT v
 |none=>.aQ
theorem yO(o:Option Vl):bJ (oV o)=true:=by cases o<;>first|rfl|exact cH _
structure Fr where
 call:Option Nat
 ev:Ev
structure Ct where
 ks:List Key
 is:qan
def Ct.ts(c:Ct):qaj:=c.is.map .int
noncomputable def Ct.get(c:Ct)(p:Nat):Int:=(bP c.ks c.is (.inl (p:Int))).getD 0
noncomputable def Ct.up(c:Ct)(p:Nat):Ct:=⟨dI c.ks (.inl (p:Int)),bR c.ks c.is (.inl (p:Int)) (c.get p+1)⟩
theorem Fv(c:Ct)(p:Nat):(bP c.ks c.ts (.inl (p:Int))).getD (.int 0)=.int (c.get p):=by unfold Ct.ts Ct.get;rw[pH];cases bP c.ks c.is (.inl (p:Int))<;>rfl
theorem TZ(c:Ct)(p:Nat):bR c.ks c.ts (.inl (p:Int)) (.int (c.get p+1))=(c.up p).ts:=rQ T.int c.ks c.is (.inl (p:Int)) (c.get p+1)
structure Ce where
 ks:List (List Key×Key)
 is:List Vl
noncomputable def Ce.ts(c:Ce):qaj:=c.is.map vT
noncomputable def Ce.get(c:Ce)(k:List Key×Key):Vl:=(dm c.ks c.is k).getD (.num 0)
noncomputable def Ce.put(c:Ce)(k:List Key×Key)(v:Vl):Ce:=⟨gH c.ks k,c8 c.ks c.is k v⟩
noncomputable def Ce.at'(c:Ce):Option (List Key×Key)->Vl
 |some k=>c.get k
 |none=>.num 0
noncomputable def Ce.Fw(c:Ce)(v:Vl):Option (List Key×Key)->Ce
 |some k=>c.put k v
 |none=>c
noncomputable def Ce.s(nh:List Key×Key->Int)(c:Ce):S:=.dc nh c.ks c.ts
theorem wG{α β:Type}(f:α->β):∀(ks:List (List Key×Key))(is:List α)(k:List Key×Key),dm ks (is.map f) k=(dm ks is k).map f
 |[],is,k=>by cases is<;>rfl
 |a::ks,[],k=>rfl
 |a::ks,i::is,k=>by simp only[fS,dm];split;rfl;exact wG f ks is k
theorem Cb(f:α->β)(ks:List (List Key×Key))(is:List α)(k:List Key×Key)(v:α):c8 ks (is.map f) k (f v)=(c8 ks is k v).map f:=by
 unfold c8;split;rw[List.zipWith_map_right,List.map_zipWith]
 congr 1
 funext a b;split<;>rfl;simp
theorem OU(c:Ce)(k:List Key×Key):(dm c.ks c.ts k).getD (.int 0)=vT (c.get k):=by unfold Ce.ts Ce.get;rw[wG];cases dm c.ks c.is k<;>rfl
theorem OW(c:Ce)(k:List Key×Key)(v:Vl):c8 c.ks c.ts k (vT v)=(c.put k v).ts:=Cb vT c.ks c.is k v
theorem Cc(ks:List (List Key×Key))(is:List α)(k:List Key×Key)(v:α):(c8 ks is k v).length<=is.length+1:=by unfold c8;split;rw[Qi];omega;simp
theorem Cd{ks:List (List Key×Key)}{is:List α}{k:List Key×Key}{v i:α}(h:i∈c8 ks is k v):i∈is\/i=v:=by
 unfold c8 at h;split at h;rw[List.mem_iff_getElem?] at h;obtain⟨j,hj⟩:=h;rw[UQ] at hj;cases e1:ks[j]? with
 |none=>rw[e1] at hj;cases hj
 |some a=>
  cases e2:is[j]? with
  |none=>rw[e1,e2] at hj;cases hj
  |some b=>rw[e1,e2] at hj;have C1:(if a=k then v else b)=i:=Option.some.inj hj;split at C1;exact .inr C1.symm;exact .inl (by rw[<- C1];exact fR e2)
 rcases cJ.mp h with z|z
 exact .inl z;exact .inr (gq.mp z)
theorem wH{α:Type}:∀{ks:List (List Key×Key)}{is:List α}{k:List Key×Key}{v:α},dm ks is k=some v->v∈is
 |[],is,k,v,h=>by cases is<;>cases h
 |a::ks,[],k,v,h=>by cases h
 |a::ks,i::is,k,v,h=>by simp only[dm] at h;split at h;cases h;exact cS;exact d_ _ (wH h)
def pK(c:Ce)(n:Nat):Prop:=c.is.length<=n/\∀v∈c.is,RV v
theorem pK.get{c:Ce}{n:Nat}(h:pK c n)(k:List Key×Key):RV (c.get k):=by
 unfold Ce.get;cases g:dm c.ks c.is k with
 |none=>exact Hj
 |some v=>exact h.2 v (wH g)
theorem pK.put{c:Ce}{n:Nat}(h:pK c n)(k:List Key×Key){v:Vl}(hv:RV v):pK (c.put k v) (n+1):=by
 refine⟨?_,λi hi=>?_⟩;have:=Cc c.ks c.is k v;have:=h.1;show (c8 c.ks c.is k v).length<=n+1;omega;rcases Cd hi with z|z
 exact h.2 i z;rw[z];exact hv
noncomputable def AF(v:Vl):T:=.tup [.str "done",vT v]
noncomputable def T1:T:=.tup [.str "fault",.str "zero"]
noncomputable def wI:T:=.tup [.str "cut",.int 0]
def T2(w:Str):T:=.tup [.str "fault",.str w]
def Fx:Ky->List fP
 |.fld _=>[]
 |.op o=>[o]
noncomputable def gJ:Rw->List fP
 |.df _ ps=>ps.map .nm
 |.put _ a=>[a]
 |.give a=>[a]
 |.Jt a=>[a]
 |.EJ a=>[a]
 |.ju _ a _ b=>[a,b]
 |.call _ _ as=>as
 |.get _ r k=>.nm r::Fx k
 |.set r k a=>.nm r::(Fx k++[a])
 |_=>[]
noncomputable def cellK(e:Ev)(r:Str)(k:Ky):Option (List Key×Key):=match e.get r with
 |.dZ p n=>some ([.inl p,.inl n],match k with
  |.fld x=>.inr (((".":String):Str)++x)
  |.op o=>.inl (nm (look e o)))
 |.num _=>none
noncomputable def Fy(e:Ev)(ce:Ce)(c:Ct)(p:Nat):Rw->Option Vl
 |.get _ r k=>some (ce.at' (cellK e r k))
 |.set _ _ a=>some (look e a)
 |.put _ a=>some (look e a)
 |.give a=>some (look e a)
 |.ju _ a op b=>(TY op (look e a) (look e b)).map .num
 |.new _=>some (.dZ p (c.get p))
 |.Jt a=>some (.num (if look e a=.num 0 then 0 else 1))
 |.EJ a=>some (.num (if look e a=.num 0 then 0 else 1))
 |_=>none
noncomputable def JW(e:Ev)(ce:Ce)(c:Ct)(p:Nat)(r:Rw):T:=.tup [.int (p:Int),.tup ((gJ r).map λo=>vT (look e o)),oV (Fy e ce c p r)]
noncomputable def bC(ps:qai)(gs:List Vl):Nat->Ev
 |0=>ev0
 |k+1=>match ps[k]? with
  |some x=>(bC ps gs k).put x (gs.getD k (.num 0))
  |none=>bC ps gs k
structure Lv where
 fs:List Fr
 f:Fr
 ce:Ce
 ct:Ct
 dn:qaj
 pl:Nat
abbrev Res:=List T×T
def nD:Rw->Bool
 |.Qy=>true
 |.fin=>true
 |.skip=>true
 |_=>false
noncomputable def AG(s:Lv)(x:Str)(v:Vl)(d:T):Lv:={s with f:={s.f with ev:=s.f.ev.put x v},dn:=s.dn++[d],pl:=s.pl+1}
noncomputable def eO(rs:qal)(r:Rw)(s:Lv):Lv ⊕ Res :=
 let e:=s.f.ev
 let d:=JW e s.ce s.ct s.pl r
 match r with
 |.df _ _=>.inl {s with dn:=s.dn++[d],pl:=s.pl+1}
 |.put x a=>.inl (AG s x (look e a) d)
 |.ju x a op b=>match TY op (look e a) (look e b) with
  |none=>.inr (s.dn++[d],T1)
  |some v=>.inl (AG s x (.num v) d)
 |.new x=>.inl (AG {s with ct:=s.ct.up s.pl} x (.dZ s.pl (s.ct.get s.pl)) d)
 |.Jt a=>.inl {s with dn:=s.dn++[d],pl:=if look e a=.num 0 then (Z2 rs s.pl).toNat else s.pl+1}
 |.EJ a=>.inl {s with dn:=s.dn++[d],pl:=if look e a=.num 0 then (Z2 rs s.pl).toNat else s.pl+1}
 |.get x r k=>.inl (AG s x (s.ce.at' (cellK e r k)) d)
 |.set r k a=>.inl {s with ce:=s.ce.Fw (look e a) (cellK e r k),dn:=s.dn++[d],pl:=s.pl+1}
 |.fail w=>.inr (s.dn++[d],T2 w)
 |.give a=>match s.f.call,s.fs.getLast? with
  |some c,some g=>match rs[c]? with
   |some (.call x _ _)=>.inl {fs:=s.fs.dropLast,f:={g with ev:=g.ev.put x (look e a)},ce:=s.ce,ct:=s.ct,dn:=s.dn++[d],pl:=c+1}
   |_=>.inr (s.dn,wI)
  |_,_=>.inr (s.dn++[d],AF (look e a))
 |.call _ g as=>match Hi (bz rs rs.length) g with
  |some p=>match rs[p]? with
   |some (.df _ ps)=>.inl {fs:=s.fs++[s.f],f:=⟨some s.pl,bC ps (as.map (look e)) ps.length⟩,ce:=s.ce,ct:=s.ct,dn:=s.dn++[d],pl:=p}
   |_=>.inr (s.dn,wI)
  |none=>.inr (s.dn,wI)
 |_=>.inr (s.dn,wI)
noncomputable def jx(rs:qal)(most:Nat)(s:Lv):Lv ⊕ Res:=match rs[s.pl]? with
 |none=>.inr (s.dn,wI)
 |some r=>if nD r=true then .inl {s with pl:=(bhI rs s.pl).toNat} else if most<=s.dn.length then .inr (s.dn,wI) else eO rs r s
noncomputable def uH(cF:Addr)(f:Fr):S:=.ins cF qaC [.lf (oT f.call),.dk f.ev.ks f.ev.ts]
noncomputable def T3(cF:Addr)(f:Fr):T:=.ins cF qaC [oT f.call,.dk f.ev.ks f.ev.ts]
noncomputable def eE(cM cF:Addr)(L:T)(most:Int)(pk:T)(fr:List Fr)(ce:S)(ct:Ct)(dn:qaj)(pl en:T):S:=.ins cM mN [.lf L,.lf (.int most),.lf pk,.lst (fr.map (uH cF)),ce,.dk ct.ks ct.ts,.lst (dn.map .lf),.lf pl,.lf en]
noncomputable def QD(cM cF:Addr)(L:T)(most:Int)(pk:T)(fr:List Fr)(ce:S)(ct:Ct)(dn:qaj)(pl en:T):T:=.ins cM mN [L,.int most,pk,.lst (fr.map (T3 cF)),ce.t,.dk ct.ks ct.ts,.lst dn,pl,en]
theorem LU(cF:Addr):∀fr:List Fr,S.ts (fr.map (uH cF))=fr.map (T3 cF)
 |[]=>by simp[S.ts]
 |e::fr=>by simp[S.ts,LU cF fr,uH,T3,S.t]
theorem LV:∀dn:qaj,S.ts (dn.map .lf)=dn
 |[]=>by simp[S.ts]
 |e::fr=>by simp[S.ts,LV fr,S.t]
section
variable{cM cF:Addr}{L:T}{most:Int}{pk:T}{fr fs:List Fr}{f:Fr}{ce:S}{ct:Ct}{dn:qaj}{pl en:T}
theorem ip:(eE cM cF L most pk fr ce ct dn pl en).t=QD cM cF L most pk fr ce ct dn pl en:=by unfold eE QD;simp only[S.t,S.ts,LU,LV]
theorem LW(C:Addr)(f:Str)(ns:qai)(xs:List S):(S.ins C ns xs).SY (.fld C f)=jO f ns:=by show (if C=C then jO f ns else none)=_;rw[if_pos rfl]
theorem rS{f:Str}{ns:qai}{xs:List S}{x:S}{ps:List jN}(h1:jO f ns=some i)(h2:xs[i]?=some x):(S.ins C ns xs).get (.fld C f::ps)=x.get ps:=by rw[S.get,LW,h1];show (match xs[i]? with|some x=>x.get ps|none=>none)=_;rw[h2]
theorem rT{f:Str}{ns:qai}{xs:List S}{x y:S}{ps:List jN}(h1:jO f ns=some i)(h2:xs[i]?=some x):(S.ins C ns xs).put (.fld C f::ps) y=.ins C ns (xs.set i (x.put ps y)):=by rw[S.put,LW,h1];show (match xs[i]? with|some x=>S.ins C ns (xs.set i (x.put ps y))|none=>_)=_;rw[h2]
theorem LX(xs:List S)(x:S):(S.lst (xs++[x])).SY .last=some xs.length:=by show (if 0<(xs++[x]).length then some ((xs++[x]).length-1) else none)=_;rw[if_pos (by simp)];simp
theorem T4{xs:List S}{x:S}{ps:List jN}:(S.lst (xs++[x])).get (.last::ps)=x.get ps:=by rw[S.get,LX];show (match (xs++[x])[xs.length]? with|some x=>x.get ps|none=>none)=_;rw[uI (cU _),Nat.sub_self];rfl
theorem T5{xs:List S}{x y:S}{ps:List jN}:(S.lst (xs++[x])).put (.last::ps) y=.lst (xs++[x.put ps y]):=by rw[S.put,LX];show (match (xs++[x])[xs.length]? with|some z=>S.lst ((xs++[x]).set xs.length (z.put ps y))|none=>S.lst (xs++[x]))=_;rw[uI (cU _),Nat.sub_self];show S.lst ((xs++[x]).set xs.length (x.put ps y))=_;rw[List.set_append_right _ _ (cU _),Nat.sub_self];rfl
theorem wJ(s:S):s.get []=some s:=by cases s<;>rfl
theorem wK(s y:S):s.put [] y=y:=by cases s<;>rfl
theorem Fz:(eE cM cF L most pk fr ce ct dn pl en).get [.fld cM "frames"]=some (.lst (fr.map (uH cF))):=by unfold eE;rw[rS (i:=3) rfl rfl,wJ]
theorem FC{fr':List Fr}:(eE cM cF L most pk fr ce ct dn pl en).put [.fld cM "frames"] (.lst (fr'.map (uH cF)))=eE cM cF L most pk fr' ce ct dn pl en:=by unfold eE;rw[rT (i:=3) rfl rfl,wK];rfl
theorem FD:(eE cM cF L most pk fr ce ct dn pl en).get [.fld cM "cells"]=some ce:=by unfold eE;rw[rS (i:=4) rfl rfl,wJ]
theorem OX{QE:S}:(eE cM cF L most pk fr ce ct dn pl en).put [.fld cM "cells"] QE=eE cM cF L most pk fr QE ct dn pl en:=by unfold eE;rw[rT (i:=4) rfl rfl,wK];rfl
theorem FH:(eE cM cF L most pk fr ce ct dn pl en).get [.fld cM "counts"]=some (.dk ct.ks ct.ts):=by unfold eE;rw[rS (i:=5) rfl rfl,wJ]
theorem OY{p:Nat}:(eE cM cF L most pk fr ce ct dn pl en).put [.fld cM "counts"] (.dk (dI ct.ks (.inl (p:Int))) (bR ct.ks ct.ts (.inl (p:Int)) (.int (ct.get p+1))))=eE cM cF L most pk fr ce (ct.up p) dn pl en:=by unfold eE;rw[rT (i:=5) rfl rfl,wK,TZ];rfl
theorem FJ:(eE cM cF L most pk fr ce ct dn pl en).get [.fld cM "doings"]=some (.lst (dn.map .lf)):=by unfold eE;rw[rS (i:=6) rfl rfl,wJ]
theorem OZ{t:T}:(eE cM cF L most pk fr ce ct dn pl en).put [.fld cM "doings"] (.lst (dn.map .lf++[.lf t]))=eE cM cF L most pk fr ce ct (dn++[t]) pl en:=by unfold eE;rw[rT (i:=6) rfl rfl,wK,sf];rfl
theorem FK:(eE cM cF L most pk (fs++[f]) ce ct dn pl en).get [.fld cM "frames",.last,.fld cF "names"]=some (.dk f.ev.ks f.ev.ts):=by unfold eE;rw[rS (i:=3) rfl rfl,sf];show S.get (.lst (fs.map (uH cF)++[uH cF f])) _=_;rw[T4];unfold uH;rw[rS (i:=1) rfl rfl,wJ]
theorem O0{v:Vl}:(eE cM cF L most pk (fs++[f]) ce ct dn pl en).put [.fld cM "frames",.last,.fld cF "names"] (.dk (dI f.ev.ks (.inr x)) (bR f.ev.ks f.ev.ts (.inr x) (vT v)))=eE cM cF L most pk (fs++[{f with ev:=f.ev.put x v}]) ce ct dn pl en:=by
 unfold eE;rw[sf,rT (i:=3) (x:=.lst (fs.map (uH cF)++[uH cF f])) rfl rfl,T5];show S.ins cM mN (List.set _ 3 (.lst (fs.map (uH cF)++[(uH cF f).put _ _])))=_;have e:(uH cF f).put [.fld cF "names"] (.dk (dI f.ev.ks (.inr x)) (bR f.ev.ks f.ev.ts (.inr x) (vT v)))=uH cF {f with ev:=f.ev.put x v}:=by unfold uH;rw[rT (i:=1) rfl rfl,wK,pJ];rfl
 rw[e,sf];rfl
end
def Cf:Rw->Prop
 |.df _ ps=>ps.length<=50/\∀x∈ps,cK x=true/\x.length<=100
 |.put _ a=>rR a
 |.give a=>rR a
 |.ju _ a op b=>rR a/\op="same"/\rR b
 |.get _ r k=>rR (.nm r)/\JV k
 |.set r k a=>rR (.nm r)/\JV k/\rR a
 |.new _=>True
 |_=>False
structure Wl(rs:qal):Prop where
 wf:To rs
 ok:∀r∈rs,Cf r
 gv:∃l o,rs=l++[.give o]
 n:rs.length<=100
structure AH(rs:qal)(s:Lv):Prop where
 pl:s.pl<rs.length
 fs:s.fs=[]
 ca:s.f.call=none
 ev:hW s.f.ev (100+s.dn.length)
 ce:pK s.ce s.dn.length
 ct:s.ct.is.length<=s.dn.length
theorem hW.up{e:Ev}{m:Nat}(h:hW e n)(hm:n<=m):hW e m:=⟨by have:=h.n;omega,h.ri⟩
theorem pK.up{c:Ce}{m:Nat}(h:pK c n)(hm:n<=m):pK c m:=⟨by have:=h.1;omega,h.2⟩
theorem t6(ps:qai)(gs:List Vl)(hg:∀g∈gs,RV g):∀k,hW (bC ps gs k) k
 |0=>⟨cU _,λi hi=>nomatch hi⟩
 |k+1=>by
  have ih:=t6 ps gs hg k;unfold bC;split;refine ih.put _ ?_;rw[List.getD];cases e:gs[k]? with
  |none=>exact Hj
  |some g=>exact hg g (fR e)
  exact ih.up (by omega)
theorem FQ(e:Ev)(ce:Ce)(c:Ct)(p:Nat)(r:Rw):bJ (JW e ce c p r)=true:=by unfold JW;have:cb ((gJ r).map λo=>vT (look e o))=true:=dN (f:=λo=>vT (look e o)) (λo=>cH _) _;simp only[bJ,cb,this,yO,zA]
theorem kP:∀{a b:qaj},cb a=true->cb b=true->cb (a++b)=true
 |[],b,_,h=>h
 |t::a,b,h1,h2=>by simp only[cb,jm] at h1;simp only[CN,cb,h1.1,kP h1.2 h2,zA]
section
theorem Wl.next(W:Wl rs)(hr:rs[j]?=some r)(h:∀o,r≠.give o):j+1<rs.length:=by
 obtain⟨l,o,rfl⟩:=W.gv;have hj:=(fG.mp hr).1;rw[k7] at hj ⊢;rcases Nat.lt_or_ge j l.length with z|z
 show j+1<l.length+1;omega;rw[uI z] at hr;have e:j-l.length=0:=by have:j<l.length+1:=hj;omega
 rw[e] at hr;exact absurd (Option.some.inj hr).symm (h o)
theorem wL(W:Wl rs){s:Lv}(I:AH rs s)(hr:rs[s.pl]?=some r):match eO rs r s with
  |.inl s'=>AH rs s'/\s'.dn=s.dn++[JW s.f.ev s.ce s.ct s.pl r]
  |.inr R=>R.1=s.dn++[JW s.f.ev s.ce s.ct s.pl r]/\bJ R.2=true/\mK R.2=false:=by
 have rV:=W.ok r (fR hr);have e1:∀d:T,(s.dn++[d]).length=s.dn.length+1:=λd=>by simp
 have LY:=I.ev;have T6:s.ct.is.length<=s.dn.length+1:=Nat.le_succ_of_le I.ct;have all:∀(e':Ev)(QE:Ce)(Yo:Ct)(d:T),(∀o,r≠.give o)->hW e' (100+(s.dn.length+1))->pK QE (s.dn.length+1)->Yo.is.length<=s.dn.length+1->AH rs ⟨s.fs,⟨s.f.call,e'⟩,QE,Yo,s.dn++[d],s.pl+1⟩:=λe' QE Yo d hg h1 h2 h3=>⟨W.next hr hg,I.fs,I.ca,by rw[e1];exact h1,by rw[e1];exact h2,by rw[e1];exact h3⟩;have QF:pK s.ce (s.dn.length+1):=I.ce.up (G7 _);cases r with
 |df f ps=>exact⟨all _ _ _ _ (λ_ z=>nomatch z) (LY.up (G7 _)) QF T6,rfl⟩
 |put x a=>exact⟨all _ _ _ _ (λ_ z=>nomatch z) (LY.put x (LY.look rV)) QF T6,rfl⟩
 |get x y k=>
   refine⟨all _ _ _ _ (λ_ z=>nomatch z) (LY.put x ?_) QF T6,rfl⟩;cases cellK s.f.ev y k with
   |none=>exact Hj
   |some c=>exact I.ce.get c
 |set y k a=>
   refine⟨all _ (s.ce.Fw (look s.f.ev a) (cellK s.f.ev y k)) _ _ (λ_ z=>nomatch z) (LY.up (G7 _)) ?_ T6,rfl⟩;cases cellK s.f.ev y k with
   |none=>exact QF
   |some c=>exact I.ce.put c (LY.look rV.2.2)
 |ju x a op b=>obtain⟨_,rfl,_⟩:=rV;exact⟨all _ _ _ _ (λ_ z=>nomatch z) (LY.put x (OT (op:="same") (a:=look s.f.ev a) (b:=look s.f.ev b) rfl)) QF T6,rfl⟩
 |new x=>exact⟨all _ _ (s.ct.up s.pl) _ (λ_ z=>nomatch z) (LY.put x Hj) QF (m7 (me s.ct.ks s.ct.is (.inl (s.pl:Int)) (s.ct.get s.pl+1)) (Nat.succ_le_succ I.ct)),rfl⟩
 |give a=>unfold eO;dsimp only;rw[I.ca];exact⟨rfl,by show bJ (.tup [.str "done",vT _])=true;simp only[bJ,cb,cH,zA],rfl⟩
 |_=>exact rV.elim
theorem FR(h:Cf r):nD r=false:=by cases r<;>first|rfl|exact h.elim
inductive LZ(rs:qal)(most:Nat):Nat->Lv->Res->Prop
 |fin {s:Lv} {R:Res} (h:jx rs most s=.inr R):LZ rs most 0 s R
 |go {n:Nat} {s s':Lv} {R:Res} (h:jx rs most s=.inl s') (k:LZ rs most n s' R):LZ rs most (n+1) s R
theorem AI(W:Wl rs){most:Nat}{s:Lv}(I:AH rs s):∃r,rs[s.pl]?=some r/\jx rs most s=if most<=s.dn.length then .inr (s.dn,wI) else eO rs r s:=by refine⟨_,m6 I.pl,?_⟩;unfold jx;rw[m6 I.pl];dsimp only;rw[if_neg (by rw[FR (W.ok _ (K3 I.pl))];exact eh)]
theorem wM(W:Wl rs){most:Nat}{s s':Lv}(I:AH rs s)(h:jx rs most s=.inl s'):AH rs s'/\s'.dn.length<=most/\(cb s.dn=true->cb s'.dn=true):=by obtain⟨r,hr,e⟩:=AI (most:=most) W I;rw[e] at h;split at h;cases h;have:=wL W I hr;rw[h] at this;obtain⟨h1,h2⟩:=this;refine⟨h1,by rw[h2,k7];show _+1<=_;omega,λhi=>?_⟩;rw[h2];exact kP hi (by simp only[cb,FQ,zA])
theorem LZ.tells(W:Wl rs){most:Nat}{s:Lv}{R:Res}(h:LZ rs most n s R):AH rs s->cb s.dn=true->cb R.1=true/\bJ R.2=true/\mK R.2=false:=by
 induction h with
 |@fin s R h=>intro I hi;obtain⟨r,hr,e⟩:=AI (most:=most) W I;rw[e] at h;split at h;cases h;exact⟨hi,rfl,rfl⟩;have:=wL W I hr;rw[h] at this;obtain⟨h1,h2,h3⟩:=this;rw[h1];exact⟨kP hi (by simp only[cb,FQ,zA]),h2,h3⟩
 |@go n s s' R h k ih=>intro I hi;obtain⟨I',_,DP⟩:=wM W I h;exact ih I' (DP hi)
end
end Rg
namespace Rg
open PySem L2 VT Gen K5 Lay
open ng (cK)
open Nx (E5)
open Nm (jo As)
open Qz (Aw Av iO)
open j8 (Vl vT nm wq E6 JO eC RI)
noncomputable def top(i:Nat):Stmt:=PySem.Challenge.pw_slicewise_k13_records_and_cells.main.body.getD i (.Pass ⟨0,0,0,0⟩)
noncomputable abbrev kQ:Stmt:=inClass (top 34) 0
noncomputable abbrev gK:Stmt:=inClass (top 35) 0
noncomputable abbrev t7:Stmt:=top 36
noncomputable abbrev jY:Stmt:=top 37
noncomputable abbrev mf:Stmt:=top 38
noncomputable abbrev fq:Stmt:=top 39
noncomputable abbrev gj:Stmt:=top 40
noncomputable abbrev iV:Stmt:=top 41
noncomputable abbrev gk:Stmt:=top 45
noncomputable abbrev hX:Stmt:=top 42
noncomputable abbrev h7:Stmt:=top 43
noncomputable abbrev mh:Stmt:=top 32
noncomputable abbrev jZ:Stmt:=top 49
noncomputable abbrev t8:Stmt:=top 50
noncomputable abbrev gf:Stmt:=top 52
noncomputable abbrev fu:Stmt:=top 51
structure Yp(mg:qae):Prop where
 len:mg "len"=none
 enumerate:mg "enumerate"=none
 tuple:mg "tuple"=none
structure QG(K:qaf)(C:Addr):Prop where
 cl:xW K C
 FT:a8 K C "call"
 kR:a8 K C "names"
structure AJ(K:qaf)(C:Addr):Prop where
 cl:xW K C
 iW:a8 K C "layout"
 FU:a8 K C "most"
 t9:a8 K C "poke"
 iX:a8 K C "frames"
 t_:a8 K C "cells"
 kS:a8 K C "counts"
 iY:a8 K C "doings"
 ez:a8 K C "place"
 kU:a8 K C "ended"
def FV(C:Addr)(ts:qaj)(q:T->Prop):Prop:=∃t1 t2,ts=[t1,t2]/\q (.ins C qaC [t1,t2])
def T7(cM cF:Addr)(ts:qaj)(q:qam):Prop:=∃a L most pk fs f ce ct dn pl en o n,ts=[.pin a (QD cM cF L most pk (fs++[f]) ce ct dn pl en),eM o]/\rR o/\hW f.ev n/\n<=1000000/\q (.vw (vT (look f.ev o)))
abbrev RdR:=Cf
noncomputable def ckO:Option (List Key×Key)->T
 |none=>.aQ
 |some c=>C3 c
def ua(ts:qaj)(q:qam):Prop:=∃(e:Ev)(r:Str)(k:Ky)(l:List fP),ts=[qB k,.tup ((fP.nm r::(Fx k++l)).map λo=>vT (look e o))]/\JV k/\q (.vw (ckO (cellK e r k)))
def AK(cM cF:Addr)(nh:List Key×Key->Int)(ts:qaj)(q:qam):Prop:=∃a L most pk fr ce ct dn p en e r n,ts=[.pin a (QD cM cF L most pk fr (Ce.s nh ce) ct dn (.int ((p:Nat):Int)) en),aT r,.tup ((gJ r).map λo=>vT (look e o))]/\RdR r/\(∀o∈gJ r,rR o)/\hW e n/\q (.vw (oV (Fy e ce ct p r)))
structure T8(rs:qal)(j:Nat)(r:Rw):Prop where
 at':rs[j]?=some r
 o:Nx.Oy r
def mi(cM cF cL:Addr)(us:qaj)(s:S)(q:S->T->Prop):Prop:=∃rs r j most pk fr ce ct dn u1 u2 u3,us=[u1,u2,u3]/\s=eE cM cF (dj cL rs) most pk fr ce ct dn (.int ((j:Nat):Int)) .aQ/\T8 rs j r/\q (eE cM cF (dj cL rs) most pk fr ce ct dn (.int ((j+1:Nat):Int)) .aQ) .aQ
def Z3:Rw->Str->Prop
 |.put y _,x=>y=x
 |.get y _ _,x=>y=x
 |.ju y _ _ _,x=>y=x
 |.new y,x=>y=x
 |.call y _ _,x=>y=x
 |_,_=>False
def j1(cM cF cL:Addr)(us:qaj)(s:S)(q:S->T->Prop):Prop:=∃rs r j most pk fs f ce ct dn u2 x v,us=[aT r,u2,vT v]/\bJ u2=true/\s=eE cM cF (dj cL rs) most pk (fs++[f]) ce ct dn (.int ((j:Nat):Int)) .aQ/\T8 rs j r/\Z3 r x/\f.ev.is.length<=1000000/\q (eE cM cF (dj cL rs) most pk (fs++[{f with ev:=f.ev.put x v}]) ce ct dn (.int ((j+1:Nat):Int)) .aQ) .aQ
theorem pM{o:fP}(h:rR o):Nm.jS (eM o)=false:=by
 cases o with
 |nm x=>have:=ng.ql (ng.sL h.1);show (Txt.startswith x "." && _)=false;rw[this];rfl
 |nu i=>rfl
theorem ub{o:fP}(h:rR o):Nm.v_ (eM o):=by
 cases o with
 |nm x=>exact .inl ⟨x,rfl,h.2⟩
 |nu i=>exact .inr ⟨i,rfl⟩
theorem AL(x:Str):(((".":String):Str)++x).length=x.length+1:=by show (((".":String):Str).cps++x.cps).size=_;rw[Array.size_append,show (((".":String):Str).cps).size=1 by decide +kernel,Nat.add_comm];rfl
theorem JX(a b:Vl):wq a b=oV ((TY "same" a b).map .num):=rfl
section
variable{cLayout cFrame aq:Addr}
noncomputable abbrev JY:qai:=qaD
theorem wN:aA JY qaD (ah kQ):=L2.gO
theorem FW(D:Dc K mg "Frame" "Frame.__init__" kQ qaD cFrame f fd)(M:QG K cFrame):Ex P w K mg base "Frame" cFrame qaD 1 2 (FV cFrame):=by
 refine D.gX (Zw D.F wN rfl λbq A outer s H E as Ox hr us q hl hG=>?_);have nd:=wN.nd;have bS:=M;refine⟨_,(ai (g9 0 bS.cl bS.FT (aj 1))
  (ax (g9 0 bS.cl bS.kR (aj 2)))),?_⟩
 obtain⟨t1,t2,rfl,hq⟩:=hG;exact⟨rfl,by show 0<1000;decide,rfl,by show 1<1000;decide,hq⟩
noncomputable abbrev yP:qai:=qaE
theorem mX:aA yP qaE (ah jY):=L2.gO
theorem wO(D:Df K mg "value_of" jY qaE f fd)(M:AJ K aq)(M1:QG K cFrame)(ma:cp P w K mg base "is_name" qav 1 (de K 1 jo)):cp P w K mg base "value_of" qaE 2 (de K 2 (T7 aq cFrame)):=by
 refine D.gX (nz D.F mX rfl λbq A outer s H E Ox hr ts q hG=>?_);have nd:=mX.nd;have hu:=bh.fM hr;have ag:=M;have bS:=M1;have uE:=o4 hu;refine⟨_,(ax (aI (qau (iD (dy (aE ma hr (aa (aj 1) ar))) (tD uE (qas (bo bS.cl bS.kR (qas (aH (qas (bo ag.cl ag.iX (bZ (ae 0)))) (qas (lC (qas af))))))) (ae 1) (qat af) ⟨rfl,rfl,rfl,rfl⟩) (VE.vp (aj 1)))))),λ_=>?_⟩;obtain⟨a,L,most,pk,fs,f0,ce,ct,dn,pl,en,o,n,rfl,ho,he,hn,hq⟩:=hG;cases o with
 |nm x=>
  refine⟨rfl,.str x,rfl,rfl,(λy z=>by cases z;have:=ho.2;omega),?_⟩;refine SD (c:=As (.str x)) ho.1 ?_;have el:jB ((fs++[f0]).map (T3 cFrame)) (-1)=some (T3 cFrame f0):=by rw[sf];exact L2.iz _ _
  refine⟨rfl,_,rfl,_,el,rfl,_,rfl,?_⟩;show q (.vw ((bP f0.ev.ks f0.ev.ts (.inr x)).getD (.int 0)));rw[Fu];exact hq
 |nu i=>refine⟨rfl,.int i,rfl,rfl,(λy z=>by cases z),?_⟩;exact hq
noncomputable abbrev Cg:qai:=qaF
theorem pN:aA Cg qaF (ah mh):=L2.gO
theorem yQ(D:Df K mg "cell_of" mh qaF f fd)(M:Yp mg)(iT:cp P w K mg base "is_record" qaz 1 (de K 1 j8.OA))(jV:cp P w K mg base "is_field" qav 2 (de K 1 Nm.yz))(wQ:cp P w K mg base "number_of" qaz 2 (de K 1 j8.ZR)):cp P w K mg base "cell_of" qaF 3 (de K 2 ua):=by
 refine D.gX (nz D.F pN rfl λbq A outer s H E Ox hr ts q hG=>?_);have nd:=pN.nd;refine⟨_,(ai (bH (lu (dy (aE iT hr (aa (qat (aH (ae 1) (qas af))) ar))))
    (ax (aI (qau cZ)))
    aP)
   (ax (aI (qau (a9 (aa (qat (aH (ae 1) (qas af))) (aa (qat (iD (dy (aE jV hr (aa (aj 0) ar))) (VE.vp (aj 0)) (aE wQ hr (aa (qat (aH (ae 1) (qas af))) ar)))) ar))))))),λ_=>?_⟩
 obtain⟨e,r,k,l,rfl,hk,hq⟩:=hG;unfold cellK at hq;refine⟨_,ak (j:=0) rfl,rfl,e.get r,rfl,?_⟩;cases hv:e.get r with
 |num i=>rw[hv] at hq;exact hq
 |dZ p n=>
   rw[hv] at hq;have Z4:vT (look e (.nm r))=.tup [.int p,.int n]:=by show vT (e.get r)=_;rw[hv];rfl
   cases k with
   |fld x=>
     have hf:Nm.jS (qB (.fld x))=true:=by show ng.ow (((".":String):Str)++x)=true;unfold ng.ow;rw[ng.rm,hk.1,Bool.and_true];exact ng.oy x
     refine lU (c:=false) rfl ?_;refine⟨_,ak (j:=0) rfl,rfl,_,rfl,.inl ⟨_,rfl,by rw[AL];have:=hk.2;omega⟩,?_⟩;refine SD hf ?_;have gS:q (.vw (.tup [vT (look e (.nm r)),qB (.fld x)])):=by rw[Z4];exact hq
     exact⟨Gen.cw rfl,gS⟩
   |op o=>
     have hf:Nm.jS (qB (.op o))=false:=pM hk;refine lU (c:=false) rfl ?_;refine⟨_,ak (j:=0) rfl,rfl,_,rfl,ub hk,?_⟩;refine lU hf ?_;have gS:q (.vw (.tup [vT (look e (.nm r)),.int (nm (look e o))])):=by rw[Z4];exact hq
     exact⟨_,ak (j:=1) rfl,rfl,look e o,rfl,Gen.cw rfl,gS⟩
noncomputable abbrev Ci:qai:=["machine","row","used","word"]
theorem pO:aA Ci qaG (ah mf):=L2.gO
theorem yR(D:Df K mg "made_by" mf qaG f fd)(M:AJ K aq)(yS:cp P w K mg base "reckoned" qaA 3 (de K 3 E6))(mj:cp P w K mg base "cell_of" qaF 3 (de K 2 ua)):cp P w K mg base "made_by" qaG 4 (de K 3 (AK aq cFrame (NK.bp P w))):=by
 refine D.gX (nz D.F pO rfl λbq A outer s H E Ox hr ts q hG=>?_);have nd:=pO.nd;have hu:=bh.fM hr;have np:∀{i:Nat},bE ⟨H,[],Ox⟩ i:=mM;have ag:=M;have uE:=o4 hu;have T9:=LS hu;refine⟨_,(ai (bj (i:=3) nd rfl (Or.inl rfl) (qau (aH (ae 1) (qas af))) np)
  (ai (bH (cy hu (ae 3) (qas aW))
   (ax (aI (qau (aE yS hr (aa (qat (aH (ae 2) (qas af))) (aa (qat (aH (ae 1) (qas af))) (aa (qat (aH (ae 2) (qas af))) ar)))))))
   aP)
  (ai (bH (cy hu (ae 3) (qas aW))
   (ax (aI (qau (a9 (aa (qat (bo ag.cl ag.ez (bZ (ae 0)))) (aa (qat (tD uE (qas (bo ag.cl ag.kS (bZ (ae 0)))) (qas (bo ag.cl ag.ez (bZ (ae 0)))) (qat af) ⟨rfl,rfl,rfl,rfl⟩)) ar))))))
   aP)
  (ai (bH (cy hu (ae 3) (qas aW))
   (ax (aI (qau (OH T9 (qas (bo ag.cl ag.t_ (bZ (ae 0)))) (qas (aE mj hr (aa (qat (aH (ae 1) (qas af))) (aa (aj 2) ar)))) (qat af) ⟨rfl,rfl,rfl,rfl⟩))))
   aP)
  (ai (bH (vG (ae 3) (qas (a9 (aa (qat aW) (aa (qat aW) ar)))))
   rN
   aP)
  (ax (aI (qau (iD (vG (ae 3) (qas (a9 (aa (qat aW) (aa (qat aW) (aa (qat aW) ar)))))) (aH (ae 2) (qas (lC (qas af)))) cZ))))))))),λ_=>?_⟩
 obtain⟨a,L,most,pk,fr,ce,ct,dn,p,en,e,r,n,rfl,hk,oO,he,hq⟩:=hG;cases r with
 |df f' ps=>exact⟨_,ak (j:=0) rfl,Gen.cw rfl,rfl,rfl,Gen.cw rfl,rfl,rfl,hq⟩
 |put x a=>exact⟨_,ak (j:=0) rfl,Gen.cw rfl,rfl,rfl,Gen.cw rfl,rfl,rfl,_,rfl,hq⟩
 |give a=>exact⟨_,ak (j:=0) rfl,Gen.cw rfl,rfl,rfl,Gen.cw rfl,rfl,rfl,_,rfl,hq⟩
 |set y k b=>refine⟨_,ak (j:=0) rfl,Gen.cw rfl,rfl,rfl,Gen.cw rfl,rfl,rfl,_,?_,hq⟩;show jB ((fP.nm y::(Fx k++[b])).map λo=>vT (look e o)) (-1)=some (vT (look e b));rw[<- CN,sf];exact L2.iz _ _
 |get x y k=>
  refine⟨_,ak (j:=0) rfl,rfl,_,rfl,rfl,_,ak (j:=3) rfl,rfl,e,y,k,[],by rw[CO];rfl,hk.2,?_⟩;have gS:q (.vw (vT (ce.at' (cellK e y k)))):=hq;cases hc:cellK e y k with
  |none=>rw[hc] at gS;exact .inl ⟨rfl,gS⟩
  |some c=>rw[hc] at gS;refine .inr ⟨c,rfl,?_⟩;show q (.vw ((dm ce.ks ce.ts c).getD (.int 0)));rw[OU];exact gS
 |ju x a op b=>obtain⟨_,rfl,_⟩:=hk;exact⟨_,ak (j:=0) rfl,_,ak (j:=0) rfl,_,ak (j:=3) rfl,_,ak (j:=1) rfl,rfl,_,_,rfl,by rw[JX];exact hq⟩
 |new x=>refine⟨_,ak (j:=0) rfl,rfl,_,rfl,rfl,_,rfl,rfl,_,rfl,?_⟩;show [T.int (p:Int),(bP ct.ks ct.ts (.inl (p:Int))).getD (.int 0)].length<=sizeLine/\q (.vw (.tup [T.int (p:Int),(bP ct.ks ct.ts (.inl (p:Int))).getD (.int 0)]));rw[Fv];exact⟨Gen.cw rfl,hq⟩
 |_=>exact hk.elim
end
end Rg
namespace Rg
open PySem L2 VT Gen K5 Lay
open Nx (E5)
open j8 (Vl vT nm eC RI)
theorem xJ:∀{ρ:En},(ρ.all λe=>match e with|some (_,true)=>false|_=>true)=true->∀e∈ρ,fO e:=λ{ρ} h e he=>by
 have:=K2.mp h e he
 match e,this with
 |none,_=>trivial
 |some (t,false),_=>cases t<;>trivial
theorem eQ{t:T}(h:bJ t=true):o7 (some (t,false))=some (t,false):=by show (if bJ t=true then some (t,false) else none)=_;rw[if_pos h]
theorem O3(b:Option T):fO (XT b):=by
 cases b with
 |none=>trivial
 |some t=>cases t<;>trivial
theorem T_{s:S}(h:∀e∈ρ,fO e):∀e∈j6 M ρ s,fO e:=λe he=>by
 unfold j6 at he;rcases Qg he with z|z
 obtain⟨e0,h0,rfl⟩:=sh.mp z;have:=h e0 h0
 match e0,this with
 |none,_=>trivial
 |some (t,true),q=>exact q
 |some (t,false),_=>show fO (if bJ t=true then some (t,false) else none);by_cases hi:bJ t=true;rw[if_pos hi];cases t<;>trivial;rw[if_neg hi];trivial
 rw[z];trivial
theorem FY{d:LC}{ρ':En}{s s':S}(e:s=s')(hρ:j6 M ρ s'=ρ')(h:d.nx ρ' s'):d.nx (j6 M ρ s) s:=by rw[e,hρ];exact h
theorem L0{F:En->S->Prop}{ρ':En}{s s':S}(e:s=s')(hρ:j6 M ρ s'=ρ')(h:F ρ' s'):F (j6 M ρ s) s:=by rw[e,hρ];exact h
theorem JZ{d:LC}{ρ':En}{s s':S}{t:T}(e:s=s')(hρ:j6 M ρ s'=ρ')(h:d.nx (ρ'.set j (some (t,false))) s'):d.nx ((j6 M ρ s).set j (some (t,false))) s:=by rw[e,hρ];exact h
theorem T'{d:LC}{s s':S}(e:s=s')(h:d.nx (j6 M ρ s') s'):d.nx (j6 M ρ s) s:=by rw[e];exact h
abbrev O5:=j1
def FZ(cM cF cL:Addr)(us:qaj)(s:S)(q:S->T->Prop):Prop:=∃rs r j most pk fs f ce ct dn u2 x v,us=[aT r,u2,vT v]/\bJ u2=true/\s=eE cM cF (dj cL rs) most pk (fs++[f]) ce ct dn (.int ((j:Nat):Int)) .aQ/\T8 rs j r/\Z3 r x/\f.ev.is.length<=1000000/\ct.is.length<=1000000/\q (eE cM cF (dj cL rs) most pk (fs++[{f with ev:=f.ev.put x v}]) ce (ct.up j) dn (.int ((j+1:Nat):Int)) .aQ) .aQ
def F0(cM cF cL:Addr)(us:qaj)(s:S)(q:S->T->Prop):Prop:=∃rs j f ps gs most pk fr ce ct dn p0 c g,us=[.int ((j:Nat):Int),oT c,g]/\(g=.lst (gs.map vT)\/g=.tup (gs.map vT))/\s=eE cM cF (dj cL rs) most pk fr ce ct dn p0 .aQ/\rs[j]?=some (.df f ps)/\ps.length<=100/\fr.length<=1000000 /\
 q (eE cM cF (dj cL rs) most pk (fr++[⟨c,bC ps gs ps.length⟩]) ce ct dn (.int ((j:Nat):Int)) .aQ) .aQ
def yT(cM cF cL:Addr)(us:qaj)(s:S)(q:S->T->Prop):Prop:=∃rs most pk fs f ce ct dn pl u1 u2 v,us=[u1,u2,vT v]/\s=eE cM cF (dj cL rs) most pk (fs++[f]) ce ct dn pl .aQ/\bJ u1=true/\bJ u2=true/\f.call=none/\q (eE cM cF (dj cL rs) most pk fs ce ct dn pl (AF v)) .aQ
def F4(cM cF cL:Addr)(nh:List Key×Key->Int)(us:qaj)(s:S)(q:S->T->Prop):Prop:=∃rs x k a j most pk fr ce ct dn e v,us=[aT (.set x k a),.tup ((gJ (.set x k a)).map λo=>vT (look e o)),vT v]/\JV k/\s=eE cM cF (dj cL rs) most pk fr (Ce.s nh ce) ct dn (.int ((j:Nat):Int)) .aQ/\T8 rs j (.set x k a)/\ce.is.length<=1000000 /\
 q (eE cM cF (dj cL rs) most pk fr (Ce.s nh (ce.Fw v (cellK e x k))) ct dn (.int ((j+1:Nat):Int)) .aQ) .aQ
theorem AO(k:Key):bJ (Ob k)=true:=by cases k<;>rfl
theorem J_(c:List Key×Key):bJ (C3 c)=true:=by unfold C3;simp only[bJ,cb,AO,Bool.and_true];exact dN (f:=Ob) AO c.1
theorem F5(c:Option Nat):bJ (oT c)=true:=by cases c<;>rfl
theorem pj(h:rs[j]?=some r):jB (rs.map aT) (j:Int)=some (aT r):=ak (by rw[ij,h];rfl)
theorem pP(ps:qai)(gs:List Vl):∀k,(bC ps gs k).is.length<=k
 |0=>cU _
 |k+1=>by have ih:=pP ps gs k;unfold bC;split;have:=me (bC ps gs k).ks (bC ps gs k).is (.inr ‹Str›) (gs.getD k (.num 0));exact m7 this (by omega);omega
section
variable{cLayout cFrame aq:Addr}
noncomputable abbrev pQ:qai:=qaH
theorem ie:aA pQ qaH (ah fq):=L2.gO
theorem nE(D:Df K mg "follow_plain" fq qaH f fd)(M:AJ K aq)(uc:cp P w K mg base "row_behind" qay 1 (de K 2 (E5 cLayout))):cp P w K mg base "follow_plain" qaH 2 (j7 K 3 (mi aq cFrame cLayout)):=by refine D.gX (Jq D.F ie rfl (by decide) λbq A outer s H E M0 qF hr us s0 q hG hl=>?_);obtain⟨Cj,mm,AQ,a0,wR⟩:=M0;have nJ:wR=0:=qF;subst nJ;have nd:=ie.nd;have ag:=M;refine⟨_,(cu (tM ag.cl ag.ez (λ_=>(qat (aE uc hr (aa (qat (bo ag.cl ag.iW (bZ (ae 0)))) (aa (qat (bo ag.cl ag.ez (bZ (ae 0)))) ar))))) rfl)),?_⟩;obtain⟨rs,r,j,most,pk,fr,ce,ct,dn,u1,u2,u3,rfl,rfl,h,hq⟩:=hG;rw[ip];refine⟨rfl,_,rfl,rfl,_,rfl,rfl,rs,j,r,rfl,h.o,h.at',rfl,xJ rfl,_,_,7,_,rfl,(by show 9<1000;decide),rfl,rfl,hq⟩
abbrev qI:qai:=qaH
theorem iZ:aA qI qaH (ah gj):=L2.gO
theorem pR(D:Df K mg "follow_name" gj qaH f fd)(M:AJ K aq)(M1:QG K cFrame)(c6:cp P w K mg base "follow_plain" qaH 2 (j7 K 3 (mi aq cFrame cLayout))):cp P w K mg base "follow_name" qaH 3 (j7 K 3 (j1 aq cFrame cLayout)):=by
 refine D.gX (Jq D.F iZ rfl (by decide) λbq A outer s H E M0 qF hr us s0 q hG hl=>?_);obtain⟨Cj,mm,AQ,a0,wR⟩:=M0;have nJ:wR=0:=qF;subst nJ;have nd:=iZ.nd;have hu:=bh.fM hr;have uE:=o4 hu;have ag:=M;have bS:=M1;refine⟨_,(cq (Ap uE (iL bS.cl bS.kR (Jl (iL ag.cl ag.iX (jP)) S4)) (λ_=>(qas (aH (ae 1) (qas af)))) (λ_=>(aj 3)))
  (cu (fj c6 hr (λ_=>(aa (aj 1) (aa (aj 2) (aa (aj 3) ar)))) rfl))),?_⟩
 obtain⟨rs,r,j,most,pk,fs,f0,ce,ct,dn,u2,x,v,rfl,i2,rfl,h,hx,hn,hq⟩:=hG;have hi:=iN r;obtain⟨y,l,er⟩:∃y l,aT r=.tup (.str y::.str x::l):=by cases r<;>first|exact hx.elim|(cases hx;exact⟨_,_,rfl⟩)
 rw[ip,er];rw[er] at hi;refine⟨⟨_,FK⟩,_,ak (j:=1) rfl,cH v,xJ rfl,_,_,FK,(by show (f0.ev.ts).length<_;unfold Ev.ts;rw[cW];omega),?_⟩;refine FY (ρ':=[some (.pin a0 (eE aq cFrame (dj cLayout rs) most pk (fs++[{f0 with ev:=f0.ev.put x v}]) ce ct dn (.int (j:Int)) .aQ).t,false),some (.tup (.str y::.str x::l),false),some (u2,false),some (vT v,false)]) (O0 (x:=x) (v:=v)) ?_ ?_;show [_,o7 (some (.tup (.str y::.str x::l),false)),o7 (some (u2,false)),o7 (some (vT v,false))]=_;rw[eQ hi,eQ i2,eQ (cH v)];exact⟨xJ rfl,rfl,rs,r,j,most,pk,_,ce,ct,dn,_,_,_,rfl,rfl,h,hq⟩
noncomputable abbrev wU:qai:=qaH
theorem kW:aA wU qaH (ah iV):=L2.gO
theorem ud(D:Df K mg "follow_do" iV qaH f fd)(M:AJ K aq)(du:cp P w K mg base "follow_name" qaH 3 (j7 K 3 (j1 aq cFrame cLayout))):cp P w K mg base "follow_do" qaH 4 (j7 K 3 (O5 aq cFrame cLayout)):=by
 refine D.gX (Jq D.F kW rfl (by decide) λbq A outer s H E M0 qF hr us s0 q hG hl=>?_);obtain⟨Cj,mm,AQ,a0,wR⟩:=M0;have nJ:wR=0:=qF;subst nJ;have nd:=kW.nd;have ag:=M;refine⟨_,(cu (rD (λ_=>(vH (ae 3) (qas cZ)))
  jg
  (cu (fj du hr (λ_=>(aa (aj 1) (aa (aj 2) (aa (aj 3) ar)))) rfl)))),?_⟩
 obtain⟨rs,r,j,most,pk,fs,f0,ce,ct,dn,u2,x,v,rfl,i2,rfl,h,hx,hn,hq⟩:=hG;have hv:mK (vT v)=false:=by cases v<;>rfl
 refine lU (c:=mK (vT v)) hv ?_;exact⟨xJ rfl,rfl,rs,r,j,most,pk,fs,f0,ce,ct,dn,u2,x,v,rfl,i2,rfl,h,hx,hn,hq⟩
abbrev ue:qai:=qaH
theorem jy:aA ue qaH (ah hX):=L2.gO
theorem qJ(D:Df K mg "follow_new" hX qaH f fd)(M:AJ K aq)(du:cp P w K mg base "follow_name" qaH 3 (j7 K 3 (j1 aq cFrame cLayout))):cp P w K mg base "follow_new" qaH 4 (j7 K 3 (FZ aq cFrame cLayout)):=by
 refine D.gX (Jq D.F jy rfl (by decide) λbq A outer s H E M0 qF hr us s0 q hG hl=>?_);obtain⟨Cj,mm,AQ,a0,wR⟩:=M0;have nJ:wR=0:=qF;subst nJ;have nd:=jy.nd;have hu:=bh.fM hr;have uE:=o4 hu;have ag:=M;refine⟨_,(cq (Ap uE (iL ag.cl ag.kS (jP)) (λ_=>(qas (bo ag.cl ag.ez (bZ (ae 0))))) (λ_=>(qat (cQ (qas (tD uE (qas (bo ag.cl ag.kS (bZ (ae 0)))) (qas (bo ag.cl ag.ez (bZ (ae 0)))) (qat af) ⟨rfl,rfl,rfl,rfl⟩)) (qas af)))))
  (cu (fj du hr (λ_=>(aa (aj 1) (aa (aj 2) (aa (aj 3) ar)))) rfl))),?_⟩
 obtain⟨rs,r,j,most,pk,fs,f0,ce,ct,dn,u2,x,v,rfl,i2,rfl,h,hx,hn,hc,hq⟩:=hG;rw[ip];refine⟨rfl,_,rfl,rfl,_,rfl,?_⟩;dsimp only[vM,fT,fC,Rt.t];rw[Fv];refine⟨⟨_,FH⟩,rfl,_,rfl,rfl,xJ rfl,_,_,FH,(by show ct.ts.length<_;unfold Ct.ts;rw[cW];omega),?_⟩;refine L0 (F:=Aq ⟨Cj,mm,AQ,a0,0⟩ 3 (j1 aq cFrame cLayout) (dA (jE 1) (dA (jE 2) (dA (jE 3) nv))) _) (ρ':=[some (.pin a0 (eE aq cFrame (dj cLayout rs) most pk (fs++[f0]) ce (ct.up j) dn (.int (j:Int)) .aQ).t,false),some (aT r,false),some (u2,false),some (vT v,false)]) (OY (p:=j)) ?_ ?_;show [_,o7 (some (aT r,false)),o7 (some (u2,false)),o7 (some (vT v,false))]=_;rw[eQ (iN r),eQ i2,eQ (cH v)];exact⟨xJ rfl,rfl,rs,r,j,most,pk,fs,f0,_,_,dn,_,x,v,rfl,i2,rfl,h,hx,hn,hq⟩
noncomputable abbrev uf:qai:=["machine","row","used","made","cell"]
theorem jz:aA uf qaH (ah h7):=L2.gO
theorem qK(D:Df K mg "follow_set" h7 qaH f fd)(M:AJ K aq)(mj:cp P w K mg base "cell_of" qaF 3 (de K 2 ua))(c6:cp P w K mg base "follow_plain" qaH 2 (j7 K 3 (mi aq cFrame cLayout))):cp P w K mg base "follow_set" qaH 4 (j7 K 3 (F4 aq cFrame cLayout (NK.bp P w))):=by
 refine D.gX (Jq D.F jz rfl (by decide) λbq A outer s H E M0 qF hr us s0 q hG hl=>?_);obtain⟨Cj,mm,AQ,a0,wR⟩:=M0;have nJ:wR=0:=qF;subst nJ;have nd:=jz.nd;have hu:=bh.fM hr;have ag:=M;have T9:=LS hu;refine⟨_,(cq (dJ λ_=>(bj (i:=4) nd rfl (Or.inl rfl) (qau (aE mj hr (aa (qat (aH (ae 1) (qas af))) (aa (aj 2) ar)))) mM))
  (cq (rD (λ_=>(vI (ae 4) (qas cZ)))
   (cu (JS T9 (iL ag.cl ag.t_ (jP)) (λ_=>(ae 4)) (λ_=>(aj 3))))
   Jk)
  (cu (fj c6 hr (λ_=>(aa (aj 1) (aa (aj 2) (aa (aj 3) ar)))) rfl)))),?_⟩
 obtain⟨rs,x,k,a,j,most,pk,fr,ce,ct,dn,e,v,rfl,hk,rfl,h,hn,hq⟩:=hG;have iu:bJ (.tup ((gJ (.set x k a)).map λo=>vT (look e o)))=true:=by simp only[bJ];exact dN (f:=λo=>vT (look e o)) (λo=>cH _) _
 have ir:=iN (.set x k a);refine⟨_,ak (j:=2) rfl,rfl,e,x,k,[a],rfl,hk,rfl,?_⟩;cases hc:cellK e x k with
 |none=>rw[hc] at hq;exact⟨xJ rfl,rfl,rs,_,j,most,pk,fr,_,ct,dn,_,_,_,rfl,rfl,h,hq⟩
 |some c=>
  rw[hc] at hq;refine⟨⟨_,FD⟩,c,rfl,cH v,xJ rfl,ce.ks,ce.ts,FD,(by show ce.ts.length<_;unfold Ce.ts;rw[cW];omega),?_⟩;have hp:(eE aq cFrame (dj cLayout rs) most pk fr (Ce.s (NK.bp P w) ce) ct dn (.int (j:Int)) .aQ).put [.fld aq "cells"] (.dc (NK.bp P w) (gH ce.ks c) (c8 ce.ks ce.ts c (vT v)))=eE aq cFrame (dj cLayout rs) most pk fr (Ce.s (NK.bp P w) (ce.put c v)) ct dn (.int (j:Int)) .aQ:=by rw[OX,OW];rfl
  refine L0 (F:=Aq ⟨Cj,mm,AQ,a0,0⟩ 3 (mi aq cFrame cLayout) (dA (jE 1) (dA (jE 2) (dA (jE 3) nv))) _) (ρ':=[some (.pin a0 (eE aq cFrame (dj cLayout rs) most pk fr (Ce.s (NK.bp P w) (ce.put c v)) ct dn (.int (j:Int)) .aQ).t,false),some (aT (.set x k a),false),some (.tup ((gJ (.set x k a)).map λo=>vT (look e o)),false),some (vT v,false),some (C3 c,false)]) hp ?_ ?_;show [_,o7 (some (aT (.set x k a),false)),o7 (some (.tup ((gJ (.set x k a)).map λo=>vT (look e o)),false)),o7 (some (vT v,false)),o7 (some (C3 c,false))]=_;rw[eQ ir,eQ iu,eQ (cH v),eQ (J_ c)];exact⟨xJ rfl,rfl,rs,_,j,most,pk,fr,_,ct,dn,_,_,_,rfl,rfl,h,hq⟩
noncomputable abbrev Ka:qai:=["machine","place","call","given","names","at","name"]
theorem wV:aA Ka qaI (ah t7):=L2.gO
theorem F6(D:Df K mg "enter" t7 qaI f fd)(M:Yp mg)(M1:AJ K aq)(M2:QG K cFrame)(M3:QB K cLayout)(Kb:Ex P w K mg base "Frame" cFrame qaD 1 2 (FV cFrame)):cp P w K mg base "enter" qaI 3 (j7 K 3 (F0 aq cFrame cLayout)):=by
 obtain⟨Vv,Ua,Kc,Ke,Kg,Kh⟩:=Kb;refine D.gX (Jq D.F wV rfl (by decide) λbq A outer s H E M0 qF hr us s0 q hG hl=>?_);obtain⟨Cj,mm,AQ,a0,wR⟩:=M0;have nJ:wR=0:=qF;subst nJ;have nd:=wV.nd;have hu:=bh.fM hr;have uE:=o4 hu;have ag:=M1;have bS:=M2;have aD:=M3;refine⟨_,(cq (dJ λ_=>(dz (i:=4) nd rfl (Or.inl rfl) (qau tw) mM))
  (cq (dJ λ_=>(jK Hq rfl (Ft (by rfl) M.enumerate (qat (aH (qas (aH (qas (bo aD.cl aD.gG (qas (bo ag.cl ag.iW (bZ (ae 0)))))) (ae 1))) (qas af)))) (iF (n:=2) rfl (bO (a_ (i:=5) nd rfl (Or.inl rfl) mM) (bO (a_ (i:=6) nd rfl (Or.inl rfl) mM) fZ)))
   (ax (tE 4 uE (qat (iD (zR (ae 5) (qas (bA br bt (by rfl) M.len sg (aJ (ae 3) aV)))) (aH (ae 3) (ae 5)) af)) (ae 6)))))
  (cq (Jp (i:=2) (n:=4) (iL ag.cl ag.iX (jP)) (Oj Kc Kh (λt1 t2 q hq=>⟨t1,t2,rfl,hq⟩) (hr.mono (by decide)) (by rfl) Ke Kg))
  (cu (tM ag.cl ag.ez (λ_=>(aj 1)) rfl))))),?_⟩
 obtain⟨rs,j,f',ps,gs,most,pk,fr,ce,ct,dn,p0,c,g,rfl,hg,rfl,eG,Om,ZA,hq⟩:=hG;rw[ip];refine⟨by rw[ip];rfl,?_⟩;refine⟨rfl,_,rfl,rfl,_,rfl,_,pj eG,_,ak (j:=2) rfl,?_⟩;show mJ (eB (ps.map T.str)) _ _ _ [some (.pin a0 (QD aq cFrame (dj cLayout rs) most pk fr ce ct dn p0 .aQ),false),some (.int (j:Int),false),some (oT c,false),some (g,false),some (.dk [] [],true),none,none];refine rF (f:=T.str) (λi ρ=>∃b5 b6,ρ=[some (.pin a0 (QD aq cFrame (dj cLayout rs) most pk fr ce ct dn p0 .aQ),false),some (.int (j:Int),false),some (oT c,false),some (g,false),some (.dk (bC ps gs i).ks (bC ps gs i).ts,true),XT b5,XT b6]) ⟨none,none,rfl⟩ ?_ ?_
 . rintro i x ρ hx ⟨b5,b6,rfl⟩;have es:bC ps gs (i+1)=(bC ps gs i).put x (gs.getD i (.num 0)):=by simp only[bC,hx]
   have Bt:((bC ps gs i).ts).length<16777216:=by have:=pP ps gs i;have:=(fG.mp hx).1;unfold Ev.ts;rw[cW];omega
   rw[es];obtain rfl|rfl:=hg
   all_goals
    refine⟨rfl,rfl,ik (λh=>?_) (λh=>?_)⟩;have h':(i:Int)<((gs.map vT).length:Int):=h;rw[cW] at h';have Vu:i<gs.length:=by omega
    have ev:gs.getD i (.num 0)=gs[i]:=by rw[List.getD,m6 Vu];rfl
    refine⟨vT gs[i],ak (by rw[ij,m6 Vu];rfl),Bt,?_⟩;rw[ev,<- pJ];exact⟨some (.int (i:Int)),some (.str x),rfl⟩;have h':¬ ((i:Int)<((gs.map vT).length:Int)):=h;rw[cW] at h';have ev:gs.getD i (.num 0)=.num 0:=by rw[List.getD,Hm (by omega)];rfl
    refine⟨Bt,?_⟩;rw[ev,<- pJ];exact⟨some (.int (i:Int)),some (.str x),rfl⟩
 rintro ρ ⟨b5,b6,rfl⟩;refine⟨by rw[ip];rfl,?_⟩;refine⟨_,oT c,_,_,Fz,by rw[cW];omega,(λz=>nomatch z),rfl,F5 c,rfl,?_,?_,?_⟩;exact dN (f:=vT) cH _;intro e he;simp only[cT,gg,or_false] at he;obtain rfl|rfl|rfl|rfl|rfl|rfl|rfl:=he
 trivial;trivial;cases c<;>trivial;obtain rfl|rfl:=hg<;>trivial
 exact dN (f:=vT) cH _;exact O3 b5;exact O3 b6;have e:S.lst (fr.map (uH cFrame)++[.ins cFrame qaC [.lf (oT c),.dk (bC ps gs ps.length).ks (bC ps gs ps.length).ts]])=.lst ((fr++[Fr.mk c (bC ps gs ps.length)]).map (uH cFrame)):=by rw[sf];rfl
 refine T' (s':=eE aq cFrame (dj cLayout rs) most pk (fr++[Fr.mk c (bC ps gs ps.length)]) ce ct dn p0 .aQ) (by show S.put _ _ _=_;rw[e];exact FC) ?_;refine⟨rfl,T_ ?_,_,_,7,_,rfl,(by show 9<1000;decide),rfl,rfl,?_⟩;intro e he;simp only[K1,C5,cT,gg,or_false] at he;obtain rfl|rfl|rfl|rfl|rfl|rfl|rfl:=he
 trivial;trivial;cases c<;>trivial;obtain rfl|rfl:=hg<;>trivial
 trivial;exact O3 b5;exact O3 b6;exact hq
noncomputable abbrev qM:qai:=["machine","row","used","made","call"]
theorem i4:aA qM qaH (ah gk):=L2.gO
theorem pS(D:Df K mg "follow_give" gk qaH f fd)(M:AJ K aq)(M1:QG K cFrame):cp P w K mg base "follow_give" qaH 4 (j7 K 3 (yT aq cFrame cLayout)):=by
 refine D.gX (Jq D.F i4 rfl (by decide) λbq A outer s H E M0 qF hr us s0 q hG hl=>?_);obtain⟨Cj,mm,AQ,a0,wR⟩:=M0;have nJ:wR=0:=qF;subst nJ;have nd:=i4.nd;have ag:=M;have bS:=M1;refine⟨_,(cq (Jo (j:=4) nd rfl (Or.inl rfl) bS.cl bS.FT (iL ag.cl ag.iX (jP)))
  (cu (rD (λ_=>(vH (ae 4) (qas cZ)))
   (cu (tM ag.cl ag.kU (λ_=>(qat (a9 (aa (qat aW) (aa (aj 3) ar))))) rfl))
   jg))),?_⟩
 obtain⟨rs,most,pk,fs,f0,ce,ct,dn,pl,u1,u2,v,rfl,rfl,i1,i2,hc,hq⟩:=hG;refine⟨fs.map (uH cFrame),qaC,[.lf (oT f0.call),.dk f0.ev.ks f0.ev.ts],0,oT f0.call,(λz=>nomatch z),(by show S.get _ [.fld aq "frames"]=_;rw[Fz,sf];rfl),rfl,rfl,F5 _,xJ rfl,?_⟩;rw[hc];refine JZ (FC (fr':=fs)) (ρ':=[some (.pin a0 (eE aq cFrame (dj cLayout rs) most pk fs ce ct dn pl .aQ).t,false),some (u1,false),some (u2,false),some (vT v,false),none]) ?_ ?_;show [_,o7 (some (u1,false)),o7 (some (u2,false)),o7 (some (vT v,false)),o7 none]=_;rw[eQ i1,eQ i2,eQ (cH v)];rfl;exact⟨Gen.cw rfl,(by show bJ (.tup [.str "done",vT v])=true;simp only[bJ,cb,cH];rfl),xJ rfl,_,_,8,_,rfl,(by show 9<1000;decide),rfl,rfl,hq⟩
end
end Rg
namespace Rg
open PySem L2 VT Gen K5 Lay
open ng (cK)
open Nx (E5)
open Nm (jo As v_ jS)
open Qz (Aw Av iO)
open j8 (Vl vT nm eC RI)
structure O6(K:qaf)(mg:qae):Prop where
 len:mg "len"=none
 tuple:mg "tuple"=none
 O7:∃a,mg "SILENT"=some (.ref a)/\∀H,dD K H a [.str "else",.str "end",.str "skip"]
noncomputable def Hk(cM cF cL:Addr)(nh:List Key×Key->Int)(rs:qal)(most:Nat)(s:Lv):S:=eE cM cF (dj cL rs) (most:Int) .aQ (s.fs++[s.f]) (Ce.s nh s.ce) s.ct s.dn (.int ((s.pl:Nat):Int)) .aQ
def wW(cM cF cL:Addr)(nh:List Key×Key->Int)(rs:qal)(most:Nat)(q:S->Prop):Lv ⊕ Res->Prop
 |.inl s=>q (Hk cM cF cL nh rs most s)
 |.inr R=>∀fr ce ct pl,q (eE cM cF (dj cL rs) (most:Int) .aQ fr ce ct R.1 pl R.2)
def L3(cM cF cL:Addr)(nh:List Key×Key->Int)(us:qaj)(st:S)(q:S->T->Prop):Prop:=∃rs r s most,us=[aT r]/\st=Hk cM cF cL nh rs most s/\Wl rs/\AH rs s/\rs[s.pl]?=some r/\nD r=false/\s.dn.length<=1000/\wW cM cF cL nh rs most (λs'=>q s' .aQ) (eO rs r s)
def L4(cM cF cL:Addr)(nh:List Key×Key->Int)(us:qaj)(st:S)(q:S->T->Prop):Prop:=∃rs s most,us=[]/\st=Hk cM cF cL nh rs most s/\Wl rs/\AH rs s/\s.dn.length<=1000/\wW cM cF cL nh rs most (λs'=>q s' .aQ) (jx rs most s)
theorem O8(h:cK x=true):jS (qB (.fld x))=true:=by show ng.ow (((".":String):Str)++x)=true;unfold ng.ow;rw[ng.rm,h,Bool.and_true];exact ng.oy x
theorem AR{k:Ky}(h:JV k):([qB k].filter λt=>!jS t)=(Fx k).map eM:=by
 cases k with
 |fld x=>rw[List.filter_cons_of_neg (by rw[O8 h.1];decide)];rfl
 |op o=>rw[V3 (by show (!jS (eM o))=true;rw[pM h];rfl)];rfl
theorem pT:∀{l:List fP},(∀o∈l,rR o)->((l.map eM).filter λt=>!jS t)=l.map eM
 |[],_=>rfl
 |o::l,h=>by rw[fS,V3 (by rw[pM (h o cS)];rfl),pT λo ho=>h o (d_ _ ho)]
theorem yU(ok:Cf r):∀o∈gJ r,rR o:=by
 have kk:∀{k:Ky},JV k->∀o∈Fx k,rR o:=λ{k} h o ho=>by
  cases k with
  |fld x=>cases ho
  |op o'=>rw[gq.mp ho];exact h
 intro o ho;cases r with
 |df f ps=>obtain⟨x,hx,rfl⟩:=sh.mp ho;exact ok.2 x hx
 |put x a=>rw[gq.mp ho];exact ok
 |give a=>rw[gq.mp ho];exact ok
 |ju x a op b=>
  simp only[gJ,cT,gg,or_false] at ho;obtain rfl|rfl:=ho
  exact ok.1;exact ok.2.2
 |get x y k=>
  rcases cT.mp ho with rfl|ho
  exact ok.1;exact kk ok.2 o ho
 |set y k a=>
  rcases cT.mp ho with rfl|ho
  exact ok.1;rcases cJ.mp ho with ho|ho
  exact kk ok.2.1 o ho;rw[gq.mp ho];exact ok.2.2
 |new x=>cases ho
 |_=>exact ok.elim
theorem Ki(ok:Cf r):(gJ r).length<=100:=by
 have kk:∀k:Ky,(Fx k).length<=1:=λk=>by cases k<;>simp[Fx]
 cases r with
 |df f ps=>rw[gJ,cW];have:=ok.1;omega
 |call x f as=>exact ok.elim
 |get x y k=>have:=kk k;simp only[gJ,j9];omega
 |set y k a=>have:=kk k;simp only[gJ,j9,k7,C8];omega
 |_=>simp[gJ]
theorem Kj(ok:Cf r)(hd:∀f ps,r≠.df f ps):Av r=(gJ r).map eM/\∀t∈iO r,v_ t:=by
 have ol:∀{o:fP},rR o->v_ (eM o):=λh=>ub h;have kl:∀{k:Ky},JV k->v_ (qB k):=λ{k} h=>by
  cases k with
  |fld x=>exact .inl ⟨_,rfl,by rw[AL];have:=h.2;omega⟩
  |op o=>exact ub h
 have one:∀{a:fP},rR a->([eM a].filter λt=>!jS t)=[eM a]:=λh=>pT (l:=[_]) λo ho=>by rw[gq.mp ho];exact h
 cases r with
 |df f ps=>exact absurd rfl (hd f ps)
 |put x a=>exact⟨one ok,λt ht=>by rw[gq.mp ht];exact ol ok⟩
 |give a=>exact⟨one ok,λt ht=>by rw[gq.mp ht];exact ol ok⟩
 |ju x a op b=>
  refine⟨pT (l:=[a,b]) (yU (r:=.ju x a op b) ok),λt ht=>?_⟩;simp only[iO,cT,gg,or_false] at ht;obtain rfl|rfl:=ht
  exact ol ok.1;exact ol ok.2.2
 |get x y k=>
  refine⟨?_,λt ht=>?_⟩;show (([eM (.nm y)]++[qB k]).filter λt=>!jS t)=_;rw[List.filter_append,one ok.1,AR ok.2];rfl;simp only[iO,cT,gg,or_false] at ht;obtain rfl|rfl:=ht
  exact ol ok.1;exact kl ok.2
 |set y k a=>
  refine⟨?_,λt ht=>?_⟩;show ((([eM (.nm y)]++[qB k])++[eM a]).filter λt=>!jS t)=_;rw[List.filter_append,List.filter_append,one ok.1,one ok.2.2,AR ok.2.1];show _=(fP.nm y::(Fx k++[a])).map eM;rw[fS,sf];rfl;simp only[iO,cT,gg,or_false] at ht;obtain rfl|rfl|rfl:=ht
  exact ol ok.1;exact kl ok.2.1;exact ol ok.2.2
 |new x=>exact⟨rfl,λt ht=>nomatch ht⟩
 |_=>exact ok.elim
theorem cn.up{k k':Nat}(h:cn P w K mg base dO k f fd ps sp)(hk:k<=k'):cn P w K mg base dO k' f fd ps sp :=
 ⟨h.len,λA outer s H args us vs Q E hr e0 hb r G_=>h.run A outer s H args us vs Q E (hr.mono hk) e0 hb r G_⟩
structure Z5(w:World)(K:qaf)(mg:qae):Prop where
 ex:∃(a:Addr)(f1 f2 f3 f4 f5 f6 f7 f8 f9:Addr),mg "FOLLOWERS"=some (.ref a)/\mg "follow_plain"=some (.ref f1)/\mg "follow_give"=some (.ref f2)/\mg "follow_name"=some (.ref f3)/\mg "follow_do"=some (.ref f4)/\mg "follow_new"=some (.ref f5)/\mg "follow_set"=some (.ref f6)/\mg "follow_call"=some (.ref f7)/\mg "follow_fail"=some (.ref f8)/\mg "follow_choice"=some (.ref f9) /\
  rB w K a [("def",.ob f1),("give",.ob f2),("put",.ob f3),("do",.ob f4),("new",.ob f5),("get",.ob f3),("set",.ob f6),("call",.ob f7),("fail",.ob f8),("if",.ob f9),("while",.ob f9)]
theorem mn{k k':Nat}{f1:Addr}(C:cp P w K mg base x ps k sp)(e:mg x=some (.ref f1))(hk:k<=k'):PySem.W.keepIn K (.ref f1)=true/\∃fd ps,Binds K fd ps []/\cn P w K mg base dO k' f1 fd ps sp:=by obtain⟨f,fd,h1,h2,h3,F⟩:=C;cases h1.symm.trans e;exact⟨h2,fd,ps,h3,cn.up F hk⟩
inductive Kk(cM cF cL:Addr)(nh:List Key×Key->Int)(f1 f2 f3 f4 f5 f6 f7 f8 f9:Addr):Addr->(qaj->S->(S->T->Prop)->Prop)->Prop
 |plain:Kk cM cF cL nh f1 f2 f3 f4 f5 f6 f7 f8 f9 f1 (mi cM cF cL)
 |give:Kk cM cF cL nh f1 f2 f3 f4 f5 f6 f7 f8 f9 f2 (yT cM cF cL)
 |name:Kk cM cF cL nh f1 f2 f3 f4 f5 f6 f7 f8 f9 f3 (j1 cM cF cL)
 |Z6:Kk cM cF cL nh f1 f2 f3 f4 f5 f6 f7 f8 f9 f4 (O5 cM cF cL)
 |new:Kk cM cF cL nh f1 f2 f3 f4 f5 f6 f7 f8 f9 f5 (FZ cM cF cL)
 |set:Kk cM cF cL nh f1 f2 f3 f4 f5 f6 f7 f8 f9 f6 (F4 cM cF cL nh)
noncomputable abbrev Ub(s:Lv)(r:Rw):T:=.tup ((gJ r).map λo=>vT (look s.f.ev o))
noncomputable abbrev Vw(s:Lv)(r:Rw):T:=oV (Fy s.f.ev s.ce s.ct s.pl r)
theorem yV(s:Lv)(r:Rw):bJ (Ub s r)=true:=by simp only[bJ];exact dN (f:=λo=>vT (look s.f.ev o)) (λo=>cH _) _
noncomputable def cutD(cM cF cL a0:Addr)(nh:List Key×Key->Int):FM:=λd ρ st=>∃rs r s most P,ρ=[some (.pin a0 st.t,false),some (aT r,false),some (P,false),none,none]/\st=Hk cM cF cL nh rs most s/\(P=.tup ((gJ r).map eM)\/P=.lst ((gJ r).map eM))/\Wl rs/\AH rs s/\rs[s.pl]?=some r/\nD r=false/\s.dn.length<=1000/\wW cM cF cL nh rs most (λs'=>∀ρ',d.nx ρ' s') (eO rs r s)
noncomputable def Yq(cM cF cL a0:Addr)(nh:List Key×Key->Int):FM:=λd ρ st=>∃rs r s most P,ρ=[some (.pin a0 st.t,false),some (aT r,false),some (P,false),some (Ub s r,false),none]/\st=Hk cM cF cL nh rs most s/\Wl rs/\AH rs s/\rs[s.pl]?=some r/\nD r=false/\s.dn.length<=1000/\wW cM cF cL nh rs most (λs'=>∀ρ',d.nx ρ' s') (eO rs r s)
noncomputable abbrev Kl(cM cF cL:Addr)(nh:List Key×Key->Int)(rs:qal)(most:Nat)(s:Lv)(r:Rw):S:=eE cM cF (dj cL rs) (most:Int) .aQ (s.fs++[s.f]) (Ce.s nh s.ce) s.ct (s.dn++[JW s.f.ev s.ce s.ct s.pl r]) (.int ((s.pl:Nat):Int)) .aQ
noncomputable abbrev Km(a:Addr)(st:S)(s:Lv)(r:Rw)(x:Option (T×Bool)):En:=[some (.pin a st.t,false),some (aT r,false),x,some (Ub s r,false),some (Vw s r,false)]
theorem O9(h:Cf r):Nx.Oy r:=by cases r<;>first|exact h.elim|exact⟨by simp only[wd];decide +kernel,by simp only[wd];decide +kernel⟩
theorem O_{cM cF cL:Addr}{nh:List Key×Key->Int}{f1 f2 f3 f4 f5 f6 f7 f8 f9:Addr}{s:Lv}{most:Nat}{q:S->T->Prop}(W:Wl rs)(I:AH rs s)(hr:rs[s.pl]?=some r)(F7:s.dn.length<=1000)(hq:wW cM cF cL nh rs most (λs'=>q s' .aQ) (eO rs r s)) :
  ∃f G,BO [("def",T.ob f1),("give",.ob f2),("put",.ob f3),("do",.ob f4),("new",.ob f5),("get",.ob f3),("set",.ob f6),("call",.ob f7),("fail",.ob f8),("if",.ob f9),("while",.ob f9)] (wd r)=some (.ob f)/\Kk cM cF cL nh f1 f2 f3 f4 f5 f6 f7 f8 f9 f G/\G [aT r,Ub s r,Vw s r] (Kl cM cF cL nh rs most s r) q:=by
 have rV:=W.ok r (fR hr);have Vx:s.f.ev.is.length<=1000000:=by have:=I.ev.n;omega
 have at':T8 rs s.pl r:=⟨hr,O9 rV⟩;have ui:=yV s r;cases r with
 |df f ps=>exact⟨f1,_,rfl,.plain,rs,_,s.pl,most,.aQ,_,_,_,_,_,_,_,rfl,rfl,at',hq⟩
 |put x a=>exact⟨f3,_,rfl,.name,rs,_,s.pl,most,.aQ,s.fs,s.f,_,_,_,_,x,look s.f.ev a,rfl,ui,rfl,at',rfl,Vx,hq⟩
 |get x y k=>exact⟨f3,_,rfl,.name,rs,_,s.pl,most,.aQ,s.fs,s.f,_,_,_,_,x,s.ce.at' (cellK s.f.ev y k),rfl,ui,rfl,at',rfl,Vx,hq⟩
 |set y k a=>exact⟨f6,_,rfl,.set,rs,y,k,a,s.pl,most,.aQ,_,s.ce,_,_,s.f.ev,look s.f.ev a,rfl,rV.2.1,rfl,at',by have:=I.ce.1;omega,hq⟩
 |new x=>exact⟨f5,_,rfl,.new,rs,_,s.pl,most,.aQ,s.fs,s.f,_,_,_,_,x,.dZ s.pl (s.ct.get s.pl),rfl,ui,rfl,at',rfl,Vx,by have:=I.ct;omega,hq⟩
 |ju x a op b=>obtain⟨_,rfl,_⟩:=rV;exact⟨f4,_,rfl,.Z6,rs,_,s.pl,most,.aQ,s.fs,s.f,_,_,_,_,x,.num (if look s.f.ev a=look s.f.ev b then 1 else 0),rfl,ui,rfl,at',rfl,Vx,hq⟩
 |give a=>
   have ed:eO rs (.give a) s=.inr (s.dn++[JW s.f.ev s.ce s.ct s.pl (.give a)],AF (look s.f.ev a)):=by unfold eO;dsimp only;rw[I.ca]
   rw[ed] at hq;exact⟨f2,_,rfl,.give,rs,most,.aQ,s.fs,s.f,_,_,_,_,_,_,look s.f.ev a,rfl,rfl,iN _,ui,I.ca,hq _ _ _ _⟩
 |_=>exact rV.elim
section
variable{cLayout cFrame aq:Addr}
noncomputable abbrev pU:qai:=["machine","row","parts","used","made"]
theorem mY:aA pU qaJ (ah jZ):=L2.gO
theorem pV:(pU++(["part"]:qai)).Nodup:=by decide +kernel
theorem wX(D:Df K mg "done_row" jZ qaJ f fd)(M:O6 K mg)(M1:AJ K aq)(M2:Z5 w K mg)(yW:cp P w K mg base "operands" ["row"] 3 (de K 1 Aw))(yX:cp P w K mg base "value_of" qaE 2 (de K 2 (T7 aq cFrame)))(Cm:cp P w K mg base "made_by" qaG 4 (de K 3 (AK aq cFrame (NK.bp P w))))(c6:cp P w K mg base "follow_plain" qaH 2 (j7 K 3 (mi aq cFrame cLayout)))(du:cp P w K mg base "follow_name" qaH 3 (j7 K 3 (j1 aq cFrame cLayout)))(wY:cp P w K mg base "follow_do" qaH 4 (j7 K 3 (O5 aq cFrame cLayout)))(qN:cp P w K mg base "follow_give" qaH 4 (j7 K 3 (yT aq cFrame cLayout)))(ug:cp P w K mg base "follow_new" qaH 4 (j7 K 3 (FZ aq cFrame cLayout)))(uh:cp P w K mg base "follow_set" qaH 4 (j7 K 3 (F4 aq cFrame cLayout (NK.bp P w)))):cp P w K mg base "done_row" qaJ 5 (j7 K 1 (L3 aq cFrame cLayout (NK.bp P w))):=by
 refine D.gX (Jq D.F mY rfl (by decide) λbq A outer s H E M0 qF hr us s0 q hG hl=>?_);obtain⟨Cj,mm,AQ,a0,wR⟩:=M0;have nJ:wR=0:=qF;subst nJ;have nd:=mY.nd;have hu:=bh.fM hr;have ag:=M1;obtain⟨aF,f1,f2,f3,f4,f5,f6,f7,f8,f9,wZ,e1,e2,e3,e4,e5,e6,e7,e8,e9,uj⟩:=M2.ex;have w_:∀f' G,Kk aq cFrame cLayout (NK.bp P w) f1 f2 f3 f4 f5 f6 f7 f8 f9 f' G->PySem.W.keepIn K (.ref f')=true/\∃fd ps,Binds K fd ps []/\cn P w K mg base dO 4 f' fd ps (j7 K 3 G):=by
  intro f' G h;cases h with
  |plain=>exact mn c6 e1 (by decide)
  |give=>exact mn qN e2 (by decide)
  |name=>exact mn du e3 (by decide)
  |Z6=>exact mn wY e4 (by decide)
  |new=>exact mn ug e5 (by decide)
  |set=>exact mn uh e6 (by decide)
 refine⟨_,(cq (dJ λ_=>(bj (i:=2) nd rfl (Or.inl rfl) (qau (iD (cy hu (qas (aH (ae 1) (qas af))) (qas aW)) (aH (ae 1) (qas af)) (aE yW hr (aa (aj 1) ar)))) mM))
  (An.weak (u:=(cutD aq cFrame cLayout a0 (NK.bp P w))) (cq (dJ λ_=>(bj (i:=3) nd rfl (Or.inl rfl) (qau (dU gh iE (by rfl) M.tuple dH (aJ (qas (f_ (ts:=["part"]) rfl (by rfl) (jJ (aj 2)) (λ_ _ _ _ _ _=>(a_ (i:=5) pV rfl (Or.inl rfl) mM)) (λ_ _ _ _ _ _=>eS) (λ_ _ _ _ _ _=>(qat (aE yX hr (aa (aj 0) (aa (aj 5) ar))))))) aV))) mM))
  (An.weak (u:=(Yq aq cFrame cLayout a0 (NK.bp P w))) (cq (dJ λ_=>(bj (i:=4) nd rfl (Or.inl rfl) (qau (aE Cm hr (aa (aj 0) (aa (aj 1) (aa (aj 3) ar))))) mM))
  (cq (dJ λ_=>(bH (VW.vc (oA (vI (qas (bo ag.cl ag.t9 (bZ (ae 0)))) (qas cZ)) (nI (cy hu (qas (aH (qas (bo ag.cl ag.t9 (bZ (ae 0)))) (qas af))) (qas (bA br bt (by rfl) M.len sg (aJ (qas (bo ag.cl ag.iY (bZ (ae 0)))) aV)))))))
   (ax (bj (i:=4) nd rfl (Or.inl rfl) (qau (aH (qas (bo ag.cl ag.t9 (bZ (ae 0)))) (qas af))) mM))
   aP))
  (cq (BW (iL ag.cl ag.iY (jP)) (λ_=>(qat (a9 (aa (qat (bo ag.cl ag.ez (bZ (ae 0)))) (aa (aj 3) (aa (aj 4) ar)))))))
  (cu (Fb w_ (hr.mono (by decide)) (λ_=>qat (Oz (by rfl) wZ uj (qas (aH (ae 1) (qas af))))) (λ_=>(aa (aj 1) (aa (aj 3) (aa (aj 4) ar)))) rfl))))) ?w2)) ?w1)),?main⟩
 case w1=>
  rintro d ρ st ⟨rs,r,s,most,P',rfl,rfl,hP,W,I,eG,hs,F7,hq⟩;have rV:=W.ok r (fR eG);have oO:=yU rV;have oL:=Ki rV;rw[Hk,ip];obtain rfl|rfl:=hP
  all_goals
   refine⟨rfl,by rw[cW];exact mQ (by omega),?_⟩;refine fm (f:=eM) (u:=λo=>vT (look s.f.ev o)) (λo ho k hk=>?_) ?_;exact⟨rfl,a0,_,_,_,s.fs,s.f,_,_,_,_,_,o,_,rfl,oO o ho,I.ev,by omega,hk⟩;exact⟨by rw[ip];rfl,rs,r,s,most,_,by rw[ip];rfl,rfl,W,I,eG,hs,F7,hq⟩
 case w2=>
  rintro d ρ st ⟨rs,r,s,most,P',rfl,rfl,W,I,eG,hs,F7,hq⟩;have rV:=W.ok r (fR eG);have oO:=yU rV;have rd:=rV;have Hh:bJ (JW s.f.ev s.ce s.ct s.pl r)=true:=by unfold JW;have:=yV s r;simp only[bJ] at this;simp only[bJ,cb,this,yO,zA]
  have fol:∀x2:Option (T×Bool),fT (Tx [("def",.ob f1),("give",.ob f2),("put",.ob f3),("do",.ob f4),("new",.ob f5),("get",.ob f3),("set",.ob f6),("call",.ob f7),("fail",.ob f8),("if",.ob f9),("while",.ob f9)] (fT (VT.f2 (zP 1) (fT (fC (.int 0))) Vb))) (Km a0 (Kl aq cFrame cLayout (NK.bp P w) rs most s r) s r x2) λt=>∃f G,t=.ob f/\Kk aq cFrame cLayout (NK.bp P w) f1 f2 f3 f4 f5 f6 f7 f8 f9 f G/\(dA (jE 1) (dA (jE 3) (dA (jE 4) nv))) (Km a0 (Kl aq cFrame cLayout (NK.bp P w) rs most s r) s r x2) λus=>us.length=3/\G us (Kl aq cFrame cLayout (NK.bp P w) rs most s r) λs' _=>d.nx (j6 ⟨Cj,mm,AQ,a0,0⟩ (Km a0 (Kl aq cFrame cLayout (NK.bp P w) rs most s r) s r x2) s') s':=λx2=>by
   have IY:wW aq cFrame cLayout (NK.bp P w) rs most (λs'=>d.nx (j6 ⟨Cj,mm,AQ,a0,0⟩ (Km a0 (Kl aq cFrame cLayout (NK.bp P w) rs most s r) s r x2) s') s') (eO rs r s):=by
    cases hd:eO rs r s with
    |inl s'=>rw[hd] at hq;exact hq _
    |inr R=>rw[hd] at hq;exact λfr ce ct pl=>hq fr ce ct pl _
   obtain⟨f',G,h1,h2,h3⟩:=O_ (q:=λs' _=>d.nx (j6 ⟨Cj,mm,AQ,a0,0⟩ (Km a0 (Kl aq cFrame cLayout (NK.bp P w) rs most s r) s r x2) s') s') W I eG F7 IY;obtain⟨l,el⟩:=nR r;unfold Km at h3 ⊢;rw[el] at h3 ⊢;exact⟨_,ak (j:=0) rfl,_,h1,f',G,rfl,h2,rfl,h3⟩
  have Yr:∀t,∀x∈Km a0 (Kl aq cFrame cLayout (NK.bp P w) rs most s r) s r (o7 (some (t,false))),fO x:=λt x hx=>by
   simp only[Km,cT,gg,or_false] at hx;obtain rfl|rfl|rfl|rfl|rfl:=hx
   trivial;exact O3 (some (aT r));show fO (if bJ t=true then some (t,false) else none);split;exact O3 (some t);trivial;trivial;exact O3 (some (Vw s r))
  rw[Hk,ip];refine⟨rfl,a0,_,_,_,_,s.ce,s.ct,s.dn,s.pl,_,s.f.ev,r,_,rfl,rd,oO,I.ev,by rw[ip];rfl,?_⟩;refine⟨rfl,_,rfl,by rw[ip];rfl,?_⟩;refine⟨s.dn.map .lf,FJ,by rw[cW];omega,?_⟩;refine⟨rfl,_,rfl,Gen.cw rfl,Hh,xJ rfl,?_⟩;refine FY (ρ':=Km a0 (Kl aq cFrame cLayout (NK.bp P w) rs most s r) s r (o7 (some (P',false)))) OZ ?_ ?_;show [_,o7 (some (aT r,false)),o7 (some (_,false)),o7 (some (Ub s r,false)),o7 (some (Vw s r,false))]=_;rw[eQ (iN r),eQ (yV s r),eQ (yO _)];rfl;exact⟨Yr _,fol _⟩
 case main=>
  obtain⟨rs,r,s,most,rfl,rfl,W,I,eG,hs,F7,hq⟩:=hG;have rV:=W.ok r (fR eG);have IY:wW aq cFrame cLayout (NK.bp P w) rs most (λs'=>∀ρ':En,q s' .aQ) (eO rs r s):=by
   cases hd:eO rs r s with
   |inl s'=>rw[hd] at hq;exact λ_=>hq
   |inr R=>rw[hd] at hq;exact λfr ce ct pl _=>hq fr ce ct pl
  by_cases Nf:∃f ps,r=.df f ps;obtain⟨f',ps,rfl⟩:=Nf;exact⟨_,ak (j:=0) rfl,_,ak (j:=2) rfl,rfl,rs,_,s,most,_,rfl,rfl,.inl (by rw[gJ,zB];rfl),W,I,eG,hs,F7,IY⟩;obtain⟨l,el⟩:=nR r;have hw:decide (wd r="def")=false:=by cases r<;>first|rfl|exact absurd ⟨_,_,rfl⟩ Nf
  obtain⟨o1,o2⟩:=Kj rV (λf ps z=>Nf ⟨f,ps,z⟩);rw[el];refine⟨_,ak (j:=0) rfl,ik (λh=>absurd h (of_decide_eq_false hw)) (λ_=>?_)⟩;exact⟨rfl,r,by rw[el],o2,rfl,rs,r,s,most,_,by rw[el];rfl,rfl,.inr (congrArg T.lst o1),W,I,eG,hs,F7,IY⟩
noncomputable abbrev F8:qai:=qaJ
theorem AS:aA F8 ["machine"] (ah t8):=L2.gO
theorem Kn(D:Df K mg "step" t8 ["machine"] f fd)(M:O6 K mg)(M1:AJ K aq)(M2:QB K cLayout)(yY:cp P w K mg base "done_row" qaJ 5 (j7 K 1 (L3 aq cFrame cLayout (NK.bp P w)))):cp P w K mg base "step" ["machine"] 6 (j7 K 0 (L4 aq cFrame cLayout (NK.bp P w))):=by
 refine D.gX (Jq D.F AS rfl (by decide) λbq A outer s H E M0 qF hr us s0 q hG hl=>?_);obtain⟨Cj,mm,AQ,a0,wR⟩:=M0;have nJ:wR=0:=qF;subst nJ;have nd:=AS.nd;have ag:=M1;have aD:=M2;obtain⟨aS,mS,hS⟩:=M.O7;have F9:∀{H':Hp}{pos},VP (eR dO P w K mg base F8 "step" (ah t8) f bq A outer s H E).nX ⟨H',[],AQ⟩ (.Name "SILENT" pos) (fC (.tup [.str "else",.str "end",.str "skip"])):=λ{H' pos}=>ja (by rfl) mS (v:=.ref aS) rfl λH A=>cf (hS H) (ay.cons c_ (ay.cons c_ (ay.cons c_ ay.nil)));refine⟨_,(cq (dJ λ_=>(bj (i:=1) nd rfl (Or.inl rfl) (qau (aH (qas (bo aD.cl aD.gG (qas (bo ag.cl ag.iW (bZ (ae 0)))))) (qas (bo ag.cl ag.ez (bZ (ae 0)))))) mM))
  (cu (rD (λ_=>(vG (qas (aH (ae 1) (qas af))) (qas F9)))
   jg
   (cu (rD (λ_=>(Sa (qas (bA br bt (by rfl) M.len sg (aJ (qas (bo ag.cl ag.iY (bZ (ae 0)))) aV))) (qas (bo ag.cl ag.FU (bZ (ae 0))))))
    (cu (tM ag.cl ag.kU (λ_=>(qat (a9 (aa (qat aW) (aa (qat af) ar))))) rfl))
    (cu (fj yY hr (λ_=>(aa (aj 1) ar)) rfl))))))),?_⟩
 obtain⟨rs,l,most,rfl,rfl,W,I,F7,hq⟩:=hG;obtain⟨r,eG⟩:∃r,rs[l.pl]?=some r:=⟨_,m6 I.pl⟩;unfold jx at hq;rw[eG] at hq;dsimp only at hq;rw[Hk,ip];refine⟨rfl,_,rfl,rfl,_,rfl,rfl,_,rfl,_,pj eG,by rw[ip];rfl,?_⟩;have hs:=FR (W.ok r (fR eG));have Yt:nD r=false->(most:Int)<=(l.dn.length:Int)->q (eE aq cFrame (dj cLayout rs) (most:Int) .aQ (l.fs++[l.f]) (Ce.s (NK.bp P w) l.ce) l.ct l.dn (.int ((l.pl:Nat):Int)) wI) .aQ:=λh1 h2=>by rw[if_neg (by rw[h1];exact eh),if_pos (by omega)] at hq;exact hq _ _ _ _
 have Uc:nD r=false->¬ (most:Int)<=(l.dn.length:Int)->wW aq cFrame cLayout (NK.bp P w) rs most (λs'=>q s' .aQ) (eO rs r l):=λh1 h2=>by rw[if_neg (by rw[h1];exact eh),if_neg (by omega)] at hq;exact hq
 obtain⟨l',el⟩:=nR r;have Yu:IJ (.str (wd r)) [.str "else",.str "end",.str "skip"]=nD r:=by cases r<;>rfl
 rw[el];refine⟨_,ak (j:=0) rfl,rfl,rfl,lU (c:=IJ (.str (wd r)) [.str "else",.str "end",.str "skip"]) (Yu.trans hs) ?_⟩;refine⟨rfl,_,rfl,rfl,_,rfl,ik (λh=>?_) (λh=>?_)⟩;have h':(most:Int)<=(l.dn.length:Int):=h;refine⟨Gen.cw rfl,rfl,xJ rfl,_,_,8,_,rfl,(by show 9<1000;decide),rfl,rfl,?_⟩;exact Yt hs h';have h':¬ (most:Int)<=(l.dn.length:Int):=h;exact⟨xJ rfl,rfl,rs,r,l,most,by rw[el];rfl,rfl,W,I,eG,hs,F7,Uc hs h'⟩
end
end Rg
namespace Rg
open PySem L2 VT Gen K5 Lay
open j8 (JO Vl vT nm eC RI)
noncomputable def kX(ins:qan):List Vl:=ins.map λi=>.num (eC i)
noncomputable def Pa(a:Nat)(ps:qai)(ins:qan):Lv:=⟨[],⟨none,bC ps (kX ins) ps.length⟩,⟨[],[]⟩,⟨[],[]⟩,[],a⟩
inductive xa(rs:qal)(ins:qan)(most:Nat):Res->Prop where
 |OR {a n:Nat} {f:Str} {ps:qai} {R:Res} (h:gc rs=some a) (hd:rs[a]?=some (.df f ps)) (k:LZ rs most n (Pa a ps ins) R):xa rs ins most R
def Z7(ts:qaj)(q:qaj->T->Prop):Prop:=∃rs ins most R,ts=[.lst (rs.map aT),.lst (ins.map .int),.int ((most:Nat):Int),.aQ]/\Wl rs/\ins.length<=100/\most<=900/\xa rs ins most R/\q R.1 R.2
theorem Pb(W:Wl rs){a:Nat}{f:Str}(hd:rs[a]?=some (.df f ps))(ins:qan):AH rs (Pa a ps ins):=by have Yv:=W.ok _ (fR hd);refine⟨(fG.mp hd).1,rfl,rfl,?_,⟨cU _,(λv hv=>nomatch hv)⟩,cU _⟩;refine (t6 ps _ (λv hv=>?_) ps.length).up (by have:=Yv.1;show _<=100+0;omega);obtain⟨i,_,rfl⟩:=sh.mp hv;exact Rg.yN i
def Ud(P:Program)(w:World)(K:qaf)(mg:qae)(base:Heap)(C:Addr)(GL:qaj->(T->Prop)->Prop)(k:Nat):Prop :=
 ∃f fd,Mk K C f/\mg "Machine"=some (.ref C)/\Binds K fd qaB []/\cn P w K mg base dO k f fd qaB (Yh K C (.dc (NK.bp P w) [] []) GL)
noncomputable def Vy(a:Addr)(most:Nat)(m:T)(s:S):En:=[none,none,some (.int (most:Int),false),some (.aQ,false),some (.pin a s.t,false),some (m,false)]
section
variable{cLayout cFrame aq:Addr}
noncomputable abbrev Cn:qai:=qaB
theorem yZ:aA Cn qaB (ah gK):=L2.gO
theorem y0(D:Dc K mg "Machine" "Machine.__init__" gK qaB aq f fd)(L:AJ K aq)(F_:Ex P w K mg base "Layout" cLayout qax 2 1 (kK cLayout)):Ud P w K mg base aq (kK cLayout) 4:=by obtain⟨Ue,QH,Ga,Gb,Gd,Ge⟩:=F_;exact⟨f,fd,D.M,D.m,D.b,fnK D.F yZ rfl λbq A outer s H E hr=>Fd (.inr ⟨_,rfl⟩) Ga Ge (hr.mono (by decide)) (by rfl) Gb Gd L.cl L.iW L.FU L.t9 L.iX L.t_ L.kS L.iY L.ez L.kU⟩
noncomputable abbrev i5:qai:=["program","inputs","most","poke","machine","main"]
theorem kY:aA i5 qaK (ah gf):=L2.gO
theorem nF:(i5++(["number"]:qai)).Nodup:=by decide +kernel
theorem uk(D:Df K mg "run_poked" gf qaK f fd)(ag:AJ K aq)(aD:QB K cLayout)(Co:Ud P w K mg base aq (kK cLayout) 4)(Ko:cp P w K mg base "enter" qaI 3 (j7 K 3 (F0 aq cFrame cLayout)))(Gf:cp P w K mg base "fit" ["number"] 1 (de K 1 JO))(Pc:cp P w K mg base "step" ["machine"] 6 (j7 K 0 (L4 aq cFrame cLayout (NK.bp P w)))) :
  cp P w K mg base "run_poked" qaK 7 (QC K 4 Z7):=by
 obtain⟨QI,Pe,Cp,Cq,Cr,Cs⟩:=Co;refine D.gX (fnR (GL:=kK cLayout) (cz:=.dc (NK.bp P w) [] []) (j:=4) (C:=aq) D.F kY rfl (by decide) λbq A outer s H E hr t0 t1 t2 t3 q hG=>?_);have nd:=kY.nd;obtain⟨rs,ins,most,R,et,W,E8,Z8,hR,hq⟩:=hG;cases et;refine⟨_,λL=>L=dj cLayout rs,Fh (X:=(eR dO P w K mg base i5 "run_poked" (ah gf) f bq A outer s H E).nX) (k:=4) nd rfl (Or.inl rfl) Cp Cs (hr.mono (by decide)) (by rfl) Cq Cr (λH0 rk Ox a=>(pF (dJ λ_=>(bj (i:=5) nd rfl (Or.inl rfl) (qau (bo aD.cl aD.E3 (qas (bo ag.cl ag.iW (bZ (ae 4)))))) mM))
   (pF (rD (λ_=>(vH (ae 5) (qas cZ)))
     jg
     (cu (fj Ko hr (λ_=>(aa (aj 5) (aa (qat cZ) (aa (qat (f_ (ts:=["number"]) rfl (by rfl) (jJ (aj 1)) (λ_ _ _ _ _ _=>(a_ (i:=6) nF rfl (Or.inl rfl) mM)) (λ_ _ _ _ _ _=>eS) (λ_ _ _ _ _ _=>(qat (aE Gf hr (aa (aj 6) ar)))))) ar)))) rfl)))
   (pF (E9 Hq (λ_=>(vH (qas (bo ag.cl ag.kU (bZ (ae 4)))) (qas cZ)))
     (cu (fj Pc hr (λ_=>ar) rfl)))
   (JU (iL ag.cl ag.iY (jP)) (λ_=>(qat (bo ag.cl ag.kU (bZ (ae 4)))))))))),by decide,rfl,rfl,⟨rs,rfl,W.wf,W.n,rfl⟩,?_⟩
 rintro L rfl H0 rk Ox a;show LP _ _ _ _ [some (.lst (rs.map aT),false),some (.lst (ins.map .int),false),some (.int (most:Int),false),some (.aQ,false),some (.pin a (eE aq cFrame (dj cLayout rs) most .aQ [] (.dc (NK.bp P w) [] []) ⟨[],[]⟩ [] .aQ .aQ).t,false),none] (eE aq cFrame (dj cLayout rs) most .aQ [] (.dc (NK.bp P w) [] []) ⟨[],[]⟩ [] .aQ .aQ);rw[ip];refine⟨rfl,_,rfl,rfl,_,rfl,by rw[ip];rfl,?_⟩;cases hR with
 |@OR a' n f' ps R' h hd k0=>
   rw[h];have Yv:=W.ok _ (fR hd);have I0:=Pb W hd ins;obtain⟨t1,t3,hN⟩:=k0.tells W I0 rfl;refine⟨xJ rfl,rfl,mQ (by rw[cW];omega),?_⟩;refine fm (f:=T.int) (u:=λi=>.int (eC i)) (λi _ k hk=>⟨rfl,i,rfl,hk⟩) ?_;refine⟨rfl,rs,a',f',ps,kX ins,most,.aQ,[],_,_,_,_,none,_,rfl,.inl (by unfold kX;rw[zB];rfl),rfl,hd,by have:=Yv.1;omega,by decide,?_⟩;refine⟨λm ρ s=>(∃l,ρ=Vy a most (.int ((a':Nat):Int)) s/\s=Hk aq cFrame cLayout (NK.bp P w) rs most l/\AH rs l/\l.dn.length<=most/\∃m',m=m'+1/\LZ rs most m' l R)\/(∃fr ce ct pl,ρ=Vy a most (.int ((a':Nat):Int)) s/\s=eE aq cFrame (dj cLayout rs) most .aQ fr ce ct R.1 pl R.2/\m=0),
    ⟨_,.inl ⟨Pa a' ps ins,rfl,rfl,I0,ji _,n,rfl,k0⟩⟩,?_⟩
   rintro m ρ s (⟨l,rfl,rfl,I,hl,m',rfl,hk⟩|⟨fr,ce,ct,pl,rfl,rfl,rfl⟩);unfold Vy Hk;rw[ip];refine⟨rfl,_,rfl,?_⟩;refine⟨xJ rfl,rfl,rs,l,most,rfl,rfl,W,I,by omega,?_⟩;cases hk with
   |fin h2=>rw[h2];exact λfr ce ct pl=>⟨0,by omega,.inr ⟨fr,ce,ct,pl,rfl,rfl,rfl⟩⟩
   |@go n' _ s' _ h2 k2=>have hs:=wM W I h2;rw[h2];exact⟨n'+1,by omega,.inl ⟨s',rfl,rfl,hs.1,hs.2.1,n',rfl,k2⟩⟩
   unfold Vy;rw[ip];refine⟨rfl,_,rfl,?_⟩;refine lU (c:=mK R.2) hN ?_;exact⟨R.1,FJ,t1,rfl,_,rfl,t3,hq⟩
noncomputable abbrev Ug:qai:=qaL
theorem Pf:aA Ug qaL (ah fu):=L2.gO
def Yw(ts:qaj)(q:qaj->T->Prop):Prop:=∃rs ins most R,ts=[.lst (rs.map aT),.lst (ins.map .int),.int ((most:Nat):Int)]/\Wl rs/\ins.length<=100/\most<=900/\xa rs ins most R/\q R.1 R.2
def Uh(P:Program)(w:World)(K:qaf)(mg:qae)(base:Heap):Prop :=
 ∃f fd tk,mg "run"=some (.ref f)/\PySem.W.keepIn K (.ref f)=true/\Binds K fd qaL []/\Binds K fd qaL [.int 200 tk]/\cn P w K mg base dO 8 f fd qaL (QC K 3 Yw)
theorem Pg{tk:Tok}(F:Fj K "run" "run" fu f fd)(m:mg "run"=some (.ref f))(b:Binds K fd qaL [])(b2:Binds K fd qaL [.int 200 tk])(xb:cp P w K mg base "run_poked" qaK 7 (QC K 4 Z7)):Uh P w K mg base:=by obtain⟨L5,Kp,xc,xf,xg,xh⟩:=xb;refine⟨f,fd,tk,m,F.kp,b,b2,Yi F Pf rfl (by decide) λbq A outer s H E Ox hr ts q hG hl=>?_⟩;obtain⟨rs,ins,most,R,rfl,W,E8,Z8,hR,hq⟩:=hG;exact⟨_,_,_,rfl,pG xh (hr.mono (by decide)) (by rfl) xc xf xg .nil (dts:=[]) (λ_ _=>ay.nil) (aa (aj 0) (aa (aj 1) (aa (aj 2) (aa (qat cZ) ar)))),rfl,rs,ins,most,R,rfl,W,E8,Z8,hR,hq⟩
end
end Rg
namespace xi
open PySem L2 VT Gen
open ng (bM Bu cK)
def one(c:Nat):Str:=⟨#[c]⟩
theorem empty_eq:(("":String):Str)=⟨#[]⟩:=by decide +kernel
theorem glue:∀l:qao,Txt.join "" (l.map one)=⟨l.toArray⟩
 |[]=>by decide +kernel
 |c::l=>by
  have ih:=glue l;unfold Txt.join at ih ⊢;rw[StrLaws.glued_eq_join] at ih ⊢;cases l with
  |nil=>rfl
  |cons d l=>rw[fS,fS];show one c++(("":String):Str)++Str.join _ (one d::l.map one)=_;rw[fS] at ih;rw[ih,empty_eq];show (⟨(#[c]++#[])++(d::l).toArray⟩:Str)=_;simp
noncomputable def bL(n:Int)(j:Nat):Nat:=qA (n / (7 * (j:Int)+3))
noncomputable def dR(n:Int):qai:=(List.range 8).map λj=>one (bL n j)
noncomputable def Ph(n:Int)(k:Nat):Str:=⟨((List.range (k+1)).map (bL n)).toArray⟩
noncomputable def qO(n:Int)(p k j:Nat):Nat:=if j=p then qA (n / 5+(k:Int)) else bL n j
noncomputable def alt(n:Int)(sz p k:Nat):Str:=⟨((List.range sz).map (qO n p k)).toArray⟩
structure um(m:Nat)(ys:qai):Prop where
 l:ys.length=m
 nd:ys.Nodup
 nm:∀y∈ys,cK y=true
theorem pW(n:Int):(dR n).length=8:=by simp[dR]
theorem xj(l:qao)(h1:1<=l.length)(h8:l.length<=8)(h:∀c∈l,Bu c=true):cK ⟨l.toArray⟩=true:=by
 unfold cK;have e:(⟨l.toArray⟩:Str).length=l.length:=by simp[Str.length]
 rw[e,decide_eq_true (by omega),decide_eq_true (by omega),Mr,Mr];exact K2.mpr h
theorem Pj(n:Int){m:Nat}(hm:m<=8):um m ((List.range m).map (Ph n)):=by
 refine⟨by simp,?_,λy hy=>?_⟩;rw[List.Nodup,List.pairwise_map];refine List.Pairwise.imp_of_mem ?_ (List.nodup_range (n:=m));intro i j hi hj eW e;have e2:(Ph n i).length=(Ph n j).length:=by rw[e]
 simp[Ph,Str.length] at e2;exact eW e2;obtain⟨k,hk,rfl⟩:=sh.mp hy;have Al:=G4.mp hk;refine xj _ (by simp) (by simp;omega) λc hc=>?_;obtain⟨j,_,rfl⟩:=sh.mp hc;exact Ar _
theorem Pk(n:Int){sz p m:Nat}(h1:1<=sz)(h8:sz<=8)(hp:p<sz)(hm:m<=26):um m ((List.range m).map (alt n sz p)):=by
 refine⟨by simp,?_,λy hy=>?_⟩;rw[List.Nodup,List.pairwise_map];refine List.Pairwise.imp_of_mem ?_ (List.nodup_range (n:=m));intro i j hi hj eW e;have DP:=G4.mp hi;have C1:=G4.mp hj;have h2:(List.range sz).map (qO n p i)=(List.range sz).map (qO n p j):=by have:=congrArg (λy:Str=>y.cps.toList) e;exact this
 have h3:=congrArg (λl:qao=>l[p]?) h2;simp only[ij,UL hp,QV,Option.some.injEq,qO,if_true] at h3;have h4:=EL h3;omega;obtain⟨k,hk,rfl⟩:=sh.mp hy;refine xj _ (by simp;omega) (by simp;omega) λc hc=>?_;obtain⟨j,_,rfl⟩:=sh.mp hc;unfold qO;split<;>exact Ar _
theorem rW(n:Int){k:Nat}(hk:k<=8):(dR n).take k=((List.range k).map (bL n)).map one:=by unfold dR;rw[<- List.map_take,List.take_range,Nat.min_eq_left hk,zB];rfl
theorem Gh(n:Int){sz p k:Nat}(hsz:sz<=8)(hp:p<sz):((dR n).take sz).set p (one (qA (n / 5+(k:Int))))=((List.range sz).map (qO n p k)).map one:=by
 rw[rW n hsz,zB,zB];refine Ql λi=>?_;rw[QU,ij,ij];by_cases hi:i<sz;rw[UL hi];by_cases e:p=i;subst e;rw[if_pos rfl,if_pos (by simpa using hp)];simp[qO];rw[if_neg e];have:¬ i=p:=λz=>e z.symm;simp[qO,this];rw[Hm (by simp;omega)];split;split
 rename_i h1 h2;omega
 rfl;rfl
end xi
namespace c9
open PySem L2 VT Gen xi
open ng (bM)
noncomputable def top(i:Nat):Stmt:=PySem.Challenge.pw_slicewise_k13_records_and_cells.main.body.getD i (.Pass ⟨0,0,0,0⟩)
noncomputable abbrev mq:Stmt:=top 54
noncomputable abbrev uo:Stmt:=top 55
noncomputable abbrev pX:Stmt:=top 58
noncomputable abbrev mv:Stmt:=top 59
noncomputable abbrev Gi:Stmt:=top 60
noncomputable abbrev s_row:Stmt:=top 61
structure Mg(mg:qae):Prop where
 len:mg "len"=none
 range:mg "range"=none
 tuple:mg "tuple"=none
theorem mQ(h:n<=1000):n<=sizeLine:=Gen.small h
noncomputable abbrev h9(ys:qai):T:=.lst (ys.map .str)
def Gj(n:Int):Prop:=0<=n/\n<2147483648
theorem Gj.div{n:Int}(h:Gj n){e:Int}(he:0<e):Gj (n / e):=⟨Int.ediv_nonneg h.1 (by omega),Int.lt_of_le_of_lt (Int.ediv_le_self _ h.1) h.2⟩
structure Ys(ys:qai):Prop where
 l3:3<=ys.length
 l8:ys.length<=8
 sm:∀y∈ys,y.length<=100
theorem Ys.at(h:Ys ys)(n:Int):∃y∈ys,jB (ys.map T.str) (n % ((ys.map T.str).length:Int))=some (T.str y):=by
 have e:((ys.map T.str).length:Int)=(ys.length:Int):=by rw[cW]
 have l3:=h.l3;have h0:0<=n % ((ys.map T.str).length:Int):=uK n (by omega);have h1:n % ((ys.map T.str).length:Int)<ys.length:=by rw[e];exact uJ n (by omega)
 obtain⟨j,hj⟩:=KW h0;have gQ:j<ys.length:=by omega
 refine⟨ys[j],K3 gQ,?_⟩;rw[hj];refine ak ?_;rw[ij,m6 gQ];rfl
theorem Ys.two(h:Ys ys)(n:Int):∃y∈ys,jB (ys.map T.str) (n % 2)=some (T.str y):=by
 have l3:=h.l3;have h0:0<=n % 2:=uK n (by decide);have h1:n % 2<2:=uJ n (by decide);obtain⟨j,hj⟩:=KW h0;have gQ:j<ys.length:=by omega
 refine⟨ys[j],K3 gQ,?_⟩;rw[hj];refine ak ?_;rw[ij,m6 gQ];rfl
theorem Ys.pos(h:Ys ys):(0:Int)<((ys.map T.str).length:Int):=by rw[cW];have:=h.l3;omega
def rX(ts:qaj)(q:qam):Prop:=∃(ns:qan)(j:Nat),ts=[.lst (ns.map .int),.int (j:Int)]/\q (.vw (.int (ns.getD j 0)))
def mw(ts:qaj)(q:qam):Prop:=∃(c:Int)(m:Nat),ts=[.int c,.int (m:Int)]/\m<=8/\∀ys,um m ys->q (.fr (h9 ys))
def L6(ts:qaj)(q:qam):Prop:=∃c:Int,ts=[.int c]/\Gj c/\∀i,-1000000000000000000000000000000<=i/\i<1000000000000000000000000000000->q (.vw (.int i))
def mZ(ts:qaj)(q:qam):Prop:=∃(c:Int)(ys:qai),ts=[.int c,h9 ys]/\Gj c/\Ys ys/\∀o,o8 ys o->q (.vw (eM o))
def Ui(ts:qaj)(q:qam):Prop:=∃(c:Int)(ys:qai),ts=[.int c,h9 ys]/\Gj c/\Ys ys/\∀k,Ju ys k->q (.vw (qB k))
inductive Row3(ys:qai):Rw->Prop
 |new {x:Str}:x∈ys->Row3 ys (.new x)
 |get {x y:Str} {k:Ky}:x∈ys->y∈ys->Ju ys k->Row3 ys (.get x y k)
 |set {y:Str} {k:Ky} {o:fP}:y∈ys->Ju ys k->o8 ys o->Row3 ys (.set y k o)
 |put {x:Str} {o:fP}:x∈ys->o8 ys o->Row3 ys (.put x o)
 |ju {x y:Str} {o:fP}:x∈ys->y∈ys->o8 ys o->Row3 ys (.ju x (.nm y) "same" o)
def rY(ts:qaj)(q:qam):Prop:=∃(c:Int)(ys:qai),ts=[.int c,h9 ys]/\Ys ys/\∀r,Row3 ys r->q (.vw (aT r))
theorem uq(f:α->β)(l:List α)(k:Nat)(h:k<=l.length):gB (l.map f) none (some (k:Int))=(l.take k).map f:=by unfold gB;rw[cW,HT.HM,HT.Dw,Nat.min_eq_left h,List.drop_zero,Nat.sub_zero,<- List.map_take]
theorem Yx(l:qao):((l.map one).map (·.length)).sum=l.length:=by
 induction l with
 |nil=>rfl
 |cons c l ih=>rw[fS,fS,List.sum_cons,ih];show 1+l.length=l.length+1;omega
theorem Pl:((("":String):Str)).length=0:=by decide +kernel
theorem L7{l:qao}(h:l.length<=100):((l.map one).map (·.length)).sum+(l.map one).length * ((("":String):Str)).length<=16777216:=by rw[Yx,Pl];omega
section
noncomputable abbrev Cu:qai:=qaM
theorem pY:aA Cu qaM (ah mq):=L2.gO
theorem y6(D:Df K mg "_law_cell_at" mq qaM f fd)(M:Mg mg):cp P w K mg base "_law_cell_at" qaM 1 (de K 2 rX):=by
 refine D.gX (nz D.F pY rfl λbq A outer s H E Ox hr ts q hG=>?_);have nd:=pY.nd;refine⟨_,(ai (bH (zR (ae 1) (qas (bA br bt (by rfl) M.len sg (aJ (ae 0) aV))))
    (ax (aI (qau (aH (ae 0) (ae 1)))))
    aP)
   (ax (aI (qau af)))),λ_=>?_⟩
 obtain⟨ns,j,rfl,hq⟩:=hG;refine ye (λh=>?_) (λh=>?_);have h':(j:Int)<((ns.map T.int).length:Int):=of_decide_eq_true h;rw[cW] at h';have hj:j<ns.length:=by omega
 refine⟨.int (ns.getD j 0),ak ?_,hq⟩;rw[ij,m6 hj,List.getD,m6 hj];rfl;have h':¬ ((j:Int)<((ns.map T.int).length:Int)):=λz=>h (decide_eq_true z);rw[cW] at h';have e:ns.getD j 0=0:=by rw[List.getD,Hm (by omega)];rfl
 rw[e] at hq;exact hq
abbrev Gk:qai:=qaN
theorem rZ:aA Gk qaN (ah pX):=L2.gO
theorem Cv(D:Df K mg "_law_number" pX qaN f fd)(M:Mg mg):cp P w K mg base "_law_number" qaN 1 (de K 1 L6):=by
 refine D.gX (nz D.F rZ rfl λbq A outer s H E Ox hr ts q hG=>?_);have nd:=rZ.nd;have hu:=bh.fM hr;refine⟨_,(ai (bH (cy hu (qas (bG (ae 0) (qas af))) (qas af))
    (ax (aI (qau (jG (qas (bG (qas (jH (qas (cQ (qas (oC (ae 0) (qas af))) (qas af))) (qas af))) (qas (oC (qas af) (qas (jH (qas af) (qas af))))))) (qas (jH (qas af) (qas af)))))))
    aP)
   (ax (aI (qau (jG (qas (bG (qas (bU (ae 0) (qas af))) (qas af))) (qas af)))))),λ_=>?_⟩
 obtain⟨c,rfl,⟨h0,h1⟩,hq⟩:=hG;refine⟨by decide,ik (λ_=>?_) (λ_=>?_)⟩;refine⟨.inl ⟨by omega,by omega⟩,⟨by decide,by decide,by show (c * 48271+7).natAbs<2 ^ 64;omega⟩,⟨by decide,by decide,by decide⟩,.inl ⟨by decide,by decide⟩,by decide +kernel,⟨by decide,by decide,by decide⟩,hq _ ?_⟩;rw[LG];have g0:=uK ((c * 48271+7) ^ (5:Int).toNat) (show (2 * 1000000000000000000000000000000:Int)≠0 by decide);have g1:=uJ ((c * 48271+7) ^ (5:Int).toNat) (show (0:Int)<2 * 1000000000000000000000000000000 by decide);exact⟨by omega,by omega⟩;refine⟨⟨by decide,by decide⟩,by decide,hq _ ?_⟩;have g0:=uK (c / 3) (show (4:Int)≠0 by decide);have g1:=uJ (c / 3) (show (0:Int)<4 by decide);exact⟨by omega,by omega⟩
abbrev Cw:qai:=qaO
theorem pZ:aA Cw qaO (ah mv):=L2.gO
theorem y7(D:Df K mg "_law_operand" mv qaO f fd)(M:Mg mg)(Gm:cp P w K mg base "_law_number" qaN 1 (de K 1 L6)):cp P w K mg base "_law_operand" qaO 2 (de K 2 mZ):=by
 refine D.gX (nz D.F pZ rfl λbq A outer s H E Ox hr ts q hG=>?_);have nd:=pZ.nd;refine⟨_,(ai (bH (DV (qas (bG (ae 0) (qas af))) (qas af))
    (ax (aI (qau (aH (ae 1) (qas (bG (qas (bU (ae 0) (qas af))) (qas (bA br bt (by rfl) M.len sg (aJ (ae 1) aV)))))))))
    aP)
   (ax (aI (qau (aE Gm hr (aa (qat (bU (ae 0) (qas af))) ar)))))),λ_=>?_⟩
 obtain⟨c,ys,rfl,R,Y,hq⟩:=hG;refine⟨by decide,ik (λ_=>?_) (λ_=>?_)⟩;obtain⟨y,hy,e⟩:=Y.at (c / 3);exact⟨⟨by decide,by decide⟩,Y.pos,_,e,hq (.nm y) hy⟩;exact⟨⟨by decide,by decide⟩,rfl,_,rfl,R.div (by decide),λi hi=>hq (.nu i) hi⟩
abbrev Uj:qai:=qaO
theorem Gn:aA Uj qaO (ah Gi):=L2.gO
theorem Pm(D:Df K mg "_law_key" Gi qaO f fd)(M:Mg mg)(d9:cp P w K mg base "_law_operand" qaO 2 (de K 2 mZ)):cp P w K mg base "_law_key" qaO 3 (de K 2 Ui):=by
 refine D.gX (nz D.F Gn rfl λbq A outer s H E Ox hr ts q hG=>?_);have nd:=Gn.nd;have hu:=bh.fM hr;refine⟨_,(ai (bH (cy hu (qas (bG (ae 0) (qas af))) (qas af))
    (ax (aI (qau (cQ (qas aW) (qas (aH (ae 1) (qas (bG (qas (bU (ae 0) (qas af))) (qas af)))))))))
    aP)
   (ax (aI (qau (aE d9 hr (aa (qat (bU (ae 0) (qas af))) (aa (aj 1) ar))))))),λ_=>?_⟩
 obtain⟨c,ys,rfl,R,Y,hq⟩:=hG;refine⟨by decide,ik (λ_=>?_) (λ_=>?_)⟩;obtain⟨y,hy,e⟩:=Y.two (c / 2);refine⟨⟨by decide,by decide⟩,by decide,_,e,?_,hq (.fld y) hy⟩;rw[X3,sizeLine_eq];have:=Y.sm y hy;omega;exact⟨⟨by decide,by decide⟩,rfl,_,ys,rfl,R.div (by decide),Y,λo ho=>hq (.op o) ho⟩
noncomputable abbrev Uk:qai:=["_law_cell_here","_law_names_here","_law_number_here","_law_name","_law_other"]
theorem Gp:aA Uk qaO (ah s_row):=L2.gO
theorem Pn(D:Df K mg "_law_row" s_row qaO f fd)(M:Mg mg)(L8:cp P w K mg base "_law_key" qaO 3 (de K 2 Ui))(d9:cp P w K mg base "_law_operand" qaO 2 (de K 2 mZ)):cp P w K mg base "_law_row" qaO 4 (de K 2 rY):=by
 refine D.gX (nz D.F Gp rfl λbq A outer s H E Ox hr ts q hG=>?_);have nd:=Gp.nd;have hu:=bh.fM hr;have np:∀{i:Nat},bE ⟨H,[],Ox⟩ i:=mM;refine⟨_,(ai (bj (i:=2) nd rfl (Or.inl rfl) (qau (bG (qas (oC (qas (cQ (qas (bG (ae 0) (qas (jH (qas af) (qas af))))) (qas af))) (qas af))) (qas af))) np)
  (ai (bj (i:=3) nd rfl (Or.inl rfl) (qau (aH (ae 1) (qas (bG (qas (bU (ae 2) (qas af))) (qas (bA br bt (by rfl) M.len sg (aJ (ae 1) aV))))))) np)
  (ai (bj (i:=4) nd rfl (Or.inl rfl) (qau (aH (ae 1) (qas (bG (qas (bU (ae 2) (qas af))) (qas (bA br bt (by rfl) M.len sg (aJ (ae 1) aV))))))) np)
  (ai (bH (cy hu (qas (bG (ae 2) (qas af))) (qas af))
   (ax (aI (qau (a9 (aa (qat aW) (aa (aj 3) ar))))))
   aP)
  (ai (bH (zR (qas (bG (ae 2) (qas af))) (qas af))
   (ax (aI (qau (a9 (aa (qat aW) (aa (aj 3) (aa (aj 4) (aa (qat (aE L8 hr (aa (qat (bU (ae 2) (qas af))) (aa (aj 1) ar)))) ar))))))))
   aP)
  (ai (bH (zR (qas (bG (ae 2) (qas af))) (qas af))
   (ax (aI (qau (a9 (aa (qat aW) (aa (aj 4) (aa (qat (aE L8 hr (aa (qat (bU (ae 2) (qas af))) (aa (aj 1) ar)))) (aa (qat (aE d9 hr (aa (qat (bU (ae 2) (qas af))) (aa (aj 1) ar)))) ar))))))))
   aP)
  (ai (bH (cy hu (qas (bG (ae 2) (qas af))) (qas af))
   (ax (aI (qau (a9 (aa (qat aW) (aa (aj 3) (aa (qat (aE d9 hr (aa (qat (bU (ae 2) (qas af))) (aa (aj 1) ar)))) ar)))))))
   aP)
  (ax (aI (qau (a9 (aa (qat aW) (aa (aj 3) (aa (aj 4) (aa (qat aW) (aa (qat (aE d9 hr (aa (qat (bU (ae 2) (qas af))) (aa (aj 1) ar)))) ar)))))))))))))))),λ_=>?_⟩
 obtain⟨c,ys,rfl,Y,hq⟩:=hG;refine⟨⟨by decide,by decide,by decide⟩,by decide +kernel,.inr ⟨by decide,by decide⟩,by decide,?_⟩;generalize hn:(c % (10:Int) ^ (9:Int).toNat+3) * 48271 % 2147483647=n;have R:Gj n:=⟨by rw[<- hn];exact uK _ (by decide),by rw[<- hn];have:=uJ ((c % (10:Int) ^ (9:Int).toNat+3) * 48271) (show (0:Int)<2147483647 by decide);omega⟩;obtain⟨x,hx,ex⟩:=Y.at (n / 8);obtain⟨y,hy,ey⟩:=Y.at (n / 40);refine⟨⟨by decide,by decide⟩,Y.pos,_,ex,⟨by decide,by decide⟩,Y.pos,_,ey,?_⟩;refine⟨by decide,ik (λ_=>⟨Gen.cw rfl,hq (.new x) (.new hx)⟩) (λ_=>?_)⟩;refine⟨by decide,ik (λ_=>?_) (λ_=>?_)⟩;exact⟨⟨by decide,by decide⟩,rfl,_,ys,rfl,R.div (by decide),Y,λk hk=>⟨Gen.cw rfl,hq (.get x y k) (.get hx hy hk)⟩⟩;refine⟨by decide,ik (λ_=>?_) (λ_=>?_)⟩;exact⟨⟨by decide,by decide⟩,rfl,_,ys,rfl,R.div (by decide),Y,λk hk=>⟨⟨by decide,by decide⟩,rfl,_,ys,rfl,R.div (by decide),Y,λo ho=>⟨Gen.cw rfl,hq (.set y k o) (.set hy hk ho)⟩⟩⟩;refine⟨by decide,ik (λ_=>?_) (λ_=>?_)⟩;exact⟨⟨by decide,by decide⟩,rfl,_,ys,rfl,R.div (by decide),Y,λo ho=>⟨Gen.cw rfl,hq (.put x o) (.put hx ho)⟩⟩;exact⟨⟨by decide,by decide⟩,rfl,_,ys,rfl,R.div (by decide),Y,λo ho=>⟨Gen.cw rfl,hq (.ju x (.nm y) "same" o) (.ju hx hy ho)⟩⟩
noncomputable abbrev kR:qai:=["_law_cell_here","_law_many","_law_letters","_law_number_here","_law_size","_law_base","_law_names_here","_law_k","_law_here"]
theorem xk:aA kR qaP (ah uo):=L2.gO
theorem xl:((["_law_cell_here","_law_many","_law_letters","_law_number_here","_law_size","_law_base","_law_names_here","#_law_k","_law_here"]:qai)++(["_law_k"]:qai)).Nodup:=by decide +kernel
theorem xm:((["_law_cell_here","_law_many","_law_letters","_law_number_here","_law_size","_law_base","_law_names_here","#_law_k","_law_here"]:qai)++(["_law_k"]:qai)).Nodup:=by decide +kernel
theorem xn:(["_law_cell_here","_law_many","_law_letters","_law_number_here","_law_size","_law_base","_law_names_here","#_law_k","_law_here"]:qai).Nodup:=by decide +kernel
theorem Gq(D:Df K mg "_law_names" uo qaP f fd)(M:Mg mg):cp P w K mg base "_law_names" qaP 1 (de K 2 mw):=by
 refine D.gX (nz D.F xk rfl λbq A outer s H E Ox hr ts q hG=>?_);have nd:=xk.nd;have hu:=bh.fM hr;have np:∀{i:Nat},bE ⟨H,[],Ox⟩ i:=mM;have Yy:∀{is:qao},∀i∈is,bE ⟨H,[],Ox⟩ i:=λi _=>mM;refine⟨_,(ai (bj (i:=2) nd rfl (Or.inr rfl) (qau aW) np)
  (ai (bj (i:=3) nd rfl (Or.inr rfl) (qau (bG (qas (oC (qas (bG (ae 0) (qas (jH (qas af) (qas af))))) (qas af))) (qas af))) np)
  (ai (bj (i:=4) nd rfl (Or.inl rfl) (qau (cQ (qas af) (qas (bG (ae 3) (qas af))))) np)
  (ai (tI 7 "#_law_k" np (bj (i:=5) xn rfl (Or.inr rfl) (qau (f_ (ts:=["_law_k"]) rfl (by rfl) (jb (by rfl) M.range (qas af)) (λ_ _ _ _ _ _=>(a_ (i:=9) xl rfl (Or.inl rfl) np)) (λ_ _ _ _ _ _=>eS) (λ_ _ _ _ _ _=>(qat (aH (ae 2) (qas (bG (qas (bU (ae 3) (qas (cQ (qas (oC (qas af) (ae 9))) (qas af))))) (qas af)))))))) np))
  (ai (bH (cy hu (qas (bG (qas (bU (ae 3) (qas af))) (qas af))) (qas af))
   (ax (tI 7 "#_law_k" np (aI (qau (f_ (ts:=["_law_k"]) rfl (by rfl) (jb (by rfl) M.range (ae 1)) (λ_ _ _ _ _ _=>(a_ (i:=9) xm rfl (Or.inl rfl) np)) (λ_ _ _ _ _ _=>eS) (λ_ _ _ _ _ _=>(qat (rC (qas aW) (aJ (qas (gC (ae 5) kq (gW (qas (cQ (ae 9) (qas af)))))) aV)))))))))
   aP)
  (ai (dz (i:=6) nd rfl (Or.inl rfl) (qau (eJ ar)) np)
  (ai (jK Hq rfl (jb (by rfl) M.range (ae 1)) (a_ (i:=7) nd rfl (Or.inl rfl) np)
   (ai (dz (i:=8) nd rfl (Or.inl rfl) (qau (gC (ae 5) kq (gW (ae 4)))) np)
   (ai (lF 8 (qat (aH (ae 2) (qas (bG (qas (cQ (qas (bU (ae 3) (qas af))) (ae 7))) (qas af))))) (qas (bG (qas (bU (ae 3) (qas af))) (ae 4))))
   (zS [8] (ax (fY (rp 6 KS KU c7 dW (aa (qat (rC (qas aW) (aJ (ae 8) aV))) ar)))) Yy))))
  (ax (aI (zW 6 np)))))))))),λ_=>?_⟩
 obtain⟨c,m,rfl,hm,hq⟩:=hG;refine⟨⟨by decide,by decide,by decide⟩,by decide +kernel,.inr ⟨by decide,by decide⟩,by decide,by decide,?_⟩;generalize hn:c % (10:Int) ^ (9:Int).toNat * 48271 % 2147483647=n;have n0:0<=n:=by rw[<- hn];exact uK _ (by decide)
 have n1:n<2147483647:=by rw[<- hn];exact uJ _ (by decide)
 obtain⟨sz,esz⟩:=KW (show 0<=1+n % 8 by have:=uK n (show (8:Int)≠0 by decide);omega);have Yz:1<=sz:=by have:=uK n (show (8:Int)≠0 by decide);omega
 have Po:sz<=8:=by have:=uJ n (show (0:Int)<8 by decide);omega
 refine⟨rfl,by decide,by decide,by rw[gY];exact mQ (by decide),?_⟩;refine iM (u:=λj=>.str (one (bL n j))) (λj hj r hr=>?_) ?_;have hj8:j<8:=hj;rw[Int.zero_add];refine⟨.inl ⟨by decide,by decide⟩,⟨by show (0:Int)<7 * (j:Int)+3;omega,by show 7 * (j:Int)+3<1073741824;omega⟩,by decide,?_⟩;exact⟨jt,_,rE _,hr⟩;have eb:((List.range 8).map λj=>T.str (one (bL n j)))=(dR n).map T.str:=by unfold dR;rw[zB];rfl
 rw[show (8:Int).toNat=8 from rfl,eb,esz];refine⟨⟨by decide,by decide⟩,by decide,ik (λ_=>?_) (λ_=>?_)⟩;refine⟨rfl,by omega,by omega,by rw[gY];exact mQ (by omega),?_⟩;rw[A2];refine iM (u:=λk=>.str (Ph n k)) (λk hk r hr=>?_) ?_;rw[Int.zero_add];have ec:gB ((dR n).map T.str) none (some ((k:Int)+1))=(((List.range (k+1)).map (bL n)).map one).map T.str:=by
  have:((k:Int)+1)=((k+1:Nat):Int):=by omega
  rw[this,uq T.str (dR n) (k+1) (by rw[pW];omega),rW n (by omega)]
 refine⟨((List.range (k+1)).map (bL n)).map one,?_,L7 (by simp;omega),?_⟩;show [T.lst (gB ((dR n).map T.str) none (some ((k:Int)+1)))]=_;rw[ec];rw[glue];exact hr;have e2:((List.range m).map λk=>T.str (Ph n k))=((List.range m).map (Ph n)).map T.str:=by rw[zB];rfl
 rw[e2];exact hq _ (Pj n hm);refine⟨Gen.cw rfl,by omega,by omega,?_⟩;rw[A2];refine oS (λk ρ=>∃b7 b8,ρ=[some (.int c,false),some (.int (m:Int),false),some (.str bM,false),some (.int n,false),some (.int (sz:Int),false),some (.lst ((dR n).map .str),false),some (.lst (((List.range k).map (alt n sz (n / 24 % (sz:Int)).toNat)).map .str),true),b7,b8]) ⟨_,_,rfl⟩ ?_ ?_;rintro k ρ hk ⟨b7,b8,rfl⟩;rw[Int.zero_add];have ec:gB ((dR n).map T.str) none (some (sz:Int))=((dR n).take sz).map T.str:=uq T.str (dR n) sz (by rw[pW];exact Po);have p0:0<=n / 24 % (sz:Int):=uK _ (by omega);have p1:n / 24 % (sz:Int)<(sz:Int):=uJ _ (by omega);obtain⟨p,ep⟩:=KW p0;have hp:p<sz:=by omega
 have el:(((dR n).take sz).map T.str).length=sz:=by rw[cW,Mn,pW];omega
 refine⟨⟨by decide,by decide⟩,by decide,jt,_,rE _,⟨by decide,by decide⟩,by show (0:Int)<(sz:Int);omega,p,?_,?_⟩;rw[ep];show uD (gB ((dR n).map T.str) none (some (sz:Int))).length _=_;rw[ec,el];unfold uD;rw[if_pos (by omega),if_pos (by omega),A2];have es:(((dR n).take sz).map T.str).set p (T.str (one (qA (n / 5+(k:Int)))))=(((List.range sz).map (qO n p k)).map one).map T.str:=by rw[<- Gh n Po hp,List.map_set]
 refine⟨((List.range sz).map (qO n p k)).map one,?_,L7 (by simp;omega),?_,some (.int (k:Int),false),?_⟩;show [T.lst ((gB ((dR n).map T.str) none (some (sz:Int))).set p (T.str (one (qA (n / 5+(k:Int))))))]=_;rw[ec,es];rw[cW,cW,Qk,sizeLine_eq];omega;rw[glue];have eA:((List.range (k+1)).map (alt n sz (n / 24 % (sz:Int)).toNat)).map T.str=((List.range k).map (alt n sz (n / 24 % (sz:Int)).toNat)).map T.str++[T.str (alt n sz p k)]:=by rw[List.range_succ,sf,sf,ep];rfl
 rw[eA];exact⟨_,rfl⟩;rintro ρ ⟨b7,b8,rfl⟩;refine hq _ (Pk n Yz Po ?_ (by omega));have p1:n / 24 % (sz:Int)<(sz:Int):=uJ _ (by omega);omega
end
end c9
namespace VT
open PySem PySem.Spec PyProof.Rows L2 PySem.MeetsSeq PySem.SeqAt
end VT
namespace Sm
open PySem L2 VT Gen
noncomputable def top(i:Nat):Stmt:=PySem.Challenge.pw_slicewise_k13_records_and_cells.main.body.getD i (.Pass ⟨0,0,0,0⟩)
noncomputable abbrev s_same:Stmt:=top 57
structure O6(mg:qae):Prop where
 isinstance:mg "isinstance"=none
 str:mg "str"=none
 int:mg "int"=none
 bool:mg "bool"=none
 list:mg "list"=none
 tuple:mg "tuple"=none
 len:mg "len"=none
 zip:mg "zip"=none
def Lv:Nat->T->Prop
 |0,_=>False
 |n+1,t=>(∃i,t=.int i)\/(∃x,t=.str x)\/t=.aQ\/(∃ts,t=.tup ts/\ts.length<=1000/\∀u∈ts,Lv n u)\/∃ts,t=.lst ts/\ts.length<=1000/\∀u∈ts,Lv n u
def xo(n:Nat)(ts:qaj)(q:qam):Prop:=∃t,ts=[t,t]/\Lv n t/\q (.vw (.bl true))
theorem xp(ts:qaj):oX ts ts=ts.map λu=>.tup [u,u]:=by unfold oX;rw[List.zipWith_self]
section
noncomputable abbrev Pp:qai:=["_law_found","_law_due_here","_law_one","_law_other"]
theorem ur:aA Pp qaQ (ah s_same):=L2.gO
theorem Gr(D:Df K mg "_law_same" s_same qaQ f fd):cp P w K mg base "_law_same" qaQ 1 (de K 2 (xo 0)) :=
 D.gX (nz D.F ur rfl λbq A outer s H E Ox hr ts q hG=>by obtain⟨_,_,h,_⟩:=hG;exact h.elim)
theorem gM{d:Nat}(D:Df K mg "_law_same" s_same qaQ f fd)(M:O6 mg)(C:cp P w K mg base "_law_same" qaQ d (de K 2 (xo n))):cp P w K mg base "_law_same" qaQ (d+1) (de K 2 (xo (n+1))):=by
 obtain⟨YA,Vz,Pq,k_same,Pr,Pt⟩:=C;refine D.gX (nz D.F ur rfl λbq A outer s H E Ox hr ts q hG=>?_);have nd:=ur.nd;have hu:=bh.fM hr;have np:∀{i:Nat},bE ⟨H,[],Ox⟩ i:=mM;refine⟨_,(ai (bH (VW.vc (vh (dy (bQ c0 (by rfl) M.isinstance (by rfl) M.tuple dH (ae 1))) (oz (dy (bQ lN (by rfl) M.isinstance (by rfl) M.list lT (ae 1))))))
    (ai (bH (VW.vc (vh (vm hu (qas (bQ c0 (by rfl) M.isinstance (by rfl) M.tuple dH (ae 0))) (qas (bQ c0 (by rfl) M.isinstance (by rfl) M.tuple dH (ae 1)))) (oz (vm hu (qas (bQ lN (by rfl) M.isinstance (by rfl) M.list lT (ae 0))) (qas (bQ lN (by rfl) M.isinstance (by rfl) M.list lT (ae 1)))))))
      (ax (aI (qau rn)))
      aP)
    (ai (bH (vm hu (qas (bA br bt (by rfl) M.len sg (aJ (ae 0) aV))) (qas (bA br bt (by rfl) M.len sg (aJ (ae 1) aV))))
      (ax (aI (qau rn)))
      aP)
    (ai (jK Hq rfl (El (by rfl) M.zip (aj 0) (aj 1)) (iF (n:=2) rfl (bO (a_ (i:=2) nd rfl (Or.inl rfl) np) (bO (a_ (i:=3) nd rfl (Or.inl rfl) np) fZ)))
      (ax (bH (lu (dy (z6 Pt (hr.mono (by omega)) (by rfl) Pq k_same Pr (aa (aj 2) (aa (aj 3) ar)))))
        (ax (aI (qau rn)))
        aP)))
    (ax (aI (qau rn))))))
    aP)
   (ai (bH (VW.vc (vh (dy (bQ eZ (by rfl) M.isinstance (by rfl) M.str oR (ae 1))) (oz (vH (ae 1) (qas cZ)))))
     (ax (aI (qau (lx (vk hu (qas (bQ eZ (by rfl) M.isinstance (by rfl) M.str oR (ae 0))) (qas (bQ eZ (by rfl) M.isinstance (by rfl) M.str oR (ae 1)))) (sM (vk hu (ae 0) (ae 1)))))))
     aP)
   (ax (aI (qau (lx (bQ D6 (by rfl) M.isinstance (by rfl) M.int Lo (ae 0)) (lx (Np (bQ Bz (by rfl) M.isinstance (by rfl) M.bool NU (ae 0))) (sM (vk hu (ae 0) (ae 1)))))))))),λ_=>?_⟩
 obtain⟨t,rfl,hL,hq⟩:=hG;obtain⟨i,rfl⟩|⟨x,rfl⟩|rfl|⟨l,rfl,Pu,hl⟩|⟨l,rfl,Pu,hl⟩:=hL
 . repeat refine⟨rfl,?_⟩
   show q (.vw (.bl (decide (i=i))));rw[decide_eq_true rfl];exact hq
 . repeat refine⟨rfl,?_⟩
   show q (.vw (.bl (decide (x=x))));rw[decide_eq_true rfl];exact hq
 . repeat refine⟨rfl,?_⟩
   refine⟨ji _,?_⟩;show q (.vw (.bl (eqT .aQ .aQ)));rw[gA _ rfl];exact hq
 . repeat refine⟨rfl,?_⟩
   refine lU (c:=!decide ((l.length:Int)=(l.length:Int))) (by simp) ?_;refine⟨λ_ ρ=>∃b2 b3,ρ=[some (.tup l,false),some (.tup l,false),b2,b3],⟨_,_,rfl⟩,λi t ρ' ht hp=>?_,λρ' hp=>?_⟩;obtain⟨b2,b3,rfl⟩:=hp;rw[xp,ij] at ht;cases e:l[i]? with
   |none=>rw[e] at ht;cases ht
   |some u=>rw[e] at ht;cases ht;exact⟨rfl,rfl,rfl,u,rfl,hl u (fR e),_,_,rfl⟩
   obtain⟨b2,b3,rfl⟩:=hp;exact hq
 . repeat refine⟨rfl,?_⟩
   refine lU (c:=!decide ((l.length:Int)=(l.length:Int))) (by simp) ?_;refine⟨λ_ ρ=>∃b2 b3,ρ=[some (.lst l,false),some (.lst l,false),b2,b3],⟨_,_,rfl⟩,λi t ρ' ht hp=>?_,λρ' hp=>?_⟩;obtain⟨b2,b3,rfl⟩:=hp;rw[xp,ij] at ht;cases e:l[i]? with
   |none=>rw[e] at ht;cases ht
   |some u=>rw[e] at ht;cases ht;exact⟨rfl,rfl,rfl,u,rfl,hl u (fR e),_,_,rfl⟩
   obtain⟨b2,b3,rfl⟩:=hp;exact hq
theorem Kq(D:Df K mg "_law_same" s_same qaQ f fd)(M:O6 mg):cp P w K mg base "_law_same" qaQ 7 (de K 2 (xo 6)):=gM D M (gM D M (gM D M (gM D M (gM D M (gM D M (Gr D))))))
end
end Sm
namespace VT
open PySem PySem.Spec PyProof.Rows L2 PySem.MeetsSeq PySem.SeqAt
def Gs(z:Int):Value->Bool
 |.int y _=>y==z
 |_=>false
theorem AU(z:Int):∀{ns:qan}{us:qag},Vals (ns.map V.int) us->(∀u∈us,∃i t,u=Value.int i t)/\us.countP (Gs z)=ns.countP (·==z)
 |[],_,h=>by cases h;exact⟨λ_ h=>(by cases h),rfl⟩
 |n::ns,_,h=>by
  cases h with
  |cons r t=>
   obtain⟨tk,rfl⟩:=r;obtain⟨h1,h2⟩:=AU z t;refine⟨λu hu=>?_,?_⟩;rcases cT.mp hu with rfl|hu
   exact⟨_,_,rfl⟩;exact h1 u hu;rw[List.countP_cons,List.countP_cons,h2];rfl
theorem AV{K:qaf}{H:Hp}{A:qah}:∀{bs:qan}{vs:qak},ay K H A (bs.map .int) vs->vs=bs.map V.int
 |[],vs,h=>by simpa only[Hr,ay] using h
 |y::ys,vs,h=>by simp only[fS,ay,At] at h;obtain⟨v,r,rfl,rfl,h⟩:=h;rw[AV h];rfl
section
theorem Cy:HS X "list.count" (λx xs H Q=>∃(p:Addr)(ys:qan)(z:Int),x=.ref p/\xs=[.int z]/\eU X.K H p (ys.map V.int)/\Q (.int ((ys.countP (·==z):Nat):Int)) H):=by
 intro pins s σ H x xs v us Q I rx rs h;obtain⟨p,ys,z,rfl,rfl,hq,q⟩:=h;cases rx;obtain⟨u,rfl,ru⟩:=vals1 rs;obtain⟨tz,rfl⟩:=ru;obtain⟨aM,rv,pl,_⟩:=I.list hq;obtain⟨⟨cls,dd,data,sl⟩,ho,hc,n,hd⟩:=pl.isList;simp only at hc hd;subst hc hd;obtain⟨e1,e2⟩:=AU z rv;refine call_meets PySem.F.slot_list_count ⟨_,ho,rfl⟩ PySem.F.entry_list_count (PySem.F.args_list_count_2 _ _) (list_countAt p aM.toArray n dd sl (.int z tz) (Gs z)) ⟨ho,λy hy=>?_,?_⟩;obtain⟨i,t,rfl⟩:=e1 y (by simpa using hy);exact EqAt.int_int i t z tz;have e:aM.toArray.toList.countP (Gs z)=ys.countP (·==z):=by rw[show aM.toArray.toList=aM from rfl,e2]
 rw[e];exact⟨.int ((ys.countP (·==z):Nat):Int),H,I.tok _,⟨_,rfl⟩,q⟩
end
section
variable{fo:FE}
def Kr(fo:FE)(g:FA):FP:=λρ Q=>fo ρ λx=>match x with
 |.lst ts=>g ρ λy=>∃(ys:qan)(z:Int),ts=ys.map .int/\y=[.int z]/\Q (.vw (.int ((ys.countP (·==z):Nat):Int)))
 |_=>False
theorem xq(ho:VR X Z o fo)(he:Il X Z [e] g)(cX:attributeBase o "count" X.env (eval o X.env)=eval o X.env:=by rfl)(jC:((backTo aN (starEach [e] X.env)).all (λx=>!x.1) && (backToKw aN (keywordEach [] X.env)).all (λx=>x.1.isSome)
    && decide (([e]:qap).length+([]:List Keyword).length+(if ([]:List Keyword).isEmpty then 0 else 1)<30))=true:=by rfl)(cY:(apos.endLine==aN.line)=true:=by rfl)(hs:starEach [e] X.env=(false,eval e X.env)::starEach [] X.env:=by rfl)(dw:(backTo aN (starEach [] X.env)).any (·.1)=false:=by rfl) :
  VP X Z (.Call (.Attribute o "count" apos) [e] [] aN) (Kr fo g):=.mk λtm=>
 PE.weak (oi Mi PySem.F.slot_list_count PySem.F.type_list_count Cy (ho tm) (he tm) cX jC cY hs dw) λσ H Q ⟨ρ,O,q,I,hf,k⟩ =>
  ⟨ρ,O,_,I,hf,λx hx v H1 s1 a1=>by
    split at hx
    rename_i ts
    obtain⟨p,vs,rfl,h1,h2⟩:=a1.lst;refine⟨.inl ⟨rfl,vs,h1⟩,ρ,O,_,I.same s1,hx,λy hy w H2 s2 a2=>?_⟩;obtain⟨ys,z,rfl,rfl,hq⟩:=hy;obtain⟨u,rfl,a3⟩:=cR a2;have ev:=AV h2;subst ev;have eu:=a3.int;subst eu;exact⟨p,ys,z,rfl,rfl,h1.imp (λz=>Rd.same s2 z) id,k _ hq _ H2 (s1.trans s2) ⟨(I.same s1).same s2,bc⟩⟩;exact hx.elim⟩
end
end VT
set_option exponentiation.threshold 4000
namespace dg
open PySem L2 VT Gen xi Rg Lay K5
open c9 (Ys Gj h9 rX mw Row3 rY mZ)
open ng (cK)
open j8 (Vl vT nm eC RI bg Tz pw ZQ)
noncomputable def top(i:Nat):Stmt:=PySem.Challenge.pw_slicewise_k13_records_and_cells.main.body.getD i (.Pass ⟨0,0,0,0⟩)
noncomputable abbrev mV:Stmt:=top 56
noncomputable abbrev y8:Stmt:=top 62
noncomputable abbrev y9:Stmt:=top 63
noncomputable abbrev y_:Stmt:=top 64
noncomputable abbrev Gu:Stmt:=top 65
noncomputable abbrev kZ:Stmt:=top 66
structure QJ(mg:qae):Prop where
 isinstance:mg "isinstance"=none
 tuple:mg "tuple"=none
 list:mg "list"=none
 len:mg "len"=none
 range:mg "range"=none
 str:mg "str"=none
 int:mg "int"=none
 zip:mg "zip"=none
theorem mQ(h:n<=1000):n<=sizeLine:=Gen.small h
def L9(ts:qaj)(q:qam):Prop:=∃i:Int,ts=[.int i]/\q (.vw (.int (eC i)))
def AW(ts:qaj)(q:qam):Prop:=∃e o n,ts=[.dk e.ks e.ts,eM o]/\hW e n/\n<=1000/\q (.vw (vT (look e o)))
noncomputable def j2(e:Ev):Ky->qaj
 |.fld _=>[]
 |.op o=>[vT (look e o)]
noncomputable def m4(e:Ev):Ky->T
 |.fld x=>.str (((".":String):Str)++x)
 |.op o=>.int (nm (look e o))
def Gv(ts:qaj)(q:qam):Prop:=∃e k n,ts=[.dk e.ks e.ts,qB k]/\hW e n/\n<=1000/\JV k/\q (.vw (.tup [.tup (j2 e k),m4 e k]))
theorem AX(x:Str):((((".":String):Str))++x).cps.toList=46::x.cps.toList:=by show (((((".":String):Str)).cps++x.cps)).toList=_;rw[Array.toList_append];rfl
theorem Gw(h:cK x=true):∃c,x.cps.toList[0]?=some c/\¬ ((⟨#[c]⟩:Str)=((".":String):Str)):=by
 unfold cK at h;simp only[jm,decide_eq_true_eq] at h;obtain⟨h1,_,h3⟩:=h;have hl:0<x.cps.toList.length:=by have:(x.length:Int)=(x.cps.toList.length:Int):=rfl;omega
 refine⟨x.cps.toList[0],m6 hl,λe=>?_⟩;have E8:=K2.mp h3 _ (K3 hl);have e2:x.cps.toList[0]=46:=by
  have e3:(⟨#[x.cps.toList[0]]⟩:Str)=(⟨#[46]⟩:Str):=e.trans (by decide +kernel);injection e3 with e3
  injection e3 with e3
  injection e3
 rw[e2] at E8;exact absurd E8 (by decide +kernel)
section
noncomputable abbrev AA:qai:=qaR
theorem pv:aA AA qaR (ah mV):=L2.gO
theorem yJ(D:Df K mg "_law_fit" mV qaR f fd):cp P w K mg base "_law_fit" qaR 1 (de K 1 L9):=by refine D.gX (nz D.F pv rfl λbq A outer s H E Ox hr ts q hG=>?_);have nd:=pv.nd;refine⟨_,(ax (aI (qau (jG (qas (bG (qas (cQ (ae 0) (qas (s_ (qas af) (qas af))))) (qas (Ab (qas af) (qas (s_ (qas af) (qas af))))))) (qas (s_ (qas af) (qas af))))))),λ_=>?_⟩;obtain⟨i,rfl,hq⟩:=hG;refine⟨pw 30,pw 30,⟨bg 2,Tz⟩,by decide +kernel,pw 30,?_⟩;show q (.vw (.int ((i+10 ^ (30:Int).toNat) % (2 * 10 ^ (30:Int).toNat)-10 ^ (30:Int).toNat)));rw[Gen.LG];exact hq
noncomputable abbrev Pw:qai:=qaS
theorem AY:aA Pw qaS (ah y8):=L2.gO
theorem Ks(D:Df K mg "_law_look" y8 qaS f fd)(M:QJ mg):cp P w K mg base "_law_look" qaS 1 (de K 2 AW):=by
 refine D.gX (nz D.F AY rfl λbq A outer s H E Ox hr ts q hG=>?_);have nd:=AY.nd;have hu:=bh.fM hr;have uE:=o4 hu;refine⟨_,(ai (bH (dy (bQ eZ (by rfl) M.isinstance (by rfl) M.str oR (ae 1)))
    (ax (aI (qau (tD uE (ae 0) (ae 1) (qat af) ⟨rfl,rfl,rfl,rfl⟩))))
    aP)
   (ax (aI (qau (VE.vp (aj 1)))))),λ_=>?_⟩
 obtain⟨e,o,n,rfl,he,hn,hq⟩:=hG;cases o with
 |nm x=>refine⟨rfl,?_⟩;show q (.vw ((bP e.ks e.ts (.inr x)).getD (.int 0)));rw[Fu];exact hq
 |nu i=>exact⟨rfl,hq⟩
noncomputable abbrev Px:qai:=["_law_held","_law_key_here","_law_value"]
theorem AZ:aA Px qaT (ah y9):=L2.gO
theorem Kt(D:Df K mg "_law_cell" y9 qaT f fd)(M:QJ mg)(gm:cp P w K mg base "_law_look" qaS 1 (de K 2 AW)):cp P w K mg base "_law_cell" qaT 2 (de K 2 Gv):=by
 refine D.gX (nz D.F AZ rfl λbq A outer s H E Ox hr ts q hG=>?_);have nd:=AZ.nd;have hu:=bh.fM hr;have np:∀{i:Nat},bE ⟨H,[],Ox⟩ i:=mM;refine⟨_,(ai (bH (VW.vc (oA (dy (bQ eZ (by rfl) M.isinstance (by rfl) M.str oR (ae 1))) (nI (cy hu (qas (aH (ae 1) (qas af))) (qas aW)))))
    (ax (aI (qau (a9 (aa (qat (a9 ar)) (aa (aj 1) ar))))))
    aP)
   (ai (bj (i:=2) nd rfl (Or.inl rfl) (qau (aE gm hr (aa (aj 0) (aa (aj 1) ar)))) np)
   (ax (aI (qau (a9 (aa (qat (a9 (aa (aj 2) ar))) (aa (qat (iD (dy (bQ c0 (by rfl) M.isinstance (by rfl) M.tuple dH (ae 2))) af (VE.vp (aj 2)))) ar)))))))),λ_=>?_⟩
 obtain⟨e,k,n,rfl,he,hn,hk,hq⟩:=hG;cases k with
 |fld x=>refine⟨rfl,?_,46,?_,?_⟩;show ((((".":String):Str))++x).cps.size<=sizeLine;rw[<- Hn,AX,j9,sizeLine_eq];have:x.cps.toList.length<=50:=hk.2;omega;refine ak (j:=0) ?_;rw[AX];rfl;refine⟨Gen.cw rfl,Gen.cw rfl,?_⟩;exact hq
 |op o=>
   have fin:∀v:Vl,q (.vw (.tup [.tup [vT v],.int (nm v)]))->(Sg (fX (Nq (dA (fT (Nq (dA (jE 2) nv))) (dA (fT (Y_ (lr (Lm (zP 2) z8)) (fC (T.int 0)) (fV (jE 2)))) nv))))) {nx:=λ_=>q (.vw .aQ),rt:=λ_ r=>q r} [some (.dk e.ks e.ts,false),some (eM o,false),some (vT v,false)]:=λv hv=>by
    cases v with
    |num i=>exact⟨Gen.cw rfl,rfl,Gen.cw rfl,hv⟩
    |dZ p r=>exact⟨Gen.cw rfl,rfl,Gen.cw rfl,hv⟩
   cases o with
   |nm x=>obtain⟨c,hc,h46⟩:=Gw hk.1;refine⟨rfl,by rw[sizeLine_eq];have:=hk.2;omega,c,ak (j:=0) hc,?_⟩;refine ik (λh=>absurd h h46) (λ_=>?_);exact⟨rfl,e,.nm x,n,rfl,he,hn,fin _ hq⟩
   |nu i=>exact⟨rfl,rfl,e,.nu i,n,rfl,he,hn,fin _ hq⟩
end
end dg
namespace VT
open PySem PySem.Spec PyProof.Rows L2
def Ul(j:Nat)(h:FG)(g:FS):FS:=λd ρ=>∃ts,ρ[j]?=some (some (.lst ts,true))/\∃Pv:Nat->En->Prop,Pv 0 ρ/\(∀i ρ',Pv i ρ'->ρ'[j]?=some (some (.lst ts,true))) /\
 (∀(i:Nat) t ρ',ts[i]?=some t->Pv i ρ'->h t ρ' λρ2=>g {nx:=Pv (i+1),ct:=Pv (i+1),bk:=d.nx,rt:=d.rt} ρ2)/\∀ρ',Pv ts.length ρ'->d.nx ρ'
section
variable{tg:Expr}
theorem xr{tm:qab}(I:aw X.K Z tm O ρ σ H)(hj:(j,a)∈Z.P){ts:qaj}(h:ρ[j]?=some (some (.lst ts,true))):σ[j]?=some (some (.ref a))/\∃vs,eU X.K H a vs/\ay X.K H (av Z O) ts vs:=by obtain⟨o,s,h1,h2,b,rfl,rfl,vs,e,q⟩:=I.sl j _ h;have h3:=I.par _ hj;rw[h1] at h3;cases h3;exact⟨h2,vs,.inl (.inl e),q⟩
theorem Ku{body:qaq}{h:FG}{g:FS}{pos:Pos}(hp:PassesOwn (model X.prog X.w) X.A X.env X.xe)(hc:X.calm=true)(hi:PE X iter (Hw j))(hj:(j,a)∈Z.P)(hg:VG X Z tg is h)(hb:mG X Z body g)(hs:∀x,foldedSetIterable iter X.env x=pure x:=by intro _;rfl):VS X Z (.For tg iter body [] pos) (Ul j h g):=by
 refine .mk λtm pins s σ H D I0 hw=>?_;obtain⟨ρ,O,d,I,q,F⟩:=hw;refine Dn (wi:=Sk X.K (Hw j)) (g:=lG X Z tm is h) (tb:=lS X Z tm g) hp hc (DZ hi) (hg tm) (hb tm) hs pins s σ H D I0 ?_;obtain⟨ts,hl,Pv,p0,si,step,fin⟩:=q;obtain⟨h1,LF,hv0,_⟩:=xr I hj hl;refine⟨_,h1,.inl ⟨a,rfl,⟨LF,hv0⟩,?_⟩⟩;refine⟨λi m σ H=>m=ts.length-i/\i<=ts.length/\∃ρ O,aw X.K Z tm O ρ σ H/\Pv i ρ,⟨ts.length,by simp,ji _,ρ,O,I,p0⟩,?_⟩;rintro i m σ1 H1 ⟨rfl,hi,ρ1,O1,I1,p1⟩;obtain⟨_,vs,hv,Um⟩:=xr I1 hj (si i ρ1 p1);have hlen:=Um.length;by_cases gQ:i<ts.length;refine .inr ⟨⟨vs,vs[i]'(by omega),hv,by simp⟩,λσ' H'=>∃ρ O,aw X.K Z tm O ρ σ' H'/\Pv (i+1) ρ,λσ' H' ⟨ρ',O',I',p'⟩=>⟨ts.length-(i+1),by omega,rfl,gQ,ρ',O',I',p'⟩,λx H2 y=>?_⟩;have e:ts[i]?=some ts[i]:=by simp[gQ]
 obtain⟨rfl,y⟩:=y;obtain⟨v,e1,e2⟩:=Um.get e;have:=y vs hv;rw[e1] at this;cases this;refine⟨ρ1,O1,ts[i],_,I1,e2,step i _ ρ1 e p1,λρ2 h2 O2 σ2 I2 _ _ _ _=>⟨ρ2,O2,_,I2,h2,?_⟩⟩;exact⟨λO ρ σ H I p=>⟨ρ,O,I,p⟩,F.rt,λO ρ σ H I p=>F.nx O ρ σ H I p,λO ρ σ H I p=>⟨ρ,O,I,p⟩⟩;have e:i=ts.length:=by omega
 subst e;exact .inl ⟨⟨vs,hv,by omega⟩,F.nx O1 ρ1 σ1 H1 I1 (fin ρ1 p1)⟩
end
section
theorem p_{H:Hp}{A:qah}:∀{fs:List Bool}{as:qah}{ts:qaj}{vs:qak},eL K H A fs as ts vs->as.length=fs.countP id
 |[],as,ts,vs,h=>by obtain⟨rfl,rfl,rfl⟩:=h;rfl
 |false::fs,as,ts,vs,h=>by obtain⟨t,gD,v,eT,rfl,rfl,_,h⟩:=h;rw[p_ h,List.countP_cons_of_neg (by simp)]
 |true::fs,as,ts,vs,h=>by obtain⟨t,gD,a,sN,eT,rfl,rfl,rfl,_,h⟩:=h;rw[j9,p_ h,V4 (by simp)]
theorem za:∀{fs:List Bool}{as:qah}{k j:Nat},as.length=fs.countP id->fs[j]?=some true->∃a,(k+j,a)∈pz fs as k
 |[],as,k,j,_,h=>by cases h
 |false::fs,as,k,0,_,h=>by cases h
 |false::fs,as,k,j+1,hl,h=>by rw[List.countP_cons_of_neg (by simp)] at hl;obtain⟨a,ha⟩:=za (k:=k+1) (j:=j) hl h;exact⟨a,by rw[show k+(j+1)=k+1+j by omega];exact ha⟩
 |true::fs,[],k,j,hl,h=>by rw[V4 (by simp)] at hl;cases hl
 |true::fs,a::as,k,0,hl,h=>⟨a,cS⟩
 |true::fs,a::as,k,j+1,hl,h=>by rw[V4 (by simp)] at hl;obtain⟨b,hb⟩:=za (k:=k+1) (j:=j) (Nat.succ.inj hl) h;exact⟨b,d_ _ (by rw[show k+(j+1)=k+1+j by omega];exact hb)⟩
theorem YB{st:Stmt}{N:qai}{k:Nat}{fs:List Bool}{G:GT}(F:yd K x qual st f fd)(S:aA N ps (ah st))(Sq:fs.length=ps.length)(cx:∀(bq:Value) (A:Around) (outer:List Env) (s:Shared) (H:Hp) (E:XK) (as Ox:qah),as.length=fs.countP id->bh k (A.deeper (envOfC qual (ah st) s.heap.objs.size f bq))->∀ts q,ts.length=fs.length->G ts q ->
    ∃g,mG (eR dO P w K mg base N qual (ah st) f bq A outer s H E).nX ⟨H,pz fs as 0,Ox⟩ (bw st) g/\g {nx:=λρ=>q (jL fs ρ) (.vw .aQ),rt:=λρ r=>q (jL fs ρ) r} (uF fs ts++List.replicate (N.length-ts.length) none)) :
  cn P w K mg base dO (k+1) f fd ps (vt K fs G):=by
 refine F.ok S (λvs H Q E h=>?_) (λbq A outer s H vs Q E hr h=>?_);obtain⟨ts,as,Ox,q,_,_,_,ha,_⟩:=h;rw[<- Sq];exact (eX ha).2.1;obtain⟨ts,as,Ox,q,nd,nx,ox,ha,hG,kk⟩:=h;have l1:=(eX ha).1;obtain⟨g,hg,hq⟩:=cx bq A outer s H E as Ox (p_ ha) hr ts q l1 hG;exact⟨_,hg [],vy nd nx ox ha kk hq⟩
end
end VT
namespace dg
open PySem L2 VT Gen xi Rg Lay K5
open c9 (Ys Gj h9 rX mw Row3 rY mZ)
open ng (cK)
open j8 (Vl vT nm eC RI)
structure Cl where
 r:Vl
 k:T
 v:Vl
noncomputable def Cl.t(c:Cl):T:=.tup [vT c.r,c.k,vT c.v]
def isRec:Vl->Bool
 |.num _=>false
 |.dZ _ _=>true
noncomputable def uu(r:Vl)(k:T)(c:Cl):Bool:=isRec r && (decide (c.r=r) && eqT c.k k)
noncomputable def lookC(l:List Cl)(r:Vl)(k:T):Vl:=l.foldl (λv c=>if uu r k c=true then c.v else v) (.num 0)
theorem mx(l:List Cl)(c:Cl)(r:Vl)(k:T):lookC (l++[c]) r k=if uu r k c=true then c.v else lookC l r k:=by unfold lookC;rw[List.foldl_append];rfl
theorem Gx(v:Vl):plainT (vT v)=true/\dep (vT v)<=100:=by
 cases v with
 |num i=>exact⟨rfl,by simp[vT,dep]⟩
 |dZ p r=>exact⟨rfl,by simp[vT,dep,ly]⟩
noncomputable def j3(e:Ev):Rw->qaj
 |.put _ a=>[vT (look e a)]
 |.ju _ a _ b=>[vT (look e a),vT (look e b)]
 |.get _ r k=>vT (e.get r)::j2 e k
 |.set r k a=>vT (e.get r)::(j2 e k++[vT (look e a)])
 |_=>[]
noncomputable def uv(e:Ev)(cl:List Cl)(nw:qan)(p:Nat):Rw->Vl
 |.new _=>.dZ p ((nw.countP (·==(p:Int)):Nat):Int)
 |.put _ a=>look e a
 |.ju _ a _ b=>.num (if look e a=look e b then 1 else 0)
 |.get _ r k=>lookC cl (e.get r) (m4 e k)
 |.set _ _ a=>look e a
 |_=>.num 0
noncomputable def Gy(e:Ev)(cl:List Cl):Rw->List Cl
 |.set r k a=>cl++[⟨e.get r,m4 e k,look e a⟩]
 |_=>cl
noncomputable def nt(nw:qan)(p:Nat):Rw->qan
 |.new _=>nw++[(p:Int)]
 |_=>nw
def Py(t:T):Prop:=(∃x,t=.str x)\/∃i,t=.int i
noncomputable def Gz:GT:=λts q=>∃(p:Nat)(r:Rw)(ys:qai)(e:Ev)(n:Nat)(cl:List Cl)(nw:qan),ts=[.int (p:Int),aT r,.dk e.ks e.ts,.lst (cl.map Cl.t),.lst (nw.map .int)]/\Row3 ys r/\Cf r/\hW e n/\n<=1000/\cl.length<=100/\nw.length<=100/\(∀c∈cl,Py c.k) /\
 q [.lst ((Gy e cl r).map Cl.t),.lst ((nt nw p r).map .int)] (.vw (.tup [.tup (j3 e r),vT (uv e cl nw p r)]))
section
noncomputable abbrev Pz:qai:=["_law_place","_law_row_here","_law_held","_law_cells","_law_news","_law_word","_law_value","_law_one","_law_other","_law_record","_law_used","_law_key_here","_law_there","_law_kind","_law_what"]
theorem A0:aA Pz qaU (ah y_):=L2.gO
theorem Kv(D:Df K mg "_law_done" y_ qaU f fd)(M:QJ mg)(gm:cp P w K mg base "_law_look" qaS 1 (de K 2 AW))(PB:cp P w K mg base "_law_cell" qaT 2 (de K 2 Gv)):cp P w K mg base "_law_done" qaU 3 (vt K [false,false,false,true,true] Gz):=by
 refine D.gX (YB D.F A0 rfl λbq A outer s H E as Ox hla hr ts q hl hG=>?_);have nd:=A0.nd;have hu:=bh.fM hr;obtain⟨a3,h3⟩:=za (k:=0) (j:=3) hla rfl;obtain⟨p,r,ys,e,n,cl,nw,rfl,hro,b_,he,hn,Qr,hnw,hck,hq⟩:=hG;refine⟨_,(ai (bj (i:=5) nd rfl (Or.inl rfl) (qau (aH (ae 1) (qas af))) (gb (by decide)))
  (ai (bH (cy hu (ae 5) (qas aW))
   (ai (bj (i:=6) nd rfl (Or.inl rfl) (qau (a9 (aa (aj 0) (aa (qat (xq (ae 4) (aJ (ae 0) aV))) ar)))) (gb (by decide)))
   (ai (fY (rp 4 KS KU c7 dW (aa (aj 0) ar)))
   (ax (aI (qau (a9 (aa (qat (a9 ar)) (aa (aj 6) ar))))))))
   aP)
  (ai (bH (cy hu (ae 5) (qas aW))
   (ax (aI (qau (a9 (aa (qat (a9 (aa (qat (aE gm hr (aa (aj 2) (aa (qat (aH (ae 1) (qas af))) ar)))) ar))) (aa (qat (aE gm hr (aa (aj 2) (aa (qat (aH (ae 1) (qas af))) ar)))) ar))))))
   aP)
  (ai (bH (cy hu (ae 5) (qas aW))
   (ai (bj (i:=7) nd rfl (Or.inl rfl) (qau (aE gm hr (aa (aj 2) (aa (qat (aH (ae 1) (qas af))) ar)))) (gb (by decide)))
   (ai (bj (i:=8) nd rfl (Or.inl rfl) (qau (aE gm hr (aa (aj 2) (aa (qat (aH (ae 1) (qas af))) ar)))) (gb (by decide)))
   (ax (aI (qau (a9 (aa (qat (a9 (aa (aj 7) (aa (aj 8) ar)))) (aa (qat (dU Bd ym (by rfl) M.int Lo (aJ (qas (lx (vk hu (qas (bQ c0 (by rfl) M.isinstance (by rfl) M.tuple dH (ae 7))) (qas (bQ c0 (by rfl) M.isinstance (by rfl) M.tuple dH (ae 8)))) (sM (vk hu (ae 7) (ae 8))))) aV))) ar))))))))
   aP)
  (ai (bj (i:=9) nd rfl (Or.inl rfl) (qau (aE gm hr (aa (aj 2) (aa (qat (aH (ae 1) (qas (iD (cy hu (ae 5) (qas aW)) af af)))) ar)))) (gb (by decide)))
  (ai (NO (qat (aE PB hr (aa (aj 2) (aa (qat (aH (ae 1) (qas (iD (cy hu (ae 5) (qas aW)) af af)))) ar)))) (iF (n:=2) rfl (bO (a_ (i:=10) nd rfl (Or.inl rfl) (gb (by decide))) (bO (a_ (i:=11) nd rfl (Or.inl rfl) (gb (by decide))) fZ))))
  (ai (bH (cy hu (ae 5) (qas aW))
   (ai (bj (i:=6) nd rfl (Or.inl rfl) (qau af) (gb (by decide)))
   (ai (Ku Hq rfl (bN (i:=3) rfl (Or.inl rfl)) h3 (iF (n:=3) rfl (bO (a_ (i:=12) nd rfl (Or.inl rfl) (gb (by decide))) (bO (a_ (i:=13) nd rfl (Or.inl rfl) (gb (by decide))) (bO (a_ (i:=14) nd rfl (Or.inl rfl) (gb (by decide))) fZ))))
    (ax (bH (VW.vc (oA (dy (bQ c0 (by rfl) M.isinstance (by rfl) M.tuple dH (ae 9))) (oA (cy hu (ae 12) (ae 9)) (nI (cy hu (ae 13) (ae 11))))))
     (ax (bj (i:=6) nd rfl (Or.inl rfl) (qau (VE.vp (aj 14))) (gb (by decide))))
     aP)))
   (ax (aI (qau (a9 (aa (qat (cQ (qas (a9 (aa (aj 9) ar))) (ae 10))) (aa (aj 6) ar))))))))
   aP)
  (ai (bj (i:=6) nd rfl (Or.inl rfl) (qau (aE gm hr (aa (aj 2) (aa (qat (aH (ae 1) (qas af))) ar)))) (gb (by decide)))
  (ai (fY (rp 3 KS KU c7 dW (aa (qat (a9 (aa (aj 9) (aa (aj 11) (aa (aj 6) ar))))) ar)))
  (ax (aI (qau (a9 (aa (qat (cQ (qas (cQ (qas (a9 (aa (aj 9) ar))) (ae 10))) (qas (a9 (aa (aj 6) ar))))) (aa (aj 6) ar))))))))))))))),?_⟩
 cases hro with
 |@new x hx=>
  refine⟨_,ak (j:=0) rfl,nw,(p:Int),rfl,rfl,Gen.cw rfl,?_,Gen.cw rfl,Gen.cw rfl,?_⟩;rw[cW,sizeLine_eq];omega;show q [.lst (cl.map Cl.t),.lst (nw.map T.int++[T.int (p:Int)])] _;have e2:(nt nw p (.new x)).map T.int=nw.map T.int++[T.int (p:Int)]:=by show (nw++[(p:Int)]).map T.int=_;rw[sf];rfl
  rw[e2] at hq;exact hq
 |@put x o hx ho=>exact⟨_,ak (j:=0) rfl,_,ak (j:=2) rfl,rfl,e,o,n,rfl,he,hn,Gen.cw rfl,_,ak (j:=2) rfl,rfl,e,o,n,rfl,he,hn,Gen.cw rfl,hq⟩
 |@ju x y o hx hy ho=>
  refine⟨_,ak (j:=0) rfl,_,ak (j:=2) rfl,rfl,e,.nm y,n,rfl,he,hn,_,ak (j:=4) rfl,rfl,e,o,n,rfl,he,hn,Gen.cw rfl,?_⟩;have gS:q [.lst (cl.map Cl.t),.lst (nw.map .int)] (.vw (.tup [.tup [vT (look e (.nm y)),vT (look e o)],.int (if look e (.nm y)=look e o then 1 else 0)])):=hq;generalize look e (.nm y)=a at gS ⊢;generalize look e o=b at gS ⊢;have e2:∀a b:Vl,(if decide (a=b)=true then (1:Int) else 0)=if a=b then 1 else 0:=λa b=>by by_cases h:a=b<;>simp[h]
  cases a with
  |num i=>
   cases b with
   |num j=>
    refine⟨rfl,rfl,Gen.cw rfl,?_⟩;show q _ (.vw (.tup [.tup [.int i,.int j],.int (if decide (i=j)=true then 1 else 0)]));have e3:(if decide (i=j)=true then (1:Int) else 0)=if Vl.num i=Vl.num j then 1 else 0:=by by_cases h:i=j<;>simp[h]
    rw[e3];exact gS
   |dZ p2 r2=>rw[if_neg (λh=>by cases h)] at gS;exact⟨rfl,rfl,Gen.cw rfl,gS⟩
  |dZ p1 r1=>
   cases b with
   |num j=>rw[if_neg (λh=>by cases h)] at gS;exact⟨rfl,rfl,Gen.cw rfl,gS⟩
   |dZ p2 r2=>refine⟨rfl,rfl,rfl,rfl,(Gx (.dZ p1 r1)).2,Gen.cw rfl,?_⟩;show q _ (.vw (.tup [.tup [vT (.dZ p1 r1),vT (.dZ p2 r2)],.int (if eqT (vT (.dZ p1 r1)) (vT (.dZ p2 r2))=true then 1 else 0)]));rw[j8.wt,e2];exact gS
 |@get x y k hx hy hk=>
  have hkk:Py (m4 e k):=by
   cases k with
   |fld z=>exact .inl ⟨_,rfl⟩
   |op o=>exact .inr ⟨_,rfl⟩
  have hkp:∀t,Py t->plainT t=true/\dep t<=100:=λt h=>by obtain⟨z,rfl⟩|⟨i,rfl⟩:=h<;>exact⟨rfl,ji _⟩
  refine⟨_,ak (j:=0) rfl,_,ak (j:=2) rfl,rfl,e,.nm y,n,rfl,he,hn,_,ak (j:=3) rfl,rfl,e,k,n,rfl,he,hn,b_.2,?_⟩;refine⟨rfl,rfl,?_⟩;have gS:q [.lst (cl.map Cl.t),.lst (nw.map .int)] (.vw (.tup [.tup (vT (e.get y)::j2 e k),vT (lookC cl (e.get y) (m4 e k))])):=hq;refine⟨cl.map Cl.t,rfl,λm ρ=>∃VB VF VH,ρ=[some (.int (p:Int),false),some (aT (.get x y k),false),some (.dk e.ks e.ts,false),some (.lst (cl.map Cl.t),true),some (.lst (nw.map .int),true),some (.str "get",false),some (vT (lookC (cl.take m) (e.get y) (m4 e k)),false),none,none,some (vT (e.get y),false),some (.tup (j2 e k),false),some (m4 e k,false),VB,VF,VH],⟨_,_,_,rfl⟩,?_,?_,?_⟩;rintro m ρ ⟨VB,VF,VH,rfl⟩;rfl;rintro m t ρ ht ⟨VB,VF,VH,rfl⟩;rw[ij] at ht;cases ec:cl[m]? with
  |none=>rw[ec] at ht;cases ht
  |some c=>
   rw[ec] at ht;cases ht;have Z9:cl.take (m+1)=cl.take m++[c]:=by rw[List.take_succ,ec];rfl
   have hc:=hck c (fR ec);have no:uu (e.get y) (m4 e k) c=false->vT (lookC (cl.take (m+1)) (e.get y) (m4 e k))=vT (lookC (cl.take m) (e.get y) (m4 e k)):=λh=>by rw[Z9,mx,h];rfl
   have yes:uu (e.get y) (m4 e k) c=true->vT (lookC (cl.take (m+1)) (e.get y) (m4 e k))=vT c.v:=λh=>by rw[Z9,mx,h];rfl
   show NN 3 _ (.tup [vT c.r,c.k,vT c.v]) _ _;cases Z_:e.get y with
   |num i=>rw[Z_] at no yes;exact⟨rfl,rfl,rfl,_,_,_,by rw[no rfl];rfl⟩
   |dZ p1 r1=>
    rw[Z_] at no yes;refine⟨rfl,rfl,rfl,?_⟩;obtain⟨cr,ck,cv⟩:=c;cases cr with
    |num j=>
     refine⟨rfl,rfl,(Gx (.num j)).2,?_⟩;have h0:eqT (vT (.num j)) (vT (.dZ p1 r1))=false:=by rw[j8.wt];exact decide_eq_false (λh=>by cases h)
     refine lU (c:=eqT (vT (.num j)) (vT (.dZ p1 r1))) h0 ?_;exact⟨_,_,_,by rw[no rfl];rfl⟩
    |dZ p2 r2=>
     refine⟨rfl,rfl,(Gx (.dZ p2 r2)).2,?_⟩;refine ye (λVJ=>?_) (λVJ=>?_);have eqr:Vl.dZ p2 r2=Vl.dZ p1 r1:=by rw[j8.wt] at VJ;exact of_decide_eq_true VJ
     have hY:eqT ck (m4 e k)=true->uu (.dZ p1 r1) (m4 e k) ⟨.dZ p2 r2,ck,cv⟩=true:=λh=>by show (true && (decide (Vl.dZ p2 r2=Vl.dZ p1 r1) && eqT ck (m4 e k)))=true;rw[decide_eq_true eqr,h];rfl
     have hN:eqT ck (m4 e k)=false->uu (.dZ p1 r1) (m4 e k) ⟨.dZ p2 r2,ck,cv⟩=false:=λh=>by show (true && (decide (Vl.dZ p2 r2=Vl.dZ p1 r1) && eqT ck (m4 e k)))=false;rw[h,QY,QY]
     obtain⟨z,hz⟩|⟨z,hz⟩:=hc
     have YC:ck=.str z:=hz;subst YC;cases k with
     |fld x'=>refine ik (λh=>?_) (λh=>?_);exact⟨_,_,_,by rw[yes (hY (by show eqT (.str z) (.str _)=true;rw[h];exact gA _ rfl))];rfl⟩;exact⟨_,_,_,by rw[no (hN (by show eqT (.str z) (.str _)=false;simp only[eqT];exact beq_false_of_ne h))];rfl⟩
     |op o=>refine⟨rfl,rfl,ji _,?_⟩;refine lU (c:=eqT (.str z) (.int (nm (look e o)))) (by simp only[eqT]) ?_;exact⟨_,_,_,by rw[no (hN (by show eqT (.str z) (.int _)=false;simp only[eqT]))];rfl⟩
     have YC:ck=.int z:=hz;subst YC;cases k with
     |fld x'=>refine⟨rfl,rfl,ji _,?_⟩;refine lU (c:=eqT (.int z) (.str (((".":String):Str)++x'))) (by simp only[eqT]) ?_;exact⟨_,_,_,by rw[no (hN (by show eqT (.int z) (.str _)=false;simp only[eqT]))];rfl⟩
     |op o=>refine ik (λh=>?_) (λh=>?_);exact⟨_,_,_,by rw[yes (hY (by show eqT (.int z) (.int _)=true;rw[h];exact gA _ rfl))];rfl⟩;exact⟨_,_,_,by rw[no (hN (by show eqT (.int z) (.int _)=false;simp only[eqT];exact beq_false_of_ne h))];rfl⟩
     have hb:¬ (Vl.dZ p2 r2=Vl.dZ p1 r1):=λh=>VJ (by show eqT (vT (.dZ p2 r2)) (vT (.dZ p1 r1))=true;rw[j8.wt];exact decide_eq_true h);exact⟨_,_,_,by rw[no (by show (true && (decide (Vl.dZ p2 r2=Vl.dZ p1 r1) && eqT ck (m4 e k)))=false;rw[decide_eq_false hb];rfl)];rfl⟩
  rintro ρ ⟨VB,VF,VH,rfl⟩;rw[cW,List.take_length];have hku:(j2 e k).length<=1:=by cases k<;>simp[j2]
  refine⟨Gen.cw rfl,?_,Gen.cw rfl,gS⟩;refine mQ ?_;simp;omega
 |@set y k o hy hk ho=>
  refine⟨_,ak (j:=0) rfl,_,ak (j:=1) rfl,rfl,e,.nm y,n,rfl,he,hn,_,ak (j:=2) rfl,rfl,e,k,n,rfl,he,hn,b_.2.1,?_⟩;refine⟨rfl,rfl,_,ak (j:=3) rfl,rfl,e,o,n,rfl,he,hn,Gen.cw rfl,?_,?_⟩;rw[cW,sizeLine_eq];omega;have hku:(j2 e k).length<=1:=by cases k<;>simp[j2]
  have e2:(Gy e cl (.set y k o)).map Cl.t=cl.map Cl.t++[.tup [vT (look e (.nm y)),m4 e k,vT (look e o)]]:=by show (cl++[_]).map Cl.t=_;rw[sf];rfl
  rw[e2] at hq;refine⟨Gen.cw rfl,?_,Gen.cw rfl,?_,Gen.cw rfl,hq⟩;refine mQ ?_;simp;omega;refine mQ ?_;simp;omega
end
end dg
namespace Rg
open PySem L2 VT Gen K5 Lay
namespace Dk
theorem GA{α:Type}{k:Key}{v:α}:∀(ks:List Key)(is:List α),ks.length=is.length->kA ks k=true->bP ks (List.zipWith (λa t=>if a=k then v else t) ks is) k=some v
 |[],is,_,h=>by simp[kA] at h
 |a::ks,[],l,_=>by simp at l
 |a::ks,i::is,l,h=>by simp only[Mj,bP];by_cases e:a=k;rw[if_pos e,if_pos e];rw[if_neg e];refine GA ks is (by simpa using l) ?_;simp only[kA,CQ,decide_eq_false e,Bool.false_or] at h;exact h
theorem xt{α:Type}{k k':Key}{v:α}(hk:k'≠k):∀(ks:List Key)(is:List α),bP ks (List.zipWith (λa t=>if a=k then v else t) ks is) k'=bP ks is k'
 |[],is=>by cases is<;>rfl
 |a::ks,[]=>rfl
 |a::ks,i::is=>by simp only[Mj,bP];by_cases e:a=k';rw[if_pos e,if_pos e,if_neg (λz=>hk (e.symm.trans z))];rw[if_neg e,if_neg e];exact xt hk ks is
theorem GB{α:Type}{k:Key}{v:α}:∀(ks:List Key)(is:List α),ks.length=is.length->kA ks k=false->bP (ks++[k]) (is++[v]) k=some v
 |[],[],_,_=>by simp[bP]
 |[],i::is,l,_=>by simp at l
 |a::ks,[],l,_=>by simp at l
 |a::ks,i::is,l,h=>by simp only[kA,CQ,Bool.or_eq_false_iff,decide_eq_false_iff_not] at h;simp only[CN,bP,if_neg h.1];exact GB ks is (by simpa using l) h.2
theorem xu{α:Type}{k k':Key}{v:α}(hk:k'≠k):∀(ks:List Key)(is:List α),ks.length=is.length->bP (ks++[k]) (is++[v]) k'=bP ks is k'
 |[],[],_=>by simp only[Qm,bP];rw[if_neg (λz=>hk z.symm)]
 |[],i::is,l=>by simp at l
 |a::ks,[],l=>by simp at l
 |a::ks,i::is,l=>by simp only[CN,bP];rw[xu hk ks is (by simpa using l)]
theorem Kw{is:List α}{k:Key}{v:α}(l:ks.length=is.length):bP (dI ks k) (bR ks is k v) k=some v:=by
 unfold dI bR;cases h:kA ks k with
 |true=>rw[if_pos rfl,if_pos rfl];exact GA ks is l h
 |false=>rw[if_neg eh,if_neg eh];exact GB ks is l h
theorem putN{is:List α}{k k':Key}{v:α}(l:ks.length=is.length)(hk:k'≠k):bP (dI ks k) (bR ks is k v) k'=bP ks is k':=by
 unfold dI bR;cases h:kA ks k with
 |true=>rw[if_pos rfl,if_pos rfl];exact xt hk ks is
 |false=>rw[if_neg eh,if_neg eh];exact xu hk ks is l
theorem putL{is:List α}{k:Key}{v:α}(l:ks.length=is.length):(dI ks k).length=(bR ks is k v).length:=by
 unfold dI bR;cases h:kA ks k with
 |true=>rw[if_pos rfl,if_pos rfl,Qi];omega
 |false=>rw[if_neg eh,if_neg eh];simp[l]
end Dk
namespace Ck
theorem GA{α:Type}{k:List Key×Key}{v:α}:∀(ks:List (List Key×Key))(is:List α),ks.length=is.length->kO ks k=true->dm ks (List.zipWith (λa t=>if a=k then v else t) ks is) k=some v
 |[],is,_,h=>by simp[kO] at h
 |a::ks,[],l,_=>by simp at l
 |a::ks,i::is,l,h=>by simp only[Mj,dm];by_cases e:a=k;rw[if_pos e,if_pos e];rw[if_neg e];refine GA ks is (by simpa using l) ?_;simp only[kO,CQ,decide_eq_false e,Bool.false_or] at h;exact h
theorem xt{α:Type}{k k':List Key×Key}{v:α}(hk:k'≠k):∀(ks:List (List Key×Key))(is:List α),dm ks (List.zipWith (λa t=>if a=k then v else t) ks is) k'=dm ks is k'
 |[],is=>by cases is<;>rfl
 |a::ks,[]=>rfl
 |a::ks,i::is=>by simp only[Mj,dm];by_cases e:a=k';rw[if_pos e,if_pos e,if_neg (λz=>hk (e.symm.trans z))];rw[if_neg e,if_neg e];exact xt hk ks is
theorem GB{α:Type}{k:List Key×Key}{v:α}:∀(ks:List (List Key×Key))(is:List α),ks.length=is.length->kO ks k=false->dm (ks++[k]) (is++[v]) k=some v
 |[],[],_,_=>by simp[dm]
 |[],i::is,l,_=>by simp at l
 |a::ks,[],l,_=>by simp at l
 |a::ks,i::is,l,h=>by simp only[kO,CQ,Bool.or_eq_false_iff,decide_eq_false_iff_not] at h;simp only[CN,dm,if_neg h.1];exact GB ks is (by simpa using l) h.2
theorem xu{α:Type}{k k':List Key×Key}{v:α}(hk:k'≠k):∀(ks:List (List Key×Key))(is:List α),ks.length=is.length->dm (ks++[k]) (is++[v]) k'=dm ks is k'
 |[],[],_=>by simp only[Qm,dm];rw[if_neg (λz=>hk z.symm)]
 |[],i::is,l=>by simp at l
 |a::ks,[],l=>by simp at l
 |a::ks,i::is,l=>by simp only[CN,dm];rw[xu hk ks is (by simpa using l)]
theorem Kw{ks:List (List Key×Key)}{is:List α}{k:List Key×Key}{v:α}(l:ks.length=is.length):dm (gH ks k) (c8 ks is k v) k=some v:=by
 unfold gH c8;cases h:kO ks k with
 |true=>rw[if_pos rfl,if_pos rfl];exact GA ks is l h
 |false=>rw[if_neg eh,if_neg eh];exact GB ks is l h
theorem putN{ks:List (List Key×Key)}{is:List α}{k k':List Key×Key}{v:α}(l:ks.length=is.length)(hk:k'≠k):dm (gH ks k) (c8 ks is k v) k'=dm ks is k':=by
 unfold gH c8;cases h:kO ks k with
 |true=>rw[if_pos rfl,if_pos rfl];exact xt hk ks is
 |false=>rw[if_neg eh,if_neg eh];exact xu hk ks is l
theorem putL{ks:List (List Key×Key)}{is:List α}{k:List Key×Key}{v:α}(l:ks.length=is.length):(gH ks k).length=(c8 ks is k v).length:=by
 unfold gH c8;cases h:kO ks k with
 |true=>rw[if_pos rfl,if_pos rfl,Qi];omega
 |false=>rw[if_neg eh,if_neg eh];simp[l]
end Ck
def Ct.L(c:Ct):Prop:=c.ks.length=c.is.length
def Ce.L(c:Ce):Prop:=c.ks.length=c.is.length
theorem Ct.L.up{c:Ct}(h:c.L)(p:Nat):(c.up p).L:=Dk.putL h
theorem Ce.L.put{c:Ce}(h:c.L)(k:List Key×Key)(v:j8.Vl):(c.put k v).L:=Ck.putL h
theorem Ct.L.get{c:Ct}(h:c.L)(p j:Nat):(c.up p).get j=if j=p then c.get p+1 else c.get j:=by unfold Ct.get Ct.up;by_cases e:j=p;subst e;rw[if_pos rfl,Dk.Kw h];rfl;rw[if_neg e,Dk.putN h (λz=>e (by injection z with z;omega))]
theorem Ce.L.get{c:Ce}(h:c.L)(k j:List Key×Key)(v:j8.Vl):(c.put k v).get j=if j=k then v else c.get j:=by unfold Ce.get Ce.put;by_cases e:j=k;subst e;rw[if_pos rfl,Ck.Kw h];rfl;rw[if_neg e,Ck.putN h e]
end Rg
namespace dg
open PySem L2 VT Gen xi Rg Lay K5
open c9 (Row3)
open j8 (Vl vT nm eC RI)
structure Sl where
 e:Ev
 cl:List Cl
 nw:qan
 dn:qaj
noncomputable def evL(e:Ev)(v:Vl):Rw->Ev
 |.new x=>e.put x v
 |.put x _=>e.put x v
 |.ju x _ _ _=>e.put x v
 |.get x _ _=>e.put x v
 |_=>e
noncomputable def ig(p:Nat)(r:Rw)(s:Sl):Sl:=⟨evL s.e (uv s.e s.cl s.nw p r) r,Gy s.e s.cl r,nt s.nw p r,s.dn++[.tup [.int (p:Int),.tup (j3 s.e r),vT (uv s.e s.cl s.nw p r)]]⟩
noncomputable def kT:Key->T
 |.inl i=>.int i
 |.inr x=>.str x
noncomputable def kk(e:Ev):Ky->Key
 |.fld x=>.inr (((".":String):Str)++x)
 |.op o=>.inl (nm (look e o))
theorem GC(e:Ev)(k:Ky):m4 e k=kT (kk e k):=by cases k<;>rfl
theorem Uo(a b:Key):eqT (kT a) (kT b)=decide (a=b):=by cases a<;>cases b<;>rw[QW]<;>simp[kT,eqT]
structure Rel(s:Sl)(l:Lv):Prop where
 fs:l.fs=[]
 call:l.f.call=none
 ev:l.f.ev=s.e
 dn:l.dn=s.dn
 L1:l.ct.L
 L2:l.ce.L
 ct:∀p:Nat,l.ct.get p=((s.nw.countP (·==(p:Int)):Nat):Int)
 ce:∀p n k,lookC s.cl (.dZ p n) (kT k)=l.ce.get ([.inl p,.inl n],k)
theorem GD(cl:List Cl)(i:Int)(k:T):lookC cl (.num i) k=.num 0:=by
 unfold lookC;induction cl with
 |nil=>rfl
 |cons c cl ih=>rw[List.foldl_cons];exact ih
theorem Rel.at{s:Sl}{l:Lv}(R:Rel s l)(y:Str)(k:Ky):lookC s.cl (s.e.get y) (m4 s.e k)=l.ce.at' (cellK s.e y k):=by
 rw[GC];unfold cellK;cases s.e.get y with
 |num i=>exact GD _ _ _
 |dZ p n=>show _=l.ce.get ([.inl p,.inl n],_);rw[R.ce];cases k<;>rfl
theorem GF{s:Sl}{l:Lv}(hr:Row3 ys r)(R:Rel s l):∃l',eO rs r l=.inl l'/\Rel (ig l.pl r s) l'/\l'.pl=l.pl+1:=by
 obtain⟨e,cl,nw,dn⟩:=s;obtain⟨fs,⟨call,ev⟩,ce,ct,Kx,pl⟩:=l;obtain⟨h1,h2,h3,h4,L1,L2,Hl,Aa⟩:=R;simp only at h1 h2 h3 h4 L1 L2 Hl Aa;subst h1 h2 h3 h4;cases hr with
 |@new x hx=>refine⟨_,rfl,⟨rfl,rfl,?_,?_,L1.up _,L2,λp=>?_,Aa⟩,rfl⟩;show ev.put x (.dZ pl (ct.get pl))=ev.put x (.dZ pl _);rw[Hl];show Kx++[T.tup [.int (pl:Int),.tup [],vT (.dZ pl (ct.get pl))]]=Kx++[T.tup [.int (pl:Int),.tup [],vT (.dZ pl _)]];rw[Hl];show (ct.up pl).get p=(((nw++[(pl:Int)]).countP (·==(p:Int)):Nat):Int);rw[L1.get,List.countP_append,Hl,Hl];by_cases e:p=pl;subst e;simp;rw[if_neg e];have:¬ (pl:Int)=(p:Int):=λh=>e (by omega);simp[this]
 |put hx ho=>exact⟨_,rfl,⟨rfl,rfl,rfl,rfl,L1,L2,Hl,Aa⟩,rfl⟩
 |ju hx hy ho=>exact⟨_,rfl,⟨rfl,rfl,rfl,rfl,L1,L2,Hl,Aa⟩,rfl⟩
 |@get x y k hx hy hk=>have Um:=Rel.at (s:=⟨ev,cl,nw,Kx⟩) (l:=⟨[],⟨none,ev⟩,ce,ct,Kx,pl⟩) ⟨rfl,rfl,rfl,rfl,L1,L2,Hl,Aa⟩ y k;refine⟨_,rfl,⟨rfl,rfl,?_,?_,L1,L2,Hl,Aa⟩,rfl⟩;show ev.put x _=ev.put x (lookC cl (ev.get y) (m4 ev k));rw[Um];show Kx++[T.tup [.int (pl:Int),.tup ((fP.nm y::Fx k).map λo=>vT (look ev o)),vT (ce.at' (cellK ev y k))]]=Kx++[T.tup [.int (pl:Int),.tup (vT (ev.get y)::j2 ev k),vT (lookC cl (ev.get y) (m4 ev k))]];rw[Um];cases k<;>rfl
 |@set y k o hy hk ho=>
  refine⟨_,rfl,⟨rfl,rfl,rfl,?_,L1,?_,Hl,λp n j=>?_⟩,rfl⟩;show Kx++[T.tup [.int (pl:Int),.tup ((fP.nm y::(Fx k++[o])).map λo=>vT (look ev o)),vT (look ev o)]]=Kx++[T.tup [.int (pl:Int),.tup (vT (ev.get y)::(j2 ev k++[vT (look ev o)])),vT (look ev o)]];cases k<;>rfl;show (ce.Fw (look ev o) (cellK ev y k)).L;cases cellK ev y k with
  |none=>exact L2
  |some c=>exact L2.put _ _
  show lookC (cl++[⟨ev.get y,m4 ev k,look ev o⟩]) (.dZ p n) (kT j)=(ce.Fw (look ev o) (cellK ev y k)).get ([.inl p,.inl n],j);rw[mx,GC];have ek:cellK ev y k=match ev.get y with | .dZ p n=>some ([.inl p,.inl n],kk ev k) | .num _=>none:=by unfold cellK;cases ev.get y<;>cases k<;>rfl
  rw[ek];cases hy:ev.get y with
  |num i=>rw[if_neg (by simp[uu])];exact Aa p n j
  |dZ p' n'=>
   show _=(ce.put ([.inl p',.inl n'],kk ev k) (look ev o)).get _;rw[L2.get,Aa];unfold uu;rw[Uo];by_cases h:(([.inl p,.inl n],j):List Key×Key)=([.inl p',.inl n'],kk ev k);rw[if_pos h];injection h with h1 h2
   injection h1 with h1 h3
   injection h1 with h1
   injection h3 with h3
   injection h3 with h3
   subst h1 h2 h3;simp[isRec];rw[if_neg h,if_neg];intro z;simp only[isRec,Mr,jm,decide_eq_true_eq] at z;obtain⟨z1,z2⟩:=z;injection z1 with z3 z4
   subst z2 z3 z4;exact h rfl
end dg
namespace Rg
open PySem L2 VT Gen K5 Lay
open j8 (Vl vT)
def Ev.L(e:Ev):Prop:=e.ks.length=e.is.length
theorem Ev.L.put{e:Ev}(h:e.L)(x:Str)(v:Vl):(e.put x v).L:=Dk.putL h
theorem Ev.L.get{e:Ev}(h:e.L)(x:Str)(v:Vl):(e.put x v).get x=v:=by unfold Ev.get Ev.put;rw[Dk.Kw h];rfl
theorem Ev.L.ne{e:Ev}(h:e.L)(hy:y≠x)(v:Vl):(e.put x v).get y=e.get y:=by unfold Ev.get Ev.put;rw[Dk.putN h (λz=>hy (Sum.inr.inj z))]
theorem GG(ps:qai)(gs:List Vl):∀k,(bC ps gs k).L
 |0=>rfl
 |k+1=>by have ih:=GG ps gs k;unfold bC;split;exact ih.put _ _;exact ih
theorem GH{α:Type}:∀{l:List α}(nd:l.Nodup){i j:Nat}(hi:i<l.length)(hj:j<l.length),l[i]=l[j]->i=j
 |[],_,i,j,hi,_,_=>absurd hi (Nat.not_lt_zero _)
 |a::l,nd,0,0,_,_,_=>rfl
 |a::l,nd,0,j+1,_,hj,e=>absurd (by rw[show a=l[j]'(by simpa using hj) from e];exact K3 _) (jh.mp nd).1
 |a::l,nd,i+1,0,hi,_,e=>absurd (by rw[show a=l[i]'(by simpa using hi) from e.symm];exact K3 _) (jh.mp nd).1
 |a::l,nd,i+1,j+1,hi,hj,e=>by rw[GH (jh.mp nd).2 (by simpa using hi) (by simpa using hj) e]
theorem xv{ps:qai}(nd:ps.Nodup)(gs:List Vl){i:Nat}{x:Str}(hx:ps[i]?=some x):∀k,i<k->(bC ps gs k).get x=gs.getD i (.num 0)
 |0,h=>absurd h (Nat.not_lt_zero _)
 |k+1,h=>by
  have hL:=GG ps gs k;simp only[bC];by_cases e:i=k;subst e;rw[hx];exact hL.get x _;have ih:=xv nd gs hx k (by omega);cases hk:ps[k]? with
  |none=>exact ih
  |some y=>dsimp only;rw[hL.ne (λz=>?_),ih];subst z;obtain⟨l1,e1⟩:=fG.mp hx;obtain⟨l2,e2⟩:=fG.mp hk;exact e (GH nd l1 l2 (e1.trans e2.symm))
theorem GJ(nd:ps.Nodup)(gs:List Vl)(z:Nat)(hz:ps.length<=gs.length+z):(ps.map λx=>(bC ps gs ps.length).get x)=(gs++List.replicate z (Vl.num 0)).take ps.length:=by refine Ql λi=>?_;rw[ij];by_cases hi:i<ps.length;rw[m6 hi,List.getElem?_take_of_lt hi];show some ((bC ps gs ps.length).get ps[i])=_;rw[xv nd gs (m6 hi) ps.length hi,List.getD];by_cases hg:i<gs.length;rw[qg hg,m6 hg];rfl;rw[uI (by omega),Hm (by omega),zy,if_pos (by omega)];rfl;rw[Hm (by omega),Hm (by rw[Mn];omega)];rfl
end Rg
namespace dg
open PySem L2 VT Gen xi Rg Lay K5
open c9 (Row3)
open j8 (Vl vT nm eC RI)
noncomputable def zb:qal->Nat->Sl->Sl
 |[],_,s=>s
 |r::rs,p,s=>zb rs (p+1) (ig p r s)
noncomputable def GK(e:Ev)(ps:qai):T:=.tup [.int 0,.tup (ps.map λx=>vT (e.get x)),.aQ]
noncomputable def s0(ps:qai)(ins:qan):Sl:=⟨bC ps (kX ins) ps.length,[],[],[GK (bC ps (kX ins) ps.length) ps]⟩
noncomputable def zc(s:Sl)(p:Nat)(o:fP):Res:=(s.dn++[.tup [.int (p:Int),.tup [vT (look s.e o)],vT (look s.e o)]],AF (look s.e o))
theorem GN:∀(rs:qal)(p:Nat)(s:Sl),(zb rs p s).dn.length=s.dn.length+rs.length
 |[],p,s=>rfl
 |r::rs,p,s=>by show (zb rs (p+1) (ig p r s)).dn.length=_;rw[GN rs (p+1)];show (s.dn++[_]).length+rs.length=_;rw[k7,j9,j9,C8];omega
theorem YD(h:Row3 ys r):nD r=false:=by cases h<;>rfl
theorem GO{rs:qal}{ys:qai}{most:Nat}{o:fP}(h0:rs.length<=most):∀(body:qal)(s:Sl)(l:Lv),(∀r∈body,Row3 ys r)->rs.drop l.pl=body++[.give o]->Rel s l->s.dn.length<=l.pl->∃n,LZ rs most n l (zc (zb body l.pl s) (l.pl+body.length) o)
 |[],s,l,_,hd,R,hl=>by
  have hr:rs[l.pl]?=some (.give o):=by rw[<- List.head?_drop,hd];rfl
  have hp:=(fG.mp hr).1;refine⟨0,.fin ?_⟩;obtain⟨fs,⟨call,ev⟩,ce,ct,Kx,pl⟩:=l;obtain⟨e,cl,nw,dn⟩:=s;obtain⟨h1,h2,h3,h4,_,_,_,_⟩:=R;simp only at h1 h2 h3 h4 hr hp hl;subst h1 h2 h3 h4;unfold jx;rw[hr];dsimp only;rw[if_neg (by simp[nD]),if_neg (by omega)];rfl
 |r::body,s,l,hb,hd,R,hl=>by
  have hr:rs[l.pl]?=some r:=by rw[<- List.head?_drop,hd];rfl
  have hp:=(fG.mp hr).1;obtain⟨l',q1,q2,q3⟩:=GF (rs:=rs) (hb r cS) R;have CV:rs.drop l'.pl=body++[.give o]:=by rw[q3,<- List.drop_drop,hd];rfl
  have F7:(ig l.pl r s).dn.length<=l'.pl:=by show (s.dn++[_]).length<=_;rw[k7,q3];show s.dn.length+1<=_;omega
  obtain⟨n,hn⟩:=GO h0 body _ l' (λr' h'=>hb r' (d_ _ h')) CV q2 F7;rw[q3,Nat.add_assoc,Nat.add_comm 1] at hn;refine⟨n+1,.go ?_ hn⟩;unfold jx;rw[hr];dsimp only;have Vg:l.dn.length=s.dn.length:=by rw[R.dn]
  rw[if_neg (by rw[YD (hb r cS)];exact eh),if_neg (by omega)];exact q1
theorem Up(f:Str)(ps:qai)(l:qal):gc (.df f ps::l)=some 0:=by unfold gc;rw[List.findIdx?_cons];rfl
theorem PD{f:Str}{body:qal}{o:fP}{ins:qan}{most:Nat}(hm:body.length+2<=most)(hb:∀r∈body,Row3 ys r):xa (.df f ps::(body++[.give o])) ins most (zc (zb body 1 (s0 ps ins)) (body.length+1) o):=by
 have R:Rel (s0 ps ins) {Pa 0 ps ins with dn:=[GK (bC ps (kX ins) ps.length) ps],pl:=1}:=by refine⟨rfl,rfl,rfl,rfl,rfl,rfl,λp=>rfl,λp n k=>?_⟩;rfl
 obtain⟨n,hn⟩:=GO (rs:=.df f ps::(body++[.give o])) (most:=most) (o:=o) (by rw[j9,k7];show body.length+1+1<=most;omega) body _ _ hb rfl R (cU _);refine .OR (Up f ps _) rfl (n:=n+1) (.go ?_ (Nat.add_comm 1 body.length▸hn));unfold jx;rw[show (Rw.df f ps::(body++[Rw.give o]))[(Pa 0 ps ins).pl]?=some (.df f ps) from rfl];dsimp only;rw[if_neg (show ¬ nD (.df f ps)=true by simp[nD]),if_neg (show ¬ most<=(Pa 0 ps ins).dn.length from (by show ¬ most<=0;omega))];show Sum.inl {Pa 0 ps ins with dn:=[T.tup [.int ((0:Nat):Int),.tup ((ps.map fP.nm).map λo=>vT (look (bC ps (kX ins) ps.length) o)),.aQ]],pl:=1}=_;rw[zB];rfl
end dg
namespace VT
open PySem PySem.Spec PyProof.Rows L2
def AN(K:qaf)(H:Hp)(A:qah)(O:HD)(ρ:En):List (Option (Nat×Bool))->qaj->qak->Prop
 |[],ts,vs=>ts=[]/\vs=[]
 |none::ms,ts,vs=>∃t gD v eT,ts=t::gD/\vs=v::eT/\At K H A t v/\AN K H A O ρ ms gD eT
 |some k::ms,ts,vs=>∃a t gD eT,ts=t::gD/\vs=.ref a::eT/\ρ[k.1]?=some (some (t,true))/\O[k.1]?=some (some a)/\AN K H A O ρ ms gD eT
noncomputable def lAN(X:Cx)(Z:Zc)(tm:qab)(ms:List (Option (Nat×Bool)))(f:FA):TA:=λσ H Q=>∃ρ O q,aw X.K Z tm O ρ σ H/\f ρ q/\∀ts,q ts->∀vs H',aK H H'->AN X.K H' (av Z O) O ρ ms ts vs->Q vs H'
def PF(X:Cx)(Z:Zc)(es:qap)(ms:List (Option (Nat×Bool)))(f:FA):Prop:=Bx λtm=>PA X es (lAN X Z tm ms f)
instance{X:Cx}{Z:Zc}{es:qap}{ms:List (Option (Nat×Bool))}{f:FA}:CoeFun (PF X Z es ms f) λ_=>∀tm,PA X es (lAN X Z tm ms f):=⟨λh=>Bx.h h⟩
section
theorem Kz:PF X Z [] [] nv:=.mk λtm=>PA.weak cN λσ H Q ⟨ρ,O,q,I,hf,k⟩=>k _ hf [] H (aK.refl H) ⟨rfl,rfl⟩
theorem xw{ms:List (Option (Nat×Bool))}{f:FE}(h:VE X Z e f)(h':PF X Z es ms g)(hs:starEach (e::es) X.env=(false,eval e X.env)::starEach es X.env:=by rfl):PF X Z (e::es) (none::ms) (dA f g) :=
 .mk λtm=>PA.weak (bf (h tm) (h' tm) hs) λσ H Q ⟨ρ,O,q,I,hf,k⟩=>⟨ρ,O,_,I,hf,λt ht v H1 s1 a1=>⟨ρ,O,_,I.same s1,ht,λts eF vs H2 s2 a2=>k _ eF _ H2 (s1.trans s2) ⟨t,ts,v,vs,rfl,rfl,a1.same s2,a2⟩⟩⟩
theorem uw(j:Nat)(b:Bool){ms:List (Option (Nat×Bool))}{py:Pos}(h':PF X Z es ms g)(hN:X.N[j]?=some y:=by rfl)(hv:jA X.env.scope y:=by first|exact Or.inl rfl|exact Or.inr (Or.inl rfl)|exact Or.inr (Or.inr rfl))(hd:gp y:=by decide)(fH:se y:=by decide)(hs:starEach (.Name y py::es) X.env=(false,eval (.Name y py) X.env)::starEach es X.env:=by rfl):PF X Z (.Name y py::es) (some (j,b)::ms) (dA (D5 j) g) :=
 .mk λtm=>PA.weak (bf (bN hN hv hd fH) (h' tm) hs) λσ H Q ⟨ρ,O,q,I,hf,k⟩=>by
  have VL:D5 j ρ λt=>g ρ λts=>q (t::ts):=hf;unfold D5 at VL;split at VL
  rename_i t e0
  obtain⟨a,h1,h2,h3⟩:=I.root e0;exact⟨.ref a,h2,ρ,O,_,I,VL,λts eF vs H2 s2 a2=>k _ eF _ H2 s2 ⟨a,t,ts,vs,rfl,rfl,e0,h1,a2⟩⟩;exact VL.elim
end
def anF:Option (Nat×Bool)->Bool
 |some (_,b)=>b
 |none=>false
def VM:Option (Nat×Bool)->Option Nat
 |some (k,true)=>some k
 |_=>none
noncomputable def anL:Option (Nat×Bool)->Option Nat
 |some (k,false)=>some k
 |_=>none
section
variable{A:qah}
theorem AN.args{A':qah}{O:HD}{ρ:En}(sub:∀a∈A',a∈A)(hr:∀(k:Nat) t,ρ[k]?=some (some (t,true))->∃a,O[k]?=some (some a)/\cC K H A a t):∀{ms:List (Option (Nat×Bool))}{ts:qaj}{vs:qak},(∀k∈ms.filterMap anL,∀a,O[k]?=some (some a)->a∉A')->AN K H A O ρ ms ts vs ->
  ∃as,eL K H A' (ms.map anF) as ts vs/\Paired (λa k=>O[k]?=some (some a)) as (ms.filterMap VM)
 |[],ts,vs,_,h=>⟨[],⟨rfl,h.1,h.2⟩,.nil⟩
 |none::ms,ts,vs,nl,h=>by obtain⟨t,gD,v,eT,rfl,rfl,a,h⟩:=h;obtain⟨as,h1,h2⟩:=AN.args (ms:=ms) sub hr nl h;exact⟨as,⟨t,gD,v,eT,rfl,rfl,a.aR sub,h1⟩,h2⟩
 |some (k,true)::ms,ts,vs,nl,h=>by obtain⟨a,t,gD,eT,rfl,rfl,e0,e1,h⟩:=h;obtain⟨as,h1,h2⟩:=AN.args (ms:=ms) sub hr nl h;obtain⟨a',e2,r⟩:=hr k t e0;rw[e1] at e2;cases e2;exact⟨a::as,⟨a,as,t,gD,eT,rfl,rfl,rfl,r.aR sub,h1⟩,.cons e1 h2⟩
 |some (k,false)::ms,ts,vs,nl,h=>by obtain⟨a,t,gD,eT,rfl,rfl,e0,e1,h⟩:=h;obtain⟨as,h1,h2⟩:=AN.args (ms:=ms) sub hr (λk' m=>nl k' (d_ _ m)) h;obtain⟨a',e2,r⟩:=hr k t e0;rw[e1] at e2;cases e2;exact⟨as,⟨t,gD,_,eT,rfl,rfl,(r.aR sub).at (nl k cS a e1),h1⟩,h2⟩
end
def KA:T->Bool
 |.lst ts=>cb ts
 |_=>false
noncomputable def PH(ms:List (Option (Nat×Bool)))(g:FA)(G:GT):FX:=λρ Q=>g ρ λts=>G ts λus r=>match r with
 |.vw t=>us.all KA=true/\bJ t=true/\Q (putK (ms.filterMap VM) us ρ) (.vw t)
 |_=>False
section
variable{k:Nat}{fs:List Bool}{G:GT}{pos:Pos}{ms:List (Option (Nat×Bool))}
theorem GP(F:cn X.prog X.w X.K X.mg X.base dO k f fd ps (vt X.K fs G))(hr:bh k X.A)(hg:Gl X x)(hm:X.mg x=some (.ref f))(hk:PySem.W.keepIn X.K (.ref f)=true)(hb:Binds X.K fd ps [])(ha:PF X Z (e::es) ms g)(Sq:ms.map anF=fs:=by rfl)(QK:(ms.filterMap VM).Nodup:=by decide)(Zx:∀k∈ms.filterMap anL,k∉ms.filterMap VM:=by decide)(kf:gp x:=by decide)(he:starEach (e::es) X.env=(false,eval e X.env)::starEach es X.env:=by rfl)(gN:(backTo pos (starEach es X.env)).any (·.1)=false:=by rfl) :
  VX X Z (.Call (.Name x p) (e::es) [] pos) (PH ms g G):=.mk λtm=>PE.weak (i' F hr hg hm hk hb .nil jq (ha tm) kf he gN) λσ H Q ⟨ρ,O,q,I,hf,k⟩ =>
 ⟨ρ,O,_,I,hf,λts eF vs H1 s1 a1=>by
   subst Sq;show vt X.K _ G (vs++[]) H1 Q E0;rw[CO];have J:=I.same s1;have rt:∀(k:Nat) t,ρ[k]?=some (some (t,true))->∃a,O[k]?=some (some a)/\cC X.K H1 (av Z O) a t:=λk t e=>by obtain⟨a,q1,q2,q3⟩:=J.root e;exact⟨a,q1,q3⟩
   obtain⟨as,h1,h2⟩:=AN.args (A':=[]) (λ_ z=>nomatch z) rt (λ_ _ _ _ z=>nomatch z) a1;have vA:∀a∈as,a∈roots O:=λa h=>by obtain⟨k,_,e⟩:=dY h2 h;exact aG.mpr (fR e)
   have ndA:as.Nodup:=by
    clear h1;have:∀{as:qah}{ks:qao},ks.Nodup->Paired (λa k=>O[k]?=some (some a)) as ks->as.Nodup:=by
     intro as ks nd h;induction h with
     |nil=>exact G5
     |cons r t ih=>rw[jh] at nd ⊢;refine⟨λm=>?_,ih nd.2⟩;obtain⟨k',m1,m2⟩:=dY t m;exact nd.1 (by rw[z7 J r m2];exact m1)
    exact this QK h2
   obtain⟨sN,yy,Ag⟩:=AN.args (A':=as++[]) (λb z=>cj _ (vA b (by simpa using z))) rt (λk hk a ea z=>by obtain⟨k',m1,m2⟩:=dY h2 (show a∈as by simpa using z);rw[z7 J ea m2] at hk;exact Zx _ hk m1) a1
   have ee:sN=as:=by
    have:∀{as sN:qah}{ks:qao},Paired (λa k=>O[k]?=some (some a)) as ks->Paired (λa k=>O[k]?=some (some a)) sN ks->sN=as:=by
     intro as sN ks h h';induction h generalizing sN with
     |nil=>cases h';rfl
     |cons r t ih=>
       cases h' with
       |cons r' t'=>rw[r] at r';cases r';rw[ih t']
    exact this h2 Ag
   subst ee;refine⟨ts,sN,[],_,ndA,λa _ z=>(nomatch z),λa z=>(nomatch z),yy,eF,λus r hr v H' fr z=>?_⟩;cases r with
   |fr t=>exact hr.elim
   |vw t=>
     obtain⟨hu,hi,hq⟩:=hr;obtain⟨z1,z2⟩:=z;refine k _ _ hq O v H' ⟨J.called h2 QK fr ?_ rfl rfl (λa h=>?_) λa h=>.inl h,At.bJ hi z1⟩;generalize sN++[]=B at z2;clear h2 Ag h1 yy ndA vA fr hq eF a1 z1;induction z2 with
     |nil=>exact .nil
     |@cons a u as us r t ih=>
       simp only[QZ,jm] at hu;refine .cons ?_ (ih hu.2);cases u with
       |lst ts=>obtain⟨ws,e1,e2⟩:=r;exact⟨ws,e1,ay.bJ hu.1 e2⟩
       |_=>exact absurd hu.1 (by simp[KA])
     have na:a∉roots O:=λm=>(J.own a m).2.1 h;refine⟨na,?_⟩;cases e:H1 a with
     |none=>exact absurd e (J.ox a h)
     |some u=>rw[fr _ _ e λm=>na (vA a m)];simp⟩
def Uq(f:FX)(h:FG):FS:=λd ρ=>f ρ λρ' r=>match r with
 |.vw t=>h t ρ' d.nx
 |_=>False
theorem KC{tg:Expr}{f:FX}{h:FG}{pos:Pos}(he:VX X Z e f)(hg:VG X Z tg is h)(hs:swapsWithSole [tg] e pos.line X.env=pure false:=by rfl)(hw:swappedStores [tg] e X.env=pure none:=by rfl)(h1:(assignEach [tg] X.env).map (·.2)=[assign tg X.env]:=by rfl):VS X Z (.Assign [tg] e pos) (Uq f h):=.mk λtm=>PS.weak (xQ (he tm) (hg tm) hs hw h1) λD σ H ⟨ρ,O,d,I,q,F⟩ =>
 ⟨ρ,O,_,I,q,λρ' r ht O' v H' z=>by
  cases r with
  |fr t=>exact ht.elim
  |vw t=>exact⟨ρ',O',t,_,z.1,z.2,ht,λρ2 hρ O2 σ2 I2 _ _ _ _=>F.nx O2 ρ2 σ2 H' I2 hρ⟩⟩
end
end VT
namespace dg
open PySem L2 VT Gen xi Rg Lay K5
open c9 (Ys Gj h9 rX mw Row3 rY mZ)
open ng (cK)
open j8 (Vl vT nm eC RI)
def L_(ts:qaj)(q:qam):Prop:=∃(f:Str)(ps ys:qai)(body:qal)(o:fP)(ins:qan),ts=[.lst ((.df f ps::(body++[.give o])).map aT),.lst (ins.map .int)]/\(∀r∈body,Row3 ys r/\Cf r)/\rR o/\ps.Nodup/\ps.length<=2/\body.length<=63/\ins.length<=100 /\
 q (.vw (.tup [.lst (zc (zb body 1 (s0 ps ins)) (body.length+1) o).1,(zc (zb body 1 (s0 ps ins)) (body.length+1) o).2]))
noncomputable def YE(rs:qal)(ins:qan)(gv:List Vl)(s:Sl)(b4 b5 b9 Ur Us:Option (T×Bool)):En:=[some (.lst (rs.map aT),false),some (.lst (ins.map .int),false),some (.dk s.e.ks s.e.ts,true),some (.lst (gv.map vT),false),b4,b5,some (.lst s.dn,true),some (.lst (s.cl.map Cl.t),true),some (.lst (s.nw.map .int),true),b9,Ur,Us]
theorem Ut(ins:qan):(ins.map λi=>T.int (eC i))++(List.replicate (2:Int).toNat [(Rt.vw (T.int 0)).t]).flatten=(kX ins++List.replicate 2 (Vl.num 0)).map vT:=by unfold kX;rw[sf,zB];rfl
structure VN(s:Sl)(i:Nat):Prop where
 ev:hW s.e (2+i)
 cl:s.cl.length<=i
 nw:s.nw.length<=i
 dn:s.dn.length<=1+i
 ck:∀c∈s.cl,Py c.k/\RV c.v
theorem KD{cl:List Cl}(h:∀c∈cl,Py c.k/\RV c.v)(r:Vl)(k:T):RV (lookC cl r k):=by
 unfold lookC;have:∀(cl:List Cl)(v:Vl),(∀c∈cl,RV c.v)->RV v->RV (cl.foldl (λv c=>if uu r k c=true then c.v else v) v):=by
  intro cl;induction cl with
  |nil=>intro v _ h;exact h
  |cons c cl ih=>intro v hc hv;rw[List.foldl_cons];refine ih _ (λc' h'=>hc c' (d_ _ h')) ?_;split;exact hc c cS;exact hv
 exact this cl _ (λc hc=>(h c hc).2) Hj
theorem PJ(e:Ev)(k:Ky):Py (m4 e k):=by
 cases k with
 |fld z=>exact .inl ⟨_,rfl⟩
 |op o=>exact .inr ⟨_,rfl⟩
theorem PK{s:Sl}{p:Nat}(h:VN s i)(hr:Row3 ys r)(ho:Cf r):RV (uv s.e s.cl s.nw p r):=by
 cases hr with
 |new _=>exact Hj
 |put _ _=>exact h.ev.look ho
 |ju _ _ _=>show RI (if _ then 1 else 0);split<;>first|exact Ym|exact Hj
 |get _ _ _=>exact KD h.ck _ _
 |set _ _ _=>exact h.ev.look ho.2.2
theorem KG{s:Sl}{p:Nat}(h:VN s i)(hr:Row3 ys r)(ho:Cf r):VN (ig p r s) (i+1):=by
 have hv:=PK (p:=p) h hr ho;obtain⟨e,cl,nw,dn⟩:=s;obtain⟨h1,h2,h3,h4,h5⟩:=h;simp only at h1 h2 h3 h4 h5 hv;have d:∀t:T,(dn++[t]).length<=1+(i+1):=λt=>by rw[k7,j9,C8];omega
 cases hr with
 |new _=>exact⟨h1.put _ hv,by show cl.length<=_;omega,by show (nw++[_]).length<=_;rw[k7,j9,C8];omega,d _,h5⟩
 |set _ _ _=>
  refine⟨h1.up (by omega),by show (cl++[_]).length<=_;rw[k7,j9,C8];omega,by show nw.length<=_;omega,d _,λc hc=>?_⟩;rcases cJ.mp hc with z|z
  exact h5 c z;rw[gq.mp z];exact⟨PJ _ _,hv⟩
 |_=>exact⟨h1.put _ hv,by show cl.length<=_;omega,by show nw.length<=_;omega,d _,h5⟩
theorem KH{t:T}(h:Py t):bJ t=true:=by obtain⟨x,rfl⟩|⟨i,rfl⟩:=h<;>rfl
theorem qa{α:Type}{f:α->T}:∀{l:List α},(∀x∈l,bJ (f x)=true)->cb (l.map f)=true
 |[],_=>rfl
 |a::l,h=>by simp only[fS,cb,h a cS,qa λx hx=>h x (d_ _ hx),zA]
theorem KI(e:Ev)(r:Rw):cb (j3 e r)=true:=by
 have kk:∀k:Ky,cb (j2 e k)=true:=λk=>by cases k<;>simp[j2,cb,cH]
 cases r<;>simp only[j3,cb,cH,zA,Mr,kk];exact kP (kk _) (by simp only[cb,cH,zA])
section
noncomputable abbrev Uu:qai:=["_law_rows","_law_inputs","_law_held","_law_given","_law_name","_law_number_here","_law_doings","_law_cells","_law_news","_law_place","_law_used","_law_value"]
theorem GQ:aA Uu qaV (ah Gu):=L2.gO
theorem Cz:((["_law_rows","_law_inputs","_law_held","_law_given","_law_name","#_law_number_here","_law_doings","_law_cells","_law_news","_law_place","_law_used","_law_value"]:qai)++(["_law_number_here"]:qai)).Nodup:=by decide +kernel
theorem CA:(["_law_rows","_law_inputs","_law_held","_law_given","_law_name","#_law_number_here","_law_doings","_law_cells","_law_news","_law_place","_law_used","_law_value"]:qai).Nodup:=by decide +kernel
theorem PL(D:Df K mg "_law_due" Gu qaV f fd)(M:QJ mg)(Gf:cp P w K mg base "_law_fit" qaR 1 (de K 1 L9))(gm:cp P w K mg base "_law_look" qaS 1 (de K 2 AW))(PM:cp P w K mg base "_law_done" qaU 3 (vt K [false,false,false,true,true] Gz)):cp P w K mg base "_law_due" qaV 4 (de K 2 L_):=by
 obtain⟨f_look,VQ,PN,PQ,PR,PU⟩:=gm;obtain⟨YF,VU,PV,PX,PY,PZ⟩:=PM;refine D.gX (nz D.F GQ rfl λbq A outer s H E Ox hr ts q hG=>?_);have nd:=GQ.nd;have hu:=bh.fM hr;have np:∀{i:Nat},bE ⟨H,[],Ox⟩ i:=mM;have uE:=o4 hu;refine⟨_,(ai (dz (i:=2) nd rfl (Or.inl rfl) (qau tw) np)
  (ai (tI 5 "#_law_number_here" np (bj (i:=3) CA rfl (Or.inl rfl) (qau (cQ (qas (f_ (ts:=qaR) rfl (by rfl) (jJ (aj 1)) (λ_ _ _ _ _ _=>(a_ (i:=12) Cz rfl (Or.inl rfl) np)) (λ_ _ _ _ _ _=>eS) (λ_ _ _ _ _ _=>(qat (aE Gf hr (aa (aj 12) ar)))))) (qas (oQ (eJ (aa (qat af) ar)) (qas af))))) np))
  (ai (jK Hq rfl (El (by rfl) M.zip (qat (aH (qas (aH (ae 0) (qas af))) (qas af))) (aj 3)) (iF (n:=2) rfl (bO (a_ (i:=4) nd rfl (Or.inl rfl) np) (bO (a_ (i:=5) nd rfl (Or.inl rfl) np) fZ)))
   (ax (tE 2 uE (aj 5) (ae 4))))
  (ai (dz (i:=6) nd rfl (Or.inl rfl) (qau (eJ (aa (qat (a9 (aa (qat af) (aa (qat (dU gh iE (by rfl) M.tuple dH (aJ (qas (gC (ae 3) kq (gW (qas (bA br bt (by rfl) M.len sg (aJ (qas (aH (qas (aH (ae 0) (qas af))) (qas af))) aV)))))) aV))) (aa (qat cZ) ar))))) ar))) np)
  (ai (dz (i:=7) nd rfl (Or.inl rfl) (qau (eJ ar)) np)
  (ai (dz (i:=8) nd rfl (Or.inl rfl) (qau (eJ ar)) np)
  (ai (jK Hq rfl (Bv (by rfl) M.range (qas af) (qas (jG (qas (bA br bt (by rfl) M.len sg (aJ (ae 0) aV))) (qas af)))) (a_ (i:=9) nd rfl (Or.inl rfl) np)
   (ai (KC (GP PZ (hr.mono (by decide)) (by rfl) PV PX PY (xw (aj 9) (xw (qat (aH (ae 0) (ae 9))) (uw 2 false (uw 7 true (uw 8 true Kz)))))) (iF (n:=2) rfl (bO (a_ (i:=10) nd rfl (Or.inl rfl) np) (bO (a_ (i:=11) nd rfl (Or.inl rfl) np) fZ))))
   (ai (bH (vm hu (qas (aH (qas (aH (ae 0) (ae 9))) (qas af))) (qas aW))
    (ax (tE 2 uE (aj 11) (qas (aH (qas (aH (ae 0) (ae 9))) (qas af)))))
    aP)
   (ax (fY (rp 6 KS KU c7 dW (aa (qat (a9 (aa (aj 9) (aa (aj 10) (aa (aj 11) ar))))) ar)))))))
  (ai (bj (i:=11) nd rfl (Or.inl rfl) (qau (D4 PU (hr.mono (by decide)) (by rfl) PN PQ PR (aJ (ae 2) (aJ (qas (aH (qas (aH (ae 0) (qas (lC (qas af))))) (qas af))) aV)))) np)
  (ax (aI (qau (a9 (aa (qat (cQ (ae 6) (qas (eJ (aa (qat (a9 (aa (qat (jG (qas (bA br bt (by rfl) M.len sg (aJ (ae 0) aV))) (qas af))) (aa (qat (a9 (aa (aj 11) ar))) (aa (aj 11) ar))))) ar))))) (aa (qat (a9 (aa (qat aW) (aa (aj 11) ar)))) ar)))))))))))))),λ_=>?_⟩
 obtain⟨f',ps,ys,body,o,ins,rfl,hb,ho,QK,h2,Bt,E8,hq⟩:=hG;have hlen:(Rw.df f' ps::(body++[Rw.give o])).length=body.length+2:=by rw[j9,k7];rfl
 have YG:jB ((Rw.df f' ps::(body++[Rw.give o])).map aT) 0=some (aT (.df f' ps)):=ak (j:=0) rfl;have hrb:∀(i:Nat)(r:Rw),body[i]?=some r->jB ((Rw.df f' ps::(body++[Rw.give o])).map aT) ((1+i:Nat):Int)=some (aT r):=λi r h=>Rg.pj (by rw[Nat.add_comm,List.getElem?_cons_succ,qg (fG.mp h).1];exact h);have hrl:jB ((Rw.df f' ps::(body++[Rw.give o])).map aT) (-1)=some (aT (.give o)):=by rw[<- CN,sf];exact iz _ _
 have Pu:((Rw.df f' ps::(body++[Rw.give o])).map aT).length=body.length+2:=by rw[cW];exact hlen
 generalize (Rw.df f' ps::(body++[Rw.give o]))=rs at YG hrb hrl Pu ⊢;refine⟨rfl,by rw[cW];exact mQ (by omega),?_⟩;refine fm (f:=T.int) (u:=λi=>.int (eC i)) (λi _ k hk=>⟨rfl,i,rfl,hk⟩) ?_;refine⟨Gen.cw rfl,by decide,by decide,mQ (by decide),?_⟩;refine⟨by rw[cW];show ins.length+2<=sizeLine;exact mQ (by omega),?_⟩;refine⟨_,YG,_,ak (j:=2) rfl,?_⟩;show mJ (oX (ps.map T.str) ((ins.map λi=>T.int (eC i))++(List.replicate (2:Int).toNat [(Rt.vw (T.int 0)).t]).flatten)) _ _ _ [some (.lst (rs.map aT),false),some (.lst (ins.map .int),false),some (.dk [] [],true),some (.lst ((ins.map λi=>T.int (eC i))++(List.replicate (2:Int).toNat [(Rt.vw (T.int 0)).t]).flatten),false),none,none,none,none,none,none,none,none];rw[Ut];unfold s0 at hq;have XE:(kX ins).length<=100:=by unfold kX;rw[cW];exact E8
 have hgr:∀g∈kX ins,RV g:=λg hg=>by unfold kX at hg;obtain⟨i,_,rfl⟩:=sh.mp hg;exact yN i
 generalize kX ins=gs at hq XE hgr ⊢;have zl:(oX (ps.map T.str) ((gs++List.replicate 2 (Vl.num 0)).map vT)).length=ps.length:=by unfold oX;rw[Qi,cW,cW,k7,KY];omega
 refine⟨λi ρ=>∃b4 b5,ρ=[some (.lst (rs.map aT),false),some (.lst (ins.map .int),false),some (.dk (bC ps gs i).ks (bC ps gs i).ts,true),some (.lst ((gs++List.replicate 2 (Vl.num 0)).map vT),false),b4,b5,none,none,none,none,none,none],⟨none,none,rfl⟩,?_,?_⟩;rintro i t ρ ht ⟨b4,b5,rfl⟩;have hi:i<ps.length:=by rw[<- zl];exact (fG.mp ht).1
 obtain⟨x,hx⟩:∃x,ps[i]?=some x:=⟨_,m6 hi⟩;have et:t=.tup [.str x,vT (gs.getD i (.num 0))]:=by
  unfold oX at ht;have hg:(gs++List.replicate 2 (Vl.num 0))[i]?=some (gs.getD i (.num 0)):=by rw[List.getD];by_cases hg:i<gs.length;rw[qg hg,m6 hg];rfl;rw[uI (by omega),Hm (l:=gs) (by omega),zy,if_pos (by omega)];rfl
  rw[UQ,ij,ij,hx,hg] at ht;exact (Option.some.inj ht).symm
 subst et;have es:bC ps gs (i+1)=(bC ps gs i).put x (gs.getD i (.num 0)):=by simp only[bC,hx]
 have hl:((bC ps gs i).ts).length<16777216:=by have:=pP ps gs i;unfold Ev.ts;rw[cW];omega
 refine⟨rfl,rfl,hl,?_⟩;show ∃b4 b5,(_:En)=[some (.lst (rs.map aT),false),some (.lst (ins.map .int),false),some (.dk (bC ps gs (i+1)).ks (bC ps gs (i+1)).ts,true),some (.lst ((gs++List.replicate 2 (Vl.num 0)).map vT),false),b4,b5,none,none,none,none,none,none];rw[es,<- pJ];exact⟨_,_,rfl⟩;rintro ρ ⟨b4,b5,rfl⟩;rw[zl];have ec:gB ((gs++List.replicate 2 (Vl.num 0)).map vT) none (some (((ps.map T.str).length:Nat):Int))=ps.map λx=>vT ((bC ps gs ps.length).get x):=by rw[cW,c9.uq vT (gs++List.replicate 2 (Vl.num 0)) ps.length (by rw[k7,KY];omega),<- GJ QK gs 2 (by omega),zB];rfl
 have ok0:=t6 ps gs hgr ps.length;generalize bC ps gs ps.length=e0 at ec hq ok0 ⊢;refine⟨_,YG,_,ak (j:=2) rfl,Gen.cw rfl,Gen.cw rfl,Gen.cw rfl,Gen.cw rfl,?_⟩;refine⟨⟨by decide,by decide,by rw[Pu];omega,by rw[Pu];omega⟩,?_⟩;show mJ _ _ _ _ [some (.lst (rs.map aT),false),some (.lst (ins.map .int),false),some (.dk e0.ks e0.ts,true),some (.lst ((gs++List.replicate 2 (Vl.num 0)).map vT),false),b4,b5,some (.lst [.tup [.int 0,.tup (gB ((gs++List.replicate 2 (Vl.num 0)).map vT) none (some (((ps.map T.str).length:Nat):Int))),.aQ]],true),some (.lst [],true),some (.lst [],true),none,none,none];rw[ec,Pu];have eD:(T.tup [.int 0,.tup (ps.map λx=>vT (e0.get x)),.aQ])=GK e0 ps:=rfl;rw[eD];generalize hS:zb body 1 ⟨e0,[],[],[GK e0 ps]⟩=S at hq;refine oS (λi ρ=>∃s b9 Ur Us,ρ=YE rs ins (gs++List.replicate 2 (Vl.num 0)) s b4 b5 b9 Ur Us/\VN s i/\zb (body.drop i) (1+i) s=S) ⟨⟨e0,[],[],[GK e0 ps]⟩,none,none,none,rfl,⟨ok0.up (by omega),cU _,cU _,cU _,λc hc=>nomatch hc⟩,hS⟩ ?_ ?_;rintro i ρ hi ⟨s,b9,Ur,Us,rfl,ok,QL⟩;have DP:i<body.length:=by omega
 have ep:(1:Int)+(i:Int)=((1+i:Nat):Int):=by push_cast;rfl
 obtain⟨r,eG⟩:∃r,body[i]?=some r:=⟨_,m6 DP⟩;obtain⟨YH,rV⟩:=hb r (fR eG);have qP:=hrb i r eG;have zd:zb (body.drop (i+1)) (1+(i+1)) (ig (1+i) r s)=S:=by rw[V0 DP,(fG.mp eG).2] at QL;exact QL
 have QM:=KG (p:=1+i) ok YH rV;have n1:=ok.ev;have n2:=ok.cl;have n3:=ok.nw;have n4:=ok.dn;have gQ:s.e.ts.length<16777216:=by have:=ok.ev.n;unfold Ev.ts;rw[cW];omega
 rw[ep];refine⟨_,qP,1+i,r,ys,s.e,2+i,s.cl,s.nw,rfl,YH,rV,ok.ev,by omega,by omega,by omega,λc hc=>(ok.ck c hc).1,?_⟩;have T9:[T.lst ((Gy s.e s.cl r).map Cl.t),T.lst ((nt s.nw (1+i) r).map .int)].all KA=true:=by
  have c1:cb ((Gy s.e s.cl r).map Cl.t)=true:=qa λc hc=>by have:=(QM.ck c hc).1;simp only[Cl.t,bJ,cb,cH,KH this,zA]
  have c2:cb ((nt s.nw (1+i) r).map T.int)=true:=qa λc _=>rfl;simp only[QZ,KA,c1,c2,List.all_nil,zA]
 refine⟨T9,by simp only[bJ,cb,KI,cH,zA],rfl,rfl,?_⟩;have h:=λx=>pJ s.e x (uv s.e s.cl s.nw (1+i) r);cases YH with
 |@new x hx=>refine⟨_,qP,_,ak (j:=0) rfl,_,qP,_,ak (j:=1) rfl,gQ,Gen.cw rfl,mQ (by omega),ig (1+i) (.new x) s,some (.int ((1+i:Nat):Int),false),some (.tup (j3 s.e (.new x)),false),some (vT (uv s.e s.cl s.nw (1+i) (.new x)),false),?_,QM,zd⟩;rw[h]<;>rfl
 |@put x o hx ho=>refine⟨_,qP,_,ak (j:=0) rfl,_,qP,_,ak (j:=1) rfl,gQ,Gen.cw rfl,mQ (by omega),ig (1+i) (.put x o) s,some (.int ((1+i:Nat):Int),false),some (.tup (j3 s.e (.put x o)),false),some (vT (uv s.e s.cl s.nw (1+i) (.put x o)),false),?_,QM,zd⟩;rw[h]<;>rfl
 |@ju x y o hx hy ho=>refine⟨_,qP,_,ak (j:=0) rfl,_,qP,_,ak (j:=1) rfl,gQ,Gen.cw rfl,mQ (by omega),ig (1+i) (.ju x (.nm y) "same" o) s,some (.int ((1+i:Nat):Int),false),some (.tup (j3 s.e (.ju x (.nm y) "same" o)),false),some (vT (uv s.e s.cl s.nw (1+i) (.ju x (.nm y) "same" o)),false),?_,QM,zd⟩;rw[h]<;>rfl
 |@get x y k hx hy hk=>refine⟨_,qP,_,ak (j:=0) rfl,_,qP,_,ak (j:=1) rfl,gQ,Gen.cw rfl,mQ (by omega),ig (1+i) (.get x y k) s,some (.int ((1+i:Nat):Int),false),some (.tup (j3 s.e (.get x y k)),false),some (vT (uv s.e s.cl s.nw (1+i) (.get x y k)),false),?_,QM,zd⟩;rw[h]<;>rfl
 |@set y k o hy hk ho=>exact⟨_,qP,_,ak (j:=0) rfl,Gen.cw rfl,mQ (by omega),ig (1+i) (.set y k o) s,some (.int ((1+i:Nat):Int),false),_,_,rfl,QM,zd⟩
 rintro ρ ⟨s,b9,Ur,Us,rfl,ok,QL⟩;have e1:((((body.length+2:Nat):Int)-1)-1).toNat=body.length:=by omega
 rw[e1] at ok QL;rw[List.drop_length] at QL;have zd:s=S:=QL;subst zd;have n4:=ok.dn;refine⟨_,hrl,_,ak (j:=1) rfl,rfl,s.e,o,2+body.length,rfl,ok.ev,by omega,cH _,?_⟩;refine⟨Gen.cw rfl,Gen.cw rfl,Gen.cw rfl,?_⟩;have e2:(((rs.map aT).length:Nat):Int)-1=((body.length+1:Nat):Int):=by rw[Pu];omega
 rw[e2];exact⟨by show s.dn.length+1<=sizeLine;exact mQ (by omega),Gen.cw rfl,Gen.cw rfl,hq⟩
end
end dg
namespace VT
open PySem PySem.Spec PyProof.Rows L2
section
variable{st:Stmt}{rest:qaq}{g:FS}{u:Addr->FS}{pos:Pos}
theorem GR{at':Str}{YI:String}{rr:V->qak->Hp->VK->Prop}{q1 q2 q3 q4 q5 q6:Pos}{k1}(Yu:Slot "list" at' YI)(HW:typeOf (.builtin YI)=pure (.type "method_descriptor"))(hmt:U5 X YI rr)(hrr:∀l vs H Q,H l=some (.lst vs)->(∀us,Q V.aQ (upd H l (.lst us)))->rr (.ref l) [] H Q)(hP:Z.P=[])(hi:X.N[i]?=some x)(vx:jA X.env.scope x)(wD:mG X Z rest g)(hd:gp x:=by decide)(fH:se x:=by decide)(a1:attributeBase (.Subscript (.Name x q1) (.Constant (.int 0) k1 q2) q3) at' X.env (eval (.Subscript (.Name x q1) (.Constant (.int 0) k1 q2) q3) X.env)=eval (.Subscript (.Name x q1) (.Constant (.int 0) k1 q2) q3) X.env:=by rfl)(l1:(q4.endLine==q5.line)=true:=by rfl)(sw1:swapsWith (.Call (.Attribute (.Subscript (.Name x q1) (.Constant (.int 0) k1 q2) q3) at' q4) [] [] q5) none q6.line X.env=pure false:=by rfl)(ix1:nH (.Constant (.int 0) k1 q2):=by exact λ_ _=>rfl) :
  OJ X Z i (.Expr (.Call (.Attribute (.Subscript (.Name x q1) (.Constant (.int 0) k1 q2) q3) at' q4) [] [] q5) q6::rest) (Yj i g):=.mk λtm=>
 λpins s' σ H D J ⟨ρ,O,d,p,l,h,q,F⟩=>by
  obtain⟨v,e1⟩:=h.hp;obtain⟨vs,e2⟩:=h.hl;obtain⟨o,w,z1,z2,z3⟩:=h.I.sl i _ h.hi;obtain⟨rfl,w',rfl,z4⟩:=z3;simp only[At] at z4;subst z4;refine bT (i_ (sJ Mi Yu HW hmt (DA DB (bN hi vx hd fH) xO ix1) a1 l1) sw1) (wD tm) pins s' σ H D J
   ⟨.ref p,z2,p,_,0,.ref l,rfl,rfl,dD.of e1,rfl,.inl ⟨rfl,vs,eU.of e2⟩,hrr l vs _ _ e2 λus=>?_⟩
  have h2:=h.out (as:=[]) hP h.I;have nl:l∉roots O:=λz=>(h.I.own l z).2.1 cS;refine⟨ρ.set i none,O.set i none,d,?_,q,F⟩;have J2:=h.I.forget (i:=i) (λp hp=>absurd hp gg);have hA:l∈av ⟨jl H (roots O),[],l::Z.Ox⟩ (O.set i none):=bK _ cS;have J3:aw X.K ⟨jl H (roots O),[],l::Z.Ox⟩ tm (O.set i none) (ρ.set i none) σ H:=J2;have sub:∀b∈av Z (O.set i none),b∈av ⟨jl H (roots O),[],l::Z.Ox⟩ (O.set i none):=λb hb=>by
   rcases cJ.mp hb with z|z
   exact cj _ z;exact bK _ (d_ _ z)
  have J4:=h.out (as:=[]) hP J3;have nl2:l∉roots (O.set i none):=λz=>nl (bF i l z);have wr:∀{t:T}{v:V},At X.K H (av ⟨jl H (roots O),[],l::Z.Ox⟩ (O.set i none)) t v->At X.K (upd H l (.lst us)) (av Z (O.set i none)) t v:=λq=>(q.wrote hA e2 rfl).aR sub;have wrL:∀{ts:qaj}{vs:qak},ay X.K H (av ⟨jl H (roots O),[],l::Z.Ox⟩ (O.set i none)) ts vs->ay X.K (upd H l (.lst us)) (av Z (O.set i none)) ts vs:=λq=>(ay.wrote hA e2 rfl q).aR sub;refine⟨J3.lσ,J3.lO,λj e hq=>?_,J3.nd,λb hb=>?_,(λq hq=>by rw[hP] at hq;cases hq),λb hb=>?_,λb o e _=>?_,λq hq=>wr (J3.mD q hq)⟩;obtain⟨o,s,h1,Ag,h3⟩:=J3.sl j e hq;refine⟨o,s,h1,Ag,?_⟩
  match e,h3 with
  |none,h3=>exact h3
  |some (t,false),h3=>obtain⟨r1,v,r2,r3⟩:=h3;exact⟨r1,v,r2,wr r3⟩
  |some (t,true),h3=>obtain⟨c,r1,r2,r3⟩:=h3;refine⟨c,r1,r2,r3.map ?_ λ_ _=>wrL⟩;rw[az];rintro rfl;rw[r1] at h1;exact nl2 (aG.mpr (fR h1))
  obtain⟨y1,y2,u,y3,y4⟩:=J4.own b hb;refine⟨y1,y2,u,?_,y4⟩;rw[az (λz=>nl2 (by rw[<- z];exact hb))];exact y3;by_cases z:b=l;rw[z,aB];simp;rw[az z];exact J4.ox b hb;obtain⟨k1,k2,k3⟩:=h.kp b o e;rw[az k3];exact J4.keep b o e (by rw[hP];simp)
theorem P0(l:Addr)(vs:qak)(H:Hp)(Q:VK)(e:H l=some (.lst vs))(h:∀us,Q V.aQ (upd H l (.lst us))):uX (.ref l) [] H Q:=⟨l,vs,rfl,rfl,e,h _⟩
end
end VT
namespace dg
open PySem L2 VT Gen xi Rg Lay K5
open c9 (Ys Gj h9 rX mw Row3 rY mZ)
open ng (cK)
open j8 (Vl vT nm eC RI)
def KJ(ts:qaj)(q:qam):Prop:=∃ns:qan,ts=[.lst (ns.map .int)]/\ns.length<=63/\q (.vw (.bl true))
abbrev L':T:=.int 200
theorem Uv{tk:Tok}:RelV (.int 200) (.int 200 tk):=⟨_,rfl⟩
theorem Uw{A:qah}:At K H A L' (.int 200):=bc
theorem k4(h:cK x=true):x.length<=8:=by unfold cK at h;simp only[jm,decide_eq_true_eq] at h;omega
theorem P4(f:α->T)(ns:List α)(lo hi:Option Int):∃ms:List α,gB (ns.map f) lo hi=ms.map f/\ms.length<=ns.length:=by refine⟨(ns.drop (HT.dB (ns.map f).length 0 lo)).take (HT.dB (ns.map f).length (ns.map f).length hi-HT.dB (ns.map f).length 0 lo),?_,?_⟩;unfold gB;rw[List.map_take,List.map_drop];rw[Mn,List.length_drop];omega
theorem all_rows{ys:qai}:∀{us:qaj},(∀t∈us,∃r,Row3 ys r/\t=aT r)->∃body:qal,us=body.map aT/\∀r∈body,Row3 ys r
 |[],_=>⟨[],rfl,λ_ z=>nomatch z⟩
 |t::us,h=>by
  obtain⟨r,h1,rfl⟩:=h t cS;obtain⟨b,rfl,h2⟩:=all_rows λt ht=>h t (d_ _ ht);refine⟨r::b,rfl,λx hx=>?_⟩;rcases cT.mp hx with z|z
  rw[z];exact h1;exact h2 x z
theorem KL(v:Vl):Sm.Lv (n+2) (vT v):=by
 cases v with
 |num i=>exact .inl ⟨i,rfl⟩
 |dZ p r=>refine .inr (.inr (.inr (.inl ⟨_,rfl,by simp,λu hu=>?_⟩)));simp only[cT,gg,or_false] at hu;obtain rfl|rfl:=hu<;>exact .inl ⟨_,rfl⟩
theorem GS{p:Int}{us:qaj}{x:T}(hl:us.length<=1000)(hu:∀u∈us,∃v,u=vT v)(hx:Sm.Lv 3 x):Sm.Lv 4 (.tup [.int p,.tup us,x]):=by
 refine .inr (.inr (.inr (.inl ⟨_,rfl,by simp,λu h=>?_⟩)));simp only[cT,gg,or_false] at h;obtain rfl|rfl|rfl:=h
 exact .inl ⟨_,rfl⟩;refine .inr (.inr (.inr (.inl ⟨_,rfl,hl,λu h=>?_⟩)));obtain⟨v,rfl⟩:=hu u h;exact KL v;exact hx
theorem Ma{e:Ev}:(j3 e r).length<=1000/\∀u∈j3 e r,∃v,u=vT v:=by
 have kk:∀k:Ky,(j2 e k).length<=1/\∀u∈j2 e k,∃v,u=vT v:=λk=>by
  cases k with
  |fld x=>exact⟨ji _,λu h=>nomatch h⟩
  |op o=>exact⟨cU _,λu h=>⟨_,gq.mp h⟩⟩
 cases r with
 |put x a=>exact⟨by simp[j3],λu h=>⟨_,gq.mp h⟩⟩
 |ju x a op b=>refine⟨by simp[j3],λu h=>?_⟩;simp only[j3,cT,gg,or_false] at h;obtain rfl|rfl:=h<;>exact⟨_,rfl⟩
 |get x y k=>
  refine⟨by have:=(kk k).1;simp only[j3,j9];omega,λu h=>?_⟩;rcases cT.mp h with rfl|h
  exact⟨_,rfl⟩;exact (kk k).2 u h
 |set y k a=>
  refine⟨by have:=(kk k).1;simp only[j3,j9,k7,C8];omega,λu h=>?_⟩;rcases cT.mp h with rfl|h
  exact⟨_,rfl⟩;rcases cJ.mp h with h|h
  exact (kk k).2 u h;exact⟨_,gq.mp h⟩
 |_=>exact⟨ji _,λu h=>nomatch h⟩
theorem Mb:∀(rs:qal)(p:Nat)(s:Sl),(∀t∈s.dn,Sm.Lv 4 t)->∀t∈(zb rs p s).dn,Sm.Lv 4 t
 |[],p,s,h=>h
 |r::rs,p,s,h=>Mb rs (p+1) (ig p r s) λt ht=>by
  rcases cJ.mp ht with z|z
  exact h t z;rw[gq.mp z];exact GS Ma.1 Ma.2 (KL _)
theorem P5{ins:qan}{body:qal}{o:fP}(hp:ps.length<=2)(hb:body.length<=63):Sm.Lv 6 (.tup [.lst (zc (zb body 1 (s0 ps ins)) (body.length+1) o).1,(zc (zb body 1 (s0 ps ins)) (body.length+1) o).2]):=by
 refine .inr (.inr (.inr (.inl ⟨_,rfl,by simp,λu hu=>?_⟩)));simp only[cT,gg,or_false] at hu;obtain rfl|rfl:=hu
 refine .inr (.inr (.inr (.inr ⟨_,rfl,?_,λt ht=>?_⟩)));show ((zb body 1 (s0 ps ins)).dn++[_]).length<=1000;rw[k7,GN];show 1+body.length+1<=1000;omega;rcases cJ.mp ht with z|z
 refine Mb body 1 _ (λt ht=>?_) t z;rw[gq.mp ht];refine GS (by rw[cW];omega) (λu hu=>?_) (.inr (.inr (.inl rfl)));obtain⟨x,_,rfl⟩:=sh.mp hu;exact⟨_,rfl⟩;rw[gq.mp z];exact GS (by simp) (λu hu=>⟨_,gq.mp hu⟩) (KL _);refine .inr (.inr (.inr (.inl ⟨_,rfl,by simp,λu hu=>?_⟩)));simp only[cT,gg,or_false] at hu;obtain rfl|rfl:=hu
 exact .inr (.inl ⟨_,rfl⟩);exact KL _
theorem dr3{ys:qai}{d:Nat}:∀{l:qal},(∀r∈l,Row3 ys r)->∀m,dr d (l++m)=dr d m
 |[],_,_=>rfl
 |r::l,h,m=>by have ih:=dr3 (d:=d) (l:=l) (λx hx=>h x (d_ _ hx)) m;cases h r cS<;>exact ih
theorem wf3{f:Str}{body:qal}{o:fP}(hb:∀r∈body,Row3 ys r):To (.df f ps::(body++[.give o])):=Tp (by show dr 1 (body++[.give o])=some 0;rw[dr3 hb];rfl)
section
variable(nm:∀y∈ys,cK y=true)
include nm
theorem h_{o:fP}(h:o8 ys o):rR o:=by
 cases o with
 |nm x=>exact⟨nm x h,by have:=k4 (nm x h);omega⟩
 |nu i=>exact h
theorem GU{k:Ky}(h:Ju ys k):JV k:=by
 cases k with
 |fld x=>exact⟨nm x h,by have:=k4 (nm x h);omega⟩
 |op o=>exact h_ nm h
theorem GV(h:Row3 ys r):Cf r:=by
 cases h with
 |new _=>exact True.intro
 |put _ ho=>exact h_ nm ho
 |@ju x y o _ hy ho=>exact⟨h_ nm (o:=.nm y) hy,rfl,h_ nm ho⟩
 |@get x y k _ hy hk=>exact⟨h_ nm (o:=.nm y) hy,GU nm hk⟩
 |@set y k o hy hk ho=>exact⟨h_ nm (o:=.nm y) hy,GU nm hk,h_ nm ho⟩
theorem wl3{f:Str}{body:qal}{o:fP}(hp:ps.length<=2)(Om:∀x∈ps,x∈ys)(hb:∀r∈body,Row3 ys r)(ho:o8 ys o)(hn:body.length<=63):Wl (.df f ps::(body++[.give o])):=by
 refine⟨wf3 hb,λr hr=>?_,⟨.df f ps::body,o,rfl⟩,?_⟩;rcases cT.mp hr with rfl|hr
 exact⟨by omega,λx hx=>⟨nm x (Om x hx),by have:=k4 (nm x (Om x hx));omega⟩⟩;rcases cJ.mp hr with z|z
 exact GV nm (hb r z);rw[gq.mp z];exact h_ nm ho;rw[j9,k7];show body.length+1+1<=100;omega
end
section
noncomputable abbrev GW:qai:=["_law_script","_law_head","_law_names_here","_law_rows","_law_inputs","_law_handed","_law_due_here","_law_told"]
theorem GX:aA GW qaW (ah kZ):=L2.gO
theorem CB:(GW++(["_law_cell_here"]:qai)).Nodup:=by decide +kernel
theorem CC:(GW++(["_law_k"]:qai)).Nodup:=by decide +kernel
theorem P6(D:Df K mg "law" kZ qaW f fd)(M:QJ mg)(my:cp P w K mg base "_law_cell_at" qaM 1 (de K 2 rX))(KN:cp P w K mg base "_law_names" qaP 1 (de K 2 mw))(d9:cp P w K mg base "_law_operand" qaO 2 (de K 2 mZ))(Ux:cp P w K mg base "_law_row" qaO 4 (de K 2 rY))(Uy:cp P w K mg base "_law_due" qaV 4 (de K 2 L_))(Uz:Uh P w K mg base)(GY:cp P w K mg base "_law_same" qaQ 7 (de K 2 (Sm.xo 6))):cn P w K mg base dO 10 f fd qaW (de K 1 KJ):=by
 obtain⟨acm,YJ,YK,Mc,Md,UA,UB,Me⟩:=Uz;refine nz D.F GX rfl λbq A outer s H E Ox hr ts q hG=>?_;obtain⟨ns0,rfl,h63,hq⟩:=hG;have nd:=GX.nd;have hu:=bh.fM hr;have np:∀{i:Nat},bE ⟨H,[],Ox⟩ i:=mM;have Yy:∀{is:qao},∀i∈is,bE ⟨H,[],Ox⟩ i:=λi _=>mM;refine⟨_,(ai (bj (i:=1) nd rfl (Or.inl rfl) (qau (bG (qas (aE my hr (aa (aj 0) (aa (qat af) ar)))) (qas (jH (qas af) (qas af))))) np)
  (ai (bj (i:=2) nd rfl (Or.inr rfl) (qau (aE KN hr (aa (qat (aE my hr (aa (aj 0) (aa (qat af) ar)))) (aa (qat (cQ (qas af) (qas (bG (ae 1) (qas af))))) ar)))) np)
  (ai (dz (i:=3) nd rfl (Or.inl rfl) (qau (eJ (aa (qat (a9 (aa (qat aW) (aa (qat (aH (ae 2) (qas af))) (aa (qat (dU gh iE (by rfl) M.tuple dH (aJ (qas (gC (ae 2) kq (gW (qas (bG (qas (bU (ae 1) (qas af))) (qas af)))))) aV))) ar))))) ar))) np)
  (ai (dz (i:=3) nd rfl (Or.inl rfl) (qau (cQ (ae 3) (qas (f_ (ts:=qaN) rfl (by rfl) (jJ (qat (gC (ae 0) (gW (qas af)) (gW (qas af))))) (λ_ _ _ _ _ _=>(a_ (i:=8) CB rfl (Or.inl rfl) np)) (λ_ _ _ _ _ _=>eS) (λ_ _ _ _ _ _=>(qat (aE Ux hr (aa (aj 8) (aa (aj 2) ar))))))))) np)
  (ai (fY (rp 3 KS KU c7 dW (aa (qat (a9 (aa (qat aW) (aa (qat (aE d9 hr (aa (qat (bU (ae 1) (qas af))) (aa (aj 2) ar)))) ar)))) ar)))
  (ai (zZ (i:=4) (ts:=["_law_k"]) nd rfl (Or.inl rfl) rfl (by rfl) (jb (by rfl) M.range (qas (bG (qas (bU (ae 1) (qas af))) (qas af)))) (λ_ _ _ _ _ _=>(a_ (i:=8) CC rfl (Or.inl rfl) np)) (λ_ _ _ _ _ _=>eS) (λ_ _ _ _ _ _=>(qat (jG (qas (bG (qas (aE my hr (aa (aj 0) (aa (qat (cQ (qas af) (ae 8))) ar)))) (qas (jH (qas af) (qas af))))) (qas af)))) np)
  (zS [3] (ai (bj (i:=5) nd rfl (Or.inl rfl) (qau (dU gT jI (by rfl) M.list lT (aJ (ae 3) aV))) np)
  (ai (bj (i:=6) nd rfl (Or.inl rfl) (qau (aE Uy hr (aa (aj 3) (aa (aj 4) ar)))) np)
  (Fm (i:=7) rfl nd rfl (Or.inl rfl) (pG Me (hr.mono (by decide)) (by rfl) Mc Md UB (.cons Uv .nil) (dts:=[L']) (λ_ _=>ay.cons Uw ay.nil) (aa (aj 5) (aa (qat (dU gT jI (by rfl) M.list lT (aJ (ae 4) aV))) ar))) (VW.vc (vh (lu (dy (aE GY hr (aa (aj 7) (aa (aj 6) ar))))) (oz (vm hu (ae 5) (ae 3))))) (ax (aI (qau rn)))
  (GR PySem.F.slot_list_reverse PySem.F.type_list_reverse yc P0 rfl rfl (Or.inl rfl) (ax (aI (qau (aE GY hr (aa (qat (LR.vp (pG Me (hr.mono (by decide)) (by rfl) Mc Md UA .nil (dts:=[]) (λ_ _=>ay.nil) (aa (aj 3) (aa (aj 4) (aa (qat af) ar)))))) (aa (aj 6) ar)))))))))) Yy))))))),λ_=>?main⟩
 generalize ns0=ns at *;refine⟨rfl,ns,1,rfl,⟨by decide,by decide,by decide⟩,by decide +kernel,?_⟩;generalize hh:ns.getD 1 0 % (10:Int) ^ (9:Int).toNat=h;have h0:0<=h:=by rw[<- hh];exact uK _ (by decide)
 have h1:h<1000000000:=by rw[<- hh];exact uJ _ (by decide)
 obtain⟨m0,em0⟩:=KW (uK h (show (2:Int)≠0 by decide));have hm0:m0<2:=by have:=uJ h (show (0:Int)<2 by decide);omega
 refine⟨rfl,ns,0,rfl,by decide,rfl,ns.getD 0 0,3+m0,?_,by omega,λys hN=>?_⟩;rw[em0];push_cast;rfl;have Y:Ys ys:=⟨by rw[hN.l];omega,by rw[hN.l];omega,λy hy=>by have:=k4 (hN.nm y hy);omega⟩;obtain⟨fn,e0⟩:∃y,ys[0]?=some y:=⟨_,m6 (by rw[hN.l];omega)⟩;obtain⟨k,ek⟩:=KW (uK (h / 2) (show (3:Int)≠0 by decide));have hk:k<=2:=by have:=uJ (h / 2) (show (0:Int)<3 by decide);omega
 have YL:gB (ys.map T.str) none (some (k:Int))=(ys.take k).map T.str:=c9.uq T.str ys k (by have:=Y.l3;omega);refine⟨_,ak (j:=0) (by rw[ij,e0];rfl),by decide,by decide,?_⟩;rw[ek];refine⟨Gen.cw rfl,Gen.cw rfl,?_⟩;obtain⟨ms,ems,hms⟩:=P4 T.int ns (some 4) (some 44);refine⟨rfl,?_⟩;show (gB (ns.map T.int) (some 4) (some 44)).length<=sizeLine/\cA _ _ _ _ (gB (ns.map T.int) (some 4) (some 44)) _;rw[ems];refine⟨by rw[cW];exact mQ (by omega),?_⟩;refine v7 (Pd:=λt=>∃r,Row3 ys r/\t=aT r) (λt ht g hg=>?_) (λus hul Bl=>?_);obtain⟨c,_,rfl⟩:=sh.mp ht;exact⟨rfl,c,ys,rfl,Y,λr hr=>hg _ ⟨r,hr,rfl⟩⟩;obtain⟨body,rfl,cx⟩:=all_rows Bl;rw[cW,cW] at hul;refine⟨by simp only[cW,j9,C8];exact mQ (by omega),?_⟩;refine⟨by decide,rfl,_,ys,rfl,⟨Int.ediv_nonneg h0 (by decide),by have:=Int.ediv_le_self 6 h0;omega⟩,Y,λo ho=>?_⟩;refine⟨Gen.cw rfl,?_,?_⟩;simp only[k7,cW,j9,C8];exact mQ (by omega);obtain⟨ni,eni⟩:=KW (uK (h / 18) (show (3:Int)≠0 by decide));have hni:ni<=2:=by have:=uJ (h / 18) (show (0:Int)<3 by decide);omega
 refine⟨rfl,by decide,by decide,?_⟩;rw[eni];refine⟨by omega,by omega,by rw[gY];exact mQ (by omega),?_⟩;rw[A2];refine iM (u:=λk=>.int (ns.getD (2+k) 0 % 10 ^ (31:Int).toNat-4)) (λk hk r hr=>?_) ?_;rw[Int.zero_add];exact⟨rfl,ns,2+k,by push_cast;rfl,⟨by decide,by decide,by decide⟩,by decide +kernel,hr⟩;have YM:((List.range ni).map λk=>T.int (ns.getD (2+k) 0 % 10 ^ (31:Int).toNat-4))=((List.range ni).map λk=>ns.getD (2+k) 0 % 10 ^ (31:Int).toNat-4).map T.int:=by rw[zB];rfl
 rw[YM];have E8:((List.range ni).map λk=>ns.getD (2+k) 0 % 10 ^ (31:Int).toNat-4).length<=2:=by simp;omega
 generalize ((List.range ni).map λk=>ns.getD (2+k) 0 % 10 ^ (31:Int).toNat-4)=ins at E8 ⊢;have Bt:body.length<=63:=by omega
 have Om:∀x∈ys.take k,x∈ys:=λx hx=>List.mem_of_mem_take hx;have IV:(ys.take k).length<=2:=by rw[Mn];omega
 have W:=wl3 (f:=fn) hN.nm IV Om cx ho Bt;have UC:∀most,65<=most->xa (.df fn (ys.take k)::(body++[.give o])) ins most (zc (zb body 1 (s0 (ys.take k) ins)) (body.length+1) o):=λmost hm=>PD (by omega) cx;have hLv:=P5 (ps:=ys.take k) (ins:=ins) (o:=o) IV Bt;have b_:∀r∈body,Row3 ys r/\Cf r:=λr hr=>⟨cx r hr,GV hN.nm (cx r hr)⟩;have QK:(ys.take k).Nodup:=hN.nd.sublist (List.take_sublist _ _);have ers:([T.tup [.str "def",.str fn,.tup (gB (ys.map T.str) none (some (k:Int)))]]++body.map aT)++[T.tup [.str "give",eM o]]=(Rw.df fn (ys.take k)::(body++[Rw.give o])).map aT:=by rw[YL,fS,sf];rfl
 dsimp only;show Si [3] _ _ [some (.lst (ns.map .int),false),some (.int h,false),some (h9 ys,false),some (.lst (([T.tup [.str "def",.str fn,.tup (gB (ys.map T.str) none (some (k:Int)))]]++body.map aT)++[T.tup [.str "give",eM o]]),true),some (.lst (ins.map .int),false),none,none,none];rw[ers];have hlen:((Rw.df fn (ys.take k)::(body++[Rw.give o])).map aT).length<=65:=by simp only[cW,j9,k7,C8];omega
 refine⟨rfl,fn,ys.take k,ys,body,o,ins,rfl,b_,h_ hN.nm ho,QK,IV,Bt,by omega,?_⟩;refine⟨rfl,_,ins,200,_,rfl,W,by omega,by omega,UC 200 (by omega),?_⟩;have pL:plainT (.lst ((Rw.df fn (ys.take k)::(body++[Rw.give o])).map aT))=true:=by simp only[plainT,g_ (f:=aT) yE]
 have dL:dep (.lst ((Rw.df fn (ys.take k)::(body++[Rw.give o])).map aT))<=100:=by have d1:ly ((Rw.df fn (ys.take k)::(body++[Rw.give o])).map aT)<=2:=kE (f:=aT) (n:=2) EK _;simp only[dep];omega
 refine⟨by show 7<8;decide,?_⟩;refine⟨rfl,_,rfl,hLv,?_⟩;refine⟨pL,pL,dL,?_⟩;refine lU (c:=!eqT (.lst ((Rw.df fn (ys.take k)::(body++[Rw.give o])).map aT)) (.lst ((Rw.df fn (ys.take k)::(body++[Rw.give o])).map aT))) (by rw[gA _ pL];rfl) ?_;intro p;refine⟨rfl,_,ins,100,_,rfl,W,by omega,by omega,UC 100 (by omega),?_⟩;exact⟨rfl,_,rfl,hLv,hq⟩
end
end dg
namespace fQ
open PySem L2 VT
theorem UD(X:K.In h)(G:h.Ns mainGlobals mg){st:Stmt}{oc:Value}{od an:qar}{Bi:Array (Option Value)}{kV doc pm bq ct:Value}(a:PySem.W.nsIn K mainGlobals x=some (some (.ref f)))(l:K.lookup f=some ⟨oc,od,.func (PySem.W.fnOf x x (cV st) (bw st) (ah st) .none kV doc pm an bq ct),Bi⟩)(c:PySem.W.codeIn K bq x=true)(k:PySem.W.keepIn K (.ref f)=true)(hb:∀(kV doc pm:Value) (an:qar) (bq ct:Value) (us:qag),us.length=ps.length->bindArgs (PySem.W.fnOf x x (cV st) (bw st) (ah st) .none kV doc pm an bq ct) ⟨us,[]⟩=pure (ps.zip us)) :
  ∃f fd,Df K mg x st ps f fd:=by
 have F:=oj (st:=st) l c k;exact⟨f,_,F,nW X G a,F.binds hb⟩
theorem P7{C:qag->Prop}(h:C []):∀us:qag,us.length=0->C us
 |[],_=>h
theorem ux{C:qag->Prop}(h:∀a,∀us:qag,us.length=n->C (a::us)):∀us:qag,us.length=n+1->C us
 |a::us,e=>h a us (Nat.succ.inj e)
theorem UE{C:qag->Prop}(h:∀a,C [a]):∀us:qag,us.length=1->C us:=ux λa=>P7 (h a)
theorem bn1{C:qag->Prop}(h:∀a,C [a]):∀us:qag,us.length=1->C us:=UE h
theorem bn2{C:qag->Prop}(h:∀a b,C [a,b]):∀us:qag,us.length=2->C us:=ux λa=>bn1 (h a)
theorem bn3{C:qag->Prop}(h:∀a b c,C [a,b,c]):∀us:qag,us.length=3->C us:=ux λa=>bn2 (h a)
theorem bn4{C:qag->Prop}(h:∀a b c d,C [a,b,c,d]):∀us:qag,us.length=4->C us:=ux λa=>bn3 (h a)
abbrev pE:Program:=PySem.Challenge.pw_slicewise_k13_records_and_cells
noncomputable def qE:Program:=PySem.W.view pE [1,2,3,4,5,6,7,8,9,11,12,13,14,16,17,18,19,21,22,23,24,25,26,27,28,29,30,31,32,34,35,36,37,38,39,40,41,42,43,44,45,46,47,48,49,50,52,54,55,56,57,58,59,60,61,62,63,64,65,66]
noncomputable def qb:qai:=["USED_PLACES","RECKONERS","FOLLOWERS","run"]
noncomputable def Mh:qah:=[0,1,2,3,4,5,6,7,8,9,10,11,12,13,14,15,16,17,18,19,20,21,22,23,24,25,26,27,28,29,30,31,32,33,34,35,36,37,38,39,40,41,42,43,44,45,46,47,48,49,50,51,52,53,54,55,56,57,65,66,67,68,69,70,71,72,73,74,75,76,79,80,81,82,83,84,85,86,87,88,89,90,91,92,93,94,95,96,97,98,99,100,101,102,103,104,105,106,107,108,109,110,111,112,113,114,115,116,117,118,119,120,121,122,123,124,125,126,127,128,129,130,131,132,133,134,135,136,137,138,139,140,141,142,143,144,145,146,147,148,149,150,151,152,153,154,155,156,157,158,159,160,161,162,163,164,165,166,167,168,169,170,171,172,173,174,175,176,177,185,186,187,188,189,190,191,192,193,194,195,196,206,207,208,209,210,211,212,213,214,215,216,217,220,221,222,223,224,225,226,227,228,229,230,231,232,233,234,235,236,237,238,239,240,241,242,243,244,245,246,247,248,249,250,251,252,253,254,255,256,257,258,259,260,261,262,263,264,265,266,267,268,269,270,271,272,273,274,275,276,277,278,279,280,281,282,283,284,285,286,287,288,289,290,291,292,293,294,295,296,297,298,299,300,301,302,303,304,305,306,307,308,309,310,311,312,313,314,315,316,317,318,319,320,321,322,323,324,325,326,327,328,329,330,331,332,333,334,335,336,337,338,339,340,341,342,343,344,345,346,347,348,349,350,351,352,353,354,355,356,357,358,359,360,361,362,363,364,365,366,367,368,369,370,371,372,373,374,375,376,377,378,379,380,381,382,383,384,385,386,387,388,389,390,391,392,393,394,395,396,397,398,399,400,401,402,403,404,405,406,407,408,409,410,411,412,413,414]
abbrev OV:=Option (Option Value)
abbrev OO:=Option Obj
abbrev N(K:qaf)(x:Str):=PySem.W.nsIn K mainGlobals x
noncomputable abbrev Lk(K:qaf)(a:Addr):=List.lookup a K
abbrev R(a:Addr):OV:=some (some (.ref a))
noncomputable abbrev fo(x q:Str)(st:Stmt)(pm:Value)(c:Addr):OO:=some ⟨.type "function",none,.func (PySem.W.fnOf x q (cV st) (bw st) (ah st) .none .none .none pm none (.ref c) .none),#[]⟩
abbrev cI(K:qaf)(c:Value)(q:Str):=PySem.W.codeIn K c q
abbrev kI(K:qaf)(f:Addr):=PySem.W.keepIn K (.ref f)
abbrev fI(K:qaf)(c:Addr)(x:Str):=PySem.W.findIn K (.ref c) x
abbrev Q4:=OV×OO×Bool×Bool
noncomputable def q4(K:qaf)(x:Str)(f c:Addr):Q4:=(N K x,Lk K f,cI K (.ref c) x,kI K f)
noncomputable def v4(x:Str)(st:Stmt)(f:Addr)(pm:Value)(c:Addr):Q4:=(R f,fo x x st pm c,true,true)
def BN:qai->(qag->Prop)->Prop
 |[],C=>C []
 |_::ps,C=>∀v,BN ps λus=>C (v::us)
theorem bnA:∀{ps:qai}{C:qag->Prop},BN ps C->∀us:qag,us.length=ps.length->C us
 |[],_,h,[],_=>h
 |_::_,_,h,v::us,e=>bnA (h v) us (Nat.succ.inj e)
theorem dM{D:Prop}(X:K.In h)(G:h.Ns mainGlobals mg){st:Stmt}{c:Addr}{pm:Value}(e:q4 K x f c=v4 x st f pm c)(k:∀{f:Addr} {fd:FuncData},Df K mg x st ps f fd->D)(hb:∀(kV doc pm:Value) (an:qar) (bq ct:Value),BN ps λus=>bindArgs (PySem.W.fnOf x x (cV st) (bw st) (ah st) .none kV doc pm an bq ct) ⟨us,[]⟩=pure (ps.zip us):=by simp only[BN];intros;rfl):D:=by unfold q4 v4 at e;simp only[Prod.mk.injEq] at e;obtain⟨_,_,d⟩:=UD X G e.1 e.2.1 e.2.2.1 e.2.2.2 λa b c d e f=>bnA (hb a b c d e f);exact k d
abbrev XX:Type:=(((((((OV×OV)×(OV×OV))×((OO×OV)×(OO×OV)))×(((OO×OV)×(OO×OO))×((OO×OO)×(OO×(OO×OO)))))×((((OO×OV)×(OV×OV))×((OV×OV)×(OV×OV)))×(((OV×OV)×(OV×OO))×((OV×OV)×(OV×(OV×OV))))))×(((((OV×OV)×(OV×OV))×((OV×OV)×(OV×OV)))×(((OV×Bool)×(OO×Bool))×((Bool×Bool)×(Bool×(Bool×OV)))))×((((Bool×Bool)×(OV×OV))×((OV×OV)×(OV×(OV×OV))))×(((OV×OV)×(Bool×OO))×((Bool×Bool)×(Bool×(Bool×Bool)))))))×((((((OV×Bool)×(Bool×OV))×((OV×OV)×(OV×Bool)))×(((OO×Bool)×(Bool×Bool))×((Bool×Bool)×(OV×(Bool×Bool)))))×((((OV×OV)×(OV×OV))×((OV×OV)×(OV×(OV×OV))))×(((OV×OO)×(Bool×Bool))×((OO×OV)×(OO×(Bool×Bool))))))×(((((Q4×Q4)×(Q4×Q4))×((Q4×Q4)×(Q4×Q4)))×(((Q4×Q4)×(Q4×Q4))×((Q4×Q4)×(Q4×(Q4×Q4)))))×((((Q4×Q4)×(Q4×Q4))×((Q4×Q4)×(Q4×(Q4×Q4))))×(((Q4×Q4)×(Q4×Q4))×((Q4×Q4)×(Q4×(Q4×Q4))))))))
noncomputable def FF(K:qaf):XX:=(((((((N K "LETTERS",N K "LONGEST_NAME"),(N K "H",N K "SILENT")),((Lk K 16,N K "CLOSERS"),(Lk K 43,N K "OPENERS"))),(((Lk K 42,N K "USED_PLACES"),(Lk K 29,Lk K 36)),((Lk K 35,Lk K 34),(Lk K 33,(Lk K 32,Lk K 31))))),((((Lk K 30,N K "follow_plain"),(N K "follow_give",N K "follow_name")),((N K "follow_do",N K "follow_new"),(N K "follow_set",N K "follow_call"))),(((N K "follow_fail",N K "follow_choice"),(N K "FOLLOWERS",Lk K 304)),((N K "isinstance",N K "str"),(N K "int",(N K "bool",N K "len")))))),(((((N K "all",N K "list"),(N K "tuple",N K "range")),((N K "enumerate",N K "zip"),(N K "min",N K "Layout"))),(((fI K 74 "__init__",PySem.W.isFn K (.ref 71)),(Lk K 71,cI K (.ref 70) "Layout.__init__")),((kI K 71,PySem.W.plainGet K 74 Str.empty),(PySem.W.hasDictIn K 74,(PySem.W.plainOver K 74,fI K 74 "__setattr__"))))),((((PySem.W.makesIn K 74,kI K 74),(fI K 74 "program",fI K 74 "heads")),((fI K 74 "ends",fI K 74 "elses"),(fI K 74 "homes",(fI K 74 "defs",fI K 74 "main")))),(((N K "Frame",fI K 194 "__init__"),(PySem.W.isFn K (.ref 191),Lk K 191)),((cI K (.ref 190) "Frame.__init__",kI K 191),(PySem.W.plainGet K 194 Str.empty,(PySem.W.hasDictIn K 194,PySem.W.plainOver K 194))))))),((((((fI K 194 "__setattr__",PySem.W.makesIn K 194),(kI K 194,fI K 194 "call")),((fI K 194 "names",N K "Machine"),(fI K 215 "__init__",PySem.W.isFn K (.ref 212)))),(((Lk K 212,cI K (.ref 211) "Machine.__init__"),(kI K 212,PySem.W.plainGet K 215 Str.empty)),((PySem.W.hasDictIn K 215,PySem.W.plainOver K 215),(fI K 215 "__setattr__",(PySem.W.makesIn K 215,kI K 215))))),((((fI K 215 "layout",fI K 215 "most"),(fI K 215 "poke",fI K 215 "frames")),((fI K 215 "cells",fI K 215 "counts"),(fI K 215 "doings",(fI K 215 "place",fI K 215 "ended")))),(((N K "run",Lk K 324),(cI K (.ref 323) "run",kI K 324)),((Lk K 317,N K "law"),(Lk K 414,(cI K (.ref 413) "law",kI K 414)))))),(((((q4 K "is_name" 21 20,q4 K "is_field" 28 27),(q4 K "operands" 41 40,q4 K "shape" 57 56)),((q4 K "first_defs" 50 49,q4 K "row_behind" 99 98),(q4 K "fit" 106 105,q4 K "is_record" 113 112))),(((q4 K "number_of" 120 119,q4 K "reckoned" 170 169),(q4 K "value_of" 233 232,q4 K "cell_of" 177 176)),((q4 K "made_by" 240 239,q4 K "follow_plain" 247 246),(q4 K "follow_name" 254 253,(q4 K "follow_do" 261 260,q4 K "follow_give" 289 288))))),((((q4 K "enter" 226 225,q4 K "follow_new" 268 267),(q4 K "follow_set" 275 274,q4 K "done_row" 309 308)),((q4 K "step" 316 315,q4 K "run_poked" 329 328),(q4 K "_law_cell_at" 336 335,(q4 K "_law_names" 341 340,q4 K "_law_number" 362 361)))),(((q4 K "_law_operand" 369 368,q4 K "_law_key" 376 375),(q4 K "_law_row" 383 382,q4 K "_law_same" 355 354)),((q4 K "_law_fit" 348 347,q4 K "_law_look" 390 389),(q4 K "_law_cell" 397 396,(q4 K "_law_done" 404 403,q4 K "_law_due" 409 408))))))))
noncomputable def VV(w:World):XX:=(((((((some (some (.str ng.bM 191)),some (some (.int 8 193))),(some (some (.int 1000000000000000000000000000000 189)),R 16)),((some ⟨.type "tuple",none,.seq #[.str "else" 198,.str "end" 199,.str "skip" 200] 0,#[]⟩,R 43),(some ⟨.type "tuple",none,.seq #[.str "give" 253,.str "end" 254] 0,#[]⟩,R 42))),(((some ⟨.type "tuple",none,.seq #[.str "def" 249,.str "if" 250,.str "while" 251] 0,#[]⟩,R 29),(some ⟨.type "dict",none,.dict #[⟨PyData.keyHash w.params "give",.str "give" 215,.ref 30⟩,⟨PyData.keyHash w.params "put",.str "put" 217,.ref 31⟩,⟨PyData.keyHash w.params "do",.str "do" 219,.ref 32⟩,⟨PyData.keyHash w.params "get",.str "get" 222,.ref 33⟩,⟨PyData.keyHash w.params "set",.str "set" 225,.ref 34⟩,⟨PyData.keyHash w.params "if",.str "if" 229,.ref 35⟩,⟨PyData.keyHash w.params "while",.str "while" 231,.ref 36⟩] 7,#[]⟩,some ⟨.type "tuple",none,.seq #[.int (1) 232] 0,#[]⟩)),((some ⟨.type "tuple",none,.seq #[.int (1) 230] 0,#[]⟩,some ⟨.type "tuple",none,.seq #[.int (1) 226,.int (2) 227,.int (3) 228] 0,#[]⟩),(some ⟨.type "tuple",none,.seq #[.int (2) 223,.int (3) 224] 0,#[]⟩,(some ⟨.type "tuple",none,.seq #[.int (2) 220,.int (4) 221] 0,#[]⟩,some ⟨.type "tuple",none,.seq #[.int (2) 218] 0,#[]⟩))))),((((some ⟨.type "tuple",none,.seq #[.int (1) 216] 0,#[]⟩,R 247),(R 289,R 254)),((R 261,R 268),(R 275,R 282))),(((R 296,R 303),(R 304,some ⟨.type "dict",none,.dict #[⟨PyData.keyHash w.params "def",.str "def" 641,.ref 247⟩,⟨PyData.keyHash w.params "give",.str "give" 642,.ref 289⟩,⟨PyData.keyHash w.params "put",.str "put" 643,.ref 254⟩,⟨PyData.keyHash w.params "do",.str "do" 644,.ref 261⟩,⟨PyData.keyHash w.params "new",.str "new" 645,.ref 268⟩,⟨PyData.keyHash w.params "get",.str "get" 646,.ref 254⟩,⟨PyData.keyHash w.params "set",.str "set" 647,.ref 275⟩,⟨PyData.keyHash w.params "call",.str "call" 648,.ref 282⟩,⟨PyData.keyHash w.params "fail",.str "fail" 649,.ref 296⟩,⟨PyData.keyHash w.params "if",.str "if" 650,.ref 303⟩,⟨PyData.keyHash w.params "while",.str "while" 651,.ref 303⟩] 11,#[]⟩)),((some none,some none),(some none,(some none,some none)))))),(((((some none,some none),(some none,some none)),((some none,some none),(some none,R 74))),(((some (some (.ref 71)),true),(fo "__init__" "Layout.__init__" Lay.iQ (.str "slicewise.layouts" 280) 70,true)),((true,true),(true,(true,some (some (.builtin "object.__setattr__"))))))),((((true,true),(some none,some none)),((some none,some none),(some none,(some none,some none)))),(((R 194,some (some (.ref 191))),(true,fo "__init__" "Frame.__init__" Rg.kQ (.str "slicewise.runs" 446) 190)),((true,true),(true,(true,true))))))),((((((some (some (.builtin "object.__setattr__")),true),(true,some none)),((some none,R 215),(some (some (.ref 212)),true))),(((fo "__init__" "Machine.__init__" Rg.gK (.str "slicewise.runs" 446) 211,true),(true,true)),((true,true),(some (some (.builtin "object.__setattr__")),(true,true))))),((((some none,some none),(some none,some none)),((some none,some none),(some none,(some none,some none)))),(((R 324,some ⟨.type "function",none,.func (PySem.W.fnOf "run" "run" (cV Rg.fu) (bw Rg.fu) (ah Rg.fu) (.ref 317) (.none) (.none) (.str "slicewise.runs" 446) none (.ref 323) (.none)),#[]⟩),(true,true)),((some ⟨.type "tuple",none,.seq #[.int (200) 678] 0,#[]⟩,R 414),(fo "law" "law" dg.kZ (.str "law_slicewise_k13_records_and_cells" 694) 413,(true,true)))))),(((((v4 "is_name" Nm.je 21 (.str "slicewise.rows" 187) 20,v4 "is_field" Nm.jR 28 (.str "slicewise.rows" 187) 27),(v4 "operands" Qz.jT 41 (.str "slicewise.rows" 187) 40,v4 "shape" Tt.kJ 57 (.str "slicewise.programs" 247) 56)),((v4 "first_defs" Lay.hJ 50 (.str "slicewise.programs" 247) 49,v4 "row_behind" Nx.hU 99 (.str "slicewise.layouts" 280) 98),(v4 "fit" j8.mV 106 (.str "slicewise.values" 343) 105,v4 "is_record" j8.iR 113 (.str "slicewise.values" 343) 112))),(((v4 "number_of" j8.iS 120 (.str "slicewise.values" 343) 119,v4 "reckoned" j8.jX 170 (.str "slicewise.values" 343) 169),(v4 "value_of" Rg.jY 233 (.str "slicewise.runs" 446) 232,v4 "cell_of" Rg.mh 177 (.str "slicewise.values" 343) 176)),((v4 "made_by" Rg.mf 240 (.str "slicewise.runs" 446) 239,v4 "follow_plain" Rg.fq 247 (.str "slicewise.runs" 446) 246),(v4 "follow_name" Rg.gj 254 (.str "slicewise.runs" 446) 253,(v4 "follow_do" Rg.iV 261 (.str "slicewise.runs" 446) 260,v4 "follow_give" Rg.gk 289 (.str "slicewise.runs" 446) 288))))),((((v4 "enter" Rg.t7 226 (.str "slicewise.runs" 446) 225,v4 "follow_new" Rg.hX 268 (.str "slicewise.runs" 446) 267),(v4 "follow_set" Rg.h7 275 (.str "slicewise.runs" 446) 274,v4 "done_row" Rg.jZ 309 (.str "slicewise.runs" 446) 308)),((v4 "step" Rg.t8 316 (.str "slicewise.runs" 446) 315,v4 "run_poked" Rg.gf 329 (.str "slicewise.runs" 446) 328),(v4 "_law_cell_at" c9.mq 336 (.str "law_slicewise_k13_records_and_cells" 694) 335,(v4 "_law_names" c9.uo 341 (.str "law_slicewise_k13_records_and_cells" 694) 340,v4 "_law_number" c9.pX 362 (.str "law_slicewise_k13_records_and_cells" 694) 361)))),(((v4 "_law_operand" c9.mv 369 (.str "law_slicewise_k13_records_and_cells" 694) 368,v4 "_law_key" c9.Gi 376 (.str "law_slicewise_k13_records_and_cells" 694) 375),(v4 "_law_row" c9.s_row 383 (.str "law_slicewise_k13_records_and_cells" 694) 382,v4 "_law_same" Sm.s_same 355 (.str "law_slicewise_k13_records_and_cells" 694) 354)),((v4 "_law_fit" dg.mV 348 (.str "law_slicewise_k13_records_and_cells" 694) 347,v4 "_law_look" dg.y8 390 (.str "law_slicewise_k13_records_and_cells" 694) 389),(v4 "_law_cell" dg.y9 397 (.str "law_slicewise_k13_records_and_cells" 694) 396,(v4 "_law_done" dg.y_ 404 (.str "law_slicewise_k13_records_and_cells" 694) 403,v4 "_law_due" dg.Gu 409 (.str "law_slicewise_k13_records_and_cells" 694) 408))))))))
theorem ze(w:World)(os:OsState):HE.lookA pE qE qb [] [] (HE.dQ (w.withFollow "special-get-raises" false).params) (PySem.W.boot_heap (w.withFollow "special-get-raises" false).params) (w.withFollow "special-get-raises" false) 2731 os=some (true,(PySem.W.openGood qE qb).1,(PySem.W.openGood qE qb).2.1):=by
 rw[PySem.W.Fast.te2848547177322276819]
 kernel_rfl
theorem CD(w:World)(os:OsState):HE.lookA pE qE qb [] [] (HE.dQ (w.withFollow "special-get-raises" true).params) (PySem.W.boot_heap (w.withFollow "special-get-raises" true).params) (w.withFollow "special-get-raises" true) 2731 os=some (true,(PySem.W.openGood qE qb).1,(PySem.W.openGood qE qb).2.1):=by
 rw[PySem.W.Fast.te2848547177322276819]
 kernel_rfl
theorem YN(w:World)(os:OsState):HE.lookA pE qE qb [] [] (HE.dQ (w).params) (PySem.W.boot_heap (w).params) (w) 2731 os=some (true,(PySem.W.openGood qE qb).1,(PySem.W.openGood qE qb).2.1) :=
 PySem.W.byRow2 "special-get-raises" (P:=λw=>∀os,HE.lookA pE qE qb [] [] (HE.dQ (w).params) (PySem.W.boot_heap (w).params) (w) 2731 os=some (true,(PySem.W.openGood qE qb).1,(PySem.W.openGood qE qb).2.1)) ze CD w os
theorem zg(w:World)(os:OsState):HE.lookB pE qE qb [] [] (HE.dQ (w.withFollow "special-get-raises" false).params) (w.withFollow "special-get-raises" false) 2731 os=some (PySem.W.openGood qE qb).2.2:=by
 rw[PySem.W.Fast.te312265020846911052]
 kernel_rfl
theorem CF(w:World)(os:OsState):HE.lookB pE qE qb [] [] (HE.dQ (w.withFollow "special-get-raises" true).params) (w.withFollow "special-get-raises" true) 2731 os=some (PySem.W.openGood qE qb).2.2:=by
 rw[PySem.W.Fast.te312265020846911052]
 kernel_rfl
theorem YO(w:World)(os:OsState):HE.lookB pE qE qb [] [] (HE.dQ (w).params) (w) 2731 os=some (PySem.W.openGood qE qb).2.2 :=
 PySem.W.byRow2 "special-get-raises" (P:=λw=>∀os,HE.lookB pE qE qb [] [] (HE.dQ (w).params) (w) 2731 os=some (PySem.W.openGood qE qb).2.2) zg CF w os
theorem zh(w:World)(os:OsState):HE.lookC pE Mh FF (HE.dQ (w.withFollow "special-get-raises" false).params) (w.withFollow "special-get-raises" false) 2731 os=some (VV (w.withFollow "special-get-raises" false)):=by
 rw[PySem.W.Fast.te3135357915001837337]
 kernel_rfl
theorem CG(w:World)(os:OsState):HE.lookC pE Mh FF (HE.dQ (w.withFollow "special-get-raises" true).params) (w.withFollow "special-get-raises" true) 2731 os=some (VV (w.withFollow "special-get-raises" true)):=by
 rw[PySem.W.Fast.te3135357915001837337]
 kernel_rfl
theorem runC(w:World)(os:OsState):HE.lookC pE Mh FF (HE.dQ (w).params) (w) 2731 os=some (VV (w)) :=
 PySem.W.byRow2 "special-get-raises" (P:=λw=>∀os,HE.lookC pE Mh FF (HE.dQ (w).params) (w) 2731 os=some (VV (w))) zh CG w os
theorem P8:PySem.Challenge.rw_slicewise_k13_records_and_cells.wellSaid=true:=by kernel_rfl
noncomputable abbrev KE(w:World):qaf:=HE.Kf Mh (HE.tu pE 6142 w)
noncomputable abbrev dE:DefRec:=HE.SH dg.kZ
theorem hd:PySem.W.LeftO pE qE qb (HE.I9 qE [] []) (λs=>Mh.map s.heap.get?) (λw=>Mh.map (HE.tu pE 6142 w)) 6142/\∀w,FF (KE w)=VV w:=HE.head (p:=pE) (q:=qE) (loose:=qb) (lv:=[]) (R:=[]) (as:=Mh) (N:=6142) (M:=2731) (F:=FF) (v:=VV) (by kernel_rfl) rfl (λs=>by kernel_rfl) rfl YN YO runC
theorem P9{l:PySem.W.OpenLaw}{fa:Addr}(X:K.In h)(G:h.Ns mainGlobals mg)(hfa:mg "law"=some (.ref fa))(hF:FF K=VV w) :
  ∃fd:FuncData,(∀(s:Shared)(v:Value),BindsTo s fd ⟨[v],[]⟩ [("_law_script",v)])/\∀base:Heap,K.In base->base.Ns mainGlobals mg->cn l.prog w K mg base dO 10 fa fd qaW (de K 1 dg.KJ):=by
 have Q {β:Type} (f:XX->β):=congrArg f hF;have dv:=CM X G (Q (·.1.1.2.2.2.1.1) :);have zi:=CM X G (Q (·.1.1.2.2.2.1.2) :);have zj:=CM X G (Q (·.1.1.2.2.2.2.1) :);have A1:=CM X G (Q (·.1.1.2.2.2.2.2.1) :);have i6:=CM X G (Q (·.1.1.2.2.2.2.2.2) :);have P_:=CM X G (Q (·.1.2.1.1.1.1.1) :);have nV:=CM X G (Q (·.1.2.1.1.1.1.2) :);have fA:=CM X G (Q (·.1.2.1.1.1.2.1) :);have qc:=CM X G (Q (·.1.2.1.1.1.2.2) :);have ia:=CM X G (Q (·.1.2.1.1.2.1.1) :);have zk:=CM X G (Q (·.1.2.1.1.2.1.2) :);have Qa:=CM X G (Q (·.1.2.1.1.2.2.1) :);have e:=hfa.symm.trans (nW X G (Q (·.2.1.2.2.2.1.2) :));cases e;have aD:Lay.QB K 74:=⟨⟨(Q (·.1.2.1.2.2.1.2) :),(Q (·.1.2.1.2.2.2.1) :),(Q (·.1.2.1.2.2.2.2.1) :),(Q (·.1.2.1.2.2.2.2.2) :)⟩,(Q (·.1.2.2.1.1.2.1) :),(Q (·.1.2.2.1.1.2.2) :),(Q (·.1.2.2.1.2.1.1) :),(Q (·.1.2.2.1.2.1.2) :),(Q (·.1.2.2.1.2.2.1) :),(Q (·.1.2.2.1.2.2.2.1) :),(Q (·.1.2.2.1.2.2.2.2) :)⟩;have r0:=oj (st:=Lay.iQ) (Q (·.1.2.1.2.1.2.1) :) (Q (·.1.2.1.2.1.2.2) :) (Q (·.1.2.1.2.2.1.1) :);have CH:Dc K mg "Layout" "Layout.__init__" Lay.iQ qax 74 71 _:=⟨r0,nW X G (Q (·.1.2.1.1.2.2.2) :),r0.binds (λ_ _ _ _ _ _=>(fQ.bn2 λ_ _=>rfl)),⟨(Q (·.1.2.2.1.1.1.1) :),(Q (·.1.2.1.2.1.1.1) :),(Q (·.1.2.1.2.1.1.2) :),(Q (·.1.2.2.1.1.1.2) :)⟩⟩;have bS:Rg.QG K 194:=⟨⟨(Q (·.1.2.2.2.2.2.1) :),(Q (·.1.2.2.2.2.2.2.1) :),(Q (·.1.2.2.2.2.2.2.2) :),(Q (·.2.1.1.1.1.1.1) :)⟩,(Q (·.2.1.1.1.1.2.2) :),(Q (·.2.1.1.1.2.1.1) :)⟩;have xx:=oj (st:=Rg.kQ) (Q (·.1.2.2.2.1.2.2) :) (Q (·.1.2.2.2.2.1.1) :) (Q (·.1.2.2.2.2.1.2) :);have GZ:Dc K mg "Frame" "Frame.__init__" Rg.kQ qaD 194 191 _:=⟨xx,nW X G (Q (·.1.2.2.2.1.1.1) :),xx.binds (λ_ _ _ _ _ _=>(fQ.bn3 λ_ _ _=>rfl)),⟨(Q (·.2.1.1.1.1.1.2) :),(Q (·.1.2.2.2.1.1.2) :),(Q (·.1.2.2.2.1.2.1) :),(Q (·.2.1.1.1.1.2.1) :)⟩⟩;have ag:Rg.AJ K 215:=⟨⟨(Q (·.2.1.1.2.1.2.2) :),(Q (·.2.1.1.2.2.1.1) :),(Q (·.2.1.1.2.2.1.2) :),(Q (·.2.1.1.2.2.2.1) :)⟩,(Q (·.2.1.2.1.1.1.1) :),(Q (·.2.1.2.1.1.1.2) :),(Q (·.2.1.2.1.1.2.1) :),(Q (·.2.1.2.1.1.2.2) :),(Q (·.2.1.2.1.2.1.1) :),(Q (·.2.1.2.1.2.1.2) :),(Q (·.2.1.2.1.2.2.1) :),(Q (·.2.1.2.1.2.2.2.1) :),(Q (·.2.1.2.1.2.2.2.2) :)⟩;have qd:=oj (st:=Rg.gK) (Q (·.2.1.1.2.1.1.1) :) (Q (·.2.1.1.2.1.1.2) :) (Q (·.2.1.1.2.1.2.1) :);have zm:Dc K mg "Machine" "Machine.__init__" Rg.gK qaB 215 212 _:=⟨qd,nW X G (Q (·.2.1.1.1.2.1.2) :),qd.binds (λ_ _ _ _ _ _=>(fQ.bn4 λ_ _ _ _=>rfl)),⟨(Q (·.2.1.1.2.2.2.2.1) :),(Q (·.2.1.1.1.2.2.1) :),(Q (·.2.1.1.1.2.2.2) :),(Q (·.2.1.1.2.2.2.2.2) :)⟩⟩;have M2:Nm.X4 mg:=⟨⟨_,nW X G (Q (·.1.1.1.1.1.1.1) :)⟩,⟨_,nW X G (Q (·.1.1.1.1.1.1.2) :)⟩,dv,zi,i6,P_⟩;have MU:Qz.ZM w K mg:=⟨nV,⟨29,nW X G (Q (·.1.1.1.2.1.1.2) :),⟨_,_,(Q (·.1.1.1.2.1.2.1) :),(by first|rfl|decide),.cons ⟨rfl,⟨_,rfl⟩,.ref 30,rfl,λ_ _=>cf (vs:=[V.int 1]) (.inr ⟨_,_,_,(Q (·.1.1.2.1.1.1.1) :),rfl,rfl,Gen.cw rfl,.cons ⟨_,rfl⟩ (.nil)⟩) (ay.cons bc (ay.nil))⟩ (.cons ⟨rfl,⟨_,rfl⟩,.ref 31,rfl,λ_ _=>cf (vs:=[V.int 2]) (.inr ⟨_,_,_,(Q (·.1.1.1.2.2.2.2.2) :),rfl,rfl,Gen.cw rfl,.cons ⟨_,rfl⟩ (.nil)⟩) (ay.cons bc (ay.nil))⟩ (.cons ⟨rfl,⟨_,rfl⟩,.ref 32,rfl,λ_ _=>cf (vs:=[V.int 2,V.int 4]) (.inr ⟨_,_,_,(Q (·.1.1.1.2.2.2.2.1) :),rfl,rfl,Gen.cw rfl,.cons ⟨_,rfl⟩ (.cons ⟨_,rfl⟩ (.nil))⟩) (ay.cons bc (ay.cons bc (ay.nil)))⟩ (.cons ⟨rfl,⟨_,rfl⟩,.ref 33,rfl,λ_ _=>cf (vs:=[V.int 2,V.int 3]) (.inr ⟨_,_,_,(Q (·.1.1.1.2.2.2.1) :),rfl,rfl,Gen.cw rfl,.cons ⟨_,rfl⟩ (.cons ⟨_,rfl⟩ (.nil))⟩) (ay.cons bc (ay.cons bc (ay.nil)))⟩ (.cons ⟨rfl,⟨_,rfl⟩,.ref 34,rfl,λ_ _=>cf (vs:=[V.int 1,V.int 2,V.int 3]) (.inr ⟨_,_,_,(Q (·.1.1.1.2.2.1.2) :),rfl,rfl,Gen.cw rfl,.cons ⟨_,rfl⟩ (.cons ⟨_,rfl⟩ (.cons ⟨_,rfl⟩ (.nil)))⟩) (ay.cons bc (ay.cons bc (ay.cons bc (ay.nil))))⟩ (.cons ⟨rfl,⟨_,rfl⟩,.ref 35,rfl,λ_ _=>cf (vs:=[V.int 1]) (.inr ⟨_,_,_,(Q (·.1.1.1.2.2.1.1) :),rfl,rfl,Gen.cw rfl,.cons ⟨_,rfl⟩ (.nil)⟩) (ay.cons bc (ay.nil))⟩ (.cons ⟨rfl,⟨_,rfl⟩,.ref 36,rfl,λ_ _=>cf (vs:=[V.int 1]) (.inr ⟨_,_,_,(Q (·.1.1.1.2.1.2.2) :),rfl,rfl,Gen.cw rfl,.cons ⟨_,rfl⟩ (.nil)⟩) (ay.cons bc (ay.nil))⟩ (.nil))))))),by show ([("give":Str),("put":Str),("do":Str),("get":Str),("set":Str),("if":Str),("while":Str)]).Nodup;decide +kernel⟩⟩⟩;have MR:j8.Mg mg:=⟨⟨_,nW X G (Q (·.1.1.1.1.1.2.1) :)⟩,dv,fA⟩;have M5:Tt.ZO K mg:=⟨i6,qc,ia,dv,zj,A1,fA,nV,zk,⟨43,nW X G (Q (·.1.1.1.1.2.1.2) :),λH=>.inr ⟨_,_,_,(Q (·.1.1.1.1.2.2.1) :),rfl,rfl,Gen.cw rfl,.cons ⟨_,rfl⟩ (.cons ⟨_,rfl⟩ (.nil))⟩⟩,⟨42,nW X G (Q (·.1.1.1.1.2.2.2) :),λH=>.inr ⟨_,_,_,(Q (·.1.1.1.2.1.1.1) :),rfl,rfl,Gen.cw rfl,.cons ⟨_,rfl⟩ (.cons ⟨_,rfl⟩ (.cons ⟨_,rfl⟩ (.nil)))⟩⟩⟩;have MF:Lay.ZN mg:=⟨ia⟩;have MLy:Lay.Tv mg:=⟨i6,Qa⟩;have MRu:Rg.Yp mg:=⟨i6,ia,fA⟩;have kB:Rg.O6 K mg:=⟨i6,fA,⟨16,nW X G (Q (·.1.1.1.1.1.2.2) :),λH=>.inr ⟨_,_,_,(Q (·.1.1.1.1.2.1.1) :),rfl,rfl,Gen.cw rfl,.cons ⟨_,rfl⟩ (.cons ⟨_,rfl⟩ (.cons ⟨_,rfl⟩ (.nil)))⟩⟩⟩;have FO:Rg.Z5 w K mg:=⟨⟨304,247,289,254,261,268,275,282,296,303,(nW X G (Q (·.1.1.2.2.1.2.1) :)),(nW X G (Q (·.1.1.2.1.1.1.2) :)),(nW X G (Q (·.1.1.2.1.1.2.1) :)),(nW X G (Q (·.1.1.2.1.1.2.2) :)),(nW X G (Q (·.1.1.2.1.2.1.1) :)),(nW X G (Q (·.1.1.2.1.2.1.2) :)),(nW X G (Q (·.1.1.2.1.2.2.1) :)),(nW X G (Q (·.1.1.2.1.2.2.2) :)),(nW X G (Q (·.1.1.2.2.1.1.1) :)),(nW X G (Q (·.1.1.2.2.1.1.2) :)),⟨_,_,(Q (·.1.1.2.2.1.2.2) :),(by first|rfl|decide),.cons ⟨rfl,⟨_,rfl⟩,.ref 247,rfl,λ_ _=>by simp only[At]⟩ (.cons ⟨rfl,⟨_,rfl⟩,.ref 289,rfl,λ_ _=>by simp only[At]⟩ (.cons ⟨rfl,⟨_,rfl⟩,.ref 254,rfl,λ_ _=>by simp only[At]⟩ (.cons ⟨rfl,⟨_,rfl⟩,.ref 261,rfl,λ_ _=>by simp only[At]⟩ (.cons ⟨rfl,⟨_,rfl⟩,.ref 268,rfl,λ_ _=>by simp only[At]⟩ (.cons ⟨rfl,⟨_,rfl⟩,.ref 254,rfl,λ_ _=>by simp only[At]⟩ (.cons ⟨rfl,⟨_,rfl⟩,.ref 275,rfl,λ_ _=>by simp only[At]⟩ (.cons ⟨rfl,⟨_,rfl⟩,.ref 282,rfl,λ_ _=>by simp only[At]⟩ (.cons ⟨rfl,⟨_,rfl⟩,.ref 296,rfl,λ_ _=>by simp only[At]⟩ (.cons ⟨rfl,⟨_,rfl⟩,.ref 303,rfl,λ_ _=>by simp only[At]⟩ (.cons ⟨rfl,⟨_,rfl⟩,.ref 303,rfl,λ_ _=>by simp only[At]⟩ (.nil))))))))))),by show ([("def":Str),("give":Str),("put":Str),("do":Str),("new":Str),("get":Str),("set":Str),("call":Str),("fail":Str),("if":Str),("while":Str)]).Nodup;decide +kernel⟩⟩⟩;have MG:c9.Mg mg:=⟨i6,qc,fA⟩;have MS:Sm.O6 mg:=⟨dv,zi,zj,A1,nV,fA,i6,zk⟩;have ML:dg.QJ mg:=⟨dv,fA,nV,i6,qc,zi,zj,zk⟩;have F:=oj (st:=dg.kZ) (Q (·.2.1.2.2.2.2.1) :) (Q (·.2.1.2.2.2.2.2.1) :) (Q (·.2.1.2.2.2.2.2.2) :);have DL:Df K mg "law" dg.kZ qaW 414 _:=⟨F,hfa,F.binds (λ_ _ _ _ _ _=>UE λ_=>rfl)⟩;refine⟨PySem.W.fnOf "law" "law" (cV dg.kZ) (bw dg.kZ) (ah dg.kZ) .none (.none) (.none) (.str "law_slicewise_k13_records_and_cells" 694) none (.ref 413) (.none),λs v=>.of_eq rfl,λbase _ _=>?_⟩;have r_:=dM X G (Q (·.2.2.1.1.1.1.1) :) λD=>Nm.JA (P:=l.prog) (w:=w) (base:=base) D M2;have qe:=dM X G (Q (·.2.2.1.1.1.1.2) :) λD=>Nm.wa D M2 r_;have zo:=dM X G (Q (·.2.2.1.1.1.2.1) :) λD=>Qz.wb D MU qe;have KO:=dM X G (Q (·.2.2.1.1.1.2.2) :) λD=>Tt.E1 (P:=l.prog) (w:=w) (base:=base) D M5;have uy:=dM X G (Q (·.2.2.1.1.2.1.1) :) λD=>Lay.qG (P:=l.prog) (w:=w) (base:=base) D MF;have G0:=Lay.B5 CH MLy aD KO uy;have uz:=dM X G (Q (·.2.2.1.1.2.1.2) :) λD=>Nx.qH (P:=l.prog) (w:=w) (base:=base) D aD;have UG:=dM X G (Q (·.2.2.1.1.2.2.1) :) λD=>j8.yJ (P:=l.prog) (w:=w) (base:=base) D MR;have m5:=dM X G (Q (·.2.2.1.1.2.2.2) :) λD=>j8.tZ (P:=l.prog) (w:=w) (base:=base) D MR;have xy:=dM X G (Q (·.2.2.1.2.1.1.1) :) λD=>j8.t4 D MR m5;have zp:=dM X G (Q (·.2.2.1.2.1.1.2) :) λD=>j8.wy (P:=l.prog) (w:=w) (base:=base) D;have KP:=Rg.FW (P:=l.prog) (w:=w) (base:=base) GZ bS;have zq:=dM X G (Q (·.2.2.1.2.1.2.1) :) λD=>Rg.wO D ag bS r_;have sd:=dM X G (Q (·.2.2.1.2.1.2.2) :) λD=>Rg.yQ D MRu m5 qe xy;have CI:=dM X G (Q (·.2.2.1.2.2.1.1) :) λD=>Rg.yR D (cFrame:=194) ag zp sd;have fB:=dM X G (Q (·.2.2.1.2.2.1.2) :) λD=>Rg.nE D (cFrame:=194) ag uz;have gn:=dM X G (Q (·.2.2.1.2.2.2.1) :) λD=>Rg.pR D ag bS fB;have xA:=dM X G (Q (·.2.2.1.2.2.2.2.1) :) λD=>Rg.ud D ag gn;have qQ:=dM X G (Q (·.2.2.1.2.2.2.2.2) :) λD=>Rg.pS (P:=l.prog) (w:=w) (base:=base) D (cLayout:=74) ag bS;have KQ:=dM X G (Q (·.2.2.2.1.1.1.1) :) λD=>Rg.F6 D MRu ag bS aD KP;have uA:=dM X G (Q (·.2.2.2.1.1.1.2) :) λD=>Rg.qJ D ag gn;have uB:=dM X G (Q (·.2.2.2.1.1.2.1) :) λD=>Rg.qK D ag sd fB;have zt:=dM X G (Q (·.2.2.2.1.1.2.2) :) λD=>Rg.wX D kB ag FO zo zq CI fB gn xA qQ uA uB;have Qb:=dM X G (Q (·.2.2.2.1.2.1.1) :) λD=>Rg.Kn D kB ag aD zt;have CJ:=Rg.y0 zm ag G0;have xB:=dM X G (Q (·.2.2.2.1.2.1.2) :) λD=>Rg.uk D ag aD CJ KQ UG Qb;have Qc:Fj K "run" "run" Rg.fu 324 (PySem.W.fnOf "run" "run" (cV Rg.fu) (bw Rg.fu) (ah Rg.fu) (.ref 317) (.none) (.none) (.str "slicewise.runs" 446) none (.ref 323) (.none)):=⟨⟨_,_,_,_,_,_,_,_,_,_,rfl,(Q (·.2.1.2.2.1.1.2) :),(Q (·.2.1.2.2.1.2.1) :)⟩,(Q (·.2.1.2.2.1.2.2) :)⟩;have Qd:Binds K (PySem.W.fnOf "run" "run" (cV Rg.fu) (bw Rg.fu) (ah Rg.fu) (.ref 317) (.none) (.none) (.str "slicewise.runs" 446) none (.ref 323) (.none)) qaL []:=AE (m:=3) rfl (Q (·.2.1.2.2.2.1.1) :) rfl rfl (fQ.ux λ_=>(fQ.ux λ_=>(fQ.ux λ_=>(fQ.P7 ⟨_,rfl,rfl⟩))));have Qe:Binds K (PySem.W.fnOf "run" "run" (cV Rg.fu) (bw Rg.fu) (ah Rg.fu) (.ref 317) (.none) (.none) (.str "slicewise.runs" 446) none (.ref 323) (.none)) qaL [.int (200) 678]:=AE (m:=2) rfl (Q (·.2.1.2.2.2.1.1) :) rfl rfl (fQ.ux λ_=>(fQ.ux λ_=>(fQ.P7 ⟨_,rfl,rfl⟩)));have UH:=Rg.Pg (P:=l.prog) (w:=w) (base:=base) Qc (nW X G (Q (·.2.1.2.2.1.1.1) :)) Qd Qe xB;have qf:=dM X G (Q (·.2.2.2.1.2.2.1) :) λD=>c9.y6 (P:=l.prog) (w:=w) (base:=base) D MG;have uC:=dM X G (Q (·.2.2.2.1.2.2.2.1) :) λD=>c9.Gq (P:=l.prog) (w:=w) (base:=base) D MG;have qR:=dM X G (Q (·.2.2.2.1.2.2.2.2) :) λD=>c9.Cv (P:=l.prog) (w:=w) (base:=base) D MG;have fD:=dM X G (Q (·.2.2.2.2.1.1.1) :) λD=>c9.y7 D MG qR;have zu:=dM X G (Q (·.2.2.2.2.1.1.2) :) λD=>c9.Pm D MG fD;have zv:=dM X G (Q (·.2.2.2.2.1.2.1) :) λD=>c9.Pn D MG zu fD;have xD:=dM X G (Q (·.2.2.2.2.1.2.2) :) λD=>Sm.Kq (P:=l.prog) (w:=w) (base:=base) D MS;have zw:=dM X G (Q (·.2.2.2.2.2.1.1) :) λD=>dg.yJ (P:=l.prog) (w:=w) (base:=base) D;have i7:=dM X G (Q (·.2.2.2.2.2.1.2) :) λD=>dg.Ks (P:=l.prog) (w:=w) (base:=base) D ML;have xE:=dM X G (Q (·.2.2.2.2.2.2.1) :) λD=>dg.Kt D ML i7;have xF:=dM X G (Q (·.2.2.2.2.2.2.2.1) :) λD=>dg.Kv D ML i7 xE;have zx:=dM X G (Q (·.2.2.2.2.2.2.2.2) :) λD=>dg.PL D ML zw i7 xF;exact dg.P6 DL ML qf uC fD zv zx UH xD
theorem walk{l:PySem.W.OpenLaw}{q:Program}{loose:qai}{XP:(qae)->Heap->Prop}{d:DefRec}{K:World->qaf}(hn:l.most=some 63)(Nf:d.params.defaults=[])(F:∀(w:World) (mg:qae) (fa:Addr) (h:Heap),(K w).In h->h.Ns mainGlobals mg->mg d.name=some (.ref fa) ->
    ∃fd:FuncData,(∀(s:Shared) (u:Value),BindsTo s fd ⟨[u],[]⟩ [("_law_script",u)])/\∀base:Heap,(K w).In base->base.Ns mainGlobals mg->cn l.prog w (K w) mg base dO 10 fa fd qaW (de (K w) 1 dg.KJ)) :
  PySem.W.WalkO q loose XP (λw h=>(K w).In h) l.row.toRowW d [] (λf vs=>PySem.call f vs):=by
 refine U6.uY hn Nf λw s₀ s₁ mg mb fa o pm cd doc a vs ns G Y ho hd fH RS Ng hints hlen hg=>?_;obtain⟨fd,hb,hF⟩:=F w mg fa _ Y G.T.g RS;exact DH (CX:=dO) (sp:=de (K w) 1 dg.KJ) (k:=10) Y G.T.g G.T.b G.T.builtins G.T.nolimit hg Ng hints (m7 hlen (by decide)) ⟨rfl,by decide,by decide⟩ hF hb (λH _ hS=>
  ⟨[.lst (ns.map .int)],[],[],λ_ r=>r=.vw (.bl true),G5,λ_ z=>(nomatch z),λ_ z=>(nomatch z),eY rfl (ay.cons (by
     simp only[At];refine⟨a,ns.map V.int,rfl,hS.imp (λz=>⟨z,λm=>nomatch m⟩) id,?_⟩;clear hS;clear hints hlen;induction ns with
     |nil=>exact ay.nil
     |cons n ns ih=>exact ay.cons bc ih) ay.nil),⟨ns,rfl,hlen,rfl⟩,λus r hr v H' _ z=>by
     subst hr;have:=z.1;simpa only[At] using this⟩) λ_ _ _ z=>z
end fQ
open PySem PySem.W PyProof.Rows
set_option maxRecDepth 100000 in
set_option maxHeartbeats 0 in
theorem PySem.Challenge.cw_slicewise_k13_records_and_cells_holds : PySem.Challenge.rw_slicewise_k13_records_and_cells.Holds := by
 w_on
 refine PySem.W.holds_law fQ.P8 λP8=>?_;refine PySem.W.holds_openX (q:=fQ.qE) (loose:=fQ.qb) (Xt:=HE.I9 fQ.qE [] []) (XP:=PySem.W.XL fQ.qE []) (d:=fQ.dE) (kwd:=[]) (N:=6142) fQ.hd.1 (λs e=>PySem.W.xl_of s (Bool.and_eq_true_iff.mp e).1) PySem.W.XL.keeps (by kernel_rfl) (by kernel_rfl) (by kernel_rfl) (λs e=>PySem.W.recFacts_of (Bool.and_eq_true_iff.mp e).2) (by kernel_rfl) P8 (by kernel_rfl) ⟨rfl,rfl,rfl,rfl,rfl,by decide +kernel⟩ ?hw ?hc
 (case hw=>w_witness2)
 exact HE.Em (fQ.walk (l:=PySem.Challenge.rw_slicewise_k13_records_and_cells) (K:=fQ.KE) rfl rfl (λw mg fa h KX G RS=>fQ.P9 KX G RS (fQ.hd.2 w)))
