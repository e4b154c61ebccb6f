import PyProof.Rows.All
import Wide.All
import OpenK.AllK
import Wide.FinOn
import Lean
import PyProof.EqAt
import PyProof.EqKinds
import PyProof.TupleCall
import PyProof.NeKinds
import PyProof.Rows.SumAny
import PyProof.StrBlockL
import PyProof.StrBlockI
import PyProof.FitsReplace
import PyProof.Rows.SeqMore
import PyProof.Rows.TupAdd
import PyProof.Draws
import PyProof.ZipIter
import OpenK.ZGo
import PyProof.ListNew
import PyProof.Rows.SortStr
import PyProof.Rows.SortWalk
import PyProof.IsRules
import KE.KDictLaws
import PyProof.DictWalks
import PyProof.WalkInts
import PyProof.DictItems
import PyProof.Rows.DictItemsRows
import KE.KPairComp
import PyProof.Rows.SetFrom
import PyProof.SetRoads
import PyProof.CollectIter
import PyProof.Rows.SortShellK
import PyProof.Rows.BitMore
import PyProof.SeqRoads2
import PyProof.TupleIter
import PySem.Challenge.RW_slicewise_k14_choices_and_loops
set_option Elab.async false
set_option linter.all false
set_option genSizeOf false
set_option genSizeOfSpec false
set_option bootstrap.genMatcherCode false
set_option maxRecDepth 100000
set_option maxHeartbeats 8000000
variable{pos p apos aV p1 fB tp p2:PySem.Pos}{w:PySem.World}{x y qual:PySem.Str}{s s':PySem.Shared}{n i j t' m:Nat}{f a C dx it:PySem.Addr}{fd:PySem.FuncData}{P prog:PySem.Program}{e b o c iter:PySem.Expr}{A:PySem.Around}{base h h':PySem.Heap}{α β:Type}{O:HD}{u:PySem.Value}{B:Prop}{sc:PySem.Scope}{items:Array PySem.Value}
abbrev HD:=List (Option PySem.Addr)
abbrev qaa:=List (PySem.Addr×PySem.Obj)
abbrev qad:=PySem.Value->PySem.Shared->Prop
abbrev qae:=PySem.Str->Option PySem.Value
abbrev qaf:=PySem.W.Frag
abbrev qag:=List PySem.Value
abbrev qah:=List PySem.Addr
abbrev qai:=List PySem.Str
abbrev qan:=List Int
abbrev qao:=List Nat
abbrev qap:=List PySem.Expr
abbrev qaq:=List PySem.Stmt
abbrev qar:=Option PySem.Addr
abbrev qav:List PySem.Str:=["thing"]
abbrev qaw:List PySem.Str:=["program"]
abbrev qax:List PySem.Str:=["self","program"]
abbrev qay:List PySem.Str:=["layout","place"]
abbrev qaz:List PySem.Str:=["number"]
abbrev qaA:List PySem.Str:=["value"]
abbrev qaB:List PySem.Str:=["one","other"]
abbrev qaC:List PySem.Str:=["one","word","other"]
abbrev qaD:List PySem.Str:=["self","program","most","poke"]
abbrev qaE:List PySem.Str:=["call","names"]
abbrev qaF:List PySem.Str:=["self","call","names"]
abbrev qaG:List PySem.Str:=["machine","part"]
abbrev qaH:List PySem.Str:=["machine","row","used"]
abbrev qaI:List PySem.Str:=["machine","row","used","made"]
abbrev qaJ:List PySem.Str:=["machine","place","call","given"]
abbrev qaK:List PySem.Str:=["machine","row"]
abbrev qaL:List PySem.Str:=["program","inputs","most","poke"]
abbrev qaM:List PySem.Str:=["program","inputs","most"]
abbrev qaN:List PySem.Str:=["_law_script","_law_k"]
abbrev qaO:List PySem.Str:=["_law_cell","_law_many"]
abbrev qaP:List PySem.Str:=["_law_found","_law_due_here"]
abbrev qaQ:List PySem.Str:=["_law_number"]
abbrev qaR:List PySem.Str:=["_law_told","_law_most"]
abbrev qaS:List PySem.Str:=["_law_rows_here","_law_held","_law_doings","_law_place"]
abbrev qaT:List PySem.Str:=["_law_rows_here","_law_held","_law_doings","_law_at","_law_names_here"]
abbrev qaU:List PySem.Str:=["_law_rows_here","_law_first","_law_names_here","_law_number"]
abbrev qaV:List PySem.Str:=["_law_names_here","_law_head"]
abbrev qaW:List PySem.Str:=["_law_script"]
abbrev gC(x:PySem.Str):Prop:=(x==("__debug__":PySem.Str))=false
abbrev tW(x:PySem.Str):Prop:=(x==("__classdict__":PySem.Str))=false
abbrev bW:=@List.mem_append_right
abbrev cy:=@List.mem_append_left
abbrev eB:=@List.getElem?_eq_some_iff
abbrev dG:=@List.mem_cons_self
abbrev cU:=@List.mem_append
abbrev c6:=@List.length_map
abbrev eZ:=@PySem.Heap.get?_push_of_some
abbrev eC:=@List.length_append
abbrev c7:=@List.mem_cons
abbrev eO:=@Bool.false_ne_true
abbrev eX:=@List.mem_singleton
abbrev cO:=@Nat.le_refl
abbrev gD:=@List.mem_cons_of_mem
abbrev gW:=@List.mem_of_getElem?
abbrev gE:=@List.not_mem_nil
abbrev iz:=@List.size_toArray
abbrev og:=@List.getElem?_append_left
abbrev jC:=@List.getElem?_map
abbrev e_:=@PySem.Heap.lt_size
abbrev gA:=@List.map_cons
abbrev sF:=@List.getElem?_append_right
abbrev mf:=@PySem.Heap.get?_push_size
abbrev rq:=@List.getElem?_eq_getElem
abbrev nv:=@List.filterMap_cons
abbrev sG:=@PySem.F.slot_list_append
abbrev sH:=@PySem.F.type_list_append
abbrev kB:=@List.nodup_cons
abbrev mh:=@Bool.and_eq_true
abbrev kH:=@List.map_append
abbrev wg:=@List.getLast?_eq_getElem?
abbrev rC:=@List.getElem?_set_ne
abbrev j4:=@PySem.W.mg_of
abbrev jK:=@Nat.ne_of_lt
abbrev sI:=@Nat.lt_of_lt_of_le
abbrev jL:=@Nat.zero_le
abbrev mm:=@Nat.le_trans
abbrev yU:=@List.length_replicate
abbrev AY:=@List.getElem?_set_self
abbrev tX:=@List.length_cons
abbrev yV:=@List.length_dropLast
abbrev D9:=@List.getElem?_replicate
abbrev wj:=@Nat.lt_succ_self
abbrev yN:=@List.nodup_append
abbrev wm:=@PySem.boot_len
abbrev D_:=@PySem.W.mg_none_of
abbrev AZ:=@List.append_nil
abbrev Eo:=@List.replicate_succ
abbrev Mx:=@PySem.F.slot_tuple_iterator_next
abbrev D':=@Int.toNat_natCast
abbrev Ep:=@List.set_cons_succ
abbrev yW:=@List.mem_map
abbrev IM:=@Int.emod_lt_of_pos
abbrev Ea:=@PySem.PassesOwn.never
abbrev Jj:=@List.zip_cons_cons
abbrev Om:=@List.length_eq_zero_iff
abbrev IP:=@List.lookup_cons
abbrev Eb:=@Nat.lt_irrefl
abbrev Cn:=@Nat.ne_of_gt
abbrev Er:=@PySem.Heap.size_push
abbrev Oo:=@List.getElem?_dropLast
abbrev My:=@PySem.mem_of_lookup
abbrev IQ:=@List.length_set
abbrev Sz:=@List.mem_or_eq_of_mem_set
abbrev IS:=@Int.emod_nonneg
abbrev MA:=@List.set_cons_zero
abbrev Jk:=@List.cons_append
abbrev Es:=@List.any_cons
abbrev IT:=@List.mem_range
abbrev IU:=@List.drop_drop
abbrev SA:=@PySem.F.plainAttrs_list
abbrev MB:=@List.append_assoc
abbrev Th:=@PyProof.Rows.callWith_type1
abbrev Jl:=@List.nodup_nil
abbrev Ti:=@Classical.byContradiction
abbrev MC:=@List.nil_append
abbrev IV:=@List.map_nil
abbrev MD:=@List.length_zip
abbrev IW:=@List.map_map
abbrev Oq:=@List.flatten_cons
abbrev Ot:=@Nat.lt_succ_of_lt
abbrev SD:=@Array.length_toList
abbrev SE:=@List.length_pos_iff
abbrev Tj:=@List.getElem?_range
abbrev Ou:=@List.all_eq_true
abbrev Xy:=@PySem.F.args_tuple_iterator_next_1
abbrev IX:=@Nat.le_succ
abbrev Tn:=@Option.map_eq_some_iff
abbrev Xz:=@PySem.F.entry_tuple_iterator_next
abbrev XA:=@List.mem_iff_getElem?
abbrev Ov:=@PySem.W.kia_one
abbrev To:=@PySem.F.slot_dict_get
abbrev Tp:=@List.getElem?_eq_none
abbrev ME:=@Bool.and_self
abbrev MH:=@Nat.min_self
abbrev YH:=@PyProof.Rows.slot_tuple_getitem
abbrev XB:=@PySem.F.plainAttrs_dict
abbrev Ow:=@PySem.Paired.length
abbrev Tq:=@PySem.Calls.spliced_cons
abbrev SF:=@List.find?_cons
abbrev SG:=@List.head?_drop
abbrev XC:=@PySem.Calls.callWith_builtin
abbrev XD:=@List.zipWith_cons_cons
abbrev Tr:=@List.getElem?_set
abbrev Ts:=@List.length_range
abbrev Tt:=@List.ext_getElem?
abbrev XE:=@Bool.beq_eq_decide_eq
abbrev Tu:=@List.length_take
abbrev XF:=@List.getElem?_mapIdx
abbrev YI:=@List.getD_eq_getElem?_getD
abbrev XG:=@PySem.Heap.SameBut.update
abbrev XH:=@List.length_zipWith
abbrev XI:=@List.map_congr_left
abbrev Tv:=@List.mem_filter
abbrev Tw:=@Option.map_some
abbrev YJ:=@List.drop_eq_getElem_cons
abbrev XJ:=@PySem.W.callWith_K
abbrev YK:=@PySem.F.args_tuple_add_2
abbrev XM:=@Nat.lt_of_le_of_lt
abbrev XN:=@PySem.Obj.data_mapFields
abbrev YL:=@PySem.F.entry_tuple_add
abbrev YM:=@List.getElem?_cons_zero
abbrev YN:=@PySem.F.args_dict_get_3
abbrev YO:=@Int.eq_ofNat_of_zero_le
abbrev YQ:=@PySem.F.slot_tuple_add
abbrev YR:=@PySem.F.entry_dict_get
abbrev YS:=@List.take_of_length_le
abbrev Tx:=@Bool.true_and
abbrev XO:=@Option.getD_some
abbrev XQ:=@List.getElem_mem
namespace L2
open PySem PySem.Spec PyProof.Rows
abbrev Key:=Sum Int Str
def sJ:Key->Value->Bool
 |.inl k,v=>Value.isInt k v
 |.inr x,v=>Value.isStrOf x v
def YT(w:World):Key->Int
 |.inl k=>hashInt k
 |.inr x=>hashStr w x
theorem cu:∀{k:Key}{v:Value},sJ k v=true->(∃i t,k=Sum.inl i/\v=Value.int i t)\/(∃x t,k=Sum.inr x/\v=Value.str x t)
 |.inl i,v,h=>by obtain⟨t,e⟩:=Value.isInt_shape (k:=i) (v:=v) h;exact .inl ⟨i,t,rfl,e⟩
 |.inr x,v,h=>by obtain⟨t,e⟩:=Value.isStrOf_shape (x:=x) (v:=v) h;exact .inr ⟨x,t,rfl,e⟩
theorem Co(i:Int)(t:Tok):sJ (.inl i) (.int i t)=true:=by simp[sJ,Value.isInt]
theorem Cp(x:Str)(t:Tok):sJ (.inr x) (.str x t)=true:=by simp[sJ,Value.isStrOf]
theorem Oy(a b:Int):decide ((Sum.inl a:Key)=Sum.inl b)=(a==b):=by by_cases e:a=b;subst e;simp;have h:¬ (Sum.inl a:Key)=Sum.inl b:=λq=>e (Sum.inl.inj q);rw[decide_eq_false h];exact (beq_eq_false_iff_ne.mpr e).symm
theorem Oz(a b:Str):decide ((Sum.inr a:Key)=Sum.inr b)=decide (a=b):=by by_cases e:a=b;subst e;simp;have h:¬ (Sum.inr a:Key)=Sum.inr b:=λq=>e (Sum.inr.inj q);rw[decide_eq_false h,decide_eq_false e]
theorem OA(a:Int)(b:Str):decide ((Sum.inl a:Key)=Sum.inr b)=false:=decide_eq_false (λq=>nomatch q)
theorem OB(a:Str)(b:Int):decide ((Sum.inr a:Key)=Sum.inl b)=false:=decide_eq_false (λq=>nomatch q)
noncomputable def bA(prog:Program)(w:World):PySem.KeyKind prog w Key where
 is:=sJ
 hash:=YT w
 inj:=λv a b ha hb=>by
  rcases cu ha with⟨i,t,rfl,rfl⟩|⟨x,t,rfl,rfl⟩
  rcases cu hb with⟨j,u,rfl,e⟩|⟨y,u,rfl,e⟩
  injection e with e1 _;rw[e1]
  exact nomatch e;rcases cu hb with⟨j,u,rfl,e⟩|⟨y,u,rfl,e⟩
  exact nomatch e;injection e with e1 _;rw[e1]
 byValue:=λk v h=>by rcases cu h with⟨i,t,rfl,rfl⟩|⟨x,t,rfl,rfl⟩<;>rfl
 pyHash:=λhv h=>by
  rcases cu hv with⟨i,t,rfl,rfl⟩|⟨x,t,rfl,rfl⟩
  exact wpAny_pyHash_int h;exact wpAny_pyHash_str h
 eqBool:=λhu hv h=>by
  rcases cu hu with⟨i,t,rfl,rfl⟩|⟨x,t,rfl,rfl⟩
  rcases cu hv with⟨j,u,rfl,rfl⟩|⟨y,u,rfl,rfl⟩
  rw[Oy] at h;exact wpAny_eqBool_int h;rw[OA] at h;exact SeqAt.EqAt.int_str i t y u _ _ _ _ h;rcases cu hv with⟨j,u,rfl,rfl⟩|⟨y,u,rfl,rfl⟩
  rw[OB] at h;exact SeqAt.EqAt.str_int x t j u _ _ _ _ h;rw[Oz] at h;exact wpAny_eqBool_str h
 «strs»:=λk x t v h=>by
  rcases cu h with⟨i,u,rfl,e⟩|⟨y,u,rfl,e⟩
  exact nomatch e;injection e with e1 _
  subst e1;cases v<;>rfl
theorem wo(prog:Program)(w:World)(i:Int)(t:Tok):(bA prog w).is (.inl i) (.int i t)=true:=Co i t
theorem wq(prog:Program)(w:World)(x:Str)(t:Tok):(bA prog w).is (.inr x) (.str x t)=true:=Cp x t
inductive V where
 |aO|bl (b:Bool)|int (i:Int)|str (x:Str)|YU (b:Array UInt8)|YV (b:UInt64)|ref (a:Addr)|ty (n:String)
 deriving DecidableEq
def RelV:V->Value->Prop
 |.aO,u=>u=Value.none
 |.bl b,u=>u=Value.bool b
 |.int i,u=>∃t,u=Value.int i t
 |.str x,u=>∃t,u=Value.str x t
 |.YU b,u=>∃t,u=Value.bytes b t
 |.YV b,u=>∃t,u=Value.float b t
 |.ref a,u=>u=Value.ref a
 |.ty n,u=>u=Value.type n
abbrev Vals:List V->qag->Prop:=Paired RelV
theorem Vals.length{xs:List V}{us:qag}(r:Vals xs us):xs.length=us.length:=Ow r
theorem Vals.get:∀{xs:List V}{us:qag}{i:Nat}{x:V},Vals xs us->xs[i]?=some x->∃u,us[i]?=some u/\RelV x u
 |_,_,_,_,.nil,e=>by simp at e
 |_,_,0,_,.cons r _,e=>by simp at e;subst e;exact⟨_,rfl,r⟩
 |_,_,i+1,x,.cons _ t,e=>by obtain⟨u,h1,h2⟩:=Vals.get (i:=i) (x:=x) t (by simpa using e);exact⟨u,by simpa using h1,h2⟩
theorem Vals.set{x:V}{u:Value}(r:RelV x u):∀{xs:List V}{us:qag}(i:Nat),Vals xs us->Vals (xs.set i x) (us.set i u)
 |_,_,_,.nil=>.nil
 |_,_,0,.cons _ t=>.cons r t
 |_,_,i+1,.cons q t=>.cons q (Vals.set r i t)
theorem Vals.append:∀{xs ys:List V}{us ws:qag},Vals xs us->Vals ys ws->Vals (xs++ys) (us++ws)
 |_,_,_,_,.nil,s=>s
 |_,_,_,_,.cons r t,s=>.cons r (Vals.append t s)
theorem Vals.take:∀{xs:List V}{us:qag}(n:Nat),Vals xs us->Vals (xs.take n) (us.take n)
 |_,_,0,_=>.nil
 |_,_,_+1,.nil=>.nil
 |_,_,n+1,.cons r t=>.cons r (Vals.take n t)
theorem Vals.drop:∀{xs:List V}{us:qag}(n:Nat),Vals xs us->Vals (xs.drop n) (us.drop n)
 |_,_,0,r=>r
 |_,_,_+1,.nil=>.nil
 |_,_,n+1,.cons _ t=>Vals.drop n t
def jD:Option V->Option Value->Prop
 |some v,some u=>RelV v u
 |none,none=>True
 |_,_=>False
def KV{κ:Type}:List (κ×V)->List (κ×Value)->Prop:=Paired λ(p:κ×V) (q:κ×Value)=>p.1=q.1/\RelV p.2 q.2
noncomputable def kV:Key->V
 |.inl i=>.int i
 |.inr x=>.str x
inductive HO where
 |lst (xs:List V)
 |tup (xs:List V)
 |dK (aT:List (Key×V))|dT (aT:List (List Key×V))
 |set (S:Int->Bool) (n:Nat)
 |ins (C dx:Addr) (fs:List (Str×V))
 |own (x:Addr)
 |xd (fs:List (Str×V))
 |met (f x:Addr)
 |YW (lo hi:Int)
 |Cq (o:Obj) (u:HO)
 |OC (ps:Array Value)
 |ext (φ:Heap->Prop)
abbrev Hp:=Addr->Option HO
def upd(H:Hp)(a:Addr)(o:HO):Hp:=λb=>if b=a then some o else H b
theorem aG{H:Hp}{o:HO}:upd H a o a=some o:=by unfold upd;rw[if_pos rfl]
theorem aC{H:Hp}{b:Addr}{o:HO}(h:b≠a):upd H a o b=H b:=by unfold upd;rw[if_neg h]
theorem Et{H:Hp}{b:Addr}{o u:HO}(h:H a=some o)(h':H b=some u)(d:o≠u):a≠b:=by intro e;subst e;rw[h] at h';exact d (Option.some.inj h')
theorem ba{H:Hp}{b:Addr}{o:HO}(h:H a=some o)(h':H b=none):a≠b:=by intro e;subst e;rw[h] at h';cases h'
section
variable(P:Program)(w:World)
def cw(H:Hp)(h:Heap)(a:Addr):HO->Prop
 |.lst xs=>xs.length<=sizeLine/\∃(aN:qag)(n:Nat),Vals xs aN/\h.get? a=some {cls:=.type "list",data:=.seq aN.toArray n}
 |.tup xs=>xs.length<=sizeLine/\∃aN:qag,Vals xs aN/\IsTup h a aN.toArray
 |.dK aT=>aT.length<=sizeLine/\(a==sysModules)=false/\∃vs,KV aT vs/\h.DictOf (bA P w) a vs
 |.dT aT=>aT.length<=sizeLine/\(a==sysModules)=false/\∃xs:List (List Key×Addr×Value),
  Paired (λ(p:List Key×V) (q:List Key×Addr×Value)=>p.1=q.1/\H q.2.1=some (.tup (p.1.map kV))/\RelV p.2 q.2.2) aT xs /\
  ∃o es ep,h.get? a=some o/\o.ExactDict/\o.data=.dict es ep/\es.toList=xs.map (entryOfKey (tupleKind (bA P w)))/\(xs.map (·.1)).Nodup
 |.set S n=>h.SetOf (intKind P w) a S n
 |.ins C dx fs=>H dx=some (.own a)/\fs.length<=1000/\dx≠a/\h.get? a=some (PySem.W.instObj C dx) /\
  ∃mA,h.Ns1 dx mA/\(∀f,jD (fs.lookup f) (mA f))/\PySem.Within mA (fs.map (·.1))
 |.own _=>∃o,h.get? a=some o
 |.xd fs=>∃mA,h.Ns1 a mA/\∀f,jD (fs.lookup f) (mA f)
 |.YW lo hi=>∃t u v,h.get? a=some {cls:=.type "range",data:=.fields #[.int lo t,.int hi u,.int 1 v]}
 |.Cq o u=>h.get? a=some o/\cw H h a u
 |.OC ps=>h.get? a=some {cls:=.none,data:=.fields ps}
 |.met f x=>h.get? a=some (PySem.W.methodObj (.ref f) (.ref x))
 |.ext φ=>φ h/\(∃o,h.get? a=some o)/\∀h1 h2:Heap,φ h1->(∀o,h1.get? a=some o->h2.get? a=some o)->φ h2
def kD(H:Hp)(h:Heap):Prop:=∀a o,H a=some o->cw P w H h a o
end
section
variable{H H':Hp}{o:HO}
theorem cw.lt(x:cw P w H h a o):a<h.objs.size:=by
 cases o with
 |lst xs=>obtain⟨_,_,_,_,e⟩:=x;exact e_ e
 |tup xs=>obtain⟨_,_,_,p⟩:=x;exact p.lt
 |dK aT=>obtain⟨_,_,_,_,o,_,_,e,_⟩:=x;exact e_ e
 |dT aT=>obtain⟨_,_,_,_,o,_,_,e,_⟩:=x;exact e_ e
 |set S n=>obtain⟨o,_,_,_,e,_⟩:=x;exact e_ e
 |ins C dx fs=>obtain⟨_,_,_,e,_⟩:=x;exact e_ e
 |own y=>obtain⟨_,e⟩:=x;exact e_ e
 |xd fs=>obtain⟨_,⟨_,_,_,e,_⟩,_⟩:=x;exact e_ e
 |YW lo hi=>obtain⟨_,_,_,e⟩:=x;exact e_ e
 |Cq ob u=>obtain⟨e,_⟩:=x;exact e_ e
 |OC ps=>exact e_ (show h.get? a=some _ from x)
 |met f y=>exact e_ (show h.get? a=some _ from x)
 |ext φ=>obtain⟨_,⟨_,e⟩,_⟩:=x;exact e_ e
theorem Paired.mq{α β:Type}{F G:α->β->Prop}:∀{l₁:List α}{l₂:List β},Paired F l₁ l₂->(∀a b,F a b->G a b)->Paired G l₁ l₂
 |_,_,.nil,_=>.nil
 |_,_,.cons r t,f=>.cons (f _ _ r) (Paired.mq t f)
theorem cw.yX(x:cw P w H h a o)(k:∀b u,(b=a\/H b=some (.own a))->h.get? b=some u->h'.get? b=some u)(ho:∀b,H b=some (.own a)->H' b=some (.own a))(ht:∀b xs,H b=some (.tup xs)->H' b=some (.tup xs)):cw P w H' h' a o:=by
 induction o with
 |lst xs=>obtain⟨z,aN,n,r,e⟩:=x;exact⟨z,aN,n,r,k _ _ (.inl rfl) e⟩
 |tup xs=>obtain⟨z,aN,r,ob,e,c⟩:=x;exact⟨z,aN,r,ob,k _ _ (.inl rfl) e,c⟩
 |dK aT=>obtain⟨z,y,vs,r,ob,es,ep,e,c⟩:=x;exact⟨z,y,vs,r,ob,es,ep,k _ _ (.inl rfl) e,c⟩
 |dT aT=>obtain⟨z,y,xs,r,ob,es,ep,e,c⟩:=x;exact⟨z,y,xs,Paired.mq r λp q z=>⟨z.1,ht _ _ z.2.1,z.2.2⟩,ob,es,ep,k _ _ (.inl rfl) e,c⟩
 |set S n=>obtain⟨ob,es,ep,t,e,c⟩:=x;exact⟨ob,es,ep,t,k _ _ (.inl rfl) e,c⟩
 |ins C dx fs=>obtain⟨d,z,ne,e,mA,⟨od,es,ep,e2,c⟩,r⟩:=x;exact⟨ho _ d,z,ne,k _ _ (.inl rfl) e,mA,⟨od,es,ep,k _ _ (.inr d) e2,c⟩,r⟩
 |own y=>obtain⟨ob,e⟩:=x;exact⟨ob,k _ _ (.inl rfl) e⟩
 |xd fs=>obtain⟨mA,⟨od,es,ep,e,c⟩,r⟩:=x;exact⟨mA,⟨od,es,ep,k _ _ (.inl rfl) e,c⟩,r⟩
 |YW lo hi=>obtain⟨t,u,v,e⟩:=x;exact⟨t,u,v,k _ _ (.inl rfl) e⟩
 |Cq ob u ih=>obtain⟨e,q⟩:=x;exact⟨k _ _ (.inl rfl) e,ih q⟩
 |OC ps=>have e:h.get? a=some {cls:=.none,data:=.fields ps}:=x;show h'.get? a=some {cls:=.none,data:=.fields ps};exact k a _ (.inl rfl) e
 |met f y=>have e:h.get? a=some (PySem.W.methodObj (.ref f) (.ref y)):=x;show h'.get? a=some (PySem.W.methodObj (.ref f) (.ref y));exact k a _ (.inl rfl) e
 |ext φ=>obtain⟨p,⟨o,e⟩,st⟩:=x;exact⟨st _ _ p λo q=>k _ _ (.inl rfl) q,⟨o,k _ _ (.inl rfl) e⟩,st⟩
theorem kD.lt(x:kD P w H h)(e:H a=some o):a<h.objs.size:=(x a o e).lt
theorem kD.fresh(x:kD P w H h)(e:h.objs.size<=a):H a=none:=by
 cases q:H a with
 |none=>rfl
 |some u=>exact absurd (sI (x.lt q) e) (Eb _)
theorem kD.kept(x:kD P w H h)(k:∀b u,h.get? b=some u->h'.get? b=some u):kD P w H h':=λa o e=>
 (x a o e).yX (λb u _ q=>k b u q) (λ_ q=>q) λ_ _ q=>q
theorem kD.laid(x:kD P w H h)(k:∀b u,h.get? b=some u->h'.get? b=some u)(hp:h.objs.size<=a)(new:cw P w (upd H a o) h' a o):kD P w (upd H a o) h':=λb u e=>by have hn:=x.fresh hp;by_cases hb:b=a;subst hb;rw[aG] at e;cases e;exact new;rw[aC hb] at e;exact (x b u e).yX (λc v _ q=>k c v q) (λc q=>by rw[aC (ba q hn)];exact q) λc xs q=>by rw[aC (ba q hn)];exact q
end
def Rd(H:Hp)(a:Addr)(u:HO):Prop:=H a=some u\/∃o,H a=some (.Cq o u)
theorem Rd.ok{H:Hp}{u:HO}(r:Rd H a u)(x:kD P w H h):cw P w H h a u:=by
 obtain r|⟨o,r⟩:=r
 exact x a u r;obtain⟨_,q⟩:=x a _ r;exact q
def Tz:Option HO->Prop
 |some (.lst _)=>True
 |some (.dK _)=>True
 |some (.dT _)=>True
 |some (.set _ _)=>True
 |some (.ins _ _ _)=>True
 |some (.ext _)=>True
 |_=>False
section
variable{H:Hp}{x e:Addr}{o':HO}
theorem kD.write(ok:kD P w H h)(mu:Tz (H x))(he:e=x\/H e=some (.own x))(k:∀b u,b≠e->h.get? b=some u->h'.get? b=some u)(IY:∃u,h'.get? e=some u)(new:cw P w (upd H x o') h' x o'):kD P w (upd H x o') h':=λb u q=>by
 have TB:∀c y,H c=some (.own y)->c≠x:=λc y r z=>by subst z;rw[r] at mu;exact mu
 have YX:∀c xs,H c=some (.tup xs)->c≠x:=λc xs r z=>by subst z;rw[r] at mu;exact mu
 by_cases hb:b=x;subst hb;rw[aG] at q;cases q;exact new;rw[aC hb] at q;by_cases Cr:b=e;have q':H b=some (.own x):=by
  obtain z|z:=he
  exact absurd (Cr.trans z) hb;rw[Cr];exact z
 rw[q] at q';cases q';obtain⟨v,hv⟩:=IY;exact⟨v,by rw[Cr];exact hv⟩;refine (ok b u q).yX (λc v hc r=>k c v ?_ r) (λc r=>by rw[aC (TB c b r)];exact r) λc xs r=>by rw[aC (YX c xs r)];exact r
 obtain rfl|hc:=hc
 exact Cr;rintro rfl;obtain z|z:=he
 exact TB c b hc z;rw[hc] at z;cases z;exact hb rfl
end
structure Un(fs ex:qah)(H H':Hp)(h h':Heap):Prop where
 keep:∀b o,h.get? b=some o->H b=none->b∉fs->b∉ex->h'.get? b=some o
 slot:∀b o,h.get? b=some o->H b=none->b∈fs->b∉ex->∃sl,h'.get? b=some {o with slots:=sl}
 free:∀b o,h.get? b=some o->H b=none->b∉ex->H' b=none
 there:∀b o,h.get? b=some o->b∉ex->∃o',h'.get? b=some o'
 wt:∀b xs,H b=some (.tup xs)->H' b=some (.tup xs)
 tY:∀b o u,H b=some (.Cq o u)->H' b=some (.Cq o u)
 wu:∀b ps,H b=some (.OC ps)->∃more,H' b=some (.OC (ps++more))
section
variable{fs YY ex YZ:qah}{H H1 H2:Hp}{h1 h2:Heap}{x e:Addr}{o:HO}
theorem Un.any(u:Un fs ex H H1 h h1){b:Addr}{ob:Obj}(q:h.get? b=some ob)(n:H b=none)(hx:b∉ex):∃sl,h1.get? b=some {ob with slots:=sl}:=by by_cases hb:b∈fs;exact u.slot b ob q n hb hx;exact⟨ob.slots,u.keep b ob q n hb hx⟩
theorem Un.kept(k:∀b u,h.get? b=some u->h'.get? b=some u):Un fs ex H H h h' :=
 ⟨λb ob q _ _ _=>k b ob q,λb ob q _ _ _=>⟨ob.slots,k b ob q⟩,λ_ _ _ n _=>n,λb ob q _=>⟨ob,k b ob q⟩,λ_ _ q=>q,λ_ _ _ q=>q,λ_ ps q=>⟨#[],by rw[q];simp⟩⟩
theorem Un.refl:Un fs ex H H h h:=Un.kept λ_ _ q=>q
theorem Un.laid(k:∀b u,h.get? b=some u->h'.get? b=some u)(hp:h.objs.size<=a)(hn:H a=none):Un fs ex H (upd H a o) h h' where
 keep:=λb u q _ _ _=>k b u q
 slot:=λb u q _ _ _=>⟨u.slots,k b u q⟩
 free:=λb u q n _=>by rw[aC (jK (sI (e_ q) hp))];exact n
 there:=λb u q _=>⟨u,k b u q⟩
 wt:=λb xs q=>by rw[aC (ba q hn)];exact q
 tY:=λb u xs q=>by rw[aC (ba q hn)];exact q
 wu:=λb ps q=>⟨#[],by rw[aC (ba q hn),q];simp⟩
theorem Un.write(mu:Tz (H x))(he:e=x\/H e=some (.own x))(k:∀b u,b≠e->h.get? b=some u->h'.get? b=some u)(IY:∃u,h'.get? e=some u):Un fs ex H (upd H x o) h h':=by
 have hx:∀b,H b=none->b≠x:=λb n z=>by subst z;rw[n] at mu;exact mu
 have hb:∀b,H b=none->b≠e:=λb n z=>by
  subst z;obtain r|r:=he
  exact hx b n r;rw[n] at r;cases r
 have hm:∀b u,H b=some u->¬ Tz (some u)->b≠x:=λb u q nm z=>by subst z;rw[q] at mu;exact nm mu
 refine⟨λb u q n _ _=>k b u (hb b n) q,λb u q n _ _=>⟨u.slots,k b u (hb b n) q⟩,λb u q n _=>by rw[aC (hx b n)];exact n,λb u q _=>?_,
  λb xs q=>by rw[aC (hm b _ q λz=>z)];exact q,λb u xs q=>by rw[aC (hm b _ q λz=>z)];exact q,λb ps q=>⟨#[],by rw[aC (hm b _ q λz=>z),q];simp⟩⟩
 by_cases Cr:b=e;subst Cr;exact IY;exact⟨u,k b u Cr q⟩
end
def XR(h:Heap)(H:Hp):qah:=(List.range h.objs.size).filter λa=>(H a).isSome
def tZ(h:Heap)(H:Hp):Heap:=PySem.W.hideAll h (XR h H)
theorem Cs(h:Heap)(H:Hp):(tZ h H).objs.size=h.objs.size:=PySem.W.hideAll_size _ _
theorem Eu{H:Hp}{b:Addr}{o:Obj}(e:h.get? b=some o)(n:H b=none):(tZ h H).get? b=some o :=
 PySem.W.hideAll_get _ e λhm=>by have q:(H b).isSome=true:=(Tv.mp hm).2;rw[n] at q;simp at q
theorem Jm{H:Hp}{b:Addr}{o:Obj}(e:(tZ h H).get? b=some o):h.get? b=some o/\H b=none:=by
 have e':h.get? b=some o:=PySem.W.of_hideAll (XR h H) e;refine⟨e',?_⟩;cases q:H b with
 |none=>rfl
 |some x=>have hm:b∈XR h H:=Tv.mpr ⟨IT.mpr (e_ e'),by simp[q]⟩;have z:(tZ h H).get? b=none:=PySem.W.hideAll_none (XR h H) hm;rw[z] at e;cases e
def Jn(g h:Heap)(L:Addr):qaa:=(List.range h.objs.size).filterMap λa=>if a=L\/(g.get? a).isSome=true then none else (h.get? a).map λo=>(a,o)
def rest(g h:Heap)(L d:Addr):qaa:=(Jn g h L).filter λp=>decide (p.1≠d)
structure Mod(K:qaf)(mg:qae)(base:Heap):Prop where
 SH:K.In base
 glob:base.Ns mainGlobals mg
 blt:∃mb,base.Ns builtinsNs mb/\∀x:Str,x≠"__name__"->mb x=bootBuiltins x
 nolimit:base.NoLimit
structure Cx where
 prog:Program
 w:World
 K:qaf
 mg:qae
 base:Heap
 A:Around
 N:qai
 s₀:Shared
 H₀:Hp
 env:Env
 outer:List Env
 stack:List Env
 ex:qah
 fn:Str->Bool
 calm:Bool
 pn:qaa
 xe:qad
def Ec(l:List Env):qah:=l.filterMap (·.frame)
abbrev Cx.fs(X:Cx):qah:=Ec X.outer
def j5(sc:Scope)(x:Str):Prop:=sc.names.lookup x=some .local\/sc.names.lookup x=some .cell\/sc.names.lookup x=some .free
def Loc(sc:Scope)(x:Str):Prop:=sc.names.lookup x=some .local\/sc.names.lookup x=some .cell
def Look(env:Env)(h:Heap)(m:qae)(x:Str)(u:Value):Prop :=
 (env.kindOf x=some .local/\m x=some u)\/((env.kindOf x=some .cell\/env.kindOf x=some .free)/\∃c,env.cells.lookup x=some c/\h.IsCell c (some u))
structure Cx.Ok(X:Cx):Prop where
 mod:Mod X.K X.mg X.base
 kind:X.env.scope.kind=.function
 glob:X.env.globals=mainGlobals
 blt:X.env.builtins=builtinsNs
 above:X.s₀.heap.objs.size<=X.env.locals
 inj:∀x y c,X.env.cells.lookup x=some c->X.env.cells.lookup y=some c->x=y
 has:∀x,(X.env.kindOf x=some .cell\/X.env.kindOf x=some .free)->∃c,X.env.cells.lookup x=some c
 OD:∀x c,X.fn x=true->X.env.cells.lookup x=some c->X.s₀.heap.objs.size<=c
 hd:X.calm=true->X.A.handled=none
 frames:X.A.frames=some X.stack
 SI:X.stack=X.outer\/(X.stack=X.env::X.outer/\X.env.frame=some X.env.locals)
 XS:∀b∈X.ex,b≠X.env.locals/\∀x c,X.env.cells.lookup x=some c->c≠b
 bs:∀b o,X.base.get? b=some o->X.s₀.heap.get? b=some o/\X.H₀ b=none
 Ed:X.base.objs.size<=X.s₀.heap.objs.size
 yY:∀b o,X.base.get? b=some o->b∉X.ex
 Cu:∀b∈X.ex,b∉X.fs
 kJ:X.s₀.heap.FunFrames X.base X.outer
 Jo:∀b∈X.fs,X.H₀ b=none
structure Inv(X:Cx)(pins:qaa)(σ:List (Option V))(H:Hp)(s:Shared):Prop where
 ok:X.Ok
 os:s.os=X.s₀.os
 bare:AllBare s.gens
 base:Un X.fs X.ex X.H₀ H X.s₀.heap s.heap
 loc:∃m,s.heap.Ns X.env.locals m/\∀(i:Nat)(x:Str)(v:V),X.N[i]?=some x->σ[i]?=some (some v)->j5 X.env.scope x->∃u,RelV v u/\Look X.env s.heap m x u
 cell:∀x c,X.env.cells.lookup x=some c->∃v,s.heap.IsCell c v
 free:H X.env.locals=none
 gF:∀x c,X.env.cells.lookup x=some c->H c=none
 pin:∀p∈X.pn++pins,s.heap.get? p.1=some p.2/\H p.1=none/\p.1≠X.env.locals/\p.1∉X.fs/\∀v,p.2.data≠.cell v
 cm:kD X.prog X.w H s.heap
 len:σ.length=X.N.length
section
variable{X:Cx}{pins:qaa}{σ:List (Option V)}{H H':Hp}
theorem Cx.Ok.Y0(ok:X.Ok){b:Addr}{o:Obj}(e:X.base.get? b=some o):b∉X.fs:=λhb=>by have:=(ok.kJ.mem hb).1;rw[e] at this;cases this
theorem Inv.bs(I:Inv X pins σ H s):∀b o,X.base.get? b=some o->s.heap.get? b=some o/\H b=none:=λb o e=>
 ⟨I.base.keep b o (I.ok.bs b o e).1 (I.ok.bs b o e).2 (I.ok.Y0 e) (I.ok.yY b o e),I.base.free b o (I.ok.bs b o e).1 (I.ok.bs b o e).2 (I.ok.yY b o e)⟩
theorem Inv.bk(I:Inv X pins σ H s):∀b o,X.base.get? b=some o->s.heap.get? b=some o:=λb o e=>(I.bs b o e).1
theorem Inv.mod(I:Inv X pins σ H s):Mod X.K X.mg X.base:=I.ok.mod
theorem Inv.rD(I:Inv X pins σ H s):X.K.In s.heap:=I.ok.mod.SH.keeps I.bk
theorem Inv.fr(I:Inv X pins σ H s):∃m,Fr X.base X.env.locals s.heap m :=
 let ⟨m,hn,_⟩:=I.loc
 ⟨m,hn,I.bk,mm I.ok.Ed I.ok.above⟩
theorem Inv.lt(I:Inv X pins σ H s):X.env.locals<s.heap.objs.size:=let ⟨_,hn,_⟩:=I.loc;hn.lt
theorem Inv.sz(I:Inv X pins σ H s):X.s₀.heap.objs.size<=s.heap.objs.size:=mm I.ok.above (Nat.le_of_lt I.lt)
theorem Inv.Y1(I:Inv X pins σ H s)(h:s.heap.objs.size<=a):a∉X.fs:=λhb=>by obtain⟨_,o,ho,_⟩:=I.ok.kJ.mem hb;exact absurd (sI (e_ ho) (mm I.sz h)) (Eb _)
theorem Inv.Jp(I:Inv X pins σ H s):∀x c,X.env.cells.lookup x=some c->c≠X.env.locals:=λx c e z=>by obtain⟨v,o,ho,hd⟩:=I.cell x c e;obtain⟨m,⟨o',es,ep,pe,TC,_⟩,_⟩:=I.loc;rw[z,pe] at ho;cases ho;rw[TC] at hd;cases hd
theorem Inv.kJ(I:Inv X pins σ H s):s.heap.FunFrames X.base X.outer:=by
 have all:∀(l:List Env),(∀b∈Ec l,b∈X.fs)->X.s₀.heap.FunFrames X.base l->s.heap.FunFrames X.base l:=by
  intro l;induction l with
  |nil=>intro _ _;trivial
  |cons env r ih=>intro hs hl;obtain⟨hk,⟨L,o,hf,hn,ho,hd⟩,hr⟩:=hl;have hL:L∈X.fs:=hs L (by unfold Ec;rw[nv,hf];exact dG);obtain⟨sl,e⟩:=I.base.slot L o ho (I.ok.Jo L hL) hL λz=>I.ok.Cu L z hL;exact⟨hk,⟨L,_,hf,hn,e,hd⟩,ih (λb hb=>hs b (by unfold Ec;rw[nv,hf];exact gD _ hb)) hr⟩
 exact all X.outer (λ_ hb=>hb) I.ok.kJ
theorem Inv.stack(I:Inv X pins σ H s):s.heap.FunFrames X.base X.stack:=by
 obtain e|⟨e,hf⟩:=I.ok.SI
 rw[e];exact I.kJ;rw[e];obtain⟨m,hn,_⟩:=I.loc;refine .cons (by rw[I.ok.kind];decide) hf hn ?_ I.kJ;exact Heap.get?_none_of_le (mm I.ok.Ed I.ok.above)
theorem Inv.yZ(I:Inv X pins σ H s):∀b∈Ec X.stack,b∈X.env.locals::X.fs:=λb hb=>by
 obtain e|⟨e,hf⟩:=I.ok.SI
 rw[e] at hb;exact gD _ hb;rw[e] at hb;unfold Ec at hb;rw[nv,hf] at hb;exact hb
theorem Inv.A0(I:Inv X pins σ H s):∀b∈Ec X.stack,H b=none:=λb hb=>by
 rcases c7.mp (I.yZ b hb) with e|hb
 rw[e];exact I.free;obtain⟨_,o,ho,_⟩:=I.ok.kJ.mem hb;exact I.base.free b o ho (I.ok.Jo b hb) λz=>I.ok.Cu b z hb
theorem Inv.step{g':Array GenState}{d':Drawn}{ch:qah}(I:Inv X pins σ H s)(IZ:∀b∈ch,(b∈X.ex\/X.s₀.heap.objs.size<=b)/\b≠X.env.locals/\(∀x c,X.env.cells.lookup x=some c->c≠b)/\∀p∈X.pn++pins,p.1≠b)(keep:∀b o,b≠X.env.locals->b∉X.fs->b∉ch->s.heap.get? b=some o->H b=none->h'.get? b=some o)(slot:∀b o,b≠X.env.locals->b∈X.fs->b∉ch->s.heap.get? b=some o->H b=none->∃sl,h'.get? b=some {o with slots:=sl})(free:∀b o,b∉ch->s.heap.get? b=some o->H b=none->H' b=none)(there:∀b o,b∉ch->s.heap.get? b=some o->∃o',h'.get? b=some o')(wt:∀b xs,H b=some (.tup xs)->H' b=some (.tup xs))(tY:∀b o u,H b=some (.Cq o u)->H' b=some (.Cq o u))(wu:∀b ps,H b=some (.OC ps)->∃more,H' b=some (.OC (ps++more)))(ns:∀m,s.heap.Ns X.env.locals m->h'.Ns X.env.locals m)(cm:kD X.prog X.w H' h')(hg:AllBare g') :
  Inv X pins σ H' {s with heap:=h',gens:=g',drawn:=d',toks:=t'}:=by
 have neL:∀b o,X.s₀.heap.get? b=some o->b≠X.env.locals:=λb o e=>jK (sI (e_ e) I.ok.above);have XT:∀b o,X.s₀.heap.get? b=some o->b∉X.ex->b∉ch:=λb o e hx hb=>by
  rcases (IZ b hb).1 with z|z
  exact hx z;exact absurd (sI (e_ e) z) (Eb _)
 have cellK:∀x c,X.env.cells.lookup x=some c->∀v,s.heap.IsCell c v->h'.IsCell c v:=λx c e v ⟨o,ho,hd⟩=>by have Ew:c∉ch:=λz=>(IZ c z).2.2.1 x c e rfl;by_cases hc:c∈X.fs;obtain⟨sl,q⟩:=slot c o (I.Jp x c e) hc Ew ho (I.gF x c e);exact⟨_,q,hd⟩;exact⟨o,keep c o (I.Jp x c e) hc Ew ho (I.gF x c e),hd⟩
 refine⟨I.ok,I.os,hg,⟨λb o e n hb hx=>?_,λb o e n hb hx=>?_,λb o e n hx=>?_,λb o e hx=>?_,λb xs e=>wt b xs (I.base.wt b xs e),λb o xs e=>tY b o xs (I.base.tY b o xs e),λb ps e=>?_⟩,?_,λx c e=>?_,?_,λx c e=>?_,λp hp=>?_,cm,I.len⟩;exact keep b o (neL b o e) hb (XT b o e hx) (I.base.keep b o e n hb hx) (I.base.free b o e n hx);obtain⟨sl,e1⟩:=I.base.slot b o e n hb hx;obtain⟨sl',e2⟩:=slot b _ (neL b o e) hb (XT b o e hx) e1 (I.base.free b o e n hx);exact⟨sl',e2⟩;obtain⟨o',e1⟩:=I.base.there b o e hx;exact free b o' (XT b o e hx) e1 (I.base.free b o e n hx);obtain⟨o',e1⟩:=I.base.there b o e hx;exact there b o' (XT b o e hx) e1;obtain⟨m1,e1⟩:=I.base.wu b ps e;obtain⟨m2,e2⟩:=wu b _ e1;exact⟨m1++m2,by rw[e2,Array.append_assoc]⟩;obtain⟨m,hn,hl⟩:=I.loc;refine⟨m,ns m hn,λi x v e1 e2 e3=>?_⟩;obtain⟨u,r,l⟩:=hl i x v e1 e2 e3;refine⟨u,r,?_⟩;obtain l|⟨k,c,e,z⟩:=l
 exact .inl l;exact .inr ⟨k,c,e,cellK x c e _ z⟩;obtain⟨v,z⟩:=I.cell x c e;exact⟨v,cellK x c e v z⟩;obtain⟨m,⟨o,_,_,ho,_⟩,_⟩:=I.loc;exact free _ o (λz=>(IZ _ z).2.1 rfl) ho I.free;obtain⟨v,o,ho,hd⟩:=I.cell x c e;exact free c o (λz=>(IZ c z).2.2.1 x c e rfl) ho (I.gF x c e);obtain⟨e,n,ne,nf,d⟩:=I.pin p hp;have Ew:p.1∉ch:=λz=>(IZ p.1 z).2.2.2 p hp rfl;exact⟨keep p.1 p.2 ne nf Ew e n,free p.1 p.2 Ew e n,ne,nf,d⟩
theorem Inv.un(I:Inv X pins σ H s)(u:Un X.fs [] H H' s.heap h')(cm:kD X.prog X.w H' h'):Inv X pins σ H' {s with heap:=h',toks:=t'}:=by
 obtain⟨m,⟨o,es,ep,ho,r⟩,_⟩:=id I.loc;obtain⟨sl,hL⟩:=u.any ho I.free (by simp);exact I.step (g':=s.gens) (d':=s.drawn) (ch:=[]) (λ_ z=>nomatch z) (λb o _ hb _ e n=>u.keep b o e n hb (by simp)) (λb o _ hb _ e n=>u.slot b o e n hb (by simp)) (λb o _ e n=>u.free b o e n (by simp)) (λb o _ e=>u.there b o e (by simp)) u.wt u.tY u.wu (λm' hm=>by obtain⟨o',Y2,Y3,pe,r'⟩:=hm;rw[ho] at pe;cases pe;exact⟨_,Y2,Y3,hL,r'⟩) cm I.bare
theorem Inv.call{g':Array GenState}{d':Drawn}{ch:qah}(I:Inv X pins σ H s)(u:Un (Ec X.stack) ch H H' s.heap h')(cm:kD X.prog X.w H' h')(hg:AllBare g')(IZ:∀b∈ch,(b∈X.ex\/X.s₀.heap.objs.size<=b)/\b≠X.env.locals/\(∀x c,X.env.cells.lookup x=some c->c≠b)/\∀p∈X.pn++pins,p.1≠b) :
  Inv X pins σ H' {s with heap:=h',gens:=g',drawn:=d',toks:=t'}:=by
 obtain⟨m,⟨o,es,ep,ho,r⟩,_⟩:=id I.loc;obtain⟨sl,hL⟩:=u.any ho I.free λz=>(IZ _ z).2.1 rfl;exact I.step (ch:=ch) IZ (λb o hL hb hc e n=>u.keep b o e n (λz=>(c7.mp (I.yZ b z)).elim hL hb) hc) (λb o _ _ hc e n=>u.any e n hc) (λb o hc e n=>u.free b o e n hc) (λb o hc e=>u.there b o e hc) u.wt u.tY u.wu (λm' hm=>by obtain⟨o',Y2,Y3,pe,r'⟩:=hm;rw[ho] at pe;cases pe;exact⟨_,Y2,Y3,hL,r'⟩) cm hg
theorem Inv.turned(I:Inv X pins σ H s)(k:∀b o,b≠it->s.heap.get? b=some o->h'.get? b=some o)(hn:H it=none)(hL:it≠X.env.locals)(h1:it∈X.ex\/X.s₀.heap.objs.size<=it)(h2:∀x c,X.env.cells.lookup x=some c->c≠it)(h3:∀p∈X.pn++pins,p.1≠it):Inv X pins σ H {s with heap:=h',toks:=t'}:=by
 have nit:∀b u,H b=some u->b≠it:=λb u e z=>by rw[z,hn] at e;cases e
 refine I.step (g':=s.gens) (d':=s.drawn) (ch:=[it]) (λb hb=>?_) (λb o _ _ hc e _=>k b o (λz=>hc (by simp[z])) e) (λb o _ _ hc e _=>⟨o.slots,k b o (λz=>hc (by simp[z])) e⟩) (λ_ _ _ _ n=>n)
  (λb o hc e=>⟨o,k b o (λz=>hc (by simp[z])) e⟩) (λ_ _ e=>e) (λ_ _ _ e=>e) (λb ps e=>⟨#[],by rw[e];simp⟩) (λm hm=>?_) (λb u e=>?_) I.bare
 have e:b=it:=by simpa using hb
 subst e;exact⟨h1,hL,h2,h3⟩;obtain⟨o,es,ep,ho,r⟩:=hm;exact⟨o,es,ep,k _ o (Ne.symm hL) ho,r⟩;refine (I.cm b u e).yX (λc v hc q=>k c v ?_ q) (λ_ q=>q) λ_ _ q=>q;obtain z|z:=hc
 rw[z];exact nit b u e;exact nit c _ z
theorem Inv.tok(I:Inv X pins σ H s)(t:Nat):Inv X pins σ H {s with toks:=t}:=I.un (h':=s.heap) (t':=t) Un.refl I.cm
theorem Inv.kept(I:Inv X pins σ H s)(k:∀b u,s.heap.get? b=some u->h'.get? b=some u):Inv X pins σ H {s with heap:=h',toks:=t'}:=I.un (Un.kept k) (I.cm.kept k)
theorem Inv.laid{o:HO}(I:Inv X pins σ H s)(k:∀b u,s.heap.get? b=some u->h'.get? b=some u)(hp:s.heap.objs.size<=a)(new:cw X.prog X.w (upd H a o) h' a o) :
 Inv X pins σ (upd H a o) {s with heap:=h',toks:=t'}:=I.un (Un.laid k hp (I.cm.fresh hp)) (I.cm.laid k hp new)
theorem Inv.write{x e:Addr}{o:HO}(I:Inv X pins σ H s)(mu:Tz (H x))(he:e=x\/H e=some (.own x))(k:∀b u,b≠e->s.heap.get? b=some u->h'.get? b=some u)(IY:∃u,h'.get? e=some u)(new:cw X.prog X.w (upd H x o) h' x o):Inv X pins σ (upd H x o) {s with heap:=h',toks:=t'}:=I.un (Un.write mu he k IY) (I.cm.write mu he k IY new)
theorem Inv.weak{σ':List (Option V)}(I:Inv X pins σ H s)(hl:σ'.length=σ.length)(w:∀(i:Nat) v,σ'[i]?=some (some v)->σ[i]?=some (some v)):Inv X pins σ' H s :=
 ⟨I.ok,I.os,I.bare,I.base,let ⟨m,hn,t_⟩:=I.loc;⟨m,hn,λi x v e1 e2 e3=>t_ i x v e1 (w i v e2) e3⟩,I.cell,I.free,I.gF,I.pin,I.cm,hl.trans I.len⟩
theorem Inv.A1{A2:qaa}(I:Inv X pins σ H s)(h:∀p∈A2,s.heap.get? p.1=some p.2/\H p.1=none/\p.1≠X.env.locals/\p.1∉X.fs/\∀v,p.2.data≠.cell v):Inv X A2 σ H s :=
 ⟨I.ok,I.os,I.bare,I.base,I.loc,I.cell,I.free,I.gF,λp hp=>(cU.mp hp).elim (λz=>I.pin p (cy _ z)) (h p),I.cm,I.len⟩
theorem wx{N:qai}(hN:N.Nodup)(a:N[i]?=some x)(b:N[j]?=some x):i=j:=by obtain⟨h1,e1⟩:=eB.mp a;obtain⟨h2,e2⟩:=eB.mp b;exact (List.getElem_inj hN).mp (e1.trans e2.symm)
theorem sM{M:Model}{E:qad}{v:V}{Q:Unit->Shared->Prop}(I:Inv X pins σ H s)(hN:X.N.Nodup)(hi:X.N[i]?=some x)(hx:Loc X.env.scope x)(r:RelV v u)(h:∀s',Inv X pins (σ.set i (some v)) H s'->(∃a,Heap.SameBut a s.heap s'.heap/\(a=X.env.locals\/X.env.cells.lookup x=some a))->Q () s')(hf:X.fn x=true\/X.env.scope.names.lookup x=some .local:=by first|exact .inl rfl|exact .inr rfl|assumption):wpAny M A (storeName X.env x u) Q E s:=by
 obtain⟨m,hn,hl⟩:=id I.loc;have Y4:(X.env.scope.kind==.class || (X.env.scope.kind==.module && X.env.locals != X.env.globals))=false:=by rw[I.ok.kind];rfl
 have hiσ:i<σ.length:=by rw[I.len];exact (eB.mp hi).1
 have Jp:=I.Jp;have tracked:∀{a:Addr}{h':Heap},(∃o,s.heap.get? a=some o/\H a=none)->Heap.SameBut a s.heap h'->kD X.prog X.w H h':=λ{a h'} ha hs b ob e=>by
  obtain⟨_,_,MJ⟩:=ha;refine (I.cm b ob e).yX (λc w' hc q=>(hs.2 c ?_).trans q) (λ_ q=>q) λ_ _ q=>q;rintro rfl;obtain rfl|hc:=hc
  rw[MJ] at e;cases e;rw[MJ] at hc;cases hc
 obtain hk|hk:=hx
 refine wpAny_storeName_local hk hn (λh' hn' hs=>?_) Y4;obtain⟨oL,_,_,hoL,_⟩:=id hn;refine h _ ⟨I.ok,I.os,I.bare,⟨λb o e n hb hx=>?_,λb o e n hb hx=>?_,I.base.free,λb o e hx=>?_,I.base.wt,I.base.tY,I.base.wu⟩,⟨_,hn',λj y v' e1 e2 e3=>?_⟩,λy c e=>?_,I.free,I.gF,λp hp=>?_,tracked ⟨oL,hoL,I.free⟩ hs,by simpa using I.len⟩ ⟨_,hs,.inl rfl⟩;exact (hs.2 b (jK (sI (e_ e) I.ok.above))).trans (I.base.keep b o e n hb hx);obtain⟨sl,e1⟩:=I.base.slot b o e n hb hx;exact⟨sl,(hs.2 b (jK (sI (e_ e) I.ok.above))).trans e1⟩;obtain⟨o',e1⟩:=I.base.there b o e hx;exact⟨o',(hs.2 b (jK (sI (e_ e) I.ok.above))).trans e1⟩;by_cases hj:j=i;subst hj;rw[hi] at e1;cases e1;rw[AY hiσ] at e2;cases e2;exact⟨u,r,.inl ⟨hk,by simp⟩⟩;rw[rC (Ne.symm hj)] at e2;obtain⟨u',r',q⟩:=hl j y v' e1 e2 e3;refine⟨u',r',?_⟩;obtain⟨k,e⟩|⟨k,c,e,z⟩:=q
 refine .inl ⟨k,?_⟩;have:y≠x:=λe=>hj (wx hN e1 (e▸hi));simp[this,e];exact .inr ⟨k,c,e,z.sameBut hs (Jp y c e)⟩;obtain⟨w',z⟩:=I.cell y c e;exact⟨w',z.sameBut hs (Jp y c e)⟩;obtain⟨e,n,ne,nf,d⟩:=I.pin p hp;exact⟨(hs.2 p.1 ne).trans e,n,ne,nf,d⟩;have Y5:X.fn x=true:=by
  obtain z|z:=hf
  exact z;rw[z] at hk;cases hk
 obtain⟨c,hc⟩:=I.ok.has x (.inl hk);obtain⟨w',z⟩:=I.cell x c hc;refine wpAny_storeName_cell I.ok.kind hk hc z (λh' rE hs=>?_);obtain⟨oc,hoc,Y6⟩:=id z;refine h {s with heap:=h'} ⟨I.ok,I.os,I.bare,⟨λb o e n hb hx=>?_,λb o e n hb hx=>?_,I.base.free,λb o e hx=>?_,I.base.wt,I.base.tY,I.base.wu⟩,⟨m,hn.sameBut hs (Ne.symm (Jp x c hc)),λj y v' e1 e2 e3=>?_⟩,λy c' e=>?_,I.free,I.gF,λp hp=>?_,tracked ⟨oc,hoc,I.gF x c hc⟩ hs,by simpa using I.len⟩ ⟨c,hs,.inr hc⟩;exact (hs.2 b (jK (sI (e_ e) (I.ok.OD x c Y5 hc)))).trans (I.base.keep b o e n hb hx);obtain⟨sl,e1⟩:=I.base.slot b o e n hb hx;exact⟨sl,(hs.2 b (jK (sI (e_ e) (I.ok.OD x c Y5 hc)))).trans e1⟩;obtain⟨o',e1⟩:=I.base.there b o e hx;exact⟨o',(hs.2 b (jK (sI (e_ e) (I.ok.OD x c Y5 hc)))).trans e1⟩;by_cases hj:j=i;subst hj;rw[hi] at e1;cases e1;rw[AY hiσ] at e2;cases e2;exact⟨u,r,.inr ⟨.inl hk,c,hc,rE⟩⟩;rw[rC (Ne.symm hj)] at e2;obtain⟨u',r',q⟩:=hl j y v' e1 e2 e3;refine⟨u',r',?_⟩;obtain q|⟨k,c',e,z'⟩:=q
 exact .inl q;refine .inr ⟨k,c',e,z'.sameBut hs ?_⟩;rintro rfl;exact hj (wx hN e1 (I.ok.inj _ _ _ e hc▸hi));by_cases hcc:c'=c;subst hcc;exact⟨_,rE⟩;obtain⟨w2,z2⟩:=I.cell y c' e;exact⟨w2,z2.sameBut hs hcc⟩;obtain⟨e,n,ne,nf,d⟩:=I.pin p hp;refine⟨(hs.2 p.1 ?_).trans e,n,ne,nf,d⟩;intro q;rw[q,hoc] at e;have q':oc=p.2:=Option.some.inj e;exact d w' (by rw[<- q'];exact Y6)
theorem wy{M:Model}{E:qad}{v:V}{Q:Unit->Shared->Prop}(I:Inv X pins σ H s)(hN:X.N.Nodup)(hi:X.N[i]?=some x)(hx:Loc X.env.scope x)(r:RelV v u)(h:∀s',Inv X pins (σ.set i (some v)) H s'->Q () s')(hf:X.fn x=true\/X.env.scope.names.lookup x=some .local:=by first|exact .inl rfl|exact .inr rfl|assumption):wpAny M A (storeName X.env x u) Q E s :=
 sM I hN hi hx r (λs' I' _=>h s' I') hf
theorem Inv.TF{ch:qah}(I:Inv X pins σ H s)(ho:s'.os=s.os)(u:Un (Ec X.stack) ch H H' s.heap s'.heap)(cm:kD X.prog X.w H' s'.heap)(hg:AllBare s'.gens)(IZ:∀b∈ch,(b∈X.ex\/X.s₀.heap.objs.size<=b)/\b≠X.env.locals/\(∀x c,X.env.cells.lookup x=some c->c≠b)/\∀p∈X.pn++pins,p.1≠b):Inv X pins σ H' s':=by obtain⟨h',g',d',t',o'⟩:=s';have e:o'=s.os:=ho;subst e;exact I.call (g':=g') (t':=t') (d':=d') u cm hg IZ
end
abbrev XK:=Value->qar->Hp->Prop
abbrev St:=List (Option V)
abbrev VK:=V->Hp->Prop
abbrev TE:=St->Hp->VK->Prop
abbrev TT:=St->Hp->(Bool->Hp->Prop)->Prop
abbrev TA:=St->Hp->(List V->Hp->Prop)->Prop
structure Ends where
 nx:St->Hp->Prop
 rt:VK
 bk:St->Hp->Prop:=λ_ _=>False
 ct:St->Hp->Prop:=λ_ _=>False
abbrev TS:=Ends->St->Hp->Prop
def EP(X:Cx)(pins:qaa)(σ:St)(Q:VK)(u:Value)(s':Shared):Prop:=∃v H',Inv X pins σ H' s'/\RelV v u/\Q v H'
def TP(X:Cx)(pins:qaa)(σ:St)(Q:Bool->Hp->Prop)(b:Bool)(s':Shared):Prop:=∃H',Inv X pins σ H' s'/\Q b H'
def AP(X:Cx)(pins:qaa)(σ:St)(Q:List V->Hp->Prop)(us:qag)(s':Shared):Prop:=∃vs H',Inv X pins σ H' s'/\Vals vs us/\Q vs H'
def SP(X:Cx)(pins:qaa)(D:Ends)(f:Flow)(s':Shared):Prop :=
 match f with
 |.next=>∃σ' H',Inv X pins σ' H' s'/\D.nx σ' H'
 |.brk=>∃σ' H',Inv X pins σ' H' s'/\D.bk σ' H'
 |.cont=>∃σ' H',Inv X pins σ' H' s'/\D.ct σ' H'
 |.ret u=>∃v σ' H',Inv X pins σ' H' s'/\RelV v u/\D.rt v H'
def PE(X:Cx)(e:Expr)(t:TE):Prop :=
 ∀(pins:qaa)(s:Shared)(σ:St)(H:Hp)(Q:VK),Inv X pins σ H s->t σ H Q->wpAny (model X.prog X.w) X.A (eval e X.env) (EP X pins σ Q) X.xe s
def PT(X:Cx)(e:Expr)(t:TT):Prop :=
 ∀(pins:qaa)(s:Shared)(σ:St)(H:Hp)(Q:Bool->Hp->Prop),Inv X pins σ H s->t σ H Q->wpAny (model X.prog X.w) X.A (isTrue e X.env (eval e X.env)) (TP X pins σ Q) X.xe s
def PW(X:Cx)(e:Expr)(t:TT):Prop :=
 ∀(whole:Sem Value)(pins:qaa)(s:Shared)(σ:St)(H:Hp)(Q:Bool->Hp->Prop),Inv X pins σ H s->t σ H Q->wpAny (model X.prog X.w) X.A (isTrue e X.env whole) (TP X pins σ Q) X.xe s
theorem PW.pt{X:Cx}{t:TT}(h:PW X e t):PT X e t:=h _
def PA(X:Cx)(es:qap)(t:TA):Prop :=
 ∀(pos:Pos)(pins:qaa)(s:Shared)(σ:St)(H:Hp)(Q:List V->Hp->Prop),Inv X pins σ H s->t σ H Q->wpAny (model X.prog X.w) X.A (spliced (backTo pos (starEach es X.env))) (AP X pins σ Q) X.xe s
def PS(X:Cx)(st:Stmt)(t:TS):Prop :=
 ∀(pins:qaa)(s:Shared)(σ:St)(H:Hp)(D:Ends),Inv X pins σ H s->t D σ H->wpAny (model X.prog X.w) X.A (exec st X.env) (SP X pins D) X.xe s
def gY(X:Cx)(st:qaq)(t:TS):Prop :=
 ∀(pins:qaa)(s:Shared)(σ:St)(H:Hp)(D:Ends),Inv X pins σ H s->t D σ H->wpAny (model X.prog X.w) X.A (execs st X.env) (SP X pins D) X.xe s
theorem b_{t:Sem α}{Q Q':α->Shared->Prop}{M:Model}{E:qad}(h:wpAny M A t Q E s)(hQ:∀a s,Q a s->Q' a s):wpAny M A t Q' E s:=wpAny_mono h hQ λ_ _ x=>x
section
variable{X:Cx}
theorem bin{a:Expr}{ta tb:TE}(ha:PE X a ta)(hb:PE X b tb){pins:qaa}{σ:St}{H:Hp}{R:V->V->Hp->Prop}(I:Inv X pins σ H s)(h:ta σ H λx H1=>tb σ H1 λy H2=>R x y H2){Q:α->Shared->Prop}{f:Value->Value->Sem α}(hf:∀v u s2 x y H2,Inv X pins σ H2 s2->RelV x v->RelV y u->R x y H2->wpAny (model X.prog X.w) X.A (f v u) Q X.xe s2) :
  wpAny (model X.prog X.w) X.A (eval a X.env) (λv s₁=>wpAny (model X.prog X.w) X.A (eval b X.env) (λu s₂=>wpAny (model X.prog X.w) X.A (f v u) Q X.xe s₂) X.xe s₁) X.xe s:=by
 refine b_ (ha pins s σ H _ I h) λv s1 ⟨x,H1,I1,r1,q1⟩=>?_;refine b_ (hb pins s1 σ H1 _ I1 q1) λu s2 ⟨y,H2,I2,r2,q2⟩=>?_;exact hf v u s2 x y H2 I2 r1 r2 q2
def TH(i:Nat):TE:=λσ H Q=>∃v,σ[i]?=some (some v)/\Q v H
def tC(v:V):TE:=λ_ H Q=>Q v H
theorem bV(hN:X.N[i]?=some x)(hv:j5 X.env.scope x)(hd:gC x:=by decide)(fA:tW x:=by decide):PE X (.Name x pos) (TH i):=by
 intro pins s σ H Q I h;obtain⟨v,e,h⟩:=h;obtain⟨m,hn,hl⟩:=I.loc;obtain⟨u,r,l⟩:=hl i x v hN e hv;have fin:EP X pins σ Q u s:=⟨v,H,I,r,h⟩;obtain⟨hk,hm⟩|⟨hk,c,hc,MK⟩:=l
 exact wpAny_Name (wpAny_loadName_local I.ok.kind hk hn hm fin) hd;obtain hk|hk:=hk
 exact wpAny_Name (wpAny_loadName_cell I.ok.kind hk hc MK fin) hd;exact wpAny_Name (wpAny_loadName_free I.ok.kind hk hc MK fin fA) hd
theorem Ex{i j pos}:PE X (.Constant (.int i) j pos) (tC (.int i)):=λ_ _ _ H _ I h=>wpAny_Constant_int ⟨.int i,H,I.tok _,⟨_,rfl⟩,h⟩
theorem TJ{b j pos}:PE X (.Constant (.bool b) j pos) (tC (.bl b)):=λ_ _ _ H _ I h=>Constant_bool ⟨.bl b,H,I,rfl,h⟩
theorem y0{j pos}:PE X (.Constant .none j pos) (tC .aO):=λ_ _ _ H _ I h=>Constant_none ⟨.aO,H,I,rfl,h⟩
theorem OE{x j pos}:PE X (.Constant (.str x) j pos) (tC (.str x)):=λ_ _ _ H _ I h=>Calls.Constant_str ⟨.str x,H,I.tok _,⟨_,rfl⟩,h⟩
def Gl(X:Cx)(x:Str):Prop:=X.env.kindOf x=some .globalImplicit
theorem ua{E:qad}{pins:qaa}{σ:St}{H:Hp}{Q:qad}(I:Inv X pins σ H s)(hg:Gl X x)(hm:X.mg x=some u)(h:Q u s)(hd:gC x:=by decide):wpAny (model X.prog X.w) X.A (eval (.Name x pos) X.env) Q E s :=
 Calls.Name_function_global I.ok.kind hg (Calls.loadGlobal_global (by rw[I.ok.glob];exact I.mod.glob.keeps I.bk) hm h) hd
theorem j6{E:qad}{pins:qaa}{σ:St}{H:Hp}{Q:qad}(I:Inv X pins σ H s)(hg:Gl X x)(hm:X.mg x=none)(hv:bootBuiltins x=some u)(h:Q u s)(hn:x≠"__name__":=by decide)(hd:gC x:=by decide):wpAny (model X.prog X.w) X.A (eval (.Name x pos) X.env) Q E s:=by obtain⟨mb,h1,h2⟩:=I.mod.blt;exact Calls.Name_function_global I.ok.kind hg (Calls.loadGlobal_builtin (by rw[I.ok.glob];exact I.mod.glob.keeps I.bk) hm (by rw[I.ok.blt];exact h1.keeps I.bk) ((h2 x hn).trans hv) h) hd
theorem ub{v:V}(hg:Gl X x)(hm:X.mg x=some u)(r:RelV v u)(hd:gC x:=by decide):PE X (.Name x pos) (tC v) :=
 λ_ _ _ H _ I h=>ua I hg hm ⟨v,H,I,r,h⟩ hd
theorem Jq{v:V}(hg:Gl X x)(hm:X.mg x=none)(hv:bootBuiltins x=some u)(r:RelV v u)(hn:x≠"__name__":=by decide)(hd:gC x:=by decide):PE X (.Name x pos) (tC v) :=
 λ_ _ _ H _ I h=>j6 I hg hm hv ⟨v,H,I,r,h⟩ hn hd
variable{a:Expr}{ta tb:TE}
def PC(X:Cx)(op:CmpOp)(a b:Expr)(t:TE):Prop :=
 ∀(pins:qaa)(s:Shared)(σ:St)(H:Hp)(Q:VK),Inv X pins σ H s->t σ H Q ->
  wpAny (model X.prog X.w) X.A (eval a X.env) (λv s₁=>wpAny (model X.prog X.w) X.A (eval b X.env) (λu s₂=>wpAny (model X.prog X.w) X.A (compareOp op v u) (EP X pins σ Q) X.xe s₂) X.xe s₁) X.xe s
theorem Ey(b:Expr){op:CmpOp}(h:op≠.In)(h2:op≠.NotIn):behindInMarks op b=false:=by
 have e1:(op==CmpOp.In)=false:=by cases op<;>first|rfl|exact absurd rfl h
 have e2:(op==CmpOp.NotIn)=false:=by cases op<;>first|rfl|exact absurd rfl h2
 cases b<;>simp[behindInMarks,e1,e2]
def tB(t:TE):TT:=λσ H Q=>t σ H λx H1=>∃c,x=.bl c/\Q c H1
theorem Y7{op:CmpOp}{t:TE}(h:PC X op a b t)(h1:behindInMarks op b=false:=by first|exact Ey _ (by decide) (by decide)|rfl):PT X (.Compare a [op] [b] pos) (tB t):=by intro pins s σ H Q I hw;refine wpAny_isTrue_Compare1 (b_ (h pins s σ H _ I hw) λv s1 h1=>b_ h1 λu s2 h2=>b_ h2 λc s3 ⟨x,H1,I1,r1,q1⟩=>?_) h1;obtain⟨d,rfl,q⟩:=q1;cases r1;exact wpAny_truthy_bool ⟨H1,I1,q⟩
theorem Ez{t:TE}(h:PE X e t)(he:∀whole,isTrue e X.env whole=(do let v <- whole;standAt e.pos;holding [v] (truthy v)):=by intro _;rfl):PT X e (tB t):=by intro pins s σ H Q I hw;refine isTrue_plain (b_ (h pins s σ H _ I hw) λv s1 ⟨x,H1,I1,r1,q1⟩=>?_) (he _);obtain⟨d,rfl,q⟩:=q1;cases r1;exact wpAny_truthy_bool ⟨H1,I1,q⟩
variable{tA TK:TT}{rest:qap}
def Y8(t u:TT):TT:=λσ H Q=>t σ H λc H1=>if c=true then u σ H1 Q else Q false H1
def tOr(t u:TT):TT:=λσ H Q=>t σ H λc H1=>if c=true then Q true H1 else u σ H1 Q
def Y9(t:TT):TT:=λσ H Q=>t σ H λc H1=>Q (!c) H1
theorem pw_and1(ha:PT X a tA):PW X (.BoolOp .And [a] pos) tA:=by
 intro wh pins s σ H Q I h;refine isTrue_and (b_ (ha pins s σ H Q I h) λc s1 e=>?_);cases c with
 |true=>exact isTrue_and_nil e
 |false=>exact e
theorem pw_or1(ha:PT X a tA):PW X (.BoolOp .Or [a] pos) tA:=by
 intro wh pins s σ H Q I h;refine isTrue_or (b_ (ha pins s σ H Q I h) λc s1 e=>?_);cases c with
 |false=>exact isTrue_or_nil e
 |true=>exact e
theorem pw_and(ha:PT X a tA)(hb:PW X (.BoolOp .And (b::rest) pos) TK):PW X (.BoolOp .And (a::b::rest) pos) (Y8 tA TK):=by
 intro wh pins s σ H Q I h;refine isTrue_and (b_ (ha pins s σ H _ I h) λc s1 ⟨H1,I1,q1⟩=>?_);cases c with
 |true=>exact hb wh pins s1 σ H1 Q I1 q1
 |false=>exact⟨H1,I1,q1⟩
theorem pw_or(ha:PT X a tA)(hb:PW X (.BoolOp .Or (b::rest) pos) TK):PW X (.BoolOp .Or (a::b::rest) pos) (tOr tA TK):=by
 intro wh pins s σ H Q I h;refine isTrue_or (b_ (ha pins s σ H _ I h) λc s1 ⟨H1,I1,q1⟩=>?_);cases c with
 |true=>exact⟨H1,I1,q1⟩
 |false=>exact hb wh pins s1 σ H1 Q I1 q1
theorem EA(ha:PT X a tA):PT X (.UnaryOp .Not a pos) (Y9 tA):=by intro pins s σ H Q I h;exact isTrue_not (ha pins s σ H (λc H1=>Q (!c) H1) I h)
def TL(ta tb:TE):TE:=λσ H Q=>ta σ H λx H1=>∃c,x=.bl c/\if c=true then tb σ H1 Q else Q (.bl false) H1
def TM(ta:TE):TE:=λσ H Q=>ta σ H λx H1=>∃c,x=.bl c/\Q (.bl (!c)) H1
theorem OF{op}{t:TE}(h:PE X a t):PE X (.BoolOp op [a] pos) t:=λpins s σ H Q I hw=>BoolOp_one (h pins s σ H Q I hw)
theorem OG(ha:PE X a ta)(hb:PE X (.BoolOp .And (b::rest) pos) tb):PE X (.BoolOp .And (a::b::rest) pos) (TL ta tb):=by
 intro pins s σ H Q I h;refine BoolOp_and (b_ (ha pins s σ H _ I h) λv s1 ⟨x,H1,I1,r1,q1⟩=>?_);obtain⟨c,rfl,q1⟩:=q1;cases r1;refine wpAny_truthy_bool ?_;cases c with
 |true=>exact hb pins s1 σ H1 Q I1 q1
 |false=>exact⟨.bl false,H1,I1,rfl,q1⟩
theorem OH(ha:PE X a ta):PE X (.UnaryOp .Not a pos) (TM ta):=by intro pins s σ H Q I h;refine UnaryOp_ (b_ (ha pins s σ H _ I h) λv s1 ⟨x,H1,I1,r1,q1⟩=>?_);obtain⟨c,rfl,q1⟩:=q1;cases r1;exact not_of (wpAny_truthy_bool ⟨.bl (!c),H1,I1,rfl,q1⟩)
def tIf(t:TT)(ta tb:TE):TE:=λσ H Q=>t σ H λc H1=>if c=true then ta σ H1 Q else tb σ H1 Q
theorem EB(hc:PT X c tA)(ha:PE X a ta)(hb:PE X b tb):PE X (.IfExp c a b pos) (tIf tA ta tb):=by
 intro pins s σ H Q I h;refine wpAny_IfExp (b_ (hc pins s σ H _ I h) λd s1 ⟨H1,I1,q1⟩=>?_);cases d with
 |true=>exact ha pins s1 σ H1 Q I1 q1
 |false=>exact hb pins s1 σ H1 Q I1 q1
end
def fW(K:qaf)(H:Hp)(a:Addr)(xs:List V):Prop :=
 Rd H a (.lst xs) \/
  ∃(o:Obj)(aN:Array Value)(n:Nat),K.lookup a=some o/\o.cls=.type "list"/\o.dict=none/\o.data=.seq aN n/\aN.size<=sizeLine/\Vals xs aN.toList
def dU(K:qaf)(H:Hp)(a:Addr)(xs:List V):Prop :=
 Rd H a (.tup xs) \/
  ∃(o:Obj)(aN:Array Value)(n:Nat),K.lookup a=some o/\o.cls=.type "tuple"/\o.data=.seq aN n/\aN.size<=sizeLine/\Vals xs aN.toList
noncomputable def Y_:Value->Option V
 |.none=>some .aO
 |.bool b=>some (.bl b)
 |.int i _=>some (.int i)
 |.str x _=>some (.str x)
 |.bytes b _=>some (.YU b)
 |.float b _=>some (.YV b)
 |.ref a=>some (.ref a)
 |.type n=>some (.ty n)
 |_=>none
theorem RelV.abs{x:V}(r:RelV x u):Y_ u=some x:=by
 cases x with
 |aO=>cases r;rfl
 |bl _=>cases r;rfl
 |ref _=>cases r;rfl
 |ty _=>cases r;rfl
 |_=>obtain⟨t,rfl⟩:=r;rfl
theorem RelV.inj{x y:V}(r:RelV x u)(q:RelV y u):x=y:=Option.some.inj (r.abs.symm.trans q.abs)
theorem Vals.inj:∀{xs ys:List V}{us:qag},Vals xs us->Vals ys us->xs=ys
 |_,_,_,.nil,.nil=>rfl
 |_,_,_,.cons r t,.cons r' t'=>by rw[r.inj r',Vals.inj t t']
section
variable{X:Cx}{pins:qaa}{σ:St}{H:Hp}{xs ys:List V}
theorem fW.of{K:qaf}(h:H a=some (.lst xs)):fW K H a xs:=.inl (.inl h)
theorem dU.of{K:qaf}(h:H a=some (.tup xs)):dU K H a xs:=.inl (.inl h)
theorem Inv.list(I:Inv X pins σ H s)(h:fW X.K H a xs):∃aN:qag,Vals xs aN/\PlainL s.heap a aN.toArray/\xs.length<=sizeLine:=by
 obtain h|⟨o,aN,n,hk,hc,hd,hs,hz,r⟩:=h
 obtain⟨z,aN,n,r,e⟩:=h.ok I.cm;exact⟨aN,r,⟨_,n,e,rfl,rfl,rfl⟩,z⟩;refine⟨aN.toList,r,⟨o,n,I.rD a o hk,hc,hd,by simpa using hs⟩,?_⟩;have e:=r.length;simp only[SD] at e;omega
theorem Inv.tuple(I:Inv X pins σ H s)(h:dU X.K H a xs):∃aN:qag,Vals xs aN/\IsTup s.heap a aN.toArray/\xs.length<=sizeLine:=by
 obtain h|⟨o,aN,n,hk,hc,hs,hz,r⟩:=h
 obtain⟨z,aN,r,p⟩:=h.ok I.cm;exact⟨aN,r,p,z⟩;refine⟨aN.toList,r,⟨o,I.rD a o hk,hc,n,by simpa using hs⟩,?_⟩;have e:=r.length;simp only[SD] at e;omega
theorem Inv.kK(I:Inv X pins σ H s)(h:fW X.K H a xs)(h':fW X.K H a ys):xs=ys:=by
 obtain⟨aN,r,⟨o,n,e,_,_,d⟩,_⟩:=I.list h;obtain⟨its',r',⟨o',n',e',_,_,d'⟩,_⟩:=I.list h';rw[e] at e';cases e';rw[d] at d';injection d' with d1 _
 have:aN=its':=by simpa using congrArg Array.toList d1
 subst this;exact r.inj r'
theorem Inv.jf(I:Inv X pins σ H s)(h:dU X.K H a xs)(h':dU X.K H a ys):xs=ys:=by
 obtain⟨aN,r,⟨o,e,_,n,d⟩,_⟩:=I.tuple h;obtain⟨its',r',⟨o',e',_,n',d'⟩,_⟩:=I.tuple h';rw[e] at e';cases e';rw[d] at d';injection d' with d1 _
 have:aN=its':=by simpa using congrArg Array.toList d1
 subst this;exact r.inj r'
end
noncomputable abbrev Cx.rF(X:Cx)(E:qad):Cx:={X with xe:=E}
noncomputable abbrev Cx.pf(X:Cx):Cx:=X.rF λ_ _=>False
theorem Cx.Ok.rF{X:Cx}(ok:X.Ok)(E:qad):(X.rF E).Ok :=
 ⟨ok.mod,ok.kind,ok.glob,ok.blt,ok.above,ok.inj,ok.has,ok.OD,ok.hd,ok.frames,ok.SI,ok.XS,ok.bs,ok.Ed,ok.yY,ok.Cu,ok.kJ,ok.Jo⟩
theorem Cx.Ok.mv{X:Cx}{E:qad}(ok:(X.rF E).Ok):X.Ok :=
 ⟨ok.mod,ok.kind,ok.glob,ok.blt,ok.above,ok.inj,ok.has,ok.OD,ok.hd,ok.frames,ok.SI,ok.XS,ok.bs,ok.Ed,ok.yY,ok.Cu,ok.kJ,ok.Jo⟩
section
variable{X:Cx}{pins:qaa}{σ:St}{H:Hp}{E:qad}
theorem Inv.rF(I:Inv X pins σ H s)(E:qad):Inv (X.rF E) pins σ H s:=⟨I.ok.rF E,I.os,I.bare,I.base,I.loc,I.cell,I.free,I.gF,I.pin,I.cm,I.len⟩
theorem Inv.mv(I:Inv (X.rF E) pins σ H s):Inv X pins σ H s:=⟨I.ok.mv,I.os,I.bare,I.base,I.loc,I.cell,I.free,I.gF,I.pin,I.cm,I.len⟩
theorem SP.mv{D:Ends}{f:Flow}(h:SP (X.rF E) pins D f s'):SP X pins D f s':=by
 cases f with
 |ret u=>obtain⟨v,σ',H',I,r,q⟩:=h;exact⟨v,σ',H',I.mv,r,q⟩
 |_=>obtain⟨σ',H',I,q⟩:=h;exact⟨σ',H',I.mv,q⟩
theorem gY.pf{st:qaq}{t:TS}(h:gY X.pf st t):gY X st t:=λpins s σ H D I hw=>
 wpAny_mono (h pins s σ H D (I.rF _) hw) (λ_ _ q=>q.mv) λ_ _ z=>False.elim z
end
section
variable{X:Cx}{st:Stmt}{rest:qaq}{t u:TS}{te:TE}
def TN:TS:=λD σ H=>D.nx σ H
def Y'(t u:TS):TS:=λD σ H=>t {D with nx:=u D} σ H
theorem Jr:gY X [] TN:=λ_ _ σ H _ I h=>wpAny_execs_nil ⟨σ,H,I,h⟩
theorem cA(h1:PS X st t)(h2:gY X rest u):gY X (st::rest) (Y' t u):=by
 intro pins s σ H D I h;refine wpAny_execs_cons (b_ (h1 pins s σ H {D with nx:=u D} I h) λf s1 q=>?_);cases f with
 |next=>obtain⟨σ',H',I',q⟩:=q;exact h2 pins s1 σ' H' D I' q
 |ret v=>exact q
 |_=>exact q
theorem jg(h1:PS X st t):gY X [st] t:=by
 intro pins s σ H D I h;refine wpAny_execs_cons (b_ (h1 pins s σ H D I h) λf s1 q=>?_);cases f with
 |next=>exact wpAny_execs_nil q
 |ret v=>exact q
 |_=>exact q
theorem Inv.quiet{pins:qaa}{σ:St}{H:Hp}(I:Inv X pins σ H s):interactive X.env=false:=by simp[interactive,I.ok.kind]
def TQ(te:TE):TS:=λD σ H=>te σ H λ_ H1=>D.nx σ H1
theorem kM(he:PE X e te)(hs:swapsWith e none pos.line X.env=pure false:=by rfl):PS X (.Expr e pos) (TQ te):=by intro pins s σ H D I h;exact wpAny_Expr_any (b_ (he pins s σ H _ I h) λv s1 ⟨x,H1,I1,r1,q1⟩=>⟨σ,H1,I1,q1⟩) I.quiet hs
def Za(te:TE):TS:=λD σ H=>te σ H D.rt
theorem uc(he:PE X e te):PS X (.Return (some e) pos) (Za te):=by intro pins s σ H D I h;exact wpAny_Return_some (b_ (he pins s σ H _ I h) λv s1 ⟨x,H1,I1,r1,q1⟩=>⟨x,σ,H1,I1,r1,q1⟩)
def Zb(c:TT)(t u:TS):TS:=λD σ H=>c σ H λb H1=>if b=true then t D σ H1 else u D σ H1
theorem EC{a b:qaq}{tc:TT}(hc:PT X c tc)(ha:gY X a t)(hb:gY X b u):PS X (.If c a b pos) (Zb tc t u):=by
 intro pins s σ H D I h;refine wpAny_If (b_ (hc pins s σ H _ I h) λd s1 ⟨H1,I1,q1⟩=>?_);cases d with
 |true=>exact ha pins s1 σ H1 D I1 q1
 |false=>exact hb pins s1 σ H1 D I1 q1
end
abbrev TG:=V->St->Hp->(St->Hp->Prop)->Prop
abbrev ED:=List V->St->Hp->(St->Hp->Prop)->Prop
def PG(X:Cx)(target:Expr)(t:TG):Prop :=
 ∀(pins:qaa)(s:Shared)(σ:St)(H:Hp)(v:V)(u:Value)(Q:St->Hp->Prop),Inv X pins σ H s->RelV v u->t v σ H Q ->
  wpAny (model X.prog X.w) X.A (assign target X.env u) (λ_ s'=>∃σ' H',Inv X pins σ' H' s'/\Q σ' H') X.xe s
def Ee(X:Cx)(ts:qap)(t:ED):Prop :=
 ∀(pins:qaa)(s:Shared)(σ:St)(H:Hp)(vs:List V)(us:qag)(Q:St->Hp->Prop),Inv X pins σ H s->Vals vs us->t vs σ H Q ->
  wpAny (model X.prog X.w) X.A (assignInOrder ((assignEach ts X.env).map (·.2)) us) (λ_ s'=>∃σ' H',Inv X pins σ' H' s'/\Q σ' H') X.xe s
abbrev OI:=V->V->V->Hp->(Hp->Prop)->Prop
def TR(X:Cx)(t:OI):Prop :=
 ∀(pins:qaa)(s:Shared)(σ:St)(H:Hp)(o i v:V)(ov iv u:Value)(Q:Hp->Prop),Inv X pins σ H s->RelV o ov->RelV i iv->RelV v u->t o i v H Q ->
  wpAny (model X.prog X.w) X.A (setItem ov iv u) (λ_ s'=>∃H',Inv X pins σ H' s'/\Q H') X.xe s
section
variable{X:Cx}
def jM(i:Nat):TG:=λv σ H Q=>Q (σ.set i (some v)) H
theorem Js(hN:X.N.Nodup)(hi:X.N[i]?=some x)(hx:Loc X.env.scope x)(hf:X.fn x=true\/X.env.scope.names.lookup x=some .local:=by first|exact .inl rfl|exact .inr rfl|assumption):PG X (.Name x pos) (jM i):=by intro pins s σ H v u Q I r h;exact wpAny_assign_Name (wy I hN hi hx r (λs' I'=>⟨_,H,I',h⟩) hf)
def Zd:ED:=λvs σ H Q=>vs=[]/\Q σ H
def TU(t:TG)(u:ED):ED:=λvs σ H Q=>∃v r,vs=v::r/\t v σ H λσ' H'=>u r σ' H' Q
theorem Jt:Ee X [] Zd:=by intro pins s σ H vs us Q I r h;obtain⟨e,h⟩:=h;subst e;cases r;exact assignInOrder_nil ⟨σ,H,I,h⟩
theorem EE{es:qap}{t:TG}{u:ED}(h1:PG X e t)(h2:Ee X es u)(hs:(assignEach (e::es) X.env).map (·.2)=assign e X.env::(assignEach es X.env).map (·.2):=by rfl):Ee X (e::es) (TU t u):=by
 intro pins s σ H vs us Q I r h;obtain⟨v,vr,e1,h⟩:=h;subst e1;cases r with
 |cons r rr=>rw[hs];refine assignInOrder_cons (b_ (h1 pins s σ H _ _ _ I r h) λ_ s1 ⟨σ1,H1,I1,q1⟩=>?_);exact h2 pins s1 σ1 H1 _ _ Q I1 rr q1
def Ze(K:qaf)(n:Nat)(t:ED):TG:=λv σ H Q=>∃a xs,v=.ref a/\dU K H a xs/\xs.length=n/\t xs σ H Q
theorem OJ{es:qap}{k:Nat}{t:ED}(hc:X.calm=true)(h:Ee X es t)(hn:(assignEach es X.env).length=n:=by rfl)(Cv:(assignEach es X.env).findIdx? (·.1)=none:=by rfl):PG X (.Tuple es k pos) (Ze X.K n t):=by intro pins s σ H v u Q I r hw;obtain⟨a,xs,e1,hq,hl,hw⟩:=hw;subst e1;cases r;obtain⟨aN,rv,ht,hz⟩:=I.tuple hq;refine assign_Tuple_tuple (I.ok.hd hc) ht (by simp[hn,<- hl,rv.length]) Cv λh' hx=>?_;have I1:Inv X pins σ H {s with heap:=h'}:=I.kept (t':=s.toks) λb o e=>hx b o (jK (e_ e)) e;exact h pins _ σ H xs _ Q I1 (by simpa using rv) hw
def Zf(to ti:TE)(t:OI):TG:=λv σ H Q=>to σ H λo H1=>ti σ H1 λi H2=>t o i v H2 λH3=>Q σ H3
theorem OK{i:Expr}{to ti:TE}{t:OI}(ho:PE X o to)(hi:PE X i ti)(hs:TR X t)(ha:∀v,assign (.Subscript o i pos) X.env v=(do
    let ov <- holding [v] (eval o X.env)
    let iv <- holding [v,ov] (eval i X.env)
    standAt pos
    holding [v,ov,iv] (setItem ov iv v)
    release [v,ov,iv] []):=by intro _;rfl):PG X (.Subscript o i pos) (Zf to ti t):=by
 intro pins s σ H v u Q I r h;rw[ha];refine wpAny_bind (wpAny_holding (b_ (ho pins s σ H _ I h) λov s1 ⟨x,H1,I1,r1,q1⟩=>?_));refine wpAny_bind (wpAny_holding (b_ (hi pins s1 σ H1 _ I1 q1) λiv s2 ⟨y,H2,I2,r2,q2⟩=>?_));refine wpAny_bind (wpAny_standAt (wpAny_bind (wpAny_holding (b_ (hs pins s2 σ H2 x y v ov iv u _ I2 r1 r2 r q2) λ_ s3 ⟨H3,I3,q3⟩=>?_))));exact wpAny_release ⟨σ,H3,I3,q3⟩
def Ju(te:TE)(g:TG):TS:=λD σ H=>te σ H λx H1=>g x σ H1 D.nx
theorem EF{tg:Expr}{te:TE}{g:TG}(he:PE X e te)(hg:PG X tg g)(hs:swapsWithSole [tg] e pos.line X.env=pure false:=by rfl)(hw:swappedStores [tg] e X.env=pure none:=by rfl)(h1:(assignEach [tg] X.env).map (·.2)=[assign tg X.env]:=by rfl):PS X (.Assign [tg] e pos) (Ju te g):=by intro pins s σ H D I h;refine wpAny_Assign_stores (b_ (he pins s σ H _ I h) λv s1 ⟨x,H1,I1,r1,q1⟩=>?_) hs hw;rw[h1];exact b_ (hg pins s1 σ H1 x v _ I1 r1 q1) λ_ s2 q=>q
theorem ud{te:TE}{pos':Pos}(hN:X.N.Nodup)(hi:X.N[i]?=some x)(hx:Loc X.env.scope x)(he:PE X e te)(hs:swapsWith e (some (.Name x pos')) pos.line X.env=pure false:=by rfl)(hf:X.fn x=true\/X.env.scope.names.lookup x=some .local:=by first|exact .inl rfl|exact .inr rfl|assumption) :
  PS X (.Assign [.Name x pos'] e pos) (Ju te (jM i)):=by
 intro pins s σ H D I h;refine wpAny_Assign_Name (b_ (he pins s σ H _ I h) λv s1 ⟨y,H1,I1,r1,q1⟩=>?_) hs;exact wy I1 hN hi hx r1 (λs2 I2=>⟨_,H1,I2,q1⟩) hf
end
section
variable{X:Cx}
def OL(c:TT)(tb:TS):TS:=λD σ H=>∃W:Nat->St->Hp->Prop,(∃m,W m σ H)/\∀m σ H,W m σ H ->
 c σ H λb H1=>if b=true then ∃N:St->Hp->Prop,(∀σ' H',N σ' H'->∃m',m'<m/\W m' σ' H')/\tb {D with nx:=N,ct:=N,bk:=D.nx} σ H1 else D.nx σ H1
theorem wz{body:qaq}{tc:TT}{tb:TS}(hp:PassesOwn (model X.prog X.w) X.A X.env X.xe)(hc:PT X c tc)(hb:gY X body tb):PS X (.While c body [] pos) (OL tc tb):=by
 intro pins s σ H D I h;obtain⟨W,⟨m0,w0⟩,turn⟩:=h;refine wpAny_While (codeAny_whileLoop (λn s'=>∃σ' H',Inv X pins σ' H' s'/\W n σ' H') ?_ m0 ⟨σ,H,I,w0⟩);rintro n s1 ⟨σ1,H1,I1,w1⟩;refine wpAny_passesOwn hp (b_ (hc pins s1 σ1 H1 _ I1 (turn n σ1 H1 w1)) λb s2 ⟨H2,I2,q2⟩=>?_);cases b with
 |true=>
  obtain⟨N,hN,q2⟩:=q2;rw[if_pos rfl];refine wpAny_passesOwn hp (b_ (hb pins s2 σ1 H2 _ I2 q2) λf s3 q3=>?_);cases f with
  |next=>obtain⟨σ3,H3,I3,n3⟩:=q3;obtain⟨m',hm,w3⟩:=hN σ3 H3 n3;exact⟨m',hm,σ3,H3,I3,w3⟩
  |cont=>obtain⟨σ3,H3,I3,n3⟩:=q3;obtain⟨m',hm,w3⟩:=hN σ3 H3 n3;exact⟨m',hm,σ3,H3,I3,w3⟩
  |brk=>exact q3
  |ret v=>exact q3
 |false=>rw[if_neg eO];exact wpAny_execs_nil ⟨σ1,H2,I2,q2⟩
end
structure It where
 go:Nat->Hp->Prop
 TV:Nat->Hp->V->Hp->Prop
 stop:Nat->Hp->Prop
def mw(X:Cx)(pins:qaa)(H:Hp)(b:Addr):Prop :=
 H b=none/\b≠X.env.locals/\b∉X.fs/\(b∈X.ex\/X.s₀.heap.objs.size<=b)/\(∀x c,X.env.cells.lookup x=some c->c≠b)/\∀p∈X.pn++pins,p.1≠b
theorem Inv.oh{X:Cx}{pins:qaa}{σ:St}{H H':Hp}{b:Addr}(I:Inv X pins σ H s)(hb:s.heap.objs.size<=b)(hn:H' b=none):mw X pins H' b:=by refine⟨hn,Cn (sI I.lt hb),I.Y1 hb,.inr (mm I.sz hb),λx c e z=>?_,λp hp z=>?_⟩;obtain⟨v,q⟩:=I.cell x c e;exact absurd (sI q.lt (by rw[z];exact hb)) (Eb _);exact absurd (sI (e_ (I.pin p hp).1) (by rw[z];exact hb)) (Eb _)
structure Turn(P:Program)(w:World)(K:qaf)(tg:Expr)(J:It)(fp:qah)(it:Addr)(tn:Nat->Heap->Prop):Prop where
 mem:it∈fp
 obj:∀i h,tn i h->∀b∈fp,∃o,h.get? b=some o/\∀v,o.data≠.cell v
 keep:∀i h h',tn i h->(∀b∈fp,∀o,h.get? b=some o->h'.get? b=some o)->tn i h'
 item:∀(X:Cx),X.prog=P->X.w=w->X.K=K->X.calm=true->∀(i:Nat)(pins:qaa)(s:Shared)(σ:St)(H:Hp)(E:qad),Inv X pins σ H s->(∀b∈fp,mw X pins H b)->tn i s.heap->J.go i H ->
  wpAny (model P w) X.A (pyNext (.ref it)) (λr s1=>∃u,r=some u /\
   wpAny (model P w) X.A (letOwnedTupleGo tg (.ref it) u) (λ_ s2=>∃x H',Inv X pins σ H' s2/\RelV x u/\J.TV i H x H'/\tn (i+1) s2.heap/\∀b∈fp,H' b=none) E s1) E s
 done:∀(X:Cx),X.prog=P->X.w=w->X.K=K->X.calm=true->∀(i:Nat)(pins:qaa)(s:Shared)(σ:St)(H:Hp)(E:qad),Inv X pins σ H s->(∀b∈fp,mw X pins H b)->tn i s.heap->J.stop i H ->
  wpAny (model P w) X.A (pyNext (.ref it)) (λr s1=>r=none/\Inv X pins σ H s1) E s
 self:∀(A:Around)(i:Nat)(s:Shared)(Q:qad)(E:qad),tn i s.heap->Q (.ref it) s->wpAny (model P w) A (pyIter (.ref it)) Q E s
abbrev TI:=St->Hp->(It->Hp->Prop)->Prop
def PIE(X:Cx)(pins:qaa)(σ:St)(tg:Expr)(R:It->Hp->Prop)(XU:Value)(s2:Shared):Prop :=
 ∃(it:Addr)(fp:qah)(tn:Nat->Heap->Prop)(J:It)(H':Hp),XU=.ref it/\Inv X pins σ H' s2/\Turn X.prog X.w X.K tg J fp it tn/\tn 0 s2.heap/\(∀b∈fp,mw X pins H' b)/\R J H'
def PI(X:Cx)(tg iter:Expr)(wi:TI):Prop :=
 ∀(pins:qaa)(s:Shared)(σ:St)(H:Hp)(R:It->Hp->Prop),Inv X pins σ H s->wi σ H R ->
  wpAny (model X.prog X.w) X.A (eval iter X.env) (λv s1=>wpAny (model X.prog X.w) X.A (pyIter v) (PIE X pins σ tg R) X.xe s1) X.xe s
theorem A3{M:Model}{E:qad}{tg:Expr}{o:Obj}{n:String}{vs:Array Value}{Q:Unit->Shared->Prop}(ho:s.heap.get? it=some o)(hc:o.cls=.type n)(hd:o.data=.fields vs)(hn:["enumerate","zip","dict_itemiterator","dict_reverseitemiterator","odict_iterator","itertools.zip_longest","itertools.pairwise"].contains n=false)(hQ:Q () s):wpAny M A (letOwnedTupleGo tg (.ref it) u) Q E s:=by
 unfold letOwnedTupleGo;cases tg<;>first
  |exact wpAny_pure hQ
  | (cases u<;>first
      |exact wpAny_pure hQ
      | (refine wpAny_bind (wpAny_load ho ?_)
         rw[hc,hd];show wpAny M A (if (["enumerate","zip","dict_itemiterator","dict_reverseitemiterator","odict_iterator","itertools.zip_longest","itertools.pairwise"].contains n && vs[0]?==some (rawInt _))=true then _ else _) Q E s;rw[if_neg (by intro h;rw[hn,Bool.false_and] at h;cases h)];exact wpAny_pure hQ))
def Zg(K:qaf)(a:Addr):It :=
 ⟨λi H=>∃xs x,fW K H a xs/\xs[i]?=some x,λi H x H'=>H'=H/\∀xs,fW K H a xs->xs[i]?=some x,λi H=>∃xs,fW K H a xs/\xs.length<=i⟩
def Zh(K:qaf)(a:Addr):It :=
 ⟨λi H=>∃xs x,dU K H a xs/\xs[i]?=some x,λi H x H'=>H'=H/\∀xs,dU K H a xs->xs[i]?=some x,λi H=>∃xs,dU K H a xs/\xs.length<=i⟩
def XW(lo:Int)(n:Nat):It:=⟨λi _=>i<n,λi H x H'=>H'=H/\x=.int (lo+i),λi _=>n<=i⟩
theorem Cw{K:qaf}{tg:Expr}(a it:Addr):Turn P w K tg (Zg K a) [it] it (λi h=>h.IsListIter it a i) where
 mem:=by simp
 obj:=λi h st b hb=>by
  have e:b=it:=by simpa using hb
  subst e;obtain⟨o,e,c,d⟩:=st;exact⟨o,e,λv z=>by rw[d] at z;cases z⟩
 keep:=λi h h' st k=>st.at λo e=>k it (by simp) o e
 item:=by intro X hP hw hK hc i pins s σ H E I hf st hg;subst hP hw hK;obtain⟨xs,x,hq,hx⟩:=hg;obtain⟨aN,rv,p,hz⟩:=I.list hq;obtain⟨u,hu,ru⟩:=rv.get hx;obtain⟨f0,f1,f2,f3,f4,f5⟩:=hf it (by simp);refine wpAny_pyNext_list_item st p.isList (x:=u) (by simpa using hu) λh' y3 sb=>?_;have I1:Inv X pins σ H {s with heap:=h'}:=I.turned (t':=s.toks) (λb o hb e=>(sb.2 b hb).trans e) f0 f1 f3 f4 f5;obtain⟨o,e,c,d⟩:=id y3;exact⟨u,rfl,A3 (s:={s with heap:=h'}) e c d (by decide) ⟨x,H,I1,ru,⟨rfl,λys hy=>by rw[I.kK hy hq];exact hx⟩,y3,λb hb=>(hf b hb).1⟩⟩
 done:=by intro X hP hw hK hc i pins s σ H E I hf st hg;subst hP hw hK;obtain⟨xs,hq,hx⟩:=hg;obtain⟨aN,rv,p,hz⟩:=I.list hq;obtain⟨f0,f1,f2,f3,f4,f5⟩:=hf it (by simp);have hl:=rv.length;exact wpAny_pyNext_list_end (I.ok.hd hc) st p.isList (by simp;omega) λh' eb=>⟨rfl,I.turned (t':=s.toks) (λb o hb e=>eb b o hb e) f0 f1 f3 f4 f5⟩
 self:=λ_ _ _ _ _ st h=>wpAny_pyIter_listiter st h
theorem y4{K:qaf}{tg:Expr}(a it:Addr):Turn P w K tg (Zh K a) [it] it (λi h=>h.IsTupleIter it a i) where
 mem:=by simp
 obj:=λi h st b hb=>by
  have e:b=it:=by simpa using hb
  subst e;obtain⟨o,e,c,d⟩:=st;exact⟨o,e,λv z=>by rw[d] at z;cases z⟩
 keep:=λi h h' st k=>st.at λo e=>k it (by simp) o e
 item:=by intro X hP hw hK hc i pins s σ H E I hf st hg;subst hP hw hK;obtain⟨xs,x,hq,hx⟩:=hg;obtain⟨aN,rv,p,hz⟩:=I.tuple hq;obtain⟨u,hu,ru⟩:=rv.get hx;obtain⟨f0,f1,f2,f3,f4,f5⟩:=hf it (by simp);refine wpAny_pyNext_tuple_item st (show s.heap.IsTuple a aN.toArray from p) (x:=u) (by simpa using hu) λh' y3 sb=>?_;have I1:Inv X pins σ H {s with heap:=h'}:=I.turned (t':=s.toks) (λb o hb e=>(sb.2 b hb).trans e) f0 f1 f3 f4 f5;obtain⟨o,e,c,d⟩:=id y3;exact⟨u,rfl,A3 (s:={s with heap:=h'}) e c d (by decide) ⟨x,H,I1,ru,⟨rfl,λys hy=>by rw[I.jf hy hq];exact hx⟩,y3,λb hb=>(hf b hb).1⟩⟩
 done:=by intro X hP hw hK hc i pins s σ H E I hf st hg;subst hP hw hK;obtain⟨xs,hq,hx⟩:=hg;obtain⟨aN,rv,p,hz⟩:=I.tuple hq;obtain⟨f0,f1,f2,f3,f4,f5⟩:=hf it (by simp);have hl:=rv.length;exact wpAny_pyNext_tuple_end (I.ok.hd hc) st (show s.heap.IsTuple a aN.toArray from p) (by simp;omega) λh' eb=>⟨rfl,I.turned (t':=s.toks) (λb o hb e=>eb b o hb e) f0 f1 f3 f4 f5⟩
 self:=λ_ _ _ _ _ st h=>wpAny_pyIter_tupleiter st h
theorem y6{K:qaf}{tg:Expr}(it:Addr)(lo:Int)(n:Nat):Turn P w K tg (XW lo n) [it] it (λi h=>IsRangeIter h it (lo+(i:Nat) * 1) ((n:Int)-(i:Nat)) 1) where
 mem:=by simp
 obj:=λi h st b hb=>by
  have e:b=it:=by simpa using hb
  subst e;exact⟨_,st,λv z=>by have z':Data.fields _=Data.cell v:=z;cases z'⟩
 keep:=λi h h' st k=>k it (by simp) _ st
 item:=by intro X hP hw hK hc i pins s σ H E I hf st hg;subst hP hw hK;obtain⟨f0,f1,f2,f3,f4,f5⟩:=hf it (by simp);have W:=Walks.range (prog:=X.prog) (w:=X.w) (I.ok.hd hc) it lo 1 n;refine W.item i s _ _ hg st λv h' tk hv y3 kk=>?_;obtain⟨t,rfl⟩:=hv;have I1:Inv X pins σ H {s with heap:=h',toks:=tk}:=I.turned (λb o hb e=>kk b o (by simpa using hb) e) f0 f1 f3 f4 f5;refine⟨_,rfl,A3 (s:={s with heap:=h',toks:=tk}) (n:="range_iterator") y3 rfl rfl (by decide) ⟨.int (lo+i),H,I1,⟨t,?_⟩,⟨rfl,rfl⟩,y3,λb hb=>(hf b hb).1⟩⟩;rw[Int.mul_one]
 done:=by intro X hP hw hK hc i pins s σ H E I hf st hg;subst hP hw hK;obtain⟨f0,f1,f2,f3,f4,f5⟩:=hf it (by simp);exact wpAny_pyNext_range_end (I.ok.hd hc) st (by have:n<=i:=hg;omega) λh' eb=>⟨rfl,I.turned (t':=s.toks) (λb o hb e=>eb b o hb e) f0 f1 f3 f4 f5⟩
 self:=λ_ _ _ _ _ st h=>wpAny_pyIter_rangeiter st h
section
variable{X:Cx}{tg:Expr}
theorem EG{pins:qaa}{σ:St}{H:Hp}{R:It->Hp->Prop}{E:qad}{lo hi:Int}{t u v:Tok}{tk:Nat}(I:Inv X pins σ H s)(h1 : -(2 ^ 62)<=lo)(h2:lo<2 ^ 62)(h3 : -(2 ^ 62)<=hi)(h4:hi<2 ^ 62)(q:R (XW lo (hi-lo).toNat) H):wpAny (model X.prog X.w) X.A (pyIter (.ref s.heap.objs.size)) (PIE X pins σ tg R) E {s with heap:=s.heap.push {cls:=.type "range",data:=.fields #[.int lo t,.int hi u,.int 1 v]},toks:=tk}:=by
 refine wpAny_pyIter_range (IsRange.new ..) (small_one h1 h2 h3 h4) ?_;have I1:Inv X pins σ H {s with heap:=s.heap.push {cls:=.type "range",data:=.fields #[.int lo t,.int hi u,.int 1 v]},toks:=tk}:=I.kept λb o e=>eZ _ e;refine⟨(s.heap.push {cls:=.type "range",data:=.fields #[.int lo t,.int hi u,.int 1 v]}).objs.size,[(s.heap.push {cls:=.type "range",data:=.fields #[.int lo t,.int hi u,.int 1 v]}).objs.size],_,_,H,rfl,
  I1.kept (t':=tk) λb o e=>eZ _ e,y6 _ lo (hi-lo).toNat,?_,λb hb=>?_,q⟩
 have e1:lo+((0:Nat):Int) * 1=lo:=by simp
 have e2:(((hi-lo).toNat:Nat):Int)-((0:Nat):Int)=Builtin.Range.rangeSize lo hi 1:=by rw[rangeSize_one];split<;>omega
 show IsRangeIter _ _ (lo+((0:Nat):Int) * 1) ((((hi-lo).toNat:Nat):Int)-((0:Nat):Int)) 1;rw[e1,e2];exact mf _ rfl;have e:b=(s.heap.push {cls:=.type "range",data:=.fields #[.int lo t,.int hi u,.int 1 v]}).objs.size:=by simpa using hb
 subst e;exact I1.oh (cO _) (I1.cm.fresh (cO _))
def TX(ta:TA):TI:=λσ H R=>ta σ H λvs H1=>∃j:Int,vs=[.int j]/\-(2 ^ 62)<=j/\j<2 ^ 62/\R (XW 0 j.toNat) H1
theorem Cy{a:Expr}{ta:TA}(hg:Gl X "range")(hm:X.mg "range"=none)(ha:PA X [a] ta)(hs:starEach [a] X.env=[(false,eval a X.env)]:=by rfl):PI X tg (.Call (.Name "range" p) [a] [] pos) (TX ta):=by
 intro pins s σ H R I h;refine Call_ (j6 I hg hm boot_range (Th (b_ (ha pos pins s σ H _ I h) λus s1 ⟨vs,H1,I1,r1,q1⟩=>?_) hs rfl));obtain⟨j,e,q1,q2,q⟩:=q1;subst e;cases r1 with
 |cons r rr=>cases rr;obtain⟨t,rfl⟩:=r;exact call_range_1 (EG I1 (by omega) (by omega) q1 q2 (by simpa using q))
def Zi(wi:TI)(g:TG)(tb:TS):TS:=λD σ H=>wi σ H λJ H1=>∃W:Nat->Nat->St->Hp->Prop,(∃m,W 0 m σ H1)/\∀i m σ H,W i m σ H ->
 (J.stop i H/\D.nx σ H)\/(J.go i H/\∃N:St->Hp->Prop,(∀σ' H',N σ' H'->∃m',m'<m/\W (i+1) m' σ' H')/\∀x H',J.TV i H x H'->g x σ H' λσ2 H2=>tb {D with nx:=N,ct:=N,bk:=D.nx} σ2 H2)
def ph(fp:qah)(h:Heap):qaa:=fp.filterMap λb=>(h.get? b).map λo=>(b,o)
theorem gZ{fp:qah}{b:Addr}{o:Obj}(hb:b∈fp)(e:h.get? b=some o):(b,o)∈ph fp h:=List.mem_filterMap.mpr ⟨b,hb,by rw[e];rfl⟩
theorem Cz{fp:qah}{p:Addr×Obj}(hp:p∈ph fp h):p.1∈fp/\h.get? p.1=some p.2:=by
 obtain⟨b,hb,e⟩:=List.mem_filterMap.mp hp;cases q:h.get? b with
 |none=>rw[q] at e;cases e
 |some o=>rw[q] at e;have e':(b,o)=p:=Option.some.inj e;subst e';exact⟨hb,q⟩
theorem Inv.pinned{pins:qaa}{σ:St}{H:Hp}{fp:qah}(I:Inv X pins σ H s)(hf:∀b∈fp,mw X pins H b)(ho:∀b∈fp,∃o,s.heap.get? b=some o/\∀v,o.data≠.cell v):Inv X (pins++ph fp s.heap) σ H s :=
 I.A1 λp hp=>(cU.mp hp).elim (λz=>I.pin p (bW _ z)) λz=>by obtain⟨hb,e⟩:=Cz z;obtain⟨f0,f1,f2,_⟩:=hf p.1 hb;obtain⟨o,e',d⟩:=ho p.1 hb;rw[e] at e';cases e';exact⟨e,f0,f1,f2,d⟩
theorem Inv.kN{pins pl:qaa}{σ:St}{H:Hp}(I:Inv X (pins++pl) σ H s):Inv X pins σ H s:=I.A1 λp hp=>I.pin p (bW _ (cy _ hp))
theorem OM{body:qaq}{wi:TI}{g:TG}{tb:TS}(hp:PassesOwn (model X.prog X.w) X.A X.env X.xe)(hc:X.calm=true)(hi:PI X tg iter wi)(hg:PG X tg g)(hb:gY X body tb)(hs:∀x,foldedSetIterable iter X.env x=pure x:=by intro _;rfl):PS X (.For tg iter body [] pos) (Zi wi g tb):=by
 intro pins s σ H D I h;refine wpAny_For (b_ (hi pins s σ H _ I h) λv s1 h1=>b_ h1 λXU s2 h2=>?_) hs;obtain⟨it,fp,tn,J,H2,e,I2,T,wA,f2,W,⟨m0,w0⟩,turn⟩:=h2;subst e;have ON:∀{H':Hp},(∀b∈fp,H' b=none)->∀b∈fp,mw X pins H' b:=λhn b hb=>⟨hn b hb,(f2 b hb).2⟩;refine codeAny_forLoop_any (λn s'=>∃i σ' H',Inv X pins σ' H' s'/\tn i s'.heap/\(∀b∈fp,H' b=none)/\W i n σ' H') ?_ m0 ⟨0,σ,H2,I2,wA,λb hb=>(f2 b hb).1,w0⟩;rintro n s3 ⟨i,σ3,H3,I3,TY,TZ,w3⟩;rcases turn i n σ3 H3 w3 with⟨stop,qn⟩|⟨go,N,hN,step⟩
 . refine wpAny_passesOwn hp (b_ (T.done X rfl rfl rfl hc i pins s3 σ3 H3 X.xe I3 (ON TZ) TY stop) λr s4 ⟨hr,I4⟩=>?_);subst hr;exact wpAny_execs_nil ⟨σ3,H3,I4,qn⟩
 refine wpAny_passesOwn hp (b_ (T.item X rfl rfl rfl hc i pins s3 σ3 H3 X.xe I3 (ON TZ) TY go) λr s4 ⟨u,hr,h4⟩=>?_);subst hr;refine wpAny_passesOwn hp (b_ h4 λ_ s5 ⟨x,H5,I5,r5,y5,OQ,Zj⟩=>?_);have I5':=I5.pinned (ON Zj) (T.obj _ _ OQ);refine wpAny_passesOwn hp (b_ (hg _ s5 σ3 H5 x u _ I5' r5 (step x H5 y5)) λ_ s6 ⟨σ6,H6,I6,q6⟩=>?_);refine wpAny_passesOwn hp (b_ (hb _ s6 σ6 H6 _ I6 q6) λf s7 q7=>?_);have again:∀{σ7:St}{H7:Hp},Inv X (pins++ph fp s5.heap) σ7 H7 s7->N σ7 H7->∃m,m<n/\∃i σ' H',Inv X pins σ' H' s7/\tn i s7.heap/\(∀b∈fp,H' b=none)/\W i m σ' H':=λ{σ7 H7} I7 n7=>by obtain⟨m',hm,w7⟩:=hN σ7 H7 n7;refine⟨m',hm,i+1,σ7,H7,I7.kN,T.keep _ _ _ OQ λb hb o e=>(I7.pin (b,o) (bW _ (bW _ (gZ hb e)))).1,λb hb=>?_,w7⟩;obtain⟨o,e,d⟩:=T.obj _ _ OQ b hb;exact (I7.pin (b,o) (bW _ (bW _ (gZ hb e)))).2.1
 cases f with
 |brk=>obtain⟨σ7,H7,I7,q7⟩:=q7;exact⟨σ7,H7,I7.kN,q7⟩
 |ret v=>obtain⟨x7,σ7,H7,I7,r7,q7⟩:=q7;exact⟨x7,σ7,H7,I7.kN,r7,q7⟩
 |_=>obtain⟨σ7,H7,I7,n7⟩:=q7;exact again I7 n7
end
abbrev R2:=V->V->Hp->VK->Prop
def fg(X:Cx)(f:Value->Value->Sem Value)(r:R2):Prop :=
 ∀(pins:qaa)(s:Shared)(σ:St)(H:Hp)(x y:V)(v u:Value)(Q:VK),Inv X pins σ H s->RelV x v->RelV y u->r x y H Q ->
  wpAny (model X.prog X.w) X.A (f v u) (EP X pins σ Q) X.xe s
def Zk(X:Cx)(f:Value->Sem Value)(r:V->Hp->VK->Prop):Prop :=
 ∀(pins:qaa)(s:Shared)(σ:St)(H:Hp)(x:V)(v:Value)(Q:VK),Inv X pins σ H s->RelV x v->r x H Q ->
  wpAny (model X.prog X.w) X.A (f v) (EP X pins σ Q) X.xe s
def dN(X:Cx)(f:Value)(r:List V->Hp->VK->Prop):Prop :=
 ∀(pins:qaa)(s:Shared)(σ:St)(H:Hp)(xs:List V)(us:qag)(Q:VK),Inv X pins σ H s->Vals xs us->r xs H Q ->
  wpAny (model X.prog X.w) X.A (call f us) (EP X pins σ Q) X.xe s
def T1(r:R2)(ta tb:TE):TE:=λσ H Q=>ta σ H λx H1=>tb σ H1 λy H2=>r x y H2 Q
def tUn(r:V->Hp->VK->Prop)(ta:TE):TE:=λσ H Q=>ta σ H λx H1=>r x H1 Q
def rI(C:Int->Int->Prop)(g:Int->Int->V):R2:=λx y H Q=>∃i j,x=.int i/\y=.int j/\C i j/\Q (g i j) H
def wB(g:Int->Int->V):R2:=λx y H Q=>∃i j,x=.int i/\y=.int j/\Q (g i j) H
def rU(g:Int->V):V->Hp->VK->Prop:=λx H Q=>∃i,x=.int i/\Q (g i) H
section
variable{X:Cx}{a:Expr}{ta tb tc:TE}
theorem OR(ha:PE X a ta)(hb:PE X b tb){pins:qaa}{σ:St}{H:Hp}{R:V->V->Hp->Prop}(I:Inv X pins σ H s)(h:ta σ H λx H1=>tb σ H1 λy H2=>R x y H2){Q:qad}{f:Value->Value->Sem Value}(hf:∀v u s2 x y H2,Inv X pins σ H2 s2->RelV x v->RelV y u->R x y H2->wpAny (model X.prog X.w) X.A (f v u) Q X.xe s2) :
  wpAny (model X.prog X.w) X.A (eval a X.env) (λv s₁=>wpAny (model X.prog X.w) X.A (eval b X.env) (λu s₂=>wpAny (model X.prog X.w) X.A (f v u) Q X.xe s₂) X.xe s₁) X.xe s:=by
 refine b_ (ha pins s σ H _ I h) λv s1 ⟨x,H1,I1,r1,q1⟩=>?_;refine b_ (hb pins s1 σ H1 _ I1 q1) λu s2 ⟨y,H2,I2,r2,q2⟩=>?_;exact hf v u s2 x y H2 I2 r1 r2 q2
theorem MM{op:Operator}{r:R2}(ho:fg X (binaryOp op) r)(ha:PE X a ta)(hb:PE X b tb):PE X (.BinOp a op b pos) (T1 r ta tb):=by intro pins s σ H Q I h;exact wpAny_BinOp (OR ha hb I h λv u s2 x y H2 I2 rx ry q=>ho pins s2 σ H2 x y v u Q I2 rx ry q)
theorem MN{op:UnaryOp}{r:V->Hp->VK->Prop}(ho:Zk X (unaryOp op) r)(ha:PE X a ta):PE X (.UnaryOp op a pos) (tUn r ta):=by intro pins s σ H Q I h;exact UnaryOp_ (b_ (ha pins s σ H _ I h) λv s1 ⟨x,H1,I1,r1,q1⟩=>ho pins s1 σ H1 x v Q I1 r1 q1)
theorem OS{f:Value->Value->Sem Value}{C:Int->Int->Prop}{g:Int->Int->Int}(rule:∀(i j:Int) (t u:Tok) (s:Shared) (Q:qad) (E:qad),C i j->Q (.int (g i j) s.toks) {s with toks:=s.toks+1}->wpAny (model X.prog X.w) X.A (f (.int i t) (.int j u)) Q E s) :
  fg X f (rI C λi j=>.int (g i j)):=by
 intro pins s σ H x y v u Q I rx ry h;obtain⟨i,j,rfl,rfl,hc,q⟩:=h;obtain⟨t,rfl⟩:=rx;obtain⟨t',rfl⟩:=ry;exact rule i j t t' s _ _ hc ⟨.int (g i j),H,I.tok _,⟨_,rfl⟩,q⟩
theorem T2{f:Value->Value->Sem Value}{g:Int->Int->Int}(rule:∀(i j:Int) (t u:Tok) (s:Shared) (Q:qad) (E:qad),Q (.int (g i j) s.toks) {s with toks:=s.toks+1}->wpAny (model X.prog X.w) X.A (f (.int i t) (.int j u)) Q E s) :
  fg X f (wB λi j=>.int (g i j)):=by
 intro pins s σ H x y v u Q I rx ry h;obtain⟨i,j,rfl,rfl,q⟩:=h;obtain⟨t,rfl⟩:=rx;obtain⟨t',rfl⟩:=ry;exact rule i j t t' s _ _ ⟨.int (g i j),H,I.tok _,⟨_,rfl⟩,q⟩
theorem Jv{f:Value->Value->Sem Value}{g:Int->Int->Bool}(rule:∀(i j:Int) (t u:Tok) (s:Shared) (Q:qad) (E:qad),Q (.bool (g i j)) s->wpAny (model X.prog X.w) X.A (f (.int i t) (.int j u)) Q E s) :
  fg X f (wB λi j=>.bl (g i j)):=by
 intro pins s σ H x y v u Q I rx ry h;obtain⟨i,j,rfl,rfl,q⟩:=h;obtain⟨t,rfl⟩:=rx;obtain⟨t',rfl⟩:=ry;exact rule i j t t' s _ _ ⟨.bl (g i j),H,I,rfl,q⟩
def T3(i j:Int):Prop:=0<j/\j<1073741824
def T4(i j:Int):Prop:=0<=j/\j<=1000000/\i.natAbs<2 ^ 64
def EH(i j:Int):Prop:=(-(2 ^ 64)<i/\i<2 ^ 64)\/(-(2 ^ 64)<j/\j<2 ^ 64)
theorem EH.ok{i j:Int}(h:EH i j):IntMulOk i j:=by
 obtain⟨h1,h2⟩|⟨h1,h2⟩:=h
 exact .of_left (intBits_le_64 h1 h2);exact .of_right (intBits_le_64 h1 h2)
theorem OT:fg X (binaryOp .Add) (wB λi j=>.int (i+j)):=T2 λ_ _ _ _ _ _ _ q=>add_int q
theorem OU:fg X (binaryOp .Sub) (wB λi j=>.int (i-j)):=T2 λ_ _ _ _ _ _ _ q=>sub_int q
theorem OW:fg X (binaryOp .Mult) (rI EH λi j=>.int (i * j)):=OS λ_ _ _ _ _ _ _ hc q=>mul_int q hc.ok
theorem Jw:fg X (binaryOp .FloorDiv) (rI T3 λi j=>.int (i / j)):=OS λi j _ _ _ _ _ hc q=>by have h1:(0:Int)<j:=hc.1;have h2:j<1073741824:=hc.2;exact floordiv_int (by omega) (by rw[Int.fdiv_eq_ediv_of_nonneg i (by omega)];exact q) (.inl (PyProof.noPylong_small (by omega)))
theorem OX:fg X (binaryOp .Mod) (rI (λ_ j=>0<j) λi j=>.int (i % j)):=OS λi j _ _ _ _ _ hc q=>by have h1:(0:Int)<j:=hc;exact mod_int' (by omega) (by rw[Int.fmod_eq_emod_of_nonneg i (by omega)];exact q)
theorem OY:fg X (binaryOp .Pow) (rI T4 λi j=>.int (i ^ j.toNat)):=OS λ_ _ _ _ _ _ _ hc q=>pow_int_small hc.1 hc.2.1 hc.2.2 q
theorem unI{f:Value->Sem Value}{g:Int->Int}(rule:∀(i:Int) (t:Tok) (s:Shared) (Q:qad) (E:qad),Q (.int (g i) s.toks) {s with toks:=s.toks+1}->wpAny (model X.prog X.w) X.A (f (.int i t)) Q E s) :
  Zk X f (rU λi=>.int (g i)):=by
 intro pins s σ H x v Q I rx h;obtain⟨i,rfl,q⟩:=h;obtain⟨t,rfl⟩:=rx;exact rule i t s _ _ ⟨.int (g i),H,I.tok _,⟨_,rfl⟩,q⟩
theorem EI:Zk X (unaryOp .USub) (rU λi=>.int (-i)):=unI λ_ _ _ _ _ q=>neg_int q
end
section
variable{X:Cx}{a:Expr}{ta tb tc:TE}
theorem y7{pins:qaa}{σ:St}{H:Hp}{Q:VK}{k k':Bool}(I:Inv X pins σ H s)(q:Q (.bl k) H)(e:k=k'):EP X pins σ Q (.bool k') s:=by subst e;exact⟨.bl k,H,I,rfl,q⟩
theorem T5:fg X (compareOp .Lt) (wB λi j=>.bl (decide (i<j))):=Jv λ_ _ _ _ _ _ _ q=>lt_int q
theorem MO:fg X (compareOp .LtE) (wB λi j=>.bl (decide (i<=j))):=Jv λ_ _ _ _ _ _ _ q=>le_int q
theorem T6:fg X (compareOp .Gt) (wB λi j=>.bl (decide (j<i))):=Jv λ_ _ _ _ _ _ _ q=>gt_int q
theorem T7:fg X (compareOp .GtE) (wB λi j=>.bl (decide (j<=i))):=Jv λ_ _ _ _ _ _ _ q=>ge_int q
theorem CA:fg X (compareOp .In) (λx y H Q=>∃i j,x=.str i/\y=.str j/\Q (.bl (!(Builtin.Str.occurrences j i 0 j.length 1).isEmpty)) H):=by intro pins s σ H x y v u Q I rx ry h;obtain⟨i,j,rfl,rfl,q⟩:=h;obtain⟨t,rfl⟩:=rx;obtain⟨t',rfl⟩:=ry;exact in_str (y7 I q rfl)
theorem OZ:fg X (compareOp .Is) (λx y H Q=>y=.aO/\Q (.bl (decide (x=.aO))) H):=by
 intro pins s σ H x y v u Q I rx ry h;obtain⟨rfl,q⟩:=h;cases ry;refine is_none_gen (y7 I q ?_);cases x<;>first
  | (cases rx;rfl)
  | (obtain⟨t,rfl⟩:=rx;rfl)
theorem Jx:fg X (compareOp .IsNot) (λx y H Q=>y=.aO/\Q (.bl (!decide (x=.aO))) H):=by
 intro pins s σ H x y v u Q I rx ry h;obtain⟨rfl,q⟩:=h;cases ry;refine isnot_none_gen (y7 I q ?_);cases x<;>first
  | (cases rx;rfl)
  | (obtain⟨t,rfl⟩:=rx;rfl)
theorem fg.or{f:Value->Value->Sem Value}{r r':R2}(h:fg X f r)(h':fg X f r'):fg X f (λx y H Q=>r x y H Q\/r' x y H Q):=by
 intro pins s σ H x y v u Q I rx ry q;obtain q|q:=q
 exact h pins s σ H x y v u Q I rx ry q;exact h' pins s σ H x y v u Q I rx ry q
theorem g9(b:Expr){op:CmpOp}(h:op≠.In:=by decide)(h2:op≠.NotIn:=by decide):behindInMarks op b=false:=by
 have e1:(op==CmpOp.In)=false:=by cases op<;>first|rfl|exact absurd rfl h
 have e2:(op==CmpOp.NotIn)=false:=by cases op<;>first|rfl|exact absurd rfl h2
 cases b<;>simp[behindInMarks,e1,e2]
theorem Jy{op:CmpOp}{r:R2}(ho:fg X (compareOp op) r)(ha:PE X a ta)(hb:PE X b tb)(hm:behindInMarks op b=false):PE X (.Compare a [op] [b] pos) (T1 r ta tb):=by intro pins s σ H Q I h;exact wpAny_Compare1 (OR ha hb I h λv u s2 x y H2 I2 rx ry q=>ho pins s2 σ H2 x y v u Q I2 rx ry q) hm
def MP(t:TE):TT:=λσ H Q=>t σ H λx H'=>∃k,x=.bl k/\Q k H'
theorem Jz{op:CmpOp}{r:R2}(ho:fg X (compareOp op) r)(ha:PE X a ta)(hb:PE X b tb)(hm:behindInMarks op b=false):PT X (.Compare a [op] [b] pos) (MP (T1 r ta tb)):=by
 intro pins s σ H Q I h;refine wpAny_isTrue_Compare1 (b_ (ha pins s σ H _ I h) λv s1 ⟨x,H1,I1,r1,q1⟩=>b_ (hb pins s1 σ H1 _ I1 q1) λu s2 ⟨y,H2,I2,r2,q2⟩ =>
  b_ (ho pins s2 σ H2 x y v u _ I2 r1 r2 q2) λc s3 ⟨z,H3,I3,r3,k,e,q3⟩=>?_) hm
 subst e;cases r3;exact wpAny_truthy_bool ⟨H3,I3,q3⟩
def EJ(r r':R2)(ta tb tc:TE):TE:=λσ H Q=>ta σ H λx H1=>tb σ H1 λy H2=>r x y H2 λz H3=>∃k,z=.bl k /\
 (if k=true then tc σ H3 λw' H4=>r' y w' H4 Q else Q (.bl false) H3)
theorem EK{op O0:CmpOp}{r r':R2}(ho:fg X (compareOp op) r)(pe:fg X (compareOp O0) r')(ha:PE X a ta)(hb:PE X b tb)(hc:PE X c tc)(hm:lastMarks [op,O0] [b,c]=false:=by with_unfolding_all rfl):PT X (.Compare a [op,O0] [b,c] pos) (MP (EJ r r' ta tb tc)):=by
 intro pins s σ H Q I h;refine isTrue_chain (b_ (ha pins s σ H _ I h) λv s1 ⟨x,H1,I1,r1,q1⟩=>test_link (b_ (hb pins s1 σ H1 _ I1 q1) λu s2 ⟨y,H2,I2,r2,q2⟩ =>
  b_ (ho pins s2 σ H2 x y v u _ I2 r1 r2 q2) λd s3 ⟨z,H3,I3,r3,k,e,q3⟩=>?_)) hm
 subst e;cases r3;refine wpAny_truthy_bool ?_;cases k with
 |false=>obtain⟨k',e',q'⟩:=q3;cases e';exact ite_ff ⟨H3,I3,q'⟩
 |true=>refine ite_tt (test_last (b_ (hc pins s3 σ H3 _ I3 q3) λw' s4 ⟨z',H4,I4,r4,q4⟩=>b_ (pe pins s4 σ H4 y z' u w' _ I4 r2 r4 q4) λd' s5 ⟨z2,H5,I5,r5,k2,e2,q5⟩=>?_));subst e2;cases r5;exact wpAny_truthy_bool ⟨H5,I5,q5⟩
theorem mx:(sizeLine:Nat)<2 ^ 63:=by rw[sizeLine_eq];decide
theorem y8:fg X (binaryOp .Add) (λx y H Q=>∃i j,x=.str i/\y=.str j/\i.length+j.length<=sizeLine/\Q (.str (i++j)) H):=by intro pins s σ H x y v u Q I rx ry h;obtain⟨i,j,rfl,rfl,hz,q⟩:=h;obtain⟨t,rfl⟩:=rx;obtain⟨t',rfl⟩:=ry;exact add_str (λt' tk=>⟨.str (i++j),H,I.tok _,⟨_,rfl⟩,q⟩) hz
theorem vals1{x:V}{us:qag}(r:Vals [x] us):∃u,us=[u]/\RelV x u:=by
 cases r with
 |cons r1 r2=>cases r2;exact⟨_,rfl,r1⟩
theorem vals2{x y:V}{us:qag}(r:Vals [x,y] us):∃u w',us=[u,w']/\RelV x u/\RelV y w':=by
 cases r with
 |cons r1 r2=>
  cases r2 with
  |cons r3 r4=>cases r4;exact⟨_,_,rfl,r1,r3⟩
theorem CB(hc:X.calm=true):dN X (.builtin "min") (λxs H Q=>∃i j,xs=[.int i,.int j]/\Q (.int (if j<i then j else i)) H):=by intro pins s σ H xs us Q I r h;obtain⟨i,j,rfl,q⟩:=h;obtain⟨u,w',rfl,⟨t,rfl⟩,⟨t',rfl⟩⟩:=vals2 r;refine min_two_ints (I.ok.hd hc) λh' tk k=>⟨_,H,I.kept k,?_,q⟩;by_cases hj:j<i;rw[if_pos hj,if_pos hj];exact⟨_,rfl⟩;rw[if_neg hj,if_neg hj];exact⟨_,rfl⟩
theorem CC:dN X (.type "int") (λxs H Q=>(∃i,xs=[.int i]/\Q (.int i) H)\/∃k,xs=[.bl k]/\Q (.int (if k then 1 else 0)) H):=by
 intro pins s σ H xs us Q I r h;obtain⟨i,rfl,q⟩|⟨k,rfl,q⟩:=h
 obtain⟨u,rfl,t,rfl⟩:=vals1 r;exact call_int_int ⟨.int i,H,I,⟨_,rfl⟩,q⟩;obtain⟨u,rfl,r1⟩:=vals1 r;cases r1;exact call_int_bool ⟨.int (if k then 1 else 0),H,I.tok _,⟨_,rfl⟩,q⟩
end
structure CD(h:Heap)(x dx C:Addr)(mA:qae):Prop where
 obj:h.get? x=some (PySem.W.instObj C dx)
 ns:h.Ns1 dx mA
 ne:dx≠x
theorem CF{mA:qae}(n:h.Ns1 dx mA):∃od,h.get? dx=some od/\∀name,PySem.W.lookIn name od=some (mA name):=by
 obtain⟨o,es,ep,ho,hd,hk,_,hm⟩:=n;refine⟨o,ho,λname=>?_⟩;have e:=hm name;unfold nsFind findBy at e;rw[<- Array.find?_toList] at e;unfold PySem.W.lookIn;rw[hd];dsimp only;split
 rename_i y q
 rw[q] at e;exact congrArg some e
 rename_i q
 rw[q] at e;have a:es.toList.any (·.refKey)=false:=by rw[List.any_eq_false];intro y hy;obtain⟨z,t,Zl⟩:=hk y (Array.mem_toList_iff.mp hy);simp[DictEntry.refKey,Zl]
 have a':¬ es.toList.any (·.refKey)=true:=by rw[a];exact eO
 rw[if_neg a'];exact congrArg some e
theorem CD.look{x:Addr}{mA:qae}(I:CD h x dx C mA):∃od,PySem.W.InstAt h x (PySem.W.instObj C dx) C (some od)/\∀name,PySem.W.lookIn name od=some (mA name) :=
 let ⟨od,ho,hl⟩:=CF I.ns
 ⟨od,⟨I.obj,rfl,rfl,ho⟩,hl⟩
section
variable{E:qad}{K:qaf}{x:Addr}{mA:qae}{name:Str}{v:Value}
theorem get_map{expr:Bool}{Q:qad}(X:K.In s.heap)(I:CD s.heap x dx C mA)(hg:PySem.W.plainGet K C name=true)(hh:PySem.W.hasDictIn K C=true)(ha:PySem.W.findIn K (.ref C) name=some none)(hv:mA name=some v)(wC:PySem.W.handedIn v=true)(h:Q v {s with toks:=s.toks+1}) :
  wpAny (model prog w) A (getAttr (.ref x) name expr) Q E s:=by
 obtain⟨od,J,hl⟩:=I.look;exact PySem.W.get_value X J (PySem.W.plainGet_of hg).1 (PySem.W.findObj_own hh ha rfl (by rw[hl,hv])) wC h
theorem JA{ns:qai}{Q:Unit->Shared->Prop}(X:K.In s.heap)(I:CD s.heap x dx C mA)(hs:PySem.W.findIn K (.ref C) "__setattr__"=some (some (.builtin "object.__setattr__")))(hp:PySem.W.plainOver K C=true)(ht:PySem.W.takerIn K C name=some none)(hh:PySem.W.hasDictIn K C=true)(hw:PySem.Within mA ns)(hsz:ns.length<=sizeLine)(h:∀h',CD h' x dx C (λy=>if y=name then some v else mA y)->Heap.SameBut dx s.heap h'->Q () {s with heap:=h',toks:=s.toks+2}) :
  wpAny (model prog w) A (setAttr (.ref x) name v) Q E s:=by
 obtain⟨od,J,hl⟩:=I.look;refine PySem.W.set_plain X J hs (PySem.W.osa_open (s:={s with toks:=s.toks+1}) (r:=none) X J hp ht λb=>?_);obtain⟨cd,hc,TC⟩:=PySem.W.any_some hh;have hx:s.heap.get? x=some ⟨.ref C,some dx,.plain,#[]⟩:=I.obj;refine wpAny_bind (wpAny_pure (wpAny_bind (wpAny_bind (wpAny_loadPart hx (wpAny_bind (PySem.W.Looks.here (s:={s with toks:=s.toks+1}) (PySem.W.looks_clsIn X hc) ?_))))));rw[TC];refine wpAny_pure (a:=some dx) (wpAny_bind (wpAny_pure (wpAny_bind ?_)));refine wpAny_nsSet1 (s:={s with toks:=s.toks+1}) I.ns λh' hn2 CG=>?_;obtain⟨oD,esD,epD,hoD,hdD,hcD⟩:=hn2.count (PySem.Within.cons name v hw);refine wpAny_bind (wpAny_lookBehind hoD (by rw[hdD];exact pastItsLine_dict (mm hcD (by rw[tX];omega))) ?_);exact wpAny_pure (h _ ⟨(CG.2 _ (Ne.symm I.ne)).trans I.obj,hn2,I.ne⟩ CG)
theorem EL{R:Result->Shared->Prop}{vs:qag}{kw:List (Str×Value)}(X:K.In s.heap)(hm:PySem.W.makesIn K C=true)(hi:PySem.W.findIn K (.ref C) "__init__"=some (some (.ref f)))(hf:PySem.W.typeIn K (.ref f)=some (.type "function"))(h:codeAny (model prog w) (A.under (.builtin "type.__call__" ⟨.ref C::vs,kw⟩)) (.call (.ref f) ⟨.ref (s.heap.objs.size+1)::vs,kw⟩) (PySem.W.InitBack (s.heap.objs.size+1) R)
    {s with heap:=(s.heap.push PySem.W.emptyDict).push (PySem.W.instObj C s.heap.objs.size)}) :
  codeAny (model prog w) A (.call (.ref C) ⟨vs,kw⟩) R s:=by
 obtain⟨hh,g,d,t,os⟩:=s;exact PySem.W.make_core (PySem.W.makes_of X hm) (PySem.W.looks_findIn X hi) (λself=>PySem.W.bind_fn X self hf) (.inl rfl) h
end
noncomputable def dy(f:Str)(v:V):List (Str×V)->List (Str×V)
 |[]=>[(f,v)]
 | (g,x)::r=>if g=f then (g,v)::r else (g,x)::dy f v r
theorem nB(f g:Str)(v:V):∀fs:List (Str×V),(dy f v fs).lookup g=if g=f then some v else fs.lookup g
 |[]=>by show List.lookup g [(f,v)]=_;by_cases h:g=f;have hb:(g==f)=true:=beq_iff_eq.mpr h;simp only[List.lookup,hb,if_pos h];have hb:(g==f)=false:=beq_eq_false_iff_ne.mpr h;simp only[List.lookup,hb,if_neg h]
 | (k,x)::r=>by have ih:=nB f g v r;rw[show dy f v ((k,x)::r)=(if k=f then (k,v)::r else (k,x)::dy f v r) from rfl];by_cases hk:k=f;rw[if_pos hk];by_cases h:g=k;have hb:(g==k)=true:=beq_iff_eq.mpr h;simp only[List.lookup,hb,if_pos (h.trans hk)];have hb:(g==k)=false:=beq_eq_false_iff_ne.mpr h;simp only[List.lookup,hb,if_neg (λe:g=f=>h (e.trans hk.symm))];rw[if_neg hk];by_cases h:g=k;have hb:(g==k)=true:=beq_iff_eq.mpr h;simp only[List.lookup,hb,if_neg (λe:g=f=>hk (h.symm.trans e))];have hb:(g==k)=false:=beq_eq_false_iff_ne.mpr h;simp only[List.lookup,hb];exact ih
theorem my(f:Str)(v:V):∀fs:List (Str×V),f∈(dy f v fs).map (·.1)/\∀g,g∈fs.map (·.1)->g∈(dy f v fs).map (·.1)
 |[]=>⟨by simp[dy],λg h=>by simp at h⟩
 | (k,x)::r=>by
  obtain⟨i1,i2⟩:=my f v r;rw[show dy f v ((k,x)::r)=(if k=f then (k,v)::r else (k,x)::dy f v r) from rfl];by_cases hk:k=f;rw[if_pos hk];subst hk;exact⟨by simp,λg h=>by simpa using h⟩;rw[if_neg hk];refine⟨?_,λg h=>?_⟩;rw[gA];exact gD _ i1;rw[gA] at h ⊢;rcases c7.mp h with e|e
  exact c7.mpr (.inl e);exact gD _ (i2 g e)
theorem nC(f:Str)(v:V):∀fs:List (Str×V),(dy f v fs).length<=fs.length+1
 |[]=>by simp[dy]
 | (k,x)::r=>by have ih:=nC f v r;rw[show dy f v ((k,x)::r)=(if k=f then (k,v)::r else (k,x)::dy f v r) from rfl];by_cases hk:k=f;rw[if_pos hk,tX,tX];omega;rw[if_neg hk,tX,tX];omega
theorem jD.some_of{v:V}{o:Option Value}(r:jD (some v) o):∃u,o=some u/\RelV v u:=by
 cases o with
 |none=>exact (show False from r).elim
 |some u=>exact⟨u,rfl,r⟩
theorem CH{v:V}(r:RelV v u):PySem.W.handedIn u=true:=by
 cases v with
 |aO=>cases (show u=Value.none from r);rfl
 |bl b=>cases (show u=Value.bool b from r);rfl
 |int i=>obtain⟨t,e⟩:=(show ∃t,u=Value.int i t from r);cases e;rfl
 |str x=>obtain⟨t,e⟩:=(show ∃t,u=Value.str x t from r);cases e;rfl
 |YU b=>obtain⟨t,e⟩:=(show ∃t,u=Value.bytes b t from r);cases e;rfl
 |YV b=>obtain⟨t,e⟩:=(show ∃t,u=Value.float b t from r);cases e;rfl
 |ref a=>cases (show u=Value.ref a from r);rfl
 |ty n=>cases (show u=Value.type n from r);rfl
section
variable{H H':Hp}{fs YY:List (Str×V)}
theorem A4(cm:kD P w H h)(e:H a=some (.ins C dx fs)):∃mA,CD h a dx C mA/\(∀f,jD (fs.lookup f) (mA f))/\PySem.Within mA (fs.map (·.1))/\fs.length<=1000/\H dx=some (.own a):=by obtain⟨d,z,ne,ob,mA,n,r,q⟩:=(show cw P w H h a (.ins C dx fs) from cm a _ e);exact⟨mA,⟨ob,n,ne⟩,r,q,z,d⟩
end
structure y9(K:qaf)(C:Addr):Prop where
 pg:PySem.W.plainGet K C Str.empty=true
 hd:PySem.W.hasDictIn K C=true
 po:PySem.W.plainOver K C=true
 sa:PySem.W.findIn K (.ref C) "__setattr__"=some (some (.builtin "object.__setattr__"))
theorem y9.get{K:qaf}{C:Addr}(c:y9 K C)(f:Str):PySem.W.plainGet K C f=true:=c.pg
def bb(K:qaf)(C:Addr)(f:Str):Prop:=PySem.W.findIn K (.ref C) f=some none
theorem bb.T8{K:qaf}{f:Str}(n:bb K C f):PySem.W.takerIn K C f=some none:=by unfold PySem.W.takerIn;rw[show PySem.W.findIn K (.ref C) f=some none from n];rfl
section
variable{X:Cx}{pins:qaa}{σ:St}{H:Hp}{fs:List (Str×V)}{f:Str}{v:V}{E:qad}
theorem y_{b:Bool}{Q:qad}(I:Inv X pins σ H s)(e:H a=some (.ins C dx fs))(c:y9 X.K C)(n:bb X.K C f)(l:fs.lookup f=some v)(h:∀u s',Inv X pins σ H s'->RelV v u->Q u s'):wpAny (model X.prog X.w) A (getAttr (.ref a) f b) Q E s:=by obtain⟨mA,O,r,_,_,_⟩:=A4 I.cm e;obtain⟨u,hu,ru⟩:=jD.some_of (v:=v) (o:=mA f) (by rw[<- l];exact r f);exact get_map I.rD O (c.get f) c.hd n hu (CH ru) (h u _ (I.tok _) ru)
theorem za{y:V}{Q:Unit->Shared->Prop}(I:Inv X pins σ H s)(e:H a=some (.ins C dx fs))(c:y9 X.K C)(n:bb X.K C f)(hl:fs.length<1000)(ry:RelV y u)(h:∀s',Inv X pins σ (upd H a (.ins C dx (dy f y fs))) s'->Q () s'):wpAny (model X.prog X.w) A (setAttr (.ref a) f u) Q E s:=by
 obtain⟨mA,O,r,wi,_,ho⟩:=A4 I.cm e;have hz:(fs.map (·.1)).length<=sizeLine:=by rw[c6,sizeLine_eq];omega
 refine JA I.rD O c.sa c.po n.T8 c.hd wi hz λh' O' sb=>h _ ?_;have hd:∃o,h'.get? dx=some o:=let ⟨o,_,_,e',_⟩:=O'.ns;⟨o,e'⟩;refine I.write (x:=a) (e:=dx) (by rw[e];exact True.intro) (.inr ho) (λb q hb z=>(sb.2 b hb).trans z) hd ?_;refine⟨by rw[aC O.ne];exact ho,?_,O.ne,O'.obj,_,O'.ns,λg=>?_,λg hg=>?_⟩;have:=nC f y fs;omega;show jD ((dy f y fs).lookup g) (if g=f then some u else mA g);rw[nB];by_cases q:g=f;rw[if_pos q,if_pos q];exact ry;rw[if_neg q,if_neg q];exact r g;by_cases q:g=f;rw[q];exact (my f y fs).1;refine (my f y fs).2 g (wi g λz=>hg ?_);show (if g=f then some u else mA g)=none;rw[if_neg q];exact z
theorem Inv.made(I:Inv X pins σ H s):Inv X pins σ (upd (upd H s.heap.objs.size (.own (s.heap.objs.size+1))) (s.heap.objs.size+1) (.ins C s.heap.objs.size []))
  {s with heap:=(s.heap.push PySem.W.emptyDict).push (PySem.W.instObj C s.heap.objs.size)}:=by
 have e1:(s.heap.push PySem.W.emptyDict).get? s.heap.objs.size=some PySem.W.emptyDict:=mf s.heap rfl;have e2:((s.heap.push PySem.W.emptyDict).push (PySem.W.instObj C s.heap.objs.size)).get? (s.heap.objs.size+1)=some (PySem.W.instObj C s.heap.objs.size):=by
  have:=mf (s.heap.push PySem.W.emptyDict) (o:=PySem.W.instObj C s.heap.objs.size) rfl
  rwa [Er] at this
 have e3:(s.heap.push PySem.W.emptyDict).Ns s.heap.objs.size (λ_=>none):=⟨PySem.W.emptyDict,#[],_,e1,rfl,(λe he=>absurd he (by simp)),λ_=>rfl⟩;have I1:=I.laid (a:=s.heap.objs.size) (o:=.own (s.heap.objs.size+1)) (h':=s.heap.push PySem.W.emptyDict) (t':=s.toks) (λb u q=>eZ _ q) (cO _) ⟨_,e1⟩;refine I1.laid (a:=s.heap.objs.size+1) (o:=.ins C s.heap.objs.size []) (t':=s.toks) (λb u q=>eZ _ q) (Nat.le_of_eq (Er _ _)) ?_;have ne:s.heap.objs.size≠s.heap.objs.size+1:=jK (wj _);refine⟨by rw[aC ne,aG],jL _,ne,e2,λ_=>none,(Heap.Ns1.of_empty e3).at λo q=>eZ _ q,λ_=>True.intro,λy hy=>absurd rfl hy⟩
theorem JB{env:Env}{f:Str}{Q:qad}(hb:attributeBase e f env (eval e env)=eval e env)(h:wpAny (model prog w) A (eval e env) (λo s₁=>wpAny (model prog w) A (getAttr o f true) Q E s₁) E s):wpAny (model prog w) A (eval (.Attribute e f pos) env) Q E s :=
 Attribute_any_ h (by rw[arm_eval_Attribute,hb])
end
def Zm(K:qaf)(ta:TE)(f:Str):TE:=λσ H Q=>ta σ H λx H1=>∃a C dx fs v,x=.ref a/\H1 a=some (.ins C dx fs)/\y9 K C/\bb K C f/\fs.lookup f=some v/\Q v H1
noncomputable def Zn(K:qaf)(ta tv:TE)(f:Str):TS:=λD σ H=>tv σ H λy H1=>ta σ H1 λx H2=>∃a C dx fs,x=.ref a/\H2 a=some (.ins C dx fs)/\y9 K C/\bb K C f/\fs.length<1000 /\
 D.nx σ (upd H2 a (.ins C dx (dy f y fs)))
section
variable{X:Cx}{value:Expr}{f:Str}{pos':Pos}{ta tv:TE}
theorem zb(he:PE X e ta)(hb:attributeBase e f X.env (eval e X.env)=eval e X.env):PE X (.Attribute e f pos) (Zm X.K ta f):=by intro pins s σ H Q I h;refine JB hb (b_ (he pins s σ H _ I h) λu s1 ⟨x,H1,I1,rx,a,C,dx,fs,v,ex,ea,c,n,l,q⟩=>?_);subst ex;obtain rfl:u=Value.ref a:=rx;exact y_ I1 ea c n l λu' s2 I2 ru=>⟨v,H1,I2,ru,q⟩
theorem fD(ha:PE X o ta)(hv:PE X value tv)(hs:swapsWith value (some (.Attribute o f pos')) pos.line X.env=pure false):PS X (.Assign [.Attribute o f pos'] value pos) (Zn X.K ta tv f):=by intro pins s σ H D I h;refine plainObj_wpAny_Assign_Attribute (b_ (hv pins s σ H _ I h) λu s1 ⟨y,H1,I1,ry,q⟩=>b_ (ha pins s1 σ H1 _ I1 q) λov s2 ⟨x,H2,I2,rx,a,C,dx,fs,ex,ea,c,n,l,q2⟩=>?_) hs;subst ex;obtain rfl:ov=Value.ref a:=rx;exact za I2 ea c n l ry λs3 I3=>⟨σ,_,I3,q2⟩
end
structure bx(k:Nat)(A:Around):Prop where
 hd:A.handled=none
 dp:A.depth+3 * k+5<recursionLimit
 un:A.units+16 * k+200<cLine
theorem bx.mono{k:Nat}(r:bx k A)(h:j<=k):bx j A:=⟨r.hd,by have:=r.dp;omega,by have:=r.un;omega⟩
theorem bx.deeper{k:Nat}(r:bx (k+1) A)(env:Env):bx k (A.deeper env) :=
 ⟨r.hd,by have:=r.dp;show A.depth+1+3 * k+5<_;omega,by have:=r.un;show A.units+3+16 * k+200<_;omega⟩
theorem zc{us:qag}{kw:List (Str×Value)}:(A.under (.builtin "type.__call__" ⟨.ref C::us,kw⟩)).depth=A.depth+1:=by first|rfl|simp[Around.under,Code.weight,Code.isCreation,Code.isGuard,Code.isCaller,Code.frames,Code.isFrame,guardIds]
theorem zd{us:qag}{kw:List (Str×Value)}:(A.under (.builtin "type.__call__" ⟨.ref C::us,kw⟩)).units=A.units+1:=by first|rfl|simp[Around.under,Code.cUnits,Code.frames,Code.isFrame]
theorem bx.make{k:Nat}(r:bx (k+1) A)(C:Addr)(us:qag)(kw:List (Str×Value)):bx k (A.under (.builtin "type.__call__" ⟨.ref C::us,kw⟩)) :=
 ⟨r.hd,by have:=r.dp;rw[zc];omega,by have:=r.un;rw[zd];omega⟩
theorem bx.depth{k:Nat}(r:bx k A):A.depth<recursionLimit:=by have:=r.dp;omega
def Zo:TA:=λ_ H Q=>Q [] H
def T9(ta:TE)(tr:TA):TA:=λσ H Q=>ta σ H λx H1=>tr σ H1 λxs H2=>Q (x::xs) H2
section
variable{X:Cx}{es:qap}{te:TE}{t:TA}
theorem cC:PA X [] Zo:=λ_ _ _ _ H Q I h=>Calls.spliced_nil ⟨[],H,I,.nil,h⟩
theorem bt(ha:PE X e te)(hr:PA X es t)(hs:starEach (e::es) X.env=(false,eval e X.env)::starEach es X.env:=by rfl):PA X (e::es) (T9 te t):=by intro pos pins s σ H Q I h;rw[hs];show wpAny _ _ (spliced ((false,eval e X.env)::backTo pos (starEach es X.env))) _ _ s;refine Tq (b_ (ha pins s σ H _ I h) λu s1 ⟨x,H1,I1,r1,q1⟩=>?_);exact b_ (hr pos pins s1 σ H1 _ I1 q1) λus s2 ⟨xs,H2,I2,r2,q2⟩=>⟨x::xs,H2,I2,.cons r1 r2,q2⟩
def Zp(t:TA):TE:=λσ H Q=>t σ H λxs H1=>xs.length<=sizeLine/\∀p,H1 p=none->Q (.ref p) (upd H1 p (.tup xs))
def Zq(t:TA):TE:=λσ H Q=>t σ H λxs H1=>xs.length<=sizeLine/\∀p,H1 p=none->Q (.ref p) (upd H1 p (.lst xs))
theorem ze{x1}(h:PA X es t):PE X (.Tuple es x1 pos) (Zp t):=by intro pins s σ H Q I hq;refine wpAny_Tuple_spliced (b_ (h pos pins s σ H _ I hq) λus s1 ⟨xs,H1,I1,r,z,q⟩=>⟨by rw[<- r.length];exact z,?_⟩);have hf:H1 s1.heap.objs.size=none:=I1.cm.fresh (cO _);refine⟨.ref s1.heap.objs.size,upd H1 s1.heap.objs.size (.tup xs),I1.laid (t':=s1.toks) (λb u e=>eZ _ e) (cO _) ?_,rfl,q _ hf⟩;exact⟨z,us,r,⟨_,mf _ rfl,rfl,_,rfl⟩⟩
theorem zg(h:PA X es t):PE X (.List es pos) (Zq t):=by intro pins s σ H Q I hq;refine wpAny_List_spliced (b_ (h pos pins s σ H _ I hq) λus s1 ⟨xs,H1,I1,r,z,q⟩=>⟨by rw[<- r.length];exact z,?_⟩);have hf:H1 s1.heap.objs.size=none:=I1.cm.fresh (cO _);refine⟨.ref s1.heap.objs.size,upd H1 s1.heap.objs.size (.lst xs),I1.laid (t':=s1.toks) (λb u e=>eZ _ e) (cO _) ?_,rfl,q _ hf⟩;exact⟨z,us,0,r,mf _ rfl⟩
end
abbrev Sp:=List V->Hp->VK->XK->Prop
abbrev Ef:=List Env->Hp->Shared->XK->qad
structure zh(P:Program)(w:World)(K:qaf)(mg:qae)(base:Heap)(A:Around)(outer:List Env)(s:Shared)(H:Hp):Prop where
 frames:A.frames=some outer
 mod:Mod K mg base
 bs:∀b o,base.get? b=some o->s.heap.get? b=some o/\H b=none
 Ed:base.objs.size<=s.heap.objs.size
 kJ:s.heap.FunFrames base outer
 Jo:∀b∈Ec outer,H b=none
 cm:kD P w H s.heap
 bare:AllBare s.gens
def CE(outer:List Env)(P:Program)(w:World)(H:Hp)(s:Shared)(Q:VK)(u:Value)(s':Shared):Prop :=
 ∃v H',s'.os=s.os/\AllBare s'.gens/\Un (Ec outer) [] H H' s.heap s'.heap/\kD P w H' s'.heap/\RelV v u/\Q v H'
def CR(CX:Ef)(outer:List Env)(P:Program)(w:World)(H:Hp)(s:Shared)(Q:VK)(E:XK)(r:Result)(s':Shared):Prop :=
 match r with
 |.ok (.ret u)=>CE outer P w H s Q u s'
 |.ok _=>False
 |.error e=>CX outer H s E e s'
structure cp(P:Program)(w:World)(K:qaf)(mg:qae)(base:Heap)(CX:Ef)(k:Nat)(f:Addr)(fd:FuncData)(ps:qai)(sp:Sp):Prop where
 len:∀vs H Q E,sp vs H Q E->vs.length=ps.length
 run:∀(A:Around)(outer:List Env)(s:Shared)(H:Hp)(args:Args)(us:qag)(vs:List V)(Q:VK)(E:XK),bx k A->zh P w K mg base A outer s H->BindsTo s fd args (ps.zip us)->Vals vs us->sp vs H Q E ->
  codeAny (model P w) A (.call (.ref f) args) (CR CX outer P w H s Q E) s
theorem zh.make{K:qaf}{mg:qae}{outer:List Env}{H:Hp}(e:zh P w K mg base A outer s H)(C:Addr)(us:qag)(kw:List (Str×Value)) :
 zh P w K mg base (A.under (.builtin "type.__call__" ⟨.ref C::us,kw⟩)) outer s H:=⟨by first|exact e.frames|(simpa[Around.under,Code.envs,Code.isFrame,pushEnvs] using e.frames),e.mod,e.bs,e.Ed,e.kJ,e.Jo,e.cm,e.bare⟩
section
variable{X:Cx}{pins:qaa}{σ:St}{H:Hp}
theorem Inv.T_(I:Inv X pins σ H s):zh X.prog X.w X.K X.mg X.base X.A X.stack s H :=
 ⟨I.ok.frames,I.ok.mod,I.bs,mm I.ok.Ed I.sz,I.stack,I.A0,I.cm,I.bare⟩
theorem Inv.after{Q:VK}(I:Inv X pins σ H s)(h:CE X.stack X.prog X.w H s Q u s'):EP X pins σ Q u s':=by obtain⟨v,H',os,bare,un,cm,r,q⟩:=h;obtain⟨hh,g,d,t,os'⟩:=s';obtain rfl:os'=s.os:=os;exact⟨v,H',I.call (h':=hh) (g':=g) (d':=d) (t':=t) (ch:=[]) un cm bare (λb z=>absurd z (by simp)),r,q⟩
end
def T'(sp:Sp)(ue:List V)(E:XK)(t:TA):TE:=λσ H Q=>t σ H λvs H1=>sp (vs++ue) H1 Q E
def Ua(C:Addr)(sp:Sp)(ue:List V)(E:XK)(t:TA):TE:=λσ H Q=>t σ H λvs H1=>∀x dx,H1 x=none->H1 dx=none->dx≠x ->
 sp (.ref x::(vs++ue)) (upd (upd H1 dx (.own x)) x (.ins C dx [])) (λv H2=>v=.aO/\Q (.ref x) H2) E
def Binds(K:qaf)(fd:FuncData)(ps:qai)(ds:qag):Prop :=
 ∀(s:Shared)(us:qag),K.In s.heap->(us++ds).length=ps.length->BindsTo s fd ⟨us,[]⟩ (ps.zip (us++ds))
theorem Binds.all{K:qaf}{ps:qai}(h:∀us:qag,us.length=ps.length->bindArgs fd ⟨us,[]⟩=pure (ps.zip us)):Binds K fd ps []:=λs us _ hl=>by rw[AZ] at hl ⊢;exact .of_eq (h us hl)
def Passes(CX:Ef)(X:Cx)(E:XK):Prop:=∀(pins:qaa)(σ:St)(H:Hp)(s:Shared)(e:Value)(s':Shared),Inv X pins σ H s->CX X.stack H s E e s'->X.xe e s'
section
variable{X:Cx}{CX:Ef}{k:Nat}{ps:qai}{sp:Sp}{ue:List V}{ds:qag}{E:XK}{m:Str}{es:qap}{ta:TE}{t:TA}
theorem zi{pins:qaa}{σ:St}{H:Hp}{Q:VK}{us:qag}{vs:List V}(F:cp X.prog X.w X.K X.mg X.base CX k f fd ps sp)(hr:bx k X.A)(hb:Binds X.K fd ps ds)(hd:Vals ue ds)(hx:Passes CX X E)(I:Inv X pins σ H s)(r:Vals vs us)(h:sp (vs++ue) H Q E):wpAny (model X.prog X.w) X.A (call (.ref f) us) (EP X pins σ Q) X.xe s:=by
 have r2:Vals (vs++ue) (us++ds):=r.append hd;have hl:(us++ds).length=ps.length:=by rw[<- r2.length];exact F.len _ _ _ _ h
 refine wpAny_call (codeAny_mono (F.run X.A X.stack s H ⟨us,[]⟩ (us++ds) (vs++ue) Q E hr I.T_ (hb s us I.rD hl) r2 h) λr s' hq=>?_);cases r with
 |error e=>exact hx pins σ H s e s' I hq
 |ok fl=>
  cases fl with
  |ret u=>exact I.after hq
  |_=>exact False.elim hq
theorem kO(F:cp X.prog X.w X.K X.mg X.base CX k f fd ps sp)(hr:bx k X.A)(hg:Gl X x)(hm:X.mg x=some (.ref f))(hk:PySem.W.keepIn X.K (.ref f)=true)(hb:Binds X.K fd ps ds)(hd:Vals ue ds)(hx:Passes CX X E)(ha:PA X (e::es) t)(om:gC x:=by decide)(he:starEach (e::es) X.env=(false,eval e X.env)::starEach es X.env:=by rfl)(iI:(backTo pos (starEach es X.env)).any (·.1)=false:=by rfl) :
  PE X (.Call (.Name x p) (e::es) [] pos) (T' sp ue E t):=by
 intro pins s σ H Q I h;refine wpAny_Call_Name_kw (ua I hg hm ?_ om);refine XJ (h₀:=X.base) I.ok.mod.SH hk (b_ (ha pos pins s σ H _ I h) λus s1 ⟨vs,H1,I1,r,q⟩=>⟨I1.rD,?_⟩) he iI;exact zi F hr hb hd hx I1 r q
structure Mk(K:qaf)(C f:Addr):Prop where
 makes:PySem.W.makesIn K C=true
 init:PySem.W.findIn K (.ref C) "__init__"=some (some (.ref f))
 fn:PySem.W.isFn K (.ref f)=true
 kp:PySem.W.keepIn K (.ref C)=true
theorem EM{pins:qaa}{σ:St}{H:Hp}{Q:VK}{us:qag}{vs:List V}(M:Mk X.K C f)(F:cp X.prog X.w X.K X.mg X.base CX k f fd ps sp)(hr:bx (k+1) X.A)(hb:Binds X.K fd ps ds)(hd:Vals ue ds)(hx:Passes CX X E)(I:Inv X pins σ H s)(r:Vals vs us)(h:∀x dx,H x=none->H dx=none->dx≠x->sp (.ref x::(vs++ue)) (upd (upd H dx (.own x)) x (.ins C dx [])) (λv H2=>v=.aO/\Q (.ref x) H2) E) :
  wpAny (model X.prog X.w) X.A (call (.ref C) us) (EP X pins σ Q) X.xe s:=by
 have hq:=h (s.heap.objs.size+1) s.heap.objs.size (I.cm.fresh (IX _)) (I.cm.fresh (cO _)) (jK (wj _));have I2:=Inv.made (C:=C) I;have r2:Vals (V.ref (s.heap.objs.size+1)::(vs++ue)) (Value.ref (s.heap.objs.size+1)::(us++ds)):=.cons rfl (r.append hd);have hl:(Value.ref (s.heap.objs.size+1)::us++ds).length=ps.length:=by have e:=r2.length;rw[F.len _ _ _ _ hq] at e;exact e.symm
 refine wpAny_call (EL (f:=f) I.rD M.makes M.init (beq_iff_eq.mp M.fn) (codeAny_mono (F.run _ X.stack _ _ ⟨Value.ref (s.heap.objs.size+1)::us,[]⟩ (Value.ref (s.heap.objs.size+1)::(us++ds)) _ _ E (hr.make C us [])
  (I2.T_.make C us []) (hb _ (Value.ref (s.heap.objs.size+1)::us) I2.rD hl) r2 hq) λr s' g_=>?_))
 cases r with
 |error e=>exact hx pins σ _ _ e s' I2 g_
 |ok fl=>
   cases fl with
   |ret u=>obtain⟨v,H',I3,rv,ev,q3⟩:=I2.after g_;subst ev;exact⟨rv,⟨V.ref (s.heap.objs.size+1),H',I3,rfl,q3⟩⟩
   |_=>exact False.elim g_
theorem uf(M:Mk X.K C f)(F:cp X.prog X.w X.K X.mg X.base CX k f fd ps sp)(hr:bx (k+1) X.A)(hg:Gl X x)(hm:X.mg x=some (.ref C))(hb:Binds X.K fd ps ds)(hd:Vals ue ds)(hx:Passes CX X E)(ha:PA X (e::es) t)(om:gC x:=by decide)(he:starEach (e::es) X.env=(false,eval e X.env)::starEach es X.env:=by rfl)(iI:(backTo pos (starEach es X.env)).any (·.1)=false:=by rfl) :
  PE X (.Call (.Name x p) (e::es) [] pos) (Ua C sp ue E t):=by
 intro pins s σ H Q I h;refine wpAny_Call_Name_kw (ua I hg hm ?_ om);refine XJ (h₀:=X.base) I.ok.mod.SH M.kp (b_ (ha pos pins s σ H _ I h) λus s1 ⟨vs,H1,I1,r,q⟩=>⟨I1.rD,?_⟩) he iI;exact EM M F hr hb hd hx I1 r q
end
section
variable{X:Cx}{CX:Ef}{k:Nat}{ps ks:qai}{sp:Sp}{E:XK}{m:Str}{Zr:Pos}{es:qap}{kws:List Keyword}{te ta:TE}{t tk:TA}{nm:Option Str}
variable{g:qag->qag->qag}{gV:List V->List V->List V}
end
structure aE(N P:qai)(sc:Scope):Prop where
 kind:sc.kind=.function
 co:sc.isCoroutine=false
 gen:sc.isGenerator=false
 nd:N.Nodup
 pre:N.take P.length=P
 par:∀x∈P,sc.names.lookup x=some .local\/sc.names.lookup x=some .cell
 O3:∀y∈sc.names,y.2≠.free
theorem gB{N P:qai}(a:sc.kind=.function:=by rfl)(b:sc.isCoroutine=false:=by rfl)(c:sc.isGenerator=false:=by rfl)(d:N.Nodup:=by decide +kernel)(e:N.take P.length=P:=by rfl)(f:∀x∈P,sc.names.lookup x=some .local\/sc.names.lookup x=some .cell:=by decide +kernel)(g:∀y∈sc.names,y.2≠.free:=by decide +kernel):aE N P sc:=⟨a,b,c,d,e,f,g⟩
theorem sN{kindOf:Str->Option NameKind}{x:Str}:∀{binds:List (Str×Value)}{m:qae},(∀v,(x,v)∉binds)->bindL kindOf binds m x=m x
 |[],_,_=>rfl
 | (n,v)::r,m,h=>by
  unfold bindL;rw[sN λw hw=>h w (gD _ hw)];split;have:x≠n:=by rintro rfl;exact h v dG
  simp[this];rfl
theorem sO{kindOf:Str->Option NameKind}{x:Str}:∀{binds:List (Str×Value)}{m:qae},(∀v,(x,v)∉binds)->bindC kindOf binds m x=m x
 |[],_,_=>rfl
 | (n,v)::r,m,h=>by
  unfold bindC;rw[sO λw hw=>h w (gD _ hw)];split;rfl;have:x≠n:=by rintro rfl;exact h v dG
  simp[this]
theorem sP{kindOf:Str->Option NameKind}{x:Str}{v:Value}:∀{P:qai}{vs:qag}{i:Nat}{m:qae},P.Nodup->P[i]?=some x->vs[i]?=some v->kindOf x=some .local ->
  bindL kindOf (P.zip vs) m x=some v
 |[],_,_,_,_,h,_,_=>by simp at h
 |_::_,[],_,_,_,_,h,_=>by simp at h
 |p::P,w::vs,0,m,nd,h1,h2,hk=>by simp at h1 h2;subst h1;subst h2;show bindL kindOf ((p,w)::P.zip vs) m p=_;unfold bindL;rw[sN λv hv=>(kB.mp nd).1 (List.of_mem_zip hv).1,if_pos hk];simp
 |p::P,w::vs,i+1,m,nd,h1,h2,hk=>by show bindL kindOf ((p,w)::P.zip vs) m x=_;unfold bindL;exact sP (i:=i) (kB.mp nd).2 (by simpa using h1) (by simpa using h2) hk
theorem sQ{kindOf:Str->Option NameKind}{x:Str}{v:Value}:∀{P:qai}{vs:qag}{i:Nat}{m:qae},P.Nodup->P[i]?=some x->vs[i]?=some v->kindOf x≠some .local ->
  bindC kindOf (P.zip vs) m x=some v
 |[],_,_,_,_,h,_,_=>by simp at h
 |_::_,[],_,_,_,_,h,_=>by simp at h
 |p::P,w::vs,0,m,nd,h1,h2,hk=>by simp at h1 h2;subst h1;subst h2;show bindC kindOf ((p,w)::P.zip vs) m p=_;unfold bindC;rw[sO λv hv=>(kB.mp nd).1 (List.of_mem_zip hv).1,if_neg hk];simp
 |p::P,w::vs,i+1,m,nd,h1,h2,hk=>by show bindC kindOf ((p,w)::P.zip vs) m x=_;unfold bindC;exact sQ (i:=i) (kB.mp nd).2 (by simpa using h1) (by simpa using h2) hk
noncomputable def start(N:qai)(vs:List V):St:=vs.map some++List.replicate (N.length-vs.length) none
noncomputable def eY(CX:Ef)(P:Program)(w:World)(K:qaf)(mg:qae)(base:Heap)(N:qai)(qual:Str)(scope:Scope)(f:Addr)(cd:Value)(A:Around)(outer:List Env)(s:Shared)(H:Hp)(E:XK):Cx where
 prog:=P
 w:=w
 K:=K
 mg:=mg
 base:=base
 A:=A.deeper (envOfC qual scope s.heap.objs.size f cd)
 N:=N
 s₀:=s
 H₀:=H
 env:=envOfC qual scope s.heap.objs.size f cd
 outer:=outer
 stack:=envOfC qual scope s.heap.objs.size f cd::outer
 ex:=[]
 calm:=true
 fn:=λ_=>true
 pn:=[]
 xe:=λe s'=>wpAny (model P w) (A.deeper (envOfC qual scope s.heap.objs.size f cd)) (leaving (envOfC qual scope s.heap.objs.size f cd) e) (λ_ Ub=>CX outer H s E e Ub) (λe' Ub=>CX outer H s E e' Ub) s'
theorem wD(h:sc.names.lookup x=some .cell):∃c,(cellsFrom n sc.names []).lookup x=some c:=by have q:=PySem.W.cellsFrom_some sc.names n [] (.inl h);exact Option.isSome_iff_exists.mp q
theorem CI{CX:Ef}{K:qaf}{mg:qae}{N ps:qai}{scope:Scope}{cd:Value}{outer:List Env}{s1:Shared}{H:Hp}{E:XK}{us:qag}{vs:List V}(S:aE N ps scope)(hd:A.handled=none)(e0:zh P w K mg base A outer s H)(hl:vs.length=ps.length)(r:Vals vs us)(x:InCallC s s.heap.objs.size (bindL (envOfC qual scope s.heap.objs.size f cd).kindOf (ps.zip us) λ_=>none) (cellsFrom (s.heap.objs.size+1) scope.names []) (bindC (envOfC qual scope s.heap.objs.size f cd).kindOf (ps.zip us) λ_=>none) s1) :
  Inv (eY CX P w K mg base N qual scope f cd A outer s H E) [] (start N vs) H s1:=by
 have iI:ps.length<=N.length:=by have:=congrArg List.length S.pre;rw[Tu] at this;omega
 obtain⟨h1,tk,rfl,hk⟩:=x.done;have Uc:∀b:Addr,b∉(eY CX P w K mg base N qual scope f cd A outer s H E).ex:=λb z=>absurd (show b∈([]:qah) from z) (by simp);refine⟨⟨e0.mod,S.kind,rfl,rfl,cO _,λy z c h1 h2=>?_,λy hy=>?_,λy c _ h=>?_,λ_=>hd,Around.frames_deeper e0.frames,.inr ⟨rfl,rfl⟩,λb z=>absurd z (Uc b),e0.bs,e0.Ed,λb _ _=>Uc b,λb z=>absurd z (Uc b),e0.kJ,e0.Jo⟩,
  rfl,e0.bare,Un.kept hk,⟨_,x.toInCall.ns,λi y v h1 h2 h3=>?_⟩,λy c h=>⟨_,x.cell y c h⟩,e0.cm.fresh (cO _),λy c h=>?_,λp hp=>absurd (show p∈([]:qaa) from hp) (by simp),e0.cm.kept hk,?_⟩
 exact name_of_addr x.apart (My h1) (My h2);have hy:scope.names.lookup y=some .cell\/scope.names.lookup y=some .free:=hy;obtain hy|hy:=hy
 exact wD hy;exact absurd rfl (S.O3 _ (My hy));exact Nat.le_of_lt (x.above y c (My h));have hi:i<vs.length:=by unfold start at h2;by_cases hi:i<vs.length;exact hi;rw[sF (by simpa using hi)] at h2;rw[D9] at h2;split at h2<;>cases h2
 have ha:vs[i]?=some v:=by
  unfold start at h2;rw[og (by simpa using hi),jC] at h2;cases e:vs[i]? with
  |none=>rw[e] at h2;cases h2
  |some a=>rw[e] at h2;cases h2;rfl
 obtain⟨u,hu,rv⟩:=r.get ha;have hp:ps[i]?=some y:=by rw[<- S.pre,List.getElem?_take_of_lt (by omega)];exact h1
 have ndP:ps.Nodup:=by rw[<- S.pre];exact S.nd.sublist (List.take_sublist _ _)
 refine⟨u,rv,?_⟩;rcases S.par y (gW hp) with k|k
 exact .inl ⟨k,sP ndP hp hu k⟩;obtain⟨c,e⟩:=wD (n:=s.heap.objs.size+1) k;refine .inr ⟨.inl k,c,e,?_⟩;have q:=x.cell y c e;rw[sQ ndP hp hu (by show scope.names.lookup y≠_;rw[k];decide)] at q;exact q;exact e0.cm.fresh (Nat.le_of_lt (x.above y c (My h)));unfold start;show _=N.length;rw[eC,c6,yU];omega
theorem MQ{CX:Ef}{K:qaf}{mg:qae}{k:Nat}{name:Str}{params:Arguments}{body:qaq}{scope:Scope}{dV kV doc pm bz ct oc:Value}{an od:qar}{CJ:Array (Option Value)}{N ps:qai}{sp:Sp}(lk:K.lookup f=some ⟨oc,od,.func (PySem.W.fnOf name qual params body scope dV kV doc pm an bz ct),CJ⟩)(fA:PySem.W.codeIn K bz qual=true)(S:aE N ps scope)(len:∀vs H Q E,sp vs H Q E->vs.length=ps.length)(dz:∀(A:Around) (outer:List Env) (s:Shared) (H:Hp) (vs:List V) (Q:VK) (E:XK),bx k (A.deeper (envOfC qual scope s.heap.objs.size f bz))->sp vs H Q E ->
    ∃t,gY (eY CX P w K mg base N qual scope f bz A outer s H E) body t/\t {nx:=λ_ H'=>Q .aO H',rt:=Q} (start N vs) H) :
  cp P w K mg base CX (k+1) f (PySem.W.fnOf name qual params body scope dV kV doc pm an bz ct) ps sp:=by
 refine⟨len,λA outer s H args us vs Q E hr e0 hb r I9=>?_⟩;have hl:=len _ _ _ _ I9;have KX:K.In s.heap:=e0.mod.SH.keeps λb o e=>(e0.bs b o e).1;have lim:s.heap.NoLimit:=e0.mod.nolimit.keeps λb o e=>(e0.bs b o e).1;have Ud:∀y∈ps.zip us,scope.names.lookup y.1=some .local\/(scope.names.lookup y.1=some .cell/\((cellsFrom (s.heap.objs.size+1) scope.names []).lookup y.1).isSome=true):=λ⟨n,v⟩ hy=>by
  rcases S.par n (List.of_mem_zip hy).1 with q|q
  exact .inl q;exact .inr ⟨q,PySem.W.cellsFrom_some _ _ _ (.inl q)⟩
 refine codeAny_call_function hr.depth (KX _ _ lk) rfl S.co S.gen rfl (PySem.W.codeRec_of KX fA) (hb _ _ _ _ ?_);refine wpAny_newFunctionEnv_cells S.kind Ud λenv he s1 x=>?_;subst he;refine⟨lim.keeps x.toInCall.keep,codeAny_func ?_⟩;obtain⟨t,ht,hq⟩:=dz A outer s H vs Q E (hr.deeper _) I9;have I:Inv (eY CX P w K mg base N qual scope f bz A outer s H E) [] (start N vs) H s1:=CI S hr.hd e0 hl r x;refine wpAny_mono (ht [] s1 (start N vs) H _ I hq) (λfl s' hs=>?_) λe s' hs=>hs;have fin:∀{σ':St}{H':Hp}{v:V}{u:Value},Inv (eY CX P w K mg base N qual scope f bz A outer s H E) [] σ' H' s'->RelV v u->Q v H'->CE outer P w H s Q u s' :=
  λ{σ' H' v u} J rv q=>⟨v,H',J.os,J.bare,J.base,J.cm,rv,q⟩
 cases fl with
 |ret u=>obtain⟨v,σ',H',J,rv,q⟩:=hs;exact fin J rv q
 |next=>obtain⟨σ',H',J,q⟩:=hs;exact fin (v:=V.aO) (u:=Value.none) J rfl q
 |brk=>obtain⟨_,_,_,q⟩:=hs;exact False.elim q
 |cont=>obtain⟨_,_,_,q⟩:=hs;exact False.elim q
section
variable{X:Cx}{es:qap}{t:TA}{id T:String}{r:List V->Hp->VK->Prop}
def tCB(r:List V->Hp->VK->Prop)(t:TA):TE:=λσ H Q=>t σ H λvs H1=>r vs H1 Q
theorem pj(hc:dN X (.builtin id) r)(hg:Gl X x)(hm:X.mg x=none)(hv:bootBuiltins x=some (.builtin id))(ha:PA X (e::es) t)(hn:x≠"__name__":=by decide)(om:gC x:=by decide)(he:starEach (e::es) X.env=(false,eval e X.env)::starEach es X.env:=by rfl)(iI:(backTo pos (starEach es X.env)).any (·.1)=false:=by rfl):PE X (.Call (.Name x p) (e::es) [] pos) (tCB r t):=by intro pins s σ H Q I h;refine wpAny_Call_Name_kw (j6 I hg hm hv ?_ hn om);exact PyProof.Rows.callWith_builtin1 (b_ (ha pos pins s σ H _ I h) λus s1 ⟨vs,H1,I1,r1,q1⟩=>hc pins s1 σ H1 vs us Q I1 r1 q1) he iI
theorem CM(hc:dN X (.type T) r)(hg:Gl X x)(hm:X.mg x=none)(hv:bootBuiltins x=some (.type T))(ha:PA X (e::es) t)(hn:x≠"__name__":=by decide)(om:gC x:=by decide)(he:starEach (e::es) X.env=(false,eval e X.env)::starEach es X.env:=by rfl)(iI:(backTo pos (starEach es X.env)).any (·.1)=false:=by rfl):PE X (.Call (.Name x p) (e::es) [] pos) (tCB r t):=by intro pins s σ H Q I h;refine wpAny_Call_Name_kw (j6 I hg hm hv ?_ hn om);exact Th (b_ (ha pos pins s σ H _ I h) λus s1 ⟨vs,H1,I1,r1,q1⟩=>hc pins s1 σ H1 vs us Q I1 r1 q1) he iI
end
end L2
variable{X:L2.Cx}{K:qaf}{H H':L2.Hp}{σ:L2.St}{v:L2.V}{E Q:qad}{pins:qaa}{mg:qae}{es elts:qap}{ps:qai}{fp Ox:qah}{ta te:L2.TE}{sp:L2.Sp}{us:qag}{is:qao}{ks:List L2.Key}{aT:List (L2.Key×L2.V)}
abbrev qac:=List (PySem.Str×L2.V)
abbrev qak:=List L2.V
namespace HT
open PySem PyProof.Rows
section
open PySem.SeqAt
open PySem.AutoSeq1 (wpAny_loadPart')
open PySem.MeetsSeq PySem.MeetsSeq2 PySem.MeetsSeq3
end
section
theorem JC{t b:Addr}{vs ws:qag}(ht:IsTup s.heap t vs.toArray)(hb:IsTup s.heap b ws.toArray)(hv:vs≠[])(h1:ws=[]->Q (.ref t) s)(h2:ws≠[]->Q (.ref s.heap.objs.size) {s with heap:=s.heap.push {cls:=.type "tuple",data:=.seq (vs++ws).toArray} })(hsz:vs.length+ws.length<=sizeLine):wpAny (model prog w) A (binaryOp .Add (.ref t) (.ref b)) Q E s:=by
 obtain⟨⟨cls,dd,data,sl⟩,ho,hc,n,hd⟩:=id ht;obtain⟨⟨Ue,SJ,data2,SK⟩,I_,Eg,n2,hd2⟩:=id hb;simp only at hc hd Eg hd2;subst hc hd Eg hd2;have e:vs.toArray++ws.toArray=(vs++ws).toArray:=by simp
 by_cases hw:ws=[];exact concat_meets ⟨_,ho,rfl⟩ ⟨_,I_,rfl⟩ noFill_tuple_add seq_tuple_add YQ YL (YK _ _)
  (tuple_addW1 t b vs.toArray ws.toArray n n2 dd SJ sl SK (by simpa using hv) (by simp[hw])) ⟨ho,I_,h1 hw⟩
 refine concat_meets ⟨_,ho,rfl⟩ ⟨_,I_,rfl⟩ noFill_tuple_add seq_tuple_add YQ YL (YK _ _)
  (tuple_addW2 t b vs.toArray ws.toArray n n2 dd SJ sl SK (by simpa using hv) (by simpa using hw) (by rw[iz,iz];exact hsz)) ⟨ho,I_,?_⟩
 rw[e];exact h2 hw
noncomputable def dR(n d:Nat):Option Int->Nat
 |none=>d
 |some v=>if v<0 then (v+(n:Int)).toNat else min v.toNat n
theorem EN(n d:Nat):dR n d none=d:=rfl
theorem JD(n d k:Nat):dR n d (some (k:Int))=min k n:=by show (if (k:Int)<0 then ((k:Int)+(n:Int)).toNat else min (k:Int).toNat n)=min k n;rw[if_neg (by omega),D']
theorem O5(n d:Nat)(hd:d<=n)(o:Option Int):dR n d o<=n:=by
 cases o with
 |none=>exact hd
 |some v=>show (if v<0 then (v+(n:Int)).toNat else min v.toNat n)<=n;by_cases hv:v<0;rw[if_pos hv];omega;rw[if_neg hv];exact Nat.min_le_right _ _
theorem A5(v:Int)(n d:Nat):(if v<0 then max (v+(n:Int)) 0 else min v (n:Int))=((dR n d (some v):Nat):Int):=by show (if v<0 then max (v+(n:Int)) 0 else min v (n:Int))=(((if v<0 then (v+(n:Int)).toNat else min v.toNat n):Nat):Int);by_cases hv:v<0;simp only[if_pos hv];omega;simp only[if_neg hv];omega
theorem zj(lo hi:Option Int)(n:Nat):Builtin.Slice.sliceAdjust lo hi 1 (n:Int)=(((dR n 0 lo:Nat):Int),((dR n n hi:Nat):Int)):=by
 have h1:¬ ((1:Int)<0):=by omega
 unfold Builtin.Slice.sliceAdjust;simp only[h1,if_false];refine Prod.ext ?_ ?_;cases lo with
 |none=>rfl
 |some v=>exact A5 v n 0
 cases hi with
 |none=>rfl
 |some v=>exact A5 v n n
theorem zk(i j:Nat):Builtin.Slice.slicePlaces (i:Int) (j:Int) 1=j-i:=by
 unfold Builtin.Slice.slicePlaces;have h1:(1:Int) > 0:=by omega
 simp only[h1,if_true,Int.ediv_one];split<;>omega
theorem pq{v:Value}{o:Option Int}{Q:Option Int->Shared->Prop}(p:IsPart v o)(h:Q o s):wpAny (model prog w) A (Builtin.Slice.slicePartIndex v) Q E s:=by
 cases p with
 |none=>exact slicePart_none h
 |int i t=>exact slicePart_int h
theorem mz{sl:Addr}{vl vu:Value}{lo hi:Option Int}{Q:Int×Int×Nat->Shared->Prop}(hs:s.heap.IsSliceOf sl vl vu .none)(pl:IsPart vl lo)(pu:IsPart vu hi)(h:Q (((dR n 0 lo:Nat):Int),1,dR n n hi-dR n 0 lo) s):wpAny (model prog w) A (Builtin.Slice.sliceApplied (.ref sl) (pure (n:Int))) Q E s:=by obtain⟨os,Ug,hcs,XY⟩:=id hs;unfold Builtin.Slice.sliceApplied Builtin.Slice.sliceFields;refine wpAny_bind (wpAny_bind (wpAny_field Ug XY (x:=vl) rfl (wpAny_bind (wpAny_field Ug XY (x:=vu) rfl (wpAny_bind (wpAny_field Ug XY (x:=.none) rfl (wpAny_pure ?_)))))));refine wpAny_bind (slicePart_none ?_);show wpAny _ _ (if ((1:Int)==0)=true then _ else _) _ _ s;rw[if_neg (by decide)];refine wpAny_bind (pq pl (wpAny_bind (pq pu (wpAny_bind (wpAny_pure ?_)))));show wpAny _ _ (match Builtin.Slice.sliceAdjust lo hi 1 (n:Int) with|(lo,hi)=>pure (lo,(1:Int),Builtin.Slice.slicePlaces lo hi 1)) _ _ s;rw[zj lo hi n];show wpAny _ _ (pure (((dR n 0 lo:Nat):Int),(1:Int),Builtin.Slice.slicePlaces ((dR n 0 lo:Nat):Int) ((dR n n hi:Nat):Int) 1)) _ _ s;rw[zk];exact wpAny_pure h
theorem EO(xs:Array Value)(i k:Nat):((List.range k).filterMap λ(m:Nat)=>xs[((i:Int)+(m:Int) * 1).toNat]?).toArray=((xs.toList.drop i).take k).toArray:=by
 have e:(λ(m:Nat)=>xs[((i:Int)+(m:Int) * 1).toNat]?)=λm=>xs[i+m]?:=by
  funext m;have:((i:Int)+(m:Int) * 1).toNat=i+m:=by omega
  rw[this]
 rw[e];have:=pick_run xs i k;rw[List.filterMap_map] at this;have e2:((λx=>xs[x]?) ∘ λx=>i+x)=λm=>xs[i+m]?:=rfl;rw[e2] at this;rw[this]
theorem kP{t sl:Addr}{vl vu:Value}{lo hi:Option Int}(ht:IsTup s.heap t items)(hs:s.heap.IsSliceOf sl vl vu .none)(pl:IsPart vl lo)(pu:IsPart vu hi)(hw:¬ (dR items.size 0 lo=0/\dR items.size items.size hi=items.size))(h:Q (.ref s.heap.objs.size) {s with heap:=s.heap.push {cls:=.type "tuple",data:=.seq ((items.toList.drop (dR items.size 0 lo)).take (dR items.size items.size hi-dR items.size 0 lo)).toArray} })(hsz:items.size<=sizeLine):wpAny (model prog w) A (getItem (.ref t) (.ref sl)) Q E s:=by
 have A6:sizeOk (.seq ((items.toList.drop (dR items.size 0 lo)).take (dR items.size items.size hi-dR items.size 0 lo)).toArray):=by show ((items.toList.drop (dR items.size 0 lo)).take (dR items.size items.size hi-dR items.size 0 lo)).toArray.size<=sizeLine;rw[iz,Tu,List.length_drop,SD];omega
 have hj:dR items.size items.size hi<=items.size:=O5 _ _ (cO _) hi;obtain⟨os,Ug,hcs,XY⟩:=id hs;have hTs:s.TypeIs (.ref sl) "slice":=⟨os,Ug,hcs⟩;unfold getItem
 try with_reducible refine wpAny_holding ?_
 first|refine wpAny_bind (wpAny_pure ?_)|skip
 refine wpAny_bind (wpAny_sequenceKey ht.typeIs (by decide) ?_);refine wpAny_bind (wpAny_callSpecial?_slot (name:=Str.ofString "__getitem__") ht.typeIs YH
  (wpAny_call_entry YH ht.typeIs entry_tuple_getitem ?_ (args_tuple_getitem _ _)))
 show wpAny _ _ (Builtin.Tuple.tupleItemsOf (.ref t) >>= _) _ _ s;refine wpAny_bind (tupleItemsOf_ ht ?_);refine wpAny_bind (wpAny_typeOf hTs ?_);rw[if_pos (by decide)];refine wpAny_bind (mz hs pl pu ?_);have hno:¬ ((((dR items.size 0 lo:Nat):Int)==0 && (1:Int)==1 && (dR items.size items.size hi-dR items.size 0 lo)==items.size)=true):=by intro q;rw[mh,mh] at q;have q1:((dR items.size 0 lo:Nat):Int)=0:=eq_of_beq q.1.1;have q2:dR items.size items.size hi-dR items.size 0 lo=items.size:=eq_of_beq q.2;exact hw ⟨by omega,by omega⟩
 show wpAny _ _ (if (((dR items.size 0 lo:Nat):Int)==0 && (1:Int)==1 && (dR items.size items.size hi-dR items.size 0 lo)==items.size)=true then _ else _) _ _ s;rw[if_neg hno,EO]
 first
  |exact wpAny_bind (m:=Builtin.Tuple.tupleExact _) (wpAny_newObj_type (wpAny_pure ⟨_,rfl,wpAny_pure h⟩) A6)
  |exact wpAny_bind (m:=Builtin.Tuple.tupleExact _) (wpAny_newObj_type (wpAny_bind (wpAny_pure (wpAny_pure ⟨_,rfl,wpAny_pure h⟩))) A6)
  |exact wpAny_bind (wpAny_bind (m:=Builtin.Tuple.tupleExact _) (wpAny_newObj_type (wpAny_pure (wpAny_pure ⟨_,rfl,wpAny_pure h⟩)) A6))
  |exact wpAny_bind (wpAny_bind (m:=Builtin.Tuple.tupleExact _) (wpAny_newObj_type (wpAny_pure ⟨_,rfl,wpAny_pure h⟩) A6))
end
end HT
variable{vs xs:qak}
namespace L2
open PySem PySem.Spec PyProof.Rows
abbrev TO:=St->Hp->(Option Int->Hp->Prop)->Prop
def PO(X:Cx)(e:Option Expr)(t:TO):Prop :=
 ∀(pins:qaa)(s:Shared)(σ:St)(H:Hp)(Q:Option Int->Hp->Prop),Inv X pins σ H s->t σ H Q ->
  wpAny (model X.prog X.w) X.A (evalPart e X.env) (λu s'=>∃o H',Inv X pins σ H' s'/\IsPart u o/\Q o H') X.xe s
def JE:TO:=λ_ H Q=>Q none H
def Uh(t:TE):TO:=λσ H Q=>t σ H λx H1=>∃i,x=.int i/\Q (some i) H1
section
variable{lo hi:Option Expr}{tl th:TO}
theorem JF:PO X none JE:=by intro pins s σ H Q I h;rw[evalPart_none];exact wpAny_pure ⟨none,H,I,.none,h⟩
theorem JG(h:PE X e te):PO X (some e) (Uh te):=by intro pins s σ H Q I hw;rw[evalPart_some];refine b_ (h pins s σ H _ I hw) λu s1 ⟨x,H1,I1,r1,q1⟩=>?_;obtain⟨i,rfl,q⟩:=q1;obtain⟨t,rfl⟩:=r1;exact⟨some i,H1,I1,.int i t,q⟩
def ER(X:Cx)(r:V->Option Int->Option Int->Hp->VK->Prop):Prop :=
 ∀(pins:qaa)(s:Shared)(σ:St)(H:Hp)(x:V)(v vl vu:Value)(lo hi:Option Int)(sl:Addr)(Q:VK),Inv X pins σ H s->RelV x v->s.heap.IsSliceOf sl vl vu .none->IsPart vl lo->IsPart vu hi->r x lo hi H Q ->
  ∃T id,typeLookup (.type T) "__getitem__"=pure (some (.builtin id))/\s.TypeIs v T/\wpAny (model X.prog X.w) X.A (getItem v (.ref sl)) (EP X pins σ Q) X.xe s
theorem ER.or{r r':V->Option Int->Option Int->Hp->VK->Prop}(h:ER X r)(h':ER X r'):ER X (λx lo hi H Q=>r x lo hi H Q\/r' x lo hi H Q):=by
 intro pins s σ H x v vl vu lo hi sl Q I rx hs pl pu q;obtain q|q:=q
 exact h pins s σ H x v vl vu lo hi sl Q I rx hs pl pu q;exact h' pins s σ H x v vl vu lo hi sl Q I rx hs pl pu q
def tSl(r:V->Option Int->Option Int->Hp->VK->Prop)(te:TE)(tl th:TO):TE:=λσ H Q=>te σ H λx H1=>tl σ H1 λl H2=>th σ H2 λu H3=>r x l u H3 Q
theorem ES{r:V->Option Int->Option Int->Hp->VK->Prop}(hr:ER X r)(he:PE X e te)(hl:PO X lo tl)(hu:PO X hi th):PE X (.Subscript e (.Slice lo hi none p2) pos) (tSl r te tl th):=by intro pins s σ H Q I h;refine Subscript_ (b_ (he pins s σ H _ I h) λv s1 ⟨x,H1,I1,r1,q1⟩=>?_);refine wpAny_Slice (b_ (hl pins s1 σ H1 _ I1 q1) λvl s2 ⟨l,H2,I2,pl,q2⟩=>b_ (hu pins s2 σ H2 _ I2 q2) λvu s3 ⟨u,H3,I3,pu,q3⟩=>?_);rw[evalPart_none];refine wpAny_pure ?_;have I4:Inv X pins σ H3 {s3 with heap:=s3.heap.push {cls:=.type "slice",data:=.fields #[vl,vu,.none]} }:=I3.kept (t':=s3.toks) λb ob q=>eZ _ q;obtain⟨T,id,hT,ht,hg⟩:=hr pins {s3 with heap:=s3.heap.push {cls:=.type "slice",data:=.fields #[vl,vu,.none]} } σ H3 x v vl vu l u s3.heap.objs.size Q I4 r1 (Heap.IsSliceOf.new ..) pl pu q3;show wpAny (model X.prog X.w) X.A (subscriptTail e (.Slice lo hi none p2) v (.ref s3.heap.objs.size)) (EP X pins σ Q) X.xe {s3 with heap:=s3.heap.push {cls:=.type "slice",data:=.fields #[vl,vu,.none]} };exact tail_any (ops:=[.ref s3.heap.objs.size,v]) ht hT hg (by with_unfolding_all rfl)
noncomputable def rG(xs:qak)(lo hi:Option Int):qak:=(xs.drop (HT.dR xs.length 0 lo)).take (HT.dR xs.length xs.length hi-HT.dR xs.length 0 lo)
theorem nD(xs:qak)(lo hi:Option Int):(rG xs lo hi).length<=xs.length:=by unfold rG;rw[Tu,List.length_drop];omega
def Ui(K:qaf):V->Option Int->Option Int->Hp->VK->Prop:=λx lo hi H Q=>∃a xs,x=.ref a/\dU K H a xs /\
 ¬ (HT.dR xs.length 0 lo=0/\HT.dR xs.length xs.length hi=xs.length)/\∀p,H p=none->Q (.ref p) (upd H p (.tup (rG xs lo hi)))
theorem O6:ER X (Ui X.K):=by
 intro pins s σ H x v vl vu lo hi sl Q I rx hs pl pu h;obtain⟨a,xs,rfl,hx,hw,q⟩:=h;cases rx;obtain⟨aN,r,ht,hz⟩:=I.tuple hx;have hlen:aN.toArray.size=xs.length:=by rw[iz];exact r.length.symm
 refine⟨"tuple",_,YH.lookup,ht.typeIs,?_⟩;refine HT.kP ht hs pl pu (by rw[hlen];exact hw) ?_ (by rw[hlen];exact hz);rw[hlen];refine⟨.ref s.heap.objs.size,_,I.laid (t':=s.toks) (o:=.tup (rG xs lo hi)) (λb ob q=>eZ _ q) (cO _) ?_,rfl,q _ (I.cm.fresh (cO _))⟩;exact⟨mm (nD xs lo hi) hz,_,(r.drop (HT.dR xs.length 0 lo)).take (HT.dR xs.length xs.length hi-HT.dR xs.length 0 lo),IsTup.new _ _⟩
theorem Vals.jh(r:Vals xs us):us=[]↔xs=[]:=by
 cases r with
 |_=>simp
end
noncomputable def v8(n:Nat)(i:Int):Option Nat:=if 0<=i then (if i<n then some i.toNat else none) else if -(n:Int)<=i then some (i+n).toNat else none
noncomputable def jN{α:Type}(xs:List α)(i:Int):Option α:=(v8 xs.length i).bind λj=>xs[j]?
theorem A7{i:Int}(h:v8 n i=some j):seqIndex? i n=some j/\j<n/\-(n:Int)<=i/\i<n:=by unfold v8 at h;by_cases h0:0<=i;rw[if_pos h0] at h;by_cases h1:i<n;rw[if_pos h1] at h;have e:i.toNat=j:=Option.some.inj h;exact⟨by rw[seqIndex_of h0 h1,e],by omega,by omega,h1⟩;rw[if_neg h1] at h;cases h;rw[if_neg h0] at h;by_cases h1 : -(n:Int)<=i;rw[if_pos h1] at h;have e:(i+n).toNat=j:=Option.some.inj h;exact⟨by rw[seqIndex_neg (by omega) h1,e],by omega,h1,by omega⟩;rw[if_neg h1] at h;cases h
theorem ug{xs:List α}{i:Int}{v:α}(h:jN xs i=some v):∃j,seqIndex? i xs.length=some j/\xs[j]?=some v/\j<xs.length/\-(xs.length:Int)<=i/\i<xs.length:=by
 unfold jN at h;cases e:v8 xs.length i with
 |none=>rw[e] at h;cases h
 |some j=>rw[e] at h;obtain⟨h1,h2,h3,h4⟩:=A7 e;exact⟨j,h1,h,h2,h3,h4⟩
theorem ai{xs:List α}{v:α}(h:xs[j]?=some v):jN xs (j:Int)=some v:=by
 have hj:j<xs.length:=(eB.mp h).1;have e:v8 xs.length (j:Int)=some j:=by unfold v8;rw[if_pos (by omega),if_pos (by omega)];simp
 unfold jN;rw[e];exact h
theorem pv(xs:List α)(v:α):jN (xs++[v]) (-1)=some v:=by
 have hl:(xs++[v]).length=xs.length+1:=by simp
 have e:v8 (xs++[v]).length (-1)=some xs.length:=by
  unfold v8;rw[hl,if_neg (by decide),if_pos (by omega)]
  congr 1
  omega
 unfold jN;rw[e];show (xs++[v])[xs.length]?=some v;simp
def uh(b:Expr):Prop:=∀o i,subscripted b false o i=operate [o,i] (getItem o i)
def JH(X:Cx)(r:R2):Prop :=
 ∀(value slice:Expr)(pins:qaa)(s:Shared)(σ:St)(H:Hp)(x y:V)(v u:Value)(Q:VK),Inv X pins σ H s->RelV x v->RelV y u->r x y H Q ->
  subscripted slice false v u=operate [v,u] (getItem v u)->wpAny (model X.prog X.w) X.A (subscriptTail value slice v u) (EP X pins σ Q) X.xe s
def MT(X:Cx)(id:String)(r:V->qak->Hp->VK->Prop):Prop :=
 ∀(pins:qaa)(s:Shared)(σ:St)(H:Hp)(x:V)(xs:qak)(v:Value)(us:qag)(Q:VK),Inv X pins σ H s->RelV x v->Vals xs us->r x xs H Q ->
  wpAny (model X.prog X.w) X.A (call (.builtin id) (v::us)) (EP X pins σ Q) X.xe s
section
variable{a:Expr}{tb:TE}
theorem JH.or{r r':R2}(h:JH X r)(h':JH X r'):JH X (λx y H Q=>r x y H Q\/r' x y H Q):=by
 intro value slice pins s σ H x y v u Q I rx ry q hs;obtain q|q:=q
 exact h value slice pins s σ H x y v u Q I rx ry q hs;exact h' value slice pins s σ H x y v u Q I rx ry q hs
theorem MV{r:R2}(hr:JH X r)(ha:PE X a ta)(hb:PE X b tb)(hs:uh b):PE X (.Subscript a b pos) (T1 r ta tb):=by intro pins s σ H Q I h;exact Subscript_ (OR ha hb I h λv u s2 x y H2 I2 rx ry q=>hr a b pins s2 σ H2 x y v u Q I2 rx ry q (hs _ _))
noncomputable def Uj(K:qaf):R2:=λx y H Q=>∃p xs i v,x=.ref p/\y=.int i/\fW K H p xs/\jN xs i=some v/\Q v H
noncomputable def Uk(K:qaf):R2:=λx y H Q=>∃p xs i v,x=.ref p/\y=.int i/\dU K H p xs/\jN xs i=some v/\Q v H
noncomputable def Ul:R2:=λx y H Q=>∃z i c,x=.str z/\y=.int i/\z.length<=sizeLine/\jN z.cps.toList i=some c/\Q (.str ⟨#[c]⟩) H
theorem A8:JH X (Uj X.K):=by
 intro value slice pins s σ H x y v u Q I rx ry h hs;obtain⟨p,xs,i,z,rfl,rfl,hq,he,q⟩:=h;cases rx;obtain⟨t,rfl⟩:=ry;obtain⟨aN,r,pl,hz⟩:=I.list hq;obtain⟨j,h1,h2,h3,h4,h5⟩:=ug he;obtain⟨w,ew,rw'⟩:=r.get h2;have hl:=r.length;have hn:=mx;have fin:EP X pins σ Q w s:=⟨z,H,I,rw',q⟩;by_cases h0:0<=i;have hj:i.toNat=j:=by rw[seqIndex_of h0 h5] at h1;exact Option.some.inj h1
 exact item_listR pl.isList h0 (by omega) (by rw[hj];simpa using ew) fin hs;have hj:(i+(aN.toArray.size:Int)).toNat=j:=by rw[seqIndex_neg (by omega) h4] at h1;rw[iz,<- hl];exact Option.some.inj h1
 exact subscriptTail_builtinR (x:=w) pl.isList.typeIs slot_list_getitem.lookup
  (wpAny_getItem_list_neg (Q:=λr s'=>r=w/\EP X pins σ Q r s') pl.isList (by omega) (by rw[iz]<;>omega) (by omega) (by rw[hj];simpa using ew) ⟨rfl,fin⟩) hs
theorem O7:JH X (Uk X.K):=by
 intro value slice pins s σ H x y v u Q I rx ry h hs;obtain⟨p,xs,i,z,rfl,rfl,hq,he,q⟩:=h;cases rx;obtain⟨t,rfl⟩:=ry;obtain⟨aN,r,pl,hz⟩:=I.tuple hq;obtain⟨j,h1,h2,h3,h4,h5⟩:=ug he;obtain⟨w,ew,rw'⟩:=r.get h2;have hl:=r.length;have hn:=mx;have fin:EP X pins σ Q w s:=⟨z,H,I,rw',q⟩;exact subscriptTail_builtinR (x:=w) pl.typeIs slot_tuple_getitem.lookup
  (getItem_tuple (j:=j) (Q:=λr s'=>r=w/\EP X pins σ Q r s') pl (by omega) (by omega) (by rw[iz,<- hl];exact h1) (by simpa using ew) ⟨rfl,fin⟩) hs
theorem O8:JH X Ul:=by
 intro value slice pins s σ H x y v u Q I rx ry h hs;obtain⟨z,i,c,rfl,rfl,hz,he,q⟩:=h;obtain⟨t,rfl⟩:=rx;obtain⟨t',rfl⟩:=ry;obtain⟨j,h1,h2,h3,h4,h5⟩:=ug he;have hl:z.cps.toList.length=z.length:=by simp[Str.length]
 rw[hl] at h1 h4 h5;have hn:=mx;exact tail_any (typeIs_str s z t) slot_str_getitem.lookup (getItem_str (c:=c) (by have e1:decide (i < -(2 ^ 63:Int))=false:=decide_eq_false (by omega);have e2:decide (i ≥ 2 ^ 63)=false:=decide_eq_false (by omega);rw[e1,e2,Bool.or_false]) (by rw[h1];simpa using h2) ⟨.str ⟨#[c]⟩,H,I.tok _,⟨_,rfl⟩,q⟩) hs
noncomputable def rIx(K:qaf):R2:=λx y H Q=>Uj K x y H Q\/Uk K x y H Q\/Ul x y H Q
theorem O9:JH X (rIx X.K):=A8.or (O7.or O8)
theorem zl(aN:qag)(n j:Nat)(u:Value):Obj.mapSeq (·.setIfInBounds j u) {cls:=.type "list",data:=.seq aN.toArray n}={cls:=.type "list",data:=.seq (aN.set j u).toArray n}:=by simp[Obj.mapSeq]
theorem Inv.lst{p:Addr}(I:Inv X pins σ H s)(h:H p=some (.lst xs)) :
  ∃(aN:qag)(n:Nat),Vals xs aN/\s.heap.get? p=some {cls:=.type "list",data:=.seq aN.toArray n}/\xs.length<=sizeLine:=by
 obtain⟨z,aN,n,r,e⟩:=I.cm p _ h;exact⟨aN,n,r,e,z⟩
theorem Inv.O_{p:Addr}{ys:qak}{aN its':qag}{n':Nat}{f:Obj->Obj}(I:Inv X pins σ H s)(h:H p=some (.lst xs))(ho:s.heap.get? p=some {cls:=.type "list",data:=.seq aN.toArray n})(hf:f {cls:=.type "list",data:=.seq aN.toArray n}={cls:=.type "list",data:=.seq its'.toArray n'})(r:Vals ys its')(hz:ys.length<=sizeLine)(t:Nat) :
  Inv X pins σ (upd H p (.lst ys)) {s with heap:=s.heap.update p f,toks:=t}:=by
 have e:(s.heap.update p f).get? p=some {cls:=.type "list",data:=.seq its'.toArray n'}:=by rw[Heap.get?_update_self f ho (by rw[hf]<;>rfl),hf]
 refine I.write (x:=p) (e:=p) (by rw[h];trivial) (.inl rfl) (λb u hb q=>(Heap.get?_update_other _ _ (Ne.symm hb)).trans q) ⟨_,e⟩ ?_;exact⟨hz,its',n',r,e⟩
def Um:V->V->V->Hp->(Hp->Prop)->Prop:=λo i v H Q=>∃p xs k j,o=.ref p/\i=.int k/\H p=some (.lst xs)/\v8 xs.length k=some j/\Q (upd H p (.lst (xs.set j v)))
theorem set_list:TR X Um:=by
 intro pins s σ H o i v ov iv u Q I ro ri rv h;obtain⟨p,xs,k,j,rfl,rfl,hp,hj,q⟩:=h;cases ro;obtain⟨t,rfl⟩:=ri;obtain⟨aN,n,r,ho,hz⟩:=I.lst hp;obtain⟨h1,h2,h3,h4⟩:=A7 hj;have hl:=r.length;have hn:=mx;have I':Inv X pins σ (upd H p (.lst (xs.set j v))) {s with heap:=s.heap.update p (Obj.mapSeq (·.setIfInBounds j u))} :=
  I.O_ hp ho (zl aN n j u) (r.set rv j) (by rw[IQ];exact hz) s.toks
 by_cases h0:0<=k;have hk:k.toNat=j:=by rw[seqIndex_of h0 h4] at h1;exact Option.some.inj h1
 exact PySem.W.ki_setAt ho h0 (by omega) (by rw[iz,<- hl];exact h4) (by rw[hk];exact⟨_,I',q⟩);have hk:(k+(aN.toArray.size:Int)).toNat=j:=by rw[seqIndex_neg (by omega) h3] at h1;rw[iz,<- hl];exact Option.some.inj h1
 exact PySem.W.ki_setBack ho (by omega) (by rw[iz,<- hl];exact h3) (by omega) (by rw[hk];exact⟨_,I',q⟩)
theorem uj(lo hi:Option Int)(n:Nat):(sliceBounds lo hi none n).1=((HT.dR n 0 lo:Nat):Int)/\(sliceBounds lo hi none n).2.1=((HT.dR n n hi:Nat):Int)/\(sliceBounds lo hi none n).2.2=1:=by
 refine⟨?_,?_,rfl⟩;cases lo with
 |none=>simp[sliceBounds,HT.dR]
 |some i=>simp only[sliceBounds,HT.dR,Option.getD_none,show (1:Int) > 0 by decide,if_true];by_cases h:i<0;simp only[h,if_true]<;>omega;simp only[h,if_false]<;>omega
 cases hi with
 |none=>simp[sliceBounds,HT.dR]
 |some i=>simp only[sliceBounds,HT.dR,Option.getD_none,show (1:Int) > 0 by decide,if_true];by_cases h:i<0;simp only[h,if_true]<;>omega;simp only[h,if_false]<;>omega
theorem rH(aN:qag)(lo hi:Option Int):slicePick aN.toArray lo hi none=((aN.drop (HT.dR aN.length 0 lo)).take (HT.dR aN.length aN.length hi-HT.dR aN.length 0 lo)).toArray:=by obtain⟨h1,h2,h3⟩:=uj lo hi aN.toArray.size;unfold slicePick;rw[h1,h2,h3];simp only[sliceRange_one,pick_run,iz]<;>rfl
def Uo(K:qaf):V->Option Int->Option Int->Hp->VK->Prop:=λx lo hi H Q=>∃a xs,x=.ref a/\fW K H a xs/\∀p,H p=none->Q (.ref p) (upd H p (.lst (rG xs lo hi)))
theorem JI:ER X (Uo X.K):=by intro pins s σ H x v vl vu lo hi sl Q I rx hs pl pu h;obtain⟨a,xs,rfl,hx,q⟩:=h;cases rx;obtain⟨aN,r,ht,hz⟩:=I.list hx;have hlen:=r.length;refine⟨"list",_,slot_list_getitem.lookup,ht.isList.typeIs,?_⟩;refine wpAny_getItem_list_slice ht.isList hs pl pu .none (by simp) ?_ (by rw[iz]<;>omega);rw[rH,<- hlen];refine⟨.ref s.heap.objs.size,_,I.laid (t':=s.toks) (o:=.lst (rG xs lo hi)) (λb ob q=>eZ _ q) (cO _) ?_,rfl,q _ (I.cm.fresh (cO _))⟩;exact⟨mm (nD xs lo hi) hz,_,0,(r.drop (HT.dR xs.length 0 lo)).take (HT.dR xs.length xs.length hi-HT.dR xs.length 0 lo),mf _ rfl⟩
def iJ:V->Bool
 |.aO=>true
 |.bl _=>true
 |.int _=>true
 |.str _=>true
 |_=>false
noncomputable def Ja:V->V->Bool
 |.aO,.aO=>true
 |.bl a,.bl b=>a==b
 |.bl a,.int b=>(if a then 1 else 0)==b
 |.int a,.bl b=>a==(if b then 1 else 0)
 |.int a,.int b=>a==b
 |.str a,.str b=>a==b
 |_,_=>false
theorem Pa{y x:V}{v:Value}(ry:RelV y u)(rx:RelV x v)(fy:iJ y=true)(fx:iJ x=true):SeqAt.EqAt A s u v (Ja y x):=by
 cases y with
 |aO=>
  cases ry;cases x with
  |aO=>cases rx;exact SeqAt.EqAt.same _
  |bl b=>cases rx;exact SeqAt.EqAt.none_bool b
  |int b=>obtain⟨t,rfl⟩:=rx;exact SeqAt.EqAt.none_int b t
  |str b=>obtain⟨t,rfl⟩:=rx;exact SeqAt.EqAt.none_str b t
  |_=>exact absurd (show false=true from fx) eO
 |bl a=>
  cases ry;cases x with
  |aO=>cases rx;exact SeqAt.EqAt.bool_none a
  |bl b=>cases rx;exact SeqAt.EqAt.bool_bool a b
  |int b=>obtain⟨t,rfl⟩:=rx;exact SeqAt.EqAt.bool_int a b t
  |str b=>obtain⟨t,rfl⟩:=rx;exact SeqAt.EqAt.bool_str a b t
  |_=>exact absurd (show false=true from fx) eO
 |int a=>
  obtain⟨t',rfl⟩:=ry;cases x with
  |aO=>cases rx;exact SeqAt.EqAt.int_none a t'
  |bl b=>cases rx;exact SeqAt.EqAt.int_bool a t' b
  |int b=>obtain⟨t,rfl⟩:=rx;exact SeqAt.EqAt.int_int a t' b t
  |str b=>obtain⟨t,rfl⟩:=rx;exact SeqAt.EqAt.int_str a t' b t
  |_=>exact absurd (show false=true from fx) eO
 |str a=>
  obtain⟨t',rfl⟩:=ry;cases x with
  |aO=>cases rx;exact SeqAt.EqAt.str_none a t'
  |bl b=>cases rx;exact SeqAt.EqAt.str_bool a t' b
  |int b=>obtain⟨t,rfl⟩:=rx;exact SeqAt.EqAt.str_int a t' b t
  |str b=>obtain⟨t,rfl⟩:=rx;exact SeqAt.EqAt.str_str a t' b t
  |_=>exact absurd (show false=true from fx) eO
 |_=>exact absurd (show false=true from fy) eO
noncomputable def zm(x:V)(u:Value):Bool:=match u with
 |.none=>Ja .aO x
 |.bool b=>Ja (.bl b) x
 |.int i _=>Ja (.int i) x
 |.str z _=>Ja (.str z) x
 |_=>false
theorem ET{x y:V}(r:RelV y u)(f:iJ y=true):zm x u=Ja y x:=by
 cases y with
 |aO=>cases r;rfl
 |bl b=>cases r;rfl
 |int i=>obtain⟨t,rfl⟩:=r;rfl
 |str z=>obtain⟨t,rfl⟩:=r;rfl
 |_=>exact absurd (show false=true from f) eO
theorem kQ{x:V}:∀{xs:qak}{us:qag},Vals xs us->xs.all iJ=true->us.any (zm x)=xs.any λy=>Ja y x
 |_,_,.nil,_=>rfl
 |y::xs,u::us,.cons r t,f=>by rw[List.all_cons,mh] at f;rw[Es,Es,ET r f.1,kQ t f.2]
theorem iK{A:Around}{s:Shared}{x:V}{v:Value}(rx:RelV x v)(fx:iJ x=true):∀{xs:qak}{us:qag},Vals xs us->xs.all iJ=true->∀u∈us,SeqAt.EqAt A s u v (zm x u)
 |_,_,.nil,_=>λu hu=>by cases hu
 |y::xs,u::us,.cons r t,f=>λu' hu=>by
  rw[List.all_cons,mh] at f;rcases c7.mp hu with rfl|hu
  rw[ET r f.1];exact Pa r rx f.1 fx;exact iK rx fx t f.2 u' hu
noncomputable def XZ(x:V)(xs:qak):Bool:=xs.any λy=>Ja y x
noncomputable def Zs(K:qaf)(neg:Bool):R2:=λx y H Q=>∃p xs,y=.ref p/\(fW K H p xs\/dU K H p xs)/\iJ x=true/\xs.all iJ=true/\Q (.bl (if neg then !XZ x xs else XZ x xs)) H
theorem CN:fg X (compareOp .In) (Zs X.K false):=by
 intro pins s σ H x y v u Q I rx ry h;obtain⟨p,xs,rfl,hq,fx,fs,q⟩:=h;cases ry;obtain hq|hq:=hq
 obtain⟨aN,r,pl,hz⟩:=I.list hq;refine SeqAt.in_listAt (zm x) pl.isList (λw hw=>iK rx fx r fs w (by simpa using hw)) ⟨.bl _,H,I,rfl,?_⟩;rw[show aN.toArray.any (zm x)=aN.any (zm x) by simp,kQ r fs];exact q;obtain⟨aN,r,pl,hz⟩:=I.tuple hq;refine SeqAt.in_tupleAt (zm x) pl (λw hw=>iK rx fx r fs w (by simpa using hw)) ⟨.bl _,H,I,rfl,?_⟩;rw[show aN.toArray.any (zm x)=aN.any (zm x) by simp,kQ r fs];exact q
theorem uk:fg X (compareOp .NotIn) (Zs X.K true):=by
 intro pins s σ H x y v u Q I rx ry h;obtain⟨p,xs,rfl,hq,fx,fs,q⟩:=h;cases ry;obtain hq|hq:=hq
 obtain⟨aN,r,pl,hz⟩:=I.list hq;refine SeqAt.notIn_listAt (zm x) pl.isList (λw hw=>iK rx fx r fs w (by simpa using hw)) ⟨.bl _,H,I,rfl,?_⟩;rw[show aN.toArray.any (zm x)=aN.any (zm x) by simp,kQ r fs];exact q;obtain⟨aN,r,pl,hz⟩:=I.tuple hq;refine SeqAt.notIn_tupleAt (zm x) pl (λw hw=>iK rx fx r fs w (by simpa using hw)) ⟨.bl _,H,I,rfl,?_⟩;rw[show aN.toArray.any (zm x)=aN.any (zm x) by simp,kQ r fs];exact q
theorem um:fg X (compareOp .NotIn) (λx y H Q=>∃i j,x=.str i/\y=.str j/\Q (.bl (!(!(Builtin.Str.occurrences j i 0 j.length 1).isEmpty))) H):=by intro pins s σ H x y v u Q I rx ry h;obtain⟨i,j,rfl,rfl,q⟩:=h;obtain⟨t,rfl⟩:=rx;obtain⟨t',rfl⟩:=ry;exact notIn_str ⟨.bl _,H,I,rfl,q⟩
theorem uo:dN X (.builtin "len") (λxs H Q=>∃p ys,xs=[.ref p]/\(fW X.K H p ys\/dU X.K H p ys)/\Q (.int ys.length) H):=by
 intro pins s σ H xs us Q I r h;obtain⟨p,ys,rfl,hq,q⟩:=h;obtain⟨u,rfl,rx⟩:=vals1 r;cases rx;have hn:=mx;obtain hq|hq:=hq
 obtain⟨aN,r',pl,hz⟩:=I.list hq;have hlen:=r'.length;exact Calls.call_len_list pl.isList (by simp only[iz]<;>omega) ⟨.int ys.length,H,I.tok _,⟨s.toks+1,by rw[iz,hlen]⟩,q⟩;obtain⟨aN,r',pl,hz⟩:=I.tuple hq;have hlen:=r'.length;exact len_tuple pl (by simp only[iz]<;>omega) ⟨.int ys.length,H,I.tok _,⟨s.toks+1,by rw[iz,hlen]⟩,q⟩
theorem uq:dN X (.builtin "len") (λxs H Q=>∃z,xs=[.str z]/\z.length<=sizeLine/\Q (.int z.length) H):=by intro pins s σ H xs us Q I r h;obtain⟨z,rfl,hz,q⟩:=h;obtain⟨u,rfl,t,rfl⟩:=vals1 r;have hn:=mx;exact len_str (by omega) ⟨.int z.length,H,I.tok _,⟨_,rfl⟩,q⟩
theorem dN.or{f:Value}{r r':qak->Hp->VK->Prop}(h:dN X f r)(h':dN X f r'):dN X f (λxs H Q=>r xs H Q\/r' xs H Q):=by
 intro pins s σ H xs us Q I rs q;obtain q|q:=q
 exact h pins s σ H xs us Q I rs q;exact h' pins s σ H xs us Q I rs q
theorem kR:dN X (.type "list") (λxs H Q=>∃p ys,xs=[.ref p]/\(fW X.K H p ys\/dU X.K H p ys)/\∀l,H l=none->Q (.ref l) (upd H l (.lst ys))):=by
 intro pins s σ H xs us Q I r h;obtain⟨p,ys,rfl,hq,q⟩:=h;obtain⟨u,rfl,rx⟩:=vals1 r;cases rx;have fin:∀(aN:qag),Vals ys aN->ys.length<=sizeLine->∀(h':Heap)(c':Nat),(∀b o',s.heap.get? b=some o'->h'.get? b=some o') ->
   h'.get? s.heap.objs.size=some {cls:=.type "list",dict:=none,data:=.seq aN.toArray c',slots:=#[]}->EP X pins σ Q (.ref s.heap.objs.size) {s with heap:=h'}:=λaN r' hz h' c' kp e=>
  ⟨.ref s.heap.objs.size,_,I.laid (t':=s.toks) kp (cO _) (show cw X.prog X.w _ h' _ (.lst ys) from⟨hz,aN,c',r',e⟩),rfl,q _ (I.cm.fresh (cO _))⟩
 obtain hq|hq:=hq
 obtain⟨aN,r',pl,hz⟩:=I.list hq;have hlen:=r'.length;obtain⟨o,ho,hc,n,hd⟩:=pl.isList;exact call_list_seq p (.inl rfl) ho hc hd (λh' c' kp e=>fin aN r' hz h' c' kp e) (by simp only[iz]<;>omega);obtain⟨aN,r',pl,hz⟩:=I.tuple hq;have hlen:=r'.length;obtain⟨o,ho,hc,n,hd⟩:=pl;exact call_list_seq p (.inr rfl) ho hc hd (λh' c' kp e=>fin aN r' hz h' c' kp e) (by simp only[iz]<;>omega)
theorem rJ:dN X (.type "tuple") (λxs H Q=>∃p ys,xs=[.ref p]/\((fW X.K H p ys/\∀l,H l=none->Q (.ref l) (upd H l (.tup ys)))\/(dU X.K H p ys/\Q (.ref p) H))):=by
 intro pins s σ H xs us Q I r h;obtain⟨p,ys,rfl,h⟩:=h;obtain⟨u,rfl,rx⟩:=vals1 r;cases rx;obtain⟨hq,q⟩|⟨hq,q⟩:=h
 obtain⟨aN,r',pl,hz⟩:=I.list hq;have hlen:=r'.length;refine call_tuple_list pl.isList (λh' kp=>?_) (by simp only[iz]<;>omega);have I1:Inv X pins σ H {s with heap:=h'}:=I.kept (t':=s.toks) kp;have I2:Inv X pins σ (upd H h'.objs.size (.tup ys)) {s with heap:=h'.push {cls:=.type "tuple",data:=.seq aN.toArray} } :=
  I1.laid (t':=s.toks) (λb o e=>eZ _ e) (cO _) (show cw X.prog X.w _ _ _ (.tup ys) from⟨hz,aN,r',IsTup.new _ _⟩)
 exact⟨.ref h'.objs.size,_,I2,rfl,q _ (I1.cm.fresh (cO _))⟩;obtain⟨aN,r',pl,hz⟩:=I.tuple hq;exact call_tuple_same pl ⟨.ref p,H,I,rfl,q⟩
def Zt(K:qaf)(T:String)(x:V)(H:Hp):Prop:=match x with
 |.str _=>T="str"
 |.int _=>T="int"
 |.ref p=>(T="list"/\∃xs,fW K H p xs)\/(T="tuple"/\∃o,K.lookup p=some o/\o.cls=.type "tuple"/\o.dict=none) \/
  (T="dict"/\((∃aT,H p=some (.dK aT))\/∃aT,H p=some (.dT aT)))\/(T="set"/\∃S n,H p=some (.set S n))
 |_=>False
theorem EU{T:String}{x:V}{v:Value}(I:Inv X pins σ H s)(r:RelV x v)(ty:Zt X.K T x H) :
  s.TypeIs v T/\∀a,v=.ref a->∃ob,s.heap.get? a=some ob/\ob.dict=none:=by
 cases x with
 |str z=>obtain⟨t,rfl⟩:=r;cases (show T="str" from ty);exact⟨typeIs_str s z t,λ_ e=>nomatch e⟩
 |int i=>obtain⟨t,rfl⟩:=r;cases (show T="int" from ty);exact⟨typeIs_int s i t,λ_ e=>nomatch e⟩
 |ref p=>
   cases r;obtain⟨rfl,xs,hq⟩|⟨rfl,o,hk,hc,hd⟩|⟨rfl,hk⟩|⟨rfl,S,n,hk⟩:=ty
   obtain⟨aN,_,pl,_⟩:=I.list hq;refine⟨pl.isList.typeIs,λa e=>?_⟩;cases e;obtain⟨o,n,e,c,hd,_⟩:=pl;exact⟨o,e,hd⟩;refine⟨⟨o,I.rD p o hk,hc⟩,λa e=>?_⟩;cases e;exact⟨o,I.rD _ o hk,hd⟩;have z:∃o,s.heap.get? p=some o/\o.ExactDict:=by
    obtain⟨aT,hk⟩|⟨aT,hk⟩:=hk
    obtain⟨_,_,_,_,o,_,_,e,ex,_⟩:=I.cm p _ hk;exact⟨o,e,ex⟩;obtain⟨_,_,_,_,o,_,_,e,ex,_⟩:=I.cm p _ hk;exact⟨o,e,ex⟩
   obtain⟨o,e,ex⟩:=z;refine⟨⟨o,e,ex.1⟩,λa e2=>?_⟩;cases e2;exact⟨o,e,ex.2.1⟩;obtain⟨o,_,_,_,e,ex,_⟩:=I.cm p _ hk;refine⟨⟨o,e,ex.1⟩,λa e2=>?_⟩;cases e2;exact⟨o,e,ex.2.1⟩
 |_=>exact False.elim ty
def Zu(K:qaf)(T:String)(r:V->qak->Hp->VK->Prop)(to:TE):TE:=λσ H Q=>to σ H λx H1=>Zt K T x H1/\r x [] H1 Q
def tBM(K:qaf)(T:String)(r:V->qak->Hp->VK->Prop)(to:TE)(t:TA):TE:=λσ H Q=>to σ H λx H1=>Zt K T x H1/\t σ H1 λxs H2=>r x xs H2 Q
variable{to:TE}{t:TA}{name:Str}{T id:String}{r:V->qak->Hp->VK->Prop}
theorem zo(pa:PlainAttrs T)(slot:Slot T name id)(Pb:typeOf (.builtin id)=pure (.type "method_descriptor"))(hm:MT X id r)(ho:PE X o to)(c8:attributeBase o name X.env (eval o X.env)=eval o X.env:=by rfl)(c9:(apos.endLine==aV.line)=true:=by rfl):PE X (.Call (.Attribute o name apos) [] [] aV) (Zu X.K T r to):=by intro pins s σ H Q I h;refine wpAny_Call_method0_late c8 c9 (b_ (ho pins s σ H _ I h) λv s1 ⟨x,H1,I1,r1,ty,q1⟩=>?_);obtain⟨h1,h2⟩:=EU I1 r1 ty;exact⟨T,id,pa,slot,Pb,h1,h2,XC rfl (PySem.evalArgs_none (hm pins s1 σ H1 x [] v [] Q I1 r1 .nil q1))⟩
theorem pA(pa:PlainAttrs T)(slot:Slot T name id)(Pb:typeOf (.builtin id)=pure (.type "method_descriptor"))(hm:MT X id r)(ho:PE X o to)(ha:PA X (e::es) t)(c8:attributeBase o name X.env (eval o X.env)=eval o X.env:=by rfl)(j7:((backTo aV (starEach (e::es) X.env)).all (λx=>!x.1) && (backToKw aV (keywordEach [] X.env)).all (λx=>x.1.isSome)
    && decide ((e::es).length+([]:List Keyword).length+(if ([]:List Keyword).isEmpty then 0 else 1)<30))=true:=by rfl)(c9:(apos.endLine==aV.line)=true:=by rfl)(hs:starEach (e::es) X.env=(false,eval e X.env)::starEach es X.env:=by rfl)(dH:(backTo aV (starEach es X.env)).any (·.1)=false:=by rfl) :
  PE X (.Call (.Attribute o name apos) (e::es) [] aV) (tBM X.K T r to t):=by
 intro pins s σ H Q I h;refine wpAny_Call_method_late c8 j7 c9 rfl (b_ (ho pins s σ H _ I h) λv s1 ⟨x,H1,I1,r1,ty,q1⟩=>?_);obtain⟨h1,h2⟩:=EU I1 r1 ty;refine⟨T,id,pa,slot,Pb,h1,h2,?_⟩;have hA:=ha aV pins s1 σ H1 _ I1 q1;rw[hs] at hA ⊢;refine XC (by show (false || (backTo aV (starEach es X.env)).any (·.1))=false;rw[dH]<;>rfl) (Calls.evalArgs_plain ?_);exact b_ hA λus s2 ⟨vs,H2,I2,r2,q2⟩=>hm pins s2 σ H2 x vs v us Q I2 r1 r2 q2
end
def Zv(X:Cx)(id:String)(r:V->qak->Hp->VK->Prop):Prop :=
 ∀(pins:qaa)(s:Shared)(σ:St)(H:Hp)(x:V)(xs:qak)(v:Value)(us:qag)(Q:VK),Inv X pins σ H s->RelV x v->Vals xs us->r x xs H Q ->
  wpAny (model X.prog X.w) X.A (call (.builtin id) (v::us)) (EP X pins σ Q) X.xe s
theorem Vals.one:∀{x:V}{us:qag},Vals [x] us->∃u,us=[u]/\RelV x u
 |_,_,.cons r .nil=>⟨_,rfl,r⟩
theorem Vals.zero:∀{us:qag},Vals [] us->us=[]
 |_,.nil=>rfl
theorem Vals.dropLast(h:Vals xs us):Vals xs.dropLast us.dropLast:=by
 induction h with
 |nil=>exact .nil
 |cons r t ih=>
  cases t with
  |nil=>exact .nil
  |cons q t'=>exact .cons r ih
theorem Vals.rep{xs:qak}{us:qag}(h:Vals xs us):∀k:Nat,Vals (List.replicate k xs).flatten (List.replicate k us).flatten
 |0=>.nil
 |k+1=>by rw[Eo,Eo,Oq,Oq];exact Vals.append h (Vals.rep h k)
theorem zp(l:List α):l.eraseIdx (l.length-1)=l.dropLast:=by
 induction l with
 |nil=>rfl
 |cons a r ih=>
  cases r with
  |nil=>rfl
  |cons b r=>
   have e:(a::b::r).length-1=((b::r).length-1)+1:=by have h1:(a::b::r).length=r.length+2:=rfl;have h2:(b::r).length=r.length+1:=rfl;omega
   rw[e,List.eraseIdx_cons_succ,ih]
   all_goals rfl
theorem foldl_rep(aN:qag):∀(k:Nat)(acc:qag),
  List.foldl (λx1 x2=>x1++x2) acc.toArray (List.replicate k aN.toArray)=(acc++(List.replicate k aN).flatten).toArray
 |0,acc=>by simp
 |k+1,acc=>by
   have e:acc.toArray++aN.toArray=(acc++aN).toArray:=by simp
   have e2:(acc++aN)++(List.replicate k aN).flatten=acc++(List.replicate (k+1) aN).flatten:=by rw[Eo,Oq,MB]
   rw[<- e2,<- foldl_rep aN k (acc++aN),<- e,Eo,List.foldl_cons]
section
variable{l b:Addr}{ys zs:qak}
theorem Inv.Pc{aN its':qag}{f:Array Value->Array Value}(I:Inv X pins σ H s)(hH:H l=some (.lst xs))(e:s.heap.get? l=some {cls:=.type "list",data:=.seq aN.toArray n})(hf:f aN.toArray=its'.toArray)(hv:Vals ys its')(hz:ys.length<=sizeLine) :
  Inv X pins σ (upd H l (.lst ys)) {s with heap:=s.heap.update l (Obj.mapSeq f),toks:=t'}:=by
 have q:=PySem.IsL.update e f;rw[hf] at q;refine I.write (x:=l) (e:=l) (by rw[hH];exact trivial) (.inl rfl) (λb' u hb hu=>(Heap.get?_update_other s.heap (Obj.mapSeq f) (Ne.symm hb)).trans hu) ⟨_,q⟩ ?_;exact⟨hz,its',_,hv,q⟩
theorem Inv.Up{aN:qag}(I:Inv X pins σ H s)(hv:Vals ys aN)(hz:ys.length<=sizeLine) :
  Inv X pins σ (upd H s.heap.objs.size (.lst ys)) {s with heap:=s.heap.push {cls:=.type "list",data:=.seq aN.toArray},toks:=t'} :=
 I.laid (λ_ _ q=>eZ _ q) (cO _) ⟨hz,aN,0,hv,mf _ rfl⟩
theorem Inv.fresh(I:Inv X pins σ H s):H s.heap.objs.size=none:=I.cm.fresh (cO _)
theorem Inv.EV(I:Inv X pins σ H s)(hH:H l=some (.lst xs)):xs.length<=sizeLine/\∃(aN:qag)(n:Nat),Vals xs aN/\xs.length=aN.length/\s.heap.get? l=some {cls:=.type "list",data:=.seq aN.toArray n}:=by obtain⟨z,aN,n,r,e⟩:=I.cm l _ hH;exact⟨z,aN,n,r,r.length,e⟩
theorem wF(h:n<=sizeLine):Builtin.List.listTooLong n=false:=by unfold Builtin.List.listTooLong;exact decide_eq_false (by omega)
end
section
def A9:V->qak->Hp->VK->Prop:=λx vs H Q=>∃l xs y,x=.ref l/\vs=[y]/\H l=some (.lst xs)/\xs.length<sizeLine/\Q .aO (upd H l (.lst (xs++[y])))
theorem bc:Zv X "list.append" A9:=by intro pins s σ H x vs v us Q I rx rv h;obtain⟨l,xs,y,rfl,rfl,hH,hz,q⟩:=h;cases rx;obtain⟨u,rfl,ru⟩:=rv.one;obtain⟨z,aN,n,r,hl,e⟩:=I.EV hH;refine call_meets F.slot_list_append ⟨_,e,rfl⟩ F.entry_list_append (F.args_list_append_2 _ _) (PySem.list_append l aN.toArray n u (by rw[iz];omega)) ⟨e,?_⟩;refine⟨.aO,_,I.Pc (its':=aN++[u]) hH e (by simp) (r.append (.cons ru .nil)) ?_,rfl,q⟩;rw[eC,List.length_singleton];omega
def JJ:V->qak->Hp->VK->Prop:=λx vs H Q=>∃l b xs zs,x=.ref l/\vs=[.ref b]/\H l=some (.lst xs)/\H b=some (.lst zs)/\xs.length+zs.length<=sizeLine/\Q .aO (upd H l (.lst (xs++zs)))
theorem CO:Zv X "list.extend" JJ:=by
 intro pins s σ H x vs v us Q I rx rv h;obtain⟨l,b,xs,zs,rfl,rfl,hH,hB,hz,q⟩:=h;cases rx;obtain⟨u,rfl,ru⟩:=rv.one;cases ru;obtain⟨z,aN,n,r,hl,e⟩:=I.EV hH;obtain⟨z2,gG,n2,r2,Zw,e2⟩:=I.EV hB;have hsz:aN.toArray.size+gG.toArray.size<=sizeLine:=by rw[iz,iz];omega
 have EW:¬ (!aN.toArray.isEmpty && Builtin.List.listTooLong (aN.toArray.size+gG.toArray.size))=true:=by rw[wF hsz,Bool.and_false];exact eO
 refine call_meets F.slot_list_extend ⟨_,e,rfl⟩ F.entry_list_extend (F.args_list_extend_2 _ _)
  (AutoSeq1.list_extend_list_list_0 l aN.toArray n b gG.toArray n2 EW (by rw[iz];omega) (by omega)) ⟨e,e2,?_⟩
 refine⟨.aO,_,I.Pc (its':=aN++gG) hH e (by simp) (r.append r2) ?_,rfl,q⟩;rw[eC];omega
def Uq:V->qak->Hp->VK->Prop:=λx vs H Q=>∃l xs y,x=.ref l/\vs=[]/\H l=some (.lst xs)/\xs[xs.length-1]?=some y/\Q y (upd H l (.lst xs.dropLast))
theorem EX:Zv X "list.pop" Uq:=by
 intro pins s σ H x vs v us Q I rx rv h;obtain⟨l,xs,y,rfl,rfl,hH,hy,q⟩:=h;cases rx;have Pd:=rv.zero;subst Pd;obtain⟨z,aN,n,r,hl,e⟩:=I.EV hH;obtain⟨u,hu,ru⟩:=r.get hy;have hy':aN.toArray[aN.toArray.size-1]?=some u:=by show aN.toArray[aN.length-1]?=some u;rw[<- Array.getElem?_toList,<- hl];exact hu
 refine call_meets F.slot_list_pop ⟨_,e,rfl⟩ F.entry_list_pop (F.args_list_pop_1 _) (MeetsSeq.list_pop_last l aN.toArray n u hy' (by rw[iz];omega)) ⟨e,?_⟩;refine⟨y,_,I.Pc (its':=aN.dropLast) hH e ?_ r.dropLast ?_,ru,q⟩;show aN.toArray.eraseIdxIfInBounds (aN.toArray.size-1)=aN.dropLast.toArray;rw[iz,List.eraseIdxIfInBounds_toArray,zp];rw[yV];omega
def Zx:R2:=λx y H Q=>∃l k xs,x=.ref l/\y=.int k/\H l=some (.lst xs)/\-(2 ^ 63)<=k/\k<2 ^ 63/\xs.length * k.toNat<=sizeLine /\
 ∀p,H p=none->Q (.ref p) (upd H p (.lst (List.replicate k.toNat xs).flatten))
theorem len_rep(xs:List α)(k:Nat):(List.replicate k xs).flatten.length=k * xs.length:=by
 induction k with
 |zero=>simp
 |succ k ih=>rw[Eo,Oq,eC,ih,Nat.succ_mul,Nat.add_comm]
theorem Pe:fg X (binaryOp .Mult) Zx:=by
 intro pins s σ H x y v u Q I rx ry h;obtain⟨l,k,xs,rfl,rfl,hH,h1,h2,hz,q⟩:=h;cases rx;obtain⟨t,rfl⟩:=ry;obtain⟨z,aN,n,r,hl,e⟩:=I.EV hH;have hlen:aN.toArray.size * k.toNat<=sizeLine:=by rw[iz,<- hl];exact hz
 have Zy:¬ aN.toArray.size * k.toNat > (2 ^ 63-1) / 8:=by
  have:(sizeLine:Nat)<=(2 ^ 63-1) / 8:=by decide
  omega
 have Zz:¬ (!Builtin.List.listFitsIndex k)=true:=by rw[fitsIndex_both h1 h2];exact eO
 have EW:¬ Builtin.List.listTooLong (aN.toArray.size * k.toNat)=true:=by rw[wF hlen];exact eO
 have ZA:List.foldl (λx1 x2=>x1++x2) #[] (List.replicate (if aN.toArray.isEmpty=true then 0 else k.toNat) aN.toArray)=(List.replicate k.toNat aN).flatten.toArray:=by
  have f0:∀m:Nat,List.foldl (λx1 x2=>x1++x2) #[] (List.replicate m aN.toArray)=(List.replicate m aN).flatten.toArray:=λm=>by have:=foldl_rep aN m [];rw[MC] at this;exact this
  rw[f0];cases aN with
  |nil=>simp
  |cons a r'=>rw[if_neg (by simp)]
 refine wpAny_binaryOp_repeat_ref (T:="list") (U:="int") (by decide) ⟨_,e,rfl⟩ (λs'=>typeIs_int s' k t) noFill_list_mul F.fills_int_mul F.slot_int_rmul repeat_list F.slot_int_index.lookup
  (call_meets F.slot_int_rmul (typeIs_int s k t) F.entry_int_rmul (F.args_int_rmul_2 _ _) (int___rmul___int_list k t l aN.toArray n)
   ⟨e,rfl,⟨_,e,rfl⟩,call_meets F.slot_list_mul ⟨_,e,rfl⟩ F.entry_list_mul (F.args_list_mul_2 _ _) (AutoListH.list___mul___list_int_3 l aN.toArray n k t Zz Zy EW) ⟨e,?_⟩⟩)
 rw[ZA];exact⟨.ref _,_,I.Up (t':=s.toks) (r.rep k.toNat) (by rw[len_rep,Nat.mul_comm];exact hz),rfl,q _ I.fresh⟩
end
end L2
namespace X0
open PySem PySem.W PySem.Calls PyProof.Rows
theorem oq{P:Params}:∀(ns:qan)(vs:qag),WellAll P h vs (ns.map WData.int)->IntsAre vs ns:=by
 intro ns;induction ns with
 |nil=>intro vs w;rw[IV] at w;cases w;exact .nil
 |cons n ns ih=>
  intro vs w;rw[gA] at w;cases w with
  |cons a b=>cases a;exact .cons _ _ (ih _ b)
theorem CP{l:OpenLaw}(hn:l.most=some n){P:Params}{args:List WData}{vals:qag}(CQ:l.row.toRowW.claim.pre args=true)(Ur:WellAll P h vals args) :
  ∃a vs ns,vals=[Value.ref a]/\args=[WData.list (ns.map WData.int)]/\h.get? a=some {cls:=.type "list",data:=.seq vs.toArray}/\IntsAre vs ns/\ns.length<=n:=by
 have hsh:WShape.hasAll [] args [.list .int]=true:=(pre_splitW CQ).1;have hc:l.pre.holds [] {args:=args}=true:=(pre_splitW CQ).2;obtain⟨d,r,rfl,h1,h2⟩:=hasAllW_cons hsh;obtain rfl:=hasAllW_nil h2;obtain⟨xs,rfl,h3⟩:=hasW_list h1;obtain⟨ns,rfl⟩:=items_int h3;have hlen:ns.length<=n:=by
  unfold OpenLaw.pre at hc;have h4:(WTm.not (.lt (.lit (.int (n:Int))) (.len (.arg 0)))).holds [] {args:=[.list (ns.map .int)]}=true:=by have h4:=(holds_andW hc).1;rw[hn] at h4;exact h4
  have h5:=condW_of h4 (w_not (w_lt w_lit (w_len_list (w_arg rfl))));rw[c6] at h5;refine Nat.le_of_not_lt λq=>?_;have q':(n:Int)<((ns.length:Nat):Int):=by omega
  first
   | (rw[decide_eq_true q'] at h5;exact absurd h5 (by decide))
   | (simp at h5;omega)
 cases Ur with
 |cons w1 w2=>
   cases w2;cases w1 with
   |list ho zq=>exact⟨_,_,ns,rfl,rfl,ho,oq ns _ zq,hlen⟩
theorem CS(l:OpenLaw)(args:List WData):l.row.toRowW.claim.post args (.bool true) args=true :=
 postW_of (r:=l.row.toRowW) (X:=(true==true))
  (show WShape.has [] (.bool true) .bool=true by first|rfl|decide|simp[WShape.has,WShape.arms,WShape.armsAll])
  (show (WTm.eq .res (.lit (.bool true))).value [] {args:=args,res:=some (.bool true),after:=args}=some (.bool (true==true)) from w_eq_bool (w_res rfl) w_lit) rfl
theorem wG{l:OpenLaw}{q:Program}{loose:qai}{XP:(qae)->Heap->Prop}{YP:World->Heap->Prop}{d:DefRec}(hn:l.most=some n)(Pf:d.params.defaults=[])(call:∀(w:World) (s₀ s₁:Shared) (mg mb:qae) (fa:Addr) (o:Obj) (pm cd doc:Value) (a:Addr) (vs:qag) (ns:qan),
    Ground q loose [] XP w s₀ mg mb s₁.heap->YP w s₁.heap ->
    s₁.heap.get? fa=some o->o.data=.func (docDef d.name d.params d.body d.scope pm cd doc)->s₁.heap.CodeRec cd d.name->mg d.name=some (.ref fa) ->
    s₁.heap.get? a=some {cls:=.type "list",data:=.seq vs.toArray}->IntsAre vs ns->ns.length<=n->s₁.gens=#[] ->
    codeAny (model l.prog w) callerA (.call (.ref fa) ⟨[.ref a],[]⟩) (λr s'=>r=.ok (.ret (.bool true))/\OldK s₁.heap s'.heap/\s'.os=s₁.os/\AllBare s'.gens) s₁) :
  WalkO q loose XP YP l.row.toRowW d [] (λf vs=>PySem.call f vs):=by
 intro w s₀ s₁ mg mb G Y fa o pm cd doc dV kV ho hd fA hD Us hg args vals as CQ Ut hrd Ur hlo;obtain rfl:dV=.none:=Dflts.none hD Pf;obtain rfl:kV=.none:=Dflts.noKw hD;obtain⟨a,vs,ns,rfl,rfl,Pg,hints,hlen⟩:=CP hn CQ Ur;refine enter_call (codeAny_mono (call w s₀ s₁ mg mb fa o pm cd doc a vs ns G Y ho (fd_plain hd) fA Us Pg hints hlen hg) λr s' hq=>?_);obtain⟨rfl,h2,h3,h4⟩:=hq;exact⟨.inl ⟨.bool true,.bool true,[],rfl,λ_=>rfl,.bool true,CS l _,λ_=>⟨List.Pairwise.nil,λ_ hm=>(nomatch hm)⟩⟩,h2,h3,h4⟩
end X0
namespace L2
open PySem PySem.Spec PyProof.Rows
theorem sR:∀{vs:qag}{ns:qan},IntsAre vs ns->Vals (ns.map V.int) vs
 |_,_,.nil=>.nil
 |_,_,.cons n t h=>.cons ⟨t,rfl⟩ (sR h)
def Uu(H:Hp):Prop:=∀b,H b=none\/∃o xs,H b=some (.Cq o (.lst xs))
theorem EY{mb:qae}{CX:Ef}{k:Nat}{fa:Addr}{s₁:Shared}{vs:qag}{ns:qan}(KX:K.In s₁.heap)(hns:s₁.heap.Ns mainGlobals mg)(hb:s₁.heap.Ns builtinsNs mb)(hbb:∀x:Str,x≠"__name__"->mb x=bootBuiltins x)(ZC:s₁.heap.NoLimit)(hg:s₁.gens=#[])(ha:s₁.heap.get? a=some {cls:=.type "list",data:=.seq vs.toArray})(hi:IntsAre vs ns)(hl:ns.length<=sizeLine)(hr:bx k callerA)(F:∀base:Heap,K.In base->base.Ns mainGlobals mg->cp P w K mg base CX k fa fd [x] sp)(Uv:∀(s:Shared) (u:Value),BindsTo s fd ⟨[u],[]⟩ [(x,u)])(I9:∀H:Hp,Uu H->fW K H a (ns.map V.int)->sp [.ref a] H (λv _=>v=.bl true) λ_ _ _=>False)(hCX:∀H e s',CX [] H s₁ (λ_ _ _=>False) e s'->False) :
  codeAny (model P w) callerA (.call (.ref fa) ⟨[.ref a],[]⟩) (λr s'=>r=.ok (.ret (.bool true))/\OldK s₁.heap s'.heap/\s'.os=s₁.os/\AllBare s'.gens) s₁:=by
 have rv:=sR hi;have ZD:=hi.length;have core:∀H:Hp,Uu H->fW K H a (ns.map V.int)->kD P w H s₁.heap->(∀b,H b≠none->b=a)->(H a≠none->K.lookup a=none) ->
   codeAny (model P w) callerA (.call (.ref fa) ⟨[.ref a],[]⟩) (λr s'=>r=.ok (.ret (.bool true))/\OldK s₁.heap s'.heap/\s'.os=s₁.os/\AllBare s'.gens) s₁:=by
  intro H hO hS cm hA hK;have A_:∀{b:Addr}{o:Obj},s₁.heap.get? b=some o->H b=none->(tZ s₁.heap H).get? b=some o:=λe n=>Eu e n;have Uc:∀{b:Addr}{o:Obj}{es:Array DictEntry}{ep:Nat},s₁.heap.get? b=some o->o.data=.dict es ep->H b=none:=λ{b o es ep} e d=>by
   cases q:H b with
   |none=>rfl
   |some u=>have e':b=a:=hA b (by rw[q];simp);subst e';rw[ha] at e;cases e;have d':Data.seq vs.toArray _=Data.dict es ep:=d;cases d'
  have X1:∀{b:Addr}{m:qae},s₁.heap.Ns b m->(tZ s₁.heap H).Ns b m:=λ{b m} ⟨o,es,ep,e,d,r⟩=>⟨o,es,ep,A_ e (Uc e d),d,r⟩;have hKb:K.In (tZ s₁.heap H):=λb o e=>A_ (KX b o e) (by
   cases q:H b with
   |none=>rfl
   |some u=>have e':b=a:=hA b (by rw[q];simp);subst e';rw[hK (by rw[q];simp)] at e;cases e)
  have hM:Mod K mg (tZ s₁.heap H):=⟨hKb,X1 hns,⟨mb,X1 hb,hbb⟩,let ⟨mc,h1,h2⟩:=ZC;⟨mc,X1 h1,h2⟩⟩;have e0:zh P w K mg (tZ s₁.heap H) callerA [] s₁ H:=⟨rfl,hM,λb o e=>Jm e,Nat.le_of_eq (Cs _ _),trivial,λb hb=>absurd (show b∈([]:qah) from hb) (by simp),cm,.of_eq hg⟩;refine codeAny_mono ((F _ hKb (X1 hns)).run callerA [] s₁ H ⟨[.ref a],[]⟩ [.ref a] [.ref a] _ _ hr e0 (Uv s₁ (.ref a)) (.cons rfl .nil) (I9 H hO hS)) λr s' h=>?_;cases r with
  |error e=>exact (hCX H e s' h).elim
  |ok fl=>
    cases fl with
    |ret u=>
      obtain⟨v,H',os,bare,un,ZE,r',q⟩:=h;have q':v=.bl true:=q;subst q';obtain rfl:u=Value.bool true:=r';refine⟨rfl,OldK.of_keep λb o e=>?_,os,bare⟩;cases q:H b with
      |none=>exact un.keep b o e q (by intro z;exact absurd (show b∈([]:qah) from z) (by simp)) (by simp)
      |some u=>
        rcases hO b with z|⟨ob,xs,z⟩
        rw[q] at z;cases z;have z2:=un.tY b ob _ z;obtain⟨e1,_⟩:=cm b _ z;obtain⟨e2,_⟩:=ZE b _ z2;rw[e] at e1;cases e1;exact e2
    |_=>exact False.elim h
 cases hk:K.lookup a with
 |some o=>have e:=KX a o hk;rw[ha] at e;cases e;refine core (λ_=>none) (λ_=>.inl rfl) (.inr ⟨_,vs.toArray,_,hk,rfl,rfl,rfl,by rw[iz,ZD];exact hl,by simpa using rv⟩) (λb u z=>by have z':(none:Option HO)=some u:=z;cases z') (λb z=>absurd rfl z) λz=>absurd rfl z
 |none=>refine core (λb=>if b=a then some (.Cq {cls:=.type "list",data:=.seq vs.toArray} (.lst (ns.map V.int))) else none) (λb=>?_) (.inl (.inr ⟨{cls:=.type "list",data:=.seq vs.toArray},if_pos rfl⟩)) (λb u z=>?_) (λb z=>?_) λ_=>hk;by_cases hb:b=a;exact .inr ⟨_,_,if_pos hb⟩;exact .inl (if_neg hb);by_cases hb:b=a;have z':=(if_pos hb).symm.trans z;cases z';subst hb;exact⟨ha,by rw[c6];exact hl,vs,_,rv,ha⟩;have z':=(if_neg hb).symm.trans z;cases z';by_cases hb:b=a;exact hb;exact absurd (if_neg hb) z
noncomputable def inClass(s:Stmt)(j:Nat):Stmt:=match s with
 |.ClassDef _ _ _ body _ _ _ _ _ _ _=>body.getD j (.Pass ⟨0,0,0,0⟩)
 |_=>.Pass ⟨0,0,0,0⟩
noncomputable def cV(s:Stmt):Arguments:=match s with
 |.FunctionDef _ a _ _ _ _ _ _ _ _=>a
 |_=>{posonlyargs:=[],args:=[],vararg:=none,kwonlyargs:=[],kw_defaults:=[],kwarg:=none,defaults:=[]}
def bD(s:Stmt):qaq:=match s with
 |.FunctionDef _ _ b _ _ _ _ _ _ _=>b
 |_=>[]
noncomputable def aj(s:Stmt):Scope:=match s with
 |.FunctionDef _ _ _ _ _ _ sc _ _ _=>sc
 |_=>{kind:=.function,names:=[],isGenerator:=false,isCoroutine:=false}
abbrev dS:Ef:=λ_ _ _ _ _ _=>False
abbrev E0:XK:=λ_ _ _=>False
theorem jO:Passes dS X E0:=λ_ _ _ _ _ _ _ h=>h.elim
structure Ba(K:qaf)(x qual:Str)(st:Stmt)(f:Addr)(fd:FuncData):Prop where
 ex:∃(oc:Value)(od:qar)(kV doc pm:Value)(an:qar)(bz ct:Value)(CJ:Array (Option Value)),
  fd=PySem.W.fnOf x qual (cV st) (bD st) (aj st) .none kV doc pm an bz ct/\K.lookup f=some ⟨oc,od,.func fd,CJ⟩/\PySem.W.codeIn K bz qual=true
 kp:PySem.W.keepIn K (.ref f)=true
section
theorem Ba.ok{st:Stmt}{N:qai}{k:Nat}(F:Ba K x qual st f fd)(S:aE N ps (aj st))(len:∀vs H Q E,sp vs H Q E->vs.length=ps.length)(dz:∀(bz:Value) (A:Around) (outer:List Env) (s:Shared) (H:Hp) (vs:qak) (Q:VK) (E:XK),bx k (A.deeper (envOfC qual (aj st) s.heap.objs.size f bz))->sp vs H Q E ->
    ∃t,gY (eY dS P w K mg base N qual (aj st) f bz A outer s H E).pf (bD st) t/\t {nx:=λ_ H'=>Q .aO H',rt:=Q} (start N vs) H):cp P w K mg base dS (k+1) f fd ps sp:=by
 obtain⟨oc,od,kV,doc,pm,an,bz,ct,CJ,rfl,lk,fA⟩:=F.ex;refine MQ lk fA S len λA outer s H vs Q E hr I9=>?_;obtain⟨t,h,q⟩:=dz bz A outer s H vs Q E hr I9;exact⟨t,h.pf,q⟩
theorem Ba.binds{st:Stmt}(F:Ba K x qual st f fd)(h:∀(kV doc pm:Value) (an:qar) (bz ct:Value) (us:qag),us.length=ps.length->bindArgs (PySem.W.fnOf x qual (cV st) (bD st) (aj st) .none kV doc pm an bz ct) ⟨us,[]⟩=pure (ps.zip us)):Binds K fd ps []:=by obtain⟨oc,od,kV,doc,pm,an,bz,ct,CJ,rfl,lk,fA⟩:=F.ex;exact .all (h kV doc pm an bz ct)
theorem pB{st:Stmt}{oc:Value}{od an:qar}{CJ:Array (Option Value)}{kV doc pm bz ct:Value}(l:K.lookup f=some ⟨oc,od,.func (PySem.W.fnOf x qual (cV st) (bD st) (aj st) .none kV doc pm an bz ct),CJ⟩)(c:PySem.W.codeIn K bz qual=true)(k:PySem.W.keepIn K (.ref f)=true):Ba K x qual st f (PySem.W.fnOf x qual (cV st) (bD st) (aj st) .none kV doc pm an bz ct):=⟨⟨oc,od,kV,doc,pm,an,bz,ct,CJ,rfl,l,c⟩,k⟩
end
theorem CT(h:n<=1000):n<sizeLine:=XM h (by decide)
theorem Ph{A:Prop}(h:B):if false=true then A else B:=by rw[if_neg eO];exact h
theorem Pj{A:Prop}(h:A):if true=true then A else B:=by rw[if_pos rfl];exact h
theorem zt{c A:Prop}[Decidable c](h1:c->A)(h2:¬ c->B):if c then A else B:=by by_cases h:c;rw[if_pos h];exact h1 h;rw[if_neg h];exact h2 h
def aM(H H':Hp):Prop:=∀b o,H b=some o->H' b=some o
theorem aM.refl(H:Hp):aM H H:=λ_ _ h=>h
theorem aM.trans{H1 H2:Hp}(a:aM H H1)(b:aM H1 H2):aM H H2:=λc o h=>b c o (a c o h)
section
theorem hJ{env:Env}{f:Str×NameKind->List (Str×Addr)->Sem (ForInStep (List (Str×Addr)))}:∀(l:List (Str×NameKind))(cs:List (Str×Addr)),
  (∀p∈l,∀r,(p.2=.free->∃c,env.cells.lookup p.1=some c/\f p r=pure (.yield ((p.1,c)::r)))/\(p.2≠.free->f p r=pure (.yield r))) ->
  ∃cl,forIn l cs f=pure cl/\(∀y c,cl.lookup y=some c->cs.lookup y=some c\/env.cells.lookup y=some c)/\(∀y,(cs.lookup y).isSome=true->(cl.lookup y).isSome=true) /\
   ∀p∈l,p.2=.free->(cl.lookup p.1).isSome=true
 |[],cs,_=>⟨cs,by rw[List.forIn_nil],λ_ _ h=>.inl h,λ_ h=>h,λ_ h=>nomatch h⟩
 |p::l,cs,hf=>by
   have hr:∀q∈l,∀r,(q.2=.free->∃c,env.cells.lookup q.1=some c/\f q r=pure (.yield ((q.1,c)::r)))/\(q.2≠.free->f q r=pure (.yield r)):=λq hq r=>hf q (gD _ hq) r;by_cases hp:p.2=.free;obtain⟨c,hc,e⟩:=(hf p dG cs).1 hp;obtain⟨cl,h1,h2,h3,h4⟩:=hJ l ((p.1,c)::cs) hr;refine⟨cl,?_,λy d h=>?_,λy h=>h3 y ?_,λq hq X2=>?_⟩;rw[List.forIn_cons,e];exact h1;rcases h2 y d h with z|z
   rw[IP] at z;cases hy:y==p.1 with
   |true=>rw[hy] at z;have ey:y=p.1:=eq_of_beq hy;cases z;rw[ey];exact .inr hc
   |false=>rw[hy] at z;exact .inl z
   exact .inr z;rw[IP];cases hy:y==p.1 with
   |true=>rfl
   |false=>exact h
   rcases c7.mp hq with z|z
   subst z;refine h3 _ ?_;rw[IP,beq_self_eq_true];rfl;exact h4 q z X2;have e:=(hf p dG cs).2 hp;obtain⟨cl,h1,h2,h3,h4⟩:=hJ l cs hr;refine⟨cl,?_,h2,h3,λq hq X2=>?_⟩;rw[List.forIn_cons,e];exact h1;rcases c7.mp hq with z|z
   subst z;exact absurd X2 hp;exact h4 q z X2
theorem iA{scope:Scope}{env:Env}(h:∀p∈scope.names,p.2=.free->∃c,env.cells.lookup p.1=some c) :
  ∃cl,closureFor scope env=pure cl/\(∀y c,cl.lookup y=some c->env.cells.lookup y=some c)/\∀p∈scope.names,p.2=.free->∃c,cl.lookup p.1=some c:=by
 have key:∃cl,closureFor scope env=pure cl/\(∀y c,cl.lookup y=some c->([]:List (Str×Addr)).lookup y=some c\/env.cells.lookup y=some c)/\(∀y,(([]:List (Str×Addr)).lookup y).isSome=true->(cl.lookup y).isSome=true) /\
   ∀p∈scope.names,p.2=.free->(cl.lookup p.1).isSome=true:=by
  simp only[closureFor];have go:=@hJ env (λx r=>if x.2==NameKind.free then (do let c <- cellOf env x.1;pure (ForInStep.yield ((x.1,c)::r))) else pure (ForInStep.yield r)) scope.names [] ?_;obtain⟨cl,h1,h2⟩:=go;refine⟨cl,?_,h2⟩
  first
   | (show (forIn scope.names [] _ >>= λcs=>pure cs)=_;rw[h1];rfl)
   | (rw[h1];rfl)
   |exact congrArg (· >>= pure) h1
  intro p hp r;refine⟨λhf=>?_,λhf=>?_⟩;obtain⟨c,hc⟩:=h p hp hf;refine⟨c,hc,?_⟩;have e1:(p.2==NameKind.free)=true:=by rw[hf];rfl
  have e2:cellOf env p.1=pure c:=by unfold cellOf;rw[hc]
  rw[e1,if_pos rfl,e2];rfl;have e1:(p.2==NameKind.free)=false:=by simpa using hf
  rw[e1,if_neg (by decide)]
 obtain⟨cl,h1,h2,h3,h4⟩:=key;refine⟨cl,h1,λy c e=>?_,λp hp hf=>Option.isSome_iff_exists.mp (h4 p hp hf)⟩;rcases h2 y c e with z|z
 rw[List.lookup_nil] at z;cases z;exact z
theorem kS{scope:Scope}{env:Env}(y:Str):(relabel scope env).names.lookup y =
  (scope.names.lookup y).map λk=>if (k==.free && env.scope.kind==.function && env.kindOf y==some .cell)=true then .cell else k:=by
 have key:∀l:List (Str×NameKind),(l.map λ(n,k)=>if (k==NameKind.free && env.scope.kind==.function && env.kindOf n==some .cell) then (n,NameKind.cell) else (n,k)).lookup y =
   (l.lookup y).map λk=>if (k==.free && env.scope.kind==.function && env.kindOf y==some .cell)=true then .cell else k:=by
  intro l;induction l with
  |nil=>rfl
  |cons p l ih=>
    obtain⟨n,k⟩:=p;rw[gA];show List.lookup y ((if (k==NameKind.free && env.scope.kind==.function && env.kindOf n==some .cell)=true then (n,NameKind.cell) else (n,k))::_)=_;by_cases hc:(k==NameKind.free && env.scope.kind==.function && env.kindOf n==some .cell)=true;rw[if_pos hc,IP,IP];cases hy:y==n with
    |true=>have ey:y=n:=eq_of_beq hy;subst ey;show some NameKind.cell=some (if _ then _ else _);rw[if_pos hc]
    |false=>exact ih
    rw[if_neg hc,IP,IP];cases hy:y==n with
    |true=>have ey:y=n:=eq_of_beq hy;subst ey;show some k=some (if _ then _ else _);rw[if_neg hc]
    |false=>exact ih
 exact key scope.names
end
noncomputable def j8(N ts:qai)(out sc:Scope):Bool :=
 (sc.kind==.function) && sc.names.all (λp=>(p.2 != .cell) && (p.2 != .free || out.names.lookup p.1==some .cell || out.names.lookup p.1==some .free) && (p.2 != .local || sc.names.lookup p.1==some .local))
  && N.all (λy=>sc.names.lookup y != some .local) && ts.all (λy=>sc.names.lookup y==some .local) && decide ((N++ts).Nodup)
structure pD(N ts:qai)(out sc:Scope):Prop where
 kind:sc.kind=.function
 EZ:∀p∈sc.names,p.2≠.cell
 fr:∀p∈sc.names,p.2=.free->out.names.lookup p.1=some .cell\/out.names.lookup p.1=some .free
 names:∀p∈sc.names,p.2=.local->sc.names.lookup p.1=some .local
 own:∀y∈N,sc.names.lookup y≠some .local
 yO:∀y∈ts,sc.names.lookup y=some .local
 nd:(N++ts).Nodup
theorem sS{N ts:qai}{out:Scope}(h:j8 N ts out sc=true):pD N ts out sc:=by unfold j8 at h;rw[mh,mh,mh,mh] at h;obtain⟨⟨⟨⟨h1,h2⟩,h3⟩,h4⟩,h5⟩:=h;rw[Ou] at h2 h3 h4;refine⟨eq_of_beq h1,λp hp=>?_,λp hp hf=>?_,λp hp hl=>?_,λy hy=>?_,λy hy=>?_,of_decide_eq_true h5⟩;have:=h2 p hp;rw[mh,mh] at this;simpa using this.1.1;have:=h2 p hp;rw[mh,mh] at this;have q:=this.1.2;rw[hf] at q;simpa using q;have:=h2 p hp;rw[mh,mh] at this;have q:=this.2;rw[hl] at q;simpa using q;simpa using h3 y hy;simpa using h4 y hy
noncomputable def bF(X:Cx)(ts:qai)(sc:Scope)(cl:List (Str×Addr))(C:Addr)(fp:qah)(s:Shared)(H:Hp):Cx where
 prog:=X.prog
 w:=X.w
 K:=X.K
 mg:=X.mg
 base:=X.base
 A:=X.A
 N:=X.N++ts
 s₀:=s
 H₀:=H
 env:=compEnvC sc cl C X.env
 outer:=X.stack
 stack:=X.stack
 ex:=fp
 fn:=λ_=>false
 calm:=X.calm
 pn:=[]
 xe:=λ_ _=>False
section
variable{ts:qai}{cl:List (Str×Addr)}{D:Addr}
theorem sT(hS:pD X.N ts X.env.scope sc)(h:j5 (relabel sc X.env) y):sc.names.lookup y=some .local\/(sc.names.lookup y=some .free/\((relabel sc X.env).names.lookup y=some .cell\/(relabel sc X.env).names.lookup y=some .free)):=by
 have e:=kS (scope:=sc) (env:=X.env) y;cases hk:sc.names.lookup y with
 |none=>rw[hk] at e;have e':(relabel sc X.env).names.lookup y=none:=e;obtain h|h|h:=h<;>rw[e'] at h<;>cases h
 |some k=>
  have hm:(y,k)∈sc.names:=My hk;rw[hk] at e;cases k with
  |«local»=>exact .inl rfl
  |cell=>exact absurd rfl (hS.EZ _ hm)
  |free=>refine .inr ⟨rfl,?_⟩;rw[e,Tw];by_cases hc:(NameKind.free==.free && X.env.scope.kind==.function && X.env.kindOf y==some .cell)=true;rw[if_pos hc];exact .inl rfl;rw[if_neg hc];exact .inr rfl
  |globalExplicit=>have e':(relabel sc X.env).names.lookup y=some .globalExplicit:=e;obtain h|h|h:=h<;>rw[e'] at h<;>cases h
  |globalImplicit=>have e':(relabel sc X.env).names.lookup y=some .globalImplicit:=e;obtain h|h|h:=h<;>rw[e'] at h<;>cases h
theorem Bb(I:Inv X pins σ H s)(hf:∀b∈fp,mw X pins H b):∀b∈fp,b∉Ec X.stack:=λb hb z=>by
 obtain⟨_,f1,f2,_⟩:=hf b hb;rcases c7.mp (I.yZ b z) with e|e
 exact f1 e;exact f2 e
theorem JK(I:Inv X pins σ H s)(hf:∀b∈fp,mw X pins H b)(MW:∀b∈fp,∃o,s.heap.get? b=some o)(hS:pD X.N ts X.env.scope sc)(c1:∀y c,cl.lookup y=some c->X.env.cells.lookup y=some c)(c2:∀p∈sc.names,p.2=.free->∃c,cl.lookup p.1=some c)(hC:s.heap.objs.size<=C)(hD:s.heap.objs.size<=D)(X3:D≠C){h1:Heap}{m:qae}{t:Nat}(k:∀b o,s.heap.get? b=some o->h1.get? b=some o)(hn:h1.Ns C m)(hd:h1.get? D=some {cls:=.type "list",data:=.seq ([]:qag).toArray n}) :
  Inv (bF X ts sc cl C fp s H) [] (σ++ts.map λ_=>none) (upd H D (.lst [])) {s with heap:=h1,toks:=t}:=by
 have sz:=I.sz;have ZF:∀b∈fp,b<s.heap.objs.size:=λb hb=>by obtain⟨o,e⟩:=MW b hb;exact e_ e
 have Jp:∀y c,cl.lookup y=some c->c<s.heap.objs.size:=λy c e=>by obtain⟨v,q⟩:=I.cell y c (c1 y c e);exact q.lt
 have ok:(bF X ts sc cl C fp s H).Ok:=by
  refine⟨I.ok.mod,hS.kind,I.ok.glob,I.ok.blt,hC,λx y c e1 e2=>I.ok.inj x y c (c1 x c e1) (c1 y c e2),λx hx=>?_,λx c hx=>absurd hx (by simp[bF]),I.ok.hd,I.ok.frames,.inl rfl,λb hb=>?_,λb o e=>I.bs b o e,
   mm I.ok.Ed sz,λb o e hb=>?_,Bb I hf,I.stack,λb hb=>I.A0 b hb⟩
  have hv:j5 (relabel sc X.env) x:=by
   obtain hx|hx:=hx
   exact .inr (.inl hx);exact .inr (.inr hx)
  rcases sT hS hv with z|⟨z,_⟩
  have e:=kS (scope:=sc) (env:=X.env) x;rw[z] at e;have e':(relabel sc X.env).names.lookup x=some .local:=e;have X4:(relabel sc X.env).names.lookup x=some .cell\/(relabel sc X.env).names.lookup x=some .free:=hx;rw[e'] at X4;obtain q|q:=X4<;>cases q
  exact c2 _ (My z) rfl;exact⟨λe=>absurd (sI (ZF b hb) hC) (by have e':b=C:=e;rw[e'];exact Eb _),λx c e z=>(hf b hb).2.2.2.2.1 x c (c1 x c e) z⟩;rcases (hf b hb).2.2.2.1 with z|z
  exact I.ok.yY b o e z;exact absurd (sI (e_ e) (mm I.ok.Ed z)) (Eb _)
 have hnD:H D=none:=I.cm.fresh hD;refine⟨ok,rfl,I.bare,Un.laid k hD hnD,⟨m,hn,λi x v e1 e2 e3=>?_⟩,λx c e=>?_,?_,λx c e=>?_,λp hp=>absurd (show p∈([]:qaa) from hp) (by simp),I.cm.laid k hD ⟨jL _,[],n,.nil,hd⟩,?_⟩;have hi:i<σ.length:=by
  by_cases hi:i<σ.length;exact hi;rw[sF (by omega),jC] at e2;cases q:ts[i-σ.length]? with
  |none=>rw[q] at e2;cases e2
  |some a=>rw[q] at e2;cases e2
 have Jb:σ[i]?=some (some v):=by rw[og hi] at e2;exact e2
 have e1':X.N[i]?=some x:=by have Uw:(X.N++ts)[i]?=some x:=e1;rw[og (by rw[<- I.len];exact hi)] at Uw;exact Uw
 rcases sT hS e3 with z|⟨z,zr⟩
 exact absurd z (hS.own x (gW e1'));have hm:=My z;have ho:=hS.fr _ hm rfl;obtain⟨m0,_,hl⟩:=I.loc;obtain⟨u,r,l⟩:=hl i x v e1' Jb (.inr ho);obtain⟨c',rE⟩:=c2 _ hm rfl;obtain⟨l,_⟩|⟨_,c,hc,z2⟩:=l
 have l':X.env.scope.names.lookup x=some .local:=l;rw[l'] at ho;obtain q|q:=ho<;>cases q
 have ec:=c1 x c' rE;rw[hc] at ec;cases ec;exact⟨u,r,.inr ⟨zr,_,rE,z2.keeps k⟩⟩;obtain⟨v,z⟩:=I.cell x c (c1 x c e);exact⟨v,z.keeps k⟩;show upd H D (.lst []) C=none;rw[aC (Ne.symm X3)];exact I.cm.fresh hC;show upd H D (.lst []) c=none;rw[aC (jK (sI (Jp x c e) hD))];exact I.gF x c (c1 x c e);show (σ++ts.map λ_=>none).length=(X.N++ts).length;rw[eC,eC,c6,I.len]
theorem wH(I:Inv X pins σ H s)(hf:∀b∈fp,mw X pins H b){A2:qaa}{σ':St}(J:Inv (bF X ts sc cl C fp s H) A2 σ' H' s'):Inv X pins σ H' s' :=
 I.TF J.os J.base J.cm J.bare λb hb=>by obtain⟨_,f1,_,f3,f4,f5⟩:=hf b hb;exact⟨f3,f1,f4,f5⟩
end
section
variable{R:Result->Shared->Prop}
theorem jE{elt target:Expr}{ifs:qap}{scope:Scope}{it acc:Value}{env:Env}(I:Nat->Shared->Prop)(turn:∀n s,I n s->wpAny (model prog w) A (pyNext it) (λr s₁=>match r with
    |none=>R (.ok .next) s₁
    |some v=>wpAny (model prog w) A (letOwnedTupleGo target it v) (λ_ s₁'=>wpAny (model prog w) A (assign target env v) (λ_ s₂=>
       wpAny (model prog w) A (forIn ifs true λc r=>if r=true then do let ok <- isTrue c env (eval c env);pure (ForInStep.yield ok) else pure (ForInStep.yield r)) (λok s₃=>
        if ok=true then wpAny (model prog w) A (eval elt env) (λx s₄=>
         wpAny (model prog w) A (call (.builtin "list.append") [acc,x]) (λ_ s₅=>∃m,m<n/\I m s₅) (notedBy (model prog w) A env λe s'=>R (.error e) s') s₄) (notedBy (model prog w) A env λe s'=>R (.error e) s') s₃
        else ∃m,m<n/\I m s₃) (notedBy (model prog w) A env λe s'=>R (.error e) s') s₂) (notedBy (model prog w) A env λe s'=>R (.error e) s') s₁')
       (notedBy (model prog w) A env λe s'=>R (.error e) s') s₁) (notedBy (model prog w) A env λe s'=>R (.error e) s') s)(n:Nat)(h:I n s):codeAny (model prog w) A (.compLoop (.ListComp elt [⟨target,iter,ifs,0⟩] scope pos) 0 it acc env) R s:=by
 refine codeAny_loop rfl I (λn s hI=>?_) n h;show wpAny _ A ((compTurn (.ListComp elt [⟨target,iter,ifs,0⟩] scope pos) 0 it acc env).onRaise (λx=>do noteFrame x env;theTreesLotGoes x)) _ _ s;refine wpAny_noted ?_;rw[compTurn_list];refine wpAny_bind (wpAny_standAt (wpAny_bind (wpAny_mono (turn n s hI) (λr s₁ h₁=>?_) λ_ _ h'=>h')));cases r with
 |none=>exact wpAny_pure h₁
 |some v=>
   refine wpAny_bind (wpAny_mono h₁ (λ_ s₁' h₁'=>?_) λ_ _ h'=>h');refine wpAny_bind (wpAny_mono h₁' (λ_ s₂ h₂=>wpAny_bind (wpAny_mono h₂ (λok s₃ h₃=>?_) λ_ _ h'=>h')) λ_ _ h'=>h');cases ok with
   |false=>exact wpAny_pure ⟨rfl,h₃⟩
   |true=>exact wpAny_bind (wpAny_bind (wpAny_mono h₃ (λx s₄ h₄=>wpAny_bind (wpAny_mono h₄ (λ_ s₅ h₅=>wpAny_pure (wpAny_pure ⟨rfl,h₅⟩)) λ_ _ h'=>h')) λ_ _ h'=>h'))
end
def E3(X:Cx)(ifs:qap)(t:TT):Prop :=
 ∀(pins:qaa)(s:Shared)(σ:St)(H:Hp)(Q:Bool->Hp->Prop),Inv X pins σ H s->t σ H Q ->
  wpAny (model X.prog X.w) X.A (forIn ifs true λc r=>if r=true then do let ok <- isTrue c X.env (eval c X.env);pure (ForInStep.yield ok) else pure (ForInStep.yield r)) (TP X pins σ Q) X.xe s
def ZG:TT:=λ_ H Q=>Q true H
theorem JL:E3 X [] ZG:=λ_ _ _ H _ I h=>wpAny_tests_nil ⟨H,I,h⟩
theorem JM{t:TT}(h:PT X c t):E3 X [c] t:=λpins s σ H Q I hw=>wpAny_tests_one (h pins s σ H Q I hw)
def E4(J:It)(g:TG)(tt:TT)(te:TE)(n:Nat)(σ:St)(D:Addr)(Q:Hp->Prop)(H1:Hp):Prop :=
 ∃W:Nat->Nat->qak->Hp->Prop,(∃m,W 0 m [] (upd H1 D (.lst [])))/\∀i m acc H2,W i m acc H2->H2 D=some (.lst acc) /\
  ((J.stop i H2/\Q H2)\/(J.go i H2/\acc.length<sizeLine/\∀x H3,J.TV i H2 x H3->g x (σ++List.replicate n none) H3 λσ4 H4=>(σ4.length=σ.length+n/\∀(i:Nat) v,σ[i]?=some (some v)->σ4[i]?=some (some v)) /\
   tt σ4 H4 λb H5=>if b=true then te σ4 H5 λy H6=>H6 D=some (.lst acc)/\∃m',m'<m/\W (i+1) m' (acc++[y]) (upd H6 D (.lst (acc++[y]))) else ∃m',m'<m/\W (i+1) m' acc H5))
section
variable{ts:qai}{cl:List (Str×Addr)}
theorem CU{Y:Cx}{pl:qaa}{σ4:St}(I:Inv Y pl σ4 H' s')(hl:σ4.length=σ.length+n)(hs:∀(i:Nat) v,σ[i]?=some (some v)->σ4[i]?=some (some v)) :
  Inv Y pl (σ++List.replicate n none) H' s':=by
 refine I.weak (by rw[eC,yU,hl]) λi v e=>?_;by_cases hi:i<σ.length;rw[og hi] at e;exact hs i v e;rw[sF (by omega),D9] at e;split at e<;>cases e
theorem wI{elt tg:Expr}{ifs:qap}{tn:Nat->Heap->Prop}{J:It}{g:TG}{tt:TT}{Q:Hp->Prop}{RR:Value->Addr->Result->Shared->Prop}(hc:X.calm=true)(I:Inv X pins σ H s)(T:Turn X.prog X.w X.K tg J fp it tn)(st:tn 0 s.heap)(hf:∀b∈fp,mw X pins H b)(hS:pD X.N ts X.env.scope sc)(c1:∀y c,cl.lookup y=some c->X.env.cells.lookup y=some c)(c2:∀p∈sc.names,p.2=.free->∃c,cl.lookup p.1=some c)(hg:∀C,PG (bF X ts sc cl C fp s H) tg g)(ht:∀C,E3 (bF X ts sc cl C fp s H) ifs tt)(he:∀C,PE (bF X ts sc cl C fp s H) elt te)(hw:E4 J g tt te ts.length σ s.heap.objs.size Q H)(fin:∀(C:Addr) (H':Hp) (s':Shared) (σ':St),s.heap.objs.size<=C->Inv (bF X ts sc cl C fp s H) [] σ' H' s'->Q H'->RR (.ref s.heap.objs.size) C (.ok .next) s') :
  wpAny (model X.prog X.w) X.A (newList []) (λacc s₃=>wpAny (model X.prog X.w) X.A (newFunctionEnv sc X.env.globals cl [] X.env.qual none .none (some X.env)) (λUx s₄=>
   codeAny (model X.prog X.w) X.A (.compStart (.ListComp elt [⟨tg,iter,ifs,0⟩] sc pos) 0 (.ref it) acc {Ux with scope:=relabel sc X.env}) (RR acc Ux.locals) s₄) E s₃) E s:=by
 obtain⟨W,⟨m0,w0⟩,turn⟩:=hw;have ZH:=T.obj 0 _ st;have MW:∀b∈fp,∃o,s.heap.get? b=some o:=λb hb=>let ⟨o,e,_⟩:=ZH b hb;⟨o,e⟩;refine wpAny_newObj_type (wpAny_newFunctionEnv hS.EZ (by intro y hy;simp at hy) (λh₁ Pk JN=>?_) hS.kind);dsimp only at Pk JN ⊢;generalize ZI:s.heap.push {cls:=.type "list",dict:=none,data:=.seq ([]:qag).toArray}=H2 at Pk JN ⊢;have hC:H2.objs.size=s.heap.objs.size+1:=by rw[<- ZI,Er]
 have X3:s.heap.objs.size≠H2.objs.size:=by rw[hC];exact jK (wj _)
 have Uy:s.heap.objs.size<=H2.objs.size:=by rw[hC];exact IX _
 have below:∀b,b<s.heap.objs.size->b≠H2.objs.size/\b≠s.heap.objs.size:=λb hb=>⟨by rw[hC];exact jK (Ot hb),jK hb⟩;have old:∀b o,s.heap.get? b=some o->h₁.get? b=some o:=λb o e=>JN.extBut b o (below b (e_ e)).1 (eZ _ (ZI▸eZ _ e));have ZJ:h₁.get? s.heap.objs.size=some {cls:=.type "list",data:=.seq ([]:qag).toArray}:=JN.extBut _ _ X3 (eZ _ (ZI▸mf _ rfl));have Uz:tn 0 h₁:=T.keep _ _ _ st λb hb o e=>old b o e;have fresh:H s.heap.objs.size=none:=I.cm.fresh (cO _);have gX:∀{H':Hp},(∀b∈fp,H' b=none)->∀b∈fp,mw (bF X ts sc cl H2.objs.size fp s H) [] H' b:=λ{H'} hn b hb=>by obtain⟨o,e⟩:=MW b hb;refine⟨hn b hb,λz=>?_,Bb I hf b hb,.inl hb,λx c e z=>(hf b hb).2.2.2.2.1 x c (c1 x c e) z,λp hp=>absurd (show p∈([]:qaa) from hp) (by simp)⟩;have z':b=H2.objs.size:=z;exact (below b (e_ e)).1 z'
 have sU:∀b∈fp,(upd H s.heap.objs.size (.lst [])) b=none:=λb hb=>by obtain⟨o,e⟩:=MW b hb;rw[aC (jK (e_ e))];exact (hf b hb).1
 have eN:(ts.map λ_=>(none:Option V))=List.replicate ts.length none:=List.map_const';have loop:∀s₃:Shared,s₃={s with heap:=h₁,toks:=s.toks+([]:List (Str×Value)).length} ->
   codeAny (model X.prog X.w) X.A (.compLoop (.ListComp elt [⟨tg,iter,ifs,0⟩] sc pos) 0 (.ref it) (.ref s.heap.objs.size) (compEnvC sc cl H2.objs.size X.env)) (RR (.ref s.heap.objs.size) H2.objs.size) s₃:=by
  rintro s₃ rfl;have J0:=JK (ts:=ts) (t:=s.toks+([]:List (Str×Value)).length) I hf MW hS c1 c2 Uy (cO _) X3 old Pk ZJ;rw[eN] at J0;refine jE (λn s'=>∃i acc H',Inv (bF X ts sc cl H2.objs.size fp s H) [] (σ++List.replicate ts.length none) H' s'/\tn i s'.heap/\(∀b∈fp,H' b=none)/\W i n acc H') ?_ m0 ⟨0,[],_,J0,Uz,sU,w0⟩;rintro n s3 ⟨i,acc,H3,J3,TY,TZ,w3⟩;obtain⟨hD3,alt⟩:=turn i n acc H3 w3;obtain⟨stop,q⟩|⟨go,hz,step⟩:=alt
  . refine b_ (T.done (bF X ts sc cl H2.objs.size fp s H) rfl rfl rfl hc i [] s3 _ H3 _ J3 (gX TZ) TY stop) λr s4 ⟨hr,J4⟩=>?_;subst hr;exact fin _ H3 s4 _ Uy J4 q
  refine b_ (T.item (bF X ts sc cl H2.objs.size fp s H) rfl rfl rfl hc i [] s3 _ H3 _ J3 (gX TZ) TY go) λr s4 ⟨u,hr,h4⟩=>?_;subst hr;refine b_ h4 λ_ s5 ⟨x,H5,J5,r5,y5,OQ,Zj⟩=>?_;have J5':=J5.pinned (gX Zj) (T.obj _ _ OQ);have again:∀{σ7:St}{H7:Hp}{s7:Shared},Inv (bF X ts sc cl H2.objs.size fp s H) ([]++ph fp s5.heap) σ7 H7 s7->(σ7.length=σ.length+ts.length/\∀(i:Nat) v,σ[i]?=some (some v)->σ7[i]?=some (some v))->∀Pl m',W (i+1) m' Pl H7->m'<n ->
    ∃m,m<n/\∃i acc H',Inv (bF X ts sc cl H2.objs.size fp s H) [] (σ++List.replicate ts.length none) H' s7/\tn i s7.heap/\(∀b∈fp,H' b=none)/\W i m acc H':=λ{σ7 H7 s7} I7 hσ Pl m' w7 hm=>by
   refine⟨m',hm,i+1,Pl,H7,CU I7.kN hσ.1 hσ.2,T.keep _ _ _ OQ λb hb o e=>(I7.pin (b,o) (bW _ (bW _ (gZ hb e)))).1,λb hb=>?_,w7⟩;obtain⟨o,e,d⟩:=T.obj _ _ OQ b hb;exact (I7.pin (b,o) (bW _ (bW _ (gZ hb e)))).2.1
  refine wpAny_mono (hg H2.objs.size _ s5 _ H5 x u _ J5' r5 (step x H5 y5)) (λ_ s6 ⟨σ6,H6,J6,hσ,q6⟩=>?_) λ_ _ z=>False.elim z;refine wpAny_mono (ht H2.objs.size _ s6 σ6 H6 _ J6 q6) (λb s7 ⟨H7,J7,q7⟩=>?_) λ_ _ z=>False.elim z;cases b with
  |false=>obtain⟨m',hm,w7⟩:=q7;exact again J7 hσ acc m' w7 hm
  |true=>show wpAny _ _ _ _ _ _;refine wpAny_mono (he H2.objs.size _ s7 σ6 H7 _ J7 q7) (λy s8 ⟨yv,H8,J8,ry,hD8,m',hm,w8⟩=>?_) λ_ _ z=>False.elim z;refine wpAny_mono (bc (X:=bF X ts sc cl H2.objs.size fp s H) _ s8 σ6 H8 (.ref s.heap.objs.size) [yv] (.ref s.heap.objs.size) [y] (λv H9=>v=.aO/\H9=upd H8 s.heap.objs.size (.lst (acc++[yv]))) J8 rfl (.cons ry .nil) ⟨_,acc,yv,rfl,rfl,hD8,hz,rfl,rfl⟩) (λv9 s9 ⟨v,H9,J9,_,_,e9⟩=>?_) λ_ _ z=>False.elim z;subst e9;exact again J9 hσ (acc++[yv]) m' w8 hm
 exact codeAny_compStart_list (loop _ rfl) (T.self _ 0 _ _ _ Uz (loop _ rfl))
def E5(n:Nat)(wi:TI)(g:TG)(tt:TT)(te:TE):TE:=λσ H Q=>wi σ H λJ H1=>∀D,H1 D=none->E4 J g tt te n σ D (Q (.ref D)) H1
theorem wJ(I:Inv X pins σ H s)(hS:pD X.N ts X.env.scope sc):∀p∈sc.names,p.2=.free->∃c,X.env.cells.lookup p.1=some c:=λp hp hf=>by
 rcases hS.fr p hp hf with z|z
 exact I.ok.has p.1 (.inl z);exact I.ok.has p.1 (.inr z)
theorem JO{elt tg:Expr}{ifs:qap}{wi:TI}{g:TG}{tt:TT}(hc:X.calm=true)(hS:j8 X.N ts X.env.scope sc=true)(hi:PI X tg iter wi)(hg:∀cl C fp s H,PG (bF X ts sc cl C fp s H) tg g)(ht:∀cl C fp s H,E3 (bF X ts sc cl C fp s H) ifs tt)(he:∀cl C fp s H,PE (bF X ts sc cl C fp s H) elt te)(hs:∀x,foldedSetIterable iter X.env x=pure x:=by intro _;rfl):PE X (.ListComp elt [⟨tg,iter,ifs,0⟩] sc pos) (E5 ts.length wi g tt te):=by intro pins s σ H Q I h;have S:=sS hS;obtain⟨cl,E6,c1,c2⟩:=iA (wJ I S);rw[eval_ListComp];refine wpAny_comprehension_free (use:=none) rfl hs E6 S.kind S.names ?_;refine b_ (hi pins s σ H _ I h) λv s1 h1=>b_ h1 λXU s2 h2=>?_;obtain⟨it,fp,tn,J,H2,e,I2,T,wA,f2,q2⟩:=h2;subst e;refine wI (E:=X.xe) (RR:=λacc C=>compPost (model X.prog X.w) X.A X.xe none (EP X pins σ Q) acc C) hc I2 T wA f2 S c1 c2 (λC=>hg cl C fp s2 H2) (λC=>ht cl C fp s2 H2) (λC=>he cl C fp s2 H2) (q2 _ (I2.cm.fresh (cO _))) ?_;intro C H' s' σ' hC J' q';obtain⟨m,hn,_⟩:=J'.loc;refine⟨m,hn,λh' sb=>?_⟩;have I':=wH I2 f2 J';have fk:=I2.oh (H':=H') hC J'.free;obtain⟨f0,f1,_,f3,f4,f5⟩:=fk;exact⟨.ref _,H',I'.turned (t':=s'.toks) (λb o hb e=>(sb.2 b hb).trans e) f0 f1 f3 f4 f5,rfl,q'⟩
theorem JP{py:Pos}{wK:Pos}{elt tg:Expr}{ifs:qap}{wi:TI}{g:TG}{tt:TT}(hN:X.N.Nodup)(hy:X.N[i]?=some y)(hx:Loc X.env.scope y)(hc:X.calm=true)(hS:j8 X.N ts X.env.scope sc=true)(hi:PI X tg iter wi)(hg:∀cl C fp s H,PG (bF X ts sc cl C fp s H) tg g)(ht:∀cl C fp s H,E3 (bF X ts sc cl C fp s H) ifs tt)(he:∀cl C fp s H,PE (bF X ts sc cl C fp s H) elt te)(JQ:swapsWith (.ListComp elt [⟨tg,iter,ifs,0⟩] sc pos) (some (.Name y py)) wK.line X.env=pure true:=by rfl)(hs:∀x,foldedSetIterable iter X.env x=pure x:=by intro _;rfl)(hf:X.fn y=true\/X.env.scope.names.lookup y=some .local:=by first|exact .inl rfl|exact .inr rfl|assumption) :
  PS X (.Assign [.Name y py] (.ListComp elt [⟨tg,iter,ifs,0⟩] sc pos) wK) (Ju (E5 ts.length wi g tt te) (jM i)):=by
 intro pins s σ H D I h;have S:=sS hS;obtain⟨cl,E6,c1,c2⟩:=iA (wJ I S);rw[exec_Assign_Name_used _ _ _ _ JQ];refine wpAny_bind (wpAny_standAt (wpAny_bind ?_));show wpAny _ X.A (do let _ <- comprehension (.ListComp elt [⟨tg,iter,ifs,0⟩] sc pos) sc X.env _ (newList []) false (eval iter X.env) (some (assign (.Name y py) X.env))) _ _ s;refine wpAny_bind (wpAny_mono (wpAny_comprehension_free (use:=some (assign (.Name y py) X.env)) (Q:=λ_ s'=>SP X pins D .next s') (E:=X.xe) rfl hs E6 S.kind S.names ?_) (λ_ s' hq=>wpAny_pure (wpAny_pure hq)) λ_ _ e=>e);refine b_ (hi pins s σ H _ I h) λv s1 h1=>b_ h1 λXU s2 h2=>?_;obtain⟨it,fp,tn,J,H2,e,I2,T,wA,f2,q2⟩:=h2;subst e;refine wI (E:=X.xe) (RR:=λacc C=>compPost (model X.prog X.w) X.A X.xe (some (assign (.Name y py) X.env)) (λ_ s'=>SP X pins D .next s') acc C) hc I2 T wA f2 S c1 c2 (λC=>hg cl C fp s2 H2) (λC=>ht cl C fp s2 H2) (λC=>he cl C fp s2 H2) (q2 _ (I2.cm.fresh (cO _))) ?_;intro C H' s' σ' hC J' q';obtain⟨m,hn,_⟩:=J'.loc;have I':=wH I2 f2 J';have fk:=I2.oh (H':=H') hC J'.free;obtain⟨f0,f1,_,f3,f4,f5⟩:=fk;show wpAny _ X.A (assign (.Name y py) X.env (.ref s2.heap.objs.size)) _ _ s';refine wpAny_assign_Name (sM (v:=.ref s2.heap.objs.size) I' hN hy hx rfl (λs3 I3 ⟨a,sb,ha⟩=>?_) hf);have hCa:C≠a:=by
  obtain z|z:=ha
  rw[z];exact f1;exact λe=>f4 y a z e.symm
 refine⟨m,hn.sameBut sb hCa,λh' sb'=>?_⟩;exact⟨_,H',I3.turned (t':=s3.toks) (λb o hb e=>(sb'.2 b hb).trans e) f0 f1 f3 f4 f5,q'⟩
end
def X5(x:Str):It:=⟨λi _=>i<x.cps.size,λi H v H'=>H'=H/\∃c,x.cps[i]?=some c/\v=.str ⟨#[c]⟩,λi _=>x.cps.size<=i⟩
theorem dA(x:Str):(strIterType x="str_ascii_iterator")\/(strIterType x="str_iterator"):=by unfold strIterType;cases x.cps.all (·<128);exact .inr rfl;exact .inl rfl
theorem E7{tg:Expr}(x:Str)(t:Tok)(it:Addr):Turn P w K tg (X5 x) [it] it (λi h=>h.IsStrIter it (strIterType x) x t i) where
 mem:=by simp
 obj:=λi h st b hb=>by
  have e:b=it:=by simpa using hb
  subst e;obtain⟨o,e,c,d⟩:=st;exact⟨o,e,λv z=>by rw[d] at z;cases z⟩
 keep:=λi h h' st k=>by obtain⟨o,e,c,d⟩:=st;exact⟨o,k it (by simp) o e,c,d⟩
 item:=by
  intro X hP hw hK hc i pins s σ H E I hf st hg;subst hP hw hK;obtain⟨f0,f1,f2,f3,f4,f5⟩:=hf it (by simp);have hi:i<x.cps.size:=hg;have hx:x.cps[i]?=some x.cps[i]:=by simp[hi]
  have fin:∀h',h'.IsStrIter it (strIterType x) x t (i+1)->Heap.SameBut it s.heap h'->∃u,(some (Value.str ⟨#[x.cps[i]]⟩ s.toks):Option Value)=some u /\
    wpAny (model X.prog X.w) X.A (letOwnedTupleGo tg (.ref it) u) (λ_ s2=>∃y H',Inv X pins σ H' s2/\RelV y u/\(X5 x).TV i H y H'/\Heap.IsStrIter s2.heap it (strIterType x) x t (i+1)/\∀b∈[it],H' b=none) E {s with heap:=h',toks:=s.toks+1}:=λh' y3 sb=>by
   have I1:Inv X pins σ H {s with heap:=h',toks:=s.toks+1}:=I.turned (t':=s.toks+1) (λb o hb e=>(sb.2 b hb).trans e) f0 f1 f3 f4 f5;obtain⟨o,e,c,d⟩:=id y3;refine⟨_,rfl,A3 (s:={s with heap:=h',toks:=s.toks+1}) e c d ?_ ⟨.str ⟨#[x.cps[i]]⟩,H,I1,⟨_,rfl⟩,⟨rfl,_,hx,rfl⟩,y3,λb hb=>(hf b hb).1⟩⟩;rcases dA x with z|z<;>rw[z]<;>decide
  rcases dA x with z|z
  rw[z] at st fin;refine wpAny_pyNext_ascii_item st hx λh' y3 sb=>?_;have:=fin h' y3 sb;rw[<- z] at this;simpa[z] using this;rw[z] at st fin;refine wpAny_pyNext_wide_item st hx λh' y3 sb=>?_;have:=fin h' y3 sb;simpa[z] using this
 done:=by
  intro X hP hw hK hc i pins s σ H E I hf st hg;subst hP hw hK;obtain⟨f0,f1,f2,f3,f4,f5⟩:=hf it (by simp);have hi:x.cps.size<=i:=hg;have hx:x.cps[i]?=none:=by simp[hi]
  rcases dA x with z|z
  rw[z] at st;exact wpAny_pyNext_ascii_end (I.ok.hd hc) st hx λh' eb=>⟨rfl,I.turned (t':=s.toks) (λb o hb e=>eb b o hb e) f0 f1 f3 f4 f5⟩;rw[z] at st;exact wpAny_pyNext_wide_end (I.ok.hd hc) st hx λh' eb=>⟨rfl,I.turned (t':=s.toks) (λb o hb e=>eb b o hb e) f0 f1 f3 f4 f5⟩
 self:=λA i s Q E st h=>by
  rcases dA x with z|z
  rw[z] at st;exact wpAny_pyIter_striter_ascii st h;rw[z] at st;exact wpAny_pyIter_striter_wide st h
section
variable{tg:Expr}
theorem pF(hc:X.calm=true):dN X (.builtin "all") (λxs H Q=>∃(p:Addr)(bs:List Bool),xs=[.ref p]/\fW X.K H p (bs.map V.bl)/\Q (.bl (bs.all id)) H):=by
 intro pins s σ H xs us Q I r h;obtain⟨p,bs,rfl,hq,q⟩:=h;obtain⟨u,rfl,rx⟩:=vals1 r;cases rx;obtain⟨aN,rv,pl,hz⟩:=I.list hq;refine call_all_walk (wpAny_pyIter_list pl.isList ?_);have eV:p<s.heap.objs.size:=by obtain⟨o,n,e,_⟩:=pl;exact e_ e
 have fE:p≠s.heap.objs.size:=jK eV;have hh:X.A.in1.handled=none:=I.ok.hd hc;refine⟨s.heap.objs.size,_,_,_,_,_,λi=>bs.getD i true,rfl,Walks.list hh s.heap.objs.size p fE aN.toArray,⟨⟨_,mf _ rfl,rfl,rfl⟩,pl.isList.push _⟩,?_,λh' tk k=>?_⟩;intro i v s' Q' E' hP hQ;have UA:aN[i]?=some v:=by simpa using hP
 have hb:i<bs.length:=by have:=rv.length;have h2:=(eB.mp UA).1;rw[c6] at this;omega
 obtain⟨u,e1,r1⟩:=rv.get (i:=i) (x:=.bl bs[i]) (by simp[hb]);rw[UA] at e1;cases e1;obtain rfl:v=Value.bool bs[i]:=r1;have e3:bs.getD i true=bs[i]:=by simp[List.getD,hb]
 dsimp only at hQ;rw[e3] at hQ;exact wpAny_truthy_bool hQ;have hl:aN.toArray.size=bs.length:=by have:=rv.length;rw[c6] at this;rw[iz];omega
 have e:(List.range aN.toArray.size).all (λi=>bs.getD i true)=bs.all id:=by rw[hl,Bool.eq_iff_iff,Ou,Ou];constructor;intro h x hx;obtain⟨i,hi,e⟩:=List.mem_iff_getElem.mp hx;have:=h i (IT.mpr hi);simp only[List.getD,rq hi,XO] at this;rw[<- e];exact this;intro h i hi;have UB:=IT.mp hi;simp only[List.getD,rq UB,XO];exact h _ (XQ UB)
 rw[e];refine⟨.bl (bs.all id),H,?_,rfl,q⟩;have I0:Inv X pins σ H {s with heap:=s.heap.push {cls:=.type "list_iterator",data:=.fields #[.ref p,.int 0 0]} }:=I.kept (t':=s.toks) λb o e=>eZ _ e;have fk:=I.oh (H':=H) (cO s.heap.objs.size) I.fresh;obtain⟨f0,f1,_,f3,f4,f5⟩:=fk;exact I0.turned (t':=tk) (λb o hb e=>k b o (by simpa using hb) e) f0 f1 f3 f4 f5
theorem rK:MT X "str.startswith" (λx xs H Q=>∃z y,x=.str z/\xs=[.str y]/\Q (.bl (Txt.startswith z y)) H):=by intro pins s σ H x xs v us Q I rx rs h;obtain⟨z,y,rfl,rfl,q⟩:=h;obtain⟨t,rfl⟩:=rx;obtain⟨u,rfl,t',rfl⟩:=vals1 rs;exact SC.startswith ⟨.bl _,H,I,rfl,q⟩
theorem pG:∀{ys:qai}{us:qag},Vals (ys.map V.str) us->StrsAre us ys
 |[],us,r=>by rw[IV] at r;cases r;exact .nil
 |y::ys,us,r=>by
  rw[gA] at r;cases r with
  |cons r1 r2=>obtain⟨t,e⟩:=r1;subst e;exact .cons y t (pG r2)
theorem JR:MT X "str.join" (λx xs H Q=>∃(z:Str)(p:Addr)(ys:qai),x=.str z/\xs=[.ref p]/\fW X.K H p (ys.map V.str)/\(ys.map (·.length)).sum+ys.length * z.length<=16777216/\Q (.str (Txt.join z ys)) H):=by intro pins s σ H x xs v us Q I rx rs h;obtain⟨z,p,ys,rfl,rfl,hq,hz,q⟩:=h;obtain⟨t,rfl⟩:=rx;obtain⟨u,rfl,r1⟩:=vals1 rs;cases r1;obtain⟨aN,rv,pl,_⟩:=I.list hq;exact join_list pl.isList (by simpa using pG rv) hz λt' k=>⟨.str _,H,I.tok _,⟨_,rfl⟩,q⟩
def UC:V->Option Int->Option Int->Hp->VK->Prop:=λx lo hi H Q=>∃z,x=.str z/\z.length<=sizeLine/\Q (.str (Txt.slice z lo hi)) H
theorem Pm:ER X UC:=by
 intro pins s σ H x v vl vu lo hi sl Q I rx hs pl pu h;obtain⟨z,rfl,hz,q⟩:=h;obtain⟨t,rfl⟩:=rx;obtain⟨o,e,c,d⟩:=hs;refine⟨"str",_,slot_str_getitem.lookup,typeIs_str _ _ _,?_⟩;cases pl with
 |none=>
  cases pu with
  |none=>exact wpAny_getItem_str_slice (l:=none) (u:=none) (st:=none) ⟨o,e,c,d⟩ rfl (post_val_or_str ⟨mm (Txt.slice_le z _ _) hz,λt' k=>⟨.str _,H,I.tok _,⟨_,rfl⟩,q⟩⟩)
  |int j tj=>exact wpAny_getItem_str_slice (l:=none) (u:=some (j,tj)) (st:=none) ⟨o,e,c,d⟩ rfl (post_val_or_str ⟨mm (Txt.slice_le z _ _) hz,λt' k=>⟨.str _,H,I.tok _,⟨_,rfl⟩,q⟩⟩)
 |int i ti=>
  cases pu with
  |none=>exact wpAny_getItem_str_slice (l:=some (i,ti)) (u:=none) (st:=none) ⟨o,e,c,d⟩ rfl (post_val_or_str ⟨mm (Txt.slice_le z _ _) hz,λt' k=>⟨.str _,H,I.tok _,⟨_,rfl⟩,q⟩⟩)
  |int j tj=>exact wpAny_getItem_str_slice (l:=some (i,ti)) (u:=some (j,tj)) (st:=none) ⟨o,e,c,d⟩ rfl (post_val_or_str ⟨mm (Txt.slice_le z _ _) hz,λt' k=>⟨.str _,H,I.tok _,⟨_,rfl⟩,q⟩⟩)
end
theorem aH{D:Addr}{o:HO}(h:H D=none):aM H (upd H D o):=λb u e=>by rw[aC (ba e h)];exact e
section
theorem Inv.grown{ch:qah}{t:Addr}{o:HO}(I:Inv X pins σ H s)(k:∀b u,b∉ch->s.heap.get? b=some u->h'.get? b=some u)(hf:∀b∈ch,mw X pins H b)(ht:s.heap.objs.size<=t)(new:cw X.prog X.w (upd H t o) h' t o):Inv X pins σ (upd H t o) {s with heap:=h',toks:=t'}:=by
 have hn:H t=none:=I.cm.fresh ht;have Ew:∀b u,H b=some u->b∉ch:=λb u e z=>by rw[(hf b z).1] at e;cases e
 refine I.step (g':=s.gens) (d':=s.drawn) (ch:=ch) (λb hb=>?_) (λb u _ _ hc e _=>k b u hc e) (λb u _ _ hc e _=>⟨u.slots,k b u hc e⟩) (λb u _ e n=>?_) (λb u hc e=>⟨u,k b u hc e⟩)
  (λb xs e=>?_) (λb u v e=>?_) (λb ps e=>⟨#[],?_⟩) (λm hm=>?_) (λb u e=>?_) I.bare
 obtain⟨_,f1,_,f3,f4,f5⟩:=hf b hb;exact⟨f3,f1,f4,f5⟩;rw[aC (jK (sI (e_ e) ht))];exact n;rw[aC (ba e hn)];exact e;rw[aC (ba e hn)];exact e;rw[aC (ba e hn),e];simp;obtain⟨ob,es,ep,ho,r⟩:=hm;exact⟨ob,es,ep,k _ ob (λz=>(hf _ z).2.1 rfl) ho,r⟩;by_cases hb:b=t;subst hb;rw[aG] at e;cases e;exact new;rw[aC hb] at e;refine (I.cm b u e).yX (λc v hc q=>k c v ?_ q) (λc q=>by rw[aC (ba q hn)];exact q) λc xs q=>by rw[aC (ba q hn)];exact q
 obtain z|z:=hc
 rw[z];exact Ew b u e;exact Ew c _ z
end
def ZL(K:qaf)(a:Addr):It :=
 ⟨λi H=>∃xs x,fW K H a xs/\xs[i]?=some x,λi H v H'=>∃t x,H t=none/\v=.ref t/\(∀xs,fW K H a xs->xs[i]?=some x)/\H'=upd H t (.tup [.int (i:Int),x]),λi H=>∃xs,fW K H a xs/\xs.length<=i⟩
theorem CV{x1}(a e it:Addr)(fE:e≠it) :
  Turn P w K (.Tuple elts x1 tp) (ZL K a) [e,it] e (λi h=>(∃old,IsEnum h e it (i:Int) old)/\h.IsListIter it a i) where
 mem:=by simp
 obj:=λi h st b hb=>by
  obtain⟨⟨old,h1⟩,o,h2,c,d⟩:=st;rcases c7.mp hb with z|z
  subst z;exact⟨_,h1,λv z=>by cases z⟩;have z':b=it:=by simpa using z
  subst z';exact⟨o,h2,λv z=>by rw[d] at z;cases z⟩
 keep:=λi h h' st k=>by obtain⟨⟨old,h1⟩,wA⟩:=st;exact⟨⟨old,k e (by simp) _ h1⟩,wA.at λo q=>k it (by simp) o q⟩
 item:=by
  intro X hP hw hK hc i pins s σ H E I hf st hg;subst hP hw hK;obtain⟨xs,x,hq,hx⟩:=hg;obtain⟨aN,rv,p,hz⟩:=I.list hq;obtain⟨u,hu,ru⟩:=rv.get hx;obtain⟨⟨old,h1⟩,wA⟩:=st;refine wpAny_pyNext_enum_item h1 wA p.isList (x:=u) (by simpa using hu) fE λh₁ IY zu UD Eh ZM=>?_;refine⟨_,rfl,wpAny_letOwnedTupleGo_enum IY λh₂ UE ou=>?_⟩;have kT:Heap.SameBut e h₁ h₂:=ou;have eV:e<s.heap.objs.size:=e_ h1;have UG:s.heap.objs.size≠e:=Cn eV;have kk:∀b ob,b∉[e,it]->s.heap.get? b=some ob->h₂.get? b=some ob:=λb ob hb q=>by have Cr:b≠e:=λz=>hb (by simp[z]);have hbi:b≠it:=λz=>hb (by simp[z]);exact (kT.2 b Cr).trans (ZM b ob Cr hbi q)
  have new:cw X.prog X.w (upd H s.heap.objs.size (.tup [.int (i:Int),x])) h₂ s.heap.objs.size (.tup [.int (i:Int),x]) :=
   ⟨by show 2<=sizeLine;rw[sizeLine_eq];decide,[.int i s.toks,u],.cons ⟨_,rfl⟩ (.cons ru .nil),⟨_,(kT.2 _ UG).trans UD,rfl,_,rfl⟩⟩
  refine⟨.ref s.heap.objs.size,upd H s.heap.objs.size (.tup [.int (i:Int),x]),I.grown (t':=s.toks+1) kk hf (cO _) new,rfl,⟨_,x,I.fresh,rfl,λys hy=>by rw[I.kK hy hq];exact hx,rfl⟩,⟨⟨u,?_⟩,?_⟩,λb hb=>?_⟩;have:((i:Int)+1)=((i+1:Nat):Int):=by omega
  rw[<- this];exact UE;obtain⟨o,q,r⟩:=zu;exact⟨o,(kT.2 it (Ne.symm fE)).trans q,r⟩;have MX:b<s.heap.objs.size:=by
   rcases c7.mp hb with z|z
   subst z;exact eV;have z':b=it:=by simpa using z
   subst z';obtain⟨o,q,_⟩:=wA;exact e_ q
  rw[aC (jK MX)];exact (hf b hb).1
 done:=by intro X hP hw hK hc i pins s σ H E I hf st hg;subst hP hw hK;obtain⟨xs,hq,hx⟩:=hg;obtain⟨aN,rv,p,hz⟩:=I.list hq;have hl:=rv.length;obtain⟨⟨old,h1⟩,wA⟩:=st;obtain⟨f0,f1,f2,f3,f4,f5⟩:=hf it (by simp);exact wpAny_pyNext_enum_end (I.ok.hd hc) h1 wA p.isList (by simp;omega) λh' eb=>⟨rfl,I.turned (t':=s.toks) (λb o hb q=>eb b o hb q) f0 f1 f3 f4 f5⟩
 self:=λ_ _ _ _ _ st h=>by obtain⟨⟨old,h1⟩,_⟩:=st;exact wpAny_pyIter_enum h1 h
def UH(K:qaf)(ta:TA):TI:=λσ H R=>ta σ H λvs H1=>∃a,vs=[.ref a]/\(∃xs,fW K H1 a xs)/\R (ZL K a) H1
section
theorem boot_enumerate:bootBuiltins "enumerate"=some (.type "enumerate"):=by decide +kernel
theorem JS{x1}{a:Expr}{ta:TA}(hg:Gl X "enumerate")(hm:X.mg "enumerate"=none)(ha:PA X [a] ta)(hs:starEach [a] X.env=[(false,eval a X.env)]:=by rfl) :
  PI X (.Tuple elts x1 tp) (.Call (.Name "enumerate" p) [a] [] pos) (UH X.K ta):=by
 intro pins s σ H R I h;refine Call_ (j6 I hg hm boot_enumerate (Th (b_ (ha pos pins s σ H _ I h) λus s1 ⟨vs,H1,I1,r1,q1⟩=>?_) hs rfl));obtain⟨b,e,⟨xs,hq⟩,q⟩:=q1;subst e;obtain⟨u,rfl,ru⟩:=vals1 r1;cases ru;obtain⟨aN,rv,pl,hz⟩:=I1.list hq;refine call_enumerate_list pl.isList λh' he hit hsz hk=>?_;have I2:Inv X pins σ H1 {s1 with heap:=h'}:=I1.kept (t':=s1.toks) hk;refine wpAny_pyIter_enum he ?_;refine⟨s1.heap.objs.size+1,[s1.heap.objs.size+1,s1.heap.objs.size],_,_,H1,rfl,I2,CV b _ _ (Cn (wj _)),⟨⟨_,he⟩,hit⟩,λc hc=>?_,q⟩;rcases c7.mp hc with z|z
 subst z;exact I1.oh (IX _) (I1.cm.fresh (IX _));have z':c=s1.heap.objs.size:=by simpa using z
 subst z';exact I1.oh (cO _) I1.fresh
end
end L2
namespace wL
open PySem Builtin Builtin.Str
def bT:Str:="abcdefghijklmnopqrstuvwxyz"
noncomputable def CW(c:Nat):Bool:=!(occurrences bT ⟨#[c]⟩ 0 bT.length 1).isEmpty
theorem JT:CW 46=false:=by decide +kernel
theorem Pn:((".":String):Str)=⟨#[46]⟩:=by decide +kernel
noncomputable def cP(x:Str):Bool:=decide (1<=(x.length:Int)) && (decide ((x.length:Int)<=8) && x.cps.toList.all CW)
noncomputable def Po(x:Str):Bool:=Txt.startswith x "." && cP (Txt.slice x (some 1) none)
theorem rM(h:x.cps.toList.all CW=true):Txt.startswith x "."=false:=by
 obtain⟨⟨l⟩⟩:=x;rw[Pn];unfold Txt.startswith subAt;cases l with
 |nil=>rfl
 |cons c r=>
  have hc:CW c=true:=by have:=Ou.mp h c (by simp);exact this
  have ne:c≠46:=λe=>by rw[e,JT] at hc;cases hc
  have e1:(Array.extract ({toList:=c::r}:Array Nat) 0 (0+(Str.mk #[46]).length)==(Str.mk #[46]).cps)=false:=by rw[beq_eq_false_iff_ne];intro q;have q2:=congrArg (λa=>a[0]?) q;simp[Str.length] at q2;exact ne q2
  show (decide _ && (Array.extract ({toList:=c::r}:Array Nat) 0 (0+(Str.mk #[46]).length)==(Str.mk #[46]).cps))=false;rw[e1,Bool.and_false]
theorem ur(h:cP x=true):x.cps.toList.all CW=true:=by unfold cP at h;rw[mh,mh] at h;exact h.2.2
end wL
namespace VT
open PySem PySem.Spec PyProof.Rows L2
abbrev St:=L2.St
inductive T where
 |aO|bl (b:Bool)|int (i:Int)|str (x:Str)|tup (l:List T)|lst (l:List T)|dk (ks:List Key) (vs:List T)|dc (nh:List Key×Key->Int) (ks:List (List Key×Key)) (vs:List T)|ins (C:Addr) (ns:qai) (vs:List T)|pin (a:Addr) (t:T)|ob (a:Addr)|ty (n:String)
def rN(K:qaf)(H:Hp)(O:qah)(a:Addr)(vs:qak):Prop :=
 (Rd H a (.lst vs)/\a∉O)\/∃(o:Obj)(aN:Array Value)(n:Nat),K.lookup a=some o/\o.cls=.type "list"/\o.dict=none/\o.data=.seq aN n/\aN.size<=sizeLine/\Vals vs aN.toList
theorem rN.sq{O:qah}(h:rN K H O a vs):fW K H a vs:=by
 obtain h|h:=h
 exact .inl h.1;exact .inr h
def zv(H:Hp)(O:qah)(a:Addr)(u:HO):Prop:=H a=some u/\a∉O
def zw(nh:List Key×Key->Int)(a:Addr)(xs:List ((List Key×Key)×Addr×Value)):Heap->Prop:=λh=>∃o es ep,h.get? a=some o/\o.ExactDict/\o.data=.dict es ep/\es.toList=xs.map (λx=>⟨nh x.1,.ref x.2.1,x.2.2⟩)/\(xs.map (·.1)).Nodup
def JU(K:qaf)(H:Hp)(c:List Key×Key)(b:Addr):Prop:=∃d,dU K H b [.ref d,kV c.2]/\dU K H d (c.1.map kV)
mutual
def At(K:qaf)(H:Hp)(O:qah):T->V->Prop
 |.aO,v=>v=.aO
 |.bl b,v=>v=.bl b
 |.int i,v=>v=.int i
 |.str x,v=>v=.str x
 |.ob a,v=>v=.ref a
 |.ty n,v=>v=.ty n
 |.tup ts,v=>∃a vs,v=.ref a/\dU K H a vs/\aB K H O ts vs
 |.lst ts,v=>∃a vs,v=.ref a/\rN K H O a vs/\aB K H O ts vs
 |.dk ks ts,v=>∃a vs,v=.ref a/\ks.length=vs.length/\zv H O a (.dK (ks.zip vs))/\aB K H O ts vs
 |.dc nh ks ts,v=>∃a xs vs,v=.ref a/\zv H O a (.ext (zw nh a xs))/\ks=xs.map (·.1)/\(a==sysModules)=false/\(∀x∈xs,JU K H x.1 x.2.1)/\Vals vs (xs.map (·.2.2))/\aB K H O ts vs
 |.pin a t,v=>v=.ref a/\At K H O t v
 |.ins C ns ts,v=>∃a dx vs,v=.ref a/\ns.length=vs.length/\zv H O a (.ins C dx (ns.zip vs))/\aB K H O ts vs
def aB(K:qaf)(H:Hp)(O:qah):List T->qak->Prop
 |[],vs=>vs=[]
 |t::ts,vs=>∃v r,vs=v::r/\At K H O t v/\aB K H O ts r
end
section
variable{O O':qah}
mutual
theorem At.map(hl:∀a vs,rN K H O a vs->rN K H' O' a vs)(ht:∀a vs,dU K H a vs->dU K H' a vs)(hd:∀a u,zv H O a u->zv H' O' a u):∀{t:T}{v:V},At K H O t v->At K H' O' t v
 |.aO,_,h=>by simpa only[At] using h
 |.bl _,_,h=>by simpa only[At] using h
 |.int _,_,h=>by simpa only[At] using h
 |.str _,_,h=>by simpa only[At] using h
 |.ob _,_,h=>by simpa only[At] using h
 |.ty _,_,h=>by simpa only[At] using h
 |.tup ts,_,h=>by simp only[At] at h ⊢;obtain⟨a,vs,e,h1,h2⟩:=h;exact⟨a,vs,e,ht a vs h1,aB.map hl ht hd h2⟩
 |.lst ts,_,h=>by simp only[At] at h ⊢;obtain⟨a,vs,e,h1,h2⟩:=h;exact⟨a,vs,e,hl a vs h1,aB.map hl ht hd h2⟩
 |.dk ks ts,_,h=>by simp only[At] at h ⊢;obtain⟨a,vs,e,h0,h1,h2⟩:=h;exact⟨a,vs,e,h0,hd _ _ h1,aB.map hl ht hd h2⟩
 |.dc nh ks ts,_,h=>by simp only[At] at h ⊢;obtain⟨a,xs,vs,e,h0,h1,hm,h2,h3,h4⟩:=h;exact⟨a,xs,vs,e,hd _ _ h0,h1,hm,λx hx=>let ⟨d,q1,q2⟩:=h2 x hx;⟨d,ht _ _ q1,ht _ _ q2⟩,h3,aB.map hl ht hd h4⟩
 |.pin a t,_,h=>by simp only[At] at h ⊢;exact⟨h.1,At.map hl ht hd h.2⟩
 |.ins C ns ts,_,h=>by simp only[At] at h ⊢;obtain⟨a,dx,vs,e,h0,h1,h2⟩:=h;exact⟨a,dx,vs,e,h0,hd _ _ h1,aB.map hl ht hd h2⟩
theorem aB.map(hl:∀a vs,rN K H O a vs->rN K H' O' a vs)(ht:∀a vs,dU K H a vs->dU K H' a vs)(hd:∀a u,zv H O a u->zv H' O' a u):∀{ts:List T}{vs:qak},aB K H O ts vs->aB K H' O' ts vs
 |[],_,h=>by simpa only[aB] using h
 |t::ts,_,h=>by simp only[aB] at h ⊢;obtain⟨v,r,e,h1,h2⟩:=h;exact⟨v,r,e,At.map hl ht hd h1,aB.map hl ht hd h2⟩
end
theorem Rd.same{u:HO}(s:aM H H')(h:Rd H a u):Rd H' a u:=by
 obtain h|⟨o,h⟩:=h
 exact .inl (s _ _ h);exact .inr ⟨o,s _ _ h⟩
theorem dU.same(s:aM H H')(h:dU K H a vs):dU K H' a vs:=by
 obtain h|h:=h
 exact .inl (Rd.same s h);exact .inr h
theorem rN.same(s:aM H H')(h:rN K H O a vs):rN K H' O a vs:=by
 obtain h|h:=h
 exact .inl ⟨Rd.same s h.1,h.2⟩;exact .inr h
theorem At.same{t:T}(s:aM H H')(h:At K H O t v):At K H' O t v:=At.map (λ_ _ q=>q.same s) (λ_ _ q=>dU.same s q) (λ_ _ q=>⟨s _ _ q.1,q.2⟩) h
theorem aB.same{t:List T}{v:qak}(s:aM H H')(h:aB K H O t v):aB K H' O t v:=aB.map (λ_ _ q=>q.same s) (λ_ _ q=>dU.same s q) (λ_ _ q=>⟨s _ _ q.1,q.2⟩) h
theorem At.aY{t:T}(s:∀a∈O',a∈O)(h:At K H O t v):At K H O' t v :=
 At.map (λa vs q=>q.elim (λz=>.inl ⟨z.1,λm=>z.2 (s a m)⟩) .inr) (λ_ _ q=>q) (λa _ q=>⟨q.1,λm=>q.2 (s a m)⟩) h
theorem aB.aY{t:List T}{v:qak}(s:∀a∈O',a∈O)(h:aB K H O t v):aB K H O' t v :=
 aB.map (λa vs q=>q.elim (λz=>.inl ⟨z.1,λm=>z.2 (s a m)⟩) .inr) (λ_ _ q=>q) (λa _ q=>⟨q.1,λm=>q.2 (s a m)⟩) h
theorem Rd.some{u:HO}(h:Rd H a u):H a≠none:=by obtain h|⟨o,h⟩:=h<;>rw[h]<;>simp
theorem At.more{t:T}(s:∀a∈O',a∈O\/H a=none)(h:At K H O t v):At K H O' t v :=
 At.map (λa vs q=>q.elim (λz=>.inl ⟨z.1,λm=>(s a m).elim z.2 (Rd.some z.1)⟩) .inr) (λ_ _ q=>q) (λa aT q=>⟨q.1,λm=>(s a m).elim q.2 (by rw[q.1];simp)⟩) h
theorem aB.more{t:List T}{v:qak}(s:∀a∈O',a∈O\/H a=none)(h:aB K H O t v):aB K H O' t v :=
 aB.map (λa vs q=>q.elim (λz=>.inl ⟨z.1,λm=>(s a m).elim z.2 (Rd.some z.1)⟩) .inr) (λ_ _ q=>q) (λa aT q=>⟨q.1,λm=>(s a m).elim q.2 (by rw[q.1];simp)⟩) h
def jF:HO->Bool
 |.lst _=>true
 |.dK _=>true
 |.dT _=>true
 |.ins _ _ _=>true
 |.ext _=>true
 |_=>false
theorem At.wrote{t:T}{o u:HO}(ha:a∈O)(hu:H a=some u)(hm:jF u=true)(h:At K H O t v):At K (upd H a o) O t v:=by
 have ne:∀b,b∉O->b≠a:=λb hb e=>hb (by rw[e];exact ha);refine At.map (λb vs q=>?_) (λb vs q=>?_) (λb aT q=>?_) h;obtain q|q:=q
 refine .inl ⟨?_,q.2⟩;obtain z|⟨o',z⟩:=q.1
 exact .inl (by rw[aC (ne b q.2)];exact z);exact .inr ⟨o',by rw[aC (ne b q.2)];exact z⟩;exact .inr q;obtain z|z:=q
 refine .inl ?_;obtain z|⟨o',z⟩:=z
 exact .inl (by rw[aC (Et z hu (by intro e;subst e;cases hm))];exact z);exact .inr ⟨o',by rw[aC (Et z hu (by intro e;subst e;cases hm))];exact z⟩;exact .inr z;exact⟨by rw[aC (ne b q.2)];exact q.1,q.2⟩
theorem aB.iff{ts:List T}:∀{vs:qak},aB K H O ts vs↔Paired (λv t=>At K H O t v) vs ts:=by
 induction ts with
 |nil=>intro vs;simp only[aB];exact⟨λe=>by subst e;exact .nil,λh=>by cases h;rfl⟩
 |cons t ts ih=>
  intro vs;simp only[aB];constructor;rintro⟨v,r,rfl,h1,h2⟩;exact .cons h1 (ih.mp h2);intro h;cases h with
  |cons h1 h2=>exact⟨_,_,rfl,h1,ih.mpr h2⟩
theorem aB.wrote{t:List T}{v:qak}{o u:HO}(ha:a∈O)(hu:H a=some u)(hm:jF u=true)(h:aB K H O t v):aB K (upd H a o) O t v :=
 aB.iff.mpr (Paired.mq (aB.iff.mp h) λ_ _ q=>q.wrote ha hu hm)
theorem aB.length{ts:List T}{vs:qak}(h:aB K H O ts vs):vs.length=ts.length:=Ow (aB.iff.mp h)
theorem aB.get{ts:List T}{vs:qak}(h:aB K H O ts vs){i:Nat}{t:T}(e:ts[i]?=some t):∃v,vs[i]?=some v/\At K H O t v:=by
 have q:=aB.iff.mp h;clear h;induction q generalizing i with
 |nil=>simp at e
 |cons r _ ih=>
  cases i with
  |zero=>simp at e;subst e;exact⟨_,rfl,r⟩
  |succ i=>obtain⟨v,h1,h2⟩:=ih (i:=i) (by simpa using e);exact⟨v,by simpa using h1,h2⟩
theorem aB.cons{t:T}{ts:List T}{v:V}{vs:qak}(h:At K H O t v)(hs:aB K H O ts vs):aB K H O (t::ts) (v::vs):=by simp only[aB];exact⟨v,vs,rfl,h,hs⟩
theorem aB.nil:aB K H O [] []:=by simp only[aB]
theorem aB.append{ts us:List T}{ws:qak}(h:aB K H O ts vs)(h':aB K H O us ws):aB K H O (ts++us) (vs++ws):=by
 rw[aB.iff] at h h' ⊢;induction h with
 |nil=>exact h'
 |cons r _ ih=>exact .cons r ih
theorem aB.drop{ts:List T}(n:Nat)(h:aB K H O ts vs):aB K H O (ts.drop n) (vs.drop n):=by
 rw[aB.iff] at h ⊢;induction h generalizing n with
 |nil=>cases n<;>exact .nil
 |cons r t ih=>cases n with
  |zero=>exact .cons r t
  |succ n=>exact ih n
theorem aB.take{ts:List T}(n:Nat)(h:aB K H O ts vs):aB K H O (ts.take n) (vs.take n):=by
 rw[aB.iff] at h ⊢;induction h generalizing n with
 |nil=>cases n<;>exact .nil
 |cons r t ih=>cases n with
  |zero=>exact .nil
  |succ n=>exact .cons r (ih n)
theorem aB.set{ts:List T}{t:T}(i:Nat)(h:aB K H O ts vs)(q:At K H O t v):aB K H O (ts.set i t) (vs.set i v):=by
 rw[aB.iff] at h ⊢;induction h generalizing i with
 |nil=>exact .nil
 |cons r s ih=>cases i with
  |zero=>exact .cons q s
  |succ i=>exact .cons r (ih i)
end
mutual
def bX:T->Bool
 |.tup ts=>dv ts
 |.lst _=>false
 |.dk _ _=>false
 |.dc _ _ _=>false
 |.ins _ _ _=>false
 |.pin _ _=>false
 |_=>true
def dv:List T->Bool
 |[]=>true
 |t::ts=>bX t && dv ts
end
section
variable{O O':qah}
mutual
theorem At.bX:∀{t:T}{v:V},bX t=true->At K H O t v->At K H O' t v
 |.aO,_,_,h=>by simpa only[At] using h
 |.bl _,_,_,h=>by simpa only[At] using h
 |.int _,_,_,h=>by simpa only[At] using h
 |.str _,_,_,h=>by simpa only[At] using h
 |.ob _,_,_,h=>by simpa only[At] using h
 |.ty _,_,_,h=>by simpa only[At] using h
 |.tup ts,_,i,h=>by simp only[At] at h ⊢;simp only[VT.bX] at i;obtain⟨a,vs,e,h1,h2⟩:=h;exact⟨a,vs,e,h1,aB.bX i h2⟩
 |.lst ts,_,i,h=>by simp only[VT.bX] at i;cases i
 |.dk _ _,_,i,h=>by simp only[VT.bX] at i;cases i
 |.dc _ _ _,_,i,h=>by simp only[VT.bX] at i;cases i
 |.ins _ _ _,_,i,h=>by simp only[VT.bX] at i;cases i
 |.pin _ _,_,i,h=>by simp only[VT.bX] at i;cases i
theorem aB.bX:∀{ts:List T}{vs:qak},dv ts=true->aB K H O ts vs->aB K H O' ts vs
 |[],_,_,h=>by simpa only[aB] using h
 |t::ts,_,i,h=>by simp only[VT.dv,mh] at i;simp only[aB] at h ⊢;obtain⟨v,r,e,h1,h2⟩:=h;exact⟨v,r,e,At.bX i.1 h1,aB.bX i.2 h2⟩
end
end
abbrev En:=List (Option (T×Bool))
structure Zc where
 H0:Hp
 P:List (Nat×Addr)
 Ox:qah
noncomputable def Zc.ex(Z:Zc)(a:Addr):Zc:={Z with Ox:=a::Z.Ox}
def cD(K:qaf)(H:Hp)(A:qah)(a:Addr):T->Prop
 |.lst ts=>∃vs,H a=some (.lst vs)/\aB K H A ts vs
 |.dk ks ts=>∃vs,ks.length=vs.length/\H a=some (.dK (ks.zip vs))/\aB K H A ts vs
 |.ins C ns ts=>∃dx vs,ns.length=vs.length/\H a=some (.ins C dx (ns.zip vs))/\aB K H A ts vs
 |_=>False
def mB(K:qaf)(H:Hp)(A:qah):Option (T×Bool)->qar->Option V->Prop
 |none,o,_=>o=none
 |some (t,false),o,s=>o=none/\∃v,s=some v/\At K H A t v
 |some (t,true),o,s=>∃a,o=some a/\s=some (.ref a)/\cD K H A a t
noncomputable def roots(O:HD):qah:=O.filterMap id
noncomputable def av(Z:Zc)(O:HD):qah:=roots O++Z.Ox
structure ax(K:qaf)(Z:Zc)(tm:List (T×V))(O:HD)(ρ:En)(σ:St)(H:Hp):Prop where
 lσ:σ.length=ρ.length
 lO:O.length=ρ.length
 sl:∀(i:Nat) e,ρ[i]?=some e->∃o s,O[i]?=some o/\σ[i]?=some s/\mB K H (av Z O) e o s
 nd:(roots O).Nodup
 own:∀a∈roots O,(a∈Z.P.map (·.2)\/Z.H0 a=none)/\a∉Z.Ox/\∃u,H a=some u/\jF u=true
 par:∀p∈Z.P,O[p.1]?=some (some p.2)
 ox:∀a∈Z.Ox,H a≠none
 keep:∀b o,Z.H0 b=some o->b∉Z.P.map (·.2)->H b=some o
 pH:∀p∈tm,At K H (av Z O) p.1 p.2
section
variable{Z:Zc}{tm:List (T×V)}{ρ:En}
theorem cD.map{A A':qah}{t:T}(h:cD K H A a t)(h1:H' a=H a)(h2:∀ts vs,aB K H A ts vs->aB K H' A' ts vs):cD K H' A' a t:=by
 cases t with
 |lst ts=>obtain⟨vs,e,q⟩:=h;exact⟨vs,h1.trans e,h2 _ _ q⟩
 |dk ks ts=>obtain⟨vs,l,e,q⟩:=h;exact⟨vs,l,h1.trans e,h2 _ _ q⟩
 |ins C ns ts=>obtain⟨dx,vs,l,e,q⟩:=h;exact⟨dx,vs,l,h1.trans e,h2 _ _ q⟩
 |_=>exact h.elim
theorem cD.mut{A:qah}{t:T}(h:cD K H A a t):∃u,H a=some u/\jF u=true:=by
 cases t with
 |lst ts=>obtain⟨vs,e,q⟩:=h;exact⟨_,e,rfl⟩
 |dk ks ts=>obtain⟨vs,l,e,q⟩:=h;exact⟨_,e,rfl⟩
 |ins C ns ts=>obtain⟨dx,vs,l,e,q⟩:=h;exact⟨_,e,rfl⟩
 |_=>exact h.elim
theorem cD.aY{A A':qah}{t:T}(h:cD K H A a t)(s:∀b∈A',b∈A):cD K H A' a t:=h.map rfl λ_ _ q=>q.aY s
theorem cD.same{A:qah}{t:T}(h:cD K H A a t)(s:aM H H'):cD K H' A a t:=by obtain⟨u,e,_⟩:=h.mut;exact h.map (by rw[e];exact s _ _ e) λ_ _ q=>q.same s
theorem cD.at{A:qah}{t:T}(h:cD K H A a t)(n:a∉A):At K H A t (.ref a):=by
 cases t with
 |lst ts=>obtain⟨vs,e,q⟩:=h;simp only[At];exact⟨a,vs,rfl,.inl ⟨.inl e,n⟩,q⟩
 |dk ks ts=>obtain⟨vs,l,e,q⟩:=h;simp only[At];exact⟨a,vs,rfl,l,⟨e,n⟩,q⟩
 |ins C ns ts=>obtain⟨dx,vs,l,e,q⟩:=h;simp only[At];exact⟨a,dx,vs,rfl,l,⟨e,n⟩,q⟩
 |_=>exact h.elim
theorem mB.map{A A':qah}{e:Option (T×Bool)}{o:qar}{s:Option V}(h:mB K H A e o s)(h1:∀t v,At K H A t v->At K H' A' t v)(h2:∀a t,o=some a->cD K H A a t->cD K H' A' a t):mB K H' A' e o s:=by
 match e,h with
 |none,h=>exact h
 |some (t,false),⟨e,v,es,q⟩=>exact⟨e,v,es,h1 _ _ q⟩
 |some (t,true),⟨a,e,es,q⟩=>exact⟨a,e,es,h2 _ _ e q⟩
theorem aK:a∈roots O↔some a∈O:=by unfold roots;rw[List.mem_filterMap];exact⟨λ⟨x,h,e⟩=>by rw[id] at e;rw[<- e];exact h,λh=>⟨_,h,rfl⟩⟩
theorem ax.yP(I:ax K Z tm O ρ σ H):∀a∈av Z O,H a≠none:=λa h=>by
 rcases cU.mp h with h|h
 obtain⟨_,_,u,e,_⟩:=I.own a h;rw[e];simp;exact I.ox a h
theorem ax.same(I:ax K Z tm O ρ σ H)(s:aM H H'):ax K Z tm O ρ σ H' :=
 ⟨I.lσ,I.lO,λi e h=>let ⟨o,w,h1,h2,h3⟩:=I.sl i e h;⟨o,w,h1,h2,h3.map (λ_ _ q=>q.same s) λ_ _ _ q=>q.same s⟩,I.nd,
  λa h=>let ⟨h1,h2,u,e,m⟩:=I.own a h;⟨h1,h2,u,s _ _ e,m⟩,I.par,λa h=>by
   cases e:H a with
   |none=>exact absurd e (I.ox a h)
   |some u=>rw[s _ _ e];simp,
  λb o e n=>s _ _ (I.keep b o e n),λp hp=>(I.pH p hp).same s⟩
theorem bZ(i:Nat):∀a∈roots (O.set i none),a∈roots O:=λa h=>by
 rw[aK] at h ⊢;rcases Sz h with z|z
 exact z;cases z
theorem gg:∀(O:HD)(i:Nat),(roots O).Nodup->(roots (O.set i none)).Nodup
 |[],i,h=>by simpa using h
 |o::O,0,h=>by
  cases o with
  |none=>simpa[roots] using h
  |some a=>simp only[roots,MA,nv,id] at h ⊢;exact (kB.mp h).2
 |o::O,i+1,h=>by
  have key:=gg O i;cases o with
  |none=>simp only[roots,Ep,nv,id] at h ⊢;exact key h
  |some a=>simp only[roots,Ep,nv,id] at h ⊢;rw[kB] at h ⊢;exact⟨λz=>h.1 (bZ i a z),key h.2⟩
theorem b9(i:Nat):∀a∈av Z (O.set i none),a∈av Z O:=λa h=>by
 rcases cU.mp h with h|h
 exact cy _ (bZ i a h);exact bW _ h
theorem get_set{l:List α}{x y:α}(h:(l.set i x)[j]?=some y):(j=i/\y=x/\i<l.length)\/(j≠i/\l[j]?=some y):=by rw[Tr] at h;by_cases e:i=j;rw[if_pos e] at h;by_cases hl:i<l.length;rw[if_pos hl] at h;exact .inl ⟨e.symm,(Option.some.inj h).symm,hl⟩;rw[if_neg hl] at h;cases h;rw[if_neg e] at h;exact .inr ⟨λz=>e z.symm,h⟩
theorem ax.put(I:ax K Z tm O ρ σ H){t:T}(hp:∀p∈Z.P,p.1≠i)(hv:At K H (av Z O) t v):ax K Z tm (O.set i none) (ρ.set i (some (t,false))) (σ.set i (some v)) H:=by
 have fw:∀{t:T}{v:V},At K H (av Z O) t v->At K H (av Z (O.set i none)) t v:=λq=>q.aY (b9 i);refine⟨by simp[I.lσ],by simp[I.lO],λj e h=>?_,gg _ _ I.nd,λa h=>I.own a (bZ i a h),λp q=>?_,I.ox,I.keep,λp q=>fw (I.pH p q)⟩;rcases get_set h with⟨rfl,rfl,hl⟩|⟨ne,h⟩
 exact⟨none,some v,by rw[AY (by rw[I.lO];exact hl)],by rw[AY (by rw[I.lσ];exact hl)],rfl,v,rfl,fw hv⟩;obtain⟨o,s,h1,h2,h3⟩:=I.sl j e h;exact⟨o,s,by rw[rC (Ne.symm ne)];exact h1,by rw[rC (Ne.symm ne)];exact h2,h3.map (λ_ _ q=>fw q) λ_ _ _ q=>q.aY (b9 i)⟩;rw[rC (Ne.symm (hp p q))];exact I.par p q
theorem ax.forget(I:ax K Z tm O ρ σ H)(hp:∀p∈Z.P,p.1≠i):ax K Z tm (O.set i none) (ρ.set i none) σ H:=by
 have fw:∀{t:T}{v:V},At K H (av Z O) t v->At K H (av Z (O.set i none)) t v:=λq=>q.aY (b9 i);refine⟨by simp[I.lσ],by simp[I.lO],λj e h=>?_,gg _ _ I.nd,λa h=>I.own a (bZ i a h),λp q=>?_,I.ox,I.keep,λp q=>fw (I.pH p q)⟩;rcases get_set h with⟨rfl,rfl,hl⟩|⟨ne,h⟩
 obtain⟨s,hs⟩:∃s,σ[j]?=some s:=⟨σ[j]'(by rw[I.lσ];exact hl),by simp⟩;exact⟨none,s,by rw[AY (by rw[I.lO];exact hl)],hs,rfl⟩;obtain⟨o,s,h1,h2,h3⟩:=I.sl j e h;exact⟨o,s,by rw[rC (Ne.symm ne)];exact h1,h2,h3.map (λ_ _ q=>fw q) λ_ _ _ q=>q.aY (b9 i)⟩;rw[rC (Ne.symm (hp p q))];exact I.par p q
theorem nE:∀(O:HD)(i:Nat)(a:Addr),a∉roots O->(roots O).Nodup->(roots (O.set i (some a))).Nodup
 |[],i,a,_,h=>by simpa using h
 |o::O,0,a,n,h=>by
  cases o with
  |none=>simp only[roots,MA,nv,id] at n h ⊢;exact kB.mpr ⟨n,h⟩
  |some b=>simp only[roots,MA,nv,id] at n h ⊢;exact kB.mpr ⟨λz=>n (gD _ z),(kB.mp h).2⟩
 |o::O,i+1,a,n,h=>by
  have key:=nE O i a;cases o with
  |none=>simp only[roots,Ep,nv,id] at n h ⊢;exact key n h
  |some b=>
   simp only[roots,Ep,nv,id] at n h ⊢;rw[kB] at h ⊢;refine⟨λz=>?_,key (λz=>n (gD _ z)) h.2⟩;have z':some b∈O.set i (some a):=aK.mp z;rcases Sz z' with q|q
   exact h.1 (aK.mpr q);exact n (by rw[Option.some.inj q];exact dG)
theorem wM(i:Nat):∀b∈av Z (O.set i (some a)),b∈av (Z.ex a) O:=λb h=>by
 rcases cU.mp h with h|h
 rcases Sz (aK.mp h) with z|z
 exact cy _ (aK.mpr z);exact bW _ (by rw[Option.some.inj z];exact dG);exact bW _ (gD _ h)
theorem ax.ZN(I:ax K (Z.ex a) tm O ρ σ H){t:T}(hp:∀p∈Z.P,p.1≠i)(hv:cD K H (av (Z.ex a) O) a t)(h0:Z.H0 a=none)(hx:a∉Z.Ox):ax K Z tm (O.set i (some a)) (ρ.set i (some (t,true))) (σ.set i (some (.ref a))) H:=by
 have sub:=wM (Z:=Z) (O:=O) (a:=a) i;have fw:∀{t:T}{v:V},At K H (av (Z.ex a) O) t v->At K H (av Z (O.set i (some a))) t v:=λq=>q.aY sub;have na:a∉roots O:=λz=>(I.own a z).2.1 dG;refine⟨by simp[I.lσ],by simp[I.lO],λj e h=>?_,nE _ _ _ na I.nd,λb h=>?_,λp q=>?_,λb h=>I.ox b (gD _ h),I.keep,λp q=>fw (I.pH p q)⟩;rcases get_set h with⟨rfl,rfl,hl⟩|⟨ne,h⟩
 exact⟨some a,some (.ref a),by rw[AY (by rw[I.lO];exact hl)],by rw[AY (by rw[I.lσ];exact hl)],a,rfl,rfl,hv.aY sub⟩;obtain⟨o,s,h1,h2,h3⟩:=I.sl j e h;exact⟨o,s,by rw[rC (Ne.symm ne)];exact h1,by rw[rC (Ne.symm ne)];exact h2,h3.map (λ_ _ q=>fw q) λ_ _ _ q=>q.aY sub⟩;rcases Sz (aK.mp h) with z|z
 obtain⟨h1,h2,h3⟩:=I.own b (aK.mpr z);exact⟨h1,λq=>h2 (gD _ q),h3⟩;cases z;exact⟨.inr h0,hx,hv.mut⟩;rw[rC (Ne.symm (hp p q))];exact I.par p q
theorem ax.Cq(I:ax K Z tm O ρ σ H){t:T}(hp:∀p∈Z.P,p.1≠i)(hi:ρ[i]?=some (some (t,true))):ax K Z tm (O.set i none) (ρ.set i (some (t,false))) σ H:=by
 have fw:∀{t:T}{v:V},At K H (av Z O) t v->At K H (av Z (O.set i none)) t v:=λq=>q.aY (b9 i);obtain⟨o,s,h1,h2,a,rfl,rfl,hr⟩:=I.sl i _ hi;have ha:a∈roots O:=aK.mpr (gW h1);have na:a∉roots (O.set i none):=λz=>by
  obtain⟨j,hj⟩:=XA.mp (aK.mp z);rcases get_set hj with⟨_,q,_⟩|⟨ne,q⟩
  cases q
  -- two places of one root
  have key:∀(O:HD)(i j:Nat),i<j->O[i]?=some (some a)->O[j]?=some (some a)->(roots O).Nodup->False:=by
   intro O;induction O with
   |nil=>intro i j _ h;simp at h
   |cons o O ih=>
    intro i j X6 e1 e2 nd;cases j with
    |zero=>omega
    |succ j=>
     have Jb:O[j]?=some (some a):=by simpa using e2
     cases i with
     |zero=>
      have:o=some a:=by simpa using e1
      subst this;simp only[roots,nv,id] at nd;exact (kB.mp nd).1 (aK.mpr (gW Jb))
     |succ i=>
      refine ih i j (by omega) (by simpa using e1) Jb ?_;cases o with
      |none=>simpa[roots] using nd
      |some b=>simp only[roots,nv,id] at nd;exact (kB.mp nd).2
  rcases Nat.lt_or_gt_of_ne ne with l|l
  exact key O j i l q h1 I.nd;exact key O i j l h1 q I.nd
 have nav:a∉av Z (O.set i none):=λz=>by
  rcases cU.mp z with z|z
  exact na z;exact (I.own a ha).2.1 z
 refine⟨by simp[I.lσ],by simp[I.lO],λj e h=>?_,gg _ _ I.nd,λa h=>I.own a (bZ i a h),λp q=>?_,I.ox,I.keep,λp q=>fw (I.pH p q)⟩;rcases get_set h with⟨rfl,rfl,hl⟩|⟨ne,h⟩
 exact⟨none,some (.ref a),by rw[AY (by rw[I.lO];exact hl)],h2,rfl,.ref a,rfl,(hr.aY (b9 j)).at nav⟩;obtain⟨o,s,h1,h2,h3⟩:=I.sl j e h;exact⟨o,s,by rw[rC (Ne.symm ne)];exact h1,h2,h3.map (λ_ _ q=>fw q) λ_ _ _ q=>q.aY (b9 i)⟩;rw[rC (Ne.symm (hp p q))];exact I.par p q
theorem ax.wrote(I:ax K Z tm O ρ σ H){t t':T}{u:HO}(hi:ρ[i]?=some (some (t,true)))(hO:O[i]?=some (some a))(hr:cD K (upd H a u) (av Z O) a t'):ax K Z tm O (ρ.set i (some (t',true))) σ (upd H a u):=by
 have ha:a∈roots O:=aK.mpr (gW hO);have JV:a∈av Z O:=cy _ ha;obtain⟨hP,hx,u0,e0,m0⟩:=I.own a ha;have inj:∀j b,j≠i->O[j]?=some (some b)->b≠a:=by
  intro j b ne hj e;subst e;have key:∀(O:HD)(i j:Nat),i<j->O[i]?=some (some b)->O[j]?=some (some b)->(roots O).Nodup->False:=by
   intro O;induction O with
   |nil=>intro i j _ h;simp at h
   |cons o O ih=>
    intro i j X6 e1 e2 nd;cases j with
    |zero=>omega
    |succ j=>
     have Jb:O[j]?=some (some b):=by simpa using e2
     cases i with
     |zero=>
      have:o=some b:=by simpa using e1
      subst this;simp only[roots,nv,id] at nd;exact (kB.mp nd).1 (aK.mpr (gW Jb))
     |succ i=>
      refine ih i j (by omega) (by simpa using e1) Jb ?_;cases o with
      |none=>simpa[roots] using nd
      |some c=>simp only[roots,nv,id] at nd;exact (kB.mp nd).2
  rcases Nat.lt_or_gt_of_ne ne with l|l
  exact key O j i l hj hO I.nd;exact key O i j l hO hj I.nd
 refine⟨by simp[I.lσ],by simp[I.lO],λj e h=>?_,I.nd,λb h=>?_,I.par,λb h=>?_,λb o e n=>?_,λp q=>(I.pH p q).wrote JV e0 m0⟩;rcases get_set h with⟨rfl,rfl,hl⟩|⟨ne,h⟩
 obtain⟨o,s,h1,h2,a',h4,h5,h6⟩:=I.sl j _ hi;rw[hO] at h1;cases h1;cases h4;exact⟨_,s,hO,h2,a,rfl,h5,hr⟩;obtain⟨o,s,h1,h2,h3⟩:=I.sl j e h;refine⟨o,s,h1,h2,h3.map (λ_ _ q=>q.wrote JV e0 m0) λb t e q=>?_⟩;subst e;exact q.map (aC (inj j b ne h1)) λ_ _ z=>z.wrote JV e0 m0;obtain⟨h1,h2,v,e,m⟩:=I.own b h;by_cases hb:b=a;subst hb;exact⟨h1,h2,hr.mut⟩;exact⟨h1,h2,v,by rw[aC hb];exact e,m⟩;by_cases hb:b=a;subst hb;exact absurd h hx;rw[aC hb];exact I.ox b h;by_cases hb:b=a;subst hb;obtain q|q:=hP
 exact absurd q n;rw[q] at e;cases e;rw[aC hb];exact I.keep b o e n
theorem ax.fresh(I:ax K Z tm O ρ σ H)(h:H a=none):a∉av Z O/\a∉Z.Ox/\Z.H0 a=none:=by
 refine⟨λz=>I.yP a z h,λz=>I.ox a z h,?_⟩;cases e:Z.H0 a with
 |none=>rfl
 |some o=>by_cases hp:a∈Z.P.map (·.2);obtain⟨p,SM,rfl⟩:=yW.mp hp;obtain⟨_,_,u,e',_⟩:=I.own p.2 (aK.mpr (gW (I.par p SM)));rw[h] at e';cases e';rw[I.keep a o e hp] at h;cases h
theorem dh:∀b∈av (Z.ex a) O,b∈av Z O\/b=a:=λb h=>by
 rcases cU.mp h with h|h
 exact .inl (cy _ h);rcases c7.mp h with h|h
 exact .inr h;exact .inl (bW _ h)
theorem fm:∀b∈av Z O,b∈av (Z.ex a) O:=λb h=>by
 rcases cU.mp h with h|h
 exact cy _ h;exact bW _ (gD _ h)
theorem ax.new(I:ax K Z tm O ρ σ H){u:HO}(h:H a=none)(hu:jF u=true):ax K (Z.ex a) tm O ρ σ (upd H a u):=by
 have s:aM H (upd H a u):=aH h;have J:=I.same s;obtain⟨n1,n2,n3⟩:=I.fresh h;have mr:∀b∈av (Z.ex a) O,b∈av Z O\/H b=none:=λb hb=>(dh b hb).imp id λe=>by rw[e];exact h
 have fw:∀{t:T}{v:V},At K H (av Z O) t v->At K (upd H a u) (av (Z.ex a) O) t v:=λq=>(q.more mr).same s;refine⟨J.lσ,J.lO,λi e hi=>?_,J.nd,λb hb=>?_,J.par,λb hb=>?_,J.keep,λp hp=>fw (I.pH p hp)⟩;obtain⟨o,w,h1,h2,h3⟩:=I.sl i e hi;refine⟨o,w,h1,h2,h3.map (λ_ _ q=>fw q) λb t eo q=>?_⟩;refine cD.same (q.map rfl λ_ _ z=>z.more mr) s;obtain⟨q1,q2,q3⟩:=J.own b hb;refine⟨q1,λz=>?_,q3⟩;rcases c7.mp z with z|z
 exact n1 (by rw[<- z];exact cy _ hb);exact q2 z;rcases c7.mp hb with z|z
 rw[z,aG];simp;exact J.ox b z
theorem ax.ZO(I:ax K (Z.ex a) tm O ρ σ H):ax K Z tm O ρ σ H :=
 ⟨I.lσ,I.lO,λi e h=>let ⟨o,w,h1,h2,h3⟩:=I.sl i e h;⟨o,w,h1,h2,h3.map (λ_ _ q=>q.aY fm) λ_ _ _ q=>q.aY fm⟩,I.nd,
  λb h=>let ⟨q1,q2,q3⟩:=I.own b h;⟨q1,λz=>q2 (gD _ z),q3⟩,I.par,λb h=>I.ox b (gD _ h),I.keep,λp hp=>(I.pH p hp).aY fm⟩
end
inductive Rt where
 |vw (t:T)
 |fr (t:T)
def Rt.t:Rt->T
 |.vw t=>t
 |.fr t=>t
def iL(K:qaf)(H:Hp)(A:qah)(t:T)(v:V):Prop:=At K H A t v\/∃a,v=.ref a/\cD K H A a t
def fY(K:qaf)(Z:Zc)(tm:List (T×V))(O:HD)(ρ:En)(σ:St)(H:Hp):Rt->V->Prop
 |.vw t,v=>ax K Z tm O ρ σ H/\At K H (av Z O) t v
 |.fr t,v=>∃a,v=.ref a/\ax K (Z.ex a) tm O ρ σ H/\cD K H (av (Z.ex a) O) a t/\Z.H0 a=none/\a∉Z.Ox
abbrev FE:=En->(T->Prop)->Prop
abbrev FP:=En->(Rt->Prop)->Prop
abbrev FX:=En->(En->Rt->Prop)->Prop
abbrev FB:=En->(Bool->Prop)->Prop
abbrev FA:=En->(List T->Prop)->Prop
section
variable{Z:Zc}{tm:List (T×V)}{ρ:En}{A:qah}
theorem iL.same{t:T}(s:aM H H')(h:iL K H A t v):iL K H' A t v:=h.imp (λq=>q.same s) λ⟨a,e,q⟩=>⟨a,e,q.same s⟩
theorem iL.lst{ts:List T}(h:iL K H A (.lst ts) v):∃a vs,v=.ref a/\fW K H a vs/\aB K H A ts vs:=by
 obtain h|⟨a,rfl,vs,e,q⟩:=h
 simp only[At] at h;obtain⟨a,vs,rfl,l,q⟩:=h;exact⟨a,vs,rfl,l.sq,q⟩;exact⟨a,vs,rfl,fW.of e,q⟩
theorem iL.tup{ts:List T}(h:iL K H A (.tup ts) v):∃a vs,v=.ref a/\dU K H a vs/\aB K H A ts vs:=by
 obtain h|⟨a,rfl,q⟩:=h
 simpa only[At] using h;exact q.elim
theorem iL.dk{ts:List T}(h:iL K H A (.dk ks ts) v):∃a vs,v=.ref a/\ks.length=vs.length/\H a=some (.dK (ks.zip vs))/\aB K H A ts vs:=by
 obtain h|⟨a,rfl,vs,l,e,q⟩:=h
 simp only[At] at h;obtain⟨a,vs,rfl,l,d,q⟩:=h;exact⟨a,vs,rfl,l,d.1,q⟩;exact⟨a,vs,rfl,l,e,q⟩
theorem iL.dc{nh:List Key×Key->Int}{ks:List (List Key×Key)}{ts:List T}(h:iL K H A (.dc nh ks ts) v):∃a xs vs,v=.ref a/\H a=some (.ext (zw nh a xs))/\ks=xs.map (·.1)/\(a==sysModules)=false/\(∀x∈xs,JU K H x.1 x.2.1)/\Vals vs (xs.map (·.2.2))/\aB K H A ts vs:=by
 obtain h|⟨a,rfl,q⟩:=h
 simp only[At] at h;obtain⟨a,xs,vs,rfl,d,q⟩:=h;exact⟨a,xs,vs,rfl,d.1,q⟩;exact q.elim
theorem iL.ins{ns:qai}{ts:List T}(h:iL K H A (.ins C ns ts) v):∃a dx vs,v=.ref a/\ns.length=vs.length/\H a=some (.ins C dx (ns.zip vs))/\aB K H A ts vs:=by
 obtain h|⟨a,rfl,dx,vs,l,e,q⟩:=h
 simp only[At] at h;obtain⟨a,dx,vs,rfl,l,d,q⟩:=h;exact⟨a,dx,vs,rfl,l,d.1,q⟩;exact⟨a,dx,vs,rfl,l,e,q⟩
theorem iL.int{i:Int}(h:iL K H A (.int i) v):v=.int i:=h.elim (λq=>by simpa only[At] using q) λ⟨_,_,q⟩=>q.elim
theorem iL.str{i:Str}(h:iL K H A (.str i) v):v=.str i:=h.elim (λq=>by simpa only[At] using q) λ⟨_,_,q⟩=>q.elim
theorem iL.bl{i:Bool}(h:iL K H A (.bl i) v):v=.bl i:=h.elim (λq=>by simpa only[At] using q) λ⟨_,_,q⟩=>q.elim
theorem iL.aO(h:iL K H A .aO v):v=.aO:=h.elim (λq=>by simpa only[At] using q) λ⟨_,_,q⟩=>q.elim
theorem iL.ob(h:iL K H A (.ob a) v):v=.ref a:=h.elim (λq=>by simpa only[At] using q) λ⟨_,_,q⟩=>q.elim
theorem bf{i:Int}:At K H A (.int i) (.int i):=by simp only[At]
theorem cS{i:Str}:At K H A (.str i) (.str i):=by simp only[At]
theorem dB{i:Bool}:At K H A (.bl i) (.bl i):=by simp only[At]
theorem uu:At K H A .aO .aO:=by simp only[At]
theorem cf{ts:List T}(h:dU K H a vs)(q:aB K H A ts vs):At K H A (.tup ts) (.ref a):=by simp only[At];exact⟨a,vs,rfl,h,q⟩
theorem fY.env{r:Rt}(h:fY K Z tm O ρ σ H r v):ax K Z tm O ρ σ H:=by
 cases r with
 |vw t=>exact h.1
 |fr t=>obtain⟨a,_,I,_⟩:=h;exact I.ZO
theorem fY.at{r:Rt}(h:fY K Z tm O ρ σ H r v):At K H (av Z O) r.t v:=by
 cases r with
 |vw t=>exact h.2
 |fr t=>
  obtain⟨a,rfl,I,q,_,hx⟩:=h;refine (q.aY fm).at λz=>?_;rcases cU.mp z with z|z
  exact (I.own a z).2.1 dG;exact hx z
theorem ax.CY(I:ax K Z tm O ρ σ H){ts:List T}(h:H a=none)(q:aB K H (av Z O) ts vs):fY K Z tm O ρ σ (upd H a (.lst vs)) (.fr (.lst ts)) (.ref a):=by obtain⟨n1,n2,n3⟩:=I.fresh h;exact⟨a,rfl,I.new h rfl,⟨vs,aG,(q.more λb hb=>(dh b hb).imp id λe=>by rw[e];exact h).same (aH h)⟩,n3,n2⟩
theorem ax.newD(I:ax K Z tm O ρ σ H){ts:List T}(h:H a=none)(hl:ks.length=vs.length)(q:aB K H (av Z O) ts vs):fY K Z tm O ρ σ (upd H a (.dK (ks.zip vs))) (.fr (.dk ks ts)) (.ref a):=by obtain⟨n1,n2,n3⟩:=I.fresh h;exact⟨a,rfl,I.new h rfl,⟨vs,hl,aG,(q.more λb hb=>(dh b hb).imp id λe=>by rw[e];exact h).same (aH h)⟩,n3,n2⟩
end
structure Bx(p:List (T×V)->Prop):Prop where
 h:∀tm,p tm
section
variable(X:Cx)(Z:Zc)
noncomputable def lR(tm:List (T×V))(f:FE):TE:=λσ H Q=>∃ρ O q,ax X.K Z tm O ρ σ H/\f ρ q/\∀t,q t->∀v H',aM H H'->iL X.K H' (av Z O) t v->Q v H'
noncomputable def lE(tm:List (T×V))(f:FE):TE:=λσ H Q=>∃ρ O q,ax X.K Z tm O ρ σ H/\f ρ q/\∀t,q t->∀v H',aM H H'->At X.K H' (av Z O) t v->Q v H'
def lP(tm:List (T×V))(f:FP):TE:=λσ H Q=>∃ρ O q,ax X.K Z tm O ρ σ H/\f ρ q/\∀r,q r->∀v H',aM H H'->fY X.K Z tm O ρ σ H' r v->Q v H'
def lX(tm:List (T×V))(f:FX):TE:=λσ H Q=>∃ρ O q,ax X.K Z tm O ρ σ H/\f ρ q/\∀ρ' r,q ρ' r->∀O' v H',fY X.K Z tm O' ρ' σ H' r v->Q v H'
def lB(tm:List (T×V))(f:FB):TT:=λσ H Q=>∃ρ O q,ax X.K Z tm O ρ σ H/\f ρ q/\∀b,q b->∀H',aM H H'->Q b H'
noncomputable def lA(tm:List (T×V))(f:FA):TA:=λσ H Q=>∃ρ O q,ax X.K Z tm O ρ σ H/\f ρ q/\∀ts,q ts->∀vs H',aM H H'->aB X.K H' (av Z O) ts vs->Q vs H'
noncomputable def lAR(tm:List (T×V))(f:FA):TA:=λσ H Q=>∃ρ O q,ax X.K Z tm O ρ σ H/\f ρ q/\∀ts,q ts->∀vs H',aM H H'->Paired (λv t=>iL X.K H' (av Z O) t v) vs ts->Q vs H'
def VR(e:Expr)(f:FE):Prop:=Bx λtm=>PE X e (lR X Z tm f)
instance{e:Expr}{f:FE}:CoeFun (VR X Z e f) λ_=>∀tm,PE X e (lR X Z tm f):=⟨λh=>Bx.h h⟩
def VE(e:Expr)(f:FE):Prop:=Bx λtm=>PE X e (lE X Z tm f)
instance{e:Expr}{f:FE}:CoeFun (VE X Z e f) λ_=>∀tm,PE X e (lE X Z tm f):=⟨λh=>Bx.h h⟩
def VP(e:Expr)(f:FP):Prop:=Bx λtm=>PE X e (lP X Z tm f)
instance{e:Expr}{f:FP}:CoeFun (VP X Z e f) λ_=>∀tm,PE X e (lP X Z tm f):=⟨λh=>Bx.h h⟩
def VX(e:Expr)(f:FX):Prop:=Bx λtm=>PE X e (lX X Z tm f)
instance{e:Expr}{f:FX}:CoeFun (VX X Z e f) λ_=>∀tm,PE X e (lX X Z tm f):=⟨λh=>Bx.h h⟩
def VC(e:Expr)(f:FB):Prop:=Bx λtm=>PT X e (lB X Z tm f)
instance{e:Expr}{f:FB}:CoeFun (VC X Z e f) λ_=>∀tm,PT X e (lB X Z tm f):=⟨λh=>Bx.h h⟩
def VW(e:Expr)(f:FB):Prop:=Bx λtm=>PW X e (lB X Z tm f)
instance{e:Expr}{f:FB}:CoeFun (VW X Z e f) λ_=>∀tm,PW X e (lB X Z tm f):=⟨λh=>Bx.h h⟩
def VA(es:qap)(f:FA):Prop:=Bx λtm=>PA X es (lA X Z tm f)
instance{es:qap}{f:FA}:CoeFun (VA X Z es f) λ_=>∀tm,PA X es (lA X Z tm f):=⟨λh=>Bx.h h⟩
def Pp(es:qap)(f:FA):Prop:=Bx λtm=>PA X es (lAR X Z tm f)
instance{es:qap}{f:FA}:CoeFun (Pp X Z es f) λ_=>∀tm,PA X es (lAR X Z tm f):=⟨λh=>Bx.h h⟩
end
theorem PE.weak{t t':TE}(h:PE X e t)(hw:∀σ H Q,t' σ H Q->t σ H Q):PE X e t':=λpins s σ H Q I q=>h pins s σ H Q I (hw _ _ _ q)
theorem PT.weak{t t':TT}(h:PT X e t)(hw:∀σ H Q,t' σ H Q->t σ H Q):PT X e t':=λpins s σ H Q I q=>h pins s σ H Q I (hw _ _ _ q)
theorem PW.weak{t t':TT}(h:PW X e t)(hw:∀σ H Q,t' σ H Q->t σ H Q):PW X e t':=λwh pins s σ H Q I q=>h wh pins s σ H Q I (hw _ _ _ q)
theorem PA.weak{e:qap}{t t':TA}(h:PA X e t)(hw:∀σ H Q,t' σ H Q->t σ H Q):PA X e t':=λpos pins s σ H Q I q=>h pos pins s σ H Q I (hw _ _ _ q)
theorem PS.weak{b:Stmt}{t t':TS}(h:PS X b t)(hw:∀D σ H,t' D σ H->t D σ H):PS X b t':=λpins s σ H D I q=>h pins s σ H D I (hw D σ H q)
theorem gY.iM{b:qaq}{t t':TS}(h:gY X b t)(hw:∀D σ H,t' D σ H->t D σ H):gY X b t':=λpins s σ H D I q=>h pins s σ H D I (hw D σ H q)
section
variable{Z:Zc}{a:Expr}
theorem VE.vr{f:FE}(h:VE X Z e f):VR X Z e f:=.mk λtm=>PE.weak (h tm) λσ H Q ⟨ρ,O,q,I,hf,k⟩=>⟨ρ,O,q,I,hf,λt ht v H' s z=>k t ht v H' s (.inl z)⟩
def fT(f:FP):FE:=λρ Q=>f ρ λr=>Q r.t
def fV(f:FE):FP:=λρ Q=>f ρ λt=>Q (.vw t)
def fX(f:FP):FX:=λρ Q=>f ρ λr=>Q ρ r
theorem VP.ve{f:FP}(h:VP X Z e f):VE X Z e (fT f):=.mk λtm=>PE.weak (h tm) λσ H Q ⟨ρ,O,q,I,hf,k⟩=>⟨ρ,O,λr=>q r.t,I,hf,λr hr v H' s z=>k r.t hr v H' s z.at⟩
theorem VP.vr{f:FP}(h:VP X Z e f):VR X Z e (fT f):=h.ve.vr
theorem VP.vx{f:FP}(h:VP X Z e f):VX X Z e (fX f):=.mk λtm=>PE.weak (h tm) λσ H Q ⟨ρ,O,q,I,hf,k⟩=>⟨ρ,O,λr=>q ρ r,I,hf,λr hr v H' s z=>k ρ r hr O v H' z⟩
theorem VE.vp{f:FE}(h:VE X Z e f):VP X Z e (fV f):=.mk λtm=>PE.weak (h tm) λσ H Q ⟨ρ,O,q,I,hf,k⟩=>⟨ρ,O,λt=>q (.vw t),I,hf,λt hr v H' s z=>k (.vw t) hr v H' s ⟨I.same s,z⟩⟩
def ow(i:Nat):FE:=λρ Q=>match ρ[i]? with
 |some (some (t,false))=>Q t
 |_=>False
def E8(i:Nat):FE:=λρ Q=>match ρ[i]? with
 |some (some (t,_))=>Q t
 |_=>False
theorem aq(i:Nat)(hN:X.N[i]?=some x:=by rfl)(hv:j5 X.env.scope x:=by first|exact Or.inl rfl|exact Or.inr (Or.inl rfl)|exact Or.inr (Or.inr rfl))(hd:gC x:=by decide)(fA:tW x:=by decide):VE X Z (.Name x pos) (ow i):=.mk λtm=>PE.weak (bV hN hv hd fA) λσ H Q ⟨ρ,O,q,I,hf,k⟩=>by
 unfold ow at hf;split at hf
 rename_i t e
 obtain⟨o,s,h1,h2,rfl,v,rfl,h3⟩:=I.sl i _ e;exact⟨v,h2,k t hf v H (aM.refl H) h3⟩;exact hf.elim
theorem ae(i:Nat)(hN:X.N[i]?=some x:=by rfl)(hv:j5 X.env.scope x:=by first|exact Or.inl rfl|exact Or.inr (Or.inl rfl)|exact Or.inr (Or.inr rfl))(hd:gC x:=by decide)(fA:tW x:=by decide):VR X Z (.Name x pos) (E8 i):=.mk λtm=>PE.weak (bV hN hv hd fA) λσ H Q ⟨ρ,O,q,I,hf,k⟩=>by
 unfold E8 at hf;split at hf
 rename_i t b e
 obtain⟨o,s,h1,h2,h3⟩:=I.sl i _ e;cases b with
 |false=>obtain⟨rfl,v,rfl,h3⟩:=h3;exact⟨v,h2,k t hf v H (aM.refl H) (.inl h3)⟩
 |true=>obtain⟨a,rfl,rfl,h3⟩:=h3;exact⟨_,h2,k t hf _ H (aM.refl H) (.inr ⟨a,rfl,h3⟩)⟩
 exact hf.elim
def fC(t:T):FP:=λ_ Q=>Q (.vw t)
theorem E9{t:T}(h:PE X e (tC v))(ht:∀H A,At X.K H A t v):VP X Z e (fC t):=.mk λtm=>PE.weak h λσ H Q ⟨ρ,O,q,I,hf,k⟩=>k _ hf v H (aM.refl H) ⟨I,ht _ _⟩
theorem af{i j pos}:VP X Z (.Constant (.int i) j pos) (fC (.int i)):=E9 Ex λ_ _=>bf
theorem jP{i j pos}:VP X Z (.Constant (.bool i) j pos) (fC (.bl i)):=E9 TJ λ_ _=>dB
theorem aI{i j pos}:VP X Z (.Constant (.str i) j pos) (fC (.str i)):=E9 OE λ_ _=>cS
theorem c_{j pos}:VP X Z (.Constant .none j pos) (fC .aO):=E9 y0 λ_ _=>uu
theorem hU{t:T}(hg:Gl X x)(hm:X.mg x=some u)(r:RelV v u)(ht:∀H A,At X.K H A t v)(hd:gC x:=by decide):VP X Z (.Name x pos) (fC t):=E9 (ub hg hm r hd) ht
def pJ(K:qaf)(r:R2)(p:T->T->(Rt->Prop)->Prop):Prop :=
 ∀(Z:Zc)(tm:List (T×V))(O:HD)(ρ:En)(σ:St)(H:Hp)(x y:T)(v w:V)(q:Rt->Prop)(Q:VK),ax K Z tm O ρ σ H->iL K H (av Z O) x v->iL K H (av Z O) y w->p x y q ->
  (∀t,q t->∀u H',aM H H'->fY K Z tm O ρ σ H' t u->Q u H')->r v w H Q
def f2(fa fb:FE)(p:T->T->(Rt->Prop)->Prop):FP:=λρ Q=>fa ρ λx=>fb ρ λy=>p x y Q
theorem two{r:R2}{fa fb:FE}{p:T->T->(Rt->Prop)->Prop}(ho:pJ X.K r p){tm:List (T×V)}:∀σ H Q,lP X Z tm (f2 fa fb p) σ H Q->T1 r (lR X Z tm fa) (lR X Z tm fb) σ H Q:=λσ H Q ⟨ρ,O,q,I,hf,k⟩ =>
 ⟨ρ,O,λx=>fb ρ λy=>p x y q,I,hf,λx hx v H1 s1 a1=>⟨ρ,O,λy=>p x y q,I.same s1,hx,λy hy w H2 s2 a2=>
  ho Z tm O ρ σ H2 x y v w q Q ((I.same s1).same s2) (a1.same s2) a2 hy λt ht u H' s a=>k t ht u H' ((s1.trans s2).trans s) a⟩⟩
theorem hW{op:Operator}{r:R2}{fa fb:FE}{p:T->T->(Rt->Prop)->Prop}(h:fg X (binaryOp op) r)(ho:pJ X.K r p)(ha:VR X Z a fa)(hb:VR X Z b fb):VP X Z (.BinOp a op b pos) (f2 fa fb p) :=
 .mk λtm=>PE.weak (MM h (ha tm) (hb tm)) (two ho)
theorem zx{op:CmpOp}{r:R2}{fa fb:FE}{p:T->T->(Rt->Prop)->Prop}(h:fg X (compareOp op) r)(ho:pJ X.K r p)(ha:VR X Z a fa)(hb:VR X Z b fb)(hm:behindInMarks op b=false):VP X Z (.Compare a [op] [b] pos) (f2 fa fb p) :=
 .mk λtm=>PE.weak (Jy h (ha tm) (hb tm) hm) (two ho)
def mC(f:FP):FB:=λρ Q=>f ρ λr=>match r with
 |.vw (.bl c)=>Q c
 |_=>False
theorem zy{r:Rt}{Q:Bool->Prop}(h:match r with | .vw (.bl c)=>Q c|_=>False):∃c,r=.vw (.bl c)/\Q c:=by split at h;exact⟨_,rfl,h⟩;exact h.elim
theorem hY{op:CmpOp}{r:R2}{fa fb:FE}{p:T->T->(Rt->Prop)->Prop}(h:fg X (compareOp op) r)(ho:pJ X.K r p)(ha:VR X Z a fa)(hb:VR X Z b fb)(hm:behindInMarks op b=false):VC X Z (.Compare a [op] [b] pos) (mC (f2 fa fb p)) :=
 .mk λtm=>PT.weak (Jz h (ha tm) (hb tm) hm) λσ H Q ⟨ρ,O,q,I,hf,k⟩=>two ho σ H _ ⟨ρ,O,_,I,hf,λt ht u H' s a=>by obtain⟨c,rfl,hc⟩:=zy ht;have e:=a.2;simp only[At] at e;exact⟨c,e,k c hc H' s⟩⟩
theorem eQ{f:FP}(h:VP X Z e f)(he:∀whole,isTrue e X.env whole=(do let v <- whole;standAt e.pos;holding [v] (truthy v)):=by intro _;rfl):VC X Z e (mC f) :=
 .mk λtm=>PT.weak (Ez (h tm) he) λσ H Q ⟨ρ,O,q,I,hf,k⟩=>⟨ρ,O,_,I,hf,λt ht u H' s a=>by obtain⟨c,rfl,hc⟩:=zy ht;have e:=a.2;simp only[At] at e;exact⟨c,e,k c hc H' s⟩⟩
def ZP(f g:FB):FB:=λρ Q=>f ρ λc=>if c=true then g ρ Q else Q false
def fOr(f g:FB):FB:=λρ Q=>f ρ λc=>if c=true then Q true else g ρ Q
def UI(f:FB):FB:=λρ Q=>f ρ λc=>Q (!c)
theorem VW.vc{f:FB}(h:VW X Z e f):VC X Z e f:=.mk λtm=>PW.pt (h tm)
theorem oI{f:FB}(h:VC X Z a f):VW X Z (.BoolOp .And [a] pos) f:=.mk λtm=>pw_and1 (h tm)
theorem uv{f:FB}(h:VC X Z a f):VW X Z (.BoolOp .Or [a] pos) f:=.mk λtm=>pw_or1 (h tm)
theorem uw{rest:qap}{f g:FB}(h:VC X Z a f)(h':VW X Z (.BoolOp .And (b::rest) pos) g):VW X Z (.BoolOp .And (a::b::rest) pos) (ZP f g) :=
 .mk λtm=>PW.weak (pw_and (h tm) (h' tm)) λσ H Q ⟨ρ,O,q,I,hf,k⟩=>⟨ρ,O,_,I,hf,λc hc H1 s1=>by
  cases c with
  |true=>rw[if_pos rfl] at hc ⊢;exact⟨ρ,O,q,I.same s1,hc,λb hb H' s=>k b hb H' (s1.trans s)⟩
  |false=>rw[if_neg eO] at hc ⊢;exact k false hc H1 s1⟩
theorem Bc{rest:qap}{f g:FB}(h:VC X Z a f)(h':VW X Z (.BoolOp .Or (b::rest) pos) g):VW X Z (.BoolOp .Or (a::b::rest) pos) (fOr f g) :=
 .mk λtm=>PW.weak (pw_or (h tm) (h' tm)) λσ H Q ⟨ρ,O,q,I,hf,k⟩=>⟨ρ,O,_,I,hf,λc hc H1 s1=>by
  cases c with
  |true=>rw[if_pos rfl] at hc ⊢;exact k true hc H1 s1
  |false=>rw[if_neg eO] at hc ⊢;exact⟨ρ,O,q,I.same s1,hc,λb hb H' s=>k b hb H' (s1.trans s)⟩⟩
theorem pK{f:FB}(h:VC X Z a f):VC X Z (.UnaryOp .Not a pos) (UI f) :=
 .mk λtm=>PT.weak (EA (h tm)) λσ H Q ⟨ρ,O,q,I,hf,k⟩=>⟨ρ,O,_,I,hf,λc hc H1 s1=>k _ hc H1 s1⟩
def UJ(f g:FP):FP:=λρ Q=>f ρ λr=>match r with
 |.vw (.bl true)=>g ρ Q
 |.vw (.bl false)=>Q (.vw (.bl false))
 |_=>False
def UK(f:FP):FP:=λρ Q=>f ρ λr=>match r with
 |.vw (.bl c)=>Q (.vw (.bl (!c)))
 |_=>False
theorem zz{op}{f:FP}(h:VP X Z a f):VP X Z (.BoolOp op [a] pos) f:=.mk λtm=>OF (h tm)
theorem pL{rest:qap}{f g:FP}(h:VP X Z a f)(h':VP X Z (.BoolOp .And (b::rest) pos) g):VP X Z (.BoolOp .And (a::b::rest) pos) (UJ f g) :=
 .mk λtm=>PE.weak (OG (h tm) (h' tm)) λσ H Q ⟨ρ,O,q,I,hf,k⟩=>⟨ρ,O,_,I,hf,λr hr v H1 s1 z=>by split at hr;have e:=z.2;simp only[At] at e;exact⟨true,e,by rw[if_pos rfl];exact⟨ρ,O,q,I.same s1,hr,λb hb v H' s=>k b hb v H' (s1.trans s)⟩⟩;have e:=z.2;simp only[At] at e;exact⟨false,e,by rw[if_neg eO];exact k _ hr _ H1 s1 ⟨I.same s1,dB⟩⟩;exact hr.elim⟩
theorem Pq{f:FP}(h:VP X Z a f):VP X Z (.UnaryOp .Not a pos) (UK f) :=
 .mk λtm=>PE.weak (OH (h tm)) λσ H Q ⟨ρ,O,q,I,hf,k⟩=>⟨ρ,O,_,I,hf,λr hr v H1 s1 z=>by split at hr;have e:=z.2;simp only[At] at e;exact⟨_,e,k _ hr _ H1 s1 ⟨I.same s1,dB⟩⟩;exact hr.elim⟩
def fIf(c:FB)(f g:FP):FP:=λρ Q=>c ρ λb=>if b=true then f ρ Q else g ρ Q
theorem iB{fc:FB}{f g:FP}(hc:VC X Z c fc)(h:VP X Z a f)(h':VP X Z b g):VP X Z (.IfExp c a b pos) (fIf fc f g) :=
 .mk λtm=>PE.weak (EB (hc tm) (h tm) (h' tm)) λσ H Q ⟨ρ,O,q,I,hf,k⟩=>⟨ρ,O,_,I,hf,λc hc H1 s1=>by
  cases c with
  |true=>rw[if_pos rfl] at hc ⊢;exact⟨ρ,O,q,I.same s1,hc,λb hb v H' s=>k b hb v H' (s1.trans s)⟩
  |false=>rw[if_neg eO] at hc ⊢;exact⟨ρ,O,q,I.same s1,hc,λb hb v H' s=>k b hb v H' (s1.trans s)⟩⟩
def ux:FA:=λ_ Q=>Q []
def gh(f:FE)(g:FA):FA:=λρ Q=>f ρ λt=>g ρ λts=>Q (t::ts)
theorem ak:VA X Z [] ux:=.mk λtm=>PA.weak cC λσ H Q ⟨ρ,O,q,I,hf,k⟩=>k _ hf [] H (aM.refl H) aB.nil
theorem aa{f:FE}{g:FA}(h:VE X Z e f)(h':VA X Z es g)(hs:starEach (e::es) X.env=(false,eval e X.env)::starEach es X.env:=by rfl):VA X Z (e::es) (gh f g) :=
 .mk λtm=>PA.weak (bt (h tm) (h' tm) hs) λσ H Q ⟨ρ,O,q,I,hf,k⟩=>⟨ρ,O,_,I,hf,λt ht v H1 s1 a1=>⟨ρ,O,_,I.same s1,ht,λts fZ vs H2 s2 a2=>k _ fZ _ H2 (s1.trans s2) (aB.cons (a1.same s2) a2)⟩⟩
theorem bw:Pp X Z [] ux:=.mk λtm=>PA.weak cC λσ H Q ⟨ρ,O,q,I,hf,k⟩=>k _ hf [] H (aM.refl H) .nil
theorem a9{f:FE}{g:FA}(h:VR X Z e f)(h':Pp X Z es g)(hs:starEach (e::es) X.env=(false,eval e X.env)::starEach es X.env:=by rfl):Pp X Z (e::es) (gh f g) :=
 .mk λtm=>PA.weak (bt (h tm) (h' tm) hs) λσ H Q ⟨ρ,O,q,I,hf,k⟩=>⟨ρ,O,_,I,hf,λt ht v H1 s1 a1=>⟨ρ,O,_,I.same s1,ht,λts fZ vs H2 s2 a2=>k _ fZ _ H2 (s1.trans s2) (.cons (a1.same s2) a2)⟩⟩
def UL(g:FA):FP:=λρ Q=>g ρ λts=>ts.length<=sizeLine/\Q (.vw (.tup ts))
def ZQ(g:FA):FP:=λρ Q=>g ρ λts=>ts.length<=sizeLine/\Q (.fr (.lst ts))
theorem aJ{g:FA}{x1}(h:VA X Z es g):VP X Z (.Tuple es x1 pos) (UL g) :=
 .mk λtm=>PE.weak (ze (h tm)) λσ H Q ⟨ρ,O,q,I,hf,k⟩=>⟨ρ,O,_,I,hf,λts fZ vs H1 s1 a1=>⟨by rw[a1.length];exact fZ.1,λp hp=>k _ fZ.2 _ _ (s1.trans (aH hp)) ⟨(I.same s1).same (aH hp),cf (dU.of aG) (a1.same (aH hp))⟩⟩⟩
theorem dw{g:FA}(h:VA X Z es g):VP X Z (.List es pos) (ZQ g) :=
 .mk λtm=>PE.weak (zg (h tm)) λσ H Q ⟨ρ,O,q,I,hf,k⟩=>⟨ρ,O,_,I,hf,λts fZ vs H1 s1 a1=>⟨by rw[a1.length];exact fZ.1,λp hp=>k _ fZ.2 _ _ (s1.trans (aH hp)) ((I.same s1).CY hp a1)⟩⟩
end
mutual
noncomputable def eqT:T->T->Bool
 |.aO,.aO=>true
 |.bl a,.bl b=>a==b
 |.bl a,.int b=>(if a then 1 else 0)==b
 |.int a,.bl b=>a==(if b then 1 else 0)
 |.int a,.int b=>a==b
 |.str a,.str b=>a==b
 |.tup a,.tup b=>gH a b
 |.lst a,.lst b=>gH a b
 |_,_=>false
noncomputable def gH:List T->List T->Bool
 |[],[]=>true
 |a::as,b::bs=>eqT a b && gH as bs
 |_,_=>false
end
mutual
def plainT:T->Bool
 |.tup l=>cW l
 |.lst l=>cW l
 |.dk _ _=>false
 |.dc _ _ _=>false
 |.ins _ _ _=>false
 |.pin _ _=>false
 |.ob _=>false
 |.ty _=>false
 |_=>true
def cW:List T->Bool
 |[]=>true
 |t::ts=>plainT t && cW ts
end
mutual
def dep:T->Nat
 |.tup l=>wN l+1
 |.lst l=>wN l+1
 |_=>0
def wN:List T->Nat
 |[]=>0
 |t::ts=>max (dep t) (wN ts)
end
mutual
theorem pM:∀(t:T),plainT t=true->eqT t t=true
 |.aO,_=>by simp[eqT]
 |.bl _,_=>by simp[eqT]
 |.int _,_=>by simp[eqT]
 |.str _,_=>by simp[eqT]
 |.tup l,h=>by simp only[plainT] at h;simp only[eqT];exact mE l h
 |.lst l,h=>by simp only[plainT] at h;simp only[eqT];exact mE l h
 |.dk _ _,h=>by simp only[plainT] at h;cases h
 |.dc _ _ _,h=>by simp only[plainT] at h;cases h
 |.ins _ _ _,h=>by simp only[plainT] at h;cases h
 |.pin _ _,h=>by simp only[plainT] at h;cases h
 |.ob _,h=>by simp only[plainT] at h;cases h
 |.ty _,h=>by simp only[plainT] at h;cases h
theorem mE:∀(t:List T),cW t=true->gH t t=true
 |[],_=>by simp[gH]
 |t::ts,h=>by simp only[cW,mh] at h;simp only[gH,mh];exact⟨pM t h.1,mE ts h.2⟩
end
theorem kU:∀{a b:List T},gH a b=true->a.length=b.length
 |[],[],_=>rfl
 |a::as,b::bs,h=>by simp only[gH,mh] at h;simp[kU h.2]
 |[],_::_,h=>by simp[gH] at h
 |_::_,[],h=>by simp[gH] at h
theorem kW:∀{a b:List T},a.length=b.length->gH a b=(List.range a.length).all λj=>match a[j]?,b[j]? with
  |some x,some y=>eqT x y
  |_,_=>true
 |[],[],_=>by simp[gH]
 |a::as,b::bs,h=>by have ih:=kW (a:=as) (b:=bs) (by simpa using h);simp only[gH];rw[ih,tX,List.range_succ_eq_map,List.all_cons,List.all_map];rfl
 |[],_::_,h=>by simp at h
 |_::_,[],h=>by simp at h
theorem wO:∀{a b:List T},gH a b=((List.range (min a.length b.length)).all (λj=>match a[j]?,b[j]? with
  |some x,some y=>eqT x y
  |_,_=>true) && a.length==b.length)
 |a,b=>by
   by_cases h:a.length=b.length;rw[kW h,h,MH];simp;have e:(a.length==b.length)=false:=by simpa using h
   rw[e,Bool.and_false];cases q:gH a b with
   |false=>rfl
   |true=>exact absurd (kU q) h
section
variable{O O':qah}
theorem wQ(I:Inv X pins σ H s){ys:qak}(h:fW X.K H a xs)(h':dU X.K H a ys):False:=by
 obtain⟨aN,_,p,_⟩:=I.list h;obtain⟨gG,_,p2,_⟩:=I.tuple h';obtain⟨o,n,e,c,_⟩:=p;obtain⟨o2,e2,c2,_⟩:=p2;rw[e] at e2;cases e2;rw[c] at c2;injection c2 with c2
 exact absurd c2 (by decide)
mutual
theorem At.inj(I:Inv X pins σ H s):∀{t u:T}{v:V},plainT t=true->plainT u=true->At X.K H O t v->At X.K H O' u v->t=u
 |.aO,u,v,_,pu,h,h'=>by simp only[At] at h;subst h;cases u<;>simp only[At] at h'<;>first|rfl|(simp only[plainT] at pu;cases pu;done)|(obtain⟨_,_,e,_⟩:=h';cases e)|(cases h';done)
 |.bl b,u,v,_,pu,h,h'=>by simp only[At] at h;subst h;cases u<;>simp only[At] at h'<;>first|(simp only[plainT] at pu;cases pu;done)|(obtain⟨_,_,e,_⟩:=h';cases e;done)|(cases h';rfl)|(cases h';done)
 |.int b,u,v,_,pu,h,h'=>by simp only[At] at h;subst h;cases u<;>simp only[At] at h'<;>first|(simp only[plainT] at pu;cases pu;done)|(obtain⟨_,_,e,_⟩:=h';cases e;done)|(cases h';rfl)|(cases h';done)
 |.str b,u,v,_,pu,h,h'=>by simp only[At] at h;subst h;cases u<;>simp only[At] at h'<;>first|(simp only[plainT] at pu;cases pu;done)|(obtain⟨_,_,e,_⟩:=h';cases e;done)|(cases h';rfl)|(cases h';done)
 |.dk _ _,_,_,p,_,_,_=>by simp only[plainT] at p;cases p
 |.dc _ _ _,_,_,p,_,_,_=>by simp only[plainT] at p;cases p
 |.ins _ _ _,_,_,p,_,_,_=>by simp only[plainT] at p;cases p
 |.pin _ _,_,_,p,_,_,_=>by simp only[plainT] at p;cases p
 |.ob _,_,_,p,_,_,_=>by simp only[plainT] at p;cases p
 |.ty _,_,_,p,_,_,_=>by simp only[plainT] at p;cases p
 |.tup ts,u,v,p,pu,h,h'=>by
  simp only[At] at h;obtain⟨a,vs,rfl,h1,h2⟩:=h;cases u with
  |tup us=>simp only[At] at h';obtain⟨b,ws,e,g1,g2⟩:=h';cases e;cases I.jf h1 g1;simp only[plainT] at p pu;rw[aB.inj I p pu h2 g2]
  |lst us=>simp only[At] at h';obtain⟨b,ws,e,g1,g2⟩:=h';cases e;exact (wQ I g1.sq h1).elim
  |dk _ _=>simp only[plainT] at pu;cases pu
  |dc _ _ _=>simp only[plainT] at pu;cases pu
  |ins _ _ _=>simp only[plainT] at pu;cases pu
  |pin _ _=>simp only[plainT] at pu;cases pu
  |ob _=>simp only[plainT] at pu;cases pu
  |ty _=>simp only[plainT] at pu;cases pu
  |_=>simp only[At] at h';cases h'
 |.lst ts,u,v,p,pu,h,h'=>by
  simp only[At] at h;obtain⟨a,vs,rfl,h1,h2⟩:=h;cases u with
  |lst us=>simp only[At] at h';obtain⟨b,ws,e,g1,g2⟩:=h';cases e;cases I.kK h1.sq g1.sq;simp only[plainT] at p pu;rw[aB.inj I p pu h2 g2]
  |tup us=>simp only[At] at h';obtain⟨b,ws,e,g1,g2⟩:=h';cases e;exact (wQ I h1.sq g1).elim
  |dk _ _=>simp only[plainT] at pu;cases pu
  |dc _ _ _=>simp only[plainT] at pu;cases pu
  |ins _ _ _=>simp only[plainT] at pu;cases pu
  |pin _ _=>simp only[plainT] at pu;cases pu
  |ob _=>simp only[plainT] at pu;cases pu
  |ty _=>simp only[plainT] at pu;cases pu
  |_=>simp only[At] at h';cases h'
theorem aB.inj(I:Inv X pins σ H s):∀{ts us:List T}{vs:qak},cW ts=true->cW us=true->aB X.K H O ts vs->aB X.K H O' us vs->ts=us
 |[],[],_,_,_,_,_=>rfl
 |[],_::_,_,_,_,h,h'=>by simp only[aB] at h h';subst h;obtain⟨_,_,e,_⟩:=h';cases e
 |_::_,[],_,_,_,h,h'=>by simp only[aB] at h h';subst h';obtain⟨_,_,e,_⟩:=h;cases e
 |t::ts,u::us,_,p,pu,h,h'=>by simp only[aB] at h h';simp only[cW,mh] at p pu;obtain⟨v,r,rfl,h1,h2⟩:=h;obtain⟨v',r',e,g1,g2⟩:=h';cases e;rw[At.inj I p.1 pu.1 h1 g1,aB.inj I p.2 pu.2 h2 g2]
end
theorem kX:∀{ts:List T}{j:Nat}{x:T},ts[j]?=some x->dep x<=wN ts
 |[],_,_,h=>by simp at h
 |t::ts,0,x,h=>by simp at h;subst h;simp only[wN];omega
 |t::ts,j+1,x,h=>by have:=kX (ts:=ts) (j:=j) (x:=x) (by simpa using h);simp only[wN];omega
theorem cK:∀{ts:List T}{j:Nat}{x:T},cW ts=true->ts[j]?=some x->plainT x=true
 |[],_,_,_,h=>by simp at h
 |t::ts,0,x,p,h=>by simp at h;subst h;simp only[cW,mh] at p;exact p.1
 |t::ts,j+1,x,p,h=>by simp only[cW,mh] at p;exact cK (ts:=ts) (j:=j) p.2 (by simpa using h)
theorem in1_units(A:Around):A.in1.units=A.units+1:=by first|rfl|simp[Around.in1,Around.units]
theorem kY(I:Inv X pins σ H s){ts us:List T}{ws:qak}{aN gG:qag}(h1:aB X.K H O ts vs)(h2:aB X.K H O' us ws)(r1:Vals vs aN)(r2:Vals ws gG)(key:∀(j:Nat) x y v w u u',ts[j]?=some x->us[j]?=some y->At X.K H O x v->At X.K H O' y w->RelV v u->RelV w u'->SeqAt.EqAt A s u u' (eqT x y)) :
  ∀(j:Nat)(g1:j<aN.toArray.size)(g2:j<gG.toArray.size),SeqAt.EqAt A s aN.toArray[j] gG.toArray[j] (match ts[j]?,us[j]? with
   |some x,some y=>eqT x y
   |_,_=>true):=λj g1 g2=>by
 have l1:=h1.length;have l2:=h2.length;have m1:=r1.length;have m2:=r2.length;simp only[iz] at g1 g2;have e1:ts[j]?=some (ts[j]'(by omega)):=by simp
 have e2:us[j]?=some (us[j]'(by omega)):=by simp
 obtain⟨v,a1,a2⟩:=h1.get e1;obtain⟨w,b1,b2⟩:=h2.get e2;obtain⟨u,c1,c2⟩:=r1.get a1;obtain⟨u',d1,d2⟩:=r2.get b1;have f1:aN.toArray[j]=u:=by rw[rq (by omega)] at c1;simpa using c1
 have f2:gG.toArray[j]=u':=by rw[rq (by omega)] at d1;simpa using d1
 rw[f1,f2,e1,e2];exact key j _ _ v w u u' e1 e2 a2 b2 c2 d2
theorem pN{O:qah}(I:Inv X pins σ H s){u:T}{w:V}{b:Value}(pu:plainT u=true)(hw:At X.K H O u w)(r:RelV w b):(u=.aO/\b=.none)\/(∃c,u=.bl c/\b=.bool c)\/(∃c t,u=.int c/\b=.int c t)\/(∃c t,u=.str c/\b=.str c t)\/(∃l p xs,u=.tup l/\b=.ref p/\s.heap.IsTuple p xs)\/∃l p xs,u=.lst l/\b=.ref p/\s.heap.IsList p xs:=by
 cases u with
 |tup l=>simp only[At] at hw;obtain⟨p,ws,rfl,q,_⟩:=hw;cases r;obtain⟨_,_,p1,_⟩:=I.tuple q;exact .inr (.inr (.inr (.inr (.inl ⟨l,p,_,rfl,rfl,p1⟩))))
 |lst l=>simp only[At] at hw;obtain⟨p,ws,rfl,q,_⟩:=hw;cases r;obtain⟨_,_,p1,_⟩:=I.list q.sq;exact .inr (.inr (.inr (.inr (.inr ⟨l,p,_,rfl,rfl,p1.isList⟩))))
 |aO=>simp only[At] at hw;subst hw;cases r;exact .inl ⟨rfl,rfl⟩
 |bl c=>simp only[At] at hw;subst hw;cases r;exact .inr (.inl ⟨c,rfl,rfl⟩)
 |int c=>simp only[At] at hw;subst hw;obtain⟨t,rfl⟩:=r;exact .inr (.inr (.inl ⟨c,t,rfl,rfl⟩))
 |str c=>simp only[At] at hw;subst hw;obtain⟨t,rfl⟩:=r;exact .inr (.inr (.inr (.inl ⟨c,t,rfl,rfl⟩)))
 |_=>simp only[plainT] at pu;cases pu
theorem Bd(I:Inv X pins σ H s){t u:T}{w:V}{a b:Value}(gp:A.units<cLine)(key:∀(x y:T) (v w:V) (a b:Value),dep x+1<=dep t->plainT x=true->plainT y=true->At X.K H O x v->At X.K H O' y w->RelV v a->RelV w b->SeqAt.EqAt A.in1 s a b (eqT x y))(pt:plainT t=true)(pu:plainT u=true)(ht:At X.K H O t v)(hw:At X.K H O' u w)(rv:RelV v a)(rw':RelV w b):SeqAt.RcAt A s a b (eqT t u):=by
 rcases pN I pt ht rv with⟨rfl,rfl⟩|⟨d,rfl,rfl⟩|⟨d,_,rfl,rfl⟩|⟨d,_,rfl,rfl⟩|⟨l,p,_,rfl,rfl,h⟩|⟨l,p,_,rfl,rfl,h⟩<;>rcases pN I pu hw rw' with⟨rfl,rfl⟩|⟨c,rfl,rfl⟩|⟨c,_,rfl,rfl⟩|⟨c,_,rfl,rfl⟩|⟨l',p',_,rfl,rfl,h'⟩|⟨l',p',_,rfl,rfl,h'⟩<;>simp only[eqT]
 exact .none_none;exact .none_bool _;exact .none_int _ _;exact .none_str _ _;exact .none_tuple h' gp;exact .none_list h' gp;exact .bool_none _;exact .bool_bool _ _;exact .bool_int _ _ _;exact .bool_str _ _ _;exact .bool_tuple _ h' gp;exact .bool_list _ h' gp;exact .int_none _ _;exact .int_bool _ _ _;exact .int_int _ _ _ _;exact .int_str _ _ _ _;exact .int_tuple _ _ h' gp;exact .int_list _ _ h' gp;exact .str_none _ _;exact .str_bool _ _ _;exact .str_int _ _ _ _;exact .str_str _ _ _ _;exact .str_tuple _ _ h' gp;exact .str_list _ _ h' gp;exact .tuple_none h gp;exact .tuple_bool _ h gp;exact .tuple_int _ _ h gp;exact .tuple_str _ _ h gp;simp only[plainT] at pt pu;simp only[At] at ht hw;obtain⟨_,vs,rfl,h1,h2⟩:=ht;obtain⟨_,ws,rfl,g1,g2⟩:=hw;cases rv;cases rw';have e3:=h2.length;have e4:=g2.length;obtain⟨aN,r1,p1,_⟩:=I.tuple h1;obtain⟨gG,r2,p2,_⟩:=I.tuple g1;have e1:=r1.length;have e2:=r2.length;have:=SeqAt.RcAt.tuples (A:=A) p1 p2 gp (kY I h2 g2 r1 r2 λj x y v w u u' e1 e2 a1 a2 b1 b2=>key x y v w u u' (mm (Nat.succ_le_succ (kX e1)) (by simp only[dep];omega)) (cK pt e1) (cK pu e2) a1 a2 b1 b2);simp only[iz] at this;rw[<- e1,<- e2,e3,e4] at this;rw[wO];exact this;exact .tuple_list h h' gp;exact .list_none h gp;exact .list_bool _ h gp;exact .list_int _ _ h gp;exact .list_str _ _ h gp;exact .list_tuple h h' gp;simp only[plainT] at pt pu;simp only[At] at ht hw;obtain⟨_,vs,rfl,h1,h2⟩:=ht;obtain⟨_,ws,rfl,g1,g2⟩:=hw;cases rv;cases rw';have e3:=h2.length;have e4:=g2.length;obtain⟨aN,r1,p1,_⟩:=I.list h1.sq;obtain⟨gG,r2,p2,_⟩:=I.list g1.sq;have e1:=r1.length;have e2:=r2.length;by_cases hl:l.length=l'.length;have:=SeqAt.RcAt.lists (A:=A) p1.isList p2.isList (by simp only[iz];omega) gp (kY I h2 g2 r1 r2 λj x y v w u u' e1 e2 a1 a2 b1 b2=>key x y v w u u' (mm (Nat.succ_le_succ (kX e1)) (by simp only[dep];omega)) (cK pt e1) (cK pu e2) a1 a2 b1 b2);simp only[iz] at this;rw[<- e1,e3] at this;rw[kW hl];exact this;have:gH l l'=false:=by
  cases q:gH l l' with
  |false=>rfl
  |true=>exact absurd (kU q) hl
 rw[this];exact SeqAt.RcAt.lists_lengths p1.isList p2.isList (by simp only[iz];rw[bne_iff_ne];omega) gp
theorem E_{a b:Value}{k:Bool}(h:SeqAt.RcAt A s a b k)(g:a=b->k=true)(f:∀x t,a≠.float x t):SeqAt.EqAt A s a b k:=λprog w E Q hq=>by
 unfold eqBool;refine wpAny_holding (wpAny_ite_split (λe=>?_) λ_=>?_);rw[g (eq_of_beq e)] at hq;exact wpAny_bind (wpAny_rule (wpAny_pure hq));cases a with
 |float x t=>exact absurd rfl (f x t)
 |_=>exact wpAny_bind (h prog w E _ (wpAny_truthy_bool hq))
theorem zA(I:Inv X pins σ H s)(n:Nat):∀(t u:T)(v w:V)(a b:Value)(A:Around),dep t<=n->A.units+n<cLine->plainT t=true->plainT u=true->At X.K H O t v->At X.K H O' u w->RelV v a->RelV w b->SeqAt.EqAt A s a b (eqT t u):=by
 induction n using Nat.strongRecOn with
 |_ n ih=>intro t u v w a b A hd hu pt pu ht hw rv rw';refine E_ (Bd I (by omega) (λx y v w a b h=>?_) pt pu ht hw rv rw') (λe=>?_) λx t e=>?_;exact ih (n-1) (by omega) x y v w a b A.in1 (by omega) (by rw[in1_units];omega);subst e;cases rv.inj rw';cases At.inj I pt pu ht hw;exact pM _ pt;rcases pN I pt ht rv with⟨_,h⟩|⟨_,_,h⟩|⟨_,_,_,h⟩|⟨_,_,_,h⟩|⟨_,_,_,_,h,_⟩|⟨_,_,_,_,h,_⟩<;>cases e.symm.trans h
end
section
variable{O O':qah}
theorem Pr(I:Inv X pins σ H s)(t u:T)(v w:V)(a b:Value)(A:Around)(hd:dep t<=100)(hu:A.units+101<cLine)(pt:plainT t=true)(pu:plainT u=true)(ht:At X.K H O t v)(hw:At X.K H O' u w)(rv:RelV v a)(rw':RelV w b):SeqAt.RcAt A s a b (eqT t u) :=
 Bd I (by omega) (λx y v w a b h=>zA I 100 x y v w a b A.in1 (by omega) (by rw[in1_units];omega)) pt pu ht hw rv rw'
theorem Pt(I:Inv X pins σ H s)(t u:T)(v w:V)(a b:Value)(A:Around)(hd:dep t<=100)(hu:A.units+101<cLine)(pt:plainT t=true)(pu:plainT u=true)(ht:At X.K H O t v)(hw:At X.K H O' u w)(rv:RelV v a)(rw':RelV w b):SeqAt.RcNeAt A s a b (!eqT t u):=by
 have gp:A.units<cLine:=by omega
 have kE:A.in1.units+100<cLine:=by rw[in1_units];omega
 rcases pN I pt ht rv with⟨rfl,rfl⟩|⟨d,rfl,rfl⟩|⟨d,_,rfl,rfl⟩|⟨d,_,rfl,rfl⟩|⟨l,p,_,rfl,rfl,h⟩|⟨l,p,_,rfl,rfl,h⟩<;>rcases pN I pu hw rw' with⟨rfl,rfl⟩|⟨c,rfl,rfl⟩|⟨c,_,rfl,rfl⟩|⟨c,_,rfl,rfl⟩|⟨l',p',_,rfl,rfl,h'⟩|⟨l',p',_,rfl,rfl,h'⟩<;>simp only[eqT]
 exact .none_none;exact .none_bool _;exact .none_int _ _;exact .none_str _ _;exact .none_tuple h' gp;exact .none_list h' gp;exact .bool_none _;exact .bool_bool _ _;exact .bool_int _ _ _;exact .bool_str _ _ _;exact .bool_tuple _ h' gp;exact .bool_list _ h' gp;exact .int_none _ _;exact .int_bool _ _ _;exact .int_int _ _ _ _;exact .int_str _ _ _ _;exact .int_tuple _ _ h' gp;exact .int_list _ _ h' gp;exact .str_none _ _;exact .str_bool _ _ _;exact .str_int _ _ _ _;exact .str_str _ _ _ _;exact .str_tuple _ _ h' gp;exact .str_list _ _ h' gp;exact .tuple_none h gp;exact .tuple_bool _ h gp;exact .tuple_int _ _ h gp;exact .tuple_str _ _ h gp;simp only[plainT] at pt pu;simp only[dep] at hd;simp only[At] at ht hw;obtain⟨_,vs,rfl,h1,h2⟩:=ht;obtain⟨_,ws,rfl,g1,g2⟩:=hw;cases rv;cases rw';have e3:=h2.length;have e4:=g2.length;obtain⟨aN,r1,p1,_⟩:=I.tuple h1;obtain⟨gG,r2,p2,_⟩:=I.tuple g1;have e1:=r1.length;have e2:=r2.length;have:=SeqAt.RcNeAt.tuples (A:=A) p1 p2 gp (kY I h2 g2 r1 r2 λj x y v w u u' e1 e2 a1 a2 b1 b2=>zA I 100 x y v w u u' A.in1 (mm (kX e1) (by omega)) kE (cK pt e1) (cK pu e2) a1 a2 b1 b2);simp only[iz] at this;rw[<- e1,<- e2,e3,e4] at this;rw[wO];exact this;exact .tuple_list h h' gp;exact .list_none h gp;exact .list_bool _ h gp;exact .list_int _ _ h gp;exact .list_str _ _ h gp;exact .list_tuple h h' gp;simp only[plainT] at pt pu;simp only[dep] at hd;simp only[At] at ht hw;obtain⟨_,vs,rfl,h1,h2⟩:=ht;obtain⟨_,ws,rfl,g1,g2⟩:=hw;cases rv;cases rw';have e3:=h2.length;have e4:=g2.length;obtain⟨aN,r1,p1,_⟩:=I.list h1.sq;obtain⟨gG,r2,p2,_⟩:=I.list g1.sq;have e1:=r1.length;have e2:=r2.length;by_cases hl:l.length=l'.length;have:=SeqAt.RcNeAt.lists (A:=A) p1.isList p2.isList (by simp only[iz];omega) gp (kY I h2 g2 r1 r2 λj x y v w u u' e1 e2 a1 a2 b1 b2=>zA I 100 x y v w u u' A.in1 (mm (kX e1) (by omega)) kE (cK pt e1) (cK pu e2) a1 a2 b1 b2);simp only[iz] at this;rw[<- e1,e3] at this;rw[kW hl];exact this;have:gH l l'=false:=by
  cases q:gH l l' with
  |false=>rfl
  |true=>exact absurd (kU q) hl
 rw[this];exact SeqAt.RcNeAt.lists_lengths p1.isList p2.isList (by simp only[iz];rw[bne_iff_ne];omega) gp
theorem iL.bare{A:qah}{t:T}(h:iL K H A t v):At K H [] t v:=by
 obtain h|⟨a,rfl,h⟩:=h
 exact At.aY (O':=[]) (λ_ z=>absurd z gE) h;exact (cD.aY (A':=[]) h (λ_ z=>absurd z gE)).at gE
noncomputable def JW(K:qaf)(neg:Bool):R2:=λx y H Q=>∃t u,At K H [] t x/\At K H [] u y/\plainT t=true/\plainT u=true/\dep t<=100/\Q (.bl (if neg then !eqT t u else eqT t u)) H
theorem Fb(hu:X.A.units+101<cLine):fg X (compareOp .Eq) (JW X.K false):=by intro pins s σ H x y v u Q I rx ry ⟨t,t',h1,h2,p1,p2,d,q⟩;exact Pr I t t' x y v u X.A d hu p1 p2 h1 h2 rx ry X.prog X.w X.xe _ ⟨.bl _,H,I,rfl,q⟩
theorem Fc(hu:X.A.units+101<cLine):fg X (compareOp .NotEq) (JW X.K true):=by intro pins s σ H x y v u Q I rx ry ⟨t,t',h1,h2,p1,p2,d,q⟩;exact Pt I t t' x y v u X.A d hu p1 p2 h1 h2 rx ry X.prog X.w X.xe _ ⟨.bl _,H,I,rfl,q⟩
end
def MY(x y:T)(q:Rt->Prop):Prop:=match x,y with
 |.int i,.int j=>q (.vw (.bl (decide (i=j))))
 |.str i,.str j=>q (.vw (.bl (decide (i=j))))
 |.bl i,.bl j=>q (.vw (.bl (decide (i=j))))
 |x,y=>plainT x=true/\plainT y=true/\dep x<=100/\q (.vw (.bl (eqT x y)))
def UM(x y:T)(q:Rt->Prop):Prop:=match x,y with
 |.int i,.int j=>q (.vw (.bl (!decide (i=j))))
 |.str i,.str j=>q (.vw (.bl (!decide (i=j))))
 |.bl i,.bl j=>q (.vw (.bl (!decide (i=j))))
 |x,y=>plainT x=true/\plainT y=true/\dep x<=100/\q (.vw (.bl (!eqT x y)))
theorem JX{x y:T}{q:Rt->Prop}(h:MY x y q):plainT x=true/\plainT y=true/\dep x<=100/\q (.vw (.bl (eqT x y))):=by
 unfold MY at h;split at h;exact⟨rfl,rfl,jL _,by simp only[eqT,XE];exact h⟩;refine⟨rfl,rfl,jL _,?_⟩;have e:∀i j:Str,(i==j)=decide (i=j):=λi j=>by rw[Bool.eq_iff_iff];simp
 simp only[eqT,e];exact h;exact⟨rfl,rfl,jL _,by simp only[eqT,XE];exact h⟩;exact h
theorem JY{x y:T}{q:Rt->Prop}(h:UM x y q):plainT x=true/\plainT y=true/\dep x<=100/\q (.vw (.bl (!eqT x y))):=by
 unfold UM at h;split at h;exact⟨rfl,rfl,jL _,by simp only[eqT,XE];exact h⟩;refine⟨rfl,rfl,jL _,?_⟩;have e:∀i j:Str,(i==j)=decide (i=j):=λi j=>by rw[Bool.eq_iff_iff];simp
 simp only[eqT,e];exact h;exact⟨rfl,rfl,jL _,by simp only[eqT,XE];exact h⟩;exact h
theorem Fd:pJ K (JW K false) MY:=by intro Z tm O ρ σ H x y v w q Q I h1 h2 h k;obtain⟨p1,p2,d,h⟩:=JX h;exact⟨x,y,h1.bare,h2.bare,p1,p2,d,k _ h _ H (aM.refl H) ⟨I,by rw[if_neg eO];exact dB⟩⟩
theorem Fe:pJ K (JW K true) UM:=by intro Z tm O ρ σ H x y v w q Q I h1 h2 h k;obtain⟨p1,p2,d,h⟩:=JY h;exact⟨x,y,h1.bare,h2.bare,p1,p2,d,k _ h _ H (aM.refl H) ⟨I,by rw[if_pos rfl];exact dB⟩⟩
def pI(C:Int->Int->Prop)(g:Int->Int->Int)(x y:T)(q:Rt->Prop):Prop:=match x,y with
 |.int i,.int j=>C i j/\q (.vw (.int (g i j)))
 |_,_=>False
def UN(g:Int->Int->Bool)(x y:T)(q:Rt->Prop):Prop:=match x,y with
 |.int i,.int j=>q (.vw (.bl (g i j)))
 |_,_=>False
def Pu(x y:T)(q:Rt->Prop):Prop:=match x,y with
 |.int i,.int j=>q (.vw (.int (i-j)))
 |_,_=>False
theorem JZ:pJ K (wB λi j=>.int (i-j)) Pu:=by intro Z tm O ρ σ H x y v w q Q I h1 h2 h k;unfold Pu at h;split at h;exact⟨_,_,h1.int,h2.int,k _ h _ H (aM.refl H) ⟨I,bf⟩⟩;exact h.elim
def Pw(x y:T)(q:Rt->Prop):Prop:=match x,y with
 |.int i,.int j=>EH i j/\q (.vw (.int (i * j)))
 |_,_=>False
theorem J_:pJ K (rI EH λi j=>.int (i * j)) Pw:=by intro Z tm O ρ σ H x y v w q Q I h1 h2 h k;unfold Pw at h;split at h;exact⟨_,_,h1.int,h2.int,h.1,k _ h.2 _ H (aM.refl H) ⟨I,bf⟩⟩;exact h.elim
def Px(x y:T)(q:Rt->Prop):Prop:=match x,y with
 |.int i,.int j=>(0<j/\j<1073741824)/\q (.vw (.int (i / j)))
 |_,_=>False
theorem Ka:pJ K (rI T3 λi j=>.int (i / j)) Px:=by intro Z tm O ρ σ H x y v w q Q I h1 h2 h k;unfold Px at h;split at h;exact⟨_,_,h1.int,h2.int,h.1,k _ h.2 _ H (aM.refl H) ⟨I,bf⟩⟩;exact h.elim
def Py(x y:T)(q:Rt->Prop):Prop:=match x,y with
 |.int i,.int j=>0<j/\q (.vw (.int (i % j)))
 |_,_=>False
theorem Kb:pJ K (rI (λ_ j=>0<j) λi j=>.int (i % j)) Py:=by intro Z tm O ρ σ H x y v w q Q I h1 h2 h k;unfold Py at h;split at h;exact⟨_,_,h1.int,h2.int,h.1,k _ h.2 _ H (aM.refl H) ⟨I,bf⟩⟩;exact h.elim
def Pz(x y:T)(q:Rt->Prop):Prop:=match x,y with
 |.int i,.int j=>(0<=j/\j<=1000000/\i.natAbs<2 ^ 64)/\q (.vw (.int (i ^ j.toNat)))
 |_,_=>False
theorem Kc:pJ K (rI T4 λi j=>.int (i ^ j.toNat)) Pz:=by intro Z tm O ρ σ H x y v w q Q I h1 h2 h k;unfold Pz at h;split at h;exact⟨_,_,h1.int,h2.int,h.1,k _ h.2 _ H (aM.refl H) ⟨I,bf⟩⟩;exact h.elim
def ZR(x y:T)(q:Rt->Prop):Prop:=match x,y with
 |.int i,.int j=>q (.vw (.bl (decide (i<j))))
 |_,_=>False
theorem PB:pJ K (wB λi j=>.bl (decide (i<j))) ZR:=by intro Z tm O ρ σ H x y v w q Q I h1 h2 h k;unfold ZR at h;split at h;exact⟨_,_,h1.int,h2.int,k _ h _ H (aM.refl H) ⟨I,dB⟩⟩;exact h.elim
def ZS(x y:T)(q:Rt->Prop):Prop:=match x,y with
 |.int i,.int j=>q (.vw (.bl (decide (j<i))))
 |_,_=>False
theorem PD:pJ K (wB λi j=>.bl (decide (j<i))) ZS:=by intro Z tm O ρ σ H x y v w q Q I h1 h2 h k;unfold ZS at h;split at h;exact⟨_,_,h1.int,h2.int,k _ h _ H (aM.refl H) ⟨I,dB⟩⟩;exact h.elim
def ZT(x y:T)(q:Rt->Prop):Prop:=match x,y with
 |.int i,.int j=>q (.vw (.bl (decide (j<=i))))
 |_,_=>False
theorem PF:pJ K (wB λi j=>.bl (decide (j<=i))) ZT:=by intro Z tm O ρ σ H x y v w q Q I h1 h2 h k;unfold ZT at h;split at h;exact⟨_,_,h1.int,h2.int,k _ h _ H (aM.refl H) ⟨I,dB⟩⟩;exact h.elim
def MZ(K:qaf):R2:=λx y H Q=>∃l b xs zs,x=.ref l/\y=.ref b/\fW K H l xs/\fW K H b zs/\xs.length+zs.length<=sizeLine/\∀p,H p=none->Q (.ref p) (upd H p (.lst (xs++zs)))
def M6(K:qaf):R2:=λx y H Q=>∃a b xs ys,x=.ref a/\y=.ref b/\dU K H a xs/\dU K H b ys/\xs.length+ys.length<=sizeLine/\(xs=[]->Q (.ref b) H)/\(xs≠[]->ys=[]->Q (.ref a) H)/\(xs≠[]->ys≠[]->∀p,H p=none->Q (.ref p) (upd H p (.tup (xs++ys))))
section
theorem Ke:fg X (binaryOp .Add) (MZ X.K):=by
 intro pins s σ H x y v u Q I rx ry h;obtain⟨l,b,xs,zs,rfl,rfl,hH,hB,hz,q⟩:=h;cases rx;cases ry;obtain⟨aN,r,p1,z1⟩:=I.list hH;obtain⟨gG,r2,p2,z2⟩:=I.list hB;obtain⟨⟨cls,dd,data,sl⟩,n,ho,hc,_,hd⟩:=p1;obtain⟨⟨Ue,SJ,data2,SK⟩,n2,I_,Eg,_,hd2⟩:=p2;simp only at hc hd Eg hd2;subst hc hd Eg hd2;have l1:=r.length;have l2:=r2.length;have e:aN.toArray++gG.toArray=(aN++gG).toArray:=by simp
 refine concat_meets ⟨_,ho,rfl⟩ ⟨_,I_,rfl⟩ noFill_list_add seq_list_add PySem.F.slot_list_add PySem.F.entry_list_add (PySem.F.args_list_add_2 _ _) (list_addW l b aN.toArray gG.toArray n n2 dd SJ sl SK (by simp only[iz];omega)) ⟨ho,I_,?_⟩;rw[e];exact⟨.ref _,_,I.Up (t':=s.toks) (r.append r2) (by rw[eC];omega),rfl,q _ I.fresh⟩
theorem Kg:fg X (binaryOp .Add) (M6 X.K):=by
 intro pins s σ H x y v u Q I rx ry h;obtain⟨a,b,xs,ys,rfl,rfl,ha,hb,hz,q0,q1,q2⟩:=h;cases rx;cases ry;obtain⟨aN,r1,p1,_⟩:=I.tuple ha;obtain⟨gG,r2,p2,_⟩:=I.tuple hb;by_cases hx:xs=[];obtain⟨⟨cls,dd,data,sl⟩,ho,hc,n,hd⟩:=id p1;obtain⟨⟨Ue,SJ,data2,SK⟩,I_,Eg,n2,hd2⟩:=id p2;simp only at hc hd Eg hd2;subst hc hd Eg hd2;exact concat_meets ⟨_,ho,rfl⟩ ⟨_,I_,rfl⟩ noFill_tuple_add seq_tuple_add YQ YL (YK _ _)
  (tuple_addW0 a b aN.toArray gG.toArray n n2 dd SJ sl SK (by simp[r1.jh.mpr hx])) ⟨ho,I_,⟨.ref b,H,I,rfl,q0 hx⟩⟩
 refine HT.JC p1 p2 (λz=>hx (r1.jh.mp z)) (λz=>⟨.ref a,H,I,rfl,q1 hx (r2.jh.mp z)⟩) (λz=>?_) (by rw[<- r1.length,<- r2.length];exact hz);refine⟨.ref s.heap.objs.size,_,I.laid (t':=s.toks) (o:=.tup (xs++ys)) (λb ob q=>eZ _ q) (cO _) ?_,rfl,q2 hx (λw=>z (r2.jh.mpr w)) _ (I.cm.fresh (cO _))⟩;exact⟨by rw[eC];exact hz,_,r1.append r2,IsTup.new _ _⟩
end
def M7(K:qaf):R2:=λx y H Q=>wB (λi j=>.int (i+j)) x y H Q\/(λx y H Q=>∃i j,x=.str i/\y=.str j/\i.length+j.length<=sizeLine/\Q (.str (i++j)) H) x y H Q\/MZ K x y H Q\/M6 K x y H Q
theorem Kh:fg X (binaryOp .Add) (M7 X.K):=fg.or OT (fg.or y8 (fg.or Ke Kg))
def PH(x y:T)(q:Rt->Prop):Prop:=match x,y with
 |.int i,.int j=>q (.vw (.int (i+j)))
 |.str i,.str j=>i.length+j.length<=sizeLine/\q (.vw (.str (i++j)))
 |.lst a,.lst b=>a.length+b.length<=sizeLine/\q (.fr (.lst (a++b)))
 |.tup a,.tup b=>a.length+b.length<=sizeLine/\q (.vw (.tup (a++b)))
 |_,_=>False
theorem Ki:pJ K (M7 K) PH:=by
 intro Z tm O ρ σ H x y v w q Q I h1 h2 h k;unfold PH at h;split at h;exact .inl ⟨_,_,h1.int,h2.int,k _ h _ H (aM.refl H) ⟨I,bf⟩⟩;exact .inr (.inl ⟨_,_,h1.str,h2.str,h.1,k _ h.2 _ H (aM.refl H) ⟨I,cS⟩⟩);obtain⟨a,vs,rfl,s1,a1⟩:=h1.lst;obtain⟨b,ws,rfl,s2,a2⟩:=h2.lst;exact .inr (.inr (.inl ⟨a,b,vs,ws,rfl,rfl,s1,s2,by rw[a1.length,a2.length];exact h.1,λp hp=>k _ h.2 _ _ (aH hp) (I.CY hp (a1.append a2))⟩));obtain⟨a,vs,rfl,s1,a1⟩:=h1.tup;obtain⟨b,ws,rfl,s2,a2⟩:=h2.tup;refine .inr (.inr (.inr ⟨a,b,vs,ws,rfl,rfl,s1,s2,by rw[a1.length,a2.length];exact h.1,λe=>?_,λ_ e=>?_,λ_ _ p hp=>?_⟩));subst e;have e:=a1.length
 rename_i xs ys
 have e':xs=[]:=Om.mp e.symm;subst e';exact k _ h.2 _ H (aM.refl H) ⟨I,cf s2 a2⟩;subst e;have e:=a2.length
 rename_i xs ys _
 have e':ys=[]:=Om.mp e.symm;subst e';exact k _ h.2 _ H (aM.refl H) ⟨I,by rw[AZ];exact cf s1 a1⟩;exact k _ h.2 _ _ (aH hp) ⟨I.same (aH hp),cf (dU.of aG) ((a1.append a2).same (aH hp))⟩;exact h.elim
section
variable{Z:Zc}{a:Expr}{fa fb:FE}
theorem bu(ha:VR X Z a fa)(hb:VR X Z b fb):VP X Z (.BinOp a .Add b pos) (f2 fa fb PH):=hW Kh Ki ha hb
theorem h7(ha:VR X Z a fa)(hb:VR X Z b fb):VP X Z (.BinOp a .Sub b pos) (f2 fa fb Pu):=hW OU JZ ha hb
theorem Ff(ha:VR X Z a fa)(hb:VR X Z b fb):VP X Z (.BinOp a .Mult b pos) (f2 fa fb Pw):=hW OW J_ ha hb
theorem di(ha:VR X Z a fa)(hb:VR X Z b fb):VP X Z (.BinOp a .FloorDiv b pos) (f2 fa fb Px):=hW Jw Ka ha hb
theorem bY(ha:VR X Z a fa)(hb:VR X Z b fb):VP X Z (.BinOp a .Mod b pos) (f2 fa fb Py):=hW OX Kb ha hb
theorem PJ(ha:VR X Z a fa)(hb:VR X Z b fb):VP X Z (.BinOp a .Pow b pos) (f2 fa fb Pz):=hW OY Kc ha hb
def ZU(f:FE):FP:=λρ Q=>f ρ λx=>match x with
 |.int i=>Q (.vw (.int (-i)))
 |_=>False
theorem pO(ha:VR X Z a fa):VP X Z (.UnaryOp .USub a pos) (ZU fa):=.mk λtm=>PE.weak (MN EI (ha tm)) λσ H Q ⟨ρ,O,q,I,hf,k⟩=>⟨ρ,O,_,I,hf,λt ht v H1 s1 a1=>by split at ht;exact⟨_,a1.int,k _ ht _ H1 s1 ⟨I.same s1,bf⟩⟩;exact ht.elim⟩
theorem Fg(hu:X.A.units+101<cLine)(ha:VR X Z a fa)(hb:VR X Z b fb):VP X Z (.Compare a [.Eq] [b] pos) (f2 fa fb MY):=zx (Fb hu) Fd ha hb (g9 _)
theorem UO(hu:X.A.units+101<cLine)(ha:VR X Z a fa)(hb:VR X Z b fb):VP X Z (.Compare a [.NotEq] [b] pos) (f2 fa fb UM):=zx (Fc hu) Fe ha hb (g9 _)
theorem cJ(hu:X.A.units+101<cLine)(ha:VR X Z a fa)(hb:VR X Z b fb):VC X Z (.Compare a [.Eq] [b] pos) (mC (f2 fa fb MY)):=hY (Fb hu) Fd ha hb (g9 _)
theorem nF(hu:X.A.units+101<cLine)(ha:VR X Z a fa)(hb:VR X Z b fb):VC X Z (.Compare a [.NotEq] [b] pos) (mC (f2 fa fb UM)):=hY (Fc hu) Fe ha hb (g9 _)
theorem Fh(ha:VR X Z a fa)(hb:VR X Z b fb):VC X Z (.Compare a [.Lt] [b] pos) (mC (f2 fa fb ZR)):=hY T5 PB ha hb (g9 _)
theorem wR(ha:VR X Z a fa)(hb:VR X Z b fb):VC X Z (.Compare a [.Gt] [b] pos) (mC (f2 fa fb ZS)):=hY T6 PD ha hb (g9 _)
theorem UP(ha:VR X Z a fa)(hb:VR X Z b fb):VC X Z (.Compare a [.GtE] [b] pos) (mC (f2 fa fb ZT)):=hY T7 PF ha hb (g9 _)
def f3(fa fb fc:FE)(p p':T->T->(Rt->Prop)->Prop):FP:=λρ Q=>fa ρ λx=>fb ρ λy=>p x y λr=>match r with
 |.vw (.bl true)=>fc ρ λz=>p' y z Q
 |.vw (.bl false)=>Q (.vw (.bl false))
 |_=>False
end
theorem Fj{A:qah}{ts:List T}{i:Int}{t:T}(h:aB K H A ts vs)(e:jN ts i=some t):∃v,jN vs i=some v/\At K H A t v:=by
 unfold jN at e ⊢;rw[h.length];cases q:v8 ts.length i with
 |none=>rw[q] at e;cases e
 |some j=>rw[q] at e;obtain⟨v,h1,h2⟩:=h.get (i:=j) e;exact⟨v,h1,h2⟩
def X7(x y:T)(q:Rt->Prop):Prop:=match x,y with
 |.lst ts,.int i=>∃t,jN ts i=some t/\q (.vw t)
 |.tup ts,.int i=>∃t,jN ts i=some t/\q (.vw t)
 |.str z,.int i=>z.length<=sizeLine/\∃c,jN z.cps.toList i=some c/\q (.vw (.str ⟨#[c]⟩))
 |_,_=>False
theorem PK:pJ K (rIx K) X7:=by intro Z tm O ρ σ H x y v w q Q I h1 h2 h k;unfold X7 at h;split at h;obtain⟨t,e,h⟩:=h;obtain⟨a,vs,rfl,s1,a1⟩:=h1.lst;obtain⟨u,e',a2⟩:=Fj a1 e;exact .inl ⟨a,vs,_,u,rfl,h2.int,s1,e',k _ h _ H (aM.refl H) ⟨I,a2⟩⟩;obtain⟨t,e,h⟩:=h;obtain⟨a,vs,rfl,s1,a1⟩:=h1.tup;obtain⟨u,e',a2⟩:=Fj a1 e;exact .inr (.inl ⟨a,vs,_,u,rfl,h2.int,s1,e',k _ h _ H (aM.refl H) ⟨I,a2⟩⟩);obtain⟨hz,c,e,h⟩:=h;exact .inr (.inr ⟨_,_,c,h1.str,h2.int,hz,e,k _ h _ H (aM.refl H) ⟨I,cS⟩⟩);exact h.elim
section
variable{Z:Zc}{a:Expr}{fa fb:FE}
theorem aA(ha:VR X Z a fa)(hb:VR X Z b fb)(hs:uh b:=by exact λ_ _=>rfl):VP X Z (.Subscript a b pos) (f2 fa fb X7) :=
 .mk λtm=>PE.weak (MV O9 (ha tm) (hb tm) hs) (two PK)
end
abbrev FO:=En->(Option Int->Prop)->Prop
def lO(X:Cx)(Z:Zc)(tm:List (T×V))(f:FO):TO:=λσ H Q=>∃ρ O q,ax X.K Z tm O ρ σ H/\f ρ q/\∀o,q o->∀H',aM H H'->Q o H'
def VO(X:Cx)(Z:Zc)(e:Option Expr)(f:FO):Prop:=Bx λtm=>PO X e (lO X Z tm f)
instance{X:Cx}{Z:Zc}{e:Option Expr}{f:FO}:CoeFun (VO X Z e f) λ_=>∀tm,PO X e (lO X Z tm f):=⟨λh=>Bx.h h⟩
theorem PO.weak{e:Option Expr}{t t':TO}(h:PO X e t)(hw:∀σ H Q,t' σ H Q->t σ H Q):PO X e t':=λpins s σ H Q I q=>h pins s σ H Q I (hw _ _ _ q)
def fO0:FO:=λ_ Q=>Q none
def fO1(f:FE):FO:=λρ Q=>f ρ λt=>match t with
 |.int i=>Q (some i)
 |_=>False
noncomputable def mF{α:Type}(xs:List α)(lo hi:Option Int):List α:=(xs.drop (HT.dR xs.length 0 lo)).take (HT.dR xs.length xs.length hi-HT.dR xs.length 0 lo)
theorem aB.cut{A:qah}{ts:List T}(h:aB K H A ts vs)(lo hi:Option Int):aB K H A (mF ts lo hi) (rG vs lo hi):=by unfold mF rG;rw[h.length];exact (h.drop _).take _
def ZV(K:qaf):V->Option Int->Option Int->Hp->VK->Prop:=λx lo hi H Q=>Uo K x lo hi H Q\/Ui K x lo hi H Q\/UC x lo hi H Q
theorem ZW:ER X (ZV X.K):=ER.or JI (ER.or O6 Pm)
def pSl(x:T)(lo hi:Option Int)(q:Rt->Prop):Prop:=match x with
 |.lst ts=>q (.fr (.lst (mF ts lo hi)))
 |.tup ts=>¬ (HT.dR ts.length 0 lo=0/\HT.dR ts.length ts.length hi=ts.length)/\q (.vw (.tup (mF ts lo hi)))
 |.str z=>z.length<=sizeLine/\q (.vw (.str (Txt.slice z lo hi)))
 |_=>False
def fSl(fa:FE)(fl fh:FO):FP:=λρ Q=>fa ρ λx=>fl ρ λlo=>fh ρ λhi=>pSl x lo hi Q
section
variable{Z:Zc}{a:Expr}{lo hi:Option Expr}{fa:FE}{fl fh:FO}
theorem oJ:VO X Z none fO0:=.mk λtm=>PO.weak JF λσ H Q ⟨ρ,O,q,I,hf,k⟩=>k _ hf H (aM.refl H)
theorem oK(h:VR X Z e fa):VO X Z (some e) (fO1 fa):=.mk λtm=>PO.weak (JG (h tm)) λσ H Q ⟨ρ,O,q,I,hf,k⟩=>⟨ρ,O,_,I,hf,λt ht v H' s z=>by split at ht;exact⟨_,z.int,k _ ht H' s⟩;exact ht.elim⟩
theorem kZ(he:VR X Z e fa)(hl:VO X Z lo fl)(hh:VO X Z hi fh):VP X Z (.Subscript e (.Slice lo hi none p2) pos) (fSl fa fl fh) :=
 .mk λtm=>PE.weak (ES ZW (he tm) (hl tm) (hh tm)) λσ H Q ⟨ρ,O,q,I,hf,k⟩=>⟨ρ,O,_,I,hf,λx hx v H1 s1 a1=>⟨ρ,O,_,I.same s1,hx,λl hl H2 s2=>⟨ρ,O,_,(I.same s1).same s2,hl,λu hu H3 s3=>by have J:=((I.same s1).same s2).same s3;have a3:=(a1.same s2).same s3;have S:=(s1.trans s2).trans s3;unfold pSl at hu;split at hu;obtain⟨p,vs,rfl,q1,q2⟩:=a3.lst;exact .inl ⟨p,vs,rfl,q1,λr hr=>k _ hu _ _ (S.trans (aH hr)) (J.CY hr (q2.cut _ _))⟩;obtain⟨p,vs,rfl,q1,q2⟩:=a3.tup;refine .inr (.inl ⟨p,vs,rfl,q1,by rw[q2.length];exact hu.1,λr hr=>k _ hu.2 _ _ (S.trans (aH hr)) ⟨J.same (aH hr),cf (dU.of aG) ((q2.cut _ _).same (aH hr))⟩⟩);exact .inr (.inr ⟨_,a3.str,hu.1,k _ hu.2 _ H3 S ⟨J,cS⟩⟩);exact hu.elim⟩⟩⟩
end
def M8(g:FA)(p:List T->(Rt->Prop)->Prop):FP:=λρ Q=>g ρ λts=>p ts Q
def k4(K:qaf)(r:qak->Hp->VK->Prop)(p:List T->(Rt->Prop)->Prop):Prop :=
 ∀(Z:Zc)(tm:List (T×V))(O:HD)(ρ:En)(σ:St)(H:Hp)(ts:List T)(vs:qak)(q:Rt->Prop)(Q:VK),ax K Z tm O ρ σ H->Paired (λv t=>iL K H (av Z O) t v) vs ts->p ts q ->
  (∀t,q t->∀u H',aM H H'->fY K Z tm O ρ σ H' t u->Q u H')->r vs H Q
section
variable{Z:Zc}{a:Expr}{g:FA}{id Ty:String}{r:qak->Hp->VK->Prop}{pp:List T->(Rt->Prop)->Prop}
theorem bK(hc:dN X (.builtin id) r)(ht:k4 X.K r pp)(hg:Gl X x)(hm:X.mg x=none)(hv:bootBuiltins x=some (.builtin id))(ha:Pp X Z (e::es) g)(hn:x≠"__name__":=by decide)(om:gC x:=by decide)(hs:starEach (e::es) X.env=(false,eval e X.env)::starEach es X.env:=by rfl)(iI:(backTo pos (starEach es X.env)).any (·.1)=false:=by rfl):VP X Z (.Call (.Name x p) (e::es) [] pos) (M8 g pp) :=
 .mk λtm=>PE.weak (pj hc hg hm hv (ha tm) hn om hs iI) λσ H Q ⟨ρ,O,q,I,hf,k⟩=>⟨ρ,O,_,I,hf,λts fZ vs H1 s1 a1=>ht Z tm O ρ σ H1 ts vs q _ (I.same s1) a1 fZ λt h u H' s z=>k t h u H' (s1.trans s) z⟩
theorem ji(hc:dN X (.type Ty) r)(ht:k4 X.K r pp)(hg:Gl X x)(hm:X.mg x=none)(hv:bootBuiltins x=some (.type Ty))(ha:Pp X Z (e::es) g)(hn:x≠"__name__":=by decide)(om:gC x:=by decide)(hs:starEach (e::es) X.env=(false,eval e X.env)::starEach es X.env:=by rfl)(iI:(backTo pos (starEach es X.env)).any (·.1)=false:=by rfl):VP X Z (.Call (.Name x p) (e::es) [] pos) (M8 g pp) :=
 .mk λtm=>PE.weak (CM hc hg hm hv (ha tm) hn om hs iI) λσ H Q ⟨ρ,O,q,I,hf,k⟩=>⟨ρ,O,_,I,hf,λts fZ vs H1 s1 a1=>ht Z tm O ρ σ H1 ts vs q _ (I.same s1) a1 fZ λt h u H' s z=>k t h u H' (s1.trans s) z⟩
end
def UQ(ts:List T)(q:Rt->Prop):Prop:=match ts with
 |[.lst l]=>q (.vw (.int l.length))
 |[.tup l]=>q (.vw (.int l.length))
 |[.str z]=>z.length<=sizeLine/\q (.vw (.int z.length))
 |_=>False
def M9(K:qaf):qak->Hp->VK->Prop:=λxs H Q=>(∃p ys,xs=[.ref p]/\(fW K H p ys\/dU K H p ys)/\Q (.int ys.length) H)\/(∃z,xs=[.str z]/\z.length<=sizeLine/\Q (.int z.length) H)
theorem bM:dN X (.builtin "len") (M9 X.K):=dN.or uo uq
theorem cX{F:α->β->Prop}{vs:List α}{t:β}(h:Paired F vs [t]):∃v,vs=[v]/\F v t:=by
 cases h with
 |cons r q=>cases q;exact⟨_,rfl,r⟩
theorem Kj{F:α->β->Prop}{vs:List α}{t u:β}(h:Paired F vs [t,u]):∃v w,vs=[v,w]/\F v t/\F w u:=by
 cases h with
 |cons r q=>cases q with
  |cons r2 q2=>cases q2;exact⟨_,_,rfl,r,r2⟩
theorem bN:k4 K (M9 K) UQ:=by intro Z tm O ρ σ H ts vs q Q I h hp k;unfold UQ at hp;split at hp;obtain⟨v,rfl,a⟩:=cX h;obtain⟨p,ws,rfl,q1,q2⟩:=a.lst;exact .inl ⟨p,ws,rfl,.inl q1,k _ hp _ H (aM.refl H) ⟨I,by rw[q2.length];exact bf⟩⟩;obtain⟨v,rfl,a⟩:=cX h;obtain⟨p,ws,rfl,q1,q2⟩:=a.tup;exact .inl ⟨p,ws,rfl,.inr q1,k _ hp _ H (aM.refl H) ⟨I,by rw[q2.length];exact bf⟩⟩;obtain⟨v,rfl,a⟩:=cX h;exact .inr ⟨_,by rw[a.str],hp.1,k _ hp.2 _ H (aM.refl H) ⟨I,bf⟩⟩;exact hp.elim
def M_(ts:List T)(q:Rt->Prop):Prop:=match ts with
 |[.lst l]=>q (.fr (.lst l))
 |[.tup l]=>q (.fr (.lst l))
 |_=>False
theorem pP:k4 K (λxs H Q=>∃p ys,xs=[.ref p]/\(fW K H p ys\/dU K H p ys)/\∀l,H l=none->Q (.ref l) (upd H l (.lst ys))) M_:=by intro Z tm O ρ σ H ts vs q Q I h hp k;unfold M_ at hp;split at hp;obtain⟨v,rfl,a⟩:=cX h;obtain⟨p,ws,rfl,q1,q2⟩:=a.lst;exact⟨p,ws,rfl,.inl q1,λl hl=>k _ hp _ _ (aH hl) (I.CY hl q2)⟩;obtain⟨v,rfl,a⟩:=cX h;obtain⟨p,ws,rfl,q1,q2⟩:=a.tup;exact⟨p,ws,rfl,.inr q1,λl hl=>k _ hp _ _ (aH hl) (I.CY hl q2)⟩;exact hp.elim
def Fl(ts:List T)(q:Rt->Prop):Prop:=match ts with
 |[.lst l]=>q (.vw (.tup l))
 |[.tup l]=>q (.vw (.tup l))
 |_=>False
theorem wU:k4 K (λxs H Q=>∃p ys,xs=[.ref p]/\((fW K H p ys/\∀l,H l=none->Q (.ref l) (upd H l (.tup ys)))\/(dU K H p ys/\Q (.ref p) H))) Fl:=by intro Z tm O ρ σ H ts vs q Q I h hp k;unfold Fl at hp;split at hp;obtain⟨v,rfl,a⟩:=cX h;obtain⟨p,ws,rfl,q1,q2⟩:=a.lst;exact⟨p,ws,rfl,.inl ⟨q1,λl hl=>k _ hp _ _ (aH hl) ⟨I.same (aH hl),cf (dU.of aG) (q2.same (aH hl))⟩⟩⟩;obtain⟨v,rfl,a⟩:=cX h;obtain⟨p,ws,rfl,q1,q2⟩:=a.tup;exact⟨p,ws,rfl,.inr ⟨q1,k _ hp _ H (aM.refl H) ⟨I,cf q1 q2⟩⟩⟩;exact hp.elim
structure Fm where
 nx:En->Prop
 rt:En->Rt->Prop
 bk:En->Prop:=λ_=>False
 ct:En->Prop:=λ_=>False
structure Fin(K:qaf)(Z:Zc)(tm:List (T×V))(d:Fm)(D:Ends):Prop where
 nx:∀O ρ σ H,ax K Z tm O ρ σ H->d.nx ρ->D.nx σ H
 rt:∀O ρ σ H r v,fY K Z tm O ρ σ H r v->d.rt ρ r->D.rt v H
 bk:∀O ρ σ H,ax K Z tm O ρ σ H->d.bk ρ->D.bk σ H
 ct:∀O ρ σ H,ax K Z tm O ρ σ H->d.ct ρ->D.ct σ H
abbrev FS:=Fm->En->Prop
def lS(X:Cx)(Z:Zc)(tm:List (T×V))(g:FS):TS:=λD σ H=>∃ρ O d,ax X.K Z tm O ρ σ H/\g d ρ/\Fin X.K Z tm d D
def VS(X:Cx)(Z:Zc)(st:Stmt)(g:FS):Prop:=Bx λtm=>PS X st (lS X Z tm g)
instance{X:Cx}{Z:Zc}{st:Stmt}{g:FS}:CoeFun (VS X Z st g) λ_=>∀tm,PS X st (lS X Z tm g):=⟨λh=>Bx.h h⟩
def iF(X:Cx)(Z:Zc)(st:qaq)(g:FS):Prop:=Bx λtm=>gY X st (lS X Z tm g)
instance{X:Cx}{Z:Zc}{st:qaq}{g:FS}:CoeFun (iF X Z st g) λ_=>∀tm,gY X st (lS X Z tm g):=⟨λh=>Bx.h h⟩
def bG(Z:Zc)(i:Nat):Prop:=∀p∈Z.P,p.1≠i
section
variable{Z:Zc}{st:Stmt}{rest:qaq}{g u:FS}
def UR:FS:=λd ρ=>d.nx ρ
def UT(g u:FS):FS:=λd ρ=>g {d with nx:=u d} ρ
theorem aQ:iF X Z [] UR:=.mk λtm=>gY.iM Jr λD σ H ⟨ρ,O,d,I,h,F⟩=>F.nx O ρ σ H I h
theorem ah(h1:VS X Z st g)(h2:iF X Z rest u):iF X Z (st::rest) (UT g u):=.mk λtm=>gY.iM (cA (h1 tm) (h2 tm)) λD σ H ⟨ρ,O,d,I,h,F⟩ =>
 ⟨ρ,O,{d with nx:=u d},I,h,⟨λO' ρ' σ' H' I' h'=>⟨ρ',O',d,I',h',F⟩,F.rt,F.bk,F.ct⟩⟩
theorem aw(h1:VS X Z st g):iF X Z [st] g:=.mk λtm=>jg (h1 tm)
theorem iF.weak(h:iF X Z rest g)(hw:∀d ρ,u d ρ->g d ρ):iF X Z rest u:=.mk λtm=>gY.iM (h tm) λD σ H ⟨ρ,O,d,I,q,F⟩=>⟨ρ,O,d,I,hw d ρ q,F⟩
def UU(f:FX):FS:=λd ρ=>f ρ λρ' _=>d.nx ρ'
theorem bo{f:FX}(h:VX X Z e f)(hs:swapsWith e none pos.line X.env=pure false:=by rfl):VS X Z (.Expr e pos) (UU f):=.mk λtm=>PS.weak (kM (h tm) hs) λD σ H ⟨ρ,O,d,I,q,F⟩ =>
 ⟨ρ,O,_,I,q,λρ' r hr O' v H' z=>F.nx O' ρ' σ H' z.env hr⟩
def UW(f:FX):FS:=λd ρ=>f ρ λρ' r=>d.rt ρ' r
theorem aW{f:FX}(h:VX X Z e f):VS X Z (.Return (some e) pos) (UW f):=.mk λtm=>PS.weak (uc (h tm)) λD σ H ⟨ρ,O,d,I,q,F⟩ =>
 ⟨ρ,O,_,I,q,λρ' r hr O' v H' z=>F.rt O' ρ' σ H' r v z hr⟩
def gIf(c:FB)(g u:FS):FS:=λd ρ=>c ρ λb=>if b=true then g d ρ else u d ρ
theorem bQ{fc:FB}{a b:qaq}(hc:VC X Z c fc)(ha:iF X Z a g)(hb:iF X Z b u):VS X Z (.If c a b pos) (gIf fc g u):=.mk λtm=>PS.weak (EC (hc tm) (ha tm) (hb tm)) λD σ H ⟨ρ,O,d,I,q,F⟩ =>
 ⟨ρ,O,_,I,q,λb hb H' s=>by
  cases b with
  |true=>rw[if_pos rfl] at hb ⊢;exact⟨ρ,O,d,I.same s,hb,F⟩
  |false=>rw[if_neg eO] at hb ⊢;exact⟨ρ,O,d,I.same s,hb,F⟩⟩
def UX(i:Nat)(f:FX):FS:=λd ρ=>f ρ λρ' r=>d.nx (ρ'.set i (some (r.t,false)))
def ZX(i:Nat)(f:FX):FS:=λd ρ=>f ρ λρ' r=>match r with
 |.fr t=>d.nx (ρ'.set i (some (t,true)))
 |_=>False
theorem bq{f:FX}{pos':Pos}(hN:X.N.Nodup)(hi:X.N[i]?=some x)(hx:Loc X.env.scope x)(he:VX X Z e f)(hp:bG Z i)(hs:swapsWith e (some (.Name x pos')) pos.line X.env=pure false:=by rfl)(hf:X.fn x=true\/X.env.scope.names.lookup x=some .local:=by first|exact .inl rfl|exact .inr rfl|assumption):VS X Z (.Assign [.Name x pos'] e pos) (UX i f):=.mk λtm=>PS.weak (ud hN hi hx (he tm) hs hf) λD σ H ⟨ρ,O,d,I,q,F⟩ =>
 ⟨ρ,O,_,I,q,λρ' r hr O' v H' z=>F.nx _ _ _ H' (z.env.put hp z.at) hr⟩
theorem eS{f:FX}{pos':Pos}(hN:X.N.Nodup)(hi:X.N[i]?=some x)(hx:Loc X.env.scope x)(he:VX X Z e f)(hp:bG Z i)(hs:swapsWith e (some (.Name x pos')) pos.line X.env=pure false:=by rfl)(hf:X.fn x=true\/X.env.scope.names.lookup x=some .local:=by first|exact .inl rfl|exact .inr rfl|assumption):VS X Z (.Assign [.Name x pos'] e pos) (ZX i f):=.mk λtm=>PS.weak (ud hN hi hx (he tm) hs hf) λD σ H ⟨ρ,O,d,I,q,F⟩ =>
 ⟨ρ,O,_,I,q,λρ' r hr O' v H' z=>by split at hr;obtain⟨a,rfl,J,hR,h0,X4⟩:=z;exact F.nx _ _ _ H' (J.ZN hp hR h0 X4) hr;exact hr.elim⟩
def adl(i:Nat)(f:FE)(p:T->T->(Rt->Prop)->Prop):FS:=λd ρ=>match ρ[i]? with
 |some (some (x,false))=>f ρ λy=>p x y λr=>d.nx (ρ.set i (some (r.t,false)))
 |_=>False
def UY(is:qao)(g:FS):FS:=λd ρ=>g d (is.foldl (λρ i=>match ρ[i]? with
 |some (some (t,true))=>ρ.set i (some (t,false))
 |_=>ρ) ρ)
theorem pQ{K:qaf}{tm:List (T×V)}:∀(is:qao){O:HD}{ρ:En}{σ:St}{H:Hp},(∀i∈is,bG Z i)->ax K Z tm O ρ σ H->∃O',ax K Z tm O' (is.foldl (λρ i=>match ρ[i]? with
 |some (some (t,true))=>ρ.set i (some (t,false))
 |_=>ρ) ρ) σ H
 |[],O,ρ,σ,H,_,I=>⟨O,I⟩
 |i::is,O,ρ,σ,H,hp,I=>by
  rw[List.foldl_cons];have SM:∀j∈is,bG Z j:=λj hj=>hp j (gD _ hj);split
  rename_i t e
  exact pQ is SM (I.Cq (hp i dG) e);exact pQ is SM I
theorem oM(is:qao)(h:iF X Z rest g)(hp:∀i∈is,bG Z i):iF X Z rest (UY is g):=.mk λtm=>gY.iM (h tm) λD σ H ⟨ρ,O,d,I,q,F⟩=>let ⟨O',I'⟩:=pQ is hp I;⟨_,O',d,I',q,F⟩
end
section
variable{Z:Zc}{a:Expr}
theorem ax.root{tm:List (T×V)}{ρ:En}(I:ax K Z tm O ρ σ H){k:Nat}{t:T}(e:ρ[k]?=some (some (t,true))):∃a,O[k]?=some (some a)/\σ[k]?=some (some (.ref a))/\cD K H (av Z O) a t:=by obtain⟨o,s,h1,h2,a,rfl,rfl,h3⟩:=I.sl k _ e;exact⟨a,h1,h2,h3⟩
def Be(k:Nat)(g:FA)(p:List T->List T->(List T->T->Prop)->Prop):FX:=λρ Q=>match ρ[k]? with
 |some (some (.lst ts,true))=>g ρ λvs=>p ts vs λj9 r=>Q (ρ.set k (some (.lst j9,true))) (.vw r)
 |_=>False
def UZ(K:qaf)(r:V->qak->Hp->VK->Prop)(p:List T->List T->(List T->T->Prop)->Prop):Prop :=
 ∀(H:Hp)(A:qah)(l:Addr)(xs:qak)(ts us:List T)(vs:qak)(q:List T->T->Prop)(Q:VK),l∈A->H l=some (.lst xs)->aB K H A ts xs->aB K H A us vs->p ts us q ->
  (∀j9 t,q j9 t->∀Ei v,aB K H A j9 Ei->At K H A t v->Q v (upd H l (.lst Ei)))->r (.ref l) vs H Q
theorem Bf{r:V->qak->Hp->VK->Prop}{p:List T->List T->(List T->T->Prop)->Prop}(hm:UZ X.K r p){k:Nat}{g:FA}{tm:List (T×V)}{Q:VK}(h:lX X Z tm (Be k g p) σ H Q) :
  ∃l,σ[k]?=some (some (.ref l))/\(∃xs,fW X.K H l xs)/\lA X Z tm g σ H λvs H1=>r (.ref l) vs H1 Q:=by
 obtain⟨ρ,O,q,I,hf,kk⟩:=h;unfold Be at hf;split at hf
 rename_i ts e0
 obtain⟨l,h1,h2,xs,h3,h4⟩:=I.root e0;refine⟨l,h2,⟨xs,fW.of h3⟩,ρ,O,_,I,hf,λus Pd vs H1 s1 a1=>?_⟩;have J:=I.same s1;have ha:l∈av Z O:=cy _ (aK.mpr (gW h1));refine hm H1 (av Z O) l xs ts us vs _ Q ha (s1 _ _ h3) (h4.same s1) a1 Pd λj9 t ht Ei v b1 b2=>?_;exact kk _ _ ht O _ _ ⟨J.wrote e0 h1 ⟨Ei,aG,b1.wrote ha (s1 _ _ h3) rfl⟩,b2.wrote ha (s1 _ _ h3) rfl⟩;exact hf.elim
theorem dZ(k:Nat){name:Str}{id:String}{g:FA}{r:V->qak->Hp->VK->Prop}{pp:List T->List T->(List T->T->Prop)->Prop}(slot:Slot "list" name id)(Pb:typeOf (.builtin id)=pure (.type "method_descriptor"))(hm:MT X id r)(ht:UZ X.K r pp)(ha:VA X Z (e::es) g)(hN:X.N[k]?=some x:=by rfl)(hv:j5 X.env.scope x:=by first|exact Or.inl rfl|exact Or.inr (Or.inl rfl)|exact Or.inr (Or.inr rfl))(hd:gC x:=by decide)(fA:tW x:=by decide)(c8:attributeBase (.Name x p) name X.env (eval (.Name x p) X.env)=eval (.Name x p) X.env:=by rfl)(j7:((backTo aV (starEach (e::es) X.env)).all (λx=>!x.1) && (backToKw aV (keywordEach [] X.env)).all (λx=>x.1.isSome)
    && decide ((e::es).length+([]:List Keyword).length+(if ([]:List Keyword).isEmpty then 0 else 1)<30))=true:=by rfl)(c9:(apos.endLine==aV.line)=true:=by rfl)(hs:starEach (e::es) X.env=(false,eval e X.env)::starEach es X.env:=by rfl)(dH:(backTo aV (starEach es X.env)).any (·.1)=false:=by rfl) :
  VX X Z (.Call (.Attribute (.Name x p) name apos) (e::es) [] aV) (Be k g pp):=.mk λtm=>
 PE.weak (pA SA slot Pb hm (bV hN hv hd fA) (ha tm) c8 j7 c9 hs dH) λσ H Q h=>
  let ⟨l,h1,h2,h3⟩:=Bf ht h;⟨.ref l,h1,.inl ⟨rfl,h2⟩,h3⟩
theorem PL(k:Nat){name:Str}{id:String}{r:V->qak->Hp->VK->Prop}{pp:List T->List T->(List T->T->Prop)->Prop}(slot:Slot "list" name id)(Pb:typeOf (.builtin id)=pure (.type "method_descriptor"))(hm:MT X id r)(ht:UZ X.K r pp)(hN:X.N[k]?=some x:=by rfl)(hv:j5 X.env.scope x:=by first|exact Or.inl rfl|exact Or.inr (Or.inl rfl)|exact Or.inr (Or.inr rfl))(hd:gC x:=by decide)(fA:tW x:=by decide)(c8:attributeBase (.Name x p) name X.env (eval (.Name x p) X.env)=eval (.Name x p) X.env:=by rfl)(c9:(apos.endLine==aV.line)=true:=by rfl):VX X Z (.Call (.Attribute (.Name x p) name apos) [] [] aV) (Be k ux pp):=.mk λtm=>
 PE.weak (zo SA slot Pb hm (bV hN hv hd fA) c8 c9) λσ H Q h=>by obtain⟨l,h1,h2,ρ,O,q,I,hf,kk⟩:=Bf ht h;exact⟨.ref l,h1,.inl ⟨rfl,h2⟩,kk [] hf [] H (aM.refl H) aB.nil⟩
def Bg(ts us:List T)(q:List T->T->Prop):Prop:=match us with
 |[t]=>ts.length<sizeLine/\q (ts++[t]) .aO
 |_=>False
theorem bj:UZ K A9 Bg:=by intro H A l xs ts us vs q Q hl hH h1 h2 hp k;unfold Bg at hp;split at hp;obtain⟨v,rfl,a⟩:=cX (aB.iff.mp h2);exact⟨l,xs,v,rfl,rfl,hH,by rw[h1.length];exact hp.1,k _ _ hp.2 _ _ (h1.append (aB.cons a aB.nil)) uu⟩;exact hp.elim
def ZY(ts us:List T)(q:List T->T->Prop):Prop:=us=[]/\∃t,ts[ts.length-1]?=some t/\q ts.dropLast t
theorem aB.dropLast{A:qah}{ts:List T}(h:aB K H A ts vs):aB K H A ts.dropLast vs.dropLast:=by rw[List.dropLast_eq_take,List.dropLast_eq_take,h.length];exact h.take _
theorem Kk:UZ K Uq ZY:=by
 intro H A l xs ts us vs q Q hl hH h1 h2 hp k;obtain⟨rfl,t,e1,hq⟩:=hp;have e:vs=[]:=by simpa only[aB] using h2
 obtain⟨v,e2,a⟩:=h1.get e1;exact⟨l,xs,v,rfl,e,hH,by rw[h1.length];exact e2,k _ _ hq _ _ h1.dropLast a⟩
def adm(k:Nat)(f fi:FE):FS:=λd ρ=>f ρ λv=>fi ρ λi=>match ρ[k]?,i with
 |some (some (.lst ts,true)),.int j=>∃n,v8 ts.length j=some n/\d.nx (ρ.set k (some (.lst (ts.set n v),true)))
 |_,_=>False
noncomputable def Na(k:Nat)(f fi:FE):FS:=λd ρ=>match ρ[k]? with
 |some (some (.lst ts,true))=>f ρ λv=>fi ρ λi=>match i with
  |.int j=>∃n,v8 ts.length j=some n/\d.nx (ρ.set k (some (.lst (ts.set n v),true)))
  |_=>False
 |_=>False
theorem mG(k:Nat){f fi:FE}{i:Expr}(he:VE X Z e f)(hi:VR X Z i fi)(hN:X.N[k]?=some x:=by rfl)(hv:j5 X.env.scope x:=by first|exact Or.inl rfl|exact Or.inr (Or.inl rfl)|exact Or.inr (Or.inr rfl))(hd:gC x:=by decide)(fA:tW x:=by decide)(ha:∀v,assign (.Subscript (.Name x p) i fB) X.env v=(do
    let ov <- holding [v] (eval (.Name x p) X.env)
    let iv <- holding [v,ov] (eval i X.env)
    standAt fB
    holding [v,ov,iv] (setItem ov iv v)
    release [v,ov,iv] []):=by intro _;rfl)(hs:swapsWithSole [.Subscript (.Name x p) i fB] e pos.line X.env=pure false:=by rfl)(hw:swappedStores [.Subscript (.Name x p) i fB] e X.env=pure none:=by rfl)(h1:(assignEach [.Subscript (.Name x p) i fB] X.env).map (·.2)=[assign (.Subscript (.Name x p) i fB) X.env]:=by rfl):VS X Z (.Assign [.Subscript (.Name x p) i fB] e pos) (Na k f fi):=.mk λtm=>
 PS.weak (EF (he tm) (OK (bV hN hv hd fA) (hi tm) set_list ha) hs hw h1) λD σ H ⟨ρ,O,d,I,q,F⟩=>by
  unfold Na at q;split at q
  rename_i ts e0
  obtain⟨l,h1,h2,xs,h3,h4⟩:=I.root e0;have ha:l∈av Z O:=cy _ (aK.mpr (gW h1));refine⟨ρ,O,_,I,q,λt ht v H1 s1 a1=>⟨.ref l,h2,ρ,O,_,I.same s1,ht,λj hj w H2 s2 a2=>?_⟩⟩;split at hj;obtain⟨n,e1,hj⟩:=hj;refine⟨l,xs,_,n,rfl,a2.int,s2 _ _ (s1 _ _ h3),by rw[h4.length];exact e1,?_⟩;refine F.nx O _ σ _ (((I.same s1).same s2).wrote (t':=.lst (ts.set n t)) e0 h1 ⟨xs.set n v,aG,?_⟩) hj;exact aB.wrote ha (s2 _ _ (s1 _ _ h3)) rfl (((h4.same s1).same s2).set n (a1.same s2));exact hj.elim;exact q.elim
theorem ax.give{tm:List (T×V)}{ρ:En}(I:ax K Z tm O ρ σ H){t:T}(hp:bG Z i)(hi:ρ[i]?=some (some (t,true))):∃a,σ[i]?=some (some (.ref a))/\fY K Z tm (O.set i none) (ρ.set i none) σ H (.fr t) (.ref a):=by
 obtain⟨a,h1,h2,h3⟩:=I.root hi;have ha:a∈roots O:=aK.mpr (gW h1);obtain⟨o1,o2,o3⟩:=I.own a ha;have J:=I.forget hp;have J2:=I.Cq hp hi;have na:a∉roots (O.set i none):=λz=>by
  obtain⟨o,s,g1,g2,g3,v,g4,g5⟩:=J2.sl i (some (t,false)) (by rw[AY (by rw[<- I.lO];exact (eB.mp h1).1)]);rw[h2] at g2;cases g2;cases g4;have nn:a∉av Z (O.set i none):=by
   obtain⟨u,eu,mu⟩:=h3.mut;cases t with
   |lst ts=>
    simp only[At] at g5;obtain⟨b,vs,eb,l,_⟩:=g5;cases eb;obtain l|⟨oo,_,_,lk,_⟩:=l
    exact l.2;exact λz2=>by
     have key:∀(O:HD)(i:Nat),O[i]?=some (some a)->(roots O).Nodup->a∉roots (O.set i none):=by
      intro O;induction O with
      |nil=>intro i h;simp at h
      |cons o O ih=>
       intro i h nd;cases i with
       |zero=>
        have:o=some a:=by simpa using h
        subst this;simp only[roots,MA,nv,id] at nd ⊢;exact (kB.mp nd).1
       |succ i=>
        have h':O[i]?=some (some a):=by simpa using h
        cases o with
        |none=>simp only[roots,Ep,nv,id] at nd ⊢;exact ih i h' nd
        |some b=>
         simp only[roots,Ep,nv,id] at nd ⊢;rw[kB] at nd;intro z;rcases c7.mp z with z|z
         exact nd.1 (by rw[<- z];exact aK.mpr (gW h'));exact ih i h' nd.2 z
     rcases cU.mp z2 with z2|z2
     exact key O i h1 I.nd z2;exact o2 z2
   |dk ks ts=>simp only[At] at g5;obtain⟨b,vs,eb,_,d,_⟩:=g5;cases eb;exact d.2
   |ins C ns ts=>simp only[At] at g5;obtain⟨b,dx,vs,eb,_,d,_⟩:=g5;cases eb;exact d.2
   |_=>exact h3.elim
  exact nn (cy _ z)
 have hP:Z.H0 a=none:=by
  obtain z|z:=o1
  obtain⟨p,hpm,rfl⟩:=yW.mp z;have:=J.par p hpm;exact absurd (aK.mpr (gW this)) na;exact z
 have sub:∀b∈av (Z.ex a) (O.set i none),b∈av Z O:=λb hb=>by
  rcases dh b hb with z|z
  exact b9 i b z;rw[z];exact cy _ ha
 refine⟨a,h2,a,rfl,⟨J.lσ,J.lO,λj e h=>?_,J.nd,λb hb=>?_,J.par,λb hb=>?_,J.keep,λp hp=>(I.pH p hp).aY sub⟩,h3.aY sub,hP,o2⟩;rcases get_set h with⟨rfl,rfl,hl⟩|⟨ne,h⟩
 obtain⟨o,s,g1,g2,g3⟩:=J.sl j none (by rw[AY hl]);exact⟨o,s,g1,g2,g3⟩;obtain⟨o,s,g1,g2,g3⟩:=I.sl j e h;exact⟨o,s,by rw[rC (Ne.symm ne)];exact g1,g2,g3.map (λ_ _ q=>q.aY sub) λ_ _ _ q=>q.aY sub⟩;obtain⟨q1,q2,q3⟩:=J.own b hb;refine⟨q1,λz=>?_,q3⟩;rcases c7.mp z with z|z
 exact na (by rw[<- z];exact hb);exact q2 z;rcases c7.mp hb with z|z
 obtain⟨u,eu,_⟩:=o3;rw[z,eu];simp;exact I.ox b z
def Nb(i:Nat):FX:=λρ Q=>match ρ[i]? with
 |some (some (t,true))=>Q (ρ.set i none) (.fr t)
 |some (some (t,false))=>Q ρ (.vw t)
 |_=>False
theorem Bh(i:Nat)(hp:bG Z i)(hN:X.N[i]?=some x:=by rfl)(hv:j5 X.env.scope x:=by first|exact Or.inl rfl|exact Or.inr (Or.inl rfl)|exact Or.inr (Or.inr rfl))(hd:gC x:=by decide)(fA:tW x:=by decide):VX X Z (.Name x pos) (Nb i):=.mk λtm=>PE.weak (bV hN hv hd fA) λσ H Q ⟨ρ,O,q,I,hf,k⟩=>by
 unfold Nb at hf;split at hf
 rename_i t e
 obtain⟨a,h1,h2⟩:=I.give hp e;exact⟨_,h1,k _ _ hf _ _ H h2⟩
 rename_i t e
 obtain⟨o,s,h1,h2,rfl,v,rfl,h3⟩:=I.sl i _ e;exact⟨v,h2,k _ _ hf O v H ⟨I,h3⟩⟩;exact hf.elim
end
theorem ax.wV{Z:Zc}{tm tm':List (T×V)}{ρ:En}(I:ax K Z tm O ρ σ H)(h:∀p∈tm',At K H (av Z O) p.1 p.2):ax K Z tm' O ρ σ H :=
 ⟨I.lσ,I.lO,I.sl,I.nd,I.own,I.par,I.ox,I.keep,h⟩
theorem fY.wV{Z:Zc}{cb tm:List (T×V)}{ρ:En}{r:Rt}(h:fY K Z (cb++tm) O ρ σ H r v):fY K Z tm O ρ σ H r v:=by
 cases r with
 |vw t=>exact⟨h.1.wV λp hp=>h.1.pH p (bW _ hp),h.2⟩
 |fr t=>obtain⟨a,e,I,q⟩:=h;exact⟨a,e,I.wV λp hp=>I.pH p (bW _ hp),q⟩
def Wk(K:qaf)(J:It)(cb:List (T×V))(ts:List T):Prop:=∀H A,(∀a∈A,H a≠none)->(∀p∈cb,At K H A p.1 p.2)->∀i:Nat,
 (i<ts.length->J.go i H)/\(ts.length=i->J.stop i H)/\∀t,ts[i]?=some t->∀x H',J.TV i H x H'->aM H H'/\At K H' A t x
abbrev FI:=En->(List T->Prop)->Prop
noncomputable def lI(X:Cx)(Z:Zc)(tm:List (T×V))(f:FI):TI:=λσ H R=>∃ρ O q,ax X.K Z tm O ρ σ H/\f ρ q/\∀ts,q ts->∀J H' cb,aM H H'->(∀p∈cb,At X.K H' (av Z O) p.1 p.2)->Wk X.K J cb ts->R J H'
def VI(X:Cx)(Z:Zc)(tg iter:Expr)(f:FI):Prop:=Bx λtm=>PI X tg iter (lI X Z tm f)
instance{X:Cx}{Z:Zc}{tg iter:Expr}{f:FI}:CoeFun (VI X Z tg iter f) λ_=>∀tm,PI X tg iter (lI X Z tm f):=⟨λh=>Bx.h h⟩
theorem PI.weak{tg:Expr}{t t':TI}(h:PI X tg e t)(hw:∀σ H R,t' σ H R->t σ H R):PI X tg e t':=λpins s σ H R I q=>h pins s σ H R I (hw _ _ _ q)
theorem PG.weak{tg:Expr}{t t':TG}(h:PG X tg t)(hw:∀v σ H Q,t' v σ H Q->t v σ H Q):PG X tg t':=λpins s σ H v u Q I r q=>h pins s σ H v u Q I r (hw _ _ _ _ q)
theorem Ee.weak{tg:qap}{t t':ED}(h:Ee X tg t)(hw:∀v σ H Q,t' v σ H Q->t v σ H Q):Ee X tg t':=λpins s σ H v u Q I r q=>h pins s σ H v u Q I r (hw _ _ _ _ q)
def ZZ(K:qaf)(tl:TE):TI:=λσ H R=>tl σ H λx H1=>(∃a,x=.ref a/\(∃xs,fW K H1 a xs)/\R (Zg K a) H1)\/(∃a,x=.ref a/\(∃xs,dU K H1 a xs)/\R (Zh K a) H1)\/∃z,x=.str z/\R (X5 z) H1
section
variable{Z:Zc}{tg:Expr}
theorem PM{l:Expr}{tl:TE}(hl:PE X l tl):PI X tg l (ZZ X.K tl):=by
 intro pins s σ H R I h;refine b_ (hl pins s σ H _ I h) λv s1 ⟨x,H1,I1,r1,q1⟩=>?_;obtain⟨a,e,hq,q⟩|⟨a,e,hq,q⟩|⟨z,e,q⟩:=q1
 subst e;cases r1;obtain⟨xs,hq⟩:=hq;obtain⟨aN,rv,p,hz⟩:=I1.list hq;refine wpAny_pyIter_list p.isList ?_;refine⟨s1.heap.objs.size,[s1.heap.objs.size],_,_,H1,rfl,I1.kept (t':=s1.toks) λb o e=>eZ _ e,Cw a _,⟨_,mf _ rfl,rfl,rfl⟩,λb hb=>?_,q⟩;have e:b=s1.heap.objs.size:=by simpa using hb
 subst e;exact I1.oh (cO _) (I1.cm.fresh (cO _));subst e;cases r1;obtain⟨xs,hq⟩:=hq;obtain⟨aN,rv,p,hz⟩:=I1.tuple hq;refine wpAny_pyIter_tuple (show s1.heap.IsTuple a aN.toArray from p) ?_;refine⟨s1.heap.objs.size,[s1.heap.objs.size],_,_,H1,rfl,I1.kept (t':=s1.toks) λb o e=>eZ _ e,y4 a _,⟨_,mf _ rfl,rfl,rfl⟩,λb hb=>?_,q⟩;have e:b=s1.heap.objs.size:=by simpa using hb
 subst e;exact I1.oh (cO _) (I1.cm.fresh (cO _));subst e;obtain⟨t,rfl⟩:=r1;refine wpAny_pyIter_strU ?_;have I2:Inv X pins σ H1 {s1 with heap:=s1.heap.push {cls:=.type (strIterType z),data:=.fields #[.str z t,.int 0 0]} }:=I1.kept (t':=s1.toks) λb o e=>eZ _ e;refine⟨s1.heap.objs.size,[s1.heap.objs.size],_,_,H1,rfl,I2,E7 z t _,⟨_,mf _ rfl,rfl,rfl⟩,λb hb=>?_,q⟩;have e:b=s1.heap.objs.size:=by simpa using hb
 subst e;exact I1.oh (cO _) I1.fresh
def Z0(f:FE):FI:=λρ Q=>f ρ λt=>match t with
 |.lst ts=>Q ts
 |.tup ts=>Q ts
 |.str z=>Q (z.cps.toList.map λc=>.str ⟨#[c]⟩)
 |_=>False
theorem Kl{ts:List T}:Wk K (Zg K a) [(.lst ts,.ref a)] ts:=λH A hA h i=>by have h:=h _ dG;simp only[At] at h;obtain⟨b,vs,e,l,q⟩:=h;cases e;have hl:=q.length;refine⟨λhi=>⟨vs,vs[i]'(by omega),l.sq,by simp⟩,λhi=>⟨vs,l.sq,by omega⟩,λt ht x H' y=>?_⟩;obtain⟨rfl,y⟩:=y;obtain⟨v,e1,e2⟩:=q.get ht;have:=y vs l.sq;rw[e1] at this;cases this;exact⟨aM.refl _,e2⟩
theorem PN{ts:List T}:Wk K (Zh K a) [(.tup ts,.ref a)] ts:=λH A hA h i=>by have h:=h _ dG;simp only[At] at h;obtain⟨b,vs,e,l,q⟩:=h;cases e;have hl:=q.length;refine⟨λhi=>⟨vs,vs[i]'(by omega),l,by simp⟩,λhi=>⟨vs,l,by omega⟩,λt ht x H' y=>?_⟩;obtain⟨rfl,y⟩:=y;obtain⟨v,e1,e2⟩:=q.get ht;have:=y vs l;rw[e1] at this;cases this;exact⟨aM.refl _,e2⟩
theorem PQ{z:Str}:Wk K (X5 z) [] (z.cps.toList.map λc=>T.str ⟨#[c]⟩):=λH A hA h i=>by refine⟨λhi=>by rw[c6,SD] at hi;exact hi,λhi=>by rw[c6,SD] at hi;exact Nat.le_of_eq hi,λt ht x H' y=>?_⟩;obtain⟨rfl,c,hc,rfl⟩:=y;rw[jC,Array.getElem?_toList,hc] at ht;cases ht;exact⟨aM.refl _,cS⟩
theorem pR{l:Expr}{f:FE}(h:VE X Z l f):VI X Z tg l (Z0 f):=.mk λtm=>PI.weak (PM (h tm)) λσ H R ⟨ρ,O,q,I,hf,k⟩=>⟨ρ,O,_,I,hf,λt ht v H' s a=>by split at ht;have a0:=a;simp only[At] at a;obtain⟨p,vs,rfl,l,_⟩:=a;exact .inl ⟨p,rfl,⟨vs,l.sq⟩,k _ ht _ H' _ s (λp hp=>by rw[eX.mp hp];exact a0) Kl⟩;have a0:=a;simp only[At] at a;obtain⟨p,vs,rfl,l,_⟩:=a;exact .inr (.inl ⟨p,rfl,⟨vs,l⟩,k _ ht _ H' _ s (λp hp=>by rw[eX.mp hp];exact a0) PN⟩);have e:=a;simp only[At] at e;exact .inr (.inr ⟨_,e,k _ ht _ H' [] s (λp hp=>nomatch hp) PQ⟩);exact ht.elim⟩
def rangeT(lo:Int)(n:Nat):List T:=(List.range n).map λi=>T.int (lo+((i:Nat):Int))
theorem Fp{lo:Int}:Wk K (XW lo n) [] (rangeT lo n):=λH A hA h i=>by
 unfold rangeT;refine⟨λhi=>by rw[c6,Ts] at hi;exact hi,λhi=>by rw[c6,Ts] at hi;exact Nat.le_of_eq hi,λt ht x H' y=>?_⟩;obtain⟨rfl,rfl⟩:=y;rw[jC] at ht;cases e:(List.range n)[i]? with
 |none=>rw[e] at ht;cases ht
 |some j=>
  rw[e] at ht;have hj:j=i:=by have:=eB.mp e;obtain⟨h1,h2⟩:=this;simpa using h2.symm
  subst hj;cases ht;exact⟨aM.refl _,bf⟩
def pR1(ts:List T)(Q:List T->Prop):Prop:=match ts with
 |[.int j]=>-(2 ^ 62)<=j/\j<2 ^ 62/\Q (rangeT 0 j.toNat)
 |_=>False
def PR(g:FA)(p:List T->(List T->Prop)->Prop):FI:=λρ Q=>g ρ λts=>p ts Q
theorem jj{a:Expr}{g:FE}(hg:Gl X "range")(hm:X.mg "range"=none)(ha:VR X Z a g)(hs:starEach [a] X.env=[(false,eval a X.env)]:=by rfl) :
  VI X Z tg (.Call (.Name "range" p) [a] [] pos) (PR (gh g ux) pR1):=.mk λtm=>PI.weak (Cy hg hm ((a9 ha bw hs) tm) hs) λσ H R ⟨ρ,O,q,I,hf,k⟩=>⟨ρ,O,_,I,hf,λts fZ vs H' s a=>by
 unfold pR1 at fZ;split at fZ;obtain⟨v,rfl,a1⟩:=cX a;exact⟨_,by rw[a1.int],fZ.1,fZ.2.1,k _ fZ.2.2 _ H' [] s (λp hp=>nomatch hp) Fp⟩;exact fZ.elim⟩
abbrev FG:=T->En->(En->Prop)->Prop
abbrev Fq:=List T->En->(En->Prop)->Prop
noncomputable def lG(X:Cx)(Z:Zc)(tm:List (T×V))(is:qao)(h:FG):TG:=λv σ H Q=>∃ρ O t q,ax X.K Z tm O ρ σ H/\At X.K H (av Z O) t v/\h t ρ q/\∀ρ',q ρ'->∀O' σ',ax X.K Z tm O' ρ' σ' H->(∀a∈roots O',a∈roots O)->(∀(j:Nat),j∉is->O'[j]?=O[j]?)->σ'.length=σ.length->(∀(j:Nat),j∉is->σ'[j]?=σ[j]?)->Q σ' H
noncomputable def lGs(X:Cx)(Z:Zc)(tm:List (T×V))(is:qao)(h:Fq):ED:=λvs σ H Q=>∃ρ O ts q,ax X.K Z tm O ρ σ H/\aB X.K H (av Z O) ts vs/\h ts ρ q/\∀ρ',q ρ'->∀O' σ',ax X.K Z tm O' ρ' σ' H->(∀a∈roots O',a∈roots O)->(∀(j:Nat),j∉is->O'[j]?=O[j]?)->σ'.length=σ.length->(∀(j:Nat),j∉is->σ'[j]?=σ[j]?)->Q σ' H
def VG(X:Cx)(Z:Zc)(tg:Expr)(is:qao)(h:FG):Prop:=Bx λtm=>PG X tg (lG X Z tm is h)
instance{X:Cx}{Z:Zc}{tg:Expr}{is:qao}{h:FG}:CoeFun (VG X Z tg is h) λ_=>∀tm,PG X tg (lG X Z tm is h):=⟨λh=>Bx.h h⟩
def SN(X:Cx)(Z:Zc)(X8:qap)(is:qao)(h:Fq):Prop:=Bx λtm=>Ee X X8 (lGs X Z tm is h)
instance{X:Cx}{Z:Zc}{X8:qap}{is:qao}{h:Fq}:CoeFun (SN X Z X8 is h) λ_=>∀tm,Ee X X8 (lGs X Z tm is h):=⟨λh=>Bx.h h⟩
def hName(i:Nat):FG:=λt ρ Q=>Q (ρ.set i (some (t,false)))
theorem bE(hN:X.N.Nodup)(hi:X.N[i]?=some x)(hx:Loc X.env.scope x)(hp:bG Z i)(hf:X.fn x=true\/X.env.scope.names.lookup x=some .local:=by first|exact .inl rfl|exact .inr rfl|assumption) :
  VG X Z (.Name x pos) [i] (hName i):=.mk λtm=>PG.weak (Js hN hi hx hf) λv σ H Q ⟨ρ,O,t,q,I,a,h,k⟩ =>
 k _ h _ _ (I.put hp a) (bZ i) (λj hj=>rC (λe=>hj (by simp[e]))) (by simp) λj hj=>rC (λe=>hj (by simp[e]))
def Z1:Fq:=λts ρ Q=>ts=[]/\Q ρ
def Nc(h:FG)(hs:Fq):Fq:=λts ρ Q=>match ts with
 |t::r=>h t ρ λρ'=>hs r ρ' Q
 |[]=>False
def U0(n:Nat)(h:Fq):FG:=λt ρ Q=>match t with
 |.tup ts=>ts.length=n/\h ts ρ Q
 |_=>False
theorem jk:SN X Z [] [] Z1:=.mk λtm=>Ee.weak Jt λvs σ H Q ⟨ρ,O,ts,q,I,a,h,k⟩=>by
 obtain⟨rfl,h⟩:=h;have e:vs=[]:=by simpa only[aB] using a
 exact⟨e,k _ h O σ I (λ_ z=>z) (λ_ _=>rfl) rfl λ_ _=>rfl⟩
theorem cg{js:qao}{h:FG}{hs:Fq}(h1:VG X Z e is h)(h2:SN X Z es js hs)(hse:(assignEach (e::es) X.env).map (·.2)=assign e X.env::(assignEach es X.env).map (·.2):=by rfl):SN X Z (e::es) (is++js) (Nc h hs):=.mk λtm=>Ee.weak (EE (h1 tm) (h2 tm) hse) λvs σ H Q ⟨ρ,O,ts,q,I,a,hh,k⟩=>by
 unfold Nc at hh;split at hh;simp only[aB] at a;obtain⟨v,r,rfl,a1,a2⟩:=a;refine⟨v,r,rfl,ρ,O,_,_,I,a1,hh,λρ' hρ O' σ' I' ro eo l e=>⟨ρ',O',_,q,I',a2.aY λb hb=>?_,hρ,λρ2 h2 O2 σ2 I2 ro2 eo2 l2 e2=>k ρ2 h2 O2 σ2 I2 (λa z=>ro a (ro2 a z)) (λj hj=>?_) (l2.trans l) λj hj=>?_⟩⟩;rcases cU.mp hb with z|z
 exact cy _ (ro b z);exact bW _ z;rw[cU,not_or] at hj;exact (eo2 j hj.2).trans (eo j hj.1);rw[cU,not_or] at hj;exact (e2 j hj.2).trans (e j hj.1);exact hh.elim
theorem pS{k:Nat}{h:Fq}(hc:X.calm=true)(hh:SN X Z es is h)(hn:(assignEach es X.env).length=n:=by rfl)(Cv:(assignEach es X.env).findIdx? (·.1)=none:=by rfl):VG X Z (.Tuple es k pos) is (U0 n h):=.mk λtm=>PG.weak (OJ hc (hh tm) hn Cv) λv σ H Q ⟨ρ,O,t,q,I,a,h',kk⟩=>by unfold U0 at h';split at h';simp only[At] at a;obtain⟨p,vs,rfl,s,a⟩:=a;exact⟨p,vs,rfl,s,a.length.trans h'.1,ρ,O,_,q,I,a,h'.2,kk⟩;exact h'.elim
def Z2(f:FE)(h:FG):FS:=λd ρ=>f ρ λt=>h t ρ d.nx
theorem Fs{tg:Expr}{f:FE}{h:FG}(he:VE X Z e f)(hg:VG X Z tg is h)(hs:swapsWithSole [tg] e pos.line X.env=pure false:=by rfl)(hw:swappedStores [tg] e X.env=pure none:=by rfl)(h1:(assignEach [tg] X.env).map (·.2)=[assign tg X.env]:=by rfl):VS X Z (.Assign [tg] e pos) (Z2 f h):=.mk λtm=>PS.weak (EF (he tm) (hg tm) hs hw h1) λD σ H ⟨ρ,O,d,I,q,F⟩ =>
 ⟨ρ,O,_,I,q,λt ht v H' s a=>⟨ρ,O,t,_,I.same s,a,ht,λρ' hρ O' σ' I' _ _ _ _=>F.nx O' ρ' σ' H' I' hρ⟩⟩
def pT(ts:List T)(h:FG)(g:FS):FS:=λd ρ=>∃Pv:Nat->En->Prop,Pv 0 ρ/\(∀(i:Nat) t ρ',ts[i]?=some t->Pv i ρ'->h t ρ' λρ2=>g {nx:=Pv (i+1),ct:=Pv (i+1),bk:=d.nx,rt:=d.rt} ρ2)/\∀ρ',Pv ts.length ρ'->d.nx ρ'
def Z3(f:FI)(h:FG)(g:FS):FS:=λd ρ=>f ρ λts=>pT ts h g d ρ
theorem mJ{body:qaq}{f:FI}{h:FG}{g:FS}(hp:PassesOwn (model X.prog X.w) X.A X.env X.xe)(hc:X.calm=true)(hi:VI X Z tg iter f)(hg:VG X Z tg is h)(hb:iF X Z body g)(hs:∀x,foldedSetIterable iter X.env x=pure x:=by intro _;rfl):VS X Z (.For tg iter body [] pos) (Z3 f h g):=by
 refine .mk λtm pins s σ H D I0 hw=>?_;obtain⟨ρ,O,d,I,q,F⟩:=hw;refine OM (wi:=lI X Z tm f) (g:=λv σ H Q=>∃cb,lG X Z (cb++tm) is h v σ H Q) (tb:=λD σ H=>∃cb,lS X Z (cb++tm) g D σ H) hp hc (hi tm) (λpins s σ H v u Q I r ⟨cb,z⟩=>hg (cb++tm) pins s σ H v u Q I r z) (λpins s σ H D I ⟨cb,z⟩=>hb (cb++tm) pins s σ H D I z) hs pins s σ H D I0 ?_;refine⟨ρ,O,_,I,q,λts fZ J H' cb s a wk=>?_⟩;obtain⟨Pv,p0,step,fin⟩:=fZ;have J0:ax X.K Z (cb++tm) O ρ σ H':=(I.same s).wV λp hp=>by
  rcases cU.mp hp with z|z
  exact a p z;exact (I.same s).pH p z
 refine⟨λi m σ H=>m=ts.length-i/\i<=ts.length/\∃ρ O,ax X.K Z (cb++tm) O ρ σ H/\Pv i ρ,⟨ts.length,by simp,jL _,ρ,O,J0,p0⟩,?_⟩;rintro i m σ1 H1 ⟨rfl,hi,ρ1,O1,I1,p1⟩;obtain⟨w1,w2,w3⟩:=wk H1 (av Z O1) I1.yP (λp hp=>I1.pH p (cy _ hp)) i;have un:∀{O:HD}{ρ:En}{σ:St}{H:Hp},ax X.K Z (cb++tm) O ρ σ H->ax X.K Z tm O ρ σ H:=λI=>I.wV λp hp=>I.pH p (bW _ hp);by_cases eV:i<ts.length;refine .inr ⟨w1 eV,λσ' H'=>∃ρ O,ax X.K Z (cb++tm) O ρ σ' H'/\Pv (i+1) ρ,λσ' H' ⟨ρ',O',I',p'⟩=>⟨ts.length-(i+1),by omega,rfl,eV,ρ',O',I',p'⟩,λx H2 y=>?_⟩;have e:ts[i]?=some ts[i]:=by simp[eV]
 obtain⟨s2,a2⟩:=w3 ts[i] e x H2 y;refine⟨cb,ρ1,O1,ts[i],_,I1.same s2,a2,step i _ ρ1 e p1,λρ2 h2 O2 σ2 I2 _ _ _ _=>⟨cb,ρ2,O2,_,I2,h2,?_⟩⟩;exact⟨λO ρ σ H I p=>⟨ρ,O,I,p⟩,λO ρ σ H r v z p=>F.rt O ρ σ H r v z.wV p,λO ρ σ H I p=>F.nx O ρ σ H (un I) p,λO ρ σ H I p=>⟨ρ,O,I,p⟩⟩;have e:i=ts.length:=by omega
 subst e;exact .inl ⟨w2 (rfl),F.nx O1 ρ1 σ1 H1 (un I1) (fin ρ1 p1)⟩
def PU(c:FB)(g:FS):FS:=λd ρ=>∃(Pv:Nat->En->Prop),(∃m,Pv m ρ)/\∀m ρ',Pv m ρ'->c ρ' λb=>if b=true then g {nx:=λρ2=>∃m',m'<m/\Pv m' ρ2,ct:=λρ2=>∃m',m'<m/\Pv m' ρ2,bk:=d.nx,rt:=d.rt} ρ' else d.nx ρ'
theorem iN{body:qaq}{fc:FB}{g:FS}(hp:PassesOwn (model X.prog X.w) X.A X.env X.xe)(hc:VC X Z c fc)(hb:iF X Z body g):VS X Z (.While c body [] pos) (PU fc g):=.mk λtm=>PS.weak (wz hp (hc tm) (hb tm)) λD σ H ⟨ρ,O,d,I,q,F⟩=>by
 obtain⟨Pv,⟨m0,p0⟩,step⟩:=q;refine⟨λm σ H=>∃ρ O,ax X.K Z tm O ρ σ H/\Pv m ρ,⟨m0,ρ,O,I,p0⟩,?_⟩;rintro m σ1 H1 ⟨ρ1,O1,I1,p1⟩;refine⟨ρ1,O1,_,I1,step m ρ1 p1,λb hb H2 s2=>?_⟩;cases b with
 |true=>rw[if_pos rfl] at hb ⊢;refine⟨λσ' H'=>∃m',m'<m/\∃ρ O,ax X.K Z tm O ρ σ' H'/\Pv m' ρ,λσ' H' z=>z,ρ1,O1,_,I1.same s2,hb,?_⟩;exact⟨λO ρ σ H I ⟨m',hm,p⟩=>⟨m',hm,ρ,O,I,p⟩,F.rt,F.nx,λO ρ σ H I ⟨m',hm,p⟩=>⟨m',hm,ρ,O,I,p⟩⟩
 |false=>rw[if_neg eO] at hb ⊢;exact F.nx O1 ρ1 σ1 H2 (I1.same s2) hb
end
theorem eD(O:HD)(n:Nat):roots (O++List.replicate n none)=roots O:=by
 unfold roots;rw[List.filterMap_append];have:(List.replicate n (none:qar)).filterMap id=[]:=by
  induction n with
  |zero=>rfl
  |succ n ih=>rw[Eo,nv];exact ih
 rw[this,AZ]
theorem ax.longer{Z:Zc}{tm:List (T×V)}{ρ:En}(I:ax K Z tm O ρ σ H)(n:Nat){τ:St}(hτ:τ.length=n) :
  ax K Z tm (O++List.replicate n none) (ρ++List.replicate n none) (σ++τ) H:=by
 have ea:av Z (O++List.replicate n none)=av Z O:=by unfold av;rw[eD]
 refine⟨by simp[I.lσ,hτ],by simp[I.lO],λi e h=>?_,by rw[eD];exact I.nd,λa h=>I.own a (by rw[eD] at h;exact h),λp hp=>?_,I.ox,I.keep,λp hp=>by rw[ea];exact I.pH p hp⟩;rw[ea];by_cases hi:i<ρ.length;rw[og hi] at h;obtain⟨o,s,h1,h2,h3⟩:=I.sl i e h;exact⟨o,s,by rw[og (by rw[I.lO];exact hi)];exact h1,by rw[og (by rw[I.lσ];exact hi)];exact h2,h3⟩;rw[sF (by omega),D9] at h;split at h
 rename_i hl
 cases h;refine⟨none,τ[i-σ.length]'(by rw[I.lσ,hτ];exact hl),?_,?_,rfl⟩;rw[sF (by rw[I.lO];omega),D9,if_pos (by rw[I.lO];exact hl)];rw[sF (by rw[I.lσ];omega)];simp;cases h;have:=I.par p hp;have hl:=(eB.mp this).1;rw[og hl];exact this
theorem ax.Ft{Z:Zc}{tm:List (T×V)}{ρ:En}{u o:HO}(I:ax K (Z.ex a) tm O ρ σ H)(hu:H a=some u)(hm:jF u=true)(h0:Z.H0 a=none):ax K (Z.ex a) tm O ρ σ (upd H a o):=by
 have JV:a∈av (Z.ex a) O:=bW _ dG;have nr:∀b∈roots O,b≠a:=λb hb e=>(I.own b hb).2.1 (by rw[e];exact dG);refine⟨I.lσ,I.lO,λi e h=>?_,I.nd,λb hb=>?_,I.par,λb hb=>?_,λb o' e n=>?_,λp hp=>(I.pH p hp).wrote JV hu hm⟩;obtain⟨o',s,h1,h2,h3⟩:=I.sl i e h;refine⟨o',s,h1,h2,h3.map (λ_ _ q=>q.wrote JV hu hm) λb t e q=>?_⟩;subst e;exact q.map (aC (nr b (aK.mpr (gW h1)))) λ_ _ z=>z.wrote JV hu hm;obtain⟨q1,q2,v,e,m⟩:=I.own b hb;exact⟨q1,q2,v,by rw[aC (nr b hb)];exact e,m⟩;by_cases e:b=a;subst e;rw[aG];simp;rw[aC e];exact I.ox b hb;have:b≠a:=λe'=>by subst e';have e2:Z.H0 b=some o':=e;rw[h0] at e2;cases e2
 rw[aC this];exact I.keep b o' e n
def cY(h:FG)(fc:FB)(fe:FE)(ρ:En):List T->(List T->Prop)->Prop
 |[],Q=>Q []
 |t::ts,Q=>h t ρ λρ2=>fc ρ2 λb=>if b=true then fe ρ2 λu=>cY h fc fe ρ ts λus=>Q (u::us) else cY h fc fe ρ ts Q
def Bi(n:Nat)(is:qao)(f:FI)(h:FG)(fc:FB)(fe:FE):FP:=λρ Q=>(is.all λj=>decide (ρ.length<=j))=true/\f ρ λts=>ts.length<=sizeLine/\cY h fc fe (ρ++List.replicate n none) ts λus=>Q (.fr (.lst us))
def SO(X:Cx)(Z:Zc)(ifs:qap)(f:FB):Prop:=Bx λtm=>E3 X ifs (lB X Z tm f)
instance{X:Cx}{Z:Zc}{ifs:qap}{f:FB}:CoeFun (SO X Z ifs f) λ_=>∀tm,E3 X ifs (lB X Z tm f):=⟨λh=>Bx.h h⟩
def Km:FB:=λ_ Q=>Q true
theorem E3.weak{e:qap}{t t':TT}(h:E3 X e t)(hw:∀σ H Q,t' σ H Q->t σ H Q):E3 X e t':=λpins s σ H Q I q=>h pins s σ H Q I (hw _ _ _ q)
section
variable{Z:Zc}
theorem jl:SO X Z [] Km:=.mk λtm=>E3.weak JL λσ H Q ⟨ρ,O,q,I,h,k⟩=>k true h H (aM.refl H)
theorem Kn{f:FB}(h:VC X Z c f):SO X Z [c] f:=.mk λtm=>JM (h tm)
noncomputable def cG(X:Cx)(Z:Zc)(tm:List (T×V))(is:qao)(h:FG):TG:=λv σ H Q=>∃D cb,lG X (Z.ex D) (cb++tm) is h v σ H Q
noncomputable def cB(X:Cx)(Z:Zc)(tm:List (T×V))(f:FB):TT:=λσ H Q=>∃D cb,lB X (Z.ex D) (cb++tm) f σ H Q
noncomputable def cE(X:Cx)(Z:Zc)(tm:List (T×V))(f:FE):TE:=λσ H Q=>∃D cb,lE X (Z.ex D) (cb++tm) f σ H Q
theorem PV{Z:Zc}{tm cb:List (T×V)}{ρ:En}{H1:Hp}{D:Addr}{J:It}{ts:List T}{h:FG}{fc:FB}{fe:FE}{q:Rt->Prop}{Q:VK}(X:Cx)(hK:X.K=K)(I:ax K Z (cb++tm) O ρ σ H1)(hD:H1 D=none)(wk:Wk K J cb ts)(hz:ts.length<=sizeLine)(X9:∀j∈is,ρ.length<=j)(hw:cY h fc fe (ρ++List.replicate n none) ts λus=>q (.fr (.lst us)))(k:∀r,q r->∀v H',aM H1 H'->fY K Z tm O ρ σ H' r v->Q v H') :
  E4 J (cG X Z tm is h) (cB X Z tm fc) (cE X Z tm fe) n σ D (Q (.ref D)) H1:=by
 subst hK;obtain⟨n1,n2,n3⟩:=I.fresh hD;refine⟨λi m acc H2=>m=ts.length-i/\i<=ts.length/\aM H1 H2/\H2 D=some (.lst acc)/\∃us,aB X.K H2 (av (Z.ex D) O) us acc/\acc.length<=i/\ax X.K (Z.ex D) (cb++tm) O ρ σ H2/\cY h fc fe (ρ++List.replicate n none) (ts.drop i) λr=>q (.fr (.lst (us++r))),
  ⟨ts.length,by simp,jL _,aH hD,aG,[],aB.nil,jL _,I.new hD rfl,by simpa using hw⟩,?_⟩
 rintro i m acc H2 ⟨rfl,hi,s2,X_,us,a2,hl,I2,w2⟩;refine⟨X_,?_⟩;obtain⟨w1,w2',w3⟩:=wk H2 (av (Z.ex D) O) I2.yP (λp hp=>I2.pH p (cy _ hp)) i;by_cases eV:i<ts.length;refine .inr ⟨w1 eV,by omega,λx H3 y=>?_⟩;have e:ts[i]?=some ts[i]:=by simp[eV]
 obtain⟨s3,a3⟩:=w3 ts[i] e x H3 y;rw[YJ eV] at w2;have I3:=(I2.same s3).longer n (τ:=List.replicate n none) (by simp);have ea:av (Z.ex D) (O++List.replicate n none)=av (Z.ex D) O:=by unfold av;rw[eD]
 refine⟨D,cb,_,_,ts[i],_,I3,by rw[ea];exact a3,w2,λρ4 hρ4 O4 σ4 I4 ro4 eo4 l4 e4=>⟨⟨?_,λj v hj=>?_⟩,D,cb,ρ4,O4,_,I4,hρ4,λb hb H5 s5=>?_⟩⟩;rw[l4];simp;have Nd:=(eB.mp hj).1;have:j∉is:=λz=>by have:=X9 j z;have:=I.lσ;omega
 rw[e4 j this,og Nd];exact hj;have S5:=(s2.trans s3).trans s5;have J5:=(I2.same s3).same s5;cases b with
 |true=>
   rw[if_pos rfl] at hb;refine Pj ⟨D,cb,ρ4,O4,_,I4.same s5,hb,λu hu y H6 s6 a6=>?_⟩;have Z4:=s6 _ _ (s5 _ _ (s3 _ _ X_));refine⟨Z4,ts.length-(i+1),by omega,rfl,eV,λb o e=>?_,aG,us++[u],?_,by simp;omega,(J5.same s6).Ft Z4 rfl n3,?_⟩;rw[aC (ba e hD)];exact s6 _ _ (S5 _ _ e);have JV:D∈av (Z.ex D) O:=bW _ dG;have a6':At X.K H6 (av (Z.ex D) O) u y:=a6.aY λb hb=>by
    rcases cU.mp hb with z|z
    obtain⟨j,hj⟩:=XA.mp (aK.mp z);have Nd:=(eB.mp hj).1;have nj:j∉is:=λz=>by have:=X9 j z;have:=I.lO;omega
    have:=eo4 j nj;rw[og Nd,hj] at this;exact cy _ (aK.mpr (gW this));exact bW _ z
   exact aB.wrote JV Z4 rfl ((((a2.same s3).same s5).same s6).append (aB.cons a6' aB.nil));have e2:∀r,(us++[u])++r=us++(u::r):=λr=>by simp
   simp only[e2];exact hu
 |false=>rw[if_neg eO] at hb;exact Ph ⟨ts.length-(i+1),by omega,rfl,eV,S5,s5 _ _ (s3 _ _ X_),us,(a2.same s3).same s5,by omega,J5,hb⟩
 have e:i=ts.length:=by omega
 subst e;refine .inl ⟨w2' (rfl),?_⟩;rw[List.drop_length] at w2;simp only[cY,AZ] at w2;refine k _ w2 _ H2 s2 ⟨D,rfl,I2.wV λp hp=>I2.pH p (bW _ hp),⟨acc,X_,a2⟩,n3,n2⟩
theorem Bj{tm:List (T×V)}{f:FI}{h:FG}{fc:FB}{fe:FE}{Q:VK}(hq:lP X Z tm (Bi n is f h fc fe) σ H Q):E5 n (lI X Z tm f) (cG X Z tm is h) (cB X Z tm fc) (cE X Z tm fe) σ H Q:=by
 obtain⟨ρ,O,q,I,⟨X9,hf⟩,k⟩:=hq;refine⟨ρ,O,_,I,hf,λts fZ J H' cb s a wk D hD=>?_⟩;have I':ax X.K Z (cb++tm) O ρ σ H':=(I.same s).wV λp hp=>by
  rcases cU.mp hp with z|z
  exact a p z;exact (I.same s).pH p z
 refine PV X rfl I' hD wk fZ.1 (λj hj=>?_) fZ.2 λr hr v H2 s2 z=>k r hr v H2 (s.trans s2) z;have:=Ou.mp X9 j hj;exact of_decide_eq_true this
variable{ts:qai}{elt tg:Expr}{ifs:qap}{f:FI}{h:FG}{fc:FB}{fe:FE}
theorem jm(hc:X.calm=true)(hS:j8 X.N ts X.env.scope sc=true)(hi:VI X Z tg iter f)(hg:∀D cl C fp s H,VG (bF X ts sc cl C fp s H) (Z.ex D) tg is h)(ht:∀D cl C fp s H,SO (bF X ts sc cl C fp s H) (Z.ex D) ifs fc)(he:∀D cl C fp s H,VE (bF X ts sc cl C fp s H) (Z.ex D) elt fe)(hs:∀x,foldedSetIterable iter X.env x=pure x:=by intro _;rfl):VP X Z (.ListComp elt [⟨tg,iter,ifs,0⟩] sc pos) (Bi ts.length is f h fc fe):=.mk λtm=>
 PE.weak (JO hc hS (hi tm) (λcl C fp s H pins s' σ H' v u Q I r ⟨D,cb,z⟩=>hg D cl C fp s H (cb++tm) pins s' σ H' v u Q I r z) (λcl C fp s H pins s' σ H' Q I ⟨D,cb,z⟩=>ht D cl C fp s H (cb++tm) pins s' σ H' Q I z)
  (λcl C fp s H pins s' σ H' Q I ⟨D,cb,z⟩=>he D cl C fp s H (cb++tm) pins s' σ H' Q I z) hs) λσ H Q hq=>Bj hq
theorem wW{py wK:Pos}(hN:X.N.Nodup)(hy:X.N[i]?=some y)(hx:Loc X.env.scope y)(hc:X.calm=true)(hS:j8 X.N ts X.env.scope sc=true)(hi:VI X Z tg iter f)(hg:∀D cl C fp s H,VG (bF X ts sc cl C fp s H) (Z.ex D) tg is h)(ht:∀D cl C fp s H,SO (bF X ts sc cl C fp s H) (Z.ex D) ifs fc)(he:∀D cl C fp s H,VE (bF X ts sc cl C fp s H) (Z.ex D) elt fe)(JQ:swapsWith (.ListComp elt [⟨tg,iter,ifs,0⟩] sc pos) (some (.Name y py)) wK.line X.env=pure true)(hs:∀x,foldedSetIterable iter X.env x=pure x)(hf:X.fn y=true\/X.env.scope.names.lookup y=some .local)(tm:List (T×V)) :
  PS X (.Assign [.Name y py] (.ListComp elt [⟨tg,iter,ifs,0⟩] sc pos) wK) (Ju (lP X Z tm (Bi ts.length is f h fc fe)) (jM i)) :=
 PS.weak (JP hN hy hx hc hS (hi tm) (λcl C fp s H pins s' σ H' v u Q I r ⟨D,cb,z⟩=>hg D cl C fp s H (cb++tm) pins s' σ H' v u Q I r z) (λcl C fp s H pins s' σ H' Q I ⟨D,cb,z⟩=>ht D cl C fp s H (cb++tm) pins s' σ H' Q I z)
  (λcl C fp s H pins s' σ H' Q I ⟨D,cb,z⟩=>he D cl C fp s H (cb++tm) pins s' σ H' Q I z) JQ hs hf) λD σ H hq=>Bj hq
theorem Ko{py wK:Pos}(hN:X.N.Nodup)(hy:X.N[i]?=some y)(hx:Loc X.env.scope y)(hc:X.calm=true)(hS:j8 X.N ts X.env.scope sc=true)(hi:VI X Z tg iter f)(hg:∀D cl C fp s H,VG (bF X ts sc cl C fp s H) (Z.ex D) tg is h)(ht:∀D cl C fp s H,SO (bF X ts sc cl C fp s H) (Z.ex D) ifs fc)(he:∀D cl C fp s H,VE (bF X ts sc cl C fp s H) (Z.ex D) elt fe)(hp:bG Z i)(JQ:swapsWith (.ListComp elt [⟨tg,iter,ifs,0⟩] sc pos) (some (.Name y py)) wK.line X.env=pure true:=by rfl)(hs:∀x,foldedSetIterable iter X.env x=pure x:=by intro _;rfl)(hf:X.fn y=true\/X.env.scope.names.lookup y=some .local:=by first|exact .inl rfl|exact .inr rfl|assumption) :
  VS X Z (.Assign [.Name y py] (.ListComp elt [⟨tg,iter,ifs,0⟩] sc pos) wK) (UX i (fX (Bi ts.length is f h fc fe))):=.mk λtm=>
 PS.weak (wW hN hy hx hc hS hi hg ht he JQ hs hf tm) λD σ H ⟨ρ,O,d,I,q,F⟩=>⟨ρ,O,_,I,q,λr hr v H' s z=>F.nx _ _ _ H' (z.env.put hp z.at) hr⟩
theorem sV{h:FG}{fc:FB}{fe:FE}{ρ:En}{ts:List T}{Q:List T->Prop}(p:T->Bool)(u:T->T)(step:∀t∈ts,∀k:List T->Prop,∀r:List T->Prop,(if p t=true then r [u t] else r [])->h t ρ λρ2=>fc ρ2 λb=>if b=true then fe ρ2 λx=>r [x] else r [])(hq:Q ((ts.filter p).map u)):cY h fc fe ρ ts Q:=by
 induction ts generalizing Q with
 |nil=>exact hq
 |cons t ts ih=>
  have st:=step t dG (λ_=>True) (λl=>match l with
   |[x]=>cY h fc fe ρ ts λus=>Q (x::us)
   |_=>cY h fc fe ρ ts Q)
  have rest:∀{Q':List T->Prop},Q' ((ts.filter p).map u)->cY h fc fe ρ ts Q':=λhq=>ih (λt ht=>step t (gD _ ht)) hq;simp only[cY];refine st ?_;by_cases hp:p t=true;rw[if_pos hp];refine rest ?_;rw[List.filter_cons_of_pos hp] at hq;exact hq;rw[if_neg hp];refine rest ?_;rw[List.filter_cons_of_neg hp] at hq;exact hq
end
def fF(K:qaf)(H:Hp)(A:qah):List Bool->qah->List T->qak->Prop
 |[],as,ts,vs=>as=[]/\ts=[]/\vs=[]
 |false::fs,as,ts,vs=>∃t j9 v jG,ts=t::j9/\vs=v::jG/\At K H A t v/\fF K H A fs as j9 jG
 |true::fs,as,ts,vs=>∃a sW t j9 jG,as=a::sW/\ts=t::j9/\vs=.ref a::jG/\cD K H A a t/\fF K H A fs sW j9 jG
def U1(K:qaf)(H:Hp)(as Ox:qah)(H':Hp)(us:List T):Rt->V->Prop
 |.vw t,v=>At K H' (as++Ox) t v/\Paired (λa u=>cD K H' (as++Ox) a u) as us
 |.fr t,v=>∃b,v=.ref b/\H b=none/\b∉as/\cD K H' (b::(as++Ox)) b t/\Paired (λa u=>cD K H' (b::(as++Ox)) a u) as us
abbrev GT:=List T->(List T->Rt->Prop)->Prop
def mK(K:qaf)(fs:List Bool)(G:GT):Sp:=λvs H Q _=>∃ts as Ox q,as.Nodup/\(∀a∈as,a∉Ox)/\(∀a∈Ox,H a≠none)/\fF K H (as++Ox) fs as ts vs/\G ts q /\
 ∀us r,q us r->∀v H',(∀b o,H b=some o->b∉as->H' b=some o)->U1 K H as Ox H' us r v->Q v H'
noncomputable def ro:List Bool->qah->HD
 |[],_=>[]
 |false::fs,as=>none::ro fs as
 |true::fs,a::as=>some a::ro fs as
 |true::fs,[]=>none::ro fs []
noncomputable def pz:List Bool->qah->Nat->List (Nat×Addr)
 |[],_,_=>[]
 |false::fs,as,k=>pz fs as (k+1)
 |true::fs,a::as,k=>(k,a)::pz fs as (k+1)
 |true::fs,[],k=>pz fs [] (k+1)
noncomputable def wX:List Bool->List T->En
 |f::fs,t::ts=>some (t,f)::wX fs ts
 |_,_=>[]
noncomputable def mM:List Bool->En->List T
 |[],_=>[]
 |false::fs,ρ=>mM fs ρ.tail
 |true::fs,some (t,_)::ρ=>t::mM fs ρ
 |true::fs,ρ=>.aO::mM fs ρ.tail
section
variable{A:qah}
theorem iO:∀{fs:List Bool}{as:qah}{ts:List T}{vs:qak},fF K H A fs as ts vs->ts.length=fs.length/\vs.length=fs.length/\(ro fs as).length=fs.length/\(wX fs ts).length=fs.length/\roots (ro fs as)=as
 |[],as,ts,vs,h=>by obtain⟨rfl,rfl,rfl⟩:=h;exact⟨rfl,rfl,rfl,rfl,rfl⟩
 |false::fs,as,ts,vs,h=>by obtain⟨t,j9,v,jG,rfl,rfl,_,h⟩:=h;obtain⟨h1,h2,h3,h4,h5⟩:=iO h;exact⟨by simp[h1],by simp[h2],by simp[ro,h3],by simp[wX,h4],by simpa[ro,roots] using h5⟩
 |true::fs,as,ts,vs,h=>by obtain⟨a,sW,t,j9,jG,rfl,rfl,rfl,_,h⟩:=h;obtain⟨h1,h2,h3,h4,h5⟩:=iO h;refine⟨by simp[h1],by simp[h2],by simp[ro,h3],by simp[wX,h4],?_⟩;simp only[ro,roots,nv,id] at h5 ⊢;rw[h5]
theorem pU:∀{fs:List Bool}{as:qah}{ts:List T}{vs:qak},fF K H A fs as ts vs->∀(i:Nat) e,(wX fs ts)[i]?=some e->∃o s,(ro fs as)[i]?=some o/\(vs.map some)[i]?=some s/\mB K H A e o s
 |[],as,ts,vs,h,i,e,he=>by simp[wX] at he
 |false::fs,as,ts,vs,h,i,e,he=>by
  obtain⟨t,j9,v,jG,rfl,rfl,a,h⟩:=h;cases i with
  |zero=>simp only[wX,YM,Option.some.injEq] at he;subst he;exact⟨none,some v,rfl,rfl,rfl,v,rfl,a⟩
  |succ i=>exact pU h i e (by simpa[wX] using he)
 |true::fs,as,ts,vs,h,i,e,he=>by
  obtain⟨a,sW,t,j9,jG,rfl,rfl,rfl,r,h⟩:=h;cases i with
  |zero=>simp only[wX,YM,Option.some.injEq] at he;subst he;exact⟨some a,some (.ref a),rfl,rfl,a,rfl,rfl,r⟩
  |succ i=>exact pU h i e (by simpa[wX] using he)
theorem mO:∀{fs:List Bool}{as:qah}{ts:List T}{vs:qak},fF K H A fs as ts vs->∀a∈as,∃t,cD K H A a t
 |[],as,ts,vs,h,a,ha=>by obtain⟨rfl,rfl,rfl⟩:=h;cases ha
 |false::fs,as,ts,vs,h,a,ha=>by obtain⟨t,j9,v,jG,rfl,rfl,_,h⟩:=h;exact mO h a ha
 |true::fs,as,ts,vs,h,a,ha=>by
  obtain⟨b,sW,t,j9,jG,rfl,rfl,rfl,r,h⟩:=h;rcases c7.mp ha with z|z
  subst z;exact⟨t,r⟩;exact mO h a z
theorem Fu:∀{fs:List Bool}{as:qah}{ts:List T}{vs:qak}(k:Nat),fF K H A fs as ts vs->(pz fs as k).map (·.2)=as/\∀p∈pz fs as k,k<=p.1/\(ro fs as)[p.1-k]?=some (some p.2)
 |[],as,ts,vs,k,h=>by obtain⟨rfl,rfl,rfl⟩:=h;exact⟨rfl,λ_ z=>nomatch z⟩
 |false::fs,as,ts,vs,k,h=>by
  obtain⟨t,j9,v,jG,rfl,rfl,_,h⟩:=h;obtain⟨h1,h2⟩:=Fu (k+1) h;refine⟨h1,λp hp=>?_⟩;obtain⟨l,e⟩:=h2 p hp;refine⟨by omega,?_⟩;have:p.1-k=(p.1-(k+1))+1:=by omega
  rw[this];simpa[ro] using e
 |true::fs,as,ts,vs,k,h=>by
  obtain⟨a,sW,t,j9,jG,rfl,rfl,rfl,_,h⟩:=h;obtain⟨h1,h2⟩:=Fu (k+1) h;refine⟨by simp[pz,h1],λp hp=>?_⟩;rcases c7.mp hp with z|z
  subst z;exact⟨cO _,by simp[ro]⟩;obtain⟨l,e⟩:=h2 p z;refine⟨by omega,?_⟩;have:p.1-k=(p.1-(k+1))+1:=by omega
  rw[this];simpa[ro] using e
theorem uy{R:Addr->T->Prop}{ρ:En}:∀{fs:List Bool}{as:qah}{ts:List T}{vs:qak}(k:Nat),fF K H A fs as ts vs->(∀p∈pz fs as k,∃t,ρ[p.1]?=some (some (t,true))/\R p.2 t)->Paired R as (mM fs (ρ.drop k))
 |[],as,ts,vs,k,h,_=>by obtain⟨rfl,rfl,rfl⟩:=h;exact .nil
 |false::fs,as,ts,vs,k,h,q=>by obtain⟨t,j9,v,jG,rfl,rfl,_,h⟩:=h;have:=uy (k+1) h q;simp only[mM,List.tail_drop];exact this
 |true::fs,as,ts,vs,k,h,q=>by
  obtain⟨a,sW,t,j9,jG,rfl,rfl,rfl,_,h⟩:=h;have:=uy (ρ:=ρ) (k+1) h λp hp=>q p (gD _ hp);obtain⟨u,e,r⟩:=q (k,a) dG;have hk:k<ρ.length:=(eB.mp e).1;have e2:ρ[k]=some (u,true):=by rw[rq hk] at e;exact Option.some.inj e
  rw[YJ hk,e2];exact .cons r this
end
theorem Fv{N:qai}{fs:List Bool}{as:qah}{ts:List T}{Q:VK}{q:List T->Rt->Prop}{g:FS}(nd:as.Nodup)(nx:∀a∈as,a∉Ox)(ox:∀a∈Ox,H a≠none)(ha:fF X.K H (as++Ox) fs as ts vs)(kk:∀us r,q us r->∀v H',(∀b o,H b=some o->b∉as->H' b=some o)->U1 X.K H as Ox H' us r v->Q v H')(hq:g {nx:=λρ=>q (mM fs ρ) (.vw .aO),rt:=λρ r=>q (mM fs ρ) r} (wX fs ts++List.replicate (N.length-ts.length) none)) :
  lS X ⟨H,pz fs as 0,Ox⟩ [] g {nx:=λ_ H'=>Q .aO H',rt:=Q} (start N vs) H:=by
 obtain⟨K,eK⟩:∃K,K=X.K:=⟨_,rfl⟩;unfold lS;rw[<- eK] at ha kk ⊢;obtain⟨l1,l2,l3,l4,l5⟩:=iO ha;obtain⟨p1,p2⟩:=Fu 0 ha;have ea:av ⟨H,pz fs as 0,Ox⟩ (ro fs as++List.replicate (N.length-ts.length) none)=as++Ox:=by unfold av;rw[eD,l5]
 have adn:∀H0 P (O:HD),av ⟨H0,P,Ox⟩ O=roots O++Ox:=λ_ _ _=>rfl;have I0:ax K ⟨H,pz fs as 0,Ox⟩ [] (ro fs as++List.replicate (N.length-ts.length) none) (wX fs ts++List.replicate (N.length-ts.length) none) (start N vs) H:=by
  refine⟨?_,?_,λi e he=>?_,by rw[eD,l5];exact nd,λa h=>?_,λp hp=>?_,ox,λb o e _=>e,λp hp=>nomatch hp⟩;unfold L2.start;simp[l2,l4,l1];simp[l3,l4];rw[ea];by_cases hi:i<fs.length;rw[og (by rw[l4];exact hi)] at he;obtain⟨o,s,h1,h2,h3⟩:=pU ha i e he;refine⟨o,s,by rw[og (by rw[l3];exact hi)];exact h1,?_,h3⟩;unfold L2.start;rw[og (by rw[c6,l2];exact hi)];exact h2;rw[List.getElem?_append_right (by omega),D9] at he;split at he
  rename_i hl
  cases he;refine⟨none,none,?_,?_,rfl⟩;rw[sF (by omega),D9,if_pos (by rw[l3];rw[l4] at hl;exact hl)];unfold L2.start;rw[sF (by rw[c6];omega),D9,c6,if_pos (by rw[l2];rw[l4,l1] at hl;exact hl)];cases he;rw[eD,l5] at h;obtain⟨t,r⟩:=mO ha a h;exact⟨.inl (by show a∈(pz fs as 0).map (·.2);rw[p1];exact h),nx a h,r.mut⟩;obtain⟨_,e⟩:=p2 p hp;rw[Nat.sub_zero] at e;rw[og (eB.mp e).1];exact e
 have fin:∀{O:HD}{ρ:En}{σ:St}{H':Hp}{Z':Zc},Z'.P=pz fs as 0->ax K Z' [] O ρ σ H'->Paired (λa u=>cD K H' (av Z' O) a u) as (mM fs ρ):=λ{O ρ σ H' Z'} eP I=>by
  have:=uy (ρ:=ρ) (R:=λa u=>cD K H' (av Z' O) a u) 0 ha λp hp=>?_;rw[List.drop_zero] at this;exact this;have e:=I.par p (by rw[eP];exact hp);have hl:=(eB.mp e).1;have t_:p.1<ρ.length:=by rw[<- I.lO];exact hl
  obtain⟨o,s',h1,h2,h3⟩:=I.sl p.1 ρ[p.1] (by simp);rw[e] at h1;cases h1;cases q:ρ[p.1] with
  |none=>rw[q] at h3;cases h3
  |some tb=>
    obtain⟨t,b⟩:=tb;rw[q] at h3;cases b with
    |false=>cases h3.1
    |true=>obtain⟨a',e1,_,r⟩:=h3;cases e1;exact⟨t,by rw[<- q];simp,r⟩
 have keep:∀{O:HD}{ρ:En}{σ:St}{H':Hp}{Z':Zc},Z'.H0=H->Z'.P=pz fs as 0->ax K Z' [] O ρ σ H'->∀b o,H b=some o->b∉as->H' b=some o:=λe0 eP I b o e n=>I.keep b o (by rw[e0];exact e) (by rw[eP,p1];exact n);have sub:∀{O:HD}{ρ:En}{σ:St}{H':Hp}{Z':Zc},Z'.P=pz fs as 0->ax K Z' [] O ρ σ H'->∀a∈as,a∈roots O:=λeP I a h=>by
  have:a∈(pz fs as 0).map (·.2):=by rw[p1];exact h
  obtain⟨p,hp,rfl⟩:=yW.mp this;exact aK.mpr (gW (I.par p (by rw[eP];exact hp)))
 refine⟨_,_,_,I0,hq,⟨λO ρ σ H' I h=>?_,λO ρ σ H' r v z h=>?_,λ_ _ _ _ _ h=>h.elim,λ_ _ _ _ _ h=>h.elim⟩⟩;have sb:∀a∈as++Ox,a∈av ⟨H,pz fs as 0,Ox⟩ O:=λa h=>by
  rcases cU.mp h with h|h
  exact cy _ (sub rfl I a h);exact bW _ h
 exact kk _ _ h .aO H' (keep rfl rfl I) ⟨uu,Paired.mq (fin rfl I) λ_ _ q=>q.aY sb⟩;cases r with
 |vw t=>
   obtain⟨I,a⟩:=z;have sb:∀a∈as++Ox,a∈av ⟨H,pz fs as 0,Ox⟩ O:=λa h=>by
    rcases cU.mp h with h|h
    exact cy _ (sub rfl I a h);exact bW _ h
   exact kk _ _ h v H' (keep rfl rfl I) ⟨a.aY sb,Paired.mq (fin rfl I) λ_ _ q=>q.aY sb⟩
 |fr t=>
   obtain⟨b,rfl,I,hR,h0,hx⟩:=z;have sb:∀a∈b::(as++Ox),a∈av (Zc.ex ⟨H,pz fs as 0,Ox⟩ b) O:=λa h=>by
    rcases c7.mp h with h|h
    rw[h];exact bW _ dG;rcases cU.mp h with h|h
    exact cy _ (sub rfl I a h);exact bW _ (gD _ h)
   exact kk _ _ h (.ref b) H' (keep rfl rfl I) ⟨b,rfl,h0,λhb=>(I.own b (sub rfl I b hb)).2.1 dG,hR.aY sb,Paired.mq (fin rfl I) λ_ _ q=>q.aY sb⟩
section
theorem U2{st:Stmt}{N:qai}{k:Nat}{fs:List Bool}{G:GT}(F:Ba K x qual st f fd)(S:aE N ps (aj st))(Z5:fs.length=ps.length)(dz:∀(bz:Value) (A:Around) (outer:List Env) (s:Shared) (H:Hp) (E:XK) (as Ox:qah),bx k (A.deeper (envOfC qual (aj st) s.heap.objs.size f bz))->∀ts q,ts.length=fs.length->G ts q ->
    ∃g,iF (eY dS P w K mg base N qual (aj st) f bz A outer s H E).pf ⟨H,pz fs as 0,Ox⟩ (bD st) g/\g {nx:=λρ=>q (mM fs ρ) (.vw .aO),rt:=λρ r=>q (mM fs ρ) r} (wX fs ts++List.replicate (N.length-ts.length) none)) :
  cp P w K mg base dS (k+1) f fd ps (mK K fs G):=by
 refine F.ok S (λvs H Q E h=>?_) (λbz A outer s H vs Q E hr h=>?_);obtain⟨ts,as,Ox,q,_,_,_,ha,_⟩:=h;rw[<- Z5];exact (iO ha).2.1;obtain⟨ts,as,Ox,q,nd,nx,ox,ha,hG,kk⟩:=h;have l1:=(iO ha).1;obtain⟨g,hg,hq⟩:=dz bz A outer s H E as Ox hr ts q l1 hG;exact⟨_,hg [],Fv nd nx ox ha kk hq⟩
end
def dO(K:qaf)(n:Nat)(G:List T->(Rt->Prop)->Prop):Sp:=mK K (List.replicate n false) λts q=>G ts (q [])
section
variable{A:qah}
theorem h_:∀{n:Nat}{ts:List T}{vs:qak},ts.length=n->aB K H A ts vs->fF K H A (List.replicate n false) [] ts vs
 |0,ts,vs,l,h=>by have e:ts=[]:=Om.mp l;subst e;simp only[aB] at h;exact⟨rfl,rfl,h⟩
 |n+1,ts,vs,l,h=>by
  cases ts with
  |nil=>simp at l
  |cons t ts=>simp only[aB] at h;obtain⟨v,r,rfl,h1,h2⟩:=h;exact⟨t,ts,v,r,rfl,rfl,h1,h_ (by simpa using l) h2⟩
end
theorem ax.Nf{Z:Zc}{tm:List (T×V)}{ρ:En}(I:ax K Z tm O ρ σ H)(h:H a=none)(s:aM H H'){u:HO}(hu:H' a=some u):ax K (Z.ex a) tm O ρ σ H':=by
 have J:=I.same s;obtain⟨n1,n2,n3⟩:=I.fresh h;have mr:∀b∈av (Z.ex a) O,b∈av Z O\/H b=none:=λb hb=>(dh b hb).imp id λe=>by rw[e];exact h
 have fw:∀{t:T}{v:V},At K H (av Z O) t v->At K H' (av (Z.ex a) O) t v:=λq=>(q.more mr).same s;refine⟨J.lσ,J.lO,λi e hi=>?_,J.nd,λb hb=>?_,J.par,λb hb=>?_,J.keep,λp hp=>fw (I.pH p hp)⟩;obtain⟨o,w,h1,h2,h3⟩:=I.sl i e hi;refine⟨o,w,h1,h2,h3.map (λ_ _ q=>fw q) λb t eo q=>?_⟩;exact cD.same (q.map rfl λ_ _ z=>z.more mr) s;obtain⟨q1,q2,q3⟩:=J.own b hb;refine⟨q1,λz=>?_,q3⟩;rcases c7.mp z with z|z
 exact n1 (by rw[<- z];exact cy _ hb);exact q2 z;rcases c7.mp hb with z|z
 rw[z,hu];simp;exact J.ox b z
def zB(n:Nat)(g:FA)(G:List T->(Rt->Prop)->Prop):FP:=λρ Q=>g ρ λts=>ts.length=n/\G ts Q
section
variable{Z:Zc}{k:Nat}{G:List T->(Rt->Prop)->Prop}{g:FA}
theorem Bk{tm:List (T×V)}{ρ:En}{ts:List T}{q:Rt->Prop}{Q:VK}(I:ax X.K Z tm O ρ σ H)(a:aB X.K H (av Z O) ts vs)(hn:ts.length=n)(hG:G ts q)(k:∀r,q r->∀v H',aM H H'->fY X.K Z tm O ρ σ H' r v->Q v H'):dO X.K n G (vs++[]) H Q E0:=by
 rw[AZ];refine⟨ts,[],av Z O,λ_ r=>q r,Jl,λ_ z=>absurd z gE,I.yP,h_ hn a,hG,λus r hr v H' fr z=>?_⟩;have s:aM H H':=λb o e=>fr b o e gE;cases r with
 |vw t=>exact k _ hr v H' s ⟨I.same s,z.1⟩
 |fr t=>
  obtain⟨b,rfl,hb,_,hR,_⟩:=z;obtain⟨n1,n2,n3⟩:=I.fresh hb;obtain⟨u,eu,_⟩:=hR.mut;refine k _ hr _ H' s ⟨b,rfl,I.Nf hb s eu,hR.aY λc hc=>?_,n3,n2⟩;rcases dh c hc with z|z
  exact gD _ z;rw[z];exact dG
theorem Bn(F:cp X.prog X.w X.K X.mg X.base dS k f fd ps (dO X.K n G))(hr:bx k X.A)(hg:Gl X x)(hm:X.mg x=some (.ref f))(hk:PySem.W.keepIn X.K (.ref f)=true)(hb:Binds X.K fd ps [])(ha:VA X Z (e::es) g)(om:gC x:=by decide)(he:starEach (e::es) X.env=(false,eval e X.env)::starEach es X.env:=by rfl)(iI:(backTo pos (starEach es X.env)).any (·.1)=false:=by rfl) :
  VP X Z (.Call (.Name x p) (e::es) [] pos) (zB n g G):=.mk λtm=>PE.weak (kO F hr hg hm hk hb .nil jO (ha tm) om he iI) λσ H Q ⟨ρ,O,q,I,hf,k⟩ =>
 ⟨ρ,O,_,I,hf,λts fZ vs H1 s1 a1=>Bk (I.same s1) a1 fZ.1 fZ.2 λr hr v H' s z=>k r hr v H' (s1.trans s) z⟩
end
def AM(K:qaf)(H:Hp)(A:qah)(O:HD)(ρ:En):List (Option Nat)->List T->qak->Prop
 |[],ts,vs=>ts=[]/\vs=[]
 |none::ms,ts,vs=>∃t j9 v jG,ts=t::j9/\vs=v::jG/\At K H A t v/\AM K H A O ρ ms j9 jG
 |some k::ms,ts,vs=>∃a t j9 jG,ts=t::j9/\vs=.ref a::jG/\ρ[k]?=some (some (t,true))/\O[k]?=some (some a)/\AM K H A O ρ ms j9 jG
noncomputable def lAM(X:Cx)(Z:Zc)(tm:List (T×V))(ms:List (Option Nat))(f:FA):TA:=λσ H Q=>∃ρ O q,ax X.K Z tm O ρ σ H/\f ρ q/\∀ts,q ts->∀vs H',aM H H'->AM X.K H' (av Z O) O ρ ms ts vs->Q vs H'
def PX(X:Cx)(Z:Zc)(es:qap)(ms:List (Option Nat))(f:FA):Prop:=Bx λtm=>PA X es (lAM X Z tm ms f)
instance{X:Cx}{Z:Zc}{es:qap}{ms:List (Option Nat)}{f:FA}:CoeFun (PX X Z es ms f) λ_=>∀tm,PA X es (lAM X Z tm ms f):=⟨λh=>Bx.h h⟩
def Fw(i:Nat):FE:=λρ Q=>match ρ[i]? with
 |some (some (t,true))=>Q t
 |_=>False
section
variable{Z:Zc}{g:FA}
theorem ia:PX X Z [] [] ux:=.mk λtm=>PA.weak cC λσ H Q ⟨ρ,O,q,I,hf,k⟩=>k _ hf [] H (aM.refl H) ⟨rfl,rfl⟩
theorem cj{ms:List (Option Nat)}{f:FE}(h:VE X Z e f)(h':PX X Z es ms g)(hs:starEach (e::es) X.env=(false,eval e X.env)::starEach es X.env:=by rfl):PX X Z (e::es) (none::ms) (gh f g) :=
 .mk λtm=>PA.weak (bt (h tm) (h' tm) hs) λσ H Q ⟨ρ,O,q,I,hf,k⟩=>⟨ρ,O,_,I,hf,λt ht v H1 s1 a1=>⟨ρ,O,_,I.same s1,ht,λts fZ vs H2 s2 a2=>k _ fZ _ H2 (s1.trans s2) ⟨t,ts,v,vs,rfl,rfl,a1.same s2,a2⟩⟩⟩
theorem cZ(j:Nat){ms:List (Option Nat)}{py:Pos}(h':PX X Z es ms g)(hN:X.N[j]?=some y:=by rfl)(hv:j5 X.env.scope y:=by first|exact Or.inl rfl|exact Or.inr (Or.inl rfl)|exact Or.inr (Or.inr rfl))(hd:gC y:=by decide)(fA:tW y:=by decide)(hs:starEach (.Name y py::es) X.env=(false,eval (.Name y py) X.env)::starEach es X.env:=by rfl):PX X Z (.Name y py::es) (some j::ms) (gh (Fw j) g) :=
 .mk λtm=>PA.weak (bt (bV hN hv hd fA) (h' tm) hs) λσ H Q ⟨ρ,O,q,I,hf,k⟩=>by
  have X':Fw j ρ λt=>g ρ λts=>q (t::ts):=hf;unfold Fw at X';split at X'
  rename_i t e0
  obtain⟨a,h1,h2,h3⟩:=I.root e0;exact⟨.ref a,h2,ρ,O,_,I,X',λts fZ vs H2 s2 a2=>k _ fZ _ H2 s2 ⟨a,t,ts,vs,rfl,rfl,e0,h1,a2⟩⟩;exact X'.elim
end
noncomputable def putK:qao->List T->En->En
 |k::ks,u::us,ρ=>putK ks us (ρ.set k (some (u,true)))
 |_,_,ρ=>ρ
theorem pV:∀(ks:qao)(us:List T)(ρ:En),(putK ks us ρ).length=ρ.length
 |[],_,_=>rfl
 |_::_,[],_=>rfl
 |k::ks,u::us,ρ=>by rw[putK,pV];simp
theorem wY:∀{ks:qao}{us:List T}{ρ:En}{i:Nat}{e:Option (T×Bool)},ks.Nodup->ks.length=us.length->(putK ks us ρ)[i]?=some e->(i∉ks/\ρ[i]?=some e)\/∃(j:Nat)(u:T),ks[j]?=some i/\us[j]?=some u/\e=some (u,true)
 |[],us,ρ,i,e,_,_,h=>.inl ⟨gE,h⟩
 |k::ks,[],ρ,i,e,_,l,h=>by simp at l
 |k::ks,u::us,ρ,i,e,nd,l,h=>by
  rw[kB] at nd;rcases wY nd.2 (by simpa using l) (show (putK ks us (ρ.set k (some (u,true))))[i]?=some e from h) with⟨h1,h2⟩|⟨j,u',h1,h2,h3⟩
  rcases get_set h2 with⟨rfl,rfl,_⟩|⟨ne,h2⟩
  exact .inr ⟨0,u,rfl,rfl,rfl⟩;exact .inl ⟨λz=>by rcases c7.mp z with z|z;exact ne z;exact h1 z,h2⟩;exact .inr ⟨j+1,u',by simpa using h1,by simpa using h2,h3⟩
section
variable{A:qah}
theorem At.pW{as:qah}{t:T}(fr:∀b o,H b=some o->b∉as->H' b=some o)(sub:∀a∈as,a∈A)(mu:∀a∈as,∃u,H a=some u/\jF u=true)(h:At K H A t v):At K H' A t v:=by
 refine At.map (λb vs q=>?_) (λb vs q=>?_) (λb aT q=>?_) h;obtain q|q:=q
 refine .inl ⟨?_,q.2⟩;have nb:b∉as:=λz=>q.2 (sub b z);obtain z|⟨o',z⟩:=q.1
 exact .inl (fr _ _ z nb);exact .inr ⟨o',fr _ _ z nb⟩;exact .inr q;obtain z|z:=q
 refine .inl ?_;have nb:b∉as:=λm=>by
  obtain⟨u,eu,mu⟩:=mu b m;obtain z|⟨o',z⟩:=z
  rw[z] at eu;cases eu;cases mu;rw[z] at eu;cases eu;cases mu
 obtain z|⟨o',z⟩:=z
 exact .inl (fr _ _ z nb);exact .inr ⟨o',fr _ _ z nb⟩;exact .inr z;exact⟨fr _ _ q.1 λz=>q.2 (sub b z),q.2⟩
theorem AM.args{A':qah}{O:HD}{ρ:En}(sub:∀a∈A',a∈A)(hr:∀(k:Nat) t,ρ[k]?=some (some (t,true))->∃a,O[k]?=some (some a)/\cD K H A a t):∀{ms:List (Option Nat)}{ts:List T}{vs:qak},AM K H A O ρ ms ts vs ->
  ∃as,fF K H A' (ms.map Option.isSome) as ts vs/\Paired (λa k=>O[k]?=some (some a)) as (ms.filterMap id)
 |[],ts,vs,h=>⟨[],⟨rfl,h.1,h.2⟩,.nil⟩
 |none::ms,ts,vs,h=>by obtain⟨t,j9,v,jG,rfl,rfl,a,h⟩:=h;obtain⟨as,h1,h2⟩:=AM.args sub hr h;exact⟨as,⟨t,j9,v,jG,rfl,rfl,a.aY sub,h1⟩,h2⟩
 |some k::ms,ts,vs,h=>by obtain⟨a,t,j9,jG,rfl,rfl,e0,e1,h⟩:=h;obtain⟨as,h1,h2⟩:=AM.args sub hr h;obtain⟨a',e2,r⟩:=hr k t e0;rw[e1] at e2;cases e2;exact⟨a::as,⟨a,as,t,j9,jG,rfl,rfl,rfl,r.aY sub,h1⟩,.cons e1 h2⟩
end
noncomputable def PY(ms:List (Option Nat))(g:FA)(G:GT):FX:=λρ Q=>g ρ λts=>G ts λus r=>Q (putK (ms.filterMap id) us ρ) r
section
variable{Z:Zc}{k:Nat}{fs:List Bool}{G:GT}{g:FA}{ms:List (Option Nat)}
theorem Fy{tm:List (T×V)}{ρ:En}(I:ax K Z tm O ρ σ H)(h1:O[i]?=some (some a))(h2:O[j]?=some (some a)):i=j:=by
 have key:∀(O:HD)(i j:Nat),i<j->O[i]?=some (some a)->O[j]?=some (some a)->(roots O).Nodup->False:=by
  intro O;induction O with
  |nil=>intro i j _ h;simp at h
  |cons o O ih=>
   intro i j X6 e1 e2 nd;cases j with
   |zero=>omega
   |succ j=>
    have Jb:O[j]?=some (some a):=by simpa using e2
    cases i with
    |zero=>
     have:o=some a:=by simpa using e1
     subst this;simp only[roots,nv,id] at nd;exact (kB.mp nd).1 (aK.mpr (gW Jb))
    |succ i=>
     refine ih i j (by omega) (by simpa using e1) Jb ?_;cases o with
     |none=>simpa[roots] using nd
     |some b=>simp only[roots,nv,id] at nd;exact (kB.mp nd).2
 rcases Nat.lt_trichotomy i j with l|l|l
 exact (key O i j l h1 h2 I.nd).elim;exact l;exact (key O j i l h2 h1 I.nd).elim
theorem fG{α β:Type}{F:α->β->Prop}:∀{l₁:List α}{l₂:List β}{a:α},Paired F l₁ l₂->a∈l₁->∃b∈l₂,F a b
 |_,_,_,.nil,h=>nomatch h
 |_,_,a,.cons r t,h=>by
  rcases c7.mp h with z|z
  subst z;exact⟨_,dG,r⟩;obtain⟨b,h1,h2⟩:=fG t z;exact⟨b,gD _ h1,h2⟩
theorem pX{α β:Type}{F:α->β->Prop}:∀{l₁:List α}{l₂:List β}{i:Nat}{b:β},Paired F l₁ l₂->l₂[i]?=some b->∃a,l₁[i]?=some a/\F a b
 |_,_,_,_,.nil,e=>by simp at e
 |_,_,0,_,.cons r _,e=>by simp at e;subst e;exact⟨_,rfl,r⟩
 |_,_,i+1,b,.cons _ t,e=>by obtain⟨a,h1,h2⟩:=pX (i:=i) (b:=b) t (by simpa using e);exact⟨a,by simpa using h1,h2⟩
theorem iP{α β:Type}{F:α->β->Prop}:∀{l₁:List α}{l₂:List β}{i:Nat}{a:α},Paired F l₁ l₂->l₁[i]?=some a->∃b,l₂[i]?=some b/\F a b
 |_,_,_,_,.nil,e=>by simp at e
 |_,_,0,_,.cons r _,e=>by simp at e;subst e;exact⟨_,rfl,r⟩
 |_,_,i+1,b,.cons _ t,e=>by obtain⟨a,h1,h2⟩:=iP (i:=i) (a:=b) t (by simpa using e);exact⟨a,by simpa using h1,h2⟩
theorem ax.called{Z':Zc}{tm:List (T×V)}{ρ:En}{as:qah}{ks:qao}{us:List T}(I:ax K Z tm O ρ σ H)(hk:Paired (λa k=>O[k]?=some (some a)) as ks)(nk:ks.Nodup)(fr:∀b o,H b=some o->b∉as->H' b=some o)(hu:Paired (λa u=>cD K H' (av Z' O) a u) as us)(hZ:Z'.H0=Z.H0)(hP:Z'.P=Z.P)(hox:∀a∈Z'.Ox,a∉roots O/\H' a≠none)(more:∀a∈av Z' O,a∈av Z O\/H a=none):ax K Z' tm O (putK ks us ρ) σ H':=by
 have zC:∀a∈as,a∈roots O:=λa h=>by obtain⟨k,_,e⟩:=fG hk h;exact aK.mpr (gW e)
 have sub:∀a∈as,a∈av Z O:=λa h=>cy _ (zC a h);have Z6:∀a∈as,a∈av Z' O:=λa h=>cy _ (zC a h);have mu:∀a∈as,∃u,H a=some u/\jF u=true:=λa h=>(I.own a (zC a h)).2.2;have fw:∀{t:T}{v:V},At K H (av Z O) t v->At K H' (av Z' O) t v:=λq=>(q.more more).pW fr Z6 mu;have fwL:∀{t:List T}{v:qak},aB K H (av Z O) t v->aB K H' (av Z' O) t v:=λq=>aB.iff.mpr (Paired.mq (aB.iff.mp q) λ_ _ z=>fw z);refine⟨by rw[pV];exact I.lσ,by rw[pV];exact I.lO,λi e h=>?_,I.nd,λb hb=>?_,by rw[hP];exact I.par,λa ha=>(hox a ha).2,λb o e n=>?_,λp hp=>fw (I.pH p hp)⟩;rcases wY nk (by rw[<- Ow hk,Ow hu]) h with⟨h1,h2⟩|⟨j,u,h1,h2,rfl⟩
 obtain⟨o,s,g1,g2,g3⟩:=I.sl i e h2;refine⟨o,s,g1,g2,g3.map (λ_ _ q=>fw q) λb t eo q=>?_⟩;subst eo;have nb:b∉as:=λm=>by obtain⟨k,kF,PZ⟩:=fG hk m;exact h1 (by rw[Fy I g1 PZ];exact kF)
 obtain⟨u,eu,_⟩:=q.mut;exact q.map (by rw[eu];exact fr _ _ eu nb) λ_ _ z=>fwL z;obtain⟨a,ha,r⟩:=pX hu h2;obtain⟨k,kF,PZ⟩:=iP hk ha;rw[h1] at kF;cases kF;have hl:i<ρ.length:=by rw[<- I.lO];exact (eB.mp PZ).1
 obtain⟨o,s,g1,g2,g3⟩:=I.sl i ρ[i] (by simp);rw[PZ] at g1;cases g1;refine⟨some a,s,PZ,g2,a,rfl,?_,r⟩;cases q:ρ[i] with
 |none=>rw[q] at g3;cases g3
 |some tb=>
  obtain⟨t,b⟩:=tb;rw[q] at g3;cases b with
  |false=>cases g3.1
  |true=>obtain⟨a',e1,e2,_⟩:=g3;cases e1;exact e2
 obtain⟨q1,q2,v,e,m⟩:=I.own b hb;refine⟨by rw[hZ,hP];exact q1,λz=>(hox b z).1 hb,?_⟩;by_cases hba:b∈as;obtain⟨j,hj⟩:=XA.mp hba;obtain⟨u,_,r⟩:=iP hu hj;exact r.mut;exact⟨v,fr _ _ e hba,m⟩;rw[hZ] at e;rw[hP] at n;refine fr _ _ (I.keep b o e n) λm=>?_;rcases (I.own b (zC b m)).1 with z|z
 exact n z;rw[z] at e;cases e
theorem fH(F:cp X.prog X.w X.K X.mg X.base dS k f fd ps (mK X.K fs G))(hr:bx k X.A)(hg:Gl X x)(hm:X.mg x=some (.ref f))(hk:PySem.W.keepIn X.K (.ref f)=true)(hb:Binds X.K fd ps [])(ha:PX X Z (e::es) ms g)(Z5:ms.map Option.isSome=fs:=by rfl)(Z7:(ms.filterMap id).Nodup:=by decide)(om:gC x:=by decide)(he:starEach (e::es) X.env=(false,eval e X.env)::starEach es X.env:=by rfl)(iI:(backTo pos (starEach es X.env)).any (·.1)=false:=by rfl) :
  VX X Z (.Call (.Name x p) (e::es) [] pos) (PY ms g G):=.mk λtm=>PE.weak (kO F hr hg hm hk hb .nil jO (ha tm) om he iI) λσ H Q ⟨ρ,O,q,I,hf,k⟩ =>
 ⟨ρ,O,_,I,hf,λts fZ vs H1 s1 a1=>by
   subst Z5;show mK X.K _ G (vs++[]) H1 Q E0;rw[AZ];have J:=I.same s1;obtain⟨as,h1,h2⟩:=AM.args (A':=av Z O) (λ_ z=>z) (λk t e=>by obtain⟨a,q1,q2,q3⟩:=J.root e;exact⟨a,q1,q3⟩) a1;have zC:∀a∈as,a∈roots O:=λa h=>by obtain⟨k,_,e⟩:=fG h2 h;exact aK.mpr (gW e)
   have ndA:as.Nodup:=by
    clear h1;have:∀{as:qah}{ks:qao},ks.Nodup->Paired (λa k=>O[k]?=some (some a)) as ks->as.Nodup:=by
     intro as ks nd h;induction h with
     |nil=>exact Jl
     |cons r t ih=>rw[kB] at nd ⊢;refine⟨λm=>?_,ih nd.2⟩;obtain⟨k',m1,m2⟩:=fG t m;exact nd.1 (by rw[Fy J r m2];exact m1)
    exact this Z7 h2
   have Ya:∀b,b∈as++(av Z O).filter (λb=>decide (b∉as))↔b∈av Z O:=λb=>by rw[cU,Tv];constructor;rintro (z|z);exact cy _ (zC b z);exact z.1;intro z;by_cases hb:b∈as;exact .inl hb;exact .inr ⟨z,decide_eq_true hb⟩
   obtain⟨sW,Ej,Kp⟩:=AM.args (A':=as++(av Z O).filter (λb=>decide (b∉as))) (λb z=>(Ya b).mp z) (λk t e=>by obtain⟨a,q1,q2,q3⟩:=J.root e;exact⟨a,q1,q3⟩) a1;have ee:sW=as:=by
    have:∀{as sW:qah}{ks:qao},Paired (λa k=>O[k]?=some (some a)) as ks->Paired (λa k=>O[k]?=some (some a)) sW ks->sW=as:=by
     intro as sW ks h h';induction h generalizing sW with
     |nil=>cases h';rfl
     |cons r t ih=>
       cases h' with
       |cons r' t'=>rw[r] at r';cases r';rw[ih t']
    exact this h2 Kp
   subst ee;refine⟨ts,sW,(av Z O).filter (λb=>decide (b∉sW)),_,ndA,λa h z=>?_,λa h=>J.yP a (Tv.mp h).1,Ej,fZ,λus r hr v H' fr z=>?_⟩;exact (of_decide_eq_true (Tv.mp z).2) h;have U3:∀a∈Z.Ox,a∉roots O/\H' a≠none:=λa h=>by
    have na:a∉roots O:=λm=>(J.own a m).2.1 h;refine⟨na,?_⟩;cases e:H1 a with
    |none=>exact absurd e (J.ox a h)
    |some u=>rw[fr _ _ e λm=>na (zC a m)];simp
   cases r with
   |vw t=>obtain⟨z1,z2⟩:=z;exact k _ _ hr O v H' ⟨J.called h2 Z7 fr (Paired.mq z2 λ_ _ q=>q.aY λb hb=>(Ya b).mpr hb) rfl rfl U3 λa h=>.inl h,z1.aY λb hb=>(Ya b).mpr hb⟩
   |fr t=>
     obtain⟨b,rfl,hb,nb,hR,z2⟩:=z;obtain⟨n1,n2,n3⟩:=J.fresh hb;have sb:∀c∈av (Z.ex b) O,c∈b::(sW++(av Z O).filter (λb=>decide (b∉sW))):=λc hc=>by
      rcases dh c hc with z|z
      exact gD _ ((Ya c).mpr z);rw[z];exact dG
     refine k _ _ hr O _ H' ⟨b,rfl,J.called h2 Z7 fr (Paired.mq z2 λ_ _ q=>q.aY sb) rfl rfl (λa h=>?_) (λa h=>(dh a h).imp id λe=>by rw[e];exact hb),hR.aY sb,n3,n2⟩;rcases c7.mp h with z|z
     subst z;obtain⟨u,eu,_⟩:=hR.mut;exact⟨λm=>n1 (cy _ m),by rw[eu];simp⟩;exact U3 a z⟩
end
section
variable(K:qaf)
theorem wZ:PySem.W.kitOne K (.type "int") (.type "int")=some true:=by kernel_rfl
theorem uz:PySem.W.kitOne K (.type "int") (.type "bool")=some false:=by kernel_rfl
theorem w_:PySem.W.kitOne K (.type "int") (.type "str")=some false:=by kernel_rfl
theorem uA:PySem.W.kitOne K (.type "int") (.type "list")=some false:=by kernel_rfl
theorem rO:PySem.W.kitOne K (.type "int") (.type "tuple")=some false:=by kernel_rfl
theorem uB:PySem.W.kitOne K (.type "bool") (.type "int")=some true:=by kernel_rfl
theorem rP:PySem.W.kitOne K (.type "bool") (.type "bool")=some true:=by kernel_rfl
theorem uC:PySem.W.kitOne K (.type "bool") (.type "str")=some false:=by kernel_rfl
theorem rQ:PySem.W.kitOne K (.type "bool") (.type "list")=some false:=by kernel_rfl
theorem pY:PySem.W.kitOne K (.type "bool") (.type "tuple")=some false:=by kernel_rfl
theorem xa:PySem.W.kitOne K (.type "str") (.type "int")=some false:=by kernel_rfl
theorem uD:PySem.W.kitOne K (.type "str") (.type "bool")=some false:=by kernel_rfl
theorem xb:PySem.W.kitOne K (.type "str") (.type "str")=some true:=by kernel_rfl
theorem uE:PySem.W.kitOne K (.type "str") (.type "list")=some false:=by kernel_rfl
theorem rR:PySem.W.kitOne K (.type "str") (.type "tuple")=some false:=by kernel_rfl
theorem uF:PySem.W.kitOne K (.type "list") (.type "int")=some false:=by kernel_rfl
theorem rS:PySem.W.kitOne K (.type "list") (.type "bool")=some false:=by kernel_rfl
theorem uG:PySem.W.kitOne K (.type "list") (.type "str")=some false:=by kernel_rfl
theorem rT:PySem.W.kitOne K (.type "list") (.type "list")=some true:=by kernel_rfl
theorem pZ:PySem.W.kitOne K (.type "list") (.type "tuple")=some false:=by kernel_rfl
theorem rV:PySem.W.kitOne K (.type "tuple") (.type "int")=some false:=by kernel_rfl
theorem p_:PySem.W.kitOne K (.type "tuple") (.type "bool")=some false:=by kernel_rfl
theorem rW:PySem.W.kitOne K (.type "tuple") (.type "str")=some false:=by kernel_rfl
theorem qa:PySem.W.kitOne K (.type "tuple") (.type "list")=some false:=by kernel_rfl
theorem oy:PySem.W.kitOne K (.type "tuple") (.type "tuple")=some true:=by kernel_rfl
theorem uH:PySem.W.kitOne K (.type "dict") (.type "int")=some false:=by kernel_rfl
theorem rX:PySem.W.kitOne K (.type "dict") (.type "bool")=some false:=by kernel_rfl
theorem uI:PySem.W.kitOne K (.type "dict") (.type "str")=some false:=by kernel_rfl
theorem rY:PySem.W.kitOne K (.type "dict") (.type "list")=some false:=by kernel_rfl
theorem qb:PySem.W.kitOne K (.type "dict") (.type "tuple")=some false:=by kernel_rfl
theorem mP:PySem.W.kitOne K (.type "NoneType") (.type "int")=some false:=by kernel_rfl
theorem k5:PySem.W.kitOne K (.type "NoneType") (.type "bool")=some false:=by kernel_rfl
theorem mQ:PySem.W.kitOne K (.type "NoneType") (.type "str")=some false:=by kernel_rfl
theorem k6:PySem.W.kitOne K (.type "NoneType") (.type "list")=some false:=by kernel_rfl
theorem j_:PySem.W.kitOne K (.type "NoneType") (.type "tuple")=some false:=by kernel_rfl
end
def Ty2(K:qaf)(H:Hp):V->String->Prop
 |.aO,t=>t="NoneType"
 |.bl _,t=>t="bool"
 |.int _,t=>t="int"
 |.str _,t=>t="str"
 |.ref a,t=>(t="list"/\∃xs,fW K H a xs)\/(t="tuple"/\∃xs,dU K H a xs)\/(t="dict"/\∃aT,H a=some (.dK aT))
 |_,_=>False
def U4(K:qaf):qak->Hp->VK->Prop:=λxs H Q=>∃x n t b,xs=[x,.ty n]/\Ty2 K H x t/\PySem.W.kitOne K (.type t) (.type n)=some b/\Q (.bl b) H
theorem CZ:dN X (.builtin "isinstance") (U4 X.K):=by
 intro pins s σ H xs us Q I r h;obtain⟨x,n,t,b,rfl,ty,e,q⟩:=h;obtain⟨u,w',rfl,rx,ry⟩:=vals2 r;obtain rfl:w'=Value.type n:=ry;have fin:∀tk,EP X pins σ Q (.bool b) {s with toks:=tk}:=λtk=>⟨.bl b,H,I.tok _,rfl,q⟩;cases x with
 |aO=>cases (show t=_ from ty);cases (show u=Value.none from rx);exact Ov PySem.W.kitx_none I.rD True.intro e (λz=>nomatch z) fin
 |bl y=>cases (show t=_ from ty);cases (show u=Value.bool y from rx);exact Ov PySem.W.kitx_bool I.rD True.intro e (λz=>nomatch z) fin
 |int i=>cases (show t=_ from ty);obtain⟨t,q⟩:=(show ∃t,u=Value.int i t from rx);cases q;exact Ov PySem.W.kitx_int I.rD True.intro e (λz=>nomatch z) fin
 |str y=>cases (show t=_ from ty);obtain⟨t,q⟩:=(show ∃t,u=Value.str y t from rx);cases q;exact Ov PySem.W.kitx_str I.rD True.intro e (λz=>nomatch z) fin
 |ref a=>
  cases (show u=Value.ref a from rx);obtain⟨rfl,xs,hq⟩|⟨rfl,xs,hq⟩|⟨rfl,aT,hq⟩:=ty
  obtain⟨aN,_,p,_⟩:=I.list hq;obtain⟨o,n',h1,h2,_⟩:=p;exact Ov PySem.W.kitx_list I.rD ⟨o,h1,h2⟩ e (λz=>nomatch z) fin;obtain⟨aN,_,p,_⟩:=I.tuple hq;obtain⟨o,h1,h2,_⟩:=p;exact Ov PySem.W.kitx_tuple I.rD ⟨o,h1,h2⟩ e (λz=>nomatch z) fin;obtain⟨_,_,vs,_,p⟩:=(show cw X.prog X.w H s.heap a (.dK aT) from I.cm a _ hq);obtain⟨o,es,ep,h1,h2,_⟩:=p;exact Ov PySem.W.kitx_dict I.rD ⟨o,h1,h2.1⟩ e (λz=>nomatch z) fin
 |_=>exact (show False from ty).elim
def isInt:T->Bool
 |.int _=>true
 |.bl _=>true
 |_=>false
def isBool:T->Bool
 |.bl _=>true
 |_=>false
def isStr:T->Bool
 |.str _=>true
 |_=>false
def isList:T->Bool
 |.lst _=>true
 |_=>false
def Kq:T->Bool
 |.tup _=>true
 |_=>false
noncomputable def known:T->Bool
 |.dc _ _ _=>false
 |.ins _ _ _=>false
 |.pin _ _=>false
 |.ob _=>false
 |.ty _=>false
 |_=>true
def mR(K:qaf)(n:String)(p:T->Bool):Prop:=∀H A t v,known t=true->iL K H A t v->∃ty,Ty2 K H v ty/\PySem.W.kitOne K (.type ty) (.type n)=some (p t)
theorem Fz:mR K "int" isInt:=by
 intro H A t v hk h;cases t with
 |aO=>rw[h.aO];exact⟨_,rfl,mP K⟩
 |bl b=>rw[h.bl];exact⟨_,rfl,uB K⟩
 |int b=>rw[h.int];exact⟨_,rfl,wZ K⟩
 |str b=>rw[h.str];exact⟨_,rfl,xa K⟩
 |tup l=>obtain⟨a,vs,rfl,q,_⟩:=h.tup;exact⟨_,.inr (.inl ⟨rfl,_,q⟩),rV K⟩
 |lst l=>obtain⟨a,vs,rfl,q,_⟩:=h.lst;exact⟨_,.inl ⟨rfl,_,q⟩,uF K⟩
 |dk ks l=>obtain⟨a,vs,rfl,_,q,_⟩:=h.dk;exact⟨_,.inr (.inr ⟨rfl,_,q⟩),uH K⟩
 |_=>simp only[known] at hk;cases hk
theorem C0:mR K "bool" isBool:=by
 intro H A t v hk h;cases t with
 |aO=>rw[h.aO];exact⟨_,rfl,k5 K⟩
 |bl b=>rw[h.bl];exact⟨_,rfl,rP K⟩
 |int b=>rw[h.int];exact⟨_,rfl,uz K⟩
 |str b=>rw[h.str];exact⟨_,rfl,uD K⟩
 |tup l=>obtain⟨a,vs,rfl,q,_⟩:=h.tup;exact⟨_,.inr (.inl ⟨rfl,_,q⟩),p_ K⟩
 |lst l=>obtain⟨a,vs,rfl,q,_⟩:=h.lst;exact⟨_,.inl ⟨rfl,_,q⟩,rS K⟩
 |dk ks l=>obtain⟨a,vs,rfl,_,q,_⟩:=h.dk;exact⟨_,.inr (.inr ⟨rfl,_,q⟩),rX K⟩
 |_=>simp only[known] at hk;cases hk
theorem eF:mR K "str" isStr:=by
 intro H A t v hk h;cases t with
 |aO=>rw[h.aO];exact⟨_,rfl,mQ K⟩
 |bl b=>rw[h.bl];exact⟨_,rfl,uC K⟩
 |int b=>rw[h.int];exact⟨_,rfl,w_ K⟩
 |str b=>rw[h.str];exact⟨_,rfl,xb K⟩
 |tup l=>obtain⟨a,vs,rfl,q,_⟩:=h.tup;exact⟨_,.inr (.inl ⟨rfl,_,q⟩),rW K⟩
 |lst l=>obtain⟨a,vs,rfl,q,_⟩:=h.lst;exact⟨_,.inl ⟨rfl,_,q⟩,uG K⟩
 |dk ks l=>obtain⟨a,vs,rfl,_,q,_⟩:=h.dk;exact⟨_,.inr (.inr ⟨rfl,_,q⟩),uI K⟩
 |_=>simp only[known] at hk;cases hk
theorem mT:mR K "list" isList:=by
 intro H A t v hk h;cases t with
 |aO=>rw[h.aO];exact⟨_,rfl,k6 K⟩
 |bl b=>rw[h.bl];exact⟨_,rfl,rQ K⟩
 |int b=>rw[h.int];exact⟨_,rfl,uA K⟩
 |str b=>rw[h.str];exact⟨_,rfl,uE K⟩
 |tup l=>obtain⟨a,vs,rfl,q,_⟩:=h.tup;exact⟨_,.inr (.inl ⟨rfl,_,q⟩),qa K⟩
 |lst l=>obtain⟨a,vs,rfl,q,_⟩:=h.lst;exact⟨_,.inl ⟨rfl,_,q⟩,rT K⟩
 |dk ks l=>obtain⟨a,vs,rfl,_,q,_⟩:=h.dk;exact⟨_,.inr (.inr ⟨rfl,_,q⟩),rY K⟩
 |_=>simp only[known] at hk;cases hk
theorem ic:mR K "tuple" Kq:=by
 intro H A t v hk h;cases t with
 |aO=>rw[h.aO];exact⟨_,rfl,j_ K⟩
 |bl b=>rw[h.bl];exact⟨_,rfl,pY K⟩
 |int b=>rw[h.int];exact⟨_,rfl,rO K⟩
 |str b=>rw[h.str];exact⟨_,rfl,rR K⟩
 |tup l=>obtain⟨a,vs,rfl,q,_⟩:=h.tup;exact⟨_,.inr (.inl ⟨rfl,_,q⟩),oy K⟩
 |lst l=>obtain⟨a,vs,rfl,q,_⟩:=h.lst;exact⟨_,.inl ⟨rfl,_,q⟩,pZ K⟩
 |dk ks l=>obtain⟨a,vs,rfl,_,q,_⟩:=h.dk;exact⟨_,.inr (.inr ⟨rfl,_,q⟩),qb K⟩
 |_=>simp only[known] at hk;cases hk
noncomputable def U5(f:FE)(p:T->Bool):FP:=λρ Q=>f ρ λt=>known t=true/\Q (.vw (.bl (p t)))
section
variable{Z:Zc}{a:Expr}{fa fb Yb:FE}
theorem uJ:bootBuiltins "isinstance"=some (.builtin "isinstance"):=by decide +kernel
theorem cv{n:String}{q:T->Bool}(hq:mR X.K n q)(hg:Gl X "isinstance")(hm:X.mg "isinstance"=none)(hgy:Gl X y)(hmy:X.mg y=none)(hby:bootBuiltins y=some (.type n))(ha:VR X Z e fa)(hny:y≠"__name__":=by decide)(hdy:gC y:=by decide)(hs:starEach [e,.Name y p2] X.env=(false,eval e X.env)::starEach [.Name y p2] X.env:=by rfl)(CG:starEach [.Name y p2] X.env=(false,eval (.Name y p2) X.env)::starEach [] X.env:=by rfl)(iI:(backTo pos (starEach [.Name y p2] X.env)).any (·.1)=false:=by rfl) :
  VP X Z (.Call (.Name "isinstance" p) [e,.Name y p2] [] pos) (U5 fa q):=.mk λtm=>
 PE.weak (pj CZ hg hm uJ (bt (ha tm) (bt (Jq (v:=.ty n) hgy hmy hby rfl hny hdy) cC CG) hs) (by decide) (by decide) hs iI) λσ H Q ⟨ρ,O,q',I,hf,k⟩=>⟨ρ,O,_,I,hf,λt ht v H1 s1 a1=>by obtain⟨ty,h1,h2⟩:=hq H1 _ t v ht.1 a1;exact⟨v,n,ty,_,rfl,h1,h2,k _ ht.2 _ H1 s1 ⟨I.same s1,dB⟩⟩⟩
def gi:T->Bool
 |.aO=>true
 |.bl _=>true
 |.int _=>true
 |.str _=>true
 |_=>false
def qc:List T->Bool
 |[]=>true
 |t::ts=>gi t && qc ts
noncomputable def rA(x:T):List T->Bool
 |[]=>false
 |t::ts=>eqT t x || rA x ts
theorem gJ{K:qaf}{H:Hp}{A:qah}:∀{ts:List T}{vs:qak}{x:T}{v:V},qc ts=true->gi x=true->aB K H A ts vs->At K H A x v->vs.all iJ=true/\iJ v=true/\XZ v vs=rA x ts
 |[],vs,x,v,_,fx,h,hx=>by simp only[aB] at h;subst h;refine⟨rfl,?_,rfl⟩;cases x<;>simp only[At] at hx<;>first|(subst hx;rfl)|(simp only[gi] at fx;cases fx)
 |t::ts,vs,x,v,f,fx,h,hx=>by
  simp only[aB] at h;obtain⟨u,r,rfl,h1,h2⟩:=h;simp only[qc,mh] at f;obtain⟨i1,i2,i3⟩:=gJ f.2 fx h2 hx;have ft:iJ u=true:=by cases t<;>simp only[At] at h1<;>first|(subst h1;rfl)|(have:=f.1;simp only[gi] at this;cases this)
  have e:Ja u v=eqT t x:=by
   cases t<;>simp only[At] at h1<;>first
    | (have:=f.1;simp only[gi] at this;cases this;done)
    | (subst h1
       cases x<;>simp only[At] at hx<;>first
        | (simp only[gi] at fx;cases fx;done)
        | (subst hx;simp[Ja,eqT];done))
  refine⟨by simp[ft,i1],i2,?_⟩;simp only[rA,XZ,Es];rw[e]
  congr 1
noncomputable def Kr(K:qaf)(neg:Bool):R2:=λx y H Q=>Zs K neg x y H Q\/∃i j,x=.str i/\y=.str j/\Q (.bl (if neg then !(!(Builtin.Str.occurrences j i 0 j.length 1).isEmpty) else !(Builtin.Str.occurrences j i 0 j.length 1).isEmpty)) H
theorem FC:fg X (compareOp .In) (Kr X.K false):=by
 intro pins s σ H x y v u Q I rx ry h;obtain h|⟨i,j,h1,h2,h⟩:=h
 exact CN pins s σ H x y v u Q I rx ry h;exact CA pins s σ H x y v u Q I rx ry ⟨i,j,h1,h2,by simpa using h⟩
theorem C1:fg X (compareOp .NotIn) (Kr X.K true):=by
 intro pins s σ H x y v u Q I rx ry h;obtain h|⟨i,j,h1,h2,h⟩:=h
 exact uk pins s σ H x y v u Q I rx ry h;exact um pins s σ H x y v u Q I rx ry ⟨i,j,h1,h2,by simpa using h⟩
noncomputable def Bo(i j:Str):Bool:=!(Builtin.Str.occurrences j i 0 j.length 1).isEmpty
def Yc(x y:T)(q:Rt->Prop):Prop:=match y with
 |.lst ts=>gi x=true/\qc ts=true/\q (.vw (.bl (rA x ts)))
 |.tup ts=>gi x=true/\qc ts=true/\q (.vw (.bl (rA x ts)))
 |.str j=>∃i,x=.str i/\q (.vw (.bl (Bo i j)))
 |_=>False
def P4(x y:T)(q:Rt->Prop):Prop:=match y with
 |.lst ts=>gi x=true/\qc ts=true/\q (.vw (.bl (!rA x ts)))
 |.tup ts=>gi x=true/\qc ts=true/\q (.vw (.bl (!rA x ts)))
 |.str j=>∃i,x=.str i/\q (.vw (.bl (!Bo i j)))
 |_=>False
theorem FD:pJ K (Kr K false) Yc:=by
 intro Z tm O ρ σ H x y v w q Q I h1 h2 h k;have x1:gi x=true->At K H (av Z O) x v:=λf=>by
  obtain h|⟨a,rfl,h⟩:=h1
  exact h;cases x<;>first|exact h.elim|(simp only[gi] at f;cases f)
 unfold Yc at h;split at h;obtain⟨f1,f2,h⟩:=h;obtain⟨a,vs,rfl,q1,q2⟩:=h2.lst;obtain⟨i1,i2,i3⟩:=gJ f2 f1 q2 (x1 f1);exact .inl ⟨a,vs,rfl,.inl q1,i2,i1,k _ h _ H (aM.refl H) ⟨I,by rw[if_neg eO,i3];exact dB⟩⟩;obtain⟨f1,f2,h⟩:=h;obtain⟨a,vs,rfl,q1,q2⟩:=h2.tup;obtain⟨i1,i2,i3⟩:=gJ f2 f1 q2 (x1 f1);exact .inl ⟨a,vs,rfl,.inr q1,i2,i1,k _ h _ H (aM.refl H) ⟨I,by rw[if_neg eO,i3];exact dB⟩⟩;obtain⟨i,rfl,h⟩:=h;exact .inr ⟨i,_,h1.str,h2.str,k _ h _ H (aM.refl H) ⟨I,by rw[if_neg eO];exact dB⟩⟩;exact h.elim
theorem Ks:pJ K (Kr K true) P4:=by
 intro Z tm O ρ σ H x y v w q Q I h1 h2 h k;have x1:gi x=true->At K H (av Z O) x v:=λf=>by
  obtain h|⟨a,rfl,h⟩:=h1
  exact h;cases x<;>first|exact h.elim|(simp only[gi] at f;cases f)
 unfold P4 at h;split at h;obtain⟨f1,f2,h⟩:=h;obtain⟨a,vs,rfl,q1,q2⟩:=h2.lst;obtain⟨i1,i2,i3⟩:=gJ f2 f1 q2 (x1 f1);exact .inl ⟨a,vs,rfl,.inl q1,i2,i1,k _ h _ H (aM.refl H) ⟨I,by rw[if_pos rfl,i3];exact dB⟩⟩;obtain⟨f1,f2,h⟩:=h;obtain⟨a,vs,rfl,q1,q2⟩:=h2.tup;obtain⟨i1,i2,i3⟩:=gJ f2 f1 q2 (x1 f1);exact .inl ⟨a,vs,rfl,.inr q1,i2,i1,k _ h _ H (aM.refl H) ⟨I,by rw[if_pos rfl,i3];exact dB⟩⟩;obtain⟨i,rfl,h⟩:=h;exact .inr ⟨i,_,h1.str,h2.str,k _ h _ H (aM.refl H) ⟨I,by rw[if_pos rfl];exact dB⟩⟩;exact h.elim
theorem U6(ha:VR X Z a fa)(hb:VR X Z b fb)(hm:behindInMarks .In b=false:=by rfl):VP X Z (.Compare a [.In] [b] pos) (f2 fa fb Yc):=zx FC FD ha hb hm
theorem sX(ha:VR X Z a fa)(hb:VR X Z b fb)(hm:behindInMarks .In b=false:=by rfl):VC X Z (.Compare a [.In] [b] pos) (mC (f2 fa fb Yc)):=hY FC FD ha hb hm
theorem P6(ha:VR X Z a fa)(hb:VR X Z b fb)(hm:behindInMarks .NotIn b=false:=by rfl):VC X Z (.Compare a [.NotIn] [b] pos) (mC (f2 fa fb P4)):=hY C1 Ks ha hb hm
def nG:T->Bool
 |.aO=>true
 |_=>false
def Z8(x y:T)(q:Rt->Prop):Prop:=match y with
 |.aO=>q (.vw (.bl (nG x)))
 |_=>False
def zD(x y:T)(q:Rt->Prop):Prop:=match y with
 |.aO=>q (.vw (.bl (!nG x)))
 |_=>False
theorem Bp{A:qah}{t:T}(h:iL K H A t v):decide (v=.aO)=nG t:=by
 cases t with
 |aO=>rw[h.aO];rfl
 |bl b=>rw[h.bl];rfl
 |int b=>rw[h.int];rfl
 |str b=>rw[h.str];rfl
 |ob b=>rw[h.ob];rfl
 |ty b=>have:v=.ty b:=h.elim (λq=>by simpa only[At] using q) λ⟨_,_,q⟩=>q.elim;rw[this];rfl
 |tup l=>obtain⟨a,vs,rfl,_⟩:=h.tup;rfl
 |lst l=>obtain⟨a,vs,rfl,_⟩:=h.lst;rfl
 |dk ks l=>obtain⟨a,vs,rfl,_⟩:=h.dk;rfl
 |dc nh ks l=>obtain⟨a,xs,vs,rfl,_⟩:=h.dc;rfl
 |ins C ns l=>obtain⟨a,dx,vs,rfl,_⟩:=h.ins;rfl
 |pin a t=>have e:v=.ref a:=h.elim (λq=>by simp only[At] at q;exact q.1) λ⟨_,_,q⟩=>q.elim;rw[e];rfl
theorem P7:pJ K (λx y H Q=>y=.aO/\Q (.bl (decide (x=.aO))) H) Z8:=by intro Z tm O ρ σ H x y v w q Q I h1 h2 h k;unfold Z8 at h;split at h;exact⟨h2.aO,k _ h _ H (aM.refl H) ⟨I,by rw[Bp h1];exact dB⟩⟩;exact h.elim
theorem C2:pJ K (λx y H Q=>y=.aO/\Q (.bl (!decide (x=.aO))) H) zD:=by intro Z tm O ρ σ H x y v w q Q I h1 h2 h k;unfold zD at h;split at h;exact⟨h2.aO,k _ h _ H (aM.refl H) ⟨I,by rw[Bp h1];exact dB⟩⟩;exact h.elim
theorem sY(ha:VR X Z a fa)(hb:VR X Z b fb):VC X Z (.Compare a [.Is] [b] pos) (mC (f2 fa fb Z8)):=hY OZ P7 ha hb (g9 _)
theorem FH(ha:VR X Z a fa)(hb:VR X Z b fb):VC X Z (.Compare a [.IsNot] [b] pos) (mC (f2 fa fb zD)):=hY Jx C2 ha hb (g9 _)
theorem FJ{g g':Int->Int->Bool}{tm:List (T×V)}{Q:VK}(h:lP X Z tm (f3 fa fb Yb (UN g) (UN g')) σ H Q):EJ (wB λi j=>.bl (g i j)) (wB λi j=>.bl (g' i j)) (lR X Z tm fa) (lR X Z tm fb) (lR X Z tm Yb) σ H Q:=by
 obtain⟨ρ,O,q,I,hf,k⟩:=h;refine⟨ρ,O,_,I,hf,λx hx v H1 s1 a1=>⟨ρ,O,_,I.same s1,hx,λy hy w H2 s2 a2=>?_⟩⟩;have J:=(I.same s1).same s2;unfold UN at hy;split at hy
 rename_i i j
 refine⟨i,j,(a1.same s2).int,a2.int,_,rfl,?_⟩;cases e:g i j with
 |true=>
  rw[e] at hy;refine Pj ⟨ρ,O,_,J,hy,λz hz w3 H3 s3 a3=>?_⟩;split at hz
  rename_i e1
  cases e1;exact⟨_,_,(a2.same s3).int,a3.int,k _ hz _ H3 ((s1.trans s2).trans s3) ⟨J.same s3,dB⟩⟩;exact hz.elim
 |false=>rw[e] at hy;exact Ph (k _ hy _ H2 (s1.trans s2) ⟨J,dB⟩)
 exact hy.elim
theorem FK{op O0:CmpOp}{g g':Int->Int->Bool}(ho:fg X (compareOp op) (wB λi j=>.bl (g i j)))(pe:fg X (compareOp O0) (wB λi j=>.bl (g' i j)))(ha:VR X Z a fa)(hb:VR X Z b fb)(hc:VR X Z c Yb)(hm:lastMarks [op,O0] [b,c]=false:=by with_unfolding_all rfl):VC X Z (.Compare a [op,O0] [b,c] pos) (mC (f3 fa fb Yb (UN g) (UN g'))):=.mk λtm=>PT.weak (EK ho pe (ha tm) (hb tm) (hc tm) hm) λσ H Q ⟨ρ,O,q,I,hf,k⟩ =>
 FJ ⟨ρ,O,_,I,hf,λt ht u H' s a=>by obtain⟨c,rfl,hc⟩:=zy ht;have e:=a.2;simp only[At] at e;exact⟨c,e,k c hc H' s⟩⟩
def eG(ts:List T):List T:=ts.mapIdx λi t=>.tup [.int (i:Int),t]
def U7(f:FE):FI:=λρ Q=>f ρ λt=>match t with
 |.lst ts=>Q (eG ts)
 |_=>False
theorem Kt{a:Addr}{ts:List T}:Wk K (ZL K a) [(.lst ts,.ref a)] (eG ts):=λH A hA h i=>by
 have h:=h _ dG;simp only[At] at h;obtain⟨b,vs,e,l,q⟩:=h;cases e;have hl:=q.length;have hle:(eG ts).length=ts.length:=by unfold eG;rw[List.length_mapIdx]
 rw[hle];refine⟨λhi=>⟨vs,vs[i]'(by omega),l.sq,by simp⟩,λhi=>⟨vs,l.sq,by omega⟩,λt ht x H' y=>?_⟩;obtain⟨p,u,hp,rfl,hu,rfl⟩:=y;unfold eG at ht;rw[XF] at ht;cases e:ts[i]? with
 |none=>rw[e] at ht;cases ht
 |some t'=>rw[e] at ht;cases ht;obtain⟨v,e1,e2⟩:=q.get e;have:=hu vs l.sq;rw[e1] at this;cases this;exact⟨aH hp,cf (dU.of aG) (aB.cons bf (aB.cons (e2.same (aH hp)) aB.nil))⟩
theorem Bq{x1}(hg:Gl X "enumerate")(hm:X.mg "enumerate"=none)(ha:VE X Z a fa)(hs:starEach [a] X.env=[(false,eval a X.env)]:=by rfl) :
  VI X Z (.Tuple elts x1 tp) (.Call (.Name "enumerate" p) [a] [] pos) (U7 fa):=.mk λtm=>PI.weak (JS hg hm (bt (ha tm) cC hs) hs) λσ H R ⟨ρ,O,q,I,hf,k⟩=>⟨ρ,O,_,I,hf,λt ht v H' s a=>by
 split at ht;have a0:=a;simp only[At] at a;obtain⟨p,vs,rfl,l,_⟩:=a;exact⟨p,rfl,⟨vs,l.sq⟩,k _ ht _ H' _ s (λp hp=>by rw[eX.mp hp];exact a0) Kt⟩;exact ht.elim⟩
noncomputable def dQ:List T->Option (List Bool)
 |[]=>some []
 |.bl b::ts=>(dQ ts).map (b::·)
 |_=>none
def intsOf:List T->Option (qan)
 |[]=>some []
 |.int b::ts=>(intsOf ts).map (b::·)
 |_=>none
theorem FQ{K:qaf}{H:Hp}{A:qah}:∀{ts:List T}{bs:List Bool}{vs:qak},dQ ts=some bs->aB K H A ts vs->vs=bs.map V.bl
 |[],bs,vs,e,h=>by simp only[dQ] at e;cases e;simp only[aB] at h;rw[h];rfl
 |.bl b::ts,bs,vs,e,h=>by
  simp only[dQ] at e;cases q:dQ ts with
  |none=>rw[q] at e;cases e
  |some cs=>rw[q] at e;cases e;simp only[aB,At] at h;obtain⟨v,r,rfl,rfl,h⟩:=h;rw[FQ q h];rfl
 |.aO::_,_,_,e,_=>by simp[dQ] at e
 |.int _::_,_,_,e,_=>by simp[dQ] at e
 |.str _::_,_,_,e,_=>by simp[dQ] at e
 |.tup _::_,_,_,e,_=>by simp[dQ] at e
 |.lst _::_,_,_,e,_=>by simp[dQ] at e
 |.dk _ _::_,_,_,e,_=>by simp[dQ] at e
 |.dc _ _ _::_,_,_,e,_=>by simp[dQ] at e
 |.ins _ _ _::_,_,_,e,_=>by simp[dQ] at e
 |.pin _ _::_,_,_,e,_=>by simp[dQ] at e
 |.ob _::_,_,_,e,_=>by simp[dQ] at e
 |.ty _::_,_,_,e,_=>by simp[dQ] at e
def U8(ts:List T)(q:Rt->Prop):Prop:=match ts with
 |[.lst l]=>∃bs,dQ l=some bs/\q (.vw (.bl (bs.all id)))
 |_=>False
theorem C3:k4 K (λxs H Q=>∃(p:Addr)(bs:List Bool),xs=[.ref p]/\fW K H p (bs.map V.bl)/\Q (.bl (bs.all id)) H) U8:=by intro Z tm O ρ σ H ts vs q Q I h hp k;unfold U8 at hp;split at hp;obtain⟨bs,e,hp⟩:=hp;obtain⟨v,rfl,a⟩:=cX h;obtain⟨p,ws,rfl,q1,q2⟩:=a.lst;rw[FQ e q2] at q1;exact⟨p,bs,rfl,q1,k _ hp _ H (aM.refl H) ⟨I,dB⟩⟩;exact hp.elim
def Ng(ts:List T)(q:Rt->Prop):Prop:=match ts with
 |[.int i,.int j]=>q (.vw (.int (if j<i then j else i)))
 |_=>False
theorem zE:k4 K (λxs H Q=>∃i j,xs=[.int i,.int j]/\Q (.int (if j<i then j else i)) H) Ng:=by intro Z tm O ρ σ H ts vs q Q I h hp k;unfold Ng at hp;split at hp;obtain⟨v,w,rfl,a,b⟩:=Kj h;exact⟨_,_,by rw[a.int,b.int],k _ hp _ H (aM.refl H) ⟨I,bf⟩⟩;exact hp.elim
def Nh(ts:List T)(q:Rt->Prop):Prop:=match ts with
 |[.int i]=>q (.vw (.int i))
 |[.bl b]=>q (.vw (.int (if b then 1 else 0)))
 |_=>False
theorem zF:k4 K (λxs H Q=>(∃i,xs=[.int i]/\Q (.int i) H)\/∃k,xs=[.bl k]/\Q (.int (if k then 1 else 0)) H) Nh:=by intro Z tm O ρ σ H ts vs q Q I h hp k;unfold Nh at hp;split at hp;obtain⟨v,rfl,a⟩:=cX h;exact .inl ⟨_,by rw[a.int],k _ hp _ H (aM.refl H) ⟨I,bf⟩⟩;obtain⟨v,rfl,a⟩:=cX h;exact .inr ⟨_,by rw[a.bl],k _ hp _ H (aM.refl H) ⟨I,bf⟩⟩;exact hp.elim
def Z9(f:FP)(fb:FE):FP:=λρ Q=>f ρ λr=>match r with
 |.fr (.lst ts)=>fb ρ λy=>match y with
  |.int k=>-(2 ^ 63)<=k/\k<2 ^ 63/\ts.length * k.toNat<=sizeLine/\Q (.fr (.lst (List.replicate k.toNat ts).flatten))
  |_=>False
 |_=>False
theorem aB.rep{K:qaf}{H:Hp}{A:qah}{ts:List T}{vs:qak}(h:aB K H A ts vs):∀k:Nat,aB K H A (List.replicate k ts).flatten (List.replicate k vs).flatten
 |0=>aB.nil
 |k+1=>by rw[Eo,Eo,Oq,Oq];exact h.append (aB.rep h k)
theorem qd{f:FP}(ha:VP X Z a f)(hb:VR X Z b fb):VP X Z (.BinOp a .Mult b pos) (Z9 f fb):=.mk λtm=>PE.weak (MM Pe (ha tm) (hb tm)) λσ H Q ⟨ρ,O,q,I,hf,k⟩=>⟨ρ,O,_,I,hf,λr hr v H1 s1 z=>by split at hr;obtain⟨l,rfl,J,⟨xs,e,q1⟩,_⟩:=z;refine⟨ρ,O,_,I.same s1,hr,λy hy w H2 s2 a2=>?_⟩;split at hy;obtain⟨h1,h2,h3,hy⟩:=hy;have q2:aB X.K H2 (av Z O) _ xs:=(q1.same s2).aY fm;exact⟨l,_,xs,rfl,a2.int,s2 _ _ e,h1,h2,by rw[q2.length];exact h3,λp hp=>k _ hy _ _ ((s1.trans s2).trans (aH hp)) (((I.same s1).same s2).CY hp (q2.rep _))⟩;exact hy.elim;exact hr.elim⟩
end
structure Df(K:qaf)(mg:qae)(x:Str)(st:Stmt)(ps:qai)(f:Addr)(fd:FuncData):Prop where
 F:Ba K x x st f fd
 m:mg x=some (.ref f)
 b:Binds K fd ps []
def cq(P:Program)(w:World)(K:qaf)(mg:qae)(base:Heap)(x:Str)(ps:qai)(k:Nat)(sp:Sp):Prop :=
 ∃f fd,mg x=some (.ref f)/\PySem.W.keepIn K (.ref f)=true/\Binds K fd ps []/\cp P w K mg base dS k f fd ps sp
theorem Df.gK{st:Stmt}{k:Nat}(D:Df K mg x st ps f fd)(F:cp P w K mg base dS k f fd ps sp):cq P w K mg base x ps k sp :=
 ⟨f,fd,D.m,D.F.kp,D.b,F⟩
theorem nH:bG ⟨H,[],Ox⟩ i:=λ_ z=>nomatch z
section
theorem oN{st:Stmt}{N:qai}{k:Nat}{G:List T->(Rt->Prop)->Prop}(F:Ba K x qual st f fd)(S:aE N ps (aj st))(hn:n=ps.length)(dz:∀(bz:Value) (A:Around) (outer:List Env) (s:Shared) (H:Hp) (E:XK) (Ox:qah),bx k (A.deeper (envOfC qual (aj st) s.heap.objs.size f bz))->∀ts q,G ts q ->
    ∃g,iF (eY dS P w K mg base N qual (aj st) f bz A outer s H E).pf ⟨H,[],Ox⟩ (bD st) g/\(ts.length=n->g {nx:=λ_=>q (.vw .aO),rt:=λ_ r=>q r} (ts.map (λt=>some (t,false))++List.replicate (N.length-ts.length) none))) :
  cp P w K mg base dS (k+1) f fd ps (dO K n G):=by
 have hp:∀n (as:qah) k,pz (List.replicate n false) as k=[]:=by
  intro n;induction n with
  |zero=>intro as k;rfl
  |succ n ih=>intro as k;exact ih as (k+1)
 have hfi:∀n (ρ:En),mM (List.replicate n false) ρ=[]:=by
  intro n;induction n with
  |zero=>intro ρ;rfl
  |succ n ih=>intro ρ;exact ih ρ.tail
 have he:∀n (ts:List T),ts.length=n->wX (List.replicate n false) ts=ts.map λt=>some (t,false):=by
  intro n;induction n with
  |zero=>intro ts e;cases ts<;>simp_all [wX]
  |succ n ih=>
    intro ts e;cases ts with
    |nil=>simp at e
    |cons t ts=>rw[Eo,wX,ih ts (by simpa using e)];rfl
 refine U2 F S (by rw[yU];exact hn) λbz A outer s H E as Ox hr ts q hl hG=>?_;rw[yU] at hl;obtain⟨g,h1,h2⟩:=dz bz A outer s H E Ox hr ts (q []) hG;refine⟨g,by rw[hp];exact h1,?_⟩;rw[he n ts hl];simp only[hfi];exact h2 hl
end
theorem bx.gq{k:Nat}(r:bx k A):A.units+101<cLine:=by have:=r.un;omega
theorem qe:bootBuiltins "list"=some (.type "list"):=by decide +kernel
theorem k7:bootBuiltins "tuple"=some (.type "tuple"):=by decide +kernel
theorem U9:bootBuiltins "all"=some (.builtin "all"):=by decide +kernel
theorem Ni:bootBuiltins "min"=some (.builtin "min"):=by decide +kernel
theorem Nj:bootBuiltins "int"=some (.type "int"):=by decide +kernel
theorem P_:bootBuiltins "bool"=some (.type "bool"):=by decide +kernel
theorem nI:bootBuiltins "str"=some (.type "str"):=by decide +kernel
theorem oP:∀{fs:List Bool}{as:qah}{k:Nat},∀p∈pz fs as k,k<=p.1/\fs[p.1-k]?=some true
 |[],_,_,p,hp=>nomatch hp
 |false::fs,as,k,p,hp=>by
  obtain⟨h1,h2⟩:=oP (fs:=fs) (as:=as) (k:=k+1) p hp;refine⟨by omega,?_⟩;have:p.1-k=(p.1-(k+1))+1:=by omega
  rw[this];simpa using h2
 |true::fs,a::as,k,p,hp=>by
  rcases c7.mp hp with z|z
  subst z;exact⟨cO _,by simp⟩;obtain⟨h1,h2⟩:=oP (fs:=fs) (as:=as) (k:=k+1) p z;refine⟨by omega,?_⟩;have:p.1-k=(p.1-(k+1))+1:=by omega
  rw[this];simpa using h2
 |true::fs,[],k,p,hp=>by
  obtain⟨h1,h2⟩:=oP (fs:=fs) (as:=[]) (k:=k+1) p hp;refine⟨by omega,?_⟩;have:p.1-k=(p.1-(k+1))+1:=by omega
  rw[this];simpa using h2
theorem fJ{fs:List Bool}{as:qah}(h:fs[i]?≠some true):bG ⟨H,pz fs as 0,Ox⟩ i:=λp hp e=>by have:=(oP p hp).2;rw[Nat.sub_zero,e] at this;exact h this
theorem j'(lo:Int)(n:Nat):(rangeT lo n).length=n:=by unfold rangeT;rw[c6,Ts]
theorem zG{lo:Int}{t:T}(h:(rangeT lo n)[i]?=some t):i<n/\t=.int (lo+(i:Int)):=by
 unfold rangeT at h;rw[jC] at h;cases e:(List.range n)[i]? with
 |none=>rw[e] at h;cases h
 |some j=>rw[e] at h;obtain⟨h1,h2⟩:=eB.mp e;rw[List.getElem_range] at h2;rw[Ts] at h1;subst h2;cases h;exact⟨h1,rfl⟩
theorem qf{lo:Int}{h:FG}{g:FS}{d:Fm}{ρ:En}(Pv:Nat->En->Prop)(h0:Pv 0 ρ)(hs:∀(i:Nat) ρ',i<n->Pv i ρ'->h (.int (lo+(i:Int))) ρ' λρ2=>g {nx:=Pv (i+1),ct:=Pv (i+1),bk:=d.nx,rt:=d.rt} ρ2)(hd:∀ρ',Pv n ρ'->d.nx ρ'):pT (rangeT lo n) h g d ρ:=⟨Pv,h0,λi t ρ' e p=>by obtain⟨h1,rfl⟩:=zG e;exact hs i ρ' h1 p,λρ' p=>hd ρ' (by rw[j'] at p;exact p)⟩
theorem FR{f:α->T}{xs:List α}{h:FG}{g:FS}{d:Fm}{ρ:En}(Pv:Nat->En->Prop)(h0:Pv 0 ρ)(hs:∀(i:Nat) x ρ',xs[i]?=some x->Pv i ρ'->h (f x) ρ' λρ2=>g {nx:=Pv (i+1),ct:=Pv (i+1),bk:=d.nx,rt:=d.rt} ρ2)(hd:∀ρ',Pv xs.length ρ'->d.nx ρ'):pT (xs.map f) h g d ρ:=⟨Pv,h0,λi t ρ' e p=>by
 rw[jC] at e;cases q:xs[i]? with
 |none=>rw[q] at e;cases e
 |some x=>rw[q] at e;cases e;exact hs i x ρ' q p,λρ' p=>hd ρ' (by rw[c6] at p;exact p)⟩
theorem uK{c:Bool}{A:Prop}(hc:c=true)(h:A):if c=true then A else B:=by rw[if_pos hc];exact h
theorem mU{c:Bool}{A:Prop}(hc:c=false)(h:B):if c=true then A else B:=by rw[if_neg (by rw[hc];exact eO)];exact h
theorem gr{c A:Prop}[Decidable c](h1:c->A)(h2:¬ c->B):if decide c=true then A else B:=by by_cases h:c;rw[if_pos (decide_eq_true h)];exact h1 h;rw[if_neg (by rw[decide_eq_false h];exact eO)];exact h2 h
section
theorem k_{t:Addr}{x:Value}(hit:s.heap.IsTupleIter it t i)(ht:s.heap.IsTuple t items)(hx:items[i]?=some x)(hQ:∀h',h'.IsTupleIter it t (i+1)->Heap.SameBut it s.heap h'->Q x {s with heap:=h'}):wpAny (model prog w) A (Builtin.SmallTypes.nextOf (.ref it)) Q E s:=by
 obtain⟨o,ho,hc,hd⟩:=id hit;obtain⟨ol,Z_,_,nl,U_⟩:=ht;unfold Builtin.SmallTypes.nextOf;refine wpAny_bind (wpAny_callSpecial?_slot (name:=Str.ofString "__next__") hit.typeIs Mx
  (wpAny_call_entry Mx hit.typeIs Xz ?_ (Xy _)))
 show wpAny _ _ (field (.ref it) 0 >>= _) _ _ s;refine wpAny_bind (wpAny_field ho hd (x:=.ref t) rfl ?_);show wpAny _ _ (if (Value.ref t==Value.none)=true then _ else _) _ _ s;rw[if_neg (show ¬ ((Value.ref t==Value.none)=true) from eO)];show wpAny _ _ (field (.ref it) 1 >>= _) _ _ s;refine wpAny_bind (wpAny_field ho hd (x:=.int i 0) rfl ?_);show wpAny _ _ (seqItems? (.ref t) >>= _) _ _ s;refine wpAny_bind (wpAny_seqItems Z_ U_ ?_);simp only[D',hx];refine wpAny_bind (wpAny_setField ho hd (by simp) (wpAny_pure ⟨x,rfl,wpAny_pure (hQ _ ?_ (XG ..))⟩));exact⟨_,Heap.get?_update_self _ ho (Obj.isFreed_of_fields (XN hd _)),(Obj.cls_mapFields ..).trans hc,by
  rw[XN hd];simp[rawInt]⟩
theorem mV{t:Addr}(hh:A.handled=none)(hit:s.heap.IsTupleIter it t i)(ht:s.heap.IsTuple t items)(hx:items[i]?=none)(hE:∀h' e,Heap.ExtBut it s.heap h'->(∃o,h'.get? e=some o/\o.cls=.type "StopIteration")->E (.ref e) {s with heap:=h'}):wpAny (model prog w) A (Builtin.SmallTypes.nextOf (.ref it)) Q E s:=by
 obtain⟨o,ho,hc,hd⟩:=id hit;obtain⟨ol,Z_,_,nl,U_⟩:=ht;unfold Builtin.SmallTypes.nextOf;refine wpAny_bind (wpAny_callSpecial?_slot (name:=Str.ofString "__next__") hit.typeIs Mx
  (wpAny_call_entry Mx hit.typeIs Xz ?_ (Xy _)))
 show wpAny _ _ (field (.ref it) 0 >>= _) _ _ s;refine wpAny_bind (wpAny_field ho hd (x:=.ref t) rfl ?_);show wpAny _ _ (if (Value.ref t==Value.none)=true then _ else _) _ _ s;rw[if_neg (show ¬ ((Value.ref t==Value.none)=true) from eO)];show wpAny _ _ (field (.ref it) 1 >>= _) _ _ s;refine wpAny_bind (wpAny_field ho hd (x:=.int i 0) rfl ?_);show wpAny _ _ (seqItems? (.ref t) >>= _) _ _ s;refine wpAny_bind (wpAny_seqItems Z_ U_ ?_);simp only[D',hx];refine wpAny_bind (wpAny_rule (wpAny_bind (wpAny_setField ho hd (by simp) ?_)));show wpAny _ _ (newExc (.type "StopIteration") [] >>= _) _ _ _;refine wpAny_bind ?_;simp only[newExc,newTuple];refine wpAny_bind (wpAny_newObj_type ?_ (by size_fits));refine wpAny_bind (m:=firstArgMember _ _) (wpAny_of_eq (a:=Value.none) (by first|rfl|(simp only[firstArgMember];rfl)) ?_);refine wpAny_newObj_type ?_ (by size_fits);simp only[raiseNew];refine wpAny_bind (wpAny_handled ?_)
 first|rw[show A.in1.handled=none from hh]|rw[hh]
 refine wpAny_bind (wpAny_pure (wpAny_throw ?_));exact hE _ _ (((XG ..).extBut.push _).push _) ⟨_,mf _ rfl,rfl⟩
end
structure Part(prog:Program)(w:World)(i:Addr)(fp:qah)(n:Nat)(Pv:Nat->Value->Prop)(st:Nat->Heap->Prop):Prop where
 draws:∀A:Around,A.handled=none->Draws prog w A i fp n Pv st
 mem:i∈fp
 fld:∀k h,st k h->∃o vs,h.get? i=some o/\o.data=.fields vs
theorem C4(it l:Addr)(fE:l≠it)(items:Array Value):Part prog w it [it,l] items.size (λi v=>items[i]?=some v) (λi h=>h.IsListIter it l i/\h.IsList l items) :=
 ⟨λA hh=>Draws.list hh it l fE items,by simp,λk h st=>let ⟨⟨o,e,_,d⟩,_⟩:=st;⟨o,_,e,d⟩⟩
theorem zH(it l:Addr)(fE:l≠it)(items:Array Value):Part prog w it [it,l] items.size (λi v=>items[i]?=some v) (λi h=>h.IsTupleIter it l i/\h.IsTuple l items) :=
 ⟨λA hh=>{live:=λ_ _ st=>let ⟨o,ho,_⟩:=st.1;⟨o,ho⟩,frame:=λ_ _ _ st hk=>⟨let ⟨o,ho,r⟩:=st.1;⟨o,hk it (by simp) o ho,r⟩,let ⟨o,ho,r⟩:=st.2;⟨o,hk l (by simp) o ho,r⟩⟩,item:=λi s Q E hi st hQ=>k_ st.1 st.2 (x:=items[i]) (by simp[hi]) λh' ach U'=>hQ _ h' s.toks (by simp[hi]) ⟨ach,st.2.extBut U'.extBut fE⟩ U',done:=λs Q E st hE=>mV hh st.1 st.2 (by simp) hE},by simp,λk h st=>let ⟨⟨o,e,_,d⟩,_⟩:=st;⟨o,_,e,d⟩⟩
theorem FT(it:Addr)(x:Str)(t:Tok):Part prog w it [it] x.cps.size (λi v=>∃c u,x.cps[i]?=some c/\v=.str ⟨#[c]⟩ u) (λi h=>h.IsStrIter it (strIterType x) x t i):=by
 rcases dA x with z|z
 rw[z];exact⟨λA hh=>Draws.strAscii hh it x t,by simp,λk h st=>let ⟨o,e,_,d⟩:=st;⟨o,_,e,d⟩⟩;rw[z];exact⟨λA hh=>Draws.strWide hh it x t,by simp,λk h st=>let ⟨o,e,_,d⟩:=st;⟨o,_,e,d⟩⟩
structure Apart(z TI TO i1 i2:Addr)(qg oQ:qah):Prop where
 TIz:TI≠z
 TOz:TO≠z
 i1z:i1≠z
 i2z:i2≠z
 TITO:TI≠TO
 TIi1:TI≠i1
 TIi2:TI≠i2
 TOi1:TO≠i1
 TOi2:TO≠i2
 i12:i1≠i2
 z1:z∉qg
 z2:z∉oQ
 O1:TO∉qg
 O2:TO∉oQ
 x1:i2∉qg
 x2:i1∉oQ
section
variable{z TI TO i1 i2:Addr}{qg oQ:qah}{n1 n2:Nat}{P1 P2:Nat->Value->Prop}{S1 S2:Nat->Heap->Prop}
theorem FU{k:Nat}{a b:Value}(hh:A.handled=none)(D:Apart z TI TO i1 i2 qg oQ)(p1:Part prog w i1 qg n1 P1 S1)(p2:Part prog w i2 oQ n2 P2 S2)(hz:IsZip s.heap z TI TO .none)(Ku:IsPair s.heap TI (.ref i1) (.ref i2))(Kv:IsPair s.heap TO a b)(h1:S1 k s.heap)(h2:S2 k s.heap)(hx:k<n1)(hy:k<n2)(hQ:∀x y h' tk,P1 k x->P2 k y->IsZip h' z TI TO (rawInt s.heap.objs.size)->IsPair h' TO x y->S1 (k+1) h'->S2 (k+1) h'->IsPair h' s.heap.objs.size x y->h'.objs.size=s.heap.objs.size+1 ->
    (∀c o,c≠z->c≠TO->c≠i1->c≠i2->s.heap.get? c=some o->h'.get? c=some o)->Q (.ref s.heap.objs.size) {s with heap:=h',toks:=tk}) :
  wpAny (model prog w) A (Builtin.«zip.__next__» ⟨[.ref z],[]⟩) (λfin s'=>∃v,fin=.done (.ret v)/\Q v s') E s:=by
 show wpAny _ _ (field (.ref z) 2 >>= _) _ _ _;refine wpAny_bind (wpAny_field hz rfl (x:=.bool false) rfl ?_);show wpAny _ _ (field (.ref z) 3 >>= _) _ _ _;refine wpAny_bind (wpAny_field hz rfl (x:=.ref TI) rfl ?_);refine wpAny_bind (wpAny_seqItems Ku rfl ?_);show wpAny _ _ (Builtin.SmallTypes.ownedTupleIsFree (.ref z) >>= _) _ _ _;refine wpAny_bind ?_;unfold Builtin.SmallTypes.ownedTupleIsFree;refine wpAny_bind (wpAny_field hz rfl (x:=.none) rfl (wpAny_pure ?_));simp only[if_true];refine wpAny_bind (wpAny_rule ?_);refine wpAny_bind (wpAny_field hz rfl (x:=.ref TO) rfl ?_);refine wpAny_bind (wpAny_setField_rec hz (by simp) λh₁ Eh v_=>?_)
 replace Eh:IsZip h₁ z TI TO .ellipsis:=Eh
 refine wpAny_bind ?_;simp only[List.zipIdx_cons,List.zipIdx_nil,List.forIn_cons,List.forIn_nil];have f1:∀{m h h' c},c∉qg->S1 m h->Heap.SameBut c h h'->S1 m h':=λ{m h h' c} hc st sb=>(p1.draws A hh).frame m h h' st λb hb o e=>sb.extBut b o (λq=>hc (q▸hb)) e;have f2:∀{m h h' c},c∉oQ->S2 m h->Heap.SameBut c h h'->S2 m h':=λ{m h h' c} hc st sb=>(p2.draws A hh).frame m h h' st λb hb o e=>sb.extBut b o (λq=>hc (q▸hb)) e;refine wpAny_bind (wpAny_bind (wpAny_onRaise ?_));show wpAny _ _ (Builtin.SmallTypes.nextOf (.ref i1) >>= _) _ _ _;refine wpAny_bind ((p1.draws _ hh).item k _ _ _ hx (f1 D.z1 h1 v_) λx h₂ tk₂ px h1₂ ou=>wpAny_pure ?_)
 replace ou:Heap.SameBut i1 h₁ h₂:=ou
 have FV:IsPair h₂ TO a b:=ou.extBut _ _ D.TOi1 (v_.extBut _ _ D.TOz Kv);refine wpAny_bind (wpAny_seqItems FV rfl ?_);refine wpAny_bind (wpAny_updateSeq_pair FV λh₃ Kw yQ=>?_)
 replace Kw:IsPair h₃ TO x b:=Kw
 replace yQ:Heap.SameBut TO h₂ h₃:=yQ
 refine wpAny_bind (wpAny_letGo (wpAny_pure ?_));refine wpAny_bind (wpAny_bind (wpAny_onRaise ?_));show wpAny _ _ (Builtin.SmallTypes.nextOf (.ref i2) >>= _) _ _ _;refine wpAny_bind ((p2.draws _ hh).item k _ _ _ hy (f2 D.O2 (f2 D.x2 (f2 D.z2 h2 v_) ou) yQ) λy h₄ tk₄ py h2₄ Jc=>wpAny_pure ?_)
 replace Jc:Heap.SameBut i2 h₃ h₄:=Jc
 have Va:IsPair h₄ TO x b:=Jc.extBut _ _ D.TOi2 Kw;refine wpAny_bind (wpAny_seqItems Va rfl ?_);refine wpAny_bind (wpAny_updateSeq_pair Va λh₅ Kx Jd=>?_)
 replace Kx:IsPair h₅ TO x y:=Kx
 replace Jd:Heap.SameBut TO h₄ h₅:=Jd
 refine wpAny_bind (wpAny_letGo (wpAny_pure (wpAny_pure ?_)));refine wpAny_bind (wpAny_seqItems Kx rfl ?_);refine wpAny_bind (wpAny_newTuple ?_);have hsz:h₅.objs.size=s.heap.objs.size:=by rw[Jd.1,Jc.1,yQ.1,ou.1,v_.1]
 have hz₅:IsZip h₅ z TI TO .ellipsis:=Jd.extBut _ _ D.TOz.symm (Jc.extBut _ _ D.i2z.symm (yQ.extBut _ _ D.TOz.symm (ou.extBut _ _ D.i1z.symm Eh)));have hk₅:∀c o,c≠z->c≠TO->c≠i1->c≠i2->s.heap.get? c=some o->h₅.get? c=some o:=λc o c1 c2 c3 c4 e=>
  Jd.extBut _ _ c2 (Jc.extBut _ _ c4 (yQ.extBut _ _ c2 (ou.extBut _ _ c3 (v_.extBut _ _ c1 e))))
 have h1₅:S1 (k+1) h₅:=f1 D.O1 (f1 D.x1 (f1 D.O1 h1₂ yQ) Jc) Jd;have h2₅:S2 (k+1) h₅:=f2 D.O2 h2₄ Jd;have Vb:z<h₅.objs.size:=e_ hz₅;show wpAny _ _ (Builtin.SmallTypes.ownedTupleHandOut (.ref z) (.ref h₅.objs.size) >>= _) _ _ _;refine wpAny_bind ?_;unfold Builtin.SmallTypes.ownedTupleHandOut;have hz₆:IsZip (h₅.push {cls:=.type "tuple",data:=.seq #[x,y]}) z TI TO .ellipsis:=eZ _ hz₅;refine wpAny_bind (wpAny_setField_rec hz₆ (by simp) λh₇ hz₇ hs₇=>?_)
 replace hz₇:IsZip h₇ z TI TO (rawInt h₅.objs.size):=hz₇
 refine wpAny_setField_rec hz₇ (by simp) λh₈ Yd hs₈=>?_
 replace Yd:IsZip h₈ z TI TO (rawInt h₅.objs.size):=Yd
 have up:∀c o,c≠z->h₅.get? c=some o->h₈.get? c=some o:=λc o c1 e=>hs₈.extBut _ _ c1 (hs₇.extBut _ _ c1 (eZ _ e));have hT₈:IsPair h₈ h₅.objs.size x y:=hs₈.extBut _ _ (Cn Vb) (hs₇.extBut _ _ (Cn Vb) (mf _ rfl));have hz8:h₈.objs.size=h₅.objs.size+1:=by rw[hs₈.1,hs₇.1,Er]
 have h1₈:S1 (k+1) h₈:=(p1.draws A hh).frame _ _ _ h1₅ λb hb o e=>up b o (λq=>D.z1 (q▸hb)) e;have h2₈:S2 (k+1) h₈:=(p2.draws A hh).frame _ _ _ h2₅ λb hb o e=>up b o (λq=>D.z2 (q▸hb)) e;rw[hsz] at Yd hT₈ hz8;refine wpAny_pure ⟨_,rfl,?_⟩;show Q (.ref h₅.objs.size) _;rw[hsz];exact hQ x y h₈ tk₄ px py Yd (up _ _ D.TOz Kx) h1₈ h2₈ hT₈ hz8 λc o c1 c2 c3 c4 e=>up c o c1 (hk₅ c o c1 c2 c3 c4 e)
theorem Kz{k:Nat}{a b:Value}{Q:PySem.Fin->Shared->Prop}(hh:A.handled=none)(D:Apart z TI TO i1 i2 qg oQ)(p1:Part prog w i1 qg n1 P1 S1)(p2:Part prog w i2 oQ n2 P2 S2)(hz:IsZip s.heap z TI TO .none)(Ku:IsPair s.heap TI (.ref i1) (.ref i2))(Kv:IsPair s.heap TO a b)(h1:S1 k s.heap)(h2:S2 k s.heap)(Qa:k=n1\/(k<n1/\k=n2))(hE:∀h' tk e,(∀c o,c≠z->c≠TO->c≠i1->c≠i2->s.heap.get? c=some o->h'.get? c=some o)->(∃o,h'.get? e=some o/\o.cls=.type "StopIteration")->E (.ref e) {s with heap:=h',toks:=tk}) :
  wpAny (model prog w) A (Builtin.«zip.__next__» ⟨[.ref z],[]⟩) Q E s:=by
 have f1:∀{m h h' c},c∉qg->S1 m h->Heap.SameBut c h h'->S1 m h':=λ{m h h' c} hc st sb=>(p1.draws A hh).frame m h h' st λb hb o e=>sb.extBut b o (λq=>hc (q▸hb)) e;have f2:∀{m h h' c},c∉oQ->S2 m h->Heap.SameBut c h h'->S2 m h':=λ{m h h' c} hc st sb=>(p2.draws A hh).frame m h h' st λb hb o e=>sb.extBut b o (λq=>hc (q▸hb)) e;show wpAny _ _ (field (.ref z) 2 >>= _) _ _ _;refine wpAny_bind (wpAny_field hz rfl (x:=.bool false) rfl ?_);show wpAny _ _ (field (.ref z) 3 >>= _) _ _ _;refine wpAny_bind (wpAny_field hz rfl (x:=.ref TI) rfl ?_);refine wpAny_bind (wpAny_seqItems Ku rfl ?_);show wpAny _ _ (Builtin.SmallTypes.ownedTupleIsFree (.ref z) >>= _) _ _ _;refine wpAny_bind ?_;unfold Builtin.SmallTypes.ownedTupleIsFree;refine wpAny_bind (wpAny_field hz rfl (x:=.none) rfl (wpAny_pure ?_));simp only[if_true];refine wpAny_bind (wpAny_rule ?_);refine wpAny_bind (wpAny_field hz rfl (x:=.ref TO) rfl ?_);refine wpAny_bind (wpAny_setField_rec hz (by simp) λh₁ Eh v_=>?_)
 replace Eh:IsZip h₁ z TI TO .ellipsis:=Eh
 refine wpAny_bind ?_;simp only[List.zipIdx_cons,List.zipIdx_nil,List.forIn_cons,List.forIn_nil];refine wpAny_bind (wpAny_bind (wpAny_onRaise ?_));show wpAny _ _ (Builtin.SmallTypes.nextOf (.ref i1) >>= _) _ _ _;obtain rfl|⟨eV,rfl⟩:=Qa
 . refine wpAny_bind ((p1.draws _ hh).done _ _ _ (f1 D.z1 h1 v_) λh₂ e ou he=>?_);obtain⟨oe,Qb,Vc⟩:=he;have Ye:IsZip h₂ z TI TO .ellipsis:=ou _ _ D.i1z.symm Eh;have hez:e≠z:=λx=>by subst x;rw[Ye] at Qb;cases Qb;simp at Vc
   refine wpAny_setField_rec Ye (by simp) λh₃ _ yQ=>hE h₃ _ e (λc o c1 _ c3 _ x=>yQ.extBut _ _ c1 (ou _ _ c3 (v_.extBut _ _ c1 x))) ⟨oe,yQ.extBut _ _ hez Qb,Vc⟩
 . refine wpAny_bind ((p1.draws _ hh).item k _ _ _ eV (f1 D.z1 h1 v_) λx h₂ tk₂ px h1₂ ou=>wpAny_pure ?_)
   replace ou:Heap.SameBut i1 h₁ h₂:=ou
   have FV:IsPair h₂ TO a b:=ou.extBut _ _ D.TOi1 (v_.extBut _ _ D.TOz Kv);refine wpAny_bind (wpAny_seqItems FV rfl ?_);refine wpAny_bind (wpAny_updateSeq_pair FV λh₃ Kw yQ=>?_)
   replace yQ:Heap.SameBut TO h₂ h₃:=yQ
   refine wpAny_bind (wpAny_letGo (wpAny_pure ?_));refine wpAny_bind (wpAny_bind (wpAny_onRaise ?_));show wpAny _ _ (Builtin.SmallTypes.nextOf (.ref i2) >>= _) _ _ _;refine wpAny_bind ((p2.draws _ hh).done _ _ _ (f2 D.O2 (f2 D.x2 (f2 D.z2 h2 v_) ou) yQ) λh₄ e Jc he=>?_);obtain⟨oe,Qb,Vc⟩:=he;have hz₄:IsZip h₄ z TI TO .ellipsis:=Jc _ _ D.i2z.symm (yQ.extBut _ _ D.TOz.symm (ou.extBut _ _ D.i1z.symm Eh));have hez:e≠z:=λx=>by subst x;rw[hz₄] at Qb;cases Qb;simp at Vc
   refine wpAny_setField_rec hz₄ (by simp) λh₅ _ Jd=>hE h₅ _ e (λc o c1 c2 c3 c4 x=>Jd.extBut _ _ c1 (Jc _ _ c4 (yQ.extBut _ _ c2 (ou.extBut _ _ c3 (v_.extBut _ _ c1 x))))) ⟨oe,Jd.extBut _ _ hez Qb,Vc⟩
theorem oz{k:Nat}{a b:Value}{Q:(Option Value)->Shared->Prop}(hh:A.handled=none)(D:Apart z TI TO i1 i2 qg oQ)(p1:Part prog w i1 qg n1 P1 S1)(p2:Part prog w i2 oQ n2 P2 S2)(hz:IsZip s.heap z TI TO .none)(Ku:IsPair s.heap TI (.ref i1) (.ref i2))(Kv:IsPair s.heap TO a b)(h1:S1 k s.heap)(h2:S2 k s.heap)(hx:k<n1)(hy:k<n2)(hQ:∀x y h' tk,P1 k x->P2 k y->IsZip h' z TI TO (rawInt s.heap.objs.size)->IsPair h' TO x y->S1 (k+1) h'->S2 (k+1) h'->IsPair h' s.heap.objs.size x y->h'.objs.size=s.heap.objs.size+1 ->
    (∀c o,c≠z->c≠TO->c≠i1->c≠i2->s.heap.get? c=some o->h'.get? c=some o)->Q (some (.ref s.heap.objs.size)) {s with heap:=h',toks:=tk}):wpAny (model prog w) A (pyNext (.ref z)) Q E s:=by
 have hT:s.TypeIs (.ref z) "zip":=⟨_,hz,rfl⟩;unfold pyNext;exact wpAny_bind (wpAny_attempt (wpAny_callSpecial?_slot (name:=Str.ofString "__next__") hT F.slot_zip_next
  (wpAny_call_entry F.slot_zip_next hT F.entry_zip_next
    (FU hh D p1 p2 hz Ku Kv h1 h2 hx hy λx y h' tk q1 q2 a1 a2 a3 a4 a5 a6 a7=>wpAny_pure (hQ x y h' tk q1 q2 a1 a2 a3 a4 a5 a6 a7)) (F.args_zip_next_1 _))))
theorem qh{k:Nat}{a b:Value}{Q:(Option Value)->Shared->Prop}(hh:A.handled=none)(D:Apart z TI TO i1 i2 qg oQ)(p1:Part prog w i1 qg n1 P1 S1)(p2:Part prog w i2 oQ n2 P2 S2)(hz:IsZip s.heap z TI TO .none)(Ku:IsPair s.heap TI (.ref i1) (.ref i2))(Kv:IsPair s.heap TO a b)(h1:S1 k s.heap)(h2:S2 k s.heap)(Qa:k=n1\/(k<n1/\k=n2))(hQ:∀h' tk,(∀c o,c≠z->c≠TO->c≠i1->c≠i2->s.heap.get? c=some o->h'.get? c=some o)->Q none {s with heap:=h',toks:=tk}):wpAny (model prog w) A (pyNext (.ref z)) Q E s:=by
 have hT:s.TypeIs (.ref z) "zip":=⟨_,hz,rfl⟩;unfold pyNext;refine wpAny_bind (wpAny_attempt (wpAny_callSpecial?_slot (name:=Str.ofString "__next__") hT F.slot_zip_next
  (wpAny_call_entry F.slot_zip_next hT F.entry_zip_next (Kz hh D p1 p2 hz Ku Kv h1 h2 Qa λh' tk e hk he=>?_) (F.args_zip_next_1 _))))
 obtain⟨o,ho,hc⟩:=he;refine wpAny_bind (wpAny_isInstance (T:="StopIteration") (b:=true) ⟨o,ho,hc⟩ isSubtype_stop ?_);exact wpAny_pure (hQ _ _ hk)
end
def nJ(i:Int):Prop:=i.natAbs<2 ^ 2000
theorem nJ.of{i:Int}(h1 : -(10 ^ 200)<=i)(h2:i<=10 ^ 200):nJ i:=by
 unfold nJ;have e:(10:Nat) ^ 200<2 ^ 2000:=by decide
 have:i.natAbs<=10 ^ 200:=by
  have e2:((10 ^ 200:Nat):Int)=(10:Int) ^ 200:=by rw[Int.natCast_pow];rfl
  generalize (10:Nat) ^ 200=m at *;rw[<- e2] at h1 h2;omega
 exact XM this e
theorem nJ.bits{i:Int}(h:nJ i):Builtin.Int.intBits i<=2000:=by
 unfold Builtin.Int.intBits;split;exact jL _;have:i.natAbs.log2<2000:=by
  rcases Nat.eq_zero_or_pos i.natAbs with h0|hp
  rw[h0];decide;exact (Nat.log2_lt (Cn hp)).mpr h
 omega
theorem nJ.log{i:Int}(h:nJ i):i.natAbs.log2<9000:=by
 rcases Nat.eq_zero_or_pos i.natAbs with h0|hp
 rw[h0];decide;exact Nat.lt_trans ((Nat.log2_lt (Cn hp)).mpr h) (by decide)
def Nk(i j:Int):Prop:=nJ i/\nJ j
def Nl(i j:Int):Prop:=0<j/\nJ j
def Nn(i j:Int):Prop:=0<=j/\j<=1000/\nJ i
section
theorem KA:fg X (binaryOp .Mult) (rI Nk λi j=>.int (i * j)):=OS λ_ _ _ _ _ _ _ hc q=>
 mul_int q (IntMulOk.of_bits (mm hc.1.bits (by decide)) (mm hc.2.bits (by decide)))
theorem FW:fg X (binaryOp .FloorDiv) (rI Nl λi j=>.int (i / j)):=OS λi j _ _ _ _ _ hc q=>by have h1:(0:Int)<j:=hc.1;exact floordiv_int (by omega) (by rw[Int.fdiv_eq_ediv_of_nonneg i (by omega)];exact q) (.inl (PyProof.noPylong_of_log2 hc.2.log))
theorem KC:fg X (binaryOp .Pow) (rI Nn λi j=>.int (i ^ j.toNat)):=OS λi j _ _ _ _ _ hc q=>pow_int hc.1 (by
 have h1:=hc.2.2.bits;have h2:=hc.2.1;have h0:=hc.1;have e:(2:Int) ^ 27=134217728:=by decide
 have:(Builtin.Int.intBits i:Int) * j<=2000 * 1000:=Int.mul_le_mul (by omega) h2 h0 (by decide);omega) q
end
def FY(x y:T)(q:Rt->Prop):Prop:=match x,y with
 |.int i,.int j=>(nJ i/\nJ j)/\q (.vw (.int (i * j)))
 |_,_=>False
theorem FZ:pJ K (rI Nk λi j=>.int (i * j)) FY:=by intro Z tm O ρ σ H x y v w q Q I h1 h2 h k;unfold FY at h;split at h;exact⟨_,_,h1.int,h2.int,h.1,k _ h.2 _ H (aM.refl H) ⟨I,bf⟩⟩;exact h.elim
def F0(x y:T)(q:Rt->Prop):Prop:=match x,y with
 |.int i,.int j=>(0<j/\nJ j)/\q (.vw (.int (i / j)))
 |_,_=>False
theorem F4:pJ K (rI Nl λi j=>.int (i / j)) F0:=by intro Z tm O ρ σ H x y v w q Q I h1 h2 h k;unfold F0 at h;split at h;exact⟨_,_,h1.int,h2.int,h.1,k _ h.2 _ H (aM.refl H) ⟨I,bf⟩⟩;exact h.elim
def F5(x y:T)(q:Rt->Prop):Prop:=match x,y with
 |.int i,.int j=>(0<=j/\j<=1000/\nJ i)/\q (.vw (.int (i ^ j.toNat)))
 |_,_=>False
theorem F6:pJ K (rI Nn λi j=>.int (i ^ j.toNat)) F5:=by intro Z tm O ρ σ H x y v w q Q I h1 h2 h k;unfold F5 at h;split at h;exact⟨_,_,h1.int,h2.int,h.1,k _ h.2 _ H (aM.refl H) ⟨I,bf⟩⟩;exact h.elim
section
variable{Z:Zc}{a:Expr}{fa fb:FE}
theorem Br(ha:VR X Z a fa)(hb:VR X Z b fb):VP X Z (.BinOp a .Mult b pos) (f2 fa fb FY):=hW KA FZ ha hb
theorem F7(ha:VR X Z a fa)(hb:VR X Z b fb):VP X Z (.BinOp a .FloorDiv b pos) (f2 fa fb F0):=hW FW F4 ha hb
theorem la(ha:VR X Z a fa)(hb:VR X Z b fb):VP X Z (.BinOp a .Pow b pos) (f2 fa fb F5):=hW KC F6 ha hb
end
def iQ(v:Value)(o:Obj)(c:Heap->Prop):Prop:=∀(prog:Program)(w:World)(A:Around)(E:qad)(s:Shared)(Q:qad),c s.heap ->
 Q (.ref s.heap.objs.size) {s with heap:=s.heap.push o}->wpAny (model prog w) A (pyIter v) Q E s
theorem xc(l:Addr)(items:Array Value):iQ (.ref l) {cls:=.type "list_iterator",data:=.fields #[.ref l,.int 0 0]} (λh=>h.IsList l items):=λ_ _ _ _ _ _ h q=>wpAny_pyIter_list h q
theorem uL(l:Addr)(items:Array Value):iQ (.ref l) {cls:=.type "tuple_iterator",data:=.fields #[.ref l,.int 0 0]} (λh=>h.IsTuple l items):=λ_ _ _ _ _ _ h q=>wpAny_pyIter_tuple h q
theorem zI(x:Str)(t:Tok):iQ (.str x t) {cls:=.type (strIterType x),data:=.fields #[.str x t,.int 0 0]} (λ_=>True):=λ_ _ _ _ _ _ _ q=>wpAny_pyIter_strU q
noncomputable abbrev Yf(h:Heap)(o1 o2:Obj):Heap:=((h.push o1).push o2).push {cls:=.type "tuple",data:=.seq #[.ref h.objs.size,.ref (h.push o1).objs.size]}
noncomputable abbrev Yg(h:Heap)(o1 o2:Obj):Heap:=(Yf h o1 o2).push {cls:=.type "tuple",data:=.seq #[.none,.none]}
noncomputable abbrev Qc(h:Heap)(o1 o2:Obj):Heap:=(Yg h o1 o2).push {cls:=.type "zip",data:=.fields #[.none,.bool false,.bool false,.ref ((h.push o1).push o2).objs.size,.ref (Yf h o1 o2).objs.size]}
theorem zJ{v1 v2:Value}{o1 o2:Obj}{c1 c2:Heap->Prop}(i1:iQ v1 o1 c1)(i2:iQ v2 o2 c2)(F8:∀h o,c2 h->c2 (h.push o)) :
  Meets (Builtin.«zip.__new__» ⟨[.type "zip",v1,v2],[]⟩) (λ_ R s=>c1 s.heap/\c2 s.heap /\
   R (.ok (.ret (.ref (Yg s.heap o1 o2).objs.size))) {s with heap:=Qc s.heap o1 o2}) :=
 .of_wp λprog w A R s h=>by
  obtain⟨hp,g,d,tk,os⟩:=s;obtain⟨Ek,Eg,h⟩:=h;have aci:=sub_zip;have hC2:=F8 _ o1 Eg;have I1:∀(A:Around)(E:qad)(Q:qad),Q (.ref hp.objs.size) ⟨hp.push o1,g,d,tk,os⟩->wpAny (model prog w) A (pyIter v1) Q E ⟨hp,g,d,tk,os⟩:=λA E Q q=>i1 prog w A E _ Q Ek q;have I2:∀(A:Around)(E:qad)(Q:qad),Q (.ref (hp.push o1).objs.size) ⟨(hp.push o1).push o2,g,d,tk,os⟩->wpAny (model prog w) A (pyIter v2) Q E ⟨hp.push o1,g,d,tk,os⟩:=λA E Q q=>i2 prog w A E _ Q hC2 q
  wp_walk using I1,I2
  exact⟨_,rfl,h⟩
section
theorem C5{v1 v2:Value}{o1 o2:Obj}{c1 c2:Heap->Prop}(i1:iQ v1 o1 c1)(i2:iQ v2 o2 c2)(F8:∀h o,c2 h->c2 (h.push o))(h1:c1 s.heap)(h2:c2 s.heap)(hf1:o1.isFreed=false)(hf2:o2.isFreed=false)(h:∀h',IsZip h' (s.heap.objs.size+4) (s.heap.objs.size+2) (s.heap.objs.size+3) .none->IsPair h' (s.heap.objs.size+2) (.ref s.heap.objs.size) (.ref (s.heap.objs.size+1)) ->
    IsPair h' (s.heap.objs.size+3) .none .none->h'.get? s.heap.objs.size=some o1->h'.get? (s.heap.objs.size+1)=some o2->h'.objs.size=s.heap.objs.size+5 ->
    (∀c o,s.heap.get? c=some o->h'.get? c=some o)->Q (.ref (s.heap.objs.size+4)) {s with heap:=h'}) :
  wpAny (model prog w) A (call (.type "zip") [v1,v2]) Q E s:=by
 refine callType_new F.called_zip (by decide) (F.typeCall_zip_2 _ _) (F.newCall_zip_2 _ _) (λobj=>F.args_object_init_3 obj _ _) F.entry_zip_new
  (zJ i1 i2 F8) ⟨h1,h2,?_⟩
 have z1:(s.heap.push o1).objs.size=s.heap.objs.size+1:=Er ..;have z2:((s.heap.push o1).push o2).objs.size=s.heap.objs.size+2:=by rw[Er,z1]
 have z3:(Yf s.heap o1 o2).objs.size=s.heap.objs.size+3:=by rw[Er,z2]
 have z4:(Yg s.heap o1 o2).objs.size=s.heap.objs.size+4:=by rw[Er,z3]
 have z5:(Qc s.heap o1 o2).objs.size=s.heap.objs.size+5:=by rw[Er,z4]
 have g5:(Qc s.heap o1 o2).get? (Yg s.heap o1 o2).objs.size=some _:=mf _ rfl;have g4:(Qc s.heap o1 o2).get? (Yf s.heap o1 o2).objs.size=some _:=eZ _ (mf _ rfl);have g3:(Qc s.heap o1 o2).get? ((s.heap.push o1).push o2).objs.size=some _:=eZ _ (eZ _ (mf _ rfl));have g2:(Qc s.heap o1 o2).get? (s.heap.push o1).objs.size=some _:=eZ _ (eZ _ (eZ _ (mf _ hf2)));have g1:(Qc s.heap o1 o2).get? s.heap.objs.size=some _:=eZ _ (eZ _ (eZ _ (eZ _ (mf _ hf1))));show _/\_;rw[z2,z3,z4] at g5;rw[z1,z2] at g3;rw[z3] at g4;rw[z1] at g2;rw[z4];exact⟨⟨_,g5,rfl⟩,h _ g5 g3 g4 g1 g2 z5 λc o x=>
  eZ _ (eZ _ (eZ _ (eZ _ (eZ _ x))))⟩
end
structure C6(P:Program)(w:World)(K:qaf)(i:Addr)(fp:qah)(sq:Hp->qak->Prop)(it:Nat->Heap->Prop):Prop where
 part:∀(X:Cx)(pins:qaa)(σ:St)(H:Hp)(s:Shared),X.prog=P->X.w=w->X.K=K->Inv X pins σ H s->∀xs,sq H xs ->
  ∃(Pv:Nat->Value->Prop)(S:Nat->Heap->Prop),Part P w i fp xs.length Pv S/\(∀k v,Pv k v->∃x,xs[k]?=some x/\RelV x v)/\(∀k h,S k h->it k h)/\∀k,it k s.heap->S k s.heap
 keep:∀k h h',it k h->(∀o,h.get? i=some o->h'.get? i=some o)->it k h'
 obj:∀k h,it k h->∃o,h.get? i=some o/\∀v,o.data≠.cell v
 inj:∀(X:Cx)(pins:qaa)(σ:St)(H:Hp)(s:Shared),X.K=K->Inv X pins σ H s->∀xs ys,sq H xs->sq H ys->xs=ys
theorem src_list(i l:Addr)(fE:l≠i):C6 P w K i [i,l] (λH xs=>fW K H l xs) (λk h=>h.IsListIter i l k) where
 part:=λX pins σ H s hP hw hK I xs hq=>by
  subst hP hw hK;obtain⟨aN,rv,p,hz⟩:=I.list hq;have e:aN.toArray.size=xs.length:=by simp[rv.length]
  refine⟨_,_,e▸C4 i l fE aN.toArray,λk v hv=>?_,λk h st=>st.1,λk st=>⟨st,p.isList⟩⟩;have wC:aN[k]?=some v:=by simpa using hv
  have hk:k<xs.length:=by rw[<- e];simp;exact (eB.mp wC).1
  obtain⟨u,hu,ru⟩:=rv.get (show xs[k]?=some xs[k] by simp);rw[wC] at hu;cases hu;exact⟨_,by simp,ru⟩
 keep:=λk h h' st q=>st.at q
 obj:=λk h st=>let ⟨o,e,_,d⟩:=st;⟨o,e,λv z=>by rw[d] at z;cases z⟩
 inj:=λX pins σ H s hK I xs ys h1 h2=>by subst hK;exact I.kK h1 h2
theorem src_tuple(i l:Addr)(fE:l≠i):C6 P w K i [i,l] (λH xs=>dU K H l xs) (λk h=>h.IsTupleIter i l k) where
 part:=λX pins σ H s hP hw hK I xs hq=>by
  subst hP hw hK;obtain⟨aN,rv,p,hz⟩:=I.tuple hq;have e:aN.toArray.size=xs.length:=by simp[rv.length]
  refine⟨_,_,e▸zH i l fE aN.toArray,λk v hv=>?_,λk h st=>st.1,λk st=>⟨st,p⟩⟩;have wC:aN[k]?=some v:=by simpa using hv
  have hk:k<xs.length:=by rw[<- e];simp;exact (eB.mp wC).1
  obtain⟨u,hu,ru⟩:=rv.get (show xs[k]?=some xs[k] by simp);rw[wC] at hu;cases hu;exact⟨_,by simp,ru⟩
 keep:=λk h h' st q=>let ⟨o,e,r⟩:=st;⟨o,q o e,r⟩
 obj:=λk h st=>let ⟨o,e,_,d⟩:=st;⟨o,e,λv z=>by rw[d] at z;cases z⟩
 inj:=λX pins σ H s hK I xs ys h1 h2=>by subst hK;exact I.jf h1 h2
def zK(x:Str):qak:=x.cps.toList.map λc=>.str ⟨#[c]⟩
theorem KD(i:Addr)(x:Str)(t:Tok):C6 P w K i [i] (λ_ xs=>xs=zK x) (λk h=>h.IsStrIter i (strIterType x) x t k) where
 part:=λX pins σ H s hP hw hK I xs hq=>by
  subst hP hw hK hq;have e:x.cps.size=(zK x).length:=by unfold zK;simp
  refine⟨_,_,e▸FT i x t,λk v hv=>?_,λk h st=>st,λk st=>st⟩;obtain⟨c,u,h1,rfl⟩:=hv;exact⟨.str ⟨#[c]⟩,by unfold zK;rw[jC];simp[h1],u,rfl⟩
 keep:=λk h h' st q=>let ⟨o,e,r⟩:=st;⟨o,q o e,r⟩
 obj:=λk h st=>let ⟨o,e,_,d⟩:=st;⟨o,e,λv z=>by rw[d] at z;cases z⟩
 inj:=λX pins σ H s hK I xs ys h1 h2=>by rw[h1,h2]
section
theorem KG{ch:qah}(I:Inv X pins σ H s)(k:∀b u,b∉ch->s.heap.get? b=some u->h'.get? b=some u)(hf:∀b∈ch,mw X pins H b):Inv X pins σ H {s with heap:=h',toks:=t'}:=by
 have Ew:∀b u,H b=some u->b∉ch:=λb u e z=>by rw[(hf b z).1] at e;cases e
 refine I.step (g':=s.gens) (d':=s.drawn) (ch:=ch) (λb hb=>?_) (λb u _ _ hc e _=>k b u hc e) (λb u _ _ hc e _=>⟨u.slots,k b u hc e⟩) (λb u _ e n=>n) (λb u hc e=>⟨u,k b u hc e⟩)
  (λb xs e=>e) (λb u v e=>e) (λb ps e=>⟨#[],?_⟩) (λm hm=>?_) (λb u e=>?_) I.bare
 obtain⟨_,f1,_,f3,f4,f5⟩:=hf b hb;exact⟨f3,f1,f4,f5⟩;rw[e];simp;obtain⟨ob,es,ep,ho,r⟩:=hm;exact⟨ob,es,ep,k _ ob (λz=>(hf _ z).2.1 rfl) ho,r⟩;refine (I.cm b u e).yX (λc v hc q=>k c v ?_ q) (λc q=>q) λc xs q=>q;obtain z|z:=hc
 rw[z];exact Ew b u e;exact Ew c _ z
end
def Itz(zL zM:Hp->qak->Prop):It :=
 ⟨λi H=>∃xs ys,zL H xs/\zM H ys/\i<xs.length/\i<ys.length,λi H v H'=>∃t x y,H t=none/\v=.ref t/\(∀xs,zL H xs->xs[i]?=some x)/\(∀ys,zM H ys->ys[i]?=some y)/\H'=upd H t (.tup [x,y]),
  λi H=>∃xs ys,zL H xs/\zM H ys/\(i=xs.length\/(i<xs.length/\i=ys.length))⟩
theorem F9{x1}{z TI TO i1 i2:Addr}{qg oQ:qah}{zL zM:Hp->qak->Prop}{t1 t2:Nat->Heap->Prop}(D:Apart z TI TO i1 i2 qg oQ)(p1:C6 P w K i1 qg zL t1)(p2:C6 P w K i2 oQ zM t2) :
  Turn P w K (.Tuple elts x1 tp) (Itz zL zM) [z,TI,TO,i1,i2] z (λi h=>IsZip h z TI TO .none/\IsPair h TI (.ref i1) (.ref i2)/\(∃a b,IsPair h TO a b)/\t1 i h/\t2 i h) where
 mem:=by simp
 obj:=λi h st b hb=>by
  obtain⟨h1,h2,⟨a,c,h3⟩,h4,h5⟩:=st;simp only[c7,gE,or_false] at hb;obtain rfl|rfl|rfl|rfl|rfl:=hb
  exact⟨_,h1,λv q=>by cases q⟩;exact⟨_,h2,λv q=>by cases q⟩;exact⟨_,h3,λv q=>by cases q⟩;exact p1.obj i h h4;exact p2.obj i h h5
 keep:=λi h h' st k=>by obtain⟨h1,h2,⟨a,c,h3⟩,h4,h5⟩:=st;exact⟨k z (by simp) _ h1,k TI (by simp) _ h2,⟨a,c,k TO (by simp) _ h3⟩,p1.keep i h h' h4 λo q=>k i1 (by simp) o q,p2.keep i h h' h5 λo q=>k i2 (by simp) o q⟩
 item:=by
  intro X hP hw hK hc i pins s σ H E I hf st hg;obtain⟨xs,ys,Yh,KH,l1,l2⟩:=hg;obtain⟨h1,h2,⟨a,c,h3⟩,h4,h5⟩:=st;obtain⟨P1,S1,q1,v1,b1,f1⟩:=p1.part X pins σ H s hP hw hK I xs Yh;obtain⟨P2,S2,q2,v2,b2,f2⟩:=p2.part X pins σ H s hP hw hK I ys KH;refine oz (I.ok.hd hc) D q1 q2 h1 h2 h3 (f1 i h4) (f2 i h5) l1 l2 λx y h₁ tk px py Eh acj s1 s2 hp₁ hsz hk=>?_;obtain⟨x',ex,rx⟩:=v1 i x px;obtain⟨y',ey,ry⟩:=v2 i y py;refine⟨_,rfl,wpAny_letOwnedTupleGo_zip Eh λh₂ Ye ou=>?_⟩;have kT:Heap.SameBut z h₁ h₂:=ou;have eV:z<s.heap.objs.size:=e_ h1;have UG:s.heap.objs.size≠z:=Cn eV;have kk:∀b ob,b∉[z,TI,TO,i1,i2]->s.heap.get? b=some ob->h₂.get? b=some ob:=λb ob hb q=>by simp only[c7,gE,or_false,not_or] at hb;exact (kT.2 b hb.1).trans (hk b ob hb.1 hb.2.2.1 hb.2.2.2.1 hb.2.2.2.2 q)
  have new:cw X.prog X.w (upd H s.heap.objs.size (.tup [x',y'])) h₂ s.heap.objs.size (.tup [x',y']) :=
   ⟨by show 2<=sizeLine;rw[sizeLine_eq];decide,[x,y],.cons rx (.cons ry .nil),⟨_,(kT.2 _ UG).trans hp₁,rfl,_,rfl⟩⟩
  refine⟨.ref s.heap.objs.size,upd H s.heap.objs.size (.tup [x',y']),I.grown (t':=tk) kk hf (cO _) new,rfl,⟨_,x',y',I.fresh,rfl,λzs hz=>by rw[p1.inj X pins σ H s hK I _ _ hz Yh];exact ex,λzs hz=>by rw[p2.inj X pins σ H s hK I _ _ hz KH];exact ey,rfl⟩,⟨Ye,?_,⟨x,y,?_⟩,?_,?_⟩,λb hb=>?_⟩;exact (kT.2 TI D.TIz).trans (hk TI _ D.TIz D.TITO D.TIi1 D.TIi2 h2);exact (kT.2 TO D.TOz).trans acj;exact p1.keep _ _ _ (b1 _ _ s1) λo q=>(kT.2 i1 D.i1z).trans q;exact p2.keep _ _ _ (b2 _ _ s2) λo q=>(kT.2 i2 D.i2z).trans q;have MX:b<s.heap.objs.size:=by
   simp only[c7,gE,or_false] at hb;obtain rfl|rfl|rfl|rfl|rfl:=hb
   exact eV;exact e_ h2;exact e_ h3;obtain⟨o,e,_⟩:=p1.obj i _ h4;exact e_ e;obtain⟨o,e,_⟩:=p2.obj i _ h5;exact e_ e
  rw[aC (jK MX)];exact (hf b hb).1
 done:=by intro X hP hw hK hc i pins s σ H E I hf st hg;obtain⟨xs,ys,Yh,KH,he⟩:=hg;obtain⟨h1,h2,⟨a,c,h3⟩,h4,h5⟩:=st;obtain⟨P1,S1,q1,v1,b1,f1⟩:=p1.part X pins σ H s hP hw hK I xs Yh;obtain⟨P2,S2,q2,v2,b2,f2⟩:=p2.part X pins σ H s hP hw hK I ys KH;refine qh (I.ok.hd hc) D q1 q2 h1 h2 h3 (f1 i h4) (f2 i h5) he λh' tk hk=>⟨rfl,?_⟩;refine KG (t':=tk) I (λb u hb q=>?_) hf;simp only[c7,gE,or_false,not_or] at hb;exact hk b u hb.1 hb.2.2.1 hb.2.2.2.1 hb.2.2.2.2 q
 self:=λ_ _ _ _ _ st h=>by obtain⟨h1,_⟩:=st;exact wpAny_pyIter_zip h1 h
inductive ZK(K:qaf)(H:Hp):V->(Hp->qak->Prop)->Prop where
 |lst {a:Addr} {xs:qak}:fW K H a xs->ZK K H (.ref a) (λH xs=>fW K H a xs)
 |tup {a:Addr} {xs:qak}:dU K H a xs->ZK K H (.ref a) (λH xs=>dU K H a xs)
 |str (z:Str):ZK K H (.str z) (λ_ xs=>xs=zK z)
theorem Np{x:V}{sq:Hp->qak->Prop}(I:Inv X pins σ H s)(z:ZK X.K H x sq)(r:RelV x u) :
  ∃(o:Obj)(c:Heap->Prop)(fp:qah)(it:Addr->Nat->Heap->Prop),iQ u o c/\c s.heap/\(∀h o,c h->c (h.push o))/\o.isFreed=false/\(∀b∈fp,b<s.heap.objs.size) /\
   ∀i,s.heap.objs.size<=i->C6 X.prog X.w X.K i (i::fp) sq (it i)/\∀h,h.get? i=some o->it i 0 h:=by
 cases z with
 |lst hq=>
   rename_i a xs
   cases r;obtain⟨aN,rv,p,hz⟩:=I.list hq;have hl:a<s.heap.objs.size:=by obtain⟨o,n,e,_⟩:=p;exact e_ e
   refine⟨_,_,[a],λi k h=>h.IsListIter i a k,xc a aN.toArray,p.isList,λh o q=>Heap.IsList.push q _,rfl,λb hb=>by rw[eX.mp hb];exact hl,λi hi=>⟨src_list i a (jK (sI hl hi)),λh e=>⟨_,e,rfl,rfl⟩⟩⟩
 |tup hq=>
   rename_i a xs
   cases r;obtain⟨aN,rv,p,hz⟩:=I.tuple hq;have hl:a<s.heap.objs.size:=by obtain⟨o,e,_⟩:=p;exact e_ e
   refine⟨_,_,[a],λi k h=>h.IsTupleIter i a k,uL a aN.toArray,p,λh o q=>(let ⟨o',e,r⟩:=q;⟨o',eZ _ e,r⟩),rfl,λb hb=>by rw[eX.mp hb];exact hl,λi hi=>⟨src_tuple i a (jK (sI hl hi)),λh e=>⟨_,e,rfl,rfl⟩⟩⟩
 |str z=>obtain⟨t,rfl⟩:=r;refine⟨_,_,[],λi k h=>h.IsStrIter i (strIterType z) z t k,zI z t,trivial,λ_ _ _=>trivial,rfl,λb hb=>?_,λi hi=>⟨KD i z t,λh e=>⟨_,e,rfl,rfl⟩⟩⟩;cases hb
theorem nn{a b:Nat}(h:a<b):a≠b:=jK h
theorem F_{qg oQ:qah}(h1:∀b∈qg,b<n)(h2:∀b∈oQ,b<n):Apart (n+4) (n+2) (n+3) n (n+1) (n::qg) ((n+1)::oQ):=by
 have k1:∀b:Nat,n<b->b∉(n::qg):=λb hb m=>by
  rcases c7.mp m with q|q
  exact Cn hb q;exact Eb _ (Nat.lt_trans hb (h1 b q))
 have k2:∀b:Nat,n+1<b->b∉((n+1)::oQ):=λb hb m=>by
  rcases c7.mp m with q|q
  exact Cn hb q;exact Eb _ (Nat.lt_trans (Nat.lt_trans (wj n) hb) (h2 b q))
 have k3:n∉((n+1)::oQ):=λm=>by
  rcases c7.mp m with q|q
  exact jK (wj n) q;exact Eb _ (h2 n q)
 exact⟨nn (by omega),nn (by omega),nn (by omega),nn (by omega),nn (by omega),(nn (by omega)).symm,(nn (by omega)).symm,(nn (by omega)).symm,(nn (by omega)).symm,nn (by omega),k1 _ (by omega),k2 _ (by omega),k1 _ (by omega),k2 _ (by omega),k1 _ (by omega),k3⟩
theorem KI{c:Nat}(h:c∈[n+4,n+2,n+3,n,n+1]):n<=c:=by simp only[c7,gE,or_false] at h;omega
def ack(K:qaf)(ta:TA):TI:=λσ H R=>ta σ H λvs H1=>∃x y zL zM,vs=[x,y]/\ZK K H1 x zL/\ZK K H1 y zM/\R (Itz zL zM) H1
section
variable{Z:Zc}
theorem boot_zip:bootBuiltins "zip"=some (.type "zip"):=by decide +kernel
theorem Qd{x1}{a:Expr}{ta:TA}(hg:Gl X "zip")(hm:X.mg "zip"=none)(ha:PA X [a,b] ta)(hs:starEach [a,b] X.env=[(false,eval a X.env),(false,eval b X.env)])(CG:starEach [b] X.env=[(false,eval b X.env)]) :
  PI X (.Tuple elts x1 tp) (.Call (.Name "zip" p) [a,b] [] pos) (ack X.K ta):=by
 intro pins s σ H R I h;refine Call_ (j6 I hg hm boot_zip (Th (b_ (ha pos pins s σ H _ I h) λus s1 ⟨vs,H1,I1,r1,q1⟩=>?_) (by rw[hs,CG]) (by rw[CG];rfl)));obtain⟨x,y,zL,zM,e,k1,k2,q⟩:=q1;subst e;obtain⟨u,w',rfl,ru,rw'⟩:=vals2 r1;obtain⟨o1,c1,qg,t1,i1,Ek,hp1,hf1,SQ,z1⟩:=Np I1 k1 ru;obtain⟨o2,c2,oQ,t2,i2,Eg,F8,hf2,Nq,z2⟩:=Np I1 k2 rw';refine C5 i1 i2 F8 Ek Eg hf1 hf2 λh' hz Ku Kv g1 g2 hsz hk=>?_;have I2:Inv X pins σ H1 {s1 with heap:=h'}:=I1.kept (t':=s1.toks) hk;refine wpAny_pyIter_zip hz ?_;obtain⟨S1,a1⟩:=z1 s1.heap.objs.size (cO _);obtain⟨S2,a2⟩:=z2 (s1.heap.objs.size+1) (IX _);have D:Apart (s1.heap.objs.size+4) (s1.heap.objs.size+2) (s1.heap.objs.size+3) s1.heap.objs.size (s1.heap.objs.size+1) (s1.heap.objs.size::qg) ((s1.heap.objs.size+1)::oQ):=by exact F_ SQ Nq
 refine⟨s1.heap.objs.size+4,_,_,_,H1,rfl,I2,F9 D S1 S2,⟨hz,Ku,⟨_,_,Kv⟩,a1 _ g1,a2 _ g2⟩,λc hc=>?_,q⟩;have hge:s1.heap.objs.size<=c:=KI hc;exact I1.oh hge (I1.cm.fresh hge)
noncomputable def Qe:T->Option (List T)
 |.lst ts=>some ts
 |.tup ts=>some ts
 |.str z=>some (z.cps.toList.map λc=>.str ⟨#[c]⟩)
 |_=>none
noncomputable def zN(xs ys:List T):List T:=List.zipWith (λa b=>.tup [a,b]) xs ys
noncomputable def acm(fa fb:FE):FI:=λρ Q=>fa ρ λx=>fb ρ λy=>match Qe x,Qe y with
 |some xs,some ys=>Q (zN xs ys)
 |_,_=>False
theorem Nr{A:qah}{x:T}{xs:List T}(h:At K H A x v)(e:Qe x=some xs):∃sq,ZK K H v sq/\∀H A,At K H A x v->∃vs,sq H vs/\aB K H A xs vs:=by
 cases x with
 |lst ts=>cases e;simp only[At] at h;obtain⟨a,vs,rfl,l,q⟩:=h;refine⟨_,.lst l.sq,λH A h=>?_⟩;simp only[At] at h;obtain⟨a',jG,e,l',q'⟩:=h;cases e;exact⟨jG,l'.sq,q'⟩
 |tup ts=>cases e;simp only[At] at h;obtain⟨a,vs,rfl,l,q⟩:=h;refine⟨_,.tup l,λH A h=>?_⟩;simp only[At] at h;obtain⟨a',jG,e,l',q'⟩:=h;cases e;exact⟨jG,l',q'⟩
 |str z=>
  cases e;simp only[At] at h;subst h;refine⟨_,.str z,λH A h=>⟨zK z,rfl,?_⟩⟩;unfold zK;generalize z.cps.toList=l;induction l with
  |nil=>exact aB.nil
  |cons c l ih=>exact aB.cons cS ih
 |_=>cases e
theorem Qf{x y:T}{w:V}{xs ys:List T}{zL zM:Hp->qak->Prop}(h1:∀H A,At K H A x v->∃vs,zL H vs/\aB K H A xs vs)(h2:∀H A,At K H A y w->∃vs,zM H vs/\aB K H A ys vs) :
  Wk K (Itz zL zM) [(x,v),(y,w)] (zN xs ys):=λH A hA h i=>by
 obtain⟨vs,q1,l1⟩:=h1 H A (h _ dG);obtain⟨ws,q2,l2⟩:=h2 H A (h _ (gD _ dG));have e1:=l1.length;have e2:=l2.length;have el:(zN xs ys).length=min xs.length ys.length:=by unfold zN;rw[XH]
 rw[el];refine⟨λhi=>⟨vs,ws,q1,q2,by omega,by omega⟩,λhi=>⟨vs,ws,q1,q2,by omega⟩,λt ht x H' y=>?_⟩;obtain⟨p,a,b,hp,rfl,ha,hb,rfl⟩:=y;unfold zN at ht;rw[List.getElem?_zipWith] at ht;cases ex:xs[i]? with
 |none=>rw[ex] at ht;cases ht
 |some tx=>
   cases ey:ys[i]? with
   |none=>rw[ex,ey] at ht;cases ht
   |some ty=>rw[ex,ey] at ht;cases ht;obtain⟨v1,g1,g2⟩:=l1.get ex;obtain⟨v2,g3,g4⟩:=l2.get ey;have z1:=ha vs q1;have z2:=hb ws q2;rw[g1] at z1;rw[g3] at z2;cases z1;cases z2;exact⟨aH hp,cf (dU.of aG) (aB.cons (g2.same (aH hp)) (aB.cons (g4.same (aH hp)) aB.nil))⟩
theorem Qg{x1}{a:Expr}{fa fb:FE}(hg:Gl X "zip")(hm:X.mg "zip"=none)(ha:VE X Z a fa)(hb:VE X Z b fb)(hs:starEach [a,b] X.env=[(false,eval a X.env),(false,eval b X.env)]:=by rfl)(CG:starEach [b] X.env=[(false,eval b X.env)]:=by rfl) :
  VI X Z (.Tuple elts x1 tp) (.Call (.Name "zip" p) [a,b] [] pos) (acm fa fb):=.mk λtm=>
 PI.weak (Qd hg hm (bt (ha tm) (bt (hb tm) cC CG) (by rw[hs,CG])) hs CG) λσ H R ⟨ρ,O,q,I,hf,k⟩=>⟨ρ,O,_,I,hf,λx hx v H1 s1 a1=>⟨ρ,O,_,I.same s1,hx,λy hy w H2 s2 a2=>by
  split at hy
  rename_i xs ys e1 e2
  obtain⟨zL,k1,w1⟩:=Nr (a1.same s2) e1;obtain⟨zM,k2,w2⟩:=Nr a2 e2;exact⟨v,w,zL,zM,rfl,k1,k2,k _ hy _ H2 _ (s1.trans s2) (λp hp=>by
   rcases c7.mp hp with e|hp
   rw[e];exact a1.same s2;rw[eX.mp hp];exact a2) (Qf w1 w2)⟩
  exact hy.elim⟩⟩
end
end VT
variable{Z:VT.Zc}{ρ:VT.En}{fa fb fe:VT.FE}{tm:List (VT.T×L2.V)}{g:VT.FA}
abbrev qab:=List (VT.T×L2.V)
abbrev qaj:=List VT.T
abbrev qam:=VT.Rt->Prop
abbrev qas:=@VT.VP.vr
abbrev qat:=@VT.VP.ve
abbrev qau:=@VT.VP.vx
namespace HE
open PySem PySem.W PySem.Calls PyProof.Rows
noncomputable def oR(tb:String->Option Builtin)(p:Program)(w:World)(n₀:Nat)(ann:Option Value):Nat->SharedT->Thread->Option SharedT
 |0,_,_=>none
 |n+1,s,t=>match through t with
  |true=>some s
  |false=>match stepOk n₀ ann t with
   |false=>none
   |true=>match stepT (denote tb) p w s t with
    |some (s',t')=>oR tb p w n₀ ann n s' t'
    |none=>none
theorem sZ{tb:String->Option Builtin}{p:Program}{w:World}{n₀:Nat}{ann:Option Value}:∀{n:Nat}{s s':SharedT}{t:Thread},oR tb p w n₀ ann n s t=some s'->topRun tb p w n₀ ann n s.abs t=some s'.abs
 |0,_,_,_,h=>by cases h
 |n+1,s,s',t,h=>by
  unfold oR at h;unfold topRun;cases ht:through t with
  |true=>rw[ht] at h;cases h;rfl
  |false=>
   rw[ht] at h;cases hk:stepOk n₀ ann t with
   |false=>rw[hk] at h;cases h
   |true=>
    rw[hk] at h;cases hs:stepT (denote tb) p w s t with
    |none=>rw[hs] at h;cases h
    |some r=>obtain⟨s₂,t₂⟩:=r;rw[hs] at h;rw[stepT_spec hs];exact sZ h
noncomputable def mkT(l:List Obj):BT:=(l.foldl (λ(p:BT×Nat) o=>(p.1.ins p.2 o,p.2+1)) (.nil,0)).1
noncomputable def d9(P:Params):BT:=mkT (boot_heap P).objs.toList
noncomputable def st0(T:BT)(os:OsState):SharedT:=⟨T,11,{},Array.mk [],boot_drawn,boot_toks,os⟩
theorem boot_abs(P:Params):absHeap (d9 P) 11 {}=boot_heap P:=by kernel_rfl
theorem C7(P:Params):((boot_heap P).isNs mainGlobals,(boot_heap P).objs.size,(boot_heap P).nsMap mainGlobals "__annotations__")=(true,11,some (.ref 6)):=by kernel_rfl
noncomputable def Qh(p:Program)(T:BT)(w:World)(M:Nat)(os:OsState):Option SharedT:=oR treeTable p w 11 (some (.ref 6)) M (st0 T os) (topStub p)
noncomputable def Kf(as:qah)(g:Addr->Option Obj):Frag:=as.filterMap λa=>(g a).map λo=>(a,o)
noncomputable def tg(T:BT)(n:Nat)(a:Addr):Option Obj:=match Nat.blt a n with
 |true=>alive ((T.get a).getD default)
 |false=>none
theorem Vd(T:BT)(n:Nat)(life:Life)(a:Addr):(absHeap T n life).get? a=tg T n a:=by
 unfold tg;cases h:Nat.blt a n with
 |true=>
  have hn:a<n:=Nat.ble_eq.mp h;cases g:T.get a with
  |some o=>rw[abs_get hn g];rfl
  |none=>have e:=absHeap_at T n life a;rw[if_pos hn,g] at e;unfold Heap.get?;rw[e];rfl
 |false=>
  have hn:¬ a<n:=λz=>by have:Nat.blt a n=true:=Nat.ble_eq.mpr z;rw[h] at this;cases this
  exact abs_get_none hn
abbrev KJ(q:Program)(lv:List (Str×WData))(R:WRecords)(s:Shared):Bool:=xlAt q lv s && recOk R s
noncomputable def lookA(p q:Program)(loose:qai)(lv:List (Str×WData))(R:WRecords)(T:BT)(H0:Heap)(w:World)(M:Nat)(os:OsState) :=
 (Qh p T w M os).map λs=>((staticsOk (importedModules p.main.body) H0 s.abs.heap && namesBound p s.abs.heap && gensDone s.abs && laidKept H0 s.abs.heap),
  (openSeen q loose (importedModules p.main.body) (KJ q lv R) true s.abs).1,(openSeen q loose (importedModules p.main.body) (KJ q lv R) true s.abs).2.1)
noncomputable def lookB(p q:Program)(loose:qai)(lv:List (Str×WData))(R:WRecords)(T:BT)(w:World)(M:Nat)(os:OsState) :=
 (Qh p T w M os).map λs=>(openSeen q loose (importedModules p.main.body) (KJ q lv R) true s.abs).2.2
noncomputable def lookC{β:Type}(p:Program)(as:qah)(F:Frag->β)(T:BT)(w:World)(M:Nat)(os:OsState) :=
 (Qh p T w M os).map λs=>F (Kf as (tg s.tree s.n))
noncomputable def uM(p:Program)(N:Nat)(w:World)(a:Addr):Option Obj:=(openEnds treeTable p w N).bind (·.heap.get? a)
theorem head{p q:Program}{loose:qai}{lv:List (Str×WData)}{R:WRecords}{as:qah}{N M:Nat}{β:Type}{F:Frag->β}{v:World->β}(e:opening p=plainProg p.main.scope.names)(hN:Nat.ble 600 N=true)(f:∀s,fenceModules? p s=some s)(le:Nat.ble M N=true)(ra:∀(w:World) (os:OsState),lookA p q loose lv R (d9 w.params) (boot_heap w.params) w M os=some (true,(openGood q loose).1,(openGood q loose).2.1))(rb:∀(w:World) (os:OsState),lookB p q loose lv R (d9 w.params) w M os=some (openGood q loose).2.2)(rc:∀(w:World) (os:OsState),lookC p as F (d9 w.params) w M os=some (v w)) :
  LeftO p q loose (KJ q lv R) (λs=>as.map s.heap.get?) (λw=>as.map (uM p N w)) N/\∀w,F (Kf as (uM p N w))=v w:=by
 have key:∀w,∃s,openEnds treeTable p w N=some s/\openSeen q loose (importedModules p.main.body) (KJ q lv R) true s=openGood q loose/\F (Kf as s.heap.get?)=v w:=λw=>by
  obtain⟨⟨h,gs,d,k,os⟩,e1,e2⟩:=Tn.mp (boot_open e hN f w);obtain⟨rfl,rfl,rfl,rfl⟩:h=boot_heap w.params/\gs=Array.mk []/\d=boot_drawn/\k=boot_toks:=by simpa using e2
  obtain⟨s,r1,r2⟩:=Tn.mp (ra w os);obtain⟨s',r1',rb'⟩:=Tn.mp (rb w os);obtain⟨Ub,acn,rc'⟩:=Tn.mp (rc w os);obtain rfl:s=s':=Option.some.inj (r1.symm.trans r1');obtain rfl:s=Ub:=Option.some.inj (r1.symm.trans acn);have r3:=congrArg (λx=>x.1) r2;have r4:openSeen q loose (importedModules p.main.body) (KJ q lv R) true s.abs=openGood q loose:=Prod.ext (congrArg (λx=>x.2.1) r2) (Prod.ext (congrArg (λx=>x.2.2) r2) rb');have r5:F (Kf as s.abs.heap.get?)=v w:=by rw[show s.abs.heap.get?=tg s.tree s.n from funext λa=>Vd _ _ _ a];exact rc'
  have t1:=sZ r1;have ea:(st0 (d9 w.params) os).abs=⟨boot_heap w.params,Array.mk [],boot_drawn,boot_toks,os⟩:=by show (⟨absHeap (d9 w.params) 11 {},_,_,_,_⟩:Shared)=_;rw[boot_abs];rfl
  rw[ea] at t1;have t2:=topRun_mono (N-M) _ _ _ _ t1;rw[show M+(N-M)=N by have:=Nat.le_of_ble_eq_true le;omega] at t2;have z:=C7 w.params;have z1:=congrArg (λx=>x.1) z;have z2:=congrArg (λx=>x.2.1) z;have z3:=congrArg (λx=>x.2.2) z;refine⟨s.abs,?_,r4,r5⟩;unfold openEnds;rw[e1];show topFrom treeTable p w N _=_;unfold topFrom;dsimp only at z1 z2 z3 ⊢;rw[z1,z2,z3,t2];show (match staticsOk (importedModules p.main.body) (boot_heap w.params) s.abs.heap && namesBound p s.abs.heap && gensDone s.abs && laidKept (boot_heap w.params) s.abs.heap with|true=>_|false=>_)=_;have r3':(staticsOk (importedModules p.main.body) (boot_heap w.params) s.abs.heap && namesBound p s.abs.heap && gensDone s.abs && laidKept (boot_heap w.params) s.abs.heap)=true:=r3;rw[r3']
 refine⟨λw=>?_,λw=>?_⟩;obtain⟨s,a,b,c⟩:=key w;rw[a];have:uM p N w=s.heap.get?:=by funext x;unfold uM;rw[a];rfl
 show some (openSeen q loose (importedModules p.main.body) (KJ q lv R) true s,as.map s.heap.get?)=some (openGood q loose,as.map (uM p N w));rw[b,this];obtain⟨s,a,b,c⟩:=key w;have:uM p N w=s.heap.get?:=by funext x;unfold uM;rw[a];rfl
 rw[this];exact c
theorem kf_in{as:qah}{g:Addr->Option Obj}(e:as.map h.get?=as.map g):(Kf as g).In h:=by
 have key:∀{as:qah},as.map h.get?=as.map g->∀a o,(Kf as g).lookup a=some o->h.get? a=some o:=by
  intro as;induction as with
  |nil=>intro _ a o z;cases z
  |cons x as ih=>
   intro e a o z;rw[gA,gA] at e;injection e with e1 e2
   unfold Kf at z;rw[nv] at z;cases hg:g x with
   |none=>rw[hg] at z;exact ih e2 a o z
   |some o'=>
    rw[hg] at z;simp only[Tw,IP] at z;split at z
    rename_i q
    have:a=x:=by simpa using q
    subst this;cases z;rw[e1,hg];exact ih e2 a o z
 exact λa o z=>key e a o z
theorem Ga{q:Program}{loose:qai}{XP:(qae)->Heap->Prop}{as:qah}{g:World->Addr->Option Obj}{r:RowW}{d:DefRec}{kwd:List (Str×Expr)}{run:Value->qag->Sem Value}(h:WalkO q loose XP (λw h=>(Kf as (g w)).In h) r d kwd run):WalkX q loose XP (λs=>as.map s.heap.get?) (λw=>as.map (g w)) r d kwd run :=
 λw s₀ s₁ mg mb G y a o pm cd doc dV kV h1 h2 h3 h4 h5 h6 args vals sW L CQ Ut hrd Ur hlo=>h w s₀ s₁ mg mb G (λb o' z=>Laid.keeps L _ _ (kf_in y b o' z)) a o pm cd doc dV kV h1 h2 h3 h4 h5 h6 args vals sW CQ Ut hrd Ur hlo
noncomputable def Ve:Stmt->DefRec
 |.FunctionDef n ps b _ _ _ sc _ _ p=>⟨n,ps,b,sc,p⟩
 |_=>⟨Str.empty,default,[],default,default⟩
end HE
variable{GL:qaj->(VT.T->Prop)->Prop}
lay_quick HE.lookA HE.lookB HE.lookC
namespace VT
open PySem PySem.Spec PyProof.Rows L2
theorem Nt{k:Nat}{f1:Addr}(C:cq P w K mg base x ps k sp)(e:mg x=some (.ref f1)):PySem.W.keepIn K (.ref f1)=true/\∃fd ps,Binds K fd ps []/\cp P w K mg base dS k f1 fd ps sp:=by obtain⟨f,fd,h1,h2,h3,F⟩:=C;cases h1.symm.trans e;exact⟨h2,fd,ps,h3,F⟩
section
variable{k k':Nat}{G:qaj->(qam)->Prop}
theorem aP(C:cq X.prog X.w X.K X.mg X.base x ps k (dO X.K n G))(hr:bx k' X.A)(ha:VA X Z (e::es) g)(hg:Gl X x:=by rfl)(hk:k<=k':=by decide)(om:gC x:=by decide)(he:starEach (e::es) X.env=(false,eval e X.env)::starEach es X.env:=by rfl)(iI:(backTo pos (starEach es X.env)).any (·.1)=false:=by rfl) :
  VP X Z (.Call (.Name x p) (e::es) [] pos) (zB n g G):=by
 obtain⟨f,fd,h1,h2,h3,F⟩:=C;exact Bn F (hr.mono hk) hg h1 h2 h3 ha om he iI
end
end VT
namespace L2
open PySem PySem.Spec PyProof.Rows
section
variable{a:Expr}{tb:TE}
variable{tA TK:TT}{rest:qap}
end
section
variable{CX:Ef}{k:Nat}{ks:qai}{E:XK}{m:Str}{Zr:Pos}{kws:List Keyword}{t tk:TA}{nm:Option Str}
variable{g:qag->qag->qag}{gV:qak->qak->qak}
end
section
variable{κ:Type}[DecidableEq κ]
noncomputable def iR(aT:List (κ×V))(k:κ):Option V:=(aT.find? λkv=>decide (kv.1=k)).map (·.2)
noncomputable def putK(aT:List (κ×V))(k:κ)(v:V):List (κ×V) :=
 if (aT.any λkv=>decide (kv.1=k))=true then aT.map (λkv=>if kv.1=k then (kv.1,v) else kv) else aT++[(k,v)]
theorem lb{p:κ×V}{r:List (κ×V)}{k:κ}(e:p.1=k):iR (p::r) k=some p.2:=by simp[iR,SF,e]
theorem lg{p:κ×V}{r:List (κ×V)}{k:κ}(e:¬ p.1=k):iR (p::r) k=iR r k:=by simp[iR,SF,e]
theorem qi(k:κ):∀aT:List (κ×V),(aT.any λkv=>decide (kv.1=k))=(iR aT k).isSome
 |[]=>rfl
 |p::r=>by rw[Es];by_cases e:p.1=k;simp only[lb e,decide_eq_true e,Bool.true_or,Option.isSome_some];rw[lg e,decide_eq_false e,Bool.false_or];exact qi k r
theorem gj(aT:List (κ×V))(k:κ)(v:V):(putK aT k v).length<=aT.length+1:=by unfold putK;split;rw[c6];omega;rw[eC,tX,List.length_nil];omega
theorem Gb{aT:List (κ×V)}{k:κ}(v:V)(h:iR aT k=none):putK aT k v=aT++[(k,v)]:=by unfold putK;rw[qi,h];exact if_neg (by decide)
theorem jD.C8{o:Option V}{u:Option Value}(r:jD o u):o.isSome=u.isSome:=by
 cases o with
 |none=>cases u with
  |none=>rfl
  |some _=>exact (show False from r).elim
 |some _=>cases u with
  |none=>exact (show False from r).elim
  |some _=>rfl
theorem jD.getD{o:Option V}{u:Option Value}{d:V}{d':Value}(r:jD o u)(rd:RelV d d'):RelV (o.getD d) (u.getD d'):=by
 cases o with
 |none=>cases u with
  |none=>exact rd
  |some _=>exact (show False from r).elim
 |some _=>cases u with
  |none=>exact (show False from r).elim
  |some _=>exact r
theorem KV.val{aT:List (κ×V)}{vs:List (κ×Value)}(r:KV aT vs)(k:κ):jD (iR aT k) (valueAt vs k):=by
 unfold KV at r;induction r with
 |nil=>exact True.intro
 |@cons p q ps qs h t ih=>
  obtain⟨h1,h2⟩:=h;by_cases e:p.1=k;have e':q.1=k:=h1.symm.trans e;have b:valueAt (q::qs) k=some q.2:=by simp[valueAt,SF,e']
  rw[lb e,b];exact h2;have e':¬ q.1=k:=λz=>e (h1.trans z);have b:valueAt (q::qs) k=valueAt qs k:=by simp[valueAt,SF,e']
  rw[lg e,b];exact ih
theorem KV.any{aT:List (κ×V)}{vs:List (κ×Value)}(r:KV aT vs)(k:κ):(aT.any λkv=>decide (kv.1=k))=vs.any λkv=>decide (kv.1=k):=by
 unfold KV at r;induction r with
 |nil=>rfl
 |cons h t ih=>rw[Es,Es,ih,h.1]
theorem KV.Qi{aT:List (κ×V)}{vs:List (κ×Value)}(r:KV aT vs)(k:κ){y:V}(ry:RelV y u) :
  KV (aT.map λkv=>if kv.1=k then (kv.1,y) else kv) (vs.map λkv=>if kv.1=k then (kv.1,u) else kv):=by
 unfold KV at r ⊢;induction r with
 |nil=>exact .nil
 |@cons p q ps qs h t ih=>rw[gA,gA];refine .cons ?_ ih;obtain⟨h1,h2⟩:=h;by_cases e:p.1=k;rw[if_pos e,if_pos (h1.symm.trans e)];exact⟨h1,ry⟩;rw[if_neg e,if_neg (λz=>e (h1.trans z))];exact⟨h1,h2⟩
theorem KV.put{aT:List (κ×V)}{vs:List (κ×Value)}(r:KV aT vs)(k:κ){y:V}(ry:RelV y u):KV (putK aT k y) (stored vs k u):=by unfold putK stored;rw[r.any k];by_cases e:(vs.any λkv=>decide (kv.1=k))=true;rw[if_pos e,if_pos e];exact r.Qi k ry;rw[if_neg e,if_neg e];exact Paired.snoc r ⟨rfl,ry⟩
theorem KV.length{aT:List (κ×V)}{vs:List (κ×Value)}(r:KV aT vs):aT.length=vs.length:=Ow r
end
theorem nK{k:Key}(r:RelV (kV k) u):(bA P w).is k u=true:=by
 cases k with
 |inl i=>obtain⟨t,e⟩:=(show ∃t,u=Value.int i t from r);subst e;exact wo P w i t
 |inr x=>obtain⟨t,e⟩:=(show ∃t,u=Value.str x t from r);subst e;exact wq P w x t
theorem s_{P:Program}{w:World}:∀{ks:List Key}{us:qag},Vals (ks.map kV) us->ItemsAre (bA P w) ks us
 |[],_,r=>by rw[IV] at r;cases r;exact .nil
 |k::ks,_,r=>by
  rw[gA] at r;cases r with
  |cons h t=>exact .cons (nK h) (s_ t)
abbrev KT(H:Hp):List (List Key×V)->List (List Key×Addr×Value)->Prop:=Paired λp q=>p.1=q.1/\H q.2.1=some (.tup (p.1.map kV))/\RelV p.2 q.2.2
theorem KT.val{aT:List (List Key×V)}{xs:List (List Key×Addr×Value)}(r:KT H aT xs)(k:List Key):jD (iR aT k) ((atKey xs k).map (·.2)):=by
 induction r with
 |nil=>exact True.intro
 |@cons p q ps qs h t ih=>
  obtain⟨h1,_,h2⟩:=h;by_cases e:p.1=k;have e':q.1=k:=h1.symm.trans e;have b:atKey (q::qs) k=some q.2:=by simp[atKey,SF,e']
  rw[lb e,b];exact h2;have e':¬ q.1=k:=λz=>e (h1.trans z);have b:atKey (q::qs) k=atKey qs k:=by simp[atKey,SF,e']
  rw[lg e,b];exact ih
theorem KT.Qi{aT:List (List Key×V)}{xs:List (List Key×Addr×Value)}(r:KT H aT xs)(k:List Key){y:V}(ry:RelV y u) :
  KT H (aT.map λkv=>if kv.1=k then (kv.1,y) else kv) (xs.map (putAt k u)):=by
 induction r with
 |nil=>exact .nil
 |@cons p q ps qs h t ih=>rw[gA,gA];refine .cons ?_ ih;obtain⟨h1,h2,h3⟩:=h;unfold putAt;by_cases e:p.1=k;rw[if_pos e,if_pos (h1.symm.trans e)];exact⟨h1,h2,ry⟩;rw[if_neg e,if_neg (λz=>e (h1.trans z))];exact⟨h1,h2,h3⟩
theorem KT.put{aT:List (List Key×V)}{xs:List (List Key×Addr×Value)}(r:KT H aT xs)(k:List Key){b:Addr}{y:V}(hb:H b=some (.tup (k.map kV)))(ry:RelV y u) :
  KT H (putK aT k y) (storedH xs k b u):=by
 have e:(aT.any λkv=>decide (kv.1=k))=(atKey xs k).isSome:=by rw[qi,(r.val k).C8,Option.isSome_map]
 unfold putK storedH;rw[e];by_cases q:(atKey xs k).isSome=true;rw[if_pos q,if_pos q];exact r.Qi k ry;rw[if_neg q,if_neg q];exact Paired.snoc r ⟨rfl,hb,ry⟩
theorem KT.keeps{aT:List (List Key×V)}{xs:List (List Key×Addr×Value)}(r:KT H aT xs)(ht:∀b ys,H b=some (.tup ys)->H' b=some (.tup ys)):KT H' aT xs :=
 Paired.mq r λ_ _ z=>⟨z.1,ht _ _ z.2.1,z.2.2⟩
section
theorem Nu{u:HO}(ok:kD P w H h)(e:Rd H a u):cw P w H h a u:=e.ok ok
theorem tq(ok:kD P w H h)(e:Rd H a (.dK aT)):aT.length<=sizeLine/\(a==sysModules)=false/\∃vs,KV aT vs/\h.DictOf (bA P w) a vs :=
 show cw P w H h a (.dK aT) from Nu ok e
theorem xf(ok:kD P w H h)(e:H a=some (.dK aT)):aT.length<=sizeLine/\(a==sysModules)=false/\∃vs,KV aT vs/\h.DictOf (bA P w) a vs:=tq ok (.inl e)
theorem uN(ok:kD P w H h)(e:H a=some (.tup (ks.map kV))):(tupleKind (bA P w)).is h ks a:=by obtain⟨_,aN,r,o,h1,h2,n,h3⟩:=(show cw P w H h a (.tup (ks.map kV)) from ok a _ e);exact⟨o,aN.toArray,n,h1,h2,h3,by simpa using s_ r⟩
theorem xg{aT:List (List Key×V)}(ok:kD P w H h)(e:Rd H a (.dT aT)):aT.length<=sizeLine/\(a==sysModules)=false /\
  ∃xs,KT H aT xs/\h.DictOfH (tupleKind (bA P w)) a xs:=by
 obtain⟨z,y,xs,r,o,es,ep,h1,h2,h3,h4,h5⟩:=(show cw P w H h a (.dT aT) from Nu ok e);refine⟨z,y,xs,r,o,es,ep,h1,h2,h3,h4,λx hx=>?_,h5⟩;have all:∀{l:List (List Key×V)}{m:List (List Key×Addr×Value)},KT H l m->∀x∈m,(tupleKind (bA P w)).is h x.1 x.2.1:=by
  intro l m q;induction q with
  |nil=>intro x hx;exact nomatch hx
  |@cons p q ps qs hq t ih=>
    intro x hx;rcases c7.mp hx with e|hx
    subst e;exact uN ok (by rw[<- hq.1];exact hq.2.1);exact ih x hx
 exact all r x hx
theorem Vf{aT:List (List Key×V)}(ok:kD P w H h)(e:H a=some (.dT aT)):aT.length<=sizeLine/\(a==sysModules)=false /\
 ∃xs,KT H aT xs/\h.DictOfH (tupleKind (bA P w)) a xs:=xg ok (.inl e)
end
def uO(H:Hp)(a:Addr)(y:V)(r:Option V):Prop :=
 (∃aT k,Rd H a (.dK aT)/\y=kV k/\r=iR aT k)\/∃aT k b,Rd H a (.dT aT)/\y=.ref b/\H b=some (.tup (k.map kV))/\r=iR aT k
def C9(H:Hp)(a:Addr)(y v:V)(H':Hp):Prop :=
 (∃aT k,H a=some (.dK aT)/\y=kV k/\aT.length<sizeLine/\H'=upd H a (.dK (putK aT k v))) \/
 ∃aT k b,H a=some (.dT aT)/\y=.ref b/\H b=some (.tup (k.map kV))/\aT.length<sizeLine/\H'=upd H a (.dT (putK aT k v))
theorem uO.k{k:Key}(e:H a=some (.dK aT)):uO H a (kV k) (iR aT k):=.inl ⟨aT,k,.inl e,rfl,rfl⟩
theorem C9.k{k:Key}(e:H a=some (.dK aT))(hl:aT.length<sizeLine):C9 H a (kV k) v (upd H a (.dK (putK aT k v))):=.inl ⟨aT,k,e,rfl,hl,rfl⟩
section
variable{y:V}{r:Value}{o:Option V}
theorem Inv.big(I:Inv X pins σ H s):sysModules<s.heap.objs.size:=by have h:mainGlobals<s.heap.objs.size:=(I.mod.glob.keeps I.bk).lt;exact Nat.lt_trans (by decide) h
theorem C_(hu:A.units+1<cLine)(I:Inv X pins σ H s)(g:uO H a y (some v))(ry:RelV y u)(h:∀w' s',Inv X pins σ H s'->RelV v w'->Q w' s') :
  wpAny (model X.prog X.w) A (getItem (.ref a) u) Q E s:=by
 obtain⟨aT,k,e,ey,l⟩|⟨aT,k,b,e,ey,eb,l⟩:=g
 subst ey;obtain⟨z,hd,vs,rel,dd⟩:=tq I.cm e;obtain⟨w',hw,rw'⟩:=jD.some_of (v:=v) (o:=valueAt vs k) (by rw[l];exact rel.val k);exact wpAny_getItem_of (nK ry) dd.mapOf hw (h w' _ (I.tok _) rw');subst ey;cases (show u=Value.ref b from ry);obtain⟨z,hd,xs,rel,dd⟩:=xg I.cm e;obtain⟨w',hw,rw'⟩:=jD.some_of (v:=v) (o:=(atKey xs k).map (·.2)) (by rw[l];exact rel.val k);obtain⟨p,hp,F8⟩:=Tn.mp hw;refine wpAny_getItem_heap (tupleKind_room_in1 hu) (uN I.cm eb) dd hp ?_;rw[F8];exact h w' _ (I.tok _) rw'
theorem oS{ob:HO}(I:Inv X pins σ H s)(mu:Tz (H a))(hs:Heap.SameBut a s.heap h')(he:∃q,h'.get? a=some q)(new:cw X.prog X.w (upd H a ob) h' a ob) :
  Inv X pins σ (upd H a ob) {s with heap:=h',toks:=t'} :=
 I.write (x:=a) (e:=a) mu (.inl rfl) (λb q hb z=>(hs.2 b hb).trans z) he new
theorem zP{vs:List (Key×Value)}(z:aT.length<=sizeLine)(hd:(a==sysModules)=false)(rel:KV aT vs)(dd:h'.DictOf (bA P w) a vs) :
 cw P w H' h' a (.dK aT):=⟨z,hd,vs,rel,dd⟩
theorem Dd{Q:Unit->Shared->Prop}(hu:A.units+1<cLine)(I:Inv X pins σ H s)(g:C9 H a y v H')(ry:RelV y u)(rv:RelV v r)(h:∀s',Inv X pins σ H' s'->Q () s') :
  wpAny (model X.prog X.w) A (setItem (.ref a) u r) Q E s:=by
 obtain⟨aT,k,e,ey,l,eH⟩|⟨aT,k,b,e,ey,eb,l,eH⟩:=g
 subst ey eH;obtain⟨z,hd,vs,rel,dd⟩:=xf I.cm e;have hz:vs.length<=sizeLine:=by rw[<- rel.length];exact z
 have hl:(putK aT k v).length<=sizeLine:=by have:=gj aT k v;omega
 refine wpAny_setItem_pairs (hsz:=hz) (nK ry) dd λh' yR hs=>h _ ?_;have he:∃q,h'.get? a=some q:=let ⟨q,_,_,hq,_⟩:=yR;⟨q,hq⟩;exact oS I (by rw[e];exact True.intro) hs he (zP hl hd (rel.put k rv) yR);subst ey eH;cases (show u=Value.ref b from ry);obtain⟨z,hd,xs,rel,dd⟩:=Vf I.cm e;have hz:xs.length<=sizeLine:=by rw[<- Ow rel];exact z
 have hl:(putK aT k v).length<=sizeLine:=by have:=gj aT k v;omega
 refine wpAny_setItem_heap (hsz:=hz) (tupleKind_room_in1 hu) (uN I.cm eb) dd λh' yR hs=>h _ ?_;obtain⟨q,es,ep,hq,h2,h3,h4,_,h5⟩:=yR;refine oS I (by rw[e];exact True.intro) hs ⟨q,hq⟩ ⟨hl,hd,_,(rel.put k eb rv).keeps λc ys ec=>?_,q,es,ep,hq,h2,h3,h4,h5⟩;rw[aC (Et ec e (λz=>nomatch z))];exact ec
end
section
variable{k:Key}
theorem Vg(I:Inv X pins σ H s)(e:Rd H a (.dK aT))(h:∀t s',Inv X pins σ H s'->Q (.int aT.length t) s'):wpAny (model X.prog X.w) A (call (.builtin "len") [.ref a]) Q E s:=by obtain⟨z,hd,vs,rel,dd⟩:=tq I.cm e;refine call_len_dict hd dd (by rw[<- rel.length];rw[sizeLine_eq] at z;omega) ?_;rw[<- rel.length];exact h _ _ (I.tok _)
end
def KL(i:Expr):Prop:=∀ov iv,subscripted i false ov iv=operate [ov,iv] (getItem ov iv)
theorem Bs{env:Env}{value slice:Expr}{T id:String}(hl:typeLookup (.type T) "__getitem__"=pure (some (.builtin id)))(hs:KL slice)(h:wpAny (model prog w) A (eval value env) (λo s₁=>wpAny (model prog w) A (eval slice env) (λi s₂=>s₂.TypeIs o T/\wpAny (model prog w) A (getItem o i) Q E s₂) E s₁) E s) :
  wpAny (model prog w) A (eval (.Subscript value slice pos) env) Q E s:=by
 refine Subscript_ (wpAny_mono h (λo s₁ h₁=>wpAny_mono h₁ (λi s₂ h₂=>?_) λ_ _ x=>x) λ_ _ x=>x);obtain⟨hT,h₂⟩:=h₂;unfold subscriptTail;refine wpAny_bind ?_;rw[getitemInPython_of_ne hT.not_modules];refine wpAny_bind (wpAny_specialOf hT hl ?_);have fin:wpAny (model prog w) A (subscripted slice false o i) (λr s₃=>wpAny (model prog w) A (letTemporaryGo value o r >>= λ_=>pure r) Q E s₃) E s₂:=by rw[hs o i];exact wpAny_operating (wpAny_mono h₂ (λr s₃ h₃=>wpAny_bind (wpAny_letTemporaryGo (wpAny_pure h₃))) λ_ _ x=>x)
 first
  |exact wpAny_pure (wpAny_bind fin)
  |exact wpAny_bind (wpAny_pure (wpAny_bind fin))
  |exact wpAny_bind fin
theorem xh{y:V}{o:Option V}(I:Inv X pins σ H s)(g:uO H a y o):s.TypeIs (.ref a) "dict":=by
 obtain⟨aT,k,e,_,_⟩|⟨aT,k,b,e,_,_,_⟩:=g
 obtain⟨_,_,vs,_,dd⟩:=tq I.cm e;exact dd.typeIs;obtain⟨_,_,xs,_,dd⟩:=xg I.cm e;exact dd.typeIs
def Vh(td ty:TE):TE:=λσ H Q=>td σ H λx H1=>ty σ H1 λy H2=>∃a v,x=.ref a/\uO H2 a y (some v)/\Q v H2
def Vi(td ty tv:TE):TS:=λD σ H=>tv σ H λv H1=>td σ H1 λx H2=>ty σ H2 λy H3=>∃a H4,x=.ref a/\C9 H3 a y v H4/\D.nx σ H4
section
variable{i value:Expr}{pos':Pos}{td ty tv:TE}
theorem KN(hu:X.A.units+1<cLine)(ho:PE X o td)(hi:PE X i ty)(hs:KL i):PE X (.Subscript o i pos) (Vh td ty):=by intro pins s σ H Q I h;refine Bs PySem.F.slot_dict_getitem.lookup hs (b_ (ho pins s σ H _ I h) λu s1 ⟨x,H1,I1,rx,q1⟩=>b_ (hi pins s1 σ H1 _ I1 q1) λiv s2 ⟨y,H2,I2,ry,a,v,ex,g,q2⟩=>?_);subst ex;obtain rfl:u=Value.ref a:=rx;exact⟨xh I2 g,C_ hu I2 g ry λw' s3 I3 rw'=>⟨v,H2,I3,rw',q2⟩⟩
theorem Bt(hu:X.A.units+1<cLine)(ho:PE X o td)(hi:PE X i ty)(hv:PE X value tv)(hs:swapsWith value (some (.Subscript o i pos')) pos.line X.env=pure false) :
  PS X (.Assign [.Subscript o i pos'] value pos) (Vi td ty tv):=by
 intro pins s σ H D I h;refine wpAny_Assign_Subscript (b_ (hv pins s σ H _ I h) λr s1 ⟨v,H1,I1,rv,q1⟩=>b_ (ho pins s1 σ H1 _ I1 q1) λu s2 ⟨x,H2,I2,rx,q2⟩=>b_ (hi pins s2 σ H2 _ I2 q2) λiv s3 ⟨y,H3,I3,ry,a,H4,ex,g,q3⟩=>?_) hs;subst ex;obtain rfl:u=Value.ref a:=rx;exact Dd hu I3 g ry rv λs4 I4=>⟨σ,H4,I4,q3⟩
end
theorem qj(h:Heap)(hb:sysModules<h.objs.size):cw P w H (h.push {cls:=.type "dict",data:=.dict #[]}) h.objs.size (.dK []) :=
 ⟨jL _,beq_eq_false_iff_ne.mpr (Ne.symm (jK hb)),[],.nil,Heap.DictOf.new h⟩
def Qj:TE:=λ_ H Q=>∀p,H p=none->Q (.ref p) (upd H p (.dK []))
section
theorem xi:PE X (.Dict [] [] pos) Qj:=λpins s σ H Q I h=>
 wpAny_Dict_empty ⟨.ref s.heap.objs.size,_,I.laid (a:=s.heap.objs.size) (o:=.dK []) (t':=s.toks) (λ_ _ q=>eZ _ q) (cO _) (qj s.heap I.big),rfl,h _ (I.cm.fresh (cO _))⟩
end
def uP:List (TE×TE)->St->Hp->(List (V×V)->Hp->Prop)->Prop
 |[],_,H,Q=>Q [] H
 | (tk,tv)::r,σ,H,Q=>tk σ H λx H1=>tv σ H1 λy H2=>uP r σ H2 λps H3=>Q ((x,y)::ps) H3
abbrev VV:List (V×V)->List (Value×Value)->Prop:=Paired λp q=>RelV p.1 q.1/\RelV p.2 q.2
def Vj(X:Cx)(pos:Pos)(keys:List (Option Expr))(values:qap)(Bu:List (TE×TE)):Prop :=
 ∀(pins:qaa)(s:Shared)(σ:St)(H:Hp)(Q:List (V×V)->Hp->Prop),Inv X pins σ H s->uP Bu σ H Q ->
  wpAny (model X.prog X.w) X.A (evalPairs (pairTrees keys values X.env pos)) (λvs s'=>∃ps H',Inv X pins σ H' s'/\VV ps vs/\Q ps H') X.xe s
theorem KO:Vj X pos [] [] []:=λpins s σ H Q I h=>pairTrees_nil_walk ⟨[],H,I,.nil,h⟩
theorem Gd{k v:Expr}{ks:List (Option Expr)}{vs:qap}{tk tv:TE}{Bu:List (TE×TE)}(hk:PE X k tk)(hv:PE X v tv)(hr:Vj X pos ks vs Bu) :
  Vj X pos (some k::ks) (v::vs) ((tk,tv)::Bu):=λpins s σ H Q I h=>
 pairTrees_cons_walk (b_ (hk pins s σ H _ I h) λu s1 ⟨x,H1,I1,rx,q1⟩=>b_ (hv pins s1 σ H1 _ I1 q1) λw2 s2 ⟨y,H2,I2,ry,q2⟩ =>
  b_ (hr pins s2 σ H2 _ I2 q2) λws s3 ⟨ps,H3,I3,rel,q3⟩=>⟨(x,y)::ps,H3,I3,.cons ⟨rx,ry⟩ rel,q3⟩)
noncomputable def iS(aT more:List (Key×V)):List (Key×V):=more.foldl (λacc kv=>putK acc kv.1 kv.2) aT
theorem KV.merge:∀{more:List (Key×V)}{rs:List (Key×Value)}{aT:List (Key×V)}{vs:List (Key×Value)},KV more rs->KV aT vs->KV (iS aT more) (merged vs rs):=by
 intro more rs aT vs r;unfold KV at r;induction r generalizing aT vs with
 |nil=>intro q;exact q
 |@cons p q ps qs h t ih=>
  intro r0;have e:KV (putK aT p.1 p.2) (stored vs q.1 q.2):=by have:=r0.put p.1 h.2;rw[<- h.1];exact this
  exact ih e
theorem jQ:∀(more aT:List (Key×V)),(iS aT more).length<=aT.length+more.length
 |[],aT=>by show aT.length<=aT.length+0;omega
 |p::r,aT=>by have h1:=jQ r (putK aT p.1 p.2);have h2:=gj aT p.1 p.2;show (iS (putK aT p.1 p.2) r).length<=_;rw[tX];omega
theorem qk{P:Program}{w:World}:∀{aT:List (Key×V)}{ws:List (Value×Value)},VV (aT.map λkv=>(kV kv.1,kv.2)) ws->∃rs,Carries (bA P w) ws rs/\KV aT rs
 |[],_,r=>by rw[IV] at r;cases r;exact⟨[],True.intro,.nil⟩
 |p::aT,_,r=>by
  rw[gA] at r;cases r with
  |@cons a b as bs h t=>obtain⟨rs,c,q⟩:=qk (P:=P) (w:=w) t;obtain⟨b1,b2⟩:=b;exact⟨(p.1,b2)::rs,⟨nK h.1,rfl,c⟩,.cons ⟨rfl,h.2⟩ q⟩
noncomputable def Vk(Bu:List (TE×TE)):TE:=λσ H Q=>∀p,H p=none->uP Bu σ (upd H p (.dK [])) λps H2=>H2 p=some (.dK [])/\∃aT:List (Key×V),ps=aT.map (λkv=>(kV kv.1,kv.2))/\aT.length<=15/\Q (.ref p) (upd H2 p (.dK (iS [] aT)))
theorem KP{keys:List (Option Expr)}{values:qap}{Bu:List (TE×TE)}(h:Vj X pos keys values Bu)(zq:keys.all (·.isSome)=true)(hl:keys.length=values.length)(h0:keys≠[])(h15:keys.length<=15):PE X (.Dict keys values pos) (Vk Bu):=by
 intro pins s σ H Q I q;have hn:=I.cm.fresh (cO s.heap.objs.size);have I1:=I.laid (a:=s.heap.objs.size) (o:=.dK []) (h':=s.heap.push {cls:=.type "dict",data:=.dict #[]}) (t':=s.toks) (λ_ _ q=>eZ _ q) (cO _) (qj s.heap I.big);refine wpAny_Dict_walk (knd:=bA X.prog X.w) zq hl h0 h15 (b_ (h pins _ σ _ _ I1 (q _ hn)) λws s2 ⟨ps,H2,I2,rel,e,aT,ep,lk,q2⟩=>?_);subst ep;obtain⟨rs,c,rk⟩:=qk (P:=X.prog) (w:=X.w) rel;obtain⟨z,hd,SR,r0,dd⟩:=xf I2.cm e;cases r0;refine⟨rs,c,dd,λh' yR hs=>⟨.ref s.heap.objs.size,_,?_,rfl,q2⟩⟩;have hz:(iS [] aT).length<=sizeLine:=by have h1:=jQ aT [];rw[List.length_nil] at h1;rw[sizeLine_eq];omega
 have he:∃q,h'.get? s.heap.objs.size=some q:=let ⟨q,_,_,hq,_⟩:=yR;⟨q,hq⟩;exact oS I2 (by rw[e];exact True.intro) hs he (zP hz hd (rk.merge .nil) yR)
structure M2(X:Cx)(o:Expr)(m:Str)(apos:Pos)(e f:Expr)(aV:Pos):Prop where
 base:attributeBase o m X.env (eval o X.env)=eval o X.env
 few:((backTo aV (starEach [e,f] X.env)).all (λx=>!x.1) && (backToKw aV (keywordEach [] X.env)).all (λx=>x.1.isSome)
  && decide (([e,f]:qap).length+([]:List Keyword).length+(if ([]:List Keyword).isEmpty then 0 else 1)<30))=true
 line:(apos.endLine==aV.line)=true
 trees:backTo aV (starEach [e,f] X.env)=[(false,eval e X.env),(false,eval f X.env)]
def IsD(H:Hp)(a:Addr):Prop:=(∃aT,Rd H a (.dK aT))\/∃aT,Rd H a (.dT aT)
theorem Qk(I:Inv X pins σ H s)(d:IsD H a) :
  s.TypeIs (.ref a) "dict"/\(∀b,Value.ref a=.ref b->∃ob,s.heap.get? b=some ob/\ob.dict=none)/\(a==sysModules)=false:=by
 obtain⟨aT,e⟩|⟨aT,e⟩:=d
 obtain⟨_,hd,vs,_,dd⟩:=tq I.cm e;refine⟨dd.typeIs,λb q=>?_,hd⟩;cases q;obtain⟨ob,_,_,h1,h2,_⟩:=dd;exact⟨ob,h1,h2.2.1⟩;obtain⟨_,hd,xs,_,dd⟩:=xg I.cm e;refine⟨dd.typeIs,λb q=>?_,hd⟩;cases q;obtain⟨ob,_,_,h1,h2,_⟩:=dd;exact⟨ob,h1,h2.2.1⟩
section
variable{y d:V}{r:Value}{o:Option V}
theorem Ql(hu:A.units+1<cLine)(I:Inv X pins σ H s)(g:uO H a y o)(ry:RelV y u)(rd:RelV d r)(h:∀w' s',Inv X pins σ H s'->RelV (o.getD d) w'->Q w' s') :
  wpAny (model X.prog X.w) A (call (.builtin "dict.get") [.ref a,u,r]) Q E s:=by
 obtain⟨aT,k,e,ey,l⟩|⟨aT,k,b,e,ey,eb,l⟩:=g
 subst ey;obtain⟨z,hd,vs,rel,dd⟩:=tq I.cm e;refine call_meetsIn To dd.typeIs YR (YN _ _ _) (meets_dict_get_default (bA X.prog X.w) a (nK ry) hd r) ⟨_,dd.mapOf,h _ _ (I.tok _) ?_⟩;rw[l];exact (rel.val k).getD rd;subst ey;cases (show u=Value.ref b from ry);obtain⟨z,hd,xs,rel,dd⟩:=xg I.cm e;refine call_meetsIn To dd.typeIs YR (YN _ _ _) (meetsH_dict_get_default (tupleKind (bA X.prog X.w)) a b hd r) ⟨tupleKind_room_in1 hu,k,xs,uN I.cm eb,dd,h _ _ (I.tok _) ?_⟩;rw[l];exact (rel.val k).getD rd
end
def Qm(td ty tx:TE):TE:=λσ H Q=>td σ H λx H1=>∃a,x=.ref a/\IsD H1 a/\ty σ H1 λy H2=>tx σ H2 λz H3=>∃o,uO H3 a y o/\Q (o.getD z) H3
section
variable{f:Expr}{td ty tx:TE}
theorem Ge(hu:X.A.units+1<cLine)(ho:PE X o td)(he:PE X e ty)(hf:PE X f tx)(m:M2 X o "get" apos e f aV):PE X (.Call (.Attribute o "get" apos) [e,f] [] aV) (Qm td ty tx):=by
 intro pins s σ H Q I h;refine wpAny_Call_method m.base m.few m.line XB To PySem.F.type_dict_get (b_ (ho pins s σ H _ I h) λu s1 ⟨x,H1,I1,rx,a,ex,d,q1⟩=>?_);subst ex;obtain rfl:u=Value.ref a:=rx;obtain⟨t1,t2,_⟩:=Qk I1 d;refine⟨t1,t2,?_⟩;rw[m.trees];refine XC rfl (Calls.evalArgs_plain (Tq (b_ (he pins s1 σ H1 _ I1 q1) λiv s2 ⟨y,H2,I2,ry,q2⟩ =>
  Tq (b_ (hf pins s2 σ H2 _ I2 q2) λfv s3 ⟨z,H3,I3,rz,ov,g,q3⟩=>Calls.spliced_nil ?_))))
 exact Ql hu I3 g ry rz λw' s4 I4 rw'=>⟨_,H3,I4,rw',q3⟩
end
end L2
namespace X0
open PySem PySem.W PySem.Calls PyProof.Rows
end X0
namespace L2
open PySem PySem.Spec PyProof.Rows
section
theorem De:dN X (.builtin "len") (λxs H Q=>∃a aT,xs=[V.ref a]/\H a=some (.dK aT)/\Q (.int aT.length) H):=by intro pins s σ H xs us Q I r h;obtain⟨a,aT,rfl,ha,q⟩:=h;obtain⟨u,rfl,ru⟩:=vals1 r;cases ru;exact Vg I (.inl ha) λt s' I'=>⟨.int aT.length,H,I',⟨t,rfl⟩,q⟩
end
end L2
namespace VT
open PySem PySem.Spec PyProof.Rows L2
noncomputable def uQ:T->Option Key
 |.int i=>some (.inl i)
 |.str x=>some (.inr x)
 |_=>none
theorem jn{A:qah}{t:T}{k:Key}(h:iL K H A t v)(e:uQ t=some k):v=kV k:=by
 cases t with
 |int i=>cases e;exact h.int
 |str x=>cases e;exact h.str
 |_=>cases e
noncomputable def bC{α:Type}:List Key->List α->Key->Option α
 |k::ks,t::ts,x=>if k=x then some t else bC ks ts x
 |_,_,_=>none
def jH(ks:List Key)(x:Key):Bool:=ks.any λk=>decide (k=x)
def dP(ks:List Key)(x:Key):List Key:=if jH ks x=true then ks else ks++[x]
noncomputable def bH{α:Type}(ks:List Key)(ts:List α)(x:Key)(u:α):List α:=if jH ks x=true then List.zipWith (λk t=>if k=x then u else t) ks ts else ts++[u]
theorem eI:∀(ks:List Key)(vs:qak)(x:Key),iR (ks.zip vs) x=bC ks vs x
 |[],vs,x=>rfl
 |k::ks,[],x=>rfl
 |k::ks,v::vs,x=>by simp only[bC,Jj];by_cases e:k=x;rw[if_pos e,lb (p:=(k,v)) e];rw[if_neg e,lg (p:=(k,v)) e];exact eI ks vs x
theorem xj(ts:List α)(x:Key):bC [] ts x=none:=by cases ts<;>rfl
theorem gk{K:qaf}{H:Hp}{A:qah}:∀{ks:List Key}{ts:qaj}{vs:qak}{x:Key},aB K H A ts vs->(∀t,bC ks ts x=some t->∃v,bC ks vs x=some v/\At K H A t v)/\(bC ks ts x=none->bC ks vs x=none)
 |[],ts,vs,x,h=>by rw[xj,xj];refine⟨λt e=>?_,λ_=>rfl⟩;cases e
 |k::ks,[],vs,x,h=>by simp only[aB] at h;subst h;exact⟨λt e=>(by cases e),λ_=>rfl⟩
 |k::ks,t::ts,vs,x,h=>by simp only[aB] at h;obtain⟨v,r,rfl,h1,h2⟩:=h;simp only[bC];by_cases e:k=x;rw[if_pos e,if_pos e];exact⟨λt e=>by cases e;exact⟨v,rfl,h1⟩,λq=>by cases q⟩;rw[if_neg e,if_neg e];exact gk h2
theorem KQ(ks:List Key)(vs:qak)(x:Key)(hl:ks.length=vs.length):((ks.zip vs).any λkv=>decide (kv.1=x))=jH ks x:=by
 unfold jH;induction ks generalizing vs with
 |nil=>rfl
 |cons k ks ih=>
  cases vs with
  |nil=>simp at hl
  |cons v vs=>rw[Jj,Es,Es,ih vs (by simpa using hl)]
theorem zip_map(ks:List Key)(vs:qak)(x:Key)(v:V):(ks.zip vs).map (λkv=>if kv.1=x then (kv.1,v) else kv)=ks.zip (List.zipWith (λk t=>if k=x then v else t) ks vs):=by
 induction ks generalizing vs with
 |nil=>rfl
 |cons k ks ih=>
  cases vs with
  |nil=>rfl
  |cons u vs=>simp only[Jj,gA,XD];rw[ih vs];by_cases e:k=x;rw[if_pos e,if_pos e];rw[if_neg e,if_neg e]
theorem Gf(ks:List Key)(vs:qak)(x:Key)(v:V)(hl:ks.length=vs.length):L2.putK (ks.zip vs) x v=(dP ks x).zip (bH ks vs x v)/\(dP ks x).length=(bH ks vs x v).length:=by unfold L2.putK dP bH;rw[KQ ks vs x hl];by_cases e:jH ks x=true;rw[if_pos e,if_pos e,if_pos e];exact⟨zip_map ks vs x v,by simp[hl]⟩;rw[if_neg e,if_neg e,if_neg e];refine⟨?_,by simp[hl]⟩;rw[List.zip_append hl];rfl
theorem xk{A:qah}{ts:qaj}{x:Key}{t:T}(h:aB K H A ts vs)(ht:At K H A t v):aB K H A (bH ks ts x t) (bH ks vs x v):=by
 unfold bH;by_cases e:jH ks x=true;rw[if_pos e,if_pos e];clear e;induction ks generalizing ts vs with
 |nil=>simp only[List.zipWith_nil_left];exact aB.nil
 |cons k ks ih=>
  cases ts with
  |nil=>simp only[aB] at h;subst h;simp only[List.zipWith_nil_right];exact aB.nil
  |cons t0 ts=>simp only[aB] at h;obtain⟨v0,r,rfl,h1,h2⟩:=h;simp only[XD];refine aB.cons ?_ (ih h2);by_cases q:k=x;rw[if_pos q,if_pos q];exact ht;rw[if_neg q,if_neg q];exact h1
 rw[if_neg e,if_neg e];exact h.append (aB.cons ht aB.nil)
section
variable{a:Expr}{fc:FE}
def Vm:FP:=λ_ Q=>Q (.fr (.dk [] []))
theorem Bv:VP X Z (.Dict [] [] pos) Vm:=.mk λtm=>PE.weak xi λσ H Q ⟨ρ,O,q,I,hf,k⟩ p hp=>
 k _ hf _ _ (aH hp) (I.newD (ks:=[]) (ts:=[]) (vs:=[]) hp rfl aB.nil)
noncomputable def Vn(fa fb:FE):FP:=λρ Q=>fa ρ λx=>fb ρ λy=>match x,uQ y with
 |.dk ks ts,some k=>∃t,bC ks ts k=some t/\Q (.vw t)
 |_,_=>False
theorem fK(hu:X.A.units+1<cLine)(ha:VR X Z a fa)(hb:VR X Z b fb)(hs:KL b:=by intro _ _;rfl):VP X Z (.Subscript a b pos) (Vn fa fb):=.mk λtm=>PE.weak (KN hu (ha tm) (hb tm) hs) λσ H Q ⟨ρ,O,q,I,hf,k⟩ =>
 ⟨ρ,O,_,I,hf,λx hx v H1 s1 a1=>⟨ρ,O,_,I.same s1,hx,λy hy w H2 s2 a2=>by
  split at hy
  rename_i ks ts kk e
  obtain⟨t,e1,hq⟩:=hy;obtain⟨l,vs,rfl,hl,hd,hv⟩:=(a1.same s2).dk;obtain⟨u,e2,e3⟩:=(gk hv).1 t e1;rw[jn a2 e];exact⟨l,u,rfl,by rw[<- e2,<- eI];exact uO.k hd,k _ hq _ H2 (s1.trans s2) ⟨(I.same s1).same s2,e3⟩⟩;exact hy.elim⟩⟩
def ado(fa fb:FE):FP:=λρ Q=>fa ρ λx=>match x with
 |.dk ks ts=>fb ρ λy=>match uQ y with
  |some k=>Q (.vw ((bC ks ts k).getD .aO))
  |none=>False
 |_=>False
noncomputable def aco(fa fb fc:FE):FP:=λρ Q=>fa ρ λx=>match x with
 |.dk ks ts=>fb ρ λy=>fc ρ λz=>match uQ y with
  |some k=>Q (.vw ((bC ks ts k).getD z))
  |none=>False
 |_=>False
theorem Bw{A:qah}{ts:qaj}{k:Key}{z:T}{w:V}(h:aB K H A ts vs)(hz:At K H A z w):At K H A ((bC ks ts k).getD z) ((bC ks vs k).getD w):=by
 cases e:bC ks ts k with
 |none=>rw[(gk h).2 e];exact hz
 |some t=>obtain⟨v,e1,e2⟩:=(gk h).1 t e;rw[e1];exact e2
theorem zQ(hu:X.A.units+1<cLine)(ha:VR X Z a fa)(hb:VR X Z b fb)(hc:VE X Z c fc)(m:M2 X a "get" apos b c aV):VP X Z (.Call (.Attribute a "get" apos) [b,c] [] aV) (aco fa fb fc):=.mk λtm=>PE.weak (Ge hu (ha tm) (hb tm) (hc tm) m) λσ H Q ⟨ρ,O,q,I,hf,k⟩ =>
 ⟨ρ,O,_,I,hf,λx hx v H1 s1 a1=>by
  split at hx
  rename_i ks ts
  obtain⟨l,vs,rfl,hl,hd,hv⟩:=a1.dk;refine⟨l,rfl,.inl ⟨_,.inl hd⟩,ρ,O,_,I.same s1,hx,λy hy w H2 s2 a2=>⟨ρ,O,_,(I.same s1).same s2,hy,λz hz u H3 s3 a3=>?_⟩⟩;split at hz
  rename_i kk e
  rw[jn a2 e];refine⟨_,uO.k (s3 _ _ (s2 _ _ hd)),?_⟩;rw[eI];exact k _ hz _ H3 ((s1.trans s2).trans s3) ⟨((I.same s1).same s2).same s3,Bw ((hv.same s2).same s3) a3⟩;exact hz.elim;exact hx.elim⟩
noncomputable def Nv(n:Nat)(f fi:FE):FS:=λd ρ=>match ρ[n]? with
 |some (some (.dk ks ts,true))=>f ρ λv=>fi ρ λi=>match uQ i with
  |some k=>ts.length<16777216/\d.nx (ρ.set n (some (.dk (dP ks k) (bH ks ts k v),true)))
  |none=>False
 |_=>False
theorem uR(n:Nat){f fi:FE}{i:Expr}(hu:X.A.units+1<cLine)(he:VE X Z e f)(hi:VR X Z i fi)(hN:X.N[n]?=some x:=by rfl)(hv:j5 X.env.scope x:=by first|exact Or.inl rfl|exact Or.inr (Or.inl rfl)|exact Or.inr (Or.inr rfl))(hd:gC x:=by decide)(fA:tW x:=by decide)(hs:swapsWith e (some (.Subscript (.Name x p) i fB)) pos.line X.env=pure false:=by rfl) :
  VS X Z (.Assign [.Subscript (.Name x p) i fB] e pos) (Nv n f fi):=.mk λtm=>
 PS.weak (Bt hu (bV hN hv hd fA) (hi tm) (he tm) hs) λD σ H ⟨ρ,O,d,I,q,F⟩=>by
  unfold Nv at q;split at q
  rename_i ks ts e0
  obtain⟨l,h1,h2,xs,hl,h3,h4⟩:=I.root e0;have ha:l∈av Z O:=cy _ (aK.mpr (gW h1));refine⟨ρ,O,_,I,q,λt ht v H1 s1 a1=>⟨.ref l,h2,ρ,O,_,I.same s1,ht,λj hj w H2 s2 a2=>?_⟩⟩;split at hj
  rename_i kk ek
  obtain⟨hlen,hj⟩:=hj;have h3':=s2 _ _ (s1 _ _ h3);have q:=Gf ks xs kk v hl;have hz:(ks.zip xs).length<sizeLine:=by rw[sizeLine_eq,MD,hl,MH,h4.length];omega
  rw[jn a2 ek];refine⟨l,_,rfl,C9.k h3' hz,?_⟩;rw[q.1];refine F.nx O _ σ _ (((I.same s1).same s2).wrote (t':=.dk (dP ks kk) (bH ks ts kk t)) e0 h1 ⟨bH ks xs kk v,q.2,aG,?_⟩) hj;exact aB.wrote ha h3' rfl (xk ((h4.same s1).same s2) (a1.same s2));exact hj.elim;exact q.elim
end
section
variable{a:Expr}
def Nw(ts:qaj)(q:qam):Prop:=match ts with
 |[.dk ks vs]=>q (.vw (.int (vs.length:Int)))
 |_=>False
theorem zR:k4 K (λxs H Q=>∃a aT,xs=[V.ref a]/\H a=some (.dK aT)/\Q (.int aT.length) H) Nw:=by intro Z tm O ρ σ H ts vs q Q I h hp k;unfold Nw at hp;split at hp;obtain⟨v,rfl,a⟩:=cX h;obtain⟨l,ws,rfl,hl,hd,hv⟩:=a.dk;refine⟨l,_,rfl,hd,?_⟩;rw[MD,hl,MH,hv.length];exact k _ hp _ H (aM.refl H) ⟨I,bf⟩;exact hp.elim
end
end VT
namespace RV
open PySem PySem.Spec PyProof.Rows
section
variable{R:Result->Shared->Prop}
variable{I:Addr}{wr:qah}{G:Array GenState->Array GenState->Prop}{P:Nat->Value->Prop}{St:Nat->Shared->Prop}
end
end RV
namespace VT
open PySem PySem.Spec PyProof.Rows L2
theorem lh(h:n+101<cLine):n+1<cLine:=by omega
def Ny(w:World)(K:qaf)(e:DictEntry)(p:Str×T):Prop:=e.hash=PyData.keyHash w.params p.1/\(∃t,e.key=.str p.1 t)/\∃v,RelV v e.val/\∀H A,At K H A p.2 v
def ql(w:World)(K:qaf)(a:Addr)(l:List (Str×T)):Prop:=∃es ep,K.lookup a=some ⟨.type "dict",none,.dict es ep,#[]⟩/\(a==sysModules)=false/\Paired (Ny w K) es.toList l/\(l.map (·.1)).Nodup
theorem ents{P:Program}{w:World}{K:qaf}:∀{es:List DictEntry}{l:List (Str×T)},Paired (Ny w K) es l ->
  ∃(vs:qak)(us:List (Key×Value)),(∀H A,aB K H A (l.map (·.2)) vs)/\KV ((l.map λp=>(Sum.inr p.1:Key)).zip vs) us/\PySem.Pairs (bA P w) es us/\us.map (·.1)=l.map (λp=>(Sum.inr p.1:Key))/\∀e∈es,∃k,(bA P w).is k e.key=true/\e.hash=(bA P w).hash k
 |_,_,.nil=>⟨[],[],λ_ _=>aB.nil,.nil,.nil,rfl,λ_ h=>nomatch h⟩
 |_,_,.cons (a:=e) (b:=p) r t=>by
   obtain⟨vs,us,h1,h2,h3,h4,h5⟩:=ents (P:=P) t;obtain⟨r1,⟨tk,r2⟩,v,r3,r4⟩:=r;have hk:(bA P w).is (Sum.inr p.1) e.key=true:=by rw[r2];show Value.isStrOf p.1 (.str p.1 tk)=true;simp[Value.isStrOf]
   refine⟨v::vs,(Sum.inr p.1,e.val)::us,λH A=>aB.cons (r4 H A) (h1 H A),.cons ⟨rfl,r3⟩ h2,.cons hk rfl h3,by rw[gA,gA,h4],λe' he=>?_⟩;rcases c7.mp he with q|q
   subst q;exact⟨Sum.inr p.1,hk,r1⟩;exact h5 e' q
theorem ql.of{l:List (Str×T)}(I:Inv X pins σ H s)(d:ql X.w X.K a l) :
  ∃(vs:qak)(us:List (Key×Value)),(∀H A,aB X.K H A (l.map (·.2)) vs)/\KV ((l.map λp=>(Sum.inr p.1:Key)).zip vs) us/\s.heap.DictOf (bA X.prog X.w) a us/\(a==sysModules)=false:=by
 obtain⟨es,ep,lk,hs,hp,nd⟩:=d;obtain⟨vs,us,h1,h2,h3,h4,h5⟩:=ents (P:=X.prog) hp;refine⟨vs,us,h1,h2,⟨_,es,ep,I.rD a _ lk,⟨rfl,rfl,rfl⟩,rfl,λe he=>h5 e (by simpa using he),h3,?_⟩,hs⟩;rw[h4];have e:(l.map λp=>(Sum.inr p.1:Key))=(l.map (·.1)).map Sum.inr:=by rw[IW];rfl
 rw[e];exact List.Pairwise.map _ (λa b h z=>h (Sum.inr.inj z)) nd
section
variable{fc:FE}{l:List (Str×T)}
noncomputable def Dh(l:List (Str×T))(k:Str):Option T:=bC (l.map λp=>(Sum.inr p.1:Key)) (l.map (·.2)) (Sum.inr k)
def onStr(t:T)(f:Str->Prop):Prop:=match t with
 |.str k=>f k
 |_=>False
theorem xm{t:T}{f:Str->Prop}(h:onStr t f):∃k,t=.str k/\f k:=by unfold onStr at h;split at h;exact⟨_,rfl,h⟩;exact h.elim
noncomputable def acp(l:List (Str×T))(fe fc:FE):FP:=λρ Q=>fe ρ λy=>fc ρ λz=>onStr y λk=>Q (.vw ((Dh l k).getD z))
theorem Gh(hg:Gl X x)(hm:X.mg x=some (.ref a))(d:ql X.w X.K a l)(he:VR X Z e fe)(hc:VE X Z c fc)(m:M2 X (.Name x p) "get" apos e c aV)(hd:gC x:=by decide) :
  VP X Z (.Call (.Attribute (.Name x p) "get" apos) [e,c] [] aV) (acp l fe fc):=.mk λtm pins s σ H Q I ⟨ρ,O,q,E,hf,k⟩=>by
 refine wpAny_Call_method m.base m.few m.line XB To PySem.F.type_dict_get (b_ (ub hg hm (v:=.ref a) rfl hd pins s σ H (λv H'=>v=.ref a/\H'=H) I ⟨rfl,rfl⟩) λu s1 ⟨x',H1,I1,rx,ex,eH⟩=>?_);subst ex eH;obtain rfl:u=Value.ref a:=rx;obtain⟨vs,us,h1,h2,dd,hs⟩:=d.of I1;refine⟨dd.typeIs,λb q=>?_,?_⟩;cases q;obtain⟨ob,_,_,z1,z2,_⟩:=dd;exact⟨ob,z1,z2.2.1⟩;rw[m.trees];refine XC rfl (Calls.evalArgs_plain (Tq (b_ (he tm pins s1 σ H1 (λy H2=>∃t,iL X.K H2 (av Z O) t y/\aM H1 H2/\fc ρ λz=>onStr t λk=>q (.vw ((Dh l k).getD z))) I1 ⟨ρ,O,_,E,hf,λt ht v H' s a1=>⟨t,a1,s,ht⟩⟩) λiv s2 ⟨y,H2,I2,ry,t,a1,sa,q2⟩ =>
  Tq (b_ (hc tm pins s2 σ H2 (λz H3=>∃tz,At X.K H3 (av Z O) tz z/\aM H2 H3/\onStr t λk=>q (.vw ((Dh l k).getD tz))) I2 ⟨ρ,O,_,E.same sa,q2,λtz htz v H' s a2=>⟨tz,a2,s,htz⟩⟩) λfv s3 ⟨z,H3,I3,rz,tz,a2,sb,q3⟩=>Calls.spliced_nil ?_))))
 obtain⟨kk,et,q3⟩:=xm q3;subst et;obtain⟨jG,SS,Ej,Kp,yR,U'⟩:=d.of I3;have ey:=a1.str;subst ey;refine call_meetsIn To yR.typeIs YR (YN _ _ _) (meets_dict_get_default (bA X.prog X.w) a (nK (k:=Sum.inr kk) ry) U' fv) ⟨_,yR.mapOf,⟨_,H3,I3.tok _,(Kp.val (Sum.inr kk)).getD rz,?_⟩⟩;rw[eI];exact k _ q3 _ H3 (sa.trans sb) ⟨(E.same sa).same sb,Bw (Ej H3 (av Z O)) a2⟩
end
theorem qm:∀(more acc:List (Key×V)),(acc.map (·.1)++more.map (·.1)).Nodup->iS acc more=acc++more
 |[],acc,_=>by simp[iS]
 |p::more,acc,nd=>by
  have h1:p.1∉acc.map (·.1):=by rw[yN] at nd;intro z;exact nd.2.2 p.1 z p.1 (by simp) rfl
  have e:L2.putK acc p.1 p.2=acc++[p]:=by unfold L2.putK;rw[if_neg];intro z;rw[List.any_eq_true] at z;obtain⟨kv,hk,hd⟩:=z;exact h1 (yW.mpr ⟨kv,hk,of_decide_eq_true hd⟩)
  show iS (L2.putK acc p.1 p.2) more=_;rw[e,qm more (acc++[p]) (by simpa[MB] using nd)];simp
abbrev Qn:=En->(List (Key×T)->Prop)->Prop
def lPs(X:Cx)(Z:Zc)(tm:qab)(f:Qn)(σ:St)(H:Hp)(Q:List (V×V)->Hp->Prop):Prop :=
 ∃ρ O q,ax X.K Z tm O ρ σ H/\f ρ q/\∀oU:List (Key×T),q oU->∀vs H',aM H H'->aB X.K H' (av Z O) (oU.map (·.2)) vs->Q ((oU.map λp=>kV p.1).zip vs) H'
def Yi(X:Cx)(Z:Zc)(pos:Pos)(n:Nat)(keys:List (Option Expr))(values:qap)(f:Qn):Prop:=(keys.all (·.isSome)=true/\keys.length=n/\values.length=n)/\∀tm,∃Bu,Vj X pos keys values Bu/\∀σ H Q,lPs X Z tm f σ H Q->uP Bu σ H Q
section
variable{ek ev:Expr}{fk fv:FE}{keys:List (Option Expr)}{values:qap}{f:Qn}
def Vo:Qn:=λ_ Q=>Q []
noncomputable def Qo(fk fv:FE)(f:Qn):Qn:=λρ Q=>fk ρ λx=>fv ρ λy=>match uQ x with
 |some k=>f ρ λoU=>Q ((k,y)::oU)
 |none=>False
theorem KR:Yi X Z pos 0 [] [] Vo:=⟨⟨rfl,rfl,rfl⟩,λtm=>⟨[],KO,λσ H Q ⟨ρ,O,q,I,hf,k⟩=>k [] hf [] H (aM.refl H) aB.nil⟩⟩
theorem iT(hk:VR X Z ek fk)(hv:VE X Z ev fv)(h:Yi X Z pos n keys values f):Yi X Z pos (n+1) (some ek::keys) (ev::values) (Qo fk fv f):=by
 refine⟨⟨by rw[List.all_cons,h.1.1];rfl,by rw[tX,h.1.2.1],by rw[tX,h.1.2.2]⟩,λtm=>?_⟩;obtain⟨Bu,hp,hw⟩:=h.2 tm;refine⟨_,Gd (hk tm) (hv tm) hp,λσ H Q ⟨ρ,O,q,I,hf,k⟩=>⟨ρ,O,_,I,hf,λx hx v H1 s1 a1=>⟨ρ,O,_,I.same s1,hx,λy hy w H2 s2 a2=>?_⟩⟩⟩;split at hy
 rename_i kk ek
 refine hw σ H2 _ ⟨ρ,O,_,(I.same s1).same s2,hy,λoU hk vs H3 s3 a3=>?_⟩;have:=k _ hk (w::vs) H3 ((s1.trans s2).trans s3) (aB.cons (a2.same s3) a3);rw[jn a1 ek];exact this;exact hy.elim
def fDN(f:Qn):FP:=λρ Q=>f ρ λoU=>dv (oU.map (·.2))=true/\oU.length<=15/\(oU.map (·.1)).Nodup/\Q (.fr (.dk (oU.map (·.1)) (oU.map (·.2))))
theorem Qp(oU:List (Key×T))(vs:qak)(hl:oU.length=vs.length):(oU.map λp=>kV p.1).zip vs=((oU.map (·.1)).zip vs).map λkv=>(kV kv.1,kv.2):=by
 induction oU generalizing vs with
 |nil=>simp
 |cons p oU ih=>cases vs with
  |nil=>simp at hl
  |cons v vs=>simp only[gA,Jj,gA,ih vs (by simpa using hl)]
theorem Vp(h:Yi X Z pos n keys values f)(hn:0<n/\n<=15):VP X Z (.Dict keys values pos) (fDN f):=.mk λtm=>by
 obtain⟨Bu,hp,hw⟩:=h.2 tm;obtain⟨zq,hl1,Zw⟩:=h.1;refine PE.weak (KP hp zq (by omega) (by intro z;rw[z] at hl1;simp at hl1;omega) (by omega)) λσ H Q ⟨ρ,O,q,I,hf,k⟩ p hpn=>?_;have s0:aM H (upd H p (.dK [])):=aH hpn;obtain⟨a,ea,I0,R0,n3,n2⟩:=I.newD (ks:=[]) (ts:=[]) (vs:=[]) hpn rfl aB.nil;cases ea;refine hw σ _ _ ⟨ρ,O,_,I.same s0,hf,λoU ⟨hi,hn,nd,hq⟩ vs H2 s2 a2=>?_⟩;have F8:H2 p=some (.dK []):=s2 _ _ aG;have hlen:oU.length=vs.length:=by have:=a2.length;rw[c6] at this;exact this.symm
 have hz:((oU.map (·.1)).zip vs).map (·.1)=oU.map (·.1):=List.map_fst_zip (by rw[c6];omega);refine⟨F8,(oU.map (·.1)).zip vs,Qp oU vs hlen,by rw[MD,c6];omega,?_⟩;rw[qm _ [] (by simpa[hz] using nd),MC];refine k _ hq _ _ (λb o hb=>?_) ⟨p,rfl,(I0.same s2).Ft F8 rfl n3,⟨vs,by rw[c6];exact hlen,aG,?_⟩,n3,n2⟩;have fE:b≠p:=λe=>by subst e;rw[hpn] at hb;cases hb
 rw[aC fE];exact s2 _ _ (s0 _ _ hb);exact aB.wrote (u:=.dK []) (bW _ dG) F8 rfl (a2.bX hi)
end
section
theorem KS:MT X "dict.setdefault" (λx xs H Q=>∃(a:Addr)(aT:List (Key×V))(k:Key)(v:V),x=.ref a/\xs=[kV k,v]/\H a=some (.dK aT)/\aT.length<sizeLine /\
  (∀u,iR aT k=some u->Q u H)/\(iR aT k=none->Q v (upd H a (.dK (L2.putK aT k v))))):=by
 intro pins s σ H x xs v us Q I rx rs h;obtain⟨a,aT,k,y,rfl,rfl,ha,hsz,q1,q2⟩:=h;cases rx;obtain⟨u1,u2,rfl,ru1,ru2⟩:∃u1 u2,us=[u1,u2]/\RelV (kV k) u1/\RelV y u2:=by
  cases rs with
  |cons r1 t=>cases t with
    |cons r2 t2=>cases t2;exact⟨_,_,rfl,r1,r2⟩
 obtain⟨z,hd,vs,rel,dd⟩:=xf I.cm ha;refine call_meetsIn PySem.F.slot_dict_setdefault dd.typeIs PySem.F.entry_dict_setdefault (PySem.F.args_dict_setdefault_3 _ _ _) (kt_meets_setdefault (bA X.prog X.w) a (nK ru1) hd u2) ⟨vs,dd,by rw[<- rel.length];omega,λv0 hv=>?_,λhn h' yR hs=>?_⟩;have wC:=rel.val k;rw[hv] at wC;cases e:iR aT k with
 |none=>rw[e] at wC;cases wC
 |some w0=>rw[e] at wC;have hr:RelV w0 v0:=wC;exact⟨w0,H,I.tok _,hr,q1 w0 e⟩
 have wC:=rel.val k;rw[hn] at wC;cases e:iR aT k with
 |some w0=>rw[e] at wC;cases wC
 |none=>
   have he:∃q,h'.get? a=some q:=let ⟨q,_,_,hq,_⟩:=yR;⟨q,hq⟩;have hl:(L2.putK aT k y).length<=sizeLine:=by have:=gj aT k y;omega
   exact⟨y,_,oS (t':=s.toks+1) I (by rw[ha];exact True.intro) hs he (zP hl hd (rel.put k ru2) yR),ru2,q2 e⟩
end
section
variable{e1 e2:Expr}{f1 f2:FE}
noncomputable def Nz(n:Nat)(f1 f2:FE):FX:=λρ Q=>match ρ[n]? with
 |some (some (.dk ks ts,true))=>f1 ρ λx=>f2 ρ λy=>match uQ x with
  |some k=>ts.length<16777216/\match bC ks ts k with
   |some t=>Q ρ (.vw t)
   |none=>Q (ρ.set n (some (.dk (ks++[k]) (ts++[y]),true))) (.vw y)
  |none=>False
 |_=>False
theorem KU(n:Nat)(h1:VE X Z e1 f1)(h2:VE X Z e2 f2)(hN:X.N[n]?=some x:=by rfl)(hv:j5 X.env.scope x:=by first|exact Or.inl rfl|exact Or.inr (Or.inl rfl)|exact Or.inr (Or.inr rfl))(hd:gC x:=by decide)(fA:tW x:=by decide)(c8:attributeBase (.Name x p) "setdefault" X.env (eval (.Name x p) X.env)=eval (.Name x p) X.env:=by rfl)(j7:((backTo aV (starEach [e1,e2] X.env)).all (λx=>!x.1) && (backToKw aV (keywordEach [] X.env)).all (λx=>x.1.isSome)
    && decide (([e1,e2]:qap).length+([]:List Keyword).length+(if ([]:List Keyword).isEmpty then 0 else 1)<30))=true:=by rfl)(c9:(apos.endLine==aV.line)=true:=by rfl)(hs:starEach [e1,e2] X.env=(false,eval e1 X.env)::starEach [e2] X.env:=by rfl)(CG:starEach [e2] X.env=(false,eval e2 X.env)::starEach [] X.env:=by rfl)(dH:(backTo aV (starEach [e2] X.env)).any (·.1)=false:=by rfl) :
  VX X Z (.Call (.Attribute (.Name x p) "setdefault" apos) [e1,e2] [] aV) (Nz n f1 f2):=.mk λtm=>
 PE.weak (pA XB PySem.F.slot_dict_setdefault PySem.F.type_dict_setdefault KS (bV hN hv hd fA) (bt (h1 tm) (bt (h2 tm) cC CG) hs) c8 j7 c9 hs dH) λσ H Q ⟨ρ,O,q,I,hf,kk⟩=>by
  unfold Nz at hf;split at hf
  rename_i ks ts e0
  obtain⟨l,g1,g2,xs,hl,g3,g4⟩:=I.root e0;have ha:l∈av Z O:=cy _ (aK.mpr (gW g1));refine⟨.ref l,g2,.inr (.inr (.inl ⟨rfl,.inl ⟨_,g3⟩⟩)),ρ,O,_,I,hf,λt ht v H1 s1 a1=>⟨ρ,O,_,I.same s1,ht,λy hy w H2 s2 a2=>?_⟩⟩;split at hy
  rename_i SU ek
  obtain⟨hlen,hy⟩:=hy;have ev:v=kV SU:=jn (.inl a1) ek;subst ev;have hz:(ks.zip xs).length<sizeLine:=by rw[sizeLine_eq,MD,hl,MH,g4.length];omega
  have J:=(I.same s1).same s2;have b4:=(g4.same s1).same s2;refine⟨l,ks.zip xs,SU,w,rfl,rfl,s2 _ _ (s1 _ _ g3),hz,λu hu=>?_,λhn=>?_⟩;rw[eI] at hu;cases eg:bC ks ts SU with
  |none=>rw[(gk b4).2 eg] at hu;cases hu
  |some t0=>rw[eg] at hy;obtain⟨v0,e1,e2⟩:=(gk b4).1 t0 eg;rw[e1] at hu;cases hu;exact kk _ _ hy O _ _ ⟨J,e2⟩
  rw[eI] at hn;cases eg:bC ks ts SU with
  |some t0=>obtain⟨v0,e1,e2⟩:=(gk b4).1 t0 eg;rw[e1] at hn;cases hn
  |none=>
    rw[eg] at hy;have e1:L2.putK (ks.zip xs) SU w=(ks++[SU]).zip (xs++[w]):=by rw[Gb _ (by rw[eI];exact hn),List.zip_append hl];rfl
    rw[e1];refine kk _ _ hy O _ _ ⟨J.wrote e0 g1 ⟨xs++[w],by simp[hl],aG,?_⟩,a2.wrote ha (s2 _ _ (s1 _ _ g3)) rfl⟩;exact (b4.append (aB.cons a2 aB.nil)).wrote ha (s2 _ _ (s1 _ _ g3)) rfl
  exact hy.elim;exact hf.elim
end
noncomputable def qo{α:Type}(f:Str):qai->List α->Option α
 |n::ns,t::ts=>match f==n with
  |true=>some t
  |false=>qo f ns ts
 |_,_=>none
noncomputable def Di(f:Str):qai->qai
 |[]=>[f]
 |n::ns=>if n=f then n::ns else n::Di f ns
noncomputable def oA{α:Type}(f:Str)(u:α):qai->List α->List α
 |n::ns,t::ts=>if n=f then u::ts else t::oA f u ns ts
 |_,_=>[u]
theorem qp(f:Str):∀(ns:qai)(vs:qak),(ns.zip vs).lookup f=qo f ns vs
 |[],vs=>by cases vs<;>rfl
 |n::ns,[]=>rfl
 |n::ns,v::vs=>by
  rw[Jj,IP];unfold qo;cases f==n with
  |true=>rfl
  |false=>exact qp f ns vs
theorem xn(f:Str)(y:V):∀(ns:qai)(vs:qak),ns.length=vs.length->dy f y (ns.zip vs)=(Di f ns).zip (oA f y ns vs)/\(Di f ns).length=(oA f y ns vs).length
 |[],[],_=>⟨rfl,rfl⟩
 |[],v::vs,h=>by simp at h
 |n::ns,[],h=>by simp at h
 |n::ns,v::vs,h=>by have ih:=xn f y ns vs (by simpa using h);rw[Jj];show (if n=f then (n,y)::ns.zip vs else (n,v)::dy f y (ns.zip vs))=_/\_;unfold Di oA;by_cases e:n=f;rw[if_pos e,if_pos e,if_pos e];exact⟨rfl,by simpa using h⟩;rw[if_neg e,if_neg e,if_neg e,ih.1];exact⟨rfl,by simp[ih.2]⟩
section
variable{A:qah}{f:Str}
theorem xo:∀{ns:qai}{ts:qaj}{vs:qak}{t:T},aB K H A ts vs->qo f ns ts=some t->∃v,qo f ns vs=some v/\At K H A t v
 |[],ts,vs,t,_,e=>by cases ts<;>cases e
 |n::ns,[],vs,t,_,e=>by cases e
 |n::ns,t0::ts,vs,t,h,e=>by
  simp only[aB] at h;obtain⟨v,r,rfl,h1,h2⟩:=h;unfold qo at e ⊢;cases q:f==n with
  |true=>rw[q] at e;cases e;exact⟨v,rfl,h1⟩
  |false=>rw[q] at e;exact xo h2 e
theorem By:∀{ns:qai}{ts:qaj}{vs:qak}{t:T}{v:V},aB K H A ts vs->At K H A t v->aB K H A (oA f t ns ts) (oA f v ns vs)
 |[],ts,vs,t,v,_,q=>by
  have e1:oA f t [] ts=[t]:=by cases ts<;>rfl
  have e2:oA f v [] vs=[v]:=by cases vs<;>rfl
  rw[e1,e2];exact aB.cons q aB.nil
 |n::ns,[],vs,t,v,h,q=>by simp only[aB] at h;subst h;exact aB.cons q aB.nil
 |n::ns,t0::ts,vs,t,v,h,q=>by simp only[aB] at h;obtain⟨v0,r,rfl,h1,h2⟩:=h;unfold oA;by_cases e:n=f;rw[if_pos e,if_pos e];exact aB.cons q h2;rw[if_neg e,if_neg e];exact aB.cons h1 (By h2 q)
end
section
variable{f:Str}
noncomputable def acq(C:Addr)(f:Str)(fe:FE):FP:=λρ Q=>fe ρ λt=>match t with
 |.ins C' ns ts=>C'=C/\∃u,qo f ns ts=some u/\Q (.vw u)
 |_=>False
theorem aZ(cl:y9 X.K C)(na:bb X.K C f)(h:VR X Z e fe)(hb:attributeBase e f X.env (eval e X.env)=eval e X.env:=by rfl):VP X Z (.Attribute e f pos) (acq C f fe):=.mk λtm=>
 PE.weak (zb (h tm) hb) λσ H Q ⟨ρ,O,q,I,hf,k⟩=>⟨ρ,O,_,I,hf,λt ht v H1 s1 a1=>by
  split at ht
  rename_i C' ns ts
  obtain⟨rfl,u,e1,hq⟩:=ht;obtain⟨a,dx,vs,rfl,hl,hd,hv⟩:=a1.ins;obtain⟨w,e2,e3⟩:=xo hv e1;exact⟨a,_,dx,_,w,rfl,hd,cl,na,by rw[qp];exact e2,k _ hq _ H1 s1 ⟨I.same s1,e3⟩⟩;exact ht.elim⟩
noncomputable def Dj(n:Nat)(C:Addr)(f:Str)(fe:FE):FS:=λd ρ=>match ρ[n]? with
 |some (some (.ins C' ns ts,true))=>C'=C/\fe ρ λv=>ts.length<1000/\d.nx (ρ.set n (some (.ins C' (Di f ns) (oA f v ns ts),true)))
 |_=>False
theorem ie(n:Nat)(cl:y9 X.K C)(na:bb X.K C f)(he:VE X Z e fe)(hN:X.N[n]?=some x:=by rfl)(hv:j5 X.env.scope x:=by first|exact Or.inl rfl|exact Or.inr (Or.inl rfl)|exact Or.inr (Or.inr rfl))(hd:gC x:=by decide)(fA:tW x:=by decide)(hs:swapsWith e (some (.Attribute (.Name x p) f fB)) pos.line X.env=pure false:=by rfl) :
  VS X Z (.Assign [.Attribute (.Name x p) f fB] e pos) (Dj n C f fe):=.mk λtm=>
 PS.weak (fD (bV hN hv hd fA) (he tm) hs) λD σ H ⟨ρ,O,d,I,q,F⟩=>by
  unfold Dj at q;split at q
  rename_i C' ns ts e0
  obtain⟨rfl,q⟩:=q;obtain⟨l,h1,h2,dx,xs,hl,h3,h4⟩:=I.root e0;have ha:l∈av Z O:=cy _ (aK.mpr (gW h1));refine⟨ρ,O,_,I,q,λt ht v H1 s1 a1=>⟨.ref l,h2,l,_,dx,_,rfl,s1 _ _ h3,cl,na,?_,?_⟩⟩;rw[MD,hl,MH,h4.length];exact ht.1;have pz:=xn f v ns xs hl;rw[pz.1];refine F.nx O _ σ _ ((I.same s1).wrote (t':=.ins _ (Di f ns) (oA f t ns ts)) e0 h1 ⟨dx,oA f v ns xs,pz.2,aG,?_⟩) ht.2;exact aB.wrote ha (s1 _ _ h3) rfl (By (h4.same s1) a1);exact q.elim
def NA(K:qaf)(C:Addr)(n:Nat)(G:qaj->(T->Prop)->Prop):Sp:=mK K (true::List.replicate n false) λts q=>match ts with
 |.ins C' [] []::us=>C'=C/\G us λu=>q [u] (.vw .aO)
 |_=>False
theorem Bz{G:qaj->(T->Prop)->Prop}{tm:qab}{ts:qaj}{q:qam}{Q:VK}(I:ax X.K Z tm O ρ σ H)(a:aB X.K H (av Z O) ts vs)(hn:ts.length=n)(hG:G ts λu=>q (.fr u))(k:∀r,q r->∀v H',aM H H'->fY X.K Z tm O ρ σ H' r v->Q v H'):∀x dx,H x=none->H dx=none->dx≠x->NA X.K C n G (.ref x::(vs++[])) (upd (upd H dx (.own x)) x (.ins C dx [])) (λv H2=>v=.aO/\Q (.ref x) H2) E0:=by
 intro x dx hx hdx fE;rw[AZ];obtain⟨n1,n2,n3⟩:=I.fresh hx;have s0:aM H (upd (upd H dx (.own x)) x (.ins C dx [])):=λb o e=>by rw[aC (ba e hx),aC (ba e hdx)];exact e
 have a1:aB X.K (upd (upd H dx (.own x)) x (.ins C dx [])) ([x]++av Z O) ts vs:=(a.more λb hb=>by
  rcases cU.mp hb with z|z
  exact .inr (by rw[eX.mp z];exact hx);exact .inl z).same s0
 refine⟨.ins C [] []::ts,[x],av Z O,λus r=>r=.vw .aO/\∃u,us=[u]/\q (.fr u),by simp,λb hb=>by rw[eX.mp hb];exact n1,λb hb=>?_,⟨x,[],_,ts,vs,rfl,rfl,rfl,⟨dx,[],rfl,aG,aB.nil⟩,h_ hn a1⟩,⟨rfl,?_⟩,λus r hr v H' fr z=>?_⟩;cases e:H b with
 |none=>exact absurd e (I.yP b hb)
 |some o=>rw[s0 _ _ e];simp
 have w:(λu=>q (.fr u))=λu=>((.vw .aO:Rt)=.vw .aO/\∃u',[u]=[u']/\q (.fr u')):=by funext u;exact propext ⟨λh=>⟨rfl,u,rfl,h⟩,λ⟨_,u',e,h⟩=>by cases e;exact h⟩
 rw[<- w];exact hG;obtain⟨rfl,u,rfl,hq⟩:=hr;obtain⟨z1,z2⟩:=z;simp only[At] at z1;refine⟨z1,?_⟩;cases z2 with
 |cons r _=>
  have s:aM H H':=λb o e=>fr b o (s0 b o e) (by rw[eX];exact ba e hx);obtain⟨o,eo,_⟩:=r.mut;refine k _ hq _ H' s ⟨x,rfl,I.Nf hx s eo,r.aY λc hc=>?_,n3,n2⟩;rcases dh c hc with z|z
  exact bW _ z;rw[z];exact cy _ dG
end
structure Dc(K:qaf)(mg:qae)(cls qual:Str)(st:Stmt)(ps:qai)(C f:Addr)(fd:FuncData):Prop where
 F:Ba K "__init__" qual st f fd
 m:mg cls=some (.ref C)
 b:Binds K fd ps []
 M:Mk K C f
def Gi(P:Program)(w:World)(K:qaf)(mg:qae)(base:Heap)(cls:Str)(C:Addr)(ps:qai)(k n:Nat)(G:qaj->(T->Prop)->Prop):Prop :=
 ∃f fd,Mk K C f/\mg cls=some (.ref C)/\Binds K fd ps []/\cp P w K mg base dS k f fd ps (NA K C n G)
section
theorem Dc.gK{cls:Str}{st:Stmt}{k:Nat}{G:qaj->(T->Prop)->Prop}(D:Dc K mg cls qual st ps C f fd)(F:cp P w K mg base dS k f fd ps (NA K C n G)):Gi P w K mg base cls C ps k n G :=
 ⟨f,fd,D.M,D.m,D.b,F⟩
theorem fnI{st:Stmt}{N:qai}{k:Nat}{G:qaj->(T->Prop)->Prop}(F:Ba K x qual st f fd)(S:aE N ps (aj st))(hn:n+1=ps.length)(dz:∀(bz:Value) (A:Around) (outer:List Env) (s:Shared) (H:Hp) (E:XK) (as Ox:qah),bx k (A.deeper (envOfC qual (aj st) s.heap.objs.size f bz))->∀(us:qaj) (q:qaj->qam),us.length=n->G us (λu=>q [u] (.vw .aO)) ->
    ∃g,iF (eY dS P w K mg base N qual (aj st) f bz A outer s H E).pf ⟨H,pz (true::List.replicate n false) as 0,Ox⟩ (bD st) g /\
     g {nx:=λρ=>q (mM (true::List.replicate n false) ρ) (.vw .aO),rt:=λρ r=>q (mM (true::List.replicate n false) ρ) r} (some (.ins C [] [],true)::wX (List.replicate n false) us++List.replicate (N.length-(us.length+1)) none)) :
  cp P w K mg base dS (k+1) f fd ps (NA K C n G) :=
 U2 F S (by rw[<- hn];simp) λbz A outer s H E as Ox hr ts q hl hG=>by
  cases ts with
  |nil=>exact hG.elim
  |cons t us=>cases t with
    |ins C' ns vs=>cases ns with
      |nil=>cases vs with
        |nil=>obtain⟨e,hG'⟩:=hG;subst e;exact dz bz A outer s H E as Ox hr us q (by simpa using hl) hG'
        |cons _ _=>exact hG.elim
      |cons _ _=>exact hG.elim
    |_=>exact hG.elim
end
def BA(a d:Addr):HO:=.ext λh=>h.get? a=some {cls:=.type "dict_values",data:=.fields #[.ref d]}
theorem xp(val:Nat->Int):∀k,∃j≤k,argBest (λi j=>decide (val i<val j)) k=j/\∀i≤k,val j<=val i
 |0=>⟨0,cO _,rfl,λi hi=>by rw[Nat.le_zero.mp hi];exact Int.le_refl _⟩
 |k+1=>by
  obtain⟨j,hj,e,h⟩:=xp val k;unfold argBest;rw[e];by_cases q:val (k+1)<val j;rw[if_pos (decide_eq_true q)];refine⟨k+1,cO _,rfl,λi hi=>?_⟩;rcases Nat.lt_or_eq_of_le hi with l|l
  exact Int.le_trans (Int.le_of_lt q) (h i (Nat.le_of_lt_succ l));rw[l];exact Int.le_refl _;rw[if_neg (by rw[decide_eq_true_eq];exact q)];refine⟨j,Nat.le_succ_of_le hj,rfl,λi hi=>?_⟩;rcases Nat.lt_or_eq_of_le hi with l|l
  exact h i (Nat.le_of_lt_succ l);rw[l];exact Int.not_lt.mp q
section
theorem Dl:MT X "dict.values" (λx xs H Q=>∃(d:Addr)(aT:List (Key×V)),x=.ref d/\xs=[]/\H d=some (.dK aT)/\∀a,H a=none->Q (.ref a) (upd H a (BA a d))):=by intro pins s σ H x xs v us Q I rx rs h;obtain⟨d,aT,rfl,rfl,hd,q⟩:=h;cases rx;cases rs;obtain⟨z,hs,vs,rel,dd⟩:=xf I.cm hd;refine call_meetsIn PySem.F.slot_dict_values dd.typeIs PySem.F.entry_dict_values (PySem.F.args_dict_values_1 _) (meets_dict_values (bA X.prog X.w) d hs) ⟨⟨vs,dd⟩,?_⟩;refine⟨.ref s.heap.objs.size,_,I.laid (a:=s.heap.objs.size) (t':=s.toks) (λb o e=>eZ _ e) (cO _) ?_,rfl,q _ I.fresh⟩;exact⟨mf _ rfl,⟨_,mf _ rfl⟩,λh1 h2 z k=>k _ z⟩
theorem uS(hc:X.calm=true):dN X (.builtin "min") (λxs H Q=>∃(a d:Addr)(aT:List (Key×V))(is:qan),xs=[.ref a]/\H a=some (BA a d)/\H d=some (.dK aT)/\aT.map (·.2)=is.map V.int/\is≠[]/\∀m,m∈is->(∀i∈is,m<=i)->Q (.int m) H):=by
 intro pins s σ H xs us Q I r h;obtain⟨a,d,aT,is,rfl,ha,hd,hv,fE,q⟩:=h;obtain⟨u,rfl,ru⟩:=vals1 r;cases ru;obtain⟨z,hs,vs,rel,dd⟩:=xf I.cm hd;obtain⟨hA,_,_⟩:=(show cw X.prog X.w H s.heap a (BA a d) from I.cm a _ ha);obtain⟨ep,da⟩:=dd.dictAt;have hh:X.A.in1.handled=none:=by simp[I.ok.hd hc]
 have hlen:vs.length=is.length:=by have:=congrArg List.length hv;rw[c6,c6] at this;rw[<- rel.length];exact this
 have Vq:∀(i:Nat)(v:Value),(∃k,vs[i]?=some (k,v))->∃t,v=.int (is.getD i 0) t:=by
  intro i v ⟨k,e⟩;have hi:i<vs.length:=(eB.mp e).1;have hi2:i<aT.length:=by rw[rel.length];exact hi
  have e1:aT[i]?=some aT[i]:=by simp[hi2]
  have key:∀{l₁:List (Key×V)}{l₂:List (Key×Value)}{i:Nat}{p:Key×V}{q:Key×Value},KV l₁ l₂->l₁[i]?=some p->l₂[i]?=some q->RelV p.2 q.2:=by
   intro l₁ l₂ i p q h;unfold KV at h;induction h generalizing i with
   |nil=>intro e;simp at e
   |cons r t ih=>
    intro e e';cases i with
    |zero=>simp at e e';subst e;subst e';exact r.2
    |succ i=>exact ih (by simpa using e) (by simpa using e')
  have rr:=key rel e1 e;have e2:(aT.map (·.2))[i]?=some aT[i].2:=by rw[jC,e1];rfl
  rw[hv,jC] at e2;cases q2:is[i]? with
  |none=>rw[q2] at e2;cases e2
  |some m=>rw[q2] at e2;have e3:aT[i].2=V.int m:=(Option.some.inj e2).symm;rw[e3] at rr;obtain⟨t,et⟩:=rr;exact⟨t,by rw[YI,q2];exact et⟩
 have hn0:0<vs.length:=by rw[hlen];exact SE.mpr fE
 refine call_min_walk (wpAny_pyIter_values ⟨_,hA,rfl,rfl⟩ da ?_);refine⟨_,_,_,_,_,_,_,rfl,Walks.dictValues hh _ d (jK da.lt_size) vs ep,⟨⟨_,mf _ rfl,rfl,rfl⟩,da.push _⟩,λb hb=>?_,hn0,CmpOf.ints_lt (λi=>is.getD i 0) Vq,λv h' tk hP hk=>?_⟩;show b<(s.heap.push _).objs.size;rw[Er];rcases c7.mp hb with rfl|hb
 exact wj _;rw[eX.mp hb];exact Ot da.lt_size;obtain⟨j,hj,e,hm⟩:=xp (λi=>is.getD i 0) (vs.length-1);rw[e] at hP;obtain⟨t,rfl⟩:=Vq j v hP;have Yj:j<is.length:=by omega
 refine⟨.int (is.getD j 0),H,I.kept (t':=tk) λb u eb=>hk b u (λz=>?_) (eZ _ eb),⟨t,rfl⟩,q _ ?_ λi hi=>?_⟩;rw[eX.mp z] at eb;exact absurd (e_ eb) (Eb _);rw[YI,rq Yj];exact XQ Yj;obtain⟨n,hn⟩:=XA.mp hi;have hnl:n<is.length:=(eB.mp hn).1;have:=hm n (by omega);have e5:is.getD n 0=i:=by rw[YI,hn];rfl
 rw[e5] at this;exact this
end
section
variable{a:Expr}{Dg xl:Pos}
def Vr(fa:FE):FP:=λρ Q=>fa ρ λx=>match x with
 |.dk ks ts=>∃is,ts=is.map T.int/\is≠[]/\∀m,m∈is->(∀i∈is,m<=i)->Q (.vw (.int m))
 |_=>False
theorem zS(hc:X.calm=true)(hgl:Gl X "min")(hml:X.mg "min"=none)(ha:VR X Z a fa)(c8:attributeBase a "values" X.env (eval a X.env)=eval a X.env:=by rfl)(c9:(apos.endLine==xl.line)=true:=by rfl)(he:starEach [.Call (.Attribute a "values" apos) [] [] xl] X.env=(false,eval (.Call (.Attribute a "values" apos) [] [] xl) X.env)::starEach [] X.env:=by rfl)(iI:(backTo Dg (starEach [] X.env)).any (·.1)=false:=by rfl) :
  VP X Z (.Call (.Name "min" p1) [.Call (.Attribute a "values" apos) [] [] xl] [] Dg) (Vr fa):=.mk λtm=>
 PE.weak (pj (uS hc) hgl hml Ni (bt (zo XB PySem.F.slot_dict_values PySem.F.type_dict_values Dl (ha tm) c8 c9) cC he) (by decide) (by decide) he iI) λσ H Q ⟨ρ,O,q,I,hf,k⟩ =>
  ⟨ρ,O,_,I,hf,λx hx v H1 s1 a1=>by
    split at hx
    rename_i ks ts
    obtain⟨is,rfl,fE,hq⟩:=hx;obtain⟨d,vs,rfl,hl,hd,hv⟩:=a1.dk;refine⟨.inr (.inr (.inl ⟨rfl,.inl ⟨_,hd⟩⟩)),d,_,rfl,rfl,hd,λb hb=>?_⟩;have sb:aM H1 (upd H1 b (BA b d)):=aH hb;have ev:vs=is.map V.int:=by
     clear hq fE hl hd a1;induction is generalizing vs with
     |nil=>simpa only[IV,aB] using hv
     |cons i is ih=>simp only[gA,aB,At] at hv;obtain⟨v,r,rfl,rfl,h2⟩:=hv;rw[ih r h2];rfl
    subst ev;refine⟨b,d,_,is,rfl,aG,sb _ _ hd,?_,fE,λm h1 h2=>k _ (hq m h1 h2) _ _ (s1.trans sb) ⟨(I.same s1).same sb,bf⟩⟩;rw[List.map_snd_zip];rw[hl];exact cO _;exact hx.elim⟩
end
structure Gj(K:qaf)(H H':Hp)(Ox:qah)(us:qaj)(p:Addr)(ls:qah):Prop where
 same:aM H H'
 tup:H' p=some (.tup (ls.map V.ref))
 nd:ls.Nodup
 new:∀a∈ls,H a=none
 rts:Paired (λa t=>cD K H' (ls++Ox) a t) ls us
def Vs(K:qaf)(n:Nat)(G:qaj->(qaj->Prop)->Prop):Sp:=λvs H Q _=>∃ts Ox q,(∀a∈Ox,H a≠none)/\aB K H Ox ts vs/\ts.length=n/\G ts q /\
 ∀us,q us->∀p ls H',Gj K H H' Ox us p ls->Q (.ref p) H'
structure acr(K:qaf)(Z:Zc)(tm:qab)(d:Fm)(dp:qaj->Prop)(D:Ends):Prop where
 fin:Fin K Z tm d D
 dp:∀us,dp us->∀p ls H',Gj K Z.H0 H' Z.Ox us p ls->D.rt (.ref p) H'
abbrev Qq:=Fm->(qaj->Prop)->En->Prop
def lSD(X:Cx)(Z:Zc)(tm:qab)(g:Qq):TS:=λD σ H=>∃ρ O d dp,ax X.K Z tm O ρ σ H/\g d dp ρ/\acr X.K Z tm d dp D
def Gk(X:Cx)(Z:Zc)(st:qaq)(g:Qq):Prop:=Bx λtm=>gY X st (lSD X Z tm g)
instance{X:Cx}{Z:Zc}{st:qaq}{g:Qq}:CoeFun (Gk X Z st g) λ_=>∀tm,gY X st (lSD X Z tm g):=⟨λh=>Bx.h h⟩
noncomputable def KW(ρ:En):qao->Option (qaj)
 |[]=>some []
 |i::is=>match ρ[i]?,KW ρ is with
  |some (some (t,true)),some ts=>some (t::ts)
  |_,_=>none
section
variable{st:Stmt}{rest:qaq}{g:FS}{u:Qq}
def Vt(g:FS)(u:Qq):Qq:=λd dp ρ=>g {d with nx:=u d dp} ρ
theorem gM(h1:VS X Z st g)(h2:Gk X Z rest u):Gk X Z (st::rest) (Vt g u):=.mk λtm=>gY.iM (cA (h1 tm) (h2 tm)) λD σ H ⟨ρ,O,d,dp,I,h,F⟩ =>
 ⟨ρ,O,{d with nx:=u d dp},I,h,⟨λO' ρ' σ' H' I' h'=>⟨ρ',O',d,dp,I',h',F⟩,F.fin.rt,F.fin.bk,F.fin.ct⟩⟩
def uT(X:Cx):qap->qao->Prop
 |[],is=>is=[]
 |e::es,is=>∃x p i js,e=.Name x p/\is=i::js/\X.N[i]?=some x/\j5 X.env.scope x/\(x==("__debug__":Str))=false/\(x==("__classdict__":Str))=false/\starEach (e::es) X.env=(false,eval e X.env)::starEach es X.env/\uT X es js
def Vu(is:qao):TA:=λσ H Q=>∃vs,Paired (λ(i:Nat) (v:V)=>σ[i]?=some (some v)) is vs/\Q vs H
theorem BB:∀{es:qap}{is:qao},uT X es is->PA X es (Vu is)
 |[],is,h=>λpos pins s σ H Q I ⟨vs,hv,q⟩=>by have e:is=[]:=h;subst e;cases hv;exact cC pos pins s σ H Q I q
 |e::es,is,h=>by
  obtain⟨x,p,i,js,rfl,rfl,h1,h2,h3,h4,h5,h6⟩:=h;exact PA.weak (bt (bV h1 h2 h3 h4) (BB h6) h5) λσ H Q ⟨vs,hv,q⟩=>by
   cases hv with
   |cons r t=>exact⟨_,r,_,t,q⟩
theorem xq{K:qaf}{tm:qab}{O:HD}{ρ:En}{σ:St}{H:Hp}(I:ax K Z tm O ρ σ H):∀{is:qao}{ts:qaj},KW ρ is=some ts ->
  ∃ls:qah,Paired (λ(i:Nat) (v:V)=>σ[i]?=some (some v)) is (ls.map V.ref)/\Paired (λ(i:Nat) (a:Addr)=>O[i]?=some (some a)) is ls/\Paired (λa t=>cD K H (av Z O) a t) ls ts
 |[],ts,h=>by cases h;exact⟨[],.nil,.nil,.nil⟩
 |i::is,ts,h=>by
   simp only[KW] at h;split at h
   rename_i t us e1 e2
   cases h;obtain⟨a,h1,h2,h3⟩:=I.root e1;obtain⟨ls,g1,g2,g3⟩:=xq I e2;exact⟨a::ls,.cons h2 g1,.cons h1 g2,.cons h3 g3⟩;cases h
theorem gu{R:α->β->Prop}{l:List α}{m:List β}(h:Paired R l m){b:β}(hb:b∈m):∃a∈l,R a b:=by
 induction h with
 |nil=>cases hb
 |cons r t ih=>
  rcases c7.mp hb with e|hb
  subst e;exact⟨_,dG,r⟩;obtain⟨a,h1,h2⟩:=ih hb;exact⟨a,gD _ h1,h2⟩
theorem zT{tm:qab}(I:ax K Z tm O ρ σ H){ls:qah}(nd:is.Nodup)(h:Paired (λ(i:Nat) (a:Addr)=>O[i]?=some (some a)) is ls):ls.Nodup:=by
 induction h with
 |nil=>exact Jl
 |cons r t ih=>rw[kB] at nd ⊢;refine⟨λm=>?_,ih nd.2⟩;obtain⟨j,hj,e⟩:=gu t m;exact nd.1 (by rw[Fy I r e];exact hj)
noncomputable def NB(is:qao):Qq:=λ_ dp ρ=>match KW ρ is with
 |some ts=>dp ts
 |none=>False
theorem KY{x1}(hP:Z.P=[])(hn:uT X es is)(nd:is.Nodup)(hl:is.length<=100):Gk X Z [.Return (some (.Tuple es x1 p)) pos] (NB is):=.mk λtm=>
 jg (PS.weak (uc (ze (BB hn))) λD σ H ⟨ρ,O,d,dp,I,h,F⟩=>by
  unfold NB at h;split at h
  rename_i ts e
  obtain⟨ls,g1,g2,g3⟩:=xq I e;refine⟨ls.map V.ref,g1,?_,λq hq=>F.dp ts h q ls _ ⟨?_,aG,zT I nd g2,λa ha=>?_,?_⟩⟩;rw[c6,<- Ow g2,sizeLine_eq];omega;intro b o eb;have:=I.keep b o eb (by rw[hP];exact λz=>nomatch z);rw[aC (ba this hq)];exact this;obtain⟨i,_,e⟩:=gu g2 ha;rcases (I.own a (aK.mpr (gW e))).1 with z|z
  rw[hP] at z;exact nomatch z;exact z;refine Paired.mq g3 λa t r=>(r.same (aH hq)).aY λb hb=>?_;rcases cU.mp hb with z|z
  obtain⟨i,_,e⟩:=gu g2 z;exact cy _ (aK.mpr (gW e));exact bW _ z;exact h.elim)
end
section
theorem dg(n:Nat):roots (List.replicate n none)=[]:=by
 unfold roots;induction n with
 |zero=>rfl
 |succ n ih=>rw[Eo,nv];exact ih
theorem jo{N:qai}{ts:qaj}(hN:ts.length<=N.length)(ox:∀a∈Ox,H a≠none)(h:aB K H Ox ts vs) :
  ax K ⟨H,[],Ox⟩ [] (List.replicate N.length none) (ts.map (λt=>some (t,false))++List.replicate (N.length-ts.length) none) (start N vs) H:=by
 have hl:=h.length;have ea:av ⟨H,[],Ox⟩ (List.replicate N.length none)=Ox:=by unfold av;rw[dg];rfl
 refine⟨?_,by simp;omega,λi e he=>?_,by rw[dg];exact Jl,λa ha=>?_,λp hp=>(nomatch hp),ox,λb o e _=>e,λp hp=>(nomatch hp)⟩;unfold L2.start;simp[hl];rw[ea];by_cases hi:i<ts.length;rw[og (by simpa using hi),jC] at he;have e1:ts[i]?=some ts[i]:=by simp
 rw[e1] at he;cases he;obtain⟨v,h1,h2⟩:=h.get e1;refine⟨none,some v,by rw[D9,if_pos (by omega)],?_,rfl,v,rfl,h2⟩;unfold L2.start;rw[og (by rw[c6];omega),jC,h1];rfl;rw[sF (by simpa using hi),D9] at he;split at he
 rename_i eV
 cases he;rw[c6] at eV;refine⟨none,none,by rw[D9,if_pos (by omega)],?_,rfl⟩;unfold L2.start;rw[sF (by rw[c6];omega),D9,c6,if_pos (by omega)];cases he;rw[dg] at ha;exact nomatch ha
theorem fnD{st:Stmt}{N:qai}{k:Nat}{G:qaj->(qaj->Prop)->Prop}(F:Ba K x qual st f fd)(S:aE N ps (aj st))(hn:n=ps.length)(hN:n<=N.length)(dz:∀(bz:Value) (A:Around) (outer:List Env) (s:Shared) (H:Hp) (E:XK) (Ox:qah),bx k (A.deeper (envOfC qual (aj st) s.heap.objs.size f bz))->∀ts q,G ts q ->
    ∃g,Gk (eY dS P w K mg base N qual (aj st) f bz A outer s H E).pf ⟨H,[],Ox⟩ (bD st) g/\(ts.length=n->g {nx:=λ_=>False,rt:=λ_ _=>False} q (ts.map (λt=>some (t,false))++List.replicate (N.length-ts.length) none))) :
  cp P w K mg base dS (k+1) f fd ps (Vs K n G):=by
 refine F.ok S (λvs H Q E h=>?_) (λbz A outer s H vs Q E hr h=>?_);obtain⟨ts,Ox,q,_,ha,hl,_⟩:=h;rw[ha.length,hl,hn];obtain⟨ts,Ox,q,ox,ha,hl,hG,kk⟩:=h;obtain⟨g,hg,hq⟩:=dz bz A outer s H E Ox hr ts q hG;exact⟨_,hg [],_,_,_,q,jo (by omega) ox ha,hq hl,⟨⟨λ_ _ _ _ _ h=>h.elim,λ_ _ _ _ _ _ _ h=>h.elim,λ_ _ _ _ _ h=>h.elim,λ_ _ _ _ _ h=>h.elim⟩,λus hu p ls H' D=>kk us hu p ls H' D⟩⟩
end
section
variable{k:Nat}{G:qaj->(qaj->Prop)->Prop}
noncomputable def lD(X:Cx)(Z:Zc)(tm:qab)(f:En->(qaj->Prop)->Prop):TE:=λσ H Q=>∃ρ O q,ax X.K Z tm O ρ σ H/\f ρ q/\∀us,q us->∀p ls H',Gj X.K H H' (av Z O) us p ls->Q (.ref p) H'
def VD(X:Cx)(Z:Zc)(e:Expr)(f:En->(qaj->Prop)->Prop):Prop:=Bx λtm=>PE X e (lD X Z tm f)
instance{X:Cx}{Z:Zc}{e:Expr}{f:En->(qaj->Prop)->Prop}:CoeFun (VD X Z e f) λ_=>∀tm,PE X e (lD X Z tm f):=⟨λh=>Bx.h h⟩
def Qr(n:Nat)(g:FA)(G:qaj->(qaj->Prop)->Prop):En->(qaj->Prop)->Prop:=λρ Q=>g ρ λts=>ts.length=n/\G ts Q
theorem KZ(F:cp X.prog X.w X.K X.mg X.base dS k f fd ps (Vs X.K n G))(hr:bx k X.A)(hg:Gl X x)(hm:X.mg x=some (.ref f))(hk:PySem.W.keepIn X.K (.ref f)=true)(hb:Binds X.K fd ps [])(ha:VA X Z (e::es) g)(om:gC x:=by decide)(he:starEach (e::es) X.env=(false,eval e X.env)::starEach es X.env:=by rfl)(iI:(backTo pos (starEach es X.env)).any (·.1)=false:=by rfl) :
  VD X Z (.Call (.Name x p) (e::es) [] pos) (Qr n g G):=.mk λtm=>PE.weak (kO F hr hg hm hk hb .nil jO (ha tm) om he iI) λσ H Q ⟨ρ,O,q,I,hf,k⟩ =>
 ⟨ρ,O,_,I,hf,λts fZ vs H1 s1 a1=>by
   show Vs X.K n G (vs++[]) H1 Q E0;rw[AZ];refine⟨ts,av Z O,q,(I.same s1).yP,a1,fZ.1,fZ.2,λus hu p ls H' D=>k us hu p ls H' ⟨s1.trans D.same,D.tup,D.nd,λa ha=>?_,D.rts⟩⟩;cases z:H a with
   |none=>rfl
   |some o=>have:=D.new a ha;rw[s1 _ _ z] at this;cases this⟩
theorem Gj.at{tm:qab}{us:qaj}{p:Addr}{ls:qah}(I:ax K Z tm O ρ σ H)(D:Gj K H H' (av Z O) us p ls):At K H' (av Z O) (.tup us) (.ref p):=by
 refine cf (dU.of D.tup) (aB.iff.mpr ?_);have key:∀{Yk:qah}{SS:qaj},(∀a∈Yk,a∈ls)->Paired (λa t=>cD K H' (ls++av Z O) a t) Yk SS->Paired (λv t=>At K H' (av Z O) t v) (Yk.map V.ref) SS:=by
  intro Yk SS sub h;induction h with
  |nil=>exact .nil
  |cons r t ih=>refine .cons ((r.aY λb hb=>bW _ hb).at λz=>?_) (ih λa ha=>sub a (gD _ ha));exact I.yP _ z (D.new _ (sub _ dG))
 exact key (λ_ h=>h) D.rts
def Vv(f:En->(qaj->Prop)->Prop):FP:=λρ Q=>f ρ λus=>Q (.vw (.tup us))
theorem VD.vp{f:En->(qaj->Prop)->Prop}(h:VD X Z e f):VP X Z e (Vv f):=.mk λtm=>PE.weak (h tm) λσ H Q ⟨ρ,O,q,I,hf,k⟩ =>
 ⟨ρ,O,_,I,hf,λus hu p ls H' D=>k _ hu _ H' D.same ⟨I.same D.same,D.at I⟩⟩
end
theorem ax.nL{tm:qab}(I:ax K Z tm O ρ σ H)(s:Option V)(hp:bG Z i):ax K Z tm (O.set i none) (ρ.set i none) (σ.set i s) H:=by
 have J:=I.forget hp;refine⟨by simp[I.lσ],J.lO,λj e h=>?_,J.nd,J.own,J.par,J.ox,J.keep,J.pH⟩;obtain⟨o,w,h1,h2,h3⟩:=J.sl j e h;rcases get_set h with⟨rfl,rfl,hl⟩|⟨ne,h'⟩
 exact⟨o,s,h1,by rw[AY (by rw[I.lσ];exact hl)],h3⟩;exact⟨o,w,h1,by rw[rC (Ne.symm ne)];exact h2,h3⟩
noncomputable def Qs(X:Cx)(i:Nat)(y:Str):Cx:={X with N:=X.N.set i y}
theorem Qt(o:X.Ok):(Qs X i y).Ok :=
 ⟨o.mod,o.kind,o.glob,o.blt,o.above,o.inj,o.has,o.OD,o.hd,o.frames,o.SI,o.XS,o.bs,o.Ed,o.yY,o.Cu,o.kJ,o.Jo⟩
theorem Gm(o:(Qs X i y).Ok):X.Ok :=
 ⟨o.mod,o.kind,o.glob,o.blt,o.above,o.inj,o.has,o.OD,o.hd,o.frames,o.SI,o.XS,o.bs,o.Ed,o.yY,o.Cu,o.kJ,o.Jo⟩
theorem K0(i:Nat)(y:Str)(I:Inv X pins σ H s):Inv (Qs X i y) pins (σ.set i none) H s:=by
 obtain⟨m,hn,hl⟩:=I.loc;refine⟨Qt I.ok,I.os,I.bare,I.base,⟨m,hn,λj x v h1 h2 h3=>?_⟩,I.cell,I.free,I.gF,I.pin,I.cm,?_⟩;rcases get_set h2 with⟨_,e,_⟩|⟨ne,h2⟩
 cases e;have Ej:(X.N.set i y)[j]?=some x:=h1;rw[rC (Ne.symm ne)] at Ej;exact hl j x v Ej h2 h3;show (σ.set i none).length=(X.N.set i y).length;rw[IQ,IQ];exact I.len
theorem jq(I:Inv (Qs X i y) pins σ H s):Inv X pins (σ.set i none) H s:=by
 obtain⟨m,hn,hl⟩:=I.loc;refine⟨Gm I.ok,I.os,I.bare,I.base,⟨m,hn,λj x v h1 h2 h3=>?_⟩,I.cell,I.free,I.gF,I.pin,I.cm,?_⟩;rcases get_set h2 with⟨_,e,_⟩|⟨ne,h2⟩
 cases e;refine hl j x v ?_ h2 h3;show (X.N.set i y)[j]?=some x;rw[rC (Ne.symm ne)];exact h1;have:=I.len;have e:(Qs X i y).N.length=X.N.length:=by show (X.N.set i y).length=_;rw[IQ]
 rw[IQ];omega
def Gn(i:Nat)(d:Fm):Fm:={nx:=λρ=>d.nx (ρ.set i none),rt:=λρ r=>d.rt (ρ.set i none) r,bk:=λρ=>d.bk (ρ.set i none),ct:=λρ=>d.ct (ρ.set i none)}
def Vw(i:Nat)(g:FS):FS:=λd ρ=>g (Gn i d) (ρ.set i none)
def Gp(i:Nat)(D:Ends):Ends:={nx:=λσ H=>D.nx (σ.set i none) H,rt:=D.rt,bk:=λσ H=>D.bk (σ.set i none) H,ct:=λσ H=>D.ct (σ.set i none) H}
theorem fY.nL{tm:qab}{r:Rt}(s:Option V)(hp:bG Z i)(h:fY K Z tm O ρ σ H r v):fY K Z tm (O.set i none) (ρ.set i none) (σ.set i s) H r v:=by
 cases r with
 |vw t=>exact⟨h.1.nL s hp,h.2.aY (b9 i)⟩
 |fr t=>obtain⟨a,e,I,q,h0⟩:=h;exact⟨a,e,I.nL (Z:=Z.ex a) s hp,q.aY (b9 i),h0⟩
theorem Gq{tm:qab}{d:Fm}{D:Ends}(hp:bG Z i)(F:Fin K Z tm d D):Fin K Z tm (Gn i d) (Gp i D) :=
 ⟨λO ρ σ H I h=>F.nx _ _ _ H (I.nL none hp) h,λO ρ σ H r v z h=>F.rt _ _ _ H r v (z.nL none hp) h,λO ρ σ H I h=>F.bk _ _ _ H (I.nL none hp) h,λO ρ σ H I h=>F.ct _ _ _ H (I.nL none hp) h⟩
section
variable{st:Stmt}{sts:qaq}{g:FS}
theorem K1{D:Ends}:∀{f:Flow}{s':Shared},SP (Qs X i y) pins (Gp i D) f s'->SP X pins D f s'
 |.next,s',⟨σ',H',I,q⟩=>⟨σ'.set i none,H',jq I,q⟩
 |.brk,s',⟨σ',H',I,q⟩=>⟨σ'.set i none,H',jq I,q⟩
 |.cont,s',⟨σ',H',I,q⟩=>⟨σ'.set i none,H',jq I,q⟩
 |.ret u,s',⟨v,σ',H',I,r,q⟩=>⟨v,σ'.set i none,H',jq I,r,q⟩
theorem BC(i:Nat)(y:Str)(hp:bG Z i)(h:VS (Qs X i y) Z st g):VS X Z st (Vw i g):=.mk λtm pins s σ H D I ⟨ρ,O,d,J,q,F⟩ =>
 b_ (h tm pins s (σ.set i none) H (Gp i D) (K0 i y I) ⟨ρ.set i none,O.set i none,Gn i d,J.nL none hp,q,Gq hp F⟩) λf s' z=>K1 z
end
section
variable{fo:FE}
def K2(fo fe:FE):FP:=λρ Q=>fo ρ λx=>match x with
 |.str z=>fe ρ λy=>match y with
  |.str y=>Q (.vw (.bl (Txt.startswith z y)))
  |_=>False
 |_=>False
theorem Dm(ho:VR X Z o fo)(he:VR X Z e fe)(c8:attributeBase o "startswith" X.env (eval o X.env)=eval o X.env:=by rfl)(j7:((backTo aV (starEach [e] X.env)).all (λx=>!x.1) && (backToKw aV (keywordEach [] X.env)).all (λx=>x.1.isSome)
    && decide (([e]:qap).length+([]:List Keyword).length+(if ([]:List Keyword).isEmpty then 0 else 1)<30))=true:=by rfl)(c9:(apos.endLine==aV.line)=true:=by rfl)(hs:starEach [e] X.env=(false,eval e X.env)::starEach [] X.env:=by rfl)(dH:(backTo aV (starEach [] X.env)).any (·.1)=false:=by rfl) :
  VP X Z (.Call (.Attribute o "startswith" apos) [e] [] aV) (K2 fo fe):=.mk λtm=>
 PE.weak (pA PySem.F.plainAttrs_str PySem.F.slot_str_startswith PySem.F.type_str_startswith rK (ho tm) (bt (he tm) cC hs) c8 j7 c9 hs dH) λσ H Q ⟨ρ,O,q,I,hf,k⟩ =>
  ⟨ρ,O,_,I,hf,λx hx v H1 s1 a1=>by
    split at hx
    rename_i z
    have ev:=a1.str;subst ev;refine⟨rfl,ρ,O,_,I.same s1,hx,λy hy w H2 s2 a2=>?_⟩;split at hy;have ew:=a2.str;subst ew;exact⟨z,_,rfl,rfl,k _ hy _ H2 (s1.trans s2) ⟨(I.same s1).same s2,dB⟩⟩;exact hy.elim;exact hx.elim⟩
end
section
variable{fo:FE}
def Vx(fo:FE)(g:FA):FP:=λρ Q=>fo ρ λx=>match x with
 |.str z=>g ρ λy=>∃ys:qai,y=[.lst (ys.map .str)]/\(ys.map (·.length)).sum+ys.length * z.length<=16777216/\Q (.vw (.str (Txt.join z ys)))
 |_=>False
theorem xr{K:qaf}{H:Hp}{A:qah}:∀{ys:qai}{vs:qak},aB K H A (ys.map .str) vs->vs=ys.map V.str
 |[],vs,h=>by simpa only[IV,aB] using h
 |y::ys,vs,h=>by simp only[gA,aB,At] at h;obtain⟨v,r,rfl,rfl,h⟩:=h;rw[xr h];rfl
theorem tu(ho:VR X Z o fo)(he:Pp X Z [e] g)(c8:attributeBase o "join" X.env (eval o X.env)=eval o X.env:=by rfl)(j7:((backTo aV (starEach [e] X.env)).all (λx=>!x.1) && (backToKw aV (keywordEach [] X.env)).all (λx=>x.1.isSome)
    && decide (([e]:qap).length+([]:List Keyword).length+(if ([]:List Keyword).isEmpty then 0 else 1)<30))=true:=by rfl)(c9:(apos.endLine==aV.line)=true:=by rfl)(hs:starEach [e] X.env=(false,eval e X.env)::starEach [] X.env:=by rfl)(dH:(backTo aV (starEach [] X.env)).any (·.1)=false:=by rfl) :
  VP X Z (.Call (.Attribute o "join" apos) [e] [] aV) (Vx fo g):=.mk λtm=>
 PE.weak (pA PySem.F.plainAttrs_str PySem.F.slot_str_join PySem.F.type_str_join JR (ho tm) (he tm) c8 j7 c9 hs dH) λσ H Q ⟨ρ,O,q,I,hf,k⟩ =>
  ⟨ρ,O,_,I,hf,λx hx v H1 s1 a1=>by
    split at hx
    rename_i z
    have ev:=a1.str;subst ev;refine⟨rfl,ρ,O,_,I.same s1,hx,λy hy w H2 s2 a2=>?_⟩;obtain⟨ys,rfl,hl,hq⟩:=hy;obtain⟨u,rfl,a3⟩:=cX a2;obtain⟨p,vs,rfl,h1,h2⟩:=a3.lst;have ev:=xr h2;subst ev;exact⟨z,p,ys,rfl,rfl,h1,hl,k _ hq _ H2 (s1.trans s2) ⟨(I.same s1).same s2,cS⟩⟩;exact hx.elim⟩
end
inductive S where
 |lf (t:T)
 |lst (xs:List S)
 |dk (ks:List Key) (ts:qaj)
 |dc (nh:List Key×Key->Int) (ks:List (List Key×Key)) (ts:qaj)
 |ins (C:Addr) (ns:qai) (xs:List S)
mutual
noncomputable def S.t:S->T
 |.lf t=>t
 |.lst xs=>.lst (S.ts xs)
 |.dk ks ts=>.dk ks ts
 |.dc nh ks ts=>.dc nh ks ts
 |.ins C ns xs=>.ins C ns (S.ts xs)
noncomputable def S.ts:List S->qaj
 |[]=>[]
 |x::xs=>S.t x::S.ts xs
end
def Vy:Key->T
 |.inl i=>.int i
 |.inr x=>.str x
def ckT(c:List Key×Key):T:=.tup [.tup (c.1.map Vy),Vy c.2]
theorem uU{A:qah}(k:Key):At K H A (Vy k) v↔v=kV k:=by cases k<;>simp only[Vy,At,kV]
theorem oW{K:qaf}{H:Hp}{A:qah}:∀(ks:List Key){vs:qak},aB K H A (ks.map Vy) vs↔vs=ks.map kV
 |[],vs=>by simp only[IV,aB]
 |k::ks,vs=>by simp only[gA,aB];constructor;rintro⟨v,r,rfl,h1,h2⟩;rw[(uU k).mp h1,(oW ks).mp h2];rintro rfl;exact⟨_,_,rfl,(uU k).mpr rfl,(oW ks).mpr rfl⟩
theorem Qu{A:qah}{c:List Key×Key}{b:Addr}:At K H A (ckT c) (.ref b)↔JU K H c b:=by unfold ckT JU;simp only[At,aB];constructor;rintro⟨a,vs,e,h1,v,r,rfl,⟨d,ws,rfl,h2,h3⟩,v2,r2,rfl,h4,rfl⟩;cases e;rw[(uU _).mp h4] at h1;rw[(oW _).mp h3] at h2;exact⟨d,h1,h2⟩;rintro⟨d,h1,h2⟩;exact⟨b,_,rfl,h1,_,_,rfl,⟨d,_,rfl,h2,(oW _).mpr rfl⟩,_,_,rfl,(uU _).mpr rfl,rfl⟩
mutual
def ck(K:qaf)(H:Hp)(A:qah):S->V->qah->Prop
 |.lf t,v,fp=>fp=[]/\At K H A t v
 |.lst xs,v,fp=>∃a vs gX,v=.ref a/\H a=some (.lst vs)/\fp=a::gX/\a_ K H A xs vs gX
 |.dk ks ts,v,fp=>∃a vs,v=.ref a/\fp=[a]/\ks.length=vs.length/\H a=some (.dK (ks.zip vs))/\aB K H A ts vs
 |.dc nh ks ts,v,fp=>∃a xs vs,v=.ref a/\fp=[a]/\H a=some (.ext (zw nh a xs))/\ks=xs.map (·.1)/\(a==sysModules)=false/\(∀x∈xs,At K H A (ckT x.1) (.ref x.2.1))/\Vals vs (xs.map (·.2.2))/\aB K H A ts vs
 |.ins C ns xs,v,fp=>∃a dx vs gX,v=.ref a/\ns.length=vs.length/\H a=some (.ins C dx (ns.zip vs))/\fp=a::gX/\a_ K H A xs vs gX
def a_(K:qaf)(H:Hp)(A:qah):List S->qak->qah->Prop
 |[],vs,fp=>vs=[]/\fp=[]
 |x::xs,vs,fp=>∃v r f g,vs=v::r/\fp=f++g/\ck K H A x v f/\a_ K H A xs r g
end
section
variable{A A':qah}
mutual
theorem ck.map(ha:∀t v,At K H A t v->At K H' A' t v):∀{s:S}{v:V}{fp:qah},(∀b∈fp,H' b=H b)->ck K H A s v fp->ck K H' A' s v fp
 |.lf t,v,fp,hn,h=>by simp only[ck] at h ⊢;exact⟨h.1,ha _ _ h.2⟩
 |.lst xs,v,fp,hn,h=>by simp only[ck] at h ⊢;obtain⟨a,vs,gX,rfl,e,rfl,q⟩:=h;exact⟨a,vs,gX,rfl,(hn a dG).trans e,rfl,a_.map ha (λb hb=>hn b (gD _ hb)) q⟩
 |.dk ks ts,v,fp,hn,h=>by simp only[ck] at h ⊢;obtain⟨a,vs,rfl,rfl,l,e,q⟩:=h;exact⟨a,vs,rfl,rfl,l,(hn a dG).trans e,aB.iff.mpr (Paired.mq (aB.iff.mp q) λ_ _ z=>ha _ _ z)⟩
 |.dc nh ks ts,v,fp,hn,h=>by simp only[ck] at h ⊢;obtain⟨a,xs,vs,rfl,rfl,e,ek,em,hk,hv,q⟩:=h;exact⟨a,xs,vs,rfl,rfl,(hn a dG).trans e,ek,em,λx hx=>ha _ _ (hk x hx),hv,aB.iff.mpr (Paired.mq (aB.iff.mp q) λ_ _ z=>ha _ _ z)⟩
 |.ins C ns xs,v,fp,hn,h=>by simp only[ck] at h ⊢;obtain⟨a,dx,vs,gX,rfl,l,e,rfl,q⟩:=h;exact⟨a,dx,vs,gX,rfl,l,(hn a dG).trans e,rfl,a_.map ha (λb hb=>hn b (gD _ hb)) q⟩
theorem a_.map(ha:∀t v,At K H A t v->At K H' A' t v):∀{xs:List S}{vs:qak}{fp:qah},(∀b∈fp,H' b=H b)->a_ K H A xs vs fp->a_ K H' A' xs vs fp
 |[],vs,fp,hn,h=>by simpa only[a_] using h
 |x::xs,vs,fp,hn,h=>by simp only[a_] at h ⊢;obtain⟨v,r,f,g,rfl,rfl,h1,h2⟩:=h;exact⟨v,r,f,g,rfl,rfl,ck.map ha (λb hb=>hn b (cy _ hb)) h1,a_.map ha (λb hb=>hn b (bW _ hb)) h2⟩
end
mutual
theorem ck.mut:∀{s:S}{v:V}{fp:qah},ck K H A s v fp->∀b∈fp,∃u,H b=some u/\jF u=true
 |.lf t,v,fp,h,b,hb=>by simp only[ck] at h;rw[h.1] at hb;cases hb
 |.lst xs,v,fp,h,b,hb=>by
  simp only[ck] at h;obtain⟨a,vs,gX,rfl,e,rfl,q⟩:=h;rcases c7.mp hb with z|z
  rw[z];exact⟨_,e,rfl⟩;exact a_.mut q b z
 |.dk ks ts,v,fp,h,b,hb=>by simp only[ck] at h;obtain⟨a,vs,rfl,rfl,l,e,q⟩:=h;rw[eX.mp hb];exact⟨_,e,rfl⟩
 |.dc nh ks ts,v,fp,h,b,hb=>by simp only[ck] at h;obtain⟨a,xs,vs,rfl,rfl,e,_⟩:=h;rw[eX.mp hb];exact⟨_,e,rfl⟩
 |.ins C ns xs,v,fp,h,b,hb=>by
  simp only[ck] at h;obtain⟨a,dx,vs,gX,rfl,l,e,rfl,q⟩:=h;rcases c7.mp hb with z|z
  rw[z];exact⟨_,e,rfl⟩;exact a_.mut q b z
theorem a_.mut:∀{xs:List S}{vs:qak}{fp:qah},a_ K H A xs vs fp->∀b∈fp,∃u,H b=some u/\jF u=true
 |[],vs,fp,h,b,hb=>by simp only[a_] at h;rw[h.2] at hb;cases hb
 |x::xs,vs,fp,h,b,hb=>by
  simp only[a_] at h;obtain⟨v,r,f,g,rfl,rfl,h1,h2⟩:=h;rcases cU.mp hb with z|z
  exact ck.mut h1 b z;exact a_.mut h2 b z
end
theorem ck.same{s:S}(sm:aM H H')(h:ck K H A s v fp):ck K H' A s v fp :=
 h.map (λ_ _ q=>q.same sm) λb hb=>by obtain⟨u,e,_⟩:=h.mut b hb;rw[e];exact sm _ _ e
theorem ck.more{s:S}(m:∀a∈A',a∈A\/H a=none)(h:ck K H A s v fp):ck K H A' s v fp:=h.map (λ_ _ q=>q.more m) λ_ _=>rfl
theorem ck.aY{s:S}(m:∀a∈A',a∈A)(h:ck K H A s v fp):ck K H A' s v fp:=h.map (λ_ _ q=>q.aY m) λ_ _=>rfl
mutual
theorem ck.view:∀{s:S}{v:V}{fp:qah},(∀b∈A',b∈A)->(∀b∈fp,b∉A')->ck K H A s v fp->At K H A' s.t v
 |.lf t,v,fp,hs,hn,h=>by simp only[ck,S.t] at h ⊢;exact h.2.aY hs
 |.lst xs,v,fp,hs,hn,h=>by simp only[ck,S.t,At] at h ⊢;obtain⟨a,vs,gX,rfl,e,rfl,q⟩:=h;exact⟨a,vs,rfl,.inl ⟨.inl e,hn a dG⟩,a_.view hs (λb hb=>hn b (gD _ hb)) q⟩
 |.dk ks ts,v,fp,hs,hn,h=>by simp only[ck,S.t,At] at h ⊢;obtain⟨a,vs,rfl,rfl,l,e,q⟩:=h;exact⟨a,vs,rfl,l,⟨e,hn a dG⟩,q.aY hs⟩
 |.dc nh ks ts,v,fp,hs,hn,h=>by simp only[ck,S.t,At] at h ⊢;obtain⟨a,xs,vs,rfl,rfl,e,ek,em,hk,hv,q⟩:=h;exact⟨a,xs,vs,rfl,⟨e,hn a dG⟩,ek,em,λx hx=>Qu.mp (hk x hx),hv,q.aY hs⟩
 |.ins C ns xs,v,fp,hs,hn,h=>by simp only[ck,S.t,At] at h ⊢;obtain⟨a,dx,vs,gX,rfl,l,e,rfl,q⟩:=h;exact⟨a,dx,vs,rfl,l,⟨e,hn a dG⟩,a_.view hs (λb hb=>hn b (gD _ hb)) q⟩
theorem a_.view:∀{xs:List S}{vs:qak}{fp:qah},(∀b∈A',b∈A)->(∀b∈fp,b∉A')->a_ K H A xs vs fp->aB K H A' (S.ts xs) vs
 |[],vs,fp,hs,hn,h=>by simp only[a_,S.ts,aB] at h ⊢;exact h.1
 |x::xs,vs,fp,hs,hn,h=>by simp only[a_,S.ts,aB] at h ⊢;obtain⟨v,r,f,g,rfl,rfl,h1,h2⟩:=h;exact⟨v,r,rfl,ck.view hs (λb hb=>hn b (cy _ hb)) h1,a_.view hs (λb hb=>hn b (bW _ hb)) h2⟩
end
end
inductive kG where
 |fld (C:Addr) (f:Str)
 |last
def ka(f:Str):qai->Option Nat
 |[]=>none
 |n::ns=>match f==n with
  |true=>some 0
  |false=>(ka f ns).map (· + 1)
def S.Vz:S->kG->Option Nat
 |.ins C ns xs,.fld C' f=>if C'=C then ka f ns else none
 |.lst xs,.last=>if 0<xs.length then some (xs.length-1) else none
 |_,_=>none
def S.kids:S->List S
 |.lst xs=>xs
 |.ins _ _ xs=>xs
 |_=>[]
def S.with:S->List S->S
 |.lst _,ys=>.lst ys
 |.ins C ns _,ys=>.ins C ns ys
 |s,_=>s
def S.get:S->List kG->Option S
 |s,[]=>some s
 |s,p::ps=>match s.Vz p with
  |some i=>match s.kids[i]? with
   |some x=>x.get ps
   |none=>none
  |none=>none
def S.put:S->List kG->S->S
 |_,[],y=>y
 |s,p::ps,y=>match s.Vz p with
  |some i=>match s.kids[i]? with
   |some x=>s.with (s.kids.set i (x.put ps y))
   |none=>s
  |none=>s
def f_(H:Hp)(v:V)(p:kG):Option V:=match v with
 |.ref a=>match H a with
  |some (.ins C _ fs)=>match p with
   |.fld C' f=>if C'=C then fs.lookup f else none
   |.last=>none
  |some (.lst vs)=>match p with
   |.last=>vs.getLast?
   |_=>none
  |_=>none
 |_=>none
def valAt(H:Hp):V->List kG->Option V
 |v,[]=>some v
 |v,p::ps=>(f_ H v p).bind λw=>valAt H w ps
theorem mW(H:Hp)(p:kG):∀(ps:List kG)(v:V),valAt H v (ps++[p])=(valAt H v ps).bind λw=>f_ H w p
 |[],v=>by show (f_ H v p).bind (λw=>some w)=(some v).bind λw=>f_ H w p;simp
 |q::ps,v=>by
  show (f_ H v q).bind (λw=>valAt H w (ps++[p]))=((f_ H v q).bind λw=>valAt H w ps).bind λw=>f_ H w p;cases f_ H v q with
  |none=>rfl
  |some w=>exact mW H p ps w
theorem mX(f:Str):∀(ns:qai)(vs:qak){i:Nat},ka f ns=some i->(ns.zip vs).lookup f=vs[i]?
 |[],vs,i,h=>by cases h
 |n::ns,[],i,h=>by simp
 |n::ns,v::vs,i,h=>by
  rw[Jj,IP];unfold ka at h;cases q:f==n with
  |true=>rw[q] at h;cases h;rfl
  |false=>
   rw[q] at h;dsimp only at h;cases e:ka f ns with
   |none=>rw[e] at h;cases h
   |some j=>rw[e] at h;cases h;exact mX f ns vs e
section
variable{A:qah}
theorem a_.length:∀{xs:List S}{vs:qak}{fp:qah},a_ K H A xs vs fp->vs.length=xs.length
 |[],vs,fp,h=>by simp only[a_] at h;rw[h.1];rfl
 |x::xs,vs,fp,h=>by simp only[a_] at h;obtain⟨v,r,f,g,rfl,rfl,h1,h2⟩:=h;simp[a_.length h2]
theorem a_.focus:∀{xs:List S}{vs:qak}{fp:qah}{i:Nat}{x:S},a_ K H A xs vs fp->xs[i]?=some x->∃v f1 f f2,vs[i]?=some v/\fp=f1++(f++f2)/\ck K H A x v f /\
  ∀{H':Hp}{A':qah}{y:S}{g:qah},(∀t v,At K H A t v->At K H' A' t v)->(∀b∈f1++f2,H' b=H b)->ck K H' A' y v g->a_ K H' A' (xs.set i y) vs (f1++(g++f2))
 |[],vs,fp,i,x,h,e=>by simp at e
 |x0::xs,vs,fp,0,x,h,e=>by simp only[YM,Option.some.injEq] at e;subst e;simp only[a_] at h;obtain⟨v,r,f,g,rfl,rfl,h1,h2⟩:=h;refine⟨v,[],f,g,rfl,rfl,h1,λha hn hy=>?_⟩;simp only[MA,a_];exact⟨v,r,_,g,rfl,rfl,hy,a_.map ha (λb hb=>hn b (by simpa using hb)) h2⟩
 |x0::xs,vs,fp,i+1,x,h,e=>by
   simp only[List.getElem?_cons_succ] at e;simp only[a_] at h;obtain⟨v,r,f,g,rfl,rfl,h1,h2⟩:=h;obtain⟨w,f1,f',f2,e1,rfl,h3,k⟩:=a_.focus h2 e;refine⟨w,f++f1,f',f2,by simpa using e1,by rw[MB],h3,λha hn hy=>?_⟩;simp only[Ep,a_];exact⟨v,r,f,_,rfl,by rw[MB],ck.map ha (λb hb=>hn b (by simp[hb])) h1,k ha (λb hb=>hn b (by
    rcases cU.mp hb with z|z
    simp[z];simp[z])) hy⟩
theorem ck.focus:∀{ps:List kG}{s x:S}{v:V}{fp:qah},ck K H A s v fp->s.get ps=some x->∃w f1 f f2,fp=f1++(f++f2)/\valAt H v ps=some w/\ck K H A x w f /\
  ∀{H':Hp}{A':qah}{y:S}{g:qah},(∀t v,At K H A t v->At K H' A' t v)->(∀b∈f1++f2,H' b=H b)->ck K H' A' y w g->ck K H' A' (s.put ps y) v (f1++(g++f2))
 |[],s,x,v,fp,h,e=>by cases e;exact⟨v,[],fp,[],by simp,rfl,h,λ_ _ hy=>by simpa[S.put] using hy⟩
 |p::ps,s,x,v,fp,h,e=>by
   unfold S.get at e;cases hk:s.Vz p with
   |none=>rw[hk] at e;cases e
   |some i=>
     rw[hk] at e;dsimp only at e;cases hx:s.kids[i]? with
     |none=>rw[hx] at e;cases e
     |some x0=>
       rw[hx] at e;dsimp only at e
       match s,h with
       |.lf t,h=>cases p<;>cases hk
       |.dk ks ts,h=>cases p<;>cases hk
       |.dc nh ks ts,h=>cases p<;>cases hk
       |.lst xs,h=>
         simp only[ck] at h;obtain⟨a,vs,gX,rfl,ea,rfl,q⟩:=h;obtain⟨v1,f1,f,f2,hv,rfl,h1,k1⟩:=a_.focus q hx;obtain⟨w,g1,g,g2,rfl,ev,h2,k2⟩:=ck.focus h1 e;have e1:f_ H (.ref a) p=some v1:=by
          cases p with
          |fld C f=>cases hk
          |last=>have zU:(if 0<xs.length then some (xs.length-1) else none)=some i:=hk;split at zU;cases zU;unfold f_;dsimp only;rw[ea];dsimp only;rw[wg,q.length];exact hv;cases zU
         refine⟨w,a::(f1++g1),g,g2++f2,by simp,by show (f_ H (.ref a) p).bind _=_;rw[e1];exact ev,h2,λ{H' A' y g'} ha hn hy=>?_⟩;unfold S.put;rw[hk];dsimp only;rw[hx];dsimp only;have h3:=k1 ha (λb hb=>hn b (by rcases cU.mp hb with z|z<;>simp[z])) (k2 ha (λb hb=>hn b (by rcases cU.mp hb with z|z<;>simp[z])) hy);simp only[S.with,S.kids,ck];exact⟨a,vs,_,rfl,(hn a (by simp)).trans ea,by simp,h3⟩
       |.ins C ns xs,h=>
         simp only[ck] at h;obtain⟨a,dx,vs,gX,rfl,l,ea,rfl,q⟩:=h;obtain⟨v1,f1,f,f2,hv,rfl,h1,k1⟩:=a_.focus q hx;obtain⟨w,g1,g,g2,rfl,ev,h2,k2⟩:=ck.focus h1 e;have e1:f_ H (.ref a) p=some v1:=by
          cases p with
          |last=>cases hk
          |fld C' f=>
            have zU:(if C'=C then ka f ns else none)=some i:=hk;split at zU
            rename_i hC
            unfold f_;dsimp only;rw[ea];dsimp only;rw[if_pos hC,mX f ns vs zU];exact hv;cases zU
         refine⟨w,a::(f1++g1),g,g2++f2,by simp,by show (f_ H (.ref a) p).bind _=_;rw[e1];exact ev,h2,λ{H' A' y g'} ha hn hy=>?_⟩;unfold S.put;rw[hk];dsimp only;rw[hx];dsimp only;have h3:=k1 ha (λb hb=>hn b (by rcases cU.mp hb with z|z<;>simp[z])) (k2 ha (λb hb=>hn b (by rcases cU.mp hb with z|z<;>simp[z])) hy);simp only[S.with,S.kids,ck];exact⟨a,dx,vs,_,rfl,l,(hn a (by simp)).trans ea,by simp,h3⟩
end
structure Mz where
 H0:Hp
 sU:qah
 Ox:qah
 a:Addr
 k:Nat
noncomputable def qq(H:Hp)(L:qah):Hp:=λb=>if b∈L then none else H b
theorem xt{L:qah}{b:Addr}{o:HO}(h:qq H L b=some o):H b=some o/\b∉L:=by
 unfold qq at h;split at h;cases h
 rename_i n;exact⟨h,n⟩
theorem Gr{L:qah}{b:Addr}(h:qq H L b=none):b∈L\/H b=none:=by
 unfold qq at h;split at h
 rename_i n;exact .inl n
 exact .inr h
theorem Gs{L:qah}{b:Addr}(h:b∈L):qq H L b=none:=by unfold qq;rw[if_pos h]
theorem K3{L:qah}{b:Addr}(h:b∉L):qq H L b=H b:=by unfold qq;rw[if_neg h]
structure Mf(K:qaf)(M:Mz)(O:HD)(fp:qah)(s:S)(H:Hp):Prop where
 oB:ck K H (roots O++(fp++M.Ox)) s (.ref M.a) fp
 nd:fp.Nodup
 mY:∀b∈fp,b∉roots O/\b∉M.Ox
 fr:∀b∈fp,b∈M.sU\/M.H0 b=none
 kp:∀b o,M.H0 b=some o->b∉M.sU->H b=some o/\b∉roots O
noncomputable abbrev zf(M:Mz)(O:HD)(H:Hp):Zc:=⟨qq H (roots O),[],M.Ox⟩
section
variable{M:Mz}{Of:HD}{s:S}{Hf:Hp}{tm:qab}
theorem Mf.now(F:Mf K M Of fp s Hf)(I:ax K (zf M Of Hf) tm O ρ σ H)(hr:∀b∈roots Of,∃u,Hf b=some u/\jF u=true):Mf K M O fp s H:=by
 have old:∀b∈roots O,b∈roots Of\/Hf b=none:=λb hb=>by
  rcases (I.own b hb).1 with z|z
  cases z;exact Gr z
 have kept:∀b o,Hf b=some o->b∉roots Of->H b=some o:=λb o e n=>I.keep b o (by show qq Hf (roots Of) b=some o;rw[K3 n];exact e) (by show b∉[];simp);have gX:∀b∈fp,∃u,Hf b=some u/\jF u=true:=F.oB.mut;refine⟨?_,F.nd,λb hb=>⟨λz=>?_,(F.mY b hb).2⟩,F.fr,λb o e n=>?_⟩;refine ck.map (λt v q=>?_) (λb hb=>?_) F.oB;have q1:At K Hf (roots Of++(roots O++(fp++M.Ox))) t v:=q.more λa ha=>by
  rcases cU.mp ha with z|z
  exact .inl (cy _ z);rcases cU.mp z with z|z
  rcases old a z with y|y
  exact .inl (cy _ y);exact .inr y;exact .inl (bW _ z)
 have q2:At K H (roots Of++(roots O++(fp++M.Ox))) t v:=q1.pW (as:=roots Of) kept (λa ha=>cy _ ha) hr;exact q2.aY λa ha=>bW _ ha;obtain⟨u,e,_⟩:=gX b hb;rw[e];exact kept b u e (F.mY b hb).1;rcases old b z with y|y
 exact (F.mY b hb).1 y;obtain⟨u,e,_⟩:=gX b hb;rw[e] at y;cases y;obtain⟨h1,h2⟩:=F.kp b o e n;refine⟨kept b o h1 h2,λz=>?_⟩;rcases old b z with y|y
 exact h2 y;rw[h1] at y;cases y
theorem ax.rebase(I:ax K Z tm O ρ σ H)(hZ:Z.P=[]):ax K ⟨qq H (roots O),[],Z.Ox⟩ tm O ρ σ H :=
 ⟨I.lσ,I.lO,I.sl,I.nd,λa h=>⟨.inr (Gs h),(I.own a h).2⟩,λp hp=>(nomatch hp),I.ox,λb o e _=>(xt e).1,I.pH⟩
structure lj(K:qaf)(M:Mz)(ρ:En)(s:S)(σ:St)(H:Hp):Prop where
 ex:∃O fp,Mf K M O fp s H/\ax K (zf M O H) [] O ρ σ H
 pin:ρ[M.k]?=some (some (.pin M.a s.t,false))
theorem lj.of(F:Mf K M Of fp s Hf)(hr:∀b∈roots Of,∃u,Hf b=some u/\jF u=true)(I:ax K (zf M Of Hf) [] O ρ σ H)(hp:ρ[M.k]?=some (some (.pin M.a s.t,false))):lj K M ρ s σ H :=
 ⟨⟨O,fp,F.now I hr,I.rebase (Z:=zf M Of Hf) rfl⟩,hp⟩
theorem bO(I:ax K (zf M O H) tm O ρ σ H):∀b∈roots O,∃u,H b=some u/\jF u=true:=λb hb=>(I.own b hb).2.2
noncomputable def uV:Option (T×Bool)->Option (T×Bool)
 |some (t,false)=>if bX t=true then some (t,false) else none
 |e=>e
def gv:Option (T×Bool)->Prop
 |some (.lst ts,true)=>dv ts=true
 |some (.dk _ ts,true)=>dv ts=true
 |some (_,true)=>False
 |_=>True
noncomputable def ll(M:Mz)(ρ:En)(s:S):En:=(ρ.map uV).set M.k (some (.pin M.a s.t,false))
theorem cD.bX{A A':qah}{t:T}(hi:gv (some (t,true)))(h:cD K H A a t)(e:H' a=H a)(hm:∀t v,bX t=true->At K H A t v->At K H' A' t v):cD K H' A' a t:=by
 have ml:∀{ts:qaj}{vs:qak},dv ts=true->aB K H A ts vs->aB K H' A' ts vs:=by
  intro ts;induction ts with
  |nil=>intro vs _ q;simpa only[aB] using q
  |cons t ts ih=>intro vs hi q;simp only[dv,mh] at hi;simp only[aB] at q ⊢;obtain⟨v,r,rfl,q1,q2⟩:=q;exact⟨v,r,rfl,hm _ _ hi.1 q1,ih hi.2 q2⟩
 cases t with
 |lst ts=>obtain⟨vs,e1,q⟩:=h;exact⟨vs,e.trans e1,ml hi q⟩
 |dk ks ts=>obtain⟨vs,l,e1,q⟩:=h;exact⟨vs,l,e.trans e1,ml hi q⟩
 |_=>exact False.elim hi
theorem Mf.write{fp':qah}{s':S}(F:Mf K M O fp s H)(I:ax K (zf M O H) [] O ρ σ H)(qr:∀e∈ρ,gv e)(hk:ρ[M.k]?≠none)(ho:O[M.k]?=some none)(hσ:σ[M.k]?=some (some (.ref M.a)))(fr:∀b o,H b=some o->b∉fp->H' b=some o)(hS:ck K H' (roots O++(fp'++M.Ox)) s' (.ref M.a) fp')(nd:fp'.Nodup)(mY:∀b∈fp',b∉roots O/\b∉M.Ox)(hfr:∀b∈fp',b∈M.sU\/M.H0 b=none):lj K M (ll M ρ s') s' σ H':=by
 have kept:∀b∈roots O,H' b=H b:=λb hb=>by obtain⟨u,e,_⟩:=bO I b hb;rw[e];exact fr _ _ e λz=>(F.mY b z).1 hb
 have tr:∀t v,bX t=true->At K H (av (zf M O H) O) t v->At K H' (roots O++M.Ox) t v:=λt v hi q=>by have q1:At K H fp t v:=At.bX hi q;exact At.bX hi (q1.pW (as:=fp) fr (λa h=>h) F.oB.mut)
 have acs:M.k<ρ.length:=by
  cases h:ρ[M.k]? with
  |none=>exact absurd h hk
  |some e=>exact (eB.mp h).1
 refine⟨⟨O,fp',⟨hS,nd,mY,hfr,λb o e n=>?_⟩,⟨?_,?_,λj e h=>?_,I.nd,λb hb=>⟨.inr (Gs hb),(I.own b hb).2.1,?_⟩,λp hp=>(nomatch hp),λb hb=>?_,λb o e _=>(xt e).1,λp hp=>(nomatch hp)⟩⟩,?_⟩;obtain⟨h1,h2⟩:=F.kp b o e n;refine⟨fr _ _ h1 λz=>?_,h2⟩;rcases F.fr b z with y|y
 exact n y;rw[e] at y;cases y;unfold ll;rw[IQ,c6];exact I.lσ;unfold ll;rw[IQ,c6];exact I.lO;unfold ll at h;rcases get_set h with⟨rfl,rfl,hl⟩|⟨ne,h⟩
 refine⟨none,_,ho,hσ,rfl,.ref M.a,rfl,?_⟩;simp only[At];refine⟨trivial,hS.view (λb hb=>?_) (λb hb z=>?_)⟩;rcases cU.mp hb with z|z
 exact cy _ z;exact bW _ (bW _ z);rcases cU.mp z with z|z
 exact (mY b hb).1 z;exact (mY b hb).2 z;rw[List.getElem?_map] at h;cases h0:ρ[j]? with
 |none=>rw[h0] at h;cases h
 |some e0=>
  rw[h0] at h;have he:uV e0=e:=Option.some.inj h;obtain⟨o,w,h1,h2,h3⟩:=I.sl j e0 h0;refine⟨o,w,h1,h2,?_⟩;subst he
  match e0,h3,h0 with
  |none,h3,_=>exact h3
  |some (t,false),h3,_=>obtain⟨rfl,v,rfl,q⟩:=h3;show mB K H' (av (zf M O H') O) (if bX t=true then some (t,false) else none) none (some v);by_cases hi:bX t=true;rw[if_pos hi];exact⟨rfl,v,rfl,tr t v hi q⟩;rw[if_neg hi];rfl
  |some (t,true),h3,h0=>obtain⟨c,rfl,rfl,q⟩:=h3;exact⟨c,rfl,rfl,q.bX (qr _ (gW h0)) (kept c (aK.mpr (gW h1))) tr⟩
 obtain⟨u,e,m⟩:=(I.own b hb).2.2;exact⟨u,(kept b hb).trans e,m⟩;cases e:H b with
 |none=>exact absurd e (I.ox b hb)
 |some u=>rw[fr _ _ e λz=>(F.mY b z).2 hb];simp
 unfold ll;rw[AY (by rw[c6];exact acs)]
end
structure NC where
 nx:En->S->Prop
 rt:En->S->qam
 bk:En->S->Prop:=λ_ _=>False
 ct:En->S->Prop:=λ_ _=>False
structure Qv(K:qaf)(M:Mz)(d:NC)(D:Ends):Prop where
 nx:∀ρ s σ H,lj K M ρ s σ H->d.nx ρ s->D.nx σ H
 rt:∀ρ s σ H r v O fp Of Hf,Mf K M Of fp s Hf->(∀b∈roots Of,∃u,Hf b=some u/\jF u=true)->fY K (zf M Of Hf) [] O ρ σ H r v->d.rt ρ s r->D.rt v H
 bk:∀ρ s σ H,lj K M ρ s σ H->d.bk ρ s->D.bk σ H
 ct:∀ρ s σ H,lj K M ρ s σ H->d.ct ρ s->D.ct σ H
abbrev FM:=NC->En->S->Prop
def lM(X:Cx)(M:Mz)(g:FM):TS:=λD σ H=>∃ρ s d,lj X.K M ρ s σ H/\g d ρ s/\Qv X.K M d D
structure Bm(p:Prop):Prop where
 h:p
def MS(X:Cx)(M:Mz)(st:Stmt)(g:FM):Prop:=Bm (PS X st (lM X M g))
def Dn(X:Cx)(M:Mz)(st:qaq)(g:FM):Prop:=Bm (gY X st (lM X M g))
section
variable{M:Mz}{st:Stmt}{rest:qaq}{g u:FM}
def acu(g u:FM):FM:=λd ρ s=>g {d with nx:=u d} ρ s
theorem cQ(h1:MS X M st g)(h2:Dn X M rest u):Dn X M (st::rest) (acu g u):=⟨gY.iM (cA h1.h h2.h) λD σ H ⟨ρ,s,d,I,h,F⟩ =>
 ⟨ρ,s,{d with nx:=u d},I,h,⟨λρ' s' σ' H' I' h'=>⟨ρ',s',d,I',h',F⟩,F.rt,F.bk,F.ct⟩⟩⟩
theorem cn(h1:MS X M st g):Dn X M [st] g:=⟨jg h1.h⟩
theorem Dn.weak(h:Dn X M rest g)(hw:∀d ρ s,u d ρ s->g d ρ s):Dn X M rest u:=⟨gY.iM h.h λD σ H ⟨ρ,s,d,I,q,F⟩=>⟨ρ,s,d,I,hw d ρ s q,F⟩⟩
noncomputable def dPl(M:Mz)(d:NC)(s:S):Fm:={nx:=λρ'=>ρ'[M.k]?=some (some (.pin M.a s.t,false))/\d.nx ρ' s,rt:=λρ' r=>d.rt ρ' s r,bk:=λρ'=>ρ'[M.k]?=some (some (.pin M.a s.t,false))/\d.bk ρ' s,ct:=λρ'=>ρ'[M.k]?=some (some (.pin M.a s.t,false))/\d.ct ρ' s}
noncomputable def mPl(M:Mz)(g:FS):FM:=λd ρ s=>g (dPl M d s) ρ
theorem Qw{s:S}{d:NC}{D:Ends}(F:Mf K M O fp s H)(I:ax K (zf M O H) [] O ρ σ H)(Fi:Qv K M d D):Fin K (zf M O H) [] (dPl M d s) D :=
 ⟨λO' ρ' σ' H' J ⟨h1,h2⟩=>Fi.nx _ _ _ _ (lj.of F (bO I) J h1) h2,λO' ρ' σ' H' r v z h=>Fi.rt _ _ _ _ r v _ _ _ _ F (bO I) z h,λO' ρ' σ' H' J ⟨h1,h2⟩=>Fi.bk _ _ _ _ (lj.of F (bO I) J h1) h2,λO' ρ' σ' H' J ⟨h1,h2⟩=>Fi.ct _ _ _ _ (lj.of F (bO I) J h1) h2⟩
theorem eJ{g:FS}(h:∀H0,VS X ⟨H0,[],M.Ox⟩ st g):MS X M st (mPl M g):=⟨PS.iM λD σ H ⟨ρ,s,d,⟨⟨O,fp,F,I⟩,hp⟩,hg,Fi⟩=>⟨_,h (qq H (roots O)) [],ρ,O,_,I,hg,Qw F I Fi⟩⟩
 where PS.iM {t:TS} (hw:∀D σ H,t D σ H->∃t':TS,PS X st t'/\t' D σ H):PS X st t:=λpins s σ H D I q=>let ⟨t',h1,h2⟩:=hw D σ H q;h1 pins s σ H D I h2
def mIf(c:FB)(g u:FM):FM:=λd ρ s=>c ρ λb=>if b=true then g d ρ s else u d ρ s
theorem xu{fc:FB}{a b:qaq}(hc:∀H0,VC X ⟨H0,[],M.Ox⟩ c fc)(ha:Dn X M a g)(hb:Dn X M b u):MS X M (.If c a b pos) (mIf fc g u):=⟨λpins s' σ H D J ⟨ρ,s,d,⟨⟨O,fp,F,I⟩,hp⟩,hg,Fi⟩ =>
 EC (hc (qq H (roots O)) []) ha.h hb.h pins s' σ H D J ⟨ρ,O,_,I,hg,λb hb H' sm=>by
  have St:lj X.K M ρ s σ H':=lj.of F (bO I) (I.same sm) hp;cases b with
  |true=>rw[if_pos rfl] at hb;exact Pj ⟨ρ,s,d,St,hb,Fi⟩
  |false=>rw[if_neg eO] at hb;exact Ph ⟨ρ,s,d,St,hb,Fi⟩⟩⟩
end
noncomputable def jR(k:Nat)(ps:List kG):TE:=λσ H Q=>∃v w,σ[k]?=some (some v)/\valAt H v ps=some w/\Q w H
section
variable{i:Expr}{k:Nat}{ps:List kG}{f:Str}
theorem mZ(hN:X.N[k]?=some x:=by rfl)(hv:j5 X.env.scope x:=by first|exact Or.inl rfl|exact Or.inr (Or.inl rfl)|exact Or.inr (Or.inr rfl))(hd:gC x:=by decide)(fA:tW x:=by decide):PE X (.Name x pos) (jR k []):=PE.weak (bV hN hv hd fA) λσ H Q ⟨v,w,h1,h2,q⟩=>by cases h2;exact⟨v,h1,q⟩
theorem kb(cl:y9 X.K C)(na:bb X.K C f)(he:PE X e (jR k ps))(hb:attributeBase e f X.env (eval e X.env)=eval e X.env:=by rfl):PE X (.Attribute e f pos) (jR k (ps++[.fld C f])) :=
 PE.weak (zb he hb) λσ H Q ⟨v,w,h1,h2,q⟩=>by
  rw[mW] at h2;cases e0:valAt H v ps with
  |none=>rw[e0] at h2;cases h2
  |some w0=>
   rw[e0] at h2;have h3:f_ H w0 (.fld C f)=some w:=h2;refine⟨v,w0,h1,e0,?_⟩;unfold f_ at h3;split at h3
   rename_i a
   split at h3
   rename_i C' dx fs ea
   dsimp only at h3;split at h3
   rename_i hC
   subst hC;exact⟨a,_,dx,fs,w,rfl,ea,cl,na,h3,q⟩;cases h3;dsimp only at h3;cases h3;cases h3;cases h3
theorem K4(he:PE X e (jR k ps))(hi:PE X i (tC (.int (-1))))(hs:uh i:=by intro _ _;rfl):PE X (.Subscript e i pos) (jR k (ps++[.last])) :=
 PE.weak (MV A8 he hi hs) λσ H Q ⟨v,w,h1,h2,q⟩=>by
  rw[mW] at h2;cases e0:valAt H v ps with
  |none=>rw[e0] at h2;cases h2
  |some w0=>
   rw[e0] at h2;have h3:f_ H w0 .last=some w:=h2;refine⟨v,w0,h1,e0,?_⟩;unfold f_ at h3;split at h3
   rename_i a
   split at h3;dsimp only at h3;cases h3
   rename_i vs ea
   dsimp only at h3;refine⟨a,vs,-1,w,rfl,rfl,fW.of ea,?_,q⟩;have hl:0<vs.length:=by cases vs<;>simp_all
   rw[wg] at h3;unfold jN v8;rw[if_neg (by decide),if_pos (by omega)];have e:(-1+(vs.length:Int)).toNat=vs.length-1:=by omega
   rw[e];exact h3;cases h3;cases h3
end
theorem VB{j}{p':Pos}:PE X (.UnaryOp .USub (.Constant (.int 1) j p) p') (tC (.int (-1))):=PE.weak (MN EI Ex) λσ H Q h=>⟨_,rfl,h⟩
section
variable{M:Mz}{s:S}{A:qah}
theorem a_.ND:∀{xs:List S}{vs:qak}{fp:qah}{i:Nat}{t0 t:T}{v:V},a_ K H A xs vs fp->xs[i]?=some (.lf t0)->At K H A t v->a_ K H A (xs.set i (.lf t)) (vs.set i v) fp
 |[],vs,fp,i,t0,t,v,h,e,q=>by simp at e
 |x::xs,vs,fp,0,t0,t,v,h,e,q=>by cases e;simp only[a_,ck] at h;obtain⟨v0,r,f,g,rfl,rfl,⟨rfl,_⟩,h2⟩:=h;simp only[MA,a_,ck];exact⟨v,r,[],g,rfl,rfl,⟨rfl,q⟩,h2⟩
 |x::xs,vs,fp,i+1,t0,t,v,h,e,q=>by simp only[a_] at h;obtain⟨v0,r,f,g,rfl,rfl,h1,h2⟩:=h;simp only[Ep,a_];exact⟨v0,r.set i v,f,g,rfl,rfl,h1,h2.ND (by simpa using e) q⟩
theorem BD(f:Str)(y:V):∀(ns:qai)(vs:qak){i:Nat},ns.length=vs.length->ka f ns=some i->dy f y (ns.zip vs)=ns.zip (vs.set i y)
 |[],vs,i,_,h=>by cases h
 |n::ns,[],i,l,h=>by simp at l
 |n::ns,v::vs,i,l,h=>by
  rw[Jj];show (if n=f then (n,y)::ns.zip vs else (n,v)::dy f y (ns.zip vs))=_;unfold ka at h;cases q:f==n with
  |true=>rw[q] at h;cases h;rw[if_pos (eq_of_beq q).symm];rfl
  |false=>
   rw[q] at h;have ne:¬ n=f:=λe=>by rw[e] at q;simp at q
   rw[if_neg ne];cases z:ka f ns with
   |none=>rw[z] at h;cases h
   |some j=>rw[z] at h;cases h;rw[BD f y ns vs (by simpa using l) z];rfl
theorem cR(I:ax K (zf M O H) [] O ρ σ H)(hp:ρ[M.k]?=some (some (.pin M.a s.t,false))):O[M.k]?=some none/\σ[M.k]?=some (some (.ref M.a)):=by obtain⟨o,sv,h1,h2,h3⟩:=I.sl M.k _ hp;obtain⟨rfl,v,rfl,q⟩:=h3;simp only[At] at q;obtain⟨rfl,_⟩:=q;exact⟨h1,h2⟩
theorem Mf.put{ps:List kG}{x:S}(F:Mf K M O fp s H)(I:ax K (zf M O H) [] O ρ σ H)(hp:ρ[M.k]?=some (some (.pin M.a s.t,false)))(qr:∀e∈ρ,gv e)(hg:s.get ps=some x) :
  ∃w f,valAt H (.ref M.a) ps=some w/\ck K H (roots O++(fp++M.Ox)) x w f/\(∀b∈f,b∈fp)/\f.Nodup /\
   ∀{b:Addr}{u:HO}{y:S},b∈f->ck K (upd H b u) (roots O++(fp++M.Ox)) y w f->lj K M (ll M ρ (s.put ps y)) (s.put ps y) σ (upd H b u):=by
 obtain⟨w,f1,f,f2,zV,ev,hs,back⟩:=F.oB.focus hg;have sub:∀b∈f,b∈fp:=λb hb=>by rw[zV];exact bW _ (cy _ hb)
 have nd:=F.nd;have zW:=nd;rw[zV] at zW;have ndf:f.Nodup:=((yN.mp zW).2.1 |> yN.mp).1;refine⟨w,f,ev,hs,sub,ndf,λ{b u y} hb hy=>?_⟩;obtain⟨ho,hσ⟩:=cR I hp;obtain⟨u0,e0,m0⟩:=F.oB.mut b (sub b hb);have hA:b∈roots O++(fp++M.Ox):=bW _ (cy _ (sub b hb));refine F.write I qr (by rw[hp];simp) ho hσ (λb' o e n=>?_) (fp':=fp) ?_ nd F.mY F.fr;rw[aC (λz=>n (by rw[z];exact sub b hb))];exact e;have r:=back (H':=upd H b u) (A':=roots O++(fp++M.Ox)) (λt v q=>q.wrote hA e0 m0) (λb' Qx=>?_) hy;rw[<- zV] at r;exact r;refine aC λz=>?_;subst z;have n1:=yN.mp zW;have n2:=yN.mp n1.2.1;rcases cU.mp Qx with q|q
 exact n1.2.2 _ q _ (cy _ hb) rfl;exact n2.2.2 _ hb _ q rfl
end
section
variable{M:Mz}{f:Str}
noncomputable def acv(M:Mz)(C:Addr)(f:Str)(fe:FE):FM:=λd ρ s=>fe ρ λt=>bX t=true/\(∀e∈ρ,gv e)/\∃ns xs i t0,s=.ins C ns xs/\xs.length<1000/\ka f ns=some i/\xs[i]?=some (.lf t0)/\d.nx (ll M ρ (.ins C ns (xs.set i (.lf t)))) (.ins C ns (xs.set i (.lf t)))
theorem kc(cl:y9 X.K C)(na:bb X.K C f)(he:∀H0,VE X ⟨H0,[],M.Ox⟩ e fe)(hN:X.N[M.k]?=some x)(hv:j5 X.env.scope x:=by first|exact Or.inl rfl|exact Or.inr (Or.inl rfl)|exact Or.inr (Or.inr rfl))(hd:gC x:=by decide)(fA:tW x:=by decide)(hs:swapsWith e (some (.Attribute (.Name x p) f fB)) pos.line X.env=pure false:=by rfl) :
  MS X M (.Assign [.Attribute (.Name x p) f fB] e pos) (acv M C f fe):=⟨λpins s' σ H D J ⟨ρ,s,d,⟨⟨O,fp,F,I⟩,hp⟩,hg,Fi⟩=>by
 refine fD (bV hN hv hd fA) (he (qq H (roots O)) []) hs pins s' σ H D J ⟨ρ,O,_,I,hg,λt ht v H1 sm a=>?_⟩;obtain⟨hi,qr,ns,xs,i,t0,rfl,hlen,hix,hx,hq⟩:=ht;have I0:=I.same sm;have F1:=F.now I0 (bO I);have I1:=I0.rebase (Z:=zf M O H) rfl;obtain⟨w,f',ev,hS,sub,nd,wr⟩:=F1.put (ps:=[]) I1 hp qr rfl;cases ev;have oX:=hS;simp only[ck] at oX;obtain⟨a',dx,vs,gX,ea,hl,ha,rfl,hL⟩:=oX;cases ea;obtain⟨_,hσ⟩:=cR I1 hp;refine⟨.ref M.a,hσ,M.a,C,dx,_,rfl,ha,cl,na,?_,?_⟩;rw[MD,hl,MH,hL.length];exact hlen;rw[BD f v ns vs hl hix];have hA:M.a∈roots O++(fp++M.Ox):=bW _ (cy _ (sub _ dG));refine Fi.nx _ _ σ _ (wr (y:=.ins C ns (xs.set i (.lf t))) dG ?_) hq;simp only[ck];refine⟨M.a,dx,vs.set i v,gX,rfl,by rw[IQ];exact hl,aG,rfl,?_⟩;refine (hL.map (λt v q=>q.wrote hA ha rfl) λb hb=>aC λz=>?_).ND hx ((At.bX hi a).wrote hA ha rfl);subst z;exact (kB.mp nd).1 hb⟩
end
theorem Dp(sm:aM H H'){w:V}{p:kG}(h:f_ H v p=some w):f_ H' v p=some w:=by
 unfold f_ at h ⊢;split at h
 rename_i a
 cases e:H a with
 |none=>rw[e] at h;cases h
 |some o=>rw[e] at h;rw[sm _ _ e];exact h
 cases h
theorem ig{H H':Hp}(sm:aM H H'):∀{ps:List kG}{v w:V},valAt H v ps=some w->valAt H' v ps=some w
 |[],v,w,h=>h
 |p::ps,v,w,h=>by
  unfold valAt at h ⊢;cases e:f_ H v p with
  |none=>rw[e] at h;cases h
  |some u=>rw[e] at h;rw[Dp sm e];exact ig sm (ps:=ps) h
section
variable{M:Mz}{i:Expr}{ps:List kG}
noncomputable def VF(M:Mz)(ps:List kG)(fi fe:FE):FM:=λd ρ s=>fe ρ λt=>(∃x,s.get ps=some x)/\fi ρ λj=>match uQ j with
 |some kk=>bX t=true/\(∀e∈ρ,gv e)/\∃ks ts,s.get ps=some (.dk ks ts)/\ts.length<16777216/\d.nx (ll M ρ (s.put ps (.dk (dP ks kk) (bH ks ts kk t)))) (s.put ps (.dk (dP ks kk) (bH ks ts kk t)))
 |none=>False
theorem BE{fi:FE}(hu:X.A.units+1<cLine)(ho:PE X o (jR M.k ps))(hi:∀H0,VR X ⟨H0,[],M.Ox⟩ i fi)(he:∀H0,VE X ⟨H0,[],M.Ox⟩ e fe)(hs:swapsWith e (some (.Subscript o i fB)) pos.line X.env=pure false:=by rfl) :
  MS X M (.Assign [.Subscript o i fB] e pos) (VF M ps fi fe):=⟨λpins s' σ H D J ⟨ρ,s,d,⟨⟨O,fp,F,I⟩,hp⟩,hg,Fi⟩=>by
 refine Bt hu ho (hi (qq H (roots O)) []) (he (qq H (roots O)) []) hs pins s' σ H D J ⟨ρ,O,_,I,hg,λt ht v H1 s1 a1=>?_⟩;obtain⟨⟨x,hx⟩,ht⟩:=ht;obtain⟨w,_,_,_,_,ev,_,_⟩:=(F.now (I.same s1) (bO I)).oB.focus hx;obtain⟨_,hσ⟩:=cR I hp;refine⟨.ref M.a,w,hσ,ev,ρ,O,_,I.same s1,ht,λj hj w' H2 s2 a2=>?_⟩;split at hj
 rename_i kk ek
 obtain⟨NF,qr,ks,ts,Gu,hlen,hq⟩:=hj;have I0:=(I.same s1).same s2;have F2:=F.now I0 (bO I);have I2:=I0.rebase (Z:=zf M O H) rfl;obtain⟨w2,f',NG,hS,sub,nd,wr⟩:=F2.put (ps:=ps) I2 hp qr Gu;rw[ig s2 ev] at NG;cases NG;have oX:=hS;simp only[ck] at oX;obtain⟨l,xs,rfl,rfl,hl,h3,h4⟩:=oX;have q:=Gf ks xs kk v hl;have hz:(ks.zip xs).length<sizeLine:=by rw[sizeLine_eq,MD,hl,MH,h4.length];omega
 have hA:l∈roots O++(fp++M.Ox):=bW _ (cy _ (sub _ dG));rw[jn a2 ek];refine⟨l,_,rfl,C9.k h3 hz,?_⟩;rw[q.1];refine Fi.nx _ _ σ _ (wr (y:=.dk (dP ks kk) (bH ks ts kk t)) dG ?_) hq;simp only[ck];exact⟨l,bH ks xs kk v,rfl,rfl,q.2,aG,aB.wrote hA h3 rfl (xk h4 (At.bX NF (a1.same s2)))⟩;exact hj.elim⟩
end
theorem a_.Gv{A:qah}{t:T}:∀{xs:List S}{vs:qak}{fp:qah},a_ K H A xs vs fp->At K H A t v->a_ K H A (xs++[.lf t]) (vs++[v]) fp
 |[],vs,fp,h,q=>by simp only[a_] at h;obtain⟨rfl,rfl⟩:=h;simp only[MC,a_,ck];exact⟨v,[],[],[],rfl,rfl,⟨rfl,q⟩,rfl,rfl⟩
 |x::xs,vs,fp,h,q=>by simp only[a_] at h;obtain⟨v0,r,f,g,rfl,rfl,h1,h2⟩:=h;simp only[Jk,a_];exact⟨v0,r++[v],f,g,rfl,rfl,h1,h2.Gv q⟩
section
variable{M:Mz}{ps:List kG}
noncomputable def acw(M:Mz)(ps:List kG)(fe:FE):FM:=λd ρ s=>∃ys,s.get ps=some (.lst ys)/\ys.length<16777216/\fe ρ λt=>bX t=true/\(∀e∈ρ,gv e)/\d.nx (ll M ρ (s.put ps (.lst (ys++[.lf t])))) (s.put ps (.lst (ys++[.lf t])))
theorem Dq(ho:PE X o (jR M.k ps))(he:∀H0,VE X ⟨H0,[],M.Ox⟩ e fe)(c8:attributeBase o "append" X.env (eval o X.env)=eval o X.env:=by rfl)(j7:((backTo aV (starEach [e] X.env)).all (λx=>!x.1) && (backToKw aV (keywordEach [] X.env)).all (λx=>x.1.isSome)
    && decide (([e]:qap).length+([]:List Keyword).length+(if ([]:List Keyword).isEmpty then 0 else 1)<30))=true:=by rfl)(c9:(apos.endLine==aV.line)=true:=by rfl)(hs:starEach [e] X.env=(false,eval e X.env)::starEach [] X.env:=by rfl)(dH:(backTo aV (starEach [] X.env)).any (·.1)=false:=by rfl)(JQ:swapsWith (.Call (.Attribute o "append" apos) [e] [] aV) none pos.line X.env=pure false:=by rfl) :
  MS X M (.Expr (.Call (.Attribute o "append" apos) [e] [] aV) pos) (acw M ps fe):=⟨λpins s' σ H D J ⟨ρ,s,d,⟨⟨O,fp,F,I⟩,hp⟩,hg,Fi⟩=>by
 obtain⟨ys,Gu,hlen,hg⟩:=hg;obtain⟨w,_,f,_,_,ev,VH,_⟩:=F.oB.focus Gu;have xv:=VH;simp only[ck] at xv;obtain⟨l,xs,gX,rfl,hl,rfl,hL⟩:=xv;obtain⟨_,hσ⟩:=cR I hp;refine kM (pA SA sG sH bc ho (bt (he (qq H (roots O)) []) cC hs) c8 j7 c9 hs dH) JQ pins s' σ H D J
  ⟨.ref M.a,.ref l,hσ,ev,.inl ⟨rfl,xs,fW.of hl⟩,ρ,O,_,I,hg,λt ht v H1 s1 a1=>?_⟩
 obtain⟨NF,qr,hq⟩:=ht;have I0:=I.same s1;have F1:=F.now I0 (bO I);have I1:=I0.rebase (Z:=zf M O H) rfl;obtain⟨w2,f',NG,hS,sub,nd,wr⟩:=F1.put (ps:=ps) I1 hp qr Gu;rw[ig s1 ev] at NG;cases NG;have oX:=hS;simp only[ck] at oX;obtain⟨l',Ei,K6,e',t_,rfl,VJ⟩:=oX;cases e';have hA:l∈roots O++(fp++M.Ox):=bW _ (cy _ (sub _ dG));refine⟨l,Ei,v,rfl,rfl,t_,by rw[sizeLine_eq,VJ.length];omega,?_⟩;refine Fi.nx _ _ σ _ (wr (y:=.lst (ys++[.lf t])) dG ?_) hq;simp only[ck];refine⟨l,Ei++[v],K6,rfl,aG,rfl,?_⟩;refine (VJ.map (λt v q=>q.wrote hA t_ rfl) λb hb=>aC λz=>?_).Gv ((At.bX NF a1).wrote hA t_ rfl);subst z;exact (kB.mp nd).1 hb⟩
end
section
variable{M:Mz}{s:S}{A:qah}
theorem Mf.acx{ps:List kG}{x:S}(F:Mf K M O fp s H)(I:ax K (zf M O H) [] O ρ σ H)(hp:ρ[M.k]?=some (some (.pin M.a s.t,false)))(qr:∀e∈ρ,gv e)(hg:s.get ps=some x) :
  ∃w f,valAt H (.ref M.a) ps=some w/\ck K H (roots O++(fp++M.Ox)) x w f/\(∀b∈f,b∈fp)/\f.Nodup /\
   ∀{H':Hp}{g:qah}{y:S},(∀b o,H b=some o->b∉f->H' b=some o)->g.Nodup->(∀b∈g,b∈f\/H b=none) ->
    (∀A',(∀t v,At K H (roots O++(fp++M.Ox)) t v->At K H' A' t v)->ck K H' A' y w g)->lj K M (ll M ρ (s.put ps y)) (s.put ps y) σ H':=by
 obtain⟨w,f1,f,f2,zV,ev,hs,back⟩:=F.oB.focus hg;have sub:∀b∈f,b∈fp:=λb hb=>by rw[zV];exact bW _ (cy _ hb)
 have lp:∀b∈f1++f2,b∈fp:=λb hb=>by
  rw[zV];rcases cU.mp hb with z|z
  exact cy _ z;exact bW _ (bW _ z)
 have zW:=F.nd;rw[zV] at zW;have n1:=yN.mp zW;have n2:=yN.mp n1.2.1;refine⟨w,f,ev,hs,sub,n2.1,λ{H' g y} fr ndg Qy hy=>?_⟩;obtain⟨ho,hσ⟩:=cR I hp;have out:∀b∈f1++f2,b∉f:=λb hb z=>by
  rcases cU.mp hb with q|q
  exact n1.2.2 _ q _ (cy _ z) rfl;exact n2.2.2 _ z _ q rfl
 have go:∀t v,At K H (roots O++(fp++M.Ox)) t v->At K H' (roots O++((f1++(g++f2))++M.Ox)) t v:=λt v q=>by
  have q1:At K H (g++(roots O++(fp++M.Ox))) t v:=q.more λa ha=>by
   rcases cU.mp ha with z|z
   rcases Qy a z with y|y
   exact .inl (bW _ (cy _ (sub a y)));exact .inr y;exact .inl z
  have q2:=q1.pW (H':=H') (as:=f) fr (λa ha=>bW _ (bW _ (cy _ (sub a ha)))) λa ha=>F.oB.mut a (sub a ha);refine q2.aY λa ha=>?_;rcases cU.mp ha with z|z
  exact bW _ (cy _ z);rcases cU.mp z with z|z
  rcases cU.mp z with z|z
  exact bW _ (bW _ (cy _ (lp a (cy _ z))));rcases cU.mp z with z|z
  exact cy _ z;exact bW _ (bW _ (cy _ (lp a (bW _ z))));exact bW _ (bW _ (bW _ z))
 have Qz:∀b∈fp,H b≠none:=λb hb=>by obtain⟨u,e,_⟩:=F.oB.mut b hb;rw[e];simp
 have each:∀b∈f1++(g++f2),b∈fp\/H b=none:=λb hb=>by
  rcases cU.mp hb with z|z
  exact .inl (lp b (cy _ z));rcases cU.mp z with z|z
  exact (Qy b z).imp (sub b) id;exact .inl (lp b (bW _ z))
 have Gw:∀b∈g,b∉f1++f2:=λb hb z=>by
  rcases Qy b hb with y|y
  exact out b z y;exact Qz b (lp b z) y
 refine F.write I qr (by rw[hp];simp) ho hσ (λb' o e n=>fr b' o e λz=>n (sub b' z)) (fp':=f1++(g++f2)) ?_ ?_ (λb hb=>?_) λb hb=>?_;refine back (H':=H') (A':=roots O++((f1++(g++f2))++M.Ox)) go (λb' Qx=>?_) (hy _ go);obtain⟨u,e,_⟩:=F.oB.mut b' (lp b' Qx);rw[e];exact fr _ _ e (out b' Qx);refine yN.mpr ⟨n1.1,yN.mpr ⟨ndg,n2.2.1,λa ha b hb z=>?_⟩,λa ha b hb z=>?_⟩;subst z;exact Gw a ha (bW _ hb);subst z;rcases cU.mp hb with y|y
 exact Gw a y (cy _ ha);exact n1.2.2 _ ha _ (bW _ y) rfl;rcases each b hb with z|z
 exact F.mY b z;refine⟨λy=>I.yP b (cy _ y) z,λy=>I.yP b (bW _ y) z⟩;rcases each b hb with z|z
 exact F.fr b z;cases e:M.H0 b with
 |none=>exact .inr rfl
 |some o=>refine .inl (Ti λn=>?_);rw[(F.kp b o e n).1] at z;cases z
theorem lj.put{t:T}(S:lj K M ρ s σ H)(hj:M.k≠j)(hi:bX t=true)(a:At K H A t v):lj K M (ρ.set j (some (t,false))) s (σ.set j (some v)) H:=by obtain⟨⟨O,fp,F,I⟩,hp⟩:=S;exact lj.of F (bO I) (I.put (λp hp=>absurd hp gE) (At.bX hi a)) (by rw[rC (Ne.symm hj)];exact hp)
end
section
variable{A:qah}
theorem a_.Gx{z:S}:∀{ys:List S}{vs:qak}{fp:qah},a_ K H A (ys++[z]) vs fp->∃SR v f g,vs=SR++[v]/\fp=f++g/\a_ K H A ys SR f/\ck K H A z v g
 |[],vs,fp,h=>by simp only[MC,a_] at h;obtain⟨v,r,f,g,rfl,rfl,h1,rfl,rfl⟩:=h;exact⟨[],v,[],f,rfl,by simp,by simp[a_],h1⟩
 |x::xs,vs,fp,h=>by simp only[Jk,a_] at h;obtain⟨v0,r,f,g,rfl,rfl,h1,h2⟩:=h;obtain⟨SR,v,f',g',rfl,rfl,h3,h4⟩:=a_.Gx h2;refine⟨v0::SR,v,f++f',g',rfl,by simp,?_,h4⟩;simp only[a_];exact⟨v0,SR,f,f',rfl,rfl,h1,h3⟩
theorem a_.VL:∀{xs:List S}{vs:qak}{fp:qah}{i:Nat}{t:T},a_ K H A xs vs fp->xs[i]?=some (.lf t)->∃v,vs[i]?=some v/\At K H A t v:=λh e=>by obtain⟨v,f1,f,f2,e1,_,h1,_⟩:=h.focus e;simp only[ck] at h1;exact⟨v,e1,h1.2⟩
end
section
variable{M:Mz}{ps:List kG}{f:Str}{VM VN:Pos}
noncomputable def VQ(M:Mz)(j:Nat)(ps:List kG)(C:Addr)(f:Str):FM:=λd ρ s=>∃ys ns zs i t,M.k≠j/\s.get ps=some (.lst (ys++[.ins C ns zs]))/\ka f ns=some i/\zs[i]?=some (.lf t)/\bX t=true/\(∀e∈ρ,gv e)/\d.nx ((ll M ρ (s.put ps (.lst ys))).set j (some (t,false))) (s.put ps (.lst ys))
theorem K7(hN:X.N.Nodup)(hj:X.N[j]?=some x)(hx:Loc X.env.scope x)(cl:y9 X.K C)(na:bb X.K C f)(ho:PE X o (jR M.k ps))(c8:attributeBase o "pop" X.env (eval o X.env)=eval o X.env:=by rfl)(c9:(apos.endLine==aV.line)=true:=by rfl)(Nq:attributeBase (.Call (.Attribute o "pop" apos) [] [] aV) f X.env (eval (.Call (.Attribute o "pop" apos) [] [] aV) X.env)=eval (.Call (.Attribute o "pop" apos) [] [] aV) X.env:=by rfl)(hs:swapsWith (.Attribute (.Call (.Attribute o "pop" apos) [] [] aV) f VM) (some (.Name x VN)) pos.line X.env=pure false:=by rfl)(hf:X.fn x=true\/X.env.scope.names.lookup x=some .local:=by first|exact .inl rfl|exact .inr rfl|assumption) :
  MS X M (.Assign [.Name x VN] (.Attribute (.Call (.Attribute o "pop" apos) [] [] aV) f VM) pos) (VQ M j ps C f):=⟨λpins s' σ H D J ⟨ρ,s,d,⟨⟨O,fp,F,I⟩,hp⟩,hg,Fi⟩=>by
 obtain⟨ys,ns,zs,i,t,hkj,Gu,hix,hz,NF,qr,hq⟩:=hg;obtain⟨w,f',ev,hS,sub,nd,wr⟩:=F.acx (ps:=ps) I hp qr Gu;have oX:=hS;simp only[ck] at oX;obtain⟨l,xs,gX,rfl,hl,rfl,hL⟩:=oX;obtain⟨xs0,v,g1,g2,rfl,rfl,hL1,hZ⟩:=hL.Gx;simp only[ck] at hZ;obtain⟨a,dx,vs,fz,rfl,hlen,ha,rfl,hLz⟩:=hZ;obtain⟨u,eu,au⟩:=hLz.VL hz;obtain⟨_,hσ⟩:=cR I hp;have nl:=kB.mp nd;have Yl:a≠l:=λz=>nl.1 (by rw[<- z];exact bW _ dG);have hA:l∈roots O++(fp++M.Ox):=bW _ (cy _ (sub _ dG));refine ud hN hj hx (zb (zo SA PySem.F.slot_list_pop PySem.F.type_list_pop EX ho c8 c9) Nq) hs hf pins s' σ H D J
  ⟨.ref M.a,.ref l,hσ,ev,.inl ⟨rfl,_,fW.of hl⟩,l,_,.ref a,rfl,rfl,hl,by simp,a,C,dx,_,u,rfl,by rw[aC Yl];exact ha,cl,na,by rw[mX f ns vs hix];exact eu,?_⟩
 rw[List.dropLast_concat];refine Fi.nx _ _ _ _ (lj.put (A:=[]) (wr (H':=upd H l (.lst xs0)) (g:=l::g1) (y:=.lst ys) (λb o e n=>?_) ?_ (λb hb=>?_) λA' go=>?_) hkj NF (At.bX NF (au.wrote hA hl rfl))) hq;rw[aC λz=>n (by rw[z];exact dG)];exact e;refine kB.mpr ⟨λz=>nl.1 (cy _ z),(yN.mp nl.2).1⟩;rcases c7.mp hb with z|z
 exact .inl (by rw[z];exact dG);exact .inl (gD _ (cy _ z));simp only[ck];refine⟨l,xs0,g1,rfl,aG,rfl,hL1.map go λb hb=>aC λz=>?_⟩;subst z;exact nl.1 (cy _ hb)⟩
end
section
variable{M:Mz}{s:S}{A:qah}
theorem Mf.putN{N:qah}{ps:List kG}{x:S}(F:Mf K M O fp s H)(FN:ck K H (N++(roots O++(fp++M.Ox))) s (.ref M.a) fp)(hN:∀b∈N,b∉fp/\b∉roots O/\b∉M.Ox/\(b∈M.sU\/M.H0 b=none))(I:ax K (zf M O H) [] O ρ σ H)(hp:ρ[M.k]?=some (some (.pin M.a s.t,false)))(qr:∀e∈ρ,gv e)(hg:s.get ps=some x) :
  ∃w f,valAt H (.ref M.a) ps=some w/\ck K H (N++(roots O++(fp++M.Ox))) x w f/\(∀b∈f,b∈fp)/\f.Nodup /\
   ∀{H':Hp}{g:qah}{y:S},(∀b o,H b=some o->b∉f->H' b=some o)->g.Nodup->(∀b∈g,b∈f\/H b=none\/b∈N) ->
    (∀A',(∀t v,At K H (N++(roots O++(fp++M.Ox))) t v->At K H' A' t v)->ck K H' A' y w g)->lj K M (ll M ρ (s.put ps y)) (s.put ps y) σ H':=by
 obtain⟨w,f1,f,f2,zV,ev,hs,back⟩:=FN.focus hg;have sub:∀b∈f,b∈fp:=λb hb=>by rw[zV];exact bW _ (cy _ hb)
 have lp:∀b∈f1++f2,b∈fp:=λb hb=>by
  rw[zV];rcases cU.mp hb with z|z
  exact cy _ z;exact bW _ (bW _ z)
 have zW:=F.nd;rw[zV] at zW;have n1:=yN.mp zW;have n2:=yN.mp n1.2.1;refine⟨w,f,ev,hs,sub,n2.1,λ{H' g y} fr ndg Qy hy=>?_⟩;obtain⟨ho,hσ⟩:=cR I hp;have out:∀b∈f1++f2,b∉f:=λb hb z=>by
  rcases cU.mp hb with q|q
  exact n1.2.2 _ q _ (cy _ z) rfl;exact n2.2.2 _ z _ q rfl
 have go:∀t v,At K H (N++(roots O++(fp++M.Ox))) t v->At K H' (roots O++((f1++(g++f2))++M.Ox)) t v:=λt v q=>by
  have q1:At K H (g++(N++(roots O++(fp++M.Ox)))) t v:=q.more λa ha=>by
   rcases cU.mp ha with z|z
   rcases Qy a z with y|y|y
   exact .inl (bW _ (bW _ (cy _ (sub a y))));exact .inr y;exact .inl (cy _ y);exact .inl z
  have q2:=q1.pW (H':=H') (as:=f) fr (λa ha=>bW _ (bW _ (bW _ (cy _ (sub a ha))))) λa ha=>F.oB.mut a (sub a ha);refine q2.aY λa ha=>?_;rcases cU.mp ha with z|z
  exact bW _ (bW _ (cy _ z));rcases cU.mp z with z|z
  rcases cU.mp z with z|z
  exact bW _ (bW _ (bW _ (cy _ (lp a (cy _ z)))));rcases cU.mp z with z|z
  exact cy _ z;exact bW _ (bW _ (bW _ (cy _ (lp a (bW _ z)))));exact bW _ (bW _ (bW _ (bW _ z)))
 have Qz:∀b∈fp,H b≠none:=λb hb=>by obtain⟨u,e,_⟩:=F.oB.mut b hb;rw[e];simp
 have each:∀b∈f1++(g++f2),b∈fp\/H b=none\/b∈N:=λb hb=>by
  rcases cU.mp hb with z|z
  exact .inl (lp b (cy _ z));rcases cU.mp z with z|z
  exact (Qy b z).imp (sub b) id;exact .inl (lp b (bW _ z))
 have Gw:∀b∈g,b∉f1++f2:=λb hb z=>by
  rcases Qy b hb with y|y|y
  exact out b z y;exact Qz b (lp b z) y;exact (hN b y).1 (lp b z)
 refine F.write I qr (by rw[hp];simp) ho hσ (λb' o e n=>fr b' o e λz=>n (sub b' z)) (fp':=f1++(g++f2)) ?_ ?_ (λb hb=>?_) λb hb=>?_;refine back (H':=H') (A':=roots O++((f1++(g++f2))++M.Ox)) go (λb' Qx=>?_) (hy _ go);obtain⟨u,e,_⟩:=F.oB.mut b' (lp b' Qx);rw[e];exact fr _ _ e (out b' Qx);refine yN.mpr ⟨n1.1,yN.mpr ⟨ndg,n2.2.1,λa ha b hb z=>?_⟩,λa ha b hb z=>?_⟩;subst z;exact Gw a ha (bW _ hb);subst z;rcases cU.mp hb with y|y
 exact Gw a y (cy _ ha);exact n1.2.2 _ ha _ (bW _ y) rfl;rcases each b hb with z|z|z
 exact F.mY b z;refine⟨λy=>I.yP b (cy _ y) z,λy=>I.yP b (bW _ y) z⟩;exact⟨(hN b z).2.1,(hN b z).2.2.1⟩;rcases each b hb with z|z|z
 exact F.fr b z;cases e:M.H0 b with
 |none=>exact .inr rfl
 |some o=>refine .inl (Ti λn=>?_);rw[(F.kp b o e n).1] at z;cases z
 exact (hN b z).2.2.2
end
end VT
variable{M:VT.Mz}
namespace PySem
open Sem (wp)
end PySem
namespace VT
open PySem PySem.Spec PyProof.Rows L2
def kAd(o:Obj)(i:Nat):Addr:=match o.data with
 |.dict es _=>match es[i]? with
  |some e=>match e.key with
   |.ref b=>b
   |_=>0
  |none=>0
 |_=>0
section
variable{κ:Type}[DecidableEq κ]
def acy:List κ->List α->κ->Option α
 |k::ks,t::ts,x=>if k=x then some t else acy ks ts x
 |_,_,_=>none
end
section
variable{a:Expr}{fc:FE}
def adi(fa fb:FE):FP:=λρ Q=>fa ρ λx=>fb ρ λy=>match x,y with
 |_,_=>False
def acz:T->T
 |.pin _ t=>t
 |t=>t
def acA(f:FE):FE:=λρ Q=>f ρ λt=>Q (acz t)
theorem bR(h:VR X Z e fa):VR X Z e (acA fa):=.mk λtm=>PE.weak (h tm) λσ H Q ⟨ρ,O,q,I,hf,k⟩=>⟨ρ,O,_,I,hf,λt ht v H' s z=>by
 refine k _ ht v H' s ?_;cases t with
 |pin b t=>
  obtain z|⟨a,_,r⟩:=z
  simp only[At] at z;exact .inl z.2;exact r.elim
 |_=>exact z⟩
end
end VT
namespace PySem
open Sem (wp)
end PySem
namespace VT
open PySem PySem.Spec PyProof.Rows L2
structure MG where
 a:Addr
 dx:Addr
 a1:Addr
 a2:Addr
 C:Addr
 H0:Hp
 n1:a≠a1
 n2:a≠a2
 n3:a1≠a2
structure S2 where
 k1:List (List Key)
 t1:qaj
 k2:List (List Key)
 t2:qaj
section
variable{M:MG}{tm:qab}{s:S2}
noncomputable def vwO(b:Option T):Option (T×Bool):=b.map λt=>(t,false)
end
structure GEn where
 nx:En->S2->Prop
 rt:S2->T->Prop
 bk:En->S2->Prop:=λ_ _=>False
 ct:En->S2->Prop:=λ_ _=>False
abbrev FG2:=GEn->En->S2->Prop
section
variable{A:qah}
theorem At.frame{t:T}(here:∀b∈A,∃u,H b=some u/\jF u=true)(fr:∀b o,H b=some o->b∉A->H' b=some o)(h:At K H A t v):At K H' A t v:=by
 have rd:∀{a:Addr}{u:HO},a∉A->Rd H a u->Rd H' a u:=λn q=>q.elim (λz=>.inl (fr _ _ z n)) λ⟨o,z⟩=>.inr ⟨o,fr _ _ z n⟩;refine At.map (λa vs q=>q.elim (λz=>.inl ⟨rd z.2 z.1,z.2⟩) .inr) (λa vs q=>q.elim (λz=>.inl (rd (λm=>?_) z)) .inr) (λa u q=>⟨fr _ _ q.1 q.2,q.2⟩) h;obtain⟨u,e,mu⟩:=here a m;obtain z|⟨o,z⟩:=z
 rw[e] at z;cases z;cases mu;rw[e] at z;cases z;cases mu
end
section
variable{Gg:T->S2->(S2->T->Prop)->Prop}{Gli:qaj->(qam)->Prop}
theorem QA(K:qaf)(H:Hp):ax K ⟨H,[],[]⟩ [] [] [] [] H:=⟨rfl,rfl,λi e h=>by simp at h,Jl,λa h=>absurd h gE,λp hp=>absurd hp gE,λa h=>absurd h gE,λb o e _=>e,λp hp=>absurd hp gE⟩
end
section
variable{F1 F2:Str}
noncomputable def VU(K:qaf)(C:Addr)(F1 F2:Str)(i n:Nat):TE:=λσ H Q=>∃v1 t1 p ks ts,σ[i]?=some (some v1)/\σ[n]?=some (some (.ref p))/\bX t1=true/\At K H [] t1 v1/\At K H [] (.dk ks ts) (.ref p) /\
 ∀a dx u H3,aM H H3->H a=none->H3 a=some (.ins C dx ([F1,F2].zip [u,.ref p]))->At K H3 [] t1 u->Q (.ref a) H3
theorem QB{xC:Str}{kC:Nat}{fI:Addr}{VY:FuncData}{psI:qai}{GI:qaj->(T->Prop)->Prop}{pC pd1 SV pc:Pos}(MI:Mk X.K C fI)(FI:cp X.prog X.w X.K X.mg X.base dS kC fI VY psI (NA X.K C 2 GI))(hGI:∀t1 t2 q,q (.ins C [F1,F2] [t1,t2])->GI [t1,t2] q)(rI:bx (kC+1) X.A)(gI:Gl X xC)(mI:X.mg xC=some (.ref C))(bI:Binds X.K VY psI [])(hN:X.N[i]?=some x:=by rfl)(hv:j5 X.env.scope x:=by first|exact Or.inl rfl|exact Or.inr (Or.inl rfl)|exact Or.inr (Or.inr rfl))(hd:gC x:=by decide)(fA:tW x:=by decide)(hN2:X.N[n]?=some y:=by rfl)(hv2:j5 X.env.scope y:=by first|exact Or.inl rfl|exact Or.inr (Or.inl rfl)|exact Or.inr (Or.inr rfl))(hd2:gC y:=by decide)(acB:tW y:=by decide)(db1:gC xC:=by decide)(s1:starEach [.Name x pd1,.Name y SV] X.env=(false,eval (.Name x pd1) X.env)::starEach [.Name y SV] X.env:=by rfl)(s2:starEach [.Name y SV] X.env=(false,eval (.Name y SV) X.env)::starEach [] X.env:=by rfl)(s3:(backTo pc (starEach [.Name y SV] X.env)).any (·.1)=false:=by rfl):PE X (.Call (.Name xC pC) [.Name x pd1,.Name y SV] [] pc) (VU X.K C F1 F2 i n) :=
 PE.weak (uf MI FI rI gI mI bI .nil jO (bt (bV hN hv hd fA) (bt (bV hN2 hv2 hd2 acB) cC s2) s1) db1 s1 s3) λσ H Q h=>by obtain⟨v1,t1,p,ks,ts,e1,e2,hi,a1,a2,k⟩:=h;refine⟨v1,e1,.ref p,e2,?_⟩;refine Bz (X:=X) (Z:=⟨_,[],[]⟩) (C:=C) (G:=GI) (Q:=Q) (q:=λr=>r=.fr (.ins C [F1,F2] [t1,.pin p (.dk ks ts)])) (QA X.K _) (ts:=[t1,.pin p (.dk ks ts)]) (vs:=[v1,.ref p]) (aB.cons a1 (aB.cons ?_ aB.nil)) rfl (hGI _ _ (λu=>Rt.fr u=.fr (.ins C [F1,F2] [t1,.pin p (.dk ks ts)])) rfl) (λr er v H3 sm z=>?_);unfold At;exact⟨rfl,a2⟩;subst er;obtain⟨a,rfl,_,⟨dx,vs,hl,ea,hv⟩,n0,_⟩:=z;simp only[aB] at hv;obtain⟨u,_,rfl,h1,_,_,rfl,h2,rfl⟩:=hv;unfold At at h2;obtain⟨rfl,_⟩:=h2;exact k a dx u H3 sm n0 ea (At.bX hi h1)
end
section
variable{A:qah}
theorem a_.snoc{z:S}{g:qah}:∀{xs:List S}{vs:qak}{fp:qah},a_ K H A xs vs fp->ck K H A z v g->a_ K H A (xs++[z]) (vs++[v]) (fp++g)
 |[],vs,fp,h,q=>by simp only[a_] at h;obtain⟨rfl,rfl⟩:=h;simp only[MC,a_];exact⟨v,[],g,[],rfl,by simp,q,rfl,rfl⟩
 |x::xs,vs,fp,h,q=>by simp only[a_] at h;obtain⟨v0,r,f,f2,rfl,rfl,h1,h2⟩:=h;simp only[Jk,a_];exact⟨v0,r++[v],f,f2++g,rfl,by simp,h1,h2.snoc q⟩
end
theorem ke:∀{O:HD}{n:Nat}{p:Addr},(roots O).Nodup->O[n]?=some (some p)->p∉roots (O.set n none)
 |[],n,p,_,e=>by simp at e
 |o::O,0,p,h,e=>by cases e;simp only[roots,MA,nv,id] at h ⊢;exact (kB.mp h).1
 |o::O,n+1,p,h,e=>by
  have e':O[n]?=some (some p):=by simpa using e
  cases o with
  |none=>simp only[roots,Ep,nv,id] at h ⊢;exact ke h e'
  |some a=>
   simp only[roots,Ep,nv,id] at h ⊢;have h2:=kB.mp h;intro z;rcases c7.mp z with y|y
   exact h2.1 (by rw[<- y];exact aK.mpr (gW e'));exact ke h2.2 e' y
section
variable{mk:Expr}{ps:List kG}{F1 F2:Str}
noncomputable def VZ(M:Mz)(ps:List kG)(C:Addr)(F1 F2:Str)(i n:Nat):FM:=λd ρ s=>∃ys t1 ks ts,s.get ps=some (.lst ys)/\ys.length<16777216/\M.k≠n/\ρ[i]?=some (some (t1,false))/\bX t1=true/\ρ[n]?=some (some (.dk ks ts,true))/\dv ts=true/\(∀e∈ρ,gv e) /\
 d.nx (ll M (ρ.set n none) (s.put ps (.lst (ys++[.ins C [F1,F2] [.lf t1,.dk ks ts]])))) (s.put ps (.lst (ys++[.ins C [F1,F2] [.lf t1,.dk ks ts]])))
theorem K8(ho:PE X o (jR M.k ps))(he:PE X mk (VU X.K C F1 F2 i n))(c8:attributeBase o "append" X.env (eval o X.env)=eval o X.env:=by rfl)(j7:((backTo aV (starEach [mk] X.env)).all (λx=>!x.1) && (backToKw aV (keywordEach [] X.env)).all (λx=>x.1.isSome)
    && decide (([mk]:qap).length+([]:List Keyword).length+(if ([]:List Keyword).isEmpty then 0 else 1)<30))=true:=by rfl)(c9:(apos.endLine==aV.line)=true:=by rfl)(hs:starEach [mk] X.env=(false,eval mk X.env)::starEach [] X.env:=by rfl)(dH:(backTo aV (starEach [] X.env)).any (·.1)=false:=by rfl)(JQ:swapsWith (.Call (.Attribute o "append" apos) [mk] [] aV) none pos.line X.env=pure false:=by rfl) :
  MS X M (.Expr (.Call (.Attribute o "append" apos) [mk] [] aV) pos) (VZ M ps C F1 F2 i n):=⟨λpins s' σ H D J ⟨ρ,s,d,⟨⟨O,fp,F,I⟩,hp⟩,hg,Fi⟩=>by
 obtain⟨ys,t1,ks,ts,Gu,hlen,zX,hi,hi1,hn,fZ,qr,hq⟩:=hg;obtain⟨w,f1,f,f2,zV,ev,VH,_⟩:=F.oB.focus Gu;have xv:=VH;simp only[ck] at xv;obtain⟨l,xs,gX,rfl,hl,rfl,hL⟩:=xv;have Ym:l∈fp:=by rw[zV];simp
 obtain⟨_,hσ⟩:=cR I hp;obtain⟨_,_,_,z1,rfl,v1,rfl,b1⟩:=I.sl i _ hi;obtain⟨p,hO,z2,hR⟩:=I.root hn;have SW:p∈roots O:=aK.mpr (gW hO);obtain⟨vs,hlk,V0,hvs⟩:=hR;have npl:p≠l:=λz=>(F.mY l Ym).1 (by rw[<- z];exact SW);refine kM (pA SA sG sH bc ho (bt he cC hs) c8 j7 c9 hs dH) JQ pins s' σ H D J
  ⟨.ref M.a,.ref l,hσ,ev,.inl ⟨rfl,xs,fW.of hl⟩,v1,t1,p,ks,ts,z1,z2,hi1,At.bX hi1 b1,?_,λa dx u H3 sm na ea au=>?_⟩
 simp only[At];exact⟨p,vs,rfl,hlk,⟨V0,λz=>nomatch z⟩,hvs.aY λb hb=>nomatch hb⟩;have I3f:=(I.same sm).forget (i:=n) (λp hp=>absurd hp gE);have F3:=F.now I3f (bO I);have I3:=I3f.rebase (Z:=zf M O H) rfl;have hp3:(ρ.set n none)[M.k]?=some (some (.pin M.a s.t,false)):=by rw[rC (Ne.symm zX)];exact hp
 have acC:∀e∈ρ.set n none,gv e:=λe he=>by
  rcases Sz he with z|z
  exact qr e z;rw[z];trivial
 have FN:ck X.K H3 ([p,a]++(roots (O.set n none)++(fp++M.Ox))) s (.ref M.a) fp:=(F.oB.more λb hb=>by
  rcases cU.mp hb with z|z
  simp only[c7,gE,or_false] at z;obtain rfl|rfl:=z
  exact .inl (cy _ SW);exact .inr na;rcases cU.mp z with z|z
  exact .inl (cy _ (bZ n b z));exact .inl (bW _ z)).same sm
 have Qz:∀b∈fp,H b≠none:=λb hb=>by obtain⟨u,e,_⟩:=F.oB.mut b hb;rw[e];simp
 have hN:∀b∈[p,a],b∉fp/\b∉roots (O.set n none)/\b∉M.Ox/\(b∈M.sU\/M.H0 b=none):=λb hb=>by
  simp only[c7,gE,or_false] at hb;obtain rfl|rfl:=hb
  refine⟨λz=>(F.mY _ z).1 SW,ke I.nd hO,(I.own _ SW).2.1,?_⟩;cases e:M.H0 b with
  |none=>exact .inr rfl
  |some o=>exact .inl (Ti λn=>(F.kp b o e n).2 SW)
  refine⟨λz=>Qz _ z na,λz=>I.yP _ (cy _ (bZ n _ z)) na,λz=>I.ox _ z na,?_⟩;cases e:M.H0 b with
  |none=>exact .inr rfl
  |some o=>refine .inl (Ti λn=>?_);have:=(F.kp b o e n).1;rw[na] at this;cases this
 obtain⟨w2,f',NG,hS,sub,nd,wr⟩:=F3.putN FN hN I3 hp3 acC Gu;rw[ig sm ev] at NG;cases NG;have oX:=hS;simp only[ck] at oX;obtain⟨l',Ei,K6,e',t_,rfl,VJ⟩:=oX;cases e';have Yl:a≠l:=λz=>Qz l Ym (by rw[<- z];exact na);have nap:a≠p:=λz=>by rw[z,V0] at na;cases na
 have nl:=kB.mp nd;refine⟨l,Ei,.ref a,rfl,rfl,t_,by rw[sizeLine_eq,VJ.length];omega,?_⟩;refine Fi.nx _ _ σ _ (wr (H':=upd H3 l (.lst (Ei++[.ref a]))) (g:=l::(K6++[a,p])) (y:=.lst (ys++[.ins C [F1,F2] [.lf t1,.dk ks ts]])) (λb o e n=>?_) ?_ (λb hb=>?_) λA' go=>?_) hq;rw[aC λz=>n (by rw[z];exact dG)];exact e;refine kB.mpr ⟨λz=>?_,yN.mpr ⟨nl.2,by simp[nap],λx hx y hy z=>?_⟩⟩;rcases cU.mp z with z|z
 exact nl.1 z;simp only[c7,gE,or_false] at z;obtain z|z:=z
 exact Yl z.symm;exact npl z.symm;subst z;have hxf:x∈fp:=sub x (gD _ hx);simp only[c7,gE,or_false] at hy;obtain rfl|rfl:=hy
 exact Qz _ hxf na;exact (F.mY _ hxf).1 SW;rcases c7.mp hb with z|z
 exact .inl (by rw[z];exact dG);rcases cU.mp z with z|z
 exact .inl (gD _ z);refine .inr (.inr ?_);simp only[c7,gE,or_false] at z ⊢;exact z.symm;simp only[ck];refine⟨l,Ei++[.ref a],K6++[a,p],rfl,aG,rfl,(VJ.map go λb hb=>aC λz=>?_).snoc ?_⟩;subst z;exact nl.1 hb;have hR':cD X.K (upd H3 l (.lst (Ei++[.ref a]))) A' p (.dk ks ts):=cD.bX (t:=.dk ks ts) (A:=av (zf M O H) O) fZ ⟨vs,hlk,V0,hvs⟩ (by rw[aC npl,sm _ _ V0,V0]) λt v hi q=>go t v (At.bX hi (q.same sm));obtain⟨jG,acD,acE,acF⟩:=hR';simp only[ck,a_];exact⟨a,dx,[u,.ref p],[p],rfl,rfl,by rw[aC Yl];exact ea,rfl,u,[.ref p],[],[p],rfl,rfl,⟨rfl,go t1 u (At.bX hi1 au)⟩,.ref p,[],[p],[],rfl,rfl,⟨p,jG,rfl,rfl,acD,acE,acF⟩,rfl,rfl⟩⟩
end
noncomputable def kf(K:qaf)(n:Nat)(G:qaj->S->(S->T->Prop)->Prop):Sp:=λvs H Q _=>∃(a:Addr)(Ox fp:qah)(s:S)(us:qaj)(ws:qak)(q:S->T->Prop),vs=.ref a::ws/\fp.Nodup/\ck K H (fp++Ox) s (.ref a) fp/\(∀b∈fp,b∉Ox)/\(∀b∈Ox,H b≠none) /\
 us.length=n/\aB K H Ox us ws/\G us s q /\
 ∀s' t,q s' t->∀v H' fp',(∀b o,H b=some o->b∉fp->H' b=some o)->fp'.Nodup->(∀b∈fp',b∈fp\/H b=none)->(∀b∈fp',b∉Ox)->ck K H' (fp'++Ox) s' (.ref a) fp'->bX t=true->At K H' [] t v->Q v H'
section
theorem Je{st:Stmt}{N:qai}{k:Nat}{G:qaj->S->(S->T->Prop)->Prop}(F:Ba K x qual st f fd)(S:aE N ps (aj st))(hn:n+1=ps.length)(hN:n+1<=N.length)(dz:∀(bz:Value) (A:Around) (outer:List Env) (s:Shared) (H:Hp) (E:XK) (M:Mz),M.k=0->bx k (A.deeper (envOfC qual (aj st) s.heap.objs.size f bz))->∀us s0 q,G us s0 q->us.length=n ->
    ∃g,Dn (eY dS P w K mg base N qual (aj st) f bz A outer s H E).pf M (bD st) g/\g {nx:=λ_ s'=>q s' .aO,rt:=λ_ s' r=>∃t,r=.vw t/\bX t=true/\q s' t} (some (.pin M.a s0.t,false)::(us.map (λt=>some (t,false))++List.replicate (N.length-(n+1)) none)) s0) :
  cp P w K mg base dS (k+1) f fd ps (kf K n G):=by
 refine F.ok S (λvs H Q E h=>?_) (λbz A outer s H vs Q E hr h=>?_);obtain⟨a,Ox,fp,s,us,ws,q,rfl,_,_,_,_,hu,hA,_⟩:=h;rw[tX,hA.length,hu];exact hn;obtain⟨a,Ox,fp,s0,us,ws,q,rfl,nd,oB,mY,ox,hu,hA,hG,kk⟩:=h;obtain⟨g,hg,hq⟩:=dz bz A outer s H E ⟨H,fp,Ox,a,0⟩ rfl hr us s0 q hG hu;have view:At K H Ox s0.t (.ref a):=oB.view (λb hb=>bW _ hb) mY;have env:=jo (K:=K) (N:=N) (H:=H) (Ox:=Ox) (ts:=.pin a s0.t::us) (vs:=.ref a::ws) (by rw[tX,hu];exact hN) ox (aB.cons (by simp only[At];exact⟨trivial,view⟩) hA);have fin:∀(ρ:En)(s':VT.S)(σ:St)(H':Hp)(O:HD)(fp':qah)(t:T)(v:V),Mf K ⟨H,fp,Ox,a,0⟩ O fp' s' H'->bX t=true->(∃A,At K H' A t v)->q s' t->Q v H':=λρ s' σ H' O fp' t v F' hi ⟨A,av⟩ hq=>
  kk s' t hq v H' fp' (λb o e n=>(F'.kp b o e n).1) F'.nd F'.fr (λb hb=>(F'.mY b hb).2) (F'.oB.aY λb hb=>bW _ hb) hi (At.bX hi av)
 refine⟨_,hg.h,_,s0,_,⟨⟨List.replicate N.length none,fp,⟨?_,nd,λb hb=>⟨by rw[dg];simp,mY b hb⟩,λb hb=>.inl hb,λb o e _=>⟨e,by rw[dg];simp⟩⟩,?_⟩,?_⟩,hq,⟨λρ s' σ H' S' z=>?_,λρ s' σ H' r v O fp' Of Hf F' dI R z=>?_,λ_ _ _ _ _ z=>z.elim,λ_ _ _ _ _ z=>z.elim⟩⟩;rw[dg];exact oB;have e:=env.rebase rfl;have ln:(T.pin a s0.t::us).length=n+1:=by rw[tX,hu]
 rw[ln] at e;exact e;rfl;obtain⟨⟨O,fp',F',I'⟩,_⟩:=S';exact fin ρ s' σ H' O fp' .aO .aO F' rfl ⟨[],by simp only[At]⟩ z;obtain⟨t,rfl,hi,z⟩:=z;exact fin ρ s' σ H' O fp' t v (F'.now R.1 dI) hi ⟨_,R.2⟩ z
end
section
noncomputable def Gy(M:Mz)(n:Nat)(G:qaj->S->(S->T->Prop)->Prop)(fa:FA):FM:=λd ρ s=>(∀e∈ρ,gv e)/\fa ρ λus=>us.length=n/\G us s λs' _=>d.nx (ll M ρ s') s'
theorem xw{G:qaj->S->(S->T->Prop)->Prop}{s:S}{us:qaj}{ws:qak}{q:S->T->Prop}{Q:VK}{E:XK}(F:Mf K M O fp s H)(I:ax K (zf M O H) [] O ρ σ H)(hp:ρ[M.k]?=some (some (.pin M.a s.t,false)))(qr:∀e∈ρ,gv e)(hu:us.length=n)(ha:aB K H (roots O++M.Ox) us ws)(hG:G us s q)(k:∀s' t,q s' t->∀v H',lj K M (ll M ρ s') s' σ H'->bX t=true->At K H' [] t v->Q v H'):kf K n G (.ref M.a::ws) H Q E:=by
 obtain⟨ho,hσ⟩:=cR I hp;refine⟨M.a,roots O++M.Ox,fp,s,us,ws,q,rfl,F.nd,F.oB.aY λb hb=>?_,λb hb z=>?_,I.yP,hu,ha,hG,λs' t hq v H' fp' fr nd each mY oB hi av=>?_⟩;rcases cU.mp hb with z|z
 exact bW _ (cy _ z);rcases cU.mp z with z|z
 exact cy _ z;exact bW _ (bW _ z);rcases cU.mp z with z|z
 exact (F.mY b hb).1 z;exact (F.mY b hb).2 z;refine k s' t hq v H' (F.write I qr (by rw[hp];simp) ho hσ fr (fp':=fp') (oB.aY λb hb=>?_) nd (λb hb=>⟨λz=>mY b hb (cy _ z),λz=>mY b hb (bW _ z)⟩) λb hb=>?_) hi av;rcases cU.mp hb with z|z
 exact bW _ (cy _ z);rcases cU.mp z with z|z
 exact cy _ z;exact bW _ (bW _ z);rcases each b hb with z|z
 exact F.fr b z;cases e:M.H0 b with
 |none=>exact .inr rfl
 |some o=>refine .inl (Ti λn=>?_);rw[(F.kp b o e n).1] at z;cases z
theorem K9{k:Nat}{G:qaj->S->(S->T->Prop)->Prop}{fa:FA}(Fo:cp X.prog X.w X.K X.mg X.base dS k f fd ps (kf X.K n G))(hr:bx k X.A)(hg:Gl X x)(hm:X.mg x=some (.ref f))(hk:PySem.W.keepIn X.K (.ref f)=true)(hb:Binds X.K fd ps [])(ha:∀H0,VA X ⟨H0,[],M.Ox⟩ es fa)(hN:X.N[M.k]?=some y)(hv:j5 X.env.scope y:=by first|exact Or.inl rfl|exact Or.inr (Or.inl rfl)|exact Or.inr (Or.inr rfl))(hd:gC y:=by decide)(fA:tW y:=by decide)(om:gC x:=by decide)(he:starEach (.Name y p1::es) X.env=(false,eval (.Name y p1) X.env)::starEach es X.env:=by rfl)(iI:(backTo aV (starEach es X.env)).any (·.1)=false:=by rfl)(hs:swapsWith (.Call (.Name x p) (.Name y p1::es) [] aV) none pos.line X.env=pure false:=by rfl) :
  MS X M (.Expr (.Call (.Name x p) (.Name y p1::es) [] aV) pos) (Gy M n G fa):=⟨λpins s' σ H D J ⟨ρ,s,d,⟨⟨O,fp,F,I⟩,hp⟩,K_,Fi⟩=>by
 obtain⟨qr,K_⟩:=K_;obtain⟨_,hσ⟩:=cR I hp;refine kM (kO Fo hr hg hm hk hb .nil jO (bt (bV hN hv hd fA) (ha (qq H (roots O)) []) he) om he iI) hs pins s' σ H D J ⟨.ref M.a,hσ,ρ,O,_,I,K_,λus Pd ws H1 s1 a1=>?_⟩;obtain⟨hu,hG⟩:=Pd;have I0:=I.same s1;have F1:=F.now I0 (bO I);have I1:=I0.rebase (Z:=zf M O H) rfl;rw[AZ];exact xw F1 I1 hp qr hu a1 hG λs2 t hq v H' S' _ _=>Fi.nx _ _ σ H' S' hq⟩
end
section
theorem gN{k k':Nat}{G:qaj->S->(S->T->Prop)->Prop}{fa:FA}(C:cq X.prog X.w X.K X.mg X.base x ps k (kf X.K n G))(hr:bx k' X.A)(ha:∀H0,VA X ⟨H0,[],M.Ox⟩ es fa)(hN:X.N[M.k]?=some y)(hg:Gl X x:=by rfl)(hk:k<=k':=by decide)(hv:j5 X.env.scope y:=by first|exact Or.inl rfl|exact Or.inr (Or.inl rfl)|exact Or.inr (Or.inr rfl))(hd:gC y:=by decide)(fA:tW y:=by decide)(om:gC x:=by decide)(he:starEach (.Name y p1::es) X.env=(false,eval (.Name y p1) X.env)::starEach es X.env:=by rfl)(iI:(backTo aV (starEach es X.env)).any (·.1)=false:=by rfl)(hs:swapsWith (.Call (.Name x p) (.Name y p1::es) [] aV) none pos.line X.env=pure false:=by rfl) :
  MS X M (.Expr (.Call (.Name x p) (.Name y p1::es) [] aV) pos) (Gy M n G fa):=by
 obtain⟨f,fd,h1,h2,h3,F⟩:=C;exact K9 F (hr.mono hk) hg h1 h2 h3 ha hN hv hd fA om he iI hs
end
theorem ik{α:Type}{f u:α->T}{h:FG}{fe:FE}{ρ:En}:∀{xs:List α}{Q:qaj->Prop},(∀x∈xs,∀r:T->Prop,r (u x)->h (f x) ρ λρ2=>fe ρ2 r)->Q (xs.map u)->cY h Km fe ρ (xs.map f) Q
 |[],Q,_,hq=>hq
 |x::xs,Q,step,hq=>by simp only[gA,cY];exact step x dG (λy=>cY h Km fe ρ (xs.map f) λus=>Q (y::us)) (ik (Q:=λus=>Q (u x::us)) (λy hy=>step y (gD _ hy)) hq)
theorem nM{lo:Int}{u:Nat->T}{h:FG}{Q:qaj->Prop}(step:∀i<n,∀r:T->Prop,r (u i)->h (.int (lo+(i:Int))) ρ λρ2=>fe ρ2 r)(hq:Q ((List.range n).map u)):cY h Km fe ρ (rangeT lo n) Q :=
 ik (f:=λi:Nat=>T.int (lo+(i:Int))) (u:=u) (λi hi=>step i (IT.mp hi)) hq
end VT
namespace VT
open PySem PySem.Spec PyProof.Rows
def ddp{K:Type}[DecidableEq K](l:List K)(v:K):List K:=if v∈l then l else l++[v]
def met{K:Type}[DecidableEq K](val:Nat->K):Nat->List K
 |0=>[]
 |i+1=>ddp (met val i) (val i)
section
variable{R:Result->Shared->Prop}{I:Addr}{wr:qah}{G:Array GenState->Array GenState->Prop}{P:Nat->Value->Prop}{St:Nat->Shared->Prop}
variable{K:Type}[DecidableEq K]{knd:PySem.KeyKind prog w K}
end
end VT
namespace VT
open PySem PySem.Spec PyProof.Rows L2
section
variable{a i:Expr}{fo fi:FE}
def V1(k:Nat)(f:FP):FX:=λρ Q=>match ρ[k]? with
 |some (some (.lst ts,true))=>f ρ λr=>match r with
  |.fr (.lst us)=>ts.length+us.length<=sizeLine/\Q (ρ.set k (some (.lst (ts++us),true))) (.vw .aO)
  |_=>False
 |_=>False
theorem oY(k:Nat){f:FP}(he:VP X Z e f)(hN:X.N[k]?=some x:=by rfl)(hv:j5 X.env.scope x:=by first|exact Or.inl rfl|exact Or.inr (Or.inl rfl)|exact Or.inr (Or.inr rfl))(hd:gC x:=by decide)(fA:tW x:=by decide)(c8:attributeBase (.Name x p) "extend" X.env (eval (.Name x p) X.env)=eval (.Name x p) X.env:=by rfl)(j7:((backTo aV (starEach [e] X.env)).all (λx=>!x.1) && (backToKw aV (keywordEach [] X.env)).all (λx=>x.1.isSome)
    && decide (([e]:qap).length+([]:List Keyword).length+(if ([]:List Keyword).isEmpty then 0 else 1)<30))=true:=by rfl)(c9:(apos.endLine==aV.line)=true:=by rfl)(hs:starEach [e] X.env=(false,eval e X.env)::starEach [] X.env:=by rfl)(dH:(backTo aV (starEach [] X.env)).any (·.1)=false:=by rfl) :
  VX X Z (.Call (.Attribute (.Name x p) "extend" apos) [e] [] aV) (V1 k f):=.mk λtm=>
 PE.weak (pA SA PySem.F.slot_list_extend PySem.F.type_list_extend CO (bV hN hv hd fA) (bt (he tm) cC hs) c8 j7 c9 hs dH) λσ H Q ⟨ρ,O,q,I,hf,kk⟩=>by
  unfold V1 at hf;split at hf
  rename_i ts e0
  obtain⟨l,h1,h2,xs,h3,h4⟩:=I.root e0;have ha:l∈av Z O:=cy _ (aK.mpr (gW h1));refine⟨.ref l,h2,.inl ⟨rfl,xs,fW.of h3⟩,ρ,O,_,I,hf,λr hr v H1 s1 z=>?_⟩;split at hr;obtain⟨hz,hq⟩:=hr;have J:=z.env;obtain⟨b,rfl,I2,⟨zs,hb,aL⟩,_,_⟩:=z;have aL':=aL.aY fm;refine⟨l,b,xs,zs,rfl,rfl,s1 _ _ h3,hb,by rw[h4.length,aL.length];exact hz,kk _ _ hq O _ _ ⟨J.wrote e0 h1 ⟨xs++zs,aG,?_⟩,uu⟩⟩;exact ((h4.same s1).append aL').wrote ha (s1 _ _ h3) rfl;exact hr.elim;exact hf.elim
end
end VT
namespace Gen
open PySem L2 VT
open wL (bT)
theorem small(h:n<=1000):n<=sizeLine:=Nat.le_of_lt (CT h)
theorem bJ(h:Nat.ble n 1000=true):n<=sizeLine:=small (Nat.le_of_ble_eq_true h)
noncomputable def rZ(n:Int):Nat:=bT.cps.toList.getD (n % 26).toNat 0
theorem xx:bT.cps.toList.length=26:=by decide +kernel
theorem uW:bT.length=26:=by decide +kernel
theorem jS:bT.length<=sizeLine:=by rw[uW,sizeLine_eq];decide
theorem tw(n:Int):jN bT.cps.toList (n % 26)=some (rZ n):=by
 have h0:0<=n % 26:=IS n (by decide);have h1:n % 26<26:=IM n (by decide);unfold rZ;obtain⟨j,hj⟩:=YO h0;rw[hj];have eV:j<bT.cps.toList.length:=by rw[xx];omega
 refine ai ?_;rw[D',List.getD,rq eV];rfl
inductive jT where
 |nm (x:Str)
 |nu (i:Int)
inductive Ky where
 |fld (x:Str)
 |op (o:jT)
inductive Rw where
 |df (f:Str) (ps:qai)
 |give (a:jT)
 |put (x:Str) (a:jT)
 |cH (x:Str) (a:jT) (op:Str) (b:jT)
 |new (x:Str)
 |get (x r:Str) (k:Ky)
 |set (r:Str) (k:Ky) (a:jT)
 |call (x f:Str) (as:List jT)
 |fail (w:Str)
 |iG (a:jT)
 |jU
 |iC (a:jT)
 |fin
 |skip
noncomputable def jr:jT->T
 |.nm x=>.str x
 |.nu i=>.int i
noncomputable def SX:Ky->T
 |.fld x=>.str (((".":String):Str)++x)
 |.op o=>jr o
noncomputable def a8:Rw->T
 |.df f ps=>.tup [.str "def",.str f,.tup (ps.map .str)]
 |.give a=>.tup [.str "give",jr a]
 |.put x a=>.tup [.str "put",.str x,jr a]
 |.cH x a op b=>.tup [.str "do",.str x,jr a,.str op,jr b]
 |.new x=>.tup [.str "new",.str x]
 |.get x r k=>.tup [.str "get",.str x,.str r,SX k]
 |.set r k a=>.tup [.str "set",.str r,SX k,jr a]
 |.call x f as=>.tup [.str "call",.str x,.str f,.tup (as.map jr)]
 |.fail w=>.tup [.str "fail",.str w]
 |.iG a=>.tup [.str "if",jr a]
 |.jU=>.tup [.str "else"]
 |.iC a=>.tup [.str "while",jr a]
 |.fin=>.tup [.str "end"]
 |.skip=>.tup [.str "skip"]
theorem V2:(10:Int) ^ (30:Int).toNat=1000000000000000000000000000000:=by decide +kernel
theorem zY{α:Type}{f:α->T}(h:∀x,plainT (f x)=true):∀l:List α,cW (l.map f)=true
 |[]=>by simp[cW]
 |x::l=>by simp only[gA,cW,h x,zY h l,ME]
theorem uX(o:jT):bX (jr o)=true:=by cases o<;>simp[jr,bX]
theorem K'(o:Ky):bX (SX o)=true:=by cases o with|fld x=>simp[SX,bX]|op o=>exact uX o
theorem fM{α:Type}{f:α->T}(h:∀x,bX (f x)=true):∀l:List α,dv (l.map f)=true
 |[]=>by simp[dv]
 |x::l=>by simp only[gA,dv,h x,fM h l,ME]
theorem lq(r:Rw):bX (a8 r)=true:=by cases r<;>simp[a8,bX,dv,uX,K',fM (f:=T.str) (λ_=>by simp[bX]),fM (f:=jr) uX]
end Gen
variable{r:Gen.Rw}
abbrev qal:=List Gen.Rw
namespace Gen
open PySem L2 VT
open wL (bT CW cP)
theorem BF(n:Int):CW (rZ n)=true:=by
 have h0:0<=n % 26:=IS n (by decide);have h1:n % 26<26:=IM n (by decide);have h:∀j<26,CW (bT.cps.toList.getD j 0)=true:=by decide +kernel
 exact h _ (by omega)
theorem Gz{a b:Int}(h:rZ a=rZ b):a % 26=b % 26:=by
 have a0:0<=a % 26:=IS a (by decide);have a1:a % 26<26:=IM a (by decide);have b0:0<=b % 26:=IS b (by decide);have b1:b % 26<26:=IM b (by decide);have k:∀i<26,∀j<26,bT.cps.toList.getD i 0=bT.cps.toList.getD j 0->i=j:=by decide +kernel
 have:=k (a % 26).toNat (by omega) (b % 26).toNat (by omega) h;omega
end Gen
variable{rs:qal}
namespace Nm
open PySem L2 VT Gen wL
noncomputable def top(i:Nat):Stmt:=PySem.Challenge.pw_slicewise_k14_choices_and_loops.main.body.getD i (.Pass ⟨0,0,0,0⟩)
noncomputable abbrev ju:Stmt:=top 6
noncomputable abbrev kg:Stmt:=top 7
structure Mg2(mg:qae):Prop where
 La:∃t,mg "LETTERS"=some (.str bT t)
 uY:∃t,mg "LONGEST_NAME"=some (.int 8 t)
 isinstance:mg "isinstance"=none
 str:mg "str"=none
 len:mg "len"=none
 all:mg "all"=none
theorem Lb(h:n<=1000):n<=sizeLine:=small h
noncomputable def Lc:T->Bool
 |.lst _=>false
 |.dk _ _=>false
 |.dc _ _ _=>false
 |.ins _ _ _=>false
 |.pin _ _=>false
 |.ob _=>false
 |.ty _=>false
 |_=>true
noncomputable def BG:T->Bool
 |.str x=>cP x
 |_=>false
def jM(ts:qaj)(q:qam):Prop:=∃t,ts=[t]/\Lc t=true/\(∀x,t=.str x->x.length<=1000)/\q (.vw (.bl (BG t)))
def QC(r:Rt)(A:Prop)(B:Prop):Prop:=match r with
 |.vw (.bl true)=>A
 |.vw (.bl false)=>B
 |_=>False
theorem GA{c:Bool}{A:Prop}(h1:c=true->A)(h2:c=false->B):QC (.vw (.bl c)) A B:=by
 cases c with
 |true=>exact h1 rfl
 |false=>exact h2 rfl
noncomputable def xy:T->Bool
 |.str x=>Po x
 |_=>false
def zZ(t:T):Prop:=(∃x,t=.str x/\x.length<=100)\/∃i,t=.int i
def Dj(ts:qaj)(q:qam):Prop:=∃t,ts=[t]/\zZ t/\q (.vw (.bl (xy t)))
def andM(r:Rt)(A:Prop)(B:Prop):Prop:=match r with
 |.vw (.bl true)=>A
 |.vw (.bl false)=>B
 |_=>False
theorem Ld{c:Bool}{A:Prop}(h1:c=true->A)(h2:c=false->B):andM (.vw (.bl c)) A B:=by
 cases c with
 |true=>exact h1 rfl
 |false=>exact h2 rfl
theorem BH:∀l:qao,dQ (l.map ((λt:T=>match t with | .str y=>.bl (Bo y bT)|_=>.aO) ∘ λc=>T.str ⟨#[c]⟩))=some (l.map CW)
 |[]=>rfl
 |c::l=>by rw[gA,gA];show (dQ _).map _=_;rw[BH l];rfl
section
abbrev m4:qai:=qav
theorem qt:aE m4 qav (aj ju):=L2.gB
theorem r_:(m4++(["sign"]:qai)).Nodup:=by decide +kernel
theorem Le(D:Df K mg "is_name" ju qav f fd)(M:Mg2 mg):cq P w K mg base "is_name" qav 1 (dO K 1 jM):=by
 refine D.gK (oN D.F qt rfl λbz A outer s H E Ox hr ts q hG=>?_);have nd:=qt.nd;have np:∀{i:Nat},bG ⟨H,[],Ox⟩ i:=nH;obtain⟨tL,mL⟩:=M.La;obtain⟨tN,mN⟩:=M.uY;have qu:∀{pos},VP (eY dS P w K mg base m4 "is_name" (aj ju) f bz A outer s H E).pf ⟨H,[],Ox⟩ (.Name "LONGEST_NAME" pos) (fC (.int 8)):=hU (by rfl) mN (v:=.int 8) ⟨tN,rfl⟩ λ_ _=>bf;refine⟨_,(ah (bQ (VW.vc (Bc (pK (eQ (cv eF (by rfl) M.isinstance (by rfl) M.str nI (ae 0)))) (uv (pK (FK MO MO (qas af) (qas (bK bM bN (by rfl) M.len wm (a9 (ae 0) bw))) (qas qu))))))
    (aw (aW (qau jP)))
    aQ)
   (aw (aW (qau (bK (pF rfl) C3 (by rfl) M.all U9 (a9 (qas (jm (ts:=["sign"]) rfl (by rfl) (pR (aq 0)) (λ_ _ _ _ _ _=>(bE (i:=1) r_ rfl (Or.inl rfl) np)) (λ_ _ _ _ _ _=>jl) (λ_ _ _ _ _ _=>(qat (U6 (ae 1) (qas (hU (by rfl) mL (v:=.str bT) ⟨tL,rfl⟩ λ_ _=>cS))))))) bw)))))),λ_=>?_⟩
 obtain⟨t,rfl,ht,hx,hq⟩:=hG;cases t with
 |aO=>exact⟨rfl,hq⟩
 |bl b=>exact⟨rfl,hq⟩
 |int x=>exact⟨rfl,hq⟩
 |tup l=>exact⟨rfl,hq⟩
 |str x=>
   have hl:=hx x rfl;have g_:q (.vw (.bl (decide (1<=(x.length:Int)) && (decide ((x.length:Int)<=8) && x.cps.toList.all CW)))):=hq;refine⟨rfl,Lb hl,GA (c:=decide (1<=(x.length:Int))) (λh1=>?_) (λh1=>?_)⟩;rw[h1,Tx] at g_;refine zt (λh2=>?_) (λh2=>?_);have Kp:(!decide ((x.length:Int)<=8))=true:=h2;have h3:decide ((x.length:Int)<=8)=false:=by simpa using Kp
   rw[h3,Bool.false_and] at g_;exact g_;have Kp:¬ (!decide ((x.length:Int)<=8))=true:=h2;have h3:decide ((x.length:Int)<=8)=true:=by simpa using Kp
   rw[h3,Tx] at g_;refine⟨rfl,by rw[c6,SD];exact Lb hl,sV (λ_=>true) (λt=>match t with | .str y=>.bl (Bo y bT)|_=>.aO) (λt ht k r h=>?_) ?_⟩;obtain⟨c,_,rfl⟩:=yW.mp ht;exact⟨_,rfl,h⟩;rw[List.filter_eq_self.mpr (λ_ _=>rfl),IW];refine⟨x.cps.toList.map CW,BH x.cps.toList,?_⟩;rw[List.all_map];exact g_;rw[h1,Bool.false_and] at g_;exact g_
 |_=>cases ht
abbrev z6:qai:=qav
theorem nN:aE z6 qav (aj kg):=L2.gB
theorem xA(D:Df K mg "is_field" kg qav f fd)(M:Mg2 mg)(m5:cq P w K mg base "is_name" qav 1 (dO K 1 jM)):cq P w K mg base "is_field" qav 2 (dO K 1 Dj):=by
 refine D.gK (oN D.F nN rfl λbz A outer s H E Ox hr ts q hG=>?_);have nd:=nN.nd;refine⟨_,(aw (aW (qau (pL (cv eF (by rfl) M.isinstance (by rfl) M.str nI (ae 0)) (pL (Dm (ae 0) (qas aI)) (zz (aP m5 hr (aa (qat (kZ (ae 0) (oK (qas af)) oJ)) ak)))))))),λ_=>?_⟩;obtain⟨t,rfl,ht,hq⟩:=hG;obtain⟨x,rfl,hx⟩|⟨i,rfl⟩:=ht
 refine⟨rfl,?_⟩;have g_:q (.vw (.bl (Txt.startswith x "." && cP (Txt.slice x (some 1) none)))):=hq;refine Ld (c:=Txt.startswith x ".") (λh=>?_) (λh=>?_);rw[h,Tx] at g_;refine⟨Lb (by omega),rfl,_,rfl,rfl,λy e=>?_,g_⟩;cases e;exact mm (Txt.slice_le x _ _) (by omega);rw[h,Bool.false_and] at g_;exact g_;exact⟨rfl,hq⟩
end
end Nm
namespace PySem
open Sem (wp)
namespace F
end F
end PySem
namespace VT
open PySem PySem.Spec PyProof.Rows L2
end VT
namespace SY
open PySem L2 VT Gen wL Nm
noncomputable def m6:Rw->qaj
 |.give a=>[jr a]
 |.iG a=>[jr a]
 |.iC a=>[jr a]
 |.put _ a=>[jr a]
 |.cH _ a _ b=>[jr a,jr b]
 |.get _ r k=>[.str r,SX k]
 |.set r k a=>[.str r,SX k,jr a]
 |.call _ _ as=>as.map jr
 |_=>[]
noncomputable abbrev kh:Stmt:=top 9
noncomputable def V3:List (Str×T):=[("give",.tup [.int 1]),("put",.tup [.int 2]),("do",.tup [.int 2,.int 4]),("get",.tup [.int 2,.int 3]),("set",.tup [.int 1,.int 2,.int 3]),("if",.tup [.int 1]),("while",.tup [.int 1])]
structure MgU(w:World)(K:qaf)(mg:qae):Prop where
 list:mg "list"=none
 US:∃a,mg "USED_PLACES"=some (.ref a)/\ql w K a V3
noncomputable def BI:Rw->qaj
 |.call _ _ as=>as.map jr
 |r=>(m6 r).filter λt=>!xy t
def BJ(ts:qaj)(q:qam):Prop:=∃r:Rw,ts=[a8 r]/\(∀t∈m6 r,zZ t)/\q (.fr (.lst (BI r)))
section
noncomputable abbrev ki:qai:=["row","parts"]
theorem nP:aE ki ["row"] (aj kh):=L2.gB
theorem qv:(ki++(["place"]:qai)).Nodup:=by decide +kernel
theorem qw:(ki++(["part"]:qai)).Nodup:=by decide +kernel
theorem xB(D:Df K mg "operands" kh ["row"] f fd)(M:MgU w K mg)(z7:cq P w K mg base "is_field" qav 2 (dO K 1 Dj)):cq P w K mg base "operands" ["row"] 3 (dO K 1 BJ):=by
 refine D.gK (oN D.F nP rfl λbz A outer s H E Ox hr ts q hG=>?_);have nd:=nP.nd;have hu:=bx.gq hr;have np:∀{i:Nat},bG ⟨H,[],Ox⟩ i:=nH;obtain⟨aU,se,qx⟩:=M.US;refine⟨_,(ah (bQ (cJ hu (qas (aA (ae 0) (qas af))) (qas aI))
    (aw (aW (qau (ji kR pP (by rfl) M.list qe (a9 (qas (aA (ae 0) (qas af))) bw)))))
    aQ)
   (ah (Ko (i:=1) (ts:=["place"]) nd rfl (Or.inl rfl) rfl (by rfl) (pR (qat (Gh (by rfl) se qx (qas (aA (ae 0) (qas af))) (qat (aJ ak)) ⟨rfl,rfl,rfl,rfl⟩))) (λ_ _ _ _ _ _=>(bE (i:=2) qv rfl (Or.inl rfl) np)) (λ_ _ _ _ _ _=>jl) (λ_ _ _ _ _ _=>(qat (aA (ae 0) (ae 2)))) np)
   (aw (aW (qau (jm (ts:=["part"]) rfl (by rfl) (pR (aq 1)) (λ_ _ _ _ _ _=>(bE (i:=2) qw rfl (Or.inl rfl) np)) (λ_ _ _ _ _ _=>(Kn (pK (eQ (aP z7 hr (aa (aq 2) ak)))))) (λ_ _ _ _ _ _=>(aq 2)))))))),λ_=>?_⟩
 obtain⟨r,rfl,hl,hq⟩:=hG;have fin:∀(ps:qaj),(∀t∈ps,zZ t)->q (.fr (.lst (ps.filter λt=>!xy t)))->cY (hName 2) (UI (mC (zB 1 (gh (ow 2) ux) Dj))) (ow 2) [some (a8 r,false),some (.lst ps,false),none] ps λus=>q (.fr (.lst us)):=λps hps hq=>by refine sV (λt=>!xy t) (λt=>t) (λt ht k r h=>?_) (by rw[List.map_id'];exact hq);refine⟨rfl,t,rfl,hps t ht,?_⟩;exact h
 cases r with
 |call x f as=>exact⟨_,ai (j:=0) rfl,_,ai (j:=3) rfl,hq⟩
 |give a=>refine⟨_,ai (j:=0) rfl,rfl,_,ai (j:=0) rfl,jL _,?_⟩;show ([T.int 1]:qaj).length<=sizeLine/\cY _ _ _ _ [T.int 1] _;exact⟨Gen.bJ rfl,_,ai (j:=1) rfl,rfl,Gen.bJ rfl,fin _ hl hq⟩
 |iG a=>refine⟨_,ai (j:=0) rfl,rfl,_,ai (j:=0) rfl,jL _,?_⟩;show ([T.int 1]:qaj).length<=sizeLine/\cY _ _ _ _ [T.int 1] _;exact⟨Gen.bJ rfl,_,ai (j:=1) rfl,rfl,Gen.bJ rfl,fin _ hl hq⟩
 |iC a=>refine⟨_,ai (j:=0) rfl,rfl,_,ai (j:=0) rfl,jL _,?_⟩;show ([T.int 1]:qaj).length<=sizeLine/\cY _ _ _ _ [T.int 1] _;exact⟨Gen.bJ rfl,_,ai (j:=1) rfl,rfl,Gen.bJ rfl,fin _ hl hq⟩
 |put x a=>refine⟨_,ai (j:=0) rfl,rfl,_,ai (j:=0) rfl,jL _,?_⟩;show ([T.int 2]:qaj).length<=sizeLine/\cY _ _ _ _ [T.int 2] _;exact⟨Gen.bJ rfl,_,ai (j:=2) rfl,rfl,Gen.bJ rfl,fin _ hl hq⟩
 |cH x a op b=>refine⟨_,ai (j:=0) rfl,rfl,_,ai (j:=0) rfl,jL _,?_⟩;show ([T.int 2,T.int 4]:qaj).length<=sizeLine/\cY _ _ _ _ [T.int 2,T.int 4] _;exact⟨Gen.bJ rfl,_,ai (j:=2) rfl,_,ai (j:=4) rfl,rfl,Gen.bJ rfl,fin _ hl hq⟩
 |get x y k=>refine⟨_,ai (j:=0) rfl,rfl,_,ai (j:=0) rfl,jL _,?_⟩;show ([T.int 2,T.int 3]:qaj).length<=sizeLine/\cY _ _ _ _ [T.int 2,T.int 3] _;exact⟨Gen.bJ rfl,_,ai (j:=2) rfl,_,ai (j:=3) rfl,rfl,Gen.bJ rfl,fin _ hl hq⟩
 |set y k a=>refine⟨_,ai (j:=0) rfl,rfl,_,ai (j:=0) rfl,jL _,?_⟩;show ([T.int 1,T.int 2,T.int 3]:qaj).length<=sizeLine/\cY _ _ _ _ [T.int 1,T.int 2,T.int 3] _;exact⟨Gen.bJ rfl,_,ai (j:=1) rfl,_,ai (j:=2) rfl,_,ai (j:=3) rfl,rfl,Gen.bJ rfl,fin _ hl hq⟩
 |_=>refine⟨_,ai (j:=0) rfl,rfl,_,ai (j:=0) rfl,jL _,?_⟩;show ([]:qaj).length<=sizeLine/\cY _ _ _ _ [] _;exact⟨jL _,rfl,jL _,fin _ hl hq⟩
end
end SY
namespace Gen
open PySem L2 VT
noncomputable def wd:Rw->Str
 |.df _ _=>"def"
 |.give _=>"give"
 |.put _ _=>"put"
 |.cH _ _ _ _=>"do"
 |.new _=>"new"
 |.get _ _ _=>"get"
 |.set _ _ _=>"set"
 |.call _ _ _=>"call"
 |.fail _=>"fail"
 |.iG _=>"if"
 |.jU=>"else"
 |.iC _=>"while"
 |.fin=>"end"
 |.skip=>"skip"
noncomputable def qy(st:qai)(x:Str):Bool:=match st.getLast? with
 |none=>rA (.str x) [.str "def",.str "skip"]
 |some l=>if x="give" then decide (l="def") else if x="else" then decide (l="if") else if x="end" then !decide (l="def") else !decide (x="def")
noncomputable def uZ(st:qai)(x:Str):qai :=
 if x="def"\/x="if"\/x="while" then st++[x] else if x="give"\/x="end" then st.dropLast else if x="else" then st.dropLast++[("else":Str)] else st
theorem BK(x:Str):∀l:qai,rA (.str x) (l.map .str)=decide (x∈l)
 |[]=>by simp[rA]
 |y::l=>by rw[gA];show (eqT (.str y) (.str x) || rA (.str x) (l.map .str))=_;rw[BK x l];show (decide (y=x) || decide (x∈l))=_;rw[Bool.eq_iff_iff];simp only[Bool.or_eq_true,decide_eq_true_eq,c7];constructor;rintro (h|h);exact .inl h.symm;exact .inr h;rintro (h|h);exact .inl h.symm;exact .inr h
theorem dj(r:Rw):∃l,a8 r=.tup (.str (wd r)::l):=by cases r<;>exact⟨_,rfl⟩
theorem tD{f:α->T}{xs:List α}{h:FG}{g:FS}{d:Fm}(Pv:Nat->En->Prop)(h0:Pv 0 ρ)(hs:∀(i:Nat) x ρ',xs[i]?=some x->Pv i ρ'->h (.tup [.int (i:Int),f x]) ρ' λρ2=>g {nx:=Pv (i+1),ct:=Pv (i+1),bk:=d.nx,rt:=d.rt} ρ2)(hd:∀ρ',Pv xs.length ρ'->d.nx ρ'):pT (eG (xs.map f)) h g d ρ:=⟨Pv,h0,λi t ρ' e p=>by
 unfold eG at e;rw[XF,jC] at e;cases q:xs[i]? with
 |none=>rw[q] at e;cases e
 |some x=>rw[q] at e;cases e;exact hs i x ρ' q p,λρ' p=>hd ρ' (by unfold eG at p;rw[List.length_mapIdx,c6] at p;exact p)⟩
noncomputable def u_(o:Option (qai))(r:Rw):Option (qai):=o.bind λst=>if qy st (wd r)=true then some (uZ st (wd r)) else none
noncomputable def wa(o:Option (qai))(rs:qal):Option (qai):=rs.foldl u_ o
theorem BL(o:Option (qai))(a b:qal):wa o (a++b)=wa (wa o a) b:=List.foldl_append
theorem xD(rs:qal):wa none rs=none:=by
 induction rs with
 |nil=>rfl
 |cons r rs ih=>exact ih
theorem Dr{st:qai}(h:qy st (wd r)=true):u_ (some st) r=some (uZ st (wd r)):=by show (if qy st (wd r)=true then _ else _)=_;rw[if_pos h]
theorem Lf{st:qai}(h:qy st (wd r)=true):wa (some st) [r]=some (uZ st (wd r)):=Dr h
theorem xE{st:qai}(h:wa (some []) rs=some st)(i:Nat)(hr:rs[i]?=some r) :
  ∃s,wa (some []) (rs.take i)=some s/\qy s (wd r)=true/\wa (some []) (rs.take (i+1))=some (uZ s (wd r)):=by
 have hi:=(eB.mp hr).1;have e:rs=rs.take i++(r::rs.drop (i+1)):=by have hg:=(eB.mp hr).2;rw[<- hg,List.getElem_cons_drop,List.take_append_drop]
 have e2:rs.take (i+1)=rs.take i++[r]:=by have hg:=(eB.mp hr).2;rw[<- hg,List.take_append_getElem]
 rw[e,BL] at h;cases hs:wa (some []) (rs.take i) with
 |none=>rw[hs,xD] at h;cases h
 |some s=>
   rw[hs] at h;have h':wa (u_ (some s) r) (rs.drop (i+1))=some st:=h;cases hm:qy s (wd r) with
   |false=>
     have:u_ (some s) r=none:=by show (if qy s (wd r)=true then _ else _)=_;rw[hm];rfl
     rw[this,xD] at h';cases h'
   |true=>exact⟨s,rfl,hm,by rw[e2,BL,hs];exact Lf hm⟩
abbrev dfS:Str:="def"
def Hd(x:Str):Prop:=x="if"\/x="while"\/x="else"
theorem QD(st:qai):uZ st "if"=st++[("if":Str)]:=by unfold uZ;rw[if_pos (.inr (.inl rfl))]
theorem Ds(st:qai):uZ st "while"=st++[("while":Str)]:=by unfold uZ;rw[if_pos (.inr (.inr rfl))]
theorem Lg(st:qai):uZ st "def"=st++[dfS]:=by unfold uZ;rw[if_pos (.inl rfl)]
theorem Lh(st:qai):uZ st "end"=st.dropLast:=by unfold uZ;rw[if_neg (by decide +kernel),if_pos (by decide +kernel)]
theorem GB(st:qai):uZ st "give"=st.dropLast:=by unfold uZ;rw[if_neg (by decide +kernel),if_pos (by decide +kernel)]
theorem GC(st:qai):uZ st "else"=st.dropLast++[("else":Str)]:=by unfold uZ;rw[if_neg (by decide +kernel),if_neg (by decide +kernel),if_pos rfl]
theorem BM{st:qai}(h:st≠[]):∃s l,st=s++[l]:=⟨st.dropLast,st.getLast h,(List.dropLast_concat_getLast h).symm⟩
noncomputable def Jf:List (Str×Nat)->Str->Option Nat
 |[],_=>none
 | (k,i)::l,f=>if k=f then some i else Jf l f
theorem Yn(l m:List (Str×Nat))(f:Str):Jf (l++m) f=match Jf l f with
  |some i=>some i
  |none=>Jf m f:=by
 induction l with
 |nil=>rfl
 |cons p l ih=>obtain⟨k,i⟩:=p;simp only[Jk,Jf];by_cases h:k=f;rw[if_pos h,if_pos h];rw[if_neg h,if_neg h];exact ih
noncomputable def QE(l:List (Str×Nat))(i:Nat):Rw->List (Str×Nat)
 |.df f _=>match Jf l f with
  |some _=>l
  |none=>l++[(f,i)]
 |_=>l
noncomputable def bB(rs:qal):Nat->List (Str×Nat)
 |0=>[]
 |n+1=>match rs[n]? with
  |some r=>QE (bB rs n) n r
  |none=>bB rs n
end Gen
namespace K5
structure Kd where
 op:Bool
 cl:Bool
 el:Bool
 df:Bool
deriving DecidableEq,Inhabited
section
variable(kd:Nat->Kd)
noncomputable def st:Nat->qao
 |0=>[]
 |k+1=>let s:=if (kd k).cl=true then (st k).dropLast else st k
  if (kd k).op=true then s++[k] else s
noncomputable def dp(k:Nat):Nat:=(st kd k).length
structure WF(n:Nat):Prop where
 ex:∀k,k<n->(kd k).op=true->(kd k).cl=false
 cl:∀k,k<n->(kd k).cl=true->st kd k≠[]
 el:∀k,k<n->(kd k).el=true->st kd k≠[]
 nc:∀k,k<n->(kd k).el=true->(kd k).cl=false/\(kd k).op=false
 dn:∀k,k<n->(kd k).df=true->(kd k).op=true
 fin:st kd n=[]
end
section
variable{kd:Nat->Kd}
theorem lr{k:Nat}(h:(kd k).op=true)(h':(kd k).cl=false):st kd (k+1)=st kd k++[k]:=by simp[st,h,h']
theorem lu{k:Nat}(h:(kd k).cl=true)(h':(kd k).op=false):st kd (k+1)=(st kd k).dropLast:=by simp[st,h,h']
theorem qz{k:Nat}(h:(kd k).cl=false)(h':(kd k).op=false):st kd (k+1)=st kd k:=by simp[st,h,h']
theorem WF.YZ(W:WF kd n){k:Nat}(hk:k<n)(h:(kd k).cl=true):(kd k).op=false:=by
 cases q:(kd k).op with
 |false=>rfl
 |true=>rw[W.ex k hk q] at h;cases h
theorem tE(W:WF kd n){k:Nat}(hk:k<n)(h:(kd k).op=true):dp kd (k+1)=dp kd k+1:=by unfold dp;rw[lr h (W.ex k hk h)];simp
theorem xF(W:WF kd n){k:Nat}(hk:k<n)(h:(kd k).cl=true):dp kd (k+1)+1=dp kd k:=by unfold dp;rw[lu h (W.YZ hk h),yV];have:0<(st kd k).length:=SE.mpr (W.cl k hk h);omega
theorem xG{k:Nat}(h:(kd k).cl=false)(h':(kd k).op=false):dp kd (k+1)=dp kd k:=by unfold dp;rw[qz h h']
theorem xH(W:WF kd n):∀k,k<=n->∀i j,(st kd k)[i]?=some j->j<k/\(kd j).op=true/\dp kd j=i/\∀m,j<m->m<=k->i<dp kd m
 |0,_,i,j,h=>by simp[st] at h
 |k+1,hk,i,j,h=>by
  have ih:=xH W k (by omega);have zU:k<n:=by omega
  have ext:∀{i j:Nat},(st kd k)[i]?=some j->i<dp kd (k+1)->j<k+1/\(kd j).op=true/\dp kd j=i/\∀m,j<m->m<=k+1->i<dp kd m:=λ{i j} h hd=>by obtain⟨a,b,c,d⟩:=ih i j h;refine⟨by omega,b,c,λm h1 h2=>?_⟩;by_cases e:m=k+1;rw[e];exact hd;exact d m h1 (by omega)
  by_cases ho:(kd k).op=true;rw[lr ho (W.ex k zU ho)] at h;have hd:=tE W zU ho;by_cases hi:i<(st kd k).length;rw[og hi] at h;exact ext h (by rw[hd];exact Ot hi);rw[sF (by omega)] at h;have e:i-(st kd k).length=0:=by
   cases q:i-(st kd k).length with
   |zero=>rfl
   |succ r=>rw[q] at h;simp at h
  rw[e] at h;simp at h;subst h;have ei:i=dp kd k:=by unfold dp;omega
  refine⟨by omega,ho,ei.symm,λm h1 h2=>?_⟩;have:m=k+1:=by omega
  rw[this,hd,ei];omega;have pe:(kd k).op=false:=by cases q:(kd k).op<;>simp_all
  by_cases hc:(kd k).cl=true;rw[lu hc pe] at h;have hi:i<(st kd k).dropLast.length:=(eB.mp h).1;have hd:dp kd (k+1)=(st kd k).dropLast.length:=by unfold dp;rw[lu hc pe]
  rw[Oo,if_pos (by rw[yV] at hi;exact hi)] at h;exact ext h (by rw[hd];exact hi);have rE:(kd k).cl=false:=by cases q:(kd k).cl<;>simp_all
  rw[qz rE pe] at h;have hd:dp kd (k+1)=dp kd k:=xG rE pe;exact ext h (by rw[hd];exact (eB.mp h).1)
theorem NH(W:WF kd n){j:Nat}(ho:(kd j).op=true):∀k,j<k->k<=n->(∀m,j<m->m<=k->dp kd j<dp kd m)->(st kd k)[dp kd j]?=some j
 |0,h,_,_=>by omega
 |k+1,h,hk,hm=>by
  have zU:k<n:=by omega
  by_cases e:j=k;subst e;rw[lr ho (W.ex j zU ho)];unfold dp;rw[sF (cO _)];simp;have ih:=NH W ho k (by omega) (by omega) λm h1 h2=>hm m h1 (by omega);have hd:=hm (k+1) (by omega) (cO _);by_cases pe:(kd k).op=true;rw[lr pe (W.ex k zU pe),og (eB.mp ih).1];exact ih;have QF:(kd k).op=false:=by cases q:(kd k).op<;>simp_all
  by_cases hc:(kd k).cl=true;have hl:dp kd (k+1)=(st kd k).length-1:=by unfold dp;rw[lu hc QF,yV]
  rw[lu hc QF,Oo,if_pos (by omega)];exact ih;have rE:(kd k).cl=false:=by cases q:(kd k).cl<;>simp_all
  rw[qz rE QF];exact ih
noncomputable def jv(kd:Nat->Kd)(n d:Nat):Nat->Nat->Option Nat
 |0,_=>none
 |f+1,k=>if k<n then (if dp kd (k+1)=d then some k else jv kd n d f (k+1)) else none
noncomputable def endOf(kd:Nat->Kd)(n j:Nat):Option Nat:=jv kd n (dp kd j) (n-(j+1)) (j+1)
theorem lx{d:Nat}:∀{f k e:Nat},jv kd n d f k=some e->k<=e/\e<n/\dp kd (e+1)=d/\∀m,k<=m->m<e->dp kd (m+1)≠d
 |0,_,_,h=>by cases h
 |f+1,k,e,h=>by
  simp only[jv] at h;split at h
  rename_i hk
  split at h
  rename_i hd
  cases h;exact⟨cO _,hk,hd,λm h1 h2=>by omega⟩
  rename_i hd
  obtain⟨a,b,c,r⟩:=lx h;refine⟨by omega,b,c,λm h1 h2=>?_⟩;by_cases em:m=k;rw[em];exact hd;exact r m (by omega) h2;cases h
theorem ly{d:Nat}:∀{f k:Nat},jv kd n d f k=none->∀m,k<=m->m<k+f->m<n->dp kd (m+1)≠d
 |0,k,_,m,h1,h2,_=>by omega
 |f+1,k,h,m,h1,h2,h3=>by
  simp only[jv] at h;split at h;split at h;cases h
  rename_i hd
  by_cases em:m=k;rw[em];exact hd;exact ly h m (by omega) (by omega) h3;omega
theorem Li(W:WF kd n){k:Nat}(hk:k<n):dp kd k<=dp kd (k+1)+1:=by
 by_cases ho:(kd k).op=true;rw[tE W hk ho];omega;have pe:(kd k).op=false:=by cases q:(kd k).op<;>simp_all
 by_cases hc:(kd k).cl=true;rw[xF W hk hc];exact cO _;have rE:(kd k).cl=false:=by cases q:(kd k).cl<;>simp_all
 rw[xG rE pe];omega
theorem above(W:WF kd n){j:Nat}(hj:j<n)(ho:(kd j).op=true):∀k,j<k->k<=n->(∀m,j<m->m<k->dp kd (m+1)≠dp kd j)->∀m,j<m->m<=k->dp kd j<dp kd m
 |0,h,_,_,m,_,_=>by omega
 |k+1,h,hk,fE,m,h1,h2=>by by_cases em:m=k+1;subst em;by_cases e:j=k;subst e;rw[tE W hj ho];omega;have ih:=above W hj ho k (by omega) (by omega) (λm a b=>fE m a (by omega)) k (by omega) (cO _);have s:=Li W (k:=k) (by omega);have ne:=fE k (by omega) (by omega);omega;by_cases e:j=k;omega;exact above W hj ho k (by omega) (by omega) (λm a b=>fE m a (by omega)) m h1 (by omega)
theorem end_is(W:WF kd n)(hj:j<n)(ho:(kd j).op=true):∃e,endOf kd n j=some e/\j<e/\e<n/\dp kd (e+1)=dp kd j/\∀m,j<m->m<e->dp kd (m+1)≠dp kd j:=by
 cases h:endOf kd n j with
 |some e=>obtain⟨a,b,c,d⟩:=lx h;exact⟨e,rfl,by omega,b,c,λm h1 h2=>d m (by omega) h2⟩
 |none=>
  exfalso;have q:=ly h;have a:=above W hj ho n hj (cO _) (λm h1 h2=>q m (by omega) (by omega) h2) n hj (cO _);have z:dp kd n=0:=by unfold dp;rw[W.fin];rfl
  omega
theorem jw:∀k,(st kd k).Pairwise (·<·)/\∀j∈st kd k,j<k
 |0=>⟨List.Pairwise.nil,λj h=>(by simp[st] at h)⟩
 |k+1=>by
  obtain⟨h1,h2⟩:=jw k;have base:∀{s:qao},s.Sublist (st kd k)->s.Pairwise (·<·)/\∀j∈s,j<k:=λsl=>⟨h1.sublist sl,λj h=>h2 j (sl.subset h)⟩;have key:∀{s:qao},s.Sublist (st kd k)->(if (kd k).op=true then s++[k] else s).Pairwise (·<·)/\∀j∈(if (kd k).op=true then s++[k] else s),j<k+1:=λ{s} sl=>by
   obtain⟨a,b⟩:=base sl;split;refine⟨List.pairwise_append.mpr ⟨a,List.pairwise_singleton _ _,λx hx y hy=>by rw[eX.mp hy];exact b x hx⟩,λj hj=>?_⟩;rcases cU.mp hj with h|h
   exact Ot (b j h);rw[eX.mp h];exact wj _;exact⟨a,λj hj=>Ot (b j hj)⟩
  simp only[st];by_cases hc:(kd k).cl=true;rw[if_pos hc];exact key (List.dropLast_sublist _);rw[if_neg hc];exact key (List.Sublist.refl _)
noncomputable def endsAt(kd:Nat->Kd)(n j:Nat):Option Nat:=if (kd j).op=true then endOf kd n j else none
theorem Lj(W:WF kd n){k:Nat}(hk:k<n)(hc:(kd k).cl=true)(ht:(st kd k).getLast?=some j):endsAt kd n j=some k/\j<k:=by
 have hl:(st kd k)[(st kd k).length-1]?=some j:=by rw[<- wg];exact ht
 obtain⟨a,b,c,d⟩:=xH W k (by omega) _ j hl;obtain⟨e,h1,h2,h3,h4,h5⟩:=end_is W (by omega) b;refine⟨?_,a⟩;unfold endsAt;rw[if_pos b,h1]
 congr 1
 have hd:=xF W hk hc;have kF:dp kd (k+1)=dp kd j:=by rw[c];unfold dp at hd ⊢;omega
 rcases Nat.lt_or_ge e k with l|l
 have:=d (e+1) (by omega) (by omega);omega;rcases Nat.lt_or_ge k e with l2|l2
 exact absurd kF (h5 k a l2);omega
theorem va(W:WF kd n){k:Nat}(hk:k<n)(he:endsAt kd n j=some k)(hj:j<n):(kd k).cl=true/\(st kd k).getLast?=some j:=by
 unfold endsAt at he;by_cases ho:(kd j).op=true;rw[if_pos ho] at he;obtain⟨e,h1,h2,h3,h4,h5⟩:=end_is W hj ho;rw[h1] at he;cases he;have ab:=above W hj ho k h2 (by omega) λm x y=>h5 m x y;have tF:=ab k h2 (cO _);have hc:(kd k).cl=true:=by
  cases q:(kd k).cl with
  |true=>rfl
  |false=>exfalso;by_cases pe:(kd k).op=true;rw[tE W hk pe] at h4;omega;rw[xG q (by cases r:(kd k).op<;>simp_all)] at h4;omega
 refine⟨hc,?_⟩;have hd:=xF W hk hc;have:=NH W ho k h2 (by omega) ab;rw[wg];have e:(st kd k).length-1=dp kd j:=by unfold dp at hd h4 ⊢;omega
 rw[e];exact this;rw[if_neg ho] at he;cases he
end
end K5
namespace K5
open PySem L2 VT Gen
noncomputable def wordOf:Rw->Str
 |.df _ _=>"def" | .give _=>"give" | .put _ _=>"put" | .cH _ _ _ _=>"do" | .new _=>"new" | .get _ _ _=>"get" | .set _ _ _=>"set" | .call _ _ _=>"call" | .fail _=>"fail"
 |.iG _=>"if" | .jU=>"else" | .iC _=>"while" | .fin=>"end" | .skip=>"skip"
theorem gO(r:Rw):∃l,a8 r=.tup (.str (wordOf r)::l):=by cases r<;>exact⟨_,rfl⟩
noncomputable def aX:Rw->Kd
 |.df _ _=>⟨true,false,false,true⟩
 |.give _=>⟨false,true,false,false⟩
 |.iG _=>⟨true,false,false,false⟩
 |.jU=>⟨false,false,true,false⟩
 |.iC _=>⟨true,false,false,false⟩
 |.fin=>⟨false,true,false,false⟩
 |_=>⟨false,false,false,false⟩
theorem V4(r:Rw):decide (wordOf r="def")=(aX r).df:=by cases r<;>first|rfl|decide +kernel
theorem V5(r:Rw):decide (wordOf r="else")=(aX r).el:=by cases r<;>first|rfl|decide +kernel
theorem V6(r:Rw):rA (.str (wordOf r)) [.str "give",.str "end"]=(aX r).cl:=by cases r<;>first|rfl|decide +kernel
theorem V7(r:Rw):rA (.str (wordOf r)) [.str "def",.str "if",.str "while"]=(aX r).op:=by cases r<;>first|rfl|decide +kernel
noncomputable def br(rs:qal)(k:Nat):Kd:=match rs[k]? with
 |some r=>aX r
 |none=>⟨false,false,false,false⟩
theorem eE{k:Nat}(h:rs[k]?=some r):br rs k=aX r:=by unfold br;rw[h]
def S3(rs:qal):Prop:=WF (br rs) rs.length
def oT:Option Nat->T
 |none=>.aO
 |some k=>.int (k:Int)
def tab(f:Nat->Option Nat)(n k:Nat):qaj:=(List.range n).map λi=>if i<k then oT (f i) else .aO
def iH(e:Nat->Option Nat)(n k:Nat):qaj:=(List.range n).map λj=>match e j with
 |some m=>if m<k then .int (m:Int) else .aO
 |none=>.aO
theorem lz(f n k):(tab f n k).length=n:=by simp[tab]
theorem xI(f n k):(iH f n k).length=n:=by simp[iH]
theorem xJ(f n):tab f n 0=List.replicate n .aO:=by unfold tab;rw[List.eq_replicate_iff];exact⟨by simp,λx hx=>by simp at hx;exact hx.2.symm⟩
theorem Dt(f n):iH f n 0=List.replicate n .aO:=by unfold iH;rw[List.eq_replicate_iff];refine⟨by simp,λx hx=>?_⟩;obtain⟨j,_,rfl⟩:=yW.mp hx;split<;>simp
theorem oZ{f:Nat->Option Nat}{k:Nat}:(tab f n k).set k (oT (f k))=tab f n (k+1):=by refine Tt λi=>?_;rw[Tr,lz];unfold tab;rw[jC,jC];by_cases hi:i<n;rw[Tj hi];by_cases e:k=i;subst e;rw[if_pos rfl,if_pos hi];simp;rw[if_neg e];simp only[Tw];by_cases l:i<k;rw[if_pos l,if_pos (by omega)];rw[if_neg l,if_neg (by omega)];rw[Tp (by simp;omega)];split;rw[if_neg (by omega)];rfl;rfl
theorem xK{f:Nat->Option Nat}{k:Nat}(h:f k=none):tab f n k=tab f n (k+1):=by unfold tab;refine XI λi _=>?_;by_cases e:i=k;subst e;rw[if_neg (Eb _),if_pos (wj _),h];rfl;by_cases l:i<k;rw[if_pos l,if_pos (by omega)];rw[if_neg l,if_neg (by omega)]
theorem xM(f n):tab f n n=(List.range n).map λi=>oT (f i):=by unfold tab;exact XI λi hi=>by rw[if_pos (IT.mp hi)]
theorem GD{e:Nat->Option Nat}{k:Nat}(h:e j=some k)(u:∀i,i<n->e i=some k->i=j):(iH e n k).set j (.int (k:Int))=iH e n (k+1):=by
 refine Tt λi=>?_;rw[Tr,xI];unfold iH;rw[jC,jC];by_cases hi:i<n;rw[List.getElem?_range hi];by_cases q:j=i;subst q;rw[if_pos rfl,if_pos hi];simp[h];rw[if_neg q];simp only[Tw];cases r:e i with
 |none=>rfl
 |some m=>have:m≠k:=λz=>q (u i hi (by rw[r,z])).symm;simp only;by_cases l:m<k;rw[if_pos l,if_pos (by omega)];rw[if_neg l,if_neg (by omega)]
 rw[Tp (by simp;omega)];split;rw[if_neg (by omega)];rfl;rfl
theorem Du{e:Nat->Option Nat}{k:Nat}(u:∀i,i<n->e i≠some k):iH e n k=iH e n (k+1):=by
 unfold iH;refine XI λi hi=>?_;cases r:e i with
 |none=>rfl
 |some m=>have:m≠k:=λz=>u i (IT.mp hi) (by rw[r,z]);simp only;by_cases l:m<k;rw[if_pos l,if_pos (by omega)];rw[if_neg l,if_neg (by omega)]
theorem Dv{e:Nat->Option Nat}(h:∀j m,j<n->e j=some m->m<n):iH e n n=(List.range n).map λi=>oT (e i):=by
 unfold iH;refine XI λi hi=>?_;cases r:e i with
 |none=>rfl
 |some m=>simp only;rw[if_pos (h i m (IT.mp hi) r)];rfl
section
variable(kd:Nat->Kd)
noncomputable def jx(k:Nat):Option Nat:=(st kd k).getLast?
noncomputable def yS(k:Nat):Option Nat:=if (kd k).df=true then some k else (st kd k).head?
noncomputable def wb(n:Nat):Nat->qaj
 |0=>List.replicate n .aO
 |k+1=>match (kd k).el,jx kd k with
  |true,some h=>(wb n k).set h (.int (k:Int))
  |_,_=>wb n k
end
theorem o4(kd n):∀k,(wb kd n k).length=n
 |0=>by simp[wb]
 |k+1=>by simp only[wb];split;rw[IQ];exact o4 kd n k;exact o4 kd n k
noncomputable def GF(rs:qal):qaj:=[.lst ((List.range rs.length).map λi=>oT (jx (br rs) i)),.lst ((List.range rs.length).map λi=>oT (endsAt (br rs) rs.length i)),.lst (wb (br rs) rs.length rs.length),.lst ((List.range rs.length).map λi=>oT (yS (br rs) i))]
theorem GG(rs:qal):eG (rs.map a8)=(rs.zipIdx).map λp=>.tup [.int (p.2:Int),a8 p.1]:=by unfold eG;refine Tt λi=>?_;rw[XF,jC,jC,List.getElem?_zipIdx];cases rs[i]?<;>simp
noncomputable def dr:Nat->qal->Option Nat
 |d,[]=>some d
 |d,r::rs=>if (aX r).cl=true then (if d=0 then none else dr (d-1) rs) else if (aX r).el=true then (if d=0 then none else dr d rs) else if (aX r).op=true then dr (d+1) rs else dr d rs
theorem kj:∀(a b:qal)(d:Nat),dr d (a++b)=(dr d a).bind λe=>dr e b
 |[],b,d=>rfl
 |r::a,b,d=>by simp only[Jk,dr];split;split;rfl;exact kj a b _;split;split;rfl;exact kj a b _;split;exact kj a b _;exact kj a b _
theorem QG(rs:qal){k:Nat}(h:rs[k]?=some r):(st (br rs) (k+1)).length=(if (aX r).cl=true then (st (br rs) k).length-1 else if (aX r).op=true then (st (br rs) k).length+1 else (st (br rs) k).length):=by
 have nQ:=eE h;by_cases hc:(aX r).cl=true;have ho:(aX r).op=false:=by cases r<;>first|rfl|(cases hc)
 rw[if_pos hc,lu (by rw[nQ];exact hc) (by rw[nQ];exact ho),yV];have rE:(aX r).cl=false:=by cases q:(aX r).cl<;>simp_all
 rw[if_neg hc];by_cases ho:(aX r).op=true;rw[if_pos ho,lr (by rw[nQ];exact ho) (by rw[nQ];exact rE)];simp;rw[if_neg ho,qz (by rw[nQ];exact rE) (by rw[nQ];cases q:(aX r).op<;>simp_all)]
theorem o5{rs:qal}(h:dr 0 rs=some 0):∀k,k<=rs.length->dr 0 (rs.take k)=some (st (br rs) k).length
 |0,_=>rfl
 |k+1,hk=>by
  have ih:=o5 h k (by omega);have e:rs[k]?=some rs[k]:=by simp
  have et:rs.take (k+1)=rs.take k++[rs[k]]:=by rw[List.take_succ,e];rfl
  have hs:(dr 0 (rs.take (k+1))).isSome=true:=by
   rw[<- List.take_append_drop (k+1) rs,kj] at h;cases q:dr 0 (rs.take (k+1)) with
   |some _=>rfl
   |none=>rw[q] at h;cases h
  rw[et,kj,ih,Option.bind_some] at hs ⊢;rw[QG rs e];simp only[dr] at hs ⊢;by_cases hc:(aX rs[k]).cl=true;rw[if_pos hc,if_pos hc] at *;by_cases z:(st (br rs) k).length=0;rw[if_pos z] at hs;cases hs;rw[if_neg z]
  . rw[if_neg hc,if_neg hc] at *;by_cases hl:(aX rs[k]).el=true
    . have ho:¬ (aX rs[k]).op=true:=by generalize rs[k]=r at hl;cases r<;>first|(cases hl;done)|(intro z;cases z)
      rw[if_pos hl,if_neg ho] at *;by_cases z:(st (br rs) k).length=0;rw[if_pos z] at hs;cases hs;rw[if_neg z]
    rw[if_neg hl] at *;split<;>rfl
theorem V8(h:dr 0 rs=some 0):S3 rs:=by
 have at':∀{k:Nat},k<rs.length->∃r,rs[k]?=some r/\br rs k=aX r:=λ{k} hk=>⟨rs[k],by simp,eE (by simp)⟩;have step:∀{k:Nat}{r:Rw},rs[k]?=some r->(aX r).cl=true\/(aX r).el=true->st (br rs) k≠[]:=λ{k r} hr E6 z=>by
  have hk:k<rs.length:=(eB.mp hr).1;have h1:=o5 h k (by omega);have h2:=o5 h (k+1) (by omega);have et:rs.take (k+1)=rs.take k++[r]:=by rw[List.take_succ,hr];rfl
  rw[et,kj,h1,Option.bind_some,z] at h2;simp only[dr,List.length_nil] at h2;obtain q|q:=E6
  rw[if_pos q,if_pos True.intro] at h2;cases h2;by_cases q2:(aX r).cl=true;rw[if_pos q2,if_pos True.intro] at h2;cases h2;rw[if_neg q2,if_pos q,if_pos True.intro] at h2;cases h2
 refine⟨λk hk ho=>?_,λk hk hc=>?_,λk hk hc=>?_,λk hk hc=>?_,λk hk hc=>?_,?_⟩;obtain⟨r,hr,e⟩:=at' hk;rw[e] at ho ⊢;cases r<;>first|rfl|(cases ho)
 obtain⟨r,hr,e⟩:=at' hk;exact step hr (.inl (by rw[<- e];exact hc));obtain⟨r,hr,e⟩:=at' hk;exact step hr (.inr (by rw[<- e];exact hc));obtain⟨r,hr,e⟩:=at' hk;rw[e] at hc ⊢;cases r<;>first|exact⟨rfl,rfl⟩|(cases hc)
 obtain⟨r,hr,e⟩:=at' hk;rw[e] at hc ⊢;cases r<;>first|rfl|(cases hc)
 have:=o5 h rs.length (cO _);rw[List.take_length,h] at this;exact Om.mp (Option.some.inj this).symm
end K5
namespace Lay
open PySem L2 VT Gen K5
def S4(l:List (Str×Nat)):T:=.dk (l.map λp=>(Sum.inr p.1:Key)) (l.map λp=>T.int (p.2:Int))
theorem QH(l:List (Str×Nat))(f:Str):bC (l.map λp=>(Sum.inr p.1:Key)) (l.map λp=>T.int (p.2:Int)) (Sum.inr f)=(Jf l f).map λi=>T.int (i:Int):=by
 induction l with
 |nil=>rfl
 |cons p l ih=>obtain⟨k,i⟩:=p;simp only[gA,bC,Jf];by_cases h:k=f;rw[if_pos h,if_pos (by rw[h])];rfl;rw[if_neg h,if_neg (λz=>h (Sum.inr.inj z))];exact ih
theorem qA(rs:qal):∀n,(bB rs n).length<=n
 |0=>cO _
 |n+1=>by
  have:=qA rs n;simp only[bB];split
  rename_i r _
  cases r<;>simp only[QE]<;>first
   |omega
   | (split<;>simp<;>omega)
  omega
def V9:Rw->Bool
 |.df _ _=>true
 |_=>false
def gP(rs:qal):Option Nat:=rs.findIdx? V9
theorem tG(rs:qal):∀n,∀p∈bB rs n,p.2<n/\∃ps,rs[p.2]?=some (.df p.1 ps)
 |0,p,h=>nomatch h
 |n+1,p,h=>by
  have old:p∈bB rs n->p.2<n+1/\∃ps,rs[p.2]?=some (.df p.1 ps):=λh=>by have:=tG rs n p h;exact⟨by omega,this.2⟩
  simp only[bB] at h;split at h
  rename_i r hr
  cases r with
  |df g ps=>
   simp only[QE] at h;split at h;exact old h;rcases cU.mp h with z|z
   exact old z;rw[eX] at z;subst z;exact⟨wj _,ps,hr⟩
  |_=>exact old h
  exact old h
theorem gm{rs:qal}{i:Nat}(h:∀j,j<i->∀f ps,rs[j]?≠some (.df f ps)):∀n≤i,bB rs n=[]
 |0,_=>rfl
 |n+1,hn=>by
  simp only[bB];split
  rename_i r hr
  rw[gm h n (by omega)];cases r with
  |df g ps=>exact absurd hr (h n (by omega) g ps)
  |_=>rfl
  exact gm h n (by omega)
theorem iU{rs:qal}{i:Nat}{g:Str}{ps:qai}(hi:rs[i]?=some (.df g ps))(h:∀j,j<i->∀f ps,rs[j]?≠some (.df f ps)):∀n,i<n->∃l,bB rs n=(g,i)::l
 |0,hn=>absurd hn (Nat.not_lt_zero _)
 |n+1,hn=>by
  by_cases e:i=n;subst e;refine⟨[],?_⟩;simp only[bB,hi,QE];rw[gm h i (cO _)];rfl;obtain⟨l,hl⟩:=iU hi h n (by omega);simp only[bB];rw[hl];split
  rename_i r _
  cases r with
  |df f qs=>simp only[QE];split;exact⟨l,rfl⟩;exact⟨l++[(f,n)],rfl⟩
  |_=>exact⟨l,rfl⟩
  exact⟨l,rfl⟩
theorem Ll(h:V9 r=true):∃f ps,r=.df f ps:=by
 cases r with
 |df f ps=>exact⟨f,ps,rfl⟩
 |_=>cases h
theorem tI(h:gP rs=some i):(∃f ps,rs[i]?=some (.df f ps))/\∀j,j<i->∀f ps,rs[j]?≠some (.df f ps):=by unfold gP at h;rw[List.findIdx?_eq_some_iff_getElem] at h;obtain⟨hl,h1,h2⟩:=h;obtain⟨f,ps,e⟩:=Ll h1;refine⟨⟨f,ps,by rw[rq hl,e]⟩,λj hj f ps e=>?_⟩;obtain⟨Yj,ej⟩:=eB.mp e;have:=h2 j hj;rw[ej] at this;exact this rfl
theorem Dw(h:gP rs=none):∀(j:Nat) f ps,rs[j]?≠some (Rw.df f ps):=by unfold gP at h;rw[List.findIdx?_eq_none_iff] at h;intro j f ps e;have:=h _ (gW e);cases this
theorem z8(h:gP rs=none):bB rs rs.length=[]:=gm (i:=rs.length) (λj _=>Dw h j) _ (cO _)
theorem GH{m:Int}(h1:m∈(bB rs rs.length).map λp=>(p.2:Int))(h2:∀i∈(bB rs rs.length).map λp=>(p.2:Int),m<=i):T.int m=oT (gP rs):=by
 cases e:gP rs with
 |none=>rw[z8 e] at h1;cases h1
 |some i=>
  obtain⟨⟨g,ps,hi⟩,hm⟩:=tI e;obtain⟨l,hl⟩:=iU hi hm rs.length (eB.mp hi).1;obtain⟨p,hp,rfl⟩:=yW.mp h1;obtain⟨_,qs,hq⟩:=tG rs _ p hp;have le1:(p.2:Int)<=(i:Int):=h2 _ (yW.mpr ⟨(g,i),by rw[hl];exact dG,rfl⟩);have le2:¬ p.2<i:=λz=>hm _ z _ _ hq;have:p.2=i:=by omega
  rw[this];rfl
noncomputable def Lm(rs:qal):qaj:=(List.range rs.length).map λi=>oT (jx (br rs) i)
noncomputable def BO(rs:qal):qaj:=(List.range rs.length).map λi=>oT (endsAt (br rs) rs.length i)
noncomputable def QI(rs:qal):qaj:=wb (br rs) rs.length rs.length
noncomputable def V_(rs:qal):qaj:=(List.range rs.length).map λi=>oT (yS (br rs) i)
theorem GJ(rs:qal):GF rs=[.lst (Lm rs),.lst (BO rs),.lst (QI rs),.lst (V_ rs)]:=rfl
noncomputable def dm(C:Addr)(rs:qal):T:=.ins C ["program","heads","ends","elses","homes","defs","main"] [.lst (rs.map a8),.lst (Lm rs),.lst (BO rs),.lst (QI rs),.lst (V_ rs),S4 (bB rs rs.length),oT (gP rs)]
section
theorem cT(h:rs[i]?=some r):jN (rs.map a8) (i:Int)=some (a8 r):=ai (by rw[jC,h];rfl)
theorem QJ(h:i<rs.length):jN (Lm rs) (i:Int)=some (oT (jx (br rs) i)):=ai (by unfold Lm;rw[jC,Tj h];rfl)
theorem BP(h:i<rs.length):jN (BO rs) (i:Int)=some (oT (endsAt (br rs) rs.length i)):=ai (by unfold BO;rw[jC,Tj h];rfl)
end
noncomputable def top(i:Nat):Stmt:=PySem.Challenge.pw_slicewise_k14_choices_and_loops.main.body.getD i (.Pass ⟨0,0,0,0⟩)
noncomputable abbrev il:Stmt:=top 13
structure MgF(mg:qae):Prop where
 enumerate:mg "enumerate"=none
def GK(ts:qaj)(q:qam):Prop:=∃rs:qal,ts=[.lst (rs.map a8)]/\rs.length<=100/\q (.fr (S4 (bB rs rs.length)))
section
noncomputable abbrev vb:qai:=["program","firsts","place","row"]
theorem jV:aE vb qaw (aj il):=L2.gB
theorem sf(D:Df K mg "first_defs" il qaw f fd)(M:MgF mg):cq P w K mg base "first_defs" qaw 1 (dO K 1 GK):=by
 refine D.gK (oN D.F jV rfl λbz A outer s H E Ox hr ts q hG=>?_);have nd:=jV.nd;have hu:=bx.gq hr;have np:∀{i:Nat},bG ⟨H,[],Ox⟩ i:=nH;refine⟨_,(ah (eS (i:=1) nd rfl (Or.inl rfl) (qau Bv) np)
  (ah (mJ Ea rfl (Bq (by rfl) M.enumerate (aq 0)) (pS (n:=2) rfl (cg (bE (i:=2) nd rfl (Or.inl rfl) np) (cg (bE (i:=3) nd rfl (Or.inl rfl) np) jk)))
   (aw (bQ (cJ hu (qas (aA (ae 3) (qas af))) (qas aI))
    (aw (bo (KU 1 (qat (aA (ae 3) (qas af))) (aq 2))))
    aQ)))
  (aw (aW (Bh 1 np))))),λ_=>?_⟩
 obtain⟨rs,rfl,hn,hq⟩:=hG;refine tD (λi ρ=>∃b2 b3,ρ=[some (.lst (rs.map a8),false),some (S4 (bB rs i),true),b2,b3]) ⟨_,_,rfl⟩ ?_ ?_;rintro i r ρ hr ⟨b2,b3,rfl⟩;have hi:=(eB.mp hr).1;have hlen:((bB rs i).map λp=>T.int (p.2:Int)).length<16777216:=by rw[c6];have:=qA rs i;omega
 have es:bB rs (i+1)=QE (bB rs i) i r:=by simp only[bB,hr]
 cases r with
 |df g ps=>
  refine⟨rfl,rfl,_,ai (j:=0) rfl,?_⟩;refine⟨_,ai (j:=1) rfl,hlen,?_⟩;rw[es];simp only[QE];rw[QH];cases ha:Jf (bB rs i) g with
  |some j=>exact⟨_,_,rfl⟩
  |none=>
   show ∃b2 b3,_=[_,some (S4 (bB rs i++[(g,i)]),true),b2,b3];have ef:S4 (bB rs i++[(g,i)])=.dk (((bB rs i).map λp=>(Sum.inr p.1:Key))++[Sum.inr g]) (((bB rs i).map λp=>T.int (p.2:Int))++[T.int (i:Int)]):=by simp only[S4,kH,gA,IV]
   rw[ef];exact⟨_,_,rfl⟩
 |_=>refine⟨rfl,rfl,_,ai (j:=0) rfl,?_⟩;rw[es];exact⟨_,_,rfl⟩
 rintro ρ ⟨b2,b3,rfl⟩;exact hq
end
end Lay
namespace V'
open PySem L2 VT Gen K5
noncomputable def top(i:Nat):Stmt:=PySem.Challenge.pw_slicewise_k14_choices_and_loops.main.body.getD i (.Pass ⟨0,0,0,0⟩)
noncomputable abbrev lC:Stmt:=top 14
structure Mg5(K:qaf)(mg:qae):Prop where
 len:mg "len"=none
 range:mg "range"=none
 enumerate:mg "enumerate"=none
 isinstance:mg "isinstance"=none
 int:mg "int"=none
 bool:mg "bool"=none
 tuple:mg "tuple"=none
 list:mg "list"=none
 zip:mg "zip"=none
 CL:∃a,mg "CLOSERS"=some (.ref a)/\∀H,dU K H a [.str "give",.str "end"]
 OP:∃a,mg "OPENERS"=some (.ref a)/\∀H,dU K H a [.str "def",.str "if",.str "while"]
def GN(ts:qaj)(q:qaj->Prop):Prop:=∃rs:qal,ts=[.lst (rs.map a8)]/\S3 rs/\rs.length<=100/\q (GF rs)
theorem pv{l:qaj}{t:T}(h:l.getLast?=some t):jN l (-1)=some t:=by
 have hl:0<l.length:=by cases l<;>simp_all
 rw[wg] at h;unfold jN v8;rw[if_neg (by decide),if_pos (by omega)];have e:(-1+(l.length:Int)).toNat=l.length-1:=by omega
 rw[e];exact h
theorem GO(kd:Nat->Kd):∀k,(st kd k).length<=k
 |0=>cO _
 |k+1=>by have:=GO kd k;simp only[st];split<;>split<;>simp<;>omega
theorem Ln(n:Nat)(t:T):(List.replicate n [t]).flatten=List.replicate n t:=by
 induction n with
 |zero=>rfl
 |succ n ih=>rw[Eo,Oq,ih];rfl
noncomputable def GP(rs:qal)(h e l o s:qaj)(k:Nat)(r:Rw):En:=[some (.lst (rs.map a8),false),some (.lst h,true),some (.lst e,true),some (.lst l,true),some (.lst o,true),some (.lst s,true),some (.int (k:Int),false),some (a8 r,false)]
noncomputable def vd(rs:qal)(k:Nat):qaj:=(st (br rs) k).map λ(j:Nat)=>T.int (j:Int)
def Wa(rs:qal)(k:Nat)(ρ:En):Prop:=∃b6 b7 h e l o s,ρ=[some (.lst (rs.map a8),false),some (.lst h,true),some (.lst e,true),some (.lst l,true),some (.lst o,true),some (.lst s,true),b6,b7]/\h=tab (jx (br rs)) rs.length k/\e=iH (endsAt (br rs) rs.length) rs.length k/\l=wb (br rs) rs.length k/\o=tab (yS (br rs)) rs.length k/\s=vd rs k
noncomputable def z9(rs:qal)(M:Nat->Rw->qaj->qaj->qaj->qaj->qaj->Prop):FS:=λd ρ=>∃k r h e l o s,rs[k]?=some r/\ρ=GP rs h e l o s k r/\h=tab (jx (br rs)) rs.length (k+1)/\M k r h e l o s/\∀ρ',Wa rs (k+1) ρ'->d.nx ρ'
def M1(rs:qal)(k:Nat)(r:Rw)(h e l o s:qaj):Prop:=e=iH (endsAt (br rs) rs.length) rs.length k/\l=wb (br rs) rs.length k/\s=vd rs k/\o.length=rs.length/\((aX r).df=true->o.set k (.int (k:Int))=tab (yS (br rs)) rs.length (k+1))/\((aX r).df=false->o=tab (yS (br rs)) rs.length (k+1))
def M2(rs:qal)(k:Nat)(r:Rw)(h e l o s:qaj):Prop:=e=iH (endsAt (br rs) rs.length) rs.length k/\l=wb (br rs) rs.length k/\s=vd rs k/\o=tab (yS (br rs)) rs.length (k+1)
def M3(rs:qal)(k:Nat)(r:Rw)(h e l o s:qaj):Prop:=e=iH (endsAt (br rs) rs.length) rs.length k/\l=wb (br rs) rs.length (k+1)/\s=vd rs k/\o=tab (yS (br rs)) rs.length (k+1)
def M4(rs:qal)(k:Nat)(r:Rw)(h e l o s:qaj):Prop:=e=iH (endsAt (br rs) rs.length) rs.length (k+1)/\l=wb (br rs) rs.length (k+1)/\o=tab (yS (br rs)) rs.length (k+1)/\s=(if (aX r).cl=true then (vd rs k).dropLast else vd rs k)
theorem qB{k:Nat}(h:k<n):v8 n (k:Int)=some k:=by unfold v8;rw[if_pos (by omega),if_pos (by omega),D']
theorem vf{k:Nat}(h:st (br rs) k≠[]):∃j,(st (br rs) k).getLast?=some j/\jN (vd rs k) (-1)=some (.int (j:Int)):=by obtain⟨j,hj⟩:∃j,(st (br rs) k).getLast?=some j:=⟨_,List.getLast?_eq_some_getLast h⟩;exact⟨j,hj,pv (by unfold vd;rw[List.getLast?_map,hj];rfl)⟩
section
noncomputable abbrev vg:qai:=["program","heads","ends","elses","homes","opened","place","row"]
theorem xN:aE vg qaw (aj lC):=L2.gB
theorem GQ(D:Df K mg "shape" lC qaw f fd)(M:Mg5 K mg):cq P w K mg base "shape" qaw 1 (Vs K 1 GN):=by
 refine D.gK (fnD D.F xN rfl (by decide) λbz A outer s H E Ox hr ts q hG=>?_);have nd:=xN.nd;have hu:=bx.gq hr;have np:∀{i:Nat},bG ⟨H,[],Ox⟩ i:=nH;obtain⟨ac,mc,hac⟩:=M.CL;obtain⟨ao,mo,hao⟩:=M.OP;have Dx:∀{pos},VP (eY dS P w K mg base vg "shape" (aj lC) f bz A outer s H E).pf ⟨H,[],Ox⟩ (.Name "CLOSERS" pos) (fC (.tup [.str "give",.str "end"])):=hU (by rfl) mc (v:=.ref ac) rfl λH A=>cf (hac H) (aB.cons cS (aB.cons cS aB.nil));have Dy:∀{pos},VP (eY dS P w K mg base vg "shape" (aj lC) f bz A outer s H E).pf ⟨H,[],Ox⟩ (.Name "OPENERS" pos) (fC (.tup [.str "def",.str "if",.str "while"])):=hU (by rfl) mo (v:=.ref ao) rfl λH A=>cf (hao H) (aB.cons cS (aB.cons cS (aB.cons cS aB.nil)));obtain⟨rs,rfl,W,hn,hq⟩:=hG;refine⟨_,(gM (eS (i:=1) nd rfl (Or.inl rfl) (qau (qd (dw (aa (qat c_) ak)) (qas (bK bM bN (by rfl) M.len wm (a9 (ae 0) bw))))) np)
  (gM (eS (i:=2) nd rfl (Or.inl rfl) (qau (qd (dw (aa (qat c_) ak)) (qas (bK bM bN (by rfl) M.len wm (a9 (ae 0) bw))))) np)
  (gM (eS (i:=3) nd rfl (Or.inl rfl) (qau (qd (dw (aa (qat c_) ak)) (qas (bK bM bN (by rfl) M.len wm (a9 (ae 0) bw))))) np)
  (gM (eS (i:=4) nd rfl (Or.inl rfl) (qau (qd (dw (aa (qat c_) ak)) (qas (bK bM bN (by rfl) M.len wm (a9 (ae 0) bw))))) np)
  (gM (eS (i:=5) nd rfl (Or.inl rfl) (qau (dw ak)) np)
  (gM (mJ Ea rfl (Bq (by rfl) M.enumerate (aq 0)) (pS (n:=2) rfl (cg (bE (i:=6) nd rfl (Or.inl rfl) np) (cg (bE (i:=7) nd rfl (Or.inl rfl) np) jk)))
   (ah (bQ (wR (qas (bK bM bN (by rfl) M.len wm (a9 (ae 5) bw))) (qas af))
    (ah (mG 1 (qat (aA (ae 5) (qas (pO (qas af))))) (ae 6))
    (aw (mG 4 (qat (aA (ae 5) (qas af))) (ae 6))))
    aQ)
   (iF.weak (u:=(z9 rs (M1 rs))) (ah (bQ (cJ hu (qas (aA (ae 7) (qas af))) (qas aI))
    (aw (mG 4 (aq 6) (ae 6)))
    aQ)
   (iF.weak (u:=(z9 rs (M2 rs))) (ah (bQ (cJ hu (qas (aA (ae 7) (qas af))) (qas aI))
    (aw (mG 3 (aq 6) (qas (aA (ae 5) (qas (pO (qas af)))))))
    aQ)
   (iF.weak (u:=(z9 rs (M3 rs))) (ah (bQ (sX (qas (aA (ae 7) (qas af))) (qas Dx))
    (ah (mG 2 (aq 6) (qas (aA (ae 5) (qas (pO (qas af))))))
    (aw (bo (PL 5 PySem.F.slot_list_pop PySem.F.type_list_pop EX Kk))))
    aQ)
   (iF.weak (u:=(z9 rs (M4 rs))) (aw (bQ (sX (qas (aA (ae 7) (qas af))) (qas Dy))
    (aw (bo (dZ 5 sG sH bc bj (aa (aq 6) ak))))
    aQ)) ?w4)) ?w3)) ?w2)) ?w1)))
  (KY (is:=[1,2,3,4]) rfl ⟨_,_,1,_,rfl,rfl,rfl,Or.inl rfl,by decide,by decide,rfl,⟨_,_,2,_,rfl,rfl,rfl,Or.inl rfl,by decide,by decide,rfl,⟨_,_,3,_,rfl,rfl,rfl,Or.inl rfl,by decide,by decide,rfl,⟨_,_,4,_,rfl,rfl,rfl,Or.inl rfl,by decide,by decide,rfl,rfl⟩⟩⟩⟩ (by decide) (by decide)))))))),λ_=>?main⟩
 case w4=>
  rintro d ρ ⟨k,r,h,e,l,o,s,dI,rfl,rfl,⟨rfl,rfl,rfl,rfl⟩,fin⟩;have zX:k<rs.length:=(eB.mp dI).1;have nQ:=eE dI;obtain⟨rl,er⟩:=gO r;unfold GP;rw[er];refine⟨_,ai (j:=0) rfl,rfl,rfl,?_⟩;refine zt (λh1=>?_) (λh1=>?_);have ho:(aX r).op=true:=by rw[<- V7];exact h1
  have hc:(aX r).cl=false:=by have:=W.ex k zX (by rw[nQ];exact ho);rw[nQ] at this;exact this
  rw[hc,if_neg eO];refine⟨?_,fin _ ⟨_,_,_,_,_,_,_,rfl,rfl,rfl,rfl,rfl,?_⟩⟩;have:=GO (br rs) k;unfold vd;rw[c6,sizeLine_eq];omega;unfold vd;rw[lr (by rw[nQ];exact ho) (by rw[nQ];exact hc),kH];rfl;have ho:(aX r).op=false:=by
   cases q:(aX r).op with
   |false=>rfl
   |true=>exact (h1 ((V7 r).trans q)).elim
  refine fin _ ⟨_,_,_,_,_,_,_,rfl,rfl,rfl,rfl,rfl,?_⟩;unfold vd;by_cases hc:(aX r).cl=true;rw[if_pos hc,lu (by rw[nQ];exact hc) (by rw[nQ];exact ho),List.map_dropLast];rw[if_neg hc,qz (by rw[nQ];cases q:(aX r).cl<;>simp_all) (by rw[nQ];exact ho)]
 case w3=>
  rintro d ρ ⟨k,r,h,e,l,o,s,dI,rfl,rfl,⟨rfl,rfl,rfl,rfl⟩,fin⟩;have zX:k<rs.length:=(eB.mp dI).1;have nQ:=eE dI;obtain⟨rl,er⟩:=gO r;unfold GP;rw[er];refine⟨_,ai (j:=0) rfl,rfl,rfl,?_⟩;refine zt (λh1=>?_) (λh1=>?_);have hc:(aX r).cl=true:=by rw[<- V6];exact h1
  have rE:(br rs k).cl=true:=by rw[nQ];exact hc
  obtain⟨j,hj,ej⟩:=vf (W.cl k zX rE);obtain⟨te,hjk⟩:=Lj W zX rE hj;refine⟨_,ej,j,by rw[xI];exact qB (by omega),rfl,.int (j:Int),?_,k,r,_,_,_,_,_,dI,by rw[<- er];rfl,rfl,⟨?_,rfl,rfl,by rw[if_pos hc]⟩,fin⟩;unfold vd;rw[c6,jC,<- wg,hj];rfl;refine GD te λi hi he=>?_;have:=(va W zX he hi).2;rw[hj] at this;exact (Option.some.inj this).symm;have hc:(aX r).cl=false:=by
   cases q:(aX r).cl with
   |false=>rfl
   |true=>exact (h1 ((V6 r).trans q)).elim
  refine⟨k,r,_,_,_,_,_,dI,by rw[<- er];rfl,rfl,⟨Du λi hi he=>?_,rfl,rfl,by rw[hc,if_neg eO]⟩,fin⟩;have:=(va W zX he hi).1;rw[nQ,hc] at this;cases this
 case w2=>
  rintro d ρ ⟨k,r,h,e,l,o,s,dI,rfl,rfl,⟨rfl,rfl,rfl,rfl⟩,fin⟩;have zX:k<rs.length:=(eB.mp dI).1;have nQ:=eE dI;obtain⟨rl,er⟩:=gO r;unfold GP;rw[er];refine⟨_,ai (j:=0) rfl,?_⟩;refine zt (λh1=>?_) (λh1=>?_);have hc:(aX r).el=true:=by rw[<- V5];exact h1
  have rE:(br rs k).el=true:=by rw[nQ];exact hc
  obtain⟨j,hj,ej⟩:=vf (W.el k zX rE);have Yj:j<k:=(jw k).2 j (List.mem_of_getLast? hj);refine⟨_,ej,j,by rw[o4];exact qB (by omega),k,r,_,_,_,_,_,dI,by rw[<- er];rfl,rfl,⟨rfl,?_,rfl,rfl⟩,fin⟩;simp only[wb,jx,rE,hj];have hc:(aX r).el=false:=by
   cases q:(aX r).el with
   |false=>rfl
   |true=>exact (h1 ((V5 r).trans q)).elim
  refine⟨k,r,_,_,_,_,_,dI,by rw[<- er];rfl,rfl,⟨rfl,?_,rfl,rfl⟩,fin⟩;simp only[wb,nQ,hc]
 case w1=>
  rintro d ρ ⟨k,r,h,e,l,o,s,dI,rfl,rfl,⟨rfl,rfl,rfl,ol,o1,o2⟩,fin⟩;have zX:k<rs.length:=(eB.mp dI).1;obtain⟨rl,er⟩:=gO r;unfold GP;rw[er];refine⟨_,ai (j:=0) rfl,?_⟩;refine zt (λh1=>?_) (λh1=>?_);exact⟨k,by rw[ol];exact qB zX,k,r,_,_,_,_,_,dI,by rw[<- er];rfl,rfl,⟨rfl,rfl,rfl,o1 (by rw[<- V4];exact h1)⟩,fin⟩;have hc:(aX r).df=false:=by
   cases q:(aX r).df with
   |false=>rfl
   |true=>exact (h1 ((V4 r).trans q)).elim
  exact⟨k,r,_,_,_,_,_,dI,by rw[<- er];rfl,rfl,⟨rfl,rfl,rfl,o2 hc⟩,fin⟩
 case main=>
  have hlen:((rs.map a8).length:Int)=(rs.length:Int):=by rw[c6]
  have acG:(List.replicate ((rs.map a8).length:Int).toNat [T.aO]).flatten=List.replicate rs.length T.aO:=by rw[hlen,D'];exact Ln _ _
  have SQ : -(2 ^ 63)<=((rs.map a8).length:Int):=by omega
  have Nq:((rs.map a8).length:Int)<2 ^ 63:=by omega
  have Yo:[T.aO].length * ((rs.map a8).length:Int).toNat<=sizeLine:=by rw[hlen,D',sizeLine_eq];simp;omega
  refine⟨Gen.bJ rfl,SQ,Nq,Yo,Gen.bJ rfl,SQ,Nq,Yo,Gen.bJ rfl,SQ,Nq,Yo,Gen.bJ rfl,SQ,Nq,Yo,Gen.bJ rfl,?_⟩;show pT (eG (rs.map a8)) _ _ _ [some (.lst (rs.map a8),false),some (.lst (List.replicate ((rs.map a8).length:Int).toNat [T.aO]).flatten,true),some (.lst (List.replicate ((rs.map a8).length:Int).toNat [T.aO]).flatten,true),some (.lst (List.replicate ((rs.map a8).length:Int).toNat [T.aO]).flatten,true),some (.lst (List.replicate ((rs.map a8).length:Int).toNat [T.aO]).flatten,true),some (.lst [],true),none,none];rw[GG,acG];refine FR (Wa rs)
   ⟨_,_,_,_,_,_,_,rfl,(xJ _ _).symm,(Dt _ _).symm,rfl,(xJ _ _).symm,rfl⟩ ?_ ?_
  . rintro k ⟨r,k'⟩ ρ hk ⟨b6,b7,_,_,_,_,_,rfl,rfl,rfl,rfl,rfl,rfl⟩;rw[List.getElem?_zipIdx] at hk;cases dI:rs[k]? with
    |none=>rw[dI] at hk;cases hk
    |some r'=>
    rw[dI] at hk;simp at hk;obtain⟨rfl,rfl⟩:=hk;have zX:k<rs.length:=(eB.mp dI).1;obtain⟨rl,er⟩:=gO r';refine⟨rfl,rfl,?_⟩;show UT _ _ _ [some (.lst (rs.map a8),false),some (.lst (tab (jx (br rs)) rs.length k),true),some (.lst (iH (endsAt (br rs) rs.length) rs.length k),true),some (.lst (wb (br rs) rs.length k),true),some (.lst (tab (yS (br rs)) rs.length k),true),some (.lst (vd rs k),true),some (.int (k:Int),false),some (a8 r',false)];rw[er];have nQ:=eE dI;refine gr (λh1=>?_) (λh1=>?_);have fE:st (br rs) k≠[]:=λz=>by have Ej:((vd rs k).length:Int) > 0:=h1;unfold vd at Ej;rw[z] at Ej;simp at Ej
    obtain⟨j,hj,ej⟩:=vf fE;obtain⟨j0,Yp⟩:∃j0,(st (br rs) k).head?=some j0:=⟨_,List.head?_eq_some_head fE⟩;have ej0:jN (vd rs k) 0=some (.int (j0:Int)):=ai (j:=0) (by unfold vd;rw[jC,<- List.head?_eq_getElem?,Yp];rfl);refine⟨_,ej,k,by rw[lz];exact qB zX,_,ej0,k,by rw[lz];exact qB zX,k,r',_,_,_,_,_,dI,by rw[<- er];rfl,?_,⟨rfl,rfl,rfl,by rw[IQ,lz],λhd=>?_,λhd=>?_⟩,λρ' h=>h⟩;have e1:T.int (j:Int)=oT (jx (br rs) k):=by unfold jx;rw[hj];rfl
    rw[e1];exact oZ;rw[List.set_set];have e1:T.int (k:Int)=oT (yS (br rs) k):=by unfold yS;rw[nQ,if_pos hd];rfl
    rw[e1];exact oZ;have e1:T.int (j0:Int)=oT (yS (br rs) k):=by unfold yS;rw[nQ,hd,if_neg eO,Yp];rfl
    rw[e1];exact oZ;have fE:st (br rs) k=[]:=by
     cases q:st (br rs) k with
     |nil=>rfl
     |cons a b=>exfalso;refine h1 ?_;show ((vd rs k).length:Int) > 0;unfold vd;rw[q];simp
    refine⟨k,r',_,_,_,_,_,dI,by rw[<- er];rfl,xK (by unfold jx;rw[fE];rfl),⟨rfl,rfl,rfl,by rw[lz],λhd=>?_,λhd=>?_⟩,λρ' h=>h⟩;have e1:T.int (k:Int)=oT (yS (br rs) k):=by unfold yS;rw[nQ,if_pos hd];rfl
    rw[e1];exact oZ;exact xK (by unfold yS;rw[nQ,hd,if_neg eO,fE];rfl)
  rintro ρ ⟨b6,b7,_,_,_,_,_,rfl,rfl,rfl,rfl,rfl,rfl⟩;rw[List.length_zipIdx,xM,xM,Dv];exact hq;intro j m hj he;unfold endsAt at he;split at he
  rename_i ho
  obtain⟨e,h1,h2,h3,_⟩:=end_is W hj ho;rw[h1] at he;cases he;exact h3;cases he
end
end V'
namespace Lay
open PySem L2 VT Gen K5
noncomputable abbrev iV:Stmt:=inClass (top 16) 0
structure Wb(mg:qae):Prop where
 len:mg "len"=none
 min:mg "min"=none
structure QK(K:qaf)(C:Addr):Prop where
 cl:y9 K C
 fq:bb K C "program"
 BQ:bb K C "heads"
 vh:bb K C "ends"
 vi:bb K C "elses"
 Lo:bb K C "homes"
 z_:bb K C "defs"
 GR:bb K C "main"
def lF(C:Addr)(ts:qaj)(q:T->Prop):Prop:=∃rs:qal,ts=[.lst (rs.map a8)]/\S3 rs/\rs.length<=100/\q (dm C rs)
section
variable{cLayout:Addr}
noncomputable abbrev GS:qai:=["self","program","parts"]
theorem tJ:aE GS qax (aj iV):=L2.gB
theorem Dz(D:Dc K mg "Layout" "Layout.__init__" iV qax cLayout f fd)(M:Wb mg)(M1:QK K cLayout)(Lp:cq P w K mg base "shape" qaw 1 (Vs K 1 V'.GN))(vj:cq P w K mg base "first_defs" qaw 1 (dO K 1 GK)):Gi P w K mg base "Layout" cLayout qax 2 1 (lF cLayout):=by
 obtain⟨Yq,Wc,Lq,Lr,Ls,Lu⟩:=Lp;refine D.gK (fnI D.F tJ rfl λbz A outer s H E as Ox hr us q hl hG=>?_);have nd:=tJ.nd;have az:=M1;refine⟨_,(ah (bq (i:=2) nd rfl (Or.inl rfl) (qau (VD.vp (KZ Lu (hr.mono (by decide)) (by rfl) Lq Lr Ls (aa (aq 1) ak)))) (fJ (by decide)))
  (ah (ie 0 az.cl az.fq (aq 1))
  (ah (ie 0 az.cl az.BQ (qat (aA (ae 2) (qas af))))
  (ah (ie 0 az.cl az.vh (qat (aA (ae 2) (qas af))))
  (ah (ie 0 az.cl az.vi (qat (aA (ae 2) (qas af))))
  (ah (ie 0 az.cl az.Lo (qat (aA (ae 2) (qas af))))
  (ah (ie 0 az.cl az.z_ (qat (aP vj hr (aa (aq 1) ak))))
  (aw (ie 0 az.cl az.GR (qat (iB (wR (qas (bK De zR (by rfl) M.len wm (a9 (qas (aZ az.cl az.z_ (ae 0))) bw))) (qas af)) (zS rfl (by rfl) M.min (qas (aZ az.cl az.z_ (ae 0)))) c_))))))))))),?_⟩
 obtain⟨rs,rfl,W,hn,hq⟩:=hG;refine⟨rfl,rs,rfl,W,hn,?_⟩;rw[GJ];refine⟨rfl,by show 0<1000;decide,?_⟩;refine⟨rfl,_,ai (j:=0) rfl,by show 1<1000;decide,?_⟩;refine⟨rfl,_,ai (j:=1) rfl,by show 2<1000;decide,?_⟩;refine⟨rfl,_,ai (j:=2) rfl,by show 3<1000;decide,?_⟩;refine⟨rfl,_,ai (j:=3) rfl,by show 4<1000;decide,?_⟩;refine⟨rfl,rfl,rs,rfl,hn,by show 5<1000;decide,?_⟩;refine⟨rfl,?_⟩;refine⟨rfl,_,rfl,?_⟩;refine gr (λh=>?_) (λh=>?_);refine⟨rfl,_,rfl,(bB rs rs.length).map (λp=>(p.2:Int)),?_,?_,λm h1 h2=>?_⟩;rw[IW];rfl;intro z;rw[List.map_eq_nil_iff] at z;rw[z] at h;exact absurd h (by decide);refine⟨by show 6<1000;decide,?_⟩;have e:=GH h1 h2;show q [_] _;rw[e];exact hq;refine⟨by show 6<1000;decide,?_⟩;have z:bB rs rs.length=[]:=by
  cases e:bB rs rs.length with
  |nil=>rfl
  |cons a b=>exfalso;apply h;rw[e];simp
 have e:gP rs=none:=by
  cases e:gP rs with
  |none=>rfl
  |some i=>obtain⟨⟨g,ps,hi⟩,hm⟩:=tI e;obtain⟨l,hl⟩:=iU hi hm rs.length (eB.mp hi).1;rw[z] at hl;cases hl
 have e2:T.aO=oT (gP rs):=by rw[e];rfl
 unfold dm at hq;rw[<- e2] at hq;exact hq
end
def Ev(rs:qal)(k j:Nat):Prop:=∃k',k'<k/\rs[k']?=some .jU/\jx (br rs) k'=some j
structure Al(rs:qal)(k:Nat)(s:qai):Prop where
 len:s.length=(st (br rs) k).length
 Wd:∀i j:Nat,(st (br rs) k)[i]?=some j->∃r,rs[j]?=some r/\((¬ Ev rs k j/\s[i]?=some (wd r))\/(Ev rs k j/\s[i]?=some ("else":Str)/\wd r="if"))
 bot:∀(i:Nat)(x:Str),s[i]?=some x->(x=("def":Str)↔i=0)
theorem We(h:wd r="if"):∃a,r=.iG a:=by cases r<;>first|exact⟨_,rfl⟩|exact absurd h (by show ¬ ((_:Str)="if");simp only[wd];decide +kernel)
theorem Ev.succ{k:Nat}(h:Ev rs k j):Ev rs (k+1) j:=let ⟨k',a,b⟩:=h;⟨k',Ot a,b⟩
theorem vk{k:Nat}(h:rs[k]?≠some .jU):Ev rs (k+1) j↔Ev rs k j:=by refine⟨λ⟨k',a,b,c⟩=>?_,Ev.succ⟩;by_cases e:k'=k;subst e;exact absurd b h;exact⟨k',by omega,b,c⟩
section
theorem Lw{k:Nat}{s:qai}(A:Al rs k s)(hs:st (br rs) (k+1)=st (br rs) k)(he:rs[k]?≠some .jU):Al rs (k+1) s :=
 ⟨by rw[hs];exact A.len,λi j h=>by rw[hs] at h;obtain⟨r,h1,h2⟩:=A.Wd i j h;exact⟨r,h1,by rw[vk he];exact h2⟩,A.bot⟩
theorem BR{k:Nat}{s:qai}(A:Al rs k s)(hs:st (br rs) (k+1)=(st (br rs) k).dropLast)(he:rs[k]?≠some .jU):Al rs (k+1) s.dropLast :=
 ⟨by rw[hs,yV,yV,A.len],λi j h=>by
  rw[hs] at h;have hi:=(eB.mp h).1;rw[yV] at hi;rw[Oo,if_pos hi] at h;obtain⟨r,h1,h2⟩:=A.Wd i j h;rw[Oo,if_pos (by rw[A.len];exact hi)];exact⟨r,h1,by rw[vk he];exact h2⟩,λi x h=>by
  have hi:=(eB.mp h).1;rw[yV] at hi;rw[Oo,if_pos hi] at h;exact A.bot i x h⟩
theorem vm{k:Nat}{s:qai}(W:S3 rs)(hk:k<rs.length)(A:Al rs k s)(hr:rs[k]?=some r)(hs:st (br rs) (k+1)=st (br rs) k++[k])(he:r≠.jU)(hb:wd r=("def":Str)↔s=[]):Al rs (k+1) (s++[wd r]):=by
 have he':rs[k]?≠some .jU:=by rw[hr];intro z;exact he (Option.some.inj z)
 have nev:¬ Ev rs (k+1) k:=λ⟨k',a,b,c⟩=>by
  have zU:k'<=k:=by omega
  unfold jx at c;have hm:k∈st (br rs) k':=List.mem_of_getLast? c;have:=(jw (kd:=br rs) k').2 k hm;omega
 refine⟨by rw[hs,eC,eC,A.len];rfl,λi j h=>?_,λi x h=>?_⟩;rw[hs] at h;by_cases hi:i<(st (br rs) k).length;rw[og hi] at h;rw[og (by rw[A.len];exact hi)];obtain⟨r',h1,h2⟩:=A.Wd i j h;exact⟨r',h1,by rw[vk he'];exact h2⟩;rw[sF (by omega)] at h;have e:i-(st (br rs) k).length=0:=by
  cases q:i-(st (br rs) k).length with
  |zero=>rfl
  |succ m=>rw[q] at h;simp at h
 rw[e] at h;simp at h;subst h;refine⟨r,hr,.inl ⟨nev,?_⟩⟩;rw[sF (by rw[A.len];omega),A.len,e];rfl;by_cases hi:i<s.length;rw[og hi] at h;exact A.bot i x h;rw[sF (by omega)] at h;have e:i-s.length=0:=by
  cases q:i-s.length with
  |zero=>rfl
  |succ m=>rw[q] at h;simp at h
 rw[e] at h;simp at h;subst h;rw[hb];constructor;rintro rfl;simpa using e;rintro rfl;have:s.length=0:=by omega
 exact Om.mp this
theorem Lx{k:Nat}{s:qai}(A:Al rs k s)(hr:rs[k]?=some .jU)(hl:s.getLast?=some ("if":Str))(hs:st (br rs) (k+1)=st (br rs) k):Al rs (k+1) (s.dropLast++[("else":Str)]):=by
 have fE:s≠[]:=by rintro rfl;cases hl
 have adp:0<s.length:=SE.mpr fE;have t_:s[s.length-1]?=some ("if":Str):=by rw[<- wg];exact hl
 refine⟨by rw[hs,eC,yV,<- A.len];simp;omega,λi j h=>?_,λi x h=>?_⟩;rw[hs] at h;have hi:i<s.length:=by rw[A.len];exact (eB.mp h).1
 obtain⟨r,h1,h2⟩:=A.Wd i j h;by_cases e:i=s.length-1;subst e;have hh:jx (br rs) k=some j:=by unfold jx;rw[wg,<- A.len];exact h
 refine⟨r,h1,.inr ⟨⟨k,wj _,hr,hh⟩,?_,?_⟩⟩;rw[sF (by rw[yV];omega),yV,Nat.sub_self];rfl;obtain⟨_,h2⟩|⟨_,h2,_⟩:=h2
 rw[t_] at h2;exact (Option.some.inj h2).symm;rw[t_] at h2;exact absurd (Option.some.inj h2) (by decide +kernel);have acH:¬ jx (br rs) k=some j:=λz=>by unfold jx at z;rw[wg,<- A.len] at z;have hw:=(jw (kd:=br rs) k).1;obtain⟨a1,b1⟩:=eB.mp h;obtain⟨a2,b2⟩:=eB.mp z;have:=(List.pairwise_iff_getElem.mp hw) i (s.length-1) a1 a2 (by omega);omega
 have hev:Ev rs (k+1) j↔Ev rs k j:=by refine⟨λ⟨k',a,b,c⟩=>?_,Ev.succ⟩;by_cases e:k'=k;subst e;exact absurd c acH;exact⟨k',by omega,b,c⟩
 refine⟨r,h1,?_⟩;rw[hev,og (by rw[yV];omega),Oo,if_pos (by omega)];exact h2;by_cases hi:i<s.dropLast.length;rw[og hi] at h;rw[yV] at hi;rw[Oo,if_pos hi] at h;exact A.bot i x h;rw[sF (by omega)] at h;have e:i-s.dropLast.length=0:=by
  cases q:i-s.dropLast.length with
  |zero=>rfl
  |succ m=>rw[q] at h;simp at h
 rw[e] at h;simp at h;subst h;rw[yV] at e hi;have ei:i=s.length-1:=by omega
 have hbo:=A.bot (s.length-1) _ t_;constructor;intro z;exact absurd z (by decide +kernel);intro z;rw[ei] at z;exact absurd (hbo.mpr z) (by decide +kernel)
theorem iW{s:qai}(h:qy s x=true)(e:s=[]):x="def"\/x="skip":=by subst e;have:rA (.str x) ([("def":Str),"skip"].map T.str)=true:=h;rw[BK] at this;simpa using this
theorem iX{s:qai}{l:Str}(h:qy s x=true)(e:s.getLast?=some l):(x="give"->l="def")/\(x="else"->l="if")/\(x="end"->l≠"def")/\x≠"def":=by unfold qy at h;rw[e] at h;dsimp only at h;by_cases h1:x="give";rw[if_pos h1] at h;subst h1;exact⟨λ_=>of_decide_eq_true h,λz=>absurd z (by decide +kernel),λz=>absurd z (by decide +kernel),by decide +kernel⟩;rw[if_neg h1] at h;by_cases h2:x="else";rw[if_pos h2] at h;subst h2;exact⟨λz=>absurd z h1,λ_=>of_decide_eq_true h,λz=>absurd z (by decide +kernel),by decide +kernel⟩;rw[if_neg h2] at h;by_cases h3:x="end";rw[if_pos h3] at h;subst h3;exact⟨λz=>absurd z h1,λz=>absurd z h2,λ_=>by simpa using h,by decide +kernel⟩;rw[if_neg h3] at h;exact⟨λz=>absurd z h1,λz=>absurd z h2,λz=>absurd z h3,by simpa using h⟩
theorem GU(s:qai)(h1:(aX r).op=false)(h2:(aX r).cl=false)(h3:(aX r).el=false):uZ s (wd r)=s:=by
 have k:∀x:Str,(x="put"\/x="do"\/x="new"\/x="get"\/x="set"\/x="call"\/x="fail"\/x="skip")->uZ s x=s:=by intro x hx;unfold uZ;obtain rfl|rfl|rfl|rfl|rfl|rfl|rfl|rfl:=hx<;>rw[if_neg (by decide +kernel),if_neg (by decide +kernel),if_neg (by decide +kernel)]
 cases r<;>first
  |exact Bool.noConfusion (show true=false from h1)
  |exact Bool.noConfusion (show true=false from h2)
  |exact Bool.noConfusion (show true=false from h3)
  | (refine k _ ?_;simp[wd];done)
theorem GW(W:S3 rs)(hb:wa (some []) rs=some []):∀k,k<=rs.length->∃s,wa (some []) (rs.take k)=some s/\Al rs k s
 |0,_=>⟨[],rfl,⟨rfl,λi j h=>by simp[st] at h,λi x h=>by simp at h⟩⟩
 |k+1,hk=>by
  obtain⟨s,hs,A⟩:=GW W hb k (by omega);have eV:k<rs.length:=by omega
  have hr:rs[k]?=some rs[k]:=rq eV;obtain⟨s',h1,h2,h3⟩:=xE hb k hr;rw[hs] at h1;cases h1;refine⟨_,h3,?_⟩;generalize rs[k]=r at hr h2;have kk:=eE hr;have nil:s=[]->wd r="def"\/wd r="skip":=iW h2;have ne:s≠[]->∃l,s.getLast?=some l:=λz=>by obtain⟨a,l,e⟩:=BM z;exact⟨l,by rw[e,List.getLast?_concat]⟩
  cases r with
  |df f ps=>
   have e:s=[]:=by by_cases z:s=[];exact z;obtain⟨l,hl⟩:=ne z;exact absurd rfl (iX h2 hl).2.2.2
   have:=vm W eV A hr (lr (by rw[kk];rfl) (by rw[kk];rfl)) (by simp) ⟨λ_=>e,λ_=>rfl⟩;rw[show wd (.df f ps)="def" from rfl] at this ⊢;rw[Lg];exact this
  |iG a=>
   have e:s≠[]:=λz=>by rcases nil z with h|h<;>exact absurd h (by show ¬ (("if":Str)=_);decide +kernel)
   have:=vm W eV A hr (lr (by rw[kk];rfl) (by rw[kk];rfl)) (by simp) ⟨λh=>absurd h (by show ¬ (("if":Str)=_);decide +kernel),λh=>absurd h e⟩;rw[show wd (.iG a)="if" from rfl] at this ⊢;rw[QD];exact this
  |iC a=>
   have e:s≠[]:=λz=>by rcases nil z with h|h<;>exact absurd h (by show ¬ (("while":Str)=_);decide +kernel)
   have:=vm W eV A hr (lr (by rw[kk];rfl) (by rw[kk];rfl)) (by simp) ⟨λh=>absurd h (by show ¬ (("while":Str)=_);decide +kernel),λh=>absurd h e⟩;rw[show wd (.iC a)="while" from rfl] at this ⊢;rw[Ds];exact this
  |give a=>have:=BR A (lu (by rw[kk];rfl) (by rw[kk];rfl)) (by rw[hr];simp);rw[show wd (.give a)="give" from rfl,GB];exact this
  |fin=>have:=BR A (lu (by rw[kk];rfl) (by rw[kk];rfl)) (by rw[hr];simp);rw[show wd .fin="end" from rfl,Lh];exact this
  |jU=>
   have e:s≠[]:=λz=>by rcases nil z with h|h<;>exact absurd h (by show ¬ (("else":Str)=_);decide +kernel)
   obtain⟨l,hl⟩:=ne e;have Zw:=(iX h2 hl).2.1 rfl;rw[Zw] at hl;have:=Lx A hr hl (qz (by rw[kk];rfl) (by rw[kk];rfl));rw[show wd .jU="else" from rfl,GC];exact this
  |_=>rw[GU s rfl rfl rfl];exact Lw A (qz (by rw[kk];rfl) (by rw[kk];rfl)) (by rw[hr];simp)
end
structure Bl(rs:qal):Prop where
 W:S3 rs
 b:wa (some []) rs=some []
section
theorem Bl.at(B:Bl rs){k:Nat}(hr:rs[k]?=some r):∃s,Al rs k s/\qy s (wd r)=true:=by have hk:=(eB.mp hr).1;obtain⟨s,hs,A⟩:=GW B.W B.b k (by omega);obtain⟨s',h1,h2,h3⟩:=xE B.b k hr;rw[hs] at h1;cases h1;exact⟨s,A,h2⟩
theorem Al.jh{k:Nat}{s:qai}(A:Al rs k s):s=[]↔st (br rs) k=[]:=by rw[<- Om,<- Om,A.len]
theorem Al.last{k:Nat}{s:qai}(A:Al rs k s){l:Str}(h:s.getLast?=some l):∃o r,jx (br rs) k=some o/\rs[o]?=some r/\((¬ Ev rs k o/\l=wd r)\/(Ev rs k o/\l="else"/\wd r="if")):=by
 rw[wg] at h;have hi:=(eB.mp h).1;have hj:(st (br rs) k)[s.length-1]?=some ((st (br rs) k)[s.length-1]'(by rw[<- A.len];exact hi)):=rq _;obtain⟨r,h1,h2⟩:=A.Wd _ _ hj;have hh:jx (br rs) k=(st (br rs) k)[s.length-1]?:=by unfold jx;rw[wg,<- A.len]
 refine⟨_,r,hh.trans hj,h1,?_⟩;rw[h] at h2;obtain⟨a,b⟩|⟨a,b,c⟩:=h2
 exact .inl ⟨a,Option.some.inj b⟩;exact .inr ⟨a,Option.some.inj b,c⟩
theorem lastOf{s:qai}(z:s≠[]):∃l,s.getLast?=some l:=by obtain⟨a,l,e⟩:=BM z;exact⟨l,by rw[e,List.getLast?_concat]⟩
theorem Bl.inn(B:Bl rs){k:Nat}(hr:rs[k]?=some r)(h1:wd r≠"def")(h2:wd r≠"skip"):st (br rs) k≠[]:=by
 obtain⟨s,A,m⟩:=B.at hr;rw[Ne,<- A.jh];intro z;rcases iW m z with h|h
 exact h1 h;exact h2 h
theorem Bl.give(B:Bl rs){k:Nat}{a}(hr:rs[k]?=some (.give a)):(st (br rs) k).length=1:=by
 obtain⟨s,A,m⟩:=B.at hr;have z:s≠[]:=λz=>by rcases iW m z with h|h<;>exact absurd h (by show ¬ (("give":Str)=_);decide +kernel)
 obtain⟨l,hl⟩:=lastOf z;have hd:=(iX m hl).1 rfl;rw[wg,hd] at hl;have:=(A.bot _ _ hl).mp rfl;have:=SE.mpr z;rw[<- A.len];omega
theorem Bl.fin(B:Bl rs){k:Nat}(hr:rs[k]?=some .fin):2<=dp (br rs) k/\∃o r,jx (br rs) k=some o/\rs[o]?=some r/\wd r≠"def":=by
 obtain⟨s,A,m⟩:=B.at hr;have z:s≠[]:=λz=>by rcases iW m z with h|h<;>exact absurd h (by show ¬ (("end":Str)=_);decide +kernel)
 obtain⟨l,hl⟩:=lastOf z;have hd:=(iX m hl).2.2.1 rfl;obtain⟨o,r,h1,h2,h3⟩:=A.last hl;refine⟨?_,o,r,h1,h2,?_⟩;rw[wg] at hl;have h0:¬ s.length-1=0:=λq=>hd ((A.bot _ _ hl).mpr q);unfold dp;rw[<- A.len];omega;obtain⟨_,q⟩|⟨_,_,q⟩:=h3
 rw[<- q];exact hd;rw[q];decide +kernel
theorem Bl.jU(B:Bl rs){k:Nat}(hr:rs[k]?=some .jU):2<=dp (br rs) k/\∃o a,jx (br rs) k=some o/\rs[o]?=some (.iG a)/\¬ Ev rs k o:=by
 obtain⟨s,A,m⟩:=B.at hr;have z:s≠[]:=λz=>by rcases iW m z with h|h<;>exact absurd h (by show ¬ (("else":Str)=_);decide +kernel)
 obtain⟨l,hl⟩:=lastOf z;have hd:=(iX m hl).2.1 rfl;obtain⟨o,r,h1,h2,h3⟩:=A.last hl;refine⟨?_,?_⟩;rw[wg,hd] at hl;have h0:¬ s.length-1=0:=λq=>absurd ((A.bot _ _ hl).mpr q) (by decide +kernel);unfold dp;rw[<- A.len];omega;obtain⟨a,q⟩|⟨_,q,_⟩:=h3
 rw[hd] at q;obtain⟨x,rfl⟩:=We q.symm;exact⟨o,x,h1,h2,a⟩;rw[hd] at q;exact absurd q (by decide +kernel)
theorem Bl.top(B:Bl rs){o e:Nat}(ho:o<rs.length)(qC:(br rs o).op=true)(he:endsAt (br rs) rs.length o=some e):o<e/\e<rs.length/\dp (br rs) (e+1)=dp (br rs) o/\(∀m,o<m->m<=e->dp (br rs) o<dp (br rs) m)/\(∀m,o<m->m<e->dp (br rs) (m+1)≠dp (br rs) o):=by unfold endsAt at he;rw[if_pos qC] at he;obtain⟨e',h1,h2,h3,h4,h5⟩:=end_is B.W ho qC;rw[he] at h1;cases h1;exact⟨h2,h3,h4,above B.W ho qC e h2 (by omega) h5,h5⟩
end
section
noncomputable def Ly(kd:Nat->Kd):Nat->Nat->Option Nat
 |0,_=>none
 |k+1,j=>if (kd k).el=true/\jx kd k=some j then some k else Ly kd k j
theorem GX(kd:Nat->Kd)(n:Nat){j:Nat}(hj:j<n):∀k,(wb kd n k)[j]?=some (oT (Ly kd k j))
 |0=>by simp[wb,Ly,oT,hj]
 |k+1=>by
  have ih:=GX kd n hj k;simp only[wb,Ly];cases hc:(kd k).el with
  |false=>simp only[Bool.false_eq_true,false_and,if_false];exact ih
  |true=>
   cases hh:jx kd k with
   |none=>simp only[reduceCtorEq,and_false,if_false];exact ih
   |some h=>simp only[Option.some.injEq,true_and];by_cases e:h=j;subst e;rw[if_pos rfl,AY (by rw[o4];exact hj)];rfl;rw[if_neg e,rC e];exact ih
theorem xO{kd:Nat->Kd}{j x:Nat}:∀{k},Ly kd k j=some x->x<k/\(kd x).el=true/\jx kd x=some j
 |0,h=>by cases h
 |k+1,h=>by
  simp only[Ly] at h;split at h
  rename_i q;cases h;exact⟨wj _,q⟩
  have:=xO h;exact⟨by omega,this.2⟩
noncomputable def DA(rs:qal)(j:Nat):Option Nat:=Ly (br rs) rs.length j
theorem QL(hj:j<rs.length):jN (QI rs) (j:Int)=some (oT (DA rs j)):=ai (GX _ _ hj _)
theorem QM{x:Nat}(h:(br rs x).el=true):rs[x]?=some .jU:=by
 unfold br at h;split at h
 rename_i r hr
 rw[hr];cases r<;>first|rfl|exact Bool.noConfusion (show false=true from h)
 exact Bool.noConfusion (show false=true from h)
structure Blo(rs:qal)(o e:Nat):Prop where
 lt:o<rs.length
 op:(br rs o).op=true
 en:endsAt (br rs) rs.length o=some e
 d1:1<=dp (br rs) o
 le:o<e
 el:e<rs.length
 ab:∀m,o<m->m<=e->dp (br rs) o<dp (br rs) m
 fi:∀m,o<m->m<e->dp (br rs) (m+1)≠dp (br rs) o
 de:dp (br rs) e=dp (br rs) o+1
 re:rs[e]?=some .fin
theorem Bl.Wf(B:Bl rs){o:Nat}(hr:rs[o]?=some r)(hw:wd r="if"\/wd r="while"):∃e,Blo rs o e:=by
 have qC:(br rs o).op=true:=by rw[eE hr];cases r<;>first|rfl|exact absurd hw (by show ¬ ((_:Str)="if"\/(_:Str)="while");simp only[wd];decide +kernel)
 have ho:=(eB.mp hr).1;obtain⟨e,h1,h2,h3,h4,h5⟩:=end_is B.W ho qC;have he:endsAt (br rs) rs.length o=some e:=by unfold endsAt;rw[if_pos qC];exact h1
 obtain⟨a,b,c,d,f⟩:=B.top ho qC he;have fE:st (br rs) o≠[]:=B.inn hr (by obtain q|q:=hw<;>rw[q]<;>decide +kernel) (by obtain q|q:=hw<;>rw[q]<;>decide +kernel);have d1:1<=dp (br rs) o:=by unfold dp;exact SE.mpr fE
 obtain⟨E6,adq⟩:=va B.W b he ho;have fA:=xF B.W b E6;have re:rs[e]?=some .fin:=by
  have Yr:rs[e]?=some rs[e]:=rq b;have kk:=eE Yr;rw[kk] at E6;generalize rs[e]=q at Yr E6;cases q with
  |fin=>exact Yr
  |give x=>have:=B.give Yr;unfold dp at fA c d1;omega
  |_=>exact Bool.noConfusion (show false=true from E6)
 exact⟨e,ho,qC,he,d1,a,b,d,f,by omega,re⟩
noncomputable def lH(rs:qal)(o:Nat):Int:=match endsAt (br rs) rs.length o with
 |some e=>(e:Int)
 |none=>0
noncomputable def BU(rs:qal)(j:Nat):Nat:=(jx (br rs) j).getD 0
noncomputable def vn(rs:qal)(j:Nat):Int:=match rs[j]? with
 |some (.iC _)=>lH rs j+1
 |_=>match DA rs j with
  |none=>lH rs j
  |some x=>(x:Int)+1
noncomputable def nR(rs:qal)(j:Nat):Int:=match rs[j]? with
 |some .jU=>lH rs (BU rs j)
 |some .fin=>match rs[BU rs j]? with
  |some (.iC _)=>(BU rs j:Int)
  |_=>(j:Int)+1
 |_=>(j:Int)+1
def GY:Rw->Bool
 |.iG _=>true
 |.iC _=>true
 |_=>false
end
end Lay
namespace PySem
namespace SetTable
end SetTable
end PySem
namespace PySem
section
variable{K:Type}[DecidableEq K](knd:KeyKind prog w K)
variable{knd}
end
end PySem
namespace VT
open PySem PySem.Spec PyProof.Rows
section
variable{R:Result->Shared->Prop}{I:Addr}{wr:qah}{G:Array GenState->Array GenState->Prop}{P:Nat->Value->Prop}{St:Nat->Shared->Prop}
variable{K:Type}[DecidableEq K]{knd:PySem.KeyKind prog w K}
end
end VT
namespace PySem
open Sem (wp)
namespace F
end F
end PySem
namespace PySem
open Sem (wp)
end PySem
namespace VT
open PySem PyProof.Rows L2
end VT
namespace PySem
open Sem (wp)
end PySem
namespace VT
open PySem PySem.Spec PyProof.Rows L2
end VT
namespace Lay
open PySem L2 VT Gen K5
def NI:Rw->Bool
 |.iG _=>false
 |.iC _=>false
 |.jU=>false
 |.fin=>false
 |.give _=>false
 |_=>true
theorem rk(r:Rw):(∃a,r=.iG a)\/(∃a,r=.iC a)\/r=.jU\/r=.fin\/(∃a,r=.give a)\/NI r=true:=by cases r<;>simp[NI]
noncomputable def QN:qai:=["def","put","do","new","get","set","call","fail","skip"]
theorem QO(h:NI r=true):wd r∈QN:=by cases r<;>first|exact Bool.noConfusion (show false=true from h)|simp[QN,wd]
theorem QP:∀x∈QN,x≠"give"/\x≠"if"/\x≠"while"/\x≠"else"/\x≠"end":=by decide +kernel
theorem QQ(h:NI r=true):wd r≠"give"/\wd r≠"if"/\wd r≠"while"/\wd r≠"else"/\wd r≠"end":=QP _ (QO h)
theorem GZ(hr:rs[j]?=some r)(h:NI r=true):nR rs j=(j:Int)+1:=by unfold nR;rw[hr];cases r<;>first|exact Bool.noConfusion (show false=true from h)|rfl
end Lay
namespace VT
open PySem PySem.Spec PyProof.Rows L2
def QR:FS:=λ_ _=>False
theorem m7{ss:qaq}:iF X Z ss QR:=.mk λtm=>λpins s σ H D I h=>by obtain⟨_,_,_,_,q,_⟩:=h;exact q.elim
end VT
namespace Nx
open PySem L2 VT Gen K5 Lay
noncomputable abbrev m8:Stmt:=top 17
noncomputable abbrev qD:Stmt:=top 18
noncomputable abbrev ip:Stmt:=top 19
theorem QS(h:wd r="while"):∃a,r=.iC a:=by cases r<;>first|exact⟨_,rfl⟩|exact absurd h (by show ¬ ((_:Str)="while");simp only[wd];decide +kernel)
def QT(ts:qaj)(q:qam):Prop:=∃k:Int,ts=[.int k]/\q (.vw (.int (k+1)))
def gNo(C:Addr)(ts:qaj)(q:qam):Prop:=∃(rs:qal)(j:Nat)(r:Rw),ts=[dm C rs,.int (j:Int)]/\Bl rs/\rs[j]?=some r/\GY r=true/\q (.vw (.int (vn rs j)))
def DB(C:Addr)(ts:qaj)(q:qam):Prop:=∃(rs:qal)(j:Nat)(r:Rw),ts=[dm C rs,.int (j:Int)]/\Bl rs/\rs[j]?=some r/\q (.vw (.int (nR rs j)))
section
variable{cLayout:Addr}
abbrev DC:qai:=["place"]
theorem qF:aE DC ["place"] (aj m8):=L2.gB
theorem Aa(D:Df K mg "yes_row" m8 ["place"] f fd):cq P w K mg base "yes_row" ["place"] 1 (dO K 1 QT):=by refine D.gK (oN D.F qF rfl λbz A outer s H E Ox hr ts q hG=>?_);have nd:=qF.nd;refine⟨_,(aw (aW (qau (bu (ae 0) (qas af))))),λ_=>?_⟩;obtain⟨k,rfl,hq⟩:=hG;exact hq
noncomputable abbrev G1:qai:=qay
theorem tK:aE G1 qay (aj qD):=L2.gB
theorem DD(D:Df K mg "no_row" qD qay f fd)(M:QK K cLayout):cq P w K mg base "no_row" qay 1 (dO K 2 (gNo cLayout)):=by
 refine D.gK (oN D.F tK rfl λbz A outer s H E Ox hr ts q hG=>?_);have nd:=tK.nd;have hu:=bx.gq hr;have az:=M;refine⟨_,(ah (bQ (cJ hu (qas (aA (qas (aA (qas (aZ az.cl az.fq (ae 0))) (ae 1))) (qas af))) (qas aI))
    (aw (aW (qau (bu (qas (aA (qas (aZ az.cl az.vh (ae 0))) (ae 1))) (qas af)))))
    aQ)
   (ah (bQ (sY (qas (aA (qas (aZ az.cl az.vi (ae 0))) (ae 1))) (qas c_))
     (aw (aW (qau (aA (qas (aZ az.cl az.vh (ae 0))) (ae 1)))))
     aQ)
   (aw (aW (qau (bu (qas (aA (qas (aZ az.cl az.vi (ae 0))) (ae 1))) (qas af))))))),λ_=>?_⟩
 obtain⟨rs,j,r,rfl,B,dI,hh,hq⟩:=hG;have hj:=(eB.mp dI).1;have he:=BP hj;have hl:=QL hj;unfold vn at hq;rw[dI] at hq;cases r with
 |iC a=>obtain⟨e,b⟩:=B.Wf dI (.inr rfl);unfold lH at hq;rw[b.en] at hq he;exact⟨rfl,_,rfl,_,cT dI,_,ai (j:=0) rfl,rfl,_,rfl,_,he,hq⟩
 |iG a=>
   obtain⟨e,b⟩:=B.Wf dI (.inl rfl);dsimp only at hq;unfold lH at hq;rw[b.en] at hq he;refine⟨rfl,_,rfl,_,cT dI,_,ai (j:=0) rfl,rfl,_,rfl,_,hl,?_⟩;cases hv:DA rs j with
   |none=>rw[hv] at hq;exact⟨rfl,_,rfl,_,he,hq⟩
   |some x=>rw[hv] at hq hl;exact⟨rfl,_,rfl,_,hl,hq⟩
 |_=>cases hh
noncomputable abbrev vo:qai:=["layout","place","word","head"]
theorem jW:aE vo qay (aj ip):=L2.gB
theorem sg(D:Df K mg "row_behind" ip qay f fd)(M:QK K cLayout):cq P w K mg base "row_behind" qay 1 (dO K 2 (DB cLayout)):=by
 refine D.gK (oN D.F jW rfl λbz A outer s H E Ox hr ts q hG=>?_);have nd:=jW.nd;have hu:=bx.gq hr;have np:∀{i:Nat},bG ⟨H,[],Ox⟩ i:=nH;have az:=M;refine⟨_,(ah (bq (i:=2) nd rfl (Or.inl rfl) (qau (aA (qas (aA (qas (aZ az.cl az.fq (ae 0))) (ae 1))) (qas af))) np)
  (ah (bq (i:=3) nd rfl (Or.inl rfl) (qau (aA (qas (aZ az.cl az.BQ (ae 0))) (ae 1))) np)
  (ah (bQ (cJ hu (ae 2) (qas aI))
   (aw (aW (qau (aA (qas (aZ az.cl az.vh (ae 0))) (ae 3)))))
   aQ)
  (ah (bQ (VW.vc (uw (cJ hu (ae 2) (qas aI)) (oI (cJ hu (qas (aA (qas (aA (qas (aZ az.cl az.fq (ae 0))) (ae 3))) (qas af))) (qas aI)))))
   (aw (aW (qau (VE.vp (aq 3)))))
   aQ)
  (aw (aW (qau (bu (ae 1) (qas af))))))))),λ_=>?_⟩
 obtain⟨rs,j,r,rfl,B,dI,hq⟩:=hG;have hj:=(eB.mp dI).1;have hh:=QJ hj;unfold nR at hq;rw[dI] at hq;refine⟨rfl,_,rfl,_,cT dI,?_⟩;rcases rk r with⟨a,rfl⟩|⟨a,rfl⟩|rfl|rfl|⟨a,rfl⟩|ho
 exact⟨_,ai (j:=0) rfl,rfl,_,rfl,_,hh,hq⟩;exact⟨_,ai (j:=0) rfl,rfl,_,rfl,_,hh,hq⟩;obtain⟨_,o,a,h1,h2,_⟩:=B.jU dI;have ho:=(eB.mp h2).1;obtain⟨e,b⟩:=B.Wf h2 (.inl rfl);have he:=BP ho;unfold lH BU at hq;rw[h1] at hq hh;simp only[XO] at hq;rw[b.en] at hq he;exact⟨_,ai (j:=0) rfl,rfl,_,rfl,_,hh,rfl,_,rfl,_,he,hq⟩;obtain⟨_,o,r2,h1,h2,h3⟩:=B.fin dI;unfold BU at hq;rw[h1] at hq hh;simp only[XO] at hq;rw[h2] at hq;have hra:=cT h2;obtain⟨l2,el2⟩:=dj r2;rw[el2] at hra;refine⟨_,ai (j:=0) rfl,rfl,_,rfl,_,hh,rfl,_,rfl,_,hra,_,ai (j:=0) rfl,gr (λz=>?_) (λz=>?_)⟩;have z':wd r2="while":=z;obtain⟨a,rfl⟩:=QS z';exact hq;have z':¬ wd r2="while":=z;cases r2<;>first|exact hq|exact absurd rfl z'
 exact⟨_,ai (j:=0) rfl,rfl,_,rfl,_,hh,hq⟩;obtain⟨l,el⟩:=dj r;obtain⟨g1,g2,g3,g4,g5⟩:=QQ ho;have hb:=GZ dI ho;unfold nR at hb;rw[dI] at hb;rw[hb] at hq;rw[el];refine⟨_,ai (j:=0) rfl,rfl,_,rfl,_,hh,gr (λz=>absurd z g4) (λ_=>gr (λz=>absurd z g5) (λ_=>mU rfl hq))⟩
end
end Nx
namespace VT
open PySem PySem.Spec PyProof.Rows L2
section
variable{k:Nat}
abbrev GV:=qaj->(qam)->Prop
end
section
variable{vv sl:Expr}{sp:Pos}{l:List (Str×T)}{k:Nat}
noncomputable def Wg(l:List (Str×T))(fe:FE):FP:=λρ Q=>fe ρ λy=>onStr y λk=>∃t,Dh l k=some t/\Q (.vw t)
theorem G4(hg:Gl X x)(hm:X.mg x=some (.ref a))(d:ql X.w X.K a l)(he:VR X Z e fe)(hs:KL e:=by intro _ _;rfl)(hd:gC x:=by decide) :
  VP X Z (.Subscript (.Name x p) e pos) (Wg l fe):=.mk λtm pins s σ H Q I ⟨ρ,O,q,E,hf,k⟩=>by
 refine Bs PySem.F.slot_dict_getitem.lookup hs (b_ (ub hg hm (v:=.ref a) rfl hd pins s σ H (λv H'=>v=.ref a/\H'=H) I ⟨rfl,rfl⟩) λu s1 ⟨x',H1,I1,rx,ex,eH⟩=>?_);subst ex eH;obtain rfl:u=Value.ref a:=rx;refine b_ (he tm pins s1 σ H1 (λy H2=>∃t,iL X.K H2 (av Z O) t y/\aM H1 H2/\onStr t λk=>∃t',Dh l k=some t'/\q (.vw t')) I1 ⟨ρ,O,_,E,hf,λt ht v H' s a1=>⟨t,a1,s,ht⟩⟩) λiv s2 ⟨y,H2,I2,ry,t,a1,sa,q3⟩=>?_;obtain⟨kk,et,t',Ys,q4⟩:=xm q3;subst et;obtain⟨jG,SS,Ej,Kp,yR,U'⟩:=d.of I2;have ey:=a1.str;subst ey;obtain⟨v,ev,av'⟩:=(gk (Ej H2 (av Z O))).1 t' Ys;obtain⟨w',hw,rw'⟩:=jD.some_of (v:=v) (o:=valueAt SS (Sum.inr kk)) (by rw[<- ev,<- eI];exact Kp.val (Sum.inr kk));exact⟨yR.typeIs,wpAny_getItem_of (nK (k:=Sum.inr kk) ry) yR.mapOf hw ⟨v,H2,I2.tok _,rw',k _ q4 _ H2 sa ⟨E.same sa,av'⟩⟩⟩
def QU(ff:FP)(n:Nat)(g:FA)(Fn:Addr->GV->Prop):FP:=λρ Q=>ff ρ λr=>match r with
 |.vw (.ob f)=>∃G,Fn f G/\g ρ λts=>ts.length=n/\G ts Q
 |_=>False
theorem lJ(args:qap)(keywords:List Keyword)(env:Env):eval (.Call (.Subscript vv sl sp) args keywords pos) env=(do
 callWith pos (<- eval (.Subscript vv sl sp) env) [] (backTo pos (starEach args env)) (backToKw pos (keywordEach keywords env))):=rfl
theorem G5{ff:FP}{Fn:Addr->GV->Prop}(hx:VP X Z (.Subscript vv sl sp) ff)(C:∀f G,Fn f G->PySem.W.keepIn X.K (.ref f)=true/\∃fd ps,Binds X.K fd ps []/\cp X.prog X.w X.K X.mg X.base dS k f fd ps (dO X.K n G))(hr:bx k X.A)(ha:VA X Z (e::es) g)(he:starEach (e::es) X.env=(false,eval e X.env)::starEach es X.env:=by rfl)(iI:(backTo pos (starEach es X.env)).any (·.1)=false:=by rfl) :
  VP X Z (.Call (.Subscript vv sl sp) (e::es) [] pos) (QU ff n g Fn):=.mk λtm pins s σ H Q I ⟨ρ,O,q,E,hf,kk⟩=>by
 rw[lJ];refine wpAny_bind (b_ (hx tm pins s σ H (λv H'=>∃f G,v=.ref f/\aM H H'/\Fn f G/\g ρ λts=>ts.length=n/\G ts q) I ⟨ρ,O,_,E,hf,λr hr v H' s z=>?_⟩) λu s1 ⟨v,H1,I1,r,f,G,ev,sa,QV,hg⟩=>?_);split at hr;obtain⟨G,QV,hg⟩:=hr;have:=z.2;simp only[At] at this;exact⟨_,G,this,s,QV,hg⟩;exact hr.elim;subst ev;obtain rfl:u=Value.ref f:=r;obtain⟨hk,fd,ps,hb,F⟩:=C f G QV;have E1:=E.same sa;refine XJ (h₀:=X.base) I1.ok.mod.SH hk (b_ (ha tm pos pins s1 σ H1 (λvs H2=>dO X.K n G (vs++[]) H2 Q E0) I1 ⟨ρ,O,_,E1,hg,λts fZ vs H2 s2 a2=>Bk (E1.same s2) a2 fZ.1 fZ.2 λr hr v H' s z=>kk r hr v H' ((sa.trans s2).trans s) z⟩) λus s2 ⟨vs,H2,I2,r2,q2⟩=>⟨I2.rD,?_⟩) he iI;exact zi F hr hb .nil jO I2 r2 q2
end
end VT
set_option exponentiation.threshold 4000
namespace mn
open PySem L2 VT
noncomputable def bP(i:Int):Int:=(i+1000000000000000000000000000000) % (2 * 1000000000000000000000000000000)-1000000000000000000000000000000
def RI(i:Int):Prop:=-1000000000000000000000000000000<=i/\i<1000000000000000000000000000000
theorem RI.big{i:Int}(h:RI i):nJ i:=by
 unfold RI at h;unfold nJ;have:i.natAbs<=1000000000000000000000000000000:=by omega
 exact XM this (by decide +kernel)
inductive Vl where
 |num (i:Int)
 |rB (p r:Int)
 deriving DecidableEq
noncomputable def vT:Vl->T
 |.num i=>.int i
 |.rB p r=>.tup [.int p,.int r]
def nm:Vl->Int
 |.num i=>i
 |.rB _ _=>0
inductive El where
 |plus|minus|times|over|rest|less
noncomputable def nS:El->Str
 |.plus=>"plus"
 |.minus=>"minus"
 |.times=>"times"
 |.over=>"over"
 |.rest=>"rest"
 |.less=>"less"
def QW:El->Bool
 |.over=>true
 |.rest=>true
 |_=>false
noncomputable def QX:El->Int->Int->Int
 |.plus,x,y=>x+y
 |.minus,x,y=>x-y
 |.times,x,y=>x * y
 |.over,x,y=>x.fdiv y
 |.rest,x,y=>x.fmod y
 |.less,x,y=>if x<y then 1 else 0
noncomputable def Yt(o:El)(x y:Int):T:=if QW o=true/\y=0 then .aO else .int (bP (QX o x y))
def Wh(a b:Vl):T:=.int (if a=b then 1 else 0)
theorem bgS{i:Int}(h : -100000000000000<=i/\i<=100000000000000):nJ i:=by
 unfold nJ;have:i.natAbs<=100000000000000:=by omega
 exact XM this (by decide +kernel)
theorem bg(i:Int)(h : -100000000000000<=i/\i<=100000000000000:=by decide):nJ i:=bgS h
theorem QY:nJ (10 ^ (30:Int).toNat):=nJ.of (by decide +kernel) (by decide +kernel)
theorem pw(j:Int)(h:0<=j/\j<=1000:=by decide):0<=j/\j<=1000/\nJ 10:=⟨h.1,h.2,bg 10⟩
noncomputable def top(i:Nat):Stmt:=PySem.Challenge.pw_slicewise_k14_choices_and_loops.main.body.getD i (.Pass ⟨0,0,0,0⟩)
noncomputable abbrev nT:Stmt:=top 21
noncomputable abbrev iY:Stmt:=top 22
noncomputable abbrev iZ:Stmt:=top 23
noncomputable abbrev Ab:Stmt:=top 24
noncomputable abbrev vq:Stmt:=top 25
noncomputable abbrev iq:Stmt:=top 31
structure Mg(w:World)(K:qaf)(mg:qae):Prop where
 H:∃t,mg "H"=some (.int 1000000000000000000000000000000 t)
 DE:∃a,mg "DIVISIONS"=some (.ref a)/\∀H,dU K H a [.str "over",.str "rest"]
 isinstance:mg "isinstance"=none
 int:mg "int"=none
 bool:mg "bool"=none
 tuple:mg "tuple"=none
 len:mg "len"=none
 range:mg "range"=none
 RK:∃(a:Addr)(fo:El->Addr),mg "RECKONERS"=some (.ref a)/\(∀o,mg (nS o)=some (.ref (fo o)))/\ql w K a [("plus",.ob (fo .plus)),("minus",.ob (fo .minus)),("times",.ob (fo .times)),("over",.ob (fo .over)),("rest",.ob (fo .rest)),("less",.ob (fo .less))]
def G6(ts:qaj)(q:qam):Prop:=∃i,ts=[.int i]/\q (.vw (.int (bP i)))
def Wi(ts:qaj)(q:qam):Prop:=∃a:Vl,ts=[vT a]/\q (.vw (.bl (match a with | .num _=>false | .rB _ _=>true)))
def gNm(ts:qaj)(q:qam):Prop:=∃a:Vl,ts=[vT a]/\q (.vw (.int (nm a)))
def Yu(o:El)(ts:qaj)(q:qam):Prop:=∃x y:Int,ts=[.int x,.int y]/\nJ x/\nJ y/\(QW o=true->y≠0)/\q (.vw (.int (QX o x y)))
abbrev NJ:=Yu .plus
abbrev G7:=Yu .minus
def G8(ts:qaj)(q:qam):Prop:=∃a b o,(o=.plus\/o=.minus)/\ts=[vT a,.str (nS o),vT b]/\RI (nm a)/\RI (nm b)/\q (.vw (Yt o (nm a) (nm b)))
theorem Wj(a b:Vl):eqT (vT a) (vT b)=decide (a=b):=by cases a<;>cases b<;>simp[vT,eqT,gH]<;>rfl
theorem NL{a b:Vl}{q:qam}(h:q (.vw (.bl (decide (a=b))))):MY (vT a) (vT b) q:=by
 have e:=Wj a b;cases a with
 |num i=>cases b with
  |num j=>have:decide (i=j)=decide (Vl.num i=Vl.num j):=decide_eq_decide.mpr (by simp);show q (.vw (.bl (decide (i=j))));rw[this];exact h
  |rB p r=>exact⟨rfl,rfl,by simp[vT,dep],by rw[<- e] at h;exact h⟩
 |rB p r=>exact⟨rfl,by cases b<;>rfl,by simp[vT,dep,wN],by rw[<- e] at h;exact h⟩
theorem G9{o:El}(h:o=.plus\/o=.minus):decide (nS o=("same":Str))=false:=by obtain rfl|rfl:=h<;>decide +kernel
theorem QZ{o:El}(h:o=.plus\/o=.minus):rA (.str (nS o)) [.str "over",.str "rest"]=false:=by obtain rfl|rfl:=h<;>first|rfl|decide +kernel
section
abbrev BV:qai:=qaz
theorem qG:aE BV qaz (aj nT):=L2.gB
theorem Ac(D:Df K mg "fit" nT qaz f fd)(M:Mg w K mg):cq P w K mg base "fit" qaz 1 (dO K 1 G6):=by refine D.gK (oN D.F qG rfl λbz A outer s H E Ox hr ts q hG=>?_);have nd:=qG.nd;obtain⟨tH,mH⟩:=M.H;have g_H:∀{pos},VP (eY dS P w K mg base BV "fit" (aj nT) f bz A outer s H E).pf ⟨H,[],Ox⟩ (.Name "H" pos) (fC (.int 1000000000000000000000000000000)):=hU (by rfl) mH (v:=.int 1000000000000000000000000000000) ⟨_,rfl⟩ λ_ _=>bf;refine⟨_,(aw (aW (qau (h7 (qas (bY (qas (bu (ae 0) (qas g_H))) (qas (Br (qas af) (qas g_H))))) (qas g_H))))),λ_=>?_⟩;obtain⟨i,rfl,hq⟩:=hG;exact⟨⟨bg 2,nJ.of (by decide +kernel) (by decide +kernel)⟩,(by show (0:Int)<2 * 1000000000000000000000000000000;decide),hq⟩
abbrev xP:qai:=qaA
theorem lK:aE xP qaA (aj iY):=L2.gB
theorem vt(D:Df K mg "is_record" iY qaA f fd)(M:Mg w K mg):cq P w K mg base "is_record" qaA 1 (dO K 1 Wi):=by
 refine D.gK (oN D.F lK rfl λbz A outer s H E Ox hr ts q hG=>?_);have nd:=lK.nd;refine⟨_,(aw (aW (qau (cv ic (by rfl) M.isinstance (by rfl) M.tuple k7 (ae 0))))),λ_=>?_⟩;obtain⟨a,rfl,hq⟩:=hG;cases a with
 |num i=>exact⟨rfl,hq⟩
 |rB p r=>exact⟨rfl,hq⟩
abbrev xQ:qai:=qaA
theorem lL:aE xQ qaA (aj iZ):=L2.gB
theorem vy(D:Df K mg "number_of" iZ qaA f fd)(M:Mg w K mg)(xR:cq P w K mg base "is_record" qaA 1 (dO K 1 Wi)):cq P w K mg base "number_of" qaA 2 (dO K 1 gNm):=by
 refine D.gK (oN D.F lL rfl λbz A outer s H E Ox hr ts q hG=>?_);have nd:=lL.nd;refine⟨_,(aw (aW (qau (iB (eQ (aP xR hr (aa (aq 0) ak))) af (VE.vp (aq 0)))))),λ_=>?_⟩;obtain⟨a,rfl,hq⟩:=hG;refine⟨rfl,a,rfl,?_⟩;cases a with
 |num i=>exact hq
 |rB p r=>exact hq
noncomputable abbrev Q0:qai:=qaB
theorem BW:aE Q0 qaB (aj Ab):=L2.gB
theorem Lz(D:Df K mg "plus" Ab qaB f fd)(M:Mg w K mg):cq P w K mg base "plus" qaB 1 (dO K 2 NJ):=by refine D.gK (oN D.F BW rfl λbz A outer s H E Ox hr ts q hG=>?_);have nd:=BW.nd;refine⟨_,(aw (aW (qau (bu (ae 0) (ae 1))))),λ_=>?_⟩;obtain⟨x,y,rfl,hx,hy,_,hq⟩:=hG;exact hq
abbrev LB:qai:=qaB
theorem xS:aE LB qaB (aj vq):=L2.gB
theorem G_(D:Df K mg "minus" vq qaB f fd)(M:Mg w K mg):cq P w K mg base "minus" qaB 1 (dO K 2 G7):=by refine D.gK (oN D.F xS rfl λbz A outer s H E Ox hr ts q hG=>?_);have nd:=xS.nd;refine⟨_,(aw (aW (qau (h7 (ae 0) (ae 1))))),λ_=>?_⟩;obtain⟨x,y,rfl,hx,hy,_,hq⟩:=hG;exact hq
noncomputable abbrev qH:qai:=["one","word","other","left","right"]
theorem nU:aE qH qaC (aj iq):=L2.gB
theorem xT(D:Df K mg "reckoned" iq qaC f fd)(M:Mg w K mg)(nV:cq P w K mg base "fit" qaz 1 (dO K 1 G6))(nW:cq P w K mg base "number_of" qaA 2 (dO K 1 gNm))(Q1:cq P w K mg base "plus" qaB 1 (dO K 2 NJ))(LC:cq P w K mg base "minus" qaB 1 (dO K 2 G7)):cq P w K mg base "reckoned" qaC 3 (dO K 3 G8):=by
 refine D.gK (oN D.F nU rfl λbz A outer s H E Ox hr ts q hG=>?_);have nd:=nU.nd;have hu:=bx.gq hr;have np:∀{i:Nat},bG ⟨H,[],Ox⟩ i:=nH;obtain⟨aD,mD,hD⟩:=M.DE;obtain⟨aR,fo,xU,MW,vz⟩:=M.RK;have xV:∀{pos},VP (eY dS P w K mg base qH "reckoned" (aj iq) f bz A outer s H E).pf ⟨H,[],Ox⟩ (.Name "DIVISIONS" pos) (fC (.tup [.str "over",.str "rest"])):=hU (by rfl) mD (v:=.ref aD) rfl λH A=>cf (hD H) (aB.cons cS (aB.cons cS aB.nil));have xW:∀f' G,(∃o:El,(o=.plus\/o=.minus)/\f'=fo o/\G=Yu o)->PySem.W.keepIn K (.ref f')=true/\∃fd ps,Binds K fd ps []/\cp P w K mg base dS 1 f' fd ps (dO K 2 G):=by rintro f' G ⟨o,rfl|rfl,rfl,rfl⟩;exact Nt Q1 (MW .plus);exact Nt LC (MW .minus)
 refine⟨_,(ah (bQ (cJ hu (ae 1) (qas aI))
    m7
    aQ)
   (ah (bq (i:=3) nd rfl (Or.inl rfl) (qau (aP nW hr (aa (aq 0) ak))) np)
   (ah (bq (i:=4) nd rfl (Or.inl rfl) (qau (aP nW hr (aa (aq 2) ak))) np)
   (ah (bQ (VW.vc (uw (sX (ae 1) (qas xV)) (oI (cJ hu (ae 4) (qas af)))))
     m7
     aQ)
   (aw (aW (qau (aP nV hr (aa (qat (G5 (G4 (by rfl) xU vz (ae 1)) xW (hr.mono (by decide)) (aa (aq 3) (aa (aq 4) ak)))) ak))))))))),λ_=>?_⟩
 obtain⟨a,b,o,ho,rfl,ha,hb,hq⟩:=hG;refine mU (c:=decide (nS o=("same":Str))) (G9 ho) ?_;refine⟨rfl,a,rfl,rfl,b,rfl,rfl,rfl,?_⟩;have hd:QW o=false:=by obtain rfl|rfl:=ho<;>rfl
 have g_:q (.vw (.int (bP (QX o (nm a) (nm b))))):=by unfold Yt at hq;rw[if_neg (λz=>by rw[hd] at z;exact eO z.1)] at hq;exact hq
 refine zt (λh=>absurd h (by rw[QZ ho];exact eO)) (λ_=>?_);exact⟨.ob (fo o),by obtain rfl|rfl:=ho<;>rfl,Yu o,⟨o,ho,rfl,rfl⟩,rfl,nm a,nm b,rfl,ha.big,hb.big,(λz=>by rw[hd] at z;cases z),rfl,_,rfl,g_⟩
end
end mn
namespace NK
open PySem PySem.Spec PySem.Calls PyProof.Rows L2
abbrev CK:=List Key×Key
end NK
namespace VT
open PySem PySem.Spec PyProof.Rows L2
section
variable{g:FM}
def Q2(fc:FB)(g:FM):FM:=λd ρ s=>∃Pv:Nat->En->S->Prop,(∃m,Pv m ρ s)/\∀m ρ s,Pv m ρ s->fc ρ λb=>if b=true then g {d with nx:=λρ' s'=>∃m',m'<m/\Pv m' ρ' s',ct:=λρ' s'=>∃m',m'<m/\Pv m' ρ' s',bk:=d.nx} ρ s else d.nx ρ s
theorem Ha{body:qaq}{fc:FB}(hp:PassesOwn (model X.prog X.w) X.A X.env X.xe)(hc:∀H0,VC X ⟨H0,[],M.Ox⟩ c fc)(hb:Dn X M body g):MS X M (.While c body [] pos) (Q2 fc g):=⟨λpins s' σ H D J ⟨ρ,s,d,S0,hg,Fi⟩=>by
 obtain⟨Pv,⟨m0,p0⟩,step⟩:=hg;refine wz (tc:=λσ H Q=>∃H0,lB X ⟨H0,[],M.Ox⟩ [] fc σ H Q) hp (λpins s σ H Q I ⟨H0,h⟩=>(hc H0 []) pins s σ H Q I h) hb.h pins s' σ H D J ⟨λm σ H=>∃ρ s,lj X.K M ρ s σ H/\Pv m ρ s,⟨m0,ρ,s,S0,p0⟩,?_⟩;rintro m σ1 H1 ⟨ρ1,s1,⟨⟨O,fp,F,I⟩,hp1⟩,p1⟩;refine⟨qq H1 (roots O),ρ1,O,_,I,step m ρ1 s1 p1,λb hb H2 s2=>?_⟩;have St:lj X.K M ρ1 s1 σ1 H2:=lj.of F (bO I) (I.same s2) hp1;cases b with
 |true=>rw[if_pos rfl] at hb;dsimp only;rw[if_pos rfl];refine⟨λσ' H'=>∃m',m'<m/\∃ρ s,lj X.K M ρ s σ' H'/\Pv m' ρ s,λσ' H' z=>z,ρ1,s1,_,St,hb,?_⟩;exact⟨λρ s σ H I ⟨m',hm,p⟩=>⟨m',hm,ρ,s,I,p⟩,Fi.rt,Fi.nx,λρ s σ H I ⟨m',hm,p⟩=>⟨m',hm,ρ,s,I,p⟩⟩
 |false=>rw[if_neg eO] at hb;dsimp only;rw[if_neg eO];exact Fi.nx ρ1 s1 σ1 H2 St hb⟩
end
section
variable{fe:Expr}
abbrev GM:=qaj->S->(S->T->Prop)->Prop
theorem Hb{k:Nat}{Fn:Addr->GM->Prop}{tf:TE}{t:TA}(C:∀f G,Fn f G->PySem.W.keepIn X.K (.ref f)=true/\∃fd ps,Binds X.K fd ps []/\cp X.prog X.w X.K X.mg X.base dS k f fd ps (kf X.K n G))(hr:bx k X.A)(hf:PE X fe tf)(ha:PA X (e::es) t)(he:starEach (e::es) X.env=(false,eval e X.env)::starEach es X.env:=by rfl)(iI:(backTo pos (starEach es X.env)).any (·.1)=false:=by rfl)(ht:eval (.Call fe (e::es) [] pos) X.env=(do
    let f <- eval fe X.env
    callWith pos f [] (backTo pos (starEach (e::es) X.env)) (backToKw pos (keywordEach [] X.env))):=by rfl) :
  PE X (.Call fe (e::es) [] pos) (λσ H Q=>tf σ H λv H1=>∃f G,v=.ref f/\Fn f G/\t σ H1 λvs H2=>kf X.K n G (vs++[]) H2 Q E0):=by
 intro pins s σ H Q I h;rw[ht];refine wpAny_bind (b_ (hf pins s σ H _ I h) λu s1 ⟨v,H1,I1,r,f,G,ev,QV,q1⟩=>?_);subst ev;obtain rfl:u=Value.ref f:=r;obtain⟨hk,fd,ps,hb,F⟩:=C f G QV;refine XJ (h₀:=X.base) I1.ok.mod.SH hk (b_ (ha pos pins s1 σ H1 _ I1 q1) λus s2 ⟨vs,H2,I2,r2,q2⟩=>⟨I2.rD,?_⟩) he iI;exact zi F hr hb .nil jO I2 r2 q2
noncomputable def Q3(M:Mz)(n:Nat)(Fn:Addr->GM->Prop)(ff:FE)(fa:FA):FM:=λd ρ s=>(∀e∈ρ,gv e)/\ff ρ λt=>∃f G,t=.ob f/\Fn f G/\fa ρ λus=>us.length=n/\G us s λs' _=>d.nx (ll M ρ s') s'
theorem Hc{k:Nat}{Fn:Addr->GM->Prop}{ff:FE}{fa:FA}(C:∀f G,Fn f G->PySem.W.keepIn X.K (.ref f)=true/\∃fd ps,Binds X.K fd ps []/\cp X.prog X.w X.K X.mg X.base dS k f fd ps (kf X.K n G))(hr:bx k X.A)(hf:∀H0,VE X ⟨H0,[],M.Ox⟩ fe ff)(ha:∀H0,VA X ⟨H0,[],M.Ox⟩ es fa)(hN:X.N[M.k]?=some y)(hv:j5 X.env.scope y:=by first|exact Or.inl rfl|exact Or.inr (Or.inl rfl)|exact Or.inr (Or.inr rfl))(hd:gC y:=by decide)(fA:tW y:=by decide)(he:starEach (.Name y p1::es) X.env=(false,eval (.Name y p1) X.env)::starEach es X.env:=by rfl)(iI:(backTo aV (starEach es X.env)).any (·.1)=false:=by rfl)(ht:eval (.Call fe (.Name y p1::es) [] aV) X.env=(do
    let f <- eval fe X.env
    callWith aV f [] (backTo aV (starEach (.Name y p1::es) X.env)) (backToKw aV (keywordEach [] X.env))):=by rfl)(hs:swapsWith (.Call fe (.Name y p1::es) [] aV) none pos.line X.env=pure false:=by rfl) :
  MS X M (.Expr (.Call fe (.Name y p1::es) [] aV) pos) (Q3 M n Fn ff fa):=⟨λpins s' σ H D J ⟨ρ,s,d,⟨⟨O,fp,F,I⟩,hp⟩,K_,Fi⟩=>by
 obtain⟨qr,K_⟩:=K_;obtain⟨_,hσ⟩:=cR I hp;refine kM (Hb C hr (hf (qq H (roots O)) []) (bt (bV hN hv hd fA) (ha (qq H (roots O)) []) he) he iI ht) hs pins s' σ H D J ⟨ρ,O,_,I,K_,λt htt v H0 s0 a0=>?_⟩;obtain⟨f,G,rfl,QV,K_⟩:=htt;simp only[At] at a0;refine⟨f,G,a0,QV,.ref M.a,hσ,ρ,O,_,I.same s0,K_,λus Pd ws H1 s1 a1=>?_⟩;obtain⟨hu,hG⟩:=Pd;have I0:=(I.same s0).same s1;have F1:=F.now I0 (bO I);have I1:=I0.rebase (Z:=zf M O H) rfl;rw[AZ];exact xw F1 I1 hp qr hu a1 hG λs2 t hq v H' S' _ _=>Fi.nx _ _ σ H' S' hq⟩
end
theorem m9{rest:qaq}:Dn X M rest (λ_ _ _=>False):=⟨λ_ _ _ _ _ _ ⟨_,_,_,_,h,_⟩=>h.elim⟩
structure o6(K:qaf)(H0:Hp)(Ox:qah)(x C:Addr)(ns:qai)(xs:List S)(H:Hp):Prop where
 ex:∃fp,ck K H (fp++Ox) (.ins C ns xs) (.ref x) fp/\fp.Nodup/\∀b∈fp,b=x\/H0 b=none
 nx:x∉Ox
 ox:∀b∈Ox,H0 b≠none
 fr:∀b o,H0 b=some o->b≠x->H b=some o
theorem xX(f:Str)(y:V):∀(ns:qai)(vs:qak),ns.length=vs.length->f∉ns->dy f y (ns.zip vs)=(ns++[f]).zip (vs++[y])
 |[],[],_,_=>rfl
 |[],v::vs,h,_=>by simp at h
 |n::ns,[],h,_=>by simp at h
 |n::ns,v::vs,h,q=>by rw[Jj];show (if n=f then (n,y)::ns.zip vs else (n,v)::dy f y (ns.zip vs))=_;rw[if_neg (λe=>q (by rw[e];exact dG)),xX f y ns vs (by simpa using h) (λz=>q (gD _ z))];rfl
section
variable{H0:Hp}{x:Addr}{ns:qai}{xs:List S}
theorem o6.at(I:o6 K H0 Ox x C ns xs H):∃dx fs,H x=some (.ins C dx fs)/\fs.length=xs.length:=by obtain⟨fp,h,_⟩:=I.ex;simp only[ck] at h;obtain⟨a,dx,vs,gX,e,hl,ha,_,hL⟩:=h;cases e;exact⟨dx,_,ha,by rw[MD,hl,MH,hL.length]⟩
theorem o6.add{H1:Hp}{f:Str}{z:S}{g:qah}{fs:qac}(I:o6 K H0 Ox x C ns xs H)(sm:aM H H1)(hf:f∉ns)(hx:H1 x=some (.ins C dx fs))(hg:∀b∈g,H b=none)(nd:g.Nodup)(hz:∀fp:qah,(∀b∈fp,b=x\/H0 b=none)->x∈fp->(∀t w,At K H (fp++Ox) t w->At K (upd H1 x (.ins C dx (dy f v fs))) ((fp++g)++Ox) t w)->ck K (upd H1 x (.ins C dx (dy f v fs))) ((fp++g)++Ox) z v g) :
  o6 K H0 Ox x C (ns++[f]) (xs++[z]) (upd H1 x (.ins C dx (dy f v fs))):=by
 obtain⟨fp,h,n,each⟩:=I.ex;have h':=h;simp only[ck] at h';obtain⟨a,dx',vs,gX,e,hl,ha,rfl,hL⟩:=h';cases e;have hx2:=sm _ _ ha;rw[hx] at hx2;cases hx2;have old:∀b∈x::gX,H b≠none:=λb hb=>by obtain⟨u,e,_⟩:=h.mut b hb;rw[e];simp
 have go:∀t w,At K H ((x::gX)++Ox) t w->At K (upd H1 x (.ins C dx (dy f v (ns.zip vs)))) (((x::gX)++g)++Ox) t w:=λt w q=>by
  have q1:At K H (((x::gX)++g)++Ox) t w:=q.more λb hb=>by
   rcases cU.mp hb with y|y
   rcases cU.mp y with y|y
   exact .inl (cy _ y);exact .inr (hg b y);exact .inl (bW _ y)
  exact (q1.same sm).wrote (cy _ (cy _ dG)) hx rfl
 have z1:=hz (x::gX) each dG go;have nxf:x∉gX:=(kB.mp n).1;have rest:a_ K (upd H1 x (.ins C dx (dy f v (ns.zip vs)))) (((x::gX)++g)++Ox) xs vs gX:=hL.map go λb hb=>by obtain⟨u,e,_⟩:=a_.mut hL b hb;rw[aC (λy=>nxf (by rw[<- y];exact hb)),e];exact sm _ _ e
 refine⟨⟨(x::gX)++g,?_,?_,λb hb=>?_⟩,I.nx,I.ox,λb o e ne=>?_⟩;simp only[ck];refine⟨x,dx,vs++[v],gX++g,rfl,by simp[hl],?_,rfl,rest.snoc z1⟩;rw[aG,xX f v ns vs hl hf];exact yN.mpr ⟨n,nd,λa ha b hb e=>by subst e;exact old a ha (hg a hb)⟩;rcases cU.mp hb with y|y
 exact each b y
 right
 cases e:H0 b with
 |none=>rfl
 |some o=>exfalso;have nb:b≠x:=λz=>old x dG (by rw[<- z];exact hg b y);have:=I.fr b o e nb;rw[hg b y] at this;cases this
 rw[aC ne];exact sm _ _ (I.fr b o e ne)
theorem o6.lf{H1:Hp}{f:Str}{t:T}{fs:qac}(I:o6 K H0 Ox x C ns xs H)(hf:f∉ns)(hi:bX t=true)(a:At K H [] t v)(hx:H x=some (.ins C dx fs)):o6 K H0 Ox x C (ns++[f]) (xs++[.lf t]) (upd H x (.ins C dx (dy f v fs))) :=
 I.add (z:=.lf t) (g:=[]) (λ_ _ e=>e) hf hx (λb hb=>nomatch hb) Jl λfp _ _ go=>by simp only[ck];exact⟨trivial,go t v (At.bX hi a)⟩
theorem o6.lst{f:Str}{p:Addr}{fs:qac}(I:o6 K H0 Ox x C ns xs H)(hf:f∉ns)(hp:H p=none)(hx:upd H p (.lst []) x=some (.ins C dx fs)):o6 K H0 Ox x C (ns++[f]) (xs++[.lst []]) (upd (upd H p (.lst [])) x (.ins C dx (dy f (.ref p) fs))) :=
 I.add (z:=.lst []) (g:=[p]) (aH hp) hf hx (λb hb=>by rw[eX.mp hb];exact hp) (by simp) λfp _ _ go=>by
  have ne:p≠x:=λz=>by rw[z,aG] at hx;cases hx
  simp only[ck,a_];exact⟨p,[],[],rfl,by rw[aC ne,aG],rfl,rfl,rfl⟩
theorem o6.dk{f:Str}{p:Addr}{fs:qac}(I:o6 K H0 Ox x C ns xs H)(hf:f∉ns)(hp:H p=none)(hx:upd H p (.dK []) x=some (.ins C dx fs)):o6 K H0 Ox x C (ns++[f]) (xs++[.dk [] []]) (upd (upd H p (.dK [])) x (.ins C dx (dy f (.ref p) fs))) :=
 I.add (z:=.dk [] []) (g:=[p]) (aH hp) hf hx (λb hb=>by rw[eX.mp hb];exact hp) (by simp) λfp _ _ go=>by
  have ne:p≠x:=λz=>by rw[z,aG] at hx;cases hx
  simp only[ck];exact⟨p,[],rfl,rfl,rfl,by rw[aC ne,aG];rfl,aB.nil⟩
theorem o6.first{H1:Hp}{f:Str}{t:T}(nx:x∉Ox)(ox:∀b∈Ox,H b≠none)(hx:H x=some (.ins C dx []))(sm:aM H H1)(a:At K H1 (x::Ox) t v):o6 K H Ox x C [f] [.lf t] (upd H1 x (.ins C dx (dy f v []))):=by refine⟨⟨[x],?_,by simp,λb hb=>.inl (eX.mp hb)⟩,nx,ox,λb o e ne=>by rw[aC ne];exact sm _ _ e⟩;simp only[ck,a_];exact⟨x,dx,[v],[],rfl,rfl,aG,rfl,v,[],[],[],rfl,rfl,⟨rfl,a.wrote dG (sm _ _ hx) rfl⟩,rfl,rfl⟩
end
noncomputable def mN:qai:=["layout","most","poke","frames","cells","counts","doings","place","ended"]
def zOk(cz:S):Prop:=cz=.dk [] []\/∃nh,cz=.dc nh [] []
noncomputable def zO:S->Addr->HO
 |.dc nh _ _,p=>.ext (zw nh p [])
 |_,_=>.dK []
noncomputable def Q5(cz:S):TE:=λ_ H Q=>∀p,H p=none->(p==sysModules)=false->Q (.ref p) (upd H p (zO cz p))
theorem He{nh:List Key×Key->Int}{xs:List ((List Key×Key)×Addr×Value)}:∀h1 h2:Heap,zw nh a xs h1->(∀o,h1.get? a=some o->h2.get? a=some o)->zw nh a xs h2:=λh1 h2 ⟨o,es,ep,e,q⟩ k=>⟨o,es,ep,k o e,q⟩
theorem Hg{cz:S}(hz:zOk cz):PE X (.Dict [] [] pos) (Q5 cz):=λpins s σ H Q I h=>by
 have nm:(s.heap.objs.size==sysModules)=false:=beq_eq_false_iff_ne.mpr (Ne.symm (jK I.big));obtain rfl|⟨nh,rfl⟩:=hz
 exact wpAny_Dict_empty ⟨.ref s.heap.objs.size,_,I.laid (a:=s.heap.objs.size) (o:=.dK []) (t':=s.toks) (λ_ _ q=>eZ _ q) (cO _) (qj s.heap I.big),rfl,h _ (I.cm.fresh (cO _)) nm⟩;exact wpAny_Dict_empty ⟨.ref s.heap.objs.size,_,I.laid (a:=s.heap.objs.size) (o:=.ext (zw nh s.heap.objs.size [])) (t':=s.toks) (λ_ _ q=>eZ _ q) (cO _) ⟨⟨_,#[],0,mf _ rfl,⟨rfl,rfl,rfl⟩,rfl,rfl,Jl⟩,⟨_,mf _ rfl⟩,He⟩,rfl,h _ (I.cm.fresh (cO _)) nm⟩
theorem o6.cz{H0:Hp}{x:Addr}{ns:qai}{xs:List S}{cz:S}(hz:zOk cz){f:Str}{p:Addr}{fs:qac}(I:o6 K H0 Ox x C ns xs H)(hf:f∉ns)(hp:H p=none)(nm:(p==sysModules)=false)(hx:upd H p (zO cz p) x=some (.ins C dx fs)):o6 K H0 Ox x C (ns++[f]) (xs++[cz]) (upd (upd H p (zO cz p)) x (.ins C dx (dy f (.ref p) fs))) :=
 I.add (z:=cz) (g:=[p]) (aH hp) hf hx (λb hb=>by rw[eX.mp hb];exact hp) (by simp) λfp _ _ go=>by
  obtain rfl|⟨nh,rfl⟩:=hz
  have ne:p≠x:=λz=>by rw[z,aG] at hx;cases hx
  simp only[ck];exact⟨p,[],rfl,rfl,rfl,by rw[aC ne,aG];rfl,aB.nil⟩;have ne:p≠x:=λz=>by rw[z,aG] at hx;cases hx
  simp only[ck];exact⟨p,[],[],rfl,rfl,by rw[aC ne,aG];rfl,rfl,nm,λx hx=>(nomatch hx),.nil,aB.nil⟩
noncomputable def xY(cz:S)(L t2 t3:T):List S:=[.lf L,.lf t2,.lf t3,.lst [],cz,.dk [] [],.lst [],.lf .aO,.lf .aO]
theorem Q6(K:qaf)(H:Hp)(h:∀a∈Ox,H a≠none):ax K ⟨H,[],Ox⟩ [] [] [] [] H:=⟨rfl,rfl,λi e h=>by simp at h,Jl,λa h=>absurd h gE,λp hp=>absurd hp gE,h,λb o e _=>e,λp hp=>absurd hp gE⟩
section
variable{CL:Addr}
theorem DF{pr:T}{vp:V}{q:T->Prop}{Q:VK}(ox:∀b∈Ox,H b≠none)(a:At X.K H Ox pr vp)(hG:GL [pr] q)(k:∀L,q L->∀v H',aM H H'->At X.K H' Ox L v->Q v H') :
  ∀x dx,H x=none->H dx=none->dx≠x->NA X.K CL 1 GL (.ref x::([vp]++[])) (upd (upd H dx (.own x)) x (.ins CL dx [])) (λv H2=>v=.aO/\Q (.ref x) H2) E0 :=
 Bz (X:=X) (Z:=⟨H,[],Ox⟩) (q:=λr=>∃L,r=.fr L/\q L) (Q6 X.K H ox) (aB.cons a aB.nil) rfl (by
  have e:q=λu=>∃L,Rt.fr u=Rt.fr L/\q L:=by funext u;exact propext ⟨λh=>⟨u,rfl,h⟩,λ⟨L,e,h⟩=>by cases e;exact h⟩
  rw[<- e];exact hG) λr hr v H' sm z=>by
  obtain⟨L,rfl,hL⟩:=hr;obtain⟨b,rfl,_,rt,n0,nO⟩:=z;refine k L hL _ H' sm ((rt.aY λc hc=>?_).at nO);exact bW _ (gD _ hc)
def acI(K:qaf)(GL:qaj->(T->Prop)->Prop):TE:=λσ H Q=>∃vp pr Ox q,σ[1]?=some (some vp)/\(∀b∈Ox,H b≠none)/\At K H Ox pr vp/\GL [pr] q/\∀L,q L->∀v H',aM H H'->At K H' Ox L v->Q v H'
theorem Q7{kL:Nat}{fL:Addr}{Wm:FuncData}{Wn:qai}{u1 u2 u3:Pos}(ML:Mk X.K CL fL)(FL:cp X.prog X.w X.K X.mg X.base dS kL fL Wm Wn (NA X.K CL 1 GL))(rL:bx (kL+1) X.A)(gL:Gl X "Layout")(mL:X.mg "Layout"=some (.ref CL))(bL:Binds X.K Wm Wn [])(h1:X.N[1]?=some ("program":Str))(v1:j5 X.env.scope "program")(s1:starEach [.Name "program" u2] X.env=(false,eval (.Name "program" u2) X.env)::starEach [] X.env)(s2:(backTo u3 (starEach [] X.env)).any (·.1)=false):PE X (.Call (.Name "Layout" u1) [.Name "program" u2] [] u3) (acI X.K GL) :=
 PE.weak (uf ML FL rL gL mL bL .nil jO (bt (bV h1 v1 (by decide) (by decide)) cC s1) (by decide) s1 s2) λσ H Q ⟨vp,pr,Ox,q,e1,ox,ap,hG,k⟩=>⟨vp,e1,DF (X:=X) (Q:=Q) ox ap hG k⟩
noncomputable def Wo(X:Cx)(C:Addr)(cz:S)(GL:qaj->(T->Prop)->Prop):TS:=λD σ H=>∃x dx Ox pr vp t2 v2 t3 v3 q,σ[0]?=some (some (.ref x))/\σ[1]?=some (some vp)/\σ[2]?=some (some v2)/\σ[3]?=some (some v3)/\H x=some (.ins C dx [])/\x∉Ox/\(∀b∈Ox,H b≠none) /\
 At X.K H (x::Ox) pr vp/\bX t2=true/\At X.K H [] t2 v2/\bX t3=true/\At X.K H [] t3 v3/\GL [pr] q/\∀L,q L->∀H',o6 X.K H Ox x C mN (xY cz L t2 t3) H'->D.nx σ H'
theorem i4{fs:List α}{m:Nat}(h:fs.length=n)(h2:n<1000):fs.length<1000:=by omega
theorem Hh{cz:S}(hz:zOk cz){kL:Nat}{fL:Addr}{Wm:FuncData}{Wn:qai}(ML:Mk X.K CL fL)(FL:cp X.prog X.w X.K X.mg X.base dS kL fL Wm Wn (NA X.K CL 1 GL))(rL:bx (kL+1) X.A)(gL:Gl X "Layout")(mL:X.mg "Layout"=some (.ref CL))(bL:Binds X.K Wm Wn [])(cl:y9 X.K C)(n1:bb X.K C "layout")(n2:bb X.K C "most")(n3:bb X.K C "poke")(n4:bb X.K C "frames")(n5:bb X.K C "cells")(n6:bb X.K C "counts")(n7:bb X.K C "doings")(n8:bb X.K C "place")(n9:bb X.K C "ended"){p3 p4 p5 p6 p7 p8 p9 q1 q2 q3 q4 q5 q6 q7 q8 q9 r1 r2 r3 r4 r5 r6 r7 r8 r9 u1 u2 u3 u4 u5 u6 u7 u8 u9 u10 u11:Pos}{k8 k9}(h0:X.N[0]?=some ("self":Str):=by rfl)(h1:X.N[1]?=some ("program":Str):=by rfl)(h2:X.N[2]?=some ("most":Str):=by rfl)(h3:X.N[3]?=some ("poke":Str):=by rfl)(v0:j5 X.env.scope "self":=by exact Or.inl rfl)(v1:j5 X.env.scope "program":=by exact Or.inl rfl)(v2:j5 X.env.scope "most":=by exact Or.inl rfl)(v3:j5 X.env.scope "poke":=by exact Or.inl rfl)(s1:starEach [.Name "program" u2] X.env=(false,eval (.Name "program" u2) X.env)::starEach [] X.env:=by rfl)(s2:(backTo u3 (starEach [] X.env)).any (·.1)=false:=by rfl)(w1:swapsWith (.Call (.Name "Layout" u1) [.Name "program" u2] [] u3) (some (.Attribute (.Name "self" p1) "layout" q1)) r1.line X.env=pure false:=by rfl)(w2:swapsWith (.Name "most" u4) (some (.Attribute (.Name "self" p2) "most" q2)) r2.line X.env=pure false:=by rfl)(w3:swapsWith (.Name "poke" u5) (some (.Attribute (.Name "self" p3) "poke" q3)) r3.line X.env=pure false:=by rfl)(w4:swapsWith (.List [] u6) (some (.Attribute (.Name "self" p4) "frames" q4)) r4.line X.env=pure false:=by rfl)(w5:swapsWith (.Dict [] [] u7) (some (.Attribute (.Name "self" p5) "cells" q5)) r5.line X.env=pure false:=by rfl)(w6:swapsWith (.Dict [] [] u8) (some (.Attribute (.Name "self" p6) "counts" q6)) r6.line X.env=pure false:=by rfl)(w7:swapsWith (.List [] u9) (some (.Attribute (.Name "self" p7) "doings" q7)) r7.line X.env=pure false:=by rfl)(w8:swapsWith (.Constant .none k8 u10) (some (.Attribute (.Name "self" p8) "place" q8)) r8.line X.env=pure false:=by rfl)(w9:swapsWith (.Constant .none k9 u11) (some (.Attribute (.Name "self" p9) "ended" q9)) r9.line X.env=pure false:=by rfl) :
  gY X [.Assign [.Attribute (.Name "self" p1) "layout" q1] (.Call (.Name "Layout" u1) [.Name "program" u2] [] u3) r1,.Assign [.Attribute (.Name "self" p2) "most" q2] (.Name "most" u4) r2,.Assign [.Attribute (.Name "self" p3) "poke" q3] (.Name "poke" u5) r3,
   .Assign [.Attribute (.Name "self" p4) "frames" q4] (.List [] u6) r4,.Assign [.Attribute (.Name "self" p5) "cells" q5] (.Dict [] [] u7) r5,.Assign [.Attribute (.Name "self" p6) "counts" q6] (.Dict [] [] u8) r6,
   .Assign [.Attribute (.Name "self" p7) "doings" q7] (.List [] u9) r7,.Assign [.Attribute (.Name "self" p8) "place" q8] (.Constant .none k8 u10) r8,.Assign [.Attribute (.Name "self" p9) "ended" q9] (.Constant .none k9 u11) r9] (Wo X C cz GL) :=
 have Sv:∀{p:Pos},PE X (.Name "self" p) (TH 0):=λ{p}=>bV (X:=X) h0 v0 (by decide) (by decide)
 gY.iM (cA (fD Sv (Q7 ML FL rL gL mL bL h1 v1 s1 s2) w1) (cA (fD Sv (bV h2 v2 (by decide) (by decide)) w2) (cA (fD Sv (bV h3 v3 (by decide) (by decide)) w3)
  (cA (fD Sv (zg cC) w4) (cA (fD Sv (Hg hz) w5) (cA (fD Sv xi w6) (cA (fD Sv (zg cC) w7) (cA (fD Sv y0 w8) (jg (fD Sv y0 w9)))))))))) λD σ H h=>by
  obtain⟨x,dx,Ox,pr,vp,t2,v2',t3,v3',q,e0,e1,e2,e3,hx,nx,ox,ap,i2,a2,i3,a3,hG,kk⟩:=h;have ox':∀b∈x::Ox,H b≠none:=λb hb=>by
   rcases c7.mp hb with z|z
   rw[z,hx];simp;exact ox b z
  have NM:∀{H':Hp}{ns:qai}{xs:List S},o6 X.K H Ox x C ns xs H'->∀{t:T}{v:V},bX t=true->At X.K H [] t v->At X.K H' [] t v:=λ{H' ns xs} I {t v} hi a=>At.bX hi ((At.bX (O':=[x]) hi a).frame (λb hb=>⟨.ins C dx [],by rw[eX.mp hb];exact hx,rfl⟩) λb o e n=>I.fr b o e (λz=>n (by rw[z];exact dG)));refine⟨vp,pr,x::Ox,q,e1,ox',ap,hG,λL hL v H1 sm aL=>?_⟩;refine⟨.ref x,e0,x,C,dx,[],rfl,sm _ _ hx,cl,n1,by decide,?_⟩;have I1:o6 X.K H Ox x C ["layout"] [.lf L] _:=o6.first (f:="layout") nx ox hx sm aL
  obtain⟨d1,f1,g1,l1⟩:=I1.at;refine⟨v2',e2,.ref x,e0,x,C,d1,f1,rfl,g1,cl,n2,i4 (n:=1) (m:=0) l1 (by decide),?_⟩;have I2:=I1.lf (H1:=H) (f:="most") (by decide) i2 (NM I1 i2 a2) g1;obtain⟨d2,f2,g2,l2⟩:=I2.at;refine⟨v3',e3,.ref x,e0,x,C,d2,f2,rfl,g2,cl,n3,i4 (n:=2) (m:=0) l2 (by decide),?_⟩;have I3:=I2.lf (H1:=H) (f:="poke") (by decide) i3 (NM I2 i3 a3) g2;refine⟨jL _,λp4 hp4=>?_⟩;obtain⟨d3,f3,g3,l3⟩:=I3.at;refine⟨.ref x,e0,x,C,d3,f3,rfl,aH hp4 _ _ g3,cl,n4,i4 (n:=3) (m:=0) l3 (by decide),?_⟩;have I4:=I3.lst (f:="frames") (by decide) hp4 (aH hp4 _ _ g3);intro p5 hp5 nm5;obtain⟨d4,f4,g4,l4⟩:=I4.at;refine⟨.ref x,e0,x,C,d4,f4,rfl,aH hp5 _ _ g4,cl,n5,i4 (n:=4) (m:=0) l4 (by decide),?_⟩;have I5:=I4.cz hz (f:="cells") (by decide) hp5 nm5 (aH hp5 _ _ g4);intro p6 hp6;obtain⟨d5,f5,g5,l5⟩:=I5.at;refine⟨.ref x,e0,x,C,d5,f5,rfl,aH hp6 _ _ g5,cl,n6,i4 (n:=5) (m:=0) l5 (by decide),?_⟩;have I6:=I5.dk (f:="counts") (by decide) hp6 (aH hp6 _ _ g5);refine⟨jL _,λp7 hp7=>?_⟩;obtain⟨d6,f6,g6,l6⟩:=I6.at;refine⟨.ref x,e0,x,C,d6,f6,rfl,aH hp7 _ _ g6,cl,n7,i4 (n:=6) (m:=0) l6 (by decide),?_⟩;have I7:=I6.lst (f:="doings") (by decide) hp7 (aH hp7 _ _ g6);obtain⟨d7,f7,g7,l7⟩:=I7.at;refine⟨.ref x,e0,x,C,d7,f7,rfl,g7,cl,n8,i4 (n:=7) (m:=0) l7 (by decide),?_⟩;have I8:=I7.lf (H1:=H) (f:="place") (t:=.aO) (v:=.aO) (by decide) rfl (by simp only[At]) g7;obtain⟨d8,f8,g8,l8⟩:=I8.at;refine⟨.ref x,e0,x,C,d8,f8,rfl,g8,cl,n9,i4 (n:=8) (m:=0) l8 (by decide),?_⟩;exact kk L hL _ (I8.lf (H1:=H) (f:="ended") (t:=.aO) (v:=.aO) (by decide) rfl (by simp only[At]) g8)
noncomputable def spK(K:qaf)(C:Addr)(cz:S)(GL:qaj->(T->Prop)->Prop):Sp:=λvs H Q _=>∃x dx Ox pr vp t2 v2 t3 v3 q,vs=[.ref x,vp,v2,v3]/\H x=some (.ins C dx [])/\x∉Ox/\(∀b∈Ox,H b≠none) /\
 At K H (x::Ox) pr vp/\bX t2=true/\At K H [] t2 v2/\bX t3=true/\At K H [] t3 v3/\GL [pr] q/\∀L,q L->∀H',o6 K H Ox x C mN (xY cz L t2 t3) H'->Q .aO H'
end
section
theorem fnK{cz:S}{st:Stmt}{N:qai}{k:Nat}(F:Ba K "__init__" qual st f fd)(S:aE N qaD (aj st))(hN:N.length=4)(dz:∀(bz:Value) (A:Around) (outer:List Env) (s:Shared) (H:Hp) (E:XK),bx k (A.deeper (envOfC qual (aj st) s.heap.objs.size f bz))->gY (eY dS P w K mg base N qual (aj st) f bz A outer s H E).pf (bD st) (Wo (eY dS P w K mg base N qual (aj st) f bz A outer s H E).pf C cz GL)) :
  cp P w K mg base dS (k+1) f fd qaD (spK K C cz GL):=by
 refine F.ok S (λvs H Q E h=>?_) (λbz A outer s H vs Q E hr h=>?_);obtain⟨x,dx,Ox,pr,vp,t2,v2,t3,v3,q,rfl,_⟩:=h;rfl;obtain⟨x,dx,Ox,pr,vp,t2,v2,t3,v3,q,rfl,h⟩:=h;refine⟨_,dz bz A outer s H E hr,x,dx,Ox,pr,vp,t2,v2,t3,v3,q,?_,?_,?_,?_,h⟩<;>(unfold L2.start;rfl)
end
end VT
namespace VT
open PySem PySem.Spec PyProof.Rows L2 NK
noncomputable def Wq{α:Type}:List CK->List α->CK->Option α
 |k::ks,t::ts,c=>if k=c then some t else Wq ks ts c
 |_,_,_=>none
def Wr(ks:List CK)(c:CK):Bool:=ks.any λk=>decide (k=c)
def Ws(ks:List CK)(c:CK):List CK:=if Wr ks c=true then ks else ks++[c]
noncomputable def Wt{α:Type}(ks:List CK)(ts:List α)(c:CK)(t:α):List α:=if Wr ks c=true then List.zipWith (λk v=>if k=c then t else v) ks ts else ts++[t]
end VT
namespace VT
open PySem PySem.Spec PyProof.Rows L2
structure tM(K:qaf)(H H':Hp)(us:qaj)(u:T)(p l:Addr):Prop where
 same:aM H H'
 tup:∃v,H' p=some (.tup [.ref l,v])/\At K H' [] u v
 new:H l=none
 lst:∃vs,H' l=some (.lst vs)/\aB K H' [] us vs
 i1:dv us=true
 i2:bX u=true
def S6(K:qaf)(n:Nat)(G:qaj->(qaj->T->Prop)->Prop):Sp:=λvs H Q _=>∃ts Ox q,(∀a∈Ox,H a≠none)/\aB K H Ox ts vs/\ts.length=n/\G ts q /\
 ∀us u,q us u->∀p l H',tM K H H' us u p l->Q (.ref p) H'
abbrev NN:=NC->(qaj->T->Prop)->En->S->Prop
structure DpM(K:qaf)(M:Mz)(us:qaj)(u:T)(p l:Addr)(H':Hp):Prop where
 kp:∀b o,M.H0 b=some o->b∉M.sU->H' b=some o
 own:l∈M.sU\/M.H0 l=none
 tup:∃v,H' p=some (.tup [.ref l,v])/\At K H' [] u v
 lst:∃vs,H' l=some (.lst vs)/\aB K H' [] us vs
 i1:dv us=true
 i2:bX u=true
def lMD(X:Cx)(M:Mz)(g:NN):TS:=λD σ H=>∃ρ s d dp,lj X.K M ρ s σ H/\g d dp ρ s/\Qv X.K M d D/\∀us u,dp us u->∀p l H',DpM X.K M us u p l H'->D.rt (.ref p) H'
def LD(X:Cx)(M:Mz)(st:qaq)(g:NN):Prop:=Bm (gY X st (lMD X M g))
section
variable{st:Stmt}{rest:qaq}{g:FM}{u:NN}
def NO(g:FM)(u:NN):NN:=λd dp ρ s=>g {d with nx:=u d dp} ρ s
theorem qI(h1:MS X M st g)(h2:LD X M rest u):LD X M (st::rest) (NO g u):=⟨gY.iM (cA h1.h h2.h) λD σ H ⟨ρ,s,d,dp,I,h,F,q⟩ =>
 ⟨ρ,s,{d with nx:=u d dp},I,h,⟨λρ' s' σ' H' I' h'=>⟨ρ',s',d,dp,I',h',F,q⟩,F.rt,F.bk,F.ct⟩⟩⟩
noncomputable def Wu(ps:List kG)(fe:FE):NN:=λ_ dp ρ s=>∃ys:qaj,s.get ps=some (.lst (ys.map .lf))/\dv ys=true/\fe ρ λu=>bX u=true/\dp ys u
theorem a_.lfs{K:qaf}{H:Hp}{A:qah}:∀{ys:qaj}{vs:qak}{fp:qah},a_ K H A (ys.map .lf) vs fp->aB K H A ys vs
 |[],vs,fp,h=>by simp only[IV,a_] at h;rw[h.1];exact aB.nil
 |y::ys,vs,fp,h=>by simp only[gA,a_,ck] at h;obtain⟨v,r,f,g,rfl,rfl,⟨_,h1⟩,h2⟩:=h;exact aB.cons h1 (a_.lfs h2)
theorem LF{ps:List kG}{x1}(ho:PE X o (jR M.k ps))(he:∀H0,VE X ⟨H0,[],M.Ox⟩ e fe)(s1:starEach [o,e] X.env=(false,eval o X.env)::starEach [e] X.env:=by rfl)(s2:starEach [e] X.env=(false,eval e X.env)::starEach [] X.env:=by rfl) :
  LD X M [.Return (some (.Tuple [o,e] x1 p)) pos] (Wu ps fe):=⟨λpins s' σ H D J ⟨ρ,s,d,dp,⟨⟨O,fp,F,I⟩,hp⟩,hg,Fi,dpk⟩=>by
 obtain⟨ys,Gu,hys,hg⟩:=hg;obtain⟨w,f1,f,f2,zV,ev,VH,_⟩:=F.oB.focus Gu;have xv:=VH;simp only[ck] at xv;obtain⟨l,xs,gX,rfl,hl,rfl,hL⟩:=xv;obtain⟨_,hσ⟩:=cR I hp;refine jg (uc (ze (bt ho (bt (he (qq H (roots O)) []) cC s2) s1))) pins s' σ H D J ⟨.ref M.a,.ref l,hσ,ev,ρ,O,_,I,hg,λt ht v H1 sm a1=>⟨by rw[sizeLine_eq];simp,λp SM=>?_⟩⟩;obtain⟨hi,hq⟩:=ht;have I0:=I.same sm;have F1:=F.now I0 (bO I);have sp:aM H1 (upd H1 p (.tup [.ref l,v])):=aH SM;have Ym:l∈fp:=by rw[zV];simp
 refine dpk ys t hq p l _ ⟨λb o e n=>sp _ _ (F1.kp b o e n).1,F1.fr l Ym,⟨v,aG,At.bX hi (a1.same sp)⟩,⟨xs,sp _ _ (sm _ _ hl),?_⟩,hys,hi⟩;exact aB.bX hys ((hL.lfs.same sm).same sp)⟩
noncomputable def NP(X:Cx)(k:Nat)(C:Addr)(cz:S)(GL:qaj->(T->Prop)->Prop)(g:Hp->qah->qah->Addr->NN):TS:=λD σ H=>∃ρ Ox pr t2 t3 q,ax X.K ⟨H,[],Ox⟩ [] (List.replicate X.N.length none) ρ σ H/\k<ρ.length/\ρ[0]?=some (some (pr,false))/\ρ[2]?=some (some (t2,false))/\ρ[3]?=some (some (t3,false)) /\
 bX t2=true/\bX t3=true/\GL [pr] q/\∀L,q L->∀H0 sU a,∃dp,g H0 sU Ox a {nx:=λ_ _=>False,rt:=λ_ _ _=>False} dp (ρ.set k (some (.pin a (S.ins C mN (xY cz L t2 t3)).t,false))) (.ins C mN (xY cz L t2 t3))/\∀us u,dp us u->∀p l H',tM X.K H H' us u p l->D.rt (.ref p) H'
theorem Hi{cz:S}{k kC:Nat}{fI:Addr}{VY:FuncData}{g:Hp->qah->qah->Addr->NN}{px pC e1 e2 e3 pc:Pos}(hN:X.N.Nodup)(hk:X.N[k]?=some x)(hx:Loc X.env.scope x)(MI:Mk X.K C fI)(FI:cp X.prog X.w X.K X.mg X.base dS kC fI VY qaD (spK X.K C cz GL))(rI:bx (kC+1) X.A)(gI:Gl X "Machine")(mI:X.mg "Machine"=some (.ref C))(bI:Binds X.K VY qaD [])(Wv:∀H0 sU Ox a,LD X ⟨H0,sU,Ox,a,k⟩ rest (g H0 sU Ox a))(h0:X.N[0]?=some ("program":Str):=by rfl)(h2:X.N[2]?=some ("most":Str):=by rfl)(h3:X.N[3]?=some ("poke":Str):=by rfl)(v0:j5 X.env.scope "program":=by exact Or.inl rfl)(v2:j5 X.env.scope "most":=by exact Or.inl rfl)(v3:j5 X.env.scope "poke":=by exact Or.inl rfl)(s1:starEach [.Name "program" e1,.Name "most" e2,.Name "poke" e3] X.env=(false,eval (.Name "program" e1) X.env)::starEach [.Name "most" e2,.Name "poke" e3] X.env:=by rfl)(s2:starEach [.Name "most" e2,.Name "poke" e3] X.env=(false,eval (.Name "most" e2) X.env)::starEach [.Name "poke" e3] X.env:=by rfl)(s3:starEach [.Name "poke" e3] X.env=(false,eval (.Name "poke" e3) X.env)::starEach [] X.env:=by rfl)(s4:(backTo pc (starEach [.Name "most" e2,.Name "poke" e3] X.env)).any (·.1)=false:=by rfl)(hs:swapsWith (.Call (.Name "Machine" pC) [.Name "program" e1,.Name "most" e2,.Name "poke" e3] [] pc) (some (.Name x px)) p1.line X.env=pure false:=by rfl)(hf:X.fn x=true\/X.env.scope.names.lookup x=some .local:=by first|exact .inl rfl|exact .inr rfl|assumption) :
  gY X (.Assign [.Name x px] (.Call (.Name "Machine" pC) [.Name "program" e1,.Name "most" e2,.Name "poke" e3] [] pc) p1::rest) (NP X k C cz GL g):=λpins s' σ H D J ⟨ρ,Ox,pr,t2,t3,q,I,hkl,i0,i2,i3,m2,m3,hG,kk⟩=>by
 obtain⟨_,_,_,z0,rfl,w0,rfl,a0⟩:=I.sl 0 _ i0;obtain⟨_,_,_,z2,rfl,w2,rfl,a2⟩:=I.sl 2 _ i2;obtain⟨_,_,_,z3,rfl,w3,rfl,a3⟩:=I.sl 3 _ i3;have ea:av ⟨H,[],Ox⟩ (List.replicate X.N.length none)=Ox:=by unfold av;rw[dg];rfl
 rw[ea] at a0 a2 a3;have ro:roots ((List.replicate X.N.length (none:qar)).set k none)=[]:=by
  have:(List.replicate X.N.length (none:qar)).set k none=List.replicate X.N.length none:=by
   refine Tt λi=>?_;rw[Tr];split
   rename_i e;subst e;rw[D9,yU]
   rfl
  rw[this];exact dg _
 refine cA (ud hN hk hx (uf MI FI rI gI mI bI .nil jO (bt (bV h0 v0 (by decide) (by decide)) (bt (bV h2 v2 (by decide) (by decide)) (bt (bV h3 v3 (by decide) (by decide)) cC s3) s2) s1) (by decide) s1 s4) hs hf)
  (t:=_) (u:=λD σ1 H1=>∃fp a,lMD X ⟨H1,fp,Ox,a,k⟩ (g H1 fp Ox a) D σ1 H1) (λpins s σ1 H1 D1 J1 ⟨fp,a,h⟩=>(Wv H1 fp Ox a).h pins s σ1 H1 D1 J1 h) pins s' σ H D J ⟨w0,z0,w2,z2,w3,z3,λa dx na ndx fE=>?_⟩
 have nO:a∉Ox:=λz=>I.ox a z na;have s0:aM H (upd (upd H dx (.own a)) a (.ins C dx [])):=λb o e=>by rw[aC (ba e na),aC (ba e ndx)];exact e
 refine⟨a,dx,Ox,pr,w0,t2,w2,t3,w3,q,rfl,aG,nO,λb hb=>?_,(a0.more λb hb=>?_).same s0,m2,At.bX m2 (a2.same s0),m3,At.bX m3 (a3.same s0),hG,λL hL H1 In=>⟨rfl,?_⟩⟩;cases e:H b with
 |none=>exact absurd e (I.ox b hb)
 |some o=>rw[s0 _ _ e];simp
 rcases c7.mp hb with z|z
 exact .inr (by rw[z];exact na);exact .inl z;obtain⟨fp,hS,nd,each⟩:=In.ex;have ne:∀b∈fp,H b=none:=λb hb=>by
  rcases each b hb with z|z
  rw[z];exact na;cases e:H b with
  |none=>rfl
  |some o=>rw[s0 _ _ e] at z;cases z
 have sm:aM H H1:=λb o e=>In.fr b o (s0 _ _ e) (ba e na);have mY:∀b∈fp,b∉Ox:=λb hb z=>I.ox b z (ne b hb);have view:At X.K H1 Ox (S.ins C mN (xY cz L t2 t3)).t (.ref a):=hS.view (λb hb=>bW _ hb) mY;obtain⟨dp,hg,hd⟩:=kk L hL H1 fp a;have J1:=(I.same sm).put (i:=k) (t:=.pin a (S.ins C mN (xY cz L t2 t3)).t) (v:=.ref a) (λp hp=>absurd hp gE) (by rw[ea];simp only[At];exact⟨trivial,view⟩);refine⟨fp,a,_,_,_,dp,⟨⟨_,fp,⟨?_,nd,λb hb=>⟨by rw[ro];simp,mY b hb⟩,λb hb=>.inl hb,λb o e n=>⟨e,by rw[ro];simp⟩⟩,J1.rebase (Z:=⟨H,[],Ox⟩) rfl⟩,?_⟩,hg,⟨λ_ _ _ _ _ z=>z.elim,λ_ _ _ _ _ _ _ _ _ _ _ _ _ z=>z.elim,λ_ _ _ _ _ z=>z.elim,λ_ _ _ _ _ z=>z.elim⟩,λus u hu p l H' DM=>hd us u hu p l H' ⟨λb o e=>DM.kp b o (sm _ _ e) (λz=>by rw[ne b z] at e;cases e),DM.tup,?_,DM.lst,DM.i1,DM.i2⟩⟩;rw[ro];exact hS;exact AY hkl;obtain z|z:=DM.own
 exact ne l z;cases e:H l with
 |none=>rfl
 |some o=>have z':H1 l=none:=z;rw[sm _ _ e] at z';cases z'
end
section
theorem fnR{cz:S}{st:Stmt}{N:qai}{k:Nat}{G:qaj->(qaj->T->Prop)->Prop}(F:Ba K x qual st f fd)(Sc:aE N ps (aj st))(hn:4=ps.length)(hN:4<=N.length)(dz:∀(bz:Value) (A:Around) (outer:List Env) (s:Shared) (H:Hp) (E:XK),bx k (A.deeper (envOfC qual (aj st) s.heap.objs.size f bz))->∀t0 t1 t2 t3 q,G [t0,t1,t2,t3] q->∃g qL,gY (eY dS P w K mg base N qual (aj st) f bz A outer s H E).pf (bD st) (NP (eY dS P w K mg base N qual (aj st) f bz A outer s H E).pf j C cz GL g)/\j<N.length/\bX t2=true/\bX t3=true/\GL [t0] qL /\
    ∀L,qL L->∀H0 sU Ox a,g H0 sU Ox a {nx:=λ_ _=>False,rt:=λ_ _ _=>False} q ((some (t0,false)::some (t1,false)::some (t2,false)::some (t3,false)::List.replicate (N.length-4) none:En).set j (some (.pin a (S.ins C mN (xY cz L t2 t3)).t,false))) (.ins C mN (xY cz L t2 t3))) :
  cp P w K mg base dS (k+1) f fd ps (S6 K 4 G):=by
 refine F.ok Sc (λvs H Q E h=>?_) (λbz A outer s H vs Q E hr h=>?_);obtain⟨ts,Ox,q,_,ha,hl,_⟩:=h;rw[ha.length,hl,hn];obtain⟨ts,Ox,q,ox,ha,hl,hG,kk⟩:=h
 match ts,hl with
 |[t0,t1,t2,t3],_=>obtain⟨g,qL,hP,hj,m2,m3,hL,hg⟩:=dz bz A outer s H E hr t0 t1 t2 t3 q hG;refine⟨_,hP,_,Ox,t0,t2,t3,qL,jo (N:=N) (ts:=[t0,t1,t2,t3]) hN ox ha,?_,rfl,rfl,rfl,m2,m3,hL,λL hq H0 sU a=>⟨q,hg L hq H0 sU Ox a,λus u hu p l H' D=>kk us u hu p l H' D⟩⟩;show j<(_::_::_::_::List.replicate (N.length-4) none:En).length;simp only[tX,yU];omega
end
structure Hj(K:qaf)(x qual:Str)(st:Stmt)(f:Addr)(fd:FuncData):Prop where
 ex:∃(oc:Value)(od:qar)(dV kV doc pm:Value)(an:qar)(bz ct:Value)(CJ:Array (Option Value)),
  fd=PySem.W.fnOf x qual (cV st) (bD st) (aj st) dV kV doc pm an bz ct/\K.lookup f=some ⟨oc,od,.func fd,CJ⟩/\PySem.W.codeIn K bz qual=true
 kp:PySem.W.keepIn K (.ref f)=true
section
theorem Hj.ok{st:Stmt}{N:qai}{k:Nat}(F:Hj K x qual st f fd)(S:aE N ps (aj st))(len:∀vs H Q E,sp vs H Q E->vs.length=ps.length)(dz:∀(bz:Value) (A:Around) (outer:List Env) (s:Shared) (H:Hp) (vs:qak) (Q:VK) (E:XK),bx k (A.deeper (envOfC qual (aj st) s.heap.objs.size f bz))->sp vs H Q E ->
    ∃t,gY (eY dS P w K mg base N qual (aj st) f bz A outer s H E).pf (bD st) t/\t {nx:=λ_ H'=>Q .aO H',rt:=Q} (start N vs) H):cp P w K mg base dS (k+1) f fd ps sp:=by
 obtain⟨oc,od,dV,kV,doc,pm,an,bz,ct,CJ,rfl,lk,fA⟩:=F.ex;refine MQ lk fA S len λA outer s H vs Q E hr I9=>?_;obtain⟨t,h,q⟩:=dz bz A outer s H vs Q E hr I9;exact⟨t,h.pf,q⟩
end
section
variable{k:Nat}{G:qaj->(qaj->T->Prop)->Prop}{ds:qag}{ue:qak}{dts:qaj}
def lDR(X:Cx)(Z:Zc)(tm:qab)(f:En->(qaj->T->Prop)->Prop):TE:=λσ H Q=>∃ρ O q,ax X.K Z tm O ρ σ H/\f ρ q/\∀us u,q us u->∀p l H',tM X.K H H' us u p l->Q (.ref p) H'
def NQ(X:Cx)(Z:Zc)(e:Expr)(f:En->(qaj->T->Prop)->Prop):Prop:=Bx λtm=>PE X e (lDR X Z tm f)
instance{X:Cx}{Z:Zc}{e:Expr}{f:En->(qaj->T->Prop)->Prop}:CoeFun (NQ X Z e f) λ_=>∀tm,PE X e (lDR X Z tm f):=⟨λh=>Bx.h h⟩
def Q8(n:Nat)(dts:qaj)(g:FA)(G:qaj->(qaj->T->Prop)->Prop):En->(qaj->T->Prop)->Prop:=λρ Q=>g ρ λts=>(ts++dts).length=n/\G (ts++dts) Q
theorem qJ(F:cp X.prog X.w X.K X.mg X.base dS k f fd ps (S6 X.K n G))(hr:bx k X.A)(hg:Gl X x)(hm:X.mg x=some (.ref f))(hk:PySem.W.keepIn X.K (.ref f)=true)(hb:Binds X.K fd ps ds)(hd:Vals ue ds)(hdt:∀H A,aB X.K H A dts ue)(ha:VA X Z (e::es) g)(om:gC x:=by decide)(he:starEach (e::es) X.env=(false,eval e X.env)::starEach es X.env:=by rfl)(iI:(backTo pos (starEach es X.env)).any (·.1)=false:=by rfl) :
  NQ X Z (.Call (.Name x p) (e::es) [] pos) (Q8 n dts g G):=.mk λtm=>PE.weak (kO F hr hg hm hk hb hd jO (ha tm) om he iI) λσ H Q ⟨ρ,O,q,I,hf,k⟩ =>
 ⟨ρ,O,_,I,hf,λts fZ vs H1 s1 a1=>by
   refine⟨ts++dts,av Z O,q,(I.same s1).yP,a1.append (hdt H1 _),fZ.1,fZ.2,λus u hu p l H' D=>k us u hu p l H' ⟨s1.trans D.same,D.tup,?_,D.lst,D.i1,D.i2⟩⟩;cases z:H l with
   |none=>rfl
   |some o=>have:=D.new;rw[s1 _ _ z] at this;cases this⟩
theorem tM.at{tm:qab}{us:qaj}{u:T}{p l:Addr}(I:ax K Z tm O ρ σ H)(D:tM K H H' us u p l):At K H' (av Z O) (.tup [.lst us,u]) (.ref p):=by obtain⟨v,h1,h2⟩:=D.tup;obtain⟨vs,h3,h4⟩:=D.lst;refine cf (dU.of h1) (aB.cons ?_ (aB.cons (At.bX D.i2 h2) aB.nil));simp only[At];exact⟨l,vs,rfl,.inl ⟨.inl h3,λz=>I.yP _ z D.new⟩,aB.bX D.i1 h4⟩
def Ww(f:En->(qaj->T->Prop)->Prop):FP:=λρ Q=>f ρ λus u=>Q (.vw (.tup [.lst us,u]))
theorem NQ.vp{f:En->(qaj->T->Prop)->Prop}(h:NQ X Z e f):VP X Z e (Ww f):=.mk λtm=>PE.weak (h tm) λσ H Q ⟨ρ,O,q,I,hf,k⟩ =>
 ⟨ρ,O,λus u=>q (.vw (.tup [.lst us,u])),I,hf,λus u hu p l H' D=>k _ hu _ H' D.same ⟨I.same D.same,D.at I⟩⟩
theorem Hk{f:En->(qaj->T->Prop)->Prop}(h:NQ X Z e f):gY X [.Return (some e) pos] (λD σ H=>∃ρ O q,ax X.K Z [] O ρ σ H/\f ρ q/\∀us u,q us u->∀p l H',tM X.K H H' us u p l->D.rt (.ref p) H') :=
 jg (uc (h []))
end
section
theorem acJ{st:Stmt}{N:qai}{k:Nat}{G:qaj->(qaj->T->Prop)->Prop}(F:Hj K x qual st f fd)(S:aE N ps (aj st))(hn:n=ps.length)(hN:n<=N.length)(dz:∀(bz:Value) (A:Around) (outer:List Env) (s:Shared) (H:Hp) (E:XK) (Ox:qah),bx k (A.deeper (envOfC qual (aj st) s.heap.objs.size f bz))->∀ts q,G ts q->ts.length=n->∃e pos f',bD st=[.Return (some e) pos]/\NQ (eY dS P w K mg base N qual (aj st) f bz A outer s H E).pf ⟨H,[],Ox⟩ e f'/\f' (ts.map (λt=>some (t,false))++List.replicate (N.length-ts.length) none) q) :
  cp P w K mg base dS (k+1) f fd ps (S6 K n G):=by
 refine F.ok S (λvs H Q E h=>?_) (λbz A outer s H vs Q E hr h=>?_);obtain⟨ts,Ox,q,_,ha,hl,_⟩:=h;rw[ha.length,hl,hn];obtain⟨ts,Ox,q,ox,ha,hl,hG,kk⟩:=h;obtain⟨e,pos,f',hb,hV,hf⟩:=dz bz A outer s H E Ox hr ts q hG hl;rw[hb];exact⟨_,Hk hV,_,_,q,jo (by omega) ox ha,hf,kk⟩
end
structure Hd(K:qaf)(Z:Zc)(i:Nat)(tm:qab)(p l:Addr)(O:HD)(ρ:En)(σ:St)(H:Hp):Prop where
 I:ax K ⟨qq H (roots O),[],l::Z.Ox⟩ tm O ρ σ H
 hi:ρ[i]?=some (some (.ob p,false))
 hp:∃v,H p=some (.tup [.ref l,v])
 hl:∃vs,H l=some (.lst vs)
 kp:∀b o,Z.H0 b=some o->H b=some o/\b∉roots O/\b≠l
 lO:l∉Z.Ox
def lSH(X:Cx)(Z:Zc)(i:Nat)(tm:qab)(g:Addr->FS):TS:=λD σ H=>∃ρ O d p l,Hd X.K Z i tm p l O ρ σ H/\g p d ρ/\Fin X.K Z tm d D
def acK(X:Cx)(Z:Zc)(i:Nat)(st:qaq)(g:Addr->FS):Prop:=Bx λtm=>gY X st (lSH X Z i tm g)
instance{X:Cx}{Z:Zc}{i:Nat}{st:qaq}{g:Addr->FS}:CoeFun (acK X Z i st g) λ_=>∀tm,gY X st (lSH X Z i tm g):=⟨λh=>Bx.h h⟩
end VT
namespace VT
open PySem PySem.Spec PyProof.Rows L2
open AutoSeq1 (wpAny_loadPart')
theorem DG(b:Addr)(xs:Array Value)(m:Nat)(dq:qar)(sq:Array (Option Value)) :
  Meets (Builtin.«enumerate.__new__» ⟨[.type "enumerate",.ref b],[]⟩) (λ_ R s=>s.heap.get? b=some ⟨.type "tuple",dq,.seq xs m,sq⟩ /\
   R (.ok (.ret (.ref (s.heap.push {cls:=.type "tuple_iterator",data:=.fields #[.ref b,.int 0 0]}).objs.size)))
    {s with heap:=(s.heap.push {cls:=.type "tuple_iterator",data:=.fields #[.ref b,.int 0 0]}).push ⟨.type "enumerate",none,.fields #[.none,.bool false,.ref s.heap.objs.size,rawInt 0,.none,.none],#[]⟩}) :=
 .of_wp λprog w A R s ⟨hb,k⟩=>by
  obtain⟨h0,g0,d0,t0,os0⟩:=s;have aci:=sub_enumerate;have hT:Heap.IsTuple (Shared.heap ⟨h0,g0,d0,t0,os0⟩) b xs:=⟨_,hb,rfl,m,rfl⟩
  wp_walk using wpAny_loadPart' hb
  refine wpAny_stack_any λst=>wpAny_pure ?_;split
  rename_i c _ _ _ _ _
  cases (c==Value.type "enumerate")<;>(wp_walk using wpAny_loadPart' hb,wpAny_pyIter_tuple hT)<;>exact⟨_,rfl,k⟩
  wp_walk using wpAny_loadPart' hb,wpAny_pyIter_tuple hT
  exact⟨_,rfl,k⟩
section
theorem Hl{b:Addr}{xs:Array Value}(hT:s.heap.IsTuple b xs)(k:∀h',IsEnum h' (s.heap.objs.size+1) s.heap.objs.size 0 .none->h'.IsTupleIter s.heap.objs.size b 0->(∀c o,s.heap.get? c=some o->h'.get? c=some o)->Q (.ref (s.heap.objs.size+1)) {s with heap:=h'}) :
  wpAny (model prog w) A (call (.type "enumerate") [.ref b]) Q E s:=by
 obtain⟨⟨c,dq,dt,sq⟩,hb,hc,m,hd⟩:=hT;have e1:c=.type "tuple":=hc;have e2:dt=.seq xs m:=hd;subst e1 e2;refine callType_new F.called_enumerate (by decide) (F.typeCall_enumerate_1 _) (F.newCall_enumerate_1 _) (λobj=>F.args_object_init_2 obj _) F.entry_enumerate_new (DG b xs m dq sq) ⟨hb,?_⟩;have z1:(s.heap.push {cls:=.type "tuple_iterator",data:=.fields #[.ref b,.int 0 0]}).objs.size=s.heap.objs.size+1:=Er ..;have z2:IsEnum ((s.heap.push {cls:=.type "tuple_iterator",data:=.fields #[.ref b,.int 0 0]}).push ⟨.type "enumerate",none,.fields #[.none,.bool false,.ref s.heap.objs.size,rawInt 0,.none,.none],#[]⟩) (s.heap.objs.size+1) s.heap.objs.size 0 .none:=by rw[<- z1];exact mf _ rfl
 show _/\_;rw[z1];exact⟨⟨_,z2,rfl⟩,k _ z2 ⟨_,eZ _ (mf _ rfl),rfl,rfl⟩ λc o q=>eZ _ (eZ _ q)⟩
theorem Ad{j b:Addr}{xs:Array Value}{y:Value}(hj:s.heap.IsTupleIter j b n)(hb:s.heap.IsTuple b xs)(hy:xs[n]?=some y)(k:∀h',h'.IsTupleIter j b (n+1)->Heap.SameBut j s.heap h'->Q y {s with heap:=h'}):wpAny (model prog w) A (Builtin.SmallTypes.nextOf (.ref j)) Q E s:=by obtain⟨u,g1,g2,g3⟩:=id hj;obtain⟨v,f1,_,q,f2⟩:=hb;unfold Builtin.SmallTypes.nextOf;refine wpAny_bind (wpAny_callSpecial?_slot (name:=Str.ofString "__next__") hj.typeIs Mx (wpAny_call_entry Mx hj.typeIs Xz ?_ (Xy _)));show wpAny _ _ (field (.ref j) 0 >>= _) _ _ s;refine wpAny_bind (wpAny_field g1 g3 (x:=.ref b) rfl ?_);show wpAny _ _ (if (Value.ref b==Value.none)=true then _ else _) _ _ s;rw[if_neg (show ¬ ((Value.ref b==Value.none)=true) from eO)];show wpAny _ _ (field (.ref j) 1 >>= _) _ _ s;refine wpAny_bind (wpAny_field g1 g3 (x:=.int n 0) rfl ?_);show wpAny _ _ (seqItems? (.ref b) >>= _) _ _ s;refine wpAny_bind (wpAny_seqItems f1 f2 ?_);simp only[D',hy];refine wpAny_bind (wpAny_setField g1 g3 (by simp) (wpAny_pure ⟨y,rfl,wpAny_pure (k _ ⟨_,Heap.get?_update_self _ g1 (Obj.isFreed_of_fields (XN g3 _)),(Obj.cls_mapFields ..).trans g2,by rw[XN g3];simp[rawInt]⟩ (XG ..))⟩))
theorem tO{j b:Addr}{xs:Array Value}(hh:A.handled=none)(hj:s.heap.IsTupleIter j b n)(hb:s.heap.IsTuple b xs)(hy:xs[n]?=none)(k:∀h' e,Heap.ExtBut j s.heap h'->(∃o,h'.get? e=some o/\o.cls=.type "StopIteration")->E (.ref e) {s with heap:=h'}):wpAny (model prog w) A (Builtin.SmallTypes.nextOf (.ref j)) Q E s:=by
 obtain⟨u,g1,g2,g3⟩:=id hj;obtain⟨v,f1,_,q,f2⟩:=hb;unfold Builtin.SmallTypes.nextOf;refine wpAny_bind (wpAny_callSpecial?_slot (name:=Str.ofString "__next__") hj.typeIs Mx (wpAny_call_entry Mx hj.typeIs Xz ?_ (Xy _)));show wpAny _ _ (field (.ref j) 0 >>= _) _ _ s;refine wpAny_bind (wpAny_field g1 g3 (x:=.ref b) rfl ?_);show wpAny _ _ (if (Value.ref b==Value.none)=true then _ else _) _ _ s;rw[if_neg (show ¬ ((Value.ref b==Value.none)=true) from eO)];show wpAny _ _ (field (.ref j) 1 >>= _) _ _ s;refine wpAny_bind (wpAny_field g1 g3 (x:=.int n 0) rfl ?_);show wpAny _ _ (seqItems? (.ref b) >>= _) _ _ s;refine wpAny_bind (wpAny_seqItems f1 f2 ?_);simp only[D',hy];refine wpAny_bind (wpAny_rule (wpAny_bind (wpAny_setField g1 g3 (by simp) ?_)));show wpAny _ _ (newExc (.type "StopIteration") [] >>= _) _ _ _;refine wpAny_bind ?_;simp only[newExc,newTuple];refine wpAny_bind (wpAny_newObj_type ?_ (by size_fits));refine wpAny_bind (m:=firstArgMember _ _) (wpAny_of_eq (a:=Value.none) (by first|rfl|(simp only[firstArgMember];rfl)) ?_);refine wpAny_newObj_type ?_ (by size_fits);simp only[raiseNew];refine wpAny_bind (wpAny_handled ?_)
 first|rw[show A.in1.handled=none from hh]|rw[hh]
 exact wpAny_bind (wpAny_pure (wpAny_throw (k _ _ (((XG ..).extBut.push _).push _) ⟨_,mf _ rfl,rfl⟩)))
end
theorem Wx(hh:A.handled=none)(j b:Addr)(fE:b≠j)(xs:Array Value):Draws prog w A j [j,b] xs.size (λi v=>xs[i]?=some v) (λi h=>h.IsTupleIter j b i/\h.IsTuple b xs) where
 live:=λ_ _ st=>let ⟨o,ho,_⟩:=st.1;⟨o,ho⟩
 frame:=λ_ _ _ st hk=>⟨let ⟨o,e,r⟩:=st.1;⟨o,hk j (by simp) o e,r⟩,let ⟨o,e,r⟩:=st.2;⟨o,hk b (by simp) o e,r⟩⟩
 item:=λi s Q E hi st k=>Ad st.1 st.2 (y:=xs[i]) (by simp[hi]) λh' h1 h2=>k _ h' s.toks (by simp[hi]) ⟨h1,st.2.extBut h2.extBut fE⟩ h2
 done:=λs Q E st k=>tO hh st.1 st.2 (by simp) k
theorem Wy(hh:A.handled=none)(j b:Addr)(xs:Array Value)(i:Nat)(hi:xs[i]?=none):Draws prog w A j [j,b] i (λ_ _=>False) (λk h=>k=i/\h.IsTupleIter j b i/\h.IsTuple b xs) where
 live:=λ_ _ st=>let ⟨o,ho,_⟩:=st.2.1;⟨o,ho⟩
 frame:=λ_ _ _ st hk=>⟨st.1,let ⟨o,e,r⟩:=st.2.1;⟨o,hk j (by simp) o e,r⟩,let ⟨o,e,r⟩:=st.2.2;⟨o,hk b (by simp) o e,r⟩⟩
 item:=λk s Q E hk st _=>absurd st.1 (jK hk)
 done:=λs Q E st k=>tO hh st.2.1 st.2.2 hi k
def Q9(K:qaf)(a:Addr):It :=
 ⟨λi H=>∃xs x,dU K H a xs/\xs[i]?=some x,λi H v H'=>∃t x,H t=none/\v=.ref t/\(∀xs,dU K H a xs->xs[i]?=some x)/\H'=upd H t (.tup [.int (i:Int),x]),λi H=>∃xs,dU K H a xs/\xs.length<=i⟩
theorem Ae{x1}(a e it:Addr)(fE:e≠it)(hea:e≠a)(hai:a≠it) :
  Turn P w K (.Tuple elts x1 tp) (Q9 K a) [e,it] e (λi h=>(∃old,IsEnum h e it (i:Int) old)/\h.IsTupleIter it a i) where
 mem:=by simp
 obj:=λi h st b hb=>by
  obtain⟨⟨old,h1⟩,o,h2,c,d⟩:=st;rcases c7.mp hb with z|z
  subst z;exact⟨_,h1,λv z=>by cases z⟩;have z':b=it:=by simpa using z
  subst z';exact⟨o,h2,λv z=>by rw[d] at z;cases z⟩
 keep:=λi h h' st k=>by obtain⟨⟨old,h1⟩,o,e2,r⟩:=st;exact⟨⟨old,k e (by simp) _ h1⟩,o,k it (by simp) o e2,r⟩
 item:=by
  intro X hP hw hK hc i pins s σ H E I hf st hg;subst hP hw hK;obtain⟨xs,x,hq,hx⟩:=hg;obtain⟨aN,rv,p,hz⟩:=I.tuple hq;obtain⟨u,hu,ru⟩:=rv.get hx;obtain⟨⟨old,h1⟩,wA⟩:=st;have hi:i<aN.toArray.size:=by simp;exact (eB.mp hu).1
  refine wpAny_pyNext_enum_itemD (Wx (show X.A.in1.handled=none from I.ok.hd hc) it a hai aN.toArray) h1 ⟨wA,p⟩ hi fE (by simp[fE,hea]) λu' h₁ tk hP IY zu UD Eh ZM=>?_;have eu:u'=u:=by
   have UA:aN[i]?=some u':=by simpa using hP
   rw[hu] at UA;exact (Option.some.inj UA).symm
  subst eu;refine⟨_,rfl,wpAny_letOwnedTupleGo_enum IY λh₂ UE ou=>?_⟩;have kT:Heap.SameBut e h₁ h₂:=ou;have eV:e<s.heap.objs.size:=e_ h1;have UG:s.heap.objs.size≠e:=Cn eV;have kk:∀b ob,b∉[e,it]->s.heap.get? b=some ob->h₂.get? b=some ob:=λb ob hb q=>by have Cr:b≠e:=λz=>hb (by simp[z]);exact (kT.2 b Cr).trans (ZM b ob Cr (λz=>hb (by simp[z])) q)
  have new:cw X.prog X.w (upd H s.heap.objs.size (.tup [.int (i:Int),x])) h₂ s.heap.objs.size (.tup [.int (i:Int),x]) :=
   ⟨by show 2<=sizeLine;rw[sizeLine_eq];decide,[.int i tk,u'],.cons ⟨_,rfl⟩ (.cons ru .nil),⟨_,(kT.2 _ UG).trans UD,rfl,_,rfl⟩⟩
  refine⟨.ref s.heap.objs.size,upd H s.heap.objs.size (.tup [.int (i:Int),x]),I.grown (t':=tk+1) kk hf (cO _) new,rfl,⟨_,x,I.fresh,rfl,λys hy=>by rw[I.jf hy hq];exact hx,rfl⟩,⟨⟨u',?_⟩,?_⟩,λb hb=>?_⟩;have:((i:Int)+1)=((i+1:Nat):Int):=by omega
  rw[<- this];exact UE;obtain⟨⟨o,q,r⟩,_⟩:=zu;exact⟨o,(kT.2 it (Ne.symm fE)).trans q,r⟩;have MX:b<s.heap.objs.size:=by
   rcases c7.mp hb with z|z
   subst z;exact eV;have z':b=it:=by simpa using z
   subst z';obtain⟨o,q,_⟩:=wA;exact e_ q
  rw[aC (jK MX)];exact (hf b hb).1
 done:=by intro X hP hw hK hc i pins s σ H E I hf st hg;subst hP hw hK;obtain⟨xs,hq,hx⟩:=hg;obtain⟨aN,rv,p,hz⟩:=I.tuple hq;have hl:=rv.length;obtain⟨⟨old,h1⟩,wA⟩:=st;obtain⟨f0,f1,f2,f3,f4,f5⟩:=hf it (by simp);exact wpAny_pyNext_enum_endD (Wy (show X.A.in1.handled=none from I.ok.hd hc) it a aN.toArray i (by simp;omega)) h1 ⟨rfl,wA,p⟩ λh' eb=>⟨rfl,I.turned (t':=s.toks) (λb o hb q=>eb b o hb q) f0 f1 f3 f4 f5⟩
 self:=λ_ _ _ _ _ st h=>by obtain⟨⟨old,h1⟩,_⟩:=st;exact wpAny_pyIter_enum h1 h
section
def Q_(K:qaf)(ta:TA):TI:=λσ H R=>ta σ H λvs H1=>∃a,vs=[.ref a]/\(∃xs,dU K H1 a xs)/\R (Q9 K a) H1
theorem Hm{x1}{a:Expr}{ta:TA}(hg:Gl X "enumerate")(hm:X.mg "enumerate"=none)(ha:PA X [a] ta)(hs:starEach [a] X.env=[(false,eval a X.env)]:=by rfl) :
  PI X (.Tuple elts x1 tp) (.Call (.Name "enumerate" p) [a] [] pos) (Q_ X.K ta):=by
 intro pins s σ H R I h;refine Call_ (j6 I hg hm L2.boot_enumerate (Th (b_ (ha pos pins s σ H _ I h) λus s1 ⟨vs,H1,I1,r1,q1⟩=>?_) hs rfl));obtain⟨b,e,⟨xs,hq⟩,q⟩:=q1;subst e;obtain⟨u,rfl,ru⟩:=vals1 r1;cases ru;obtain⟨aN,rv,pl,hz⟩:=I1.tuple hq;have hb:b<s1.heap.objs.size:=by obtain⟨o,ho,_⟩:=pl;exact e_ ho
 refine Hl pl λh' he hit hk=>wpAny_pyIter_enum he ?_;refine⟨s1.heap.objs.size+1,[s1.heap.objs.size+1,s1.heap.objs.size],_,_,H1,rfl,I1.kept (t':=s1.toks) hk,Ae b _ _ (Cn (wj _)) (Cn (Ot hb)) (jK hb),⟨⟨_,he⟩,hit⟩,λc hc=>?_,q⟩;rcases c7.mp hc with z|z
 subst z;exact I1.oh (IX _) (I1.cm.fresh (IX _));have z':c=s1.heap.objs.size:=by simpa using z
 subst z';exact I1.oh (cO _) I1.fresh
end
def Ra(f:FE):FI:=λρ Q=>f ρ λt=>match t with
 |.tup ts=>Q (eG ts)
 |_=>False
theorem Hn{ts:qaj}:Wk K (Q9 K a) [(.tup ts,.ref a)] (eG ts):=λH A hA h i=>by
 have h:=h _ dG;simp only[At] at h;obtain⟨b,vs,e,l,q⟩:=h;cases e;have hl:=q.length;have hle:(eG ts).length=ts.length:=by unfold eG;rw[List.length_mapIdx]
 rw[hle];refine⟨λhi=>⟨vs,vs[i]'(by omega),l,by simp⟩,λhi=>⟨vs,l,by omega⟩,λt ht x H' y=>?_⟩;obtain⟨p,u,hp,rfl,hu,rfl⟩:=y;unfold eG at ht;rw[XF] at ht;cases e:ts[i]? with
 |none=>rw[e] at ht;cases ht
 |some t'=>rw[e] at ht;cases ht;obtain⟨v,e1,e2⟩:=q.get e;have:=hu vs l;rw[e1] at this;cases this;exact⟨aH hp,cf (dU.of aG) (aB.cons bf (aB.cons (e2.same (aH hp)) aB.nil))⟩
theorem Ho{a:Expr}{x1}(hg:Gl X "enumerate")(hm:X.mg "enumerate"=none)(ha:VE X Z a fa)(hs:starEach [a] X.env=[(false,eval a X.env)]:=by rfl) :
  VI X Z (.Tuple elts x1 tp) (.Call (.Name "enumerate" p) [a] [] pos) (Ra fa):=.mk λtm=>PI.weak (Hm hg hm (bt (ha tm) cC hs) hs) λσ H R ⟨ρ,O,q,I,hf,k⟩=>⟨ρ,O,_,I,hf,λt ht v H' s a=>by
 split at ht;have a0:=a;simp only[At] at a;obtain⟨p,vs,rfl,l,_⟩:=a;exact⟨p,rfl,⟨vs,l⟩,k _ ht _ H' _ s (λp hp=>by rw[eX.mp hp];exact a0) Hn⟩;exact ht.elim⟩
theorem BX{ds:qag}{o:Obj}{xs:Array Value}(h1:fd.defaults=.ref a)(h2:K.lookup a=some o)(h3:o.data=.seq xs n)(hl:ps.length=m+ds.length)(h:∀us:qag,us.length=m->∃k,bindArgs fd ⟨us,[]⟩=seqItems? fd.defaults >>= k/\k (some xs)=pure (ps.zip (us++ds))):Binds K fd ps ds:=λs us KX e=>by obtain⟨k,e1,e2⟩:=h us (by rw[eC] at e;omega);exact BindsTo.of_defaults h1 (KX _ _ h2) h3 e1 e2
end VT
namespace BS
open PySem PySem.Builtin PyProof.Rows
def ib(x:Int)(k:Nat):Bool:=decide (x / 2 ^ k % 2=1)
def sub(y x:Int):Prop:=∀k,ib y k=true->ib x k=true
def below(m:Nat)(x:Int):Prop:=0<=x/\x<2 ^ m
def sw(DH:qan):Nat->Int->Int
 |0,x=>x
 |k+1,x=>if ib (sw DH k x) k=true then bitOr (sw DH k x) (DH.getD k 0) else sw DH k x
def rounds(DH:qan):Nat->Int->Int
 |0,x=>x
 |t+1,x=>sw DH DH.length (rounds DH t x)
def mem(x:Int):qao:=(List.range (Builtin.Int.intBits x)).filter (ib x)
def lst(DH:qan)(x:Int):Int:=rounds DH DH.length x
end BS
namespace BS
open PySem PySem.Builtin
end BS
namespace Lay
open PySem L2 VT Gen K5 BS
open PySem.Builtin (bitOr)
end Lay
namespace S30
open PySem L2 VT Gen K5 Lay BS
open PySem.Builtin (bitOr)
def Rb(a c:Nat)(f:Str)(ps:qai)(body:qal)(o:jT):qal:=List.replicate a .skip++(.df f ps::(body++(.give o::List.replicate c .skip)))
end S30
set_option exponentiation.threshold 4000
namespace Rg
open PySem L2 VT Gen K5 Lay
open wL (cP)
open mn (Vl vT nm bP RI)
theorem Lb(h:n<=1000):n<=sizeLine:=Gen.small h
theorem Hq(i:Int):RI (bP i):=by unfold RI bP;omega
theorem Wz(h:n+101<cLine):n+3<cLine:=by omega
theorem WA:RI 0:=by unfold RI;decide
theorem RI1:RI 1:=by unfold RI;decide
theorem lN{α β:Type}(f:α->β):∀(ks:List Key)(is:List α)(k:Key),bC ks (is.map f) k=(bC ks is k).map f
 |[],is,k=>by cases is<;>rfl
 |a::ks,[],k=>rfl
 |a::ks,i::is,k=>by simp only[gA,bC];split;rfl;exact lN f ks is k
theorem tP(f:α->β)(ks:List Key)(is:List α)(k:Key)(v:α):bH ks (is.map f) k (f v)=(bH ks is k v).map f:=by
 unfold bH;split;rw[List.zipWith_map_right,List.map_zipWith]
 congr 1
 funext a b;split<;>rfl;simp
theorem m_(ks:List Key)(is:List α)(k:Key)(v:α):(bH ks is k v).length<=is.length+1:=by unfold bH;split;rw[XH];omega;simp
theorem DI{is:List α}{k:Key}{v i:α}(h:i∈bH ks is k v):i∈is\/i=v:=by
 unfold bH at h;split at h;rw[List.mem_iff_getElem?] at h;obtain⟨j,hj⟩:=h;rw[List.getElem?_zipWith] at hj;cases e1:ks[j]? with
 |none=>rw[e1] at hj;cases hj
 |some a=>
  cases e2:is[j]? with
  |none=>rw[e1,e2] at hj;cases hj
  |some b=>rw[e1,e2] at hj;have Nd:(if a=k then v else b)=i:=Option.some.inj hj;split at Nd;exact .inr Nd.symm;exact .inl (by rw[<- Nd];exact gW e2)
 rcases cU.mp h with z|z
 exact .inl z;exact .inr (eX.mp z)
theorem xZ{α:Type}:∀{ks:List Key}{is:List α}{k:Key}{v:α},bC ks is k=some v->v∈is
 |[],is,k,v,h=>by cases is<;>cases h
 |a::ks,[],k,v,h=>by cases h
 |a::ks,i::is,k,v,h=>by simp only[bC] at h;split at h;cases h;exact dG;exact gD _ (xZ h)
structure Ev where
 ks:List Key
 is:List Vl
noncomputable def Ev.ts(e:Ev):qaj:=e.is.map vT
noncomputable def Ev.get(e:Ev)(x:Str):Vl:=(bC e.ks e.is (.inr x)).getD (.num 0)
noncomputable def Ev.put(e:Ev)(x:Str)(v:Vl):Ev:=⟨dP e.ks (.inr x),bH e.ks e.is (.inr x) v⟩
def Yv:Ev:=⟨[],[]⟩
theorem Rc(e:Ev)(x:Str):(bC e.ks e.ts (.inr x)).getD (.int 0)=vT (e.get x):=by unfold Ev.ts Ev.get;rw[lN];cases bC e.ks e.is (.inr x)<;>rfl
theorem vA(e:Ev)(x:Str)(v:Vl):bH e.ks e.ts (.inr x) (vT v)=(e.put x v).ts:=tP vT e.ks e.is (.inr x) v
theorem fN(v:Vl):bX (vT v)=true:=by cases v<;>rfl
def RV(v:Vl):Prop:=RI (nm v)
structure kl(e:Ev)(n:Nat):Prop where
 n:e.is.length<=n
 ri:∀i∈e.is,RV i
theorem kl.put{e:Ev}(h:kl e n)(x:Str){v:Vl}(hv:RV v):kl (e.put x v) (n+1):=by
 refine⟨?_,λi hi=>?_⟩;have:=m_ e.ks e.is (.inr x) v;have:=h.n;show (bH e.ks e.is (.inr x) v).length<=n+1;omega;rcases DI hi with z|z
 exact h.ri i z;rw[z];exact hv
theorem kl.get{e:Ev}{n:Nat}(h:kl e n)(x:Str):RV (e.get x):=by
 unfold Ev.get;cases g:bC e.ks e.is (.inr x) with
 |none=>exact WA
 |some v=>exact h.ri v (xZ g)
noncomputable def look(e:Ev):jT->Vl
 |.nm x=>e.get x
 |.nu i=>.num i
def vB:jT->Prop
 |.nm x=>cP x=true/\x.length<=100
 |.nu i=>RI i
def OkK:Ky->Prop
 |.fld x=>cP x=true/\x.length<=50
 |.op o=>vB o
theorem kl.look{e:Ev}(h:kl e n){o:jT}(ho:vB o):RV (look e o):=by
 cases o with
 |nm x=>exact h.get x
 |nu i=>exact ho
noncomputable def rkI(op:Str)(x y:Int):Option Int :=
 if op="plus" then some (bP (x+y)) else if op="minus" then some (bP (x-y)) else if op="times" then some (bP (x * y)) else if op="less" then some (if x<y then 1 else 0) else if op="same" then some (if x=y then 1 else 0)
 else if y=0 then none else if op="over" then some (bP (x.fdiv y)) else some (bP (x.fmod y))
noncomputable def LG(op:Str)(a b:Vl):Option Int:=if op="same" then some (if a=b then 1 else 0) else rkI op (nm a) (nm b)
theorem Rf{op:Str}{x y v:Int}(h:rkI op x y=some v):RI v:=by
 unfold rkI at h
 repeat' split at h
 all_goals (cases h)
 all_goals first|exact Hq _|exact WA|exact RI1
theorem Hr{op:Str}{a b:Vl}{v:Int}(h:LG op a b=some v):RI v:=by
 unfold LG at h;split at h;cases h;split<;>first|exact WA|exact RI1
 exact Rf h
noncomputable def oV:Option Vl->T
 |some v=>vT v
 |none=>.aO
theorem Af(o:Option Vl):bX (oV o)=true:=by cases o<;>first|rfl|exact fN _
structure Fr where
 call:Option Nat
 ev:Ev
structure Ct where
 ks:List Key
 is:qan
def Ct.ts(c:Ct):qaj:=c.is.map .int
noncomputable def Ct.get(c:Ct)(p:Nat):Int:=(bC c.ks c.is (.inl (p:Int))).getD 0
noncomputable def Ct.up(c:Ct)(p:Nat):Ct:=⟨dP c.ks (.inl (p:Int)),bH c.ks c.is (.inl (p:Int)) (c.get p+1)⟩
theorem Hs(c:Ct)(p:Nat):(bC c.ks c.ts (.inl (p:Int))).getD (.int 0)=.int (c.get p):=by unfold Ct.ts Ct.get;rw[lN];cases bC c.ks c.is (.inl (p:Int))<;>rfl
theorem WB(c:Ct)(p:Nat):bH c.ks c.ts (.inl (p:Int)) (.int (c.get p+1))=(c.up p).ts:=tP T.int c.ks c.is (.inl (p:Int)) (c.get p+1)
structure Ce where
 ks:List (List Key×Key)
 is:List Vl
noncomputable def Ce.get(c:Ce)(k:List Key×Key):Vl:=(Wq c.ks c.is k).getD (.num 0)
noncomputable def Ce.put(c:Ce)(k:List Key×Key)(v:Vl):Ce:=⟨Ws c.ks k,Wt c.ks c.is k v⟩
noncomputable def Ce.at'(c:Ce):Option (List Key×Key)->Vl
 |some k=>c.get k
 |none=>.num 0
noncomputable def Ce.acL(c:Ce)(v:Vl):Option (List Key×Key)->Ce
 |some k=>c.put k v
 |none=>c
noncomputable def tQ(v:Vl):T:=.tup [.str "done",vT v]
noncomputable def NR:T:=.tup [.str "fault",.str "zero"]
noncomputable def qK:T:=.tup [.str "cut",.int 0]
def nX(w:Str):T:=.tup [.str "fault",.str w]
def kyO:Ky->List jT
 |.fld _=>[]
 |.op o=>[o]
noncomputable def jI:Rw->List jT
 |.df _ ps=>ps.map .nm
 |.put _ a=>[a]
 |.give a=>[a]
 |.iG a=>[a]
 |.iC a=>[a]
 |.cH _ a _ b=>[a,b]
 |.call _ _ as=>as
 |.get _ r k=>.nm r::kyO k
 |.set r k a=>.nm r::(kyO k++[a])
 |_=>[]
noncomputable def cellK(e:Ev)(r:Str)(k:Ky):Option (List Key×Key):=match e.get r with
 |.rB p n=>some ([.inl p,.inl n],match k with
  |.fld x=>.inr (((".":String):Str)++x)
  |.op o=>.inl (nm (look e o)))
 |.num _=>none
noncomputable def Ht(e:Ev)(ce:Ce)(c:Ct)(p:Nat):Rw->Option Vl
 |.get _ r k=>some (ce.at' (cellK e r k))
 |.set _ _ a=>some (look e a)
 |.put _ a=>some (look e a)
 |.give a=>some (look e a)
 |.cH _ a op b=>(LG op (look e a) (look e b)).map .num
 |.new _=>some (.rB p (c.get p))
 |.iG a=>some (.num (if look e a=.num 0 then 0 else 1))
 |.iC a=>some (.num (if look e a=.num 0 then 0 else 1))
 |_=>none
noncomputable def BY(e:Ev)(ce:Ce)(c:Ct)(p:Nat)(r:Rw):T:=.tup [.int (p:Int),.tup ((jI r).map λo=>vT (look e o)),oV (Ht e ce c p r)]
noncomputable def c5(ps:qai)(gs:List Vl):Nat->Ev
 |0=>Yv
 |k+1=>match ps[k]? with
  |some x=>(c5 ps gs k).put x (gs.getD k (.num 0))
  |none=>c5 ps gs k
structure Lv where
 fs:List Fr
 f:Fr
 ce:Ce
 ct:Ct
 dn:qaj
 pl:Nat
abbrev Res:=List T×T
def dW:Rw->Bool
 |.jU=>true
 |.fin=>true
 |.skip=>true
 |_=>false
noncomputable def lQ(s:Lv)(x:Str)(v:Vl)(d:T):Lv:={s with f:={s.f with ev:=s.f.ev.put x v},dn:=s.dn++[d],pl:=s.pl+1}
noncomputable def eW(rs:qal)(r:Rw)(s:Lv):Lv ⊕ Res :=
 let e:=s.f.ev
 let d:=BY e s.ce s.ct s.pl r
 match r with
 |.df _ _=>.inl {s with dn:=s.dn++[d],pl:=s.pl+1}
 |.put x a=>.inl (lQ s x (look e a) d)
 |.cH x a op b=>match LG op (look e a) (look e b) with
  |none=>.inr (s.dn++[d],NR)
  |some v=>.inl (lQ s x (.num v) d)
 |.new x=>.inl (lQ {s with ct:=s.ct.up s.pl} x (.rB s.pl (s.ct.get s.pl)) d)
 |.iG a=>.inl {s with dn:=s.dn++[d],pl:=if look e a=.num 0 then (vn rs s.pl).toNat else s.pl+1}
 |.iC a=>.inl {s with dn:=s.dn++[d],pl:=if look e a=.num 0 then (vn rs s.pl).toNat else s.pl+1}
 |.get x r k=>.inl (lQ s x (s.ce.at' (cellK e r k)) d)
 |.set r k a=>.inl {s with ce:=s.ce.acL (look e a) (cellK e r k),dn:=s.dn++[d],pl:=s.pl+1}
 |.fail w=>.inr (s.dn++[d],nX w)
 |.give a=>match s.f.call,s.fs.getLast? with
  |some c,some g=>match rs[c]? with
   |some (.call x _ _)=>.inl {fs:=s.fs.dropLast,f:={g with ev:=g.ev.put x (look e a)},ce:=s.ce,ct:=s.ct,dn:=s.dn++[d],pl:=c+1}
   |_=>.inr (s.dn,qK)
  |_,_=>.inr (s.dn++[d],tQ (look e a))
 |.call _ g as=>match Jf (bB rs rs.length) g with
  |some p=>match rs[p]? with
   |some (.df _ ps)=>.inl {fs:=s.fs++[s.f],f:=⟨some s.pl,c5 ps (as.map (look e)) ps.length⟩,ce:=s.ce,ct:=s.ct,dn:=s.dn++[d],pl:=p}
   |_=>.inr (s.dn,qK)
  |none=>.inr (s.dn,qK)
 |_=>.inr (s.dn,qK)
noncomputable def i5(rs:qal)(most:Nat)(s:Lv):Lv ⊕ Res:=match rs[s.pl]? with
 |none=>.inr (s.dn,qK)
 |some r=>if dW r=true then .inl {s with pl:=(nR rs s.pl).toNat} else if most<=s.dn.length then .inr (s.dn,qK) else eW rs r s
noncomputable def wc(cF:Addr)(f:Fr):S:=.ins cF qaE [.lf (oT f.call),.dk f.ev.ks f.ev.ts]
noncomputable def WC(cF:Addr)(f:Fr):T:=.ins cF qaE [oT f.call,.dk f.ev.ks f.ev.ts]
noncomputable def eT(cM cF:Addr)(L:T)(most:Int)(pk:T)(fr:List Fr)(ce:S)(ct:Ct)(dn:qaj)(pl en:T):S:=.ins cM mN [.lf L,.lf (.int most),.lf pk,.lst (fr.map (wc cF)),ce,.dk ct.ks ct.ts,.lst (dn.map .lf),.lf pl,.lf en]
noncomputable def S7(cM cF:Addr)(L:T)(most:Int)(pk:T)(fr:List Fr)(ce:S)(ct:Ct)(dn:qaj)(pl en:T):T:=.ins cM mN [L,.int most,pk,.lst (fr.map (WC cF)),ce.t,.dk ct.ks ct.ts,.lst dn,pl,en]
theorem NS(cF:Addr):∀fr:List Fr,S.ts (fr.map (wc cF))=fr.map (WC cF)
 |[]=>by simp[S.ts]
 |e::fr=>by simp[S.ts,NS cF fr,wc,WC,S.t]
theorem NT:∀dn:qaj,S.ts (dn.map .lf)=dn
 |[]=>by simp[S.ts]
 |e::fr=>by simp[S.ts,NT fr,S.t]
section
variable{cM cF:Addr}{L:T}{most:Int}{pk:T}{fr fs:List Fr}{f:Fr}{ce:S}{ct:Ct}{dn:qaj}{pl en:T}
theorem ir:(eT cM cF L most pk fr ce ct dn pl en).t=S7 cM cF L most pk fr ce ct dn pl en:=by unfold eT S7;simp only[S.t,S.ts,NS,NT]
theorem NU(C:Addr)(f:Str)(ns:qai)(xs:List S):(S.ins C ns xs).Vz (.fld C f)=ka f ns:=by show (if C=C then ka f ns else none)=_;rw[if_pos rfl]
theorem x4{f:Str}{ns:qai}{xs:List S}{x:S}{ps:List kG}(h1:ka f ns=some i)(h2:xs[i]?=some x):(S.ins C ns xs).get (.fld C f::ps)=x.get ps:=by rw[S.get,NU,h1];show (match xs[i]? with|some x=>x.get ps|none=>none)=_;rw[h2]
theorem x5{f:Str}{ns:qai}{xs:List S}{x y:S}{ps:List kG}(h1:ka f ns=some i)(h2:xs[i]?=some x):(S.ins C ns xs).put (.fld C f::ps) y=.ins C ns (xs.set i (x.put ps y)):=by rw[S.put,NU,h1];show (match xs[i]? with|some x=>S.ins C ns (xs.set i (x.put ps y))|none=>_)=_;rw[h2]
theorem NV(xs:List S)(x:S):(S.lst (xs++[x])).Vz .last=some xs.length:=by show (if 0<(xs++[x]).length then some ((xs++[x]).length-1) else none)=_;rw[if_pos (by simp)];simp
theorem WD{xs:List S}{x:S}{ps:List kG}:(S.lst (xs++[x])).get (.last::ps)=x.get ps:=by rw[S.get,NV];show (match (xs++[x])[xs.length]? with|some x=>x.get ps|none=>none)=_;rw[sF (cO _),Nat.sub_self];rfl
theorem WE{xs:List S}{x y:S}{ps:List kG}:(S.lst (xs++[x])).put (.last::ps) y=.lst (xs++[x.put ps y]):=by rw[S.put,NV];show (match (xs++[x])[xs.length]? with|some z=>S.lst ((xs++[x]).set xs.length (z.put ps y))|none=>S.lst (xs++[x]))=_;rw[sF (cO _),Nat.sub_self];show S.lst ((xs++[x]).set xs.length (x.put ps y))=_;rw[List.set_append_right _ _ (cO _),Nat.sub_self];rfl
theorem BZ(s:S):s.get []=some s:=by cases s<;>rfl
theorem B0(s y:S):s.put [] y=y:=by cases s<;>rfl
theorem Hu:(eT cM cF L most pk fr ce ct dn pl en).get [.fld cM "frames"]=some (.lst (fr.map (wc cF))):=by unfold eT;rw[x4 (i:=3) rfl rfl,BZ]
theorem Hv{fr':List Fr}:(eT cM cF L most pk fr ce ct dn pl en).put [.fld cM "frames"] (.lst (fr'.map (wc cF)))=eT cM cF L most pk fr' ce ct dn pl en:=by unfold eT;rw[x5 (i:=3) rfl rfl,B0];rfl
theorem Hw:(eT cM cF L most pk fr ce ct dn pl en).get [.fld cM "counts"]=some (.dk ct.ks ct.ts):=by unfold eT;rw[x4 (i:=5) rfl rfl,BZ]
theorem Rh{p:Nat}:(eT cM cF L most pk fr ce ct dn pl en).put [.fld cM "counts"] (.dk (dP ct.ks (.inl (p:Int))) (bH ct.ks ct.ts (.inl (p:Int)) (.int (ct.get p+1))))=eT cM cF L most pk fr ce (ct.up p) dn pl en:=by unfold eT;rw[x5 (i:=5) rfl rfl,B0,WB];rfl
theorem Hx:(eT cM cF L most pk fr ce ct dn pl en).get [.fld cM "doings"]=some (.lst (dn.map .lf)):=by unfold eT;rw[x4 (i:=6) rfl rfl,BZ]
theorem Ri{t:T}:(eT cM cF L most pk fr ce ct dn pl en).put [.fld cM "doings"] (.lst (dn.map .lf++[.lf t]))=eT cM cF L most pk fr ce ct (dn++[t]) pl en:=by unfold eT;rw[x5 (i:=6) rfl rfl,B0,kH];rfl
theorem Hy:(eT cM cF L most pk (fs++[f]) ce ct dn pl en).get [.fld cM "frames",.last,.fld cF "names"]=some (.dk f.ev.ks f.ev.ts):=by unfold eT;rw[x4 (i:=3) rfl rfl,kH];show S.get (.lst (fs.map (wc cF)++[wc cF f])) _=_;rw[WD];unfold wc;rw[x4 (i:=1) rfl rfl,BZ]
theorem Rj{v:Vl}:(eT cM cF L most pk (fs++[f]) ce ct dn pl en).put [.fld cM "frames",.last,.fld cF "names"] (.dk (dP f.ev.ks (.inr x)) (bH f.ev.ks f.ev.ts (.inr x) (vT v)))=eT cM cF L most pk (fs++[{f with ev:=f.ev.put x v}]) ce ct dn pl en:=by
 unfold eT;rw[kH,x5 (i:=3) (x:=.lst (fs.map (wc cF)++[wc cF f])) rfl rfl,WE];show S.ins cM mN (List.set _ 3 (.lst (fs.map (wc cF)++[(wc cF f).put _ _])))=_;have e:(wc cF f).put [.fld cF "names"] (.dk (dP f.ev.ks (.inr x)) (bH f.ev.ks f.ev.ts (.inr x) (vT v)))=wc cF {f with ev:=f.ev.put x v}:=by unfold wc;rw[x5 (i:=1) rfl rfl,B0,vA];rfl
 rw[e,kH];rfl
end
def Rk:Rw->Prop
 |.df _ ps=>ps.length<=50/\∀x∈ps,cP x=true/\x.length<=100
 |.put _ a=>vB a
 |.give a=>vB a
 |.iG a=>vB a
 |.iC a=>vB a
 |.cH _ a op b=>vB a/\(op="plus"\/op="minus")/\vB b
 |.get _ _ _=>False
 |.set _ _ _=>False
 |.call _ _ _=>False
 |_=>True
structure Wl(rs:qal):Prop where
 B:Bl rs
 ok:∀r∈rs,Rk r
 n:rs.length<=100
structure yT(rs:qal)(s:Lv):Prop where
 pl:s.pl<rs.length
 ins:1<=dp (br rs) s.pl\/∃f ps,rs[s.pl]?=some (.df f ps)
 fs:s.fs=[]
 ca:s.f.call=none
 ev:kl s.f.ev (100+s.dn.length)
 ct:s.ct.is.length<=s.dn.length
theorem kl.up{e:Ev}(h:kl e n)(hm:n<=m):kl e m:=⟨by have:=h.n;omega,h.ri⟩
theorem B1(ps:qai)(gs:List Vl)(hg:∀g∈gs,RV g):∀k,kl (c5 ps gs k) k
 |0=>⟨cO _,λi hi=>nomatch hi⟩
 |k+1=>by
  have ih:=B1 ps gs hg k;unfold c5;split;refine ih.put _ ?_;rw[List.getD];cases e:gs[k]? with
  |none=>exact WA
  |some g=>exact hg g (gW e)
  exact ih.up (by omega)
theorem Hz(e:Ev)(ce:Ce)(c:Ct)(p:Nat)(r:Rw):bX (BY e ce c p r)=true:=by unfold BY;have:dv ((jI r).map λo=>vT (look e o))=true:=fM (f:=λo=>vT (look e o)) (λo=>fN _) _;simp only[bX,dv,this,Af,ME]
theorem qM:∀{a b:qaj},dv a=true->dv b=true->dv (a++b)=true
 |[],b,_,h=>h
 |t::a,b,h1,h2=>by simp only[dv,mh] at h1;simp only[Jk,dv,h1.1,qM h1.2 h2,ME]
section
theorem x6(B:Bl rs)(hj:j<=rs.length)(h:1<=dp (br rs) j):j<rs.length:=by
 rcases Nat.lt_or_ge j rs.length with z|z
 exact z;have e:j=rs.length:=by omega
 subst e;unfold dp at h;rw[B.W.fin] at h;exact absurd h (by simp)
theorem i6(B:Bl rs)(hr:rs[j]?=some r)(ho:NI r=true)(hi:1<=dp (br rs) j\/∃f ps,rs[j]?=some (.df f ps)):j+1<rs.length/\1<=dp (br rs) (j+1):=by
 have hj:=(eB.mp hr).1;have kk:=eE hr;have h1:1<=dp (br rs) (j+1):=by
  by_cases qC:(aX r).op=true;rw[tE B.W hj (by rw[kk];exact qC)];omega;obtain hi|⟨f,ps,hd⟩:=hi
  rw[xG (by rw[kk];cases r<;>first|rfl|cases ho) (by rw[kk];simpa using qC)];exact hi;rw[hr] at hd;cases hd;exact absurd rfl qC
 exact⟨x6 B (by omega) h1,h1⟩
theorem HA(ho:GY r=true):wd r="if"\/wd r="while":=by cases r<;>first|(cases ho;done)|exact .inl rfl|exact .inr rfl
theorem Ag(B:Bl rs)(hr:rs[j]?=some r)(ho:GY r=true):1<=dp (br rs) j/\j+1<rs.length/\1<=dp (br rs) (j+1):=by
 have hj:=(eB.mp hr).1;have kk:=eE hr;have h0:1<=dp (br rs) j:=by have:=B.inn hr (by rcases HA ho with e|e<;>rw[e]<;>decide +kernel) (by rcases HA ho with e|e<;>rw[e]<;>decide +kernel);unfold dp;exact SE.mpr this
 have qC:(aX r).op=true:=by cases r<;>first|rfl|cases ho
 have h1:1<=dp (br rs) (j+1):=by rw[tE B.W hj (by rw[kk];exact qC)];omega
 exact⟨h0,x6 B (by omega) h1,h1⟩
theorem B2(B:Bl rs)(hr:rs[j]?=some r)(ho:GY r=true):∃k:Nat,vn rs j=(k:Int)/\j<k/\k<rs.length/\1<=dp (br rs) k:=by
 obtain⟨h0,_,_⟩:=Ag B hr ho;obtain⟨e,b⟩:=B.Wf hr (HA ho);obtain⟨g1,g2,g3,g4,g5⟩:=B.top b.lt b.op b.en;have ee:lH rs j=(e:Int):=by unfold lH;rw[b.en]
 unfold vn;rw[hr];cases r with
 |iC a=>
  refine⟨e+1,by show lH rs j+1=_;rw[ee];push_cast;rfl,by omega,?_⟩;have h1:1<=dp (br rs) (e+1):=by rw[g3];exact h0
  exact⟨x6 B (by omega) h1,h1⟩
 |iG a=>
  show ∃k:Nat,(match DA rs j with|none=>lH rs j|some x=>(x:Int)+1)=(k:Int)/\_;cases hx:DA rs j with
  |none=>exact⟨e,ee,by omega,by omega,by rw[b.de];omega⟩
  |some x=>
   obtain⟨x1,x2,x3⟩:=xO hx;have hxe:=QM x2;obtain⟨d2,o,_,q1,_,_⟩:=B.jU hxe;have hxl:=(eB.mp hxe).1;have kx:=eE hxe;have h1:dp (br rs) (x+1)=dp (br rs) x:=xG (by rw[kx];rfl) (by rw[kx];rfl);have h2:1<=dp (br rs) (x+1):=by omega
   have hjx:j<x:=by unfold jx at x3;rw[wg] at x3;exact (xH B.W x (by omega) _ _ x3).1
   exact⟨x+1,by push_cast;rfl,by omega,x6 B (by omega) h2,h2⟩
 |_=>cases ho
theorem HB(B:Bl rs)(hr:rs[j]?=some r)(hs:dW r=true)(hi:1<=dp (br rs) j):∃k:Nat,nR rs j=(k:Int)/\k<rs.length/\1<=dp (br rs) k/\(j<k\/∃a,rs[k]?=some (.iC a)):=by
 have hj:=(eB.mp hr).1;have kk:=eE hr;unfold nR;rw[hr];cases r with
 |skip=>obtain⟨h1,h2⟩:=i6 B hr rfl (.inl hi);exact⟨j+1,by push_cast;rfl,h1,h2,.inl (by omega)⟩
 |jU=>
  obtain⟨d2,o,a,q1,q2,_⟩:=B.jU hr;have eh:BU rs j=o:=by unfold BU;rw[q1];rfl
  show ∃k:Nat,lH rs (BU rs j)=(k:Int)/\_;rw[eh];obtain⟨e,b⟩:=B.Wf q2 (.inl rfl);have Rl:=q1;unfold jx at Rl;rw[wg] at Rl;obtain⟨s1,s2,s3,s4⟩:=xH B.W j (by omega) _ _ Rl;have hje:j<e:=by
   rcases Nat.lt_or_ge j e with z|z
   exact z;have h9:=(B.top b.lt b.op b.en).2.2.1;by_cases ej:j=e;subst ej;rw[b.re] at hr;cases hr;have:=s4 (e+1) (by have:=b.le;omega) (by omega);omega
  exact⟨e,by unfold lH;rw[b.en],b.el,by rw[b.de];omega,.inl hje⟩
 |fin=>
  obtain⟨d2,o,r',q1,q2,_⟩:=B.fin hr;have eh:BU rs j=o:=by unfold BU;rw[q1];rfl
  show ∃k:Nat,(match rs[BU rs j]? with|some (.iC _)=>(BU rs j:Int)|_=>(j:Int)+1)=(k:Int)/\_;rw[eh,q2];have Rl:=q1;unfold jx at Rl;rw[wg] at Rl;obtain⟨s1,s2,s3,s4⟩:=xH B.W j (by omega) _ _ Rl;have E6:dp (br rs) (j+1)+1=dp (br rs) j:=xF B.W hj (by rw[kk];rfl);have h2:1<=dp (br rs) (j+1):=by omega
  have nx:∃k:Nat,(j:Int)+1=(k:Int)/\k<rs.length/\1<=dp (br rs) k/\(j<k\/∃a,rs[k]?=some (.iC a)):=⟨j+1,by push_cast;rfl,x6 B (by omega) h2,h2,.inl (by omega)⟩;cases r' with
  |iC a=>exact⟨o,rfl,by omega,by rw[s3];unfold dp at d2;omega,.inr ⟨a,q2⟩⟩
  |_=>exact nx
 |_=>cases hs
theorem lT(W:Wl rs){s:Lv}(I:yT rs s)(hr:rs[s.pl]?=some r)(hs:dW r=false):match eW rs r s with
  |.inl s'=>yT rs s'/\s'.dn=s.dn++[BY s.f.ev s.ce s.ct s.pl r]
  |.inr R=>R.1=s.dn++[BY s.f.ev s.ce s.ct s.pl r]/\bX R.2=true/\nG R.2=false:=by
 have B3:=W.ok r (gW hr);have e1:∀d:T,(s.dn++[d]).length=s.dn.length+1:=λd=>by simp
 have NW:=I.ev;have S8:s.ct.is.length<=s.dn.length+1:=Nat.le_succ_of_le I.ct;have all:∀(e':Ev)(ce':Ce)(ct':Ct)(d:T)(p:Nat),p<rs.length->1<=dp (br rs) p->kl e' (100+(s.dn.length+1))->ct'.is.length<=s.dn.length+1->yT rs ⟨s.fs,⟨s.f.call,e'⟩,ce',ct',s.dn++[d],p⟩:=λe' ce' ct' d p h1 h2 h3 h4=>⟨h1,.inl h2,I.fs,I.ca,by rw[e1];exact h3,by rw[e1];exact h4⟩;cases r with
 |df f ps=>obtain⟨h1,h2⟩:=i6 W.B hr rfl I.ins;exact⟨all _ _ _ _ _ h1 h2 (NW.up (IX _)) S8,rfl⟩
 |put x a=>obtain⟨h1,h2⟩:=i6 W.B hr rfl I.ins;exact⟨all _ _ _ _ _ h1 h2 (NW.put x (NW.look B3)) S8,rfl⟩
 |cH x a op b=>
   obtain⟨h1,h2⟩:=i6 W.B hr rfl I.ins;obtain rfl|rfl:=B3.2.1
   exact⟨all _ _ _ _ _ h1 h2 (NW.put x (Hr (op:="plus") (a:=look s.f.ev a) (b:=look s.f.ev b) rfl)) S8,rfl⟩;exact⟨all _ _ _ _ _ h1 h2 (NW.put x (Hr (op:="minus") (a:=look s.f.ev a) (b:=look s.f.ev b) rfl)) S8,rfl⟩
 |new x=>obtain⟨h1,h2⟩:=i6 W.B hr rfl I.ins;exact⟨all _ _ (s.ct.up s.pl) _ _ h1 h2 (NW.put x WA) (mm (m_ s.ct.ks s.ct.is (.inl (s.pl:Int)) (s.ct.get s.pl+1)) (Nat.succ_le_succ I.ct)),rfl⟩
 |iG a=>obtain⟨_,y1,y2⟩:=Ag W.B hr rfl;obtain⟨k,n1,_,n3,n4⟩:=B2 W.B hr rfl;refine⟨all _ _ _ _ _ ?_ ?_ (NW.up (IX _)) S8,rfl⟩;split;rw[n1];exact n3;exact y1;split;rw[n1];exact n4;exact y2
 |iC a=>obtain⟨_,y1,y2⟩:=Ag W.B hr rfl;obtain⟨k,n1,_,n3,n4⟩:=B2 W.B hr rfl;refine⟨all _ _ _ _ _ ?_ ?_ (NW.up (IX _)) S8,rfl⟩;split;rw[n1];exact n3;exact y1;split;rw[n1];exact n4;exact y2
 |fail w=>exact⟨rfl,rfl,rfl⟩
 |give a=>unfold eW;dsimp only;rw[I.ca];exact⟨rfl,by show bX (.tup [.str "done",vT _])=true;simp only[bX,dv,fN,ME],rfl⟩
 |skip=>cases hs
 |jU=>cases hs
 |fin=>cases hs
 |_=>exact B3.elim
inductive NX(rs:qal)(most:Nat):Nat->Lv->Res->Prop
 |fin {s:Lv} {R:Res} (h:i5 rs most s=.inr R):NX rs most 0 s R
 |go {n:Nat} {s s':Lv} {R:Res} (h:i5 rs most s=.inl s') (k:NX rs most n s' R):NX rs most (n+1) s R
theorem o7(W:Wl rs){s:Lv}(I:yT rs s):(∃s',yT rs s'/\s'.dn=s.dn/\∀most,i5 rs most s=.inl s')\/∃r,rs[s.pl]?=some r/\dW r=false/\∀most,i5 rs most s=if most<=s.dn.length then .inr (s.dn,qK) else eW rs r s:=by
 obtain⟨r,hr⟩:∃r,rs[s.pl]?=some r:=⟨_,rq I.pl⟩;by_cases hs:dW r=true
 left
 have hi:1<=dp (br rs) s.pl:=by
  obtain z|⟨f,ps,z⟩:=I.ins
  exact z;rw[hr] at z;cases z;cases hs
 obtain⟨k,h1,h2,h3,h4⟩:=HB W.B hr hs hi;refine⟨{s with pl:=(nR rs s.pl).toNat},⟨?_,?_,I.fs,I.ca,I.ev,I.ct⟩,rfl,λmost=>by unfold i5;rw[hr];dsimp only;rw[if_pos hs]⟩;show (nR rs s.pl).toNat<_;rw[h1];exact h2;show 1<=dp (br rs) (nR rs s.pl).toNat\/_;rw[h1];exact .inl h3;exact .inr ⟨r,hr,by simpa using hs,λmost=>by unfold i5;rw[hr];dsimp only;rw[if_neg hs]⟩
theorem x8(W:Wl rs){most:Nat}{s s':Lv}(I:yT rs s)(hl:s.dn.length<=most)(h:i5 rs most s=.inl s'):yT rs s'/\s'.dn.length<=most/\(dv s.dn=true->dv s'.dn=true):=by
 rcases o7 W I with⟨s2,I2,e2,h2⟩|⟨r,hr,hs,h2⟩
 rw[h2] at h;cases h;rw[e2];exact⟨I2,hl,id⟩;rw[h2] at h;split at h;cases h;have:=lT W I hr hs;rw[h] at this;obtain⟨g1,g2⟩:=this;refine⟨g1,by rw[g2,eC];show _+1<=_;omega,λhi=>?_⟩;rw[g2];exact qM hi (by simp only[dv,Hz,ME])
theorem NX.tells(W:Wl rs){most:Nat}{s:Lv}{R:Res}(h:NX rs most n s R):yT rs s->s.dn.length<=most->dv s.dn=true->dv R.1=true/\bX R.2=true/\nG R.2=false:=by
 induction h with
 |@fin s R h=>
  intro I hl hi;rcases o7 W I with⟨s2,I2,e2,h2⟩|⟨r,hr,hs,h2⟩
  rw[h2] at h;cases h;rw[h2] at h;split at h;cases h;exact⟨hi,rfl,rfl⟩;have:=lT W I hr hs;rw[h] at this;obtain⟨h1,h2,h3⟩:=this;rw[h1];exact⟨qM hi (by simp only[dv,Hz,ME]),h2,h3⟩
 |@go n s s' R h k ih=>intro I hl hi;obtain⟨I',t_,UB⟩:=x8 W I hl h;exact ih I' t_ (UB hi)
end
end Rg
namespace Rg
open PySem L2 VT Gen K5 Lay
open wL (cP)
open Nx (DB)
open Nm (jM BG)
open SY (BJ BI m6)
open mn (Vl vT nm El nS Yt Wh G8 G6 bP RI)
noncomputable def top(i:Nat):Stmt:=PySem.Challenge.pw_slicewise_k14_choices_and_loops.main.body.getD i (.Pass ⟨0,0,0,0⟩)
noncomputable abbrev lU:Stmt:=inClass (top 34) 0
noncomputable abbrev gQ:Stmt:=inClass (top 35) 0
noncomputable abbrev vC:Stmt:=top 36
noncomputable abbrev km:Stmt:=top 37
noncomputable abbrev ng:Stmt:=top 38
noncomputable abbrev fO:Stmt:=top 39
noncomputable abbrev gw:Stmt:=top 40
noncomputable abbrev i7:Stmt:=top 41
noncomputable abbrev gx:Stmt:=top 45
noncomputable abbrev iu:Stmt:=top 42
noncomputable abbrev gy:Stmt:=top 46
noncomputable abbrev eU:Stmt:=top 47
noncomputable abbrev kn:Stmt:=top 49
noncomputable abbrev vD:Stmt:=top 50
noncomputable abbrev gn:Stmt:=top 52
noncomputable abbrev fP:Stmt:=top 51
structure MgR(mg:qae):Prop where
 len:mg "len"=none
 enumerate:mg "enumerate"=none
 tuple:mg "tuple"=none
structure S9(K:qaf)(C:Addr):Prop where
 cl:y9 K C
 HC:bb K C "call"
 lV:bb K C "names"
structure Ah(K:qaf)(C:Addr):Prop where
 cl:y9 K C
 fQ:bb K C "layout"
 HF:bb K C "most"
 vE:bb K C "poke"
 i8:bb K C "frames"
 LH:bb K C "cells"
 lW:bb K C "counts"
 i9:bb K C "doings"
 cN:bb K C "place"
 jy:bb K C "ended"
def HG(C:Addr)(ts:qaj)(q:T->Prop):Prop:=∃t1 t2,ts=[t1,t2]/\q (.ins C qaE [t1,t2])
def WG(cM cF:Addr)(ts:qaj)(q:qam):Prop:=∃a L most pk fs f ce ct dn pl en o n,ts=[.pin a (S7 cM cF L most pk (fs++[f]) ce ct dn pl en),jr o]/\vB o/\kl f.ev n/\n<=1000000/\q (.vw (vT (look f.ev o)))
def RdR(r:Rw):Prop:=Rk r/\dW r=false
def B4(cM cF:Addr)(ts:qaj)(q:qam):Prop:=∃a L most pk fr cs ce ct dn p en e r n,ts=[.pin a (S7 cM cF L most pk fr cs ct dn (.int ((p:Nat):Int)) en),a8 r,.tup ((jI r).map λo=>vT (look e o))]/\RdR r/\(∀o∈jI r,vB o)/\kl e n/\q (.vw (oV (Ht e ce ct p r)))
structure S_(rs:qal)(j:Nat)(r:Rw):Prop where
 B:Bl rs
 at':rs[j]?=some r
 o:NI r=true
def vF(cM cF cL:Addr)(us:qaj)(s:S)(q:S->T->Prop):Prop:=∃rs r j most pk fr ce ct dn u1 u2 u3,us=[u1,u2,u3]/\s=eT cM cF (dm cL rs) most pk fr ce ct dn (.int ((j:Nat):Int)) .aO/\S_ rs j r/\q (eT cM cF (dm cL rs) most pk fr ce ct dn (.int ((j+1:Nat):Int)) .aO) .aO
def mkN:Rw->Str->Prop
 |.put y _,x=>y=x
 |.get y _ _,x=>y=x
 |.cH y _ _ _,x=>y=x
 |.new y,x=>y=x
 |.call y _ _,x=>y=x
 |_,_=>False
def ko(cM cF cL:Addr)(us:qaj)(s:S)(q:S->T->Prop):Prop:=∃rs r j most pk fs f ce ct dn u2 x v,us=[a8 r,u2,vT v]/\bX u2=true/\s=eT cM cF (dm cL rs) most pk (fs++[f]) ce ct dn (.int ((j:Nat):Int)) .aO/\S_ rs j r/\mkN r x/\f.ev.is.length<=1000000/\q (eT cM cF (dm cL rs) most pk (fs++[{f with ev:=f.ev.put x v}]) ce ct dn (.int ((j+1:Nat):Int)) .aO) .aO
theorem HH{o:jT}(h:vB o):Nm.xy (jr o)=false:=by
 cases o with
 |nm x=>have:=wL.rM (wL.ur h.1);show (Txt.startswith x "." && _)=false;rw[this];rfl
 |nu i=>rfl
theorem LI{o:jT}(h:vB o):Nm.zZ (jr o):=by
 cases o with
 |nm x=>exact .inl ⟨x,rfl,h.2⟩
 |nu i=>exact .inr ⟨i,rfl⟩
theorem LJ{o:El}(h:o=.plus\/o=.minus)(a b:Vl):Yt o (nm a) (nm b)=oV ((LG (nS o) a b).map .num):=by obtain rfl|rfl:=h<;>rfl
theorem S_.bh(h:S_ rs j r):nR rs j=((j+1:Nat):Int):=by rw[GZ h.at' h.o];push_cast;rfl
section
variable{cLayout cFrame ar:Addr}
noncomputable abbrev LK:qai:=qaF
theorem x9:aE LK qaF (aj lU):=L2.gB
theorem HI(D:Dc K mg "Frame" "Frame.__init__" lU qaF cFrame f fd)(M:S9 K cFrame):Gi P w K mg base "Frame" cFrame qaF 1 2 (HG cFrame):=by
 refine D.gK (fnI D.F x9 rfl λbz A outer s H E as Ox hr us q hl hG=>?_);have nd:=x9.nd;have bU:=M;refine⟨_,(ah (ie 0 bU.cl bU.HC (aq 1))
  (aw (ie 0 bU.cl bU.lV (aq 2)))),?_⟩
 obtain⟨t1,t2,rfl,hq⟩:=hG;exact⟨rfl,by show 0<1000;decide,rfl,by show 1<1000;decide,hq⟩
noncomputable abbrev Ai:qai:=qaG
theorem nY:aE Ai qaG (aj km):=L2.gB
theorem x_(D:Df K mg "value_of" km qaG f fd)(M:Ah K ar)(M1:S9 K cFrame)(m5:cq P w K mg base "is_name" qav 1 (dO K 1 jM)):cq P w K mg base "value_of" qaG 2 (dO K 2 (WG ar cFrame)):=by
 refine D.gK (oN D.F nY rfl λbz A outer s H E Ox hr ts q hG=>?_);have nd:=nY.nd;have hu:=bx.gq hr;have ag:=M;have bU:=M1;have kE:=lh hu;refine⟨_,(aw (aW (qau (iB (eQ (aP m5 hr (aa (aq 1) ak))) (zQ kE (qas (aZ bU.cl bU.lV (qas (aA (qas (aZ ag.cl ag.i8 (bR (ae 0)))) (qas (pO (qas af))))))) (ae 1) (qat af) ⟨rfl,rfl,rfl,rfl⟩) (VE.vp (aq 1)))))),λ_=>?_⟩;obtain⟨a,L,most,pk,fs,f0,ce,ct,dn,pl,en,o,n,rfl,ho,he,hn,hq⟩:=hG;cases o with
 |nm x=>
  refine⟨rfl,.str x,rfl,rfl,(λy z=>by cases z;have:=ho.2;omega),?_⟩;refine uK (c:=BG (.str x)) ho.1 ?_;have el:jN ((fs++[f0]).map (WC cFrame)) (-1)=some (WC cFrame f0):=by rw[kH];exact L2.pv _ _
  refine⟨rfl,_,rfl,_,el,rfl,_,rfl,?_⟩;show q (.vw ((bC f0.ev.ks f0.ev.ts (.inr x)).getD (.int 0)));rw[Rc];exact hq
 |nu i=>refine⟨rfl,.int i,rfl,rfl,(λy z=>by cases z),?_⟩;exact hq
noncomputable abbrev DJ:qai:=["machine","row","used","word"]
theorem qN:aE DJ qaH (aj ng):=L2.gB
theorem Aj(D:Df K mg "made_by" ng qaH f fd)(M:Ah K ar)(Ak:cq P w K mg base "reckoned" qaC 3 (dO K 3 G8)):cq P w K mg base "made_by" qaH 4 (dO K 3 (B4 ar cFrame)):=by
 refine D.gK (oN D.F qN rfl λbz A outer s H E Ox hr ts q hG=>?_);have nd:=qN.nd;have hu:=bx.gq hr;have np:∀{i:Nat},bG ⟨H,[],Ox⟩ i:=nH;have ag:=M;have kE:=lh hu;have hu3:=Wz hu;refine⟨_,(ah (bq (i:=3) nd rfl (Or.inl rfl) (qau (aA (ae 1) (qas af))) np)
  (ah (bQ (cJ hu (ae 3) (qas aI))
   (aw (aW (qau (aP Ak hr (aa (qat (aA (ae 2) (qas af))) (aa (qat (aA (ae 1) (qas af))) (aa (qat (aA (ae 2) (qas af))) ak)))))))
   aQ)
  (ah (bQ (cJ hu (ae 3) (qas aI))
   (aw (aW (qau (aJ (aa (qat (aZ ag.cl ag.cN (bR (ae 0)))) (aa (qat (zQ kE (qas (aZ ag.cl ag.lW (bR (ae 0)))) (qas (aZ ag.cl ag.cN (bR (ae 0)))) (qat af) ⟨rfl,rfl,rfl,rfl⟩)) ak))))))
   aQ)
  (ah (bQ (cJ hu (ae 3) (qas aI))
   m7
   aQ)
  (ah (bQ (sX (ae 3) (qas (aJ (aa (qat aI) (aa (qat aI) ak)))))
   (aw (aW (qau (iB (cJ hu (qas (aA (ae 2) (qas af))) (qas af)) af af))))
   aQ)
  (aw (aW (qau (iB (sX (ae 3) (qas (aJ (aa (qat aI) (aa (qat aI) (aa (qat aI) ak)))))) (aA (ae 2) (qas (pO (qas af)))) c_))))))))),λ_=>?_⟩
 obtain⟨a,L,most,pk,fr,cs,ce,ct,dn,p,en,e,r,n,rfl,⟨hk,hs⟩,oO,he,hq⟩:=hG;have ch:∀v:Vl,q (.vw (.int (if v=.num 0 then 0 else 1)))->(if decide (v=.num 0)=true then q (.vw (.int 0)) else q (.vw (.int 1))):=λv h=>by by_cases e:v=.num 0;rw[if_pos (decide_eq_true e)];rw[if_pos e] at h;exact h;rw[if_neg (by rw[decide_eq_false e];exact eO)];rw[if_neg e] at h;exact h
 cases r with
 |df f' ps=>exact⟨_,ai (j:=0) rfl,Gen.bJ rfl,rfl,rfl,Gen.bJ rfl,rfl,rfl,hq⟩
 |put x a=>exact⟨_,ai (j:=0) rfl,Gen.bJ rfl,rfl,rfl,Gen.bJ rfl,rfl,rfl,_,rfl,hq⟩
 |give a=>exact⟨_,ai (j:=0) rfl,Gen.bJ rfl,rfl,rfl,Gen.bJ rfl,rfl,rfl,_,rfl,hq⟩
 |fail w=>exact⟨_,ai (j:=0) rfl,Gen.bJ rfl,rfl,rfl,Gen.bJ rfl,rfl,rfl,hq⟩
 |cH x a op b=>
  have h1:=he.look (oO a (by simp[jI]));have h2:=he.look (oO b (by simp[jI]));refine⟨_,ai (j:=0) rfl,_,ai (j:=0) rfl,_,ai (j:=3) rfl,_,ai (j:=1) rfl,rfl,?_⟩;obtain⟨o,ho,rfl⟩:∃o:El,(o=.plus\/o=.minus)/\op=nS o:=by
   obtain rfl|rfl:=hk.2.1
   exact⟨.plus,.inl rfl,rfl⟩;exact⟨.minus,.inr rfl,rfl⟩
  exact⟨_,_,o,ho,rfl,h1,h2,by rw[LJ ho];exact hq⟩
 |new x=>refine⟨_,ai (j:=0) rfl,rfl,_,rfl,rfl,_,rfl,rfl,_,rfl,?_⟩;show [T.int (p:Int),(bC ct.ks ct.ts (.inl (p:Int))).getD (.int 0)].length<=sizeLine/\q (.vw (.tup [T.int (p:Int),(bC ct.ks ct.ts (.inl (p:Int))).getD (.int 0)]));rw[Hs];exact⟨Gen.bJ rfl,hq⟩
 |iG a=>
  refine⟨_,ai (j:=0) rfl,Gen.bJ rfl,rfl,rfl,_,ai (j:=0) rfl,?_⟩;show MY (vT (look e a)) (vT (.num 0)) (λr=>match r with
   |.vw (.bl c)=>(if c=true then q (.vw (.int 0)) else q (.vw (.int 1)))
   |_=>False)
  exact mn.NL (ch _ hq)
 |iC a=>
  refine⟨_,ai (j:=0) rfl,Gen.bJ rfl,rfl,rfl,_,ai (j:=0) rfl,?_⟩;show MY (vT (look e a)) (vT (.num 0)) (λr=>match r with
   |.vw (.bl c)=>(if c=true then q (.vw (.int 0)) else q (.vw (.int 1)))
   |_=>False)
  exact mn.NL (ch _ hq)
 |skip=>cases hs
 |jU=>cases hs
 |fin=>cases hs
 |_=>exact hk.elim
end
end Rg
namespace Rg
open PySem L2 VT Gen K5 Lay
open Nx (DB QT gNo)
open mn (Vl vT nm bP RI)
theorem ya:∀{ρ:En},(ρ.all λe=>match e with|some (_,true)=>false|_=>true)=true->∀e∈ρ,gv e:=λ{ρ} h e he=>by
 have:=Ou.mp h e he
 match e,this with
 |none,_=>trivial
 |some (t,false),_=>cases t<;>trivial
theorem iD{t:T}(h:bX t=true):uV (some (t,false))=some (t,false):=by show (if bX t=true then some (t,false) else none)=_;rw[if_pos h]
theorem Rm(b:Option T):gv (vwO b):=by
 cases b with
 |none=>trivial
 |some t=>cases t<;>trivial
theorem WH{s:S}(h:∀e∈ρ,gv e):∀e∈ll M ρ s,gv e:=λe he=>by
 unfold ll at he;rcases Sz he with z|z
 obtain⟨e0,h0,rfl⟩:=yW.mp z;have:=h e0 h0
 match e0,this with
 |none,_=>trivial
 |some (t,true),q=>exact q
 |some (t,false),_=>show gv (if bX t=true then some (t,false) else none);by_cases hi:bX t=true;rw[if_pos hi];cases t<;>trivial;rw[if_neg hi];trivial
 rw[z];trivial
theorem HJ{d:NC}{ρ':En}{s s':S}(e:s=s')(hρ:ll M ρ s'=ρ')(h:d.nx ρ' s'):d.nx (ll M ρ s) s:=by rw[e,hρ];exact h
theorem WI{F:En->S->Prop}{ρ':En}{s s':S}(e:s=s')(hρ:ll M ρ s'=ρ')(h:F ρ' s'):F (ll M ρ s) s:=by rw[e,hρ];exact h
theorem LL{d:NC}{ρ':En}{s s':S}{t:T}(e:s=s')(hρ:ll M ρ s'=ρ')(h:d.nx (ρ'.set j (some (t,false))) s'):d.nx ((ll M ρ s).set j (some (t,false))) s:=by rw[e,hρ];exact h
theorem WJ{d:NC}{s s':S}(e:s=s')(h:d.nx (ll M ρ s') s'):d.nx (ll M ρ s) s:=by rw[e];exact h
abbrev Rn:=ko
def HK(cM cF cL:Addr)(us:qaj)(s:S)(q:S->T->Prop):Prop:=∃rs r j most pk fs f ce ct dn u2 x v,us=[a8 r,u2,vT v]/\bX u2=true/\s=eT cM cF (dm cL rs) most pk (fs++[f]) ce ct dn (.int ((j:Nat):Int)) .aO/\S_ rs j r/\mkN r x/\f.ev.is.length<=1000000/\ct.is.length<=1000000/\q (eT cM cF (dm cL rs) most pk (fs++[{f with ev:=f.ev.put x v}]) ce (ct.up j) dn (.int ((j+1:Nat):Int)) .aO) .aO
def Am(cM cF cL:Addr)(us:qaj)(s:S)(q:S->T->Prop):Prop:=∃L most pk fr ce ct dn pl w u2 u3,us=[a8 (.fail w),u2,u3]/\s=eT cM cF L most pk fr ce ct dn pl .aO/\q (eT cM cF L most pk fr ce ct dn pl (nX w)) .aO
def vG(cM cF cL:Addr)(us:qaj)(s:S)(q:S->T->Prop):Prop:=∃rs r j most pk fr ce ct dn u1 u2 c,us=[u1,u2,.int c]/\s=eT cM cF (dm cL rs) most pk fr ce ct dn (.int ((j:Nat):Int)) .aO/\Bl rs/\rs[j]?=some r/\GY r=true/\q (eT cM cF (dm cL rs) most pk fr ce ct dn (.int (if c=1 then (j:Int)+1 else vn rs j)) .aO) .aO
def HL(cM cF cL:Addr)(us:qaj)(s:S)(q:S->T->Prop):Prop:=∃rs j f ps gs most pk fr ce ct dn p0 c g,us=[.int ((j:Nat):Int),oT c,g]/\(g=.lst (gs.map vT)\/g=.tup (gs.map vT))/\s=eT cM cF (dm cL rs) most pk fr ce ct dn p0 .aO/\rs[j]?=some (.df f ps)/\ps.length<=100/\fr.length<=1000000 /\
 q (eT cM cF (dm cL rs) most pk (fr++[⟨c,c5 ps gs ps.length⟩]) ce ct dn (.int ((j:Nat):Int)) .aO) .aO
def An(cM cF cL:Addr)(us:qaj)(s:S)(q:S->T->Prop):Prop:=∃rs most pk fs f ce ct dn pl u1 u2 v,us=[u1,u2,vT v]/\s=eT cM cF (dm cL rs) most pk (fs++[f]) ce ct dn pl .aO/\bX u1=true/\bX u2=true/\f.call=none/\q (eT cM cF (dm cL rs) most pk fs ce ct dn pl (tQ v)) .aO
theorem HM(c:Option Nat):bX (oT c)=true:=by cases c<;>rfl
theorem cT(h:rs[j]?=some r):jN (rs.map a8) (j:Int)=some (a8 r):=ai (by rw[jC,h];rfl)
theorem yb(ps:qai)(gs:List Vl):∀k,(c5 ps gs k).is.length<=k
 |0=>cO _
 |k+1=>by have ih:=yb ps gs k;unfold c5;split;have:=m_ (c5 ps gs k).ks (c5 ps gs k).is (.inr ‹Str›) (gs.getD k (.num 0));exact mm this (by omega);omega
section
variable{cLayout cFrame ar:Addr}
noncomputable abbrev qO:qai:=qaI
theorem iE:aE qO qaI (aj fO):=L2.gB
theorem oC(D:Df K mg "follow_plain" fO qaI f fd)(M:Ah K ar)(iw:cq P w K mg base "row_behind" qay 1 (dO K 2 (DB cLayout))):cq P w K mg base "follow_plain" qaI 2 (kf K 3 (vF ar cFrame cLayout)):=by refine D.gK (Je D.F iE rfl (by decide) λbz A outer s H E M0 tF hr us s0 q hG hl=>?_);obtain⟨DK,ni,B5,a0,vH⟩:=M0;have kF:vH=0:=tF;subst kF;have nd:=iE.nd;have ag:=M;refine⟨_,(cn (kc ag.cl ag.cN (λ_=>(qat (aP iw hr (aa (qat (aZ ag.cl ag.fQ (bR (ae 0)))) (aa (qat (aZ ag.cl ag.cN (bR (ae 0)))) ak))))) rfl)),?_⟩;obtain⟨rs,r,j,most,pk,fr,ce,ct,dn,u1,u2,u3,rfl,rfl,h,hq⟩:=hG;rw[ir];refine⟨rfl,_,rfl,rfl,_,rfl,rfl,rs,j,r,rfl,h.B,h.at',rfl,ya rfl,_,_,7,_,rfl,(by show 9<1000;decide),rfl,rfl,?_⟩;rw[h.bh];exact hq
abbrev sh:qai:=qaI
theorem i_:aE sh qaI (aj gw):=L2.gB
theorem qP(D:Df K mg "follow_name" gw qaI f fd)(M:Ah K ar)(M1:S9 K cFrame)(fR:cq P w K mg base "follow_plain" qaI 2 (kf K 3 (vF ar cFrame cLayout))):cq P w K mg base "follow_name" qaI 3 (kf K 3 (ko ar cFrame cLayout)):=by
 refine D.gK (Je D.F i_ rfl (by decide) λbz A outer s H E M0 tF hr us s0 q hG hl=>?_);obtain⟨DK,ni,B5,a0,vH⟩:=M0;have kF:vH=0:=tF;subst kF;have nd:=i_.nd;have hu:=bx.gq hr;have kE:=lh hu;have ag:=M;have bU:=M1;refine⟨_,(cQ (BE kE (kb bU.cl bU.lV (K4 (kb ag.cl ag.i8 (mZ)) VB)) (λ_=>(qas (aA (ae 1) (qas af)))) (λ_=>(aq 3)))
  (cn (gN fR hr (λ_=>(aa (aq 1) (aa (aq 2) (aa (aq 3) ak)))) rfl))),?_⟩
 obtain⟨rs,r,j,most,pk,fs,f0,ce,ct,dn,u2,x,v,rfl,i2,rfl,h,hx,hn,hq⟩:=hG;have hi:=lq r;obtain⟨y,l,er⟩:∃y l,a8 r=.tup (.str y::.str x::l):=by cases r<;>first|exact hx.elim|(cases hx;exact⟨_,_,rfl⟩)
 rw[ir,er];rw[er] at hi;refine⟨⟨_,Hy⟩,_,ai (j:=1) rfl,fN v,ya rfl,_,_,Hy,(by show (f0.ev.ts).length<_;unfold Ev.ts;rw[c6];omega),?_⟩;refine HJ (ρ':=[some (.pin a0 (eT ar cFrame (dm cLayout rs) most pk (fs++[{f0 with ev:=f0.ev.put x v}]) ce ct dn (.int (j:Int)) .aO).t,false),some (.tup (.str y::.str x::l),false),some (u2,false),some (vT v,false)]) (Rj (x:=x) (v:=v)) ?_ ?_;show [_,uV (some (.tup (.str y::.str x::l),false)),uV (some (u2,false)),uV (some (vT v,false))]=_;rw[iD hi,iD i2,iD (fN v)];exact⟨ya rfl,rfl,rs,r,j,most,pk,_,ce,ct,dn,_,_,_,rfl,rfl,h,hq⟩
abbrev yc:qai:=qaI
theorem lY:aE yc qaI (aj i7):=L2.gB
theorem vI(D:Df K mg "follow_do" i7 qaI f fd)(M:Ah K ar)(dC:cq P w K mg base "follow_name" qaI 3 (kf K 3 (ko ar cFrame cLayout))):cq P w K mg base "follow_do" qaI 4 (kf K 3 (Rn ar cFrame cLayout)):=by
 refine D.gK (Je D.F lY rfl (by decide) λbz A outer s H E M0 tF hr us s0 q hG hl=>?_);obtain⟨DK,ni,B5,a0,vH⟩:=M0;have kF:vH=0:=tF;subst kF;have nd:=lY.nd;have ag:=M;refine⟨_,(cn (xu (λ_=>(sY (ae 3) (qas c_)))
  m9
  (cn (gN dC hr (λ_=>(aa (aq 1) (aa (aq 2) (aa (aq 3) ak)))) rfl)))),?_⟩
 obtain⟨rs,r,j,most,pk,fs,f0,ce,ct,dn,u2,x,v,rfl,i2,rfl,h,hx,hn,hq⟩:=hG;have hv:nG (vT v)=false:=by cases v<;>rfl
 refine mU (c:=nG (vT v)) hv ?_;exact⟨ya rfl,rfl,rs,r,j,most,pk,fs,f0,ce,ct,dn,u2,x,v,rfl,i2,rfl,h,hx,hn,hq⟩
abbrev vJ:qai:=qaI
theorem jX:aE vJ qaI (aj iu):=L2.gB
theorem sk(D:Df K mg "follow_new" iu qaI f fd)(M:Ah K ar)(dC:cq P w K mg base "follow_name" qaI 3 (kf K 3 (ko ar cFrame cLayout))):cq P w K mg base "follow_new" qaI 4 (kf K 3 (HK ar cFrame cLayout)):=by
 refine D.gK (Je D.F jX rfl (by decide) λbz A outer s H E M0 tF hr us s0 q hG hl=>?_);obtain⟨DK,ni,B5,a0,vH⟩:=M0;have kF:vH=0:=tF;subst kF;have nd:=jX.nd;have hu:=bx.gq hr;have kE:=lh hu;have ag:=M;refine⟨_,(cQ (BE kE (kb ag.cl ag.lW (mZ)) (λ_=>(qas (aZ ag.cl ag.cN (bR (ae 0))))) (λ_=>(qat (bu (qas (zQ kE (qas (aZ ag.cl ag.lW (bR (ae 0)))) (qas (aZ ag.cl ag.cN (bR (ae 0)))) (qat af) ⟨rfl,rfl,rfl,rfl⟩)) (qas af)))))
  (cn (gN dC hr (λ_=>(aa (aq 1) (aa (aq 2) (aa (aq 3) ak)))) rfl))),?_⟩
 obtain⟨rs,r,j,most,pk,fs,f0,ce,ct,dn,u2,x,v,rfl,i2,rfl,h,hx,hn,hc,hq⟩:=hG;rw[ir];refine⟨rfl,_,rfl,rfl,_,rfl,?_⟩;dsimp only[uQ,fT,fC,Rt.t];rw[Hs];refine⟨⟨_,Hw⟩,rfl,_,rfl,rfl,ya rfl,_,_,Hw,(by show ct.ts.length<_;unfold Ct.ts;rw[c6];omega),?_⟩;refine WI (F:=Gy ⟨DK,ni,B5,a0,0⟩ 3 (ko ar cFrame cLayout) (gh (ow 1) (gh (ow 2) (gh (ow 3) ux))) _) (ρ':=[some (.pin a0 (eT ar cFrame (dm cLayout rs) most pk (fs++[f0]) ce (ct.up j) dn (.int (j:Int)) .aO).t,false),some (a8 r,false),some (u2,false),some (vT v,false)]) (Rh (p:=j)) ?_ ?_;show [_,uV (some (a8 r,false)),uV (some (u2,false)),uV (some (vT v,false))]=_;rw[iD (lq r),iD i2,iD (fN v)];exact⟨ya rfl,rfl,rs,r,j,most,pk,fs,f0,_,_,dn,_,x,v,rfl,i2,rfl,h,hx,hn,hq⟩
abbrev so:qai:=qaI
theorem i':aE so qaI (aj gy):=L2.gB
theorem qQ(D:Df K mg "follow_fail" gy qaI f fd)(M:Ah K ar):cq P w K mg base "follow_fail" qaI 1 (kf K 3 (Am ar cFrame cLayout)):=by refine D.gK (Je D.F i' rfl (by decide) λbz A outer s H E M0 tF hr us s0 q hG hl=>?_);obtain⟨DK,ni,B5,a0,vH⟩:=M0;have kF:vH=0:=tF;subst kF;have nd:=i'.nd;have ag:=M;refine⟨_,(cn (kc ag.cl ag.jy (λ_=>(qat (aJ (aa (qat aI) (aa (qat (aA (ae 1) (qas af))) ak))))) rfl)),?_⟩;obtain⟨L,most,pk,fr,ce,ct,dn,pl,w',u2,u3,rfl,rfl,hq⟩:=hG;exact⟨_,ai (j:=1) rfl,Gen.bJ rfl,rfl,ya rfl,_,_,8,_,rfl,(by show 9<1000;decide),rfl,rfl,hq⟩
noncomputable abbrev oE:qai:=qaI
theorem gR:aE oE qaI (aj eU):=L2.gB
theorem nq(D:Df K mg "follow_choice" eU qaI f fd)(M:Ah K ar)(DN:cq P w K mg base "yes_row" ["place"] 1 (dO K 1 QT))(HN:cq P w K mg base "no_row" qay 1 (dO K 2 (gNo cLayout))):cq P w K mg base "follow_choice" qaI 2 (kf K 3 (vG ar cFrame cLayout)):=by refine D.gK (Je D.F gR rfl (by decide) λbz A outer s H E M0 tF hr us s0 q hG hl=>?_);obtain⟨DK,ni,B5,a0,vH⟩:=M0;have kF:vH=0:=tF;subst kF;have nd:=gR.nd;have hu:=bx.gq hr;have ag:=M;refine⟨_,(cn (kc ag.cl ag.cN (λ_=>(qat (iB (cJ hu (ae 3) (qas af)) (aP DN hr (aa (qat (aZ ag.cl ag.cN (bR (ae 0)))) ak)) (aP HN hr (aa (qat (aZ ag.cl ag.fQ (bR (ae 0)))) (aa (qat (aZ ag.cl ag.cN (bR (ae 0)))) ak)))))) rfl)),?_⟩;obtain⟨rs,r,j,most,pk,fr,ce,ct,dn,u1,u2,c,rfl,rfl,B,dI,hh,hq⟩:=hG;rw[ir];refine gr (λe=>?_) (λe=>?_);have e':c=1:=e;rw[if_pos e'] at hq;exact⟨rfl,_,rfl,rfl,_,rfl,rfl,ya rfl,_,_,7,_,rfl,(by show 9<1000;decide),rfl,rfl,hq⟩;have e':¬ c=1:=e;rw[if_neg e'] at hq;exact⟨rfl,_,rfl,rfl,_,rfl,rfl,rs,j,r,rfl,B,dI,hh,rfl,ya rfl,_,_,7,_,rfl,(by show 9<1000;decide),rfl,rfl,hq⟩
noncomputable abbrev LM:qai:=["machine","place","call","given","names","at","name"]
theorem yd:aE LM qaJ (aj vC):=L2.gB
theorem HP(D:Df K mg "enter" vC qaJ f fd)(M:MgR mg)(M1:Ah K ar)(M2:S9 K cFrame)(M3:QK K cLayout)(LN:Gi P w K mg base "Frame" cFrame qaF 1 2 (HG cFrame)):cq P w K mg base "enter" qaJ 3 (kf K 3 (HL ar cFrame cLayout)):=by
 obtain⟨Yw,WK,LO,LP,LQ,LR⟩:=LN;refine D.gK (Je D.F yd rfl (by decide) λbz A outer s H E M0 tF hr us s0 q hG hl=>?_);obtain⟨DK,ni,B5,a0,vH⟩:=M0;have kF:vH=0:=tF;subst kF;have nd:=yd.nd;have hu:=bx.gq hr;have kE:=lh hu;have ag:=M1;have bU:=M2;have az:=M3;refine⟨_,(cQ (eJ λ_=>(eS (i:=4) nd rfl (Or.inl rfl) (qau Bv) nH))
  (cQ (eJ λ_=>(mJ Ea rfl (Ho (by rfl) M.enumerate (qat (aA (qas (aA (qas (aZ az.cl az.fq (qas (aZ ag.cl ag.fQ (bR (ae 0)))))) (ae 1))) (qas af)))) (pS (n:=2) rfl (cg (bE (i:=5) nd rfl (Or.inl rfl) nH) (cg (bE (i:=6) nd rfl (Or.inl rfl) nH) jk)))
   (aw (uR 4 kE (qat (iB (Fh (ae 5) (qas (bK bM bN (by rfl) M.len wm (a9 (ae 3) bw)))) (aA (ae 3) (ae 5)) af)) (ae 6)))))
  (cQ (K8 (i:=2) (n:=4) (kb ag.cl ag.i8 (mZ)) (QB LO LR (λt1 t2 q hq=>⟨t1,t2,rfl,hq⟩) (hr.mono (by decide)) (by rfl) LP LQ))
  (cn (kc ag.cl ag.cN (λ_=>(aq 1)) rfl))))),?_⟩
 obtain⟨rs,j,f',ps,gs,most,pk,fr,ce,ct,dn,p0,c,g,rfl,hg,rfl,dI,hps,hfr,hq⟩:=hG;rw[ir];refine⟨by rw[ir];rfl,?_⟩;refine⟨rfl,_,rfl,rfl,_,rfl,_,cT dI,_,ai (j:=2) rfl,?_⟩;show pT (eG (ps.map T.str)) _ _ _ [some (.pin a0 (S7 ar cFrame (dm cLayout rs) most pk fr ce ct dn p0 .aO),false),some (.int (j:Int),false),some (oT c,false),some (g,false),some (.dk [] [],true),none,none];refine tD (f:=T.str) (λi ρ=>∃b5 b6,ρ=[some (.pin a0 (S7 ar cFrame (dm cLayout rs) most pk fr ce ct dn p0 .aO),false),some (.int (j:Int),false),some (oT c,false),some (g,false),some (.dk (c5 ps gs i).ks (c5 ps gs i).ts,true),vwO b5,vwO b6]) ⟨none,none,rfl⟩ ?_ ?_
 . rintro i x ρ hx ⟨b5,b6,rfl⟩;have es:c5 ps gs (i+1)=(c5 ps gs i).put x (gs.getD i (.num 0)):=by simp only[c5,hx]
   have MX:((c5 ps gs i).ts).length<16777216:=by have:=yb ps gs i;have:=(eB.mp hx).1;unfold Ev.ts;rw[c6];omega
   rw[es];obtain rfl|rfl:=hg
   all_goals
    refine⟨rfl,rfl,gr (λh=>?_) (λh=>?_)⟩;have h':(i:Int)<((gs.map vT).length:Int):=h;rw[c6] at h';have Ys:i<gs.length:=by omega
    have ev:gs.getD i (.num 0)=gs[i]:=by rw[List.getD,rq Ys];rfl
    refine⟨vT gs[i],ai (by rw[jC,rq Ys];rfl),MX,?_⟩;rw[ev,<- vA];exact⟨some (.int (i:Int)),some (.str x),rfl⟩;have h':¬ ((i:Int)<((gs.map vT).length:Int)):=h;rw[c6] at h';have ev:gs.getD i (.num 0)=.num 0:=by rw[List.getD,Tp (by omega)];rfl
    refine⟨MX,?_⟩;rw[ev,<- vA];exact⟨some (.int (i:Int)),some (.str x),rfl⟩
 rintro ρ ⟨b5,b6,rfl⟩;refine⟨by rw[ir];rfl,?_⟩;refine⟨_,oT c,_,_,Hu,by rw[c6];omega,(λz=>nomatch z),rfl,HM c,rfl,?_,?_,?_⟩;exact fM (f:=vT) fN _;intro e he;simp only[c7,gE,or_false] at he;obtain rfl|rfl|rfl|rfl|rfl|rfl|rfl:=he
 trivial;trivial;cases c<;>trivial;obtain rfl|rfl:=hg<;>trivial
 exact fM (f:=vT) fN _;exact Rm b5;exact Rm b6;have e:S.lst (fr.map (wc cFrame)++[.ins cFrame qaE [.lf (oT c),.dk (c5 ps gs ps.length).ks (c5 ps gs ps.length).ts]])=.lst ((fr++[Fr.mk c (c5 ps gs ps.length)]).map (wc cFrame)):=by rw[kH];rfl
 refine WJ (s':=eT ar cFrame (dm cLayout rs) most pk (fr++[Fr.mk c (c5 ps gs ps.length)]) ce ct dn p0 .aO) (by show S.put _ _ _=_;rw[e];exact Hv) ?_;refine⟨rfl,WH ?_,_,_,7,_,rfl,(by show 9<1000;decide),rfl,rfl,?_⟩;intro e he;simp only[MA,Ep,c7,gE,or_false] at he;obtain rfl|rfl|rfl|rfl|rfl|rfl|rfl:=he
 trivial;trivial;cases c<;>trivial;obtain rfl|rfl:=hg<;>trivial
 trivial;exact Rm b5;exact Rm b6;exact hq
noncomputable abbrev sr:qai:=["machine","row","used","made","call"]
theorem ja:aE sr qaI (aj gx):=L2.gB
theorem qR(D:Df K mg "follow_give" gx qaI f fd)(M:Ah K ar)(M1:S9 K cFrame):cq P w K mg base "follow_give" qaI 4 (kf K 3 (An ar cFrame cLayout)):=by
 refine D.gK (Je D.F ja rfl (by decide) λbz A outer s H E M0 tF hr us s0 q hG hl=>?_);obtain⟨DK,ni,B5,a0,vH⟩:=M0;have kF:vH=0:=tF;subst kF;have nd:=ja.nd;have ag:=M;have bU:=M1;refine⟨_,(cQ (K7 (j:=4) nd rfl (Or.inl rfl) bU.cl bU.HC (kb ag.cl ag.i8 (mZ)))
  (cn (xu (λ_=>(sY (ae 4) (qas c_)))
   (cn (kc ag.cl ag.jy (λ_=>(qat (aJ (aa (qat aI) (aa (aq 3) ak))))) rfl))
   m9))),?_⟩
 obtain⟨rs,most,pk,fs,f0,ce,ct,dn,pl,u1,u2,v,rfl,rfl,i1,i2,hc,hq⟩:=hG;refine⟨fs.map (wc cFrame),qaE,[.lf (oT f0.call),.dk f0.ev.ks f0.ev.ts],0,oT f0.call,(λz=>nomatch z),(by show S.get _ [.fld ar "frames"]=_;rw[Hu,kH];rfl),rfl,rfl,HM _,ya rfl,?_⟩;rw[hc];refine LL (Hv (fr':=fs)) (ρ':=[some (.pin a0 (eT ar cFrame (dm cLayout rs) most pk fs ce ct dn pl .aO).t,false),some (u1,false),some (u2,false),some (vT v,false),none]) ?_ ?_;show [_,uV (some (u1,false)),uV (some (u2,false)),uV (some (vT v,false)),uV none]=_;rw[iD i1,iD i2,iD (fN v)];rfl;exact⟨Gen.bJ rfl,(by show bX (.tup [.str "done",vT v])=true;simp only[bX,dv,fN];rfl),ya rfl,_,_,8,_,rfl,(by show 9<1000;decide),rfl,rfl,hq⟩
end
end Rg
namespace Rg
open PySem L2 VT Gen K5 Lay
open wL (cP)
open Nx (DB)
open Nm (jM BG zZ xy)
open SY (BJ BI m6)
open mn (Vl vT nm bP RI)
structure Ro(K:qaf)(mg:qae):Prop where
 len:mg "len"=none
 tuple:mg "tuple"=none
 Rp:∃a,mg "SILENT"=some (.ref a)/\∀H,dU K H a [.str "else",.str "end",.str "skip"]
noncomputable def Jg(cM cF cL:Addr)(rs:qal)(most:Nat)(s:Lv):S:=eT cM cF (dm cL rs) (most:Int) .aO (s.fs++[s.f]) (.dk [] []) s.ct s.dn (.int ((s.pl:Nat):Int)) .aO
def su(cM cF cL:Addr)(rs:qal)(most:Nat)(q:S->Prop):Lv ⊕ Res->Prop
 |.inl s=>q (Jg cM cF cL rs most s)
 |.inr R=>∀fr ce ct pl,q (eT cM cF (dm cL rs) (most:Int) .aO fr ce ct R.1 pl R.2)
def NY(cM cF cL:Addr)(us:qaj)(st:S)(q:S->T->Prop):Prop:=∃rs r s most,us=[a8 r]/\st=Jg cM cF cL rs most s/\Wl rs/\yT rs s/\rs[s.pl]?=some r/\dW r=false/\s.dn.length<=1000/\su cM cF cL rs most (λs'=>q s' .aO) (eW rs r s)
def NZ(cM cF cL:Addr)(us:qaj)(st:S)(q:S->T->Prop):Prop:=∃rs s most,us=[]/\st=Jg cM cF cL rs most s/\Wl rs/\yT rs s/\s.dn.length<=1000/\su cM cF cL rs most (λs'=>q s' .aO) (i5 rs most s)
theorem qS:∀{l:List jT},(∀o∈l,vB o)->((l.map jr).filter λt=>!xy t)=l.map jr
 |[],_=>rfl
 |o::l,h=>by rw[gA,List.filter_cons_of_pos (by rw[HH (h o dG)];rfl),qS λo ho=>h o (gD _ ho)]
theorem Ao(ok:Rk r):∀o∈jI r,vB o:=by
 intro o ho;cases r with
 |df f ps=>obtain⟨x,hx,rfl⟩:=yW.mp ho;exact ok.2 x hx
 |put x a=>rw[eX.mp ho];exact ok
 |give a=>rw[eX.mp ho];exact ok
 |iG a=>rw[eX.mp ho];exact ok
 |iC a=>rw[eX.mp ho];exact ok
 |cH x a op b=>
  simp only[jI,c7,gE,or_false] at ho;obtain rfl|rfl:=ho
  exact ok.1;exact ok.2.2
 |get x y k=>exact ok.elim
 |set y k a=>exact ok.elim
 |call x f as=>exact ok.elim
 |_=>cases ho
theorem LS(ok:Rk r):(jI r).length<=100:=by
 cases r with
 |df f ps=>rw[jI,c6];have:=ok.1;omega
 |get x y k=>exact ok.elim
 |set y k a=>exact ok.elim
 |call x f as=>exact ok.elim
 |_=>simp[jI]
theorem LU(ok:Rk r)(hd:∀f ps,r≠.df f ps):BI r=(jI r).map jr/\∀t∈m6 r,zZ t:=by
 have ol:∀{o:jT},vB o->zZ (jr o):=λh=>LI h;have one:∀{a:jT},vB a->([jr a].filter λt=>!xy t)=[jr a]:=λh=>qS (l:=[_]) λo ho=>by rw[eX.mp ho];exact h
 cases r with
 |df f ps=>exact absurd rfl (hd f ps)
 |put x a=>exact⟨one ok,λt ht=>by rw[eX.mp ht];exact ol ok⟩
 |give a=>exact⟨one ok,λt ht=>by rw[eX.mp ht];exact ol ok⟩
 |iG a=>exact⟨one ok,λt ht=>by rw[eX.mp ht];exact ol ok⟩
 |iC a=>exact⟨one ok,λt ht=>by rw[eX.mp ht];exact ol ok⟩
 |cH x a op b=>
  refine⟨qS (l:=[a,b]) (Ao (r:=.cH x a op b) ok),λt ht=>?_⟩;simp only[m6,c7,gE,or_false] at ht;obtain rfl|rfl:=ht
  exact ol ok.1;exact ol ok.2.2
 |get x y k=>exact ok.elim
 |set y k a=>exact ok.elim
 |call x f as=>exact ok.elim
 |_=>exact⟨rfl,λt ht=>nomatch ht⟩
theorem cp.up{k k':Nat}(h:cp P w K mg base dS k f fd ps sp)(hk:k<=k'):cp P w K mg base dS k' f fd ps sp :=
 ⟨h.len,λA outer s H args us vs Q E hr e0 hb r I9=>h.run A outer s H args us vs Q E (hr.mono hk) e0 hb r I9⟩
structure Fos(w:World)(K:qaf)(mg:qae):Prop where
 ex:∃(a:Addr)(f1 f2 f3 f4 f5 f6 f7 f8 f9:Addr),mg "FOLLOWERS"=some (.ref a)/\mg "follow_plain"=some (.ref f1)/\mg "follow_give"=some (.ref f2)/\mg "follow_name"=some (.ref f3)/\mg "follow_do"=some (.ref f4)/\mg "follow_new"=some (.ref f5)/\mg "follow_set"=some (.ref f6)/\mg "follow_call"=some (.ref f7)/\mg "follow_fail"=some (.ref f8)/\mg "follow_choice"=some (.ref f9) /\
  ql w K a [("def",.ob f1),("give",.ob f2),("put",.ob f3),("do",.ob f4),("new",.ob f5),("get",.ob f3),("set",.ob f6),("call",.ob f7),("fail",.ob f8),("if",.ob f9),("while",.ob f9)]
theorem kq{k k':Nat}{f1:Addr}(C:cq P w K mg base x ps k sp)(e:mg x=some (.ref f1))(hk:k<=k'):PySem.W.keepIn K (.ref f1)=true/\∃fd ps,Binds K fd ps []/\cp P w K mg base dS k' f1 fd ps sp:=by obtain⟨f,fd,h1,h2,h3,F⟩:=C;cases h1.symm.trans e;exact⟨h2,fd,ps,h3,cp.up F hk⟩
inductive Jh(cM cF cL:Addr)(f1 f2 f3 f4 f5 f6 f7 f8 f9:Addr):Addr->(qaj->S->(S->T->Prop)->Prop)->Prop
 |plain:Jh cM cF cL f1 f2 f3 f4 f5 f6 f7 f8 f9 f1 (vF cM cF cL)
 |give:Jh cM cF cL f1 f2 f3 f4 f5 f6 f7 f8 f9 f2 (An cM cF cL)
 |name:Jh cM cF cL f1 f2 f3 f4 f5 f6 f7 f8 f9 f3 (ko cM cF cL)
 |do_:Jh cM cF cL f1 f2 f3 f4 f5 f6 f7 f8 f9 f4 (Rn cM cF cL)
 |new:Jh cM cF cL f1 f2 f3 f4 f5 f6 f7 f8 f9 f5 (HK cM cF cL)
 |fail:Jh cM cF cL f1 f2 f3 f4 f5 f6 f7 f8 f9 f8 (Am cM cF cL)
 |choice:Jh cM cF cL f1 f2 f3 f4 f5 f6 f7 f8 f9 f9 (vG cM cF cL)
noncomputable abbrev Ta(s:Lv)(r:Rw):T:=.tup ((jI r).map λo=>vT (look s.f.ev o))
noncomputable abbrev Yx(s:Lv)(r:Rw):T:=oV (Ht s.f.ev s.ce s.ct s.pl r)
theorem Ap(s:Lv)(r:Rw):bX (Ta s r)=true:=by simp only[bX];exact fM (f:=λo=>vT (look s.f.ev o)) (λo=>fN _) _
noncomputable def cutD(cM cF cL a0:Addr):FM:=λd ρ st=>∃rs r s most P,ρ=[some (.pin a0 st.t,false),some (a8 r,false),some (P,false),none,none]/\st=Jg cM cF cL rs most s/\(P=.tup ((jI r).map jr)\/P=.lst ((jI r).map jr))/\Wl rs/\yT rs s/\rs[s.pl]?=some r/\dW r=false/\s.dn.length<=1000/\su cM cF cL rs most (λs'=>∀ρ',d.nx ρ' s') (eW rs r s)
noncomputable def acM(cM cF cL a0:Addr):FM:=λd ρ st=>∃rs r s most P,ρ=[some (.pin a0 st.t,false),some (a8 r,false),some (P,false),some (Ta s r,false),none]/\st=Jg cM cF cL rs most s/\Wl rs/\yT rs s/\rs[s.pl]?=some r/\dW r=false/\s.dn.length<=1000/\su cM cF cL rs most (λs'=>∀ρ',d.nx ρ' s') (eW rs r s)
noncomputable abbrev LV(cM cF cL:Addr)(rs:qal)(most:Nat)(s:Lv)(r:Rw):S:=eT cM cF (dm cL rs) (most:Int) .aO (s.fs++[s.f]) (.dk [] []) s.ct (s.dn++[BY s.f.ev s.ce s.ct s.pl r]) (.int ((s.pl:Nat):Int)) .aO
noncomputable abbrev LW(a:Addr)(st:S)(s:Lv)(r:Rw)(x:Option (T×Bool)):En:=[some (.pin a st.t,false),some (a8 r,false),x,some (Ta s r,false),some (Yx s r,false)]
theorem Rq{cM cF cL:Addr}{f1 f2 f3 f4 f5 f6 f7 f8 f9:Addr}{s:Lv}{most:Nat}{q:S->T->Prop}(W:Wl rs)(I:yT rs s)(hr:rs[s.pl]?=some r)(hs:dW r=false)(LX:s.dn.length<=1000)(hq:su cM cF cL rs most (λs'=>q s' .aO) (eW rs r s)) :
  ∃f G,Dh [("def",T.ob f1),("give",.ob f2),("put",.ob f3),("do",.ob f4),("new",.ob f5),("get",.ob f3),("set",.ob f6),("call",.ob f7),("fail",.ob f8),("if",.ob f9),("while",.ob f9)] (wd r)=some (.ob f)/\Jh cM cF cL f1 f2 f3 f4 f5 f6 f7 f8 f9 f G/\G [a8 r,Ta s r,Yx s r] (LV cM cF cL rs most s r) q:=by
 have B3:=W.ok r (gW hr);have hel:s.f.ev.is.length<=1000000:=by have:=I.ev.n;omega
 have at':NI r=true->S_ rs s.pl r:=λh=>⟨W.B,hr,h⟩;have ui:=Ap s r;cases r with
 |skip=>cases hs
 |jU=>cases hs
 |fin=>cases hs
 |df f ps=>exact⟨f1,_,rfl,.plain,rs,_,s.pl,most,.aO,_,_,_,_,_,_,_,rfl,rfl,at' rfl,hq⟩
 |put x a=>exact⟨f3,_,rfl,.name,rs,_,s.pl,most,.aO,s.fs,s.f,_,_,_,_,x,look s.f.ev a,rfl,ui,rfl,at' rfl,rfl,hel,hq⟩
 |new x=>exact⟨f5,_,rfl,.new,rs,_,s.pl,most,.aO,s.fs,s.f,_,_,_,_,x,.rB s.pl (s.ct.get s.pl),rfl,ui,rfl,at' rfl,rfl,hel,by have:=I.ct;omega,hq⟩
 |cH x a op b=>
   have fin:∀v:Int,LG op (look s.f.ev a) (look s.f.ev b)=some v->su cM cF cL rs most (λs'=>q s' .aO) (.inl (lQ s x (.num v) (BY s.f.ev s.ce s.ct s.pl (.cH x a op b)))):=λv hv=>by
    have g_:su cM cF cL rs most (λs'=>q s' .aO) (match LG op (look s.f.ev a) (look s.f.ev b) with
     |none=>.inr (s.dn++[BY s.f.ev s.ce s.ct s.pl (.cH x a op b)],NR)
     |some v=>.inl (lQ s x (.num v) (BY s.f.ev s.ce s.ct s.pl (.cH x a op b)))):=hq
    rw[hv] at g_;exact g_
   obtain⟨v,hv⟩:∃v,LG op (look s.f.ev a) (look s.f.ev b)=some v:=by obtain rfl|rfl:=B3.2.1<;>exact⟨_,rfl⟩
   refine⟨f4,_,rfl,.do_,rs,_,s.pl,most,.aO,s.fs,s.f,_,_,_,_,x,.num v,?_,ui,rfl,at' rfl,rfl,hel,fin v hv⟩;show [a8 (.cH x a op b),Ta s (.cH x a op b),oV ((LG op (look s.f.ev a) (look s.f.ev b)).map .num)]=_;rw[hv];rfl
 |iG a=>obtain⟨k,n1,_,_,_⟩:=B2 W.B hr rfl;refine⟨f9,_,rfl,.choice,rs,_,s.pl,most,.aO,_,_,_,_,_,_,(if look s.f.ev a=.num 0 then 0 else 1),rfl,rfl,W.B,hr,rfl,?_⟩;have g_:q (eT cM cF (dm cL rs) (most:Int) .aO (s.fs++[s.f]) (.dk [] []) s.ct (s.dn++[BY s.f.ev s.ce s.ct s.pl (.iG a)]) (.int (((if look s.f.ev a=.num 0 then (vn rs s.pl).toNat else s.pl+1:Nat)):Int)) .aO) .aO:=hq;by_cases h:look s.f.ev a=.num 0;rw[if_pos h] at g_ ⊢;rw[if_neg (by decide),n1];rw[n1] at g_;exact g_;rw[if_neg h] at g_ ⊢;rw[if_pos rfl];exact g_
 |iC a=>obtain⟨k,n1,_,_,_⟩:=B2 W.B hr rfl;refine⟨f9,_,rfl,.choice,rs,_,s.pl,most,.aO,_,_,_,_,_,_,(if look s.f.ev a=.num 0 then 0 else 1),rfl,rfl,W.B,hr,rfl,?_⟩;have g_:q (eT cM cF (dm cL rs) (most:Int) .aO (s.fs++[s.f]) (.dk [] []) s.ct (s.dn++[BY s.f.ev s.ce s.ct s.pl (.iC a)]) (.int (((if look s.f.ev a=.num 0 then (vn rs s.pl).toNat else s.pl+1:Nat)):Int)) .aO) .aO:=hq;by_cases h:look s.f.ev a=.num 0;rw[if_pos h] at g_ ⊢;rw[if_neg (by decide),n1];rw[n1] at g_;exact g_;rw[if_neg h] at g_ ⊢;rw[if_pos rfl];exact g_
 |fail w=>exact⟨f8,_,rfl,.fail,_,most,.aO,_,_,_,_,_,w,_,_,rfl,rfl,hq _ _ _ _⟩
 |give a=>
   have ed:eW rs (.give a) s=.inr (s.dn++[BY s.f.ev s.ce s.ct s.pl (.give a)],tQ (look s.f.ev a)):=by unfold eW;dsimp only;rw[I.ca]
   rw[ed] at hq;exact⟨f2,_,rfl,.give,rs,most,.aO,s.fs,s.f,_,_,_,_,_,_,look s.f.ev a,rfl,rfl,lq _,ui,I.ca,hq _ _ _ _⟩
 |_=>exact B3.elim
section
variable{cLayout cFrame ar:Addr}
noncomputable abbrev qT:qai:=["machine","row","parts","used","made"]
theorem nZ:aE qT qaK (aj kn):=L2.gB
theorem qU:(qT++(["part"]:qai)).Nodup:=by decide +kernel
theorem ye(D:Df K mg "done_row" kn qaK f fd)(M:Ro K mg)(M1:Ah K ar)(M2:Fos w K mg)(Aq:cq P w K mg base "operands" ["row"] 3 (dO K 1 BJ))(Ar:cq P w K mg base "value_of" qaG 2 (dO K 2 (WG ar cFrame)))(DO:cq P w K mg base "made_by" qaH 4 (dO K 3 (B4 ar cFrame)))(fR:cq P w K mg base "follow_plain" qaI 2 (kf K 3 (vF ar cFrame cLayout)))(dC:cq P w K mg base "follow_name" qaI 3 (kf K 3 (ko ar cFrame cLayout)))(yf:cq P w K mg base "follow_do" qaI 4 (kf K 3 (Rn ar cFrame cLayout)))(sx:cq P w K mg base "follow_give" qaI 4 (kf K 3 (An ar cFrame cLayout)))(vK:cq P w K mg base "follow_new" qaI 4 (kf K 3 (HK ar cFrame cLayout)))(sy:cq P w K mg base "follow_fail" qaI 1 (kf K 3 (Am ar cFrame cLayout)))(oF:cq P w K mg base "follow_choice" qaI 2 (kf K 3 (vG ar cFrame cLayout))):cq P w K mg base "done_row" qaK 5 (kf K 1 (NY ar cFrame cLayout)):=by
 refine D.gK (Je D.F nZ rfl (by decide) λbz A outer s H E M0 tF hr us s0 q hG hl=>?_);obtain⟨DK,ni,B5,a0,vH⟩:=M0;have kF:vH=0:=tF;subst kF;have nd:=nZ.nd;have hu:=bx.gq hr;have ag:=M1;obtain⟨aF,f1,f2,f3,f4,f5,f6,f7,f8,f9,yg,e1,e2,e3,e4,e5,e6,e7,e8,e9,vL⟩:=M2.ex;have yh:∀f' G,Jh ar cFrame cLayout f1 f2 f3 f4 f5 f6 f7 f8 f9 f' G->PySem.W.keepIn K (.ref f')=true/\∃fd ps,Binds K fd ps []/\cp P w K mg base dS 4 f' fd ps (kf K 3 G):=by
  intro f' G h;cases h with
  |plain=>exact kq fR e1 (by decide)
  |give=>exact kq sx e2 (by decide)
  |name=>exact kq dC e3 (by decide)
  |do_=>exact kq yf e4 (by decide)
  |new=>exact kq vK e5 (by decide)
  |fail=>exact kq sy e8 (by decide)
  |choice=>exact kq oF e9 (by decide)
 refine⟨_,(cQ (eJ λ_=>(bq (i:=2) nd rfl (Or.inl rfl) (qau (iB (cJ hu (qas (aA (ae 1) (qas af))) (qas aI)) (aA (ae 1) (qas af)) (aP Aq hr (aa (aq 1) ak)))) nH))
  (Dn.weak (u:=(cutD ar cFrame cLayout a0)) (cQ (eJ λ_=>(bq (i:=3) nd rfl (Or.inl rfl) (qau (ji rJ wU (by rfl) M.tuple k7 (a9 (qas (jm (ts:=["part"]) rfl (by rfl) (pR (aq 2)) (λ_ _ _ _ _ _=>(bE (i:=5) qU rfl (Or.inl rfl) nH)) (λ_ _ _ _ _ _=>jl) (λ_ _ _ _ _ _=>(qat (aP Ar hr (aa (aq 0) (aa (aq 5) ak))))))) bw))) nH))
  (Dn.weak (u:=(acM ar cFrame cLayout a0)) (cQ (eJ λ_=>(bq (i:=4) nd rfl (Or.inl rfl) (qau (aP DO hr (aa (aq 0) (aa (aq 1) (aa (aq 3) ak))))) nH))
  (cQ (eJ λ_=>(bQ (VW.vc (uw (FH (qas (aZ ag.cl ag.vE (bR (ae 0)))) (qas c_)) (oI (cJ hu (qas (aA (qas (aZ ag.cl ag.vE (bR (ae 0)))) (qas af))) (qas (bK bM bN (by rfl) M.len wm (a9 (qas (aZ ag.cl ag.i9 (bR (ae 0)))) bw)))))))
   (aw (bq (i:=4) nd rfl (Or.inl rfl) (qau (aA (qas (aZ ag.cl ag.vE (bR (ae 0)))) (qas af))) nH))
   aQ))
  (cQ (Dq (kb ag.cl ag.i9 (mZ)) (λ_=>(qat (aJ (aa (qat (aZ ag.cl ag.cN (bR (ae 0)))) (aa (aq 3) (aa (aq 4) ak)))))))
  (cn (Hc yh (hr.mono (by decide)) (λ_=>qat (G4 (by rfl) yg vL (qas (aA (ae 1) (qas af))))) (λ_=>(aa (aq 1) (aa (aq 3) (aa (aq 4) ak)))) rfl))))) ?w2)) ?w1)),?main⟩
 case w1=>
  rintro d ρ st ⟨rs,r,s,most,P',rfl,rfl,hP,W,I,dI,hs,LX,hq⟩;have B3:=W.ok r (gW dI);have oO:=Ao B3;have oL:=LS B3;rw[Jg,ir];obtain rfl|rfl:=hP
  all_goals
   refine⟨rfl,by rw[c6];exact Lb (by omega),?_⟩;refine ik (f:=jr) (u:=λo=>vT (look s.f.ev o)) (λo ho k hk=>?_) ?_;exact⟨rfl,a0,_,_,_,s.fs,s.f,_,_,_,_,_,o,_,rfl,oO o ho,I.ev,by omega,hk⟩;exact⟨by rw[ir];rfl,rs,r,s,most,_,by rw[ir];rfl,rfl,W,I,dI,hs,LX,hq⟩
 case w2=>
  rintro d ρ st ⟨rs,r,s,most,P',rfl,rfl,W,I,dI,hs,LX,hq⟩;have B3:=W.ok r (gW dI);have oO:=Ao B3;have rd:RdR r:=⟨B3,hs⟩;have NF:bX (BY s.f.ev s.ce s.ct s.pl r)=true:=by unfold BY;have:=Ap s r;simp only[bX] at this;simp only[bX,dv,this,Af,ME]
  have fol:∀x2:Option (T×Bool),fT (Wg [("def",.ob f1),("give",.ob f2),("put",.ob f3),("do",.ob f4),("new",.ob f5),("get",.ob f3),("set",.ob f6),("call",.ob f7),("fail",.ob f8),("if",.ob f9),("while",.ob f9)] (fT (VT.f2 (E8 1) (fT (fC (.int 0))) X7))) (LW a0 (LV ar cFrame cLayout rs most s r) s r x2) λt=>∃f G,t=.ob f/\Jh ar cFrame cLayout f1 f2 f3 f4 f5 f6 f7 f8 f9 f G/\(gh (ow 1) (gh (ow 3) (gh (ow 4) ux))) (LW a0 (LV ar cFrame cLayout rs most s r) s r x2) λus=>us.length=3/\G us (LV ar cFrame cLayout rs most s r) λs' _=>d.nx (ll ⟨DK,ni,B5,a0,0⟩ (LW a0 (LV ar cFrame cLayout rs most s r) s r x2) s') s':=λx2=>by
   have KH:su ar cFrame cLayout rs most (λs'=>d.nx (ll ⟨DK,ni,B5,a0,0⟩ (LW a0 (LV ar cFrame cLayout rs most s r) s r x2) s') s') (eW rs r s):=by
    cases hd:eW rs r s with
    |inl s'=>rw[hd] at hq;exact hq _
    |inr R=>rw[hd] at hq;exact λfr ce ct pl=>hq fr ce ct pl _
   obtain⟨f',G,h1,h2,h3⟩:=Rq (q:=λs' _=>d.nx (ll ⟨DK,ni,B5,a0,0⟩ (LW a0 (LV ar cFrame cLayout rs most s r) s r x2) s') s') W I dI hs LX KH;obtain⟨l,el⟩:=dj r;unfold LW at h3 ⊢;rw[el] at h3 ⊢;exact⟨_,ai (j:=0) rfl,_,h1,f',G,rfl,h2,rfl,h3⟩
  have acN:∀t,∀x∈LW a0 (LV ar cFrame cLayout rs most s r) s r (uV (some (t,false))),gv x:=λt x hx=>by
   simp only[LW,c7,gE,or_false] at hx;obtain rfl|rfl|rfl|rfl|rfl:=hx
   trivial;exact Rm (some (a8 r));show gv (if bX t=true then some (t,false) else none);split;exact Rm (some t);trivial;trivial;exact Rm (some (Yx s r))
  rw[Jg,ir];refine⟨rfl,a0,_,_,_,_,_,s.ce,s.ct,s.dn,s.pl,_,s.f.ev,r,_,rfl,rd,oO,I.ev,by rw[ir];rfl,?_⟩;refine⟨rfl,_,rfl,by rw[ir];rfl,?_⟩;refine⟨s.dn.map .lf,Hx,by rw[c6];omega,?_⟩;refine⟨rfl,_,rfl,Gen.bJ rfl,NF,ya rfl,?_⟩;refine HJ (ρ':=LW a0 (LV ar cFrame cLayout rs most s r) s r (uV (some (P',false)))) Ri ?_ ?_;show [_,uV (some (a8 r,false)),uV (some (_,false)),uV (some (Ta s r,false)),uV (some (Yx s r,false))]=_;rw[iD (lq r),iD (Ap s r),iD (Af _)];rfl;exact⟨acN _,fol _⟩
 case main=>
  obtain⟨rs,r,s,most,rfl,rfl,W,I,dI,hs,LX,hq⟩:=hG;have B3:=W.ok r (gW dI);have KH:su ar cFrame cLayout rs most (λs'=>∀ρ':En,q s' .aO) (eW rs r s):=by
   cases hd:eW rs r s with
   |inl s'=>rw[hd] at hq;exact λ_=>hq
   |inr R=>rw[hd] at hq;exact λfr ce ct pl _=>hq fr ce ct pl
  by_cases Pf:∃f ps,r=.df f ps;obtain⟨f',ps,rfl⟩:=Pf;exact⟨_,ai (j:=0) rfl,_,ai (j:=2) rfl,rfl,rs,_,s,most,_,rfl,rfl,.inl (by rw[jI,IW];rfl),W,I,dI,hs,LX,KH⟩;obtain⟨l,el⟩:=dj r;have hw:decide (wd r="def")=false:=by cases r<;>first|rfl|exact absurd ⟨_,_,rfl⟩ Pf
  obtain⟨o1,o2⟩:=LU B3 (λf ps z=>Pf ⟨f,ps,z⟩);rw[el];refine⟨_,ai (j:=0) rfl,gr (λh=>absurd h (of_decide_eq_false hw)) (λ_=>?_)⟩;exact⟨rfl,r,by rw[el],o2,rfl,rs,r,s,most,_,by rw[el];rfl,rfl,.inr (congrArg T.lst o1),W,I,dI,hs,LX,KH⟩
noncomputable abbrev HQ:qai:=qaK
theorem B6:aE HQ ["machine"] (aj vD):=L2.gB
theorem LY(D:Df K mg "step" vD ["machine"] f fd)(M:Ro K mg)(M1:Ah K ar)(M2:QK K cLayout)(iw:cq P w K mg base "row_behind" qay 1 (dO K 2 (DB cLayout)))(As:cq P w K mg base "done_row" qaK 5 (kf K 1 (NY ar cFrame cLayout))):cq P w K mg base "step" ["machine"] 6 (kf K 0 (NZ ar cFrame cLayout)):=by
 refine D.gK (Je D.F B6 rfl (by decide) λbz A outer s H E M0 tF hr us s0 q hG hl=>?_);obtain⟨DK,ni,B5,a0,vH⟩:=M0;have kF:vH=0:=tF;subst kF;have nd:=B6.nd;have ag:=M1;have az:=M2;obtain⟨aS,mS,hS⟩:=M.Rp;have HR:∀{H':Hp}{pos},VP (eY dS P w K mg base HQ "step" (aj vD) f bz A outer s H E).pf ⟨H',[],B5⟩ (.Name "SILENT" pos) (fC (.tup [.str "else",.str "end",.str "skip"])):=λ{H' pos}=>hU (by rfl) mS (v:=.ref aS) rfl λH A=>cf (hS H) (aB.cons cS (aB.cons cS (aB.cons cS aB.nil)));refine⟨_,(cQ (eJ λ_=>(bq (i:=1) nd rfl (Or.inl rfl) (qau (aA (qas (aZ az.cl az.fq (qas (aZ ag.cl ag.fQ (bR (ae 0)))))) (qas (aZ ag.cl ag.cN (bR (ae 0)))))) nH))
  (cn (xu (λ_=>(sX (qas (aA (ae 1) (qas af))) (qas HR)))
   (cn (kc ag.cl ag.cN (λ_=>(qat (aP iw hr (aa (qat (aZ ag.cl ag.fQ (bR (ae 0)))) (aa (qat (aZ ag.cl ag.cN (bR (ae 0)))) ak))))) rfl))
   (cn (xu (λ_=>(UP (qas (bK bM bN (by rfl) M.len wm (a9 (qas (aZ ag.cl ag.i9 (bR (ae 0)))) bw))) (qas (aZ ag.cl ag.HF (bR (ae 0))))))
    (cn (kc ag.cl ag.jy (λ_=>(qat (aJ (aa (qat aI) (aa (qat af) ak))))) rfl))
    (cn (gN As hr (λ_=>(aa (aq 1) ak)) rfl))))))),?_⟩
 obtain⟨rs,l,most,rfl,rfl,W,I,LX,hq⟩:=hG;obtain⟨r,dI⟩:∃r,rs[l.pl]?=some r:=⟨_,rq I.pl⟩;unfold i5 at hq;rw[dI] at hq;dsimp only at hq;rw[Jg,ir];refine⟨rfl,_,rfl,rfl,_,rfl,rfl,_,rfl,_,cT dI,by rw[ir];rfl,?_⟩;have acO:dW r=true->1<=dp (br rs) l.pl:=λhs=>by
  obtain z|⟨f,ps,z⟩:=I.ins
  exact z;rw[dI] at z;cases z;cases hs
 have acP:dW r=true->q (eT ar cFrame (dm cLayout rs) (most:Int) .aO (l.fs++[l.f]) (.dk [] []) l.ct l.dn (.int (nR rs l.pl)) .aO) .aO:=λhs=>by obtain⟨k,h1,_,_,_⟩:=HB W.B dI hs (acO hs);rw[if_pos hs] at hq;have g_:q (eT ar cFrame (dm cLayout rs) (most:Int) .aO (l.fs++[l.f]) (.dk [] []) l.ct l.dn (.int (((nR rs l.pl).toNat:Nat):Int)) .aO) .aO:=hq;rw[h1] at g_ ⊢;exact g_
 have acQ:dW r=false->(most:Int)<=(l.dn.length:Int)->q (eT ar cFrame (dm cLayout rs) (most:Int) .aO (l.fs++[l.f]) (.dk [] []) l.ct l.dn (.int ((l.pl:Nat):Int)) qK) .aO:=λh1 h2=>by rw[if_neg (by rw[h1];exact eO),if_pos (by omega)] at hq;exact hq _ _ _ _
 have WL:dW r=false->¬ (most:Int)<=(l.dn.length:Int)->su ar cFrame cLayout rs most (λs'=>q s' .aO) (eW rs r l):=λh1 h2=>by rw[if_neg (by rw[h1];exact eO),if_neg (by omega)] at hq;exact hq
 obtain⟨l',el⟩:=dj r;have hsl:rA (.str (wd r)) [.str "else",.str "end",.str "skip"]=dW r:=by cases r<;>rfl
 rw[el];cases hs:dW r with
 |true=>refine⟨_,ai (j:=0) rfl,rfl,rfl,uK (c:=rA (.str (wd r)) [.str "else",.str "end",.str "skip"]) (hsl.trans hs) ?_⟩;exact⟨rfl,_,rfl,rfl,_,rfl,rfl,rs,l.pl,r,rfl,W.B,dI,rfl,ya rfl,_,_,7,_,rfl,(by show 9<1000;decide),rfl,rfl,acP hs⟩
 |false=>refine⟨_,ai (j:=0) rfl,rfl,rfl,mU (c:=rA (.str (wd r)) [.str "else",.str "end",.str "skip"]) (hsl.trans hs) ?_⟩;refine⟨rfl,_,rfl,rfl,_,rfl,gr (λh=>?_) (λh=>?_)⟩;have h':(most:Int)<=(l.dn.length:Int):=h;refine⟨Gen.bJ rfl,rfl,ya rfl,_,_,8,_,rfl,(by show 9<1000;decide),rfl,rfl,?_⟩;exact acQ hs h';have h':¬ (most:Int)<=(l.dn.length:Int):=h;exact⟨ya rfl,rfl,rs,r,l,most,by rw[el];rfl,rfl,W,I,dI,hs,LX,WL hs h'⟩
end
end Rg
namespace Rg
open PySem L2 VT Gen K5 Lay
open mn (G6 Vl vT nm bP RI)
noncomputable def LZ(ins:qan):List Vl:=ins.map λi=>.num (bP i)
noncomputable def Yy(a:Nat)(ps:qai)(ins:qan):Lv:=⟨[],⟨none,c5 ps (LZ ins) ps.length⟩,⟨[],[]⟩,⟨[],[]⟩,[],a⟩
inductive B7(rs:qal)(ins:qan)(most:Nat):Res->Prop where
 |Rb {a n:Nat} {f:Str} {ps:qai} {R:Res} (h:gP rs=some a) (hd:rs[a]?=some (.df f ps)) (k:NX rs most n (Yy a ps ins) R):B7 rs ins most R
def gPk(ts:qaj)(q:qaj->T->Prop):Prop:=∃rs ins most R,ts=[.lst (rs.map a8),.lst (ins.map .int),.int ((most:Nat):Int),.aO]/\Wl rs/\ins.length<=100/\most<=900/\B7 rs ins most R/\q R.1 R.2
theorem HS(W:Wl rs){a:Nat}{f:Str}(hd:rs[a]?=some (.df f ps))(ins:qan):yT rs (Yy a ps ins):=by have okd:=W.ok _ (gW hd);refine⟨(eB.mp hd).1,.inr ⟨f,ps,hd⟩,rfl,rfl,?_,cO _⟩;refine (B1 ps _ (λv hv=>?_) ps.length).up (by have:=okd.1;show _<=100+0;omega);obtain⟨i,_,rfl⟩:=yW.mp hv;exact Rg.Hq i
def WM(P:Program)(w:World)(K:qaf)(mg:qae)(base:Heap)(C:Addr)(GL:qaj->(T->Prop)->Prop)(k:Nat):Prop :=
 ∃f fd,Mk K C f/\mg "Machine"=some (.ref C)/\Binds K fd qaD []/\cp P w K mg base dS k f fd qaD (spK K C (.dk [] []) GL)
noncomputable def Yz(a:Addr)(most:Nat)(m:T)(s:S):En:=[none,none,some (.int (most:Int),false),some (.aO,false),some (.pin a s.t,false),some (m,false)]
section
variable{cLayout cFrame ar:Addr}
noncomputable abbrev DP:qai:=qaD
theorem Au:aE DP qaD (aj gQ):=L2.gB
theorem Av(D:Dc K mg "Machine" "Machine.__init__" gQ qaD ar f fd)(L:Ah K ar)(HU:Gi P w K mg base "Layout" cLayout qax 2 1 (lF cLayout)):WM P w K mg base ar (lF cLayout) 4:=by obtain⟨WN,Tb,HV,HW,HX,HY⟩:=HU;exact⟨f,fd,D.M,D.m,D.b,fnK D.F Au rfl λbz A outer s H E hr=>Hh (.inl rfl) HV HY (hr.mono (by decide)) (by rfl) HW HX L.cl L.fQ L.HF L.vE L.i8 L.LH L.lW L.i9 L.cN L.jy⟩
noncomputable abbrev jb:qai:=["program","inputs","most","poke","machine","main"]
theorem lZ:aE jb qaL (aj gn):=L2.gB
theorem oG:(jb++(["number"]:qai)).Nodup:=by decide +kernel
theorem vM(D:Df K mg "run_poked" gn qaL f fd)(ag:Ah K ar)(az:QK K cLayout)(DQ:WM P w K mg base ar (lF cLayout) 4)(L0:cq P w K mg base "enter" qaJ 3 (kf K 3 (HL ar cFrame cLayout)))(nV:cq P w K mg base "fit" qaz 1 (dO K 1 G6))(Rr:cq P w K mg base "step" ["machine"] 6 (kf K 0 (NZ ar cFrame cLayout))) :
  cq P w K mg base "run_poked" qaL 7 (S6 K 4 gPk):=by
 obtain⟨Tc,Ru,DR,DS,DT,DU⟩:=DQ;refine D.gK (fnR (GL:=lF cLayout) (cz:=.dk [] []) (j:=4) (C:=ar) D.F lZ rfl (by decide) λbz A outer s H E hr t0 t1 t2 t3 q hG=>?_);have nd:=lZ.nd;obtain⟨rs,ins,most,R,et,W,Td,hmo,hR,hq⟩:=hG;cases et;refine⟨_,λL=>L=dm cLayout rs,Hi (X:=(eY dS P w K mg base jb "run_poked" (aj gn) f bz A outer s H E).pf) (k:=4) nd rfl (Or.inl rfl) DR DU (hr.mono (by decide)) (by rfl) DS DT (λH0 sU Ox a=>(qI (eJ λ_=>(bq (i:=5) nd rfl (Or.inl rfl) (qau (aZ az.cl az.GR (qas (aZ ag.cl ag.fQ (bR (ae 4)))))) nH))
   (qI (xu (λ_=>(sY (ae 5) (qas c_)))
     m9
     (cn (gN L0 hr (λ_=>(aa (aq 5) (aa (qat c_) (aa (qat (jm (ts:=qaz) rfl (by rfl) (pR (aq 1)) (λ_ _ _ _ _ _=>(bE (i:=6) oG rfl (Or.inl rfl) nH)) (λ_ _ _ _ _ _=>jl) (λ_ _ _ _ _ _=>(qat (aP nV hr (aa (aq 6) ak)))))) ak)))) rfl)))
   (qI (Ha Ea (λ_=>(sY (qas (aZ ag.cl ag.jy (bR (ae 4)))) (qas c_)))
     (cn (gN Rr hr (λ_=>ak) rfl)))
   (LF (kb ag.cl ag.i9 (mZ)) (λ_=>(qat (aZ ag.cl ag.jy (bR (ae 4)))))))))),by decide,rfl,rfl,⟨rs,rfl,W.B.W,W.n,rfl⟩,?_⟩
 rintro L rfl H0 sU Ox a;show NO _ _ _ _ [some (.lst (rs.map a8),false),some (.lst (ins.map .int),false),some (.int (most:Int),false),some (.aO,false),some (.pin a (eT ar cFrame (dm cLayout rs) most .aO [] (.dk [] []) ⟨[],[]⟩ [] .aO .aO).t,false),none] (eT ar cFrame (dm cLayout rs) most .aO [] (.dk [] []) ⟨[],[]⟩ [] .aO .aO);rw[ir];refine⟨rfl,_,rfl,rfl,_,rfl,by rw[ir];rfl,?_⟩;cases hR with
 |@Rb a' n f' ps R' h hd k0=>
   rw[h];have okd:=W.ok _ (gW hd);have I0:=HS W hd ins;obtain⟨t1,t3,hN⟩:=k0.tells W I0 (jL _) rfl;refine⟨ya rfl,rfl,Lb (by rw[c6];omega),?_⟩;refine ik (f:=T.int) (u:=λi=>.int (bP i)) (λi _ k hk=>⟨rfl,i,rfl,hk⟩) ?_;refine⟨rfl,rs,a',f',ps,LZ ins,most,.aO,[],_,_,_,_,none,_,rfl,.inl (by unfold LZ;rw[IW];rfl),rfl,hd,by have:=okd.1;omega,by decide,?_⟩;refine⟨λm ρ s=>(∃l,ρ=Yz a most (.int ((a':Nat):Int)) s/\s=Jg ar cFrame cLayout rs most l/\yT rs l/\l.dn.length<=most/\∃m',m=m'+1/\NX rs most m' l R)\/(∃fr ce ct pl,ρ=Yz a most (.int ((a':Nat):Int)) s/\s=eT ar cFrame (dm cLayout rs) most .aO fr ce ct R.1 pl R.2/\m=0),
    ⟨_,.inl ⟨Yy a' ps ins,rfl,rfl,I0,jL _,n,rfl,k0⟩⟩,?_⟩
   rintro m ρ s (⟨l,rfl,rfl,I,hl,m',rfl,hk⟩|⟨fr,ce,ct,pl,rfl,rfl,rfl⟩);unfold Yz Jg;rw[ir];refine⟨rfl,_,rfl,?_⟩;refine⟨ya rfl,rfl,rs,l,most,rfl,rfl,W,I,by omega,?_⟩;cases hk with
   |fin h2=>rw[h2];exact λfr ce ct pl=>⟨0,by omega,.inr ⟨fr,ce,ct,pl,rfl,rfl,rfl⟩⟩
   |@go n' _ s' _ h2 k2=>have hs:=x8 W I hl h2;rw[h2];exact⟨n'+1,by omega,.inl ⟨s',rfl,rfl,hs.1,hs.2.1,n',rfl,k2⟩⟩
   unfold Yz;rw[ir];refine⟨rfl,_,rfl,?_⟩;refine mU (c:=nG R.2) hN ?_;exact⟨R.1,Hx,t1,rfl,_,rfl,t3,hq⟩
noncomputable abbrev WO:qai:=qaM
theorem Rv:aE WO qaM (aj fP):=L2.gB
def acR(ts:qaj)(q:qaj->T->Prop):Prop:=∃rs ins most R,ts=[.lst (rs.map a8),.lst (ins.map .int),.int ((most:Nat):Int)]/\Wl rs/\ins.length<=100/\most<=900/\B7 rs ins most R/\q R.1 R.2
def WQ(P:Program)(w:World)(K:qaf)(mg:qae)(base:Heap):Prop :=
 ∃f fd tk,mg "run"=some (.ref f)/\PySem.W.keepIn K (.ref f)=true/\Binds K fd qaM []/\Binds K fd qaM [.int 200 tk]/\cp P w K mg base dS 8 f fd qaM (S6 K 3 acR)
theorem Rx{tk:Tok}(F:Hj K "run" "run" fP f fd)(m:mg "run"=some (.ref f))(b:Binds K fd qaM [])(b2:Binds K fd qaM [.int 200 tk])(yi:cq P w K mg base "run_poked" qaL 7 (S6 K 4 gPk)):WQ P w K mg base:=by obtain⟨N1,L4,yj,yk,yl,ym⟩:=yi;refine⟨f,fd,tk,m,F.kp,b,b2,acJ F Rv rfl (by decide) λbz A outer s H E Ox hr ts q hG hl=>?_⟩;obtain⟨rs,ins,most,R,rfl,W,Td,hmo,hR,hq⟩:=hG;exact⟨_,_,_,rfl,qJ ym (hr.mono (by decide)) (by rfl) yj yk yl .nil (dts:=[]) (λ_ _=>aB.nil) (aa (aq 0) (aa (aq 1) (aa (aq 2) (aa (qat c_) ak)))),rfl,rs,ins,most,R,rfl,W,Td,hmo,hR,hq⟩
end
end Rg
namespace DV
open PySem L2 VT Gen
open wL (bT CW cP)
def one(c:Nat):Str:=⟨#[c]⟩
theorem empty_eq:(("":String):Str)=⟨#[]⟩:=by decide +kernel
theorem glue:∀l:qao,Txt.join "" (l.map one)=⟨l.toArray⟩
 |[]=>by decide +kernel
 |c::l=>by
  have ih:=glue l;unfold Txt.join at ih ⊢;rw[StrLaws.glued_eq_join] at ih ⊢;cases l with
  |nil=>rfl
  |cons d l=>rw[gA,gA];show one c++(("":String):Str)++Str.join _ (one d::l.map one)=_;rw[gA] at ih;rw[ih,empty_eq];show (⟨(#[c]++#[])++(d::l).toArray⟩:Str)=_;simp
noncomputable def bL(n:Int)(j:Nat):Nat:=rZ (n / (7 * (j:Int)+3))
noncomputable def d_(n:Int):qai:=(List.range 8).map λj=>one (bL n j)
noncomputable def Ry(n:Int)(k:Nat):Str:=⟨((List.range (k+1)).map (bL n)).toArray⟩
noncomputable def sA(n:Int)(p k j:Nat):Nat:=if j=p then rZ (n / 5+(k:Int)) else bL n j
noncomputable def alt(n:Int)(sz p k:Nat):Str:=⟨((List.range sz).map (sA n p k)).toArray⟩
structure o8(m:Nat)(ys:qai):Prop where
 l:ys.length=m
 nd:ys.Nodup
 nm:∀y∈ys,cP y=true
theorem qV(n:Int):(d_ n).length=8:=by simp[d_]
theorem yn(l:qao)(h1:1<=l.length)(h8:l.length<=8)(h:∀c∈l,CW c=true):cP ⟨l.toArray⟩=true:=by
 unfold cP;have e:(⟨l.toArray⟩:Str).length=l.length:=by simp[Str.length]
 rw[e,decide_eq_true (by omega),decide_eq_true (by omega),Tx,Tx];exact Ou.mpr h
theorem Rz(n:Int)(hm:m<=8):o8 m ((List.range m).map (Ry n)):=by
 refine⟨by simp,?_,λy hy=>?_⟩;rw[List.Nodup,List.pairwise_map];refine List.Pairwise.imp_of_mem ?_ (List.nodup_range (n:=m));intro i j hi hj fE e;have e2:(Ry n i).length=(Ry n j).length:=by rw[e]
 simp[Ry,Str.length] at e2;exact fE e2;obtain⟨k,hk,rfl⟩:=yW.mp hy;have zU:=IT.mp hk;refine yn _ (by simp) (by simp;omega) λc hc=>?_;obtain⟨j,_,rfl⟩:=yW.mp hc;exact BF _
theorem RA(n:Int){sz p:Nat}(h1:1<=sz)(h8:sz<=8)(hp:p<sz)(hm:m<=26):o8 m ((List.range m).map (alt n sz p)):=by
 refine⟨by simp,?_,λy hy=>?_⟩;rw[List.Nodup,List.pairwise_map];refine List.Pairwise.imp_of_mem ?_ (List.nodup_range (n:=m));intro i j hi hj fE e;have UB:=IT.mp hi;have Nd:=IT.mp hj;have h2:(List.range sz).map (sA n p i)=(List.range sz).map (sA n p j):=by have:=congrArg (λy:Str=>y.cps.toList) e;exact this
 have h3:=congrArg (λl:qao=>l[p]?) h2;simp only[jC,Tj hp,Tw,Option.some.injEq,sA,if_true] at h3;have h4:=Gz h3;omega;obtain⟨k,hk,rfl⟩:=yW.mp hy;refine yn _ (by simp;omega) (by simp;omega) λc hc=>?_;obtain⟨j,_,rfl⟩:=yW.mp hc;unfold sA;split<;>exact BF _
theorem tR(n:Int){k:Nat}(hk:k<=8):(d_ n).take k=((List.range k).map (bL n)).map one:=by unfold d_;rw[<- List.map_take,List.take_range,Nat.min_eq_left hk,IW];rfl
theorem HZ(n:Int){sz p k:Nat}(hsz:sz<=8)(hp:p<sz):((d_ n).take sz).set p (one (rZ (n / 5+(k:Int))))=((List.range sz).map (sA n p k)).map one:=by
 rw[tR n hsz,IW,IW];refine Tt λi=>?_;rw[Tr,jC,jC];by_cases hi:i<sz;rw[Tj hi];by_cases e:p=i;subst e;rw[if_pos rfl,if_pos (by simpa using hp)];simp[sA];rw[if_neg e];have:¬ i=p:=λz=>e z.symm;simp[sA,this];rw[Tp (by simp;omega)];split;split
 rename_i h1 h2;omega
 rfl;rfl
end DV
namespace jY
open PySem L2 VT Gen DV
open wL (bT)
noncomputable def top(i:Nat):Stmt:=PySem.Challenge.pw_slicewise_k14_choices_and_loops.main.body.getD i (.Pass ⟨0,0,0,0⟩)
noncomputable abbrev nt:Stmt:=top 54
noncomputable abbrev vN:Stmt:=top 55
structure Mg(mg:qae):Prop where
 len:mg "len"=none
 range:mg "range"=none
 tuple:mg "tuple"=none
theorem Lb(h:n<=1000):n<=sizeLine:=Gen.small h
noncomputable abbrev dJ(ys:qai):T:=.lst (ys.map .str)
def B8(ts:qaj)(q:qam):Prop:=∃(ns:qan)(j:Nat),ts=[.lst (ns.map .int),.int (j:Int)]/\q (.vw (.int (ns.getD j 0)))
def vO(ts:qaj)(q:qam):Prop:=∃(c:Int)(m:Nat),ts=[.int c,.int (m:Int)]/\m<=8/\∀ys,o8 m ys->q (.fr (dJ ys))
theorem Aw(f:α->β)(l:List α)(k:Nat)(h:k<=l.length):mF (l.map f) none (some (k:Int))=(l.take k).map f:=by unfold mF;rw[c6,HT.JD,HT.EN,Nat.min_eq_left h,List.drop_zero,Nat.sub_zero,<- List.map_take]
theorem acS(l:qao):((l.map one).map (·.length)).sum=l.length:=by
 induction l with
 |nil=>rfl
 |cons c l ih=>rw[gA,gA,List.sum_cons,ih];show 1+l.length=l.length+1;omega
theorem RB:((("":String):Str)).length=0:=by decide +kernel
theorem N2{l:qao}(h:l.length<=100):((l.map one).map (·.length)).sum+(l.map one).length * ((("":String):Str)).length<=16777216:=by rw[acS,RB];omega
section
noncomputable abbrev DW:qai:=qaN
theorem qW:aE DW qaN (aj nt):=L2.gB
theorem Ax(D:Df K mg "_law_cell_at" nt qaN f fd)(M:Mg mg):cq P w K mg base "_law_cell_at" qaN 1 (dO K 2 B8):=by
 refine D.gK (oN D.F qW rfl λbz A outer s H E Ox hr ts q hG=>?_);have nd:=qW.nd;refine⟨_,(ah (bQ (Fh (ae 1) (qas (bK bM bN (by rfl) M.len wm (a9 (ae 0) bw))))
    (aw (aW (qau (aA (ae 0) (ae 1)))))
    aQ)
   (aw (aW (qau af)))),λ_=>?_⟩
 obtain⟨ns,j,rfl,hq⟩:=hG;refine zt (λh=>?_) (λh=>?_);have h':(j:Int)<((ns.map T.int).length:Int):=of_decide_eq_true h;rw[c6] at h';have hj:j<ns.length:=by omega
 refine⟨.int (ns.getD j 0),ai ?_,hq⟩;rw[jC,rq hj,List.getD,rq hj];rfl;have h':¬ ((j:Int)<((ns.map T.int).length:Int)):=λz=>h (decide_eq_true z);rw[c6] at h';have e:ns.getD j 0=0:=by rw[List.getD,Tp (by omega)];rfl
 rw[e] at hq;exact hq
noncomputable abbrev lV:qai:=["_law_cell","_law_many","_law_letters","_law_number","_law_size","_law_base","_law_names_here","_law_k","_law_here"]
theorem yo:aE lV qaO (aj vN):=L2.gB
theorem yp:((["_law_cell","_law_many","_law_letters","_law_number","_law_size","_law_base","_law_names_here","#_law_k","_law_here"]:qai)++(["_law_k"]:qai)).Nodup:=by decide +kernel
theorem yq:((["_law_cell","_law_many","_law_letters","_law_number","_law_size","_law_base","_law_names_here","#_law_k","_law_here"]:qai)++(["_law_k"]:qai)).Nodup:=by decide +kernel
theorem yr:(["_law_cell","_law_many","_law_letters","_law_number","_law_size","_law_base","_law_names_here","#_law_k","_law_here"]:qai).Nodup:=by decide +kernel
theorem H_(D:Df K mg "_law_names" vN qaO f fd)(M:Mg mg):cq P w K mg base "_law_names" qaO 1 (dO K 2 vO):=by
 refine D.gK (oN D.F yo rfl λbz A outer s H E Ox hr ts q hG=>?_);have nd:=yo.nd;have hu:=bx.gq hr;have np:∀{i:Nat},bG ⟨H,[],Ox⟩ i:=nH;have Te:∀{is:qao},∀i∈is,bG ⟨H,[],Ox⟩ i:=λi _=>nH;refine⟨_,(ah (bq (i:=2) nd rfl (Or.inr rfl) (qau aI) np)
  (ah (bq (i:=3) nd rfl (Or.inr rfl) (qau (bY (qas (Ff (qas (bY (ae 0) (qas (PJ (qas af) (qas af))))) (qas af))) (qas af))) np)
  (ah (bq (i:=4) nd rfl (Or.inl rfl) (qau (bu (qas af) (qas (bY (ae 3) (qas af))))) np)
  (ah (BC 7 "#_law_k" np (bq (i:=5) yr rfl (Or.inr rfl) (qau (jm (ts:=["_law_k"]) rfl (by rfl) (jj (by rfl) M.range (qas af)) (λ_ _ _ _ _ _=>(bE (i:=9) yp rfl (Or.inl rfl) np)) (λ_ _ _ _ _ _=>jl) (λ_ _ _ _ _ _=>(qat (aA (ae 2) (qas (bY (qas (di (ae 3) (qas (bu (qas (Ff (qas af) (ae 9))) (qas af))))) (qas af)))))))) np))
  (ah (bQ (cJ hu (qas (bY (qas (di (ae 3) (qas af))) (qas af))) (qas af))
   (aw (BC 7 "#_law_k" np (aW (qau (jm (ts:=["_law_k"]) rfl (by rfl) (jj (by rfl) M.range (ae 1)) (λ_ _ _ _ _ _=>(bE (i:=9) yq rfl (Or.inl rfl) np)) (λ_ _ _ _ _ _=>jl) (λ_ _ _ _ _ _=>(qat (tu (qas aI) (a9 (qas (kZ (ae 5) oJ (oK (qas (bu (ae 9) (qas af)))))) bw)))))))))
   aQ)
  (ah (eS (i:=6) nd rfl (Or.inl rfl) (qau (dw ak)) np)
  (ah (mJ Ea rfl (jj (by rfl) M.range (ae 1)) (bE (i:=7) nd rfl (Or.inl rfl) np)
   (ah (eS (i:=8) nd rfl (Or.inl rfl) (qau (kZ (ae 5) oJ (oK (ae 4)))) np)
   (ah (mG 8 (qat (aA (ae 2) (qas (bY (qas (bu (qas (di (ae 3) (qas af))) (ae 7))) (qas af))))) (qas (bY (qas (di (ae 3) (qas af))) (ae 4))))
   (oM [8] (aw (bo (dZ 6 sG sH bc bj (aa (qat (tu (qas aI) (a9 (ae 8) bw))) ak)))) Te))))
  (aw (aW (Bh 6 np)))))))))),λ_=>?_⟩
 obtain⟨c,m,rfl,hm,hq⟩:=hG;refine⟨⟨by decide,by decide,by decide⟩,by decide +kernel,.inr ⟨by decide,by decide⟩,by decide,by decide,?_⟩;generalize hn:c % (10:Int) ^ (9:Int).toNat * 48271 % 2147483647=n;have n0:0<=n:=by rw[<- hn];exact IS _ (by decide)
 have n1:n<2147483647:=by rw[<- hn];exact IM _ (by decide)
 obtain⟨sz,esz⟩:=YO (show 0<=1+n % 8 by have:=IS n (show (8:Int)≠0 by decide);omega);have acT:1<=sz:=by have:=IS n (show (8:Int)≠0 by decide);omega
 have RC:sz<=8:=by have:=IM n (show (0:Int)<8 by decide);omega
 refine⟨rfl,by decide,by decide,by rw[j'];exact Lb (by decide),?_⟩;refine nM (u:=λj=>.str (one (bL n j))) (λj hj r hr=>?_) ?_;have hj8:j<8:=hj;rw[Int.zero_add];refine⟨.inl ⟨by decide,by decide⟩,⟨by show (0:Int)<7 * (j:Int)+3;omega,by show 7 * (j:Int)+3<1073741824;omega⟩,by decide,?_⟩;exact⟨jS,_,tw _,hr⟩;have eb:((List.range 8).map λj=>T.str (one (bL n j)))=(d_ n).map T.str:=by unfold d_;rw[IW];rfl
 rw[show (8:Int).toNat=8 from rfl,eb,esz];refine⟨⟨by decide,by decide⟩,by decide,gr (λ_=>?_) (λ_=>?_)⟩;refine⟨rfl,by omega,by omega,by rw[j'];exact Lb (by omega),?_⟩;rw[D'];refine nM (u:=λk=>.str (Ry n k)) (λk hk r hr=>?_) ?_;rw[Int.zero_add];have ec:mF ((d_ n).map T.str) none (some ((k:Int)+1))=(((List.range (k+1)).map (bL n)).map one).map T.str:=by
  have:((k:Int)+1)=((k+1:Nat):Int):=by omega
  rw[this,Aw T.str (d_ n) (k+1) (by rw[qV];omega),tR n (by omega)]
 refine⟨((List.range (k+1)).map (bL n)).map one,?_,N2 (by simp;omega),?_⟩;show [T.lst (mF ((d_ n).map T.str) none (some ((k:Int)+1)))]=_;rw[ec];rw[glue];exact hr;have e2:((List.range m).map λk=>T.str (Ry n k))=((List.range m).map (Ry n)).map T.str:=by rw[IW];rfl
 rw[e2];exact hq _ (Rz n hm);refine⟨Gen.bJ rfl,by omega,by omega,?_⟩;rw[D'];refine qf (λk ρ=>∃b7 b8,ρ=[some (.int c,false),some (.int (m:Int),false),some (.str bT,false),some (.int n,false),some (.int (sz:Int),false),some (.lst ((d_ n).map .str),false),some (.lst (((List.range k).map (alt n sz (n / 24 % (sz:Int)).toNat)).map .str),true),b7,b8]) ⟨_,_,rfl⟩ ?_ ?_;rintro k ρ hk ⟨b7,b8,rfl⟩;rw[Int.zero_add];have ec:mF ((d_ n).map T.str) none (some (sz:Int))=((d_ n).take sz).map T.str:=Aw T.str (d_ n) sz (by rw[qV];exact RC);have p0:0<=n / 24 % (sz:Int):=IS _ (by omega);have p1:n / 24 % (sz:Int)<(sz:Int):=IM _ (by omega);obtain⟨p,ep⟩:=YO p0;have hp:p<sz:=by omega
 have el:(((d_ n).take sz).map T.str).length=sz:=by rw[c6,Tu,qV];omega
 refine⟨⟨by decide,by decide⟩,by decide,jS,_,tw _,⟨by decide,by decide⟩,by show (0:Int)<(sz:Int);omega,p,?_,?_⟩;rw[ep];show v8 (mF ((d_ n).map T.str) none (some (sz:Int))).length _=_;rw[ec,el];unfold v8;rw[if_pos (by omega),if_pos (by omega),D'];have es:(((d_ n).take sz).map T.str).set p (T.str (one (rZ (n / 5+(k:Int)))))=(((List.range sz).map (sA n p k)).map one).map T.str:=by rw[<- HZ n RC hp,List.map_set]
 refine⟨((List.range sz).map (sA n p k)).map one,?_,N2 (by simp;omega),?_,some (.int (k:Int),false),?_⟩;show [T.lst ((mF ((d_ n).map T.str) none (some (sz:Int))).set p (T.str (one (rZ (n / 5+(k:Int))))))]=_;rw[ec,es];rw[c6,c6,Ts,sizeLine_eq];omega;rw[glue];have eA:((List.range (k+1)).map (alt n sz (n / 24 % (sz:Int)).toNat)).map T.str=((List.range k).map (alt n sz (n / 24 % (sz:Int)).toNat)).map T.str++[T.str (alt n sz p k)]:=by rw[List.range_succ,kH,kH,ep];rfl
 rw[eA];exact⟨_,rfl⟩;rintro ρ ⟨b7,b8,rfl⟩;refine hq _ (RA n acT RC ?_ (by omega));have p1:n / 24 % (sz:Int)<(sz:Int):=IM _ (by omega);omega
end
end jY
namespace VT
open PySem PySem.Spec PyProof.Rows L2 PySem.MeetsSeq PySem.SeqAt
end VT
namespace Sm
open PySem L2 VT Gen
noncomputable def top(i:Nat):Stmt:=PySem.Challenge.pw_slicewise_k14_choices_and_loops.main.body.getD i (.Pass ⟨0,0,0,0⟩)
noncomputable abbrev s_same:Stmt:=top 57
structure Ro(mg:qae):Prop where
 isinstance:mg "isinstance"=none
 str:mg "str"=none
 int:mg "int"=none
 bool:mg "bool"=none
 list:mg "list"=none
 tuple:mg "tuple"=none
 len:mg "len"=none
 zip:mg "zip"=none
def Lv:Nat->T->Prop
 |0,_=>False
 |n+1,t=>(∃i,t=.int i)\/(∃x,t=.str x)\/t=.aO\/(∃ts,t=.tup ts/\ts.length<=1000/\∀u∈ts,Lv n u)\/∃ts,t=.lst ts/\ts.length<=1000/\∀u∈ts,Lv n u
def yt(n:Nat)(ts:qaj)(q:qam):Prop:=∃t,ts=[t,t]/\Lv n t/\q (.vw (.bl true))
theorem yu(ts:qaj):zN ts ts=ts.map λu=>.tup [u,u]:=by unfold zN;rw[List.zipWith_self]
section
noncomputable abbrev RD:qai:=["_law_found","_law_due_here","_law_one","_law_other"]
theorem vP:aE RD qaP (aj s_same):=L2.gB
theorem Ia(D:Df K mg "_law_same" s_same qaP f fd):cq P w K mg base "_law_same" qaP 1 (dO K 2 (yt 0)) :=
 D.gK (oN D.F vP rfl λbz A outer s H E Ox hr ts q hG=>by obtain⟨_,_,h,_⟩:=hG;exact h.elim)
theorem gS{d:Nat}(D:Df K mg "_law_same" s_same qaP f fd)(M:Ro mg)(C:cq P w K mg base "_law_same" qaP d (dO K 2 (yt n))):cq P w K mg base "_law_same" qaP (d+1) (dO K 2 (yt (n+1))):=by
 obtain⟨acU,YA,RE,k_same,RF,RG⟩:=C;refine D.gK (oN D.F vP rfl λbz A outer s H E Ox hr ts q hG=>?_);have nd:=vP.nd;have hu:=bx.gq hr;have np:∀{i:Nat},bG ⟨H,[],Ox⟩ i:=nH;refine⟨_,(ah (bQ (VW.vc (Bc (eQ (cv ic (by rfl) M.isinstance (by rfl) M.tuple k7 (ae 1))) (uv (eQ (cv mT (by rfl) M.isinstance (by rfl) M.list qe (ae 1))))))
    (ah (bQ (VW.vc (Bc (nF hu (qas (cv ic (by rfl) M.isinstance (by rfl) M.tuple k7 (ae 0))) (qas (cv ic (by rfl) M.isinstance (by rfl) M.tuple k7 (ae 1)))) (uv (nF hu (qas (cv mT (by rfl) M.isinstance (by rfl) M.list qe (ae 0))) (qas (cv mT (by rfl) M.isinstance (by rfl) M.list qe (ae 1)))))))
      (aw (aW (qau jP)))
      aQ)
    (ah (bQ (nF hu (qas (bK bM bN (by rfl) M.len wm (a9 (ae 0) bw))) (qas (bK bM bN (by rfl) M.len wm (a9 (ae 1) bw))))
      (aw (aW (qau jP)))
      aQ)
    (ah (mJ Ea rfl (Qg (by rfl) M.zip (aq 0) (aq 1)) (pS (n:=2) rfl (cg (bE (i:=2) nd rfl (Or.inl rfl) np) (cg (bE (i:=3) nd rfl (Or.inl rfl) np) jk)))
      (aw (bQ (pK (eQ (Bn RG (hr.mono (by omega)) (by rfl) RE k_same RF (aa (aq 2) (aa (aq 3) ak)))))
        (aw (aW (qau jP)))
        aQ)))
    (aw (aW (qau jP))))))
    aQ)
   (ah (bQ (VW.vc (Bc (eQ (cv eF (by rfl) M.isinstance (by rfl) M.str nI (ae 1))) (uv (sY (ae 1) (qas c_)))))
     (aw (aW (qau (pL (Fg hu (qas (cv eF (by rfl) M.isinstance (by rfl) M.str nI (ae 0))) (qas (cv eF (by rfl) M.isinstance (by rfl) M.str nI (ae 1)))) (zz (Fg hu (ae 0) (ae 1)))))))
     aQ)
   (aw (aW (qau (pL (cv Fz (by rfl) M.isinstance (by rfl) M.int Nj (ae 0)) (pL (Pq (cv C0 (by rfl) M.isinstance (by rfl) M.bool P_ (ae 0))) (zz (Fg hu (ae 0) (ae 1)))))))))),λ_=>?_⟩
 obtain⟨t,rfl,hL,hq⟩:=hG;obtain⟨i,rfl⟩|⟨x,rfl⟩|rfl|⟨l,rfl,hll,hl⟩|⟨l,rfl,hll,hl⟩:=hL
 . repeat refine⟨rfl,?_⟩
   show q (.vw (.bl (decide (i=i))));rw[decide_eq_true rfl];exact hq
 . repeat refine⟨rfl,?_⟩
   show q (.vw (.bl (decide (x=x))));rw[decide_eq_true rfl];exact hq
 . repeat refine⟨rfl,?_⟩
   refine⟨jL _,?_⟩;show q (.vw (.bl (eqT .aO .aO)));rw[pM _ rfl];exact hq
 . repeat refine⟨rfl,?_⟩
   refine mU (c:=!decide ((l.length:Int)=(l.length:Int))) (by simp) ?_;refine⟨λ_ ρ=>∃b2 b3,ρ=[some (.tup l,false),some (.tup l,false),b2,b3],⟨_,_,rfl⟩,λi t ρ' ht hp=>?_,λρ' hp=>?_⟩;obtain⟨b2,b3,rfl⟩:=hp;rw[yu,jC] at ht;cases e:l[i]? with
   |none=>rw[e] at ht;cases ht
   |some u=>rw[e] at ht;cases ht;exact⟨rfl,rfl,rfl,u,rfl,hl u (gW e),_,_,rfl⟩
   obtain⟨b2,b3,rfl⟩:=hp;exact hq
 . repeat refine⟨rfl,?_⟩
   refine mU (c:=!decide ((l.length:Int)=(l.length:Int))) (by simp) ?_;refine⟨λ_ ρ=>∃b2 b3,ρ=[some (.lst l,false),some (.lst l,false),b2,b3],⟨_,_,rfl⟩,λi t ρ' ht hp=>?_,λρ' hp=>?_⟩;obtain⟨b2,b3,rfl⟩:=hp;rw[yu,jC] at ht;cases e:l[i]? with
   |none=>rw[e] at ht;cases ht
   |some u=>rw[e] at ht;cases ht;exact⟨rfl,rfl,rfl,u,rfl,hl u (gW e),_,_,rfl⟩
   obtain⟨b2,b3,rfl⟩:=hp;exact hq
theorem L5(D:Df K mg "_law_same" s_same qaP f fd)(M:Ro mg):cq P w K mg base "_law_same" qaP 7 (dO K 2 (yt 6)):=gS D M (gS D M (gS D M (gS D M (gS D M (gS D M (Ia D))))))
end
end Sm
namespace Rg
open PySem L2 VT Gen K5 Lay
namespace Dk
theorem WR{α:Type}{k:Key}{v:α}:∀(ks:List Key)(is:List α),ks.length=is.length->jH ks k=true->bC ks (List.zipWith (λa t=>if a=k then v else t) ks is) k=some v
 |[],is,_,h=>by simp[jH] at h
 |a::ks,[],l,_=>by simp at l
 |a::ks,i::is,l,h=>by simp only[XD,bC];by_cases e:a=k;rw[if_pos e,if_pos e];rw[if_neg e];refine WR ks is (by simpa using l) ?_;simp only[jH,Es,decide_eq_false e,Bool.false_or] at h;exact h
theorem N3{α:Type}{k k':Key}{v:α}(hk:k'≠k):∀(ks:List Key)(is:List α),bC ks (List.zipWith (λa t=>if a=k then v else t) ks is) k'=bC ks is k'
 |[],is=>by cases is<;>rfl
 |a::ks,[]=>rfl
 |a::ks,i::is=>by simp only[XD,bC];by_cases e:a=k';rw[if_pos e,if_pos e,if_neg (λz=>hk (e.symm.trans z))];rw[if_neg e,if_neg e];exact N3 hk ks is
theorem WS{α:Type}{k:Key}{v:α}:∀(ks:List Key)(is:List α),ks.length=is.length->jH ks k=false->bC (ks++[k]) (is++[v]) k=some v
 |[],[],_,_=>by simp[bC]
 |[],i::is,l,_=>by simp at l
 |a::ks,[],l,_=>by simp at l
 |a::ks,i::is,l,h=>by simp only[jH,Es,Bool.or_eq_false_iff,decide_eq_false_iff_not] at h;simp only[Jk,bC,if_neg h.1];exact WS ks is (by simpa using l) h.2
theorem N4{α:Type}{k k':Key}{v:α}(hk:k'≠k):∀(ks:List Key)(is:List α),ks.length=is.length->bC (ks++[k]) (is++[v]) k'=bC ks is k'
 |[],[],_=>by simp only[MC,bC];rw[if_neg (λz=>hk z.symm)]
 |[],i::is,l=>by simp at l
 |a::ks,[],l=>by simp at l
 |a::ks,i::is,l=>by simp only[Jk,bC];rw[N4 hk ks is (by simpa using l)]
theorem WT{is:List α}{k:Key}{v:α}(l:ks.length=is.length):bC (dP ks k) (bH ks is k v) k=some v:=by
 unfold dP bH;cases h:jH ks k with
 |true=>rw[if_pos rfl,if_pos rfl];exact WR ks is l h
 |false=>rw[if_neg eO,if_neg eO];exact WS ks is l h
theorem putN{is:List α}{k k':Key}{v:α}(l:ks.length=is.length)(hk:k'≠k):bC (dP ks k) (bH ks is k v) k'=bC ks is k':=by
 unfold dP bH;cases h:jH ks k with
 |true=>rw[if_pos rfl,if_pos rfl];exact N3 hk ks is
 |false=>rw[if_neg eO,if_neg eO];exact N4 hk ks is l
theorem putL{is:List α}{k:Key}{v:α}(l:ks.length=is.length):(dP ks k).length=(bH ks is k v).length:=by
 unfold dP bH;cases h:jH ks k with
 |true=>rw[if_pos rfl,if_pos rfl,XH];omega
 |false=>rw[if_neg eO,if_neg eO];simp[l]
end Dk
namespace Ck
end Ck
end Rg
namespace Rg
open PySem L2 VT Gen K5 Lay
open mn (Vl vT)
def Ev.L(e:Ev):Prop:=e.ks.length=e.is.length
theorem Ev.L.put{e:Ev}(h:e.L)(x:Str)(v:Vl):(e.put x v).L:=Dk.putL h
theorem Ev.L.get{e:Ev}(h:e.L)(x:Str)(v:Vl):(e.put x v).get x=v:=by unfold Ev.get Ev.put;rw[Dk.WT h];rfl
theorem Ev.L.ne{e:Ev}(h:e.L)(hy:y≠x)(v:Vl):(e.put x v).get y=e.get y:=by unfold Ev.get Ev.put;rw[Dk.putN h (λz=>hy (Sum.inr.inj z))]
theorem Ib(ps:qai)(gs:List Vl):∀k,(c5 ps gs k).L
 |0=>rfl
 |k+1=>by have ih:=Ib ps gs k;unfold c5;split;exact ih.put _ _;exact ih
end Rg
namespace cc
open PySem L2 VT Gen Rg Lay K5
open mn (Vl vT nm bP RI)
abbrev Fn:=Str->Vl
def o9(φ:Fn)(x:Str)(v:Vl):Fn:=λy=>if y=x then v else φ y
def val(φ:Fn):jT->Vl
 |.nm x=>φ x
 |.nu i=>.num i
noncomputable def dD(φ:Fn):Rw->Vl
 |.put _ a=>val φ a
 |.cH _ a op b=>.num (if op="plus" then bP (nm (val φ a)+nm (val φ b)) else bP (nm (val φ a)-nm (val φ b)))
 |_=>.num 0
noncomputable def yw(φ:Fn):Rw->qaj
 |.put _ a=>[vT (val φ a)]
 |.cH _ a _ b=>[vT (val φ a),vT (val φ b)]
 |_=>[]
def yO:Rw->Str
 |.put x _=>x
 |.cH x _ _ _=>x
 |_=>Str.empty
noncomputable def jZ(φ:Fn)(p:Nat)(r:Rw):T:=.tup [.int (p:Int),.tup (yw φ r),vT (dD φ r)]
structure St where
 φ:Fn
 dn:qaj
noncomputable def note(p:Nat)(r:Rw)(s:St):St:=⟨o9 s.φ (yO r) (dD s.φ r),s.dn++[jZ s.φ p r]⟩
def RH:Rw->Prop
 |.put _ _=>True
 |.cH _ _ op _=>op="plus"\/op="minus"
 |_=>False
noncomputable def bp(p:Nat)(v:Vl):T:=.tup [.int (p:Int),.tup [vT v],.int (if v=.num 0 then 0 else 1)]
noncomputable def B9(p:Nat):T:=.tup [.int (p:Int),.tup [],.aO]
noncomputable def cx:qal->Nat->St->St×Bool
 |[],_,s=>(s,true)
 |.fail _::_,p,s=>(⟨s.φ,s.dn++[B9 p]⟩,false)
 |r::l,p,s=>cx l (p+1) (note p r s)
structure N5 where
 (i j s t r:Str)
structure Sh where
 a:Nat
 c0:Nat
 c1:Nat
 op:jT
 (b1 b2 e1 e2 b4:Bool)
section
variable(N:N5)(h:Sh)
noncomputable def dX:qal:=(if h.b1=true then [.cH N.s (.nm N.s) "plus" (.nm N.j)] else [])++(if h.b2=true then [.fail N.t] else [])
noncomputable def gb:qal:=if h.e2=true then [.cH N.s (.nm N.i) "minus" (.nm N.s)] else []
noncomputable def gc:qal:=if h.e1=true then .jU::gb N h else []
noncomputable def du:qal:=if h.b4=true then [.put N.t (.nm N.s)] else []
noncomputable def n_:qal:=dX N h++(gc N h++(.fin::(du N h++[.fin,.skip,.fin,.give (.nm N.s)])))
noncomputable def qX:qal:=.df N.s [N.t]::.new N.r::.put N.i (.nu h.c0)::.iC (.nm N.i)::.cH N.i (.nm N.i) "minus" (.nu 1)::.put N.j (.nu h.c1)::.iC (.nm N.j)::.cH N.j (.nm N.j) "minus" (.nu 1)::.iG h.op::n_ N h
noncomputable def ay:qal:=List.replicate h.a .skip++qX N h
noncomputable def ny:Nat:=(dX N h).length
noncomputable def nz:Nat:=(gc N h).length
noncomputable def E1:Nat:=h.a+9+ny N h+nz N h
noncomputable def E2:Nat:=E1 N h+1+(du N h).length
noncomputable def side(s:St):St×Bool :=
 if val s.φ h.op=.num 0 then cx (if h.e1=true then gb N h else []) (h.a+9+ny N h+1) ⟨s.φ,s.dn++[bp (h.a+8) (val s.φ h.op)]⟩
 else cx (dX N h) (h.a+9) ⟨s.φ,s.dn++[bp (h.a+8) (val s.φ h.op)]⟩
noncomputable def inner:Nat->St->St×Bool
 |0,s=>(⟨s.φ,s.dn++[bp (h.a+6) (.num 0)]⟩,true)
 |m+1,s=>match side N h (note (h.a+7) (.cH N.j (.nm N.j) "minus" (.nu 1)) ⟨s.φ,s.dn++[bp (h.a+6) (.num ((m+1:Nat):Int))]⟩) with
  | (s2,false)=>(s2,false)
  | (s2,true)=>inner m (cx (du N h) (E1 N h+1) s2).1
noncomputable def outer:Nat->St->St×Bool
 |0,s=>(⟨s.φ,s.dn++[bp (h.a+3) (.num 0)]⟩,true)
 |n+1,s=>match inner N h h.c1 (note (h.a+5) (.put N.j (.nu h.c1)) (note (h.a+4) (.cH N.i (.nm N.i) "minus" (.nu 1)) ⟨s.φ,s.dn++[bp (h.a+3) (.num ((n+1:Nat):Int))]⟩)) with
  | (s2,false)=>(s2,false)
  | (s2,true)=>outer n s2
noncomputable def φ0(v:Int):Fn:=o9 (o9 (λ_=>.num 0) N.t (.num v)) N.r (.rB ((h.a+1:Nat):Int) 0)
noncomputable def Ay(v:Int):qaj:=[.tup [.int (h.a:Int),.tup [.int v],.aO],.tup [.int ((h.a+1:Nat):Int),.tup [],vT (.rB ((h.a+1:Nat):Int) 0)]]
noncomputable def fS(v:Int):Res:=match outer N h h.c0 (note (h.a+2) (.put N.i (.nu h.c0)) ⟨φ0 N h v,Ay h v⟩) with
 | (s,false)=>(s.dn,nX N.t)
 | (s,true)=>(s.dn++[.tup [.int ((E2 N h+3:Nat):Int),.tup [vT (s.φ N.s)],vT (s.φ N.s)]],tQ (s.φ N.s))
end
theorem gd{N:N5}{h:Sh}(k:Nat):(ay N h)[h.a+k]?=(qX N h)[k]?:=by unfold ay;rw[sF (by rw[yU];omega),yU,Nat.add_sub_cancel_left]
theorem acV{N:N5}{h:Sh}(k:Nat):(ay N h).drop (h.a+k)=(qX N h).drop k:=by unfold ay;rw[List.drop_append,List.drop_eq_nil_of_le (by rw[yU];omega),yU,Nat.add_sub_cancel_left,MC]
theorem RJ{N:N5}{h:Sh}(k:Nat):(ay N h).drop (h.a+9+k)=(n_ N h).drop k:=by rw[Nat.add_assoc,acV,Nat.add_comm 9 k];rfl
theorem WU{DX:qal}(e:rs.map aX=DX.map aX):br rs=br DX:=by
 funext k;have:=congrArg (λl=>l[k]?) e;simp only[jC] at this;unfold br;cases h1:rs[k]? with
 |none=>
  rw[h1] at this;cases h2:DX[k]? with
  |none=>rfl
  |some r=>rw[h2] at this;cases this
 |some r=>
  rw[h1] at this;cases h2:DX[k]? with
  |none=>rw[h2] at this;cases this
  |some r'=>rw[h2] at this;exact Option.some.inj this
noncomputable def N0:N5:=⟨"a","a","a","a","a"⟩
def o_(a:Nat)(b1 b2 e1 e2 b4:Bool):Sh:=⟨a,0,0,.nu 0,b1,b2,e1,e2,b4⟩
abbrev Sh.o_(h:Sh):Sh:=cc.o_ h.a h.b1 h.b2 h.e1 h.e2 h.b4
section
variable(N:N5)(h:Sh)
theorem N6:(dX N h).map aX=(dX N0 h.o_).map aX:=by obtain⟨a,c0,c1,op,b1,b2,e1,e2,b4⟩:=h;cases b1<;>cases b2<;>rfl
theorem WV:(dX N h).map wd=(dX N0 h.o_).map wd:=by obtain⟨a,c0,c1,op,b1,b2,e1,e2,b4⟩:=h;cases b1<;>cases b2<;>rfl
theorem N7:(gc N h).map aX=(gc N0 h.o_).map aX:=by obtain⟨a,c0,c1,op,b1,b2,e1,e2,b4⟩:=h;cases e1<;>cases e2<;>rfl
theorem WW:(gc N h).map wd=(gc N0 h.o_).map wd:=by obtain⟨a,c0,c1,op,b1,b2,e1,e2,b4⟩:=h;cases e1<;>cases e2<;>rfl
theorem N8:(du N h).map aX=(du N0 h.o_).map aX:=by obtain⟨a,c0,c1,op,b1,b2,e1,e2,b4⟩:=h;cases b4<;>rfl
theorem WX:(du N h).map wd=(du N0 h.o_).map wd:=by obtain⟨a,c0,c1,op,b1,b2,e1,e2,b4⟩:=h;cases b4<;>rfl
theorem Az:(ay N h).map aX=(ay N0 h.o_).map aX:=by unfold ay qX n_;simp only[kH,gA,N6 N h,N7 N h,N8 N h];rfl
theorem RL:(ay N h).map wd=(ay N0 h.o_).map wd:=by unfold ay qX n_;simp only[kH,gA,WV N h,WW N h,WX N h];rfl
theorem RM:(ay N h).length=(ay N0 h.o_).length:=by
 have:=congrArg List.length (Az N h)
 rwa [c6,c6] at this
theorem WY:ny N h=ny N0 h.o_:=by
 have:=congrArg List.length (N6 N h)
 rwa [c6,c6] at this
theorem acW:nz N h=nz N0 h.o_:=by
 have:=congrArg List.length (N7 N h)
 rwa [c6,c6] at this
theorem WZ:E1 N h=E1 N0 h.o_:=by unfold E1;rw[WY,acW];rfl
theorem acX:E2 N h=E2 N0 h.o_:=by have:=congrArg List.length (N8 N h);rw[c6,c6] at this;unfold E2;rw[WZ,this]
end
theorem N9:∀{rs DX:qal}(o:Option (qai)),rs.map wd=DX.map wd->wa o rs=wa o DX
 |[],[],o,_=>rfl
 |[],_::_,o,e=>by cases e
 |_::_,[],o,e=>by cases e
 |r::rs,r0::DX,o,e=>by
  simp only[gA,List.cons.injEq] at e;have hs:u_ o r=u_ o r0:=by unfold u_;rw[e.1]
  show wa (u_ o r) rs=wa (u_ o r0) DX;rw[hs];exact N9 _ e.2
theorem W0:∀{rs DX:qal}(d:Nat),rs.map aX=DX.map aX->dr d rs=dr d DX
 |[],[],d,_=>rfl
 |[],_::_,d,e=>by cases e
 |_::_,[],d,e=>by cases e
 |r::rs,r0::DX,d,e=>by simp only[gA,List.cons.injEq] at e;simp only[dr,e.1,W0 _ e.2]
noncomputable def W2(a:Nat)(b1 b2 e1 e2 b4:Bool):Bool :=
 let h:=o_ a b1 b2 e1 e2 b4
 let rs:=ay N0 h
 let kd:=br rs
 let n:=rs.length
 decide (dr 0 rs=some 0) && decide (wa (some []) rs=some []) && decide (n<=100) && decide (n=E2 N0 h+4) && decide (endsAt kd n (a+3)=some (E2 N0 h+2)) && decide (endsAt kd n (a+6)=some (E2 N0 h)) && decide (endsAt kd n (a+8)=some (E1 N0 h)) && decide (Ly kd n (a+8)=if e1=true then some (a+9+ny N0 h) else none) && decide (jx kd (E1 N0 h)=some (a+8)) && decide (jx kd (E2 N0 h)=some (a+6)) && decide (jx kd (E2 N0 h+2)=some (a+3)) && (!e1 || decide (jx kd (a+9+ny N0 h)=some (a+8)))
theorem L6:∀(a:Fin 3)(b1 b2 e1 e2 b4:Bool),W2 a.val b1 b2 e1 e2 b4=true:=by decide +kernel
noncomputable def eL(rs:qal)(s:Lv):Lv ⊕ Res:=match rs[s.pl]? with
 |none=>.inr (s.dn,qK)
 |some r=>if dW r=true then .inl {s with pl:=(nR rs s.pl).toNat} else eW rs r s
inductive dY(rs:qal):Lv->Res->Prop
 |fin {s:Lv} {R:Res} (h:eL rs s=.inr R):dY rs s R
 |go {s s':Lv} {R:Res} (h:eL rs s=.inl s') (k:dY rs s' R):dY rs s R
noncomputable def sC(m:Nat)(R:Res):Res:=if m<R.1.length then (R.1.take m,qK) else R
theorem dY.cut(W:Wl rs){s:Lv}{R:Res}(h:dY rs s R):yT rs s->(∃l,R.1=s.dn++l)/\∀m,s.dn.length<=m->∃n,NX rs m n s (sC m R):=by
 induction h with
 |@fin s R h=>
  intro I;rcases o7 W I with⟨s',_,_,h2⟩|⟨r,hr,hs,h2⟩
  have:=h2 (s.dn.length+1);unfold i5 at this;unfold eL at h;obtain⟨r,hr⟩:∃r,rs[s.pl]?=some r:=⟨_,rq I.pl⟩;rw[hr] at h this;dsimp only at h this;by_cases hs:dW r=true;rw[if_pos hs] at h;cases h;rw[if_neg hs] at h this;rw[if_neg (by omega),h] at this;cases this;unfold eL at h;rw[hr] at h;dsimp only at h;rw[if_neg (by rw[hs];exact eO)] at h;have:=lT W I hr hs;rw[h] at this;obtain⟨e,_,_⟩:=this;refine⟨⟨_,e⟩,λm hm=>⟨0,.fin ?_⟩⟩;rw[h2];unfold sC;have el:R.1.length=s.dn.length+1:=by rw[e,eC];rfl
  by_cases hc:m<=s.dn.length;rw[if_pos hc,if_pos (by omega),e,List.take_append_of_le_length (by omega),YS (by omega)];rw[if_neg hc,if_neg (by omega)];exact h
 |@go s s' R h k ih=>
  intro I;rcases o7 W I with⟨s2,I2,e2,h2⟩|⟨r,hr,hs,h2⟩
  have:s2=s':=by have:=h2 (s.dn.length+1);unfold i5 at this;unfold eL at h;obtain⟨r,hr⟩:∃r,rs[s.pl]?=some r:=⟨_,rq I.pl⟩;rw[hr] at h this;dsimp only at h this;by_cases hs:dW r=true;rw[if_pos hs] at h this;exact Sum.inl.inj (this.symm.trans h);rw[if_neg hs] at h this;rw[if_neg (by omega),h] at this;exact (Sum.inl.inj this).symm
  subst this;obtain⟨⟨l,el⟩,hm⟩:=ih I2;rw[e2] at el hm;refine⟨⟨l,el⟩,λm hl=>?_⟩;obtain⟨n,hn⟩:=hm m hl;exact⟨n+1,.go (h2 m) hn⟩;unfold eL at h;rw[hr] at h;dsimp only at h;rw[if_neg (by rw[hs];exact eO)] at h;have:=lT W I hr hs;rw[h] at this;obtain⟨I',e⟩:=this;obtain⟨⟨l,el⟩,hm⟩:=ih I';rw[e,MB] at el;refine⟨⟨_,el⟩,λm hl=>?_⟩;by_cases hc:m<=s.dn.length;refine⟨0,.fin ?_⟩;rw[h2,if_pos hc];unfold sC;rw[if_pos (by rw[el,eC,eC];show m<_+(1+_);omega),el,List.take_append_of_le_length (by omega),YS (by omega)];obtain⟨n,hn⟩:=hm m (by rw[e,eC];show _+1<=m;omega);exact⟨n+1,.go (by rw[h2,if_neg hc];exact h) hn⟩
theorem qY{e:Ev}(L:e.L)(x:Str)(v:Vl):(e.put x v).get=o9 e.get x v:=by funext y;unfold o9;by_cases h:y=x;rw[if_pos h,h];exact L.get x v;rw[if_neg h];exact L.ne h v
theorem fU(e:Ev)(o:jT):look e o=val e.get o:=by cases o<;>rfl
noncomputable abbrev mk(e:Ev)(ce:Ce)(ct:Ct)(dn:qaj)(p:Nat):Lv:=⟨[],⟨none,e⟩,ce,ct,dn,p⟩
section
variable{ce:Ce}{ct:Ct}{R:Res}
theorem l0{e:Ev}{dn:qaj}{p:Nat}(L:e.L)(hr:rs[p]?=some r)(hp:RH r)(k:∀e':Ev,e'.L->e'.get=(note p r ⟨e.get,dn⟩).φ->dY rs (mk e' ce ct (note p r ⟨e.get,dn⟩).dn (p+1)) R):dY rs (mk e ce ct dn p) R:=by
 have e1:eL rs (mk e ce ct dn p)=.inl (mk (e.put (yO r) (dD e.get r)) ce ct (dn++[jZ e.get p r]) (p+1)):=by
  unfold eL;rw[show rs[(mk e ce ct dn p).pl]?=some r from hr];dsimp only;cases r with
  |put x a=>rw[if_neg (by simp[dW])];show Sum.inl (lQ (mk e ce ct dn p) x (look e a) (.tup [.int (p:Int),.tup [vT (look e a)],vT (look e a)]))=_;rw[fU];rfl
  |cH x a op b=>
   rw[if_neg (by simp[dW])];obtain rfl|rfl:=hp
   show Sum.inl (lQ (mk e ce ct dn p) x (.num (bP (nm (look e a)+nm (look e b)))) (.tup [.int (p:Int),.tup [vT (look e a),vT (look e b)],vT (.num (bP (nm (look e a)+nm (look e b))))]))=_;rw[fU,fU];rfl;show Sum.inl (lQ (mk e ce ct dn p) x (.num (bP (nm (look e a)-nm (look e b)))) (.tup [.int (p:Int),.tup [vT (look e a),vT (look e b)],vT (.num (bP (nm (look e a)-nm (look e b))))]))=_;rw[fU,fU];rfl
  |_=>exact hp.elim
 exact .go e1 (k _ (L.put _ _) (qY L _ _))
theorem qZ{e:Ev}{dn:qaj}{p q:Nat}(hr:rs[p]?=some r)(hs:dW r=true)(hb:nR rs p=(q:Int))(k:dY rs (mk e ce ct dn q) R):dY rs (mk e ce ct dn p) R:=by refine .go (s':=mk e ce ct dn q) ?_ k;unfold eL;rw[show rs[(mk e ce ct dn p).pl]?=some r from hr];dsimp only;rw[if_pos hs,hb];rfl
theorem vQ{e:Ev}{dn:qaj}{p q:Nat}{a:jT}(hr:rs[p]?=some (.iC a))(hb:vn rs p=(q:Int))(k:dY rs (mk e ce ct (dn++[bp p (val e.get a)]) (if val e.get a=.num 0 then q else p+1)) R):dY rs (mk e ce ct dn p) R:=by refine .go (s':=mk e ce ct (dn++[bp p (val e.get a)]) (if val e.get a=.num 0 then q else p+1)) ?_ k;unfold eL;rw[show rs[(mk e ce ct dn p).pl]?=some (.iC a) from hr];dsimp only;rw[if_neg (by simp[dW])];show Sum.inl (mk e ce ct (dn++[.tup [.int (p:Int),.tup [vT (look e a)],vT (.num (if look e a=.num 0 then 0 else 1))]]) (if look e a=.num 0 then (vn rs p).toNat else p+1))=_;rw[fU,hb];rfl
theorem RN{e:Ev}{dn:qaj}{p q:Nat}{a:jT}(hr:rs[p]?=some (.iG a))(hb:vn rs p=(q:Int))(k:dY rs (mk e ce ct (dn++[bp p (val e.get a)]) (if val e.get a=.num 0 then q else p+1)) R):dY rs (mk e ce ct dn p) R:=by refine .go (s':=mk e ce ct (dn++[bp p (val e.get a)]) (if val e.get a=.num 0 then q else p+1)) ?_ k;unfold eL;rw[show rs[(mk e ce ct dn p).pl]?=some (.iG a) from hr];dsimp only;rw[if_neg (by simp[dW])];show Sum.inl (mk e ce ct (dn++[.tup [.int (p:Int),.tup [vT (look e a)],vT (.num (if look e a=.num 0 then 0 else 1))]]) (if look e a=.num 0 then (vn rs p).toNat else p+1))=_;rw[fU,hb];rfl
theorem L7{e:Ev}{dn:qaj}{p:Nat}{t:Str}(hr:rs[p]?=some (.fail t)):dY rs (mk e ce ct dn p) (dn++[B9 p],nX t):=by refine .fin ?_;unfold eL;rw[show rs[(mk e ce ct dn p).pl]?=some (.fail t) from hr];dsimp only;rw[if_neg (by simp[dW])];rfl
theorem pb{t:Str}:∀(l rest:qal)(p:Nat)(e:Ev)(dn:qaj),e.L->rs.drop p=l++rest->(∀r∈l,RH r\/r=.fail t) ->
  ((cx l p ⟨e.get,dn⟩).2=true->∀e':Ev,e'.L->e'.get=(cx l p ⟨e.get,dn⟩).1.φ->dY rs (mk e' ce ct (cx l p ⟨e.get,dn⟩).1.dn (p+l.length)) R) ->
  ((cx l p ⟨e.get,dn⟩).2=false->R=((cx l p ⟨e.get,dn⟩).1.dn,nX t))->dY rs (mk e ce ct dn p) R
 |[],rest,p,e,dn,L,hd,hl,k1,k2=>k1 rfl e L rfl
 |r::l,rest,p,e,dn,L,hd,hl,k1,k2=>by
   have hr:rs[p]?=some r:=by rw[<- SG,hd];rfl
   have TC:rs.drop (p+1)=l++rest:=by rw[<- IU,hd];rfl
   rcases hl r dG with hp|rfl
   have es:∀s:St,cx (r::l) p s=cx l (p+1) (note p r s):=λs=>by
    cases r with
    |put x a=>rfl
    |cH x a op b=>rfl
    |_=>exact hp.elim
   rw[es] at k1 k2;refine l0 L hr hp λe' L' hg=>?_;have Cv:note p r ⟨e.get,dn⟩=⟨e'.get,(note p r ⟨e.get,dn⟩).dn⟩:=by rw[hg]
   rw[Cv] at k1 k2;refine pb l rest (p+1) e' _ L' TC (λx hx=>hl x (gD _ hx)) (λh e2 L2 g2=>?_) k2;have:=k1 h e2 L2 g2;rw[tX,show p+(l.length+1)=p+1+l.length by omega] at this;exact this;have:=k2 rfl;rw[this];exact L7 hr
end
structure Fx(N:N5)(h:Sh):Prop where
 B:Bl (ay N h)
 n:(ay N h).length=E2 N h+4
 acY:E2 N h+4<=100
 no3:vn (ay N h) (h.a+3)=((E2 N h+3:Nat):Int)
 no6:vn (ay N h) (h.a+6)=((E2 N h+1:Nat):Int)
 no8:vn (ay N h) (h.a+8)=(((if h.e1=true then h.a+9+ny N h+1 else E1 N h):Nat):Int)
 bE1:nR (ay N h) (E1 N h)=((E1 N h+1:Nat):Int)
 bE2:nR (ay N h) (E2 N h)=((h.a+6:Nat):Int)
 bS:nR (ay N h) (E2 N h+1)=((E2 N h+2:Nat):Int)
 bE3:nR (ay N h) (E2 N h+2)=((h.a+3:Nat):Int)
 bEl:h.e1=true->nR (ay N h) (h.a+9+ny N h)=(E1 N h:Int)
section
variable{N:N5}{h:Sh}
noncomputable abbrev q_(N:N5):qal:=[.fin,.skip,.fin,.give (.nm N.s)]
theorem Ic:(ay N h).drop (h.a+9)=dX N h++(gc N h++(.fin::(du N h++q_ N))):=RJ 0
theorem yx:(ay N h).drop (h.a+9+ny N h)=gc N h++(.fin::(du N h++q_ N)):=by rw[RJ];exact List.drop_left
theorem W3:(ay N h).drop (E1 N h)=.fin::(du N h++q_ N):=by unfold E1 nz;rw[<- IU,yx];exact List.drop_left
theorem Ie:(ay N h).drop (E1 N h+1)=du N h++q_ N:=by rw[<- IU,W3];rfl
theorem L8:(ay N h).drop (E2 N h)=q_ N:=by unfold E2;rw[<- IU,Ie];exact List.drop_left
theorem l9{l:qal}{p:Nat}(hd:rs.drop p=r::l):rs[p]?=some r:=by rw[<- SG,hd];rfl
theorem RO:(ay N h)[E1 N h]?=some .fin:=l9 W3
theorem W4:(ay N h)[E2 N h]?=some .fin:=l9 L8
theorem r_S:(ay N h)[E2 N h+1]?=some .skip:=l9 (l:=[.fin,.give (.nm N.s)]) (by rw[<- IU,L8];rfl)
theorem W5:(ay N h)[E2 N h+2]?=some .fin:=l9 (l:=[.give (.nm N.s)]) (by rw[<- IU,L8];rfl)
theorem r_G:(ay N h)[E2 N h+3]?=some (.give (.nm N.s)):=l9 (l:=[]) (by rw[<- IU,L8];rfl)
theorem L9(he:h.e1=true):(ay N h)[h.a+9+ny N h]?=some .jU:=l9 (l:=gb N h++(.fin::(du N h++q_ N))) (by rw[yx];unfold gc;rw[if_pos he];rfl)
theorem fx(ha:h.a<3):Fx N h:=by
 have t:=L6 ⟨h.a,ha⟩ h.b1 h.b2 h.e1 h.e2 h.b4;unfold W2 at t;simp only[mh,decide_eq_true_eq] at t;obtain⟨⟨⟨⟨⟨⟨⟨⟨⟨⟨⟨t1,t2⟩,t3⟩,t4⟩,t5⟩,t6⟩,t7⟩,t8⟩,t9⟩,t10⟩,t11⟩,t12⟩:=t;have kk:=WU (Az N h);have nn:=RM N h;have e1:=WZ N h;have e2:=acX N h;have ey:=WY N h;have en:∀o e,endsAt (br (ay N0 h.o_)) (ay N0 h.o_).length o=some e->lH (ay N h) o=(e:Int):=λo e he=>by unfold lH;rw[kk,nn,he]
 have hd:∀j o,jx (br (ay N0 h.o_)) j=some o->BU (ay N h) j=o:=λj o ho=>by unfold BU;rw[kk,ho];rfl
 have r3:(ay N h)[h.a+3]?=some (.iC (.nm N.i)):=gd 3;have r6:(ay N h)[h.a+6]?=some (.iC (.nm N.j)):=gd 6;have r8:(ay N h)[h.a+8]?=some (.iG h.op):=gd 8;refine⟨⟨V8 (by rw[W0 0 (Az N h)];exact t1),by rw[N9 _ (RL N h)];exact t2⟩,by rw[nn,e2];exact t4,by rw[e2];have:(ay N0 h.o_).length<=100:=t3;have t4':(ay N0 h.o_).length=E2 N0 h.o_+4:=t4;omega,?_,?_,?_,?_,?_,?_,?_,?_⟩;unfold vn;rw[r3];dsimp only;rw[en _ _ t5,e2];push_cast;rfl;unfold vn;rw[r6];dsimp only;rw[en _ _ t6,e2];push_cast;rfl;unfold vn;rw[r8];dsimp only;unfold DA;rw[kk,nn,show Ly (br (ay N0 h.o_)) (ay N0 h.o_).length (h.a+8)=_ from t8];cases h.e1 with
 |true=>rw[if_pos rfl,if_pos rfl,ey];push_cast;rfl
 |false=>rw[if_neg eO,if_neg eO];dsimp only;rw[en _ _ t7,e1]
 unfold nR;rw[RO];dsimp only;rw[hd _ _ (by rw[e1];exact t9),r8]
 push_cast;rfl
 unfold nR;rw[W4];dsimp only;rw[hd _ _ (by rw[e2];exact t10),r6];unfold nR;rw[r_S]
 push_cast;rfl
 unfold nR;rw[W5];dsimp only;rw[hd _ _ (by rw[e2];exact t11),r3];intro he;unfold nR;rw[L9 he];dsimp only;rcases (Bool.or_eq_true _ _).mp t12 with z|z
 rw[he] at z;cases z;rw[hd _ (h.a+8) (by rw[ey];exact of_decide_eq_true z),en _ _ t7,e1]
theorem gT(x:Str):∀(l:qal)(p:Nat)(s:St),(∀r∈l,yO r≠x)->(cx l p s).1.φ x=s.φ x
 |[],p,s,_=>rfl
 |r::l,p,s,hx=>by
  have ih:=gT x l (p+1) (note p r s) λr' h'=>hx r' (gD _ h');have e:(note p r s).φ x=s.φ x:=if_neg λz=>hx r dG z.symm;cases r with
  |fail t=>rfl
  |_=>exact ih.trans e
structure RP(N:N5):Prop where
 ij:N.i≠N.j
 is:N.i≠N.s
 it:N.i≠N.t
 js:N.j≠N.s
 jt:N.j≠N.t
 ei:Str.empty≠N.i
 ej:Str.empty≠N.j
theorem L_:∀r∈dX N h,RH r\/r=.fail N.t:=by
 intro r hr;unfold dX at hr;rcases cU.mp hr with z|z
 split at z;rw[eX.mp z];exact .inl (.inl rfl);cases z;split at z;rw[eX.mp z];exact .inr rfl;cases z
theorem Ma:∀r∈gb N h,RH r:=by intro r hr;unfold gb at hr;split at hr;rw[eX.mp hr];exact .inr rfl;cases hr
theorem B_:∀r∈du N h,RH r:=by intro r hr;unfold du at hr;split at hr;rw[eX.mp hr];trivial;cases hr
theorem Mb(h1:N.s≠x)(h0:Str.empty≠x):∀r∈dX N h,yO r≠x:=by
 intro r hr;unfold dX at hr;rcases cU.mp hr with z|z
 split at z;rw[eX.mp z];exact h1;cases z;split at z;rw[eX.mp z];exact h0;cases z
theorem Mc(h1:N.s≠x):∀r∈gb N h,yO r≠x:=by intro r hr;unfold gb at hr;split at hr;rw[eX.mp hr];exact h1;cases hr
theorem B'(h1:N.t≠x):∀r∈du N h,yO r≠x:=by intro r hr;unfold du at hr;split at hr;rw[eX.mp hr];exact h1;cases hr
theorem Ig:∀(l:qal)(p:Nat)(s:St),(∀r∈l,RH r)->(cx l p s).2=true
 |[],p,s,_=>rfl
 |r::l,p,s,hl=>by
  have ih:=Ig l (p+1) (note p r s) λr' h'=>hl r' (gD _ h');have hr:=hl r dG;cases r with
  |put x a=>exact ih
  |cH x a op b=>exact ih
  |_=>exact hr.elim
theorem vR(h1:N.s≠x)(h0:Str.empty≠x)(s:St):(side N h s).1.φ x=s.φ x:=by unfold side;split;split;exact gT x _ _ _ (Mc h1);rfl;exact gT x _ _ _ (Mb h1 h0)
theorem kr{x:Str}(h1:N.s≠x)(h2:N.t≠x)(h3:N.j≠x)(h0:Str.empty≠x):∀(m:Nat)(s:St),(inner N h m s).1.φ x=s.φ x
 |0,s=>rfl
 |m+1,s=>by
  unfold inner;have e:=vR (h:=h) h1 h0 (note (h.a+7) (.cH N.j (.nm N.j) "minus" (.nu 1)) ⟨s.φ,s.dn++[bp (h.a+6) (.num ((m+1:Nat):Int))]⟩);have e0:(note (h.a+7) (.cH N.j (.nm N.j) "minus" (.nu 1)) ⟨s.φ,s.dn++[bp (h.a+6) (.num ((m+1:Nat):Int))]⟩).φ x=s.φ x:=if_neg λz=>h3 z.symm;split
  rename_i s2 he
  rw[he] at e;exact e.trans e0
  rename_i s2 he
  rw[he] at e;rw[kr h1 h2 h3 h0 m,gT x _ _ _ (B' h2)];exact e.trans e0
theorem jz(hm:m<=1000):bP ((m:Int)+1-1)=(m:Int):=by unfold bP;omega
end
section
variable{N:N5}{h:Sh}{ce:Ce}{ct:Ct}{R:Res}
theorem W6(F:Fx N h){e:Ev}{dn:qaj}(L:e.L)(k1:(side N h ⟨e.get,dn⟩).2=true->∀e':Ev,e'.L->e'.get=(side N h ⟨e.get,dn⟩).1.φ->dY (ay N h) (mk e' ce ct (side N h ⟨e.get,dn⟩).1.dn (E1 N h)) R)(k2:(side N h ⟨e.get,dn⟩).2=false->R=((side N h ⟨e.get,dn⟩).1.dn,nX N.t)):dY (ay N h) (mk e ce ct dn (h.a+8)) R:=by
 refine RN (gd 8) F.no8 ?_;unfold side at k1 k2;dsimp only at k1 k2;by_cases hv:val e.get h.op=.num 0;rw[if_pos hv] at k1 k2 ⊢;by_cases he:h.e1=true;rw[if_pos he] at k1 k2 ⊢;have hd:(ay N h).drop (h.a+9+ny N h+1)=gb N h++(.fin::(du N h++q_ N)):=by rw[<- IU,yx];unfold gc;rw[if_pos he];rfl
 refine pb (gb N h) _ _ e _ L hd (λr hr=>.inl (Ma r hr)) (λhk e' L' g'=>?_) k2;have:=k1 hk e' L' g';have en:E1 N h=h.a+9+ny N h+1+(gb N h).length:=by unfold E1 nz gc;rw[if_pos he,tX];omega
 rw[en] at this;exact this;rw[if_neg he] at k1 k2 ⊢;exact k1 rfl e L rfl;rw[if_neg hv] at k1 k2 ⊢;refine pb (dX N h) _ _ e _ L Ic L_ (λhk e' L' g'=>?_) k2;have:=k1 hk e' L' g';by_cases he:h.e1=true;exact qZ (L9 he) rfl (F.bEl he) this;have en:E1 N h=h.a+9+(dX N h).length:=by unfold E1 nz gc ny;rw[if_neg he];rfl
 rw[en] at this;exact this
theorem yy(F:Fx N h)(D:RP N):∀(m:Nat)(e:Ev)(dn:qaj),e.L->e.get N.j=.num (m:Int)->m<=1000 ->
  ((inner N h m ⟨e.get,dn⟩).2=true->∀e':Ev,e'.L->e'.get=(inner N h m ⟨e.get,dn⟩).1.φ->dY (ay N h) (mk e' ce ct (inner N h m ⟨e.get,dn⟩).1.dn (E2 N h+1)) R) ->
  ((inner N h m ⟨e.get,dn⟩).2=false->R=((inner N h m ⟨e.get,dn⟩).1.dn,nX N.t))->dY (ay N h) (mk e ce ct dn (h.a+6)) R
 |0,e,dn,L,hj,_,k1,_=>by refine vQ (a:=.nm N.j) (gd 6) F.no6 ?_;show dY _ (mk e ce ct (dn++[bp (h.a+6) (e.get N.j)]) (if e.get N.j=.num 0 then _ else _)) _;rw[hj,if_pos (show Vl.num ((0:Nat):Int)=.num 0 from rfl)];exact k1 rfl e L rfl
 |m+1,e,dn,L,hj,hm,k1,k2=>by
   refine vQ (a:=.nm N.j) (gd 6) F.no6 ?_;show dY _ (mk e ce ct (dn++[bp (h.a+6) (e.get N.j)]) (if e.get N.j=.num 0 then _ else _)) _;rw[hj,if_neg (by intro z;injection z with z;omega)];refine l0 (r:=.cH N.j (.nm N.j) "minus" (.nu 1)) L (gd 7) (.inr rfl) λe1 L1 g1=>?_;unfold inner at k1 k2;dsimp only at k1 k2;have es:note (h.a+7) (.cH N.j (.nm N.j) "minus" (.nu 1)) ⟨e.get,dn++[bp (h.a+6) (.num ((m+1:Nat):Int))]⟩=⟨e1.get,(note (h.a+7) (.cH N.j (.nm N.j) "minus" (.nu 1)) ⟨e.get,dn++[bp (h.a+6) (.num ((m+1:Nat):Int))]⟩).dn⟩:=by rw[g1]
   have j1:e1.get N.j=.num (m:Int):=by rw[g1];show o9 e.get N.j (dD e.get (.cH N.j (.nm N.j) "minus" (.nu 1))) N.j=_;unfold o9;rw[if_pos rfl,show dD e.get (.cH N.j (.nm N.j) "minus" (.nu 1))=.num (bP (nm (e.get N.j)-nm (.num 1))) from rfl,hj];show Vl.num (bP (((m+1:Nat):Int)-1))=_;rw[Int.natCast_add];exact congrArg Vl.num (jz (by omega))
   rw[es] at k1 k2;have sj:=vR (h:=h) (x:=N.j) D.js.symm D.ej ⟨e1.get,(note (h.a+7) (.cH N.j (.nm N.j) "minus" (.nu 1)) ⟨e.get,dn++[bp (h.a+6) (.num ((m+1:Nat):Int))]⟩).dn⟩;refine W6 F L1 (λhk e2 L2 g2=>?_) (λhk=>?_);generalize hs:side N h ⟨e1.get,(note (h.a+7) (.cH N.j (.nm N.j) "minus" (.nu 1)) ⟨e.get,dn++[bp (h.a+6) (.num ((m+1:Nat):Int))]⟩).dn⟩=sd at k1 k2 hk g2 sj ⊢;obtain⟨s2,ok⟩:=sd;dsimp only at hk g2 sj;subst hk;dsimp only at k1 k2;refine qZ RO rfl F.bE1 ?_;have ep:s2=⟨e2.get,s2.dn⟩:=by rw[g2]
   refine pb (t:=N.t) (du N h) _ _ e2 _ L2 Ie (λr hr=>.inl (B_ r hr)) (λhk3 e3 L3 g3=>?_) (λhk3=>by rw[Ig _ _ _ B_] at hk3;cases hk3);refine qZ (p:=E1 N h+1+(du N h).length) W4 rfl F.bE2 ?_;rw[<- ep] at g3 ⊢;have e3s:(cx (du N h) (E1 N h+1) s2).1=⟨e3.get,(cx (du N h) (E1 N h+1) s2).1.dn⟩:=by rw[g3]
   rw[e3s] at k1 k2;refine yy F D m e3 _ L3 ?_ (by omega) k1 k2;rw[g3,gT N.j _ _ _ (B' D.jt.symm),sj];exact j1;generalize hs:side N h ⟨e1.get,(note (h.a+7) (.cH N.j (.nm N.j) "minus" (.nu 1)) ⟨e.get,dn++[bp (h.a+6) (.num ((m+1:Nat):Int))]⟩).dn⟩=sd at k1 k2 hk ⊢;obtain⟨s2,ok⟩:=sd;dsimp only at hk;subst hk;exact k2 rfl
theorem yz(F:Fx N h)(D:RP N)(Ek:h.c1<=3):∀(n:Nat)(e:Ev)(dn:qaj),e.L->e.get N.i=.num (n:Int)->n<=1000 ->
  ((outer N h n ⟨e.get,dn⟩).2=true->∀e':Ev,e'.L->e'.get=(outer N h n ⟨e.get,dn⟩).1.φ->dY (ay N h) (mk e' ce ct (outer N h n ⟨e.get,dn⟩).1.dn (E2 N h+3)) R) ->
  ((outer N h n ⟨e.get,dn⟩).2=false->R=((outer N h n ⟨e.get,dn⟩).1.dn,nX N.t))->dY (ay N h) (mk e ce ct dn (h.a+3)) R
 |0,e,dn,L,hj,_,k1,_=>by refine vQ (a:=.nm N.i) (gd 3) F.no3 ?_;show dY _ (mk e ce ct (dn++[bp (h.a+3) (e.get N.i)]) (if e.get N.i=.num 0 then _ else _)) _;rw[hj,if_pos (show Vl.num ((0:Nat):Int)=.num 0 from rfl)];exact k1 rfl e L rfl
 |n+1,e,dn,L,hi,hn,k1,k2=>by
   refine vQ (a:=.nm N.i) (gd 3) F.no3 ?_;show dY _ (mk e ce ct (dn++[bp (h.a+3) (e.get N.i)]) (if e.get N.i=.num 0 then _ else _)) _;rw[hi,if_neg (by intro z;injection z with z;omega)];refine l0 (r:=.cH N.i (.nm N.i) "minus" (.nu 1)) L (gd 4) (.inr rfl) λe1 L1 g1=>?_;refine l0 (r:=.put N.j (.nu h.c1)) L1 (gd 5) trivial λe2 L2 g2=>?_;unfold outer at k1 k2;dsimp only at k1 k2;have i1:e1.get N.i=.num (n:Int):=by rw[g1];show o9 e.get N.i (dD e.get (.cH N.i (.nm N.i) "minus" (.nu 1))) N.i=_;unfold o9;rw[if_pos rfl,show dD e.get (.cH N.i (.nm N.i) "minus" (.nu 1))=.num (bP (nm (e.get N.i)-nm (.num 1))) from rfl,hi];show Vl.num (bP (((n+1:Nat):Int)-1))=_;rw[Int.natCast_add];exact congrArg Vl.num (jz (by omega))
   have i2:e2.get N.i=.num (n:Int):=by rw[g2];show o9 e1.get N.j _ N.i=_;unfold o9;rw[if_neg D.ij];exact i1
   have j2:e2.get N.j=.num (h.c1:Int):=by rw[g2];show o9 e1.get N.j _ N.j=_;unfold o9;rw[if_pos rfl];rfl
   have es1:note (h.a+4) (.cH N.i (.nm N.i) "minus" (.nu 1)) ⟨e.get,dn++[bp (h.a+3) (.num ((n+1:Nat):Int))]⟩=⟨e1.get,(note (h.a+4) (.cH N.i (.nm N.i) "minus" (.nu 1)) ⟨e.get,dn++[bp (h.a+3) (.num ((n+1:Nat):Int))]⟩).dn⟩:=by rw[g1]
   rw[es1] at k1 k2;generalize (note (h.a+4) (.cH N.i (.nm N.i) "minus" (.nu 1)) ⟨e.get,dn++[bp (h.a+3) (.num ((n+1:Nat):Int))]⟩).dn=Tf at k1 k2 g2 ⊢;have es2:note (h.a+5) (.put N.j (.nu h.c1)) ⟨e1.get,Tf⟩=⟨e2.get,(note (h.a+5) (.put N.j (.nu h.c1)) ⟨e1.get,Tf⟩).dn⟩:=by rw[g2]
   rw[es2] at k1 k2;generalize (note (h.a+5) (.put N.j (.nu h.c1)) ⟨e1.get,Tf⟩).dn=dn2 at k1 k2 ⊢;have si:=kr (h:=h) (x:=N.i) D.is.symm D.it.symm D.ij.symm D.ei h.c1 ⟨e2.get,dn2⟩;refine yy F D h.c1 e2 _ L2 j2 (by omega) (λhk e3 L3 g3=>?_) (λhk=>?_);generalize hs:inner N h h.c1 ⟨e2.get,dn2⟩=sd at k1 k2 hk g3 si ⊢;obtain⟨s2,ok⟩:=sd;dsimp only at hk g3 si;subst hk;dsimp only at k1 k2;refine qZ r_S rfl F.bS (qZ W5 rfl F.bE3 ?_);have ep:s2=⟨e3.get,s2.dn⟩:=by rw[g3]
   rw[ep] at k1 k2;exact yz F D Ek n e3 _ L3 (by rw[g3,si];exact i2) (by omega) k1 k2;generalize hs:inner N h h.c1 ⟨e2.get,dn2⟩=sd at k1 k2 hk ⊢;obtain⟨s2,ok⟩:=sd;dsimp only at hk;subst hk;exact k2 rfl
theorem Ih(F:Fx N h)(D:RP N)(Ek:h.c1<=3)(YB:h.c0<=60){e:Ev}{ct:Ct}{v:Int}(L:e.L)(hg:e.get=o9 (λ_=>.num 0) N.t (.num v))(hct:ct.get (h.a+1)=0):dY (ay N h) (mk e ce ct [] h.a) (fS N h v):=by
 have s1:eL (ay N h) (mk e ce ct [] h.a)=.inl (mk e ce ct [.tup [.int (h.a:Int),.tup [.int v],.aO]] (h.a+1)):=by unfold eL;rw[show (ay N h)[(mk e ce ct [] h.a).pl]?=some (.df N.s [N.t]) from gd 0];dsimp only;rw[if_neg (by simp[dW])];show Sum.inl (mk e ce ct [.tup [.int (h.a:Int),.tup [vT (e.get N.t)],.aO]] (h.a+1))=_;rw[hg];unfold o9;rw[if_pos rfl];rfl
 refine .go s1 ?_;have s2:eL (ay N h) (mk e ce ct [.tup [.int (h.a:Int),.tup [.int v],.aO]] (h.a+1))=.inl (mk (e.put N.r (.rB ((h.a+1:Nat):Int) 0)) ce (ct.up (h.a+1)) (Ay h v) (h.a+2)):=by unfold eL;rw[show (ay N h)[(mk e ce ct [.tup [.int (h.a:Int),.tup [.int v],.aO]] (h.a+1)).pl]?=some (.new N.r) from gd 1];dsimp only;rw[if_neg (by simp[dW])];show Sum.inl (mk (e.put N.r (.rB ((h.a+1:Nat):Int) (ct.get (h.a+1)))) ce (ct.up (h.a+1)) ([.tup [.int (h.a:Int),.tup [.int v],.aO]]++[.tup [.int ((h.a+1:Nat):Int),.tup [],vT (.rB ((h.a+1:Nat):Int) (ct.get (h.a+1)))]]) (h.a+2))=_;rw[hct];rfl
 refine .go s2 ?_;have g0:(e.put N.r (.rB ((h.a+1:Nat):Int) 0)).get=φ0 N h v:=by rw[qY L,hg];rfl
 refine l0 (r:=.put N.i (.nu h.c0)) (L.put _ _) (gd 2) trivial λe1 L1 g1=>?_;rw[g0] at g1 ⊢;have i1:e1.get N.i=.num (h.c0:Int):=by rw[g1];show o9 _ N.i _ N.i=_;unfold o9;rw[if_pos rfl];rfl
 have es:note (h.a+2) (.put N.i (.nu h.c0)) ⟨φ0 N h v,Ay h v⟩=⟨e1.get,(note (h.a+2) (.put N.i (.nu h.c0)) ⟨φ0 N h v,Ay h v⟩).dn⟩:=by rw[g1]
 unfold fS;rw[es];generalize (note (h.a+2) (.put N.i (.nu h.c0)) ⟨φ0 N h v,Ay h v⟩).dn=Tf;generalize hs:outer N h h.c0 ⟨e1.get,Tf⟩=sd;obtain⟨s2,ok⟩:=sd;refine yz F D Ek h.c0 e1 Tf L1 i1 (by omega) (λhk e2 L2 g2=>?_) (λhk=>?_);rw[hs] at hk g2 ⊢;dsimp only at hk g2 ⊢;subst hk;refine .fin ?_;unfold eL;rw[show (ay N h)[(mk e2 ce (ct.up (h.a+1)) s2.dn (E2 N h+3)).pl]?=some (.give (.nm N.s)) from r_G];dsimp only;rw[if_neg (by simp[dW])];show Sum.inr (s2.dn++[.tup [.int ((E2 N h+3:Nat):Int),.tup [vT (e2.get N.s)],vT (e2.get N.s)]],tQ (e2.get N.s))=_;rw[g2];rw[hs] at hk ⊢;dsimp only at hk ⊢;subst hk;rfl
end
end cc
namespace VT
open PySem PySem.Spec PyProof.Rows L2
section
theorem tS{it t:Addr}{items:Array Value}(fE:t≠it):∀(n i:Nat)(s:Shared)(Q:(qag)->Shared->Prop),s.heap.IsListIter it t i->s.heap.IsList t items->i+n<=items.size ->
  (∀h',h'.IsListIter it t (i+n)->Heap.SameBut it s.heap h'->Q ((items.toList.drop i).take n) {s with heap:=h'})->wpAny (model prog w) A (draw (.ref it) n) Q E s
 |0,i,s,Q,hit,_,_,hQ=>by show wpAny _ _ (pure []) Q E s;exact wpAny_pure (by simpa using hQ s.heap hit (Heap.SameBut.refl ..))
 |n+1,i,s,Q,hit,ht,hle,hQ=>by
   have eV:i<items.size:=by omega
   show wpAny _ _ (pyNext (.ref it) >>= _) Q E s;refine wpAny_bind (wpAny_pyNext_list_item hit ht (x:=items[i]) (by simp[eV]) λh₁ zu v_=>?_);refine wpAny_bind (wpAny_holding (tS fE n (i+1) _ _ zu (ht.extBut v_.extBut fE) (by omega) λh₂ acZ ou=>wpAny_pure ?_));have hd:items.toList.drop i=items[i]::items.toList.drop (i+1):=by simp[YJ,eV]
   have:=hQ h₂ (by rw[show i+(n+1)=i+1+n by omega];exact acZ) (v_.trans ou);rw[hd,List.take_succ_cons] at this;exact this
theorem yA{t:Addr}{Q:(qag)->Shared->Prop}(hh:A.handled=none)(ht:s.heap.IsList t items)(hQ:∀h',Heap.ExtBut s.heap.objs.size s.heap h'->Q items.toList {s with heap:=h'}):wpAny (model prog w) A (unpackItems (.ref t) items.size none) Q E s:=by
 have eV:t≠s.heap.objs.size:=by obtain⟨o,ho,_⟩:=ht;exact jK (e_ ho)
 unfold unpackItems;refine wpAny_bind ?_;unfold notIterableAtAll;refine wpAny_bind (wpAny_specialOf ht.typeIs F.slot_list_iter.lookup ?_);refine wpAny_pure ?_;simp only[Bool.false_eq_true,if_false];refine wpAny_bind (wpAny_holding (wpAny_pyIter_list ht ?_));refine wpAny_bind (wpAny_holding (tS eV items.size 0 _ _ ⟨_,mf _ rfl,rfl,rfl⟩ (ht.push _) (by omega) λh₁ zu v_=>?_));have zq:List.take items.size (List.drop 0 items.toList)=items.toList:=by rw[List.drop_zero];exact YS (by simp)
 rw[zq];rw[if_neg (by simp)];have UD:h₁.IsList t items:=(ht.push _).extBut v_.extBut eV;refine wpAny_bind (wpAny_holding (wpAny_pyNext_list_end hh zu UD (by simp) λh₂ UE=>?_));simp only[Option.isSome_none,Bool.false_eq_true,if_false];exact wpAny_pure (hQ h₂ λb o hb e=>UE b o hb (v_.extBut b o hb (eZ _ e)))
theorem AA{env:Env}{x1}{t:Addr}{Q:Unit->Shared->Prop}(hh:A.handled=none)(ht:s.heap.IsList t items)(hn:(assignEach elts env).length=items.size)(W7:(assignEach elts env).findIdx? (·.1)=none)(h:∀h',Heap.ExtBut s.heap.objs.size s.heap h'->wpAny (model prog w) A (assignInOrder ((assignEach elts env).map (·.2)) items.toList) Q E {s with heap:=h'}) :
  wpAny (model prog w) A (assign (.Tuple elts x1 pos) env (.ref t)) Q E s:=by
 rw[arm_assign_Tuple];refine wpAny_bind (wpAny_standAt ?_);unfold unpack;rw[hn,W7];exact wpAny_bind (wpAny_holding (yA hh ht h))
end
section
def ac0(K:qaf)(n:Nat)(t:ED):TG:=λv σ H Q=>∃a xs,v=.ref a/\fW K H a xs/\xs.length=n/\t xs σ H Q
theorem RQ{k:Nat}{t:ED}(hc:X.calm=true)(h:Ee X es t)(hn:(assignEach es X.env).length=n:=by rfl)(Cv:(assignEach es X.env).findIdx? (·.1)=none:=by rfl):PG X (.Tuple es k pos) (ac0 X.K n t):=by intro pins s σ H v u Q I r hw;obtain⟨a,xs,e1,hq,hl,hw⟩:=hw;subst e1;cases r;obtain⟨aN,rv,ht,hz⟩:=I.list hq;refine AA (I.ok.hd hc) ht.isList (by simp[hn,<- hl,rv.length]) Cv λh' hx=>?_;have I1:Inv X pins σ H {s with heap:=h'}:=I.kept (t':=s.toks) λb o e=>hx b o (jK (e_ e)) e;exact h pins _ σ H xs _ Q I1 (by simpa using rv) hw
def W8(n:Nat)(h:Fq):FG:=λt ρ Q=>match t with
 |.lst ts=>ts.length=n/\h ts ρ Q
 |_=>False
theorem RS{k:Nat}{h:Fq}(hc:X.calm=true)(hh:SN X Z es is h)(hn:(assignEach es X.env).length=n:=by rfl)(Cv:(assignEach es X.env).findIdx? (·.1)=none:=by rfl):VG X Z (.Tuple es k pos) is (W8 n h):=.mk λtm=>PG.weak (RQ hc (hh tm) hn Cv) λv σ H Q ⟨ρ,O,t,q,I,a,h',kk⟩=>by unfold W8 at h';split at h';simp only[At] at a;obtain⟨p,vs,rfl,s,a⟩:=a;exact⟨p,vs,rfl,s.sq,a.length.trans h'.1,ρ,O,_,q,I,a,h'.2,kk⟩;exact h'.elim
end
end VT
set_option exponentiation.threshold 4000
namespace cc
open PySem L2 VT Gen DV Rg Lay K5
open jY (dJ B8 vO)
open wL (cP)
open mn (Vl vT nm bP RI bg QY pw bgS)
noncomputable def top(i:Nat):Stmt:=PySem.Challenge.pw_slicewise_k14_choices_and_loops.main.body.getD i (.Pass ⟨0,0,0,0⟩)
noncomputable abbrev nT:Stmt:=top 56
noncomputable abbrev AB:Stmt:=top 58
noncomputable abbrev AD:Stmt:=top 59
noncomputable abbrev AE:Stmt:=top 60
noncomputable abbrev AF:Stmt:=top 61
noncomputable abbrev Ii:Stmt:=top 62
noncomputable abbrev Ij:Stmt:=top 63
noncomputable abbrev l_:Stmt:=top 64
structure N_(mg:qae):Prop where
 isinstance:mg "isinstance"=none
 list:mg "list"=none
 len:mg "len"=none
 range:mg "range"=none
 str:mg "str"=none
 int:mg "int"=none
 min:mg "min"=none
theorem leB(h:n<=1000000):n<=sizeLine:=by rw[sizeLine_eq];omega
def Ik(ts:qaj)(q:qam):Prop:=∃i:Int,ts=[.int i]/\q (.vw (.int (bP i)))
def Em(e:Ev)(x:Str):Prop:=bC e.ks e.is (.inr x)=some (e.get x)
theorem Em.t{e:Ev}(h:Em e x):bC e.ks e.ts (.inr x)=some (vT (e.get x)):=by unfold Ev.ts;rw[lN,h];rfl
theorem Em.put{e:Ev}(L:e.L)(h:Em e x)(y:Str)(v:Vl):Em (e.put y v) x:=by unfold Em;by_cases hxy:x=y;subst hxy;rw[L.get];exact Dk.WT L;rw[L.ne hxy];exact (Dk.putN L (λz=>hxy (Sum.inr.inj z))).trans h
def YC(e:Ev):jT->Prop
 |.nm x=>Em e x/\∃i,e.get x=.num i
 |.nu _=>True
def RwN(e:Ev):Rw->Prop
 |.put _ a=>YC e a
 |.cH _ a op b=>(∃y,a=.nm y)/\YC e a/\YC e b/\(op="plus"\/op="minus")
 |_=>False
noncomputable def Ca:GT:=λts q=>∃(rs:qal)(e:Ev)(dn:qaj)(p:Nat)(r:Rw),ts=[.lst (rs.map a8),.dk e.ks e.ts,.lst dn,.int (p:Int)]/\rs[p]?=some r/\RwN e r/\e.is.length<=1000/\dn.length<=100000 /\
 q [.dk (e.put (yO r) (dD e.get r)).ks (e.put (yO r) (dD e.get r)).ts,.lst (dn++[jZ e.get p r])] (.vw .aO)
def W9(ts:qaj)(q:qam):Prop:=∃(R:Res)(m:Nat),ts=[.tup [.lst R.1,R.2],.int (m:Int)]/\q (.vw (.tup [.lst (sC m R).1,(sC m R).2]))
section
abbrev BV:qai:=qaQ
theorem qG:aE BV qaQ (aj nT):=L2.gB
theorem Ac(D:Df K mg "_law_fit" nT qaQ f fd):cq P w K mg base "_law_fit" qaQ 1 (dO K 1 Ik):=by refine D.gK (oN D.F qG rfl λbz A outer s H E Ox hr ts q hG=>?_);have nd:=qG.nd;refine⟨_,(aw (aW (qau (h7 (qas (bY (qas (bu (ae 0) (qas (la (qas af) (qas af))))) (qas (Br (qas af) (qas (la (qas af) (qas af))))))) (qas (la (qas af) (qas af))))))),λ_=>?_⟩;obtain⟨i,rfl,hq⟩:=hG;refine⟨pw 30,pw 30,⟨bg 2,QY⟩,by decide +kernel,pw 30,?_⟩;show q (.vw (.int ((i+10 ^ (30:Int).toNat) % (2 * 10 ^ (30:Int).toNat)-10 ^ (30:Int).toNat)));rw[Gen.V2];exact hq
noncomputable abbrev W_:qai:=qaR
theorem Il:aE W_ qaR (aj Ij):=L2.gB
theorem RT(D:Df K mg "_law_cut" Ij qaR f fd)(M:N_ mg):cq P w K mg base "_law_cut" qaR 1 (dO K 2 W9):=by
 refine D.gK (oN D.F Il rfl λbz A outer s H E Ox hr ts q hG=>?_);have nd:=Il.nd;refine⟨_,(ah (bQ (Fh (ae 1) (qas (bK bM bN (by rfl) M.len wm (a9 (qas (aA (ae 0) (qas af))) bw))))
    (aw (aW (qau (aJ (aa (qat (kZ (qas (aA (ae 0) (qas af))) oJ (oK (ae 1)))) (aa (qat (aJ (aa (qat aI) (aa (qat af) ak)))) ak))))))
    aQ)
   (aw (aW (qau (VE.vp (aq 0)))))),λ_=>?_⟩
 obtain⟨R,m,rfl,hq⟩:=hG;unfold sC at hq;refine⟨_,ai (j:=0) rfl,gr (λh=>?_) (λh=>?_)⟩;have h':(m:Int)<(R.1.length:Int):=h;rw[if_pos (by omega)] at hq;have ec:mF R.1 none (some (m:Int))=R.1.take m:=by have:=jY.Aw (id:T->T) R.1 m (by omega);rw[List.map_id,List.map_id] at this;exact this
 refine⟨_,ai (j:=0) rfl,Gen.bJ rfl,Gen.bJ rfl,?_⟩;show q (.vw (.tup [.lst (mF R.1 none (some (m:Int))),qK]));rw[ec];exact hq;have h':¬ (m:Int)<(R.1.length:Int):=h;rw[if_neg (by omega)] at hq;exact hq
noncomputable abbrev RU:qai:=["_law_rows_here","_law_held","_law_doings","_law_place","_law_row","_law_value","_law_one","_law_other"]
theorem Cb:aE RU qaS (aj AD):=L2.gB
theorem Md(D:Df K mg "_law_note" AD qaS f fd)(M:N_ mg)(nV:cq P w K mg base "_law_fit" qaQ 1 (dO K 1 Ik)):cq P w K mg base "_law_note" qaS 2 (mK K [false,true,true,false] Ca):=by
 refine D.gK (U2 D.F Cb rfl λbz A outer s H E as Ox hr ts q hl hG=>?_);have nd:=Cb.nd;have hu:=bx.gq hr;have kE:=lh hu;obtain⟨rs,e,dn,p,r,rfl,dI,hk,hn,hd,hq⟩:=hG;refine⟨_,(ah (bq (i:=4) nd rfl (Or.inl rfl) (qau (aA (ae 0) (ae 3))) (fJ (by decide)))
  (aw (bQ (cJ hu (qas (aA (ae 4) (qas af))) (qas aI))
   (ah (bq (i:=5) nd rfl (Or.inl rfl) (qau (iB (eQ (cv eF (by rfl) M.isinstance (by rfl) M.str nI (qas (aA (ae 4) (qas af))))) (fK kE (ae 1) (qas (aA (ae 4) (qas af)))) (aA (ae 4) (qas af)))) (fJ (by decide)))
   (ah (bo (dZ 2 sG sH bc bj (aa (qat (aJ (aa (aq 3) (aa (qat (aJ (aa (aq 5) ak))) (aa (aq 5) ak))))) ak)))
   (aw (uR 1 kE (aq 5) (qas (aA (ae 4) (qas af)))))))
   (ah (bq (i:=6) nd rfl (Or.inl rfl) (qau (fK kE (ae 1) (qas (aA (ae 4) (qas af))))) (fJ (by decide)))
   (ah (bq (i:=7) nd rfl (Or.inl rfl) (qau (iB (eQ (cv eF (by rfl) M.isinstance (by rfl) M.str nI (qas (aA (ae 4) (qas af))))) (fK kE (ae 1) (qas (aA (ae 4) (qas af)))) (aA (ae 4) (qas af)))) (fJ (by decide)))
   (ah (bq (i:=5) nd rfl (Or.inl rfl) (qau (iB (cJ hu (qas (aA (ae 4) (qas af))) (qas aI)) (aP nV hr (aa (qat (bu (ae 6) (ae 7))) ak)) (aP nV hr (aa (qat (h7 (ae 6) (ae 7))) ak)))) (fJ (by decide)))
   (ah (bo (dZ 2 sG sH bc bj (aa (qat (aJ (aa (aq 3) (aa (qat (aJ (aa (aq 6) (aa (aq 7) ak)))) (aa (aq 5) ak))))) ak)))
   (aw (uR 1 kE (aq 5) (qas (aA (ae 4) (qas af)))))))))))),?_⟩
 have vS:=Rg.cT dI;have eV:e.ts.length<16777216:=by unfold Ev.ts;rw[c6];omega
 have hp:=λx v=>vA e x v;cases r with
 |put x a=>
  cases a with
  |nm y=>obtain⟨hh,i,hi⟩:=hk;refine⟨_,vS,_,ai (j:=0) rfl,_,ai (j:=2) rfl,rfl,_,ai (j:=2) rfl,_,hh.t,Gen.bJ rfl,Gen.bJ rfl,leB (by omega),_,ai (j:=1) rfl,eV,?_⟩;show q [.dk _ (bH e.ks e.ts (.inr x) (vT (e.get y))),_] _;rw[hp];exact hq
  |nu i=>refine⟨_,vS,_,ai (j:=0) rfl,_,ai (j:=2) rfl,rfl,_,ai (j:=2) rfl,Gen.bJ rfl,Gen.bJ rfl,leB (by omega),_,ai (j:=1) rfl,eV,?_⟩;show q [.dk _ (bH e.ks e.ts (.inr x) (vT (.num i))),_] _;rw[hp];exact hq
 |cH x a op b=>
  obtain⟨⟨y,rfl⟩,⟨hy,i,hi⟩,hb,ho⟩:=hk;have fin:∀(j:Int),val e.get b=.num j->q [.dk (dP e.ks (.inr x)) (bH e.ks e.ts (.inr x) (.int (if op="plus" then bP (i+j) else bP (i-j)))),.lst (dn++[.tup [.int (p:Int),.tup [.int i,.int j],.int (if op="plus" then bP (i+j) else bP (i-j))]])] (.vw .aO):=λj hj=>by
   have e1:dD e.get (.cH x (.nm y) op b)=.num (if op="plus" then bP (i+j) else bP (i-j)):=by show Vl.num (if op="plus" then bP (nm (e.get y)+nm (val e.get b)) else bP (nm (e.get y)-nm (val e.get b)))=_;rw[hi,hj];rfl
   have e2:jZ e.get p (.cH x (.nm y) op b)=.tup [.int (p:Int),.tup [.int i,.int j],.int (if op="plus" then bP (i+j) else bP (i-j))]:=by unfold jZ;rw[e1];show T.tup [.int (p:Int),.tup [vT (e.get y),vT (val e.get b)],_]=_;rw[hi,hj];rfl
   rw[e1,e2] at hq;show q [.dk _ (bH e.ks e.ts (.inr x) (vT (.num (if op="plus" then bP (i+j) else bP (i-j))))),_] _;rw[hp];exact hq
  have hyt:=hy.t;rw[hi] at hyt;cases b with
  |nm z=>
   obtain⟨hz,j,hj⟩:=hb;have hzt:=hz.t;rw[hj] at hzt;have fj:=fin j hj;refine⟨_,vS,_,ai (j:=0) rfl,_,ai (j:=2) rfl,_,hyt,_,ai (j:=4) rfl,rfl,_,ai (j:=4) rfl,_,hzt,_,ai (j:=3) rfl,?_⟩;obtain rfl|rfl:=ho
   exact⟨rfl,_,rfl,Gen.bJ rfl,Gen.bJ rfl,leB (by omega),_,ai (j:=1) rfl,eV,fj⟩;exact⟨rfl,_,rfl,Gen.bJ rfl,Gen.bJ rfl,leB (by omega),_,ai (j:=1) rfl,eV,fj⟩
  |nu j=>
   have fj:=fin j rfl;refine⟨_,vS,_,ai (j:=0) rfl,_,ai (j:=2) rfl,_,hyt,_,ai (j:=4) rfl,rfl,_,ai (j:=4) rfl,_,ai (j:=3) rfl,?_⟩;obtain rfl|rfl:=ho
   exact⟨rfl,_,rfl,Gen.bJ rfl,Gen.bJ rfl,leB (by omega),_,ai (j:=1) rfl,eV,fj⟩;exact⟨rfl,_,rfl,Gen.bJ rfl,Gen.bJ rfl,leB (by omega),_,ai (j:=1) rfl,eV,fj⟩
 |_=>exact hk.elim
end
end cc
namespace cc
open PySem L2 VT Gen DV Rg Lay K5
open wL (cP)
open mn (Vl vT nm bP RI)
structure Good(N:N5)(e:Ev):Prop where
 L:e.L
 n:e.is.length<=10
 has:∀x∈[N.i,N.j,N.s,N.t,N.r],Em e x
 num:∀x∈[N.i,N.j,N.s,N.t],∃k,e.get x=.num k
theorem Me{e:Ev}(L:e.L)(h:Em e x)(v:Vl):(e.put x v).is.length=e.is.length:=by
 have hk:∀(ks:List Key)(is:List Vl)(k:Key)(v:Vl),bC ks is k=some v->jH ks k=true:=by
  intro ks;induction ks with
  |nil=>intro is k v h;cases is<;>cases h
  |cons a ks ih=>
   intro is k v h;cases is with
   |nil=>cases h
   |cons i is=>
    simp only[bC] at h;simp only[jH,Es,Bool.or_eq_true,decide_eq_true_eq];split at h
    rename_i z;exact .inl z
    exact .inr (ih is k v h)
 show (bH e.ks e.is (.inr x) v).length=_;unfold bH;rw[if_pos (hk _ _ _ _ h),XH];have:e.ks.length=e.is.length:=L;omega
theorem Good.put{N:N5}{e:Ev}(G:Good N e)(hx:x∈[N.i,N.j,N.s,N.t])(k:Int):Good N (e.put x (.num k)):=by
 have hm:x∈[N.i,N.j,N.s,N.t,N.r]:=by
  simp only[c7,gE,or_false] at hx ⊢;obtain z|z|z|z:=hx
  exact .inl z;exact .inr (.inl z);exact .inr (.inr (.inl z));exact .inr (.inr (.inr (.inl z)))
 refine⟨G.L.put _ _,by rw[Me G.L (G.has x hm)];exact G.n,λy hy=>(G.has y hy).put G.L x _,λy hy=>?_⟩;by_cases h:y=x;subst h;exact⟨k,G.L.get y _⟩;rw[G.L.ne h];exact G.num y hy
def DY(N:N5):Rw->Prop
 |.put x a=>x∈[N.i,N.j,N.s,N.t]/\(∀y,a=.nm y->y∈[N.i,N.j,N.s,N.t])
 |.cH x a op b=>x∈[N.i,N.j,N.s,N.t]/\(∃y,a=.nm y/\y∈[N.i,N.j,N.s,N.t])/\(∀y,b=.nm y->y∈[N.i,N.j,N.s,N.t])/\(op="plus"\/op="minus")
 |_=>False
theorem in5{N:N5}(hy:y∈[N.i,N.j,N.s,N.t]):y∈[N.i,N.j,N.s,N.t,N.r]:=by
 simp only[c7,gE,or_false] at hy ⊢;obtain z|z|z|z:=hy
 exact .inl z;exact .inr (.inl z);exact .inr (.inr (.inl z));exact .inr (.inr (.inr (.inl z)))
theorem DY.rw{N:N5}{e:Ev}(G:Good N e)(h:DY N r):RwN e r/\RH r/\Good N (e.put (yO r) (dD e.get r))/\(e.put (yO r) (dD e.get r)).get=(note 0 r ⟨e.get,[]⟩).φ:=by
 have op:∀a:jT,(∀y,a=.nm y->y∈[N.i,N.j,N.s,N.t])->YC e a/\∃k,val e.get a=.num k:=λa ha=>by
  cases a with
  |nm y=>exact⟨⟨G.has y (in5 (ha y rfl)),G.num y (ha y rfl)⟩,G.num y (ha y rfl)⟩
  |nu i=>exact⟨trivial,i,rfl⟩
 cases r with
 |put x a=>obtain⟨h1,k,hk⟩:=op a h.2;refine⟨h1,trivial,?_,qY G.L _ _⟩;show Good N (e.put x (val e.get a));rw[hk];exact G.put h.1 k
 |cH x a o b=>obtain⟨hx,⟨y,rfl,hy⟩,hb,ho⟩:=h;exact⟨⟨⟨y,rfl⟩,(op (.nm y) λz hz=>by cases hz;exact hy).1,(op b hb).1,ho⟩,ho,G.put hx _,qY G.L _ _⟩
 |_=>exact h.elim
theorem vU{N:N5}{h:Sh}:∀r∈dX N h,DY N r\/r=.fail N.t:=by
 intro r hr;unfold dX at hr;rcases cU.mp hr with z|z
 split at z;rw[eX.mp z];exact .inl ⟨by simp,⟨N.s,rfl,by simp⟩,λy hy=>by cases hy;simp,.inl rfl⟩;cases z;split at z;rw[eX.mp z];exact .inr rfl;cases z
theorem Im{N:N5}{h:Sh}:∀r∈gb N h,DY N r\/r=.fail N.t:=by intro r hr;unfold gb at hr;split at hr;rw[eX.mp hr];exact .inl ⟨by simp,⟨N.i,rfl,by simp⟩,λy hy=>by cases hy;simp,.inr rfl⟩;cases hr
def W'(N:N5):jT->Prop
 |.nm x=>x∈[N.i,N.j,N.s,N.t,N.r]
 |.nu _=>True
noncomputable def N':GT:=λts q=>∃(N:N5)(h:Sh)(e:Ev)(dn:qaj),ts=[.lst ((ay N h).map a8),.dk e.ks e.ts,.lst dn,.int ((h.a+8:Nat):Int)]/\Good N e/\W' N h.op/\h.a<=2/\dn.length<=90000 /\
 ∀e':Ev,Good N e'->e'.get=(side N h ⟨e.get,dn⟩).1.φ->q [.dk e'.ks e'.ts,.lst (side N h ⟨e.get,dn⟩).1.dn] (.vw (.bl (side N h ⟨e.get,dn⟩).2))
noncomputable def ez(N:N5)(h:Sh):Nat:=if h.e1=true then h.a+9+ny N h+1 else h.a+9+ny N h
theorem yB{N:N5}(h:DY N r\/r=.fail N.t):wd r≠"end"/\wd r≠"else":=by
 obtain h|rfl:=h
 cases r with
 |put x a=>exact⟨by simp only[wd];decide +kernel,by simp only[wd];decide +kernel⟩
 |cH x a op b=>exact⟨by simp only[wd];decide +kernel,by simp only[wd];decide +kernel⟩
 |_=>exact h.elim
 exact⟨by simp only[wd];decide +kernel,by simp only[wd];decide +kernel⟩
section
variable{N:N5}{h:Sh}
theorem ac1(m:Nat):(ay N h)[h.a+9+m]?=(n_ N h)[m]?:=by rw[<- SG,RJ,SG]
theorem Io(hm:m<ny N h):∃r,(ay N h)[h.a+9+m]?=some r/\r∈dX N h:=by refine⟨(dX N h)[m],?_,XQ hm⟩;rw[ac1];unfold n_;rw[og hm,rq hm]
theorem Xa{k:Nat}(h1:h.a+9<=k)(h2:k<ez N h):∃r r',(ay N h)[k]?=some r/\(ay N h)[k-1]?=some r'/\wd r≠"end"/\wd r'≠"else":=by
 obtain⟨m,rfl⟩:∃m,k=h.a+9+m:=⟨k-(h.a+9),by omega⟩;have hp:m<=ny N h->∃r',(ay N h)[h.a+9+m-1]?=some r'/\wd r'≠"else":=λhm=>by
  cases m with
  |zero=>exact⟨.iG h.op,gd 8,by simp only[wd];decide +kernel⟩
  |succ m=>obtain⟨r,e1,e2⟩:=Io (N:=N) (h:=h) (m:=m) (by omega);exact⟨r,e1,(yB (vU r e2)).2⟩
 unfold ez at h2;by_cases hm:m<ny N h;obtain⟨r,e1,e2⟩:=Io hm;obtain⟨r',e3,e4⟩:=hp (by omega);exact⟨r,r',e1,e3,(yB (vU r e2)).1,e4⟩;by_cases he:h.e1=true;rw[if_pos he] at h2;have em:m=ny N h:=by omega
 subst em;obtain⟨r',e3,e4⟩:=hp (cO _);exact⟨.jU,r',L9 he,e3,by simp only[wd];decide +kernel,e4⟩;rw[if_neg he] at h2;omega
theorem Ip:∃rest,(ay N h).drop (ez N h)=(if h.e1=true then gb N h else [])++.fin::rest:=by unfold ez;by_cases he:h.e1=true;rw[if_pos he,if_pos he];refine⟨du N h++q_ N,?_⟩;rw[<- IU,yx];unfold gc;rw[if_pos he];rfl;rw[if_neg he,if_neg he];refine⟨du N h++q_ N,?_⟩;rw[yx];unfold gc;rw[if_neg he]
theorem Iq:∃r r',(ay N h)[ez N h]?=some r/\(ay N h)[ez N h-1]?=some r'/\(wd r="end"\/wd r'="else"):=by
 obtain⟨rest,hd⟩:=Ip (N:=N) (h:=h);obtain⟨r,hr⟩:∃r,(ay N h)[ez N h]?=some r:=by
  rw[<- SG,hd];cases (if h.e1=true then gb N h else []) with
  |nil=>exact⟨_,rfl⟩
  |cons x l=>exact⟨_,rfl⟩
 have hl:=(eB.mp hr).1;by_cases he:h.e1=true;refine⟨r,.jU,hr,?_,.inr rfl⟩;unfold ez;rw[if_pos he];exact L9 he;refine⟨.fin,_,?_,rq (by omega),.inl rfl⟩;rw[<- SG,hd,if_neg he];rfl
end
noncomputable def z9(N:N5)(h:Sh):FS:=λd ρ=>∃(l:qal)(x:Rw)(rest:qal)(k:Nat)(e:Ev)(dn:qaj)(b4 b5 b6:Option (T×Bool)),ρ=[some (.lst ((ay N h).map a8),false),some (.dk e.ks e.ts,true),some (.lst dn,true),some (.int ((h.a+8:Nat):Int),false),b4,b5,b6,some (.int (k:Int),false)]/\(ay N h).drop k=l++x::rest/\(wd x="end"\/wd x="else")/\(∀r∈l,DY N r\/r=.fail N.t)/\Good N e/\dn.length+l.length<=95000 /\
 ∀(e':Ev) b7,Good N e'->e'.get=(cx l k ⟨e.get,dn⟩).1.φ->d.rt [some (.lst ((ay N h).map a8),false),some (.dk e'.ks e'.ts,true),some (.lst (cx l k ⟨e.get,dn⟩).1.dn,true),some (.int ((h.a+8:Nat):Int),false),b4,b5,b6,b7] (.vw (.bl (cx l k ⟨e.get,dn⟩).2))
noncomputable def rG(N:N5)(h:Sh)(e:Ev)(dn:qaj):FS:=λd ρ=>ρ=[some (.lst ((ay N h).map a8),false),some (.dk e.ks e.ts,true),some (.lst dn,true),some (.int ((h.a+8:Nat):Int),false),some (a8 (.iG h.op),false),some (vT (val e.get h.op),false),none,none] /\
 ∀(e':Ev) b4 b5 b6 b7,Good N e'->e'.get=(side N h ⟨e.get,dn⟩).1.φ->d.rt [some (.lst ((ay N h).map a8),false),some (.dk e'.ks e'.ts,true),some (.lst (side N h ⟨e.get,dn⟩).1.dn,true),some (.int ((h.a+8:Nat):Int),false),b4,b5,b6,b7] (.vw (.bl (side N h ⟨e.get,dn⟩).2))
noncomputable def Xb(N:N5)(h:Sh)(e:Ev)(dn:qaj):FS:=λd ρ=>ρ=[some (.lst ((ay N h).map a8),false),some (.dk e.ks e.ts,true),some (.lst (dn++[bp (h.a+8) (val e.get h.op)]),true),some (.int ((h.a+8:Nat):Int),false),some (a8 (.iG h.op),false),some (vT (val e.get h.op),false),some (.int (if val e.get h.op=.num 0 then 0 else 1),false),some (.int ((h.a+9:Nat):Int),false)] /\
 ∀(e':Ev) b4 b5 b6 b7,Good N e'->e'.get=(side N h ⟨e.get,dn⟩).1.φ->d.rt [some (.lst ((ay N h).map a8),false),some (.dk e'.ks e'.ts,true),some (.lst (side N h ⟨e.get,dn⟩).1.dn,true),some (.int ((h.a+8:Nat):Int),false),b4,b5,b6,b7] (.vw (.bl (side N h ⟨e.get,dn⟩).2))
section
noncomputable abbrev RW:qai:=["_law_rows_here","_law_held","_law_doings","_law_place","_law_row","_law_value","_law_side_here","_law_there"]
theorem Cc:aE RW qaS (aj AE):=L2.gB
theorem Mh(D:Df K mg "_law_side" AE qaS f fd)(M:N_ mg)(rf:cq P w K mg base "_law_note" qaS 2 (mK K [false,true,true,false] Ca)):cq P w K mg base "_law_side" qaS 3 (mK K [false,true,true,false] N'):=by
 obtain⟨Ir,Cd,ku,ky,kz,kA⟩:=rf;refine D.gK (U2 D.F Cc rfl λbz A outer s H E as Ox hr ts q hl hG=>?_);have nd:=Cc.nd;have hu:=bx.gq hr;have kE:=lh hu;obtain⟨N,h,e,dn,rfl,G,qC,ha,hd,hq⟩:=hG;refine⟨_,(ah (bq (i:=4) nd rfl (Or.inl rfl) (qau (aA (ae 0) (ae 3))) (fJ (by decide)))
  (ah (bq (i:=5) nd rfl (Or.inl rfl) (qau (iB (eQ (cv eF (by rfl) M.isinstance (by rfl) M.str nI (qas (aA (ae 4) (qas af))))) (fK kE (ae 1) (qas (aA (ae 4) (qas af)))) (aA (ae 4) (qas af)))) (fJ (by decide)))
  (iF.weak (u:=(rG N h e dn)) (ah (bq (i:=6) nd rfl (Or.inl rfl) (qau (ji CC zF (by rfl) M.int Nj (a9 (qas (UO hu (ae 5) (qas af))) bw))) (fJ (by decide)))
  (ah (bo (dZ 2 sG sH bc bj (aa (qat (aJ (aa (aq 3) (aa (qat (aJ (aa (aq 5) ak))) (aa (aq 6) ak))))) ak)))
  (ah (bq (i:=7) nd rfl (Or.inl rfl) (qau (bu (ae 3) (qas af))) (fJ (by decide)))
  (iF.weak (u:=(Xb N h e dn)) (ah (bQ (cJ hu (ae 6) (qas af))
   (aw (iN Ea (VW.vc (uw (nF hu (qas (aA (qas (aA (ae 0) (ae 7))) (qas af))) (qas aI)) (oI (nF hu (qas (aA (qas (aA (ae 0) (qas (h7 (ae 7) (qas af))))) (qas af))) (qas aI)))))
    (aw (bq (i:=7) nd rfl (Or.inl rfl) (qau (bu (ae 7) (qas af))) (fJ (by decide))))))
   aQ)
  (iF.weak (u:=(z9 N h)) (ah (iN Ea (P6 (qas (aA (qas (aA (ae 0) (ae 7))) (qas af))) (qas (aJ (aa (qat aI) (aa (qat aI) ak)))))
   (ah (bQ (cJ hu (qas (aA (qas (aA (ae 0) (ae 7))) (qas af))) (qas aI))
    (ah (bo (dZ 2 sG sH bc bj (aa (qat (aJ (aa (aq 7) (aa (qat (aJ ak)) (aa (qat c_) ak))))) ak)))
    (aw (aW (qau jP))))
    aQ)
   (ah (bo (fH kA (hr.mono (by decide)) (by rfl) ku ky kz (cj (aq 0) (cZ 1 (cZ 2 (cj (aq 7) ia))))))
   (aw (bq (i:=7) nd rfl (Or.inl rfl) (qau (bu (ae 7) (qas af))) (fJ (by decide)))))))
  (aw (aW (qau jP)))) ?w1)) ?w3)))) ?w2))),?main⟩
 case w1=>
  rintro d ρ ⟨l,x,rest,k,e,dn,b4,b5,b6,rfl,RX,hx,hl,G,U_,fin⟩;refine⟨λm ρ=>∃(l':qal)(k':Nat)(e':Ev)(j3:qaj),m=l'.length/\ρ=[some (.lst ((ay N h).map a8),false),some (.dk e'.ks e'.ts,true),some (.lst j3,true),some (.int ((h.a+8:Nat):Int),false),b4,b5,b6,some (.int (k':Int),false)]/\(ay N h).drop k'=l'++x::rest/\(∀r∈l',DY N r\/r=.fail N.t)/\Good N e'/\j3.length+l'.length<=95000/\cx l' k' ⟨e'.get,j3⟩=cx l k ⟨e.get,dn⟩,⟨_,l,k,e,dn,rfl,rfl,RX,hl,G,U_,rfl⟩,?_⟩;rintro m ρ ⟨l',k',e',j3,rfl,rfl,RY,t_,G',Xc,hs⟩;cases l' with
  |nil=>
   obtain⟨t,et⟩:=dj x;have Tg:=Rg.cT (l9 RY);rw[et] at Tg;have Td:(!rA (.str (wd x)) [.str "end",.str "else"])=false:=by obtain z|z:=hx<;>rw[z]<;>rfl
   refine⟨_,Tg,_,ai (j:=0) rfl,Gen.bJ rfl,rfl,rfl,mU (c:=!rA (.str (wd x)) [.str "end",.str "else"]) Td ?_⟩;rw[<- hs] at fin;exact fin e' _ G' rfl
  |cons r l'=>
   have hr:=l9 RY;have hrr:=t_ r dG;obtain⟨w1,w2⟩:=yB hrr;obtain⟨t,et⟩:=dj r;have Tg:=Rg.cT hr;rw[et] at Tg;have Td:(!rA (.str (wd r)) [.str "end",.str "else"])=true:=by
    show (!(eqT (.str "end") (.str (wd r)) || (eqT (.str "else") (.str (wd r)) || false)))=true;have c:∀i j:Str,i≠j->eqT (.str i) (.str j)=false:=λi j X6=>by simp only[eqT];simpa using X6
    rw[c _ _ w1.symm,c _ _ w2.symm];rfl
   refine⟨_,Tg,_,ai (j:=0) rfl,Gen.bJ rfl,rfl,rfl,uK (c:=!rA (.str (wd r)) [.str "end",.str "else"]) Td ?_⟩;refine⟨_,Tg,_,ai (j:=0) rfl,?_⟩;obtain Xd|rfl:=hrr
   obtain⟨g1,g2,g3,g4⟩:=Xd.rw G';have hnf:¬ wd r="fail":=by
    cases r with
    |put x a=>simp only[wd];decide +kernel
    |cH x a op b=>simp only[wd];decide +kernel
    |_=>exact Xd.elim
   refine gr (λz=>absurd z hnf) (λ_=>?_);refine⟨ay N h,e',j3,k',r,rfl,hr,g1,by have:=G'.n;omega,by rw[tX] at Xc;omega,?_⟩;refine⟨l'.length,wj _,l',k'+1,_,_,rfl,rfl,by rw[<- IU,RY];rfl,λr' h'=>t_ r' (gD _ h'),g3,by rw[eC];rw[tX] at Xc;show _+1+_<=_;omega,?_⟩;rw[<- hs,g4];cases r with
   |put x a=>rfl
   |cH x a op b=>rfl
   |_=>exact Xd.elim
   rw[<- hs] at fin;exact⟨Gen.bJ rfl,Gen.bJ rfl,leB (by omega),fin e' _ G' rfl⟩
 case w2=>
  have e9:((h.a+8:Nat):Int)+1=((h.a+9:Nat):Int):=by push_cast;omega
  rintro d ρ ⟨rfl,fin⟩;have key:∀(v:Vl)(b:Int),v=val e.get h.op->b=(if v=.num 0 then 0 else 1)->Xb N h e dn d [some (.lst ((ay N h).map a8),false),some (.dk e.ks e.ts,true),some (.lst (dn++[T.tup [.int ((h.a+8:Nat):Int),.tup [vT v],.int b]]),true),some (.int ((h.a+8:Nat):Int),false),some (a8 (.iG h.op),false),some (vT v,false),some (.int b,false),some (.int (((h.a+8:Nat):Int)+1),false)]:=by rintro v b rfl rfl;rw[e9];exact⟨rfl,fin⟩
  cases hv:val e.get h.op with
  |num i=>exact⟨Gen.bJ rfl,Gen.bJ rfl,leB (by omega),key (.num i) (if (!decide (i=0))=true then 1 else 0) hv.symm (by by_cases z:i=0<;>simp[z])⟩
  |rB p r=>exact⟨rfl,rfl,by simp[vT,dep,wN],Gen.bJ rfl,Gen.bJ rfl,leB (by omega),key (.rB p r) 1 hv.symm rfl⟩
 case w3=>
  have ac2:(dX N h).length<=2:=by unfold dX;rw[eC];split<;>split<;>simp
  have ac3:(gb N h).length<=1:=by unfold gb;split<;>simp
  rintro d ρ ⟨rfl,fin⟩;unfold side at fin;dsimp only at fin;by_cases z:val e.get h.op=.num 0
  . rw[if_pos z] at fin ⊢;refine⟨λm ρ=>∃k:Nat,m=ez N h-k/\h.a+9<=k/\k<=ez N h/\ρ=[some (.lst ((ay N h).map a8),false),some (.dk e.ks e.ts,true),some (.lst (dn++[bp (h.a+8) (val e.get h.op)]),true),some (.int ((h.a+8:Nat):Int),false),some (a8 (.iG h.op),false),some (vT (val e.get h.op),false),some (.int 0,false),some (.int (k:Int),false)],⟨_,h.a+9,rfl,cO _,?_,rfl⟩,?_⟩;unfold ez;split<;>omega
    . rintro m ρ ⟨k,rfl,kF,PZ,rfl⟩;have ek:(k:Int)-1=((k-1:Nat):Int):=by omega
      by_cases eV:k<ez N h;obtain⟨r,r',e1,e2,w1,w2⟩:=Xa kF eV;obtain⟨t,et⟩:=dj r;obtain⟨t',et'⟩:=dj r';have h1:=Rg.cT e1;have h2:=Rg.cT e2;rw[et] at h1;rw[et',<- ek] at h2;refine⟨_,h1,_,ai (j:=0) rfl,?_⟩;refine uK (c:=!decide (wd r="end")) (by rw[decide_eq_false w1];rfl) ?_;refine⟨_,h2,_,ai (j:=0) rfl,?_⟩;refine uK (c:=!decide (wd r'="else")) (by rw[decide_eq_false w2];rfl) ?_;exact⟨ez N h-(k+1),by omega,k+1,rfl,by omega,eV,rfl⟩
      . have YD:k=ez N h:=by omega
        subst YD;have done:z9 N h d [some (.lst ((ay N h).map a8),false),some (.dk e.ks e.ts,true),some (.lst (dn++[bp (h.a+8) (val e.get h.op)]),true),some (.int ((h.a+8:Nat):Int),false),some (a8 (.iG h.op),false),some (vT (val e.get h.op),false),some (.int 0,false),some (.int ((ez N h:Nat):Int),false)]:=by
         obtain⟨rest,RX⟩:=Ip (N:=N) (h:=h);have es:cx (if h.e1=true then gb N h else []) (h.a+9+ny N h+1) ⟨e.get,dn++[bp (h.a+8) (val e.get h.op)]⟩=cx (if h.e1=true then gb N h else []) (ez N h) ⟨e.get,dn++[bp (h.a+8) (val e.get h.op)]⟩:=by unfold ez;by_cases he:h.e1=true;rw[if_pos he,if_pos he];rw[if_neg he];rfl
         rw[es] at fin;refine⟨_,.fin,rest,ez N h,e,_,_,_,_,rfl,RX,.inl rfl,λr hr=>?_,G,?_,λe' b7 G' g'=>fin e' _ _ _ b7 G' g'⟩;split at hr;exact Im r hr;cases hr;rw[eC];show _+1+_<=_;split;omega;show _+0<=_;omega
        obtain⟨r,r',e1,e2,hw⟩:=Iq (N:=N) (h:=h);obtain⟨t,et⟩:=dj r;obtain⟨t',et'⟩:=dj r';have h1:=Rg.cT e1;have h2:=Rg.cT e2;rw[et] at h1;rw[et',<- ek] at h2;refine⟨_,h1,_,ai (j:=0) rfl,?_⟩;by_cases w1:wd r="end"
        . exact mU (c:=!decide (wd r="end")) (by rw[decide_eq_true w1];rfl) done
        . refine uK (c:=!decide (wd r="end")) (by rw[decide_eq_false w1];rfl) ?_;refine⟨_,h2,_,ai (j:=0) rfl,?_⟩;have w2:wd r'="else":=hw.resolve_left w1;exact mU (c:=!decide (wd r'="else")) (by rw[decide_eq_true w2];rfl) done
  rw[if_neg z] at fin ⊢;have RX:∃x rest,(ay N h).drop (h.a+9)=dX N h++x::rest/\(wd x="end"\/wd x="else"):=by rw[Ic];unfold gc;by_cases he:h.e1=true;rw[if_pos he];exact⟨.jU,_,rfl,.inr rfl⟩;rw[if_neg he];exact⟨.fin,_,rfl,.inl rfl⟩
  obtain⟨x,rest,RX,hx⟩:=RX;exact⟨_,x,rest,h.a+9,e,_,_,_,_,rfl,RX,hx,vU,G,by rw[eC];show _+1+_<=_;omega,λe' b7 G' g'=>fin e' _ _ _ b7 G' g'⟩
 case main=>
 have vS:jN ((ay N h).map a8) ((h.a+8:Nat):Int)=some (a8 (.iG h.op)):=Rg.cT (gd 8);cases ho:h.op with
 |nm x=>rw[ho] at qC vS;have hx:Em e x:=G.has x qC;refine⟨_,vS,_,ai (j:=1) rfl,rfl,_,ai (j:=1) rfl,_,hx.t,by rw[ho];rfl,λe' b4 b5 b6 b7 G' g'=>hq e' G' g'⟩
 |nu i=>rw[ho] at vS;refine⟨_,vS,_,ai (j:=1) rfl,rfl,_,ai (j:=1) rfl,by rw[ho];rfl,λe' b4 b5 b6 b7 G' g'=>hq e' G' g'⟩
end
end cc
namespace VT
open PySem PySem.Spec PyProof.Rows L2
def Xe(f:FX)(g u:FS):FS:=λd ρ=>f ρ λρ' r=>match r with
 |.vw (.bl c)=>if (!c)=true then g d ρ' else u d ρ'
 |_=>False
section
theorem Cf{f:FX}{g u:FS}{a b:qaq}(hc:VX X Z c f)(ha:iF X Z a g)(hb:iF X Z b u)(he:∀whole,isTrue c X.env whole=(do let v <- whole;standAt c.pos;holding [v] (truthy v)):=by intro _;rfl):VS X Z (.If (.UnaryOp .Not c p) a b pos) (Xe f g u) :=
 .mk λtm=>PS.weak (EC (EA (Ez (hc tm) he)) (ha tm) (hb tm)) λD σ H ⟨ρ,O,d,I,q,F⟩=>⟨ρ,O,_,I,q,λρ' r hr O' v H' z=>by
  cases r with
  |fr t=>exact hr.elim
  |vw t=>
   cases t with
   |bl c=>
    obtain⟨J,e⟩:=z;have e':v=.bl c:=by simpa only[At] using e
    refine⟨c,e',?_⟩;cases c with
    |_=>exact⟨ρ',O',d,J,hr,F⟩
   |_=>exact hr.elim⟩
end
end VT
namespace cc
open PySem L2 VT Gen DV Rg Lay K5
open jY (dJ)
open wL (cP)
open mn (Vl vT nm bP RI)
noncomputable def jJ(N:N5):qai:=[N.i,N.j,N.s,N.t,N.r]
noncomputable def jc(N:N5)(h:Sh)(s:St):St×Bool:=inner N h h.c1 (note (h.a+5) (.put N.j (.nu h.c1)) (note (h.a+4) (.cH N.i (.nm N.i) "minus" (.nu 1)) s))
noncomputable def Oa:GT:=λts q=>∃(N:N5)(h:Sh)(e:Ev)(dn:qaj),ts=[.lst ((ay N h).map a8),.dk e.ks e.ts,.lst dn,.int ((h.a+4:Nat):Int),dJ (jJ N)]/\Good N e/\RP N/\W' N h.op/\h.a<=2/\h.c1<=3/\dn.length<=80000 /\
 ∀e':Ev,Good N e'->e'.get=(jc N h ⟨e.get,dn⟩).1.φ->q [.dk e'.ks e'.ts,.lst (jc N h ⟨e.get,dn⟩).1.dn] (.vw (.bl (jc N h ⟨e.get,dn⟩).2))
section
variable{N:N5}{h:Sh}
theorem jA:∀(l:qal)(p:Nat)(s:St),(cx l p s).1.dn.length<=s.dn.length+l.length
 |[],p,s=>cO _
 |r::l,p,s=>by
  have ih:=jA l (p+1) (note p r s);have e:(note p r s).dn.length=s.dn.length+1:=eC;rw[tX];cases r with
  |fail t=>show (s.dn++[B9 p]).length<=_;rw[eC];show _+1<=_;omega
  |_=>show (cx l (p+1) (note p _ s)).1.dn.length<=_;omega
theorem yC(s:St):(side N h s).1.dn.length<=s.dn.length+3:=by
 have ac2:(dX N h).length<=2:=by unfold dX;rw[eC];split<;>split<;>simp
 have ac3:(if h.e1=true then gb N h else []).length<=1:=by split;unfold gb;split<;>simp;exact jL _
 unfold side;split;refine mm (jA _ _ _) ?_;show (s.dn++[_]).length+_<=_;rw[eC];show _+1+_<=_;omega;refine mm (jA _ _ _) ?_;show (s.dn++[_]).length+_<=_;rw[eC];show _+1+_<=_;omega
theorem Mi:(du N h).length<=1:=by unfold du;split<;>simp
theorem tT:∀(m:Nat)(s:St),(inner N h m s).1.dn.length<=s.dn.length+6 * m+1
 |0,s=>by show (s.dn++[_]).length<=_;rw[eC];exact cO _
 |m+1,s=>by
  unfold inner;have e:=yC (N:=N) (h:=h) (note (h.a+7) (.cH N.j (.nm N.j) "minus" (.nu 1)) ⟨s.φ,s.dn++[bp (h.a+6) (.num ((m+1:Nat):Int))]⟩);have e0:(note (h.a+7) (.cH N.j (.nm N.j) "minus" (.nu 1)) ⟨s.φ,s.dn++[bp (h.a+6) (.num ((m+1:Nat):Int))]⟩).dn.length=s.dn.length+2:=by show ((s.dn++[_])++[_]).length=_;rw[eC,eC];rfl
  split
  rename_i s2 he
  rw[he] at e;show s2.dn.length<=_;have e':s2.dn.length<=_:=e;omega
  rename_i s2 he
  rw[he] at e;have e':s2.dn.length<=_:=e;have i1:=tT m (cx (du N h) (E1 N h+1) s2).1;have i2:=jA (du N h) (E1 N h+1) s2;have i3:=Mi (N:=N) (h:=h);omega
theorem Xf{k:Nat}(h1:h.a+9<=k)(h2:k<E1 N h):∃r,(ay N h)[k]?=some r/\wd r≠"end":=by
 obtain⟨m,rfl⟩:∃m,k=h.a+9+m:=⟨k-(h.a+9),by omega⟩;have hm:m<(dX N h++gc N h).length:=by rw[eC];show m<ny N h+nz N h;unfold E1 at h2;omega
 have e:(ay N h)[h.a+9+m]?=(dX N h++gc N h)[m]?:=by rw[<- List.getElem?_drop,Ic,<- MB,og hm]
 refine⟨_,e.trans (rq hm),?_⟩;have z:=XQ hm;generalize (dX N h++gc N h)[m]=r at z ⊢;rcases cU.mp z with z|z
 exact (yB (vU _ z)).1;unfold gc at z;split at z;rcases c7.mp z with z|z
 rw[z];simp only[wd];decide +kernel;exact (yB (Im _ z)).1;cases z
theorem Xg(s:St):(cx (du N h) (E1 N h+1) s).1=if h.b4=true then note (E1 N h+1) (.put N.t (.nm N.s)) s else s:=by unfold du;split<;>rfl
theorem Mj:(ay N h)[E1 N h+1]?=some (if h.b4=true then .put N.t (.nm N.s) else .fin):=by refine l9 (l:=if h.b4=true then q_ N else [.skip,.fin,.give (.nm N.s)]) ?_;rw[Ie];unfold du q_;split<;>rfl
noncomputable def Iu(N:N5)(h:Sh)(s:St):Nat->St
 |0=>s
 |1=>note (h.a+4) (.cH N.i (.nm N.i) "minus" (.nu 1)) s
 |_=>note (h.a+5) (.put N.j (.nu h.c1)) (note (h.a+4) (.cH N.i (.nm N.i) "minus" (.nu 1)) s)
theorem ac4(N:N5):DY N (.cH N.i (.nm N.i) "minus" (.nu 1)):=⟨.head _,⟨_,rfl,.head _⟩,(λy hy=>by cases hy),.inr rfl⟩
theorem ac5(N:N5):DY N (.cH N.j (.nm N.j) "minus" (.nu 1)):=⟨.tail _ (.head _),⟨_,rfl,.tail _ (.head _)⟩,(λy hy=>by cases hy),.inr rfl⟩
theorem ac6(N:N5)(c:Int):DY N (.put N.j (.nu c)):=⟨.tail _ (.head _),λy hy=>by cases hy⟩
theorem Xh(N:N5)(c:Int):DY N (.put N.i (.nu c)):=⟨.head _,λy hy=>by cases hy⟩
theorem ac7(N:N5):DY N (.put N.t (.nm N.s)):=⟨.tail _ (.tail _ (.tail _ (.head _))),λy hy=>by cases hy;exact .tail _ (.tail _ (.head _))⟩
theorem yD{p:Nat}:bp p (.num ((m+1:Nat):Int))=.tup [.int (p:Int),.tup [.int ((m+1:Nat):Int)],.int 1]:=by unfold bp;rw[if_neg (λz=>by injection z with z;omega)];rfl
theorem rg(N:N5):jN ((jJ N).map T.str) 1=some (.str N.j):=ai (j:=1) rfl
end
section
noncomputable abbrev RZ:qai:=["_law_rows_here","_law_held","_law_doings","_law_at","_law_names_here","_law_k","_law_place"]
theorem Cg:aE RZ qaT (aj AF):=L2.gB
theorem Ml(D:Df K mg "_law_turn" AF qaT f fd)(M:N_ mg)(rf:cq P w K mg base "_law_note" qaS 2 (mK K [false,true,true,false] Ca))(R1:cq P w K mg base "_law_side" qaS 3 (mK K [false,true,true,false] N')):cq P w K mg base "_law_turn" qaT 4 (mK K [false,true,true,false,false] Oa):=by
 obtain⟨Ir,Cd,ku,ky,kz,kA⟩:=rf;obtain⟨ac8,YE,R3,R4,R5,R6⟩:=R1;refine D.gK (U2 D.F Cg rfl λbz A outer s H E as Ox hr ts q hl hG=>?_);have nd:=Cg.nd;have hu:=bx.gq hr;have kE:=lh hu;obtain⟨N,h,e,dn,rfl,G,D5,qC,ha,Ek,hd,hq⟩:=hG;refine⟨_,(ah (mJ Ea rfl (jj (by rfl) M.range (qas af)) (bE (i:=5) nd rfl (Or.inl rfl) (fJ (by decide)))
    (aw (bo (fH kA (hr.mono (by decide)) (by rfl) ku ky kz (cj (aq 0) (cZ 1 (cZ 2 (cj (qat (bu (ae 3) (ae 5))) ia))))))))
   (ah (iN Ea (nF hu (qas (fK kE (ae 1) (qas (aA (ae 4) (qas af))))) (qas af))
     (ah (bo (dZ 2 sG sH bc bj (aa (qat (aJ (aa (qat (bu (ae 3) (qas af))) (aa (qat (aJ (aa (qat (fK kE (ae 1) (qas (aA (ae 4) (qas af))))) ak))) (aa (qat af) ak))))) ak)))
     (ah (bo (fH kA (hr.mono (by decide)) (by rfl) ku ky kz (cj (aq 0) (cZ 1 (cZ 2 (cj (qat (bu (ae 3) (qas af))) ia))))))
     (ah (Cf (fH R6 (hr.mono (by decide)) (by rfl) R3 R4 R5 (cj (aq 0) (cZ 1 (cZ 2 (cj (qat (bu (ae 3) (qas af))) ia)))))
       (aw (aW (qau jP)))
       aQ)
     (ah (bq (i:=6) nd rfl (Or.inl rfl) (qau (bu (ae 3) (qas af))) (fJ (by decide)))
     (ah (iN Ea (nF hu (qas (aA (qas (aA (ae 0) (ae 6))) (qas af))) (qas aI))
       (aw (bq (i:=6) nd rfl (Or.inl rfl) (qau (bu (ae 6) (qas af))) (fJ (by decide)))))
     (aw (bQ (cJ hu (qas (aA (qas (aA (ae 0) (qas (bu (ae 6) (qas af))))) (qas af))) (qas aI))
       (aw (bo (fH kA (hr.mono (by decide)) (by rfl) ku ky kz (cj (aq 0) (cZ 1 (cZ 2 (cj (qat (bu (ae 6) (qas af))) ia)))))))
       aQ))))))))
   (ah (bo (dZ 2 sG sH bc bj (aa (qat (aJ (aa (qat (bu (ae 3) (qas af))) (aa (qat (aJ (aa (qat af) ak))) (aa (qat af) ak))))) ak)))
   (aw (aW (qau jP)))))),?_⟩
 have mj:N.j∈[N.i,N.j,N.s,N.t,N.r]:=.tail _ (.head _);refine⟨by decide,by decide,?_⟩;show pT (rangeT 0 2) _ _ _ [some (.lst ((ay N h).map a8),false),some (.dk e.ks e.ts,true),some (.lst dn,true),some (.int ((h.a+4:Nat):Int),false),some (dJ (jJ N),false),none,none];refine qf (λi ρ=>∃e' b5,ρ=[some (.lst ((ay N h).map a8),false),some (.dk e'.ks e'.ts,true),some (.lst (Iu N h ⟨e.get,dn⟩ i).dn,true),some (.int ((h.a+4:Nat):Int),false),some (dJ (jJ N),false),b5,none]/\Good N e'/\e'.get=(Iu N h ⟨e.get,dn⟩ i).φ) ⟨e,none,rfl,G,rfl⟩ ?_ ?_;rintro i ρ hi ⟨e',b5,rfl,G',g'⟩;obtain⟨r,er,Xd,es⟩:∃r,(ay N h)[h.a+4+i]?=some r/\DY N r/\Iu N h ⟨e.get,dn⟩ (i+1)=note (h.a+4+i) r (Iu N h ⟨e.get,dn⟩ i):=by
  match i,hi with
  |0,_=>exact⟨_,gd 4,ac4 N,rfl⟩
  |1,_=>exact⟨_,gd 5,ac6 N _,rfl⟩
 have hlen:(Iu N h ⟨e.get,dn⟩ i).dn.length<=80001:=by
  match i,hi with
  |0,_=>show dn.length<=_;omega
  |1,_=>show (dn++[_]).length<=_;rw[eC];show _+1<=_;omega
 obtain⟨g1,g2,g3,g4⟩:=Xd.rw G';have ep:((h.a+4:Nat):Int)+(0+(i:Int))=((h.a+4+i:Nat):Int):=by push_cast;omega
 refine⟨ay N h,e',(Iu N h ⟨e.get,dn⟩ i).dn,h.a+4+i,r,?_,er,g1,by have:=G'.n;omega,by omega,?_⟩;show [_,_,_,T.int (((h.a+4:Nat):Int)+(0+(i:Int)))]=_;rw[ep];refine⟨_,some (.int (0+(i:Int)),false),?_,g3,?_⟩;rw[es];show _=[_,_,some (T.lst ((Iu N h ⟨e.get,dn⟩ i).dn++[jZ (Iu N h ⟨e.get,dn⟩ i).φ (h.a+4+i) r]),true),_,_,_,_];rw[<- g'];rfl;rw[es,g4,g'];rfl;rintro ρ ⟨e0,b5,rfl,G0,g0⟩;have hS:inner N h h.c1 ⟨e0.get,(Iu N h ⟨e.get,dn⟩ 2).dn⟩=jc N h ⟨e.get,dn⟩:=by rw[g0];rfl
 have Yp:e0.get N.j=.num ((h.c1:Nat):Int):=by rw[g0];exact if_pos rfl
 have hlen:(Iu N h ⟨e.get,dn⟩ 2).dn.length<=80002:=by show ((dn++[_])++[_]).length<=_;rw[eC,eC];show _+1+1<=_;omega
 generalize (Iu N h ⟨e.get,dn⟩ 2).dn=Ay at hS hlen;generalize jc N h ⟨e.get,dn⟩=S at hS hq;have e6:((h.a+4:Nat):Int)+2=((h.a+6:Nat):Int):=by push_cast;omega
 have e7:((h.a+4:Nat):Int)+3=((h.a+7:Nat):Int):=by push_cast;omega
 have e8:((h.a+4:Nat):Int)+4=((h.a+8:Nat):Int):=by push_cast;omega
 have e9:((h.a+4:Nat):Int)+5=((h.a+9:Nat):Int):=by push_cast;omega
 refine⟨λm ρ=>∃e' j3 b5 b6,ρ=[some (.lst ((ay N h).map a8),false),some (.dk e'.ks e'.ts,true),some (.lst j3,true),some (.int ((h.a+4:Nat):Int),false),some (dJ (jJ N),false),b5,b6]/\Good N e'/\e'.get N.j=.num (m:Int)/\m<=3/\j3.length+6 * m<=80020/\inner N h m ⟨e'.get,j3⟩=S,⟨h.c1,e0,Ay,b5,none,rfl,G0,Yp,Ek,by omega,hS⟩,?_⟩;rintro m ρ ⟨e',j3,b5,b6,rfl,G',hj,hm,t_,oX⟩;have hjt:=(G'.has N.j mj).t;rw[hj] at hjt;obtain⟨k,hk⟩:∃k:Int,k=(m:Int):=⟨_,rfl⟩;have R7:=hjt;rw[<- hk] at R7;cases m with
 |zero=>refine⟨_,rg N,_,R7,?_⟩;refine mU (c:=!decide (k=0)) (by rw[hk];rfl) ?_;subst oX;refine⟨Gen.bJ rfl,Gen.bJ rfl,leB (by omega),?_⟩;have:=hq e' G' rfl;show q [.dk e'.ks e'.ts,.lst (j3++[T.tup [.int (((h.a+4:Nat):Int)+2),.tup [.int 0],.int 0]])] (.vw (.bl true));rw[e6];exact this
 |succ m=>
   refine⟨_,rg N,_,R7,?_⟩;refine uK (c:=!decide (k=0)) (by rw[decide_eq_false (by omega)];rfl) ?_;have hnj:=(ac5 N).rw G';obtain⟨g1,g2,g3,g4⟩:=hnj;have d1:(j3++[bp (h.a+6) (.num ((m+1:Nat):Int))]).length=j3.length+1:=eC;refine⟨_,rg N,_,hjt,Gen.bJ rfl,Gen.bJ rfl,leB (by omega),?_⟩;refine⟨ay N h,e',j3++[bp (h.a+6) (.num ((m+1:Nat):Int))],h.a+7,_,?_,gd 7,g1,by have:=G'.n;omega,by omega,?_⟩;rw[yD,<- e6,<- e7];rfl;obtain⟨s1,YF⟩:∃s1,s1=note (h.a+7) (.cH N.j (.nm N.j) "minus" (.nu 1)) ⟨e'.get,j3++[bp (h.a+6) (.num ((m+1:Nat):Int))]⟩:=⟨_,rfl⟩;have sn:s1.dn=(j3++[bp (h.a+6) (.num ((m+1:Nat):Int))])++[jZ e'.get (h.a+7) (.cH N.j (.nm N.j) "minus" (.nu 1))]:=by rw[YF];rfl
   have sφ:(e'.put (yO (.cH N.j (.nm N.j) "minus" (.nu 1))) (dD e'.get (.cH N.j (.nm N.j) "minus" (.nu 1)))).get=s1.φ:=by rw[YF];exact g4
   have sl:s1.dn.length=j3.length+2:=by rw[sn,eC,d1];rfl
   have j1:s1.φ N.j=.num (m:Int):=by rw[YF];show o9 e'.get N.j (dD e'.get (.cH N.j (.nm N.j) "minus" (.nu 1))) N.j=_;unfold o9;rw[if_pos rfl,show dD e'.get (.cH N.j (.nm N.j) "minus" (.nu 1))=.num (bP (nm (e'.get N.j)-nm (.num 1))) from rfl,hj];show Vl.num (bP (((m+1:Nat):Int)-1))=_;rw[Int.natCast_add];exact congrArg Vl.num (jz (by omega))
   have sj:=vR (h:=h) (x:=N.j) D5.js.symm D5.ej s1;have sL:=yC (N:=N) (h:=h) s1;unfold inner at oX;rw[<- YF] at oX;refine⟨N,h,_,s1.dn,?_,g3,qC,ha,by omega,λe2 G2 g2=>?_⟩;rw[sn,<- e8];rfl;have es:(⟨(e'.put (yO (.cH N.j (.nm N.j) "minus" (.nu 1))) (dD e'.get (.cH N.j (.nm N.j) "minus" (.nu 1)))).get,s1.dn⟩:St)=s1:=by rw[sφ]
   rw[es] at g2 ⊢;generalize hsd:side N h s1=sd at oX g2 sj sL ⊢;obtain⟨s2,b⟩:=sd;cases b with
   |false=>have Iv:(s2,false)=S:=oX;subst Iv;exact hq e2 G2 g2
   |true=>
     have Iv:inner N h m (cx (du N h) (E1 N h+1) s2).1=S:=oX;have g2':e2.get=s2.φ:=g2;have sj':s2.φ N.j=s1.φ N.j:=sj;have sL':s2.dn.length<=s1.dn.length+3:=sL;have j2:e2.get N.j=.num (m:Int):=by rw[g2',sj',j1]
     have ed:({φ:=e2.get,dn:=s2.dn}:St)=s2:=by rw[g2']
     refine⟨λk' ρ=>∃k:Nat,k'=E1 N h-k/\h.a+9<=k/\k<=E1 N h/\ρ=[some (.lst ((ay N h).map a8),false),some (.dk e2.ks e2.ts,true),some (.lst s2.dn,true),some (.int ((h.a+4:Nat):Int),false),some (dJ (jJ N),false),b5,some (.int (k:Int),false)],⟨_,h.a+9,rfl,cO _,by unfold E1;omega,?_⟩,?_⟩;rw[<- e9];rfl;rintro k' ρ ⟨k,rfl,kF,PZ,rfl⟩;by_cases eV:k<E1 N h;obtain⟨r,er,w1⟩:=Xf kF eV;obtain⟨t,et⟩:=dj r;have h1:=Rg.cT er;rw[et] at h1;refine⟨_,h1,_,ai (j:=0) rfl,?_⟩;exact uK (c:=!decide (wd r="end")) (by rw[decide_eq_false w1];rfl) ⟨E1 N h-(k+1),by omega,k+1,rfl,by omega,eV,rfl⟩;have ek:k=E1 N h:=by omega
     subst ek;have YD:((E1 N h:Nat):Int)+1=((E1 N h+1:Nat):Int):=by push_cast;rfl
     have h1:=Rg.cT (RO (N:=N) (h:=h));obtain⟨v1,t1,et1,hv1⟩:∃(v:Str)(t:qaj),a8 .fin=.tup (.str v::t)/\v="end":=⟨_,_,rfl,rfl⟩;rw[et1] at h1;refine⟨_,h1,_,ai (j:=0) rfl,?_⟩;refine mU (c:=!decide (v1="end")) (by rw[decide_eq_true hv1];rfl) ?_;obtain⟨r,hr,er⟩:∃r,r=(if h.b4=true then Rw.put N.t (.nm N.s) else .fin)/\(ay N h)[E1 N h+1]?=some r:=⟨_,rfl,Mj⟩;have h2:=Rg.cT er;obtain⟨t2,et2⟩:=dj r;have h3:=h2;obtain⟨w2,hw2⟩:∃w,w=wd r:=⟨_,rfl⟩;rw[et2,<- YD,<- hw2] at h3;refine⟨_,h3,_,ai (j:=0) rfl,?_⟩;rw[Xg] at Iv;by_cases hb:h.b4=true;rw[if_pos hb] at Iv hr;subst hr;obtain⟨u1,u2,u3,u4⟩:=(ac7 N).rw G2;have hp:w2="put":=hw2;refine gr (λ_=>?_) (λz=>absurd hp z);refine⟨ay N h,e2,s2.dn,E1 N h+1,_,?_,er,u1,by have:=G2.n;omega,by omega,?_⟩;rw[<- YD];rfl;have u5:(e2.put (yO (.put N.t (.nm N.s))) (dD e2.get (.put N.t (.nm N.s)))).get=(note (E1 N h+1) (.put N.t (.nm N.s)) s2).φ:=by rw[<- ed];exact u4
     have u6:(note (E1 N h+1) (.put N.t (.nm N.s)) s2).dn=s2.dn++[jZ e2.get (E1 N h+1) (.put N.t (.nm N.s))]:=by rw[g2'];rfl
     have u7:(e2.put (yO (.put N.t (.nm N.s))) (dD e2.get (.put N.t (.nm N.s)))).get N.j=.num (m:Int):=by rw[<- j2];exact G2.L.ne D5.jt _
     refine⟨m,wj _,_,_,_,_,rfl,u3,u7,by omega,?_,?_⟩;rw[eC];show _+1+_<=_;omega;rw[<- Iv];refine congrArg (inner N h m) ?_;rw[u5,<- u6];rw[if_neg hb] at Iv hr;subst hr;have hp:¬ w2="put":=by rw[hw2];simp only[wd];decide +kernel
     refine gr (λz=>absurd z hp) (λ_=>?_);exact⟨m,wj _,e2,s2.dn,_,_,rfl,G2,j2,by omega,by omega,by rw[ed];exact Iv⟩
end
def Ob(ts:qaj)(q:qam):Prop:=∃(N:N5)(h:Sh)(v:Int),ts=[.lst ((ay N h).map a8),.int (h.a:Int),dJ (jJ N),.int v]/\(jJ N).Nodup/\RP N/\W' N h.op/\h.a<=2/\h.c1<=3/\h.c0<=60/\(ay N h).length=E2 N h+4 /\
 q (.vw (.tup [.lst (fS N h v).1,(fS N h v).2]))
noncomputable def we(N:N5)(h:Sh)(v:Int):Ev:=⟨(jJ N).map .inr,[.num 0,.num 0,.num 0,.num v,.rB ((h.a+1:Nat):Int) 0]⟩
theorem Iw{N:N5}{h:Sh}(hc:h.c1<=3)(s:St):(jc N h s).1.dn.length<=s.dn.length+21:=by unfold jc;refine mm (tT _ _) ?_;show ((s.dn++[_])++[_]).length+_+_<=_;rw[eC,eC];show _+1+1+_+_<=_;omega
theorem Mm{N:N5}{h:Sh}{v:Int}(nd:(jJ N).Nodup):(we N h v).get=φ0 N h v:=by
 have zW:(N.i≠N.j/\N.i≠N.s/\N.i≠N.t/\N.i≠N.r)/\(N.j≠N.s/\N.j≠N.t/\N.j≠N.r)/\(N.s≠N.t/\N.s≠N.r)/\N.t≠N.r:=by simpa[jJ] using nd
 funext x;obtain⟨⟨a1,a2,a3,a4⟩,⟨b1,b2,b3⟩,⟨c1,c2⟩,d1⟩:=zW;simp only[φ0,o9,Ev.get,we,jJ,gA,IV,bC];simp only[Sum.inr.injEq];by_cases h1:N.i=x;subst h1;simp[a3,a4];by_cases h2:N.j=x;subst h2;simp[b2,b3,h1];by_cases h3:N.s=x;subst h3;simp[c1,c2,h1,h2];by_cases h4:N.t=x;subst h4;simp[d1,h1,h2,h3];by_cases h5:N.r=x;subst h5;simp[h1,h2,h3,h4];rw[if_neg h1,if_neg h2,if_neg h3,if_neg h4,if_neg h5,if_neg (λz=>h5 z.symm),if_neg (λz=>h4 z.symm)];rfl
theorem Iy{N:N5}{h:Sh}{v:Int}(nd:(jJ N).Nodup):Good N (we N h v):=by
 have zW:(N.i≠N.j/\N.i≠N.s/\N.i≠N.t/\N.i≠N.r)/\(N.j≠N.s/\N.j≠N.t/\N.j≠N.r)/\(N.s≠N.t/\N.s≠N.r)/\N.t≠N.r:=by simpa[jJ] using nd
 obtain⟨⟨a1,a2,a3,a4⟩,⟨b1,b2,b3⟩,⟨c1,c2⟩,d1⟩:=zW;have hh:∀x y,bC (we N h v).ks (we N h v).is (.inr x)=some y->Em (we N h v) x/\(we N h v).get x=y:=λx y z=>by
  have g:(we N h v).get x=y:=by unfold Ev.get;rw[z];rfl
  exact⟨by unfold Em;rw[z,g],g⟩
 have hi:=hh N.i (.num 0) (by simp[we,jJ,bC]);have hj:=hh N.j (.num 0) (by simp[we,jJ,bC]);have hs:=hh N.s (.num 0) (by simp[we,jJ,bC]);have ht:=hh N.t (.num v) (by simp[we,jJ,bC,a3,b2,c1]);have hr:=hh N.r (.rB ((h.a+1:Nat):Int) 0) (by simp[we,jJ,bC,a4,b3,c2,d1]);refine⟨rfl,by show 5<=10;omega,λx hx=>?_,λx hx=>?_⟩;simp only[c7,gE,or_false] at hx;obtain rfl|rfl|rfl|rfl|rfl:=hx
 exact hi.1;exact hj.1;exact hs.1;exact ht.1;exact hr.1;simp only[c7,gE,or_false] at hx;obtain rfl|rfl|rfl|rfl:=hx
 exact⟨_,hi.2⟩;exact⟨_,hj.2⟩;exact⟨_,hs.2⟩;exact⟨_,ht.2⟩
section
noncomputable abbrev Xi:qai:=["_law_rows_here","_law_first","_law_names_here","_law_number","_law_held","_law_doings"]
theorem Iz:aE Xi qaU (aj Ii):=L2.gB
theorem R8(D:Df K mg "_law_due" Ii qaU f fd)(M:N_ mg)(rf:cq P w K mg base "_law_note" qaS 2 (mK K [false,true,true,false] Ca))(R9:cq P w K mg base "_law_turn" qaT 4 (mK K [false,true,true,false,false] Oa)):cq P w K mg base "_law_due" qaU 5 (dO K 4 Ob):=by
 obtain⟨Ir,Cd,ku,ky,kz,kA⟩:=rf;obtain⟨ac9,YG,R_,Sa,Sb,Sd⟩:=R9;refine D.gK (oN D.F Iz rfl λbz A outer s H E Ox hr ts q hG=>?_);have nd:=Iz.nd;have hu:=bx.gq hr;have np:∀{i:Nat},bG ⟨H,[],Ox⟩ i:=nH;have Te:∀{is:qao},∀i∈is,bG ⟨H,[],Ox⟩ i:=λi _=>nH;have kE:=lh hu;refine⟨_,(ah (eS (i:=4) nd rfl (Or.inl rfl) (qau (Vp (iT (qas (aA (ae 2) (qas af))) (qat af) (iT (qas (aA (ae 2) (qas af))) (qat af) (iT (qas (aA (ae 2) (qas af))) (qat af) (iT (qas (aA (ae 2) (qas af))) (aq 3) (iT (qas (aA (ae 2) (qas af))) (qat (aJ (aa (qat (bu (ae 1) (qas af))) (aa (qat af) ak)))) KR))))) (by decide))) np)
  (ah (eS (i:=5) nd rfl (Or.inl rfl) (qau (dw (aa (qat (aJ (aa (aq 1) (aa (qat (aJ (aa (aq 3) ak))) (aa (qat c_) ak))))) (aa (qat (aJ (aa (qat (bu (ae 1) (qas af))) (aa (qat (aJ ak)) (aa (qat (aJ (aa (qat (bu (ae 1) (qas af))) (aa (qat af) ak)))) ak))))) ak)))) np)
  (ah (bo (fH kA (hr.mono (by decide)) (by rfl) ku ky kz (cj (aq 0) (cZ 4 (cZ 5 (cj (qat (bu (ae 1) (qas af))) ia))))))
  (ah (iN Ea (nF hu (qas (fK kE (ae 4) (qas (aA (ae 2) (qas af))))) (qas af))
   (ah (bo (dZ 5 sG sH bc bj (aa (qat (aJ (aa (qat (bu (ae 1) (qas af))) (aa (qat (aJ (aa (qat (fK kE (ae 4) (qas (aA (ae 2) (qas af))))) ak))) (aa (qat af) ak))))) ak)))
   (aw (Cf (fH Sd (hr.mono (by decide)) (by rfl) R_ Sa Sb (cj (aq 0) (cZ 4 (cZ 5 (cj (qat (bu (ae 1) (qas af))) (cj (aq 2) ia))))))
    (oM [5] (aw (aW (qau (aJ (aa (aq 5) (aa (qat (aJ (aa (qat aI) (aa (qat (aA (ae 2) (qas af))) ak)))) ak)))))) Te)
    aQ))))
  (ah (bo (dZ 5 sG sH bc bj (aa (qat (aJ (aa (qat (bu (ae 1) (qas af))) (aa (qat (aJ (aa (qat af) ak))) (aa (qat af) ak))))) ak)))
  (ah (bo (dZ 5 sG sH bc bj (aa (qat (aJ (aa (qat (h7 (qas (bK bM bN (by rfl) M.len wm (a9 (ae 0) bw))) (qas af))) (aa (qat (aJ (aa (qat (fK kE (ae 4) (qas (aA (ae 2) (qas af))))) ak))) (aa (qat (fK kE (ae 4) (qas (aA (ae 2) (qas af))))) ak))))) ak)))
  (oM [5] (aw (aW (qau (aJ (aa (aq 5) (aa (qat (aJ (aa (qat aI) (aa (qat (fK kE (ae 4) (qas (aA (ae 2) (qas af))))) ak)))) ak)))))) Te))))))),λ_=>?_⟩
 obtain⟨N,h,v,rfl,nd,D5,qC,ha,Ek,YB,hn,hq⟩:=hG;have nA:∀(k:Nat) x,(jJ N)[k]?=some x->jN ((jJ N).map T.str) (k:Int)=some (.str x):=λk x hx=>by refine ai ?_;rw[jC,hx];rfl
 have e1:(h.a:Int)+1=((h.a+1:Nat):Int):=by push_cast;rfl
 have e2:(h.a:Int)+2=((h.a+2:Nat):Int):=by push_cast;rfl
 have e3:(h.a:Int)+3=((h.a+3:Nat):Int):=by push_cast;rfl
 have e4:(h.a:Int)+4=((h.a+4:Nat):Int):=by push_cast;rfl
 have G0:=Iy (h:=h) (v:=v) nd;have g0:=Mm (h:=h) (v:=v) nd;obtain⟨u1,u2,u3,u4⟩:=(Xh N (h.c0:Int)).rw G0;refine⟨_,nA 0 _ rfl,_,nA 1 _ rfl,_,nA 2 _ rfl,_,nA 3 _ rfl,_,nA 4 _ rfl,Gen.bJ rfl,rfl,(by show 5<=15;omega),?_,?_⟩;show ([N.i,N.j,N.s,N.t,N.r].map (Sum.inr:Str->Key)).Nodup;exact List.Pairwise.map _ (λa b hab z=>hab (Sum.inr.inj z)) nd;refine⟨Gen.bJ rfl,Gen.bJ rfl,Gen.bJ rfl,Gen.bJ rfl,Gen.bJ rfl,Gen.bJ rfl,?_⟩;refine⟨ay N h,we N h v,Ay h v,h.a+2,_,?_,gd 2,u1,by have:=G0.n;omega,by show 2<=_;omega,?_⟩;rw[<- e2];unfold Ay we;rw[<- e1];rfl;have hS:cc.outer N h h.c0 ⟨((we N h v).put (yO (.put N.i (.nu (h.c0:Int)))) (dD (we N h v).get (.put N.i (.nu (h.c0:Int))))).get,Ay h v++[jZ (we N h v).get (h.a+2) (.put N.i (.nu (h.c0:Int)))]⟩=cc.outer N h h.c0 (note (h.a+2) (.put N.i (.nu h.c0)) ⟨φ0 N h v,Ay h v⟩):=by rw[u4,g0];rfl
 unfold fS at hq;generalize cc.outer N h h.c0 (note (h.a+2) (.put N.i (.nu h.c0)) ⟨φ0 N h v,Ay h v⟩)=S at hS hq;refine⟨λm ρ=>∃e' j3,ρ=[some (.lst ((ay N h).map a8),false),some (.int (h.a:Int),false),some (dJ (jJ N),false),some (.int v,false),some (.dk e'.ks e'.ts,true),some (.lst j3,true)]/\Good N e'/\e'.get N.i=.num (m:Int)/\m<=60/\j3.length+22 * m<=2000/\cc.outer N h m ⟨e'.get,j3⟩=S,⟨h.c0,_,_,rfl,u3,G0.L.get _ _,YB,by show 3+_<=_;omega,hS⟩,?_⟩;rintro m ρ ⟨e',j3,rfl,G',hi,hm,t_,oX⟩;have mi:N.i∈[N.i,N.j,N.s,N.t,N.r]:=.head _;have hit:=(G'.has N.i mi).t;rw[hi] at hit;obtain⟨k,hk⟩:∃k:Int,k=(m:Int):=⟨_,rfl⟩;have R7:=hit;rw[<- hk] at R7;cases m with
 |zero=>
  refine⟨_,nA 0 _ rfl,_,R7,?_⟩;refine mU (c:=!decide (k=0)) (by rw[hk];rfl) ?_;have Cv:=(G'.has N.s (.tail _ (.tail _ (.head _)))).t;subst oX;have el:(((ay N h).map a8).length:Int)-1=((E2 N h+3:Nat):Int):=by rw[c6,hn];omega
  refine⟨Gen.bJ rfl,Gen.bJ rfl,leB (by omega),?_⟩;have g_:q (.vw (.tup [.lst ((j3++[bp (h.a+3) (.num 0)])++[.tup [.int ((E2 N h+3:Nat):Int),.tup [vT (e'.get N.s)],vT (e'.get N.s)]]),tQ (e'.get N.s)])):=hq;rw[<- el,show bp (h.a+3) (.num 0)=T.tup [.int ((h.a:Int)+3),.tup [.int 0],.int 0] by rw[e3];rfl] at g_;refine⟨_,nA 2 _ rfl,_,Cv,Gen.bJ rfl,_,nA 2 _ rfl,_,Cv,Gen.bJ rfl,leB ?_,_,nA 2 _ rfl,_,Cv,Gen.bJ rfl,Gen.bJ rfl,g_⟩;show (j3++[_]).length+1<=_;rw[eC];show _+1+1<=_;omega
 |succ m=>
  refine⟨_,nA 0 _ rfl,_,R7,?_⟩;refine uK (c:=!decide (k=0)) (by rw[decide_eq_false (by omega)];rfl) ?_;have d1:(j3++[bp (h.a+3) (.num ((m+1:Nat):Int))]).length=j3.length+1:=eC;refine⟨_,nA 0 _ rfl,_,hit,Gen.bJ rfl,Gen.bJ rfl,leB (by omega),?_⟩;have hT:=Iw (N:=N) Ek ⟨e'.get,j3++[bp (h.a+3) (.num ((m+1:Nat):Int))]⟩;have hT':_<=(j3++[bp (h.a+3) (.num ((m+1:Nat):Int))]).length+21:=hT;have Iv:(match jc N h ⟨e'.get,j3++[bp (h.a+3) (.num ((m+1:Nat):Int))]⟩ with
   | (s2,false)=>(s2,false)
   | (s2,true)=>cc.outer N h m s2)=S:=oX
  have i1:(jc N h ⟨e'.get,j3++[bp (h.a+3) (.num ((m+1:Nat):Int))]⟩).1.φ N.i=.num (m:Int):=by unfold jc;rw[kr (h:=h) (x:=N.i) D5.is.symm D5.it.symm D5.ij.symm D5.ei];show o9 (o9 e'.get N.i (dD e'.get (.cH N.i (.nm N.i) "minus" (.nu 1)))) N.j _ N.i=_;unfold o9;rw[if_neg D5.ij,if_pos rfl,show dD e'.get (.cH N.i (.nm N.i) "minus" (.nu 1))=.num (bP (nm (e'.get N.i)-nm (.num 1))) from rfl,hi];show Vl.num (bP (((m+1:Nat):Int)-1))=_;rw[Int.natCast_add];exact congrArg Vl.num (jz (by omega))
  refine⟨N,h,e',j3++[bp (h.a+3) (.num ((m+1:Nat):Int))],?_,G',D5,qC,ha,Ek,by omega,λe3 G3 g3=>?_⟩;rw[yD,<- e3,<- e4];rfl;generalize jc N h ⟨e'.get,j3++[bp (h.a+3) (.num ((m+1:Nat):Int))]⟩=sd at Iv g3 i1 hT' ⊢;obtain⟨s2,b⟩:=sd;have g3':e3.get=s2.φ:=g3;have es:(⟨e3.get,s2.dn⟩:St)=s2:=by rw[g3']
  cases b with
  |false=>have hS3:(s2,false)=S:=Iv;subst hS3;exact⟨_,nA 3 _ rfl,Gen.bJ rfl,Gen.bJ rfl,hq⟩
  |true=>have hS3:cc.outer N h m s2=S:=Iv;exact⟨m,wj _,e3,s2.dn,rfl,G3,by rw[g3'];exact i1,by omega,by have:s2.dn.length<=_:=hT';omega,by rw[es];exact hS3⟩
end
structure DZ(N:N5)(h:Sh):Prop where
 a:h.a<=2
 c0:h.c0<=60
 c1:h.c1<=3
 op:W' N h.op
 nu:∀i,h.op=.nu i->-1<=i/\i<=1
 e:h.e2=true->h.e1=true
def IA(ts:qaj)(q:qam):Prop:=∃(N:N5)(hd:Int),ts=[dJ (jJ N),.int hd]/\0<=hd/\hd<1000000000 /\
 ∀h:Sh,DZ N h->q (.vw (.tup [.lst ((ay N h).map a8),.int (h.a:Int)]))
def P0(N:N5)(h:Sh):qal:=List.replicate h.a .skip
noncomputable def P3(N:N5)(h:Sh):qal:=P0 N h++[.df N.s [N.t],.new N.r,.put N.i (.nu h.c0)]
noncomputable def P5(N:N5)(h:Sh):qal:=P3 N h++[.iC (.nm N.i),.cH N.i (.nm N.i) "minus" (.nu 1)]
noncomputable def P8(N:N5)(h:Sh):qal:=P5 N h++[.put N.j (.nu h.c1),.iC (.nm N.j),.cH N.j (.nm N.j) "minus" (.nu 1)]
noncomputable def P9(N:N5)(h:Sh):qal:=P8 N h++[.iG h.op]
noncomputable def Mn(N:N5)(h:Sh):qal:=P9 N h++(if h.b1=true then [.cH N.s (.nm N.s) "plus" (.nm N.j)] else [])
noncomputable def Mo(N:N5)(h:Sh):qal:=Mn N h++(if h.b2=true then [.fail N.t] else [])
noncomputable def Ji(N:N5)(h:Sh):qal:=Mo N h++gc N h
noncomputable def Se(N:N5)(h:Sh):qal:=Ji N h++[.fin]
noncomputable def Oc(N:N5)(h:Sh):qal:=Se N h++du N h
theorem Xj(N:N5)(h:Sh):ay N h=Oc N h++[.fin,.skip,.fin,.give (.nm N.s)]:=by simp only[ay,qX,n_,dX,Oc,Se,Ji,Mo,Mn,P9,P8,P5,P3,P0,MB,Jk,MC]
noncomputable def vV(N:N5)(hd:Int)(F:N5->Sh->qal):FS:=λd ρ=>(∃(h:Sh)(L:qaj),DZ N h/\L=(F N h).map a8/\ρ=[some (dJ (jJ N),false),some (.int hd,false),some (.str N.i,false),some (.str N.j,false),some (.str N.s,false),some (.str N.t,false),some (.str N.r,false),some (.lst L,true),some (.int (h.a:Int),false)]) /\
 ∀(h:Sh) ρ',DZ N h->d.rt ρ' (.vw (.tup [.lst ((ay N h).map a8),.int (h.a:Int)]))
theorem Xk(N:N5)(h:Sh)(ha:h.a<=2):(P9 N h).length<=11/\(Mn N h).length<=12/\(Mo N h).length<=13/\(Ji N h).length<=15/\(Se N h).length<=16/\(Oc N h).length<=17:=by
 have h9:(P9 N h).length=h.a+3+2+3+1:=by simp[P9,P8,P5,P3,P0]
 have h10:(Mn N h).length<=(P9 N h).length+1:=by unfold Mn;rw[eC];split<;>simp
 have h11:(Mo N h).length<=(Mn N h).length+1:=by unfold Mo;rw[eC];split<;>simp
 have h12:(Ji N h).length<=(Mo N h).length+2:=by unfold Ji gc gb;rw[eC];split<;>(try split)<;>simp
 have h13:(Se N h).length=(Ji N h).length+1:=eC;have h14:(Oc N h).length<=(Se N h).length+1:=by unfold Oc du;rw[eC];split<;>simp
 omega
section
noncomputable abbrev Sf:qai:=["_law_names_here","_law_head","_law_i","_law_j","_law_s","_law_t","_law_r","_law_rows_here","_law_first"]
theorem Ci:aE Sf qaV (aj AB):=L2.gB
theorem Mp(D:Df K mg "_law_rows" AB qaV f fd)(M:N_ mg):cq P w K mg base "_law_rows" qaV 1 (dO K 2 IA):=by
 refine D.gK (oN D.F Ci rfl λbz A outer s H E Ox hr ts q hG=>?_);have nd:=Ci.nd;have hu:=bx.gq hr;have np:∀{i:Nat},bG ⟨H,[],Ox⟩ i:=nH;have Te:∀{is:qao},∀i∈is,bG ⟨H,[],Ox⟩ i:=λi _=>nH;obtain⟨N,hd,rfl,h0,h9,hq⟩:=hG;refine⟨_,(ah (Fs (aq 0) (RS (n:=5) rfl (cg (bE (i:=2) nd rfl (Or.inl rfl) np) (cg (bE (i:=3) nd rfl (Or.inl rfl) np) (cg (bE (i:=4) nd rfl (Or.inl rfl) np) (cg (bE (i:=5) nd rfl (Or.inl rfl) np) (cg (bE (i:=6) nd rfl (Or.inl rfl) np) jk)))))))
  (ah (eS (i:=7) nd rfl (Or.inl rfl) (qau (qd (dw (aa (qat (aJ (aa (qat aI) ak))) ak)) (qas (bY (ae 1) (qas af))))) np)
  (ah (bq (i:=8) nd rfl (Or.inl rfl) (qau (bK bM bN (by rfl) M.len wm (a9 (ae 7) bw))) np)
  (iF.weak (u:=(vV N hd P0)) (ah (bo (oY 7 (dw (aa (qat (aJ (aa (qat aI) (aa (aq 4) (aa (qat (aJ (aa (aq 5) ak))) ak))))) (aa (qat (aJ (aa (qat aI) (aa (aq 6) ak)))) (aa (qat (aJ (aa (qat aI) (aa (aq 2) (aa (qat (aA (qas (dw (aa (qat af) (aa (qat af) (aa (qat af) (aa (qat af) (aa (qat af) ak))))))) (qas (bY (qas (di (ae 1) (qas af))) (qas af))))) ak))))) ak))))))
  (iF.weak (u:=(vV N hd P3)) (ah (bo (oY 7 (dw (aa (qat (aJ (aa (qat aI) (aa (aq 2) ak)))) (aa (qat (aJ (aa (qat aI) (aa (aq 2) (aa (aq 2) (aa (qat aI) (aa (qat af) ak))))))) ak)))))
  (iF.weak (u:=(vV N hd P5)) (ah (bo (oY 7 (dw (aa (qat (aJ (aa (qat aI) (aa (aq 3) (aa (qat (bY (qas (di (ae 1) (qas af))) (qas af))) ak))))) (aa (qat (aJ (aa (qat aI) (aa (aq 3) ak)))) (aa (qat (aJ (aa (qat aI) (aa (aq 3) (aa (aq 3) (aa (qat aI) (aa (qat af) ak))))))) ak))))))
  (iF.weak (u:=(vV N hd P8)) (ah (bo (dZ 7 sG sH bc bj (aa (qat (aJ (aa (qat aI) (aa (qat (aA (qas (dw (aa (aq 2) (aa (aq 3) (aa (aq 5) (aa (aq 6) (aa (qat (h7 (qas (bY (qas (di (ae 1) (qas af))) (qas af))) (qas af))) ak))))))) (qas (bY (qas (di (ae 1) (qas af))) (qas af))))) ak)))) ak)))
  (iF.weak (u:=(vV N hd P9)) (ah (bQ (wR (qas (bY (qas (di (ae 1) (qas af))) (qas af))) (qas af))
   (aw (bo (dZ 7 sG sH bc bj (aa (qat (aJ (aa (qat aI) (aa (aq 4) (aa (aq 4) (aa (qat aI) (aa (aq 3) ak))))))) ak))))
   aQ)
  (iF.weak (u:=(vV N hd Mn)) (ah (bQ (cJ hu (qas (bY (qas (di (ae 1) (qas af))) (qas af))) (qas af))
   (aw (bo (dZ 7 sG sH bc bj (aa (qat (aJ (aa (qat aI) (aa (aq 5) ak)))) ak))))
   aQ)
  (iF.weak (u:=(vV N hd Mo)) (ah (bQ (wR (qas (bY (qas (di (ae 1) (qas af))) (qas af))) (qas af))
   (aw (bo (dZ 7 sG sH bc bj (aa (qat (aJ (aa (qat aI) ak))) ak))))
   aQ)
  (ah (bQ (wR (qas (bY (qas (di (ae 1) (qas af))) (qas af))) (qas af))
   (aw (bo (dZ 7 sG sH bc bj (aa (qat (aJ (aa (qat aI) (aa (aq 4) (aa (aq 2) (aa (qat aI) (aa (aq 4) ak))))))) ak))))
   aQ)
  (iF.weak (u:=(vV N hd Ji)) (ah (bo (dZ 7 sG sH bc bj (aa (qat (aJ (aa (qat aI) ak))) ak)))
  (ah (bQ (cJ hu (qas (bY (qas (di (ae 1) (qas af))) (qas af))) (qas af))
   (aw (bo (dZ 7 sG sH bc bj (aa (qat (aJ (aa (qat aI) (aa (aq 5) (aa (aq 4) ak))))) ak))))
   aQ)
  (iF.weak (u:=(vV N hd Oc)) (ah (bo (oY 7 (dw (aa (qat (aJ (aa (qat aI) ak))) (aa (qat (aJ (aa (qat aI) ak))) (aa (qat (aJ (aa (qat aI) ak))) (aa (qat (aJ (aa (qat aI) (aa (aq 4) ak)))) ak)))))))
  (oM [7] (aw (aW (qau (aJ (aa (aq 7) (aa (aq 8) ak)))))) Te)) ?w14))) ?w12))) ?w11)) ?w10)) ?w9)) ?w8)) ?w5)) ?w3)) ?w0)))),λ_=>?main⟩
 case main=>
  obtain⟨a,ea⟩:∃a:Nat,(a:Int)=hd % 3:=⟨(hd % 3).toNat,by omega⟩;refine⟨rfl,rfl,Gen.bJ rfl,Gen.bJ rfl,by decide,by omega,by omega,leB (by show 1 * (hd % 3).toNat<=_;omega),?_⟩;have er:(List.replicate (hd % 3).toNat [(Rt.vw (T.tup [(Rt.vw (T.str "skip")).t])).t]).flatten=List.replicate a (T.tup [.str "skip"]):=by rw[show (hd % 3).toNat=a by omega];exact List.flatten_replicate_singleton
  rw[er];refine⟨⟨⟨a,0,0,.nu 0,false,false,false,false,false⟩,_,⟨by show a<=2;omega,jL _,jL _,trivial,(λi hi=>by cases hi;omega),λz=>z⟩,List.map_replicate.symm,?_⟩,λh ρ' ok=>hq h ok⟩;have el:((List.replicate a (T.tup [.str "skip"])).length:Int)=(a:Int):=by rw[yU]
  rw[<- el];rfl
 case w0=>
  have hA:∃c0:Nat,c0<=60/\jN [T.int 0,.int 1,.int 2,.int 4,.int 60] (hd / 3 % 5)=some (.int (c0:Int)):=by
   have:hd / 3 % 5=0\/hd / 3 % 5=1\/hd / 3 % 5=2\/hd / 3 % 5=3\/hd / 3 % 5=4:=by omega
   obtain z|z|z|z|z:=this<;>rw[z]
   exact⟨0,by omega,rfl⟩;exact⟨1,by omega,rfl⟩;exact⟨2,by omega,rfl⟩;exact⟨4,by omega,rfl⟩;exact⟨60,by omega,rfl⟩
  obtain⟨c0,YB,hA⟩:=hA;rintro d ρ ⟨⟨h,L,ok,hL,rfl⟩,fin⟩;have hl:L.length<=2:=by rw[hL,c6];show (List.replicate h.a _).length<=2;rw[yU];exact ok.a
  refine⟨Gen.bJ rfl,Gen.bJ rfl,Gen.bJ rfl,Gen.bJ rfl,⟨by decide,by decide⟩,by decide,_,hA,Gen.bJ rfl,Gen.bJ rfl,leB (by show L.length+3<=_;omega),?_⟩;refine⟨⟨⟨h.a,c0,h.c1,h.op,h.b1,h.b2,h.e1,h.e2,h.b4⟩,_,⟨ok.a,YB,ok.c1,ok.op,ok.nu,ok.e⟩,?_,rfl⟩,fin⟩;rw[hL];unfold P3;rw[kH];rfl
 case w3=>
  rintro d ρ ⟨⟨h,L,ok,hL,rfl⟩,fin⟩;have hl:L.length<=5:=by rw[hL,c6];unfold P3 P0;rw[eC,yU];have:=ok.a;show _+3<=_;omega
  refine⟨Gen.bJ rfl,Gen.bJ rfl,Gen.bJ rfl,leB (by show L.length+2<=_;omega),⟨h,_,ok,?_,rfl⟩,fin⟩;rw[hL];unfold P5;rw[kH];rfl
 case w5=>
  rintro d ρ ⟨⟨h,L,ok,hL,rfl⟩,fin⟩;obtain⟨c1,ec⟩:∃c:Nat,(c:Int)=hd / 15 % 4:=⟨(hd / 15 % 4).toNat,by omega⟩;have hl:L.length<=7:=by rw[hL,c6];unfold P5 P3 P0;rw[eC,eC,yU];have:=ok.a;show _+3+2<=_;omega
  refine⟨⟨by decide,by decide⟩,by decide,Gen.bJ rfl,Gen.bJ rfl,Gen.bJ rfl,Gen.bJ rfl,leB (by show L.length+3<=_;omega),⟨⟨h.a,h.c0,c1,h.op,h.b1,h.b2,h.e1,h.e2,h.b4⟩,_,⟨ok.a,ok.c0,by show c1<=3;omega,ok.op,ok.nu,ok.e⟩,?_,rfl⟩,fin⟩;rw[hL,<- ec];unfold P8;rw[kH];rfl
 case w8=>
  rintro d ρ ⟨⟨h,L,ok,hL,rfl⟩,fin⟩;have hB:∃op:jT,W' N op/\(∀i,op=.nu i->-1<=i/\i<=1)/\jN [T.str N.i,.str N.j,.str N.t,.str N.r,.int (hd / 60 % 3-1)] (hd / 180 % 5)=some (jr op):=by
   have:hd / 180 % 5=0\/hd / 180 % 5=1\/hd / 180 % 5=2\/hd / 180 % 5=3\/hd / 180 % 5=4:=by omega
   obtain z|z|z|z|z:=this<;>rw[z]
   exact⟨.nm N.i,.head _,(λi hi=>by cases hi),rfl⟩;exact⟨.nm N.j,.tail _ (.head _),(λi hi=>by cases hi),rfl⟩;exact⟨.nm N.t,.tail _ (.tail _ (.tail _ (.head _))),(λi hi=>by cases hi),rfl⟩;exact⟨.nm N.r,.tail _ (.tail _ (.tail _ (.tail _ (.head _)))),(λi hi=>by cases hi),rfl⟩;exact⟨.nu (hd / 60 % 3-1),trivial,(λi hi=>by cases hi;omega),rfl⟩
  obtain⟨op,qC,hnu,hB⟩:=hB;have hl:L.length<=10:=by rw[hL,c6];unfold P8 P5 P3 P0;rw[eC,eC,eC,yU];have:=ok.a;show _+3+2+3<=_;omega
  refine⟨⟨by decide,by decide⟩,by decide,Gen.bJ rfl,⟨by decide,by decide⟩,by decide,_,hB,Gen.bJ rfl,leB (by show L.length+1<=_;omega),⟨⟨h.a,h.c0,h.c1,op,h.b1,h.b2,h.e1,h.e2,h.b4⟩,_,⟨ok.a,ok.c0,ok.c1,qC,hnu,ok.e⟩,?_,rfl⟩,fin⟩;rw[hL];unfold P9;rw[kH];rfl
 case w9=>
  rintro d ρ ⟨⟨h,L,ok,hL,rfl⟩,fin⟩;have hl:L.length<=11:=by rw[hL,c6];exact (Xk N h ok.a).1
  refine⟨⟨by decide,by decide⟩,by decide,gr (λz=>?_) (λz=>?_)⟩;refine⟨Gen.bJ rfl,leB (by omega),⟨⟨h.a,h.c0,h.c1,h.op,true,h.b2,h.e1,h.e2,h.b4⟩,_,⟨ok.a,ok.c0,ok.c1,ok.op,ok.nu,ok.e⟩,?_,rfl⟩,fin⟩;rw[hL];unfold Mn;rw[kH];rfl;refine⟨⟨⟨h.a,h.c0,h.c1,h.op,false,h.b2,h.e1,h.e2,h.b4⟩,_,⟨ok.a,ok.c0,ok.c1,ok.op,ok.nu,ok.e⟩,?_,rfl⟩,fin⟩;rw[hL];unfold Mn;rw[kH];exact (AZ _).symm
 case w10=>
  rintro d ρ ⟨⟨h,L,ok,hL,rfl⟩,fin⟩;have hl:L.length<=12:=by rw[hL,c6];exact (Xk N h ok.a).2.1
  refine⟨⟨by decide,by decide⟩,by decide,gr (λz=>?_) (λz=>?_)⟩;refine⟨Gen.bJ rfl,leB (by omega),⟨⟨h.a,h.c0,h.c1,h.op,h.b1,true,h.e1,h.e2,h.b4⟩,_,⟨ok.a,ok.c0,ok.c1,ok.op,ok.nu,ok.e⟩,?_,rfl⟩,fin⟩;rw[hL];unfold Mo;rw[kH];rfl;refine⟨⟨⟨h.a,h.c0,h.c1,h.op,h.b1,false,h.e1,h.e2,h.b4⟩,_,⟨ok.a,ok.c0,ok.c1,ok.op,ok.nu,ok.e⟩,?_,rfl⟩,fin⟩;rw[hL];unfold Mo;rw[kH];exact (AZ _).symm
 case w11=>
  rintro d ρ ⟨⟨h,L,ok,hL,rfl⟩,fin⟩;have hl:L.length<=13:=by rw[hL,c6];exact (Xk N h ok.a).2.2.1
  refine⟨⟨by decide,by decide⟩,by decide,gr (λz=>?_) (λz=>?_)⟩;refine⟨Gen.bJ rfl,leB (by omega),⟨by decide,by decide⟩,by decide,gr (λz2=>?_) (λz2=>?_)⟩;refine⟨Gen.bJ rfl,leB (by rw[eC];show L.length+1+1<=_;omega),⟨⟨h.a,h.c0,h.c1,h.op,h.b1,h.b2,true,true,h.b4⟩,_,⟨ok.a,ok.c0,ok.c1,ok.op,ok.nu,λ_=>rfl⟩,?_,rfl⟩,fin⟩;rw[hL,MB];unfold Ji;rw[kH];rfl;refine⟨⟨⟨h.a,h.c0,h.c1,h.op,h.b1,h.b2,true,false,h.b4⟩,_,⟨ok.a,ok.c0,ok.c1,ok.op,ok.nu,λ_=>rfl⟩,?_,rfl⟩,fin⟩;rw[hL];unfold Ji;rw[kH];rfl;refine⟨⟨by decide,by decide⟩,by decide,gr (λz2=>absurd z2 ?_) (λz2=>?_)⟩;have z':¬ (0:Int)<hd / 18000 % 3:=z;show ¬ (1:Int)<hd / 18000 % 3;omega;refine⟨⟨⟨h.a,h.c0,h.c1,h.op,h.b1,h.b2,false,false,h.b4⟩,_,⟨ok.a,ok.c0,ok.c1,ok.op,ok.nu,λz=>z⟩,?_,rfl⟩,fin⟩;rw[hL];unfold Ji;rw[kH];exact (AZ _).symm
 case w12=>
  rintro d ρ ⟨⟨h,L,ok,hL,rfl⟩,fin⟩;have hl:L.length<=15:=by rw[hL,c6];exact (Xk N h ok.a).2.2.2.1
  refine⟨Gen.bJ rfl,leB (by omega),⟨by decide,by decide⟩,by decide,gr (λz=>?_) (λz=>?_)⟩;refine⟨Gen.bJ rfl,leB (by rw[eC];show L.length+1+1<=_;omega),⟨⟨h.a,h.c0,h.c1,h.op,h.b1,h.b2,h.e1,h.e2,true⟩,_,⟨ok.a,ok.c0,ok.c1,ok.op,ok.nu,ok.e⟩,?_,rfl⟩,fin⟩;rw[hL];unfold Oc Se;rw[kH,kH];rfl;refine⟨⟨⟨h.a,h.c0,h.c1,h.op,h.b1,h.b2,h.e1,h.e2,false⟩,_,⟨ok.a,ok.c0,ok.c1,ok.op,ok.nu,ok.e⟩,?_,rfl⟩,fin⟩;rw[hL];unfold Oc Se;rw[kH,kH];exact (AZ _).symm
 case w14=>
  rintro d ρ ⟨⟨h,L,ok,hL,rfl⟩,fin⟩;have hl:L.length<=17:=by rw[hL,c6];exact (Xk N h ok.a).2.2.2.2.2
  refine⟨Gen.bJ rfl,Gen.bJ rfl,Gen.bJ rfl,Gen.bJ rfl,Gen.bJ rfl,leB (by show L.length+4<=_;omega),?_⟩;have eR:L++[T.tup [.str "end"],.tup [.str "skip"],.tup [.str "end"],.tup [.str "give",.str N.s]]=(ay N h).map a8:=by rw[hL,Xj,kH];rfl
  show UY [7] (UW (fX (UL (gh (ow 7) (gh (ow 8) ux))))) d [some (dJ (jJ N),false),some (T.int hd,false),some (T.str N.i,false),some (T.str N.j,false),some (T.str N.s,false),some (T.str N.t,false),some (T.str N.r,false),some (T.lst (L++[T.tup [.str "end"],.tup [.str "skip"],.tup [.str "end"],.tup [.str "give",.str N.s]]),true),some (T.int ↑h.a,false)];rw[eR];exact⟨Gen.bJ rfl,fin h _ ok⟩
end
end cc
namespace VT
open PySem PySem.Spec PyProof.Rows L2
end VT
set_option exponentiation.threshold 4000
namespace cc
open PySem L2 VT Gen DV Rg Lay K5
open jY (dJ B8 vO)
open wL (cP)
open mn (Vl vT nm bP RI bg QY pw bgS)
def Mq(ts:qaj)(q:qam):Prop:=∃ns:qan,ts=[.lst (ns.map .int)]/\ns.length<=63/\q (.vw (.bl true))
abbrev Od:T:=.int 200
theorem Xl{tk:Tok}:RelV (.int 200) (.int 200 tk):=⟨_,rfl⟩
theorem Xm{A:qah}:At K H A Od (.int 200):=bf
theorem IB(h:cP x=true):x.length<=8:=by unfold cP at h;simp only[mh,decide_eq_true_eq] at h;omega
theorem Cj(h:cP x=true):Str.empty≠x:=by rintro rfl;exact absurd h (by decide +kernel)
theorem Sg{N:N5}(nd:(jJ N).Nodup)(hn:∀y∈jJ N,cP y=true):RP N:=by
 have zW:(N.i≠N.j/\N.i≠N.s/\N.i≠N.t/\N.i≠N.r)/\(N.j≠N.s/\N.j≠N.t/\N.j≠N.r)/\(N.s≠N.t/\N.s≠N.r)/\N.t≠N.r:=by simpa[jJ] using nd
 obtain⟨⟨a1,a2,a3,a4⟩,⟨b1,b2,b3⟩,⟨c1,c2⟩,d1⟩:=zW;exact⟨a1,a2,a3,b1,b2,Cj (hn _ (.head _)),Cj (hn _ (.tail _ (.head _)))⟩
theorem rh{i:Int}(h1 : -1<=i)(h2:i<=60):vB (.nu i):=by show RI i;unfold mn.RI;omega
def AO(l:qal):Prop:=∀r∈l,Rk r
theorem ada{N:N5}{h:Sh}(F:Fx N h)(ok:DZ N h)(hn:∀y∈jJ N,cP y=true):Wl (ay N h):=by
 have Xn:∀y∈jJ N,vB (.nm y):=λy hy=>⟨hn y hy,by have:=IB (hn y hy);omega⟩;have oi:=Xn N.i (.head _);have oj:=Xn N.j (.tail _ (.head _));have os:=Xn N.s (.tail _ (.tail _ (.head _)));have ot:=Xn N.t (.tail _ (.tail _ (.tail _ (.head _))));have nil:AO []:=λr hr=>nomatch hr;have cons:∀{r:Rw}{l:qal},Rk r->AO l->AO (r::l):=λh1 h2 r' hr=>by
  rcases c7.mp hr with z|z
  rw[z];exact h1;exact h2 r' z
 have app:∀{l m:qal},AO l->AO m->AO (l++m):=λh1 h2 r hr=>(cU.mp hr).elim (h1 r) (h2 r);have IC:∀{b:Bool}{l:qal},AO l->AO (if b=true then l else []):=λ{b l} h1=>by cases b;exact nil;exact h1
 have oop:vB h.op:=by
  cases ho:h.op with
  |nm x=>exact Xn x (by have:=ok.op;rw[ho] at this;exact this)
  |nu i=>have:=ok.nu i ho;exact rh (by omega) (by omega)
 have c0:=ok.c0;have c1:=ok.c1;refine⟨F.B,?_,by rw[F.n];exact F.acY⟩;show AO _;unfold ay qX n_ dX gc gb du;refine app (λr hr=>by rw[List.eq_of_mem_replicate hr];trivial) (cons ⟨by show 1<=50;omega,λx hx=>by rw[eX.mp hx];exact ot⟩ (cons trivial (cons (rh (by omega) (by omega)) (cons oi (cons ⟨oi,.inr rfl,rh (by omega) (by omega)⟩ (cons (rh (by omega) (by omega)) (cons oj (cons ⟨oj,.inr rfl,rh (by omega) (by omega)⟩ (cons oop ?_)))))))));refine app (app (IC (cons ⟨os,.inl rfl,oj⟩ nil)) (IC (cons trivial nil))) (app (IC (cons trivial (IC (cons ⟨oi,.inr rfl,os⟩ nil)))) (cons trivial (app (IC (cons os nil)) (cons trivial (cons trivial (cons trivial (cons os nil)))))))
theorem Si{N:N5}{h:Sh}(ha:h.a<=2):gP (ay N h)=some h.a:=by
 obtain⟨a,c0,c1,op,b1,b2,e1,e2,b4⟩:=h;have:a=0\/a=1\/a=2:=by have:a<=2:=ha;omega
 obtain rfl|rfl|rfl:=this<;>rfl
theorem Xo{N:N5}{h:Sh}(F:Fx N h)(D:RP N)(ok:DZ N h)(W:Wl (ay N h))(v:Int)(more:qan)(m:Nat):B7 (ay N h) (v::more) m (sC m (fS N h (bP v))):=by
 have hg:(c5 [N.t] (LZ (v::more)) 1).get=o9 (λ_=>.num 0) N.t (.num (bP v)):=by show (Yv.put N.t (.num (bP v))).get=_;rw[qY (e:=Yv) (show Yv.L from rfl)];rfl
 have hX:dY (ay N h) (Yy h.a [N.t] (v::more)) (fS N h (bP v)):=Ih F D ok.c1 ok.c0 (Ib _ _ _) hg rfl;obtain⟨n,hn⟩:=(hX.cut W (HS W (gd 0) _)).2 m (jL _);exact .Rb (Si ok.a) (gd 0) hn
def LA(l:qaj):Prop:=∀t∈l,Sm.Lv 4 t
theorem LA.add{l:qaj}(h:LA l){t:T}(ht:Sm.Lv 4 t):LA (l++[t]):=λu hu=>(cU.mp hu).elim (h u) λz=>by rw[eX.mp z];exact ht
theorem AG(v:Vl):Sm.Lv (n+2) (vT v):=by
 cases v with
 |num i=>exact .inl ⟨i,rfl⟩
 |rB p r=>refine .inr (.inr (.inr (.inl ⟨_,rfl,by simp,λu hu=>?_⟩)));simp only[c7,gE,or_false] at hu;obtain rfl|rfl:=hu<;>exact .inl ⟨_,rfl⟩
theorem oa{p:Int}{us:qaj}{x:T}(hl:us.length<=1000)(hu:∀u∈us,∃v,u=vT v)(hx:Sm.Lv 3 x):Sm.Lv 4 (.tup [.int p,.tup us,x]):=by
 refine .inr (.inr (.inr (.inl ⟨_,rfl,by simp,λu h=>?_⟩)));simp only[c7,gE,or_false] at h;obtain rfl|rfl|rfl:=h
 exact .inl ⟨_,rfl⟩;refine .inr (.inr (.inr (.inl ⟨_,rfl,hl,λu h=>?_⟩)));obtain⟨v,rfl⟩:=hu u h;exact AG v;exact hx
theorem ma(φ:Fn)(p:Nat)(r:Rw):Sm.Lv 4 (jZ φ p r):=by
 cases r with
 |put x a=>exact oa (by simp[yw]) (λu hu=>⟨_,eX.mp hu⟩) (AG _)
 |cH x a op b=>refine oa (by simp[yw]) (λu hu=>?_) (AG _);simp only[yw,c7,gE,or_false] at hu;obtain z|z:=hu<;>exact⟨_,z⟩
 |_=>exact oa (by simp[yw]) (λu hu=>nomatch hu) (AG _)
theorem jB(p:Nat)(v:Vl):Sm.Lv 4 (bp p v):=oa (by simp) (λu hu=>⟨_,eX.mp hu⟩) (.inl ⟨_,rfl⟩)
theorem Mr(p:Nat):Sm.Lv 4 (B9 p):=oa (by simp) (λu hu=>nomatch hu) (.inr (.inr (.inl rfl)))
theorem LA.Cm:∀(l:qal)(p:Nat)(s:St),LA s.dn->LA (cx l p s).1.dn
 |[],p,s,h=>h
 |r::l,p,s,h=>by
  have ih:=LA.Cm l (p+1) (note p r s) (h.add (ma _ _ _));cases r with
  |fail t=>exact h.add (Mr p)
  |_=>exact ih
theorem LA.side{N:N5}{h:Sh}(s:St)(k:LA s.dn):LA (cc.side N h s).1.dn:=by unfold cc.side;split;exact LA.Cm _ _ _ (k.add (jB _ _));exact LA.Cm _ _ _ (k.add (jB _ _))
theorem LA.inner{N:N5}{h:Sh}:∀(m:Nat)(s:St),LA s.dn->LA (cc.inner N h m s).1.dn
 |0,s,k=>k.add (jB _ _)
 |m+1,s,k=>by
  have e:=LA.side (N:=N) (h:=h) (note (h.a+7) (.cH N.j (.nm N.j) "minus" (.nu 1)) ⟨s.φ,s.dn++[bp (h.a+6) (.num ((m+1:Nat):Int))]⟩) ((k.add (jB _ _)).add (ma _ _ _));unfold cc.inner;split
  rename_i s2 he
  rw[he] at e;exact e
  rename_i s2 he
  rw[he] at e;exact LA.inner m _ (LA.Cm _ _ _ e)
theorem LA.outer{N:N5}{h:Sh}:∀(m:Nat)(s:St),LA s.dn->LA (cc.outer N h m s).1.dn
 |0,s,k=>k.add (jB _ _)
 |m+1,s,k=>by
  have e:=LA.inner (N:=N) (h:=h) h.c1 (note (h.a+5) (.put N.j (.nu h.c1)) (note (h.a+4) (.cH N.i (.nm N.i) "minus" (.nu 1)) ⟨s.φ,s.dn++[bp (h.a+3) (.num ((m+1:Nat):Int))]⟩)) (((k.add (jB _ _)).add (ma _ _ _)).add (ma _ _ _));unfold cc.outer;split
  rename_i s2 he
  rw[he] at e;exact e
  rename_i s2 he
  rw[he] at e;exact LA.outer m _ e
theorem AH{t:T}(ht:Sm.Lv 4 t):Sm.Lv 5 (.tup [.str x,t]):=by
 refine .inr (.inr (.inr (.inl ⟨_,rfl,by simp,λu hu=>?_⟩)));simp only[c7,gE,or_false] at hu;obtain rfl|rfl:=hu
 exact .inr (.inl ⟨_,rfl⟩);exact ht
theorem ID(N:N5)(h:Sh)(v:Int):LA (fS N h v).1/\Sm.Lv 5 (fS N h v).2:=by
 have k0:LA (Ay h v):=λt ht=>by
  simp only[Ay,c7,gE,or_false] at ht;obtain rfl|rfl:=ht
  exact oa (by simp) (λu hu=>⟨.num v,eX.mp hu⟩) (.inr (.inr (.inl rfl)));exact oa (by simp) (λu hu=>nomatch hu) (AG _)
 have e:=LA.outer (N:=N) (h:=h) h.c0 (note (h.a+2) (.put N.i (.nu h.c0)) ⟨φ0 N h v,Ay h v⟩) (k0.add (ma _ _ _));unfold fS;split
 rename_i s he
 rw[he] at e;exact⟨e,AH (.inr (.inl ⟨_,rfl⟩))⟩
 rename_i s he
 rw[he] at e;exact⟨LA.add e (oa (by simp) (λu hu=>⟨_,eX.mp hu⟩) (AG _)),AH (AG _)⟩
theorem IE{R:Res}(h:LA R.1/\Sm.Lv 5 R.2)(hm:m<=400):Sm.Lv 6 (.tup [.lst (sC m R).1,(sC m R).2]):=by
 refine .inr (.inr (.inr (.inl ⟨_,rfl,by simp,λu hu=>?_⟩)));simp only[c7,gE,or_false] at hu;unfold sC at hu;split at hu;obtain rfl|rfl:=hu
 refine .inr (.inr (.inr (.inr ⟨_,rfl,by rw[Tu];omega,λt ht=>h.1 t (List.mem_of_mem_take ht)⟩)));exact AH (.inl ⟨_,rfl⟩);obtain rfl|rfl:=hu
 exact .inr (.inr (.inr (.inr ⟨_,rfl,by omega,h.1⟩)));exact h.2
noncomputable def adb(ns:qan):FS:=λd ρ=>∃(N:N5)(h:Sh)(hd v:Int),ρ=[some (.lst (ns.map .int),false),some (.int hd,false),some (dJ (jJ N),false),some (.lst ((ay N h).map a8),false),some (.int (h.a:Int),false),some (.int v,false),none,none]/\o8 5 (jJ N)/\DZ N h/\∀ρ',d.rt ρ' (.vw (.bl true))
section
noncomputable abbrev Xp:qai:=["_law_script","_law_head","_law_names_here","_law_rows_here","_law_first","_law_number","_law_whole","_law_most"]
theorem IF:aE Xp qaW (aj l_):=L2.gB
theorem Sj(D:Df K mg "law" l_ qaW f fd)(M:N_ mg)(fu:cq P w K mg base "_law_cell_at" qaN 1 (dO K 2 B8))(Ms:cq P w K mg base "_law_names" qaO 1 (dO K 2 vO))(Sk:cq P w K mg base "_law_rows" qaV 1 (dO K 2 IA))(nV:cq P w K mg base "_law_fit" qaQ 1 (dO K 1 Ik))(Xq:cq P w K mg base "_law_due" qaU 5 (dO K 4 Ob))(Oe:cq P w K mg base "_law_cut" qaR 1 (dO K 2 W9))(Xr:WQ P w K mg base)(IG:cq P w K mg base "_law_same" qaP 7 (dO K 2 (Sm.yt 6))):cp P w K mg base dS 10 f fd qaW (dO K 1 Mq):=by
 obtain⟨adj,ade,adf,Og,Oh,Xs,Xu,Oi⟩:=Xr;refine oN D.F IF rfl λbz A outer s H E Ox hr ts q hG=>?_;obtain⟨ns,rfl,h63,hq⟩:=hG;have nd:=IF.nd;have hu:=bx.gq hr;have np:∀{i:Nat},bG ⟨H,[],Ox⟩ i:=nH;refine⟨_,(ah (bq (i:=1) nd rfl (Or.inl rfl) (qau (bY (qas (aP fu hr (aa (aq 0) (aa (qat af) ak)))) (qas (la (qas af) (qas af))))) np)
  (ah (bq (i:=2) nd rfl (Or.inl rfl) (qau (aP Ms hr (aa (qat (aP fu hr (aa (aq 0) (aa (qat af) ak)))) (aa (qat af) ak)))) np)
  (ah (Fs (qat (aP Sk hr (aa (aq 2) (aa (aq 1) ak)))) (pS (n:=2) rfl (cg (bE (i:=3) nd rfl (Or.inl rfl) np) (cg (bE (i:=4) nd rfl (Or.inl rfl) np) jk))))
  (ah (bq (i:=5) nd rfl (Or.inl rfl) (qau (h7 (qas (bY (qas (aP fu hr (aa (aq 0) (aa (qat af) ak)))) (qas (la (qas af) (qas af))))) (qas af))) np)
  (ah (bQ (cJ hu (qas (bY (qas (aP fu hr (aa (aq 0) (aa (qat af) ak)))) (qas af))) (qas af))
   (aw (bq (i:=5) nd rfl (Or.inl rfl) (qau (h7 (qas (bY (qas (F7 (qas (aP fu hr (aa (aq 0) (aa (qat af) ak)))) (qas af))) (qas af))) (qas af))) np))
   aQ)
  (iF.weak (u:=(adb ns)) (ah (bq (i:=6) nd rfl (Or.inl rfl) (qau (aP Xq hr (aa (aq 3) (aa (aq 4) (aa (aq 2) (aa (qat (aP nV hr (aa (aq 5) ak))) ak)))))) np)
  (ah (bQ (pK (eQ (aP IG hr (aa (qat (NQ.vp (qJ Oi (hr.mono (by decide)) (by rfl) Og Oh Xu (.cons Xl .nil) (dts:=[Od]) (λ_ _=>aB.cons Xm aB.nil) (aa (qat (ji kR pP (by rfl) M.list qe (a9 (ae 3) bw))) (aa (qat (dw (aa (aq 5) ak))) ak))))) (aa (qat (aP Oe hr (aa (aq 6) (aa (qat af) ak)))) ak)))))
   (aw (aW (qau jP)))
   aQ)
  (ah (bq (i:=7) nd rfl (Or.inl rfl) (qau (bY (qas (aP fu hr (aa (aq 0) (aa (qat af) ak)))) (qas (bu (qas (bK (CB rfl) zE (by rfl) M.min Ni (a9 (qas (bK bM bN (by rfl) M.len wm (a9 (qas (aA (ae 6) (qas af))) bw))) (a9 (qas af) bw)))) (qas af))))) np)
  (aw (aW (qau (aP IG hr (aa (qat (NQ.vp (qJ Oi (hr.mono (by decide)) (by rfl) Og Oh Xs .nil (dts:=[]) (λ_ _=>aB.nil) (aa (aq 3) (aa (qat (dw (aa (aq 5) (aa (qat af) ak)))) (aa (aq 7) ak)))))) (aa (qat (aP Oe hr (aa (aq 6) (aa (aq 7) ak)))) ak))))))))) ?w7)))))),λ_=>?main⟩
 case main=>
  refine⟨rfl,ns,1,rfl,pw 9,by decide +kernel,?_⟩;generalize hh:ns.getD 1 0 % (10:Int) ^ (9:Int).toNat=hd;have h0:0<=hd:=by rw[<- hh];exact IS _ (by decide)
  have h1:hd<1000000000:=by rw[<- hh];exact IM _ (by decide)
  refine⟨rfl,ns,0,rfl,rfl,ns.getD 0 0,5,rfl,by omega,λys hN=>?_⟩;obtain⟨N,rfl⟩:∃N,ys=jJ N:=by
   match ys,hN.l with
   |[a,b,c,d,e],_=>exact⟨⟨a,b,c,d,e⟩,rfl⟩
  refine⟨rfl,N,hd,rfl,h0,h1,λh ok=>?_⟩;refine⟨rfl,rfl,?_⟩;refine⟨rfl,ns,2,rfl,pw 32,by decide +kernel,?_⟩;refine⟨rfl,ns,3,rfl,by decide,gr (λz=>?_) (λz=>?_)⟩;exact⟨rfl,ns,3,rfl,⟨by decide,bg 3⟩,by decide,N,h,hd,_,rfl,hN,ok,λρ'=>hq⟩;exact⟨N,h,hd,_,rfl,hN,ok,λρ'=>hq⟩
 case w7=>
  rintro d ρ ⟨N,h,hd,v,rfl,hN,ok,fin⟩;have D5:=Sg hN.nd hN.nm;have F:=fx (N:=N) (h:=h) (by have:=ok.a;omega);have W:=ada F ok hN.nm;have adk:((ay N h).map a8).length<=100:=by rw[c6];exact W.n
  refine⟨rfl,v,rfl,rfl,N,h,bP v,rfl,hN.nd,D5,ok.op,ok.a,ok.c1,ok.c0,F.n,?_⟩;have Sl:=Xo F D5 ok W v;have hlv:=ID N h (bP v);generalize fS N h (bP v)=R at Sl hlv ⊢;refine⟨Gen.bJ rfl,rfl,ay N h,[v],200,_,rfl,W,by show 1<=100;omega,by omega,Sl [] 200,?_⟩;refine⟨rfl,R,200,rfl,?_⟩;refine⟨rfl,_,rfl,IE hlv (by omega),?_⟩;refine⟨rfl,ns,4,rfl,_,ai (j:=0) rfl,?_,?_⟩;split<;>omega;obtain⟨m,em,hm⟩:∃m:Nat,ns.getD 4 0 % ((if (399:Int)<(R.1.length:Int) then (399:Int) else (R.1.length:Int))+2)=(m:Int)/\m<=400:=by obtain⟨M',eM,h1,h2⟩:∃M':Int,M'=(if (399:Int)<(R.1.length:Int) then (399:Int) else (R.1.length:Int))+2/\0<M'/\M'<=401:=⟨_,rfl,by split<;>omega,by split<;>omega⟩;rw[<- eM];have q1:=IS (ns.getD 4 0) (show M'≠0 by omega);have q2:=IM (ns.getD 4 0) h1;exact⟨(ns.getD 4 0 % M').toNat,by omega,by omega⟩
  refine⟨Gen.bJ rfl,rfl,ay N h,[v,5],m,_,?_,W,by show 2<=100;omega,by omega,Sl [5] m,?_⟩;rw[<- em];rfl;refine⟨rfl,R,m,?_,rfl,_,rfl,IE hlv hm,fin _⟩;rw[<- em];rfl
end
end cc
namespace gf
open PySem L2 VT
theorem Xv(X:K.In h)(G:h.Ns mainGlobals mg){st:Stmt}{oc:Value}{od an:qar}{CJ:Array (Option Value)}{kV doc pm bz ct:Value}(a:PySem.W.nsIn K mainGlobals x=some (some (.ref f)))(l:K.lookup f=some ⟨oc,od,.func (PySem.W.fnOf x x (cV st) (bD st) (aj st) .none kV doc pm an bz ct),CJ⟩)(c:PySem.W.codeIn K bz x=true)(k:PySem.W.keepIn K (.ref f)=true)(hb:∀(kV doc pm:Value) (an:qar) (bz ct:Value) (us:qag),us.length=ps.length->bindArgs (PySem.W.fnOf x x (cV st) (bD st) (aj st) .none kV doc pm an bz ct) ⟨us,[]⟩=pure (ps.zip us)) :
  ∃f fd,Df K mg x st ps f fd:=by
 have F:=pB (st:=st) l c k;exact⟨f,_,F,j4 X G a,F.binds hb⟩
theorem Sn{C:qag->Prop}(h:C []):∀us:qag,us.length=0->C us
 |[],_=>h
theorem vW{C:qag->Prop}(h:∀a,∀us:qag,us.length=n->C (a::us)):∀us:qag,us.length=n+1->C us
 |a::us,e=>h a us (Nat.succ.inj e)
theorem Xw{C:qag->Prop}(h:∀a,C [a]):∀us:qag,us.length=1->C us:=vW λa=>Sn (h a)
theorem bn1{C:qag->Prop}(h:∀a,C [a]):∀us:qag,us.length=1->C us:=Xw h
theorem bn2{C:qag->Prop}(h:∀a b,C [a,b]):∀us:qag,us.length=2->C us:=vW λa=>bn1 (h a)
theorem bn3{C:qag->Prop}(h:∀a b c,C [a,b,c]):∀us:qag,us.length=3->C us:=vW λa=>bn2 (h a)
theorem bn4{C:qag->Prop}(h:∀a b c d,C [a,b,c,d]):∀us:qag,us.length=4->C us:=vW λa=>bn3 (h a)
abbrev pE:Program:=PySem.Challenge.pw_slicewise_k14_choices_and_loops
noncomputable def qE:Program:=PySem.W.view pE [1,2,3,4,5,6,7,8,9,11,12,13,14,16,17,18,19,21,22,23,24,25,26,27,28,29,30,31,32,34,35,36,37,38,39,40,41,42,43,44,45,46,47,48,49,50,52,54,55,56,57,58,59,60,61,62,63,64]
noncomputable def rj:qai:=["USED_PLACES","RECKONERS","FOLLOWERS","run"]
noncomputable def Oj:qah:=[0,1,2,3,4,5,6,7,8,9,10,11,12,13,14,15,16,17,18,19,20,21,22,23,24,25,26,27,28,29,30,31,32,33,34,35,36,37,38,39,40,41,42,43,44,45,46,47,48,49,50,51,52,53,54,55,56,57,65,66,67,68,69,70,71,72,73,74,75,76,79,80,81,82,83,84,85,86,87,88,89,90,91,92,93,94,95,96,97,98,99,100,101,102,103,104,105,106,107,108,109,110,111,112,113,114,115,116,117,118,119,120,121,122,123,124,125,126,127,128,129,130,131,132,133,134,135,136,137,138,139,140,141,142,143,144,145,146,147,148,149,150,151,152,153,154,155,156,157,158,159,160,161,162,163,164,165,166,167,168,169,170,171,172,173,174,175,176,177,185,186,187,188,189,190,191,192,193,194,195,196,206,207,208,209,210,211,212,213,214,215,216,217,220,221,222,223,224,225,226,227,228,229,230,231,232,233,234,235,236,237,238,239,240,241,242,243,244,245,246,247,248,249,250,251,252,253,254,255,256,257,258,259,260,261,262,263,264,265,266,267,268,269,270,271,272,273,274,275,276,277,278,279,280,281,282,283,284,285,286,287,288,289,290,291,292,293,294,295,296,297,298,299,300,301,302,303,304,305,306,307,308,309,310,311,312,313,314,315,316,317,318,319,320,321,322,323,324,325,326,327,328,329,330,331,332,333,334,335,336,337,338,339,340,341,342,343,344,345,346,347,348,349,350,351,352,353,354,355,356,357,358,359,360,361,362,363,364,365,366,367,368,369,370,371,372,373,374,375,376,377,378,379,380,381,382,383,384,385,386,387,388,389,390,391,392,393,394,395,396,397,398,399,400,401,402,403,404]
abbrev OV:=Option (Option Value)
abbrev OO:=Option Obj
abbrev N(K:qaf)(x:Str):=PySem.W.nsIn K mainGlobals x
noncomputable abbrev Lk(K:qaf)(a:Addr):=List.lookup a K
abbrev R(a:Addr):OV:=some (some (.ref a))
noncomputable abbrev fo(x q:Str)(st:Stmt)(pm:Value)(c:Addr):OO:=some ⟨.type "function",none,.func (PySem.W.fnOf x q (cV st) (bD st) (aj st) .none .none .none pm none (.ref c) .none),#[]⟩
abbrev cI(K:qaf)(c:Value)(q:Str):=PySem.W.codeIn K c q
abbrev kI(K:qaf)(f:Addr):=PySem.W.keepIn K (.ref f)
abbrev fI(K:qaf)(c:Addr)(x:Str):=PySem.W.findIn K (.ref c) x
abbrev Q4:=OV×OO×Bool×Bool
noncomputable def q4(K:qaf)(x:Str)(f c:Addr):Q4:=(N K x,Lk K f,cI K (.ref c) x,kI K f)
noncomputable def v4(x:Str)(st:Stmt)(f:Addr)(pm:Value)(c:Addr):Q4:=(R f,fo x x st pm c,true,true)
def BN:qai->(qag->Prop)->Prop
 |[],C=>C []
 |_::ps,C=>∀v,BN ps λus=>C (v::us)
theorem bnA:∀{ps:qai}{C:qag->Prop},BN ps C->∀us:qag,us.length=ps.length->C us
 |[],_,h,[],_=>h
 |_::_,_,h,v::us,e=>bnA (h v) us (Nat.succ.inj e)
theorem dM{D:Prop}(X:K.In h)(G:h.Ns mainGlobals mg){st:Stmt}{c:Addr}{pm:Value}(e:q4 K x f c=v4 x st f pm c)(k:∀{f:Addr} {fd:FuncData},Df K mg x st ps f fd->D)(hb:∀(kV doc pm:Value) (an:qar) (bz ct:Value),BN ps λus=>bindArgs (PySem.W.fnOf x x (cV st) (bD st) (aj st) .none kV doc pm an bz ct) ⟨us,[]⟩=pure (ps.zip us):=by simp only[BN];intros;rfl):D:=by unfold q4 v4 at e;simp only[Prod.mk.injEq] at e;obtain⟨_,_,d⟩:=Xv X G e.1 e.2.1 e.2.2.1 e.2.2.2 λa b c d e f=>bnA (hb a b c d e f);exact k d
abbrev XX:Type:=(((((((OV×OV)×(OV×OV))×((OO×OV)×(OO×(OV×OO))))×(((OV×OO)×(OV×OO))×((OO×OO)×(OO×(OO×OO)))))×((((OO×OO)×(OV×OV))×((OV×OV)×(OV×(OV×OV))))×(((OO×OV)×(OV×(OV×OV)))×((OV×OV)×(OV×(OV×OV))))))×(((((OV×OO)×(OV×OV))×((OV×OV)×(OV×(OV×OV))))×(((OV×OV)×(OV×(OV×OV)))×((OV×OV)×(Bool×(OO×Bool)))))×((((Bool×Bool)×(Bool×Bool))×((OV×Bool)×(Bool×(OV×OV))))×(((OV×OV)×(OV×(OV×OV)))×((OV×OV)×(Bool×(OO×Bool)))))))×((((((Bool×Bool)×(Bool×Bool))×((OV×Bool)×(Bool×(OV×OV))))×(((OV×OV)×(Bool×(OO×Bool)))×((Bool×Bool)×(Bool×(Bool×OV)))))×((((Bool×Bool)×(OV×OV))×((OV×OV)×(OV×(OV×OV))))×(((OV×OV)×(OV×(OO×Bool)))×((Bool×OO)×(OV×(OO×Bool))))))×(((((Bool×Q4)×(Q4×Q4))×((Q4×Q4)×(Q4×(Q4×Q4))))×(((Q4×Q4)×(Q4×(Q4×Q4)))×((Q4×Q4)×(Q4×(Q4×Q4)))))×((((Q4×Q4)×(Q4×Q4))×((Q4×Q4)×(Q4×(Q4×Q4))))×(((Q4×Q4)×(Q4×(Q4×Q4)))×((Q4×Q4)×(Q4×(Q4×Q4))))))))
noncomputable def FF(K:qaf):XX:=(((((((N K "LETTERS",N K "LONGEST_NAME"),(N K "H",N K "DIVISIONS")),((Lk K 15,N K "SILENT"),(Lk K 16,(N K "CLOSERS",Lk K 43)))),(((N K "OPENERS",Lk K 42),(N K "USED_PLACES",Lk K 29)),((Lk K 36,Lk K 35),(Lk K 34,(Lk K 33,Lk K 32))))),((((Lk K 31,Lk K 30),(N K "plus",N K "minus")),((N K "times",N K "over"),(N K "rest",(N K "less",N K "RECKONERS")))),(((Lk K 163,N K "follow_plain"),(N K "follow_give",(N K "follow_name",N K "follow_do"))),((N K "follow_new",N K "follow_set"),(N K "follow_call",(N K "follow_fail",N K "follow_choice")))))),(((((N K "FOLLOWERS",Lk K 304),(N K "isinstance",N K "str")),((N K "int",N K "bool"),(N K "len",(N K "all",N K "list")))),(((N K "tuple",N K "range"),(N K "enumerate",(N K "zip",N K "min"))),((N K "Layout",fI K 74 "__init__"),(PySem.W.isFn K (.ref 71),(Lk K 71,cI K (.ref 70) "Layout.__init__"))))),((((kI K 71,PySem.W.plainGet K 74 Str.empty),(PySem.W.hasDictIn K 74,PySem.W.plainOver K 74)),((fI K 74 "__setattr__",PySem.W.makesIn K 74),(kI K 74,(fI K 74 "program",fI K 74 "heads")))),(((fI K 74 "ends",fI K 74 "elses"),(fI K 74 "homes",(fI K 74 "defs",fI K 74 "main"))),((N K "Frame",fI K 194 "__init__"),(PySem.W.isFn K (.ref 191),(Lk K 191,cI K (.ref 190) "Frame.__init__"))))))),((((((kI K 191,PySem.W.plainGet K 194 Str.empty),(PySem.W.hasDictIn K 194,PySem.W.plainOver K 194)),((fI K 194 "__setattr__",PySem.W.makesIn K 194),(kI K 194,(fI K 194 "call",fI K 194 "names")))),(((N K "Machine",fI K 215 "__init__"),(PySem.W.isFn K (.ref 212),(Lk K 212,cI K (.ref 211) "Machine.__init__"))),((kI K 212,PySem.W.plainGet K 215 Str.empty),(PySem.W.hasDictIn K 215,(PySem.W.plainOver K 215,fI K 215 "__setattr__"))))),((((PySem.W.makesIn K 215,kI K 215),(fI K 215 "layout",fI K 215 "most")),((fI K 215 "poke",fI K 215 "frames"),(fI K 215 "cells",(fI K 215 "counts",fI K 215 "doings")))),(((fI K 215 "place",fI K 215 "ended"),(N K "run",(Lk K 324,cI K (.ref 323) "run"))),((kI K 324,Lk K 317),(N K "law",(Lk K 404,cI K (.ref 403) "law")))))),(((((kI K 404,q4 K "is_name" 21 20),(q4 K "is_field" 28 27,q4 K "operands" 41 40)),((q4 K "shape" 57 56,q4 K "first_defs" 50 49),(q4 K "row_behind" 99 98,(q4 K "yes_row" 85 84,q4 K "no_row" 92 91)))),(((q4 K "fit" 106 105,q4 K "is_record" 113 112),(q4 K "number_of" 120 119,(q4 K "plus" 127 126,q4 K "minus" 134 133))),((q4 K "reckoned" 170 169,q4 K "value_of" 233 232),(q4 K "made_by" 240 239,(q4 K "follow_plain" 247 246,q4 K "follow_name" 254 253))))),((((q4 K "follow_do" 261 260,q4 K "follow_give" 289 288),(q4 K "enter" 226 225,q4 K "follow_new" 268 267)),((q4 K "follow_fail" 296 295,q4 K "follow_choice" 303 302),(q4 K "done_row" 309 308,(q4 K "step" 316 315,q4 K "run_poked" 329 328)))),(((q4 K "_law_cell_at" 336 335,q4 K "_law_names" 341 340),(q4 K "_law_same" 355 354,(q4 K "_law_fit" 348 347,q4 K "_law_cut" 397 396))),((q4 K "_law_note" 369 368,q4 K "_law_side" 376 375),(q4 K "_law_turn" 383 382,(q4 K "_law_due" 390 389,q4 K "_law_rows" 362 361))))))))
noncomputable def VV(w:World):XX:=(((((((some (some (.str wL.bT 191)),some (some (.int 8 193))),(some (some (.int 1000000000000000000000000000000 189)),R 15)),((some ⟨.type "tuple",none,.seq #[.str "over" 195,.str "rest" 196] 0,#[]⟩,R 16),(some ⟨.type "tuple",none,.seq #[.str "else" 198,.str "end" 199,.str "skip" 200] 0,#[]⟩,(R 43,some ⟨.type "tuple",none,.seq #[.str "give" 253,.str "end" 254] 0,#[]⟩)))),(((R 42,some ⟨.type "tuple",none,.seq #[.str "def" 249,.str "if" 250,.str "while" 251] 0,#[]⟩),(R 29,some ⟨.type "dict",none,.dict #[⟨PyData.keyHash w.params "give",.str "give" 215,.ref 30⟩,⟨PyData.keyHash w.params "put",.str "put" 217,.ref 31⟩,⟨PyData.keyHash w.params "do",.str "do" 219,.ref 32⟩,⟨PyData.keyHash w.params "get",.str "get" 222,.ref 33⟩,⟨PyData.keyHash w.params "set",.str "set" 225,.ref 34⟩,⟨PyData.keyHash w.params "if",.str "if" 229,.ref 35⟩,⟨PyData.keyHash w.params "while",.str "while" 231,.ref 36⟩] 7,#[]⟩)),((some ⟨.type "tuple",none,.seq #[.int (1) 232] 0,#[]⟩,some ⟨.type "tuple",none,.seq #[.int (1) 230] 0,#[]⟩),(some ⟨.type "tuple",none,.seq #[.int (1) 226,.int (2) 227,.int (3) 228] 0,#[]⟩,(some ⟨.type "tuple",none,.seq #[.int (2) 223,.int (3) 224] 0,#[]⟩,some ⟨.type "tuple",none,.seq #[.int (2) 220,.int (4) 221] 0,#[]⟩))))),((((some ⟨.type "tuple",none,.seq #[.int (2) 218] 0,#[]⟩,some ⟨.type "tuple",none,.seq #[.int (1) 216] 0,#[]⟩),(R 127,R 134)),((R 141,R 148),(R 155,(R 162,R 163)))),(((some ⟨.type "dict",none,.dict #[⟨PyData.keyHash w.params "plus",.str "plus" 414,.ref 127⟩,⟨PyData.keyHash w.params "minus",.str "minus" 415,.ref 134⟩,⟨PyData.keyHash w.params "times",.str "times" 416,.ref 141⟩,⟨PyData.keyHash w.params "over",.str "over" 417,.ref 148⟩,⟨PyData.keyHash w.params "rest",.str "rest" 418,.ref 155⟩,⟨PyData.keyHash w.params "less",.str "less" 419,.ref 162⟩] 6,#[]⟩,R 247),(R 289,(R 254,R 261))),((R 268,R 275),(R 282,(R 296,R 303)))))),(((((R 304,some ⟨.type "dict",none,.dict #[⟨PyData.keyHash w.params "def",.str "def" 641,.ref 247⟩,⟨PyData.keyHash w.params "give",.str "give" 642,.ref 289⟩,⟨PyData.keyHash w.params "put",.str "put" 643,.ref 254⟩,⟨PyData.keyHash w.params "do",.str "do" 644,.ref 261⟩,⟨PyData.keyHash w.params "new",.str "new" 645,.ref 268⟩,⟨PyData.keyHash w.params "get",.str "get" 646,.ref 254⟩,⟨PyData.keyHash w.params "set",.str "set" 647,.ref 275⟩,⟨PyData.keyHash w.params "call",.str "call" 648,.ref 282⟩,⟨PyData.keyHash w.params "fail",.str "fail" 649,.ref 296⟩,⟨PyData.keyHash w.params "if",.str "if" 650,.ref 303⟩,⟨PyData.keyHash w.params "while",.str "while" 651,.ref 303⟩] 11,#[]⟩),(some none,some none)),((some none,some none),(some none,(some none,some none)))),(((some none,some none),(some none,(some none,some none))),((R 74,some (some (.ref 71))),(true,(fo "__init__" "Layout.__init__" Lay.iV (.str "slicewise.layouts" 280) 70,true))))),((((true,true),(true,true)),((some (some (.builtin "object.__setattr__")),true),(true,(some none,some none)))),(((some none,some none),(some none,(some none,some none))),((R 194,some (some (.ref 191))),(true,(fo "__init__" "Frame.__init__" Rg.lU (.str "slicewise.runs" 446) 190,true))))))),((((((true,true),(true,true)),((some (some (.builtin "object.__setattr__")),true),(true,(some none,some none)))),(((R 215,some (some (.ref 212))),(true,(fo "__init__" "Machine.__init__" Rg.gQ (.str "slicewise.runs" 446) 211,true))),((true,true),(true,(true,some (some (.builtin "object.__setattr__"))))))),((((true,true),(some none,some none)),((some none,some none),(some none,(some none,some none)))),(((some none,some none),(R 324,(some ⟨.type "function",none,.func (PySem.W.fnOf "run" "run" (cV Rg.fP) (bD Rg.fP) (aj Rg.fP) (.ref 317) (.none) (.none) (.str "slicewise.runs" 446) none (.ref 323) (.none)),#[]⟩,true))),((true,some ⟨.type "tuple",none,.seq #[.int (200) 678] 0,#[]⟩),(R 404,(fo "law" "law" cc.l_ (.str "law_slicewise_k14_choices_and_loops" 694) 403,true)))))),(((((true,v4 "is_name" Nm.ju 21 (.str "slicewise.rows" 187) 20),(v4 "is_field" Nm.kg 28 (.str "slicewise.rows" 187) 27,v4 "operands" SY.kh 41 (.str "slicewise.rows" 187) 40)),((v4 "shape" V'.lC 57 (.str "slicewise.programs" 247) 56,v4 "first_defs" Lay.il 50 (.str "slicewise.programs" 247) 49),(v4 "row_behind" Nx.ip 99 (.str "slicewise.layouts" 280) 98,(v4 "yes_row" Nx.m8 85 (.str "slicewise.layouts" 280) 84,v4 "no_row" Nx.qD 92 (.str "slicewise.layouts" 280) 91)))),(((v4 "fit" mn.nT 106 (.str "slicewise.values" 343) 105,v4 "is_record" mn.iY 113 (.str "slicewise.values" 343) 112),(v4 "number_of" mn.iZ 120 (.str "slicewise.values" 343) 119,(v4 "plus" mn.Ab 127 (.str "slicewise.values" 343) 126,v4 "minus" mn.vq 134 (.str "slicewise.values" 343) 133))),((v4 "reckoned" mn.iq 170 (.str "slicewise.values" 343) 169,v4 "value_of" Rg.km 233 (.str "slicewise.runs" 446) 232),(v4 "made_by" Rg.ng 240 (.str "slicewise.runs" 446) 239,(v4 "follow_plain" Rg.fO 247 (.str "slicewise.runs" 446) 246,v4 "follow_name" Rg.gw 254 (.str "slicewise.runs" 446) 253))))),((((v4 "follow_do" Rg.i7 261 (.str "slicewise.runs" 446) 260,v4 "follow_give" Rg.gx 289 (.str "slicewise.runs" 446) 288),(v4 "enter" Rg.vC 226 (.str "slicewise.runs" 446) 225,v4 "follow_new" Rg.iu 268 (.str "slicewise.runs" 446) 267)),((v4 "follow_fail" Rg.gy 296 (.str "slicewise.runs" 446) 295,v4 "follow_choice" Rg.eU 303 (.str "slicewise.runs" 446) 302),(v4 "done_row" Rg.kn 309 (.str "slicewise.runs" 446) 308,(v4 "step" Rg.vD 316 (.str "slicewise.runs" 446) 315,v4 "run_poked" Rg.gn 329 (.str "slicewise.runs" 446) 328)))),(((v4 "_law_cell_at" jY.nt 336 (.str "law_slicewise_k14_choices_and_loops" 694) 335,v4 "_law_names" jY.vN 341 (.str "law_slicewise_k14_choices_and_loops" 694) 340),(v4 "_law_same" Sm.s_same 355 (.str "law_slicewise_k14_choices_and_loops" 694) 354,(v4 "_law_fit" cc.nT 348 (.str "law_slicewise_k14_choices_and_loops" 694) 347,v4 "_law_cut" cc.Ij 397 (.str "law_slicewise_k14_choices_and_loops" 694) 396))),((v4 "_law_note" cc.AD 369 (.str "law_slicewise_k14_choices_and_loops" 694) 368,v4 "_law_side" cc.AE 376 (.str "law_slicewise_k14_choices_and_loops" 694) 375),(v4 "_law_turn" cc.AF 383 (.str "law_slicewise_k14_choices_and_loops" 694) 382,(v4 "_law_due" cc.Ii 390 (.str "law_slicewise_k14_choices_and_loops" 694) 389,v4 "_law_rows" cc.AB 362 (.str "law_slicewise_k14_choices_and_loops" 694) 361))))))))
theorem AI(w:World)(os:OsState):HE.lookA pE qE rj [] [] (HE.d9 (w.withFollow "special-get-raises" false).params) (PySem.W.boot_heap (w.withFollow "special-get-raises" false).params) (w.withFollow "special-get-raises" false) 2697 os=some (true,(PySem.W.openGood qE rj).1,(PySem.W.openGood qE rj).2.1):=by
 rw[PySem.W.Fast.te2848547177322276819]
 kernel_rfl
theorem D0(w:World)(os:OsState):HE.lookA pE qE rj [] [] (HE.d9 (w.withFollow "special-get-raises" true).params) (PySem.W.boot_heap (w.withFollow "special-get-raises" true).params) (w.withFollow "special-get-raises" true) 2697 os=some (true,(PySem.W.openGood qE rj).1,(PySem.W.openGood qE rj).2.1):=by
 rw[PySem.W.Fast.te2848547177322276819]
 kernel_rfl
theorem adg(w:World)(os:OsState):HE.lookA pE qE rj [] [] (HE.d9 (w).params) (PySem.W.boot_heap (w).params) (w) 2697 os=some (true,(PySem.W.openGood qE rj).1,(PySem.W.openGood qE rj).2.1) :=
 PySem.W.byRow2 "special-get-raises" (P:=λw=>∀os,HE.lookA pE qE rj [] [] (HE.d9 (w).params) (PySem.W.boot_heap (w).params) (w) 2697 os=some (true,(PySem.W.openGood qE rj).1,(PySem.W.openGood qE rj).2.1)) AI D0 w os
theorem AJ(w:World)(os:OsState):HE.lookB pE qE rj [] [] (HE.d9 (w.withFollow "special-get-raises" false).params) (w.withFollow "special-get-raises" false) 2697 os=some (PySem.W.openGood qE rj).2.2:=by
 rw[PySem.W.Fast.te312265020846911052]
 kernel_rfl
theorem D2(w:World)(os:OsState):HE.lookB pE qE rj [] [] (HE.d9 (w.withFollow "special-get-raises" true).params) (w.withFollow "special-get-raises" true) 2697 os=some (PySem.W.openGood qE rj).2.2:=by
 rw[PySem.W.Fast.te312265020846911052]
 kernel_rfl
theorem adh(w:World)(os:OsState):HE.lookB pE qE rj [] [] (HE.d9 (w).params) (w) 2697 os=some (PySem.W.openGood qE rj).2.2 :=
 PySem.W.byRow2 "special-get-raises" (P:=λw=>∀os,HE.lookB pE qE rj [] [] (HE.d9 (w).params) (w) 2697 os=some (PySem.W.openGood qE rj).2.2) AJ D2 w os
theorem AK(w:World)(os:OsState):HE.lookC pE Oj FF (HE.d9 (w.withFollow "special-get-raises" false).params) (w.withFollow "special-get-raises" false) 2697 os=some (VV (w.withFollow "special-get-raises" false)):=by
 rw[PySem.W.Fast.te3135357915001837337]
 kernel_rfl
theorem D3(w:World)(os:OsState):HE.lookC pE Oj FF (HE.d9 (w.withFollow "special-get-raises" true).params) (w.withFollow "special-get-raises" true) 2697 os=some (VV (w.withFollow "special-get-raises" true)):=by
 rw[PySem.W.Fast.te3135357915001837337]
 kernel_rfl
theorem runC(w:World)(os:OsState):HE.lookC pE Oj FF (HE.d9 (w).params) (w) 2697 os=some (VV (w)) :=
 PySem.W.byRow2 "special-get-raises" (P:=λw=>∀os,HE.lookC pE Oj FF (HE.d9 (w).params) (w) 2697 os=some (VV (w))) AK D3 w os
theorem So:PySem.Challenge.rw_slicewise_k14_choices_and_loops.wellSaid=true:=by kernel_rfl
noncomputable abbrev KE(w:World):qaf:=HE.Kf Oj (HE.uM pE 6074 w)
noncomputable abbrev dE:DefRec:=HE.Ve cc.l_
theorem hd:PySem.W.LeftO pE qE rj (HE.KJ qE [] []) (λs=>Oj.map s.heap.get?) (λw=>Oj.map (HE.uM pE 6074 w)) 6074/\∀w,FF (KE w)=VV w:=HE.head (p:=pE) (q:=qE) (loose:=rj) (lv:=[]) (R:=[]) (as:=Oj) (N:=6074) (M:=2697) (F:=FF) (v:=VV) (by kernel_rfl) rfl (λs=>by kernel_rfl) rfl adg adh runC
theorem Sq{l:PySem.W.OpenLaw}{fa:Addr}(X:K.In h)(G:h.Ns mainGlobals mg)(hfa:mg "law"=some (.ref fa))(hF:FF K=VV w) :
  ∃fd:FuncData,(∀(s:Shared)(v:Value),BindsTo s fd ⟨[v],[]⟩ [("_law_script",v)])/\∀base:Heap,K.In base->base.Ns mainGlobals mg->cp l.prog w K mg base dS 10 fa fd qaW (dO K 1 cc.Mq):=by
 have Q {β:Type} (f:XX->β):=congrArg f hF;have dF:=D_ X G (Q (·.1.2.1.1.1.2.1) :);have AL:=D_ X G (Q (·.1.2.1.1.1.2.2) :);have vX:=D_ X G (Q (·.1.2.1.1.2.1.1) :);have vY:=D_ X G (Q (·.1.2.1.1.2.1.2) :);have ix:=D_ X G (Q (·.1.2.1.1.2.2.1) :);have Sr:=D_ X G (Q (·.1.2.1.1.2.2.2.1) :);have pd:=D_ X G (Q (·.1.2.1.1.2.2.2.2) :);have gU:=D_ X G (Q (·.1.2.1.2.1.1.1) :);have md:=D_ X G (Q (·.1.2.1.2.1.1.2) :);have iy:=D_ X G (Q (·.1.2.1.2.1.2.1) :);have IH:=D_ X G (Q (·.1.2.1.2.1.2.2.1) :);have II:=D_ X G (Q (·.1.2.1.2.1.2.2.2) :);have e:=hfa.symm.trans (j4 X G (Q (·.2.1.2.2.2.2.1) :));cases e;have az:Lay.QK K 74:=⟨⟨(Q (·.1.2.2.1.1.1.2) :),(Q (·.1.2.2.1.1.2.1) :),(Q (·.1.2.2.1.1.2.2) :),(Q (·.1.2.2.1.2.1.1) :)⟩,(Q (·.1.2.2.1.2.2.2.1) :),(Q (·.1.2.2.1.2.2.2.2) :),(Q (·.1.2.2.2.1.1.1) :),(Q (·.1.2.2.2.1.1.2) :),(Q (·.1.2.2.2.1.2.1) :),(Q (·.1.2.2.2.1.2.2.1) :),(Q (·.1.2.2.2.1.2.2.2) :)⟩;have tU:=pB (st:=Lay.iV) (Q (·.1.2.1.2.2.2.2.1) :) (Q (·.1.2.1.2.2.2.2.2) :) (Q (·.1.2.2.1.1.1.1) :);have D4:Dc K mg "Layout" "Layout.__init__" Lay.iV qax 74 71 _:=⟨tU,j4 X G (Q (·.1.2.1.2.2.1.1) :),tU.binds (λ_ _ _ _ _ _=>(gf.bn2 λ_ _=>rfl)),⟨(Q (·.1.2.2.1.2.1.2) :),(Q (·.1.2.1.2.2.1.2) :),(Q (·.1.2.1.2.2.2.1) :),(Q (·.1.2.2.1.2.2.1) :)⟩⟩;have bU:Rg.S9 K 194:=⟨⟨(Q (·.2.1.1.1.1.1.2) :),(Q (·.2.1.1.1.1.2.1) :),(Q (·.2.1.1.1.1.2.2) :),(Q (·.2.1.1.1.2.1.1) :)⟩,(Q (·.2.1.1.1.2.2.2.1) :),(Q (·.2.1.1.1.2.2.2.2) :)⟩;have yE:=pB (st:=Rg.lU) (Q (·.1.2.2.2.2.2.2.1) :) (Q (·.1.2.2.2.2.2.2.2) :) (Q (·.2.1.1.1.1.1.1) :);have IJ:Dc K mg "Frame" "Frame.__init__" Rg.lU qaF 194 191 _:=⟨yE,j4 X G (Q (·.1.2.2.2.2.1.1) :),yE.binds (λ_ _ _ _ _ _=>(gf.bn3 λ_ _ _=>rfl)),⟨(Q (·.2.1.1.1.2.1.2) :),(Q (·.1.2.2.2.2.1.2) :),(Q (·.1.2.2.2.2.2.1) :),(Q (·.2.1.1.1.2.2.1) :)⟩⟩;have ag:Rg.Ah K 215:=⟨⟨(Q (·.2.1.1.2.2.1.2) :),(Q (·.2.1.1.2.2.2.1) :),(Q (·.2.1.1.2.2.2.2.1) :),(Q (·.2.1.1.2.2.2.2.2) :)⟩,(Q (·.2.1.2.1.1.2.1) :),(Q (·.2.1.2.1.1.2.2) :),(Q (·.2.1.2.1.2.1.1) :),(Q (·.2.1.2.1.2.1.2) :),(Q (·.2.1.2.1.2.2.1) :),(Q (·.2.1.2.1.2.2.2.1) :),(Q (·.2.1.2.1.2.2.2.2) :),(Q (·.2.1.2.2.1.1.1) :),(Q (·.2.1.2.2.1.1.2) :)⟩;have rm:=pB (st:=Rg.gQ) (Q (·.2.1.1.2.1.2.2.1) :) (Q (·.2.1.1.2.1.2.2.2) :) (Q (·.2.1.1.2.2.1.1) :);have AN:Dc K mg "Machine" "Machine.__init__" Rg.gQ qaD 215 212 _:=⟨rm,j4 X G (Q (·.2.1.1.2.1.1.1) :),rm.binds (λ_ _ _ _ _ _=>(gf.bn4 λ_ _ _ _=>rfl)),⟨(Q (·.2.1.2.1.1.1.1) :),(Q (·.2.1.1.2.1.1.2) :),(Q (·.2.1.1.2.1.2.1) :),(Q (·.2.1.2.1.1.1.2) :)⟩⟩;have M2:Nm.Mg2 mg:=⟨⟨_,j4 X G (Q (·.1.1.1.1.1.1.1) :)⟩,⟨_,j4 X G (Q (·.1.1.1.1.1.1.2) :)⟩,dF,AL,ix,Sr⟩;have MU:SY.MgU w K mg:=⟨pd,⟨29,j4 X G (Q (·.1.1.1.2.1.2.1) :),⟨_,_,(Q (·.1.1.1.2.1.2.2) :),(by first|rfl|decide),.cons ⟨rfl,⟨_,rfl⟩,.ref 30,rfl,λ_ _=>cf (vs:=[V.int 1]) (.inr ⟨_,_,_,(Q (·.1.1.2.1.1.1.2) :),rfl,rfl,Gen.bJ rfl,.cons ⟨_,rfl⟩ (.nil)⟩) (aB.cons bf (aB.nil))⟩ (.cons ⟨rfl,⟨_,rfl⟩,.ref 31,rfl,λ_ _=>cf (vs:=[V.int 2]) (.inr ⟨_,_,_,(Q (·.1.1.2.1.1.1.1) :),rfl,rfl,Gen.bJ rfl,.cons ⟨_,rfl⟩ (.nil)⟩) (aB.cons bf (aB.nil))⟩ (.cons ⟨rfl,⟨_,rfl⟩,.ref 32,rfl,λ_ _=>cf (vs:=[V.int 2,V.int 4]) (.inr ⟨_,_,_,(Q (·.1.1.1.2.2.2.2.2) :),rfl,rfl,Gen.bJ rfl,.cons ⟨_,rfl⟩ (.cons ⟨_,rfl⟩ (.nil))⟩) (aB.cons bf (aB.cons bf (aB.nil)))⟩ (.cons ⟨rfl,⟨_,rfl⟩,.ref 33,rfl,λ_ _=>cf (vs:=[V.int 2,V.int 3]) (.inr ⟨_,_,_,(Q (·.1.1.1.2.2.2.2.1) :),rfl,rfl,Gen.bJ rfl,.cons ⟨_,rfl⟩ (.cons ⟨_,rfl⟩ (.nil))⟩) (aB.cons bf (aB.cons bf (aB.nil)))⟩ (.cons ⟨rfl,⟨_,rfl⟩,.ref 34,rfl,λ_ _=>cf (vs:=[V.int 1,V.int 2,V.int 3]) (.inr ⟨_,_,_,(Q (·.1.1.1.2.2.2.1) :),rfl,rfl,Gen.bJ rfl,.cons ⟨_,rfl⟩ (.cons ⟨_,rfl⟩ (.cons ⟨_,rfl⟩ (.nil)))⟩) (aB.cons bf (aB.cons bf (aB.cons bf (aB.nil))))⟩ (.cons ⟨rfl,⟨_,rfl⟩,.ref 35,rfl,λ_ _=>cf (vs:=[V.int 1]) (.inr ⟨_,_,_,(Q (·.1.1.1.2.2.1.2) :),rfl,rfl,Gen.bJ rfl,.cons ⟨_,rfl⟩ (.nil)⟩) (aB.cons bf (aB.nil))⟩ (.cons ⟨rfl,⟨_,rfl⟩,.ref 36,rfl,λ_ _=>cf (vs:=[V.int 1]) (.inr ⟨_,_,_,(Q (·.1.1.1.2.2.1.1) :),rfl,rfl,Gen.bJ rfl,.cons ⟨_,rfl⟩ (.nil)⟩) (aB.cons bf (aB.nil))⟩ (.nil))))))),by show ([("give":Str),("put":Str),("do":Str),("get":Str),("set":Str),("if":Str),("while":Str)]).Nodup;decide +kernel⟩⟩⟩;have MR:mn.Mg w K mg:=⟨⟨_,j4 X G (Q (·.1.1.1.1.1.2.1) :)⟩,⟨15,j4 X G (Q (·.1.1.1.1.1.2.2) :),λH=>.inr ⟨_,_,_,(Q (·.1.1.1.1.2.1.1) :),rfl,rfl,Gen.bJ rfl,.cons ⟨_,rfl⟩ (.cons ⟨_,rfl⟩ (.nil))⟩⟩,dF,vX,vY,gU,ix,md,⟨163,(λo=>match o with | .plus=>127 | .minus=>134 | .times=>141 | .over=>148 | .rest=>155 | .less=>162),(j4 X G (Q (·.1.1.2.1.2.2.2.2) :)),(λo=>match o with | .plus=>(j4 X G (Q (·.1.1.2.1.1.2.1) :)) | .minus=>(j4 X G (Q (·.1.1.2.1.1.2.2) :)) | .times=>(j4 X G (Q (·.1.1.2.1.2.1.1) :)) | .over=>(j4 X G (Q (·.1.1.2.1.2.1.2) :)) | .rest=>(j4 X G (Q (·.1.1.2.1.2.2.1) :)) | .less=>(j4 X G (Q (·.1.1.2.1.2.2.2.1) :))),⟨_,_,(Q (·.1.1.2.2.1.1.1) :),(by first|rfl|decide),.cons ⟨rfl,⟨_,rfl⟩,.ref 127,rfl,λ_ _=>by simp only[At]⟩ (.cons ⟨rfl,⟨_,rfl⟩,.ref 134,rfl,λ_ _=>by simp only[At]⟩ (.cons ⟨rfl,⟨_,rfl⟩,.ref 141,rfl,λ_ _=>by simp only[At]⟩ (.cons ⟨rfl,⟨_,rfl⟩,.ref 148,rfl,λ_ _=>by simp only[At]⟩ (.cons ⟨rfl,⟨_,rfl⟩,.ref 155,rfl,λ_ _=>by simp only[At]⟩ (.cons ⟨rfl,⟨_,rfl⟩,.ref 162,rfl,λ_ _=>by simp only[At]⟩ (.nil)))))),by show ([("plus":Str),("minus":Str),("times":Str),("over":Str),("rest":Str),("less":Str)]).Nodup;decide +kernel⟩⟩⟩;have M5:V'.Mg5 K mg:=⟨ix,md,iy,dF,vX,vY,gU,pd,IH,⟨43,j4 X G (Q (·.1.1.1.1.2.2.2.1) :),λH=>.inr ⟨_,_,_,(Q (·.1.1.1.1.2.2.2.2) :),rfl,rfl,Gen.bJ rfl,.cons ⟨_,rfl⟩ (.cons ⟨_,rfl⟩ (.nil))⟩⟩,⟨42,j4 X G (Q (·.1.1.1.2.1.1.1) :),λH=>.inr ⟨_,_,_,(Q (·.1.1.1.2.1.1.2) :),rfl,rfl,Gen.bJ rfl,.cons ⟨_,rfl⟩ (.cons ⟨_,rfl⟩ (.cons ⟨_,rfl⟩ (.nil)))⟩⟩⟩;have MF:Lay.MgF mg:=⟨iy⟩;have MLy:Lay.Wb mg:=⟨ix,II⟩;have MRu:Rg.MgR mg:=⟨ix,iy,gU⟩;have lj:Rg.Ro K mg:=⟨ix,gU,⟨16,j4 X G (Q (·.1.1.1.1.2.1.2) :),λH=>.inr ⟨_,_,_,(Q (·.1.1.1.1.2.2.1) :),rfl,rfl,Gen.bJ rfl,.cons ⟨_,rfl⟩ (.cons ⟨_,rfl⟩ (.cons ⟨_,rfl⟩ (.nil)))⟩⟩⟩;have FO:Rg.Fos w K mg:=⟨⟨304,247,289,254,261,268,275,282,296,303,(j4 X G (Q (·.1.2.1.1.1.1.1) :)),(j4 X G (Q (·.1.1.2.2.1.1.2) :)),(j4 X G (Q (·.1.1.2.2.1.2.1) :)),(j4 X G (Q (·.1.1.2.2.1.2.2.1) :)),(j4 X G (Q (·.1.1.2.2.1.2.2.2) :)),(j4 X G (Q (·.1.1.2.2.2.1.1) :)),(j4 X G (Q (·.1.1.2.2.2.1.2) :)),(j4 X G (Q (·.1.1.2.2.2.2.1) :)),(j4 X G (Q (·.1.1.2.2.2.2.2.1) :)),(j4 X G (Q (·.1.1.2.2.2.2.2.2) :)),⟨_,_,(Q (·.1.2.1.1.1.1.2) :),(by first|rfl|decide),.cons ⟨rfl,⟨_,rfl⟩,.ref 247,rfl,λ_ _=>by simp only[At]⟩ (.cons ⟨rfl,⟨_,rfl⟩,.ref 289,rfl,λ_ _=>by simp only[At]⟩ (.cons ⟨rfl,⟨_,rfl⟩,.ref 254,rfl,λ_ _=>by simp only[At]⟩ (.cons ⟨rfl,⟨_,rfl⟩,.ref 261,rfl,λ_ _=>by simp only[At]⟩ (.cons ⟨rfl,⟨_,rfl⟩,.ref 268,rfl,λ_ _=>by simp only[At]⟩ (.cons ⟨rfl,⟨_,rfl⟩,.ref 254,rfl,λ_ _=>by simp only[At]⟩ (.cons ⟨rfl,⟨_,rfl⟩,.ref 275,rfl,λ_ _=>by simp only[At]⟩ (.cons ⟨rfl,⟨_,rfl⟩,.ref 282,rfl,λ_ _=>by simp only[At]⟩ (.cons ⟨rfl,⟨_,rfl⟩,.ref 296,rfl,λ_ _=>by simp only[At]⟩ (.cons ⟨rfl,⟨_,rfl⟩,.ref 303,rfl,λ_ _=>by simp only[At]⟩ (.cons ⟨rfl,⟨_,rfl⟩,.ref 303,rfl,λ_ _=>by simp only[At]⟩ (.nil))))))))))),by show ([("def":Str),("give":Str),("put":Str),("do":Str),("new":Str),("get":Str),("set":Str),("call":Str),("fail":Str),("if":Str),("while":Str)]).Nodup;decide +kernel⟩⟩⟩;have MG:jY.Mg mg:=⟨ix,md,gU⟩;have MS:Sm.Ro mg:=⟨dF,AL,vX,vY,pd,gU,ix,IH⟩;have ML:cc.N_ mg:=⟨dF,pd,ix,md,AL,vX,II⟩;have F:=pB (st:=cc.l_) (Q (·.2.1.2.2.2.2.2.1) :) (Q (·.2.1.2.2.2.2.2.2) :) (Q (·.2.2.1.1.1.1.1) :);have DL:Df K mg "law" cc.l_ qaW 404 _:=⟨F,hfa,F.binds (λ_ _ _ _ _ _=>Xw λ_=>rfl)⟩;refine⟨PySem.W.fnOf "law" "law" (cV cc.l_) (bD cc.l_) (aj cc.l_) .none (.none) (.none) (.str "law_slicewise_k14_choices_and_loops" 694) none (.ref 403) (.none),λs v=>.of_eq rfl,λbase _ _=>?_⟩;have tV:=dM X G (Q (·.2.2.1.1.1.1.2) :) λD=>Nm.Le (P:=l.prog) (w:=w) (base:=base) D M2;have AQ:=dM X G (Q (·.2.2.1.1.1.2.1) :) λD=>Nm.xA D M2 tV;have AR:=dM X G (Q (·.2.2.1.1.1.2.2) :) λD=>SY.xB D MU AQ;have Mt:=dM X G (Q (·.2.2.1.1.2.1.1) :) λD=>V'.GQ (P:=l.prog) (w:=w) (base:=base) D M5;have vZ:=dM X G (Q (·.2.2.1.1.2.1.2) :) λD=>Lay.sf (P:=l.prog) (w:=w) (base:=base) D MF;have IK:=Lay.Dz D4 MLy az Mt vZ;have me:=dM X G (Q (·.2.2.1.1.2.2.1) :) λD=>Nx.sg (P:=l.prog) (w:=w) (base:=base) D az;have D6:=dM X G (Q (·.2.2.1.1.2.2.2.1) :) λD=>Nx.Aa (P:=l.prog) (w:=w) (base:=base) D;have IL:=dM X G (Q (·.2.2.1.1.2.2.2.2) :) λD=>Nx.DD (P:=l.prog) (w:=w) (base:=base) D az;have Ol:=dM X G (Q (·.2.2.1.2.1.1.1) :) λD=>mn.Ac (P:=l.prog) (w:=w) (base:=base) D MR;have yF:=dM X G (Q (·.2.2.1.2.1.1.2) :) λD=>mn.vt (P:=l.prog) (w:=w) (base:=base) D MR;have yG:=dM X G (Q (·.2.2.1.2.1.2.1) :) λD=>mn.vy D MR yF;have Ss:=dM X G (Q (·.2.2.1.2.1.2.2.1) :) λD=>mn.Lz (P:=l.prog) (w:=w) (base:=base) D MR;have Mu:=dM X G (Q (·.2.2.1.2.1.2.2.2) :) λD=>mn.G_ (P:=l.prog) (w:=w) (base:=base) D MR;have AS:=dM X G (Q (·.2.2.1.2.2.1.1) :) λD=>mn.xT D MR Ol yG Ss Mu;have Mv:=Rg.HI (P:=l.prog) (w:=w) (base:=base) IJ bU;have AU:=dM X G (Q (·.2.2.1.2.2.1.2) :) λD=>Rg.x_ D ag bU tV;have D7:=dM X G (Q (·.2.2.1.2.2.2.1) :) λD=>Rg.Aj D (cFrame:=194) ag AS;have jd:=dM X G (Q (·.2.2.1.2.2.2.2.1) :) λD=>Rg.oC D (cFrame:=194) ag me;have gz:=dM X G (Q (·.2.2.1.2.2.2.2.2) :) λD=>Rg.qP D ag bU jd;have yH:=dM X G (Q (·.2.2.2.1.1.1.1) :) λD=>Rg.vI D ag gz;have sD:=dM X G (Q (·.2.2.2.1.1.1.2) :) λD=>Rg.qR (P:=l.prog) (w:=w) (base:=base) D (cLayout:=74) ag bU;have Mw:=dM X G (Q (·.2.2.2.1.1.2.1) :) λD=>Rg.HP D MRu ag bU az Mv;have v5:=dM X G (Q (·.2.2.2.1.1.2.2) :) λD=>Rg.sk D ag gz;have sE:=dM X G (Q (·.2.2.2.1.2.1.1) :) λD=>Rg.qQ (P:=l.prog) (w:=w) (base:=base) D (cFrame:=194) (cLayout:=74) ag;have oH:=dM X G (Q (·.2.2.2.1.2.1.2) :) λD=>Rg.nq D (cFrame:=194) ag D6 IL;have AV:=dM X G (Q (·.2.2.2.1.2.2.1) :) λD=>Rg.ye D lj ag FO AR AU D7 jd gz yH sD v5 sE oH;have Su:=dM X G (Q (·.2.2.2.1.2.2.2.1) :) λD=>Rg.LY D lj ag az me AV;have D8:=Rg.Av AN ag IK;have yI:=dM X G (Q (·.2.2.2.1.2.2.2.2) :) λD=>Rg.vM D ag az D8 Mw Ol Su;have Sw:Hj K "run" "run" Rg.fP 324 (PySem.W.fnOf "run" "run" (cV Rg.fP) (bD Rg.fP) (aj Rg.fP) (.ref 317) (.none) (.none) (.str "slicewise.runs" 446) none (.ref 323) (.none)):=⟨⟨_,_,_,_,_,_,_,_,_,_,rfl,(Q (·.2.1.2.2.1.2.2.1) :),(Q (·.2.1.2.2.1.2.2.2) :)⟩,(Q (·.2.1.2.2.2.1.1) :)⟩;have Sx:Binds K (PySem.W.fnOf "run" "run" (cV Rg.fP) (bD Rg.fP) (aj Rg.fP) (.ref 317) (.none) (.none) (.str "slicewise.runs" 446) none (.ref 323) (.none)) qaM []:=BX (m:=3) rfl (Q (·.2.1.2.2.2.1.2) :) rfl rfl (gf.vW λ_=>(gf.vW λ_=>(gf.vW λ_=>(gf.Sn ⟨_,rfl,rfl⟩))));have Sy:Binds K (PySem.W.fnOf "run" "run" (cV Rg.fP) (bD Rg.fP) (aj Rg.fP) (.ref 317) (.none) (.none) (.str "slicewise.runs" 446) none (.ref 323) (.none)) qaM [.int (200) 678]:=BX (m:=2) rfl (Q (·.2.1.2.2.2.1.2) :) rfl rfl (gf.vW λ_=>(gf.vW λ_=>(gf.Sn ⟨_,rfl,rfl⟩)));have Xx:=Rg.Rx (P:=l.prog) (w:=w) (base:=base) Sw (j4 X G (Q (·.2.1.2.2.1.2.1) :)) Sx Sy yI;have rn:=dM X G (Q (·.2.2.2.2.1.1.1) :) λD=>jY.Ax (P:=l.prog) (w:=w) (base:=base) D MG;have v7:=dM X G (Q (·.2.2.2.2.1.1.2) :) λD=>jY.H_ (P:=l.prog) (w:=w) (base:=base) D MG;have yJ:=dM X G (Q (·.2.2.2.2.1.2.1) :) λD=>Sm.L5 (P:=l.prog) (w:=w) (base:=base) D MS;have rp:=dM X G (Q (·.2.2.2.2.1.2.2.1) :) λD=>cc.Ac (P:=l.prog) (w:=w) (base:=base) D;have AW:=dM X G (Q (·.2.2.2.2.1.2.2.2) :) λD=>cc.RT (P:=l.prog) (w:=w) (base:=base) D ML;have je:=dM X G (Q (·.2.2.2.2.2.1.1) :) λD=>cc.Md D ML rp;have yK:=dM X G (Q (·.2.2.2.2.2.1.2) :) λD=>cc.Mh D ML je;have yL:=dM X G (Q (·.2.2.2.2.2.2.1) :) λD=>cc.Ml D ML je yK;have AX:=dM X G (Q (·.2.2.2.2.2.2.2.1) :) λD=>cc.R8 D ML je yL;have yM:=dM X G (Q (·.2.2.2.2.2.2.2.2) :) λD=>cc.Mp (P:=l.prog) (w:=w) (base:=base) D ML;exact cc.Sj DL ML rn v7 yM rp AX AW Xx yJ
theorem walk{l:PySem.W.OpenLaw}{q:Program}{loose:qai}{XP:(qae)->Heap->Prop}{d:DefRec}{K:World->qaf}(hn:l.most=some 63)(Pf:d.params.defaults=[])(F:∀(w:World) (mg:qae) (fa:Addr) (h:Heap),(K w).In h->h.Ns mainGlobals mg->mg d.name=some (.ref fa) ->
    ∃fd:FuncData,(∀(s:Shared) (u:Value),BindsTo s fd ⟨[u],[]⟩ [("_law_script",u)])/\∀base:Heap,(K w).In base->base.Ns mainGlobals mg->cp l.prog w (K w) mg base dS 10 fa fd qaW (dO (K w) 1 cc.Mq)) :
  PySem.W.WalkO q loose XP (λw h=>(K w).In h) l.row.toRowW d [] (λf vs=>PySem.call f vs):=by
 refine X0.wG hn Pf λw s₀ s₁ mg mb fa o pm cd doc a vs ns G Y ho hd fA Us Pg hints hlen hg=>?_;obtain⟨fd,hb,hF⟩:=F w mg fa _ Y G.T.g Us;exact EY (CX:=dS) (sp:=dO (K w) 1 cc.Mq) (k:=10) Y G.T.g G.T.b G.T.builtins G.T.nolimit hg Pg hints (mm hlen (by decide)) ⟨rfl,by decide,by decide⟩ hF hb (λH _ hS=>
  ⟨[.lst (ns.map .int)],[],[],λ_ r=>r=.vw (.bl true),Jl,λ_ z=>(nomatch z),λ_ z=>(nomatch z),h_ rfl (aB.cons (by
     simp only[At];refine⟨a,ns.map V.int,rfl,hS.imp (λz=>⟨z,λm=>nomatch m⟩) id,?_⟩;clear hS;clear hints hlen;induction ns with
     |nil=>exact aB.nil
     |cons n ns ih=>exact aB.cons bf ih) aB.nil),⟨ns,rfl,hlen,rfl⟩,λus r hr v H' _ z=>by
     subst hr;have:=z.1;simpa only[At] using this⟩) λ_ _ _ z=>z
end gf
open PySem PySem.W PyProof.Rows
set_option maxRecDepth 100000 in
set_option maxHeartbeats 0 in
theorem PySem.Challenge.cw_slicewise_k14_choices_and_loops_holds : PySem.Challenge.rw_slicewise_k14_choices_and_loops.Holds := by
 w_on
 refine PySem.W.holds_law gf.So λSo=>?_;refine PySem.W.holds_openX (q:=gf.qE) (loose:=gf.rj) (Xt:=HE.KJ gf.qE [] []) (XP:=PySem.W.XL gf.qE []) (d:=gf.dE) (kwd:=[]) (N:=6074) gf.hd.1 (λs e=>PySem.W.xl_of s (Bool.and_eq_true_iff.mp e).1) PySem.W.XL.keeps (by kernel_rfl) (by kernel_rfl) (by kernel_rfl) (λs e=>PySem.W.recFacts_of (Bool.and_eq_true_iff.mp e).2) (by kernel_rfl) So (by kernel_rfl) ⟨rfl,rfl,rfl,rfl,rfl,by decide +kernel⟩ ?hw ?hc
 (case hw=>w_witness2)
 exact HE.Ga (gf.walk (l:=PySem.Challenge.rw_slicewise_k14_choices_and_loops) (K:=gf.KE) rfl rfl (λw mg fa h KX G Us=>gf.Sq KX G Us (gf.hd.2 w)))
