import PyProof.Rows.All
import Wide.All
import OpenK.AllK
import Wide.FinOn
import Lean
import PyProof.EqAt
import PyProof.EqKinds
import PyProof.TupleCall
import PyProof.NeKinds
import PyProof.Rows.SumAny
import PyProof.StrBlockL
import PyProof.StrBlockI
import PyProof.FitsReplace
import PyProof.Rows.SeqMore
import PyProof.Rows.TupAdd
import PyProof.Draws
import PyProof.ZipIter
import OpenK.ZGo
import PyProof.ListNew
import PyProof.Rows.SortStr
import PyProof.Rows.SortWalk
import PyProof.IsRules
import KE.KDictLaws
import PyProof.DictWalks
import PyProof.WalkInts
import PyProof.DictItems
import PyProof.Rows.DictItemsRows
import KE.KPairComp
import PyProof.Rows.BitMore
import PyProof.Rows.SetFrom
import PyProof.SetRoads
import PyProof.CollectIter
import PyProof.Rows.SortShellK
import PyProof.SeqRoads2
import PySem.Challenge.RW_slicewise_k16_cut_anywhere
set_option Elab.async false
set_option linter.all false
set_option genSizeOf false
set_option genSizeOfSpec false
set_option bootstrap.genMatcherCode false
set_option maxRecDepth 100000
set_option maxHeartbeats 8000000
variable{w:PySem.World}{n i j most t' m:Nat}{f a C dx d:PySem.Addr}{fd:PySem.FuncData}{x y qual:PySem.Str}{e b o c iter:PySem.Expr}{A:PySem.Around}{P prog:PySem.Program}{α β:Type}{p apos aZ p1 fP p2:PySem.Pos}{base h h':PySem.Heap}{O:HD}{u:PySem.Value}{B:Prop}{s':PySem.Shared}{sc:PySem.Scope}
abbrev HD:=List (Option PySem.Addr)
abbrev qaa:=List (PySem.Addr×PySem.Obj)
abbrev qad:=PySem.Value->PySem.Shared->Prop
abbrev qae:=PySem.Str->Option PySem.Value
abbrev qaf:=PySem.W.Frag
abbrev qag:=List PySem.Value
abbrev qah:=List PySem.Addr
abbrev qai:=List PySem.Str
abbrev qan:=List Int
abbrev qao:=List Nat
abbrev qap:=List PySem.Expr
abbrev qaq:=List PySem.Stmt
abbrev qar:=Option PySem.Addr
abbrev qav:List PySem.Str:=["self","program","most","poke"]
abbrev qaw:List PySem.Str:=["call","names"]
abbrev qax:List PySem.Str:=["thing"]
abbrev qay:List PySem.Str:=["program"]
abbrev qaz:List PySem.Str:=["self","program"]
abbrev qaA:List PySem.Str:=["layout","place"]
abbrev qaB:List PySem.Str:=["number"]
abbrev qaC:List PySem.Str:=["value"]
abbrev qaD:List PySem.Str:=["one","other"]
abbrev qaE:List PySem.Str:=["one","word","other"]
abbrev qaF:List PySem.Str:=["self","call","names"]
abbrev qaG:List PySem.Str:=["machine","part"]
abbrev qaH:List PySem.Str:=["key","used"]
abbrev qaI:List PySem.Str:=["machine","row","used"]
abbrev qaJ:List PySem.Str:=["machine","row","used","made"]
abbrev qaK:List PySem.Str:=["machine","place","call","given"]
abbrev qaL:List PySem.Str:=["machine","row"]
abbrev qaM:List PySem.Str:=["program","inputs","most","poke"]
abbrev qaN:List PySem.Str:=["program","inputs","most"]
abbrev qaO:List PySem.Str:=["_law_script","_law_k"]
abbrev qaP:List PySem.Str:=["_law_cell","_law_names_here"]
abbrev qaQ:List PySem.Str:=["_law_cell","_law_many"]
abbrev qaR:List PySem.Str:=["_law_k"]
abbrev qaS:List PySem.Str:=["_law_kind","_law_cell","_law_names_here","_law_there"]
abbrev qaT:List PySem.Str:=["_law_rows","_law_blocks","_law_cell","_law_names_here","_law_there"]
abbrev qaU:List PySem.Str:=["_law_cells","_law_names_here","_law_head"]
abbrev qaV:List PySem.Str:=["_law_told"]
abbrev qaW:List PySem.Str:=["_law_rows","_law_inputs","_law_most","_law_doings","_law_end"]
abbrev qaX:List PySem.Str:=["_law_script"]
abbrev ie(x:PySem.Str):Prop:=(x==("__debug__":PySem.Str))=false
abbrev uj(x:PySem.Str):Prop:=(x==("__classdict__":PySem.Str))=false
abbrev bU:=@List.mem_append_right
abbrev cw:=@List.mem_append_left
abbrev dS:=@List.getElem?_eq_some_iff
abbrev cN:=@List.mem_append
abbrev dw:=@List.mem_cons_self
abbrev cV:=@List.length_map
abbrev cT:=@List.mem_cons
abbrev gG:=@List.mem_cons_of_mem
abbrev gH:=@List.mem_of_getElem?
abbrev c3:=@Nat.le_refl
abbrev gb:=@List.not_mem_nil
abbrev gJ:=@List.getElem?_map
abbrev kD:=@List.getElem?_eq_getElem
abbrev iD:=@Bool.false_ne_true
abbrev oI:=@List.getElem?_append_right
abbrev mY:=@List.getElem?_append_left
abbrev iX:=@List.size_toArray
abbrev jh:=@List.mem_singleton
abbrev mV:=@PySem.Heap.get?_push_of_some
abbrev gR:=@List.map_cons
abbrev mW:=@List.filterMap_cons
abbrev ji:=@PySem.boot_len
abbrev nX:=@List.length_append
abbrev lL:=@Bool.and_eq_true
abbrev iY:=@PySem.Heap.lt_size
abbrev lx:=@List.nodup_cons
abbrev oJ:=@Int.emod_lt_of_pos
abbrev wH:=@List.getLast?_eq_getElem?
abbrev rP:=@List.getElem?_set_ne
abbrev kE:=@PySem.W.mg_of
abbrev rQ:=@List.replicate_succ
abbrev jj:=@Nat.zero_le
abbrev sR:=@PySem.Heap.get?_push_size
abbrev oK:=@Int.emod_nonneg
abbrev ly:=@Nat.le_trans
abbrev zi:=@List.length_replicate
abbrev Bd:=@PySem.F.slot_list_append
abbrev Be:=@PySem.F.type_list_append
abbrev rM:=@List.map_append
abbrev wx:=@Nat.lt_of_lt_of_le
abbrev nY:=@Nat.ne_of_lt
abbrev Bf:=@List.getElem?_set_self
abbrev wy:=@Int.toNat_natCast
abbrev zo:=@List.length_dropLast
abbrev CA:=@List.getElem?_replicate
abbrev CB:=@Int.eq_ofNat_of_zero_le
abbrev wI:=@List.length_cons
abbrev zp:=@List.nodup_append
abbrev sS:=@List.mem_map
abbrev EK:=@Bool.false_eq_true
abbrev EL:=@PySem.W.mg_none_of
abbrev M9:=@List.mem_iff_getElem?
abbrev Jd:=@List.getElem?_eq_none
abbrev EZ:=@List.set_cons_succ
abbrev Bg:=@List.mem_range
abbrev CC:=@List.append_nil
abbrev EM:=@Nat.lt_succ_self
abbrev Jz:=@List.getElem?_range
abbrev M_:=@List.length_eq_zero_iff
abbrev JA:=@List.getLast?_concat
abbrev Je:=@List.flatten_cons
abbrev Jf:=@List.length_range
abbrev M':=@PySem.F.slot_dict_get
abbrev Bh:=@List.map_map
abbrev JB:=@List.zip_cons_cons
abbrev Jg:=@List.length_take
abbrev Jh:=@List.lookup_cons
abbrev OA:=@List.getElem?_dropLast
abbrev Na:=@Array.length_toList
abbrev Nb:=@PySem.mem_of_lookup
abbrev Ji:=@List.length_set
abbrev SR:=@List.mem_or_eq_of_mem_set
abbrev Jj:=@List.find?_cons
abbrev Nc:=@List.set_cons_zero
abbrev OB:=@List.dropLast_concat
abbrev SS:=@PySem.F.plainAttrs_list
abbrev Nd:=@List.ext_getElem?
abbrev TK:=@PyProof.Rows.callWith_type1
abbrev JC:=@PySem.PassesOwn.never
abbrev Jk:=@Bool.not_true
abbrev Jl:=@Bool.and_self
abbrev Nf:=@List.cons_append
abbrev OC:=@PySem.Calls.spliced_cons
abbrev JD:=@List.nodup_nil
abbrev TL:=@Classical.byContradiction
abbrev OD:=@List.append_assoc
abbrev OE:=@Nat.lt_succ_of_lt
abbrev JE:=@Nat.lt_irrefl
abbrev TM:=@List.filter_cons_of_pos
abbrev TN:=@PySem.F.args_dict_get_3
abbrev TQ:=@PySem.F.plainAttrs_dict
abbrev SU:=@List.length_pos_iff
abbrev OF:=@List.all_eq_true
abbrev TR:=@PySem.Calls.callWith_builtin
abbrev TU:=@Option.map_eq_some_iff
abbrev TV:=@PySem.F.entry_dict_get
abbrev JF:=@List.map_nil
abbrev OG:=@PySem.W.kia_one
abbrev OH:=@List.length_zip
abbrev Ng:=@List.any_cons
abbrev Xu:=@PySem.F.slot_tuple_iterator_next
abbrev TX:=@List.getElem?_mapIdx
abbrev TY:=@List.getElem?_zipIdx
abbrev Nh:=@Nat.ne_of_gt
abbrev SV:=@List.getElem_mem
abbrev Ni:=@Nat.min_self
abbrev SW:=@Option.bind_some
abbrev TZ:=@List.map_congr_left
abbrev Yv:=@PyProof.Rows.slot_tuple_getitem
abbrev Xv:=@List.getElem?_cons_zero
abbrev OI:=@PySem.Paired.length
abbrev SX:=@List.mem_filter
abbrev SY:=@List.nil_append
abbrev S3:=@Option.map_some
abbrev S4:=@List.length_nil
abbrev T1:=@List.getElem?_set
abbrev Xw:=@Bool.beq_eq_decide_eq
abbrev Xx:=@PySem.F.slot_list_pop
abbrev Xy:=@PySem.F.type_list_pop
abbrev Xz:=@List.take_append_drop
abbrev OJ:=@Nat.sub_self
abbrev T2:=@List.length_drop
abbrev XA:=@PySem.Calls.evalArgs_plain
abbrev XB:=@PySem.F.slot_NoneType_hash
abbrev Yw:=@List.getD_eq_getElem?_getD
abbrev T3:=@Bool.eq_iff_iff
abbrev Yx:=@List.drop_eq_getElem_cons
abbrev T4:=@Nat.min_eq_left
abbrev XC:=@List.mem_filterMap
abbrev XD:=@PySem.W.callWith_K
abbrev Yy:=@PySem.F.args_tuple_add_2
abbrev XE:=@Nat.lt_of_le_of_lt
abbrev XF:=@List.filter_append
abbrev S6:=@Int.zero_add
abbrev T5:=@Bool.false_and
abbrev T6:=@PySem.Heap.size_push
abbrev Yz:=@PySem.F.entry_tuple_add
abbrev YA:=@List.filter_cons_of_neg
abbrev S7:=@Nat.le_succ
abbrev YB:=@PySem.F.slot_tuple_add
abbrev YC:=@List.zipWith_cons_cons
abbrev T7:=@Bool.true_and
abbrev XG:=@Option.getD_some
namespace L2
open PySem PySem.Spec PyProof.Rows
abbrev Key:=Sum Int Str
def sT:Key->Value->Bool
 |.inl k,v=>Value.isInt k v
 |.inr x,v=>Value.isStrOf x v
def YD(w:World):Key->Int
 |.inl k=>hashInt k
 |.inr x=>hashStr w x
theorem cx:∀{k:Key}{v:Value},sT k v=true->(∃i t,k=Sum.inl i/\v=Value.int i t)\/(∃x t,k=Sum.inr x/\v=Value.str x t)
 |.inl i,v,h=>by obtain⟨t,e⟩:=Value.isInt_shape (k:=i) (v:=v) h;exact .inl ⟨i,t,rfl,e⟩
 |.inr x,v,h=>by obtain⟨t,e⟩:=Value.isStrOf_shape (x:=x) (v:=v) h;exact .inr ⟨x,t,rfl,e⟩
theorem CD(i:Int)(t:Tok):sT (.inl i) (.int i t)=true:=by simp[sT,Value.isInt]
theorem CF(x:Str)(t:Tok):sT (.inr x) (.str x t)=true:=by simp[sT,Value.isStrOf]
theorem OK(a b:Int):decide ((Sum.inl a:Key)=Sum.inl b)=(a==b):=by by_cases e:a=b;subst e;simp;have h:¬ (Sum.inl a:Key)=Sum.inl b:=λq=>e (Sum.inl.inj q);rw[decide_eq_false h];exact (beq_eq_false_iff_ne.mpr e).symm
theorem OL(a b:Str):decide ((Sum.inr a:Key)=Sum.inr b)=decide (a=b):=by by_cases e:a=b;subst e;simp;have h:¬ (Sum.inr a:Key)=Sum.inr b:=λq=>e (Sum.inr.inj q);rw[decide_eq_false h,decide_eq_false e]
theorem OM(a:Int)(b:Str):decide ((Sum.inl a:Key)=Sum.inr b)=false:=decide_eq_false (λq=>nomatch q)
theorem ON(a:Str)(b:Int):decide ((Sum.inr a:Key)=Sum.inl b)=false:=decide_eq_false (λq=>nomatch q)
noncomputable def aX(prog:Program)(w:World):PySem.KeyKind prog w Key where
 is:=sT
 hash:=YD w
 inj:=λv a b ha hb=>by
  rcases cx ha with⟨i,t,rfl,rfl⟩|⟨x,t,rfl,rfl⟩
  rcases cx hb with⟨j,u,rfl,e⟩|⟨y,u,rfl,e⟩
  injection e with e1 _;rw[e1]
  exact nomatch e;rcases cx hb with⟨j,u,rfl,e⟩|⟨y,u,rfl,e⟩
  exact nomatch e;injection e with e1 _;rw[e1]
 byValue:=λk v h=>by rcases cx h with⟨i,t,rfl,rfl⟩|⟨x,t,rfl,rfl⟩<;>rfl
 pyHash:=λhv h=>by
  rcases cx hv with⟨i,t,rfl,rfl⟩|⟨x,t,rfl,rfl⟩
  exact wpAny_pyHash_int h;exact wpAny_pyHash_str h
 eqBool:=λhu hv h=>by
  rcases cx hu with⟨i,t,rfl,rfl⟩|⟨x,t,rfl,rfl⟩
  rcases cx hv with⟨j,u,rfl,rfl⟩|⟨y,u,rfl,rfl⟩
  rw[OK] at h;exact wpAny_eqBool_int h;rw[OM] at h;exact SeqAt.EqAt.int_str i t y u _ _ _ _ h;rcases cx hv with⟨j,u,rfl,rfl⟩|⟨y,u,rfl,rfl⟩
  rw[ON] at h;exact SeqAt.EqAt.str_int x t j u _ _ _ _ h;rw[OL] at h;exact wpAny_eqBool_str h
 «strs»:=λk x t v h=>by
  rcases cx h with⟨i,u,rfl,e⟩|⟨y,u,rfl,e⟩
  exact nomatch e;injection e with e1 _
  subst e1;cases v<;>rfl
theorem wJ(prog:Program)(w:World)(i:Int)(t:Tok):(aX prog w).is (.inl i) (.int i t)=true:=CD i t
theorem wK(prog:Program)(w:World)(x:Str)(t:Tok):(aX prog w).is (.inr x) (.str x t)=true:=CF x t
inductive V where
 |aQ|bl (b:Bool)|int (i:Int)|str (x:Str)|YE (b:Array UInt8)|S8 (b:UInt64)|ref (a:Addr)|ty (n:String)
 deriving DecidableEq
def RelV:V->Value->Prop
 |.aQ,u=>u=Value.none
 |.bl b,u=>u=Value.bool b
 |.int i,u=>∃t,u=Value.int i t
 |.str x,u=>∃t,u=Value.str x t
 |.YE b,u=>∃t,u=Value.bytes b t
 |.S8 b,u=>∃t,u=Value.float b t
 |.ref a,u=>u=Value.ref a
 |.ty n,u=>u=Value.type n
abbrev Vals:List V->qag->Prop:=Paired RelV
theorem Vals.length{xs:List V}{us:qag}(r:Vals xs us):xs.length=us.length:=OI r
theorem Vals.get:∀{xs:List V}{us:qag}{i:Nat}{x:V},Vals xs us->xs[i]?=some x->∃u,us[i]?=some u/\RelV x u
 |_,_,_,_,.nil,e=>by simp at e
 |_,_,0,_,.cons r _,e=>by simp at e;subst e;exact⟨_,rfl,r⟩
 |_,_,i+1,x,.cons _ t,e=>by obtain⟨u,h1,h2⟩:=Vals.get (i:=i) (x:=x) t (by simpa using e);exact⟨u,by simpa using h1,h2⟩
theorem Vals.set{x:V}{u:Value}(r:RelV x u):∀{xs:List V}{us:qag}(i:Nat),Vals xs us->Vals (xs.set i x) (us.set i u)
 |_,_,_,.nil=>.nil
 |_,_,0,.cons _ t=>.cons r t
 |_,_,i+1,.cons q t=>.cons q (Vals.set r i t)
theorem Vals.append:∀{xs ys:List V}{us ws:qag},Vals xs us->Vals ys ws->Vals (xs++ys) (us++ws)
 |_,_,_,_,.nil,s=>s
 |_,_,_,_,.cons r t,s=>.cons r (Vals.append t s)
theorem Vals.take:∀{xs:List V}{us:qag}(n:Nat),Vals xs us->Vals (xs.take n) (us.take n)
 |_,_,0,_=>.nil
 |_,_,_+1,.nil=>.nil
 |_,_,n+1,.cons r t=>.cons r (Vals.take n t)
theorem Vals.drop:∀{xs:List V}{us:qag}(n:Nat),Vals xs us->Vals (xs.drop n) (us.drop n)
 |_,_,0,r=>r
 |_,_,_+1,.nil=>.nil
 |_,_,n+1,.cons _ t=>Vals.drop n t
def ki:Option V->Option Value->Prop
 |some v,some u=>RelV v u
 |none,none=>True
 |_,_=>False
def KV{κ:Type}:List (κ×V)->List (κ×Value)->Prop:=Paired λ(p:κ×V) (q:κ×Value)=>p.1=q.1/\RelV p.2 q.2
noncomputable def kV:Key->V
 |.inl i=>.int i
 |.inr x=>.str x
inductive HO where
 |lst (xs:List V)
 |tup (xs:List V)
 |dK (a_:List (Key×V))|dT (a_:List (List Key×V))
 |set (S:Int->Bool) (n:Nat)
 |ins (C dx:Addr) (fs:List (Str×V))
 |own (x:Addr)
 |xd (fs:List (Str×V))
 |met (f x:Addr)
 |YF (lo hi:Int)
 |CG (o:Obj) (u:HO)
 |OQ (ps:Array Value)
 |ext (φ:Heap->Prop)
abbrev Hp:=Addr->Option HO
def upd(H:Hp)(a:Addr)(o:HO):Hp:=λb=>if b=a then some o else H b
theorem aI{H:Hp}{o:HO}:upd H a o a=some o:=by unfold upd;rw[if_pos rfl]
theorem aE{H:Hp}{b:Addr}{o:HO}(h:b≠a):upd H a o b=H b:=by unfold upd;rw[if_neg h]
theorem E2{H:Hp}{b:Addr}{o u:HO}(h:H a=some o)(h':H b=some u)(d:o≠u):a≠b:=by intro e;subst e;rw[h] at h';exact d (Option.some.inj h')
theorem bo{H:Hp}{b:Addr}{o:HO}(h:H a=some o)(h':H b=none):a≠b:=by intro e;subst e;rw[h] at h';cases h'
section
variable(P:Program)(w:World)
def cy(H:Hp)(h:Heap)(a:Addr):HO->Prop
 |.lst xs=>xs.length<=sizeLine/\∃(a5:qag)(n:Nat),Vals xs a5/\h.get? a=some {cls:=.type "list",data:=.seq a5.toArray n}
 |.tup xs=>xs.length<=sizeLine/\∃a5:qag,Vals xs a5/\IsTup h a a5.toArray
 |.dK a_=>a_.length<=sizeLine/\(a==sysModules)=false/\∃vs,KV a_ vs/\h.DictOf (aX P w) a vs
 |.dT a_=>a_.length<=sizeLine/\(a==sysModules)=false/\∃xs:List (List Key×Addr×Value),
  Paired (λ(p:List Key×V) (q:List Key×Addr×Value)=>p.1=q.1/\H q.2.1=some (.tup (p.1.map kV))/\RelV p.2 q.2.2) a_ xs /\
  ∃o es ep,h.get? a=some o/\o.ExactDict/\o.data=.dict es ep/\es.toList=xs.map (entryOfKey (tupleKind (aX P w)))/\(xs.map (·.1)).Nodup
 |.set S n=>h.SetOf (intKind P w) a S n
 |.ins C dx fs=>H dx=some (.own a)/\fs.length<=1000/\dx≠a/\h.get? a=some (PySem.W.instObj C dx) /\
  ∃mA,h.Ns1 dx mA/\(∀f,ki (fs.lookup f) (mA f))/\PySem.Within mA (fs.map (·.1))
 |.own _=>∃o,h.get? a=some o
 |.xd fs=>∃mA,h.Ns1 a mA/\∀f,ki (fs.lookup f) (mA f)
 |.YF lo hi=>∃t u v,h.get? a=some {cls:=.type "range",data:=.fields #[.int lo t,.int hi u,.int 1 v]}
 |.CG o u=>h.get? a=some o/\cy H h a u
 |.OQ ps=>h.get? a=some {cls:=.none,data:=.fields ps}
 |.met f x=>h.get? a=some (PySem.W.methodObj (.ref f) (.ref x))
 |.ext φ=>φ h/\(∃o,h.get? a=some o)/\∀h1 h2:Heap,φ h1->(∀o,h1.get? a=some o->h2.get? a=some o)->φ h2
def lz(H:Hp)(h:Heap):Prop:=∀a o,H a=some o->cy P w H h a o
end
section
variable{H H':Hp}{o:HO}
theorem cy.lt(x:cy P w H h a o):a<h.objs.size:=by
 cases o with
 |lst xs=>obtain⟨_,_,_,_,e⟩:=x;exact iY e
 |tup xs=>obtain⟨_,_,_,p⟩:=x;exact p.lt
 |dK a_=>obtain⟨_,_,_,_,o,_,_,e,_⟩:=x;exact iY e
 |dT a_=>obtain⟨_,_,_,_,o,_,_,e,_⟩:=x;exact iY e
 |set S n=>obtain⟨o,_,_,_,e,_⟩:=x;exact iY e
 |ins C dx fs=>obtain⟨_,_,_,e,_⟩:=x;exact iY e
 |own y=>obtain⟨_,e⟩:=x;exact iY e
 |xd fs=>obtain⟨_,⟨_,_,_,e,_⟩,_⟩:=x;exact iY e
 |YF lo hi=>obtain⟨_,_,_,e⟩:=x;exact iY e
 |CG ob u=>obtain⟨e,_⟩:=x;exact iY e
 |OQ ps=>exact iY (show h.get? a=some _ from x)
 |met f y=>exact iY (show h.get? a=some _ from x)
 |ext φ=>obtain⟨_,⟨_,e⟩,_⟩:=x;exact iY e
theorem Paired.mZ{α β:Type}{F G:α->β->Prop}:∀{l₁:List α}{l₂:List β},Paired F l₁ l₂->(∀a b,F a b->G a b)->Paired G l₁ l₂
 |_,_,.nil,_=>.nil
 |_,_,.cons r t,f=>.cons (f _ _ r) (Paired.mZ t f)
theorem cy.CH(x:cy P w H h a o)(k:∀b u,(b=a\/H b=some (.own a))->h.get? b=some u->h'.get? b=some u)(ho:∀b,H b=some (.own a)->H' b=some (.own a))(ht:∀b xs,H b=some (.tup xs)->H' b=some (.tup xs)):cy P w H' h' a o:=by
 induction o with
 |lst xs=>obtain⟨z,a5,n,r,e⟩:=x;exact⟨z,a5,n,r,k _ _ (.inl rfl) e⟩
 |tup xs=>obtain⟨z,a5,r,ob,e,c⟩:=x;exact⟨z,a5,r,ob,k _ _ (.inl rfl) e,c⟩
 |dK a_=>obtain⟨z,y,vs,r,ob,es,ep,e,c⟩:=x;exact⟨z,y,vs,r,ob,es,ep,k _ _ (.inl rfl) e,c⟩
 |dT a_=>obtain⟨z,y,xs,r,ob,es,ep,e,c⟩:=x;exact⟨z,y,xs,Paired.mZ r λp q z=>⟨z.1,ht _ _ z.2.1,z.2.2⟩,ob,es,ep,k _ _ (.inl rfl) e,c⟩
 |set S n=>obtain⟨ob,es,ep,t,e,c⟩:=x;exact⟨ob,es,ep,t,k _ _ (.inl rfl) e,c⟩
 |ins C dx fs=>obtain⟨d,z,ne,e,mA,⟨od,es,ep,e2,c⟩,r⟩:=x;exact⟨ho _ d,z,ne,k _ _ (.inl rfl) e,mA,⟨od,es,ep,k _ _ (.inr d) e2,c⟩,r⟩
 |own y=>obtain⟨ob,e⟩:=x;exact⟨ob,k _ _ (.inl rfl) e⟩
 |xd fs=>obtain⟨mA,⟨od,es,ep,e,c⟩,r⟩:=x;exact⟨mA,⟨od,es,ep,k _ _ (.inl rfl) e,c⟩,r⟩
 |YF lo hi=>obtain⟨t,u,v,e⟩:=x;exact⟨t,u,v,k _ _ (.inl rfl) e⟩
 |CG ob u ih=>obtain⟨e,q⟩:=x;exact⟨k _ _ (.inl rfl) e,ih q⟩
 |OQ ps=>have e:h.get? a=some {cls:=.none,data:=.fields ps}:=x;show h'.get? a=some {cls:=.none,data:=.fields ps};exact k a _ (.inl rfl) e
 |met f y=>have e:h.get? a=some (PySem.W.methodObj (.ref f) (.ref y)):=x;show h'.get? a=some (PySem.W.methodObj (.ref f) (.ref y));exact k a _ (.inl rfl) e
 |ext φ=>obtain⟨p,⟨o,e⟩,st⟩:=x;exact⟨st _ _ p λo q=>k _ _ (.inl rfl) q,⟨o,k _ _ (.inl rfl) e⟩,st⟩
theorem lz.lt(x:lz P w H h)(e:H a=some o):a<h.objs.size:=(x a o e).lt
theorem lz.fresh(x:lz P w H h)(e:h.objs.size<=a):H a=none:=by
 cases q:H a with
 |none=>rfl
 |some u=>exact absurd (wx (x.lt q) e) (JE _)
theorem lz.kept(x:lz P w H h)(k:∀b u,h.get? b=some u->h'.get? b=some u):lz P w H h':=λa o e=>
 (x a o e).CH (λb u _ q=>k b u q) (λ_ q=>q) λ_ _ q=>q
theorem lz.laid(x:lz P w H h)(k:∀b u,h.get? b=some u->h'.get? b=some u)(hp:h.objs.size<=a)(new:cy P w (upd H a o) h' a o):lz P w (upd H a o) h':=λb u e=>by have hn:=x.fresh hp;by_cases hb:b=a;subst hb;rw[aI] at e;cases e;exact new;rw[aE hb] at e;exact (x b u e).CH (λc v _ q=>k c v q) (λc q=>by rw[aE (bo q hn)];exact q) λc xs q=>by rw[aE (bo q hn)];exact q
end
def Rd(H:Hp)(a:Addr)(u:HO):Prop:=H a=some u\/∃o,H a=some (.CG o u)
theorem Rd.ok{H:Hp}{u:HO}(r:Rd H a u)(x:lz P w H h):cy P w H h a u:=by
 obtain r|⟨o,r⟩:=r
 exact x a u r;obtain⟨_,q⟩:=x a _ r;exact q
def T8:Option HO->Prop
 |some (.lst _)=>True
 |some (.dK _)=>True
 |some (.dT _)=>True
 |some (.set _ _)=>True
 |some (.ins _ _ _)=>True
 |some (.ext _)=>True
 |_=>False
section
variable{H:Hp}{x e:Addr}{o':HO}
theorem lz.write(ok:lz P w H h)(mu:T8 (H x))(he:e=x\/H e=some (.own x))(k:∀b u,b≠e->h.get? b=some u->h'.get? b=some u)(Jm:∃u,h'.get? e=some u)(new:cy P w (upd H x o') h' x o'):lz P w (upd H x o') h':=λb u q=>by
 have T9:∀c y,H c=some (.own y)->c≠x:=λc y r z=>by subst z;rw[r] at mu;exact mu
 have YG:∀c xs,H c=some (.tup xs)->c≠x:=λc xs r z=>by subst z;rw[r] at mu;exact mu
 by_cases hb:b=x;subst hb;rw[aI] at q;cases q;exact new;rw[aE hb] at q;by_cases CI:b=e;have q':H b=some (.own x):=by
  obtain z|z:=he
  exact absurd (CI.trans z) hb;rw[CI];exact z
 rw[q] at q';cases q';obtain⟨v,hv⟩:=Jm;exact⟨v,by rw[CI];exact hv⟩;refine (ok b u q).CH (λc v hc r=>k c v ?_ r) (λc r=>by rw[aE (T9 c b r)];exact r) λc xs r=>by rw[aE (YG c xs r)];exact r
 obtain rfl|hc:=hc
 exact CI;rintro rfl;obtain z|z:=he
 exact T9 c b hc z;rw[hc] at z;cases z;exact hb rfl
end
structure Un(fs ex:qah)(H H':Hp)(h h':Heap):Prop where
 keep:∀b o,h.get? b=some o->H b=none->b∉fs->b∉ex->h'.get? b=some o
 slot:∀b o,h.get? b=some o->H b=none->b∈fs->b∉ex->∃sl,h'.get? b=some {o with slots:=sl}
 free:∀b o,h.get? b=some o->H b=none->b∉ex->H' b=none
 there:∀b o,h.get? b=some o->b∉ex->∃o',h'.get? b=some o'
 wL:∀b xs,H b=some (.tup xs)->H' b=some (.tup xs)
 uk:∀b o u,H b=some (.CG o u)->H' b=some (.CG o u)
 wM:∀b ps,H b=some (.OQ ps)->∃more,H' b=some (.OQ (ps++more))
section
variable{fs YH ex YI:qah}{H H1 H2:Hp}{h1 h2:Heap}{x e:Addr}{o:HO}
theorem Un.any(u:Un fs ex H H1 h h1){b:Addr}{ob:Obj}(q:h.get? b=some ob)(n:H b=none)(hx:b∉ex):∃sl,h1.get? b=some {ob with slots:=sl}:=by by_cases hb:b∈fs;exact u.slot b ob q n hb hx;exact⟨ob.slots,u.keep b ob q n hb hx⟩
theorem Un.kept(k:∀b u,h.get? b=some u->h'.get? b=some u):Un fs ex H H h h' :=
 ⟨λb ob q _ _ _=>k b ob q,λb ob q _ _ _=>⟨ob.slots,k b ob q⟩,λ_ _ _ n _=>n,λb ob q _=>⟨ob,k b ob q⟩,λ_ _ q=>q,λ_ _ _ q=>q,λ_ ps q=>⟨#[],by rw[q];simp⟩⟩
theorem Un.refl:Un fs ex H H h h:=Un.kept λ_ _ q=>q
theorem Un.laid(k:∀b u,h.get? b=some u->h'.get? b=some u)(hp:h.objs.size<=a)(hn:H a=none):Un fs ex H (upd H a o) h h' where
 keep:=λb u q _ _ _=>k b u q
 slot:=λb u q _ _ _=>⟨u.slots,k b u q⟩
 free:=λb u q n _=>by rw[aE (nY (wx (iY q) hp))];exact n
 there:=λb u q _=>⟨u,k b u q⟩
 wL:=λb xs q=>by rw[aE (bo q hn)];exact q
 uk:=λb u xs q=>by rw[aE (bo q hn)];exact q
 wM:=λb ps q=>⟨#[],by rw[aE (bo q hn),q];simp⟩
theorem Un.write(mu:T8 (H x))(he:e=x\/H e=some (.own x))(k:∀b u,b≠e->h.get? b=some u->h'.get? b=some u)(Jm:∃u,h'.get? e=some u):Un fs ex H (upd H x o) h h':=by
 have hx:∀b,H b=none->b≠x:=λb n z=>by subst z;rw[n] at mu;exact mu
 have hb:∀b,H b=none->b≠e:=λb n z=>by
  subst z;obtain r|r:=he
  exact hx b n r;rw[n] at r;cases r
 have hm:∀b u,H b=some u->¬ T8 (some u)->b≠x:=λb u q nm z=>by subst z;rw[q] at mu;exact nm mu
 refine⟨λb u q n _ _=>k b u (hb b n) q,λb u q n _ _=>⟨u.slots,k b u (hb b n) q⟩,λb u q n _=>by rw[aE (hx b n)];exact n,λb u q _=>?_,
  λb xs q=>by rw[aE (hm b _ q λz=>z)];exact q,λb u xs q=>by rw[aE (hm b _ q λz=>z)];exact q,λb ps q=>⟨#[],by rw[aE (hm b _ q λz=>z),q];simp⟩⟩
 by_cases CI:b=e;subst CI;exact Jm;exact⟨u,k b u CI q⟩
end
def XH(h:Heap)(H:Hp):qah:=(List.range h.objs.size).filter λa=>(H a).isSome
def um(h:Heap)(H:Hp):Heap:=PySem.W.hideAll h (XH h H)
theorem CJ(h:Heap)(H:Hp):(um h H).objs.size=h.objs.size:=PySem.W.hideAll_size _ _
theorem E3{H:Hp}{b:Addr}{o:Obj}(e:h.get? b=some o)(n:H b=none):(um h H).get? b=some o :=
 PySem.W.hideAll_get _ e λhm=>by have q:(H b).isSome=true:=(SX.mp hm).2;rw[n] at q;simp at q
theorem JG{H:Hp}{b:Addr}{o:Obj}(e:(um h H).get? b=some o):h.get? b=some o/\H b=none:=by
 have e':h.get? b=some o:=PySem.W.of_hideAll (XH h H) e;refine⟨e',?_⟩;cases q:H b with
 |none=>rfl
 |some x=>have hm:b∈XH h H:=SX.mpr ⟨Bg.mpr (iY e'),by simp[q]⟩;have z:(um h H).get? b=none:=PySem.W.hideAll_none (XH h H) hm;rw[z] at e;cases e
def JH(g h:Heap)(L:Addr):qaa:=(List.range h.objs.size).filterMap λa=>if a=L\/(g.get? a).isSome=true then none else (h.get? a).map λo=>(a,o)
def rest(g h:Heap)(L d:Addr):qaa:=(JH g h L).filter λp=>decide (p.1≠d)
structure Mod(K:qaf)(mg:qae)(base:Heap):Prop where
 S9:K.In base
 glob:base.Ns mainGlobals mg
 blt:∃mb,base.Ns builtinsNs mb/\∀x:Str,x≠"__name__"->mb x=bootBuiltins x
 nolimit:base.NoLimit
structure Cx where
 prog:Program
 w:World
 K:qaf
 mg:qae
 base:Heap
 A:Around
 N:qai
 s₀:Shared
 H₀:Hp
 env:Env
 outer:List Env
 stack:List Env
 ex:qah
 fn:Str->Bool
 calm:Bool
 pn:qaa
 xe:qad
def EN(l:List Env):qah:=l.filterMap (·.frame)
abbrev Cx.fs(X:Cx):qah:=EN X.outer
def kF(sc:Scope)(x:Str):Prop:=sc.names.lookup x=some .local\/sc.names.lookup x=some .cell\/sc.names.lookup x=some .free
def Loc(sc:Scope)(x:Str):Prop:=sc.names.lookup x=some .local\/sc.names.lookup x=some .cell
def Look(env:Env)(h:Heap)(m:qae)(x:Str)(u:Value):Prop :=
 (env.kindOf x=some .local/\m x=some u)\/((env.kindOf x=some .cell\/env.kindOf x=some .free)/\∃c,env.cells.lookup x=some c/\h.IsCell c (some u))
structure Cx.Ok(X:Cx):Prop where
 mod:Mod X.K X.mg X.base
 kind:X.env.scope.kind=.function
 glob:X.env.globals=mainGlobals
 blt:X.env.builtins=builtinsNs
 above:X.s₀.heap.objs.size<=X.env.locals
 inj:∀x y c,X.env.cells.lookup x=some c->X.env.cells.lookup y=some c->x=y
 has:∀x,(X.env.kindOf x=some .cell\/X.env.kindOf x=some .free)->∃c,X.env.cells.lookup x=some c
 OR:∀x c,X.fn x=true->X.env.cells.lookup x=some c->X.s₀.heap.objs.size<=c
 hd:X.calm=true->X.A.handled=none
 frames:X.A.frames=some X.stack
 S_:X.stack=X.outer\/(X.stack=X.env::X.outer/\X.env.frame=some X.env.locals)
 XI:∀b∈X.ex,b≠X.env.locals/\∀x c,X.env.cells.lookup x=some c->c≠b
 bs:∀b o,X.base.get? b=some o->X.s₀.heap.get? b=some o/\X.H₀ b=none
 EO:X.base.objs.size<=X.s₀.heap.objs.size
 zq:∀b o,X.base.get? b=some o->b∉X.ex
 CM:∀b∈X.ex,b∉X.fs
 lN:X.s₀.heap.FunFrames X.base X.outer
 JI:∀b∈X.fs,X.H₀ b=none
structure Inv(X:Cx)(pins:qaa)(σ:List (Option V))(H:Hp)(s:Shared):Prop where
 ok:X.Ok
 os:s.os=X.s₀.os
 bare:AllBare s.gens
 base:Un X.fs X.ex X.H₀ H X.s₀.heap s.heap
 loc:∃m,s.heap.Ns X.env.locals m/\∀(i:Nat)(x:Str)(v:V),X.N[i]?=some x->σ[i]?=some (some v)->kF X.env.scope x->∃u,RelV v u/\Look X.env s.heap m x u
 cell:∀x c,X.env.cells.lookup x=some c->∃v,s.heap.IsCell c v
 free:H X.env.locals=none
 ig:∀x c,X.env.cells.lookup x=some c->H c=none
 pin:∀p∈X.pn++pins,s.heap.get? p.1=some p.2/\H p.1=none/\p.1≠X.env.locals/\p.1∉X.fs/\∀v,p.2.data≠.cell v
 cn:lz X.prog X.w H s.heap
 len:σ.length=X.N.length
section
variable{X:Cx}{pins:qaa}{σ:List (Option V)}{H H':Hp}{s:Shared}
theorem Cx.Ok.YJ(ok:X.Ok){b:Addr}{o:Obj}(e:X.base.get? b=some o):b∉X.fs:=λhb=>by have:=(ok.lN.mem hb).1;rw[e] at this;cases this
theorem Inv.bs(I:Inv X pins σ H s):∀b o,X.base.get? b=some o->s.heap.get? b=some o/\H b=none:=λb o e=>
 ⟨I.base.keep b o (I.ok.bs b o e).1 (I.ok.bs b o e).2 (I.ok.YJ e) (I.ok.zq b o e),I.base.free b o (I.ok.bs b o e).1 (I.ok.bs b o e).2 (I.ok.zq b o e)⟩
theorem Inv.bk(I:Inv X pins σ H s):∀b o,X.base.get? b=some o->s.heap.get? b=some o:=λb o e=>(I.bs b o e).1
theorem Inv.mod(I:Inv X pins σ H s):Mod X.K X.mg X.base:=I.ok.mod
theorem Inv.rR(I:Inv X pins σ H s):X.K.In s.heap:=I.ok.mod.S9.keeps I.bk
theorem Inv.fr(I:Inv X pins σ H s):∃m,Fr X.base X.env.locals s.heap m :=
 let ⟨m,hn,_⟩:=I.loc
 ⟨m,hn,I.bk,ly I.ok.EO I.ok.above⟩
theorem Inv.lt(I:Inv X pins σ H s):X.env.locals<s.heap.objs.size:=let ⟨_,hn,_⟩:=I.loc;hn.lt
theorem Inv.sz(I:Inv X pins σ H s):X.s₀.heap.objs.size<=s.heap.objs.size:=ly I.ok.above (Nat.le_of_lt I.lt)
theorem Inv.YK(I:Inv X pins σ H s)(h:s.heap.objs.size<=a):a∉X.fs:=λhb=>by obtain⟨_,o,ho,_⟩:=I.ok.lN.mem hb;exact absurd (wx (iY ho) (ly I.sz h)) (JE _)
theorem Inv.JJ(I:Inv X pins σ H s):∀x c,X.env.cells.lookup x=some c->c≠X.env.locals:=λx c e z=>by obtain⟨v,o,ho,hd⟩:=I.cell x c e;obtain⟨m,⟨o',es,ep,jb,ER,_⟩,_⟩:=I.loc;rw[z,jb] at ho;cases ho;rw[ER] at hd;cases hd
theorem Inv.lN(I:Inv X pins σ H s):s.heap.FunFrames X.base X.outer:=by
 have all:∀(l:List Env),(∀b∈EN l,b∈X.fs)->X.s₀.heap.FunFrames X.base l->s.heap.FunFrames X.base l:=by
  intro l;induction l with
  |nil=>intro _ _;trivial
  |cons env r ih=>intro hs hl;obtain⟨hk,⟨L,o,hf,hn,ho,hd⟩,hr⟩:=hl;have hL:L∈X.fs:=hs L (by unfold EN;rw[mW,hf];exact dw);obtain⟨sl,e⟩:=I.base.slot L o ho (I.ok.JI L hL) hL λz=>I.ok.CM L z hL;exact⟨hk,⟨L,_,hf,hn,e,hd⟩,ih (λb hb=>hs b (by unfold EN;rw[mW,hf];exact gG _ hb)) hr⟩
 exact all X.outer (λ_ hb=>hb) I.ok.lN
theorem Inv.stack(I:Inv X pins σ H s):s.heap.FunFrames X.base X.stack:=by
 obtain e|⟨e,hf⟩:=I.ok.S_
 rw[e];exact I.lN;rw[e];obtain⟨m,hn,_⟩:=I.loc;refine .cons (by rw[I.ok.kind];decide) hf hn ?_ I.lN;exact Heap.get?_none_of_le (ly I.ok.EO I.ok.above)
theorem Inv.zt(I:Inv X pins σ H s):∀b∈EN X.stack,b∈X.env.locals::X.fs:=λb hb=>by
 obtain e|⟨e,hf⟩:=I.ok.S_
 rw[e] at hb;exact gG _ hb;rw[e] at hb;unfold EN at hb;rw[mW,hf] at hb;exact hb
theorem Inv.Bi(I:Inv X pins σ H s):∀b∈EN X.stack,H b=none:=λb hb=>by
 rcases cT.mp (I.zt b hb) with e|hb
 rw[e];exact I.free;obtain⟨_,o,ho,_⟩:=I.ok.lN.mem hb;exact I.base.free b o ho (I.ok.JI b hb) λz=>I.ok.CM b z hb
theorem Inv.step{g':Array GenState}{d':Drawn}{ch:qah}(I:Inv X pins σ H s)(Jn:∀b∈ch,(b∈X.ex\/X.s₀.heap.objs.size<=b)/\b≠X.env.locals/\(∀x c,X.env.cells.lookup x=some c->c≠b)/\∀p∈X.pn++pins,p.1≠b)(keep:∀b o,b≠X.env.locals->b∉X.fs->b∉ch->s.heap.get? b=some o->H b=none->h'.get? b=some o)(slot:∀b o,b≠X.env.locals->b∈X.fs->b∉ch->s.heap.get? b=some o->H b=none->∃sl,h'.get? b=some {o with slots:=sl})(free:∀b o,b∉ch->s.heap.get? b=some o->H b=none->H' b=none)(there:∀b o,b∉ch->s.heap.get? b=some o->∃o',h'.get? b=some o')(wL:∀b xs,H b=some (.tup xs)->H' b=some (.tup xs))(uk:∀b o u,H b=some (.CG o u)->H' b=some (.CG o u))(wM:∀b ps,H b=some (.OQ ps)->∃more,H' b=some (.OQ (ps++more)))(ns:∀m,s.heap.Ns X.env.locals m->h'.Ns X.env.locals m)(cn:lz X.prog X.w H' h')(hg:AllBare g') :
  Inv X pins σ H' {s with heap:=h',gens:=g',drawn:=d',toks:=t'}:=by
 have neL:∀b o,X.s₀.heap.get? b=some o->b≠X.env.locals:=λb o e=>nY (wx (iY e) I.ok.above);have XJ:∀b o,X.s₀.heap.get? b=some o->b∉X.ex->b∉ch:=λb o e hx hb=>by
  rcases (Jn b hb).1 with z|z
  exact hx z;exact absurd (wx (iY e) z) (JE _)
 have cellK:∀x c,X.env.cells.lookup x=some c->∀v,s.heap.IsCell c v->h'.IsCell c v:=λx c e v ⟨o,ho,hd⟩=>by have Nj:c∉ch:=λz=>(Jn c z).2.2.1 x c e rfl;by_cases hc:c∈X.fs;obtain⟨sl,q⟩:=slot c o (I.JJ x c e) hc Nj ho (I.ig x c e);exact⟨_,q,hd⟩;exact⟨o,keep c o (I.JJ x c e) hc Nj ho (I.ig x c e),hd⟩
 refine⟨I.ok,I.os,hg,⟨λb o e n hb hx=>?_,λb o e n hb hx=>?_,λb o e n hx=>?_,λb o e hx=>?_,λb xs e=>wL b xs (I.base.wL b xs e),λb o xs e=>uk b o xs (I.base.uk b o xs e),λb ps e=>?_⟩,?_,λx c e=>?_,?_,λx c e=>?_,λp hp=>?_,cn,I.len⟩;exact keep b o (neL b o e) hb (XJ b o e hx) (I.base.keep b o e n hb hx) (I.base.free b o e n hx);obtain⟨sl,e1⟩:=I.base.slot b o e n hb hx;obtain⟨sl',e2⟩:=slot b _ (neL b o e) hb (XJ b o e hx) e1 (I.base.free b o e n hx);exact⟨sl',e2⟩;obtain⟨o',e1⟩:=I.base.there b o e hx;exact free b o' (XJ b o e hx) e1 (I.base.free b o e n hx);obtain⟨o',e1⟩:=I.base.there b o e hx;exact there b o' (XJ b o e hx) e1;obtain⟨m1,e1⟩:=I.base.wM b ps e;obtain⟨m2,e2⟩:=wM b _ e1;exact⟨m1++m2,by rw[e2,Array.append_assoc]⟩;obtain⟨m,hn,hl⟩:=I.loc;refine⟨m,ns m hn,λi x v e1 e2 e3=>?_⟩;obtain⟨u,r,l⟩:=hl i x v e1 e2 e3;refine⟨u,r,?_⟩;obtain l|⟨k,c,e,z⟩:=l
 exact .inl l;exact .inr ⟨k,c,e,cellK x c e _ z⟩;obtain⟨v,z⟩:=I.cell x c e;exact⟨v,cellK x c e v z⟩;obtain⟨m,⟨o,_,_,ho,_⟩,_⟩:=I.loc;exact free _ o (λz=>(Jn _ z).2.1 rfl) ho I.free;obtain⟨v,o,ho,hd⟩:=I.cell x c e;exact free c o (λz=>(Jn c z).2.2.1 x c e rfl) ho (I.ig x c e);obtain⟨e,n,ne,nf,d⟩:=I.pin p hp;have Nj:p.1∉ch:=λz=>(Jn p.1 z).2.2.2 p hp rfl;exact⟨keep p.1 p.2 ne nf Nj e n,free p.1 p.2 Nj e n,ne,nf,d⟩
theorem Inv.un(I:Inv X pins σ H s)(u:Un X.fs [] H H' s.heap h')(cn:lz X.prog X.w H' h'):Inv X pins σ H' {s with heap:=h',toks:=t'}:=by
 obtain⟨m,⟨o,es,ep,ho,r⟩,_⟩:=id I.loc;obtain⟨sl,hL⟩:=u.any ho I.free (by simp);exact I.step (g':=s.gens) (d':=s.drawn) (ch:=[]) (λ_ z=>nomatch z) (λb o _ hb _ e n=>u.keep b o e n hb (by simp)) (λb o _ hb _ e n=>u.slot b o e n hb (by simp)) (λb o _ e n=>u.free b o e n (by simp)) (λb o _ e=>u.there b o e (by simp)) u.wL u.uk u.wM (λm' hm=>by obtain⟨o',YL,YM,jb,r'⟩:=hm;rw[ho] at jb;cases jb;exact⟨_,YL,YM,hL,r'⟩) cn I.bare
theorem Inv.call{g':Array GenState}{d':Drawn}{ch:qah}(I:Inv X pins σ H s)(u:Un (EN X.stack) ch H H' s.heap h')(cn:lz X.prog X.w H' h')(hg:AllBare g')(Jn:∀b∈ch,(b∈X.ex\/X.s₀.heap.objs.size<=b)/\b≠X.env.locals/\(∀x c,X.env.cells.lookup x=some c->c≠b)/\∀p∈X.pn++pins,p.1≠b) :
  Inv X pins σ H' {s with heap:=h',gens:=g',drawn:=d',toks:=t'}:=by
 obtain⟨m,⟨o,es,ep,ho,r⟩,_⟩:=id I.loc;obtain⟨sl,hL⟩:=u.any ho I.free λz=>(Jn _ z).2.1 rfl;exact I.step (ch:=ch) Jn (λb o hL hb hc e n=>u.keep b o e n (λz=>(cT.mp (I.zt b z)).elim hL hb) hc) (λb o _ _ hc e n=>u.any e n hc) (λb o hc e n=>u.free b o e n hc) (λb o hc e=>u.there b o e hc) u.wL u.uk u.wM (λm' hm=>by obtain⟨o',YL,YM,jb,r'⟩:=hm;rw[ho] at jb;cases jb;exact⟨_,YL,YM,hL,r'⟩) cn hg
theorem Inv.turned{it:Addr}(I:Inv X pins σ H s)(k:∀b o,b≠it->s.heap.get? b=some o->h'.get? b=some o)(hn:H it=none)(hL:it≠X.env.locals)(h1:it∈X.ex\/X.s₀.heap.objs.size<=it)(h2:∀x c,X.env.cells.lookup x=some c->c≠it)(h3:∀p∈X.pn++pins,p.1≠it):Inv X pins σ H {s with heap:=h',toks:=t'}:=by
 have nit:∀b u,H b=some u->b≠it:=λb u e z=>by rw[z,hn] at e;cases e
 refine I.step (g':=s.gens) (d':=s.drawn) (ch:=[it]) (λb hb=>?_) (λb o _ _ hc e _=>k b o (λz=>hc (by simp[z])) e) (λb o _ _ hc e _=>⟨o.slots,k b o (λz=>hc (by simp[z])) e⟩) (λ_ _ _ _ n=>n)
  (λb o hc e=>⟨o,k b o (λz=>hc (by simp[z])) e⟩) (λ_ _ e=>e) (λ_ _ _ e=>e) (λb ps e=>⟨#[],by rw[e];simp⟩) (λm hm=>?_) (λb u e=>?_) I.bare
 have e:b=it:=by simpa using hb
 subst e;exact⟨h1,hL,h2,h3⟩;obtain⟨o,es,ep,ho,r⟩:=hm;exact⟨o,es,ep,k _ o (Ne.symm hL) ho,r⟩;refine (I.cn b u e).CH (λc v hc q=>k c v ?_ q) (λ_ q=>q) λ_ _ q=>q;obtain z|z:=hc
 rw[z];exact nit b u e;exact nit c _ z
theorem Inv.tok(I:Inv X pins σ H s)(t:Nat):Inv X pins σ H {s with toks:=t}:=I.un (h':=s.heap) (t':=t) Un.refl I.cn
theorem Inv.kept(I:Inv X pins σ H s)(k:∀b u,s.heap.get? b=some u->h'.get? b=some u):Inv X pins σ H {s with heap:=h',toks:=t'}:=I.un (Un.kept k) (I.cn.kept k)
theorem Inv.laid{o:HO}(I:Inv X pins σ H s)(k:∀b u,s.heap.get? b=some u->h'.get? b=some u)(hp:s.heap.objs.size<=a)(new:cy X.prog X.w (upd H a o) h' a o) :
 Inv X pins σ (upd H a o) {s with heap:=h',toks:=t'}:=I.un (Un.laid k hp (I.cn.fresh hp)) (I.cn.laid k hp new)
theorem Inv.write{x e:Addr}{o:HO}(I:Inv X pins σ H s)(mu:T8 (H x))(he:e=x\/H e=some (.own x))(k:∀b u,b≠e->s.heap.get? b=some u->h'.get? b=some u)(Jm:∃u,h'.get? e=some u)(new:cy X.prog X.w (upd H x o) h' x o):Inv X pins σ (upd H x o) {s with heap:=h',toks:=t'}:=I.un (Un.write mu he k Jm) (I.cn.write mu he k Jm new)
theorem Inv.weak{σ':List (Option V)}(I:Inv X pins σ H s)(hl:σ'.length=σ.length)(w:∀(i:Nat) v,σ'[i]?=some (some v)->σ[i]?=some (some v)):Inv X pins σ' H s :=
 ⟨I.ok,I.os,I.bare,I.base,let ⟨m,hn,wN⟩:=I.loc;⟨m,hn,λi x v e1 e2 e3=>wN i x v e1 (w i v e2) e3⟩,I.cell,I.free,I.ig,I.pin,I.cn,hl.trans I.len⟩
theorem Inv.Bj{Bk:qaa}(I:Inv X pins σ H s)(h:∀p∈Bk,s.heap.get? p.1=some p.2/\H p.1=none/\p.1≠X.env.locals/\p.1∉X.fs/\∀v,p.2.data≠.cell v):Inv X Bk σ H s :=
 ⟨I.ok,I.os,I.bare,I.base,I.loc,I.cell,I.free,I.ig,λp hp=>(cN.mp hp).elim (λz=>I.pin p (cw _ z)) (h p),I.cn,I.len⟩
theorem wO{N:qai}(hN:N.Nodup)(a:N[i]?=some x)(b:N[j]?=some x):i=j:=by obtain⟨h1,e1⟩:=dS.mp a;obtain⟨h2,e2⟩:=dS.mp b;exact (List.getElem_inj hN).mp (e1.trans e2.symm)
theorem sU{M:Model}{E:qad}{v:V}{Q:Unit->Shared->Prop}(I:Inv X pins σ H s)(hN:X.N.Nodup)(hi:X.N[i]?=some x)(hx:Loc X.env.scope x)(r:RelV v u)(h:∀s',Inv X pins (σ.set i (some v)) H s'->(∃a,Heap.SameBut a s.heap s'.heap/\(a=X.env.locals\/X.env.cells.lookup x=some a))->Q () s')(hf:X.fn x=true\/X.env.scope.names.lookup x=some .local:=by first|exact .inl rfl|exact .inr rfl|assumption):wpAny M A (storeName X.env x u) Q E s:=by
 obtain⟨m,hn,hl⟩:=id I.loc;have YN:(X.env.scope.kind==.class || (X.env.scope.kind==.module && X.env.locals != X.env.globals))=false:=by rw[I.ok.kind];rfl
 have hiσ:i<σ.length:=by rw[I.len];exact (dS.mp hi).1
 have JJ:=I.JJ;have tracked:∀{a:Addr}{h':Heap},(∃o,s.heap.get? a=some o/\H a=none)->Heap.SameBut a s.heap h'->lz X.prog X.w H h':=λ{a h'} ha hs b ob e=>by
  obtain⟨_,_,Nk⟩:=ha;refine (I.cn b ob e).CH (λc w' hc q=>(hs.2 c ?_).trans q) (λ_ q=>q) λ_ _ q=>q;rintro rfl;obtain rfl|hc:=hc
  rw[Nk] at e;cases e;rw[Nk] at hc;cases hc
 obtain hk|hk:=hx
 refine wpAny_storeName_local hk hn (λh' hn' hs=>?_) YN;obtain⟨oL,_,_,hoL,_⟩:=id hn;refine h _ ⟨I.ok,I.os,I.bare,⟨λb o e n hb hx=>?_,λb o e n hb hx=>?_,I.base.free,λb o e hx=>?_,I.base.wL,I.base.uk,I.base.wM⟩,⟨_,hn',λj y v' e1 e2 e3=>?_⟩,λy c e=>?_,I.free,I.ig,λp hp=>?_,tracked ⟨oL,hoL,I.free⟩ hs,by simpa using I.len⟩ ⟨_,hs,.inl rfl⟩;exact (hs.2 b (nY (wx (iY e) I.ok.above))).trans (I.base.keep b o e n hb hx);obtain⟨sl,e1⟩:=I.base.slot b o e n hb hx;exact⟨sl,(hs.2 b (nY (wx (iY e) I.ok.above))).trans e1⟩;obtain⟨o',e1⟩:=I.base.there b o e hx;exact⟨o',(hs.2 b (nY (wx (iY e) I.ok.above))).trans e1⟩;by_cases hj:j=i;subst hj;rw[hi] at e1;cases e1;rw[Bf hiσ] at e2;cases e2;exact⟨u,r,.inl ⟨hk,by simp⟩⟩;rw[rP (Ne.symm hj)] at e2;obtain⟨u',r',q⟩:=hl j y v' e1 e2 e3;refine⟨u',r',?_⟩;obtain⟨k,e⟩|⟨k,c,e,z⟩:=q
 refine .inl ⟨k,?_⟩;have:y≠x:=λe=>hj (wO hN e1 (e▸hi));simp[this,e];exact .inr ⟨k,c,e,z.sameBut hs (JJ y c e)⟩;obtain⟨w',z⟩:=I.cell y c e;exact⟨w',z.sameBut hs (JJ y c e)⟩;obtain⟨e,n,ne,nf,d⟩:=I.pin p hp;exact⟨(hs.2 p.1 ne).trans e,n,ne,nf,d⟩;have YO:X.fn x=true:=by
  obtain z|z:=hf
  exact z;rw[z] at hk;cases hk
 obtain⟨c,hc⟩:=I.ok.has x (.inl hk);obtain⟨w',z⟩:=I.cell x c hc;refine wpAny_storeName_cell I.ok.kind hk hc z (λh' lC hs=>?_);obtain⟨oc,hoc,YQ⟩:=id z;refine h {s with heap:=h'} ⟨I.ok,I.os,I.bare,⟨λb o e n hb hx=>?_,λb o e n hb hx=>?_,I.base.free,λb o e hx=>?_,I.base.wL,I.base.uk,I.base.wM⟩,⟨m,hn.sameBut hs (Ne.symm (JJ x c hc)),λj y v' e1 e2 e3=>?_⟩,λy c' e=>?_,I.free,I.ig,λp hp=>?_,tracked ⟨oc,hoc,I.ig x c hc⟩ hs,by simpa using I.len⟩ ⟨c,hs,.inr hc⟩;exact (hs.2 b (nY (wx (iY e) (I.ok.OR x c YO hc)))).trans (I.base.keep b o e n hb hx);obtain⟨sl,e1⟩:=I.base.slot b o e n hb hx;exact⟨sl,(hs.2 b (nY (wx (iY e) (I.ok.OR x c YO hc)))).trans e1⟩;obtain⟨o',e1⟩:=I.base.there b o e hx;exact⟨o',(hs.2 b (nY (wx (iY e) (I.ok.OR x c YO hc)))).trans e1⟩;by_cases hj:j=i;subst hj;rw[hi] at e1;cases e1;rw[Bf hiσ] at e2;cases e2;exact⟨u,r,.inr ⟨.inl hk,c,hc,lC⟩⟩;rw[rP (Ne.symm hj)] at e2;obtain⟨u',r',q⟩:=hl j y v' e1 e2 e3;refine⟨u',r',?_⟩;obtain q|⟨k,c',e,z'⟩:=q
 exact .inl q;refine .inr ⟨k,c',e,z'.sameBut hs ?_⟩;rintro rfl;exact hj (wO hN e1 (I.ok.inj _ _ _ e hc▸hi));by_cases hcc:c'=c;subst hcc;exact⟨_,lC⟩;obtain⟨w2,z2⟩:=I.cell y c' e;exact⟨w2,z2.sameBut hs hcc⟩;obtain⟨e,n,ne,nf,d⟩:=I.pin p hp;refine⟨(hs.2 p.1 ?_).trans e,n,ne,nf,d⟩;intro q;rw[q,hoc] at e;have q':oc=p.2:=Option.some.inj e;exact d w' (by rw[<- q'];exact YQ)
theorem wQ{M:Model}{E:qad}{v:V}{Q:Unit->Shared->Prop}(I:Inv X pins σ H s)(hN:X.N.Nodup)(hi:X.N[i]?=some x)(hx:Loc X.env.scope x)(r:RelV v u)(h:∀s',Inv X pins (σ.set i (some v)) H s'->Q () s')(hf:X.fn x=true\/X.env.scope.names.lookup x=some .local:=by first|exact .inl rfl|exact .inr rfl|assumption):wpAny M A (storeName X.env x u) Q E s :=
 sU I hN hi hx r (λs' I' _=>h s' I') hf
theorem Inv.T_{ch:qah}(I:Inv X pins σ H s)(ho:s'.os=s.os)(u:Un (EN X.stack) ch H H' s.heap s'.heap)(cn:lz X.prog X.w H' s'.heap)(hg:AllBare s'.gens)(Jn:∀b∈ch,(b∈X.ex\/X.s₀.heap.objs.size<=b)/\b≠X.env.locals/\(∀x c,X.env.cells.lookup x=some c->c≠b)/\∀p∈X.pn++pins,p.1≠b):Inv X pins σ H' s':=by obtain⟨h',g',d',t',o'⟩:=s';have e:o'=s.os:=ho;subst e;exact I.call (g':=g') (t':=t') (d':=d') u cn hg Jn
end
abbrev XK:=Value->qar->Hp->Prop
abbrev St:=List (Option V)
abbrev VK:=V->Hp->Prop
abbrev TE:=St->Hp->VK->Prop
abbrev TT:=St->Hp->(Bool->Hp->Prop)->Prop
abbrev TA:=St->Hp->(List V->Hp->Prop)->Prop
structure Ends where
 nx:St->Hp->Prop
 rt:VK
 bk:St->Hp->Prop:=λ_ _=>False
 ct:St->Hp->Prop:=λ_ _=>False
abbrev TS:=Ends->St->Hp->Prop
def EP(X:Cx)(pins:qaa)(σ:St)(Q:VK)(u:Value)(s':Shared):Prop:=∃v H',Inv X pins σ H' s'/\RelV v u/\Q v H'
def TP(X:Cx)(pins:qaa)(σ:St)(Q:Bool->Hp->Prop)(b:Bool)(s':Shared):Prop:=∃H',Inv X pins σ H' s'/\Q b H'
def AP(X:Cx)(pins:qaa)(σ:St)(Q:List V->Hp->Prop)(us:qag)(s':Shared):Prop:=∃vs H',Inv X pins σ H' s'/\Vals vs us/\Q vs H'
def SP(X:Cx)(pins:qaa)(D:Ends)(f:Flow)(s':Shared):Prop :=
 match f with
 |.next=>∃σ' H',Inv X pins σ' H' s'/\D.nx σ' H'
 |.brk=>∃σ' H',Inv X pins σ' H' s'/\D.bk σ' H'
 |.cont=>∃σ' H',Inv X pins σ' H' s'/\D.ct σ' H'
 |.ret u=>∃v σ' H',Inv X pins σ' H' s'/\RelV v u/\D.rt v H'
def PE(X:Cx)(e:Expr)(t:TE):Prop :=
 ∀(pins:qaa)(s:Shared)(σ:St)(H:Hp)(Q:VK),Inv X pins σ H s->t σ H Q->wpAny (model X.prog X.w) X.A (eval e X.env) (EP X pins σ Q) X.xe s
def PT(X:Cx)(e:Expr)(t:TT):Prop :=
 ∀(pins:qaa)(s:Shared)(σ:St)(H:Hp)(Q:Bool->Hp->Prop),Inv X pins σ H s->t σ H Q->wpAny (model X.prog X.w) X.A (isTrue e X.env (eval e X.env)) (TP X pins σ Q) X.xe s
def PW(X:Cx)(e:Expr)(t:TT):Prop :=
 ∀(whole:Sem Value)(pins:qaa)(s:Shared)(σ:St)(H:Hp)(Q:Bool->Hp->Prop),Inv X pins σ H s->t σ H Q->wpAny (model X.prog X.w) X.A (isTrue e X.env whole) (TP X pins σ Q) X.xe s
theorem PW.pt{X:Cx}{t:TT}(h:PW X e t):PT X e t:=h _
def PA(X:Cx)(es:qap)(t:TA):Prop :=
 ∀(pos:Pos)(pins:qaa)(s:Shared)(σ:St)(H:Hp)(Q:List V->Hp->Prop),Inv X pins σ H s->t σ H Q->wpAny (model X.prog X.w) X.A (spliced (backTo pos (starEach es X.env))) (AP X pins σ Q) X.xe s
def PS(X:Cx)(st:Stmt)(t:TS):Prop :=
 ∀(pins:qaa)(s:Shared)(σ:St)(H:Hp)(D:Ends),Inv X pins σ H s->t D σ H->wpAny (model X.prog X.w) X.A (exec st X.env) (SP X pins D) X.xe s
def iZ(X:Cx)(st:qaq)(t:TS):Prop :=
 ∀(pins:qaa)(s:Shared)(σ:St)(H:Hp)(D:Ends),Inv X pins σ H s->t D σ H->wpAny (model X.prog X.w) X.A (execs st X.env) (SP X pins D) X.xe s
theorem bZ{t:Sem α}{Q Q':α->Shared->Prop}{M:Model}{E:qad}{s:Shared}(h:wpAny M A t Q E s)(hQ:∀a s,Q a s->Q' a s):wpAny M A t Q' E s:=wpAny_mono h hQ λ_ _ x=>x
section
variable{X:Cx}
theorem bin{a:Expr}{ta tb:TE}(ha:PE X a ta)(hb:PE X b tb){pins:qaa}{s:Shared}{σ:St}{H:Hp}{R:V->V->Hp->Prop}(I:Inv X pins σ H s)(h:ta σ H λx H1=>tb σ H1 λy H2=>R x y H2){Q:α->Shared->Prop}{f:Value->Value->Sem α}(hf:∀v u s2 x y H2,Inv X pins σ H2 s2->RelV x v->RelV y u->R x y H2->wpAny (model X.prog X.w) X.A (f v u) Q X.xe s2) :
  wpAny (model X.prog X.w) X.A (eval a X.env) (λv s₁=>wpAny (model X.prog X.w) X.A (eval b X.env) (λu s₂=>wpAny (model X.prog X.w) X.A (f v u) Q X.xe s₂) X.xe s₁) X.xe s:=by
 refine bZ (ha pins s σ H _ I h) λv s1 ⟨x,H1,I1,r1,q1⟩=>?_;refine bZ (hb pins s1 σ H1 _ I1 q1) λu s2 ⟨y,H2,I2,r2,q2⟩=>?_;exact hf v u s2 x y H2 I2 r1 r2 q2
def T'(i:Nat):TE:=λσ H Q=>∃v,σ[i]?=some (some v)/\Q v H
def tC(v:V):TE:=λ_ H Q=>Q v H
theorem bV{pos:Pos}(hN:X.N[i]?=some x)(hv:kF X.env.scope x)(hd:ie x:=by decide)(gn:uj x:=by decide):PE X (.Name x pos) (T' i):=by
 intro pins s σ H Q I h;obtain⟨v,e,h⟩:=h;obtain⟨m,hn,hl⟩:=I.loc;obtain⟨u,r,l⟩:=hl i x v hN e hv;have fin:EP X pins σ Q u s:=⟨v,H,I,r,h⟩;obtain⟨hk,hm⟩|⟨hk,c,hc,Nl⟩:=l
 exact wpAny_Name (wpAny_loadName_local I.ok.kind hk hn hm fin) hd;obtain hk|hk:=hk
 exact wpAny_Name (wpAny_loadName_cell I.ok.kind hk hc Nl fin) hd;exact wpAny_Name (wpAny_loadName_free I.ok.kind hk hc Nl fin gn) hd
theorem E4{i j pos}:PE X (.Constant (.int i) j pos) (tC (.int i)):=λ_ _ _ H _ I h=>wpAny_Constant_int ⟨.int i,H,I.tok _,⟨_,rfl⟩,h⟩
theorem Ua{b j pos}:PE X (.Constant (.bool b) j pos) (tC (.bl b)):=λ_ _ _ H _ I h=>Constant_bool ⟨.bl b,H,I,rfl,h⟩
theorem zu{j pos}:PE X (.Constant .none j pos) (tC .aQ):=λ_ _ _ H _ I h=>Constant_none ⟨.aQ,H,I,rfl,h⟩
theorem OS{x j pos}:PE X (.Constant (.str x) j pos) (tC (.str x)):=λ_ _ _ H _ I h=>Calls.Constant_str ⟨.str x,H,I.tok _,⟨_,rfl⟩,h⟩
def Gl(X:Cx)(x:Str):Prop:=X.env.kindOf x=some .globalImplicit
theorem uo{E:qad}{pins:qaa}{s:Shared}{σ:St}{H:Hp}{pos:Pos}{Q:qad}(I:Inv X pins σ H s)(hg:Gl X x)(hm:X.mg x=some u)(h:Q u s)(hd:ie x:=by decide):wpAny (model X.prog X.w) X.A (eval (.Name x pos) X.env) Q E s :=
 Calls.Name_function_global I.ok.kind hg (Calls.loadGlobal_global (by rw[I.ok.glob];exact I.mod.glob.keeps I.bk) hm h) hd
theorem kG{E:qad}{pins:qaa}{s:Shared}{σ:St}{H:Hp}{pos:Pos}{Q:qad}(I:Inv X pins σ H s)(hg:Gl X x)(hm:X.mg x=none)(hv:bootBuiltins x=some u)(h:Q u s)(hn:x≠"__name__":=by decide)(hd:ie x:=by decide):wpAny (model X.prog X.w) X.A (eval (.Name x pos) X.env) Q E s:=by obtain⟨mb,h1,h2⟩:=I.mod.blt;exact Calls.Name_function_global I.ok.kind hg (Calls.loadGlobal_builtin (by rw[I.ok.glob];exact I.mod.glob.keeps I.bk) hm (by rw[I.ok.blt];exact h1.keeps I.bk) ((h2 x hn).trans hv) h) hd
theorem uq{v:V}{pos:Pos}(hg:Gl X x)(hm:X.mg x=some u)(r:RelV v u)(hd:ie x:=by decide):PE X (.Name x pos) (tC v) :=
 λ_ _ _ H _ I h=>uo I hg hm ⟨v,H,I,r,h⟩ hd
theorem JK{v:V}{pos:Pos}(hg:Gl X x)(hm:X.mg x=none)(hv:bootBuiltins x=some u)(r:RelV v u)(hn:x≠"__name__":=by decide)(hd:ie x:=by decide):PE X (.Name x pos) (tC v) :=
 λ_ _ _ H _ I h=>kG I hg hm hv ⟨v,H,I,r,h⟩ hn hd
variable{a:Expr}{ta tb:TE}{pos:Pos}
def PC(X:Cx)(op:CmpOp)(a b:Expr)(t:TE):Prop :=
 ∀(pins:qaa)(s:Shared)(σ:St)(H:Hp)(Q:VK),Inv X pins σ H s->t σ H Q ->
  wpAny (model X.prog X.w) X.A (eval a X.env) (λv s₁=>wpAny (model X.prog X.w) X.A (eval b X.env) (λu s₂=>wpAny (model X.prog X.w) X.A (compareOp op v u) (EP X pins σ Q) X.xe s₂) X.xe s₁) X.xe s
theorem E5(b:Expr){op:CmpOp}(h:op≠.In)(h2:op≠.NotIn):behindInMarks op b=false:=by
 have e1:(op==CmpOp.In)=false:=by cases op<;>first|rfl|exact absurd rfl h
 have e2:(op==CmpOp.NotIn)=false:=by cases op<;>first|rfl|exact absurd rfl h2
 cases b<;>simp[behindInMarks,e1,e2]
def tB(t:TE):TT:=λσ H Q=>t σ H λx H1=>∃c,x=.bl c/\Q c H1
theorem YR{op:CmpOp}{t:TE}(h:PC X op a b t)(h1:behindInMarks op b=false:=by first|exact E5 _ (by decide) (by decide)|rfl):PT X (.Compare a [op] [b] pos) (tB t):=by intro pins s σ H Q I hw;refine wpAny_isTrue_Compare1 (bZ (h pins s σ H _ I hw) λv s1 h1=>bZ h1 λu s2 h2=>bZ h2 λc s3 ⟨x,H1,I1,r1,q1⟩=>?_) h1;obtain⟨d,rfl,q⟩:=q1;cases r1;exact wpAny_truthy_bool ⟨H1,I1,q⟩
theorem OT{t:TE}(h:PE X e t)(he:∀whole,isTrue e X.env whole=(do let v <- whole;standAt e.pos;holding [v] (truthy v)):=by intro _;rfl):PT X e (tB t):=by intro pins s σ H Q I hw;refine isTrue_plain (bZ (h pins s σ H _ I hw) λv s1 ⟨x,H1,I1,r1,q1⟩=>?_) (he _);obtain⟨d,rfl,q⟩:=q1;cases r1;exact wpAny_truthy_bool ⟨H1,I1,q⟩
variable{tA Ub:TT}{rest:qap}
def YS(t u:TT):TT:=λσ H Q=>t σ H λc H1=>if c=true then u σ H1 Q else Q false H1
def tOr(t u:TT):TT:=λσ H Q=>t σ H λc H1=>if c=true then Q true H1 else u σ H1 Q
def YT(t:TT):TT:=λσ H Q=>t σ H λc H1=>Q (!c) H1
theorem pw_and1(ha:PT X a tA):PW X (.BoolOp .And [a] pos) tA:=by
 intro wh pins s σ H Q I h;refine isTrue_and (bZ (ha pins s σ H Q I h) λc s1 e=>?_);cases c with
 |true=>exact isTrue_and_nil e
 |false=>exact e
theorem pw_or1(ha:PT X a tA):PW X (.BoolOp .Or [a] pos) tA:=by
 intro wh pins s σ H Q I h;refine isTrue_or (bZ (ha pins s σ H Q I h) λc s1 e=>?_);cases c with
 |false=>exact isTrue_or_nil e
 |true=>exact e
theorem pw_and(ha:PT X a tA)(hb:PW X (.BoolOp .And (b::rest) pos) Ub):PW X (.BoolOp .And (a::b::rest) pos) (YS tA Ub):=by
 intro wh pins s σ H Q I h;refine isTrue_and (bZ (ha pins s σ H _ I h) λc s1 ⟨H1,I1,q1⟩=>?_);cases c with
 |true=>exact hb wh pins s1 σ H1 Q I1 q1
 |false=>exact⟨H1,I1,q1⟩
theorem pw_or(ha:PT X a tA)(hb:PW X (.BoolOp .Or (b::rest) pos) Ub):PW X (.BoolOp .Or (a::b::rest) pos) (tOr tA Ub):=by
 intro wh pins s σ H Q I h;refine isTrue_or (bZ (ha pins s σ H _ I h) λc s1 ⟨H1,I1,q1⟩=>?_);cases c with
 |true=>exact⟨H1,I1,q1⟩
 |false=>exact hb wh pins s1 σ H1 Q I1 q1
theorem OU(ha:PT X a tA):PT X (.UnaryOp .Not a pos) (YT tA):=by intro pins s σ H Q I h;exact isTrue_not (ha pins s σ H (λc H1=>Q (!c) H1) I h)
def Uc(ta tb:TE):TE:=λσ H Q=>ta σ H λx H1=>∃c,x=.bl c/\if c=true then tb σ H1 Q else Q (.bl false) H1
theorem OW{op}{t:TE}(h:PE X a t):PE X (.BoolOp op [a] pos) t:=λpins s σ H Q I hw=>BoolOp_one (h pins s σ H Q I hw)
theorem OX(ha:PE X a ta)(hb:PE X (.BoolOp .And (b::rest) pos) tb):PE X (.BoolOp .And (a::b::rest) pos) (Uc ta tb):=by
 intro pins s σ H Q I h;refine BoolOp_and (bZ (ha pins s σ H _ I h) λv s1 ⟨x,H1,I1,r1,q1⟩=>?_);obtain⟨c,rfl,q1⟩:=q1;cases r1;refine wpAny_truthy_bool ?_;cases c with
 |true=>exact hb pins s1 σ H1 Q I1 q1
 |false=>exact⟨.bl false,H1,I1,rfl,q1⟩
def tIf(t:TT)(ta tb:TE):TE:=λσ H Q=>t σ H λc H1=>if c=true then ta σ H1 Q else tb σ H1 Q
theorem E6(hc:PT X c tA)(ha:PE X a ta)(hb:PE X b tb):PE X (.IfExp c a b pos) (tIf tA ta tb):=by
 intro pins s σ H Q I h;refine wpAny_IfExp (bZ (hc pins s σ H _ I h) λd s1 ⟨H1,I1,q1⟩=>?_);cases d with
 |true=>exact ha pins s1 σ H1 Q I1 q1
 |false=>exact hb pins s1 σ H1 Q I1 q1
end
def ia(K:qaf)(H:Hp)(a:Addr)(xs:List V):Prop :=
 Rd H a (.lst xs) \/
  ∃(o:Obj)(a5:Array Value)(n:Nat),K.lookup a=some o/\o.cls=.type "list"/\o.dict=none/\o.data=.seq a5 n/\a5.size<=sizeLine/\Vals xs a5.toList
def fg(K:qaf)(H:Hp)(a:Addr)(xs:List V):Prop :=
 Rd H a (.tup xs) \/
  ∃(o:Obj)(a5:Array Value)(n:Nat),K.lookup a=some o/\o.cls=.type "tuple"/\o.data=.seq a5 n/\a5.size<=sizeLine/\Vals xs a5.toList
noncomputable def YU:Value->Option V
 |.none=>some .aQ
 |.bool b=>some (.bl b)
 |.int i _=>some (.int i)
 |.str x _=>some (.str x)
 |.bytes b _=>some (.YE b)
 |.float b _=>some (.S8 b)
 |.ref a=>some (.ref a)
 |.type n=>some (.ty n)
 |_=>none
theorem RelV.abs{x:V}(r:RelV x u):YU u=some x:=by
 cases x with
 |aQ=>cases r;rfl
 |bl _=>cases r;rfl
 |ref _=>cases r;rfl
 |ty _=>cases r;rfl
 |_=>obtain⟨t,rfl⟩:=r;rfl
theorem RelV.inj{x y:V}(r:RelV x u)(q:RelV y u):x=y:=Option.some.inj (r.abs.symm.trans q.abs)
theorem Vals.inj:∀{xs ys:List V}{us:qag},Vals xs us->Vals ys us->xs=ys
 |_,_,_,.nil,.nil=>rfl
 |_,_,_,.cons r t,.cons r' t'=>by rw[r.inj r',Vals.inj t t']
section
variable{X:Cx}{pins:qaa}{σ:St}{H:Hp}{s:Shared}{xs ys:List V}
theorem ia.of{K:qaf}(h:H a=some (.lst xs)):ia K H a xs:=.inl (.inl h)
theorem fg.of{K:qaf}(h:H a=some (.tup xs)):fg K H a xs:=.inl (.inl h)
theorem Inv.list(I:Inv X pins σ H s)(h:ia X.K H a xs):∃a5:qag,Vals xs a5/\PlainL s.heap a a5.toArray/\xs.length<=sizeLine:=by
 obtain h|⟨o,a5,n,hk,hc,hd,hs,hz,r⟩:=h
 obtain⟨z,a5,n,r,e⟩:=h.ok I.cn;exact⟨a5,r,⟨_,n,e,rfl,rfl,rfl⟩,z⟩;refine⟨a5.toList,r,⟨o,n,I.rR a o hk,hc,hd,by simpa using hs⟩,?_⟩;have e:=r.length;simp only[Na] at e;omega
theorem Inv.tuple(I:Inv X pins σ H s)(h:fg X.K H a xs):∃a5:qag,Vals xs a5/\IsTup s.heap a a5.toArray/\xs.length<=sizeLine:=by
 obtain h|⟨o,a5,n,hk,hc,hs,hz,r⟩:=h
 obtain⟨z,a5,r,p⟩:=h.ok I.cn;exact⟨a5,r,p,z⟩;refine⟨a5.toList,r,⟨o,I.rR a o hk,hc,n,by simpa using hs⟩,?_⟩;have e:=r.length;simp only[Na] at e;omega
theorem Inv.pA(I:Inv X pins σ H s)(h:ia X.K H a xs)(h':ia X.K H a ys):xs=ys:=by
 obtain⟨a5,r,⟨o,n,e,_,_,d⟩,_⟩:=I.list h;obtain⟨its',r',⟨o',n',e',_,_,d'⟩,_⟩:=I.list h';rw[e] at e';cases e';rw[d] at d';injection d' with d1 _
 have:a5=its':=by simpa using congrArg Array.toList d1
 subst this;exact r.inj r'
theorem Inv.m4(I:Inv X pins σ H s)(h:fg X.K H a xs)(h':fg X.K H a ys):xs=ys:=by
 obtain⟨a5,r,⟨o,e,_,n,d⟩,_⟩:=I.tuple h;obtain⟨its',r',⟨o',e',_,n',d'⟩,_⟩:=I.tuple h';rw[e] at e';cases e';rw[d] at d';injection d' with d1 _
 have:a5=its':=by simpa using congrArg Array.toList d1
 subst this;exact r.inj r'
end
noncomputable abbrev Cx.rS(X:Cx)(E:qad):Cx:={X with xe:=E}
noncomputable abbrev Cx.pB(X:Cx):Cx:=X.rS λ_ _=>False
theorem Cx.Ok.rS{X:Cx}(ok:X.Ok)(E:qad):(X.rS E).Ok :=
 ⟨ok.mod,ok.kind,ok.glob,ok.blt,ok.above,ok.inj,ok.has,ok.OR,ok.hd,ok.frames,ok.S_,ok.XI,ok.bs,ok.EO,ok.zq,ok.CM,ok.lN,ok.JI⟩
theorem Cx.Ok.m5{X:Cx}{E:qad}(ok:(X.rS E).Ok):X.Ok :=
 ⟨ok.mod,ok.kind,ok.glob,ok.blt,ok.above,ok.inj,ok.has,ok.OR,ok.hd,ok.frames,ok.S_,ok.XI,ok.bs,ok.EO,ok.zq,ok.CM,ok.lN,ok.JI⟩
section
variable{X:Cx}{pins:qaa}{σ:St}{H:Hp}{s:Shared}{E:qad}
theorem Inv.rS(I:Inv X pins σ H s)(E:qad):Inv (X.rS E) pins σ H s:=⟨I.ok.rS E,I.os,I.bare,I.base,I.loc,I.cell,I.free,I.ig,I.pin,I.cn,I.len⟩
theorem Inv.m5(I:Inv (X.rS E) pins σ H s):Inv X pins σ H s:=⟨I.ok.m5,I.os,I.bare,I.base,I.loc,I.cell,I.free,I.ig,I.pin,I.cn,I.len⟩
theorem SP.m5{D:Ends}{f:Flow}(h:SP (X.rS E) pins D f s'):SP X pins D f s':=by
 cases f with
 |ret u=>obtain⟨v,σ',H',I,r,q⟩:=h;exact⟨v,σ',H',I.m5,r,q⟩
 |_=>obtain⟨σ',H',I,q⟩:=h;exact⟨σ',H',I.m5,q⟩
theorem iZ.pB{st:qaq}{t:TS}(h:iZ X.pB st t):iZ X st t:=λpins s σ H D I hw=>
 wpAny_mono (h pins s σ H D (I.rS _) hw) (λ_ _ q=>q.m5) λ_ _ z=>False.elim z
end
section
variable{X:Cx}{st:Stmt}{rest:qaq}{t u:TS}{te:TE}{pos:Pos}
def Ud:TS:=λD σ H=>D.nx σ H
def YV(t u:TS):TS:=λD σ H=>t {D with nx:=u D} σ H
theorem Bn:iZ X [] Ud:=λ_ _ σ H _ I h=>wpAny_execs_nil ⟨σ,H,I,h⟩
theorem cP(h1:PS X st t)(h2:iZ X rest u):iZ X (st::rest) (YV t u):=by
 intro pins s σ H D I h;refine wpAny_execs_cons (bZ (h1 pins s σ H {D with nx:=u D} I h) λf s1 q=>?_);cases f with
 |next=>obtain⟨σ',H',I',q⟩:=q;exact h2 pins s1 σ' H' D I' q
 |ret v=>exact q
 |_=>exact q
theorem j2(h1:PS X st t):iZ X [st] t:=by
 intro pins s σ H D I h;refine wpAny_execs_cons (bZ (h1 pins s σ H D I h) λf s1 q=>?_);cases f with
 |next=>exact wpAny_execs_nil q
 |ret v=>exact q
 |_=>exact q
theorem Inv.quiet{pins:qaa}{σ:St}{H:Hp}{s:Shared}(I:Inv X pins σ H s):interactive X.env=false:=by simp[interactive,I.ok.kind]
def Ue(te:TE):TS:=λD σ H=>te σ H λ_ H1=>D.nx σ H1
theorem lQ(he:PE X e te)(hs:swapsWith e none pos.line X.env=pure false:=by rfl):PS X (.Expr e pos) (Ue te):=by intro pins s σ H D I h;exact wpAny_Expr_any (bZ (he pins s σ H _ I h) λv s1 ⟨x,H1,I1,r1,q1⟩=>⟨σ,H1,I1,q1⟩) I.quiet hs
def YW(te:TE):TS:=λD σ H=>te σ H D.rt
theorem ur(he:PE X e te):PS X (.Return (some e) pos) (YW te):=by intro pins s σ H D I h;exact wpAny_Return_some (bZ (he pins s σ H _ I h) λv s1 ⟨x,H1,I1,r1,q1⟩=>⟨x,σ,H1,I1,r1,q1⟩)
def YX(c:TT)(t u:TS):TS:=λD σ H=>c σ H λb H1=>if b=true then t D σ H1 else u D σ H1
theorem Nn{a b:qaq}{tc:TT}(hc:PT X c tc)(ha:iZ X a t)(hb:iZ X b u):PS X (.If c a b pos) (YX tc t u):=by
 intro pins s σ H D I h;refine wpAny_If (bZ (hc pins s σ H _ I h) λd s1 ⟨H1,I1,q1⟩=>?_);cases d with
 |true=>exact ha pins s1 σ H1 D I1 q1
 |false=>exact hb pins s1 σ H1 D I1 q1
end
abbrev TG:=V->St->Hp->(St->Hp->Prop)->Prop
abbrev JL:=List V->St->Hp->(St->Hp->Prop)->Prop
def PG(X:Cx)(target:Expr)(t:TG):Prop :=
 ∀(pins:qaa)(s:Shared)(σ:St)(H:Hp)(v:V)(u:Value)(Q:St->Hp->Prop),Inv X pins σ H s->RelV v u->t v σ H Q ->
  wpAny (model X.prog X.w) X.A (assign target X.env u) (λ_ s'=>∃σ' H',Inv X pins σ' H' s'/\Q σ' H') X.xe s
def E7(X:Cx)(ts:qap)(t:JL):Prop :=
 ∀(pins:qaa)(s:Shared)(σ:St)(H:Hp)(vs:List V)(us:qag)(Q:St->Hp->Prop),Inv X pins σ H s->Vals vs us->t vs σ H Q ->
  wpAny (model X.prog X.w) X.A (assignInOrder ((assignEach ts X.env).map (·.2)) us) (λ_ s'=>∃σ' H',Inv X pins σ' H' s'/\Q σ' H') X.xe s
abbrev OY:=V->V->V->Hp->(Hp->Prop)->Prop
def Ug(X:Cx)(t:OY):Prop :=
 ∀(pins:qaa)(s:Shared)(σ:St)(H:Hp)(o i v:V)(ov iv u:Value)(Q:Hp->Prop),Inv X pins σ H s->RelV o ov->RelV i iv->RelV v u->t o i v H Q ->
  wpAny (model X.prog X.w) X.A (setItem ov iv u) (λ_ s'=>∃H',Inv X pins σ H' s'/\Q H') X.xe s
section
variable{X:Cx}{pos:Pos}
def kn(i:Nat):TG:=λv σ H Q=>Q (σ.set i (some v)) H
theorem JM(hN:X.N.Nodup)(hi:X.N[i]?=some x)(hx:Loc X.env.scope x)(hf:X.fn x=true\/X.env.scope.names.lookup x=some .local:=by first|exact .inl rfl|exact .inr rfl|assumption):PG X (.Name x pos) (kn i):=by intro pins s σ H v u Q I r h;exact wpAny_assign_Name (wQ I hN hi hx r (λs' I'=>⟨_,H,I',h⟩) hf)
def YY:JL:=λvs σ H Q=>vs=[]/\Q σ H
def Uh(t:TG)(u:JL):JL:=λvs σ H Q=>∃v r,vs=v::r/\t v σ H λσ' H'=>u r σ' H' Q
theorem JN:E7 X [] YY:=by intro pins s σ H vs us Q I r h;obtain⟨e,h⟩:=h;subst e;cases r;exact assignInOrder_nil ⟨σ,H,I,h⟩
theorem E8{es:qap}{t:TG}{u:JL}(h1:PG X e t)(h2:E7 X es u)(hs:(assignEach (e::es) X.env).map (·.2)=assign e X.env::(assignEach es X.env).map (·.2):=by rfl):E7 X (e::es) (Uh t u):=by
 intro pins s σ H vs us Q I r h;obtain⟨v,vr,e1,h⟩:=h;subst e1;cases r with
 |cons r rr=>rw[hs];refine assignInOrder_cons (bZ (h1 pins s σ H _ _ _ I r h) λ_ s1 ⟨σ1,H1,I1,q1⟩=>?_);exact h2 pins s1 σ1 H1 _ _ Q I1 rr q1
def YZ(K:qaf)(n:Nat)(t:JL):TG:=λv σ H Q=>∃a xs,v=.ref a/\fg K H a xs/\xs.length=n/\t xs σ H Q
theorem OZ{es:qap}{k:Nat}{t:JL}(hc:X.calm=true)(h:E7 X es t)(hn:(assignEach es X.env).length=n:=by rfl)(JO:(assignEach es X.env).findIdx? (·.1)=none:=by rfl):PG X (.Tuple es k pos) (YZ X.K n t):=by intro pins s σ H v u Q I r hw;obtain⟨a,xs,e1,hq,hl,hw⟩:=hw;subst e1;cases r;obtain⟨a5,rv,ht,hz⟩:=I.tuple hq;refine assign_Tuple_tuple (I.ok.hd hc) ht (by simp[hn,<- hl,rv.length]) JO λh' hx=>?_;have I1:Inv X pins σ H {s with heap:=h'}:=I.kept (t':=s.toks) λb o e=>hx b o (nY (iY e)) e;exact h pins _ σ H xs _ Q I1 (by simpa using rv) hw
def Y0(to ti:TE)(t:OY):TG:=λv σ H Q=>to σ H λo H1=>ti σ H1 λi H2=>t o i v H2 λH3=>Q σ H3
theorem O0{i:Expr}{to ti:TE}{t:OY}(ho:PE X o to)(hi:PE X i ti)(hs:Ug X t)(ha:∀v,assign (.Subscript o i pos) X.env v=(do
    let ov <- holding [v] (eval o X.env)
    let iv <- holding [v,ov] (eval i X.env)
    standAt pos
    holding [v,ov,iv] (setItem ov iv v)
    release [v,ov,iv] []):=by intro _;rfl):PG X (.Subscript o i pos) (Y0 to ti t):=by
 intro pins s σ H v u Q I r h;rw[ha];refine wpAny_bind (wpAny_holding (bZ (ho pins s σ H _ I h) λov s1 ⟨x,H1,I1,r1,q1⟩=>?_));refine wpAny_bind (wpAny_holding (bZ (hi pins s1 σ H1 _ I1 q1) λiv s2 ⟨y,H2,I2,r2,q2⟩=>?_));refine wpAny_bind (wpAny_standAt (wpAny_bind (wpAny_holding (bZ (hs pins s2 σ H2 x y v ov iv u _ I2 r1 r2 r q2) λ_ s3 ⟨H3,I3,q3⟩=>?_))));exact wpAny_release ⟨σ,H3,I3,q3⟩
def JP(te:TE)(g:TG):TS:=λD σ H=>te σ H λx H1=>g x σ H1 D.nx
theorem E9{tg:Expr}{te:TE}{g:TG}(he:PE X e te)(hg:PG X tg g)(hs:swapsWithSole [tg] e pos.line X.env=pure false:=by rfl)(hw:swappedStores [tg] e X.env=pure none:=by rfl)(h1:(assignEach [tg] X.env).map (·.2)=[assign tg X.env]:=by rfl):PS X (.Assign [tg] e pos) (JP te g):=by intro pins s σ H D I h;refine wpAny_Assign_stores (bZ (he pins s σ H _ I h) λv s1 ⟨x,H1,I1,r1,q1⟩=>?_) hs hw;rw[h1];exact bZ (hg pins s1 σ H1 x v _ I1 r1 q1) λ_ s2 q=>q
theorem uu{te:TE}{pos':Pos}(hN:X.N.Nodup)(hi:X.N[i]?=some x)(hx:Loc X.env.scope x)(he:PE X e te)(hs:swapsWith e (some (.Name x pos')) pos.line X.env=pure false:=by rfl)(hf:X.fn x=true\/X.env.scope.names.lookup x=some .local:=by first|exact .inl rfl|exact .inr rfl|assumption) :
  PS X (.Assign [.Name x pos'] e pos) (JP te (kn i)):=by
 intro pins s σ H D I h;refine wpAny_Assign_Name (bZ (he pins s σ H _ I h) λv s1 ⟨y,H1,I1,r1,q1⟩=>?_) hs;exact wQ I1 hN hi hx r1 (λs2 I2=>⟨_,H1,I2,q1⟩) hf
end
section
variable{X:Cx}{pos:Pos}
def O3(c:TT)(tb:TS):TS:=λD σ H=>∃W:Nat->St->Hp->Prop,(∃m,W m σ H)/\∀m σ H,W m σ H ->
 c σ H λb H1=>if b=true then ∃N:St->Hp->Prop,(∀σ' H',N σ' H'->∃m',m'<m/\W m' σ' H')/\tb {D with nx:=N,ct:=N,bk:=D.nx} σ H1 else D.nx σ H1
theorem wR{body:qaq}{tc:TT}{tb:TS}(hp:PassesOwn (model X.prog X.w) X.A X.env X.xe)(hc:PT X c tc)(hb:iZ X body tb):PS X (.While c body [] pos) (O3 tc tb):=by
 intro pins s σ H D I h;obtain⟨W,⟨m0,w0⟩,turn⟩:=h;refine wpAny_While (codeAny_whileLoop (λn s'=>∃σ' H',Inv X pins σ' H' s'/\W n σ' H') ?_ m0 ⟨σ,H,I,w0⟩);rintro n s1 ⟨σ1,H1,I1,w1⟩;refine wpAny_passesOwn hp (bZ (hc pins s1 σ1 H1 _ I1 (turn n σ1 H1 w1)) λb s2 ⟨H2,I2,q2⟩=>?_);cases b with
 |true=>
  obtain⟨N,hN,q2⟩:=q2;rw[if_pos rfl];refine wpAny_passesOwn hp (bZ (hb pins s2 σ1 H2 _ I2 q2) λf s3 q3=>?_);cases f with
  |next=>obtain⟨σ3,H3,I3,n3⟩:=q3;obtain⟨m',hm,w3⟩:=hN σ3 H3 n3;exact⟨m',hm,σ3,H3,I3,w3⟩
  |cont=>obtain⟨σ3,H3,I3,n3⟩:=q3;obtain⟨m',hm,w3⟩:=hN σ3 H3 n3;exact⟨m',hm,σ3,H3,I3,w3⟩
  |brk=>exact q3
  |ret v=>exact q3
 |false=>rw[if_neg iD];exact wpAny_execs_nil ⟨σ1,H2,I2,q2⟩
end
structure It where
 go:Nat->Hp->Prop
 Ui:Nat->Hp->V->Hp->Prop
 stop:Nat->Hp->Prop
def oM(X:Cx)(pins:qaa)(H:Hp)(b:Addr):Prop :=
 H b=none/\b≠X.env.locals/\b∉X.fs/\(b∈X.ex\/X.s₀.heap.objs.size<=b)/\(∀x c,X.env.cells.lookup x=some c->c≠b)/\∀p∈X.pn++pins,p.1≠b
theorem Inv.pD{X:Cx}{pins:qaa}{σ:St}{H H':Hp}{s:Shared}{b:Addr}(I:Inv X pins σ H s)(hb:s.heap.objs.size<=b)(hn:H' b=none):oM X pins H' b:=by refine⟨hn,Nh (wx I.lt hb),I.YK hb,.inr (ly I.sz hb),λx c e z=>?_,λp hp z=>?_⟩;obtain⟨v,q⟩:=I.cell x c e;exact absurd (wx q.lt (by rw[z];exact hb)) (JE _);exact absurd (wx (iY (I.pin p hp).1) (by rw[z];exact hb)) (JE _)
structure Turn(P:Program)(w:World)(K:qaf)(tg:Expr)(J:It)(fp:qah)(it:Addr)(tn:Nat->Heap->Prop):Prop where
 mem:it∈fp
 obj:∀i h,tn i h->∀b∈fp,∃o,h.get? b=some o/\∀v,o.data≠.cell v
 keep:∀i h h',tn i h->(∀b∈fp,∀o,h.get? b=some o->h'.get? b=some o)->tn i h'
 item:∀(X:Cx),X.prog=P->X.w=w->X.K=K->X.calm=true->∀(i:Nat)(pins:qaa)(s:Shared)(σ:St)(H:Hp)(E:qad),Inv X pins σ H s->(∀b∈fp,oM X pins H b)->tn i s.heap->J.go i H ->
  wpAny (model P w) X.A (pyNext (.ref it)) (λr s1=>∃u,r=some u /\
   wpAny (model P w) X.A (letOwnedTupleGo tg (.ref it) u) (λ_ s2=>∃x H',Inv X pins σ H' s2/\RelV x u/\J.Ui i H x H'/\tn (i+1) s2.heap/\∀b∈fp,H' b=none) E s1) E s
 done:∀(X:Cx),X.prog=P->X.w=w->X.K=K->X.calm=true->∀(i:Nat)(pins:qaa)(s:Shared)(σ:St)(H:Hp)(E:qad),Inv X pins σ H s->(∀b∈fp,oM X pins H b)->tn i s.heap->J.stop i H ->
  wpAny (model P w) X.A (pyNext (.ref it)) (λr s1=>r=none/\Inv X pins σ H s1) E s
 self:∀(A:Around)(i:Nat)(s:Shared)(Q:qad)(E:qad),tn i s.heap->Q (.ref it) s->wpAny (model P w) A (pyIter (.ref it)) Q E s
abbrev TI:=St->Hp->(It->Hp->Prop)->Prop
def PIE(X:Cx)(pins:qaa)(σ:St)(tg:Expr)(R:It->Hp->Prop)(XM:Value)(s2:Shared):Prop :=
 ∃(it:Addr)(fp:qah)(tn:Nat->Heap->Prop)(J:It)(H':Hp),XM=.ref it/\Inv X pins σ H' s2/\Turn X.prog X.w X.K tg J fp it tn/\tn 0 s2.heap/\(∀b∈fp,oM X pins H' b)/\R J H'
def PI(X:Cx)(tg iter:Expr)(wi:TI):Prop :=
 ∀(pins:qaa)(s:Shared)(σ:St)(H:Hp)(R:It->Hp->Prop),Inv X pins σ H s->wi σ H R ->
  wpAny (model X.prog X.w) X.A (eval iter X.env) (λv s1=>wpAny (model X.prog X.w) X.A (pyIter v) (PIE X pins σ tg R) X.xe s1) X.xe s
theorem Bo{M:Model}{E:qad}{s:Shared}{tg:Expr}{it:Addr}{o:Obj}{n:String}{vs:Array Value}{Q:Unit->Shared->Prop}(ho:s.heap.get? it=some o)(hc:o.cls=.type n)(hd:o.data=.fields vs)(hn:["enumerate","zip","dict_itemiterator","dict_reverseitemiterator","odict_iterator","itertools.zip_longest","itertools.pairwise"].contains n=false)(hQ:Q () s):wpAny M A (letOwnedTupleGo tg (.ref it) u) Q E s:=by
 unfold letOwnedTupleGo;cases tg<;>first
  |exact wpAny_pure hQ
  | (cases u<;>first
      |exact wpAny_pure hQ
      | (refine wpAny_bind (wpAny_load ho ?_)
         rw[hc,hd];show wpAny M A (if (["enumerate","zip","dict_itemiterator","dict_reverseitemiterator","odict_iterator","itertools.zip_longest","itertools.pairwise"].contains n && vs[0]?==some (rawInt _))=true then _ else _) Q E s;rw[if_neg (by intro h;rw[hn,T5] at h;cases h)];exact wpAny_pure hQ))
def Y1(K:qaf)(a:Addr):It :=
 ⟨λi H=>∃xs x,ia K H a xs/\xs[i]?=some x,λi H x H'=>H'=H/\∀xs,ia K H a xs->xs[i]?=some x,λi H=>∃xs,ia K H a xs/\xs.length<=i⟩
def Y2(K:qaf)(a:Addr):It :=
 ⟨λi H=>∃xs x,fg K H a xs/\xs[i]?=some x,λi H x H'=>H'=H/\∀xs,fg K H a xs->xs[i]?=some x,λi H=>∃xs,fg K H a xs/\xs.length<=i⟩
def Uj(lo:Int)(n:Nat):It:=⟨λi _=>i<n,λi H x H'=>H'=H/\x=.int (lo+i),λi _=>n<=i⟩
theorem CN{K:qaf}{tg:Expr}(a it:Addr):Turn P w K tg (Y1 K a) [it] it (λi h=>h.IsListIter it a i) where
 mem:=by simp
 obj:=λi h st b hb=>by
  have e:b=it:=by simpa using hb
  subst e;obtain⟨o,e,c,d⟩:=st;exact⟨o,e,λv z=>by rw[d] at z;cases z⟩
 keep:=λi h h' st k=>st.at λo e=>k it (by simp) o e
 item:=by intro X hP hw hK hc i pins s σ H E I hf st hg;subst hP hw hK;obtain⟨xs,x,hq,hx⟩:=hg;obtain⟨a5,rv,p,hz⟩:=I.list hq;obtain⟨u,hu,ru⟩:=rv.get hx;obtain⟨f0,f1,f2,f3,f4,f5⟩:=hf it (by simp);refine wpAny_pyNext_list_item st p.isList (x:=u) (by simpa using hu) λh' zv sb=>?_;have I1:Inv X pins σ H {s with heap:=h'}:=I.turned (t':=s.toks) (λb o hb e=>(sb.2 b hb).trans e) f0 f1 f3 f4 f5;obtain⟨o,e,c,d⟩:=id zv;exact⟨u,rfl,Bo (s:={s with heap:=h'}) e c d (by decide) ⟨x,H,I1,ru,⟨rfl,λys hy=>by rw[I.pA hy hq];exact hx⟩,zv,λb hb=>(hf b hb).1⟩⟩
 done:=by intro X hP hw hK hc i pins s σ H E I hf st hg;subst hP hw hK;obtain⟨xs,hq,hx⟩:=hg;obtain⟨a5,rv,p,hz⟩:=I.list hq;obtain⟨f0,f1,f2,f3,f4,f5⟩:=hf it (by simp);have hl:=rv.length;exact wpAny_pyNext_list_end (I.ok.hd hc) st p.isList (by simp;omega) λh' eb=>⟨rfl,I.turned (t':=s.toks) (λb o hb e=>eb b o hb e) f0 f1 f3 f4 f5⟩
 self:=λ_ _ _ _ _ st h=>wpAny_pyIter_listiter st h
theorem zw{K:qaf}{tg:Expr}(a it:Addr):Turn P w K tg (Y2 K a) [it] it (λi h=>h.IsTupleIter it a i) where
 mem:=by simp
 obj:=λi h st b hb=>by
  have e:b=it:=by simpa using hb
  subst e;obtain⟨o,e,c,d⟩:=st;exact⟨o,e,λv z=>by rw[d] at z;cases z⟩
 keep:=λi h h' st k=>st.at λo e=>k it (by simp) o e
 item:=by intro X hP hw hK hc i pins s σ H E I hf st hg;subst hP hw hK;obtain⟨xs,x,hq,hx⟩:=hg;obtain⟨a5,rv,p,hz⟩:=I.tuple hq;obtain⟨u,hu,ru⟩:=rv.get hx;obtain⟨f0,f1,f2,f3,f4,f5⟩:=hf it (by simp);refine wpAny_pyNext_tuple_item st (show s.heap.IsTuple a a5.toArray from p) (x:=u) (by simpa using hu) λh' zv sb=>?_;have I1:Inv X pins σ H {s with heap:=h'}:=I.turned (t':=s.toks) (λb o hb e=>(sb.2 b hb).trans e) f0 f1 f3 f4 f5;obtain⟨o,e,c,d⟩:=id zv;exact⟨u,rfl,Bo (s:={s with heap:=h'}) e c d (by decide) ⟨x,H,I1,ru,⟨rfl,λys hy=>by rw[I.m4 hy hq];exact hx⟩,zv,λb hb=>(hf b hb).1⟩⟩
 done:=by intro X hP hw hK hc i pins s σ H E I hf st hg;subst hP hw hK;obtain⟨xs,hq,hx⟩:=hg;obtain⟨a5,rv,p,hz⟩:=I.tuple hq;obtain⟨f0,f1,f2,f3,f4,f5⟩:=hf it (by simp);have hl:=rv.length;exact wpAny_pyNext_tuple_end (I.ok.hd hc) st (show s.heap.IsTuple a a5.toArray from p) (by simp;omega) λh' eb=>⟨rfl,I.turned (t':=s.toks) (λb o hb e=>eb b o hb e) f0 f1 f3 f4 f5⟩
 self:=λ_ _ _ _ _ st h=>wpAny_pyIter_tupleiter st h
theorem zx{K:qaf}{tg:Expr}(it:Addr)(lo:Int)(n:Nat):Turn P w K tg (Uj lo n) [it] it (λi h=>IsRangeIter h it (lo+(i:Nat) * 1) ((n:Int)-(i:Nat)) 1) where
 mem:=by simp
 obj:=λi h st b hb=>by
  have e:b=it:=by simpa using hb
  subst e;exact⟨_,st,λv z=>by have z':Data.fields _=Data.cell v:=z;cases z'⟩
 keep:=λi h h' st k=>k it (by simp) _ st
 item:=by intro X hP hw hK hc i pins s σ H E I hf st hg;subst hP hw hK;obtain⟨f0,f1,f2,f3,f4,f5⟩:=hf it (by simp);have W:=Walks.range (prog:=X.prog) (w:=X.w) (I.ok.hd hc) it lo 1 n;refine W.item i s _ _ hg st λv h' tk hv zv kk=>?_;obtain⟨t,rfl⟩:=hv;have I1:Inv X pins σ H {s with heap:=h',toks:=tk}:=I.turned (λb o hb e=>kk b o (by simpa using hb) e) f0 f1 f3 f4 f5;refine⟨_,rfl,Bo (s:={s with heap:=h',toks:=tk}) (n:="range_iterator") zv rfl rfl (by decide) ⟨.int (lo+i),H,I1,⟨t,?_⟩,⟨rfl,rfl⟩,zv,λb hb=>(hf b hb).1⟩⟩;rw[Int.mul_one]
 done:=by intro X hP hw hK hc i pins s σ H E I hf st hg;subst hP hw hK;obtain⟨f0,f1,f2,f3,f4,f5⟩:=hf it (by simp);exact wpAny_pyNext_range_end (I.ok.hd hc) st (by have:n<=i:=hg;omega) λh' eb=>⟨rfl,I.turned (t':=s.toks) (λb o hb e=>eb b o hb e) f0 f1 f3 f4 f5⟩
 self:=λ_ _ _ _ _ st h=>wpAny_pyIter_rangeiter st h
section
variable{X:Cx}{tg:Expr}
theorem wU{pins:qaa}{σ:St}{H:Hp}{s:Shared}{R:It->Hp->Prop}{E:qad}{lo hi:Int}{t u v:Tok}{tk:Nat}(I:Inv X pins σ H s)(h1 : -(2 ^ 62)<=lo)(h2:lo<2 ^ 62)(h3 : -(2 ^ 62)<=hi)(h4:hi<2 ^ 62)(q:R (Uj lo (hi-lo).toNat) H):wpAny (model X.prog X.w) X.A (pyIter (.ref s.heap.objs.size)) (PIE X pins σ tg R) E {s with heap:=s.heap.push {cls:=.type "range",data:=.fields #[.int lo t,.int hi u,.int 1 v]},toks:=tk}:=by
 refine wpAny_pyIter_range (IsRange.new ..) (small_one h1 h2 h3 h4) ?_;have I1:Inv X pins σ H {s with heap:=s.heap.push {cls:=.type "range",data:=.fields #[.int lo t,.int hi u,.int 1 v]},toks:=tk}:=I.kept λb o e=>mV _ e;refine⟨(s.heap.push {cls:=.type "range",data:=.fields #[.int lo t,.int hi u,.int 1 v]}).objs.size,[(s.heap.push {cls:=.type "range",data:=.fields #[.int lo t,.int hi u,.int 1 v]}).objs.size],_,_,H,rfl,
  I1.kept (t':=tk) λb o e=>mV _ e,zx _ lo (hi-lo).toNat,?_,λb hb=>?_,q⟩
 have e1:lo+((0:Nat):Int) * 1=lo:=by simp
 have e2:(((hi-lo).toNat:Nat):Int)-((0:Nat):Int)=Builtin.Range.rangeSize lo hi 1:=by rw[rangeSize_one];split<;>omega
 show IsRangeIter _ _ (lo+((0:Nat):Int) * 1) ((((hi-lo).toNat:Nat):Int)-((0:Nat):Int)) 1;rw[e1,e2];exact sR _ rfl;have e:b=(s.heap.push {cls:=.type "range",data:=.fields #[.int lo t,.int hi u,.int 1 v]}).objs.size:=by simpa using hb
 subst e;exact I1.pD (c3 _) (I1.cn.fresh (c3 _))
def Uk(ta:TA):TI:=λσ H R=>ta σ H λvs H1=>∃j:Int,vs=[.int j]/\-(2 ^ 62)<=j/\j<2 ^ 62/\R (Uj 0 j.toNat) H1
def Ul(ta:TA):TI:=λσ H R=>ta σ H λvs H1=>∃i j:Int,vs=[.int i,.int j]/\(-(2 ^ 62)<=i/\i<2 ^ 62/\-(2 ^ 62)<=j/\j<2 ^ 62)/\R (Uj i (j-i).toNat) H1
theorem CO{a:Expr}{ta:TA}{pos:Pos}(hg:Gl X "range")(hm:X.mg "range"=none)(ha:PA X [a] ta)(hs:starEach [a] X.env=[(false,eval a X.env)]:=by rfl):PI X tg (.Call (.Name "range" p) [a] [] pos) (Uk ta):=by
 intro pins s σ H R I h;refine Call_ (kG I hg hm boot_range (TK (bZ (ha pos pins s σ H _ I h) λus s1 ⟨vs,H1,I1,r1,q1⟩=>?_) hs rfl));obtain⟨j,e,q1,q2,q⟩:=q1;subst e;cases r1 with
 |cons r rr=>cases rr;obtain⟨t,rfl⟩:=r;exact call_range_1 (wU I1 (by omega) (by omega) q1 q2 (by simpa using q))
theorem CP{a:Expr}{ta:TA}{pos:Pos}(hg:Gl X "range")(hm:X.mg "range"=none)(ha:PA X [a,b] ta)(hs:starEach [a,b] X.env=[(false,eval a X.env),(false,eval b X.env)]:=by rfl)(CQ:starEach [b] X.env=[(false,eval b X.env)]:=by rfl) :
  PI X tg (.Call (.Name "range" p) [a,b] [] pos) (Ul ta):=by
 intro pins s σ H R I h;refine Call_ (kG I hg hm boot_range (TK (bZ (ha pos pins s σ H _ I h) λus s1 ⟨vs,H1,I1,r1,q1⟩=>?_) (by rw[hs,CQ]) (by rw[CQ];rfl)));obtain⟨i,j,e,⟨q1,q2,q3,q4⟩,q⟩:=q1;subst e;cases r1 with
 |cons r rr=>
   cases rr with
   |cons r' rr=>cases rr;obtain⟨t,rfl⟩:=r;obtain⟨t',rfl⟩:=r';exact call_range_2 (wU I1 q1 q2 q3 q4 q)
def Y3(wi:TI)(g:TG)(tb:TS):TS:=λD σ H=>wi σ H λJ H1=>∃W:Nat->Nat->St->Hp->Prop,(∃m,W 0 m σ H1)/\∀i m σ H,W i m σ H ->
 (J.stop i H/\D.nx σ H)\/(J.go i H/\∃N:St->Hp->Prop,(∀σ' H',N σ' H'->∃m',m'<m/\W (i+1) m' σ' H')/\∀x H',J.Ui i H x H'->g x σ H' λσ2 H2=>tb {D with nx:=N,ct:=N,bk:=D.nx} σ2 H2)
def pF(fp:qah)(h:Heap):qaa:=fp.filterMap λb=>(h.get? b).map λo=>(b,o)
theorem iF{fp:qah}{b:Addr}{o:Obj}(hb:b∈fp)(e:h.get? b=some o):(b,o)∈pF fp h:=XC.mpr ⟨b,hb,by rw[e];rfl⟩
theorem CS{fp:qah}{p:Addr×Obj}(hp:p∈pF fp h):p.1∈fp/\h.get? p.1=some p.2:=by
 obtain⟨b,hb,e⟩:=XC.mp hp;cases q:h.get? b with
 |none=>rw[q] at e;cases e
 |some o=>rw[q] at e;have e':(b,o)=p:=Option.some.inj e;subst e';exact⟨hb,q⟩
theorem Inv.pinned{pins:qaa}{σ:St}{H:Hp}{s:Shared}{fp:qah}(I:Inv X pins σ H s)(hf:∀b∈fp,oM X pins H b)(ho:∀b∈fp,∃o,s.heap.get? b=some o/\∀v,o.data≠.cell v):Inv X (pins++pF fp s.heap) σ H s :=
 I.Bj λp hp=>(cN.mp hp).elim (λz=>I.pin p (bU _ z)) λz=>by obtain⟨hb,e⟩:=CS z;obtain⟨f0,f1,f2,_⟩:=hf p.1 hb;obtain⟨o,e',d⟩:=ho p.1 hb;rw[e] at e';cases e';exact⟨e,f0,f1,f2,d⟩
theorem Inv.lT{pins pl:qaa}{σ:St}{H:Hp}{s:Shared}(I:Inv X (pins++pl) σ H s):Inv X pins σ H s:=I.Bj λp hp=>I.pin p (bU _ (cw _ hp))
theorem O5{body:qaq}{wi:TI}{g:TG}{tb:TS}{pos:Pos}(hp:PassesOwn (model X.prog X.w) X.A X.env X.xe)(hc:X.calm=true)(hi:PI X tg iter wi)(hg:PG X tg g)(hb:iZ X body tb)(hs:∀x,foldedSetIterable iter X.env x=pure x:=by intro _;rfl):PS X (.For tg iter body [] pos) (Y3 wi g tb):=by
 intro pins s σ H D I h;refine wpAny_For (bZ (hi pins s σ H _ I h) λv s1 h1=>bZ h1 λXM s2 h2=>?_) hs;obtain⟨it,fp,tn,J,H2,e,I2,T,wV,f2,W,⟨m0,w0⟩,turn⟩:=h2;subst e;have O6:∀{H':Hp},(∀b∈fp,H' b=none)->∀b∈fp,oM X pins H' b:=λhn b hb=>⟨hn b hb,(f2 b hb).2⟩;refine codeAny_forLoop_any (λn s'=>∃i σ' H',Inv X pins σ' H' s'/\tn i s'.heap/\(∀b∈fp,H' b=none)/\W i n σ' H') ?_ m0 ⟨0,σ,H2,I2,wV,λb hb=>(f2 b hb).1,w0⟩;rintro n s3 ⟨i,σ3,H3,I3,Um,Uo,w3⟩;rcases turn i n σ3 H3 w3 with⟨stop,qn⟩|⟨go,N,hN,step⟩
 . refine wpAny_passesOwn hp (bZ (T.done X rfl rfl rfl hc i pins s3 σ3 H3 X.xe I3 (O6 Uo) Um stop) λr s4 ⟨hr,I4⟩=>?_);subst hr;exact wpAny_execs_nil ⟨σ3,H3,I4,qn⟩
 refine wpAny_passesOwn hp (bZ (T.item X rfl rfl rfl hc i pins s3 σ3 H3 X.xe I3 (O6 Uo) Um go) λr s4 ⟨u,hr,h4⟩=>?_);subst hr;refine wpAny_passesOwn hp (bZ h4 λ_ s5 ⟨x,H5,I5,r5,y5,O7,Y4⟩=>?_);have I5':=I5.pinned (O6 Y4) (T.obj _ _ O7);refine wpAny_passesOwn hp (bZ (hg _ s5 σ3 H5 x u _ I5' r5 (step x H5 y5)) λ_ s6 ⟨σ6,H6,I6,q6⟩=>?_);refine wpAny_passesOwn hp (bZ (hb _ s6 σ6 H6 _ I6 q6) λf s7 q7=>?_);have again:∀{σ7:St}{H7:Hp},Inv X (pins++pF fp s5.heap) σ7 H7 s7->N σ7 H7->∃m,m<n/\∃i σ' H',Inv X pins σ' H' s7/\tn i s7.heap/\(∀b∈fp,H' b=none)/\W i m σ' H':=λ{σ7 H7} I7 n7=>by obtain⟨m',hm,w7⟩:=hN σ7 H7 n7;refine⟨m',hm,i+1,σ7,H7,I7.lT,T.keep _ _ _ O7 λb hb o e=>(I7.pin (b,o) (bU _ (bU _ (iF hb e)))).1,λb hb=>?_,w7⟩;obtain⟨o,e,d⟩:=T.obj _ _ O7 b hb;exact (I7.pin (b,o) (bU _ (bU _ (iF hb e)))).2.1
 cases f with
 |brk=>obtain⟨σ7,H7,I7,q7⟩:=q7;exact⟨σ7,H7,I7.lT,q7⟩
 |ret v=>obtain⟨x7,σ7,H7,I7,r7,q7⟩:=q7;exact⟨x7,σ7,H7,I7.lT,r7,q7⟩
 |_=>obtain⟨σ7,H7,I7,n7⟩:=q7;exact again I7 n7
end
abbrev R2:=V->V->Hp->VK->Prop
def gf(X:Cx)(f:Value->Value->Sem Value)(r:R2):Prop :=
 ∀(pins:qaa)(s:Shared)(σ:St)(H:Hp)(x y:V)(v u:Value)(Q:VK),Inv X pins σ H s->RelV x v->RelV y u->r x y H Q ->
  wpAny (model X.prog X.w) X.A (f v u) (EP X pins σ Q) X.xe s
def Y5(X:Cx)(f:Value->Sem Value)(r:V->Hp->VK->Prop):Prop :=
 ∀(pins:qaa)(s:Shared)(σ:St)(H:Hp)(x:V)(v:Value)(Q:VK),Inv X pins σ H s->RelV x v->r x H Q ->
  wpAny (model X.prog X.w) X.A (f v) (EP X pins σ Q) X.xe s
def eX(X:Cx)(f:Value)(r:List V->Hp->VK->Prop):Prop :=
 ∀(pins:qaa)(s:Shared)(σ:St)(H:Hp)(xs:List V)(us:qag)(Q:VK),Inv X pins σ H s->Vals xs us->r xs H Q ->
  wpAny (model X.prog X.w) X.A (call f us) (EP X pins σ Q) X.xe s
def Up(r:R2)(ta tb:TE):TE:=λσ H Q=>ta σ H λx H1=>tb σ H1 λy H2=>r x y H2 Q
def tUn(r:V->Hp->VK->Prop)(ta:TE):TE:=λσ H Q=>ta σ H λx H1=>r x H1 Q
def rI(C:Int->Int->Prop)(g:Int->Int->V):R2:=λx y H Q=>∃i j,x=.int i/\y=.int j/\C i j/\Q (g i j) H
def sV(g:Int->Int->V):R2:=λx y H Q=>∃i j,x=.int i/\y=.int j/\Q (g i j) H
def rU(g:Int->V):V->Hp->VK->Prop:=λx H Q=>∃i,x=.int i/\Q (g i) H
section
variable{X:Cx}{a:Expr}{ta tb tc:TE}{pos:Pos}
theorem O8(ha:PE X a ta)(hb:PE X b tb){pins:qaa}{s:Shared}{σ:St}{H:Hp}{R:V->V->Hp->Prop}(I:Inv X pins σ H s)(h:ta σ H λx H1=>tb σ H1 λy H2=>R x y H2){Q:qad}{f:Value->Value->Sem Value}(hf:∀v u s2 x y H2,Inv X pins σ H2 s2->RelV x v->RelV y u->R x y H2->wpAny (model X.prog X.w) X.A (f v u) Q X.xe s2) :
  wpAny (model X.prog X.w) X.A (eval a X.env) (λv s₁=>wpAny (model X.prog X.w) X.A (eval b X.env) (λu s₂=>wpAny (model X.prog X.w) X.A (f v u) Q X.xe s₂) X.xe s₁) X.xe s:=by
 refine bZ (ha pins s σ H _ I h) λv s1 ⟨x,H1,I1,r1,q1⟩=>?_;refine bZ (hb pins s1 σ H1 _ I1 q1) λu s2 ⟨y,H2,I2,r2,q2⟩=>?_;exact hf v u s2 x y H2 I2 r1 r2 q2
theorem Np{op:Operator}{r:R2}(ho:gf X (binaryOp op) r)(ha:PE X a ta)(hb:PE X b tb):PE X (.BinOp a op b pos) (Up r ta tb):=by intro pins s σ H Q I h;exact wpAny_BinOp (O8 ha hb I h λv u s2 x y H2 I2 rx ry q=>ho pins s2 σ H2 x y v u Q I2 rx ry q)
theorem Nq{op:UnaryOp}{r:V->Hp->VK->Prop}(ho:Y5 X (unaryOp op) r)(ha:PE X a ta):PE X (.UnaryOp op a pos) (tUn r ta):=by intro pins s σ H Q I h;exact UnaryOp_ (bZ (ha pins s σ H _ I h) λv s1 ⟨x,H1,I1,r1,q1⟩=>ho pins s1 σ H1 x v Q I1 r1 q1)
theorem O9{f:Value->Value->Sem Value}{C:Int->Int->Prop}{g:Int->Int->Int}(rule:∀(i j:Int) (t u:Tok) (s:Shared) (Q:qad) (E:qad),C i j->Q (.int (g i j) s.toks) {s with toks:=s.toks+1}->wpAny (model X.prog X.w) X.A (f (.int i t) (.int j u)) Q E s) :
  gf X f (rI C λi j=>.int (g i j)):=by
 intro pins s σ H x y v u Q I rx ry h;obtain⟨i,j,rfl,rfl,hc,q⟩:=h;obtain⟨t,rfl⟩:=rx;obtain⟨t',rfl⟩:=ry;exact rule i j t t' s _ _ hc ⟨.int (g i j),H,I.tok _,⟨_,rfl⟩,q⟩
theorem Uq{f:Value->Value->Sem Value}{g:Int->Int->Int}(rule:∀(i j:Int) (t u:Tok) (s:Shared) (Q:qad) (E:qad),Q (.int (g i j) s.toks) {s with toks:=s.toks+1}->wpAny (model X.prog X.w) X.A (f (.int i t) (.int j u)) Q E s) :
  gf X f (sV λi j=>.int (g i j)):=by
 intro pins s σ H x y v u Q I rx ry h;obtain⟨i,j,rfl,rfl,q⟩:=h;obtain⟨t,rfl⟩:=rx;obtain⟨t',rfl⟩:=ry;exact rule i j t t' s _ _ ⟨.int (g i j),H,I.tok _,⟨_,rfl⟩,q⟩
theorem JQ{f:Value->Value->Sem Value}{g:Int->Int->Bool}(rule:∀(i j:Int) (t u:Tok) (s:Shared) (Q:qad) (E:qad),Q (.bool (g i j)) s->wpAny (model X.prog X.w) X.A (f (.int i t) (.int j u)) Q E s) :
  gf X f (sV λi j=>.bl (g i j)):=by
 intro pins s σ H x y v u Q I rx ry h;obtain⟨i,j,rfl,rfl,q⟩:=h;obtain⟨t,rfl⟩:=rx;obtain⟨t',rfl⟩:=ry;exact rule i j t t' s _ _ ⟨.bl (g i j),H,I,rfl,q⟩
def Ur(i j:Int):Prop:=0<j/\j<1073741824
def Us(i j:Int):Prop:=0<=j/\j<=1000000/\i.natAbs<2 ^ 64
def E_(i j:Int):Prop:=(-(2 ^ 64)<i/\i<2 ^ 64)\/(-(2 ^ 64)<j/\j<2 ^ 64)
theorem E_.ok{i j:Int}(h:E_ i j):IntMulOk i j:=by
 obtain⟨h1,h2⟩|⟨h1,h2⟩:=h
 exact .of_left (intBits_le_64 h1 h2);exact .of_right (intBits_le_64 h1 h2)
theorem O_:gf X (binaryOp .Add) (sV λi j=>.int (i+j)):=Uq λ_ _ _ _ _ _ _ q=>add_int q
theorem Pa:gf X (binaryOp .Sub) (sV λi j=>.int (i-j)):=Uq λ_ _ _ _ _ _ _ q=>sub_int q
theorem Pb:gf X (binaryOp .Mult) (rI E_ λi j=>.int (i * j)):=O9 λ_ _ _ _ _ _ _ hc q=>mul_int q hc.ok
theorem JR:gf X (binaryOp .FloorDiv) (rI Ur λi j=>.int (i / j)):=O9 λi j _ _ _ _ _ hc q=>by have h1:(0:Int)<j:=hc.1;have h2:j<1073741824:=hc.2;exact floordiv_int (by omega) (by rw[Int.fdiv_eq_ediv_of_nonneg i (by omega)];exact q) (.inl (PyProof.noPylong_small (by omega)))
theorem Pc:gf X (binaryOp .Mod) (rI (λ_ j=>0<j) λi j=>.int (i % j)):=O9 λi j _ _ _ _ _ hc q=>by have h1:(0:Int)<j:=hc;exact mod_int' (by omega) (by rw[Int.fmod_eq_emod_of_nonneg i (by omega)];exact q)
theorem Pe:gf X (binaryOp .Pow) (rI Us λi j=>.int (i ^ j.toNat)):=O9 λ_ _ _ _ _ _ _ hc q=>pow_int_small hc.1 hc.2.1 hc.2.2 q
theorem unI{f:Value->Sem Value}{g:Int->Int}(rule:∀(i:Int) (t:Tok) (s:Shared) (Q:qad) (E:qad),Q (.int (g i) s.toks) {s with toks:=s.toks+1}->wpAny (model X.prog X.w) X.A (f (.int i t)) Q E s) :
  Y5 X f (rU λi=>.int (g i)):=by
 intro pins s σ H x v Q I rx h;obtain⟨i,rfl,q⟩:=h;obtain⟨t,rfl⟩:=rx;exact rule i t s _ _ ⟨.int (g i),H,I.tok _,⟨_,rfl⟩,q⟩
theorem Fb:Y5 X (unaryOp .USub) (rU λi=>.int (-i)):=unI λ_ _ _ _ _ q=>neg_int q
end
section
variable{X:Cx}{a:Expr}{ta tb tc:TE}{pos:Pos}
theorem zy{pins:qaa}{σ:St}{H:Hp}{s:Shared}{Q:VK}{k k':Bool}(I:Inv X pins σ H s)(q:Q (.bl k) H)(e:k=k'):EP X pins σ Q (.bool k') s:=by subst e;exact⟨.bl k,H,I,rfl,q⟩
theorem Ut:gf X (compareOp .Lt) (sV λi j=>.bl (decide (i<j))):=JQ λ_ _ _ _ _ _ _ q=>lt_int q
theorem wW:gf X (compareOp .LtE) (sV λi j=>.bl (decide (i<=j))):=JQ λ_ _ _ _ _ _ _ q=>le_int q
theorem Uu:gf X (compareOp .Gt) (sV λi j=>.bl (decide (j<i))):=JQ λ_ _ _ _ _ _ _ q=>gt_int q
theorem Uv:gf X (compareOp .GtE) (sV λi j=>.bl (decide (j<=i))):=JQ λ_ _ _ _ _ _ _ q=>ge_int q
theorem CT:gf X (compareOp .In) (λx y H Q=>∃i j,x=.str i/\y=.str j/\Q (.bl (!(Builtin.Str.occurrences j i 0 j.length 1).isEmpty)) H):=by intro pins s σ H x y v u Q I rx ry h;obtain⟨i,j,rfl,rfl,q⟩:=h;obtain⟨t,rfl⟩:=rx;obtain⟨t',rfl⟩:=ry;exact in_str (zy I q rfl)
theorem Pf:gf X (compareOp .Is) (λx y H Q=>y=.aQ/\Q (.bl (decide (x=.aQ))) H):=by
 intro pins s σ H x y v u Q I rx ry h;obtain⟨rfl,q⟩:=h;cases ry;refine is_none_gen (zy I q ?_);cases x<;>first
  | (cases rx;rfl)
  | (obtain⟨t,rfl⟩:=rx;rfl)
theorem JS:gf X (compareOp .IsNot) (λx y H Q=>y=.aQ/\Q (.bl (!decide (x=.aQ))) H):=by
 intro pins s σ H x y v u Q I rx ry h;obtain⟨rfl,q⟩:=h;cases ry;refine isnot_none_gen (zy I q ?_);cases x<;>first
  | (cases rx;rfl)
  | (obtain⟨t,rfl⟩:=rx;rfl)
theorem gf.or{f:Value->Value->Sem Value}{r r':R2}(h:gf X f r)(h':gf X f r'):gf X f (λx y H Q=>r x y H Q\/r' x y H Q):=by
 intro pins s σ H x y v u Q I rx ry q;obtain q|q:=q
 exact h pins s σ H x y v u Q I rx ry q;exact h' pins s σ H x y v u Q I rx ry q
theorem iG(b:Expr){op:CmpOp}(h:op≠.In:=by decide)(h2:op≠.NotIn:=by decide):behindInMarks op b=false:=by
 have e1:(op==CmpOp.In)=false:=by cases op<;>first|rfl|exact absurd rfl h
 have e2:(op==CmpOp.NotIn)=false:=by cases op<;>first|rfl|exact absurd rfl h2
 cases b<;>simp[behindInMarks,e1,e2]
theorem JT{op:CmpOp}{r:R2}(ho:gf X (compareOp op) r)(ha:PE X a ta)(hb:PE X b tb)(hm:behindInMarks op b=false):PE X (.Compare a [op] [b] pos) (Up r ta tb):=by intro pins s σ H Q I h;exact wpAny_Compare1 (O8 ha hb I h λv u s2 x y H2 I2 rx ry q=>ho pins s2 σ H2 x y v u Q I2 rx ry q) hm
def Nr(t:TE):TT:=λσ H Q=>t σ H λx H'=>∃k,x=.bl k/\Q k H'
theorem JU{op:CmpOp}{r:R2}(ho:gf X (compareOp op) r)(ha:PE X a ta)(hb:PE X b tb)(hm:behindInMarks op b=false):PT X (.Compare a [op] [b] pos) (Nr (Up r ta tb)):=by
 intro pins s σ H Q I h;refine wpAny_isTrue_Compare1 (bZ (ha pins s σ H _ I h) λv s1 ⟨x,H1,I1,r1,q1⟩=>bZ (hb pins s1 σ H1 _ I1 q1) λu s2 ⟨y,H2,I2,r2,q2⟩ =>
  bZ (ho pins s2 σ H2 x y v u _ I2 r1 r2 q2) λc s3 ⟨z,H3,I3,r3,k,e,q3⟩=>?_) hm
 subst e;cases r3;exact wpAny_truthy_bool ⟨H3,I3,q3⟩
def zz(r r':R2)(ta tb tc:TE):TE:=λσ H Q=>ta σ H λx H1=>tb σ H1 λy H2=>r x y H2 λz H3=>∃k,z=.bl k /\
 (if k=true then tc σ H3 λw' H4=>r' y w' H4 Q else Q (.bl false) H3)
theorem Fc{op zA:CmpOp}{r r':R2}(ho:gf X (compareOp op) r)(jb:gf X (compareOp zA) r')(ha:PE X a ta)(hb:PE X b tb)(hc:PE X c tc)(hm:lastMarks [op,zA] [b,c]=false:=by with_unfolding_all rfl):PE X (.Compare a [op,zA] [b,c] pos) (zz r r' ta tb tc):=by
 intro pins s σ H Q I h;refine Compare_chain (bZ (ha pins s σ H _ I h) λv s1 ⟨x,H1,I1,r1,q1⟩=>chain_link (bZ (hb pins s1 σ H1 _ I1 q1) λu s2 ⟨y,H2,I2,r2,q2⟩ =>
  bZ (ho pins s2 σ H2 x y v u _ I2 r1 r2 q2) λd s3 ⟨z,H3,I3,r3,k,e,q3⟩=>?_)) hm
 subst e;cases r3;refine wpAny_truthy_bool ?_;cases k with
 |false=>exact ite_ff ⟨.bl false,H3,I3,rfl,q3⟩
 |true=>exact ite_tt (chain_last (bZ (hc pins s3 σ H3 _ I3 q3) λw' s4 ⟨z',H4,I4,r4,q4⟩=>jb pins s4 σ H4 y z' u w' Q I4 r2 r4 q4))
theorem Fd{op zA:CmpOp}{r r':R2}(ho:gf X (compareOp op) r)(jb:gf X (compareOp zA) r')(ha:PE X a ta)(hb:PE X b tb)(hc:PE X c tc)(hm:lastMarks [op,zA] [b,c]=false:=by with_unfolding_all rfl):PT X (.Compare a [op,zA] [b,c] pos) (Nr (zz r r' ta tb tc)):=by
 intro pins s σ H Q I h;refine isTrue_chain (bZ (ha pins s σ H _ I h) λv s1 ⟨x,H1,I1,r1,q1⟩=>test_link (bZ (hb pins s1 σ H1 _ I1 q1) λu s2 ⟨y,H2,I2,r2,q2⟩ =>
  bZ (ho pins s2 σ H2 x y v u _ I2 r1 r2 q2) λd s3 ⟨z,H3,I3,r3,k,e,q3⟩=>?_)) hm
 subst e;cases r3;refine wpAny_truthy_bool ?_;cases k with
 |false=>obtain⟨k',e',q'⟩:=q3;cases e';exact ite_ff ⟨H3,I3,q'⟩
 |true=>refine ite_tt (test_last (bZ (hc pins s3 σ H3 _ I3 q3) λw' s4 ⟨z',H4,I4,r4,q4⟩=>bZ (jb pins s4 σ H4 y z' u w' _ I4 r2 r4 q4) λd' s5 ⟨z2,H5,I5,r5,k2,e2,q5⟩=>?_));subst e2;cases r5;exact wpAny_truthy_bool ⟨H5,I5,q5⟩
theorem m6:(sizeLine:Nat)<2 ^ 63:=by rw[sizeLine_eq];decide
theorem zB:gf X (binaryOp .Add) (λx y H Q=>∃i j,x=.str i/\y=.str j/\i.length+j.length<=sizeLine/\Q (.str (i++j)) H):=by intro pins s σ H x y v u Q I rx ry h;obtain⟨i,j,rfl,rfl,hz,q⟩:=h;obtain⟨t,rfl⟩:=rx;obtain⟨t',rfl⟩:=ry;exact add_str (λt' tk=>⟨.str (i++j),H,I.tok _,⟨_,rfl⟩,q⟩) hz
theorem vals1{x:V}{us:qag}(r:Vals [x] us):∃u,us=[u]/\RelV x u:=by
 cases r with
 |cons r1 r2=>cases r2;exact⟨_,rfl,r1⟩
theorem vals2{x y:V}{us:qag}(r:Vals [x,y] us):∃u w',us=[u,w']/\RelV x u/\RelV y w':=by
 cases r with
 |cons r1 r2=>
  cases r2 with
  |cons r3 r4=>cases r4;exact⟨_,_,rfl,r1,r3⟩
end
structure CU(h:Heap)(x dx C:Addr)(mA:qae):Prop where
 obj:h.get? x=some (PySem.W.instObj C dx)
 ns:h.Ns1 dx mA
 ne:dx≠x
theorem CV{mA:qae}(n:h.Ns1 dx mA):∃od,h.get? dx=some od/\∀name,PySem.W.lookIn name od=some (mA name):=by
 obtain⟨o,es,ep,ho,hd,hk,_,hm⟩:=n;refine⟨o,ho,λname=>?_⟩;have e:=hm name;unfold nsFind findBy at e;rw[<- Array.find?_toList] at e;unfold PySem.W.lookIn;rw[hd];dsimp only;split
 rename_i y q
 rw[q] at e;exact congrArg some e
 rename_i q
 rw[q] at e;have a:es.toList.any (·.refKey)=false:=by rw[List.any_eq_false];intro y hy;obtain⟨z,t,Y6⟩:=hk y (Array.mem_toList_iff.mp hy);simp[DictEntry.refKey,Y6]
 have a':¬ es.toList.any (·.refKey)=true:=by rw[a];exact iD
 rw[if_neg a'];exact congrArg some e
theorem CU.look{x:Addr}{mA:qae}(I:CU h x dx C mA):∃od,PySem.W.InstAt h x (PySem.W.instObj C dx) C (some od)/\∀name,PySem.W.lookIn name od=some (mA name) :=
 let ⟨od,ho,hl⟩:=CV I.ns
 ⟨od,⟨I.obj,rfl,rfl,ho⟩,hl⟩
section
variable{E:qad}{s:Shared}{K:qaf}{x:Addr}{mA:qae}{name:Str}{v:Value}
theorem get_map{expr:Bool}{Q:qad}(X:K.In s.heap)(I:CU s.heap x dx C mA)(hg:PySem.W.plainGet K C name=true)(hh:PySem.W.hasDictIn K C=true)(ha:PySem.W.findIn K (.ref C) name=some none)(hv:mA name=some v)(Fe:PySem.W.handedIn v=true)(h:Q v {s with toks:=s.toks+1}) :
  wpAny (model prog w) A (getAttr (.ref x) name expr) Q E s:=by
 obtain⟨od,J,hl⟩:=I.look;exact PySem.W.get_value X J (PySem.W.plainGet_of hg).1 (PySem.W.findObj_own hh ha rfl (by rw[hl,hv])) Fe h
theorem JV{ns:qai}{Q:Unit->Shared->Prop}(X:K.In s.heap)(I:CU s.heap x dx C mA)(hs:PySem.W.findIn K (.ref C) "__setattr__"=some (some (.builtin "object.__setattr__")))(hp:PySem.W.plainOver K C=true)(ht:PySem.W.takerIn K C name=some none)(hh:PySem.W.hasDictIn K C=true)(hw:PySem.Within mA ns)(hsz:ns.length<=sizeLine)(h:∀h',CU h' x dx C (λy=>if y=name then some v else mA y)->Heap.SameBut dx s.heap h'->Q () {s with heap:=h',toks:=s.toks+2}) :
  wpAny (model prog w) A (setAttr (.ref x) name v) Q E s:=by
 obtain⟨od,J,hl⟩:=I.look;refine PySem.W.set_plain X J hs (PySem.W.osa_open (s:={s with toks:=s.toks+1}) (r:=none) X J hp ht λb=>?_);obtain⟨cd,hc,ER⟩:=PySem.W.any_some hh;have hx:s.heap.get? x=some ⟨.ref C,some dx,.plain,#[]⟩:=I.obj;refine wpAny_bind (wpAny_pure (wpAny_bind (wpAny_bind (wpAny_loadPart hx (wpAny_bind (PySem.W.Looks.here (s:={s with toks:=s.toks+1}) (PySem.W.looks_clsIn X hc) ?_))))));rw[ER];refine wpAny_pure (a:=some dx) (wpAny_bind (wpAny_pure (wpAny_bind ?_)));refine wpAny_nsSet1 (s:={s with toks:=s.toks+1}) I.ns λh' hn2 CQ=>?_;obtain⟨oD,esD,epD,hoD,hdD,hcD⟩:=hn2.count (PySem.Within.cons name v hw);refine wpAny_bind (wpAny_lookBehind hoD (by rw[hdD];exact pastItsLine_dict (ly hcD (by rw[wI];omega))) ?_);exact wpAny_pure (h _ ⟨(CQ.2 _ (Ne.symm I.ne)).trans I.obj,hn2,I.ne⟩ CQ)
theorem Ff{R:Result->Shared->Prop}{vs:qag}{kw:List (Str×Value)}(X:K.In s.heap)(hm:PySem.W.makesIn K C=true)(hi:PySem.W.findIn K (.ref C) "__init__"=some (some (.ref f)))(hf:PySem.W.typeIn K (.ref f)=some (.type "function"))(h:codeAny (model prog w) (A.under (.builtin "type.__call__" ⟨.ref C::vs,kw⟩)) (.call (.ref f) ⟨.ref (s.heap.objs.size+1)::vs,kw⟩) (PySem.W.InitBack (s.heap.objs.size+1) R)
    {s with heap:=(s.heap.push PySem.W.emptyDict).push (PySem.W.instObj C s.heap.objs.size)}) :
  codeAny (model prog w) A (.call (.ref C) ⟨vs,kw⟩) R s:=by
 obtain⟨hh,g,d,t,os⟩:=s;exact PySem.W.make_core (PySem.W.makes_of X hm) (PySem.W.looks_findIn X hi) (λself=>PySem.W.bind_fn X self hf) (.inl rfl) h
end
noncomputable def dJ(f:Str)(v:V):List (Str×V)->List (Str×V)
 |[]=>[(f,v)]
 | (g,x)::r=>if g=f then (g,v)::r else (g,x)::dJ f v r
theorem nZ(f g:Str)(v:V):∀fs:List (Str×V),(dJ f v fs).lookup g=if g=f then some v else fs.lookup g
 |[]=>by show List.lookup g [(f,v)]=_;by_cases h:g=f;have hb:(g==f)=true:=beq_iff_eq.mpr h;simp only[List.lookup,hb,if_pos h];have hb:(g==f)=false:=beq_eq_false_iff_ne.mpr h;simp only[List.lookup,hb,if_neg h]
 | (k,x)::r=>by have ih:=nZ f g v r;rw[show dJ f v ((k,x)::r)=(if k=f then (k,v)::r else (k,x)::dJ f v r) from rfl];by_cases hk:k=f;rw[if_pos hk];by_cases h:g=k;have hb:(g==k)=true:=beq_iff_eq.mpr h;simp only[List.lookup,hb,if_pos (h.trans hk)];have hb:(g==k)=false:=beq_eq_false_iff_ne.mpr h;simp only[List.lookup,hb,if_neg (λe:g=f=>h (e.trans hk.symm))];rw[if_neg hk];by_cases h:g=k;have hb:(g==k)=true:=beq_iff_eq.mpr h;simp only[List.lookup,hb,if_neg (λe:g=f=>hk (h.symm.trans e))];have hb:(g==k)=false:=beq_eq_false_iff_ne.mpr h;simp only[List.lookup,hb];exact ih
theorem m7(f:Str)(v:V):∀fs:List (Str×V),f∈(dJ f v fs).map (·.1)/\∀g,g∈fs.map (·.1)->g∈(dJ f v fs).map (·.1)
 |[]=>⟨by simp[dJ],λg h=>by simp at h⟩
 | (k,x)::r=>by
  obtain⟨i1,i2⟩:=m7 f v r;rw[show dJ f v ((k,x)::r)=(if k=f then (k,v)::r else (k,x)::dJ f v r) from rfl];by_cases hk:k=f;rw[if_pos hk];subst hk;exact⟨by simp,λg h=>by simpa using h⟩;rw[if_neg hk];refine⟨?_,λg h=>?_⟩;rw[gR];exact gG _ i1;rw[gR] at h ⊢;rcases cT.mp h with e|e
  exact cT.mpr (.inl e);exact gG _ (i2 g e)
theorem n_(f:Str)(v:V):∀fs:List (Str×V),(dJ f v fs).length<=fs.length+1
 |[]=>by simp[dJ]
 | (k,x)::r=>by have ih:=n_ f v r;rw[show dJ f v ((k,x)::r)=(if k=f then (k,v)::r else (k,x)::dJ f v r) from rfl];by_cases hk:k=f;rw[if_pos hk,wI,wI];omega;rw[if_neg hk,wI,wI];omega
theorem ki.some_of{v:V}{o:Option Value}(r:ki (some v) o):∃u,o=some u/\RelV v u:=by
 cases o with
 |none=>exact (show False from r).elim
 |some u=>exact⟨u,rfl,r⟩
theorem CW{v:V}(r:RelV v u):PySem.W.handedIn u=true:=by
 cases v with
 |aQ=>cases (show u=Value.none from r);rfl
 |bl b=>cases (show u=Value.bool b from r);rfl
 |int i=>obtain⟨t,e⟩:=(show ∃t,u=Value.int i t from r);cases e;rfl
 |str x=>obtain⟨t,e⟩:=(show ∃t,u=Value.str x t from r);cases e;rfl
 |YE b=>obtain⟨t,e⟩:=(show ∃t,u=Value.bytes b t from r);cases e;rfl
 |S8 b=>obtain⟨t,e⟩:=(show ∃t,u=Value.float b t from r);cases e;rfl
 |ref a=>cases (show u=Value.ref a from r);rfl
 |ty n=>cases (show u=Value.type n from r);rfl
section
variable{H H':Hp}{fs YH:List (Str×V)}
theorem Bp(cn:lz P w H h)(e:H a=some (.ins C dx fs)):∃mA,CU h a dx C mA/\(∀f,ki (fs.lookup f) (mA f))/\PySem.Within mA (fs.map (·.1))/\fs.length<=1000/\H dx=some (.own a):=by obtain⟨d,z,ne,ob,mA,n,r,q⟩:=(show cy P w H h a (.ins C dx fs) from cn a _ e);exact⟨mA,⟨ob,n,ne⟩,r,q,z,d⟩
end
structure zC(K:qaf)(C:Addr):Prop where
 pg:PySem.W.plainGet K C Str.empty=true
 hd:PySem.W.hasDictIn K C=true
 po:PySem.W.plainOver K C=true
 sa:PySem.W.findIn K (.ref C) "__setattr__"=some (some (.builtin "object.__setattr__"))
theorem zC.get{K:qaf}{C:Addr}(c:zC K C)(f:Str):PySem.W.plainGet K C f=true:=c.pg
def bp(K:qaf)(C:Addr)(f:Str):Prop:=PySem.W.findIn K (.ref C) f=some none
theorem bp.Uw{K:qaf}{f:Str}(n:bp K C f):PySem.W.takerIn K C f=some none:=by unfold PySem.W.takerIn;rw[show PySem.W.findIn K (.ref C) f=some none from n];rfl
section
variable{X:Cx}{pins:qaa}{σ:St}{H:Hp}{s:Shared}{fs:List (Str×V)}{f:Str}{v:V}{E:qad}
theorem zD{b:Bool}{Q:qad}(I:Inv X pins σ H s)(e:H a=some (.ins C dx fs))(c:zC X.K C)(n:bp X.K C f)(l:fs.lookup f=some v)(h:∀u s',Inv X pins σ H s'->RelV v u->Q u s'):wpAny (model X.prog X.w) A (getAttr (.ref a) f b) Q E s:=by obtain⟨mA,O,r,_,_,_⟩:=Bp I.cn e;obtain⟨u,hu,ru⟩:=ki.some_of (v:=v) (o:=mA f) (by rw[<- l];exact r f);exact get_map I.rR O (c.get f) c.hd n hu (CW ru) (h u _ (I.tok _) ru)
theorem zE{y:V}{Q:Unit->Shared->Prop}(I:Inv X pins σ H s)(e:H a=some (.ins C dx fs))(c:zC X.K C)(n:bp X.K C f)(hl:fs.length<1000)(ry:RelV y u)(h:∀s',Inv X pins σ (upd H a (.ins C dx (dJ f y fs))) s'->Q () s'):wpAny (model X.prog X.w) A (setAttr (.ref a) f u) Q E s:=by
 obtain⟨mA,O,r,wi,_,ho⟩:=Bp I.cn e;have hz:(fs.map (·.1)).length<=sizeLine:=by rw[cV,sizeLine_eq];omega
 refine JV I.rR O c.sa c.po n.Uw c.hd wi hz λh' O' sb=>h _ ?_;have hd:∃o,h'.get? dx=some o:=let ⟨o,_,_,e',_⟩:=O'.ns;⟨o,e'⟩;refine I.write (x:=a) (e:=dx) (by rw[e];exact True.intro) (.inr ho) (λb q hb z=>(sb.2 b hb).trans z) hd ?_;refine⟨by rw[aE O.ne];exact ho,?_,O.ne,O'.obj,_,O'.ns,λg=>?_,λg hg=>?_⟩;have:=n_ f y fs;omega;show ki ((dJ f y fs).lookup g) (if g=f then some u else mA g);rw[nZ];by_cases q:g=f;rw[if_pos q,if_pos q];exact ry;rw[if_neg q,if_neg q];exact r g;by_cases q:g=f;rw[q];exact (m7 f y fs).1;refine (m7 f y fs).2 g (wi g λz=>hg ?_);show (if g=f then some u else mA g)=none;rw[if_neg q];exact z
theorem Inv.made(I:Inv X pins σ H s):Inv X pins σ (upd (upd H s.heap.objs.size (.own (s.heap.objs.size+1))) (s.heap.objs.size+1) (.ins C s.heap.objs.size []))
  {s with heap:=(s.heap.push PySem.W.emptyDict).push (PySem.W.instObj C s.heap.objs.size)}:=by
 have e1:(s.heap.push PySem.W.emptyDict).get? s.heap.objs.size=some PySem.W.emptyDict:=sR s.heap rfl;have e2:((s.heap.push PySem.W.emptyDict).push (PySem.W.instObj C s.heap.objs.size)).get? (s.heap.objs.size+1)=some (PySem.W.instObj C s.heap.objs.size):=by
  have:=sR (s.heap.push PySem.W.emptyDict) (o:=PySem.W.instObj C s.heap.objs.size) rfl
  rwa [T6] at this
 have e3:(s.heap.push PySem.W.emptyDict).Ns s.heap.objs.size (λ_=>none):=⟨PySem.W.emptyDict,#[],_,e1,rfl,(λe he=>absurd he (by simp)),λ_=>rfl⟩;have I1:=I.laid (a:=s.heap.objs.size) (o:=.own (s.heap.objs.size+1)) (h':=s.heap.push PySem.W.emptyDict) (t':=s.toks) (λb u q=>mV _ q) (c3 _) ⟨_,e1⟩;refine I1.laid (a:=s.heap.objs.size+1) (o:=.ins C s.heap.objs.size []) (t':=s.toks) (λb u q=>mV _ q) (Nat.le_of_eq (T6 _ _)) ?_;have ne:s.heap.objs.size≠s.heap.objs.size+1:=nY (EM _);refine⟨by rw[aE ne,aI],jj _,ne,e2,λ_=>none,(Heap.Ns1.of_empty e3).at λo q=>mV _ q,λ_=>True.intro,λy hy=>absurd rfl hy⟩
theorem JW{env:Env}{f:Str}{pos:Pos}{s:Shared}{Q:qad}(hb:attributeBase e f env (eval e env)=eval e env)(h:wpAny (model prog w) A (eval e env) (λo s₁=>wpAny (model prog w) A (getAttr o f true) Q E s₁) E s):wpAny (model prog w) A (eval (.Attribute e f pos) env) Q E s :=
 Attribute_any_ h (by rw[arm_eval_Attribute,hb])
end
def Y7(K:qaf)(ta:TE)(f:Str):TE:=λσ H Q=>ta σ H λx H1=>∃a C dx fs v,x=.ref a/\H1 a=some (.ins C dx fs)/\zC K C/\bp K C f/\fs.lookup f=some v/\Q v H1
noncomputable def Y8(K:qaf)(ta tv:TE)(f:Str):TS:=λD σ H=>tv σ H λy H1=>ta σ H1 λx H2=>∃a C dx fs,x=.ref a/\H2 a=some (.ins C dx fs)/\zC K C/\bp K C f/\fs.length<1000 /\
 D.nx σ (upd H2 a (.ins C dx (dJ f y fs)))
section
variable{X:Cx}{value:Expr}{f:Str}{pos pos':Pos}{ta tv:TE}
theorem zF(he:PE X e ta)(hb:attributeBase e f X.env (eval e X.env)=eval e X.env):PE X (.Attribute e f pos) (Y7 X.K ta f):=by intro pins s σ H Q I h;refine JW hb (bZ (he pins s σ H _ I h) λu s1 ⟨x,H1,I1,rx,a,C,dx,fs,v,ex,ea,c,n,l,q⟩=>?_);subst ex;obtain rfl:u=Value.ref a:=rx;exact zD I1 ea c n l λu' s2 I2 ru=>⟨v,H1,I2,ru,q⟩
theorem gp(ha:PE X o ta)(hv:PE X value tv)(hs:swapsWith value (some (.Attribute o f pos')) pos.line X.env=pure false):PS X (.Assign [.Attribute o f pos'] value pos) (Y8 X.K ta tv f):=by intro pins s σ H D I h;refine plainObj_wpAny_Assign_Attribute (bZ (hv pins s σ H _ I h) λu s1 ⟨y,H1,I1,ry,q⟩=>bZ (ha pins s1 σ H1 _ I1 q) λov s2 ⟨x,H2,I2,rx,a,C,dx,fs,ex,ea,c,n,l,q2⟩=>?_) hs;subst ex;obtain rfl:ov=Value.ref a:=rx;exact zE I2 ea c n l ry λs3 I3=>⟨σ,_,I3,q2⟩
end
structure bz(k:Nat)(A:Around):Prop where
 hd:A.handled=none
 dp:A.depth+3 * k+5<recursionLimit
 un:A.units+16 * k+200<cLine
theorem bz.mono{k:Nat}(r:bz k A)(h:j<=k):bz j A:=⟨r.hd,by have:=r.dp;omega,by have:=r.un;omega⟩
theorem bz.deeper{k:Nat}(r:bz (k+1) A)(env:Env):bz k (A.deeper env) :=
 ⟨r.hd,by have:=r.dp;show A.depth+1+3 * k+5<_;omega,by have:=r.un;show A.units+3+16 * k+200<_;omega⟩
theorem zG{us:qag}{kw:List (Str×Value)}:(A.under (.builtin "type.__call__" ⟨.ref C::us,kw⟩)).depth=A.depth+1:=by first|rfl|simp[Around.under,Code.weight,Code.isCreation,Code.isGuard,Code.isCaller,Code.frames,Code.isFrame,guardIds]
theorem zH{us:qag}{kw:List (Str×Value)}:(A.under (.builtin "type.__call__" ⟨.ref C::us,kw⟩)).units=A.units+1:=by first|rfl|simp[Around.under,Code.cUnits,Code.frames,Code.isFrame]
theorem bz.make{k:Nat}(r:bz (k+1) A)(C:Addr)(us:qag)(kw:List (Str×Value)):bz k (A.under (.builtin "type.__call__" ⟨.ref C::us,kw⟩)) :=
 ⟨r.hd,by have:=r.dp;rw[zG];omega,by have:=r.un;rw[zH];omega⟩
theorem bz.depth{k:Nat}(r:bz k A):A.depth<recursionLimit:=by have:=r.dp;omega
def Y9:TA:=λ_ H Q=>Q [] H
def Ux(ta:TE)(tr:TA):TA:=λσ H Q=>ta σ H λx H1=>tr σ H1 λxs H2=>Q (x::xs) H2
section
variable{X:Cx}{es:qap}{te:TE}{t:TA}{pos:Pos}
theorem cX:PA X [] Y9:=λ_ _ _ _ H Q I h=>Calls.spliced_nil ⟨[],H,I,.nil,h⟩
theorem bD(ha:PE X e te)(hr:PA X es t)(hs:starEach (e::es) X.env=(false,eval e X.env)::starEach es X.env:=by rfl):PA X (e::es) (Ux te t):=by intro pos pins s σ H Q I h;rw[hs];show wpAny _ _ (spliced ((false,eval e X.env)::backTo pos (starEach es X.env))) _ _ s;refine OC (bZ (ha pins s σ H _ I h) λu s1 ⟨x,H1,I1,r1,q1⟩=>?_);exact bZ (hr pos pins s1 σ H1 _ I1 q1) λus s2 ⟨xs,H2,I2,r2,q2⟩=>⟨x::xs,H2,I2,.cons r1 r2,q2⟩
def Y_(t:TA):TE:=λσ H Q=>t σ H λxs H1=>xs.length<=sizeLine/\∀p,H1 p=none->Q (.ref p) (upd H1 p (.tup xs))
def Y'(t:TA):TE:=λσ H Q=>t σ H λxs H1=>xs.length<=sizeLine/\∀p,H1 p=none->Q (.ref p) (upd H1 p (.lst xs))
theorem zI{x1}(h:PA X es t):PE X (.Tuple es x1 pos) (Y_ t):=by intro pins s σ H Q I hq;refine wpAny_Tuple_spliced (bZ (h pos pins s σ H _ I hq) λus s1 ⟨xs,H1,I1,r,z,q⟩=>⟨by rw[<- r.length];exact z,?_⟩);have hf:H1 s1.heap.objs.size=none:=I1.cn.fresh (c3 _);refine⟨.ref s1.heap.objs.size,upd H1 s1.heap.objs.size (.tup xs),I1.laid (t':=s1.toks) (λb u e=>mV _ e) (c3 _) ?_,rfl,q _ hf⟩;exact⟨z,us,r,⟨_,sR _ rfl,rfl,_,rfl⟩⟩
theorem zJ(h:PA X es t):PE X (.List es pos) (Y' t):=by intro pins s σ H Q I hq;refine wpAny_List_spliced (bZ (h pos pins s σ H _ I hq) λus s1 ⟨xs,H1,I1,r,z,q⟩=>⟨by rw[<- r.length];exact z,?_⟩);have hf:H1 s1.heap.objs.size=none:=I1.cn.fresh (c3 _);refine⟨.ref s1.heap.objs.size,upd H1 s1.heap.objs.size (.lst xs),I1.laid (t':=s1.toks) (λb u e=>mV _ e) (c3 _) ?_,rfl,q _ hf⟩;exact⟨z,us,0,r,sR _ rfl⟩
end
abbrev Sp:=List V->Hp->VK->XK->Prop
abbrev ES:=List Env->Hp->Shared->XK->qad
structure zK(P:Program)(w:World)(K:qaf)(mg:qae)(base:Heap)(A:Around)(outer:List Env)(s:Shared)(H:Hp):Prop where
 frames:A.frames=some outer
 mod:Mod K mg base
 bs:∀b o,base.get? b=some o->s.heap.get? b=some o/\H b=none
 EO:base.objs.size<=s.heap.objs.size
 lN:s.heap.FunFrames base outer
 JI:∀b∈EN outer,H b=none
 cn:lz P w H s.heap
 bare:AllBare s.gens
def CE(outer:List Env)(P:Program)(w:World)(H:Hp)(s:Shared)(Q:VK)(u:Value)(s':Shared):Prop :=
 ∃v H',s'.os=s.os/\AllBare s'.gens/\Un (EN outer) [] H H' s.heap s'.heap/\lz P w H' s'.heap/\RelV v u/\Q v H'
def CR(CX:ES)(outer:List Env)(P:Program)(w:World)(H:Hp)(s:Shared)(Q:VK)(E:XK)(r:Result)(s':Shared):Prop :=
 match r with
 |.ok (.ret u)=>CE outer P w H s Q u s'
 |.ok _=>False
 |.error e=>CX outer H s E e s'
structure cA(P:Program)(w:World)(K:qaf)(mg:qae)(base:Heap)(CX:ES)(k:Nat)(f:Addr)(fd:FuncData)(ps:qai)(sp:Sp):Prop where
 len:∀vs H Q E,sp vs H Q E->vs.length=ps.length
 run:∀(A:Around)(outer:List Env)(s:Shared)(H:Hp)(args:Args)(us:qag)(vs:List V)(Q:VK)(E:XK),bz k A->zK P w K mg base A outer s H->BindsTo s fd args (ps.zip us)->Vals vs us->sp vs H Q E ->
  codeAny (model P w) A (.call (.ref f) args) (CR CX outer P w H s Q E) s
theorem zK.make{K:qaf}{mg:qae}{outer:List Env}{s:Shared}{H:Hp}(e:zK P w K mg base A outer s H)(C:Addr)(us:qag)(kw:List (Str×Value)) :
 zK P w K mg base (A.under (.builtin "type.__call__" ⟨.ref C::us,kw⟩)) outer s H:=⟨by first|exact e.frames|(simpa[Around.under,Code.envs,Code.isFrame,pushEnvs] using e.frames),e.mod,e.bs,e.EO,e.lN,e.JI,e.cn,e.bare⟩
section
variable{X:Cx}{pins:qaa}{σ:St}{H:Hp}{s:Shared}
theorem Inv.Uy(I:Inv X pins σ H s):zK X.prog X.w X.K X.mg X.base X.A X.stack s H :=
 ⟨I.ok.frames,I.ok.mod,I.bs,ly I.ok.EO I.sz,I.stack,I.Bi,I.cn,I.bare⟩
theorem Inv.after{Q:VK}(I:Inv X pins σ H s)(h:CE X.stack X.prog X.w H s Q u s'):EP X pins σ Q u s':=by obtain⟨v,H',os,bare,un,cn,r,q⟩:=h;obtain⟨hh,g,d,t,os'⟩:=s';obtain rfl:os'=s.os:=os;exact⟨v,H',I.call (h':=hh) (g':=g) (d':=d) (t':=t) (ch:=[]) un cn bare (λb z=>absurd z (by simp)),r,q⟩
end
def Uz(sp:Sp)(uv:List V)(E:XK)(t:TA):TE:=λσ H Q=>t σ H λvs H1=>sp (vs++uv) H1 Q E
def UA(C:Addr)(sp:Sp)(uv:List V)(E:XK)(t:TA):TE:=λσ H Q=>t σ H λvs H1=>∀x dx,H1 x=none->H1 dx=none->dx≠x ->
 sp (.ref x::(vs++uv)) (upd (upd H1 dx (.own x)) x (.ins C dx [])) (λv H2=>v=.aQ/\Q (.ref x) H2) E
def Binds(K:qaf)(fd:FuncData)(ps:qai)(ds:qag):Prop :=
 ∀(s:Shared)(us:qag),K.In s.heap->(us++ds).length=ps.length->BindsTo s fd ⟨us,[]⟩ (ps.zip (us++ds))
theorem Binds.all{K:qaf}{ps:qai}(h:∀us:qag,us.length=ps.length->bindArgs fd ⟨us,[]⟩=pure (ps.zip us)):Binds K fd ps []:=λs us _ hl=>by rw[CC] at hl ⊢;exact .of_eq (h us hl)
def Passes(CX:ES)(X:Cx)(E:XK):Prop:=∀(pins:qaa)(σ:St)(H:Hp)(s:Shared)(e:Value)(s':Shared),Inv X pins σ H s->CX X.stack H s E e s'->X.xe e s'
section
variable{X:Cx}{CX:ES}{k:Nat}{ps:qai}{sp:Sp}{uv:List V}{ds:qag}{E:XK}{m:Str}{pos:Pos}{es:qap}{ta:TE}{t:TA}
theorem zL{pins:qaa}{σ:St}{H:Hp}{s:Shared}{Q:VK}{us:qag}{vs:List V}(F:cA X.prog X.w X.K X.mg X.base CX k f fd ps sp)(hr:bz k X.A)(hb:Binds X.K fd ps ds)(hd:Vals uv ds)(hx:Passes CX X E)(I:Inv X pins σ H s)(r:Vals vs us)(h:sp (vs++uv) H Q E):wpAny (model X.prog X.w) X.A (call (.ref f) us) (EP X pins σ Q) X.xe s:=by
 have r2:Vals (vs++uv) (us++ds):=r.append hd;have hl:(us++ds).length=ps.length:=by rw[<- r2.length];exact F.len _ _ _ _ h
 refine wpAny_call (codeAny_mono (F.run X.A X.stack s H ⟨us,[]⟩ (us++ds) (vs++uv) Q E hr I.Uy (hb s us I.rR hl) r2 h) λr s' hq=>?_);cases r with
 |error e=>exact hx pins σ H s e s' I hq
 |ok fl=>
  cases fl with
  |ret u=>exact I.after hq
  |_=>exact False.elim hq
theorem lU(F:cA X.prog X.w X.K X.mg X.base CX k f fd ps sp)(hr:bz k X.A)(hg:Gl X x)(hm:X.mg x=some (.ref f))(hk:PySem.W.keepIn X.K (.ref f)=true)(hb:Binds X.K fd ps ds)(hd:Vals uv ds)(hx:Passes CX X E)(ha:PA X (e::es) t)(m8:ie x:=by decide)(he:starEach (e::es) X.env=(false,eval e X.env)::starEach es X.env:=by rfl)(ic:(backTo pos (starEach es X.env)).any (·.1)=false:=by rfl) :
  PE X (.Call (.Name x p) (e::es) [] pos) (Uz sp uv E t):=by
 intro pins s σ H Q I h;refine wpAny_Call_Name_kw (uo I hg hm ?_ m8);refine XD (h₀:=X.base) I.ok.mod.S9 hk (bZ (ha pos pins s σ H _ I h) λus s1 ⟨vs,H1,I1,r,q⟩=>⟨I1.rR,?_⟩) he ic;exact zL F hr hb hd hx I1 r q
structure Mk(K:qaf)(C f:Addr):Prop where
 makes:PySem.W.makesIn K C=true
 init:PySem.W.findIn K (.ref C) "__init__"=some (some (.ref f))
 fn:PySem.W.isFn K (.ref f)=true
 kp:PySem.W.keepIn K (.ref C)=true
theorem Fg{pins:qaa}{σ:St}{H:Hp}{s:Shared}{Q:VK}{us:qag}{vs:List V}(M:Mk X.K C f)(F:cA X.prog X.w X.K X.mg X.base CX k f fd ps sp)(hr:bz (k+1) X.A)(hb:Binds X.K fd ps ds)(hd:Vals uv ds)(hx:Passes CX X E)(I:Inv X pins σ H s)(r:Vals vs us)(h:∀x dx,H x=none->H dx=none->dx≠x->sp (.ref x::(vs++uv)) (upd (upd H dx (.own x)) x (.ins C dx [])) (λv H2=>v=.aQ/\Q (.ref x) H2) E) :
  wpAny (model X.prog X.w) X.A (call (.ref C) us) (EP X pins σ Q) X.xe s:=by
 have hq:=h (s.heap.objs.size+1) s.heap.objs.size (I.cn.fresh (S7 _)) (I.cn.fresh (c3 _)) (nY (EM _));have I2:=Inv.made (C:=C) I;have r2:Vals (V.ref (s.heap.objs.size+1)::(vs++uv)) (Value.ref (s.heap.objs.size+1)::(us++ds)):=.cons rfl (r.append hd);have hl:(Value.ref (s.heap.objs.size+1)::us++ds).length=ps.length:=by have e:=r2.length;rw[F.len _ _ _ _ hq] at e;exact e.symm
 refine wpAny_call (Ff (f:=f) I.rR M.makes M.init (beq_iff_eq.mp M.fn) (codeAny_mono (F.run _ X.stack _ _ ⟨Value.ref (s.heap.objs.size+1)::us,[]⟩ (Value.ref (s.heap.objs.size+1)::(us++ds)) _ _ E (hr.make C us [])
  (I2.Uy.make C us []) (hb _ (Value.ref (s.heap.objs.size+1)::us) I2.rR hl) r2 hq) λr s' d9=>?_))
 cases r with
 |error e=>exact hx pins σ _ _ e s' I2 d9
 |ok fl=>
   cases fl with
   |ret u=>obtain⟨v,H',I3,rv,ev,q3⟩:=I2.after d9;subst ev;exact⟨rv,⟨V.ref (s.heap.objs.size+1),H',I3,rfl,q3⟩⟩
   |_=>exact False.elim d9
theorem uw(M:Mk X.K C f)(F:cA X.prog X.w X.K X.mg X.base CX k f fd ps sp)(hr:bz (k+1) X.A)(hg:Gl X x)(hm:X.mg x=some (.ref C))(hb:Binds X.K fd ps ds)(hd:Vals uv ds)(hx:Passes CX X E)(ha:PA X (e::es) t)(m8:ie x:=by decide)(he:starEach (e::es) X.env=(false,eval e X.env)::starEach es X.env:=by rfl)(ic:(backTo pos (starEach es X.env)).any (·.1)=false:=by rfl) :
  PE X (.Call (.Name x p) (e::es) [] pos) (UA C sp uv E t):=by
 intro pins s σ H Q I h;refine wpAny_Call_Name_kw (uo I hg hm ?_ m8);refine XD (h₀:=X.base) I.ok.mod.S9 M.kp (bZ (ha pos pins s σ H _ I h) λus s1 ⟨vs,H1,I1,r,q⟩=>⟨I1.rR,?_⟩) he ic;exact Fg M F hr hb hd hx I1 r q
end
section
variable{X:Cx}{CX:ES}{k:Nat}{ps ks:qai}{sp:Sp}{E:XK}{m:Str}{pos Za:Pos}{es:qap}{kws:List Keyword}{te ta:TE}{t tk:TA}{nm:Option Str}
variable{g:qag->qag->qag}{gV:List V->List V->List V}
end
structure az(N P:qai)(sc:Scope):Prop where
 kind:sc.kind=.function
 co:sc.isCoroutine=false
 gen:sc.isGenerator=false
 nd:N.Nodup
 pre:N.take P.length=P
 par:∀x∈P,sc.names.lookup x=some .local\/sc.names.lookup x=some .cell
 Ph:∀y∈sc.names,y.2≠.free
theorem gg{N P:qai}(a:sc.kind=.function:=by rfl)(b:sc.isCoroutine=false:=by rfl)(c:sc.isGenerator=false:=by rfl)(d:N.Nodup:=by decide +kernel)(e:N.take P.length=P:=by rfl)(f:∀x∈P,sc.names.lookup x=some .local\/sc.names.lookup x=some .cell:=by decide +kernel)(g:∀y∈sc.names,y.2≠.free:=by decide +kernel):az N P sc:=⟨a,b,c,d,e,f,g⟩
theorem sW{kindOf:Str->Option NameKind}{x:Str}:∀{binds:List (Str×Value)}{m:qae},(∀v,(x,v)∉binds)->bindL kindOf binds m x=m x
 |[],_,_=>rfl
 | (n,v)::r,m,h=>by
  unfold bindL;rw[sW λw hw=>h w (gG _ hw)];split;have:x≠n:=by rintro rfl;exact h v dw
  simp[this];rfl
theorem sX{kindOf:Str->Option NameKind}{x:Str}:∀{binds:List (Str×Value)}{m:qae},(∀v,(x,v)∉binds)->bindC kindOf binds m x=m x
 |[],_,_=>rfl
 | (n,v)::r,m,h=>by
  unfold bindC;rw[sX λw hw=>h w (gG _ hw)];split;rfl;have:x≠n:=by rintro rfl;exact h v dw
  simp[this]
theorem sY{kindOf:Str->Option NameKind}{x:Str}{v:Value}:∀{P:qai}{vs:qag}{i:Nat}{m:qae},P.Nodup->P[i]?=some x->vs[i]?=some v->kindOf x=some .local ->
  bindL kindOf (P.zip vs) m x=some v
 |[],_,_,_,_,h,_,_=>by simp at h
 |_::_,[],_,_,_,_,h,_=>by simp at h
 |p::P,w::vs,0,m,nd,h1,h2,hk=>by simp at h1 h2;subst h1;subst h2;show bindL kindOf ((p,w)::P.zip vs) m p=_;unfold bindL;rw[sW λv hv=>(lx.mp nd).1 (List.of_mem_zip hv).1,if_pos hk];simp
 |p::P,w::vs,i+1,m,nd,h1,h2,hk=>by show bindL kindOf ((p,w)::P.zip vs) m x=_;unfold bindL;exact sY (i:=i) (lx.mp nd).2 (by simpa using h1) (by simpa using h2) hk
theorem sZ{kindOf:Str->Option NameKind}{x:Str}{v:Value}:∀{P:qai}{vs:qag}{i:Nat}{m:qae},P.Nodup->P[i]?=some x->vs[i]?=some v->kindOf x≠some .local ->
  bindC kindOf (P.zip vs) m x=some v
 |[],_,_,_,_,h,_,_=>by simp at h
 |_::_,[],_,_,_,_,h,_=>by simp at h
 |p::P,w::vs,0,m,nd,h1,h2,hk=>by simp at h1 h2;subst h1;subst h2;show bindC kindOf ((p,w)::P.zip vs) m p=_;unfold bindC;rw[sX λv hv=>(lx.mp nd).1 (List.of_mem_zip hv).1,if_neg hk];simp
 |p::P,w::vs,i+1,m,nd,h1,h2,hk=>by show bindC kindOf ((p,w)::P.zip vs) m x=_;unfold bindC;exact sZ (i:=i) (lx.mp nd).2 (by simpa using h1) (by simpa using h2) hk
noncomputable def start(N:qai)(vs:List V):St:=vs.map some++List.replicate (N.length-vs.length) none
noncomputable def gh(CX:ES)(P:Program)(w:World)(K:qaf)(mg:qae)(base:Heap)(N:qai)(qual:Str)(scope:Scope)(f:Addr)(cd:Value)(A:Around)(outer:List Env)(s:Shared)(H:Hp)(E:XK):Cx where
 prog:=P
 w:=w
 K:=K
 mg:=mg
 base:=base
 A:=A.deeper (envOfC qual scope s.heap.objs.size f cd)
 N:=N
 s₀:=s
 H₀:=H
 env:=envOfC qual scope s.heap.objs.size f cd
 outer:=outer
 stack:=envOfC qual scope s.heap.objs.size f cd::outer
 ex:=[]
 calm:=true
 fn:=λ_=>true
 pn:=[]
 xe:=λe s'=>wpAny (model P w) (A.deeper (envOfC qual scope s.heap.objs.size f cd)) (leaving (envOfC qual scope s.heap.objs.size f cd) e) (λ_ UB=>CX outer H s E e UB) (λe' UB=>CX outer H s E e' UB) s'
theorem wX(h:sc.names.lookup x=some .cell):∃c,(cellsFrom n sc.names []).lookup x=some c:=by have q:=PySem.W.cellsFrom_some sc.names n [] (.inl h);exact Option.isSome_iff_exists.mp q
theorem CY{CX:ES}{K:qaf}{mg:qae}{N ps:qai}{scope:Scope}{cd:Value}{outer:List Env}{s s1:Shared}{H:Hp}{E:XK}{us:qag}{vs:List V}(S:az N ps scope)(hd:A.handled=none)(e0:zK P w K mg base A outer s H)(hl:vs.length=ps.length)(r:Vals vs us)(x:InCallC s s.heap.objs.size (bindL (envOfC qual scope s.heap.objs.size f cd).kindOf (ps.zip us) λ_=>none) (cellsFrom (s.heap.objs.size+1) scope.names []) (bindC (envOfC qual scope s.heap.objs.size f cd).kindOf (ps.zip us) λ_=>none) s1) :
  Inv (gh CX P w K mg base N qual scope f cd A outer s H E) [] (start N vs) H s1:=by
 have ic:ps.length<=N.length:=by have:=congrArg List.length S.pre;rw[Jg] at this;omega
 obtain⟨h1,tk,rfl,hk⟩:=x.done;have UC:∀b:Addr,b∉(gh CX P w K mg base N qual scope f cd A outer s H E).ex:=λb z=>absurd (show b∈([]:qah) from z) (by simp);refine⟨⟨e0.mod,S.kind,rfl,rfl,c3 _,λy z c h1 h2=>?_,λy hy=>?_,λy c _ h=>?_,λ_=>hd,Around.frames_deeper e0.frames,.inr ⟨rfl,rfl⟩,λb z=>absurd z (UC b),e0.bs,e0.EO,λb _ _=>UC b,λb z=>absurd z (UC b),e0.lN,e0.JI⟩,
  rfl,e0.bare,Un.kept hk,⟨_,x.toInCall.ns,λi y v h1 h2 h3=>?_⟩,λy c h=>⟨_,x.cell y c h⟩,e0.cn.fresh (c3 _),λy c h=>?_,λp hp=>absurd (show p∈([]:qaa) from hp) (by simp),e0.cn.kept hk,?_⟩
 exact name_of_addr x.apart (Nb h1) (Nb h2);have hy:scope.names.lookup y=some .cell\/scope.names.lookup y=some .free:=hy;obtain hy|hy:=hy
 exact wX hy;exact absurd rfl (S.Ph _ (Nb hy));exact Nat.le_of_lt (x.above y c (Nb h));have hi:i<vs.length:=by unfold start at h2;by_cases hi:i<vs.length;exact hi;rw[oI (by simpa using hi)] at h2;rw[CA] at h2;split at h2<;>cases h2
 have ha:vs[i]?=some v:=by
  unfold start at h2;rw[mY (by simpa using hi),gJ] at h2;cases e:vs[i]? with
  |none=>rw[e] at h2;cases h2
  |some a=>rw[e] at h2;cases h2;rfl
 obtain⟨u,hu,rv⟩:=r.get ha;have hp:ps[i]?=some y:=by rw[<- S.pre,List.getElem?_take_of_lt (by omega)];exact h1
 have ndP:ps.Nodup:=by rw[<- S.pre];exact S.nd.sublist (List.take_sublist _ _)
 refine⟨u,rv,?_⟩;rcases S.par y (gH hp) with k|k
 exact .inl ⟨k,sY ndP hp hu k⟩;obtain⟨c,e⟩:=wX (n:=s.heap.objs.size+1) k;refine .inr ⟨.inl k,c,e,?_⟩;have q:=x.cell y c e;rw[sZ ndP hp hu (by show scope.names.lookup y≠_;rw[k];decide)] at q;exact q;exact e0.cn.fresh (Nat.le_of_lt (x.above y c (Nb h)));unfold start;show _=N.length;rw[nX,cV,zi];omega
theorem Nt{CX:ES}{K:qaf}{mg:qae}{k:Nat}{name:Str}{params:Arguments}{body:qaq}{scope:Scope}{dV kV doc pm bA ct oc:Value}{an od:qar}{CZ:Array (Option Value)}{N ps:qai}{sp:Sp}(lk:K.lookup f=some ⟨oc,od,.func (PySem.W.fnOf name qual params body scope dV kV doc pm an bA ct),CZ⟩)(gn:PySem.W.codeIn K bA qual=true)(S:az N ps scope)(len:∀vs H Q E,sp vs H Q E->vs.length=ps.length)(dN:∀(A:Around) (outer:List Env) (s:Shared) (H:Hp) (vs:List V) (Q:VK) (E:XK),bz k (A.deeper (envOfC qual scope s.heap.objs.size f bA))->sp vs H Q E ->
    ∃t,iZ (gh CX P w K mg base N qual scope f bA A outer s H E) body t/\t {nx:=λ_ H'=>Q .aQ H',rt:=Q} (start N vs) H) :
  cA P w K mg base CX (k+1) f (PySem.W.fnOf name qual params body scope dV kV doc pm an bA ct) ps sp:=by
 refine⟨len,λA outer s H args us vs Q E hr e0 hb r Jo=>?_⟩;have hl:=len _ _ _ _ Jo;have KX:K.In s.heap:=e0.mod.S9.keeps λb o e=>(e0.bs b o e).1;have lim:s.heap.NoLimit:=e0.mod.nolimit.keeps λb o e=>(e0.bs b o e).1;have UD:∀y∈ps.zip us,scope.names.lookup y.1=some .local\/(scope.names.lookup y.1=some .cell/\((cellsFrom (s.heap.objs.size+1) scope.names []).lookup y.1).isSome=true):=λ⟨n,v⟩ hy=>by
  rcases S.par n (List.of_mem_zip hy).1 with q|q
  exact .inl q;exact .inr ⟨q,PySem.W.cellsFrom_some _ _ _ (.inl q)⟩
 refine codeAny_call_function hr.depth (KX _ _ lk) rfl S.co S.gen rfl (PySem.W.codeRec_of KX gn) (hb _ _ _ _ ?_);refine wpAny_newFunctionEnv_cells S.kind UD λenv he s1 x=>?_;subst he;refine⟨lim.keeps x.toInCall.keep,codeAny_func ?_⟩;obtain⟨t,ht,hq⟩:=dN A outer s H vs Q E (hr.deeper _) Jo;have I:Inv (gh CX P w K mg base N qual scope f bA A outer s H E) [] (start N vs) H s1:=CY S hr.hd e0 hl r x;refine wpAny_mono (ht [] s1 (start N vs) H _ I hq) (λfl s' hs=>?_) λe s' hs=>hs;have fin:∀{σ':St}{H':Hp}{v:V}{u:Value},Inv (gh CX P w K mg base N qual scope f bA A outer s H E) [] σ' H' s'->RelV v u->Q v H'->CE outer P w H s Q u s' :=
  λ{σ' H' v u} J rv q=>⟨v,H',J.os,J.bare,J.base,J.cn,rv,q⟩
 cases fl with
 |ret u=>obtain⟨v,σ',H',J,rv,q⟩:=hs;exact fin J rv q
 |next=>obtain⟨σ',H',J,q⟩:=hs;exact fin (v:=V.aQ) (u:=Value.none) J rfl q
 |brk=>obtain⟨_,_,_,q⟩:=hs;exact False.elim q
 |cont=>obtain⟨_,_,_,q⟩:=hs;exact False.elim q
section
variable{X:Cx}{pos:Pos}{es:qap}{t:TA}{id T:String}{r:List V->Hp->VK->Prop}
def tCB(r:List V->Hp->VK->Prop)(t:TA):TE:=λσ H Q=>t σ H λvs H1=>r vs H1 Q
theorem pG(hc:eX X (.builtin id) r)(hg:Gl X x)(hm:X.mg x=none)(hv:bootBuiltins x=some (.builtin id))(ha:PA X (e::es) t)(hn:x≠"__name__":=by decide)(m8:ie x:=by decide)(he:starEach (e::es) X.env=(false,eval e X.env)::starEach es X.env:=by rfl)(ic:(backTo pos (starEach es X.env)).any (·.1)=false:=by rfl):PE X (.Call (.Name x p) (e::es) [] pos) (tCB r t):=by intro pins s σ H Q I h;refine wpAny_Call_Name_kw (kG I hg hm hv ?_ hn m8);exact PyProof.Rows.callWith_builtin1 (bZ (ha pos pins s σ H _ I h) λus s1 ⟨vs,H1,I1,r1,q1⟩=>hc pins s1 σ H1 vs us Q I1 r1 q1) he ic
theorem C0(hc:eX X (.type T) r)(hg:Gl X x)(hm:X.mg x=none)(hv:bootBuiltins x=some (.type T))(ha:PA X (e::es) t)(hn:x≠"__name__":=by decide)(m8:ie x:=by decide)(he:starEach (e::es) X.env=(false,eval e X.env)::starEach es X.env:=by rfl)(ic:(backTo pos (starEach es X.env)).any (·.1)=false:=by rfl):PE X (.Call (.Name x p) (e::es) [] pos) (tCB r t):=by intro pins s σ H Q I h;refine wpAny_Call_Name_kw (kG I hg hm hv ?_ hn m8);exact TK (bZ (ha pos pins s σ H _ I h) λus s1 ⟨vs,H1,I1,r1,q1⟩=>hc pins s1 σ H1 vs us Q I1 r1 q1) he ic
end
end L2
variable{X:L2.Cx}{K:qaf}{H H':L2.Hp}{σ:L2.St}{v:L2.V}{E Q:qad}{pins:qaa}{mg:qae}{ps ys:qai}{es:qap}{fp Ox:qah}{ta te:L2.TE}{us:qag}{sp:L2.Sp}{is:qao}{ks:List L2.Key}{a_:List (L2.Key×L2.V)}
abbrev qac:=List (PySem.Str×L2.V)
abbrev qak:=List L2.V
namespace HT
open PySem PyProof.Rows
section
open PySem.SeqAt
open PySem.AutoSeq1 (wpAny_loadPart')
open PySem.MeetsSeq PySem.MeetsSeq2 PySem.MeetsSeq3
end
section
variable{s:Shared}
theorem JX{t b:Addr}{vs ws:qag}(ht:IsTup s.heap t vs.toArray)(hb:IsTup s.heap b ws.toArray)(hv:vs≠[])(h1:ws=[]->Q (.ref t) s)(h2:ws≠[]->Q (.ref s.heap.objs.size) {s with heap:=s.heap.push {cls:=.type "tuple",data:=.seq (vs++ws).toArray} })(hsz:vs.length+ws.length<=sizeLine):wpAny (model prog w) A (binaryOp .Add (.ref t) (.ref b)) Q E s:=by
 obtain⟨⟨cls,dd,data,sl⟩,ho,hc,n,hd⟩:=id ht;obtain⟨⟨UE,Ta,data2,Tb⟩,C1,Nu,n2,hd2⟩:=id hb;simp only at hc hd Nu hd2;subst hc hd Nu hd2;have e:vs.toArray++ws.toArray=(vs++ws).toArray:=by simp
 by_cases hw:ws=[];exact concat_meets ⟨_,ho,rfl⟩ ⟨_,C1,rfl⟩ noFill_tuple_add seq_tuple_add YB Yz (Yy _ _)
  (tuple_addW1 t b vs.toArray ws.toArray n n2 dd Ta sl Tb (by simpa using hv) (by simp[hw])) ⟨ho,C1,h1 hw⟩
 refine concat_meets ⟨_,ho,rfl⟩ ⟨_,C1,rfl⟩ noFill_tuple_add seq_tuple_add YB Yz (Yy _ _)
  (tuple_addW2 t b vs.toArray ws.toArray n n2 dd Ta sl Tb (by simpa using hv) (by simpa using hw) (by rw[iX,iX];exact hsz)) ⟨ho,C1,?_⟩
 rw[e];exact h2 hw
noncomputable def d_(n d:Nat):Option Int->Nat
 |none=>d
 |some v=>if v<0 then (v+(n:Int)).toNat else min v.toNat n
theorem Fh(n d:Nat):d_ n d none=d:=rfl
theorem j3(n d k:Nat):d_ n d (some (k:Int))=min k n:=by show (if (k:Int)<0 then ((k:Int)+(n:Int)).toNat else min (k:Int).toNat n)=min k n;rw[if_neg (by omega),wy]
theorem Pj(n d:Nat)(hd:d<=n)(o:Option Int):d_ n d o<=n:=by
 cases o with
 |none=>exact hd
 |some v=>show (if v<0 then (v+(n:Int)).toNat else min v.toNat n)<=n;by_cases hv:v<0;rw[if_pos hv];omega;rw[if_neg hv];exact Nat.min_le_right _ _
theorem Bq(v:Int)(n d:Nat):(if v<0 then max (v+(n:Int)) 0 else min v (n:Int))=((d_ n d (some v):Nat):Int):=by show (if v<0 then max (v+(n:Int)) 0 else min v (n:Int))=(((if v<0 then (v+(n:Int)).toNat else min v.toNat n):Nat):Int);by_cases hv:v<0;simp only[if_pos hv];omega;simp only[if_neg hv];omega
theorem zM(lo hi:Option Int)(n:Nat):Builtin.Slice.sliceAdjust lo hi 1 (n:Int)=(((d_ n 0 lo:Nat):Int),((d_ n n hi:Nat):Int)):=by
 have h1:¬ ((1:Int)<0):=by omega
 unfold Builtin.Slice.sliceAdjust;simp only[h1,if_false];refine Prod.ext ?_ ?_;cases lo with
 |none=>rfl
 |some v=>exact Bq v n 0
 cases hi with
 |none=>rfl
 |some v=>exact Bq v n n
theorem zN(i j:Nat):Builtin.Slice.slicePlaces (i:Int) (j:Int) 1=j-i:=by
 unfold Builtin.Slice.slicePlaces;have h1:(1:Int) > 0:=by omega
 simp only[h1,if_true,Int.ediv_one];split<;>omega
theorem pH{v:Value}{o:Option Int}{Q:Option Int->Shared->Prop}(p:IsPart v o)(h:Q o s):wpAny (model prog w) A (Builtin.Slice.slicePartIndex v) Q E s:=by
 cases p with
 |none=>exact slicePart_none h
 |int i t=>exact slicePart_int h
theorem m9{sl:Addr}{vl vu:Value}{lo hi:Option Int}{Q:Int×Int×Nat->Shared->Prop}(hs:s.heap.IsSliceOf sl vl vu .none)(pl:IsPart vl lo)(pu:IsPart vu hi)(h:Q (((d_ n 0 lo:Nat):Int),1,d_ n n hi-d_ n 0 lo) s):wpAny (model prog w) A (Builtin.Slice.sliceApplied (.ref sl) (pure (n:Int))) Q E s:=by obtain⟨os,UG,hcs,XN⟩:=id hs;unfold Builtin.Slice.sliceApplied Builtin.Slice.sliceFields;refine wpAny_bind (wpAny_bind (wpAny_field UG XN (x:=vl) rfl (wpAny_bind (wpAny_field UG XN (x:=vu) rfl (wpAny_bind (wpAny_field UG XN (x:=.none) rfl (wpAny_pure ?_)))))));refine wpAny_bind (slicePart_none ?_);show wpAny _ _ (if ((1:Int)==0)=true then _ else _) _ _ s;rw[if_neg (by decide)];refine wpAny_bind (pH pl (wpAny_bind (pH pu (wpAny_bind (wpAny_pure ?_)))));show wpAny _ _ (match Builtin.Slice.sliceAdjust lo hi 1 (n:Int) with|(lo,hi)=>pure (lo,(1:Int),Builtin.Slice.slicePlaces lo hi 1)) _ _ s;rw[zM lo hi n];show wpAny _ _ (pure (((d_ n 0 lo:Nat):Int),(1:Int),Builtin.Slice.slicePlaces ((d_ n 0 lo:Nat):Int) ((d_ n n hi:Nat):Int) 1)) _ _ s;rw[zN];exact wpAny_pure h
theorem Fj(xs:Array Value)(i k:Nat):((List.range k).filterMap λ(m:Nat)=>xs[((i:Int)+(m:Int) * 1).toNat]?).toArray=((xs.toList.drop i).take k).toArray:=by
 have e:(λ(m:Nat)=>xs[((i:Int)+(m:Int) * 1).toNat]?)=λm=>xs[i+m]?:=by
  funext m;have:((i:Int)+(m:Int) * 1).toNat=i+m:=by omega
  rw[this]
 rw[e];have:=pick_run xs i k;rw[List.filterMap_map] at this;have e2:((λx=>xs[x]?) ∘ λx=>i+x)=λm=>xs[i+m]?:=rfl;rw[e2] at this;rw[this]
theorem lV{t sl:Addr}{items:Array Value}{vl vu:Value}{lo hi:Option Int}(ht:IsTup s.heap t items)(hs:s.heap.IsSliceOf sl vl vu .none)(pl:IsPart vl lo)(pu:IsPart vu hi)(hw:¬ (d_ items.size 0 lo=0/\d_ items.size items.size hi=items.size))(h:Q (.ref s.heap.objs.size) {s with heap:=s.heap.push {cls:=.type "tuple",data:=.seq ((items.toList.drop (d_ items.size 0 lo)).take (d_ items.size items.size hi-d_ items.size 0 lo)).toArray} })(hsz:items.size<=sizeLine):wpAny (model prog w) A (getItem (.ref t) (.ref sl)) Q E s:=by
 have Br:sizeOk (.seq ((items.toList.drop (d_ items.size 0 lo)).take (d_ items.size items.size hi-d_ items.size 0 lo)).toArray):=by show ((items.toList.drop (d_ items.size 0 lo)).take (d_ items.size items.size hi-d_ items.size 0 lo)).toArray.size<=sizeLine;rw[iX,Jg,T2,Na];omega
 have hj:d_ items.size items.size hi<=items.size:=Pj _ _ (c3 _) hi;obtain⟨os,UG,hcs,XN⟩:=id hs;have hTs:s.TypeIs (.ref sl) "slice":=⟨os,UG,hcs⟩;unfold getItem
 try with_reducible refine wpAny_holding ?_
 first|refine wpAny_bind (wpAny_pure ?_)|skip
 refine wpAny_bind (wpAny_sequenceKey ht.typeIs (by decide) ?_);refine wpAny_bind (wpAny_callSpecial?_slot (name:=Str.ofString "__getitem__") ht.typeIs Yv
  (wpAny_call_entry Yv ht.typeIs entry_tuple_getitem ?_ (args_tuple_getitem _ _)))
 show wpAny _ _ (Builtin.Tuple.tupleItemsOf (.ref t) >>= _) _ _ s;refine wpAny_bind (tupleItemsOf_ ht ?_);refine wpAny_bind (wpAny_typeOf hTs ?_);rw[if_pos (by decide)];refine wpAny_bind (m9 hs pl pu ?_);have hno:¬ ((((d_ items.size 0 lo:Nat):Int)==0 && (1:Int)==1 && (d_ items.size items.size hi-d_ items.size 0 lo)==items.size)=true):=by intro q;rw[lL,lL] at q;have q1:((d_ items.size 0 lo:Nat):Int)=0:=eq_of_beq q.1.1;have q2:d_ items.size items.size hi-d_ items.size 0 lo=items.size:=eq_of_beq q.2;exact hw ⟨by omega,by omega⟩
 show wpAny _ _ (if (((d_ items.size 0 lo:Nat):Int)==0 && (1:Int)==1 && (d_ items.size items.size hi-d_ items.size 0 lo)==items.size)=true then _ else _) _ _ s;rw[if_neg hno,Fj]
 first
  |exact wpAny_bind (m:=Builtin.Tuple.tupleExact _) (wpAny_newObj_type (wpAny_pure ⟨_,rfl,wpAny_pure h⟩) Br)
  |exact wpAny_bind (m:=Builtin.Tuple.tupleExact _) (wpAny_newObj_type (wpAny_bind (wpAny_pure (wpAny_pure ⟨_,rfl,wpAny_pure h⟩))) Br)
  |exact wpAny_bind (wpAny_bind (m:=Builtin.Tuple.tupleExact _) (wpAny_newObj_type (wpAny_pure (wpAny_pure ⟨_,rfl,wpAny_pure h⟩)) Br))
  |exact wpAny_bind (wpAny_bind (m:=Builtin.Tuple.tupleExact _) (wpAny_newObj_type (wpAny_pure ⟨_,rfl,wpAny_pure h⟩) Br))
end
end HT
variable{vs xs:qak}
namespace L2
open PySem PySem.Spec PyProof.Rows
abbrev TO:=St->Hp->(Option Int->Hp->Prop)->Prop
def PO(X:Cx)(e:Option Expr)(t:TO):Prop :=
 ∀(pins:qaa)(s:Shared)(σ:St)(H:Hp)(Q:Option Int->Hp->Prop),Inv X pins σ H s->t σ H Q ->
  wpAny (model X.prog X.w) X.A (evalPart e X.env) (λu s'=>∃o H',Inv X pins σ H' s'/\IsPart u o/\Q o H') X.xe s
def JY:TO:=λ_ H Q=>Q none H
def UH(t:TE):TO:=λσ H Q=>t σ H λx H1=>∃i,x=.int i/\Q (some i) H1
section
variable{lo hi:Option Expr}{tl th:TO}{pos:Pos}
theorem JZ:PO X none JY:=by intro pins s σ H Q I h;rw[evalPart_none];exact wpAny_pure ⟨none,H,I,.none,h⟩
theorem J_(h:PE X e te):PO X (some e) (UH te):=by intro pins s σ H Q I hw;rw[evalPart_some];refine bZ (h pins s σ H _ I hw) λu s1 ⟨x,H1,I1,r1,q1⟩=>?_;obtain⟨i,rfl,q⟩:=q1;obtain⟨t,rfl⟩:=r1;exact⟨some i,H1,I1,.int i t,q⟩
def Fl(X:Cx)(r:V->Option Int->Option Int->Hp->VK->Prop):Prop :=
 ∀(pins:qaa)(s:Shared)(σ:St)(H:Hp)(x:V)(v vl vu:Value)(lo hi:Option Int)(sl:Addr)(Q:VK),Inv X pins σ H s->RelV x v->s.heap.IsSliceOf sl vl vu .none->IsPart vl lo->IsPart vu hi->r x lo hi H Q ->
  ∃T id,typeLookup (.type T) "__getitem__"=pure (some (.builtin id))/\s.TypeIs v T/\wpAny (model X.prog X.w) X.A (getItem v (.ref sl)) (EP X pins σ Q) X.xe s
theorem Fl.or{r r':V->Option Int->Option Int->Hp->VK->Prop}(h:Fl X r)(h':Fl X r'):Fl X (λx lo hi H Q=>r x lo hi H Q\/r' x lo hi H Q):=by
 intro pins s σ H x v vl vu lo hi sl Q I rx hs pl pu q;obtain q|q:=q
 exact h pins s σ H x v vl vu lo hi sl Q I rx hs pl pu q;exact h' pins s σ H x v vl vu lo hi sl Q I rx hs pl pu q
def tSl(r:V->Option Int->Option Int->Hp->VK->Prop)(te:TE)(tl th:TO):TE:=λσ H Q=>te σ H λx H1=>tl σ H1 λl H2=>th σ H2 λu H3=>r x l u H3 Q
theorem Fm{r:V->Option Int->Option Int->Hp->VK->Prop}(hr:Fl X r)(he:PE X e te)(hl:PO X lo tl)(hu:PO X hi th):PE X (.Subscript e (.Slice lo hi none p2) pos) (tSl r te tl th):=by intro pins s σ H Q I h;refine Subscript_ (bZ (he pins s σ H _ I h) λv s1 ⟨x,H1,I1,r1,q1⟩=>?_);refine wpAny_Slice (bZ (hl pins s1 σ H1 _ I1 q1) λvl s2 ⟨l,H2,I2,pl,q2⟩=>bZ (hu pins s2 σ H2 _ I2 q2) λvu s3 ⟨u,H3,I3,pu,q3⟩=>?_);rw[evalPart_none];refine wpAny_pure ?_;have I4:Inv X pins σ H3 {s3 with heap:=s3.heap.push {cls:=.type "slice",data:=.fields #[vl,vu,.none]} }:=I3.kept (t':=s3.toks) λb ob q=>mV _ q;obtain⟨T,id,hT,ht,hg⟩:=hr pins {s3 with heap:=s3.heap.push {cls:=.type "slice",data:=.fields #[vl,vu,.none]} } σ H3 x v vl vu l u s3.heap.objs.size Q I4 r1 (Heap.IsSliceOf.new ..) pl pu q3;show wpAny (model X.prog X.w) X.A (subscriptTail e (.Slice lo hi none p2) v (.ref s3.heap.objs.size)) (EP X pins σ Q) X.xe {s3 with heap:=s3.heap.push {cls:=.type "slice",data:=.fields #[vl,vu,.none]} };exact tail_any (ops:=[.ref s3.heap.objs.size,v]) ht hT hg (by with_unfolding_all rfl)
noncomputable def wY(xs:qak)(lo hi:Option Int):qak:=(xs.drop (HT.d_ xs.length 0 lo)).take (HT.d_ xs.length xs.length hi-HT.d_ xs.length 0 lo)
theorem oe(xs:qak)(lo hi:Option Int):(wY xs lo hi).length<=xs.length:=by unfold wY;rw[Jg,T2];omega
def UI(K:qaf):V->Option Int->Option Int->Hp->VK->Prop:=λx lo hi H Q=>∃a xs,x=.ref a/\fg K H a xs /\
 ¬ (HT.d_ xs.length 0 lo=0/\HT.d_ xs.length xs.length hi=xs.length)/\∀p,H p=none->Q (.ref p) (upd H p (.tup (wY xs lo hi)))
theorem Pk:Fl X (UI X.K):=by
 intro pins s σ H x v vl vu lo hi sl Q I rx hs pl pu h;obtain⟨a,xs,rfl,hx,hw,q⟩:=h;cases rx;obtain⟨a5,r,ht,hz⟩:=I.tuple hx;have hlen:a5.toArray.size=xs.length:=by rw[iX];exact r.length.symm
 refine⟨"tuple",_,Yv.lookup,ht.typeIs,?_⟩;refine HT.lV ht hs pl pu (by rw[hlen];exact hw) ?_ (by rw[hlen];exact hz);rw[hlen];refine⟨.ref s.heap.objs.size,_,I.laid (t':=s.toks) (o:=.tup (wY xs lo hi)) (λb ob q=>mV _ q) (c3 _) ?_,rfl,q _ (I.cn.fresh (c3 _))⟩;exact⟨ly (oe xs lo hi) hz,_,(r.drop (HT.d_ xs.length 0 lo)).take (HT.d_ xs.length xs.length hi-HT.d_ xs.length 0 lo),IsTup.new _ _⟩
theorem Vals.j4(r:Vals xs us):us=[]↔xs=[]:=by
 cases r with
 |_=>simp
end
noncomputable def ux(n:Nat)(i:Int):Option Nat:=if 0<=i then (if i<n then some i.toNat else none) else if -(n:Int)<=i then some (i+n).toNat else none
noncomputable def jc{α:Type}(xs:List α)(i:Int):Option α:=(ux xs.length i).bind λj=>xs[j]?
theorem Bs{i:Int}(h:ux n i=some j):seqIndex? i n=some j/\j<n/\-(n:Int)<=i/\i<n:=by unfold ux at h;by_cases h0:0<=i;rw[if_pos h0] at h;by_cases h1:i<n;rw[if_pos h1] at h;have e:i.toNat=j:=Option.some.inj h;exact⟨by rw[seqIndex_of h0 h1,e],by omega,by omega,h1⟩;rw[if_neg h1] at h;cases h;rw[if_neg h0] at h;by_cases h1 : -(n:Int)<=i;rw[if_pos h1] at h;have e:(i+n).toNat=j:=Option.some.inj h;exact⟨by rw[seqIndex_neg (by omega) h1,e],by omega,h1,by omega⟩;rw[if_neg h1] at h;cases h
theorem uy{xs:List α}{i:Int}{v:α}(h:jc xs i=some v):∃j,seqIndex? i xs.length=some j/\xs[j]?=some v/\j<xs.length/\-(xs.length:Int)<=i/\i<xs.length:=by
 unfold jc at h;cases e:ux xs.length i with
 |none=>rw[e] at h;cases h
 |some j=>rw[e] at h;obtain⟨h1,h2,h3,h4⟩:=Bs e;exact⟨j,h1,h,h2,h3,h4⟩
theorem aj{xs:List α}{v:α}(h:xs[j]?=some v):jc xs (j:Int)=some v:=by
 have hj:j<xs.length:=(dS.mp h).1;have e:ux xs.length (j:Int)=some j:=by unfold ux;rw[if_pos (by omega),if_pos (by omega)];simp
 unfold jc;rw[e];exact h
theorem jk(xs:List α)(v:α):jc (xs++[v]) (-1)=some v:=by
 have hl:(xs++[v]).length=xs.length+1:=by simp
 have e:ux (xs++[v]).length (-1)=some xs.length:=by
  unfold ux;rw[hl,if_neg (by decide),if_pos (by omega)]
  congr 1
  omega
 unfold jc;rw[e];show (xs++[v])[xs.length]?=some v;simp
def uz(b:Expr):Prop:=∀o i,subscripted b false o i=operate [o,i] (getItem o i)
def Ka(X:Cx)(r:R2):Prop :=
 ∀(value slice:Expr)(pins:qaa)(s:Shared)(σ:St)(H:Hp)(x y:V)(v u:Value)(Q:VK),Inv X pins σ H s->RelV x v->RelV y u->r x y H Q ->
  subscripted slice false v u=operate [v,u] (getItem v u)->wpAny (model X.prog X.w) X.A (subscriptTail value slice v u) (EP X pins σ Q) X.xe s
def Nv(X:Cx)(id:String)(r:V->qak->Hp->VK->Prop):Prop :=
 ∀(pins:qaa)(s:Shared)(σ:St)(H:Hp)(x:V)(xs:qak)(v:Value)(us:qag)(Q:VK),Inv X pins σ H s->RelV x v->Vals xs us->r x xs H Q ->
  wpAny (model X.prog X.w) X.A (call (.builtin id) (v::us)) (EP X pins σ Q) X.xe s
section
variable{a:Expr}{tb:TE}{pos:Pos}
theorem Ka.or{r r':R2}(h:Ka X r)(h':Ka X r'):Ka X (λx y H Q=>r x y H Q\/r' x y H Q):=by
 intro value slice pins s σ H x y v u Q I rx ry q hs;obtain q|q:=q
 exact h value slice pins s σ H x y v u Q I rx ry q hs;exact h' value slice pins s σ H x y v u Q I rx ry q hs
theorem Nw{r:R2}(hr:Ka X r)(ha:PE X a ta)(hb:PE X b tb)(hs:uz b):PE X (.Subscript a b pos) (Up r ta tb):=by intro pins s σ H Q I h;exact Subscript_ (O8 ha hb I h λv u s2 x y H2 I2 rx ry q=>hr a b pins s2 σ H2 x y v u Q I2 rx ry q (hs _ _))
noncomputable def UJ(K:qaf):R2:=λx y H Q=>∃p xs i v,x=.ref p/\y=.int i/\ia K H p xs/\jc xs i=some v/\Q v H
noncomputable def UK(K:qaf):R2:=λx y H Q=>∃p xs i v,x=.ref p/\y=.int i/\fg K H p xs/\jc xs i=some v/\Q v H
noncomputable def UL:R2:=λx y H Q=>∃z i c,x=.str z/\y=.int i/\z.length<=sizeLine/\jc z.cps.toList i=some c/\Q (.str ⟨#[c]⟩) H
theorem Bt:Ka X (UJ X.K):=by
 intro value slice pins s σ H x y v u Q I rx ry h hs;obtain⟨p,xs,i,z,rfl,rfl,hq,he,q⟩:=h;cases rx;obtain⟨t,rfl⟩:=ry;obtain⟨a5,r,pl,hz⟩:=I.list hq;obtain⟨j,h1,h2,h3,h4,h5⟩:=uy he;obtain⟨w,ew,rw'⟩:=r.get h2;have hl:=r.length;have hn:=m6;have fin:EP X pins σ Q w s:=⟨z,H,I,rw',q⟩;by_cases h0:0<=i;have hj:i.toNat=j:=by rw[seqIndex_of h0 h5] at h1;exact Option.some.inj h1
 exact item_listR pl.isList h0 (by omega) (by rw[hj];simpa using ew) fin hs;have hj:(i+(a5.toArray.size:Int)).toNat=j:=by rw[seqIndex_neg (by omega) h4] at h1;rw[iX,<- hl];exact Option.some.inj h1
 exact subscriptTail_builtinR (x:=w) pl.isList.typeIs slot_list_getitem.lookup
  (wpAny_getItem_list_neg (Q:=λr s'=>r=w/\EP X pins σ Q r s') pl.isList (by omega) (by rw[iX]<;>omega) (by omega) (by rw[hj];simpa using ew) ⟨rfl,fin⟩) hs
theorem Pl:Ka X (UK X.K):=by
 intro value slice pins s σ H x y v u Q I rx ry h hs;obtain⟨p,xs,i,z,rfl,rfl,hq,he,q⟩:=h;cases rx;obtain⟨t,rfl⟩:=ry;obtain⟨a5,r,pl,hz⟩:=I.tuple hq;obtain⟨j,h1,h2,h3,h4,h5⟩:=uy he;obtain⟨w,ew,rw'⟩:=r.get h2;have hl:=r.length;have hn:=m6;have fin:EP X pins σ Q w s:=⟨z,H,I,rw',q⟩;exact subscriptTail_builtinR (x:=w) pl.typeIs slot_tuple_getitem.lookup
  (getItem_tuple (j:=j) (Q:=λr s'=>r=w/\EP X pins σ Q r s') pl (by omega) (by omega) (by rw[iX,<- hl];exact h1) (by simpa using ew) ⟨rfl,fin⟩) hs
theorem Pm:Ka X UL:=by
 intro value slice pins s σ H x y v u Q I rx ry h hs;obtain⟨z,i,c,rfl,rfl,hz,he,q⟩:=h;obtain⟨t,rfl⟩:=rx;obtain⟨t',rfl⟩:=ry;obtain⟨j,h1,h2,h3,h4,h5⟩:=uy he;have hl:z.cps.toList.length=z.length:=by simp[Str.length]
 rw[hl] at h1 h4 h5;have hn:=m6;exact tail_any (typeIs_str s z t) slot_str_getitem.lookup (getItem_str (c:=c) (by have e1:decide (i < -(2 ^ 63:Int))=false:=decide_eq_false (by omega);have e2:decide (i ≥ 2 ^ 63)=false:=decide_eq_false (by omega);rw[e1,e2,Bool.or_false]) (by rw[h1];simpa using h2) ⟨.str ⟨#[c]⟩,H,I.tok _,⟨_,rfl⟩,q⟩) hs
noncomputable def rIx(K:qaf):R2:=λx y H Q=>UJ K x y H Q\/UK K x y H Q\/UL x y H Q
theorem Pn:Ka X (rIx X.K):=Bt.or (Pl.or Pm)
theorem zP(a5:qag)(n j:Nat)(u:Value):Obj.mapSeq (·.setIfInBounds j u) {cls:=.type "list",data:=.seq a5.toArray n}={cls:=.type "list",data:=.seq (a5.set j u).toArray n}:=by simp[Obj.mapSeq]
theorem Inv.lst{s:Shared}{p:Addr}(I:Inv X pins σ H s)(h:H p=some (.lst xs)) :
  ∃(a5:qag)(n:Nat),Vals xs a5/\s.heap.get? p=some {cls:=.type "list",data:=.seq a5.toArray n}/\xs.length<=sizeLine:=by
 obtain⟨z,a5,n,r,e⟩:=I.cn p _ h;exact⟨a5,n,r,e,z⟩
theorem Inv.Po{s:Shared}{p:Addr}{ys:qak}{a5 its':qag}{n':Nat}{f:Obj->Obj}(I:Inv X pins σ H s)(h:H p=some (.lst xs))(ho:s.heap.get? p=some {cls:=.type "list",data:=.seq a5.toArray n})(hf:f {cls:=.type "list",data:=.seq a5.toArray n}={cls:=.type "list",data:=.seq its'.toArray n'})(r:Vals ys its')(hz:ys.length<=sizeLine)(t:Nat) :
  Inv X pins σ (upd H p (.lst ys)) {s with heap:=s.heap.update p f,toks:=t}:=by
 have e:(s.heap.update p f).get? p=some {cls:=.type "list",data:=.seq its'.toArray n'}:=by rw[Heap.get?_update_self f ho (by rw[hf]<;>rfl),hf]
 refine I.write (x:=p) (e:=p) (by rw[h];trivial) (.inl rfl) (λb u hb q=>(Heap.get?_update_other _ _ (Ne.symm hb)).trans q) ⟨_,e⟩ ?_;exact⟨hz,its',n',r,e⟩
def UM:V->V->V->Hp->(Hp->Prop)->Prop:=λo i v H Q=>∃p xs k j,o=.ref p/\i=.int k/\H p=some (.lst xs)/\ux xs.length k=some j/\Q (upd H p (.lst (xs.set j v)))
theorem set_list:Ug X UM:=by
 intro pins s σ H o i v ov iv u Q I ro ri rv h;obtain⟨p,xs,k,j,rfl,rfl,hp,hj,q⟩:=h;cases ro;obtain⟨t,rfl⟩:=ri;obtain⟨a5,n,r,ho,hz⟩:=I.lst hp;obtain⟨h1,h2,h3,h4⟩:=Bs hj;have hl:=r.length;have hn:=m6;have I':Inv X pins σ (upd H p (.lst (xs.set j v))) {s with heap:=s.heap.update p (Obj.mapSeq (·.setIfInBounds j u))} :=
  I.Po hp ho (zP a5 n j u) (r.set rv j) (by rw[Ji];exact hz) s.toks
 by_cases h0:0<=k;have hk:k.toNat=j:=by rw[seqIndex_of h0 h4] at h1;exact Option.some.inj h1
 exact PySem.W.ki_setAt ho h0 (by omega) (by rw[iX,<- hl];exact h4) (by rw[hk];exact⟨_,I',q⟩);have hk:(k+(a5.toArray.size:Int)).toNat=j:=by rw[seqIndex_neg (by omega) h3] at h1;rw[iX,<- hl];exact Option.some.inj h1
 exact PySem.W.ki_setBack ho (by omega) (by rw[iX,<- hl];exact h3) (by omega) (by rw[hk];exact⟨_,I',q⟩)
theorem uA(lo hi:Option Int)(n:Nat):(sliceBounds lo hi none n).1=((HT.d_ n 0 lo:Nat):Int)/\(sliceBounds lo hi none n).2.1=((HT.d_ n n hi:Nat):Int)/\(sliceBounds lo hi none n).2.2=1:=by
 refine⟨?_,?_,rfl⟩;cases lo with
 |none=>simp[sliceBounds,HT.d_]
 |some i=>simp only[sliceBounds,HT.d_,Option.getD_none,show (1:Int) > 0 by decide,if_true];by_cases h:i<0;simp only[h,if_true]<;>omega;simp only[h,if_false]<;>omega
 cases hi with
 |none=>simp[sliceBounds,HT.d_]
 |some i=>simp only[sliceBounds,HT.d_,Option.getD_none,show (1:Int) > 0 by decide,if_true];by_cases h:i<0;simp only[h,if_true]<;>omega;simp only[h,if_false]<;>omega
theorem rT(a5:qag)(lo hi:Option Int):slicePick a5.toArray lo hi none=((a5.drop (HT.d_ a5.length 0 lo)).take (HT.d_ a5.length a5.length hi-HT.d_ a5.length 0 lo)).toArray:=by obtain⟨h1,h2,h3⟩:=uA lo hi a5.toArray.size;unfold slicePick;rw[h1,h2,h3];simp only[sliceRange_one,pick_run,iX]<;>rfl
def UN(K:qaf):V->Option Int->Option Int->Hp->VK->Prop:=λx lo hi H Q=>∃a xs,x=.ref a/\ia K H a xs/\∀p,H p=none->Q (.ref p) (upd H p (.lst (wY xs lo hi)))
theorem Kb:Fl X (UN X.K):=by intro pins s σ H x v vl vu lo hi sl Q I rx hs pl pu h;obtain⟨a,xs,rfl,hx,q⟩:=h;cases rx;obtain⟨a5,r,ht,hz⟩:=I.list hx;have hlen:=r.length;refine⟨"list",_,slot_list_getitem.lookup,ht.isList.typeIs,?_⟩;refine wpAny_getItem_list_slice ht.isList hs pl pu .none (by simp) ?_ (by rw[iX]<;>omega);rw[rT,<- hlen];refine⟨.ref s.heap.objs.size,_,I.laid (t':=s.toks) (o:=.lst (wY xs lo hi)) (λb ob q=>mV _ q) (c3 _) ?_,rfl,q _ (I.cn.fresh (c3 _))⟩;exact⟨ly (oe xs lo hi) hz,_,0,(r.drop (HT.d_ xs.length 0 lo)).take (HT.d_ xs.length xs.length hi-HT.d_ xs.length 0 lo),sR _ rfl⟩
def jl:V->Bool
 |.aQ=>true
 |.bl _=>true
 |.int _=>true
 |.str _=>true
 |_=>false
noncomputable def Jp:V->V->Bool
 |.aQ,.aQ=>true
 |.bl a,.bl b=>a==b
 |.bl a,.int b=>(if a then 1 else 0)==b
 |.int a,.bl b=>a==(if b then 1 else 0)
 |.int a,.int b=>a==b
 |.str a,.str b=>a==b
 |_,_=>false
theorem Pp{s:Shared}{y x:V}{v:Value}(ry:RelV y u)(rx:RelV x v)(fy:jl y=true)(fx:jl x=true):SeqAt.EqAt A s u v (Jp y x):=by
 cases y with
 |aQ=>
  cases ry;cases x with
  |aQ=>cases rx;exact SeqAt.EqAt.same _
  |bl b=>cases rx;exact SeqAt.EqAt.none_bool b
  |int b=>obtain⟨t,rfl⟩:=rx;exact SeqAt.EqAt.none_int b t
  |str b=>obtain⟨t,rfl⟩:=rx;exact SeqAt.EqAt.none_str b t
  |_=>exact absurd (show false=true from fx) iD
 |bl a=>
  cases ry;cases x with
  |aQ=>cases rx;exact SeqAt.EqAt.bool_none a
  |bl b=>cases rx;exact SeqAt.EqAt.bool_bool a b
  |int b=>obtain⟨t,rfl⟩:=rx;exact SeqAt.EqAt.bool_int a b t
  |str b=>obtain⟨t,rfl⟩:=rx;exact SeqAt.EqAt.bool_str a b t
  |_=>exact absurd (show false=true from fx) iD
 |int a=>
  obtain⟨t',rfl⟩:=ry;cases x with
  |aQ=>cases rx;exact SeqAt.EqAt.int_none a t'
  |bl b=>cases rx;exact SeqAt.EqAt.int_bool a t' b
  |int b=>obtain⟨t,rfl⟩:=rx;exact SeqAt.EqAt.int_int a t' b t
  |str b=>obtain⟨t,rfl⟩:=rx;exact SeqAt.EqAt.int_str a t' b t
  |_=>exact absurd (show false=true from fx) iD
 |str a=>
  obtain⟨t',rfl⟩:=ry;cases x with
  |aQ=>cases rx;exact SeqAt.EqAt.str_none a t'
  |bl b=>cases rx;exact SeqAt.EqAt.str_bool a t' b
  |int b=>obtain⟨t,rfl⟩:=rx;exact SeqAt.EqAt.str_int a t' b t
  |str b=>obtain⟨t,rfl⟩:=rx;exact SeqAt.EqAt.str_str a t' b t
  |_=>exact absurd (show false=true from fx) iD
 |_=>exact absurd (show false=true from fy) iD
noncomputable def Kc(x:V)(u:Value):Bool:=match u with
 |.none=>Jp .aQ x
 |.bool b=>Jp (.bl b) x
 |.int i _=>Jp (.int i) x
 |.str z _=>Jp (.str z) x
 |_=>false
theorem Fp{x y:V}(r:RelV y u)(f:jl y=true):Kc x u=Jp y x:=by
 cases y with
 |aQ=>cases r;rfl
 |bl b=>cases r;rfl
 |int i=>obtain⟨t,rfl⟩:=r;rfl
 |str z=>obtain⟨t,rfl⟩:=r;rfl
 |_=>exact absurd (show false=true from f) iD
theorem uB{x:V}:∀{xs:qak}{us:qag},Vals xs us->xs.all jl=true->us.any (Kc x)=xs.any λy=>Jp y x
 |_,_,.nil,_=>rfl
 |y::xs,u::us,.cons r t,f=>by rw[List.all_cons,lL] at f;rw[Ng,Ng,Fp r f.1,uB t f.2]
theorem pJ{A:Around}{s:Shared}{x:V}{v:Value}(rx:RelV x v)(fx:jl x=true):∀{xs:qak}{us:qag},Vals xs us->xs.all jl=true->∀u∈us,SeqAt.EqAt A s u v (Kc x u)
 |_,_,.nil,_=>λu hu=>by cases hu
 |y::xs,u::us,.cons r t,f=>λu' hu=>by
  rw[List.all_cons,lL] at f;rcases cT.mp hu with rfl|hu
  rw[Fp r f.1];exact Pp r rx f.1 fx;exact pJ rx fx t f.2 u' hu
noncomputable def XO(x:V)(xs:qak):Bool:=xs.any λy=>Jp y x
noncomputable def rIn(K:qaf)(neg:Bool):R2:=λx y H Q=>∃p xs,y=.ref p/\(ia K H p xs\/fg K H p xs)/\jl x=true/\xs.all jl=true/\Q (.bl (if neg then !XO x xs else XO x xs)) H
theorem C2:gf X (compareOp .In) (rIn X.K false):=by
 intro pins s σ H x y v u Q I rx ry h;obtain⟨p,xs,rfl,hq,fx,fs,q⟩:=h;cases ry;obtain hq|hq:=hq
 obtain⟨a5,r,pl,hz⟩:=I.list hq;refine SeqAt.in_listAt (Kc x) pl.isList (λw hw=>pJ rx fx r fs w (by simpa using hw)) ⟨.bl _,H,I,rfl,?_⟩;rw[show a5.toArray.any (Kc x)=a5.any (Kc x) by simp,uB r fs];exact q;obtain⟨a5,r,pl,hz⟩:=I.tuple hq;refine SeqAt.in_tupleAt (Kc x) pl (λw hw=>pJ rx fx r fs w (by simpa using hw)) ⟨.bl _,H,I,rfl,?_⟩;rw[show a5.toArray.any (Kc x)=a5.any (Kc x) by simp,uB r fs];exact q
theorem uC:eX X (.builtin "len") (λxs H Q=>∃p ys,xs=[.ref p]/\(ia X.K H p ys\/fg X.K H p ys)/\Q (.int ys.length) H):=by
 intro pins s σ H xs us Q I r h;obtain⟨p,ys,rfl,hq,q⟩:=h;obtain⟨u,rfl,rx⟩:=vals1 r;cases rx;have hn:=m6;obtain hq|hq:=hq
 obtain⟨a5,r',pl,hz⟩:=I.list hq;have hlen:=r'.length;exact Calls.call_len_list pl.isList (by simp only[iX]<;>omega) ⟨.int ys.length,H,I.tok _,⟨s.toks+1,by rw[iX,hlen]⟩,q⟩;obtain⟨a5,r',pl,hz⟩:=I.tuple hq;have hlen:=r'.length;exact len_tuple pl (by simp only[iX]<;>omega) ⟨.int ys.length,H,I.tok _,⟨s.toks+1,by rw[iX,hlen]⟩,q⟩
theorem uD:eX X (.builtin "len") (λxs H Q=>∃z,xs=[.str z]/\z.length<=sizeLine/\Q (.int z.length) H):=by intro pins s σ H xs us Q I r h;obtain⟨z,rfl,hz,q⟩:=h;obtain⟨u,rfl,t,rfl⟩:=vals1 r;have hn:=m6;exact len_str (by omega) ⟨.int z.length,H,I.tok _,⟨_,rfl⟩,q⟩
theorem eX.or{f:Value}{r r':qak->Hp->VK->Prop}(h:eX X f r)(h':eX X f r'):eX X f (λxs H Q=>r xs H Q\/r' xs H Q):=by
 intro pins s σ H xs us Q I rs q;obtain q|q:=q
 exact h pins s σ H xs us Q I rs q;exact h' pins s σ H xs us Q I rs q
theorem dy:eX X (.type "list") (λxs H Q=>∃p ys,xs=[.ref p]/\(ia X.K H p ys\/fg X.K H p ys)/\∀l,H l=none->Q (.ref l) (upd H l (.lst ys))):=by
 intro pins s σ H xs us Q I r h;obtain⟨p,ys,rfl,hq,q⟩:=h;obtain⟨u,rfl,rx⟩:=vals1 r;cases rx;have fin:∀(a5:qag),Vals ys a5->ys.length<=sizeLine->∀(h':Heap)(c':Nat),(∀b o',s.heap.get? b=some o'->h'.get? b=some o') ->
   h'.get? s.heap.objs.size=some {cls:=.type "list",dict:=none,data:=.seq a5.toArray c',slots:=#[]}->EP X pins σ Q (.ref s.heap.objs.size) {s with heap:=h'}:=λa5 r' hz h' c' kp e=>
  ⟨.ref s.heap.objs.size,_,I.laid (t':=s.toks) kp (c3 _) (show cy X.prog X.w _ h' _ (.lst ys) from⟨hz,a5,c',r',e⟩),rfl,q _ (I.cn.fresh (c3 _))⟩
 obtain hq|hq:=hq
 obtain⟨a5,r',pl,hz⟩:=I.list hq;have hlen:=r'.length;obtain⟨o,ho,hc,n,hd⟩:=pl.isList;exact call_list_seq p (.inl rfl) ho hc hd (λh' c' kp e=>fin a5 r' hz h' c' kp e) (by simp only[iX]<;>omega);obtain⟨a5,r',pl,hz⟩:=I.tuple hq;have hlen:=r'.length;obtain⟨o,ho,hc,n,hd⟩:=pl;exact call_list_seq p (.inr rfl) ho hc hd (λh' c' kp e=>fin a5 r' hz h' c' kp e) (by simp only[iX]<;>omega)
theorem g9:eX X (.type "tuple") (λxs H Q=>∃p ys,xs=[.ref p]/\((ia X.K H p ys/\∀l,H l=none->Q (.ref l) (upd H l (.tup ys)))\/(fg X.K H p ys/\Q (.ref p) H))):=by
 intro pins s σ H xs us Q I r h;obtain⟨p,ys,rfl,h⟩:=h;obtain⟨u,rfl,rx⟩:=vals1 r;cases rx;obtain⟨hq,q⟩|⟨hq,q⟩:=h
 obtain⟨a5,r',pl,hz⟩:=I.list hq;have hlen:=r'.length;refine call_tuple_list pl.isList (λh' kp=>?_) (by simp only[iX]<;>omega);have I1:Inv X pins σ H {s with heap:=h'}:=I.kept (t':=s.toks) kp;have I2:Inv X pins σ (upd H h'.objs.size (.tup ys)) {s with heap:=h'.push {cls:=.type "tuple",data:=.seq a5.toArray} } :=
  I1.laid (t':=s.toks) (λb o e=>mV _ e) (c3 _) (show cy X.prog X.w _ _ _ (.tup ys) from⟨hz,a5,r',IsTup.new _ _⟩)
 exact⟨.ref h'.objs.size,_,I2,rfl,q _ (I1.cn.fresh (c3 _))⟩;obtain⟨a5,r',pl,hz⟩:=I.tuple hq;exact call_tuple_same pl ⟨.ref p,H,I,rfl,q⟩
def Zb(K:qaf)(T:String)(x:V)(H:Hp):Prop:=match x with
 |.str _=>T="str"
 |.int _=>T="int"
 |.ref p=>(T="list"/\∃xs,ia K H p xs)\/(T="tuple"/\∃o,K.lookup p=some o/\o.cls=.type "tuple"/\o.dict=none) \/
  (T="dict"/\((∃a_,H p=some (.dK a_))\/∃a_,H p=some (.dT a_)))\/(T="set"/\∃S n,H p=some (.set S n))
 |_=>False
theorem Fq{s:Shared}{T:String}{x:V}{v:Value}(I:Inv X pins σ H s)(r:RelV x v)(ty:Zb X.K T x H) :
  s.TypeIs v T/\∀a,v=.ref a->∃ob,s.heap.get? a=some ob/\ob.dict=none:=by
 cases x with
 |str z=>obtain⟨t,rfl⟩:=r;cases (show T="str" from ty);exact⟨typeIs_str s z t,λ_ e=>nomatch e⟩
 |int i=>obtain⟨t,rfl⟩:=r;cases (show T="int" from ty);exact⟨typeIs_int s i t,λ_ e=>nomatch e⟩
 |ref p=>
   cases r;obtain⟨rfl,xs,hq⟩|⟨rfl,o,hk,hc,hd⟩|⟨rfl,hk⟩|⟨rfl,S,n,hk⟩:=ty
   obtain⟨a5,_,pl,_⟩:=I.list hq;refine⟨pl.isList.typeIs,λa e=>?_⟩;cases e;obtain⟨o,n,e,c,hd,_⟩:=pl;exact⟨o,e,hd⟩;refine⟨⟨o,I.rR p o hk,hc⟩,λa e=>?_⟩;cases e;exact⟨o,I.rR _ o hk,hd⟩;have z:∃o,s.heap.get? p=some o/\o.ExactDict:=by
    obtain⟨a_,hk⟩|⟨a_,hk⟩:=hk
    obtain⟨_,_,_,_,o,_,_,e,ex,_⟩:=I.cn p _ hk;exact⟨o,e,ex⟩;obtain⟨_,_,_,_,o,_,_,e,ex,_⟩:=I.cn p _ hk;exact⟨o,e,ex⟩
   obtain⟨o,e,ex⟩:=z;refine⟨⟨o,e,ex.1⟩,λa e2=>?_⟩;cases e2;exact⟨o,e,ex.2.1⟩;obtain⟨o,_,_,_,e,ex,_⟩:=I.cn p _ hk;refine⟨⟨o,e,ex.1⟩,λa e2=>?_⟩;cases e2;exact⟨o,e,ex.2.1⟩
 |_=>exact False.elim ty
def Zd(K:qaf)(T:String)(r:V->qak->Hp->VK->Prop)(to:TE):TE:=λσ H Q=>to σ H λx H1=>Zb K T x H1/\r x [] H1 Q
def tBM(K:qaf)(T:String)(r:V->qak->Hp->VK->Prop)(to:TE)(t:TA):TE:=λσ H Q=>to σ H λx H1=>Zb K T x H1/\t σ H1 λxs H2=>r x xs H2 Q
variable{to:TE}{t:TA}{name:Str}{T id:String}{r:V->qak->Hp->VK->Prop}
theorem zQ(pa:PlainAttrs T)(slot:Slot T name id)(Pq:typeOf (.builtin id)=pure (.type "method_descriptor"))(hm:Nv X id r)(ho:PE X o to)(c8:attributeBase o name X.env (eval o X.env)=eval o X.env:=by rfl)(c9:(apos.endLine==aZ.line)=true:=by rfl):PE X (.Call (.Attribute o name apos) [] [] aZ) (Zd X.K T r to):=by intro pins s σ H Q I h;refine wpAny_Call_method0_late c8 c9 (bZ (ho pins s σ H _ I h) λv s1 ⟨x,H1,I1,r1,ty,q1⟩=>?_);obtain⟨h1,h2⟩:=Fq I1 r1 ty;exact⟨T,id,pa,slot,Pq,h1,h2,TR rfl (PySem.evalArgs_none (hm pins s1 σ H1 x [] v [] Q I1 r1 .nil q1))⟩
theorem pK(pa:PlainAttrs T)(slot:Slot T name id)(Pq:typeOf (.builtin id)=pure (.type "method_descriptor"))(hm:Nv X id r)(ho:PE X o to)(ha:PA X (e::es) t)(c8:attributeBase o name X.env (eval o X.env)=eval o X.env:=by rfl)(kH:((backTo aZ (starEach (e::es) X.env)).all (λx=>!x.1) && (backToKw aZ (keywordEach [] X.env)).all (λx=>x.1.isSome)
    && decide ((e::es).length+([]:List Keyword).length+(if ([]:List Keyword).isEmpty then 0 else 1)<30))=true:=by rfl)(c9:(apos.endLine==aZ.line)=true:=by rfl)(hs:starEach (e::es) X.env=(false,eval e X.env)::starEach es X.env:=by rfl)(dX:(backTo aZ (starEach es X.env)).any (·.1)=false:=by rfl) :
  PE X (.Call (.Attribute o name apos) (e::es) [] aZ) (tBM X.K T r to t):=by
 intro pins s σ H Q I h;refine wpAny_Call_method_late c8 kH c9 rfl (bZ (ho pins s σ H _ I h) λv s1 ⟨x,H1,I1,r1,ty,q1⟩=>?_);obtain⟨h1,h2⟩:=Fq I1 r1 ty;refine⟨T,id,pa,slot,Pq,h1,h2,?_⟩;have hA:=ha aZ pins s1 σ H1 _ I1 q1;rw[hs] at hA ⊢;refine TR (by show (false || (backTo aZ (starEach es X.env)).any (·.1))=false;rw[dX]<;>rfl) (XA ?_);exact bZ hA λus s2 ⟨vs,H2,I2,r2,q2⟩=>hm pins s2 σ H2 x vs v us Q I2 r1 r2 q2
end
def Ze(X:Cx)(id:String)(r:V->qak->Hp->VK->Prop):Prop :=
 ∀(pins:qaa)(s:Shared)(σ:St)(H:Hp)(x:V)(xs:qak)(v:Value)(us:qag)(Q:VK),Inv X pins σ H s->RelV x v->Vals xs us->r x xs H Q ->
  wpAny (model X.prog X.w) X.A (call (.builtin id) (v::us)) (EP X pins σ Q) X.xe s
theorem Vals.one:∀{x:V}{us:qag},Vals [x] us->∃u,us=[u]/\RelV x u
 |_,_,.cons r .nil=>⟨_,rfl,r⟩
theorem Vals.zero:∀{us:qag},Vals [] us->us=[]
 |_,.nil=>rfl
theorem Vals.dropLast(h:Vals xs us):Vals xs.dropLast us.dropLast:=by
 induction h with
 |nil=>exact .nil
 |cons r t ih=>
  cases t with
  |nil=>exact .nil
  |cons q t'=>exact .cons r ih
theorem Vals.rep{xs:qak}{us:qag}(h:Vals xs us):∀k:Nat,Vals (List.replicate k xs).flatten (List.replicate k us).flatten
 |0=>.nil
 |k+1=>by rw[rQ,rQ,Je,Je];exact Vals.append h (Vals.rep h k)
theorem zR(l:List α):l.eraseIdx (l.length-1)=l.dropLast:=by
 induction l with
 |nil=>rfl
 |cons a r ih=>
  cases r with
  |nil=>rfl
  |cons b r=>
   have e:(a::b::r).length-1=((b::r).length-1)+1:=by have h1:(a::b::r).length=r.length+2:=rfl;have h2:(b::r).length=r.length+1:=rfl;omega
   rw[e,List.eraseIdx_cons_succ,ih]
   all_goals rfl
theorem foldl_rep(a5:qag):∀(k:Nat)(acc:qag),
  List.foldl (λx1 x2=>x1++x2) acc.toArray (List.replicate k a5.toArray)=(acc++(List.replicate k a5).flatten).toArray
 |0,acc=>by simp
 |k+1,acc=>by
   have e:acc.toArray++a5.toArray=(acc++a5).toArray:=by simp
   have e2:(acc++a5)++(List.replicate k a5).flatten=acc++(List.replicate (k+1) a5).flatten:=by rw[rQ,Je,OD]
   rw[<- e2,<- foldl_rep a5 k (acc++a5),<- e,rQ,List.foldl_cons]
section
variable{s:Shared}{l b:Addr}{ys zs:qak}
theorem Inv.Pr{a5 its':qag}{f:Array Value->Array Value}(I:Inv X pins σ H s)(hH:H l=some (.lst xs))(e:s.heap.get? l=some {cls:=.type "list",data:=.seq a5.toArray n})(hf:f a5.toArray=its'.toArray)(hv:Vals ys its')(hz:ys.length<=sizeLine) :
  Inv X pins σ (upd H l (.lst ys)) {s with heap:=s.heap.update l (Obj.mapSeq f),toks:=t'}:=by
 have q:=PySem.IsL.update e f;rw[hf] at q;refine I.write (x:=l) (e:=l) (by rw[hH];exact trivial) (.inl rfl) (λb' u hb hu=>(Heap.get?_update_other s.heap (Obj.mapSeq f) (Ne.symm hb)).trans hu) ⟨_,q⟩ ?_;exact⟨hz,its',_,hv,q⟩
theorem Inv.UO{a5:qag}(I:Inv X pins σ H s)(hv:Vals ys a5)(hz:ys.length<=sizeLine) :
  Inv X pins σ (upd H s.heap.objs.size (.lst ys)) {s with heap:=s.heap.push {cls:=.type "list",data:=.seq a5.toArray},toks:=t'} :=
 I.laid (λ_ _ q=>mV _ q) (c3 _) ⟨hz,a5,0,hv,sR _ rfl⟩
theorem Inv.fresh(I:Inv X pins σ H s):H s.heap.objs.size=none:=I.cn.fresh (c3 _)
theorem Inv.Fs(I:Inv X pins σ H s)(hH:H l=some (.lst xs)):xs.length<=sizeLine/\∃(a5:qag)(n:Nat),Vals xs a5/\xs.length=a5.length/\s.heap.get? l=some {cls:=.type "list",data:=.seq a5.toArray n}:=by obtain⟨z,a5,n,r,e⟩:=I.cn l _ hH;exact⟨z,a5,n,r,r.length,e⟩
theorem wZ(h:n<=sizeLine):Builtin.List.listTooLong n=false:=by unfold Builtin.List.listTooLong;exact decide_eq_false (by omega)
end
section
def Bu:V->qak->Hp->VK->Prop:=λx vs H Q=>∃l xs y,x=.ref l/\vs=[y]/\H l=some (.lst xs)/\xs.length<sizeLine/\Q .aQ (upd H l (.lst (xs++[y])))
theorem bO:Ze X "list.append" Bu:=by intro pins s σ H x vs v us Q I rx rv h;obtain⟨l,xs,y,rfl,rfl,hH,hz,q⟩:=h;cases rx;obtain⟨u,rfl,ru⟩:=rv.one;obtain⟨z,a5,n,r,hl,e⟩:=I.Fs hH;refine call_meets F.slot_list_append ⟨_,e,rfl⟩ F.entry_list_append (F.args_list_append_2 _ _) (PySem.list_append l a5.toArray n u (by rw[iX];omega)) ⟨e,?_⟩;refine⟨.aQ,_,I.Pr (its':=a5++[u]) hH e (by simp) (r.append (.cons ru .nil)) ?_,rfl,q⟩;rw[nX,List.length_singleton];omega
def Ke:V->qak->Hp->VK->Prop:=λx vs H Q=>∃l b xs zs,x=.ref l/\vs=[.ref b]/\H l=some (.lst xs)/\H b=some (.lst zs)/\xs.length+zs.length<=sizeLine/\Q .aQ (upd H l (.lst (xs++zs)))
theorem C3:Ze X "list.extend" Ke:=by
 intro pins s σ H x vs v us Q I rx rv h;obtain⟨l,b,xs,zs,rfl,rfl,hH,hB,hz,q⟩:=h;cases rx;obtain⟨u,rfl,ru⟩:=rv.one;cases ru;obtain⟨z,a5,n,r,hl,e⟩:=I.Fs hH;obtain⟨z2,ij,n2,r2,hl2,e2⟩:=I.Fs hB;have hsz:a5.toArray.size+ij.toArray.size<=sizeLine:=by rw[iX,iX];omega
 have Ft:¬ (!a5.toArray.isEmpty && Builtin.List.listTooLong (a5.toArray.size+ij.toArray.size))=true:=by rw[wZ hsz,Bool.and_false];exact iD
 refine call_meets F.slot_list_extend ⟨_,e,rfl⟩ F.entry_list_extend (F.args_list_extend_2 _ _)
  (AutoSeq1.list_extend_list_list_0 l a5.toArray n b ij.toArray n2 Ft (by rw[iX];omega) (by omega)) ⟨e,e2,?_⟩
 refine⟨.aQ,_,I.Pr (its':=a5++ij) hH e (by simp) (r.append r2) ?_,rfl,q⟩;rw[nX];omega
def UP:V->qak->Hp->VK->Prop:=λx vs H Q=>∃l xs y,x=.ref l/\vs=[]/\H l=some (.lst xs)/\xs[xs.length-1]?=some y/\Q y (upd H l (.lst xs.dropLast))
theorem uE:Ze X "list.pop" UP:=by
 intro pins s σ H x vs v us Q I rx rv h;obtain⟨l,xs,y,rfl,rfl,hH,hy,q⟩:=h;cases rx;have Pt:=rv.zero;subst Pt;obtain⟨z,a5,n,r,hl,e⟩:=I.Fs hH;obtain⟨u,hu,ru⟩:=r.get hy;have hy':a5.toArray[a5.toArray.size-1]?=some u:=by show a5.toArray[a5.length-1]?=some u;rw[<- Array.getElem?_toList,<- hl];exact hu
 refine call_meets F.slot_list_pop ⟨_,e,rfl⟩ F.entry_list_pop (F.args_list_pop_1 _) (MeetsSeq.list_pop_last l a5.toArray n u hy' (by rw[iX];omega)) ⟨e,?_⟩;refine⟨y,_,I.Pr (its':=a5.dropLast) hH e ?_ r.dropLast ?_,ru,q⟩;show a5.toArray.eraseIdxIfInBounds (a5.toArray.size-1)=a5.dropLast.toArray;rw[iX,List.eraseIdxIfInBounds_toArray,zR];rw[zo];omega
def Zf:R2:=λx y H Q=>∃l k xs,x=.ref l/\y=.int k/\H l=some (.lst xs)/\-(2 ^ 63)<=k/\k<2 ^ 63/\xs.length * k.toNat<=sizeLine /\
 ∀p,H p=none->Q (.ref p) (upd H p (.lst (List.replicate k.toNat xs).flatten))
theorem len_rep(xs:List α)(k:Nat):(List.replicate k xs).flatten.length=k * xs.length:=by
 induction k with
 |zero=>simp
 |succ k ih=>rw[rQ,Je,nX,ih,Nat.succ_mul,Nat.add_comm]
theorem Pu:gf X (binaryOp .Mult) Zf:=by
 intro pins s σ H x y v u Q I rx ry h;obtain⟨l,k,xs,rfl,rfl,hH,h1,h2,hz,q⟩:=h;cases rx;obtain⟨t,rfl⟩:=ry;obtain⟨z,a5,n,r,hl,e⟩:=I.Fs hH;have hlen:a5.toArray.size * k.toNat<=sizeLine:=by rw[iX,<- hl];exact hz
 have Zg:¬ a5.toArray.size * k.toNat > (2 ^ 63-1) / 8:=by
  have:(sizeLine:Nat)<=(2 ^ 63-1) / 8:=by decide
  omega
 have Zh:¬ (!Builtin.List.listFitsIndex k)=true:=by rw[fitsIndex_both h1 h2];exact iD
 have Ft:¬ Builtin.List.listTooLong (a5.toArray.size * k.toNat)=true:=by rw[wZ hlen];exact iD
 have Zi:List.foldl (λx1 x2=>x1++x2) #[] (List.replicate (if a5.toArray.isEmpty=true then 0 else k.toNat) a5.toArray)=(List.replicate k.toNat a5).flatten.toArray:=by
  have f0:∀m:Nat,List.foldl (λx1 x2=>x1++x2) #[] (List.replicate m a5.toArray)=(List.replicate m a5).flatten.toArray:=λm=>by have:=foldl_rep a5 m [];rw[SY] at this;exact this
  rw[f0];cases a5 with
  |nil=>simp
  |cons a r'=>rw[if_neg (by simp)]
 refine wpAny_binaryOp_repeat_ref (T:="list") (U:="int") (by decide) ⟨_,e,rfl⟩ (λs'=>typeIs_int s' k t) noFill_list_mul F.fills_int_mul F.slot_int_rmul repeat_list F.slot_int_index.lookup
  (call_meets F.slot_int_rmul (typeIs_int s k t) F.entry_int_rmul (F.args_int_rmul_2 _ _) (int___rmul___int_list k t l a5.toArray n)
   ⟨e,rfl,⟨_,e,rfl⟩,call_meets F.slot_list_mul ⟨_,e,rfl⟩ F.entry_list_mul (F.args_list_mul_2 _ _) (AutoListH.list___mul___list_int_3 l a5.toArray n k t Zh Zg Ft) ⟨e,?_⟩⟩)
 rw[Zi];exact⟨.ref _,_,I.UO (t':=s.toks) (r.rep k.toNat) (by rw[len_rep,Nat.mul_comm];exact hz),rfl,q _ I.fresh⟩
end
end L2
namespace XQ
open PySem PySem.W PySem.Calls PyProof.Rows
theorem oN{P:Params}:∀(ns:qan)(vs:qag),WellAll P h vs (ns.map WData.int)->IntsAre vs ns:=by
 intro ns;induction ns with
 |nil=>intro vs w;rw[JF] at w;cases w;exact .nil
 |cons n ns ih=>
  intro vs w;rw[gR] at w;cases w with
  |cons a b=>cases a;exact .cons _ _ (ih _ b)
theorem C4{l:OpenLaw}(hn:l.most=some n){P:Params}{args:List WData}{vals:qag}(iH:l.row.toRowW.claim.pre args=true)(UQ:WellAll P h vals args) :
  ∃a vs ns,vals=[Value.ref a]/\args=[WData.list (ns.map WData.int)]/\h.get? a=some {cls:=.type "list",data:=.seq vs.toArray}/\IntsAre vs ns/\ns.length<=n:=by
 have hsh:WShape.hasAll [] args [.list .int]=true:=(pre_splitW iH).1;have hc:l.pre.holds [] {args:=args}=true:=(pre_splitW iH).2;obtain⟨d,r,rfl,h1,h2⟩:=hasAllW_cons hsh;obtain rfl:=hasAllW_nil h2;obtain⟨xs,rfl,h3⟩:=hasW_list h1;obtain⟨ns,rfl⟩:=items_int h3;have hlen:ns.length<=n:=by
  unfold OpenLaw.pre at hc;have h4:(WTm.not (.lt (.lit (.int (n:Int))) (.len (.arg 0)))).holds [] {args:=[.list (ns.map .int)]}=true:=by have h4:=(holds_andW hc).1;rw[hn] at h4;exact h4
  have h5:=condW_of h4 (w_not (w_lt w_lit (w_len_list (w_arg rfl))));rw[cV] at h5;refine Nat.le_of_not_lt λq=>?_;have q':(n:Int)<((ns.length:Nat):Int):=by omega
  first
   | (rw[decide_eq_true q'] at h5;exact absurd h5 (by decide))
   | (simp at h5;omega)
 cases UQ with
 |cons w1 w2=>
   cases w2;cases w1 with
   |list ho C5=>exact⟨_,_,ns,rfl,rfl,ho,oN ns _ C5,hlen⟩
theorem C6(l:OpenLaw)(args:List WData):l.row.toRowW.claim.post args (.bool true) args=true :=
 postW_of (r:=l.row.toRowW) (X:=(true==true))
  (show WShape.has [] (.bool true) .bool=true by first|rfl|decide|simp[WShape.has,WShape.arms,WShape.armsAll])
  (show (WTm.eq .res (.lit (.bool true))).value [] {args:=args,res:=some (.bool true),after:=args}=some (.bool (true==true)) from w_eq_bool (w_res rfl) w_lit) rfl
theorem w_{l:OpenLaw}{q:Program}{loose:qai}{XP:(qae)->Heap->Prop}{YP:World->Heap->Prop}{d:DefRec}(hn:l.most=some n)(Pw:d.params.defaults=[])(call:∀(w:World) (s₀ s₁:Shared) (mg mb:qae) (fa:Addr) (o:Obj) (pm cd doc:Value) (a:Addr) (vs:qag) (ns:qan),
    Ground q loose [] XP w s₀ mg mb s₁.heap->YP w s₁.heap ->
    s₁.heap.get? fa=some o->o.data=.func (docDef d.name d.params d.body d.scope pm cd doc)->s₁.heap.CodeRec cd d.name->mg d.name=some (.ref fa) ->
    s₁.heap.get? a=some {cls:=.type "list",data:=.seq vs.toArray}->IntsAre vs ns->ns.length<=n->s₁.gens=#[] ->
    codeAny (model l.prog w) callerA (.call (.ref fa) ⟨[.ref a],[]⟩) (λr s'=>r=.ok (.ret (.bool true))/\OldK s₁.heap s'.heap/\s'.os=s₁.os/\AllBare s'.gens) s₁) :
  WalkO q loose XP YP l.row.toRowW d [] (λf vs=>PySem.call f vs):=by
 intro w s₀ s₁ mg mb G Y fa o pm cd doc dV kV ho hd gn hD UR hg args vals as iH UT hrd UQ hlo;obtain rfl:dV=.none:=Dflts.none hD Pw;obtain rfl:kV=.none:=Dflts.noKw hD;obtain⟨a,vs,ns,rfl,rfl,Px,hints,hlen⟩:=C4 hn iH UQ;refine enter_call (codeAny_mono (call w s₀ s₁ mg mb fa o pm cd doc a vs ns G Y ho (fd_plain hd) gn UR Px hints hlen hg) λr s' hq=>?_);obtain⟨rfl,h2,h3,h4⟩:=hq;exact⟨.inl ⟨.bool true,.bool true,[],rfl,λ_=>rfl,.bool true,C6 l _,λ_=>⟨List.Pairwise.nil,λ_ hm=>(nomatch hm)⟩⟩,h2,h3,h4⟩
end XQ
namespace L2
open PySem PySem.Spec PyProof.Rows
theorem s_:∀{vs:qag}{ns:qan},IntsAre vs ns->Vals (ns.map V.int) vs
 |_,_,.nil=>.nil
 |_,_,.cons n t h=>.cons ⟨t,rfl⟩ (s_ h)
def UU(H:Hp):Prop:=∀b,H b=none\/∃o xs,H b=some (.CG o (.lst xs))
theorem Fu{mb:qae}{CX:ES}{k:Nat}{fa:Addr}{s₁:Shared}{vs:qag}{ns:qan}(KX:K.In s₁.heap)(Zj:s₁.heap.Ns mainGlobals mg)(hb:s₁.heap.Ns builtinsNs mb)(hbb:∀x:Str,x≠"__name__"->mb x=bootBuiltins x)(Zk:s₁.heap.NoLimit)(hg:s₁.gens=#[])(ha:s₁.heap.get? a=some {cls:=.type "list",data:=.seq vs.toArray})(hi:IntsAre vs ns)(hl:ns.length<=sizeLine)(hr:bz k callerA)(F:∀base:Heap,K.In base->base.Ns mainGlobals mg->cA P w K mg base CX k fa fd [x] sp)(UW:∀(s:Shared) (u:Value),BindsTo s fd ⟨[u],[]⟩ [(x,u)])(Jo:∀H:Hp,UU H->ia K H a (ns.map V.int)->sp [.ref a] H (λv _=>v=.bl true) λ_ _ _=>False)(hCX:∀H e s',CX [] H s₁ (λ_ _ _=>False) e s'->False) :
  codeAny (model P w) callerA (.call (.ref fa) ⟨[.ref a],[]⟩) (λr s'=>r=.ok (.ret (.bool true))/\OldK s₁.heap s'.heap/\s'.os=s₁.os/\AllBare s'.gens) s₁:=by
 have rv:=s_ hi;have Zl:=hi.length;have core:∀H:Hp,UU H->ia K H a (ns.map V.int)->lz P w H s₁.heap->(∀b,H b≠none->b=a)->(H a≠none->K.lookup a=none) ->
   codeAny (model P w) callerA (.call (.ref fa) ⟨[.ref a],[]⟩) (λr s'=>r=.ok (.ret (.bool true))/\OldK s₁.heap s'.heap/\s'.os=s₁.os/\AllBare s'.gens) s₁:=by
  intro H hO hS cn hA hK;have Bv:∀{b:Addr}{o:Obj},s₁.heap.get? b=some o->H b=none->(um s₁.heap H).get? b=some o:=λe n=>E3 e n;have UC:∀{b:Addr}{o:Obj}{es:Array DictEntry}{ep:Nat},s₁.heap.get? b=some o->o.data=.dict es ep->H b=none:=λ{b o es ep} e d=>by
   cases q:H b with
   |none=>rfl
   |some u=>have e':b=a:=hA b (by rw[q];simp);subst e';rw[ha] at e;cases e;have d':Data.seq vs.toArray _=Data.dict es ep:=d;cases d'
  have XR:∀{b:Addr}{m:qae},s₁.heap.Ns b m->(um s₁.heap H).Ns b m:=λ{b m} ⟨o,es,ep,e,d,r⟩=>⟨o,es,ep,Bv e (UC e d),d,r⟩;have hKb:K.In (um s₁.heap H):=λb o e=>Bv (KX b o e) (by
   cases q:H b with
   |none=>rfl
   |some u=>have e':b=a:=hA b (by rw[q];simp);subst e';rw[hK (by rw[q];simp)] at e;cases e)
  have hM:Mod K mg (um s₁.heap H):=⟨hKb,XR Zj,⟨mb,XR hb,hbb⟩,let ⟨mc,h1,h2⟩:=Zk;⟨mc,XR h1,h2⟩⟩;have e0:zK P w K mg (um s₁.heap H) callerA [] s₁ H:=⟨rfl,hM,λb o e=>JG e,Nat.le_of_eq (CJ _ _),trivial,λb hb=>absurd (show b∈([]:qah) from hb) (by simp),cn,.of_eq hg⟩;refine codeAny_mono ((F _ hKb (XR Zj)).run callerA [] s₁ H ⟨[.ref a],[]⟩ [.ref a] [.ref a] _ _ hr e0 (UW s₁ (.ref a)) (.cons rfl .nil) (Jo H hO hS)) λr s' h=>?_;cases r with
  |error e=>exact (hCX H e s' h).elim
  |ok fl=>
    cases fl with
    |ret u=>
      obtain⟨v,H',os,bare,un,Zm,r',q⟩:=h;have q':v=.bl true:=q;subst q';obtain rfl:u=Value.bool true:=r';refine⟨rfl,OldK.of_keep λb o e=>?_,os,bare⟩;cases q:H b with
      |none=>exact un.keep b o e q (by intro z;exact absurd (show b∈([]:qah) from z) (by simp)) (by simp)
      |some u=>
        rcases hO b with z|⟨ob,xs,z⟩
        rw[q] at z;cases z;have z2:=un.uk b ob _ z;obtain⟨e1,_⟩:=cn b _ z;obtain⟨e2,_⟩:=Zm b _ z2;rw[e] at e1;cases e1;exact e2
    |_=>exact False.elim h
 cases hk:K.lookup a with
 |some o=>have e:=KX a o hk;rw[ha] at e;cases e;refine core (λ_=>none) (λ_=>.inl rfl) (.inr ⟨_,vs.toArray,_,hk,rfl,rfl,rfl,by rw[iX,Zl];exact hl,by simpa using rv⟩) (λb u z=>by have z':(none:Option HO)=some u:=z;cases z') (λb z=>absurd rfl z) λz=>absurd rfl z
 |none=>refine core (λb=>if b=a then some (.CG {cls:=.type "list",data:=.seq vs.toArray} (.lst (ns.map V.int))) else none) (λb=>?_) (.inl (.inr ⟨{cls:=.type "list",data:=.seq vs.toArray},if_pos rfl⟩)) (λb u z=>?_) (λb z=>?_) λ_=>hk;by_cases hb:b=a;exact .inr ⟨_,_,if_pos hb⟩;exact .inl (if_neg hb);by_cases hb:b=a;have z':=(if_pos hb).symm.trans z;cases z';subst hb;exact⟨ha,by rw[cV];exact hl,vs,_,rv,ha⟩;have z':=(if_neg hb).symm.trans z;cases z';by_cases hb:b=a;exact hb;exact absurd (if_neg hb) z
noncomputable def inClass(s:Stmt)(j:Nat):Stmt:=match s with
 |.ClassDef _ _ _ body _ _ _ _ _ _ _=>body.getD j (.Pass ⟨0,0,0,0⟩)
 |_=>.Pass ⟨0,0,0,0⟩
noncomputable def c6(s:Stmt):Arguments:=match s with
 |.FunctionDef _ a _ _ _ _ _ _ _ _=>a
 |_=>{posonlyargs:=[],args:=[],vararg:=none,kwonlyargs:=[],kw_defaults:=[],kwarg:=none,defaults:=[]}
def bK(s:Stmt):qaq:=match s with
 |.FunctionDef _ _ b _ _ _ _ _ _ _=>b
 |_=>[]
noncomputable def ah(s:Stmt):Scope:=match s with
 |.FunctionDef _ _ _ _ _ _ sc _ _ _=>sc
 |_=>{kind:=.function,names:=[],isGenerator:=false,isCoroutine:=false}
abbrev eV:ES:=λ_ _ _ _ _ _=>False
abbrev E0:XK:=λ_ _ _=>False
theorem ko:Passes eV X E0:=λ_ _ _ _ _ _ _ h=>h.elim
structure Bw(K:qaf)(x qual:Str)(st:Stmt)(f:Addr)(fd:FuncData):Prop where
 ex:∃(oc:Value)(od:qar)(kV doc pm:Value)(an:qar)(bA ct:Value)(CZ:Array (Option Value)),
  fd=PySem.W.fnOf x qual (c6 st) (bK st) (ah st) .none kV doc pm an bA ct/\K.lookup f=some ⟨oc,od,.func fd,CZ⟩/\PySem.W.codeIn K bA qual=true
 kp:PySem.W.keepIn K (.ref f)=true
section
theorem Bw.ok{st:Stmt}{N:qai}{k:Nat}(F:Bw K x qual st f fd)(S:az N ps (ah st))(len:∀vs H Q E,sp vs H Q E->vs.length=ps.length)(dN:∀(bA:Value) (A:Around) (outer:List Env) (s:Shared) (H:Hp) (vs:qak) (Q:VK) (E:XK),bz k (A.deeper (envOfC qual (ah st) s.heap.objs.size f bA))->sp vs H Q E ->
    ∃t,iZ (gh eV P w K mg base N qual (ah st) f bA A outer s H E).pB (bK st) t/\t {nx:=λ_ H'=>Q .aQ H',rt:=Q} (start N vs) H):cA P w K mg base eV (k+1) f fd ps sp:=by
 obtain⟨oc,od,kV,doc,pm,an,bA,ct,CZ,rfl,lk,gn⟩:=F.ex;refine Nt lk gn S len λA outer s H vs Q E hr Jo=>?_;obtain⟨t,h,q⟩:=dN bA A outer s H vs Q E hr Jo;exact⟨t,h.pB,q⟩
theorem Bw.binds{st:Stmt}(F:Bw K x qual st f fd)(h:∀(kV doc pm:Value) (an:qar) (bA ct:Value) (us:qag),us.length=ps.length->bindArgs (PySem.W.fnOf x qual (c6 st) (bK st) (ah st) .none kV doc pm an bA ct) ⟨us,[]⟩=pure (ps.zip us)):Binds K fd ps []:=by obtain⟨oc,od,kV,doc,pm,an,bA,ct,CZ,rfl,lk,gn⟩:=F.ex;exact .all (h kV doc pm an bA ct)
theorem pL{st:Stmt}{oc:Value}{od an:qar}{CZ:Array (Option Value)}{kV doc pm bA ct:Value}(l:K.lookup f=some ⟨oc,od,.func (PySem.W.fnOf x qual (c6 st) (bK st) (ah st) .none kV doc pm an bA ct),CZ⟩)(c:PySem.W.codeIn K bA qual=true)(k:PySem.W.keepIn K (.ref f)=true):Bw K x qual st f (PySem.W.fnOf x qual (c6 st) (bK st) (ah st) .none kV doc pm an bA ct):=⟨⟨oc,od,kV,doc,pm,an,bA,ct,CZ,rfl,l,c⟩,k⟩
end
theorem C7(h:n<=1000):n<sizeLine:=XE h (by decide)
theorem Py{A:Prop}(h:B):if false=true then A else B:=by rw[if_neg iD];exact h
theorem Pz{A:Prop}(h:A):if true=true then A else B:=by rw[if_pos rfl];exact h
theorem xa{c A:Prop}[Decidable c](h1:c->A)(h2:¬ c->B):if c then A else B:=by by_cases h:c;rw[if_pos h];exact h1 h;rw[if_neg h];exact h2 h
def aY(H H':Hp):Prop:=∀b o,H b=some o->H' b=some o
theorem aY.refl(H:Hp):aY H H:=λ_ _ h=>h
theorem aY.trans{H1 H2:Hp}(a:aY H H1)(b:aY H1 H2):aY H H2:=λc o h=>b c o (a c o h)
section
theorem iI{env:Env}{f:Str×NameKind->List (Str×Addr)->Sem (ForInStep (List (Str×Addr)))}:∀(l:List (Str×NameKind))(cs:List (Str×Addr)),
  (∀p∈l,∀r,(p.2=.free->∃c,env.cells.lookup p.1=some c/\f p r=pure (.yield ((p.1,c)::r)))/\(p.2≠.free->f p r=pure (.yield r))) ->
  ∃cl,forIn l cs f=pure cl/\(∀y c,cl.lookup y=some c->cs.lookup y=some c\/env.cells.lookup y=some c)/\(∀y,(cs.lookup y).isSome=true->(cl.lookup y).isSome=true) /\
   ∀p∈l,p.2=.free->(cl.lookup p.1).isSome=true
 |[],cs,_=>⟨cs,by rw[List.forIn_nil],λ_ _ h=>.inl h,λ_ h=>h,λ_ h=>nomatch h⟩
 |p::l,cs,hf=>by
   have hr:∀q∈l,∀r,(q.2=.free->∃c,env.cells.lookup q.1=some c/\f q r=pure (.yield ((q.1,c)::r)))/\(q.2≠.free->f q r=pure (.yield r)):=λq hq r=>hf q (gG _ hq) r;by_cases hp:p.2=.free;obtain⟨c,hc,e⟩:=(hf p dw cs).1 hp;obtain⟨cl,h1,h2,h3,h4⟩:=iI l ((p.1,c)::cs) hr;refine⟨cl,?_,λy d h=>?_,λy h=>h3 y ?_,λq hq XS=>?_⟩;rw[List.forIn_cons,e];exact h1;rcases h2 y d h with z|z
   rw[Jh] at z;cases hy:y==p.1 with
   |true=>rw[hy] at z;have ey:y=p.1:=eq_of_beq hy;cases z;rw[ey];exact .inr hc
   |false=>rw[hy] at z;exact .inl z
   exact .inr z;rw[Jh];cases hy:y==p.1 with
   |true=>rfl
   |false=>exact h
   rcases cT.mp hq with z|z
   subst z;refine h3 _ ?_;rw[Jh,beq_self_eq_true];rfl;exact h4 q z XS;have e:=(hf p dw cs).2 hp;obtain⟨cl,h1,h2,h3,h4⟩:=iI l cs hr;refine⟨cl,?_,h2,h3,λq hq XS=>?_⟩;rw[List.forIn_cons,e];exact h1;rcases cT.mp hq with z|z
   subst z;exact absurd XS hp;exact h4 q z XS
theorem i4{scope:Scope}{env:Env}(h:∀p∈scope.names,p.2=.free->∃c,env.cells.lookup p.1=some c) :
  ∃cl,closureFor scope env=pure cl/\(∀y c,cl.lookup y=some c->env.cells.lookup y=some c)/\∀p∈scope.names,p.2=.free->∃c,cl.lookup p.1=some c:=by
 have key:∃cl,closureFor scope env=pure cl/\(∀y c,cl.lookup y=some c->([]:List (Str×Addr)).lookup y=some c\/env.cells.lookup y=some c)/\(∀y,(([]:List (Str×Addr)).lookup y).isSome=true->(cl.lookup y).isSome=true) /\
   ∀p∈scope.names,p.2=.free->(cl.lookup p.1).isSome=true:=by
  simp only[closureFor];have go:=@iI env (λx r=>if x.2==NameKind.free then (do let c <- cellOf env x.1;pure (ForInStep.yield ((x.1,c)::r))) else pure (ForInStep.yield r)) scope.names [] ?_;obtain⟨cl,h1,h2⟩:=go;refine⟨cl,?_,h2⟩
  first
   | (show (forIn scope.names [] _ >>= λcs=>pure cs)=_;rw[h1];rfl)
   | (rw[h1];rfl)
   |exact congrArg (· >>= pure) h1
  intro p hp r;refine⟨λhf=>?_,λhf=>?_⟩;obtain⟨c,hc⟩:=h p hp hf;refine⟨c,hc,?_⟩;have e1:(p.2==NameKind.free)=true:=by rw[hf];rfl
  have e2:cellOf env p.1=pure c:=by unfold cellOf;rw[hc]
  rw[e1,if_pos rfl,e2];rfl;have e1:(p.2==NameKind.free)=false:=by simpa using hf
  rw[e1,if_neg (by decide)]
 obtain⟨cl,h1,h2,h3,h4⟩:=key;refine⟨cl,h1,λy c e=>?_,λp hp hf=>Option.isSome_iff_exists.mp (h4 p hp hf)⟩;rcases h2 y c e with z|z
 rw[List.lookup_nil] at z;cases z;exact z
theorem lW{scope:Scope}{env:Env}(y:Str):(relabel scope env).names.lookup y =
  (scope.names.lookup y).map λk=>if (k==.free && env.scope.kind==.function && env.kindOf y==some .cell)=true then .cell else k:=by
 have key:∀l:List (Str×NameKind),(l.map λ(n,k)=>if (k==NameKind.free && env.scope.kind==.function && env.kindOf n==some .cell) then (n,NameKind.cell) else (n,k)).lookup y =
   (l.lookup y).map λk=>if (k==.free && env.scope.kind==.function && env.kindOf y==some .cell)=true then .cell else k:=by
  intro l;induction l with
  |nil=>rfl
  |cons p l ih=>
    obtain⟨n,k⟩:=p;rw[gR];show List.lookup y ((if (k==NameKind.free && env.scope.kind==.function && env.kindOf n==some .cell)=true then (n,NameKind.cell) else (n,k))::_)=_;by_cases hc:(k==NameKind.free && env.scope.kind==.function && env.kindOf n==some .cell)=true;rw[if_pos hc,Jh,Jh];cases hy:y==n with
    |true=>have ey:y=n:=eq_of_beq hy;subst ey;show some NameKind.cell=some (if _ then _ else _);rw[if_pos hc]
    |false=>exact ih
    rw[if_neg hc,Jh,Jh];cases hy:y==n with
    |true=>have ey:y=n:=eq_of_beq hy;subst ey;show some k=some (if _ then _ else _);rw[if_neg hc]
    |false=>exact ih
 exact key scope.names
end
noncomputable def jm(N ts:qai)(out sc:Scope):Bool :=
 (sc.kind==.function) && sc.names.all (λp=>(p.2 != .cell) && (p.2 != .free || out.names.lookup p.1==some .cell || out.names.lookup p.1==some .free) && (p.2 != .local || sc.names.lookup p.1==some .local))
  && N.all (λy=>sc.names.lookup y != some .local) && ts.all (λy=>sc.names.lookup y==some .local) && decide ((N++ts).Nodup)
structure pM(N ts:qai)(out sc:Scope):Prop where
 kind:sc.kind=.function
 Fv:∀p∈sc.names,p.2≠.cell
 fr:∀p∈sc.names,p.2=.free->out.names.lookup p.1=some .cell\/out.names.lookup p.1=some .free
 names:∀p∈sc.names,p.2=.local->sc.names.lookup p.1=some .local
 own:∀y∈N,sc.names.lookup y≠some .local
 tgt:∀y∈ts,sc.names.lookup y=some .local
 nd:(N++ts).Nodup
theorem tq{N ts:qai}{out:Scope}(h:jm N ts out sc=true):pM N ts out sc:=by unfold jm at h;rw[lL,lL,lL,lL] at h;obtain⟨⟨⟨⟨h1,h2⟩,h3⟩,h4⟩,h5⟩:=h;rw[OF] at h2 h3 h4;refine⟨eq_of_beq h1,λp hp=>?_,λp hp hf=>?_,λp hp hl=>?_,λy hy=>?_,λy hy=>?_,of_decide_eq_true h5⟩;have:=h2 p hp;rw[lL,lL] at this;simpa using this.1.1;have:=h2 p hp;rw[lL,lL] at this;have q:=this.1.2;rw[hf] at q;simpa using q;have:=h2 p hp;rw[lL,lL] at this;have q:=this.2;rw[hl] at q;simpa using q;simpa using h3 y hy;simpa using h4 y hy
noncomputable def bB(X:Cx)(ts:qai)(sc:Scope)(cl:List (Str×Addr))(C:Addr)(fp:qah)(s:Shared)(H:Hp):Cx where
 prog:=X.prog
 w:=X.w
 K:=X.K
 mg:=X.mg
 base:=X.base
 A:=X.A
 N:=X.N++ts
 s₀:=s
 H₀:=H
 env:=compEnvC sc cl C X.env
 outer:=X.stack
 stack:=X.stack
 ex:=fp
 fn:=λ_=>false
 calm:=X.calm
 pn:=[]
 xe:=λ_ _=>False
section
variable{s:Shared}{ts:qai}{cl:List (Str×Addr)}{D:Addr}
theorem tu(hS:pM X.N ts X.env.scope sc)(h:kF (relabel sc X.env) y):sc.names.lookup y=some .local\/(sc.names.lookup y=some .free/\((relabel sc X.env).names.lookup y=some .cell\/(relabel sc X.env).names.lookup y=some .free)):=by
 have e:=lW (scope:=sc) (env:=X.env) y;cases hk:sc.names.lookup y with
 |none=>rw[hk] at e;have e':(relabel sc X.env).names.lookup y=none:=e;obtain h|h|h:=h<;>rw[e'] at h<;>cases h
 |some k=>
  have hm:(y,k)∈sc.names:=Nb hk;rw[hk] at e;cases k with
  |«local»=>exact .inl rfl
  |cell=>exact absurd rfl (hS.Fv _ hm)
  |free=>refine .inr ⟨rfl,?_⟩;rw[e,S3];by_cases hc:(NameKind.free==.free && X.env.scope.kind==.function && X.env.kindOf y==some .cell)=true;rw[if_pos hc];exact .inl rfl;rw[if_neg hc];exact .inr rfl
  |globalExplicit=>have e':(relabel sc X.env).names.lookup y=some .globalExplicit:=e;obtain h|h|h:=h<;>rw[e'] at h<;>cases h
  |globalImplicit=>have e':(relabel sc X.env).names.lookup y=some .globalImplicit:=e;obtain h|h|h:=h<;>rw[e'] at h<;>cases h
theorem By(I:Inv X pins σ H s)(hf:∀b∈fp,oM X pins H b):∀b∈fp,b∉EN X.stack:=λb hb z=>by
 obtain⟨_,f1,f2,_⟩:=hf b hb;rcases cT.mp (I.zt b z) with e|e
 exact f1 e;exact f2 e
theorem Kg(I:Inv X pins σ H s)(hf:∀b∈fp,oM X pins H b)(PB:∀b∈fp,∃o,s.heap.get? b=some o)(hS:pM X.N ts X.env.scope sc)(c1:∀y c,cl.lookup y=some c->X.env.cells.lookup y=some c)(c2:∀p∈sc.names,p.2=.free->∃c,cl.lookup p.1=some c)(hC:s.heap.objs.size<=C)(hD:s.heap.objs.size<=D)(XT:D≠C){h1:Heap}{m:qae}{t:Nat}(k:∀b o,s.heap.get? b=some o->h1.get? b=some o)(hn:h1.Ns C m)(hd:h1.get? D=some {cls:=.type "list",data:=.seq ([]:qag).toArray n}) :
  Inv (bB X ts sc cl C fp s H) [] (σ++ts.map λ_=>none) (upd H D (.lst [])) {s with heap:=h1,toks:=t}:=by
 have sz:=I.sz;have Zn:∀b∈fp,b<s.heap.objs.size:=λb hb=>by obtain⟨o,e⟩:=PB b hb;exact iY e
 have JJ:∀y c,cl.lookup y=some c->c<s.heap.objs.size:=λy c e=>by obtain⟨v,q⟩:=I.cell y c (c1 y c e);exact q.lt
 have ok:(bB X ts sc cl C fp s H).Ok:=by
  refine⟨I.ok.mod,hS.kind,I.ok.glob,I.ok.blt,hC,λx y c e1 e2=>I.ok.inj x y c (c1 x c e1) (c1 y c e2),λx hx=>?_,λx c hx=>absurd hx (by simp[bB]),I.ok.hd,I.ok.frames,.inl rfl,λb hb=>?_,λb o e=>I.bs b o e,
   ly I.ok.EO sz,λb o e hb=>?_,By I hf,I.stack,λb hb=>I.Bi b hb⟩
  have hv:kF (relabel sc X.env) x:=by
   obtain hx|hx:=hx
   exact .inr (.inl hx);exact .inr (.inr hx)
  rcases tu hS hv with z|⟨z,_⟩
  have e:=lW (scope:=sc) (env:=X.env) x;rw[z] at e;have e':(relabel sc X.env).names.lookup x=some .local:=e;have Jq:(relabel sc X.env).names.lookup x=some .cell\/(relabel sc X.env).names.lookup x=some .free:=hx;rw[e'] at Jq;obtain q|q:=Jq<;>cases q
  exact c2 _ (Nb z) rfl;exact⟨λe=>absurd (wx (Zn b hb) hC) (by have e':b=C:=e;rw[e'];exact JE _),λx c e z=>(hf b hb).2.2.2.2.1 x c (c1 x c e) z⟩;rcases (hf b hb).2.2.2.1 with z|z
  exact I.ok.zq b o e z;exact absurd (wx (iY e) (ly I.ok.EO z)) (JE _)
 have hnD:H D=none:=I.cn.fresh hD;refine⟨ok,rfl,I.bare,Un.laid k hD hnD,⟨m,hn,λi x v e1 e2 e3=>?_⟩,λx c e=>?_,?_,λx c e=>?_,λp hp=>absurd (show p∈([]:qaa) from hp) (by simp),I.cn.laid k hD ⟨jj _,[],n,.nil,hd⟩,?_⟩;have hi:i<σ.length:=by
  by_cases hi:i<σ.length;exact hi;rw[oI (by omega),gJ] at e2;cases q:ts[i-σ.length]? with
  |none=>rw[q] at e2;cases e2
  |some a=>rw[q] at e2;cases e2
 have Jr:σ[i]?=some (some v):=by rw[mY hi] at e2;exact e2
 have e1':X.N[i]?=some x:=by have UX:(X.N++ts)[i]?=some x:=e1;rw[mY (by rw[<- I.len];exact hi)] at UX;exact UX
 rcases tu hS e3 with z|⟨z,zr⟩
 exact absurd z (hS.own x (gH e1'));have hm:=Nb z;have ho:=hS.fr _ hm rfl;obtain⟨m0,_,hl⟩:=I.loc;obtain⟨u,r,l⟩:=hl i x v e1' Jr (.inr ho);obtain⟨c',lC⟩:=c2 _ hm rfl;obtain⟨l,_⟩|⟨_,c,hc,z2⟩:=l
 have l':X.env.scope.names.lookup x=some .local:=l;rw[l'] at ho;obtain q|q:=ho<;>cases q
 have ec:=c1 x c' lC;rw[hc] at ec;cases ec;exact⟨u,r,.inr ⟨zr,_,lC,z2.keeps k⟩⟩;obtain⟨v,z⟩:=I.cell x c (c1 x c e);exact⟨v,z.keeps k⟩;show upd H D (.lst []) C=none;rw[aE (Ne.symm XT)];exact I.cn.fresh hC;show upd H D (.lst []) c=none;rw[aE (nY (wx (JJ x c e) hD))];exact I.ig x c (c1 x c e);show (σ++ts.map λ_=>none).length=(X.N++ts).length;rw[nX,nX,cV,I.len]
theorem xb(I:Inv X pins σ H s)(hf:∀b∈fp,oM X pins H b){Bk:qaa}{σ':St}(J:Inv (bB X ts sc cl C fp s H) Bk σ' H' s'):Inv X pins σ H' s' :=
 I.T_ J.os J.base J.cn J.bare λb hb=>by obtain⟨_,f1,_,f3,f4,f5⟩:=hf b hb;exact⟨f3,f1,f4,f5⟩
end
section
variable{R:Result->Shared->Prop}{s:Shared}
theorem kj{elt target:Expr}{ifs:qap}{scope:Scope}{pos:Pos}{it acc:Value}{env:Env}(I:Nat->Shared->Prop)(turn:∀n s,I n s->wpAny (model prog w) A (pyNext it) (λr s₁=>match r with
    |none=>R (.ok .next) s₁
    |some v=>wpAny (model prog w) A (letOwnedTupleGo target it v) (λ_ s₁'=>wpAny (model prog w) A (assign target env v) (λ_ s₂=>
       wpAny (model prog w) A (forIn ifs true λc r=>if r=true then do let ok <- isTrue c env (eval c env);pure (ForInStep.yield ok) else pure (ForInStep.yield r)) (λok s₃=>
        if ok=true then wpAny (model prog w) A (eval elt env) (λx s₄=>
         wpAny (model prog w) A (call (.builtin "list.append") [acc,x]) (λ_ s₅=>∃m,m<n/\I m s₅) (notedBy (model prog w) A env λe s'=>R (.error e) s') s₄) (notedBy (model prog w) A env λe s'=>R (.error e) s') s₃
        else ∃m,m<n/\I m s₃) (notedBy (model prog w) A env λe s'=>R (.error e) s') s₂) (notedBy (model prog w) A env λe s'=>R (.error e) s') s₁')
       (notedBy (model prog w) A env λe s'=>R (.error e) s') s₁) (notedBy (model prog w) A env λe s'=>R (.error e) s') s)(n:Nat)(h:I n s):codeAny (model prog w) A (.compLoop (.ListComp elt [⟨target,iter,ifs,0⟩] scope pos) 0 it acc env) R s:=by
 refine codeAny_loop rfl I (λn s hI=>?_) n h;show wpAny _ A ((compTurn (.ListComp elt [⟨target,iter,ifs,0⟩] scope pos) 0 it acc env).onRaise (λx=>do noteFrame x env;theTreesLotGoes x)) _ _ s;refine wpAny_noted ?_;rw[compTurn_list];refine wpAny_bind (wpAny_standAt (wpAny_bind (wpAny_mono (turn n s hI) (λr s₁ h₁=>?_) λ_ _ h'=>h')));cases r with
 |none=>exact wpAny_pure h₁
 |some v=>
   refine wpAny_bind (wpAny_mono h₁ (λ_ s₁' h₁'=>?_) λ_ _ h'=>h');refine wpAny_bind (wpAny_mono h₁' (λ_ s₂ h₂=>wpAny_bind (wpAny_mono h₂ (λok s₃ h₃=>?_) λ_ _ h'=>h')) λ_ _ h'=>h');cases ok with
   |false=>exact wpAny_pure ⟨rfl,h₃⟩
   |true=>exact wpAny_bind (wpAny_bind (wpAny_mono h₃ (λx s₄ h₄=>wpAny_bind (wpAny_mono h₄ (λ_ s₅ h₅=>wpAny_pure (wpAny_pure ⟨rfl,h₅⟩)) λ_ _ h'=>h')) λ_ _ h'=>h'))
end
def Fw(X:Cx)(ifs:qap)(t:TT):Prop :=
 ∀(pins:qaa)(s:Shared)(σ:St)(H:Hp)(Q:Bool->Hp->Prop),Inv X pins σ H s->t σ H Q ->
  wpAny (model X.prog X.w) X.A (forIn ifs true λc r=>if r=true then do let ok <- isTrue c X.env (eval c X.env);pure (ForInStep.yield ok) else pure (ForInStep.yield r)) (TP X pins σ Q) X.xe s
def Zo:TT:=λ_ H Q=>Q true H
theorem Kh:Fw X [] Zo:=λ_ _ _ H _ I h=>wpAny_tests_nil ⟨H,I,h⟩
theorem Ki{t:TT}(h:PT X c t):Fw X [c] t:=λpins s σ H Q I hw=>wpAny_tests_one (h pins s σ H Q I hw)
def Fx(J:It)(g:TG)(tt:TT)(te:TE)(n:Nat)(σ:St)(D:Addr)(Q:Hp->Prop)(H1:Hp):Prop :=
 ∃W:Nat->Nat->qak->Hp->Prop,(∃m,W 0 m [] (upd H1 D (.lst [])))/\∀i m acc H2,W i m acc H2->H2 D=some (.lst acc) /\
  ((J.stop i H2/\Q H2)\/(J.go i H2/\acc.length<sizeLine/\∀x H3,J.Ui i H2 x H3->g x (σ++List.replicate n none) H3 λσ4 H4=>(σ4.length=σ.length+n/\∀(i:Nat) v,σ[i]?=some (some v)->σ4[i]?=some (some v)) /\
   tt σ4 H4 λb H5=>if b=true then te σ4 H5 λy H6=>H6 D=some (.lst acc)/\∃m',m'<m/\W (i+1) m' (acc++[y]) (upd H6 D (.lst (acc++[y]))) else ∃m',m'<m/\W (i+1) m' acc H5))
section
variable{s:Shared}{ts:qai}{cl:List (Str×Addr)}
theorem C8{Y:Cx}{pl:qaa}{σ4:St}(I:Inv Y pl σ4 H' s')(hl:σ4.length=σ.length+n)(hs:∀(i:Nat) v,σ[i]?=some (some v)->σ4[i]?=some (some v)) :
  Inv Y pl (σ++List.replicate n none) H' s':=by
 refine I.weak (by rw[nX,zi,hl]) λi v e=>?_;by_cases hi:i<σ.length;rw[mY hi] at e;exact hs i v e;rw[oI (by omega),CA] at e;split at e<;>cases e
theorem xc{elt tg:Expr}{ifs:qap}{pos:Pos}{it:Addr}{tn:Nat->Heap->Prop}{J:It}{g:TG}{tt:TT}{Q:Hp->Prop}{RR:Value->Addr->Result->Shared->Prop}(hc:X.calm=true)(I:Inv X pins σ H s)(T:Turn X.prog X.w X.K tg J fp it tn)(st:tn 0 s.heap)(hf:∀b∈fp,oM X pins H b)(hS:pM X.N ts X.env.scope sc)(c1:∀y c,cl.lookup y=some c->X.env.cells.lookup y=some c)(c2:∀p∈sc.names,p.2=.free->∃c,cl.lookup p.1=some c)(hg:∀C,PG (bB X ts sc cl C fp s H) tg g)(ht:∀C,Fw (bB X ts sc cl C fp s H) ifs tt)(he:∀C,PE (bB X ts sc cl C fp s H) elt te)(hw:Fx J g tt te ts.length σ s.heap.objs.size Q H)(fin:∀(C:Addr) (H':Hp) (s':Shared) (σ':St),s.heap.objs.size<=C->Inv (bB X ts sc cl C fp s H) [] σ' H' s'->Q H'->RR (.ref s.heap.objs.size) C (.ok .next) s') :
  wpAny (model X.prog X.w) X.A (newList []) (λacc s₃=>wpAny (model X.prog X.w) X.A (newFunctionEnv sc X.env.globals cl [] X.env.qual none .none (some X.env)) (λUY s₄=>
   codeAny (model X.prog X.w) X.A (.compStart (.ListComp elt [⟨tg,iter,ifs,0⟩] sc pos) 0 (.ref it) acc {UY with scope:=relabel sc X.env}) (RR acc UY.locals) s₄) E s₃) E s:=by
 obtain⟨W,⟨m0,w0⟩,turn⟩:=hw;have Zp:=T.obj 0 _ st;have PB:∀b∈fp,∃o,s.heap.get? b=some o:=λb hb=>let ⟨o,e,_⟩:=Zp b hb;⟨o,e⟩;refine wpAny_newObj_type (wpAny_newFunctionEnv hS.Fv (by intro y hy;simp at hy) (λh₁ PD Kj=>?_) hS.kind);dsimp only at PD Kj ⊢;generalize Zq:s.heap.push {cls:=.type "list",dict:=none,data:=.seq ([]:qag).toArray}=H2 at PD Kj ⊢;have hC:H2.objs.size=s.heap.objs.size+1:=by rw[<- Zq,T6]
 have XT:s.heap.objs.size≠H2.objs.size:=by rw[hC];exact nY (EM _)
 have UZ:s.heap.objs.size<=H2.objs.size:=by rw[hC];exact S7 _
 have below:∀b,b<s.heap.objs.size->b≠H2.objs.size/\b≠s.heap.objs.size:=λb hb=>⟨by rw[hC];exact nY (OE hb),nY hb⟩;have old:∀b o,s.heap.get? b=some o->h₁.get? b=some o:=λb o e=>Kj.extBut b o (below b (iY e)).1 (mV _ (Zq▸mV _ e));have Zr:h₁.get? s.heap.objs.size=some {cls:=.type "list",data:=.seq ([]:qag).toArray}:=Kj.extBut _ _ XT (mV _ (Zq▸sR _ rfl));have U0:tn 0 h₁:=T.keep _ _ _ st λb hb o e=>old b o e;have fresh:H s.heap.objs.size=none:=I.cn.fresh (c3 _);have iE:∀{H':Hp},(∀b∈fp,H' b=none)->∀b∈fp,oM (bB X ts sc cl H2.objs.size fp s H) [] H' b:=λ{H'} hn b hb=>by obtain⟨o,e⟩:=PB b hb;refine⟨hn b hb,λz=>?_,By I hf b hb,.inl hb,λx c e z=>(hf b hb).2.2.2.2.1 x c (c1 x c e) z,λp hp=>absurd (show p∈([]:qaa) from hp) (by simp)⟩;have z':b=H2.objs.size:=z;exact (below b (iY e)).1 z'
 have tw:∀b∈fp,(upd H s.heap.objs.size (.lst [])) b=none:=λb hb=>by obtain⟨o,e⟩:=PB b hb;rw[aE (nY (iY e))];exact (hf b hb).1
 have eN:(ts.map λ_=>(none:Option V))=List.replicate ts.length none:=List.map_const';have loop:∀s₃:Shared,s₃={s with heap:=h₁,toks:=s.toks+([]:List (Str×Value)).length} ->
   codeAny (model X.prog X.w) X.A (.compLoop (.ListComp elt [⟨tg,iter,ifs,0⟩] sc pos) 0 (.ref it) (.ref s.heap.objs.size) (compEnvC sc cl H2.objs.size X.env)) (RR (.ref s.heap.objs.size) H2.objs.size) s₃:=by
  rintro s₃ rfl;have J0:=Kg (ts:=ts) (t:=s.toks+([]:List (Str×Value)).length) I hf PB hS c1 c2 UZ (c3 _) XT old PD Zr;rw[eN] at J0;refine kj (λn s'=>∃i acc H',Inv (bB X ts sc cl H2.objs.size fp s H) [] (σ++List.replicate ts.length none) H' s'/\tn i s'.heap/\(∀b∈fp,H' b=none)/\W i n acc H') ?_ m0 ⟨0,[],_,J0,U0,tw,w0⟩;rintro n s3 ⟨i,acc,H3,J3,Um,Uo,w3⟩;obtain⟨hD3,alt⟩:=turn i n acc H3 w3;obtain⟨stop,q⟩|⟨go,hz,step⟩:=alt
  . refine bZ (T.done (bB X ts sc cl H2.objs.size fp s H) rfl rfl rfl hc i [] s3 _ H3 _ J3 (iE Uo) Um stop) λr s4 ⟨hr,J4⟩=>?_;subst hr;exact fin _ H3 s4 _ UZ J4 q
  refine bZ (T.item (bB X ts sc cl H2.objs.size fp s H) rfl rfl rfl hc i [] s3 _ H3 _ J3 (iE Uo) Um go) λr s4 ⟨u,hr,h4⟩=>?_;subst hr;refine bZ h4 λ_ s5 ⟨x,H5,J5,r5,y5,O7,Y4⟩=>?_;have J5':=J5.pinned (iE Y4) (T.obj _ _ O7);have again:∀{σ7:St}{H7:Hp}{s7:Shared},Inv (bB X ts sc cl H2.objs.size fp s H) ([]++pF fp s5.heap) σ7 H7 s7->(σ7.length=σ.length+ts.length/\∀(i:Nat) v,σ[i]?=some (some v)->σ7[i]?=some (some v))->∀PF m',W (i+1) m' PF H7->m'<n ->
    ∃m,m<n/\∃i acc H',Inv (bB X ts sc cl H2.objs.size fp s H) [] (σ++List.replicate ts.length none) H' s7/\tn i s7.heap/\(∀b∈fp,H' b=none)/\W i m acc H':=λ{σ7 H7 s7} I7 hσ PF m' w7 hm=>by
   refine⟨m',hm,i+1,PF,H7,C8 I7.lT hσ.1 hσ.2,T.keep _ _ _ O7 λb hb o e=>(I7.pin (b,o) (bU _ (bU _ (iF hb e)))).1,λb hb=>?_,w7⟩;obtain⟨o,e,d⟩:=T.obj _ _ O7 b hb;exact (I7.pin (b,o) (bU _ (bU _ (iF hb e)))).2.1
  refine wpAny_mono (hg H2.objs.size _ s5 _ H5 x u _ J5' r5 (step x H5 y5)) (λ_ s6 ⟨σ6,H6,J6,hσ,q6⟩=>?_) λ_ _ z=>False.elim z;refine wpAny_mono (ht H2.objs.size _ s6 σ6 H6 _ J6 q6) (λb s7 ⟨H7,J7,q7⟩=>?_) λ_ _ z=>False.elim z;cases b with
  |false=>obtain⟨m',hm,w7⟩:=q7;exact again J7 hσ acc m' w7 hm
  |true=>show wpAny _ _ _ _ _ _;refine wpAny_mono (he H2.objs.size _ s7 σ6 H7 _ J7 q7) (λy s8 ⟨yv,H8,J8,ry,hD8,m',hm,w8⟩=>?_) λ_ _ z=>False.elim z;refine wpAny_mono (bO (X:=bB X ts sc cl H2.objs.size fp s H) _ s8 σ6 H8 (.ref s.heap.objs.size) [yv] (.ref s.heap.objs.size) [y] (λv H9=>v=.aQ/\H9=upd H8 s.heap.objs.size (.lst (acc++[yv]))) J8 rfl (.cons ry .nil) ⟨_,acc,yv,rfl,rfl,hD8,hz,rfl,rfl⟩) (λv9 s9 ⟨v,H9,J9,_,_,e9⟩=>?_) λ_ _ z=>False.elim z;subst e9;exact again J9 hσ (acc++[yv]) m' w8 hm
 exact codeAny_compStart_list (loop _ rfl) (T.self _ 0 _ _ _ U0 (loop _ rfl))
def Fy(n:Nat)(wi:TI)(g:TG)(tt:TT)(te:TE):TE:=λσ H Q=>wi σ H λJ H1=>∀D,H1 D=none->Fx J g tt te n σ D (Q (.ref D)) H1
theorem xf(I:Inv X pins σ H s)(hS:pM X.N ts X.env.scope sc):∀p∈sc.names,p.2=.free->∃c,X.env.cells.lookup p.1=some c:=λp hp hf=>by
 rcases hS.fr p hp hf with z|z
 exact I.ok.has p.1 (.inl z);exact I.ok.has p.1 (.inr z)
theorem Kk{elt tg:Expr}{ifs:qap}{pos:Pos}{wi:TI}{g:TG}{tt:TT}(hc:X.calm=true)(hS:jm X.N ts X.env.scope sc=true)(hi:PI X tg iter wi)(hg:∀cl C fp s H,PG (bB X ts sc cl C fp s H) tg g)(ht:∀cl C fp s H,Fw (bB X ts sc cl C fp s H) ifs tt)(he:∀cl C fp s H,PE (bB X ts sc cl C fp s H) elt te)(hs:∀x,foldedSetIterable iter X.env x=pure x:=by intro _;rfl):PE X (.ListComp elt [⟨tg,iter,ifs,0⟩] sc pos) (Fy ts.length wi g tt te):=by intro pins s σ H Q I h;have S:=tq hS;obtain⟨cl,Fz,c1,c2⟩:=i4 (xf I S);rw[eval_ListComp];refine wpAny_comprehension_free (use:=none) rfl hs Fz S.kind S.names ?_;refine bZ (hi pins s σ H _ I h) λv s1 h1=>bZ h1 λXM s2 h2=>?_;obtain⟨it,fp,tn,J,H2,e,I2,T,wV,f2,q2⟩:=h2;subst e;refine xc (E:=X.xe) (RR:=λacc C=>compPost (model X.prog X.w) X.A X.xe none (EP X pins σ Q) acc C) hc I2 T wV f2 S c1 c2 (λC=>hg cl C fp s2 H2) (λC=>ht cl C fp s2 H2) (λC=>he cl C fp s2 H2) (q2 _ (I2.cn.fresh (c3 _))) ?_;intro C H' s' σ' hC J' q';obtain⟨m,hn,_⟩:=J'.loc;refine⟨m,hn,λh' sb=>?_⟩;have I':=xb I2 f2 J';have fk:=I2.pD (H':=H') hC J'.free;obtain⟨f0,f1,_,f3,f4,f5⟩:=fk;exact⟨.ref _,H',I'.turned (t':=s'.toks) (λb o hb e=>(sb.2 b hb).trans e) f0 f1 f3 f4 f5,rfl,q'⟩
theorem Kl{py:Pos}{pN:Pos}{elt tg:Expr}{ifs:qap}{pos:Pos}{wi:TI}{g:TG}{tt:TT}(hN:X.N.Nodup)(hy:X.N[i]?=some y)(hx:Loc X.env.scope y)(hc:X.calm=true)(hS:jm X.N ts X.env.scope sc=true)(hi:PI X tg iter wi)(hg:∀cl C fp s H,PG (bB X ts sc cl C fp s H) tg g)(ht:∀cl C fp s H,Fw (bB X ts sc cl C fp s H) ifs tt)(he:∀cl C fp s H,PE (bB X ts sc cl C fp s H) elt te)(FC:swapsWith (.ListComp elt [⟨tg,iter,ifs,0⟩] sc pos) (some (.Name y py)) pN.line X.env=pure true:=by rfl)(hs:∀x,foldedSetIterable iter X.env x=pure x:=by intro _;rfl)(hf:X.fn y=true\/X.env.scope.names.lookup y=some .local:=by first|exact .inl rfl|exact .inr rfl|assumption) :
  PS X (.Assign [.Name y py] (.ListComp elt [⟨tg,iter,ifs,0⟩] sc pos) pN) (JP (Fy ts.length wi g tt te) (kn i)):=by
 intro pins s σ H D I h;have S:=tq hS;obtain⟨cl,Fz,c1,c2⟩:=i4 (xf I S);rw[exec_Assign_Name_used _ _ _ _ FC];refine wpAny_bind (wpAny_standAt (wpAny_bind ?_));show wpAny _ X.A (do let _ <- comprehension (.ListComp elt [⟨tg,iter,ifs,0⟩] sc pos) sc X.env _ (newList []) false (eval iter X.env) (some (assign (.Name y py) X.env))) _ _ s;refine wpAny_bind (wpAny_mono (wpAny_comprehension_free (use:=some (assign (.Name y py) X.env)) (Q:=λ_ s'=>SP X pins D .next s') (E:=X.xe) rfl hs Fz S.kind S.names ?_) (λ_ s' hq=>wpAny_pure (wpAny_pure hq)) λ_ _ e=>e);refine bZ (hi pins s σ H _ I h) λv s1 h1=>bZ h1 λXM s2 h2=>?_;obtain⟨it,fp,tn,J,H2,e,I2,T,wV,f2,q2⟩:=h2;subst e;refine xc (E:=X.xe) (RR:=λacc C=>compPost (model X.prog X.w) X.A X.xe (some (assign (.Name y py) X.env)) (λ_ s'=>SP X pins D .next s') acc C) hc I2 T wV f2 S c1 c2 (λC=>hg cl C fp s2 H2) (λC=>ht cl C fp s2 H2) (λC=>he cl C fp s2 H2) (q2 _ (I2.cn.fresh (c3 _))) ?_;intro C H' s' σ' hC J' q';obtain⟨m,hn,_⟩:=J'.loc;have I':=xb I2 f2 J';have fk:=I2.pD (H':=H') hC J'.free;obtain⟨f0,f1,_,f3,f4,f5⟩:=fk;show wpAny _ X.A (assign (.Name y py) X.env (.ref s2.heap.objs.size)) _ _ s';refine wpAny_assign_Name (sU (v:=.ref s2.heap.objs.size) I' hN hy hx rfl (λs3 I3 ⟨a,sb,ha⟩=>?_) hf);have hCa:C≠a:=by
  obtain z|z:=ha
  rw[z];exact f1;exact λe=>f4 y a z e.symm
 refine⟨m,hn.sameBut sb hCa,λh' sb'=>?_⟩;exact⟨_,H',I3.turned (t':=s3.toks) (λb o hb e=>(sb'.2 b hb).trans e) f0 f1 f3 f4 f5,q'⟩
end
def XU(x:Str):It:=⟨λi _=>i<x.cps.size,λi H v H'=>H'=H/\∃c,x.cps[i]?=some c/\v=.str ⟨#[c]⟩,λi _=>x.cps.size<=i⟩
theorem fD(x:Str):(strIterType x="str_ascii_iterator")\/(strIterType x="str_iterator"):=by unfold strIterType;cases x.cps.all (·<128);exact .inr rfl;exact .inl rfl
theorem FD{tg:Expr}(x:Str)(t:Tok)(it:Addr):Turn P w K tg (XU x) [it] it (λi h=>h.IsStrIter it (strIterType x) x t i) where
 mem:=by simp
 obj:=λi h st b hb=>by
  have e:b=it:=by simpa using hb
  subst e;obtain⟨o,e,c,d⟩:=st;exact⟨o,e,λv z=>by rw[d] at z;cases z⟩
 keep:=λi h h' st k=>by obtain⟨o,e,c,d⟩:=st;exact⟨o,k it (by simp) o e,c,d⟩
 item:=by
  intro X hP hw hK hc i pins s σ H E I hf st hg;subst hP hw hK;obtain⟨f0,f1,f2,f3,f4,f5⟩:=hf it (by simp);have hi:i<x.cps.size:=hg;have hx:x.cps[i]?=some x.cps[i]:=by simp[hi]
  have fin:∀h',h'.IsStrIter it (strIterType x) x t (i+1)->Heap.SameBut it s.heap h'->∃u,(some (Value.str ⟨#[x.cps[i]]⟩ s.toks):Option Value)=some u /\
    wpAny (model X.prog X.w) X.A (letOwnedTupleGo tg (.ref it) u) (λ_ s2=>∃y H',Inv X pins σ H' s2/\RelV y u/\(XU x).Ui i H y H'/\Heap.IsStrIter s2.heap it (strIterType x) x t (i+1)/\∀b∈[it],H' b=none) E {s with heap:=h',toks:=s.toks+1}:=λh' zv sb=>by
   have I1:Inv X pins σ H {s with heap:=h',toks:=s.toks+1}:=I.turned (t':=s.toks+1) (λb o hb e=>(sb.2 b hb).trans e) f0 f1 f3 f4 f5;obtain⟨o,e,c,d⟩:=id zv;refine⟨_,rfl,Bo (s:={s with heap:=h',toks:=s.toks+1}) e c d ?_ ⟨.str ⟨#[x.cps[i]]⟩,H,I1,⟨_,rfl⟩,⟨rfl,_,hx,rfl⟩,zv,λb hb=>(hf b hb).1⟩⟩;rcases fD x with z|z<;>rw[z]<;>decide
  rcases fD x with z|z
  rw[z] at st fin;refine wpAny_pyNext_ascii_item st hx λh' zv sb=>?_;have:=fin h' zv sb;rw[<- z] at this;simpa[z] using this;rw[z] at st fin;refine wpAny_pyNext_wide_item st hx λh' zv sb=>?_;have:=fin h' zv sb;simpa[z] using this
 done:=by
  intro X hP hw hK hc i pins s σ H E I hf st hg;subst hP hw hK;obtain⟨f0,f1,f2,f3,f4,f5⟩:=hf it (by simp);have hi:x.cps.size<=i:=hg;have hx:x.cps[i]?=none:=by simp[hi]
  rcases fD x with z|z
  rw[z] at st;exact wpAny_pyNext_ascii_end (I.ok.hd hc) st hx λh' eb=>⟨rfl,I.turned (t':=s.toks) (λb o hb e=>eb b o hb e) f0 f1 f3 f4 f5⟩;rw[z] at st;exact wpAny_pyNext_wide_end (I.ok.hd hc) st hx λh' eb=>⟨rfl,I.turned (t':=s.toks) (λb o hb e=>eb b o hb e) f0 f1 f3 f4 f5⟩
 self:=λA i s Q E st h=>by
  rcases fD x with z|z
  rw[z] at st;exact wpAny_pyIter_striter_ascii st h;rw[z] at st;exact wpAny_pyIter_striter_wide st h
section
variable{tg:Expr}
theorem pO(hc:X.calm=true):eX X (.builtin "all") (λxs H Q=>∃(p:Addr)(bs:List Bool),xs=[.ref p]/\ia X.K H p (bs.map V.bl)/\Q (.bl (bs.all id)) H):=by
 intro pins s σ H xs us Q I r h;obtain⟨p,bs,rfl,hq,q⟩:=h;obtain⟨u,rfl,rx⟩:=vals1 r;cases rx;obtain⟨a5,rv,pl,hz⟩:=I.list hq;refine call_all_walk (wpAny_pyIter_list pl.isList ?_);have j5:p<s.heap.objs.size:=by obtain⟨o,n,e,_⟩:=pl;exact iY e
 have gK:p≠s.heap.objs.size:=nY j5;have hh:X.A.in1.handled=none:=I.ok.hd hc;refine⟨s.heap.objs.size,_,_,_,_,_,λi=>bs.getD i true,rfl,Walks.list hh s.heap.objs.size p gK a5.toArray,⟨⟨_,sR _ rfl,rfl,rfl⟩,pl.isList.push _⟩,?_,λh' tk k=>?_⟩;intro i v s' Q' E' hP hQ;have U1:a5[i]?=some v:=by simpa using hP
 have hb:i<bs.length:=by have:=rv.length;have h2:=(dS.mp U1).1;rw[cV] at this;omega
 obtain⟨u,e1,r1⟩:=rv.get (i:=i) (x:=.bl bs[i]) (by simp[hb]);rw[U1] at e1;cases e1;obtain rfl:v=Value.bool bs[i]:=r1;have e3:bs.getD i true=bs[i]:=by simp[List.getD,hb]
 dsimp only at hQ;rw[e3] at hQ;exact wpAny_truthy_bool hQ;have hl:a5.toArray.size=bs.length:=by have:=rv.length;rw[cV] at this;rw[iX];omega
 have e:(List.range a5.toArray.size).all (λi=>bs.getD i true)=bs.all id:=by rw[hl,T3,OF,OF];constructor;intro h x hx;obtain⟨i,hi,e⟩:=List.mem_iff_getElem.mp hx;have:=h i (Bg.mpr hi);simp only[List.getD,kD hi,XG] at this;rw[<- e];exact this;intro h i hi;have FH:=Bg.mp hi;simp only[List.getD,kD FH,XG];exact h _ (SV FH)
 rw[e];refine⟨.bl (bs.all id),H,?_,rfl,q⟩;have I0:Inv X pins σ H {s with heap:=s.heap.push {cls:=.type "list_iterator",data:=.fields #[.ref p,.int 0 0]} }:=I.kept (t':=s.toks) λb o e=>mV _ e;have fk:=I.pD (H':=H) (c3 s.heap.objs.size) I.fresh;obtain⟨f0,f1,_,f3,f4,f5⟩:=fk;exact I0.turned (t':=tk) (λb o hb e=>k b o (by simpa using hb) e) f0 f1 f3 f4 f5
theorem rV:Nv X "str.startswith" (λx xs H Q=>∃z y,x=.str z/\xs=[.str y]/\Q (.bl (Txt.startswith z y)) H):=by intro pins s σ H x xs v us Q I rx rs h;obtain⟨z,y,rfl,rfl,q⟩:=h;obtain⟨t,rfl⟩:=rx;obtain⟨u,rfl,t',rfl⟩:=vals1 rs;exact SC.startswith ⟨.bl _,H,I,rfl,q⟩
theorem pP:∀{ys:qai}{us:qag},Vals (ys.map V.str) us->StrsAre us ys
 |[],us,r=>by rw[JF] at r;cases r;exact .nil
 |y::ys,us,r=>by
  rw[gR] at r;cases r with
  |cons r1 r2=>obtain⟨t,e⟩:=r1;subst e;exact .cons y t (pP r2)
theorem Km:Nv X "str.join" (λx xs H Q=>∃(z:Str)(p:Addr)(ys:qai),x=.str z/\xs=[.ref p]/\ia X.K H p (ys.map V.str)/\(ys.map (·.length)).sum+ys.length * z.length<=16777216/\Q (.str (Txt.join z ys)) H):=by intro pins s σ H x xs v us Q I rx rs h;obtain⟨z,p,ys,rfl,rfl,hq,hz,q⟩:=h;obtain⟨t,rfl⟩:=rx;obtain⟨u,rfl,r1⟩:=vals1 rs;cases r1;obtain⟨a5,rv,pl,_⟩:=I.list hq;exact join_list pl.isList (by simpa using pP rv) hz λt' k=>⟨.str _,H,I.tok _,⟨_,rfl⟩,q⟩
def U2:V->Option Int->Option Int->Hp->VK->Prop:=λx lo hi H Q=>∃z,x=.str z/\z.length<=sizeLine/\Q (.str (Txt.slice z lo hi)) H
theorem PH:Fl X U2:=by
 intro pins s σ H x v vl vu lo hi sl Q I rx hs pl pu h;obtain⟨z,rfl,hz,q⟩:=h;obtain⟨t,rfl⟩:=rx;obtain⟨o,e,c,d⟩:=hs;refine⟨"str",_,slot_str_getitem.lookup,typeIs_str _ _ _,?_⟩;cases pl with
 |none=>
  cases pu with
  |none=>exact wpAny_getItem_str_slice (l:=none) (u:=none) (st:=none) ⟨o,e,c,d⟩ rfl (post_val_or_str ⟨ly (Txt.slice_le z _ _) hz,λt' k=>⟨.str _,H,I.tok _,⟨_,rfl⟩,q⟩⟩)
  |int j tj=>exact wpAny_getItem_str_slice (l:=none) (u:=some (j,tj)) (st:=none) ⟨o,e,c,d⟩ rfl (post_val_or_str ⟨ly (Txt.slice_le z _ _) hz,λt' k=>⟨.str _,H,I.tok _,⟨_,rfl⟩,q⟩⟩)
 |int i ti=>
  cases pu with
  |none=>exact wpAny_getItem_str_slice (l:=some (i,ti)) (u:=none) (st:=none) ⟨o,e,c,d⟩ rfl (post_val_or_str ⟨ly (Txt.slice_le z _ _) hz,λt' k=>⟨.str _,H,I.tok _,⟨_,rfl⟩,q⟩⟩)
  |int j tj=>exact wpAny_getItem_str_slice (l:=some (i,ti)) (u:=some (j,tj)) (st:=none) ⟨o,e,c,d⟩ rfl (post_val_or_str ⟨ly (Txt.slice_le z _ _) hz,λt' k=>⟨.str _,H,I.tok _,⟨_,rfl⟩,q⟩⟩)
end
theorem aK{D:Addr}{o:HO}(h:H D=none):aY H (upd H D o):=λb u e=>by rw[aE (bo e h)];exact e
section
variable{s:Shared}
theorem Inv.grown{ch:qah}{t:Addr}{o:HO}(I:Inv X pins σ H s)(k:∀b u,b∉ch->s.heap.get? b=some u->h'.get? b=some u)(hf:∀b∈ch,oM X pins H b)(ht:s.heap.objs.size<=t)(new:cy X.prog X.w (upd H t o) h' t o):Inv X pins σ (upd H t o) {s with heap:=h',toks:=t'}:=by
 have hn:H t=none:=I.cn.fresh ht;have Nj:∀b u,H b=some u->b∉ch:=λb u e z=>by rw[(hf b z).1] at e;cases e
 refine I.step (g':=s.gens) (d':=s.drawn) (ch:=ch) (λb hb=>?_) (λb u _ _ hc e _=>k b u hc e) (λb u _ _ hc e _=>⟨u.slots,k b u hc e⟩) (λb u _ e n=>?_) (λb u hc e=>⟨u,k b u hc e⟩)
  (λb xs e=>?_) (λb u v e=>?_) (λb ps e=>⟨#[],?_⟩) (λm hm=>?_) (λb u e=>?_) I.bare
 obtain⟨_,f1,_,f3,f4,f5⟩:=hf b hb;exact⟨f3,f1,f4,f5⟩;rw[aE (nY (wx (iY e) ht))];exact n;rw[aE (bo e hn)];exact e;rw[aE (bo e hn)];exact e;rw[aE (bo e hn),e];simp;obtain⟨ob,es,ep,ho,r⟩:=hm;exact⟨ob,es,ep,k _ ob (λz=>(hf _ z).2.1 rfl) ho,r⟩;by_cases hb:b=t;subst hb;rw[aI] at e;cases e;exact new;rw[aE hb] at e;refine (I.cn b u e).CH (λc v hc q=>k c v ?_ q) (λc q=>by rw[aE (bo q hn)];exact q) λc xs q=>by rw[aE (bo q hn)];exact q
 obtain z|z:=hc
 rw[z];exact Nj b u e;exact Nj c _ z
end
def Zs(K:qaf)(a:Addr):It :=
 ⟨λi H=>∃xs x,ia K H a xs/\xs[i]?=some x,λi H v H'=>∃t x,H t=none/\v=.ref t/\(∀xs,ia K H a xs->xs[i]?=some x)/\H'=upd H t (.tup [.int (i:Int),x]),λi H=>∃xs,ia K H a xs/\xs.length<=i⟩
theorem C9{elts:qap}{x1}{tp:Pos}(a e it:Addr)(gK:e≠it) :
  Turn P w K (.Tuple elts x1 tp) (Zs K a) [e,it] e (λi h=>(∃old,IsEnum h e it (i:Int) old)/\h.IsListIter it a i) where
 mem:=by simp
 obj:=λi h st b hb=>by
  obtain⟨⟨old,h1⟩,o,h2,c,d⟩:=st;rcases cT.mp hb with z|z
  subst z;exact⟨_,h1,λv z=>by cases z⟩;have z':b=it:=by simpa using z
  subst z';exact⟨o,h2,λv z=>by rw[d] at z;cases z⟩
 keep:=λi h h' st k=>by obtain⟨⟨old,h1⟩,wV⟩:=st;exact⟨⟨old,k e (by simp) _ h1⟩,wV.at λo q=>k it (by simp) o q⟩
 item:=by
  intro X hP hw hK hc i pins s σ H E I hf st hg;subst hP hw hK;obtain⟨xs,x,hq,hx⟩:=hg;obtain⟨a5,rv,p,hz⟩:=I.list hq;obtain⟨u,hu,ru⟩:=rv.get hx;obtain⟨⟨old,h1⟩,wV⟩:=st;refine wpAny_pyNext_enum_item h1 wV p.isList (x:=u) (by simpa using hu) gK λh₁ Jm PJ Zt hz₁ Zu=>?_;refine⟨_,rfl,wpAny_letOwnedTupleGo_enum Jm λh₂ Zv Zw=>?_⟩;have zS:Heap.SameBut e h₁ h₂:=Zw;have j5:e<s.heap.objs.size:=iY h1;have Zx:s.heap.objs.size≠e:=Nh j5;have kk:∀b ob,b∉[e,it]->s.heap.get? b=some ob->h₂.get? b=some ob:=λb ob hb q=>by have CI:b≠e:=λz=>hb (by simp[z]);have hbi:b≠it:=λz=>hb (by simp[z]);exact (zS.2 b CI).trans (Zu b ob CI hbi q)
  have new:cy X.prog X.w (upd H s.heap.objs.size (.tup [.int (i:Int),x])) h₂ s.heap.objs.size (.tup [.int (i:Int),x]) :=
   ⟨by show 2<=sizeLine;rw[sizeLine_eq];decide,[.int i s.toks,u],.cons ⟨_,rfl⟩ (.cons ru .nil),⟨_,(zS.2 _ Zx).trans Zt,rfl,_,rfl⟩⟩
  refine⟨.ref s.heap.objs.size,upd H s.heap.objs.size (.tup [.int (i:Int),x]),I.grown (t':=s.toks+1) kk hf (c3 _) new,rfl,⟨_,x,I.fresh,rfl,λys hy=>by rw[I.pA hy hq];exact hx,rfl⟩,⟨⟨u,?_⟩,?_⟩,λb hb=>?_⟩;have:((i:Int)+1)=((i+1:Nat):Int):=by omega
  rw[<- this];exact Zv;obtain⟨o,q,r⟩:=PJ;exact⟨o,(zS.2 it (Ne.symm gK)).trans q,r⟩;have PK:b<s.heap.objs.size:=by
   rcases cT.mp hb with z|z
   subst z;exact j5;have z':b=it:=by simpa using z
   subst z';obtain⟨o,q,_⟩:=wV;exact iY q
  rw[aE (nY PK)];exact (hf b hb).1
 done:=by intro X hP hw hK hc i pins s σ H E I hf st hg;subst hP hw hK;obtain⟨xs,hq,hx⟩:=hg;obtain⟨a5,rv,p,hz⟩:=I.list hq;have hl:=rv.length;obtain⟨⟨old,h1⟩,wV⟩:=st;obtain⟨f0,f1,f2,f3,f4,f5⟩:=hf it (by simp);exact wpAny_pyNext_enum_end (I.ok.hd hc) h1 wV p.isList (by simp;omega) λh' eb=>⟨rfl,I.turned (t':=s.toks) (λb o hb q=>eb b o hb q) f0 f1 f3 f4 f5⟩
 self:=λ_ _ _ _ _ st h=>by obtain⟨⟨old,h1⟩,_⟩:=st;exact wpAny_pyIter_enum h1 h
def U3(K:qaf)(ta:TA):TI:=λσ H R=>ta σ H λvs H1=>∃a,vs=[.ref a]/\(∃xs,ia K H1 a xs)/\R (Zs K a) H1
section
theorem boot_enumerate:bootBuiltins "enumerate"=some (.type "enumerate"):=by decide +kernel
theorem Kn{elts:qap}{x1}{tp:Pos}{a:Expr}{ta:TA}{pos:Pos}(hg:Gl X "enumerate")(hm:X.mg "enumerate"=none)(ha:PA X [a] ta)(hs:starEach [a] X.env=[(false,eval a X.env)]:=by rfl) :
  PI X (.Tuple elts x1 tp) (.Call (.Name "enumerate" p) [a] [] pos) (U3 X.K ta):=by
 intro pins s σ H R I h;refine Call_ (kG I hg hm boot_enumerate (TK (bZ (ha pos pins s σ H _ I h) λus s1 ⟨vs,H1,I1,r1,q1⟩=>?_) hs rfl));obtain⟨b,e,⟨xs,hq⟩,q⟩:=q1;subst e;obtain⟨u,rfl,ru⟩:=vals1 r1;cases ru;obtain⟨a5,rv,pl,hz⟩:=I1.list hq;refine call_enumerate_list pl.isList λh' he hit hsz hk=>?_;have I2:Inv X pins σ H1 {s1 with heap:=h'}:=I1.kept (t':=s1.toks) hk;refine wpAny_pyIter_enum he ?_;refine⟨s1.heap.objs.size+1,[s1.heap.objs.size+1,s1.heap.objs.size],_,_,H1,rfl,I2,C9 b _ _ (Nh (EM _)),⟨⟨_,he⟩,hit⟩,λc hc=>?_,q⟩;rcases cT.mp hc with z|z
 subst z;exact I1.pD (S7 _) (I1.cn.fresh (S7 _));have z':c=s1.heap.objs.size:=by simpa using z
 subst z';exact I1.pD (c3 _) I1.fresh
end
end L2
namespace og
open PySem Builtin Builtin.Str
def bQ:Str:="abcdefghijklmnopqrstuvwxyz"
noncomputable def C_(c:Nat):Bool:=!(occurrences bQ ⟨#[c]⟩ 0 bQ.length 1).isEmpty
theorem Ko:C_ 46=false:=by decide +kernel
theorem zT:((".":String):Str)=⟨#[46]⟩:=by decide +kernel
noncomputable def dD(x:Str):Bool:=decide (1<=(x.length:Int)) && (decide ((x.length:Int)<=8) && x.cps.toList.all C_)
noncomputable def pQ(x:Str):Bool:=Txt.startswith x "." && dD (Txt.slice x (some 1) none)
theorem rW(h:x.cps.toList.all C_=true):Txt.startswith x "."=false:=by
 obtain⟨⟨l⟩⟩:=x;rw[zT];unfold Txt.startswith subAt;cases l with
 |nil=>rfl
 |cons c r=>
  have hc:C_ c=true:=by have:=OF.mp h c (by simp);exact this
  have ne:c≠46:=λe=>by rw[e,Ko] at hc;cases hc
  have e1:(Array.extract ({toList:=c::r}:Array Nat) 0 (0+(Str.mk #[46]).length)==(Str.mk #[46]).cps)=false:=by rw[beq_eq_false_iff_ne];intro q;have q2:=congrArg (λa=>a[0]?) q;simp[Str.length] at q2;exact ne q2
  show (decide _ && (Array.extract ({toList:=c::r}:Array Nat) 0 (0+(Str.mk #[46]).length)==(Str.mk #[46]).cps))=false;rw[e1,Bool.and_false]
theorem uF(h:dD x=true):x.cps.toList.all C_=true:=by unfold dD at h;rw[lL,lL] at h;exact h.2.2
theorem pR(x:Str):Txt.startswith ((".":String)++x) "."=true:=by obtain⟨⟨l⟩⟩:=x;rw[zT];unfold Txt.startswith subAt;rw[lL];refine⟨?_,?_⟩;apply decide_eq_true;show 0+1<=(#[46]++({toList:=l}:Array Nat)).size;simp;show (Array.extract (#[46]++({toList:=l}:Array Nat)) 0 (0+1)==#[46])=true;rw[beq_iff_eq];apply Array.ext';simp
theorem tD(x:Str):Txt.slice ((".":String)++x) (some 1) none=x:=by
 obtain⟨⟨l⟩⟩:=x;rw[zT];have hl:(Str.length (Str.mk #[46]++Str.mk {toList:=l}))=l.length+1:=by show (#[46]++({toList:=l}:Array Nat)).size=_;simp
 have hi:strSliceIndices (some 1) none 1 (l.length+1)=(List.range l.length).map (λk=>k+1):=by
  unfold strSliceIndices sliceRange;simp only[show (1:Int) > 0 by decide,if_true];have e0:max 0 (min (if (1:Int)<0 then 1+((l.length+1:Nat):Int) else 1) ((l.length+1:Nat):Int))=1:=by rw[if_neg (by decide)];omega
  rw[e0];by_cases hn:l.length=0;rw[hn];rfl;have e1:((1:Int)<((l.length+1:Nat):Int)):=by omega
  rw[if_pos e1];have e2:((((l.length+1:Nat):Int)-1+1-1) / 1).toNat=l.length:=by rw[Int.ediv_one];omega
  rw[e2];apply TZ;intro k hk;omega
 unfold Txt.slice;rw[hl,hi];have gK:¬ (((1:Int)==1 && (List.map (λk=>k+1) (List.range l.length)).length==l.length+1)=true):=by rw[lL,cV,Jf];intro q;have:=beq_iff_eq.mp q.2;omega
 rw[if_neg gK]
 congr 1
 apply Array.ext';rw[List.toList_toArray];show List.filterMap (λi=>(#[46]++({toList:=l}:Array Nat))[i]?) (List.map (λk=>k+1) (List.range l.length))=l;rw[List.filterMap_map];have e:∀k,((λi=>(#[46]++({toList:=l}:Array Nat))[i]?) ∘ λk=>k+1) k=l[k]?:=λk=>by show (#[46]++({toList:=l}:Array Nat))[k+1]?=l[k]?;rw[<- Array.getElem?_toList];simp
 rw[show ((λi=>(#[46]++({toList:=l}:Array Nat))[i]?) ∘ λk=>k+1)=λk=>l[k]? from funext e];clear e gK hi hl;induction l with
 |nil=>rfl
 |cons a r ih=>
  rw[wI,List.range_succ_eq_map,mW];simp only[Xv,List.filterMap_map]
  congr 1
end og
namespace VT
open PySem PySem.Spec PyProof.Rows L2
abbrev St:=L2.St
inductive T where
 |aQ|bl (b:Bool)|int (i:Int)|str (x:Str)|tup (l:List T)|lst (l:List T)|dk (ks:List Key) (vs:List T)|dc (nh:List Key×Key->Int) (ks:List (List Key×Key)) (vs:List T)|ins (C:Addr) (ns:qai) (vs:List T)|pin (a:Addr) (t:T)|ob (a:Addr)|ty (n:String)
def rX(K:qaf)(H:Hp)(O:qah)(a:Addr)(vs:qak):Prop :=
 (Rd H a (.lst vs)/\a∉O)\/∃(o:Obj)(a5:Array Value)(n:Nat),K.lookup a=some o/\o.cls=.type "list"/\o.dict=none/\o.data=.seq a5 n/\a5.size<=sizeLine/\Vals vs a5.toList
theorem rX.sq{O:qah}(h:rX K H O a vs):ia K H a vs:=by
 obtain h|h:=h
 exact .inl h.1;exact .inr h
def zU(H:Hp)(O:qah)(a:Addr)(u:HO):Prop:=H a=some u/\a∉O
def m_(nh:List Key×Key->Int)(a:Addr)(xs:List ((List Key×Key)×Addr×Value)):Heap->Prop:=λh=>∃o es ep,h.get? a=some o/\o.ExactDict/\o.data=.dict es ep/\es.toList=xs.map (λx=>⟨nh x.1,.ref x.2.1,x.2.2⟩)/\(xs.map (·.1)).Nodup
def oP(K:qaf)(H:Hp)(c:List Key×Key)(b:Addr):Prop:=∃d,fg K H b [.ref d,kV c.2]/\fg K H d (c.1.map kV)
mutual
def At(K:qaf)(H:Hp)(O:qah):T->V->Prop
 |.aQ,v=>v=.aQ
 |.bl b,v=>v=.bl b
 |.int i,v=>v=.int i
 |.str x,v=>v=.str x
 |.ob a,v=>v=.ref a
 |.ty n,v=>v=.ty n
 |.tup ts,v=>∃a vs,v=.ref a/\fg K H a vs/\aB K H O ts vs
 |.lst ts,v=>∃a vs,v=.ref a/\rX K H O a vs/\aB K H O ts vs
 |.dk ks ts,v=>∃a vs,v=.ref a/\ks.length=vs.length/\zU H O a (.dK (ks.zip vs))/\aB K H O ts vs
 |.dc nh ks ts,v=>∃a xs vs,v=.ref a/\zU H O a (.ext (m_ nh a xs))/\ks=xs.map (·.1)/\(a==sysModules)=false/\(∀x∈xs,oP K H x.1 x.2.1)/\Vals vs (xs.map (·.2.2))/\aB K H O ts vs
 |.pin a t,v=>v=.ref a/\At K H O t v
 |.ins C ns ts,v=>∃a dx vs,v=.ref a/\ns.length=vs.length/\zU H O a (.ins C dx (ns.zip vs))/\aB K H O ts vs
def aB(K:qaf)(H:Hp)(O:qah):List T->qak->Prop
 |[],vs=>vs=[]
 |t::ts,vs=>∃v r,vs=v::r/\At K H O t v/\aB K H O ts r
end
section
variable{O O':qah}
mutual
theorem At.map(hl:∀a vs,rX K H O a vs->rX K H' O' a vs)(ht:∀a vs,fg K H a vs->fg K H' a vs)(hd:∀a u,zU H O a u->zU H' O' a u):∀{t:T}{v:V},At K H O t v->At K H' O' t v
 |.aQ,_,h=>by simpa only[At] using h
 |.bl _,_,h=>by simpa only[At] using h
 |.int _,_,h=>by simpa only[At] using h
 |.str _,_,h=>by simpa only[At] using h
 |.ob _,_,h=>by simpa only[At] using h
 |.ty _,_,h=>by simpa only[At] using h
 |.tup ts,_,h=>by simp only[At] at h ⊢;obtain⟨a,vs,e,h1,h2⟩:=h;exact⟨a,vs,e,ht a vs h1,aB.map hl ht hd h2⟩
 |.lst ts,_,h=>by simp only[At] at h ⊢;obtain⟨a,vs,e,h1,h2⟩:=h;exact⟨a,vs,e,hl a vs h1,aB.map hl ht hd h2⟩
 |.dk ks ts,_,h=>by simp only[At] at h ⊢;obtain⟨a,vs,e,h0,h1,h2⟩:=h;exact⟨a,vs,e,h0,hd _ _ h1,aB.map hl ht hd h2⟩
 |.dc nh ks ts,_,h=>by simp only[At] at h ⊢;obtain⟨a,xs,vs,e,h0,h1,hm,h2,h3,h4⟩:=h;exact⟨a,xs,vs,e,hd _ _ h0,h1,hm,λx hx=>let ⟨d,q1,q2⟩:=h2 x hx;⟨d,ht _ _ q1,ht _ _ q2⟩,h3,aB.map hl ht hd h4⟩
 |.pin a t,_,h=>by simp only[At] at h ⊢;exact⟨h.1,At.map hl ht hd h.2⟩
 |.ins C ns ts,_,h=>by simp only[At] at h ⊢;obtain⟨a,dx,vs,e,h0,h1,h2⟩:=h;exact⟨a,dx,vs,e,h0,hd _ _ h1,aB.map hl ht hd h2⟩
theorem aB.map(hl:∀a vs,rX K H O a vs->rX K H' O' a vs)(ht:∀a vs,fg K H a vs->fg K H' a vs)(hd:∀a u,zU H O a u->zU H' O' a u):∀{ts:List T}{vs:qak},aB K H O ts vs->aB K H' O' ts vs
 |[],_,h=>by simpa only[aB] using h
 |t::ts,_,h=>by simp only[aB] at h ⊢;obtain⟨v,r,e,h1,h2⟩:=h;exact⟨v,r,e,At.map hl ht hd h1,aB.map hl ht hd h2⟩
end
theorem Rd.same{u:HO}(s:aY H H')(h:Rd H a u):Rd H' a u:=by
 obtain h|⟨o,h⟩:=h
 exact .inl (s _ _ h);exact .inr ⟨o,s _ _ h⟩
theorem fg.same(s:aY H H')(h:fg K H a vs):fg K H' a vs:=by
 obtain h|h:=h
 exact .inl (Rd.same s h);exact .inr h
theorem rX.same(s:aY H H')(h:rX K H O a vs):rX K H' O a vs:=by
 obtain h|h:=h
 exact .inl ⟨Rd.same s h.1,h.2⟩;exact .inr h
theorem At.same{t:T}(s:aY H H')(h:At K H O t v):At K H' O t v:=At.map (λ_ _ q=>q.same s) (λ_ _ q=>fg.same s q) (λ_ _ q=>⟨s _ _ q.1,q.2⟩) h
theorem aB.same{t:List T}{v:qak}(s:aY H H')(h:aB K H O t v):aB K H' O t v:=aB.map (λ_ _ q=>q.same s) (λ_ _ q=>fg.same s q) (λ_ _ q=>⟨s _ _ q.1,q.2⟩) h
theorem At.a8{t:T}(s:∀a∈O',a∈O)(h:At K H O t v):At K H O' t v :=
 At.map (λa vs q=>q.elim (λz=>.inl ⟨z.1,λm=>z.2 (s a m)⟩) .inr) (λ_ _ q=>q) (λa _ q=>⟨q.1,λm=>q.2 (s a m)⟩) h
theorem aB.a8{t:List T}{v:qak}(s:∀a∈O',a∈O)(h:aB K H O t v):aB K H O' t v :=
 aB.map (λa vs q=>q.elim (λz=>.inl ⟨z.1,λm=>z.2 (s a m)⟩) .inr) (λ_ _ q=>q) (λa _ q=>⟨q.1,λm=>q.2 (s a m)⟩) h
theorem Rd.some{u:HO}(h:Rd H a u):H a≠none:=by obtain h|⟨o,h⟩:=h<;>rw[h]<;>simp
theorem At.more{t:T}(s:∀a∈O',a∈O\/H a=none)(h:At K H O t v):At K H O' t v :=
 At.map (λa vs q=>q.elim (λz=>.inl ⟨z.1,λm=>(s a m).elim z.2 (Rd.some z.1)⟩) .inr) (λ_ _ q=>q) (λa a_ q=>⟨q.1,λm=>(s a m).elim q.2 (by rw[q.1];simp)⟩) h
theorem aB.more{t:List T}{v:qak}(s:∀a∈O',a∈O\/H a=none)(h:aB K H O t v):aB K H O' t v :=
 aB.map (λa vs q=>q.elim (λz=>.inl ⟨z.1,λm=>(s a m).elim z.2 (Rd.some z.1)⟩) .inr) (λ_ _ q=>q) (λa a_ q=>⟨q.1,λm=>(s a m).elim q.2 (by rw[q.1];simp)⟩) h
def km:HO->Bool
 |.lst _=>true
 |.dK _=>true
 |.dT _=>true
 |.ins _ _ _=>true
 |.ext _=>true
 |_=>false
theorem At.wrote{t:T}{o u:HO}(ha:a∈O)(hu:H a=some u)(hm:km u=true)(h:At K H O t v):At K (upd H a o) O t v:=by
 have ne:∀b,b∉O->b≠a:=λb hb e=>hb (by rw[e];exact ha);refine At.map (λb vs q=>?_) (λb vs q=>?_) (λb a_ q=>?_) h;obtain q|q:=q
 refine .inl ⟨?_,q.2⟩;obtain z|⟨o',z⟩:=q.1
 exact .inl (by rw[aE (ne b q.2)];exact z);exact .inr ⟨o',by rw[aE (ne b q.2)];exact z⟩;exact .inr q;obtain z|z:=q
 refine .inl ?_;obtain z|⟨o',z⟩:=z
 exact .inl (by rw[aE (E2 z hu (by intro e;subst e;cases hm))];exact z);exact .inr ⟨o',by rw[aE (E2 z hu (by intro e;subst e;cases hm))];exact z⟩;exact .inr z;exact⟨by rw[aE (ne b q.2)];exact q.1,q.2⟩
theorem aB.iff{ts:List T}:∀{vs:qak},aB K H O ts vs↔Paired (λv t=>At K H O t v) vs ts:=by
 induction ts with
 |nil=>intro vs;simp only[aB];exact⟨λe=>by subst e;exact .nil,λh=>by cases h;rfl⟩
 |cons t ts ih=>
  intro vs;simp only[aB];constructor;rintro⟨v,r,rfl,h1,h2⟩;exact .cons h1 (ih.mp h2);intro h;cases h with
  |cons h1 h2=>exact⟨_,_,rfl,h1,ih.mpr h2⟩
theorem aB.wrote{t:List T}{v:qak}{o u:HO}(ha:a∈O)(hu:H a=some u)(hm:km u=true)(h:aB K H O t v):aB K (upd H a o) O t v :=
 aB.iff.mpr (Paired.mZ (aB.iff.mp h) λ_ _ q=>q.wrote ha hu hm)
theorem aB.length{ts:List T}{vs:qak}(h:aB K H O ts vs):vs.length=ts.length:=OI (aB.iff.mp h)
theorem aB.get{ts:List T}{vs:qak}(h:aB K H O ts vs){i:Nat}{t:T}(e:ts[i]?=some t):∃v,vs[i]?=some v/\At K H O t v:=by
 have q:=aB.iff.mp h;clear h;induction q generalizing i with
 |nil=>simp at e
 |cons r _ ih=>
  cases i with
  |zero=>simp at e;subst e;exact⟨_,rfl,r⟩
  |succ i=>obtain⟨v,h1,h2⟩:=ih (i:=i) (by simpa using e);exact⟨v,by simpa using h1,h2⟩
theorem aB.cons{t:T}{ts:List T}{v:V}{vs:qak}(h:At K H O t v)(hs:aB K H O ts vs):aB K H O (t::ts) (v::vs):=by simp only[aB];exact⟨v,vs,rfl,h,hs⟩
theorem aB.nil:aB K H O [] []:=by simp only[aB]
theorem aB.append{ts us:List T}{ws:qak}(h:aB K H O ts vs)(h':aB K H O us ws):aB K H O (ts++us) (vs++ws):=by
 rw[aB.iff] at h h' ⊢;induction h with
 |nil=>exact h'
 |cons r _ ih=>exact .cons r ih
theorem aB.drop{ts:List T}(n:Nat)(h:aB K H O ts vs):aB K H O (ts.drop n) (vs.drop n):=by
 rw[aB.iff] at h ⊢;induction h generalizing n with
 |nil=>cases n<;>exact .nil
 |cons r t ih=>cases n with
  |zero=>exact .cons r t
  |succ n=>exact ih n
theorem aB.take{ts:List T}(n:Nat)(h:aB K H O ts vs):aB K H O (ts.take n) (vs.take n):=by
 rw[aB.iff] at h ⊢;induction h generalizing n with
 |nil=>cases n<;>exact .nil
 |cons r t ih=>cases n with
  |zero=>exact .nil
  |succ n=>exact .cons r (ih n)
theorem aB.set{ts:List T}{t:T}(i:Nat)(h:aB K H O ts vs)(q:At K H O t v):aB K H O (ts.set i t) (vs.set i v):=by
 rw[aB.iff] at h ⊢;induction h generalizing i with
 |nil=>exact .nil
 |cons r s ih=>cases i with
  |zero=>exact .cons q s
  |succ i=>exact .cons r (ih i)
end
mutual
def bR:T->Bool
 |.tup ts=>dG ts
 |.lst _=>false
 |.dk _ _=>false
 |.dc _ _ _=>false
 |.ins _ _ _=>false
 |.pin _ _=>false
 |_=>true
def dG:List T->Bool
 |[]=>true
 |t::ts=>bR t && dG ts
end
section
variable{O O':qah}
mutual
theorem At.bR:∀{t:T}{v:V},bR t=true->At K H O t v->At K H O' t v
 |.aQ,_,_,h=>by simpa only[At] using h
 |.bl _,_,_,h=>by simpa only[At] using h
 |.int _,_,_,h=>by simpa only[At] using h
 |.str _,_,_,h=>by simpa only[At] using h
 |.ob _,_,_,h=>by simpa only[At] using h
 |.ty _,_,_,h=>by simpa only[At] using h
 |.tup ts,_,i,h=>by simp only[At] at h ⊢;simp only[VT.bR] at i;obtain⟨a,vs,e,h1,h2⟩:=h;exact⟨a,vs,e,h1,aB.bR i h2⟩
 |.lst ts,_,i,h=>by simp only[VT.bR] at i;cases i
 |.dk _ _,_,i,h=>by simp only[VT.bR] at i;cases i
 |.dc _ _ _,_,i,h=>by simp only[VT.bR] at i;cases i
 |.ins _ _ _,_,i,h=>by simp only[VT.bR] at i;cases i
 |.pin _ _,_,i,h=>by simp only[VT.bR] at i;cases i
theorem aB.bR:∀{ts:List T}{vs:qak},dG ts=true->aB K H O ts vs->aB K H O' ts vs
 |[],_,_,h=>by simpa only[aB] using h
 |t::ts,_,i,h=>by simp only[VT.dG,lL] at i;simp only[aB] at h ⊢;obtain⟨v,r,e,h1,h2⟩:=h;exact⟨v,r,e,At.bR i.1 h1,aB.bR i.2 h2⟩
end
end
abbrev En:=List (Option (T×Bool))
structure Zc where
 H0:Hp
 P:List (Nat×Addr)
 Ox:qah
noncomputable def Zc.ex(Z:Zc)(a:Addr):Zc:={Z with Ox:=a::Z.Ox}
def cQ(K:qaf)(H:Hp)(A:qah)(a:Addr):T->Prop
 |.lst ts=>∃vs,H a=some (.lst vs)/\aB K H A ts vs
 |.dk ks ts=>∃vs,ks.length=vs.length/\H a=some (.dK (ks.zip vs))/\aB K H A ts vs
 |.ins C ns ts=>∃dx vs,ns.length=vs.length/\H a=some (.ins C dx (ns.zip vs))/\aB K H A ts vs
 |_=>False
def ng(K:qaf)(H:Hp)(A:qah):Option (T×Bool)->qar->Option V->Prop
 |none,o,_=>o=none
 |some (t,false),o,s=>o=none/\∃v,s=some v/\At K H A t v
 |some (t,true),o,s=>∃a,o=some a/\s=some (.ref a)/\cQ K H A a t
noncomputable def roots(O:HD):qah:=O.filterMap id
noncomputable def av(Z:Zc)(O:HD):qah:=roots O++Z.Ox
structure ay(K:qaf)(Z:Zc)(tm:List (T×V))(O:HD)(ρ:En)(σ:St)(H:Hp):Prop where
 lσ:σ.length=ρ.length
 lO:O.length=ρ.length
 sl:∀(i:Nat) e,ρ[i]?=some e->∃o s,O[i]?=some o/\σ[i]?=some s/\ng K H (av Z O) e o s
 nd:(roots O).Nodup
 own:∀a∈roots O,(a∈Z.P.map (·.2)\/Z.H0 a=none)/\a∉Z.Ox/\∃u,H a=some u/\km u=true
 par:∀p∈Z.P,O[p.1]?=some (some p.2)
 ox:∀a∈Z.Ox,H a≠none
 keep:∀b o,Z.H0 b=some o->b∉Z.P.map (·.2)->H b=some o
 pS:∀p∈tm,At K H (av Z O) p.1 p.2
section
variable{Z:Zc}{tm:List (T×V)}{ρ:En}
theorem cQ.map{A A':qah}{t:T}(h:cQ K H A a t)(h1:H' a=H a)(h2:∀ts vs,aB K H A ts vs->aB K H' A' ts vs):cQ K H' A' a t:=by
 cases t with
 |lst ts=>obtain⟨vs,e,q⟩:=h;exact⟨vs,h1.trans e,h2 _ _ q⟩
 |dk ks ts=>obtain⟨vs,l,e,q⟩:=h;exact⟨vs,l,h1.trans e,h2 _ _ q⟩
 |ins C ns ts=>obtain⟨dx,vs,l,e,q⟩:=h;exact⟨dx,vs,l,h1.trans e,h2 _ _ q⟩
 |_=>exact h.elim
theorem cQ.mut{A:qah}{t:T}(h:cQ K H A a t):∃u,H a=some u/\km u=true:=by
 cases t with
 |lst ts=>obtain⟨vs,e,q⟩:=h;exact⟨_,e,rfl⟩
 |dk ks ts=>obtain⟨vs,l,e,q⟩:=h;exact⟨_,e,rfl⟩
 |ins C ns ts=>obtain⟨dx,vs,l,e,q⟩:=h;exact⟨_,e,rfl⟩
 |_=>exact h.elim
theorem cQ.a8{A A':qah}{t:T}(h:cQ K H A a t)(s:∀b∈A',b∈A):cQ K H A' a t:=h.map rfl λ_ _ q=>q.a8 s
theorem cQ.same{A:qah}{t:T}(h:cQ K H A a t)(s:aY H H'):cQ K H' A a t:=by obtain⟨u,e,_⟩:=h.mut;exact h.map (by rw[e];exact s _ _ e) λ_ _ q=>q.same s
theorem cQ.at{A:qah}{t:T}(h:cQ K H A a t)(n:a∉A):At K H A t (.ref a):=by
 cases t with
 |lst ts=>obtain⟨vs,e,q⟩:=h;simp only[At];exact⟨a,vs,rfl,.inl ⟨.inl e,n⟩,q⟩
 |dk ks ts=>obtain⟨vs,l,e,q⟩:=h;simp only[At];exact⟨a,vs,rfl,l,⟨e,n⟩,q⟩
 |ins C ns ts=>obtain⟨dx,vs,l,e,q⟩:=h;simp only[At];exact⟨a,dx,vs,rfl,l,⟨e,n⟩,q⟩
 |_=>exact h.elim
theorem ng.map{A A':qah}{e:Option (T×Bool)}{o:qar}{s:Option V}(h:ng K H A e o s)(h1:∀t v,At K H A t v->At K H' A' t v)(h2:∀a t,o=some a->cQ K H A a t->cQ K H' A' a t):ng K H' A' e o s:=by
 match e,h with
 |none,h=>exact h
 |some (t,false),⟨e,v,es,q⟩=>exact⟨e,v,es,h1 _ _ q⟩
 |some (t,true),⟨a,e,es,q⟩=>exact⟨a,e,es,h2 _ _ e q⟩
theorem aN:a∈roots O↔some a∈O:=by unfold roots;rw[XC];exact⟨λ⟨x,h,e⟩=>by rw[id] at e;rw[<- e];exact h,λh=>⟨_,h,rfl⟩⟩
theorem ay.zj(I:ay K Z tm O ρ σ H):∀a∈av Z O,H a≠none:=λa h=>by
 rcases cN.mp h with h|h
 obtain⟨_,_,u,e,_⟩:=I.own a h;rw[e];simp;exact I.ox a h
theorem ay.same(I:ay K Z tm O ρ σ H)(s:aY H H'):ay K Z tm O ρ σ H' :=
 ⟨I.lσ,I.lO,λi e h=>let ⟨o,w,h1,h2,h3⟩:=I.sl i e h;⟨o,w,h1,h2,h3.map (λ_ _ q=>q.same s) λ_ _ _ q=>q.same s⟩,I.nd,
  λa h=>let ⟨h1,h2,u,e,m⟩:=I.own a h;⟨h1,h2,u,s _ _ e,m⟩,I.par,λa h=>by
   cases e:H a with
   |none=>exact absurd e (I.ox a h)
   |some u=>rw[s _ _ e];simp,
  λb o e n=>s _ _ (I.keep b o e n),λp hp=>(I.pS p hp).same s⟩
theorem b_(i:Nat):∀a∈roots (O.set i none),a∈roots O:=λa h=>by
 rw[aN] at h ⊢;rcases SR h with z|z
 exact z;cases z
theorem gS:∀(O:HD)(i:Nat),(roots O).Nodup->(roots (O.set i none)).Nodup
 |[],i,h=>by simpa using h
 |o::O,0,h=>by
  cases o with
  |none=>simpa[roots] using h
  |some a=>simp only[roots,Nc,mW,id] at h ⊢;exact (lx.mp h).2
 |o::O,i+1,h=>by
  have key:=gS O i;cases o with
  |none=>simp only[roots,EZ,mW,id] at h ⊢;exact key h
  |some a=>simp only[roots,EZ,mW,id] at h ⊢;rw[lx] at h ⊢;exact⟨λz=>h.1 (b_ i a z),key h.2⟩
theorem cb(i:Nat):∀a∈av Z (O.set i none),a∈av Z O:=λa h=>by
 rcases cN.mp h with h|h
 exact cw _ (b_ i a h);exact bU _ h
theorem get_set{l:List α}{x y:α}(h:(l.set i x)[j]?=some y):(j=i/\y=x/\i<l.length)\/(j≠i/\l[j]?=some y):=by rw[T1] at h;by_cases e:i=j;rw[if_pos e] at h;by_cases hl:i<l.length;rw[if_pos hl] at h;exact .inl ⟨e.symm,(Option.some.inj h).symm,hl⟩;rw[if_neg hl] at h;cases h;rw[if_neg e] at h;exact .inr ⟨λz=>e z.symm,h⟩
theorem ay.put(I:ay K Z tm O ρ σ H){t:T}(hp:∀p∈Z.P,p.1≠i)(hv:At K H (av Z O) t v):ay K Z tm (O.set i none) (ρ.set i (some (t,false))) (σ.set i (some v)) H:=by
 have fw:∀{t:T}{v:V},At K H (av Z O) t v->At K H (av Z (O.set i none)) t v:=λq=>q.a8 (cb i);refine⟨by simp[I.lσ],by simp[I.lO],λj e h=>?_,gS _ _ I.nd,λa h=>I.own a (b_ i a h),λp q=>?_,I.ox,I.keep,λp q=>fw (I.pS p q)⟩;rcases get_set h with⟨rfl,rfl,hl⟩|⟨ne,h⟩
 exact⟨none,some v,by rw[Bf (by rw[I.lO];exact hl)],by rw[Bf (by rw[I.lσ];exact hl)],rfl,v,rfl,fw hv⟩;obtain⟨o,s,h1,h2,h3⟩:=I.sl j e h;exact⟨o,s,by rw[rP (Ne.symm ne)];exact h1,by rw[rP (Ne.symm ne)];exact h2,h3.map (λ_ _ q=>fw q) λ_ _ _ q=>q.a8 (cb i)⟩;rw[rP (Ne.symm (hp p q))];exact I.par p q
theorem ay.forget(I:ay K Z tm O ρ σ H)(hp:∀p∈Z.P,p.1≠i):ay K Z tm (O.set i none) (ρ.set i none) σ H:=by
 have fw:∀{t:T}{v:V},At K H (av Z O) t v->At K H (av Z (O.set i none)) t v:=λq=>q.a8 (cb i);refine⟨by simp[I.lσ],by simp[I.lO],λj e h=>?_,gS _ _ I.nd,λa h=>I.own a (b_ i a h),λp q=>?_,I.ox,I.keep,λp q=>fw (I.pS p q)⟩;rcases get_set h with⟨rfl,rfl,hl⟩|⟨ne,h⟩
 obtain⟨s,hs⟩:∃s,σ[j]?=some s:=⟨σ[j]'(by rw[I.lσ];exact hl),by simp⟩;exact⟨none,s,by rw[Bf (by rw[I.lO];exact hl)],hs,rfl⟩;obtain⟨o,s,h1,h2,h3⟩:=I.sl j e h;exact⟨o,s,by rw[rP (Ne.symm ne)];exact h1,h2,h3.map (λ_ _ q=>fw q) λ_ _ _ q=>q.a8 (cb i)⟩;rw[rP (Ne.symm (hp p q))];exact I.par p q
theorem oh:∀(O:HD)(i:Nat)(a:Addr),a∉roots O->(roots O).Nodup->(roots (O.set i (some a))).Nodup
 |[],i,a,_,h=>by simpa using h
 |o::O,0,a,n,h=>by
  cases o with
  |none=>simp only[roots,Nc,mW,id] at n h ⊢;exact lx.mpr ⟨n,h⟩
  |some b=>simp only[roots,Nc,mW,id] at n h ⊢;exact lx.mpr ⟨λz=>n (gG _ z),(lx.mp h).2⟩
 |o::O,i+1,a,n,h=>by
  have key:=oh O i a;cases o with
  |none=>simp only[roots,EZ,mW,id] at n h ⊢;exact key n h
  |some b=>
   simp only[roots,EZ,mW,id] at n h ⊢;rw[lx] at h ⊢;refine⟨λz=>?_,key (λz=>n (gG _ z)) h.2⟩;have z':some b∈O.set i (some a):=aN.mp z;rcases SR z' with q|q
   exact h.1 (aN.mpr q);exact n (by rw[Option.some.inj q];exact dw)
theorem xg(i:Nat):∀b∈av Z (O.set i (some a)),b∈av (Z.ex a) O:=λb h=>by
 rcases cN.mp h with h|h
 rcases SR (aN.mp h) with z|z
 exact cw _ (aN.mpr z);exact bU _ (by rw[Option.some.inj z];exact dw);exact bU _ (gG _ h)
theorem ay.U4(I:ay K (Z.ex a) tm O ρ σ H){t:T}(hp:∀p∈Z.P,p.1≠i)(hv:cQ K H (av (Z.ex a) O) a t)(h0:Z.H0 a=none)(hx:a∉Z.Ox):ay K Z tm (O.set i (some a)) (ρ.set i (some (t,true))) (σ.set i (some (.ref a))) H:=by
 have sub:=xg (Z:=Z) (O:=O) (a:=a) i;have fw:∀{t:T}{v:V},At K H (av (Z.ex a) O) t v->At K H (av Z (O.set i (some a))) t v:=λq=>q.a8 sub;have na:a∉roots O:=λz=>(I.own a z).2.1 dw;refine⟨by simp[I.lσ],by simp[I.lO],λj e h=>?_,oh _ _ _ na I.nd,λb h=>?_,λp q=>?_,λb h=>I.ox b (gG _ h),I.keep,λp q=>fw (I.pS p q)⟩;rcases get_set h with⟨rfl,rfl,hl⟩|⟨ne,h⟩
 exact⟨some a,some (.ref a),by rw[Bf (by rw[I.lO];exact hl)],by rw[Bf (by rw[I.lσ];exact hl)],a,rfl,rfl,hv.a8 sub⟩;obtain⟨o,s,h1,h2,h3⟩:=I.sl j e h;exact⟨o,s,by rw[rP (Ne.symm ne)];exact h1,by rw[rP (Ne.symm ne)];exact h2,h3.map (λ_ _ q=>fw q) λ_ _ _ q=>q.a8 sub⟩;rcases SR (aN.mp h) with z|z
 obtain⟨h1,h2,h3⟩:=I.own b (aN.mpr z);exact⟨h1,λq=>h2 (gG _ q),h3⟩;cases z;exact⟨.inr h0,hx,hv.mut⟩;rw[rP (Ne.symm (hp p q))];exact I.par p q
theorem ay.CG(I:ay K Z tm O ρ σ H){t:T}(hp:∀p∈Z.P,p.1≠i)(hi:ρ[i]?=some (some (t,true))):ay K Z tm (O.set i none) (ρ.set i (some (t,false))) σ H:=by
 have fw:∀{t:T}{v:V},At K H (av Z O) t v->At K H (av Z (O.set i none)) t v:=λq=>q.a8 (cb i);obtain⟨o,s,h1,h2,a,rfl,rfl,hr⟩:=I.sl i _ hi;have ha:a∈roots O:=aN.mpr (gH h1);have na:a∉roots (O.set i none):=λz=>by
  obtain⟨j,hj⟩:=M9.mp (aN.mp z);rcases get_set hj with⟨_,q,_⟩|⟨ne,q⟩
  cases q
  -- two places of one root
  have key:∀(O:HD)(i j:Nat),i<j->O[i]?=some (some a)->O[j]?=some (some a)->(roots O).Nodup->False:=by
   intro O;induction O with
   |nil=>intro i j _ h;simp at h
   |cons o O ih=>
    intro i j hij e1 e2 nd;cases j with
    |zero=>omega
    |succ j=>
     have Jr:O[j]?=some (some a):=by simpa using e2
     cases i with
     |zero=>
      have:o=some a:=by simpa using e1
      subst this;simp only[roots,mW,id] at nd;exact (lx.mp nd).1 (aN.mpr (gH Jr))
     |succ i=>
      refine ih i j (by omega) (by simpa using e1) Jr ?_;cases o with
      |none=>simpa[roots] using nd
      |some b=>simp only[roots,mW,id] at nd;exact (lx.mp nd).2
  rcases Nat.lt_or_gt_of_ne ne with l|l
  exact key O j i l q h1 I.nd;exact key O i j l h1 q I.nd
 have nav:a∉av Z (O.set i none):=λz=>by
  rcases cN.mp z with z|z
  exact na z;exact (I.own a ha).2.1 z
 refine⟨by simp[I.lσ],by simp[I.lO],λj e h=>?_,gS _ _ I.nd,λa h=>I.own a (b_ i a h),λp q=>?_,I.ox,I.keep,λp q=>fw (I.pS p q)⟩;rcases get_set h with⟨rfl,rfl,hl⟩|⟨ne,h⟩
 exact⟨none,some (.ref a),by rw[Bf (by rw[I.lO];exact hl)],h2,rfl,.ref a,rfl,(hr.a8 (cb j)).at nav⟩;obtain⟨o,s,h1,h2,h3⟩:=I.sl j e h;exact⟨o,s,by rw[rP (Ne.symm ne)];exact h1,h2,h3.map (λ_ _ q=>fw q) λ_ _ _ q=>q.a8 (cb i)⟩;rw[rP (Ne.symm (hp p q))];exact I.par p q
theorem ay.wrote(I:ay K Z tm O ρ σ H){t t':T}{u:HO}(hi:ρ[i]?=some (some (t,true)))(hO:O[i]?=some (some a))(hr:cQ K (upd H a u) (av Z O) a t'):ay K Z tm O (ρ.set i (some (t',true))) σ (upd H a u):=by
 have ha:a∈roots O:=aN.mpr (gH hO);have Kp:a∈av Z O:=cw _ ha;obtain⟨hP,hx,u0,e0,m0⟩:=I.own a ha;have inj:∀j b,j≠i->O[j]?=some (some b)->b≠a:=by
  intro j b ne hj e;subst e;have key:∀(O:HD)(i j:Nat),i<j->O[i]?=some (some b)->O[j]?=some (some b)->(roots O).Nodup->False:=by
   intro O;induction O with
   |nil=>intro i j _ h;simp at h
   |cons o O ih=>
    intro i j hij e1 e2 nd;cases j with
    |zero=>omega
    |succ j=>
     have Jr:O[j]?=some (some b):=by simpa using e2
     cases i with
     |zero=>
      have:o=some b:=by simpa using e1
      subst this;simp only[roots,mW,id] at nd;exact (lx.mp nd).1 (aN.mpr (gH Jr))
     |succ i=>
      refine ih i j (by omega) (by simpa using e1) Jr ?_;cases o with
      |none=>simpa[roots] using nd
      |some c=>simp only[roots,mW,id] at nd;exact (lx.mp nd).2
  rcases Nat.lt_or_gt_of_ne ne with l|l
  exact key O j i l hj hO I.nd;exact key O i j l hO hj I.nd
 refine⟨by simp[I.lσ],by simp[I.lO],λj e h=>?_,I.nd,λb h=>?_,I.par,λb h=>?_,λb o e n=>?_,λp q=>(I.pS p q).wrote Kp e0 m0⟩;rcases get_set h with⟨rfl,rfl,hl⟩|⟨ne,h⟩
 obtain⟨o,s,h1,h2,a',h4,h5,h6⟩:=I.sl j _ hi;rw[hO] at h1;cases h1;cases h4;exact⟨_,s,hO,h2,a,rfl,h5,hr⟩;obtain⟨o,s,h1,h2,h3⟩:=I.sl j e h;refine⟨o,s,h1,h2,h3.map (λ_ _ q=>q.wrote Kp e0 m0) λb t e q=>?_⟩;subst e;exact q.map (aE (inj j b ne h1)) λ_ _ z=>z.wrote Kp e0 m0;obtain⟨h1,h2,v,e,m⟩:=I.own b h;by_cases hb:b=a;subst hb;exact⟨h1,h2,hr.mut⟩;exact⟨h1,h2,v,by rw[aE hb];exact e,m⟩;by_cases hb:b=a;subst hb;exact absurd h hx;rw[aE hb];exact I.ox b h;by_cases hb:b=a;subst hb;obtain q|q:=hP
 exact absurd q n;rw[q] at e;cases e;rw[aE hb];exact I.keep b o e n
theorem ay.fresh(I:ay K Z tm O ρ σ H)(h:H a=none):a∉av Z O/\a∉Z.Ox/\Z.H0 a=none:=by
 refine⟨λz=>I.zj a z h,λz=>I.ox a z h,?_⟩;cases e:Z.H0 a with
 |none=>rfl
 |some o=>by_cases hp:a∈Z.P.map (·.2);obtain⟨p,PL,rfl⟩:=sS.mp hp;obtain⟨_,_,u,e',_⟩:=I.own p.2 (aN.mpr (gH (I.par p PL)));rw[h] at e';cases e';rw[I.keep a o e hp] at h;cases h
theorem dz:∀b∈av (Z.ex a) O,b∈av Z O\/b=a:=λb h=>by
 rcases cN.mp h with h|h
 exact .inl (cw _ h);rcases cT.mp h with h|h
 exact .inr h;exact .inl (bU _ h)
theorem gk:∀b∈av Z O,b∈av (Z.ex a) O:=λb h=>by
 rcases cN.mp h with h|h
 exact cw _ h;exact bU _ (gG _ h)
theorem ay.new(I:ay K Z tm O ρ σ H){u:HO}(h:H a=none)(hu:km u=true):ay K (Z.ex a) tm O ρ σ (upd H a u):=by
 have s:aY H (upd H a u):=aK h;have J:=I.same s;obtain⟨n1,n2,n3⟩:=I.fresh h;have mr:∀b∈av (Z.ex a) O,b∈av Z O\/H b=none:=λb hb=>(dz b hb).imp id λe=>by rw[e];exact h
 have fw:∀{t:T}{v:V},At K H (av Z O) t v->At K (upd H a u) (av (Z.ex a) O) t v:=λq=>(q.more mr).same s;refine⟨J.lσ,J.lO,λi e hi=>?_,J.nd,λb hb=>?_,J.par,λb hb=>?_,J.keep,λp hp=>fw (I.pS p hp)⟩;obtain⟨o,w,h1,h2,h3⟩:=I.sl i e hi;refine⟨o,w,h1,h2,h3.map (λ_ _ q=>fw q) λb t eo q=>?_⟩;refine cQ.same (q.map rfl λ_ _ z=>z.more mr) s;obtain⟨q1,q2,q3⟩:=J.own b hb;refine⟨q1,λz=>?_,q3⟩;rcases cT.mp z with z|z
 exact n1 (by rw[<- z];exact cw _ hb);exact q2 z;rcases cT.mp hb with z|z
 rw[z,aI];simp;exact J.ox b z
theorem ay.Zy(I:ay K (Z.ex a) tm O ρ σ H):ay K Z tm O ρ σ H :=
 ⟨I.lσ,I.lO,λi e h=>let ⟨o,w,h1,h2,h3⟩:=I.sl i e h;⟨o,w,h1,h2,h3.map (λ_ _ q=>q.a8 gk) λ_ _ _ q=>q.a8 gk⟩,I.nd,
  λb h=>let ⟨q1,q2,q3⟩:=I.own b h;⟨q1,λz=>q2 (gG _ z),q3⟩,I.par,λb h=>I.ox b (gG _ h),I.keep,λp hp=>(I.pS p hp).a8 gk⟩
end
inductive Rt where
 |vw (t:T)
 |fr (t:T)
def Rt.t:Rt->T
 |.vw t=>t
 |.fr t=>t
def jg(K:qaf)(H:Hp)(A:qah)(t:T)(v:V):Prop:=At K H A t v\/∃a,v=.ref a/\cQ K H A a t
def gM(K:qaf)(Z:Zc)(tm:List (T×V))(O:HD)(ρ:En)(σ:St)(H:Hp):Rt->V->Prop
 |.vw t,v=>ay K Z tm O ρ σ H/\At K H (av Z O) t v
 |.fr t,v=>∃a,v=.ref a/\ay K (Z.ex a) tm O ρ σ H/\cQ K H (av (Z.ex a) O) a t/\Z.H0 a=none/\a∉Z.Ox
abbrev FE:=En->(T->Prop)->Prop
abbrev FP:=En->(Rt->Prop)->Prop
abbrev FX:=En->(En->Rt->Prop)->Prop
abbrev FB:=En->(Bool->Prop)->Prop
abbrev FA:=En->(List T->Prop)->Prop
section
variable{Z:Zc}{tm:List (T×V)}{ρ:En}{A:qah}
theorem jg.same{t:T}(s:aY H H')(h:jg K H A t v):jg K H' A t v:=h.imp (λq=>q.same s) λ⟨a,e,q⟩=>⟨a,e,q.same s⟩
theorem jg.lst{ts:List T}(h:jg K H A (.lst ts) v):∃a vs,v=.ref a/\ia K H a vs/\aB K H A ts vs:=by
 obtain h|⟨a,rfl,vs,e,q⟩:=h
 simp only[At] at h;obtain⟨a,vs,rfl,l,q⟩:=h;exact⟨a,vs,rfl,l.sq,q⟩;exact⟨a,vs,rfl,ia.of e,q⟩
theorem jg.tup{ts:List T}(h:jg K H A (.tup ts) v):∃a vs,v=.ref a/\fg K H a vs/\aB K H A ts vs:=by
 obtain h|⟨a,rfl,q⟩:=h
 simpa only[At] using h;exact q.elim
theorem jg.dk{ts:List T}(h:jg K H A (.dk ks ts) v):∃a vs,v=.ref a/\ks.length=vs.length/\H a=some (.dK (ks.zip vs))/\aB K H A ts vs:=by
 obtain h|⟨a,rfl,vs,l,e,q⟩:=h
 simp only[At] at h;obtain⟨a,vs,rfl,l,d,q⟩:=h;exact⟨a,vs,rfl,l,d.1,q⟩;exact⟨a,vs,rfl,l,e,q⟩
theorem jg.dc{nh:List Key×Key->Int}{ks:List (List Key×Key)}{ts:List T}(h:jg K H A (.dc nh ks ts) v):∃a xs vs,v=.ref a/\H a=some (.ext (m_ nh a xs))/\ks=xs.map (·.1)/\(a==sysModules)=false/\(∀x∈xs,oP K H x.1 x.2.1)/\Vals vs (xs.map (·.2.2))/\aB K H A ts vs:=by
 obtain h|⟨a,rfl,q⟩:=h
 simp only[At] at h;obtain⟨a,xs,vs,rfl,d,q⟩:=h;exact⟨a,xs,vs,rfl,d.1,q⟩;exact q.elim
theorem jg.ins{ns:qai}{ts:List T}(h:jg K H A (.ins C ns ts) v):∃a dx vs,v=.ref a/\ns.length=vs.length/\H a=some (.ins C dx (ns.zip vs))/\aB K H A ts vs:=by
 obtain h|⟨a,rfl,dx,vs,l,e,q⟩:=h
 simp only[At] at h;obtain⟨a,dx,vs,rfl,l,d,q⟩:=h;exact⟨a,dx,vs,rfl,l,d.1,q⟩;exact⟨a,dx,vs,rfl,l,e,q⟩
theorem jg.int{i:Int}(h:jg K H A (.int i) v):v=.int i:=h.elim (λq=>by simpa only[At] using q) λ⟨_,_,q⟩=>q.elim
theorem jg.str{i:Str}(h:jg K H A (.str i) v):v=.str i:=h.elim (λq=>by simpa only[At] using q) λ⟨_,_,q⟩=>q.elim
theorem jg.bl{i:Bool}(h:jg K H A (.bl i) v):v=.bl i:=h.elim (λq=>by simpa only[At] using q) λ⟨_,_,q⟩=>q.elim
theorem jg.aQ(h:jg K H A .aQ v):v=.aQ:=h.elim (λq=>by simpa only[At] using q) λ⟨_,_,q⟩=>q.elim
theorem jg.ob(h:jg K H A (.ob a) v):v=.ref a:=h.elim (λq=>by simpa only[At] using q) λ⟨_,_,q⟩=>q.elim
theorem bC{i:Int}:At K H A (.int i) (.int i):=by simp only[At]
theorem c_{i:Str}:At K H A (.str i) (.str i):=by simp only[At]
theorem eY{i:Bool}:At K H A (.bl i) (.bl i):=by simp only[At]
theorem uG:At K H A .aQ .aQ:=by simp only[At]
theorem cv{ts:List T}(h:fg K H a vs)(q:aB K H A ts vs):At K H A (.tup ts) (.ref a):=by simp only[At];exact⟨a,vs,rfl,h,q⟩
theorem gM.env{r:Rt}(h:gM K Z tm O ρ σ H r v):ay K Z tm O ρ σ H:=by
 cases r with
 |vw t=>exact h.1
 |fr t=>obtain⟨a,_,I,_⟩:=h;exact I.Zy
theorem gM.at{r:Rt}(h:gM K Z tm O ρ σ H r v):At K H (av Z O) r.t v:=by
 cases r with
 |vw t=>exact h.2
 |fr t=>
  obtain⟨a,rfl,I,q,_,hx⟩:=h;refine (q.a8 gk).at λz=>?_;rcases cN.mp z with z|z
  exact (I.own a z).2.1 dw;exact hx z
theorem ay.Dd(I:ay K Z tm O ρ σ H){ts:List T}(h:H a=none)(q:aB K H (av Z O) ts vs):gM K Z tm O ρ σ (upd H a (.lst vs)) (.fr (.lst ts)) (.ref a):=by obtain⟨n1,n2,n3⟩:=I.fresh h;exact⟨a,rfl,I.new h rfl,⟨vs,aI,(q.more λb hb=>(dz b hb).imp id λe=>by rw[e];exact h).same (aK h)⟩,n3,n2⟩
theorem ay.newD(I:ay K Z tm O ρ σ H){ts:List T}(h:H a=none)(hl:ks.length=vs.length)(q:aB K H (av Z O) ts vs):gM K Z tm O ρ σ (upd H a (.dK (ks.zip vs))) (.fr (.dk ks ts)) (.ref a):=by obtain⟨n1,n2,n3⟩:=I.fresh h;exact⟨a,rfl,I.new h rfl,⟨vs,hl,aI,(q.more λb hb=>(dz b hb).imp id λe=>by rw[e];exact h).same (aK h)⟩,n3,n2⟩
end
structure Bx(p:List (T×V)->Prop):Prop where
 h:∀tm,p tm
section
variable(X:Cx)(Z:Zc)
noncomputable def lR(tm:List (T×V))(f:FE):TE:=λσ H Q=>∃ρ O q,ay X.K Z tm O ρ σ H/\f ρ q/\∀t,q t->∀v H',aY H H'->jg X.K H' (av Z O) t v->Q v H'
noncomputable def lE(tm:List (T×V))(f:FE):TE:=λσ H Q=>∃ρ O q,ay X.K Z tm O ρ σ H/\f ρ q/\∀t,q t->∀v H',aY H H'->At X.K H' (av Z O) t v->Q v H'
def lP(tm:List (T×V))(f:FP):TE:=λσ H Q=>∃ρ O q,ay X.K Z tm O ρ σ H/\f ρ q/\∀r,q r->∀v H',aY H H'->gM X.K Z tm O ρ σ H' r v->Q v H'
def lX(tm:List (T×V))(f:FX):TE:=λσ H Q=>∃ρ O q,ay X.K Z tm O ρ σ H/\f ρ q/\∀ρ' r,q ρ' r->∀O' v H',gM X.K Z tm O' ρ' σ H' r v->Q v H'
def lB(tm:List (T×V))(f:FB):TT:=λσ H Q=>∃ρ O q,ay X.K Z tm O ρ σ H/\f ρ q/\∀b,q b->∀H',aY H H'->Q b H'
noncomputable def lA(tm:List (T×V))(f:FA):TA:=λσ H Q=>∃ρ O q,ay X.K Z tm O ρ σ H/\f ρ q/\∀ts,q ts->∀vs H',aY H H'->aB X.K H' (av Z O) ts vs->Q vs H'
noncomputable def lAR(tm:List (T×V))(f:FA):TA:=λσ H Q=>∃ρ O q,ay X.K Z tm O ρ σ H/\f ρ q/\∀ts,q ts->∀vs H',aY H H'->Paired (λv t=>jg X.K H' (av Z O) t v) vs ts->Q vs H'
def VR(e:Expr)(f:FE):Prop:=Bx λtm=>PE X e (lR X Z tm f)
instance{e:Expr}{f:FE}:CoeFun (VR X Z e f) λ_=>∀tm,PE X e (lR X Z tm f):=⟨λh=>Bx.h h⟩
def VE(e:Expr)(f:FE):Prop:=Bx λtm=>PE X e (lE X Z tm f)
instance{e:Expr}{f:FE}:CoeFun (VE X Z e f) λ_=>∀tm,PE X e (lE X Z tm f):=⟨λh=>Bx.h h⟩
def VP(e:Expr)(f:FP):Prop:=Bx λtm=>PE X e (lP X Z tm f)
instance{e:Expr}{f:FP}:CoeFun (VP X Z e f) λ_=>∀tm,PE X e (lP X Z tm f):=⟨λh=>Bx.h h⟩
def VX(e:Expr)(f:FX):Prop:=Bx λtm=>PE X e (lX X Z tm f)
instance{e:Expr}{f:FX}:CoeFun (VX X Z e f) λ_=>∀tm,PE X e (lX X Z tm f):=⟨λh=>Bx.h h⟩
def VC(e:Expr)(f:FB):Prop:=Bx λtm=>PT X e (lB X Z tm f)
instance{e:Expr}{f:FB}:CoeFun (VC X Z e f) λ_=>∀tm,PT X e (lB X Z tm f):=⟨λh=>Bx.h h⟩
def VW(e:Expr)(f:FB):Prop:=Bx λtm=>PW X e (lB X Z tm f)
instance{e:Expr}{f:FB}:CoeFun (VW X Z e f) λ_=>∀tm,PW X e (lB X Z tm f):=⟨λh=>Bx.h h⟩
def VA(es:qap)(f:FA):Prop:=Bx λtm=>PA X es (lA X Z tm f)
instance{es:qap}{f:FA}:CoeFun (VA X Z es f) λ_=>∀tm,PA X es (lA X Z tm f):=⟨λh=>Bx.h h⟩
def PM(es:qap)(f:FA):Prop:=Bx λtm=>PA X es (lAR X Z tm f)
instance{es:qap}{f:FA}:CoeFun (PM X Z es f) λ_=>∀tm,PA X es (lAR X Z tm f):=⟨λh=>Bx.h h⟩
end
theorem PE.weak{t t':TE}(h:PE X e t)(hw:∀σ H Q,t' σ H Q->t σ H Q):PE X e t':=λpins s σ H Q I q=>h pins s σ H Q I (hw _ _ _ q)
theorem PT.weak{t t':TT}(h:PT X e t)(hw:∀σ H Q,t' σ H Q->t σ H Q):PT X e t':=λpins s σ H Q I q=>h pins s σ H Q I (hw _ _ _ q)
theorem PW.weak{t t':TT}(h:PW X e t)(hw:∀σ H Q,t' σ H Q->t σ H Q):PW X e t':=λwh pins s σ H Q I q=>h wh pins s σ H Q I (hw _ _ _ q)
theorem PA.weak{e:qap}{t t':TA}(h:PA X e t)(hw:∀σ H Q,t' σ H Q->t σ H Q):PA X e t':=λpos pins s σ H Q I q=>h pos pins s σ H Q I (hw _ _ _ q)
theorem PS.weak{b:Stmt}{t t':TS}(h:PS X b t)(hw:∀D σ H,t' D σ H->t D σ H):PS X b t':=λpins s σ H D I q=>h pins s σ H D I (hw D σ H q)
theorem iZ.i5{b:qaq}{t t':TS}(h:iZ X b t)(hw:∀D σ H,t' D σ H->t D σ H):iZ X b t':=λpins s σ H D I q=>h pins s σ H D I (hw D σ H q)
section
variable{Z:Zc}{a:Expr}{pos:Pos}
theorem VE.vr{f:FE}(h:VE X Z e f):VR X Z e f:=.mk λtm=>PE.weak (h tm) λσ H Q ⟨ρ,O,q,I,hf,k⟩=>⟨ρ,O,q,I,hf,λt ht v H' s z=>k t ht v H' s (.inl z)⟩
def fT(f:FP):FE:=λρ Q=>f ρ λr=>Q r.t
def fV(f:FE):FP:=λρ Q=>f ρ λt=>Q (.vw t)
def fX(f:FP):FX:=λρ Q=>f ρ λr=>Q ρ r
theorem VP.ve{f:FP}(h:VP X Z e f):VE X Z e (fT f):=.mk λtm=>PE.weak (h tm) λσ H Q ⟨ρ,O,q,I,hf,k⟩=>⟨ρ,O,λr=>q r.t,I,hf,λr hr v H' s z=>k r.t hr v H' s z.at⟩
theorem VP.vr{f:FP}(h:VP X Z e f):VR X Z e (fT f):=h.ve.vr
theorem VP.vx{f:FP}(h:VP X Z e f):VX X Z e (fX f):=.mk λtm=>PE.weak (h tm) λσ H Q ⟨ρ,O,q,I,hf,k⟩=>⟨ρ,O,λr=>q ρ r,I,hf,λr hr v H' s z=>k ρ r hr O v H' z⟩
theorem VE.vp{f:FE}(h:VE X Z e f):VP X Z e (fV f):=.mk λtm=>PE.weak (h tm) λσ H Q ⟨ρ,O,q,I,hf,k⟩=>⟨ρ,O,λt=>q (.vw t),I,hf,λt hr v H' s z=>k (.vw t) hr v H' s ⟨I.same s,z⟩⟩
def jd(i:Nat):FE:=λρ Q=>match ρ[i]? with
 |some (some (t,false))=>Q t
 |_=>False
def xh(i:Nat):FE:=λρ Q=>match ρ[i]? with
 |some (some (t,_))=>Q t
 |_=>False
theorem aq(i:Nat)(hN:X.N[i]?=some x:=by rfl)(hv:kF X.env.scope x:=by first|exact Or.inl rfl|exact Or.inr (Or.inl rfl)|exact Or.inr (Or.inr rfl))(hd:ie x:=by decide)(gn:uj x:=by decide):VE X Z (.Name x pos) (jd i):=.mk λtm=>PE.weak (bV hN hv hd gn) λσ H Q ⟨ρ,O,q,I,hf,k⟩=>by
 unfold jd at hf;split at hf
 rename_i t e
 obtain⟨o,s,h1,h2,rfl,v,rfl,h3⟩:=I.sl i _ e;exact⟨v,h2,k t hf v H (aY.refl H) h3⟩;exact hf.elim
theorem aa(i:Nat)(hN:X.N[i]?=some x:=by rfl)(hv:kF X.env.scope x:=by first|exact Or.inl rfl|exact Or.inr (Or.inl rfl)|exact Or.inr (Or.inr rfl))(hd:ie x:=by decide)(gn:uj x:=by decide):VR X Z (.Name x pos) (xh i):=.mk λtm=>PE.weak (bV hN hv hd gn) λσ H Q ⟨ρ,O,q,I,hf,k⟩=>by
 unfold xh at hf;split at hf
 rename_i t b e
 obtain⟨o,s,h1,h2,h3⟩:=I.sl i _ e;cases b with
 |false=>obtain⟨rfl,v,rfl,h3⟩:=h3;exact⟨v,h2,k t hf v H (aY.refl H) (.inl h3)⟩
 |true=>obtain⟨a,rfl,rfl,h3⟩:=h3;exact⟨_,h2,k t hf _ H (aY.refl H) (.inr ⟨a,rfl,h3⟩)⟩
 exact hf.elim
def fC(t:T):FP:=λ_ Q=>Q (.vw t)
theorem FJ{t:T}(h:PE X e (tC v))(ht:∀H A,At X.K H A t v):VP X Z e (fC t):=.mk λtm=>PE.weak h λσ H Q ⟨ρ,O,q,I,hf,k⟩=>k _ hf v H (aY.refl H) ⟨I,ht _ _⟩
theorem af{i j pos}:VP X Z (.Constant (.int i) j pos) (fC (.int i)):=FJ E4 λ_ _=>bC
theorem pT{i j pos}:VP X Z (.Constant (.bool i) j pos) (fC (.bl i)):=FJ Ua λ_ _=>eY
theorem aG{i j pos}:VP X Z (.Constant (.str i) j pos) (fC (.str i)):=FJ OS λ_ _=>c_
theorem dh{j pos}:VP X Z (.Constant .none j pos) (fC .aQ):=FJ zu λ_ _=>uG
theorem iJ{t:T}(hg:Gl X x)(hm:X.mg x=some u)(r:RelV v u)(ht:∀H A,At X.K H A t v)(hd:ie x:=by decide):VP X Z (.Name x pos) (fC t):=FJ (uq hg hm r hd) ht
def pU(K:qaf)(r:R2)(p:T->T->(Rt->Prop)->Prop):Prop :=
 ∀(Z:Zc)(tm:List (T×V))(O:HD)(ρ:En)(σ:St)(H:Hp)(x y:T)(v w:V)(q:Rt->Prop)(Q:VK),ay K Z tm O ρ σ H->jg K H (av Z O) x v->jg K H (av Z O) y w->p x y q ->
  (∀t,q t->∀u H',aY H H'->gM K Z tm O ρ σ H' t u->Q u H')->r v w H Q
def f2(fa fb:FE)(p:T->T->(Rt->Prop)->Prop):FP:=λρ Q=>fa ρ λx=>fb ρ λy=>p x y Q
theorem two{r:R2}{fa fb:FE}{p:T->T->(Rt->Prop)->Prop}(ho:pU X.K r p){tm:List (T×V)}:∀σ H Q,lP X Z tm (f2 fa fb p) σ H Q->Up r (lR X Z tm fa) (lR X Z tm fb) σ H Q:=λσ H Q ⟨ρ,O,q,I,hf,k⟩ =>
 ⟨ρ,O,λx=>fb ρ λy=>p x y q,I,hf,λx hx v H1 s1 a1=>⟨ρ,O,λy=>p x y q,I.same s1,hx,λy hy w H2 s2 a2=>
  ho Z tm O ρ σ H2 x y v w q Q ((I.same s1).same s2) (a1.same s2) a2 hy λt ht u H' s a=>k t ht u H' ((s1.trans s2).trans s) a⟩⟩
theorem iK{op:Operator}{r:R2}{fa fb:FE}{p:T->T->(Rt->Prop)->Prop}(h:gf X (binaryOp op) r)(ho:pU X.K r p)(ha:VR X Z a fa)(hb:VR X Z b fb):VP X Z (.BinOp a op b pos) (f2 fa fb p) :=
 .mk λtm=>PE.weak (Np h (ha tm) (hb tm)) (two ho)
theorem FK{op:CmpOp}{r:R2}{fa fb:FE}{p:T->T->(Rt->Prop)->Prop}(h:gf X (compareOp op) r)(ho:pU X.K r p)(ha:VR X Z a fa)(hb:VR X Z b fb)(hm:behindInMarks op b=false):VP X Z (.Compare a [op] [b] pos) (f2 fa fb p) :=
 .mk λtm=>PE.weak (JT h (ha tm) (hb tm) hm) (two ho)
def ni(f:FP):FB:=λρ Q=>f ρ λr=>match r with
 |.vw (.bl c)=>Q c
 |_=>False
theorem zV{r:Rt}{Q:Bool->Prop}(h:match r with | .vw (.bl c)=>Q c|_=>False):∃c,r=.vw (.bl c)/\Q c:=by split at h;exact⟨_,rfl,h⟩;exact h.elim
theorem iL{op:CmpOp}{r:R2}{fa fb:FE}{p:T->T->(Rt->Prop)->Prop}(h:gf X (compareOp op) r)(ho:pU X.K r p)(ha:VR X Z a fa)(hb:VR X Z b fb)(hm:behindInMarks op b=false):VC X Z (.Compare a [op] [b] pos) (ni (f2 fa fb p)) :=
 .mk λtm=>PT.weak (JU h (ha tm) (hb tm) hm) λσ H Q ⟨ρ,O,q,I,hf,k⟩=>two ho σ H _ ⟨ρ,O,_,I,hf,λt ht u H' s a=>by obtain⟨c,rfl,hc⟩:=zV ht;have e:=a.2;simp only[At] at e;exact⟨c,e,k c hc H' s⟩⟩
theorem fQ{f:FP}(h:VP X Z e f)(he:∀whole,isTrue e X.env whole=(do let v <- whole;standAt e.pos;holding [v] (truthy v)):=by intro _;rfl):VC X Z e (ni f) :=
 .mk λtm=>PT.weak (OT (h tm) he) λσ H Q ⟨ρ,O,q,I,hf,k⟩=>⟨ρ,O,_,I,hf,λt ht u H' s a=>by obtain⟨c,rfl,hc⟩:=zV ht;have e:=a.2;simp only[At] at e;exact⟨c,e,k c hc H' s⟩⟩
def Zz(f g:FB):FB:=λρ Q=>f ρ λc=>if c=true then g ρ Q else Q false
def fOr(f g:FB):FB:=λρ Q=>f ρ λc=>if c=true then Q true else g ρ Q
def U5(f:FB):FB:=λρ Q=>f ρ λc=>Q (!c)
theorem VW.vc{f:FB}(h:VW X Z e f):VC X Z e f:=.mk λtm=>PW.pt (h tm)
theorem dU{f:FB}(h:VC X Z a f):VW X Z (.BoolOp .And [a] pos) f:=.mk λtm=>pw_and1 (h tm)
theorem pV{f:FB}(h:VC X Z a f):VW X Z (.BoolOp .Or [a] pos) f:=.mk λtm=>pw_or1 (h tm)
theorem fj{rest:qap}{f g:FB}(h:VC X Z a f)(h':VW X Z (.BoolOp .And (b::rest) pos) g):VW X Z (.BoolOp .And (a::b::rest) pos) (Zz f g) :=
 .mk λtm=>PW.weak (pw_and (h tm) (h' tm)) λσ H Q ⟨ρ,O,q,I,hf,k⟩=>⟨ρ,O,_,I,hf,λc hc H1 s1=>by
  cases c with
  |true=>rw[if_pos rfl] at hc ⊢;exact⟨ρ,O,q,I.same s1,hc,λb hb H' s=>k b hb H' (s1.trans s)⟩
  |false=>rw[if_neg iD] at hc ⊢;exact k false hc H1 s1⟩
theorem pW{rest:qap}{f g:FB}(h:VC X Z a f)(h':VW X Z (.BoolOp .Or (b::rest) pos) g):VW X Z (.BoolOp .Or (a::b::rest) pos) (fOr f g) :=
 .mk λtm=>PW.weak (pw_or (h tm) (h' tm)) λσ H Q ⟨ρ,O,q,I,hf,k⟩=>⟨ρ,O,_,I,hf,λc hc H1 s1=>by
  cases c with
  |true=>rw[if_pos rfl] at hc ⊢;exact k true hc H1 s1
  |false=>rw[if_neg iD] at hc ⊢;exact⟨ρ,O,q,I.same s1,hc,λb hb H' s=>k b hb H' (s1.trans s)⟩⟩
theorem g_{f:FB}(h:VC X Z a f):VC X Z (.UnaryOp .Not a pos) (U5 f) :=
 .mk λtm=>PT.weak (OU (h tm)) λσ H Q ⟨ρ,O,q,I,hf,k⟩=>⟨ρ,O,_,I,hf,λc hc H1 s1=>k _ hc H1 s1⟩
def FQ(f g:FP):FP:=λρ Q=>f ρ λr=>match r with
 |.vw (.bl true)=>g ρ Q
 |.vw (.bl false)=>Q (.vw (.bl false))
 |_=>False
theorem uH{op}{f:FP}(h:VP X Z a f):VP X Z (.BoolOp op [a] pos) f:=.mk λtm=>OW (h tm)
theorem pX{rest:qap}{f g:FP}(h:VP X Z a f)(h':VP X Z (.BoolOp .And (b::rest) pos) g):VP X Z (.BoolOp .And (a::b::rest) pos) (FQ f g) :=
 .mk λtm=>PE.weak (OX (h tm) (h' tm)) λσ H Q ⟨ρ,O,q,I,hf,k⟩=>⟨ρ,O,_,I,hf,λr hr v H1 s1 z=>by split at hr;have e:=z.2;simp only[At] at e;exact⟨true,e,by rw[if_pos rfl];exact⟨ρ,O,q,I.same s1,hr,λb hb v H' s=>k b hb v H' (s1.trans s)⟩⟩;have e:=z.2;simp only[At] at e;exact⟨false,e,by rw[if_neg iD];exact k _ hr _ H1 s1 ⟨I.same s1,eY⟩⟩;exact hr.elim⟩
def fIf(c:FB)(f g:FP):FP:=λρ Q=>c ρ λb=>if b=true then f ρ Q else g ρ Q
theorem i6{fc:FB}{f g:FP}(hc:VC X Z c fc)(h:VP X Z a f)(h':VP X Z b g):VP X Z (.IfExp c a b pos) (fIf fc f g) :=
 .mk λtm=>PE.weak (E6 (hc tm) (h tm) (h' tm)) λσ H Q ⟨ρ,O,q,I,hf,k⟩=>⟨ρ,O,_,I,hf,λc hc H1 s1=>by
  cases c with
  |true=>rw[if_pos rfl] at hc ⊢;exact⟨ρ,O,q,I.same s1,hc,λb hb v H' s=>k b hb v H' (s1.trans s)⟩
  |false=>rw[if_neg iD] at hc ⊢;exact⟨ρ,O,q,I.same s1,hc,λb hb v H' s=>k b hb v H' (s1.trans s)⟩⟩
def oQ:FA:=λ_ Q=>Q []
def dF(f:FE)(g:FA):FA:=λρ Q=>f ρ λt=>g ρ λts=>Q (t::ts)
theorem ar:VA X Z [] oQ:=.mk λtm=>PA.weak cX λσ H Q ⟨ρ,O,q,I,hf,k⟩=>k _ hf [] H (aY.refl H) aB.nil
theorem ae{f:FE}{g:FA}(h:VE X Z e f)(h':VA X Z es g)(hs:starEach (e::es) X.env=(false,eval e X.env)::starEach es X.env:=by rfl):VA X Z (e::es) (dF f g) :=
 .mk λtm=>PA.weak (bD (h tm) (h' tm) hs) λσ H Q ⟨ρ,O,q,I,hf,k⟩=>⟨ρ,O,_,I,hf,λt ht v H1 s1 a1=>⟨ρ,O,_,I.same s1,ht,λts fR vs H2 s2 a2=>k _ fR _ H2 (s1.trans s2) (aB.cons (a1.same s2) a2)⟩⟩
theorem aM:PM X Z [] oQ:=.mk λtm=>PA.weak cX λσ H Q ⟨ρ,O,q,I,hf,k⟩=>k _ hf [] H (aY.refl H) .nil
theorem aA{f:FE}{g:FA}(h:VR X Z e f)(h':PM X Z es g)(hs:starEach (e::es) X.env=(false,eval e X.env)::starEach es X.env:=by rfl):PM X Z (e::es) (dF f g) :=
 .mk λtm=>PA.weak (bD (h tm) (h' tm) hs) λσ H Q ⟨ρ,O,q,I,hf,k⟩=>⟨ρ,O,_,I,hf,λt ht v H1 s1 a1=>⟨ρ,O,_,I.same s1,ht,λts fR vs H2 s2 a2=>k _ fR _ H2 (s1.trans s2) (.cons (a1.same s2) a2)⟩⟩
def U6(g:FA):FP:=λρ Q=>g ρ λts=>ts.length<=sizeLine/\Q (.vw (.tup ts))
def ZA(g:FA):FP:=λρ Q=>g ρ λts=>ts.length<=sizeLine/\Q (.fr (.lst ts))
theorem br{g:FA}{x1}(h:VA X Z es g):VP X Z (.Tuple es x1 pos) (U6 g) :=
 .mk λtm=>PE.weak (zI (h tm)) λσ H Q ⟨ρ,O,q,I,hf,k⟩=>⟨ρ,O,_,I,hf,λts fR vs H1 s1 a1=>⟨by rw[a1.length];exact fR.1,λp hp=>k _ fR.2 _ _ (s1.trans (aK hp)) ⟨(I.same s1).same (aK hp),cv (fg.of aI) (a1.same (aK hp))⟩⟩⟩
theorem cY{g:FA}(h:VA X Z es g):VP X Z (.List es pos) (ZA g) :=
 .mk λtm=>PE.weak (zJ (h tm)) λσ H Q ⟨ρ,O,q,I,hf,k⟩=>⟨ρ,O,_,I,hf,λts fR vs H1 s1 a1=>⟨by rw[a1.length];exact fR.1,λp hp=>k _ fR.2 _ _ (s1.trans (aK hp)) ((I.same s1).Dd hp a1)⟩⟩
end
mutual
noncomputable def eqT:T->T->Bool
 |.aQ,.aQ=>true
 |.bl a,.bl b=>a==b
 |.bl a,.int b=>(if a then 1 else 0)==b
 |.int a,.bl b=>a==(if b then 1 else 0)
 |.int a,.int b=>a==b
 |.str a,.str b=>a==b
 |.tup a,.tup b=>gN a b
 |.lst a,.lst b=>gN a b
 |_,_=>false
noncomputable def gN:List T->List T->Bool
 |[],[]=>true
 |a::as,b::bs=>eqT a b && gN as bs
 |_,_=>false
end
mutual
def plainT:T->Bool
 |.tup l=>bG l
 |.lst l=>bG l
 |.dk _ _=>false
 |.dc _ _ _=>false
 |.ins _ _ _=>false
 |.pin _ _=>false
 |.ob _=>false
 |.ty _=>false
 |_=>true
def bG:List T->Bool
 |[]=>true
 |t::ts=>plainT t && bG ts
end
mutual
def dep:T->Nat
 |.tup l=>fS l+1
 |.lst l=>fS l+1
 |_=>0
def fS:List T->Nat
 |[]=>0
 |t::ts=>max (dep t) (fS ts)
end
mutual
theorem eB:∀(t:T),plainT t=true->eqT t t=true
 |.aQ,_=>by simp[eqT]
 |.bl _,_=>by simp[eqT]
 |.int _,_=>by simp[eqT]
 |.str _,_=>by simp[eqT]
 |.tup l,h=>by simp only[plainT] at h;simp only[eqT];exact nq l h
 |.lst l,h=>by simp only[plainT] at h;simp only[eqT];exact nq l h
 |.dk _ _,h=>by simp only[plainT] at h;cases h
 |.dc _ _ _,h=>by simp only[plainT] at h;cases h
 |.ins _ _ _,h=>by simp only[plainT] at h;cases h
 |.pin _ _,h=>by simp only[plainT] at h;cases h
 |.ob _,h=>by simp only[plainT] at h;cases h
 |.ty _,h=>by simp only[plainT] at h;cases h
theorem nq:∀(t:List T),bG t=true->gN t t=true
 |[],_=>by simp[gN]
 |t::ts,h=>by simp only[bG,lL] at h;simp only[gN,lL];exact⟨eB t h.1,nq ts h.2⟩
end
theorem lY:∀{a b:List T},gN a b=true->a.length=b.length
 |[],[],_=>rfl
 |a::as,b::bs,h=>by simp only[gN,lL] at h;simp[lY h.2]
 |[],_::_,h=>by simp[gN] at h
 |_::_,[],h=>by simp[gN] at h
theorem lZ:∀{a b:List T},a.length=b.length->gN a b=(List.range a.length).all λj=>match a[j]?,b[j]? with
  |some x,some y=>eqT x y
  |_,_=>true
 |[],[],_=>by simp[gN]
 |a::as,b::bs,h=>by have ih:=lZ (a:=as) (b:=bs) (by simpa using h);simp only[gN];rw[ih,wI,List.range_succ_eq_map,List.all_cons,List.all_map];rfl
 |[],_::_,h=>by simp at h
 |_::_,[],h=>by simp at h
theorem xi:∀{a b:List T},gN a b=((List.range (min a.length b.length)).all (λj=>match a[j]?,b[j]? with
  |some x,some y=>eqT x y
  |_,_=>true) && a.length==b.length)
 |a,b=>by
   by_cases h:a.length=b.length;rw[lZ h,h,Ni];simp;have e:(a.length==b.length)=false:=by simpa using h
   rw[e,Bool.and_false];cases q:gN a b with
   |false=>rfl
   |true=>exact absurd (lY q) h
section
variable{s:Shared}{O O':qah}
theorem xj(I:Inv X pins σ H s){ys:qak}(h:ia X.K H a xs)(h':fg X.K H a ys):False:=by
 obtain⟨a5,_,p,_⟩:=I.list h;obtain⟨ij,_,p2,_⟩:=I.tuple h';obtain⟨o,n,e,c,_⟩:=p;obtain⟨o2,e2,c2,_⟩:=p2;rw[e] at e2;cases e2;rw[c] at c2;injection c2 with c2
 exact absurd c2 (by decide)
mutual
theorem At.inj(I:Inv X pins σ H s):∀{t u:T}{v:V},plainT t=true->plainT u=true->At X.K H O t v->At X.K H O' u v->t=u
 |.aQ,u,v,_,pu,h,h'=>by simp only[At] at h;subst h;cases u<;>simp only[At] at h'<;>first|rfl|(simp only[plainT] at pu;cases pu;done)|(obtain⟨_,_,e,_⟩:=h';cases e)|(cases h';done)
 |.bl b,u,v,_,pu,h,h'=>by simp only[At] at h;subst h;cases u<;>simp only[At] at h'<;>first|(simp only[plainT] at pu;cases pu;done)|(obtain⟨_,_,e,_⟩:=h';cases e;done)|(cases h';rfl)|(cases h';done)
 |.int b,u,v,_,pu,h,h'=>by simp only[At] at h;subst h;cases u<;>simp only[At] at h'<;>first|(simp only[plainT] at pu;cases pu;done)|(obtain⟨_,_,e,_⟩:=h';cases e;done)|(cases h';rfl)|(cases h';done)
 |.str b,u,v,_,pu,h,h'=>by simp only[At] at h;subst h;cases u<;>simp only[At] at h'<;>first|(simp only[plainT] at pu;cases pu;done)|(obtain⟨_,_,e,_⟩:=h';cases e;done)|(cases h';rfl)|(cases h';done)
 |.dk _ _,_,_,p,_,_,_=>by simp only[plainT] at p;cases p
 |.dc _ _ _,_,_,p,_,_,_=>by simp only[plainT] at p;cases p
 |.ins _ _ _,_,_,p,_,_,_=>by simp only[plainT] at p;cases p
 |.pin _ _,_,_,p,_,_,_=>by simp only[plainT] at p;cases p
 |.ob _,_,_,p,_,_,_=>by simp only[plainT] at p;cases p
 |.ty _,_,_,p,_,_,_=>by simp only[plainT] at p;cases p
 |.tup ts,u,v,p,pu,h,h'=>by
  simp only[At] at h;obtain⟨a,vs,rfl,h1,h2⟩:=h;cases u with
  |tup us=>simp only[At] at h';obtain⟨b,ws,e,g1,g2⟩:=h';cases e;cases I.m4 h1 g1;simp only[plainT] at p pu;rw[aB.inj I p pu h2 g2]
  |lst us=>simp only[At] at h';obtain⟨b,ws,e,g1,g2⟩:=h';cases e;exact (xj I g1.sq h1).elim
  |dk _ _=>simp only[plainT] at pu;cases pu
  |dc _ _ _=>simp only[plainT] at pu;cases pu
  |ins _ _ _=>simp only[plainT] at pu;cases pu
  |pin _ _=>simp only[plainT] at pu;cases pu
  |ob _=>simp only[plainT] at pu;cases pu
  |ty _=>simp only[plainT] at pu;cases pu
  |_=>simp only[At] at h';cases h'
 |.lst ts,u,v,p,pu,h,h'=>by
  simp only[At] at h;obtain⟨a,vs,rfl,h1,h2⟩:=h;cases u with
  |lst us=>simp only[At] at h';obtain⟨b,ws,e,g1,g2⟩:=h';cases e;cases I.pA h1.sq g1.sq;simp only[plainT] at p pu;rw[aB.inj I p pu h2 g2]
  |tup us=>simp only[At] at h';obtain⟨b,ws,e,g1,g2⟩:=h';cases e;exact (xj I h1.sq g1).elim
  |dk _ _=>simp only[plainT] at pu;cases pu
  |dc _ _ _=>simp only[plainT] at pu;cases pu
  |ins _ _ _=>simp only[plainT] at pu;cases pu
  |pin _ _=>simp only[plainT] at pu;cases pu
  |ob _=>simp only[plainT] at pu;cases pu
  |ty _=>simp only[plainT] at pu;cases pu
  |_=>simp only[At] at h';cases h'
theorem aB.inj(I:Inv X pins σ H s):∀{ts us:List T}{vs:qak},bG ts=true->bG us=true->aB X.K H O ts vs->aB X.K H O' us vs->ts=us
 |[],[],_,_,_,_,_=>rfl
 |[],_::_,_,_,_,h,h'=>by simp only[aB] at h h';subst h;obtain⟨_,_,e,_⟩:=h';cases e
 |_::_,[],_,_,_,h,h'=>by simp only[aB] at h h';subst h';obtain⟨_,_,e,_⟩:=h;cases e
 |t::ts,u::us,_,p,pu,h,h'=>by simp only[aB] at h h';simp only[bG,lL] at p pu;obtain⟨v,r,rfl,h1,h2⟩:=h;obtain⟨v',r',e,g1,g2⟩:=h';cases e;rw[At.inj I p.1 pu.1 h1 g1,aB.inj I p.2 pu.2 h2 g2]
end
theorem l0:∀{ts:List T}{j:Nat}{x:T},ts[j]?=some x->dep x<=fS ts
 |[],_,_,h=>by simp at h
 |t::ts,0,x,h=>by simp at h;subst h;simp only[fS];omega
 |t::ts,j+1,x,h=>by have:=l0 (ts:=ts) (j:=j) (x:=x) (by simpa using h);simp only[fS];omega
theorem cZ:∀{ts:List T}{j:Nat}{x:T},bG ts=true->ts[j]?=some x->plainT x=true
 |[],_,_,_,h=>by simp at h
 |t::ts,0,x,p,h=>by simp at h;subst h;simp only[bG,lL] at p;exact p.1
 |t::ts,j+1,x,p,h=>by simp only[bG,lL] at p;exact cZ (ts:=ts) (j:=j) p.2 (by simpa using h)
theorem in1_units(A:Around):A.in1.units=A.units+1:=by first|rfl|simp[Around.in1,Around.units]
theorem l9(I:Inv X pins σ H s){ts us:List T}{ws:qak}{a5 ij:qag}(h1:aB X.K H O ts vs)(h2:aB X.K H O' us ws)(r1:Vals vs a5)(r2:Vals ws ij)(key:∀(j:Nat) x y v w u u',ts[j]?=some x->us[j]?=some y->At X.K H O x v->At X.K H O' y w->RelV v u->RelV w u'->SeqAt.EqAt A s u u' (eqT x y)) :
  ∀(j:Nat)(g1:j<a5.toArray.size)(g2:j<ij.toArray.size),SeqAt.EqAt A s a5.toArray[j] ij.toArray[j] (match ts[j]?,us[j]? with
   |some x,some y=>eqT x y
   |_,_=>true):=λj g1 g2=>by
 have l1:=h1.length;have l2:=h2.length;have m1:=r1.length;have m2:=r2.length;simp only[iX] at g1 g2;have e1:ts[j]?=some (ts[j]'(by omega)):=by simp
 have e2:us[j]?=some (us[j]'(by omega)):=by simp
 obtain⟨v,a1,a2⟩:=h1.get e1;obtain⟨w,b1,b2⟩:=h2.get e2;obtain⟨u,c1,c2⟩:=r1.get a1;obtain⟨u',d1,d2⟩:=r2.get b1;have f1:a5.toArray[j]=u:=by rw[kD (by omega)] at c1;simpa using c1
 have f2:ij.toArray[j]=u':=by rw[kD (by omega)] at d1;simpa using d1
 rw[f1,f2,e1,e2];exact key j _ _ v w u u' e1 e2 a2 b2 c2 d2
theorem pY{O:qah}(I:Inv X pins σ H s){u:T}{w:V}{b:Value}(pu:plainT u=true)(hw:At X.K H O u w)(r:RelV w b):(u=.aQ/\b=.none)\/(∃c,u=.bl c/\b=.bool c)\/(∃c t,u=.int c/\b=.int c t)\/(∃c t,u=.str c/\b=.str c t)\/(∃l p xs,u=.tup l/\b=.ref p/\s.heap.IsTuple p xs)\/∃l p xs,u=.lst l/\b=.ref p/\s.heap.IsList p xs:=by
 cases u with
 |tup l=>simp only[At] at hw;obtain⟨p,ws,rfl,q,_⟩:=hw;cases r;obtain⟨_,_,p1,_⟩:=I.tuple q;exact .inr (.inr (.inr (.inr (.inl ⟨l,p,_,rfl,rfl,p1⟩))))
 |lst l=>simp only[At] at hw;obtain⟨p,ws,rfl,q,_⟩:=hw;cases r;obtain⟨_,_,p1,_⟩:=I.list q.sq;exact .inr (.inr (.inr (.inr (.inr ⟨l,p,_,rfl,rfl,p1.isList⟩))))
 |aQ=>simp only[At] at hw;subst hw;cases r;exact .inl ⟨rfl,rfl⟩
 |bl c=>simp only[At] at hw;subst hw;cases r;exact .inr (.inl ⟨c,rfl,rfl⟩)
 |int c=>simp only[At] at hw;subst hw;obtain⟨t,rfl⟩:=r;exact .inr (.inr (.inl ⟨c,t,rfl,rfl⟩))
 |str c=>simp only[At] at hw;subst hw;obtain⟨t,rfl⟩:=r;exact .inr (.inr (.inr (.inl ⟨c,t,rfl,rfl⟩)))
 |_=>simp only[plainT] at pu;cases pu
theorem Bz(I:Inv X pins σ H s){t u:T}{w:V}{a b:Value}(gq:A.units<cLine)(key:∀(x y:T) (v w:V) (a b:Value),dep x+1<=dep t->plainT x=true->plainT y=true->At X.K H O x v->At X.K H O' y w->RelV v a->RelV w b->SeqAt.EqAt A.in1 s a b (eqT x y))(pt:plainT t=true)(pu:plainT u=true)(ht:At X.K H O t v)(hw:At X.K H O' u w)(rv:RelV v a)(rw':RelV w b):SeqAt.RcAt A s a b (eqT t u):=by
 rcases pY I pt ht rv with⟨rfl,rfl⟩|⟨d,rfl,rfl⟩|⟨d,_,rfl,rfl⟩|⟨d,_,rfl,rfl⟩|⟨l,p,_,rfl,rfl,h⟩|⟨l,p,_,rfl,rfl,h⟩<;>rcases pY I pu hw rw' with⟨rfl,rfl⟩|⟨c,rfl,rfl⟩|⟨c,_,rfl,rfl⟩|⟨c,_,rfl,rfl⟩|⟨l',p',_,rfl,rfl,h'⟩|⟨l',p',_,rfl,rfl,h'⟩<;>simp only[eqT]
 exact .none_none;exact .none_bool _;exact .none_int _ _;exact .none_str _ _;exact .none_tuple h' gq;exact .none_list h' gq;exact .bool_none _;exact .bool_bool _ _;exact .bool_int _ _ _;exact .bool_str _ _ _;exact .bool_tuple _ h' gq;exact .bool_list _ h' gq;exact .int_none _ _;exact .int_bool _ _ _;exact .int_int _ _ _ _;exact .int_str _ _ _ _;exact .int_tuple _ _ h' gq;exact .int_list _ _ h' gq;exact .str_none _ _;exact .str_bool _ _ _;exact .str_int _ _ _ _;exact .str_str _ _ _ _;exact .str_tuple _ _ h' gq;exact .str_list _ _ h' gq;exact .tuple_none h gq;exact .tuple_bool _ h gq;exact .tuple_int _ _ h gq;exact .tuple_str _ _ h gq;simp only[plainT] at pt pu;simp only[At] at ht hw;obtain⟨_,vs,rfl,h1,h2⟩:=ht;obtain⟨_,ws,rfl,g1,g2⟩:=hw;cases rv;cases rw';have e3:=h2.length;have e4:=g2.length;obtain⟨a5,r1,p1,_⟩:=I.tuple h1;obtain⟨ij,r2,p2,_⟩:=I.tuple g1;have e1:=r1.length;have e2:=r2.length;have:=SeqAt.RcAt.tuples (A:=A) p1 p2 gq (l9 I h2 g2 r1 r2 λj x y v w u u' e1 e2 a1 a2 b1 b2=>key x y v w u u' (ly (Nat.succ_le_succ (l0 e1)) (by simp only[dep];omega)) (cZ pt e1) (cZ pu e2) a1 a2 b1 b2);simp only[iX] at this;rw[<- e1,<- e2,e3,e4] at this;rw[xi];exact this;exact .tuple_list h h' gq;exact .list_none h gq;exact .list_bool _ h gq;exact .list_int _ _ h gq;exact .list_str _ _ h gq;exact .list_tuple h h' gq;simp only[plainT] at pt pu;simp only[At] at ht hw;obtain⟨_,vs,rfl,h1,h2⟩:=ht;obtain⟨_,ws,rfl,g1,g2⟩:=hw;cases rv;cases rw';have e3:=h2.length;have e4:=g2.length;obtain⟨a5,r1,p1,_⟩:=I.list h1.sq;obtain⟨ij,r2,p2,_⟩:=I.list g1.sq;have e1:=r1.length;have e2:=r2.length;by_cases hl:l.length=l'.length;have:=SeqAt.RcAt.lists (A:=A) p1.isList p2.isList (by simp only[iX];omega) gq (l9 I h2 g2 r1 r2 λj x y v w u u' e1 e2 a1 a2 b1 b2=>key x y v w u u' (ly (Nat.succ_le_succ (l0 e1)) (by simp only[dep];omega)) (cZ pt e1) (cZ pu e2) a1 a2 b1 b2);simp only[iX] at this;rw[<- e1,e3] at this;rw[lZ hl];exact this;have:gN l l'=false:=by
  cases q:gN l l' with
  |false=>rfl
  |true=>exact absurd (lY q) hl
 rw[this];exact SeqAt.RcAt.lists_lengths p1.isList p2.isList (by simp only[iX];rw[bne_iff_ne];omega) gq
theorem FR{a b:Value}{k:Bool}(h:SeqAt.RcAt A s a b k)(g:a=b->k=true)(f:∀x t,a≠.float x t):SeqAt.EqAt A s a b k:=λprog w E Q hq=>by
 unfold eqBool;refine wpAny_holding (wpAny_ite_split (λe=>?_) λ_=>?_);rw[g (eq_of_beq e)] at hq;exact wpAny_bind (wpAny_rule (wpAny_pure hq));cases a with
 |float x t=>exact absurd rfl (f x t)
 |_=>exact wpAny_bind (h prog w E _ (wpAny_truthy_bool hq))
theorem zW(I:Inv X pins σ H s)(n:Nat):∀(t u:T)(v w:V)(a b:Value)(A:Around),dep t<=n->A.units+n<cLine->plainT t=true->plainT u=true->At X.K H O t v->At X.K H O' u w->RelV v a->RelV w b->SeqAt.EqAt A s a b (eqT t u):=by
 induction n using Nat.strongRecOn with
 |_ n ih=>intro t u v w a b A hd hu pt pu ht hw rv rw';refine FR (Bz I (by omega) (λx y v w a b h=>?_) pt pu ht hw rv rw') (λe=>?_) λx t e=>?_;exact ih (n-1) (by omega) x y v w a b A.in1 (by omega) (by rw[in1_units];omega);subst e;cases rv.inj rw';cases At.inj I pt pu ht hw;exact eB _ pt;rcases pY I pt ht rv with⟨_,h⟩|⟨_,_,h⟩|⟨_,_,_,h⟩|⟨_,_,_,h⟩|⟨_,_,_,_,h,_⟩|⟨_,_,_,_,h,_⟩<;>cases e.symm.trans h
end
section
variable{s:Shared}{O O':qah}
theorem PN(I:Inv X pins σ H s)(t u:T)(v w:V)(a b:Value)(A:Around)(hd:dep t<=100)(hu:A.units+101<cLine)(pt:plainT t=true)(pu:plainT u=true)(ht:At X.K H O t v)(hw:At X.K H O' u w)(rv:RelV v a)(rw':RelV w b):SeqAt.RcAt A s a b (eqT t u) :=
 Bz I (by omega) (λx y v w a b h=>zW I 100 x y v w a b A.in1 (by omega) (by rw[in1_units];omega)) pt pu ht hw rv rw'
theorem PQ(I:Inv X pins σ H s)(t u:T)(v w:V)(a b:Value)(A:Around)(hd:dep t<=100)(hu:A.units+101<cLine)(pt:plainT t=true)(pu:plainT u=true)(ht:At X.K H O t v)(hw:At X.K H O' u w)(rv:RelV v a)(rw':RelV w b):SeqAt.RcNeAt A s a b (!eqT t u):=by
 have gq:A.units<cLine:=by omega
 have zk:A.in1.units+100<cLine:=by rw[in1_units];omega
 rcases pY I pt ht rv with⟨rfl,rfl⟩|⟨d,rfl,rfl⟩|⟨d,_,rfl,rfl⟩|⟨d,_,rfl,rfl⟩|⟨l,p,_,rfl,rfl,h⟩|⟨l,p,_,rfl,rfl,h⟩<;>rcases pY I pu hw rw' with⟨rfl,rfl⟩|⟨c,rfl,rfl⟩|⟨c,_,rfl,rfl⟩|⟨c,_,rfl,rfl⟩|⟨l',p',_,rfl,rfl,h'⟩|⟨l',p',_,rfl,rfl,h'⟩<;>simp only[eqT]
 exact .none_none;exact .none_bool _;exact .none_int _ _;exact .none_str _ _;exact .none_tuple h' gq;exact .none_list h' gq;exact .bool_none _;exact .bool_bool _ _;exact .bool_int _ _ _;exact .bool_str _ _ _;exact .bool_tuple _ h' gq;exact .bool_list _ h' gq;exact .int_none _ _;exact .int_bool _ _ _;exact .int_int _ _ _ _;exact .int_str _ _ _ _;exact .int_tuple _ _ h' gq;exact .int_list _ _ h' gq;exact .str_none _ _;exact .str_bool _ _ _;exact .str_int _ _ _ _;exact .str_str _ _ _ _;exact .str_tuple _ _ h' gq;exact .str_list _ _ h' gq;exact .tuple_none h gq;exact .tuple_bool _ h gq;exact .tuple_int _ _ h gq;exact .tuple_str _ _ h gq;simp only[plainT] at pt pu;simp only[dep] at hd;simp only[At] at ht hw;obtain⟨_,vs,rfl,h1,h2⟩:=ht;obtain⟨_,ws,rfl,g1,g2⟩:=hw;cases rv;cases rw';have e3:=h2.length;have e4:=g2.length;obtain⟨a5,r1,p1,_⟩:=I.tuple h1;obtain⟨ij,r2,p2,_⟩:=I.tuple g1;have e1:=r1.length;have e2:=r2.length;have:=SeqAt.RcNeAt.tuples (A:=A) p1 p2 gq (l9 I h2 g2 r1 r2 λj x y v w u u' e1 e2 a1 a2 b1 b2=>zW I 100 x y v w u u' A.in1 (ly (l0 e1) (by omega)) zk (cZ pt e1) (cZ pu e2) a1 a2 b1 b2);simp only[iX] at this;rw[<- e1,<- e2,e3,e4] at this;rw[xi];exact this;exact .tuple_list h h' gq;exact .list_none h gq;exact .list_bool _ h gq;exact .list_int _ _ h gq;exact .list_str _ _ h gq;exact .list_tuple h h' gq;simp only[plainT] at pt pu;simp only[dep] at hd;simp only[At] at ht hw;obtain⟨_,vs,rfl,h1,h2⟩:=ht;obtain⟨_,ws,rfl,g1,g2⟩:=hw;cases rv;cases rw';have e3:=h2.length;have e4:=g2.length;obtain⟨a5,r1,p1,_⟩:=I.list h1.sq;obtain⟨ij,r2,p2,_⟩:=I.list g1.sq;have e1:=r1.length;have e2:=r2.length;by_cases hl:l.length=l'.length;have:=SeqAt.RcNeAt.lists (A:=A) p1.isList p2.isList (by simp only[iX];omega) gq (l9 I h2 g2 r1 r2 λj x y v w u u' e1 e2 a1 a2 b1 b2=>zW I 100 x y v w u u' A.in1 (ly (l0 e1) (by omega)) zk (cZ pt e1) (cZ pu e2) a1 a2 b1 b2);simp only[iX] at this;rw[<- e1,e3] at this;rw[lZ hl];exact this;have:gN l l'=false:=by
  cases q:gN l l' with
  |false=>rfl
  |true=>exact absurd (lY q) hl
 rw[this];exact SeqAt.RcNeAt.lists_lengths p1.isList p2.isList (by simp only[iX];rw[bne_iff_ne];omega) gq
theorem jg.bare{A:qah}{t:T}(h:jg K H A t v):At K H [] t v:=by
 obtain h|⟨a,rfl,h⟩:=h
 exact At.a8 (O':=[]) (λ_ z=>absurd z gb) h;exact (cQ.a8 (A':=[]) h (λ_ z=>absurd z gb)).at gb
noncomputable def Kq(K:qaf)(neg:Bool):R2:=λx y H Q=>∃t u,At K H [] t x/\At K H [] u y/\plainT t=true/\plainT u=true/\dep t<=100/\Q (.bl (if neg then !eqT t u else eqT t u)) H
theorem FT(hu:X.A.units+101<cLine):gf X (compareOp .Eq) (Kq X.K false):=by intro pins s σ H x y v u Q I rx ry ⟨t,t',h1,h2,p1,p2,d,q⟩;exact PN I t t' x y v u X.A d hu p1 p2 h1 h2 rx ry X.prog X.w X.xe _ ⟨.bl _,H,I,rfl,q⟩
theorem PR(hu:X.A.units+101<cLine):gf X (compareOp .NotEq) (Kq X.K true):=by intro pins s σ H x y v u Q I rx ry ⟨t,t',h1,h2,p1,p2,d,q⟩;exact PQ I t t' x y v u X.A d hu p1 p2 h1 h2 rx ry X.prog X.w X.xe _ ⟨.bl _,H,I,rfl,q⟩
end
def De(x y:T)(q:Rt->Prop):Prop:=match x,y with
 |.int i,.int j=>q (.vw (.bl (decide (i=j))))
 |.str i,.str j=>q (.vw (.bl (decide (i=j))))
 |.bl i,.bl j=>q (.vw (.bl (decide (i=j))))
 |x,y=>plainT x=true/\plainT y=true/\dep x<=100/\q (.vw (.bl (eqT x y)))
def XW(x y:T)(q:Rt->Prop):Prop:=match x,y with
 |.int i,.int j=>q (.vw (.bl (!decide (i=j))))
 |.str i,.str j=>q (.vw (.bl (!decide (i=j))))
 |.bl i,.bl j=>q (.vw (.bl (!decide (i=j))))
 |x,y=>plainT x=true/\plainT y=true/\dep x<=100/\q (.vw (.bl (!eqT x y)))
theorem Kr{x y:T}{q:Rt->Prop}(h:De x y q):plainT x=true/\plainT y=true/\dep x<=100/\q (.vw (.bl (eqT x y))):=by
 unfold De at h;split at h;exact⟨rfl,rfl,jj _,by simp only[eqT,Xw];exact h⟩;refine⟨rfl,rfl,jj _,?_⟩;have e:∀i j:Str,(i==j)=decide (i=j):=λi j=>by rw[T3];simp
 simp only[eqT,e];exact h;exact⟨rfl,rfl,jj _,by simp only[eqT,Xw];exact h⟩;exact h
theorem Ks{x y:T}{q:Rt->Prop}(h:XW x y q):plainT x=true/\plainT y=true/\dep x<=100/\q (.vw (.bl (!eqT x y))):=by
 unfold XW at h;split at h;exact⟨rfl,rfl,jj _,by simp only[eqT,Xw];exact h⟩;refine⟨rfl,rfl,jj _,?_⟩;have e:∀i j:Str,(i==j)=decide (i=j):=λi j=>by rw[T3];simp
 simp only[eqT,e];exact h;exact⟨rfl,rfl,jj _,by simp only[eqT,Xw];exact h⟩;exact h
theorem FU:pU K (Kq K false) De:=by intro Z tm O ρ σ H x y v w q Q I h1 h2 h k;obtain⟨p1,p2,d,h⟩:=Kr h;exact⟨x,y,h1.bare,h2.bare,p1,p2,d,k _ h _ H (aY.refl H) ⟨I,by rw[if_neg iD];exact eY⟩⟩
theorem PU:pU K (Kq K true) XW:=by intro Z tm O ρ σ H x y v w q Q I h1 h2 h k;obtain⟨p1,p2,d,h⟩:=Ks h;exact⟨x,y,h1.bare,h2.bare,p1,p2,d,k _ h _ H (aY.refl H) ⟨I,by rw[if_pos rfl];exact eY⟩⟩
def pI(C:Int->Int->Prop)(g:Int->Int->Int)(x y:T)(q:Rt->Prop):Prop:=match x,y with
 |.int i,.int j=>C i j/\q (.vw (.int (g i j)))
 |_,_=>False
def PV(g:Int->Int->Bool)(x y:T)(q:Rt->Prop):Prop:=match x,y with
 |.int i,.int j=>q (.vw (.bl (g i j)))
 |_,_=>False
def PX(x y:T)(q:Rt->Prop):Prop:=match x,y with
 |.int i,.int j=>q (.vw (.int (i-j)))
 |_,_=>False
theorem Kt:pU K (sV λi j=>.int (i-j)) PX:=by intro Z tm O ρ σ H x y v w q Q I h1 h2 h k;unfold PX at h;split at h;exact⟨_,_,h1.int,h2.int,k _ h _ H (aY.refl H) ⟨I,bC⟩⟩;exact h.elim
def PY(x y:T)(q:Rt->Prop):Prop:=match x,y with
 |.int i,.int j=>E_ i j/\q (.vw (.int (i * j)))
 |_,_=>False
theorem Ku:pU K (rI E_ λi j=>.int (i * j)) PY:=by intro Z tm O ρ σ H x y v w q Q I h1 h2 h k;unfold PY at h;split at h;exact⟨_,_,h1.int,h2.int,h.1,k _ h.2 _ H (aY.refl H) ⟨I,bC⟩⟩;exact h.elim
def PZ(x y:T)(q:Rt->Prop):Prop:=match x,y with
 |.int i,.int j=>(0<j/\j<1073741824)/\q (.vw (.int (i / j)))
 |_,_=>False
theorem Kv:pU K (rI Ur λi j=>.int (i / j)) PZ:=by intro Z tm O ρ σ H x y v w q Q I h1 h2 h k;unfold PZ at h;split at h;exact⟨_,_,h1.int,h2.int,h.1,k _ h.2 _ H (aY.refl H) ⟨I,bC⟩⟩;exact h.elim
def P0(x y:T)(q:Rt->Prop):Prop:=match x,y with
 |.int i,.int j=>0<j/\q (.vw (.int (i % j)))
 |_,_=>False
theorem Kw:pU K (rI (λ_ j=>0<j) λi j=>.int (i % j)) P0:=by intro Z tm O ρ σ H x y v w q Q I h1 h2 h k;unfold P0 at h;split at h;exact⟨_,_,h1.int,h2.int,h.1,k _ h.2 _ H (aY.refl H) ⟨I,bC⟩⟩;exact h.elim
def P4(x y:T)(q:Rt->Prop):Prop:=match x,y with
 |.int i,.int j=>(0<=j/\j<=1000000/\i.natAbs<2 ^ 64)/\q (.vw (.int (i ^ j.toNat)))
 |_,_=>False
theorem Kx:pU K (rI Us λi j=>.int (i ^ j.toNat)) P4:=by intro Z tm O ρ σ H x y v w q Q I h1 h2 h k;unfold P4 at h;split at h;exact⟨_,_,h1.int,h2.int,h.1,k _ h.2 _ H (aY.refl H) ⟨I,bC⟩⟩;exact h.elim
def ZC(x y:T)(q:Rt->Prop):Prop:=match x,y with
 |.int i,.int j=>q (.vw (.bl (decide (i<j))))
 |_,_=>False
theorem P5:pU K (sV λi j=>.bl (decide (i<j))) ZC:=by intro Z tm O ρ σ H x y v w q Q I h1 h2 h k;unfold ZC at h;split at h;exact⟨_,_,h1.int,h2.int,k _ h _ H (aY.refl H) ⟨I,eY⟩⟩;exact h.elim
def ZD(x y:T)(q:Rt->Prop):Prop:=match x,y with
 |.int i,.int j=>q (.vw (.bl (decide (i<=j))))
 |_,_=>False
theorem P6:pU K (sV λi j=>.bl (decide (i<=j))) ZD:=by intro Z tm O ρ σ H x y v w q Q I h1 h2 h k;unfold ZD at h;split at h;exact⟨_,_,h1.int,h2.int,k _ h _ H (aY.refl H) ⟨I,eY⟩⟩;exact h.elim
def ZE(x y:T)(q:Rt->Prop):Prop:=match x,y with
 |.int i,.int j=>q (.vw (.bl (decide (j<i))))
 |_,_=>False
theorem P7:pU K (sV λi j=>.bl (decide (j<i))) ZE:=by intro Z tm O ρ σ H x y v w q Q I h1 h2 h k;unfold ZE at h;split at h;exact⟨_,_,h1.int,h2.int,k _ h _ H (aY.refl H) ⟨I,eY⟩⟩;exact h.elim
def ZF(x y:T)(q:Rt->Prop):Prop:=match x,y with
 |.int i,.int j=>q (.vw (.bl (decide (j<=i))))
 |_,_=>False
theorem P8:pU K (sV λi j=>.bl (decide (j<=i))) ZF:=by intro Z tm O ρ σ H x y v w q Q I h1 h2 h k;unfold ZF at h;split at h;exact⟨_,_,h1.int,h2.int,k _ h _ H (aY.refl H) ⟨I,eY⟩⟩;exact h.elim
def Ny(K:qaf):R2:=λx y H Q=>∃l b xs zs,x=.ref l/\y=.ref b/\ia K H l xs/\ia K H b zs/\xs.length+zs.length<=sizeLine/\∀p,H p=none->Q (.ref p) (upd H p (.lst (xs++zs)))
def Nz(K:qaf):R2:=λx y H Q=>∃a b xs ys,x=.ref a/\y=.ref b/\fg K H a xs/\fg K H b ys/\xs.length+ys.length<=sizeLine/\(xs=[]->Q (.ref b) H)/\(xs≠[]->ys=[]->Q (.ref a) H)/\(xs≠[]->ys≠[]->∀p,H p=none->Q (.ref p) (upd H p (.tup (xs++ys))))
section
theorem Kz:gf X (binaryOp .Add) (Ny X.K):=by
 intro pins s σ H x y v u Q I rx ry h;obtain⟨l,b,xs,zs,rfl,rfl,hH,hB,hz,q⟩:=h;cases rx;cases ry;obtain⟨a5,r,p1,z1⟩:=I.list hH;obtain⟨ij,r2,p2,z2⟩:=I.list hB;obtain⟨⟨cls,dd,data,sl⟩,n,ho,hc,_,hd⟩:=p1;obtain⟨⟨UE,Ta,data2,Tb⟩,n2,C1,Nu,_,hd2⟩:=p2;simp only at hc hd Nu hd2;subst hc hd Nu hd2;have l1:=r.length;have l2:=r2.length;have e:a5.toArray++ij.toArray=(a5++ij).toArray:=by simp
 refine concat_meets ⟨_,ho,rfl⟩ ⟨_,C1,rfl⟩ noFill_list_add seq_list_add PySem.F.slot_list_add PySem.F.entry_list_add (PySem.F.args_list_add_2 _ _) (list_addW l b a5.toArray ij.toArray n n2 dd Ta sl Tb (by simp only[iX];omega)) ⟨ho,C1,?_⟩;rw[e];exact⟨.ref _,_,I.UO (t':=s.toks) (r.append r2) (by rw[nX];omega),rfl,q _ I.fresh⟩
theorem KA:gf X (binaryOp .Add) (Nz X.K):=by
 intro pins s σ H x y v u Q I rx ry h;obtain⟨a,b,xs,ys,rfl,rfl,ha,hb,hz,q0,q1,q2⟩:=h;cases rx;cases ry;obtain⟨a5,r1,p1,_⟩:=I.tuple ha;obtain⟨ij,r2,p2,_⟩:=I.tuple hb;by_cases hx:xs=[];obtain⟨⟨cls,dd,data,sl⟩,ho,hc,n,hd⟩:=id p1;obtain⟨⟨UE,Ta,data2,Tb⟩,C1,Nu,n2,hd2⟩:=id p2;simp only at hc hd Nu hd2;subst hc hd Nu hd2;exact concat_meets ⟨_,ho,rfl⟩ ⟨_,C1,rfl⟩ noFill_tuple_add seq_tuple_add YB Yz (Yy _ _)
  (tuple_addW0 a b a5.toArray ij.toArray n n2 dd Ta sl Tb (by simp[r1.j4.mpr hx])) ⟨ho,C1,⟨.ref b,H,I,rfl,q0 hx⟩⟩
 refine HT.JX p1 p2 (λz=>hx (r1.j4.mp z)) (λz=>⟨.ref a,H,I,rfl,q1 hx (r2.j4.mp z)⟩) (λz=>?_) (by rw[<- r1.length,<- r2.length];exact hz);refine⟨.ref s.heap.objs.size,_,I.laid (t':=s.toks) (o:=.tup (xs++ys)) (λb ob q=>mV _ q) (c3 _) ?_,rfl,q2 hx (λw=>z (r2.j4.mpr w)) _ (I.cn.fresh (c3 _))⟩;exact⟨by rw[nX];exact hz,_,r1.append r2,IsTup.new _ _⟩
end
def NA(K:qaf):R2:=λx y H Q=>sV (λi j=>.int (i+j)) x y H Q\/(λx y H Q=>∃i j,x=.str i/\y=.str j/\i.length+j.length<=sizeLine/\Q (.str (i++j)) H) x y H Q\/Ny K x y H Q\/Nz K x y H Q
theorem KC:gf X (binaryOp .Add) (NA X.K):=gf.or O_ (gf.or zB (gf.or Kz KA))
def P9(x y:T)(q:Rt->Prop):Prop:=match x,y with
 |.int i,.int j=>q (.vw (.int (i+j)))
 |.str i,.str j=>i.length+j.length<=sizeLine/\q (.vw (.str (i++j)))
 |.lst a,.lst b=>a.length+b.length<=sizeLine/\q (.fr (.lst (a++b)))
 |.tup a,.tup b=>a.length+b.length<=sizeLine/\q (.vw (.tup (a++b)))
 |_,_=>False
theorem KD:pU K (NA K) P9:=by
 intro Z tm O ρ σ H x y v w q Q I h1 h2 h k;unfold P9 at h;split at h;exact .inl ⟨_,_,h1.int,h2.int,k _ h _ H (aY.refl H) ⟨I,bC⟩⟩;exact .inr (.inl ⟨_,_,h1.str,h2.str,h.1,k _ h.2 _ H (aY.refl H) ⟨I,c_⟩⟩);obtain⟨a,vs,rfl,s1,a1⟩:=h1.lst;obtain⟨b,ws,rfl,s2,a2⟩:=h2.lst;exact .inr (.inr (.inl ⟨a,b,vs,ws,rfl,rfl,s1,s2,by rw[a1.length,a2.length];exact h.1,λp hp=>k _ h.2 _ _ (aK hp) (I.Dd hp (a1.append a2))⟩));obtain⟨a,vs,rfl,s1,a1⟩:=h1.tup;obtain⟨b,ws,rfl,s2,a2⟩:=h2.tup;refine .inr (.inr (.inr ⟨a,b,vs,ws,rfl,rfl,s1,s2,by rw[a1.length,a2.length];exact h.1,λe=>?_,λ_ e=>?_,λ_ _ p hp=>?_⟩));subst e;have e:=a1.length
 rename_i xs ys
 have e':xs=[]:=M_.mp e.symm;subst e';exact k _ h.2 _ H (aY.refl H) ⟨I,cv s2 a2⟩;subst e;have e:=a2.length
 rename_i xs ys _
 have e':ys=[]:=M_.mp e.symm;subst e';exact k _ h.2 _ H (aY.refl H) ⟨I,by rw[CC];exact cv s1 a1⟩;exact k _ h.2 _ _ (aK hp) ⟨I.same (aK hp),cv (fg.of aI) ((a1.append a2).same (aK hp))⟩;exact h.elim
section
variable{Z:Zc}{a:Expr}{pos:Pos}{fa fb:FE}
theorem bW(ha:VR X Z a fa)(hb:VR X Z b fb):VP X Z (.BinOp a .Add b pos) (f2 fa fb P9):=iK KC KD ha hb
theorem hJ(ha:VR X Z a fa)(hb:VR X Z b fb):VP X Z (.BinOp a .Sub b pos) (f2 fa fb PX):=iK Pa Kt ha hb
theorem gr(ha:VR X Z a fa)(hb:VR X Z b fb):VP X Z (.BinOp a .Mult b pos) (f2 fa fb PY):=iK Pb Ku ha hb
theorem a7(ha:VR X Z a fa)(hb:VR X Z b fb):VP X Z (.BinOp a .FloorDiv b pos) (f2 fa fb PZ):=iK JR Kv ha hb
theorem bj(ha:VR X Z a fa)(hb:VR X Z b fb):VP X Z (.BinOp a .Mod b pos) (f2 fa fb P0):=iK Pc Kw ha hb
theorem jn(ha:VR X Z a fa)(hb:VR X Z b fb):VP X Z (.BinOp a .Pow b pos) (f2 fa fb P4):=iK Pe Kx ha hb
def ZG(f:FE):FP:=λρ Q=>f ρ λx=>match x with
 |.int i=>Q (.vw (.int (-i)))
 |_=>False
theorem kJ(ha:VR X Z a fa):VP X Z (.UnaryOp .USub a pos) (ZG fa):=.mk λtm=>PE.weak (Nq Fb (ha tm)) λσ H Q ⟨ρ,O,q,I,hf,k⟩=>⟨ρ,O,_,I,hf,λt ht v H1 s1 a1=>by split at ht;exact⟨_,a1.int,k _ ht _ H1 s1 ⟨I.same s1,bC⟩⟩;exact ht.elim⟩
theorem tE(hu:X.A.units+101<cLine)(ha:VR X Z a fa)(hb:VR X Z b fb):VP X Z (.Compare a [.Eq] [b] pos) (f2 fa fb De):=FK (FT hu) FU ha hb (iG _)
theorem bJ(hu:X.A.units+101<cLine)(ha:VR X Z a fa)(hb:VR X Z b fb):VC X Z (.Compare a [.Eq] [b] pos) (ni (f2 fa fb De)):=iL (FT hu) FU ha hb (iG _)
theorem l_(hu:X.A.units+101<cLine)(ha:VR X Z a fa)(hb:VR X Z b fb):VC X Z (.Compare a [.NotEq] [b] pos) (ni (f2 fa fb XW)):=iL (PR hu) PU ha hb (iG _)
theorem oi(ha:VR X Z a fa)(hb:VR X Z b fb):VC X Z (.Compare a [.Lt] [b] pos) (ni (f2 fa fb ZC)):=iL Ut P5 ha hb (iG _)
theorem U7(ha:VR X Z a fa)(hb:VR X Z b fb):VC X Z (.Compare a [.LtE] [b] pos) (ni (f2 fa fb ZD)):=iL wW P6 ha hb (iG _)
theorem FV(ha:VR X Z a fa)(hb:VR X Z b fb):VC X Z (.Compare a [.Gt] [b] pos) (ni (f2 fa fb ZE)):=iL Uu P7 ha hb (iG _)
theorem U8(ha:VR X Z a fa)(hb:VR X Z b fb):VC X Z (.Compare a [.GtE] [b] pos) (ni (f2 fa fb ZF)):=iL Uv P8 ha hb (iG _)
def f3(fa fb fc:FE)(p p':T->T->(Rt->Prop)->Prop):FP:=λρ Q=>fa ρ λx=>fb ρ λy=>p x y λr=>match r with
 |.vw (.bl true)=>fc ρ λz=>p' y z Q
 |.vw (.bl false)=>Q (.vw (.bl false))
 |_=>False
end
theorem FW{A:qah}{ts:List T}{i:Int}{t:T}(h:aB K H A ts vs)(e:jc ts i=some t):∃v,jc vs i=some v/\At K H A t v:=by
 unfold jc at e ⊢;rw[h.length];cases q:ux ts.length i with
 |none=>rw[q] at e;cases e
 |some j=>rw[q] at e;obtain⟨v,h1,h2⟩:=h.get (i:=j) e;exact⟨v,h1,h2⟩
def U9(x y:T)(q:Rt->Prop):Prop:=match x,y with
 |.lst ts,.int i=>∃t,jc ts i=some t/\q (.vw t)
 |.tup ts,.int i=>∃t,jc ts i=some t/\q (.vw t)
 |.str z,.int i=>z.length<=sizeLine/\∃c,jc z.cps.toList i=some c/\q (.vw (.str ⟨#[c]⟩))
 |_,_=>False
theorem P_:pU K (rIx K) U9:=by intro Z tm O ρ σ H x y v w q Q I h1 h2 h k;unfold U9 at h;split at h;obtain⟨t,e,h⟩:=h;obtain⟨a,vs,rfl,s1,a1⟩:=h1.lst;obtain⟨u,e',a2⟩:=FW a1 e;exact .inl ⟨a,vs,_,u,rfl,h2.int,s1,e',k _ h _ H (aY.refl H) ⟨I,a2⟩⟩;obtain⟨t,e,h⟩:=h;obtain⟨a,vs,rfl,s1,a1⟩:=h1.tup;obtain⟨u,e',a2⟩:=FW a1 e;exact .inr (.inl ⟨a,vs,_,u,rfl,h2.int,s1,e',k _ h _ H (aY.refl H) ⟨I,a2⟩⟩);obtain⟨hz,c,e,h⟩:=h;exact .inr (.inr ⟨_,_,c,h1.str,h2.int,hz,e,k _ h _ H (aY.refl H) ⟨I,c_⟩⟩);exact h.elim
section
variable{Z:Zc}{a:Expr}{pos:Pos}{fa fb:FE}
theorem aC(ha:VR X Z a fa)(hb:VR X Z b fb)(hs:uz b:=by exact λ_ _=>rfl):VP X Z (.Subscript a b pos) (f2 fa fb U9) :=
 .mk λtm=>PE.weak (Nw Pn (ha tm) (hb tm) hs) (two P_)
end
abbrev FO:=En->(Option Int->Prop)->Prop
def lO(X:Cx)(Z:Zc)(tm:List (T×V))(f:FO):TO:=λσ H Q=>∃ρ O q,ay X.K Z tm O ρ σ H/\f ρ q/\∀o,q o->∀H',aY H H'->Q o H'
def VO(X:Cx)(Z:Zc)(e:Option Expr)(f:FO):Prop:=Bx λtm=>PO X e (lO X Z tm f)
instance{X:Cx}{Z:Zc}{e:Option Expr}{f:FO}:CoeFun (VO X Z e f) λ_=>∀tm,PO X e (lO X Z tm f):=⟨λh=>Bx.h h⟩
theorem PO.weak{e:Option Expr}{t t':TO}(h:PO X e t)(hw:∀σ H Q,t' σ H Q->t σ H Q):PO X e t':=λpins s σ H Q I q=>h pins s σ H Q I (hw _ _ _ q)
def fO0:FO:=λ_ Q=>Q none
def fO1(f:FE):FO:=λρ Q=>f ρ λt=>match t with
 |.int i=>Q (some i)
 |_=>False
noncomputable def fJ{α:Type}(xs:List α)(lo hi:Option Int):List α:=(xs.drop (HT.d_ xs.length 0 lo)).take (HT.d_ xs.length xs.length hi-HT.d_ xs.length 0 lo)
theorem aB.cut{A:qah}{ts:List T}(h:aB K H A ts vs)(lo hi:Option Int):aB K H A (fJ ts lo hi) (wY vs lo hi):=by unfold fJ wY;rw[h.length];exact (h.drop _).take _
def ZH(K:qaf):V->Option Int->Option Int->Hp->VK->Prop:=λx lo hi H Q=>UN K x lo hi H Q\/UI K x lo hi H Q\/U2 x lo hi H Q
theorem ZI:Fl X (ZH X.K):=Fl.or Kb (Fl.or Pk PH)
def pSl(x:T)(lo hi:Option Int)(q:Rt->Prop):Prop:=match x with
 |.lst ts=>q (.fr (.lst (fJ ts lo hi)))
 |.tup ts=>¬ (HT.d_ ts.length 0 lo=0/\HT.d_ ts.length ts.length hi=ts.length)/\q (.vw (.tup (fJ ts lo hi)))
 |.str z=>z.length<=sizeLine/\q (.vw (.str (Txt.slice z lo hi)))
 |_=>False
def fSl(fa:FE)(fl fh:FO):FP:=λρ Q=>fa ρ λx=>fl ρ λlo=>fh ρ λhi=>pSl x lo hi Q
section
variable{Z:Zc}{a:Expr}{lo hi:Option Expr}{pos:Pos}{fa:FE}{fl fh:FO}
theorem j6:VO X Z none fO0:=.mk λtm=>PO.weak JZ λσ H Q ⟨ρ,O,q,I,hf,k⟩=>k _ hf H (aY.refl H)
theorem fE(h:VR X Z e fa):VO X Z (some e) (fO1 fa):=.mk λtm=>PO.weak (J_ (h tm)) λσ H Q ⟨ρ,O,q,I,hf,k⟩=>⟨ρ,O,_,I,hf,λt ht v H' s z=>by split at ht;exact⟨_,z.int,k _ ht H' s⟩;exact ht.elim⟩
theorem fK(he:VR X Z e fa)(hl:VO X Z lo fl)(hh:VO X Z hi fh):VP X Z (.Subscript e (.Slice lo hi none p2) pos) (fSl fa fl fh) :=
 .mk λtm=>PE.weak (Fm ZI (he tm) (hl tm) (hh tm)) λσ H Q ⟨ρ,O,q,I,hf,k⟩=>⟨ρ,O,_,I,hf,λx hx v H1 s1 a1=>⟨ρ,O,_,I.same s1,hx,λl hl H2 s2=>⟨ρ,O,_,(I.same s1).same s2,hl,λu hu H3 s3=>by have J:=((I.same s1).same s2).same s3;have a3:=(a1.same s2).same s3;have S:=(s1.trans s2).trans s3;unfold pSl at hu;split at hu;obtain⟨p,vs,rfl,q1,q2⟩:=a3.lst;exact .inl ⟨p,vs,rfl,q1,λr hr=>k _ hu _ _ (S.trans (aK hr)) (J.Dd hr (q2.cut _ _))⟩;obtain⟨p,vs,rfl,q1,q2⟩:=a3.tup;refine .inr (.inl ⟨p,vs,rfl,q1,by rw[q2.length];exact hu.1,λr hr=>k _ hu.2 _ _ (S.trans (aK hr)) ⟨J.same (aK hr),cv (fg.of aI) ((q2.cut _ _).same (aK hr))⟩⟩);exact .inr (.inr ⟨_,a3.str,hu.1,k _ hu.2 _ H3 S ⟨J,c_⟩⟩);exact hu.elim⟩⟩⟩
end
def NB(g:FA)(p:List T->(Rt->Prop)->Prop):FP:=λρ Q=>g ρ λts=>p ts Q
def pZ(K:qaf)(r:qak->Hp->VK->Prop)(p:List T->(Rt->Prop)->Prop):Prop :=
 ∀(Z:Zc)(tm:List (T×V))(O:HD)(ρ:En)(σ:St)(H:Hp)(ts:List T)(vs:qak)(q:Rt->Prop)(Q:VK),ay K Z tm O ρ σ H->Paired (λv t=>jg K H (av Z O) t v) vs ts->p ts q ->
  (∀t,q t->∀u H',aY H H'->gM K Z tm O ρ σ H' t u->Q u H')->r vs H Q
section
variable{Z:Zc}{a:Expr}{pos:Pos}{g:FA}{id Ty:String}{r:qak->Hp->VK->Prop}{pp:List T->(Rt->Prop)->Prop}
theorem aT(hc:eX X (.builtin id) r)(ht:pZ X.K r pp)(hg:Gl X x)(hm:X.mg x=none)(hv:bootBuiltins x=some (.builtin id))(ha:PM X Z (e::es) g)(hn:x≠"__name__":=by decide)(m8:ie x:=by decide)(hs:starEach (e::es) X.env=(false,eval e X.env)::starEach es X.env:=by rfl)(ic:(backTo pos (starEach es X.env)).any (·.1)=false:=by rfl):VP X Z (.Call (.Name x p) (e::es) [] pos) (NB g pp) :=
 .mk λtm=>PE.weak (pG hc hg hm hv (ha tm) hn m8 hs ic) λσ H Q ⟨ρ,O,q,I,hf,k⟩=>⟨ρ,O,_,I,hf,λts fR vs H1 s1 a1=>ht Z tm O ρ σ H1 ts vs q _ (I.same s1) a1 fR λt h u H' s z=>k t h u H' (s1.trans s) z⟩
theorem dA(hc:eX X (.type Ty) r)(ht:pZ X.K r pp)(hg:Gl X x)(hm:X.mg x=none)(hv:bootBuiltins x=some (.type Ty))(ha:PM X Z (e::es) g)(hn:x≠"__name__":=by decide)(m8:ie x:=by decide)(hs:starEach (e::es) X.env=(false,eval e X.env)::starEach es X.env:=by rfl)(ic:(backTo pos (starEach es X.env)).any (·.1)=false:=by rfl):VP X Z (.Call (.Name x p) (e::es) [] pos) (NB g pp) :=
 .mk λtm=>PE.weak (C0 hc hg hm hv (ha tm) hn m8 hs ic) λσ H Q ⟨ρ,O,q,I,hf,k⟩=>⟨ρ,O,_,I,hf,λts fR vs H1 s1 a1=>ht Z tm O ρ σ H1 ts vs q _ (I.same s1) a1 fR λt h u H' s z=>k t h u H' (s1.trans s) z⟩
end
def U_(ts:List T)(q:Rt->Prop):Prop:=match ts with
 |[.lst l]=>q (.vw (.int l.length))
 |[.tup l]=>q (.vw (.int l.length))
 |[.str z]=>z.length<=sizeLine/\q (.vw (.int z.length))
 |_=>False
def NC(K:qaf):qak->Hp->VK->Prop:=λxs H Q=>(∃p ys,xs=[.ref p]/\(ia K H p ys\/fg K H p ys)/\Q (.int ys.length) H)\/(∃z,xs=[.str z]/\z.length<=sizeLine/\Q (.int z.length) H)
theorem aO:eX X (.builtin "len") (NC X.K):=eX.or uC uD
theorem dW{F:α->β->Prop}{vs:List α}{t:β}(h:Paired F vs [t]):∃v,vs=[v]/\F v t:=by
 cases h with
 |cons r q=>cases q;exact⟨_,rfl,r⟩
theorem KG{F:α->β->Prop}{vs:List α}{t u:β}(h:Paired F vs [t,u]):∃v w,vs=[v,w]/\F v t/\F w u:=by
 cases h with
 |cons r q=>cases q with
  |cons r2 q2=>cases q2;exact⟨_,_,rfl,r,r2⟩
theorem aP:pZ K (NC K) U_:=by intro Z tm O ρ σ H ts vs q Q I h hp k;unfold U_ at hp;split at hp;obtain⟨v,rfl,a⟩:=dW h;obtain⟨p,ws,rfl,q1,q2⟩:=a.lst;exact .inl ⟨p,ws,rfl,.inl q1,k _ hp _ H (aY.refl H) ⟨I,by rw[q2.length];exact bC⟩⟩;obtain⟨v,rfl,a⟩:=dW h;obtain⟨p,ws,rfl,q1,q2⟩:=a.tup;exact .inl ⟨p,ws,rfl,.inr q1,k _ hp _ H (aY.refl H) ⟨I,by rw[q2.length];exact bC⟩⟩;obtain⟨v,rfl,a⟩:=dW h;exact .inr ⟨_,by rw[a.str],hp.1,k _ hp.2 _ H (aY.refl H) ⟨I,bC⟩⟩;exact hp.elim
def ND(ts:List T)(q:Rt->Prop):Prop:=match ts with
 |[.lst l]=>q (.fr (.lst l))
 |[.tup l]=>q (.fr (.lst l))
 |_=>False
theorem fm:pZ K (λxs H Q=>∃p ys,xs=[.ref p]/\(ia K H p ys\/fg K H p ys)/\∀l,H l=none->Q (.ref l) (upd H l (.lst ys))) ND:=by intro Z tm O ρ σ H ts vs q Q I h hp k;unfold ND at hp;split at hp;obtain⟨v,rfl,a⟩:=dW h;obtain⟨p,ws,rfl,q1,q2⟩:=a.lst;exact⟨p,ws,rfl,.inl q1,λl hl=>k _ hp _ _ (aK hl) (I.Dd hl q2)⟩;obtain⟨v,rfl,a⟩:=dW h;obtain⟨p,ws,rfl,q1,q2⟩:=a.tup;exact⟨p,ws,rfl,.inr q1,λl hl=>k _ hp _ _ (aK hl) (I.Dd hl q2)⟩;exact hp.elim
def FY(ts:List T)(q:Rt->Prop):Prop:=match ts with
 |[.lst l]=>q (.vw (.tup l))
 |[.tup l]=>q (.vw (.tup l))
 |_=>False
theorem jo:pZ K (λxs H Q=>∃p ys,xs=[.ref p]/\((ia K H p ys/\∀l,H l=none->Q (.ref l) (upd H l (.tup ys)))\/(fg K H p ys/\Q (.ref p) H))) FY:=by intro Z tm O ρ σ H ts vs q Q I h hp k;unfold FY at hp;split at hp;obtain⟨v,rfl,a⟩:=dW h;obtain⟨p,ws,rfl,q1,q2⟩:=a.lst;exact⟨p,ws,rfl,.inl ⟨q1,λl hl=>k _ hp _ _ (aK hl) ⟨I.same (aK hl),cv (fg.of aI) (q2.same (aK hl))⟩⟩⟩;obtain⟨v,rfl,a⟩:=dW h;obtain⟨p,ws,rfl,q1,q2⟩:=a.tup;exact⟨p,ws,rfl,.inr ⟨q1,k _ hp _ H (aY.refl H) ⟨I,cv q1 q2⟩⟩⟩;exact hp.elim
structure FZ where
 nx:En->Prop
 rt:En->Rt->Prop
 bk:En->Prop:=λ_=>False
 ct:En->Prop:=λ_=>False
structure Fin(K:qaf)(Z:Zc)(tm:List (T×V))(d:FZ)(D:Ends):Prop where
 nx:∀O ρ σ H,ay K Z tm O ρ σ H->d.nx ρ->D.nx σ H
 rt:∀O ρ σ H r v,gM K Z tm O ρ σ H r v->d.rt ρ r->D.rt v H
 bk:∀O ρ σ H,ay K Z tm O ρ σ H->d.bk ρ->D.bk σ H
 ct:∀O ρ σ H,ay K Z tm O ρ σ H->d.ct ρ->D.ct σ H
abbrev FS:=FZ->En->Prop
def lS(X:Cx)(Z:Zc)(tm:List (T×V))(g:FS):TS:=λD σ H=>∃ρ O d,ay X.K Z tm O ρ σ H/\g d ρ/\Fin X.K Z tm d D
def VS(X:Cx)(Z:Zc)(st:Stmt)(g:FS):Prop:=Bx λtm=>PS X st (lS X Z tm g)
instance{X:Cx}{Z:Zc}{st:Stmt}{g:FS}:CoeFun (VS X Z st g) λ_=>∀tm,PS X st (lS X Z tm g):=⟨λh=>Bx.h h⟩
def lF(X:Cx)(Z:Zc)(st:qaq)(g:FS):Prop:=Bx λtm=>iZ X st (lS X Z tm g)
instance{X:Cx}{Z:Zc}{st:qaq}{g:FS}:CoeFun (lF X Z st g) λ_=>∀tm,iZ X st (lS X Z tm g):=⟨λh=>Bx.h h⟩
def bN(Z:Zc)(i:Nat):Prop:=∀p∈Z.P,p.1≠i
section
variable{Z:Zc}{st:Stmt}{rest:qaq}{g u:FS}{pos:Pos}
def U':FS:=λd ρ=>d.nx ρ
def Qa(g u:FS):FS:=λd ρ=>g {d with nx:=u d} ρ
theorem aV:lF X Z [] U':=.mk λtm=>iZ.i5 Bn λD σ H ⟨ρ,O,d,I,h,F⟩=>F.nx O ρ σ H I h
theorem ai(h1:VS X Z st g)(h2:lF X Z rest u):lF X Z (st::rest) (Qa g u):=.mk λtm=>iZ.i5 (cP (h1 tm) (h2 tm)) λD σ H ⟨ρ,O,d,I,h,F⟩ =>
 ⟨ρ,O,{d with nx:=u d},I,h,⟨λO' ρ' σ' H' I' h'=>⟨ρ',O',d,I',h',F⟩,F.rt,F.bk,F.ct⟩⟩
theorem aw(h1:VS X Z st g):lF X Z [st] g:=.mk λtm=>j2 (h1 tm)
theorem lF.weak(h:lF X Z rest g)(hw:∀d ρ,u d ρ->g d ρ):lF X Z rest u:=.mk λtm=>iZ.i5 (h tm) λD σ H ⟨ρ,O,d,I,q,F⟩=>⟨ρ,O,d,I,hw d ρ q,F⟩
def Va(f:FX):FS:=λd ρ=>f ρ λρ' _=>d.nx ρ'
theorem cm{f:FX}(h:VX X Z e f)(hs:swapsWith e none pos.line X.env=pure false:=by rfl):VS X Z (.Expr e pos) (Va f):=.mk λtm=>PS.weak (lQ (h tm) hs) λD σ H ⟨ρ,O,d,I,q,F⟩ =>
 ⟨ρ,O,_,I,q,λρ' r hr O' v H' z=>F.nx O' ρ' σ H' z.env hr⟩
def Vb(f:FX):FS:=λd ρ=>f ρ λρ' r=>d.rt ρ' r
theorem aJ{f:FX}(h:VX X Z e f):VS X Z (.Return (some e) pos) (Vb f):=.mk λtm=>PS.weak (ur (h tm)) λD σ H ⟨ρ,O,d,I,q,F⟩ =>
 ⟨ρ,O,_,I,q,λρ' r hr O' v H' z=>F.rt O' ρ' σ H' r v z hr⟩
def gIf(c:FB)(g u:FS):FS:=λd ρ=>c ρ λb=>if b=true then g d ρ else u d ρ
theorem bt{fc:FB}{a b:qaq}(hc:VC X Z c fc)(ha:lF X Z a g)(hb:lF X Z b u):VS X Z (.If c a b pos) (gIf fc g u):=.mk λtm=>PS.weak (Nn (hc tm) (ha tm) (hb tm)) λD σ H ⟨ρ,O,d,I,q,F⟩ =>
 ⟨ρ,O,_,I,q,λb hb H' s=>by
  cases b with
  |true=>rw[if_pos rfl] at hb ⊢;exact⟨ρ,O,d,I.same s,hb,F⟩
  |false=>rw[if_neg iD] at hb ⊢;exact⟨ρ,O,d,I.same s,hb,F⟩⟩
def Vc(i:Nat)(f:FX):FS:=λd ρ=>f ρ λρ' r=>d.nx (ρ'.set i (some (r.t,false)))
def Vd(i:Nat)(f:FX):FS:=λd ρ=>f ρ λρ' r=>match r with
 |.fr t=>d.nx (ρ'.set i (some (t,true)))
 |_=>False
theorem bq{f:FX}{pos':Pos}(hN:X.N.Nodup)(hi:X.N[i]?=some x)(hx:Loc X.env.scope x)(he:VX X Z e f)(hp:bN Z i)(hs:swapsWith e (some (.Name x pos')) pos.line X.env=pure false:=by rfl)(hf:X.fn x=true\/X.env.scope.names.lookup x=some .local:=by first|exact .inl rfl|exact .inr rfl|assumption):VS X Z (.Assign [.Name x pos'] e pos) (Vc i f):=.mk λtm=>PS.weak (uu hN hi hx (he tm) hs hf) λD σ H ⟨ρ,O,d,I,q,F⟩ =>
 ⟨ρ,O,_,I,q,λρ' r hr O' v H' z=>F.nx _ _ _ H' (z.env.put hp z.at) hr⟩
theorem gu{f:FX}{pos':Pos}(hN:X.N.Nodup)(hi:X.N[i]?=some x)(hx:Loc X.env.scope x)(he:VX X Z e f)(hp:bN Z i)(hs:swapsWith e (some (.Name x pos')) pos.line X.env=pure false:=by rfl)(hf:X.fn x=true\/X.env.scope.names.lookup x=some .local:=by first|exact .inl rfl|exact .inr rfl|assumption):VS X Z (.Assign [.Name x pos'] e pos) (Vd i f):=.mk λtm=>PS.weak (uu hN hi hx (he tm) hs hf) λD σ H ⟨ρ,O,d,I,q,F⟩ =>
 ⟨ρ,O,_,I,q,λρ' r hr O' v H' z=>by split at hr;obtain⟨a,rfl,J,hR,h0,Jq⟩:=z;exact F.nx _ _ _ H' (J.U4 hp hR h0 Jq) hr;exact hr.elim⟩
def adh(i:Nat)(f:FE)(p:T->T->(Rt->Prop)->Prop):FS:=λd ρ=>match ρ[i]? with
 |some (some (x,false))=>f ρ λy=>p x y λr=>d.nx (ρ.set i (some (r.t,false)))
 |_=>False
def Ve(is:qao)(g:FS):FS:=λd ρ=>g d (is.foldl (λρ i=>match ρ[i]? with
 |some (some (t,true))=>ρ.set i (some (t,false))
 |_=>ρ) ρ)
theorem p_{K:qaf}{tm:List (T×V)}:∀(is:qao){O:HD}{ρ:En}{σ:St}{H:Hp},(∀i∈is,bN Z i)->ay K Z tm O ρ σ H->∃O',ay K Z tm O' (is.foldl (λρ i=>match ρ[i]? with
 |some (some (t,true))=>ρ.set i (some (t,false))
 |_=>ρ) ρ) σ H
 |[],O,ρ,σ,H,_,I=>⟨O,I⟩
 |i::is,O,ρ,σ,H,hp,I=>by
  rw[List.foldl_cons];have PL:∀j∈is,bN Z j:=λj hj=>hp j (gG _ hj);split
  rename_i t e
  exact p_ is PL (I.CG (hp i dw) e);exact p_ is PL I
theorem BA(is:qao)(h:lF X Z rest g)(hp:∀i∈is,bN Z i):lF X Z rest (Ve is g):=.mk λtm=>iZ.i5 (h tm) λD σ H ⟨ρ,O,d,I,q,F⟩=>let ⟨O',I'⟩:=p_ is hp I;⟨_,O',d,I',q,F⟩
end
section
variable{Z:Zc}{a:Expr}{pos:Pos}
theorem ay.root{tm:List (T×V)}{ρ:En}(I:ay K Z tm O ρ σ H){k:Nat}{t:T}(e:ρ[k]?=some (some (t,true))):∃a,O[k]?=some (some a)/\σ[k]?=some (some (.ref a))/\cQ K H (av Z O) a t:=by obtain⟨o,s,h1,h2,a,rfl,rfl,h3⟩:=I.sl k _ e;exact⟨a,h1,h2,h3⟩
def BB(k:Nat)(g:FA)(p:List T->List T->(List T->T->Prop)->Prop):FX:=λρ Q=>match ρ[k]? with
 |some (some (.lst ts,true))=>g ρ λvs=>p ts vs λkK r=>Q (ρ.set k (some (.lst kK,true))) (.vw r)
 |_=>False
def Vf(K:qaf)(r:V->qak->Hp->VK->Prop)(p:List T->List T->(List T->T->Prop)->Prop):Prop :=
 ∀(H:Hp)(A:qah)(l:Addr)(xs:qak)(ts us:List T)(vs:qak)(q:List T->T->Prop)(Q:VK),l∈A->H l=some (.lst xs)->aB K H A ts xs->aB K H A us vs->p ts us q ->
  (∀kK t,q kK t->∀ET v,aB K H A kK ET->At K H A t v->Q v (upd H l (.lst ET)))->r (.ref l) vs H Q
theorem BC{r:V->qak->Hp->VK->Prop}{p:List T->List T->(List T->T->Prop)->Prop}(hm:Vf X.K r p){k:Nat}{g:FA}{tm:List (T×V)}{Q:VK}(h:lX X Z tm (BB k g p) σ H Q) :
  ∃l,σ[k]?=some (some (.ref l))/\(∃xs,ia X.K H l xs)/\lA X Z tm g σ H λvs H1=>r (.ref l) vs H1 Q:=by
 obtain⟨ρ,O,q,I,hf,kk⟩:=h;unfold BB at hf;split at hf
 rename_i ts e0
 obtain⟨l,h1,h2,xs,h3,h4⟩:=I.root e0;refine⟨l,h2,⟨xs,ia.of h3⟩,ρ,O,_,I,hf,λus Pt vs H1 s1 a1=>?_⟩;have J:=I.same s1;have ha:l∈av Z O:=cw _ (aN.mpr (gH h1));refine hm H1 (av Z O) l xs ts us vs _ Q ha (s1 _ _ h3) (h4.same s1) a1 Pt λkK t ht ET v b1 b2=>?_;exact kk _ _ ht O _ _ ⟨J.wrote e0 h1 ⟨ET,aI,b1.wrote ha (s1 _ _ h3) rfl⟩,b2.wrote ha (s1 _ _ h3) rfl⟩;exact hf.elim
theorem i7(k:Nat){name:Str}{id:String}{g:FA}{r:V->qak->Hp->VK->Prop}{pp:List T->List T->(List T->T->Prop)->Prop}(slot:Slot "list" name id)(Pq:typeOf (.builtin id)=pure (.type "method_descriptor"))(hm:Nv X id r)(ht:Vf X.K r pp)(ha:VA X Z (e::es) g)(hN:X.N[k]?=some x:=by rfl)(hv:kF X.env.scope x:=by first|exact Or.inl rfl|exact Or.inr (Or.inl rfl)|exact Or.inr (Or.inr rfl))(hd:ie x:=by decide)(gn:uj x:=by decide)(c8:attributeBase (.Name x p) name X.env (eval (.Name x p) X.env)=eval (.Name x p) X.env:=by rfl)(kH:((backTo aZ (starEach (e::es) X.env)).all (λx=>!x.1) && (backToKw aZ (keywordEach [] X.env)).all (λx=>x.1.isSome)
    && decide ((e::es).length+([]:List Keyword).length+(if ([]:List Keyword).isEmpty then 0 else 1)<30))=true:=by rfl)(c9:(apos.endLine==aZ.line)=true:=by rfl)(hs:starEach (e::es) X.env=(false,eval e X.env)::starEach es X.env:=by rfl)(dX:(backTo aZ (starEach es X.env)).any (·.1)=false:=by rfl) :
  VX X Z (.Call (.Attribute (.Name x p) name apos) (e::es) [] aZ) (BB k g pp):=.mk λtm=>
 PE.weak (pK SS slot Pq hm (bV hN hv hd gn) (ha tm) c8 kH c9 hs dX) λσ H Q h=>
  let ⟨l,h1,h2,h3⟩:=BC ht h;⟨.ref l,h1,.inl ⟨rfl,h2⟩,h3⟩
theorem zX(k:Nat){name:Str}{id:String}{r:V->qak->Hp->VK->Prop}{pp:List T->List T->(List T->T->Prop)->Prop}(slot:Slot "list" name id)(Pq:typeOf (.builtin id)=pure (.type "method_descriptor"))(hm:Nv X id r)(ht:Vf X.K r pp)(hN:X.N[k]?=some x:=by rfl)(hv:kF X.env.scope x:=by first|exact Or.inl rfl|exact Or.inr (Or.inl rfl)|exact Or.inr (Or.inr rfl))(hd:ie x:=by decide)(gn:uj x:=by decide)(c8:attributeBase (.Name x p) name X.env (eval (.Name x p) X.env)=eval (.Name x p) X.env:=by rfl)(c9:(apos.endLine==aZ.line)=true:=by rfl):VX X Z (.Call (.Attribute (.Name x p) name apos) [] [] aZ) (BB k oQ pp):=.mk λtm=>
 PE.weak (zQ SS slot Pq hm (bV hN hv hd gn) c8 c9) λσ H Q h=>by obtain⟨l,h1,h2,ρ,O,q,I,hf,kk⟩:=BC ht h;exact⟨.ref l,h1,.inl ⟨rfl,h2⟩,kk [] hf [] H (aY.refl H) aB.nil⟩
def BD(ts us:List T)(q:List T->T->Prop):Prop:=match us with
 |[t]=>ts.length<sizeLine/\q (ts++[t]) .aQ
 |_=>False
theorem bX:Vf K Bu BD:=by intro H A l xs ts us vs q Q hl hH h1 h2 hp k;unfold BD at hp;split at hp;obtain⟨v,rfl,a⟩:=dW (aB.iff.mp h2);exact⟨l,xs,v,rfl,rfl,hH,by rw[h1.length];exact hp.1,k _ _ hp.2 _ _ (h1.append (aB.cons a aB.nil)) uG⟩;exact hp.elim
def ZJ(ts us:List T)(q:List T->T->Prop):Prop:=us=[]/\∃t,ts[ts.length-1]?=some t/\q ts.dropLast t
theorem aB.dropLast{A:qah}{ts:List T}(h:aB K H A ts vs):aB K H A ts.dropLast vs.dropLast:=by rw[List.dropLast_eq_take,List.dropLast_eq_take,h.length];exact h.take _
theorem uI:Vf K UP ZJ:=by
 intro H A l xs ts us vs q Q hl hH h1 h2 hp k;obtain⟨rfl,t,e1,hq⟩:=hp;have e:vs=[]:=by simpa only[aB] using h2
 obtain⟨v,e2,a⟩:=h1.get e1;exact⟨l,xs,v,rfl,e,hH,by rw[h1.length];exact e2,k _ _ hq _ _ h1.dropLast a⟩
def Qb(k:Nat)(f fi:FE):FS:=λd ρ=>f ρ λv=>fi ρ λi=>match ρ[k]?,i with
 |some (some (.lst ts,true)),.int j=>∃n,ux ts.length j=some n/\d.nx (ρ.set k (some (.lst (ts.set n v),true)))
 |_,_=>False
noncomputable def NF(k:Nat)(f fi:FE):FS:=λd ρ=>match ρ[k]? with
 |some (some (.lst ts,true))=>f ρ λv=>fi ρ λi=>match i with
  |.int j=>∃n,ux ts.length j=some n/\d.nx (ρ.set k (some (.lst (ts.set n v),true)))
  |_=>False
 |_=>False
theorem kM(k:Nat){f fi:FE}{i:Expr}(he:VE X Z e f)(hi:VR X Z i fi)(hN:X.N[k]?=some x:=by rfl)(hv:kF X.env.scope x:=by first|exact Or.inl rfl|exact Or.inr (Or.inl rfl)|exact Or.inr (Or.inr rfl))(hd:ie x:=by decide)(gn:uj x:=by decide)(ha:∀v,assign (.Subscript (.Name x p) i fP) X.env v=(do
    let ov <- holding [v] (eval (.Name x p) X.env)
    let iv <- holding [v,ov] (eval i X.env)
    standAt fP
    holding [v,ov,iv] (setItem ov iv v)
    release [v,ov,iv] []):=by intro _;rfl)(hs:swapsWithSole [.Subscript (.Name x p) i fP] e pos.line X.env=pure false:=by rfl)(hw:swappedStores [.Subscript (.Name x p) i fP] e X.env=pure none:=by rfl)(h1:(assignEach [.Subscript (.Name x p) i fP] X.env).map (·.2)=[assign (.Subscript (.Name x p) i fP) X.env]:=by rfl):VS X Z (.Assign [.Subscript (.Name x p) i fP] e pos) (NF k f fi):=.mk λtm=>
 PS.weak (E9 (he tm) (O0 (bV hN hv hd gn) (hi tm) set_list ha) hs hw h1) λD σ H ⟨ρ,O,d,I,q,F⟩=>by
  unfold NF at q;split at q
  rename_i ts e0
  obtain⟨l,h1,h2,xs,h3,h4⟩:=I.root e0;have ha:l∈av Z O:=cw _ (aN.mpr (gH h1));refine⟨ρ,O,_,I,q,λt ht v H1 s1 a1=>⟨.ref l,h2,ρ,O,_,I.same s1,ht,λj hj w H2 s2 a2=>?_⟩⟩;split at hj;obtain⟨n,e1,hj⟩:=hj;refine⟨l,xs,_,n,rfl,a2.int,s2 _ _ (s1 _ _ h3),by rw[h4.length];exact e1,?_⟩;refine F.nx O _ σ _ (((I.same s1).same s2).wrote (t':=.lst (ts.set n t)) e0 h1 ⟨xs.set n v,aI,?_⟩) hj;exact aB.wrote ha (s2 _ _ (s1 _ _ h3)) rfl (((h4.same s1).same s2).set n (a1.same s2));exact hj.elim;exact q.elim
theorem ay.give{tm:List (T×V)}{ρ:En}(I:ay K Z tm O ρ σ H){t:T}(hp:bN Z i)(hi:ρ[i]?=some (some (t,true))):∃a,σ[i]?=some (some (.ref a))/\gM K Z tm (O.set i none) (ρ.set i none) σ H (.fr t) (.ref a):=by
 obtain⟨a,h1,h2,h3⟩:=I.root hi;have ha:a∈roots O:=aN.mpr (gH h1);obtain⟨o1,o2,o3⟩:=I.own a ha;have J:=I.forget hp;have J2:=I.CG hp hi;have na:a∉roots (O.set i none):=λz=>by
  obtain⟨o,s,g1,g2,g3,v,g4,g5⟩:=J2.sl i (some (t,false)) (by rw[Bf (by rw[<- I.lO];exact (dS.mp h1).1)]);rw[h2] at g2;cases g2;cases g4;have nn:a∉av Z (O.set i none):=by
   obtain⟨u,eu,mu⟩:=h3.mut;cases t with
   |lst ts=>
    simp only[At] at g5;obtain⟨b,vs,eb,l,_⟩:=g5;cases eb;obtain l|⟨oo,_,_,lk,_⟩:=l
    exact l.2;exact λz2=>by
     have key:∀(O:HD)(i:Nat),O[i]?=some (some a)->(roots O).Nodup->a∉roots (O.set i none):=by
      intro O;induction O with
      |nil=>intro i h;simp at h
      |cons o O ih=>
       intro i h nd;cases i with
       |zero=>
        have:o=some a:=by simpa using h
        subst this;simp only[roots,Nc,mW,id] at nd ⊢;exact (lx.mp nd).1
       |succ i=>
        have h':O[i]?=some (some a):=by simpa using h
        cases o with
        |none=>simp only[roots,EZ,mW,id] at nd ⊢;exact ih i h' nd
        |some b=>
         simp only[roots,EZ,mW,id] at nd ⊢;rw[lx] at nd;intro z;rcases cT.mp z with z|z
         exact nd.1 (by rw[<- z];exact aN.mpr (gH h'));exact ih i h' nd.2 z
     rcases cN.mp z2 with z2|z2
     exact key O i h1 I.nd z2;exact o2 z2
   |dk ks ts=>simp only[At] at g5;obtain⟨b,vs,eb,_,d,_⟩:=g5;cases eb;exact d.2
   |ins C ns ts=>simp only[At] at g5;obtain⟨b,dx,vs,eb,_,d,_⟩:=g5;cases eb;exact d.2
   |_=>exact h3.elim
  exact nn (cw _ z)
 have hP:Z.H0 a=none:=by
  obtain z|z:=o1
  obtain⟨p,hpm,rfl⟩:=sS.mp z;have:=J.par p hpm;exact absurd (aN.mpr (gH this)) na;exact z
 have sub:∀b∈av (Z.ex a) (O.set i none),b∈av Z O:=λb hb=>by
  rcases dz b hb with z|z
  exact cb i b z;rw[z];exact cw _ ha
 refine⟨a,h2,a,rfl,⟨J.lσ,J.lO,λj e h=>?_,J.nd,λb hb=>?_,J.par,λb hb=>?_,J.keep,λp hp=>(I.pS p hp).a8 sub⟩,h3.a8 sub,hP,o2⟩;rcases get_set h with⟨rfl,rfl,hl⟩|⟨ne,h⟩
 obtain⟨o,s,g1,g2,g3⟩:=J.sl j none (by rw[Bf hl]);exact⟨o,s,g1,g2,g3⟩;obtain⟨o,s,g1,g2,g3⟩:=I.sl j e h;exact⟨o,s,by rw[rP (Ne.symm ne)];exact g1,g2,g3.map (λ_ _ q=>q.a8 sub) λ_ _ _ q=>q.a8 sub⟩;obtain⟨q1,q2,q3⟩:=J.own b hb;refine⟨q1,λz=>?_,q3⟩;rcases cT.mp z with z|z
 exact na (by rw[<- z];exact hb);exact q2 z;rcases cT.mp hb with z|z
 obtain⟨u,eu,_⟩:=o3;rw[z,eu];simp;exact I.ox b z
def NG(i:Nat):FX:=λρ Q=>match ρ[i]? with
 |some (some (t,true))=>Q (ρ.set i none) (.fr t)
 |some (some (t,false))=>Q ρ (.vw t)
 |_=>False
theorem uJ(i:Nat)(hp:bN Z i)(hN:X.N[i]?=some x:=by rfl)(hv:kF X.env.scope x:=by first|exact Or.inl rfl|exact Or.inr (Or.inl rfl)|exact Or.inr (Or.inr rfl))(hd:ie x:=by decide)(gn:uj x:=by decide):VX X Z (.Name x pos) (NG i):=.mk λtm=>PE.weak (bV hN hv hd gn) λσ H Q ⟨ρ,O,q,I,hf,k⟩=>by
 unfold NG at hf;split at hf
 rename_i t e
 obtain⟨a,h1,h2⟩:=I.give hp e;exact⟨_,h1,k _ _ hf _ _ H h2⟩
 rename_i t e
 obtain⟨o,s,h1,h2,rfl,v,rfl,h3⟩:=I.sl i _ e;exact⟨v,h2,k _ _ hf O v H ⟨I,h3⟩⟩;exact hf.elim
end
theorem ay.xk{Z:Zc}{tm tm':List (T×V)}{ρ:En}(I:ay K Z tm O ρ σ H)(h:∀p∈tm',At K H (av Z O) p.1 p.2):ay K Z tm' O ρ σ H :=
 ⟨I.lσ,I.lO,I.sl,I.nd,I.own,I.par,I.ox,I.keep,h⟩
theorem gM.xk{Z:Zc}{cf tm:List (T×V)}{ρ:En}{r:Rt}(h:gM K Z (cf++tm) O ρ σ H r v):gM K Z tm O ρ σ H r v:=by
 cases r with
 |vw t=>exact⟨h.1.xk λp hp=>h.1.pS p (bU _ hp),h.2⟩
 |fr t=>obtain⟨a,e,I,q⟩:=h;exact⟨a,e,I.xk λp hp=>I.pS p (bU _ hp),q⟩
def Wk(K:qaf)(J:It)(cf:List (T×V))(ts:List T):Prop:=∀H A,(∀a∈A,H a≠none)->(∀p∈cf,At K H A p.1 p.2)->∀i:Nat,
 (i<ts.length->J.go i H)/\(ts.length=i->J.stop i H)/\∀t,ts[i]?=some t->∀x H',J.Ui i H x H'->aY H H'/\At K H' A t x
abbrev FI:=En->(List T->Prop)->Prop
noncomputable def lI(X:Cx)(Z:Zc)(tm:List (T×V))(f:FI):TI:=λσ H R=>∃ρ O q,ay X.K Z tm O ρ σ H/\f ρ q/\∀ts,q ts->∀J H' cf,aY H H'->(∀p∈cf,At X.K H' (av Z O) p.1 p.2)->Wk X.K J cf ts->R J H'
def VI(X:Cx)(Z:Zc)(tg iter:Expr)(f:FI):Prop:=Bx λtm=>PI X tg iter (lI X Z tm f)
instance{X:Cx}{Z:Zc}{tg iter:Expr}{f:FI}:CoeFun (VI X Z tg iter f) λ_=>∀tm,PI X tg iter (lI X Z tm f):=⟨λh=>Bx.h h⟩
theorem PI.weak{tg:Expr}{t t':TI}(h:PI X tg e t)(hw:∀σ H R,t' σ H R->t σ H R):PI X tg e t':=λpins s σ H R I q=>h pins s σ H R I (hw _ _ _ q)
theorem PG.weak{tg:Expr}{t t':TG}(h:PG X tg t)(hw:∀v σ H Q,t' v σ H Q->t v σ H Q):PG X tg t':=λpins s σ H v u Q I r q=>h pins s σ H v u Q I r (hw _ _ _ _ q)
theorem E7.weak{tg:qap}{t t':JL}(h:E7 X tg t)(hw:∀v σ H Q,t' v σ H Q->t v σ H Q):E7 X tg t':=λpins s σ H v u Q I r q=>h pins s σ H v u Q I r (hw _ _ _ _ q)
def ZK(K:qaf)(tl:TE):TI:=λσ H R=>tl σ H λx H1=>(∃a,x=.ref a/\(∃xs,ia K H1 a xs)/\R (Y1 K a) H1)\/(∃a,x=.ref a/\(∃xs,fg K H1 a xs)/\R (Y2 K a) H1)\/∃z,x=.str z/\R (XU z) H1
section
variable{Z:Zc}{tg:Expr}
theorem Qc{l:Expr}{tl:TE}(hl:PE X l tl):PI X tg l (ZK X.K tl):=by
 intro pins s σ H R I h;refine bZ (hl pins s σ H _ I h) λv s1 ⟨x,H1,I1,r1,q1⟩=>?_;obtain⟨a,e,hq,q⟩|⟨a,e,hq,q⟩|⟨z,e,q⟩:=q1
 subst e;cases r1;obtain⟨xs,hq⟩:=hq;obtain⟨a5,rv,p,hz⟩:=I1.list hq;refine wpAny_pyIter_list p.isList ?_;refine⟨s1.heap.objs.size,[s1.heap.objs.size],_,_,H1,rfl,I1.kept (t':=s1.toks) λb o e=>mV _ e,CN a _,⟨_,sR _ rfl,rfl,rfl⟩,λb hb=>?_,q⟩;have e:b=s1.heap.objs.size:=by simpa using hb
 subst e;exact I1.pD (c3 _) (I1.cn.fresh (c3 _));subst e;cases r1;obtain⟨xs,hq⟩:=hq;obtain⟨a5,rv,p,hz⟩:=I1.tuple hq;refine wpAny_pyIter_tuple (show s1.heap.IsTuple a a5.toArray from p) ?_;refine⟨s1.heap.objs.size,[s1.heap.objs.size],_,_,H1,rfl,I1.kept (t':=s1.toks) λb o e=>mV _ e,zw a _,⟨_,sR _ rfl,rfl,rfl⟩,λb hb=>?_,q⟩;have e:b=s1.heap.objs.size:=by simpa using hb
 subst e;exact I1.pD (c3 _) (I1.cn.fresh (c3 _));subst e;obtain⟨t,rfl⟩:=r1;refine wpAny_pyIter_strU ?_;have I2:Inv X pins σ H1 {s1 with heap:=s1.heap.push {cls:=.type (strIterType z),data:=.fields #[.str z t,.int 0 0]} }:=I1.kept (t':=s1.toks) λb o e=>mV _ e;refine⟨s1.heap.objs.size,[s1.heap.objs.size],_,_,H1,rfl,I2,FD z t _,⟨_,sR _ rfl,rfl,rfl⟩,λb hb=>?_,q⟩;have e:b=s1.heap.objs.size:=by simpa using hb
 subst e;exact I1.pD (c3 _) I1.fresh
def ZL(f:FE):FI:=λρ Q=>f ρ λt=>match t with
 |.lst ts=>Q ts
 |.tup ts=>Q ts
 |.str z=>Q (z.cps.toList.map λc=>.str ⟨#[c]⟩)
 |_=>False
theorem KH{ts:List T}:Wk K (Y1 K a) [(.lst ts,.ref a)] ts:=λH A hA h i=>by have h:=h _ dw;simp only[At] at h;obtain⟨b,vs,e,l,q⟩:=h;cases e;have hl:=q.length;refine⟨λhi=>⟨vs,vs[i]'(by omega),l.sq,by simp⟩,λhi=>⟨vs,l.sq,by omega⟩,λt ht x H' y=>?_⟩;obtain⟨rfl,y⟩:=y;obtain⟨v,e1,e2⟩:=q.get ht;have:=y vs l.sq;rw[e1] at this;cases this;exact⟨aY.refl _,e2⟩
theorem Qd{ts:List T}:Wk K (Y2 K a) [(.tup ts,.ref a)] ts:=λH A hA h i=>by have h:=h _ dw;simp only[At] at h;obtain⟨b,vs,e,l,q⟩:=h;cases e;have hl:=q.length;refine⟨λhi=>⟨vs,vs[i]'(by omega),l,by simp⟩,λhi=>⟨vs,l,by omega⟩,λt ht x H' y=>?_⟩;obtain⟨rfl,y⟩:=y;obtain⟨v,e1,e2⟩:=q.get ht;have:=y vs l;rw[e1] at this;cases this;exact⟨aY.refl _,e2⟩
theorem Qe{z:Str}:Wk K (XU z) [] (z.cps.toList.map λc=>T.str ⟨#[c]⟩):=λH A hA h i=>by refine⟨λhi=>by rw[cV,Na] at hi;exact hi,λhi=>by rw[cV,Na] at hi;exact Nat.le_of_eq hi,λt ht x H' y=>?_⟩;obtain⟨rfl,c,hc,rfl⟩:=y;rw[gJ,Array.getElem?_toList,hc] at ht;cases ht;exact⟨aY.refl _,c_⟩
theorem jq{l:Expr}{f:FE}(h:VE X Z l f):VI X Z tg l (ZL f):=.mk λtm=>PI.weak (Qc (h tm)) λσ H R ⟨ρ,O,q,I,hf,k⟩=>⟨ρ,O,_,I,hf,λt ht v H' s a=>by split at ht;have a0:=a;simp only[At] at a;obtain⟨p,vs,rfl,l,_⟩:=a;exact .inl ⟨p,rfl,⟨vs,l.sq⟩,k _ ht _ H' _ s (λp hp=>by rw[jh.mp hp];exact a0) KH⟩;have a0:=a;simp only[At] at a;obtain⟨p,vs,rfl,l,_⟩:=a;exact .inr (.inl ⟨p,rfl,⟨vs,l⟩,k _ ht _ H' _ s (λp hp=>by rw[jh.mp hp];exact a0) Qd⟩);have e:=a;simp only[At] at e;exact .inr (.inr ⟨_,e,k _ ht _ H' [] s (λp hp=>nomatch hp) Qe⟩);exact ht.elim⟩
def rangeT(lo:Int)(n:Nat):List T:=(List.range n).map λi=>T.int (lo+((i:Nat):Int))
theorem xl{lo:Int}:Wk K (Uj lo n) [] (rangeT lo n):=λH A hA h i=>by
 unfold rangeT;refine⟨λhi=>by rw[cV,Jf] at hi;exact hi,λhi=>by rw[cV,Jf] at hi;exact Nat.le_of_eq hi,λt ht x H' y=>?_⟩;obtain⟨rfl,rfl⟩:=y;rw[gJ] at ht;cases e:(List.range n)[i]? with
 |none=>rw[e] at ht;cases ht
 |some j=>
  rw[e] at ht;have hj:j=i:=by have:=dS.mp e;obtain⟨h1,h2⟩:=this;simpa using h2.symm
  subst hj;cases ht;exact⟨aY.refl _,bC⟩
def pR1(ts:List T)(Q:List T->Prop):Prop:=match ts with
 |[.int j]=>-(2 ^ 62)<=j/\j<2 ^ 62/\Q (rangeT 0 j.toNat)
 |_=>False
def pR2(ts:List T)(Q:List T->Prop):Prop:=match ts with
 |[.int i,.int j]=>(-(2 ^ 62)<=i/\i<2 ^ 62/\-(2 ^ 62)<=j/\j<2 ^ 62)/\Q (rangeT i (j-i).toNat)
 |_=>False
def F0(g:FA)(p:List T->(List T->Prop)->Prop):FI:=λρ Q=>g ρ λts=>p ts Q
theorem fq{a:Expr}{g:FE}{pos:Pos}(hg:Gl X "range")(hm:X.mg "range"=none)(ha:VR X Z a g)(hs:starEach [a] X.env=[(false,eval a X.env)]:=by rfl) :
  VI X Z tg (.Call (.Name "range" p) [a] [] pos) (F0 (dF g oQ) pR1):=.mk λtm=>PI.weak (CO hg hm ((aA ha aM hs) tm) hs) λσ H R ⟨ρ,O,q,I,hf,k⟩=>⟨ρ,O,_,I,hf,λts fR vs H' s a=>by
 unfold pR1 at fR;split at fR;obtain⟨v,rfl,a1⟩:=dW a;exact⟨_,by rw[a1.int],fR.1,fR.2.1,k _ fR.2.2 _ H' [] s (λp hp=>nomatch hp) xl⟩;exact fR.elim⟩
theorem Dh{a:Expr}{g h:FE}{pos:Pos}(hg:Gl X "range")(hm:X.mg "range"=none)(ha:VR X Z a g)(hb:VR X Z b h)(hs:starEach [a,b] X.env=[(false,eval a X.env),(false,eval b X.env)]:=by rfl)(CQ:starEach [b] X.env=[(false,eval b X.env)]:=by rfl) :
  VI X Z tg (.Call (.Name "range" p) [a,b] [] pos) (F0 (dF g (dF h oQ)) pR2):=.mk λtm=>PI.weak (CP hg hm ((aA ha (aA hb aM CQ) (by rw[hs,CQ])) tm) hs CQ) λσ H R ⟨ρ,O,q,I,hf,k⟩=>⟨ρ,O,_,I,hf,λts fR vs H' s a=>by
 unfold pR2 at fR;split at fR;obtain⟨v,w,rfl,a1,b1⟩:=KG a;exact⟨_,_,by rw[a1.int,b1.int],fR.1,k _ fR.2 _ H' [] s (λp hp=>nomatch hp) xl⟩;exact fR.elim⟩
abbrev FG:=T->En->(En->Prop)->Prop
abbrev KI:=List T->En->(En->Prop)->Prop
noncomputable def lG(X:Cx)(Z:Zc)(tm:List (T×V))(is:qao)(h:FG):TG:=λv σ H Q=>∃ρ O t q,ay X.K Z tm O ρ σ H/\At X.K H (av Z O) t v/\h t ρ q/\∀ρ',q ρ'->∀O' σ',ay X.K Z tm O' ρ' σ' H->(∀a∈roots O',a∈roots O)->(∀(j:Nat),j∉is->O'[j]?=O[j]?)->σ'.length=σ.length->(∀(j:Nat),j∉is->σ'[j]?=σ[j]?)->Q σ' H
noncomputable def lGs(X:Cx)(Z:Zc)(tm:List (T×V))(is:qao)(h:KI):JL:=λvs σ H Q=>∃ρ O ts q,ay X.K Z tm O ρ σ H/\aB X.K H (av Z O) ts vs/\h ts ρ q/\∀ρ',q ρ'->∀O' σ',ay X.K Z tm O' ρ' σ' H->(∀a∈roots O',a∈roots O)->(∀(j:Nat),j∉is->O'[j]?=O[j]?)->σ'.length=σ.length->(∀(j:Nat),j∉is->σ'[j]?=σ[j]?)->Q σ' H
def VG(X:Cx)(Z:Zc)(tg:Expr)(is:qao)(h:FG):Prop:=Bx λtm=>PG X tg (lG X Z tm is h)
instance{X:Cx}{Z:Zc}{tg:Expr}{is:qao}{h:FG}:CoeFun (VG X Z tg is h) λ_=>∀tm,PG X tg (lG X Z tm is h):=⟨λh=>Bx.h h⟩
def Vg(X:Cx)(Z:Zc)(XY:qap)(is:qao)(h:KI):Prop:=Bx λtm=>E7 X XY (lGs X Z tm is h)
instance{X:Cx}{Z:Zc}{XY:qap}{is:qao}{h:KI}:CoeFun (Vg X Z XY is h) λ_=>∀tm,E7 X XY (lGs X Z tm is h):=⟨λh=>Bx.h h⟩
def hName(i:Nat):FG:=λt ρ Q=>Q (ρ.set i (some (t,false)))
theorem bE{pos:Pos}(hN:X.N.Nodup)(hi:X.N[i]?=some x)(hx:Loc X.env.scope x)(hp:bN Z i)(hf:X.fn x=true\/X.env.scope.names.lookup x=some .local:=by first|exact .inl rfl|exact .inr rfl|assumption) :
  VG X Z (.Name x pos) [i] (hName i):=.mk λtm=>PG.weak (JM hN hi hx hf) λv σ H Q ⟨ρ,O,t,q,I,a,h,k⟩ =>
 k _ h _ _ (I.put hp a) (b_ i) (λj hj=>rP (λe=>hj (by simp[e]))) (by simp) λj hj=>rP (λe=>hj (by simp[e]))
def ZM:KI:=λts ρ Q=>ts=[]/\Q ρ
def NH(h:FG)(hs:KI):KI:=λts ρ Q=>match ts with
 |t::r=>h t ρ λρ'=>hs r ρ' Q
 |[]=>False
def Vh(n:Nat)(h:KI):FG:=λt ρ Q=>match t with
 |.tup ts=>ts.length=n/\h ts ρ Q
 |_=>False
theorem ma:Vg X Z [] [] ZM:=.mk λtm=>E7.weak JN λvs σ H Q ⟨ρ,O,ts,q,I,a,h,k⟩=>by
 obtain⟨rfl,h⟩:=h;have e:vs=[]:=by simpa only[aB] using a
 exact⟨e,k _ h O σ I (λ_ z=>z) (λ_ _=>rfl) rfl λ_ _=>rfl⟩
theorem dO{js:qao}{h:FG}{hs:KI}(h1:VG X Z e is h)(h2:Vg X Z es js hs)(hse:(assignEach (e::es) X.env).map (·.2)=assign e X.env::(assignEach es X.env).map (·.2):=by rfl):Vg X Z (e::es) (is++js) (NH h hs):=.mk λtm=>E7.weak (E8 (h1 tm) (h2 tm) hse) λvs σ H Q ⟨ρ,O,ts,q,I,a,hh,k⟩=>by
 unfold NH at hh;split at hh;simp only[aB] at a;obtain⟨v,r,rfl,a1,a2⟩:=a;refine⟨v,r,rfl,ρ,O,_,_,I,a1,hh,λρ' hρ O' σ' I' ro eo l e=>⟨ρ',O',_,q,I',a2.a8 λb hb=>?_,hρ,λρ2 h2 O2 σ2 I2 ro2 eo2 l2 e2=>k ρ2 h2 O2 σ2 I2 (λa z=>ro a (ro2 a z)) (λj hj=>?_) (l2.trans l) λj hj=>?_⟩⟩;rcases cN.mp hb with z|z
 exact cw _ (ro b z);exact bU _ z;rw[cN,not_or] at hj;exact (eo2 j hj.2).trans (eo j hj.1);rw[cN,not_or] at hj;exact (e2 j hj.2).trans (e j hj.1);exact hh.elim
theorem qa{k:Nat}{h:KI}{pos:Pos}(hc:X.calm=true)(hh:Vg X Z es is h)(hn:(assignEach es X.env).length=n:=by rfl)(JO:(assignEach es X.env).findIdx? (·.1)=none:=by rfl):VG X Z (.Tuple es k pos) is (Vh n h):=.mk λtm=>PG.weak (OZ hc (hh tm) hn JO) λv σ H Q ⟨ρ,O,t,q,I,a,h',kk⟩=>by unfold Vh at h';split at h';simp only[At] at a;obtain⟨p,vs,rfl,s,a⟩:=a;exact⟨p,vs,rfl,s,a.length.trans h'.1,ρ,O,_,q,I,a,h'.2,kk⟩;exact h'.elim
def ZN(f:FE)(h:FG):FS:=λd ρ=>f ρ λt=>h t ρ d.nx
theorem Qf{tg:Expr}{f:FE}{h:FG}{pos:Pos}(he:VE X Z e f)(hg:VG X Z tg is h)(hs:swapsWithSole [tg] e pos.line X.env=pure false:=by rfl)(hw:swappedStores [tg] e X.env=pure none:=by rfl)(h1:(assignEach [tg] X.env).map (·.2)=[assign tg X.env]:=by rfl):VS X Z (.Assign [tg] e pos) (ZN f h):=.mk λtm=>PS.weak (E9 (he tm) (hg tm) hs hw h1) λD σ H ⟨ρ,O,d,I,q,F⟩ =>
 ⟨ρ,O,_,I,q,λt ht v H' s a=>⟨ρ,O,t,_,I.same s,a,ht,λρ' hρ O' σ' I' _ _ _ _=>F.nx O' ρ' σ' H' I' hρ⟩⟩
def oj(ts:List T)(h:FG)(g:FS):FS:=λd ρ=>∃Pv:Nat->En->Prop,Pv 0 ρ/\(∀(i:Nat) t ρ',ts[i]?=some t->Pv i ρ'->h t ρ' λρ2=>g {nx:=Pv (i+1),ct:=Pv (i+1),bk:=d.nx,rt:=d.rt} ρ2)/\∀ρ',Pv ts.length ρ'->d.nx ρ'
def ZO(f:FI)(h:FG)(g:FS):FS:=λd ρ=>f ρ λts=>oj ts h g d ρ
theorem kN{body:qaq}{f:FI}{h:FG}{g:FS}{pos:Pos}(hp:PassesOwn (model X.prog X.w) X.A X.env X.xe)(hc:X.calm=true)(hi:VI X Z tg iter f)(hg:VG X Z tg is h)(hb:lF X Z body g)(hs:∀x,foldedSetIterable iter X.env x=pure x:=by intro _;rfl):VS X Z (.For tg iter body [] pos) (ZO f h g):=by
 refine .mk λtm pins s σ H D I0 hw=>?_;obtain⟨ρ,O,d,I,q,F⟩:=hw;refine O5 (wi:=lI X Z tm f) (g:=λv σ H Q=>∃cf,lG X Z (cf++tm) is h v σ H Q) (tb:=λD σ H=>∃cf,lS X Z (cf++tm) g D σ H) hp hc (hi tm) (λpins s σ H v u Q I r ⟨cf,z⟩=>hg (cf++tm) pins s σ H v u Q I r z) (λpins s σ H D I ⟨cf,z⟩=>hb (cf++tm) pins s σ H D I z) hs pins s σ H D I0 ?_;refine⟨ρ,O,_,I,q,λts fR J H' cf s a wk=>?_⟩;obtain⟨Pv,p0,step,fin⟩:=fR;have J0:ay X.K Z (cf++tm) O ρ σ H':=(I.same s).xk λp hp=>by
  rcases cN.mp hp with z|z
  exact a p z;exact (I.same s).pS p z
 refine⟨λi m σ H=>m=ts.length-i/\i<=ts.length/\∃ρ O,ay X.K Z (cf++tm) O ρ σ H/\Pv i ρ,⟨ts.length,by simp,jj _,ρ,O,J0,p0⟩,?_⟩;rintro i m σ1 H1 ⟨rfl,hi,ρ1,O1,I1,p1⟩;obtain⟨w1,w2,w3⟩:=wk H1 (av Z O1) I1.zj (λp hp=>I1.pS p (cw _ hp)) i;have un:∀{O:HD}{ρ:En}{σ:St}{H:Hp},ay X.K Z (cf++tm) O ρ σ H->ay X.K Z tm O ρ σ H:=λI=>I.xk λp hp=>I.pS p (bU _ hp);by_cases j5:i<ts.length;refine .inr ⟨w1 j5,λσ' H'=>∃ρ O,ay X.K Z (cf++tm) O ρ σ' H'/\Pv (i+1) ρ,λσ' H' ⟨ρ',O',I',p'⟩=>⟨ts.length-(i+1),by omega,rfl,j5,ρ',O',I',p'⟩,λx H2 y=>?_⟩;have e:ts[i]?=some ts[i]:=by simp[j5]
 obtain⟨s2,a2⟩:=w3 ts[i] e x H2 y;refine⟨cf,ρ1,O1,ts[i],_,I1.same s2,a2,step i _ ρ1 e p1,λρ2 h2 O2 σ2 I2 _ _ _ _=>⟨cf,ρ2,O2,_,I2,h2,?_⟩⟩;exact⟨λO ρ σ H I p=>⟨ρ,O,I,p⟩,λO ρ σ H r v z p=>F.rt O ρ σ H r v z.xk p,λO ρ σ H I p=>F.nx O ρ σ H (un I) p,λO ρ σ H I p=>⟨ρ,O,I,p⟩⟩;have e:i=ts.length:=by omega
 subst e;exact .inl ⟨w2 (rfl),F.nx O1 ρ1 σ1 H1 (un I1) (fin ρ1 p1)⟩
def Qg(c:FB)(g:FS):FS:=λd ρ=>∃(Pv:Nat->En->Prop),(∃m,Pv m ρ)/\∀m ρ',Pv m ρ'->c ρ' λb=>if b=true then g {nx:=λρ2=>∃m',m'<m/\Pv m' ρ2,ct:=λρ2=>∃m',m'<m/\Pv m' ρ2,bk:=d.nx,rt:=d.rt} ρ' else d.nx ρ'
theorem F4{body:qaq}{fc:FB}{g:FS}{pos:Pos}(hp:PassesOwn (model X.prog X.w) X.A X.env X.xe)(hc:VC X Z c fc)(hb:lF X Z body g):VS X Z (.While c body [] pos) (Qg fc g):=.mk λtm=>PS.weak (wR hp (hc tm) (hb tm)) λD σ H ⟨ρ,O,d,I,q,F⟩=>by
 obtain⟨Pv,⟨m0,p0⟩,step⟩:=q;refine⟨λm σ H=>∃ρ O,ay X.K Z tm O ρ σ H/\Pv m ρ,⟨m0,ρ,O,I,p0⟩,?_⟩;rintro m σ1 H1 ⟨ρ1,O1,I1,p1⟩;refine⟨ρ1,O1,_,I1,step m ρ1 p1,λb hb H2 s2=>?_⟩;cases b with
 |true=>rw[if_pos rfl] at hb ⊢;refine⟨λσ' H'=>∃m',m'<m/\∃ρ O,ay X.K Z tm O ρ σ' H'/\Pv m' ρ,λσ' H' z=>z,ρ1,O1,_,I1.same s2,hb,?_⟩;exact⟨λO ρ σ H I ⟨m',hm,p⟩=>⟨m',hm,ρ,O,I,p⟩,F.rt,F.nx,λO ρ σ H I ⟨m',hm,p⟩=>⟨m',hm,ρ,O,I,p⟩⟩
 |false=>rw[if_neg iD] at hb ⊢;exact F.nx O1 ρ1 σ1 H2 (I1.same s2) hb
end
theorem fu(O:HD)(n:Nat):roots (O++List.replicate n none)=roots O:=by
 unfold roots;rw[List.filterMap_append];have:(List.replicate n (none:qar)).filterMap id=[]:=by
  induction n with
  |zero=>rfl
  |succ n ih=>rw[rQ,mW];exact ih
 rw[this,CC]
theorem ay.longer{Z:Zc}{tm:List (T×V)}{ρ:En}(I:ay K Z tm O ρ σ H)(n:Nat){τ:St}(hτ:τ.length=n) :
  ay K Z tm (O++List.replicate n none) (ρ++List.replicate n none) (σ++τ) H:=by
 have ea:av Z (O++List.replicate n none)=av Z O:=by unfold av;rw[fu]
 refine⟨by simp[I.lσ,hτ],by simp[I.lO],λi e h=>?_,by rw[fu];exact I.nd,λa h=>I.own a (by rw[fu] at h;exact h),λp hp=>?_,I.ox,I.keep,λp hp=>by rw[ea];exact I.pS p hp⟩;rw[ea];by_cases hi:i<ρ.length;rw[mY hi] at h;obtain⟨o,s,h1,h2,h3⟩:=I.sl i e h;exact⟨o,s,by rw[mY (by rw[I.lO];exact hi)];exact h1,by rw[mY (by rw[I.lσ];exact hi)];exact h2,h3⟩;rw[oI (by omega),CA] at h;split at h
 rename_i hl
 cases h;refine⟨none,τ[i-σ.length]'(by rw[I.lσ,hτ];exact hl),?_,?_,rfl⟩;rw[oI (by rw[I.lO];omega),CA,if_pos (by rw[I.lO];exact hl)];rw[oI (by rw[I.lσ];omega)];simp;cases h;have:=I.par p hp;have hl:=(dS.mp this).1;rw[mY hl];exact this
theorem ay.Qh{Z:Zc}{tm:List (T×V)}{ρ:En}{u o:HO}(I:ay K (Z.ex a) tm O ρ σ H)(hu:H a=some u)(hm:km u=true)(h0:Z.H0 a=none):ay K (Z.ex a) tm O ρ σ (upd H a o):=by
 have Kp:a∈av (Z.ex a) O:=bU _ dw;have nr:∀b∈roots O,b≠a:=λb hb e=>(I.own b hb).2.1 (by rw[e];exact dw);refine⟨I.lσ,I.lO,λi e h=>?_,I.nd,λb hb=>?_,I.par,λb hb=>?_,λb o' e n=>?_,λp hp=>(I.pS p hp).wrote Kp hu hm⟩;obtain⟨o',s,h1,h2,h3⟩:=I.sl i e h;refine⟨o',s,h1,h2,h3.map (λ_ _ q=>q.wrote Kp hu hm) λb t e q=>?_⟩;subst e;exact q.map (aE (nr b (aN.mpr (gH h1)))) λ_ _ z=>z.wrote Kp hu hm;obtain⟨q1,q2,v,e,m⟩:=I.own b hb;exact⟨q1,q2,v,by rw[aE (nr b hb)];exact e,m⟩;by_cases e:b=a;subst e;rw[aI];simp;rw[aE e];exact I.ox b hb;have:b≠a:=λe'=>by subst e';have e2:Z.H0 b=some o':=e;rw[h0] at e2;cases e2
 rw[aE this];exact I.keep b o' e n
def cc(h:FG)(fc:FB)(fe:FE)(ρ:En):List T->(List T->Prop)->Prop
 |[],Q=>Q []
 |t::ts,Q=>h t ρ λρ2=>fc ρ2 λb=>if b=true then fe ρ2 λu=>cc h fc fe ρ ts λus=>Q (u::us) else cc h fc fe ρ ts Q
def xm(n:Nat)(is:qao)(f:FI)(h:FG)(fc:FB)(fe:FE):FP:=λρ Q=>(is.all λj=>decide (ρ.length<=j))=true/\f ρ λts=>ts.length<=sizeLine/\cc h fc fe (ρ++List.replicate n none) ts λus=>Q (.fr (.lst us))
def Qi(X:Cx)(Z:Zc)(ifs:qap)(f:FB):Prop:=Bx λtm=>Fw X ifs (lB X Z tm f)
instance{X:Cx}{Z:Zc}{ifs:qap}{f:FB}:CoeFun (Qi X Z ifs f) λ_=>∀tm,Fw X ifs (lB X Z tm f):=⟨λh=>Bx.h h⟩
def Di:FB:=λ_ Q=>Q true
theorem Fw.weak{e:qap}{t t':TT}(h:Fw X e t)(hw:∀σ H Q,t' σ H Q->t σ H Q):Fw X e t':=λpins s σ H Q I q=>h pins s σ H Q I (hw _ _ _ q)
section
variable{Z:Zc}
theorem eC:Qi X Z [] Di:=.mk λtm=>Fw.weak Kh λσ H Q ⟨ρ,O,q,I,h,k⟩=>k true h H (aY.refl H)
theorem BE{f:FB}(h:VC X Z c f):Qi X Z [c] f:=.mk λtm=>Ki (h tm)
noncomputable def cG(X:Cx)(Z:Zc)(tm:List (T×V))(is:qao)(h:FG):TG:=λv σ H Q=>∃D cf,lG X (Z.ex D) (cf++tm) is h v σ H Q
noncomputable def cB(X:Cx)(Z:Zc)(tm:List (T×V))(f:FB):TT:=λσ H Q=>∃D cf,lB X (Z.ex D) (cf++tm) f σ H Q
noncomputable def cE(X:Cx)(Z:Zc)(tm:List (T×V))(f:FE):TE:=λσ H Q=>∃D cf,lE X (Z.ex D) (cf++tm) f σ H Q
theorem Qj{Z:Zc}{tm cf:List (T×V)}{ρ:En}{H1:Hp}{D:Addr}{J:It}{ts:List T}{h:FG}{fc:FB}{fe:FE}{q:Rt->Prop}{Q:VK}(X:Cx)(hK:X.K=K)(I:ay K Z (cf++tm) O ρ σ H1)(hD:H1 D=none)(wk:Wk K J cf ts)(hz:ts.length<=sizeLine)(Js:∀j∈is,ρ.length<=j)(hw:cc h fc fe (ρ++List.replicate n none) ts λus=>q (.fr (.lst us)))(k:∀r,q r->∀v H',aY H1 H'->gM K Z tm O ρ σ H' r v->Q v H') :
  Fx J (cG X Z tm is h) (cB X Z tm fc) (cE X Z tm fe) n σ D (Q (.ref D)) H1:=by
 subst hK;obtain⟨n1,n2,n3⟩:=I.fresh hD;refine⟨λi m acc H2=>m=ts.length-i/\i<=ts.length/\aY H1 H2/\H2 D=some (.lst acc)/\∃us,aB X.K H2 (av (Z.ex D) O) us acc/\acc.length<=i/\ay X.K (Z.ex D) (cf++tm) O ρ σ H2/\cc h fc fe (ρ++List.replicate n none) (ts.drop i) λr=>q (.fr (.lst (us++r))),
  ⟨ts.length,by simp,jj _,aK hD,aI,[],aB.nil,jj _,I.new hD rfl,by simpa using hw⟩,?_⟩
 rintro i m acc H2 ⟨rfl,hi,s2,XZ,us,a2,hl,I2,w2⟩;refine⟨XZ,?_⟩;obtain⟨w1,w2',w3⟩:=wk H2 (av (Z.ex D) O) I2.zj (λp hp=>I2.pS p (cw _ hp)) i;by_cases j5:i<ts.length;refine .inr ⟨w1 j5,by omega,λx H3 y=>?_⟩;have e:ts[i]?=some ts[i]:=by simp[j5]
 obtain⟨s3,a3⟩:=w3 ts[i] e x H3 y;rw[Yx j5] at w2;have I3:=(I2.same s3).longer n (τ:=List.replicate n none) (by simp);have ea:av (Z.ex D) (O++List.replicate n none)=av (Z.ex D) O:=by unfold av;rw[fu]
 refine⟨D,cf,_,_,ts[i],_,I3,by rw[ea];exact a3,w2,λρ4 hρ4 O4 σ4 I4 ro4 eo4 l4 e4=>⟨⟨?_,λj v hj=>?_⟩,D,cf,ρ4,O4,_,I4,hρ4,λb hb H5 s5=>?_⟩⟩;rw[l4];simp;have EU:=(dS.mp hj).1;have:j∉is:=λz=>by have:=Js j z;have:=I.lσ;omega
 rw[e4 j this,mY EU];exact hj;have S5:=(s2.trans s3).trans s5;have J5:=(I2.same s3).same s5;cases b with
 |true=>
   rw[if_pos rfl] at hb;refine Pz ⟨D,cf,ρ4,O4,_,I4.same s5,hb,λu hu y H6 s6 a6=>?_⟩;have ZP:=s6 _ _ (s5 _ _ (s3 _ _ XZ));refine⟨ZP,ts.length-(i+1),by omega,rfl,j5,λb o e=>?_,aI,us++[u],?_,by simp;omega,(J5.same s6).Qh ZP rfl n3,?_⟩;rw[aE (bo e hD)];exact s6 _ _ (S5 _ _ e);have Kp:D∈av (Z.ex D) O:=bU _ dw;have a6':At X.K H6 (av (Z.ex D) O) u y:=a6.a8 λb hb=>by
    rcases cN.mp hb with z|z
    obtain⟨j,hj⟩:=M9.mp (aN.mp z);have EU:=(dS.mp hj).1;have nj:j∉is:=λz=>by have:=Js j z;have:=I.lO;omega
    have:=eo4 j nj;rw[mY EU,hj] at this;exact cw _ (aN.mpr (gH this));exact bU _ z
   exact aB.wrote Kp ZP rfl ((((a2.same s3).same s5).same s6).append (aB.cons a6' aB.nil));have e2:∀r,(us++[u])++r=us++(u::r):=λr=>by simp
   simp only[e2];exact hu
 |false=>rw[if_neg iD] at hb;exact Py ⟨ts.length-(i+1),by omega,rfl,j5,S5,s5 _ _ (s3 _ _ XZ),us,(a2.same s3).same s5,by omega,J5,hb⟩
 have e:i=ts.length:=by omega
 subst e;refine .inl ⟨w2' (rfl),?_⟩;rw[List.drop_length] at w2;simp only[cc,CC] at w2;refine k _ w2 _ H2 s2 ⟨D,rfl,I2.xk λp hp=>I2.pS p (bU _ hp),⟨acc,XZ,a2⟩,n3,n2⟩
theorem BF{tm:List (T×V)}{f:FI}{h:FG}{fc:FB}{fe:FE}{Q:VK}(hq:lP X Z tm (xm n is f h fc fe) σ H Q):Fy n (lI X Z tm f) (cG X Z tm is h) (cB X Z tm fc) (cE X Z tm fe) σ H Q:=by
 obtain⟨ρ,O,q,I,⟨Js,hf⟩,k⟩:=hq;refine⟨ρ,O,_,I,hf,λts fR J H' cf s a wk D hD=>?_⟩;have I':ay X.K Z (cf++tm) O ρ σ H':=(I.same s).xk λp hp=>by
  rcases cN.mp hp with z|z
  exact a p z;exact (I.same s).pS p z
 refine Qj X rfl I' hD wk fR.1 (λj hj=>?_) fR.2 λr hr v H2 s2 z=>k r hr v H2 (s.trans s2) z;have:=OF.mp Js j hj;exact of_decide_eq_true this
variable{ts:qai}{elt tg:Expr}{ifs:qap}{pos:Pos}{f:FI}{h:FG}{fc:FB}{fe:FE}
theorem gT(hc:X.calm=true)(hS:jm X.N ts X.env.scope sc=true)(hi:VI X Z tg iter f)(hg:∀D cl C fp s H,VG (bB X ts sc cl C fp s H) (Z.ex D) tg is h)(ht:∀D cl C fp s H,Qi (bB X ts sc cl C fp s H) (Z.ex D) ifs fc)(he:∀D cl C fp s H,VE (bB X ts sc cl C fp s H) (Z.ex D) elt fe)(hs:∀x,foldedSetIterable iter X.env x=pure x:=by intro _;rfl):VP X Z (.ListComp elt [⟨tg,iter,ifs,0⟩] sc pos) (xm ts.length is f h fc fe):=.mk λtm=>
 PE.weak (Kk hc hS (hi tm) (λcl C fp s H pins s' σ H' v u Q I r ⟨D,cf,z⟩=>hg D cl C fp s H (cf++tm) pins s' σ H' v u Q I r z) (λcl C fp s H pins s' σ H' Q I ⟨D,cf,z⟩=>ht D cl C fp s H (cf++tm) pins s' σ H' Q I z)
  (λcl C fp s H pins s' σ H' Q I ⟨D,cf,z⟩=>he D cl C fp s H (cf++tm) pins s' σ H' Q I z) hs) λσ H Q hq=>BF hq
theorem om{py pN:Pos}(hN:X.N.Nodup)(hy:X.N[i]?=some y)(hx:Loc X.env.scope y)(hc:X.calm=true)(hS:jm X.N ts X.env.scope sc=true)(hi:VI X Z tg iter f)(hg:∀D cl C fp s H,VG (bB X ts sc cl C fp s H) (Z.ex D) tg is h)(ht:∀D cl C fp s H,Qi (bB X ts sc cl C fp s H) (Z.ex D) ifs fc)(he:∀D cl C fp s H,VE (bB X ts sc cl C fp s H) (Z.ex D) elt fe)(FC:swapsWith (.ListComp elt [⟨tg,iter,ifs,0⟩] sc pos) (some (.Name y py)) pN.line X.env=pure true)(hs:∀x,foldedSetIterable iter X.env x=pure x)(hf:X.fn y=true\/X.env.scope.names.lookup y=some .local)(tm:List (T×V)) :
  PS X (.Assign [.Name y py] (.ListComp elt [⟨tg,iter,ifs,0⟩] sc pos) pN) (JP (lP X Z tm (xm ts.length is f h fc fe)) (kn i)) :=
 PS.weak (Kl hN hy hx hc hS (hi tm) (λcl C fp s H pins s' σ H' v u Q I r ⟨D,cf,z⟩=>hg D cl C fp s H (cf++tm) pins s' σ H' v u Q I r z) (λcl C fp s H pins s' σ H' Q I ⟨D,cf,z⟩=>ht D cl C fp s H (cf++tm) pins s' σ H' Q I z)
  (λcl C fp s H pins s' σ H' Q I ⟨D,cf,z⟩=>he D cl C fp s H (cf++tm) pins s' σ H' Q I z) FC hs hf) λD σ H hq=>BF hq
theorem o7{py pN:Pos}(hN:X.N.Nodup)(hy:X.N[i]?=some y)(hx:Loc X.env.scope y)(hc:X.calm=true)(hS:jm X.N ts X.env.scope sc=true)(hi:VI X Z tg iter f)(hg:∀D cl C fp s H,VG (bB X ts sc cl C fp s H) (Z.ex D) tg is h)(ht:∀D cl C fp s H,Qi (bB X ts sc cl C fp s H) (Z.ex D) ifs fc)(he:∀D cl C fp s H,VE (bB X ts sc cl C fp s H) (Z.ex D) elt fe)(hp:bN Z i)(FC:swapsWith (.ListComp elt [⟨tg,iter,ifs,0⟩] sc pos) (some (.Name y py)) pN.line X.env=pure true:=by rfl)(hs:∀x,foldedSetIterable iter X.env x=pure x:=by intro _;rfl)(hf:X.fn y=true\/X.env.scope.names.lookup y=some .local:=by first|exact .inl rfl|exact .inr rfl|assumption) :
  VS X Z (.Assign [.Name y py] (.ListComp elt [⟨tg,iter,ifs,0⟩] sc pos) pN) (Vc i (fX (xm ts.length is f h fc fe))):=.mk λtm=>
 PS.weak (om hN hy hx hc hS hi hg ht he FC hs hf tm) λD σ H ⟨ρ,O,d,I,q,F⟩=>⟨ρ,O,_,I,q,λr hr v H' s z=>F.nx _ _ _ H' (z.env.put hp z.at) hr⟩
theorem F5{py pN:Pos}(hN:X.N.Nodup)(hy:X.N[i]?=some y)(hx:Loc X.env.scope y)(hc:X.calm=true)(hS:jm X.N ts X.env.scope sc=true)(hi:VI X Z tg iter f)(hg:∀D cl C fp s H,VG (bB X ts sc cl C fp s H) (Z.ex D) tg is h)(ht:∀D cl C fp s H,Qi (bB X ts sc cl C fp s H) (Z.ex D) ifs fc)(he:∀D cl C fp s H,VE (bB X ts sc cl C fp s H) (Z.ex D) elt fe)(hp:bN Z i)(FC:swapsWith (.ListComp elt [⟨tg,iter,ifs,0⟩] sc pos) (some (.Name y py)) pN.line X.env=pure true:=by rfl)(hs:∀x,foldedSetIterable iter X.env x=pure x:=by intro _;rfl)(hf:X.fn y=true\/X.env.scope.names.lookup y=some .local:=by first|exact .inl rfl|exact .inr rfl|assumption) :
  VS X Z (.Assign [.Name y py] (.ListComp elt [⟨tg,iter,ifs,0⟩] sc pos) pN) (Vd i (fX (xm ts.length is f h fc fe))):=.mk λtm=>
 PS.weak (om hN hy hx hc hS hi hg ht he FC hs hf tm) λD σ H ⟨ρ,O,d,I,q,F⟩=>⟨ρ,O,_,I,q,λr hr v H' s z=>by
  cases r with
  |fr t=>obtain⟨a,rfl,J,hR,h0,Jq⟩:=z;exact F.nx _ _ _ H' (J.U4 hp hR h0 Jq) hr
  |vw t=>exact (show False from hr).elim⟩
theorem tF{h:FG}{fc:FB}{fe:FE}{ρ:En}{ts:List T}{Q:List T->Prop}(p:T->Bool)(u:T->T)(step:∀t∈ts,∀k:List T->Prop,∀r:List T->Prop,(if p t=true then r [u t] else r [])->h t ρ λρ2=>fc ρ2 λb=>if b=true then fe ρ2 λx=>r [x] else r [])(hq:Q ((ts.filter p).map u)):cc h fc fe ρ ts Q:=by
 induction ts generalizing Q with
 |nil=>exact hq
 |cons t ts ih=>
  have st:=step t dw (λ_=>True) (λl=>match l with
   |[x]=>cc h fc fe ρ ts λus=>Q (x::us)
   |_=>cc h fc fe ρ ts Q)
  have rest:∀{Q':List T->Prop},Q' ((ts.filter p).map u)->cc h fc fe ρ ts Q':=λhq=>ih (λt ht=>step t (gG _ ht)) hq;simp only[cc];refine st ?_;by_cases hp:p t=true;rw[if_pos hp];refine rest ?_;rw[TM hp] at hq;exact hq;rw[if_neg hp];refine rest ?_;rw[YA hp] at hq;exact hq
end
def gv(K:qaf)(H:Hp)(A:qah):List Bool->qah->List T->qak->Prop
 |[],as,ts,vs=>as=[]/\ts=[]/\vs=[]
 |false::fs,as,ts,vs=>∃t kK v jr,ts=t::kK/\vs=v::jr/\At K H A t v/\gv K H A fs as kK jr
 |true::fs,as,ts,vs=>∃a tG t kK jr,as=a::tG/\ts=t::kK/\vs=.ref a::jr/\cQ K H A a t/\gv K H A fs tG kK jr
def Vi(K:qaf)(H:Hp)(as Ox:qah)(H':Hp)(us:List T):Rt->V->Prop
 |.vw t,v=>At K H' (as++Ox) t v/\Paired (λa u=>cQ K H' (as++Ox) a u) as us
 |.fr t,v=>∃b,v=.ref b/\H b=none/\b∉as/\cQ K H' (b::(as++Ox)) b t/\Paired (λa u=>cQ K H' (b::(as++Ox)) a u) as us
abbrev GT:=List T->(List T->Rt->Prop)->Prop
def zY(K:qaf)(fs:List Bool)(G:GT):Sp:=λvs H Q _=>∃ts as Ox q,as.Nodup/\(∀a∈as,a∉Ox)/\(∀a∈Ox,H a≠none)/\gv K H (as++Ox) fs as ts vs/\G ts q /\
 ∀us r,q us r->∀v H',(∀b o,H b=some o->b∉as->H' b=some o)->Vi K H as Ox H' us r v->Q v H'
noncomputable def ro:List Bool->qah->HD
 |[],_=>[]
 |false::fs,as=>none::ro fs as
 |true::fs,a::as=>some a::ro fs as
 |true::fs,[]=>none::ro fs []
noncomputable def pz:List Bool->qah->Nat->List (Nat×Addr)
 |[],_,_=>[]
 |false::fs,as,k=>pz fs as (k+1)
 |true::fs,a::as,k=>(k,a)::pz fs as (k+1)
 |true::fs,[],k=>pz fs [] (k+1)
noncomputable def xn:List Bool->List T->En
 |f::fs,t::ts=>some (t,f)::xn fs ts
 |_,_=>[]
noncomputable def md:List Bool->En->List T
 |[],_=>[]
 |false::fs,ρ=>md fs ρ.tail
 |true::fs,some (t,_)::ρ=>t::md fs ρ
 |true::fs,ρ=>.aQ::md fs ρ.tail
section
variable{A:qah}
theorem jt:∀{fs:List Bool}{as:qah}{ts:List T}{vs:qak},gv K H A fs as ts vs->ts.length=fs.length/\vs.length=fs.length/\(ro fs as).length=fs.length/\(xn fs ts).length=fs.length/\roots (ro fs as)=as
 |[],as,ts,vs,h=>by obtain⟨rfl,rfl,rfl⟩:=h;exact⟨rfl,rfl,rfl,rfl,rfl⟩
 |false::fs,as,ts,vs,h=>by obtain⟨t,kK,v,jr,rfl,rfl,_,h⟩:=h;obtain⟨h1,h2,h3,h4,h5⟩:=jt h;exact⟨by simp[h1],by simp[h2],by simp[ro,h3],by simp[xn,h4],by simpa[ro,roots] using h5⟩
 |true::fs,as,ts,vs,h=>by obtain⟨a,tG,t,kK,jr,rfl,rfl,rfl,_,h⟩:=h;obtain⟨h1,h2,h3,h4,h5⟩:=jt h;refine⟨by simp[h1],by simp[h2],by simp[ro,h3],by simp[xn,h4],?_⟩;simp only[ro,roots,mW,id] at h5 ⊢;rw[h5]
theorem qb:∀{fs:List Bool}{as:qah}{ts:List T}{vs:qak},gv K H A fs as ts vs->∀(i:Nat) e,(xn fs ts)[i]?=some e->∃o s,(ro fs as)[i]?=some o/\(vs.map some)[i]?=some s/\ng K H A e o s
 |[],as,ts,vs,h,i,e,he=>by simp[xn] at he
 |false::fs,as,ts,vs,h,i,e,he=>by
  obtain⟨t,kK,v,jr,rfl,rfl,a,h⟩:=h;cases i with
  |zero=>simp only[xn,Xv,Option.some.injEq] at he;subst he;exact⟨none,some v,rfl,rfl,rfl,v,rfl,a⟩
  |succ i=>exact qb h i e (by simpa[xn] using he)
 |true::fs,as,ts,vs,h,i,e,he=>by
  obtain⟨a,tG,t,kK,jr,rfl,rfl,rfl,r,h⟩:=h;cases i with
  |zero=>simp only[xn,Xv,Option.some.injEq] at he;subst he;exact⟨some a,some (.ref a),rfl,rfl,a,rfl,rfl,r⟩
  |succ i=>exact qb h i e (by simpa[xn] using he)
theorem nt:∀{fs:List Bool}{as:qah}{ts:List T}{vs:qak},gv K H A fs as ts vs->∀a∈as,∃t,cQ K H A a t
 |[],as,ts,vs,h,a,ha=>by obtain⟨rfl,rfl,rfl⟩:=h;cases ha
 |false::fs,as,ts,vs,h,a,ha=>by obtain⟨t,kK,v,jr,rfl,rfl,_,h⟩:=h;exact nt h a ha
 |true::fs,as,ts,vs,h,a,ha=>by
  obtain⟨b,tG,t,kK,jr,rfl,rfl,rfl,r,h⟩:=h;rcases cT.mp ha with z|z
  subst z;exact⟨t,r⟩;exact nt h a z
theorem F6:∀{fs:List Bool}{as:qah}{ts:List T}{vs:qak}(k:Nat),gv K H A fs as ts vs->(pz fs as k).map (·.2)=as/\∀p∈pz fs as k,k<=p.1/\(ro fs as)[p.1-k]?=some (some p.2)
 |[],as,ts,vs,k,h=>by obtain⟨rfl,rfl,rfl⟩:=h;exact⟨rfl,λ_ z=>nomatch z⟩
 |false::fs,as,ts,vs,k,h=>by
  obtain⟨t,kK,v,jr,rfl,rfl,_,h⟩:=h;obtain⟨h1,h2⟩:=F6 (k+1) h;refine⟨h1,λp hp=>?_⟩;obtain⟨l,e⟩:=h2 p hp;refine⟨by omega,?_⟩;have:p.1-k=(p.1-(k+1))+1:=by omega
  rw[this];simpa[ro] using e
 |true::fs,as,ts,vs,k,h=>by
  obtain⟨a,tG,t,kK,jr,rfl,rfl,rfl,_,h⟩:=h;obtain⟨h1,h2⟩:=F6 (k+1) h;refine⟨by simp[pz,h1],λp hp=>?_⟩;rcases cT.mp hp with z|z
  subst z;exact⟨c3 _,by simp[ro]⟩;obtain⟨l,e⟩:=h2 p z;refine⟨by omega,?_⟩;have:p.1-k=(p.1-(k+1))+1:=by omega
  rw[this];simpa[ro] using e
theorem uK{R:Addr->T->Prop}{ρ:En}:∀{fs:List Bool}{as:qah}{ts:List T}{vs:qak}(k:Nat),gv K H A fs as ts vs->(∀p∈pz fs as k,∃t,ρ[p.1]?=some (some (t,true))/\R p.2 t)->Paired R as (md fs (ρ.drop k))
 |[],as,ts,vs,k,h,_=>by obtain⟨rfl,rfl,rfl⟩:=h;exact .nil
 |false::fs,as,ts,vs,k,h,q=>by obtain⟨t,kK,v,jr,rfl,rfl,_,h⟩:=h;have:=uK (k+1) h q;simp only[md,List.tail_drop];exact this
 |true::fs,as,ts,vs,k,h,q=>by
  obtain⟨a,tG,t,kK,jr,rfl,rfl,rfl,_,h⟩:=h;have:=uK (ρ:=ρ) (k+1) h λp hp=>q p (gG _ hp);obtain⟨u,e,r⟩:=q (k,a) dw;have hk:k<ρ.length:=(dS.mp e).1;have e2:ρ[k]=some (u,true):=by rw[kD hk] at e;exact Option.some.inj e
  rw[Yx hk,e2];exact .cons r this
end
theorem F7{N:qai}{fs:List Bool}{as:qah}{ts:List T}{Q:VK}{q:List T->Rt->Prop}{g:FS}(nd:as.Nodup)(nx:∀a∈as,a∉Ox)(ox:∀a∈Ox,H a≠none)(ha:gv X.K H (as++Ox) fs as ts vs)(kk:∀us r,q us r->∀v H',(∀b o,H b=some o->b∉as->H' b=some o)->Vi X.K H as Ox H' us r v->Q v H')(hq:g {nx:=λρ=>q (md fs ρ) (.vw .aQ),rt:=λρ r=>q (md fs ρ) r} (xn fs ts++List.replicate (N.length-ts.length) none)) :
  lS X ⟨H,pz fs as 0,Ox⟩ [] g {nx:=λ_ H'=>Q .aQ H',rt:=Q} (start N vs) H:=by
 obtain⟨K,eK⟩:∃K,K=X.K:=⟨_,rfl⟩;unfold lS;rw[<- eK] at ha kk ⊢;obtain⟨l1,l2,l3,l4,l5⟩:=jt ha;obtain⟨p1,p2⟩:=F6 0 ha;have ea:av ⟨H,pz fs as 0,Ox⟩ (ro fs as++List.replicate (N.length-ts.length) none)=as++Ox:=by unfold av;rw[fu,l5]
 have adi:∀H0 P (O:HD),av ⟨H0,P,Ox⟩ O=roots O++Ox:=λ_ _ _=>rfl;have I0:ay K ⟨H,pz fs as 0,Ox⟩ [] (ro fs as++List.replicate (N.length-ts.length) none) (xn fs ts++List.replicate (N.length-ts.length) none) (start N vs) H:=by
  refine⟨?_,?_,λi e he=>?_,by rw[fu,l5];exact nd,λa h=>?_,λp hp=>?_,ox,λb o e _=>e,λp hp=>nomatch hp⟩;unfold L2.start;simp[l2,l4,l1];simp[l3,l4];rw[ea];by_cases hi:i<fs.length;rw[mY (by rw[l4];exact hi)] at he;obtain⟨o,s,h1,h2,h3⟩:=qb ha i e he;refine⟨o,s,by rw[mY (by rw[l3];exact hi)];exact h1,?_,h3⟩;unfold L2.start;rw[mY (by rw[cV,l2];exact hi)];exact h2;rw[List.getElem?_append_right (by omega),CA] at he;split at he
  rename_i hl
  cases he;refine⟨none,none,?_,?_,rfl⟩;rw[oI (by omega),CA,if_pos (by rw[l3];rw[l4] at hl;exact hl)];unfold L2.start;rw[oI (by rw[cV];omega),CA,cV,if_pos (by rw[l2];rw[l4,l1] at hl;exact hl)];cases he;rw[fu,l5] at h;obtain⟨t,r⟩:=nt ha a h;exact⟨.inl (by show a∈(pz fs as 0).map (·.2);rw[p1];exact h),nx a h,r.mut⟩;obtain⟨_,e⟩:=p2 p hp;rw[Nat.sub_zero] at e;rw[mY (dS.mp e).1];exact e
 have fin:∀{O:HD}{ρ:En}{σ:St}{H':Hp}{Z':Zc},Z'.P=pz fs as 0->ay K Z' [] O ρ σ H'->Paired (λa u=>cQ K H' (av Z' O) a u) as (md fs ρ):=λ{O ρ σ H' Z'} eP I=>by
  have:=uK (ρ:=ρ) (R:=λa u=>cQ K H' (av Z' O) a u) 0 ha λp hp=>?_;rw[List.drop_zero] at this;exact this;have e:=I.par p (by rw[eP];exact hp);have hl:=(dS.mp e).1;have wN:p.1<ρ.length:=by rw[<- I.lO];exact hl
  obtain⟨o,s',h1,h2,h3⟩:=I.sl p.1 ρ[p.1] (by simp);rw[e] at h1;cases h1;cases q:ρ[p.1] with
  |none=>rw[q] at h3;cases h3
  |some tb=>
    obtain⟨t,b⟩:=tb;rw[q] at h3;cases b with
    |false=>cases h3.1
    |true=>obtain⟨a',e1,_,r⟩:=h3;cases e1;exact⟨t,by rw[<- q];simp,r⟩
 have keep:∀{O:HD}{ρ:En}{σ:St}{H':Hp}{Z':Zc},Z'.H0=H->Z'.P=pz fs as 0->ay K Z' [] O ρ σ H'->∀b o,H b=some o->b∉as->H' b=some o:=λe0 eP I b o e n=>I.keep b o (by rw[e0];exact e) (by rw[eP,p1];exact n);have sub:∀{O:HD}{ρ:En}{σ:St}{H':Hp}{Z':Zc},Z'.P=pz fs as 0->ay K Z' [] O ρ σ H'->∀a∈as,a∈roots O:=λeP I a h=>by
  have:a∈(pz fs as 0).map (·.2):=by rw[p1];exact h
  obtain⟨p,hp,rfl⟩:=sS.mp this;exact aN.mpr (gH (I.par p (by rw[eP];exact hp)))
 refine⟨_,_,_,I0,hq,⟨λO ρ σ H' I h=>?_,λO ρ σ H' r v z h=>?_,λ_ _ _ _ _ h=>h.elim,λ_ _ _ _ _ h=>h.elim⟩⟩;have sb:∀a∈as++Ox,a∈av ⟨H,pz fs as 0,Ox⟩ O:=λa h=>by
  rcases cN.mp h with h|h
  exact cw _ (sub rfl I a h);exact bU _ h
 exact kk _ _ h .aQ H' (keep rfl rfl I) ⟨uG,Paired.mZ (fin rfl I) λ_ _ q=>q.a8 sb⟩;cases r with
 |vw t=>
   obtain⟨I,a⟩:=z;have sb:∀a∈as++Ox,a∈av ⟨H,pz fs as 0,Ox⟩ O:=λa h=>by
    rcases cN.mp h with h|h
    exact cw _ (sub rfl I a h);exact bU _ h
   exact kk _ _ h v H' (keep rfl rfl I) ⟨a.a8 sb,Paired.mZ (fin rfl I) λ_ _ q=>q.a8 sb⟩
 |fr t=>
   obtain⟨b,rfl,I,hR,h0,hx⟩:=z;have sb:∀a∈b::(as++Ox),a∈av (Zc.ex ⟨H,pz fs as 0,Ox⟩ b) O:=λa h=>by
    rcases cT.mp h with h|h
    rw[h];exact bU _ dw;rcases cN.mp h with h|h
    exact cw _ (sub rfl I a h);exact bU _ (gG _ h)
   exact kk _ _ h (.ref b) H' (keep rfl rfl I) ⟨b,rfl,h0,λhb=>(I.own b (sub rfl I b hb)).2.1 dw,hR.a8 sb,Paired.mZ (fin rfl I) λ_ _ q=>q.a8 sb⟩
section
theorem ZQ{st:Stmt}{N:qai}{k:Nat}{fs:List Bool}{G:GT}(F:Bw K x qual st f fd)(S:az N ps (ah st))(ZR:fs.length=ps.length)(dN:∀(bA:Value) (A:Around) (outer:List Env) (s:Shared) (H:Hp) (E:XK) (as Ox:qah),bz k (A.deeper (envOfC qual (ah st) s.heap.objs.size f bA))->∀ts q,ts.length=fs.length->G ts q ->
    ∃g,lF (gh eV P w K mg base N qual (ah st) f bA A outer s H E).pB ⟨H,pz fs as 0,Ox⟩ (bK st) g/\g {nx:=λρ=>q (md fs ρ) (.vw .aQ),rt:=λρ r=>q (md fs ρ) r} (xn fs ts++List.replicate (N.length-ts.length) none)) :
  cA P w K mg base eV (k+1) f fd ps (zY K fs G):=by
 refine F.ok S (λvs H Q E h=>?_) (λbA A outer s H vs Q E hr h=>?_);obtain⟨ts,as,Ox,q,_,_,_,ha,_⟩:=h;rw[<- ZR];exact (jt ha).2.1;obtain⟨ts,as,Ox,q,nd,nx,ox,ha,hG,kk⟩:=h;have l1:=(jt ha).1;obtain⟨g,hg,hq⟩:=dN bA A outer s H E as Ox hr ts q l1 hG;exact⟨_,hg [],F7 nd nx ox ha kk hq⟩
end
def cW(K:qaf)(n:Nat)(G:List T->(Rt->Prop)->Prop):Sp:=zY K (List.replicate n false) λts q=>G ts (q [])
section
variable{A:qah}
theorem iM:∀{n:Nat}{ts:List T}{vs:qak},ts.length=n->aB K H A ts vs->gv K H A (List.replicate n false) [] ts vs
 |0,ts,vs,l,h=>by have e:ts=[]:=M_.mp l;subst e;simp only[aB] at h;exact⟨rfl,rfl,h⟩
 |n+1,ts,vs,l,h=>by
  cases ts with
  |nil=>simp at l
  |cons t ts=>simp only[aB] at h;obtain⟨v,r,rfl,h1,h2⟩:=h;exact⟨t,ts,v,r,rfl,rfl,h1,iM (by simpa using l) h2⟩
end
theorem ay.NI{Z:Zc}{tm:List (T×V)}{ρ:En}(I:ay K Z tm O ρ σ H)(h:H a=none)(s:aY H H'){u:HO}(hu:H' a=some u):ay K (Z.ex a) tm O ρ σ H':=by
 have J:=I.same s;obtain⟨n1,n2,n3⟩:=I.fresh h;have mr:∀b∈av (Z.ex a) O,b∈av Z O\/H b=none:=λb hb=>(dz b hb).imp id λe=>by rw[e];exact h
 have fw:∀{t:T}{v:V},At K H (av Z O) t v->At K H' (av (Z.ex a) O) t v:=λq=>(q.more mr).same s;refine⟨J.lσ,J.lO,λi e hi=>?_,J.nd,λb hb=>?_,J.par,λb hb=>?_,J.keep,λp hp=>fw (I.pS p hp)⟩;obtain⟨o,w,h1,h2,h3⟩:=I.sl i e hi;refine⟨o,w,h1,h2,h3.map (λ_ _ q=>fw q) λb t eo q=>?_⟩;exact cQ.same (q.map rfl λ_ _ z=>z.more mr) s;obtain⟨q1,q2,q3⟩:=J.own b hb;refine⟨q1,λz=>?_,q3⟩;rcases cT.mp z with z|z
 exact n1 (by rw[<- z];exact cw _ hb);exact q2 z;rcases cT.mp hb with z|z
 rw[z,hu];simp;exact J.ox b z
def zZ(n:Nat)(g:FA)(G:List T->(Rt->Prop)->Prop):FP:=λρ Q=>g ρ λts=>ts.length=n/\G ts Q
section
variable{Z:Zc}{k:Nat}{G:List T->(Rt->Prop)->Prop}{pos:Pos}{g:FA}
theorem BG{tm:List (T×V)}{ρ:En}{ts:List T}{q:Rt->Prop}{Q:VK}(I:ay X.K Z tm O ρ σ H)(a:aB X.K H (av Z O) ts vs)(hn:ts.length=n)(hG:G ts q)(k:∀r,q r->∀v H',aY H H'->gM X.K Z tm O ρ σ H' r v->Q v H'):cW X.K n G (vs++[]) H Q E0:=by
 rw[CC];refine⟨ts,[],av Z O,λ_ r=>q r,JD,λ_ z=>absurd z gb,I.zj,iM hn a,hG,λus r hr v H' fr z=>?_⟩;have s:aY H H':=λb o e=>fr b o e gb;cases r with
 |vw t=>exact k _ hr v H' s ⟨I.same s,z.1⟩
 |fr t=>
  obtain⟨b,rfl,hb,_,hR,_⟩:=z;obtain⟨n1,n2,n3⟩:=I.fresh hb;obtain⟨u,eu,_⟩:=hR.mut;refine k _ hr _ H' s ⟨b,rfl,I.NI hb s eu,hR.a8 λc hc=>?_,n3,n2⟩;rcases dz c hc with z|z
  exact gG _ z;rw[z];exact dw
theorem KJ(F:cA X.prog X.w X.K X.mg X.base eV k f fd ps (cW X.K n G))(hr:bz k X.A)(hg:Gl X x)(hm:X.mg x=some (.ref f))(hk:PySem.W.keepIn X.K (.ref f)=true)(hb:Binds X.K fd ps [])(ha:VA X Z (e::es) g)(m8:ie x:=by decide)(he:starEach (e::es) X.env=(false,eval e X.env)::starEach es X.env:=by rfl)(ic:(backTo pos (starEach es X.env)).any (·.1)=false:=by rfl) :
  VP X Z (.Call (.Name x p) (e::es) [] pos) (zZ n g G):=.mk λtm=>PE.weak (lU F hr hg hm hk hb .nil ko (ha tm) m8 he ic) λσ H Q ⟨ρ,O,q,I,hf,k⟩ =>
 ⟨ρ,O,_,I,hf,λts fR vs H1 s1 a1=>BG (I.same s1) a1 fR.1 fR.2 λr hr v H' s z=>k r hr v H' (s1.trans s) z⟩
end
def AM(K:qaf)(H:Hp)(A:qah)(O:HD)(ρ:En):List (Option Nat)->List T->qak->Prop
 |[],ts,vs=>ts=[]/\vs=[]
 |none::ms,ts,vs=>∃t kK v jr,ts=t::kK/\vs=v::jr/\At K H A t v/\AM K H A O ρ ms kK jr
 |some k::ms,ts,vs=>∃a t kK jr,ts=t::kK/\vs=.ref a::jr/\ρ[k]?=some (some (t,true))/\O[k]?=some (some a)/\AM K H A O ρ ms kK jr
noncomputable def lAM(X:Cx)(Z:Zc)(tm:List (T×V))(ms:List (Option Nat))(f:FA):TA:=λσ H Q=>∃ρ O q,ay X.K Z tm O ρ σ H/\f ρ q/\∀ts,q ts->∀vs H',aY H H'->AM X.K H' (av Z O) O ρ ms ts vs->Q vs H'
def Qk(X:Cx)(Z:Zc)(es:qap)(ms:List (Option Nat))(f:FA):Prop:=Bx λtm=>PA X es (lAM X Z tm ms f)
instance{X:Cx}{Z:Zc}{es:qap}{ms:List (Option Nat)}{f:FA}:CoeFun (Qk X Z es ms f) λ_=>∀tm,PA X es (lAM X Z tm ms f):=⟨λh=>Bx.h h⟩
def F8(i:Nat):FE:=λρ Q=>match ρ[i]? with
 |some (some (t,true))=>Q t
 |_=>False
section
variable{Z:Zc}{g:FA}
theorem KL:Qk X Z [] [] oQ:=.mk λtm=>PA.weak cX λσ H Q ⟨ρ,O,q,I,hf,k⟩=>k _ hf [] H (aY.refl H) ⟨rfl,rfl⟩
theorem qc{ms:List (Option Nat)}{f:FE}(h:VE X Z e f)(h':Qk X Z es ms g)(hs:starEach (e::es) X.env=(false,eval e X.env)::starEach es X.env:=by rfl):Qk X Z (e::es) (none::ms) (dF f g) :=
 .mk λtm=>PA.weak (bD (h tm) (h' tm) hs) λσ H Q ⟨ρ,O,q,I,hf,k⟩=>⟨ρ,O,_,I,hf,λt ht v H1 s1 a1=>⟨ρ,O,_,I.same s1,ht,λts fR vs H2 s2 a2=>k _ fR _ H2 (s1.trans s2) ⟨t,ts,v,vs,rfl,rfl,a1.same s2,a2⟩⟩⟩
theorem BH(j:Nat){ms:List (Option Nat)}{py:Pos}(h':Qk X Z es ms g)(hN:X.N[j]?=some y:=by rfl)(hv:kF X.env.scope y:=by first|exact Or.inl rfl|exact Or.inr (Or.inl rfl)|exact Or.inr (Or.inr rfl))(hd:ie y:=by decide)(gn:uj y:=by decide)(hs:starEach (.Name y py::es) X.env=(false,eval (.Name y py) X.env)::starEach es X.env:=by rfl):Qk X Z (.Name y py::es) (some j::ms) (dF (F8 j) g) :=
 .mk λtm=>PA.weak (bD (bV hN hv hd gn) (h' tm) hs) λσ H Q ⟨ρ,O,q,I,hf,k⟩=>by
  have X0:F8 j ρ λt=>g ρ λts=>q (t::ts):=hf;unfold F8 at X0;split at X0
  rename_i t e0
  obtain⟨a,h1,h2,h3⟩:=I.root e0;exact⟨.ref a,h2,ρ,O,_,I,X0,λts fR vs H2 s2 a2=>k _ fR _ H2 s2 ⟨a,t,ts,vs,rfl,rfl,e0,h1,a2⟩⟩;exact X0.elim
end
noncomputable def putK:qao->List T->En->En
 |k::ks,u::us,ρ=>putK ks us (ρ.set k (some (u,true)))
 |_,_,ρ=>ρ
theorem qd:∀(ks:qao)(us:List T)(ρ:En),(putK ks us ρ).length=ρ.length
 |[],_,_=>rfl
 |_::_,[],_=>rfl
 |k::ks,u::us,ρ=>by rw[putK,qd];simp
theorem xo:∀{ks:qao}{us:List T}{ρ:En}{i:Nat}{e:Option (T×Bool)},ks.Nodup->ks.length=us.length->(putK ks us ρ)[i]?=some e->(i∉ks/\ρ[i]?=some e)\/∃(j:Nat)(u:T),ks[j]?=some i/\us[j]?=some u/\e=some (u,true)
 |[],us,ρ,i,e,_,_,h=>.inl ⟨gb,h⟩
 |k::ks,[],ρ,i,e,_,l,h=>by simp at l
 |k::ks,u::us,ρ,i,e,nd,l,h=>by
  rw[lx] at nd;rcases xo nd.2 (by simpa using l) (show (putK ks us (ρ.set k (some (u,true))))[i]?=some e from h) with⟨h1,h2⟩|⟨j,u',h1,h2,h3⟩
  rcases get_set h2 with⟨rfl,rfl,_⟩|⟨ne,h2⟩
  exact .inr ⟨0,u,rfl,rfl,rfl⟩;exact .inl ⟨λz=>by rcases cT.mp z with z|z;exact ne z;exact h1 z,h2⟩;exact .inr ⟨j+1,u',by simpa using h1,by simpa using h2,h3⟩
section
variable{A:qah}
theorem At.qe{as:qah}{t:T}(fr:∀b o,H b=some o->b∉as->H' b=some o)(sub:∀a∈as,a∈A)(mu:∀a∈as,∃u,H a=some u/\km u=true)(h:At K H A t v):At K H' A t v:=by
 refine At.map (λb vs q=>?_) (λb vs q=>?_) (λb a_ q=>?_) h;obtain q|q:=q
 refine .inl ⟨?_,q.2⟩;have nb:b∉as:=λz=>q.2 (sub b z);obtain z|⟨o',z⟩:=q.1
 exact .inl (fr _ _ z nb);exact .inr ⟨o',fr _ _ z nb⟩;exact .inr q;obtain z|z:=q
 refine .inl ?_;have nb:b∉as:=λm=>by
  obtain⟨u,eu,mu⟩:=mu b m;obtain z|⟨o',z⟩:=z
  rw[z] at eu;cases eu;cases mu;rw[z] at eu;cases eu;cases mu
 obtain z|⟨o',z⟩:=z
 exact .inl (fr _ _ z nb);exact .inr ⟨o',fr _ _ z nb⟩;exact .inr z;exact⟨fr _ _ q.1 λz=>q.2 (sub b z),q.2⟩
theorem AM.args{A':qah}{O:HD}{ρ:En}(sub:∀a∈A',a∈A)(hr:∀(k:Nat) t,ρ[k]?=some (some (t,true))->∃a,O[k]?=some (some a)/\cQ K H A a t):∀{ms:List (Option Nat)}{ts:List T}{vs:qak},AM K H A O ρ ms ts vs ->
  ∃as,gv K H A' (ms.map Option.isSome) as ts vs/\Paired (λa k=>O[k]?=some (some a)) as (ms.filterMap id)
 |[],ts,vs,h=>⟨[],⟨rfl,h.1,h.2⟩,.nil⟩
 |none::ms,ts,vs,h=>by obtain⟨t,kK,v,jr,rfl,rfl,a,h⟩:=h;obtain⟨as,h1,h2⟩:=AM.args sub hr h;exact⟨as,⟨t,kK,v,jr,rfl,rfl,a.a8 sub,h1⟩,h2⟩
 |some k::ms,ts,vs,h=>by obtain⟨a,t,kK,jr,rfl,rfl,e0,e1,h⟩:=h;obtain⟨as,h1,h2⟩:=AM.args sub hr h;obtain⟨a',e2,r⟩:=hr k t e0;rw[e1] at e2;cases e2;exact⟨a::as,⟨a,as,t,kK,jr,rfl,rfl,rfl,r.a8 sub,h1⟩,.cons e1 h2⟩
end
noncomputable def Ql(ms:List (Option Nat))(g:FA)(G:GT):FX:=λρ Q=>g ρ λts=>G ts λus r=>Q (putK (ms.filterMap id) us ρ) r
section
variable{Z:Zc}{k:Nat}{fs:List Bool}{G:GT}{pos:Pos}{g:FA}{ms:List (Option Nat)}
theorem F9{tm:List (T×V)}{ρ:En}(I:ay K Z tm O ρ σ H)(h1:O[i]?=some (some a))(h2:O[j]?=some (some a)):i=j:=by
 have key:∀(O:HD)(i j:Nat),i<j->O[i]?=some (some a)->O[j]?=some (some a)->(roots O).Nodup->False:=by
  intro O;induction O with
  |nil=>intro i j _ h;simp at h
  |cons o O ih=>
   intro i j hij e1 e2 nd;cases j with
   |zero=>omega
   |succ j=>
    have Jr:O[j]?=some (some a):=by simpa using e2
    cases i with
    |zero=>
     have:o=some a:=by simpa using e1
     subst this;simp only[roots,mW,id] at nd;exact (lx.mp nd).1 (aN.mpr (gH Jr))
    |succ i=>
     refine ih i j (by omega) (by simpa using e1) Jr ?_;cases o with
     |none=>simpa[roots] using nd
     |some b=>simp only[roots,mW,id] at nd;exact (lx.mp nd).2
 rcases Nat.lt_trichotomy i j with l|l|l
 exact (key O i j l h1 h2 I.nd).elim;exact l;exact (key O j i l h2 h1 I.nd).elim
theorem gw{α β:Type}{F:α->β->Prop}:∀{l₁:List α}{l₂:List β}{a:α},Paired F l₁ l₂->a∈l₁->∃b∈l₂,F a b
 |_,_,_,.nil,h=>nomatch h
 |_,_,a,.cons r t,h=>by
  rcases cT.mp h with z|z
  subst z;exact⟨_,dw,r⟩;obtain⟨b,h1,h2⟩:=gw t z;exact⟨b,gG _ h1,h2⟩
theorem qf{α β:Type}{F:α->β->Prop}:∀{l₁:List α}{l₂:List β}{i:Nat}{b:β},Paired F l₁ l₂->l₂[i]?=some b->∃a,l₁[i]?=some a/\F a b
 |_,_,_,_,.nil,e=>by simp at e
 |_,_,0,_,.cons r _,e=>by simp at e;subst e;exact⟨_,rfl,r⟩
 |_,_,i+1,b,.cons _ t,e=>by obtain⟨a,h1,h2⟩:=qf (i:=i) (b:=b) t (by simpa using e);exact⟨a,by simpa using h1,h2⟩
theorem ju{α β:Type}{F:α->β->Prop}:∀{l₁:List α}{l₂:List β}{i:Nat}{a:α},Paired F l₁ l₂->l₁[i]?=some a->∃b,l₂[i]?=some b/\F a b
 |_,_,_,_,.nil,e=>by simp at e
 |_,_,0,_,.cons r _,e=>by simp at e;subst e;exact⟨_,rfl,r⟩
 |_,_,i+1,b,.cons _ t,e=>by obtain⟨a,h1,h2⟩:=ju (i:=i) (a:=b) t (by simpa using e);exact⟨a,by simpa using h1,h2⟩
theorem ay.called{Z':Zc}{tm:List (T×V)}{ρ:En}{as:qah}{ks:qao}{us:List T}(I:ay K Z tm O ρ σ H)(hk:Paired (λa k=>O[k]?=some (some a)) as ks)(nk:ks.Nodup)(fr:∀b o,H b=some o->b∉as->H' b=some o)(hu:Paired (λa u=>cQ K H' (av Z' O) a u) as us)(hZ:Z'.H0=Z.H0)(hP:Z'.P=Z.P)(hox:∀a∈Z'.Ox,a∉roots O/\H' a≠none)(more:∀a∈av Z' O,a∈av Z O\/H a=none):ay K Z' tm O (putK ks us ρ) σ H':=by
 have z4:∀a∈as,a∈roots O:=λa h=>by obtain⟨k,_,e⟩:=gw hk h;exact aN.mpr (gH e)
 have sub:∀a∈as,a∈av Z O:=λa h=>cw _ (z4 a h);have ZS:∀a∈as,a∈av Z' O:=λa h=>cw _ (z4 a h);have mu:∀a∈as,∃u,H a=some u/\km u=true:=λa h=>(I.own a (z4 a h)).2.2;have fw:∀{t:T}{v:V},At K H (av Z O) t v->At K H' (av Z' O) t v:=λq=>(q.more more).qe fr ZS mu;have fwL:∀{t:List T}{v:qak},aB K H (av Z O) t v->aB K H' (av Z' O) t v:=λq=>aB.iff.mpr (Paired.mZ (aB.iff.mp q) λ_ _ z=>fw z);refine⟨by rw[qd];exact I.lσ,by rw[qd];exact I.lO,λi e h=>?_,I.nd,λb hb=>?_,by rw[hP];exact I.par,λa ha=>(hox a ha).2,λb o e n=>?_,λp hp=>fw (I.pS p hp)⟩;rcases xo nk (by rw[<- OI hk,OI hu]) h with⟨h1,h2⟩|⟨j,u,h1,h2,rfl⟩
 obtain⟨o,s,g1,g2,g3⟩:=I.sl i e h2;refine⟨o,s,g1,g2,g3.map (λ_ _ q=>fw q) λb t eo q=>?_⟩;subst eo;have nb:b∉as:=λm=>by obtain⟨k,lH,Vj⟩:=gw hk m;exact h1 (by rw[F9 I g1 Vj];exact lH)
 obtain⟨u,eu,_⟩:=q.mut;exact q.map (by rw[eu];exact fr _ _ eu nb) λ_ _ z=>fwL z;obtain⟨a,ha,r⟩:=qf hu h2;obtain⟨k,lH,Vj⟩:=ju hk ha;rw[h1] at lH;cases lH;have hl:i<ρ.length:=by rw[<- I.lO];exact (dS.mp Vj).1
 obtain⟨o,s,g1,g2,g3⟩:=I.sl i ρ[i] (by simp);rw[Vj] at g1;cases g1;refine⟨some a,s,Vj,g2,a,rfl,?_,r⟩;cases q:ρ[i] with
 |none=>rw[q] at g3;cases g3
 |some tb=>
  obtain⟨t,b⟩:=tb;rw[q] at g3;cases b with
  |false=>cases g3.1
  |true=>obtain⟨a',e1,e2,_⟩:=g3;cases e1;exact e2
 obtain⟨q1,q2,v,e,m⟩:=I.own b hb;refine⟨by rw[hZ,hP];exact q1,λz=>(hox b z).1 hb,?_⟩;by_cases hba:b∈as;obtain⟨j,hj⟩:=M9.mp hba;obtain⟨u,_,r⟩:=ju hu hj;exact r.mut;exact⟨v,fr _ _ e hba,m⟩;rw[hZ] at e;rw[hP] at n;refine fr _ _ (I.keep b o e n) λm=>?_;rcases (I.own b (z4 b m)).1 with z|z
 exact n z;rw[z] at e;cases e
theorem F_(F:cA X.prog X.w X.K X.mg X.base eV k f fd ps (zY X.K fs G))(hr:bz k X.A)(hg:Gl X x)(hm:X.mg x=some (.ref f))(hk:PySem.W.keepIn X.K (.ref f)=true)(hb:Binds X.K fd ps [])(ha:Qk X Z (e::es) ms g)(ZR:ms.map Option.isSome=fs:=by rfl)(ZT:(ms.filterMap id).Nodup:=by decide)(m8:ie x:=by decide)(he:starEach (e::es) X.env=(false,eval e X.env)::starEach es X.env:=by rfl)(ic:(backTo pos (starEach es X.env)).any (·.1)=false:=by rfl) :
  VX X Z (.Call (.Name x p) (e::es) [] pos) (Ql ms g G):=.mk λtm=>PE.weak (lU F hr hg hm hk hb .nil ko (ha tm) m8 he ic) λσ H Q ⟨ρ,O,q,I,hf,k⟩ =>
 ⟨ρ,O,_,I,hf,λts fR vs H1 s1 a1=>by
   subst ZR;show zY X.K _ G (vs++[]) H1 Q E0;rw[CC];have J:=I.same s1;obtain⟨as,h1,h2⟩:=AM.args (A':=av Z O) (λ_ z=>z) (λk t e=>by obtain⟨a,q1,q2,q3⟩:=J.root e;exact⟨a,q1,q3⟩) a1;have z4:∀a∈as,a∈roots O:=λa h=>by obtain⟨k,_,e⟩:=gw h2 h;exact aN.mpr (gH e)
   have ndA:as.Nodup:=by
    clear h1;have:∀{as:qah}{ks:qao},ks.Nodup->Paired (λa k=>O[k]?=some (some a)) as ks->as.Nodup:=by
     intro as ks nd h;induction h with
     |nil=>exact JD
     |cons r t ih=>rw[lx] at nd ⊢;refine⟨λm=>?_,ih nd.2⟩;obtain⟨k',m1,m2⟩:=gw t m;exact nd.1 (by rw[F9 J r m2];exact m1)
    exact this ZT h2
   have X1:∀b,b∈as++(av Z O).filter (λb=>decide (b∉as))↔b∈av Z O:=λb=>by rw[cN,SX];constructor;rintro (z|z);exact cw _ (z4 b z);exact z.1;intro z;by_cases hb:b∈as;exact .inl hb;exact .inr ⟨z,decide_eq_true hb⟩
   obtain⟨tG,BI,Ga⟩:=AM.args (A':=as++(av Z O).filter (λb=>decide (b∉as))) (λb z=>(X1 b).mp z) (λk t e=>by obtain⟨a,q1,q2,q3⟩:=J.root e;exact⟨a,q1,q3⟩) a1;have ee:tG=as:=by
    have:∀{as tG:qah}{ks:qao},Paired (λa k=>O[k]?=some (some a)) as ks->Paired (λa k=>O[k]?=some (some a)) tG ks->tG=as:=by
     intro as tG ks h h';induction h generalizing tG with
     |nil=>cases h';rfl
     |cons r t ih=>
       cases h' with
       |cons r' t'=>rw[r] at r';cases r';rw[ih t']
    exact this h2 Ga
   subst ee;refine⟨ts,tG,(av Z O).filter (λb=>decide (b∉tG)),_,ndA,λa h z=>?_,λa h=>J.zj a (SX.mp h).1,BI,fR,λus r hr v H' fr z=>?_⟩;exact (of_decide_eq_true (SX.mp z).2) h;have Vk:∀a∈Z.Ox,a∉roots O/\H' a≠none:=λa h=>by
    have na:a∉roots O:=λm=>(J.own a m).2.1 h;refine⟨na,?_⟩;cases e:H1 a with
    |none=>exact absurd e (J.ox a h)
    |some u=>rw[fr _ _ e λm=>na (z4 a m)];simp
   cases r with
   |vw t=>obtain⟨z1,z2⟩:=z;exact k _ _ hr O v H' ⟨J.called h2 ZT fr (Paired.mZ z2 λ_ _ q=>q.a8 λb hb=>(X1 b).mpr hb) rfl rfl Vk λa h=>.inl h,z1.a8 λb hb=>(X1 b).mpr hb⟩
   |fr t=>
     obtain⟨b,rfl,hb,nb,hR,z2⟩:=z;obtain⟨n1,n2,n3⟩:=J.fresh hb;have sb:∀c∈av (Z.ex b) O,c∈b::(tG++(av Z O).filter (λb=>decide (b∉tG))):=λc hc=>by
      rcases dz c hc with z|z
      exact gG _ ((X1 c).mpr z);rw[z];exact dw
     refine k _ _ hr O _ H' ⟨b,rfl,J.called h2 ZT fr (Paired.mZ z2 λ_ _ q=>q.a8 sb) rfl rfl (λa h=>?_) (λa h=>(dz a h).imp id λe=>by rw[e];exact hb),hR.a8 sb,n3,n2⟩;rcases cT.mp h with z|z
     subst z;obtain⟨u,eu,_⟩:=hR.mut;exact⟨λm=>n1 (cw _ m),by rw[eu];simp⟩;exact Vk a z⟩
end
section
variable(K:qaf)
theorem xp:PySem.W.kitOne K (.type "int") (.type "str")=some false:=by kernel_rfl
theorem uL:PySem.W.kitOne K (.type "int") (.type "list")=some false:=by kernel_rfl
theorem rY:PySem.W.kitOne K (.type "int") (.type "tuple")=some false:=by kernel_rfl
theorem uM:PySem.W.kitOne K (.type "bool") (.type "str")=some false:=by kernel_rfl
theorem rZ:PySem.W.kitOne K (.type "bool") (.type "list")=some false:=by kernel_rfl
theorem qg:PySem.W.kitOne K (.type "bool") (.type "tuple")=some false:=by kernel_rfl
theorem xq:PySem.W.kitOne K (.type "str") (.type "str")=some true:=by kernel_rfl
theorem uN:PySem.W.kitOne K (.type "str") (.type "list")=some false:=by kernel_rfl
theorem r0:PySem.W.kitOne K (.type "str") (.type "tuple")=some false:=by kernel_rfl
theorem uO:PySem.W.kitOne K (.type "list") (.type "str")=some false:=by kernel_rfl
theorem r_:PySem.W.kitOne K (.type "list") (.type "list")=some true:=by kernel_rfl
theorem qh:PySem.W.kitOne K (.type "list") (.type "tuple")=some false:=by kernel_rfl
theorem sd:PySem.W.kitOne K (.type "tuple") (.type "str")=some false:=by kernel_rfl
theorem qi:PySem.W.kitOne K (.type "tuple") (.type "list")=some false:=by kernel_rfl
theorem oR:PySem.W.kitOne K (.type "tuple") (.type "tuple")=some true:=by kernel_rfl
theorem uP:PySem.W.kitOne K (.type "dict") (.type "str")=some false:=by kernel_rfl
theorem se:PySem.W.kitOne K (.type "dict") (.type "list")=some false:=by kernel_rfl
theorem qj:PySem.W.kitOne K (.type "dict") (.type "tuple")=some false:=by kernel_rfl
theorem ny:PySem.W.kitOne K (.type "NoneType") (.type "str")=some false:=by kernel_rfl
theorem me:PySem.W.kitOne K (.type "NoneType") (.type "list")=some false:=by kernel_rfl
theorem kO:PySem.W.kitOne K (.type "NoneType") (.type "tuple")=some false:=by kernel_rfl
end
def Ty2(K:qaf)(H:Hp):V->String->Prop
 |.aQ,t=>t="NoneType"
 |.bl _,t=>t="bool"
 |.int _,t=>t="int"
 |.str _,t=>t="str"
 |.ref a,t=>(t="list"/\∃xs,ia K H a xs)\/(t="tuple"/\∃xs,fg K H a xs)\/(t="dict"/\∃a_,H a=some (.dK a_))
 |_,_=>False
def Vm(K:qaf):qak->Hp->VK->Prop:=λxs H Q=>∃x n t b,xs=[x,.ty n]/\Ty2 K H x t/\PySem.W.kitOne K (.type t) (.type n)=some b/\Q (.bl b) H
theorem Dj:eX X (.builtin "isinstance") (Vm X.K):=by
 intro pins s σ H xs us Q I r h;obtain⟨x,n,t,b,rfl,ty,e,q⟩:=h;obtain⟨u,w',rfl,rx,ry⟩:=vals2 r;obtain rfl:w'=Value.type n:=ry;have fin:∀tk,EP X pins σ Q (.bool b) {s with toks:=tk}:=λtk=>⟨.bl b,H,I.tok _,rfl,q⟩;cases x with
 |aQ=>cases (show t=_ from ty);cases (show u=Value.none from rx);exact OG PySem.W.kitx_none I.rR True.intro e (λz=>nomatch z) fin
 |bl y=>cases (show t=_ from ty);cases (show u=Value.bool y from rx);exact OG PySem.W.kitx_bool I.rR True.intro e (λz=>nomatch z) fin
 |int i=>cases (show t=_ from ty);obtain⟨t,q⟩:=(show ∃t,u=Value.int i t from rx);cases q;exact OG PySem.W.kitx_int I.rR True.intro e (λz=>nomatch z) fin
 |str y=>cases (show t=_ from ty);obtain⟨t,q⟩:=(show ∃t,u=Value.str y t from rx);cases q;exact OG PySem.W.kitx_str I.rR True.intro e (λz=>nomatch z) fin
 |ref a=>
  cases (show u=Value.ref a from rx);obtain⟨rfl,xs,hq⟩|⟨rfl,xs,hq⟩|⟨rfl,a_,hq⟩:=ty
  obtain⟨a5,_,p,_⟩:=I.list hq;obtain⟨o,n',h1,h2,_⟩:=p;exact OG PySem.W.kitx_list I.rR ⟨o,h1,h2⟩ e (λz=>nomatch z) fin;obtain⟨a5,_,p,_⟩:=I.tuple hq;obtain⟨o,h1,h2,_⟩:=p;exact OG PySem.W.kitx_tuple I.rR ⟨o,h1,h2⟩ e (λz=>nomatch z) fin;obtain⟨_,_,vs,_,p⟩:=(show cy X.prog X.w H s.heap a (.dK a_) from I.cn a _ hq);obtain⟨o,es,ep,h1,h2,_⟩:=p;exact OG PySem.W.kitx_dict I.rR ⟨o,h1,h2.1⟩ e (λz=>nomatch z) fin
 |_=>exact (show False from ty).elim
def isBool:T->Bool
 |.bl _=>true
 |_=>false
def isStr:T->Bool
 |.str _=>true
 |_=>false
def isList:T->Bool
 |.lst _=>true
 |_=>false
def KN:T->Bool
 |.tup _=>true
 |_=>false
noncomputable def known:T->Bool
 |.dc _ _ _=>false
 |.ins _ _ _=>false
 |.pin _ _=>false
 |.ob _=>false
 |.ty _=>false
 |_=>true
def uQ(K:qaf)(n:String)(p:T->Bool):Prop:=∀H A t v,known t=true->jg K H A t v->∃ty,Ty2 K H v ty/\PySem.W.kitOne K (.type ty) (.type n)=some (p t)
theorem xr:uQ K "str" isStr:=by
 intro H A t v hk h;cases t with
 |aQ=>rw[h.aQ];exact⟨_,rfl,ny K⟩
 |bl b=>rw[h.bl];exact⟨_,rfl,uM K⟩
 |int b=>rw[h.int];exact⟨_,rfl,xp K⟩
 |str b=>rw[h.str];exact⟨_,rfl,xq K⟩
 |tup l=>obtain⟨a,vs,rfl,q,_⟩:=h.tup;exact⟨_,.inr (.inl ⟨rfl,_,q⟩),sd K⟩
 |lst l=>obtain⟨a,vs,rfl,q,_⟩:=h.lst;exact⟨_,.inl ⟨rfl,_,q⟩,uO K⟩
 |dk ks l=>obtain⟨a,vs,rfl,_,q,_⟩:=h.dk;exact⟨_,.inr (.inr ⟨rfl,_,q⟩),uP K⟩
 |_=>simp only[known] at hk;cases hk
theorem Dl:uQ K "list" isList:=by
 intro H A t v hk h;cases t with
 |aQ=>rw[h.aQ];exact⟨_,rfl,me K⟩
 |bl b=>rw[h.bl];exact⟨_,rfl,rZ K⟩
 |int b=>rw[h.int];exact⟨_,rfl,uL K⟩
 |str b=>rw[h.str];exact⟨_,rfl,uN K⟩
 |tup l=>obtain⟨a,vs,rfl,q,_⟩:=h.tup;exact⟨_,.inr (.inl ⟨rfl,_,q⟩),qi K⟩
 |lst l=>obtain⟨a,vs,rfl,q,_⟩:=h.lst;exact⟨_,.inl ⟨rfl,_,q⟩,r_ K⟩
 |dk ks l=>obtain⟨a,vs,rfl,_,q,_⟩:=h.dk;exact⟨_,.inr (.inr ⟨rfl,_,q⟩),se K⟩
 |_=>simp only[known] at hk;cases hk
theorem kP:uQ K "tuple" KN:=by
 intro H A t v hk h;cases t with
 |aQ=>rw[h.aQ];exact⟨_,rfl,kO K⟩
 |bl b=>rw[h.bl];exact⟨_,rfl,qg K⟩
 |int b=>rw[h.int];exact⟨_,rfl,rY K⟩
 |str b=>rw[h.str];exact⟨_,rfl,r0 K⟩
 |tup l=>obtain⟨a,vs,rfl,q,_⟩:=h.tup;exact⟨_,.inr (.inl ⟨rfl,_,q⟩),oR K⟩
 |lst l=>obtain⟨a,vs,rfl,q,_⟩:=h.lst;exact⟨_,.inl ⟨rfl,_,q⟩,qh K⟩
 |dk ks l=>obtain⟨a,vs,rfl,_,q,_⟩:=h.dk;exact⟨_,.inr (.inr ⟨rfl,_,q⟩),qj K⟩
 |_=>simp only[known] at hk;cases hk
noncomputable def Vn(f:FE)(p:T->Bool):FP:=λρ Q=>f ρ λt=>known t=true/\Q (.vw (.bl (p t)))
section
variable{Z:Zc}{a:Expr}{pos:Pos}{fa fb Tc:FE}
theorem uR:bootBuiltins "isinstance"=some (.builtin "isinstance"):=by decide +kernel
theorem j7{n:String}{q:T->Bool}(hq:uQ X.K n q)(hg:Gl X "isinstance")(hm:X.mg "isinstance"=none)(hgy:Gl X y)(hmy:X.mg y=none)(hby:bootBuiltins y=some (.type n))(ha:VR X Z e fa)(hny:y≠"__name__":=by decide)(hdy:ie y:=by decide)(hs:starEach [e,.Name y p2] X.env=(false,eval e X.env)::starEach [.Name y p2] X.env:=by rfl)(CQ:starEach [.Name y p2] X.env=(false,eval (.Name y p2) X.env)::starEach [] X.env:=by rfl)(ic:(backTo pos (starEach [.Name y p2] X.env)).any (·.1)=false:=by rfl) :
  VP X Z (.Call (.Name "isinstance" p) [e,.Name y p2] [] pos) (Vn fa q):=.mk λtm=>
 PE.weak (pG Dj hg hm uR (bD (ha tm) (bD (JK (v:=.ty n) hgy hmy hby rfl hny hdy) cX CQ) hs) (by decide) (by decide) hs ic) λσ H Q ⟨ρ,O,q',I,hf,k⟩=>⟨ρ,O,_,I,hf,λt ht v H1 s1 a1=>by obtain⟨ty,h1,h2⟩:=hq H1 _ t v ht.1 a1;exact⟨v,n,ty,_,rfl,h1,h2,k _ ht.2 _ H1 s1 ⟨I.same s1,eY⟩⟩⟩
def kq:T->Bool
 |.aQ=>true
 |.bl _=>true
 |.int _=>true
 |.str _=>true
 |_=>false
def xt:List T->Bool
 |[]=>true
 |t::ts=>kq t && xt ts
noncomputable def wz(x:T):List T->Bool
 |[]=>false
 |t::ts=>eqT t x || wz x ts
theorem nz{K:qaf}{H:Hp}{A:qah}:∀{ts:List T}{vs:qak}{x:T}{v:V},xt ts=true->kq x=true->aB K H A ts vs->At K H A x v->vs.all jl=true/\jl v=true/\XO v vs=wz x ts
 |[],vs,x,v,_,fx,h,hx=>by simp only[aB] at h;subst h;refine⟨rfl,?_,rfl⟩;cases x<;>simp only[At] at hx<;>first|(subst hx;rfl)|(simp only[kq] at fx;cases fx)
 |t::ts,vs,x,v,f,fx,h,hx=>by
  simp only[aB] at h;obtain⟨u,r,rfl,h1,h2⟩:=h;simp only[xt,lL] at f;obtain⟨i1,i2,i3⟩:=nz f.2 fx h2 hx;have ft:jl u=true:=by cases t<;>simp only[At] at h1<;>first|(subst h1;rfl)|(have:=f.1;simp only[kq] at this;cases this)
  have e:Jp u v=eqT t x:=by
   cases t<;>simp only[At] at h1<;>first
    | (have:=f.1;simp only[kq] at this;cases this;done)
    | (subst h1
       cases x<;>simp only[At] at hx<;>first
        | (simp only[kq] at fx;cases fx;done)
        | (subst hx;simp[Jp,eqT];done))
  refine⟨by simp[ft,i1],i2,?_⟩;simp only[wz,XO,Ng];rw[e]
  congr 1
noncomputable def Vo(K:qaf)(neg:Bool):R2:=λx y H Q=>rIn K neg x y H Q\/∃i j,x=.str i/\y=.str j/\Q (.bl (if neg then !(!(Builtin.Str.occurrences j i 0 j.length 1).isEmpty) else !(Builtin.Str.occurrences j i 0 j.length 1).isEmpty)) H
theorem Gb:gf X (compareOp .In) (Vo X.K false):=by
 intro pins s σ H x y v u Q I rx ry h;obtain h|⟨i,j,h1,h2,h⟩:=h
 exact C2 pins s σ H x y v u Q I rx ry h;exact CT pins s σ H x y v u Q I rx ry ⟨i,j,h1,h2,by simpa using h⟩
noncomputable def Gd(i j:Str):Bool:=!(Builtin.Str.occurrences j i 0 j.length 1).isEmpty
def X2(x y:T)(q:Rt->Prop):Prop:=match y with
 |.lst ts=>kq x=true/\xt ts=true/\q (.vw (.bl (wz x ts)))
 |.tup ts=>kq x=true/\xt ts=true/\q (.vw (.bl (wz x ts)))
 |.str j=>∃i,x=.str i/\q (.vw (.bl (Gd i j)))
 |_=>False
theorem Ge:pU K (Vo K false) X2:=by
 intro Z tm O ρ σ H x y v w q Q I h1 h2 h k;have x1:kq x=true->At K H (av Z O) x v:=λf=>by
  obtain h|⟨a,rfl,h⟩:=h1
  exact h;cases x<;>first|exact h.elim|(simp only[kq] at f;cases f)
 unfold X2 at h;split at h;obtain⟨f1,f2,h⟩:=h;obtain⟨a,vs,rfl,q1,q2⟩:=h2.lst;obtain⟨i1,i2,i3⟩:=nz f2 f1 q2 (x1 f1);exact .inl ⟨a,vs,rfl,.inl q1,i2,i1,k _ h _ H (aY.refl H) ⟨I,by rw[if_neg iD,i3];exact eY⟩⟩;obtain⟨f1,f2,h⟩:=h;obtain⟨a,vs,rfl,q1,q2⟩:=h2.tup;obtain⟨i1,i2,i3⟩:=nz f2 f1 q2 (x1 f1);exact .inl ⟨a,vs,rfl,.inr q1,i2,i1,k _ h _ H (aY.refl H) ⟨I,by rw[if_neg iD,i3];exact eY⟩⟩;obtain⟨i,rfl,h⟩:=h;exact .inr ⟨i,_,h1.str,h2.str,k _ h _ H (aY.refl H) ⟨I,by rw[if_neg iD];exact eY⟩⟩;exact h.elim
theorem NJ(ha:VR X Z a fa)(hb:VR X Z b fb)(hm:behindInMarks .In b=false:=by rfl):VP X Z (.Compare a [.In] [b] pos) (f2 fa fb X2):=FK Gb Ge ha hb hm
theorem tI(ha:VR X Z a fa)(hb:VR X Z b fb)(hm:behindInMarks .In b=false:=by rfl):VC X Z (.Compare a [.In] [b] pos) (ni (f2 fa fb X2)):=iL Gb Ge ha hb hm
def qk:T->Bool
 |.aQ=>true
 |_=>false
def ZU(x y:T)(q:Rt->Prop):Prop:=match y with
 |.aQ=>q (.vw (.bl (qk x)))
 |_=>False
def z5(x y:T)(q:Rt->Prop):Prop:=match y with
 |.aQ=>q (.vw (.bl (!qk x)))
 |_=>False
theorem BJ{A:qah}{t:T}(h:jg K H A t v):decide (v=.aQ)=qk t:=by
 cases t with
 |aQ=>rw[h.aQ];rfl
 |bl b=>rw[h.bl];rfl
 |int b=>rw[h.int];rfl
 |str b=>rw[h.str];rfl
 |ob b=>rw[h.ob];rfl
 |ty b=>have:v=.ty b:=h.elim (λq=>by simpa only[At] using q) λ⟨_,_,q⟩=>q.elim;rw[this];rfl
 |tup l=>obtain⟨a,vs,rfl,_⟩:=h.tup;rfl
 |lst l=>obtain⟨a,vs,rfl,_⟩:=h.lst;rfl
 |dk ks l=>obtain⟨a,vs,rfl,_⟩:=h.dk;rfl
 |dc nh ks l=>obtain⟨a,xs,vs,rfl,_⟩:=h.dc;rfl
 |ins C ns l=>obtain⟨a,dx,vs,rfl,_⟩:=h.ins;rfl
 |pin a t=>have e:v=.ref a:=h.elim (λq=>by simp only[At] at q;exact q.1) λ⟨_,_,q⟩=>q.elim;rw[e];rfl
theorem Qm:pU K (λx y H Q=>y=.aQ/\Q (.bl (decide (x=.aQ))) H) ZU:=by intro Z tm O ρ σ H x y v w q Q I h1 h2 h k;unfold ZU at h;split at h;exact⟨h2.aQ,k _ h _ H (aY.refl H) ⟨I,by rw[BJ h1];exact eY⟩⟩;exact h.elim
theorem Dm:pU K (λx y H Q=>y=.aQ/\Q (.bl (!decide (x=.aQ))) H) z5:=by intro Z tm O ρ σ H x y v w q Q I h1 h2 h k;unfold z5 at h;split at h;exact⟨h2.aQ,k _ h _ H (aY.refl H) ⟨I,by rw[BJ h1];exact eY⟩⟩;exact h.elim
theorem xu(ha:VR X Z a fa)(hb:VR X Z b fb):VC X Z (.Compare a [.Is] [b] pos) (ni (f2 fa fb ZU)):=iL Pf Qm ha hb (iG _)
theorem xv(ha:VR X Z a fa)(hb:VR X Z b fb):VC X Z (.Compare a [.IsNot] [b] pos) (ni (f2 fa fb z5)):=iL JS Dm ha hb (iG _)
theorem xw{g g':Int->Int->Bool}{tm:List (T×V)}{Q:VK}(h:lP X Z tm (f3 fa fb Tc (PV g) (PV g')) σ H Q):zz (sV λi j=>.bl (g i j)) (sV λi j=>.bl (g' i j)) (lR X Z tm fa) (lR X Z tm fb) (lR X Z tm Tc) σ H Q:=by
 obtain⟨ρ,O,q,I,hf,k⟩:=h;refine⟨ρ,O,_,I,hf,λx hx v H1 s1 a1=>⟨ρ,O,_,I.same s1,hx,λy hy w H2 s2 a2=>?_⟩⟩;have J:=(I.same s1).same s2;unfold PV at hy;split at hy
 rename_i i j
 refine⟨i,j,(a1.same s2).int,a2.int,_,rfl,?_⟩;cases e:g i j with
 |true=>
  rw[e] at hy;refine Pz ⟨ρ,O,_,J,hy,λz hz w3 H3 s3 a3=>?_⟩;split at hz
  rename_i e1
  cases e1;exact⟨_,_,(a2.same s3).int,a3.int,k _ hz _ H3 ((s1.trans s2).trans s3) ⟨J.same s3,eY⟩⟩;exact hz.elim
 |false=>rw[e] at hy;exact Py (k _ hy _ H2 (s1.trans s2) ⟨J,eY⟩)
 exact hy.elim
theorem Gf{op zA:CmpOp}{g g':Int->Int->Bool}(ho:gf X (compareOp op) (sV λi j=>.bl (g i j)))(jb:gf X (compareOp zA) (sV λi j=>.bl (g' i j)))(ha:VR X Z a fa)(hb:VR X Z b fb)(hc:VR X Z c Tc)(hm:lastMarks [op,zA] [b,c]=false:=by with_unfolding_all rfl):VP X Z (.Compare a [op,zA] [b,c] pos) (f3 fa fb Tc (PV g) (PV g')):=.mk λtm=>PE.weak (Fc ho jb (ha tm) (hb tm) (hc tm) hm) λσ H Q h=>xw h
theorem Gh{op zA:CmpOp}{g g':Int->Int->Bool}(ho:gf X (compareOp op) (sV λi j=>.bl (g i j)))(jb:gf X (compareOp zA) (sV λi j=>.bl (g' i j)))(ha:VR X Z a fa)(hb:VR X Z b fb)(hc:VR X Z c Tc)(hm:lastMarks [op,zA] [b,c]=false:=by with_unfolding_all rfl):VC X Z (.Compare a [op,zA] [b,c] pos) (ni (f3 fa fb Tc (PV g) (PV g'))):=.mk λtm=>PT.weak (Fd ho jb (ha tm) (hb tm) (hc tm) hm) λσ H Q ⟨ρ,O,q,I,hf,k⟩ =>
 xw ⟨ρ,O,_,I,hf,λt ht u H' s a=>by obtain⟨c,rfl,hc⟩:=zV ht;have e:=a.2;simp only[At] at e;exact⟨c,e,k c hc H' s⟩⟩
def dP(ts:List T):List T:=ts.mapIdx λi t=>.tup [.int (i:Int),t]
def Vp(f:FE):FI:=λρ Q=>f ρ λt=>match t with
 |.lst ts=>Q (dP ts)
 |_=>False
theorem KO{a:Addr}{ts:List T}:Wk K (Zs K a) [(.lst ts,.ref a)] (dP ts):=λH A hA h i=>by
 have h:=h _ dw;simp only[At] at h;obtain⟨b,vs,e,l,q⟩:=h;cases e;have hl:=q.length;have hle:(dP ts).length=ts.length:=by unfold dP;rw[List.length_mapIdx]
 rw[hle];refine⟨λhi=>⟨vs,vs[i]'(by omega),l.sq,by simp⟩,λhi=>⟨vs,l.sq,by omega⟩,λt ht x H' y=>?_⟩;obtain⟨p,u,hp,rfl,hu,rfl⟩:=y;unfold dP at ht;rw[TX] at ht;cases e:ts[i]? with
 |none=>rw[e] at ht;cases ht
 |some t'=>rw[e] at ht;cases ht;obtain⟨v,e1,e2⟩:=q.get e;have:=hu vs l.sq;rw[e1] at this;cases this;exact⟨aK hp,cv (fg.of aI) (aB.cons bC (aB.cons (e2.same (aK hp)) aB.nil))⟩
theorem uS{elts:qap}{x1}{tp:Pos}(hg:Gl X "enumerate")(hm:X.mg "enumerate"=none)(ha:VE X Z a fa)(hs:starEach [a] X.env=[(false,eval a X.env)]:=by rfl) :
  VI X Z (.Tuple elts x1 tp) (.Call (.Name "enumerate" p) [a] [] pos) (Vp fa):=.mk λtm=>PI.weak (Kn hg hm (bD (ha tm) cX hs) hs) λσ H R ⟨ρ,O,q,I,hf,k⟩=>⟨ρ,O,_,I,hf,λt ht v H' s a=>by
 split at ht;have a0:=a;simp only[At] at a;obtain⟨p,vs,rfl,l,_⟩:=a;exact⟨p,rfl,⟨vs,l.sq⟩,k _ ht _ H' _ s (λp hp=>by rw[jh.mp hp];exact a0) KO⟩;exact ht.elim⟩
noncomputable def eD:List T->Option (List Bool)
 |[]=>some []
 |.bl b::ts=>(eD ts).map (b::·)
 |_=>none
def intsOf:List T->Option (qan)
 |[]=>some []
 |.int b::ts=>(intsOf ts).map (b::·)
 |_=>none
theorem Gi{K:qaf}{H:Hp}{A:qah}:∀{ts:List T}{bs:List Bool}{vs:qak},eD ts=some bs->aB K H A ts vs->vs=bs.map V.bl
 |[],bs,vs,e,h=>by simp only[eD] at e;cases e;simp only[aB] at h;rw[h];rfl
 |.bl b::ts,bs,vs,e,h=>by
  simp only[eD] at e;cases q:eD ts with
  |none=>rw[q] at e;cases e
  |some cs=>rw[q] at e;cases e;simp only[aB,At] at h;obtain⟨v,r,rfl,rfl,h⟩:=h;rw[Gi q h];rfl
 |.aQ::_,_,_,e,_=>by simp[eD] at e
 |.int _::_,_,_,e,_=>by simp[eD] at e
 |.str _::_,_,_,e,_=>by simp[eD] at e
 |.tup _::_,_,_,e,_=>by simp[eD] at e
 |.lst _::_,_,_,e,_=>by simp[eD] at e
 |.dk _ _::_,_,_,e,_=>by simp[eD] at e
 |.dc _ _ _::_,_,_,e,_=>by simp[eD] at e
 |.ins _ _ _::_,_,_,e,_=>by simp[eD] at e
 |.pin _ _::_,_,_,e,_=>by simp[eD] at e
 |.ob _::_,_,_,e,_=>by simp[eD] at e
 |.ty _::_,_,_,e,_=>by simp[eD] at e
def Vq(ts:List T)(q:Rt->Prop):Prop:=match ts with
 |[.lst l]=>∃bs,eD l=some bs/\q (.vw (.bl (bs.all id)))
 |_=>False
theorem Dn:pZ K (λxs H Q=>∃(p:Addr)(bs:List Bool),xs=[.ref p]/\ia K H p (bs.map V.bl)/\Q (.bl (bs.all id)) H) Vq:=by intro Z tm O ρ σ H ts vs q Q I h hp k;unfold Vq at hp;split at hp;obtain⟨bs,e,hp⟩:=hp;obtain⟨v,rfl,a⟩:=dW h;obtain⟨p,ws,rfl,q1,q2⟩:=a.lst;rw[Gi e q2] at q1;exact⟨p,bs,rfl,q1,k _ hp _ H (aY.refl H) ⟨I,eY⟩⟩;exact hp.elim
def ZV(f:FP)(fb:FE):FP:=λρ Q=>f ρ λr=>match r with
 |.fr (.lst ts)=>fb ρ λy=>match y with
  |.int k=>-(2 ^ 63)<=k/\k<2 ^ 63/\ts.length * k.toNat<=sizeLine/\Q (.fr (.lst (List.replicate k.toNat ts).flatten))
  |_=>False
 |_=>False
theorem aB.rep{K:qaf}{H:Hp}{A:qah}{ts:List T}{vs:qak}(h:aB K H A ts vs):∀k:Nat,aB K H A (List.replicate k ts).flatten (List.replicate k vs).flatten
 |0=>aB.nil
 |k+1=>by rw[rQ,rQ,Je,Je];exact h.append (aB.rep h k)
theorem kQ{f:FP}(ha:VP X Z a f)(hb:VR X Z b fb):VP X Z (.BinOp a .Mult b pos) (ZV f fb):=.mk λtm=>PE.weak (Np Pu (ha tm) (hb tm)) λσ H Q ⟨ρ,O,q,I,hf,k⟩=>⟨ρ,O,_,I,hf,λr hr v H1 s1 z=>by split at hr;obtain⟨l,rfl,J,⟨xs,e,q1⟩,_⟩:=z;refine⟨ρ,O,_,I.same s1,hr,λy hy w H2 s2 a2=>?_⟩;split at hy;obtain⟨h1,h2,h3,hy⟩:=hy;have q2:aB X.K H2 (av Z O) _ xs:=(q1.same s2).a8 gk;exact⟨l,_,xs,rfl,a2.int,s2 _ _ e,h1,h2,by rw[q2.length];exact h3,λp hp=>k _ hy _ _ ((s1.trans s2).trans (aK hp)) (((I.same s1).same s2).Dd hp (q2.rep _))⟩;exact hy.elim;exact hr.elim⟩
end
structure Df(K:qaf)(mg:qae)(x:Str)(st:Stmt)(ps:qai)(f:Addr)(fd:FuncData):Prop where
 F:Bw K x x st f fd
 m:mg x=some (.ref f)
 b:Binds K fd ps []
def bS(P:Program)(w:World)(K:qaf)(mg:qae)(base:Heap)(x:Str)(ps:qai)(k:Nat)(sp:Sp):Prop :=
 ∃f fd,mg x=some (.ref f)/\PySem.W.keepIn K (.ref f)=true/\Binds K fd ps []/\cA P w K mg base eV k f fd ps sp
theorem Df.gx{st:Stmt}{k:Nat}(D:Df K mg x st ps f fd)(F:cA P w K mg base eV k f fd ps sp):bS P w K mg base x ps k sp :=
 ⟨f,fd,D.m,D.F.kp,D.b,F⟩
theorem oq:bN ⟨H,[],Ox⟩ i:=λ_ z=>nomatch z
section
theorem lJ{st:Stmt}{N:qai}{k:Nat}{G:List T->(Rt->Prop)->Prop}(F:Bw K x qual st f fd)(S:az N ps (ah st))(hn:n=ps.length)(dN:∀(bA:Value) (A:Around) (outer:List Env) (s:Shared) (H:Hp) (E:XK) (Ox:qah),bz k (A.deeper (envOfC qual (ah st) s.heap.objs.size f bA))->∀ts q,G ts q ->
    ∃g,lF (gh eV P w K mg base N qual (ah st) f bA A outer s H E).pB ⟨H,[],Ox⟩ (bK st) g/\(ts.length=n->g {nx:=λ_=>q (.vw .aQ),rt:=λ_ r=>q r} (ts.map (λt=>some (t,false))++List.replicate (N.length-ts.length) none))) :
  cA P w K mg base eV (k+1) f fd ps (cW K n G):=by
 have hp:∀n (as:qah) k,pz (List.replicate n false) as k=[]:=by
  intro n;induction n with
  |zero=>intro as k;rfl
  |succ n ih=>intro as k;exact ih as (k+1)
 have hfi:∀n (ρ:En),md (List.replicate n false) ρ=[]:=by
  intro n;induction n with
  |zero=>intro ρ;rfl
  |succ n ih=>intro ρ;exact ih ρ.tail
 have he:∀n (ts:List T),ts.length=n->xn (List.replicate n false) ts=ts.map λt=>some (t,false):=by
  intro n;induction n with
  |zero=>intro ts e;cases ts<;>simp_all [xn]
  |succ n ih=>
    intro ts e;cases ts with
    |nil=>simp at e
    |cons t ts=>rw[rQ,xn,ih ts (by simpa using e)];rfl
 refine ZQ F S (by rw[zi];exact hn) λbA A outer s H E as Ox hr ts q hl hG=>?_;rw[zi] at hl;obtain⟨g,h1,h2⟩:=dN bA A outer s H E Ox hr ts (q []) hG;refine⟨g,by rw[hp];exact h1,?_⟩;rw[he n ts hl];simp only[hfi];exact h2 hl
end
theorem bz.fU{k:Nat}(r:bz k A):A.units+101<cLine:=by have:=r.un;omega
theorem kR:bootBuiltins "list"=some (.type "list"):=by decide +kernel
theorem j8:bootBuiltins "tuple"=some (.type "tuple"):=by decide +kernel
theorem Vr:bootBuiltins "all"=some (.builtin "all"):=by decide +kernel
theorem Vs:bootBuiltins "min"=some (.builtin "min"):=by decide +kernel
theorem NL:bootBuiltins "str"=some (.type "str"):=by decide +kernel
theorem o8:∀{fs:List Bool}{as:qah}{k:Nat},∀p∈pz fs as k,k<=p.1/\fs[p.1-k]?=some true
 |[],_,_,p,hp=>nomatch hp
 |false::fs,as,k,p,hp=>by
  obtain⟨h1,h2⟩:=o8 (fs:=fs) (as:=as) (k:=k+1) p hp;refine⟨by omega,?_⟩;have:p.1-k=(p.1-(k+1))+1:=by omega
  rw[this];simpa using h2
 |true::fs,a::as,k,p,hp=>by
  rcases cT.mp hp with z|z
  subst z;exact⟨c3 _,by simp⟩;obtain⟨h1,h2⟩:=o8 (fs:=fs) (as:=as) (k:=k+1) p z;refine⟨by omega,?_⟩;have:p.1-k=(p.1-(k+1))+1:=by omega
  rw[this];simpa using h2
 |true::fs,[],k,p,hp=>by
  obtain⟨h1,h2⟩:=o8 (fs:=fs) (as:=[]) (k:=k+1) p hp;refine⟨by omega,?_⟩;have:p.1-k=(p.1-(k+1))+1:=by omega
  rw[this];simpa using h2
theorem BK{fs:List Bool}{as:qah}(h:fs[i]?≠some true):bN ⟨H,pz fs as 0,Ox⟩ i:=λp hp e=>by have:=(o8 p hp).2;rw[Nat.sub_zero,e] at this;exact h this
theorem di(lo:Int)(n:Nat):(rangeT lo n).length=n:=by unfold rangeT;rw[cV,Jf]
theorem ql{lo:Int}{t:T}(h:(rangeT lo n)[i]?=some t):i<n/\t=.int (lo+(i:Int)):=by
 unfold rangeT at h;rw[gJ] at h;cases e:(List.range n)[i]? with
 |none=>rw[e] at h;cases h
 |some j=>rw[e] at h;obtain⟨h1,h2⟩:=dS.mp e;rw[List.getElem_range] at h2;rw[Jf] at h1;subst h2;cases h;exact⟨h1,rfl⟩
theorem qm{lo:Int}{h:FG}{g:FS}{d:FZ}{ρ:En}(Pv:Nat->En->Prop)(h0:Pv 0 ρ)(hs:∀(i:Nat) ρ',i<n->Pv i ρ'->h (.int (lo+(i:Int))) ρ' λρ2=>g {nx:=Pv (i+1),ct:=Pv (i+1),bk:=d.nx,rt:=d.rt} ρ2)(hd:∀ρ',Pv n ρ'->d.nx ρ'):oj (rangeT lo n) h g d ρ:=⟨Pv,h0,λi t ρ' e p=>by obtain⟨h1,rfl⟩:=ql e;exact hs i ρ' h1 p,λρ' p=>hd ρ' (by rw[di] at p;exact p)⟩
theorem qo{f:α->T}{xs:List α}{h:FG}{g:FS}{d:FZ}{ρ:En}(Pv:Nat->En->Prop)(h0:Pv 0 ρ)(hs:∀(i:Nat) x ρ',xs[i]?=some x->Pv i ρ'->h (f x) ρ' λρ2=>g {nx:=Pv (i+1),ct:=Pv (i+1),bk:=d.nx,rt:=d.rt} ρ2)(hd:∀ρ',Pv xs.length ρ'->d.nx ρ'):oj (xs.map f) h g d ρ:=⟨Pv,h0,λi t ρ' e p=>by
 rw[gJ] at e;cases q:xs[i]? with
 |none=>rw[q] at e;cases e
 |some x=>rw[q] at e;cases e;exact hs i x ρ' q p,λρ' p=>hd ρ' (by rw[cV] at p;exact p)⟩
theorem Dp{c:Bool}{A:Prop}(hc:c=true)(h:A):if c=true then A else B:=by rw[if_pos hc];exact h
theorem eW{c:Bool}{A:Prop}(hc:c=false)(h:B):if c=true then A else B:=by rw[if_neg (by rw[hc];exact iD)];exact h
theorem cO{c A:Prop}[Decidable c](h1:c->A)(h2:¬ c->B):if decide c=true then A else B:=by by_cases h:c;rw[if_pos (decide_eq_true h)];exact h1 h;rw[if_neg (by rw[decide_eq_false h];exact iD)];exact h2 h
def sf(i:Int):Prop:=i.natAbs<2 ^ 2000
theorem sf.of{i:Int}(h1 : -(10 ^ 200)<=i)(h2:i<=10 ^ 200):sf i:=by
 unfold sf;have e:(10:Nat) ^ 200<2 ^ 2000:=by decide
 have:i.natAbs<=10 ^ 200:=by
  have e2:((10 ^ 200:Nat):Int)=(10:Int) ^ 200:=by rw[Int.natCast_pow];rfl
  generalize (10:Nat) ^ 200=m at *;rw[<- e2] at h1 h2;omega
 exact XE this e
theorem sf.bits{i:Int}(h:sf i):Builtin.Int.intBits i<=2000:=by
 unfold Builtin.Int.intBits;split;exact jj _;have:i.natAbs.log2<2000:=by
  rcases Nat.eq_zero_or_pos i.natAbs with h0|hp
  rw[h0];decide;exact (Nat.log2_lt (Nh hp)).mpr h
 omega
theorem sf.log{i:Int}(h:sf i):i.natAbs.log2<9000:=by
 rcases Nat.eq_zero_or_pos i.natAbs with h0|hp
 rw[h0];decide;exact Nat.lt_trans ((Nat.log2_lt (Nh hp)).mpr h) (by decide)
def NM(i j:Int):Prop:=sf i/\sf j
def NN(i j:Int):Prop:=j≠0/\sf j
def NO(i j:Int):Prop:=j≠0
section
theorem KP:gf X (binaryOp .Mult) (rI NM λi j=>.int (i * j)):=O9 λ_ _ _ _ _ _ _ hc q=>
 mul_int q (IntMulOk.of_bits (ly hc.1.bits (by decide)) (ly hc.2.bits (by decide)))
theorem Gj:gf X (binaryOp .FloorDiv) (rI NN λi j=>.int (i.fdiv j)):=O9 λ_ _ _ _ _ _ _ hc q=>floordiv_int hc.1 q (.inl (PyProof.noPylong_of_log2 hc.2.log))
theorem KQ:gf X (binaryOp .Mod) (rI NO λi j=>.int (i.fmod j)):=O9 λ_ _ _ _ _ _ _ hc q=>mod_int' hc q
end
def Gk(x y:T)(q:Rt->Prop):Prop:=match x,y with
 |.int i,.int j=>(sf i/\sf j)/\q (.vw (.int (i * j)))
 |_,_=>False
theorem Gm:pU K (rI NM λi j=>.int (i * j)) Gk:=by intro Z tm O ρ σ H x y v w q Q I h1 h2 h k;unfold Gk at h;split at h;exact⟨_,_,h1.int,h2.int,h.1,k _ h.2 _ H (aY.refl H) ⟨I,bC⟩⟩;exact h.elim
def Gn(x y:T)(q:Rt->Prop):Prop:=match x,y with
 |.int i,.int j=>(j≠0/\sf j)/\q (.vw (.int (i.fdiv j)))
 |_,_=>False
theorem Gp:pU K (rI NN λi j=>.int (i.fdiv j)) Gn:=by intro Z tm O ρ σ H x y v w q Q I h1 h2 h k;unfold Gn at h;split at h;exact⟨_,_,h1.int,h2.int,h.1,k _ h.2 _ H (aY.refl H) ⟨I,bC⟩⟩;exact h.elim
def Gq(x y:T)(q:Rt->Prop):Prop:=match x,y with
 |.int i,.int j=>(j≠0)/\q (.vw (.int (i.fmod j)))
 |_,_=>False
theorem Gr:pU K (rI NO λi j=>.int (i.fmod j)) Gq:=by intro Z tm O ρ σ H x y v w q Q I h1 h2 h k;unfold Gq at h;split at h;exact⟨_,_,h1.int,h2.int,h.1,k _ h.2 _ H (aY.refl H) ⟨I,bC⟩⟩;exact h.elim
section
variable{Z:Zc}{a:Expr}{fa fb:FE}{pos:Pos}
theorem BL(ha:VR X Z a fa)(hb:VR X Z b fb):VP X Z (.BinOp a .Mult b pos) (f2 fa fb Gk):=iK KP Gm ha hb
theorem Gs(ha:VR X Z a fa)(hb:VR X Z b fb):VP X Z (.BinOp a .FloorDiv b pos) (f2 fa fb Gn):=iK Gj Gp ha hb
theorem KR(ha:VR X Z a fa)(hb:VR X Z b fb):VP X Z (.BinOp a .Mod b pos) (f2 fa fb Gq):=iK KQ Gr ha hb
end
theorem nn{a b:Nat}(h:a<b):a≠b:=nY h
end VT
variable{Z:VT.Zc}{ρ:VT.En}{fa fe fb:VT.FE}{tm:List (VT.T×L2.V)}{g:VT.FA}{fc:VT.FB}
abbrev qab:=List (VT.T×L2.V)
abbrev qaj:=List VT.T
abbrev qam:=VT.Rt->Prop
abbrev qas:=@VT.VP.vr
abbrev qat:=@VT.VP.ve
abbrev qau:=@VT.VP.vx
namespace HE
open PySem PySem.W PySem.Calls PyProof.Rows
noncomputable def o9(tb:String->Option Builtin)(p:Program)(w:World)(n₀:Nat)(ann:Option Value):Nat->SharedT->Thread->Option SharedT
 |0,_,_=>none
 |n+1,s,t=>match through t with
  |true=>some s
  |false=>match stepOk n₀ ann t with
   |false=>none
   |true=>match stepT (denote tb) p w s t with
    |some (s',t')=>o9 tb p w n₀ ann n s' t'
    |none=>none
theorem tJ{tb:String->Option Builtin}{p:Program}{w:World}{n₀:Nat}{ann:Option Value}:∀{n:Nat}{s s':SharedT}{t:Thread},o9 tb p w n₀ ann n s t=some s'->topRun tb p w n₀ ann n s.abs t=some s'.abs
 |0,_,_,_,h=>by cases h
 |n+1,s,s',t,h=>by
  unfold o9 at h;unfold topRun;cases ht:through t with
  |true=>rw[ht] at h;cases h;rfl
  |false=>
   rw[ht] at h;cases hk:stepOk n₀ ann t with
   |false=>rw[hk] at h;cases h
   |true=>
    rw[hk] at h;cases hs:stepT (denote tb) p w s t with
    |none=>rw[hs] at h;cases h
    |some r=>obtain⟨s₂,t₂⟩:=r;rw[hs] at h;rw[stepT_spec hs];exact tJ h
noncomputable def mkT(l:List Obj):BT:=(l.foldl (λ(p:BT×Nat) o=>(p.1.ins p.2 o,p.2+1)) (.nil,0)).1
noncomputable def eZ(P:Params):BT:=mkT (boot_heap P).objs.toList
noncomputable def st0(T:BT)(os:OsState):SharedT:=⟨T,11,{},Array.mk [],boot_drawn,boot_toks,os⟩
theorem boot_abs(P:Params):absHeap (eZ P) 11 {}=boot_heap P:=by kernel_rfl
theorem Dq(P:Params):((boot_heap P).isNs mainGlobals,(boot_heap P).objs.size,(boot_heap P).nsMap mainGlobals "__annotations__")=(true,11,some (.ref 6)):=by kernel_rfl
noncomputable def Qn(p:Program)(T:BT)(w:World)(M:Nat)(os:OsState):Option SharedT:=o9 treeTable p w 11 (some (.ref 6)) M (st0 T os) (topStub p)
noncomputable def Kf(as:qah)(g:Addr->Option Obj):Frag:=as.filterMap λa=>(g a).map λo=>(a,o)
noncomputable def tg(T:BT)(n:Nat)(a:Addr):Option Obj:=match Nat.blt a n with
 |true=>alive ((T.get a).getD default)
 |false=>none
theorem Vt(T:BT)(n:Nat)(life:Life)(a:Addr):(absHeap T n life).get? a=tg T n a:=by
 unfold tg;cases h:Nat.blt a n with
 |true=>
  have hn:a<n:=Nat.ble_eq.mp h;cases g:T.get a with
  |some o=>rw[abs_get hn g];rfl
  |none=>have e:=absHeap_at T n life a;rw[if_pos hn,g] at e;unfold Heap.get?;rw[e];rfl
 |false=>
  have hn:¬ a<n:=λz=>by have:Nat.blt a n=true:=Nat.ble_eq.mpr z;rw[h] at this;cases this
  exact abs_get_none hn
abbrev KS(q:Program)(lv:List (Str×WData))(R:WRecords)(s:Shared):Bool:=xlAt q lv s && recOk R s
noncomputable def lookA(p q:Program)(loose:qai)(lv:List (Str×WData))(R:WRecords)(T:BT)(H0:Heap)(w:World)(M:Nat)(os:OsState) :=
 (Qn p T w M os).map λs=>((staticsOk (importedModules p.main.body) H0 s.abs.heap && namesBound p s.abs.heap && gensDone s.abs && laidKept H0 s.abs.heap),
  (openSeen q loose (importedModules p.main.body) (KS q lv R) true s.abs).1,(openSeen q loose (importedModules p.main.body) (KS q lv R) true s.abs).2.1)
noncomputable def lookB(p q:Program)(loose:qai)(lv:List (Str×WData))(R:WRecords)(T:BT)(w:World)(M:Nat)(os:OsState) :=
 (Qn p T w M os).map λs=>(openSeen q loose (importedModules p.main.body) (KS q lv R) true s.abs).2.2
noncomputable def lookC{β:Type}(p:Program)(as:qah)(F:Frag->β)(T:BT)(w:World)(M:Nat)(os:OsState) :=
 (Qn p T w M os).map λs=>F (Kf as (tg s.tree s.n))
noncomputable def uT(p:Program)(N:Nat)(w:World)(a:Addr):Option Obj:=(openEnds treeTable p w N).bind (·.heap.get? a)
theorem head{p q:Program}{loose:qai}{lv:List (Str×WData)}{R:WRecords}{as:qah}{N M:Nat}{F:Frag->β}{v:World->β}(e:opening p=plainProg p.main.scope.names)(hN:Nat.ble 600 N=true)(f:∀s,fenceModules? p s=some s)(le:Nat.ble M N=true)(ra:∀(w:World) (os:OsState),lookA p q loose lv R (eZ w.params) (boot_heap w.params) w M os=some (true,(openGood q loose).1,(openGood q loose).2.1))(rb:∀(w:World) (os:OsState),lookB p q loose lv R (eZ w.params) w M os=some (openGood q loose).2.2)(rc:∀(w:World) (os:OsState),lookC p as F (eZ w.params) w M os=some (v w)) :
  LeftO p q loose (KS q lv R) (λs=>as.map s.heap.get?) (λw=>as.map (uT p N w)) N/\∀w,F (Kf as (uT p N w))=v w:=by
 have key:∀w,∃s,openEnds treeTable p w N=some s/\openSeen q loose (importedModules p.main.body) (KS q lv R) true s=openGood q loose/\F (Kf as s.heap.get?)=v w:=λw=>by
  obtain⟨⟨h,gs,d,k,os⟩,e1,e2⟩:=TU.mp (boot_open e hN f w);obtain⟨rfl,rfl,rfl,rfl⟩:h=boot_heap w.params/\gs=Array.mk []/\d=boot_drawn/\k=boot_toks:=by simpa using e2
  obtain⟨s,r1,r2⟩:=TU.mp (ra w os);obtain⟨s',r1',rb'⟩:=TU.mp (rb w os);obtain⟨UB,ZW,rc'⟩:=TU.mp (rc w os);obtain rfl:s=s':=Option.some.inj (r1.symm.trans r1');obtain rfl:s=UB:=Option.some.inj (r1.symm.trans ZW);have r3:=congrArg (λx=>x.1) r2;have r4:openSeen q loose (importedModules p.main.body) (KS q lv R) true s.abs=openGood q loose:=Prod.ext (congrArg (λx=>x.2.1) r2) (Prod.ext (congrArg (λx=>x.2.2) r2) rb');have r5:F (Kf as s.abs.heap.get?)=v w:=by rw[show s.abs.heap.get?=tg s.tree s.n from funext λa=>Vt _ _ _ a];exact rc'
  have t1:=tJ r1;have ea:(st0 (eZ w.params) os).abs=⟨boot_heap w.params,Array.mk [],boot_drawn,boot_toks,os⟩:=by show (⟨absHeap (eZ w.params) 11 {},_,_,_,_⟩:Shared)=_;rw[boot_abs];rfl
  rw[ea] at t1;have t2:=topRun_mono (N-M) _ _ _ _ t1;rw[show M+(N-M)=N by have:=Nat.le_of_ble_eq_true le;omega] at t2;have z:=Dq w.params;have z1:=congrArg (λx=>x.1) z;have z2:=congrArg (λx=>x.2.1) z;have z3:=congrArg (λx=>x.2.2) z;refine⟨s.abs,?_,r4,r5⟩;unfold openEnds;rw[e1];show topFrom treeTable p w N _=_;unfold topFrom;dsimp only at z1 z2 z3 ⊢;rw[z1,z2,z3,t2];show (match staticsOk (importedModules p.main.body) (boot_heap w.params) s.abs.heap && namesBound p s.abs.heap && gensDone s.abs && laidKept (boot_heap w.params) s.abs.heap with|true=>_|false=>_)=_;have r3':(staticsOk (importedModules p.main.body) (boot_heap w.params) s.abs.heap && namesBound p s.abs.heap && gensDone s.abs && laidKept (boot_heap w.params) s.abs.heap)=true:=r3;rw[r3']
 refine⟨λw=>?_,λw=>?_⟩;obtain⟨s,a,b,c⟩:=key w;rw[a];have:uT p N w=s.heap.get?:=by funext x;unfold uT;rw[a];rfl
 show some (openSeen q loose (importedModules p.main.body) (KS q lv R) true s,as.map s.heap.get?)=some (openGood q loose,as.map (uT p N w));rw[b,this];obtain⟨s,a,b,c⟩:=key w;have:uT p N w=s.heap.get?:=by funext x;unfold uT;rw[a];rfl
 rw[this];exact c
theorem kf_in{as:qah}{g:Addr->Option Obj}(e:as.map h.get?=as.map g):(Kf as g).In h:=by
 have key:∀{as:qah},as.map h.get?=as.map g->∀a o,(Kf as g).lookup a=some o->h.get? a=some o:=by
  intro as;induction as with
  |nil=>intro _ a o z;cases z
  |cons x as ih=>
   intro e a o z;rw[gR,gR] at e;injection e with e1 e2
   unfold Kf at z;rw[mW] at z;cases hg:g x with
   |none=>rw[hg] at z;exact ih e2 a o z
   |some o'=>
    rw[hg] at z;simp only[S3,Jh] at z;split at z
    rename_i q
    have:a=x:=by simpa using q
    subst this;cases z;rw[e1,hg];exact ih e2 a o z
 exact λa o z=>key e a o z
theorem Gu{q:Program}{loose:qai}{XP:(qae)->Heap->Prop}{as:qah}{g:World->Addr->Option Obj}{r:RowW}{d:DefRec}{kwd:List (Str×Expr)}{run:Value->qag->Sem Value}(h:WalkO q loose XP (λw h=>(Kf as (g w)).In h) r d kwd run):WalkX q loose XP (λs=>as.map s.heap.get?) (λw=>as.map (g w)) r d kwd run :=
 λw s₀ s₁ mg mb G y a o pm cd doc dV kV h1 h2 h3 h4 h5 h6 args vals tG L iH UT hrd UQ hlo=>h w s₀ s₁ mg mb G (λb o' z=>Laid.keeps L _ _ (kf_in y b o' z)) a o pm cd doc dV kV h1 h2 h3 h4 h5 h6 args vals tG iH UT hrd UQ hlo
noncomputable def Vu:Stmt->DefRec
 |.FunctionDef n ps b _ _ _ sc _ _ p=>⟨n,ps,b,sc,p⟩
 |_=>⟨Str.empty,default,[],default,default⟩
end HE
variable{GL:qaj->(VT.T->Prop)->Prop}
lay_quick HE.lookA HE.lookB HE.lookC
namespace VT
open PySem PySem.Spec PyProof.Rows L2
section
variable{k k':Nat}{pos:Pos}{G:qaj->(qam)->Prop}
theorem aH(C:bS X.prog X.w X.K X.mg X.base x ps k (cW X.K n G))(hr:bz k' X.A)(ha:VA X Z (e::es) g)(hg:Gl X x:=by rfl)(hk:k<=k':=by decide)(m8:ie x:=by decide)(he:starEach (e::es) X.env=(false,eval e X.env)::starEach es X.env:=by rfl)(ic:(backTo pos (starEach es X.env)).any (·.1)=false:=by rfl) :
  VP X Z (.Call (.Name x p) (e::es) [] pos) (zZ n g G):=by
 obtain⟨f,fd,h1,h2,h3,F⟩:=C;exact KJ F (hr.mono hk) hg h1 h2 h3 ha m8 he ic
end
end VT
namespace L2
open PySem PySem.Spec PyProof.Rows
section
variable{a:Expr}{tb:TE}{pos:Pos}
variable{tA Ub:TT}{rest:qap}
end
section
variable{CX:ES}{k:Nat}{ks:qai}{E:XK}{m:Str}{pos Za:Pos}{kws:List Keyword}{t tk:TA}{nm:Option Str}
variable{g:qag->qag->qag}{gV:qak->qak->qak}
end
section
variable{κ:Type}[DecidableEq κ]
noncomputable def jv(a_:List (κ×V))(k:κ):Option V:=(a_.find? λkv=>decide (kv.1=k)).map (·.2)
noncomputable def putK(a_:List (κ×V))(k:κ)(v:V):List (κ×V) :=
 if (a_.any λkv=>decide (kv.1=k))=true then a_.map (λkv=>if kv.1=k then (kv.1,v) else kv) else a_++[(k,v)]
theorem mf{p:κ×V}{r:List (κ×V)}{k:κ}(e:p.1=k):jv (p::r) k=some p.2:=by simp[jv,Jj,e]
theorem mh{p:κ×V}{r:List (κ×V)}{k:κ}(e:¬ p.1=k):jv (p::r) k=jv r k:=by simp[jv,Jj,e]
theorem qp(k:κ):∀a_:List (κ×V),(a_.any λkv=>decide (kv.1=k))=(jv a_ k).isSome
 |[]=>rfl
 |p::r=>by rw[Ng];by_cases e:p.1=k;simp only[mf e,decide_eq_true e,Bool.true_or,Option.isSome_some];rw[mh e,decide_eq_false e,Bool.false_or];exact qp k r
theorem jw(a_:List (κ×V))(k:κ)(v:V):(putK a_ k v).length<=a_.length+1:=by unfold putK;split;rw[cV];omega;rw[nX,wI,S4];omega
theorem Gv{a_:List (κ×V)}{k:κ}(v:V)(h:jv a_ k=none):putK a_ k v=a_++[(k,v)]:=by unfold putK;rw[qp,h];exact if_neg (by decide)
theorem ki.Dr{o:Option V}{u:Option Value}(r:ki o u):o.isSome=u.isSome:=by
 cases o with
 |none=>cases u with
  |none=>rfl
  |some _=>exact (show False from r).elim
 |some _=>cases u with
  |none=>exact (show False from r).elim
  |some _=>rfl
theorem ki.getD{o:Option V}{u:Option Value}{d:V}{d':Value}(r:ki o u)(rd:RelV d d'):RelV (o.getD d) (u.getD d'):=by
 cases o with
 |none=>cases u with
  |none=>exact rd
  |some _=>exact (show False from r).elim
 |some _=>cases u with
  |none=>exact (show False from r).elim
  |some _=>exact r
theorem KV.val{a_:List (κ×V)}{vs:List (κ×Value)}(r:KV a_ vs)(k:κ):ki (jv a_ k) (valueAt vs k):=by
 unfold KV at r;induction r with
 |nil=>exact True.intro
 |@cons p q ps qs h t ih=>
  obtain⟨h1,h2⟩:=h;by_cases e:p.1=k;have e':q.1=k:=h1.symm.trans e;have b:valueAt (q::qs) k=some q.2:=by simp[valueAt,Jj,e']
  rw[mf e,b];exact h2;have e':¬ q.1=k:=λz=>e (h1.trans z);have b:valueAt (q::qs) k=valueAt qs k:=by simp[valueAt,Jj,e']
  rw[mh e,b];exact ih
theorem KV.any{a_:List (κ×V)}{vs:List (κ×Value)}(r:KV a_ vs)(k:κ):(a_.any λkv=>decide (kv.1=k))=vs.any λkv=>decide (kv.1=k):=by
 unfold KV at r;induction r with
 |nil=>rfl
 |cons h t ih=>rw[Ng,Ng,ih,h.1]
theorem KV.Qo{a_:List (κ×V)}{vs:List (κ×Value)}(r:KV a_ vs)(k:κ){y:V}(ry:RelV y u) :
  KV (a_.map λkv=>if kv.1=k then (kv.1,y) else kv) (vs.map λkv=>if kv.1=k then (kv.1,u) else kv):=by
 unfold KV at r ⊢;induction r with
 |nil=>exact .nil
 |@cons p q ps qs h t ih=>rw[gR,gR];refine .cons ?_ ih;obtain⟨h1,h2⟩:=h;by_cases e:p.1=k;rw[if_pos e,if_pos (h1.symm.trans e)];exact⟨h1,ry⟩;rw[if_neg e,if_neg (λz=>e (h1.trans z))];exact⟨h1,h2⟩
theorem KV.put{a_:List (κ×V)}{vs:List (κ×Value)}(r:KV a_ vs)(k:κ){y:V}(ry:RelV y u):KV (putK a_ k y) (stored vs k u):=by unfold putK stored;rw[r.any k];by_cases e:(vs.any λkv=>decide (kv.1=k))=true;rw[if_pos e,if_pos e];exact r.Qo k ry;rw[if_neg e,if_neg e];exact Paired.snoc r ⟨rfl,ry⟩
theorem KV.length{a_:List (κ×V)}{vs:List (κ×Value)}(r:KV a_ vs):a_.length=vs.length:=OI r
end
theorem ot{k:Key}(r:RelV (kV k) u):(aX P w).is k u=true:=by
 cases k with
 |inl i=>obtain⟨t,e⟩:=(show ∃t,u=Value.int i t from r);subst e;exact wJ P w i t
 |inr x=>obtain⟨t,e⟩:=(show ∃t,u=Value.str x t from r);subst e;exact wK P w x t
theorem nA{P:Program}{w:World}:∀{ks:List Key}{us:qag},Vals (ks.map kV) us->ItemsAre (aX P w) ks us
 |[],_,r=>by rw[JF] at r;cases r;exact .nil
 |k::ks,_,r=>by
  rw[gR] at r;cases r with
  |cons h t=>exact .cons (ot h) (nA t)
abbrev KT(H:Hp):List (List Key×V)->List (List Key×Addr×Value)->Prop:=Paired λp q=>p.1=q.1/\H q.2.1=some (.tup (p.1.map kV))/\RelV p.2 q.2.2
theorem KT.val{a_:List (List Key×V)}{xs:List (List Key×Addr×Value)}(r:KT H a_ xs)(k:List Key):ki (jv a_ k) ((atKey xs k).map (·.2)):=by
 induction r with
 |nil=>exact True.intro
 |@cons p q ps qs h t ih=>
  obtain⟨h1,_,h2⟩:=h;by_cases e:p.1=k;have e':q.1=k:=h1.symm.trans e;have b:atKey (q::qs) k=some q.2:=by simp[atKey,Jj,e']
  rw[mf e,b];exact h2;have e':¬ q.1=k:=λz=>e (h1.trans z);have b:atKey (q::qs) k=atKey qs k:=by simp[atKey,Jj,e']
  rw[mh e,b];exact ih
theorem KT.Qo{a_:List (List Key×V)}{xs:List (List Key×Addr×Value)}(r:KT H a_ xs)(k:List Key){y:V}(ry:RelV y u) :
  KT H (a_.map λkv=>if kv.1=k then (kv.1,y) else kv) (xs.map (putAt k u)):=by
 induction r with
 |nil=>exact .nil
 |@cons p q ps qs h t ih=>rw[gR,gR];refine .cons ?_ ih;obtain⟨h1,h2,h3⟩:=h;unfold putAt;by_cases e:p.1=k;rw[if_pos e,if_pos (h1.symm.trans e)];exact⟨h1,h2,ry⟩;rw[if_neg e,if_neg (λz=>e (h1.trans z))];exact⟨h1,h2,h3⟩
theorem KT.put{a_:List (List Key×V)}{xs:List (List Key×Addr×Value)}(r:KT H a_ xs)(k:List Key){b:Addr}{y:V}(hb:H b=some (.tup (k.map kV)))(ry:RelV y u) :
  KT H (putK a_ k y) (storedH xs k b u):=by
 have e:(a_.any λkv=>decide (kv.1=k))=(atKey xs k).isSome:=by rw[qp,(r.val k).Dr,Option.isSome_map]
 unfold putK storedH;rw[e];by_cases q:(atKey xs k).isSome=true;rw[if_pos q,if_pos q];exact r.Qo k ry;rw[if_neg q,if_neg q];exact Paired.snoc r ⟨rfl,hb,ry⟩
theorem KT.keeps{a_:List (List Key×V)}{xs:List (List Key×Addr×Value)}(r:KT H a_ xs)(ht:∀b ys,H b=some (.tup ys)->H' b=some (.tup ys)):KT H' a_ xs :=
 Paired.mZ r λ_ _ z=>⟨z.1,ht _ _ z.2.1,z.2.2⟩
section
theorem BM{u:HO}(ok:lz P w H h)(e:Rd H a u):cy P w H h a u:=e.ok ok
theorem tK(ok:lz P w H h)(e:Rd H a (.dK a_)):a_.length<=sizeLine/\(a==sysModules)=false/\∃vs,KV a_ vs/\h.DictOf (aX P w) a vs :=
 show cy P w H h a (.dK a_) from BM ok e
theorem BO(ok:lz P w H h)(e:H a=some (.dK a_)):a_.length<=sizeLine/\(a==sysModules)=false/\∃vs,KV a_ vs/\h.DictOf (aX P w) a vs:=tK ok (.inl e)
theorem uU(ok:lz P w H h)(e:H a=some (.tup (ks.map kV))):(tupleKind (aX P w)).is h ks a:=by obtain⟨_,a5,r,o,h1,h2,n,h3⟩:=(show cy P w H h a (.tup (ks.map kV)) from ok a _ e);exact⟨o,a5.toArray,n,h1,h2,h3,by simpa using nA r⟩
theorem xx{a_:List (List Key×V)}(ok:lz P w H h)(e:Rd H a (.dT a_)):a_.length<=sizeLine/\(a==sysModules)=false /\
  ∃xs,KT H a_ xs/\h.DictOfH (tupleKind (aX P w)) a xs:=by
 obtain⟨z,y,xs,r,o,es,ep,h1,h2,h3,h4,h5⟩:=(show cy P w H h a (.dT a_) from BM ok e);refine⟨z,y,xs,r,o,es,ep,h1,h2,h3,h4,λx hx=>?_,h5⟩;have all:∀{l:List (List Key×V)}{m:List (List Key×Addr×Value)},KT H l m->∀x∈m,(tupleKind (aX P w)).is h x.1 x.2.1:=by
  intro l m q;induction q with
  |nil=>intro x hx;exact nomatch hx
  |@cons p q ps qs hq t ih=>
    intro x hx;rcases cT.mp hx with e|hx
    subst e;exact uU ok (by rw[<- hq.1];exact hq.2.1);exact ih x hx
 exact all r x hx
theorem Vv{a_:List (List Key×V)}(ok:lz P w H h)(e:H a=some (.dT a_)):a_.length<=sizeLine/\(a==sysModules)=false /\
 ∃xs,KT H a_ xs/\h.DictOfH (tupleKind (aX P w)) a xs:=xx ok (.inl e)
end
def uV(H:Hp)(a:Addr)(y:V)(r:Option V):Prop :=
 (∃a_ k,Rd H a (.dK a_)/\y=kV k/\r=jv a_ k)\/∃a_ k b,Rd H a (.dT a_)/\y=.ref b/\H b=some (.tup (k.map kV))/\r=jv a_ k
def Dt(H:Hp)(a:Addr)(y v:V)(H':Hp):Prop :=
 (∃a_ k,H a=some (.dK a_)/\y=kV k/\a_.length<sizeLine/\H'=upd H a (.dK (putK a_ k v))) \/
 ∃a_ k b,H a=some (.dT a_)/\y=.ref b/\H b=some (.tup (k.map kV))/\a_.length<sizeLine/\H'=upd H a (.dT (putK a_ k v))
theorem uV.k{k:Key}(e:H a=some (.dK a_)):uV H a (kV k) (jv a_ k):=.inl ⟨a_,k,.inl e,rfl,rfl⟩
theorem Dt.k{k:Key}(e:H a=some (.dK a_))(hl:a_.length<sizeLine):Dt H a (kV k) v (upd H a (.dK (putK a_ k v))):=.inl ⟨a_,k,e,rfl,hl,rfl⟩
section
variable{s:Shared}{y:V}{r:Value}{o:Option V}
theorem Inv.big(I:Inv X pins σ H s):sysModules<s.heap.objs.size:=by have h:mainGlobals<s.heap.objs.size:=(I.mod.glob.keeps I.bk).lt;exact Nat.lt_trans (by decide) h
theorem Du(hu:A.units+1<cLine)(I:Inv X pins σ H s)(g:uV H a y (some v))(ry:RelV y u)(h:∀w' s',Inv X pins σ H s'->RelV v w'->Q w' s') :
  wpAny (model X.prog X.w) A (getItem (.ref a) u) Q E s:=by
 obtain⟨a_,k,e,ey,l⟩|⟨a_,k,b,e,ey,eb,l⟩:=g
 subst ey;obtain⟨z,hd,vs,rel,dd⟩:=tK I.cn e;obtain⟨w',hw,rw'⟩:=ki.some_of (v:=v) (o:=valueAt vs k) (by rw[l];exact rel.val k);exact wpAny_getItem_of (ot ry) dd.mapOf hw (h w' _ (I.tok _) rw');subst ey;cases (show u=Value.ref b from ry);obtain⟨z,hd,xs,rel,dd⟩:=xx I.cn e;obtain⟨w',hw,rw'⟩:=ki.some_of (v:=v) (o:=(atKey xs k).map (·.2)) (by rw[l];exact rel.val k);obtain⟨p,hp,hp2⟩:=TU.mp hw;refine wpAny_getItem_heap (tupleKind_room_in1 hu) (uU I.cn eb) dd hp ?_;rw[hp2];exact h w' _ (I.tok _) rw'
theorem o_{ob:HO}(I:Inv X pins σ H s)(mu:T8 (H a))(hs:Heap.SameBut a s.heap h')(he:∃q,h'.get? a=some q)(new:cy X.prog X.w (upd H a ob) h' a ob) :
  Inv X pins σ (upd H a ob) {s with heap:=h',toks:=t'} :=
 I.write (x:=a) (e:=a) mu (.inl rfl) (λb q hb z=>(hs.2 b hb).trans z) he new
theorem Gw{vs:List (Key×Value)}(z:a_.length<=sizeLine)(hd:(a==sysModules)=false)(rel:KV a_ vs)(dd:h'.DictOf (aX P w) a vs) :
 cy P w H' h' a (.dK a_):=⟨z,hd,vs,rel,dd⟩
theorem Dv{Q:Unit->Shared->Prop}(hu:A.units+1<cLine)(I:Inv X pins σ H s)(g:Dt H a y v H')(ry:RelV y u)(rv:RelV v r)(h:∀s',Inv X pins σ H' s'->Q () s') :
  wpAny (model X.prog X.w) A (setItem (.ref a) u r) Q E s:=by
 obtain⟨a_,k,e,ey,l,eH⟩|⟨a_,k,b,e,ey,eb,l,eH⟩:=g
 subst ey eH;obtain⟨z,hd,vs,rel,dd⟩:=BO I.cn e;have hz:vs.length<=sizeLine:=by rw[<- rel.length];exact z
 have hl:(putK a_ k v).length<=sizeLine:=by have:=jw a_ k v;omega
 refine wpAny_setItem_pairs (hsz:=hz) (ot ry) dd λh' Dw hs=>h _ ?_;have he:∃q,h'.get? a=some q:=let ⟨q,_,_,hq,_⟩:=Dw;⟨q,hq⟩;exact o_ I (by rw[e];exact True.intro) hs he (Gw hl hd (rel.put k rv) Dw);subst ey eH;cases (show u=Value.ref b from ry);obtain⟨z,hd,xs,rel,dd⟩:=Vv I.cn e;have hz:xs.length<=sizeLine:=by rw[<- OI rel];exact z
 have hl:(putK a_ k v).length<=sizeLine:=by have:=jw a_ k v;omega
 refine wpAny_setItem_heap (hsz:=hz) (tupleKind_room_in1 hu) (uU I.cn eb) dd λh' Dw hs=>h _ ?_;obtain⟨q,es,ep,hq,h2,h3,h4,_,h5⟩:=Dw;refine o_ I (by rw[e];exact True.intro) hs ⟨q,hq⟩ ⟨hl,hd,_,(rel.put k eb rv).keeps λc ys ec=>?_,q,es,ep,hq,h2,h3,h4,h5⟩;rw[aE (E2 ec e (λz=>nomatch z))];exact ec
end
section
variable{s:Shared}{k:Key}
theorem Vw(I:Inv X pins σ H s)(e:Rd H a (.dK a_))(h:∀t s',Inv X pins σ H s'->Q (.int a_.length t) s'):wpAny (model X.prog X.w) A (call (.builtin "len") [.ref a]) Q E s:=by obtain⟨z,hd,vs,rel,dd⟩:=tK I.cn e;refine call_len_dict hd dd (by rw[<- rel.length];rw[sizeLine_eq] at z;omega) ?_;rw[<- rel.length];exact h _ _ (I.tok _)
end
def KU(i:Expr):Prop:=∀ov iv,subscripted i false ov iv=operate [ov,iv] (getItem ov iv)
theorem BP{s:Shared}{env:Env}{value slice:Expr}{pos:Pos}{T id:String}(hl:typeLookup (.type T) "__getitem__"=pure (some (.builtin id)))(hs:KU slice)(h:wpAny (model prog w) A (eval value env) (λo s₁=>wpAny (model prog w) A (eval slice env) (λi s₂=>s₂.TypeIs o T/\wpAny (model prog w) A (getItem o i) Q E s₂) E s₁) E s) :
  wpAny (model prog w) A (eval (.Subscript value slice pos) env) Q E s:=by
 refine Subscript_ (wpAny_mono h (λo s₁ h₁=>wpAny_mono h₁ (λi s₂ h₂=>?_) λ_ _ x=>x) λ_ _ x=>x);obtain⟨hT,h₂⟩:=h₂;unfold subscriptTail;refine wpAny_bind ?_;rw[getitemInPython_of_ne hT.not_modules];refine wpAny_bind (wpAny_specialOf hT hl ?_);have fin:wpAny (model prog w) A (subscripted slice false o i) (λr s₃=>wpAny (model prog w) A (letTemporaryGo value o r >>= λ_=>pure r) Q E s₃) E s₂:=by rw[hs o i];exact wpAny_operating (wpAny_mono h₂ (λr s₃ h₃=>wpAny_bind (wpAny_letTemporaryGo (wpAny_pure h₃))) λ_ _ x=>x)
 first
  |exact wpAny_pure (wpAny_bind fin)
  |exact wpAny_bind (wpAny_pure (wpAny_bind fin))
  |exact wpAny_bind fin
theorem xy{s:Shared}{y:V}{o:Option V}(I:Inv X pins σ H s)(g:uV H a y o):s.TypeIs (.ref a) "dict":=by
 obtain⟨a_,k,e,_,_⟩|⟨a_,k,b,e,_,_,_⟩:=g
 obtain⟨_,_,vs,_,dd⟩:=tK I.cn e;exact dd.typeIs;obtain⟨_,_,xs,_,dd⟩:=xx I.cn e;exact dd.typeIs
def Vx(td ty:TE):TE:=λσ H Q=>td σ H λx H1=>ty σ H1 λy H2=>∃a v,x=.ref a/\uV H2 a y (some v)/\Q v H2
def Vy(td ty tv:TE):TS:=λD σ H=>tv σ H λv H1=>td σ H1 λx H2=>ty σ H2 λy H3=>∃a H4,x=.ref a/\Dt H3 a y v H4/\D.nx σ H4
section
variable{i value:Expr}{pos pos':Pos}{td ty tv:TE}
theorem KW(hu:X.A.units+1<cLine)(ho:PE X o td)(hi:PE X i ty)(hs:KU i):PE X (.Subscript o i pos) (Vx td ty):=by intro pins s σ H Q I h;refine BP PySem.F.slot_dict_getitem.lookup hs (bZ (ho pins s σ H _ I h) λu s1 ⟨x,H1,I1,rx,q1⟩=>bZ (hi pins s1 σ H1 _ I1 q1) λiv s2 ⟨y,H2,I2,ry,a,v,ex,g,q2⟩=>?_);subst ex;obtain rfl:u=Value.ref a:=rx;exact⟨xy I2 g,Du hu I2 g ry λw' s3 I3 rw'=>⟨v,H2,I3,rw',q2⟩⟩
theorem BQ(hu:X.A.units+1<cLine)(ho:PE X o td)(hi:PE X i ty)(hv:PE X value tv)(hs:swapsWith value (some (.Subscript o i pos')) pos.line X.env=pure false) :
  PS X (.Assign [.Subscript o i pos'] value pos) (Vy td ty tv):=by
 intro pins s σ H D I h;refine wpAny_Assign_Subscript (bZ (hv pins s σ H _ I h) λr s1 ⟨v,H1,I1,rv,q1⟩=>bZ (ho pins s1 σ H1 _ I1 q1) λu s2 ⟨x,H2,I2,rx,q2⟩=>bZ (hi pins s2 σ H2 _ I2 q2) λiv s3 ⟨y,H3,I3,ry,a,H4,ex,g,q3⟩=>?_) hs;subst ex;obtain rfl:u=Value.ref a:=rx;exact Dv hu I3 g ry rv λs4 I4=>⟨σ,H4,I4,q3⟩
end
theorem xA(h:Heap)(hb:sysModules<h.objs.size):cy P w H (h.push {cls:=.type "dict",data:=.dict #[]}) h.objs.size (.dK []) :=
 ⟨jj _,beq_eq_false_iff_ne.mpr (Ne.symm (nY hb)),[],.nil,Heap.DictOf.new h⟩
def Qp:TE:=λ_ H Q=>∀p,H p=none->Q (.ref p) (upd H p (.dK []))
section
variable{pos:Pos}
theorem xB:PE X (.Dict [] [] pos) Qp:=λpins s σ H Q I h=>
 wpAny_Dict_empty ⟨.ref s.heap.objs.size,_,I.laid (a:=s.heap.objs.size) (o:=.dK []) (t':=s.toks) (λ_ _ q=>mV _ q) (c3 _) (xA s.heap I.big),rfl,h _ (I.cn.fresh (c3 _))⟩
end
structure M2(X:Cx)(o:Expr)(m:Str)(apos:Pos)(e f:Expr)(aZ:Pos):Prop where
 base:attributeBase o m X.env (eval o X.env)=eval o X.env
 ZX:((backTo aZ (starEach [e,f] X.env)).all (λx=>!x.1) && (backToKw aZ (keywordEach [] X.env)).all (λx=>x.1.isSome)
  && decide (([e,f]:qap).length+([]:List Keyword).length+(if ([]:List Keyword).isEmpty then 0 else 1)<30))=true
 line:(apos.endLine==aZ.line)=true
 trees:backTo aZ (starEach [e,f] X.env)=[(false,eval e X.env),(false,eval f X.env)]
def IsD(H:Hp)(a:Addr):Prop:=(∃a_,Rd H a (.dK a_))\/∃a_,Rd H a (.dT a_)
theorem Qq{s:Shared}(I:Inv X pins σ H s)(d:IsD H a) :
  s.TypeIs (.ref a) "dict"/\(∀b,Value.ref a=.ref b->∃ob,s.heap.get? b=some ob/\ob.dict=none)/\(a==sysModules)=false:=by
 obtain⟨a_,e⟩|⟨a_,e⟩:=d
 obtain⟨_,hd,vs,_,dd⟩:=tK I.cn e;refine⟨dd.typeIs,λb q=>?_,hd⟩;cases q;obtain⟨ob,_,_,h1,h2,_⟩:=dd;exact⟨ob,h1,h2.2.1⟩;obtain⟨_,hd,xs,_,dd⟩:=xx I.cn e;refine⟨dd.typeIs,λb q=>?_,hd⟩;cases q;obtain⟨ob,_,_,h1,h2,_⟩:=dd;exact⟨ob,h1,h2.2.1⟩
section
variable{s:Shared}{y d:V}{r:Value}{o:Option V}
theorem Qr(hu:A.units+1<cLine)(I:Inv X pins σ H s)(g:uV H a y o)(ry:RelV y u)(rd:RelV d r)(h:∀w' s',Inv X pins σ H s'->RelV (o.getD d) w'->Q w' s') :
  wpAny (model X.prog X.w) A (call (.builtin "dict.get") [.ref a,u,r]) Q E s:=by
 obtain⟨a_,k,e,ey,l⟩|⟨a_,k,b,e,ey,eb,l⟩:=g
 subst ey;obtain⟨z,hd,vs,rel,dd⟩:=tK I.cn e;refine call_meetsIn M' dd.typeIs TV (TN _ _ _) (meets_dict_get_default (aX X.prog X.w) a (ot ry) hd r) ⟨_,dd.mapOf,h _ _ (I.tok _) ?_⟩;rw[l];exact (rel.val k).getD rd;subst ey;cases (show u=Value.ref b from ry);obtain⟨z,hd,xs,rel,dd⟩:=xx I.cn e;refine call_meetsIn M' dd.typeIs TV (TN _ _ _) (meetsH_dict_get_default (tupleKind (aX X.prog X.w)) a b hd r) ⟨tupleKind_room_in1 hu,k,xs,uU I.cn eb,dd,h _ _ (I.tok _) ?_⟩;rw[l];exact (rel.val k).getD rd
end
def Qs(td ty tx:TE):TE:=λσ H Q=>td σ H λx H1=>∃a,x=.ref a/\IsD H1 a/\ty σ H1 λy H2=>tx σ H2 λz H3=>∃o,uV H3 a y o/\Q (o.getD z) H3
section
variable{f:Expr}{td ty tx:TE}
theorem Gx(hu:X.A.units+1<cLine)(ho:PE X o td)(he:PE X e ty)(hf:PE X f tx)(m:M2 X o "get" apos e f aZ):PE X (.Call (.Attribute o "get" apos) [e,f] [] aZ) (Qs td ty tx):=by
 intro pins s σ H Q I h;refine wpAny_Call_method m.base m.ZX m.line TQ M' PySem.F.type_dict_get (bZ (ho pins s σ H _ I h) λu s1 ⟨x,H1,I1,rx,a,ex,d,q1⟩=>?_);subst ex;obtain rfl:u=Value.ref a:=rx;obtain⟨t1,t2,_⟩:=Qq I1 d;refine⟨t1,t2,?_⟩;rw[m.trees];refine TR rfl (XA (OC (bZ (he pins s1 σ H1 _ I1 q1) λiv s2 ⟨y,H2,I2,ry,q2⟩ =>
  OC (bZ (hf pins s2 σ H2 _ I2 q2) λfv s3 ⟨z,H3,I3,rz,ov,g,q3⟩=>Calls.spliced_nil ?_))))
 exact Qr hu I3 g ry rz λw' s4 I4 rw'=>⟨_,H3,I4,rw',q3⟩
end
end L2
namespace XQ
open PySem PySem.W PySem.Calls PyProof.Rows
end XQ
namespace L2
open PySem PySem.Spec PyProof.Rows
section
theorem Dx:eX X (.builtin "len") (λxs H Q=>∃a a_,xs=[V.ref a]/\H a=some (.dK a_)/\Q (.int a_.length) H):=by intro pins s σ H xs us Q I r h;obtain⟨a,a_,rfl,ha,q⟩:=h;obtain⟨u,rfl,ru⟩:=vals1 r;cases ru;exact Vw I (.inl ha) λt s' I'=>⟨.int a_.length,H,I',⟨t,rfl⟩,q⟩
end
end L2
namespace VT
open PySem PySem.Spec PyProof.Rows L2
noncomputable def xD:T->Option Key
 |.int i=>some (.inl i)
 |.str x=>some (.inr x)
 |_=>none
theorem mi{A:qah}{t:T}{k:Key}(h:jg K H A t v)(e:xD t=some k):v=kV k:=by
 cases t with
 |int i=>cases e;exact h.int
 |str x=>cases e;exact h.str
 |_=>cases e
noncomputable def c5{α:Type}:List Key->List α->Key->Option α
 |k::ks,t::ts,x=>if k=x then some t else c5 ks ts x
 |_,_,_=>none
def Dy(ks:List Key)(x:Key):Bool:=ks.any λk=>decide (k=x)
def ik(ks:List Key)(x:Key):List Key:=if Dy ks x=true then ks else ks++[x]
noncomputable def cC{α:Type}(ks:List Key)(ts:List α)(x:Key)(u:α):List α:=if Dy ks x=true then List.zipWith (λk t=>if k=x then u else t) ks ts else ts++[u]
theorem fM:∀(ks:List Key)(vs:qak)(x:Key),jv (ks.zip vs) x=c5 ks vs x
 |[],vs,x=>rfl
 |k::ks,[],x=>rfl
 |k::ks,v::vs,x=>by simp only[c5,JB];by_cases e:k=x;rw[if_pos e,mf (p:=(k,v)) e];rw[if_neg e,mh (p:=(k,v)) e];exact fM ks vs x
theorem xE(ts:List α)(x:Key):c5 [] ts x=none:=by cases ts<;>rfl
theorem gU{K:qaf}{H:Hp}{A:qah}:∀{ks:List Key}{ts:qaj}{vs:qak}{x:Key},aB K H A ts vs->(∀t,c5 ks ts x=some t->∃v,c5 ks vs x=some v/\At K H A t v)/\(c5 ks ts x=none->c5 ks vs x=none)
 |[],ts,vs,x,h=>by rw[xE,xE];refine⟨λt e=>?_,λ_=>rfl⟩;cases e
 |k::ks,[],vs,x,h=>by simp only[aB] at h;subst h;exact⟨λt e=>(by cases e),λ_=>rfl⟩
 |k::ks,t::ts,vs,x,h=>by simp only[aB] at h;obtain⟨v,r,rfl,h1,h2⟩:=h;simp only[c5];by_cases e:k=x;rw[if_pos e,if_pos e];exact⟨λt e=>by cases e;exact⟨v,rfl,h1⟩,λq=>by cases q⟩;rw[if_neg e,if_neg e];exact gU h2
theorem KY(ks:List Key)(vs:qak)(x:Key)(hl:ks.length=vs.length):((ks.zip vs).any λkv=>decide (kv.1=x))=Dy ks x:=by
 unfold Dy;induction ks generalizing vs with
 |nil=>rfl
 |cons k ks ih=>
  cases vs with
  |nil=>simp at hl
  |cons v vs=>rw[JB,Ng,Ng,ih vs (by simpa using hl)]
theorem zip_map(ks:List Key)(vs:qak)(x:Key)(v:V):(ks.zip vs).map (λkv=>if kv.1=x then (kv.1,v) else kv)=ks.zip (List.zipWith (λk t=>if k=x then v else t) ks vs):=by
 induction ks generalizing vs with
 |nil=>rfl
 |cons k ks ih=>
  cases vs with
  |nil=>rfl
  |cons u vs=>simp only[JB,gR,YC];rw[ih vs];by_cases e:k=x;rw[if_pos e,if_pos e];rw[if_neg e,if_neg e]
theorem Gy(ks:List Key)(vs:qak)(x:Key)(v:V)(hl:ks.length=vs.length):L2.putK (ks.zip vs) x v=(ik ks x).zip (cC ks vs x v)/\(ik ks x).length=(cC ks vs x v).length:=by unfold L2.putK ik cC;rw[KY ks vs x hl];by_cases e:Dy ks x=true;rw[if_pos e,if_pos e,if_pos e];exact⟨zip_map ks vs x v,by simp[hl]⟩;rw[if_neg e,if_neg e,if_neg e];refine⟨?_,by simp[hl]⟩;rw[List.zip_append hl];rfl
theorem xF{A:qah}{ts:qaj}{x:Key}{t:T}(h:aB K H A ts vs)(ht:At K H A t v):aB K H A (cC ks ts x t) (cC ks vs x v):=by
 unfold cC;by_cases e:Dy ks x=true;rw[if_pos e,if_pos e];clear e;induction ks generalizing ts vs with
 |nil=>simp only[List.zipWith_nil_left];exact aB.nil
 |cons k ks ih=>
  cases ts with
  |nil=>simp only[aB] at h;subst h;simp only[List.zipWith_nil_right];exact aB.nil
  |cons t0 ts=>simp only[aB] at h;obtain⟨v0,r,rfl,h1,h2⟩:=h;simp only[YC];refine aB.cons ?_ (ih h2);by_cases q:k=x;rw[if_pos q,if_pos q];exact ht;rw[if_neg q,if_neg q];exact h1
 rw[if_neg e,if_neg e];exact h.append (aB.cons ht aB.nil)
section
variable{a:Expr}{fc:FE}{pos:Pos}
def Vz:FP:=λ_ Q=>Q (.fr (.dk [] []))
theorem BR:VP X Z (.Dict [] [] pos) Vz:=.mk λtm=>PE.weak xB λσ H Q ⟨ρ,O,q,I,hf,k⟩ p hp=>
 k _ hf _ _ (aK hp) (I.newD (ks:=[]) (ts:=[]) (vs:=[]) hp rfl aB.nil)
noncomputable def VB(fa fb:FE):FP:=λρ Q=>fa ρ λx=>fb ρ λy=>match x,xD y with
 |.dk ks ts,some k=>∃t,c5 ks ts k=some t/\Q (.vw t)
 |_,_=>False
theorem Qt(hu:X.A.units+1<cLine)(ha:VR X Z a fa)(hb:VR X Z b fb)(hs:KU b:=by intro _ _;rfl):VP X Z (.Subscript a b pos) (VB fa fb):=.mk λtm=>PE.weak (KW hu (ha tm) (hb tm) hs) λσ H Q ⟨ρ,O,q,I,hf,k⟩ =>
 ⟨ρ,O,_,I,hf,λx hx v H1 s1 a1=>⟨ρ,O,_,I.same s1,hx,λy hy w H2 s2 a2=>by
  split at hy
  rename_i ks ts kk e
  obtain⟨t,e1,hq⟩:=hy;obtain⟨l,vs,rfl,hl,hd,hv⟩:=(a1.same s2).dk;obtain⟨u,e2,e3⟩:=(gU hv).1 t e1;rw[mi a2 e];exact⟨l,u,rfl,by rw[<- e2,<- fM];exact uV.k hd,k _ hq _ H2 (s1.trans s2) ⟨(I.same s1).same s2,e3⟩⟩;exact hy.elim⟩⟩
def adj(fa fb:FE):FP:=λρ Q=>fa ρ λx=>match x with
 |.dk ks ts=>fb ρ λy=>match xD y with
  |some k=>Q (.vw ((c5 ks ts k).getD .aQ))
  |none=>False
 |_=>False
noncomputable def ZY(fa fb fc:FE):FP:=λρ Q=>fa ρ λx=>match x with
 |.dk ks ts=>fb ρ λy=>fc ρ λz=>match xD y with
  |some k=>Q (.vw ((c5 ks ts k).getD z))
  |none=>False
 |_=>False
theorem BU{A:qah}{ts:qaj}{k:Key}{z:T}{w:V}(h:aB K H A ts vs)(hz:At K H A z w):At K H A ((c5 ks ts k).getD z) ((c5 ks vs k).getD w):=by
 cases e:c5 ks ts k with
 |none=>rw[(gU h).2 e];exact hz
 |some t=>obtain⟨v,e1,e2⟩:=(gU h).1 t e;rw[e1];exact e2
theorem z6(hu:X.A.units+1<cLine)(ha:VR X Z a fa)(hb:VR X Z b fb)(hc:VE X Z c fc)(m:M2 X a "get" apos b c aZ):VP X Z (.Call (.Attribute a "get" apos) [b,c] [] aZ) (ZY fa fb fc):=.mk λtm=>PE.weak (Gx hu (ha tm) (hb tm) (hc tm) m) λσ H Q ⟨ρ,O,q,I,hf,k⟩ =>
 ⟨ρ,O,_,I,hf,λx hx v H1 s1 a1=>by
  split at hx
  rename_i ks ts
  obtain⟨l,vs,rfl,hl,hd,hv⟩:=a1.dk;refine⟨l,rfl,.inl ⟨_,.inl hd⟩,ρ,O,_,I.same s1,hx,λy hy w H2 s2 a2=>⟨ρ,O,_,(I.same s1).same s2,hy,λz hz u H3 s3 a3=>?_⟩⟩;split at hz
  rename_i kk e
  rw[mi a2 e];refine⟨_,uV.k (s3 _ _ (s2 _ _ hd)),?_⟩;rw[fM];exact k _ hz _ H3 ((s1.trans s2).trans s3) ⟨((I.same s1).same s2).same s3,BU ((hv.same s2).same s3) a3⟩;exact hz.elim;exact hx.elim⟩
noncomputable def NP(n:Nat)(f fi:FE):FS:=λd ρ=>match ρ[n]? with
 |some (some (.dk ks ts,true))=>f ρ λv=>fi ρ λi=>match xD i with
  |some k=>ts.length<16777216/\d.nx (ρ.set n (some (.dk (ik ks k) (cC ks ts k v),true)))
  |none=>False
 |_=>False
theorem KZ(n:Nat){f fi:FE}{i:Expr}(hu:X.A.units+1<cLine)(he:VE X Z e f)(hi:VR X Z i fi)(hN:X.N[n]?=some x:=by rfl)(hv:kF X.env.scope x:=by first|exact Or.inl rfl|exact Or.inr (Or.inl rfl)|exact Or.inr (Or.inr rfl))(hd:ie x:=by decide)(gn:uj x:=by decide)(hs:swapsWith e (some (.Subscript (.Name x p) i fP)) pos.line X.env=pure false:=by rfl) :
  VS X Z (.Assign [.Subscript (.Name x p) i fP] e pos) (NP n f fi):=.mk λtm=>
 PS.weak (BQ hu (bV hN hv hd gn) (hi tm) (he tm) hs) λD σ H ⟨ρ,O,d,I,q,F⟩=>by
  unfold NP at q;split at q
  rename_i ks ts e0
  obtain⟨l,h1,h2,xs,hl,h3,h4⟩:=I.root e0;have ha:l∈av Z O:=cw _ (aN.mpr (gH h1));refine⟨ρ,O,_,I,q,λt ht v H1 s1 a1=>⟨.ref l,h2,ρ,O,_,I.same s1,ht,λj hj w H2 s2 a2=>?_⟩⟩;split at hj
  rename_i kk ek
  obtain⟨hlen,hj⟩:=hj;have h3':=s2 _ _ (s1 _ _ h3);have q:=Gy ks xs kk v hl;have hz:(ks.zip xs).length<sizeLine:=by rw[sizeLine_eq,OH,hl,Ni,h4.length];omega
  rw[mi a2 ek];refine⟨l,_,rfl,Dt.k h3' hz,?_⟩;rw[q.1];refine F.nx O _ σ _ (((I.same s1).same s2).wrote (t':=.dk (ik ks kk) (cC ks ts kk t)) e0 h1 ⟨cC ks xs kk v,q.2,aI,?_⟩) hj;exact aB.wrote ha h3' rfl (xF ((h4.same s1).same s2) (a1.same s2));exact hj.elim;exact q.elim
end
section
variable{a:Expr}{pos:Pos}
def NQ(ts:qaj)(q:qam):Prop:=match ts with
 |[.dk ks vs]=>q (.vw (.int (vs.length:Int)))
 |_=>False
theorem z7:pZ K (λxs H Q=>∃a a_,xs=[V.ref a]/\H a=some (.dK a_)/\Q (.int a_.length) H) NQ:=by intro Z tm O ρ σ H ts vs q Q I h hp k;unfold NQ at hp;split at hp;obtain⟨v,rfl,a⟩:=dW h;obtain⟨l,ws,rfl,hl,hd,hv⟩:=a.dk;refine⟨l,_,rfl,hd,?_⟩;rw[OH,hl,Ni,hv.length];exact k _ hp _ H (aY.refl H) ⟨I,bC⟩;exact hp.elim
end
end VT
namespace RV
open PySem PySem.Spec PyProof.Rows
section
variable{s:Shared}{R:Result->Shared->Prop}
variable{I:Addr}{wr:qah}{G:Array GenState->Array GenState->Prop}{P:Nat->Value->Prop}{St:Nat->Shared->Prop}
end
section
variable{s:Shared}
variable{I:Addr}{wr:qah}{G:Array GenState->Array GenState->Prop}{P:Nat->Value->Prop}{St:Nat->Shared->Prop}
end
end RV
namespace VT
open PySem PySem.Spec PyProof.Rows L2
theorem qq(h:n+101<cLine):n+1<cLine:=by omega
def NR(w:World)(K:qaf)(e:DictEntry)(p:Str×T):Prop:=e.hash=PyData.keyHash w.params p.1/\(∃t,e.key=.str p.1 t)/\∃v,RelV v e.val/\∀H A,At K H A p.2 v
def qr(w:World)(K:qaf)(a:Addr)(l:List (Str×T)):Prop:=∃es ep,K.lookup a=some ⟨.type "dict",none,.dict es ep,#[]⟩/\(a==sysModules)=false/\Paired (NR w K) es.toList l/\(l.map (·.1)).Nodup
theorem ents{P:Program}{w:World}{K:qaf}:∀{es:List DictEntry}{l:List (Str×T)},Paired (NR w K) es l ->
  ∃(vs:qak)(us:List (Key×Value)),(∀H A,aB K H A (l.map (·.2)) vs)/\KV ((l.map λp=>(Sum.inr p.1:Key)).zip vs) us/\PySem.Pairs (aX P w) es us/\us.map (·.1)=l.map (λp=>(Sum.inr p.1:Key))/\∀e∈es,∃k,(aX P w).is k e.key=true/\e.hash=(aX P w).hash k
 |_,_,.nil=>⟨[],[],λ_ _=>aB.nil,.nil,.nil,rfl,λ_ h=>nomatch h⟩
 |_,_,.cons (a:=e) (b:=p) r t=>by
   obtain⟨vs,us,h1,h2,h3,h4,h5⟩:=ents (P:=P) t;obtain⟨r1,⟨tk,r2⟩,v,r3,r4⟩:=r;have hk:(aX P w).is (Sum.inr p.1) e.key=true:=by rw[r2];show Value.isStrOf p.1 (.str p.1 tk)=true;simp[Value.isStrOf]
   refine⟨v::vs,(Sum.inr p.1,e.val)::us,λH A=>aB.cons (r4 H A) (h1 H A),.cons ⟨rfl,r3⟩ h2,.cons hk rfl h3,by rw[gR,gR,h4],λe' he=>?_⟩;rcases cT.mp he with q|q
   subst q;exact⟨Sum.inr p.1,hk,r1⟩;exact h5 e' q
theorem qr.of{s:Shared}{l:List (Str×T)}(I:Inv X pins σ H s)(d:qr X.w X.K a l) :
  ∃(vs:qak)(us:List (Key×Value)),(∀H A,aB X.K H A (l.map (·.2)) vs)/\KV ((l.map λp=>(Sum.inr p.1:Key)).zip vs) us/\s.heap.DictOf (aX X.prog X.w) a us/\(a==sysModules)=false:=by
 obtain⟨es,ep,lk,hs,hp,nd⟩:=d;obtain⟨vs,us,h1,h2,h3,h4,h5⟩:=ents (P:=X.prog) hp;refine⟨vs,us,h1,h2,⟨_,es,ep,I.rR a _ lk,⟨rfl,rfl,rfl⟩,rfl,λe he=>h5 e (by simpa using he),h3,?_⟩,hs⟩;rw[h4];have e:(l.map λp=>(Sum.inr p.1:Key))=(l.map (·.1)).map Sum.inr:=by rw[Bh];rfl
 rw[e];exact List.Pairwise.map _ (λa b h z=>h (Sum.inr.inj z)) nd
section
variable{fc:FE}{l:List (Str×T)}
noncomputable def z8(l:List (Str×T))(k:Str):Option T:=c5 (l.map λp=>(Sum.inr p.1:Key)) (l.map (·.2)) (Sum.inr k)
def onStr(t:T)(f:Str->Prop):Prop:=match t with
 |.str k=>f k
 |_=>False
theorem xH{t:T}{f:Str->Prop}(h:onStr t f):∃k,t=.str k/\f k:=by unfold onStr at h;split at h;exact⟨_,rfl,h⟩;exact h.elim
noncomputable def ZZ(l:List (Str×T))(fe fc:FE):FP:=λρ Q=>fe ρ λy=>fc ρ λz=>onStr y λk=>Q (.vw ((z8 l k).getD z))
theorem Gz(hg:Gl X x)(hm:X.mg x=some (.ref a))(d:qr X.w X.K a l)(he:VR X Z e fe)(hc:VE X Z c fc)(m:M2 X (.Name x p) "get" apos e c aZ)(hd:ie x:=by decide) :
  VP X Z (.Call (.Attribute (.Name x p) "get" apos) [e,c] [] aZ) (ZZ l fe fc):=.mk λtm pins s σ H Q I ⟨ρ,O,q,E,hf,k⟩=>by
 refine wpAny_Call_method m.base m.ZX m.line TQ M' PySem.F.type_dict_get (bZ (uq hg hm (v:=.ref a) rfl hd pins s σ H (λv H'=>v=.ref a/\H'=H) I ⟨rfl,rfl⟩) λu s1 ⟨x',H1,I1,rx,ex,eH⟩=>?_);subst ex eH;obtain rfl:u=Value.ref a:=rx;obtain⟨vs,us,h1,h2,dd,hs⟩:=d.of I1;refine⟨dd.typeIs,λb q=>?_,?_⟩;cases q;obtain⟨ob,_,_,z1,z2,_⟩:=dd;exact⟨ob,z1,z2.2.1⟩;rw[m.trees];refine TR rfl (XA (OC (bZ (he tm pins s1 σ H1 (λy H2=>∃t,jg X.K H2 (av Z O) t y/\aY H1 H2/\fc ρ λz=>onStr t λk=>q (.vw ((z8 l k).getD z))) I1 ⟨ρ,O,_,E,hf,λt ht v H' s a1=>⟨t,a1,s,ht⟩⟩) λiv s2 ⟨y,H2,I2,ry,t,a1,sa,q2⟩ =>
  OC (bZ (hc tm pins s2 σ H2 (λz H3=>∃tz,At X.K H3 (av Z O) tz z/\aY H2 H3/\onStr t λk=>q (.vw ((z8 l k).getD tz))) I2 ⟨ρ,O,_,E.same sa,q2,λtz htz v H' s a2=>⟨tz,a2,s,htz⟩⟩) λfv s3 ⟨z,H3,I3,rz,tz,a2,sb,q3⟩=>Calls.spliced_nil ?_))))
 obtain⟨kk,et,q3⟩:=xH q3;subst et;obtain⟨jr,Qu,BI,Ga,Dw,X3⟩:=d.of I3;have ey:=a1.str;subst ey;refine call_meetsIn M' Dw.typeIs TV (TN _ _ _) (meets_dict_get_default (aX X.prog X.w) a (ot (k:=Sum.inr kk) ry) X3 fv) ⟨_,Dw.mapOf,⟨_,H3,I3.tok _,(Ga.val (Sum.inr kk)).getD rz,?_⟩⟩;rw[fM];exact k _ q3 _ H3 (sa.trans sb) ⟨(E.same sa).same sb,BU (BI H3 (av Z O)) a2⟩
end
abbrev FPs:=En->(List (Key×T)->Prop)->Prop
section
theorem K0:Nv X "dict.setdefault" (λx xs H Q=>∃(a:Addr)(a_:List (Key×V))(k:Key)(v:V),x=.ref a/\xs=[kV k,v]/\H a=some (.dK a_)/\a_.length<sizeLine /\
  (∀u,jv a_ k=some u->Q u H)/\(jv a_ k=none->Q v (upd H a (.dK (L2.putK a_ k v))))):=by
 intro pins s σ H x xs v us Q I rx rs h;obtain⟨a,a_,k,y,rfl,rfl,ha,hsz,q1,q2⟩:=h;cases rx;obtain⟨u1,u2,rfl,ru1,ru2⟩:∃u1 u2,us=[u1,u2]/\RelV (kV k) u1/\RelV y u2:=by
  cases rs with
  |cons r1 t=>cases t with
    |cons r2 t2=>cases t2;exact⟨_,_,rfl,r1,r2⟩
 obtain⟨z,hd,vs,rel,dd⟩:=BO I.cn ha;refine call_meetsIn PySem.F.slot_dict_setdefault dd.typeIs PySem.F.entry_dict_setdefault (PySem.F.args_dict_setdefault_3 _ _ _) (kt_meets_setdefault (aX X.prog X.w) a (ot ru1) hd u2) ⟨vs,dd,by rw[<- rel.length];omega,λv0 hv=>?_,λhn h' Dw hs=>?_⟩;have Fe:=rel.val k;rw[hv] at Fe;cases e:jv a_ k with
 |none=>rw[e] at Fe;cases Fe
 |some w0=>rw[e] at Fe;have hr:RelV w0 v0:=Fe;exact⟨w0,H,I.tok _,hr,q1 w0 e⟩
 have Fe:=rel.val k;rw[hn] at Fe;cases e:jv a_ k with
 |some w0=>rw[e] at Fe;cases Fe
 |none=>
   have he:∃q,h'.get? a=some q:=let ⟨q,_,_,hq,_⟩:=Dw;⟨q,hq⟩;have hl:(L2.putK a_ k y).length<=sizeLine:=by have:=jw a_ k y;omega
   exact⟨y,_,o_ (t':=s.toks+1) I (by rw[ha];exact True.intro) hs he (Gw hl hd (rel.put k ru2) Dw),ru2,q2 e⟩
end
section
variable{e1 e2:Expr}{f1 f2:FE}
noncomputable def NS(n:Nat)(f1 f2:FE):FX:=λρ Q=>match ρ[n]? with
 |some (some (.dk ks ts,true))=>f1 ρ λx=>f2 ρ λy=>match xD x with
  |some k=>ts.length<16777216/\match c5 ks ts k with
   |some t=>Q ρ (.vw t)
   |none=>Q (ρ.set n (some (.dk (ks++[k]) (ts++[y]),true))) (.vw y)
  |none=>False
 |_=>False
theorem K1(n:Nat)(h1:VE X Z e1 f1)(h2:VE X Z e2 f2)(hN:X.N[n]?=some x:=by rfl)(hv:kF X.env.scope x:=by first|exact Or.inl rfl|exact Or.inr (Or.inl rfl)|exact Or.inr (Or.inr rfl))(hd:ie x:=by decide)(gn:uj x:=by decide)(c8:attributeBase (.Name x p) "setdefault" X.env (eval (.Name x p) X.env)=eval (.Name x p) X.env:=by rfl)(kH:((backTo aZ (starEach [e1,e2] X.env)).all (λx=>!x.1) && (backToKw aZ (keywordEach [] X.env)).all (λx=>x.1.isSome)
    && decide (([e1,e2]:qap).length+([]:List Keyword).length+(if ([]:List Keyword).isEmpty then 0 else 1)<30))=true:=by rfl)(c9:(apos.endLine==aZ.line)=true:=by rfl)(hs:starEach [e1,e2] X.env=(false,eval e1 X.env)::starEach [e2] X.env:=by rfl)(CQ:starEach [e2] X.env=(false,eval e2 X.env)::starEach [] X.env:=by rfl)(dX:(backTo aZ (starEach [e2] X.env)).any (·.1)=false:=by rfl) :
  VX X Z (.Call (.Attribute (.Name x p) "setdefault" apos) [e1,e2] [] aZ) (NS n f1 f2):=.mk λtm=>
 PE.weak (pK TQ PySem.F.slot_dict_setdefault PySem.F.type_dict_setdefault K0 (bV hN hv hd gn) (bD (h1 tm) (bD (h2 tm) cX CQ) hs) c8 kH c9 hs dX) λσ H Q ⟨ρ,O,q,I,hf,kk⟩=>by
  unfold NS at hf;split at hf
  rename_i ks ts e0
  obtain⟨l,g1,g2,xs,hl,g3,g4⟩:=I.root e0;have ha:l∈av Z O:=cw _ (aN.mpr (gH g1));refine⟨.ref l,g2,.inr (.inr (.inl ⟨rfl,.inl ⟨_,g3⟩⟩)),ρ,O,_,I,hf,λt ht v H1 s1 a1=>⟨ρ,O,_,I.same s1,ht,λy hy w H2 s2 a2=>?_⟩⟩;split at hy
  rename_i Td ek
  obtain⟨hlen,hy⟩:=hy;have ev:v=kV Td:=mi (.inl a1) ek;subst ev;have hz:(ks.zip xs).length<sizeLine:=by rw[sizeLine_eq,OH,hl,Ni,g4.length];omega
  have J:=(I.same s1).same s2;have b4:=(g4.same s1).same s2;refine⟨l,ks.zip xs,Td,w,rfl,rfl,s2 _ _ (s1 _ _ g3),hz,λu hu=>?_,λhn=>?_⟩;rw[fM] at hu;cases eg:c5 ks ts Td with
  |none=>rw[(gU b4).2 eg] at hu;cases hu
  |some t0=>rw[eg] at hy;obtain⟨v0,e1,e2⟩:=(gU b4).1 t0 eg;rw[e1] at hu;cases hu;exact kk _ _ hy O _ _ ⟨J,e2⟩
  rw[fM] at hn;cases eg:c5 ks ts Td with
  |some t0=>obtain⟨v0,e1,e2⟩:=(gU b4).1 t0 eg;rw[e1] at hn;cases hn
  |none=>
    rw[eg] at hy;have e1:L2.putK (ks.zip xs) Td w=(ks++[Td]).zip (xs++[w]):=by rw[Gv _ (by rw[fM];exact hn),List.zip_append hl];rfl
    rw[e1];refine kk _ _ hy O _ _ ⟨J.wrote e0 g1 ⟨xs++[w],by simp[hl],aI,?_⟩,a2.wrote ha (s2 _ _ (s1 _ _ g3)) rfl⟩;exact (b4.append (aB.cons a2 aB.nil)).wrote ha (s2 _ _ (s1 _ _ g3)) rfl
  exact hy.elim;exact hf.elim
end
noncomputable def qt{α:Type}(f:Str):qai->List α->Option α
 |n::ns,t::ts=>match f==n with
  |true=>some t
  |false=>qt f ns ts
 |_,_=>none
noncomputable def DA(f:Str):qai->qai
 |[]=>[f]
 |n::ns=>if n=f then n::ns else n::DA f ns
noncomputable def oS{α:Type}(f:Str)(u:α):qai->List α->List α
 |n::ns,t::ts=>if n=f then u::ts else t::oS f u ns ts
 |_,_=>[u]
theorem qu(f:Str):∀(ns:qai)(vs:qak),(ns.zip vs).lookup f=qt f ns vs
 |[],vs=>by cases vs<;>rfl
 |n::ns,[]=>rfl
 |n::ns,v::vs=>by
  rw[JB,Jh];unfold qt;cases f==n with
  |true=>rfl
  |false=>exact qu f ns vs
theorem xI(f:Str)(y:V):∀(ns:qai)(vs:qak),ns.length=vs.length->dJ f y (ns.zip vs)=(DA f ns).zip (oS f y ns vs)/\(DA f ns).length=(oS f y ns vs).length
 |[],[],_=>⟨rfl,rfl⟩
 |[],v::vs,h=>by simp at h
 |n::ns,[],h=>by simp at h
 |n::ns,v::vs,h=>by have ih:=xI f y ns vs (by simpa using h);rw[JB];show (if n=f then (n,y)::ns.zip vs else (n,v)::dJ f y (ns.zip vs))=_/\_;unfold DA oS;by_cases e:n=f;rw[if_pos e,if_pos e,if_pos e];exact⟨rfl,by simpa using h⟩;rw[if_neg e,if_neg e,if_neg e,ih.1];exact⟨rfl,by simp[ih.2]⟩
section
variable{A:qah}{f:Str}
theorem xJ:∀{ns:qai}{ts:qaj}{vs:qak}{t:T},aB K H A ts vs->qt f ns ts=some t->∃v,qt f ns vs=some v/\At K H A t v
 |[],ts,vs,t,_,e=>by cases ts<;>cases e
 |n::ns,[],vs,t,_,e=>by cases e
 |n::ns,t0::ts,vs,t,h,e=>by
  simp only[aB] at h;obtain⟨v,r,rfl,h1,h2⟩:=h;unfold qt at e ⊢;cases q:f==n with
  |true=>rw[q] at e;cases e;exact⟨v,rfl,h1⟩
  |false=>rw[q] at e;exact xJ h2 e
theorem BV:∀{ns:qai}{ts:qaj}{vs:qak}{t:T}{v:V},aB K H A ts vs->At K H A t v->aB K H A (oS f t ns ts) (oS f v ns vs)
 |[],ts,vs,t,v,_,q=>by
  have e1:oS f t [] ts=[t]:=by cases ts<;>rfl
  have e2:oS f v [] vs=[v]:=by cases vs<;>rfl
  rw[e1,e2];exact aB.cons q aB.nil
 |n::ns,[],vs,t,v,h,q=>by simp only[aB] at h;subst h;exact aB.cons q aB.nil
 |n::ns,t0::ts,vs,t,v,h,q=>by simp only[aB] at h;obtain⟨v0,r,rfl,h1,h2⟩:=h;unfold oS;by_cases e:n=f;rw[if_pos e,if_pos e];exact aB.cons q h2;rw[if_neg e,if_neg e];exact aB.cons h1 (BV h2 q)
end
section
variable{f:Str}{pos:Pos}
noncomputable def Z0(C:Addr)(f:Str)(fe:FE):FP:=λρ Q=>fe ρ λt=>match t with
 |.ins C' ns ts=>C'=C/\∃u,qt f ns ts=some u/\Q (.vw u)
 |_=>False
theorem a4(cl:zC X.K C)(na:bp X.K C f)(h:VR X Z e fe)(hb:attributeBase e f X.env (eval e X.env)=eval e X.env:=by rfl):VP X Z (.Attribute e f pos) (Z0 C f fe):=.mk λtm=>
 PE.weak (zF (h tm) hb) λσ H Q ⟨ρ,O,q,I,hf,k⟩=>⟨ρ,O,_,I,hf,λt ht v H1 s1 a1=>by
  split at ht
  rename_i C' ns ts
  obtain⟨rfl,u,e1,hq⟩:=ht;obtain⟨a,dx,vs,rfl,hl,hd,hv⟩:=a1.ins;obtain⟨w,e2,e3⟩:=xJ hv e1;exact⟨a,_,dx,_,w,rfl,hd,cl,na,by rw[qu];exact e2,k _ hq _ H1 s1 ⟨I.same s1,e3⟩⟩;exact ht.elim⟩
noncomputable def z9(n:Nat)(C:Addr)(f:Str)(fe:FE):FS:=λd ρ=>match ρ[n]? with
 |some (some (.ins C' ns ts,true))=>C'=C/\fe ρ λv=>ts.length<1000/\d.nx (ρ.set n (some (.ins C' (DA f ns) (oS f v ns ts),true)))
 |_=>False
theorem iN(n:Nat)(cl:zC X.K C)(na:bp X.K C f)(he:VE X Z e fe)(hN:X.N[n]?=some x:=by rfl)(hv:kF X.env.scope x:=by first|exact Or.inl rfl|exact Or.inr (Or.inl rfl)|exact Or.inr (Or.inr rfl))(hd:ie x:=by decide)(gn:uj x:=by decide)(hs:swapsWith e (some (.Attribute (.Name x p) f fP)) pos.line X.env=pure false:=by rfl) :
  VS X Z (.Assign [.Attribute (.Name x p) f fP] e pos) (z9 n C f fe):=.mk λtm=>
 PS.weak (gp (bV hN hv hd gn) (he tm) hs) λD σ H ⟨ρ,O,d,I,q,F⟩=>by
  unfold z9 at q;split at q
  rename_i C' ns ts e0
  obtain⟨rfl,q⟩:=q;obtain⟨l,h1,h2,dx,xs,hl,h3,h4⟩:=I.root e0;have ha:l∈av Z O:=cw _ (aN.mpr (gH h1));refine⟨ρ,O,_,I,q,λt ht v H1 s1 a1=>⟨.ref l,h2,l,_,dx,_,rfl,s1 _ _ h3,cl,na,?_,?_⟩⟩;rw[OH,hl,Ni,h4.length];exact ht.1;have pz:=xI f v ns xs hl;rw[pz.1];refine F.nx O _ σ _ ((I.same s1).wrote (t':=.ins _ (DA f ns) (oS f t ns ts)) e0 h1 ⟨dx,oS f v ns xs,pz.2,aI,?_⟩) ht.2;exact aB.wrote ha (s1 _ _ h3) rfl (BV (h4.same s1) a1);exact q.elim
def NT(K:qaf)(C:Addr)(n:Nat)(G:qaj->(T->Prop)->Prop):Sp:=zY K (true::List.replicate n false) λts q=>match ts with
 |.ins C' [] []::us=>C'=C/\G us λu=>q [u] (.vw .aQ)
 |_=>False
theorem BW{G:qaj->(T->Prop)->Prop}{tm:qab}{ts:qaj}{q:qam}{Q:VK}(I:ay X.K Z tm O ρ σ H)(a:aB X.K H (av Z O) ts vs)(hn:ts.length=n)(hG:G ts λu=>q (.fr u))(k:∀r,q r->∀v H',aY H H'->gM X.K Z tm O ρ σ H' r v->Q v H'):∀x dx,H x=none->H dx=none->dx≠x->NT X.K C n G (.ref x::(vs++[])) (upd (upd H dx (.own x)) x (.ins C dx [])) (λv H2=>v=.aQ/\Q (.ref x) H2) E0:=by
 intro x dx hx hdx gK;rw[CC];obtain⟨n1,n2,n3⟩:=I.fresh hx;have s0:aY H (upd (upd H dx (.own x)) x (.ins C dx [])):=λb o e=>by rw[aE (bo e hx),aE (bo e hdx)];exact e
 have a1:aB X.K (upd (upd H dx (.own x)) x (.ins C dx [])) ([x]++av Z O) ts vs:=(a.more λb hb=>by
  rcases cN.mp hb with z|z
  exact .inr (by rw[jh.mp z];exact hx);exact .inl z).same s0
 refine⟨.ins C [] []::ts,[x],av Z O,λus r=>r=.vw .aQ/\∃u,us=[u]/\q (.fr u),by simp,λb hb=>by rw[jh.mp hb];exact n1,λb hb=>?_,⟨x,[],_,ts,vs,rfl,rfl,rfl,⟨dx,[],rfl,aI,aB.nil⟩,iM hn a1⟩,⟨rfl,?_⟩,λus r hr v H' fr z=>?_⟩;cases e:H b with
 |none=>exact absurd e (I.zj b hb)
 |some o=>rw[s0 _ _ e];simp
 have w:(λu=>q (.fr u))=λu=>((.vw .aQ:Rt)=.vw .aQ/\∃u',[u]=[u']/\q (.fr u')):=by funext u;exact propext ⟨λh=>⟨rfl,u,rfl,h⟩,λ⟨_,u',e,h⟩=>by cases e;exact h⟩
 rw[<- w];exact hG;obtain⟨rfl,u,rfl,hq⟩:=hr;obtain⟨z1,z2⟩:=z;simp only[At] at z1;refine⟨z1,?_⟩;cases z2 with
 |cons r _=>
  have s:aY H H':=λb o e=>fr b o (s0 b o e) (by rw[jh];exact bo e hx);obtain⟨o,eo,_⟩:=r.mut;refine k _ hq _ H' s ⟨x,rfl,I.NI hx s eo,r.a8 λc hc=>?_,n3,n2⟩;rcases dz c hc with z|z
  exact bU _ z;rw[z];exact cw _ dw
end
structure Dc(K:qaf)(mg:qae)(cls qual:Str)(st:Stmt)(ps:qai)(C f:Addr)(fd:FuncData):Prop where
 F:Bw K "__init__" qual st f fd
 m:mg cls=some (.ref C)
 b:Binds K fd ps []
 M:Mk K C f
def GA(P:Program)(w:World)(K:qaf)(mg:qae)(base:Heap)(cls:Str)(C:Addr)(ps:qai)(k n:Nat)(G:qaj->(T->Prop)->Prop):Prop :=
 ∃f fd,Mk K C f/\mg cls=some (.ref C)/\Binds K fd ps []/\cA P w K mg base eV k f fd ps (NT K C n G)
section
theorem Dc.gx{cls:Str}{st:Stmt}{k:Nat}{G:qaj->(T->Prop)->Prop}(D:Dc K mg cls qual st ps C f fd)(F:cA P w K mg base eV k f fd ps (NT K C n G)):GA P w K mg base cls C ps k n G :=
 ⟨f,fd,D.M,D.m,D.b,F⟩
theorem fnI{st:Stmt}{N:qai}{k:Nat}{G:qaj->(T->Prop)->Prop}(F:Bw K x qual st f fd)(S:az N ps (ah st))(hn:n+1=ps.length)(dN:∀(bA:Value) (A:Around) (outer:List Env) (s:Shared) (H:Hp) (E:XK) (as Ox:qah),bz k (A.deeper (envOfC qual (ah st) s.heap.objs.size f bA))->∀(us:qaj) (q:qaj->qam),us.length=n->G us (λu=>q [u] (.vw .aQ)) ->
    ∃g,lF (gh eV P w K mg base N qual (ah st) f bA A outer s H E).pB ⟨H,pz (true::List.replicate n false) as 0,Ox⟩ (bK st) g /\
     g {nx:=λρ=>q (md (true::List.replicate n false) ρ) (.vw .aQ),rt:=λρ r=>q (md (true::List.replicate n false) ρ) r} (some (.ins C [] [],true)::xn (List.replicate n false) us++List.replicate (N.length-(us.length+1)) none)) :
  cA P w K mg base eV (k+1) f fd ps (NT K C n G) :=
 ZQ F S (by rw[<- hn];simp) λbA A outer s H E as Ox hr ts q hl hG=>by
  cases ts with
  |nil=>exact hG.elim
  |cons t us=>cases t with
    |ins C' ns vs=>cases ns with
      |nil=>cases vs with
        |nil=>obtain⟨e,hG'⟩:=hG;subst e;exact dN bA A outer s H E as Ox hr us q (by simpa using hl) hG'
        |cons _ _=>exact hG.elim
      |cons _ _=>exact hG.elim
    |_=>exact hG.elim
end
def BX(a d:Addr):HO:=.ext λh=>h.get? a=some {cls:=.type "dict_values",data:=.fields #[.ref d]}
theorem xK(val:Nat->Int):∀k,∃j≤k,argBest (λi j=>decide (val i<val j)) k=j/\∀i≤k,val j<=val i
 |0=>⟨0,c3 _,rfl,λi hi=>by rw[Nat.le_zero.mp hi];exact Int.le_refl _⟩
 |k+1=>by
  obtain⟨j,hj,e,h⟩:=xK val k;unfold argBest;rw[e];by_cases q:val (k+1)<val j;rw[if_pos (decide_eq_true q)];refine⟨k+1,c3 _,rfl,λi hi=>?_⟩;rcases Nat.lt_or_eq_of_le hi with l|l
  exact Int.le_trans (Int.le_of_lt q) (h i (Nat.le_of_lt_succ l));rw[l];exact Int.le_refl _;rw[if_neg (by rw[decide_eq_true_eq];exact q)];refine⟨j,Nat.le_succ_of_le hj,rfl,λi hi=>?_⟩;rcases Nat.lt_or_eq_of_le hi with l|l
  exact h i (Nat.le_of_lt_succ l);rw[l];exact Int.not_lt.mp q
section
theorem DB:Nv X "dict.values" (λx xs H Q=>∃(d:Addr)(a_:List (Key×V)),x=.ref d/\xs=[]/\H d=some (.dK a_)/\∀a,H a=none->Q (.ref a) (upd H a (BX a d))):=by intro pins s σ H x xs v us Q I rx rs h;obtain⟨d,a_,rfl,rfl,hd,q⟩:=h;cases rx;cases rs;obtain⟨z,hs,vs,rel,dd⟩:=BO I.cn hd;refine call_meetsIn PySem.F.slot_dict_values dd.typeIs PySem.F.entry_dict_values (PySem.F.args_dict_values_1 _) (meets_dict_values (aX X.prog X.w) d hs) ⟨⟨vs,dd⟩,?_⟩;refine⟨.ref s.heap.objs.size,_,I.laid (a:=s.heap.objs.size) (t':=s.toks) (λb o e=>mV _ e) (c3 _) ?_,rfl,q _ I.fresh⟩;exact⟨sR _ rfl,⟨_,sR _ rfl⟩,λh1 h2 z k=>k _ z⟩
theorem uW(hc:X.calm=true):eX X (.builtin "min") (λxs H Q=>∃(a d:Addr)(a_:List (Key×V))(is:qan),xs=[.ref a]/\H a=some (BX a d)/\H d=some (.dK a_)/\a_.map (·.2)=is.map V.int/\is≠[]/\∀m,m∈is->(∀i∈is,m<=i)->Q (.int m) H):=by
 intro pins s σ H xs us Q I r h;obtain⟨a,d,a_,is,rfl,ha,hd,hv,gK,q⟩:=h;obtain⟨u,rfl,ru⟩:=vals1 r;cases ru;obtain⟨z,hs,vs,rel,dd⟩:=BO I.cn hd;obtain⟨hA,_,_⟩:=(show cy X.prog X.w H s.heap a (BX a d) from I.cn a _ ha);obtain⟨ep,da⟩:=dd.dictAt;have hh:X.A.in1.handled=none:=by simp[I.ok.hd hc]
 have hlen:vs.length=is.length:=by have:=congrArg List.length hv;rw[cV,cV] at this;rw[<- rel.length];exact this
 have VF:∀(i:Nat)(v:Value),(∃k,vs[i]?=some (k,v))->∃t,v=.int (is.getD i 0) t:=by
  intro i v ⟨k,e⟩;have hi:i<vs.length:=(dS.mp e).1;have X4:i<a_.length:=by rw[rel.length];exact hi
  have e1:a_[i]?=some a_[i]:=by simp[X4]
  have key:∀{l₁:List (Key×V)}{l₂:List (Key×Value)}{i:Nat}{p:Key×V}{q:Key×Value},KV l₁ l₂->l₁[i]?=some p->l₂[i]?=some q->RelV p.2 q.2:=by
   intro l₁ l₂ i p q h;unfold KV at h;induction h generalizing i with
   |nil=>intro e;simp at e
   |cons r t ih=>
    intro e e';cases i with
    |zero=>simp at e e';subst e;subst e';exact r.2
    |succ i=>exact ih (by simpa using e) (by simpa using e')
  have rr:=key rel e1 e;have e2:(a_.map (·.2))[i]?=some a_[i].2:=by rw[gJ,e1];rfl
  rw[hv,gJ] at e2;cases q2:is[i]? with
  |none=>rw[q2] at e2;cases e2
  |some m=>rw[q2] at e2;have e3:a_[i].2=V.int m:=(Option.some.inj e2).symm;rw[e3] at rr;obtain⟨t,et⟩:=rr;exact⟨t,by rw[Yw,q2];exact et⟩
 have hn0:0<vs.length:=by rw[hlen];exact SU.mpr gK
 refine call_min_walk (wpAny_pyIter_values ⟨_,hA,rfl,rfl⟩ da ?_);refine⟨_,_,_,_,_,_,_,rfl,Walks.dictValues hh _ d (nY da.lt_size) vs ep,⟨⟨_,sR _ rfl,rfl,rfl⟩,da.push _⟩,λb hb=>?_,hn0,CmpOf.ints_lt (λi=>is.getD i 0) VF,λv h' tk hP hk=>?_⟩;show b<(s.heap.push _).objs.size;rw[T6];rcases cT.mp hb with rfl|hb
 exact EM _;rw[jh.mp hb];exact OE da.lt_size;obtain⟨j,hj,e,hm⟩:=xK (λi=>is.getD i 0) (vs.length-1);rw[e] at hP;obtain⟨t,rfl⟩:=VF j v hP;have Qv:j<is.length:=by omega
 refine⟨.int (is.getD j 0),H,I.kept (t':=tk) λb u eb=>hk b u (λz=>?_) (mV _ eb),⟨t,rfl⟩,q _ ?_ λi hi=>?_⟩;rw[jh.mp z] at eb;exact absurd (iY eb) (JE _);rw[Yw,kD Qv];exact SV Qv;obtain⟨n,hn⟩:=M9.mp hi;have hnl:n<is.length:=(dS.mp hn).1;have:=hm n (by omega);have e5:is.getD n 0=i:=by rw[Yw,hn];rfl
 rw[e5] at this;exact this
end
section
variable{a:Expr}{Dz xG:Pos}
def VH(fa:FE):FP:=λρ Q=>fa ρ λx=>match x with
 |.dk ks ts=>∃is,ts=is.map T.int/\is≠[]/\∀m,m∈is->(∀i∈is,m<=i)->Q (.vw (.int m))
 |_=>False
theorem z_(hc:X.calm=true)(Z1:Gl X "min")(hml:X.mg "min"=none)(ha:VR X Z a fa)(c8:attributeBase a "values" X.env (eval a X.env)=eval a X.env:=by rfl)(c9:(apos.endLine==xG.line)=true:=by rfl)(he:starEach [.Call (.Attribute a "values" apos) [] [] xG] X.env=(false,eval (.Call (.Attribute a "values" apos) [] [] xG) X.env)::starEach [] X.env:=by rfl)(ic:(backTo Dz (starEach [] X.env)).any (·.1)=false:=by rfl) :
  VP X Z (.Call (.Name "min" p1) [.Call (.Attribute a "values" apos) [] [] xG] [] Dz) (VH fa):=.mk λtm=>
 PE.weak (pG (uW hc) Z1 hml Vs (bD (zQ TQ PySem.F.slot_dict_values PySem.F.type_dict_values DB (ha tm) c8 c9) cX he) (by decide) (by decide) he ic) λσ H Q ⟨ρ,O,q,I,hf,k⟩ =>
  ⟨ρ,O,_,I,hf,λx hx v H1 s1 a1=>by
    split at hx
    rename_i ks ts
    obtain⟨is,rfl,gK,hq⟩:=hx;obtain⟨d,vs,rfl,hl,hd,hv⟩:=a1.dk;refine⟨.inr (.inr (.inl ⟨rfl,.inl ⟨_,hd⟩⟩)),d,_,rfl,rfl,hd,λb hb=>?_⟩;have sb:aY H1 (upd H1 b (BX b d)):=aK hb;have ev:vs=is.map V.int:=by
     clear hq gK hl hd a1;induction is generalizing vs with
     |nil=>simpa only[JF,aB] using hv
     |cons i is ih=>simp only[gR,aB,At] at hv;obtain⟨v,r,rfl,rfl,h2⟩:=hv;rw[ih r h2];rfl
    subst ev;refine⟨b,d,_,is,rfl,aI,sb _ _ hd,?_,gK,λm h1 h2=>k _ (hq m h1 h2) _ _ (s1.trans sb) ⟨(I.same s1).same sb,bC⟩⟩;rw[List.map_snd_zip];rw[hl];exact c3 _;exact hx.elim⟩
end
structure GB(K:qaf)(H H':Hp)(Ox:qah)(us:qaj)(p:Addr)(ls:qah):Prop where
 same:aY H H'
 tup:H' p=some (.tup (ls.map V.ref))
 nd:ls.Nodup
 new:∀a∈ls,H a=none
 rts:Paired (λa t=>cQ K H' (ls++Ox) a t) ls us
def VJ(K:qaf)(n:Nat)(G:qaj->(qaj->Prop)->Prop):Sp:=λvs H Q _=>∃ts Ox q,(∀a∈Ox,H a≠none)/\aB K H Ox ts vs/\ts.length=n/\G ts q /\
 ∀us,q us->∀p ls H',GB K H H' Ox us p ls->Q (.ref p) H'
structure Z2(K:qaf)(Z:Zc)(tm:qab)(d:FZ)(dp:qaj->Prop)(D:Ends):Prop where
 fin:Fin K Z tm d D
 dp:∀us,dp us->∀p ls H',GB K Z.H0 H' Z.Ox us p ls->D.rt (.ref p) H'
abbrev Qw:=FZ->(qaj->Prop)->En->Prop
def lSD(X:Cx)(Z:Zc)(tm:qab)(g:Qw):TS:=λD σ H=>∃ρ O d dp,ay X.K Z tm O ρ σ H/\g d dp ρ/\Z2 X.K Z tm d dp D
def GC(X:Cx)(Z:Zc)(st:qaq)(g:Qw):Prop:=Bx λtm=>iZ X st (lSD X Z tm g)
instance{X:Cx}{Z:Zc}{st:qaq}{g:Qw}:CoeFun (GC X Z st g) λ_=>∀tm,iZ X st (lSD X Z tm g):=⟨λh=>Bx.h h⟩
noncomputable def K2(ρ:En):qao->Option (qaj)
 |[]=>some []
 |i::is=>match ρ[i]?,K2 ρ is with
  |some (some (t,true)),some ts=>some (t::ts)
  |_,_=>none
section
variable{st:Stmt}{rest:qaq}{g:FS}{u:Qw}{pos:Pos}
def VL(g:FS)(u:Qw):Qw:=λd dp ρ=>g {d with nx:=u d dp} ρ
theorem il(h1:VS X Z st g)(h2:GC X Z rest u):GC X Z (st::rest) (VL g u):=.mk λtm=>iZ.i5 (cP (h1 tm) (h2 tm)) λD σ H ⟨ρ,O,d,dp,I,h,F⟩ =>
 ⟨ρ,O,{d with nx:=u d dp},I,h,⟨λO' ρ' σ' H' I' h'=>⟨ρ',O',d,dp,I',h',F⟩,F.fin.rt,F.fin.bk,F.fin.ct⟩⟩
def uX(X:Cx):qap->qao->Prop
 |[],is=>is=[]
 |e::es,is=>∃x p i js,e=.Name x p/\is=i::js/\X.N[i]?=some x/\kF X.env.scope x/\(x==("__debug__":Str))=false/\(x==("__classdict__":Str))=false/\starEach (e::es) X.env=(false,eval e X.env)::starEach es X.env/\uX X es js
def VM(is:qao):TA:=λσ H Q=>∃vs,Paired (λ(i:Nat) (v:V)=>σ[i]?=some (some v)) is vs/\Q vs H
theorem BY:∀{es:qap}{is:qao},uX X es is->PA X es (VM is)
 |[],is,h=>λpos pins s σ H Q I ⟨vs,hv,q⟩=>by have e:is=[]:=h;subst e;cases hv;exact cX pos pins s σ H Q I q
 |e::es,is,h=>by
  obtain⟨x,p,i,js,rfl,rfl,h1,h2,h3,h4,h5,h6⟩:=h;exact PA.weak (bD (bV h1 h2 h3 h4) (BY h6) h5) λσ H Q ⟨vs,hv,q⟩=>by
   cases hv with
   |cons r t=>exact⟨_,r,_,t,q⟩
theorem xM{K:qaf}{tm:qab}{O:HD}{ρ:En}{σ:St}{H:Hp}(I:ay K Z tm O ρ σ H):∀{is:qao}{ts:qaj},K2 ρ is=some ts ->
  ∃ls:qah,Paired (λ(i:Nat) (v:V)=>σ[i]?=some (some v)) is (ls.map V.ref)/\Paired (λ(i:Nat) (a:Addr)=>O[i]?=some (some a)) is ls/\Paired (λa t=>cQ K H (av Z O) a t) ls ts
 |[],ts,h=>by cases h;exact⟨[],.nil,.nil,.nil⟩
 |i::is,ts,h=>by
   simp only[K2] at h;split at h
   rename_i t us e1 e2
   cases h;obtain⟨a,h1,h2,h3⟩:=I.root e1;obtain⟨ls,g1,g2,g3⟩:=xM I e2;exact⟨a::ls,.cons h2 g1,.cons h1 g2,.cons h3 g3⟩;cases h
theorem hU{R:α->β->Prop}{l:List α}{m:List β}(h:Paired R l m){b:β}(hb:b∈m):∃a∈l,R a b:=by
 induction h with
 |nil=>cases hb
 |cons r t ih=>
  rcases cT.mp hb with e|hb
  subst e;exact⟨_,dw,r⟩;obtain⟨a,h1,h2⟩:=ih hb;exact⟨a,gG _ h1,h2⟩
theorem Aa{tm:qab}(I:ay K Z tm O ρ σ H){ls:qah}(nd:is.Nodup)(h:Paired (λ(i:Nat) (a:Addr)=>O[i]?=some (some a)) is ls):ls.Nodup:=by
 induction h with
 |nil=>exact JD
 |cons r t ih=>rw[lx] at nd ⊢;refine⟨λm=>?_,ih nd.2⟩;obtain⟨j,hj,e⟩:=hU t m;exact nd.1 (by rw[F9 I r e];exact hj)
noncomputable def NU(is:qao):Qw:=λ_ dp ρ=>match K2 ρ is with
 |some ts=>dp ts
 |none=>False
theorem K3{x1}(hP:Z.P=[])(hn:uX X es is)(nd:is.Nodup)(hl:is.length<=100):GC X Z [.Return (some (.Tuple es x1 p)) pos] (NU is):=.mk λtm=>
 j2 (PS.weak (ur (zI (BY hn))) λD σ H ⟨ρ,O,d,dp,I,h,F⟩=>by
  unfold NU at h;split at h
  rename_i ts e
  obtain⟨ls,g1,g2,g3⟩:=xM I e;refine⟨ls.map V.ref,g1,?_,λq hq=>F.dp ts h q ls _ ⟨?_,aI,Aa I nd g2,λa ha=>?_,?_⟩⟩;rw[cV,<- OI g2,sizeLine_eq];omega;intro b o eb;have:=I.keep b o eb (by rw[hP];exact λz=>nomatch z);rw[aE (bo this hq)];exact this;obtain⟨i,_,e⟩:=hU g2 ha;rcases (I.own a (aN.mpr (gH e))).1 with z|z
  rw[hP] at z;exact nomatch z;exact z;refine Paired.mZ g3 λa t r=>(r.same (aK hq)).a8 λb hb=>?_;rcases cN.mp hb with z|z
  obtain⟨i,_,e⟩:=hU g2 z;exact cw _ (aN.mpr (gH e));exact bU _ z;exact h.elim)
end
section
theorem dj(n:Nat):roots (List.replicate n none)=[]:=by
 unfold roots;induction n with
 |zero=>rfl
 |succ n ih=>rw[rQ,mW];exact ih
theorem j9{N:qai}{ts:qaj}(hN:ts.length<=N.length)(ox:∀a∈Ox,H a≠none)(h:aB K H Ox ts vs) :
  ay K ⟨H,[],Ox⟩ [] (List.replicate N.length none) (ts.map (λt=>some (t,false))++List.replicate (N.length-ts.length) none) (start N vs) H:=by
 have hl:=h.length;have ea:av ⟨H,[],Ox⟩ (List.replicate N.length none)=Ox:=by unfold av;rw[dj];rfl
 refine⟨?_,by simp;omega,λi e he=>?_,by rw[dj];exact JD,λa ha=>?_,λp hp=>(nomatch hp),ox,λb o e _=>e,λp hp=>(nomatch hp)⟩;unfold L2.start;simp[hl];rw[ea];by_cases hi:i<ts.length;rw[mY (by simpa using hi),gJ] at he;have e1:ts[i]?=some ts[i]:=by simp
 rw[e1] at he;cases he;obtain⟨v,h1,h2⟩:=h.get e1;refine⟨none,some v,by rw[CA,if_pos (by omega)],?_,rfl,v,rfl,h2⟩;unfold L2.start;rw[mY (by rw[cV];omega),gJ,h1];rfl;rw[oI (by simpa using hi),CA] at he;split at he
 rename_i j5
 cases he;rw[cV] at j5;refine⟨none,none,by rw[CA,if_pos (by omega)],?_,rfl⟩;unfold L2.start;rw[oI (by rw[cV];omega),CA,cV,if_pos (by omega)];cases he;rw[dj] at ha;exact nomatch ha
theorem fnD{st:Stmt}{N:qai}{k:Nat}{G:qaj->(qaj->Prop)->Prop}(F:Bw K x qual st f fd)(S:az N ps (ah st))(hn:n=ps.length)(hN:n<=N.length)(dN:∀(bA:Value) (A:Around) (outer:List Env) (s:Shared) (H:Hp) (E:XK) (Ox:qah),bz k (A.deeper (envOfC qual (ah st) s.heap.objs.size f bA))->∀ts q,G ts q ->
    ∃g,GC (gh eV P w K mg base N qual (ah st) f bA A outer s H E).pB ⟨H,[],Ox⟩ (bK st) g/\(ts.length=n->g {nx:=λ_=>False,rt:=λ_ _=>False} q (ts.map (λt=>some (t,false))++List.replicate (N.length-ts.length) none))) :
  cA P w K mg base eV (k+1) f fd ps (VJ K n G):=by
 refine F.ok S (λvs H Q E h=>?_) (λbA A outer s H vs Q E hr h=>?_);obtain⟨ts,Ox,q,_,ha,hl,_⟩:=h;rw[ha.length,hl,hn];obtain⟨ts,Ox,q,ox,ha,hl,hG,kk⟩:=h;obtain⟨g,hg,hq⟩:=dN bA A outer s H E Ox hr ts q hG;exact⟨_,hg [],_,_,_,q,j9 (by omega) ox ha,hq hl,⟨⟨λ_ _ _ _ _ h=>h.elim,λ_ _ _ _ _ _ _ h=>h.elim,λ_ _ _ _ _ h=>h.elim,λ_ _ _ _ _ h=>h.elim⟩,λus hu p ls H' D=>kk us hu p ls H' D⟩⟩
end
section
variable{k:Nat}{G:qaj->(qaj->Prop)->Prop}{pos:Pos}
noncomputable def lD(X:Cx)(Z:Zc)(tm:qab)(f:En->(qaj->Prop)->Prop):TE:=λσ H Q=>∃ρ O q,ay X.K Z tm O ρ σ H/\f ρ q/\∀us,q us->∀p ls H',GB X.K H H' (av Z O) us p ls->Q (.ref p) H'
def VD(X:Cx)(Z:Zc)(e:Expr)(f:En->(qaj->Prop)->Prop):Prop:=Bx λtm=>PE X e (lD X Z tm f)
instance{X:Cx}{Z:Zc}{e:Expr}{f:En->(qaj->Prop)->Prop}:CoeFun (VD X Z e f) λ_=>∀tm,PE X e (lD X Z tm f):=⟨λh=>Bx.h h⟩
def Qx(n:Nat)(g:FA)(G:qaj->(qaj->Prop)->Prop):En->(qaj->Prop)->Prop:=λρ Q=>g ρ λts=>ts.length=n/\G ts Q
theorem K4(F:cA X.prog X.w X.K X.mg X.base eV k f fd ps (VJ X.K n G))(hr:bz k X.A)(hg:Gl X x)(hm:X.mg x=some (.ref f))(hk:PySem.W.keepIn X.K (.ref f)=true)(hb:Binds X.K fd ps [])(ha:VA X Z (e::es) g)(m8:ie x:=by decide)(he:starEach (e::es) X.env=(false,eval e X.env)::starEach es X.env:=by rfl)(ic:(backTo pos (starEach es X.env)).any (·.1)=false:=by rfl) :
  VD X Z (.Call (.Name x p) (e::es) [] pos) (Qx n g G):=.mk λtm=>PE.weak (lU F hr hg hm hk hb .nil ko (ha tm) m8 he ic) λσ H Q ⟨ρ,O,q,I,hf,k⟩ =>
 ⟨ρ,O,_,I,hf,λts fR vs H1 s1 a1=>by
   show VJ X.K n G (vs++[]) H1 Q E0;rw[CC];refine⟨ts,av Z O,q,(I.same s1).zj,a1,fR.1,fR.2,λus hu p ls H' D=>k us hu p ls H' ⟨s1.trans D.same,D.tup,D.nd,λa ha=>?_,D.rts⟩⟩;cases z:H a with
   |none=>rfl
   |some o=>have:=D.new a ha;rw[s1 _ _ z] at this;cases this⟩
theorem GB.at{tm:qab}{us:qaj}{p:Addr}{ls:qah}(I:ay K Z tm O ρ σ H)(D:GB K H H' (av Z O) us p ls):At K H' (av Z O) (.tup us) (.ref p):=by
 refine cv (fg.of D.tup) (aB.iff.mpr ?_);have key:∀{X5:qah}{Qu:qaj},(∀a∈X5,a∈ls)->Paired (λa t=>cQ K H' (ls++av Z O) a t) X5 Qu->Paired (λv t=>At K H' (av Z O) t v) (X5.map V.ref) Qu:=by
  intro X5 Qu sub h;induction h with
  |nil=>exact .nil
  |cons r t ih=>refine .cons ((r.a8 λb hb=>bU _ hb).at λz=>?_) (ih λa ha=>sub a (gG _ ha));exact I.zj _ z (D.new _ (sub _ dw))
 exact key (λ_ h=>h) D.rts
def VN(f:En->(qaj->Prop)->Prop):FP:=λρ Q=>f ρ λus=>Q (.vw (.tup us))
theorem VD.vp{f:En->(qaj->Prop)->Prop}(h:VD X Z e f):VP X Z e (VN f):=.mk λtm=>PE.weak (h tm) λσ H Q ⟨ρ,O,q,I,hf,k⟩ =>
 ⟨ρ,O,_,I,hf,λus hu p ls H' D=>k _ hu _ H' D.same ⟨I.same D.same,D.at I⟩⟩
end
theorem ay.ou{tm:qab}(I:ay K Z tm O ρ σ H)(s:Option V)(hp:bN Z i):ay K Z tm (O.set i none) (ρ.set i none) (σ.set i s) H:=by
 have J:=I.forget hp;refine⟨by simp[I.lσ],J.lO,λj e h=>?_,J.nd,J.own,J.par,J.ox,J.keep,J.pS⟩;obtain⟨o,w,h1,h2,h3⟩:=J.sl j e h;rcases get_set h with⟨rfl,rfl,hl⟩|⟨ne,h'⟩
 exact⟨o,s,h1,by rw[Bf (by rw[I.lσ];exact hl)],h3⟩;exact⟨o,w,h1,by rw[rP (Ne.symm ne)];exact h2,h3⟩
noncomputable def Qy(X:Cx)(i:Nat)(y:Str):Cx:={X with N:=X.N.set i y}
theorem Qz(o:X.Ok):(Qy X i y).Ok :=
 ⟨o.mod,o.kind,o.glob,o.blt,o.above,o.inj,o.has,o.OR,o.hd,o.frames,o.S_,o.XI,o.bs,o.EO,o.zq,o.CM,o.lN,o.JI⟩
theorem GD(o:(Qy X i y).Ok):X.Ok :=
 ⟨o.mod,o.kind,o.glob,o.blt,o.above,o.inj,o.has,o.OR,o.hd,o.frames,o.S_,o.XI,o.bs,o.EO,o.zq,o.CM,o.lN,o.JI⟩
theorem K6{s:Shared}(i:Nat)(y:Str)(I:Inv X pins σ H s):Inv (Qy X i y) pins (σ.set i none) H s:=by
 obtain⟨m,hn,hl⟩:=I.loc;refine⟨Qz I.ok,I.os,I.bare,I.base,⟨m,hn,λj x v h1 h2 h3=>?_⟩,I.cell,I.free,I.ig,I.pin,I.cn,?_⟩;rcases get_set h2 with⟨_,e,_⟩|⟨ne,h2⟩
 cases e;have BI:(X.N.set i y)[j]?=some x:=h1;rw[rP (Ne.symm ne)] at BI;exact hl j x v BI h2 h3;show (σ.set i none).length=(X.N.set i y).length;rw[Ji,Ji];exact I.len
theorem j_{s:Shared}(I:Inv (Qy X i y) pins σ H s):Inv X pins (σ.set i none) H s:=by
 obtain⟨m,hn,hl⟩:=I.loc;refine⟨GD I.ok,I.os,I.bare,I.base,⟨m,hn,λj x v h1 h2 h3=>?_⟩,I.cell,I.free,I.ig,I.pin,I.cn,?_⟩;rcases get_set h2 with⟨_,e,_⟩|⟨ne,h2⟩
 cases e;refine hl j x v ?_ h2 h3;show (X.N.set i y)[j]?=some x;rw[rP (Ne.symm ne)];exact h1;have:=I.len;have e:(Qy X i y).N.length=X.N.length:=by show (X.N.set i y).length=_;rw[Ji]
 rw[Ji];omega
def GF(i:Nat)(d:FZ):FZ:={nx:=λρ=>d.nx (ρ.set i none),rt:=λρ r=>d.rt (ρ.set i none) r,bk:=λρ=>d.bk (ρ.set i none),ct:=λρ=>d.ct (ρ.set i none)}
def VQ(i:Nat)(g:FS):FS:=λd ρ=>g (GF i d) (ρ.set i none)
def GG(i:Nat)(D:Ends):Ends:={nx:=λσ H=>D.nx (σ.set i none) H,rt:=D.rt,bk:=λσ H=>D.bk (σ.set i none) H,ct:=λσ H=>D.ct (σ.set i none) H}
theorem gM.ou{tm:qab}{r:Rt}(s:Option V)(hp:bN Z i)(h:gM K Z tm O ρ σ H r v):gM K Z tm (O.set i none) (ρ.set i none) (σ.set i s) H r v:=by
 cases r with
 |vw t=>exact⟨h.1.ou s hp,h.2.a8 (cb i)⟩
 |fr t=>obtain⟨a,e,I,q,h0⟩:=h;exact⟨a,e,I.ou (Z:=Z.ex a) s hp,q.a8 (cb i),h0⟩
theorem GH{tm:qab}{d:FZ}{D:Ends}(hp:bN Z i)(F:Fin K Z tm d D):Fin K Z tm (GF i d) (GG i D) :=
 ⟨λO ρ σ H I h=>F.nx _ _ _ H (I.ou none hp) h,λO ρ σ H r v z h=>F.rt _ _ _ H r v (z.ou none hp) h,λO ρ σ H I h=>F.bk _ _ _ H (I.ou none hp) h,λO ρ σ H I h=>F.ct _ _ _ H (I.ou none hp) h⟩
section
variable{st:Stmt}{bP:qaq}{g:FS}
theorem K7{D:Ends}:∀{f:Flow}{s':Shared},SP (Qy X i y) pins (GG i D) f s'->SP X pins D f s'
 |.next,s',⟨σ',H',I,q⟩=>⟨σ'.set i none,H',j_ I,q⟩
 |.brk,s',⟨σ',H',I,q⟩=>⟨σ'.set i none,H',j_ I,q⟩
 |.cont,s',⟨σ',H',I,q⟩=>⟨σ'.set i none,H',j_ I,q⟩
 |.ret u,s',⟨v,σ',H',I,r,q⟩=>⟨v,σ'.set i none,H',j_ I,r,q⟩
theorem BZ(i:Nat)(y:Str)(hp:bN Z i)(h:VS (Qy X i y) Z st g):VS X Z st (VQ i g):=.mk λtm pins s σ H D I ⟨ρ,O,d,J,q,F⟩ =>
 bZ (h tm pins s (σ.set i none) H (GG i D) (K6 i y I) ⟨ρ.set i none,O.set i none,GF i d,J.ou none hp,q,GH hp F⟩) λf s' z=>K7 z
end
section
variable{fo:FE}
def K8(fo fe:FE):FP:=λρ Q=>fo ρ λx=>match x with
 |.str z=>fe ρ λy=>match y with
  |.str y=>Q (.vw (.bl (Txt.startswith z y)))
  |_=>False
 |_=>False
theorem DC(ho:VR X Z o fo)(he:VR X Z e fe)(c8:attributeBase o "startswith" X.env (eval o X.env)=eval o X.env:=by rfl)(kH:((backTo aZ (starEach [e] X.env)).all (λx=>!x.1) && (backToKw aZ (keywordEach [] X.env)).all (λx=>x.1.isSome)
    && decide (([e]:qap).length+([]:List Keyword).length+(if ([]:List Keyword).isEmpty then 0 else 1)<30))=true:=by rfl)(c9:(apos.endLine==aZ.line)=true:=by rfl)(hs:starEach [e] X.env=(false,eval e X.env)::starEach [] X.env:=by rfl)(dX:(backTo aZ (starEach [] X.env)).any (·.1)=false:=by rfl) :
  VP X Z (.Call (.Attribute o "startswith" apos) [e] [] aZ) (K8 fo fe):=.mk λtm=>
 PE.weak (pK PySem.F.plainAttrs_str PySem.F.slot_str_startswith PySem.F.type_str_startswith rV (ho tm) (bD (he tm) cX hs) c8 kH c9 hs dX) λσ H Q ⟨ρ,O,q,I,hf,k⟩ =>
  ⟨ρ,O,_,I,hf,λx hx v H1 s1 a1=>by
    split at hx
    rename_i z
    have ev:=a1.str;subst ev;refine⟨rfl,ρ,O,_,I.same s1,hx,λy hy w H2 s2 a2=>?_⟩;split at hy;have ew:=a2.str;subst ew;exact⟨z,_,rfl,rfl,k _ hy _ H2 (s1.trans s2) ⟨(I.same s1).same s2,eY⟩⟩;exact hy.elim;exact hx.elim⟩
end
section
variable{fo:FE}
def VU(fo:FE)(g:FA):FP:=λρ Q=>fo ρ λx=>match x with
 |.str z=>g ρ λy=>∃ys:qai,y=[.lst (ys.map .str)]/\(ys.map (·.length)).sum+ys.length * z.length<=16777216/\Q (.vw (.str (Txt.join z ys)))
 |_=>False
theorem xN{K:qaf}{H:Hp}{A:qah}:∀{ys:qai}{vs:qak},aB K H A (ys.map .str) vs->vs=ys.map V.str
 |[],vs,h=>by simpa only[JF,aB] using h
 |y::ys,vs,h=>by simp only[gR,aB,At] at h;obtain⟨v,r,rfl,rfl,h⟩:=h;rw[xN h];rfl
theorem tM(ho:VR X Z o fo)(he:PM X Z [e] g)(c8:attributeBase o "join" X.env (eval o X.env)=eval o X.env:=by rfl)(kH:((backTo aZ (starEach [e] X.env)).all (λx=>!x.1) && (backToKw aZ (keywordEach [] X.env)).all (λx=>x.1.isSome)
    && decide (([e]:qap).length+([]:List Keyword).length+(if ([]:List Keyword).isEmpty then 0 else 1)<30))=true:=by rfl)(c9:(apos.endLine==aZ.line)=true:=by rfl)(hs:starEach [e] X.env=(false,eval e X.env)::starEach [] X.env:=by rfl)(dX:(backTo aZ (starEach [] X.env)).any (·.1)=false:=by rfl) :
  VP X Z (.Call (.Attribute o "join" apos) [e] [] aZ) (VU fo g):=.mk λtm=>
 PE.weak (pK PySem.F.plainAttrs_str PySem.F.slot_str_join PySem.F.type_str_join Km (ho tm) (he tm) c8 kH c9 hs dX) λσ H Q ⟨ρ,O,q,I,hf,k⟩ =>
  ⟨ρ,O,_,I,hf,λx hx v H1 s1 a1=>by
    split at hx
    rename_i z
    have ev:=a1.str;subst ev;refine⟨rfl,ρ,O,_,I.same s1,hx,λy hy w H2 s2 a2=>?_⟩;obtain⟨ys,rfl,hl,hq⟩:=hy;obtain⟨u,rfl,a3⟩:=dW a2;obtain⟨p,vs,rfl,h1,h2⟩:=a3.lst;have ev:=xN h2;subst ev;exact⟨z,p,ys,rfl,rfl,h1,hl,k _ hq _ H2 (s1.trans s2) ⟨(I.same s1).same s2,c_⟩⟩;exact hx.elim⟩
end
inductive S where
 |lf (t:T)
 |lst (xs:List S)
 |dk (ks:List Key) (ts:qaj)
 |dc (nh:List Key×Key->Int) (ks:List (List Key×Key)) (ts:qaj)
 |ins (C:Addr) (ns:qai) (xs:List S)
mutual
noncomputable def S.t:S->T
 |.lf t=>t
 |.lst xs=>.lst (S.ts xs)
 |.dk ks ts=>.dk ks ts
 |.dc nh ks ts=>.dc nh ks ts
 |.ins C ns xs=>.ins C ns (S.ts xs)
noncomputable def S.ts:List S->qaj
 |[]=>[]
 |x::xs=>S.t x::S.ts xs
end
def QA:Key->T
 |.inl i=>.int i
 |.inr x=>.str x
def EV(c:List Key×Key):T:=.tup [.tup (c.1.map QA),QA c.2]
theorem uY{A:qah}(k:Key):At K H A (QA k) v↔v=kV k:=by cases k<;>simp only[QA,At,kV]
theorem pb{K:qaf}{H:Hp}{A:qah}:∀(ks:List Key){vs:qak},aB K H A (ks.map QA) vs↔vs=ks.map kV
 |[],vs=>by simp only[JF,aB]
 |k::ks,vs=>by simp only[gR,aB];constructor;rintro⟨v,r,rfl,h1,h2⟩;rw[(uY k).mp h1,(pb ks).mp h2];rintro rfl;exact⟨_,_,rfl,(uY k).mpr rfl,(pb ks).mpr rfl⟩
theorem uZ{A:qah}{c:List Key×Key}{b:Addr}:At K H A (EV c) (.ref b)↔oP K H c b:=by unfold EV oP;simp only[At,aB];constructor;rintro⟨a,vs,e,h1,v,r,rfl,⟨d,ws,rfl,h2,h3⟩,v2,r2,rfl,h4,rfl⟩;cases e;rw[(uY _).mp h4] at h1;rw[(pb _).mp h3] at h2;exact⟨d,h1,h2⟩;rintro⟨d,h1,h2⟩;exact⟨b,_,rfl,h1,_,_,rfl,⟨d,_,rfl,h2,(pb _).mpr rfl⟩,_,_,rfl,(uY _).mpr rfl,rfl⟩
mutual
def cj(K:qaf)(H:Hp)(A:qah):S->V->qah->Prop
 |.lf t,v,fp=>fp=[]/\At K H A t v
 |.lst xs,v,fp=>∃a vs iE,v=.ref a/\H a=some (.lst vs)/\fp=a::iE/\bf K H A xs vs iE
 |.dk ks ts,v,fp=>∃a vs,v=.ref a/\fp=[a]/\ks.length=vs.length/\H a=some (.dK (ks.zip vs))/\aB K H A ts vs
 |.dc nh ks ts,v,fp=>∃a xs vs,v=.ref a/\fp=[a]/\H a=some (.ext (m_ nh a xs))/\ks=xs.map (·.1)/\(a==sysModules)=false/\(∀x∈xs,At K H A (EV x.1) (.ref x.2.1))/\Vals vs (xs.map (·.2.2))/\aB K H A ts vs
 |.ins C ns xs,v,fp=>∃a dx vs iE,v=.ref a/\ns.length=vs.length/\H a=some (.ins C dx (ns.zip vs))/\fp=a::iE/\bf K H A xs vs iE
def bf(K:qaf)(H:Hp)(A:qah):List S->qak->qah->Prop
 |[],vs,fp=>vs=[]/\fp=[]
 |x::xs,vs,fp=>∃v r f g,vs=v::r/\fp=f++g/\cj K H A x v f/\bf K H A xs r g
end
section
variable{A A':qah}
mutual
theorem cj.map(ha:∀t v,At K H A t v->At K H' A' t v):∀{s:S}{v:V}{fp:qah},(∀b∈fp,H' b=H b)->cj K H A s v fp->cj K H' A' s v fp
 |.lf t,v,fp,hn,h=>by simp only[cj] at h ⊢;exact⟨h.1,ha _ _ h.2⟩
 |.lst xs,v,fp,hn,h=>by simp only[cj] at h ⊢;obtain⟨a,vs,iE,rfl,e,rfl,q⟩:=h;exact⟨a,vs,iE,rfl,(hn a dw).trans e,rfl,bf.map ha (λb hb=>hn b (gG _ hb)) q⟩
 |.dk ks ts,v,fp,hn,h=>by simp only[cj] at h ⊢;obtain⟨a,vs,rfl,rfl,l,e,q⟩:=h;exact⟨a,vs,rfl,rfl,l,(hn a dw).trans e,aB.iff.mpr (Paired.mZ (aB.iff.mp q) λ_ _ z=>ha _ _ z)⟩
 |.dc nh ks ts,v,fp,hn,h=>by simp only[cj] at h ⊢;obtain⟨a,xs,vs,rfl,rfl,e,ek,em,hk,hv,q⟩:=h;exact⟨a,xs,vs,rfl,rfl,(hn a dw).trans e,ek,em,λx hx=>ha _ _ (hk x hx),hv,aB.iff.mpr (Paired.mZ (aB.iff.mp q) λ_ _ z=>ha _ _ z)⟩
 |.ins C ns xs,v,fp,hn,h=>by simp only[cj] at h ⊢;obtain⟨a,dx,vs,iE,rfl,l,e,rfl,q⟩:=h;exact⟨a,dx,vs,iE,rfl,l,(hn a dw).trans e,rfl,bf.map ha (λb hb=>hn b (gG _ hb)) q⟩
theorem bf.map(ha:∀t v,At K H A t v->At K H' A' t v):∀{xs:List S}{vs:qak}{fp:qah},(∀b∈fp,H' b=H b)->bf K H A xs vs fp->bf K H' A' xs vs fp
 |[],vs,fp,hn,h=>by simpa only[bf] using h
 |x::xs,vs,fp,hn,h=>by simp only[bf] at h ⊢;obtain⟨v,r,f,g,rfl,rfl,h1,h2⟩:=h;exact⟨v,r,f,g,rfl,rfl,cj.map ha (λb hb=>hn b (cw _ hb)) h1,bf.map ha (λb hb=>hn b (bU _ hb)) h2⟩
end
mutual
theorem cj.mut:∀{s:S}{v:V}{fp:qah},cj K H A s v fp->∀b∈fp,∃u,H b=some u/\km u=true
 |.lf t,v,fp,h,b,hb=>by simp only[cj] at h;rw[h.1] at hb;cases hb
 |.lst xs,v,fp,h,b,hb=>by
  simp only[cj] at h;obtain⟨a,vs,iE,rfl,e,rfl,q⟩:=h;rcases cT.mp hb with z|z
  rw[z];exact⟨_,e,rfl⟩;exact bf.mut q b z
 |.dk ks ts,v,fp,h,b,hb=>by simp only[cj] at h;obtain⟨a,vs,rfl,rfl,l,e,q⟩:=h;rw[jh.mp hb];exact⟨_,e,rfl⟩
 |.dc nh ks ts,v,fp,h,b,hb=>by simp only[cj] at h;obtain⟨a,xs,vs,rfl,rfl,e,_⟩:=h;rw[jh.mp hb];exact⟨_,e,rfl⟩
 |.ins C ns xs,v,fp,h,b,hb=>by
  simp only[cj] at h;obtain⟨a,dx,vs,iE,rfl,l,e,rfl,q⟩:=h;rcases cT.mp hb with z|z
  rw[z];exact⟨_,e,rfl⟩;exact bf.mut q b z
theorem bf.mut:∀{xs:List S}{vs:qak}{fp:qah},bf K H A xs vs fp->∀b∈fp,∃u,H b=some u/\km u=true
 |[],vs,fp,h,b,hb=>by simp only[bf] at h;rw[h.2] at hb;cases hb
 |x::xs,vs,fp,h,b,hb=>by
  simp only[bf] at h;obtain⟨v,r,f,g,rfl,rfl,h1,h2⟩:=h;rcases cN.mp hb with z|z
  exact cj.mut h1 b z;exact bf.mut h2 b z
end
theorem cj.same{s:S}(sm:aY H H')(h:cj K H A s v fp):cj K H' A s v fp :=
 h.map (λ_ _ q=>q.same sm) λb hb=>by obtain⟨u,e,_⟩:=h.mut b hb;rw[e];exact sm _ _ e
theorem cj.more{s:S}(m:∀a∈A',a∈A\/H a=none)(h:cj K H A s v fp):cj K H A' s v fp:=h.map (λ_ _ q=>q.more m) λ_ _=>rfl
theorem cj.a8{s:S}(m:∀a∈A',a∈A)(h:cj K H A s v fp):cj K H A' s v fp:=h.map (λ_ _ q=>q.a8 m) λ_ _=>rfl
mutual
theorem cj.view:∀{s:S}{v:V}{fp:qah},(∀b∈A',b∈A)->(∀b∈fp,b∉A')->cj K H A s v fp->At K H A' s.t v
 |.lf t,v,fp,hs,hn,h=>by simp only[cj,S.t] at h ⊢;exact h.2.a8 hs
 |.lst xs,v,fp,hs,hn,h=>by simp only[cj,S.t,At] at h ⊢;obtain⟨a,vs,iE,rfl,e,rfl,q⟩:=h;exact⟨a,vs,rfl,.inl ⟨.inl e,hn a dw⟩,bf.view hs (λb hb=>hn b (gG _ hb)) q⟩
 |.dk ks ts,v,fp,hs,hn,h=>by simp only[cj,S.t,At] at h ⊢;obtain⟨a,vs,rfl,rfl,l,e,q⟩:=h;exact⟨a,vs,rfl,l,⟨e,hn a dw⟩,q.a8 hs⟩
 |.dc nh ks ts,v,fp,hs,hn,h=>by simp only[cj,S.t,At] at h ⊢;obtain⟨a,xs,vs,rfl,rfl,e,ek,em,hk,hv,q⟩:=h;exact⟨a,xs,vs,rfl,⟨e,hn a dw⟩,ek,em,λx hx=>uZ.mp (hk x hx),hv,q.a8 hs⟩
 |.ins C ns xs,v,fp,hs,hn,h=>by simp only[cj,S.t,At] at h ⊢;obtain⟨a,dx,vs,iE,rfl,l,e,rfl,q⟩:=h;exact⟨a,dx,vs,rfl,l,⟨e,hn a dw⟩,bf.view hs (λb hb=>hn b (gG _ hb)) q⟩
theorem bf.view:∀{xs:List S}{vs:qak}{fp:qah},(∀b∈A',b∈A)->(∀b∈fp,b∉A')->bf K H A xs vs fp->aB K H A' (S.ts xs) vs
 |[],vs,fp,hs,hn,h=>by simp only[bf,S.ts,aB] at h ⊢;exact h.1
 |x::xs,vs,fp,hs,hn,h=>by simp only[bf,S.ts,aB] at h ⊢;obtain⟨v,r,f,g,rfl,rfl,h1,h2⟩:=h;exact⟨v,r,rfl,cj.view hs (λb hb=>hn b (cw _ hb)) h1,bf.view hs (λb hb=>hn b (bU _ hb)) h2⟩
end
end
inductive kS where
 |fld (C:Addr) (f:Str)
 |last
def kT(f:Str):qai->Option Nat
 |[]=>none
 |n::ns=>match f==n with
  |true=>some 0
  |false=>(kT f ns).map (· + 1)
def S.VY:S->kS->Option Nat
 |.ins C ns xs,.fld C' f=>if C'=C then kT f ns else none
 |.lst xs,.last=>if 0<xs.length then some (xs.length-1) else none
 |_,_=>none
def S.kids:S->List S
 |.lst xs=>xs
 |.ins _ _ xs=>xs
 |_=>[]
def S.with:S->List S->S
 |.lst _,ys=>.lst ys
 |.ins C ns _,ys=>.ins C ns ys
 |s,_=>s
def S.get:S->List kS->Option S
 |s,[]=>some s
 |s,p::ps=>match s.VY p with
  |some i=>match s.kids[i]? with
   |some x=>x.get ps
   |none=>none
  |none=>none
def S.put:S->List kS->S->S
 |_,[],y=>y
 |s,p::ps,y=>match s.VY p with
  |some i=>match s.kids[i]? with
   |some x=>s.with (s.kids.set i (x.put ps y))
   |none=>s
  |none=>s
def gO(H:Hp)(v:V)(p:kS):Option V:=match v with
 |.ref a=>match H a with
  |some (.ins C _ fs)=>match p with
   |.fld C' f=>if C'=C then fs.lookup f else none
   |.last=>none
  |some (.lst vs)=>match p with
   |.last=>vs.getLast?
   |_=>none
  |_=>none
 |_=>none
def valAt(H:Hp):V->List kS->Option V
 |v,[]=>some v
 |v,p::ps=>(gO H v p).bind λw=>valAt H w ps
theorem nB(H:Hp)(p:kS):∀(ps:List kS)(v:V),valAt H v (ps++[p])=(valAt H v ps).bind λw=>gO H w p
 |[],v=>by show (gO H v p).bind (λw=>some w)=(some v).bind λw=>gO H w p;simp
 |q::ps,v=>by
  show (gO H v q).bind (λw=>valAt H w (ps++[p]))=((gO H v q).bind λw=>valAt H w ps).bind λw=>gO H w p;cases gO H v q with
  |none=>rfl
  |some w=>exact nB H p ps w
theorem nC(f:Str):∀(ns:qai)(vs:qak){i:Nat},kT f ns=some i->(ns.zip vs).lookup f=vs[i]?
 |[],vs,i,h=>by cases h
 |n::ns,[],i,h=>by simp
 |n::ns,v::vs,i,h=>by
  rw[JB,Jh];unfold kT at h;cases q:f==n with
  |true=>rw[q] at h;cases h;rfl
  |false=>
   rw[q] at h;dsimp only at h;cases e:kT f ns with
   |none=>rw[e] at h;cases h
   |some j=>rw[e] at h;cases h;exact nC f ns vs e
section
variable{A:qah}
theorem bf.length:∀{xs:List S}{vs:qak}{fp:qah},bf K H A xs vs fp->vs.length=xs.length
 |[],vs,fp,h=>by simp only[bf] at h;rw[h.1];rfl
 |x::xs,vs,fp,h=>by simp only[bf] at h;obtain⟨v,r,f,g,rfl,rfl,h1,h2⟩:=h;simp[bf.length h2]
theorem bf.focus:∀{xs:List S}{vs:qak}{fp:qah}{i:Nat}{x:S},bf K H A xs vs fp->xs[i]?=some x->∃v f1 f f2,vs[i]?=some v/\fp=f1++(f++f2)/\cj K H A x v f /\
  ∀{H':Hp}{A':qah}{y:S}{g:qah},(∀t v,At K H A t v->At K H' A' t v)->(∀b∈f1++f2,H' b=H b)->cj K H' A' y v g->bf K H' A' (xs.set i y) vs (f1++(g++f2))
 |[],vs,fp,i,x,h,e=>by simp at e
 |x0::xs,vs,fp,0,x,h,e=>by simp only[Xv,Option.some.injEq] at e;subst e;simp only[bf] at h;obtain⟨v,r,f,g,rfl,rfl,h1,h2⟩:=h;refine⟨v,[],f,g,rfl,rfl,h1,λha hn hy=>?_⟩;simp only[Nc,bf];exact⟨v,r,_,g,rfl,rfl,hy,bf.map ha (λb hb=>hn b (by simpa using hb)) h2⟩
 |x0::xs,vs,fp,i+1,x,h,e=>by
   simp only[List.getElem?_cons_succ] at e;simp only[bf] at h;obtain⟨v,r,f,g,rfl,rfl,h1,h2⟩:=h;obtain⟨w,f1,f',f2,e1,rfl,h3,k⟩:=bf.focus h2 e;refine⟨w,f++f1,f',f2,by simpa using e1,by rw[OD],h3,λha hn hy=>?_⟩;simp only[EZ,bf];exact⟨v,r,f,_,rfl,by rw[OD],cj.map ha (λb hb=>hn b (by simp[hb])) h1,k ha (λb hb=>hn b (by
    rcases cN.mp hb with z|z
    simp[z];simp[z])) hy⟩
theorem cj.focus:∀{ps:List kS}{s x:S}{v:V}{fp:qah},cj K H A s v fp->s.get ps=some x->∃w f1 f f2,fp=f1++(f++f2)/\valAt H v ps=some w/\cj K H A x w f /\
  ∀{H':Hp}{A':qah}{y:S}{g:qah},(∀t v,At K H A t v->At K H' A' t v)->(∀b∈f1++f2,H' b=H b)->cj K H' A' y w g->cj K H' A' (s.put ps y) v (f1++(g++f2))
 |[],s,x,v,fp,h,e=>by cases e;exact⟨v,[],fp,[],by simp,rfl,h,λ_ _ hy=>by simpa[S.put] using hy⟩
 |p::ps,s,x,v,fp,h,e=>by
   unfold S.get at e;cases hk:s.VY p with
   |none=>rw[hk] at e;cases e
   |some i=>
     rw[hk] at e;dsimp only at e;cases hx:s.kids[i]? with
     |none=>rw[hx] at e;cases e
     |some x0=>
       rw[hx] at e;dsimp only at e
       match s,h with
       |.lf t,h=>cases p<;>cases hk
       |.dk ks ts,h=>cases p<;>cases hk
       |.dc nh ks ts,h=>cases p<;>cases hk
       |.lst xs,h=>
         simp only[cj] at h;obtain⟨a,vs,iE,rfl,ea,rfl,q⟩:=h;obtain⟨v1,f1,f,f2,hv,rfl,h1,k1⟩:=bf.focus q hx;obtain⟨w,g1,g,g2,rfl,ev,h2,k2⟩:=cj.focus h1 e;have e1:gO H (.ref a) p=some v1:=by
          cases p with
          |fld C f=>cases hk
          |last=>have xO:(if 0<xs.length then some (xs.length-1) else none)=some i:=hk;split at xO;cases xO;unfold gO;dsimp only;rw[ea];dsimp only;rw[wH,q.length];exact hv;cases xO
         refine⟨w,a::(f1++g1),g,g2++f2,by simp,by show (gO H (.ref a) p).bind _=_;rw[e1];exact ev,h2,λ{H' A' y g'} ha hn hy=>?_⟩;unfold S.put;rw[hk];dsimp only;rw[hx];dsimp only;have h3:=k1 ha (λb hb=>hn b (by rcases cN.mp hb with z|z<;>simp[z])) (k2 ha (λb hb=>hn b (by rcases cN.mp hb with z|z<;>simp[z])) hy);simp only[S.with,S.kids,cj];exact⟨a,vs,_,rfl,(hn a (by simp)).trans ea,by simp,h3⟩
       |.ins C ns xs,h=>
         simp only[cj] at h;obtain⟨a,dx,vs,iE,rfl,l,ea,rfl,q⟩:=h;obtain⟨v1,f1,f,f2,hv,rfl,h1,k1⟩:=bf.focus q hx;obtain⟨w,g1,g,g2,rfl,ev,h2,k2⟩:=cj.focus h1 e;have e1:gO H (.ref a) p=some v1:=by
          cases p with
          |last=>cases hk
          |fld C' f=>
            have xO:(if C'=C then kT f ns else none)=some i:=hk;split at xO
            rename_i hC
            unfold gO;dsimp only;rw[ea];dsimp only;rw[if_pos hC,nC f ns vs xO];exact hv;cases xO
         refine⟨w,a::(f1++g1),g,g2++f2,by simp,by show (gO H (.ref a) p).bind _=_;rw[e1];exact ev,h2,λ{H' A' y g'} ha hn hy=>?_⟩;unfold S.put;rw[hk];dsimp only;rw[hx];dsimp only;have h3:=k1 ha (λb hb=>hn b (by rcases cN.mp hb with z|z<;>simp[z])) (k2 ha (λb hb=>hn b (by rcases cN.mp hb with z|z<;>simp[z])) hy);simp only[S.with,S.kids,cj];exact⟨a,dx,vs,_,rfl,l,(hn a (by simp)).trans ea,by simp,h3⟩
end
structure Mz where
 H0:Hp
 tw:qah
 Ox:qah
 a:Addr
 k:Nat
noncomputable def pd(H:Hp)(L:qah):Hp:=λb=>if b∈L then none else H b
theorem xP{L:qah}{b:Addr}{o:HO}(h:pd H L b=some o):H b=some o/\b∉L:=by
 unfold pd at h;split at h;cases h
 rename_i n;exact⟨h,n⟩
theorem GJ{L:qah}{b:Addr}(h:pd H L b=none):b∈L\/H b=none:=by
 unfold pd at h;split at h
 rename_i n;exact .inl n
 exact .inr h
theorem GK{L:qah}{b:Addr}(h:b∈L):pd H L b=none:=by unfold pd;rw[if_pos h]
theorem K9{L:qah}{b:Addr}(h:b∉L):pd H L b=H b:=by unfold pd;rw[if_neg h]
structure Mf(K:qaf)(M:Mz)(O:HD)(fp:qah)(s:S)(H:Hp):Prop where
 ow:cj K H (roots O++(fp++M.Ox)) s (.ref M.a) fp
 nd:fp.Nodup
 nD:∀b∈fp,b∉roots O/\b∉M.Ox
 fr:∀b∈fp,b∈M.tw\/M.H0 b=none
 kp:∀b o,M.H0 b=some o->b∉M.tw->H b=some o/\b∉roots O
noncomputable abbrev zf(M:Mz)(O:HD)(H:Hp):Zc:=⟨pd H (roots O),[],M.Ox⟩
section
variable{M:Mz}{Of:HD}{s:S}{Hf:Hp}{tm:qab}
theorem Mf.now(F:Mf K M Of fp s Hf)(I:ay K (zf M Of Hf) tm O ρ σ H)(hr:∀b∈roots Of,∃u,Hf b=some u/\km u=true):Mf K M O fp s H:=by
 have old:∀b∈roots O,b∈roots Of\/Hf b=none:=λb hb=>by
  rcases (I.own b hb).1 with z|z
  cases z;exact GJ z
 have kept:∀b o,Hf b=some o->b∉roots Of->H b=some o:=λb o e n=>I.keep b o (by show pd Hf (roots Of) b=some o;rw[K9 n];exact e) (by show b∉[];simp);have iE:∀b∈fp,∃u,Hf b=some u/\km u=true:=F.ow.mut;refine⟨?_,F.nd,λb hb=>⟨λz=>?_,(F.nD b hb).2⟩,F.fr,λb o e n=>?_⟩;refine cj.map (λt v q=>?_) (λb hb=>?_) F.ow;have q1:At K Hf (roots Of++(roots O++(fp++M.Ox))) t v:=q.more λa ha=>by
  rcases cN.mp ha with z|z
  exact .inl (cw _ z);rcases cN.mp z with z|z
  rcases old a z with y|y
  exact .inl (cw _ y);exact .inr y;exact .inl (bU _ z)
 have q2:At K H (roots Of++(roots O++(fp++M.Ox))) t v:=q1.qe (as:=roots Of) kept (λa ha=>cw _ ha) hr;exact q2.a8 λa ha=>bU _ ha;obtain⟨u,e,_⟩:=iE b hb;rw[e];exact kept b u e (F.nD b hb).1;rcases old b z with y|y
 exact (F.nD b hb).1 y;obtain⟨u,e,_⟩:=iE b hb;rw[e] at y;cases y;obtain⟨h1,h2⟩:=F.kp b o e n;refine⟨kept b o h1 h2,λz=>?_⟩;rcases old b z with y|y
 exact h2 y;rw[h1] at y;cases y
theorem ay.rebase(I:ay K Z tm O ρ σ H)(hZ:Z.P=[]):ay K ⟨pd H (roots O),[],Z.Ox⟩ tm O ρ σ H :=
 ⟨I.lσ,I.lO,I.sl,I.nd,λa h=>⟨.inr (GK h),(I.own a h).2⟩,λp hp=>(nomatch hp),I.ox,λb o e _=>(xP e).1,I.pS⟩
structure mj(K:qaf)(M:Mz)(ρ:En)(s:S)(σ:St)(H:Hp):Prop where
 ex:∃O fp,Mf K M O fp s H/\ay K (zf M O H) [] O ρ σ H
 pin:ρ[M.k]?=some (some (.pin M.a s.t,false))
theorem mj.of(F:Mf K M Of fp s Hf)(hr:∀b∈roots Of,∃u,Hf b=some u/\km u=true)(I:ay K (zf M Of Hf) [] O ρ σ H)(hp:ρ[M.k]?=some (some (.pin M.a s.t,false))):mj K M ρ s σ H :=
 ⟨⟨O,fp,F.now I hr,I.rebase (Z:=zf M Of Hf) rfl⟩,hp⟩
theorem bF(I:ay K (zf M O H) tm O ρ σ H):∀b∈roots O,∃u,H b=some u/\km u=true:=λb hb=>(I.own b hb).2.2
noncomputable def j':Option (T×Bool)->Option (T×Bool)
 |some (t,false)=>if bR t=true then some (t,false) else none
 |e=>e
def fN:Option (T×Bool)->Prop
 |some (.lst ts,true)=>dG ts=true
 |some (.dk _ ts,true)=>dG ts=true
 |some (_,true)=>False
 |_=>True
noncomputable def kU(M:Mz)(ρ:En)(s:S):En:=(ρ.map j').set M.k (some (.pin M.a s.t,false))
theorem cQ.bR{A A':qah}{t:T}(hi:fN (some (t,true)))(h:cQ K H A a t)(e:H' a=H a)(hm:∀t v,bR t=true->At K H A t v->At K H' A' t v):cQ K H' A' a t:=by
 have ml:∀{ts:qaj}{vs:qak},dG ts=true->aB K H A ts vs->aB K H' A' ts vs:=by
  intro ts;induction ts with
  |nil=>intro vs _ q;simpa only[aB] using q
  |cons t ts ih=>intro vs hi q;simp only[dG,lL] at hi;simp only[aB] at q ⊢;obtain⟨v,r,rfl,q1,q2⟩:=q;exact⟨v,r,rfl,hm _ _ hi.1 q1,ih hi.2 q2⟩
 cases t with
 |lst ts=>obtain⟨vs,e1,q⟩:=h;exact⟨vs,e.trans e1,ml hi q⟩
 |dk ks ts=>obtain⟨vs,l,e1,q⟩:=h;exact⟨vs,l,e.trans e1,ml hi q⟩
 |_=>exact False.elim hi
theorem Mf.write{fp':qah}{s':S}(F:Mf K M O fp s H)(I:ay K (zf M O H) [] O ρ σ H)(oU:∀e∈ρ,fN e)(hk:ρ[M.k]?≠none)(ho:O[M.k]?=some none)(hσ:σ[M.k]?=some (some (.ref M.a)))(fr:∀b o,H b=some o->b∉fp->H' b=some o)(hS:cj K H' (roots O++(fp'++M.Ox)) s' (.ref M.a) fp')(nd:fp'.Nodup)(nD:∀b∈fp',b∉roots O/\b∉M.Ox)(X6:∀b∈fp',b∈M.tw\/M.H0 b=none):mj K M (kU M ρ s') s' σ H':=by
 have kept:∀b∈roots O,H' b=H b:=λb hb=>by obtain⟨u,e,_⟩:=bF I b hb;rw[e];exact fr _ _ e λz=>(F.nD b z).1 hb
 have tr:∀t v,bR t=true->At K H (av (zf M O H) O) t v->At K H' (roots O++M.Ox) t v:=λt v hi q=>by have q1:At K H fp t v:=At.bR hi q;exact At.bR hi (q1.qe (as:=fp) fr (λa h=>h) F.ow.mut)
 have Z3:M.k<ρ.length:=by
  cases h:ρ[M.k]? with
  |none=>exact absurd h hk
  |some e=>exact (dS.mp h).1
 refine⟨⟨O,fp',⟨hS,nd,nD,X6,λb o e n=>?_⟩,⟨?_,?_,λj e h=>?_,I.nd,λb hb=>⟨.inr (GK hb),(I.own b hb).2.1,?_⟩,λp hp=>(nomatch hp),λb hb=>?_,λb o e _=>(xP e).1,λp hp=>(nomatch hp)⟩⟩,?_⟩;obtain⟨h1,h2⟩:=F.kp b o e n;refine⟨fr _ _ h1 λz=>?_,h2⟩;rcases F.fr b z with y|y
 exact n y;rw[e] at y;cases y;unfold kU;rw[Ji,cV];exact I.lσ;unfold kU;rw[Ji,cV];exact I.lO;unfold kU at h;rcases get_set h with⟨rfl,rfl,hl⟩|⟨ne,h⟩
 refine⟨none,_,ho,hσ,rfl,.ref M.a,rfl,?_⟩;simp only[At];refine⟨trivial,hS.view (λb hb=>?_) (λb hb z=>?_)⟩;rcases cN.mp hb with z|z
 exact cw _ z;exact bU _ (bU _ z);rcases cN.mp z with z|z
 exact (nD b hb).1 z;exact (nD b hb).2 z;rw[List.getElem?_map] at h;cases h0:ρ[j]? with
 |none=>rw[h0] at h;cases h
 |some e0=>
  rw[h0] at h;have he:j' e0=e:=Option.some.inj h;obtain⟨o,w,h1,h2,h3⟩:=I.sl j e0 h0;refine⟨o,w,h1,h2,?_⟩;subst he
  match e0,h3,h0 with
  |none,h3,_=>exact h3
  |some (t,false),h3,_=>obtain⟨rfl,v,rfl,q⟩:=h3;show ng K H' (av (zf M O H') O) (if bR t=true then some (t,false) else none) none (some v);by_cases hi:bR t=true;rw[if_pos hi];exact⟨rfl,v,rfl,tr t v hi q⟩;rw[if_neg hi];rfl
  |some (t,true),h3,h0=>obtain⟨c,rfl,rfl,q⟩:=h3;exact⟨c,rfl,rfl,q.bR (oU _ (gH h0)) (kept c (aN.mpr (gH h1))) tr⟩
 obtain⟨u,e,m⟩:=(I.own b hb).2.2;exact⟨u,(kept b hb).trans e,m⟩;cases e:H b with
 |none=>exact absurd e (I.ox b hb)
 |some u=>rw[fr _ _ e λz=>(F.nD b z).2 hb];simp
 unfold kU;rw[Bf (by rw[cV];exact Z3)]
end
structure NV where
 nx:En->S->Prop
 rt:En->S->qam
 bk:En->S->Prop:=λ_ _=>False
 ct:En->S->Prop:=λ_ _=>False
structure QB(K:qaf)(M:Mz)(d:NV)(D:Ends):Prop where
 nx:∀ρ s σ H,mj K M ρ s σ H->d.nx ρ s->D.nx σ H
 rt:∀ρ s σ H r v O fp Of Hf,Mf K M Of fp s Hf->(∀b∈roots Of,∃u,Hf b=some u/\km u=true)->gM K (zf M Of Hf) [] O ρ σ H r v->d.rt ρ s r->D.rt v H
 bk:∀ρ s σ H,mj K M ρ s σ H->d.bk ρ s->D.bk σ H
 ct:∀ρ s σ H,mj K M ρ s σ H->d.ct ρ s->D.ct σ H
abbrev FM:=NV->En->S->Prop
def lM(X:Cx)(M:Mz)(g:FM):TS:=λD σ H=>∃ρ s d,mj X.K M ρ s σ H/\g d ρ s/\QB X.K M d D
structure Bm(p:Prop):Prop where
 h:p
def MS(X:Cx)(M:Mz)(st:Stmt)(g:FM):Prop:=Bm (PS X st (lM X M g))
def DD(X:Cx)(M:Mz)(st:qaq)(g:FM):Prop:=Bm (iZ X st (lM X M g))
section
variable{M:Mz}{st:Stmt}{rest:qaq}{g u:FM}{pos:Pos}
def VZ:FM:=λd ρ s=>d.nx ρ s
def Z4(g u:FM):FM:=λd ρ s=>g {d with nx:=u d} ρ s
theorem K_:DD X M [] VZ:=⟨iZ.i5 Bn λD σ H ⟨ρ,s,d,I,h,F⟩=>F.nx ρ s σ H I h⟩
theorem ck(h1:MS X M st g)(h2:DD X M rest u):DD X M (st::rest) (Z4 g u):=⟨iZ.i5 (cP h1.h h2.h) λD σ H ⟨ρ,s,d,I,h,F⟩ =>
 ⟨ρ,s,{d with nx:=u d},I,h,⟨λρ' s' σ' H' I' h'=>⟨ρ',s',d,I',h',F⟩,F.rt,F.bk,F.ct⟩⟩⟩
theorem bM(h1:MS X M st g):DD X M [st] g:=⟨j2 h1.h⟩
theorem DD.weak(h:DD X M rest g)(hw:∀d ρ s,u d ρ s->g d ρ s):DD X M rest u:=⟨iZ.i5 h.h λD σ H ⟨ρ,s,d,I,q,F⟩=>⟨ρ,s,d,I,hw d ρ s q,F⟩⟩
noncomputable def dPl(M:Mz)(d:NV)(s:S):FZ:={nx:=λρ'=>ρ'[M.k]?=some (some (.pin M.a s.t,false))/\d.nx ρ' s,rt:=λρ' r=>d.rt ρ' s r,bk:=λρ'=>ρ'[M.k]?=some (some (.pin M.a s.t,false))/\d.bk ρ' s,ct:=λρ'=>ρ'[M.k]?=some (some (.pin M.a s.t,false))/\d.ct ρ' s}
noncomputable def mPl(M:Mz)(g:FS):FM:=λd ρ s=>g (dPl M d s) ρ
theorem QC{s:S}{d:NV}{D:Ends}(F:Mf K M O fp s H)(I:ay K (zf M O H) [] O ρ σ H)(Fi:QB K M d D):Fin K (zf M O H) [] (dPl M d s) D :=
 ⟨λO' ρ' σ' H' J ⟨h1,h2⟩=>Fi.nx _ _ _ _ (mj.of F (bF I) J h1) h2,λO' ρ' σ' H' r v z h=>Fi.rt _ _ _ _ r v _ _ _ _ F (bF I) z h,λO' ρ' σ' H' J ⟨h1,h2⟩=>Fi.bk _ _ _ _ (mj.of F (bF I) J h1) h2,λO' ρ' σ' H' J ⟨h1,h2⟩=>Fi.ct _ _ _ _ (mj.of F (bF I) J h1) h2⟩
theorem eF{g:FS}(h:∀H0,VS X ⟨H0,[],M.Ox⟩ st g):MS X M st (mPl M g):=⟨PS.i5 λD σ H ⟨ρ,s,d,⟨⟨O,fp,F,I⟩,hp⟩,hg,Fi⟩=>⟨_,h (pd H (roots O)) [],ρ,O,_,I,hg,QC F I Fi⟩⟩
 where PS.i5 {t:TS} (hw:∀D σ H,t D σ H->∃t':TS,PS X st t'/\t' D σ H):PS X st t:=λpins s σ H D I q=>let ⟨t',h1,h2⟩:=hw D σ H q;h1 pins s σ H D I h2
def mIf(c:FB)(g u:FM):FM:=λd ρ s=>c ρ λb=>if b=true then g d ρ s else u d ρ s
theorem tO{a b:qaq}(hc:∀H0,VC X ⟨H0,[],M.Ox⟩ c fc)(ha:DD X M a g)(hb:DD X M b u):MS X M (.If c a b pos) (mIf fc g u):=⟨λpins s' σ H D J ⟨ρ,s,d,⟨⟨O,fp,F,I⟩,hp⟩,hg,Fi⟩ =>
 Nn (hc (pd H (roots O)) []) ha.h hb.h pins s' σ H D J ⟨ρ,O,_,I,hg,λb hb H' sm=>by
  have St:mj X.K M ρ s σ H':=mj.of F (bF I) (I.same sm) hp;cases b with
  |true=>rw[if_pos rfl] at hb;exact Pz ⟨ρ,s,d,St,hb,Fi⟩
  |false=>rw[if_neg iD] at hb;exact Py ⟨ρ,s,d,St,hb,Fi⟩⟩⟩
end
noncomputable def jx(k:Nat)(ps:List kS):TE:=λσ H Q=>∃v w,σ[k]?=some (some v)/\valAt H v ps=some w/\Q w H
section
variable{i:Expr}{k:Nat}{ps:List kS}{f:Str}{pos:Pos}
theorem kW(hN:X.N[k]?=some x:=by rfl)(hv:kF X.env.scope x:=by first|exact Or.inl rfl|exact Or.inr (Or.inl rfl)|exact Or.inr (Or.inr rfl))(hd:ie x:=by decide)(gn:uj x:=by decide):PE X (.Name x pos) (jx k []):=PE.weak (bV hN hv hd gn) λσ H Q ⟨v,w,h1,h2,q⟩=>by cases h2;exact⟨v,h1,q⟩
theorem jy(cl:zC X.K C)(na:bp X.K C f)(he:PE X e (jx k ps))(hb:attributeBase e f X.env (eval e X.env)=eval e X.env:=by rfl):PE X (.Attribute e f pos) (jx k (ps++[.fld C f])) :=
 PE.weak (zF he hb) λσ H Q ⟨v,w,h1,h2,q⟩=>by
  rw[nB] at h2;cases e0:valAt H v ps with
  |none=>rw[e0] at h2;cases h2
  |some w0=>
   rw[e0] at h2;have h3:gO H w0 (.fld C f)=some w:=h2;refine⟨v,w0,h1,e0,?_⟩;unfold gO at h3;split at h3
   rename_i a
   split at h3
   rename_i C' dx fs ea
   dsimp only at h3;split at h3
   rename_i hC
   subst hC;exact⟨a,_,dx,fs,w,rfl,ea,cl,na,h3,q⟩;cases h3;dsimp only at h3;cases h3;cases h3;cases h3
theorem K'(he:PE X e (jx k ps))(hi:PE X i (tC (.int (-1))))(hs:uz i:=by intro _ _;rfl):PE X (.Subscript e i pos) (jx k (ps++[.last])) :=
 PE.weak (Nw Bt he hi hs) λσ H Q ⟨v,w,h1,h2,q⟩=>by
  rw[nB] at h2;cases e0:valAt H v ps with
  |none=>rw[e0] at h2;cases h2
  |some w0=>
   rw[e0] at h2;have h3:gO H w0 .last=some w:=h2;refine⟨v,w0,h1,e0,?_⟩;unfold gO at h3;split at h3
   rename_i a
   split at h3;dsimp only at h3;cases h3
   rename_i vs ea
   dsimp only at h3;refine⟨a,vs,-1,w,rfl,rfl,ia.of ea,?_,q⟩;have hl:0<vs.length:=by cases vs<;>simp_all
   rw[wH] at h3;unfold jc ux;rw[if_neg (by decide),if_pos (by omega)];have e:(-1+(vs.length:Int)).toNat=vs.length-1:=by omega
   rw[e];exact h3;cases h3;cases h3
end
theorem V0{j}{p':Pos}:PE X (.UnaryOp .USub (.Constant (.int 1) j p) p') (tC (.int (-1))):=PE.weak (Nq Fb E4) λσ H Q h=>⟨_,rfl,h⟩
section
variable{M:Mz}{s:S}{A:qah}
theorem bf.NW:∀{xs:List S}{vs:qak}{fp:qah}{i:Nat}{t0 t:T}{v:V},bf K H A xs vs fp->xs[i]?=some (.lf t0)->At K H A t v->bf K H A (xs.set i (.lf t)) (vs.set i v) fp
 |[],vs,fp,i,t0,t,v,h,e,q=>by simp at e
 |x::xs,vs,fp,0,t0,t,v,h,e,q=>by cases e;simp only[bf,cj] at h;obtain⟨v0,r,f,g,rfl,rfl,⟨rfl,_⟩,h2⟩:=h;simp only[Nc,bf,cj];exact⟨v,r,[],g,rfl,rfl,⟨rfl,q⟩,h2⟩
 |x::xs,vs,fp,i+1,t0,t,v,h,e,q=>by simp only[bf] at h;obtain⟨v0,r,f,g,rfl,rfl,h1,h2⟩:=h;simp only[EZ,bf];exact⟨v0,r.set i v,f,g,rfl,rfl,h1,h2.NW (by simpa using e) q⟩
theorem B0(f:Str)(y:V):∀(ns:qai)(vs:qak){i:Nat},ns.length=vs.length->kT f ns=some i->dJ f y (ns.zip vs)=ns.zip (vs.set i y)
 |[],vs,i,_,h=>by cases h
 |n::ns,[],i,l,h=>by simp at l
 |n::ns,v::vs,i,l,h=>by
  rw[JB];show (if n=f then (n,y)::ns.zip vs else (n,v)::dJ f y (ns.zip vs))=_;unfold kT at h;cases q:f==n with
  |true=>rw[q] at h;cases h;rw[if_pos (eq_of_beq q).symm];rfl
  |false=>
   rw[q] at h;have ne:¬ n=f:=λe=>by rw[e] at q;simp at q
   rw[if_neg ne];cases z:kT f ns with
   |none=>rw[z] at h;cases h
   |some j=>rw[z] at h;cases h;rw[B0 f y ns vs (by simpa using l) z];rfl
theorem cR(I:ay K (zf M O H) [] O ρ σ H)(hp:ρ[M.k]?=some (some (.pin M.a s.t,false))):O[M.k]?=some none/\σ[M.k]?=some (some (.ref M.a)):=by obtain⟨o,sv,h1,h2,h3⟩:=I.sl M.k _ hp;obtain⟨rfl,v,rfl,q⟩:=h3;simp only[At] at q;obtain⟨rfl,_⟩:=q;exact⟨h1,h2⟩
theorem Mf.put{ps:List kS}{x:S}(F:Mf K M O fp s H)(I:ay K (zf M O H) [] O ρ σ H)(hp:ρ[M.k]?=some (some (.pin M.a s.t,false)))(oU:∀e∈ρ,fN e)(hg:s.get ps=some x) :
  ∃w f,valAt H (.ref M.a) ps=some w/\cj K H (roots O++(fp++M.Ox)) x w f/\(∀b∈f,b∈fp)/\f.Nodup /\
   ∀{b:Addr}{u:HO}{y:S},b∈f->cj K (upd H b u) (roots O++(fp++M.Ox)) y w f->mj K M (kU M ρ (s.put ps y)) (s.put ps y) σ (upd H b u):=by
 obtain⟨w,f1,f,f2,Ab,ev,hs,back⟩:=F.ow.focus hg;have sub:∀b∈f,b∈fp:=λb hb=>by rw[Ab];exact bU _ (cw _ hb)
 have nd:=F.nd;have La:=nd;rw[Ab] at La;have ndf:f.Nodup:=((zp.mp La).2.1 |> zp.mp).1;refine⟨w,f,ev,hs,sub,ndf,λ{b u y} hb hy=>?_⟩;obtain⟨ho,hσ⟩:=cR I hp;obtain⟨u0,e0,m0⟩:=F.ow.mut b (sub b hb);have hA:b∈roots O++(fp++M.Ox):=bU _ (cw _ (sub b hb));refine F.write I oU (by rw[hp];simp) ho hσ (λb' o e n=>?_) (fp':=fp) ?_ nd F.nD F.fr;rw[aE (λz=>n (by rw[z];exact sub b hb))];exact e;have r:=back (H':=upd H b u) (A':=roots O++(fp++M.Ox)) (λt v q=>q.wrote hA e0 m0) (λb' QD=>?_) hy;rw[<- Ab] at r;exact r;refine aE λz=>?_;subst z;have n1:=zp.mp La;have n2:=zp.mp n1.2.1;rcases cN.mp QD with q|q
 exact n1.2.2 _ q _ (cw _ hb) rfl;exact n2.2.2 _ hb _ q rfl
end
section
variable{M:Mz}{f:Str}{pos:Pos}
noncomputable def Z5(M:Mz)(C:Addr)(f:Str)(fe:FE):FM:=λd ρ s=>fe ρ λt=>bR t=true/\(∀e∈ρ,fN e)/\∃ns xs i t0,s=.ins C ns xs/\xs.length<1000/\kT f ns=some i/\xs[i]?=some (.lf t0)/\d.nx (kU M ρ (.ins C ns (xs.set i (.lf t)))) (.ins C ns (xs.set i (.lf t)))
theorem hW(cl:zC X.K C)(na:bp X.K C f)(he:∀H0,VE X ⟨H0,[],M.Ox⟩ e fe)(hN:X.N[M.k]?=some x)(hv:kF X.env.scope x:=by first|exact Or.inl rfl|exact Or.inr (Or.inl rfl)|exact Or.inr (Or.inr rfl))(hd:ie x:=by decide)(gn:uj x:=by decide)(hs:swapsWith e (some (.Attribute (.Name x p) f fP)) pos.line X.env=pure false:=by rfl) :
  MS X M (.Assign [.Attribute (.Name x p) f fP] e pos) (Z5 M C f fe):=⟨λpins s' σ H D J ⟨ρ,s,d,⟨⟨O,fp,F,I⟩,hp⟩,hg,Fi⟩=>by
 refine gp (bV hN hv hd gn) (he (pd H (roots O)) []) hs pins s' σ H D J ⟨ρ,O,_,I,hg,λt ht v H1 sm a=>?_⟩;obtain⟨hi,oU,ns,xs,i,t0,rfl,hlen,Z6,hx,hq⟩:=ht;have I0:=I.same sm;have F1:=F.now I0 (bF I);have I1:=I0.rebase (Z:=zf M O H) rfl;obtain⟨w,f',ev,hS,sub,nd,wr⟩:=F1.put (ps:=[]) I1 hp oU rfl;cases ev;have xQ:=hS;simp only[cj] at xQ;obtain⟨a',dx,vs,iE,ea,hl,ha,rfl,hL⟩:=xQ;cases ea;obtain⟨_,hσ⟩:=cR I1 hp;refine⟨.ref M.a,hσ,M.a,C,dx,_,rfl,ha,cl,na,?_,?_⟩;rw[OH,hl,Ni,hL.length];exact hlen;rw[B0 f v ns vs hl Z6];have hA:M.a∈roots O++(fp++M.Ox):=bU _ (cw _ (sub _ dw));refine Fi.nx _ _ σ _ (wr (y:=.ins C ns (xs.set i (.lf t))) dw ?_) hq;simp only[cj];refine⟨M.a,dx,vs.set i v,iE,rfl,by rw[Ji];exact hl,aI,rfl,?_⟩;refine (hL.map (λt v q=>q.wrote hA ha rfl) λb hb=>aE λz=>?_).NW hx ((At.bR hi a).wrote hA ha rfl);subst z;exact (lx.mp nd).1 hb⟩
end
theorem DE(sm:aY H H'){w:V}{p:kS}(h:gO H v p=some w):gO H' v p=some w:=by
 unfold gO at h ⊢;split at h
 rename_i a
 cases e:H a with
 |none=>rw[e] at h;cases h
 |some o=>rw[e] at h;rw[sm _ _ e];exact h
 cases h
theorem gy{H H':Hp}(sm:aY H H'):∀{ps:List kS}{v w:V},valAt H v ps=some w->valAt H' v ps=some w
 |[],v,w,h=>h
 |p::ps,v,w,h=>by
  unfold valAt at h ⊢;cases e:gO H v p with
  |none=>rw[e] at h;cases h
  |some u=>rw[e] at h;rw[DE sm e];exact gy sm (ps:=ps) h
section
variable{M:Mz}{i:Expr}{ps:List kS}{pos:Pos}
noncomputable def V1(M:Mz)(ps:List kS)(fi fe:FE):FM:=λd ρ s=>fe ρ λt=>(∃x,s.get ps=some x)/\fi ρ λj=>match xD j with
 |some kk=>bR t=true/\(∀e∈ρ,fN e)/\∃ks ts,s.get ps=some (.dk ks ts)/\ts.length<16777216/\d.nx (kU M ρ (s.put ps (.dk (ik ks kk) (cC ks ts kk t)))) (s.put ps (.dk (ik ks kk) (cC ks ts kk t)))
 |none=>False
theorem B1{fi:FE}(hu:X.A.units+1<cLine)(ho:PE X o (jx M.k ps))(hi:∀H0,VR X ⟨H0,[],M.Ox⟩ i fi)(he:∀H0,VE X ⟨H0,[],M.Ox⟩ e fe)(hs:swapsWith e (some (.Subscript o i fP)) pos.line X.env=pure false:=by rfl) :
  MS X M (.Assign [.Subscript o i fP] e pos) (V1 M ps fi fe):=⟨λpins s' σ H D J ⟨ρ,s,d,⟨⟨O,fp,F,I⟩,hp⟩,hg,Fi⟩=>by
 refine BQ hu ho (hi (pd H (roots O)) []) (he (pd H (roots O)) []) hs pins s' σ H D J ⟨ρ,O,_,I,hg,λt ht v H1 s1 a1=>?_⟩;obtain⟨⟨x,hx⟩,ht⟩:=ht;obtain⟨w,_,_,_,_,ev,_,_⟩:=(F.now (I.same s1) (bF I)).ow.focus hx;obtain⟨_,hσ⟩:=cR I hp;refine⟨.ref M.a,w,hσ,ev,ρ,O,_,I.same s1,ht,λj hj w' H2 s2 a2=>?_⟩;split at hj
 rename_i kk ek
 obtain⟨Jt,oU,ks,ts,DF,hlen,hq⟩:=hj;have I0:=(I.same s1).same s2;have F2:=F.now I0 (bF I);have I2:=I0.rebase (Z:=zf M O H) rfl;obtain⟨w2,f',GN,hS,sub,nd,wr⟩:=F2.put (ps:=ps) I2 hp oU DF;rw[gy s2 ev] at GN;cases GN;have xQ:=hS;simp only[cj] at xQ;obtain⟨l,xs,rfl,rfl,hl,h3,h4⟩:=xQ;have q:=Gy ks xs kk v hl;have hz:(ks.zip xs).length<sizeLine:=by rw[sizeLine_eq,OH,hl,Ni,h4.length];omega
 have hA:l∈roots O++(fp++M.Ox):=bU _ (cw _ (sub _ dw));rw[mi a2 ek];refine⟨l,_,rfl,Dt.k h3 hz,?_⟩;rw[q.1];refine Fi.nx _ _ σ _ (wr (y:=.dk (ik ks kk) (cC ks ts kk t)) dw ?_) hq;simp only[cj];exact⟨l,cC ks xs kk v,rfl,rfl,q.2,aI,aB.wrote hA h3 rfl (xF h4 (At.bR Jt (a1.same s2)))⟩;exact hj.elim⟩
end
theorem bf.GO{A:qah}{t:T}:∀{xs:List S}{vs:qak}{fp:qah},bf K H A xs vs fp->At K H A t v->bf K H A (xs++[.lf t]) (vs++[v]) fp
 |[],vs,fp,h,q=>by simp only[bf] at h;obtain⟨rfl,rfl⟩:=h;simp only[SY,bf,cj];exact⟨v,[],[],[],rfl,rfl,⟨rfl,q⟩,rfl,rfl⟩
 |x::xs,vs,fp,h,q=>by simp only[bf] at h;obtain⟨v0,r,f,g,rfl,rfl,h1,h2⟩:=h;simp only[Nf,bf];exact⟨v0,r++[v],f,g,rfl,rfl,h1,h2.GO q⟩
section
variable{M:Mz}{ps:List kS}{pos:Pos}
noncomputable def Z7(M:Mz)(ps:List kS)(fe:FE):FM:=λd ρ s=>∃ys,s.get ps=some (.lst ys)/\ys.length<16777216/\fe ρ λt=>bR t=true/\(∀e∈ρ,fN e)/\d.nx (kU M ρ (s.put ps (.lst (ys++[.lf t])))) (s.put ps (.lst (ys++[.lf t])))
theorem DG(ho:PE X o (jx M.k ps))(he:∀H0,VE X ⟨H0,[],M.Ox⟩ e fe)(c8:attributeBase o "append" X.env (eval o X.env)=eval o X.env:=by rfl)(kH:((backTo aZ (starEach [e] X.env)).all (λx=>!x.1) && (backToKw aZ (keywordEach [] X.env)).all (λx=>x.1.isSome)
    && decide (([e]:qap).length+([]:List Keyword).length+(if ([]:List Keyword).isEmpty then 0 else 1)<30))=true:=by rfl)(c9:(apos.endLine==aZ.line)=true:=by rfl)(hs:starEach [e] X.env=(false,eval e X.env)::starEach [] X.env:=by rfl)(dX:(backTo aZ (starEach [] X.env)).any (·.1)=false:=by rfl)(FC:swapsWith (.Call (.Attribute o "append" apos) [e] [] aZ) none pos.line X.env=pure false:=by rfl) :
  MS X M (.Expr (.Call (.Attribute o "append" apos) [e] [] aZ) pos) (Z7 M ps fe):=⟨λpins s' σ H D J ⟨ρ,s,d,⟨⟨O,fp,F,I⟩,hp⟩,hg,Fi⟩=>by
 obtain⟨ys,DF,hlen,hg⟩:=hg;obtain⟨w,_,f,_,_,ev,V2,_⟩:=F.ow.focus DF;have xR:=V2;simp only[cj] at xR;obtain⟨l,xs,iE,rfl,hl,rfl,hL⟩:=xR;obtain⟨_,hσ⟩:=cR I hp;refine lQ (pK SS Bd Be bO ho (bD (he (pd H (roots O)) []) cX hs) c8 kH c9 hs dX) FC pins s' σ H D J
  ⟨.ref M.a,.ref l,hσ,ev,.inl ⟨rfl,xs,ia.of hl⟩,ρ,O,_,I,hg,λt ht v H1 s1 a1=>?_⟩
 obtain⟨Jt,oU,hq⟩:=ht;have I0:=I.same s1;have F1:=F.now I0 (bF I);have I1:=I0.rebase (Z:=zf M O H) rfl;obtain⟨w2,f',GN,hS,sub,nd,wr⟩:=F1.put (ps:=ps) I1 hp oU DF;rw[gy s1 ev] at GN;cases GN;have xQ:=hS;simp only[cj] at xQ;obtain⟨l',ET,Lb,e',wN,rfl,V3⟩:=xQ;cases e';have hA:l∈roots O++(fp++M.Ox):=bU _ (cw _ (sub _ dw));refine⟨l,ET,v,rfl,rfl,wN,by rw[sizeLine_eq,V3.length];omega,?_⟩;refine Fi.nx _ _ σ _ (wr (y:=.lst (ys++[.lf t])) dw ?_) hq;simp only[cj];refine⟨l,ET++[v],Lb,rfl,aI,rfl,?_⟩;refine (V3.map (λt v q=>q.wrote hA wN rfl) λb hb=>aE λz=>?_).GO ((At.bR Jt a1).wrote hA wN rfl);subst z;exact (lx.mp nd).1 hb⟩
end
section
variable{M:Mz}{s:S}{A:qah}
theorem Mf.Z8{ps:List kS}{x:S}(F:Mf K M O fp s H)(I:ay K (zf M O H) [] O ρ σ H)(hp:ρ[M.k]?=some (some (.pin M.a s.t,false)))(oU:∀e∈ρ,fN e)(hg:s.get ps=some x) :
  ∃w f,valAt H (.ref M.a) ps=some w/\cj K H (roots O++(fp++M.Ox)) x w f/\(∀b∈f,b∈fp)/\f.Nodup /\
   ∀{H':Hp}{g:qah}{y:S},(∀b o,H b=some o->b∉f->H' b=some o)->g.Nodup->(∀b∈g,b∈f\/H b=none) ->
    (∀A',(∀t v,At K H (roots O++(fp++M.Ox)) t v->At K H' A' t v)->cj K H' A' y w g)->mj K M (kU M ρ (s.put ps y)) (s.put ps y) σ H':=by
 obtain⟨w,f1,f,f2,Ab,ev,hs,back⟩:=F.ow.focus hg;have sub:∀b∈f,b∈fp:=λb hb=>by rw[Ab];exact bU _ (cw _ hb)
 have mm:∀b∈f1++f2,b∈fp:=λb hb=>by
  rw[Ab];rcases cN.mp hb with z|z
  exact cw _ z;exact bU _ (bU _ z)
 have La:=F.nd;rw[Ab] at La;have n1:=zp.mp La;have n2:=zp.mp n1.2.1;refine⟨w,f,ev,hs,sub,n2.1,λ{H' g y} fr Z9 QE hy=>?_⟩;obtain⟨ho,hσ⟩:=cR I hp;have out:∀b∈f1++f2,b∉f:=λb hb z=>by
  rcases cN.mp hb with q|q
  exact n1.2.2 _ q _ (cw _ z) rfl;exact n2.2.2 _ z _ q rfl
 have go:∀t v,At K H (roots O++(fp++M.Ox)) t v->At K H' (roots O++((f1++(g++f2))++M.Ox)) t v:=λt v q=>by
  have q1:At K H (g++(roots O++(fp++M.Ox))) t v:=q.more λa ha=>by
   rcases cN.mp ha with z|z
   rcases QE a z with y|y
   exact .inl (bU _ (cw _ (sub a y)));exact .inr y;exact .inl z
  have q2:=q1.qe (H':=H') (as:=f) fr (λa ha=>bU _ (bU _ (cw _ (sub a ha)))) λa ha=>F.ow.mut a (sub a ha);refine q2.a8 λa ha=>?_;rcases cN.mp ha with z|z
  exact bU _ (cw _ z);rcases cN.mp z with z|z
  rcases cN.mp z with z|z
  exact bU _ (bU _ (cw _ (mm a (cw _ z))));rcases cN.mp z with z|z
  exact cw _ z;exact bU _ (bU _ (cw _ (mm a (bU _ z))));exact bU _ (bU _ (bU _ z))
 have QF:∀b∈fp,H b≠none:=λb hb=>by obtain⟨u,e,_⟩:=F.ow.mut b hb;rw[e];simp
 have each:∀b∈f1++(g++f2),b∈fp\/H b=none:=λb hb=>by
  rcases cN.mp hb with z|z
  exact .inl (mm b (cw _ z));rcases cN.mp z with z|z
  exact (QE b z).imp (sub b) id;exact .inl (mm b (bU _ z))
 have GP:∀b∈g,b∉f1++f2:=λb hb z=>by
  rcases QE b hb with y|y
  exact out b z y;exact QF b (mm b z) y
 refine F.write I oU (by rw[hp];simp) ho hσ (λb' o e n=>fr b' o e λz=>n (sub b' z)) (fp':=f1++(g++f2)) ?_ ?_ (λb hb=>?_) λb hb=>?_;refine back (H':=H') (A':=roots O++((f1++(g++f2))++M.Ox)) go (λb' QD=>?_) (hy _ go);obtain⟨u,e,_⟩:=F.ow.mut b' (mm b' QD);rw[e];exact fr _ _ e (out b' QD);refine zp.mpr ⟨n1.1,zp.mpr ⟨Z9,n2.2.1,λa ha b hb z=>?_⟩,λa ha b hb z=>?_⟩;subst z;exact GP a ha (bU _ hb);subst z;rcases cN.mp hb with y|y
 exact GP a y (cw _ ha);exact n1.2.2 _ ha _ (bU _ y) rfl;rcases each b hb with z|z
 exact F.nD b z;refine⟨λy=>I.zj b (cw _ y) z,λy=>I.zj b (bU _ y) z⟩;rcases each b hb with z|z
 exact F.fr b z;cases e:M.H0 b with
 |none=>exact .inr rfl
 |some o=>refine .inl (TL λn=>?_);rw[(F.kp b o e n).1] at z;cases z
theorem mj.put{t:T}(S:mj K M ρ s σ H)(hj:M.k≠j)(hi:bR t=true)(a:At K H A t v):mj K M (ρ.set j (some (t,false))) s (σ.set j (some v)) H:=by obtain⟨⟨O,fp,F,I⟩,hp⟩:=S;exact mj.of F (bF I) (I.put (λp hp=>absurd hp gb) (At.bR hi a)) (by rw[rP (Ne.symm hj)];exact hp)
end
section
variable{A:qah}
theorem bf.GQ{z:S}:∀{ys:List S}{vs:qak}{fp:qah},bf K H A (ys++[z]) vs fp->∃Te v f g,vs=Te++[v]/\fp=f++g/\bf K H A ys Te f/\cj K H A z v g
 |[],vs,fp,h=>by simp only[SY,bf] at h;obtain⟨v,r,f,g,rfl,rfl,h1,rfl,rfl⟩:=h;exact⟨[],v,[],f,rfl,by simp,by simp[bf],h1⟩
 |x::xs,vs,fp,h=>by simp only[Nf,bf] at h;obtain⟨v0,r,f,g,rfl,rfl,h1,h2⟩:=h;obtain⟨Te,v,f',g',rfl,rfl,h3,h4⟩:=bf.GQ h2;refine⟨v0::Te,v,f++f',g',rfl,by simp,?_,h4⟩;simp only[bf];exact⟨v0,Te,f,f',rfl,rfl,h1,h3⟩
theorem bf.V4:∀{xs:List S}{vs:qak}{fp:qah}{i:Nat}{t:T},bf K H A xs vs fp->xs[i]?=some (.lf t)->∃v,vs[i]?=some v/\At K H A t v:=λh e=>by obtain⟨v,f1,f,f2,e1,_,h1,_⟩:=h.focus e;simp only[cj] at h1;exact⟨v,e1,h1.2⟩
end
section
variable{M:Mz}{ps:List kS}{f:Str}{pos V5 V6:Pos}
noncomputable def V7(M:Mz)(j:Nat)(ps:List kS)(C:Addr)(f:Str):FM:=λd ρ s=>∃ys ns zs i t,M.k≠j/\s.get ps=some (.lst (ys++[.ins C ns zs]))/\kT f ns=some i/\zs[i]?=some (.lf t)/\bR t=true/\(∀e∈ρ,fN e)/\d.nx ((kU M ρ (s.put ps (.lst ys))).set j (some (t,false))) (s.put ps (.lst ys))
theorem Lc(hN:X.N.Nodup)(hj:X.N[j]?=some x)(hx:Loc X.env.scope x)(cl:zC X.K C)(na:bp X.K C f)(ho:PE X o (jx M.k ps))(c8:attributeBase o "pop" X.env (eval o X.env)=eval o X.env:=by rfl)(c9:(apos.endLine==aZ.line)=true:=by rfl)(Tf:attributeBase (.Call (.Attribute o "pop" apos) [] [] aZ) f X.env (eval (.Call (.Attribute o "pop" apos) [] [] aZ) X.env)=eval (.Call (.Attribute o "pop" apos) [] [] aZ) X.env:=by rfl)(hs:swapsWith (.Attribute (.Call (.Attribute o "pop" apos) [] [] aZ) f V5) (some (.Name x V6)) pos.line X.env=pure false:=by rfl)(hf:X.fn x=true\/X.env.scope.names.lookup x=some .local:=by first|exact .inl rfl|exact .inr rfl|assumption) :
  MS X M (.Assign [.Name x V6] (.Attribute (.Call (.Attribute o "pop" apos) [] [] aZ) f V5) pos) (V7 M j ps C f):=⟨λpins s' σ H D J ⟨ρ,s,d,⟨⟨O,fp,F,I⟩,hp⟩,hg,Fi⟩=>by
 obtain⟨ys,ns,zs,i,t,hkj,DF,Z6,hz,Jt,oU,hq⟩:=hg;obtain⟨w,f',ev,hS,sub,nd,wr⟩:=F.Z8 (ps:=ps) I hp oU DF;have xQ:=hS;simp only[cj] at xQ;obtain⟨l,xs,iE,rfl,hl,rfl,hL⟩:=xQ;obtain⟨xs0,v,g1,g2,rfl,rfl,hL1,hZ⟩:=hL.GQ;simp only[cj] at hZ;obtain⟨a,dx,vs,fz,rfl,hlen,ha,rfl,hLz⟩:=hZ;obtain⟨u,eu,au⟩:=hLz.V4 hz;obtain⟨_,hσ⟩:=cR I hp;have nl:=lx.mp nd;have X7:a≠l:=λz=>nl.1 (by rw[<- z];exact bU _ dw);have hA:l∈roots O++(fp++M.Ox):=bU _ (cw _ (sub _ dw));refine uu hN hj hx (zF (zQ SS Xx Xy uE ho c8 c9) Tf) hs hf pins s' σ H D J
  ⟨.ref M.a,.ref l,hσ,ev,.inl ⟨rfl,_,ia.of hl⟩,l,_,.ref a,rfl,rfl,hl,by simp,a,C,dx,_,u,rfl,by rw[aE X7];exact ha,cl,na,by rw[nC f ns vs Z6];exact eu,?_⟩
 rw[OB];refine Fi.nx _ _ _ _ (mj.put (A:=[]) (wr (H':=upd H l (.lst xs0)) (g:=l::g1) (y:=.lst ys) (λb o e n=>?_) ?_ (λb hb=>?_) λA' go=>?_) hkj Jt (At.bR Jt (au.wrote hA hl rfl))) hq;rw[aE λz=>n (by rw[z];exact dw)];exact e;refine lx.mpr ⟨λz=>nl.1 (cw _ z),(zp.mp nl.2).1⟩;rcases cT.mp hb with z|z
 exact .inl (by rw[z];exact dw);exact .inl (gG _ (cw _ z));simp only[cj];refine⟨l,xs0,g1,rfl,aI,rfl,hL1.map go λb hb=>aE λz=>?_⟩;subst z;exact nl.1 (cw _ hb)⟩
end
section
variable{M:Mz}{s:S}{A:qah}
theorem Mf.putN{N:qah}{ps:List kS}{x:S}(F:Mf K M O fp s H)(FN:cj K H (N++(roots O++(fp++M.Ox))) s (.ref M.a) fp)(hN:∀b∈N,b∉fp/\b∉roots O/\b∉M.Ox/\(b∈M.tw\/M.H0 b=none))(I:ay K (zf M O H) [] O ρ σ H)(hp:ρ[M.k]?=some (some (.pin M.a s.t,false)))(oU:∀e∈ρ,fN e)(hg:s.get ps=some x) :
  ∃w f,valAt H (.ref M.a) ps=some w/\cj K H (N++(roots O++(fp++M.Ox))) x w f/\(∀b∈f,b∈fp)/\f.Nodup /\
   ∀{H':Hp}{g:qah}{y:S},(∀b o,H b=some o->b∉f->H' b=some o)->g.Nodup->(∀b∈g,b∈f\/H b=none\/b∈N) ->
    (∀A',(∀t v,At K H (N++(roots O++(fp++M.Ox))) t v->At K H' A' t v)->cj K H' A' y w g)->mj K M (kU M ρ (s.put ps y)) (s.put ps y) σ H':=by
 obtain⟨w,f1,f,f2,Ab,ev,hs,back⟩:=FN.focus hg;have sub:∀b∈f,b∈fp:=λb hb=>by rw[Ab];exact bU _ (cw _ hb)
 have mm:∀b∈f1++f2,b∈fp:=λb hb=>by
  rw[Ab];rcases cN.mp hb with z|z
  exact cw _ z;exact bU _ (bU _ z)
 have La:=F.nd;rw[Ab] at La;have n1:=zp.mp La;have n2:=zp.mp n1.2.1;refine⟨w,f,ev,hs,sub,n2.1,λ{H' g y} fr Z9 QE hy=>?_⟩;obtain⟨ho,hσ⟩:=cR I hp;have out:∀b∈f1++f2,b∉f:=λb hb z=>by
  rcases cN.mp hb with q|q
  exact n1.2.2 _ q _ (cw _ z) rfl;exact n2.2.2 _ z _ q rfl
 have go:∀t v,At K H (N++(roots O++(fp++M.Ox))) t v->At K H' (roots O++((f1++(g++f2))++M.Ox)) t v:=λt v q=>by
  have q1:At K H (g++(N++(roots O++(fp++M.Ox)))) t v:=q.more λa ha=>by
   rcases cN.mp ha with z|z
   rcases QE a z with y|y|y
   exact .inl (bU _ (bU _ (cw _ (sub a y))));exact .inr y;exact .inl (cw _ y);exact .inl z
  have q2:=q1.qe (H':=H') (as:=f) fr (λa ha=>bU _ (bU _ (bU _ (cw _ (sub a ha))))) λa ha=>F.ow.mut a (sub a ha);refine q2.a8 λa ha=>?_;rcases cN.mp ha with z|z
  exact bU _ (bU _ (cw _ z));rcases cN.mp z with z|z
  rcases cN.mp z with z|z
  exact bU _ (bU _ (bU _ (cw _ (mm a (cw _ z)))));rcases cN.mp z with z|z
  exact cw _ z;exact bU _ (bU _ (bU _ (cw _ (mm a (bU _ z)))));exact bU _ (bU _ (bU _ (bU _ z)))
 have QF:∀b∈fp,H b≠none:=λb hb=>by obtain⟨u,e,_⟩:=F.ow.mut b hb;rw[e];simp
 have each:∀b∈f1++(g++f2),b∈fp\/H b=none\/b∈N:=λb hb=>by
  rcases cN.mp hb with z|z
  exact .inl (mm b (cw _ z));rcases cN.mp z with z|z
  exact (QE b z).imp (sub b) id;exact .inl (mm b (bU _ z))
 have GP:∀b∈g,b∉f1++f2:=λb hb z=>by
  rcases QE b hb with y|y|y
  exact out b z y;exact QF b (mm b z) y;exact (hN b y).1 (mm b z)
 refine F.write I oU (by rw[hp];simp) ho hσ (λb' o e n=>fr b' o e λz=>n (sub b' z)) (fp':=f1++(g++f2)) ?_ ?_ (λb hb=>?_) λb hb=>?_;refine back (H':=H') (A':=roots O++((f1++(g++f2))++M.Ox)) go (λb' QD=>?_) (hy _ go);obtain⟨u,e,_⟩:=F.ow.mut b' (mm b' QD);rw[e];exact fr _ _ e (out b' QD);refine zp.mpr ⟨n1.1,zp.mpr ⟨Z9,n2.2.1,λa ha b hb z=>?_⟩,λa ha b hb z=>?_⟩;subst z;exact GP a ha (bU _ hb);subst z;rcases cN.mp hb with y|y
 exact GP a y (cw _ ha);exact n1.2.2 _ ha _ (bU _ y) rfl;rcases each b hb with z|z|z
 exact F.nD b z;refine⟨λy=>I.zj b (cw _ y) z,λy=>I.zj b (bU _ y) z⟩;exact⟨(hN b z).2.1,(hN b z).2.2.1⟩;rcases each b hb with z|z|z
 exact F.fr b z;cases e:M.H0 b with
 |none=>exact .inr rfl
 |some o=>refine .inl (TL λn=>?_);rw[(F.kp b o e n).1] at z;cases z
 exact (hN b z).2.2.2
end
end VT
variable{M:VT.Mz}
namespace PySem
open Sem (wp)
section
variable{s:Shared}
variable{it:Addr}{o:Obj}{es:Array DictEntry}{ep:Nat}
end
end PySem
namespace VT
open PySem PySem.Spec PyProof.Rows L2
def kAd(o:Obj)(i:Nat):Addr:=match o.data with
 |.dict es _=>match es[i]? with
  |some e=>match e.key with
   |.ref b=>b
   |_=>0
  |none=>0
 |_=>0
section
variable{κ:Type}[DecidableEq κ]
def Z_:List κ->List α->κ->Option α
 |k::ks,t::ts,x=>if k=x then some t else Z_ ks ts x
 |_,_,_=>none
end
section
variable{a:Expr}{fc:FE}{pos:Pos}
def adf(fa fb:FE):FP:=λρ Q=>fa ρ λx=>fb ρ λy=>match x,y with
 |_,_=>False
def acx:T->T
 |.pin _ t=>t
 |t=>t
def acy(f:FE):FE:=λρ Q=>f ρ λt=>Q (acx t)
theorem bH(h:VR X Z e fa):VR X Z e (acy fa):=.mk λtm=>PE.weak (h tm) λσ H Q ⟨ρ,O,q,I,hf,k⟩=>⟨ρ,O,_,I,hf,λt ht v H' s z=>by
 refine k _ ht v H' s ?_;cases t with
 |pin b t=>
  obtain z|⟨a,_,r⟩:=z
  simp only[At] at z;exact .inl z.2;exact r.elim
 |_=>exact z⟩
end
end VT
namespace PySem
open Sem (wp)
end PySem
namespace VT
open PySem PySem.Spec PyProof.Rows L2
structure MG where
 a:Addr
 dx:Addr
 a1:Addr
 a2:Addr
 C:Addr
 H0:Hp
 n1:a≠a1
 n2:a≠a2
 n3:a1≠a2
structure S2 where
 k1:List (List Key)
 t1:qaj
 k2:List (List Key)
 t2:qaj
section
variable{M:MG}{tm:qab}{s:S2}
noncomputable def vwO(b:Option T):Option (T×Bool):=b.map λt=>(t,false)
end
structure GEn where
 nx:En->S2->Prop
 rt:S2->T->Prop
 bk:En->S2->Prop:=λ_ _=>False
 ct:En->S2->Prop:=λ_ _=>False
abbrev FG2:=GEn->En->S2->Prop
section
variable{A:qah}
theorem At.frame{t:T}(here:∀b∈A,∃u,H b=some u/\km u=true)(fr:∀b o,H b=some o->b∉A->H' b=some o)(h:At K H A t v):At K H' A t v:=by
 have rd:∀{a:Addr}{u:HO},a∉A->Rd H a u->Rd H' a u:=λn q=>q.elim (λz=>.inl (fr _ _ z n)) λ⟨o,z⟩=>.inr ⟨o,fr _ _ z n⟩;refine At.map (λa vs q=>q.elim (λz=>.inl ⟨rd z.2 z.1,z.2⟩) .inr) (λa vs q=>q.elim (λz=>.inl (rd (λm=>?_) z)) .inr) (λa u q=>⟨fr _ _ q.1 q.2,q.2⟩) h;obtain⟨u,e,mu⟩:=here a m;obtain z|⟨o,z⟩:=z
 rw[e] at z;cases z;cases mu;rw[e] at z;cases z;cases mu
end
section
variable{Gg:T->S2->(S2->T->Prop)->Prop}{Gli:qaj->(qam)->Prop}
theorem QG(K:qaf)(H:Hp):ay K ⟨H,[],[]⟩ [] [] [] [] H:=⟨rfl,rfl,λi e h=>by simp at h,JD,λa h=>absurd h gb,λp hp=>absurd hp gb,λa h=>absurd h gb,λb o e _=>e,λp hp=>absurd hp gb⟩
end
section
variable{F1 F2:Str}
noncomputable def V8(K:qaf)(C:Addr)(F1 F2:Str)(i n:Nat):TE:=λσ H Q=>∃v1 t1 p ks ts,σ[i]?=some (some v1)/\σ[n]?=some (some (.ref p))/\bR t1=true/\At K H [] t1 v1/\At K H [] (.dk ks ts) (.ref p) /\
 ∀a dx u H3,aY H H3->H a=none->H3 a=some (.ins C dx ([F1,F2].zip [u,.ref p]))->At K H3 [] t1 u->Q (.ref a) H3
theorem QH{xC:Str}{kC:Nat}{fI:Addr}{V9:FuncData}{psI:qai}{GI:qaj->(T->Prop)->Prop}{pC pd1 Tg pc:Pos}(MI:Mk X.K C fI)(FI:cA X.prog X.w X.K X.mg X.base eV kC fI V9 psI (NT X.K C 2 GI))(hGI:∀t1 t2 q,q (.ins C [F1,F2] [t1,t2])->GI [t1,t2] q)(rI:bz (kC+1) X.A)(gI:Gl X xC)(mI:X.mg xC=some (.ref C))(bI:Binds X.K V9 psI [])(hN:X.N[i]?=some x:=by rfl)(hv:kF X.env.scope x:=by first|exact Or.inl rfl|exact Or.inr (Or.inl rfl)|exact Or.inr (Or.inr rfl))(hd:ie x:=by decide)(gn:uj x:=by decide)(hN2:X.N[n]?=some y:=by rfl)(hv2:kF X.env.scope y:=by first|exact Or.inl rfl|exact Or.inr (Or.inl rfl)|exact Or.inr (Or.inr rfl))(hd2:ie y:=by decide)(acz:uj y:=by decide)(db1:ie xC:=by decide)(s1:starEach [.Name x pd1,.Name y Tg] X.env=(false,eval (.Name x pd1) X.env)::starEach [.Name y Tg] X.env:=by rfl)(s2:starEach [.Name y Tg] X.env=(false,eval (.Name y Tg) X.env)::starEach [] X.env:=by rfl)(s3:(backTo pc (starEach [.Name y Tg] X.env)).any (·.1)=false:=by rfl):PE X (.Call (.Name xC pC) [.Name x pd1,.Name y Tg] [] pc) (V8 X.K C F1 F2 i n) :=
 PE.weak (uw MI FI rI gI mI bI .nil ko (bD (bV hN hv hd gn) (bD (bV hN2 hv2 hd2 acz) cX s2) s1) db1 s1 s3) λσ H Q h=>by obtain⟨v1,t1,p,ks,ts,e1,e2,hi,a1,a2,k⟩:=h;refine⟨v1,e1,.ref p,e2,?_⟩;refine BW (X:=X) (Z:=⟨_,[],[]⟩) (C:=C) (G:=GI) (Q:=Q) (q:=λr=>r=.fr (.ins C [F1,F2] [t1,.pin p (.dk ks ts)])) (QG X.K _) (ts:=[t1,.pin p (.dk ks ts)]) (vs:=[v1,.ref p]) (aB.cons a1 (aB.cons ?_ aB.nil)) rfl (hGI _ _ (λu=>Rt.fr u=.fr (.ins C [F1,F2] [t1,.pin p (.dk ks ts)])) rfl) (λr er v H3 sm z=>?_);unfold At;exact⟨rfl,a2⟩;subst er;obtain⟨a,rfl,_,⟨dx,vs,hl,ea,hv⟩,n0,_⟩:=z;simp only[aB] at hv;obtain⟨u,_,rfl,h1,_,_,rfl,h2,rfl⟩:=hv;unfold At at h2;obtain⟨rfl,_⟩:=h2;exact k a dx u H3 sm n0 ea (At.bR hi h1)
end
section
variable{A:qah}
theorem bf.snoc{z:S}{g:qah}:∀{xs:List S}{vs:qak}{fp:qah},bf K H A xs vs fp->cj K H A z v g->bf K H A (xs++[z]) (vs++[v]) (fp++g)
 |[],vs,fp,h,q=>by simp only[bf] at h;obtain⟨rfl,rfl⟩:=h;simp only[SY,bf];exact⟨v,[],g,[],rfl,by simp,q,rfl,rfl⟩
 |x::xs,vs,fp,h,q=>by simp only[bf] at h;obtain⟨v0,r,f,f2,rfl,rfl,h1,h2⟩:=h;simp only[Nf,bf];exact⟨v0,r++[v],f,f2++g,rfl,by simp,h1,h2.snoc q⟩
end
theorem kX:∀{O:HD}{n:Nat}{p:Addr},(roots O).Nodup->O[n]?=some (some p)->p∉roots (O.set n none)
 |[],n,p,_,e=>by simp at e
 |o::O,0,p,h,e=>by cases e;simp only[roots,Nc,mW,id] at h ⊢;exact (lx.mp h).1
 |o::O,n+1,p,h,e=>by
  have e':O[n]?=some (some p):=by simpa using e
  cases o with
  |none=>simp only[roots,EZ,mW,id] at h ⊢;exact kX h e'
  |some a=>
   simp only[roots,EZ,mW,id] at h ⊢;have h2:=lx.mp h;intro z;rcases cT.mp z with y|y
   exact h2.1 (by rw[<- y];exact aN.mpr (gH e'));exact kX h2.2 e' y
section
variable{mk:Expr}{ps:List kS}{F1 F2:Str}{pos:Pos}
noncomputable def V_(M:Mz)(ps:List kS)(C:Addr)(F1 F2:Str)(i n:Nat):FM:=λd ρ s=>∃ys t1 ks ts,s.get ps=some (.lst ys)/\ys.length<16777216/\M.k≠n/\ρ[i]?=some (some (t1,false))/\bR t1=true/\ρ[n]?=some (some (.dk ks ts,true))/\dG ts=true/\(∀e∈ρ,fN e) /\
 d.nx (kU M (ρ.set n none) (s.put ps (.lst (ys++[.ins C [F1,F2] [.lf t1,.dk ks ts]])))) (s.put ps (.lst (ys++[.ins C [F1,F2] [.lf t1,.dk ks ts]])))
theorem Ld(ho:PE X o (jx M.k ps))(he:PE X mk (V8 X.K C F1 F2 i n))(c8:attributeBase o "append" X.env (eval o X.env)=eval o X.env:=by rfl)(kH:((backTo aZ (starEach [mk] X.env)).all (λx=>!x.1) && (backToKw aZ (keywordEach [] X.env)).all (λx=>x.1.isSome)
    && decide (([mk]:qap).length+([]:List Keyword).length+(if ([]:List Keyword).isEmpty then 0 else 1)<30))=true:=by rfl)(c9:(apos.endLine==aZ.line)=true:=by rfl)(hs:starEach [mk] X.env=(false,eval mk X.env)::starEach [] X.env:=by rfl)(dX:(backTo aZ (starEach [] X.env)).any (·.1)=false:=by rfl)(FC:swapsWith (.Call (.Attribute o "append" apos) [mk] [] aZ) none pos.line X.env=pure false:=by rfl) :
  MS X M (.Expr (.Call (.Attribute o "append" apos) [mk] [] aZ) pos) (V_ M ps C F1 F2 i n):=⟨λpins s' σ H D J ⟨ρ,s,d,⟨⟨O,fp,F,I⟩,hp⟩,hg,Fi⟩=>by
 obtain⟨ys,t1,ks,ts,DF,hlen,Ac,hi,hi1,hn,fR,oU,hq⟩:=hg;obtain⟨w,f1,f,f2,Ab,ev,V2,_⟩:=F.ow.focus DF;have xR:=V2;simp only[cj] at xR;obtain⟨l,xs,iE,rfl,hl,rfl,hL⟩:=xR;have X8:l∈fp:=by rw[Ab];simp
 obtain⟨_,hσ⟩:=cR I hp;obtain⟨_,_,_,z1,rfl,v1,rfl,b1⟩:=I.sl i _ hi;obtain⟨p,hO,z2,hR⟩:=I.root hn;have Th:p∈roots O:=aN.mpr (gH hO);obtain⟨vs,hlk,V',hvs⟩:=hR;have npl:p≠l:=λz=>(F.nD l X8).1 (by rw[<- z];exact Th);refine lQ (pK SS Bd Be bO ho (bD he cX hs) c8 kH c9 hs dX) FC pins s' σ H D J
  ⟨.ref M.a,.ref l,hσ,ev,.inl ⟨rfl,xs,ia.of hl⟩,v1,t1,p,ks,ts,z1,z2,hi1,At.bR hi1 b1,?_,λa dx u H3 sm na ea au=>?_⟩
 simp only[At];exact⟨p,vs,rfl,hlk,⟨V',λz=>nomatch z⟩,hvs.a8 λb hb=>nomatch hb⟩;have I3f:=(I.same sm).forget (i:=n) (λp hp=>absurd hp gb);have F3:=F.now I3f (bF I);have I3:=I3f.rebase (Z:=zf M O H) rfl;have Wa:(ρ.set n none)[M.k]?=some (some (.pin M.a s.t,false)):=by rw[rP (Ne.symm Ac)];exact hp
 have acA:∀e∈ρ.set n none,fN e:=λe he=>by
  rcases SR he with z|z
  exact oU e z;rw[z];trivial
 have FN:cj X.K H3 ([p,a]++(roots (O.set n none)++(fp++M.Ox))) s (.ref M.a) fp:=(F.ow.more λb hb=>by
  rcases cN.mp hb with z|z
  simp only[cT,gb,or_false] at z;obtain rfl|rfl:=z
  exact .inl (cw _ Th);exact .inr na;rcases cN.mp z with z|z
  exact .inl (cw _ (b_ n b z));exact .inl (bU _ z)).same sm
 have QF:∀b∈fp,H b≠none:=λb hb=>by obtain⟨u,e,_⟩:=F.ow.mut b hb;rw[e];simp
 have hN:∀b∈[p,a],b∉fp/\b∉roots (O.set n none)/\b∉M.Ox/\(b∈M.tw\/M.H0 b=none):=λb hb=>by
  simp only[cT,gb,or_false] at hb;obtain rfl|rfl:=hb
  refine⟨λz=>(F.nD _ z).1 Th,kX I.nd hO,(I.own _ Th).2.1,?_⟩;cases e:M.H0 b with
  |none=>exact .inr rfl
  |some o=>exact .inl (TL λn=>(F.kp b o e n).2 Th)
  refine⟨λz=>QF _ z na,λz=>I.zj _ (cw _ (b_ n _ z)) na,λz=>I.ox _ z na,?_⟩;cases e:M.H0 b with
  |none=>exact .inr rfl
  |some o=>refine .inl (TL λn=>?_);have:=(F.kp b o e n).1;rw[na] at this;cases this
 obtain⟨w2,f',GN,hS,sub,nd,wr⟩:=F3.putN FN hN I3 Wa acA DF;rw[gy sm ev] at GN;cases GN;have xQ:=hS;simp only[cj] at xQ;obtain⟨l',ET,Lb,e',wN,rfl,V3⟩:=xQ;cases e';have X7:a≠l:=λz=>QF l X8 (by rw[<- z];exact na);have nap:a≠p:=λz=>by rw[z,V'] at na;cases na
 have nl:=lx.mp nd;refine⟨l,ET,.ref a,rfl,rfl,wN,by rw[sizeLine_eq,V3.length];omega,?_⟩;refine Fi.nx _ _ σ _ (wr (H':=upd H3 l (.lst (ET++[.ref a]))) (g:=l::(Lb++[a,p])) (y:=.lst (ys++[.ins C [F1,F2] [.lf t1,.dk ks ts]])) (λb o e n=>?_) ?_ (λb hb=>?_) λA' go=>?_) hq;rw[aE λz=>n (by rw[z];exact dw)];exact e;refine lx.mpr ⟨λz=>?_,zp.mpr ⟨nl.2,by simp[nap],λx hx y hy z=>?_⟩⟩;rcases cN.mp z with z|z
 exact nl.1 z;simp only[cT,gb,or_false] at z;obtain z|z:=z
 exact X7 z.symm;exact npl z.symm;subst z;have hxf:x∈fp:=sub x (gG _ hx);simp only[cT,gb,or_false] at hy;obtain rfl|rfl:=hy
 exact QF _ hxf na;exact (F.nD _ hxf).1 Th;rcases cT.mp hb with z|z
 exact .inl (by rw[z];exact dw);rcases cN.mp z with z|z
 exact .inl (gG _ z);refine .inr (.inr ?_);simp only[cT,gb,or_false] at z ⊢;exact z.symm;simp only[cj];refine⟨l,ET++[.ref a],Lb++[a,p],rfl,aI,rfl,(V3.map go λb hb=>aE λz=>?_).snoc ?_⟩;subst z;exact nl.1 hb;have Wb:cQ X.K (upd H3 l (.lst (ET++[.ref a]))) A' p (.dk ks ts):=cQ.bR (t:=.dk ks ts) (A:=av (zf M O H) O) fR ⟨vs,hlk,V',hvs⟩ (by rw[aE npl,sm _ _ V',V']) λt v hi q=>go t v (At.bR hi (q.same sm));obtain⟨jr,acB,acC,acD⟩:=Wb;simp only[cj,bf];exact⟨a,dx,[u,.ref p],[p],rfl,rfl,by rw[aE X7];exact ea,rfl,u,[.ref p],[],[p],rfl,rfl,⟨rfl,go t1 u (At.bR hi1 au)⟩,.ref p,[],[p],[],rfl,rfl,⟨p,jr,rfl,rfl,acB,acC,acD⟩,rfl,rfl⟩⟩
end
noncomputable def i8(K:qaf)(n:Nat)(G:qaj->S->(S->T->Prop)->Prop):Sp:=λvs H Q _=>∃(a:Addr)(Ox fp:qah)(s:S)(us:qaj)(ws:qak)(q:S->T->Prop),vs=.ref a::ws/\fp.Nodup/\cj K H (fp++Ox) s (.ref a) fp/\(∀b∈fp,b∉Ox)/\(∀b∈Ox,H b≠none) /\
 us.length=n/\aB K H Ox us ws/\G us s q /\
 ∀s' t,q s' t->∀v H' fp',(∀b o,H b=some o->b∉fp->H' b=some o)->fp'.Nodup->(∀b∈fp',b∈fp\/H b=none)->(∀b∈fp',b∉Ox)->cj K H' (fp'++Ox) s' (.ref a) fp'->bR t=true->At K H' [] t v->Q v H'
section
theorem EW{st:Stmt}{N:qai}{k:Nat}{G:qaj->S->(S->T->Prop)->Prop}(F:Bw K x qual st f fd)(S:az N ps (ah st))(hn:n+1=ps.length)(hN:n+1<=N.length)(dN:∀(bA:Value) (A:Around) (outer:List Env) (s:Shared) (H:Hp) (E:XK) (M:Mz),M.k=0->bz k (A.deeper (envOfC qual (ah st) s.heap.objs.size f bA))->∀us s0 q,G us s0 q->us.length=n ->
    ∃g,DD (gh eV P w K mg base N qual (ah st) f bA A outer s H E).pB M (bK st) g/\g {nx:=λ_ s'=>q s' .aQ,rt:=λ_ s' r=>∃t,r=.vw t/\bR t=true/\q s' t} (some (.pin M.a s0.t,false)::(us.map (λt=>some (t,false))++List.replicate (N.length-(n+1)) none)) s0) :
  cA P w K mg base eV (k+1) f fd ps (i8 K n G):=by
 refine F.ok S (λvs H Q E h=>?_) (λbA A outer s H vs Q E hr h=>?_);obtain⟨a,Ox,fp,s,us,ws,q,rfl,_,_,_,_,hu,hA,_⟩:=h;rw[wI,hA.length,hu];exact hn;obtain⟨a,Ox,fp,s0,us,ws,q,rfl,nd,ow,nD,ox,hu,hA,hG,kk⟩:=h;obtain⟨g,hg,hq⟩:=dN bA A outer s H E ⟨H,fp,Ox,a,0⟩ rfl hr us s0 q hG hu;have view:At K H Ox s0.t (.ref a):=ow.view (λb hb=>bU _ hb) nD;have env:=j9 (K:=K) (N:=N) (H:=H) (Ox:=Ox) (ts:=.pin a s0.t::us) (vs:=.ref a::ws) (by rw[wI,hu];exact hN) ox (aB.cons (by simp only[At];exact⟨trivial,view⟩) hA);have fin:∀(ρ:En)(s':VT.S)(σ:St)(H':Hp)(O:HD)(fp':qah)(t:T)(v:V),Mf K ⟨H,fp,Ox,a,0⟩ O fp' s' H'->bR t=true->(∃A,At K H' A t v)->q s' t->Q v H':=λρ s' σ H' O fp' t v F' hi ⟨A,av⟩ hq=>
  kk s' t hq v H' fp' (λb o e n=>(F'.kp b o e n).1) F'.nd F'.fr (λb hb=>(F'.nD b hb).2) (F'.ow.a8 λb hb=>bU _ hb) hi (At.bR hi av)
 refine⟨_,hg.h,_,s0,_,⟨⟨List.replicate N.length none,fp,⟨?_,nd,λb hb=>⟨by rw[dj];simp,nD b hb⟩,λb hb=>.inl hb,λb o e _=>⟨e,by rw[dj];simp⟩⟩,?_⟩,?_⟩,hq,⟨λρ s' σ H' S' z=>?_,λρ s' σ H' r v O fp' Of Hf F' cU R z=>?_,λ_ _ _ _ _ z=>z.elim,λ_ _ _ _ _ z=>z.elim⟩⟩;rw[dj];exact ow;have e:=env.rebase rfl;have ln:(T.pin a s0.t::us).length=n+1:=by rw[wI,hu]
 rw[ln] at e;exact e;rfl;obtain⟨⟨O,fp',F',I'⟩,_⟩:=S';exact fin ρ s' σ H' O fp' .aQ .aQ F' rfl ⟨[],by simp only[At]⟩ z;obtain⟨t,rfl,hi,z⟩:=z;exact fin ρ s' σ H' O fp' t v (F'.now R.1 cU) hi ⟨_,R.2⟩ z
end
section
variable{pos:Pos}
noncomputable def B2(M:Mz)(n:Nat)(G:qaj->S->(S->T->Prop)->Prop)(fa:FA):FM:=λd ρ s=>(∀e∈ρ,fN e)/\fa ρ λus=>us.length=n/\G us s λs' _=>d.nx (kU M ρ s') s'
theorem xS{G:qaj->S->(S->T->Prop)->Prop}{s:S}{us:qaj}{ws:qak}{q:S->T->Prop}{Q:VK}{E:XK}(F:Mf K M O fp s H)(I:ay K (zf M O H) [] O ρ σ H)(hp:ρ[M.k]?=some (some (.pin M.a s.t,false)))(oU:∀e∈ρ,fN e)(hu:us.length=n)(ha:aB K H (roots O++M.Ox) us ws)(hG:G us s q)(k:∀s' t,q s' t->∀v H',mj K M (kU M ρ s') s' σ H'->bR t=true->At K H' [] t v->Q v H'):i8 K n G (.ref M.a::ws) H Q E:=by
 obtain⟨ho,hσ⟩:=cR I hp;refine⟨M.a,roots O++M.Ox,fp,s,us,ws,q,rfl,F.nd,F.ow.a8 λb hb=>?_,λb hb z=>?_,I.zj,hu,ha,hG,λs' t hq v H' fp' fr nd each nD ow hi av=>?_⟩;rcases cN.mp hb with z|z
 exact bU _ (cw _ z);rcases cN.mp z with z|z
 exact cw _ z;exact bU _ (bU _ z);rcases cN.mp z with z|z
 exact (F.nD b hb).1 z;exact (F.nD b hb).2 z;refine k s' t hq v H' (F.write I oU (by rw[hp];simp) ho hσ fr (fp':=fp') (ow.a8 λb hb=>?_) nd (λb hb=>⟨λz=>nD b hb (cw _ z),λz=>nD b hb (bU _ z)⟩) λb hb=>?_) hi av;rcases cN.mp hb with z|z
 exact bU _ (cw _ z);rcases cN.mp z with z|z
 exact cw _ z;exact bU _ (bU _ z);rcases each b hb with z|z
 exact F.fr b z;cases e:M.H0 b with
 |none=>exact .inr rfl
 |some o=>refine .inl (TL λn=>?_);rw[(F.kp b o e n).1] at z;cases z
theorem Le{k:Nat}{G:qaj->S->(S->T->Prop)->Prop}{fa:FA}(Fo:cA X.prog X.w X.K X.mg X.base eV k f fd ps (i8 X.K n G))(hr:bz k X.A)(hg:Gl X x)(hm:X.mg x=some (.ref f))(hk:PySem.W.keepIn X.K (.ref f)=true)(hb:Binds X.K fd ps [])(ha:∀H0,VA X ⟨H0,[],M.Ox⟩ es fa)(hN:X.N[M.k]?=some y)(hv:kF X.env.scope y:=by first|exact Or.inl rfl|exact Or.inr (Or.inl rfl)|exact Or.inr (Or.inr rfl))(hd:ie y:=by decide)(gn:uj y:=by decide)(m8:ie x:=by decide)(he:starEach (.Name y p1::es) X.env=(false,eval (.Name y p1) X.env)::starEach es X.env:=by rfl)(ic:(backTo aZ (starEach es X.env)).any (·.1)=false:=by rfl)(hs:swapsWith (.Call (.Name x p) (.Name y p1::es) [] aZ) none pos.line X.env=pure false:=by rfl) :
  MS X M (.Expr (.Call (.Name x p) (.Name y p1::es) [] aZ) pos) (B2 M n G fa):=⟨λpins s' σ H D J ⟨ρ,s,d,⟨⟨O,fp,F,I⟩,hp⟩,Lf,Fi⟩=>by
 obtain⟨oU,Lf⟩:=Lf;obtain⟨_,hσ⟩:=cR I hp;refine lQ (lU Fo hr hg hm hk hb .nil ko (bD (bV hN hv hd gn) (ha (pd H (roots O)) []) he) m8 he ic) hs pins s' σ H D J ⟨.ref M.a,hσ,ρ,O,_,I,Lf,λus Pt ws H1 s1 a1=>?_⟩;obtain⟨hu,hG⟩:=Pt;have I0:=I.same s1;have F1:=F.now I0 (bF I);have I1:=I0.rebase (Z:=zf M O H) rfl;rw[CC];exact xS F1 I1 hp oU hu a1 hG λs2 t hq v H' S' _ _=>Fi.nx _ _ σ H' S' hq⟩
end
section
variable{pos:Pos}
theorem eG{k k':Nat}{G:qaj->S->(S->T->Prop)->Prop}{fa:FA}(C:bS X.prog X.w X.K X.mg X.base x ps k (i8 X.K n G))(hr:bz k' X.A)(ha:∀H0,VA X ⟨H0,[],M.Ox⟩ es fa)(hN:X.N[M.k]?=some y)(hg:Gl X x:=by rfl)(hk:k<=k':=by decide)(hv:kF X.env.scope y:=by first|exact Or.inl rfl|exact Or.inr (Or.inl rfl)|exact Or.inr (Or.inr rfl))(hd:ie y:=by decide)(gn:uj y:=by decide)(m8:ie x:=by decide)(he:starEach (.Name y p1::es) X.env=(false,eval (.Name y p1) X.env)::starEach es X.env:=by rfl)(ic:(backTo aZ (starEach es X.env)).any (·.1)=false:=by rfl)(hs:swapsWith (.Call (.Name x p) (.Name y p1::es) [] aZ) none pos.line X.env=pure false:=by rfl) :
  MS X M (.Expr (.Call (.Name x p) (.Name y p1::es) [] aZ) pos) (B2 M n G fa):=by
 obtain⟨f,fd,h1,h2,h3,F⟩:=C;exact Le F (hr.mono hk) hg h1 h2 h3 ha hN hv hd gn m8 he ic hs
end
end VT
namespace NK
open PySem PySem.Spec PySem.Calls PyProof.Rows L2
abbrev CK:=List Key×Key
def u_(P:Program)(w:World)(h:Heap)(c:CK)(a:Addr):Prop:=∃o items n b v,h.get? a=some o/\o.cls=.type "tuple"/\o.data=.seq items n/\items.toList=[.ref b,v]/\IsTupleKey (aX P w) h c.1 b/\(aX P w).is c.2 v=true
theorem u_.typeIs{s:Shared}{c:CK}(x:u_ P w s.heap c a):s.TypeIs (.ref a) "tuple":=let ⟨o,_,_,_,_,ho,hc,_⟩:=x;⟨o,ho,hc⟩
theorem u_.inj{x y:CK}(hx:u_ P w h x a)(hy:u_ P w h y a):x=y:=by
 obtain⟨o,items,n,b,v,ho,_,hd,hi,h1,h2⟩:=hx;obtain⟨o',acE,n',b',v',jb,_,ER,FH,BI,Ga⟩:=hy;obtain rfl:o=o':=Option.some.inj (ho.symm.trans jb);rw[hd] at ER;injection ER with e1 _
 subst e1;rw[hi] at FH;injection FH with e2 e3
 injection e2 with e2
 injection e3 with e3 _
 subst e2;subst e3;exact Prod.ext (h1.inj BI) ((aX P w).inj _ _ _ h2 Ga)
theorem u_.keeps{c:CK}{o:Obj}{es ep}(x:u_ P w h c a)(ho:h.get? d=some o)(hd:o.data=.dict es ep)(hs:Heap.SameBut d h h'):u_ P w h' c a:=by
 obtain⟨o',items,n,b,v,jb,hc,ER,hi,h1,h2⟩:=x;have gK:a≠d:=by rintro rfl;obtain rfl:o'=o:=Option.some.inj (jb.symm.trans ho);rw[hd] at ER;exact nomatch ER
 exact⟨o',items,n,b,v,(hs.2 a gK).trans jb,hc,ER,hi,h1.keeps ho hd hs,h2⟩
noncomputable def bu(P:Program)(w:World)(c:CK):Int:=reduceHash (Builtin.Tuple.tupleHashOf [tupleKeyHash (aX P w) c.1,(aX P w).hash c.2])
variable{s:Shared}
theorem qv{c:CK}{Q:Int->Shared->Prop}(hu:A.units+2<cLine)(hk:u_ P w s.heap c a)(h:Q (bu P w c) {s with toks:=s.toks+(c.1.length+3)}):wpAny (model P w) A (pyHash (.ref a)) Q E s:=by
 have hT:=hk.typeIs;obtain⟨o,items,n,b,v,ho,_,hd,hi,h1,h2⟩:=hk;unfold pyHash
 first|unfold pyHashByItsType|skip
 first|refine wpAny_bind (wpAny_cRoomFor_or (.inr (by omega)) ?_)|skip
 refine wpAny_bind (wpAny_specialOf hT F.slot_tuple_hash.lookup ?_);show wpAny _ _ (if (some (Value.builtin "tuple.__hash__")==some Value.none)=true then _ else _) Q E s;rw[if_neg (by rw[beq_builtin_none];exact iD)];refine wpAny_bind (wpAny_specialOf hT F.slot_tuple_hash.lookup ?_);show wpAny _ _ (callSpecialIfBoundUnlessNone? (.ref a) "__hash__" _ >>= _) Q E s;refine wpAny_bind (wpAny_callSpecialIfBoundUnlessNone?_slot hT F.slot_tuple_hash (wpAny_call_entry F.slot_tuple_hash hT F.entry_tuple_hash ?_ (F.args_tuple_hash_1 _)));show wpAny _ _ (Builtin.Tuple.tupleItemsOf (.ref a) >>= _) _ _ s;refine wpAny_bind (wpAny_tupleItemsOf ho hd ?_);refine wpAny_bind ?_;rw[<- Array.forIn_toList,hi];refine wpAny_forIn_list _
  (λrest (hs:Array Int) s'=>(rest=[.ref b,v]/\hs=#[]/\s'=s)\/(rest=[v]/\hs=#[tupleKeyHash (aX P w) c.1]/\s'={s with toks:=s.toks+(c.1.length+1)})\/(rest=[]/\hs=#[tupleKeyHash (aX P w) c.1,(aX P w).hash c.2]/\s'={s with toks:=s.toks+(c.1.length+1)+1}))
  _ ?_ ?_ _ _ (.inl ⟨rfl,rfl,rfl⟩)
 rintro x rest hs s' (⟨e,rfl,rfl⟩|⟨e,rfl,rfl⟩|⟨e,_⟩);cases e;refine wpAny_bind (wpAny_pyHash_tuple (knd:=aX P w) (by show A.units+1<cLine;omega) h1 ?_)
 first
  |exact wpAny_pure (.inr (.inl ⟨rfl,rfl,rfl⟩))
  |exact wpAny_bind (wpAny_pure (wpAny_pure (.inr (.inl ⟨rfl,rfl,rfl⟩))))
 cases e;refine wpAny_bind ((aX P w).pyHash h2 ?_)
 first
  |exact wpAny_pure (.inr (.inr ⟨rfl,rfl,rfl⟩))
  |exact wpAny_bind (wpAny_pure (wpAny_pure (.inr (.inr ⟨rfl,rfl,rfl⟩))))
 cases e;rintro hs s' (⟨e,_⟩|⟨e,_⟩|⟨_,rfl,rfl⟩);cases e;cases e;show wpAny _ _ (retInt (Builtin.Tuple.tupleHashOf [tupleKeyHash (aX P w) c.1,(aX P w).hash c.2])) _ _ _;refine wpAny_ret_mkInt ?_;have ht:s.toks+(c.1.length+1)+1+1=s.toks+(c.1.length+3):=by omega
 unfold bu reduceHash at h;generalize Builtin.Tuple.tupleHashOf [tupleKeyHash (aX P w) c.1,(aX P w).hash c.2]=z at h ⊢;show wpAny _ _ (if (decide (-(2:Int) ^ 63<=z) && decide (z<2 ^ 63))=true then _ else _) Q E _;by_cases hr:(decide (-(2:Int) ^ 63<=z) && decide (z<2 ^ 63))=true;rw[if_pos hr];rw[if_pos hr] at h;exact wpAny_pure (by rw[<- ht] at h;exact h);rw[if_neg hr];rw[if_neg hr] at h;exact wpAny_bind (wpAny_rule (wpAny_pure (by rw[<- ht] at h;exact h)))
theorem DH{x y:CK}{b:Addr}{R:Fin->Shared->Prop}(hu:A.units<cLine)(hx:u_ P w s.heap x a)(hy:u_ P w s.heap y b)(h:R (.done (.ret (.bool (decide (x=y))))) s) :
  wpAny (model P w) A (Builtin.«tuple.__eq__» ⟨[.ref a,.ref b],[]⟩) R E s:=by
 have hTb:=hy.typeIs;obtain⟨oa,xs,na,ba,va,hoa,_,hda,hia,ka,la⟩:=hx;obtain⟨ob,ys,nb,bb,vb,hob,_,m8,hib,kb,lb⟩:=hy;show wpAny _ _ (isInstance (.ref b) (.type "tuple") >>= _) _ _ s;refine wpAny_bind (wpAny_isInstance hTb isSubtype_tuple_tuple ?_);simp only[Jk,EK,if_false];refine wpAny_bind (wpAny_tupleItemsOf hoa hda ?_);refine wpAny_bind (wpAny_tupleItemsOf hob m8 ?_);refine wpAny_bind ?_;have sx:(xs.size==ys.size)=true:=by rw[<- Na,<- Na,hia,hib];rfl
 have dec:decide (x=y)=(decide (x.1=y.1) && decide (x.2=y.2)):=by rw[T3];simp[Prod.ext_iff]
 refine wpAny_forIn_list _
  (λrest r s'=>r.1=none/\s'=s/\((rest=List.zip xs.toList ys.toList)\/(rest=[(va,vb)]/\x.1=y.1)\/(rest=[]/\x=y))) _ ?_ ?_ _ _ ⟨rfl,rfl,.inl rfl⟩
 rintro⟨u,v⟩ rest r s' ⟨hr,rfl,h3⟩;obtain e|⟨e,e1⟩|⟨e,_⟩:=h3
 rw[hia,hib] at e;simp only[JB,List.zip_nil_right,List.cons.injEq,Prod.mk.injEq] at e;obtain⟨⟨rfl,rfl⟩,rfl⟩:=e;refine wpAny_bind (wpAny_eqBool_tuple hu ka kb ?_);by_cases hk:x.1=y.1;rw[decide_eq_true hk];simp only[Jk,EK,if_false];exact wpAny_pure ⟨rfl,rfl,.inr (.inl ⟨trivial,hk⟩)⟩;rw[decide_eq_false hk];simp only[Bool.not_false,if_true];have hf:decide (x=y)=false:=by rw[dec,decide_eq_false hk];rfl
 rw[hf] at h;exact wpAny_bind (wpAny_pure (wpAny_pure (wpAny_pure h)));simp only[List.cons.injEq,Prod.mk.injEq] at e;obtain⟨⟨rfl,rfl⟩,rfl⟩:=e;refine wpAny_bind ((aX P w).eqBool la lb ?_);by_cases hk:x.2=y.2;rw[decide_eq_true hk];simp only[Jk,EK,if_false];exact wpAny_pure ⟨rfl,rfl,.inr (.inr ⟨trivial,Prod.ext e1 hk⟩)⟩;rw[decide_eq_false hk];simp only[Bool.not_false,if_true];have hf:decide (x=y)=false:=by rw[dec,decide_eq_false hk,Bool.and_false]
 rw[hf] at h;exact wpAny_bind (wpAny_pure (wpAny_pure (wpAny_pure h)));cases e
 . rintro⟨r1,r2⟩ s' ⟨hr,rfl,h3⟩;simp only at hr;subst hr;refine wpAny_pure ?_;show R (.done (.ret (.bool (xs.size==ys.size)))) s';rw[sx];obtain e|⟨e,_⟩|⟨_,e⟩:=h3
   rw[hia,hib] at e;cases e;cases e;rw[decide_eq_true e] at h;exact h
theorem GR{x y:CK}{b:Addr}{Q:Bool->Shared->Prop}(hu:A.units+2<cLine)(hx:u_ P w s.heap x a)(hy:u_ P w s.heap y b)(h:Q (decide (x=y)) s) :
  wpAny (model P w) A (eqBool (.ref a) (.ref b)) Q E s:=by
 unfold eqBool
 try with_reducible refine wpAny_holding ?_
 show wpAny _ _ (if (Value.ref a==Value.ref b)=true then _ else _) Q E s;by_cases hab:(Value.ref a==Value.ref b)=true;rw[if_pos hab];have e:a=b:=by have:=eq_of_beq hab;injection this
 subst e;obtain rfl:=hx.inj hy;exact wpAny_bind (wpAny_rule (wpAny_pure (by simpa using h)));rw[if_neg hab];exact wpAny_bind (wpAny_richCompare_same_room (op:=.Eq) hx.typeIs hy.typeIs F.slot_tuple_eq
  (wpAny_call_entry F.slot_tuple_eq hx.typeIs F.entry_tuple_eq (DH (by show A.units+1<cLine;omega) hx hy ⟨_,rfl,(λe=>nomatch e),wpAny_truthy_bool h⟩) (F.args_tuple_eq_2 _ _)) (by omega))
theorem QI{Q:Bool->Shared->Prop}(hk:IsTupleKey (aX P w) s.heap ks a)(h:Q true s):wpAny (model P w) A (eqIsQuiet (n+1) (.ref a)) Q E s:=by have hT:=hk.typeIs;obtain⟨o,items,n,ho,_,hd,hi⟩:=hk;unfold eqIsQuiet;refine wpAny_bind (wpAny_specialOf hT F.slot_tuple_eq.lookup ?_);show wpAny _ _ (isInstance (.ref a) (.type "tuple") >>= _) _ _ s;refine wpAny_bind (wpAny_isInstance hT isSubtype_tuple_tuple ?_);simp only[Jk,EK,if_false];refine wpAny_bind (wpAny_seqItems ho hd ?_);refine wpAny_bind ?_;show wpAny _ _ (forIn items _ _) _ _ s;rw[<- Array.forIn_toList];refine wpAny_forIn_list _ (λrest r s'=>r.1=none/\s'=s/\∀v∈rest,carriedByValue v=true) _ ?_ ?_ _ _ ⟨rfl,rfl,hi.byValue⟩;rintro v rest r s' ⟨hr,rfl,C5⟩;rw[eqIsQuiet_byValue _ (C5 v dw)];refine wpAny_bind (wpAny_pure ?_);simp only[Jk,EK,if_false];exact wpAny_pure ⟨rfl,rfl,λu gq=>C5 u (gG _ gq)⟩;rintro⟨r1,r2⟩ s' ⟨hr,rfl,_⟩;simp only at hr;subst hr;exact wpAny_pure h
theorem B3{c:CK}{Q:Bool->Shared->Prop}(hk:u_ P w s.heap c a)(h:Q true s):wpAny (model P w) A (eqIsQuiet 8 (.ref a)) Q E s:=by have hT:=hk.typeIs;obtain⟨o,items,n,b,v,ho,_,hd,hi,h1,h2⟩:=hk;unfold eqIsQuiet;refine wpAny_bind (wpAny_specialOf hT F.slot_tuple_eq.lookup ?_);show wpAny _ _ (isInstance (.ref a) (.type "tuple") >>= _) _ _ s;refine wpAny_bind (wpAny_isInstance hT isSubtype_tuple_tuple ?_);simp only[Jk,EK,if_false];refine wpAny_bind (wpAny_seqItems ho hd ?_);refine wpAny_bind ?_;show wpAny _ _ (forIn items _ _) _ _ s;rw[<- Array.forIn_toList,hi];refine wpAny_forIn_list _ (λrest r s'=>r.1=none/\s'=s/\(rest=[.ref b,v]\/rest=[v]\/rest=[])) _ ?_ ?_ _ _ ⟨rfl,rfl,.inl rfl⟩;rintro u rest r s' ⟨hr,rfl,e|e|e⟩;cases e;refine wpAny_bind (QI h1 ?_);simp only[Jk,EK,if_false];exact wpAny_pure ⟨rfl,rfl,.inr (.inl trivial)⟩;cases e;rw[eqIsQuiet_byValue _ ((aX P w).byValue _ _ h2)];refine wpAny_bind (wpAny_pure ?_);simp only[Jk,EK,if_false];exact wpAny_pure ⟨rfl,rfl,.inr (.inr trivial)⟩;cases e;rintro⟨r1,r2⟩ s' ⟨hr,rfl,_⟩;simp only at hr;subst hr;exact wpAny_pure h
noncomputable def qw(P:Program)(w:World):HeapKind P w CK where
 is:=u_ P w
 hash:=bu P w
 draws:=λc=>c.1.length+3
 room:=λA=>A.units+2<cLine
 inj:=λhx hy=>hx.inj hy
 keeps:=λx ho hd hs=>x.keeps ho hd hs
 pyHash:=λhu hk h=>qv hu hk h
 eqBool:=λhu hx hy h=>GR hu hx hy h
 quiet:=λhk h=>B3 hk h
variable{s:Shared}
theorem xT{Q:Int->Shared->Prop}(hu:A.units<cLine)(h:∀z t,Q z {s with toks:=t}):wpAny (model P w) A (pyHash .none) Q E s:=by
 unfold pyHash
 first|unfold pyHashByItsType|skip
 first|refine wpAny_bind (wpAny_cRoomFor_or (.inr (by omega)) ?_)|skip
 have hT:s.TypeIs .none "NoneType":=rfl;refine wpAny_bind (wpAny_specialOf hT XB.lookup ?_);show wpAny _ _ (if (some (Value.builtin "NoneType.__hash__")==some Value.none)=true then _ else _) Q E s;rw[if_neg (by rw[beq_builtin_none];exact iD)];refine wpAny_bind (wpAny_specialOf hT XB.lookup ?_);show wpAny _ _ (callSpecialIfBoundUnlessNone? .none "__hash__" _ >>= _) Q E s;refine wpAny_bind (wpAny_callSpecialIfBoundUnlessNone?_slot hT XB (wpAny_call_entry XB hT F.entry_NoneType_hash ?_ (F.args_NoneType_hash_1 _)));show wpAny _ _ (retInt 4238894112) _ _ s;refine wpAny_ret_mkInt ?_;show wpAny _ _ (if (decide (-(2:Int) ^ 63<=4238894112) && decide ((4238894112:Int)<2 ^ 63))=true then _ else _) Q E _;rw[if_pos (by decide)];exact wpAny_pure (h _ _)
theorem find_none{o:Obj}{es ep}{xs:List (CK×Addr×Value)}{z:Int}{Q:Option Nat->Shared->Prop}(hu:A.units<cLine)(ho:s.heap.get? d=some o)(hd:o.data=.dict es ep)(he:es.toList=xs.map (entryOfKey (qw P w)))(Js:∀x∈xs,u_ P w s.heap x.1 x.2.1)(hq:Q none s) :
  wpAny (model P w) A (dictFind d .none z) Q E s:=by
 have GS:∀e∈es,∃x∈xs,e=entryOfKey (qw P w) x:=by intro e Ad;have:e∈xs.map (entryOfKey (qw P w)):=he▸Array.mem_toList_iff.mpr Ad;obtain⟨x,hx,rfl⟩:=sS.mp this;exact⟨x,hx,rfl⟩
 have JO:∀v∈(placesWithHash es.size (λi=>es[i]?.map (·.hash)) z).filterMap (λi=>es[i]?.map (·.key)),∃k' b,v=.ref b/\u_ P w s.heap k' b:=by
  intro v hv;obtain⟨i,_,hi⟩:=XC.mp hv;cases NX:es[i]? with
  |none=>rw[NX] at hi;cases hi
  |some e=>
    rw[NX] at hi;obtain rfl:e.key=v:=by simpa using hi
    obtain⟨x,hx,rfl⟩:=GS e (Array.mem_of_getElem? NX);exact⟨x.1,x.2.1,rfl,Js x hx⟩
 unfold dictFind
 try with_reducible refine wpAny_holding ?_
 refine wpAny_bind (wpAny_dictEntries ho hd ?_);dsimp only;have ic:∀i∈placesWithHash es.size (λi=>es[i]?.map (·.hash)) z,∃e,es[i]?=some e:=λi hi=>by
  unfold placesWithHash at hi;have:=(SX.mp hi).2;cases NX:es[i]? with
  |none=>have NY:(es[i]?.map (·.hash)==some z)=true:=this;rw[NX] at NY;simp at NY
  |some e=>exact⟨e,rfl⟩
 generalize placesWithHash es.size (λi=>es[i]?.map (·.hash)) z=places at JO ic ⊢;cases places with
 |nil=>rw[if_pos (by rfl)];unfold dictWalkPlain;refine wpAny_bind ?_;rw[List.forIn_nil];exact wpAny_pure (wpAny_pure hq)
 |cons i0 places=>
   obtain⟨e0,h0⟩:=ic i0 dw;have gK:(i0::places).filterMap (λi=>es[i]?.map (·.key))=e0.key::places.filterMap (λi=>es[i]?.map (·.key)):=by rw[mW,h0];rfl
   obtain⟨k0,b0,nE,_⟩:=JO e0.key (by rw[gK];exact dw);rw[if_neg (by rw[gK,nE];simp[carriedByValue])];have acF:¬ (((i0::places).filterMap (λi=>es[i]?.map (·.key)))==[Value.none])=true:=by
    rw[gK,nE];intro hc;have:=eq_of_beq hc;injection this with e1 _
    cases e1
   rw[if_neg acF];have tell:∀{Q':Bool->Shared->Prop},Q' false s->wpAny (model P w) A (tableMayTell .none ((i0::places).filterMap (λi=>es[i]?.map (·.key)))) Q' E s:=λ{Q'} d9=>by unfold tableMayTell;split;exact wpAny_pure d9;rw[eqIsQuiet_byValue _ (rfl:carriedByValue .none=true)];refine wpAny_bind (wpAny_pure ?_);simp only[Jk,EK,if_false];refine wpAny_bind ?_;refine wpAny_forIn_list _ (λrest r s'=>s'=s/\r=(none,())/\∀v∈rest,∃k' b,v=.ref b/\u_ P w s.heap k' b) _ ?_ ?_ _ _ ⟨rfl,rfl,JO⟩;rintro x rest r s' ⟨rfl,rfl,hr⟩;obtain⟨k',b,rfl,hb⟩:=hr x dw;refine wpAny_bind (B3 hb ?_);simp only[Jk,EK,if_false];exact wpAny_pure ⟨rfl,rfl,λv hv=>hr v (gG _ hv)⟩;rintro r s' ⟨rfl,rfl,_⟩;exact wpAny_pure d9
   refine wpAny_bind (tell ?_);rw[if_neg (by simp)];refine wpAny_bind ?_;refine wpAny_forIn_list _ (λrest b s'=>s'=s/\b=(none,none)/\∀i∈rest,∃e,es[i]?=some e) _ ?_ ?_ _ _ ⟨rfl,rfl,ic⟩;rintro i rest b s' ⟨rfl,rfl,hr⟩;obtain⟨e,NX⟩:=hr i dw;have cU:∀j∈rest,∃e,es[j]?=some e:=λj hj=>hr j (gG _ hj);obtain⟨x,hx,ex⟩:=GS e (Array.mem_of_getElem? NX);have hk:=Js x hx;rw[NX];dsimp only;by_cases hh:(e.hash==z)=true;rw[if_pos hh];obtain⟨ox,items,n,bx,vx,g1,g2,g3,g4,g5,g6⟩:=id hk;have hT:s'.heap.IsTuple x.2.1 items:=⟨ox,g1,g2,n,g3⟩;have ek:e.key=.ref x.2.1:=by rw[ex];rfl
   rw[ek];refine wpAny_bind (wpAny_dictEpoch ho hd (wpAny_bind (SeqAt.EqAt.tuple_none hT hu P w E _ (wpAny_bind (wpAny_dictEpoch ho hd ?_)))));rw[if_neg (by simp)];simp only[EK,if_false,T5];refine wpAny_bind (wpAny_rule ?_);exact wpAny_pure ⟨rfl,rfl,cU⟩;rw[if_neg hh];exact wpAny_pure ⟨rfl,rfl,cU⟩;rintro b s' ⟨rfl,rfl,_⟩;exact wpAny_pure hq
theorem qx(d:Addr)(hd:(d==sysModules)=false)(dflt:Value) :
  MeetsIn P w (Builtin.«dict.get» ⟨[.ref d,.none,dflt],[]⟩) (λA R s=>A.units+1<cLine/\∃xs,s.heap.DictOfH (qw P w) d xs/\∀t,R (.ok (.ret dflt)) {s with toks:=t}) :=
 .of_wp λA R s ⟨hu,xs,hm,h⟩=>by
  obtain⟨o,es,ep,ho,_,hdd,he,Js,hn⟩:=hm;show wpAny _ _ (dictGet d .none >>= _) _ _ s;refine wpAny_bind ?_;unfold dictGet
  try with_reducible refine wpAny_holding ?_
  refine wpAny_bind (xT hu λz t=>wpAny_bind (find_none (s:={s with toks:=t}) hu ho hdd he Js ?_));refine wpAny_pure ?_;show wpAny _ _ (Builtin.Dict.missed d .none >>= _) _ _ _;exact wpAny_bind (wpAny_missed_other hd (wpAny_pure ⟨dflt,rfl,h t⟩))
end NK
namespace VT
open PySem PySem.Spec PyProof.Rows L2
section
variable{g:FM}{pos:Pos}
def QJ(fc:FB)(g:FM):FM:=λd ρ s=>∃Pv:Nat->En->S->Prop,(∃m,Pv m ρ s)/\∀m ρ s,Pv m ρ s->fc ρ λb=>if b=true then g {d with nx:=λρ' s'=>∃m',m'<m/\Pv m' ρ' s',ct:=λρ' s'=>∃m',m'<m/\Pv m' ρ' s',bk:=d.nx} ρ s else d.nx ρ s
theorem GU{body:qaq}(hp:PassesOwn (model X.prog X.w) X.A X.env X.xe)(hc:∀H0,VC X ⟨H0,[],M.Ox⟩ c fc)(hb:DD X M body g):MS X M (.While c body [] pos) (QJ fc g):=⟨λpins s' σ H D J ⟨ρ,s,d,S0,hg,Fi⟩=>by
 obtain⟨Pv,⟨m0,p0⟩,step⟩:=hg;refine wR (tc:=λσ H Q=>∃H0,lB X ⟨H0,[],M.Ox⟩ [] fc σ H Q) hp (λpins s σ H Q I ⟨H0,h⟩=>(hc H0 []) pins s σ H Q I h) hb.h pins s' σ H D J ⟨λm σ H=>∃ρ s,mj X.K M ρ s σ H/\Pv m ρ s,⟨m0,ρ,s,S0,p0⟩,?_⟩;rintro m σ1 H1 ⟨ρ1,s1,⟨⟨O,fp,F,I⟩,hp1⟩,p1⟩;refine⟨pd H1 (roots O),ρ1,O,_,I,step m ρ1 s1 p1,λb hb H2 s2=>?_⟩;have St:mj X.K M ρ1 s1 σ1 H2:=mj.of F (bF I) (I.same s2) hp1;cases b with
 |true=>rw[if_pos rfl] at hb;dsimp only;rw[if_pos rfl];refine⟨λσ' H'=>∃m',m'<m/\∃ρ s,mj X.K M ρ s σ' H'/\Pv m' ρ s,λσ' H' z=>z,ρ1,s1,_,St,hb,?_⟩;exact⟨λρ s σ H I ⟨m',hm,p⟩=>⟨m',hm,ρ,s,I,p⟩,Fi.rt,Fi.nx,λρ s σ H I ⟨m',hm,p⟩=>⟨m',hm,ρ,s,I,p⟩⟩
 |false=>rw[if_neg iD] at hb;dsimp only;rw[if_neg iD];exact Fi.nx ρ1 s1 σ1 H2 St hb⟩
end
section
variable{k:Nat}{pos:Pos}
abbrev GV:=qaj->(qam)->Prop
end
section
variable{fe:Expr}{pos:Pos}
abbrev GM:=qaj->S->(S->T->Prop)->Prop
theorem GW{k:Nat}{Fn:Addr->GM->Prop}{tf:TE}{t:TA}(C:∀f G,Fn f G->PySem.W.keepIn X.K (.ref f)=true/\∃fd ps,Binds X.K fd ps []/\cA X.prog X.w X.K X.mg X.base eV k f fd ps (i8 X.K n G))(hr:bz k X.A)(hf:PE X fe tf)(ha:PA X (e::es) t)(he:starEach (e::es) X.env=(false,eval e X.env)::starEach es X.env:=by rfl)(ic:(backTo pos (starEach es X.env)).any (·.1)=false:=by rfl)(ht:eval (.Call fe (e::es) [] pos) X.env=(do
    let f <- eval fe X.env
    callWith pos f [] (backTo pos (starEach (e::es) X.env)) (backToKw pos (keywordEach [] X.env))):=by rfl) :
  PE X (.Call fe (e::es) [] pos) (λσ H Q=>tf σ H λv H1=>∃f G,v=.ref f/\Fn f G/\t σ H1 λvs H2=>i8 X.K n G (vs++[]) H2 Q E0):=by
 intro pins s σ H Q I h;rw[ht];refine wpAny_bind (bZ (hf pins s σ H _ I h) λu s1 ⟨v,H1,I1,r,f,G,ev,QK,q1⟩=>?_);subst ev;obtain rfl:u=Value.ref f:=r;obtain⟨hk,fd,ps,hb,F⟩:=C f G QK;refine XD (h₀:=X.base) I1.ok.mod.S9 hk (bZ (ha pos pins s1 σ H1 _ I1 q1) λus s2 ⟨vs,H2,I2,r2,q2⟩=>⟨I2.rR,?_⟩) he ic;exact zL F hr hb .nil ko I2 r2 q2
noncomputable def QL(M:Mz)(n:Nat)(Fn:Addr->GM->Prop)(ff:FE)(fa:FA):FM:=λd ρ s=>(∀e∈ρ,fN e)/\ff ρ λt=>∃f G,t=.ob f/\Fn f G/\fa ρ λus=>us.length=n/\G us s λs' _=>d.nx (kU M ρ s') s'
theorem GX{k:Nat}{Fn:Addr->GM->Prop}{ff:FE}{fa:FA}(C:∀f G,Fn f G->PySem.W.keepIn X.K (.ref f)=true/\∃fd ps,Binds X.K fd ps []/\cA X.prog X.w X.K X.mg X.base eV k f fd ps (i8 X.K n G))(hr:bz k X.A)(hf:∀H0,VE X ⟨H0,[],M.Ox⟩ fe ff)(ha:∀H0,VA X ⟨H0,[],M.Ox⟩ es fa)(hN:X.N[M.k]?=some y)(hv:kF X.env.scope y:=by first|exact Or.inl rfl|exact Or.inr (Or.inl rfl)|exact Or.inr (Or.inr rfl))(hd:ie y:=by decide)(gn:uj y:=by decide)(he:starEach (.Name y p1::es) X.env=(false,eval (.Name y p1) X.env)::starEach es X.env:=by rfl)(ic:(backTo aZ (starEach es X.env)).any (·.1)=false:=by rfl)(ht:eval (.Call fe (.Name y p1::es) [] aZ) X.env=(do
    let f <- eval fe X.env
    callWith aZ f [] (backTo aZ (starEach (.Name y p1::es) X.env)) (backToKw aZ (keywordEach [] X.env))):=by rfl)(hs:swapsWith (.Call fe (.Name y p1::es) [] aZ) none pos.line X.env=pure false:=by rfl) :
  MS X M (.Expr (.Call fe (.Name y p1::es) [] aZ) pos) (QL M n Fn ff fa):=⟨λpins s' σ H D J ⟨ρ,s,d,⟨⟨O,fp,F,I⟩,hp⟩,Lf,Fi⟩=>by
 obtain⟨oU,Lf⟩:=Lf;obtain⟨_,hσ⟩:=cR I hp;refine lQ (GW C hr (hf (pd H (roots O)) []) (bD (bV hN hv hd gn) (ha (pd H (roots O)) []) he) he ic ht) hs pins s' σ H D J ⟨ρ,O,_,I,Lf,λt htt v H0 s0 a0=>?_⟩;obtain⟨f,G,rfl,QK,Lf⟩:=htt;simp only[At] at a0;refine⟨f,G,a0,QK,.ref M.a,hσ,ρ,O,_,I.same s0,Lf,λus Pt ws H1 s1 a1=>?_⟩;obtain⟨hu,hG⟩:=Pt;have I0:=(I.same s0).same s1;have F1:=F.now I0 (bF I);have I1:=I0.rebase (Z:=zf M O H) rfl;rw[CC];exact xS F1 I1 hp oU hu a1 hG λs2 t hq v H' S' _ _=>Fi.nx _ _ σ H' S' hq⟩
end
structure pe(K:qaf)(H0:Hp)(Ox:qah)(x C:Addr)(ns:qai)(xs:List S)(H:Hp):Prop where
 ex:∃fp,cj K H (fp++Ox) (.ins C ns xs) (.ref x) fp/\fp.Nodup/\∀b∈fp,b=x\/H0 b=none
 nx:x∉Ox
 ox:∀b∈Ox,H0 b≠none
 fr:∀b o,H0 b=some o->b≠x->H b=some o
theorem xU(f:Str)(y:V):∀(ns:qai)(vs:qak),ns.length=vs.length->f∉ns->dJ f y (ns.zip vs)=(ns++[f]).zip (vs++[y])
 |[],[],_,_=>rfl
 |[],v::vs,h,_=>by simp at h
 |n::ns,[],h,_=>by simp at h
 |n::ns,v::vs,h,q=>by rw[JB];show (if n=f then (n,y)::ns.zip vs else (n,v)::dJ f y (ns.zip vs))=_;rw[if_neg (λe=>q (by rw[e];exact dw)),xU f y ns vs (by simpa using h) (λz=>q (gG _ z))];rfl
section
variable{H0:Hp}{x:Addr}{ns:qai}{xs:List S}
theorem pe.at(I:pe K H0 Ox x C ns xs H):∃dx fs,H x=some (.ins C dx fs)/\fs.length=xs.length:=by obtain⟨fp,h,_⟩:=I.ex;simp only[cj] at h;obtain⟨a,dx,vs,iE,e,hl,ha,_,hL⟩:=h;cases e;exact⟨dx,_,ha,by rw[OH,hl,Ni,hL.length]⟩
theorem pe.add{H1:Hp}{f:Str}{z:S}{g:qah}{fs:qac}(I:pe K H0 Ox x C ns xs H)(sm:aY H H1)(hf:f∉ns)(hx:H1 x=some (.ins C dx fs))(hg:∀b∈g,H b=none)(nd:g.Nodup)(hz:∀fp:qah,(∀b∈fp,b=x\/H0 b=none)->x∈fp->(∀t w,At K H (fp++Ox) t w->At K (upd H1 x (.ins C dx (dJ f v fs))) ((fp++g)++Ox) t w)->cj K (upd H1 x (.ins C dx (dJ f v fs))) ((fp++g)++Ox) z v g) :
  pe K H0 Ox x C (ns++[f]) (xs++[z]) (upd H1 x (.ins C dx (dJ f v fs))):=by
 obtain⟨fp,h,n,each⟩:=I.ex;have h':=h;simp only[cj] at h';obtain⟨a,dx',vs,iE,e,hl,ha,rfl,hL⟩:=h';cases e;have hx2:=sm _ _ ha;rw[hx] at hx2;cases hx2;have old:∀b∈x::iE,H b≠none:=λb hb=>by obtain⟨u,e,_⟩:=h.mut b hb;rw[e];simp
 have go:∀t w,At K H ((x::iE)++Ox) t w->At K (upd H1 x (.ins C dx (dJ f v (ns.zip vs)))) (((x::iE)++g)++Ox) t w:=λt w q=>by
  have q1:At K H (((x::iE)++g)++Ox) t w:=q.more λb hb=>by
   rcases cN.mp hb with y|y
   rcases cN.mp y with y|y
   exact .inl (cw _ y);exact .inr (hg b y);exact .inl (bU _ y)
  exact (q1.same sm).wrote (cw _ (cw _ dw)) hx rfl
 have z1:=hz (x::iE) each dw go;have nxf:x∉iE:=(lx.mp n).1;have rest:bf K (upd H1 x (.ins C dx (dJ f v (ns.zip vs)))) (((x::iE)++g)++Ox) xs vs iE:=hL.map go λb hb=>by obtain⟨u,e,_⟩:=bf.mut hL b hb;rw[aE (λy=>nxf (by rw[<- y];exact hb)),e];exact sm _ _ e
 refine⟨⟨(x::iE)++g,?_,?_,λb hb=>?_⟩,I.nx,I.ox,λb o e ne=>?_⟩;simp only[cj];refine⟨x,dx,vs++[v],iE++g,rfl,by simp[hl],?_,rfl,rest.snoc z1⟩;rw[aI,xU f v ns vs hl hf];exact zp.mpr ⟨n,nd,λa ha b hb e=>by subst e;exact old a ha (hg a hb)⟩;rcases cN.mp hb with y|y
 exact each b y
 right
 cases e:H0 b with
 |none=>rfl
 |some o=>exfalso;have nb:b≠x:=λz=>old x dw (by rw[<- z];exact hg b y);have:=I.fr b o e nb;rw[hg b y] at this;cases this
 rw[aE ne];exact sm _ _ (I.fr b o e ne)
theorem pe.lf{H1:Hp}{f:Str}{t:T}{fs:qac}(I:pe K H0 Ox x C ns xs H)(hf:f∉ns)(hi:bR t=true)(a:At K H [] t v)(hx:H x=some (.ins C dx fs)):pe K H0 Ox x C (ns++[f]) (xs++[.lf t]) (upd H x (.ins C dx (dJ f v fs))) :=
 I.add (z:=.lf t) (g:=[]) (λ_ _ e=>e) hf hx (λb hb=>nomatch hb) JD λfp _ _ go=>by simp only[cj];exact⟨trivial,go t v (At.bR hi a)⟩
theorem pe.lst{f:Str}{p:Addr}{fs:qac}(I:pe K H0 Ox x C ns xs H)(hf:f∉ns)(hp:H p=none)(hx:upd H p (.lst []) x=some (.ins C dx fs)):pe K H0 Ox x C (ns++[f]) (xs++[.lst []]) (upd (upd H p (.lst [])) x (.ins C dx (dJ f (.ref p) fs))) :=
 I.add (z:=.lst []) (g:=[p]) (aK hp) hf hx (λb hb=>by rw[jh.mp hb];exact hp) (by simp) λfp _ _ go=>by
  have ne:p≠x:=λz=>by rw[z,aI] at hx;cases hx
  simp only[cj,bf];exact⟨p,[],[],rfl,by rw[aE ne,aI],rfl,rfl,rfl⟩
theorem pe.dk{f:Str}{p:Addr}{fs:qac}(I:pe K H0 Ox x C ns xs H)(hf:f∉ns)(hp:H p=none)(hx:upd H p (.dK []) x=some (.ins C dx fs)):pe K H0 Ox x C (ns++[f]) (xs++[.dk [] []]) (upd (upd H p (.dK [])) x (.ins C dx (dJ f (.ref p) fs))) :=
 I.add (z:=.dk [] []) (g:=[p]) (aK hp) hf hx (λb hb=>by rw[jh.mp hb];exact hp) (by simp) λfp _ _ go=>by
  have ne:p≠x:=λz=>by rw[z,aI] at hx;cases hx
  simp only[cj];exact⟨p,[],rfl,rfl,rfl,by rw[aE ne,aI];rfl,aB.nil⟩
theorem pe.first{H1:Hp}{f:Str}{t:T}(nx:x∉Ox)(ox:∀b∈Ox,H b≠none)(hx:H x=some (.ins C dx []))(sm:aY H H1)(a:At K H1 (x::Ox) t v):pe K H Ox x C [f] [.lf t] (upd H1 x (.ins C dx (dJ f v []))):=by refine⟨⟨[x],?_,by simp,λb hb=>.inl (jh.mp hb)⟩,nx,ox,λb o e ne=>by rw[aE ne];exact sm _ _ e⟩;simp only[cj,bf];exact⟨x,dx,[v],[],rfl,rfl,aI,rfl,v,[],[],[],rfl,rfl,⟨rfl,a.wrote dw (sm _ _ hx) rfl⟩,rfl,rfl⟩
end
noncomputable def mN:qai:=["layout","most","poke","frames","cells","counts","doings","place","ended"]
def zOk(cz:S):Prop:=cz=.dk [] []\/∃nh,cz=.dc nh [] []
noncomputable def zO:S->Addr->HO
 |.dc nh _ _,p=>.ext (m_ nh p [])
 |_,_=>.dK []
noncomputable def QM(cz:S):TE:=λ_ H Q=>∀p,H p=none->(p==sysModules)=false->Q (.ref p) (upd H p (zO cz p))
theorem xV{nh:List Key×Key->Int}{xs:List ((List Key×Key)×Addr×Value)}:∀h1 h2:Heap,m_ nh a xs h1->(∀o,h1.get? a=some o->h2.get? a=some o)->m_ nh a xs h2:=λh1 h2 ⟨o,es,ep,e,q⟩ k=>⟨o,es,ep,k o e,q⟩
theorem GY{pos:Pos}{cz:S}(hz:zOk cz):PE X (.Dict [] [] pos) (QM cz):=λpins s σ H Q I h=>by
 have nm:(s.heap.objs.size==sysModules)=false:=beq_eq_false_iff_ne.mpr (Ne.symm (nY I.big));obtain rfl|⟨nh,rfl⟩:=hz
 exact wpAny_Dict_empty ⟨.ref s.heap.objs.size,_,I.laid (a:=s.heap.objs.size) (o:=.dK []) (t':=s.toks) (λ_ _ q=>mV _ q) (c3 _) (xA s.heap I.big),rfl,h _ (I.cn.fresh (c3 _)) nm⟩;exact wpAny_Dict_empty ⟨.ref s.heap.objs.size,_,I.laid (a:=s.heap.objs.size) (o:=.ext (m_ nh s.heap.objs.size [])) (t':=s.toks) (λ_ _ q=>mV _ q) (c3 _) ⟨⟨_,#[],0,sR _ rfl,⟨rfl,rfl,rfl⟩,rfl,rfl,JD⟩,⟨_,sR _ rfl⟩,xV⟩,rfl,h _ (I.cn.fresh (c3 _)) nm⟩
theorem pe.cz{H0:Hp}{x:Addr}{ns:qai}{xs:List S}{cz:S}(hz:zOk cz){f:Str}{p:Addr}{fs:qac}(I:pe K H0 Ox x C ns xs H)(hf:f∉ns)(hp:H p=none)(nm:(p==sysModules)=false)(hx:upd H p (zO cz p) x=some (.ins C dx fs)):pe K H0 Ox x C (ns++[f]) (xs++[cz]) (upd (upd H p (zO cz p)) x (.ins C dx (dJ f (.ref p) fs))) :=
 I.add (z:=cz) (g:=[p]) (aK hp) hf hx (λb hb=>by rw[jh.mp hb];exact hp) (by simp) λfp _ _ go=>by
  obtain rfl|⟨nh,rfl⟩:=hz
  have ne:p≠x:=λz=>by rw[z,aI] at hx;cases hx
  simp only[cj];exact⟨p,[],rfl,rfl,rfl,by rw[aE ne,aI];rfl,aB.nil⟩;have ne:p≠x:=λz=>by rw[z,aI] at hx;cases hx
  simp only[cj];exact⟨p,[],[],rfl,rfl,by rw[aE ne,aI];rfl,rfl,nm,λx hx=>(nomatch hx),.nil,aB.nil⟩
noncomputable def xW(cz:S)(L t2 t3:T):List S:=[.lf L,.lf t2,.lf t3,.lst [],cz,.dk [] [],.lst [],.lf .aQ,.lf .aQ]
theorem QN(K:qaf)(H:Hp)(h:∀a∈Ox,H a≠none):ay K ⟨H,[],Ox⟩ [] [] [] [] H:=⟨rfl,rfl,λi e h=>by simp at h,JD,λa h=>absurd h gb,λp hp=>absurd hp gb,h,λb o e _=>e,λp hp=>absurd hp gb⟩
section
variable{CL:Addr}
theorem DI{pr:T}{vp:V}{q:T->Prop}{Q:VK}(ox:∀b∈Ox,H b≠none)(a:At X.K H Ox pr vp)(hG:GL [pr] q)(k:∀L,q L->∀v H',aY H H'->At X.K H' Ox L v->Q v H') :
  ∀x dx,H x=none->H dx=none->dx≠x->NT X.K CL 1 GL (.ref x::([vp]++[])) (upd (upd H dx (.own x)) x (.ins CL dx [])) (λv H2=>v=.aQ/\Q (.ref x) H2) E0 :=
 BW (X:=X) (Z:=⟨H,[],Ox⟩) (q:=λr=>∃L,r=.fr L/\q L) (QN X.K H ox) (aB.cons a aB.nil) rfl (by
  have e:q=λu=>∃L,Rt.fr u=Rt.fr L/\q L:=by funext u;exact propext ⟨λh=>⟨u,rfl,h⟩,λ⟨L,e,h⟩=>by cases e;exact h⟩
  rw[<- e];exact hG) λr hr v H' sm z=>by
  obtain⟨L,rfl,hL⟩:=hr;obtain⟨b,rfl,_,rt,n0,nO⟩:=z;refine k L hL _ H' sm ((rt.a8 λc hc=>?_).at nO);exact bU _ (gG _ hc)
def acG(K:qaf)(GL:qaj->(T->Prop)->Prop):TE:=λσ H Q=>∃vp pr Ox q,σ[1]?=some (some vp)/\(∀b∈Ox,H b≠none)/\At K H Ox pr vp/\GL [pr] q/\∀L,q L->∀v H',aY H H'->At K H' Ox L v->Q v H'
theorem QO{kL:Nat}{fL:Addr}{Wc:FuncData}{Wd:qai}{u1 u2 u3:Pos}(ML:Mk X.K CL fL)(FL:cA X.prog X.w X.K X.mg X.base eV kL fL Wc Wd (NT X.K CL 1 GL))(rL:bz (kL+1) X.A)(gL:Gl X "Layout")(mL:X.mg "Layout"=some (.ref CL))(bL:Binds X.K Wc Wd [])(h1:X.N[1]?=some ("program":Str))(v1:kF X.env.scope "program")(s1:starEach [.Name "program" u2] X.env=(false,eval (.Name "program" u2) X.env)::starEach [] X.env)(s2:(backTo u3 (starEach [] X.env)).any (·.1)=false):PE X (.Call (.Name "Layout" u1) [.Name "program" u2] [] u3) (acG X.K GL) :=
 PE.weak (uw ML FL rL gL mL bL .nil ko (bD (bV h1 v1 (by decide) (by decide)) cX s1) (by decide) s1 s2) λσ H Q ⟨vp,pr,Ox,q,e1,ox,ap,hG,k⟩=>⟨vp,e1,DI (X:=X) (Q:=Q) ox ap hG k⟩
noncomputable def We(X:Cx)(C:Addr)(cz:S)(GL:qaj->(T->Prop)->Prop):TS:=λD σ H=>∃x dx Ox pr vp t2 v2 t3 v3 q,σ[0]?=some (some (.ref x))/\σ[1]?=some (some vp)/\σ[2]?=some (some v2)/\σ[3]?=some (some v3)/\H x=some (.ins C dx [])/\x∉Ox/\(∀b∈Ox,H b≠none) /\
 At X.K H (x::Ox) pr vp/\bR t2=true/\At X.K H [] t2 v2/\bR t3=true/\At X.K H [] t3 v3/\GL [pr] q/\∀L,q L->∀H',pe X.K H Ox x C mN (xW cz L t2 t3) H'->D.nx σ H'
theorem jz{fs:List α}{m:Nat}(h:fs.length=n)(h2:n<1000):fs.length<1000:=by omega
theorem GZ{cz:S}(hz:zOk cz){kL:Nat}{fL:Addr}{Wc:FuncData}{Wd:qai}(ML:Mk X.K CL fL)(FL:cA X.prog X.w X.K X.mg X.base eV kL fL Wc Wd (NT X.K CL 1 GL))(rL:bz (kL+1) X.A)(gL:Gl X "Layout")(mL:X.mg "Layout"=some (.ref CL))(bL:Binds X.K Wc Wd [])(cl:zC X.K C)(n1:bp X.K C "layout")(n2:bp X.K C "most")(n3:bp X.K C "poke")(n4:bp X.K C "frames")(n5:bp X.K C "cells")(n6:bp X.K C "counts")(n7:bp X.K C "doings")(n8:bp X.K C "place")(n9:bp X.K C "ended"){p3 p4 p5 p6 p7 p8 p9 q1 q2 q3 q4 q5 q6 q7 q8 q9 r1 r2 r3 r4 r5 r6 r7 r8 r9 u1 u2 u3 u4 u5 u6 u7 u8 u9 u10 u11:Pos}{k8 k9}(h0:X.N[0]?=some ("self":Str):=by rfl)(h1:X.N[1]?=some ("program":Str):=by rfl)(h2:X.N[2]?=some ("most":Str):=by rfl)(h3:X.N[3]?=some ("poke":Str):=by rfl)(v0:kF X.env.scope "self":=by exact Or.inl rfl)(v1:kF X.env.scope "program":=by exact Or.inl rfl)(v2:kF X.env.scope "most":=by exact Or.inl rfl)(v3:kF X.env.scope "poke":=by exact Or.inl rfl)(s1:starEach [.Name "program" u2] X.env=(false,eval (.Name "program" u2) X.env)::starEach [] X.env:=by rfl)(s2:(backTo u3 (starEach [] X.env)).any (·.1)=false:=by rfl)(w1:swapsWith (.Call (.Name "Layout" u1) [.Name "program" u2] [] u3) (some (.Attribute (.Name "self" p1) "layout" q1)) r1.line X.env=pure false:=by rfl)(w2:swapsWith (.Name "most" u4) (some (.Attribute (.Name "self" p2) "most" q2)) r2.line X.env=pure false:=by rfl)(w3:swapsWith (.Name "poke" u5) (some (.Attribute (.Name "self" p3) "poke" q3)) r3.line X.env=pure false:=by rfl)(w4:swapsWith (.List [] u6) (some (.Attribute (.Name "self" p4) "frames" q4)) r4.line X.env=pure false:=by rfl)(w5:swapsWith (.Dict [] [] u7) (some (.Attribute (.Name "self" p5) "cells" q5)) r5.line X.env=pure false:=by rfl)(w6:swapsWith (.Dict [] [] u8) (some (.Attribute (.Name "self" p6) "counts" q6)) r6.line X.env=pure false:=by rfl)(w7:swapsWith (.List [] u9) (some (.Attribute (.Name "self" p7) "doings" q7)) r7.line X.env=pure false:=by rfl)(w8:swapsWith (.Constant .none k8 u10) (some (.Attribute (.Name "self" p8) "place" q8)) r8.line X.env=pure false:=by rfl)(w9:swapsWith (.Constant .none k9 u11) (some (.Attribute (.Name "self" p9) "ended" q9)) r9.line X.env=pure false:=by rfl) :
  iZ X [.Assign [.Attribute (.Name "self" p1) "layout" q1] (.Call (.Name "Layout" u1) [.Name "program" u2] [] u3) r1,.Assign [.Attribute (.Name "self" p2) "most" q2] (.Name "most" u4) r2,.Assign [.Attribute (.Name "self" p3) "poke" q3] (.Name "poke" u5) r3,
   .Assign [.Attribute (.Name "self" p4) "frames" q4] (.List [] u6) r4,.Assign [.Attribute (.Name "self" p5) "cells" q5] (.Dict [] [] u7) r5,.Assign [.Attribute (.Name "self" p6) "counts" q6] (.Dict [] [] u8) r6,
   .Assign [.Attribute (.Name "self" p7) "doings" q7] (.List [] u9) r7,.Assign [.Attribute (.Name "self" p8) "place" q8] (.Constant .none k8 u10) r8,.Assign [.Attribute (.Name "self" p9) "ended" q9] (.Constant .none k9 u11) r9] (We X C cz GL) :=
 have Sv:∀{p:Pos},PE X (.Name "self" p) (T' 0):=λ{p}=>bV (X:=X) h0 v0 (by decide) (by decide)
 iZ.i5 (cP (gp Sv (QO ML FL rL gL mL bL h1 v1 s1 s2) w1) (cP (gp Sv (bV h2 v2 (by decide) (by decide)) w2) (cP (gp Sv (bV h3 v3 (by decide) (by decide)) w3)
  (cP (gp Sv (zJ cX) w4) (cP (gp Sv (GY hz) w5) (cP (gp Sv xB w6) (cP (gp Sv (zJ cX) w7) (cP (gp Sv zu w8) (j2 (gp Sv zu w9)))))))))) λD σ H h=>by
  obtain⟨x,dx,Ox,pr,vp,t2,v2',t3,v3',q,e0,e1,e2,e3,hx,nx,ox,ap,i2,a2,i3,a3,hG,kk⟩:=h;have ox':∀b∈x::Ox,H b≠none:=λb hb=>by
   rcases cT.mp hb with z|z
   rw[z,hx];simp;exact ox b z
  have NZ:∀{H':Hp}{ns:qai}{xs:List S},pe X.K H Ox x C ns xs H'->∀{t:T}{v:V},bR t=true->At X.K H [] t v->At X.K H' [] t v:=λ{H' ns xs} I {t v} hi a=>At.bR hi ((At.bR (O':=[x]) hi a).frame (λb hb=>⟨.ins C dx [],by rw[jh.mp hb];exact hx,rfl⟩) λb o e n=>I.fr b o e (λz=>n (by rw[z];exact dw)));refine⟨vp,pr,x::Ox,q,e1,ox',ap,hG,λL hL v H1 sm aL=>?_⟩;refine⟨.ref x,e0,x,C,dx,[],rfl,sm _ _ hx,cl,n1,by decide,?_⟩;have I1:pe X.K H Ox x C ["layout"] [.lf L] _:=pe.first (f:="layout") nx ox hx sm aL
  obtain⟨d1,f1,g1,l1⟩:=I1.at;refine⟨v2',e2,.ref x,e0,x,C,d1,f1,rfl,g1,cl,n2,jz (n:=1) (m:=0) l1 (by decide),?_⟩;have I2:=I1.lf (H1:=H) (f:="most") (by decide) i2 (NZ I1 i2 a2) g1;obtain⟨d2,f2,g2,l2⟩:=I2.at;refine⟨v3',e3,.ref x,e0,x,C,d2,f2,rfl,g2,cl,n3,jz (n:=2) (m:=0) l2 (by decide),?_⟩;have I3:=I2.lf (H1:=H) (f:="poke") (by decide) i3 (NZ I2 i3 a3) g2;refine⟨jj _,λp4 QP=>?_⟩;obtain⟨d3,f3,g3,l3⟩:=I3.at;refine⟨.ref x,e0,x,C,d3,f3,rfl,aK QP _ _ g3,cl,n4,jz (n:=3) (m:=0) l3 (by decide),?_⟩;have I4:=I3.lst (f:="frames") (by decide) QP (aK QP _ _ g3);intro p5 hp5 nm5;obtain⟨d4,f4,g4,l4⟩:=I4.at;refine⟨.ref x,e0,x,C,d4,f4,rfl,aK hp5 _ _ g4,cl,n5,jz (n:=4) (m:=0) l4 (by decide),?_⟩;have I5:=I4.cz hz (f:="cells") (by decide) hp5 nm5 (aK hp5 _ _ g4);intro p6 hp6;obtain⟨d5,f5,g5,l5⟩:=I5.at;refine⟨.ref x,e0,x,C,d5,f5,rfl,aK hp6 _ _ g5,cl,n6,jz (n:=5) (m:=0) l5 (by decide),?_⟩;have I6:=I5.dk (f:="counts") (by decide) hp6 (aK hp6 _ _ g5);refine⟨jj _,λp7 hp7=>?_⟩;obtain⟨d6,f6,g6,l6⟩:=I6.at;refine⟨.ref x,e0,x,C,d6,f6,rfl,aK hp7 _ _ g6,cl,n7,jz (n:=6) (m:=0) l6 (by decide),?_⟩;have I7:=I6.lst (f:="doings") (by decide) hp7 (aK hp7 _ _ g6);obtain⟨d7,f7,g7,l7⟩:=I7.at;refine⟨.ref x,e0,x,C,d7,f7,rfl,g7,cl,n8,jz (n:=7) (m:=0) l7 (by decide),?_⟩;have I8:=I7.lf (H1:=H) (f:="place") (t:=.aQ) (v:=.aQ) (by decide) rfl (by simp only[At]) g7;obtain⟨d8,f8,g8,l8⟩:=I8.at;refine⟨.ref x,e0,x,C,d8,f8,rfl,g8,cl,n9,jz (n:=8) (m:=0) l8 (by decide),?_⟩;exact kk L hL _ (I8.lf (H1:=H) (f:="ended") (t:=.aQ) (v:=.aQ) (by decide) rfl (by simp only[At]) g8)
noncomputable def spK(K:qaf)(C:Addr)(cz:S)(GL:qaj->(T->Prop)->Prop):Sp:=λvs H Q _=>∃x dx Ox pr vp t2 v2 t3 v3 q,vs=[.ref x,vp,v2,v3]/\H x=some (.ins C dx [])/\x∉Ox/\(∀b∈Ox,H b≠none) /\
 At K H (x::Ox) pr vp/\bR t2=true/\At K H [] t2 v2/\bR t3=true/\At K H [] t3 v3/\GL [pr] q/\∀L,q L->∀H',pe K H Ox x C mN (xW cz L t2 t3) H'->Q .aQ H'
end
section
theorem fnK{cz:S}{st:Stmt}{N:qai}{k:Nat}(F:Bw K "__init__" qual st f fd)(S:az N qav (ah st))(hN:N.length=4)(dN:∀(bA:Value) (A:Around) (outer:List Env) (s:Shared) (H:Hp) (E:XK),bz k (A.deeper (envOfC qual (ah st) s.heap.objs.size f bA))->iZ (gh eV P w K mg base N qual (ah st) f bA A outer s H E).pB (bK st) (We (gh eV P w K mg base N qual (ah st) f bA A outer s H E).pB C cz GL)) :
  cA P w K mg base eV (k+1) f fd qav (spK K C cz GL):=by
 refine F.ok S (λvs H Q E h=>?_) (λbA A outer s H vs Q E hr h=>?_);obtain⟨x,dx,Ox,pr,vp,t2,v2,t3,v3,q,rfl,_⟩:=h;rfl;obtain⟨x,dx,Ox,pr,vp,t2,v2,t3,v3,q,rfl,h⟩:=h;refine⟨_,dN bA A outer s H E hr,x,dx,Ox,pr,vp,t2,v2,t3,v3,q,?_,?_,?_,?_,h⟩<;>(unfold L2.start;rfl)
end
end VT
namespace VT
open PySem PySem.Spec PyProof.Rows L2 NK
section
variable{σ:L2.St}{s:Shared}
theorem G0(I:Inv X pins σ H s){c:CK}{b:Addr}(h:oP X.K H c b):u_ X.prog X.w s.heap c b:=by
 obtain⟨d,h1,h2⟩:=h;obtain⟨a5,r,⟨o,e,ec,n,ed⟩,_⟩:=I.tuple h1;obtain⟨jts,r2,⟨o2,e2,ec2,n2,ed2⟩,_⟩:=I.tuple h2;obtain⟨u1,l1,rfl,z1,r⟩:∃u1 r1,a5=u1::r1/\RelV (.ref d) u1/\Vals [kV c.2] r1:=by cases r with|cons a b=>exact⟨_,_,rfl,a,b⟩
 obtain⟨u2,l2,rfl,z2,r⟩:∃u1 r1,l1=u1::r1/\RelV (kV c.2) u1/\Vals [] r1:=by cases r with|cons a b=>exact⟨_,_,rfl,a,b⟩
 cases r;cases (show u1=Value.ref d from z1);exact⟨o,_,n,d,u2,e,ec,ed,rfl,⟨o2,_,n2,e2,ec2,ed2,by simpa using nA r2⟩,ot z2⟩
theorem N0(I:Inv X pins σ H s){xs:List (CK×Addr×Value)}(e:H a=some (.ext (m_ (bu X.prog X.w) a xs)))(hk:∀x∈xs,oP X.K H x.1 x.2.1):s.heap.DictOfH (qw X.prog X.w) a xs:=by obtain⟨⟨o,es,ep,ho,hc,hd,he,hn⟩,_⟩:=(show cy X.prog X.w H s.heap a (.ext _) from I.cn a _ e);exact⟨o,es,ep,ho,hc,hd,he,λx hx=>G0 I (hk x hx),hn⟩
def Wf(H:Hp)(a:Addr):Prop:=∃nh xs,H a=some (.ext (m_ nh a xs))
theorem Lg(I:Inv X pins σ H s)(d:Wf H a):s.TypeIs (.ref a) "dict"/\(∀b,Value.ref a=.ref b->∃ob,s.heap.get? b=some ob/\ob.dict=none):=by obtain⟨nh,xs,e⟩:=d;obtain⟨⟨o,es,ep,ho,hc,_⟩,_⟩:=(show cy X.prog X.w H s.heap a (.ext _) from I.cn a _ e);exact⟨⟨o,ho,hc.1⟩,λb q=>by cases q;exact⟨o,ho,hc.2.1⟩⟩
end
section
variable{f i value:Expr}{pos pos':Pos}{td ty tx tv:TE}
noncomputable def Wg(X:Cx)(td ty tx:TE):TE:=λσ H Q=>td σ H λx H1=>∃a,x=.ref a/\Wf H1 a/\ty σ H1 λy H2=>tx σ H2 λz H3=>∃xs,H3 a=some (.ext (m_ (bu X.prog X.w) a xs))/\(a==sysModules)=false/\(∀x∈xs,oP X.K H3 x.1 x.2.1) /\
 ((y=.aQ/\Q z H3)\/∃b c v,y=.ref b/\oP X.K H3 c b/\(match atKey xs c with|some p=>RelV v p.2|none=>v=z)/\Q v H3)
theorem G1(hu:X.A.units+3<cLine)(ho:PE X o td)(he:PE X e ty)(hf:PE X f tx)(m:M2 X o "get" apos e f aZ):PE X (.Call (.Attribute o "get" apos) [e,f] [] aZ) (Wg X td ty tx):=by
 intro pins s σ H Q I h;refine wpAny_Call_method m.base m.ZX m.line TQ M' PySem.F.type_dict_get (bZ (ho pins s σ H _ I h) λu s1 ⟨x,H1,I1,rx,a,ex,d,q1⟩=>?_);subst ex;obtain rfl:u=Value.ref a:=rx;obtain⟨t1,t2⟩:=Lg I1 d;refine⟨t1,t2,?_⟩;rw[m.trees];refine TR rfl (XA (OC (bZ (he pins s1 σ H1 _ I1 q1) λiv s2 ⟨y,H2,I2,ry,q2⟩ =>
  OC (bZ (hf pins s2 σ H2 _ I2 q2) λfv s3 ⟨z,H3,I3,rz,xs,ea,nm,hk,q3⟩=>Calls.spliced_nil ?_))))
 have dd:=N0 I3 ea hk;obtain⟨rfl,q3⟩|⟨b,c,v,rfl,hb,hv,q3⟩:=q3
 cases (show iv=Value.none from ry);exact call_meetsIn M' dd.typeIs TV (TN _ _ _) (qx (P:=X.prog) (w:=X.w) a nm fv) ⟨by omega,xs,dd,λt=>⟨z,H3,I3.tok _,rz,q3⟩⟩;cases (show iv=Value.ref b from ry);refine call_meetsIn M' dd.typeIs TV (TN _ _ _) (meetsH_dict_get_default (qw X.prog X.w) a b nm fv) ⟨by show X.A.units+1+2<cLine;omega,c,xs,G0 I3 hb,dd,v,H3,I3.tok _,?_,q3⟩;cases e:atKey xs c with
 |none=>rw[e] at hv;subst hv;exact rz
 |some p=>rw[e] at hv;exact hv
noncomputable def Wh(X:Cx)(td ty tv:TE):TS:=λD σ H=>tv σ H λv H1=>td σ H1 λx H2=>ty σ H2 λy H3=>∃a b c xs,x=.ref a/\y=.ref b/\oP X.K H3 c b/\H3 a=some (.ext (m_ (bu X.prog X.w) a xs))/\(∀x∈xs,oP X.K H3 x.1 x.2.1)/\xs.length<=sizeLine /\
 ∀u,RelV v u->D.nx σ (upd H3 a (.ext (m_ (bu X.prog X.w) a (storedH xs c b u))))
theorem Lh(hu:X.A.units+3<cLine)(ho:PE X o td)(hi:PE X i ty)(hv:PE X value tv)(hs:swapsWith value (some (.Subscript o i pos')) pos.line X.env=pure false) :
  PS X (.Assign [.Subscript o i pos'] value pos) (Wh X td ty tv):=by
 intro pins s σ H D I h;refine wpAny_Assign_Subscript (bZ (hv pins s σ H _ I h) λr s1 ⟨v,H1,I1,rv,q1⟩=>bZ (ho pins s1 σ H1 _ I1 q1) λu s2 ⟨x,H2,I2,rx,q2⟩=>bZ (hi pins s2 σ H2 _ I2 q2) λiv s3 ⟨y,H3,I3,ry,a,b,c,xs,ex,ey,hb,ea,hk,hz,q3⟩=>?_) hs;subst ex ey;cases (show u=Value.ref a from rx);cases (show iv=Value.ref b from ry);refine wpAny_setItem_heap (knd:=qw X.prog X.w) (hsz:=hz) (by show X.A.units+1+2<cLine;omega) (G0 I3 hb) (N0 I3 ea hk) λh' hm X3=>?_;obtain⟨o',es,ep,jb,hc,hd,he,Js,hn⟩:=hm;refine⟨σ,_,o_ (ob:=.ext (m_ (bu X.prog X.w) a (storedH xs c b r))) I3 (by rw[ea];trivial) X3 ⟨_,jb⟩ ⟨⟨o',es,ep,jb,hc,hd,he,hn⟩,⟨_,jb⟩,xV⟩,q3 r rv⟩
end
noncomputable def jA{α:Type}:List CK->List α->CK->Option α
 |k::ks,t::ts,c=>if k=c then some t else jA ks ts c
 |_,_,_=>none
def DJ(ks:List CK)(c:CK):Bool:=ks.any λk=>decide (k=c)
def qy(ks:List CK)(c:CK):List CK:=if DJ ks c=true then ks else ks++[c]
noncomputable def gc{α:Type}(ks:List CK)(ts:List α)(c:CK)(t:α):List α:=if DJ ks c=true then List.zipWith (λk v=>if k=c then t else v) ks ts else ts++[t]
section
variable{A:qah}
theorem B4(c:CK):∀{xs:List (CK×Addr×Value)}{ts:qaj}{vs:qak},Vals vs (xs.map (·.2.2))->aB K H A ts vs->match atKey xs c with
  |none=>jA (xs.map (·.1)) ts c=none
  |some p=>∃t v,jA (xs.map (·.1)) ts c=some t/\At K H A t v/\RelV v p.2
 |[],ts,vs,hv,ha=>by show jA [] ts c=none;cases ts<;>rfl
 |x::xs,ts,vs,hv,ha=>by
   rw[gR] at hv;cases hv with
   |@cons v u jr Qu r hv=>
     cases ts with
     |nil=>simp only[aB] at ha;cases ha
     |cons t ts=>
       simp only[aB] at ha;obtain⟨v',r',e,h1,h2⟩:=ha;cases e;by_cases hc:x.1=c;have e1:atKey (x::xs) c=some x.2:=by simp[atKey,Jj,hc]
       rw[e1];exact⟨t,v,by rw[gR];show (if x.1=c then _ else _)=_;rw[if_pos hc],h1,r⟩;have e1:atKey (x::xs) c=atKey xs c:=by simp[atKey,Jj,hc]
       have e2:jA ((x::xs).map (·.1)) (t::ts) c=jA (xs.map (·.1)) ts c:=by rw[gR];show (if x.1=c then _ else _)=_;rw[if_neg hc]
       rw[e1,e2];exact B4 c hv h2
theorem DK{xs:List (CK×Addr×Value)}{c:CK}:(atKey xs c).isSome=DJ (xs.map (·.1)) c:=by
 induction xs with
 |nil=>rfl
 |cons x xs ih=>
  by_cases hc:x.1=c;simp[atKey,Jj,hc,DJ];have e1:atKey (x::xs) c=atKey xs c:=by simp[atKey,Jj,hc]
  rw[e1,ih];simp[DJ,hc]
theorem G2{c:CK}(h:jg K H A (EV c) v):∃b,v=.ref b/\oP K H c b:=by
 obtain h|⟨a,rfl,q⟩:=h
 have h':=h;unfold EV at h';simp only[At] at h';obtain⟨a,vs,rfl,_⟩:=h';exact⟨a,rfl,uZ.mp h⟩;exact q.elim
theorem DN{xs:List (CK×Addr×Value)}{ts:qaj}{c:CK}{b:Addr}{t:T}(hv:Vals vs (xs.map (·.2.2)))(ha:aB K H A ts vs)(ht:At K H A t v)(ru:RelV v u) :
  qy (xs.map (·.1)) c=(storedH xs c b u).map (·.1)/\∃jr,Vals jr ((storedH xs c b u).map (·.2.2))/\aB K H A (gc (xs.map (·.1)) ts c t) jr:=by
 unfold qy gc storedH;rw[DK];by_cases h:DJ (xs.map (·.1)) c=true;rw[if_pos h,if_pos h,if_pos h];refine⟨(keys_map_putAt xs c u).symm,?_⟩;clear h;induction xs generalizing ts vs with
 |nil=>
   cases hv;cases ts with
   |nil=>exact⟨[],.nil,aB.nil⟩
   |cons t ts=>simp only[aB] at ha;obtain⟨_,_,e,_⟩:=ha;cases e
 |cons x xs ih=>
   rw[gR] at hv;cases hv with
   |@cons v0 u0 Te us0 r hv=>
     cases ts with
     |nil=>simp only[aB] at ha;cases ha
     |cons t0 ts=>simp only[aB] at ha;obtain⟨v',r',e,h1,h2⟩:=ha;cases e;obtain⟨ws,w1,w2⟩:=ih hv h2;simp only[gR,YC];by_cases hc:x.1=c;refine⟨v::ws,.cons ?_ w1,aB.cons (by rw[if_pos hc];exact ht) w2⟩;unfold putAt;rw[if_pos hc];exact ru;refine⟨v0::ws,.cons ?_ w1,aB.cons (by rw[if_neg hc];exact h1) w2⟩;unfold putAt;rw[if_neg hc];exact r
 rw[if_neg h,if_neg h,if_neg h];refine⟨by simp,vs++[v],?_,ha.append (aB.cons ht aB.nil)⟩;rw[rM];exact Vals.append hv (.cons ru .nil)
end
section
variable{a:Expr}{fc:FE}
noncomputable def fCG(nh:CK->Int)(fa fb fc:FE):FP:=λρ Q=>fa ρ λx=>match x with
 |.dc nh' ks ts=>nh'=nh/\fb ρ λy=>fc ρ λz=>(y=.aQ/\Q (.vw z))\/∃c,y=EV c/\Q (.vw ((jA ks ts c).getD z))
 |_=>False
theorem QQ(hu:X.A.units+3<cLine)(ha:VR X Z a fa)(hb:VR X Z b fb)(hc:VE X Z c fc)(m:M2 X a "get" apos b c aZ):VP X Z (.Call (.Attribute a "get" apos) [b,c] [] aZ) (fCG (bu X.prog X.w) fa fb fc):=.mk λtm=>PE.weak (G1 hu (ha tm) (hb tm) (hc tm) m) λσ H Q ⟨ρ,O,q,I,hf,k⟩ =>
 ⟨ρ,O,_,I,hf,λx hx v H1 s1 a1=>by
  split at hx
  rename_i nh ks ts
  obtain⟨rfl,hx⟩:=hx;obtain⟨l,xs,vs,rfl,hd,ek,nm,hk,hv,hl⟩:=a1.dc;refine⟨l,rfl,⟨_,_,hd⟩,ρ,O,_,I.same s1,hx,λy hy w H2 s2 a2=>⟨ρ,O,_,(I.same s1).same s2,hy,λz hz u H3 s3 a3=>?_⟩⟩;have sm:aY H1 H3:=s2.trans s3;have X9:∀x∈xs,oP X.K H3 x.1 x.2.1:=λx hx=>let ⟨d,g1,g2⟩:=hk x hx;⟨d,fg.same sm g1,fg.same sm g2⟩;refine⟨xs,sm _ _ hd,nm,X9,?_⟩;obtain⟨rfl,hz⟩|⟨c,rfl,hz⟩:=hz
  have e:w=.aQ:=by
   obtain a2|⟨_,_,a2⟩:=a2
   simpa only[At] using a2;exact a2.elim
  exact .inl ⟨e,k _ hz _ H3 ((s1.trans s2).trans s3) ⟨((I.same s1).same s2).same s3,a3⟩⟩;obtain⟨b,rfl,kb⟩:=G2 (a2.same s3);have cg:=B4 c hv (hl.same sm);refine .inr ?_;cases ea:atKey xs c with
  |none=>rw[ea] at cg;rw[ek,cg] at hz;exact⟨b,c,u,rfl,kb,by rw[ea],k _ hz _ H3 ((s1.trans s2).trans s3) ⟨((I.same s1).same s2).same s3,a3⟩⟩
  |some p=>rw[ea] at cg;obtain⟨t,v',e1,e2,e3⟩:=cg;rw[ek,e1] at hz;exact⟨b,c,v',rfl,kb,by rw[ea];exact e3,k _ hz _ H3 ((s1.trans s2).trans s3) ⟨((I.same s1).same s2).same s3,e2⟩⟩
  exact hx.elim⟩
end
section
variable{i:Expr}{ps:List kS}{pos:Pos}
noncomputable def Wi(M:Mz)(nh:CK->Int)(ps:List kS)(fi fe:FE):FM:=λd ρ s=>fe ρ λt=>(∃x,s.get ps=some x)/\fi ρ λj=>∃c,j=EV c/\bR t=true/\(∀e∈ρ,fN e)/\∃ks ts,s.get ps=some (.dc nh ks ts)/\ts.length<16777216 /\
 d.nx (kU M ρ (s.put ps (.dc nh (qy ks c) (gc ks ts c t)))) (s.put ps (.dc nh (qy ks c) (gc ks ts c t)))
theorem Li{fi:FE}(hu:X.A.units+3<cLine)(ho:PE X o (jx M.k ps))(hi:∀H0,VR X ⟨H0,[],M.Ox⟩ i fi)(he:∀H0,VE X ⟨H0,[],M.Ox⟩ e fe)(hs:swapsWith e (some (.Subscript o i fP)) pos.line X.env=pure false:=by rfl) :
  MS X M (.Assign [.Subscript o i fP] e pos) (Wi M (bu X.prog X.w) ps fi fe):=⟨λpins s' σ H D J ⟨ρ,s,d,⟨⟨O,fp,F,I⟩,hp⟩,hg,Fi⟩=>by
 refine Lh hu ho (hi (pd H (roots O)) []) (he (pd H (roots O)) []) hs pins s' σ H D J ⟨ρ,O,_,I,hg,λt ht v H1 s1 a1=>?_⟩;obtain⟨⟨x,hx⟩,ht⟩:=ht;obtain⟨w,_,_,_,_,ev,_,_⟩:=(F.now (I.same s1) (bF I)).ow.focus hx;obtain⟨_,hσ⟩:=cR I hp;refine⟨.ref M.a,w,hσ,ev,ρ,O,_,I.same s1,ht,λj hj w' H2 s2 a2=>?_⟩;obtain⟨c,rfl,Jt,oU,ks,ts,DF,hlen,hq⟩:=hj;have I0:=(I.same s1).same s2;have F2:=F.now I0 (bF I);have I2:=I0.rebase (Z:=zf M O H) rfl;obtain⟨w2,f',GN,hS,sub,nd,wr⟩:=F2.put (ps:=ps) I2 hp oU DF;rw[gy s2 ev] at GN;cases GN;have xQ:=hS;simp only[cj] at xQ;obtain⟨l,xs,vs,rfl,rfl,h3,ek,nm,hk,hv,hl⟩:=xQ;obtain⟨b,rfl,kb⟩:=G2 a2;have hz:xs.length<=sizeLine:=by have e1:=hv.length;have e2:=hl.length;rw[cV] at e1;rw[sizeLine_eq];omega
 have hA:l∈roots O++(fp++M.Ox):=bU _ (cw _ (sub _ dw));refine⟨l,b,c,xs,rfl,rfl,kb,h3,λx hx=>uZ.mp (hk x hx),hz,λu ru=>?_⟩;obtain⟨e1,jr,e2,e3⟩:=DN (b:=b) (c:=c) hv hl (At.bR Jt (a1.same s2)) ru;subst ek;refine Fi.nx _ _ σ _ (wr (y:=.dc (bu X.prog X.w) (qy (xs.map (·.1)) c) (gc (xs.map (·.1)) ts c t)) dw ?_) hq;simp only[cj];refine⟨l,_,jr,rfl,rfl,aI,e1,nm,λx hx=>?_,e2,aB.wrote hA h3 rfl e3⟩;unfold storedH at hx;split at hx;obtain⟨y,hy,rfl⟩:=sS.mp hx;have e4:(putAt c u y).1=y.1/\(putAt c u y).2.1=y.2.1:=by unfold putAt;split<;>exact⟨rfl,rfl⟩
 rw[e4.1,e4.2];exact (hk y hy).wrote hA h3 rfl;rcases cN.mp hx with hx|hx
 exact (hk x hx).wrote hA h3 rfl;rw[jh.mp hx];exact (uZ.mpr kb).wrote hA h3 rfl⟩
end
end VT
namespace VT
open PySem PySem.Spec PyProof.Rows L2
structure tP(K:qaf)(H H':Hp)(us:qaj)(u:T)(p l:Addr):Prop where
 same:aY H H'
 tup:∃v,H' p=some (.tup [.ref l,v])/\At K H' [] u v
 new:H l=none
 lst:∃vs,H' l=some (.lst vs)/\aB K H' [] us vs
 i1:dG us=true
 i2:bR u=true
def Ti(K:qaf)(n:Nat)(G:qaj->(qaj->T->Prop)->Prop):Sp:=λvs H Q _=>∃ts Ox q,(∀a∈Ox,H a≠none)/\aB K H Ox ts vs/\ts.length=n/\G ts q /\
 ∀us u,q us u->∀p l H',tP K H H' us u p l->Q (.ref p) H'
abbrev N1:=NV->(qaj->T->Prop)->En->S->Prop
structure DpM(K:qaf)(M:Mz)(us:qaj)(u:T)(p l:Addr)(H':Hp):Prop where
 kp:∀b o,M.H0 b=some o->b∉M.tw->H' b=some o
 own:l∈M.tw\/M.H0 l=none
 tup:∃v,H' p=some (.tup [.ref l,v])/\At K H' [] u v
 lst:∃vs,H' l=some (.lst vs)/\aB K H' [] us vs
 i1:dG us=true
 i2:bR u=true
def lMD(X:Cx)(M:Mz)(g:N1):TS:=λD σ H=>∃ρ s d dp,mj X.K M ρ s σ H/\g d dp ρ s/\QB X.K M d D/\∀us u,dp us u->∀p l H',DpM X.K M us u p l H'->D.rt (.ref p) H'
def Lj(X:Cx)(M:Mz)(st:qaq)(g:N1):Prop:=Bm (iZ X st (lMD X M g))
section
variable{st:Stmt}{rest:qaq}{g:FM}{u:N1}{pos:Pos}
def N2(g:FM)(u:N1):N1:=λd dp ρ s=>g {d with nx:=u d dp} ρ s
theorem qz(h1:MS X M st g)(h2:Lj X M rest u):Lj X M (st::rest) (N2 g u):=⟨iZ.i5 (cP h1.h h2.h) λD σ H ⟨ρ,s,d,dp,I,h,F,q⟩ =>
 ⟨ρ,s,{d with nx:=u d dp},I,h,⟨λρ' s' σ' H' I' h'=>⟨ρ',s',d,dp,I',h',F,q⟩,F.rt,F.bk,F.ct⟩⟩⟩
noncomputable def Wj(ps:List kS)(fe:FE):N1:=λ_ dp ρ s=>∃ys:qaj,s.get ps=some (.lst (ys.map .lf))/\dG ys=true/\fe ρ λu=>bR u=true/\dp ys u
theorem bf.lfs{K:qaf}{H:Hp}{A:qah}:∀{ys:qaj}{vs:qak}{fp:qah},bf K H A (ys.map .lf) vs fp->aB K H A ys vs
 |[],vs,fp,h=>by simp only[JF,bf] at h;rw[h.1];exact aB.nil
 |y::ys,vs,fp,h=>by simp only[gR,bf,cj] at h;obtain⟨v,r,f,g,rfl,rfl,⟨_,h1⟩,h2⟩:=h;exact aB.cons h1 (bf.lfs h2)
theorem Ll{ps:List kS}{x1}{pos:Pos}(ho:PE X o (jx M.k ps))(he:∀H0,VE X ⟨H0,[],M.Ox⟩ e fe)(s1:starEach [o,e] X.env=(false,eval o X.env)::starEach [e] X.env:=by rfl)(s2:starEach [e] X.env=(false,eval e X.env)::starEach [] X.env:=by rfl) :
  Lj X M [.Return (some (.Tuple [o,e] x1 p)) pos] (Wj ps fe):=⟨λpins s' σ H D J ⟨ρ,s,d,dp,⟨⟨O,fp,F,I⟩,hp⟩,hg,Fi,dpk⟩=>by
 obtain⟨ys,DF,hys,hg⟩:=hg;obtain⟨w,f1,f,f2,Ab,ev,V2,_⟩:=F.ow.focus DF;have xR:=V2;simp only[cj] at xR;obtain⟨l,xs,iE,rfl,hl,rfl,hL⟩:=xR;obtain⟨_,hσ⟩:=cR I hp;refine j2 (ur (zI (bD ho (bD (he (pd H (roots O)) []) cX s2) s1))) pins s' σ H D J ⟨.ref M.a,.ref l,hσ,ev,ρ,O,_,I,hg,λt ht v H1 sm a1=>⟨by rw[sizeLine_eq];simp,λp PL=>?_⟩⟩;obtain⟨hi,hq⟩:=ht;have I0:=I.same sm;have F1:=F.now I0 (bF I);have sp:aY H1 (upd H1 p (.tup [.ref l,v])):=aK PL;have X8:l∈fp:=by rw[Ab];simp
 refine dpk ys t hq p l _ ⟨λb o e n=>sp _ _ (F1.kp b o e n).1,F1.fr l X8,⟨v,aI,At.bR hi (a1.same sp)⟩,⟨xs,sp _ _ (sm _ _ hl),?_⟩,hys,hi⟩;exact aB.bR hys ((hL.lfs.same sm).same sp)⟩
noncomputable def N3(X:Cx)(k:Nat)(C:Addr)(cz:S)(GL:qaj->(T->Prop)->Prop)(g:Hp->qah->qah->Addr->N1):TS:=λD σ H=>∃ρ Ox pr t2 t3 q,ay X.K ⟨H,[],Ox⟩ [] (List.replicate X.N.length none) ρ σ H/\k<ρ.length/\ρ[0]?=some (some (pr,false))/\ρ[2]?=some (some (t2,false))/\ρ[3]?=some (some (t3,false)) /\
 bR t2=true/\bR t3=true/\GL [pr] q/\∀L,q L->∀H0 tw a,∃dp,g H0 tw Ox a {nx:=λ_ _=>False,rt:=λ_ _ _=>False} dp (ρ.set k (some (.pin a (S.ins C mN (xW cz L t2 t3)).t,false))) (.ins C mN (xW cz L t2 t3))/\∀us u,dp us u->∀p l H',tP X.K H H' us u p l->D.rt (.ref p) H'
theorem G3{cz:S}{k kC:Nat}{fI:Addr}{V9:FuncData}{g:Hp->qah->qah->Addr->N1}{px pC e1 e2 e3 pc:Pos}(hN:X.N.Nodup)(hk:X.N[k]?=some x)(hx:Loc X.env.scope x)(MI:Mk X.K C fI)(FI:cA X.prog X.w X.K X.mg X.base eV kC fI V9 qav (spK X.K C cz GL))(rI:bz (kC+1) X.A)(gI:Gl X "Machine")(mI:X.mg "Machine"=some (.ref C))(bI:Binds X.K V9 qav [])(G4:∀H0 tw Ox a,Lj X ⟨H0,tw,Ox,a,k⟩ rest (g H0 tw Ox a))(h0:X.N[0]?=some ("program":Str):=by rfl)(h2:X.N[2]?=some ("most":Str):=by rfl)(h3:X.N[3]?=some ("poke":Str):=by rfl)(v0:kF X.env.scope "program":=by exact Or.inl rfl)(v2:kF X.env.scope "most":=by exact Or.inl rfl)(v3:kF X.env.scope "poke":=by exact Or.inl rfl)(s1:starEach [.Name "program" e1,.Name "most" e2,.Name "poke" e3] X.env=(false,eval (.Name "program" e1) X.env)::starEach [.Name "most" e2,.Name "poke" e3] X.env:=by rfl)(s2:starEach [.Name "most" e2,.Name "poke" e3] X.env=(false,eval (.Name "most" e2) X.env)::starEach [.Name "poke" e3] X.env:=by rfl)(s3:starEach [.Name "poke" e3] X.env=(false,eval (.Name "poke" e3) X.env)::starEach [] X.env:=by rfl)(s4:(backTo pc (starEach [.Name "most" e2,.Name "poke" e3] X.env)).any (·.1)=false:=by rfl)(hs:swapsWith (.Call (.Name "Machine" pC) [.Name "program" e1,.Name "most" e2,.Name "poke" e3] [] pc) (some (.Name x px)) p1.line X.env=pure false:=by rfl)(hf:X.fn x=true\/X.env.scope.names.lookup x=some .local:=by first|exact .inl rfl|exact .inr rfl|assumption) :
  iZ X (.Assign [.Name x px] (.Call (.Name "Machine" pC) [.Name "program" e1,.Name "most" e2,.Name "poke" e3] [] pc) p1::rest) (N3 X k C cz GL g):=λpins s' σ H D J ⟨ρ,Ox,pr,t2,t3,q,I,Tj,i0,i2,i3,m2,m3,hG,kk⟩=>by
 obtain⟨_,_,_,z0,rfl,w0,rfl,a0⟩:=I.sl 0 _ i0;obtain⟨_,_,_,z2,rfl,w2,rfl,a2⟩:=I.sl 2 _ i2;obtain⟨_,_,_,z3,rfl,w3,rfl,a3⟩:=I.sl 3 _ i3;have ea:av ⟨H,[],Ox⟩ (List.replicate X.N.length none)=Ox:=by unfold av;rw[dj];rfl
 rw[ea] at a0 a2 a3;have ro:roots ((List.replicate X.N.length (none:qar)).set k none)=[]:=by
  have:(List.replicate X.N.length (none:qar)).set k none=List.replicate X.N.length none:=by
   refine Nd λi=>?_;rw[T1];split
   rename_i e;subst e;rw[CA,zi]
   rfl
  rw[this];exact dj _
 refine cP (uu hN hk hx (uw MI FI rI gI mI bI .nil ko (bD (bV h0 v0 (by decide) (by decide)) (bD (bV h2 v2 (by decide) (by decide)) (bD (bV h3 v3 (by decide) (by decide)) cX s3) s2) s1) (by decide) s1 s4) hs hf)
  (t:=_) (u:=λD σ1 H1=>∃fp a,lMD X ⟨H1,fp,Ox,a,k⟩ (g H1 fp Ox a) D σ1 H1) (λpins s σ1 H1 D1 J1 ⟨fp,a,h⟩=>(G4 H1 fp Ox a).h pins s σ1 H1 D1 J1 h) pins s' σ H D J ⟨w0,z0,w2,z2,w3,z3,λa dx na ndx gK=>?_⟩
 have nO:a∉Ox:=λz=>I.ox a z na;have s0:aY H (upd (upd H dx (.own a)) a (.ins C dx [])):=λb o e=>by rw[aE (bo e na),aE (bo e ndx)];exact e
 refine⟨a,dx,Ox,pr,w0,t2,w2,t3,w3,q,rfl,aI,nO,λb hb=>?_,(a0.more λb hb=>?_).same s0,m2,At.bR m2 (a2.same s0),m3,At.bR m3 (a3.same s0),hG,λL hL H1 In=>⟨rfl,?_⟩⟩;cases e:H b with
 |none=>exact absurd e (I.ox b hb)
 |some o=>rw[s0 _ _ e];simp
 rcases cT.mp hb with z|z
 exact .inr (by rw[z];exact na);exact .inl z;obtain⟨fp,hS,nd,each⟩:=In.ex;have ne:∀b∈fp,H b=none:=λb hb=>by
  rcases each b hb with z|z
  rw[z];exact na;cases e:H b with
  |none=>rfl
  |some o=>rw[s0 _ _ e] at z;cases z
 have sm:aY H H1:=λb o e=>In.fr b o (s0 _ _ e) (bo e na);have nD:∀b∈fp,b∉Ox:=λb hb z=>I.ox b z (ne b hb);have view:At X.K H1 Ox (S.ins C mN (xW cz L t2 t3)).t (.ref a):=hS.view (λb hb=>bU _ hb) nD;obtain⟨dp,hg,hd⟩:=kk L hL H1 fp a;have J1:=(I.same sm).put (i:=k) (t:=.pin a (S.ins C mN (xW cz L t2 t3)).t) (v:=.ref a) (λp hp=>absurd hp gb) (by rw[ea];simp only[At];exact⟨trivial,view⟩);refine⟨fp,a,_,_,_,dp,⟨⟨_,fp,⟨?_,nd,λb hb=>⟨by rw[ro];simp,nD b hb⟩,λb hb=>.inl hb,λb o e n=>⟨e,by rw[ro];simp⟩⟩,J1.rebase (Z:=⟨H,[],Ox⟩) rfl⟩,?_⟩,hg,⟨λ_ _ _ _ _ z=>z.elim,λ_ _ _ _ _ _ _ _ _ _ _ _ _ z=>z.elim,λ_ _ _ _ _ z=>z.elim,λ_ _ _ _ _ z=>z.elim⟩,λus u hu p l H' DM=>hd us u hu p l H' ⟨λb o e=>DM.kp b o (sm _ _ e) (λz=>by rw[ne b z] at e;cases e),DM.tup,?_,DM.lst,DM.i1,DM.i2⟩⟩;rw[ro];exact hS;exact Bf Tj;obtain z|z:=DM.own
 exact ne l z;cases e:H l with
 |none=>rfl
 |some o=>have z':H1 l=none:=z;rw[sm _ _ e] at z';cases z'
end
section
theorem fnR{cz:S}{st:Stmt}{N:qai}{k:Nat}{G:qaj->(qaj->T->Prop)->Prop}(F:Bw K x qual st f fd)(Sc:az N ps (ah st))(hn:4=ps.length)(hN:4<=N.length)(dN:∀(bA:Value) (A:Around) (outer:List Env) (s:Shared) (H:Hp) (E:XK),bz k (A.deeper (envOfC qual (ah st) s.heap.objs.size f bA))->∀t0 t1 t2 t3 q,G [t0,t1,t2,t3] q->∃g qL,iZ (gh eV P w K mg base N qual (ah st) f bA A outer s H E).pB (bK st) (N3 (gh eV P w K mg base N qual (ah st) f bA A outer s H E).pB j C cz GL g)/\j<N.length/\bR t2=true/\bR t3=true/\GL [t0] qL /\
    ∀L,qL L->∀H0 tw Ox a,g H0 tw Ox a {nx:=λ_ _=>False,rt:=λ_ _ _=>False} q ((some (t0,false)::some (t1,false)::some (t2,false)::some (t3,false)::List.replicate (N.length-4) none:En).set j (some (.pin a (S.ins C mN (xW cz L t2 t3)).t,false))) (.ins C mN (xW cz L t2 t3))) :
  cA P w K mg base eV (k+1) f fd ps (Ti K 4 G):=by
 refine F.ok Sc (λvs H Q E h=>?_) (λbA A outer s H vs Q E hr h=>?_);obtain⟨ts,Ox,q,_,ha,hl,_⟩:=h;rw[ha.length,hl,hn];obtain⟨ts,Ox,q,ox,ha,hl,hG,kk⟩:=h
 match ts,hl with
 |[t0,t1,t2,t3],_=>obtain⟨g,qL,hP,hj,m2,m3,hL,hg⟩:=dN bA A outer s H E hr t0 t1 t2 t3 q hG;refine⟨_,hP,_,Ox,t0,t2,t3,qL,j9 (N:=N) (ts:=[t0,t1,t2,t3]) hN ox ha,?_,rfl,rfl,rfl,m2,m3,hL,λL hq H0 tw a=>⟨q,hg L hq H0 tw Ox a,λus u hu p l H' D=>kk us u hu p l H' D⟩⟩;show j<(_::_::_::_::List.replicate (N.length-4) none:En).length;simp only[wI,zi];omega
end
structure G5(K:qaf)(x qual:Str)(st:Stmt)(f:Addr)(fd:FuncData):Prop where
 ex:∃(oc:Value)(od:qar)(dV kV doc pm:Value)(an:qar)(bA ct:Value)(CZ:Array (Option Value)),
  fd=PySem.W.fnOf x qual (c6 st) (bK st) (ah st) dV kV doc pm an bA ct/\K.lookup f=some ⟨oc,od,.func fd,CZ⟩/\PySem.W.codeIn K bA qual=true
 kp:PySem.W.keepIn K (.ref f)=true
section
theorem G5.ok{st:Stmt}{N:qai}{k:Nat}(F:G5 K x qual st f fd)(S:az N ps (ah st))(len:∀vs H Q E,sp vs H Q E->vs.length=ps.length)(dN:∀(bA:Value) (A:Around) (outer:List Env) (s:Shared) (H:Hp) (vs:qak) (Q:VK) (E:XK),bz k (A.deeper (envOfC qual (ah st) s.heap.objs.size f bA))->sp vs H Q E ->
    ∃t,iZ (gh eV P w K mg base N qual (ah st) f bA A outer s H E).pB (bK st) t/\t {nx:=λ_ H'=>Q .aQ H',rt:=Q} (start N vs) H):cA P w K mg base eV (k+1) f fd ps sp:=by
 obtain⟨oc,od,dV,kV,doc,pm,an,bA,ct,CZ,rfl,lk,gn⟩:=F.ex;refine Nt lk gn S len λA outer s H vs Q E hr Jo=>?_;obtain⟨t,h,q⟩:=dN bA A outer s H vs Q E hr Jo;exact⟨t,h.pB,q⟩
end
section
variable{k:Nat}{G:qaj->(qaj->T->Prop)->Prop}{pos:Pos}{ds:qag}{uv:qak}{dts:qaj}
def lDR(X:Cx)(Z:Zc)(tm:qab)(f:En->(qaj->T->Prop)->Prop):TE:=λσ H Q=>∃ρ O q,ay X.K Z tm O ρ σ H/\f ρ q/\∀us u,q us u->∀p l H',tP X.K H H' us u p l->Q (.ref p) H'
def Ju(X:Cx)(Z:Zc)(e:Expr)(f:En->(qaj->T->Prop)->Prop):Prop:=Bx λtm=>PE X e (lDR X Z tm f)
instance{X:Cx}{Z:Zc}{e:Expr}{f:En->(qaj->T->Prop)->Prop}:CoeFun (Ju X Z e f) λ_=>∀tm,PE X e (lDR X Z tm f):=⟨λh=>Bx.h h⟩
def G6(n:Nat)(dts:qaj)(g:FA)(G:qaj->(qaj->T->Prop)->Prop):En->(qaj->T->Prop)->Prop:=λρ Q=>g ρ λts=>(ts++dts).length=n/\G (ts++dts) Q
theorem jB(F:cA X.prog X.w X.K X.mg X.base eV k f fd ps (Ti X.K n G))(hr:bz k X.A)(hg:Gl X x)(hm:X.mg x=some (.ref f))(hk:PySem.W.keepIn X.K (.ref f)=true)(hb:Binds X.K fd ps ds)(hd:Vals uv ds)(hdt:∀H A,aB X.K H A dts uv)(ha:VA X Z (e::es) g)(m8:ie x:=by decide)(he:starEach (e::es) X.env=(false,eval e X.env)::starEach es X.env:=by rfl)(ic:(backTo pos (starEach es X.env)).any (·.1)=false:=by rfl) :
  Ju X Z (.Call (.Name x p) (e::es) [] pos) (G6 n dts g G):=.mk λtm=>PE.weak (lU F hr hg hm hk hb hd ko (ha tm) m8 he ic) λσ H Q ⟨ρ,O,q,I,hf,k⟩ =>
 ⟨ρ,O,_,I,hf,λts fR vs H1 s1 a1=>by
   refine⟨ts++dts,av Z O,q,(I.same s1).zj,a1.append (hdt H1 _),fR.1,fR.2,λus u hu p l H' D=>k us u hu p l H' ⟨s1.trans D.same,D.tup,?_,D.lst,D.i1,D.i2⟩⟩;cases z:H l with
   |none=>rfl
   |some o=>have:=D.new;rw[s1 _ _ z] at this;cases this⟩
theorem tP.at{tm:qab}{us:qaj}{u:T}{p l:Addr}(I:ay K Z tm O ρ σ H)(D:tP K H H' us u p l):At K H' (av Z O) (.tup [.lst us,u]) (.ref p):=by obtain⟨v,h1,h2⟩:=D.tup;obtain⟨vs,h3,h4⟩:=D.lst;refine cv (fg.of h1) (aB.cons ?_ (aB.cons (At.bR D.i2 h2) aB.nil));simp only[At];exact⟨l,vs,rfl,.inl ⟨.inl h3,λz=>I.zj _ z D.new⟩,aB.bR D.i1 h4⟩
def N4(f:En->(qaj->T->Prop)->Prop):FP:=λρ Q=>f ρ λus u=>Q (.vw (.tup [.lst us,u]))
theorem Ju.vp{f:En->(qaj->T->Prop)->Prop}(h:Ju X Z e f):VP X Z e (N4 f):=.mk λtm=>PE.weak (h tm) λσ H Q ⟨ρ,O,q,I,hf,k⟩ =>
 ⟨ρ,O,λus u=>q (.vw (.tup [.lst us,u])),I,hf,λus u hu p l H' D=>k _ hu _ H' D.same ⟨I.same D.same,D.at I⟩⟩
theorem G7{f:En->(qaj->T->Prop)->Prop}{pos:Pos}(h:Ju X Z e f):iZ X [.Return (some e) pos] (λD σ H=>∃ρ O q,ay X.K Z [] O ρ σ H/\f ρ q/\∀us u,q us u->∀p l H',tP X.K H H' us u p l->D.rt (.ref p) H') :=
 j2 (ur (h []))
end
section
theorem acH{st:Stmt}{N:qai}{k:Nat}{G:qaj->(qaj->T->Prop)->Prop}(F:G5 K x qual st f fd)(S:az N ps (ah st))(hn:n=ps.length)(hN:n<=N.length)(dN:∀(bA:Value) (A:Around) (outer:List Env) (s:Shared) (H:Hp) (E:XK) (Ox:qah),bz k (A.deeper (envOfC qual (ah st) s.heap.objs.size f bA))->∀ts q,G ts q->ts.length=n->∃e pos f',bK st=[.Return (some e) pos]/\Ju (gh eV P w K mg base N qual (ah st) f bA A outer s H E).pB ⟨H,[],Ox⟩ e f'/\f' (ts.map (λt=>some (t,false))++List.replicate (N.length-ts.length) none) q) :
  cA P w K mg base eV (k+1) f fd ps (Ti K n G):=by
 refine F.ok S (λvs H Q E h=>?_) (λbA A outer s H vs Q E hr h=>?_);obtain⟨ts,Ox,q,_,ha,hl,_⟩:=h;rw[ha.length,hl,hn];obtain⟨ts,Ox,q,ox,ha,hl,hG,kk⟩:=h;obtain⟨e,pos,f',hb,hV,hf⟩:=dN bA A outer s H E Ox hr ts q hG hl;rw[hb];exact⟨_,G7 hV,_,_,q,j9 (by omega) ox ha,hf,kk⟩
end
end VT
namespace VT
open PySem PySem.Spec PyProof.Rows L2
open AutoSeq1 (wpAny_loadPart')
theorem DO(b:Addr)(xs:Array Value)(m:Nat)(dq:qar)(sq:Array (Option Value)) :
  Meets (Builtin.«enumerate.__new__» ⟨[.type "enumerate",.ref b],[]⟩) (λ_ R s=>s.heap.get? b=some ⟨.type "tuple",dq,.seq xs m,sq⟩ /\
   R (.ok (.ret (.ref (s.heap.push {cls:=.type "tuple_iterator",data:=.fields #[.ref b,.int 0 0]}).objs.size)))
    {s with heap:=(s.heap.push {cls:=.type "tuple_iterator",data:=.fields #[.ref b,.int 0 0]}).push ⟨.type "enumerate",none,.fields #[.none,.bool false,.ref s.heap.objs.size,rawInt 0,.none,.none],#[]⟩}) :=
 .of_wp λprog w A R s ⟨hb,k⟩=>by
  obtain⟨h0,g0,d0,t0,os0⟩:=s;have adk:=sub_enumerate;have hT:Heap.IsTuple (Shared.heap ⟨h0,g0,d0,t0,os0⟩) b xs:=⟨_,hb,rfl,m,rfl⟩
  wp_walk using wpAny_loadPart' hb
  refine wpAny_stack_any λst=>wpAny_pure ?_;split
  rename_i c _ _ _ _ _
  cases (c==Value.type "enumerate")<;>(wp_walk using wpAny_loadPart' hb,wpAny_pyIter_tuple hT)<;>exact⟨_,rfl,k⟩
  wp_walk using wpAny_loadPart' hb,wpAny_pyIter_tuple hT
  exact⟨_,rfl,k⟩
section
variable{s:Shared}
theorem G8{b:Addr}{xs:Array Value}(hT:s.heap.IsTuple b xs)(k:∀h',IsEnum h' (s.heap.objs.size+1) s.heap.objs.size 0 .none->h'.IsTupleIter s.heap.objs.size b 0->(∀c o,s.heap.get? c=some o->h'.get? c=some o)->Q (.ref (s.heap.objs.size+1)) {s with heap:=h'}) :
  wpAny (model prog w) A (call (.type "enumerate") [.ref b]) Q E s:=by
 obtain⟨⟨c,dq,dt,sq⟩,hb,hc,m,hd⟩:=hT;have e1:c=.type "tuple":=hc;have e2:dt=.seq xs m:=hd;subst e1 e2;refine callType_new F.called_enumerate (by decide) (F.typeCall_enumerate_1 _) (F.newCall_enumerate_1 _) (λobj=>F.args_object_init_2 obj _) F.entry_enumerate_new (DO b xs m dq sq) ⟨hb,?_⟩;have z1:(s.heap.push {cls:=.type "tuple_iterator",data:=.fields #[.ref b,.int 0 0]}).objs.size=s.heap.objs.size+1:=T6 ..;have z2:IsEnum ((s.heap.push {cls:=.type "tuple_iterator",data:=.fields #[.ref b,.int 0 0]}).push ⟨.type "enumerate",none,.fields #[.none,.bool false,.ref s.heap.objs.size,rawInt 0,.none,.none],#[]⟩) (s.heap.objs.size+1) s.heap.objs.size 0 .none:=by rw[<- z1];exact sR _ rfl
 show _/\_;rw[z1];exact⟨⟨_,z2,rfl⟩,k _ z2 ⟨_,mV _ (sR _ rfl),rfl,rfl⟩ λc o q=>mV _ (mV _ q)⟩
theorem Ae{j b:Addr}{xs:Array Value}{y:Value}(hj:s.heap.IsTupleIter j b n)(hb:s.heap.IsTuple b xs)(hy:xs[n]?=some y)(k:∀h',h'.IsTupleIter j b (n+1)->Heap.SameBut j s.heap h'->Q y {s with heap:=h'}):wpAny (model prog w) A (Builtin.SmallTypes.nextOf (.ref j)) Q E s:=by obtain⟨u,g1,g2,g3⟩:=id hj;obtain⟨v,f1,_,q,f2⟩:=hb;unfold Builtin.SmallTypes.nextOf;refine wpAny_bind (wpAny_callSpecial?_slot (name:=Str.ofString "__next__") hj.typeIs Xu (wpAny_call_entry Xu hj.typeIs F.entry_tuple_iterator_next ?_ (F.args_tuple_iterator_next_1 _)));show wpAny _ _ (field (.ref j) 0 >>= _) _ _ s;refine wpAny_bind (wpAny_field g1 g3 (x:=.ref b) rfl ?_);show wpAny _ _ (if (Value.ref b==Value.none)=true then _ else _) _ _ s;rw[if_neg (show ¬ ((Value.ref b==Value.none)=true) from iD)];show wpAny _ _ (field (.ref j) 1 >>= _) _ _ s;refine wpAny_bind (wpAny_field g1 g3 (x:=.int n 0) rfl ?_);show wpAny _ _ (seqItems? (.ref b) >>= _) _ _ s;refine wpAny_bind (wpAny_seqItems f1 f2 ?_);simp only[wy,hy];refine wpAny_bind (wpAny_setField g1 g3 (by simp) (wpAny_pure ⟨y,rfl,wpAny_pure (k _ ⟨_,Heap.get?_update_self _ g1 (Obj.isFreed_of_fields (Obj.data_mapFields g3 _)),(Obj.cls_mapFields ..).trans g2,by rw[Obj.data_mapFields g3];simp[rawInt]⟩ (Heap.SameBut.update ..))⟩))
theorem tQ{j b:Addr}{xs:Array Value}(hh:A.handled=none)(hj:s.heap.IsTupleIter j b n)(hb:s.heap.IsTuple b xs)(hy:xs[n]?=none)(k:∀h' e,Heap.ExtBut j s.heap h'->(∃o,h'.get? e=some o/\o.cls=.type "StopIteration")->E (.ref e) {s with heap:=h'}):wpAny (model prog w) A (Builtin.SmallTypes.nextOf (.ref j)) Q E s:=by
 obtain⟨u,g1,g2,g3⟩:=id hj;obtain⟨v,f1,_,q,f2⟩:=hb;unfold Builtin.SmallTypes.nextOf;refine wpAny_bind (wpAny_callSpecial?_slot (name:=Str.ofString "__next__") hj.typeIs Xu (wpAny_call_entry Xu hj.typeIs F.entry_tuple_iterator_next ?_ (F.args_tuple_iterator_next_1 _)));show wpAny _ _ (field (.ref j) 0 >>= _) _ _ s;refine wpAny_bind (wpAny_field g1 g3 (x:=.ref b) rfl ?_);show wpAny _ _ (if (Value.ref b==Value.none)=true then _ else _) _ _ s;rw[if_neg (show ¬ ((Value.ref b==Value.none)=true) from iD)];show wpAny _ _ (field (.ref j) 1 >>= _) _ _ s;refine wpAny_bind (wpAny_field g1 g3 (x:=.int n 0) rfl ?_);show wpAny _ _ (seqItems? (.ref b) >>= _) _ _ s;refine wpAny_bind (wpAny_seqItems f1 f2 ?_);simp only[wy,hy];refine wpAny_bind (wpAny_rule (wpAny_bind (wpAny_setField g1 g3 (by simp) ?_)));show wpAny _ _ (newExc (.type "StopIteration") [] >>= _) _ _ _;refine wpAny_bind ?_;simp only[newExc,newTuple];refine wpAny_bind (wpAny_newObj_type ?_ (by size_fits));refine wpAny_bind (m:=firstArgMember _ _) (wpAny_of_eq (a:=Value.none) (by first|rfl|(simp only[firstArgMember];rfl)) ?_);refine wpAny_newObj_type ?_ (by size_fits);simp only[raiseNew];refine wpAny_bind (wpAny_handled ?_)
 first|rw[show A.in1.handled=none from hh]|rw[hh]
 exact wpAny_bind (wpAny_pure (wpAny_throw (k _ _ (((Heap.SameBut.update ..).extBut.push _).push _) ⟨_,sR _ rfl,rfl⟩)))
end
theorem Wm(hh:A.handled=none)(j b:Addr)(gK:b≠j)(xs:Array Value):Draws prog w A j [j,b] xs.size (λi v=>xs[i]?=some v) (λi h=>h.IsTupleIter j b i/\h.IsTuple b xs) where
 live:=λ_ _ st=>let ⟨o,ho,_⟩:=st.1;⟨o,ho⟩
 frame:=λ_ _ _ st hk=>⟨let ⟨o,e,r⟩:=st.1;⟨o,hk j (by simp) o e,r⟩,let ⟨o,e,r⟩:=st.2;⟨o,hk b (by simp) o e,r⟩⟩
 item:=λi s Q E hi st k=>Ae st.1 st.2 (y:=xs[i]) (by simp[hi]) λh' h1 h2=>k _ h' s.toks (by simp[hi]) ⟨h1,st.2.extBut h2.extBut gK⟩ h2
 done:=λs Q E st k=>tQ hh st.1 st.2 (by simp) k
theorem Wn(hh:A.handled=none)(j b:Addr)(xs:Array Value)(i:Nat)(hi:xs[i]?=none):Draws prog w A j [j,b] i (λ_ _=>False) (λk h=>k=i/\h.IsTupleIter j b i/\h.IsTuple b xs) where
 live:=λ_ _ st=>let ⟨o,ho,_⟩:=st.2.1;⟨o,ho⟩
 frame:=λ_ _ _ st hk=>⟨st.1,let ⟨o,e,r⟩:=st.2.1;⟨o,hk j (by simp) o e,r⟩,let ⟨o,e,r⟩:=st.2.2;⟨o,hk b (by simp) o e,r⟩⟩
 item:=λk s Q E hk st _=>absurd st.1 (nY hk)
 done:=λs Q E st k=>tQ hh st.2.1 st.2.2 hi k
def QR(K:qaf)(a:Addr):It :=
 ⟨λi H=>∃xs x,fg K H a xs/\xs[i]?=some x,λi H v H'=>∃t x,H t=none/\v=.ref t/\(∀xs,fg K H a xs->xs[i]?=some x)/\H'=upd H t (.tup [.int (i:Int),x]),λi H=>∃xs,fg K H a xs/\xs.length<=i⟩
theorem Af{elts:qap}{x1}{tp:Pos}(a e it:Addr)(gK:e≠it)(hea:e≠a)(hai:a≠it) :
  Turn P w K (.Tuple elts x1 tp) (QR K a) [e,it] e (λi h=>(∃old,IsEnum h e it (i:Int) old)/\h.IsTupleIter it a i) where
 mem:=by simp
 obj:=λi h st b hb=>by
  obtain⟨⟨old,h1⟩,o,h2,c,d⟩:=st;rcases cT.mp hb with z|z
  subst z;exact⟨_,h1,λv z=>by cases z⟩;have z':b=it:=by simpa using z
  subst z';exact⟨o,h2,λv z=>by rw[d] at z;cases z⟩
 keep:=λi h h' st k=>by obtain⟨⟨old,h1⟩,o,e2,r⟩:=st;exact⟨⟨old,k e (by simp) _ h1⟩,o,k it (by simp) o e2,r⟩
 item:=by
  intro X hP hw hK hc i pins s σ H E I hf st hg;subst hP hw hK;obtain⟨xs,x,hq,hx⟩:=hg;obtain⟨a5,rv,p,hz⟩:=I.tuple hq;obtain⟨u,hu,ru⟩:=rv.get hx;obtain⟨⟨old,h1⟩,wV⟩:=st;have hi:i<a5.toArray.size:=by simp;exact (dS.mp hu).1
  refine wpAny_pyNext_enum_itemD (Wm (show X.A.in1.handled=none from I.ok.hd hc) it a hai a5.toArray) h1 ⟨wV,p⟩ hi gK (by simp[gK,hea]) λu' h₁ tk hP Jm PJ Zt hz₁ Zu=>?_;have eu:u'=u:=by
   have U1:a5[i]?=some u':=by simpa using hP
   rw[hu] at U1;exact (Option.some.inj U1).symm
  subst eu;refine⟨_,rfl,wpAny_letOwnedTupleGo_enum Jm λh₂ Zv Zw=>?_⟩;have zS:Heap.SameBut e h₁ h₂:=Zw;have j5:e<s.heap.objs.size:=iY h1;have Zx:s.heap.objs.size≠e:=Nh j5;have kk:∀b ob,b∉[e,it]->s.heap.get? b=some ob->h₂.get? b=some ob:=λb ob hb q=>by have CI:b≠e:=λz=>hb (by simp[z]);exact (zS.2 b CI).trans (Zu b ob CI (λz=>hb (by simp[z])) q)
  have new:cy X.prog X.w (upd H s.heap.objs.size (.tup [.int (i:Int),x])) h₂ s.heap.objs.size (.tup [.int (i:Int),x]) :=
   ⟨by show 2<=sizeLine;rw[sizeLine_eq];decide,[.int i tk,u'],.cons ⟨_,rfl⟩ (.cons ru .nil),⟨_,(zS.2 _ Zx).trans Zt,rfl,_,rfl⟩⟩
  refine⟨.ref s.heap.objs.size,upd H s.heap.objs.size (.tup [.int (i:Int),x]),I.grown (t':=tk+1) kk hf (c3 _) new,rfl,⟨_,x,I.fresh,rfl,λys hy=>by rw[I.m4 hy hq];exact hx,rfl⟩,⟨⟨u',?_⟩,?_⟩,λb hb=>?_⟩;have:((i:Int)+1)=((i+1:Nat):Int):=by omega
  rw[<- this];exact Zv;obtain⟨⟨o,q,r⟩,_⟩:=PJ;exact⟨o,(zS.2 it (Ne.symm gK)).trans q,r⟩;have PK:b<s.heap.objs.size:=by
   rcases cT.mp hb with z|z
   subst z;exact j5;have z':b=it:=by simpa using z
   subst z';obtain⟨o,q,_⟩:=wV;exact iY q
  rw[aE (nY PK)];exact (hf b hb).1
 done:=by intro X hP hw hK hc i pins s σ H E I hf st hg;subst hP hw hK;obtain⟨xs,hq,hx⟩:=hg;obtain⟨a5,rv,p,hz⟩:=I.tuple hq;have hl:=rv.length;obtain⟨⟨old,h1⟩,wV⟩:=st;obtain⟨f0,f1,f2,f3,f4,f5⟩:=hf it (by simp);exact wpAny_pyNext_enum_endD (Wn (show X.A.in1.handled=none from I.ok.hd hc) it a a5.toArray i (by simp;omega)) h1 ⟨rfl,wV,p⟩ λh' eb=>⟨rfl,I.turned (t':=s.toks) (λb o hb q=>eb b o hb q) f0 f1 f3 f4 f5⟩
 self:=λ_ _ _ _ _ st h=>by obtain⟨⟨old,h1⟩,_⟩:=st;exact wpAny_pyIter_enum h1 h
section
def QS(K:qaf)(ta:TA):TI:=λσ H R=>ta σ H λvs H1=>∃a,vs=[.ref a]/\(∃xs,fg K H1 a xs)/\R (QR K a) H1
theorem G9{elts:qap}{x1}{tp:Pos}{a:Expr}{ta:TA}{pos:Pos}(hg:Gl X "enumerate")(hm:X.mg "enumerate"=none)(ha:PA X [a] ta)(hs:starEach [a] X.env=[(false,eval a X.env)]:=by rfl) :
  PI X (.Tuple elts x1 tp) (.Call (.Name "enumerate" p) [a] [] pos) (QS X.K ta):=by
 intro pins s σ H R I h;refine Call_ (kG I hg hm L2.boot_enumerate (TK (bZ (ha pos pins s σ H _ I h) λus s1 ⟨vs,H1,I1,r1,q1⟩=>?_) hs rfl));obtain⟨b,e,⟨xs,hq⟩,q⟩:=q1;subst e;obtain⟨u,rfl,ru⟩:=vals1 r1;cases ru;obtain⟨a5,rv,pl,hz⟩:=I1.tuple hq;have hb:b<s1.heap.objs.size:=by obtain⟨o,ho,_⟩:=pl;exact iY ho
 refine G8 pl λh' he hit hk=>wpAny_pyIter_enum he ?_;refine⟨s1.heap.objs.size+1,[s1.heap.objs.size+1,s1.heap.objs.size],_,_,H1,rfl,I1.kept (t':=s1.toks) hk,Af b _ _ (Nh (EM _)) (Nh (OE hb)) (nY hb),⟨⟨_,he⟩,hit⟩,λc hc=>?_,q⟩;rcases cT.mp hc with z|z
 subst z;exact I1.pD (S7 _) (I1.cn.fresh (S7 _));have z':c=s1.heap.objs.size:=by simpa using z
 subst z';exact I1.pD (c3 _) I1.fresh
end
def QT(f:FE):FI:=λρ Q=>f ρ λt=>match t with
 |.tup ts=>Q (dP ts)
 |_=>False
theorem G_{ts:qaj}:Wk K (QR K a) [(.tup ts,.ref a)] (dP ts):=λH A hA h i=>by
 have h:=h _ dw;simp only[At] at h;obtain⟨b,vs,e,l,q⟩:=h;cases e;have hl:=q.length;have hle:(dP ts).length=ts.length:=by unfold dP;rw[List.length_mapIdx]
 rw[hle];refine⟨λhi=>⟨vs,vs[i]'(by omega),l,by simp⟩,λhi=>⟨vs,l,by omega⟩,λt ht x H' y=>?_⟩;obtain⟨p,u,hp,rfl,hu,rfl⟩:=y;unfold dP at ht;rw[TX] at ht;cases e:ts[i]? with
 |none=>rw[e] at ht;cases ht
 |some t'=>rw[e] at ht;cases ht;obtain⟨v,e1,e2⟩:=q.get e;have:=hu vs l;rw[e1] at this;cases this;exact⟨aK hp,cv (fg.of aI) (aB.cons bC (aB.cons (e2.same (aK hp)) aB.nil))⟩
theorem G'{a:Expr}{pos:Pos}{elts:qap}{x1}{tp:Pos}(hg:Gl X "enumerate")(hm:X.mg "enumerate"=none)(ha:VE X Z a fa)(hs:starEach [a] X.env=[(false,eval a X.env)]:=by rfl) :
  VI X Z (.Tuple elts x1 tp) (.Call (.Name "enumerate" p) [a] [] pos) (QT fa):=.mk λtm=>PI.weak (G9 hg hm (bD (ha tm) cX hs) hs) λσ H R ⟨ρ,O,q,I,hf,k⟩=>⟨ρ,O,_,I,hf,λt ht v H' s a=>by
 split at ht;have a0:=a;simp only[At] at a;obtain⟨p,vs,rfl,l,_⟩:=a;exact⟨p,rfl,⟨vs,l⟩,k _ ht _ H' _ s (λp hp=>by rw[jh.mp hp];exact a0) G_⟩;exact ht.elim⟩
theorem B5{ds:qag}{o:Obj}{xs:Array Value}(h1:fd.defaults=.ref a)(h2:K.lookup a=some o)(h3:o.data=.seq xs n)(hl:ps.length=m+ds.length)(h:∀us:qag,us.length=m->∃k,bindArgs fd ⟨us,[]⟩=seqItems? fd.defaults >>= k/\k (some xs)=pure (ps.zip (us++ds))):Binds K fd ps ds:=λs us KX e=>by obtain⟨k,e1,e2⟩:=h us (by rw[nX] at e;omega);exact BindsTo.of_defaults h1 (KX _ _ h2) h3 e1 e2
section
variable{vv sl:Expr}{sp pos:Pos}{l:List (Str×T)}{k:Nat}
noncomputable def Wo(l:List (Str×T))(fe:FE):FP:=λρ Q=>fe ρ λy=>onStr y λk=>∃t,z8 l k=some t/\Q (.vw t)
theorem Ha(hg:Gl X x)(hm:X.mg x=some (.ref a))(d:qr X.w X.K a l)(he:VR X Z e fe)(hs:KU e:=by intro _ _;rfl)(hd:ie x:=by decide) :
  VP X Z (.Subscript (.Name x p) e pos) (Wo l fe):=.mk λtm pins s σ H Q I ⟨ρ,O,q,E,hf,k⟩=>by
 refine BP PySem.F.slot_dict_getitem.lookup hs (bZ (uq hg hm (v:=.ref a) rfl hd pins s σ H (λv H'=>v=.ref a/\H'=H) I ⟨rfl,rfl⟩) λu s1 ⟨x',H1,I1,rx,ex,eH⟩=>?_);subst ex eH;obtain rfl:u=Value.ref a:=rx;refine bZ (he tm pins s1 σ H1 (λy H2=>∃t,jg X.K H2 (av Z O) t y/\aY H1 H2/\onStr t λk=>∃t',z8 l k=some t'/\q (.vw t')) I1 ⟨ρ,O,_,E,hf,λt ht v H' s a1=>⟨t,a1,s,ht⟩⟩) λiv s2 ⟨y,H2,I2,ry,t,a1,sa,q3⟩=>?_;obtain⟨kk,et,t',X_,q4⟩:=xH q3;subst et;obtain⟨jr,Qu,BI,Ga,Dw,X3⟩:=d.of I2;have ey:=a1.str;subst ey;obtain⟨v,ev,av'⟩:=(gU (BI H2 (av Z O))).1 t' X_;obtain⟨w',hw,rw'⟩:=ki.some_of (v:=v) (o:=valueAt Qu (Sum.inr kk)) (by rw[<- ev,<- fM];exact Ga.val (Sum.inr kk));exact⟨Dw.typeIs,wpAny_getItem_of (ot (k:=Sum.inr kk) ry) Dw.mapOf hw ⟨v,H2,I2.tok _,rw',k _ q4 _ H2 sa ⟨E.same sa,av'⟩⟩⟩
def QU(ff:FP)(n:Nat)(g:FA)(Fn:Addr->GV->Prop):FP:=λρ Q=>ff ρ λr=>match r with
 |.vw (.ob f)=>∃G,Fn f G/\g ρ λts=>ts.length=n/\G ts Q
 |_=>False
theorem mn(args:qap)(keywords:List Keyword)(env:Env):eval (.Call (.Subscript vv sl sp) args keywords pos) env=(do
 callWith pos (<- eval (.Subscript vv sl sp) env) [] (backTo pos (starEach args env)) (backToKw pos (keywordEach keywords env))):=rfl
theorem Hb{ff:FP}{Fn:Addr->GV->Prop}(hx:VP X Z (.Subscript vv sl sp) ff)(C:∀f G,Fn f G->PySem.W.keepIn X.K (.ref f)=true/\∃fd ps,Binds X.K fd ps []/\cA X.prog X.w X.K X.mg X.base eV k f fd ps (cW X.K n G))(hr:bz k X.A)(ha:VA X Z (e::es) g)(he:starEach (e::es) X.env=(false,eval e X.env)::starEach es X.env:=by rfl)(ic:(backTo pos (starEach es X.env)).any (·.1)=false:=by rfl) :
  VP X Z (.Call (.Subscript vv sl sp) (e::es) [] pos) (QU ff n g Fn):=.mk λtm pins s σ H Q I ⟨ρ,O,q,E,hf,kk⟩=>by
 rw[mn];refine wpAny_bind (bZ (hx tm pins s σ H (λv H'=>∃f G,v=.ref f/\aY H H'/\Fn f G/\g ρ λts=>ts.length=n/\G ts q) I ⟨ρ,O,_,E,hf,λr hr v H' s z=>?_⟩) λu s1 ⟨v,H1,I1,r,f,G,ev,sa,QK,hg⟩=>?_);split at hr;obtain⟨G,QK,hg⟩:=hr;have:=z.2;simp only[At] at this;exact⟨_,G,this,s,QK,hg⟩;exact hr.elim;subst ev;obtain rfl:u=Value.ref f:=r;obtain⟨hk,fd,ps,hb,F⟩:=C f G QK;have E1:=E.same sa;refine XD (h₀:=X.base) I1.ok.mod.S9 hk (bZ (ha tm pos pins s1 σ H1 (λvs H2=>cW X.K n G (vs++[]) H2 Q E0) I1 ⟨ρ,O,_,E1,hg,λts fR vs H2 s2 a2=>BG (E1.same s2) a2 fR.1 fR.2 λr hr v H' s z=>kk r hr v H' ((sa.trans s2).trans s) z⟩) λus s2 ⟨vs,H2,I2,r2,q2⟩=>⟨I2.rR,?_⟩) he ic;exact zL F hr hb .nil ko I2 r2 q2
end
section
variable{a i:Expr}{fo fi:FE}{pos:Pos}
def Wq(k:Nat)(f:FP):FX:=λρ Q=>match ρ[k]? with
 |some (some (.lst ts,true))=>f ρ λr=>match r with
  |.fr (.lst us)=>ts.length+us.length<=sizeLine/\Q (ρ.set k (some (.lst (ts++us),true))) (.vw .aQ)
  |_=>False
 |_=>False
theorem Lm(k:Nat){f:FP}(he:VP X Z e f)(hN:X.N[k]?=some x:=by rfl)(hv:kF X.env.scope x:=by first|exact Or.inl rfl|exact Or.inr (Or.inl rfl)|exact Or.inr (Or.inr rfl))(hd:ie x:=by decide)(gn:uj x:=by decide)(c8:attributeBase (.Name x p) "extend" X.env (eval (.Name x p) X.env)=eval (.Name x p) X.env:=by rfl)(kH:((backTo aZ (starEach [e] X.env)).all (λx=>!x.1) && (backToKw aZ (keywordEach [] X.env)).all (λx=>x.1.isSome)
    && decide (([e]:qap).length+([]:List Keyword).length+(if ([]:List Keyword).isEmpty then 0 else 1)<30))=true:=by rfl)(c9:(apos.endLine==aZ.line)=true:=by rfl)(hs:starEach [e] X.env=(false,eval e X.env)::starEach [] X.env:=by rfl)(dX:(backTo aZ (starEach [] X.env)).any (·.1)=false:=by rfl) :
  VX X Z (.Call (.Attribute (.Name x p) "extend" apos) [e] [] aZ) (Wq k f):=.mk λtm=>
 PE.weak (pK SS PySem.F.slot_list_extend PySem.F.type_list_extend C3 (bV hN hv hd gn) (bD (he tm) cX hs) c8 kH c9 hs dX) λσ H Q ⟨ρ,O,q,I,hf,kk⟩=>by
  unfold Wq at hf;split at hf
  rename_i ts e0
  obtain⟨l,h1,h2,xs,h3,h4⟩:=I.root e0;have ha:l∈av Z O:=cw _ (aN.mpr (gH h1));refine⟨.ref l,h2,.inl ⟨rfl,xs,ia.of h3⟩,ρ,O,_,I,hf,λr hr v H1 s1 z=>?_⟩;split at hr;obtain⟨hz,hq⟩:=hr;have J:=z.env;obtain⟨b,rfl,I2,⟨zs,hb,aL⟩,_,_⟩:=z;have aL':=aL.a8 gk;refine⟨l,b,xs,zs,rfl,rfl,s1 _ _ h3,hb,by rw[h4.length,aL.length];exact hz,kk _ _ hq O _ _ ⟨J.wrote e0 h1 ⟨xs++zs,aI,?_⟩,uG⟩⟩;exact ((h4.same s1).append aL').wrote ha (s1 _ _ h3) rfl;exact hr.elim;exact hf.elim
end
end VT
namespace Gen
open PySem L2 VT
open og (bQ)
theorem small(h:n<=1000):n<=sizeLine:=Nat.le_of_lt (C7 h)
theorem cp(h:Nat.ble n 1000=true):n<=sizeLine:=small (Nat.le_of_ble_eq_true h)
noncomputable def sg(n:Int):Nat:=bQ.cps.toList.getD (n % 26).toNat 0
theorem xX:bQ.cps.toList.length=26:=by decide +kernel
theorem vd:bQ.length=26:=by decide +kernel
theorem kr:bQ.length<=sizeLine:=by rw[vd,sizeLine_eq];decide
theorem tR(n:Int):jc bQ.cps.toList (n % 26)=some (sg n):=by
 have h0:0<=n % 26:=oK n (by decide);have h1:n % 26<26:=oJ n (by decide);unfold sg;obtain⟨j,hj⟩:=CB h0;rw[hj];have j5:j<bQ.cps.toList.length:=by rw[xX];omega
 refine aj ?_;rw[wy,List.getD,kD j5];rfl
inductive i9 where
 |nm (x:Str)
 |nu (i:Int)
inductive Ky where
 |fld (x:Str)
 |op (o:i9)
inductive Rw where
 |df (f:Str) (ps:qai)
 |give (a:i9)
 |put (x:Str) (a:i9)
 |lK (x:Str) (a:i9) (op:Str) (b:i9)
 |new (x:Str)
 |get (x r:Str) (k:Ky)
 |set (r:Str) (k:Ky) (a:i9)
 |call (x f:Str) (as:List i9)
 |fail (w:Str)
 |kY (a:i9)
 |mX
 |gm (a:i9)
 |fin
 |skip
noncomputable def gz:i9->T
 |.nm x=>.str x
 |.nu i=>.int i
noncomputable def tS:Ky->T
 |.fld x=>.str (((".":String):Str)++x)
 |.op o=>gz o
noncomputable def aW:Rw->T
 |.df f ps=>.tup [.str "def",.str f,.tup (ps.map .str)]
 |.give a=>.tup [.str "give",gz a]
 |.put x a=>.tup [.str "put",.str x,gz a]
 |.lK x a op b=>.tup [.str "do",.str x,gz a,.str op,gz b]
 |.new x=>.tup [.str "new",.str x]
 |.get x r k=>.tup [.str "get",.str x,.str r,tS k]
 |.set r k a=>.tup [.str "set",.str r,tS k,gz a]
 |.call x f as=>.tup [.str "call",.str x,.str f,.tup (as.map gz)]
 |.fail w=>.tup [.str "fail",.str w]
 |.kY a=>.tup [.str "if",gz a]
 |.mX=>.tup [.str "else"]
 |.gm a=>.tup [.str "while",gz a]
 |.fin=>.tup [.str "end"]
 |.skip=>.tup [.str "skip"]
def dQ(ys:qai):i9->Prop
 |.nm x=>x∈ys
 |.nu i=>-1000000000000000000000000000000<=i/\i<1000000000000000000000000000000
def DP(ys:qai):Ky->Prop
 |.fld x=>x∈ys
 |.op o=>dQ ys o
abbrev Plan:=List (Str×qai)
noncomputable def reckon:qai:=["plus","minus","times","over","rest","less","same"]
def ip(ys:qai)(later:Plan):Rw->Prop
 |.put x a=>x∈ys/\dQ ys a
 |.lK x a op b=>x∈ys/\dQ ys a/\op∈reckon/\dQ ys b
 |.new x=>x∈ys
 |.get x r k=>x∈ys/\r∈ys/\DP ys k
 |.set r k a=>r∈ys/\DP ys k/\dQ ys a
 |.call x f as=>x∈ys/\(∃ps,(f,ps)∈later/\as.length=ps.length)/\∀a∈as,dQ ys a
 |.fail w=>w∈ys
 |.skip=>True
 |_=>False
theorem Wr:(10:Int) ^ (30:Int).toNat=1000000000000000000000000000000:=by decide +kernel
theorem acI:(((".":String):Str)).length=1:=by decide +kernel
theorem Ws(i:Int):∃op∈reckon,jc [T.str "plus",T.str "minus",T.str "times",T.str "over",T.str "rest",T.str "less",T.str "same"] (i % 7)=some (T.str op):=by
 have h0:0<=i % 7:=oK i (by decide);have h1:i % 7<7:=oJ i (by decide);obtain⟨j,hj⟩:=CB h0;rw[hj] at h1 ⊢;have:j=0\/j=1\/j=2\/j=3\/j=4\/j=5\/j=6:=by omega
 obtain rfl|rfl|rfl|rfl|rfl|rfl|rfl:=this
 exact⟨"plus",by simp[reckon],aj rfl⟩;exact⟨"minus",by simp[reckon],aj rfl⟩;exact⟨"times",by simp[reckon],aj rfl⟩;exact⟨"over",by simp[reckon],aj rfl⟩;exact⟨"rest",by simp[reckon],aj rfl⟩;exact⟨"less",by simp[reckon],aj rfl⟩;exact⟨"same",by simp[reckon],aj rfl⟩
def kZ(ys:qai)(pl:Plan)(bP:qai)(new:List Rw)(dm:qai):Prop :=
 (∃o,dQ ys o/\new=[.kY o]/\dm=bP++([("if":Str)]:qai))\/(∃o,dQ ys o/\new=[.gm o]/\dm=bP++([("while":Str)]:qai)) \/
 (∃y,y∈ys/\new=[.gm (.nm y),.lK y (.nm y) "minus" (.nu 1)]/\dm=bP++([("while":Str)]:qai))\/(∃s0,bP=s0++([("if":Str)]:qai)/\new=[.mX]/\dm=s0++([("else":Str)]:qai)) \/
 (∃s0 x,bP=s0++[x]/\new=[.fin]/\dm=s0)\/(∃r,ip ys pl r/\new=[r]/\dm=bP)
def vf(ys:qai)(pl:Plan):Prop:=∀(k:Nat) f ps,pl[k]?=some (f,ps)->ys[k]?=some f/\∃(a:Int)(r:Nat),r<=2/\ps=(List.range r).map λj=>ys.getD ((a+((j:Nat):Int)) % 4).toNat Str.empty
inductive Body(ys:qai)(later:Plan):qai->List Rw->Prop
 |nil:Body ys later [] []
 |step {bP dm:qai} {body new:List Rw}:Body ys later bP body->kZ ys later bP new dm->Body ys later dm (body++new)
inductive Pre(ys:qai)(pl:Plan):Nat->List Rw->Prop
 |zero:Pre ys pl 0 []
 |succ {k:Nat} {rs:List Rw} {f:Str} {ps:qai} {bP:qai} {body:List Rw} {o:i9} {sk:List Rw}:Pre ys pl k rs->pl[k]?=some (f,ps)->Body ys (pl.drop (k+1)) bP body->dQ ys o->(sk=[]\/sk=[.skip]) ->
  Pre ys pl (k+1) (rs++(.df f ps::(body++(List.replicate bP.length .fin++(.give o::sk)))))
theorem c0{α:Type}{f:α->T}(h:∀x,plainT (f x)=true):∀l:List α,bG (l.map f)=true
 |[]=>by simp[bG]
 |x::l=>by simp only[gR,bG,h x,c0 h l,Jl]
theorem eI{α:Type}{f:α->T}{n:Nat}(h:∀x,dep (f x)<=n):∀l:List α,fS (l.map f)<=n
 |[]=>by simp[fS]
 |x::l=>by have:=h x;have:=eI h l;simp only[gR,fS];omega
theorem nF(o:i9):plainT (gz o)=true:=by cases o<;>simp[gz,plainT]
theorem DQ(o:Ky):plainT (tS o)=true:=by cases o with|fld x=>simp[tS,plainT]|op o=>exact nF o
theorem Ag(r:Rw):plainT (aW r)=true:=by cases r<;>simp[aW,plainT,bG,nF,DQ,c0 (f:=T.str) (λ_=>by simp[plainT]),c0 (f:=gz) nF]
theorem vg(o:i9):dep (gz o)=0:=by cases o<;>simp[gz,dep]
theorem Ln(o:Ky):dep (tS o)=0:=by cases o with|fld x=>simp[tS,dep]|op o=>exact vg o
theorem Hc(r:Rw):dep (aW r)<=2:=by have h1:=λl:qai=>eI (f:=T.str) (n:=0) (λ_=>by simp[dep]) l;have h2:=λl:List i9=>eI (f:=gz) (n:=0) (λo=>by simp[vg]) l;cases r<;>simp[aW,dep,fS,vg,Ln]<;>first|(rename_i x;have:=h1 x;omega)|(rename_i x;have:=h2 x;omega)|skip
theorem vh(o:i9):bR (gz o)=true:=by cases o<;>simp[gz,bR]
theorem Lo(o:Ky):bR (tS o)=true:=by cases o with|fld x=>simp[tS,bR]|op o=>exact vh o
theorem eJ{α:Type}{f:α->T}(h:∀x,bR (f x)=true):∀l:List α,dG (l.map f)=true
 |[]=>by simp[dG]
 |x::l=>by simp only[gR,dG,h x,eJ h l,Jl]
theorem mq(r:Rw):bR (aW r)=true:=by cases r<;>simp[aW,bR,dG,vh,Lo,eJ (f:=T.str) (λ_=>by simp[bR]),eJ (f:=gz) vh]
end Gen
variable{r:Gen.Rw}{pl:Gen.Plan}
abbrev qal:=List Gen.Rw
set_option exponentiation.threshold 4000
namespace jC
open PySem L2 VT
noncomputable def dH(i:Int):Int:=(i+1000000000000000000000000000000) % (2 * 1000000000000000000000000000000)-1000000000000000000000000000000
def RI(i:Int):Prop:=-1000000000000000000000000000000<=i/\i<1000000000000000000000000000000
theorem RI.big{i:Int}(h:RI i):sf i:=by
 unfold RI at h;unfold sf;have:i.natAbs<=1000000000000000000000000000000:=by omega
 exact XE this (by decide +kernel)
inductive Vl where
 |num (i:Int)
 |DR (p r:Int)
 deriving DecidableEq
noncomputable def vT:Vl->T
 |.num i=>.int i
 |.DR p r=>.tup [.int p,.int r]
def nm:Vl->Int
 |.num i=>i
 |.DR _ _=>0
inductive DS where
 |plus|minus|times|over|rest|less
noncomputable def jD:DS->Str
 |.plus=>"plus"
 |.minus=>"minus"
 |.times=>"times"
 |.over=>"over"
 |.rest=>"rest"
 |.less=>"less"
def Ah:DS->Bool
 |.over=>true
 |.rest=>true
 |_=>false
noncomputable def Lp:DS->Int->Int->Int
 |.plus,x,y=>x+y
 |.minus,x,y=>x-y
 |.times,x,y=>x * y
 |.over,x,y=>x.fdiv y
 |.rest,x,y=>x.fmod y
 |.less,x,y=>if x<y then 1 else 0
noncomputable def X'(o:DS)(x y:Int):T:=if Ah o=true/\y=0 then .aQ else .int (dH (Lp o x y))
noncomputable def xY(a b:Vl):T:=.int (if a=b then 1 else 0)
theorem bgS{i:Int}(h : -100000000000000<=i/\i<=100000000000000):sf i:=by
 unfold sf;have:i.natAbs<=100000000000000:=by omega
 exact XE this (by decide +kernel)
theorem bg(i:Int)(h : -100000000000000<=i/\i<=100000000000000:=by decide):sf i:=bgS h
end jC
variable{rs:qal}
namespace Gen
open PySem L2 VT
open og (bQ C_ dD)
theorem B6(n:Int):C_ (sg n)=true:=by
 have h0:0<=n % 26:=oK n (by decide);have h1:n % 26<26:=oJ n (by decide);have h:∀j<26,C_ (bQ.cps.toList.getD j 0)=true:=by decide +kernel
 exact h _ (by omega)
theorem He{a b:Int}(h:sg a=sg b):a % 26=b % 26:=by
 have a0:0<=a % 26:=oK a (by decide);have a1:a % 26<26:=oJ a (by decide);have b0:0<=b % 26:=oK b (by decide);have b1:b % 26<26:=oJ b (by decide);have k:∀i<26,∀j<26,bQ.cps.toList.getD i 0=bQ.cps.toList.getD j 0->i=j:=by decide +kernel
 have:=k (a % 26).toNat (by omega) (b % 26).toNat (by omega) h;omega
def DT(ys:qai):Rw->Prop
 |.df f ps=>f∈ys/\ps.length<=2/\ps.Nodup/\∀p∈ps,p∈ys
 |.give a=>dQ ys a
 |.put x a=>x∈ys/\dQ ys a
 |.lK x a op b=>x∈ys/\dQ ys a/\op∈reckon/\dQ ys b
 |.new x=>x∈ys
 |.get x r k=>x∈ys/\r∈ys/\DP ys k
 |.set r k a=>r∈ys/\DP ys k/\dQ ys a
 |.call x f as=>x∈ys/\f∈ys/\as.length<=2/\∀a∈as,dQ ys a
 |.fail w=>w∈ys
 |.kY a=>dQ ys a
 |.gm a=>dQ ys a
 |_=>True
theorem QV{l:qai}(nd:l.Nodup)(hi:i<l.length)(hj:j<l.length)(e:l[i]=l[j]):i=j:=by
 rw[List.Nodup,List.pairwise_iff_getElem] at nd;rcases Nat.lt_trichotomy i j with h|h|h
 exact absurd e (nd i j hi hj h);exact h;exact absurd e.symm (nd j i hj hi h)
theorem DU(hp:∀f ps,(f,ps)∈pl->f∈ys/\ps.length<=2)(h:ip ys pl r):DT ys r:=by
 cases r<;>first
  |exact h
  |exact h.elim
  | (obtain⟨h1,⟨ps,h2,h3⟩,h4⟩:=h
     exact⟨h1,(hp _ _ h2).1,by rw[h3];exact (hp _ _ h2).2,h4⟩)
theorem QW(hp:∀f ps,(f,ps)∈pl->f∈ys/\ps.length<=2){bP new dm}(h:kZ ys pl bP new dm):∀r∈new,DT ys r:=by
 obtain⟨o,ho,rfl,_⟩|⟨o,ho,rfl,_⟩|⟨y,hy,rfl,_⟩|⟨s0,_,rfl,_⟩|⟨s0,x,_,rfl,_⟩|⟨r,hr,rfl,_⟩:=h<;>intro r' cU
 simp only[cT,gb,or_false] at cU;subst cU;exact ho;simp only[cT,gb,or_false] at cU;subst cU;exact ho;simp only[cT,gb,or_false] at cU;obtain rfl|rfl:=cU
 exact hy;exact⟨hy,hy,by simp[reckon],by decide,by decide⟩;simp only[cT,gb,or_false] at cU;subst cU;trivial;simp only[cT,gb,or_false] at cU;subst cU;trivial;simp only[cT,gb,or_false] at cU;subst cU;exact DU hp hr
theorem Lq(hp:∀f ps,(f,ps)∈pl->f∈ys/\ps.length<=2){bP body}(h:Body ys pl bP body):∀r∈body,DT ys r:=by
 induction h with
 |nil=>intro r hr;cases hr
 |step _ h2 ih=>
  intro r hr;rcases cN.mp hr with hr|hr
  exact ih r hr;exact QW hp h2 r hr
noncomputable def wd:Rw->Str
 |.df _ _=>"def"
 |.give _=>"give"
 |.put _ _=>"put"
 |.lK _ _ _ _=>"do"
 |.new _=>"new"
 |.get _ _ _=>"get"
 |.set _ _ _=>"set"
 |.call _ _ _=>"call"
 |.fail _=>"fail"
 |.kY _=>"if"
 |.mX=>"else"
 |.gm _=>"while"
 |.fin=>"end"
 |.skip=>"skip"
noncomputable def fW(st:qai)(x:Str):Bool:=match st.getLast? with
 |none=>wz (.str x) [.str "def",.str "skip"]
 |some l=>if x="give" then decide (l="def") else if x="else" then decide (l="if") else if x="end" then !decide (l="def") else !decide (x="def")
noncomputable def k5(st:qai)(x:Str):qai :=
 if x="def"\/x="if"\/x="while" then st++[x] else if x="give"\/x="end" then st.dropLast else if x="else" then st.dropLast++[("else":Str)] else st
theorem B7(x:Str):∀l:qai,wz (.str x) (l.map .str)=decide (x∈l)
 |[]=>by simp[wz]
 |y::l=>by rw[gR];show (eqT (.str y) (.str x) || wz (.str x) (l.map .str))=_;rw[B7 x l];show (decide (y=x) || decide (x∈l))=_;rw[T3];simp only[Bool.or_eq_true,decide_eq_true_eq,cT];constructor;rintro (h|h);exact .inl h.symm;exact .inr h;rintro (h|h);exact .inl h.symm;exact .inr h
theorem kc(r:Rw):∃l,aW r=.tup (.str (wd r)::l):=by cases r<;>exact⟨_,rfl⟩
theorem tT{f:α->T}{xs:List α}{h:FG}{g:FS}{d:FZ}(Pv:Nat->En->Prop)(h0:Pv 0 ρ)(hs:∀(i:Nat) x ρ',xs[i]?=some x->Pv i ρ'->h (.tup [.int (i:Int),f x]) ρ' λρ2=>g {nx:=Pv (i+1),ct:=Pv (i+1),bk:=d.nx,rt:=d.rt} ρ2)(hd:∀ρ',Pv xs.length ρ'->d.nx ρ'):oj (dP (xs.map f)) h g d ρ:=⟨Pv,h0,λi t ρ' e p=>by
 unfold dP at e;rw[TX,gJ] at e;cases q:xs[i]? with
 |none=>rw[q] at e;cases e
 |some x=>rw[q] at e;cases e;exact hs i x ρ' q p,λρ' p=>hd ρ' (by unfold dP at p;rw[List.length_mapIdx,cV] at p;exact p)⟩
noncomputable def Lr(o:Option (qai))(r:Rw):Option (qai):=o.bind λst=>if fW st (wd r)=true then some (k5 st (wd r)) else none
noncomputable def ke(o:Option (qai))(rs:qal):Option (qai):=rs.foldl Lr o
theorem iO(o:Option (qai))(a b:qal):ke o (a++b)=ke (ke o a) b:=List.foldl_append
theorem xZ(rs:qal):ke none rs=none:=by
 induction rs with
 |nil=>rfl
 |cons r rs ih=>exact ih
theorem DV{st:qai}(h:fW st (wd r)=true):Lr (some st) r=some (k5 st (wd r)):=by show (if fW st (wd r)=true then _ else _)=_;rw[if_pos h]
theorem dB{st:qai}(h:fW st (wd r)=true):ke (some st) [r]=some (k5 st (wd r)):=DV h
theorem x4{st:qai}(h:ke (some []) rs=some st)(i:Nat)(hr:rs[i]?=some r) :
  ∃s,ke (some []) (rs.take i)=some s/\fW s (wd r)=true/\ke (some []) (rs.take (i+1))=some (k5 s (wd r)):=by
 have hi:=(dS.mp hr).1;have e:rs=rs.take i++(r::rs.drop (i+1)):=by have hg:=(dS.mp hr).2;rw[<- hg,List.getElem_cons_drop,Xz]
 have e2:rs.take (i+1)=rs.take i++[r]:=by have hg:=(dS.mp hr).2;rw[<- hg,List.take_append_getElem]
 rw[e,iO] at h;cases hs:ke (some []) (rs.take i) with
 |none=>rw[hs,xZ] at h;cases h
 |some s=>
   rw[hs] at h;have h':ke (Lr (some s) r) (rs.drop (i+1))=some st:=h;cases hm:fW s (wd r) with
   |false=>
     have:Lr (some s) r=none:=by show (if fW s (wd r)=true then _ else _)=_;rw[hm];rfl
     rw[this,xZ] at h';cases h'
   |true=>exact⟨s,rfl,hm,by rw[e2,iO,hs];exact dB hm⟩
abbrev pf:Str:="def"
def Hd(x:Str):Prop:=x="if"\/x="while"\/x="else"
theorem Hd.ne(h:Hd x):x≠"def":=by obtain rfl|rfl|rfl:=h<;>decide +kernel
theorem tU(h:ip ys pl r):∀st,st≠[]->fW st (wd r)=true/\k5 st (wd r)=st:=by
 intro st JO;obtain⟨l,hl⟩:∃l,st.getLast?=some l:=by
  cases e:st.getLast? with
  |none=>rw[List.getLast?_eq_none_iff] at e;exact absurd e JO
  |some l=>exact⟨l,rfl⟩
 have k:∀x:Str,(x="put"\/x="do"\/x="new"\/x="get"\/x="set"\/x="call"\/x="fail"\/x="skip")->fW st x=true/\k5 st x=st:=by intro x hx;unfold fW k5;rw[hl];obtain rfl|rfl|rfl|rfl|rfl|rfl|rfl|rfl:=hx<;>exact⟨(by show (if _ then _ else _)=true;rw[if_neg (by decide +kernel),if_neg (by decide +kernel),if_neg (by decide +kernel)];decide +kernel),(by rw[if_neg (by decide +kernel),if_neg (by decide +kernel),if_neg (by decide +kernel)])⟩
 cases r<;>first
  |exact h.elim
  |exact k _ (by simp[wd])
theorem Hg(st:qai):k5 st "if"=st++[("if":Str)]:=by unfold k5;rw[if_pos (.inr (.inl rfl))]
theorem nG(st:qai):k5 st "while"=st++[("while":Str)]:=by unfold k5;rw[if_pos (.inr (.inr rfl))]
theorem B8(st:qai):k5 st "def"=st++[pf]:=by unfold k5;rw[if_pos (.inl rfl)]
theorem vi(st:qai):k5 st "end"=st.dropLast:=by unfold k5;rw[if_neg (by decide +kernel),if_pos (by decide +kernel)]
theorem x5(st:qai):k5 st "give"=st.dropLast:=by unfold k5;rw[if_neg (by decide +kernel),if_pos (by decide +kernel)]
theorem x6(st:qai):k5 st "else"=st.dropLast++[("else":Str)]:=by unfold k5;rw[if_neg (by decide +kernel),if_neg (by decide +kernel),if_pos rfl]
theorem vj(st:qai)(l x:Str)(hx:x="if"\/x="while"):fW (st++[l]) x=true:=by unfold fW;rw[JA];obtain rfl|rfl:=hx<;>(show (if _ then _ else _)=true;rw[if_neg (by decide +kernel),if_neg (by decide +kernel),if_neg (by decide +kernel)];decide +kernel)
theorem DW(st:qai):fW (st++[("if":Str)]) "else"=true:=by unfold fW;rw[JA];show (if _ then _ else _)=true;rw[if_neg (by decide +kernel),if_pos rfl];decide +kernel
theorem x8(st:qai){l:Str}(h:l≠"def"):fW (st++[l]) "end"=true:=by unfold fW;rw[JA];show (if _ then _ else _)=true;rw[if_neg (by decide +kernel),if_neg (by decide +kernel),if_pos rfl,decide_eq_false h];rfl
theorem DX(st:qai):fW (st++[pf]) "give"=true:=by unfold fW;rw[JA];show (if _ then _ else _)=true;rw[if_pos rfl];decide +kernel
theorem ph{st:qai}(h:st≠[]):∃s l,st=s++[l]:=⟨st.dropLast,st.getLast h,(List.dropLast_concat_getLast h).symm⟩
theorem Ls{bP new dm}(h:kZ ys pl bP new dm)(hs:∀x∈bP,Hd x) :
  ke (some (pf::bP)) new=some (pf::dm)/\∀x∈dm,Hd x:=by
 have hd:∀st:qai,∃s l,pf::st=s++[l]:=λst=>ph (by simp);obtain⟨o,_,rfl,rfl⟩|⟨o,_,rfl,rfl⟩|⟨y,_,rfl,rfl⟩|⟨s0,rfl,rfl,rfl⟩|⟨s0,x,es,rfl,e'⟩|⟨r,hr,rfl,e'⟩:=h
 obtain⟨s,l,e⟩:=hd bP;refine⟨?_,?_⟩;rw[dB (st:=pf::bP) (r:=.kY o) (by rw[e];exact vj s l _ (.inl rfl))];show some (k5 _ "if")=_;rw[Hg];rfl;intro x hx;rcases cN.mp hx with hx|hx
 exact hs x hx;simp only[cT,gb,or_false] at hx;exact .inl hx;obtain⟨s,l,e⟩:=hd bP;refine⟨?_,?_⟩;rw[dB (st:=pf::bP) (r:=.gm o) (by rw[e];exact vj s l _ (.inr rfl))];show some (k5 _ "while")=_;rw[nG];rfl;intro x hx;rcases cN.mp hx with hx|hx
 exact hs x hx;simp only[cT,gb,or_false] at hx;exact .inr (.inl hx);obtain⟨s,l,e⟩:=hd bP;refine⟨?_,?_⟩;have h1:ke (some (pf::bP)) [Rw.gm (.nm y)]=some ((pf::bP)++[("while":Str)]):=by rw[dB (st:=pf::bP) (r:=.gm (.nm y)) (by rw[e];exact vj s l _ (.inr rfl))];show some (k5 _ "while")=_;rw[nG]
 have h2:=tU (ys:=[y]) (pl:=[]) (r:=.lK y (.nm y) "minus" (.nu 1)) ⟨by simp,by simp[dQ],by simp[reckon],by decide,by decide⟩ ((pf::bP)++[("while":Str)]) (by simp);show ke (ke (some (pf::bP)) [Rw.gm (.nm y)]) [Rw.lK y (.nm y) "minus" (.nu 1)]=_;rw[h1,dB h2.1,h2.2];rfl;intro x hx;rcases cN.mp hx with hx|hx
 exact hs x hx;simp only[cT,gb,or_false] at hx;exact .inr (.inl hx);refine⟨?_,?_⟩;have e:pf::(s0++[("if":Str)])=(pf::s0)++[("if":Str)]:=rfl;rw[e,dB (DW _)];show some (k5 _ "else")=_;rw[x6,OB];rfl;intro x hx;rcases cN.mp hx with hx|hx
 exact hs x (cw _ hx);simp only[cT,gb,or_false] at hx;exact .inr (.inr hx);subst es;subst e';refine⟨?_,λy hy=>hs y (cw _ hy)⟩;have e:pf::(dm++[x])=(pf::dm)++[x]:=rfl;rw[e,dB (x8 _ (hs x (by simp)).ne)];show some (k5 _ "end")=_;rw[vi,OB];subst e';have:=tU hr (pf::dm) (by simp);refine⟨?_,hs⟩;rw[dB this.1,this.2]
theorem Hh{bP body}(h:Body ys pl bP body):ke (some [pf]) body=some (pf::bP)/\∀x∈bP,Hd x:=by
 induction h with
 |nil=>exact⟨rfl,λx hx=>nomatch hx⟩
 |step _ h2 ih=>have:=Ls h2 ih.2;exact⟨by rw[iO,ih.1];exact this.1,this.2⟩
theorem x9:∀(n:Nat)(bP:qai),bP.length=n->(∀x∈bP,Hd x)->ke (some (pf::bP)) (List.replicate n .fin)=some [pf]
 |0,bP,hl,_=>by rw[M_] at hl;subst hl;rfl
 |n+1,bP,hl,hs=>by obtain⟨s,l,rfl⟩:=ph (st:=bP) (by intro z;subst z;cases hl);rw[rQ];show ke (ke (some ((pf::s)++[l])) [Rw.fin]) (List.replicate n .fin)=_;rw[dB (x8 _ (hs l (by simp)).ne)];show ke (some (k5 _ "end")) _=_;rw[vi,OB];exact x9 n s (by simpa using hl) λx hx=>hs x (cw _ hx)
theorem Lu(h:Pre ys pl n rs):ke (some []) rs=some []:=by
 induction h with
 |zero=>rfl
 |@succ k rs f ps bP body o sk _ hk hb ho hs ih=>
  rw[iO,ih];show ke (ke (some []) [Rw.df f ps]) _=_;rw[dB (by show fW [] "def"=true;decide +kernel)];show ke (some (k5 [] "def")) _=_;rw[B8,iO];have hB:=Hh hb;show ke (ke (some [pf]) body) _=_;rw[hB.1,iO,x9 _ bP rfl hB.2];show ke (ke (some ([]++[pf])) [Rw.give o]) sk=_;rw[dB (DX [])];show ke (some (k5 _ "give")) sk=_;rw[x5,OB];obtain rfl|rfl:=hs
  rfl;rw[dB (by show fW [] "skip"=true;decide +kernel)];show some (k5 [] "skip")=_;rfl
theorem DY(n:Nat):ke (some []) (List.replicate n .skip)=some []:=by
 induction n with
 |zero=>rfl
 |succ n ih=>rw[rQ];show ke (ke (some []) [Rw.skip]) (List.replicate n .skip)=_;rw[dB (by show fW [] "skip"=true;decide +kernel)];exact ih
noncomputable def wA:List (Str×Nat)->Str->Option Nat
 |[],_=>none
 | (k,i)::l,f=>if k=f then some i else wA l f
theorem vk(l m:List (Str×Nat))(f:Str):wA (l++m) f=match wA l f with
  |some i=>some i
  |none=>wA m f:=by
 induction l with
 |nil=>rfl
 |cons p l ih=>obtain⟨k,i⟩:=p;simp only[Nf,wA];by_cases h:k=f;rw[if_pos h,if_pos h];rw[if_neg h,if_neg h];exact ih
noncomputable def Jv(l:List (Str×Nat))(i:Nat):Rw->List (Str×Nat)
 |.df f _=>match wA l f with
  |some _=>l
  |none=>l++[(f,i)]
 |_=>l
noncomputable def bc(rs:qal):Nat->List (Str×Nat)
 |0=>[]
 |n+1=>match rs[n]? with
  |some r=>Jv (bc rs n) n r
  |none=>bc rs n
theorem x_{rs:qal}{f:Str}{j:Nat}:∀n,wA (bc rs n) f=some j->j<n/\∃ps,rs[j]?=some (.df f ps)
 |0,h=>nomatch h
 |n+1,h=>by
  have old:wA (bc rs n) f=some j->j<n+1/\∃ps,rs[j]?=some (.df f ps):=λh=>by have:=x_ n h;exact⟨by omega,this.2⟩
  simp only[bc] at h;split at h
  rename_i r hr
  cases r with
  |df g ps=>
   simp only[Jv] at h;split at h;exact old h
   rename_i hn
   rw[vk] at h;split at h
   rename_i i hi
   cases h;exact old hi;simp only[wA] at h;split at h
   rename_i e
   cases h;subst e;exact⟨by omega,ps,hr⟩;cases h
  |_=>exact old h
  exact old h
theorem tV{rs:qal}{f:Str}{i:Nat}{ps:qai}(hi:rs[i]?=some (.df f ps)):∀n,i<n->∃j,wA (bc rs n) f=some j
 |0,h=>absurd h (by omega)
 |n+1,h=>by
  simp only[bc];by_cases e:i=n;subst e;rw[hi];simp only[Jv];cases ha:wA (bc rs i) f with
  |some j=>exact⟨j,ha⟩
  |none=>refine⟨i,?_⟩;simp only;rw[vk,ha];simp only[wA,if_true]
  obtain⟨j,hj⟩:=tV hi n (by omega);split
  rename_i r hr
  cases r with
  |df g qs=>simp only[Jv];split;exact⟨j,hj⟩;rw[vk,hj];exact⟨j,rfl⟩
  |_=>exact⟨j,hj⟩
  exact⟨j,hj⟩
structure k6(rs:qal):Prop where
 un:∀(i i':Nat)(f:Str)(ps Tn:qai),rs[i]?=some (Rw.df f ps)->rs[i']?=some (Rw.df f Tn)->i=i'
 ca:∀(i:Nat)(x f:Str)(as:List i9),rs[i]?=some (Rw.call x f as)->∃(j:Nat)(ps:qai),i<j/\rs[j]?=some (Rw.df f ps)/\ps.length=as.length
theorem k6.first(h:k6 rs){f:Str}(hi:rs[i]?=some (.df f ps)):wA (bc rs rs.length) f=some i:=by obtain⟨j,hj⟩:=tV hi rs.length (dS.mp hi).1;obtain⟨_,qs,hq⟩:=x_ _ hj;rw[hj,h.un j i f qs ps hq hi]
def Ai(pl:Plan):Rw->Prop
 |.df _ _=>False
 |.call _ f as=>∃ps,(f,ps)∈pl/\as.length=ps.length
 |_=>True
theorem DZ(h:ip ys pl r):Ai pl r:=by
 cases r<;>first
  |exact trivial
  |exact h.elim
  |exact h.2.1
theorem Lw{bP body}(h:Body ys pl bP body):∀r∈body,Ai pl r:=by
 induction h with
 |nil=>intro r hr;cases hr
 |step _ h2 ih=>
  intro r hr;rcases cN.mp hr with hr|hr
  exact ih r hr;obtain⟨o,ho,rfl,_⟩|⟨o,ho,rfl,_⟩|⟨y,hy,rfl,_⟩|⟨s0,_,rfl,_⟩|⟨s0,x,_,rfl,_⟩|⟨r',cU,rfl,_⟩:=h2
  simp only[cT,gb,or_false] at hr;subst hr;trivial;simp only[cT,gb,or_false] at hr;subst hr;trivial;simp only[cT,gb,or_false] at hr;obtain rfl|rfl:=hr<;>trivial
  simp only[cT,gb,or_false] at hr;subst hr;trivial;simp only[cT,gb,or_false] at hr;subst hr;trivial;simp only[cT,gb,or_false] at hr;subst hr;exact DZ cU
structure acJ(pl:Plan)(k:Nat)(rs:qal):Prop where
 a:∀(i:Nat)(f:Str)(ps:qai),rs[i]?=some (Rw.df f ps)->∃m,m<k/\pl[m]?=some (f,ps)
 c:∀(i:Nat)(x f:Str)(as:List i9),rs[i]?=some (Rw.call x f as)->∃(m:Nat)(ps:qai),pl[m]?=some (f,ps)/\as.length=ps.length/\(m<k->∃j,i<j/\rs[j]?=some (Rw.df f ps))
 u:∀(i i':Nat)(f:Str)(ps Tn:qai),rs[i]?=some (Rw.df f ps)->rs[i']?=some (Rw.df f Tn)->i=i'
theorem Wt(nd:ys.Nodup)(hP:vf ys pl)(h:Pre ys pl n rs):acJ pl n rs:=by
 induction h with
 |zero=>exact⟨λi f ps h=>by simp at h,λi x f as h=>by simp at h,λi i' f ps Tn h=>by simp at h⟩
 |@succ k rs f ps bP body o sk _ hk hb ho hs ih=>
  have Ad:=Lw hb;generalize G4:body++(List.replicate bP.length Rw.fin++(Rw.give o::sk))=rest;have hR:∀r∈rest,Ai (pl.drop (k+1)) r:=by
   intro r hr;rw[<- G4] at hr;rcases cN.mp hr with hr|hr
   exact Ad r hr;rcases cN.mp hr with hr|hr
   rw[(List.mem_replicate.mp hr).2];trivial;rcases cT.mp hr with rfl|hr
   trivial;obtain rfl|rfl:=hs
   cases hr;simp only[cT,gb,or_false] at hr;subst hr;trivial
  have split:∀i r,(rs++Rw.df f ps::rest)[i]?=some r->rs[i]?=some r\/(i=rs.length/\r=.df f ps)\/(rs.length<i/\r∈rest):=by
   intro i r hi;rcases Nat.lt_trichotomy i rs.length with h|h|h
   rw[mY h] at hi;exact .inl hi;subst h;rw[oI (c3 _),OJ] at hi;exact .inr (.inl ⟨rfl,(Option.some.inj hi).symm⟩);rw[oI (by omega)] at hi;obtain⟨d,hd⟩:∃d,i-rs.length=d+1:=⟨i-rs.length-1,by omega⟩;rw[hd,List.getElem?_cons_succ] at hi;exact .inr (.inr ⟨h,gH hi⟩)
  have here:(rs++Rw.df f ps::rest)[rs.length]?=some (.df f ps):=by rw[oI (c3 _),OJ];rfl
  have left:∀j r,rs[j]?=some r->(rs++Rw.df f ps::rest)[j]?=some r:=λj r h=>by rw[mY (dS.mp h).1];exact h
  have N5:∀(i:Nat)(g:Str)(qs:qai),rs[i]?=some (Rw.df g qs)->g≠f:=by intro i g qs hi e;obtain⟨m,hm,hp⟩:=ih.a i g qs hi;have h1:=(hP m g qs hp).1;have h2:=(hP k f ps hk).1;rw[e] at h1;obtain⟨l1,e1⟩:=dS.mp h1;obtain⟨l2,e2⟩:=dS.mp h2;have:=QV nd l1 l2 (e1.trans e2.symm);omega
  refine⟨λi g qs hi=>?_,λi x g as hi=>?_,λi i' g qs qs' hi FH=>?_⟩;rcases split i _ hi with h|⟨_,e⟩|⟨_,h⟩
  obtain⟨m,hm,hp⟩:=ih.a i g qs h;exact⟨m,by omega,hp⟩;cases e;exact⟨k,by omega,hk⟩;exact (hR _ h).elim;rcases split i _ hi with h|⟨_,e⟩|⟨_,h⟩
  obtain⟨m,qs,hp,hl,hj⟩:=ih.c i x g as h;refine⟨m,qs,hp,hl,λhm=>?_⟩;by_cases e:m=k;subst e;rw[hk] at hp;cases hp;exact⟨rs.length,(dS.mp h).1,here⟩;obtain⟨j,h1,h2⟩:=hj (by omega);exact⟨j,h1,left j _ h2⟩;cases e;obtain⟨qs,hq,hl⟩:=hR _ h;obtain⟨m,hm⟩:=List.getElem?_of_mem hq;rw[List.getElem?_drop] at hm;exact⟨k+1+m,qs,hm,hl,λz=>absurd z (by omega)⟩;rcases split i _ hi with h|⟨h,e⟩|⟨_,h⟩
  rcases split i' _ FH with h'|⟨h',e'⟩|⟨_,h'⟩
  exact ih.u i i' g qs qs' h h';cases e';exact absurd rfl (N5 i _ _ h);exact (hR _ h').elim;rcases split i' _ FH with h'|⟨h',e'⟩|⟨_,h'⟩
  cases e;exact absurd rfl (N5 i' _ _ h');omega;exact (hR _ h').elim;exact (hR _ h).elim
theorem Hi(nd:ys.Nodup)(hP:vf ys pl)(h:Pre ys pl pl.length rs):k6 rs:=by have P:=Wt nd hP h;refine⟨P.u,λi x f as hi=>?_⟩;obtain⟨m,ps,hp,hl,hj⟩:=P.c i x f as hi;obtain⟨j,h1,h2⟩:=hj (dS.mp hp).1;exact⟨j,ps,h1,h2,hl.symm⟩
theorem Aj(n:Nat)(h:k6 rs):k6 (List.replicate n .skip++rs):=by
 have sh:∀i r,(List.replicate n Rw.skip++rs)[i]?=some r->r=.skip\/∃d,i=n+d/\rs[d]?=some r:=by intro i r hi;by_cases hl:i<n;rw[mY (by simpa using hl),CA,if_pos hl] at hi;exact .inl (Option.some.inj hi).symm;rw[oI (by simpa using hl),zi] at hi;exact .inr ⟨i-n,by omega,hi⟩
 have bk:∀d r,rs[d]?=some r->(List.replicate n Rw.skip++rs)[n+d]?=some r:=λd r hd=>by rw[oI (by simp),zi,Nat.add_sub_cancel_left];exact hd
 refine⟨λi i' f ps Tn h1 h2=>?_,λi x f as h1=>?_⟩;rcases sh i _ h1 with e|⟨d,rfl,hd⟩
 cases e;rcases sh i' _ h2 with e|⟨d',rfl,ER⟩
 cases e;rw[h.un d d' f ps Tn hd ER];rcases sh i _ h1 with e|⟨d,rfl,hd⟩
 cases e;obtain⟨j,ps,hj,hp,hl⟩:=h.ca d x f as hd;exact⟨n+j,ps,by omega,bk j _ hp,hl⟩
end Gen
namespace K5
structure Kd where
 op:Bool
 cl:Bool
 el:Bool
 df:Bool
deriving DecidableEq,Inhabited
section
variable(kd:Nat->Kd)
noncomputable def st:Nat->qao
 |0=>[]
 |k+1=>let s:=if (kd k).cl=true then (st k).dropLast else st k
  if (kd k).op=true then s++[k] else s
noncomputable def dp(k:Nat):Nat:=(st kd k).length
structure WF(n:Nat):Prop where
 ex:∀k,k<n->(kd k).op=true->(kd k).cl=false
 cl:∀k,k<n->(kd k).cl=true->st kd k≠[]
 el:∀k,k<n->(kd k).el=true->st kd k≠[]
 nc:∀k,k<n->(kd k).el=true->(kd k).cl=false/\(kd k).op=false
 dn:∀k,k<n->(kd k).df=true->(kd k).op=true
 fin:st kd n=[]
end
section
variable{kd:Nat->Kd}
theorem mw{k:Nat}(h:(kd k).op=true)(h':(kd k).cl=false):st kd (k+1)=st kd k++[k]:=by simp[st,h,h']
theorem mx{k:Nat}(h:(kd k).cl=true)(h':(kd k).op=false):st kd (k+1)=(st kd k).dropLast:=by simp[st,h,h']
theorem qA{k:Nat}(h:(kd k).cl=false)(h':(kd k).op=false):st kd (k+1)=st kd k:=by simp[st,h,h']
theorem WF.YI(W:WF kd n){k:Nat}(hk:k<n)(h:(kd k).cl=true):(kd k).op=false:=by
 cases q:(kd k).op with
 |false=>rfl
 |true=>rw[W.ex k hk q] at h;cases h
theorem tW(W:WF kd n){k:Nat}(hk:k<n)(h:(kd k).op=true):dp kd (k+1)=dp kd k+1:=by unfold dp;rw[mw h (W.ex k hk h)];simp
theorem ya(W:WF kd n){k:Nat}(hk:k<n)(h:(kd k).cl=true):dp kd (k+1)+1=dp kd k:=by unfold dp;rw[mx h (W.YI hk h),zo];have:0<(st kd k).length:=SU.mpr (W.cl k hk h);omega
theorem yb{k:Nat}(h:(kd k).cl=false)(h':(kd k).op=false):dp kd (k+1)=dp kd k:=by unfold dp;rw[qA h h']
theorem yc(W:WF kd n):∀k,k<=n->∀i j,(st kd k)[i]?=some j->j<k/\(kd j).op=true/\dp kd j=i/\∀m,j<m->m<=k->i<dp kd m
 |0,_,i,j,h=>by simp[st] at h
 |k+1,hk,i,j,h=>by
  have ih:=yc W k (by omega);have xO:k<n:=by omega
  have ext:∀{i j:Nat},(st kd k)[i]?=some j->i<dp kd (k+1)->j<k+1/\(kd j).op=true/\dp kd j=i/\∀m,j<m->m<=k+1->i<dp kd m:=λ{i j} h hd=>by obtain⟨a,b,c,d⟩:=ih i j h;refine⟨by omega,b,c,λm h1 h2=>?_⟩;by_cases e:m=k+1;rw[e];exact hd;exact d m h1 (by omega)
  by_cases ho:(kd k).op=true;rw[mw ho (W.ex k xO ho)] at h;have hd:=tW W xO ho;by_cases hi:i<(st kd k).length;rw[mY hi] at h;exact ext h (by rw[hd];exact OE hi);rw[oI (by omega)] at h;have e:i-(st kd k).length=0:=by
   cases q:i-(st kd k).length with
   |zero=>rfl
   |succ r=>rw[q] at h;simp at h
  rw[e] at h;simp at h;subst h;have ei:i=dp kd k:=by unfold dp;omega
  refine⟨by omega,ho,ei.symm,λm h1 h2=>?_⟩;have:m=k+1:=by omega
  rw[this,hd,ei];omega;have jb:(kd k).op=false:=by cases q:(kd k).op<;>simp_all
  by_cases hc:(kd k).cl=true;rw[mx hc jb] at h;have hi:i<(st kd k).dropLast.length:=(dS.mp h).1;have hd:dp kd (k+1)=(st kd k).dropLast.length:=by unfold dp;rw[mx hc jb]
  rw[OA,if_pos (by rw[zo] at hi;exact hi)] at h;exact ext h (by rw[hd];exact hi);have lC:(kd k).cl=false:=by cases q:(kd k).cl<;>simp_all
  rw[qA lC jb] at h;have hd:dp kd (k+1)=dp kd k:=yb lC jb;exact ext h (by rw[hd];exact (dS.mp h).1)
theorem N6(W:WF kd n){j:Nat}(ho:(kd j).op=true):∀k,j<k->k<=n->(∀m,j<m->m<=k->dp kd j<dp kd m)->(st kd k)[dp kd j]?=some j
 |0,h,_,_=>by omega
 |k+1,h,hk,hm=>by
  have xO:k<n:=by omega
  by_cases e:j=k;subst e;rw[mw ho (W.ex j xO ho)];unfold dp;rw[oI (c3 _)];simp;have ih:=N6 W ho k (by omega) (by omega) λm h1 h2=>hm m h1 (by omega);have hd:=hm (k+1) (by omega) (c3 _);by_cases jb:(kd k).op=true;rw[mw jb (W.ex k xO jb),mY (dS.mp ih).1];exact ih;have QX:(kd k).op=false:=by cases q:(kd k).op<;>simp_all
  by_cases hc:(kd k).cl=true;have hl:dp kd (k+1)=(st kd k).length-1:=by unfold dp;rw[mx hc QX,zo]
  rw[mx hc QX,OA,if_pos (by omega)];exact ih;have lC:(kd k).cl=false:=by cases q:(kd k).cl<;>simp_all
  rw[qA lC QX];exact ih
noncomputable def kf(kd:Nat->Kd)(n d:Nat):Nat->Nat->Option Nat
 |0,_=>none
 |f+1,k=>if k<n then (if dp kd (k+1)=d then some k else kf kd n d f (k+1)) else none
noncomputable def endOf(kd:Nat->Kd)(n j:Nat):Option Nat:=kf kd n (dp kd j) (n-(j+1)) (j+1)
theorem my{d:Nat}:∀{f k e:Nat},kf kd n d f k=some e->k<=e/\e<n/\dp kd (e+1)=d/\∀m,k<=m->m<e->dp kd (m+1)≠d
 |0,_,_,h=>by cases h
 |f+1,k,e,h=>by
  simp only[kf] at h;split at h
  rename_i hk
  split at h
  rename_i hd
  cases h;exact⟨c3 _,hk,hd,λm h1 h2=>by omega⟩
  rename_i hd
  obtain⟨a,b,c,r⟩:=my h;refine⟨by omega,b,c,λm h1 h2=>?_⟩;by_cases em:m=k;rw[em];exact hd;exact r m (by omega) h2;cases h
theorem mz{d:Nat}:∀{f k:Nat},kf kd n d f k=none->∀m,k<=m->m<k+f->m<n->dp kd (m+1)≠d
 |0,k,_,m,h1,h2,_=>by omega
 |f+1,k,h,m,h1,h2,h3=>by
  simp only[kf] at h;split at h;split at h;cases h
  rename_i hd
  by_cases em:m=k;rw[em];exact hd;exact mz h m (by omega) (by omega) h3;omega
theorem Lx(W:WF kd n){k:Nat}(hk:k<n):dp kd k<=dp kd (k+1)+1:=by
 by_cases ho:(kd k).op=true;rw[tW W hk ho];omega;have jb:(kd k).op=false:=by cases q:(kd k).op<;>simp_all
 by_cases hc:(kd k).cl=true;rw[ya W hk hc];exact c3 _;have lC:(kd k).cl=false:=by cases q:(kd k).cl<;>simp_all
 rw[yb lC jb];omega
theorem above(W:WF kd n){j:Nat}(hj:j<n)(ho:(kd j).op=true):∀k,j<k->k<=n->(∀m,j<m->m<k->dp kd (m+1)≠dp kd j)->∀m,j<m->m<=k->dp kd j<dp kd m
 |0,h,_,_,m,_,_=>by omega
 |k+1,h,hk,gK,m,h1,h2=>by by_cases em:m=k+1;subst em;by_cases e:j=k;subst e;rw[tW W hj ho];omega;have ih:=above W hj ho k (by omega) (by omega) (λm a b=>gK m a (by omega)) k (by omega) (c3 _);have s:=Lx W (k:=k) (by omega);have ne:=gK k (by omega) (by omega);omega;by_cases e:j=k;omega;exact above W hj ho k (by omega) (by omega) (λm a b=>gK m a (by omega)) m h1 (by omega)
theorem end_is(W:WF kd n)(hj:j<n)(ho:(kd j).op=true):∃e,endOf kd n j=some e/\j<e/\e<n/\dp kd (e+1)=dp kd j/\∀m,j<m->m<e->dp kd (m+1)≠dp kd j:=by
 cases h:endOf kd n j with
 |some e=>obtain⟨a,b,c,d⟩:=my h;exact⟨e,rfl,by omega,b,c,λm h1 h2=>d m (by omega) h2⟩
 |none=>
  exfalso;have q:=mz h;have a:=above W hj ho n hj (c3 _) (λm h1 h2=>q m (by omega) (by omega) h2) n hj (c3 _);have z:dp kd n=0:=by unfold dp;rw[W.fin];rfl
  omega
theorem kg:∀k,(st kd k).Pairwise (·<·)/\∀j∈st kd k,j<k
 |0=>⟨List.Pairwise.nil,λj h=>(by simp[st] at h)⟩
 |k+1=>by
  obtain⟨h1,h2⟩:=kg k;have base:∀{s:qao},s.Sublist (st kd k)->s.Pairwise (·<·)/\∀j∈s,j<k:=λsl=>⟨h1.sublist sl,λj h=>h2 j (sl.subset h)⟩;have key:∀{s:qao},s.Sublist (st kd k)->(if (kd k).op=true then s++[k] else s).Pairwise (·<·)/\∀j∈(if (kd k).op=true then s++[k] else s),j<k+1:=λ{s} sl=>by
   obtain⟨a,b⟩:=base sl;split;refine⟨List.pairwise_append.mpr ⟨a,List.pairwise_singleton _ _,λx hx y hy=>by rw[jh.mp hy];exact b x hx⟩,λj hj=>?_⟩;rcases cN.mp hj with h|h
   exact OE (b j h);rw[jh.mp h];exact EM _;exact⟨a,λj hj=>OE (b j hj)⟩
  simp only[st];by_cases hc:(kd k).cl=true;rw[if_pos hc];exact key (List.dropLast_sublist _);rw[if_neg hc];exact key (List.Sublist.refl _)
noncomputable def endsAt(kd:Nat->Kd)(n j:Nat):Option Nat:=if (kd j).op=true then endOf kd n j else none
theorem Ly(W:WF kd n){k:Nat}(hk:k<n)(hc:(kd k).cl=true)(ht:(st kd k).getLast?=some j):endsAt kd n j=some k/\j<k:=by
 have hl:(st kd k)[(st kd k).length-1]?=some j:=by rw[<- wH];exact ht
 obtain⟨a,b,c,d⟩:=yc W k (by omega) _ j hl;obtain⟨e,h1,h2,h3,h4,h5⟩:=end_is W (by omega) b;refine⟨?_,a⟩;unfold endsAt;rw[if_pos b,h1]
 congr 1
 have hd:=ya W hk hc;have lH:dp kd (k+1)=dp kd j:=by rw[c];unfold dp at hd ⊢;omega
 rcases Nat.lt_or_ge e k with l|l
 have:=d (e+1) (by omega) (by omega);omega;rcases Nat.lt_or_ge k e with l2|l2
 exact absurd lH (h5 k a l2);omega
theorem vm(W:WF kd n){k:Nat}(hk:k<n)(he:endsAt kd n j=some k)(hj:j<n):(kd k).cl=true/\(st kd k).getLast?=some j:=by
 unfold endsAt at he;by_cases ho:(kd j).op=true;rw[if_pos ho] at he;obtain⟨e,h1,h2,h3,h4,h5⟩:=end_is W hj ho;rw[h1] at he;cases he;have ab:=above W hj ho k h2 (by omega) λm x y=>h5 m x y;have nE:=ab k h2 (c3 _);have hc:(kd k).cl=true:=by
  cases q:(kd k).cl with
  |true=>rfl
  |false=>exfalso;by_cases jb:(kd k).op=true;rw[tW W hk jb] at h4;omega;rw[yb q (by cases r:(kd k).op<;>simp_all)] at h4;omega
 refine⟨hc,?_⟩;have hd:=ya W hk hc;have:=N6 W ho k h2 (by omega) ab;rw[wH];have e:(st kd k).length-1=dp kd j:=by unfold dp at hd h4 ⊢;omega
 rw[e];exact this;rw[if_neg ho] at he;cases he
end
end K5
namespace K5
open PySem L2 VT Gen
noncomputable def wordOf:Rw->Str
 |.df _ _=>"def" | .give _=>"give" | .put _ _=>"put" | .lK _ _ _ _=>"do" | .new _=>"new" | .get _ _ _=>"get" | .set _ _ _=>"set" | .call _ _ _=>"call" | .fail _=>"fail"
 |.kY _=>"if" | .mX=>"else" | .gm _=>"while" | .fin=>"end" | .skip=>"skip"
theorem iq(r:Rw):∃l,aW r=.tup (.str (wordOf r)::l):=by cases r<;>exact⟨_,rfl⟩
noncomputable def a9:Rw->Kd
 |.df _ _=>⟨true,false,false,true⟩
 |.give _=>⟨false,true,false,false⟩
 |.kY _=>⟨true,false,false,false⟩
 |.mX=>⟨false,false,true,false⟩
 |.gm _=>⟨true,false,false,false⟩
 |.fin=>⟨false,true,false,false⟩
 |_=>⟨false,false,false,false⟩
theorem Wu(r:Rw):decide (wordOf r="def")=(a9 r).df:=by cases r<;>first|rfl|decide +kernel
theorem Wv(r:Rw):decide (wordOf r="else")=(a9 r).el:=by cases r<;>first|rfl|decide +kernel
theorem Ww(r:Rw):wz (.str (wordOf r)) [.str "give",.str "end"]=(a9 r).cl:=by cases r<;>first|rfl|decide +kernel
theorem Wx(r:Rw):wz (.str (wordOf r)) [.str "def",.str "if",.str "while"]=(a9 r).op:=by cases r<;>first|rfl|decide +kernel
noncomputable def bw(rs:qal)(k:Nat):Kd:=match rs[k]? with
 |some r=>a9 r
 |none=>⟨false,false,false,false⟩
theorem fA{k:Nat}(h:rs[k]?=some r):bw rs k=a9 r:=by unfold bw;rw[h]
def To(rs:qal):Prop:=WF (bw rs) rs.length
def oT:Option Nat->T
 |none=>.aQ
 |some k=>.int (k:Int)
def tab(f:Nat->Option Nat)(n k:Nat):qaj:=(List.range n).map λi=>if i<k then oT (f i) else .aQ
def je(e:Nat->Option Nat)(n k:Nat):qaj:=(List.range n).map λj=>match e j with
 |some m=>if m<k then .int (m:Int) else .aQ
 |none=>.aQ
theorem mB(f n k):(tab f n k).length=n:=by simp[tab]
theorem yd(f n k):(je f n k).length=n:=by simp[je]
theorem ye(f n):tab f n 0=List.replicate n .aQ:=by unfold tab;rw[List.eq_replicate_iff];exact⟨by simp,λx hx=>by simp at hx;exact hx.2.symm⟩
theorem D0(f n):je f n 0=List.replicate n .aQ:=by unfold je;rw[List.eq_replicate_iff];refine⟨by simp,λx hx=>?_⟩;obtain⟨j,_,rfl⟩:=sS.mp hx;split<;>simp
theorem pj{f:Nat->Option Nat}{k:Nat}:(tab f n k).set k (oT (f k))=tab f n (k+1):=by refine Nd λi=>?_;rw[T1,mB];unfold tab;rw[gJ,gJ];by_cases hi:i<n;rw[Jz hi];by_cases e:k=i;subst e;rw[if_pos rfl,if_pos hi];simp;rw[if_neg e];simp only[S3];by_cases l:i<k;rw[if_pos l,if_pos (by omega)];rw[if_neg l,if_neg (by omega)];rw[Jd (by simp;omega)];split;rw[if_neg (by omega)];rfl;rfl
theorem yf{f:Nat->Option Nat}{k:Nat}(h:f k=none):tab f n k=tab f n (k+1):=by unfold tab;refine TZ λi _=>?_;by_cases e:i=k;subst e;rw[if_neg (JE _),if_pos (EM _),h];rfl;by_cases l:i<k;rw[if_pos l,if_pos (by omega)];rw[if_neg l,if_neg (by omega)]
theorem yg(f n):tab f n n=(List.range n).map λi=>oT (f i):=by unfold tab;exact TZ λi hi=>by rw[if_pos (Bg.mp hi)]
theorem Hj{e:Nat->Option Nat}{k:Nat}(h:e j=some k)(u:∀i,i<n->e i=some k->i=j):(je e n k).set j (.int (k:Int))=je e n (k+1):=by
 refine Nd λi=>?_;rw[T1,yd];unfold je;rw[gJ,gJ];by_cases hi:i<n;rw[List.getElem?_range hi];by_cases q:j=i;subst q;rw[if_pos rfl,if_pos hi];simp[h];rw[if_neg q];simp only[S3];cases r:e i with
 |none=>rfl
 |some m=>have:m≠k:=λz=>q (u i hi (by rw[r,z])).symm;simp only;by_cases l:m<k;rw[if_pos l,if_pos (by omega)];rw[if_neg l,if_neg (by omega)]
 rw[Jd (by simp;omega)];split;rw[if_neg (by omega)];rfl;rfl
theorem D2{e:Nat->Option Nat}{k:Nat}(u:∀i,i<n->e i≠some k):je e n k=je e n (k+1):=by
 unfold je;refine TZ λi hi=>?_;cases r:e i with
 |none=>rfl
 |some m=>have:m≠k:=λz=>u i (Bg.mp hi) (by rw[r,z]);simp only;by_cases l:m<k;rw[if_pos l,if_pos (by omega)];rw[if_neg l,if_neg (by omega)]
theorem D3{e:Nat->Option Nat}(h:∀j m,j<n->e j=some m->m<n):je e n n=(List.range n).map λi=>oT (e i):=by
 unfold je;refine TZ λi hi=>?_;cases r:e i with
 |none=>rfl
 |some m=>simp only;rw[if_pos (h i m (Bg.mp hi) r)];rfl
section
variable(kd:Nat->Kd)
noncomputable def mC(k:Nat):Option Nat:=(st kd k).getLast?
noncomputable def zl(k:Nat):Option Nat:=if (kd k).df=true then some k else (st kd k).head?
noncomputable def wB(n:Nat):Nat->qaj
 |0=>List.replicate n .aQ
 |k+1=>match (kd k).el,mC kd k with
  |true,some h=>(wB n k).set h (.int (k:Int))
  |_,_=>wB n k
end
theorem pq(kd n):∀k,(wB kd n k).length=n
 |0=>by simp[wB]
 |k+1=>by simp only[wB];split;rw[Ji];exact pq kd n k;exact pq kd n k
noncomputable def Hk(rs:qal):qaj:=[.lst ((List.range rs.length).map λi=>oT (mC (bw rs) i)),.lst ((List.range rs.length).map λi=>oT (endsAt (bw rs) rs.length i)),.lst (wB (bw rs) rs.length rs.length),.lst ((List.range rs.length).map λi=>oT (zl (bw rs) i))]
theorem Hl(rs:qal):dP (rs.map aW)=(rs.zipIdx).map λp=>.tup [.int (p.2:Int),aW p.1]:=by unfold dP;refine Nd λi=>?_;rw[TX,gJ,gJ,TY];cases rs[i]?<;>simp
noncomputable def dr:Nat->qal->Option Nat
 |d,[]=>some d
 |d,r::rs=>if (a9 r).cl=true then (if d=0 then none else dr (d-1) rs) else if (a9 r).el=true then (if d=0 then none else dr d rs) else if (a9 r).op=true then dr (d+1) rs else dr d rs
theorem fY:∀(a b:qal)(d:Nat),dr d (a++b)=(dr d a).bind λe=>dr e b
 |[],b,d=>rfl
 |r::a,b,d=>by simp only[Nf,dr];split;split;rfl;exact fY a b _;split;split;rfl;exact fY a b _;split;exact fY a b _;exact fY a b _
theorem QY(rs:qal){k:Nat}(h:rs[k]?=some r):(st (bw rs) (k+1)).length=(if (a9 r).cl=true then (st (bw rs) k).length-1 else if (a9 r).op=true then (st (bw rs) k).length+1 else (st (bw rs) k).length):=by
 have oy:=fA h;by_cases hc:(a9 r).cl=true;have ho:(a9 r).op=false:=by cases r<;>first|rfl|(cases hc)
 rw[if_pos hc,mx (by rw[oy];exact hc) (by rw[oy];exact ho),zo];have lC:(a9 r).cl=false:=by cases q:(a9 r).cl<;>simp_all
 rw[if_neg hc];by_cases ho:(a9 r).op=true;rw[if_pos ho,mw (by rw[oy];exact ho) (by rw[oy];exact lC)];simp;rw[if_neg ho,qA (by rw[oy];exact lC) (by rw[oy];cases q:(a9 r).op<;>simp_all)]
theorem pv{rs:qal}(h:dr 0 rs=some 0):∀k,k<=rs.length->dr 0 (rs.take k)=some (st (bw rs) k).length
 |0,_=>rfl
 |k+1,hk=>by
  have ih:=pv h k (by omega);have e:rs[k]?=some rs[k]:=by simp
  have et:rs.take (k+1)=rs.take k++[rs[k]]:=by rw[List.take_succ,e];rfl
  have hs:(dr 0 (rs.take (k+1))).isSome=true:=by
   rw[<- Xz (k+1) rs,fY] at h;cases q:dr 0 (rs.take (k+1)) with
   |some _=>rfl
   |none=>rw[q] at h;cases h
  rw[et,fY,ih,SW] at hs ⊢;rw[QY rs e];simp only[dr] at hs ⊢;by_cases hc:(a9 rs[k]).cl=true;rw[if_pos hc,if_pos hc] at *;by_cases z:(st (bw rs) k).length=0;rw[if_pos z] at hs;cases hs;rw[if_neg z]
  . rw[if_neg hc,if_neg hc] at *;by_cases hl:(a9 rs[k]).el=true
    . have ho:¬ (a9 rs[k]).op=true:=by generalize rs[k]=r at hl;cases r<;>first|(cases hl;done)|(intro z;cases z)
      rw[if_pos hl,if_neg ho] at *;by_cases z:(st (bw rs) k).length=0;rw[if_pos z] at hs;cases hs;rw[if_neg z]
    rw[if_neg hl] at *;split<;>rfl
theorem Wy(h:dr 0 rs=some 0):To rs:=by
 have at':∀{k:Nat},k<rs.length->∃r,rs[k]?=some r/\bw rs k=a9 r:=λ{k} hk=>⟨rs[k],by simp,fA (by simp)⟩;have step:∀{k:Nat}{r:Rw},rs[k]?=some r->(a9 r).cl=true\/(a9 r).el=true->st (bw rs) k≠[]:=λ{k r} hr Fz z=>by
  have hk:k<rs.length:=(dS.mp hr).1;have h1:=pv h k (by omega);have h2:=pv h (k+1) (by omega);have et:rs.take (k+1)=rs.take k++[r]:=by rw[List.take_succ,hr];rfl
  rw[et,fY,h1,SW,z] at h2;simp only[dr,S4] at h2;obtain q|q:=Fz
  rw[if_pos q,if_pos True.intro] at h2;cases h2;by_cases q2:(a9 r).cl=true;rw[if_pos q2,if_pos True.intro] at h2;cases h2;rw[if_neg q2,if_pos q,if_pos True.intro] at h2;cases h2
 refine⟨λk hk ho=>?_,λk hk hc=>?_,λk hk hc=>?_,λk hk hc=>?_,λk hk hc=>?_,?_⟩;obtain⟨r,hr,e⟩:=at' hk;rw[e] at ho ⊢;cases r<;>first|rfl|(cases ho)
 obtain⟨r,hr,e⟩:=at' hk;exact step hr (.inl (by rw[<- e];exact hc));obtain⟨r,hr,e⟩:=at' hk;exact step hr (.inr (by rw[<- e];exact hc));obtain⟨r,hr,e⟩:=at' hk;rw[e] at hc ⊢;cases r<;>first|exact⟨rfl,rfl⟩|(cases hc)
 obtain⟨r,hr,e⟩:=at' hk;rw[e] at hc ⊢;cases r<;>first|rfl|(cases hc)
 have:=pv h rs.length (c3 _);rw[List.take_length,h] at this;exact M_.mp (Option.some.inj this).symm
theorem yh(h:ip ys pl r):(a9 r).cl=false/\(a9 r).el=false/\(a9 r).op=false:=by cases r<;>first|exact⟨rfl,rfl,rfl⟩|exact h.elim
theorem QZ{bP new dm}(h:kZ ys pl bP new dm){d:Nat}(hd:0<d):dr (d+bP.length) new=some (d+dm.length):=by
 obtain⟨o,_,rfl,rfl⟩|⟨o,_,rfl,rfl⟩|⟨y,_,rfl,rfl⟩|⟨s0,rfl,rfl,rfl⟩|⟨s0,x,rfl,rfl,rfl⟩|⟨r,hs,rfl,rfl⟩:=h
 simp[dr,a9];omega;simp[dr,a9];omega;simp[dr,a9];omega;simp[dr,a9];simp[dr,a9];obtain⟨a,b,c⟩:=yh hs;simp[dr,a,b,c]
theorem Lz{later:Plan}{bP:qai}{body:qal}(h:Body ys later bP body){d:Nat}(hd:0<d):dr d body=some (d+bP.length):=by
 induction h with
 |nil=>rfl
 |step _ hl ih=>rw[fY,ih,SW];exact QZ hl hd
theorem B9:∀(n d:Nat),dr (d+n) (List.replicate n Rw.fin)=some d
 |0,d=>rfl
 |n+1,d=>by rw[rQ];simp only[dr,a9,if_true];rw[if_neg (by omega)];exact B9 n d
theorem Q0{k:Nat}(h:Pre ys pl k rs):dr 0 rs=some 0:=by
 induction h with
 |zero=>rfl
 |succ _ _ hb _ hsk ih=>rw[fY,ih,SW];show dr 1 _=some 0;rw[fY,Lz hb (by decide),SW,fY,B9,SW];obtain rfl|rfl:=hsk<;>rfl
end K5
namespace Lay
open PySem L2 VT Gen K5
def Tp(l:List (Str×Nat)):T:=.dk (l.map λp=>(Sum.inr p.1:Key)) (l.map λp=>T.int (p.2:Int))
theorem Hm(l:List (Str×Nat))(f:Str):c5 (l.map λp=>(Sum.inr p.1:Key)) (l.map λp=>T.int (p.2:Int)) (Sum.inr f)=(wA l f).map λi=>T.int (i:Int):=by
 induction l with
 |nil=>rfl
 |cons p l ih=>obtain⟨k,i⟩:=p;simp only[gR,c5,wA];by_cases h:k=f;rw[if_pos h,if_pos (by rw[h])];rfl;rw[if_neg h,if_neg (λz=>h (Sum.inr.inj z))];exact ih
theorem qB(rs:qal):∀n,(bc rs n).length<=n
 |0=>c3 _
 |n+1=>by
  have:=qB rs n;simp only[bc];split
  rename_i r _
  cases r<;>simp only[Jv]<;>first
   |omega
   | (split<;>simp<;>omega)
  omega
def Wz:Rw->Bool
 |.df _ _=>true
 |_=>false
def eO(rs:qal):Option Nat:=rs.findIdx? Wz
theorem tX(rs:qal):∀n,∀p∈bc rs n,p.2<n/\∃ps,rs[p.2]?=some (.df p.1 ps)
 |0,p,h=>nomatch h
 |n+1,p,h=>by
  have old:p∈bc rs n->p.2<n+1/\∃ps,rs[p.2]?=some (.df p.1 ps):=λh=>by have:=tX rs n p h;exact⟨by omega,this.2⟩
  simp only[bc] at h;split at h
  rename_i r hr
  cases r with
  |df g ps=>
   simp only[Jv] at h;split at h;exact old h;rcases cN.mp h with z|z
   exact old z;rw[jh] at z;subst z;exact⟨EM _,ps,hr⟩
  |_=>exact old h
  exact old h
theorem gW{rs:qal}{i:Nat}(h:∀j,j<i->∀f ps,rs[j]?≠some (.df f ps)):∀n≤i,bc rs n=[]
 |0,_=>rfl
 |n+1,hn=>by
  simp only[bc];split
  rename_i r hr
  rw[gW h n (by omega)];cases r with
  |df g ps=>exact absurd hr (h n (by omega) g ps)
  |_=>rfl
  exact gW h n (by omega)
theorem jE{rs:qal}{i:Nat}{g:Str}{ps:qai}(hi:rs[i]?=some (.df g ps))(h:∀j,j<i->∀f ps,rs[j]?≠some (.df f ps)):∀n,i<n->∃l,bc rs n=(g,i)::l
 |0,hn=>absurd hn (Nat.not_lt_zero _)
 |n+1,hn=>by
  by_cases e:i=n;subst e;refine⟨[],?_⟩;simp only[bc,hi,Jv];rw[gW h i (c3 _)];rfl;obtain⟨l,hl⟩:=jE hi h n (by omega);simp only[bc];rw[hl];split
  rename_i r _
  cases r with
  |df f qs=>simp only[Jv];split;exact⟨l,rfl⟩;exact⟨l++[(f,n)],rfl⟩
  |_=>exact⟨l,rfl⟩
  exact⟨l,rfl⟩
theorem LA(h:Wz r=true):∃f ps,r=.df f ps:=by
 cases r with
 |df f ps=>exact⟨f,ps,rfl⟩
 |_=>cases h
theorem iw(h:eO rs=some i):(∃f ps,rs[i]?=some (.df f ps))/\∀j,j<i->∀f ps,rs[j]?≠some (.df f ps):=by unfold eO at h;rw[List.findIdx?_eq_some_iff_getElem] at h;obtain⟨hl,h1,h2⟩:=h;obtain⟨f,ps,e⟩:=LA h1;refine⟨⟨f,ps,by rw[kD hl,e]⟩,λj hj f ps e=>?_⟩;obtain⟨Qv,ej⟩:=dS.mp e;have:=h2 j hj;rw[ej] at this;exact this rfl
theorem tY(h:eO rs=none):∀(j:Nat) f ps,rs[j]?≠some (Rw.df f ps):=by unfold eO at h;rw[List.findIdx?_eq_none_iff] at h;intro j f ps e;have:=h _ (gH e);cases this
theorem Ak(h:eO rs=none):bc rs rs.length=[]:=gW (i:=rs.length) (λj _=>tY h j) _ (c3 _)
theorem Hn{m:Int}(h1:m∈(bc rs rs.length).map λp=>(p.2:Int))(h2:∀i∈(bc rs rs.length).map λp=>(p.2:Int),m<=i):T.int m=oT (eO rs):=by
 cases e:eO rs with
 |none=>rw[Ak e] at h1;cases h1
 |some i=>
  obtain⟨⟨g,ps,hi⟩,hm⟩:=iw e;obtain⟨l,hl⟩:=jE hi hm rs.length (dS.mp hi).1;obtain⟨p,hp,rfl⟩:=sS.mp h1;obtain⟨_,qs,hq⟩:=tX rs _ p hp;have le1:(p.2:Int)<=(i:Int):=h2 _ (sS.mpr ⟨(g,i),by rw[hl];exact dw,rfl⟩);have le2:¬ p.2<i:=λz=>hm _ z _ _ hq;have:p.2=i:=by omega
  rw[this];rfl
noncomputable def LB(rs:qal):qaj:=(List.range rs.length).map λi=>oT (mC (bw rs) i)
noncomputable def B_(rs:qal):qaj:=(List.range rs.length).map λi=>oT (endsAt (bw rs) rs.length i)
noncomputable def Q1(rs:qal):qaj:=wB (bw rs) rs.length rs.length
noncomputable def WA(rs:qal):qaj:=(List.range rs.length).map λi=>oT (zl (bw rs) i)
theorem Ho(rs:qal):Hk rs=[.lst (LB rs),.lst (B_ rs),.lst (Q1 rs),.lst (WA rs)]:=rfl
noncomputable def bY(C:Addr)(rs:qal):T:=.ins C ["program","heads","ends","elses","homes","defs","main"] [.lst (rs.map aW),.lst (LB rs),.lst (B_ rs),.lst (Q1 rs),.lst (WA rs),Tp (bc rs rs.length),oT (eO rs)]
section
theorem jF(h:rs[i]?=some r):jc (rs.map aW) (i:Int)=some (aW r):=aj (by rw[gJ,h];rfl)
theorem Q2(h:i<rs.length):jc (LB rs) (i:Int)=some (oT (mC (bw rs) i)):=aj (by unfold LB;rw[gJ,Jz h];rfl)
theorem B'(h:i<rs.length):jc (B_ rs) (i:Int)=some (oT (endsAt (bw rs) rs.length i)):=aj (by unfold B_;rw[gJ,Jz h];rfl)
end
def Ev(rs:qal)(k j:Nat):Prop:=∃k',k'<k/\rs[k']?=some .mX/\mC (bw rs) k'=some j
structure Al(rs:qal)(k:Nat)(s:qai):Prop where
 len:s.length=(st (bw rs) k).length
 WB:∀i j:Nat,(st (bw rs) k)[i]?=some j->∃r,rs[j]?=some r/\((¬ Ev rs k j/\s[i]?=some (wd r))\/(Ev rs k j/\s[i]?=some ("else":Str)/\wd r="if"))
 bot:∀(i:Nat)(x:Str),s[i]?=some x->(x=("def":Str)↔i=0)
theorem WC(h:wd r="if"):∃a,r=.kY a:=by cases r<;>first|exact⟨_,rfl⟩|exact absurd h (by show ¬ ((_:Str)="if");simp only[wd];decide +kernel)
theorem Ev.succ{rs:qal}{k j:Nat}(h:Ev rs k j):Ev rs (k+1) j:=let ⟨k',a,b⟩:=h;⟨k',OE a,b⟩
theorem vn{k:Nat}(h:rs[k]?≠some .mX):Ev rs (k+1) j↔Ev rs k j:=by refine⟨λ⟨k',a,b,c⟩=>?_,Ev.succ⟩;by_cases e:k'=k;subst e;exact absurd b h;exact⟨k',by omega,b,c⟩
section
theorem LC{k:Nat}{s:qai}(A:Al rs k s)(hs:st (bw rs) (k+1)=st (bw rs) k)(he:rs[k]?≠some .mX):Al rs (k+1) s :=
 ⟨by rw[hs];exact A.len,λi j h=>by rw[hs] at h;obtain⟨r,h1,h2⟩:=A.WB i j h;exact⟨r,h1,by rw[vn he];exact h2⟩,A.bot⟩
theorem Ca{k:Nat}{s:qai}(A:Al rs k s)(hs:st (bw rs) (k+1)=(st (bw rs) k).dropLast)(he:rs[k]?≠some .mX):Al rs (k+1) s.dropLast :=
 ⟨by rw[hs,zo,zo,A.len],λi j h=>by
  rw[hs] at h;have hi:=(dS.mp h).1;rw[zo] at hi;rw[OA,if_pos hi] at h;obtain⟨r,h1,h2⟩:=A.WB i j h;rw[OA,if_pos (by rw[A.len];exact hi)];exact⟨r,h1,by rw[vn he];exact h2⟩,λi x h=>by
  have hi:=(dS.mp h).1;rw[zo] at hi;rw[OA,if_pos hi] at h;exact A.bot i x h⟩
theorem vo{k:Nat}{s:qai}(W:To rs)(hk:k<rs.length)(A:Al rs k s)(hr:rs[k]?=some r)(hs:st (bw rs) (k+1)=st (bw rs) k++[k])(he:r≠.mX)(hb:wd r=("def":Str)↔s=[]):Al rs (k+1) (s++[wd r]):=by
 have he':rs[k]?≠some .mX:=by rw[hr];intro z;exact he (Option.some.inj z)
 have nev:¬ Ev rs (k+1) k:=λ⟨k',a,b,c⟩=>by
  have xO:k'<=k:=by omega
  unfold mC at c;have hm:k∈st (bw rs) k':=List.mem_of_getLast? c;have:=(kg (kd:=bw rs) k').2 k hm;omega
 refine⟨by rw[hs,nX,nX,A.len];rfl,λi j h=>?_,λi x h=>?_⟩;rw[hs] at h;by_cases hi:i<(st (bw rs) k).length;rw[mY hi] at h;rw[mY (by rw[A.len];exact hi)];obtain⟨r',h1,h2⟩:=A.WB i j h;exact⟨r',h1,by rw[vn he'];exact h2⟩;rw[oI (by omega)] at h;have e:i-(st (bw rs) k).length=0:=by
  cases q:i-(st (bw rs) k).length with
  |zero=>rfl
  |succ m=>rw[q] at h;simp at h
 rw[e] at h;simp at h;subst h;refine⟨r,hr,.inl ⟨nev,?_⟩⟩;rw[oI (by rw[A.len];omega),A.len,e];rfl;by_cases hi:i<s.length;rw[mY hi] at h;exact A.bot i x h;rw[oI (by omega)] at h;have e:i-s.length=0:=by
  cases q:i-s.length with
  |zero=>rfl
  |succ m=>rw[q] at h;simp at h
 rw[e] at h;simp at h;subst h;rw[hb];constructor;rintro rfl;simpa using e;rintro rfl;have:s.length=0:=by omega
 exact M_.mp this
theorem LD{k:Nat}{s:qai}(A:Al rs k s)(hr:rs[k]?=some .mX)(hl:s.getLast?=some ("if":Str))(hs:st (bw rs) (k+1)=st (bw rs) k):Al rs (k+1) (s.dropLast++[("else":Str)]):=by
 have gK:s≠[]:=by rintro rfl;cases hl
 have acK:0<s.length:=SU.mpr gK;have wN:s[s.length-1]?=some ("if":Str):=by rw[<- wH];exact hl
 refine⟨by rw[hs,nX,zo,<- A.len];simp;omega,λi j h=>?_,λi x h=>?_⟩;rw[hs] at h;have hi:i<s.length:=by rw[A.len];exact (dS.mp h).1
 obtain⟨r,h1,h2⟩:=A.WB i j h;by_cases e:i=s.length-1;subst e;have hh:mC (bw rs) k=some j:=by unfold mC;rw[wH,<- A.len];exact h
 refine⟨r,h1,.inr ⟨⟨k,EM _,hr,hh⟩,?_,?_⟩⟩;rw[oI (by rw[zo];omega),zo,OJ];rfl;obtain⟨_,h2⟩|⟨_,h2,_⟩:=h2
 rw[wN] at h2;exact (Option.some.inj h2).symm;rw[wN] at h2;exact absurd (Option.some.inj h2) (by decide +kernel);have acL:¬ mC (bw rs) k=some j:=λz=>by unfold mC at z;rw[wH,<- A.len] at z;have hw:=(kg (kd:=bw rs) k).1;obtain⟨a1,b1⟩:=dS.mp h;obtain⟨a2,b2⟩:=dS.mp z;have:=(List.pairwise_iff_getElem.mp hw) i (s.length-1) a1 a2 (by omega);omega
 have hev:Ev rs (k+1) j↔Ev rs k j:=by refine⟨λ⟨k',a,b,c⟩=>?_,Ev.succ⟩;by_cases e:k'=k;subst e;exact absurd c acL;exact⟨k',by omega,b,c⟩
 refine⟨r,h1,?_⟩;rw[hev,mY (by rw[zo];omega),OA,if_pos (by omega)];exact h2;by_cases hi:i<s.dropLast.length;rw[mY hi] at h;rw[zo] at hi;rw[OA,if_pos hi] at h;exact A.bot i x h;rw[oI (by omega)] at h;have e:i-s.dropLast.length=0:=by
  cases q:i-s.dropLast.length with
  |zero=>rfl
  |succ m=>rw[q] at h;simp at h
 rw[e] at h;simp at h;subst h;rw[zo] at e hi;have ei:i=s.length-1:=by omega
 have hbo:=A.bot (s.length-1) _ wN;constructor;intro z;exact absurd z (by decide +kernel);intro z;rw[ei] at z;exact absurd (hbo.mpr z) (by decide +kernel)
theorem jG{s:qai}(h:fW s x=true)(e:s=[]):x="def"\/x="skip":=by subst e;have:wz (.str x) ([("def":Str),"skip"].map T.str)=true:=h;rw[B7] at this;simpa using this
theorem jH{s:qai}{l:Str}(h:fW s x=true)(e:s.getLast?=some l):(x="give"->l="def")/\(x="else"->l="if")/\(x="end"->l≠"def")/\x≠"def":=by unfold fW at h;rw[e] at h;dsimp only at h;by_cases h1:x="give";rw[if_pos h1] at h;subst h1;exact⟨λ_=>of_decide_eq_true h,λz=>absurd z (by decide +kernel),λz=>absurd z (by decide +kernel),by decide +kernel⟩;rw[if_neg h1] at h;by_cases h2:x="else";rw[if_pos h2] at h;subst h2;exact⟨λz=>absurd z h1,λ_=>of_decide_eq_true h,λz=>absurd z (by decide +kernel),by decide +kernel⟩;rw[if_neg h2] at h;by_cases h3:x="end";rw[if_pos h3] at h;subst h3;exact⟨λz=>absurd z h1,λz=>absurd z h2,λ_=>by simpa using h,by decide +kernel⟩;rw[if_neg h3] at h;exact⟨λz=>absurd z h1,λz=>absurd z h2,λz=>absurd z h3,by simpa using h⟩
theorem Hq(s:qai)(h1:(a9 r).op=false)(h2:(a9 r).cl=false)(h3:(a9 r).el=false):k5 s (wd r)=s:=by
 have k:∀x:Str,(x="put"\/x="do"\/x="new"\/x="get"\/x="set"\/x="call"\/x="fail"\/x="skip")->k5 s x=s:=by intro x hx;unfold k5;obtain rfl|rfl|rfl|rfl|rfl|rfl|rfl|rfl:=hx<;>rw[if_neg (by decide +kernel),if_neg (by decide +kernel),if_neg (by decide +kernel)]
 cases r<;>first
  |exact Bool.noConfusion (show true=false from h1)
  |exact Bool.noConfusion (show true=false from h2)
  |exact Bool.noConfusion (show true=false from h3)
  | (refine k _ ?_;simp[wd];done)
theorem Hr(W:To rs)(hb:ke (some []) rs=some []):∀k,k<=rs.length->∃s,ke (some []) (rs.take k)=some s/\Al rs k s
 |0,_=>⟨[],rfl,⟨rfl,λi j h=>by simp[st] at h,λi x h=>by simp at h⟩⟩
 |k+1,hk=>by
  obtain⟨s,hs,A⟩:=Hr W hb k (by omega);have j5:k<rs.length:=by omega
  have hr:rs[k]?=some rs[k]:=kD j5;obtain⟨s',h1,h2,h3⟩:=x4 hb k hr;rw[hs] at h1;cases h1;refine⟨_,h3,?_⟩;generalize rs[k]=r at hr h2;have kk:=fA hr;have nil:s=[]->wd r="def"\/wd r="skip":=jG h2;have ne:s≠[]->∃l,s.getLast?=some l:=λz=>by obtain⟨a,l,e⟩:=ph z;exact⟨l,by rw[e,JA]⟩
  cases r with
  |df f ps=>
   have e:s=[]:=by by_cases z:s=[];exact z;obtain⟨l,hl⟩:=ne z;exact absurd rfl (jH h2 hl).2.2.2
   have:=vo W j5 A hr (mw (by rw[kk];rfl) (by rw[kk];rfl)) (by simp) ⟨λ_=>e,λ_=>rfl⟩;rw[show wd (.df f ps)="def" from rfl] at this ⊢;rw[B8];exact this
  |kY a=>
   have e:s≠[]:=λz=>by rcases nil z with h|h<;>exact absurd h (by show ¬ (("if":Str)=_);decide +kernel)
   have:=vo W j5 A hr (mw (by rw[kk];rfl) (by rw[kk];rfl)) (by simp) ⟨λh=>absurd h (by show ¬ (("if":Str)=_);decide +kernel),λh=>absurd h e⟩;rw[show wd (.kY a)="if" from rfl] at this ⊢;rw[Hg];exact this
  |gm a=>
   have e:s≠[]:=λz=>by rcases nil z with h|h<;>exact absurd h (by show ¬ (("while":Str)=_);decide +kernel)
   have:=vo W j5 A hr (mw (by rw[kk];rfl) (by rw[kk];rfl)) (by simp) ⟨λh=>absurd h (by show ¬ (("while":Str)=_);decide +kernel),λh=>absurd h e⟩;rw[show wd (.gm a)="while" from rfl] at this ⊢;rw[nG];exact this
  |give a=>have:=Ca A (mx (by rw[kk];rfl) (by rw[kk];rfl)) (by rw[hr];simp);rw[show wd (.give a)="give" from rfl,x5];exact this
  |fin=>have:=Ca A (mx (by rw[kk];rfl) (by rw[kk];rfl)) (by rw[hr];simp);rw[show wd .fin="end" from rfl,vi];exact this
  |mX=>
   have e:s≠[]:=λz=>by rcases nil z with h|h<;>exact absurd h (by show ¬ (("else":Str)=_);decide +kernel)
   obtain⟨l,hl⟩:=ne e;have hl2:=(jH h2 hl).2.1 rfl;rw[hl2] at hl;have:=LD A hr hl (qA (by rw[kk];rfl) (by rw[kk];rfl));rw[show wd .mX="else" from rfl,x6];exact this
  |_=>rw[Hq s rfl rfl rfl];exact LC A (qA (by rw[kk];rfl) (by rw[kk];rfl)) (by rw[hr];simp)
end
structure Bl(rs:qal):Prop where
 W:To rs
 b:ke (some []) rs=some []
section
theorem Bl.at(B:Bl rs){k:Nat}(hr:rs[k]?=some r):∃s,Al rs k s/\fW s (wd r)=true:=by have hk:=(dS.mp hr).1;obtain⟨s,hs,A⟩:=Hr B.W B.b k (by omega);obtain⟨s',h1,h2,h3⟩:=x4 B.b k hr;rw[hs] at h1;cases h1;exact⟨s,A,h2⟩
theorem Al.j4{k:Nat}{s:qai}(A:Al rs k s):s=[]↔st (bw rs) k=[]:=by rw[<- M_,<- M_,A.len]
theorem Al.last{k:Nat}{s:qai}(A:Al rs k s){l:Str}(h:s.getLast?=some l):∃o r,mC (bw rs) k=some o/\rs[o]?=some r/\((¬ Ev rs k o/\l=wd r)\/(Ev rs k o/\l="else"/\wd r="if")):=by
 rw[wH] at h;have hi:=(dS.mp h).1;have hj:(st (bw rs) k)[s.length-1]?=some ((st (bw rs) k)[s.length-1]'(by rw[<- A.len];exact hi)):=kD _;obtain⟨r,h1,h2⟩:=A.WB _ _ hj;have hh:mC (bw rs) k=(st (bw rs) k)[s.length-1]?:=by unfold mC;rw[wH,<- A.len]
 refine⟨_,r,hh.trans hj,h1,?_⟩;rw[h] at h2;obtain⟨a,b⟩|⟨a,b,c⟩:=h2
 exact .inl ⟨a,Option.some.inj b⟩;exact .inr ⟨a,Option.some.inj b,c⟩
theorem lastOf{s:qai}(z:s≠[]):∃l,s.getLast?=some l:=by obtain⟨a,l,e⟩:=ph z;exact⟨l,by rw[e,JA]⟩
theorem Bl.inn(B:Bl rs){k:Nat}(hr:rs[k]?=some r)(h1:wd r≠"def")(h2:wd r≠"skip"):st (bw rs) k≠[]:=by
 obtain⟨s,A,m⟩:=B.at hr;rw[Ne,<- A.j4];intro z;rcases jG m z with h|h
 exact h1 h;exact h2 h
theorem Bl.give(B:Bl rs){k:Nat}{a}(hr:rs[k]?=some (.give a)):(st (bw rs) k).length=1:=by
 obtain⟨s,A,m⟩:=B.at hr;have z:s≠[]:=λz=>by rcases jG m z with h|h<;>exact absurd h (by show ¬ (("give":Str)=_);decide +kernel)
 obtain⟨l,hl⟩:=lastOf z;have hd:=(jH m hl).1 rfl;rw[wH,hd] at hl;have:=(A.bot _ _ hl).mp rfl;have:=SU.mpr z;rw[<- A.len];omega
theorem Bl.fin(B:Bl rs){k:Nat}(hr:rs[k]?=some .fin):2<=dp (bw rs) k/\∃o r,mC (bw rs) k=some o/\rs[o]?=some r/\wd r≠"def":=by
 obtain⟨s,A,m⟩:=B.at hr;have z:s≠[]:=λz=>by rcases jG m z with h|h<;>exact absurd h (by show ¬ (("end":Str)=_);decide +kernel)
 obtain⟨l,hl⟩:=lastOf z;have hd:=(jH m hl).2.2.1 rfl;obtain⟨o,r,h1,h2,h3⟩:=A.last hl;refine⟨?_,o,r,h1,h2,?_⟩;rw[wH] at hl;have h0:¬ s.length-1=0:=λq=>hd ((A.bot _ _ hl).mpr q);unfold dp;rw[<- A.len];omega;obtain⟨_,q⟩|⟨_,_,q⟩:=h3
 rw[<- q];exact hd;rw[q];decide +kernel
theorem Bl.mX(B:Bl rs){k:Nat}(hr:rs[k]?=some .mX):2<=dp (bw rs) k/\∃o a,mC (bw rs) k=some o/\rs[o]?=some (.kY a)/\¬ Ev rs k o:=by
 obtain⟨s,A,m⟩:=B.at hr;have z:s≠[]:=λz=>by rcases jG m z with h|h<;>exact absurd h (by show ¬ (("else":Str)=_);decide +kernel)
 obtain⟨l,hl⟩:=lastOf z;have hd:=(jH m hl).2.1 rfl;obtain⟨o,r,h1,h2,h3⟩:=A.last hl;refine⟨?_,?_⟩;rw[wH,hd] at hl;have h0:¬ s.length-1=0:=λq=>absurd ((A.bot _ _ hl).mpr q) (by decide +kernel);unfold dp;rw[<- A.len];omega;obtain⟨a,q⟩|⟨_,q,_⟩:=h3
 rw[hd] at q;obtain⟨x,rfl⟩:=WC q.symm;exact⟨o,x,h1,h2,a⟩;rw[hd] at q;exact absurd q (by decide +kernel)
theorem Bl.top(B:Bl rs){o e:Nat}(ho:o<rs.length)(zm:(bw rs o).op=true)(he:endsAt (bw rs) rs.length o=some e):o<e/\e<rs.length/\dp (bw rs) (e+1)=dp (bw rs) o/\(∀m,o<m->m<=e->dp (bw rs) o<dp (bw rs) m)/\(∀m,o<m->m<e->dp (bw rs) (m+1)≠dp (bw rs) o):=by unfold endsAt at he;rw[if_pos zm] at he;obtain⟨e',h1,h2,h3,h4,h5⟩:=end_is B.W ho zm;rw[he] at h1;cases h1;exact⟨h2,h3,h4,above B.W ho zm e h2 (by omega) h5,h5⟩
end
section
noncomputable def Q3(kd:Nat->Kd):Nat->Nat->Option Nat
 |0,_=>none
 |k+1,j=>if (kd k).el=true/\mC kd k=some j then some k else Q3 kd k j
theorem Hs(kd:Nat->Kd)(n:Nat){j:Nat}(hj:j<n):∀k,(wB kd n k)[j]?=some (oT (Q3 kd k j))
 |0=>by simp[wB,Q3,oT,hj]
 |k+1=>by
  have ih:=Hs kd n hj k;simp only[wB,Q3];cases hc:(kd k).el with
  |false=>simp only[EK,false_and,if_false];exact ih
  |true=>
   cases hh:mC kd k with
   |none=>simp only[reduceCtorEq,and_false,if_false];exact ih
   |some h=>simp only[Option.some.injEq,true_and];by_cases e:h=j;subst e;rw[if_pos rfl,Bf (by rw[pq];exact hj)];rfl;rw[if_neg e,rP e];exact ih
theorem yi{kd:Nat->Kd}{j x:Nat}:∀{k},Q3 kd k j=some x->x<k/\(kd x).el=true/\mC kd x=some j
 |0,h=>by cases h
 |k+1,h=>by
  simp only[Q3] at h;split at h
  rename_i q;cases h;exact⟨EM _,q⟩
  have:=yi h;exact⟨by omega,this.2⟩
noncomputable def Ht(rs:qal)(j:Nat):Option Nat:=Q3 (bw rs) rs.length j
theorem Q5(hj:j<rs.length):jc (Q1 rs) (j:Int)=some (oT (Ht rs j)):=aj (Hs _ _ hj _)
theorem Q6{x:Nat}(h:(bw rs x).el=true):rs[x]?=some .mX:=by
 unfold bw at h;split at h
 rename_i r hr
 rw[hr];cases r<;>first|rfl|exact Bool.noConfusion (show false=true from h)
 exact Bool.noConfusion (show false=true from h)
structure Blo(rs:qal)(o e:Nat):Prop where
 lt:o<rs.length
 op:(bw rs o).op=true
 en:endsAt (bw rs) rs.length o=some e
 d1:1<=dp (bw rs) o
 le:o<e
 el:e<rs.length
 ab:∀m,o<m->m<=e->dp (bw rs) o<dp (bw rs) m
 fi:∀m,o<m->m<e->dp (bw rs) (m+1)≠dp (bw rs) o
 de:dp (bw rs) e=dp (bw rs) o+1
 re:rs[e]?=some .fin
theorem Bl.WD(B:Bl rs){o:Nat}(hr:rs[o]?=some r)(hw:wd r="if"\/wd r="while"):∃e,Blo rs o e:=by
 have zm:(bw rs o).op=true:=by rw[fA hr];cases r<;>first|rfl|exact absurd hw (by show ¬ ((_:Str)="if"\/(_:Str)="while");simp only[wd];decide +kernel)
 have ho:=(dS.mp hr).1;obtain⟨e,h1,h2,h3,h4,h5⟩:=end_is B.W ho zm;have he:endsAt (bw rs) rs.length o=some e:=by unfold endsAt;rw[if_pos zm];exact h1
 obtain⟨a,b,c,d,f⟩:=B.top ho zm he;have gK:st (bw rs) o≠[]:=B.inn hr (by obtain q|q:=hw<;>rw[q]<;>decide +kernel) (by obtain q|q:=hw<;>rw[q]<;>decide +kernel);have d1:1<=dp (bw rs) o:=by unfold dp;exact SU.mpr gK
 obtain⟨Fz,adl⟩:=vm B.W b he ho;have gn:=ya B.W b Fz;have re:rs[e]?=some .fin:=by
  have Ya:rs[e]?=some rs[e]:=kD b;have kk:=fA Ya;rw[kk] at Fz;generalize rs[e]=q at Ya Fz;cases q with
  |fin=>exact Ya
  |give x=>have:=B.give Ya;unfold dp at gn c d1;omega
  |_=>exact Bool.noConfusion (show false=true from Fz)
 exact⟨e,ho,zm,he,d1,a,b,d,f,by omega,re⟩
noncomputable def oW(rs:qal)(o:Nat):Int:=match endsAt (bw rs) rs.length o with
 |some e=>(e:Int)
 |none=>0
noncomputable def EX(rs:qal)(j:Nat):Nat:=(mC (bw rs) j).getD 0
noncomputable def LF(rs:qal)(j:Nat):Int:=match rs[j]? with
 |some (.gm _)=>oW rs j+1
 |_=>match Ht rs j with
  |none=>oW rs j
  |some x=>(x:Int)+1
noncomputable def Am(rs:qal)(j:Nat):Int:=match rs[j]? with
 |some .mX=>oW rs (EX rs j)
 |some .fin=>match rs[EX rs j]? with
  |some (.gm _)=>(EX rs j:Int)
  |_=>(j:Int)+1
 |_=>(j:Int)+1
def Hu:Rw->Bool
 |.kY _=>true
 |.gm _=>true
 |_=>false
end
end Lay
namespace BS
open PySem PySem.Builtin PyProof.Rows
def ib(x:Int)(k:Nat):Bool:=decide (x / 2 ^ k % 2=1)
def sub(y x:Int):Prop:=∀k,ib y k=true->ib x k=true
def below(m:Nat)(x:Int):Prop:=0<=x/\x<2 ^ m
def sw(An:qan):Nat->Int->Int
 |0,x=>x
 |k+1,x=>if ib (sw An k x) k=true then bitOr (sw An k x) (An.getD k 0) else sw An k x
def rounds(An:qan):Nat->Int->Int
 |0,x=>x
 |t+1,x=>sw An An.length (rounds An t x)
def mem(x:Int):qao:=(List.range (Builtin.Int.intBits x)).filter (ib x)
def lst(An:qan)(x:Int):Int:=rounds An An.length x
end BS
namespace BS
open PySem PySem.Builtin
end BS
namespace Lay
open PySem L2 VT Gen K5 BS
open PySem.Builtin (bitOr)
end Lay
namespace S30
open PySem L2 VT Gen K5 Lay BS
open PySem.Builtin (bitOr)
def nH(a c:Nat)(f:Str)(ps:qai)(body:qal)(o:i9):qal:=List.replicate a .skip++(.df f ps::(body++(.give o::List.replicate c .skip)))
end S30
set_option exponentiation.threshold 4000
namespace Rg
open PySem L2 VT Gen K5 Lay
open og (dD)
open jC (Vl vT nm dH RI)
theorem wC(h:n<=1000):n<=sizeLine:=Gen.small h
theorem Hv(i:Int):RI (dH i):=by unfold RI dH;omega
theorem N7(h:n+101<cLine):n+3<cLine:=by omega
theorem Q7:RI 0:=by unfold RI;decide
theorem RI1:RI 1:=by unfold RI;decide
theorem qC{α β:Type}(f:α->β):∀(ks:List Key)(is:List α)(k:Key),c5 ks (is.map f) k=(c5 ks is k).map f
 |[],is,k=>by cases is<;>rfl
 |a::ks,[],k=>rfl
 |a::ks,i::is,k=>by simp only[gR,c5];split;rfl;exact qC f ks is k
theorem tZ(f:α->β)(ks:List Key)(is:List α)(k:Key)(v:α):cC ks (is.map f) k (f v)=(cC ks is k v).map f:=by
 unfold cC;split;rw[List.zipWith_map_right,List.map_zipWith]
 congr 1
 funext a b;split<;>rfl;simp
theorem nI(ks:List Key)(is:List α)(k:Key)(v:α):(cC ks is k v).length<=is.length+1:=by unfold cC;split;rw[List.length_zipWith];omega;simp
theorem D4{is:List α}{k:Key}{v i:α}(h:i∈cC ks is k v):i∈is\/i=v:=by
 unfold cC at h;split at h;rw[List.mem_iff_getElem?] at h;obtain⟨j,hj⟩:=h;rw[List.getElem?_zipWith] at hj;cases e1:ks[j]? with
 |none=>rw[e1] at hj;cases hj
 |some a=>
  cases e2:is[j]? with
  |none=>rw[e1,e2] at hj;cases hj
  |some b=>rw[e1,e2] at hj;have EU:(if a=k then v else b)=i:=Option.some.inj hj;split at EU;exact .inr EU.symm;exact .inl (by rw[<- EU];exact gH e2)
 rcases cN.mp h with z|z
 exact .inl z;exact .inr (jh.mp z)
theorem yj{α:Type}:∀{ks:List Key}{is:List α}{k:Key}{v:α},c5 ks is k=some v->v∈is
 |[],is,k,v,h=>by cases is<;>cases h
 |a::ks,[],k,v,h=>by cases h
 |a::ks,i::is,k,v,h=>by simp only[c5] at h;split at h;cases h;exact dw;exact gG _ (yj h)
structure Ev where
 ks:List Key
 is:List Vl
noncomputable def Ev.ts(e:Ev):qaj:=e.is.map vT
noncomputable def Ev.get(e:Ev)(x:Str):Vl:=(c5 e.ks e.is (.inr x)).getD (.num 0)
noncomputable def Ev.put(e:Ev)(x:Str)(v:Vl):Ev:=⟨ik e.ks (.inr x),cC e.ks e.is (.inr x) v⟩
def ev0:Ev:=⟨[],[]⟩
theorem Q8(e:Ev)(x:Str):(c5 e.ks e.ts (.inr x)).getD (.int 0)=vT (e.get x):=by unfold Ev.ts Ev.get;rw[qC];cases c5 e.ks e.is (.inr x)<;>rfl
theorem Ao(e:Ev)(x:Str)(v:Vl):cC e.ks e.ts (.inr x) (vT v)=(e.put x v).ts:=tZ vT e.ks e.is (.inr x) v
theorem dY(v:Vl):bR (vT v)=true:=by cases v<;>rfl
def RV(v:Vl):Prop:=RI (nm v)
structure gA(e:Ev)(n:Nat):Prop where
 n:e.is.length<=n
 ri:∀i∈e.is,RV i
theorem gA.put{e:Ev}(h:gA e n)(x:Str){v:Vl}(hv:RV v):gA (e.put x v) (n+1):=by
 refine⟨?_,λi hi=>?_⟩;have:=nI e.ks e.is (.inr x) v;have:=h.n;show (cC e.ks e.is (.inr x) v).length<=n+1;omega;rcases D4 hi with z|z
 exact h.ri i z;rw[z];exact hv
theorem gA.get{e:Ev}{n:Nat}(h:gA e n)(x:Str):RV (e.get x):=by
 unfold Ev.get;cases g:c5 e.ks e.is (.inr x) with
 |none=>exact Q7
 |some v=>exact h.ri v (yj g)
noncomputable def look(e:Ev):i9->Vl
 |.nm x=>e.get x
 |.nu i=>.num i
def qD:i9->Prop
 |.nm x=>dD x=true/\x.length<=100
 |.nu i=>RI i
def Jw:Ky->Prop
 |.fld x=>dD x=true/\x.length<=50
 |.op o=>qD o
theorem gA.look{e:Ev}(h:gA e n){o:i9}(ho:qD o):RV (look e o):=by
 cases o with
 |nm x=>exact h.get x
 |nu i=>exact ho
noncomputable def WE(op:Str)(x y:Int):Option Int :=
 if op="plus" then some (dH (x+y)) else if op="minus" then some (dH (x-y)) else if op="times" then some (dH (x * y)) else if op="less" then some (if x<y then 1 else 0) else if op="same" then some (if x=y then 1 else 0)
 else if y=0 then none else if op="over" then some (dH (x.fdiv y)) else some (dH (x.fmod y))
noncomputable def Ap(op:Str)(a b:Vl):Option Int:=if op="same" then some (if a=b then 1 else 0) else WE op (nm a) (nm b)
theorem Q9{op:Str}{x y v:Int}(h:WE op x y=some v):RI v:=by
 unfold WE at h
 repeat' split at h
 all_goals (cases h)
 all_goals first|exact Hv _|exact Q7|exact RI1
theorem Q_{op:Str}{a b:Vl}{v:Int}(h:Ap op a b=some v):RI v:=by
 unfold Ap at h;split at h;cases h;split<;>first|exact Q7|exact RI1
 exact Q9 h
noncomputable def oV:Option Vl->T
 |some v=>vT v
 |none=>.aQ
theorem Aq(o:Option Vl):bR (oV o)=true:=by cases o<;>first|rfl|exact dY _
structure Fr where
 call:Option Nat
 ev:Ev
structure Ct where
 ks:List Key
 is:qan
def Ct.ts(c:Ct):qaj:=c.is.map .int
noncomputable def Ct.get(c:Ct)(p:Nat):Int:=(c5 c.ks c.is (.inl (p:Int))).getD 0
noncomputable def Ct.up(c:Ct)(p:Nat):Ct:=⟨ik c.ks (.inl (p:Int)),cC c.ks c.is (.inl (p:Int)) (c.get p+1)⟩
theorem Hw(c:Ct)(p:Nat):(c5 c.ks c.ts (.inl (p:Int))).getD (.int 0)=.int (c.get p):=by unfold Ct.ts Ct.get;rw[qC];cases c5 c.ks c.is (.inl (p:Int))<;>rfl
theorem WG(c:Ct)(p:Nat):cC c.ks c.ts (.inl (p:Int)) (.int (c.get p+1))=(c.up p).ts:=tZ T.int c.ks c.is (.inl (p:Int)) (c.get p+1)
structure Ce where
 ks:List (List Key×Key)
 is:List Vl
noncomputable def Ce.ts(c:Ce):qaj:=c.is.map vT
noncomputable def Ce.get(c:Ce)(k:List Key×Key):Vl:=(jA c.ks c.is k).getD (.num 0)
noncomputable def Ce.put(c:Ce)(k:List Key×Key)(v:Vl):Ce:=⟨qy c.ks k,gc c.ks c.is k v⟩
noncomputable def Ce.at'(c:Ce):Option (List Key×Key)->Vl
 |some k=>c.get k
 |none=>.num 0
noncomputable def Ce.Ra(c:Ce)(v:Vl):Option (List Key×Key)->Ce
 |some k=>c.put k v
 |none=>c
noncomputable def Ce.s(nh:List Key×Key->Int)(c:Ce):S:=.dc nh c.ks c.ts
theorem yk{α β:Type}(f:α->β):∀(ks:List (List Key×Key))(is:List α)(k:List Key×Key),jA ks (is.map f) k=(jA ks is k).map f
 |[],is,k=>by cases is<;>rfl
 |a::ks,[],k=>rfl
 |a::ks,i::is,k=>by simp only[gR,jA];split;rfl;exact yk f ks is k
theorem D5(f:α->β)(ks:List (List Key×Key))(is:List α)(k:List Key×Key)(v:α):gc ks (is.map f) k (f v)=(gc ks is k v).map f:=by
 unfold gc;split;rw[List.zipWith_map_right,List.map_zipWith]
 congr 1
 funext a b;split<;>rfl;simp
theorem Rb(c:Ce)(k:List Key×Key):(jA c.ks c.ts k).getD (.int 0)=vT (c.get k):=by unfold Ce.ts Ce.get;rw[yk];cases jA c.ks c.is k<;>rfl
theorem Rc(c:Ce)(k:List Key×Key)(v:Vl):gc c.ks c.ts k (vT v)=(c.put k v).ts:=D5 vT c.ks c.is k v
theorem D6(ks:List (List Key×Key))(is:List α)(k:List Key×Key)(v:α):(gc ks is k v).length<=is.length+1:=by unfold gc;split;rw[List.length_zipWith];omega;simp
theorem D7{ks:List (List Key×Key)}{is:List α}{k:List Key×Key}{v i:α}(h:i∈gc ks is k v):i∈is\/i=v:=by
 unfold gc at h;split at h;rw[List.mem_iff_getElem?] at h;obtain⟨j,hj⟩:=h;rw[List.getElem?_zipWith] at hj;cases e1:ks[j]? with
 |none=>rw[e1] at hj;cases hj
 |some a=>
  cases e2:is[j]? with
  |none=>rw[e1,e2] at hj;cases hj
  |some b=>rw[e1,e2] at hj;have EU:(if a=k then v else b)=i:=Option.some.inj hj;split at EU;exact .inr EU.symm;exact .inl (by rw[<- EU];exact gH e2)
 rcases cN.mp h with z|z
 exact .inl z;exact .inr (jh.mp z)
theorem yl{α:Type}:∀{ks:List (List Key×Key)}{is:List α}{k:List Key×Key}{v:α},jA ks is k=some v->v∈is
 |[],is,k,v,h=>by cases is<;>cases h
 |a::ks,[],k,v,h=>by cases h
 |a::ks,i::is,k,v,h=>by simp only[jA] at h;split at h;cases h;exact dw;exact gG _ (yl h)
def k7(c:Ce)(n:Nat):Prop:=c.is.length<=n/\∀v∈c.is,RV v
theorem k7.get{c:Ce}{n:Nat}(h:k7 c n)(k:List Key×Key):RV (c.get k):=by
 unfold Ce.get;cases g:jA c.ks c.is k with
 |none=>exact Q7
 |some v=>exact h.2 v (yl g)
theorem k7.put{c:Ce}(h:k7 c n)(k:List Key×Key){v:Vl}(hv:RV v):k7 (c.put k v) (n+1):=by
 refine⟨?_,λi hi=>?_⟩;have:=D6 c.ks c.is k v;have:=h.1;show (gc c.ks c.is k v).length<=n+1;omega;rcases D7 hi with z|z
 exact h.2 i z;rw[z];exact hv
noncomputable def i_(v:Vl):T:=.tup [.str "done",vT v]
noncomputable def qF:T:=.tup [.str "fault",.str "zero"]
noncomputable def dI:T:=.tup [.str "cut",.int 0]
def t4(w:Str):T:=.tup [.str "fault",.str w]
def LG:Ky->List i9
 |.fld _=>[]
 |.op o=>[o]
noncomputable def gi:Rw->List i9
 |.df _ ps=>ps.map .nm
 |.put _ a=>[a]
 |.give a=>[a]
 |.kY a=>[a]
 |.gm a=>[a]
 |.lK _ a _ b=>[a,b]
 |.call _ _ as=>as
 |.get _ r k=>.nm r::LG k
 |.set r k a=>.nm r::(LG k++[a])
 |_=>[]
noncomputable def cellK(e:Ev)(r:Str)(k:Ky):Option (List Key×Key):=match e.get r with
 |.DR p n=>some ([.inl p,.inl n],match k with
  |.fld x=>.inr (((".":String):Str)++x)
  |.op o=>.inl (nm (look e o)))
 |.num _=>none
noncomputable def t5(e:Ev)(ce:Ce)(c:Ct)(p:Nat):Rw->Option Vl
 |.get _ r k=>some (ce.at' (cellK e r k))
 |.set _ _ a=>some (look e a)
 |.put _ a=>some (look e a)
 |.give a=>some (look e a)
 |.lK _ a op b=>(Ap op (look e a) (look e b)).map .num
 |.new _=>some (.DR p (c.get p))
 |.kY a=>some (.num (if look e a=.num 0 then 0 else 1))
 |.gm a=>some (.num (if look e a=.num 0 then 0 else 1))
 |_=>none
noncomputable def rN(e:Ev)(ce:Ce)(c:Ct)(p:Nat)(r:Rw):T:=.tup [.int (p:Int),.tup ((gi r).map λo=>vT (look e o)),oV (t5 e ce c p r)]
noncomputable def cq(ps:qai)(gs:List Vl):Nat->Ev
 |0=>ev0
 |k+1=>match ps[k]? with
  |some x=>(cq ps gs k).put x (gs.getD k (.num 0))
  |none=>cq ps gs k
structure Lv where
 fs:List Fr
 f:Fr
 ce:Ce
 ct:Ct
 dn:qaj
 pl:Nat
abbrev Res:=List T×T
def jf:Rw->Bool
 |.mX=>true
 |.fin=>true
 |.skip=>true
 |_=>false
noncomputable def t6(s:Lv)(x:Str)(v:Vl)(d:T):Lv:={s with f:={s.f with ev:=s.f.ev.put x v},dn:=s.dn++[d],pl:=s.pl+1}
noncomputable def cD(rs:qal)(r:Rw)(s:Lv):Lv ⊕ Res :=
 let e:=s.f.ev
 let d:=rN e s.ce s.ct s.pl r
 match r with
 |.df _ _=>.inl {s with dn:=s.dn++[d],pl:=s.pl+1}
 |.put x a=>.inl (t6 s x (look e a) d)
 |.lK x a op b=>match Ap op (look e a) (look e b) with
  |none=>.inr (s.dn++[d],qF)
  |some v=>.inl (t6 s x (.num v) d)
 |.new x=>.inl (t6 {s with ct:=s.ct.up s.pl} x (.DR s.pl (s.ct.get s.pl)) d)
 |.kY a=>.inl {s with dn:=s.dn++[d],pl:=if look e a=.num 0 then (LF rs s.pl).toNat else s.pl+1}
 |.gm a=>.inl {s with dn:=s.dn++[d],pl:=if look e a=.num 0 then (LF rs s.pl).toNat else s.pl+1}
 |.get x r k=>.inl (t6 s x (s.ce.at' (cellK e r k)) d)
 |.set r k a=>.inl {s with ce:=s.ce.Ra (look e a) (cellK e r k),dn:=s.dn++[d],pl:=s.pl+1}
 |.fail w=>.inr (s.dn++[d],t4 w)
 |.give a=>match s.f.call,s.fs.getLast? with
  |some c,some g=>match rs[c]? with
   |some (.call x _ _)=>.inl {fs:=s.fs.dropLast,f:={g with ev:=g.ev.put x (look e a)},ce:=s.ce,ct:=s.ct,dn:=s.dn++[d],pl:=c+1}
   |_=>.inr (s.dn,dI)
  |_,_=>.inr (s.dn++[d],i_ (look e a))
 |.call _ g as=>match wA (bc rs rs.length) g with
  |some p=>match rs[p]? with
   |some (.df _ ps)=>.inl {fs:=s.fs++[s.f],f:=⟨some s.pl,cq ps (as.map (look e)) ps.length⟩,ce:=s.ce,ct:=s.ct,dn:=s.dn++[d],pl:=p}
   |_=>.inr (s.dn,dI)
  |none=>.inr (s.dn,dI)
 |_=>.inr (s.dn,dI)
noncomputable def ix(rs:qal)(most:Nat)(s:Lv):Lv ⊕ Res:=match rs[s.pl]? with
 |none=>.inr (s.dn,dI)
 |some r=>if jf r=true then .inl {s with pl:=(Am rs s.pl).toNat} else if most<=s.dn.length then .inr (s.dn,dI) else cD rs r s
noncomputable def wD(cF:Addr)(f:Fr):S:=.ins cF qaw [.lf (oT f.call),.dk f.ev.ks f.ev.ts]
noncomputable def WH(cF:Addr)(f:Fr):T:=.ins cF qaw [oT f.call,.dk f.ev.ks f.ev.ts]
noncomputable def c7(cM cF:Addr)(L:T)(most:Int)(pk:T)(fr:List Fr)(ce:S)(ct:Ct)(dn:qaj)(pl en:T):S:=.ins cM mN [.lf L,.lf (.int most),.lf pk,.lst (fr.map (wD cF)),ce,.dk ct.ks ct.ts,.lst (dn.map .lf),.lf pl,.lf en]
noncomputable def Tq(cM cF:Addr)(L:T)(most:Int)(pk:T)(fr:List Fr)(ce:S)(ct:Ct)(dn:qaj)(pl en:T):T:=.ins cM mN [L,.int most,pk,.lst (fr.map (WH cF)),ce.t,.dk ct.ks ct.ts,.lst dn,pl,en]
theorem N8(cF:Addr):∀fr:List Fr,S.ts (fr.map (wD cF))=fr.map (WH cF)
 |[]=>by simp[S.ts]
 |e::fr=>by simp[S.ts,N8 cF fr,wD,WH,S.t]
theorem N9:∀dn:qaj,S.ts (dn.map .lf)=dn
 |[]=>by simp[S.ts]
 |e::fr=>by simp[S.ts,N9 fr,S.t]
section
variable{cM cF:Addr}{L:T}{most:Int}{pk:T}{fr fs:List Fr}{f:Fr}{ce:S}{ct:Ct}{dn:qaj}{pl en:T}
theorem gP:(c7 cM cF L most pk fr ce ct dn pl en).t=Tq cM cF L most pk fr ce ct dn pl en:=by unfold c7 Tq;simp only[S.t,S.ts,N8,N9]
theorem N_(C:Addr)(f:Str)(ns:qai)(xs:List S):(S.ins C ns xs).VY (.fld C f)=kT f ns:=by show (if C=C then kT f ns else none)=_;rw[if_pos rfl]
theorem t7{f:Str}{ns:qai}{xs:List S}{x:S}{ps:List kS}(h1:kT f ns=some i)(h2:xs[i]?=some x):(S.ins C ns xs).get (.fld C f::ps)=x.get ps:=by rw[S.get,N_,h1];show (match xs[i]? with|some x=>x.get ps|none=>none)=_;rw[h2]
theorem t8{f:Str}{ns:qai}{xs:List S}{x y:S}{ps:List kS}(h1:kT f ns=some i)(h2:xs[i]?=some x):(S.ins C ns xs).put (.fld C f::ps) y=.ins C ns (xs.set i (x.put ps y)):=by rw[S.put,N_,h1];show (match xs[i]? with|some x=>S.ins C ns (xs.set i (x.put ps y))|none=>_)=_;rw[h2]
theorem N'(xs:List S)(x:S):(S.lst (xs++[x])).VY .last=some xs.length:=by show (if 0<(xs++[x]).length then some ((xs++[x]).length-1) else none)=_;rw[if_pos (by simp)];simp
theorem WI{xs:List S}{x:S}{ps:List kS}:(S.lst (xs++[x])).get (.last::ps)=x.get ps:=by rw[S.get,N'];show (match (xs++[x])[xs.length]? with|some x=>x.get ps|none=>none)=_;rw[oI (c3 _),OJ];rfl
theorem WJ{xs:List S}{x y:S}{ps:List kS}:(S.lst (xs++[x])).put (.last::ps) y=.lst (xs++[x.put ps y]):=by rw[S.put,N'];show (match (xs++[x])[xs.length]? with|some z=>S.lst ((xs++[x]).set xs.length (z.put ps y))|none=>S.lst (xs++[x]))=_;rw[oI (c3 _),OJ];show S.lst ((xs++[x]).set xs.length (x.put ps y))=_;rw[List.set_append_right _ _ (c3 _),OJ];rfl
theorem ym(s:S):s.get []=some s:=by cases s<;>rfl
theorem yn(s y:S):s.put [] y=y:=by cases s<;>rfl
theorem Hx:(c7 cM cF L most pk fr ce ct dn pl en).get [.fld cM "frames"]=some (.lst (fr.map (wD cF))):=by unfold c7;rw[t7 (i:=3) rfl rfl,ym]
theorem Hy{fr':List Fr}:(c7 cM cF L most pk fr ce ct dn pl en).put [.fld cM "frames"] (.lst (fr'.map (wD cF)))=c7 cM cF L most pk fr' ce ct dn pl en:=by unfold c7;rw[t8 (i:=3) rfl rfl,yn];rfl
theorem Hz:(c7 cM cF L most pk fr ce ct dn pl en).get [.fld cM "cells"]=some ce:=by unfold c7;rw[t7 (i:=4) rfl rfl,ym]
theorem Rf{Rh:S}:(c7 cM cF L most pk fr ce ct dn pl en).put [.fld cM "cells"] Rh=c7 cM cF L most pk fr Rh ct dn pl en:=by unfold c7;rw[t8 (i:=4) rfl rfl,yn];rfl
theorem HA:(c7 cM cF L most pk fr ce ct dn pl en).get [.fld cM "counts"]=some (.dk ct.ks ct.ts):=by unfold c7;rw[t7 (i:=5) rfl rfl,ym]
theorem Ri{p:Nat}:(c7 cM cF L most pk fr ce ct dn pl en).put [.fld cM "counts"] (.dk (ik ct.ks (.inl (p:Int))) (cC ct.ks ct.ts (.inl (p:Int)) (.int (ct.get p+1))))=c7 cM cF L most pk fr ce (ct.up p) dn pl en:=by unfold c7;rw[t8 (i:=5) rfl rfl,yn,WG];rfl
theorem Ar:(c7 cM cF L most pk fr ce ct dn pl en).get [.fld cM "doings"]=some (.lst (dn.map .lf)):=by unfold c7;rw[t7 (i:=6) rfl rfl,ym]
theorem Rj{t:T}:(c7 cM cF L most pk fr ce ct dn pl en).put [.fld cM "doings"] (.lst (dn.map .lf++[.lf t]))=c7 cM cF L most pk fr ce ct (dn++[t]) pl en:=by unfold c7;rw[t8 (i:=6) rfl rfl,yn,rM];rfl
theorem HB:(c7 cM cF L most pk (fs++[f]) ce ct dn pl en).get [.fld cM "frames",.last,.fld cF "names"]=some (.dk f.ev.ks f.ev.ts):=by unfold c7;rw[t7 (i:=3) rfl rfl,rM];show S.get (.lst (fs.map (wD cF)++[wD cF f])) _=_;rw[WI];unfold wD;rw[t7 (i:=1) rfl rfl,ym]
theorem Rk{v:Vl}:(c7 cM cF L most pk (fs++[f]) ce ct dn pl en).put [.fld cM "frames",.last,.fld cF "names"] (.dk (ik f.ev.ks (.inr x)) (cC f.ev.ks f.ev.ts (.inr x) (vT v)))=c7 cM cF L most pk (fs++[{f with ev:=f.ev.put x v}]) ce ct dn pl en:=by
 unfold c7;rw[rM,t8 (i:=3) (x:=.lst (fs.map (wD cF)++[wD cF f])) rfl rfl,WJ];show S.ins cM mN (List.set _ 3 (.lst (fs.map (wD cF)++[(wD cF f).put _ _])))=_;have e:(wD cF f).put [.fld cF "names"] (.dk (ik f.ev.ks (.inr x)) (cC f.ev.ks f.ev.ts (.inr x) (vT v)))=wD cF {f with ev:=f.ev.put x v}:=by unfold wD;rw[t8 (i:=1) rfl rfl,yn,Ao];rfl
 rw[e,rM];rfl
end
end Rg
namespace VT
open PySem PySem.Spec PyProof.Rows L2
theorem dZ{α:Type}{f u:α->T}{h:FG}{fe:FE}{ρ:En}:∀{xs:List α}{Q:qaj->Prop},(∀x∈xs,∀r:T->Prop,r (u x)->h (f x) ρ λρ2=>fe ρ2 r)->Q (xs.map u)->cc h Di fe ρ (xs.map f) Q
 |[],Q,_,hq=>hq
 |x::xs,Q,step,hq=>by simp only[gR,cc];exact step x dw (λy=>cc h Di fe ρ (xs.map f) λus=>Q (y::us)) (dZ (Q:=λus=>Q (u x::us)) (λy hy=>step y (gG _ hy)) hq)
theorem jI{lo:Int}{u:Nat->T}{h:FG}{Q:qaj->Prop}(step:∀i<n,∀r:T->Prop,r (u i)->h (.int (lo+(i:Int))) ρ λρ2=>fe ρ2 r)(hq:Q ((List.range n).map u)):cc h Di fe ρ (rangeT lo n) Q :=
 dZ (f:=λi:Nat=>T.int (lo+(i:Int))) (u:=u) (λi hi=>step i (Bg.mp hi)) hq
theorem yo{h:FG}{fe:FE}{ρ:En}{Q:qaj->Prop}{Pd:T->Prop}:∀{ts:qaj},(∀t∈ts,∀r:T->Prop,(∀x,Pd x->r x)->h t ρ λρ2=>fe ρ2 r)->(∀us:qaj,us.length=ts.length->(∀x∈us,Pd x)->Q us)->cc h Di fe ρ ts Q
 |[],_,hq=>hq [] rfl (λ_ z=>nomatch z)
 |t::ts,step,hq=>by
  simp only[cc];have:=step t dw (λu=>cc h Di fe ρ ts λus=>Q (u::us)) λx hx=>yo (λt ht=>step t (gG _ ht)) λus hl ha=>hq (x::us) (by simp[hl]) λy hy=>by
   rcases cT.mp hy with z|z
   rw[z];exact hx;exact ha y z
  exact this
theorem yp{α:Type}{f:α->T}{R:α->Prop}:∀us:qaj,(∀t∈us,∃a,t=f a/\R a)->∃as:List α,us=as.map f/\∀a∈as,R a
 |[],_=>⟨[],rfl,λ_ z=>nomatch z⟩
 |t::us,h=>by
  obtain⟨a,rfl,ha⟩:=h t dw;obtain⟨as,rfl,hs⟩:=yp us λt ht=>h t (gG _ ht);exact⟨a::as,rfl,λb hb=>by
   rcases cT.mp hb with z|z
   rw[z];exact ha;exact hs b z⟩
theorem k_{α:Type}{f u:α->T}{p:α->Bool}{h:FG}{fc:FB}{fe:FE}{ρ:En}:∀{xs:List α}{Q:qaj->Prop},(∀x∈xs,∀r s:Prop,(if p x=true then ∀k:T->Prop,(k (u x)->r)->r else s)->True)->(∀x∈xs,∀(k:T->Prop)(s:Prop),(if p x=true then k (u x) else s)->h (f x) ρ λρ2=>fc ρ2 λb=>if b=true then fe ρ2 k else s)->Q ((xs.filter p).map u)->cc h fc fe ρ (xs.map f) Q
 |[],Q,_,_,hq=>hq
 |x::xs,Q,t0,step,hq=>by simp only[gR,cc];refine step x dw _ _ ?_;by_cases hp:p x=true;rw[if_pos hp];rw[TM hp] at hq;exact k_ (Q:=λus=>Q (u x::us)) (λ_ _ _ _ _=>trivial) (λy hy=>step y (gG _ hy)) hq;rw[if_neg hp];rw[YA hp] at hq;exact k_ (λ_ _ _ _ _=>trivial) (λy hy=>step y (gG _ hy)) hq
end VT
namespace VT
open PySem PySem.Spec PyProof.Rows
def ddp{K:Type}[DecidableEq K](l:List K)(v:K):List K:=if v∈l then l else l++[v]
def met{K:Type}[DecidableEq K](val:Nat->K):Nat->List K
 |0=>[]
 |i+1=>ddp (met val i) (val i)
section
variable{R:Result->Shared->Prop}{I:Addr}{wr:qah}{G:Array GenState->Array GenState->Prop}{P:Nat->Value->Prop}{St:Nat->Shared->Prop}
variable{K:Type}[DecidableEq K]{knd:PySem.KeyKind prog w K}
end
end VT
namespace VT
open PySem PySem.Spec PyProof.Rows L2
end VT
namespace Nm
open PySem L2 VT Gen og
noncomputable def top(i:Nat):Stmt:=PySem.Challenge.pw_slicewise_k16_cut_anywhere.main.body.getD i (.Pass ⟨0,0,0,0⟩)
noncomputable abbrev kh:Stmt:=top 6
noncomputable abbrev lg:Stmt:=top 7
structure Mg2(mg:qae):Prop where
 LH:∃t,mg "LETTERS"=some (.str bQ t)
 vq:∃t,mg "LONGEST_NAME"=some (.int 8 t)
 isinstance:mg "isinstance"=none
 str:mg "str"=none
 len:mg "len"=none
 all:mg "all"=none
theorem wC(h:n<=1000):n<=sizeLine:=small h
noncomputable def LI:T->Bool
 |.lst _=>false
 |.dk _ _=>false
 |.dc _ _ _=>false
 |.ins _ _ _=>false
 |.pin _ _=>false
 |.ob _=>false
 |.ty _=>false
 |_=>true
noncomputable def Cb:T->Bool
 |.str x=>dD x
 |_=>false
def kn(ts:qaj)(q:qam):Prop:=∃t,ts=[t]/\LI t=true/\(∀x,t=.str x->x.length<=1000)/\q (.vw (.bl (Cb t)))
def Rl(r:Rt)(A:Prop)(B:Prop):Prop:=match r with
 |.vw (.bl true)=>A
 |.vw (.bl false)=>B
 |_=>False
theorem qG{c:Bool}{A:Prop}(h1:c=true->A)(h2:c=false->B):Rl (.vw (.bl c)) A B:=by
 cases c with
 |true=>exact h1 rfl
 |false=>exact h2 rfl
noncomputable def lh:T->Bool
 |.str x=>pQ x
 |_=>false
def yq(t:T):Prop:=(∃x,t=.str x/\x.length<=100)\/∃i,t=.int i
def z9(ts:qaj)(q:qam):Prop:=∃t,ts=[t]/\yq t/\q (.vw (.bl (lh t)))
def andM(r:Rt)(A:Prop)(B:Prop):Prop:=match r with
 |.vw (.bl true)=>A
 |.vw (.bl false)=>B
 |_=>False
theorem LJ{c:Bool}{A:Prop}(h1:c=true->A)(h2:c=false->B):andM (.vw (.bl c)) A B:=by
 cases c with
 |true=>exact h1 rfl
 |false=>exact h2 rfl
theorem Cc:∀l:qao,eD (l.map ((λt:T=>match t with | .str y=>.bl (Gd y bQ)|_=>.aQ) ∘ λc=>T.str ⟨#[c]⟩))=some (l.map C_)
 |[]=>rfl
 |c::l=>by rw[gR,gR];show (eD _).map _=_;rw[Cc l];rfl
section
abbrev nJ:qai:=qax
theorem qH:az nJ qax (ah kh):=L2.gg
theorem si:(nJ++(["sign"]:qai)).Nodup:=by decide +kernel
theorem LK(D:Df K mg "is_name" kh qax f fd)(M:Mg2 mg):bS P w K mg base "is_name" qax 1 (cW K 1 kn):=by
 refine D.gx (lJ D.F qH rfl λbA A outer s H E Ox hr ts q hG=>?_);have nd:=qH.nd;have np:∀{i:Nat},bN ⟨H,[],Ox⟩ i:=oq;obtain⟨tL,mL⟩:=M.LH;obtain⟨tN,mN⟩:=M.vq;have qI:∀{pos},VP (gh eV P w K mg base nJ "is_name" (ah kh) f bA A outer s H E).pB ⟨H,[],Ox⟩ (.Name "LONGEST_NAME" pos) (fC (.int 8)):=iJ (by rfl) mN (v:=.int 8) ⟨tN,rfl⟩ λ_ _=>bC;refine⟨_,(ai (bt (VW.vc (pW (g_ (fQ (j7 xr (by rfl) M.isinstance (by rfl) M.str NL (aa 0)))) (pV (g_ (Gh wW wW (qas af) (qas (aT aO aP (by rfl) M.len ji (aA (aa 0) aM))) (qas qI))))))
    (aw (aJ (qau pT)))
    aV)
   (aw (aJ (qau (aT (pO rfl) Dn (by rfl) M.all Vr (aA (qas (gT (ts:=["sign"]) rfl (by rfl) (jq (aq 0)) (λ_ _ _ _ _ _=>(bE (i:=1) si rfl (Or.inl rfl) np)) (λ_ _ _ _ _ _=>eC) (λ_ _ _ _ _ _=>(qat (NJ (aa 1) (qas (iJ (by rfl) mL (v:=.str bQ) ⟨tL,rfl⟩ λ_ _=>c_))))))) aM)))))),λ_=>?_⟩
 obtain⟨t,rfl,ht,hx,hq⟩:=hG;cases t with
 |aQ=>exact⟨rfl,hq⟩
 |bl b=>exact⟨rfl,hq⟩
 |int x=>exact⟨rfl,hq⟩
 |tup l=>exact⟨rfl,hq⟩
 |str x=>
   have hl:=hx x rfl;have d9:q (.vw (.bl (decide (1<=(x.length:Int)) && (decide ((x.length:Int)<=8) && x.cps.toList.all C_)))):=hq;refine⟨rfl,wC hl,qG (c:=decide (1<=(x.length:Int))) (λh1=>?_) (λh1=>?_)⟩;rw[h1,T7] at d9;refine xa (λh2=>?_) (λh2=>?_);have Ga:(!decide ((x.length:Int)<=8))=true:=h2;have h3:decide ((x.length:Int)<=8)=false:=by simpa using Ga
   rw[h3,T5] at d9;exact d9;have Ga:¬ (!decide ((x.length:Int)<=8))=true:=h2;have h3:decide ((x.length:Int)<=8)=true:=by simpa using Ga
   rw[h3,T7] at d9;refine⟨rfl,by rw[cV,Na];exact wC hl,tF (λ_=>true) (λt=>match t with | .str y=>.bl (Gd y bQ)|_=>.aQ) (λt ht k r h=>?_) ?_⟩;obtain⟨c,_,rfl⟩:=sS.mp ht;exact⟨_,rfl,h⟩;rw[List.filter_eq_self.mpr (λ_ _=>rfl),Bh];refine⟨x.cps.toList.map C_,Cc x.cps.toList,?_⟩;rw[List.all_map];exact d9;rw[h1,T5] at d9;exact d9
 |_=>cases ht
abbrev As:qai:=qax
theorem oz:az As qax (ah lg):=L2.gg
theorem yr(D:Df K mg "is_field" lg qax f fd)(M:Mg2 mg)(nK:bS P w K mg base "is_name" qax 1 (cW K 1 kn)):bS P w K mg base "is_field" qax 2 (cW K 1 z9):=by
 refine D.gx (lJ D.F oz rfl λbA A outer s H E Ox hr ts q hG=>?_);have nd:=oz.nd;refine⟨_,(aw (aJ (qau (pX (j7 xr (by rfl) M.isinstance (by rfl) M.str NL (aa 0)) (pX (DC (aa 0) (qas aG)) (uH (aH nK hr (ae (qat (fK (aa 0) (fE (qas af)) j6)) ar)))))))),λ_=>?_⟩;obtain⟨t,rfl,ht,hq⟩:=hG;obtain⟨x,rfl,hx⟩|⟨i,rfl⟩:=ht
 refine⟨rfl,?_⟩;have d9:q (.vw (.bl (Txt.startswith x "." && dD (Txt.slice x (some 1) none)))):=hq;refine LJ (c:=Txt.startswith x ".") (λh=>?_) (λh=>?_);rw[h,T7] at d9;refine⟨wC (by omega),rfl,_,rfl,rfl,λy e=>?_,d9⟩;cases e;exact ly (Txt.slice_le x _ _) (by omega);rw[h,T5] at d9;exact d9;exact⟨rfl,hq⟩
end
end Nm
namespace PySem
open Sem (wp)
namespace F
end F
end PySem
namespace VT
open PySem PySem.Spec PyProof.Rows L2
end VT
namespace Tr
open PySem L2 VT Gen og Nm
noncomputable def jJ:Rw->qaj
 |.give a=>[gz a]
 |.kY a=>[gz a]
 |.gm a=>[gz a]
 |.put _ a=>[gz a]
 |.lK _ a _ b=>[gz a,gz b]
 |.get _ r k=>[.str r,tS k]
 |.set r k a=>[.str r,tS k,gz a]
 |.call _ _ as=>as.map gz
 |_=>[]
noncomputable abbrev lj:Stmt:=top 9
noncomputable def WK:List (Str×T):=[("give",.tup [.int 1]),("put",.tup [.int 2]),("do",.tup [.int 2,.int 4]),("get",.tup [.int 2,.int 3]),("set",.tup [.int 1,.int 2,.int 3]),("if",.tup [.int 1]),("while",.tup [.int 1])]
structure MgU(w:World)(K:qaf)(mg:qae):Prop where
 list:mg "list"=none
 US:∃a,mg "USED_PLACES"=some (.ref a)/\qr w K a WK
noncomputable def Cd:Rw->qaj
 |.call _ _ as=>as.map gz
 |r=>(jJ r).filter λt=>!lh t
def Cf(ts:qaj)(q:qam):Prop:=∃r:Rw,ts=[aW r]/\(∀t∈jJ r,yq t)/\q (.fr (.lst (Cd r)))
section
noncomputable abbrev ll:qai:=["row","parts"]
theorem oA:az ll ["row"] (ah lj):=L2.gg
theorem qJ:(ll++(["place"]:qai)).Nodup:=by decide +kernel
theorem qK:(ll++(["part"]:qai)).Nodup:=by decide +kernel
theorem yt(D:Df K mg "operands" lj ["row"] f fd)(M:MgU w K mg)(lp:bS P w K mg base "is_field" qax 2 (cW K 1 z9)):bS P w K mg base "operands" ["row"] 3 (cW K 1 Cf):=by
 refine D.gx (lJ D.F oA rfl λbA A outer s H E Ox hr ts q hG=>?_);have nd:=oA.nd;have hu:=bz.fU hr;have np:∀{i:Nat},bN ⟨H,[],Ox⟩ i:=oq;obtain⟨aU,sj,qM⟩:=M.US;refine⟨_,(ai (bt (bJ hu (qas (aC (aa 0) (qas af))) (qas aG))
    (aw (aJ (qau (dA dy fm (by rfl) M.list kR (aA (qas (aC (aa 0) (qas af))) aM)))))
    aV)
   (ai (o7 (i:=1) (ts:=["place"]) nd rfl (Or.inl rfl) rfl (by rfl) (jq (qat (Gz (by rfl) sj qM (qas (aC (aa 0) (qas af))) (qat (br ar)) ⟨rfl,rfl,rfl,rfl⟩))) (λ_ _ _ _ _ _=>(bE (i:=2) qJ rfl (Or.inl rfl) np)) (λ_ _ _ _ _ _=>eC) (λ_ _ _ _ _ _=>(qat (aC (aa 0) (aa 2)))) np)
   (aw (aJ (qau (gT (ts:=["part"]) rfl (by rfl) (jq (aq 1)) (λ_ _ _ _ _ _=>(bE (i:=2) qK rfl (Or.inl rfl) np)) (λ_ _ _ _ _ _=>(BE (g_ (fQ (aH lp hr (ae (aq 2) ar)))))) (λ_ _ _ _ _ _=>(aq 2)))))))),λ_=>?_⟩
 obtain⟨r,rfl,hl,hq⟩:=hG;have fin:∀(ps:qaj),(∀t∈ps,yq t)->q (.fr (.lst (ps.filter λt=>!lh t)))->cc (hName 2) (U5 (ni (zZ 1 (dF (jd 2) oQ) z9))) (jd 2) [some (aW r,false),some (.lst ps,false),none] ps λus=>q (.fr (.lst us)):=λps Ts hq=>by refine tF (λt=>!lh t) (λt=>t) (λt ht k r h=>?_) (by rw[List.map_id'];exact hq);refine⟨rfl,t,rfl,Ts t ht,?_⟩;exact h
 cases r with
 |call x f as=>exact⟨_,aj (j:=0) rfl,_,aj (j:=3) rfl,hq⟩
 |give a=>refine⟨_,aj (j:=0) rfl,rfl,_,aj (j:=0) rfl,jj _,?_⟩;show ([T.int 1]:qaj).length<=sizeLine/\cc _ _ _ _ [T.int 1] _;exact⟨Gen.cp rfl,_,aj (j:=1) rfl,rfl,Gen.cp rfl,fin _ hl hq⟩
 |kY a=>refine⟨_,aj (j:=0) rfl,rfl,_,aj (j:=0) rfl,jj _,?_⟩;show ([T.int 1]:qaj).length<=sizeLine/\cc _ _ _ _ [T.int 1] _;exact⟨Gen.cp rfl,_,aj (j:=1) rfl,rfl,Gen.cp rfl,fin _ hl hq⟩
 |gm a=>refine⟨_,aj (j:=0) rfl,rfl,_,aj (j:=0) rfl,jj _,?_⟩;show ([T.int 1]:qaj).length<=sizeLine/\cc _ _ _ _ [T.int 1] _;exact⟨Gen.cp rfl,_,aj (j:=1) rfl,rfl,Gen.cp rfl,fin _ hl hq⟩
 |put x a=>refine⟨_,aj (j:=0) rfl,rfl,_,aj (j:=0) rfl,jj _,?_⟩;show ([T.int 2]:qaj).length<=sizeLine/\cc _ _ _ _ [T.int 2] _;exact⟨Gen.cp rfl,_,aj (j:=2) rfl,rfl,Gen.cp rfl,fin _ hl hq⟩
 |lK x a op b=>refine⟨_,aj (j:=0) rfl,rfl,_,aj (j:=0) rfl,jj _,?_⟩;show ([T.int 2,T.int 4]:qaj).length<=sizeLine/\cc _ _ _ _ [T.int 2,T.int 4] _;exact⟨Gen.cp rfl,_,aj (j:=2) rfl,_,aj (j:=4) rfl,rfl,Gen.cp rfl,fin _ hl hq⟩
 |get x y k=>refine⟨_,aj (j:=0) rfl,rfl,_,aj (j:=0) rfl,jj _,?_⟩;show ([T.int 2,T.int 3]:qaj).length<=sizeLine/\cc _ _ _ _ [T.int 2,T.int 3] _;exact⟨Gen.cp rfl,_,aj (j:=2) rfl,_,aj (j:=3) rfl,rfl,Gen.cp rfl,fin _ hl hq⟩
 |set y k a=>refine⟨_,aj (j:=0) rfl,rfl,_,aj (j:=0) rfl,jj _,?_⟩;show ([T.int 1,T.int 2,T.int 3]:qaj).length<=sizeLine/\cc _ _ _ _ [T.int 1,T.int 2,T.int 3] _;exact⟨Gen.cp rfl,_,aj (j:=1) rfl,_,aj (j:=2) rfl,_,aj (j:=3) rfl,rfl,Gen.cp rfl,fin _ hl hq⟩
 |_=>refine⟨_,aj (j:=0) rfl,rfl,_,aj (j:=0) rfl,jj _,?_⟩;show ([]:qaj).length<=sizeLine/\cc _ _ _ _ [] _;exact⟨jj _,rfl,jj _,fin _ hl hq⟩
end
end Tr
namespace Lay
open PySem L2 VT Gen K5
noncomputable def top(i:Nat):Stmt:=PySem.Challenge.pw_slicewise_k16_cut_anywhere.main.body.getD i (.Pass ⟨0,0,0,0⟩)
noncomputable abbrev iP:Stmt:=top 13
structure MgF(mg:qae):Prop where
 enumerate:mg "enumerate"=none
def HC(ts:qaj)(q:qam):Prop:=∃rs:qal,ts=[.lst (rs.map aW)]/\rs.length<=100/\q (.fr (Tp (bc rs rs.length)))
section
noncomputable abbrev vt:qai:=["program","firsts","place","row"]
theorem ku:az vt qay (ah iP):=L2.gg
theorem so(D:Df K mg "first_defs" iP qay f fd)(M:MgF mg):bS P w K mg base "first_defs" qay 1 (cW K 1 HC):=by
 refine D.gx (lJ D.F ku rfl λbA A outer s H E Ox hr ts q hG=>?_);have nd:=ku.nd;have hu:=bz.fU hr;have np:∀{i:Nat},bN ⟨H,[],Ox⟩ i:=oq;refine⟨_,(ai (gu (i:=1) nd rfl (Or.inl rfl) (qau BR) np)
  (ai (kN JC rfl (uS (by rfl) M.enumerate (aq 0)) (qa (n:=2) rfl (dO (bE (i:=2) nd rfl (Or.inl rfl) np) (dO (bE (i:=3) nd rfl (Or.inl rfl) np) ma)))
   (aw (bt (bJ hu (qas (aC (aa 3) (qas af))) (qas aG))
    (aw (cm (K1 1 (qat (aC (aa 3) (qas af))) (aq 2))))
    aV)))
  (aw (aJ (uJ 1 np))))),λ_=>?_⟩
 obtain⟨rs,rfl,hn,hq⟩:=hG;refine tT (λi ρ=>∃b2 b3,ρ=[some (.lst (rs.map aW),false),some (Tp (bc rs i),true),b2,b3]) ⟨_,_,rfl⟩ ?_ ?_;rintro i r ρ hr ⟨b2,b3,rfl⟩;have hi:=(dS.mp hr).1;have hlen:((bc rs i).map λp=>T.int (p.2:Int)).length<16777216:=by rw[cV];have:=qB rs i;omega
 have es:bc rs (i+1)=Jv (bc rs i) i r:=by simp only[bc,hr]
 cases r with
 |df g ps=>
  refine⟨rfl,rfl,_,aj (j:=0) rfl,?_⟩;refine⟨_,aj (j:=1) rfl,hlen,?_⟩;rw[es];simp only[Jv];rw[Hm];cases ha:wA (bc rs i) g with
  |some j=>exact⟨_,_,rfl⟩
  |none=>
   show ∃b2 b3,_=[_,some (Tp (bc rs i++[(g,i)]),true),b2,b3];have ef:Tp (bc rs i++[(g,i)])=.dk (((bc rs i).map λp=>(Sum.inr p.1:Key))++[Sum.inr g]) (((bc rs i).map λp=>T.int (p.2:Int))++[T.int (i:Int)]):=by simp only[Tp,rM,gR,JF]
   rw[ef];exact⟨_,_,rfl⟩
 |_=>refine⟨rfl,rfl,_,aj (j:=0) rfl,?_⟩;rw[es];exact⟨_,_,rfl⟩
 rintro ρ ⟨b2,b3,rfl⟩;exact hq
end
end Lay
namespace WL
open PySem L2 VT Gen K5
noncomputable def top(i:Nat):Stmt:=PySem.Challenge.pw_slicewise_k16_cut_anywhere.main.body.getD i (.Pass ⟨0,0,0,0⟩)
noncomputable abbrev mE:Stmt:=top 14
structure Mg5(K:qaf)(mg:qae):Prop where
 len:mg "len"=none
 range:mg "range"=none
 enumerate:mg "enumerate"=none
 isinstance:mg "isinstance"=none
 int:mg "int"=none
 bool:mg "bool"=none
 tuple:mg "tuple"=none
 list:mg "list"=none
 zip:mg "zip"=none
 CL:∃a,mg "CLOSERS"=some (.ref a)/\∀H,fg K H a [.str "give",.str "end"]
 OP:∃a,mg "OPENERS"=some (.ref a)/\∀H,fg K H a [.str "def",.str "if",.str "while"]
def HF(ts:qaj)(q:qaj->Prop):Prop:=∃rs:qal,ts=[.lst (rs.map aW)]/\To rs/\rs.length<=100/\q (Hk rs)
theorem jk{l:qaj}{t:T}(h:l.getLast?=some t):jc l (-1)=some t:=by
 have hl:0<l.length:=by cases l<;>simp_all
 rw[wH] at h;unfold jc ux;rw[if_neg (by decide),if_pos (by omega)];have e:(-1+(l.length:Int)).toNat=l.length-1:=by omega
 rw[e];exact h
theorem HG(kd:Nat->Kd):∀k,(st kd k).length<=k
 |0=>c3 _
 |k+1=>by have:=HG kd k;simp only[st];split<;>split<;>simp<;>omega
theorem LL(n:Nat)(t:T):(List.replicate n [t]).flatten=List.replicate n t:=by
 induction n with
 |zero=>rfl
 |succ n ih=>rw[rQ,Je,ih];rfl
noncomputable def HH(rs:qal)(h e l o s:qaj)(k:Nat)(r:Rw):En:=[some (.lst (rs.map aW),false),some (.lst h,true),some (.lst e,true),some (.lst l,true),some (.lst o,true),some (.lst s,true),some (.int (k:Int),false),some (aW r,false)]
noncomputable def vy(rs:qal)(k:Nat):qaj:=(st (bw rs) k).map λ(j:Nat)=>T.int (j:Int)
def WM(rs:qal)(k:Nat)(ρ:En):Prop:=∃b6 b7 h e l o s,ρ=[some (.lst (rs.map aW),false),some (.lst h,true),some (.lst e,true),some (.lst l,true),some (.lst o,true),some (.lst s,true),b6,b7]/\h=tab (mC (bw rs)) rs.length k/\e=je (endsAt (bw rs) rs.length) rs.length k/\l=wB (bw rs) rs.length k/\o=tab (zl (bw rs)) rs.length k/\s=vy rs k
noncomputable def LM(rs:qal)(M:Nat->Rw->qaj->qaj->qaj->qaj->qaj->Prop):FS:=λd ρ=>∃k r h e l o s,rs[k]?=some r/\ρ=HH rs h e l o s k r/\h=tab (mC (bw rs)) rs.length (k+1)/\M k r h e l o s/\∀ρ',WM rs (k+1) ρ'->d.nx ρ'
def M1(rs:qal)(k:Nat)(r:Rw)(h e l o s:qaj):Prop:=e=je (endsAt (bw rs) rs.length) rs.length k/\l=wB (bw rs) rs.length k/\s=vy rs k/\o.length=rs.length/\((a9 r).df=true->o.set k (.int (k:Int))=tab (zl (bw rs)) rs.length (k+1))/\((a9 r).df=false->o=tab (zl (bw rs)) rs.length (k+1))
def M2(rs:qal)(k:Nat)(r:Rw)(h e l o s:qaj):Prop:=e=je (endsAt (bw rs) rs.length) rs.length k/\l=wB (bw rs) rs.length k/\s=vy rs k/\o=tab (zl (bw rs)) rs.length (k+1)
def M3(rs:qal)(k:Nat)(r:Rw)(h e l o s:qaj):Prop:=e=je (endsAt (bw rs) rs.length) rs.length k/\l=wB (bw rs) rs.length (k+1)/\s=vy rs k/\o=tab (zl (bw rs)) rs.length (k+1)
def M4(rs:qal)(k:Nat)(r:Rw)(h e l o s:qaj):Prop:=e=je (endsAt (bw rs) rs.length) rs.length (k+1)/\l=wB (bw rs) rs.length (k+1)/\o=tab (zl (bw rs)) rs.length (k+1)/\s=(if (a9 r).cl=true then (vy rs k).dropLast else vy rs k)
theorem qN{k:Nat}(h:k<n):ux n (k:Int)=some k:=by unfold ux;rw[if_pos (by omega),if_pos (by omega),wy]
theorem vz{k:Nat}(h:st (bw rs) k≠[]):∃j,(st (bw rs) k).getLast?=some j/\jc (vy rs k) (-1)=some (.int (j:Int)):=by obtain⟨j,hj⟩:∃j,(st (bw rs) k).getLast?=some j:=⟨_,List.getLast?_eq_some_getLast h⟩;exact⟨j,hj,jk (by unfold vy;rw[List.getLast?_map,hj];rfl)⟩
section
noncomputable abbrev vA:qai:=["program","heads","ends","elses","homes","opened","place","row"]
theorem yu:az vA qay (ah mE):=L2.gg
theorem HI(D:Df K mg "shape" mE qay f fd)(M:Mg5 K mg):bS P w K mg base "shape" qay 1 (VJ K 1 HF):=by
 refine D.gx (fnD D.F yu rfl (by decide) λbA A outer s H E Ox hr ts q hG=>?_);have nd:=yu.nd;have hu:=bz.fU hr;have np:∀{i:Nat},bN ⟨H,[],Ox⟩ i:=oq;obtain⟨ac,mc,hac⟩:=M.CL;obtain⟨ao,mo,hao⟩:=M.OP;have D8:∀{pos},VP (gh eV P w K mg base vA "shape" (ah mE) f bA A outer s H E).pB ⟨H,[],Ox⟩ (.Name "CLOSERS" pos) (fC (.tup [.str "give",.str "end"])):=iJ (by rfl) mc (v:=.ref ac) rfl λH A=>cv (hac H) (aB.cons c_ (aB.cons c_ aB.nil));have D9:∀{pos},VP (gh eV P w K mg base vA "shape" (ah mE) f bA A outer s H E).pB ⟨H,[],Ox⟩ (.Name "OPENERS" pos) (fC (.tup [.str "def",.str "if",.str "while"])):=iJ (by rfl) mo (v:=.ref ao) rfl λH A=>cv (hao H) (aB.cons c_ (aB.cons c_ (aB.cons c_ aB.nil)));obtain⟨rs,rfl,W,hn,hq⟩:=hG;refine⟨_,(il (gu (i:=1) nd rfl (Or.inl rfl) (qau (kQ (cY (ae (qat dh) ar)) (qas (aT aO aP (by rfl) M.len ji (aA (aa 0) aM))))) np)
  (il (gu (i:=2) nd rfl (Or.inl rfl) (qau (kQ (cY (ae (qat dh) ar)) (qas (aT aO aP (by rfl) M.len ji (aA (aa 0) aM))))) np)
  (il (gu (i:=3) nd rfl (Or.inl rfl) (qau (kQ (cY (ae (qat dh) ar)) (qas (aT aO aP (by rfl) M.len ji (aA (aa 0) aM))))) np)
  (il (gu (i:=4) nd rfl (Or.inl rfl) (qau (kQ (cY (ae (qat dh) ar)) (qas (aT aO aP (by rfl) M.len ji (aA (aa 0) aM))))) np)
  (il (gu (i:=5) nd rfl (Or.inl rfl) (qau (cY ar)) np)
  (il (kN JC rfl (uS (by rfl) M.enumerate (aq 0)) (qa (n:=2) rfl (dO (bE (i:=6) nd rfl (Or.inl rfl) np) (dO (bE (i:=7) nd rfl (Or.inl rfl) np) ma)))
   (ai (bt (FV (qas (aT aO aP (by rfl) M.len ji (aA (aa 5) aM))) (qas af))
    (ai (kM 1 (qat (aC (aa 5) (qas (kJ (qas af))))) (aa 6))
    (aw (kM 4 (qat (aC (aa 5) (qas af))) (aa 6))))
    aV)
   (lF.weak (u:=(LM rs (M1 rs))) (ai (bt (bJ hu (qas (aC (aa 7) (qas af))) (qas aG))
    (aw (kM 4 (aq 6) (aa 6)))
    aV)
   (lF.weak (u:=(LM rs (M2 rs))) (ai (bt (bJ hu (qas (aC (aa 7) (qas af))) (qas aG))
    (aw (kM 3 (aq 6) (qas (aC (aa 5) (qas (kJ (qas af)))))))
    aV)
   (lF.weak (u:=(LM rs (M3 rs))) (ai (bt (tI (qas (aC (aa 7) (qas af))) (qas D8))
    (ai (kM 2 (aq 6) (qas (aC (aa 5) (qas (kJ (qas af))))))
    (aw (cm (zX 5 Xx Xy uE uI))))
    aV)
   (lF.weak (u:=(LM rs (M4 rs))) (aw (bt (tI (qas (aC (aa 7) (qas af))) (qas D9))
    (aw (cm (i7 5 Bd Be bO bX (ae (aq 6) ar))))
    aV)) ?w4)) ?w3)) ?w2)) ?w1)))
  (K3 (is:=[1,2,3,4]) rfl ⟨_,_,1,_,rfl,rfl,rfl,Or.inl rfl,by decide,by decide,rfl,⟨_,_,2,_,rfl,rfl,rfl,Or.inl rfl,by decide,by decide,rfl,⟨_,_,3,_,rfl,rfl,rfl,Or.inl rfl,by decide,by decide,rfl,⟨_,_,4,_,rfl,rfl,rfl,Or.inl rfl,by decide,by decide,rfl,rfl⟩⟩⟩⟩ (by decide) (by decide)))))))),λ_=>?main⟩
 case w4=>
  rintro d ρ ⟨k,r,h,e,l,o,s,cU,rfl,rfl,⟨rfl,rfl,rfl,rfl⟩,fin⟩;have Ac:k<rs.length:=(dS.mp cU).1;have oy:=fA cU;obtain⟨rl,er⟩:=iq r;unfold HH;rw[er];refine⟨_,aj (j:=0) rfl,rfl,rfl,?_⟩;refine xa (λh1=>?_) (λh1=>?_);have ho:(a9 r).op=true:=by rw[<- Wx];exact h1
  have hc:(a9 r).cl=false:=by have:=W.ex k Ac (by rw[oy];exact ho);rw[oy] at this;exact this
  rw[hc,if_neg iD];refine⟨?_,fin _ ⟨_,_,_,_,_,_,_,rfl,rfl,rfl,rfl,rfl,?_⟩⟩;have:=HG (bw rs) k;unfold vy;rw[cV,sizeLine_eq];omega;unfold vy;rw[mw (by rw[oy];exact ho) (by rw[oy];exact hc),rM];rfl;have ho:(a9 r).op=false:=by
   cases q:(a9 r).op with
   |false=>rfl
   |true=>exact (h1 ((Wx r).trans q)).elim
  refine fin _ ⟨_,_,_,_,_,_,_,rfl,rfl,rfl,rfl,rfl,?_⟩;unfold vy;by_cases hc:(a9 r).cl=true;rw[if_pos hc,mx (by rw[oy];exact hc) (by rw[oy];exact ho),List.map_dropLast];rw[if_neg hc,qA (by rw[oy];cases q:(a9 r).cl<;>simp_all) (by rw[oy];exact ho)]
 case w3=>
  rintro d ρ ⟨k,r,h,e,l,o,s,cU,rfl,rfl,⟨rfl,rfl,rfl,rfl⟩,fin⟩;have Ac:k<rs.length:=(dS.mp cU).1;have oy:=fA cU;obtain⟨rl,er⟩:=iq r;unfold HH;rw[er];refine⟨_,aj (j:=0) rfl,rfl,rfl,?_⟩;refine xa (λh1=>?_) (λh1=>?_);have hc:(a9 r).cl=true:=by rw[<- Ww];exact h1
  have lC:(bw rs k).cl=true:=by rw[oy];exact hc
  obtain⟨j,hj,ej⟩:=vz (W.cl k Ac lC);obtain⟨te,hjk⟩:=Ly W Ac lC hj;refine⟨_,ej,j,by rw[yd];exact qN (by omega),rfl,.int (j:Int),?_,k,r,_,_,_,_,_,cU,by rw[<- er];rfl,rfl,⟨?_,rfl,rfl,by rw[if_pos hc]⟩,fin⟩;unfold vy;rw[cV,gJ,<- wH,hj];rfl;refine Hj te λi hi he=>?_;have:=(vm W Ac he hi).2;rw[hj] at this;exact (Option.some.inj this).symm;have hc:(a9 r).cl=false:=by
   cases q:(a9 r).cl with
   |false=>rfl
   |true=>exact (h1 ((Ww r).trans q)).elim
  refine⟨k,r,_,_,_,_,_,cU,by rw[<- er];rfl,rfl,⟨D2 λi hi he=>?_,rfl,rfl,by rw[hc,if_neg iD]⟩,fin⟩;have:=(vm W Ac he hi).1;rw[oy,hc] at this;cases this
 case w2=>
  rintro d ρ ⟨k,r,h,e,l,o,s,cU,rfl,rfl,⟨rfl,rfl,rfl,rfl⟩,fin⟩;have Ac:k<rs.length:=(dS.mp cU).1;have oy:=fA cU;obtain⟨rl,er⟩:=iq r;unfold HH;rw[er];refine⟨_,aj (j:=0) rfl,?_⟩;refine xa (λh1=>?_) (λh1=>?_);have hc:(a9 r).el=true:=by rw[<- Wv];exact h1
  have lC:(bw rs k).el=true:=by rw[oy];exact hc
  obtain⟨j,hj,ej⟩:=vz (W.el k Ac lC);have Qv:j<k:=(kg k).2 j (List.mem_of_getLast? hj);refine⟨_,ej,j,by rw[pq];exact qN (by omega),k,r,_,_,_,_,_,cU,by rw[<- er];rfl,rfl,⟨rfl,?_,rfl,rfl⟩,fin⟩;simp only[wB,mC,lC,hj];have hc:(a9 r).el=false:=by
   cases q:(a9 r).el with
   |false=>rfl
   |true=>exact (h1 ((Wv r).trans q)).elim
  refine⟨k,r,_,_,_,_,_,cU,by rw[<- er];rfl,rfl,⟨rfl,?_,rfl,rfl⟩,fin⟩;simp only[wB,oy,hc]
 case w1=>
  rintro d ρ ⟨k,r,h,e,l,o,s,cU,rfl,rfl,⟨rfl,rfl,rfl,ol,o1,o2⟩,fin⟩;have Ac:k<rs.length:=(dS.mp cU).1;obtain⟨rl,er⟩:=iq r;unfold HH;rw[er];refine⟨_,aj (j:=0) rfl,?_⟩;refine xa (λh1=>?_) (λh1=>?_);exact⟨k,by rw[ol];exact qN Ac,k,r,_,_,_,_,_,cU,by rw[<- er];rfl,rfl,⟨rfl,rfl,rfl,o1 (by rw[<- Wu];exact h1)⟩,fin⟩;have hc:(a9 r).df=false:=by
   cases q:(a9 r).df with
   |false=>rfl
   |true=>exact (h1 ((Wu r).trans q)).elim
  exact⟨k,r,_,_,_,_,_,cU,by rw[<- er];rfl,rfl,⟨rfl,rfl,rfl,o2 hc⟩,fin⟩
 case main=>
  have hlen:((rs.map aW).length:Int)=(rs.length:Int):=by rw[cV]
  have acM:(List.replicate ((rs.map aW).length:Int).toNat [T.aQ]).flatten=List.replicate rs.length T.aQ:=by rw[hlen,wy];exact LL _ _
  have Yb : -(2 ^ 63)<=((rs.map aW).length:Int):=by omega
  have Tf:((rs.map aW).length:Int)<2 ^ 63:=by omega
  have Yc:[T.aQ].length * ((rs.map aW).length:Int).toNat<=sizeLine:=by rw[hlen,wy,sizeLine_eq];simp;omega
  refine⟨Gen.cp rfl,Yb,Tf,Yc,Gen.cp rfl,Yb,Tf,Yc,Gen.cp rfl,Yb,Tf,Yc,Gen.cp rfl,Yb,Tf,Yc,Gen.cp rfl,?_⟩;show oj (dP (rs.map aW)) _ _ _ [some (.lst (rs.map aW),false),some (.lst (List.replicate ((rs.map aW).length:Int).toNat [T.aQ]).flatten,true),some (.lst (List.replicate ((rs.map aW).length:Int).toNat [T.aQ]).flatten,true),some (.lst (List.replicate ((rs.map aW).length:Int).toNat [T.aQ]).flatten,true),some (.lst (List.replicate ((rs.map aW).length:Int).toNat [T.aQ]).flatten,true),some (.lst [],true),none,none];rw[Hl,acM];refine qo (WM rs)
   ⟨_,_,_,_,_,_,_,rfl,(ye _ _).symm,(D0 _ _).symm,rfl,(ye _ _).symm,rfl⟩ ?_ ?_
  . rintro k ⟨r,k'⟩ ρ hk ⟨b6,b7,_,_,_,_,_,rfl,rfl,rfl,rfl,rfl,rfl⟩;rw[TY] at hk;cases cU:rs[k]? with
    |none=>rw[cU] at hk;cases hk
    |some r'=>
    rw[cU] at hk;simp at hk;obtain⟨rfl,rfl⟩:=hk;have Ac:k<rs.length:=(dS.mp cU).1;obtain⟨rl,er⟩:=iq r';refine⟨rfl,rfl,?_⟩;show Qa _ _ _ [some (.lst (rs.map aW),false),some (.lst (tab (mC (bw rs)) rs.length k),true),some (.lst (je (endsAt (bw rs) rs.length) rs.length k),true),some (.lst (wB (bw rs) rs.length k),true),some (.lst (tab (zl (bw rs)) rs.length k),true),some (.lst (vy rs k),true),some (.int (k:Int),false),some (aW r',false)];rw[er];have oy:=fA cU;refine cO (λh1=>?_) (λh1=>?_);have gK:st (bw rs) k≠[]:=λz=>by have BI:((vy rs k).length:Int) > 0:=h1;unfold vy at BI;rw[z] at BI;simp at BI
    obtain⟨j,hj,ej⟩:=vz gK;obtain⟨j0,hj0⟩:∃j0,(st (bw rs) k).head?=some j0:=⟨_,List.head?_eq_some_head gK⟩;have ej0:jc (vy rs k) 0=some (.int (j0:Int)):=aj (j:=0) (by unfold vy;rw[gJ,<- List.head?_eq_getElem?,hj0];rfl);refine⟨_,ej,k,by rw[mB];exact qN Ac,_,ej0,k,by rw[mB];exact qN Ac,k,r',_,_,_,_,_,cU,by rw[<- er];rfl,?_,⟨rfl,rfl,rfl,by rw[Ji,mB],λhd=>?_,λhd=>?_⟩,λρ' h=>h⟩;have e1:T.int (j:Int)=oT (mC (bw rs) k):=by unfold mC;rw[hj];rfl
    rw[e1];exact pj;rw[List.set_set];have e1:T.int (k:Int)=oT (zl (bw rs) k):=by unfold zl;rw[oy,if_pos hd];rfl
    rw[e1];exact pj;have e1:T.int (j0:Int)=oT (zl (bw rs) k):=by unfold zl;rw[oy,hd,if_neg iD,hj0];rfl
    rw[e1];exact pj;have gK:st (bw rs) k=[]:=by
     cases q:st (bw rs) k with
     |nil=>rfl
     |cons a b=>exfalso;refine h1 ?_;show ((vy rs k).length:Int) > 0;unfold vy;rw[q];simp
    refine⟨k,r',_,_,_,_,_,cU,by rw[<- er];rfl,yf (by unfold mC;rw[gK];rfl),⟨rfl,rfl,rfl,by rw[mB],λhd=>?_,λhd=>?_⟩,λρ' h=>h⟩;have e1:T.int (k:Int)=oT (zl (bw rs) k):=by unfold zl;rw[oy,if_pos hd];rfl
    rw[e1];exact pj;exact yf (by unfold zl;rw[oy,hd,if_neg iD,gK];rfl)
  rintro ρ ⟨b6,b7,_,_,_,_,_,rfl,rfl,rfl,rfl,rfl,rfl⟩;rw[List.length_zipIdx,yg,yg,D3];exact hq;intro j m hj he;unfold endsAt at he;split at he
  rename_i ho
  obtain⟨e,h1,h2,h3,_⟩:=end_is W hj ho;rw[h1] at he;cases he;exact h3;cases he
end
end WL
namespace Lay
open PySem L2 VT Gen K5
noncomputable abbrev jK:Stmt:=inClass (top 16) 0
structure WN(mg:qae):Prop where
 len:mg "len"=none
 min:mg "min"=none
structure LN(K:qaf)(C:Addr):Prop where
 cl:zC K C
 c4:bp K C "program"
 Cg:bp K C "heads"
 nL:bp K C "ends"
 vB:bp K C "elses"
 LO:bp K C "homes"
 vC:bp K C "defs"
 HJ:bp K C "main"
def mF(C:Addr)(ts:qaj)(q:T->Prop):Prop:=∃rs:qal,ts=[.lst (rs.map aW)]/\To rs/\rs.length<=100/\q (bY C rs)
section
variable{cLayout:Addr}
noncomputable abbrev HK:qai:=["self","program","parts"]
theorem t9:az HK qaz (ah jK):=L2.gg
theorem D_(D:Dc K mg "Layout" "Layout.__init__" jK qaz cLayout f fd)(M:WN mg)(M1:LN K cLayout)(LP:bS P w K mg base "shape" qay 1 (VJ K 1 WL.HF))(vD:bS P w K mg base "first_defs" qay 1 (cW K 1 HC)):GA P w K mg base "Layout" cLayout qaz 2 1 (mF cLayout):=by
 obtain⟨Yd,WO,LQ,LR,LS,LU⟩:=LP;refine D.gx (fnI D.F t9 rfl λbA A outer s H E as Ox hr us q hl hG=>?_);have nd:=t9.nd;have ax:=M1;refine⟨_,(ai (bq (i:=2) nd rfl (Or.inl rfl) (qau (VD.vp (K4 LU (hr.mono (by decide)) (by rfl) LQ LR LS (ae (aq 1) ar)))) (BK (by decide)))
  (ai (iN 0 ax.cl ax.c4 (aq 1))
  (ai (iN 0 ax.cl ax.Cg (qat (aC (aa 2) (qas af))))
  (ai (iN 0 ax.cl ax.nL (qat (aC (aa 2) (qas af))))
  (ai (iN 0 ax.cl ax.vB (qat (aC (aa 2) (qas af))))
  (ai (iN 0 ax.cl ax.LO (qat (aC (aa 2) (qas af))))
  (ai (iN 0 ax.cl ax.vC (qat (aH vD hr (ae (aq 1) ar))))
  (aw (iN 0 ax.cl ax.HJ (qat (i6 (FV (qas (aT Dx z7 (by rfl) M.len ji (aA (qas (a4 ax.cl ax.vC (aa 0))) aM))) (qas af)) (z_ rfl (by rfl) M.min (qas (a4 ax.cl ax.vC (aa 0)))) dh))))))))))),?_⟩
 obtain⟨rs,rfl,W,hn,hq⟩:=hG;refine⟨rfl,rs,rfl,W,hn,?_⟩;rw[Ho];refine⟨rfl,by show 0<1000;decide,?_⟩;refine⟨rfl,_,aj (j:=0) rfl,by show 1<1000;decide,?_⟩;refine⟨rfl,_,aj (j:=1) rfl,by show 2<1000;decide,?_⟩;refine⟨rfl,_,aj (j:=2) rfl,by show 3<1000;decide,?_⟩;refine⟨rfl,_,aj (j:=3) rfl,by show 4<1000;decide,?_⟩;refine⟨rfl,rfl,rs,rfl,hn,by show 5<1000;decide,?_⟩;refine⟨rfl,?_⟩;refine⟨rfl,_,rfl,?_⟩;refine cO (λh=>?_) (λh=>?_);refine⟨rfl,_,rfl,(bc rs rs.length).map (λp=>(p.2:Int)),?_,?_,λm h1 h2=>?_⟩;rw[Bh];rfl;intro z;rw[List.map_eq_nil_iff] at z;rw[z] at h;exact absurd h (by decide);refine⟨by show 6<1000;decide,?_⟩;have e:=Hn h1 h2;show q [_] _;rw[e];exact hq;refine⟨by show 6<1000;decide,?_⟩;have z:bc rs rs.length=[]:=by
  cases e:bc rs rs.length with
  |nil=>rfl
  |cons a b=>exfalso;apply h;rw[e];simp
 have e:eO rs=none:=by
  cases e:eO rs with
  |none=>rfl
  |some i=>obtain⟨⟨g,ps,hi⟩,hm⟩:=iw e;obtain⟨l,hl⟩:=jE hi hm rs.length (dS.mp hi).1;rw[z] at hl;cases hl
 have e2:T.aQ=oT (eO rs):=by rw[e];rfl
 unfold bY at hq;rw[<- e2] at hq;exact hq
end
end Lay
namespace PySem
namespace SetTable
end SetTable
end PySem
namespace PySem
section
variable{K:Type}[DecidableEq K](knd:KeyKind prog w K)
variable{knd}
variable{s:Shared}
end
end PySem
namespace VT
open PySem PySem.Spec PyProof.Rows
section
variable{R:Result->Shared->Prop}{I:Addr}{wr:qah}{G:Array GenState->Array GenState->Prop}{P:Nat->Value->Prop}{St:Nat->Shared->Prop}
variable{K:Type}[DecidableEq K]{knd:PySem.KeyKind prog w K}
end
section
variable{s:Shared}
variable{K:Type}[DecidableEq K]{knd:PySem.KeyKind prog w K}
end
end VT
namespace PySem
open Sem (wp)
namespace F
end F
section
variable{s:Shared}
variable{o:Obj}{es:Array (Int×Value)}{ep:Nat}{t:SetTable}
end
end PySem
namespace PySem
open Sem (wp)
section
variable{s:Shared}
variable{it:Addr}{o:Obj}{es:Array (Int×Value)}{ep:Nat}{t:SetTable}{slot:Nat}{ord:List (Int×Value)}
end
end PySem
namespace VT
open PySem PyProof.Rows L2
end VT
namespace PySem
open Sem (wp)
section
variable{s:Shared}
variable{o:Obj}{es:Array (Int×Value)}{ep:Nat}{t:SetTable}
end
end PySem
namespace VT
open PySem PySem.Spec PyProof.Rows L2
end VT
namespace Lay
open PySem L2 VT Gen K5
def LV:Rw->Bool
 |.kY _=>false
 |.gm _=>false
 |.mX=>false
 |.fin=>false
 |.give _=>false
 |_=>true
theorem rk(r:Rw):(∃a,r=.kY a)\/(∃a,r=.gm a)\/r=.mX\/r=.fin\/(∃a,r=.give a)\/LV r=true:=by cases r<;>simp[LV]
noncomputable def Rm:qai:=["def","put","do","new","get","set","call","fail","skip"]
theorem Rn(h:LV r=true):wd r∈Rm:=by cases r<;>first|exact Bool.noConfusion (show false=true from h)|simp[Rm,wd]
theorem Ro:∀x∈Rm,x≠"give"/\x≠"if"/\x≠"while"/\x≠"else"/\x≠"end":=by decide +kernel
theorem Rp(h:LV r=true):wd r≠"give"/\wd r≠"if"/\wd r≠"while"/\wd r≠"else"/\wd r≠"end":=Ro _ (Rn h)
theorem HL(hr:rs[j]?=some r)(h:LV r=true):Am rs j=(j:Int)+1:=by unfold Am;rw[hr];cases r<;>first|exact Bool.noConfusion (show false=true from h)|rfl
end Lay
namespace VT
open PySem PySem.Spec PyProof.Rows L2
end VT
namespace Nx
open PySem L2 VT Gen K5 Lay
noncomputable abbrev nM:Stmt:=top 17
noncomputable abbrev qO:Stmt:=top 18
noncomputable abbrev iQ:Stmt:=top 19
theorem Rq(h:wd r="while"):∃a,r=.gm a:=by cases r<;>first|exact⟨_,rfl⟩|exact absurd h (by show ¬ ((_:Str)="while");simp only[wd];decide +kernel)
def Rr(ts:qaj)(q:qam):Prop:=∃k:Int,ts=[.int k]/\q (.vw (.int (k+1)))
def gNo(C:Addr)(ts:qaj)(q:qam):Prop:=∃(rs:qal)(j:Nat)(r:Rw),ts=[bY C rs,.int (j:Int)]/\Bl rs/\rs[j]?=some r/\Hu r=true/\q (.vw (.int (LF rs j)))
def D'(C:Addr)(ts:qaj)(q:qam):Prop:=∃(rs:qal)(j:Nat)(r:Rw),ts=[bY C rs,.int (j:Int)]/\Bl rs/\rs[j]?=some r/\q (.vw (.int (Am rs j)))
section
variable{cLayout:Addr}
abbrev Ea:qai:=["place"]
theorem qP:az Ea ["place"] (ah nM):=L2.gg
theorem Au(D:Df K mg "yes_row" nM ["place"] f fd):bS P w K mg base "yes_row" ["place"] 1 (cW K 1 Rr):=by refine D.gx (lJ D.F qP rfl λbA A outer s H E Ox hr ts q hG=>?_);have nd:=qP.nd;refine⟨_,(aw (aJ (qau (bW (aa 0) (qas af))))),λ_=>?_⟩;obtain⟨k,rfl,hq⟩:=hG;exact hq
noncomputable abbrev HM:qai:=qaA
theorem t_:az HM qaA (ah qO):=L2.gg
theorem Eb(D:Df K mg "no_row" qO qaA f fd)(M:LN K cLayout):bS P w K mg base "no_row" qaA 1 (cW K 2 (gNo cLayout)):=by
 refine D.gx (lJ D.F t_ rfl λbA A outer s H E Ox hr ts q hG=>?_);have nd:=t_.nd;have hu:=bz.fU hr;have ax:=M;refine⟨_,(ai (bt (bJ hu (qas (aC (qas (aC (qas (a4 ax.cl ax.c4 (aa 0))) (aa 1))) (qas af))) (qas aG))
    (aw (aJ (qau (bW (qas (aC (qas (a4 ax.cl ax.nL (aa 0))) (aa 1))) (qas af)))))
    aV)
   (ai (bt (xu (qas (aC (qas (a4 ax.cl ax.vB (aa 0))) (aa 1))) (qas dh))
     (aw (aJ (qau (aC (qas (a4 ax.cl ax.nL (aa 0))) (aa 1)))))
     aV)
   (aw (aJ (qau (bW (qas (aC (qas (a4 ax.cl ax.vB (aa 0))) (aa 1))) (qas af))))))),λ_=>?_⟩
 obtain⟨rs,j,r,rfl,B,cU,hh,hq⟩:=hG;have hj:=(dS.mp cU).1;have he:=B' hj;have hl:=Q5 hj;unfold LF at hq;rw[cU] at hq;cases r with
 |gm a=>obtain⟨e,b⟩:=B.WD cU (.inr rfl);unfold oW at hq;rw[b.en] at hq he;exact⟨rfl,_,rfl,_,jF cU,_,aj (j:=0) rfl,rfl,_,rfl,_,he,hq⟩
 |kY a=>
   obtain⟨e,b⟩:=B.WD cU (.inl rfl);dsimp only at hq;unfold oW at hq;rw[b.en] at hq he;refine⟨rfl,_,rfl,_,jF cU,_,aj (j:=0) rfl,rfl,_,rfl,_,hl,?_⟩;cases hv:Ht rs j with
   |none=>rw[hv] at hq;exact⟨rfl,_,rfl,_,he,hq⟩
   |some x=>rw[hv] at hq hl;exact⟨rfl,_,rfl,_,hl,hq⟩
 |_=>cases hh
noncomputable abbrev vE:qai:=["layout","place","word","head"]
theorem kz:az vE qaA (ah iQ):=L2.gg
theorem sr(D:Df K mg "row_behind" iQ qaA f fd)(M:LN K cLayout):bS P w K mg base "row_behind" qaA 1 (cW K 2 (D' cLayout)):=by
 refine D.gx (lJ D.F kz rfl λbA A outer s H E Ox hr ts q hG=>?_);have nd:=kz.nd;have hu:=bz.fU hr;have np:∀{i:Nat},bN ⟨H,[],Ox⟩ i:=oq;have ax:=M;refine⟨_,(ai (bq (i:=2) nd rfl (Or.inl rfl) (qau (aC (qas (aC (qas (a4 ax.cl ax.c4 (aa 0))) (aa 1))) (qas af))) np)
  (ai (bq (i:=3) nd rfl (Or.inl rfl) (qau (aC (qas (a4 ax.cl ax.Cg (aa 0))) (aa 1))) np)
  (ai (bt (bJ hu (aa 2) (qas aG))
   (aw (aJ (qau (aC (qas (a4 ax.cl ax.nL (aa 0))) (aa 3)))))
   aV)
  (ai (bt (VW.vc (fj (bJ hu (aa 2) (qas aG)) (dU (bJ hu (qas (aC (qas (aC (qas (a4 ax.cl ax.c4 (aa 0))) (aa 3))) (qas af))) (qas aG)))))
   (aw (aJ (qau (VE.vp (aq 3)))))
   aV)
  (aw (aJ (qau (bW (aa 1) (qas af))))))))),λ_=>?_⟩
 obtain⟨rs,j,r,rfl,B,cU,hq⟩:=hG;have hj:=(dS.mp cU).1;have hh:=Q2 hj;unfold Am at hq;rw[cU] at hq;refine⟨rfl,_,rfl,_,jF cU,?_⟩;rcases rk r with⟨a,rfl⟩|⟨a,rfl⟩|rfl|rfl|⟨a,rfl⟩|ho
 exact⟨_,aj (j:=0) rfl,rfl,_,rfl,_,hh,hq⟩;exact⟨_,aj (j:=0) rfl,rfl,_,rfl,_,hh,hq⟩;obtain⟨_,o,a,h1,h2,_⟩:=B.mX cU;have ho:=(dS.mp h2).1;obtain⟨e,b⟩:=B.WD h2 (.inl rfl);have he:=B' ho;unfold oW EX at hq;rw[h1] at hq hh;simp only[XG] at hq;rw[b.en] at hq he;exact⟨_,aj (j:=0) rfl,rfl,_,rfl,_,hh,rfl,_,rfl,_,he,hq⟩;obtain⟨_,o,r2,h1,h2,h3⟩:=B.fin cU;unfold EX at hq;rw[h1] at hq hh;simp only[XG] at hq;rw[h2] at hq;have hra:=jF h2;obtain⟨l2,el2⟩:=kc r2;rw[el2] at hra;refine⟨_,aj (j:=0) rfl,rfl,_,rfl,_,hh,rfl,_,rfl,_,hra,_,aj (j:=0) rfl,cO (λz=>?_) (λz=>?_)⟩;have z':wd r2="while":=z;obtain⟨a,rfl⟩:=Rq z';exact hq;have z':¬ wd r2="while":=z;cases r2<;>first|exact hq|exact absurd rfl z'
 exact⟨_,aj (j:=0) rfl,rfl,_,rfl,_,hh,hq⟩;obtain⟨l,el⟩:=kc r;obtain⟨g1,g2,g3,g4,g5⟩:=Rp ho;have hb:=HL cU ho;unfold Am at hb;rw[cU] at hb;rw[hb] at hq;rw[el];refine⟨_,aj (j:=0) rfl,rfl,_,rfl,_,hh,cO (λz=>absurd z g4) (λ_=>cO (λz=>absurd z g5) (λ_=>eW rfl hq))⟩
end
end Nx
set_option exponentiation.threshold 4000
namespace jC
open PySem L2 VT
noncomputable def top(i:Nat):Stmt:=PySem.Challenge.pw_slicewise_k16_cut_anywhere.main.body.getD i (.Pass ⟨0,0,0,0⟩)
noncomputable abbrev Ci:Stmt:=top 21
noncomputable abbrev jL:Stmt:=top 22
noncomputable abbrev jM:Stmt:=top 23
noncomputable abbrev Av:Stmt:=top 24
noncomputable abbrev vF:Stmt:=top 25
noncomputable abbrev vG:Stmt:=top 26
noncomputable abbrev Aw:Stmt:=top 27
noncomputable abbrev Ax:Stmt:=top 28
noncomputable abbrev Ay:Stmt:=top 29
noncomputable abbrev iR:Stmt:=top 31
structure Mg(w:World)(K:qaf)(mg:qae):Prop where
 H:∃t,mg "H"=some (.int 1000000000000000000000000000000 t)
 Ec:∃a,mg "DIVISIONS"=some (.ref a)/\∀H,fg K H a [.str "over",.str "rest"]
 isinstance:mg "isinstance"=none
 int:mg "int"=none
 bool:mg "bool"=none
 tuple:mg "tuple"=none
 len:mg "len"=none
 range:mg "range"=none
 RK:∃(a:Addr)(fo:DS->Addr),mg "RECKONERS"=some (.ref a)/\(∀o,mg (jD o)=some (.ref (fo o)))/\qr w K a [("plus",.ob (fo .plus)),("minus",.ob (fo .minus)),("times",.ob (fo .times)),("over",.ob (fo .over)),("rest",.ob (fo .rest)),("less",.ob (fo .less))]
def Ed(ts:qaj)(q:qam):Prop:=∃i,ts=[.int i]/\q (.vw (.int (dH i)))
def Ru(ts:qaj)(q:qam):Prop:=∃a:Vl,ts=[vT a]/\q (.vw (.bl (match a with | .num _=>false | .DR _ _=>true)))
def gNm(ts:qaj)(q:qam):Prop:=∃a:Vl,ts=[vT a]/\q (.vw (.int (nm a)))
def LW(o:DS)(ts:qaj)(q:qam):Prop:=∃x y:Int,ts=[.int x,.int y]/\sf x/\sf y/\(Ah o=true->y≠0)/\q (.vw (.int (Lp o x y)))
abbrev Oa:=LW .plus
abbrev HN:=LW .minus
abbrev HP:=LW .times
abbrev Ob:=LW .over
abbrev Oc:=LW .rest
abbrev Od:=LW .less
def HQ(ts:qaj)(q:qam):Prop:=(∃a b,ts=[vT a,.str "same",vT b]/\q (.vw (xY a b)))\/(∃a b o,ts=[vT a,.str (jD o),vT b]/\RI (nm a)/\RI (nm b)/\q (.vw (X' o (nm a) (nm b))))
theorem WQ(a b:Vl):eqT (vT a) (vT b)=decide (a=b):=by cases a<;>cases b<;>simp[vT,eqT,gN]<;>rfl
theorem HR{a b:Vl}{q:qam}(h:q (.vw (.bl (decide (a=b))))):De (vT a) (vT b) q:=by
 have e:=WQ a b;cases a with
 |num i=>cases b with
  |num j=>have:decide (i=j)=decide (Vl.num i=Vl.num j):=decide_eq_decide.mpr (by simp);show q (.vw (.bl (decide (i=j))));rw[this];exact h
  |DR p r=>exact⟨rfl,rfl,by simp[vT,dep],by rw[<- e] at h;exact h⟩
 |DR p r=>exact⟨rfl,by cases b<;>rfl,by simp[vT,dep,fS],by rw[<- e] at h;exact h⟩
theorem LX{a b:Vl}{q:qam}(h:q (.vw (xY a b))):if decide (a=b)=true then q (.vw (.int 1)) else q (.vw (.int 0)):=by unfold xY at h;by_cases e:a=b;rw[if_pos (decide_eq_true e)];rw[if_pos e] at h;exact h;rw[if_neg (by rw[decide_eq_false e];exact iD)];rw[if_neg e] at h;exact h
theorem HS(o:DS):decide (jD o=("same":Str))=false:=by cases o<;>decide +kernel
theorem HU(o:DS):wz (.str (jD o)) [.str "over",.str "rest"]=Ah o:=by cases o<;>first|rfl|decide +kernel
section
abbrev Oe:qai:=qaB
theorem HV:az Oe qaB (ah Ci):=L2.gg
theorem Rv(D:Df K mg "fit" Ci qaB f fd)(M:Mg w K mg):bS P w K mg base "fit" qaB 1 (cW K 1 Ed):=by refine D.gx (lJ D.F HV rfl λbA A outer s H E Ox hr ts q hG=>?_);have nd:=HV.nd;obtain⟨tH,mH⟩:=M.H;have g_H:∀{pos},VP (gh eV P w K mg base Oe "fit" (ah Ci) f bA A outer s H E).pB ⟨H,[],Ox⟩ (.Name "H" pos) (fC (.int 1000000000000000000000000000000)):=iJ (by rfl) mH (v:=.int 1000000000000000000000000000000) ⟨_,rfl⟩ λ_ _=>bC;refine⟨_,(aw (aJ (qau (hJ (qas (bj (qas (bW (aa 0) (qas g_H))) (qas (BL (qas af) (qas g_H))))) (qas g_H))))),λ_=>?_⟩;obtain⟨i,rfl,hq⟩:=hG;exact⟨⟨bg 2,sf.of (by decide +kernel) (by decide +kernel)⟩,(by show (0:Int)<2 * 1000000000000000000000000000000;decide),hq⟩
abbrev yw:qai:=qaC
theorem mG:az yw qaC (ah jL):=L2.gg
theorem vH(D:Df K mg "is_record" jL qaC f fd)(M:Mg w K mg):bS P w K mg base "is_record" qaC 1 (cW K 1 Ru):=by
 refine D.gx (lJ D.F mG rfl λbA A outer s H E Ox hr ts q hG=>?_);have nd:=mG.nd;refine⟨_,(aw (aJ (qau (j7 kP (by rfl) M.isinstance (by rfl) M.tuple j8 (aa 0))))),λ_=>?_⟩;obtain⟨a,rfl,hq⟩:=hG;cases a with
 |num i=>exact⟨rfl,hq⟩
 |DR p r=>exact⟨rfl,hq⟩
abbrev yx:qai:=qaC
theorem mJ:az yx qaC (ah jM):=L2.gg
theorem vI(D:Df K mg "number_of" jM qaC f fd)(M:Mg w K mg)(jN:bS P w K mg base "is_record" qaC 1 (cW K 1 Ru)):bS P w K mg base "number_of" qaC 2 (cW K 1 gNm):=by
 refine D.gx (lJ D.F mJ rfl λbA A outer s H E Ox hr ts q hG=>?_);have nd:=mJ.nd;refine⟨_,(aw (aJ (qau (i6 (fQ (aH jN hr (ae (aq 0) ar))) af (VE.vp (aq 0)))))),λ_=>?_⟩;obtain⟨a,rfl,hq⟩:=hG;refine⟨rfl,a,rfl,?_⟩;cases a with
 |num i=>exact hq
 |DR p r=>exact hq
noncomputable abbrev Rx:qai:=qaD
theorem Cj:az Rx qaD (ah Av):=L2.gg
theorem LY(D:Df K mg "plus" Av qaD f fd)(M:Mg w K mg):bS P w K mg base "plus" qaD 1 (cW K 2 Oa):=by refine D.gx (lJ D.F Cj rfl λbA A outer s H E Ox hr ts q hG=>?_);have nd:=Cj.nd;refine⟨_,(aw (aJ (qau (bW (aa 0) (aa 1))))),λ_=>?_⟩;obtain⟨x,y,rfl,hx,hy,_,hq⟩:=hG;exact hq
abbrev LZ:qai:=qaD
theorem yy:az LZ qaD (ah vF):=L2.gg
theorem HW(D:Df K mg "minus" vF qaD f fd)(M:Mg w K mg):bS P w K mg base "minus" qaD 1 (cW K 2 HN):=by refine D.gx (lJ D.F yy rfl λbA A outer s H E Ox hr ts q hG=>?_);have nd:=yy.nd;refine⟨_,(aw (aJ (qau (hJ (aa 0) (aa 1))))),λ_=>?_⟩;obtain⟨x,y,rfl,hx,hy,_,hq⟩:=hG;exact hq
abbrev L0:qai:=qaD
theorem yz:az L0 qaD (ah vG):=L2.gg
theorem HX(D:Df K mg "times" vG qaD f fd)(M:Mg w K mg):bS P w K mg base "times" qaD 1 (cW K 2 HP):=by refine D.gx (lJ D.F yz rfl λbA A outer s H E Ox hr ts q hG=>?_);have nd:=yz.nd;refine⟨_,(aw (aJ (qau (BL (aa 0) (aa 1))))),λ_=>?_⟩;obtain⟨x,y,rfl,hx,hy,_,hq⟩:=hG;exact⟨⟨hx,hy⟩,hq⟩
abbrev Ry:qai:=qaD
theorem Ck:az Ry qaD (ah Aw):=L2.gg
theorem L4(D:Df K mg "over" Aw qaD f fd)(M:Mg w K mg):bS P w K mg base "over" qaD 1 (cW K 2 Ob):=by refine D.gx (lJ D.F Ck rfl λbA A outer s H E Ox hr ts q hG=>?_);have nd:=Ck.nd;refine⟨_,(aw (aJ (qau (Gs (aa 0) (aa 1))))),λ_=>?_⟩;obtain⟨x,y,rfl,hx,hy,hd,hq⟩:=hG;exact⟨⟨hd rfl,hy⟩,hq⟩
abbrev Rz:qai:=qaD
theorem Cm:az Rz qaD (ah Ax):=L2.gg
theorem L5(D:Df K mg "rest" Ax qaD f fd)(M:Mg w K mg):bS P w K mg base "rest" qaD 1 (cW K 2 Oc):=by refine D.gx (lJ D.F Cm rfl λbA A outer s H E Ox hr ts q hG=>?_);have nd:=Cm.nd;refine⟨_,(aw (aJ (qau (KR (aa 0) (aa 1))))),λ_=>?_⟩;obtain⟨x,y,rfl,hx,hy,hd,hq⟩:=hG;exact⟨hd rfl,hq⟩
abbrev RA:qai:=qaD
theorem Cn:az RA qaD (ah Ay):=L2.gg
theorem L6(D:Df K mg "less" Ay qaD f fd)(M:Mg w K mg):bS P w K mg base "less" qaD 1 (cW K 2 Od):=by refine D.gx (lJ D.F Cn rfl λbA A outer s H E Ox hr ts q hG=>?_);have nd:=Cn.nd;refine⟨_,(aw (aJ (qau (i6 (oi (aa 0) (aa 1)) af af)))),λ_=>?_⟩;obtain⟨x,y,rfl,hx,hy,_,hq⟩:=hG;have d9:q (.vw (.int (if x<y then 1 else 0))):=hq;refine cO (λh=>?_) (λh=>?_);have h':x<y:=h;rw[if_pos h'] at d9;exact d9;have h':¬ x<y:=h;rw[if_neg h'] at d9;exact d9
noncomputable abbrev qQ:qai:=["one","word","other","left","right"]
theorem oB:az qQ qaE (ah iR):=L2.gg
theorem yA(D:Df K mg "reckoned" iR qaE f fd)(M:Mg w K mg)(HY:bS P w K mg base "fit" qaB 1 (cW K 1 Ed))(gX:bS P w K mg base "number_of" qaC 2 (cW K 1 gNm))(RB:bS P w K mg base "plus" qaD 1 (cW K 2 Oa))(L7:bS P w K mg base "minus" qaD 1 (cW K 2 HN))(L8:bS P w K mg base "times" qaD 1 (cW K 2 HP))(RC:bS P w K mg base "over" qaD 1 (cW K 2 Ob))(RD:bS P w K mg base "rest" qaD 1 (cW K 2 Oc))(RE:bS P w K mg base "less" qaD 1 (cW K 2 Od)):bS P w K mg base "reckoned" qaE 3 (cW K 3 HQ):=by
 obtain⟨acN,Ye,RF,RG,RH,RJ⟩:=RB;obtain⟨Yf,WR,L9,L_,L',Ma⟩:=L7;obtain⟨Yg,WS,Mb,Mc,Md,Me⟩:=L8;obtain⟨acO,Yh,RL,RM,RN,RO⟩:=RC;obtain⟨acP,Yi,RP,RQ,RS,RT⟩:=RD;obtain⟨acQ,Yj,RU,RW,RX,RY⟩:=RE;refine D.gx (lJ D.F oB rfl λbA A outer s H E Ox hr ts q hG=>?_);have nd:=oB.nd;have hu:=bz.fU hr;have np:∀{i:Nat},bN ⟨H,[],Ox⟩ i:=oq;obtain⟨aD,mD,hD⟩:=M.Ec;obtain⟨aR,fo,yB,PB,vJ⟩:=M.RK;have yC:∀{pos},VP (gh eV P w K mg base qQ "reckoned" (ah iR) f bA A outer s H E).pB ⟨H,[],Ox⟩ (.Name "DIVISIONS" pos) (fC (.tup [.str "over",.str "rest"])):=iJ (by rfl) mD (v:=.ref aD) rfl λH A=>cv (hD H) (aB.cons c_ (aB.cons c_ aB.nil));have yD:∀f' G,(∃o:DS,f'=fo o/\G=LW o)->PySem.W.keepIn K (.ref f')=true/\∃fd ps,Binds K fd ps []/\cA P w K mg base eV 1 f' fd ps (cW K 2 G):=by
  rintro f' G ⟨o,rfl,rfl⟩;have h:=PB o;cases o with
  |plus=>cases RF.symm.trans h;exact⟨RG,_,_,RH,RJ⟩
  |minus=>cases L9.symm.trans h;exact⟨L_,_,_,L',Ma⟩
  |times=>cases Mb.symm.trans h;exact⟨Mc,_,_,Md,Me⟩
  |over=>cases RL.symm.trans h;exact⟨RM,_,_,RN,RO⟩
  |rest=>cases RP.symm.trans h;exact⟨RQ,_,_,RS,RT⟩
  |less=>cases RU.symm.trans h;exact⟨RW,_,_,RX,RY⟩
 refine⟨_,(ai (bt (bJ hu (aa 1) (qas aG))
    (aw (aJ (qau (i6 (bJ hu (aa 0) (aa 2)) af af))))
    aV)
   (ai (bq (i:=3) nd rfl (Or.inl rfl) (qau (aH gX hr (ae (aq 0) ar))) np)
   (ai (bq (i:=4) nd rfl (Or.inl rfl) (qau (aH gX hr (ae (aq 2) ar))) np)
   (ai (bt (VW.vc (fj (tI (aa 1) (qas yC)) (dU (bJ hu (aa 4) (qas af)))))
     (aw (aJ (qau dh)))
     aV)
   (aw (aJ (qau (aH HY hr (ae (qat (Hb (Ha (by rfl) yB vJ (aa 1)) yD (hr.mono (by decide)) (ae (aq 3) (ae (aq 4) ar)))) ar))))))))),λ_=>?_⟩
 obtain⟨a,b,rfl,hq⟩|⟨a,b,o,rfl,ha,hb,hq⟩:=hG
 show De (vT a) (vT b) (λr=>match r with
  |.vw (.bl c)=>(if c=true then q (.vw (.int 1)) else q (.vw (.int 0)))
  |_=>False)
 exact HR (LX hq);refine eW (c:=decide (jD o=("same":Str))) (HS o) ?_;refine⟨rfl,a,rfl,rfl,b,rfl,rfl,rfl,?_⟩;have d9:q (.vw (if Ah o=true/\nm b=0 then .aQ else .int (dH (Lp o (nm a) (nm b))))):=hq;have go:(Ah o=true->nm b≠0)->q (.vw (.int (dH (Lp o (nm a) (nm b)))))->∃t,z8 [("plus",.ob (fo .plus)),("minus",.ob (fo .minus)),("times",.ob (fo .times)),("over",.ob (fo .over)),("rest",.ob (fo .rest)),("less",.ob (fo .less))] (jD o)=some t/\(match Rt.vw t with
  |.vw (.ob f)=>∃G,(∃o:DS,f=fo o/\G=LW o)/\([T.int (nm a),T.int (nm b)].length=2/\G [T.int (nm a),T.int (nm b)] λr=>([r.t].length=1/\Ed [r.t] q))
  |_=>False):=λhd Tt=>by
  refine⟨.ob (fo o),by cases o<;>rfl,LW o,⟨o,rfl,rfl⟩,rfl,nm a,nm b,rfl,ha.big,hb.big,hd,rfl,_,rfl,Tt⟩
 refine xa (λh=>?_) (λh=>?_);have h':Ah o=true:=by rw[<- HU];exact h
 refine cO (λh2=>?_) (λh2=>?_);have h3:nm b=0:=h2;rw[if_pos ⟨h',h3⟩] at d9;exact d9;have h3:¬ nm b=0:=h2;rw[if_neg (λz=>h3 z.2)] at d9;exact go (λ_=>h3) d9;have h':¬ Ah o=true:=λz=>h (by rw[<- HU] at z;exact z);rw[if_neg (λz=>h' z.1)] at d9;exact go (λz=>(h' z).elim) d9
end
end jC
namespace Rg
open PySem L2 VT Gen K5 Lay
open og (dD)
open Nx (D')
open Nm (kn Cb)
open Tr (Cf Cd jJ)
open jC (Vl vT nm DS jD X' xY HQ Ed dH RI)
noncomputable def top(i:Nat):Stmt:=PySem.Challenge.pw_slicewise_k16_cut_anywhere.main.body.getD i (.Pass ⟨0,0,0,0⟩)
noncomputable abbrev mK:Stmt:=inClass (top 34) 0
noncomputable abbrev iy:Stmt:=inClass (top 35) 0
noncomputable abbrev vK:Stmt:=top 36
noncomputable abbrev lq:Stmt:=top 37
noncomputable abbrev nN:Stmt:=top 38
noncomputable abbrev gB:Stmt:=top 39
noncomputable abbrev hX:Stmt:=top 40
noncomputable abbrev jO:Stmt:=top 41
noncomputable abbrev hY:Stmt:=top 45
noncomputable abbrev iS:Stmt:=top 42
noncomputable abbrev iT:Stmt:=top 43
noncomputable abbrev nP:Stmt:=top 32
noncomputable abbrev h7:Stmt:=top 44
noncomputable abbrev h_:Stmt:=top 46
noncomputable abbrev fZ:Stmt:=top 47
noncomputable abbrev lr:Stmt:=top 49
noncomputable abbrev vL:Stmt:=top 50
noncomputable abbrev gY:Stmt:=top 52
noncomputable abbrev gC:Stmt:=top 51
structure MgR(mg:qae):Prop where
 len:mg "len"=none
 enumerate:mg "enumerate"=none
 tuple:mg "tuple"=none
structure Tu(K:qaf)(C:Addr):Prop where
 cl:zC K C
 HZ:bp K C "call"
 mM:bp K C "names"
structure yE(K:qaf)(C:Addr):Prop where
 cl:zC K C
 eQ:bp K C "layout"
 H_:bp K C "most"
 vM:bp K C "poke"
 jP:bp K C "frames"
 vN:bp K C "cells"
 mO:bp K C "counts"
 jQ:bp K C "doings"
 cH:bp K C "place"
 gZ:bp K C "ended"
def Ia(C:Addr)(ts:qaj)(q:T->Prop):Prop:=∃t1 t2,ts=[t1,t2]/\q (.ins C qaw [t1,t2])
def WT(cM cF:Addr)(ts:qaj)(q:qam):Prop:=∃a L most pk fs f ce ct dn pl en o n,ts=[.pin a (Tq cM cF L most pk (fs++[f]) ce ct dn pl en),gz o]/\qD o/\gA f.ev n/\n<=1000000/\q (.vw (vT (look f.ev o)))
def RdR:Rw->Prop
 |.mX=>False
 |.fin=>False
 |.skip=>False
 |.lK _ _ op _=>op∈reckon
 |.get _ _ k=>Jw k
 |.set _ k _=>Jw k
 |_=>True
noncomputable def ckO:Option (List Key×Key)->T
 |none=>.aQ
 |some c=>EV c
def vO(ts:qaj)(q:qam):Prop:=∃(e:Ev)(r:Str)(k:Ky)(l:List i9),ts=[tS k,.tup ((i9.nm r::(LG k++l)).map λo=>vT (look e o))]/\Jw k/\q (.vw (ckO (cellK e r k)))
def Co(cM cF:Addr)(nh:List Key×Key->Int)(ts:qaj)(q:qam):Prop:=∃a L most pk fr ce ct dn p en e r n,ts=[.pin a (Tq cM cF L most pk fr (Ce.s nh ce) ct dn (.int ((p:Nat):Int)) en),aW r,.tup ((gi r).map λo=>vT (look e o))]/\RdR r/\(∀o∈gi r,qD o)/\gA e n/\q (.vw (oV (t5 e ce ct p r)))
structure Mh(rs:qal)(j:Nat)(r:Rw):Prop where
 B:Bl rs
 at':rs[j]?=some r
 o:LV r=true
def nQ(cM cF cL:Addr)(us:qaj)(s:S)(q:S->T->Prop):Prop:=∃rs r j most pk fr ce ct dn u1 u2 u3,us=[u1,u2,u3]/\s=c7 cM cF (bY cL rs) most pk fr ce ct dn (.int ((j:Nat):Int)) .aQ/\Mh rs j r/\q (c7 cM cF (bY cL rs) most pk fr ce ct dn (.int ((j+1:Nat):Int)) .aQ) .aQ
def Yk:Rw->Str->Prop
 |.put y _,x=>y=x
 |.get y _ _,x=>y=x
 |.lK y _ _ _,x=>y=x
 |.new y,x=>y=x
 |.call y _ _,x=>y=x
 |_,_=>False
def lu(cM cF cL:Addr)(us:qaj)(s:S)(q:S->T->Prop):Prop:=∃rs r j most pk fs f ce ct dn u2 x v,us=[aW r,u2,vT v]/\bR u2=true/\s=c7 cM cF (bY cL rs) most pk (fs++[f]) ce ct dn (.int ((j:Nat):Int)) .aQ/\Mh rs j r/\Yk r x/\f.ev.is.length<=1000000/\q (c7 cM cF (bY cL rs) most pk (fs++[{f with ev:=f.ev.put x v}]) ce ct dn (.int ((j+1:Nat):Int)) .aQ) .aQ
theorem qR{o:i9}(h:qD o):Nm.lh (gz o)=false:=by
 cases o with
 |nm x=>have:=og.rW (og.uF h.1);show (Txt.startswith x "." && _)=false;rw[this];rfl
 |nu i=>rfl
theorem vP{o:i9}(h:qD o):Nm.yq (gz o):=by
 cases o with
 |nm x=>exact .inl ⟨x,rfl,h.2⟩
 |nu i=>exact .inr ⟨i,rfl⟩
theorem Cp(x:Str):(((".":String):Str)++x).length=x.length+1:=by show (((".":String):Str).cps++x.cps).size=_;rw[Array.size_append,show (((".":String):Str).cps).size=1 by decide +kernel,Nat.add_comm];rfl
theorem Mi(o:DS)(a b:Vl):X' o (nm a) (nm b)=oV ((Ap (jD o) a b).map .num):=by
 have e:Ap (jD o) a b=WE (jD o) (nm a) (nm b):=by unfold Ap;rw[if_neg (by cases o<;>decide +kernel)]
 rw[e];generalize nm a=x;generalize nm b=y;unfold X' WE;cases o with
 |less=>show T.int (dH (if x<y then 1 else 0))=T.int (if x<y then 1 else 0);split<;>rfl
 |over=>show (if true=true/\y=0 then T.aQ else _)=oV ((if y=0 then none else some (dH (x.fdiv y))).map .num);by_cases h:y=0;rw[if_pos ⟨rfl,h⟩,if_pos h];rfl;rw[if_neg (λz=>h z.2),if_neg h];rfl
 |rest=>show (if true=true/\y=0 then T.aQ else _)=oV ((if y=0 then none else some (dH (x.fmod y))).map .num);by_cases h:y=0;rw[if_pos ⟨rfl,h⟩,if_pos h];rfl;rw[if_neg (λz=>h z.2),if_neg h];rfl
 |_=>rfl
theorem Mj(a b:Vl):xY a b=oV ((Ap "same" a b).map .num):=rfl
theorem WU{op:Str}(h:op∈reckon):op="same"\/∃o:DS,op=jD o:=by
 unfold reckon at h;simp only[cT,gb,or_false] at h;obtain rfl|rfl|rfl|rfl|rfl|rfl|rfl:=h
 exact .inr ⟨.plus,rfl⟩;exact .inr ⟨.minus,rfl⟩;exact .inr ⟨.times,rfl⟩;exact .inr ⟨.over,rfl⟩;exact .inr ⟨.rest,rfl⟩;exact .inr ⟨.less,rfl⟩;exact .inl rfl
theorem Mh.bh(h:Mh rs j r):Am rs j=((j+1:Nat):Int):=by rw[HL h.at' h.o];push_cast;rfl
section
variable{cLayout cFrame ak:Addr}
noncomputable abbrev Ml:qai:=qaF
theorem yF:az Ml qaF (ah mK):=L2.gg
theorem Ib(D:Dc K mg "Frame" "Frame.__init__" mK qaF cFrame f fd)(M:Tu K cFrame):GA P w K mg base "Frame" cFrame qaF 1 2 (Ia cFrame):=by
 refine D.gx (fnI D.F yF rfl λbA A outer s H E as Ox hr us q hl hG=>?_);have nd:=yF.nd;have bT:=M;refine⟨_,(ai (iN 0 bT.cl bT.HZ (aq 1))
  (aw (iN 0 bT.cl bT.mM (aq 2)))),?_⟩
 obtain⟨t1,t2,rfl,hq⟩:=hG;exact⟨rfl,by show 0<1000;decide,rfl,by show 1<1000;decide,hq⟩
noncomputable abbrev Az:qai:=qaG
theorem oC:az Az qaG (ah lq):=L2.gg
theorem yG(D:Df K mg "value_of" lq qaG f fd)(M:yE K ak)(M1:Tu K cFrame)(nK:bS P w K mg base "is_name" qax 1 (cW K 1 kn)):bS P w K mg base "value_of" qaG 2 (cW K 2 (WT ak cFrame)):=by
 refine D.gx (lJ D.F oC rfl λbA A outer s H E Ox hr ts q hG=>?_);have nd:=oC.nd;have hu:=bz.fU hr;have ag:=M;have bT:=M1;have zk:=qq hu;refine⟨_,(aw (aJ (qau (i6 (fQ (aH nK hr (ae (aq 1) ar))) (z6 zk (qas (a4 bT.cl bT.mM (qas (aC (qas (a4 ag.cl ag.jP (bH (aa 0)))) (qas (kJ (qas af))))))) (aa 1) (qat af) ⟨rfl,rfl,rfl,rfl⟩) (VE.vp (aq 1)))))),λ_=>?_⟩;obtain⟨a,L,most,pk,fs,f0,ce,ct,dn,pl,en,o,n,rfl,ho,he,hn,hq⟩:=hG;cases o with
 |nm x=>
  refine⟨rfl,.str x,rfl,rfl,(λy z=>by cases z;have:=ho.2;omega),?_⟩;refine Dp (c:=Cb (.str x)) ho.1 ?_;have el:jc ((fs++[f0]).map (WH cFrame)) (-1)=some (WH cFrame f0):=by rw[rM];exact L2.jk _ _
  refine⟨rfl,_,rfl,_,el,rfl,_,rfl,?_⟩;show q (.vw ((c5 f0.ev.ks f0.ev.ts (.inr x)).getD (.int 0)));rw[Q8];exact hq
 |nu i=>refine⟨rfl,.int i,rfl,rfl,(λy z=>by cases z),?_⟩;exact hq
noncomputable abbrev Ee:qai:=qaH
theorem qS:az Ee qaH (ah nP):=L2.gg
theorem AA(D:Df K mg "cell_of" nP qaH f fd)(M:MgR mg)(jN:bS P w K mg base "is_record" qaC 1 (cW K 1 jC.Ru))(lp:bS P w K mg base "is_field" qax 2 (cW K 1 Nm.z9))(gX:bS P w K mg base "number_of" qaC 2 (cW K 1 jC.gNm)):bS P w K mg base "cell_of" qaH 3 (cW K 2 vO):=by
 refine D.gx (lJ D.F qS rfl λbA A outer s H E Ox hr ts q hG=>?_);have nd:=qS.nd;refine⟨_,(ai (bt (g_ (fQ (aH jN hr (ae (qat (aC (aa 1) (qas af))) ar))))
    (aw (aJ (qau dh)))
    aV)
   (aw (aJ (qau (br (ae (qat (aC (aa 1) (qas af))) (ae (qat (i6 (fQ (aH lp hr (ae (aq 0) ar))) (VE.vp (aq 0)) (aH gX hr (ae (qat (aC (aa 1) (qas af))) ar)))) ar))))))),λ_=>?_⟩
 obtain⟨e,r,k,l,rfl,hk,hq⟩:=hG;unfold cellK at hq;refine⟨_,aj (j:=0) rfl,rfl,e.get r,rfl,?_⟩;cases hv:e.get r with
 |num i=>rw[hv] at hq;exact hq
 |DR p n=>
   rw[hv] at hq;have hvT:vT (look e (.nm r))=.tup [.int p,.int n]:=by show vT (e.get r)=_;rw[hv];rfl
   cases k with
   |fld x=>
     have hf:Nm.lh (tS (.fld x))=true:=by show og.pQ (((".":String):Str)++x)=true;unfold og.pQ;rw[og.tD,hk.1,Bool.and_true];exact og.pR x
     refine eW (c:=false) rfl ?_;refine⟨_,aj (j:=0) rfl,rfl,_,rfl,.inl ⟨_,rfl,by rw[Cp];have:=hk.2;omega⟩,?_⟩;refine Dp hf ?_;have d9:q (.vw (.tup [vT (look e (.nm r)),tS (.fld x)])):=by rw[hvT];exact hq
     exact⟨Gen.cp rfl,d9⟩
   |op o=>
     have hf:Nm.lh (tS (.op o))=false:=qR hk;refine eW (c:=false) rfl ?_;refine⟨_,aj (j:=0) rfl,rfl,_,rfl,vP hk,?_⟩;refine eW hf ?_;have d9:q (.vw (.tup [vT (look e (.nm r)),.int (nm (look e o))])):=by rw[hvT];exact hq
     exact⟨_,aj (j:=1) rfl,rfl,look e o,rfl,Gen.cp rfl,d9⟩
noncomputable abbrev Ef:qai:=["machine","row","used","word"]
theorem qT:az Ef qaI (ah nN):=L2.gg
theorem AB(D:Df K mg "made_by" nN qaI f fd)(M:yE K ak)(AD:bS P w K mg base "reckoned" qaE 3 (cW K 3 HQ))(nR:bS P w K mg base "cell_of" qaH 3 (cW K 2 vO)):bS P w K mg base "made_by" qaI 4 (cW K 3 (Co ak cFrame (NK.bu P w))):=by
 refine D.gx (lJ D.F qT rfl λbA A outer s H E Ox hr ts q hG=>?_);have nd:=qT.nd;have hu:=bz.fU hr;have np:∀{i:Nat},bN ⟨H,[],Ox⟩ i:=oq;have ag:=M;have zk:=qq hu;have hu3:=N7 hu;refine⟨_,(ai (bq (i:=3) nd rfl (Or.inl rfl) (qau (aC (aa 1) (qas af))) np)
  (ai (bt (bJ hu (aa 3) (qas aG))
   (aw (aJ (qau (aH AD hr (ae (qat (aC (aa 2) (qas af))) (ae (qat (aC (aa 1) (qas af))) (ae (qat (aC (aa 2) (qas af))) ar)))))))
   aV)
  (ai (bt (bJ hu (aa 3) (qas aG))
   (aw (aJ (qau (br (ae (qat (a4 ag.cl ag.cH (bH (aa 0)))) (ae (qat (z6 zk (qas (a4 ag.cl ag.mO (bH (aa 0)))) (qas (a4 ag.cl ag.cH (bH (aa 0)))) (qat af) ⟨rfl,rfl,rfl,rfl⟩)) ar))))))
   aV)
  (ai (bt (bJ hu (aa 3) (qas aG))
   (aw (aJ (qau (QQ hu3 (qas (a4 ag.cl ag.vN (bH (aa 0)))) (qas (aH nR hr (ae (qat (aC (aa 1) (qas af))) (ae (aq 2) ar)))) (qat af) ⟨rfl,rfl,rfl,rfl⟩))))
   aV)
  (ai (bt (tI (aa 3) (qas (br (ae (qat aG) (ae (qat aG) ar)))))
   (aw (aJ (qau (i6 (bJ hu (qas (aC (aa 2) (qas af))) (qas af)) af af))))
   aV)
  (aw (aJ (qau (i6 (tI (aa 3) (qas (br (ae (qat aG) (ae (qat aG) (ae (qat aG) ar)))))) (aC (aa 2) (qas (kJ (qas af)))) dh))))))))),λ_=>?_⟩
 obtain⟨a,L,most,pk,fr,ce,ct,dn,p,en,e,r,n,rfl,hk,oO,he,hq⟩:=hG;have ch:∀v:Vl,q (.vw (.int (if v=.num 0 then 0 else 1)))->(if decide (v=.num 0)=true then q (.vw (.int 0)) else q (.vw (.int 1))):=λv h=>by by_cases e:v=.num 0;rw[if_pos (decide_eq_true e)];rw[if_pos e] at h;exact h;rw[if_neg (by rw[decide_eq_false e];exact iD)];rw[if_neg e] at h;exact h
 cases r with
 |df f' ps=>exact⟨_,aj (j:=0) rfl,Gen.cp rfl,rfl,rfl,Gen.cp rfl,rfl,rfl,hq⟩
 |put x a=>exact⟨_,aj (j:=0) rfl,Gen.cp rfl,rfl,rfl,Gen.cp rfl,rfl,rfl,_,rfl,hq⟩
 |give a=>exact⟨_,aj (j:=0) rfl,Gen.cp rfl,rfl,rfl,Gen.cp rfl,rfl,rfl,_,rfl,hq⟩
 |call x g as=>exact⟨_,aj (j:=0) rfl,Gen.cp rfl,rfl,rfl,Gen.cp rfl,rfl,rfl,hq⟩
 |fail w=>exact⟨_,aj (j:=0) rfl,Gen.cp rfl,rfl,rfl,Gen.cp rfl,rfl,rfl,hq⟩
 |set y k b=>refine⟨_,aj (j:=0) rfl,Gen.cp rfl,rfl,rfl,Gen.cp rfl,rfl,rfl,_,?_,hq⟩;show jc ((i9.nm y::(LG k++[b])).map λo=>vT (look e o)) (-1)=some (vT (look e b));rw[<- Nf,rM];exact L2.jk _ _
 |get x y k=>
  refine⟨_,aj (j:=0) rfl,rfl,_,rfl,rfl,_,aj (j:=3) rfl,rfl,e,y,k,[],by rw[CC];rfl,hk,?_⟩;have d9:q (.vw (vT (ce.at' (cellK e y k)))):=hq;cases hc:cellK e y k with
  |none=>rw[hc] at d9;exact .inl ⟨rfl,d9⟩
  |some c=>rw[hc] at d9;refine .inr ⟨c,rfl,?_⟩;show q (.vw ((jA ce.ks ce.ts c).getD (.int 0)));rw[Rb];exact d9
 |lK x a op b=>
  have h1:=he.look (oO a (by simp[gi]));have h2:=he.look (oO b (by simp[gi]));refine⟨_,aj (j:=0) rfl,_,aj (j:=0) rfl,_,aj (j:=3) rfl,_,aj (j:=1) rfl,rfl,?_⟩;rcases WU hk with rfl|⟨o,rfl⟩
  exact .inl ⟨_,_,rfl,by rw[Mj];exact hq⟩;exact .inr ⟨_,_,o,rfl,h1,h2,by rw[Mi];exact hq⟩
 |new x=>refine⟨_,aj (j:=0) rfl,rfl,_,rfl,rfl,_,rfl,rfl,_,rfl,?_⟩;show [T.int (p:Int),(c5 ct.ks ct.ts (.inl (p:Int))).getD (.int 0)].length<=sizeLine/\q (.vw (.tup [T.int (p:Int),(c5 ct.ks ct.ts (.inl (p:Int))).getD (.int 0)]));rw[Hw];exact⟨Gen.cp rfl,hq⟩
 |kY a=>
  refine⟨_,aj (j:=0) rfl,Gen.cp rfl,rfl,rfl,_,aj (j:=0) rfl,?_⟩;show De (vT (look e a)) (vT (.num 0)) (λr=>match r with
   |.vw (.bl c)=>(if c=true then q (.vw (.int 0)) else q (.vw (.int 1)))
   |_=>False)
  exact jC.HR (ch _ hq)
 |gm a=>
  refine⟨_,aj (j:=0) rfl,Gen.cp rfl,rfl,rfl,_,aj (j:=0) rfl,?_⟩;show De (vT (look e a)) (vT (.num 0)) (λr=>match r with
   |.vw (.bl c)=>(if c=true then q (.vw (.int 0)) else q (.vw (.int 1)))
   |_=>False)
  exact jC.HR (ch _ hq)
 |_=>exact hk.elim
end
end Rg
namespace Rg
open PySem L2 VT Gen K5 Lay
open Nx (D' Rr gNo)
open jC (Vl vT nm dH RI)
theorem rO:∀{ρ:En},(ρ.all λe=>match e with|some (_,true)=>false|_=>true)=true->∀e∈ρ,fN e:=λ{ρ} h e he=>by
 have:=OF.mp h e he
 match e,this with
 |none,_=>trivial
 |some (t,false),_=>cases t<;>trivial
theorem eS{t:T}(h:bR t=true):j' (some (t,false))=some (t,false):=by show (if bR t=true then some (t,false) else none)=_;rw[if_pos h]
theorem RZ(b:Option T):fN (vwO b):=by
 cases b with
 |none=>trivial
 |some t=>cases t<;>trivial
theorem WV{s:S}(h:∀e∈ρ,fN e):∀e∈kU M ρ s,fN e:=λe he=>by
 unfold kU at he;rcases SR he with z|z
 obtain⟨e0,h0,rfl⟩:=sS.mp z;have:=h e0 h0
 match e0,this with
 |none,_=>trivial
 |some (t,true),q=>exact q
 |some (t,false),_=>show fN (if bR t=true then some (t,false) else none);by_cases hi:bR t=true;rw[if_pos hi];cases t<;>trivial;rw[if_neg hi];trivial
 rw[z];trivial
theorem AE{d:NV}{ρ':En}{s s':S}(e:s=s')(hρ:kU M ρ s'=ρ')(h:d.nx ρ' s'):d.nx (kU M ρ s) s:=by rw[e,hρ];exact h
theorem Og{F:En->S->Prop}{ρ':En}{s s':S}(e:s=s')(hρ:kU M ρ s'=ρ')(h:F ρ' s'):F (kU M ρ s) s:=by rw[e,hρ];exact h
theorem Mm{d:NV}{ρ':En}{s s':S}{t:T}(e:s=s')(hρ:kU M ρ s'=ρ')(h:d.nx (ρ'.set j (some (t,false))) s'):d.nx ((kU M ρ s).set j (some (t,false))) s:=by rw[e,hρ];exact h
theorem WW{d:NV}{s s':S}(e:s=s')(h:d.nx (kU M ρ s') s'):d.nx (kU M ρ s) s:=by rw[e];exact h
def R0(cM cF cL:Addr)(us:qaj)(s:S)(q:S->T->Prop):Prop:=∃rs r j most pk fs f ce ct dn u2 x o,us=[aW r,u2,oV o]/\bR u2=true/\s=c7 cM cF (bY cL rs) most pk (fs++[f]) ce ct dn (.int ((j:Nat):Int)) .aQ/\Mh rs j r/\Yk r x/\f.ev.is.length<=1000000 /\
 match o with
 |none=>q (c7 cM cF (bY cL rs) most pk (fs++[f]) ce ct dn (.int ((j:Nat):Int)) qF) .aQ
 |some v=>q (c7 cM cF (bY cL rs) most pk (fs++[{f with ev:=f.ev.put x v}]) ce ct dn (.int ((j+1:Nat):Int)) .aQ) .aQ
def Ic(cM cF cL:Addr)(us:qaj)(s:S)(q:S->T->Prop):Prop:=∃rs r j most pk fs f ce ct dn u2 x v,us=[aW r,u2,vT v]/\bR u2=true/\s=c7 cM cF (bY cL rs) most pk (fs++[f]) ce ct dn (.int ((j:Nat):Int)) .aQ/\Mh rs j r/\Yk r x/\f.ev.is.length<=1000000/\ct.is.length<=1000000/\q (c7 cM cF (bY cL rs) most pk (fs++[{f with ev:=f.ev.put x v}]) ce (ct.up j) dn (.int ((j+1:Nat):Int)) .aQ) .aQ
def AF(cM cF cL:Addr)(us:qaj)(s:S)(q:S->T->Prop):Prop:=∃L most pk fr ce ct dn pl w u2 u3,us=[aW (.fail w),u2,u3]/\s=c7 cM cF L most pk fr ce ct dn pl .aQ/\q (c7 cM cF L most pk fr ce ct dn pl (t4 w)) .aQ
def vQ(cM cF cL:Addr)(us:qaj)(s:S)(q:S->T->Prop):Prop:=∃rs r j most pk fr ce ct dn u1 u2 c,us=[u1,u2,.int c]/\s=c7 cM cF (bY cL rs) most pk fr ce ct dn (.int ((j:Nat):Int)) .aQ/\Bl rs/\rs[j]?=some r/\Hu r=true/\q (c7 cM cF (bY cL rs) most pk fr ce ct dn (.int (if c=1 then (j:Int)+1 else LF rs j)) .aQ) .aQ
def AG(cM cF cL:Addr)(us:qaj)(s:S)(q:S->T->Prop):Prop:=∃rs j f ps gs most pk fr ce ct dn p0 c g,us=[.int ((j:Nat):Int),oT c,g]/\(g=.lst (gs.map vT)\/g=.tup (gs.map vT))/\s=c7 cM cF (bY cL rs) most pk fr ce ct dn p0 .aQ/\rs[j]?=some (.df f ps)/\ps.length<=100/\fr.length<=1000000 /\
 q (c7 cM cF (bY cL rs) most pk (fr++[⟨c,cq ps gs ps.length⟩]) ce ct dn (.int ((j:Nat):Int)) .aQ) .aQ
def AH(cM cF cL:Addr)(us:qaj)(s:S)(q:S->T->Prop):Prop:=∃rs j p x g as f ps gs most pk fr ce ct dn u3,us=[aW (.call x g as),.tup (gs.map vT),u3]/\s=c7 cM cF (bY cL rs) most pk fr ce ct dn (.int ((j:Nat):Int)) .aQ/\wA (bc rs rs.length) g=some p/\rs[p]?=some (.df f ps)/\ps.length<=100/\fr.length<=1000000 /\
 q (c7 cM cF (bY cL rs) most pk (fr++[⟨some j,cq ps gs ps.length⟩]) ce ct dn (.int ((p:Nat):Int)) .aQ) .aQ
def AI(cM cF cL:Addr)(us:qaj)(s:S)(q:S->T->Prop):Prop:=∃rs most pk fs f ce ct dn pl u1 u2 v,us=[u1,u2,vT v]/\bR u2=true/\s=c7 cM cF (bY cL rs) most pk (fs++[f]) ce ct dn pl .aQ /\
 ((f.call=none/\q (c7 cM cF (bY cL rs) most pk fs ce ct dn pl (i_ v)) .aQ)\/∃c gs g r x,f.call=some c/\fs=gs++[g]/\Mh rs c r/\Yk r x/\g.ev.is.length<=1000000/\q (c7 cM cF (bY cL rs) most pk (gs++[{g with ev:=g.ev.put x v}]) ce ct dn (.int ((c+1:Nat):Int)) .aQ) .aQ)
def Ie(cM cF cL:Addr)(nh:List Key×Key->Int)(us:qaj)(s:S)(q:S->T->Prop):Prop:=∃rs x k a j most pk fr ce ct dn e v,us=[aW (.set x k a),.tup ((gi (.set x k a)).map λo=>vT (look e o)),vT v]/\Jw k/\s=c7 cM cF (bY cL rs) most pk fr (Ce.s nh ce) ct dn (.int ((j:Nat):Int)) .aQ/\Mh rs j (.set x k a)/\ce.is.length<=1000000 /\
 q (c7 cM cF (bY cL rs) most pk fr (Ce.s nh (ce.Ra v (cellK e x k))) ct dn (.int ((j+1:Nat):Int)) .aQ) .aQ
theorem Cq(k:Key):bR (QA k)=true:=by cases k<;>rfl
theorem Mn(c:List Key×Key):bR (EV c)=true:=by unfold EV;simp only[bR,dG,Cq,Bool.and_true];exact eJ (f:=QA) Cq c.1
theorem Ig(c:Option Nat):bR (oT c)=true:=by cases c<;>rfl
theorem jF(h:rs[j]?=some r):jc (rs.map aW) (j:Int)=some (aW r):=aj (by rw[gJ,h];rfl)
theorem yH(ps:qai)(gs:List Vl):∀k,(cq ps gs k).is.length<=k
 |0=>c3 _
 |k+1=>by have ih:=yH ps gs k;unfold cq;split;have:=nI (cq ps gs k).ks (cq ps gs k).is (.inr ‹Str›) (gs.getD k (.num 0));exact ly this (by omega);omega
section
variable{cLayout cFrame ak:Addr}
noncomputable abbrev qU:qai:=qaJ
theorem ja:az qU qaJ (ah gB):=L2.gg
theorem oX(D:Df K mg "follow_plain" gB qaJ f fd)(M:yE K ak)(iU:bS P w K mg base "row_behind" qaA 1 (cW K 2 (D' cLayout))):bS P w K mg base "follow_plain" qaJ 2 (i8 K 3 (nQ ak cFrame cLayout)):=by refine D.gx (EW D.F ja rfl (by decide) λbA A outer s H E M0 nE hr us s0 q hG hl=>?_);obtain⟨yI,jR,wF,a0,qV⟩:=M0;have lH:qV=0:=nE;subst lH;have nd:=ja.nd;have ag:=M;refine⟨_,(bM (hW ag.cl ag.cH (λ_=>(qat (aH iU hr (ae (qat (a4 ag.cl ag.eQ (bH (aa 0)))) (ae (qat (a4 ag.cl ag.cH (bH (aa 0)))) ar))))) rfl)),?_⟩;obtain⟨rs,r,j,most,pk,fr,ce,ct,dn,u1,u2,u3,rfl,rfl,h,hq⟩:=hG;rw[gP];refine⟨rfl,_,rfl,rfl,_,rfl,rfl,rs,j,r,rfl,h.B,h.at',rfl,rO rfl,_,_,7,_,rfl,(by show 9<1000;decide),rfl,rfl,?_⟩;rw[h.bh];exact hq
abbrev su:qai:=qaJ
theorem jS:az su qaJ (ah hX):=L2.gg
theorem qW(D:Df K mg "follow_name" hX qaJ f fd)(M:yE K ak)(M1:Tu K cFrame)(du:bS P w K mg base "follow_plain" qaJ 2 (i8 K 3 (nQ ak cFrame cLayout))):bS P w K mg base "follow_name" qaJ 3 (i8 K 3 (lu ak cFrame cLayout)):=by
 refine D.gx (EW D.F jS rfl (by decide) λbA A outer s H E M0 nE hr us s0 q hG hl=>?_);obtain⟨yI,jR,wF,a0,qV⟩:=M0;have lH:qV=0:=nE;subst lH;have nd:=jS.nd;have hu:=bz.fU hr;have zk:=qq hu;have ag:=M;have bT:=M1;refine⟨_,(ck (B1 zk (jy bT.cl bT.mM (K' (jy ag.cl ag.jP (kW)) V0)) (λ_=>(qas (aC (aa 1) (qas af)))) (λ_=>(aq 3)))
  (bM (eG du hr (λ_=>(ae (aq 1) (ae (aq 2) (ae (aq 3) ar)))) rfl))),?_⟩
 obtain⟨rs,r,j,most,pk,fs,f0,ce,ct,dn,u2,x,v,rfl,i2,rfl,h,hx,hn,hq⟩:=hG;have hi:=mq r;obtain⟨y,l,er⟩:∃y l,aW r=.tup (.str y::.str x::l):=by cases r<;>first|exact hx.elim|(cases hx;exact⟨_,_,rfl⟩)
 rw[gP,er];rw[er] at hi;refine⟨⟨_,HB⟩,_,aj (j:=1) rfl,dY v,rO rfl,_,_,HB,(by show (f0.ev.ts).length<_;unfold Ev.ts;rw[cV];omega),?_⟩;refine AE (ρ':=[some (.pin a0 (c7 ak cFrame (bY cLayout rs) most pk (fs++[{f0 with ev:=f0.ev.put x v}]) ce ct dn (.int (j:Int)) .aQ).t,false),some (.tup (.str y::.str x::l),false),some (u2,false),some (vT v,false)]) (Rk (x:=x) (v:=v)) ?_ ?_;show [_,j' (some (.tup (.str y::.str x::l),false)),j' (some (u2,false)),j' (some (vT v,false))]=_;rw[eS hi,eS i2,eS (dY v)];exact⟨rO rfl,rfl,rs,r,j,most,pk,_,ce,ct,dn,_,_,_,rfl,rfl,h,hq⟩
abbrev yJ:qai:=qaJ
theorem mP:az yJ qaJ (ah jO):=L2.gg
theorem vR(D:Df K mg "follow_do" jO qaJ f fd)(M:yE K ak)(cJ:bS P w K mg base "follow_name" qaJ 3 (i8 K 3 (lu ak cFrame cLayout))):bS P w K mg base "follow_do" qaJ 4 (i8 K 3 (R0 ak cFrame cLayout)):=by
 refine D.gx (EW D.F mP rfl (by decide) λbA A outer s H E M0 nE hr us s0 q hG hl=>?_);obtain⟨yI,jR,wF,a0,qV⟩:=M0;have lH:qV=0:=nE;subst lH;have nd:=mP.nd;have ag:=M;refine⟨_,(bM (tO (λ_=>(xu (aa 3) (qas dh)))
  (bM (hW ag.cl ag.gZ (λ_=>(qat (br (ae (qat aG) (ae (qat aG) ar))))) rfl))
  (bM (eG cJ hr (λ_=>(ae (aq 1) (ae (aq 2) (ae (aq 3) ar)))) rfl)))),?_⟩
 obtain⟨rs,r,j,most,pk,fs,f0,ce,ct,dn,u2,x,o,rfl,i2,rfl,h,hx,hn,hq⟩:=hG;cases o with
 |none=>refine⟨Gen.cp rfl,rfl,rO rfl,_,_,8,_,rfl,(by show 9<1000;decide),rfl,rfl,?_⟩;exact hq
 |some v=>
  have hv:qk (vT v)=false:=by cases v<;>rfl
  refine eW (c:=qk (vT v)) hv ?_;exact⟨rO rfl,rfl,rs,r,j,most,pk,fs,f0,ce,ct,dn,u2,x,v,rfl,i2,rfl,h,hx,hn,hq⟩
abbrev vS:qai:=qaJ
theorem kA:az vS qaJ (ah iS):=L2.gg
theorem sy(D:Df K mg "follow_new" iS qaJ f fd)(M:yE K ak)(cJ:bS P w K mg base "follow_name" qaJ 3 (i8 K 3 (lu ak cFrame cLayout))):bS P w K mg base "follow_new" qaJ 4 (i8 K 3 (Ic ak cFrame cLayout)):=by
 refine D.gx (EW D.F kA rfl (by decide) λbA A outer s H E M0 nE hr us s0 q hG hl=>?_);obtain⟨yI,jR,wF,a0,qV⟩:=M0;have lH:qV=0:=nE;subst lH;have nd:=kA.nd;have hu:=bz.fU hr;have zk:=qq hu;have ag:=M;refine⟨_,(ck (B1 zk (jy ag.cl ag.mO (kW)) (λ_=>(qas (a4 ag.cl ag.cH (bH (aa 0))))) (λ_=>(qat (bW (qas (z6 zk (qas (a4 ag.cl ag.mO (bH (aa 0)))) (qas (a4 ag.cl ag.cH (bH (aa 0)))) (qat af) ⟨rfl,rfl,rfl,rfl⟩)) (qas af)))))
  (bM (eG cJ hr (λ_=>(ae (aq 1) (ae (aq 2) (ae (aq 3) ar)))) rfl))),?_⟩
 obtain⟨rs,r,j,most,pk,fs,f0,ce,ct,dn,u2,x,v,rfl,i2,rfl,h,hx,hn,hc,hq⟩:=hG;rw[gP];refine⟨rfl,_,rfl,rfl,_,rfl,?_⟩;dsimp only[xD,fT,fC,Rt.t];rw[Hw];refine⟨⟨_,HA⟩,rfl,_,rfl,rfl,rO rfl,_,_,HA,(by show ct.ts.length<_;unfold Ct.ts;rw[cV];omega),?_⟩;refine Og (F:=B2 ⟨yI,jR,wF,a0,0⟩ 3 (lu ak cFrame cLayout) (dF (jd 1) (dF (jd 2) (dF (jd 3) oQ))) _) (ρ':=[some (.pin a0 (c7 ak cFrame (bY cLayout rs) most pk (fs++[f0]) ce (ct.up j) dn (.int (j:Int)) .aQ).t,false),some (aW r,false),some (u2,false),some (vT v,false)]) (Ri (p:=j)) ?_ ?_;show [_,j' (some (aW r,false)),j' (some (u2,false)),j' (some (vT v,false))]=_;rw[eS (mq r),eS i2,eS (dY v)];exact⟨rO rfl,rfl,rs,r,j,most,pk,fs,f0,_,_,dn,_,x,v,rfl,i2,rfl,h,hx,hn,hq⟩
abbrev sA:qai:=qaJ
theorem jT:az sA qaJ (ah h_):=L2.gg
theorem qX(D:Df K mg "follow_fail" h_ qaJ f fd)(M:yE K ak):bS P w K mg base "follow_fail" qaJ 1 (i8 K 3 (AF ak cFrame cLayout)):=by refine D.gx (EW D.F jT rfl (by decide) λbA A outer s H E M0 nE hr us s0 q hG hl=>?_);obtain⟨yI,jR,wF,a0,qV⟩:=M0;have lH:qV=0:=nE;subst lH;have nd:=jT.nd;have ag:=M;refine⟨_,(bM (hW ag.cl ag.gZ (λ_=>(qat (br (ae (qat aG) (ae (qat (aC (aa 1) (qas af))) ar))))) rfl)),?_⟩;obtain⟨L,most,pk,fr,ce,ct,dn,pl,w',u2,u3,rfl,rfl,hq⟩:=hG;exact⟨_,aj (j:=1) rfl,Gen.cp rfl,rfl,rO rfl,_,_,8,_,rfl,(by show 9<1000;decide),rfl,rfl,hq⟩
noncomputable abbrev oY:qai:=qaJ
theorem iz:az oY qaJ (ah fZ):=L2.gg
theorem nS(D:Df K mg "follow_choice" fZ qaJ f fd)(M:yE K ak)(Eg:bS P w K mg base "yes_row" ["place"] 1 (cW K 1 Rr))(Ih:bS P w K mg base "no_row" qaA 1 (cW K 2 (gNo cLayout))):bS P w K mg base "follow_choice" qaJ 2 (i8 K 3 (vQ ak cFrame cLayout)):=by refine D.gx (EW D.F iz rfl (by decide) λbA A outer s H E M0 nE hr us s0 q hG hl=>?_);obtain⟨yI,jR,wF,a0,qV⟩:=M0;have lH:qV=0:=nE;subst lH;have nd:=iz.nd;have hu:=bz.fU hr;have ag:=M;refine⟨_,(bM (hW ag.cl ag.cH (λ_=>(qat (i6 (bJ hu (aa 3) (qas af)) (aH Eg hr (ae (qat (a4 ag.cl ag.cH (bH (aa 0)))) ar)) (aH Ih hr (ae (qat (a4 ag.cl ag.eQ (bH (aa 0)))) (ae (qat (a4 ag.cl ag.cH (bH (aa 0)))) ar)))))) rfl)),?_⟩;obtain⟨rs,r,j,most,pk,fr,ce,ct,dn,u1,u2,c,rfl,rfl,B,cU,hh,hq⟩:=hG;rw[gP];refine cO (λe=>?_) (λe=>?_);have e':c=1:=e;rw[if_pos e'] at hq;exact⟨rfl,_,rfl,rfl,_,rfl,rfl,rO rfl,_,_,7,_,rfl,(by show 9<1000;decide),rfl,rfl,hq⟩;have e':¬ c=1:=e;rw[if_neg e'] at hq;exact⟨rfl,_,rfl,rfl,_,rfl,rfl,rs,j,r,rfl,B,cU,hh,rfl,rO rfl,_,_,7,_,rfl,(by show 9<1000;decide),rfl,rfl,hq⟩
noncomputable abbrev vU:qai:=["machine","row","used","made","cell"]
theorem kB:az vU qaJ (ah iT):=L2.gg
theorem sC(D:Df K mg "follow_set" iT qaJ f fd)(M:yE K ak)(nR:bS P w K mg base "cell_of" qaH 3 (cW K 2 vO))(du:bS P w K mg base "follow_plain" qaJ 2 (i8 K 3 (nQ ak cFrame cLayout))):bS P w K mg base "follow_set" qaJ 4 (i8 K 3 (Ie ak cFrame cLayout (NK.bu P w))):=by
 refine D.gx (EW D.F kB rfl (by decide) λbA A outer s H E M0 nE hr us s0 q hG hl=>?_);obtain⟨yI,jR,wF,a0,qV⟩:=M0;have lH:qV=0:=nE;subst lH;have nd:=kB.nd;have hu:=bz.fU hr;have ag:=M;have hu3:=N7 hu;refine⟨_,(ck (eF λ_=>(bq (i:=4) nd rfl (Or.inl rfl) (qau (aH nR hr (ae (qat (aC (aa 1) (qas af))) (ae (aq 2) ar)))) oq))
  (ck (tO (λ_=>(xv (aa 4) (qas dh)))
   (bM (Li hu3 (jy ag.cl ag.vN (kW)) (λ_=>(aa 4)) (λ_=>(aq 3))))
   K_)
  (bM (eG du hr (λ_=>(ae (aq 1) (ae (aq 2) (ae (aq 3) ar)))) rfl)))),?_⟩
 obtain⟨rs,x,k,a,j,most,pk,fr,ce,ct,dn,e,v,rfl,hk,rfl,h,hn,hq⟩:=hG;have iu:bR (.tup ((gi (.set x k a)).map λo=>vT (look e o)))=true:=by simp only[bR];exact eJ (f:=λo=>vT (look e o)) (λo=>dY _) _
 have ir:=mq (.set x k a);refine⟨_,aj (j:=2) rfl,rfl,e,x,k,[a],rfl,hk,rfl,?_⟩;cases hc:cellK e x k with
 |none=>rw[hc] at hq;exact⟨rO rfl,rfl,rs,_,j,most,pk,fr,_,ct,dn,_,_,_,rfl,rfl,h,hq⟩
 |some c=>
  rw[hc] at hq;refine⟨⟨_,Hz⟩,c,rfl,dY v,rO rfl,ce.ks,ce.ts,Hz,(by show ce.ts.length<_;unfold Ce.ts;rw[cV];omega),?_⟩;have hp:(c7 ak cFrame (bY cLayout rs) most pk fr (Ce.s (NK.bu P w) ce) ct dn (.int (j:Int)) .aQ).put [.fld ak "cells"] (.dc (NK.bu P w) (qy ce.ks c) (gc ce.ks ce.ts c (vT v)))=c7 ak cFrame (bY cLayout rs) most pk fr (Ce.s (NK.bu P w) (ce.put c v)) ct dn (.int (j:Int)) .aQ:=by rw[Rf,Rc];rfl
  refine Og (F:=B2 ⟨yI,jR,wF,a0,0⟩ 3 (nQ ak cFrame cLayout) (dF (jd 1) (dF (jd 2) (dF (jd 3) oQ))) _) (ρ':=[some (.pin a0 (c7 ak cFrame (bY cLayout rs) most pk fr (Ce.s (NK.bu P w) (ce.put c v)) ct dn (.int (j:Int)) .aQ).t,false),some (aW (.set x k a),false),some (.tup ((gi (.set x k a)).map λo=>vT (look e o)),false),some (vT v,false),some (EV c,false)]) hp ?_ ?_;show [_,j' (some (aW (.set x k a),false)),j' (some (.tup ((gi (.set x k a)).map λo=>vT (look e o)),false)),j' (some (vT v,false)),j' (some (EV c,false))]=_;rw[eS ir,eS iu,eS (dY v),eS (Mn c)];exact⟨rO rfl,rfl,rs,_,j,most,pk,fr,_,ct,dn,_,_,_,rfl,rfl,h,hq⟩
noncomputable abbrev Mo:qai:=["machine","place","call","given","names","at","name"]
theorem yK:az Mo qaK (ah vK):=L2.gg
theorem Ii(D:Df K mg "enter" vK qaK f fd)(M:MgR mg)(M1:yE K ak)(M2:Tu K cFrame)(M3:LN K cLayout)(Mp:GA P w K mg base "Frame" cFrame qaF 1 2 (Ia cFrame)):bS P w K mg base "enter" qaK 3 (i8 K 3 (AG ak cFrame cLayout)):=by
 obtain⟨Yl,WX,Mq,Mr,Ms,Mt⟩:=Mp;refine D.gx (EW D.F yK rfl (by decide) λbA A outer s H E M0 nE hr us s0 q hG hl=>?_);obtain⟨yI,jR,wF,a0,qV⟩:=M0;have lH:qV=0:=nE;subst lH;have nd:=yK.nd;have hu:=bz.fU hr;have zk:=qq hu;have ag:=M1;have bT:=M2;have ax:=M3;refine⟨_,(ck (eF λ_=>(gu (i:=4) nd rfl (Or.inl rfl) (qau BR) oq))
  (ck (eF λ_=>(kN JC rfl (G' (by rfl) M.enumerate (qat (aC (qas (aC (qas (a4 ax.cl ax.c4 (qas (a4 ag.cl ag.eQ (bH (aa 0)))))) (aa 1))) (qas af)))) (qa (n:=2) rfl (dO (bE (i:=5) nd rfl (Or.inl rfl) oq) (dO (bE (i:=6) nd rfl (Or.inl rfl) oq) ma)))
   (aw (KZ 4 zk (qat (i6 (oi (aa 5) (qas (aT aO aP (by rfl) M.len ji (aA (aa 3) aM)))) (aC (aa 3) (aa 5)) af)) (aa 6)))))
  (ck (Ld (i:=2) (n:=4) (jy ag.cl ag.jP (kW)) (QH Mq Mt (λt1 t2 q hq=>⟨t1,t2,rfl,hq⟩) (hr.mono (by decide)) (by rfl) Mr Ms))
  (bM (hW ag.cl ag.cH (λ_=>(aq 1)) rfl))))),?_⟩
 obtain⟨rs,j,f',ps,gs,most,pk,fr,ce,ct,dn,p0,c,g,rfl,hg,rfl,cU,Ts,X6,hq⟩:=hG;rw[gP];refine⟨by rw[gP];rfl,?_⟩;refine⟨rfl,_,rfl,rfl,_,rfl,_,jF cU,_,aj (j:=2) rfl,?_⟩;show oj (dP (ps.map T.str)) _ _ _ [some (.pin a0 (Tq ak cFrame (bY cLayout rs) most pk fr ce ct dn p0 .aQ),false),some (.int (j:Int),false),some (oT c,false),some (g,false),some (.dk [] [],true),none,none];refine tT (f:=T.str) (λi ρ=>∃b5 b6,ρ=[some (.pin a0 (Tq ak cFrame (bY cLayout rs) most pk fr ce ct dn p0 .aQ),false),some (.int (j:Int),false),some (oT c,false),some (g,false),some (.dk (cq ps gs i).ks (cq ps gs i).ts,true),vwO b5,vwO b6]) ⟨none,none,rfl⟩ ?_ ?_
 . rintro i x ρ hx ⟨b5,b6,rfl⟩;have es:cq ps gs (i+1)=(cq ps gs i).put x (gs.getD i (.num 0)):=by simp only[cq,hx]
   have PK:((cq ps gs i).ts).length<16777216:=by have:=yH ps gs i;have:=(dS.mp hx).1;unfold Ev.ts;rw[cV];omega
   rw[es];obtain rfl|rfl:=hg
   all_goals
    refine⟨rfl,rfl,cO (λh=>?_) (λh=>?_)⟩;have h':(i:Int)<((gs.map vT).length:Int):=h;rw[cV] at h';have X_:i<gs.length:=by omega
    have ev:gs.getD i (.num 0)=gs[i]:=by rw[List.getD,kD X_];rfl
    refine⟨vT gs[i],aj (by rw[gJ,kD X_];rfl),PK,?_⟩;rw[ev,<- Ao];exact⟨some (.int (i:Int)),some (.str x),rfl⟩;have h':¬ ((i:Int)<((gs.map vT).length:Int)):=h;rw[cV] at h';have ev:gs.getD i (.num 0)=.num 0:=by rw[List.getD,Jd (by omega)];rfl
    refine⟨PK,?_⟩;rw[ev,<- Ao];exact⟨some (.int (i:Int)),some (.str x),rfl⟩
 rintro ρ ⟨b5,b6,rfl⟩;refine⟨by rw[gP];rfl,?_⟩;refine⟨_,oT c,_,_,Hx,by rw[cV];omega,(λz=>nomatch z),rfl,Ig c,rfl,?_,?_,?_⟩;exact eJ (f:=vT) dY _;intro e he;simp only[cT,gb,or_false] at he;obtain rfl|rfl|rfl|rfl|rfl|rfl|rfl:=he
 trivial;trivial;cases c<;>trivial;obtain rfl|rfl:=hg<;>trivial
 exact eJ (f:=vT) dY _;exact RZ b5;exact RZ b6;have e:S.lst (fr.map (wD cFrame)++[.ins cFrame qaw [.lf (oT c),.dk (cq ps gs ps.length).ks (cq ps gs ps.length).ts]])=.lst ((fr++[Fr.mk c (cq ps gs ps.length)]).map (wD cFrame)):=by rw[rM];rfl
 refine WW (s':=c7 ak cFrame (bY cLayout rs) most pk (fr++[Fr.mk c (cq ps gs ps.length)]) ce ct dn p0 .aQ) (by show S.put _ _ _=_;rw[e];exact Hy) ?_;refine⟨rfl,WV ?_,_,_,7,_,rfl,(by show 9<1000;decide),rfl,rfl,?_⟩;intro e he;simp only[Nc,EZ,cT,gb,or_false] at he;obtain rfl|rfl|rfl|rfl|rfl|rfl|rfl:=he
 trivial;trivial;cases c<;>trivial;obtain rfl|rfl:=hg<;>trivial
 trivial;exact RZ b5;exact RZ b6;exact hq
abbrev sD:qai:=qaJ
theorem jU:az sD qaJ (ah h7):=L2.gg
theorem qY(D:Df K mg "follow_call" h7 qaJ f fd)(M:yE K ak)(M1:LN K cLayout)(vV:bS P w K mg base "enter" qaK 3 (i8 K 3 (AG ak cFrame cLayout))):bS P w K mg base "follow_call" qaJ 4 (i8 K 3 (AH ak cFrame cLayout)):=by
 refine D.gx (EW D.F jU rfl (by decide) λbA A outer s H E M0 nE hr us s0 q hG hl=>?_);obtain⟨yI,jR,wF,a0,qV⟩:=M0;have lH:qV=0:=nE;subst lH;have nd:=jU.nd;have hu:=bz.fU hr;have zk:=qq hu;have ag:=M;have ax:=M1;have zk:=qq hu;refine⟨_,(bM (eG vV hr (λ_=>(ae (qat (Qt zk (qas (a4 ax.cl ax.vC (qas (a4 ag.cl ag.eQ (bH (aa 0)))))) (qas (aC (aa 1) (qas af))))) (ae (qat (a4 ag.cl ag.cH (bH (aa 0)))) (ae (aq 2) ar)))) rfl)),?_⟩;obtain⟨rs,j,p,x,g,as,f',ps,gs,most,pk,fr,ce,ct,dn,u3,rfl,rfl,hp,cU,Ts,X6,hq⟩:=hG;rw[gP];have hd:c5 ((bc rs rs.length).map λp=>(Sum.inr p.1:Key)) ((bc rs rs.length).map λp=>T.int (p.2:Int)) (Sum.inr g)=some (.int (p:Int)):=by rw[Hm,hp];rfl
 refine⟨rO rfl,rfl,_,rfl,rfl,_,rfl,_,aj (j:=2) rfl,_,hd,rfl,_,rfl,rfl,rs,p,f',ps,gs,most,pk,fr,ce,ct,dn,_,some j,_,rfl,.inr rfl,rfl,cU,Ts,X6,hq⟩
noncomputable abbrev sE:qai:=["machine","row","used","made","call"]
theorem jV:az sE qaJ (ah hY):=L2.gg
theorem qZ(D:Df K mg "follow_give" hY qaJ f fd)(M:yE K ak)(M1:Tu K cFrame)(M2:LN K cLayout)(cJ:bS P w K mg base "follow_name" qaJ 3 (i8 K 3 (lu ak cFrame cLayout))):bS P w K mg base "follow_give" qaJ 4 (i8 K 3 (AI ak cFrame cLayout)):=by
 refine D.gx (EW D.F jV rfl (by decide) λbA A outer s H E M0 nE hr us s0 q hG hl=>?_);obtain⟨yI,jR,wF,a0,qV⟩:=M0;have lH:qV=0:=nE;subst lH;have nd:=jV.nd;have ag:=M;have bT:=M1;have ax:=M2;refine⟨_,(ck (Lc (j:=4) nd rfl (Or.inl rfl) bT.cl bT.HZ (jy ag.cl ag.jP (kW)))
  (bM (tO (λ_=>(xu (aa 4) (qas dh)))
   (bM (hW ag.cl ag.gZ (λ_=>(qat (br (ae (qat aG) (ae (aq 3) ar))))) rfl))
   (ck (hW ag.cl ag.cH (λ_=>(aq 4)) rfl)
   (bM (eG cJ hr (λ_=>(ae (qat (aC (qas (a4 ax.cl ax.c4 (qas (a4 ag.cl ag.eQ (bH (aa 0)))))) (aa 4))) (ae (aq 2) (ae (aq 3) ar)))) rfl)))))),?_⟩
 obtain⟨rs,most,pk,fs,f0,ce,ct,dn,pl,u1,u2,v,rfl,i2,rfl,hq⟩:=hG;refine⟨fs.map (wD cFrame),qaw,[.lf (oT f0.call),.dk f0.ev.ks f0.ev.ts],0,oT f0.call,(λz=>nomatch z),(by show S.get _ [.fld ak "frames"]=_;rw[Hx,rM];rfl),rfl,rfl,Ig _,rO rfl,?_⟩;have hρ:kU ⟨yI,jR,wF,a0,0⟩ [some (.pin a0 (c7 ak cFrame (bY cLayout rs) most pk (fs++[f0]) ce ct dn pl .aQ).t,false),some (u1,false),some (u2,false),some (vT v,false),none] (c7 ak cFrame (bY cLayout rs) most pk fs ce ct dn pl .aQ)=[some (.pin a0 (c7 ak cFrame (bY cLayout rs) most pk fs ce ct dn pl .aQ).t,false),j' (some (u1,false)),some (u2,false),some (vT v,false),none]:=by show [_,j' (some (u1,false)),j' (some (u2,false)),j' (some (vT v,false)),j' none]=_;rw[eS i2,eS (dY v)];rfl
 have iu1:∀e,e=j' (some (u1,false))->fN e:=λe he=>by rw[he];show fN (if bR u1=true then some (u1,false) else none);split;cases u1<;>trivial;trivial
 refine Mm (Hy (fr':=fs)) hρ ?_;have iA:∀e∈[some (.pin a0 (c7 ak cFrame (bY cLayout rs) most pk fs ce ct dn pl .aQ).t,false),j' (some (u1,false)),some (u2,false),some (vT v,false),some (oT f0.call,false)],fN e:=λe he=>by
  simp only[cT,gb,or_false] at he;obtain rfl|he|rfl|rfl|rfl:=he
  trivial;exact iu1 e he;cases u2<;>trivial;cases v<;>trivial;cases f0.call<;>trivial
 obtain⟨hc,hq⟩|⟨c,gs,g,r,x,hc,rfl,h,hx,hn,hq⟩:=hq
 rw[hc];exact⟨Gen.cp rfl,(by show bR (.tup [.str "done",vT v])=true;simp only[bR,dG,dY];rfl),by rw[hc] at iA;exact iA,_,_,8,_,rfl,(by show 9<1000;decide),rfl,rfl,hq⟩;rw[hc];refine⟨rfl,by rw[hc] at iA;exact iA,_,_,7,_,rfl,(by show 9<1000;decide),rfl,rfl,?_⟩;refine AE (s':=c7 ak cFrame (bY cLayout rs) most pk (gs++[g]) ce ct dn (.int (c:Int)) .aQ) (ρ':=[some (.pin a0 (c7 ak cFrame (bY cLayout rs) most pk (gs++[g]) ce ct dn (.int (c:Int)) .aQ).t,false),j' (j' (some (u1,false))),some (u2,false),some (vT v,false),some (.int (c:Int),false)]) rfl ?_ ?_;show [_,j' (j' (some (u1,false))),j' (some (u2,false)),j' (some (vT v,false)),j' (some (.int (c:Int),false))]=_;rw[eS i2,eS (dY v),eS (t:=.int (c:Int)) rfl];refine⟨λe he=>?_,?_⟩;simp only[cT,gb,or_false] at he;obtain rfl|he|rfl|rfl|rfl:=he
 trivial;rw[he];show fN (j' (if bR u1=true then some (u1,false) else none));by_cases h1:bR u1=true;rw[if_pos h1,eS h1];cases u1<;>trivial;rw[if_neg h1];trivial;cases u2<;>trivial;cases v<;>trivial;trivial;rw[gP];exact⟨rfl,_,rfl,rfl,_,rfl,_,jF h.at',rfl,rs,r,c,most,pk,gs,g,ce,ct,dn,_,x,v,rfl,i2,rfl,h,hx,hn,hq⟩
end
end Rg
namespace Rg
open PySem L2 VT Gen K5 Lay
open og (dD)
open jC (Vl vT nm dH RI)
def Tv:Rw->Prop
 |.df _ ps=>ps.length<=50/\∀x∈ps,dD x=true/\x.length<=100
 |.put _ a=>qD a
 |.give a=>qD a
 |.kY a=>qD a
 |.gm a=>qD a
 |.lK _ a op b=>qD a/\op∈reckon/\qD b
 |.get _ r k=>qD (.nm r)/\Jw k
 |.set r k a=>qD (.nm r)/\Jw k/\qD a
 |.call _ _ as=>as.length<=50/\∀o∈as,qD o
 |_=>True
structure Wl(rs:qal):Prop where
 B:Bl rs
 ok:∀r∈rs,Tv r
 D:k6 rs
 n:rs.length<=100
inductive gD(rs:qal):List Fr->Fr->Prop
 |main {f:Fr} (h:f.call=none):gD rs [] f
 |sub {gs:List Fr} {g f:Fr} {c:Nat} {x h:Str} {as:List i9} (hc:f.call=some c) (hr:rs[c]?=some (.call x h as)) (hd:1<=dp (bw rs) c) (k:gD rs gs g):gD rs (gs++[g]) f
theorem gD.inv{fs:List Fr}{f:Fr}(h:gD rs fs f):(fs=[]/\f.call=none)\/∃(gs:List Fr)(g:Fr)(c:Nat)(x y:Str)(as:List i9),fs=gs++[g]/\f.call=some c/\rs[c]?=some (.call x y as)/\1<=dp (bw rs) c/\gD rs gs g:=by
 cases h with
 |main h=>exact .inl ⟨rfl,h⟩
 |sub hc hr hd k=>exact .inr ⟨_,_,_,_,_,_,rfl,hc,hr,hd,k⟩
theorem gD.same{fs:List Fr}{f g:Fr}(h:gD rs fs f)(e:g.call=f.call):gD rs fs g:=by
 obtain⟨rfl,h1⟩|⟨gs,g',c,x,y,as,rfl,h1,h2,h3,h4⟩:=h.inv
 exact .main (e.trans h1);exact .sub (e.trans h1) h2 h3 h4
structure oZ(rs:qal)(s:Lv):Prop where
 pl:s.pl<rs.length
 ins:1<=dp (bw rs) s.pl\/∃f ps,rs[s.pl]?=some (.df f ps)
 ev:gA s.f.ev (100+s.dn.length)
 fs:∀g∈s.fs,gA g.ev (100+s.dn.length)
 nf:s.fs.length<=s.dn.length
 ce:k7 s.ce s.dn.length
 ct:s.ct.is.length<=s.dn.length
 ca:gD rs s.fs s.f
section
theorem gA.up{e:Ev}(h:gA e n)(hm:n<=m):gA e m:=⟨by have:=h.n;omega,h.ri⟩
theorem k7.up{c:Ce}(h:k7 c n)(hm:n<=m):k7 c m:=⟨by have:=h.1;omega,h.2⟩
theorem yL(B:Bl rs)(hj:j<=rs.length)(h:1<=dp (bw rs) j):j<rs.length:=by
 rcases Nat.lt_or_ge j rs.length with z|z
 exact z;have e:j=rs.length:=by omega
 subst e;unfold dp at h;rw[B.W.fin] at h;exact absurd h (by simp)
theorem jW(B:Bl rs)(hr:rs[j]?=some r)(ho:LV r=true)(hi:1<=dp (bw rs) j\/∃f ps,rs[j]?=some (.df f ps)):j+1<rs.length/\1<=dp (bw rs) (j+1):=by
 have hj:=(dS.mp hr).1;have kk:=fA hr;have h1:1<=dp (bw rs) (j+1):=by
  by_cases zm:(a9 r).op=true;rw[tW B.W hj (by rw[kk];exact zm)];omega;obtain hi|⟨f,ps,hd⟩:=hi
  rw[yb (by rw[kk];cases r<;>first|rfl|cases ho) (by rw[kk];simpa using zm)];exact hi;rw[hr] at hd;cases hd;exact absurd rfl zm
 exact⟨yL B (by omega) h1,h1⟩
theorem Ij(ho:Hu r=true):wd r="if"\/wd r="while":=by cases r<;>first|(cases ho;done)|exact .inl rfl|exact .inr rfl
theorem AJ(B:Bl rs)(hr:rs[j]?=some r)(ho:Hu r=true):1<=dp (bw rs) j/\j+1<rs.length/\1<=dp (bw rs) (j+1):=by
 have hj:=(dS.mp hr).1;have kk:=fA hr;have h0:1<=dp (bw rs) j:=by have:=B.inn hr (by rcases Ij ho with e|e<;>rw[e]<;>decide +kernel) (by rcases Ij ho with e|e<;>rw[e]<;>decide +kernel);unfold dp;exact SU.mpr this
 have zm:(a9 r).op=true:=by cases r<;>first|rfl|cases ho
 have h1:1<=dp (bw rs) (j+1):=by rw[tW B.W hj (by rw[kk];exact zm)];omega
 exact⟨h0,yL B (by omega) h1,h1⟩
theorem Cr(B:Bl rs)(hr:rs[j]?=some r)(ho:Hu r=true):∃k:Nat,LF rs j=(k:Int)/\j<k/\k<rs.length/\1<=dp (bw rs) k:=by
 obtain⟨h0,_,_⟩:=AJ B hr ho;obtain⟨e,b⟩:=B.WD hr (Ij ho);obtain⟨g1,g2,g3,g4,g5⟩:=B.top b.lt b.op b.en;have ee:oW rs j=(e:Int):=by unfold oW;rw[b.en]
 unfold LF;rw[hr];cases r with
 |gm a=>
  refine⟨e+1,by show oW rs j+1=_;rw[ee];push_cast;rfl,by omega,?_⟩;have h1:1<=dp (bw rs) (e+1):=by rw[g3];exact h0
  exact⟨yL B (by omega) h1,h1⟩
 |kY a=>
  show ∃k:Nat,(match Ht rs j with|none=>oW rs j|some x=>(x:Int)+1)=(k:Int)/\_;cases hx:Ht rs j with
  |none=>exact⟨e,ee,by omega,by omega,by rw[b.de];omega⟩
  |some x=>
   obtain⟨x1,x2,x3⟩:=yi hx;have hxe:=Q6 x2;obtain⟨d2,o,_,q1,_,_⟩:=B.mX hxe;have hxl:=(dS.mp hxe).1;have kx:=fA hxe;have h1:dp (bw rs) (x+1)=dp (bw rs) x:=yb (by rw[kx];rfl) (by rw[kx];rfl);have h2:1<=dp (bw rs) (x+1):=by omega
   have hjx:j<x:=by unfold mC at x3;rw[wH] at x3;exact (yc B.W x (by omega) _ _ x3).1
   exact⟨x+1,by push_cast;rfl,by omega,yL B (by omega) h2,h2⟩
 |_=>cases ho
theorem Ik(B:Bl rs)(hr:rs[j]?=some r)(hs:jf r=true)(hi:1<=dp (bw rs) j):∃k:Nat,Am rs j=(k:Int)/\k<rs.length/\1<=dp (bw rs) k/\(j<k\/∃a,rs[k]?=some (.gm a)):=by
 have hj:=(dS.mp hr).1;have kk:=fA hr;unfold Am;rw[hr];cases r with
 |skip=>obtain⟨h1,h2⟩:=jW B hr rfl (.inl hi);exact⟨j+1,by push_cast;rfl,h1,h2,.inl (by omega)⟩
 |mX=>
  obtain⟨d2,o,a,q1,q2,_⟩:=B.mX hr;have eh:EX rs j=o:=by unfold EX;rw[q1];rfl
  show ∃k:Nat,oW rs (EX rs j)=(k:Int)/\_;rw[eh];obtain⟨e,b⟩:=B.WD q2 (.inl rfl);have R1:=q1;unfold mC at R1;rw[wH] at R1;obtain⟨s1,s2,s3,s4⟩:=yc B.W j (by omega) _ _ R1;have hje:j<e:=by
   rcases Nat.lt_or_ge j e with z|z
   exact z;have h9:=(B.top b.lt b.op b.en).2.2.1;by_cases ej:j=e;subst ej;rw[b.re] at hr;cases hr;have:=s4 (e+1) (by have:=b.le;omega) (by omega);omega
  exact⟨e,by unfold oW;rw[b.en],b.el,by rw[b.de];omega,.inl hje⟩
 |fin=>
  obtain⟨d2,o,r',q1,q2,_⟩:=B.fin hr;have eh:EX rs j=o:=by unfold EX;rw[q1];rfl
  show ∃k:Nat,(match rs[EX rs j]? with|some (.gm _)=>(EX rs j:Int)|_=>(j:Int)+1)=(k:Int)/\_;rw[eh,q2];have R1:=q1;unfold mC at R1;rw[wH] at R1;obtain⟨s1,s2,s3,s4⟩:=yc B.W j (by omega) _ _ R1;have Fz:dp (bw rs) (j+1)+1=dp (bw rs) j:=ya B.W hj (by rw[kk];rfl);have h2:1<=dp (bw rs) (j+1):=by omega
  have nx:∃k:Nat,(j:Int)+1=(k:Int)/\k<rs.length/\1<=dp (bw rs) k/\(j<k\/∃a,rs[k]?=some (.gm a)):=⟨j+1,by push_cast;rfl,yL B (by omega) h2,h2,.inl (by omega)⟩;cases r' with
  |gm a=>exact⟨o,rfl,by omega,by rw[s3];unfold dp at d2;omega,.inr ⟨a,q2⟩⟩
  |_=>exact nx
 |_=>cases hs
theorem vW(ps:qai)(gs:List Vl)(hg:∀g∈gs,RV g):∀k,gA (cq ps gs k) k
 |0=>⟨c3 _,λi hi=>nomatch hi⟩
 |k+1=>by
  have ih:=vW ps gs hg k;unfold cq;split;refine ih.put _ ?_;rw[List.getD];cases e:gs[k]? with
  |none=>exact Q7
  |some g=>exact hg g (gH e)
  exact ih.up (by omega)
theorem iB(W:Wl rs){s:Lv}(I:oZ rs s)(hr:rs[s.pl]?=some r)(hs:jf r=false):(∃s',cD rs r s=.inl s'/\oZ rs s'/\s'.dn.length=s.dn.length+1)\/∃R,cD rs r s=.inr R:=by
 have Cs:=W.ok r (gH hr);have e1:∀d:T,(s.dn++[d]).length=s.dn.length+1:=λd=>by simp
 have R4:=I.ev;have name:∀(x:Str)(v:Vl)(d:T)(Ym:Ct),RV v->Ym.is.length<=s.dn.length+1->LV r=true->oZ rs (t6 {s with ct:=Ym} x v d):=λx v d Ym hv hc ho=>by obtain⟨h1,h2⟩:=jW W.B hr ho I.ins;refine⟨h1,.inl h2,?_,λg hg=>?_,?_,?_,?_,?_⟩;show gA (s.f.ev.put x v) (100+(s.dn++[d]).length);rw[e1];exact R4.put x hv;show gA g.ev (100+(s.dn++[d]).length);rw[e1];exact (I.fs g hg).up (by omega);show s.fs.length<=(s.dn++[d]).length;rw[e1];have:=I.nf;omega;show k7 s.ce (s.dn++[d]).length;rw[e1];exact I.ce.up (by omega);show Ym.is.length<=(s.dn++[d]).length;rw[e1];exact hc;show gD rs s.fs {s.f with ev:=s.f.ev.put x v};exact I.ca.same rfl
 have Tw:s.ct.is.length<=s.dn.length+1:=by have:=I.ct;omega
 have move:∀(d:T)(Rh:Ce)(p:Nat),k7 Rh (s.dn.length+1)->p<rs.length->1<=dp (bw rs) p->oZ rs {s with ce:=Rh,dn:=s.dn++[d],pl:=p}:=λd Rh p hc h1 h2=>by refine⟨h1,.inl h2,?_,λg hg=>?_,?_,?_,?_,I.ca⟩;show gA s.f.ev (100+(s.dn++[d]).length);rw[e1];exact R4.up (by omega);show gA g.ev (100+(s.dn++[d]).length);rw[e1];exact (I.fs g hg).up (by omega);show s.fs.length<=(s.dn++[d]).length;rw[e1];have:=I.nf;omega;show k7 Rh (s.dn++[d]).length;rw[e1];exact hc;show s.ct.is.length<=(s.dn++[d]).length;rw[e1];exact Tw
 have Tx:k7 s.ce (s.dn.length+1):=I.ce.up (by omega);cases r with
 |df f ps=>obtain⟨h1,h2⟩:=jW W.B hr rfl I.ins;exact .inl ⟨_,rfl,move _ s.ce _ Tx h1 h2,e1 _⟩
 |put x a=>exact .inl ⟨_,rfl,name x _ _ s.ct (R4.look Cs) Tw rfl,e1 _⟩
 |get x y k=>
  refine .inl ⟨_,rfl,name x _ _ s.ct ?_ Tw rfl,e1 _⟩;cases cellK s.f.ev y k with
  |none=>exact Q7
  |some c=>exact I.ce.get c
 |set y k a=>
  obtain⟨h1,h2⟩:=jW W.B hr rfl I.ins;refine .inl ⟨_,rfl,move _ (s.ce.Ra (look s.f.ev a) (cellK s.f.ev y k)) _ ?_ h1 h2,e1 _⟩;cases cellK s.f.ev y k with
  |none=>exact Tx
  |some c=>exact I.ce.put c (R4.look Cs.2.2)
 |lK x a op b=>
  show (∃s',(match Ap op (look s.f.ev a) (look s.f.ev b) with|none=>Sum.inr _|some v=>Sum.inl _)=Sum.inl s'/\_)\/∃R,(match Ap op (look s.f.ev a) (look s.f.ev b) with|none=>Sum.inr _|some v=>Sum.inl _)=Sum.inr R;cases hk:Ap op (look s.f.ev a) (look s.f.ev b) with
  |none=>exact .inr ⟨_,rfl⟩
  |some v=>exact .inl ⟨_,rfl,name x (.num v) _ s.ct (Q_ hk) Tw rfl,e1 _⟩
 |new x=>refine .inl ⟨_,rfl,name x _ _ (s.ct.up s.pl) Q7 ?_ rfl,e1 _⟩;have:=nI s.ct.ks s.ct.is (.inl (s.pl:Int)) (s.ct.get s.pl+1);have:=I.ct;show (cC s.ct.ks s.ct.is (.inl (s.pl:Int)) (s.ct.get s.pl+1)).length<=_;omega
 |kY a=>obtain⟨_,y1,y2⟩:=AJ W.B hr rfl;obtain⟨k,n1,_,n3,n4⟩:=Cr W.B hr rfl;refine .inl ⟨_,rfl,move _ s.ce _ Tx ?_ ?_,e1 _⟩;split;rw[n1];exact n3;exact y1;split;rw[n1];exact n4;exact y2
 |gm a=>obtain⟨_,y1,y2⟩:=AJ W.B hr rfl;obtain⟨k,n1,_,n3,n4⟩:=Cr W.B hr rfl;refine .inl ⟨_,rfl,move _ s.ce _ Tx ?_ ?_,e1 _⟩;split;rw[n1];exact n3;exact y1;split;rw[n1];exact n4;exact y2
 |fail w=>exact .inr ⟨_,rfl⟩
 |give a=>
  have hv:=R4.look Cs;obtain⟨h0,h1⟩|⟨gs,g,c,x,y,as,h0,h1,h2,h3,h4⟩:=I.ca.inv
  refine .inr ⟨(s.dn++[rN s.f.ev s.ce s.ct s.pl (.give a)],i_ (look s.f.ev a)),?_⟩;unfold cD;dsimp only;rw[h1];have ed:cD rs (.give a) s=.inl {fs:=gs,f:={g with ev:=g.ev.put x (look s.f.ev a)},ce:=s.ce,ct:=s.ct,dn:=s.dn++[rN s.f.ev s.ce s.ct s.pl (.give a)],pl:=c+1}:=by unfold cD;dsimp only;rw[h1,h0,JA];dsimp only;rw[h2,OB]
  obtain⟨p1,p2⟩:=jW W.B h2 rfl (.inl h3);refine .inl ⟨_,ed,⟨p1,.inl p2,?_,λg' hg=>?_,?_,?_,?_,?_⟩,e1 _⟩;show gA (g.ev.put x (look s.f.ev a)) (100+(s.dn++[_]).length);rw[e1];exact (I.fs g (by rw[h0];simp)).put x hv;show gA g'.ev (100+(s.dn++[_]).length);rw[e1];exact (I.fs g' (by rw[h0];exact cw _ hg)).up (by omega);show gs.length<=(s.dn++[_]).length;have:=I.nf;rw[h0,nX] at this;rw[e1];omega;show k7 s.ce (s.dn++[_]).length;rw[e1];exact Tx;show s.ct.is.length<=(s.dn++[_]).length;rw[e1];exact Tw;exact h4.same rfl
 |call x g as=>
  obtain⟨p,ps,q1,q2,q3⟩:=W.D.ca s.pl x g as hr;have ef:=W.D.first q2
  have R5:=W.ok _ (gH q2);have hp:=(dS.mp q2).1;have ed:cD rs (.call x g as) s=.inl {fs:=s.fs++[s.f],f:=⟨some s.pl,cq ps (as.map (look s.f.ev)) ps.length⟩,ce:=s.ce,ct:=s.ct,dn:=s.dn++[rN s.f.ev s.ce s.ct s.pl (.call x g as)],pl:=p}:=by unfold cD;dsimp only;rw[ef];dsimp only;rw[q2]
  refine .inl ⟨_,ed,⟨hp,.inr ⟨g,ps,q2⟩,?_,λg' hg=>?_,?_,?_,?_,?_⟩,e1 _⟩;show gA (cq ps (as.map (look s.f.ev)) ps.length) (100+(s.dn++[_]).length);refine (vW ps _ (λv hv=>?_) ps.length).up (by have:=R5.1;omega);obtain⟨o,ho,rfl⟩:=sS.mp hv;exact R4.look (Cs.2 o ho);show gA g'.ev (100+(s.dn++[_]).length);rw[e1];rcases cN.mp hg with z|z
  exact (I.fs g' z).up (by omega);rw[jh.mp z];exact R4.up (by omega);show (s.fs++[s.f]).length<=(s.dn++[_]).length;rw[e1];have:=I.nf;simp;omega;show k7 s.ce (s.dn++[_]).length;rw[e1];exact Tx;show s.ct.is.length<=(s.dn++[_]).length;rw[e1];exact Tw;refine .sub rfl hr ?_ I.ca;obtain z|⟨f,ps,z⟩:=I.ins
  exact z;rw[hr] at z;cases z
 |_=>cases hs
theorem q_(W:Wl rs){s:Lv}(I:oZ rs s):(∃s',ix rs most s=.inl s'/\oZ rs s'/\((s'.dn.length=s.dn.length+1/\s.dn.length<most)\/(s'.dn=s.dn/\(∀a,rs[s.pl]?≠some (.gm a))/\((∃a,rs[s'.pl]?=some (.gm a))\/s.pl<s'.pl))))\/∃R,ix rs most s=.inr R:=by
 obtain⟨r,hr⟩:∃r,rs[s.pl]?=some r:=⟨_,kD I.pl⟩;unfold ix;rw[hr];dsimp only;by_cases hs:jf r=true;rw[if_pos hs];have hi:1<=dp (bw rs) s.pl:=by
  obtain z|⟨f,ps,z⟩:=I.ins
  exact z;rw[hr] at z;cases z;cases hs
 obtain⟨k,h1,h2,h3,h4⟩:=Ik W.B hr hs hi;refine .inl ⟨_,rfl,⟨?_,?_,I.ev,I.fs,I.nf,I.ce,I.ct,I.ca⟩,.inr ⟨rfl,(λa z=>by cases z;cases hs),?_⟩⟩;show (Am rs s.pl).toNat<_;rw[h1];exact h2;show 1<=dp (bw rs) (Am rs s.pl).toNat\/_;rw[h1];exact .inl h3;show (∃a,rs[(Am rs s.pl).toNat]?=_)\/_<(Am rs s.pl).toNat;rw[h1];obtain z|z:=h4
 exact .inr z;exact .inl z;rw[if_neg hs];by_cases hm:most<=s.dn.length;rw[if_pos hm];exact .inr ⟨_,rfl⟩;rw[if_neg hm];rcases iB W I hr (by simpa using hs) with⟨s',h1,h2,h3⟩|⟨R,h⟩
 exact .inl ⟨s',h1,h2,.inl ⟨h3,by omega⟩⟩;exact .inr ⟨R,h⟩
inductive pw(rs:qal)(most:Nat):Nat->Lv->Res->Prop
 |fin {s:Lv} {R:Res} (h:ix rs most s=.inr R):pw rs most 0 s R
 |go {n:Nat} {s s':Lv} {R:Res} (h:ix rs most s=.inl s') (k:pw rs most n s' R):pw rs most (n+1) s R
noncomputable def rank(rs:qal)(s:Lv):Nat:=match rs[s.pl]? with
 |some (.gm _)=>0
 |_=>rs.length-s.pl+1
theorem Mu(rs:qal)(s:Lv):rank rs s<=rs.length+1:=by unfold rank;split<;>omega
theorem Il{s:Lv}{a:i9}(h:rs[s.pl]?=some (.gm a)):rank rs s=0:=by unfold rank;rw[h]
theorem Im{s:Lv}(h:∀a,rs[s.pl]?≠some (.gm a)):rank rs s=rs.length-s.pl+1:=by
 unfold rank;split
 rename_i a e;exact absurd e (h a)
 rfl
theorem R6(W:Wl rs):∀(m:Nat){s:Lv},oZ rs s->(most-s.dn.length) * (rs.length+2)+rank rs s<m->∃n R,pw rs most n s R:=by
 intro m;induction m with
 |zero=>intro s I h;omega
 |succ m ih=>
  intro s I h;rcases q_ W I (most:=most) with⟨s',h1,h2,h3⟩|⟨R,h⟩
  have:(most-s'.dn.length) * (rs.length+2)+rank rs s'<m:=by
   obtain⟨h3,h4⟩|⟨h3,h5,h4⟩:=h3
   have e:most-s.dn.length=(most-s'.dn.length)+1:=by omega
   have:=Mu rs s';rw[e,Nat.add_mul] at h;omega;rw[h3];rw[Im h5] at h;have hp:=I.pl;obtain⟨a,z⟩|z:=h4
   rw[Il z];omega;have PL:=h2.pl;by_cases hw:∃a,rs[s'.pl]?=some (.gm a);obtain⟨a,z⟩:=hw;rw[Il z];omega;rw[Im λa z=>hw ⟨a,z⟩];omega
  obtain⟨n,R,hR⟩:=ih h2 this;exact⟨n+1,R,.go h1 hR⟩;exact⟨0,R,.fin h⟩
theorem Mv(W:Wl rs)(most:Nat){s:Lv}(I:oZ rs s):∃n R,pw rs most n s R:=R6 W _ I (EM _)
end
end Rg
namespace Rg
open PySem L2 VT Gen K5 Lay
open og (dD)
open Nx (D')
open Nm (kn Cb yq lh)
open Tr (Cf Cd jJ)
open jC (Vl vT nm dH RI)
structure MgS(K:qaf)(mg:qae):Prop where
 len:mg "len"=none
 tuple:mg "tuple"=none
 R7:∃a,mg "SILENT"=some (.ref a)/\∀H,fg K H a [.str "else",.str "end",.str "skip"]
noncomputable def Jx(cM cF cL:Addr)(nh:List Key×Key->Int)(rs:qal)(most:Nat)(s:Lv):S:=c7 cM cF (bY cL rs) (most:Int) .aQ (s.fs++[s.f]) (Ce.s nh s.ce) s.ct s.dn (.int ((s.pl:Nat):Int)) .aQ
def vX(cM cF cL:Addr)(nh:List Key×Key->Int)(rs:qal)(most:Nat)(q:S->Prop):Lv ⊕ Res->Prop
 |.inl s=>q (Jx cM cF cL nh rs most s)
 |.inr R=>∀fr ce ct pl,q (c7 cM cF (bY cL rs) (most:Int) .aQ fr ce ct R.1 pl R.2)
def Oh(cM cF cL:Addr)(nh:List Key×Key->Int)(us:qaj)(st:S)(q:S->T->Prop):Prop:=∃rs r s most,us=[aW r]/\st=Jx cM cF cL nh rs most s/\Wl rs/\oZ rs s/\rs[s.pl]?=some r/\jf r=false/\s.dn.length<=1000/\vX cM cF cL nh rs most (λs'=>q s' .aQ) (cD rs r s)
def Oi(cM cF cL:Addr)(nh:List Key×Key->Int)(us:qaj)(st:S)(q:S->T->Prop):Prop:=∃rs s most,us=[]/\st=Jx cM cF cL nh rs most s/\Wl rs/\oZ rs s/\s.dn.length<=1000/\vX cM cF cL nh rs most (λs'=>q s' .aQ) (ix rs most s)
theorem R8(h:dD x=true):lh (tS (.fld x))=true:=by show og.pQ (((".":String):Str)++x)=true;unfold og.pQ;rw[og.tD,h,Bool.and_true];exact og.pR x
theorem Cu{k:Ky}(h:Jw k):([tS k].filter λt=>!lh t)=(LG k).map gz:=by
 cases k with
 |fld x=>rw[YA (by rw[R8 h.1];decide)];rfl
 |op o=>rw[TM (by show (!lh (gz o))=true;rw[qR h];rfl)];rfl
theorem rf:∀{l:List i9},(∀o∈l,qD o)->((l.map gz).filter λt=>!lh t)=l.map gz
 |[],_=>rfl
 |o::l,h=>by rw[gR,TM (by rw[qR (h o dw)];rfl),rf λo ho=>h o (gG _ ho)]
theorem AK(ok:Tv r):∀o∈gi r,qD o:=by
 have kk:∀{k:Ky},Jw k->∀o∈LG k,qD o:=λ{k} h o ho=>by
  cases k with
  |fld x=>cases ho
  |op o'=>rw[jh.mp ho];exact h
 intro o ho;cases r with
 |df f ps=>obtain⟨x,hx,rfl⟩:=sS.mp ho;exact ok.2 x hx
 |put x a=>rw[jh.mp ho];exact ok
 |give a=>rw[jh.mp ho];exact ok
 |kY a=>rw[jh.mp ho];exact ok
 |gm a=>rw[jh.mp ho];exact ok
 |lK x a op b=>
  simp only[gi,cT,gb,or_false] at ho;obtain rfl|rfl:=ho
  exact ok.1;exact ok.2.2
 |get x y k=>
  rcases cT.mp ho with rfl|ho
  exact ok.1;exact kk ok.2 o ho
 |set y k a=>
  rcases cT.mp ho with rfl|ho
  exact ok.1;rcases cN.mp ho with ho|ho
  exact kk ok.2.1 o ho;rw[jh.mp ho];exact ok.2.2
 |call x f as=>exact ok.2 o ho
 |_=>cases ho
theorem Mw(ok:Tv r):(gi r).length<=100:=by
 have kk:∀k:Ky,(LG k).length<=1:=λk=>by cases k<;>simp[LG]
 cases r with
 |df f ps=>rw[gi,cV];have:=ok.1;omega
 |call x f as=>have:=ok.1;show as.length<=100;omega
 |get x y k=>have:=kk k;simp only[gi,wI];omega
 |set y k a=>have:=kk k;simp only[gi,wI,nX,S4];omega
 |_=>simp[gi]
theorem Mx(ok:Tv r)(hd:∀f ps,r≠.df f ps):Cd r=(gi r).map gz/\∀t∈jJ r,yq t:=by
 have ol:∀{o:i9},qD o->yq (gz o):=λh=>vP h;have kl:∀{k:Ky},Jw k->yq (tS k):=λ{k} h=>by
  cases k with
  |fld x=>exact .inl ⟨_,rfl,by rw[Cp];have:=h.2;omega⟩
  |op o=>exact vP h
 have one:∀{a:i9},qD a->([gz a].filter λt=>!lh t)=[gz a]:=λh=>rf (l:=[_]) λo ho=>by rw[jh.mp ho];exact h
 cases r with
 |df f ps=>exact absurd rfl (hd f ps)
 |put x a=>exact⟨one ok,λt ht=>by rw[jh.mp ht];exact ol ok⟩
 |give a=>exact⟨one ok,λt ht=>by rw[jh.mp ht];exact ol ok⟩
 |kY a=>exact⟨one ok,λt ht=>by rw[jh.mp ht];exact ol ok⟩
 |gm a=>exact⟨one ok,λt ht=>by rw[jh.mp ht];exact ol ok⟩
 |lK x a op b=>
  refine⟨rf (l:=[a,b]) (AK (r:=.lK x a op b) ok),λt ht=>?_⟩;simp only[jJ,cT,gb,or_false] at ht;obtain rfl|rfl:=ht
  exact ol ok.1;exact ol ok.2.2
 |get x y k=>
  refine⟨?_,λt ht=>?_⟩;show (([gz (.nm y)]++[tS k]).filter λt=>!lh t)=_;rw[XF,one ok.1,Cu ok.2];rfl;simp only[jJ,cT,gb,or_false] at ht;obtain rfl|rfl:=ht
  exact ol ok.1;exact kl ok.2
 |set y k a=>
  refine⟨?_,λt ht=>?_⟩;show ((([gz (.nm y)]++[tS k])++[gz a]).filter λt=>!lh t)=_;rw[XF,XF,one ok.1,one ok.2.2,Cu ok.2.1];show _=(i9.nm y::(LG k++[a])).map gz;rw[gR,rM];rfl;simp only[jJ,cT,gb,or_false] at ht;obtain rfl|rfl|rfl:=ht
  exact ol ok.1;exact kl ok.2.1;exact ol ok.2.2
 |call x f as=>exact⟨rfl,λt ht=>by obtain⟨o,ho,rfl⟩:=sS.mp ht;exact ol (ok.2 o ho)⟩
 |_=>exact⟨rfl,λt ht=>nomatch ht⟩
theorem BM(ok:Tv r)(hs:jf r=false):RdR r:=by
 cases r with
 |mX=>cases hs
 |fin=>cases hs
 |skip=>cases hs
 |lK x a op b=>exact ok.2.1
 |get x y k=>exact ok.2
 |set y k a=>exact ok.2.1
 |_=>trivial
theorem cA.up{k k':Nat}(h:cA P w K mg base eV k f fd ps sp)(hk:k<=k'):cA P w K mg base eV k' f fd ps sp :=
 ⟨h.len,λA outer s H args us vs Q E hr e0 hb r Jo=>h.run A outer s H args us vs Q E (hr.mono hk) e0 hb r Jo⟩
structure Fos(w:World)(K:qaf)(mg:qae):Prop where
 ex:∃(a:Addr)(f1 f2 f3 f4 f5 f6 f7 f8 f9:Addr),mg "FOLLOWERS"=some (.ref a)/\mg "follow_plain"=some (.ref f1)/\mg "follow_give"=some (.ref f2)/\mg "follow_name"=some (.ref f3)/\mg "follow_do"=some (.ref f4)/\mg "follow_new"=some (.ref f5)/\mg "follow_set"=some (.ref f6)/\mg "follow_call"=some (.ref f7)/\mg "follow_fail"=some (.ref f8)/\mg "follow_choice"=some (.ref f9) /\
  qr w K a [("def",.ob f1),("give",.ob f2),("put",.ob f3),("do",.ob f4),("new",.ob f5),("get",.ob f3),("set",.ob f6),("call",.ob f7),("fail",.ob f8),("if",.ob f9),("while",.ob f9)]
theorem iV{k k':Nat}{f1:Addr}(C:bS P w K mg base x ps k sp)(e:mg x=some (.ref f1))(hk:k<=k'):PySem.W.keepIn K (.ref f1)=true/\∃fd ps,Binds K fd ps []/\cA P w K mg base eV k' f1 fd ps sp:=by obtain⟨f,fd,h1,h2,h3,F⟩:=C;cases h1.symm.trans e;exact⟨h2,fd,ps,h3,cA.up F hk⟩
inductive EY(cM cF cL:Addr)(nh:List Key×Key->Int)(f1 f2 f3 f4 f5 f6 f7 f8 f9:Addr):Addr->(qaj->S->(S->T->Prop)->Prop)->Prop
 |plain:EY cM cF cL nh f1 f2 f3 f4 f5 f6 f7 f8 f9 f1 (nQ cM cF cL)
 |give:EY cM cF cL nh f1 f2 f3 f4 f5 f6 f7 f8 f9 f2 (AI cM cF cL)
 |name:EY cM cF cL nh f1 f2 f3 f4 f5 f6 f7 f8 f9 f3 (lu cM cF cL)
 |do_:EY cM cF cL nh f1 f2 f3 f4 f5 f6 f7 f8 f9 f4 (R0 cM cF cL)
 |new:EY cM cF cL nh f1 f2 f3 f4 f5 f6 f7 f8 f9 f5 (Ic cM cF cL)
 |set:EY cM cF cL nh f1 f2 f3 f4 f5 f6 f7 f8 f9 f6 (Ie cM cF cL nh)
 |call:EY cM cF cL nh f1 f2 f3 f4 f5 f6 f7 f8 f9 f7 (AH cM cF cL)
 |fail:EY cM cF cL nh f1 f2 f3 f4 f5 f6 f7 f8 f9 f8 (AF cM cF cL)
 |choice:EY cM cF cL nh f1 f2 f3 f4 f5 f6 f7 f8 f9 f9 (vQ cM cF cL)
noncomputable abbrev WY(s:Lv)(r:Rw):T:=.tup ((gi r).map λo=>vT (look s.f.ev o))
noncomputable abbrev Yn(s:Lv)(r:Rw):T:=oV (t5 s.f.ev s.ce s.ct s.pl r)
theorem AL(s:Lv)(r:Rw):bR (WY s r)=true:=by simp only[bR];exact eJ (f:=λo=>vT (look s.f.ev o)) (λo=>dY _) _
noncomputable def cutD(cM cF cL a0:Addr)(nh:List Key×Key->Int):FM:=λd ρ st=>∃rs r s most P,ρ=[some (.pin a0 st.t,false),some (aW r,false),some (P,false),none,none]/\st=Jx cM cF cL nh rs most s/\(P=.tup ((gi r).map gz)\/P=.lst ((gi r).map gz))/\Wl rs/\oZ rs s/\rs[s.pl]?=some r/\jf r=false/\s.dn.length<=1000/\vX cM cF cL nh rs most (λs'=>∀ρ',d.nx ρ' s') (cD rs r s)
noncomputable def acR(cM cF cL a0:Addr)(nh:List Key×Key->Int):FM:=λd ρ st=>∃rs r s most P,ρ=[some (.pin a0 st.t,false),some (aW r,false),some (P,false),some (WY s r,false),none]/\st=Jx cM cF cL nh rs most s/\Wl rs/\oZ rs s/\rs[s.pl]?=some r/\jf r=false/\s.dn.length<=1000/\vX cM cF cL nh rs most (λs'=>∀ρ',d.nx ρ' s') (cD rs r s)
noncomputable abbrev My(cM cF cL:Addr)(nh:List Key×Key->Int)(rs:qal)(most:Nat)(s:Lv)(r:Rw):S:=c7 cM cF (bY cL rs) (most:Int) .aQ (s.fs++[s.f]) (Ce.s nh s.ce) s.ct (s.dn++[rN s.f.ev s.ce s.ct s.pl r]) (.int ((s.pl:Nat):Int)) .aQ
noncomputable abbrev MA(a:Addr)(st:S)(s:Lv)(r:Rw)(x:Option (T×Bool)):En:=[some (.pin a st.t,false),some (aW r,false),x,some (WY s r,false),some (Yn s r,false)]
theorem R9{cM cF cL:Addr}{nh:List Key×Key->Int}{f1 f2 f3 f4 f5 f6 f7 f8 f9:Addr}{s:Lv}{q:S->T->Prop}(W:Wl rs)(I:oZ rs s)(hr:rs[s.pl]?=some r)(hs:jf r=false)(MB:s.dn.length<=1000)(hq:vX cM cF cL nh rs most (λs'=>q s' .aQ) (cD rs r s)) :
  ∃f G,z8 [("def",T.ob f1),("give",.ob f2),("put",.ob f3),("do",.ob f4),("new",.ob f5),("get",.ob f3),("set",.ob f6),("call",.ob f7),("fail",.ob f8),("if",.ob f9),("while",.ob f9)] (wd r)=some (.ob f)/\EY cM cF cL nh f1 f2 f3 f4 f5 f6 f7 f8 f9 f G/\G [aW r,WY s r,Yn s r] (My cM cF cL nh rs most s r) q:=by
 have Cs:=W.ok r (gH hr);have Yo:s.f.ev.is.length<=1000000:=by have:=I.ev.n;omega
 have hfl:(s.fs++[s.f]).length<=1000000:=by have:=I.nf;simp;omega
 have at':LV r=true->Mh rs s.pl r:=λh=>⟨W.B,hr,h⟩;have ui:=AL s r;cases r with
 |df f ps=>exact⟨f1,_,rfl,.plain,rs,_,s.pl,most,.aQ,_,_,_,_,_,_,_,rfl,rfl,at' rfl,hq⟩
 |put x a=>exact⟨f3,_,rfl,.name,rs,_,s.pl,most,.aQ,s.fs,s.f,_,_,_,_,x,look s.f.ev a,rfl,ui,rfl,at' rfl,rfl,Yo,hq⟩
 |get x y k=>exact⟨f3,_,rfl,.name,rs,_,s.pl,most,.aQ,s.fs,s.f,_,_,_,_,x,s.ce.at' (cellK s.f.ev y k),rfl,ui,rfl,at' rfl,rfl,Yo,hq⟩
 |set y k a=>exact⟨f6,_,rfl,.set,rs,y,k,a,s.pl,most,.aQ,_,s.ce,_,_,s.f.ev,look s.f.ev a,rfl,Cs.2.1,rfl,at' rfl,by have:=I.ce.1;omega,hq⟩
 |new x=>exact⟨f5,_,rfl,.new,rs,_,s.pl,most,.aQ,s.fs,s.f,_,_,_,_,x,.DR s.pl (s.ct.get s.pl),rfl,ui,rfl,at' rfl,rfl,Yo,by have:=I.ct;omega,hq⟩
 |lK x a op b=>
   refine⟨f4,_,rfl,.do_,rs,_,s.pl,most,.aQ,s.fs,s.f,_,_,_,_,x,(Ap op (look s.f.ev a) (look s.f.ev b)).map .num,rfl,ui,rfl,at' rfl,rfl,Yo,?_⟩;have d9:vX cM cF cL nh rs most (λs'=>q s' .aQ) (match Ap op (look s.f.ev a) (look s.f.ev b) with
    |none=>.inr (s.dn++[rN s.f.ev s.ce s.ct s.pl (.lK x a op b)],qF)
    |some v=>.inl (t6 s x (.num v) (rN s.f.ev s.ce s.ct s.pl (.lK x a op b)))):=hq
   cases hk:Ap op (look s.f.ev a) (look s.f.ev b) with
   |none=>rw[hk] at d9;exact d9 _ _ _ _
   |some v=>rw[hk] at d9;exact d9
 |kY a=>obtain⟨k,n1,_,_,_⟩:=Cr W.B hr rfl;refine⟨f9,_,rfl,.choice,rs,_,s.pl,most,.aQ,_,_,_,_,_,_,(if look s.f.ev a=.num 0 then 0 else 1),rfl,rfl,W.B,hr,rfl,?_⟩;have d9:q (c7 cM cF (bY cL rs) (most:Int) .aQ (s.fs++[s.f]) (Ce.s nh s.ce) s.ct (s.dn++[rN s.f.ev s.ce s.ct s.pl (.kY a)]) (.int (((if look s.f.ev a=.num 0 then (LF rs s.pl).toNat else s.pl+1:Nat)):Int)) .aQ) .aQ:=hq;by_cases h:look s.f.ev a=.num 0;rw[if_pos h] at d9 ⊢;rw[if_neg (by decide),n1];rw[n1] at d9;exact d9;rw[if_neg h] at d9 ⊢;rw[if_pos rfl];exact d9
 |gm a=>obtain⟨k,n1,_,_,_⟩:=Cr W.B hr rfl;refine⟨f9,_,rfl,.choice,rs,_,s.pl,most,.aQ,_,_,_,_,_,_,(if look s.f.ev a=.num 0 then 0 else 1),rfl,rfl,W.B,hr,rfl,?_⟩;have d9:q (c7 cM cF (bY cL rs) (most:Int) .aQ (s.fs++[s.f]) (Ce.s nh s.ce) s.ct (s.dn++[rN s.f.ev s.ce s.ct s.pl (.gm a)]) (.int (((if look s.f.ev a=.num 0 then (LF rs s.pl).toNat else s.pl+1:Nat)):Int)) .aQ) .aQ:=hq;by_cases h:look s.f.ev a=.num 0;rw[if_pos h] at d9 ⊢;rw[if_neg (by decide),n1];rw[n1] at d9;exact d9;rw[if_neg h] at d9 ⊢;rw[if_pos rfl];exact d9
 |fail w=>exact⟨f8,_,rfl,.fail,_,most,.aQ,_,_,_,_,_,w,_,_,rfl,rfl,hq _ _ _ _⟩
 |give a=>
   obtain⟨h0,h1⟩|⟨gs,g,c,x,y,as,h0,h1,h2,h3,h4⟩:=I.ca.inv
   have ed:cD rs (.give a) s=.inr (s.dn++[rN s.f.ev s.ce s.ct s.pl (.give a)],i_ (look s.f.ev a)):=by unfold cD;dsimp only;rw[h1]
   rw[ed] at hq;exact⟨f2,_,rfl,.give,rs,most,.aQ,s.fs,s.f,_,_,_,_,_,_,look s.f.ev a,rfl,ui,rfl,.inl ⟨h1,hq _ _ _ _⟩⟩;have ed:cD rs (.give a) s=.inl {fs:=gs,f:={g with ev:=g.ev.put x (look s.f.ev a)},ce:=s.ce,ct:=s.ct,dn:=s.dn++[rN s.f.ev s.ce s.ct s.pl (.give a)],pl:=c+1}:=by unfold cD;dsimp only;rw[h1,h0,JA];dsimp only;rw[h2,OB]
   rw[ed] at hq;have Z1:g.ev.is.length<=1000000:=by have:=(I.fs g (by rw[h0];simp)).n;omega
   exact⟨f2,_,rfl,.give,rs,most,.aQ,s.fs,s.f,_,_,_,_,_,_,look s.f.ev a,rfl,ui,rfl,.inr ⟨c,gs,g,_,x,h1,h0,⟨W.B,h2,rfl⟩,rfl,Z1,hq⟩⟩
 |call x g as=>
   obtain⟨p,ps,q1,q2,q3⟩:=W.D.ca s.pl x g as hr;have ef:=W.D.first q2
   have R5:=W.ok _ (gH q2);have ed:cD rs (.call x g as) s=.inl {fs:=s.fs++[s.f],f:=⟨some s.pl,cq ps (as.map (look s.f.ev)) ps.length⟩,ce:=s.ce,ct:=s.ct,dn:=s.dn++[rN s.f.ev s.ce s.ct s.pl (.call x g as)],pl:=p}:=by unfold cD;dsimp only;rw[ef];dsimp only;rw[q2]
   rw[ed] at hq;exact⟨f7,_,rfl,.call,rs,s.pl,p,x,g,as,g,ps,as.map (look s.f.ev),most,.aQ,s.fs++[s.f],_,_,_,_,by rw[Bh];rfl,rfl,ef,q2,by have:=R5.1;omega,hfl,hq⟩
 |_=>cases hs
section
variable{cLayout cFrame ak:Addr}
noncomputable abbrev rg:qai:=["machine","row","parts","used","made"]
theorem oE:az rg qaL (ah lr):=L2.gg
theorem rh:(rg++(["part"]:qai)).Nodup:=by decide +kernel
theorem yM(D:Df K mg "done_row" lr qaL f fd)(M:MgS K mg)(M1:yE K ak)(M2:Fos w K mg)(AN:bS P w K mg base "operands" ["row"] 3 (cW K 1 Cf))(AO:bS P w K mg base "value_of" qaG 2 (cW K 2 (WT ak cFrame)))(Eh:bS P w K mg base "made_by" qaI 4 (cW K 3 (Co ak cFrame (NK.bu P w))))(du:bS P w K mg base "follow_plain" qaJ 2 (i8 K 3 (nQ ak cFrame cLayout)))(cJ:bS P w K mg base "follow_name" qaJ 3 (i8 K 3 (lu ak cFrame cLayout)))(yN:bS P w K mg base "follow_do" qaJ 4 (i8 K 3 (R0 ak cFrame cLayout)))(sF:bS P w K mg base "follow_give" qaJ 4 (i8 K 3 (AI ak cFrame cLayout)))(vY:bS P w K mg base "follow_new" qaJ 4 (i8 K 3 (Ic ak cFrame cLayout)))(vZ:bS P w K mg base "follow_set" qaJ 4 (i8 K 3 (Ie ak cFrame cLayout (NK.bu P w))))(sG:bS P w K mg base "follow_call" qaJ 4 (i8 K 3 (AH ak cFrame cLayout)))(sH:bS P w K mg base "follow_fail" qaJ 1 (i8 K 3 (AF ak cFrame cLayout)))(o4:bS P w K mg base "follow_choice" qaJ 2 (i8 K 3 (vQ ak cFrame cLayout))):bS P w K mg base "done_row" qaL 5 (i8 K 1 (Oh ak cFrame cLayout (NK.bu P w))):=by
 refine D.gx (EW D.F oE rfl (by decide) λbA A outer s H E M0 nE hr us s0 q hG hl=>?_);obtain⟨yI,jR,wF,a0,qV⟩:=M0;have lH:qV=0:=nE;subst lH;have nd:=oE.nd;have hu:=bz.fU hr;have ag:=M1;obtain⟨aF,f1,f2,f3,f4,f5,f6,f7,f8,f9,yO,e1,e2,e3,e4,e5,e6,e7,e8,e9,v5⟩:=M2.ex;have yP:∀f' G,EY ak cFrame cLayout (NK.bu P w) f1 f2 f3 f4 f5 f6 f7 f8 f9 f' G->PySem.W.keepIn K (.ref f')=true/\∃fd ps,Binds K fd ps []/\cA P w K mg base eV 4 f' fd ps (i8 K 3 G):=by
  intro f' G h;cases h with
  |plain=>exact iV du e1 (by decide)
  |give=>exact iV sF e2 (by decide)
  |name=>exact iV cJ e3 (by decide)
  |do_=>exact iV yN e4 (by decide)
  |new=>exact iV vY e5 (by decide)
  |set=>exact iV vZ e6 (by decide)
  |call=>exact iV sG e7 (by decide)
  |fail=>exact iV sH e8 (by decide)
  |choice=>exact iV o4 e9 (by decide)
 refine⟨_,(ck (eF λ_=>(bq (i:=2) nd rfl (Or.inl rfl) (qau (i6 (bJ hu (qas (aC (aa 1) (qas af))) (qas aG)) (aC (aa 1) (qas af)) (aH AN hr (ae (aq 1) ar)))) oq))
  (DD.weak (u:=(cutD ak cFrame cLayout a0 (NK.bu P w))) (ck (eF λ_=>(bq (i:=3) nd rfl (Or.inl rfl) (qau (dA g9 jo (by rfl) M.tuple j8 (aA (qas (gT (ts:=["part"]) rfl (by rfl) (jq (aq 2)) (λ_ _ _ _ _ _=>(bE (i:=5) rh rfl (Or.inl rfl) oq)) (λ_ _ _ _ _ _=>eC) (λ_ _ _ _ _ _=>(qat (aH AO hr (ae (aq 0) (ae (aq 5) ar))))))) aM))) oq))
  (DD.weak (u:=(acR ak cFrame cLayout a0 (NK.bu P w))) (ck (eF λ_=>(bq (i:=4) nd rfl (Or.inl rfl) (qau (aH Eh hr (ae (aq 0) (ae (aq 1) (ae (aq 3) ar))))) oq))
  (ck (eF λ_=>(bt (VW.vc (fj (xv (qas (a4 ag.cl ag.vM (bH (aa 0)))) (qas dh)) (dU (bJ hu (qas (aC (qas (a4 ag.cl ag.vM (bH (aa 0)))) (qas af))) (qas (aT aO aP (by rfl) M.len ji (aA (qas (a4 ag.cl ag.jQ (bH (aa 0)))) aM)))))))
   (aw (bq (i:=4) nd rfl (Or.inl rfl) (qau (aC (qas (a4 ag.cl ag.vM (bH (aa 0)))) (qas af))) oq))
   aV))
  (ck (DG (jy ag.cl ag.jQ (kW)) (λ_=>(qat (br (ae (qat (a4 ag.cl ag.cH (bH (aa 0)))) (ae (aq 3) (ae (aq 4) ar)))))))
  (bM (GX yP (hr.mono (by decide)) (λ_=>qat (Ha (by rfl) yO v5 (qas (aC (aa 1) (qas af))))) (λ_=>(ae (aq 1) (ae (aq 3) (ae (aq 4) ar)))) rfl))))) ?w2)) ?w1)),?main⟩
 case w1=>
  rintro d ρ st ⟨rs,r,s,most,P',rfl,rfl,hP,W,I,cU,hs,MB,hq⟩;have Cs:=W.ok r (gH cU);have oO:=AK Cs;have oL:=Mw Cs;rw[Jx,gP];obtain rfl|rfl:=hP
  all_goals
   refine⟨rfl,by rw[cV];exact wC (by omega),?_⟩;refine dZ (f:=gz) (u:=λo=>vT (look s.f.ev o)) (λo ho k hk=>?_) ?_;exact⟨rfl,a0,_,_,_,s.fs,s.f,_,_,_,_,_,o,_,rfl,oO o ho,I.ev,by omega,hk⟩;exact⟨by rw[gP];rfl,rs,r,s,most,_,by rw[gP];rfl,rfl,W,I,cU,hs,MB,hq⟩
 case w2=>
  rintro d ρ st ⟨rs,r,s,most,P',rfl,rfl,W,I,cU,hs,MB,hq⟩;have Cs:=W.ok r (gH cU);have oO:=AK Cs;have rd:=BM Cs hs;have Jt:bR (rN s.f.ev s.ce s.ct s.pl r)=true:=by unfold rN;have:=AL s r;simp only[bR] at this;simp only[bR,dG,this,Aq,Jl]
  have fol:∀x2:Option (T×Bool),fT (Wo [("def",.ob f1),("give",.ob f2),("put",.ob f3),("do",.ob f4),("new",.ob f5),("get",.ob f3),("set",.ob f6),("call",.ob f7),("fail",.ob f8),("if",.ob f9),("while",.ob f9)] (fT (VT.f2 (xh 1) (fT (fC (.int 0))) U9))) (MA a0 (My ak cFrame cLayout (NK.bu P w) rs most s r) s r x2) λt=>∃f G,t=.ob f/\EY ak cFrame cLayout (NK.bu P w) f1 f2 f3 f4 f5 f6 f7 f8 f9 f G/\(dF (jd 1) (dF (jd 3) (dF (jd 4) oQ))) (MA a0 (My ak cFrame cLayout (NK.bu P w) rs most s r) s r x2) λus=>us.length=3/\G us (My ak cFrame cLayout (NK.bu P w) rs most s r) λs' _=>d.nx (kU ⟨yI,jR,wF,a0,0⟩ (MA a0 (My ak cFrame cLayout (NK.bu P w) rs most s r) s r x2) s') s':=λx2=>by
   have Tt:vX ak cFrame cLayout (NK.bu P w) rs most (λs'=>d.nx (kU ⟨yI,jR,wF,a0,0⟩ (MA a0 (My ak cFrame cLayout (NK.bu P w) rs most s r) s r x2) s') s') (cD rs r s):=by
    cases hd:cD rs r s with
    |inl s'=>rw[hd] at hq;exact hq _
    |inr R=>rw[hd] at hq;exact λfr ce ct pl=>hq fr ce ct pl _
   obtain⟨f',G,h1,h2,h3⟩:=R9 (q:=λs' _=>d.nx (kU ⟨yI,jR,wF,a0,0⟩ (MA a0 (My ak cFrame cLayout (NK.bu P w) rs most s r) s r x2) s') s') W I cU hs MB Tt;obtain⟨l,el⟩:=kc r;unfold MA at h3 ⊢;rw[el] at h3 ⊢;exact⟨_,aj (j:=0) rfl,_,h1,f',G,rfl,h2,rfl,h3⟩
  have acS:∀t,∀x∈MA a0 (My ak cFrame cLayout (NK.bu P w) rs most s r) s r (j' (some (t,false))),fN x:=λt x hx=>by
   simp only[MA,cT,gb,or_false] at hx;obtain rfl|rfl|rfl|rfl|rfl:=hx
   trivial;exact RZ (some (aW r));show fN (if bR t=true then some (t,false) else none);split;exact RZ (some t);trivial;trivial;exact RZ (some (Yn s r))
  rw[Jx,gP];refine⟨rfl,a0,_,_,_,_,s.ce,s.ct,s.dn,s.pl,_,s.f.ev,r,_,rfl,rd,oO,I.ev,by rw[gP];rfl,?_⟩;refine⟨rfl,_,rfl,by rw[gP];rfl,?_⟩;refine⟨s.dn.map .lf,Ar,by rw[cV];omega,?_⟩;refine⟨rfl,_,rfl,Gen.cp rfl,Jt,rO rfl,?_⟩;refine AE (ρ':=MA a0 (My ak cFrame cLayout (NK.bu P w) rs most s r) s r (j' (some (P',false)))) Rj ?_ ?_;show [_,j' (some (aW r,false)),j' (some (_,false)),j' (some (WY s r,false)),j' (some (Yn s r,false))]=_;rw[eS (mq r),eS (AL s r),eS (Aq _)];rfl;exact⟨acS _,fol _⟩
 case main=>
  obtain⟨rs,r,s,most,rfl,rfl,W,I,cU,hs,MB,hq⟩:=hG;have Cs:=W.ok r (gH cU);have Tt:vX ak cFrame cLayout (NK.bu P w) rs most (λs'=>∀ρ':En,q s' .aQ) (cD rs r s):=by
   cases hd:cD rs r s with
   |inl s'=>rw[hd] at hq;exact λ_=>hq
   |inr R=>rw[hd] at hq;exact λfr ce ct pl _=>hq fr ce ct pl
  by_cases Pw:∃f ps,r=.df f ps;obtain⟨f',ps,rfl⟩:=Pw;exact⟨_,aj (j:=0) rfl,_,aj (j:=2) rfl,rfl,rs,_,s,most,_,rfl,rfl,.inl (by rw[gi,Bh];rfl),W,I,cU,hs,MB,Tt⟩;obtain⟨l,el⟩:=kc r;have hw:decide (wd r="def")=false:=by cases r<;>first|rfl|exact absurd ⟨_,_,rfl⟩ Pw
  obtain⟨o1,o2⟩:=Mx Cs (λf ps z=>Pw ⟨f,ps,z⟩);rw[el];refine⟨_,aj (j:=0) rfl,cO (λh=>absurd h (of_decide_eq_false hw)) (λ_=>?_)⟩;exact⟨rfl,r,by rw[el],o2,rfl,rs,r,s,most,_,by rw[el];rfl,rfl,.inr (congrArg T.lst o1),W,I,cU,hs,MB,Tt⟩
noncomputable abbrev Io:qai:=qaL
theorem Cv:az Io ["machine"] (ah vL):=L2.gg
theorem MC(D:Df K mg "step" vL ["machine"] f fd)(M:MgS K mg)(M1:yE K ak)(M2:LN K cLayout)(iU:bS P w K mg base "row_behind" qaA 1 (cW K 2 (D' cLayout)))(AQ:bS P w K mg base "done_row" qaL 5 (i8 K 1 (Oh ak cFrame cLayout (NK.bu P w)))):bS P w K mg base "step" ["machine"] 6 (i8 K 0 (Oi ak cFrame cLayout (NK.bu P w))):=by
 refine D.gx (EW D.F Cv rfl (by decide) λbA A outer s H E M0 nE hr us s0 q hG hl=>?_);obtain⟨yI,jR,wF,a0,qV⟩:=M0;have lH:qV=0:=nE;subst lH;have nd:=Cv.nd;have ag:=M1;have ax:=M2;obtain⟨aS,mS,hS⟩:=M.R7;have Ip:∀{H':Hp}{pos},VP (gh eV P w K mg base Io "step" (ah vL) f bA A outer s H E).pB ⟨H',[],wF⟩ (.Name "SILENT" pos) (fC (.tup [.str "else",.str "end",.str "skip"])):=λ{H' pos}=>iJ (by rfl) mS (v:=.ref aS) rfl λH A=>cv (hS H) (aB.cons c_ (aB.cons c_ (aB.cons c_ aB.nil)));refine⟨_,(ck (eF λ_=>(bq (i:=1) nd rfl (Or.inl rfl) (qau (aC (qas (a4 ax.cl ax.c4 (qas (a4 ag.cl ag.eQ (bH (aa 0)))))) (qas (a4 ag.cl ag.cH (bH (aa 0)))))) oq))
  (bM (tO (λ_=>(tI (qas (aC (aa 1) (qas af))) (qas Ip)))
   (bM (hW ag.cl ag.cH (λ_=>(qat (aH iU hr (ae (qat (a4 ag.cl ag.eQ (bH (aa 0)))) (ae (qat (a4 ag.cl ag.cH (bH (aa 0)))) ar))))) rfl))
   (bM (tO (λ_=>(U8 (qas (aT aO aP (by rfl) M.len ji (aA (qas (a4 ag.cl ag.jQ (bH (aa 0)))) aM))) (qas (a4 ag.cl ag.H_ (bH (aa 0))))))
    (bM (hW ag.cl ag.gZ (λ_=>(qat (br (ae (qat aG) (ae (qat af) ar))))) rfl))
    (bM (eG AQ hr (λ_=>(ae (aq 1) ar)) rfl))))))),?_⟩
 obtain⟨rs,l,most,rfl,rfl,W,I,MB,hq⟩:=hG;obtain⟨r,cU⟩:∃r,rs[l.pl]?=some r:=⟨_,kD I.pl⟩;unfold ix at hq;rw[cU] at hq;dsimp only at hq;rw[Jx,gP];refine⟨rfl,_,rfl,rfl,_,rfl,rfl,_,rfl,_,jF cU,by rw[gP];rfl,?_⟩;have acT:jf r=true->1<=dp (bw rs) l.pl:=λhs=>by
  obtain z|⟨f,ps,z⟩:=I.ins
  exact z;rw[cU] at z;cases z;cases hs
 have acU:jf r=true->q (c7 ak cFrame (bY cLayout rs) (most:Int) .aQ (l.fs++[l.f]) (Ce.s (NK.bu P w) l.ce) l.ct l.dn (.int (Am rs l.pl)) .aQ) .aQ:=λhs=>by obtain⟨k,h1,_,_,_⟩:=Ik W.B cU hs (acT hs);rw[if_pos hs] at hq;have d9:q (c7 ak cFrame (bY cLayout rs) (most:Int) .aQ (l.fs++[l.f]) (Ce.s (NK.bu P w) l.ce) l.ct l.dn (.int (((Am rs l.pl).toNat:Nat):Int)) .aQ) .aQ:=hq;rw[h1] at d9 ⊢;exact d9
 have acV:jf r=false->(most:Int)<=(l.dn.length:Int)->q (c7 ak cFrame (bY cLayout rs) (most:Int) .aQ (l.fs++[l.f]) (Ce.s (NK.bu P w) l.ce) l.ct l.dn (.int ((l.pl:Nat):Int)) dI) .aQ:=λh1 h2=>by rw[if_neg (by rw[h1];exact iD),if_pos (by omega)] at hq;exact hq _ _ _ _
 have WZ:jf r=false->¬ (most:Int)<=(l.dn.length:Int)->vX ak cFrame cLayout (NK.bu P w) rs most (λs'=>q s' .aQ) (cD rs r l):=λh1 h2=>by rw[if_neg (by rw[h1];exact iD),if_neg (by omega)] at hq;exact hq
 obtain⟨l',el⟩:=kc r;have hsl:wz (.str (wd r)) [.str "else",.str "end",.str "skip"]=jf r:=by cases r<;>rfl
 rw[el];cases hs:jf r with
 |true=>refine⟨_,aj (j:=0) rfl,rfl,rfl,Dp (c:=wz (.str (wd r)) [.str "else",.str "end",.str "skip"]) (hsl.trans hs) ?_⟩;exact⟨rfl,_,rfl,rfl,_,rfl,rfl,rs,l.pl,r,rfl,W.B,cU,rfl,rO rfl,_,_,7,_,rfl,(by show 9<1000;decide),rfl,rfl,acU hs⟩
 |false=>refine⟨_,aj (j:=0) rfl,rfl,rfl,eW (c:=wz (.str (wd r)) [.str "else",.str "end",.str "skip"]) (hsl.trans hs) ?_⟩;refine⟨rfl,_,rfl,rfl,_,rfl,cO (λh=>?_) (λh=>?_)⟩;have h':(most:Int)<=(l.dn.length:Int):=h;refine⟨Gen.cp rfl,rfl,rO rfl,_,_,8,_,rfl,(by show 9<1000;decide),rfl,rfl,?_⟩;exact acV hs h';have h':¬ (most:Int)<=(l.dn.length:Int):=h;exact⟨rO rfl,rfl,rs,r,l,most,by rw[el];rfl,rfl,W,I,cU,hs,MB,WZ hs h'⟩
end
theorem Iq(e:Ev)(ce:Ce)(c:Ct)(p:Nat)(r:Rw):bR (rN e ce c p r)=true:=by unfold rN;have:dG ((gi r).map λo=>vT (look e o))=true:=eJ (f:=λo=>vT (look e o)) (λo=>dY _) _;simp only[bR,dG,this,Aq,Jl]
theorem rj:∀{a b:qaj},dG a=true->dG b=true->dG (a++b)=true
 |[],b,_,h=>h
 |t::a,b,h1,h2=>by simp only[dG,lL] at h1;simp only[Nf,dG,h1.1,rj h1.2 h2,Jl]
def sI(t:T):Prop:=(∃v,t=i_ v)\/t=qF\/t=dI\/∃w,t=t4 w
theorem sI.bR{t:T}(h:sI t):bR t=true/\qk t=false:=by
 obtain⟨v,rfl⟩|rfl|rfl|⟨w,rfl⟩:=h
 exact⟨by unfold i_;simp only[VT.bR,dG,dY];rfl,rfl⟩;exact⟨rfl,rfl⟩;exact⟨rfl,rfl⟩;exact⟨rfl,rfl⟩
section
theorem fF(W:Wl rs){s:Lv}(I:oZ rs s)(hr:rs[s.pl]?=some r)(hs:jf r=false):match cD rs r s with
  |.inl s'=>s'.dn=s.dn++[rN s.f.ev s.ce s.ct s.pl r]
  |.inr R=>R.1=s.dn++[rN s.f.ev s.ce s.ct s.pl r]/\sI R.2/\R.2≠dI:=by
 cases r with
 |df f ps=>exact rfl
 |put x a=>exact rfl
 |get x y k=>exact rfl
 |set y k a=>exact rfl
 |new x=>exact rfl
 |kY a=>exact rfl
 |gm a=>exact rfl
 |fail w=>exact⟨rfl,.inr (.inr (.inr ⟨w,rfl⟩)),by unfold t4 dI;intro e;injection e with e;injection e with e1 _;injection e1 with e1;exact absurd e1 (by decide +kernel)⟩
 |lK x a op b=>
   unfold cD;dsimp only;cases Ap op (look s.f.ev a) (look s.f.ev b) with
   |none=>exact⟨rfl,.inr (.inl rfl),by unfold qF dI;intro e;injection e with e;injection e with e1 _;injection e1 with e1;exact absurd e1 (by decide +kernel)⟩
   |some v=>exact rfl
 |give a=>
   obtain⟨h0,h1⟩|⟨gs,g,c,x,y,as,h0,h1,h2,h3,h4⟩:=I.ca.inv
   unfold cD;dsimp only;rw[h1];exact⟨rfl,.inl ⟨_,rfl⟩,by unfold i_ dI;intro e;injection e with e;injection e with e1 _;injection e1 with e1;exact absurd e1 (by decide +kernel)⟩;unfold cD;dsimp only;rw[h1,h0,JA];dsimp only;rw[h2]
 |call x g as=>obtain⟨p,ps,q1,q2,q3⟩:=W.D.ca s.pl x g as hr;unfold cD;dsimp only;rw[W.D.first q2];dsimp only;rw[q2]
 |_=>cases hs
theorem cK(W:Wl rs){s:Lv}(I:oZ rs s):(∃s',oZ rs s'/\s'.dn=s.dn/\∀most,ix rs most s=.inl s')\/∃r,rs[s.pl]?=some r/\jf r=false/\∀most,ix rs most s=if most<=s.dn.length then .inr (s.dn,dI) else cD rs r s:=by
 obtain⟨r,hr⟩:∃r,rs[s.pl]?=some r:=⟨_,kD I.pl⟩;by_cases hs:jf r=true
 left
 rcases q_ W I (most:=0) with⟨s',h1,h2,h3⟩|⟨R,h⟩
 unfold ix at h1;rw[hr] at h1;dsimp only at h1;rw[if_pos hs] at h1;cases h1;exact⟨_,h2,rfl,λmost=>by unfold ix;rw[hr];dsimp only;rw[if_pos hs]⟩;unfold ix at h;rw[hr] at h;dsimp only at h;rw[if_pos hs] at h;cases h;exact .inr ⟨r,hr,by simpa using hs,λmost=>by unfold ix;rw[hr];dsimp only;rw[if_neg hs]⟩
theorem pw.det:∀{n m:Nat}{s:Lv}{R R':Res},pw rs most n s R->pw rs most m s R'->R=R':=by
 intro n m s R R' h;induction h generalizing m R' with
 |fin h=>
  intro h';cases h' with
  |fin h2=>rw[h] at h2;exact Sum.inr.inj h2
  |go h2 k=>rw[h] at h2;cases h2
 |go h k ih=>
  intro h';cases h' with
  |fin h2=>rw[h] at h2;cases h2
  |go h2 k2=>rw[h] at h2;cases h2;exact ih k2
theorem pw.tells(W:Wl rs){s:Lv}{R:Res}(h:pw rs most n s R):oZ rs s->dG s.dn=true->s.dn.length<=most->dG R.1=true/\sI R.2/\R.1.length<=most/\(R.2=dI->R.1.length=most)/\∃l,R.1=s.dn++l:=by
 induction h with
 |@fin s R h=>
  intro I hi hl;rcases cK W I with⟨s',_,_,h2⟩|⟨r,hr,hs,h2⟩
  rw[h2] at h;cases h;rw[h2] at h;split at h
  rename_i hm
  cases h;exact⟨hi,.inr (.inr (.inl rfl)),hl,λ_=>by show s.dn.length=most;omega,[],by simp⟩;have:=fF W I hr hs;rw[h] at this;obtain⟨e1,e2,e3⟩:=this;rw[e1];exact⟨rj hi (by simp only[dG,Iq,Jl]),e2,by simp;omega,λz=>absurd z e3,_,rfl⟩
 |@go n s s' R h k ih=>
  intro I hi hl;rcases cK W I with⟨s2,I2,e2,h2⟩|⟨r,hr,hs,h2⟩
  rw[h2] at h;cases h;have:=ih I2 (by rw[e2];exact hi) (by rw[e2];exact hl);rw[e2] at this;exact this;rw[h2] at h;split at h;cases h;have e:=fF W I hr hs;rw[h] at e;have e':s'.dn=_:=e;rcases iB W I hr hs with⟨s3,h3,I3,_⟩|⟨R3,h3⟩
  rw[h] at h3;cases h3;obtain⟨g1,g2,g3,g4,l,g5⟩:=ih I3 (by rw[e'];exact rj hi (by simp only[dG,Iq,Jl])) (by rw[e'];simp;omega);exact⟨g1,g2,g3,g4,rN s.f.ev s.ce s.ct s.pl r::l,by rw[g5,e'];simp⟩;rw[h] at h3;cases h3
theorem pw.grow(W:Wl rs){s:Lv}{R:Res}(h:pw rs most n s R):oZ rs s->∃l,R.1=s.dn++l:=by
 induction h with
 |@fin s R h=>
  intro I;rcases cK W I with⟨s',_,_,h2⟩|⟨r,hr,hs,h2⟩
  rw[h2] at h;cases h;rw[h2] at h;split at h;cases h;exact⟨[],by simp⟩;have:=fF W I hr hs;rw[h] at this;exact⟨_,this.1⟩
 |@go n s s' R h k ih=>
  intro I;rcases cK W I with⟨s2,I2,e2,h2⟩|⟨r,hr,hs,h2⟩
  rw[h2] at h;cases h;have:=ih I2;rw[e2] at this;exact this;rw[h2] at h;split at h;cases h;have e:=fF W I hr hs;rw[h] at e;have e':s'.dn=_:=e;rcases iB W I hr hs with⟨s3,h3,I3,_⟩|⟨R3,h3⟩
  rw[h] at h3;cases h3;obtain⟨l,g5⟩:=ih I3;exact⟨rN s.f.ev s.ce s.ct s.pl r::l,by rw[g5,e'];simp⟩;rw[h] at h3;cases h3
theorem pw.more(W:Wl rs){o:Nat}{s:Lv}{R:Res}(h:pw rs most n s R):oZ rs s->s.dn.length<=most->R.2≠dI->R.1.length<=o->pw rs o n s R:=by
 induction h with
 |@fin s R h=>
  intro I hl hc ho;rcases cK W I with⟨s',_,_,h2⟩|⟨r,hr,hs,h2⟩
  rw[h2] at h;cases h;rw[h2] at h;split at h;cases h;exact absurd rfl hc;have:=fF W I hr hs;rw[h] at this;refine .fin ?_;rw[h2,if_neg ?_];exact h;have e:=this.1;rw[e] at ho;simp at ho;omega
 |@go n s s' R h k ih=>
  intro I hl hc ho;rcases cK W I with⟨s2,I2,e2,h2⟩|⟨r,hr,hs,h2⟩
  rw[h2] at h;cases h;exact .go (h2 o) (ih I2 (by rw[e2];exact hl) hc ho);rw[h2] at h;split at h;cases h;have e:=fF W I hr hs;rw[h] at e;have e':s'.dn=_:=e;rcases iB W I hr hs with⟨s3,h3,I3,hl3⟩|⟨R3,h3⟩
  rw[h] at h3;cases h3;obtain⟨l,g5⟩:=k.grow W I3;have C1:s.dn.length<o:=by rw[g5,nX] at ho;omega
  exact .go (by rw[h2,if_neg (by omega)];exact h) (ih I3 (by omega) hc ho);rw[h] at h3;cases h3
theorem pw.less(W:Wl rs){o:Nat}{s:Lv}{R:Res}(h:pw rs most n s R):oZ rs s->s.dn.length<=o->o<R.1.length->∃n',pw rs o n' s (R.1.take o,dI):=by
 induction h with
 |@fin s R h=>
  intro I hl ho;rcases cK W I with⟨s',_,_,h2⟩|⟨r,hr,hs,h2⟩
  rw[h2] at h;cases h;rw[h2] at h;split at h;cases h;have jb:o<s.dn.length:=ho;omega;have:=fF W I hr hs;rw[h] at this;have e:=this.1;rw[e] at ho ⊢;simp at ho;have eo:o=s.dn.length:=by omega
  subst eo;exact⟨0,.fin (by rw[h2,if_pos (c3 _),List.take_left])⟩
 |@go n s s' R h k ih=>
  intro I hl ho;rcases cK W I with⟨s2,I2,e2,h2⟩|⟨r,hr,hs,h2⟩
  rw[h2] at h;cases h;obtain⟨n',hn⟩:=ih I2 (by rw[e2];exact hl) ho;exact⟨n'+1,.go (h2 o) hn⟩;rw[h2] at h;split at h;cases h;have e:=fF W I hr hs;rw[h] at e;have e':s'.dn=_:=e;rcases iB W I hr hs with⟨s3,h3,I3,hl3⟩|⟨R3,h3⟩
  rw[h] at h3;cases h3;by_cases eo:o=s.dn.length;subst eo;obtain⟨l,g5⟩:=k.grow W I3;refine⟨0,.fin ?_⟩;rw[h2,if_pos (c3 _),g5,e',OD,List.take_left];obtain⟨n',hn⟩:=ih I3 (by omega) ho;exact⟨n'+1,.go (by rw[h2,if_neg (by omega)];exact h) hn⟩;rw[h] at h3;cases h3
theorem pw.ext(W:Wl rs){o n':Nat}{s:Lv}{R R':Res}(I:oZ rs s)(hi:dG s.dn=true)(hl:s.dn.length<=most)(ho:most<=o)(h:pw rs most n s R)(hc:R.2=dI)(h':pw rs o n' s R'):∃l,R'.1=R.1++l:=by
 obtain⟨_,_,g3,g4,_⟩:=h.tells W I hi hl;obtain⟨_,_,k3,k4,_⟩:=h'.tells W I hi (by omega);have e:=g4 hc;by_cases hm:most<R'.1.length;obtain⟨m,hm'⟩:=h'.less W I hl hm;have:=h.det hm';rw[this];exact⟨R'.1.drop most,(Xz most R'.1).symm⟩;by_cases lC:R'.2=dI;have:=k4 lC;have eo:o=most:=by omega
 subst eo;rw[h.det h'];exact⟨[],by simp⟩;have:=h.det (h'.more W I (by omega) lC (by omega));rw[this];exact⟨[],by simp⟩
end
end Rg
namespace Rg
open PySem L2 VT Gen K5 Lay
open jC (Ed Vl vT nm dH RI)
noncomputable def AR(ins:qan):List Vl:=ins.map λi=>.num (dH i)
noncomputable def Tz(a:Nat)(ps:qai)(ins:qan):Lv:=⟨[],⟨none,cq ps (AR ins) ps.length⟩,⟨[],[]⟩,⟨[],[]⟩,[],a⟩
inductive gd(rs:qal)(ins:qan)(most:Nat):Res->Prop where
 |bare (h:eO rs=none):gd rs ins most ([],i_ (.num 0))
 |nH {a n:Nat} {f:Str} {ps:qai} {R:Res} (h:eO rs=some a) (hd:rs[a]?=some (.df f ps)) (k:pw rs most n (Tz a ps ins) R):gd rs ins most R
def gPk(ts:qaj)(q:qaj->T->Prop):Prop:=∃rs ins most R,ts=[.lst (rs.map aW),.lst (ins.map .int),.int ((most:Nat):Int),.aQ]/\Wl rs/\ins.length<=100/\most<=900/\gd rs ins most R/\q R.1 R.2
theorem v7(W:Wl rs){a:Nat}{f:Str}(hd:rs[a]?=some (.df f ps))(ins:qan):oZ rs (Tz a ps ins):=by have R5:=W.ok _ (gH hd);refine⟨(dS.mp hd).1,.inr ⟨f,ps,hd⟩,?_,(λg hg=>nomatch hg),c3 _,⟨c3 _,(λv hv=>nomatch hv)⟩,c3 _,.main rfl⟩;refine (vW ps _ (λv hv=>?_) ps.length).up (by have:=R5.1;show _<=100+0;omega);obtain⟨i,_,rfl⟩:=sS.mp hv;exact Rg.Hv i
def W0(P:Program)(w:World)(K:qaf)(mg:qae)(base:Heap)(C:Addr)(GL:qaj->(T->Prop)->Prop)(k:Nat):Prop :=
 ∃f fd,Mk K C f/\mg "Machine"=some (.ref C)/\Binds K fd qav []/\cA P w K mg base eV k f fd qav (spK K C (.dc (NK.bu P w) [] []) GL)
noncomputable def TB(a:Addr)(most:Nat)(m:T)(s:S):En:=[none,none,some (.int (most:Int),false),some (.aQ,false),some (.pin a s.t,false),some (m,false)]
section
variable{cLayout cFrame ak:Addr}
noncomputable abbrev Ei:qai:=qav
theorem AS:az Ei qav (ah iy):=L2.gg
theorem AU(D:Dc K mg "Machine" "Machine.__init__" iy qav ak f fd)(L:yE K ak)(Ir:GA P w K mg base "Layout" cLayout qaz 2 1 (mF cLayout)):W0 P w K mg base ak (mF cLayout) 4:=by obtain⟨W2,TC,Iu,Iv,Iw,Iy⟩:=Ir;exact⟨f,fd,D.M,D.m,D.b,fnK D.F AS rfl λbA A outer s H E hr=>GZ (.inr ⟨_,rfl⟩) Iu Iy (hr.mono (by decide)) (by rfl) Iv Iw L.cl L.eQ L.H_ L.vM L.jP L.vN L.mO L.jQ L.cH L.gZ⟩
noncomputable abbrev jX:qai:=["program","inputs","most","poke","machine","main"]
theorem mQ:az jX qaM (ah gY):=L2.gg
theorem o5:(jX++(["number"]:qai)).Nodup:=by decide +kernel
theorem v8(D:Df K mg "run_poked" gY qaM f fd)(ag:yE K ak)(ax:LN K cLayout)(Ej:W0 P w K mg base ak (mF cLayout) 4)(vV:bS P w K mg base "enter" qaK 3 (i8 K 3 (AG ak cFrame cLayout)))(HY:bS P w K mg base "fit" qaB 1 (cW K 1 Ed))(R_:bS P w K mg base "step" ["machine"] 6 (i8 K 0 (Oi ak cFrame cLayout (NK.bu P w)))) :
  bS P w K mg base "run_poked" qaM 7 (Ti K 4 gPk):=by
 obtain⟨TF,Sa,Ek,El,Em,Eo⟩:=Ej;refine D.gx (fnR (GL:=mF cLayout) (cz:=.dc (NK.bu P w) [] []) (j:=4) (C:=ak) D.F mQ rfl (by decide) λbA A outer s H E hr t0 t1 t2 t3 q hG=>?_);have nd:=mQ.nd;obtain⟨rs,ins,most,R,et,W,Ad,Sb,hR,hq⟩:=hG;cases et;refine⟨_,λL=>L=bY cLayout rs,G3 (X:=(gh eV P w K mg base jX "run_poked" (ah gY) f bA A outer s H E).pB) (k:=4) nd rfl (Or.inl rfl) Ek Eo (hr.mono (by decide)) (by rfl) El Em (λH0 tw Ox a=>(qz (eF λ_=>(bq (i:=5) nd rfl (Or.inl rfl) (qau (a4 ax.cl ax.HJ (qas (a4 ag.cl ag.eQ (bH (aa 4)))))) oq))
   (qz (tO (λ_=>(xu (aa 5) (qas dh)))
     (bM (hW ag.cl ag.gZ (λ_=>(qat (br (ae (qat aG) (ae (qat af) ar))))) rfl))
     (bM (eG vV hr (λ_=>(ae (aq 5) (ae (qat dh) (ae (qat (gT (ts:=qaB) rfl (by rfl) (jq (aq 1)) (λ_ _ _ _ _ _=>(bE (i:=6) o5 rfl (Or.inl rfl) oq)) (λ_ _ _ _ _ _=>eC) (λ_ _ _ _ _ _=>(qat (aH HY hr (ae (aq 6) ar)))))) ar)))) rfl)))
   (qz (GU JC (λ_=>(xu (qas (a4 ag.cl ag.gZ (bH (aa 4)))) (qas dh)))
     (bM (eG R_ hr (λ_=>ar) rfl)))
   (Ll (jy ag.cl ag.jQ (kW)) (λ_=>(qat (a4 ag.cl ag.gZ (bH (aa 4)))))))))),by decide,rfl,rfl,⟨rs,rfl,W.B.W,W.n,rfl⟩,?_⟩
 rintro L rfl H0 tw Ox a;show N2 _ _ _ _ [some (.lst (rs.map aW),false),some (.lst (ins.map .int),false),some (.int (most:Int),false),some (.aQ,false),some (.pin a (c7 ak cFrame (bY cLayout rs) most .aQ [] (.dc (NK.bu P w) [] []) ⟨[],[]⟩ [] .aQ .aQ).t,false),none] (c7 ak cFrame (bY cLayout rs) most .aQ [] (.dc (NK.bu P w) [] []) ⟨[],[]⟩ [] .aQ .aQ);rw[gP];refine⟨rfl,_,rfl,rfl,_,rfl,by rw[gP];rfl,?_⟩;cases hR with
 |bare h=>rw[h];refine⟨Gen.cp rfl,rfl,rO rfl,_,_,8,_,rfl,(by show 9<1000;decide),rfl,rfl,?_⟩;refine⟨λ_ ρ s=>ρ=TB a most .aQ s/\s=c7 ak cFrame (bY cLayout rs) most .aQ [] (.dc (NK.bu P w) [] []) ⟨[],[]⟩ [] .aQ (i_ (.num 0)),⟨0,rfl,rfl⟩,?_⟩;rintro m ρ s ⟨rfl,rfl⟩;unfold TB;rw[gP];refine⟨rfl,_,rfl,?_⟩;exact⟨[],Ar,rfl,rfl,_,rfl,rfl,hq⟩
 |@nH a' n f' ps R' h hd k0=>
   rw[h];have R5:=W.ok _ (gH hd);have I0:=v7 W hd ins;obtain⟨t1,t2,_⟩:=k0.tells W I0 rfl (jj _);obtain⟨t3,hN⟩:=t2.bR;refine⟨rO rfl,rfl,wC (by rw[cV];omega),?_⟩;refine dZ (f:=T.int) (u:=λi=>.int (dH i)) (λi _ k hk=>⟨rfl,i,rfl,hk⟩) ?_;refine⟨rfl,rs,a',f',ps,AR ins,most,.aQ,[],_,_,_,_,none,_,rfl,.inl (by unfold AR;rw[Bh];rfl),rfl,hd,by have:=R5.1;omega,by decide,?_⟩;refine⟨λm ρ s=>(∃l,ρ=TB a most (.int ((a':Nat):Int)) s/\s=Jx ak cFrame cLayout (NK.bu P w) rs most l/\oZ rs l/\l.dn.length<=most/\∃m',m=m'+1/\pw rs most m' l R)\/(∃fr ce ct pl,ρ=TB a most (.int ((a':Nat):Int)) s/\s=c7 ak cFrame (bY cLayout rs) most .aQ fr ce ct R.1 pl R.2/\m=0),
    ⟨_,.inl ⟨Tz a' ps ins,rfl,rfl,I0,jj _,n,rfl,k0⟩⟩,?_⟩
   rintro m ρ s (⟨l,rfl,rfl,I,hl,m',rfl,hk⟩|⟨fr,ce,ct,pl,rfl,rfl,rfl⟩);unfold TB Jx;rw[gP];refine⟨rfl,_,rfl,?_⟩;refine⟨rO rfl,rfl,rs,l,most,rfl,rfl,W,I,by omega,?_⟩;cases hk with
   |fin h2=>rw[h2];exact λfr ce ct pl=>⟨0,by omega,.inr ⟨fr,ce,ct,pl,rfl,rfl,rfl⟩⟩
   |@go n' _ s' _ h2 k2=>
     have hs:oZ rs s'/\s'.dn.length<=most:=by
      rcases q_ W I (most:=most) with⟨s3,h3,I3,h4⟩|⟨R3,h3⟩
      rw[h2] at h3;cases h3;refine⟨I3,?_⟩;obtain⟨e1,e2⟩|⟨e1,_⟩:=h4
      omega;rw[e1];exact hl;rw[h2] at h3;cases h3
     rw[h2];exact⟨n'+1,by omega,.inl ⟨s',rfl,rfl,hs.1,hs.2,n',rfl,k2⟩⟩
   unfold TB;rw[gP];refine⟨rfl,_,rfl,?_⟩;refine eW (c:=qk R.2) hN ?_;exact⟨R.1,Ar,t1,rfl,_,rfl,t3,hq⟩
noncomputable abbrev W3:qai:=qaN
theorem Sd:az W3 qaN (ah gC):=L2.gg
def W4(ts:qaj)(q:qaj->T->Prop):Prop:=∃rs ins most R,ts=[.lst (rs.map aW),.lst (ins.map .int),.int ((most:Nat):Int)]/\Wl rs/\ins.length<=100/\most<=900/\gd rs ins most R/\q R.1 R.2
def Se(P:Program)(w:World)(K:qaf)(mg:qae)(base:Heap):Prop :=
 ∃f fd tk,mg "run"=some (.ref f)/\PySem.W.keepIn K (.ref f)=true/\Binds K fd qaN []/\Binds K fd qaN [.int 200 tk]/\cA P w K mg base eV 8 f fd qaN (Ti K 3 W4)
theorem Sf{tk:Tok}(F:G5 K "run" "run" gC f fd)(m:mg "run"=some (.ref f))(b:Binds K fd qaN [])(b2:Binds K fd qaN [.int 200 tk])(yQ:bS P w K mg base "run_poked" qaM 7 (Ti K 4 gPk)):Se P w K mg base:=by obtain⟨Oj,MD,yR,yS,yT,yU⟩:=yQ;refine⟨f,fd,tk,m,F.kp,b,b2,acH F Sd rfl (by decide) λbA A outer s H E Ox hr ts q hG hl=>?_⟩;obtain⟨rs,ins,most,R,rfl,W,Ad,Sb,hR,hq⟩:=hG;exact⟨_,_,_,rfl,jB yU (hr.mono (by decide)) (by rfl) yR yS yT .nil (dts:=[]) (λ_ _=>aB.nil) (ae (aq 0) (ae (aq 1) (ae (aq 2) (ae (qat dh) ar)))),rfl,rs,ins,most,R,rfl,W,Ad,Sb,hR,hq⟩
end
end Rg
namespace Sg
open PySem L2 VT Gen
open og (bQ C_ dD)
def one(c:Nat):Str:=⟨#[c]⟩
theorem empty_eq:(("":String):Str)=⟨#[]⟩:=by decide +kernel
theorem glue:∀l:qao,Txt.join "" (l.map one)=⟨l.toArray⟩
 |[]=>by decide +kernel
 |c::l=>by
  have ih:=glue l;unfold Txt.join at ih ⊢;rw[StrLaws.glued_eq_join] at ih ⊢;cases l with
  |nil=>rfl
  |cons d l=>rw[gR,gR];show one c++(("":String):Str)++Str.join _ (one d::l.map one)=_;rw[gR] at ih;rw[ih,empty_eq];show (⟨(#[c]++#[])++(d::l).toArray⟩:Str)=_;simp
noncomputable def bL(n:Int)(j:Nat):Nat:=sg (n / (7 * (j:Int)+3))
noncomputable def e_(n:Int):qai:=(List.range 8).map λj=>one (bL n j)
noncomputable def Sh(n:Int)(k:Nat):Str:=⟨((List.range (k+1)).map (bL n)).toArray⟩
noncomputable def sJ(n:Int)(p k j:Nat):Nat:=if j=p then sg (n / 5+(k:Int)) else bL n j
noncomputable def alt(n:Int)(sz p k:Nat):Str:=⟨((List.range sz).map (sJ n p k)).toArray⟩
structure v_(m:Nat)(ys:qai):Prop where
 l:ys.length=m
 nd:ys.Nodup
 nm:∀y∈ys,dD y=true
theorem rm(n:Int):(e_ n).length=8:=by simp[e_]
theorem yV(l:qao)(h1:1<=l.length)(h8:l.length<=8)(h:∀c∈l,C_ c=true):dD ⟨l.toArray⟩=true:=by
 unfold dD;have e:(⟨l.toArray⟩:Str).length=l.length:=by simp[Str.length]
 rw[e,decide_eq_true (by omega),decide_eq_true (by omega),T7,T7];exact OF.mpr h
theorem Si(n:Int)(hm:m<=8):v_ m ((List.range m).map (Sh n)):=by
 refine⟨by simp,?_,λy hy=>?_⟩;rw[List.Nodup,List.pairwise_map];refine List.Pairwise.imp_of_mem ?_ (List.nodup_range (n:=m));intro i j hi hj gK e;have e2:(Sh n i).length=(Sh n j).length:=by rw[e]
 simp[Sh,Str.length] at e2;exact gK e2;obtain⟨k,hk,rfl⟩:=sS.mp hy;have xO:=Bg.mp hk;refine yV _ (by simp) (by simp;omega) λc hc=>?_;obtain⟨j,_,rfl⟩:=sS.mp hc;exact B6 _
theorem Sj(n:Int){sz p:Nat}(h1:1<=sz)(h8:sz<=8)(hp:p<sz)(hm:m<=26):v_ m ((List.range m).map (alt n sz p)):=by
 refine⟨by simp,?_,λy hy=>?_⟩;rw[List.Nodup,List.pairwise_map];refine List.Pairwise.imp_of_mem ?_ (List.nodup_range (n:=m));intro i j hi hj gK e;have FH:=Bg.mp hi;have EU:=Bg.mp hj;have h2:(List.range sz).map (sJ n p i)=(List.range sz).map (sJ n p j):=by have:=congrArg (λy:Str=>y.cps.toList) e;exact this
 have h3:=congrArg (λl:qao=>l[p]?) h2;simp only[gJ,Jz hp,S3,Option.some.injEq,sJ,if_true] at h3;have h4:=He h3;omega;obtain⟨k,hk,rfl⟩:=sS.mp hy;refine yV _ (by simp;omega) (by simp;omega) λc hc=>?_;obtain⟨j,_,rfl⟩:=sS.mp hc;unfold sJ;split<;>exact B6 _
theorem ua(n:Int){k:Nat}(hk:k<=8):(e_ n).take k=((List.range k).map (bL n)).map one:=by unfold e_;rw[<- List.map_take,List.take_range,T4 hk,Bh];rfl
theorem Iz(n:Int){sz p k:Nat}(hsz:sz<=8)(hp:p<sz):((e_ n).take sz).set p (one (sg (n / 5+(k:Int))))=((List.range sz).map (sJ n p k)).map one:=by
 rw[ua n hsz,Bh,Bh];refine Nd λi=>?_;rw[T1,gJ,gJ];by_cases hi:i<sz;rw[Jz hi];by_cases e:p=i;subst e;rw[if_pos rfl,if_pos (by simpa using hp)];simp[sJ];rw[if_neg e];have:¬ i=p:=λz=>e z.symm;simp[sJ,this];rw[Jd (by simp;omega)];split;split
 rename_i h1 h2;omega
 rfl;rfl
end Sg
namespace dR
open PySem L2 VT Gen Sg
open og (bQ)
noncomputable def top(i:Nat):Stmt:=PySem.Challenge.pw_slicewise_k16_cut_anywhere.main.body.getD i (.Pass ⟨0,0,0,0⟩)
noncomputable abbrev nT:Stmt:=top 54
noncomputable abbrev wa:Stmt:=top 55
noncomputable abbrev rn:Stmt:=top 56
noncomputable abbrev nU:Stmt:=top 57
noncomputable abbrev IA:Stmt:=top 58
noncomputable abbrev rp:Stmt:=top 59
structure Mg(mg:qae):Prop where
 len:mg "len"=none
 range:mg "range"=none
 tuple:mg "tuple"=none
theorem wC(h:n<=1000):n<=sizeLine:=Gen.small h
noncomputable abbrev f_(ys:qai):T:=.lst (ys.map .str)
def iW(pl:Plan):T:=.lst (pl.map λp=>.tup [.str p.1,.int (p.2.length:Int)])
def Jy(n:Int):Prop:=0<=n/\n<2147483648
theorem Jy.div{n:Int}(h:Jy n){e:Int}(he:0<e):Jy (n / e):=⟨Int.ediv_nonneg h.1 (by omega),Int.lt_of_le_of_lt (Int.ediv_le_self _ h.1) h.2⟩
structure Ys(ys:qai):Prop where
 l3:3<=ys.length
 l8:ys.length<=8
 sm:∀y∈ys,y.length<=100
theorem Ys.at(h:Ys ys)(n:Int):∃y∈ys,jc (ys.map T.str) (n % ((ys.map T.str).length:Int))=some (T.str y):=by
 have e:((ys.map T.str).length:Int)=(ys.length:Int):=by rw[cV]
 have l3:=h.l3;have h0:0<=n % ((ys.map T.str).length:Int):=oK n (by omega);have h1:n % ((ys.map T.str).length:Int)<ys.length:=by rw[e];exact oJ n (by omega)
 obtain⟨j,hj⟩:=CB h0;have j5:j<ys.length:=by omega
 refine⟨ys[j],SV j5,?_⟩;rw[hj];refine aj ?_;rw[gJ,kD j5];rfl
theorem Ys.two(h:Ys ys)(n:Int):∃y∈ys,jc (ys.map T.str) (n % 2)=some (T.str y):=by
 have l3:=h.l3;have h0:0<=n % 2:=oK n (by decide);have h1:n % 2<2:=oJ n (by decide);obtain⟨j,hj⟩:=CB h0;have j5:j<ys.length:=by omega
 refine⟨ys[j],SV j5,?_⟩;rw[hj];refine aj ?_;rw[gJ,kD j5];rfl
theorem Ys.pos(h:Ys ys):(0:Int)<((ys.map T.str).length:Int):=by rw[cV];have:=h.l3;omega
def IB(ts:qaj)(q:qam):Prop:=∃(ns:qan)(j:Nat),ts=[.lst (ns.map .int),.int (j:Int)]/\q (.vw (.int (ns.getD j 0)))
def AV(ts:qaj)(q:qam):Prop:=∃(c:Int)(m:Nat),ts=[.int c,.int (m:Int)]/\m<=8/\∀ys,v_ m ys->q (.fr (f_ ys))
def Ol(ts:qaj)(q:qam):Prop:=∃c:Int,ts=[.int c]/\Jy c/\∀i,-1000000000000000000000000000000<=i/\i<1000000000000000000000000000000->q (.vw (.int i))
def yW(ts:qaj)(q:qam):Prop:=∃(c:Int)(ys:qai),ts=[.int c,f_ ys]/\Jy c/\Ys ys/\∀o,dQ ys o->q (.vw (gz o))
def W5(ts:qaj)(q:qam):Prop:=∃(c:Int)(ys:qai),ts=[.int c,f_ ys]/\Jy c/\Ys ys/\∀k,DP ys k->q (.vw (tS k))
def Om(ts:qaj)(q:qam):Prop:=∃(kd:Int)(c:Int)(ys:qai)(pl:Plan),ts=[.int kd,.int c,f_ ys,iW pl]/\Jy c/\Ys ys/\pl.length<=3/\(∀p∈pl,p.2.length<=4)/\∀r,ip ys pl r->q (.vw (aW r))
theorem AW(f:α->β)(l:List α)(k:Nat)(h:k<=l.length):fJ (l.map f) none (some (k:Int))=(l.take k).map f:=by unfold fJ;rw[cV,HT.j3,HT.Fh,T4 h,List.drop_zero,Nat.sub_zero,<- List.map_take]
theorem acW(l:qao):((l.map one).map (·.length)).sum=l.length:=by
 induction l with
 |nil=>rfl
 |cons c l ih=>rw[gR,gR,List.sum_cons,ih];show 1+l.length=l.length+1;omega
theorem Sk:((("":String):Str)).length=0:=by decide +kernel
theorem Oo{l:qao}(h:l.length<=100):((l.map one).map (·.length)).sum+(l.map one).length * ((("":String):Str)).length<=16777216:=by rw[acW,Sk];omega
section
noncomputable abbrev Ep:qai:=qaO
theorem rq:az Ep qaO (ah nT):=L2.gg
theorem AX(D:Df K mg "_law_cell_at" nT qaO f fd)(M:Mg mg):bS P w K mg base "_law_cell_at" qaO 1 (cW K 2 IB):=by
 refine D.gx (lJ D.F rq rfl λbA A outer s H E Ox hr ts q hG=>?_);have nd:=rq.nd;refine⟨_,(ai (bt (oi (aa 1) (qas (aT aO aP (by rfl) M.len ji (aA (aa 0) aM))))
    (aw (aJ (qau (aC (aa 0) (aa 1)))))
    aV)
   (aw (aJ (qau af)))),λ_=>?_⟩
 obtain⟨ns,j,rfl,hq⟩:=hG;refine xa (λh=>?_) (λh=>?_);have h':(j:Int)<((ns.map T.int).length:Int):=of_decide_eq_true h;rw[cV] at h';have hj:j<ns.length:=by omega
 refine⟨.int (ns.getD j 0),aj ?_,hq⟩;rw[gJ,kD hj,List.getD,kD hj];rfl;have h':¬ ((j:Int)<((ns.map T.int).length:Int)):=λz=>h (decide_eq_true z);rw[cV] at h';have e:ns.getD j 0=0:=by rw[List.getD,Jd (by omega)];rfl
 rw[e] at hq;exact hq
abbrev IC:qai:=["_law_cell"]
theorem ub:az IC ["_law_cell"] (ah rn):=L2.gg
theorem Er(D:Df K mg "_law_number" rn ["_law_cell"] f fd)(M:Mg mg):bS P w K mg base "_law_number" ["_law_cell"] 1 (cW K 1 Ol):=by
 refine D.gx (lJ D.F ub rfl λbA A outer s H E Ox hr ts q hG=>?_);have nd:=ub.nd;have hu:=bz.fU hr;refine⟨_,(ai (bt (bJ hu (qas (bj (aa 0) (qas af))) (qas af))
    (aw (aJ (qau (hJ (qas (bj (qas (jn (qas (bW (qas (gr (aa 0) (qas af))) (qas af))) (qas af))) (qas (gr (qas af) (qas (jn (qas af) (qas af))))))) (qas (jn (qas af) (qas af)))))))
    aV)
   (aw (aJ (qau (hJ (qas (bj (qas (a7 (aa 0) (qas af))) (qas af))) (qas af)))))),λ_=>?_⟩
 obtain⟨c,rfl,⟨h0,h1⟩,hq⟩:=hG;refine⟨by decide,cO (λ_=>?_) (λ_=>?_)⟩;refine⟨.inl ⟨by omega,by omega⟩,⟨by decide,by decide,by show (c * 48271+7).natAbs<2 ^ 64;omega⟩,⟨by decide,by decide,by decide⟩,.inl ⟨by decide,by decide⟩,by decide +kernel,⟨by decide,by decide,by decide⟩,hq _ ?_⟩;rw[Wr];have g0:=oK ((c * 48271+7) ^ (5:Int).toNat) (show (2 * 1000000000000000000000000000000:Int)≠0 by decide);have g1:=oJ ((c * 48271+7) ^ (5:Int).toNat) (show (0:Int)<2 * 1000000000000000000000000000000 by decide);exact⟨by omega,by omega⟩;refine⟨⟨by decide,by decide⟩,by decide,hq _ ?_⟩;have g0:=oK (c / 3) (show (7:Int)≠0 by decide);have g1:=oJ (c / 3) (show (0:Int)<7 by decide);exact⟨by omega,by omega⟩
noncomputable abbrev Es:qai:=qaP
theorem rA:az Es qaP (ah nU):=L2.gg
theorem AY(D:Df K mg "_law_operand" nU qaP f fd)(M:Mg mg)(ID:bS P w K mg base "_law_number" ["_law_cell"] 1 (cW K 1 Ol)):bS P w K mg base "_law_operand" qaP 2 (cW K 2 yW):=by
 refine D.gx (lJ D.F rA rfl λbA A outer s H E Ox hr ts q hG=>?_);have nd:=rA.nd;have hu:=bz.fU hr;refine⟨_,(ai (bt (bJ hu (qas (bj (aa 0) (qas af))) (qas af))
    (aw (aJ (qau (aC (aa 1) (qas (bj (qas (a7 (aa 0) (qas af))) (qas (aT aO aP (by rfl) M.len ji (aA (aa 1) aM)))))))))
    aV)
   (aw (aJ (qau (aH ID hr (ae (qat (a7 (aa 0) (qas af))) ar)))))),λ_=>?_⟩
 obtain⟨c,ys,rfl,R,Y,hq⟩:=hG;refine⟨by decide,cO (λ_=>?_) (λ_=>?_)⟩;obtain⟨y,hy,e⟩:=Y.at (c / 2);exact⟨⟨by decide,by decide⟩,Y.pos,_,e,hq (.nm y) hy⟩;exact⟨⟨by decide,by decide⟩,rfl,_,rfl,R.div (by decide),λi hi=>hq (.nu i) hi⟩
abbrev W6:qai:=qaP
theorem IE:az W6 qaP (ah IA):=L2.gg
theorem Sl(D:Df K mg "_law_key" IA qaP f fd)(M:Mg mg)(dC:bS P w K mg base "_law_operand" qaP 2 (cW K 2 yW)):bS P w K mg base "_law_key" qaP 3 (cW K 2 W5):=by
 refine D.gx (lJ D.F IE rfl λbA A outer s H E Ox hr ts q hG=>?_);have nd:=IE.nd;have hu:=bz.fU hr;refine⟨_,(ai (bt (bJ hu (qas (bj (aa 0) (qas af))) (qas af))
    (aw (aJ (qau (aH dC hr (ae (qat (a7 (aa 0) (qas af))) (ae (aq 1) ar))))))
    aV)
   (aw (aJ (qau (bW (qas aG) (qas (aC (aa 1) (qas (bj (qas (a7 (aa 0) (qas af))) (qas af)))))))))),λ_=>?_⟩
 obtain⟨c,ys,rfl,R,Y,hq⟩:=hG;refine⟨by decide,cO (λ_=>?_) (λ_=>?_)⟩;exact⟨⟨by decide,by decide⟩,rfl,_,ys,rfl,R.div (by decide),Y,λo ho=>hq (.op o) ho⟩;obtain⟨y,hy,e⟩:=Y.two (c / 3);refine⟨⟨by decide,by decide⟩,by decide,_,e,?_,hq (.fld y) hy⟩;rw[acI,sizeLine_eq];have:=Y.sm y hy;omega
noncomputable abbrev mM:qai:=["_law_cell","_law_many","_law_letters","_law_number_here","_law_size","_law_base","_law_names_here","_law_k","_law_here"]
theorem yX:az mM qaQ (ah wa):=L2.gg
theorem yY:((["_law_cell","_law_many","_law_letters","_law_number_here","_law_size","_law_base","_law_names_here","#_law_k","_law_here"]:qai)++(["_law_k"]:qai)).Nodup:=by decide +kernel
theorem yZ:((["_law_cell","_law_many","_law_letters","_law_number_here","_law_size","_law_base","_law_names_here","#_law_k","_law_here"]:qai)++(["_law_k"]:qai)).Nodup:=by decide +kernel
theorem y0:(["_law_cell","_law_many","_law_letters","_law_number_here","_law_size","_law_base","_law_names_here","#_law_k","_law_here"]:qai).Nodup:=by decide +kernel
theorem IF(D:Df K mg "_law_names" wa qaQ f fd)(M:Mg mg):bS P w K mg base "_law_names" qaQ 1 (cW K 2 AV):=by
 refine D.gx (lJ D.F yX rfl λbA A outer s H E Ox hr ts q hG=>?_);have nd:=yX.nd;have hu:=bz.fU hr;have np:∀{i:Nat},bN ⟨H,[],Ox⟩ i:=oq;have npf:∀{is:qao},∀i∈is,bN ⟨H,[],Ox⟩ i:=λi _=>oq;refine⟨_,(ai (bq (i:=2) nd rfl (Or.inr rfl) (qau aG) np)
  (ai (bq (i:=3) nd rfl (Or.inr rfl) (qau (bj (qas (gr (qas (bj (aa 0) (qas (jn (qas af) (qas af))))) (qas af))) (qas af))) np)
  (ai (bq (i:=4) nd rfl (Or.inl rfl) (qau (bW (qas af) (qas (bj (aa 3) (qas af))))) np)
  (ai (BZ 7 "#_law_k" np (bq (i:=5) y0 rfl (Or.inr rfl) (qau (gT (ts:=qaR) rfl (by rfl) (fq (by rfl) M.range (qas af)) (λ_ _ _ _ _ _=>(bE (i:=9) yY rfl (Or.inl rfl) np)) (λ_ _ _ _ _ _=>eC) (λ_ _ _ _ _ _=>(qat (aC (aa 2) (qas (bj (qas (a7 (aa 3) (qas (bW (qas (gr (qas af) (aa 9))) (qas af))))) (qas af)))))))) np))
  (ai (bt (bJ hu (qas (bj (qas (a7 (aa 3) (qas af))) (qas af))) (qas af))
   (aw (BZ 7 "#_law_k" np (aJ (qau (gT (ts:=qaR) rfl (by rfl) (fq (by rfl) M.range (aa 1)) (λ_ _ _ _ _ _=>(bE (i:=9) yZ rfl (Or.inl rfl) np)) (λ_ _ _ _ _ _=>eC) (λ_ _ _ _ _ _=>(qat (tM (qas aG) (aA (qas (fK (aa 5) j6 (fE (qas (bW (aa 9) (qas af)))))) aM)))))))))
   aV)
  (ai (gu (i:=6) nd rfl (Or.inl rfl) (qau (cY ar)) np)
  (ai (kN JC rfl (fq (by rfl) M.range (aa 1)) (bE (i:=7) nd rfl (Or.inl rfl) np)
   (ai (gu (i:=8) nd rfl (Or.inl rfl) (qau (fK (aa 5) j6 (fE (aa 4)))) np)
   (ai (kM 8 (qat (aC (aa 2) (qas (bj (qas (bW (qas (a7 (aa 3) (qas af))) (aa 7))) (qas af))))) (qas (bj (qas (a7 (aa 3) (qas af))) (aa 4))))
   (BA [8] (aw (cm (i7 6 Bd Be bO bX (ae (qat (tM (qas aG) (aA (aa 8) aM))) ar)))) npf))))
  (aw (aJ (uJ 6 np)))))))))),λ_=>?_⟩
 obtain⟨c,m,rfl,hm,hq⟩:=hG;refine⟨⟨by decide,by decide,by decide⟩,by decide +kernel,.inr ⟨by decide,by decide⟩,by decide,by decide,?_⟩;generalize hn:c % (10:Int) ^ (9:Int).toNat * 48271 % 2147483647=n;have n0:0<=n:=by rw[<- hn];exact oK _ (by decide)
 have n1:n<2147483647:=by rw[<- hn];exact oJ _ (by decide)
 obtain⟨sz,esz⟩:=CB (show 0<=1+n % 8 by have:=oK n (show (8:Int)≠0 by decide);omega);have acX:1<=sz:=by have:=oK n (show (8:Int)≠0 by decide);omega
 have Sm:sz<=8:=by have:=oJ n (show (0:Int)<8 by decide);omega
 refine⟨rfl,by decide,by decide,by rw[di];exact wC (by decide),?_⟩;refine jI (u:=λj=>.str (one (bL n j))) (λj hj r hr=>?_) ?_;have hj8:j<8:=hj;rw[S6];refine⟨.inl ⟨by decide,by decide⟩,⟨by show (0:Int)<7 * (j:Int)+3;omega,by show 7 * (j:Int)+3<1073741824;omega⟩,by decide,?_⟩;exact⟨kr,_,tR _,hr⟩;have eb:((List.range 8).map λj=>T.str (one (bL n j)))=(e_ n).map T.str:=by unfold e_;rw[Bh];rfl
 rw[show (8:Int).toNat=8 from rfl,eb,esz];refine⟨⟨by decide,by decide⟩,by decide,cO (λ_=>?_) (λ_=>?_)⟩;refine⟨rfl,by omega,by omega,by rw[di];exact wC (by omega),?_⟩;rw[wy];refine jI (u:=λk=>.str (Sh n k)) (λk hk r hr=>?_) ?_;rw[S6];have ec:fJ ((e_ n).map T.str) none (some ((k:Int)+1))=(((List.range (k+1)).map (bL n)).map one).map T.str:=by
  have:((k:Int)+1)=((k+1:Nat):Int):=by omega
  rw[this,AW T.str (e_ n) (k+1) (by rw[rm];omega),ua n (by omega)]
 refine⟨((List.range (k+1)).map (bL n)).map one,?_,Oo (by simp;omega),?_⟩;show [T.lst (fJ ((e_ n).map T.str) none (some ((k:Int)+1)))]=_;rw[ec];rw[glue];exact hr;have e2:((List.range m).map λk=>T.str (Sh n k))=((List.range m).map (Sh n)).map T.str:=by rw[Bh];rfl
 rw[e2];exact hq _ (Si n hm);refine⟨Gen.cp rfl,by omega,by omega,?_⟩;rw[wy];refine qm (λk ρ=>∃b7 b8,ρ=[some (.int c,false),some (.int (m:Int),false),some (.str bQ,false),some (.int n,false),some (.int (sz:Int),false),some (.lst ((e_ n).map .str),false),some (.lst (((List.range k).map (alt n sz (n / 24 % (sz:Int)).toNat)).map .str),true),b7,b8]) ⟨_,_,rfl⟩ ?_ ?_;rintro k ρ hk ⟨b7,b8,rfl⟩;rw[S6];have ec:fJ ((e_ n).map T.str) none (some (sz:Int))=((e_ n).take sz).map T.str:=AW T.str (e_ n) sz (by rw[rm];exact Sm);have p0:0<=n / 24 % (sz:Int):=oK _ (by omega);have p1:n / 24 % (sz:Int)<(sz:Int):=oJ _ (by omega);obtain⟨p,ep⟩:=CB p0;have hp:p<sz:=by omega
 have el:(((e_ n).take sz).map T.str).length=sz:=by rw[cV,Jg,rm];omega
 refine⟨⟨by decide,by decide⟩,by decide,kr,_,tR _,⟨by decide,by decide⟩,by show (0:Int)<(sz:Int);omega,p,?_,?_⟩;rw[ep];show ux (fJ ((e_ n).map T.str) none (some (sz:Int))).length _=_;rw[ec,el];unfold ux;rw[if_pos (by omega),if_pos (by omega),wy];have es:(((e_ n).take sz).map T.str).set p (T.str (one (sg (n / 5+(k:Int)))))=(((List.range sz).map (sJ n p k)).map one).map T.str:=by rw[<- Iz n Sm hp,List.map_set]
 refine⟨((List.range sz).map (sJ n p k)).map one,?_,Oo (by simp;omega),?_,some (.int (k:Int),false),?_⟩;show [T.lst ((fJ ((e_ n).map T.str) none (some (sz:Int))).set p (T.str (one (sg (n / 5+(k:Int))))))]=_;rw[ec,es];rw[cV,cV,Jf,sizeLine_eq];omega;rw[glue];have eA:((List.range (k+1)).map (alt n sz (n / 24 % (sz:Int)).toNat)).map T.str=((List.range k).map (alt n sz (n / 24 % (sz:Int)).toNat)).map T.str++[T.str (alt n sz p k)]:=by rw[List.range_succ,rM,rM,ep];rfl
 rw[eA];exact⟨_,rfl⟩;rintro ρ ⟨b7,b8,rfl⟩;refine hq _ (Sj n acX Sm ?_ (by omega));have p1:n / 24 % (sz:Int)<(sz:Int):=oJ _ (by omega);omega
end
theorem y3(pl:Plan):plainT (iW pl)=true:=by unfold iW;simp only[plainT];exact c0 (λ_=>by simp[plainT,bG]) pl
theorem Et(pl:Plan):dep (iW pl)<=100:=by unfold iW;have:=eI (f:=λp:Str×qai=>T.tup [.str p.1,.int (p.2.length:Int)]) (n:=1) (λ_=>by simp[dep,fS]) pl;simp only[dep];omega
section
noncomputable abbrev y4:qai:=["_law_kind","_law_cell","_law_names_here","_law_there","_law_name","_law_one","_law_word","_law_other","_law_many"]
theorem uc:az y4 qaS (ah rp):=L2.gg
theorem wb:(y4++(["_law_k"]:qai)).Nodup:=by decide +kernel
theorem Eu(D:Df K mg "_law_simple" rp qaS f fd)(M:Mg mg)(dC:bS P w K mg base "_law_operand" qaP 2 (cW K 2 yW))(Oq:bS P w K mg base "_law_key" qaP 3 (cW K 2 W5)):bS P w K mg base "_law_simple" qaS 4 (cW K 4 Om):=by
 refine D.gx (lJ D.F uc rfl λbA A outer s H E Ox hr ts q hG=>?_);have nd:=uc.nd;have hu:=bz.fU hr;have np:∀{i:Nat},bN ⟨H,[],Ox⟩ i:=oq;refine⟨_,(ai (bq (i:=4) nd rfl (Or.inl rfl) (qau (aC (aa 2) (qas (bj (aa 1) (qas (aT aO aP (by rfl) M.len ji (aA (aa 2) aM))))))) np)
  (ai (bq (i:=5) nd rfl (Or.inl rfl) (qau (aH dC hr (ae (qat (a7 (aa 1) (qas af))) (ae (aq 2) ar)))) np)
  (ai (bt (oi (aa 0) (qas af))
   (aw (aJ (qau (br (ae (qat aG) (ae (aq 4) (ae (aq 5) ar)))))))
   aV)
  (ai (bt (oi (aa 0) (qas af))
   (ai (bq (i:=6) nd rfl (Or.inl rfl) (qau (aC (qas (cY (ae (qat aG) (ae (qat aG) (ae (qat aG) (ae (qat aG) (ae (qat aG) (ae (qat aG) (ae (qat aG) ar))))))))) (qas (bj (qas (a7 (aa 1) (qas af))) (qas af))))) np)
   (aw (aJ (qau (br (ae (qat aG) (ae (aq 4) (ae (aq 5) (ae (aq 6) (ae (qat (aH dC hr (ae (qat (a7 (aa 1) (qas af))) (ae (aq 2) ar)))) ar))))))))))
   aV)
  (ai (bt (bJ hu (aa 0) (qas af))
   (aw (aJ (qau (br (ae (qat aG) (ae (aq 4) ar))))))
   aV)
  (ai (bt (bJ hu (aa 0) (qas af))
   (aw (aJ (qau (br (ae (qat aG) (ae (aq 4) (ae (qat (aC (aa 2) (qas (bj (qas (a7 (aa 1) (qas af))) (qas (aT aO aP (by rfl) M.len ji (aA (aa 2) aM))))))) (ae (qat (aH Oq hr (ae (qat (a7 (aa 1) (qas af))) (ae (aq 2) ar)))) ar))))))))
   aV)
  (ai (bt (bJ hu (aa 0) (qas af))
   (aw (aJ (qau (br (ae (qat aG) (ae (aq 4) (ae (qat (aH Oq hr (ae (qat (a7 (aa 1) (qas af))) (ae (aq 2) ar)))) (ae (aq 5) ar))))))))
   aV)
  (ai (bt (VW.vc (fj (bJ hu (aa 0) (qas af)) (dU (l_ hu (aa 3) (qas (cY ar))))))
   (ai (Qf (qat (aC (aa 3) (qas (bj (qas (a7 (aa 1) (qas af))) (qas (aT aO aP (by rfl) M.len ji (aA (aa 3) aM))))))) (qa (n:=2) rfl (dO (bE (i:=7) nd rfl (Or.inl rfl) np) (dO (bE (i:=8) nd rfl (Or.inl rfl) np) ma))))
   (aw (aJ (qau (br (ae (qat aG) (ae (aq 4) (ae (aq 7) (ae (qat (dA g9 jo (by rfl) M.tuple j8 (aA (qas (gT (ts:=qaR) rfl (by rfl) (fq (by rfl) M.range (aa 8)) (λ_ _ _ _ _ _=>(bE (i:=9) wb rfl (Or.inl rfl) np)) (λ_ _ _ _ _ _=>eC) (λ_ _ _ _ _ _=>(qat (aH dC hr (ae (qat (a7 (aa 1) (qas (bW (qas af) (aa 9))))) (ae (aq 2) ar))))))) aM))) ar)))))))))
   aV)
  (ai (bt (VW.vc (fj (bJ hu (aa 0) (qas af)) (dU (bJ hu (qas (bj (aa 1) (qas af))) (qas af)))))
   (aw (aJ (qau (br (ae (qat aG) (ae (qat (aC (aa 2) (qas (bj (qas (a7 (aa 1) (qas af))) (qas (aT aO aP (by rfl) M.len ji (aA (aa 2) aM))))))) ar))))))
   aV)
  (ai (bt (bJ hu (aa 0) (qas af))
   (aw (aJ (qau (br (ae (qat aG) ar)))))
   aV)
  (aw (aJ (qau (br (ae (qat aG) (ae (aq 4) (ae (aq 5) ar))))))))))))))))),λ_=>?_⟩
 obtain⟨kd,c,ys,pl,rfl,R,Y,Wa,QP,hq⟩:=hG;obtain⟨y,hy,ey⟩:=Y.at c;refine⟨Y.pos,_,ey,⟨by decide,by decide⟩,rfl,_,ys,rfl,R.div (by decide),Y,λo ho=>?_⟩;refine cO (λ_=>?_) (λ_=>?_);exact⟨Gen.cp rfl,hq (.put y o) ⟨hy,ho⟩⟩;refine cO (λ_=>?_) (λ_=>?_);obtain⟨op,zm,eop⟩:=Ws (c / 35);exact⟨Gen.cp rfl,⟨by decide,by decide⟩,by decide,_,eop,⟨by decide,by decide⟩,rfl,_,ys,rfl,R.div (by decide),Y,λo2 C1=>⟨Gen.cp rfl,hq (.lK y o op o2) ⟨hy,ho,zm,C1⟩⟩⟩;refine cO (λ_=>⟨Gen.cp rfl,hq (.new y) hy⟩) (λ_=>?_);refine cO (λ_=>?_) (λ_=>?_);obtain⟨z,hz,ez⟩:=Y.at (c / 7);exact⟨⟨by decide,by decide⟩,Y.pos,_,ez,⟨by decide,by decide⟩,rfl,_,ys,rfl,R.div (by decide),Y,λk hk=>⟨Gen.cp rfl,hq (.get y z k) ⟨hy,hz,hk⟩⟩⟩;refine cO (λ_=>?_) (λ_=>?_);exact⟨⟨by decide,by decide⟩,rfl,_,ys,rfl,R.div (by decide),Y,λk hk=>⟨Gen.cp rfl,hq (.set y k o) ⟨hy,hk,ho⟩⟩⟩;refine cO (λh9=>?_) (λ_=>?_);refine⟨jj _,y3 pl,rfl,Et pl,?_⟩;cases pl with
 |nil=>refine eW rfl ?_;refine eW (c:=decide (kd=15)) (decide_eq_false (by omega)) ?_;refine eW rfl ?_;refine eW (c:=decide (kd=14)) (decide_eq_false (by omega)) ?_;exact⟨Gen.cp rfl,hq (.put y o) ⟨hy,ho⟩⟩
 |cons p0 pl=>
  refine Dp rfl ?_;have eL:(((p0::pl).map λp=>T.tup [.str p.1,.int (p.2.length:Int)]).length:Int)=((p0::pl).length:Int):=by rw[cV]
  have acK:0<(p0::pl).length:=by simp
  generalize p0::pl=Ot at *;have h0:0<=c / 7 % ((Ot.map λp=>T.tup [.str p.1,.int (p.2.length:Int)]).length:Int):=oK _ (by omega);have h1:c / 7 % ((Ot.map λp=>T.tup [.str p.1,.int (p.2.length:Int)]).length:Int)<Ot.length:=by rw[eL];exact oJ _ (by omega)
  obtain⟨j,hj⟩:=CB h0;have Qv:j<Ot.length:=by omega
  obtain⟨p,hp⟩:∃p:Str×qai,p=Ot[j]:=⟨_,rfl⟩;obtain⟨fn,ps⟩:=p;have GS:(fn,ps)∈Ot:=by rw[hp];exact SV Qv
  have Ts:ps.length<=4:=QP _ GS;refine⟨⟨by decide,by decide⟩,by show (0:Int)<((Ot.map λp=>T.tup [.str p.1,.int (p.2.length:Int)]).length:Int);omega,.tup [.str fn,.int (ps.length:Int)],?_,rfl,?_⟩;show jc _ (c / 7 % ((Ot.map λp=>T.tup [.str p.1,.int (p.2.length:Int)]).length:Int))=_;rw[hj];refine aj ?_;rw[gJ,kD Qv,<- hp];rfl;refine⟨rfl,rfl,by show -(2 ^ 62:Int)<=(ps.length:Int);omega,by show (ps.length:Int)<2 ^ 62;omega,by rw[di];exact wC (by show (ps.length:Int).toNat<=1000;omega),?_⟩;refine yo (Pd:=λt=>∃a,t=gz a/\dQ ys a) (λt ht r hr=>?_) λus hl C5=>?_;obtain⟨i,hi⟩:=M9.mp ht;obtain⟨j5,rfl⟩:=ql hi;refine⟨⟨by show (0:Int)<17+(0+(i:Int));omega,?_⟩,rfl,_,ys,rfl,R.div (by omega),Y,λo ho=>hr _ ⟨o,rfl,ho⟩⟩;have:i<(ps.length:Int).toNat:=j5;show 17+(0+(i:Int))<1073741824;omega;obtain⟨as,rfl,ha⟩:=yp us C5;rw[di] at hl;have wN:as.length=ps.length:=by rw[cV] at hl;have:as.length=(ps.length:Int).toNat:=hl;omega
  refine⟨Gen.cp rfl,hq (.call y fn as) ⟨hy,⟨ps,GS,wN⟩,ha⟩⟩
 refine eW rfl ?_;refine cO (λ_=>⟨by decide,cO (λ_=>?_) (λ_=>?_)⟩) (λ_=>eW rfl ?_);obtain⟨z,hz,ez⟩:=Y.at (c / 4);exact⟨⟨by decide,by decide⟩,Y.pos,_,ez,Gen.cp rfl,hq (.fail z) hz⟩;refine cO (λ_=>⟨Gen.cp rfl,hq .skip trivial⟩) (λ_=>⟨Gen.cp rfl,hq (.put y o) ⟨hy,ho⟩⟩);refine cO (λ_=>⟨Gen.cp rfl,hq .skip trivial⟩) (λ_=>⟨Gen.cp rfl,hq (.put y o) ⟨hy,ho⟩⟩)
end
noncomputable abbrev IG:Stmt:=top 60
theorem fits(h:n<=1001):n<sizeLine:=by rw[sizeLine_eq];omega
theorem rB(l:qai):plainT (.lst (l.map .str))=true:=by simp only[plainT];exact c0 (λ_=>by simp[plainT]) l
theorem y6(l:qai):dep (.lst (l.map .str))<=100:=by have:=eI (f:=T.str) (n:=0) (λ_=>by simp[dep]) l;simp only[dep];omega
noncomputable def Qb:GT:=λts q=>∃(rs:qal)(bP:qai)(c:Int)(ys:qai)(pl:Plan),ts=[.lst (rs.map aW),.lst (bP.map .str),.int c,f_ ys,iW pl]/\Ys ys/\pl.length<=3/\(∀p∈pl,p.2.length<=4)/\rs.length<=900/\bP.length<=4 /\
 ∀new dm,kZ ys pl bP new dm->dm.length<=4->q [.lst ((rs++new).map aW),.lst (dm.map .str)] (.vw .aQ)
noncomputable def ME(q:qaj->qam)(rs:qal)(bP:qai)(c n mv:Int)(ys:qai)(pl:Plan):FS:=λd ρ=>(∃nv,ρ=[some (.lst (rs.map aW),true),some (.lst (bP.map .str),true),some (.int c,false),some (f_ ys,false),some (iW pl,false),some (.int n,false),some (.int mv,false),nv]) /\
 ∀ρ,q (md [true,true,false,false,false] ρ) (.vw .aQ)->d.nx ρ
section
noncomputable abbrev W7:qai:=["_law_rows","_law_blocks","_law_cell","_law_names_here","_law_there","_law_number_here","_law_kind","_law_name"]
theorem IH:az W7 qaT (ah IG):=L2.gg
theorem Sn(D:Df K mg "_law_put" IG qaT f fd)(M:Mg mg)(dC:bS P w K mg base "_law_operand" qaP 2 (cW K 2 yW))(II:bS P w K mg base "_law_simple" qaS 4 (cW K 4 Om)):bS P w K mg base "_law_put" qaT 5 (zY K [true,true,false,false,false] Qb):=by
 refine D.gx (ZQ D.F IH rfl λbA A outer s H E as Ox hr ts q hl hG=>?_);have nd:=IH.nd;have hu:=bz.fU hr;obtain⟨rs,bP,c,ys,pl,rfl,Y,Wa,QP,hr1,Ou,hq⟩:=hG;obtain⟨n,hn⟩:∃n,(c % (10:Int) ^ (9:Int).toNat+3) * 48271 % 2147483647=n:=⟨_,rfl⟩;have R:Jy n:=⟨by rw[<- hn];exact oK _ (by decide),by rw[<- hn];have:=oJ ((c % (10:Int) ^ (9:Int).toNat+3) * 48271) (show (0:Int)<2147483647 by decide);omega⟩;have IJ:(rs.map aW).length<sizeLine:=by rw[cV];exact fits (by omega)
 have W8:(bP.map T.str).length<sizeLine:=by rw[cV];exact fits (by omega)
 have one:∀{r:Rw}{dm:qai},kZ ys pl bP [r] dm->dm.length<=4->q [.lst (rs.map aW++[aW r]),.lst (dm.map .str)] (.vw .aQ):=λ{r dm} h h4=>by have:=hq [r] dm h h4;rw[rM] at this;exact this
 have push:∀x:Str,(bP++[x]).map T.str=bP.map T.str++[T.str x]:=λx=>by rw[rM];rfl
 have W9:((bP.map T.str).length:Int)=(bP.length:Int):=by rw[cV]
 refine⟨_,(ai (bq (i:=5) nd rfl (Or.inl rfl) (qau (bj (qas (gr (qas (bW (qas (bj (aa 2) (qas (jn (qas af) (qas af))))) (qas af))) (qas af))) (qas af))) (BK (by decide)))
  (ai (bq (i:=6) nd rfl (Or.inl rfl) (qau (bj (aa 5) (qas af))) (BK (by decide)))
  (aw (bt (VW.vc (fj (bJ hu (aa 6) (qas af)) (dU (oi (qas (aT aO aP (by rfl) M.len ji (aA (aa 1) aM))) (qas af)))))
   (ai (cm (i7 0 Bd Be bO bX (ae (qat (br (ae (qat aG) (ae (qat (aH dC hr (ae (qat (a7 (aa 5) (qas af))) (ae (aq 3) ar)))) ar)))) ar)))
   (aw (cm (i7 1 Bd Be bO bX (ae (qat aG) ar)))))
   (lF.weak (u:=(ME q rs bP c n (n % 16) ys pl)) (aw (bt (VW.vc (fj (bJ hu (aa 6) (qas af)) (dU (oi (qas (aT aO aP (by rfl) M.len ji (aA (aa 1) aM))) (qas af)))))
    (ai (bq (i:=7) nd rfl (Or.inl rfl) (qau (aC (aa 3) (qas (bj (qas (a7 (aa 5) (qas af))) (qas (aT aO aP (by rfl) M.len ji (aA (aa 3) aM))))))) (BK (by decide)))
    (ai (cm (i7 0 Bd Be bO bX (ae (qat (br (ae (qat aG) (ae (aq 7) ar)))) ar)))
    (ai (cm (i7 1 Bd Be bO bX (ae (qat aG) ar)))
    (aw (bt (bJ hu (qas (bj (qas (a7 (aa 5) (qas af))) (qas af))) (qas af))
     (aw (cm (i7 0 Bd Be bO bX (ae (qat (br (ae (qat aG) (ae (aq 7) (ae (aq 7) (ae (qat aG) (ae (qat af) ar))))))) ar))))
     aV)))))
    (lF.weak (u:=(ME q rs bP c n (n % 16) ys pl)) (aw (bt (VW.vc (fj (bJ hu (aa 6) (qas af)) (fj (l_ hu (aa 1) (qas (cY ar))) (dU (bJ hu (qas (aC (aa 1) (qas (kJ (qas af))))) (qas aG))))))
     (ai (cm (i7 0 Bd Be bO bX (ae (qat (br (ae (qat aG) ar))) ar)))
     (aw (kM 1 (qat aG) (qas (kJ (qas af))))))
     (lF.weak (u:=(ME q rs bP c n (n % 16) ys pl)) (aw (bt (VW.vc (fj (bJ hu (aa 6) (qas af)) (dU (l_ hu (aa 1) (qas (cY ar))))))
      (ai (cm (i7 0 Bd Be bO bX (ae (qat (br (ae (qat aG) ar))) ar)))
      (aw (cm (zX 1 Xx Xy uE uI))))
      (lF.weak (u:=(ME q rs bP c n (n % 16) ys pl)) (aw (cm (i7 0 Bd Be bO bX (ae (qat (aH II hr (ae (aq 6) (ae (qat (a7 (aa 5) (qas af))) (ae (aq 3) (ae (aq 4) ar)))))) ar)))) ?w5))) ?w4))) ?w3))) ?w2))))),?_⟩
 case w5=>
  rintro d ρ ⟨⟨nv,rfl⟩,kk⟩;exact⟨⟨by decide,by decide⟩,rfl,_,_,ys,pl,rfl,R.div (by decide),Y,Wa,QP,λr hs=>⟨IJ,kk _ (one (.inr (.inr (.inr (.inr (.inr ⟨r,hs,rfl,rfl⟩))))) Ou)⟩⟩
 case w4=>
  rintro d ρ ⟨⟨nv,rfl⟩,kk⟩;refine cO (λ_=>?_) (λ_=>eW rfl ⟨⟨nv,rfl⟩,kk⟩);refine⟨jj _,rB bP,rfl,y6 bP,?_⟩;rcases List.eq_nil_or_concat bP with e|⟨s0,x,e⟩
  subst e;exact eW rfl ⟨⟨nv,rfl⟩,kk⟩;have en:eqT (.lst (bP.map .str)) (.lst [])=false:=by rw[e];cases s0<;>simp[eqT,gN]
  refine Dp (by show (!eqT (.lst (bP.map .str)) (.lst []))=true;rw[en];rfl) ⟨Gen.cp rfl,IJ,rfl,T.str x,?_,?_⟩;rw[e];simp;have e2:(bP.map T.str).dropLast=s0.map T.str:=by rw[e];simp
  refine kk _ ?_;show q [.lst (rs.map aW++[aW .fin]),.lst ((bP.map T.str).dropLast)] _;rw[e2];exact one (.inr (.inr (.inr (.inr (.inl ⟨s0,x,by rw[e,List.concat_eq_append],rfl,rfl⟩))))) (by rw[e] at Ou;simp at Ou;omega)
 case w3=>
  rintro d ρ ⟨⟨nv,rfl⟩,kk⟩;refine cO (λ_=>?_) (λ_=>eW rfl ⟨⟨nv,rfl⟩,kk⟩);refine⟨jj _,rB bP,rfl,y6 bP,?_⟩;rcases List.eq_nil_or_concat bP with e|⟨s0,x,e⟩
  subst e;exact eW rfl (eW rfl ⟨⟨nv,rfl⟩,kk⟩);have en:eqT (.lst (bP.map .str)) (.lst [])=false:=by rw[e];cases s0<;>simp[eqT,gN]
  have ex:jc (bP.map T.str) (-1)=some (T.str x):=by rw[e,List.concat_eq_append,rM];exact jk _ _
  refine Dp (by show (!eqT (.lst (bP.map .str)) (.lst []))=true;rw[en];rfl) ⟨_,ex,cO (λhx=>?_) (λ_=>⟨⟨nv,rfl⟩,kk⟩)⟩;have Jq:x="if":=hx;subst Jq;have hl1:(bP.map T.str).length=s0.length+1:=by rw[e];simp
  refine⟨Gen.cp rfl,IJ,s0.length,?_,kk _ ?_⟩;unfold ux;rw[hl1,if_neg (by decide),if_pos (by omega)]
  congr 1
  omega;have e2:(bP.map T.str).set s0.length (T.str "else")=(s0++([("else":Str)]:qai)).map T.str:=by rw[e];simp
  show q [.lst (rs.map aW++[aW .mX]),.lst ((bP.map T.str).set s0.length (T.str "else"))] _;rw[e2];exact one (.inr (.inr (.inr (.inl ⟨s0,by rw[e];simp,rfl,rfl⟩)))) (by rw[e] at Ou;simpa using Ou)
 case w2=>
  rintro d ρ ⟨⟨nv,rfl⟩,kk⟩;refine cO (λ_=>?_) (λ_=>eW rfl ⟨⟨nv,rfl⟩,kk⟩);refine cO (λh4=>?_) (λ_=>⟨⟨nv,rfl⟩,kk⟩);have h4':bP.length<4:=by have:((bP.map T.str).length:Int)<4:=h4;omega
  obtain⟨y,hy,ey⟩:=Y.at (n / 32);refine⟨⟨by decide,by decide⟩,Y.pos,_,ey,Gen.cp rfl,IJ,W8,⟨by decide,by decide⟩,by decide,cO (λ_=>?_) (λ_=>?_)⟩;refine⟨Gen.cp rfl,?_,kk _ ?_⟩;rw[nX,cV];exact fits (by simp;omega);have:=hq [.gm (.nm y),.lK y (.nm y) "minus" (.nu 1)] _ (.inr (.inr (.inl ⟨y,hy,rfl,rfl⟩))) (by simp;omega);rw[push,rM] at this;show q [.lst ((rs.map aW++[aW (.gm (.nm y))])++[aW (.lK y (.nm y) "minus" (.nu 1))]),_] _;rw[OD];exact this;refine kk _ ?_;have:=one (r:=.gm (.nm y)) (.inr (.inl ⟨.nm y,hy,rfl,rfl⟩)) (by simp;omega);rw[push] at this;exact this
 refine⟨⟨by decide,by decide,by decide⟩,by decide +kernel,.inr ⟨by decide,by decide⟩,by decide,by decide,?_⟩;rw[hn];refine cO (λ_=>?_) (λ_=>eW rfl ⟨⟨none,rfl⟩,λ_ h=>h⟩);refine cO (λh4=>?_) (λ_=>⟨⟨none,rfl⟩,λ_ h=>h⟩);have h4':bP.length<4:=by have:((bP.map T.str).length:Int)<4:=h4;omega
 refine⟨⟨by decide,by decide⟩,rfl,_,ys,rfl,R.div (by decide),Y,λo ho=>⟨Gen.cp rfl,IJ,W8,?_⟩⟩;have:=one (r:=.kY o) (.inl ⟨o,ho,rfl,rfl⟩) (by simp;omega);rw[push] at this;exact this
end
noncomputable abbrev nV:Stmt:=top 61
theorem MH{bP new dm}(h:kZ ys pl bP new dm):new.length<=2:=by obtain⟨o,_,rfl,rfl⟩|⟨o,_,rfl,rfl⟩|⟨y,_,rfl,rfl⟩|⟨s0,rfl,rfl,rfl⟩|⟨s0,x,rfl,rfl,rfl⟩|⟨r,_,rfl,rfl⟩:=h<;>simp
noncomputable def ud(h:Int):qao:=[(h / 3 % 3).toNat,(h / 9 % 3).toNat,(h / 27 % 3).toNat]
theorem rC(h:Int){k:Nat}(hk:k<3):(ud h).getD k 0<=2:=by
 have h1:h / 3 % 3<3:=oJ _ (by decide);have h2:h / 9 % 3<3:=oJ _ (by decide);have h3:h / 27 % 3<3:=oJ _ (by decide)
 match k,hk with
 |0,_=>show (h / 3 % 3).toNat<=2;omega
 |1,_=>show (h / 9 % 3).toNat<=2;omega
 |2,_=>show (h / 27 % 3).toNat<=2;omega
noncomputable def Yp(h:Int):qaj:=[.int (h / 3 % 3),.int (h / 9 % 3),.int (h / 27 % 3)]
theorem IK(h:Int){k:Nat}(hk:k<3):jc (Yp h) (k:Int)=some (.int ((ud h).getD k 0:Nat)):=by
 have h1:0<=h / 3 % 3:=oK _ (by decide);have h2:0<=h / 9 % 3:=oK _ (by decide);have h3:0<=h / 27 % 3:=oK _ (by decide);refine aj ?_
 match k,hk with
 |0,_=>show some (T.int (h / 3 % 3))=some (T.int ((h / 3 % 3).toNat:Nat));rw[Int.toNat_of_nonneg h1]
 |1,_=>show some (T.int (h / 9 % 3))=some (T.int ((h / 9 % 3).toNat:Nat));rw[Int.toNat_of_nonneg h2]
 |2,_=>show some (T.int (h / 27 % 3))=some (T.int ((h / 27 % 3).toNat:Nat));rw[Int.toNat_of_nonneg h3]
noncomputable def dv(ys:qai)(h:Int)(m:Nat):Plan:=(List.range m).map λk=>(ys.getD k Str.empty,ys.take ((ud h).getD k 0))
theorem gE(ys h m):(dv ys h m).length=m:=by simp[dv]
theorem nW{h:Int}{k:Nat}(hk:k<m):(dv ys h m)[k]?=some (ys.getD k Str.empty,ys.take ((ud h).getD k 0)):=by unfold dv;rw[gJ,Jz hk];rfl
theorem Ew(Y:Ys ys){h:Int}(hm:m<=3):vf ys (dv ys h m):=by
 intro k f ps e;have hk:k<m:=by have:=(dS.mp e).1;rw[gE] at this;exact this
 rw[nW hk] at e;cases e;have l3:=Y.l3;have hz:=rC h (k:=k) (by omega);refine⟨by rw[List.getD,kD (by omega:k<ys.length)];rfl,0,(ud h).getD k 0,hz,?_⟩;refine Nd λi=>?_;rw[List.getElem?_take,gJ];by_cases hi:i<(ud h).getD k 0;rw[if_pos hi,Jz hi];have e:((0+(i:Int)) % 4).toNat=i:=by omega
 simp only[S3,e];rw[List.getD,kD (by omega:i<ys.length)];rfl;rw[if_neg hi,Jd (by rw[Jf];omega)];rfl
def IL(ys:qai)(pl:Plan):Prop:=∀p∈pl,p.1∈ys/\∃m,m<=2/\p.2=ys.take m
theorem Ex(Y:Ys ys){h:Int}(hm:m<=3):IL ys (dv ys h m):=λp hp=>by obtain⟨k,hk,rfl⟩:=sS.mp hp;have xO:=Bg.mp hk;have l3:=Y.l3;refine⟨?_,_,rC h (k:=k) (by omega),rfl⟩;show ys.getD k Str.empty∈ys;rw[List.getD,kD (by omega:k<ys.length)];exact SV _
theorem y7{h:Int}(hm:m<=3):∀p∈dv ys h m,p.2.length<=4:=λp hp=>by obtain⟨k,hk,rfl⟩:=sS.mp hp;have xO:=Bg.mp hk;have:=rC h (k:=k) (by omega);rw[Jg];omega
def IM(ts:qaj)(q:qam):Prop:=∃(ns:qan)(ys:qai)(h:Int),ts=[.lst (ns.map .int),f_ ys,.int h]/\ns.length<=63/\Jy h/\Ys ys /\
 ∀(n:Nat)(pl:Plan)(rs:qal),n<=1->1<=pl.length->pl.length<=3->vf ys pl->IL ys pl->Pre ys pl pl.length rs->rs.length<=18+2 * ns.length->q (.fr (.lst ((List.replicate n Rw.skip++rs).map aW)))
theorem MJ(f:α->β)(l:List α)(a b:Nat)(ha:a<=l.length)(hb:b<=l.length):fJ (l.map f) (some (a:Int)) (some (b:Int))=((l.drop a).take (b-a)).map f:=by unfold fJ;rw[cV,HT.j3,HT.j3,T4 ha,T4 hb,<- List.map_drop,<- List.map_take]
def IP(ns:qan)(ys:qai)(h:Int)(m0 sh n1:Nat)(k:Nat)(ρ:En):Prop:=∃b7 b8 b9 wc wG rt rs,ρ=[some (.lst (ns.map .int),false),some (f_ ys,false),some (.int h,false),some (.int (1+(m0:Int)),false),some (.lst (Yp h),false),some (.int (sh:Int),false),some (.lst rt,true),b7,b8,b9,wc,wG]/\rt=(List.replicate n1 Rw.skip++rs).map aW/\Pre ys (dv ys h (1+m0)) k rs/\rs.length<=6 * k+2 * (if k=1+m0 then ns.length else k * sh)
noncomputable def acY(ns:qan)(ys:qai)(h:Int)(m0 sh n1:Nat):FS:=λd ρ=>∃(k L:Nat)(rs:qal)(wG:Option (T×Bool)),k<1+m0/\L<=ns.length/\k * sh<=L/\(L=if k=m0 then ns.length else (k+1) * sh)/\Pre ys (dv ys h (1+m0)) k rs/\rs.length<=6 * k+2 * (k * sh) /\
 ρ=[some (.lst (ns.map .int),false),some (f_ ys,false),some (.int h,false),some (.int (1+(m0:Int)),false),some (.lst (Yp h),false),some (.int (sh:Int),false),some (.lst ((List.replicate n1 Rw.skip++rs++[Rw.df (ys.getD k Str.empty) (ys.take ((ud h).getD k 0))]).map aW),true),some (.int (k:Int),false),some (iW ((dv ys h (1+m0)).drop (k+1)),false),some (.lst [],true),some (.int (L:Int),false),wG]/\∀ρ',IP ns ys h m0 sh n1 (k+1) ρ'->d.nx ρ'
section
noncomputable abbrev c4:qai:=["_law_cells","_law_names_here","_law_head","_law_many","_law_sizes","_law_share","_law_rows","_law_k","_law_there","_law_blocks","_law_last","_law_cell"]
theorem rD:az c4 qaU (ah nV):=L2.gg
theorem sL:(c4++(["_law_j"]:qai)).Nodup:=by decide +kernel
theorem AZ(D:Df K mg "_law_program" nV qaU f fd)(M:Mg mg)(W_:bS P w K mg base "_law_put" qaT 5 (zY K [true,true,false,false,false] Qb))(dC:bS P w K mg base "_law_operand" qaP 2 (cW K 2 yW)):bS P w K mg base "_law_program" qaU 6 (cW K 3 IM):=by
 obtain⟨adg,acZ,W',k_put,Xa,Xb⟩:=W_;refine D.gx (lJ D.F rD rfl λbA A outer s H E Ox hr ts q hG=>?_);have nd:=rD.nd;have hu:=bz.fU hr;have np:∀{i:Nat},bN ⟨H,[],Ox⟩ i:=oq;obtain⟨ns,ys,h,rfl,Zj,R,Y,hq⟩:=hG;obtain⟨m0,TH⟩:=CB (oK h (show (3:Int)≠0 by decide));have hm0:m0<3:=by have:=oJ h (show (0:Int)<3 by decide);omega
 obtain⟨n1,en1⟩:=CB (oK (h / 81) (show (2:Int)≠0 by decide));have hn1:n1<2:=by have:=oJ (h / 81) (show (0:Int)<2 by decide);omega
 have eN:((ns.map T.int).length:Int)=(ns.length:Int):=by rw[cV]
 have l3:=Y.l3;obtain⟨sh,Yq⟩:∃sh:Nat,sh=ns.length / (1+m0):=⟨_,rfl⟩;have ac0:(1+m0) * sh<=ns.length:=by rw[Yq];exact Nat.mul_div_le _ _
 refine⟨_,(ai (bq (i:=3) nd rfl (Or.inl rfl) (qau (bW (qas af) (qas (bj (aa 2) (qas af))))) np)
  (ai (bq (i:=4) nd rfl (Or.inr rfl) (qau (cY (ae (qat (bj (qas (a7 (aa 2) (qas af))) (qas af))) (ae (qat (bj (qas (a7 (aa 2) (qas af))) (qas af))) (ae (qat (bj (qas (a7 (aa 2) (qas af))) (qas af))) ar))))) np)
  (ai (bq (i:=5) nd rfl (Or.inl rfl) (qau (a7 (qas (aT aO aP (by rfl) M.len ji (aA (aa 0) aM))) (aa 3))) np)
  (ai (gu (i:=6) nd rfl (Or.inl rfl) (qau (kQ (cY (ae (qat (br (ae (qat aG) ar))) ar)) (qas (bj (qas (a7 (aa 2) (qas af))) (qas af))))) np)
  (ai (kN JC rfl (fq (by rfl) M.range (aa 3)) (bE (i:=7) nd rfl (Or.inl rfl) np)
   (ai (cm (i7 6 Bd Be bO bX (ae (qat (br (ae (qat aG) (ae (qat (aC (aa 1) (aa 7))) (ae (qat (dA g9 jo (by rfl) M.tuple j8 (aA (qas (fK (aa 1) j6 (fE (qas (aC (aa 4) (aa 7)))))) aM))) ar))))) ar)))
   (ai (o7 (i:=8) (ts:=["_law_j"]) nd rfl (Or.inl rfl) rfl (by rfl) (Dh (by rfl) M.range (qas (bW (aa 7) (qas af))) (aa 3)) (λ_ _ _ _ _ _=>(bE (i:=12) sL rfl (Or.inl rfl) np)) (λ_ _ _ _ _ _=>eC) (λ_ _ _ _ _ _=>(qat (br (ae (qat (aC (aa 1) (aa 12))) (ae (qat (aC (aa 4) (aa 12))) ar))))) np)
   (ai (gu (i:=9) nd rfl (Or.inl rfl) (qau (cY ar)) np)
   (ai (bq (i:=10) nd rfl (Or.inl rfl) (qau (i6 (bJ hu (aa 7) (qas (hJ (aa 3) (qas af)))) (aT aO aP (by rfl) M.len ji (aA (aa 0) aM)) (gr (qas (bW (aa 7) (qas af))) (aa 5)))) np)
   (lF.weak (u:=(acY ns ys h m0 sh n1)) (ai (kN JC rfl (jq (qat (fK (aa 0) (fE (qas (gr (aa 7) (aa 5)))) (fE (aa 10))))) (bE (i:=11) nd rfl (Or.inl rfl) np)
    (aw (cm (F_ Xb (hr.mono (by decide)) (by rfl) W' k_put Xa (BH 6 (BH 9 (qc (aq 11) (qc (aq 1) (qc (aq 8) KL)))))))))
   (ai (cm (Lm 6 (kQ (cY (ae (qat (br (ae (qat aG) ar))) ar)) (qas (aT aO aP (by rfl) M.len ji (aA (aa 9) aM))))))
   (aw (cm (i7 6 Bd Be bO bX (ae (qat (br (ae (qat aG) (ae (qat (aH dC hr (ae (qat (a7 (aa 2) (qas (bW (qas af) (aa 7))))) (ae (aq 1) ar)))) ar)))) ar)))))) ?w1))))))
  (aw (aJ (uJ 6 np)))))))),λ_=>?main⟩
 case w1=>
  clear TH en1 eN Yq ac0 hq;rintro d ρ ⟨k,L,rs,wG,hk,hL,hkL,eL,iH,hlen,rfl,kk⟩;have hpk:=nW (ys:=ys) (h:=h) hk;have hd3:((dv ys h (1+m0)).drop (k+1)).length<=3:=by rw[T2,gE];omega
  have hd4:∀p∈(dv ys h (1+m0)).drop (k+1),p.2.length<=4:=λp hp=>y7 (by omega) p (List.mem_of_mem_drop hp);have ac1:k * sh<=ns.length:=by omega
  have MK:fJ (ns.map T.int) (some ((k:Int) * (sh:Int))) (some (L:Int))=((ns.drop (k * sh)).take (L-k * sh)).map T.int:=by
   have e3:(k:Int) * (sh:Int)=((k * sh:Nat):Int):=by push_cast;rfl
   rw[e3];exact MJ T.int ns _ _ ac1 hL
  generalize hms:(ns.drop (k * sh)).take (L-k * sh)=ms at MK;have ac2:ms.length=L-k * sh:=by rw[<- hms,Jg,T2];omega
  refine⟨.inl ⟨by show -(2 ^ 64:Int)<(k:Int);omega,by show (k:Int)<(2 ^ 64:Int);omega⟩,?_⟩;show oj (fJ (ns.map T.int) (some ((k:Int) * (sh:Int))) (some (L:Int))) _ _ _ _;rw[MK];refine qo (λi ρ=>∃wG rt st body bP,ρ=[some (.lst (ns.map .int),false),some (f_ ys,false),some (.int h,false),some (.int (1+(m0:Int)),false),some (.lst (Yp h),false),some (.int (sh:Int),false),some (.lst rt,true),some (.int (k:Int),false),some (iW ((dv ys h (1+m0)).drop (k+1)),false),some (.lst st,true),some (.int (L:Int),false),wG]/\rt=(List.replicate n1 Rw.skip++rs++[Rw.df (ys.getD k Str.empty) (ys.take ((ud h).getD k 0))]++body).map aW/\st=bP.map .str/\Body ys ((dv ys h (1+m0)).drop (k+1)) bP body/\body.length<=2 * i/\bP.length<=4)
   ⟨wG,_,_,[],[],rfl,by rw[CC],rfl,.nil,by simp,by simp⟩ ?_ ?_
  rintro i z ρ hi ⟨wG,_,_,body,bP,rfl,rfl,rfl,hB,hb,Ou⟩;have hil:i<ms.length:=(dS.mp hi).1;have PK:body.length<=3 * 63:=by omega
  refine⟨_,bP,z,ys,_,rfl,Y,hd3,hd4,?_,Ou,λnew dm Xc h4=>?_⟩;simp only[nX,zi,wI,S4];have:2 * (k * sh)<=2 * 63:=by omega
  omega;have hl:=MH Xc;refine⟨_,_,_,body++new,dm,rfl,by rw[<- OD],rfl,.step hB Xc,?_,h4⟩;rw[nX];omega;rintro ρ ⟨wG,_,_,body,bP,rfl,rfl,rfl,hB,hb,Ou⟩;have W9:((bP.map T.str).length:Int)=(bP.length:Int):=by rw[cV]
  rw[ac2] at hb;refine⟨Gen.cp rfl,Gen.cp rfl,by omega,by omega,by rw[sizeLine_eq];simp;omega,?_⟩;have eE:(List.replicate ((bP.map T.str).length:Int).toNat [(Rt.vw (T.tup [(Rt.vw (T.str "end")).t])).t]).flatten=(List.replicate bP.length Rw.fin).map aW:=by
   rw[W9,wy,List.map_replicate];generalize bP.length=n;induction n with
   |zero=>rfl
   |succ n ih=>rw[rQ,Je,ih,rQ];rfl
  rw[eE];have hrl:(List.replicate n1 Rw.skip++rs++[Rw.df (ys.getD k Str.empty) (ys.take ((ud h).getD k 0))]++body).length<=700:=by simp only[nX,zi,wI,S4];omega
  refine⟨by rw[cV,cV,zi,sizeLine_eq];omega,?_⟩;refine⟨⟨by show (0:Int)<162+(k:Int);omega,by show 162+(k:Int)<1073741824;omega⟩,rfl,_,ys,rfl,R.div (by omega),Y,λo ho=>⟨Gen.cp rfl,?_,kk _ ?_⟩⟩;rw[nX,cV,cV,zi];exact fits (by omega);refine⟨_,_,_,_,_,_,rs++(Rw.df (ys.getD k Str.empty) (ys.take ((ud h).getD k 0))::(body++(List.replicate bP.length Rw.fin++(Rw.give o::[])))),rfl,?_,.succ iH hpk hB ho (.inl rfl),?_⟩;simp only[rM,gR,JF,OD,Nf,SY];rfl;simp only[nX,wI,zi,S4];have adm:2 * (k * sh)+2 * (L-k * sh)<=2 * (if k+1=1+m0 then ns.length else (k+1) * sh):=by by_cases Xd:k=m0;rw[if_pos (by omega)];omega;rw[if_neg (by omega)];rw[if_neg Xd] at eL;omega
  omega
 case main=>
 refine⟨by decide,?_⟩;rw[TH];clear TH;refine⟨⟨by decide,by decide⟩,by decide,⟨by decide,by decide⟩,by decide,⟨by decide,by decide⟩,by decide,Gen.cp rfl,⟨by show (0:Int)<1+(m0:Int);omega,by show 1+(m0:Int)<1073741824;omega⟩,?_⟩;have IQ:((ns.map T.int).length:Int) / (1+(m0:Int))=(sh:Int):=by
  have e1:(1+(m0:Int))=((1+m0:Nat):Int):=by omega
  rw[eN,Yq,e1,Int.natCast_ediv]
 clear Yq;refine⟨Gen.cp rfl,Gen.cp rfl,⟨by decide,by decide⟩,by decide,?_⟩;rw[en1,IQ];clear en1 IQ;refine⟨by omega,by omega,by rw[sizeLine_eq];simp;omega,?_⟩;rw[wy];refine⟨by omega,by omega,?_⟩;have eM:(1+(m0:Int)).toNat=1+m0:=by omega
 rw[eM];have eR:(List.replicate n1 [(Rt.vw (T.tup [(Rt.vw (T.str "skip")).t])).t]).flatten=(List.replicate n1 Rw.skip).map aW:=by
  rw[List.map_replicate];clear hn1;induction n1 with
  |zero=>rfl
  |succ n ih=>rw[rQ,Je,ih,rQ];rfl
 rw[eR];refine qm (IP ns ys h m0 sh n1)
  ⟨_,_,_,_,_,_,[],rfl,by rw[CC],.zero,by simp⟩ ?_ ?_
 rintro k ρ hk ⟨b7,b8,b9,wc,wG,_,rs,rfl,rfl,iH,hlen⟩;rw[S6];rw[if_neg (by omega)] at hlen;have X9:k<3:=by omega
 have hz:=rC h X9;have hks:k * sh+sh<=ns.length:=by
  have:(k+1) * sh<=(1+m0) * sh:=Nat.mul_le_mul_right _ (by omega);have e:(k+1) * sh=k * sh+sh:=by rw[Nat.add_mul,Nat.one_mul]
  omega
 have hyk:k<ys.length:=by omega
 have ek:jc (ys.map T.str) (k:Int)=some (.str (ys.getD k Str.empty)):=aj (by rw[gJ,kD hyk,List.getD,kD hyk];rfl);have esz:=IK h X9;have MK:fJ (ys.map T.str) none (some (((ud h).getD k 0:Nat):Int))=(ys.take ((ud h).getD k 0)).map T.str:=AW T.str ys _ (by omega);have hpk:=nW (ys:=ys) (h:=h) hk;have ac3:((List.replicate n1 Rw.skip++rs).map aW).length<sizeLine:=by rw[cV,nX,zi];exact fits (by omega)
 refine⟨_,ek,_,esz,Gen.cp rfl,ac3,rfl,⟨by omega,by omega,by omega,by omega⟩,by rw[di];exact wC (by omega),?_⟩;have eT:(1+(m0:Int)-((k:Int)+1)).toNat=m0-k:=by omega
 rw[eT];refine jI (u:=λi=>.tup [.str (ys.getD (k+1+i) Str.empty),.int ((ys.take ((ud h).getD (k+1+i) 0)).length:Nat)]) (λi hi r hr=>?_) ?_;have X4:k+1+i<3:=by omega
 have e1:((k:Int)+1+(i:Int))=((k+1+i:Nat):Int):=by omega
 rw[e1];have hy2:k+1+i<ys.length:=by omega
 have ek2:jc (ys.map T.str) ((k+1+i:Nat):Int)=some (.str (ys.getD (k+1+i) Str.empty)):=aj (by rw[gJ,kD hy2,List.getD,kD hy2];rfl);have hz2:=rC h X4;have el:(ys.take ((ud h).getD (k+1+i) 0)).length=(ud h).getD (k+1+i) 0:=by rw[Jg];omega
 rw[el] at hr;exact⟨_,ek2,_,IK h X4,Gen.cp rfl,hr⟩;have eTh:((List.range (m0-k)).map λi=>T.tup [.str (ys.getD (k+1+i) Str.empty),.int ((ys.take ((ud h).getD (k+1+i) 0)).length:Nat)])=((dv ys h (1+m0)).drop (k+1)).map λp=>T.tup [.str p.1,.int (p.2.length:Int)]:=by unfold dv;refine Nd λi=>?_;rw[gJ,gJ,List.getElem?_drop,gJ];by_cases hi:i<m0-k;rw[Jz hi,Jz (by omega)];rfl;rw[Jd (by rw[Jf];omega),Jd (by rw[Jf];omega)];rfl
 have ac4:(List.replicate n1 Rw.skip++rs).map aW++[T.tup [T.str "def",T.str (ys.getD k Str.empty),T.tup (fJ (ys.map T.str) none (some (((ud h).getD k 0:Nat):Int)))]]=(List.replicate n1 Rw.skip++rs++[Rw.df (ys.getD k Str.empty) (ys.take ((ud h).getD k 0))]).map aW:=by rw[rM (l₂:=[_]),MK];rfl
 show Qa _ _ _ [_,_,_,_,_,_,some (.lst ((List.replicate n1 Rw.skip++rs).map aW++[T.tup [T.str "def",T.str (ys.getD k Str.empty),T.tup (fJ (ys.map T.str) none (some (((ud h).getD k 0:Nat):Int)))]]),true),_,some (.lst ((List.range (m0-k)).map λi=>T.tup [.str (ys.getD (k+1+i) Str.empty),.int ((ys.take ((ud h).getD (k+1+i) 0)).length:Nat)]),false),_,_,_];rw[eTh,ac4];refine⟨Gen.cp rfl,?_⟩;refine cO (λXd=>?_) (λXd=>?_);have ac5:(k:Int)=1+(m0:Int)-1:=Xd;refine⟨k,ns.length,rs,wG,hk,c3 _,by omega,by rw[if_pos (by omega)],iH,hlen,?_,λρ' h=>h⟩;rw[<- eN];rfl;have ac5:¬ ((k:Int)=1+(m0:Int)-1):=Xd;refine⟨.inl ⟨by show -(2 ^ 64:Int)<(k:Int)+1;omega,by show (k:Int)+1<(2 ^ 64:Int);omega⟩,k,(k+1) * sh,rs,wG,hk,by rw[Nat.add_mul,Nat.one_mul];omega,Nat.mul_le_mul_right _ (by omega),by rw[if_neg (by omega)],iH,hlen,?_,λρ' h=>h⟩;have e3:(((k+1) * sh:Nat):Int)=((k:Int)+1) * (sh:Int):=by push_cast;rfl
 rw[e3];rfl;rintro ρ ⟨b7,b8,b9,wc,wG,_,rs,rfl,rfl,iH,hlen⟩;rw[if_pos rfl] at hlen;refine hq n1 (dv ys h (1+m0)) rs (by omega) (by rw[gE];omega) (by rw[gE];omega) (Ew Y (by omega)) (Ex Y (by omega)) (by rw[gE];exact iH) (by omega)
end
end dR
namespace BS
open PySem PySem.Builtin PyProof.Rows
end BS
namespace On
open PySem L2 VT Gen K5 Lay BS
def S8(p:Nat->Bool):qai->qao->qai
 |x::s,j::t=>if p j=true then x::S8 p s t else S8 p s t
 |_,_=>[]
end On
namespace On
open PySem L2 VT Gen K5 Lay BS
open PySem.Builtin (bitOr)
theorem MM(hp:∀p∈pl,p.1∈ys/\p.2.length<=2/\p.2.Nodup/\∀x∈p.2,x∈ys)(h:Pre ys pl n rs):∀r∈rs,DT ys r:=by
 induction h with
 |zero=>intro r hr;cases hr
 |@succ k rs f ps bP body o sk _ hk hb ho hs ih=>
  intro r hr;rcases cN.mp hr with hr|hr
  exact ih r hr;rcases List.mem_cons.mp hr with rfl|hr
  obtain⟨h1,h2,h3,h4⟩:=hp _ (gH hk);exact⟨h1,h2,h3,h4⟩;rcases cN.mp hr with hr|hr
  exact Lq (λf ps h=>⟨(hp _ (List.mem_of_mem_drop h)).1,(hp _ (List.mem_of_mem_drop h)).2.1⟩) hb r hr;rcases cN.mp hr with hr|hr
  rw[(List.mem_replicate.mp hr).2];trivial;rcases cT.mp hr with rfl|hr
  exact ho;obtain rfl|rfl:=hs
  cases hr;simp only[cT,gb,or_false] at hr;subst hr;trivial
end On
namespace VT
open PySem PySem.Spec PyProof.Rows L2 PySem.MeetsSeq PySem.SeqAt
end VT
namespace jY
open PySem L2 VT Gen Sg Rg Lay K5
open dR (Ys Jy f_ IB AV)
open og (dD)
open jC (Vl vT nm dH RI)
noncomputable def top(i:Nat):Stmt:=PySem.Challenge.pw_slicewise_k16_cut_anywhere.main.body.getD i (.Pass ⟨0,0,0,0⟩)
noncomputable abbrev A0:Stmt:=top 62
noncomputable abbrev IS:Stmt:=top 63
noncomputable abbrev mR:Stmt:=top 64
structure Yr(mg:qae):Prop where
 isinstance:mg "isinstance"=none
 tuple:mg "tuple"=none
 list:mg "list"=none
 len:mg "len"=none
 range:mg "range"=none
 enumerate:mg "enumerate"=none
theorem wC(h:n<=1000):n<=sizeLine:=Gen.small h
def Dg(t:T):Prop:=plainT t=true/\dep t<=3
theorem MN(v:Vl):plainT (vT v)=true/\dep (vT v)<=1:=by
 cases v with
 |num i=>exact⟨rfl,by simp[vT,dep]⟩
 |DR p r=>exact⟨rfl,by simp[vT,dep,fS]⟩
theorem Xe(e:Ev)(ce:Ce)(c:Ct)(p:Nat)(r:Rw):Dg (rN e ce c p r):=by
 have h1:bG ((gi r).map λo=>vT (look e o))=true:=c0 (f:=λo=>vT (look e o)) (λo=>(MN _).1) _;have h2:=eI (f:=λo=>vT (look e o)) (n:=1) (λo=>(MN _).2) (gi r);have h3:plainT (oV (t5 e ce c p r))=true/\dep (oV (t5 e ce c p r))<=1:=by
  cases t5 e ce c p r with
  |none=>exact⟨rfl,by simp[oV,dep]⟩
  |some v=>exact MN v
 unfold rN Dg;simp only[plainT,bG,dep,fS,h1,h3.1,Jl,true_and];have:=h3.2;omega
theorem IT{t:T}(h:sI t):plainT t=true/\dep t<=2:=by
 obtain⟨v,rfl⟩|rfl|rfl|⟨w,rfl⟩:=h
 have:=MN v;unfold i_;simp only[plainT,bG,dep,fS,this.1,Jl,true_and];have:=this.2;omega;exact⟨rfl,by simp[qF,dep,fS]⟩;exact⟨rfl,by simp[dI,dep,fS]⟩;exact⟨rfl,by simp[t4,dep,fS]⟩
theorem we{t:T}(h:sI t):∃x u,t=.tup [.str x,u]/\wz (.str x) [.str "done",.str "fault",.str "cut"]=true/\(x="cut"↔t=dI):=by
 obtain⟨v,rfl⟩|rfl|rfl|⟨w,rfl⟩:=h
 exact⟨_,_,rfl,by decide +kernel,λe=>absurd e (by decide +kernel),λe=>by unfold i_ dI at e;injection e with e;injection e with e1 _;injection e1⟩;exact⟨_,_,rfl,by decide +kernel,λe=>absurd e (by decide +kernel),λe=>by unfold qF dI at e;injection e with e;injection e with e1 _;injection e1⟩;exact⟨_,_,rfl,by decide +kernel,λ_=>rfl,λ_=>rfl⟩;exact⟨_,_,rfl,by decide +kernel,λe=>absurd e (by decide +kernel),λe=>by unfold t4 dI at e;injection e with e;injection e with e1 _;injection e1⟩
section
theorem So(W:Wl rs){s:Lv}{R:Res}(h:pw rs most n s R):oZ rs s->(∀t∈s.dn,Dg t)->∀t∈R.1,Dg t:=by
 have add:∀{l:qaj}{t:T},(∀u∈l,Dg u)->Dg t->∀u∈l++[t],Dg u:=λ{l t} hl ht u hu=>by
  rcases cN.mp hu with z|z
  exact hl u z;rw[jh.mp z];exact ht
 induction h with
 |@fin s R h=>
  intro I hd;rcases cK W I with⟨s',_,_,h2⟩|⟨r,hr,hs,h2⟩
  rw[h2] at h;cases h;rw[h2] at h;split at h;cases h;exact hd;have:=fF W I hr hs;rw[h] at this;rw[this.1];exact add hd (Xe _ _ _ _ _)
 |@go n s s' R h k ih=>
  intro I hd;rcases cK W I with⟨s2,I2,e2,h2⟩|⟨r,hr,hs,h2⟩
  rw[h2] at h;cases h;exact ih I2 (by rw[e2];exact hd);rw[h2] at h;split at h;cases h;have e:=fF W I hr hs;rw[h] at e;have e':s'.dn=_:=e;rcases iB W I hr hs with⟨s3,h3,I3,_⟩|⟨R3,h3⟩
  rw[h] at h3;cases h3;exact ih I3 (by rw[e'];exact add hd (Xe _ _ _ _ _));rw[h] at h3;cases h3
structure Told(most:Nat)(R:Res):Prop where
 im:dG R.1=true
 dg:∀t∈R.1,Dg t
 en:sI R.2
 le:R.1.length<=most
 cu:R.2=dI->R.1.length=most
theorem fO(W:Wl rs){ins:qan}{R:Res}(h:gd rs ins most R):Told most R:=by
 cases h with
 |bare h=>exact⟨rfl,(λt ht=>nomatch ht),.inl ⟨_,rfl⟩,jj _,λe=>by unfold i_ dI at e;injection e with e;injection e with e1 _;injection e1 with e1;exact absurd e1 (by decide +kernel)⟩
 |nH h hd k=>have I:=v7 W hd ins;obtain⟨h1,h2,h3,h4,_⟩:=k.tells W I rfl (jj _);exact⟨h1,So W k I (λt ht=>nomatch ht),h2,h3,h4⟩
theorem wg(W:Wl rs)(ins:qan)(most:Nat):∃R,gd rs ins most R:=by
 cases hm:eO rs with
 |none=>exact⟨_,.bare hm⟩
 |some a=>obtain⟨⟨f,ps,hd⟩,_⟩:=iw hm;obtain⟨n,R,h⟩:=Mv W most (v7 W hd ins);exact⟨R,.nH hm hd h⟩
theorem IU(W:Wl rs){ins:qan}{o:Nat}{R R':Res}(h:gd rs ins most R)(h':gd rs ins o R'):(o<R.1.length->R'=(R.1.take o,dI))/\(R.1.length<=o->R.2≠dI->R'=R)/\(R.1.length<=o->R.2=dI->∃l,R'.1=R.1++l):=by
 cases h with
 |bare h=>
  cases h' with
  |bare h2=>exact⟨λz=>absurd z (by simp),λ_ _=>rfl,λ_ _=>⟨[],rfl⟩⟩
  |nH h2 hd k=>rw[h] at h2;cases h2
 |nH h hd k=>
  cases h' with
  |bare h2=>rw[h] at h2;cases h2
  |nH h2 hd2 k2=>rw[h] at h2;cases h2;rw[hd] at hd2;cases hd2;have I:=v7 W hd ins;refine⟨λz=>?_,λz hc=>?_,λz hc=>?_⟩;obtain⟨m,hm⟩:=k.less W I (jj _) z;exact k2.det hm;exact k2.det (k.more W I (jj _) hc z);have:=(fO W (.nH h hd k)).cu hc;exact k.ext W I rfl (jj _) (by omega) hc k2
end
noncomputable def cS(R:Res):T:=.tup [.lst R.1,R.2]
def IV(ts:qaj)(q:qam):Prop:=∃R:Res,ts=[cS R]/\sI R.2/\q (.vw (.bl true))
def Xf(ts:qaj)(q:qam):Prop:=∃(rs:qal)(ins:qan)(o most:Nat)(R:Res),ts=[.lst (rs.map aW),.lst (ins.map .int),.int (o:Int),.lst R.1,R.2]/\Wl rs/\ins.length<=100/\o<=900/\gd rs ins most R/\most<=900/\q (.vw (.bl true))
theorem Xg{l:qaj}(h:∀t∈l,Dg t):plainT (.lst l)=true/\dep (.lst l)<=4:=by
 simp only[plainT,dep];induction l with
 |nil=>exact⟨rfl,by simp[fS]⟩
 |cons t l ih=>obtain⟨a,b⟩:=h t dw;obtain⟨c,d⟩:=ih λu hu=>h u (gG _ hu);simp only[bG,fS,a,c,Jl,true_and];omega
theorem y8(l:qaj)(k:Nat):fJ l none (some (k:Int))=l.take k:=by unfold fJ;rw[HT.j3];by_cases h:k<=l.length;rw[T4 h];simp[HT.d_];rw[Nat.min_eq_right (by omega),List.take_of_length_le (l:=l) (by omega:l.length<=k)];simp[HT.d_]
section
noncomputable abbrev nL:qai:=qaV
theorem Cw:az nL qaV (ah A0):=L2.gg
theorem MO(D:Df K mg "_law_ends" A0 qaV f fd)(M:Yr mg):bS P w K mg base "_law_ends" qaV 1 (cW K 1 IV):=by
 refine D.gx (lJ D.F Cw rfl λbA A outer s H E Ox hr ts q hG=>?_);have nd:=Cw.nd;have hu:=bz.fU hr;refine⟨_,(ai (bt (VW.vc (pW (g_ (fQ (j7 kP (by rfl) M.isinstance (by rfl) M.tuple j8 (aa 0)))) (pW (l_ hu (qas (aT aO aP (by rfl) M.len ji (aA (aa 0) aM))) (qas af)) (pW (g_ (fQ (j7 Dl (by rfl) M.isinstance (by rfl) M.list kR (qas (aC (aa 0) (qas af)))))) (pV (g_ (fQ (j7 kP (by rfl) M.isinstance (by rfl) M.tuple j8 (qas (aC (aa 0) (qas af)))))))))))
   (aw (aJ (qau pT)))
   aV)
  (aw (aJ (qau (pX (tE hu (qas (aT aO aP (by rfl) M.len ji (aA (qas (aC (aa 0) (qas af))) aM))) (qas af)) (uH (NJ (qas (aC (qas (aC (aa 0) (qas af))) (qas af))) (qas (br (ae (qat aG) (ae (qat aG) (ae (qat aG) ar)))))))))))),λ_=>?_⟩
 obtain⟨R,rfl,hE,hq⟩:=hG;obtain⟨x,u,e,hx,_⟩:=we hE;unfold cS;rw[e];refine⟨rfl,_,aj (j:=0) rfl,rfl,_,aj (j:=1) rfl,rfl,?_⟩;refine⟨_,aj (j:=1) rfl,_,aj (j:=1) rfl,_,aj (j:=0) rfl,Gen.cp rfl,rfl,rfl,?_⟩;show q (.vw (.bl (wz (.str x) [.str "done",.str "fault",.str "cut"])));rw[hx];exact hq
noncomputable abbrev Xh:qai:=["_law_rows","_law_inputs","_law_most","_law_doings","_law_end","_law_told"]
theorem IW:az Xh qaW (ah IS):=L2.gg
theorem Sq(D:Df K mg "_law_cut" IS qaW f fd)(M:Yr mg)(IX:Se P w K mg base)(A1:bS P w K mg base "_law_ends" qaV 1 (cW K 1 IV)):bS P w K mg base "_law_cut" qaW 9 (cW K 5 Xf):=by
 obtain⟨Xi,Sr,Ss,y9,y_,y',Xj,za⟩:=IX;refine D.gx (lJ D.F IW rfl λbA A outer s H E Ox hr ts q hG=>?_);have nd:=IW.nd;have hu:=bz.fU hr;have np:∀{i:Nat},bN ⟨H,[],Ox⟩ i:=oq;refine⟨_,(ai (bq (i:=5) nd rfl (Or.inl rfl) (qau (Ju.vp (jB za (hr.mono (by decide)) (by rfl) y9 y_ y' .nil (dts:=[]) (λ_ _=>aB.nil) (ae (qat (dA dy fm (by rfl) M.list kR (aA (aa 0) aM))) (ae (qat (dA dy fm (by rfl) M.list kR (aA (aa 1) aM))) (ae (aq 2) ar)))))) np)
  (ai (bt (g_ (fQ (aH A1 hr (ae (aq 5) ar))))
   (aw (aJ (qau pT)))
   aV)
  (ai (bt (oi (aa 2) (qas (aT aO aP (by rfl) M.len ji (aA (aa 3) aM))))
   (aw (aJ (qau (tE hu (aa 5) (qas (br (ae (qat (fK (aa 3) j6 (fE (aa 2)))) (ae (qat (br (ae (qat aG) (ae (qat af) ar)))) ar))))))))
   aV)
  (ai (bt (bJ hu (qas (aC (aa 4) (qas af))) (qas aG))
   (aw (aJ (qau (pX (Gf wW wW (qas (aT aO aP (by rfl) M.len ji (aA (aa 3) aM))) (qas (aT aO aP (by rfl) M.len ji (aA (qas (aC (aa 5) (qas af))) aM))) (aa 2)) (uH (tE hu (qas (fK (qas (aC (aa 5) (qas af))) j6 (fE (qas (aT aO aP (by rfl) M.len ji (aA (aa 3) aM)))))) (aa 3)))))))
   aV)
  (aw (aJ (qau (tE hu (aa 5) (qas (br (ae (aq 3) (ae (aq 4) ar)))))))))))),λ_=>?_⟩
 obtain⟨rs,ins,o,most,R,rfl,W,Ad,ho,hR,hm,hq⟩:=hG;obtain⟨R',Wb⟩:=wg W ins o;have t1:=fO W hR;have t2:=fO W Wb;obtain⟨L1,L2,L3⟩:=IU W hR Wb;refine⟨rfl,rs,ins,o,R',rfl,W,Ad,ho,Wb,?_⟩;refine⟨rfl,R',rfl,t2.en,?_⟩;refine eW (c:=false) rfl ?_;have pl:∀{R:Res},(∀t∈R.1,Dg t)->sI R.2->plainT (cS R)=true/\dep (cS R)<=100:=λ{R} h1 h2=>by obtain⟨a,b⟩:=Xg h1;obtain⟨c,d⟩:=IT h2;unfold cS;simp only[plainT,bG,dep,fS] at a b ⊢;rw[a,c];exact⟨rfl,by omega⟩
 have p2:=pl t2.dg t2.en;have e2:=eB _ p2.1;refine cO (λh=>?_) (λh=>?_);have h':o<R.1.length:=by omega
 have:=L1 h';subst this;have ec:fJ R.1 none (some (o:Int))=R.1.take o:=y8 R.1 o;refine⟨Gen.cp rfl,Gen.cp rfl,?_⟩;show De (cS (R.1.take o,dI)) (.tup [.lst (fJ R.1 none (some (o:Int))),dI]) _;rw[ec];refine⟨p2.1,p2.1,p2.2,?_⟩;show q (.vw (.bl (eqT (cS (R.1.take o,dI)) (cS (R.1.take o,dI)))));rw[e2];exact hq;have h':R.1.length<=o:=by omega
 obtain⟨x,u,e,hx,hc⟩:=we t1.en;obtain⟨Ds,En⟩:=R;have e':En=.tup [.str x,u]:=e;subst e';refine⟨_,aj (j:=0) rfl,?_⟩;refine cO (λhx=>?_) (λhx=>?_);obtain⟨l,hl⟩:=L3 h' (hc.mp hx);have wN:R'.1=Ds++l:=hl;have hle:=t2.le;refine⟨_,aj (j:=0) rfl,?_⟩;refine Nm.qG (c:=decide ((Ds.length:Int)<=(R'.1.length:Int))) (λ_=>?_) (λz=>absurd z (by rw[decide_eq_true (by rw[wN,nX];omega)];decide));refine Nm.qG (c:=decide ((R'.1.length:Int)<=(o:Int))) (λ_=>?_) (λz=>absurd z (by rw[decide_eq_true (by omega)];decide));have ec:fJ R'.1 none (some (Ds.length:Int))=Ds:=by rw[y8,wN,List.take_left]
 obtain⟨d1,d2⟩:=Xg t1.dg;refine⟨_,aj (j:=0) rfl,?_⟩;show De (.lst (fJ R'.1 none (some (Ds.length:Int)))) (.lst Ds) _;rw[ec];refine⟨d1,d1,ly d2 (by decide),?_⟩;show q (.vw (.bl (eqT (.lst Ds) (.lst Ds))));rw[eB _ d1];exact hq;have:=L2 h' (λz=>hx (hc.mpr z));subst this;refine⟨Gen.cp rfl,p2.1,p2.1,p2.2,?_⟩;show q (.vw (.bl (eqT (cS (Ds,.tup [.str x,u])) (cS (Ds,.tup [.str x,u])))));rw[e2];exact hq
end
def MP(ts:qaj)(q:qam):Prop:=∃ns:qan,ts=[.lst (ns.map .int)]/\ns.length<=63/\q (.vw (.bl true))
theorem rE(h:og.dD y=true):y.length<=8:=by unfold og.dD at h;simp only[lL,decide_eq_true_eq] at h;omega
theorem Xk(hy:∀y∈ys,og.dD y=true)(h:DT ys r):Tv r:=by
 have Yt:∀{x:Str},x∈ys->qD (.nm x):=λ{x} hx=>⟨hy x hx,by have:=rE (hy x hx);omega⟩;have op:∀{o:i9},dQ ys o->qD o:=λ{o} ho=>by
  cases o with
  |nm x=>exact Yt ho
  |nu i=>exact ho
 have ky:∀{k:Ky},DP ys k->Jw k:=λ{k} hk=>by
  cases k with
  |fld x=>exact⟨hy x hk,by have:=rE (hy x hk);omega⟩
  |op o=>exact op hk
 cases r with
 |df f ps=>exact⟨ly h.2.1 (by decide),λx hx=>Yt (h.2.2.2 x hx)⟩
 |give a=>exact op h
 |put x a=>exact op h.2
 |lK x a o b=>exact⟨op h.2.1,h.2.2.1,op h.2.2.2⟩
 |get x r k=>exact⟨Yt h.2.1,ky h.2.2⟩
 |set r k a=>exact⟨Yt h.1,ky h.2.1,op h.2.2⟩
 |call x f as=>exact⟨ly h.2.2.1 (by decide),λo ho=>op (h.2.2.2 o ho)⟩
 |kY a=>exact op h
 |gm a=>exact op h
 |_=>trivial
theorem zb:∀n,dr 0 (List.replicate n Rw.skip)=some 0
 |0=>rfl
 |n+1=>by rw[rQ];simp only[dr,a9];exact zb n
theorem IY{k:Nat}(h:Pre ys pl k rs)(hk:1<=k)(n:Nat):∃i,eO (List.replicate n Rw.skip++rs)=some i:=by
 cases h with
 |zero=>omega
 |@succ k rs f ps bP body o sk _ _ _ _ _=>
  cases e:eO (List.replicate n Rw.skip++(rs++(.df f ps::(body++(List.replicate bP.length .fin++(.give o::sk)))))) with
  |some i=>exact⟨i,rfl⟩
  |none=>have hm:Rw.df f ps∈List.replicate n Rw.skip++(rs++(.df f ps::(body++(List.replicate bP.length .fin++(.give o::sk))))):=bU _ (bU _ dw);obtain⟨j,hj⟩:=M9.mp hm;exact absurd hj (tY e j f ps)
theorem Su(ns:qan):fJ (ns.map T.int) (some 4) (some 24)=((ns.drop (min 4 ns.length)).take (min 24 ns.length-min 4 ns.length)).map T.int:=by unfold fJ;rw[cV,<- List.map_drop,<- List.map_take];rw[show (4:Int)=((4:Nat):Int) from rfl,show (24:Int)=((24:Nat):Int) from rfl,HT.j3,HT.j3]
theorem A2(rs:qal):plainT (.lst (rs.map aW))=true:=by simp only[plainT];exact c0 Ag rs
theorem bind_eq(ps:qai){gs gs':List Vl}:∀k,(∀j,j<k->gs.getD j (.num 0)=gs'.getD j (.num 0))->cq ps gs k=cq ps gs' k
 |0,_=>rfl
 |k+1,h=>by unfold cq;rw[bind_eq ps k λj hj=>h j (by omega),h k (by omega)]
theorem zc{a:Nat}{f:Str}(hm:eO rs=some a)(hd:rs[a]?=some (.df f ps)){ins MQ:qan}{R:Res}(h:∀j,j<ps.length->dH (ins.getD j 0)=dH (MQ.getD j 0))(hR:gd rs ins most R):gd rs MQ most R:=by
 have g0:∀(l:qan)(j:Nat),(AR l).getD j (.num 0)=.num (dH (l.getD j 0)):=λl j=>by unfold AR;rw[List.getD,List.getD,gJ];cases l[j]?<;>rfl
 have e:cq ps (AR ins) ps.length=cq ps (AR MQ) ps.length:=bind_eq ps _ λj hj=>by rw[g0,g0,h j hj]
 cases hR with
 |bare h2=>rw[hm] at h2;cases h2
 |nH h2 hd2 k=>
  rw[hm] at h2;cases h2;rw[hd] at hd2;cases hd2;have e2:Tz a ps MQ=Tz a ps ins:=by unfold Tz;rw[e]
  exact .nH hm hd (by rw[e2];exact k)
theorem MT{ins:qan}{R R':Res}(h:gd rs ins most R)(h':gd rs ins most R'):R=R':=by
 cases h with
 |bare h=>
  cases h' with
  |bare _=>rfl
  |nH h2 _ _=>rw[h] at h2;cases h2
 |nH h hd k=>
  cases h' with
  |bare h2=>rw[h] at h2;cases h2
  |nH h2 hd2 k2=>rw[h] at h2;cases h2;rw[hd] at hd2;cases hd2;exact k.det k2
theorem Ey(l:qan):dP (l.map T.int)=(l.zipIdx).map λp=>.tup [.int (p.2:Int),.int p.1]:=by unfold dP;refine Nd λi=>?_;rw[TX,gJ,gJ,TY];cases l[i]?<;>simp
def jZ(ins:qan):qan:=(ins.zipIdx).map λp=>p.1+2 * 10 ^ (30:Int).toNat * ((p.2:Int)-1)
theorem MV(ins:qan)(j:Nat):dH ((jZ ins).getD j 0)=dH (ins.getD j 0):=by
 unfold jZ;rw[List.getD,List.getD,gJ,TY];cases ins[j]? with
 |none=>rfl
 |some i=>show dH (i+2 * 10 ^ (30:Int).toNat * (((0+j:Nat):Int)-1))=dH i;unfold dH;rw[show (10:Int) ^ (30:Int).toNat=1000000000000000000000000000000 by decide +kernel,Int.add_right_comm,Int.add_mul_emod_self_left]
theorem Xl:∀k:Nat,(List.replicate k [T.int 7]).flatten=(List.replicate k (7:Int)).map T.int
 |0=>rfl
 |k+1=>by rw[rQ,Je,Xl k,rQ];rfl
theorem Xm{c:Bool}{A:Prop}(hc:c=true)(h:A):if c=true then A else B:=by rw[if_pos hc];exact h
def MW:Rw->Bool
 |.df _ _=>true
 |_=>false
theorem MX(r:Rw):decide (wd r="def")=MW r:=by cases r<;>rfl
theorem IZ{a:Nat}{f:Str}(hm:eO rs=some a)(hd:rs[a]?=some (.df f ps)):(rs.filter MW)[0]?=some (.df f ps):=by
 obtain⟨_,hb⟩:=iw hm;have ha:=(dS.mp hd).1;have e:rs=rs.take a++.df f ps::rs.drop (a+1):=by
  have:rs.drop a=.df f ps::rs.drop (a+1):=by obtain⟨h1,h2⟩:=dS.mp hd;rw[<- h2];exact Yx h1
  rw[<- this,Xz]
 have e0:(rs.take a).filter MW=[]:=by
  rw[List.filter_eq_nil_iff];intro r hr hz;obtain⟨j,hj⟩:=M9.mp hr;rw[List.getElem?_take] at hj;split at hj;cases r with
  |df g qs=>exact hb j (by assumption) g qs hj
  |_=>cases hz
  cases hj
 rw[e,XF,e0,SY,TM rfl];rfl
structure Pg(rs:qal)(a:Nat)(f:Str)(ps:qai):Prop where
 W:Wl rs
 m:eO rs=some a
 d:rs[a]?=some (.df f ps)
 p:ps.length<=2
abbrev vw(t:T):Option (T×Bool):=some (t,false)
noncomputable def Xn:FS:=λd ρ=>∃(ns:qan)(rs:qal)(a:Nat)(f:Str)(ps:qai)(ins:qan)(b1 b2:Option (T×Bool)),ρ=[vw (.lst (ns.map .int)),b1,b2,vw (.lst (rs.map aW)),vw (.lst (ins.map .int)),none,none,none,none,none,none,none,none]/\Pg rs a f ps/\ins.length<=3/\∀ρ,d.rt ρ (.vw (.bl true))
noncomputable def Sw:FS:=λd ρ=>∃(ns:qan)(rs:qal)(a:Nat)(f:Str)(ps:qai)(ins:qan)(most:Nat)(R:Res)(b1 b2 b6 wc:Option (T×Bool)),ρ=[vw (.lst (ns.map .int)),b1,b2,vw (.lst (rs.map aW)),vw (.lst (ins.map .int)),vw (.int (most:Int)),b6,vw (cS R),vw (.lst R.1),vw R.2,wc,none,none]/\Pg rs a f ps/\ins.length<=3/\most<=60/\gd rs ins most R/\∀ρ,d.rt ρ (.vw (.bl true))
noncomputable def Xo:FS:=λd ρ=>∃(ns:qan)(rs:qal)(a:Nat)(f:Str)(ps:qai)(ins:qan)(most:Nat)(R:Res)(od:qan)(b1 b2 b6 wc wG:Option (T×Bool)),ρ=[vw (.lst (ns.map .int)),b1,b2,vw (.lst (rs.map aW)),vw (.lst (ins.map .int)),vw (.int (most:Int)),b6,vw (cS R),vw (.lst R.1),vw R.2,wc,wG,some (.lst (od.map .int),true)]/\Pg rs a f ps/\ins.length<=3/\most<=60/\gd rs ins most R/\(od.length=ins.length/\∀j,dH (od.getD j 0)=dH (ins.getD j 0))/\∀ρ,d.rt ρ (.vw (.bl true))
section
noncomputable abbrev zd:qai:=["_law_script","_law_head","_law_names_here","_law_rows","_law_inputs","_law_most","_law_handed","_law_told","_law_doings","_law_end","_law_other","_law_parameters","_law_odd"]
theorem I9:az zd qaX (ah mR):=L2.gg
theorem Ez:(zd++(["_law_k"]:qai)).Nodup:=by decide +kernel
theorem EA:(zd++(["_law_k"]:qai)).Nodup:=by decide +kernel
theorem EB:(zd++(["_law_row"]:qai)).Nodup:=by decide +kernel
theorem ue:(zd++(["_law_k","_law_number_here"]:qai)).Nodup:=by decide +kernel
theorem Sx(D:Df K mg "law" mR qaX f fd)(M:Yr mg)(fB:bS P w K mg base "_law_cell_at" qaO 1 (cW K 2 IB))(MY:bS P w K mg base "_law_names" qaQ 1 (cW K 2 AV))(EC:bS P w K mg base "_law_program" qaU 6 (cW K 3 dR.IM))(IX:Se P w K mg base)(A1:bS P w K mg base "_law_ends" qaV 1 (cW K 1 IV))(Xp:bS P w K mg base "_law_cut" qaW 9 (cW K 5 Xf)):cA P w K mg base eV 10 f fd qaX (cW K 1 MP):=by
 obtain⟨Xi,Sr,Ss,y9,y_,y',Xj,za⟩:=IX;refine lJ D.F I9 rfl λbA A outer s H E Ox hr ts q hG=>?_;obtain⟨ns,rfl,h63,hq⟩:=hG;have nd:=I9.nd;have hu:=bz.fU hr;have np:∀{i:Nat},bN ⟨H,[],Ox⟩ i:=oq;have npf:∀{is:qao},∀i∈is,bN ⟨H,[],Ox⟩ i:=λi _=>oq;refine⟨_,(ai (bq (i:=1) nd rfl (Or.inl rfl) (qau (bj (qas (aH fB hr (ae (aq 0) (ae (qat af) ar)))) (qas (jn (qas af) (qas af))))) np)
  (ai (bq (i:=2) nd rfl (Or.inl rfl) (qau (aH MY hr (ae (qat (aH fB hr (ae (aq 0) (ae (qat af) ar)))) (ae (qat (bW (qas af) (qas (bj (qas (a7 (aa 1) (qas af))) (qas af))))) ar)))) np)
  (ai (bq (i:=3) nd rfl (Or.inl rfl) (qau (aH EC hr (ae (qat (fK (aa 0) (fE (qas af)) (fE (qas af)))) (ae (aq 2) (ae (aq 1) ar))))) np)
  (ai (o7 (i:=4) (ts:=qaR) nd rfl (Or.inl rfl) rfl (by rfl) (fq (by rfl) M.range (qas (bj (qas (a7 (aa 1) (qas af))) (qas af)))) (λ_ _ _ _ _ _=>(bE (i:=13) Ez rfl (Or.inl rfl) np)) (λ_ _ _ _ _ _=>eC) (λ_ _ _ _ _ _=>(qat (hJ (qas (bj (qas (a7 (qas (aH fB hr (ae (aq 0) (ae (qat af) ar)))) (qas (bW (qas (gr (aa 13) (aa 13))) (qas af))))) (qas (jn (qas af) (qas af))))) (qas af)))) np)
  (ai (bt (bJ hu (qas (bj (qas (aH fB hr (ae (aq 0) (ae (qat af) ar)))) (qas af))) (qas af))
   (aw (o7 (i:=4) (ts:=qaR) nd rfl (Or.inl rfl) rfl (by rfl) (fq (by rfl) M.range (qas (bj (qas (a7 (aa 1) (qas af))) (qas af)))) (λ_ _ _ _ _ _=>(bE (i:=13) EA rfl (Or.inl rfl) np)) (λ_ _ _ _ _ _=>eC) (λ_ _ _ _ _ _=>(qat (hJ (qas (bj (qas (a7 (qas (aH fB hr (ae (aq 0) (ae (qat af) ar)))) (qas (bW (qas (gr (qas af) (aa 13))) (qas af))))) (qas af))) (qas af)))) np))
   aV)
  (lF.weak (u:=(Xn)) (ai (bq (i:=5) nd rfl (Or.inl rfl) (qau (bj (qas (aH fB hr (ae (aq 0) (ae (qat af) ar)))) (qas af))) np)
  (ai (bq (i:=6) nd rfl (Or.inl rfl) (qau (cY (ae (qat (dA dy fm (by rfl) M.list kR (aA (aa 3) aM))) (ae (qat (dA dy fm (by rfl) M.list kR (aA (aa 4) aM))) ar)))) np)
  (ai (bq (i:=7) nd rfl (Or.inl rfl) (qau (Ju.vp (jB za (hr.mono (by decide)) (by rfl) y9 y_ y' .nil (dts:=[]) (λ_ _=>aB.nil) (ae (qat (aC (aa 6) (qas af))) (ae (qat (aC (aa 6) (qas af))) (ae (aq 5) ar)))))) np)
  (ai (bt (VW.vc (pW (g_ (fQ (aH A1 hr (ae (aq 7) ar)))) (pV (l_ hu (aa 6) (qas (cY (ae (aq 3) (ae (aq 4) ar))))))))
   (aw (aJ (qau pT)))
   aV)
  (ai (bq (i:=8) nd rfl (Or.inl rfl) (qau (dA dy fm (by rfl) M.list kR (aA (qas (aC (aa 7) (qas af))) aM))) np)
  (ai (bq (i:=9) nd rfl (Or.inl rfl) (qau (aC (aa 7) (qas af))) np)
  (ai (bt (VW.vc (pW (VW.vc (fj (bJ hu (qas (aC (aa 9) (qas af))) (qas aG)) (dU (VW.vc (pW (l_ hu (aa 9) (qas (br (ae (qat aG) (ae (qat af) ar))))) (pV (l_ hu (qas (aT aO aP (by rfl) M.len ji (aA (aa 8) aM))) (aa 5)))))))) (pV (FV (qas (aT aO aP (by rfl) M.len ji (aA (aa 8) aM))) (aa 5)))))
   (aw (aJ (qau pT)))
   aV)
  (lF.weak (u:=(Sw)) (ai (kN JC rfl (jq (qat (cY (ae (qat (bj (qas (a7 (qas (aH fB hr (ae (aq 0) (ae (qat af) ar)))) (qas af))) (qas (bW (qas (aT aO aP (by rfl) M.len ji (aA (aa 8) aM))) (qas af))))) (ae (qat af) (ae (qat af) ar)))))) (bE (i:=10) nd rfl (Or.inl rfl) np)
   (aw (bt (g_ (fQ (aH Xp hr (ae (aq 3) (ae (aq 4) (ae (aq 10) (ae (aq 8) (ae (aq 9) ar))))))))
    (aw (aJ (qau pT)))
    aV)))
  (lF.weak (u:=(Sw)) (ai (bq (i:=11) nd rfl (Or.inl rfl) (qau (aC (qas (aC (qas (gT (ts:=["_law_row"]) rfl (by rfl) (jq (aq 3)) (λ_ _ _ _ _ _=>(bE (i:=13) EB rfl (Or.inl rfl) np)) (λ_ _ _ _ _ _=>(BE (bJ hu (qas (aC (aa 13) (qas af))) (qas aG)))) (λ_ _ _ _ _ _=>(aq 13)))) (qas af))) (qas af))) np)
  (ai (F5 (i:=12) (ts:=["_law_k","_law_number_here"]) nd rfl (Or.inl rfl) rfl (by rfl) (uS (by rfl) M.enumerate (aq 4)) (λ_ _ _ _ _ _=>(qa (n:=2) rfl (dO (bE (i:=13) ue rfl (Or.inl rfl) np) (dO (bE (i:=14) ue rfl (Or.inl rfl) np) ma)))) (λ_ _ _ _ _ _=>eC) (λ_ _ _ _ _ _=>(qat (bW (aa 14) (qas (gr (qas (gr (qas af) (qas (jn (qas af) (qas af))))) (qas (hJ (aa 13) (qas af)))))))) np)
  (ai (bt (VW.vc (fj (l_ hu (qas (Ju.vp (jB za (hr.mono (by decide)) (by rfl) y9 y_ y' .nil (dts:=[]) (λ_ _=>aB.nil) (ae (aq 3) (ae (qat (bW (aa 12) (qas (kQ (cY (ae (qat af) ar)) (qas (hJ (qas af) (qas (aT aO aP (by rfl) M.len ji (aA (aa 12) aM))))))))) (ae (aq 5) ar)))))) (aa 7)) (dU (U7 (qas (aT aO aP (by rfl) M.len ji (aA (aa 11) aM))) (qas (aT aO aP (by rfl) M.len ji (aA (aa 12) aM)))))))
   (aw (aJ (qau pT)))
   aV)
  (lF.weak (u:=(Xo)) (ai (F4 JC (VW.vc (fj (l_ hu (aa 12) (qas (cY ar))) (dU (bJ hu (qas (aC (aa 4) (qas (hJ (qas (aT aO aP (by rfl) M.len ji (aA (aa 12) aM))) (qas af))))) (qas af)))))
   (aw (cm (zX 12 Xx Xy uE uI))))
  (BA [12] (aw (aJ (qau (pX (tE hu (qas (Ju.vp (jB za (hr.mono (by decide)) (by rfl) y9 y_ y' .nil (dts:=[]) (λ_ _=>aB.nil) (ae (aq 3) (ae (aq 12) (ae (aq 5) ar)))))) (qas (br (ae (aq 8) (ae (aq 9) ar))))) (uH (tE hu (qas (aC (aa 7) (qas af))) (aa 8))))))) npf)) ?w4)))) ?w3)) ?w2)))))))) ?w1)))))),λ_=>?main⟩
 case w1=>
  rintro d ρ ⟨ns,rs,a,f',ps,ins,b1,b2,rfl,G,Ad,fin⟩;have W:=G.W;refine⟨rfl,ns,3,rfl,(by show (0:Int)<61;decide),?_⟩;have m0:0<=ns.getD 3 0 % 61:=oK _ (by decide);have m1:ns.getD 3 0 % 61<61:=oJ _ (by decide);generalize ns.getD 3 0 % 61=m' at m0 m1 ⊢;obtain⟨most,rfl⟩:=CB m0;obtain⟨R,hR⟩:=wg W ins most;have t1:=fO W hR;refine⟨Gen.cp rfl,_,aj (j:=0) rfl,_,aj (j:=1) rfl,rfl,rs,ins,most,R,rfl,W,by omega,by omega,hR,?_⟩;refine⟨rfl,R,rfl,t1.en,?_⟩;refine eW (c:=false) rfl ?_;have hp:plainT (.lst [.lst (rs.map aW),.lst (ins.map T.int)])=true:=by have h1:=A2 rs;have h2:bG (ins.map T.int)=true:=c0 (f:=T.int) (λ_=>rfl) ins;simp only[plainT,bG] at h1 ⊢;rw[h1,h2];rfl
  have hd:dep (.lst [.lst (rs.map aW),.lst (ins.map T.int)])<=100:=by have h1:=eI (f:=aW) (n:=2) Hc rs;have h2:=eI (f:=T.int) (n:=0) (λ_=>c3 _) ins;simp only[dep,fS];omega
  refine⟨Gen.cp rfl,hp,hp,hd,?_⟩;refine eW (c:=!eqT (.lst [.lst (rs.map aW),.lst (ins.map T.int)]) (.lst [.lst (rs.map aW),.lst (ins.map T.int)])) (by rw[eB _ hp];rfl) ?_;obtain⟨x,u,e,hx,hc⟩:=we t1.en;obtain⟨Ds,En⟩:=R;have e':En=.tup [.str x,u]:=e;subst e';refine⟨_,aj (j:=0) rfl,_,aj (j:=1) rfl,_,aj (j:=0) rfl,?_⟩;have hle:=t1.le;have last:∀ρ':En,ρ'=[vw (.lst (ns.map .int)),b1,b2,vw (.lst (rs.map aW)),vw (.lst (ins.map .int)),vw (.int (most:Int)),vw (.lst [.lst (rs.map aW),.lst (ins.map T.int)]),vw (cS (Ds,.tup [.str x,u])),vw (.lst Ds),vw (.tup [.str x,u]),none,none,none]->Sw d ρ':=λρ' hρ=>⟨ns,rs,a,f',ps,ins,most,(Ds,.tup [.str x,u]),b1,b2,_,none,hρ,G,Ad,by omega,hR,fin⟩;refine cO (λhxc=>?_) (λhxc=>?_);have lC:=hc.mp hxc;have gq:u=.int 0:=by
   unfold dI at lC;injection lC with lC
   injection lC with _ h2
   injection h2
  have Jq:x="cut":=hxc;subst gq Jq;refine⟨Gen.cp rfl,rfl,rfl,by show dep (.tup [.str _,.int _])<=100;simp[dep,fS],?_⟩;refine eW (c:=!eqT (.tup [.str "cut",.int 0]) (.tup [.str "cut",.int 0])) (by rw[eB _ rfl];rfl) ?_;have hlm:=t1.cu lC;have adn:Ds.length=most:=hlm;refine eW (c:=!decide ((Ds.length:Int)=(most:Int))) (by rw[decide_eq_true (by omega)];rfl) ?_;refine cO (λz=>absurd z (by have:Ds.length<=most:=hle;omega)) (λ_=>last _ rfl);exact cO (λz=>absurd z (by have:Ds.length<=most:=hle;omega)) (λ_=>last _ rfl)
 case w2=>
  rintro d ρ ⟨ns,rs,a,f',ps,ins,most,R,b1,b2,b6,wc,rfl,G,Ad,Sb,hR,fin⟩;have W:=G.W;have t1:=fO W hR;have hle:=t1.le;refine⟨rfl,ns,3,rfl,⟨by decide,by decide⟩,(by show (0:Int)<(R.1.length:Int)+2;omega),Gen.cp rfl,?_⟩;have o0:0<=ns.getD 3 0 / 61 % ((R.1.length:Int)+2):=oK _ (by omega);have o1:ns.getD 3 0 / 61 % ((R.1.length:Int)+2)<(R.1.length:Int)+2:=oJ _ (by omega);generalize ns.getD 3 0 / 61 % ((R.1.length:Int)+2)=o' at o0 o1 ⊢;obtain⟨o,rfl⟩:=CB o0;show oj ([o,0,60].map λi:Nat=>T.int (i:Int)) _ _ _ _;refine qo (λ_ ρ=>∃wc:Option (T×Bool),ρ=[vw (.lst (ns.map .int)),b1,b2,vw (.lst (rs.map aW)),vw (.lst (ins.map .int)),vw (.int (most:Int)),b6,vw (cS R),vw (.lst R.1),vw R.2,wc,none,none]) ⟨_,rfl⟩ ?_ ?_;rintro i o' ρ ho ⟨wc,rfl⟩;have hm:=gH ho;simp only[cT,gb,or_false] at hm;have ho9:o'<=900:=by obtain rfl|rfl|rfl:=hm<;>omega
  refine⟨rfl,rs,ins,o',most,R,rfl,W,by omega,ho9,hR,by omega,?_⟩;exact eW (c:=false) rfl ⟨_,rfl⟩;rintro ρ ⟨wc,rfl⟩;exact⟨ns,rs,a,f',ps,ins,most,R,b1,b2,b6,wc,rfl,G,Ad,Sb,hR,fin⟩
 case w3=>
  rintro d ρ ⟨ns,rs,a,f',ps,ins,most,R,b1,b2,b6,wc,rfl,G,Ad,Sb,hR,fin⟩;have W:=G.W;have t1:=fO W hR;have hn:=W.n;refine⟨rfl,by rw[cV];exact wC (by omega),?_⟩;refine k_ (xs:=rs) (f:=aW) (u:=aW) (p:=MW) (λ_ _ _ _ _=>trivial) (λr hr k s hk=>?_) ?_;obtain⟨l,el⟩:=kc r;rw[el] at hk ⊢;refine⟨_,aj (j:=0) rfl,?_⟩;show if decide (wd r="def")=true then _ else _
  rw[MX];exact hk;refine⟨aW (.df f' ps),aj (j:=0) (by rw[gJ,IZ G.m G.d];rfl),_,aj (j:=2) rfl,?_⟩;refine⟨rfl,?_⟩;show (dP (ins.map T.int)).length<=sizeLine/\cc _ _ _ _ (dP (ins.map T.int)) _;rw[Ey];refine⟨by rw[cV,List.length_zipIdx];exact wC (by omega),?_⟩;refine dZ (f:=λp:Int×Nat=>T.tup [.int (p.2:Int),.int p.1]) (u:=λp:Int×Nat=>T.int (p.1+2 * 10 ^ (30:Int).toNat * ((p.2:Int)-1))) (λp hp k hk=>?_) ?_;have hp2:p.2<ins.length:=by
   obtain⟨j,hj⟩:=M9.mp hp;rw[TY] at hj;cases hi:ins[j]? with
   |none=>rw[hi] at hj;cases hj
   |some i=>rw[hi] at hj;cases hj;have:=(dS.mp hi).1;show 0+j<_;omega
  refine⟨rfl,rfl,⟨by decide,by decide,by decide⟩,.inl ⟨by decide,by decide⟩,.inr ⟨?_,?_⟩,hk⟩;show -(2 ^ 64:Int)<(p.2:Int)-1;omega;show (p.2:Int)-1<(2 ^ 64:Int);omega;have eod:(ins.zipIdx).map (λp:Int×Nat=>T.int (p.1+2 * 10 ^ (30:Int).toNat * ((p.2:Int)-1)))=(jZ ins).map T.int:=by unfold jZ;rw[Bh];rfl
  rw[eod];have TJ:(jZ ins).length=ins.length:=by unfold jZ;rw[cV,List.length_zipIdx]
  have Yu:=MV ins;obtain⟨k4,ek4⟩:∃k4:Nat,(4:Int)-(((jZ ins).map T.int).length:Int)=(k4:Int):=⟨4-ins.length,by rw[cV,TJ];omega⟩;have hk4:k4<=4:=by omega
  obtain⟨R2,hR2⟩:=wg W (jZ ins++List.replicate k4 7) most;have t2:=fO W hR2;have pl:∀{R:Res},(∀t∈R.1,Dg t)->sI R.2->plainT (cS R)=true/\dep (cS R)<=100:=λ{R} h1 h2=>by obtain⟨a,b⟩:=Xg h1;obtain⟨c,d⟩:=IT h2;unfold cS;simp only[plainT,bG,dep,fS] at a b ⊢;rw[a,c];exact⟨rfl,by omega⟩
  have p1:=pl t1.dg t1.en;have p2:=pl t2.dg t2.en;refine⟨Gen.cp rfl,?_⟩;show -(2 ^ 63:Int)<=(4:Int)-(((jZ ins).map T.int).length:Int)/\_;rw[ek4];refine⟨by omega,by omega,by rw[wy];show 1 * k4<=sizeLine;exact wC (by omega),?_⟩;rw[wy];have e7:(List.replicate k4 [T.int 7]).flatten=(List.replicate k4 (7:Int)).map T.int:=Xl k4;have ac6:[T.lst (rs.map aW),.lst ((jZ ins).map T.int++(List.replicate k4 [T.int 7]).flatten),.int (most:Int)]=[.lst (rs.map aW),.lst ((jZ ins++List.replicate k4 7).map T.int),.int (most:Int)]:=by rw[e7,rM]
  refine⟨wC (by show _+((List.replicate k4 [T.int 7]).flatten).length<=1000;rw[e7,cV,cV,TJ,zi];omega),rfl,rs,_,most,R2,ac6,W,by rw[nX,TJ,zi];omega,by omega,hR2,?_⟩;refine⟨p2.1,p1.1,p2.2,?_⟩;have last:Xo d [vw (.lst (ns.map .int)),b1,b2,vw (.lst (rs.map aW)),vw (.lst (ins.map .int)),vw (.int (most:Int)),b6,vw (cS R),vw (.lst R.1),vw R.2,wc,vw (.tup (ps.map T.str)),some (.lst ((jZ ins).map .int),true)]:=⟨ns,rs,a,f',ps,ins,most,R,jZ ins,b1,b2,b6,wc,_,rfl,G,Ad,Sb,hR,⟨TJ,Yu⟩,fin⟩;by_cases Ts:ps.length<=ins.length;have Xq:R2=R:=by
   refine MT hR2 (zc G.m G.d (λj hj=>?_) hR);have hjo:j<(jZ ins).length:=by omega
   have eg:(jZ ins++List.replicate k4 7).getD j 0=(jZ ins).getD j 0:=by rw[List.getD,List.getD,mY hjo]
   rw[eg];exact (Yu j).symm
  subst Xq;exact eW (c:=!eqT (cS R2) (cS R2)) (by rw[eB _ p1.1];rfl) last;refine xa (λ_=>?_) (λ_=>last);have hz:¬ (((ps.map T.str).length:Int)<=(((jZ ins).map T.int).length:Int)):=by rw[cV,cV,TJ];omega
  exact cO (λz=>absurd z hz) (λ_=>last)
 case w4=>
  rintro d ρ ⟨ns,rs,a,f',ps,ins,most,R,od,b1,b2,b6,wc,wG,rfl,G,Ad,Sb,hR,hod,fin⟩;have W:=G.W;have t1:=fO W hR;obtain⟨TJ,Yu⟩:=hod;have pi:∀l:qan,plainT (.lst (l.map T.int))=true/\dep (.lst (l.map T.int))<=100:=λl=>by have h2:=eI (f:=T.int) (n:=0) (λ_=>c3 _) l;simp only[plainT,dep];exact⟨c0 (f:=T.int) (λ_=>rfl) l,by omega⟩
  refine⟨λm ρ=>∃k:Nat,m=k/\k<=od.length/\ρ=[vw (.lst (ns.map .int)),b1,b2,vw (.lst (rs.map aW)),vw (.lst (ins.map .int)),vw (.int (most:Int)),b6,vw (cS R),vw (.lst R.1),vw R.2,wc,wG,some (.lst ((od.take k).map .int),true)]/\∀j,k<=j->ins.getD j 0=0,⟨_,od.length,rfl,c3 _,by rw[List.take_length],λj hj=>by rw[List.getD,Jd (by omega)];rfl⟩,?_⟩;rintro m ρ ⟨k,rfl,hk,rfl,hz⟩;have Tj:(od.take m).length=m:=by rw[Jg];omega
  have exit:Ve [12] (Vb (fX (FQ (f2 (fT (N4 (G6 3 [] (dF (jd 3) (dF (jd 12) (dF (jd 5) oQ))) W4))) (fT (U6 (dF (jd 8) (dF (jd 9) oQ)))) De) (f2 (fT (f2 (xh 7) (fT (fC (.int 0))) U9)) (xh 8) De)))) d [vw (.lst (ns.map .int)),b1,b2,vw (.lst (rs.map aW)),vw (.lst (ins.map .int)),vw (.int (most:Int)),b6,vw (cS R),vw (.lst R.1),vw R.2,wc,wG,some (.lst ((od.take m).map .int),true)]:=by
   have hR3:gd rs (od.take m) most R:=zc G.m G.d (λj hj=>by
    by_cases hjm:j<m;have:(od.take m).getD j 0=od.getD j 0:=by rw[List.getD,List.getD,List.getElem?_take,if_pos hjm]
    rw[this];exact (Yu j).symm;have:(od.take m).getD j 0=0:=by rw[List.getD,Jd (by omega)];rfl
    rw[this,hz j (by omega)]) hR
   have p1:plainT (cS R)=true/\dep (cS R)<=100:=by obtain⟨a,b⟩:=Xg t1.dg;obtain⟨c,d⟩:=IT t1.en;unfold cS;simp only[plainT,bG,dep,fS] at a b ⊢;rw[a,c];exact⟨rfl,by omega⟩
   obtain⟨d1,d2⟩:=Xg t1.dg;refine⟨rfl,rs,od.take m,most,R,rfl,W,by omega,by omega,hR3,Gen.cp rfl,?_⟩;refine⟨p1.1,p1.1,p1.2,?_⟩;show (FQ (λ_ Q=>Q (.vw (.bl (eqT (cS R) (cS R))))) _) _ _;rw[eB _ p1.1];refine⟨_,aj (j:=0) rfl,d1,d1,ly d2 (by decide),?_⟩;show d.rt _ (.vw (.bl (eqT (.lst R.1) (.lst R.1))));rw[eB _ d1];exact fin _
  obtain⟨q1,q2⟩:=pi (od.take m);refine⟨Gen.cp rfl,q1,rfl,q2,?_⟩;cases m with
  |zero=>exact exit
  |succ m=>
   have gK:(!eqT (.lst ((od.take (m+1)).map T.int)) (.lst []))=true:=by
    cases ht:od.take (m+1) with
    |nil=>rw[ht] at Tj;cases Tj
    |cons x l=>rfl
   refine Xm gK ?_;have hmi:m<ins.length:=by omega
   have hat:jc (ins.map T.int) ((((od.take (m+1)).map T.int).length:Int)-1)=some (.int ins[m]):=by rw[cV,Tj,show (((m+1:Nat):Int)-1)=(m:Int) by omega];exact aj (by rw[gJ,kD hmi];rfl)
   refine⟨_,hat,?_⟩;refine cO (λh0=>?_) (λ_=>exit);have ac7:m<od.length:=by omega
   have etk:od.take (m+1)=od.take m++[od[m]]:=by rw[List.take_succ,kD ac7];rfl
   refine⟨rfl,.int od[m],?_,m,by omega,m,rfl,by omega,?_,λj hj=>?_⟩;rw[cV,Tj,gJ,etk];have:(od.take m).length=m:=by rw[Jg];omega
   rw[show m+1-1=m by omega,oI (by omega),this,OJ];rfl;have:(((od.take (m+1)).map T.int)).dropLast=(od.take m).map T.int:=by rw[etk,rM];simp
   show [_,_,_,_,_,_,_,_,_,_,_,_,some (T.lst (((od.take (m+1)).map T.int)).dropLast,true)]=_;rw[this];by_cases ej:j=m;subst ej;rw[List.getD,kD hmi];exact h0;exact hz j (by omega)
 case main=>
  refine⟨rfl,ns,1,rfl,⟨by decide,by decide,by decide⟩,by decide +kernel,?_⟩;generalize hh:ns.getD 1 0 % (10:Int) ^ (9:Int).toNat=h;have h0:0<=h:=by rw[<- hh];exact oK _ (by decide)
  have h1:h<1000000000:=by rw[<- hh];exact oJ _ (by decide)
  clear hh;obtain⟨m0,TH⟩:=CB (oK (h / 648) (show (3:Int)≠0 by decide));have hm0:m0<3:=by have:=oJ (h / 648) (show (0:Int)<3 by decide);omega
  refine⟨rfl,ns,0,rfl,⟨by decide,by decide⟩,by decide,rfl,ns.getD 0 0,3+m0,?_,by omega,λys hN=>?_⟩;rw[TH];push_cast;rfl;clear TH;have Y:dR.Ys ys:=⟨by rw[hN.l];omega,by rw[hN.l];omega,λy hy=>by have:=rE (hN.nm y hy);omega⟩;refine⟨rfl,(ns.drop (min 4 ns.length)).take (min 24 ns.length-min 4 ns.length),ys,h,?_,ly (List.length_take_le' _ _) (by rw[T2];omega),⟨h0,by omega⟩,Y,λn pl rs hn hp1 Wa ic ac8 iH hlen=>?_⟩;rw[Su];rfl;have hl:rs.length<=58:=by have:=ly (List.length_take_le (min 24 ns.length-min 4 ns.length) (ns.drop (min 4 ns.length))) (show _<=20 by omega);omega
  clear hlen;have ac9:∀p∈pl,p.1∈ys/\p.2.length<=2/\p.2.Nodup/\∀x∈p.2,x∈ys:=λp hp=>by obtain⟨a,m,hm,e⟩:=ac8 p hp;refine⟨a,?_,?_,?_⟩;rw[e,Jg];omega;rw[e];exact (List.take_sublist _ _).nodup hN.nd;intro x hx;rw[e] at hx;exact List.mem_of_mem_take hx
  have Dk:k6 (List.replicate n Rw.skip++rs):=Aj _ (Hi hN.nd ic iH);have B:Bl (List.replicate n Rw.skip++rs):=⟨Wy (by rw[fY,zb];exact Q0 iH),by rw[iO,DY];exact Lu iH⟩;have hrw:∀r∈List.replicate n Rw.skip++rs,DT ys r:=λr hr=>by
   rcases cN.mp hr with z|z
   rw[(List.mem_replicate.mp z).2];trivial;exact On.MM ac9 iH r z
  have Ov:(List.replicate n Rw.skip++rs).length<=100:=by simp;omega
  obtain⟨f0,hf0⟩:=IY iH hp1 n;generalize List.replicate n Rw.skip++rs=rs' at Dk B hrw hf0 Ov ⊢;obtain⟨⟨f',ps,hfd⟩,_⟩:=iw hf0;have G:Pg rs' f0 f' ps:=⟨⟨B,λr hr=>Xk hN.nm (hrw r hr),Dk,Ov⟩,hf0,hfd,(hrw _ (gH hfd)).2.1⟩;have fin:∀ρ':En,(λ(_:En) (r:Rt)=>q r) ρ' (.vw (.bl true)):=λ_=>hq;have k0:0<=h / 7 % 4:=oK _ (by decide);have k1:h / 7 % 4<4:=oJ _ (by decide);obtain⟨kk,ekk⟩:=CB k0;rw[ekk] at k1;have hkk:kk<4:=Int.ofNat_lt.mp k1;clear k0 k1;refine⟨rfl,⟨by decide,by decide⟩,(by show (0:Int)<4;decide),?_⟩;rw[ekk];clear h0 h1;refine⟨by omega,by omega,?_⟩;have ada:∀g:Nat->Int,((List.range kk).map g).length<=3:=λg=>by rw[cV,Jf];omega
  have last:∀(g:Nat->Int)(ρ':En),ρ'=[vw (.lst (ns.map .int)),vw (.int h),vw (f_ ys),vw (.lst (rs'.map aW)),vw (.lst (((List.range kk).map g).map .int)),none,none,none,none,none,none,none,none]->Xn {nx:=λ_=>q (.vw .aQ),rt:=λ_ r=>q r} ρ':=λg ρ' hρ=>⟨ns,rs',f0,f',ps,_,_,_,hρ,G,ada g,fin⟩;refine⟨by rw[di,wy];exact wC (by omega),?_⟩;show cc _ _ _ _ (rangeT 0 ((kk:Int)).toNat) _;rw[wy];refine dZ (xs:=List.range kk) (f:=λi:Nat=>T.int (0+(i:Int))) (u:=λi:Nat=>T.int (ns.getD 2 0 / ((i:Int) * (i:Int)+1) % 10 ^ (31:Int).toNat-5)) (λi hi k hk=>?_) ?_;have FH:=Bg.mp hi;rw[S6];refine⟨rfl,ns,2,rfl,.inl ⟨?_,?_⟩,⟨?_,?_⟩,⟨by decide,by decide,by decide⟩,by decide +kernel,hk⟩;show -(2 ^ 64:Int)<(i:Int);omega;show (i:Int)<(2 ^ 64:Int);omega;show 0<(i:Int) * (i:Int)+1;have:=Int.mul_nonneg (Int.natCast_nonneg i) (Int.natCast_nonneg i);omega;show (i:Int) * (i:Int)+1<1073741824;have h3:(i:Int)<=3:=by omega
  have:=Int.mul_le_mul h3 h3 (Int.natCast_nonneg i) (by decide);omega;refine⟨rfl,ns,2,rfl,(by show (0:Int)<3;decide),?_⟩;refine cO (λ_=>?_) (λ_=>last (λi=>ns.getD 2 0 / ((i:Int) * (i:Int)+1) % 10 ^ (31:Int).toNat-5) _ (by rw[Bh];rfl));refine⟨rfl,⟨by decide,by decide⟩,(by show (0:Int)<4;decide),?_⟩;rw[ekk];refine⟨by omega,by omega,?_⟩;refine⟨by rw[di,wy];exact wC (by omega),?_⟩;show cc _ _ _ _ (rangeT 0 ((kk:Int)).toNat) _;rw[wy];refine dZ (xs:=List.range kk) (f:=λi:Nat=>T.int (0+(i:Int))) (u:=λi:Nat=>T.int (ns.getD 2 0 / (3 * (i:Int)+3) % 5-1)) (λi hi k hk=>?_) ?_;have FH:=Bg.mp hi;rw[S6];refine⟨rfl,ns,2,rfl,.inl ⟨by decide,by decide⟩,⟨?_,?_⟩,(by show (0:Int)<5;decide),hk⟩;show 0<3 * (i:Int)+3;omega;show 3 * (i:Int)+3<1073741824;omega;exact last (λi=>ns.getD 2 0 / (3 * (i:Int)+3) % 5-1) _ (by rw[Bh];rfl)
end
end jY
namespace gQ
open PySem L2 VT
theorem Xr(X:K.In h)(G:h.Ns mainGlobals mg){st:Stmt}{oc:Value}{od an:qar}{CZ:Array (Option Value)}{kV doc pm bA ct:Value}(a:PySem.W.nsIn K mainGlobals x=some (some (.ref f)))(l:K.lookup f=some ⟨oc,od,.func (PySem.W.fnOf x x (c6 st) (bK st) (ah st) .none kV doc pm an bA ct),CZ⟩)(c:PySem.W.codeIn K bA x=true)(k:PySem.W.keepIn K (.ref f)=true)(hb:∀(kV doc pm:Value) (an:qar) (bA ct:Value) (us:qag),us.length=ps.length->bindArgs (PySem.W.fnOf x x (c6 st) (bK st) (ah st) .none kV doc pm an bA ct) ⟨us,[]⟩=pure (ps.zip us)) :
  ∃f fd,Df K mg x st ps f fd:=by
 have F:=pL (st:=st) l c k;exact⟨f,_,F,kE X G a,F.binds hb⟩
theorem Sy{C:qag->Prop}(h:C []):∀us:qag,us.length=0->C us
 |[],_=>h
theorem wj{C:qag->Prop}(h:∀a,∀us:qag,us.length=n->C (a::us)):∀us:qag,us.length=n+1->C us
 |a::us,e=>h a us (Nat.succ.inj e)
theorem Xs{C:qag->Prop}(h:∀a,C [a]):∀us:qag,us.length=1->C us:=wj λa=>Sy (h a)
theorem bn1{C:qag->Prop}(h:∀a,C [a]):∀us:qag,us.length=1->C us:=Xs h
theorem bn2{C:qag->Prop}(h:∀a b,C [a,b]):∀us:qag,us.length=2->C us:=wj λa=>bn1 (h a)
theorem bn3{C:qag->Prop}(h:∀a b c,C [a,b,c]):∀us:qag,us.length=3->C us:=wj λa=>bn2 (h a)
theorem bn4{C:qag->Prop}(h:∀a b c d,C [a,b,c,d]):∀us:qag,us.length=4->C us:=wj λa=>bn3 (h a)
abbrev pE:Program:=PySem.Challenge.pw_slicewise_k16_cut_anywhere
noncomputable def qE:Program:=PySem.W.view pE [1,2,3,4,5,6,7,8,9,11,12,13,14,16,17,18,19,21,22,23,24,25,26,27,28,29,30,31,32,34,35,36,37,38,39,40,41,42,43,44,45,46,47,48,49,50,52,54,55,56,57,58,59,60,61,62,63,64]
noncomputable def rF:qai:=["USED_PLACES","RECKONERS","FOLLOWERS","run"]
noncomputable def Ow:qah:=[0,1,2,3,4,5,6,7,8,9,10,11,12,13,14,15,16,17,18,19,20,21,22,23,24,25,26,27,28,29,30,31,32,33,34,35,36,37,38,39,40,41,42,43,44,45,46,47,48,49,50,51,52,53,54,55,56,57,65,66,67,68,69,70,71,72,73,74,75,76,79,80,81,82,83,84,85,86,87,88,89,90,91,92,93,94,95,96,97,98,99,100,101,102,103,104,105,106,107,108,109,110,111,112,113,114,115,116,117,118,119,120,121,122,123,124,125,126,127,128,129,130,131,132,133,134,135,136,137,138,139,140,141,142,143,144,145,146,147,148,149,150,151,152,153,154,155,156,157,158,159,160,161,162,163,164,165,166,167,168,169,170,171,172,173,174,175,176,177,185,186,187,188,189,190,191,192,193,194,195,196,206,207,208,209,210,211,212,213,214,215,216,217,220,221,222,223,224,225,226,227,228,229,230,231,232,233,234,235,236,237,238,239,240,241,242,243,244,245,246,247,248,249,250,251,252,253,254,255,256,257,258,259,260,261,262,263,264,265,266,267,268,269,270,271,272,273,274,275,276,277,278,279,280,281,282,283,284,285,286,287,288,289,290,291,292,293,294,295,296,297,298,299,300,301,302,303,304,305,306,307,308,309,310,311,312,313,314,315,316,317,318,319,320,321,322,323,324,325,326,327,328,329,330,331,332,333,334,335,336,337,338,339,340,341,342,343,344,345,346,347,348,349,350,351,352,353,354,355,356,357,358,359,360,361,362,363,364,365,366,367,368,369,370,371,372,373,374,375,376,377,378,379,380,381,382,383,384,385,386,387,388,389,390,391,392,393,394,395,396,397,398]
abbrev OV:=Option (Option Value)
abbrev OO:=Option Obj
abbrev N(K:qaf)(x:Str):=PySem.W.nsIn K mainGlobals x
noncomputable abbrev Lk(K:qaf)(a:Addr):=List.lookup a K
abbrev R(a:Addr):OV:=some (some (.ref a))
noncomputable abbrev fo(x q:Str)(st:Stmt)(pm:Value)(c:Addr):OO:=some ⟨.type "function",none,.func (PySem.W.fnOf x q (c6 st) (bK st) (ah st) .none .none .none pm none (.ref c) .none),#[]⟩
abbrev cI(K:qaf)(c:Value)(q:Str):=PySem.W.codeIn K c q
abbrev kI(K:qaf)(f:Addr):=PySem.W.keepIn K (.ref f)
abbrev fI(K:qaf)(c:Addr)(x:Str):=PySem.W.findIn K (.ref c) x
abbrev Q4:=OV×OO×Bool×Bool
noncomputable def q4(K:qaf)(x:Str)(f c:Addr):Q4:=(N K x,Lk K f,cI K (.ref c) x,kI K f)
noncomputable def v4(x:Str)(st:Stmt)(f:Addr)(pm:Value)(c:Addr):Q4:=(R f,fo x x st pm c,true,true)
def BN:qai->(qag->Prop)->Prop
 |[],C=>C []
 |_::ps,C=>∀v,BN ps λus=>C (v::us)
theorem bnA:∀{ps:qai}{C:qag->Prop},BN ps C->∀us:qag,us.length=ps.length->C us
 |[],_,h,[],_=>h
 |_::_,_,h,v::us,e=>bnA (h v) us (Nat.succ.inj e)
theorem dM{D:Prop}(X:K.In h)(G:h.Ns mainGlobals mg){st:Stmt}{c:Addr}{pm:Value}(e:q4 K x f c=v4 x st f pm c)(k:∀{f:Addr} {fd:FuncData},Df K mg x st ps f fd->D)(hb:∀(kV doc pm:Value) (an:qar) (bA ct:Value),BN ps λus=>bindArgs (PySem.W.fnOf x x (c6 st) (bK st) (ah st) .none kV doc pm an bA ct) ⟨us,[]⟩=pure (ps.zip us):=by simp only[BN];intros;rfl):D:=by unfold q4 v4 at e;simp only[Prod.mk.injEq] at e;obtain⟨_,_,d⟩:=Xr X G e.1 e.2.1 e.2.2.1 e.2.2.2 λa b c d e f=>bnA (hb a b c d e f);exact k d
abbrev XX:Type:=(((((((OV×OV)×(OV×OV))×((OO×OV)×(OO×(OV×OO))))×(((OV×OO)×(OV×(OO×OO)))×((OO×OO)×(OO×(OO×OO)))))×((((OO×OV)×(OV×(OV×OV)))×((OV×OV)×(OV×(OO×OV))))×(((OV×OV)×(OV×(OV×OV)))×((OV×OV)×(OV×(OV×OO))))))×(((((OV×OV)×(OV×(OV×OV)))×((OV×OV)×(OV×(OV×OV))))×(((OV×OV)×(OV×(OV×Bool)))×((OO×Bool)×(Bool×(Bool×Bool)))))×((((Bool×OV)×(Bool×(Bool×OV)))×((OV×OV)×(OV×(OV×OV))))×(((OV×OV)×(OV×(Bool×OO)))×((Bool×Bool)×(Bool×(Bool×Bool)))))))×((((((OV×Bool)×(Bool×OV))×((OV×OV)×(OV×(Bool×OO))))×(((Bool×Bool)×(Bool×(Bool×Bool)))×((OV×Bool)×(Bool×(OV×OV)))))×((((OV×OV)×(OV×(OV×OV)))×((OV×OV)×(OV×(OO×Bool))))×(((Bool×OO)×(OV×(OO×Bool)))×((Bool×Q4)×(Q4×(Q4×Q4))))))×(((((Q4×Q4)×(Q4×(Q4×Q4)))×((Q4×Q4)×(Q4×(Q4×Q4))))×(((Q4×Q4)×(Q4×(Q4×Q4)))×((Q4×Q4)×(Q4×(Q4×Q4)))))×((((Q4×Q4)×(Q4×(Q4×Q4)))×((Q4×Q4)×(Q4×(Q4×Q4))))×(((Q4×Q4)×(Q4×(Q4×Q4)))×((Q4×Q4)×(Q4×(Q4×Q4))))))))
noncomputable def FF(K:qaf):XX:=(((((((N K "LETTERS",N K "LONGEST_NAME"),(N K "H",N K "DIVISIONS")),((Lk K 15,N K "SILENT"),(Lk K 16,(N K "CLOSERS",Lk K 43)))),(((N K "OPENERS",Lk K 42),(N K "USED_PLACES",(Lk K 29,Lk K 36))),((Lk K 35,Lk K 34),(Lk K 33,(Lk K 32,Lk K 31))))),((((Lk K 30,N K "plus"),(N K "minus",(N K "times",N K "over"))),((N K "rest",N K "less"),(N K "RECKONERS",(Lk K 163,N K "follow_plain")))),(((N K "follow_give",N K "follow_name"),(N K "follow_do",(N K "follow_new",N K "follow_set"))),((N K "follow_call",N K "follow_fail"),(N K "follow_choice",(N K "FOLLOWERS",Lk K 304)))))),(((((N K "isinstance",N K "str"),(N K "int",(N K "bool",N K "len"))),((N K "all",N K "list"),(N K "tuple",(N K "range",N K "enumerate")))),(((N K "zip",N K "min"),(N K "Layout",(fI K 74 "__init__",PySem.W.isFn K (.ref 71)))),((Lk K 71,cI K (.ref 70) "Layout.__init__"),(kI K 71,(PySem.W.plainGet K 74 Str.empty,PySem.W.hasDictIn K 74))))),((((PySem.W.plainOver K 74,fI K 74 "__setattr__"),(PySem.W.makesIn K 74,(kI K 74,fI K 74 "program"))),((fI K 74 "heads",fI K 74 "ends"),(fI K 74 "elses",(fI K 74 "homes",fI K 74 "defs")))),(((fI K 74 "main",N K "Frame"),(fI K 194 "__init__",(PySem.W.isFn K (.ref 191),Lk K 191))),((cI K (.ref 190) "Frame.__init__",kI K 191),(PySem.W.plainGet K 194 Str.empty,(PySem.W.hasDictIn K 194,PySem.W.plainOver K 194))))))),((((((fI K 194 "__setattr__",PySem.W.makesIn K 194),(kI K 194,fI K 194 "call")),((fI K 194 "names",N K "Machine"),(fI K 215 "__init__",(PySem.W.isFn K (.ref 212),Lk K 212)))),(((cI K (.ref 211) "Machine.__init__",kI K 212),(PySem.W.plainGet K 215 Str.empty,(PySem.W.hasDictIn K 215,PySem.W.plainOver K 215))),((fI K 215 "__setattr__",PySem.W.makesIn K 215),(kI K 215,(fI K 215 "layout",fI K 215 "most"))))),((((fI K 215 "poke",fI K 215 "frames"),(fI K 215 "cells",(fI K 215 "counts",fI K 215 "doings"))),((fI K 215 "place",fI K 215 "ended"),(N K "run",(Lk K 324,cI K (.ref 323) "run")))),(((kI K 324,Lk K 317),(N K "law",(Lk K 398,cI K (.ref 397) "law"))),((kI K 398,q4 K "is_name" 21 20),(q4 K "is_field" 28 27,(q4 K "operands" 41 40,q4 K "shape" 57 56)))))),(((((q4 K "first_defs" 50 49,q4 K "row_behind" 99 98),(q4 K "yes_row" 85 84,(q4 K "no_row" 92 91,q4 K "fit" 106 105))),((q4 K "is_record" 113 112,q4 K "number_of" 120 119),(q4 K "plus" 127 126,(q4 K "minus" 134 133,q4 K "times" 141 140)))),(((q4 K "over" 148 147,q4 K "rest" 155 154),(q4 K "less" 162 161,(q4 K "reckoned" 170 169,q4 K "value_of" 233 232))),((q4 K "cell_of" 177 176,q4 K "made_by" 240 239),(q4 K "follow_plain" 247 246,(q4 K "follow_name" 254 253,q4 K "follow_do" 261 260))))),((((q4 K "follow_give" 289 288,q4 K "enter" 226 225),(q4 K "follow_new" 268 267,(q4 K "follow_fail" 296 295,q4 K "follow_choice" 303 302))),((q4 K "follow_set" 275 274,q4 K "follow_call" 282 281),(q4 K "done_row" 309 308,(q4 K "step" 316 315,q4 K "run_poked" 329 328)))),(((q4 K "_law_cell_at" 336 335,q4 K "_law_names" 341 340),(q4 K "_law_number" 348 347,(q4 K "_law_operand" 355 354,q4 K "_law_key" 362 361))),((q4 K "_law_simple" 367 366,q4 K "_law_put" 374 373),(q4 K "_law_program" 379 378,(q4 K "_law_ends" 386 385,q4 K "_law_cut" 393 392))))))))
noncomputable def VV(w:World):XX:=(((((((some (some (.str og.bQ 191)),some (some (.int 8 193))),(some (some (.int 1000000000000000000000000000000 189)),R 15)),((some ⟨.type "tuple",none,.seq #[.str "over" 195,.str "rest" 196] 0,#[]⟩,R 16),(some ⟨.type "tuple",none,.seq #[.str "else" 198,.str "end" 199,.str "skip" 200] 0,#[]⟩,(R 43,some ⟨.type "tuple",none,.seq #[.str "give" 253,.str "end" 254] 0,#[]⟩)))),(((R 42,some ⟨.type "tuple",none,.seq #[.str "def" 249,.str "if" 250,.str "while" 251] 0,#[]⟩),(R 29,(some ⟨.type "dict",none,.dict #[⟨PyData.keyHash w.params "give",.str "give" 215,.ref 30⟩,⟨PyData.keyHash w.params "put",.str "put" 217,.ref 31⟩,⟨PyData.keyHash w.params "do",.str "do" 219,.ref 32⟩,⟨PyData.keyHash w.params "get",.str "get" 222,.ref 33⟩,⟨PyData.keyHash w.params "set",.str "set" 225,.ref 34⟩,⟨PyData.keyHash w.params "if",.str "if" 229,.ref 35⟩,⟨PyData.keyHash w.params "while",.str "while" 231,.ref 36⟩] 7,#[]⟩,some ⟨.type "tuple",none,.seq #[.int (1) 232] 0,#[]⟩))),((some ⟨.type "tuple",none,.seq #[.int (1) 230] 0,#[]⟩,some ⟨.type "tuple",none,.seq #[.int (1) 226,.int (2) 227,.int (3) 228] 0,#[]⟩),(some ⟨.type "tuple",none,.seq #[.int (2) 223,.int (3) 224] 0,#[]⟩,(some ⟨.type "tuple",none,.seq #[.int (2) 220,.int (4) 221] 0,#[]⟩,some ⟨.type "tuple",none,.seq #[.int (2) 218] 0,#[]⟩))))),((((some ⟨.type "tuple",none,.seq #[.int (1) 216] 0,#[]⟩,R 127),(R 134,(R 141,R 148))),((R 155,R 162),(R 163,(some ⟨.type "dict",none,.dict #[⟨PyData.keyHash w.params "plus",.str "plus" 414,.ref 127⟩,⟨PyData.keyHash w.params "minus",.str "minus" 415,.ref 134⟩,⟨PyData.keyHash w.params "times",.str "times" 416,.ref 141⟩,⟨PyData.keyHash w.params "over",.str "over" 417,.ref 148⟩,⟨PyData.keyHash w.params "rest",.str "rest" 418,.ref 155⟩,⟨PyData.keyHash w.params "less",.str "less" 419,.ref 162⟩] 6,#[]⟩,R 247)))),(((R 289,R 254),(R 261,(R 268,R 275))),((R 282,R 296),(R 303,(R 304,some ⟨.type "dict",none,.dict #[⟨PyData.keyHash w.params "def",.str "def" 641,.ref 247⟩,⟨PyData.keyHash w.params "give",.str "give" 642,.ref 289⟩,⟨PyData.keyHash w.params "put",.str "put" 643,.ref 254⟩,⟨PyData.keyHash w.params "do",.str "do" 644,.ref 261⟩,⟨PyData.keyHash w.params "new",.str "new" 645,.ref 268⟩,⟨PyData.keyHash w.params "get",.str "get" 646,.ref 254⟩,⟨PyData.keyHash w.params "set",.str "set" 647,.ref 275⟩,⟨PyData.keyHash w.params "call",.str "call" 648,.ref 282⟩,⟨PyData.keyHash w.params "fail",.str "fail" 649,.ref 296⟩,⟨PyData.keyHash w.params "if",.str "if" 650,.ref 303⟩,⟨PyData.keyHash w.params "while",.str "while" 651,.ref 303⟩] 11,#[]⟩)))))),(((((some none,some none),(some none,(some none,some none))),((some none,some none),(some none,(some none,some none)))),(((some none,some none),(R 74,(some (some (.ref 71)),true))),((fo "__init__" "Layout.__init__" Lay.jK (.str "slicewise.layouts" 280) 70,true),(true,(true,true))))),((((true,some (some (.builtin "object.__setattr__"))),(true,(true,some none))),((some none,some none),(some none,(some none,some none)))),(((some none,R 194),(some (some (.ref 191)),(true,fo "__init__" "Frame.__init__" Rg.mK (.str "slicewise.runs" 446) 190))),((true,true),(true,(true,true))))))),((((((some (some (.builtin "object.__setattr__")),true),(true,some none)),((some none,R 215),(some (some (.ref 212)),(true,fo "__init__" "Machine.__init__" Rg.iy (.str "slicewise.runs" 446) 211)))),(((true,true),(true,(true,true))),((some (some (.builtin "object.__setattr__")),true),(true,(some none,some none))))),((((some none,some none),(some none,(some none,some none))),((some none,some none),(R 324,(some ⟨.type "function",none,.func (PySem.W.fnOf "run" "run" (c6 Rg.gC) (bK Rg.gC) (ah Rg.gC) (.ref 317) (.none) (.none) (.str "slicewise.runs" 446) none (.ref 323) (.none)),#[]⟩,true)))),(((true,some ⟨.type "tuple",none,.seq #[.int (200) 678] 0,#[]⟩),(R 398,(fo "law" "law" jY.mR (.str "law_slicewise_k16_cut_anywhere" 694) 397,true))),((true,v4 "is_name" Nm.kh 21 (.str "slicewise.rows" 187) 20),(v4 "is_field" Nm.lg 28 (.str "slicewise.rows" 187) 27,(v4 "operands" Tr.lj 41 (.str "slicewise.rows" 187) 40,v4 "shape" WL.mE 57 (.str "slicewise.programs" 247) 56)))))),(((((v4 "first_defs" Lay.iP 50 (.str "slicewise.programs" 247) 49,v4 "row_behind" Nx.iQ 99 (.str "slicewise.layouts" 280) 98),(v4 "yes_row" Nx.nM 85 (.str "slicewise.layouts" 280) 84,(v4 "no_row" Nx.qO 92 (.str "slicewise.layouts" 280) 91,v4 "fit" jC.Ci 106 (.str "slicewise.values" 343) 105))),((v4 "is_record" jC.jL 113 (.str "slicewise.values" 343) 112,v4 "number_of" jC.jM 120 (.str "slicewise.values" 343) 119),(v4 "plus" jC.Av 127 (.str "slicewise.values" 343) 126,(v4 "minus" jC.vF 134 (.str "slicewise.values" 343) 133,v4 "times" jC.vG 141 (.str "slicewise.values" 343) 140)))),(((v4 "over" jC.Aw 148 (.str "slicewise.values" 343) 147,v4 "rest" jC.Ax 155 (.str "slicewise.values" 343) 154),(v4 "less" jC.Ay 162 (.str "slicewise.values" 343) 161,(v4 "reckoned" jC.iR 170 (.str "slicewise.values" 343) 169,v4 "value_of" Rg.lq 233 (.str "slicewise.runs" 446) 232))),((v4 "cell_of" Rg.nP 177 (.str "slicewise.values" 343) 176,v4 "made_by" Rg.nN 240 (.str "slicewise.runs" 446) 239),(v4 "follow_plain" Rg.gB 247 (.str "slicewise.runs" 446) 246,(v4 "follow_name" Rg.hX 254 (.str "slicewise.runs" 446) 253,v4 "follow_do" Rg.jO 261 (.str "slicewise.runs" 446) 260))))),((((v4 "follow_give" Rg.hY 289 (.str "slicewise.runs" 446) 288,v4 "enter" Rg.vK 226 (.str "slicewise.runs" 446) 225),(v4 "follow_new" Rg.iS 268 (.str "slicewise.runs" 446) 267,(v4 "follow_fail" Rg.h_ 296 (.str "slicewise.runs" 446) 295,v4 "follow_choice" Rg.fZ 303 (.str "slicewise.runs" 446) 302))),((v4 "follow_set" Rg.iT 275 (.str "slicewise.runs" 446) 274,v4 "follow_call" Rg.h7 282 (.str "slicewise.runs" 446) 281),(v4 "done_row" Rg.lr 309 (.str "slicewise.runs" 446) 308,(v4 "step" Rg.vL 316 (.str "slicewise.runs" 446) 315,v4 "run_poked" Rg.gY 329 (.str "slicewise.runs" 446) 328)))),(((v4 "_law_cell_at" dR.nT 336 (.str "law_slicewise_k16_cut_anywhere" 694) 335,v4 "_law_names" dR.wa 341 (.str "law_slicewise_k16_cut_anywhere" 694) 340),(v4 "_law_number" dR.rn 348 (.str "law_slicewise_k16_cut_anywhere" 694) 347,(v4 "_law_operand" dR.nU 355 (.str "law_slicewise_k16_cut_anywhere" 694) 354,v4 "_law_key" dR.IA 362 (.str "law_slicewise_k16_cut_anywhere" 694) 361))),((v4 "_law_simple" dR.rp 367 (.str "law_slicewise_k16_cut_anywhere" 694) 366,v4 "_law_put" dR.IG 374 (.str "law_slicewise_k16_cut_anywhere" 694) 373),(v4 "_law_program" dR.nV 379 (.str "law_slicewise_k16_cut_anywhere" 694) 378,(v4 "_law_ends" jY.A0 386 (.str "law_slicewise_k16_cut_anywhere" 694) 385,v4 "_law_cut" jY.IS 393 (.str "law_slicewise_k16_cut_anywhere" 694) 392))))))))
theorem A3(w:World)(os:OsState):HE.lookA pE qE rF [] [] (HE.eZ (w.withFollow "special-get-raises" false).params) (PySem.W.boot_heap (w.withFollow "special-get-raises" false).params) (w.withFollow "special-get-raises" false) 2658 os=some (true,(PySem.W.openGood qE rF).1,(PySem.W.openGood qE rF).2.1):=by
 rw[PySem.W.Fast.te2848547177322276819]
 kernel_rfl
theorem ED(w:World)(os:OsState):HE.lookA pE qE rF [] [] (HE.eZ (w.withFollow "special-get-raises" true).params) (PySem.W.boot_heap (w.withFollow "special-get-raises" true).params) (w.withFollow "special-get-raises" true) 2658 os=some (true,(PySem.W.openGood qE rF).1,(PySem.W.openGood qE rF).2.1):=by
 rw[PySem.W.Fast.te2848547177322276819]
 kernel_rfl
theorem adb(w:World)(os:OsState):HE.lookA pE qE rF [] [] (HE.eZ (w).params) (PySem.W.boot_heap (w).params) (w) 2658 os=some (true,(PySem.W.openGood qE rF).1,(PySem.W.openGood qE rF).2.1) :=
 PySem.W.byRow2 "special-get-raises" (P:=λw=>∀os,HE.lookA pE qE rF [] [] (HE.eZ (w).params) (PySem.W.boot_heap (w).params) (w) 2658 os=some (true,(PySem.W.openGood qE rF).1,(PySem.W.openGood qE rF).2.1)) A3 ED w os
theorem A4(w:World)(os:OsState):HE.lookB pE qE rF [] [] (HE.eZ (w.withFollow "special-get-raises" false).params) (w.withFollow "special-get-raises" false) 2658 os=some (PySem.W.openGood qE rF).2.2:=by
 rw[PySem.W.Fast.te312265020846911052]
 kernel_rfl
theorem EE(w:World)(os:OsState):HE.lookB pE qE rF [] [] (HE.eZ (w.withFollow "special-get-raises" true).params) (w.withFollow "special-get-raises" true) 2658 os=some (PySem.W.openGood qE rF).2.2:=by
 rw[PySem.W.Fast.te312265020846911052]
 kernel_rfl
theorem ade(w:World)(os:OsState):HE.lookB pE qE rF [] [] (HE.eZ (w).params) (w) 2658 os=some (PySem.W.openGood qE rF).2.2 :=
 PySem.W.byRow2 "special-get-raises" (P:=λw=>∀os,HE.lookB pE qE rF [] [] (HE.eZ (w).params) (w) 2658 os=some (PySem.W.openGood qE rF).2.2) A4 EE w os
theorem A5(w:World)(os:OsState):HE.lookC pE Ow FF (HE.eZ (w.withFollow "special-get-raises" false).params) (w.withFollow "special-get-raises" false) 2658 os=some (VV (w.withFollow "special-get-raises" false)):=by
 rw[PySem.W.Fast.te3135357915001837337]
 kernel_rfl
theorem EF(w:World)(os:OsState):HE.lookC pE Ow FF (HE.eZ (w.withFollow "special-get-raises" true).params) (w.withFollow "special-get-raises" true) 2658 os=some (VV (w.withFollow "special-get-raises" true)):=by
 rw[PySem.W.Fast.te3135357915001837337]
 kernel_rfl
theorem runC(w:World)(os:OsState):HE.lookC pE Ow FF (HE.eZ (w).params) (w) 2658 os=some (VV (w)) :=
 PySem.W.byRow2 "special-get-raises" (P:=λw=>∀os,HE.lookC pE Ow FF (HE.eZ (w).params) (w) 2658 os=some (VV (w))) A5 EF w os
theorem Sz:PySem.Challenge.rw_slicewise_k16_cut_anywhere.wellSaid=true:=by kernel_rfl
noncomputable abbrev KE(w:World):qaf:=HE.Kf Ow (HE.uT pE 5996 w)
noncomputable abbrev dE:DefRec:=HE.Vu jY.mR
theorem hd:PySem.W.LeftO pE qE rF (HE.KS qE [] []) (λs=>Ow.map s.heap.get?) (λw=>Ow.map (HE.uT pE 5996 w)) 5996/\∀w,FF (KE w)=VV w:=HE.head (p:=pE) (q:=qE) (loose:=rF) (lv:=[]) (R:=[]) (as:=Ow) (N:=5996) (M:=2658) (F:=FF) (v:=VV) (by kernel_rfl) rfl (λs=>by kernel_rfl) rfl adb ade runC
theorem SA{l:PySem.W.OpenLaw}{fa:Addr}(X:K.In h)(G:h.Ns mainGlobals mg)(hfa:mg "law"=some (.ref fa))(hF:FF K=VV w) :
  ∃fd:FuncData,(∀(s:Shared)(v:Value),BindsTo s fd ⟨[v],[]⟩ [("_law_script",v)])/\∀base:Heap,K.In base->base.Ns mainGlobals mg->cA l.prog w K mg base eV 10 fa fd qaX (cW K 1 jY.MP):=by
 have Q {β:Type} (f:XX->β):=congrArg f hF;have fG:=EL X G (Q (·.1.2.1.1.1.1.1) :);have SD:=EL X G (Q (·.1.2.1.1.1.1.2) :);have I_:=EL X G (Q (·.1.2.1.1.1.2.1) :);have Cy:=EL X G (Q (·.1.2.1.1.1.2.2.1) :);have j1:=EL X G (Q (·.1.2.1.1.1.2.2.2) :);have SE:=EL X G (Q (·.1.2.1.1.2.1.1) :);have wm:=EL X G (Q (·.1.2.1.1.2.1.2) :);have iC:=EL X G (Q (·.1.2.1.1.2.2.1) :);have mT:=EL X G (Q (·.1.2.1.1.2.2.2.1) :);have gj:=EL X G (Q (·.1.2.1.1.2.2.2.2) :);have SF:=EL X G (Q (·.1.2.1.2.1.1.1) :);have SG:=EL X G (Q (·.1.2.1.2.1.1.2) :);have e:=hfa.symm.trans (kE X G (Q (·.2.1.2.2.1.2.1) :));cases e;have ax:Lay.LN K 74:=⟨⟨(Q (·.1.2.1.2.2.2.2.1) :),(Q (·.1.2.1.2.2.2.2.2) :),(Q (·.1.2.2.1.1.1.1) :),(Q (·.1.2.2.1.1.1.2) :)⟩,(Q (·.1.2.2.1.1.2.2.2) :),(Q (·.1.2.2.1.2.1.1) :),(Q (·.1.2.2.1.2.1.2) :),(Q (·.1.2.2.1.2.2.1) :),(Q (·.1.2.2.1.2.2.2.1) :),(Q (·.1.2.2.1.2.2.2.2) :),(Q (·.1.2.2.2.1.1.1) :)⟩;have uf:=pL (st:=Lay.jK) (Q (·.1.2.1.2.2.1.1) :) (Q (·.1.2.1.2.2.1.2) :) (Q (·.1.2.1.2.2.2.1) :);have EG:Dc K mg "Layout" "Layout.__init__" Lay.jK qaz 74 71 _:=⟨uf,kE X G (Q (·.1.2.1.2.1.2.1) :),uf.binds (λ_ _ _ _ _ _=>(gQ.bn2 λ_ _=>rfl)),⟨(Q (·.1.2.2.1.1.2.1) :),(Q (·.1.2.1.2.1.2.2.1) :),(Q (·.1.2.1.2.1.2.2.2) :),(Q (·.1.2.2.1.1.2.2.1) :)⟩⟩;have bT:Rg.Tu K 194:=⟨⟨(Q (·.1.2.2.2.2.2.1) :),(Q (·.1.2.2.2.2.2.2.1) :),(Q (·.1.2.2.2.2.2.2.2) :),(Q (·.2.1.1.1.1.1.1) :)⟩,(Q (·.2.1.1.1.1.2.2) :),(Q (·.2.1.1.1.2.1.1) :)⟩;have ze:=pL (st:=Rg.mK) (Q (·.1.2.2.2.1.2.2.2) :) (Q (·.1.2.2.2.2.1.1) :) (Q (·.1.2.2.2.2.1.2) :);have Ja:Dc K mg "Frame" "Frame.__init__" Rg.mK qaF 194 191 _:=⟨ze,kE X G (Q (·.1.2.2.2.1.1.2) :),ze.binds (λ_ _ _ _ _ _=>(gQ.bn3 λ_ _ _=>rfl)),⟨(Q (·.2.1.1.1.1.1.2) :),(Q (·.1.2.2.2.1.2.1) :),(Q (·.1.2.2.2.1.2.2.1) :),(Q (·.2.1.1.1.1.2.1) :)⟩⟩;have ag:Rg.yE K 215:=⟨⟨(Q (·.2.1.1.2.1.2.1) :),(Q (·.2.1.1.2.1.2.2.1) :),(Q (·.2.1.1.2.1.2.2.2) :),(Q (·.2.1.1.2.2.1.1) :)⟩,(Q (·.2.1.1.2.2.2.2.1) :),(Q (·.2.1.1.2.2.2.2.2) :),(Q (·.2.1.2.1.1.1.1) :),(Q (·.2.1.2.1.1.1.2) :),(Q (·.2.1.2.1.1.2.1) :),(Q (·.2.1.2.1.1.2.2.1) :),(Q (·.2.1.2.1.1.2.2.2) :),(Q (·.2.1.2.1.2.1.1) :),(Q (·.2.1.2.1.2.1.2) :)⟩;have rG:=pL (st:=Rg.iy) (Q (·.2.1.1.1.2.2.2.2) :) (Q (·.2.1.1.2.1.1.1) :) (Q (·.2.1.1.2.1.1.2) :);have A6:Dc K mg "Machine" "Machine.__init__" Rg.iy qav 215 212 _:=⟨rG,kE X G (Q (·.2.1.1.1.2.1.2) :),rG.binds (λ_ _ _ _ _ _=>(gQ.bn4 λ_ _ _ _=>rfl)),⟨(Q (·.2.1.1.2.2.1.2) :),(Q (·.2.1.1.1.2.2.1) :),(Q (·.2.1.1.1.2.2.2.1) :),(Q (·.2.1.1.2.2.2.1) :)⟩⟩;have M2:Nm.Mg2 mg:=⟨⟨_,kE X G (Q (·.1.1.1.1.1.1.1) :)⟩,⟨_,kE X G (Q (·.1.1.1.1.1.1.2) :)⟩,fG,SD,j1,SE⟩;have MU:Tr.MgU w K mg:=⟨wm,⟨29,kE X G (Q (·.1.1.1.2.1.2.1) :),⟨_,_,(Q (·.1.1.1.2.1.2.2.1) :),(by first|rfl|decide),.cons ⟨rfl,⟨_,rfl⟩,.ref 30,rfl,λ_ _=>cv (vs:=[V.int 1]) (.inr ⟨_,_,_,(Q (·.1.1.2.1.1.1.1) :),rfl,rfl,Gen.cp rfl,.cons ⟨_,rfl⟩ (.nil)⟩) (aB.cons bC (aB.nil))⟩ (.cons ⟨rfl,⟨_,rfl⟩,.ref 31,rfl,λ_ _=>cv (vs:=[V.int 2]) (.inr ⟨_,_,_,(Q (·.1.1.1.2.2.2.2.2) :),rfl,rfl,Gen.cp rfl,.cons ⟨_,rfl⟩ (.nil)⟩) (aB.cons bC (aB.nil))⟩ (.cons ⟨rfl,⟨_,rfl⟩,.ref 32,rfl,λ_ _=>cv (vs:=[V.int 2,V.int 4]) (.inr ⟨_,_,_,(Q (·.1.1.1.2.2.2.2.1) :),rfl,rfl,Gen.cp rfl,.cons ⟨_,rfl⟩ (.cons ⟨_,rfl⟩ (.nil))⟩) (aB.cons bC (aB.cons bC (aB.nil)))⟩ (.cons ⟨rfl,⟨_,rfl⟩,.ref 33,rfl,λ_ _=>cv (vs:=[V.int 2,V.int 3]) (.inr ⟨_,_,_,(Q (·.1.1.1.2.2.2.1) :),rfl,rfl,Gen.cp rfl,.cons ⟨_,rfl⟩ (.cons ⟨_,rfl⟩ (.nil))⟩) (aB.cons bC (aB.cons bC (aB.nil)))⟩ (.cons ⟨rfl,⟨_,rfl⟩,.ref 34,rfl,λ_ _=>cv (vs:=[V.int 1,V.int 2,V.int 3]) (.inr ⟨_,_,_,(Q (·.1.1.1.2.2.1.2) :),rfl,rfl,Gen.cp rfl,.cons ⟨_,rfl⟩ (.cons ⟨_,rfl⟩ (.cons ⟨_,rfl⟩ (.nil)))⟩) (aB.cons bC (aB.cons bC (aB.cons bC (aB.nil))))⟩ (.cons ⟨rfl,⟨_,rfl⟩,.ref 35,rfl,λ_ _=>cv (vs:=[V.int 1]) (.inr ⟨_,_,_,(Q (·.1.1.1.2.2.1.1) :),rfl,rfl,Gen.cp rfl,.cons ⟨_,rfl⟩ (.nil)⟩) (aB.cons bC (aB.nil))⟩ (.cons ⟨rfl,⟨_,rfl⟩,.ref 36,rfl,λ_ _=>cv (vs:=[V.int 1]) (.inr ⟨_,_,_,(Q (·.1.1.1.2.1.2.2.2) :),rfl,rfl,Gen.cp rfl,.cons ⟨_,rfl⟩ (.nil)⟩) (aB.cons bC (aB.nil))⟩ (.nil))))))),by show ([("give":Str),("put":Str),("do":Str),("get":Str),("set":Str),("if":Str),("while":Str)]).Nodup;decide +kernel⟩⟩⟩;have MR:jC.Mg w K mg:=⟨⟨_,kE X G (Q (·.1.1.1.1.1.2.1) :)⟩,⟨15,kE X G (Q (·.1.1.1.1.1.2.2) :),λH=>.inr ⟨_,_,_,(Q (·.1.1.1.1.2.1.1) :),rfl,rfl,Gen.cp rfl,.cons ⟨_,rfl⟩ (.cons ⟨_,rfl⟩ (.nil))⟩⟩,fG,I_,Cy,iC,j1,mT,⟨163,(λo=>match o with | .plus=>127 | .minus=>134 | .times=>141 | .over=>148 | .rest=>155 | .less=>162),(kE X G (Q (·.1.1.2.1.2.2.1) :)),(λo=>match o with | .plus=>(kE X G (Q (·.1.1.2.1.1.1.2) :)) | .minus=>(kE X G (Q (·.1.1.2.1.1.2.1) :)) | .times=>(kE X G (Q (·.1.1.2.1.1.2.2.1) :)) | .over=>(kE X G (Q (·.1.1.2.1.1.2.2.2) :)) | .rest=>(kE X G (Q (·.1.1.2.1.2.1.1) :)) | .less=>(kE X G (Q (·.1.1.2.1.2.1.2) :))),⟨_,_,(Q (·.1.1.2.1.2.2.2.1) :),(by first|rfl|decide),.cons ⟨rfl,⟨_,rfl⟩,.ref 127,rfl,λ_ _=>by simp only[At]⟩ (.cons ⟨rfl,⟨_,rfl⟩,.ref 134,rfl,λ_ _=>by simp only[At]⟩ (.cons ⟨rfl,⟨_,rfl⟩,.ref 141,rfl,λ_ _=>by simp only[At]⟩ (.cons ⟨rfl,⟨_,rfl⟩,.ref 148,rfl,λ_ _=>by simp only[At]⟩ (.cons ⟨rfl,⟨_,rfl⟩,.ref 155,rfl,λ_ _=>by simp only[At]⟩ (.cons ⟨rfl,⟨_,rfl⟩,.ref 162,rfl,λ_ _=>by simp only[At]⟩ (.nil)))))),by show ([("plus":Str),("minus":Str),("times":Str),("over":Str),("rest":Str),("less":Str)]).Nodup;decide +kernel⟩⟩⟩;have M5:WL.Mg5 K mg:=⟨j1,mT,gj,fG,I_,Cy,iC,wm,SF,⟨43,kE X G (Q (·.1.1.1.1.2.2.2.1) :),λH=>.inr ⟨_,_,_,(Q (·.1.1.1.1.2.2.2.2) :),rfl,rfl,Gen.cp rfl,.cons ⟨_,rfl⟩ (.cons ⟨_,rfl⟩ (.nil))⟩⟩,⟨42,kE X G (Q (·.1.1.1.2.1.1.1) :),λH=>.inr ⟨_,_,_,(Q (·.1.1.1.2.1.1.2) :),rfl,rfl,Gen.cp rfl,.cons ⟨_,rfl⟩ (.cons ⟨_,rfl⟩ (.cons ⟨_,rfl⟩ (.nil)))⟩⟩⟩;have MF:Lay.MgF mg:=⟨gj⟩;have MLy:Lay.WN mg:=⟨j1,SG⟩;have MRu:Rg.MgR mg:=⟨j1,gj,iC⟩;have mj:Rg.MgS K mg:=⟨j1,iC,⟨16,kE X G (Q (·.1.1.1.1.2.1.2) :),λH=>.inr ⟨_,_,_,(Q (·.1.1.1.1.2.2.1) :),rfl,rfl,Gen.cp rfl,.cons ⟨_,rfl⟩ (.cons ⟨_,rfl⟩ (.cons ⟨_,rfl⟩ (.nil)))⟩⟩⟩;have FO:Rg.Fos w K mg:=⟨⟨304,247,289,254,261,268,275,282,296,303,(kE X G (Q (·.1.1.2.2.2.2.2.1) :)),(kE X G (Q (·.1.1.2.1.2.2.2.2) :)),(kE X G (Q (·.1.1.2.2.1.1.1) :)),(kE X G (Q (·.1.1.2.2.1.1.2) :)),(kE X G (Q (·.1.1.2.2.1.2.1) :)),(kE X G (Q (·.1.1.2.2.1.2.2.1) :)),(kE X G (Q (·.1.1.2.2.1.2.2.2) :)),(kE X G (Q (·.1.1.2.2.2.1.1) :)),(kE X G (Q (·.1.1.2.2.2.1.2) :)),(kE X G (Q (·.1.1.2.2.2.2.1) :)),⟨_,_,(Q (·.1.1.2.2.2.2.2.2) :),(by first|rfl|decide),.cons ⟨rfl,⟨_,rfl⟩,.ref 247,rfl,λ_ _=>by simp only[At]⟩ (.cons ⟨rfl,⟨_,rfl⟩,.ref 289,rfl,λ_ _=>by simp only[At]⟩ (.cons ⟨rfl,⟨_,rfl⟩,.ref 254,rfl,λ_ _=>by simp only[At]⟩ (.cons ⟨rfl,⟨_,rfl⟩,.ref 261,rfl,λ_ _=>by simp only[At]⟩ (.cons ⟨rfl,⟨_,rfl⟩,.ref 268,rfl,λ_ _=>by simp only[At]⟩ (.cons ⟨rfl,⟨_,rfl⟩,.ref 254,rfl,λ_ _=>by simp only[At]⟩ (.cons ⟨rfl,⟨_,rfl⟩,.ref 275,rfl,λ_ _=>by simp only[At]⟩ (.cons ⟨rfl,⟨_,rfl⟩,.ref 282,rfl,λ_ _=>by simp only[At]⟩ (.cons ⟨rfl,⟨_,rfl⟩,.ref 296,rfl,λ_ _=>by simp only[At]⟩ (.cons ⟨rfl,⟨_,rfl⟩,.ref 303,rfl,λ_ _=>by simp only[At]⟩ (.cons ⟨rfl,⟨_,rfl⟩,.ref 303,rfl,λ_ _=>by simp only[At]⟩ (.nil))))))))))),by show ([("def":Str),("give":Str),("put":Str),("do":Str),("new":Str),("get":Str),("set":Str),("call":Str),("fail":Str),("if":Str),("while":Str)]).Nodup;decide +kernel⟩⟩⟩;have MG:dR.Mg mg:=⟨j1,mT,iC⟩;have ML:jY.Yr mg:=⟨fG,iC,wm,j1,mT,gj⟩;have F:=pL (st:=jY.mR) (Q (·.2.1.2.2.1.2.2.1) :) (Q (·.2.1.2.2.1.2.2.2) :) (Q (·.2.1.2.2.2.1.1) :);have DL:Df K mg "law" jY.mR qaX 398 _:=⟨F,hfa,F.binds (λ_ _ _ _ _ _=>Xs λ_=>rfl)⟩;refine⟨PySem.W.fnOf "law" "law" (c6 jY.mR) (bK jY.mR) (ah jY.mR) .none (.none) (.none) (.str "law_slicewise_k16_cut_anywhere" 694) none (.ref 397) (.none),λs v=>.of_eq rfl,λbase _ _=>?_⟩;have ug:=dM X G (Q (·.2.1.2.2.2.1.2) :) λD=>Nm.LK (P:=l.prog) (w:=w) (base:=base) D M2;have rH:=dM X G (Q (·.2.1.2.2.2.2.1) :) λD=>Nm.yr D M2 ug;have A7:=dM X G (Q (·.2.1.2.2.2.2.2.1) :) λD=>Tr.yt D MU rH;have MZ:=dM X G (Q (·.2.1.2.2.2.2.2.2) :) λD=>WL.HI (P:=l.prog) (w:=w) (base:=base) D M5;have wo:=dM X G (Q (·.2.2.1.1.1.1.1) :) λD=>Lay.so (P:=l.prog) (w:=w) (base:=base) D MF;have Jb:=Lay.D_ EG MLy ax MZ wo;have mU:=dM X G (Q (·.2.2.1.1.1.1.2) :) λD=>Nx.sr (P:=l.prog) (w:=w) (base:=base) D ax;have EH:=dM X G (Q (·.2.2.1.1.1.2.1) :) λD=>Nx.Au (P:=l.prog) (w:=w) (base:=base) D;have Jc:=dM X G (Q (·.2.2.1.1.1.2.2.1) :) λD=>Nx.Eb (P:=l.prog) (w:=w) (base:=base) D ax;have Oy:=dM X G (Q (·.2.2.1.1.1.2.2.2) :) λD=>jC.Rv (P:=l.prog) (w:=w) (base:=base) D MR;have oF:=dM X G (Q (·.2.2.1.1.2.1.1) :) λD=>jC.vH (P:=l.prog) (w:=w) (base:=base) D MR;have oG:=dM X G (Q (·.2.2.1.1.2.1.2) :) λD=>jC.vI D MR oF;have SH:=dM X G (Q (·.2.2.1.1.2.2.1) :) λD=>jC.LY (P:=l.prog) (w:=w) (base:=base) D MR;have M6:=dM X G (Q (·.2.2.1.1.2.2.2.1) :) λD=>jC.HW (P:=l.prog) (w:=w) (base:=base) D MR;have M7:=dM X G (Q (·.2.2.1.1.2.2.2.2) :) λD=>jC.HX (P:=l.prog) (w:=w) (base:=base) D MR;have SI:=dM X G (Q (·.2.2.1.2.1.1.1) :) λD=>jC.L4 (P:=l.prog) (w:=w) (base:=base) D MR;have SJ:=dM X G (Q (·.2.2.1.2.1.1.2) :) λD=>jC.L5 (P:=l.prog) (w:=w) (base:=base) D MR;have SK:=dM X G (Q (·.2.2.1.2.1.2.1) :) λD=>jC.L6 (P:=l.prog) (w:=w) (base:=base) D MR;have A8:=dM X G (Q (·.2.2.1.2.1.2.2.1) :) λD=>jC.yA D MR Oy oG SH M6 M7 SI SJ SK;have M8:=Rg.Ib (P:=l.prog) (w:=w) (base:=base) Ja bT;have A9:=dM X G (Q (·.2.2.1.2.1.2.2.2) :) λD=>Rg.yG D ag bT ug;have uh:=dM X G (Q (·.2.2.1.2.2.1.1) :) λD=>Rg.AA D MRu oF rH oG;have EI:=dM X G (Q (·.2.2.1.2.2.1.2) :) λD=>Rg.AB D (cFrame:=194) ag A8 uh;have gF:=dM X G (Q (·.2.2.1.2.2.2.1) :) λD=>Rg.oX D (cFrame:=194) ag mU;have fH:=dM X G (Q (·.2.2.1.2.2.2.2.1) :) λD=>Rg.qW D ag bT gF;have zg:=dM X G (Q (·.2.2.1.2.2.2.2.2) :) λD=>Rg.vR D ag fH;have sM:=dM X G (Q (·.2.2.2.1.1.1.1) :) λD=>Rg.qZ D ag bT ax fH;have Cz:=dM X G (Q (·.2.2.2.1.1.1.2) :) λD=>Rg.Ii D MRu ag bT ax M8;have wq:=dM X G (Q (·.2.2.2.1.1.2.1) :) λD=>Rg.sy D ag fH;have sN:=dM X G (Q (·.2.2.2.1.1.2.2.1) :) λD=>Rg.qX (P:=l.prog) (w:=w) (base:=base) D (cFrame:=194) (cLayout:=74) ag;have o6:=dM X G (Q (·.2.2.2.1.1.2.2.2) :) λD=>Rg.nS D (cFrame:=194) ag EH Jc;have wt:=dM X G (Q (·.2.2.2.1.2.1.1) :) λD=>Rg.sC D ag uh gF;have sO:=dM X G (Q (·.2.2.2.1.2.1.2) :) λD=>Rg.qY D ag ax Cz;have A_:=dM X G (Q (·.2.2.2.1.2.2.1) :) λD=>Rg.yM D mj ag FO A7 A9 EI gF fH zg sM wq wt sO sN o6;have SM:=dM X G (Q (·.2.2.2.1.2.2.2.1) :) λD=>Rg.MC D mj ag ax mU A_;have EJ:=Rg.AU A6 ag Jb;have zh:=dM X G (Q (·.2.2.2.1.2.2.2.2) :) λD=>Rg.v8 D ag ax EJ Cz Oy SM;have SN:G5 K "run" "run" Rg.gC 324 (PySem.W.fnOf "run" "run" (c6 Rg.gC) (bK Rg.gC) (ah Rg.gC) (.ref 317) (.none) (.none) (.str "slicewise.runs" 446) none (.ref 323) (.none)):=⟨⟨_,_,_,_,_,_,_,_,_,_,rfl,(Q (·.2.1.2.1.2.2.2.1) :),(Q (·.2.1.2.1.2.2.2.2) :)⟩,(Q (·.2.1.2.2.1.1.1) :)⟩;have SO:Binds K (PySem.W.fnOf "run" "run" (c6 Rg.gC) (bK Rg.gC) (ah Rg.gC) (.ref 317) (.none) (.none) (.str "slicewise.runs" 446) none (.ref 323) (.none)) qaN []:=B5 (m:=3) rfl (Q (·.2.1.2.2.1.1.2) :) rfl rfl (gQ.wj λ_=>(gQ.wj λ_=>(gQ.wj λ_=>(gQ.Sy ⟨_,rfl,rfl⟩))));have SQ:Binds K (PySem.W.fnOf "run" "run" (c6 Rg.gC) (bK Rg.gC) (ah Rg.gC) (.ref 317) (.none) (.none) (.str "slicewise.runs" 446) none (.ref 323) (.none)) qaN [.int (200) 678]:=B5 (m:=2) rfl (Q (·.2.1.2.2.1.1.2) :) rfl rfl (gQ.wj λ_=>(gQ.wj λ_=>(gQ.Sy ⟨_,rfl,rfl⟩)));have Oz:=Rg.Sf (P:=l.prog) (w:=w) (base:=base) SN (kE X G (Q (·.2.1.2.1.2.2.1) :)) SO SQ zh;have rJ:=dM X G (Q (·.2.2.2.2.1.1.1) :) λD=>dR.AX (P:=l.prog) (w:=w) (base:=base) D MG;have wu:=dM X G (Q (·.2.2.2.2.1.1.2) :) λD=>dR.IF (P:=l.prog) (w:=w) (base:=base) D MG;have sP:=dM X G (Q (·.2.2.2.2.1.2.1) :) λD=>dR.Er (P:=l.prog) (w:=w) (base:=base) D MG;have eU:=dM X G (Q (·.2.2.2.2.1.2.2.1) :) λD=>dR.AY D MG sP;have Ba:=dM X G (Q (·.2.2.2.2.1.2.2.2) :) λD=>dR.Sl D MG eU;have sQ:=dM X G (Q (·.2.2.2.2.2.1.1) :) λD=>dR.Eu D MG eU Ba;have Bb:=dM X G (Q (·.2.2.2.2.2.1.2) :) λD=>dR.Sn D MG eU sQ;have rK:=dM X G (Q (·.2.2.2.2.2.2.1) :) λD=>dR.AZ D MG Bb eU;have oH:=dM X G (Q (·.2.2.2.2.2.2.2.1) :) λD=>jY.MO (P:=l.prog) (w:=w) (base:=base) D ML;have Bc:=dM X G (Q (·.2.2.2.2.2.2.2.2) :) λD=>jY.Sq D ML Oz oH;exact jY.Sx DL ML rJ wu rK Oz oH Bc
theorem walk{l:PySem.W.OpenLaw}{q:Program}{loose:qai}{XP:(qae)->Heap->Prop}{d:DefRec}{K:World->qaf}(hn:l.most=some 63)(Pw:d.params.defaults=[])(F:∀(w:World) (mg:qae) (fa:Addr) (h:Heap),(K w).In h->h.Ns mainGlobals mg->mg d.name=some (.ref fa) ->
    ∃fd:FuncData,(∀(s:Shared) (u:Value),BindsTo s fd ⟨[u],[]⟩ [("_law_script",u)])/\∀base:Heap,(K w).In base->base.Ns mainGlobals mg->cA l.prog w (K w) mg base eV 10 fa fd qaX (cW (K w) 1 jY.MP)) :
  PySem.W.WalkO q loose XP (λw h=>(K w).In h) l.row.toRowW d [] (λf vs=>PySem.call f vs):=by
 refine XQ.w_ hn Pw λw s₀ s₁ mg mb fa o pm cd doc a vs ns G Y ho hd gn UR Px hints hlen hg=>?_;obtain⟨fd,hb,hF⟩:=F w mg fa _ Y G.T.g UR;exact Fu (CX:=eV) (sp:=cW (K w) 1 jY.MP) (k:=10) Y G.T.g G.T.b G.T.builtins G.T.nolimit hg Px hints (ly hlen (by decide)) ⟨rfl,by decide,by decide⟩ hF hb (λH _ hS=>
  ⟨[.lst (ns.map .int)],[],[],λ_ r=>r=.vw (.bl true),JD,λ_ z=>(nomatch z),λ_ z=>(nomatch z),iM rfl (aB.cons (by
     simp only[At];refine⟨a,ns.map V.int,rfl,hS.imp (λz=>⟨z,λm=>nomatch m⟩) id,?_⟩;clear hS;clear hints hlen;induction ns with
     |nil=>exact aB.nil
     |cons n ns ih=>exact aB.cons bC ih) aB.nil),⟨ns,rfl,hlen,rfl⟩,λus r hr v H' _ z=>by
     subst hr;have:=z.1;simpa only[At] using this⟩) λ_ _ _ z=>z
end gQ
open PySem PySem.W PyProof.Rows
set_option maxRecDepth 100000 in
set_option maxHeartbeats 0 in
theorem PySem.Challenge.cw_slicewise_k16_cut_anywhere_holds : PySem.Challenge.rw_slicewise_k16_cut_anywhere.Holds := by
 w_on
 refine PySem.W.holds_law gQ.Sz λSz=>?_;refine PySem.W.holds_openX (q:=gQ.qE) (loose:=gQ.rF) (Xt:=HE.KS gQ.qE [] []) (XP:=PySem.W.XL gQ.qE []) (d:=gQ.dE) (kwd:=[]) (N:=5996) gQ.hd.1 (λs e=>PySem.W.xl_of s (Bool.and_eq_true_iff.mp e).1) PySem.W.XL.keeps (by kernel_rfl) (by kernel_rfl) (by kernel_rfl) (λs e=>PySem.W.recFacts_of (Bool.and_eq_true_iff.mp e).2) (by kernel_rfl) Sz (by kernel_rfl) ⟨rfl,rfl,rfl,rfl,rfl,by decide +kernel⟩ ?hw ?hc
 (case hw=>w_witness2)
 exact HE.Gu (gQ.walk (l:=PySem.Challenge.rw_slicewise_k16_cut_anywhere) (K:=gQ.KE) rfl rfl (λw mg fa h KX G UR=>gQ.SA KX G UR (gQ.hd.2 w)))
