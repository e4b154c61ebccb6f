import PyProof.Rows.All
import Wide.All
import OpenK.AllK
import Wide.FinOn
import Lean
import PyProof.EqAt
import PyProof.EqKinds
import PyProof.TupleCall
import PyProof.NeKinds
import PyProof.Rows.SumAny
import PyProof.StrBlockL
import PyProof.StrBlockI
import PyProof.FitsReplace
import PyProof.Rows.SeqMore
import PyProof.Rows.TupAdd
import PyProof.Draws
import PyProof.ZipIter
import OpenK.ZGo
import PyProof.ListNew
import PyProof.Rows.SortStr
import PyProof.Rows.SortWalk
import PyProof.IsRules
import KE.KDictLaws
import PyProof.DictWalks
import PyProof.WalkInts
import PyProof.Rows.SetFrom
import PyProof.SetRoads
import PyProof.DictItems
import PyProof.Rows.DictItemsRows
import KE.KPairComp
import PyProof.Rows.SortShellK
import PyProof.Rows.SortKeyStr
import PyProof.Rows.BitMore
import PyProof.Rows.SortRuns
import PyProof.Rows.SortPure
import PySem.Challenge.RW_slicewise_k22_cells_of_records
set_option Elab.async false
set_option linter.all false
set_option genSizeOf false
set_option genSizeOfSpec false
set_option bootstrap.genMatcherCode false
set_option maxRecDepth 100000
set_option maxHeartbeats 8000000
variable{w:PySem.World}{s s':PySem.Shared}{pos p apos bf pos' du p2 tp:PySem.Pos}{x qual y:PySem.Str}{n i k j m lo t':Nat}{A:PySem.Around}{e c iter l:PySem.Expr}{f C dx it:PySem.Addr}{P prog:PySem.Program}{fd:PySem.FuncData}{h base h':PySem.Heap}{α β:Type}{u:PySem.Value}{O:HD}{o:PySem.Obj}{B:Prop}{sc:PySem.Scope}
abbrev HD:=List (Option PySem.Addr)
abbrev qaa:=List (PySem.Addr×PySem.Obj)
abbrev qad:=PySem.Value->PySem.Shared->Prop
abbrev qae:=PySem.Str->Option PySem.Value
abbrev qaf:=PySem.W.Frag
abbrev qag:=List PySem.Value
abbrev qah:=List PySem.Addr
abbrev qai:=List PySem.Str
abbrev qan:=List Int
abbrev qao:=List Nat
abbrev qap:=List PySem.Expr
abbrev qaq:=List PySem.Stmt
abbrev qar:=Option PySem.Addr
abbrev qav:List PySem.Str:=["program"]
abbrev qaw:List PySem.Str:=["self","program"]
abbrev qax:List PySem.Str:=["thing"]
abbrev qay:List PySem.Str:=["rows","row"]
abbrev qaz:List PySem.Str:=["self","names","cells"]
abbrev qaA:List PySem.Str:=["sets","rows","kind"]
abbrev qaB:List PySem.Str:=["layout","sets","place"]
abbrev qaC:List PySem.Str:=["_law_script","_law_k"]
abbrev qaD:List PySem.Str:=["_law_cell","_law_many"]
abbrev qaE:List PySem.Str:=["_law_key_here"]
abbrev qaF:List PySem.Str:=["_law_cell","_law_words_here"]
abbrev qaG:List PySem.Str:=["_law_script","_law_words_here"]
abbrev qaH:List PySem.Str:=["_law_program_here"]
abbrev qaI:List PySem.Str:=["_law_names","_law_cells","_law_origin"]
abbrev qaJ:List PySem.Str:=["_law_names","_law_goal"]
abbrev qaK:List PySem.Str:=["_law_names","_law_cells","_law_move"]
abbrev qaL:List PySem.Str:=["_law_names","_law_cells"]
abbrev qaM:List PySem.Str:=["_law_names","_law_cells","_law_moves_here"]
abbrev qaN:List PySem.Str:=["_law_found","_law_due"]
abbrev qaO:List PySem.Str:=["_law_script"]
abbrev eG(x:PySem.Str):Prop:=(x==("__debug__":PySem.Str))=false
abbrev nJ(x:PySem.Str):Prop:=(x==("__classdict__":PySem.Str))=false
abbrev dJ:=@List.getElem?_eq_some_iff
abbrev dg:=@PySem.Heap.get?_push_of_some
abbrev cn:=@List.length_map
abbrev cT:=@List.mem_singleton
abbrev dq:=@List.mem_cons_self
abbrev bG:=@Nat.le_refl
abbrev d3:=@List.mem_cons_of_mem
abbrev dO:=@Bool.false_ne_true
abbrev fY:=@List.mem_of_getElem?
abbrev g6:=@List.mem_append_right
abbrev dh:=@List.mem_cons
abbrev fj:=@List.getElem?_map
abbrev gN:=@PySem.Heap.get?_push_size
abbrev hU:=@List.mem_append_left
abbrev fm:=@List.not_mem_nil
abbrev kj:=@List.getElem?_eq_getElem
abbrev gh:=@List.size_toArray
abbrev k7:=@List.getElem?_append_left
abbrev dG:=@PySem.Heap.lt_size
abbrev gi:=@Bool.and_eq_true
abbrev pP:=@List.getElem?_append_right
abbrev g7:=@List.mem_append
abbrev iL:=@Int.toNat_natCast
abbrev gj:=@List.map_cons
abbrev oF:=@Int.eq_ofNat_of_zero_le
abbrev k8:=@List.filterMap_cons
abbrev nK:=@Nat.lt_of_lt_of_le
abbrev iG:=@Nat.ne_of_lt
abbrev r6:=@List.getElem?_set_ne
abbrev lC:=@List.nodup_cons
abbrev wY:=@List.getElem?_replicate
abbrev km:=@Nat.le_trans
abbrev kN:=@List.mem_map
abbrev AB:=@List.getElem?_set_self
abbrev sf:=@List.mem_filter
abbrev uW:=@List.length_range
abbrev wZ:=@PySem.W.mg_none_of
abbrev uP:=@PySem.PassesOwn.never
abbrev yH:=@List.length_append
abbrev nL:=@Nat.zero_le
abbrev AD:=@List.replicate_succ
abbrev w5:=@List.length_cons
abbrev ET:=@PySem.F.slot_list_append
abbrev EU:=@PySem.F.type_list_append
abbrev EV:=@Option.map_eq_some_iff
abbrev w6:=@List.mem_range
abbrev uX:=@Bool.true_and
abbrev Et:=@List.map_congr_left
abbrev Eu:=@Array.toList_append
abbrev EW:=@Array.getElem?_toList
abbrev AE:=@List.map_append
abbrev uY:=@List.map_map
abbrev AV:=@Nat.lt_succ_self
abbrev yI:=@List.any_cons
abbrev Ic:=@List.mem_iff_getElem?
abbrev NG:=@PySem.F.slot_dict_keyiterator_next
abbrev EX:=@Int.emod_lt_of_pos
abbrev AF:=@Nat.lt_irrefl
abbrev AW:=@PySem.Heap.size_push
abbrev Ie:=@PySem.mem_of_lookup
abbrev Ew:=@List.append_nil
abbrev Ex:=@Int.emod_nonneg
abbrev NH:=@Classical.byContradiction
abbrev JF:=@List.length_replicate
abbrev Og:=@PySem.F.slot_dict_itemiterator_next
abbrev EY:=@List.lookup_cons
abbrev EZ:=@List.all_eq_true
abbrev Ey:=@Bool.false_and
abbrev Ez:=@PySem.boot_len
abbrev JG:=@Array.length_toList
abbrev Oh:=@Array.perm_iff_toList_perm
abbrev Ig:=@List.any_eq_true
abbrev E1:=@List.nodup_nil
abbrev JI:=@List.zip_cons_cons
abbrev Oi:=@List.mem_or_eq_of_mem_set
abbrev Oj:=@List.drop_eq_getElem_cons
abbrev EA:=@Nat.ne_of_gt
abbrev NI:=@List.length_dropLast
abbrev JJ:=@List.flatten_cons
abbrev E2:=@Bool.false_or
abbrev JK:=@List.length_take
abbrev JM:=@List.take_length
abbrev Sk:=@PyProof.Rows.callWith_type1
abbrev NJ:=@List.set_cons_succ
abbrev JN:=@List.forIn_cons
abbrev JO:=@PySem.W.kia_one
abbrev JP:=@List.length_zip
abbrev Ih:=@PySem.Paired.length
abbrev Sl:=@PySem.F.slot_tuple_iterator_next
abbrev Ik:=@PySem.W.mg_of
abbrev NK:=@List.append_assoc
abbrev NL:=@Nat.lt_succ_of_lt
abbrev NM:=@List.take_add_one
abbrev NN:=@List.foldl_append
abbrev Ol:=@List.mem_iff_getElem
abbrev Om:=@List.pairwise_append
abbrev Sn:=@List.getLast?_eq_getElem?
abbrev AG:=@Prod.ext
abbrev NO:=@List.getElem_mem
abbrev Il:=@Nat.min_self
abbrev Im:=@Int.zero_add
abbrev Oo:=@PySem.Heap.SameBut.update
abbrev So:=@List.getElem?_range
abbrev T7:=@PyProof.Rows.slot_tuple_getitem
abbrev Sq:=@List.length_eq_zero_iff
abbrev Sr:=@PySem.F.plainAttrs_dict
abbrev NP:=@List.find?_cons
abbrev Oq:=@Bool.false_eq_true
abbrev Io:=@Nat.le_succ
abbrev Ss:=@PySem.Calls.callWith_builtin
abbrev Su:=@List.take_of_length_le
abbrev Sv:=@Bool.beq_eq_decide_eq
abbrev Sw:=@List.getElem?_eq_none
abbrev Sx:=@List.take_append_drop
abbrev Sy:=@List.length_filter_le
abbrev Sz:=@List.getElem?_mapIdx
abbrev SA:=@Array.toList_extract
abbrev Ot:=@List.mem_flatMap
abbrev T8:=@List.getD_eq_getElem?_getD
abbrev Ou:=@List.range_succ
abbrev T9:=@List.getElem?_zip_eq_some
abbrev SE:=@List.mem_filterMap
abbrev SF:=@Int.natCast_nonneg
abbrev T_:=@PySem.F.args_tuple_add_2
abbrev SH:=@List.filterMap_map
abbrev NQ:=@List.map_nil
abbrev SI:=@List.set_cons_zero
abbrev SJ:=@PySem.Obj.data_mapFields
abbrev Ov:=@Bool.and_false
abbrev T':=@PySem.F.entry_tuple_add
abbrev Ua:=@List.getElem?_cons_zero
abbrev Ub:=@List.getElem?_cons_succ
abbrev SK:=@List.pairwise_map
abbrev Uc:=@PySem.F.slot_tuple_add
abbrev Ud:=@List.zipWith_cons_cons
abbrev SM:=@Option.bind_some
abbrev SN:=@List.filter_cons
namespace L2
open PySem PySem.Spec PyProof.Rows
abbrev Key:=Sum Int Str
noncomputable def oG:Key->Value->Bool
 |.inl k,v=>Value.isInt k v
 |.inr x,v=>Value.isStrOf x v
noncomputable def Ue(w:World):Key->Int
 |.inl k=>hashInt k
 |.inr x=>hashStr w x
theorem bA:∀{k:Key}{v:Value},oG k v=true->(∃i t,k=Sum.inl i/\v=Value.int i t)\/(∃x t,k=Sum.inr x/\v=Value.str x t)
 |.inl i,v,h=>by obtain⟨t,e⟩:=Value.isInt_shape (k:=i) (v:=v) h;exact .inl ⟨i,t,rfl,e⟩
 |.inr x,v,h=>by obtain⟨t,e⟩:=Value.isStrOf_shape (x:=x) (v:=v) h;exact .inr ⟨x,t,rfl,e⟩
theorem yJ(i:Int)(t:Tok):oG (.inl i) (.int i t)=true:=by simp[oG,Value.isInt]
theorem yK(x:Str)(t:Tok):oG (.inr x) (.str x t)=true:=by simp[oG,Value.isStrOf]
theorem JQ(a b:Int):decide ((Sum.inl a:Key)=Sum.inl b)=(a==b):=by by_cases e:a=b;subst e;simp;have h:¬ (Sum.inl a:Key)=Sum.inl b:=λq=>e (Sum.inl.inj q);rw[decide_eq_false h];exact (beq_eq_false_iff_ne.mpr e).symm
theorem JR(a b:Str):decide ((Sum.inr a:Key)=Sum.inr b)=decide (a=b):=by by_cases e:a=b;subst e;simp;have h:¬ (Sum.inr a:Key)=Sum.inr b:=λq=>e (Sum.inr.inj q);rw[decide_eq_false h,decide_eq_false e]
theorem JS(a:Int)(b:Str):decide ((Sum.inl a:Key)=Sum.inr b)=false:=decide_eq_false (λq=>nomatch q)
theorem JT(a:Str)(b:Int):decide ((Sum.inr a:Key)=Sum.inl b)=false:=decide_eq_false (λq=>nomatch q)
noncomputable def bq(prog:Program)(w:World):PySem.KeyKind prog w Key where
 is:=oG
 hash:=Ue w
 inj:=λv a b ha hb=>by
  rcases bA ha with⟨i,t,rfl,rfl⟩|⟨x,t,rfl,rfl⟩
  rcases bA hb with⟨j,u,rfl,e⟩|⟨y,u,rfl,e⟩
  injection e with e1 _;rw[e1]
  exact nomatch e;rcases bA hb with⟨j,u,rfl,e⟩|⟨y,u,rfl,e⟩
  exact nomatch e;injection e with e1 _;rw[e1]
 byValue:=λk v h=>by rcases bA h with⟨i,t,rfl,rfl⟩|⟨x,t,rfl,rfl⟩<;>rfl
 pyHash:=λhv h=>by
  rcases bA hv with⟨i,t,rfl,rfl⟩|⟨x,t,rfl,rfl⟩
  exact wpAny_pyHash_int h;exact wpAny_pyHash_str h
 eqBool:=λhu hv h=>by
  rcases bA hu with⟨i,t,rfl,rfl⟩|⟨x,t,rfl,rfl⟩
  rcases bA hv with⟨j,u,rfl,rfl⟩|⟨y,u,rfl,rfl⟩
  rw[JQ] at h;exact wpAny_eqBool_int h;rw[JS] at h;exact SeqAt.EqAt.int_str i t y u _ _ _ _ h;rcases bA hv with⟨j,u,rfl,rfl⟩|⟨y,u,rfl,rfl⟩
  rw[JT] at h;exact SeqAt.EqAt.str_int x t j u _ _ _ _ h;rw[JR] at h;exact wpAny_eqBool_str h
 «strs»:=λk x t v h=>by
  rcases bA h with⟨i,u,rfl,e⟩|⟨y,u,rfl,e⟩
  exact nomatch e;injection e with e1 _
  subst e1;cases v<;>rfl
theorem sg(prog:Program)(w:World)(i:Int)(t:Tok):(bq prog w).is (.inl i) (.int i t)=true:=yJ i t
theorem sk(prog:Program)(w:World)(x:Str)(t:Tok):(bq prog w).is (.inr x) (.str x t)=true:=yK x t
inductive V where
 |a9|bl (b:Bool)|int (i:Int)|str (x:Str)|Ug (b:Array UInt8)|Uh (b:UInt64)|ref (a:Addr)|ty (n:String)
 deriving DecidableEq
def RelV:V->Value->Prop
 |.a9,u=>u=Value.none
 |.bl b,u=>u=Value.bool b
 |.int i,u=>∃t,u=Value.int i t
 |.str x,u=>∃t,u=Value.str x t
 |.Ug b,u=>∃t,u=Value.bytes b t
 |.Uh b,u=>∃t,u=Value.float b t
 |.ref a,u=>u=Value.ref a
 |.ty n,u=>u=Value.type n
abbrev Vals:List V->qag->Prop:=Paired RelV
theorem Vals.length{xs:List V}{us:qag}(r:Vals xs us):xs.length=us.length:=Ih r
theorem Vals.get:∀{xs:List V}{us:qag}{i:Nat}{x:V},Vals xs us->xs[i]?=some x->∃u,us[i]?=some u/\RelV x u
 |_,_,_,_,.nil,e=>by simp at e
 |_,_,0,_,.cons r _,e=>by simp at e;subst e;exact⟨_,rfl,r⟩
 |_,_,i+1,x,.cons _ t,e=>by obtain⟨u,h1,h2⟩:=Vals.get (i:=i) (x:=x) t (by simpa using e);exact⟨u,by simpa using h1,h2⟩
theorem Vals.set{x:V}{u:Value}(r:RelV x u):∀{xs:List V}{us:qag}(i:Nat),Vals xs us->Vals (xs.set i x) (us.set i u)
 |_,_,_,.nil=>.nil
 |_,_,0,.cons _ t=>.cons r t
 |_,_,i+1,.cons q t=>.cons q (Vals.set r i t)
theorem Vals.append:∀{xs ys:List V}{us ws:qag},Vals xs us->Vals ys ws->Vals (xs++ys) (us++ws)
 |_,_,_,_,.nil,s=>s
 |_,_,_,_,.cons r t,s=>.cons r (Vals.append t s)
theorem Vals.take:∀{xs:List V}{us:qag}(n:Nat),Vals xs us->Vals (xs.take n) (us.take n)
 |_,_,0,_=>.nil
 |_,_,_+1,.nil=>.nil
 |_,_,n+1,.cons r t=>.cons r (Vals.take n t)
theorem Vals.drop:∀{xs:List V}{us:qag}(n:Nat),Vals xs us->Vals (xs.drop n) (us.drop n)
 |_,_,0,r=>r
 |_,_,_+1,.nil=>.nil
 |_,_,n+1,.cons _ t=>Vals.drop n t
def ij:Option V->Option Value->Prop
 |some v,some u=>RelV v u
 |none,none=>True
 |_,_=>False
def KV{κ:Type}:List (κ×V)->List (κ×Value)->Prop:=Paired λ(p:κ×V) (q:κ×Value)=>p.1=q.1/\RelV p.2 q.2
noncomputable def kV:Key->V
 |.inl i=>.int i
 |.inr x=>.str x
inductive HO where
 |lst (xs:List V)
 |tup (xs:List V)
 |dK (kvs:List (Key×V))|dT (kvs:List (List Key×V))
 |set (S:Int->Bool) (n:Nat)
 |ins (C dx:Addr) (fs:List (Str×V))
 |own (x:Addr)
 |xd (fs:List (Str×V))
 |met (f x:Addr)
 |Ui (lo hi:Int)
 |dH (o:Obj) (u:HO)
 |JU (ps:Array Value)
 |ext (φ:Heap->Prop)
abbrev Hp:=Addr->Option HO
noncomputable def upd(H:Hp)(a:Addr)(o:HO):Hp:=λb=>if b=a then some o else H b
theorem ay{H:Hp}{a:Addr}{o:HO}:upd H a o a=some o:=by unfold upd;rw[if_pos rfl]
theorem ar{H:Hp}{a b:Addr}{o:HO}(h:b≠a):upd H a o b=H b:=by unfold upd;rw[if_neg h]
theorem AX{H:Hp}{a b:Addr}{o u:HO}(h:H a=some o)(h':H b=some u)(d:o≠u):a≠b:=by intro e;subst e;rw[h] at h';exact d (Option.some.inj h')
theorem aS{H:Hp}{a b:Addr}{o:HO}(h:H a=some o)(h':H b=none):a≠b:=by intro e;subst e;rw[h] at h';cases h'
section
variable(P:Program)(w:World)
def bh(H:Hp)(h:Heap)(a:Addr):HO->Prop
 |.lst xs=>xs.length<=sizeLine/\∃(aH:qag)(n:Nat),Vals xs aH/\h.get? a=some {cls:=.type "list",data:=.seq aH.toArray n}
 |.tup xs=>xs.length<=sizeLine/\∃aH:qag,Vals xs aH/\IsTup h a aH.toArray
 |.dK kvs=>kvs.length<=sizeLine/\(a==sysModules)=false/\∃vs,KV kvs vs/\h.DictOf (bq P w) a vs
 |.dT kvs=>kvs.length<=sizeLine/\(a==sysModules)=false/\∃xs:List (List Key×Addr×Value),
  Paired (λ(p:List Key×V) (q:List Key×Addr×Value)=>p.1=q.1/\H q.2.1=some (.tup (p.1.map kV))/\RelV p.2 q.2.2) kvs xs /\
  ∃o es ep,h.get? a=some o/\o.ExactDict/\o.data=.dict es ep/\es.toList=xs.map (entryOfKey (tupleKind (bq P w)))/\(xs.map (·.1)).Nodup
 |.set S n=>h.SetOf (intKind P w) a S n
 |.ins C dx fs=>H dx=some (.own a)/\fs.length<=1000/\dx≠a/\h.get? a=some (PySem.W.instObj C dx) /\
  ∃mA,h.Ns1 dx mA/\(∀f,ij (fs.lookup f) (mA f))/\PySem.Within mA (fs.map (·.1))
 |.own _=>∃o,h.get? a=some o
 |.xd fs=>∃mA,h.Ns1 a mA/\∀f,ij (fs.lookup f) (mA f)
 |.Ui lo hi=>∃t u v,h.get? a=some {cls:=.type "range",data:=.fields #[.int lo t,.int hi u,.int 1 v]}
 |.dH o u=>h.get? a=some o/\bh H h a u
 |.JU ps=>h.get? a=some {cls:=.none,data:=.fields ps}
 |.met f x=>h.get? a=some (PySem.W.methodObj (.ref f) (.ref x))
 |.ext φ=>φ h/\(∃o,h.get? a=some o)/\∀h1 h2:Heap,φ h1->(∀o,h1.get? a=some o->h2.get? a=some o)->φ h2
def g8(H:Hp)(h:Heap):Prop:=∀a o,H a=some o->bh P w H h a o
end
section
variable{H H':Hp}{a:Addr}{o:HO}
theorem bh.lt(x:bh P w H h a o):a<h.objs.size:=by
 cases o with
 |lst xs=>obtain⟨_,_,_,_,e⟩:=x;exact dG e
 |tup xs=>obtain⟨_,_,_,p⟩:=x;exact p.lt
 |dK kvs=>obtain⟨_,_,_,_,o,_,_,e,_⟩:=x;exact dG e
 |dT kvs=>obtain⟨_,_,_,_,o,_,_,e,_⟩:=x;exact dG e
 |set S n=>obtain⟨o,_,_,_,e,_⟩:=x;exact dG e
 |ins C dx fs=>obtain⟨_,_,_,e,_⟩:=x;exact dG e
 |own y=>obtain⟨_,e⟩:=x;exact dG e
 |xd fs=>obtain⟨_,⟨_,_,_,e,_⟩,_⟩:=x;exact dG e
 |Ui lo hi=>obtain⟨_,_,_,e⟩:=x;exact dG e
 |dH ob u=>obtain⟨e,_⟩:=x;exact dG e
 |JU ps=>exact dG (show h.get? a=some _ from x)
 |met f y=>exact dG (show h.get? a=some _ from x)
 |ext φ=>obtain⟨_,⟨_,e⟩,_⟩:=x;exact dG e
theorem Paired.iM{α β:Type}{F G:α->β->Prop}:∀{l₁:List α}{l₂:List β},Paired F l₁ l₂->(∀a b,F a b->G a b)->Paired G l₁ l₂
 |_,_,.nil,_=>.nil
 |_,_,.cons r t,f=>.cons (f _ _ r) (Paired.iM t f)
theorem bh.sr(x:bh P w H h a o)(k:∀b u,(b=a\/H b=some (.own a))->h.get? b=some u->h'.get? b=some u)(ho:∀b,H b=some (.own a)->H' b=some (.own a))(ht:∀b xs,H b=some (.tup xs)->H' b=some (.tup xs)):bh P w H' h' a o:=by
 induction o with
 |lst xs=>obtain⟨z,aH,n,r,e⟩:=x;exact⟨z,aH,n,r,k _ _ (.inl rfl) e⟩
 |tup xs=>obtain⟨z,aH,r,ob,e,c⟩:=x;exact⟨z,aH,r,ob,k _ _ (.inl rfl) e,c⟩
 |dK kvs=>obtain⟨z,y,vs,r,ob,es,ep,e,c⟩:=x;exact⟨z,y,vs,r,ob,es,ep,k _ _ (.inl rfl) e,c⟩
 |dT kvs=>obtain⟨z,y,xs,r,ob,es,ep,e,c⟩:=x;exact⟨z,y,xs,Paired.iM r λp q z=>⟨z.1,ht _ _ z.2.1,z.2.2⟩,ob,es,ep,k _ _ (.inl rfl) e,c⟩
 |set S n=>obtain⟨ob,es,ep,t,e,c⟩:=x;exact⟨ob,es,ep,t,k _ _ (.inl rfl) e,c⟩
 |ins C dx fs=>obtain⟨d,z,ne,e,mA,⟨od,es,ep,e2,c⟩,r⟩:=x;exact⟨ho _ d,z,ne,k _ _ (.inl rfl) e,mA,⟨od,es,ep,k _ _ (.inr d) e2,c⟩,r⟩
 |own y=>obtain⟨ob,e⟩:=x;exact⟨ob,k _ _ (.inl rfl) e⟩
 |xd fs=>obtain⟨mA,⟨od,es,ep,e,c⟩,r⟩:=x;exact⟨mA,⟨od,es,ep,k _ _ (.inl rfl) e,c⟩,r⟩
 |Ui lo hi=>obtain⟨t,u,v,e⟩:=x;exact⟨t,u,v,k _ _ (.inl rfl) e⟩
 |dH ob u ih=>obtain⟨e,q⟩:=x;exact⟨k _ _ (.inl rfl) e,ih q⟩
 |JU ps=>have e:h.get? a=some {cls:=.none,data:=.fields ps}:=x;show h'.get? a=some {cls:=.none,data:=.fields ps};exact k a _ (.inl rfl) e
 |met f y=>have e:h.get? a=some (PySem.W.methodObj (.ref f) (.ref y)):=x;show h'.get? a=some (PySem.W.methodObj (.ref f) (.ref y));exact k a _ (.inl rfl) e
 |ext φ=>obtain⟨p,⟨o,e⟩,st⟩:=x;exact⟨st _ _ p λo q=>k _ _ (.inl rfl) q,⟨o,k _ _ (.inl rfl) e⟩,st⟩
theorem g8.lt(x:g8 P w H h)(e:H a=some o):a<h.objs.size:=(x a o e).lt
theorem g8.fresh(x:g8 P w H h)(e:h.objs.size<=a):H a=none:=by
 cases q:H a with
 |none=>rfl
 |some u=>exact absurd (nK (x.lt q) e) (AF _)
theorem g8.kept(x:g8 P w H h)(k:∀b u,h.get? b=some u->h'.get? b=some u):g8 P w H h':=λa o e=>
 (x a o e).sr (λb u _ q=>k b u q) (λ_ q=>q) λ_ _ q=>q
theorem g8.laid(x:g8 P w H h)(k:∀b u,h.get? b=some u->h'.get? b=some u)(hp:h.objs.size<=a)(new:bh P w (upd H a o) h' a o):g8 P w (upd H a o) h':=λb u e=>by have hn:=x.fresh hp;by_cases hb:b=a;subst hb;rw[ay] at e;cases e;exact new;rw[ar hb] at e;exact (x b u e).sr (λc v _ q=>k c v q) (λc q=>by rw[ar (aS q hn)];exact q) λc xs q=>by rw[ar (aS q hn)];exact q
end
def Rd(H:Hp)(a:Addr)(u:HO):Prop:=H a=some u\/∃o,H a=some (.dH o u)
theorem Rd.ok{H:Hp}{a:Addr}{u:HO}(r:Rd H a u)(x:g8 P w H h):bh P w H h a u:=by
 obtain r|⟨o,r⟩:=r
 exact x a u r;obtain⟨_,q⟩:=x a _ r;exact q
def Ow:Option HO->Prop
 |some (.lst _)=>True
 |some (.dK _)=>True
 |some (.dT _)=>True
 |some (.set _ _)=>True
 |some (.ins _ _ _)=>True
 |some (.ext _)=>True
 |_=>False
section
variable{H:Hp}{x e:Addr}{o':HO}
theorem g8.write(ok:g8 P w H h)(mu:Ow (H x))(he:e=x\/H e=some (.own x))(k:∀b u,b≠e->h.get? b=some u->h'.get? b=some u)(Iq:∃u,h'.get? e=some u)(new:bh P w (upd H x o') h' x o'):g8 P w (upd H x o') h':=λb u q=>by
 have Oy:∀c y,H c=some (.own y)->c≠x:=λc y r z=>by subst z;rw[r] at mu;exact mu
 have JV:∀c xs,H c=some (.tup xs)->c≠x:=λc xs r z=>by subst z;rw[r] at mu;exact mu
 by_cases hb:b=x;subst hb;rw[ay] at q;cases q;exact new;rw[ar hb] at q;by_cases AH:b=e;have q':H b=some (.own x):=by
  obtain z|z:=he
  exact absurd (AH.trans z) hb;rw[AH];exact z
 rw[q] at q';cases q';obtain⟨v,hv⟩:=Iq;exact⟨v,by rw[AH];exact hv⟩;refine (ok b u q).sr (λc v hc r=>k c v ?_ r) (λc r=>by rw[ar (Oy c b r)];exact r) λc xs r=>by rw[ar (JV c xs r)];exact r
 obtain rfl|hc:=hc
 exact AH;rintro rfl;obtain z|z:=he
 exact Oy c b hc z;rw[hc] at z;cases z;exact hb rfl
end
structure Un(fs ex:qah)(H H':Hp)(h h':Heap):Prop where
 keep:∀b o,h.get? b=some o->H b=none->b∉fs->b∉ex->h'.get? b=some o
 slot:∀b o,h.get? b=some o->H b=none->b∈fs->b∉ex->∃sl,h'.get? b=some {o with slots:=sl}
 free:∀b o,h.get? b=some o->H b=none->b∉ex->H' b=none
 there:∀b o,h.get? b=some o->b∉ex->∃o',h'.get? b=some o'
 pQ:∀b xs,H b=some (.tup xs)->H' b=some (.tup xs)
 lF:∀b o u,H b=some (.dH o u)->H' b=some (.dH o u)
 pR:∀b ps,H b=some (.JU ps)->∃more,H' b=some (.JU (ps++more))
section
variable{fs Uj ex Uk:qah}{H H1 H2:Hp}{h1 h2:Heap}{a x e:Addr}{o:HO}
theorem Un.any(u:Un fs ex H H1 h h1){b:Addr}{ob:Obj}(q:h.get? b=some ob)(n:H b=none)(hx:b∉ex):∃sl,h1.get? b=some {ob with slots:=sl}:=by by_cases hb:b∈fs;exact u.slot b ob q n hb hx;exact⟨ob.slots,u.keep b ob q n hb hx⟩
theorem Un.kept(k:∀b u,h.get? b=some u->h'.get? b=some u):Un fs ex H H h h' :=
 ⟨λb ob q _ _ _=>k b ob q,λb ob q _ _ _=>⟨ob.slots,k b ob q⟩,λ_ _ _ n _=>n,λb ob q _=>⟨ob,k b ob q⟩,λ_ _ q=>q,λ_ _ _ q=>q,λ_ ps q=>⟨#[],by rw[q];simp⟩⟩
theorem Un.refl:Un fs ex H H h h:=Un.kept λ_ _ q=>q
theorem Un.laid(k:∀b u,h.get? b=some u->h'.get? b=some u)(hp:h.objs.size<=a)(hn:H a=none):Un fs ex H (upd H a o) h h' where
 keep:=λb u q _ _ _=>k b u q
 slot:=λb u q _ _ _=>⟨u.slots,k b u q⟩
 free:=λb u q n _=>by rw[ar (iG (nK (dG q) hp))];exact n
 there:=λb u q _=>⟨u,k b u q⟩
 pQ:=λb xs q=>by rw[ar (aS q hn)];exact q
 lF:=λb u xs q=>by rw[ar (aS q hn)];exact q
 pR:=λb ps q=>⟨#[],by rw[ar (aS q hn),q];simp⟩
theorem Un.write(mu:Ow (H x))(he:e=x\/H e=some (.own x))(k:∀b u,b≠e->h.get? b=some u->h'.get? b=some u)(Iq:∃u,h'.get? e=some u):Un fs ex H (upd H x o) h h':=by
 have hx:∀b,H b=none->b≠x:=λb n z=>by subst z;rw[n] at mu;exact mu
 have hb:∀b,H b=none->b≠e:=λb n z=>by
  subst z;obtain r|r:=he
  exact hx b n r;rw[n] at r;cases r
 have hm:∀b u,H b=some u->¬ Ow (some u)->b≠x:=λb u q nm z=>by subst z;rw[q] at mu;exact nm mu
 refine⟨λb u q n _ _=>k b u (hb b n) q,λb u q n _ _=>⟨u.slots,k b u (hb b n) q⟩,λb u q n _=>by rw[ar (hx b n)];exact n,λb u q _=>?_,
  λb xs q=>by rw[ar (hm b _ q λz=>z)];exact q,λb u xs q=>by rw[ar (hm b _ q λz=>z)];exact q,λb ps q=>⟨#[],by rw[ar (hm b _ q λz=>z),q];simp⟩⟩
 by_cases AH:b=e;subst AH;exact Iq;exact⟨u,k b u AH q⟩
end
noncomputable def SQ(h:Heap)(H:Hp):qah:=(List.range h.objs.size).filter λa=>(H a).isSome
noncomputable def pS(h:Heap)(H:Hp):Heap:=PySem.W.hideAll h (SQ h H)
theorem yL(h:Heap)(H:Hp):(pS h H).objs.size=h.objs.size:=PySem.W.hideAll_size _ _
theorem AY{H:Hp}{b:Addr}(e:h.get? b=some o)(n:H b=none):(pS h H).get? b=some o :=
 PySem.W.hideAll_get _ e λhm=>by have q:(H b).isSome=true:=(sf.mp hm).2;rw[n] at q;simp at q
theorem E3{H:Hp}{b:Addr}(e:(pS h H).get? b=some o):h.get? b=some o/\H b=none:=by
 have e':h.get? b=some o:=PySem.W.of_hideAll (SQ h H) e;refine⟨e',?_⟩;cases q:H b with
 |none=>rfl
 |some x=>have hm:b∈SQ h H:=sf.mpr ⟨w6.mpr (dG e'),by simp[q]⟩;have z:(pS h H).get? b=none:=PySem.W.hideAll_none (SQ h H) hm;rw[z] at e;cases e
def E4(g h:Heap)(L:Addr):qaa:=(List.range h.objs.size).filterMap λa=>if a=L\/(g.get? a).isSome=true then none else (h.get? a).map λo=>(a,o)
def rest(g h:Heap)(L d:Addr):qaa:=(E4 g h L).filter λp=>decide (p.1≠d)
structure Mod(K:qaf)(mg:qae)(base:Heap):Prop where
 SR:K.In base
 glob:base.Ns mainGlobals mg
 blt:∃mb,base.Ns builtinsNs mb/\∀x:Str,x≠"__name__"->mb x=bootBuiltins x
 nolimit:base.NoLimit
structure Cx where
 prog:Program
 w:World
 K:qaf
 mg:qae
 base:Heap
 A:Around
 N:qai
 s₀:Shared
 H₀:Hp
 env:Env
 outer:List Env
 stack:List Env
 ex:qah
 fn:Str->Bool
 calm:Bool
 pn:qaa
 xe:qad
def AI(l:List Env):qah:=l.filterMap (·.frame)
abbrev Cx.fs(X:Cx):qah:=AI X.outer
def ko(sc:Scope)(x:Str):Prop:=sc.names.lookup x=some .local\/sc.names.lookup x=some .cell\/sc.names.lookup x=some .free
def Loc(sc:Scope)(x:Str):Prop:=sc.names.lookup x=some .local\/sc.names.lookup x=some .cell
def Look(env:Env)(h:Heap)(m:qae)(x:Str)(u:Value):Prop :=
 (env.kindOf x=some .local/\m x=some u)\/((env.kindOf x=some .cell\/env.kindOf x=some .free)/\∃c,env.cells.lookup x=some c/\h.IsCell c (some u))
structure Cx.Ok(X:Cx):Prop where
 mod:Mod X.K X.mg X.base
 kind:X.env.scope.kind=.function
 glob:X.env.globals=mainGlobals
 blt:X.env.builtins=builtinsNs
 above:X.s₀.heap.objs.size<=X.env.locals
 inj:∀x y c,X.env.cells.lookup x=some c->X.env.cells.lookup y=some c->x=y
 has:∀x,(X.env.kindOf x=some .cell\/X.env.kindOf x=some .free)->∃c,X.env.cells.lookup x=some c
 Oz:∀x c,X.fn x=true->X.env.cells.lookup x=some c->X.s₀.heap.objs.size<=c
 hd:X.calm=true->X.A.handled=none
 frames:X.A.frames=some X.stack
 SS:X.stack=X.outer\/(X.stack=X.env::X.outer/\X.env.frame=some X.env.locals)
 WU:∀b∈X.ex,b≠X.env.locals/\∀x c,X.env.cells.lookup x=some c->c≠b
 bs:∀b o,X.base.get? b=some o->X.s₀.heap.get? b=some o/\X.H₀ b=none
 E5:X.base.objs.size<=X.s₀.heap.objs.size
 AZ:∀b o,X.base.get? b=some o->b∉X.ex
 E6:∀b∈X.ex,b∉X.fs
 kO:X.s₀.heap.FunFrames X.base X.outer
 JW:∀b∈X.fs,X.H₀ b=none
structure Inv(X:Cx)(pins:qaa)(σ:List (Option V))(H:Hp)(s:Shared):Prop where
 ok:X.Ok
 os:s.os=X.s₀.os
 bare:AllBare s.gens
 base:Un X.fs X.ex X.H₀ H X.s₀.heap s.heap
 loc:∃m,s.heap.Ns X.env.locals m/\∀(i:Nat)(x:Str)(v:V),X.N[i]?=some x->σ[i]?=some (some v)->ko X.env.scope x->∃u,RelV v u/\Look X.env s.heap m x u
 cell:∀x c,X.env.cells.lookup x=some c->∃v,s.heap.IsCell c v
 free:H X.env.locals=none
 eL:∀x c,X.env.cells.lookup x=some c->H c=none
 pin:∀p∈X.pn++pins,s.heap.get? p.1=some p.2/\H p.1=none/\p.1≠X.env.locals/\p.1∉X.fs/\∀v,p.2.data≠.cell v
 ba:g8 X.prog X.w H s.heap
 len:σ.length=X.N.length
section
variable{X:Cx}{pins:qaa}{σ:List (Option V)}{H H':Hp}
theorem Cx.Ok.Ul(ok:X.Ok){b:Addr}(e:X.base.get? b=some o):b∉X.fs:=λhb=>by have:=(ok.kO.mem hb).1;rw[e] at this;cases this
theorem Inv.bs(I:Inv X pins σ H s):∀b o,X.base.get? b=some o->s.heap.get? b=some o/\H b=none:=λb o e=>
 ⟨I.base.keep b o (I.ok.bs b o e).1 (I.ok.bs b o e).2 (I.ok.Ul e) (I.ok.AZ b o e),I.base.free b o (I.ok.bs b o e).1 (I.ok.bs b o e).2 (I.ok.AZ b o e)⟩
theorem Inv.bk(I:Inv X pins σ H s):∀b o,X.base.get? b=some o->s.heap.get? b=some o:=λb o e=>(I.bs b o e).1
theorem Inv.mod(I:Inv X pins σ H s):Mod X.K X.mg X.base:=I.ok.mod
theorem Inv.r8(I:Inv X pins σ H s):X.K.In s.heap:=I.ok.mod.SR.keeps I.bk
theorem Inv.lt(I:Inv X pins σ H s):X.env.locals<s.heap.objs.size:=let ⟨_,hn,_⟩:=I.loc;hn.lt
theorem Inv.sz(I:Inv X pins σ H s):X.s₀.heap.objs.size<=s.heap.objs.size:=km I.ok.above (Nat.le_of_lt I.lt)
theorem Inv.Um(I:Inv X pins σ H s){a:Addr}(h:s.heap.objs.size<=a):a∉X.fs:=λhb=>by obtain⟨_,o,ho,_⟩:=I.ok.kO.mem hb;exact absurd (nK (dG ho) (km I.sz h)) (AF _)
theorem Inv.E7(I:Inv X pins σ H s):∀x c,X.env.cells.lookup x=some c->c≠X.env.locals:=λx c e z=>by obtain⟨v,o,ho,hd⟩:=I.cell x c e;obtain⟨m,⟨o',es,ep,lH,Uo,_⟩,_⟩:=I.loc;rw[z,lH] at ho;cases ho;rw[Uo] at hd;cases hd
theorem Inv.kO(I:Inv X pins σ H s):s.heap.FunFrames X.base X.outer:=by
 have all:∀(l:List Env),(∀b∈AI l,b∈X.fs)->X.s₀.heap.FunFrames X.base l->s.heap.FunFrames X.base l:=by
  intro l;induction l with
  |nil=>intro _ _;trivial
  |cons env r ih=>intro hs hl;obtain⟨hk,⟨L,o,hf,hn,ho,hd⟩,hr⟩:=hl;have hL:L∈X.fs:=hs L (by unfold AI;rw[k8,hf];exact dq);obtain⟨sl,e⟩:=I.base.slot L o ho (I.ok.JW L hL) hL λz=>I.ok.E6 L z hL;exact⟨hk,⟨L,_,hf,hn,e,hd⟩,ih (λb hb=>hs b (by unfold AI;rw[k8,hf];exact d3 _ hb)) hr⟩
 exact all X.outer (λ_ hb=>hb) I.ok.kO
theorem Inv.stack(I:Inv X pins σ H s):s.heap.FunFrames X.base X.stack:=by
 obtain e|⟨e,hf⟩:=I.ok.SS
 rw[e];exact I.kO;rw[e];obtain⟨m,hn,_⟩:=I.loc;refine .cons (by rw[I.ok.kind];decide) hf hn ?_ I.kO;exact Heap.get?_none_of_le (km I.ok.E5 I.ok.above)
theorem Inv.uZ(I:Inv X pins σ H s):∀b∈AI X.stack,b∈X.env.locals::X.fs:=λb hb=>by
 obtain e|⟨e,hf⟩:=I.ok.SS
 rw[e] at hb;exact d3 _ hb;rw[e] at hb;unfold AI at hb;rw[k8,hf] at hb;exact hb
theorem Inv.w9(I:Inv X pins σ H s):∀b∈AI X.stack,H b=none:=λb hb=>by
 rcases dh.mp (I.uZ b hb) with e|hb
 rw[e];exact I.free;obtain⟨_,o,ho,_⟩:=I.ok.kO.mem hb;exact I.base.free b o ho (I.ok.JW b hb) λz=>I.ok.E6 b z hb
theorem Inv.step{g':Array GenState}{d':Drawn}{ch:qah}(I:Inv X pins σ H s)(EB:∀b∈ch,(b∈X.ex\/X.s₀.heap.objs.size<=b)/\b≠X.env.locals/\(∀x c,X.env.cells.lookup x=some c->c≠b)/\∀p∈X.pn++pins,p.1≠b)(keep:∀b o,b≠X.env.locals->b∉X.fs->b∉ch->s.heap.get? b=some o->H b=none->h'.get? b=some o)(slot:∀b o,b≠X.env.locals->b∈X.fs->b∉ch->s.heap.get? b=some o->H b=none->∃sl,h'.get? b=some {o with slots:=sl})(free:∀b o,b∉ch->s.heap.get? b=some o->H b=none->H' b=none)(there:∀b o,b∉ch->s.heap.get? b=some o->∃o',h'.get? b=some o')(pQ:∀b xs,H b=some (.tup xs)->H' b=some (.tup xs))(lF:∀b o u,H b=some (.dH o u)->H' b=some (.dH o u))(pR:∀b ps,H b=some (.JU ps)->∃more,H' b=some (.JU (ps++more)))(ns:∀m,s.heap.Ns X.env.locals m->h'.Ns X.env.locals m)(ba:g8 X.prog X.w H' h')(hg:AllBare g') :
  Inv X pins σ H' {s with heap:=h',gens:=g',drawn:=d',toks:=t'}:=by
 have WV:∀b o,X.s₀.heap.get? b=some o->b≠X.env.locals:=λb o e=>iG (nK (dG e) I.ok.above);have SU:∀b o,X.s₀.heap.get? b=some o->b∉X.ex->b∉ch:=λb o e hx hb=>by
  rcases (EB b hb).1 with z|z
  exact hx z;exact absurd (nK (dG e) z) (AF _)
 have cellK:∀x c,X.env.cells.lookup x=some c->∀v,s.heap.IsCell c v->h'.IsCell c v:=λx c e v ⟨o,ho,hd⟩=>by have A0:c∉ch:=λz=>(EB c z).2.2.1 x c e rfl;by_cases hc:c∈X.fs;obtain⟨sl,q⟩:=slot c o (I.E7 x c e) hc A0 ho (I.eL x c e);exact⟨_,q,hd⟩;exact⟨o,keep c o (I.E7 x c e) hc A0 ho (I.eL x c e),hd⟩
 refine⟨I.ok,I.os,hg,⟨λb o e n hb hx=>?_,λb o e n hb hx=>?_,λb o e n hx=>?_,λb o e hx=>?_,λb xs e=>pQ b xs (I.base.pQ b xs e),λb o xs e=>lF b o xs (I.base.lF b o xs e),λb ps e=>?_⟩,?_,λx c e=>?_,?_,λx c e=>?_,λp hp=>?_,ba,I.len⟩;exact keep b o (WV b o e) hb (SU b o e hx) (I.base.keep b o e n hb hx) (I.base.free b o e n hx);obtain⟨sl,e1⟩:=I.base.slot b o e n hb hx;obtain⟨Yg,e2⟩:=slot b _ (WV b o e) hb (SU b o e hx) e1 (I.base.free b o e n hx);exact⟨Yg,e2⟩;obtain⟨o',e1⟩:=I.base.there b o e hx;exact free b o' (SU b o e hx) e1 (I.base.free b o e n hx);obtain⟨o',e1⟩:=I.base.there b o e hx;exact there b o' (SU b o e hx) e1;obtain⟨m1,e1⟩:=I.base.pR b ps e;obtain⟨m2,e2⟩:=pR b _ e1;exact⟨m1++m2,by rw[e2,Array.append_assoc]⟩;obtain⟨m,hn,hl⟩:=I.loc;refine⟨m,ns m hn,λi x v e1 e2 e3=>?_⟩;obtain⟨u,r,l⟩:=hl i x v e1 e2 e3;refine⟨u,r,?_⟩;obtain l|⟨k,c,e,z⟩:=l
 exact .inl l;exact .inr ⟨k,c,e,cellK x c e _ z⟩;obtain⟨v,z⟩:=I.cell x c e;exact⟨v,cellK x c e v z⟩;obtain⟨m,⟨o,_,_,ho,_⟩,_⟩:=I.loc;exact free _ o (λz=>(EB _ z).2.1 rfl) ho I.free;obtain⟨v,o,ho,hd⟩:=I.cell x c e;exact free c o (λz=>(EB c z).2.2.1 x c e rfl) ho (I.eL x c e);obtain⟨e,n,ne,nf,d⟩:=I.pin p hp;have A0:p.1∉ch:=λz=>(EB p.1 z).2.2.2 p hp rfl;exact⟨keep p.1 p.2 ne nf A0 e n,free p.1 p.2 A0 e n,ne,nf,d⟩
theorem Inv.un(I:Inv X pins σ H s)(u:Un X.fs [] H H' s.heap h')(ba:g8 X.prog X.w H' h'):Inv X pins σ H' {s with heap:=h',toks:=t'}:=by
 obtain⟨m,⟨o,es,ep,ho,r⟩,_⟩:=id I.loc;obtain⟨sl,hL⟩:=u.any ho I.free (by simp);exact I.step (g':=s.gens) (d':=s.drawn) (ch:=[]) (λ_ z=>nomatch z) (λb o _ hb _ e n=>u.keep b o e n hb (by simp)) (λb o _ hb _ e n=>u.slot b o e n hb (by simp)) (λb o _ e n=>u.free b o e n (by simp)) (λb o _ e=>u.there b o e (by simp)) u.pQ u.lF u.pR (λm' hm=>by obtain⟨o',JX,JY,lH,r'⟩:=hm;rw[ho] at lH;cases lH;exact⟨_,JX,JY,hL,r'⟩) ba I.bare
theorem Inv.call{g':Array GenState}{d':Drawn}{ch:qah}(I:Inv X pins σ H s)(u:Un (AI X.stack) ch H H' s.heap h')(ba:g8 X.prog X.w H' h')(hg:AllBare g')(EB:∀b∈ch,(b∈X.ex\/X.s₀.heap.objs.size<=b)/\b≠X.env.locals/\(∀x c,X.env.cells.lookup x=some c->c≠b)/\∀p∈X.pn++pins,p.1≠b) :
  Inv X pins σ H' {s with heap:=h',gens:=g',drawn:=d',toks:=t'}:=by
 obtain⟨m,⟨o,es,ep,ho,r⟩,_⟩:=id I.loc;obtain⟨sl,hL⟩:=u.any ho I.free λz=>(EB _ z).2.1 rfl;exact I.step (ch:=ch) EB (λb o hL hb hc e n=>u.keep b o e n (λz=>(dh.mp (I.uZ b z)).elim hL hb) hc) (λb o _ _ hc e n=>u.any e n hc) (λb o hc e n=>u.free b o e n hc) (λb o hc e=>u.there b o e hc) u.pQ u.lF u.pR (λm' hm=>by obtain⟨o',JX,JY,lH,r'⟩:=hm;rw[ho] at lH;cases lH;exact⟨_,JX,JY,hL,r'⟩) ba hg
theorem Inv.turned(I:Inv X pins σ H s)(k:∀b o,b≠it->s.heap.get? b=some o->h'.get? b=some o)(hn:H it=none)(hL:it≠X.env.locals)(h1:it∈X.ex\/X.s₀.heap.objs.size<=it)(h2:∀x c,X.env.cells.lookup x=some c->c≠it)(h3:∀p∈X.pn++pins,p.1≠it):Inv X pins σ H {s with heap:=h',toks:=t'}:=by
 have E8:∀b u,H b=some u->b≠it:=λb u e z=>by rw[z,hn] at e;cases e
 refine I.step (g':=s.gens) (d':=s.drawn) (ch:=[it]) (λb hb=>?_) (λb o _ _ hc e _=>k b o (λz=>hc (by simp[z])) e) (λb o _ _ hc e _=>⟨o.slots,k b o (λz=>hc (by simp[z])) e⟩) (λ_ _ _ _ n=>n)
  (λb o hc e=>⟨o,k b o (λz=>hc (by simp[z])) e⟩) (λ_ _ e=>e) (λ_ _ _ e=>e) (λb ps e=>⟨#[],by rw[e];simp⟩) (λm hm=>?_) (λb u e=>?_) I.bare
 have e:b=it:=by simpa using hb
 subst e;exact⟨h1,hL,h2,h3⟩;obtain⟨o,es,ep,ho,r⟩:=hm;exact⟨o,es,ep,k _ o (Ne.symm hL) ho,r⟩;refine (I.ba b u e).sr (λc v hc q=>k c v ?_ q) (λ_ q=>q) λ_ _ q=>q;obtain z|z:=hc
 rw[z];exact E8 b u e;exact E8 c _ z
theorem Inv.tok(I:Inv X pins σ H s)(t:Nat):Inv X pins σ H {s with toks:=t}:=I.un (h':=s.heap) (t':=t) Un.refl I.ba
theorem Inv.kept(I:Inv X pins σ H s)(k:∀b u,s.heap.get? b=some u->h'.get? b=some u):Inv X pins σ H {s with heap:=h',toks:=t'}:=I.un (Un.kept k) (I.ba.kept k)
theorem Inv.laid{a:Addr}{o:HO}(I:Inv X pins σ H s)(k:∀b u,s.heap.get? b=some u->h'.get? b=some u)(hp:s.heap.objs.size<=a)(new:bh X.prog X.w (upd H a o) h' a o) :
 Inv X pins σ (upd H a o) {s with heap:=h',toks:=t'}:=I.un (Un.laid k hp (I.ba.fresh hp)) (I.ba.laid k hp new)
theorem Inv.write{x e:Addr}{o:HO}(I:Inv X pins σ H s)(mu:Ow (H x))(he:e=x\/H e=some (.own x))(k:∀b u,b≠e->s.heap.get? b=some u->h'.get? b=some u)(Iq:∃u,h'.get? e=some u)(new:bh X.prog X.w (upd H x o) h' x o):Inv X pins σ (upd H x o) {s with heap:=h',toks:=t'}:=I.un (Un.write mu he k Iq) (I.ba.write mu he k Iq new)
theorem Inv.weak{σ':List (Option V)}(I:Inv X pins σ H s)(hl:σ'.length=σ.length)(w:∀(i:Nat) v,σ'[i]?=some (some v)->σ[i]?=some (some v)):Inv X pins σ' H s :=
 ⟨I.ok,I.os,I.bare,I.base,let ⟨m,hn,OA⟩:=I.loc;⟨m,hn,λi x v e1 e2 e3=>OA i x v e1 (w i v e2) e3⟩,I.cell,I.free,I.eL,I.pin,I.ba,hl.trans I.len⟩
theorem Inv.w_{xa:qaa}(I:Inv X pins σ H s)(h:∀p∈xa,s.heap.get? p.1=some p.2/\H p.1=none/\p.1≠X.env.locals/\p.1∉X.fs/\∀v,p.2.data≠.cell v):Inv X xa σ H s :=
 ⟨I.ok,I.os,I.bare,I.base,I.loc,I.cell,I.free,I.eL,λp hp=>(g7.mp hp).elim (λz=>I.pin p (hU _ z)) (h p),I.ba,I.len⟩
theorem su{N:qai}(hN:N.Nodup)(a:N[i]?=some x)(b:N[j]?=some x):i=j:=by obtain⟨h1,e1⟩:=dJ.mp a;obtain⟨h2,e2⟩:=dJ.mp b;exact (List.getElem_inj hN).mp (e1.trans e2.symm)
theorem yM{M:Model}{E:qad}{v:V}{Q:Unit->Shared->Prop}(I:Inv X pins σ H s)(hN:X.N.Nodup)(hi:X.N[i]?=some x)(hx:Loc X.env.scope x)(r:RelV v u)(h:∀s',Inv X pins (σ.set i (some v)) H s'->(∃a,Heap.SameBut a s.heap s'.heap/\(a=X.env.locals\/X.env.cells.lookup x=some a))->Q () s')(hf:X.fn x=true\/X.env.scope.names.lookup x=some .local:=by first|exact .inl rfl|exact .inr rfl|assumption):wpAny M A (storeName X.env x u) Q E s:=by
 obtain⟨m,hn,hl⟩:=id I.loc;have Up:(X.env.scope.kind==.class || (X.env.scope.kind==.module && X.env.locals != X.env.globals))=false:=by rw[I.ok.kind];rfl
 have WW:i<σ.length:=by rw[I.len];exact (dJ.mp hi).1
 have E7:=I.E7;have tracked:∀{a:Addr}{h':Heap},(∃o,s.heap.get? a=some o/\H a=none)->Heap.SameBut a s.heap h'->g8 X.prog X.w H h':=λ{a h'} ha hs b ob e=>by
  obtain⟨_,_,Ir⟩:=ha;refine (I.ba b ob e).sr (λc w' hc q=>(hs.2 c ?_).trans q) (λ_ q=>q) λ_ _ q=>q;rintro rfl;obtain rfl|hc:=hc
  rw[Ir] at e;cases e;rw[Ir] at hc;cases hc
 obtain hk|hk:=hx
 refine wpAny_storeName_local hk hn (λh' Yh hs=>?_) Up;obtain⟨oL,_,_,Yi,_⟩:=id hn;refine h _ ⟨I.ok,I.os,I.bare,⟨λb o e n hb hx=>?_,λb o e n hb hx=>?_,I.base.free,λb o e hx=>?_,I.base.pQ,I.base.lF,I.base.pR⟩,⟨_,Yh,λj y v' e1 e2 e3=>?_⟩,λy c e=>?_,I.free,I.eL,λp hp=>?_,tracked ⟨oL,Yi,I.free⟩ hs,by simpa using I.len⟩ ⟨_,hs,.inl rfl⟩;exact (hs.2 b (iG (nK (dG e) I.ok.above))).trans (I.base.keep b o e n hb hx);obtain⟨sl,e1⟩:=I.base.slot b o e n hb hx;exact⟨sl,(hs.2 b (iG (nK (dG e) I.ok.above))).trans e1⟩;obtain⟨o',e1⟩:=I.base.there b o e hx;exact⟨o',(hs.2 b (iG (nK (dG e) I.ok.above))).trans e1⟩;by_cases hj:j=i;subst hj;rw[hi] at e1;cases e1;rw[AB WW] at e2;cases e2;exact⟨u,r,.inl ⟨hk,by simp⟩⟩;rw[r6 (Ne.symm hj)] at e2;obtain⟨u',r',q⟩:=hl j y v' e1 e2 e3;refine⟨u',r',?_⟩;obtain⟨k,e⟩|⟨k,c,e,z⟩:=q
 refine .inl ⟨k,?_⟩;have:y≠x:=λe=>hj (su hN e1 (e▸hi));simp[this,e];exact .inr ⟨k,c,e,z.sameBut hs (E7 y c e)⟩;obtain⟨w',z⟩:=I.cell y c e;exact⟨w',z.sameBut hs (E7 y c e)⟩;obtain⟨e,n,ne,nf,d⟩:=I.pin p hp;exact⟨(hs.2 p.1 ne).trans e,n,ne,nf,d⟩;have Uq:X.fn x=true:=by
  obtain z|z:=hf
  exact z;rw[z] at hk;cases hk
 obtain⟨c,hc⟩:=I.ok.has x (.inl hk);obtain⟨w',z⟩:=I.cell x c hc;refine wpAny_storeName_cell I.ok.kind hk hc z (λh' nM hs=>?_);obtain⟨oc,WX,Ur⟩:=id z;refine h {s with heap:=h'} ⟨I.ok,I.os,I.bare,⟨λb o e n hb hx=>?_,λb o e n hb hx=>?_,I.base.free,λb o e hx=>?_,I.base.pQ,I.base.lF,I.base.pR⟩,⟨m,hn.sameBut hs (Ne.symm (E7 x c hc)),λj y v' e1 e2 e3=>?_⟩,λy c' e=>?_,I.free,I.eL,λp hp=>?_,tracked ⟨oc,WX,I.eL x c hc⟩ hs,by simpa using I.len⟩ ⟨c,hs,.inr hc⟩;exact (hs.2 b (iG (nK (dG e) (I.ok.Oz x c Uq hc)))).trans (I.base.keep b o e n hb hx);obtain⟨sl,e1⟩:=I.base.slot b o e n hb hx;exact⟨sl,(hs.2 b (iG (nK (dG e) (I.ok.Oz x c Uq hc)))).trans e1⟩;obtain⟨o',e1⟩:=I.base.there b o e hx;exact⟨o',(hs.2 b (iG (nK (dG e) (I.ok.Oz x c Uq hc)))).trans e1⟩;by_cases hj:j=i;subst hj;rw[hi] at e1;cases e1;rw[AB WW] at e2;cases e2;exact⟨u,r,.inr ⟨.inl hk,c,hc,nM⟩⟩;rw[r6 (Ne.symm hj)] at e2;obtain⟨u',r',q⟩:=hl j y v' e1 e2 e3;refine⟨u',r',?_⟩;obtain q|⟨k,c',e,z'⟩:=q
 exact .inl q;refine .inr ⟨k,c',e,z'.sameBut hs ?_⟩;rintro rfl;exact hj (su hN e1 (I.ok.inj _ _ _ e hc▸hi));by_cases WY:c'=c;subst WY;exact⟨_,nM⟩;obtain⟨w2,z2⟩:=I.cell y c' e;exact⟨w2,z2.sameBut hs WY⟩;obtain⟨e,n,ne,nf,d⟩:=I.pin p hp;refine⟨(hs.2 p.1 ?_).trans e,n,ne,nf,d⟩;intro q;rw[q,WX] at e;have q':oc=p.2:=Option.some.inj e;exact d w' (by rw[<- q'];exact Ur)
theorem lJ{M:Model}{E:qad}{v:V}{Q:Unit->Shared->Prop}(I:Inv X pins σ H s)(hN:X.N.Nodup)(hi:X.N[i]?=some x)(hx:Loc X.env.scope x)(r:RelV v u)(h:∀s',Inv X pins (σ.set i (some v)) H s'->Q () s')(hf:X.fn x=true\/X.env.scope.names.lookup x=some .local:=by first|exact .inl rfl|exact .inr rfl|assumption):wpAny M A (storeName X.env x u) Q E s :=
 yM I hN hi hx r (λs' I' _=>h s' I') hf
theorem Inv.OB{ch:qah}(I:Inv X pins σ H s)(ho:s'.os=s.os)(u:Un (AI X.stack) ch H H' s.heap s'.heap)(ba:g8 X.prog X.w H' s'.heap)(hg:AllBare s'.gens)(EB:∀b∈ch,(b∈X.ex\/X.s₀.heap.objs.size<=b)/\b≠X.env.locals/\(∀x c,X.env.cells.lookup x=some c->c≠b)/\∀p∈X.pn++pins,p.1≠b):Inv X pins σ H' s':=by obtain⟨h',g',d',t',o'⟩:=s';have e:o'=s.os:=ho;subst e;exact I.call (g':=g') (t':=t') (d':=d') u ba hg EB
end
abbrev XK:=Value->qar->Hp->Prop
abbrev St:=List (Option V)
abbrev VK:=V->Hp->Prop
abbrev TE:=St->Hp->VK->Prop
abbrev TT:=St->Hp->(Bool->Hp->Prop)->Prop
abbrev TA:=St->Hp->(List V->Hp->Prop)->Prop
structure Ends where
 nx:St->Hp->Prop
 rt:VK
 bk:St->Hp->Prop:=λ_ _=>False
 ct:St->Hp->Prop:=λ_ _=>False
abbrev TS:=Ends->St->Hp->Prop
def EP(X:Cx)(pins:qaa)(σ:St)(Q:VK)(u:Value)(s':Shared):Prop:=∃v H',Inv X pins σ H' s'/\RelV v u/\Q v H'
def TP(X:Cx)(pins:qaa)(σ:St)(Q:Bool->Hp->Prop)(b:Bool)(s':Shared):Prop:=∃H',Inv X pins σ H' s'/\Q b H'
def AP(X:Cx)(pins:qaa)(σ:St)(Q:List V->Hp->Prop)(us:qag)(s':Shared):Prop:=∃vs H',Inv X pins σ H' s'/\Vals vs us/\Q vs H'
def SP(X:Cx)(pins:qaa)(D:Ends)(f:Flow)(s':Shared):Prop :=
 match f with
 |.next=>∃σ' H',Inv X pins σ' H' s'/\D.nx σ' H'
 |.brk=>∃σ' H',Inv X pins σ' H' s'/\D.bk σ' H'
 |.cont=>∃σ' H',Inv X pins σ' H' s'/\D.ct σ' H'
 |.ret u=>∃v σ' H',Inv X pins σ' H' s'/\RelV v u/\D.rt v H'
def PE(X:Cx)(e:Expr)(t:TE):Prop :=
 ∀(pins:qaa)(s:Shared)(σ:St)(H:Hp)(Q:VK),Inv X pins σ H s->t σ H Q->wpAny (model X.prog X.w) X.A (eval e X.env) (EP X pins σ Q) X.xe s
def PT(X:Cx)(e:Expr)(t:TT):Prop :=
 ∀(pins:qaa)(s:Shared)(σ:St)(H:Hp)(Q:Bool->Hp->Prop),Inv X pins σ H s->t σ H Q->wpAny (model X.prog X.w) X.A (isTrue e X.env (eval e X.env)) (TP X pins σ Q) X.xe s
def PW(X:Cx)(e:Expr)(t:TT):Prop :=
 ∀(whole:Sem Value)(pins:qaa)(s:Shared)(σ:St)(H:Hp)(Q:Bool->Hp->Prop),Inv X pins σ H s->t σ H Q->wpAny (model X.prog X.w) X.A (isTrue e X.env whole) (TP X pins σ Q) X.xe s
theorem PW.pt{X:Cx}{t:TT}(h:PW X e t):PT X e t:=h _
def PA(X:Cx)(es:qap)(t:TA):Prop :=
 ∀(pos:Pos)(pins:qaa)(s:Shared)(σ:St)(H:Hp)(Q:List V->Hp->Prop),Inv X pins σ H s->t σ H Q->wpAny (model X.prog X.w) X.A (spliced (backTo pos (starEach es X.env))) (AP X pins σ Q) X.xe s
def PS(X:Cx)(st:Stmt)(t:TS):Prop :=
 ∀(pins:qaa)(s:Shared)(σ:St)(H:Hp)(D:Ends),Inv X pins σ H s->t D σ H->wpAny (model X.prog X.w) X.A (exec st X.env) (SP X pins D) X.xe s
def ik(X:Cx)(st:qaq)(t:TS):Prop :=
 ∀(pins:qaa)(s:Shared)(σ:St)(H:Hp)(D:Ends),Inv X pins σ H s->t D σ H->wpAny (model X.prog X.w) X.A (execs st X.env) (SP X pins D) X.xe s
theorem bJ{t:Sem α}{Q Q':α->Shared->Prop}{M:Model}{E:qad}(h:wpAny M A t Q E s)(hQ:∀a s,Q a s->Q' a s):wpAny M A t Q' E s:=wpAny_mono h hQ λ_ _ x=>x
section
variable{X:Cx}
def yN(i:Nat):TE:=λσ H Q=>∃v,σ[i]?=some (some v)/\Q v H
def tC(v:V):TE:=λ_ H Q=>Q v H
theorem bD(hN:X.N[i]?=some x)(hv:ko X.env.scope x)(hd:eG x:=by decide)(eI:nJ x:=by decide):PE X (.Name x pos) (yN i):=by
 intro pins s σ H Q I h;obtain⟨v,e,h⟩:=h;obtain⟨m,hn,hl⟩:=I.loc;obtain⟨u,r,l⟩:=hl i x v hN e hv;have fin:EP X pins σ Q u s:=⟨v,H,I,r,h⟩;obtain⟨hk,hm⟩|⟨hk,c,hc,xb⟩:=l
 exact wpAny_Name (wpAny_loadName_local I.ok.kind hk hn hm fin) hd;obtain hk|hk:=hk
 exact wpAny_Name (wpAny_loadName_cell I.ok.kind hk hc xb fin) hd;exact wpAny_Name (wpAny_loadName_free I.ok.kind hk hc xb fin eI) hd
theorem JZ{i j pos}:PE X (.Constant (.int i) j pos) (tC (.int i)):=λ_ _ _ H _ I h=>wpAny_Constant_int ⟨.int i,H,I.tok _,⟨_,rfl⟩,h⟩
theorem OC{b j pos}:PE X (.Constant (.bool b) j pos) (tC (.bl b)):=λ_ _ _ H _ I h=>Constant_bool ⟨.bl b,H,I,rfl,h⟩
theorem J1{j pos}:PE X (.Constant .none j pos) (tC .a9):=λ_ _ _ H _ I h=>Constant_none ⟨.a9,H,I,rfl,h⟩
theorem J_{x j pos}:PE X (.Constant (.str x) j pos) (tC (.str x)):=λ_ _ _ H _ I h=>Calls.Constant_str ⟨.str x,H,I.tok _,⟨_,rfl⟩,h⟩
def Gl(X:Cx)(x:Str):Prop:=X.env.kindOf x=some .globalImplicit
theorem pT{E:qad}{pins:qaa}{σ:St}{H:Hp}{Q:qad}(I:Inv X pins σ H s)(hg:Gl X x)(hm:X.mg x=some u)(h:Q u s)(hd:eG x:=by decide):wpAny (model X.prog X.w) X.A (eval (.Name x pos) X.env) Q E s :=
 Calls.Name_function_global I.ok.kind hg (Calls.loadGlobal_global (by rw[I.ok.glob];exact I.mod.glob.keeps I.bk) hm h) hd
theorem jy{E:qad}{pins:qaa}{σ:St}{H:Hp}{Q:qad}(I:Inv X pins σ H s)(hg:Gl X x)(hm:X.mg x=none)(hv:bootBuiltins x=some u)(h:Q u s)(hn:x≠"__name__":=by decide)(hd:eG x:=by decide):wpAny (model X.prog X.w) X.A (eval (.Name x pos) X.env) Q E s:=by obtain⟨mb,h1,h2⟩:=I.mod.blt;exact Calls.Name_function_global I.ok.kind hg (Calls.loadGlobal_builtin (by rw[I.ok.glob];exact I.mod.glob.keeps I.bk) hm (by rw[I.ok.blt];exact h1.keeps I.bk) ((h2 x hn).trans hv) h) hd
theorem E9{v:V}(hg:Gl X x)(hm:X.mg x=some u)(r:RelV v u)(hd:eG x:=by decide):PE X (.Name x pos) (tC v) :=
 λ_ _ _ H _ I h=>pT I hg hm ⟨v,H,I,r,h⟩ hd
theorem E_{v:V}(hg:Gl X x)(hm:X.mg x=none)(hv:bootBuiltins x=some u)(r:RelV v u)(hn:x≠"__name__":=by decide)(hd:eG x:=by decide):PE X (.Name x pos) (tC v) :=
 λ_ _ _ H _ I h=>jy I hg hm hv ⟨v,H,I,r,h⟩ hn hd
variable{a b:Expr}{ta tb:TE}
def tB(t:TE):TT:=λσ H Q=>t σ H λx H1=>∃c,x=.bl c/\Q c H1
theorem A3{t:TE}(h:PE X e t)(he:∀whole,isTrue e X.env whole=(do let v <- whole;standAt e.pos;holding [v] (truthy v)):=by intro _;rfl):PT X e (tB t):=by intro pins s σ H Q I hw;refine isTrue_plain (bJ (h pins s σ H _ I hw) λv s1 ⟨x,H1,I1,r1,q1⟩=>?_) (he _);obtain⟨d,rfl,q⟩:=q1;cases r1;exact wpAny_truthy_bool ⟨H1,I1,q⟩
variable{tA OD:TT}{rest:qap}
def Us(t u:TT):TT:=λσ H Q=>t σ H λc H1=>if c=true then u σ H1 Q else Q false H1
def Yj(t u:TT):TT:=λσ H Q=>t σ H λc H1=>if c=true then Q true H1 else u σ H1 Q
def Ut(t:TT):TT:=λσ H Q=>t σ H λc H1=>Q (!c) H1
theorem pw_and1(ha:PT X a tA):PW X (.BoolOp .And [a] pos) tA:=by
 intro wh pins s σ H Q I h;refine isTrue_and (bJ (ha pins s σ H Q I h) λc s1 e=>?_);cases c with
 |true=>exact isTrue_and_nil e
 |false=>exact e
theorem pw_or1(ha:PT X a tA):PW X (.BoolOp .Or [a] pos) tA:=by
 intro wh pins s σ H Q I h;refine isTrue_or (bJ (ha pins s σ H Q I h) λc s1 e=>?_);cases c with
 |false=>exact isTrue_or_nil e
 |true=>exact e
theorem pw_and(ha:PT X a tA)(hb:PW X (.BoolOp .And (b::rest) pos) OD):PW X (.BoolOp .And (a::b::rest) pos) (Us tA OD):=by
 intro wh pins s σ H Q I h;refine isTrue_and (bJ (ha pins s σ H _ I h) λc s1 ⟨H1,I1,q1⟩=>?_);cases c with
 |true=>exact hb wh pins s1 σ H1 Q I1 q1
 |false=>exact⟨H1,I1,q1⟩
theorem pw_or(ha:PT X a tA)(hb:PW X (.BoolOp .Or (b::rest) pos) OD):PW X (.BoolOp .Or (a::b::rest) pos) (Yj tA OD):=by
 intro wh pins s σ H Q I h;refine isTrue_or (bJ (ha pins s σ H _ I h) λc s1 ⟨H1,I1,q1⟩=>?_);cases c with
 |true=>exact⟨H1,I1,q1⟩
 |false=>exact hb wh pins s1 σ H1 Q I1 q1
theorem Ka(ha:PT X a tA):PT X (.UnaryOp .Not a pos) (Ut tA):=by intro pins s σ H Q I h;exact isTrue_not (ha pins s σ H (λc H1=>Q (!c) H1) I h)
def OE(ta tb:TE):TE:=λσ H Q=>ta σ H λx H1=>∃c,x=.bl c/\if c=true then tb σ H1 Q else Q (.bl false) H1
def Uu(ta tb:TE):TE:=λσ H Q=>ta σ H λx H1=>∃c,x=.bl c/\if c=true then Q (.bl true) H1 else tb σ H1 Q
def OF(ta:TE):TE:=λσ H Q=>ta σ H λx H1=>∃c,x=.bl c/\Q (.bl (!c)) H1
theorem Kb{op}{t:TE}(h:PE X a t):PE X (.BoolOp op [a] pos) t:=λpins s σ H Q I hw=>BoolOp_one (h pins s σ H Q I hw)
theorem Kc(ha:PE X a ta)(hb:PE X (.BoolOp .And (b::rest) pos) tb):PE X (.BoolOp .And (a::b::rest) pos) (OE ta tb):=by
 intro pins s σ H Q I h;refine BoolOp_and (bJ (ha pins s σ H _ I h) λv s1 ⟨x,H1,I1,r1,q1⟩=>?_);obtain⟨c,rfl,q1⟩:=q1;cases r1;refine wpAny_truthy_bool ?_;cases c with
 |true=>exact hb pins s1 σ H1 Q I1 q1
 |false=>exact⟨.bl false,H1,I1,rfl,q1⟩
theorem OG(ha:PE X a ta)(hb:PE X (.BoolOp .Or (b::rest) pos) tb):PE X (.BoolOp .Or (a::b::rest) pos) (Uu ta tb):=by
 intro pins s σ H Q I h;refine BoolOp_or (bJ (ha pins s σ H _ I h) λv s1 ⟨x,H1,I1,r1,q1⟩=>?_);obtain⟨c,rfl,q1⟩:=q1;cases r1;refine wpAny_truthy_bool ?_;cases c with
 |false=>exact hb pins s1 σ H1 Q I1 q1
 |true=>exact⟨.bl true,H1,I1,rfl,q1⟩
theorem Ke(ha:PE X a ta):PE X (.UnaryOp .Not a pos) (OF ta):=by intro pins s σ H Q I h;refine UnaryOp_ (bJ (ha pins s σ H _ I h) λv s1 ⟨x,H1,I1,r1,q1⟩=>?_);obtain⟨c,rfl,q1⟩:=q1;cases r1;exact not_of (wpAny_truthy_bool ⟨.bl (!c),H1,I1,rfl,q1⟩)
def Yk(t:TT)(ta tb:TE):TE:=λσ H Q=>t σ H λc H1=>if c=true then ta σ H1 Q else tb σ H1 Q
theorem A4(hc:PT X c tA)(ha:PE X a ta)(hb:PE X b tb):PE X (.IfExp c a b pos) (Yk tA ta tb):=by
 intro pins s σ H Q I h;refine wpAny_IfExp (bJ (hc pins s σ H _ I h) λd s1 ⟨H1,I1,q1⟩=>?_);cases d with
 |true=>exact ha pins s1 σ H1 Q I1 q1
 |false=>exact hb pins s1 σ H1 Q I1 q1
end
def fq(K:qaf)(H:Hp)(a:Addr)(xs:List V):Prop :=
 Rd H a (.lst xs) \/
  ∃(o:Obj)(aH:Array Value)(n:Nat),K.lookup a=some o/\o.cls=.type "list"/\o.dict=none/\o.data=.seq aH n/\aH.size<=sizeLine/\Vals xs aH.toList
def dy(K:qaf)(H:Hp)(a:Addr)(xs:List V):Prop :=
 Rd H a (.tup xs) \/
  ∃(o:Obj)(aH:Array Value)(n:Nat),K.lookup a=some o/\o.cls=.type "tuple"/\o.data=.seq aH n/\aH.size<=sizeLine/\Vals xs aH.toList
noncomputable def Uv:Value->Option V
 |.none=>some .a9
 |.bool b=>some (.bl b)
 |.int i _=>some (.int i)
 |.str x _=>some (.str x)
 |.bytes b _=>some (.Ug b)
 |.float b _=>some (.Uh b)
 |.ref a=>some (.ref a)
 |.type n=>some (.ty n)
 |_=>none
theorem RelV.abs{x:V}(r:RelV x u):Uv u=some x:=by
 cases x with
 |a9=>cases r;rfl
 |bl _=>cases r;rfl
 |ref _=>cases r;rfl
 |ty _=>cases r;rfl
 |_=>obtain⟨t,rfl⟩:=r;rfl
theorem RelV.inj{x y:V}(r:RelV x u)(q:RelV y u):x=y:=Option.some.inj (r.abs.symm.trans q.abs)
theorem Vals.inj:∀{xs ys:List V}{us:qag},Vals xs us->Vals ys us->xs=ys
 |_,_,_,.nil,.nil=>rfl
 |_,_,_,.cons r t,.cons r' t'=>by rw[r.inj r',Vals.inj t t']
section
variable{X:Cx}{pins:qaa}{σ:St}{H:Hp}{a:Addr}{xs ys:List V}
theorem fq.of{K:qaf}(h:H a=some (.lst xs)):fq K H a xs:=.inl (.inl h)
theorem dy.of{K:qaf}(h:H a=some (.tup xs)):dy K H a xs:=.inl (.inl h)
theorem Inv.list(I:Inv X pins σ H s)(h:fq X.K H a xs):∃aH:qag,Vals xs aH/\PlainL s.heap a aH.toArray/\xs.length<=sizeLine:=by
 obtain h|⟨o,aH,n,hk,hc,hd,hs,hz,r⟩:=h
 obtain⟨z,aH,n,r,e⟩:=h.ok I.ba;exact⟨aH,r,⟨_,n,e,rfl,rfl,rfl⟩,z⟩;refine⟨aH.toList,r,⟨o,n,I.r8 a o hk,hc,hd,by simpa using hs⟩,?_⟩;have e:=r.length;simp only[JG] at e;omega
theorem Inv.tuple(I:Inv X pins σ H s)(h:dy X.K H a xs):∃aH:qag,Vals xs aH/\IsTup s.heap a aH.toArray/\xs.length<=sizeLine:=by
 obtain h|⟨o,aH,n,hk,hc,hs,hz,r⟩:=h
 obtain⟨z,aH,r,p⟩:=h.ok I.ba;exact⟨aH,r,p,z⟩;refine⟨aH.toList,r,⟨o,I.r8 a o hk,hc,n,by simpa using hs⟩,?_⟩;have e:=r.length;simp only[JG] at e;omega
theorem Inv.iN(I:Inv X pins σ H s)(h:fq X.K H a xs)(h':fq X.K H a ys):xs=ys:=by
 obtain⟨aH,r,⟨o,n,e,_,_,d⟩,_⟩:=I.list h;obtain⟨its',r',⟨o',n',e',_,_,d'⟩,_⟩:=I.list h';rw[e] at e';cases e';rw[d] at d';injection d' with d1 _
 have:aH=its':=by simpa using congrArg Array.toList d1
 subst this;exact r.inj r'
theorem Inv.jz(I:Inv X pins σ H s)(h:dy X.K H a xs)(h':dy X.K H a ys):xs=ys:=by
 obtain⟨aH,r,⟨o,e,_,n,d⟩,_⟩:=I.tuple h;obtain⟨its',r',⟨o',e',_,n',d'⟩,_⟩:=I.tuple h';rw[e] at e';cases e';rw[d] at d';injection d' with d1 _
 have:aH=its':=by simpa using congrArg Array.toList d1
 subst this;exact r.inj r'
end
noncomputable abbrev Cx.nN(X:Cx)(E:qad):Cx:={X with xe:=E}
noncomputable abbrev Cx.yO(X:Cx):Cx:=X.nN λ_ _=>False
theorem Cx.Ok.nN{X:Cx}(ok:X.Ok)(E:qad):(X.nN E).Ok :=
 ⟨ok.mod,ok.kind,ok.glob,ok.blt,ok.above,ok.inj,ok.has,ok.Oz,ok.hd,ok.frames,ok.SS,ok.WU,ok.bs,ok.E5,ok.AZ,ok.E6,ok.kO,ok.JW⟩
theorem Cx.Ok.jA{X:Cx}{E:qad}(ok:(X.nN E).Ok):X.Ok :=
 ⟨ok.mod,ok.kind,ok.glob,ok.blt,ok.above,ok.inj,ok.has,ok.Oz,ok.hd,ok.frames,ok.SS,ok.WU,ok.bs,ok.E5,ok.AZ,ok.E6,ok.kO,ok.JW⟩
section
variable{X:Cx}{pins:qaa}{σ:St}{H:Hp}{E:qad}
theorem Inv.nN(I:Inv X pins σ H s)(E:qad):Inv (X.nN E) pins σ H s:=⟨I.ok.nN E,I.os,I.bare,I.base,I.loc,I.cell,I.free,I.eL,I.pin,I.ba,I.len⟩
theorem Inv.jA(I:Inv (X.nN E) pins σ H s):Inv X pins σ H s:=⟨I.ok.jA,I.os,I.bare,I.base,I.loc,I.cell,I.free,I.eL,I.pin,I.ba,I.len⟩
theorem SP.jA{D:Ends}{f:Flow}(h:SP (X.nN E) pins D f s'):SP X pins D f s':=by
 cases f with
 |ret u=>obtain⟨v,σ',H',I,r,q⟩:=h;exact⟨v,σ',H',I.jA,r,q⟩
 |_=>obtain⟨σ',H',I,q⟩:=h;exact⟨σ',H',I.jA,q⟩
theorem ik.yO{st:qaq}{t:TS}(h:ik X.yO st t):ik X st t:=λpins s σ H D I hw=>
 wpAny_mono (h pins s σ H D (I.nN _) hw) (λ_ _ q=>q.jA) λ_ _ z=>False.elim z
end
section
variable{X:Cx}{st:Stmt}{rest:qaq}{t u:TS}{te:TE}
def Iu:TS:=λD σ H=>D.nx σ H
def Uw(t u:TS):TS:=λD σ H=>t {D with nx:=u D} σ H
theorem xc:ik X [] Iu:=λ_ _ σ H _ I h=>wpAny_execs_nil ⟨σ,H,I,h⟩
theorem gp(h1:PS X st t)(h2:ik X rest u):ik X (st::rest) (Uw t u):=by
 intro pins s σ H D I h;refine wpAny_execs_cons (bJ (h1 pins s σ H {D with nx:=u D} I h) λf s1 q=>?_);cases f with
 |next=>obtain⟨σ',H',I',q⟩:=q;exact h2 pins s1 σ' H' D I' q
 |ret v=>exact q
 |_=>exact q
theorem iO(h1:PS X st t):ik X [st] t:=by
 intro pins s σ H D I h;refine wpAny_execs_cons (bJ (h1 pins s σ H D I h) λf s1 q=>?_);cases f with
 |next=>exact wpAny_execs_nil q
 |ret v=>exact q
 |_=>exact q
theorem Fb:PS X (.Pass pos) Iu:=λ_ _ σ H _ I h=>wpAny_Pass ⟨σ,H,I,h⟩
theorem Inv.quiet{pins:qaa}{σ:St}{H:Hp}(I:Inv X pins σ H s):interactive X.env=false:=by simp[interactive,I.ok.kind]
def OH(te:TE):TS:=λD σ H=>te σ H λ_ H1=>D.nx σ H1
theorem Fc(he:PE X e te)(hs:swapsWith e none pos.line X.env=pure false:=by rfl):PS X (.Expr e pos) (OH te):=by intro pins s σ H D I h;exact wpAny_Expr_any (bJ (he pins s σ H _ I h) λv s1 ⟨x,H1,I1,r1,q1⟩=>⟨σ,H1,I1,q1⟩) I.quiet hs
def Ux(te:TE):TS:=λD σ H=>te σ H D.rt
theorem u7(he:PE X e te):PS X (.Return (some e) pos) (Ux te):=by intro pins s σ H D I h;exact wpAny_Return_some (bJ (he pins s σ H _ I h) λv s1 ⟨x,H1,I1,r1,q1⟩=>⟨x,σ,H1,I1,r1,q1⟩)
def Uy(c:TT)(t u:TS):TS:=λD σ H=>c σ H λb H1=>if b=true then t D σ H1 else u D σ H1
theorem Iw{a b:qaq}{tc:TT}(hc:PT X c tc)(ha:ik X a t)(hb:ik X b u):PS X (.If c a b pos) (Uy tc t u):=by
 intro pins s σ H D I h;refine wpAny_If (bJ (hc pins s σ H _ I h) λd s1 ⟨H1,I1,q1⟩=>?_);cases d with
 |true=>exact ha pins s1 σ H1 D I1 q1
 |false=>exact hb pins s1 σ H1 D I1 q1
end
abbrev TG:=V->St->Hp->(St->Hp->Prop)->Prop
abbrev Fd:=List V->St->Hp->(St->Hp->Prop)->Prop
def PG(X:Cx)(target:Expr)(t:TG):Prop :=
 ∀(pins:qaa)(s:Shared)(σ:St)(H:Hp)(v:V)(u:Value)(Q:St->Hp->Prop),Inv X pins σ H s->RelV v u->t v σ H Q ->
  wpAny (model X.prog X.w) X.A (assign target X.env u) (λ_ s'=>∃σ' H',Inv X pins σ' H' s'/\Q σ' H') X.xe s
def A5(X:Cx)(ts:qap)(t:Fd):Prop :=
 ∀(pins:qaa)(s:Shared)(σ:St)(H:Hp)(vs:List V)(us:qag)(Q:St->Hp->Prop),Inv X pins σ H s->Vals vs us->t vs σ H Q ->
  wpAny (model X.prog X.w) X.A (assignInOrder ((assignEach ts X.env).map (·.2)) us) (λ_ s'=>∃σ' H',Inv X pins σ' H' s'/\Q σ' H') X.xe s
abbrev Kg:=V->V->V->Hp->(Hp->Prop)->Prop
def OI(X:Cx)(t:Kg):Prop :=
 ∀(pins:qaa)(s:Shared)(σ:St)(H:Hp)(o i v:V)(ov iv u:Value)(Q:Hp->Prop),Inv X pins σ H s->RelV o ov->RelV i iv->RelV v u->t o i v H Q ->
  wpAny (model X.prog X.w) X.A (setItem ov iv u) (λ_ s'=>∃H',Inv X pins σ H' s'/\Q H') X.xe s
abbrev Uz:=V->V->Hp->VK->Prop
def Yl(X:Cx)(op:Operator)(t:Uz):Prop :=
 ∀(pins:qaa)(s:Shared)(σ:St)(H:Hp)(x y:V)(v u:Value)(Q:VK),Inv X pins σ H s->RelV x v->RelV y u->t x y H Q ->
  wpAny (model X.prog X.w) X.A (inplaceOp op v u) (EP X pins σ Q) X.xe s
section
variable{X:Cx}
def sx(i:Nat):TG:=λv σ H Q=>Q (σ.set i (some v)) H
theorem Fe(hN:X.N.Nodup)(hi:X.N[i]?=some x)(hx:Loc X.env.scope x)(hf:X.fn x=true\/X.env.scope.names.lookup x=some .local:=by first|exact .inl rfl|exact .inr rfl|assumption):PG X (.Name x pos) (sx i):=by intro pins s σ H v u Q I r h;exact wpAny_assign_Name (lJ I hN hi hx r (λs' I'=>⟨_,H,I',h⟩) hf)
def UA:Fd:=λvs σ H Q=>vs=[]/\Q σ H
def OJ(t:TG)(u:Fd):Fd:=λvs σ H Q=>∃v r,vs=v::r/\t v σ H λσ' H'=>u r σ' H' Q
theorem Ff:A5 X [] UA:=by intro pins s σ H vs us Q I r h;obtain⟨e,h⟩:=h;subst e;cases r;exact assignInOrder_nil ⟨σ,H,I,h⟩
theorem A6{es:qap}{t:TG}{u:Fd}(h1:PG X e t)(h2:A5 X es u)(hs:(assignEach (e::es) X.env).map (·.2)=assign e X.env::(assignEach es X.env).map (·.2):=by rfl):A5 X (e::es) (OJ t u):=by
 intro pins s σ H vs us Q I r h;obtain⟨v,vr,e1,h⟩:=h;subst e1;cases r with
 |cons r rr=>rw[hs];refine assignInOrder_cons (bJ (h1 pins s σ H _ _ _ I r h) λ_ s1 ⟨σ1,H1,I1,q1⟩=>?_);exact h2 pins s1 σ1 H1 _ _ Q I1 rr q1
def UB(K:qaf)(n:Nat)(t:Fd):TG:=λv σ H Q=>∃a xs,v=.ref a/\dy K H a xs/\xs.length=n/\t xs σ H Q
theorem Kh{es:qap}{t:Fd}(hc:X.calm=true)(h:A5 X es t)(hn:(assignEach es X.env).length=n:=by rfl)(UC:(assignEach es X.env).findIdx? (·.1)=none:=by rfl):PG X (.Tuple es k pos) (UB X.K n t):=by intro pins s σ H v u Q I r hw;obtain⟨a,xs,e1,hq,hl,hw⟩:=hw;subst e1;cases r;obtain⟨aH,rv,ht,hz⟩:=I.tuple hq;refine assign_Tuple_tuple (I.ok.hd hc) ht (by simp[hn,<- hl,rv.length]) UC λh' hx=>?_;have I1:Inv X pins σ H {s with heap:=h'}:=I.kept (t':=s.toks) λb o e=>hx b o (iG (dG e)) e;exact h pins _ σ H xs _ Q I1 (by simpa using rv) hw
def UD(to ti:TE)(t:Kg):TG:=λv σ H Q=>to σ H λo H1=>ti σ H1 λi H2=>t o i v H2 λH3=>Q σ H3
theorem Ki{o i:Expr}{to ti:TE}{t:Kg}(ho:PE X o to)(hi:PE X i ti)(hs:OI X t)(ha:∀v,assign (.Subscript o i pos) X.env v=(do
    let ov <- holding [v] (eval o X.env)
    let iv <- holding [v,ov] (eval i X.env)
    standAt pos
    holding [v,ov,iv] (setItem ov iv v)
    release [v,ov,iv] []):=by intro _;rfl):PG X (.Subscript o i pos) (UD to ti t):=by
 intro pins s σ H v u Q I r h;rw[ha];refine wpAny_bind (wpAny_holding (bJ (ho pins s σ H _ I h) λov s1 ⟨x,H1,I1,r1,q1⟩=>?_));refine wpAny_bind (wpAny_holding (bJ (hi pins s1 σ H1 _ I1 q1) λiv s2 ⟨y,H2,I2,r2,q2⟩=>?_));refine wpAny_bind (wpAny_standAt (wpAny_bind (wpAny_holding (bJ (hs pins s2 σ H2 x y v ov iv u _ I2 r1 r2 r q2) λ_ s3 ⟨H3,I3,q3⟩=>?_))));exact wpAny_release ⟨σ,H3,I3,q3⟩
def OL(te:TE)(g:TG):TS:=λD σ H=>te σ H λx H1=>g x σ H1 D.nx
theorem A7{tg:Expr}{te:TE}{g:TG}(he:PE X e te)(hg:PG X tg g)(hs:swapsWithSole [tg] e pos.line X.env=pure false:=by rfl)(hw:swappedStores [tg] e X.env=pure none:=by rfl)(h1:(assignEach [tg] X.env).map (·.2)=[assign tg X.env]:=by rfl):PS X (.Assign [tg] e pos) (OL te g):=by intro pins s σ H D I h;refine wpAny_Assign_stores (bJ (he pins s σ H _ I h) λv s1 ⟨x,H1,I1,r1,q1⟩=>?_) hs hw;rw[h1];exact bJ (hg pins s1 σ H1 x v _ I1 r1 q1) λ_ s2 q=>q
theorem pU{te:TE}(hN:X.N.Nodup)(hi:X.N[i]?=some x)(hx:Loc X.env.scope x)(he:PE X e te)(hs:swapsWith e (some (.Name x pos')) pos.line X.env=pure false:=by rfl)(hf:X.fn x=true\/X.env.scope.names.lookup x=some .local:=by first|exact .inl rfl|exact .inr rfl|assumption) :
  PS X (.Assign [.Name x pos'] e pos) (OL te (sx i)):=by
 intro pins s σ H D I h;refine wpAny_Assign_Name (bJ (he pins s σ H _ I h) λv s1 ⟨y,H1,I1,r1,q1⟩=>?_) hs;exact lJ I1 hN hi hx r1 (λs2 I2=>⟨_,H1,I2,q1⟩) hf
def UE(i:Nat)(te:TE)(ti:Uz):TS:=λD σ H=>∃x,σ[i]?=some (some x)/\te σ H λy H1=>ti x y H1 λz H2=>D.nx (σ.set i (some z)) H2
theorem Kj{te:TE}{op:Operator}{ti:Uz}(hN:X.N.Nodup)(hi:X.N[i]?=some x)(hx:Loc X.env.scope x)(he:PE X e te)(ho:Yl X op ti)(hf:X.fn x=true\/X.env.scope.names.lookup x=some .local:=by first|exact .inl rfl|exact .inr rfl|assumption) :
  PS X (.AugAssign (.Name x pos') op e pos) (UE i te ti):=by
 intro pins s σ H D I h;obtain⟨v,e1,h⟩:=h;obtain⟨m,hn,hl⟩:=I.loc;have Ym:ko X.env.scope x:=by obtain k|k:=hx;exact .inl k;exact .inr (.inl k)
 obtain⟨u,r,l⟩:=hl i x v hi e1 Ym;refine wpAny_AugAssign_Name ?_;have go:wpAny (model X.prog X.w) X.A (eval e X.env) (λw s₂=>wpAny (model X.prog X.w) X.A (inplaceOp op u w) (λr s₃=>wpAny (model X.prog X.w) X.A (storeName X.env x r) (λ_=>SP X pins D .next) X.xe s₃) X.xe s₂) X.xe s:=by refine bJ (he pins s σ H _ I h) λw s1 ⟨y,H1,I1,r1,q1⟩=>?_;refine bJ (ho pins s1 σ H1 v y u w _ I1 r r1 q1) λz s2 ⟨zv,H2,I2,r2,q2⟩=>?_;exact lJ I2 hN hi hx r2 (λs3 I3=>⟨_,H2,I3,q2⟩) hf
 obtain⟨hk,hm⟩|⟨hk,c,hc,xb⟩:=l
 exact wpAny_loadName_local I.ok.kind hk hn hm go;obtain hk|hk:=hk
 exact wpAny_loadName_cell I.ok.kind hk hc xb go;obtain k|k:=hx
 have:X.env.scope.names.lookup x=some .free:=hk;rw[k] at this;cases this;have:X.env.scope.names.lookup x=some .free:=hk;rw[k] at this;cases this
end
section
variable{X:Cx}
def Kk(c:TT)(tb:TS):TS:=λD σ H=>∃W:Nat->St->Hp->Prop,(∃m,W m σ H)/\∀m σ H,W m σ H ->
 c σ H λb H1=>if b=true then ∃N:St->Hp->Prop,(∀σ' H',N σ' H'->∃m',m'<m/\W m' σ' H')/\tb {D with nx:=N,ct:=N,bk:=D.nx} σ H1 else D.nx σ H1
theorem sy{body:qaq}{tc:TT}{tb:TS}(hp:PassesOwn (model X.prog X.w) X.A X.env X.xe)(hc:PT X c tc)(hb:ik X body tb):PS X (.While c body [] pos) (Kk tc tb):=by
 intro pins s σ H D I h;obtain⟨W,⟨m0,w0⟩,turn⟩:=h;refine wpAny_While (codeAny_whileLoop (λn s'=>∃σ' H',Inv X pins σ' H' s'/\W n σ' H') ?_ m0 ⟨σ,H,I,w0⟩);rintro n s1 ⟨σ1,H1,I1,w1⟩;refine wpAny_passesOwn hp (bJ (hc pins s1 σ1 H1 _ I1 (turn n σ1 H1 w1)) λb s2 ⟨H2,I2,q2⟩=>?_);cases b with
 |true=>
  obtain⟨N,hN,q2⟩:=q2;rw[if_pos rfl];refine wpAny_passesOwn hp (bJ (hb pins s2 σ1 H2 _ I2 q2) λf s3 q3=>?_);cases f with
  |next=>obtain⟨σ3,H3,I3,n3⟩:=q3;obtain⟨m',hm,w3⟩:=hN σ3 H3 n3;exact⟨m',hm,σ3,H3,I3,w3⟩
  |cont=>obtain⟨σ3,H3,I3,n3⟩:=q3;obtain⟨m',hm,w3⟩:=hN σ3 H3 n3;exact⟨m',hm,σ3,H3,I3,w3⟩
  |brk=>exact q3
  |ret v=>exact q3
 |false=>rw[if_neg dO];exact wpAny_execs_nil ⟨σ1,H2,I2,q2⟩
end
structure It where
 go:Nat->Hp->Prop
 NR:Nat->Hp->V->Hp->Prop
 stop:Nat->Hp->Prop
def jB(X:Cx)(pins:qaa)(H:Hp)(b:Addr):Prop :=
 H b=none/\b≠X.env.locals/\b∉X.fs/\(b∈X.ex\/X.s₀.heap.objs.size<=b)/\(∀x c,X.env.cells.lookup x=some c->c≠b)/\∀p∈X.pn++pins,p.1≠b
theorem Inv.lK{X:Cx}{pins:qaa}{σ:St}{H H':Hp}{b:Addr}(I:Inv X pins σ H s)(hb:s.heap.objs.size<=b)(hn:H' b=none):jB X pins H' b:=by refine⟨hn,EA (nK I.lt hb),I.Um hb,.inr (km I.sz hb),λx c e z=>?_,λp hp z=>?_⟩;obtain⟨v,q⟩:=I.cell x c e;exact absurd (nK q.lt (by rw[z];exact hb)) (AF _);exact absurd (nK (dG (I.pin p hp).1) (by rw[z];exact hb)) (AF _)
structure Turn(P:Program)(w:World)(K:qaf)(tg:Expr)(J:It)(fp:qah)(it:Addr)(tn:Nat->Heap->Prop):Prop where
 mem:it∈fp
 obj:∀i h,tn i h->∀b∈fp,∃o,h.get? b=some o/\∀v,o.data≠.cell v
 keep:∀i h h',tn i h->(∀b∈fp,∀o,h.get? b=some o->h'.get? b=some o)->tn i h'
 item:∀(X:Cx),X.prog=P->X.w=w->X.K=K->X.calm=true->∀(i:Nat)(pins:qaa)(s:Shared)(σ:St)(H:Hp)(E:qad),Inv X pins σ H s->(∀b∈fp,jB X pins H b)->tn i s.heap->J.go i H ->
  wpAny (model P w) X.A (pyNext (.ref it)) (λr s1=>∃u,r=some u /\
   wpAny (model P w) X.A (letOwnedTupleGo tg (.ref it) u) (λ_ s2=>∃x H',Inv X pins σ H' s2/\RelV x u/\J.NR i H x H'/\tn (i+1) s2.heap/\∀b∈fp,H' b=none) E s1) E s
 done:∀(X:Cx),X.prog=P->X.w=w->X.K=K->X.calm=true->∀(i:Nat)(pins:qaa)(s:Shared)(σ:St)(H:Hp)(E:qad),Inv X pins σ H s->(∀b∈fp,jB X pins H b)->tn i s.heap->J.stop i H ->
  wpAny (model P w) X.A (pyNext (.ref it)) (λr s1=>r=none/\Inv X pins σ H s1) E s
 self:∀(A:Around)(i:Nat)(s:Shared)(Q:qad)(E:qad),tn i s.heap->Q (.ref it) s->wpAny (model P w) A (pyIter (.ref it)) Q E s
abbrev TI:=St->Hp->(It->Hp->Prop)->Prop
def WZ(X:Cx)(pins:qaa)(σ:St)(tg:Expr)(R:It->Hp->Prop)(UG:Value)(s2:Shared):Prop :=
 ∃(it:Addr)(fp:qah)(tn:Nat->Heap->Prop)(J:It)(H':Hp),UG=.ref it/\Inv X pins σ H' s2/\Turn X.prog X.w X.K tg J fp it tn/\tn 0 s2.heap/\(∀b∈fp,jB X pins H' b)/\R J H'
def PI(X:Cx)(tg iter:Expr)(wi:TI):Prop :=
 ∀(pins:qaa)(s:Shared)(σ:St)(H:Hp)(R:It->Hp->Prop),Inv X pins σ H s->wi σ H R ->
  wpAny (model X.prog X.w) X.A (eval iter X.env) (λv s1=>wpAny (model X.prog X.w) X.A (pyIter v) (WZ X pins σ tg R) X.xe s1) X.xe s
theorem sA{M:Model}{E:qad}{tg:Expr}{n:String}{vs:Array Value}{Q:Unit->Shared->Prop}(ho:s.heap.get? it=some o)(hc:o.cls=.type n)(hd:o.data=.fields vs)(hn:["enumerate","zip","dict_itemiterator","dict_reverseitemiterator","odict_iterator","itertools.zip_longest","itertools.pairwise"].contains n=false)(hQ:Q () s):wpAny M A (letOwnedTupleGo tg (.ref it) u) Q E s:=by
 unfold letOwnedTupleGo;cases tg<;>first
  |exact wpAny_pure hQ
  | (cases u<;>first
      |exact wpAny_pure hQ
      | (refine wpAny_bind (wpAny_load ho ?_)
         rw[hc,hd];show wpAny M A (if (["enumerate","zip","dict_itemiterator","dict_reverseitemiterator","odict_iterator","itertools.zip_longest","itertools.pairwise"].contains n && vs[0]?==some (rawInt _))=true then _ else _) Q E s;rw[if_neg (by intro h;rw[hn,Ey] at h;cases h)];exact wpAny_pure hQ))
def UH(K:qaf)(a:Addr):It :=
 ⟨λi H=>∃xs x,fq K H a xs/\xs[i]?=some x,λi H x H'=>H'=H/\∀xs,fq K H a xs->xs[i]?=some x,λi H=>∃xs,fq K H a xs/\xs.length<=i⟩
def UI(K:qaf)(a:Addr):It :=
 ⟨λi H=>∃xs x,dy K H a xs/\xs[i]?=some x,λi H x H'=>H'=H/\∀xs,dy K H a xs->xs[i]?=some x,λi H=>∃xs,dy K H a xs/\xs.length<=i⟩
def SV(lo:Int)(n:Nat):It:=⟨λi _=>i<n,λi H x H'=>H'=H/\x=.int (lo+i),λi _=>n<=i⟩
theorem yP{K:qaf}{tg:Expr}(a it:Addr):Turn P w K tg (UH K a) [it] it (λi h=>h.IsListIter it a i) where
 mem:=by simp
 obj:=λi h st b hb=>by
  have e:b=it:=by simpa using hb
  subst e;obtain⟨o,e,c,d⟩:=st;exact⟨o,e,λv z=>by rw[d] at z;cases z⟩
 keep:=λi h h' st k=>st.at λo e=>k it (by simp) o e
 item:=by intro X hP hw hK hc i pins s σ H E I hf st hg;subst hP hw hK;obtain⟨xs,x,hq,hx⟩:=hg;obtain⟨aH,rv,p,hz⟩:=I.list hq;obtain⟨u,hu,ru⟩:=rv.get hx;obtain⟨f0,f1,f2,f3,f4,f5⟩:=hf it (by simp);refine wpAny_pyNext_list_item st p.isList (x:=u) (by simpa using hu) λh' st' sb=>?_;have I1:Inv X pins σ H {s with heap:=h'}:=I.turned (t':=s.toks) (λb o hb e=>(sb.2 b hb).trans e) f0 f1 f3 f4 f5;obtain⟨o,e,c,d⟩:=id st';exact⟨u,rfl,sA (s:={s with heap:=h'}) e c d (by decide) ⟨x,H,I1,ru,⟨rfl,λys hy=>by rw[I.iN hy hq];exact hx⟩,st',λb hb=>(hf b hb).1⟩⟩
 done:=by intro X hP hw hK hc i pins s σ H E I hf st hg;subst hP hw hK;obtain⟨xs,hq,hx⟩:=hg;obtain⟨aH,rv,p,hz⟩:=I.list hq;obtain⟨f0,f1,f2,f3,f4,f5⟩:=hf it (by simp);have hl:=rv.length;exact wpAny_pyNext_list_end (I.ok.hd hc) st p.isList (by simp;omega) λh' eb=>⟨rfl,I.turned (t':=s.toks) (λb o hb e=>eb b o hb e) f0 f1 f3 f4 f5⟩
 self:=λ_ _ _ _ _ st h=>wpAny_pyIter_listiter st h
theorem u9{K:qaf}{tg:Expr}(a it:Addr):Turn P w K tg (UI K a) [it] it (λi h=>h.IsTupleIter it a i) where
 mem:=by simp
 obj:=λi h st b hb=>by
  have e:b=it:=by simpa using hb
  subst e;obtain⟨o,e,c,d⟩:=st;exact⟨o,e,λv z=>by rw[d] at z;cases z⟩
 keep:=λi h h' st k=>st.at λo e=>k it (by simp) o e
 item:=by intro X hP hw hK hc i pins s σ H E I hf st hg;subst hP hw hK;obtain⟨xs,x,hq,hx⟩:=hg;obtain⟨aH,rv,p,hz⟩:=I.tuple hq;obtain⟨u,hu,ru⟩:=rv.get hx;obtain⟨f0,f1,f2,f3,f4,f5⟩:=hf it (by simp);refine wpAny_pyNext_tuple_item st (show s.heap.IsTuple a aH.toArray from p) (x:=u) (by simpa using hu) λh' st' sb=>?_;have I1:Inv X pins σ H {s with heap:=h'}:=I.turned (t':=s.toks) (λb o hb e=>(sb.2 b hb).trans e) f0 f1 f3 f4 f5;obtain⟨o,e,c,d⟩:=id st';exact⟨u,rfl,sA (s:={s with heap:=h'}) e c d (by decide) ⟨x,H,I1,ru,⟨rfl,λys hy=>by rw[I.jz hy hq];exact hx⟩,st',λb hb=>(hf b hb).1⟩⟩
 done:=by intro X hP hw hK hc i pins s σ H E I hf st hg;subst hP hw hK;obtain⟨xs,hq,hx⟩:=hg;obtain⟨aH,rv,p,hz⟩:=I.tuple hq;obtain⟨f0,f1,f2,f3,f4,f5⟩:=hf it (by simp);have hl:=rv.length;exact wpAny_pyNext_tuple_end (I.ok.hd hc) st (show s.heap.IsTuple a aH.toArray from p) (by simp;omega) λh' eb=>⟨rfl,I.turned (t':=s.toks) (λb o hb e=>eb b o hb e) f0 f1 f3 f4 f5⟩
 self:=λ_ _ _ _ _ st h=>wpAny_pyIter_tupleiter st h
theorem u_{K:qaf}{tg:Expr}(it:Addr)(lo:Int)(n:Nat):Turn P w K tg (SV lo n) [it] it (λi h=>IsRangeIter h it (lo+(i:Nat) * 1) ((n:Int)-(i:Nat)) 1) where
 mem:=by simp
 obj:=λi h st b hb=>by
  have e:b=it:=by simpa using hb
  subst e;exact⟨_,st,λv z=>by have z':Data.fields _=Data.cell v:=z;cases z'⟩
 keep:=λi h h' st k=>k it (by simp) _ st
 item:=by intro X hP hw hK hc i pins s σ H E I hf st hg;subst hP hw hK;obtain⟨f0,f1,f2,f3,f4,f5⟩:=hf it (by simp);have W:=Walks.range (prog:=X.prog) (w:=X.w) (I.ok.hd hc) it lo 1 n;refine W.item i s _ _ hg st λv h' tk hv st' kk=>?_;obtain⟨t,rfl⟩:=hv;have I1:Inv X pins σ H {s with heap:=h',toks:=tk}:=I.turned (λb o hb e=>kk b o (by simpa using hb) e) f0 f1 f3 f4 f5;refine⟨_,rfl,sA (s:={s with heap:=h',toks:=tk}) (n:="range_iterator") st' rfl rfl (by decide) ⟨.int (lo+i),H,I1,⟨t,?_⟩,⟨rfl,rfl⟩,st',λb hb=>(hf b hb).1⟩⟩;rw[Int.mul_one]
 done:=by intro X hP hw hK hc i pins s σ H E I hf st hg;subst hP hw hK;obtain⟨f0,f1,f2,f3,f4,f5⟩:=hf it (by simp);exact wpAny_pyNext_range_end (I.ok.hd hc) st (by have:n<=i:=hg;omega) λh' eb=>⟨rfl,I.turned (t':=s.toks) (λb o hb e=>eb b o hb e) f0 f1 f3 f4 f5⟩
 self:=λ_ _ _ _ _ st h=>wpAny_pyIter_rangeiter st h
section
variable{X:Cx}{tg:Expr}
theorem A8{pins:qaa}{σ:St}{H:Hp}{R:It->Hp->Prop}{E:qad}{lo hi:Int}{t u v:Tok}{tk:Nat}(I:Inv X pins σ H s)(h1 : -(2 ^ 62)<=lo)(h2:lo<2 ^ 62)(h3 : -(2 ^ 62)<=hi)(h4:hi<2 ^ 62)(q:R (SV lo (hi-lo).toNat) H):wpAny (model X.prog X.w) X.A (pyIter (.ref s.heap.objs.size)) (WZ X pins σ tg R) E {s with heap:=s.heap.push {cls:=.type "range",data:=.fields #[.int lo t,.int hi u,.int 1 v]},toks:=tk}:=by
 refine wpAny_pyIter_range (IsRange.new ..) (small_one h1 h2 h3 h4) ?_;have I1:Inv X pins σ H {s with heap:=s.heap.push {cls:=.type "range",data:=.fields #[.int lo t,.int hi u,.int 1 v]},toks:=tk}:=I.kept λb o e=>dg _ e;refine⟨(s.heap.push {cls:=.type "range",data:=.fields #[.int lo t,.int hi u,.int 1 v]}).objs.size,[(s.heap.push {cls:=.type "range",data:=.fields #[.int lo t,.int hi u,.int 1 v]}).objs.size],_,_,H,rfl,
  I1.kept (t':=tk) λb o e=>dg _ e,u_ _ lo (hi-lo).toNat,?_,λb hb=>?_,q⟩
 have e1:lo+((0:Nat):Int) * 1=lo:=by simp
 have e2:(((hi-lo).toNat:Nat):Int)-((0:Nat):Int)=Builtin.Range.rangeSize lo hi 1:=by rw[rangeSize_one];split<;>omega
 show IsRangeIter _ _ (lo+((0:Nat):Int) * 1) ((((hi-lo).toNat:Nat):Int)-((0:Nat):Int)) 1;rw[e1,e2];exact gN _ rfl;have e:b=(s.heap.push {cls:=.type "range",data:=.fields #[.int lo t,.int hi u,.int 1 v]}).objs.size:=by simpa using hb
 subst e;exact I1.lK (bG _) (I1.ba.fresh (bG _))
def OM(ta:TA):TI:=λσ H R=>ta σ H λvs H1=>∃j:Int,vs=[.int j]/\-(2 ^ 62)<=j/\j<2 ^ 62/\R (SV 0 j.toNat) H1
theorem yQ{a:Expr}{ta:TA}(hg:Gl X "range")(hm:X.mg "range"=none)(ha:PA X [a] ta)(hs:starEach [a] X.env=[(false,eval a X.env)]:=by rfl):PI X tg (.Call (.Name "range" p) [a] [] pos) (OM ta):=by
 intro pins s σ H R I h;refine Call_ (jy I hg hm boot_range (Sk (bJ (ha pos pins s σ H _ I h) λus s1 ⟨vs,H1,I1,r1,q1⟩=>?_) hs rfl));obtain⟨j,e,q1,q2,q⟩:=q1;subst e;cases r1 with
 |cons r rr=>cases rr;obtain⟨t,rfl⟩:=r;exact call_range_1 (A8 I1 (by omega) (by omega) q1 q2 (by simpa using q))
def ON(wi:TI)(g:TG)(tb:TS):TS:=λD σ H=>wi σ H λJ H1=>∃W:Nat->Nat->St->Hp->Prop,(∃m,W 0 m σ H1)/\∀i m σ H,W i m σ H ->
 (J.stop i H/\D.nx σ H)\/(J.go i H/\∃N:St->Hp->Prop,(∀σ' H',N σ' H'->∃m',m'<m/\W (i+1) m' σ' H')/\∀x H',J.NR i H x H'->g x σ H' λσ2 H2=>tb {D with nx:=N,ct:=N,bk:=D.nx} σ2 H2)
noncomputable def lL(fp:qah)(h:Heap):qaa:=fp.filterMap λb=>(h.get? b).map λo=>(b,o)
theorem fu{fp:qah}{b:Addr}(hb:b∈fp)(e:h.get? b=some o):(b,o)∈lL fp h:=SE.mpr ⟨b,hb,by rw[e];rfl⟩
theorem yR{fp:qah}{p:Addr×Obj}(hp:p∈lL fp h):p.1∈fp/\h.get? p.1=some p.2:=by
 obtain⟨b,hb,e⟩:=SE.mp hp;cases q:h.get? b with
 |none=>rw[q] at e;cases e
 |some o=>rw[q] at e;have e':(b,o)=p:=Option.some.inj e;subst e';exact⟨hb,q⟩
theorem Inv.pinned{pins:qaa}{σ:St}{H:Hp}{fp:qah}(I:Inv X pins σ H s)(hf:∀b∈fp,jB X pins H b)(ho:∀b∈fp,∃o,s.heap.get? b=some o/\∀v,o.data≠.cell v):Inv X (pins++lL fp s.heap) σ H s :=
 I.w_ λp hp=>(g7.mp hp).elim (λz=>I.pin p (g6 _ z)) λz=>by obtain⟨hb,e⟩:=yR z;obtain⟨f0,f1,f2,_⟩:=hf p.1 hb;obtain⟨o,e',d⟩:=ho p.1 hb;rw[e] at e';cases e';exact⟨e,f0,f1,f2,d⟩
theorem Inv.iP{pins pl:qaa}{σ:St}{H:Hp}(I:Inv X (pins++pl) σ H s):Inv X pins σ H s:=I.w_ λp hp=>I.pin p (g6 _ (hU _ hp))
theorem pV{body:qaq}{wi:TI}{g:TG}{tb:TS}(hp:PassesOwn (model X.prog X.w) X.A X.env X.xe)(hc:X.calm=true)(hi:PI X tg iter wi)(hg:PG X tg g)(hb:ik X body tb)(hs:∀x,foldedSetIterable iter X.env x=pure x:=by intro _;rfl):PS X (.For tg iter body [] pos) (ON wi g tb):=by
 intro pins s σ H D I h;refine wpAny_For (bJ (hi pins s σ H _ I h) λv s1 h1=>bJ h1 λUG s2 h2=>?_) hs;obtain⟨it,fp,tn,J,H2,e,I2,T,pW,f2,W,⟨m0,w0⟩,turn⟩:=h2;subst e;have Kl:∀{H':Hp},(∀b∈fp,H' b=none)->∀b∈fp,jB X pins H' b:=λhn b hb=>⟨hn b hb,(f2 b hb).2⟩;refine codeAny_forLoop_any (λn s'=>∃i σ' H',Inv X pins σ' H' s'/\tn i s'.heap/\(∀b∈fp,H' b=none)/\W i n σ' H') ?_ m0 ⟨0,σ,H2,I2,pW,λb hb=>(f2 b hb).1,w0⟩;rintro n s3 ⟨i,σ3,H3,I3,uQ,OQ,w3⟩;rcases turn i n σ3 H3 w3 with⟨stop,qn⟩|⟨go,N,hN,step⟩
 . refine wpAny_passesOwn hp (bJ (T.done X rfl rfl rfl hc i pins s3 σ3 H3 X.xe I3 (Kl OQ) uQ stop) λr s4 ⟨hr,I4⟩=>?_);subst hr;exact wpAny_execs_nil ⟨σ3,H3,I4,qn⟩
 refine wpAny_passesOwn hp (bJ (T.item X rfl rfl rfl hc i pins s3 σ3 H3 X.xe I3 (Kl OQ) uQ go) λr s4 ⟨u,hr,h4⟩=>?_);subst hr;refine wpAny_passesOwn hp (bJ h4 λ_ s5 ⟨x,H5,I5,r5,y5,Iy,UJ⟩=>?_);have Yn:=I5.pinned (Kl UJ) (T.obj _ _ Iy);refine wpAny_passesOwn hp (bJ (hg _ s5 σ3 H5 x u _ Yn r5 (step x H5 y5)) λ_ s6 ⟨σ6,H6,I6,q6⟩=>?_);refine wpAny_passesOwn hp (bJ (hb _ s6 σ6 H6 _ I6 q6) λf s7 q7=>?_);have again:∀{σ7:St}{H7:Hp},Inv X (pins++lL fp s5.heap) σ7 H7 s7->N σ7 H7->∃m,m<n/\∃i σ' H',Inv X pins σ' H' s7/\tn i s7.heap/\(∀b∈fp,H' b=none)/\W i m σ' H':=λ{σ7 H7} I7 n7=>by obtain⟨m',hm,w7⟩:=hN σ7 H7 n7;refine⟨m',hm,i+1,σ7,H7,I7.iP,T.keep _ _ _ Iy λb hb o e=>(I7.pin (b,o) (g6 _ (g6 _ (fu hb e)))).1,λb hb=>?_,w7⟩;obtain⟨o,e,d⟩:=T.obj _ _ Iy b hb;exact (I7.pin (b,o) (g6 _ (g6 _ (fu hb e)))).2.1
 cases f with
 |brk=>obtain⟨σ7,H7,I7,q7⟩:=q7;exact⟨σ7,H7,I7.iP,q7⟩
 |ret v=>obtain⟨x7,σ7,H7,I7,r7,q7⟩:=q7;exact⟨x7,σ7,H7,I7.iP,r7,q7⟩
 |_=>obtain⟨σ7,H7,I7,n7⟩:=q7;exact again I7 n7
end
abbrev R2:=V->V->Hp->VK->Prop
def dI(X:Cx)(f:Value->Value->Sem Value)(r:R2):Prop :=
 ∀(pins:qaa)(s:Shared)(σ:St)(H:Hp)(x y:V)(v u:Value)(Q:VK),Inv X pins σ H s->RelV x v->RelV y u->r x y H Q ->
  wpAny (model X.prog X.w) X.A (f v u) (EP X pins σ Q) X.xe s
def UK(X:Cx)(f:Value->Sem Value)(r:V->Hp->VK->Prop):Prop :=
 ∀(pins:qaa)(s:Shared)(σ:St)(H:Hp)(x:V)(v:Value)(Q:VK),Inv X pins σ H s->RelV x v->r x H Q ->
  wpAny (model X.prog X.w) X.A (f v) (EP X pins σ Q) X.xe s
def cL(X:Cx)(f:Value)(r:List V->Hp->VK->Prop):Prop :=
 ∀(pins:qaa)(s:Shared)(σ:St)(H:Hp)(xs:List V)(us:qag)(Q:VK),Inv X pins σ H s->Vals xs us->r xs H Q ->
  wpAny (model X.prog X.w) X.A (call f us) (EP X pins σ Q) X.xe s
def OR(r:R2)(ta tb:TE):TE:=λσ H Q=>ta σ H λx H1=>tb σ H1 λy H2=>r x y H2 Q
def Yo(r:V->Hp->VK->Prop)(ta:TE):TE:=λσ H Q=>ta σ H λx H1=>r x H1 Q
def rI(C:Int->Int->Prop)(g:Int->Int->V):R2:=λx y H Q=>∃i j,x=.int i/\y=.int j/\C i j/\Q (g i j) H
def nH(g:Int->Int->V):R2:=λx y H Q=>∃i j,x=.int i/\y=.int j/\Q (g i j) H
def rU(g:Int->V):V->Hp->VK->Prop:=λx H Q=>∃i,x=.int i/\Q (g i) H
section
variable{X:Cx}{a b:Expr}{ta tb tc:TE}
theorem Km(ha:PE X a ta)(hb:PE X b tb){pins:qaa}{σ:St}{H:Hp}{R:V->V->Hp->Prop}(I:Inv X pins σ H s)(h:ta σ H λx H1=>tb σ H1 λy H2=>R x y H2){Q:qad}{f:Value->Value->Sem Value}(hf:∀v u s2 x y H2,Inv X pins σ H2 s2->RelV x v->RelV y u->R x y H2->wpAny (model X.prog X.w) X.A (f v u) Q X.xe s2) :
  wpAny (model X.prog X.w) X.A (eval a X.env) (λv s₁=>wpAny (model X.prog X.w) X.A (eval b X.env) (λu s₂=>wpAny (model X.prog X.w) X.A (f v u) Q X.xe s₂) X.xe s₁) X.xe s:=by
 refine bJ (ha pins s σ H _ I h) λv s1 ⟨x,H1,I1,r1,q1⟩=>?_;refine bJ (hb pins s1 σ H1 _ I1 q1) λu s2 ⟨y,H2,I2,r2,q2⟩=>?_;exact hf v u s2 x y H2 I2 r1 r2 q2
theorem Iz{op:Operator}{r:R2}(ho:dI X (binaryOp op) r)(ha:PE X a ta)(hb:PE X b tb):PE X (.BinOp a op b pos) (OR r ta tb):=by intro pins s σ H Q I h;exact wpAny_BinOp (Km ha hb I h λv u s2 x y H2 I2 rx ry q=>ho pins s2 σ H2 x y v u Q I2 rx ry q)
theorem OS{op:UnaryOp}{r:V->Hp->VK->Prop}(ho:UK X (unaryOp op) r)(ha:PE X a ta):PE X (.UnaryOp op a pos) (Yo r ta):=by intro pins s σ H Q I h;exact UnaryOp_ (bJ (ha pins s σ H _ I h) λv s1 ⟨x,H1,I1,r1,q1⟩=>ho pins s1 σ H1 x v Q I1 r1 q1)
theorem NS{f:Value->Value->Sem Value}{C:Int->Int->Prop}{g:Int->Int->Int}(rule:∀(i j:Int) (t u:Tok) (s:Shared) (Q:qad) (E:qad),C i j->Q (.int (g i j) s.toks) {s with toks:=s.toks+1}->wpAny (model X.prog X.w) X.A (f (.int i t) (.int j u)) Q E s) :
  dI X f (rI C λi j=>.int (g i j)):=by
 intro pins s σ H x y v u Q I rx ry h;obtain⟨i,j,rfl,rfl,hc,q⟩:=h;obtain⟨t,rfl⟩:=rx;obtain⟨t',rfl⟩:=ry;exact rule i j t t' s _ _ hc ⟨.int (g i j),H,I.tok _,⟨_,rfl⟩,q⟩
theorem yS{f:Value->Value->Sem Value}{g:Int->Int->Int}(rule:∀(i j:Int) (t u:Tok) (s:Shared) (Q:qad) (E:qad),Q (.int (g i j) s.toks) {s with toks:=s.toks+1}->wpAny (model X.prog X.w) X.A (f (.int i t) (.int j u)) Q E s) :
  dI X f (nH λi j=>.int (g i j)):=by
 intro pins s σ H x y v u Q I rx ry h;obtain⟨i,j,rfl,rfl,q⟩:=h;obtain⟨t,rfl⟩:=rx;obtain⟨t',rfl⟩:=ry;exact rule i j t t' s _ _ ⟨.int (g i j),H,I.tok _,⟨_,rfl⟩,q⟩
theorem Kn{f:Value->Value->Sem Value}{g:Int->Int->Bool}(rule:∀(i j:Int) (t u:Tok) (s:Shared) (Q:qad) (E:qad),Q (.bool (g i j)) s->wpAny (model X.prog X.w) X.A (f (.int i t) (.int j u)) Q E s) :
  dI X f (nH λi j=>.bl (g i j)):=by
 intro pins s σ H x y v u Q I rx ry h;obtain⟨i,j,rfl,rfl,q⟩:=h;obtain⟨t,rfl⟩:=rx;obtain⟨t',rfl⟩:=ry;exact rule i j t t' s _ _ ⟨.bl (g i j),H,I,rfl,q⟩
def OT(i j:Int):Prop:=0<j/\j<1073741824
def Fh(i j:Int):Prop:=0<=j/\j<=1000000/\i.natAbs<2 ^ 64
def yT(i j:Int):Prop:=(-(2 ^ 64)<i/\i<2 ^ 64)\/(-(2 ^ 64)<j/\j<2 ^ 64)
theorem yT.ok{i j:Int}(h:yT i j):IntMulOk i j:=by
 obtain⟨h1,h2⟩|⟨h1,h2⟩:=h
 exact .of_left (intBits_le_64 h1 h2);exact .of_right (intBits_le_64 h1 h2)
theorem va(k:Nat):(0:Int)<=2 ^ k:=by rw[two_pow_cast];exact SF _
theorem Ko:dI X (binaryOp .Add) (nH λi j=>.int (i+j)):=yS λ_ _ _ _ _ _ _ q=>add_int q
theorem Kq:dI X (binaryOp .Sub) (nH λi j=>.int (i-j)):=yS λ_ _ _ _ _ _ _ q=>sub_int q
theorem Kr:dI X (binaryOp .Mult) (rI yT λi j=>.int (i * j)):=NS λ_ _ _ _ _ _ _ hc q=>mul_int q hc.ok
theorem Fi:dI X (binaryOp .FloorDiv) (rI OT λi j=>.int (i / j)):=NS λi j _ _ _ _ _ hc q=>by have h1:(0:Int)<j:=hc.1;have h2:j<1073741824:=hc.2;exact floordiv_int (by omega) (by rw[Int.fdiv_eq_ediv_of_nonneg i (by omega)];exact q) (.inl (PyProof.noPylong_small (by omega)))
theorem Ks:dI X (binaryOp .Mod) (rI (λ_ j=>0<j) λi j=>.int (i % j)):=NS λi j _ _ _ _ _ hc q=>by have h1:(0:Int)<j:=hc;exact mod_int' (by omega) (by rw[Int.fmod_eq_emod_of_nonneg i (by omega)];exact q)
theorem Kt:dI X (binaryOp .Pow) (rI Fh λi j=>.int (i ^ j.toNat)):=NS λ_ _ _ _ _ _ _ hc q=>pow_int_small hc.1 hc.2.1 hc.2.2 q
theorem Ku:dI X (binaryOp .LShift) (rI Fh λi j=>.int (i * 2 ^ j.toNat)):=NS λ_ _ _ _ _ _ _ hc q=>lshift_int_small hc.1 hc.2.1 hc.2.2 q
theorem Kv:dI X (binaryOp .RShift) (rI (λ_ j=>0<=j) λi j=>.int (i / 2 ^ j.toNat)):=NS λi j _ _ _ _ _ hc q=>
 rshift_int hc (by rw[Int.fdiv_eq_ediv_of_nonneg i (va _)];exact q)
theorem Kw:dI X (binaryOp .BitAnd) (nH λi j=>.int (Builtin.bitAnd i j)):=yS λ_ _ _ _ _ _ _ q=>and_int q
theorem OU:dI X (binaryOp .BitOr) (nH λi j=>.int (Builtin.bitOr i j)):=yS λ_ _ _ _ _ _ _ q=>or_int q
theorem Fj:dI X (inplaceOp .Add) (nH λi j=>.int (i+j)):=yS λ_ _ _ _ _ _ _ q=>iadd_int q
theorem Kx:dI X (inplaceOp .BitOr) (nH λi j=>.int (Builtin.bitOr i j)):=yS λ_ _ _ _ _ _ _ q=>ior_int q
theorem Yp{f:Value->Sem Value}{g:Int->Int}(rule:∀(i:Int) (t:Tok) (s:Shared) (Q:qad) (E:qad),Q (.int (g i) s.toks) {s with toks:=s.toks+1}->wpAny (model X.prog X.w) X.A (f (.int i t)) Q E s) :
  UK X f (rU λi=>.int (g i)):=by
 intro pins s σ H x v Q I rx h;obtain⟨i,rfl,q⟩:=h;obtain⟨t,rfl⟩:=rx;exact rule i t s _ _ ⟨.int (g i),H,I.tok _,⟨_,rfl⟩,q⟩
theorem Kz:UK X (unaryOp .USub) (rU λi=>.int (-i)):=Yp λ_ _ _ _ _ q=>neg_int q
end
section
variable{X:Cx}{a b:Expr}{ta tb tc:TE}
theorem vb{pins:qaa}{σ:St}{H:Hp}{Q:VK}{k k':Bool}(I:Inv X pins σ H s)(q:Q (.bl k) H)(e:k=k'):EP X pins σ Q (.bool k') s:=by subst e;exact⟨.bl k,H,I,rfl,q⟩
theorem OW:dI X (compareOp .Lt) (nH λi j=>.bl (decide (i<j))):=Kn λ_ _ _ _ _ _ _ q=>lt_int q
theorem IA:dI X (compareOp .LtE) (nH λi j=>.bl (decide (i<=j))):=Kn λ_ _ _ _ _ _ _ q=>le_int q
theorem OX:dI X (compareOp .Gt) (nH λi j=>.bl (decide (j<i))):=Kn λ_ _ _ _ _ _ _ q=>gt_int q
theorem yU:dI X (compareOp .In) (λx y H Q=>∃i j,x=.str i/\y=.str j/\Q (.bl (!(Builtin.Str.occurrences j i 0 j.length 1).isEmpty)) H):=by intro pins s σ H x y v u Q I rx ry h;obtain⟨i,j,rfl,rfl,q⟩:=h;obtain⟨t,rfl⟩:=rx;obtain⟨t',rfl⟩:=ry;exact in_str (vb I q rfl)
theorem A9:dI X (compareOp .Is) (λx y H Q=>y=.a9/\Q (.bl (decide (x=.a9))) H):=by
 intro pins s σ H x y v u Q I rx ry h;obtain⟨rfl,q⟩:=h;cases ry;refine is_none_gen (vb I q ?_);cases x<;>first
  | (cases rx;rfl)
  | (obtain⟨t,rfl⟩:=rx;rfl)
theorem Fm:dI X (compareOp .IsNot) (λx y H Q=>y=.a9/\Q (.bl (!decide (x=.a9))) H):=by
 intro pins s σ H x y v u Q I rx ry h;obtain⟨rfl,q⟩:=h;cases ry;refine isnot_none_gen (vb I q ?_);cases x<;>first
  | (cases rx;rfl)
  | (obtain⟨t,rfl⟩:=rx;rfl)
theorem dI.or{f:Value->Value->Sem Value}{r r':R2}(h:dI X f r)(h':dI X f r'):dI X f (λx y H Q=>r x y H Q\/r' x y H Q):=by
 intro pins s σ H x y v u Q I rx ry q;obtain q|q:=q
 exact h pins s σ H x y v u Q I rx ry q;exact h' pins s σ H x y v u Q I rx ry q
theorem fA(b:Expr){op:CmpOp}(h:op≠.In:=by decide)(h2:op≠.NotIn:=by decide):behindInMarks op b=false:=by
 have e1:(op==CmpOp.In)=false:=by cases op<;>first|rfl|exact absurd rfl h
 have e2:(op==CmpOp.NotIn)=false:=by cases op<;>first|rfl|exact absurd rfl h2
 cases b<;>simp[behindInMarks,e1,e2]
theorem Fn{op:CmpOp}{r:R2}(ho:dI X (compareOp op) r)(ha:PE X a ta)(hb:PE X b tb)(hm:behindInMarks op b=false):PE X (.Compare a [op] [b] pos) (OR r ta tb):=by intro pins s σ H Q I h;exact wpAny_Compare1 (Km ha hb I h λv u s2 x y H2 I2 rx ry q=>ho pins s2 σ H2 x y v u Q I2 rx ry q) hm
def IB(t:TE):TT:=λσ H Q=>t σ H λx H'=>∃k,x=.bl k/\Q k H'
theorem Fo{op:CmpOp}{r:R2}(ho:dI X (compareOp op) r)(ha:PE X a ta)(hb:PE X b tb)(hm:behindInMarks op b=false):PT X (.Compare a [op] [b] pos) (IB (OR r ta tb)):=by
 intro pins s σ H Q I h;refine wpAny_isTrue_Compare1 (bJ (ha pins s σ H _ I h) λv s1 ⟨x,H1,I1,r1,q1⟩=>bJ (hb pins s1 σ H1 _ I1 q1) λu s2 ⟨y,H2,I2,r2,q2⟩ =>
  bJ (ho pins s2 σ H2 x y v u _ I2 r1 r2 q2) λc s3 ⟨z,H3,I3,r3,k,e,q3⟩=>?_) hm
 subst e;cases r3;exact wpAny_truthy_bool ⟨H3,I3,q3⟩
def A_(r r':R2)(ta tb tc:TE):TE:=λσ H Q=>ta σ H λx H1=>tb σ H1 λy H2=>r x y H2 λz H3=>∃k,z=.bl k /\
 (if k=true then tc σ H3 λw' H4=>r' y w' H4 Q else Q (.bl false) H3)
theorem Ba{op KA:CmpOp}{r r':R2}(ho:dI X (compareOp op) r)(lH:dI X (compareOp KA) r')(ha:PE X a ta)(hb:PE X b tb)(hc:PE X c tc)(hm:lastMarks [op,KA] [b,c]=false:=by with_unfolding_all rfl):PT X (.Compare a [op,KA] [b,c] pos) (IB (A_ r r' ta tb tc)):=by
 intro pins s σ H Q I h;refine isTrue_chain (bJ (ha pins s σ H _ I h) λv s1 ⟨x,H1,I1,r1,q1⟩=>test_link (bJ (hb pins s1 σ H1 _ I1 q1) λu s2 ⟨y,H2,I2,r2,q2⟩ =>
  bJ (ho pins s2 σ H2 x y v u _ I2 r1 r2 q2) λd s3 ⟨z,H3,I3,r3,k,e,q3⟩=>?_)) hm
 subst e;cases r3;refine wpAny_truthy_bool ?_;cases k with
 |false=>obtain⟨k',e',q'⟩:=q3;cases e';exact ite_ff ⟨H3,I3,q'⟩
 |true=>refine ite_tt (test_last (bJ (hc pins s3 σ H3 _ I3 q3) λw' s4 ⟨z',H4,I4,r4,q4⟩=>bJ (lH pins s4 σ H4 y z' u w' _ I4 r2 r4 q4) λd' s5 ⟨z2,H5,I5,r5,k2,e2,q5⟩=>?_));subst e2;cases r5;exact wpAny_truthy_bool ⟨H5,I5,q5⟩
theorem jC:(sizeLine:Nat)<2 ^ 63:=by rw[sizeLine_eq];decide
theorem vd:dI X (binaryOp .Add) (λx y H Q=>∃i j,x=.str i/\y=.str j/\i.length+j.length<=sizeLine/\Q (.str (i++j)) H):=by intro pins s σ H x y v u Q I rx ry h;obtain⟨i,j,rfl,rfl,hz,q⟩:=h;obtain⟨t,rfl⟩:=rx;obtain⟨t',rfl⟩:=ry;exact add_str (λt' tk=>⟨.str (i++j),H,I.tok _,⟨_,rfl⟩,q⟩) hz
theorem vals1{x:V}{us:qag}(r:Vals [x] us):∃u,us=[u]/\RelV x u:=by
 cases r with
 |cons r1 r2=>cases r2;exact⟨_,rfl,r1⟩
theorem vals2{x y:V}{us:qag}(r:Vals [x,y] us):∃u w',us=[u,w']/\RelV x u/\RelV y w':=by
 cases r with
 |cons r1 r2=>
  cases r2 with
  |cons r3 r4=>cases r4;exact⟨_,_,rfl,r1,r3⟩
theorem oH:cL X (.type "int") (λxs H Q=>(∃i,xs=[.int i]/\Q (.int i) H)\/∃k,xs=[.bl k]/\Q (.int (if k then 1 else 0)) H):=by
 intro pins s σ H xs us Q I r h;obtain⟨i,rfl,q⟩|⟨k,rfl,q⟩:=h
 obtain⟨u,rfl,t,rfl⟩:=vals1 r;exact call_int_int ⟨.int i,H,I,⟨_,rfl⟩,q⟩;obtain⟨u,rfl,r1⟩:=vals1 r;cases r1;exact call_int_bool ⟨.int (if k then 1 else 0),H,I.tok _,⟨_,rfl⟩,q⟩
end
structure yV(h:Heap)(x dx C:Addr)(mA:qae):Prop where
 obj:h.get? x=some (PySem.W.instObj C dx)
 ns:h.Ns1 dx mA
 ne:dx≠x
theorem yW{mA:qae}(n:h.Ns1 dx mA):∃od,h.get? dx=some od/\∀name,PySem.W.lookIn name od=some (mA name):=by
 obtain⟨o,es,ep,ho,hd,hk,_,hm⟩:=n;refine⟨o,ho,λname=>?_⟩;have e:=hm name;unfold nsFind findBy at e;rw[<- Array.find?_toList] at e;unfold PySem.W.lookIn;rw[hd];dsimp only;split
 rename_i y q
 rw[q] at e;exact congrArg some e
 rename_i q
 rw[q] at e;have a:es.toList.any (·.refKey)=false:=by rw[List.any_eq_false];intro y hy;obtain⟨z,t,Fp⟩:=hk y (Array.mem_toList_iff.mp hy);simp[DictEntry.refKey,Fp]
 have a':¬ es.toList.any (·.refKey)=true:=by rw[a];exact dO
 rw[if_neg a'];exact congrArg some e
theorem yV.look{x:Addr}{mA:qae}(I:yV h x dx C mA):∃od,PySem.W.InstAt h x (PySem.W.instObj C dx) C (some od)/\∀name,PySem.W.lookIn name od=some (mA name) :=
 let ⟨od,ho,hl⟩:=yW I.ns
 ⟨od,⟨I.obj,rfl,rfl,ho⟩,hl⟩
section
variable{E:qad}{K:qaf}{x:Addr}{mA:qae}{name:Str}{v:Value}
theorem get_map{expr:Bool}{Q:qad}(X:K.In s.heap)(I:yV s.heap x dx C mA)(hg:PySem.W.plainGet K C name=true)(hh:PySem.W.hasDictIn K C=true)(ha:PySem.W.findIn K (.ref C) name=some none)(hv:mA name=some v)(sC:PySem.W.handedIn v=true)(h:Q v {s with toks:=s.toks+1}) :
  wpAny (model prog w) A (getAttr (.ref x) name expr) Q E s:=by
 obtain⟨od,J,hl⟩:=I.look;exact PySem.W.get_value X J (PySem.W.plainGet_of hg).1 (PySem.W.findObj_own hh ha rfl (by rw[hl,hv])) sC h
theorem Fq{ns:qai}{Q:Unit->Shared->Prop}(X:K.In s.heap)(I:yV s.heap x dx C mA)(hs:PySem.W.findIn K (.ref C) "__setattr__"=some (some (.builtin "object.__setattr__")))(hp:PySem.W.plainOver K C=true)(ht:PySem.W.takerIn K C name=some none)(hh:PySem.W.hasDictIn K C=true)(hw:PySem.Within mA ns)(hsz:ns.length<=sizeLine)(h:∀h',yV h' x dx C (λy=>if y=name then some v else mA y)->Heap.SameBut dx s.heap h'->Q () {s with heap:=h',toks:=s.toks+2}) :
  wpAny (model prog w) A (setAttr (.ref x) name v) Q E s:=by
 obtain⟨od,J,hl⟩:=I.look;refine PySem.W.set_plain X J hs (PySem.W.osa_open (s:={s with toks:=s.toks+1}) (r:=none) X J hp ht λb=>?_);obtain⟨cd,hc,Uo⟩:=PySem.W.any_some hh;have hx:s.heap.get? x=some ⟨.ref C,some dx,.plain,#[]⟩:=I.obj;refine wpAny_bind (wpAny_pure (wpAny_bind (wpAny_bind (wpAny_loadPart hx (wpAny_bind (PySem.W.Looks.here (s:={s with toks:=s.toks+1}) (PySem.W.looks_clsIn X hc) ?_))))));rw[Uo];refine wpAny_pure (a:=some dx) (wpAny_bind (wpAny_pure (wpAny_bind ?_)));refine wpAny_nsSet1 (s:={s with toks:=s.toks+1}) I.ns λh' OY yX=>?_;obtain⟨oD,esD,epD,Yq,Yr,Ys⟩:=OY.count (PySem.Within.cons name v hw);refine wpAny_bind (wpAny_lookBehind Yq (by rw[Yr];exact pastItsLine_dict (km Ys (by rw[w5];omega))) ?_);exact wpAny_pure (h _ ⟨(yX.2 _ (Ne.symm I.ne)).trans I.obj,OY,I.ne⟩ yX)
theorem Bb{R:Result->Shared->Prop}{vs:qag}{kw:List (Str×Value)}(X:K.In s.heap)(hm:PySem.W.makesIn K C=true)(hi:PySem.W.findIn K (.ref C) "__init__"=some (some (.ref f)))(hf:PySem.W.typeIn K (.ref f)=some (.type "function"))(h:codeAny (model prog w) (A.under (.builtin "type.__call__" ⟨.ref C::vs,kw⟩)) (.call (.ref f) ⟨.ref (s.heap.objs.size+1)::vs,kw⟩) (PySem.W.InitBack (s.heap.objs.size+1) R)
    {s with heap:=(s.heap.push PySem.W.emptyDict).push (PySem.W.instObj C s.heap.objs.size)}) :
  codeAny (model prog w) A (.call (.ref C) ⟨vs,kw⟩) R s:=by
 obtain⟨hh,g,d,t,os⟩:=s;exact PySem.W.make_core (PySem.W.makes_of X hm) (PySem.W.looks_findIn X hi) (λself=>PySem.W.bind_fn X self hf) (.inl rfl) h
end
noncomputable def fZ(f:Str)(v:V):List (Str×V)->List (Str×V)
 |[]=>[(f,v)]
 | (g,x)::r=>if g=f then (g,v)::r else (g,x)::fZ f v r
theorem kq(f g:Str)(v:V):∀fs:List (Str×V),(fZ f v fs).lookup g=if g=f then some v else fs.lookup g
 |[]=>by show List.lookup g [(f,v)]=_;by_cases h:g=f;have hb:(g==f)=true:=beq_iff_eq.mpr h;simp only[List.lookup,hb,if_pos h];have hb:(g==f)=false:=beq_eq_false_iff_ne.mpr h;simp only[List.lookup,hb,if_neg h]
 | (k,x)::r=>by have ih:=kq f g v r;rw[show fZ f v ((k,x)::r)=(if k=f then (k,v)::r else (k,x)::fZ f v r) from rfl];by_cases hk:k=f;rw[if_pos hk];by_cases h:g=k;have hb:(g==k)=true:=beq_iff_eq.mpr h;simp only[List.lookup,hb,if_pos (h.trans hk)];have hb:(g==k)=false:=beq_eq_false_iff_ne.mpr h;simp only[List.lookup,hb,if_neg (λe:g=f=>h (e.trans hk.symm))];rw[if_neg hk];by_cases h:g=k;have hb:(g==k)=true:=beq_iff_eq.mpr h;simp only[List.lookup,hb,if_neg (λe:g=f=>hk (h.symm.trans e))];have hb:(g==k)=false:=beq_eq_false_iff_ne.mpr h;simp only[List.lookup,hb];exact ih
theorem jD(f:Str)(v:V):∀fs:List (Str×V),f∈(fZ f v fs).map (·.1)/\∀g,g∈fs.map (·.1)->g∈(fZ f v fs).map (·.1)
 |[]=>⟨by simp[fZ],λg h=>by simp at h⟩
 | (k,x)::r=>by
  obtain⟨i1,i2⟩:=jD f v r;rw[show fZ f v ((k,x)::r)=(if k=f then (k,v)::r else (k,x)::fZ f v r) from rfl];by_cases hk:k=f;rw[if_pos hk];subst hk;exact⟨by simp,λg h=>by simpa using h⟩;rw[if_neg hk];refine⟨?_,λg h=>?_⟩;rw[gj];exact d3 _ i1;rw[gj] at h ⊢;rcases dh.mp h with e|e
  exact dh.mpr (.inl e);exact d3 _ (i2 g e)
theorem kr(f:Str)(v:V):∀fs:List (Str×V),(fZ f v fs).length<=fs.length+1
 |[]=>by simp[fZ]
 | (k,x)::r=>by have ih:=kr f v r;rw[show fZ f v ((k,x)::r)=(if k=f then (k,v)::r else (k,x)::fZ f v r) from rfl];by_cases hk:k=f;rw[if_pos hk,w5,w5];omega;rw[if_neg hk,w5,w5];omega
theorem ij.some_of{v:V}{o:Option Value}(r:ij (some v) o):∃u,o=some u/\RelV v u:=by
 cases o with
 |none=>exact (show False from r).elim
 |some u=>exact⟨u,rfl,r⟩
theorem yY{v:V}(r:RelV v u):PySem.W.handedIn u=true:=by
 cases v with
 |a9=>cases (show u=Value.none from r);rfl
 |bl b=>cases (show u=Value.bool b from r);rfl
 |int i=>obtain⟨t,e⟩:=(show ∃t,u=Value.int i t from r);cases e;rfl
 |str x=>obtain⟨t,e⟩:=(show ∃t,u=Value.str x t from r);cases e;rfl
 |Ug b=>obtain⟨t,e⟩:=(show ∃t,u=Value.bytes b t from r);cases e;rfl
 |Uh b=>obtain⟨t,e⟩:=(show ∃t,u=Value.float b t from r);cases e;rfl
 |ref a=>cases (show u=Value.ref a from r);rfl
 |ty n=>cases (show u=Value.type n from r);rfl
section
variable{H H':Hp}{a:Addr}{fs Uj:List (Str×V)}
theorem xf(ba:g8 P w H h)(e:H a=some (.ins C dx fs)):∃mA,yV h a dx C mA/\(∀f,ij (fs.lookup f) (mA f))/\PySem.Within mA (fs.map (·.1))/\fs.length<=1000/\H dx=some (.own a):=by obtain⟨d,z,ne,ob,mA,n,r,q⟩:=(show bh P w H h a (.ins C dx fs) from ba a _ e);exact⟨mA,⟨ob,n,ne⟩,r,q,z,d⟩
end
structure Bc(K:qaf)(C:Addr):Prop where
 pg:PySem.W.plainGet K C Str.empty=true
 hd:PySem.W.hasDictIn K C=true
 po:PySem.W.plainOver K C=true
 sa:PySem.W.findIn K (.ref C) "__setattr__"=some (some (.builtin "object.__setattr__"))
theorem Bc.get{K:qaf}{C:Addr}(c:Bc K C)(f:Str):PySem.W.plainGet K C f=true:=c.pg
def bN(K:qaf)(C:Addr)(f:Str):Prop:=PySem.W.findIn K (.ref C) f=some none
theorem bN.OZ{K:qaf}{f:Str}(n:bN K C f):PySem.W.takerIn K C f=some none:=by unfold PySem.W.takerIn;rw[show PySem.W.findIn K (.ref C) f=some none from n];rfl
section
variable{X:Cx}{pins:qaa}{σ:St}{H:Hp}{a:Addr}{fs:List (Str×V)}{f:Str}{v:V}{E:qad}
theorem vf{b:Bool}{Q:qad}(I:Inv X pins σ H s)(e:H a=some (.ins C dx fs))(c:Bc X.K C)(n:bN X.K C f)(l:fs.lookup f=some v)(h:∀u s',Inv X pins σ H s'->RelV v u->Q u s'):wpAny (model X.prog X.w) A (getAttr (.ref a) f b) Q E s:=by obtain⟨mA,O,r,_,_,_⟩:=xf I.ba e;obtain⟨u,hu,ru⟩:=ij.some_of (v:=v) (o:=mA f) (by rw[<- l];exact r f);exact get_map I.r8 O (c.get f) c.hd n hu (yY ru) (h u _ (I.tok _) ru)
theorem vg{y:V}{Q:Unit->Shared->Prop}(I:Inv X pins σ H s)(e:H a=some (.ins C dx fs))(c:Bc X.K C)(n:bN X.K C f)(hl:fs.length<1000)(ry:RelV y u)(h:∀s',Inv X pins σ (upd H a (.ins C dx (fZ f y fs))) s'->Q () s'):wpAny (model X.prog X.w) A (setAttr (.ref a) f u) Q E s:=by
 obtain⟨mA,O,r,wi,_,ho⟩:=xf I.ba e;have hz:(fs.map (·.1)).length<=sizeLine:=by rw[cn,sizeLine_eq];omega
 refine Fq I.r8 O c.sa c.po n.OZ c.hd wi hz λh' O' sb=>h _ ?_;have hd:∃o,h'.get? dx=some o:=let ⟨o,_,_,e',_⟩:=O'.ns;⟨o,e'⟩;refine I.write (x:=a) (e:=dx) (by rw[e];exact True.intro) (.inr ho) (λb q hb z=>(sb.2 b hb).trans z) hd ?_;refine⟨by rw[ar O.ne];exact ho,?_,O.ne,O'.obj,_,O'.ns,λg=>?_,λg hg=>?_⟩;have:=kr f y fs;omega;show ij ((fZ f y fs).lookup g) (if g=f then some u else mA g);rw[kq];by_cases q:g=f;rw[if_pos q,if_pos q];exact ry;rw[if_neg q,if_neg q];exact r g;by_cases q:g=f;rw[q];exact (jD f y fs).1;refine (jD f y fs).2 g (wi g λz=>hg ?_);show (if g=f then some u else mA g)=none;rw[if_neg q];exact z
theorem Inv.made(I:Inv X pins σ H s):Inv X pins σ (upd (upd H s.heap.objs.size (.own (s.heap.objs.size+1))) (s.heap.objs.size+1) (.ins C s.heap.objs.size []))
  {s with heap:=(s.heap.push PySem.W.emptyDict).push (PySem.W.instObj C s.heap.objs.size)}:=by
 have e1:(s.heap.push PySem.W.emptyDict).get? s.heap.objs.size=some PySem.W.emptyDict:=gN s.heap rfl;have e2:((s.heap.push PySem.W.emptyDict).push (PySem.W.instObj C s.heap.objs.size)).get? (s.heap.objs.size+1)=some (PySem.W.instObj C s.heap.objs.size):=by
  have:=gN (s.heap.push PySem.W.emptyDict) (o:=PySem.W.instObj C s.heap.objs.size) rfl
  rwa [AW] at this
 have e3:(s.heap.push PySem.W.emptyDict).Ns s.heap.objs.size (λ_=>none):=⟨PySem.W.emptyDict,#[],_,e1,rfl,(λe he=>absurd he (by simp)),λ_=>rfl⟩;have I1:=I.laid (a:=s.heap.objs.size) (o:=.own (s.heap.objs.size+1)) (h':=s.heap.push PySem.W.emptyDict) (t':=s.toks) (λb u q=>dg _ q) (bG _) ⟨_,e1⟩;refine I1.laid (a:=s.heap.objs.size+1) (o:=.ins C s.heap.objs.size []) (t':=s.toks) (λb u q=>dg _ q) (Nat.le_of_eq (AW _ _)) ?_;have ne:s.heap.objs.size≠s.heap.objs.size+1:=iG (AV _);refine⟨by rw[ar ne,ay],nL _,ne,e2,λ_=>none,(Heap.Ns1.of_empty e3).at λo q=>dg _ q,λ_=>True.intro,λy hy=>absurd rfl hy⟩
theorem Fs{env:Env}{f:Str}{Q:qad}(hb:attributeBase e f env (eval e env)=eval e env)(h:wpAny (model prog w) A (eval e env) (λo s₁=>wpAny (model prog w) A (getAttr o f true) Q E s₁) E s):wpAny (model prog w) A (eval (.Attribute e f pos) env) Q E s :=
 Attribute_any_ h (by rw[arm_eval_Attribute,hb])
end
def UL(K:qaf)(ta:TE)(f:Str):TE:=λσ H Q=>ta σ H λx H1=>∃a C dx fs v,x=.ref a/\H1 a=some (.ins C dx fs)/\Bc K C/\bN K C f/\fs.lookup f=some v/\Q v H1
noncomputable def UM(K:qaf)(ta tv:TE)(f:Str):TS:=λD σ H=>tv σ H λy H1=>ta σ H1 λx H2=>∃a C dx fs,x=.ref a/\H2 a=some (.ins C dx fs)/\Bc K C/\bN K C f/\fs.length<1000 /\
 D.nx σ (upd H2 a (.ins C dx (fZ f y fs)))
section
variable{X:Cx}{o value:Expr}{f:Str}{ta tv:TE}
theorem vh(he:PE X e ta)(hb:attributeBase e f X.env (eval e X.env)=eval e X.env):PE X (.Attribute e f pos) (UL X.K ta f):=by intro pins s σ H Q I h;refine Fs hb (bJ (he pins s σ H _ I h) λu s1 ⟨x,H1,I1,rx,a,C,dx,fs,v,ex,ea,c,n,l,q⟩=>?_);subst ex;obtain rfl:u=Value.ref a:=rx;exact vf I1 ea c n l λu' s2 I2 ru=>⟨v,H1,I2,ru,q⟩
theorem KC(ha:PE X o ta)(hv:PE X value tv)(hs:swapsWith value (some (.Attribute o f pos')) pos.line X.env=pure false):PS X (.Assign [.Attribute o f pos'] value pos) (UM X.K ta tv f):=by intro pins s σ H D I h;refine plainObj_wpAny_Assign_Attribute (bJ (hv pins s σ H _ I h) λu s1 ⟨y,H1,I1,ry,q⟩=>bJ (ha pins s1 σ H1 _ I1 q) λov s2 ⟨x,H2,I2,rx,a,C,dx,fs,ex,ea,c,n,l,q2⟩=>?_) hs;subst ex;obtain rfl:ov=Value.ref a:=rx;exact vg I2 ea c n l ry λs3 I3=>⟨σ,_,I3,q2⟩
end
structure bb(k:Nat)(A:Around):Prop where
 hd:A.handled=none
 dp:A.depth+3 * k+5<recursionLimit
 un:A.units+16 * k+200<cLine
theorem bb.mono(r:bb k A)(h:j<=k):bb j A:=⟨r.hd,by have:=r.dp;omega,by have:=r.un;omega⟩
theorem bb.deeper(r:bb (k+1) A)(env:Env):bb k (A.deeper env) :=
 ⟨r.hd,by have:=r.dp;show A.depth+1+3 * k+5<_;omega,by have:=r.un;show A.units+3+16 * k+200<_;omega⟩
theorem vi{us:qag}{kw:List (Str×Value)}:(A.under (.builtin "type.__call__" ⟨.ref C::us,kw⟩)).depth=A.depth+1:=by first|rfl|simp[Around.under,Code.weight,Code.isCreation,Code.isGuard,Code.isCaller,Code.frames,Code.isFrame,guardIds]
theorem vj{us:qag}{kw:List (Str×Value)}:(A.under (.builtin "type.__call__" ⟨.ref C::us,kw⟩)).units=A.units+1:=by first|rfl|simp[Around.under,Code.cUnits,Code.frames,Code.isFrame]
theorem bb.make(r:bb (k+1) A)(C:Addr)(us:qag)(kw:List (Str×Value)):bb k (A.under (.builtin "type.__call__" ⟨.ref C::us,kw⟩)) :=
 ⟨r.hd,by have:=r.dp;rw[vi];omega,by have:=r.un;rw[vj];omega⟩
theorem bb.depth(r:bb k A):A.depth<recursionLimit:=by have:=r.dp;omega
def UN:TA:=λ_ H Q=>Q [] H
def O0(ta:TE)(tr:TA):TA:=λσ H Q=>ta σ H λx H1=>tr σ H1 λxs H2=>Q (x::xs) H2
section
variable{X:Cx}{es:qap}{te:TE}{t:TA}
theorem cF:PA X [] UN:=λ_ _ _ _ H Q I h=>Calls.spliced_nil ⟨[],H,I,.nil,h⟩
theorem a8(ha:PE X e te)(hr:PA X es t)(hs:starEach (e::es) X.env=(false,eval e X.env)::starEach es X.env:=by rfl):PA X (e::es) (O0 te t):=by intro pos pins s σ H Q I h;rw[hs];show wpAny _ _ (spliced ((false,eval e X.env)::backTo pos (starEach es X.env))) _ _ s;refine Calls.spliced_cons (bJ (ha pins s σ H _ I h) λu s1 ⟨x,H1,I1,r1,q1⟩=>?_);exact bJ (hr pos pins s1 σ H1 _ I1 q1) λus s2 ⟨xs,H2,I2,r2,q2⟩=>⟨x::xs,H2,I2,.cons r1 r2,q2⟩
noncomputable def UO(t:TA):TE:=λσ H Q=>t σ H λxs H1=>xs.length<=sizeLine/\∀p,H1 p=none->Q (.ref p) (upd H1 p (.tup xs))
noncomputable def UP(t:TA):TE:=λσ H Q=>t σ H λxs H1=>xs.length<=sizeLine/\∀p,H1 p=none->Q (.ref p) (upd H1 p (.lst xs))
theorem jE{x1}(h:PA X es t):PE X (.Tuple es x1 pos) (UO t):=by intro pins s σ H Q I hq;refine wpAny_Tuple_spliced (bJ (h pos pins s σ H _ I hq) λus s1 ⟨xs,H1,I1,r,z,q⟩=>⟨by rw[<- r.length];exact z,?_⟩);have hf:H1 s1.heap.objs.size=none:=I1.ba.fresh (bG _);refine⟨.ref s1.heap.objs.size,upd H1 s1.heap.objs.size (.tup xs),I1.laid (t':=s1.toks) (λb u e=>dg _ e) (bG _) ?_,rfl,q _ hf⟩;exact⟨z,us,r,⟨_,gN _ rfl,rfl,_,rfl⟩⟩
theorem KD(h:PA X es t):PE X (.List es pos) (UP t):=by intro pins s σ H Q I hq;refine wpAny_List_spliced (bJ (h pos pins s σ H _ I hq) λus s1 ⟨xs,H1,I1,r,z,q⟩=>⟨by rw[<- r.length];exact z,?_⟩);have hf:H1 s1.heap.objs.size=none:=I1.ba.fresh (bG _);refine⟨.ref s1.heap.objs.size,upd H1 s1.heap.objs.size (.lst xs),I1.laid (t':=s1.toks) (λb u e=>dg _ e) (bG _) ?_,rfl,q _ hf⟩;exact⟨z,us,0,r,gN _ rfl⟩
end
abbrev Sp:=List V->Hp->VK->XK->Prop
abbrev AJ:=List Env->Hp->Shared->XK->qad
structure vk(P:Program)(w:World)(K:qaf)(mg:qae)(base:Heap)(A:Around)(outer:List Env)(s:Shared)(H:Hp):Prop where
 frames:A.frames=some outer
 mod:Mod K mg base
 bs:∀b o,base.get? b=some o->s.heap.get? b=some o/\H b=none
 E5:base.objs.size<=s.heap.objs.size
 kO:s.heap.FunFrames base outer
 JW:∀b∈AI outer,H b=none
 ba:g8 P w H s.heap
 bare:AllBare s.gens
def CE(outer:List Env)(P:Program)(w:World)(H:Hp)(s:Shared)(Q:VK)(u:Value)(s':Shared):Prop :=
 ∃v H',s'.os=s.os/\AllBare s'.gens/\Un (AI outer) [] H H' s.heap s'.heap/\g8 P w H' s'.heap/\RelV v u/\Q v H'
def CR(CX:AJ)(outer:List Env)(P:Program)(w:World)(H:Hp)(s:Shared)(Q:VK)(E:XK)(r:Result)(s':Shared):Prop :=
 match r with
 |.ok (.ret u)=>CE outer P w H s Q u s'
 |.ok _=>False
 |.error e=>CX outer H s E e s'
structure cU(P:Program)(w:World)(K:qaf)(mg:qae)(base:Heap)(CX:AJ)(k:Nat)(f:Addr)(fd:FuncData)(ps:qai)(sp:Sp):Prop where
 len:∀vs H Q E,sp vs H Q E->vs.length=ps.length
 run:∀(A:Around)(outer:List Env)(s:Shared)(H:Hp)(args:Args)(us:qag)(vs:List V)(Q:VK)(E:XK),bb k A->vk P w K mg base A outer s H->BindsTo s fd args (ps.zip us)->Vals vs us->sp vs H Q E ->
  codeAny (model P w) A (.call (.ref f) args) (CR CX outer P w H s Q E) s
theorem vk.make{K:qaf}{mg:qae}{outer:List Env}{H:Hp}(e:vk P w K mg base A outer s H)(C:Addr)(us:qag)(kw:List (Str×Value)) :
 vk P w K mg base (A.under (.builtin "type.__call__" ⟨.ref C::us,kw⟩)) outer s H:=⟨by first|exact e.frames|(simpa[Around.under,Code.envs,Code.isFrame,pushEnvs] using e.frames),e.mod,e.bs,e.E5,e.kO,e.JW,e.ba,e.bare⟩
section
variable{X:Cx}{pins:qaa}{σ:St}{H:Hp}
theorem Inv.O5(I:Inv X pins σ H s):vk X.prog X.w X.K X.mg X.base X.A X.stack s H :=
 ⟨I.ok.frames,I.ok.mod,I.bs,km I.ok.E5 I.sz,I.stack,I.w9,I.ba,I.bare⟩
theorem Inv.after{Q:VK}(I:Inv X pins σ H s)(h:CE X.stack X.prog X.w H s Q u s'):EP X pins σ Q u s':=by obtain⟨v,H',os,bare,un,ba,r,q⟩:=h;obtain⟨hh,g,d,t,Yt⟩:=s';obtain rfl:Yt=s.os:=os;exact⟨v,H',I.call (h':=hh) (g':=g) (d':=d) (t':=t) (ch:=[]) un ba bare (λb z=>absurd z (by simp)),r,q⟩
end
def O6(sp:Sp)(uR:List V)(E:XK)(t:TA):TE:=λσ H Q=>t σ H λvs H1=>sp (vs++uR) H1 Q E
noncomputable def O7(C:Addr)(sp:Sp)(uR:List V)(E:XK)(t:TA):TE:=λσ H Q=>t σ H λvs H1=>∀x dx,H1 x=none->H1 dx=none->dx≠x ->
 sp (.ref x::(vs++uR)) (upd (upd H1 dx (.own x)) x (.ins C dx [])) (λv H2=>v=.a9/\Q (.ref x) H2) E
def Binds(K:qaf)(fd:FuncData)(ps:qai)(ds:qag):Prop :=
 ∀(s:Shared)(us:qag),K.In s.heap->(us++ds).length=ps.length->BindsTo s fd ⟨us,[]⟩ (ps.zip (us++ds))
theorem Binds.all{K:qaf}{ps:qai}(h:∀us:qag,us.length=ps.length->bindArgs fd ⟨us,[]⟩=pure (ps.zip us)):Binds K fd ps []:=λs us _ hl=>by rw[Ew] at hl ⊢;exact .of_eq (h us hl)
def Passes(CX:AJ)(X:Cx)(E:XK):Prop:=∀(pins:qaa)(σ:St)(H:Hp)(s:Shared)(e:Value)(s':Shared),Inv X pins σ H s->CX X.stack H s E e s'->X.xe e s'
section
variable{X:Cx}{CX:AJ}{ps:qai}{sp:Sp}{uR:List V}{ds:qag}{E:XK}{m:Str}{o:Expr}{es:qap}{ta:TE}{t:TA}
theorem KG{pins:qaa}{σ:St}{H:Hp}{Q:VK}{us:qag}{vs:List V}(F:cU X.prog X.w X.K X.mg X.base CX k f fd ps sp)(hr:bb k X.A)(hb:Binds X.K fd ps ds)(hd:Vals uR ds)(hx:Passes CX X E)(I:Inv X pins σ H s)(r:Vals vs us)(h:sp (vs++uR) H Q E):wpAny (model X.prog X.w) X.A (call (.ref f) us) (EP X pins σ Q) X.xe s:=by
 have r2:Vals (vs++uR) (us++ds):=r.append hd;have hl:(us++ds).length=ps.length:=by rw[<- r2.length];exact F.len _ _ _ _ h
 refine wpAny_call (codeAny_mono (F.run X.A X.stack s H ⟨us,[]⟩ (us++ds) (vs++uR) Q E hr I.O5 (hb s us I.r8 hl) r2 h) λr s' hq=>?_);cases r with
 |error e=>exact hx pins σ H s e s' I hq
 |ok fl=>
  cases fl with
  |ret u=>exact I.after hq
  |_=>exact False.elim hq
theorem gO(F:cU X.prog X.w X.K X.mg X.base CX k f fd ps sp)(hr:bb k X.A)(hg:Gl X x)(hm:X.mg x=some (.ref f))(hk:PySem.W.keepIn X.K (.ref f)=true)(hb:Binds X.K fd ps ds)(hd:Vals uR ds)(hx:Passes CX X E)(ha:PA X (e::es) t)(nP:eG x:=by decide)(he:starEach (e::es) X.env=(false,eval e X.env)::starEach es X.env:=by rfl)(ku:(backTo pos (starEach es X.env)).any (·.1)=false:=by rfl) :
  PE X (.Call (.Name x p) (e::es) [] pos) (O6 sp uR E t):=by
 intro pins s σ H Q I h;refine wpAny_Call_Name_kw (pT I hg hm ?_ nP);refine PySem.W.callWith_K (h₀:=X.base) I.ok.mod.SR hk (bJ (ha pos pins s σ H _ I h) λus s1 ⟨vs,H1,I1,r,q⟩=>⟨I1.r8,?_⟩) he ku;exact KG F hr hb hd hx I1 r q
structure Mk(K:qaf)(C f:Addr):Prop where
 makes:PySem.W.makesIn K C=true
 init:PySem.W.findIn K (.ref C) "__init__"=some (some (.ref f))
 fn:PySem.W.isFn K (.ref f)=true
 kp:PySem.W.keepIn K (.ref C)=true
theorem Bd{pins:qaa}{σ:St}{H:Hp}{Q:VK}{us:qag}{vs:List V}(M:Mk X.K C f)(F:cU X.prog X.w X.K X.mg X.base CX k f fd ps sp)(hr:bb (k+1) X.A)(hb:Binds X.K fd ps ds)(hd:Vals uR ds)(hx:Passes CX X E)(I:Inv X pins σ H s)(r:Vals vs us)(h:∀x dx,H x=none->H dx=none->dx≠x->sp (.ref x::(vs++uR)) (upd (upd H dx (.own x)) x (.ins C dx [])) (λv H2=>v=.a9/\Q (.ref x) H2) E) :
  wpAny (model X.prog X.w) X.A (call (.ref C) us) (EP X pins σ Q) X.xe s:=by
 have hq:=h (s.heap.objs.size+1) s.heap.objs.size (I.ba.fresh (Io _)) (I.ba.fresh (bG _)) (iG (AV _));have I2:=Inv.made (C:=C) I;have r2:Vals (V.ref (s.heap.objs.size+1)::(vs++uR)) (Value.ref (s.heap.objs.size+1)::(us++ds)):=.cons rfl (r.append hd);have hl:(Value.ref (s.heap.objs.size+1)::us++ds).length=ps.length:=by have e:=r2.length;rw[F.len _ _ _ _ hq] at e;exact e.symm
 refine wpAny_call (Bb (f:=f) I.r8 M.makes M.init (beq_iff_eq.mp M.fn) (codeAny_mono (F.run _ X.stack _ _ ⟨Value.ref (s.heap.objs.size+1)::us,[]⟩ (Value.ref (s.heap.objs.size+1)::(us++ds)) _ _ E (hr.make C us [])
  (I2.O5.make C us []) (hb _ (Value.ref (s.heap.objs.size+1)::us) I2.r8 hl) r2 hq) λr s' oI=>?_))
 cases r with
 |error e=>exact hx pins σ _ _ e s' I2 oI
 |ok fl=>
   cases fl with
   |ret u=>obtain⟨v,H',I3,rv,ev,q3⟩:=I2.after oI;subst ev;exact⟨rv,⟨V.ref (s.heap.objs.size+1),H',I3,rfl,q3⟩⟩
   |_=>exact False.elim oI
theorem xh(M:Mk X.K C f)(F:cU X.prog X.w X.K X.mg X.base CX k f fd ps sp)(hr:bb (k+1) X.A)(hg:Gl X x)(hm:X.mg x=some (.ref C))(hb:Binds X.K fd ps ds)(hd:Vals uR ds)(hx:Passes CX X E)(ha:PA X (e::es) t)(nP:eG x:=by decide)(he:starEach (e::es) X.env=(false,eval e X.env)::starEach es X.env:=by rfl)(ku:(backTo pos (starEach es X.env)).any (·.1)=false:=by rfl) :
  PE X (.Call (.Name x p) (e::es) [] pos) (O7 C sp uR E t):=by
 intro pins s σ H Q I h;refine wpAny_Call_Name_kw (pT I hg hm ?_ nP);refine PySem.W.callWith_K (h₀:=X.base) I.ok.mod.SR M.kp (bJ (ha pos pins s σ H _ I h) λus s1 ⟨vs,H1,I1,r,q⟩=>⟨I1.r8,?_⟩) he ku;exact Bd M F hr hb hd hx I1 r q
end
section
variable{X:Cx}{CX:AJ}{ps ks:qai}{sp:Sp}{E:XK}{m:Str}{vm:Pos}{o:Expr}{es:qap}{Yu:List Keyword}{te ta:TE}{t tk:TA}{nm:Option Str}
variable{g:qag->qag->qag}{gV:List V->List V->List V}
end
structure aG(N P:qai)(sc:Scope):Prop where
 kind:sc.kind=.function
 co:sc.isCoroutine=false
 gen:sc.isGenerator=false
 nd:N.Nodup
 pre:N.take P.length=P
 par:∀x∈P,sc.names.lookup x=some .local\/sc.names.lookup x=some .cell
 KH:∀y∈sc.names,y.2≠.free
theorem iQ{N P:qai}(a:sc.kind=.function:=by rfl)(b:sc.isCoroutine=false:=by rfl)(c:sc.isGenerator=false:=by rfl)(d:N.Nodup:=by decide +kernel)(e:N.take P.length=P:=by rfl)(f:∀x∈P,sc.names.lookup x=some .local\/sc.names.lookup x=some .cell:=by decide +kernel)(g:∀y∈sc.names,y.2≠.free:=by decide +kernel):aG N P sc:=⟨a,b,c,d,e,f,g⟩
theorem oJ{kindOf:Str->Option NameKind}{x:Str}:∀{binds:List (Str×Value)}{m:qae},(∀v,(x,v)∉binds)->bindL kindOf binds m x=m x
 |[],_,_=>rfl
 | (n,v)::r,m,h=>by
  unfold bindL;rw[oJ λw hw=>h w (d3 _ hw)];split;have:x≠n:=by rintro rfl;exact h v dq
  simp[this];rfl
theorem oK{kindOf:Str->Option NameKind}{x:Str}:∀{binds:List (Str×Value)}{m:qae},(∀v,(x,v)∉binds)->bindC kindOf binds m x=m x
 |[],_,_=>rfl
 | (n,v)::r,m,h=>by
  unfold bindC;rw[oK λw hw=>h w (d3 _ hw)];split;rfl;have:x≠n:=by rintro rfl;exact h v dq
  simp[this]
theorem oM{kindOf:Str->Option NameKind}{x:Str}{v:Value}:∀{P:qai}{vs:qag}{i:Nat}{m:qae},P.Nodup->P[i]?=some x->vs[i]?=some v->kindOf x=some .local ->
  bindL kindOf (P.zip vs) m x=some v
 |[],_,_,_,_,h,_,_=>by simp at h
 |_::_,[],_,_,_,_,h,_=>by simp at h
 |p::P,w::vs,0,m,nd,h1,h2,hk=>by simp at h1 h2;subst h1;subst h2;show bindL kindOf ((p,w)::P.zip vs) m p=_;unfold bindL;rw[oJ λv hv=>(lC.mp nd).1 (List.of_mem_zip hv).1,if_pos hk];simp
 |p::P,w::vs,i+1,m,nd,h1,h2,hk=>by show bindL kindOf ((p,w)::P.zip vs) m x=_;unfold bindL;exact oM (i:=i) (lC.mp nd).2 (by simpa using h1) (by simpa using h2) hk
theorem oN{kindOf:Str->Option NameKind}{x:Str}{v:Value}:∀{P:qai}{vs:qag}{i:Nat}{m:qae},P.Nodup->P[i]?=some x->vs[i]?=some v->kindOf x≠some .local ->
  bindC kindOf (P.zip vs) m x=some v
 |[],_,_,_,_,h,_,_=>by simp at h
 |_::_,[],_,_,_,_,h,_=>by simp at h
 |p::P,w::vs,0,m,nd,h1,h2,hk=>by simp at h1 h2;subst h1;subst h2;show bindC kindOf ((p,w)::P.zip vs) m p=_;unfold bindC;rw[oK λv hv=>(lC.mp nd).1 (List.of_mem_zip hv).1,if_neg hk];simp
 |p::P,w::vs,i+1,m,nd,h1,h2,hk=>by show bindC kindOf ((p,w)::P.zip vs) m x=_;unfold bindC;exact oN (i:=i) (lC.mp nd).2 (by simpa using h1) (by simpa using h2) hk
noncomputable def start(N:qai)(vs:List V):St:=vs.map some++List.replicate (N.length-vs.length) none
noncomputable def il(CX:AJ)(P:Program)(w:World)(K:qaf)(mg:qae)(base:Heap)(N:qai)(qual:Str)(scope:Scope)(f:Addr)(cd:Value)(A:Around)(outer:List Env)(s:Shared)(H:Hp)(E:XK):Cx where
 prog:=P
 w:=w
 K:=K
 mg:=mg
 base:=base
 A:=A.deeper (envOfC qual scope s.heap.objs.size f cd)
 N:=N
 s₀:=s
 H₀:=H
 env:=envOfC qual scope s.heap.objs.size f cd
 outer:=outer
 stack:=envOfC qual scope s.heap.objs.size f cd::outer
 ex:=[]
 calm:=true
 fn:=λ_=>true
 pn:=[]
 xe:=λe s'=>wpAny (model P w) (A.deeper (envOfC qual scope s.heap.objs.size f cd)) (leaving (envOfC qual scope s.heap.objs.size f cd) e) (λ_ O8=>CX outer H s E e O8) (λe' O8=>CX outer H s E e' O8) s'
theorem sD(h:sc.names.lookup x=some .cell):∃c,(cellsFrom n sc.names []).lookup x=some c:=by have q:=PySem.W.cellsFrom_some sc.names n [] (.inl h);exact Option.isSome_iff_exists.mp q
theorem yZ{CX:AJ}{K:qaf}{mg:qae}{N ps:qai}{scope:Scope}{cd:Value}{outer:List Env}{s1:Shared}{H:Hp}{E:XK}{us:qag}{vs:List V}(S:aG N ps scope)(hd:A.handled=none)(e0:vk P w K mg base A outer s H)(hl:vs.length=ps.length)(r:Vals vs us)(x:InCallC s s.heap.objs.size (bindL (envOfC qual scope s.heap.objs.size f cd).kindOf (ps.zip us) λ_=>none) (cellsFrom (s.heap.objs.size+1) scope.names []) (bindC (envOfC qual scope s.heap.objs.size f cd).kindOf (ps.zip us) λ_=>none) s1) :
  Inv (il CX P w K mg base N qual scope f cd A outer s H E) [] (start N vs) H s1:=by
 have ku:ps.length<=N.length:=by have:=congrArg List.length S.pre;rw[JK] at this;omega
 obtain⟨h1,tk,rfl,hk⟩:=x.done;have O9:∀b:Addr,b∉(il CX P w K mg base N qual scope f cd A outer s H E).ex:=λb z=>absurd (show b∈([]:qah) from z) (by simp);refine⟨⟨e0.mod,S.kind,rfl,rfl,bG _,λy z c h1 h2=>?_,λy hy=>?_,λy c _ h=>?_,λ_=>hd,Around.frames_deeper e0.frames,.inr ⟨rfl,rfl⟩,λb z=>absurd z (O9 b),e0.bs,e0.E5,λb _ _=>O9 b,λb z=>absurd z (O9 b),e0.kO,e0.JW⟩,
  rfl,e0.bare,Un.kept hk,⟨_,x.toInCall.ns,λi y v h1 h2 h3=>?_⟩,λy c h=>⟨_,x.cell y c h⟩,e0.ba.fresh (bG _),λy c h=>?_,λp hp=>absurd (show p∈([]:qaa) from hp) (by simp),e0.ba.kept hk,?_⟩
 exact name_of_addr x.apart (Ie h1) (Ie h2);have hy:scope.names.lookup y=some .cell\/scope.names.lookup y=some .free:=hy;obtain hy|hy:=hy
 exact sD hy;exact absurd rfl (S.KH _ (Ie hy));exact Nat.le_of_lt (x.above y c (Ie h));have hi:i<vs.length:=by unfold start at h2;by_cases hi:i<vs.length;exact hi;rw[pP (by simpa using hi)] at h2;rw[wY] at h2;split at h2<;>cases h2
 have ha:vs[i]?=some v:=by
  unfold start at h2;rw[k7 (by simpa using hi),fj] at h2;cases e:vs[i]? with
  |none=>rw[e] at h2;cases h2
  |some a=>rw[e] at h2;cases h2;rfl
 obtain⟨u,hu,rv⟩:=r.get ha;have hp:ps[i]?=some y:=by rw[<- S.pre,List.getElem?_take_of_lt (by omega)];exact h1
 have W0:ps.Nodup:=by rw[<- S.pre];exact S.nd.sublist (List.take_sublist _ _)
 refine⟨u,rv,?_⟩;rcases S.par y (fY hp) with k|k
 exact .inl ⟨k,oM W0 hp hu k⟩;obtain⟨c,e⟩:=sD (n:=s.heap.objs.size+1) k;refine .inr ⟨.inl k,c,e,?_⟩;have q:=x.cell y c e;rw[oN W0 hp hu (by show scope.names.lookup y≠_;rw[k];decide)] at q;exact q;exact e0.ba.fresh (Nat.le_of_lt (x.above y c (Ie h)));unfold start;show _=N.length;rw[yH,cn,JF];omega
theorem O_{CX:AJ}{K:qaf}{mg:qae}{name:Str}{params:Arguments}{body:qaq}{scope:Scope}{dV kV doc pm bw ct oc:Value}{an od:qar}{EC:Array (Option Value)}{N ps:qai}{sp:Sp}(lk:K.lookup f=some ⟨oc,od,.func (PySem.W.fnOf name qual params body scope dV kV doc pm an bw ct),EC⟩)(eI:PySem.W.codeIn K bw qual=true)(S:aG N ps scope)(len:∀vs H Q E,sp vs H Q E->vs.length=ps.length)(dP:∀(A:Around) (outer:List Env) (s:Shared) (H:Hp) (vs:List V) (Q:VK) (E:XK),bb k (A.deeper (envOfC qual scope s.heap.objs.size f bw))->sp vs H Q E ->
    ∃t,ik (il CX P w K mg base N qual scope f bw A outer s H E) body t/\t {nx:=λ_ H'=>Q .a9 H',rt:=Q} (start N vs) H) :
  cU P w K mg base CX (k+1) f (PySem.W.fnOf name qual params body scope dV kV doc pm an bw ct) ps sp:=by
 refine⟨len,λA outer s H args us vs Q E hr e0 hb r NT=>?_⟩;have hl:=len _ _ _ _ NT;have KX:K.In s.heap:=e0.mod.SR.keeps λb o e=>(e0.bs b o e).1;have lim:s.heap.NoLimit:=e0.mod.nolimit.keeps λb o e=>(e0.bs b o e).1;have Pa:∀y∈ps.zip us,scope.names.lookup y.1=some .local\/(scope.names.lookup y.1=some .cell/\((cellsFrom (s.heap.objs.size+1) scope.names []).lookup y.1).isSome=true):=λ⟨n,v⟩ hy=>by
  rcases S.par n (List.of_mem_zip hy).1 with q|q
  exact .inl q;exact .inr ⟨q,PySem.W.cellsFrom_some _ _ _ (.inl q)⟩
 refine codeAny_call_function hr.depth (KX _ _ lk) rfl S.co S.gen rfl (PySem.W.codeRec_of KX eI) (hb _ _ _ _ ?_);refine wpAny_newFunctionEnv_cells S.kind Pa λenv he s1 x=>?_;subst he;refine⟨lim.keeps x.toInCall.keep,codeAny_func ?_⟩;obtain⟨t,ht,hq⟩:=dP A outer s H vs Q E (hr.deeper _) NT;have I:Inv (il CX P w K mg base N qual scope f bw A outer s H E) [] (start N vs) H s1:=yZ S hr.hd e0 hl r x;refine wpAny_mono (ht [] s1 (start N vs) H _ I hq) (λfl s' hs=>?_) λe s' hs=>hs;have fin:∀{σ':St}{H':Hp}{v:V}{u:Value},Inv (il CX P w K mg base N qual scope f bw A outer s H E) [] σ' H' s'->RelV v u->Q v H'->CE outer P w H s Q u s' :=
  λ{σ' H' v u} J rv q=>⟨v,H',J.os,J.bare,J.base,J.ba,rv,q⟩
 cases fl with
 |ret u=>obtain⟨v,σ',H',J,rv,q⟩:=hs;exact fin J rv q
 |next=>obtain⟨σ',H',J,q⟩:=hs;exact fin (v:=V.a9) (u:=Value.none) J rfl q
 |brk=>obtain⟨_,_,_,q⟩:=hs;exact False.elim q
 |cont=>obtain⟨_,_,_,q⟩:=hs;exact False.elim q
section
variable{X:Cx}{es:qap}{t:TA}{id T:String}{r:List V->Hp->VK->Prop}
def W2(r:List V->Hp->VK->Prop)(t:TA):TE:=λσ H Q=>t σ H λvs H1=>r vs H1 Q
theorem lM(hc:cL X (.builtin id) r)(hg:Gl X x)(hm:X.mg x=none)(hv:bootBuiltins x=some (.builtin id))(ha:PA X (e::es) t)(hn:x≠"__name__":=by decide)(nP:eG x:=by decide)(he:starEach (e::es) X.env=(false,eval e X.env)::starEach es X.env:=by rfl)(ku:(backTo pos (starEach es X.env)).any (·.1)=false:=by rfl):PE X (.Call (.Name x p) (e::es) [] pos) (W2 r t):=by intro pins s σ H Q I h;refine wpAny_Call_Name_kw (jy I hg hm hv ?_ hn nP);exact PyProof.Rows.callWith_builtin1 (bJ (ha pos pins s σ H _ I h) λus s1 ⟨vs,H1,I1,r1,q1⟩=>hc pins s1 σ H1 vs us Q I1 r1 q1) he ku
theorem y3(hc:cL X (.type T) r)(hg:Gl X x)(hm:X.mg x=none)(hv:bootBuiltins x=some (.type T))(ha:PA X (e::es) t)(hn:x≠"__name__":=by decide)(nP:eG x:=by decide)(he:starEach (e::es) X.env=(false,eval e X.env)::starEach es X.env:=by rfl)(ku:(backTo pos (starEach es X.env)).any (·.1)=false:=by rfl):PE X (.Call (.Name x p) (e::es) [] pos) (W2 r t):=by intro pins s σ H Q I h;refine wpAny_Call_Name_kw (jy I hg hm hv ?_ hn nP);exact Sk (bJ (ha pos pins s σ H _ I h) λus s1 ⟨vs,H1,I1,r1,q1⟩=>hc pins s1 σ H1 vs us Q I1 r1 q1) he ku
end
end L2
variable{K:qaf}{H H':L2.Hp}{σ:L2.St}{E Q:qad}{v:L2.V}{pins:qaa}{mg:qae}{es elts:qap}{ps:qai}{ks:List (List L2.Key)}{ta te:L2.TE}{is:qao}{us:qag}{r:L2.R2}{kvs:List (List L2.Key×L2.V)}{body:qaq}{fp:qah}
abbrev qac:=List (PySem.Str×L2.V)
abbrev qak:=List L2.V
namespace HT
open PySem PyProof.Rows
section
open PySem.SeqAt
open PySem.AutoSeq1 (wpAny_loadPart')
open PySem.MeetsSeq PySem.MeetsSeq2 PySem.MeetsSeq3
end
section
theorem Ft{t b:Addr}{vs ws:qag}(ht:IsTup s.heap t vs.toArray)(hb:IsTup s.heap b ws.toArray)(hv:vs≠[])(h1:ws=[]->Q (.ref t) s)(h2:ws≠[]->Q (.ref s.heap.objs.size) {s with heap:=s.heap.push {cls:=.type "tuple",data:=.seq (vs++ws).toArray} })(hsz:vs.length+ws.length<=sizeLine):wpAny (model prog w) A (binaryOp .Add (.ref t) (.ref b)) Q E s:=by
 obtain⟨⟨cls,dd,data,sl⟩,ho,hc,n,hd⟩:=id ht;obtain⟨⟨Pb,NU,data2,NV⟩,ED,AK,n2,hd2⟩:=id hb;simp only at hc hd AK hd2;subst hc hd AK hd2;have e:vs.toArray++ws.toArray=(vs++ws).toArray:=by simp
 by_cases hw:ws=[];exact concat_meets ⟨_,ho,rfl⟩ ⟨_,ED,rfl⟩ noFill_tuple_add seq_tuple_add Uc T' (T_ _ _)
  (tuple_addW1 t b vs.toArray ws.toArray n n2 dd NU sl NV (by simpa using hv) (by simp[hw])) ⟨ho,ED,h1 hw⟩
 refine concat_meets ⟨_,ho,rfl⟩ ⟨_,ED,rfl⟩ noFill_tuple_add seq_tuple_add Uc T' (T_ _ _)
  (tuple_addW2 t b vs.toArray ws.toArray n n2 dd NU sl NV (by simpa using hv) (by simpa using hw) (by rw[gh,gh];exact hsz)) ⟨ho,ED,?_⟩
 rw[e];exact h2 hw
noncomputable def cM(n d:Nat):Option Int->Nat
 |none=>d
 |some v=>if v<0 then (v+(n:Int)).toNat else min v.toNat n
theorem xi(n d k:Nat):cM n d (some (k:Int))=min k n:=by show (if (k:Int)<0 then ((k:Int)+(n:Int)).toNat else min (k:Int).toNat n)=min k n;rw[if_neg (by omega),iL]
theorem KI(n d:Nat)(hd:d<=n)(o:Option Int):cM n d o<=n:=by
 cases o with
 |none=>exact hd
 |some v=>show (if v<0 then (v+(n:Int)).toNat else min v.toNat n)<=n;by_cases hv:v<0;rw[if_pos hv];omega;rw[if_neg hv];exact Nat.min_le_right _ _
theorem xj(v:Int)(n d:Nat):(if v<0 then max (v+(n:Int)) 0 else min v (n:Int))=((cM n d (some v):Nat):Int):=by show (if v<0 then max (v+(n:Int)) 0 else min v (n:Int))=(((if v<0 then (v+(n:Int)).toNat else min v.toNat n):Nat):Int);by_cases hv:v<0;simp only[if_pos hv];omega;simp only[if_neg hv];omega
theorem vn(lo hi:Option Int)(n:Nat):Builtin.Slice.sliceAdjust lo hi 1 (n:Int)=(((cM n 0 lo:Nat):Int),((cM n n hi:Nat):Int)):=by
 have h1:¬ ((1:Int)<0):=by omega
 unfold Builtin.Slice.sliceAdjust;simp only[h1,if_false];refine AG ?_ ?_;cases lo with
 |none=>rfl
 |some v=>exact xj v n 0
 cases hi with
 |none=>rfl
 |some v=>exact xj v n n
theorem vo(i j:Nat):Builtin.Slice.slicePlaces (i:Int) (j:Int) 1=j-i:=by
 unfold Builtin.Slice.slicePlaces;have h1:(1:Int) > 0:=by omega
 simp only[h1,if_true,Int.ediv_one];split<;>omega
theorem lN{v:Value}{o:Option Int}{Q:Option Int->Shared->Prop}(p:IsPart v o)(h:Q o s):wpAny (model prog w) A (Builtin.Slice.slicePartIndex v) Q E s:=by
 cases p with
 |none=>exact slicePart_none h
 |int i t=>exact slicePart_int h
theorem jF{sl:Addr}{vl vu:Value}{lo hi:Option Int}{Q:Int×Int×Nat->Shared->Prop}(hs:s.heap.IsSliceOf sl vl vu .none)(pl:IsPart vl lo)(pu:IsPart vu hi)(h:Q (((cM n 0 lo:Nat):Int),1,cM n n hi-cM n 0 lo) s):wpAny (model prog w) A (Builtin.Slice.sliceApplied (.ref sl) (pure (n:Int))) Q E s:=by obtain⟨os,Pc,W3,SW⟩:=id hs;unfold Builtin.Slice.sliceApplied Builtin.Slice.sliceFields;refine wpAny_bind (wpAny_bind (wpAny_field Pc SW (x:=vl) rfl (wpAny_bind (wpAny_field Pc SW (x:=vu) rfl (wpAny_bind (wpAny_field Pc SW (x:=.none) rfl (wpAny_pure ?_)))))));refine wpAny_bind (slicePart_none ?_);show wpAny _ _ (if ((1:Int)==0)=true then _ else _) _ _ s;rw[if_neg (by decide)];refine wpAny_bind (lN pl (wpAny_bind (lN pu (wpAny_bind (wpAny_pure ?_)))));show wpAny _ _ (match Builtin.Slice.sliceAdjust lo hi 1 (n:Int) with|(lo,hi)=>pure (lo,(1:Int),Builtin.Slice.slicePlaces lo hi 1)) _ _ s;rw[vn lo hi n];show wpAny _ _ (pure (((cM n 0 lo:Nat):Int),(1:Int),Builtin.Slice.slicePlaces ((cM n 0 lo:Nat):Int) ((cM n n hi:Nat):Int) 1)) _ _ s;rw[vo];exact wpAny_pure h
theorem Be(xs:Array Value)(i k:Nat):((List.range k).filterMap λ(m:Nat)=>xs[((i:Int)+(m:Int) * 1).toNat]?).toArray=((xs.toList.drop i).take k).toArray:=by
 have e:(λ(m:Nat)=>xs[((i:Int)+(m:Int) * 1).toNat]?)=λm=>xs[i+m]?:=by
  funext m;have:((i:Int)+(m:Int) * 1).toNat=i+m:=by omega
  rw[this]
 rw[e];have:=pick_run xs i k;rw[SH] at this;have e2:((λx=>xs[x]?) ∘ λx=>i+x)=λm=>xs[i+m]?:=rfl;rw[e2] at this;rw[this]
theorem iR{t sl:Addr}{items:Array Value}{vl vu:Value}{lo hi:Option Int}(ht:IsTup s.heap t items)(hs:s.heap.IsSliceOf sl vl vu .none)(pl:IsPart vl lo)(pu:IsPart vu hi)(hw:¬ (cM items.size 0 lo=0/\cM items.size items.size hi=items.size))(h:Q (.ref s.heap.objs.size) {s with heap:=s.heap.push {cls:=.type "tuple",data:=.seq ((items.toList.drop (cM items.size 0 lo)).take (cM items.size items.size hi-cM items.size 0 lo)).toArray} })(hsz:items.size<=sizeLine):wpAny (model prog w) A (getItem (.ref t) (.ref sl)) Q E s:=by
 have xk:sizeOk (.seq ((items.toList.drop (cM items.size 0 lo)).take (cM items.size items.size hi-cM items.size 0 lo)).toArray):=by show ((items.toList.drop (cM items.size 0 lo)).take (cM items.size items.size hi-cM items.size 0 lo)).toArray.size<=sizeLine;rw[gh,JK,List.length_drop,JG];omega
 have hj:cM items.size items.size hi<=items.size:=KI _ _ (bG _) hi;obtain⟨os,Pc,W3,SW⟩:=id hs;have Yv:s.TypeIs (.ref sl) "slice":=⟨os,Pc,W3⟩;unfold getItem
 try with_reducible refine wpAny_holding ?_
 first|refine wpAny_bind (wpAny_pure ?_)|skip
 refine wpAny_bind (wpAny_sequenceKey ht.typeIs (by decide) ?_);refine wpAny_bind (wpAny_callSpecial?_slot (name:=Str.ofString "__getitem__") ht.typeIs T7
  (wpAny_call_entry T7 ht.typeIs entry_tuple_getitem ?_ (args_tuple_getitem _ _)))
 show wpAny _ _ (Builtin.Tuple.tupleItemsOf (.ref t) >>= _) _ _ s;refine wpAny_bind (tupleItemsOf_ ht ?_);refine wpAny_bind (wpAny_typeOf Yv ?_);rw[if_pos (by decide)];refine wpAny_bind (jF hs pl pu ?_);have Yw:¬ ((((cM items.size 0 lo:Nat):Int)==0 && (1:Int)==1 && (cM items.size items.size hi-cM items.size 0 lo)==items.size)=true):=by intro q;rw[gi,gi] at q;have q1:((cM items.size 0 lo:Nat):Int)=0:=eq_of_beq q.1.1;have q2:cM items.size items.size hi-cM items.size 0 lo=items.size:=eq_of_beq q.2;exact hw ⟨by omega,by omega⟩
 show wpAny _ _ (if (((cM items.size 0 lo:Nat):Int)==0 && (1:Int)==1 && (cM items.size items.size hi-cM items.size 0 lo)==items.size)=true then _ else _) _ _ s;rw[if_neg Yw,Be]
 first
  |exact wpAny_bind (m:=Builtin.Tuple.tupleExact _) (wpAny_newObj_type (wpAny_pure ⟨_,rfl,wpAny_pure h⟩) xk)
  |exact wpAny_bind (m:=Builtin.Tuple.tupleExact _) (wpAny_newObj_type (wpAny_bind (wpAny_pure (wpAny_pure ⟨_,rfl,wpAny_pure h⟩))) xk)
  |exact wpAny_bind (wpAny_bind (m:=Builtin.Tuple.tupleExact _) (wpAny_newObj_type (wpAny_pure (wpAny_pure ⟨_,rfl,wpAny_pure h⟩)) xk))
  |exact wpAny_bind (wpAny_bind (m:=Builtin.Tuple.tupleExact _) (wpAny_newObj_type (wpAny_pure ⟨_,rfl,wpAny_pure h⟩) xk))
end
end HT
variable{vs xs:qak}
namespace L2
open PySem PySem.Spec PyProof.Rows
abbrev TO:=St->Hp->(Option Int->Hp->Prop)->Prop
def PO(X:Cx)(e:Option Expr)(t:TO):Prop :=
 ∀(pins:qaa)(s:Shared)(σ:St)(H:Hp)(Q:Option Int->Hp->Prop),Inv X pins σ H s->t σ H Q ->
  wpAny (model X.prog X.w) X.A (evalPart e X.env) (λu s'=>∃o H',Inv X pins σ H' s'/\IsPart u o/\Q o H') X.xe s
def Fu:TO:=λ_ H Q=>Q none H
def Pe(t:TE):TO:=λσ H Q=>t σ H λx H1=>∃i,x=.int i/\Q (some i) H1
section
variable{X:Cx}{lo hi:Option Expr}{tl th:TO}
theorem Fv:PO X none Fu:=by intro pins s σ H Q I h;rw[evalPart_none];exact wpAny_pure ⟨none,H,I,.none,h⟩
theorem Fw(h:PE X e te):PO X (some e) (Pe te):=by intro pins s σ H Q I hw;rw[evalPart_some];refine bJ (h pins s σ H _ I hw) λu s1 ⟨x,H1,I1,r1,q1⟩=>?_;obtain⟨i,rfl,q⟩:=q1;obtain⟨t,rfl⟩:=r1;exact⟨some i,H1,I1,.int i t,q⟩
def Bf(X:Cx)(r:V->Option Int->Option Int->Hp->VK->Prop):Prop :=
 ∀(pins:qaa)(s:Shared)(σ:St)(H:Hp)(x:V)(v vl vu:Value)(lo hi:Option Int)(sl:Addr)(Q:VK),Inv X pins σ H s->RelV x v->s.heap.IsSliceOf sl vl vu .none->IsPart vl lo->IsPart vu hi->r x lo hi H Q ->
  ∃T id,typeLookup (.type T) "__getitem__"=pure (some (.builtin id))/\s.TypeIs v T/\wpAny (model X.prog X.w) X.A (getItem v (.ref sl)) (EP X pins σ Q) X.xe s
theorem Bf.or{r r':V->Option Int->Option Int->Hp->VK->Prop}(h:Bf X r)(h':Bf X r'):Bf X (λx lo hi H Q=>r x lo hi H Q\/r' x lo hi H Q):=by
 intro pins s σ H x v vl vu lo hi sl Q I rx hs pl pu q;obtain q|q:=q
 exact h pins s σ H x v vl vu lo hi sl Q I rx hs pl pu q;exact h' pins s σ H x v vl vu lo hi sl Q I rx hs pl pu q
def Yx(r:V->Option Int->Option Int->Hp->VK->Prop)(te:TE)(tl th:TO):TE:=λσ H Q=>te σ H λx H1=>tl σ H1 λl H2=>th σ H2 λu H3=>r x l u H3 Q
theorem Bg{r:V->Option Int->Option Int->Hp->VK->Prop}(hr:Bf X r)(he:PE X e te)(hl:PO X lo tl)(hu:PO X hi th):PE X (.Subscript e (.Slice lo hi none p2) pos) (Yx r te tl th):=by intro pins s σ H Q I h;refine Subscript_ (bJ (he pins s σ H _ I h) λv s1 ⟨x,H1,I1,r1,q1⟩=>?_);refine wpAny_Slice (bJ (hl pins s1 σ H1 _ I1 q1) λvl s2 ⟨l,H2,I2,pl,q2⟩=>bJ (hu pins s2 σ H2 _ I2 q2) λvu s3 ⟨u,H3,I3,pu,q3⟩=>?_);rw[evalPart_none];refine wpAny_pure ?_;have I4:Inv X pins σ H3 {s3 with heap:=s3.heap.push {cls:=.type "slice",data:=.fields #[vl,vu,.none]} }:=I3.kept (t':=s3.toks) λb ob q=>dg _ q;obtain⟨T,id,hT,ht,hg⟩:=hr pins {s3 with heap:=s3.heap.push {cls:=.type "slice",data:=.fields #[vl,vu,.none]} } σ H3 x v vl vu l u s3.heap.objs.size Q I4 r1 (Heap.IsSliceOf.new ..) pl pu q3;show wpAny (model X.prog X.w) X.A (subscriptTail e (.Slice lo hi none p2) v (.ref s3.heap.objs.size)) (EP X pins σ Q) X.xe {s3 with heap:=s3.heap.push {cls:=.type "slice",data:=.fields #[vl,vu,.none]} };exact tail_any (ops:=[.ref s3.heap.objs.size,v]) ht hT hg (by with_unfolding_all rfl)
noncomputable def sF(xs:qak)(lo hi:Option Int):qak:=(xs.drop (HT.cM xs.length 0 lo)).take (HT.cM xs.length xs.length hi-HT.cM xs.length 0 lo)
theorem kx(xs:qak)(lo hi:Option Int):(sF xs lo hi).length<=xs.length:=by unfold sF;rw[JK,List.length_drop];omega
def Pf(K:qaf):V->Option Int->Option Int->Hp->VK->Prop:=λx lo hi H Q=>∃a xs,x=.ref a/\dy K H a xs /\
 ¬ (HT.cM xs.length 0 lo=0/\HT.cM xs.length xs.length hi=xs.length)/\∀p,H p=none->Q (.ref p) (upd H p (.tup (sF xs lo hi)))
theorem KJ:Bf X (Pf X.K):=by
 intro pins s σ H x v vl vu lo hi sl Q I rx hs pl pu h;obtain⟨a,xs,rfl,hx,hw,q⟩:=h;cases rx;obtain⟨aH,r,ht,hz⟩:=I.tuple hx;have hlen:aH.toArray.size=xs.length:=by rw[gh];exact r.length.symm
 refine⟨"tuple",_,T7.lookup,ht.typeIs,?_⟩;refine HT.iR ht hs pl pu (by rw[hlen];exact hw) ?_ (by rw[hlen];exact hz);rw[hlen];refine⟨.ref s.heap.objs.size,_,I.laid (t':=s.toks) (o:=.tup (sF xs lo hi)) (λb ob q=>dg _ q) (bG _) ?_,rfl,q _ (I.ba.fresh (bG _))⟩;exact⟨km (kx xs lo hi) hz,_,(r.drop (HT.cM xs.length 0 lo)).take (HT.cM xs.length xs.length hi-HT.cM xs.length 0 lo),IsTup.new _ _⟩
theorem Vals.k9(r:Vals xs us):us=[]↔xs=[]:=by
 cases r with
 |_=>simp
end
noncomputable def y4(n:Nat)(i:Int):Option Nat:=if 0<=i then (if i<n then some i.toNat else none) else if -(n:Int)<=i then some (i+n).toNat else none
noncomputable def ky{α:Type}(xs:List α)(i:Int):Option α:=(y4 xs.length i).bind λj=>xs[j]?
theorem xm{i:Int}(h:y4 n i=some j):seqIndex? i n=some j/\j<n/\-(n:Int)<=i/\i<n:=by unfold y4 at h;by_cases h0:0<=i;rw[if_pos h0] at h;by_cases h1:i<n;rw[if_pos h1] at h;have e:i.toNat=j:=Option.some.inj h;exact⟨by rw[seqIndex_of h0 h1,e],by omega,by omega,h1⟩;rw[if_neg h1] at h;cases h;rw[if_neg h0] at h;by_cases h1 : -(n:Int)<=i;rw[if_pos h1] at h;have e:(i+n).toNat=j:=Option.some.inj h;exact⟨by rw[seqIndex_neg (by omega) h1,e],by omega,h1,by omega⟩;rw[if_neg h1] at h;cases h
theorem pX{xs:List α}{i:Int}{v:α}(h:ky xs i=some v):∃j,seqIndex? i xs.length=some j/\xs[j]?=some v/\j<xs.length/\-(xs.length:Int)<=i/\i<xs.length:=by
 unfold ky at h;cases e:y4 xs.length i with
 |none=>rw[e] at h;cases h
 |some j=>rw[e] at h;obtain⟨h1,h2,h3,h4⟩:=xm e;exact⟨j,h1,h,h2,h3,h4⟩
theorem ag{xs:List α}{v:α}(h:xs[j]?=some v):ky xs (j:Int)=some v:=by
 have hj:j<xs.length:=(dJ.mp h).1;have e:y4 xs.length (j:Int)=some j:=by unfold y4;rw[if_pos (by omega),if_pos (by omega)];simp
 unfold ky;rw[e];exact h
def xn(b:Expr):Prop:=∀o i,subscripted b false o i=operate [o,i] (getItem o i)
def Fx(X:Cx)(r:R2):Prop :=
 ∀(value slice:Expr)(pins:qaa)(s:Shared)(σ:St)(H:Hp)(x y:V)(v u:Value)(Q:VK),Inv X pins σ H s->RelV x v->RelV y u->r x y H Q ->
  subscripted slice false v u=operate [v,u] (getItem v u)->wpAny (model X.prog X.w) X.A (subscriptTail value slice v u) (EP X pins σ Q) X.xe s
def IC(X:Cx)(id:String)(r:V->qak->Hp->VK->Prop):Prop :=
 ∀(pins:qaa)(s:Shared)(σ:St)(H:Hp)(x:V)(xs:qak)(v:Value)(us:qag)(Q:VK),Inv X pins σ H s->RelV x v->Vals xs us->r x xs H Q ->
  wpAny (model X.prog X.w) X.A (call (.builtin id) (v::us)) (EP X pins σ Q) X.xe s
section
variable{X:Cx}{a b:Expr}{tb:TE}
theorem Fx.or{r':R2}(h:Fx X r)(h':Fx X r'):Fx X (λx y H Q=>r x y H Q\/r' x y H Q):=by
 intro value slice pins s σ H x y v u Q I rx ry q hs;obtain q|q:=q
 exact h value slice pins s σ H x y v u Q I rx ry q hs;exact h' value slice pins s σ H x y v u Q I rx ry q hs
theorem Pg(hr:Fx X r)(ha:PE X a ta)(hb:PE X b tb)(hs:xn b):PE X (.Subscript a b pos) (OR r ta tb):=by intro pins s σ H Q I h;exact Subscript_ (Km ha hb I h λv u s2 x y H2 I2 rx ry q=>hr a b pins s2 σ H2 x y v u Q I2 rx ry q (hs _ _))
noncomputable def Ph(K:qaf):R2:=λx y H Q=>∃p xs i v,x=.ref p/\y=.int i/\fq K H p xs/\ky xs i=some v/\Q v H
noncomputable def Pj(K:qaf):R2:=λx y H Q=>∃p xs i v,x=.ref p/\y=.int i/\dy K H p xs/\ky xs i=some v/\Q v H
noncomputable def Pk:R2:=λx y H Q=>∃z i c,x=.str z/\y=.int i/\z.length<=sizeLine/\ky z.cps.toList i=some c/\Q (.str ⟨#[c]⟩) H
theorem Fy:Fx X (Ph X.K):=by
 intro value slice pins s σ H x y v u Q I rx ry h hs;obtain⟨p,xs,i,z,rfl,rfl,hq,he,q⟩:=h;cases rx;obtain⟨t,rfl⟩:=ry;obtain⟨aH,r,pl,hz⟩:=I.list hq;obtain⟨j,h1,h2,h3,h4,h5⟩:=pX he;obtain⟨w,ew,rw'⟩:=r.get h2;have hl:=r.length;have hn:=jC;have fin:EP X pins σ Q w s:=⟨z,H,I,rw',q⟩;by_cases h0:0<=i;have hj:i.toNat=j:=by rw[seqIndex_of h0 h5] at h1;exact Option.some.inj h1
 exact item_listR pl.isList h0 (by omega) (by rw[hj];simpa using ew) fin hs;have hj:(i+(aH.toArray.size:Int)).toNat=j:=by rw[seqIndex_neg (by omega) h4] at h1;rw[gh,<- hl];exact Option.some.inj h1
 exact subscriptTail_builtinR (x:=w) pl.isList.typeIs slot_list_getitem.lookup
  (wpAny_getItem_list_neg (Q:=λr s'=>r=w/\EP X pins σ Q r s') pl.isList (by omega) (by rw[gh]<;>omega) (by omega) (by rw[hj];simpa using ew) ⟨rfl,fin⟩) hs
theorem KL:Fx X (Pj X.K):=by
 intro value slice pins s σ H x y v u Q I rx ry h hs;obtain⟨p,xs,i,z,rfl,rfl,hq,he,q⟩:=h;cases rx;obtain⟨t,rfl⟩:=ry;obtain⟨aH,r,pl,hz⟩:=I.tuple hq;obtain⟨j,h1,h2,h3,h4,h5⟩:=pX he;obtain⟨w,ew,rw'⟩:=r.get h2;have hl:=r.length;have hn:=jC;have fin:EP X pins σ Q w s:=⟨z,H,I,rw',q⟩;exact subscriptTail_builtinR (x:=w) pl.typeIs slot_tuple_getitem.lookup
  (getItem_tuple (j:=j) (Q:=λr s'=>r=w/\EP X pins σ Q r s') pl (by omega) (by omega) (by rw[gh,<- hl];exact h1) (by simpa using ew) ⟨rfl,fin⟩) hs
theorem KN:Fx X Pk:=by
 intro value slice pins s σ H x y v u Q I rx ry h hs;obtain⟨z,i,c,rfl,rfl,hz,he,q⟩:=h;obtain⟨t,rfl⟩:=rx;obtain⟨t',rfl⟩:=ry;obtain⟨j,h1,h2,h3,h4,h5⟩:=pX he;have hl:z.cps.toList.length=z.length:=by simp[Str.length]
 rw[hl] at h1 h4 h5;have hn:=jC;exact tail_any (typeIs_str s z t) slot_str_getitem.lookup (getItem_str (c:=c) (by have e1:decide (i < -(2 ^ 63:Int))=false:=decide_eq_false (by omega);have e2:decide (i ≥ 2 ^ 63)=false:=decide_eq_false (by omega);rw[e1,e2,Bool.or_false]) (by rw[h1];simpa using h2) ⟨.str ⟨#[c]⟩,H,I.tok _,⟨_,rfl⟩,q⟩) hs
noncomputable def W4(K:qaf):R2:=λx y H Q=>Ph K x y H Q\/Pj K x y H Q\/Pk x y H Q
theorem KO:Fx X (W4 X.K):=Fy.or (KL.or KN)
theorem vq(aH:qag)(n j:Nat)(u:Value):Obj.mapSeq (·.setIfInBounds j u) {cls:=.type "list",data:=.seq aH.toArray n}={cls:=.type "list",data:=.seq (aH.set j u).toArray n}:=by simp[Obj.mapSeq]
theorem Inv.lst{p:Addr}(I:Inv X pins σ H s)(h:H p=some (.lst xs)) :
  ∃(aH:qag)(n:Nat),Vals xs aH/\s.heap.get? p=some {cls:=.type "list",data:=.seq aH.toArray n}/\xs.length<=sizeLine:=by
 obtain⟨z,aH,n,r,e⟩:=I.ba p _ h;exact⟨aH,n,r,e,z⟩
theorem Inv.KP{p:Addr}{ys:qak}{aH its':qag}{n':Nat}{f:Obj->Obj}(I:Inv X pins σ H s)(h:H p=some (.lst xs))(ho:s.heap.get? p=some {cls:=.type "list",data:=.seq aH.toArray n})(hf:f {cls:=.type "list",data:=.seq aH.toArray n}={cls:=.type "list",data:=.seq its'.toArray n'})(r:Vals ys its')(hz:ys.length<=sizeLine)(t:Nat) :
  Inv X pins σ (upd H p (.lst ys)) {s with heap:=s.heap.update p f,toks:=t}:=by
 have e:(s.heap.update p f).get? p=some {cls:=.type "list",data:=.seq its'.toArray n'}:=by rw[Heap.get?_update_self f ho (by rw[hf]<;>rfl),hf]
 refine I.write (x:=p) (e:=p) (by rw[h];trivial) (.inl rfl) (λb u hb q=>(Heap.get?_update_other _ _ (Ne.symm hb)).trans q) ⟨_,e⟩ ?_;exact⟨hz,its',n',r,e⟩
def Pm:V->V->V->Hp->(Hp->Prop)->Prop:=λo i v H Q=>∃p xs k j,o=.ref p/\i=.int k/\H p=some (.lst xs)/\y4 xs.length k=some j/\Q (upd H p (.lst (xs.set j v)))
theorem set_list:OI X Pm:=by
 intro pins s σ H o i v ov iv u Q I ro ri rv h;obtain⟨p,xs,k,j,rfl,rfl,hp,hj,q⟩:=h;cases ro;obtain⟨t,rfl⟩:=ri;obtain⟨aH,n,r,ho,hz⟩:=I.lst hp;obtain⟨h1,h2,h3,h4⟩:=xm hj;have hl:=r.length;have hn:=jC;have I':Inv X pins σ (upd H p (.lst (xs.set j v))) {s with heap:=s.heap.update p (Obj.mapSeq (·.setIfInBounds j u))} :=
  I.KP hp ho (vq aH n j u) (r.set rv j) (by rw[List.length_set];exact hz) s.toks
 by_cases h0:0<=k;have hk:k.toNat=j:=by rw[seqIndex_of h0 h4] at h1;exact Option.some.inj h1
 exact PySem.W.ki_setAt ho h0 (by omega) (by rw[gh,<- hl];exact h4) (by rw[hk];exact⟨_,I',q⟩);have hk:(k+(aH.toArray.size:Int)).toNat=j:=by rw[seqIndex_neg (by omega) h3] at h1;rw[gh,<- hl];exact Option.some.inj h1
 exact PySem.W.ki_setBack ho (by omega) (by rw[gh,<- hl];exact h3) (by omega) (by rw[hk];exact⟨_,I',q⟩)
theorem pY(lo hi:Option Int)(n:Nat):(sliceBounds lo hi none n).1=((HT.cM n 0 lo:Nat):Int)/\(sliceBounds lo hi none n).2.1=((HT.cM n n hi:Nat):Int)/\(sliceBounds lo hi none n).2.2=1:=by
 refine⟨?_,?_,rfl⟩;cases lo with
 |none=>simp[sliceBounds,HT.cM]
 |some i=>simp only[sliceBounds,HT.cM,Option.getD_none,show (1:Int) > 0 by decide,if_true];by_cases h:i<0;simp only[h,if_true]<;>omega;simp only[h,if_false]<;>omega
 cases hi with
 |none=>simp[sliceBounds,HT.cM]
 |some i=>simp only[sliceBounds,HT.cM,Option.getD_none,show (1:Int) > 0 by decide,if_true];by_cases h:i<0;simp only[h,if_true]<;>omega;simp only[h,if_false]<;>omega
theorem nQ(aH:qag)(lo hi:Option Int):slicePick aH.toArray lo hi none=((aH.drop (HT.cM aH.length 0 lo)).take (HT.cM aH.length aH.length hi-HT.cM aH.length 0 lo)).toArray:=by obtain⟨h1,h2,h3⟩:=pY lo hi aH.toArray.size;unfold slicePick;rw[h1,h2,h3];simp only[sliceRange_one,pick_run,gh]<;>rfl
def Pn(K:qaf):V->Option Int->Option Int->Hp->VK->Prop:=λx lo hi H Q=>∃a xs,x=.ref a/\fq K H a xs/\∀p,H p=none->Q (.ref p) (upd H p (.lst (sF xs lo hi)))
theorem Fz:Bf X (Pn X.K):=by intro pins s σ H x v vl vu lo hi sl Q I rx hs pl pu h;obtain⟨a,xs,rfl,hx,q⟩:=h;cases rx;obtain⟨aH,r,ht,hz⟩:=I.list hx;have hlen:=r.length;refine⟨"list",_,slot_list_getitem.lookup,ht.isList.typeIs,?_⟩;refine wpAny_getItem_list_slice ht.isList hs pl pu .none (by simp) ?_ (by rw[gh]<;>omega);rw[nQ,<- hlen];refine⟨.ref s.heap.objs.size,_,I.laid (t':=s.toks) (o:=.lst (sF xs lo hi)) (λb ob q=>dg _ q) (bG _) ?_,rfl,q _ (I.ba.fresh (bG _))⟩;exact⟨km (kx xs lo hi) hz,_,0,(r.drop (HT.cM xs.length 0 lo)).take (HT.cM xs.length xs.length hi-HT.cM xs.length 0 lo),gN _ rfl⟩
noncomputable def gq:V->Bool
 |.a9=>true
 |.bl _=>true
 |.int _=>true
 |.str _=>true
 |_=>false
noncomputable def EF:V->V->Bool
 |.a9,.a9=>true
 |.bl a,.bl b=>a==b
 |.bl a,.int b=>(if a then 1 else 0)==b
 |.int a,.bl b=>a==(if b then 1 else 0)
 |.int a,.int b=>a==b
 |.str a,.str b=>a==b
 |_,_=>false
theorem KQ{y x:V}{v:Value}(ry:RelV y u)(rx:RelV x v)(fy:gq y=true)(fx:gq x=true):SeqAt.EqAt A s u v (EF y x):=by
 cases y with
 |a9=>
  cases ry;cases x with
  |a9=>cases rx;exact SeqAt.EqAt.same _
  |bl b=>cases rx;exact SeqAt.EqAt.none_bool b
  |int b=>obtain⟨t,rfl⟩:=rx;exact SeqAt.EqAt.none_int b t
  |str b=>obtain⟨t,rfl⟩:=rx;exact SeqAt.EqAt.none_str b t
  |_=>exact absurd (show false=true from fx) dO
 |bl a=>
  cases ry;cases x with
  |a9=>cases rx;exact SeqAt.EqAt.bool_none a
  |bl b=>cases rx;exact SeqAt.EqAt.bool_bool a b
  |int b=>obtain⟨t,rfl⟩:=rx;exact SeqAt.EqAt.bool_int a b t
  |str b=>obtain⟨t,rfl⟩:=rx;exact SeqAt.EqAt.bool_str a b t
  |_=>exact absurd (show false=true from fx) dO
 |int a=>
  obtain⟨t',rfl⟩:=ry;cases x with
  |a9=>cases rx;exact SeqAt.EqAt.int_none a t'
  |bl b=>cases rx;exact SeqAt.EqAt.int_bool a t' b
  |int b=>obtain⟨t,rfl⟩:=rx;exact SeqAt.EqAt.int_int a t' b t
  |str b=>obtain⟨t,rfl⟩:=rx;exact SeqAt.EqAt.int_str a t' b t
  |_=>exact absurd (show false=true from fx) dO
 |str a=>
  obtain⟨t',rfl⟩:=ry;cases x with
  |a9=>cases rx;exact SeqAt.EqAt.str_none a t'
  |bl b=>cases rx;exact SeqAt.EqAt.str_bool a t' b
  |int b=>obtain⟨t,rfl⟩:=rx;exact SeqAt.EqAt.str_int a t' b t
  |str b=>obtain⟨t,rfl⟩:=rx;exact SeqAt.EqAt.str_str a t' b t
  |_=>exact absurd (show false=true from fx) dO
 |_=>exact absurd (show false=true from fy) dO
noncomputable def FC(x:V)(u:Value):Bool:=match u with
 |.none=>EF .a9 x
 |.bool b=>EF (.bl b) x
 |.int i _=>EF (.int i) x
 |.str z _=>EF (.str z) x
 |_=>false
theorem Bh{x y:V}(r:RelV y u)(f:gq y=true):FC x u=EF y x:=by
 cases y with
 |a9=>cases r;rfl
 |bl b=>cases r;rfl
 |int i=>obtain⟨t,rfl⟩:=r;rfl
 |str z=>obtain⟨t,rfl⟩:=r;rfl
 |_=>exact absurd (show false=true from f) dO
theorem pZ{x:V}:∀{xs:qak}{us:qag},Vals xs us->xs.all gq=true->us.any (FC x)=xs.any λy=>EF y x
 |_,_,.nil,_=>rfl
 |y::xs,u::us,.cons r t,f=>by rw[List.all_cons,gi] at f;rw[yI,yI,Bh r f.1,pZ t f.2]
theorem lQ{A:Around}{s:Shared}{x:V}{v:Value}(rx:RelV x v)(fx:gq x=true):∀{xs:qak}{us:qag},Vals xs us->xs.all gq=true->∀u∈us,SeqAt.EqAt A s u v (FC x u)
 |_,_,.nil,_=>λu hu=>by cases hu
 |y::xs,u::us,.cons r t,f=>λu' hu=>by
  rw[List.all_cons,gi] at f;rcases dh.mp hu with rfl|hu
  rw[Bh r f.1];exact KQ r rx f.1 fx;exact lQ rx fx t f.2 u' hu
noncomputable def SX(x:V)(xs:qak):Bool:=xs.any λy=>EF y x
noncomputable def W5(K:qaf)(neg:Bool):R2:=λx y H Q=>∃p xs,y=.ref p/\(fq K H p xs\/dy K H p xs)/\gq x=true/\xs.all gq=true/\Q (.bl (if neg then !SX x xs else SX x xs)) H
theorem y6:dI X (compareOp .In) (W5 X.K false):=by
 intro pins s σ H x y v u Q I rx ry h;obtain⟨p,xs,rfl,hq,fx,fs,q⟩:=h;cases ry;obtain hq|hq:=hq
 obtain⟨aH,r,pl,hz⟩:=I.list hq;refine SeqAt.in_listAt (FC x) pl.isList (λw hw=>lQ rx fx r fs w (by simpa using hw)) ⟨.bl _,H,I,rfl,?_⟩;rw[show aH.toArray.any (FC x)=aH.any (FC x) by simp,pZ r fs];exact q;obtain⟨aH,r,pl,hz⟩:=I.tuple hq;refine SeqAt.in_tupleAt (FC x) pl (λw hw=>lQ rx fx r fs w (by simpa using hw)) ⟨.bl _,H,I,rfl,?_⟩;rw[show aH.toArray.any (FC x)=aH.any (FC x) by simp,pZ r fs];exact q
theorem p4:cL X (.builtin "len") (λxs H Q=>∃p ys,xs=[.ref p]/\(fq X.K H p ys\/dy X.K H p ys)/\Q (.int ys.length) H):=by
 intro pins s σ H xs us Q I r h;obtain⟨p,ys,rfl,hq,q⟩:=h;obtain⟨u,rfl,rx⟩:=vals1 r;cases rx;have hn:=jC;obtain hq|hq:=hq
 obtain⟨aH,r',pl,hz⟩:=I.list hq;have hlen:=r'.length;exact Calls.call_len_list pl.isList (by simp only[gh]<;>omega) ⟨.int ys.length,H,I.tok _,⟨s.toks+1,by rw[gh,hlen]⟩,q⟩;obtain⟨aH,r',pl,hz⟩:=I.tuple hq;have hlen:=r'.length;exact len_tuple pl (by simp only[gh]<;>omega) ⟨.int ys.length,H,I.tok _,⟨s.toks+1,by rw[gh,hlen]⟩,q⟩
theorem p5:cL X (.builtin "len") (λxs H Q=>∃z,xs=[.str z]/\z.length<=sizeLine/\Q (.int z.length) H):=by intro pins s σ H xs us Q I r h;obtain⟨z,rfl,hz,q⟩:=h;obtain⟨u,rfl,t,rfl⟩:=vals1 r;have hn:=jC;exact len_str (by omega) ⟨.int z.length,H,I.tok _,⟨_,rfl⟩,q⟩
theorem cL.or{f:Value}{r r':qak->Hp->VK->Prop}(h:cL X f r)(h':cL X f r'):cL X f (λxs H Q=>r xs H Q\/r' xs H Q):=by
 intro pins s σ H xs us Q I rs q;obtain q|q:=q
 exact h pins s σ H xs us Q I rs q;exact h' pins s σ H xs us Q I rs q
theorem p6:cL X (.type "list") (λxs H Q=>∃p ys,xs=[.ref p]/\(fq X.K H p ys\/dy X.K H p ys)/\∀l,H l=none->Q (.ref l) (upd H l (.lst ys))):=by
 intro pins s σ H xs us Q I r h;obtain⟨p,ys,rfl,hq,q⟩:=h;obtain⟨u,rfl,rx⟩:=vals1 r;cases rx;have fin:∀(aH:qag),Vals ys aH->ys.length<=sizeLine->∀(h':Heap)(c':Nat),(∀b o',s.heap.get? b=some o'->h'.get? b=some o') ->
   h'.get? s.heap.objs.size=some {cls:=.type "list",dict:=none,data:=.seq aH.toArray c',slots:=#[]}->EP X pins σ Q (.ref s.heap.objs.size) {s with heap:=h'}:=λaH r' hz h' c' kp e=>
  ⟨.ref s.heap.objs.size,_,I.laid (t':=s.toks) kp (bG _) (show bh X.prog X.w _ h' _ (.lst ys) from⟨hz,aH,c',r',e⟩),rfl,q _ (I.ba.fresh (bG _))⟩
 obtain hq|hq:=hq
 obtain⟨aH,r',pl,hz⟩:=I.list hq;have hlen:=r'.length;obtain⟨o,ho,hc,n,hd⟩:=pl.isList;exact call_list_seq p (.inl rfl) ho hc hd (λh' c' kp e=>fin aH r' hz h' c' kp e) (by simp only[gh]<;>omega);obtain⟨aH,r',pl,hz⟩:=I.tuple hq;have hlen:=r'.length;obtain⟨o,ho,hc,n,hd⟩:=pl;exact call_list_seq p (.inr rfl) ho hc hd (λh' c' kp e=>fin aH r' hz h' c' kp e) (by simp only[gh]<;>omega)
def UQ(K:qaf)(T:String)(x:V)(H:Hp):Prop:=match x with
 |.str _=>T="str"
 |.int _=>T="int"
 |.ref p=>(T="list"/\∃xs,fq K H p xs)\/(T="tuple"/\∃o,K.lookup p=some o/\o.cls=.type "tuple"/\o.dict=none) \/
  (T="dict"/\((∃kvs,H p=some (.dK kvs))\/∃kvs,H p=some (.dT kvs)))\/(T="set"/\∃S n,H p=some (.set S n))
 |_=>False
theorem Bi{T:String}{x:V}{v:Value}(I:Inv X pins σ H s)(r:RelV x v)(ty:UQ X.K T x H) :
  s.TypeIs v T/\∀a,v=.ref a->∃ob,s.heap.get? a=some ob/\ob.dict=none:=by
 cases x with
 |str z=>obtain⟨t,rfl⟩:=r;cases (show T="str" from ty);exact⟨typeIs_str s z t,λ_ e=>nomatch e⟩
 |int i=>obtain⟨t,rfl⟩:=r;cases (show T="int" from ty);exact⟨typeIs_int s i t,λ_ e=>nomatch e⟩
 |ref p=>
   cases r;obtain⟨rfl,xs,hq⟩|⟨rfl,o,hk,hc,hd⟩|⟨rfl,hk⟩|⟨rfl,S,n,hk⟩:=ty
   obtain⟨aH,_,pl,_⟩:=I.list hq;refine⟨pl.isList.typeIs,λa e=>?_⟩;cases e;obtain⟨o,n,e,c,hd,_⟩:=pl;exact⟨o,e,hd⟩;refine⟨⟨o,I.r8 p o hk,hc⟩,λa e=>?_⟩;cases e;exact⟨o,I.r8 _ o hk,hd⟩;have z:∃o,s.heap.get? p=some o/\o.ExactDict:=by
    obtain⟨kvs,hk⟩|⟨kvs,hk⟩:=hk
    obtain⟨_,_,_,_,o,_,_,e,ex,_⟩:=I.ba p _ hk;exact⟨o,e,ex⟩;obtain⟨_,_,_,_,o,_,_,e,ex,_⟩:=I.ba p _ hk;exact⟨o,e,ex⟩
   obtain⟨o,e,ex⟩:=z;refine⟨⟨o,e,ex.1⟩,λa e2=>?_⟩;cases e2;exact⟨o,e,ex.2.1⟩;obtain⟨o,_,_,_,e,ex,_⟩:=I.ba p _ hk;refine⟨⟨o,e,ex.1⟩,λa e2=>?_⟩;cases e2;exact⟨o,e,ex.2.1⟩
 |_=>exact False.elim ty
def UR(K:qaf)(T:String)(r:V->qak->Hp->VK->Prop)(to:TE):TE:=λσ H Q=>to σ H λx H1=>UQ K T x H1/\r x [] H1 Q
def Yy(K:qaf)(T:String)(r:V->qak->Hp->VK->Prop)(to:TE)(t:TA):TE:=λσ H Q=>to σ H λx H1=>UQ K T x H1/\t σ H1 λxs H2=>r x xs H2 Q
variable{o:Expr}{to:TE}{t:TA}{name:Str}{T id:String}{r:V->qak->Hp->VK->Prop}
theorem vt(pa:PlainAttrs T)(slot:Slot T name id)(KR:typeOf (.builtin id)=pure (.type "method_descriptor"))(hm:IC X id r)(ho:PE X o to)(cN:attributeBase o name X.env (eval o X.env)=eval o X.env:=by rfl)(cO:(apos.endLine==bf.line)=true:=by rfl):PE X (.Call (.Attribute o name apos) [] [] bf) (UR X.K T r to):=by intro pins s σ H Q I h;refine wpAny_Call_method0_late cN cO (bJ (ho pins s σ H _ I h) λv s1 ⟨x,H1,I1,r1,ty,q1⟩=>?_);obtain⟨h1,h2⟩:=Bi I1 r1 ty;exact⟨T,id,pa,slot,KR,h1,h2,Ss rfl (PySem.evalArgs_none (hm pins s1 σ H1 x [] v [] Q I1 r1 .nil q1))⟩
theorem Bj(pa:PlainAttrs T)(slot:Slot T name id)(KR:typeOf (.builtin id)=pure (.type "method_descriptor"))(hm:IC X id r)(ho:PE X o to)(ha:PA X (e::es) t)(cN:attributeBase o name X.env (eval o X.env)=eval o X.env:=by rfl)(vv:((backTo bf (starEach (e::es) X.env)).all (λx=>!x.1) && (backToKw bf (keywordEach [] X.env)).all (λx=>x.1.isSome)
    && decide ((e::es).length+([]:List Keyword).length+(if ([]:List Keyword).isEmpty then 0 else 1)<30))=true:=by rfl)(cO:(apos.endLine==bf.line)=true:=by rfl)(hs:starEach (e::es) X.env=(false,eval e X.env)::starEach es X.env:=by rfl)(ip:(backTo bf (starEach es X.env)).any (·.1)=false:=by rfl) :
  PE X (.Call (.Attribute o name apos) (e::es) [] bf) (Yy X.K T r to t):=by
 intro pins s σ H Q I h;refine wpAny_Call_method_late cN vv cO rfl (bJ (ho pins s σ H _ I h) λv s1 ⟨x,H1,I1,r1,ty,q1⟩=>?_);obtain⟨h1,h2⟩:=Bi I1 r1 ty;refine⟨T,id,pa,slot,KR,h1,h2,?_⟩;have hA:=ha bf pins s1 σ H1 _ I1 q1;rw[hs] at hA ⊢;refine Ss (by show (false || (backTo bf (starEach es X.env)).any (·.1))=false;rw[ip]<;>rfl) (Calls.evalArgs_plain ?_);exact bJ hA λus s2 ⟨vs,H2,I2,r2,q2⟩=>hm pins s2 σ H2 x vs v us Q I2 r1 r2 q2
end
def W6(X:Cx)(id:String)(r:V->qak->Hp->VK->Prop):Prop :=
 ∀(pins:qaa)(s:Shared)(σ:St)(H:Hp)(x:V)(xs:qak)(v:Value)(us:qag)(Q:VK),Inv X pins σ H s->RelV x v->Vals xs us->r x xs H Q ->
  wpAny (model X.prog X.w) X.A (call (.builtin id) (v::us)) (EP X pins σ Q) X.xe s
theorem Vals.one:∀{x:V}{us:qag},Vals [x] us->∃u,us=[u]/\RelV x u
 |_,_,.cons r .nil=>⟨_,rfl,r⟩
theorem Vals.zero:∀{us:qag},Vals [] us->us=[]
 |_,.nil=>rfl
theorem Vals.dropLast(h:Vals xs us):Vals xs.dropLast us.dropLast:=by
 induction h with
 |nil=>exact .nil
 |cons r t ih=>
  cases t with
  |nil=>exact .nil
  |cons q t'=>exact .cons r ih
theorem Vals.rep{xs:qak}{us:qag}(h:Vals xs us):∀k:Nat,Vals (List.replicate k xs).flatten (List.replicate k us).flatten
 |0=>.nil
 |k+1=>by rw[AD,AD,JJ,JJ];exact Vals.append h (Vals.rep h k)
theorem vz(l:List α):l.eraseIdx (l.length-1)=l.dropLast:=by
 induction l with
 |nil=>rfl
 |cons a r ih=>
  cases r with
  |nil=>rfl
  |cons b r=>
   have e:(a::b::r).length-1=((b::r).length-1)+1:=by have h1:(a::b::r).length=r.length+2:=rfl;have h2:(b::r).length=r.length+1:=rfl;omega
   rw[e,List.eraseIdx_cons_succ,ih]
   all_goals rfl
theorem foldl_rep(aH:qag):∀(k:Nat)(acc:qag),
  List.foldl (λx1 x2=>x1++x2) acc.toArray (List.replicate k aH.toArray)=(acc++(List.replicate k aH).flatten).toArray
 |0,acc=>by simp
 |k+1,acc=>by
   have e:acc.toArray++aH.toArray=(acc++aH).toArray:=by simp
   have e2:(acc++aH)++(List.replicate k aH).flatten=acc++(List.replicate (k+1) aH).flatten:=by rw[AD,JJ,NK]
   rw[<- e2,<- foldl_rep aH k (acc++aH),<- e,AD,List.foldl_cons]
section
variable{X:Cx}{l b:Addr}{ys zs:qak}
theorem Inv.Po{aH its':qag}{f:Array Value->Array Value}(I:Inv X pins σ H s)(hH:H l=some (.lst xs))(e:s.heap.get? l=some {cls:=.type "list",data:=.seq aH.toArray n})(hf:f aH.toArray=its'.toArray)(hv:Vals ys its')(hz:ys.length<=sizeLine) :
  Inv X pins σ (upd H l (.lst ys)) {s with heap:=s.heap.update l (Obj.mapSeq f),toks:=t'}:=by
 have q:=PySem.IsL.update e f;rw[hf] at q;refine I.write (x:=l) (e:=l) (by rw[hH];exact trivial) (.inl rfl) (λb' u hb hu=>(Heap.get?_update_other s.heap (Obj.mapSeq f) (Ne.symm hb)).trans hu) ⟨_,q⟩ ?_;exact⟨hz,its',_,hv,q⟩
theorem Inv.Pp{aH:qag}(I:Inv X pins σ H s)(hv:Vals ys aH)(hz:ys.length<=sizeLine) :
  Inv X pins σ (upd H s.heap.objs.size (.lst ys)) {s with heap:=s.heap.push {cls:=.type "list",data:=.seq aH.toArray},toks:=t'} :=
 I.laid (λ_ _ q=>dg _ q) (bG _) ⟨hz,aH,0,hv,gN _ rfl⟩
theorem Inv.fresh(I:Inv X pins σ H s):H s.heap.objs.size=none:=I.ba.fresh (bG _)
theorem Inv.KS(I:Inv X pins σ H s)(hH:H l=some (.lst xs)):xs.length<=sizeLine/\∃(aH:qag)(n:Nat),Vals xs aH/\xs.length=aH.length/\s.heap.get? l=some {cls:=.type "list",data:=.seq aH.toArray n}:=by obtain⟨z,aH,n,r,e⟩:=I.ba l _ hH;exact⟨z,aH,n,r,r.length,e⟩
theorem Bk(h:n<=sizeLine):Builtin.List.listTooLong n=false:=by unfold Builtin.List.listTooLong;exact decide_eq_false (by omega)
end
section
variable{X:Cx}
def xo:V->qak->Hp->VK->Prop:=λx vs H Q=>∃l xs y,x=.ref l/\vs=[y]/\H l=some (.lst xs)/\xs.length<sizeLine/\Q .a9 (upd H l (.lst (xs++[y])))
theorem bW:W6 X "list.append" xo:=by intro pins s σ H x vs v us Q I rx rv h;obtain⟨l,xs,y,rfl,rfl,hH,hz,q⟩:=h;cases rx;obtain⟨u,rfl,ru⟩:=rv.one;obtain⟨z,aH,n,r,hl,e⟩:=I.KS hH;refine call_meets F.slot_list_append ⟨_,e,rfl⟩ F.entry_list_append (F.args_list_append_2 _ _) (PySem.list_append l aH.toArray n u (by rw[gh];omega)) ⟨e,?_⟩;refine⟨.a9,_,I.Po (its':=aH++[u]) hH e (by simp) (r.append (.cons ru .nil)) ?_,rfl,q⟩;rw[yH,List.length_singleton];omega
def Pq:V->qak->Hp->VK->Prop:=λx vs H Q=>∃l xs y,x=.ref l/\vs=[]/\H l=some (.lst xs)/\xs[xs.length-1]?=some y/\Q y (upd H l (.lst xs.dropLast))
theorem KU:W6 X "list.pop" Pq:=by
 intro pins s σ H x vs v us Q I rx rv h;obtain⟨l,xs,y,rfl,rfl,hH,hy,q⟩:=h;cases rx;have US:=rv.zero;subst US;obtain⟨z,aH,n,r,hl,e⟩:=I.KS hH;obtain⟨u,hu,ru⟩:=r.get hy;have Yz:aH.toArray[aH.toArray.size-1]?=some u:=by show aH.toArray[aH.length-1]?=some u;rw[<- EW,<- hl];exact hu
 refine call_meets F.slot_list_pop ⟨_,e,rfl⟩ F.entry_list_pop (F.args_list_pop_1 _) (MeetsSeq.list_pop_last l aH.toArray n u Yz (by rw[gh];omega)) ⟨e,?_⟩;refine⟨y,_,I.Po (its':=aH.dropLast) hH e ?_ r.dropLast ?_,ru,q⟩;show aH.toArray.eraseIdxIfInBounds (aH.toArray.size-1)=aH.dropLast.toArray;rw[gh,List.eraseIdxIfInBounds_toArray,vz];rw[NI];omega
noncomputable def UT:R2:=λx y H Q=>∃l k xs,x=.ref l/\y=.int k/\H l=some (.lst xs)/\-(2 ^ 63)<=k/\k<2 ^ 63/\xs.length * k.toNat<=sizeLine /\
 ∀p,H p=none->Q (.ref p) (upd H p (.lst (List.replicate k.toNat xs).flatten))
theorem len_rep(xs:List α)(k:Nat):(List.replicate k xs).flatten.length=k * xs.length:=by
 induction k with
 |zero=>simp
 |succ k ih=>rw[AD,JJ,yH,ih,Nat.succ_mul,Nat.add_comm]
theorem KW:dI X (binaryOp .Mult) UT:=by
 intro pins s σ H x y v u Q I rx ry h;obtain⟨l,k,xs,rfl,rfl,hH,h1,h2,hz,q⟩:=h;cases rx;obtain⟨t,rfl⟩:=ry;obtain⟨z,aH,n,r,hl,e⟩:=I.KS hH;have hlen:aH.toArray.size * k.toNat<=sizeLine:=by rw[gh,<- hl];exact hz
 have UU:¬ aH.toArray.size * k.toNat > (2 ^ 63-1) / 8:=by
  have:(sizeLine:Nat)<=(2 ^ 63-1) / 8:=by decide
  omega
 have UW:¬ (!Builtin.List.listFitsIndex k)=true:=by rw[fitsIndex_both h1 h2];exact dO
 have Pr:¬ Builtin.List.listTooLong (aH.toArray.size * k.toNat)=true:=by rw[Bk hlen];exact dO
 have UX:List.foldl (λx1 x2=>x1++x2) #[] (List.replicate (if aH.toArray.isEmpty=true then 0 else k.toNat) aH.toArray)=(List.replicate k.toNat aH).flatten.toArray:=by
  have f0:∀m:Nat,List.foldl (λx1 x2=>x1++x2) #[] (List.replicate m aH.toArray)=(List.replicate m aH).flatten.toArray:=λm=>by have:=foldl_rep aH m [];rw[List.nil_append] at this;exact this
  rw[f0];cases aH with
  |nil=>simp
  |cons a r'=>rw[if_neg (by simp)]
 refine wpAny_binaryOp_repeat_ref (T:="list") (U:="int") (by decide) ⟨_,e,rfl⟩ (λs'=>typeIs_int s' k t) noFill_list_mul F.fills_int_mul F.slot_int_rmul repeat_list F.slot_int_index.lookup
  (call_meets F.slot_int_rmul (typeIs_int s k t) F.entry_int_rmul (F.args_int_rmul_2 _ _) (int___rmul___int_list k t l aH.toArray n)
   ⟨e,rfl,⟨_,e,rfl⟩,call_meets F.slot_list_mul ⟨_,e,rfl⟩ F.entry_list_mul (F.args_list_mul_2 _ _) (AutoListH.list___mul___list_int_3 l aH.toArray n k t UW UU Pr) ⟨e,?_⟩⟩)
 rw[UX];exact⟨.ref _,_,I.Pp (t':=s.toks) (r.rep k.toNat) (by rw[len_rep,Nat.mul_comm];exact hz),rfl,q _ I.fresh⟩
end
end L2
namespace SY
open PySem PySem.W PySem.Calls PyProof.Rows
theorem kP{P:Params}:∀(ns:qan)(vs:qag),WellAll P h vs (ns.map WData.int)->IntsAre vs ns:=by
 intro ns;induction ns with
 |nil=>intro vs w;rw[NQ] at w;cases w;exact .nil
 |cons n ns ih=>
  intro vs w;rw[gj] at w;cases w with
  |cons a b=>cases a;exact .cons _ _ (ih _ b)
theorem y7{l:OpenLaw}(hn:l.most=some n){P:Params}{args:List WData}{vals:qag}(y8:l.row.toRowW.claim.pre args=true)(Pt:WellAll P h vals args) :
  ∃a vs ns,vals=[Value.ref a]/\args=[WData.list (ns.map WData.int)]/\h.get? a=some {cls:=.type "list",data:=.seq vs.toArray}/\IntsAre vs ns/\ns.length<=n:=by
 have YA:WShape.hasAll [] args [.list .int]=true:=(pre_splitW y8).1;have hc:l.pre.holds [] {args:=args}=true:=(pre_splitW y8).2;obtain⟨d,r,rfl,h1,h2⟩:=hasAllW_cons YA;obtain rfl:=hasAllW_nil h2;obtain⟨xs,rfl,h3⟩:=hasW_list h1;obtain⟨ns,rfl⟩:=items_int h3;have hlen:ns.length<=n:=by
  unfold OpenLaw.pre at hc;have h4:(WTm.not (.lt (.lit (.int (n:Int))) (.len (.arg 0)))).holds [] {args:=[.list (ns.map .int)]}=true:=by have h4:=(holds_andW hc).1;rw[hn] at h4;exact h4
  have h5:=condW_of h4 (w_not (w_lt w_lit (w_len_list (w_arg rfl))));rw[cn] at h5;refine Nat.le_of_not_lt λq=>?_;have q':(n:Int)<((ns.length:Nat):Int):=by omega
  first
   | (rw[decide_eq_true q'] at h5;exact absurd h5 (by decide))
   | (simp at h5;omega)
 cases Pt with
 |cons w1 w2=>
   cases w2;cases w1 with
   |list ho KY=>exact⟨_,_,ns,rfl,rfl,ho,kP ns _ KY,hlen⟩
theorem y9(l:OpenLaw)(args:List WData):l.row.toRowW.claim.post args (.bool true) args=true :=
 postW_of (r:=l.row.toRowW) (X:=(true==true))
  (show WShape.has [] (.bool true) .bool=true by first|rfl|decide|simp[WShape.has,WShape.arms,WShape.armsAll])
  (show (WTm.eq .res (.lit (.bool true))).value [] {args:=args,res:=some (.bool true),after:=args}=some (.bool (true==true)) from w_eq_bool (w_res rfl) w_lit) rfl
theorem sG{l:OpenLaw}{q:Program}{loose:qai}{XP:(qae)->Heap->Prop}{YP:World->Heap->Prop}{d:DefRec}(hn:l.most=some n)(Pu:d.params.defaults=[])(call:∀(w:World) (s₀ s₁:Shared) (mg mb:qae) (fa:Addr) (o:Obj) (pm cd doc:Value) (a:Addr) (vs:qag) (ns:qan),
    Ground q loose [] XP w s₀ mg mb s₁.heap->YP w s₁.heap ->
    s₁.heap.get? fa=some o->o.data=.func (docDef d.name d.params d.body d.scope pm cd doc)->s₁.heap.CodeRec cd d.name->mg d.name=some (.ref fa) ->
    s₁.heap.get? a=some {cls:=.type "list",data:=.seq vs.toArray}->IntsAre vs ns->ns.length<=n->s₁.gens=#[] ->
    codeAny (model l.prog w) callerA (.call (.ref fa) ⟨[.ref a],[]⟩) (λr s'=>r=.ok (.ret (.bool true))/\OldK s₁.heap s'.heap/\s'.os=s₁.os/\AllBare s'.gens) s₁) :
  WalkO q loose XP YP l.row.toRowW d [] (λf vs=>PySem.call f vs):=by
 intro w s₀ s₁ mg mb G Y fa o pm cd doc dV kV ho hd eI hD Pw hg args vals as y8 Px W7 Pt EG;obtain rfl:dV=.none:=Dflts.none hD Pu;obtain rfl:kV=.none:=Dflts.noKw hD;obtain⟨a,vs,ns,rfl,rfl,KZ,hints,hlen⟩:=y7 hn y8 Pt;refine enter_call (codeAny_mono (call w s₀ s₁ mg mb fa o pm cd doc a vs ns G Y ho (fd_plain hd) eI Pw KZ hints hlen hg) λr s' hq=>?_);obtain⟨rfl,h2,h3,h4⟩:=hq;exact⟨.inl ⟨.bool true,.bool true,[],rfl,λ_=>rfl,.bool true,y9 l _,λ_=>⟨List.Pairwise.nil,λ_ hm=>(nomatch hm)⟩⟩,h2,h3,h4⟩
end SY
namespace L2
open PySem PySem.Spec PyProof.Rows
theorem oO:∀{vs:qag}{ns:qan},IntsAre vs ns->Vals (ns.map V.int) vs
 |_,_,.nil=>.nil
 |_,_,.cons n t h=>.cons ⟨t,rfl⟩ (oO h)
def Py(H:Hp):Prop:=∀b,H b=none\/∃o xs,H b=some (.dH o (.lst xs))
theorem Bl{mb:qae}{CX:AJ}{fa a:Addr}{sp:Sp}{s₁:Shared}{vs:qag}{ns:qan}(KX:K.In s₁.heap)(W8:s₁.heap.Ns mainGlobals mg)(hb:s₁.heap.Ns builtinsNs mb)(YB:∀x:Str,x≠"__name__"->mb x=bootBuiltins x)(UY:s₁.heap.NoLimit)(hg:s₁.gens=#[])(ha:s₁.heap.get? a=some {cls:=.type "list",data:=.seq vs.toArray})(hi:IntsAre vs ns)(hl:ns.length<=sizeLine)(hr:bb k callerA)(F:∀base:Heap,K.In base->base.Ns mainGlobals mg->cU P w K mg base CX k fa fd [x] sp)(Pz:∀(s:Shared) (u:Value),BindsTo s fd ⟨[u],[]⟩ [(x,u)])(NT:∀H:Hp,Py H->fq K H a (ns.map V.int)->sp [.ref a] H (λv _=>v=.bl true) λ_ _ _=>False)(YC:∀H e s',CX [] H s₁ (λ_ _ _=>False) e s'->False) :
  codeAny (model P w) callerA (.call (.ref fa) ⟨[.ref a],[]⟩) (λr s'=>r=.ok (.ret (.bool true))/\OldK s₁.heap s'.heap/\s'.os=s₁.os/\AllBare s'.gens) s₁:=by
 have rv:=oO hi;have UZ:=hi.length;have core:∀H:Hp,Py H->fq K H a (ns.map V.int)->g8 P w H s₁.heap->(∀b,H b≠none->b=a)->(H a≠none->K.lookup a=none) ->
   codeAny (model P w) callerA (.call (.ref fa) ⟨[.ref a],[]⟩) (λr s'=>r=.ok (.ret (.bool true))/\OldK s₁.heap s'.heap/\s'.os=s₁.os/\AllBare s'.gens) s₁:=by
  intro H hO hS ba hA hK;have xp:∀{b:Addr}{o:Obj},s₁.heap.get? b=some o->H b=none->(pS s₁.heap H).get? b=some o:=λe n=>AY e n;have O9:∀{b:Addr}{o:Obj}{es:Array DictEntry}{ep:Nat},s₁.heap.get? b=some o->o.data=.dict es ep->H b=none:=λ{b o es ep} e d=>by
   cases q:H b with
   |none=>rfl
   |some u=>have e':b=a:=hA b (by rw[q];simp);subst e';rw[ha] at e;cases e;have d':Data.seq vs.toArray _=Data.dict es ep:=d;cases d'
  have S6:∀{b:Addr}{m:qae},s₁.heap.Ns b m->(pS s₁.heap H).Ns b m:=λ{b m} ⟨o,es,ep,e,d,r⟩=>⟨o,es,ep,xp e (O9 e d),d,r⟩;have W9:K.In (pS s₁.heap H):=λb o e=>xp (KX b o e) (by
   cases q:H b with
   |none=>rfl
   |some u=>have e':b=a:=hA b (by rw[q];simp);subst e';rw[hK (by rw[q];simp)] at e;cases e)
  have hM:Mod K mg (pS s₁.heap H):=⟨W9,S6 W8,⟨mb,S6 hb,YB⟩,let ⟨mc,h1,h2⟩:=UY;⟨mc,S6 h1,h2⟩⟩;have e0:vk P w K mg (pS s₁.heap H) callerA [] s₁ H:=⟨rfl,hM,λb o e=>E3 e,Nat.le_of_eq (yL _ _),trivial,λb hb=>absurd (show b∈([]:qah) from hb) (by simp),ba,.of_eq hg⟩;refine codeAny_mono ((F _ W9 (S6 W8)).run callerA [] s₁ H ⟨[.ref a],[]⟩ [.ref a] [.ref a] _ _ hr e0 (Pz s₁ (.ref a)) (.cons rfl .nil) (NT H hO hS)) λr s' h=>?_;cases r with
  |error e=>exact (YC H e s' h).elim
  |ok fl=>
    cases fl with
    |ret u=>
      obtain⟨v,H',os,bare,un,U0,r',q⟩:=h;have q':v=.bl true:=q;subst q';obtain rfl:u=Value.bool true:=r';refine⟨rfl,OldK.of_keep λb o e=>?_,os,bare⟩;cases q:H b with
      |none=>exact un.keep b o e q (by intro z;exact absurd (show b∈([]:qah) from z) (by simp)) (by simp)
      |some u=>
        rcases hO b with z|⟨ob,xs,z⟩
        rw[q] at z;cases z;have z2:=un.lF b ob _ z;obtain⟨e1,_⟩:=ba b _ z;obtain⟨e2,_⟩:=U0 b _ z2;rw[e] at e1;cases e1;exact e2
    |_=>exact False.elim h
 cases hk:K.lookup a with
 |some o=>have e:=KX a o hk;rw[ha] at e;cases e;refine core (λ_=>none) (λ_=>.inl rfl) (.inr ⟨_,vs.toArray,_,hk,rfl,rfl,rfl,by rw[gh,UZ];exact hl,by simpa using rv⟩) (λb u z=>by have z':(none:Option HO)=some u:=z;cases z') (λb z=>absurd rfl z) λz=>absurd rfl z
 |none=>refine core (λb=>if b=a then some (.dH {cls:=.type "list",data:=.seq vs.toArray} (.lst (ns.map V.int))) else none) (λb=>?_) (.inl (.inr ⟨{cls:=.type "list",data:=.seq vs.toArray},if_pos rfl⟩)) (λb u z=>?_) (λb z=>?_) λ_=>hk;by_cases hb:b=a;exact .inr ⟨_,_,if_pos hb⟩;exact .inl (if_neg hb);by_cases hb:b=a;have z':=(if_pos hb).symm.trans z;cases z';subst hb;exact⟨ha,by rw[cn];exact hl,vs,_,rv,ha⟩;have z':=(if_neg hb).symm.trans z;cases z';by_cases hb:b=a;exact hb;exact absurd (if_neg hb) z
noncomputable def inClass(s:Stmt)(j:Nat):Stmt:=match s with
 |.ClassDef _ _ _ body _ _ _ _ _ _ _=>body.getD j (.Pass ⟨0,0,0,0⟩)
 |_=>.Pass ⟨0,0,0,0⟩
noncomputable def c_(s:Stmt):Arguments:=match s with
 |.FunctionDef _ a _ _ _ _ _ _ _ _=>a
 |_=>{posonlyargs:=[],args:=[],vararg:=none,kwonlyargs:=[],kw_defaults:=[],kwarg:=none,defaults:=[]}
def bB(s:Stmt):qaq:=match s with
 |.FunctionDef _ _ b _ _ _ _ _ _ _=>b
 |_=>[]
noncomputable def aq(s:Stmt):Scope:=match s with
 |.FunctionDef _ _ _ _ _ _ sc _ _ _=>sc
 |_=>{kind:=.function,names:=[],isGenerator:=false,isCoroutine:=false}
abbrev gP:AJ:=λ_ _ _ _ _ _=>False
abbrev E0:XK:=λ_ _ _=>False
theorem kz{X:Cx}:Passes gP X E0:=λ_ _ _ _ _ _ _ h=>h.elim
structure y_(K:qaf)(x qual:Str)(st:Stmt)(f:Addr)(fd:FuncData):Prop where
 ex:∃(oc:Value)(od:qar)(kV doc pm:Value)(an:qar)(bw ct:Value)(EC:Array (Option Value)),
  fd=PySem.W.fnOf x qual (c_ st) (bB st) (aq st) .none kV doc pm an bw ct/\K.lookup f=some ⟨oc,od,.func fd,EC⟩/\PySem.W.codeIn K bw qual=true
 kp:PySem.W.keepIn K (.ref f)=true
section
theorem y_.ok{st:Stmt}{N:qai}{sp:Sp}(F:y_ K x qual st f fd)(S:aG N ps (aq st))(len:∀vs H Q E,sp vs H Q E->vs.length=ps.length)(dP:∀(bw:Value) (A:Around) (outer:List Env) (s:Shared) (H:Hp) (vs:qak) (Q:VK) (E:XK),bb k (A.deeper (envOfC qual (aq st) s.heap.objs.size f bw))->sp vs H Q E ->
    ∃t,ik (il gP P w K mg base N qual (aq st) f bw A outer s H E).yO (bB st) t/\t {nx:=λ_ H'=>Q .a9 H',rt:=Q} (start N vs) H):cU P w K mg base gP (k+1) f fd ps sp:=by
 obtain⟨oc,od,kV,doc,pm,an,bw,ct,EC,rfl,lk,eI⟩:=F.ex;refine O_ lk eI S len λA outer s H vs Q E hr NT=>?_;obtain⟨t,h,q⟩:=dP bw A outer s H vs Q E hr NT;exact⟨t,h.yO,q⟩
theorem y_.binds{st:Stmt}(F:y_ K x qual st f fd)(h:∀(kV doc pm:Value) (an:qar) (bw ct:Value) (us:qag),us.length=ps.length->bindArgs (PySem.W.fnOf x qual (c_ st) (bB st) (aq st) .none kV doc pm an bw ct) ⟨us,[]⟩=pure (ps.zip us)):Binds K fd ps []:=by obtain⟨oc,od,kV,doc,pm,an,bw,ct,EC,rfl,lk,eI⟩:=F.ex;exact .all (h kV doc pm an bw ct)
theorem p7{st:Stmt}{oc:Value}{od an:qar}{EC:Array (Option Value)}{kV doc pm bw ct:Value}(l:K.lookup f=some ⟨oc,od,.func (PySem.W.fnOf x qual (c_ st) (bB st) (aq st) .none kV doc pm an bw ct),EC⟩)(c:PySem.W.codeIn K bw qual=true)(k:PySem.W.keepIn K (.ref f)=true):y_ K x qual st f (PySem.W.fnOf x qual (c_ st) (bB st) (aq st) .none kV doc pm an bw ct):=⟨⟨oc,od,kV,doc,pm,an,bw,ct,EC,rfl,l,c⟩,k⟩
end
theorem za(h:n<=1000):n<sizeLine:=Nat.lt_of_le_of_lt h (by decide)
section
variable{X:Cx}
theorem pv(i:Nat)(hN:X.N[i]?=some x:=by rfl)(hv:ko X.env.scope x:=by first|exact Or.inl rfl|exact Or.inr (Or.inl rfl)|exact Or.inr (Or.inr rfl))(hd:eG x:=by decide)(eI:nJ x:=by decide):PE X (.Name x pos) (yN i):=bD hN hv hd eI
end
theorem PB{A:Prop}(h:B):if false=true then A else B:=by rw[if_neg dO];exact h
theorem PC{A:Prop}(h:A):if true=true then A else B:=by rw[if_pos rfl];exact h
theorem zc{c A:Prop}[Decidable c](h1:c->A)(h2:¬ c->B):if c then A else B:=by by_cases h:c;rw[if_pos h];exact h1 h;rw[if_neg h];exact h2 h
def aF(H H':Hp):Prop:=∀b o,H b=some o->H' b=some o
theorem aF.refl(H:Hp):aF H H:=λ_ _ h=>h
theorem aF.trans{H1 H2:Hp}(a:aF H H1)(b:aF H1 H2):aF H H2:=λc o h=>b c o (a c o h)
section
theorem fB{env:Env}{f:Str×NameKind->List (Str×Addr)->Sem (ForInStep (List (Str×Addr)))}:∀(l:List (Str×NameKind))(cs:List (Str×Addr)),
  (∀p∈l,∀r,(p.2=.free->∃c,env.cells.lookup p.1=some c/\f p r=pure (.yield ((p.1,c)::r)))/\(p.2≠.free->f p r=pure (.yield r))) ->
  ∃cl,forIn l cs f=pure cl/\(∀y c,cl.lookup y=some c->cs.lookup y=some c\/env.cells.lookup y=some c)/\(∀y,(cs.lookup y).isSome=true->(cl.lookup y).isSome=true) /\
   ∀p∈l,p.2=.free->(cl.lookup p.1).isSome=true
 |[],cs,_=>⟨cs,by rw[List.forIn_nil],λ_ _ h=>.inl h,λ_ h=>h,λ_ h=>nomatch h⟩
 |p::l,cs,hf=>by
   have hr:∀q∈l,∀r,(q.2=.free->∃c,env.cells.lookup q.1=some c/\f q r=pure (.yield ((q.1,c)::r)))/\(q.2≠.free->f q r=pure (.yield r)):=λq hq r=>hf q (d3 _ hq) r;by_cases hp:p.2=.free;obtain⟨c,hc,e⟩:=(hf p dq cs).1 hp;obtain⟨cl,h1,h2,h3,h4⟩:=fB l ((p.1,c)::cs) hr;refine⟨cl,?_,λy d h=>?_,λy h=>h3 y ?_,λq hq S7=>?_⟩;rw[JN,e];exact h1;rcases h2 y d h with z|z
   rw[EY] at z;cases hy:y==p.1 with
   |true=>rw[hy] at z;have ey:y=p.1:=eq_of_beq hy;cases z;rw[ey];exact .inr hc
   |false=>rw[hy] at z;exact .inl z
   exact .inr z;rw[EY];cases hy:y==p.1 with
   |true=>rfl
   |false=>exact h
   rcases dh.mp hq with z|z
   subst z;refine h3 _ ?_;rw[EY,beq_self_eq_true];rfl;exact h4 q z S7;have e:=(hf p dq cs).2 hp;obtain⟨cl,h1,h2,h3,h4⟩:=fB l cs hr;refine⟨cl,?_,h2,h3,λq hq S7=>?_⟩;rw[JN,e];exact h1;rcases dh.mp hq with z|z
   subst z;exact absurd S7 hp;exact h4 q z S7
theorem kQ{scope:Scope}{env:Env}(h:∀p∈scope.names,p.2=.free->∃c,env.cells.lookup p.1=some c) :
  ∃cl,closureFor scope env=pure cl/\(∀y c,cl.lookup y=some c->env.cells.lookup y=some c)/\∀p∈scope.names,p.2=.free->∃c,cl.lookup p.1=some c:=by
 have key:∃cl,closureFor scope env=pure cl/\(∀y c,cl.lookup y=some c->([]:List (Str×Addr)).lookup y=some c\/env.cells.lookup y=some c)/\(∀y,(([]:List (Str×Addr)).lookup y).isSome=true->(cl.lookup y).isSome=true) /\
   ∀p∈scope.names,p.2=.free->(cl.lookup p.1).isSome=true:=by
  simp only[closureFor];have go:=@fB env (λx r=>if x.2==NameKind.free then (do let c <- cellOf env x.1;pure (ForInStep.yield ((x.1,c)::r))) else pure (ForInStep.yield r)) scope.names [] ?_;obtain⟨cl,h1,h2⟩:=go;refine⟨cl,?_,h2⟩
  first
   | (show (forIn scope.names [] _ >>= λcs=>pure cs)=_;rw[h1];rfl)
   | (rw[h1];rfl)
   |exact congrArg (· >>= pure) h1
  intro p hp r;refine⟨λhf=>?_,λhf=>?_⟩;obtain⟨c,hc⟩:=h p hp hf;refine⟨c,hc,?_⟩;have e1:(p.2==NameKind.free)=true:=by rw[hf];rfl
  have e2:cellOf env p.1=pure c:=by unfold cellOf;rw[hc]
  rw[e1,if_pos rfl,e2];rfl;have e1:(p.2==NameKind.free)=false:=by simpa using hf
  rw[e1,if_neg (by decide)]
 obtain⟨cl,h1,h2,h3,h4⟩:=key;refine⟨cl,h1,λy c e=>?_,λp hp hf=>Option.isSome_iff_exists.mp (h4 p hp hf)⟩;rcases h2 y c e with z|z
 rw[List.lookup_nil] at z;cases z;exact z
theorem iS{scope:Scope}{env:Env}(y:Str):(relabel scope env).names.lookup y =
  (scope.names.lookup y).map λk=>if (k==.free && env.scope.kind==.function && env.kindOf y==some .cell)=true then .cell else k:=by
 have key:∀l:List (Str×NameKind),(l.map λ(n,k)=>if (k==NameKind.free && env.scope.kind==.function && env.kindOf n==some .cell) then (n,NameKind.cell) else (n,k)).lookup y =
   (l.lookup y).map λk=>if (k==.free && env.scope.kind==.function && env.kindOf y==some .cell)=true then .cell else k:=by
  intro l;induction l with
  |nil=>rfl
  |cons p l ih=>
    obtain⟨n,k⟩:=p;rw[gj];show List.lookup y ((if (k==NameKind.free && env.scope.kind==.function && env.kindOf n==some .cell)=true then (n,NameKind.cell) else (n,k))::_)=_;by_cases hc:(k==NameKind.free && env.scope.kind==.function && env.kindOf n==some .cell)=true;rw[if_pos hc,EY,EY];cases hy:y==n with
    |true=>have ey:y=n:=eq_of_beq hy;subst ey;show some NameKind.cell=some (if _ then _ else _);rw[if_pos hc]
    |false=>exact ih
    rw[if_neg hc,EY,EY];cases hy:y==n with
    |true=>have ey:y=n:=eq_of_beq hy;subst ey;show some k=some (if _ then _ else _);rw[if_neg hc]
    |false=>exact ih
 exact key scope.names
end
noncomputable def p8(N ts:qai)(out sc:Scope):Bool :=
 (sc.kind==.function) && sc.names.all (λp=>(p.2 != .cell) && (p.2 != .free || out.names.lookup p.1==some .cell || out.names.lookup p.1==some .free) && (p.2 != .local || sc.names.lookup p.1==some .local))
  && N.all (λy=>sc.names.lookup y != some .local) && ts.all (λy=>sc.names.lookup y==some .local) && decide ((N++ts).Nodup)
structure lT(N ts:qai)(out sc:Scope):Prop where
 kind:sc.kind=.function
 Bm:∀p∈sc.names,p.2≠.cell
 fr:∀p∈sc.names,p.2=.free->out.names.lookup p.1=some .cell\/out.names.lookup p.1=some .free
 names:∀p∈sc.names,p.2=.local->sc.names.lookup p.1=some .local
 own:∀y∈N,sc.names.lookup y≠some .local
 tgt:∀y∈ts,sc.names.lookup y=some .local
 nd:(N++ts).Nodup
theorem zd{N ts:qai}{out:Scope}(h:p8 N ts out sc=true):lT N ts out sc:=by unfold p8 at h;rw[gi,gi,gi,gi] at h;obtain⟨⟨⟨⟨h1,h2⟩,h3⟩,h4⟩,h5⟩:=h;rw[EZ] at h2 h3 h4;refine⟨eq_of_beq h1,λp hp=>?_,λp hp hf=>?_,λp hp hl=>?_,λy hy=>?_,λy hy=>?_,of_decide_eq_true h5⟩;have:=h2 p hp;rw[gi,gi] at this;simpa using this.1.1;have:=h2 p hp;rw[gi,gi] at this;have q:=this.1.2;rw[hf] at q;simpa using q;have:=h2 p hp;rw[gi,gi] at this;have q:=this.2;rw[hl] at q;simpa using q;simpa using h3 y hy;simpa using h4 y hy
noncomputable def bE(X:Cx)(ts:qai)(sc:Scope)(cl:List (Str×Addr))(C:Addr)(fp:qah)(s:Shared)(H:Hp):Cx where
 prog:=X.prog
 w:=X.w
 K:=X.K
 mg:=X.mg
 base:=X.base
 A:=X.A
 N:=X.N++ts
 s₀:=s
 H₀:=H
 env:=compEnvC sc cl C X.env
 outer:=X.stack
 stack:=X.stack
 ex:=fp
 fn:=λ_=>false
 calm:=X.calm
 pn:=[]
 xe:=λ_ _=>False
section
variable{X:Cx}{ts:qai}{cl:List (Str×Addr)}{D:Addr}
theorem oP(hS:lT X.N ts X.env.scope sc)(h:ko (relabel sc X.env) y):sc.names.lookup y=some .local\/(sc.names.lookup y=some .free/\((relabel sc X.env).names.lookup y=some .cell\/(relabel sc X.env).names.lookup y=some .free)):=by
 have e:=iS (scope:=sc) (env:=X.env) y;cases hk:sc.names.lookup y with
 |none=>rw[hk] at e;have e':(relabel sc X.env).names.lookup y=none:=e;obtain h|h|h:=h<;>rw[e'] at h<;>cases h
 |some k=>
  have hm:(y,k)∈sc.names:=Ie hk;rw[hk] at e;cases k with
  |«local»=>exact .inl rfl
  |cell=>exact absurd rfl (hS.Bm _ hm)
  |free=>refine .inr ⟨rfl,?_⟩;rw[e,Option.map_some];by_cases hc:(NameKind.free==.free && X.env.scope.kind==.function && X.env.kindOf y==some .cell)=true;rw[if_pos hc];exact .inl rfl;rw[if_neg hc];exact .inr rfl
  |globalExplicit=>have e':(relabel sc X.env).names.lookup y=some .globalExplicit:=e;obtain h|h|h:=h<;>rw[e'] at h<;>cases h
  |globalImplicit=>have e':(relabel sc X.env).names.lookup y=some .globalImplicit:=e;obtain h|h|h:=h<;>rw[e'] at h<;>cases h
theorem xq(I:Inv X pins σ H s)(hf:∀b∈fp,jB X pins H b):∀b∈fp,b∉AI X.stack:=λb hb z=>by
 obtain⟨_,f1,f2,_⟩:=hf b hb;rcases dh.mp (I.uZ b z) with e|e
 exact f1 e;exact f2 e
theorem FD(I:Inv X pins σ H s)(hf:∀b∈fp,jB X pins H b)(PD:∀b∈fp,∃o,s.heap.get? b=some o)(hS:lT X.N ts X.env.scope sc)(c1:∀y c,cl.lookup y=some c->X.env.cells.lookup y=some c)(c2:∀p∈sc.names,p.2=.free->∃c,cl.lookup p.1=some c)(hC:s.heap.objs.size<=C)(hD:s.heap.objs.size<=D)(S8:D≠C){h1:Heap}{m:qae}{t:Nat}(k:∀b o,s.heap.get? b=some o->h1.get? b=some o)(hn:h1.Ns C m)(hd:h1.get? D=some {cls:=.type "list",data:=.seq ([]:qag).toArray n}) :
  Inv (bE X ts sc cl C fp s H) [] (σ++ts.map λ_=>none) (upd H D (.lst [])) {s with heap:=h1,toks:=t}:=by
 have sz:=I.sz;have U1:∀b∈fp,b<s.heap.objs.size:=λb hb=>by obtain⟨o,e⟩:=PD b hb;exact dG e
 have E7:∀y c,cl.lookup y=some c->c<s.heap.objs.size:=λy c e=>by obtain⟨v,q⟩:=I.cell y c (c1 y c e);exact q.lt
 have ok:(bE X ts sc cl C fp s H).Ok:=by
  refine⟨I.ok.mod,hS.kind,I.ok.glob,I.ok.blt,hC,λx y c e1 e2=>I.ok.inj x y c (c1 x c e1) (c1 y c e2),λx hx=>?_,λx c hx=>absurd hx (by simp[bE]),I.ok.hd,I.ok.frames,.inl rfl,λb hb=>?_,λb o e=>I.bs b o e,
   km I.ok.E5 sz,λb o e hb=>?_,xq I hf,I.stack,λb hb=>I.w9 b hb⟩
  have hv:ko (relabel sc X.env) x:=by
   obtain hx|hx:=hx
   exact .inr (.inl hx);exact .inr (.inr hx)
  rcases oP hS hv with z|⟨z,_⟩
  have e:=iS (scope:=sc) (env:=X.env) x;rw[z] at e;have e':(relabel sc X.env).names.lookup x=some .local:=e;have S9:(relabel sc X.env).names.lookup x=some .cell\/(relabel sc X.env).names.lookup x=some .free:=hx;rw[e'] at S9;obtain q|q:=S9<;>cases q
  exact c2 _ (Ie z) rfl;exact⟨λe=>absurd (nK (U1 b hb) hC) (by have e':b=C:=e;rw[e'];exact AF _),λx c e z=>(hf b hb).2.2.2.2.1 x c (c1 x c e) z⟩;rcases (hf b hb).2.2.2.1 with z|z
  exact I.ok.AZ b o e z;exact absurd (nK (dG e) (km I.ok.E5 z)) (AF _)
 have YD:H D=none:=I.ba.fresh hD;refine⟨ok,rfl,I.bare,Un.laid k hD YD,⟨m,hn,λi x v e1 e2 e3=>?_⟩,λx c e=>?_,?_,λx c e=>?_,λp hp=>absurd (show p∈([]:qaa) from hp) (by simp),I.ba.laid k hD ⟨nL _,[],n,.nil,hd⟩,?_⟩;have hi:i<σ.length:=by
  by_cases hi:i<σ.length;exact hi;rw[pP (by omega),fj] at e2;cases q:ts[i-σ.length]? with
  |none=>rw[q] at e2;cases e2
  |some a=>rw[q] at e2;cases e2
 have zf:σ[i]?=some (some v):=by rw[k7 hi] at e2;exact e2
 have ID:X.N[i]?=some x:=by have PF:(X.N++ts)[i]?=some x:=e1;rw[k7 (by rw[<- I.len];exact hi)] at PF;exact PF
 rcases oP hS e3 with z|⟨z,zr⟩
 exact absurd z (hS.own x (fY ID));have hm:=Ie z;have ho:=hS.fr _ hm rfl;obtain⟨m0,_,hl⟩:=I.loc;obtain⟨u,r,l⟩:=hl i x v ID zf (.inr ho);obtain⟨c',nM⟩:=c2 _ hm rfl;obtain⟨l,_⟩|⟨_,c,hc,z2⟩:=l
 have l':X.env.scope.names.lookup x=some .local:=l;rw[l'] at ho;obtain q|q:=ho<;>cases q
 have ec:=c1 x c' nM;rw[hc] at ec;cases ec;exact⟨u,r,.inr ⟨zr,_,nM,z2.keeps k⟩⟩;obtain⟨v,z⟩:=I.cell x c (c1 x c e);exact⟨v,z.keeps k⟩;show upd H D (.lst []) C=none;rw[ar (Ne.symm S8)];exact I.ba.fresh hC;show upd H D (.lst []) c=none;rw[ar (iG (nK (E7 x c e) hD))];exact I.eL x c (c1 x c e);show (σ++ts.map λ_=>none).length=(X.N++ts).length;rw[yH,yH,cn,I.len]
theorem Bn(I:Inv X pins σ H s)(hf:∀b∈fp,jB X pins H b){xa:qaa}{σ':St}(J:Inv (bE X ts sc cl C fp s H) xa σ' H' s'):Inv X pins σ H' s' :=
 I.OB J.os J.base J.ba J.bare λb hb=>by obtain⟨_,f1,_,f3,f4,f5⟩:=hf b hb;exact⟨f3,f1,f4,f5⟩
end
section
variable{R:Result->Shared->Prop}
theorem g9{elt target:Expr}{ifs:qap}{scope:Scope}{it acc:Value}{env:Env}(I:Nat->Shared->Prop)(turn:∀n s,I n s->wpAny (model prog w) A (pyNext it) (λr s₁=>match r with
    |none=>R (.ok .next) s₁
    |some v=>wpAny (model prog w) A (letOwnedTupleGo target it v) (λ_ W_=>wpAny (model prog w) A (assign target env v) (λ_ s₂=>
       wpAny (model prog w) A (forIn ifs true λc r=>if r=true then do let ok <- isTrue c env (eval c env);pure (ForInStep.yield ok) else pure (ForInStep.yield r)) (λok s₃=>
        if ok=true then wpAny (model prog w) A (eval elt env) (λx s₄=>
         wpAny (model prog w) A (call (.builtin "list.append") [acc,x]) (λ_ s₅=>∃m,m<n/\I m s₅) (notedBy (model prog w) A env λe s'=>R (.error e) s') s₄) (notedBy (model prog w) A env λe s'=>R (.error e) s') s₃
        else ∃m,m<n/\I m s₃) (notedBy (model prog w) A env λe s'=>R (.error e) s') s₂) (notedBy (model prog w) A env λe s'=>R (.error e) s') W_)
       (notedBy (model prog w) A env λe s'=>R (.error e) s') s₁) (notedBy (model prog w) A env λe s'=>R (.error e) s') s)(n:Nat)(h:I n s):codeAny (model prog w) A (.compLoop (.ListComp elt [⟨target,iter,ifs,0⟩] scope pos) 0 it acc env) R s:=by
 refine codeAny_loop rfl I (λn s hI=>?_) n h;show wpAny _ A ((compTurn (.ListComp elt [⟨target,iter,ifs,0⟩] scope pos) 0 it acc env).onRaise (λx=>do noteFrame x env;theTreesLotGoes x)) _ _ s;refine wpAny_noted ?_;rw[compTurn_list];refine wpAny_bind (wpAny_standAt (wpAny_bind (wpAny_mono (turn n s hI) (λr s₁ h₁=>?_) λ_ _ h'=>h')));cases r with
 |none=>exact wpAny_pure h₁
 |some v=>
   refine wpAny_bind (wpAny_mono h₁ (λ_ W_ YE=>?_) λ_ _ h'=>h');refine wpAny_bind (wpAny_mono YE (λ_ s₂ h₂=>wpAny_bind (wpAny_mono h₂ (λok s₃ h₃=>?_) λ_ _ h'=>h')) λ_ _ h'=>h');cases ok with
   |false=>exact wpAny_pure ⟨rfl,h₃⟩
   |true=>exact wpAny_bind (wpAny_bind (wpAny_mono h₃ (λx s₄ h₄=>wpAny_bind (wpAny_mono h₄ (λ_ s₅ h₅=>wpAny_pure (wpAny_pure ⟨rfl,h₅⟩)) λ_ _ h'=>h')) λ_ _ h'=>h'))
end
def EH(X:Cx)(ifs:qap)(t:TT):Prop :=
 ∀(pins:qaa)(s:Shared)(σ:St)(H:Hp)(Q:Bool->Hp->Prop),Inv X pins σ H s->t σ H Q ->
  wpAny (model X.prog X.w) X.A (forIn ifs true λc r=>if r=true then do let ok <- isTrue c X.env (eval c X.env);pure (ForInStep.yield ok) else pure (ForInStep.yield r)) (TP X pins σ Q) X.xe s
def U2:TT:=λ_ H Q=>Q true H
theorem FH{X:Cx}:EH X [] U2:=λ_ _ _ H _ I h=>wpAny_tests_nil ⟨H,I,h⟩
theorem FJ{X:Cx}{t:TT}(h:PT X c t):EH X [c] t:=λpins s σ H Q I hw=>wpAny_tests_one (h pins s σ H Q I hw)
def Bo(J:It)(g:TG)(tt:TT)(te:TE)(n:Nat)(σ:St)(D:Addr)(Q:Hp->Prop)(H1:Hp):Prop :=
 ∃W:Nat->Nat->qak->Hp->Prop,(∃m,W 0 m [] (upd H1 D (.lst [])))/\∀i m acc H2,W i m acc H2->H2 D=some (.lst acc) /\
  ((J.stop i H2/\Q H2)\/(J.go i H2/\acc.length<sizeLine/\∀x H3,J.NR i H2 x H3->g x (σ++List.replicate n none) H3 λσ4 H4=>(σ4.length=σ.length+n/\∀(i:Nat) v,σ[i]?=some (some v)->σ4[i]?=some (some v)) /\
   tt σ4 H4 λb H5=>if b=true then te σ4 H5 λy H6=>H6 D=some (.lst acc)/\∃m',m'<m/\W (i+1) m' (acc++[y]) (upd H6 D (.lst (acc++[y]))) else ∃m',m'<m/\W (i+1) m' acc H5))
section
variable{X:Cx}{ts:qai}{cl:List (Str×Addr)}
theorem zg{Y:Cx}{pl:qaa}{σ4:St}(I:Inv Y pl σ4 H' s')(hl:σ4.length=σ.length+n)(hs:∀(i:Nat) v,σ[i]?=some (some v)->σ4[i]?=some (some v)) :
  Inv Y pl (σ++List.replicate n none) H' s':=by
 refine I.weak (by rw[yH,JF,hl]) λi v e=>?_;by_cases hi:i<σ.length;rw[k7 hi] at e;exact hs i v e;rw[pP (by omega),wY] at e;split at e<;>cases e
theorem Bp{elt tg:Expr}{ifs:qap}{tn:Nat->Heap->Prop}{J:It}{g:TG}{tt:TT}{Q:Hp->Prop}{RR:Value->Addr->Result->Shared->Prop}(hc:X.calm=true)(I:Inv X pins σ H s)(T:Turn X.prog X.w X.K tg J fp it tn)(st:tn 0 s.heap)(hf:∀b∈fp,jB X pins H b)(hS:lT X.N ts X.env.scope sc)(c1:∀y c,cl.lookup y=some c->X.env.cells.lookup y=some c)(c2:∀p∈sc.names,p.2=.free->∃c,cl.lookup p.1=some c)(hg:∀C,PG (bE X ts sc cl C fp s H) tg g)(ht:∀C,EH (bE X ts sc cl C fp s H) ifs tt)(he:∀C,PE (bE X ts sc cl C fp s H) elt te)(hw:Bo J g tt te ts.length σ s.heap.objs.size Q H)(fin:∀(C:Addr) (H':Hp) (s':Shared) (σ':St),s.heap.objs.size<=C->Inv (bE X ts sc cl C fp s H) [] σ' H' s'->Q H'->RR (.ref s.heap.objs.size) C (.ok .next) s') :
  wpAny (model X.prog X.w) X.A (newList []) (λacc s₃=>wpAny (model X.prog X.w) X.A (newFunctionEnv sc X.env.globals cl [] X.env.qual none .none (some X.env)) (λPH s₄=>
   codeAny (model X.prog X.w) X.A (.compStart (.ListComp elt [⟨tg,iter,ifs,0⟩] sc pos) 0 (.ref it) acc {PH with scope:=relabel sc X.env}) (RR acc PH.locals) s₄) E s₃) E s:=by
 obtain⟨W,⟨m0,w0⟩,turn⟩:=hw;have U3:=T.obj 0 _ st;have PD:∀b∈fp,∃o,s.heap.get? b=some o:=λb hb=>let ⟨o,e,_⟩:=U3 b hb;⟨o,e⟩;refine wpAny_newObj_type (wpAny_newFunctionEnv hS.Bm (by intro y hy;simp at hy) (λh₁ K0 FK=>?_) hS.kind);dsimp only at K0 FK ⊢;generalize U4:s.heap.push {cls:=.type "list",dict:=none,data:=.seq ([]:qag).toArray}=H2 at K0 FK ⊢;have hC:H2.objs.size=s.heap.objs.size+1:=by rw[<- U4,AW]
 have S8:s.heap.objs.size≠H2.objs.size:=by rw[hC];exact iG (AV _)
 have PJ:s.heap.objs.size<=H2.objs.size:=by rw[hC];exact Io _
 have below:∀b,b<s.heap.objs.size->b≠H2.objs.size/\b≠s.heap.objs.size:=λb hb=>⟨by rw[hC];exact iG (NL hb),iG hb⟩;have old:∀b o,s.heap.get? b=some o->h₁.get? b=some o:=λb o e=>FK.extBut b o (below b (dG e)).1 (dg _ (U4▸dg _ e));have U5:h₁.get? s.heap.objs.size=some {cls:=.type "list",data:=.seq ([]:qag).toArray}:=FK.extBut _ _ S8 (dg _ (U4▸gN _ rfl));have PK:tn 0 h₁:=T.keep _ _ _ st λb hb o e=>old b o e;have fresh:H s.heap.objs.size=none:=I.ba.fresh (bG _);have U6:∀{H':Hp},(∀b∈fp,H' b=none)->∀b∈fp,jB (bE X ts sc cl H2.objs.size fp s H) [] H' b:=λ{H'} hn b hb=>by obtain⟨o,e⟩:=PD b hb;refine⟨hn b hb,λz=>?_,xq I hf b hb,.inl hb,λx c e z=>(hf b hb).2.2.2.2.1 x c (c1 x c e) z,λp hp=>absurd (show p∈([]:qaa) from hp) (by simp)⟩;have z':b=H2.objs.size:=z;exact (below b (dG e)).1 z'
 have YF:∀b∈fp,(upd H s.heap.objs.size (.lst [])) b=none:=λb hb=>by obtain⟨o,e⟩:=PD b hb;rw[ar (iG (dG e))];exact (hf b hb).1
 have eN:(ts.map λ_=>(none:Option V))=List.replicate ts.length none:=List.map_const';have loop:∀s₃:Shared,s₃={s with heap:=h₁,toks:=s.toks+([]:List (Str×Value)).length} ->
   codeAny (model X.prog X.w) X.A (.compLoop (.ListComp elt [⟨tg,iter,ifs,0⟩] sc pos) 0 (.ref it) (.ref s.heap.objs.size) (compEnvC sc cl H2.objs.size X.env)) (RR (.ref s.heap.objs.size) H2.objs.size) s₃:=by
  rintro s₃ rfl;have J0:=FD (ts:=ts) (t:=s.toks+([]:List (Str×Value)).length) I hf PD hS c1 c2 PJ (bG _) S8 old K0 U5;rw[eN] at J0;refine g9 (λn s'=>∃i acc H',Inv (bE X ts sc cl H2.objs.size fp s H) [] (σ++List.replicate ts.length none) H' s'/\tn i s'.heap/\(∀b∈fp,H' b=none)/\W i n acc H') ?_ m0 ⟨0,[],_,J0,PK,YF,w0⟩;rintro n s3 ⟨i,acc,H3,J3,uQ,OQ,w3⟩;obtain⟨hD3,alt⟩:=turn i n acc H3 w3;obtain⟨stop,q⟩|⟨go,hz,step⟩:=alt
  . refine bJ (T.done (bE X ts sc cl H2.objs.size fp s H) rfl rfl rfl hc i [] s3 _ H3 _ J3 (U6 OQ) uQ stop) λr s4 ⟨hr,J4⟩=>?_;subst hr;exact fin _ H3 s4 _ PJ J4 q
  refine bJ (T.item (bE X ts sc cl H2.objs.size fp s H) rfl rfl rfl hc i [] s3 _ H3 _ J3 (U6 OQ) uQ go) λr s4 ⟨u,hr,h4⟩=>?_;subst hr;refine bJ h4 λ_ s5 ⟨x,H5,J5,r5,y5,Iy,UJ⟩=>?_;have YG:=J5.pinned (U6 UJ) (T.obj _ _ Iy);have again:∀{σ7:St}{H7:Hp}{s7:Shared},Inv (bE X ts sc cl H2.objs.size fp s H) ([]++lL fp s5.heap) σ7 H7 s7->(σ7.length=σ.length+ts.length/\∀(i:Nat) v,σ[i]?=some (some v)->σ7[i]?=some (some v))->∀K6 m',W (i+1) m' K6 H7->m'<n ->
    ∃m,m<n/\∃i acc H',Inv (bE X ts sc cl H2.objs.size fp s H) [] (σ++List.replicate ts.length none) H' s7/\tn i s7.heap/\(∀b∈fp,H' b=none)/\W i m acc H':=λ{σ7 H7 s7} I7 hσ K6 m' w7 hm=>by
   refine⟨m',hm,i+1,K6,H7,zg I7.iP hσ.1 hσ.2,T.keep _ _ _ Iy λb hb o e=>(I7.pin (b,o) (g6 _ (g6 _ (fu hb e)))).1,λb hb=>?_,w7⟩;obtain⟨o,e,d⟩:=T.obj _ _ Iy b hb;exact (I7.pin (b,o) (g6 _ (g6 _ (fu hb e)))).2.1
  refine wpAny_mono (hg H2.objs.size _ s5 _ H5 x u _ YG r5 (step x H5 y5)) (λ_ s6 ⟨σ6,H6,J6,hσ,q6⟩=>?_) λ_ _ z=>False.elim z;refine wpAny_mono (ht H2.objs.size _ s6 σ6 H6 _ J6 q6) (λb s7 ⟨H7,J7,q7⟩=>?_) λ_ _ z=>False.elim z;cases b with
  |false=>obtain⟨m',hm,w7⟩:=q7;exact again J7 hσ acc m' w7 hm
  |true=>show wpAny _ _ _ _ _ _;refine wpAny_mono (he H2.objs.size _ s7 σ6 H7 _ J7 q7) (λy s8 ⟨yv,H8,J8,ry,YH,m',hm,w8⟩=>?_) λ_ _ z=>False.elim z;refine wpAny_mono (bW (X:=bE X ts sc cl H2.objs.size fp s H) _ s8 σ6 H8 (.ref s.heap.objs.size) [yv] (.ref s.heap.objs.size) [y] (λv H9=>v=.a9/\H9=upd H8 s.heap.objs.size (.lst (acc++[yv]))) J8 rfl (.cons ry .nil) ⟨_,acc,yv,rfl,rfl,YH,hz,rfl,rfl⟩) (λv9 s9 ⟨v,H9,J9,_,_,e9⟩=>?_) λ_ _ z=>False.elim z;subst e9;exact again J9 hσ (acc++[yv]) m' w8 hm
 exact codeAny_compStart_list (loop _ rfl) (T.self _ 0 _ _ _ PK (loop _ rfl))
def IE(n:Nat)(wi:TI)(g:TG)(tt:TT)(te:TE):TE:=λσ H Q=>wi σ H λJ H1=>∀D,H1 D=none->Bo J g tt te n σ D (Q (.ref D)) H1
theorem Bq(I:Inv X pins σ H s)(hS:lT X.N ts X.env.scope sc):∀p∈sc.names,p.2=.free->∃c,X.env.cells.lookup p.1=some c:=λp hp hf=>by
 rcases hS.fr p hp hf with z|z
 exact I.ok.has p.1 (.inl z);exact I.ok.has p.1 (.inr z)
theorem FL{elt tg:Expr}{ifs:qap}{wi:TI}{g:TG}{tt:TT}(hc:X.calm=true)(hS:p8 X.N ts X.env.scope sc=true)(hi:PI X tg iter wi)(hg:∀cl C fp s H,PG (bE X ts sc cl C fp s H) tg g)(ht:∀cl C fp s H,EH (bE X ts sc cl C fp s H) ifs tt)(he:∀cl C fp s H,PE (bE X ts sc cl C fp s H) elt te)(hs:∀x,foldedSetIterable iter X.env x=pure x:=by intro _;rfl):PE X (.ListComp elt [⟨tg,iter,ifs,0⟩] sc pos) (IE ts.length wi g tt te):=by intro pins s σ H Q I h;have S:=zd hS;obtain⟨cl,PL,c1,c2⟩:=kQ (Bq I S);rw[eval_ListComp];refine wpAny_comprehension_free (use:=none) rfl hs PL S.kind S.names ?_;refine bJ (hi pins s σ H _ I h) λv s1 h1=>bJ h1 λUG s2 h2=>?_;obtain⟨it,fp,tn,J,H2,e,I2,T,pW,f2,q2⟩:=h2;subst e;refine Bp (E:=X.xe) (RR:=λacc C=>compPost (model X.prog X.w) X.A X.xe none (EP X pins σ Q) acc C) hc I2 T pW f2 S c1 c2 (λC=>hg cl C fp s2 H2) (λC=>ht cl C fp s2 H2) (λC=>he cl C fp s2 H2) (q2 _ (I2.ba.fresh (bG _))) ?_;intro C H' s' σ' hC J' q';obtain⟨m,hn,_⟩:=J'.loc;refine⟨m,hn,λh' sb=>?_⟩;have I':=Bn I2 f2 J';have fk:=I2.lK (H':=H') hC J'.free;obtain⟨f0,f1,_,f3,f4,f5⟩:=fk;exact⟨.ref _,H',I'.turned (t':=s'.toks) (λb o hb e=>(sb.2 b hb).trans e) f0 f1 f3 f4 f5,rfl,q'⟩
end
def S_(x:Str):It:=⟨λi _=>i<x.cps.size,λi H v H'=>H'=H/\∃c,x.cps[i]?=some c/\v=.str ⟨#[c]⟩,λi _=>x.cps.size<=i⟩
theorem cx(x:Str):(strIterType x="str_ascii_iterator")\/(strIterType x="str_iterator"):=by unfold strIterType;cases x.cps.all (·<128);exact .inr rfl;exact .inl rfl
theorem Br{tg:Expr}(x:Str)(t:Tok)(it:Addr):Turn P w K tg (S_ x) [it] it (λi h=>h.IsStrIter it (strIterType x) x t i) where
 mem:=by simp
 obj:=λi h st b hb=>by
  have e:b=it:=by simpa using hb
  subst e;obtain⟨o,e,c,d⟩:=st;exact⟨o,e,λv z=>by rw[d] at z;cases z⟩
 keep:=λi h h' st k=>by obtain⟨o,e,c,d⟩:=st;exact⟨o,k it (by simp) o e,c,d⟩
 item:=by
  intro X hP hw hK hc i pins s σ H E I hf st hg;subst hP hw hK;obtain⟨f0,f1,f2,f3,f4,f5⟩:=hf it (by simp);have hi:i<x.cps.size:=hg;have hx:x.cps[i]?=some x.cps[i]:=by simp[hi]
  have fin:∀h',h'.IsStrIter it (strIterType x) x t (i+1)->Heap.SameBut it s.heap h'->∃u,(some (Value.str ⟨#[x.cps[i]]⟩ s.toks):Option Value)=some u /\
    wpAny (model X.prog X.w) X.A (letOwnedTupleGo tg (.ref it) u) (λ_ s2=>∃y H',Inv X pins σ H' s2/\RelV y u/\(S_ x).NR i H y H'/\Heap.IsStrIter s2.heap it (strIterType x) x t (i+1)/\∀b∈[it],H' b=none) E {s with heap:=h',toks:=s.toks+1}:=λh' st' sb=>by
   have I1:Inv X pins σ H {s with heap:=h',toks:=s.toks+1}:=I.turned (t':=s.toks+1) (λb o hb e=>(sb.2 b hb).trans e) f0 f1 f3 f4 f5;obtain⟨o,e,c,d⟩:=id st';refine⟨_,rfl,sA (s:={s with heap:=h',toks:=s.toks+1}) e c d ?_ ⟨.str ⟨#[x.cps[i]]⟩,H,I1,⟨_,rfl⟩,⟨rfl,_,hx,rfl⟩,st',λb hb=>(hf b hb).1⟩⟩;rcases cx x with z|z<;>rw[z]<;>decide
  rcases cx x with z|z
  rw[z] at st fin;refine wpAny_pyNext_ascii_item st hx λh' st' sb=>?_;have:=fin h' st' sb;rw[<- z] at this;simpa[z] using this;rw[z] at st fin;refine wpAny_pyNext_wide_item st hx λh' st' sb=>?_;have:=fin h' st' sb;simpa[z] using this
 done:=by
  intro X hP hw hK hc i pins s σ H E I hf st hg;subst hP hw hK;obtain⟨f0,f1,f2,f3,f4,f5⟩:=hf it (by simp);have hi:x.cps.size<=i:=hg;have hx:x.cps[i]?=none:=by simp[hi]
  rcases cx x with z|z
  rw[z] at st;exact wpAny_pyNext_ascii_end (I.ok.hd hc) st hx λh' eb=>⟨rfl,I.turned (t':=s.toks) (λb o hb e=>eb b o hb e) f0 f1 f3 f4 f5⟩;rw[z] at st;exact wpAny_pyNext_wide_end (I.ok.hd hc) st hx λh' eb=>⟨rfl,I.turned (t':=s.toks) (λb o hb e=>eb b o hb e) f0 f1 f3 f4 f5⟩
 self:=λA i s Q E st h=>by
  rcases cx x with z|z
  rw[z] at st;exact wpAny_pyIter_striter_ascii st h;rw[z] at st;exact wpAny_pyIter_striter_wide st h
section
variable{X:Cx}{tg:Expr}
theorem lU(hc:X.calm=true):cL X (.builtin "all") (λxs H Q=>∃(p:Addr)(bs:List Bool),xs=[.ref p]/\fq X.K H p (bs.map V.bl)/\Q (.bl (bs.all id)) H):=by
 intro pins s σ H xs us Q I r h;obtain⟨p,bs,rfl,hq,q⟩:=h;obtain⟨u,rfl,rx⟩:=vals1 r;cases rx;obtain⟨aH,rv,pl,hz⟩:=I.list hq;refine call_all_walk (wpAny_pyIter_list pl.isList ?_);have eJ:p<s.heap.objs.size:=by obtain⟨o,n,e,_⟩:=pl;exact dG e
 have f6:p≠s.heap.objs.size:=iG eJ;have hh:X.A.in1.handled=none:=I.ok.hd hc;refine⟨s.heap.objs.size,_,_,_,_,_,λi=>bs.getD i true,rfl,Walks.list hh s.heap.objs.size p f6 aH.toArray,⟨⟨_,gN _ rfl,rfl,rfl⟩,pl.isList.push _⟩,?_,λh' tk k=>?_⟩;intro i v s' Q' E' hP hQ;have W':aH[i]?=some v:=by simpa using hP
 have hb:i<bs.length:=by have:=rv.length;have h2:=(dJ.mp W').1;rw[cn] at this;omega
 obtain⟨u,e1,r1⟩:=rv.get (i:=i) (x:=.bl bs[i]) (by simp[hb]);rw[W'] at e1;cases e1;obtain rfl:v=Value.bool bs[i]:=r1;have e3:bs.getD i true=bs[i]:=by simp[List.getD,hb]
 dsimp only at hQ;rw[e3] at hQ;exact wpAny_truthy_bool hQ;have hl:aH.toArray.size=bs.length:=by have:=rv.length;rw[cn] at this;rw[gh];omega
 have e:(List.range aH.toArray.size).all (λi=>bs.getD i true)=bs.all id:=by rw[hl,Bool.eq_iff_iff,EZ,EZ];constructor;intro h x hx;obtain⟨i,hi,e⟩:=Ol.mp hx;have:=h i (w6.mpr hi);simp only[List.getD,kj hi,Option.getD_some] at this;rw[<- e];exact this;intro h i hi;have IF:=w6.mp hi;simp only[List.getD,kj IF,Option.getD_some];exact h _ (NO IF)
 rw[e];refine⟨.bl (bs.all id),H,?_,rfl,q⟩;have I0:Inv X pins σ H {s with heap:=s.heap.push {cls:=.type "list_iterator",data:=.fields #[.ref p,.int 0 0]} }:=I.kept (t':=s.toks) λb o e=>dg _ e;have fk:=I.lK (H':=H) (bG s.heap.objs.size) I.fresh;obtain⟨f0,f1,_,f3,f4,f5⟩:=fk;exact I0.turned (t':=tk) (λb o hb e=>k b o (by simpa using hb) e) f0 f1 f3 f4 f5
theorem nR:IC X "str.startswith" (λx xs H Q=>∃z y,x=.str z/\xs=[.str y]/\Q (.bl (Txt.startswith z y)) H):=by intro pins s σ H x xs v us Q I rx rs h;obtain⟨z,y,rfl,rfl,q⟩:=h;obtain⟨t,rfl⟩:=rx;obtain⟨u,rfl,t',rfl⟩:=vals1 rs;exact SC.startswith ⟨.bl _,H,I,rfl,q⟩
def PM:V->Option Int->Option Int->Hp->VK->Prop:=λx lo hi H Q=>∃z,x=.str z/\z.length<=sizeLine/\Q (.str (Txt.slice z lo hi)) H
theorem K7:Bf X PM:=by
 intro pins s σ H x v vl vu lo hi sl Q I rx hs pl pu h;obtain⟨z,rfl,hz,q⟩:=h;obtain⟨t,rfl⟩:=rx;obtain⟨o,e,c,d⟩:=hs;refine⟨"str",_,slot_str_getitem.lookup,typeIs_str _ _ _,?_⟩;cases pl with
 |none=>
  cases pu with
  |none=>exact wpAny_getItem_str_slice (l:=none) (u:=none) (st:=none) ⟨o,e,c,d⟩ rfl (post_val_or_str ⟨km (Txt.slice_le z _ _) hz,λt' k=>⟨.str _,H,I.tok _,⟨_,rfl⟩,q⟩⟩)
  |int j tj=>exact wpAny_getItem_str_slice (l:=none) (u:=some (j,tj)) (st:=none) ⟨o,e,c,d⟩ rfl (post_val_or_str ⟨km (Txt.slice_le z _ _) hz,λt' k=>⟨.str _,H,I.tok _,⟨_,rfl⟩,q⟩⟩)
 |int i ti=>
  cases pu with
  |none=>exact wpAny_getItem_str_slice (l:=some (i,ti)) (u:=none) (st:=none) ⟨o,e,c,d⟩ rfl (post_val_or_str ⟨km (Txt.slice_le z _ _) hz,λt' k=>⟨.str _,H,I.tok _,⟨_,rfl⟩,q⟩⟩)
  |int j tj=>exact wpAny_getItem_str_slice (l:=some (i,ti)) (u:=some (j,tj)) (st:=none) ⟨o,e,c,d⟩ rfl (post_val_or_str ⟨km (Txt.slice_le z _ _) hz,λt' k=>⟨.str _,H,I.tok _,⟨_,rfl⟩,q⟩⟩)
end
theorem aB{D:Addr}{o:HO}(h:H D=none):aF H (upd H D o):=λb u e=>by rw[ar (aS e h)];exact e
section
variable{X:Cx}
theorem Inv.grown{ch:qah}{t:Addr}{o:HO}(I:Inv X pins σ H s)(k:∀b u,b∉ch->s.heap.get? b=some u->h'.get? b=some u)(hf:∀b∈ch,jB X pins H b)(ht:s.heap.objs.size<=t)(new:bh X.prog X.w (upd H t o) h' t o):Inv X pins σ (upd H t o) {s with heap:=h',toks:=t'}:=by
 have hn:H t=none:=I.ba.fresh ht;have A0:∀b u,H b=some u->b∉ch:=λb u e z=>by rw[(hf b z).1] at e;cases e
 refine I.step (g':=s.gens) (d':=s.drawn) (ch:=ch) (λb hb=>?_) (λb u _ _ hc e _=>k b u hc e) (λb u _ _ hc e _=>⟨u.slots,k b u hc e⟩) (λb u _ e n=>?_) (λb u hc e=>⟨u,k b u hc e⟩)
  (λb xs e=>?_) (λb u v e=>?_) (λb ps e=>⟨#[],?_⟩) (λm hm=>?_) (λb u e=>?_) I.bare
 obtain⟨_,f1,_,f3,f4,f5⟩:=hf b hb;exact⟨f3,f1,f4,f5⟩;rw[ar (iG (nK (dG e) ht))];exact n;rw[ar (aS e hn)];exact e;rw[ar (aS e hn)];exact e;rw[ar (aS e hn),e];simp;obtain⟨ob,es,ep,ho,r⟩:=hm;exact⟨ob,es,ep,k _ ob (λz=>(hf _ z).2.1 rfl) ho,r⟩;by_cases hb:b=t;subst hb;rw[ay] at e;cases e;exact new;rw[ar hb] at e;refine (I.ba b u e).sr (λc v hc q=>k c v ?_ q) (λc q=>by rw[ar (aS q hn)];exact q) λc xs q=>by rw[ar (aS q hn)];exact q
 obtain z|z:=hc
 rw[z];exact A0 b u e;exact A0 c _ z
end
noncomputable def U7(K:qaf)(a:Addr):It :=
 ⟨λi H=>∃xs x,fq K H a xs/\xs[i]?=some x,λi H v H'=>∃t x,H t=none/\v=.ref t/\(∀xs,fq K H a xs->xs[i]?=some x)/\H'=upd H t (.tup [.int (i:Int),x]),λi H=>∃xs,fq K H a xs/\xs.length<=i⟩
theorem zh{x1}(a e it:Addr)(f6:e≠it) :
  Turn P w K (.Tuple elts x1 tp) (U7 K a) [e,it] e (λi h=>(∃old,IsEnum h e it (i:Int) old)/\h.IsListIter it a i) where
 mem:=by simp
 obj:=λi h st b hb=>by
  obtain⟨⟨old,h1⟩,o,h2,c,d⟩:=st;rcases dh.mp hb with z|z
  subst z;exact⟨_,h1,λv z=>by cases z⟩;have z':b=it:=by simpa using z
  subst z';exact⟨o,h2,λv z=>by rw[d] at z;cases z⟩
 keep:=λi h h' st k=>by obtain⟨⟨old,h1⟩,pW⟩:=st;exact⟨⟨old,k e (by simp) _ h1⟩,pW.at λo q=>k it (by simp) o q⟩
 item:=by
  intro X hP hw hK hc i pins s σ H E I hf st hg;subst hP hw hK;obtain⟨xs,x,hq,hx⟩:=hg;obtain⟨aH,rv,p,hz⟩:=I.list hq;obtain⟨u,hu,ru⟩:=rv.get hx;obtain⟨⟨old,h1⟩,pW⟩:=st;refine wpAny_pyNext_enum_item h1 pW p.isList (x:=u) (by simpa using hu) f6 λh₁ Iq U8 YI uS YJ=>?_;refine⟨_,rfl,wpAny_letOwnedTupleGo_enum Iq λh₂ K8 nS=>?_⟩;have nT:Heap.SameBut e h₁ h₂:=nS;have eJ:e<s.heap.objs.size:=dG h1;have U9:s.heap.objs.size≠e:=EA eJ;have kk:∀b ob,b∉[e,it]->s.heap.get? b=some ob->h₂.get? b=some ob:=λb ob hb q=>by have AH:b≠e:=λz=>hb (by simp[z]);have Ta:b≠it:=λz=>hb (by simp[z]);exact (nT.2 b AH).trans (YJ b ob AH Ta q)
  have new:bh X.prog X.w (upd H s.heap.objs.size (.tup [.int (i:Int),x])) h₂ s.heap.objs.size (.tup [.int (i:Int),x]) :=
   ⟨by show 2<=sizeLine;rw[sizeLine_eq];decide,[.int i s.toks,u],.cons ⟨_,rfl⟩ (.cons ru .nil),⟨_,(nT.2 _ U9).trans YI,rfl,_,rfl⟩⟩
  refine⟨.ref s.heap.objs.size,upd H s.heap.objs.size (.tup [.int (i:Int),x]),I.grown (t':=s.toks+1) kk hf (bG _) new,rfl,⟨_,x,I.fresh,rfl,λys hy=>by rw[I.iN hy hq];exact hx,rfl⟩,⟨⟨u,?_⟩,?_⟩,λb hb=>?_⟩;have:((i:Int)+1)=((i+1:Nat):Int):=by omega
  rw[<- this];exact K8;obtain⟨o,q,r⟩:=U8;exact⟨o,(nT.2 it (Ne.symm f6)).trans q,r⟩;have NW:b<s.heap.objs.size:=by
   rcases dh.mp hb with z|z
   subst z;exact eJ;have z':b=it:=by simpa using z
   subst z';obtain⟨o,q,_⟩:=pW;exact dG q
  rw[ar (iG NW)];exact (hf b hb).1
 done:=by intro X hP hw hK hc i pins s σ H E I hf st hg;subst hP hw hK;obtain⟨xs,hq,hx⟩:=hg;obtain⟨aH,rv,p,hz⟩:=I.list hq;have hl:=rv.length;obtain⟨⟨old,h1⟩,pW⟩:=st;obtain⟨f0,f1,f2,f3,f4,f5⟩:=hf it (by simp);exact wpAny_pyNext_enum_end (I.ok.hd hc) h1 pW p.isList (by simp;omega) λh' eb=>⟨rfl,I.turned (t':=s.toks) (λb o hb q=>eb b o hb q) f0 f1 f3 f4 f5⟩
 self:=λ_ _ _ _ _ st h=>by obtain⟨⟨old,h1⟩,_⟩:=st;exact wpAny_pyIter_enum h1 h
noncomputable def PN(K:qaf)(ta:TA):TI:=λσ H R=>ta σ H λvs H1=>∃a,vs=[.ref a]/\(∃xs,fq K H1 a xs)/\R (U7 K a) H1
section
variable{X:Cx}
theorem boot_enumerate:bootBuiltins "enumerate"=some (.type "enumerate"):=by decide +kernel
theorem FN{x1}{a:Expr}{ta:TA}(hg:Gl X "enumerate")(hm:X.mg "enumerate"=none)(ha:PA X [a] ta)(hs:starEach [a] X.env=[(false,eval a X.env)]:=by rfl) :
  PI X (.Tuple elts x1 tp) (.Call (.Name "enumerate" p) [a] [] pos) (PN X.K ta):=by
 intro pins s σ H R I h;refine Call_ (jy I hg hm boot_enumerate (Sk (bJ (ha pos pins s σ H _ I h) λus s1 ⟨vs,H1,I1,r1,q1⟩=>?_) hs rfl));obtain⟨b,e,⟨xs,hq⟩,q⟩:=q1;subst e;obtain⟨u,rfl,ru⟩:=vals1 r1;cases ru;obtain⟨aH,rv,pl,hz⟩:=I1.list hq;refine call_enumerate_list pl.isList λh' he hit hsz hk=>?_;have I2:Inv X pins σ H1 {s1 with heap:=h'}:=I1.kept (t':=s1.toks) hk;refine wpAny_pyIter_enum he ?_;refine⟨s1.heap.objs.size+1,[s1.heap.objs.size+1,s1.heap.objs.size],_,_,H1,rfl,I2,zh b _ _ (EA (AV _)),⟨⟨_,he⟩,hit⟩,λc hc=>?_,q⟩;rcases dh.mp hc with z|z
 subst z;exact I1.lK (Io _) (I1.ba.fresh (Io _));have z':c=s1.heap.objs.size:=by simpa using z
 subst z';exact I1.lK (bG _) I1.fresh
end
end L2
namespace lV
open PySem Builtin Builtin.Str
noncomputable def bj:Str:="abcdefghijklmnopqrstuvwxyz"
noncomputable def zl(c:Nat):Bool:=!(occurrences bj ⟨#[c]⟩ 0 bj.length 1).isEmpty
theorem FQ:zl 46=false:=by decide +kernel
theorem vA:((".":String):Str)=⟨#[46]⟩:=by decide +kernel
noncomputable def bX(x:Str):Bool:=decide (1<=(x.length:Int)) && (decide ((x.length:Int)<=8) && x.cps.toList.all zl)
noncomputable def dQ(x:Str):Bool:=Txt.startswith x "." && bX (Txt.slice x (some 1) none)
theorem hV(h:x.cps.toList.all zl=true):Txt.startswith x "."=false:=by
 obtain⟨⟨l⟩⟩:=x;rw[vA];unfold Txt.startswith subAt;cases l with
 |nil=>rfl
 |cons c r=>
  have hc:zl c=true:=by have:=EZ.mp h c (by simp);exact this
  have ne:c≠46:=λe=>by rw[e,FQ] at hc;cases hc
  have e1:(Array.extract ({toList:=c::r}:Array Nat) 0 (0+(Str.mk #[46]).length)==(Str.mk #[46]).cps)=false:=by rw[beq_eq_false_iff_ne];intro q;have q2:=congrArg (λa=>a[0]?) q;simp[Str.length] at q2;exact ne q2
  show (decide _ && (Array.extract ({toList:=c::r}:Array Nat) 0 (0+(Str.mk #[46]).length)==(Str.mk #[46]).cps))=false;rw[e1,Ov]
theorem fD(h:bX x=true):x.cps.toList.all zl=true:=by unfold bX at h;rw[gi,gi] at h;exact h.2.2
theorem nU(h:bX x=true):dQ x=false:=by unfold dQ;rw[hV (fD h),Ey]
theorem lW(x:Str):Txt.startswith ((".":String)++x) "."=true:=by obtain⟨⟨l⟩⟩:=x;rw[vA];unfold Txt.startswith subAt;rw[gi];refine⟨?_,?_⟩;apply decide_eq_true;show 0+1<=(#[46]++({toList:=l}:Array Nat)).size;simp;show (Array.extract (#[46]++({toList:=l}:Array Nat)) 0 (0+1)==#[46])=true;rw[beq_iff_eq];apply Array.ext';simp
theorem zo(x:Str):Txt.slice ((".":String)++x) (some 1) none=x:=by
 obtain⟨⟨l⟩⟩:=x;rw[vA];have hl:(Str.length (Str.mk #[46]++Str.mk {toList:=l}))=l.length+1:=by show (#[46]++({toList:=l}:Array Nat)).size=_;simp
 have hi:strSliceIndices (some 1) none 1 (l.length+1)=(List.range l.length).map (λk=>k+1):=by
  unfold strSliceIndices sliceRange;simp only[show (1:Int) > 0 by decide,if_true];have e0:max 0 (min (if (1:Int)<0 then 1+((l.length+1:Nat):Int) else 1) ((l.length+1:Nat):Int))=1:=by rw[if_neg (by decide)];omega
  rw[e0];by_cases hn:l.length=0;rw[hn];rfl;have e1:((1:Int)<((l.length+1:Nat):Int)):=by omega
  rw[if_pos e1];have e2:((((l.length+1:Nat):Int)-1+1-1) / 1).toNat=l.length:=by rw[Int.ediv_one];omega
  rw[e2];apply Et;intro k hk;omega
 unfold Txt.slice;rw[hl,hi];have f6:¬ (((1:Int)==1 && (List.map (λk=>k+1) (List.range l.length)).length==l.length+1)=true):=by rw[gi,cn,uW];intro q;have:=beq_iff_eq.mp q.2;omega
 rw[if_neg f6]
 congr 1
 apply Array.ext';rw[List.toList_toArray];show List.filterMap (λi=>(#[46]++({toList:=l}:Array Nat))[i]?) (List.map (λk=>k+1) (List.range l.length))=l;rw[SH];have e:∀k,((λi=>(#[46]++({toList:=l}:Array Nat))[i]?) ∘ λk=>k+1) k=l[k]?:=λk=>by show (#[46]++({toList:=l}:Array Nat))[k+1]?=l[k]?;rw[<- EW];simp
 rw[show ((λi=>(#[46]++({toList:=l}:Array Nat))[i]?) ∘ λk=>k+1)=λk=>l[k]? from funext e];clear e f6 hi hl;induction l with
 |nil=>rfl
 |cons a r ih=>
  rw[w5,List.range_succ_eq_map,k8];simp only[Ua,SH]
  congr 1
theorem zt(h:bX x=true):dQ ((".":String)++x)=true:=by unfold dQ;rw[lW,zo,h];rfl
end lV
namespace VT
open PySem PySem.Spec PyProof.Rows L2
abbrev St:=L2.St
inductive T where
 |a9|bl (b:Bool)|int (i:Int)|str (x:Str)|tup (l:List T)|lst (l:List T)|dk (ks:List Key) (vs:List T)|dt (ks:List (List Key)) (vs:List T)|df (o:Obj) (ks:List (List Key)) (vs:List T)|dz (o:Obj) (ks:List Key) (vs:List T)|dc (nh:List Key×Key->Int) (ks:List (List Key×Key)) (vs:List T)|kt (k:List Key)|ins (C:Addr) (ns:qai) (vs:List T)|pin (a:Addr) (t:T)|ob (a:Addr)|ty (n:String)
def lY(K:qaf)(H:Hp)(O:qah)(a:Addr)(vs:qak):Prop :=
 (Rd H a (.lst vs)/\a∉O)\/∃(o:Obj)(aH:Array Value)(n:Nat),K.lookup a=some o/\o.cls=.type "list"/\o.dict=none/\o.data=.seq aH n/\aH.size<=sizeLine/\Vals vs aH.toList
theorem lY.sq{O:qah}{a:Addr}(h:lY K H O a vs):fq K H a vs:=by
 obtain h|h:=h
 exact .inl h.1;exact .inr h
def lZ(H:Hp)(O:qah)(a:Addr)(u:HO):Prop:=H a=some u/\a∉O
def PQ(nh:List Key×Key->Int)(a:Addr)(xs:List ((List Key×Key)×Addr×Value)):Heap->Prop:=λh=>∃o es ep,h.get? a=some o/\o.ExactDict/\o.data=.dict es ep/\es.toList=xs.map (λx=>⟨nh x.1,.ref x.2.1,x.2.2⟩)/\(xs.map (·.1)).Nodup
def PR(K:qaf)(H:Hp)(c:List Key×Key)(b:Addr):Prop:=∃d,dy K H b [.ref d,kV c.2]/\dy K H d (c.1.map kV)
mutual
def At(K:qaf)(H:Hp)(O:qah):T->V->Prop
 |.a9,v=>v=.a9
 |.bl b,v=>v=.bl b
 |.int i,v=>v=.int i
 |.str x,v=>v=.str x
 |.ob a,v=>v=.ref a
 |.ty n,v=>v=.ty n
 |.tup ts,v=>∃a vs,v=.ref a/\dy K H a vs/\ax K H O ts vs
 |.lst ts,v=>∃a vs,v=.ref a/\lY K H O a vs/\ax K H O ts vs
 |.dk ks ts,v=>∃a vs,v=.ref a/\ks.length=vs.length/\lZ H O a (.dK (ks.zip vs))/\ax K H O ts vs
 |.dt ks ts,v=>∃a vs,v=.ref a/\ks.length=vs.length/\lZ H O a (.dT (ks.zip vs))/\ax K H O ts vs
 |.df o ks ts,v=>∃a vs,v=.ref a/\ks.length=vs.length/\lZ H O a (.dH o (.dT (ks.zip vs)))/\ax K H O ts vs
 |.dz o ks ts,v=>∃a vs,v=.ref a/\ks.length=vs.length/\lZ H O a (.dH o (.dK (ks.zip vs)))/\ax K H O ts vs
 |.dc nh ks ts,v=>∃a xs vs,v=.ref a/\lZ H O a (.ext (PQ nh a xs))/\ks=xs.map (·.1)/\(a==sysModules)=false/\(∀x∈xs,PR K H x.1 x.2.1)/\Vals vs (xs.map (·.2.2))/\ax K H O ts vs
 |.kt k,v=>∃a,v=.ref a/\lZ H O a (.tup (k.map kV))
 |.pin a t,v=>v=.ref a/\At K H O t v
 |.ins C ns ts,v=>∃a dx vs,v=.ref a/\ns.length=vs.length/\lZ H O a (.ins C dx (ns.zip vs))/\ax K H O ts vs
def ax(K:qaf)(H:Hp)(O:qah):List T->qak->Prop
 |[],vs=>vs=[]
 |t::ts,vs=>∃v r,vs=v::r/\At K H O t v/\ax K H O ts r
end
section
variable{O O':qah}
mutual
theorem At.map(hl:∀a vs,lY K H O a vs->lY K H' O' a vs)(ht:∀a vs,dy K H a vs->dy K H' a vs)(hd:∀a u,lZ H O a u->lZ H' O' a u):∀{t:T}{v:V},At K H O t v->At K H' O' t v
 |.a9,_,h=>by simpa only[At] using h
 |.bl _,_,h=>by simpa only[At] using h
 |.int _,_,h=>by simpa only[At] using h
 |.str _,_,h=>by simpa only[At] using h
 |.ob _,_,h=>by simpa only[At] using h
 |.ty _,_,h=>by simpa only[At] using h
 |.tup ts,_,h=>by simp only[At] at h ⊢;obtain⟨a,vs,e,h1,h2⟩:=h;exact⟨a,vs,e,ht a vs h1,ax.map hl ht hd h2⟩
 |.lst ts,_,h=>by simp only[At] at h ⊢;obtain⟨a,vs,e,h1,h2⟩:=h;exact⟨a,vs,e,hl a vs h1,ax.map hl ht hd h2⟩
 |.dk ks ts,_,h=>by simp only[At] at h ⊢;obtain⟨a,vs,e,h0,h1,h2⟩:=h;exact⟨a,vs,e,h0,hd _ _ h1,ax.map hl ht hd h2⟩
 |.dt ks ts,_,h=>by simp only[At] at h ⊢;obtain⟨a,vs,e,h0,h1,h2⟩:=h;exact⟨a,vs,e,h0,hd _ _ h1,ax.map hl ht hd h2⟩
 |.df o ks ts,_,h=>by simp only[At] at h ⊢;obtain⟨a,vs,e,h0,h1,h2⟩:=h;exact⟨a,vs,e,h0,hd _ _ h1,ax.map hl ht hd h2⟩
 |.dz o ks ts,_,h=>by simp only[At] at h ⊢;obtain⟨a,vs,e,h0,h1,h2⟩:=h;exact⟨a,vs,e,h0,hd _ _ h1,ax.map hl ht hd h2⟩
 |.dc nh ks ts,_,h=>by simp only[At] at h ⊢;obtain⟨a,xs,vs,e,h0,h1,hm,h2,h3,h4⟩:=h;exact⟨a,xs,vs,e,hd _ _ h0,h1,hm,λx hx=>let ⟨d,q1,q2⟩:=h2 x hx;⟨d,ht _ _ q1,ht _ _ q2⟩,h3,ax.map hl ht hd h4⟩
 |.kt k,_,h=>by simp only[At] at h ⊢;obtain⟨a,e,h1⟩:=h;exact⟨a,e,hd _ _ h1⟩
 |.pin a t,_,h=>by simp only[At] at h ⊢;exact⟨h.1,At.map hl ht hd h.2⟩
 |.ins C ns ts,_,h=>by simp only[At] at h ⊢;obtain⟨a,dx,vs,e,h0,h1,h2⟩:=h;exact⟨a,dx,vs,e,h0,hd _ _ h1,ax.map hl ht hd h2⟩
theorem ax.map(hl:∀a vs,lY K H O a vs->lY K H' O' a vs)(ht:∀a vs,dy K H a vs->dy K H' a vs)(hd:∀a u,lZ H O a u->lZ H' O' a u):∀{ts:List T}{vs:qak},ax K H O ts vs->ax K H' O' ts vs
 |[],_,h=>by simpa only[ax] using h
 |t::ts,_,h=>by simp only[ax] at h ⊢;obtain⟨v,r,e,h1,h2⟩:=h;exact⟨v,r,e,At.map hl ht hd h1,ax.map hl ht hd h2⟩
end
theorem Rd.same{a:Addr}{u:HO}(s:aF H H')(h:Rd H a u):Rd H' a u:=by
 obtain h|⟨o,h⟩:=h
 exact .inl (s _ _ h);exact .inr ⟨o,s _ _ h⟩
theorem dy.same{a:Addr}(s:aF H H')(h:dy K H a vs):dy K H' a vs:=by
 obtain h|h:=h
 exact .inl (Rd.same s h);exact .inr h
theorem lY.same{a:Addr}(s:aF H H')(h:lY K H O a vs):lY K H' O a vs:=by
 obtain h|h:=h
 exact .inl ⟨Rd.same s h.1,h.2⟩;exact .inr h
theorem At.same{t:T}(s:aF H H')(h:At K H O t v):At K H' O t v:=At.map (λ_ _ q=>q.same s) (λ_ _ q=>dy.same s q) (λ_ _ q=>⟨s _ _ q.1,q.2⟩) h
theorem ax.same{t:List T}{v:qak}(s:aF H H')(h:ax K H O t v):ax K H' O t v:=ax.map (λ_ _ q=>q.same s) (λ_ _ q=>dy.same s q) (λ_ _ q=>⟨s _ _ q.1,q.2⟩) h
theorem At.aP{t:T}(s:∀a∈O',a∈O)(h:At K H O t v):At K H O' t v :=
 At.map (λa vs q=>q.elim (λz=>.inl ⟨z.1,λm=>z.2 (s a m)⟩) .inr) (λ_ _ q=>q) (λa _ q=>⟨q.1,λm=>q.2 (s a m)⟩) h
theorem ax.aP{t:List T}{v:qak}(s:∀a∈O',a∈O)(h:ax K H O t v):ax K H O' t v :=
 ax.map (λa vs q=>q.elim (λz=>.inl ⟨z.1,λm=>z.2 (s a m)⟩) .inr) (λ_ _ q=>q) (λa _ q=>⟨q.1,λm=>q.2 (s a m)⟩) h
theorem Rd.some{a:Addr}{u:HO}(h:Rd H a u):H a≠none:=by obtain h|⟨o,h⟩:=h<;>rw[h]<;>simp
theorem At.more{t:T}(s:∀a∈O',a∈O\/H a=none)(h:At K H O t v):At K H O' t v :=
 At.map (λa vs q=>q.elim (λz=>.inl ⟨z.1,λm=>(s a m).elim z.2 (Rd.some z.1)⟩) .inr) (λ_ _ q=>q) (λa kvs q=>⟨q.1,λm=>(s a m).elim q.2 (by rw[q.1];simp)⟩) h
theorem ax.more{t:List T}{v:qak}(s:∀a∈O',a∈O\/H a=none)(h:ax K H O t v):ax K H O' t v :=
 ax.map (λa vs q=>q.elim (λz=>.inl ⟨z.1,λm=>(s a m).elim z.2 (Rd.some z.1)⟩) .inr) (λ_ _ q=>q) (λa kvs q=>⟨q.1,λm=>(s a m).elim q.2 (by rw[q.1];simp)⟩) h
noncomputable def kR:HO->Bool
 |.lst _=>true
 |.dK _=>true
 |.dT _=>true
 |.ins _ _ _=>true
 |.ext _=>true
 |_=>false
theorem At.wrote{t:T}{a:Addr}{o u:HO}(ha:a∈O)(hu:H a=some u)(hm:kR u=true)(h:At K H O t v):At K (upd H a o) O t v:=by
 have ne:∀b,b∉O->b≠a:=λb hb e=>hb (by rw[e];exact ha);refine At.map (λb vs q=>?_) (λb vs q=>?_) (λb kvs q=>?_) h;obtain q|q:=q
 refine .inl ⟨?_,q.2⟩;obtain z|⟨o',z⟩:=q.1
 exact .inl (by rw[ar (ne b q.2)];exact z);exact .inr ⟨o',by rw[ar (ne b q.2)];exact z⟩;exact .inr q;obtain z|z:=q
 refine .inl ?_;obtain z|⟨o',z⟩:=z
 exact .inl (by rw[ar (AX z hu (by intro e;subst e;cases hm))];exact z);exact .inr ⟨o',by rw[ar (AX z hu (by intro e;subst e;cases hm))];exact z⟩;exact .inr z;exact⟨by rw[ar (ne b q.2)];exact q.1,q.2⟩
theorem ax.iff{ts:List T}:∀{vs:qak},ax K H O ts vs↔Paired (λv t=>At K H O t v) vs ts:=by
 induction ts with
 |nil=>intro vs;simp only[ax];exact⟨λe=>by subst e;exact .nil,λh=>by cases h;rfl⟩
 |cons t ts ih=>
  intro vs;simp only[ax];constructor;rintro⟨v,r,rfl,h1,h2⟩;exact .cons h1 (ih.mp h2);intro h;cases h with
  |cons h1 h2=>exact⟨_,_,rfl,h1,ih.mpr h2⟩
theorem ax.wrote{t:List T}{v:qak}{a:Addr}{o u:HO}(ha:a∈O)(hu:H a=some u)(hm:kR u=true)(h:ax K H O t v):ax K (upd H a o) O t v :=
 ax.iff.mpr (Paired.iM (ax.iff.mp h) λ_ _ q=>q.wrote ha hu hm)
theorem ax.length{ts:List T}{vs:qak}(h:ax K H O ts vs):vs.length=ts.length:=Ih (ax.iff.mp h)
theorem ax.get{ts:List T}{vs:qak}(h:ax K H O ts vs){i:Nat}{t:T}(e:ts[i]?=some t):∃v,vs[i]?=some v/\At K H O t v:=by
 have q:=ax.iff.mp h;clear h;induction q generalizing i with
 |nil=>simp at e
 |cons r _ ih=>
  cases i with
  |zero=>simp at e;subst e;exact⟨_,rfl,r⟩
  |succ i=>obtain⟨v,h1,h2⟩:=ih (i:=i) (by simpa using e);exact⟨v,by simpa using h1,h2⟩
theorem ax.cons{t:T}{ts:List T}{v:V}{vs:qak}(h:At K H O t v)(hs:ax K H O ts vs):ax K H O (t::ts) (v::vs):=by simp only[ax];exact⟨v,vs,rfl,h,hs⟩
theorem ax.nil:ax K H O [] []:=by simp only[ax]
theorem ax.append{ts us:List T}{ws:qak}(h:ax K H O ts vs)(h':ax K H O us ws):ax K H O (ts++us) (vs++ws):=by
 rw[ax.iff] at h h' ⊢;induction h with
 |nil=>exact h'
 |cons r _ ih=>exact .cons r ih
theorem ax.drop{ts:List T}(n:Nat)(h:ax K H O ts vs):ax K H O (ts.drop n) (vs.drop n):=by
 rw[ax.iff] at h ⊢;induction h generalizing n with
 |nil=>cases n<;>exact .nil
 |cons r t ih=>cases n with
  |zero=>exact .cons r t
  |succ n=>exact ih n
theorem ax.take{ts:List T}(n:Nat)(h:ax K H O ts vs):ax K H O (ts.take n) (vs.take n):=by
 rw[ax.iff] at h ⊢;induction h generalizing n with
 |nil=>cases n<;>exact .nil
 |cons r t ih=>cases n with
  |zero=>exact .nil
  |succ n=>exact .cons r (ih n)
theorem ax.set{ts:List T}{t:T}(i:Nat)(h:ax K H O ts vs)(q:At K H O t v):ax K H O (ts.set i t) (vs.set i v):=by
 rw[ax.iff] at h ⊢;induction h generalizing i with
 |nil=>exact .nil
 |cons r s ih=>cases i with
  |zero=>exact .cons q s
  |succ i=>exact .cons r (ih i)
end
mutual
noncomputable def oQ:T->Bool
 |.tup ts=>iT ts
 |.lst _=>false
 |.dk _ _=>false
 |.dt _ _=>false
 |.df _ _ _=>false
 |.dz _ _ _=>false
 |.dc _ _ _=>false
 |.kt _=>false
 |.ins _ _ _=>false
 |.pin _ _=>false
 |_=>true
noncomputable def iT:List T->Bool
 |[]=>true
 |t::ts=>oQ t && iT ts
end
section
variable{O O':qah}
mutual
theorem At.oQ:∀{t:T}{v:V},oQ t=true->At K H O t v->At K H O' t v
 |.a9,_,_,h=>by simpa only[At] using h
 |.bl _,_,_,h=>by simpa only[At] using h
 |.int _,_,_,h=>by simpa only[At] using h
 |.str _,_,_,h=>by simpa only[At] using h
 |.ob _,_,_,h=>by simpa only[At] using h
 |.ty _,_,_,h=>by simpa only[At] using h
 |.tup ts,_,i,h=>by simp only[At] at h ⊢;simp only[VT.oQ] at i;obtain⟨a,vs,e,h1,h2⟩:=h;exact⟨a,vs,e,h1,ax.oQ i h2⟩
 |.lst ts,_,i,h=>by simp only[VT.oQ] at i;cases i
 |.dk _ _,_,i,h=>by simp only[VT.oQ] at i;cases i
 |.dt _ _,_,i,h=>by simp only[VT.oQ] at i;cases i
 |.df _ _ _,_,i,h=>by simp only[VT.oQ] at i;cases i
 |.dz _ _ _,_,i,h=>by simp only[VT.oQ] at i;cases i
 |.dc _ _ _,_,i,h=>by simp only[VT.oQ] at i;cases i
 |.kt _,_,i,h=>by simp only[VT.oQ] at i;cases i
 |.ins _ _ _,_,i,h=>by simp only[VT.oQ] at i;cases i
 |.pin _ _,_,i,h=>by simp only[VT.oQ] at i;cases i
theorem ax.oQ:∀{ts:List T}{vs:qak},iT ts=true->ax K H O ts vs->ax K H O' ts vs
 |[],_,_,h=>by simpa only[ax] using h
 |t::ts,_,i,h=>by simp only[VT.iT,gi] at i;simp only[ax] at h ⊢;obtain⟨v,r,e,h1,h2⟩:=h;exact⟨v,r,e,At.oQ i.1 h1,ax.oQ i.2 h2⟩
end
end
abbrev En:=List (Option (T×Bool))
structure Zc where
 H0:Hp
 P:List (Nat×Addr)
 Ox:qah
noncomputable def Zc.ex(Z:Zc)(a:Addr):Zc:={Z with Ox:=a::Z.Ox}
def b_(K:qaf)(H:Hp)(A:qah)(a:Addr):T->Prop
 |.lst ts=>∃vs,H a=some (.lst vs)/\ax K H A ts vs
 |.dk ks ts=>∃vs,ks.length=vs.length/\H a=some (.dK (ks.zip vs))/\ax K H A ts vs
 |.dt ks ts=>∃vs,ks.length=vs.length/\H a=some (.dT (ks.zip vs))/\ax K H A ts vs
 |.ins C ns ts=>∃dx vs,ns.length=vs.length/\H a=some (.ins C dx (ns.zip vs))/\ax K H A ts vs
 |_=>False
def fE(K:qaf)(H:Hp)(A:qah):Option (T×Bool)->qar->Option V->Prop
 |none,o,_=>o=none
 |some (t,false),o,s=>o=none/\∃v,s=some v/\At K H A t v
 |some (t,true),o,s=>∃a,o=some a/\s=some (.ref a)/\b_ K H A a t
noncomputable def roots(O:HD):qah:=O.filterMap id
noncomputable def av(Z:Zc)(O:HD):qah:=roots O++Z.Ox
structure au(K:qaf)(Z:Zc)(tm:List (T×V))(O:HD)(ρ:En)(σ:St)(H:Hp):Prop where
 lσ:σ.length=ρ.length
 lO:O.length=ρ.length
 sl:∀(i:Nat) e,ρ[i]?=some e->∃o s,O[i]?=some o/\σ[i]?=some s/\fE K H (av Z O) e o s
 nd:(roots O).Nodup
 own:∀a∈roots O,(a∈Z.P.map (·.2)\/Z.H0 a=none)/\a∉Z.Ox/\∃u,H a=some u/\kR u=true
 par:∀p∈Z.P,O[p.1]?=some (some p.2)
 ox:∀a∈Z.Ox,H a≠none
 keep:∀b o,Z.H0 b=some o->b∉Z.P.map (·.2)->H b=some o
 iH:∀p∈tm,At K H (av Z O) p.1 p.2
section
variable{Z:Zc}{tm:List (T×V)}{ρ:En}
theorem b_.map{A A':qah}{a:Addr}{t:T}(h:b_ K H A a t)(h1:H' a=H a)(h2:∀ts vs,ax K H A ts vs->ax K H' A' ts vs):b_ K H' A' a t:=by
 cases t with
 |lst ts=>obtain⟨vs,e,q⟩:=h;exact⟨vs,h1.trans e,h2 _ _ q⟩
 |dk ks ts=>obtain⟨vs,l,e,q⟩:=h;exact⟨vs,l,h1.trans e,h2 _ _ q⟩
 |dt ks ts=>obtain⟨vs,l,e,q⟩:=h;exact⟨vs,l,h1.trans e,h2 _ _ q⟩
 |ins C ns ts=>obtain⟨dx,vs,l,e,q⟩:=h;exact⟨dx,vs,l,h1.trans e,h2 _ _ q⟩
 |_=>exact h.elim
theorem b_.mut{A:qah}{a:Addr}{t:T}(h:b_ K H A a t):∃u,H a=some u/\kR u=true:=by
 cases t with
 |lst ts=>obtain⟨vs,e,q⟩:=h;exact⟨_,e,rfl⟩
 |dk ks ts=>obtain⟨vs,l,e,q⟩:=h;exact⟨_,e,rfl⟩
 |dt ks ts=>obtain⟨vs,l,e,q⟩:=h;exact⟨_,e,rfl⟩
 |ins C ns ts=>obtain⟨dx,vs,l,e,q⟩:=h;exact⟨_,e,rfl⟩
 |_=>exact h.elim
theorem b_.aP{A A':qah}{a:Addr}{t:T}(h:b_ K H A a t)(s:∀b∈A',b∈A):b_ K H A' a t:=h.map rfl λ_ _ q=>q.aP s
theorem b_.same{A:qah}{a:Addr}{t:T}(h:b_ K H A a t)(s:aF H H'):b_ K H' A a t:=by obtain⟨u,e,_⟩:=h.mut;exact h.map (by rw[e];exact s _ _ e) λ_ _ q=>q.same s
theorem b_.at{A:qah}{a:Addr}{t:T}(h:b_ K H A a t)(n:a∉A):At K H A t (.ref a):=by
 cases t with
 |lst ts=>obtain⟨vs,e,q⟩:=h;simp only[At];exact⟨a,vs,rfl,.inl ⟨.inl e,n⟩,q⟩
 |dk ks ts=>obtain⟨vs,l,e,q⟩:=h;simp only[At];exact⟨a,vs,rfl,l,⟨e,n⟩,q⟩
 |dt ks ts=>obtain⟨vs,l,e,q⟩:=h;simp only[At];exact⟨a,vs,rfl,l,⟨e,n⟩,q⟩
 |ins C ns ts=>obtain⟨dx,vs,l,e,q⟩:=h;simp only[At];exact⟨a,dx,vs,rfl,l,⟨e,n⟩,q⟩
 |_=>exact h.elim
theorem fE.map{A A':qah}{e:Option (T×Bool)}{o:qar}{s:Option V}(h:fE K H A e o s)(h1:∀t v,At K H A t v->At K H' A' t v)(h2:∀a t,o=some a->b_ K H A a t->b_ K H' A' a t):fE K H' A' e o s:=by
 match e,h with
 |none,h=>exact h
 |some (t,false),⟨e,v,es,q⟩=>exact⟨e,v,es,h1 _ _ q⟩
 |some (t,true),⟨a,e,es,q⟩=>exact⟨a,e,es,h2 _ _ e q⟩
theorem aA{a:Addr}:a∈roots O↔some a∈O:=by unfold roots;rw[SE];exact⟨λ⟨x,h,e⟩=>by rw[id] at e;rw[<- e];exact h,λh=>⟨_,h,rfl⟩⟩
theorem au.FR(I:au K Z tm O ρ σ H):∀a∈av Z O,H a≠none:=λa h=>by
 rcases g7.mp h with h|h
 obtain⟨_,_,u,e,_⟩:=I.own a h;rw[e];simp;exact I.ox a h
theorem au.same(I:au K Z tm O ρ σ H)(s:aF H H'):au K Z tm O ρ σ H' :=
 ⟨I.lσ,I.lO,λi e h=>let ⟨o,w,h1,h2,h3⟩:=I.sl i e h;⟨o,w,h1,h2,h3.map (λ_ _ q=>q.same s) λ_ _ _ q=>q.same s⟩,I.nd,
  λa h=>let ⟨h1,h2,u,e,m⟩:=I.own a h;⟨h1,h2,u,s _ _ e,m⟩,I.par,λa h=>by
   cases e:H a with
   |none=>exact absurd e (I.ox a h)
   |some u=>rw[s _ _ e];simp,
  λb o e n=>s _ _ (I.keep b o e n),λp hp=>(I.iH p hp).same s⟩
theorem br(i:Nat):∀a∈roots (O.set i none),a∈roots O:=λa h=>by
 rw[aA] at h ⊢;rcases Oi h with z|z
 exact z;cases z
theorem di:∀(O:HD)(i:Nat),(roots O).Nodup->(roots (O.set i none)).Nodup
 |[],i,h=>by simpa using h
 |o::O,0,h=>by
  cases o with
  |none=>simpa[roots] using h
  |some a=>simp only[roots,SI,k8,id] at h ⊢;exact (lC.mp h).2
 |o::O,i+1,h=>by
  have key:=di O i;cases o with
  |none=>simp only[roots,NJ,k8,id] at h ⊢;exact key h
  |some a=>simp only[roots,NJ,k8,id] at h ⊢;rw[lC] at h ⊢;exact⟨λz=>h.1 (br i a z),key h.2⟩
theorem bu(i:Nat):∀a∈av Z (O.set i none),a∈av Z O:=λa h=>by
 rcases g7.mp h with h|h
 exact hU _ (br i a h);exact g6 _ h
theorem get_set{l:List α}{x y:α}(h:(l.set i x)[j]?=some y):(j=i/\y=x/\i<l.length)\/(j≠i/\l[j]?=some y):=by rw[List.getElem?_set] at h;by_cases e:i=j;rw[if_pos e] at h;by_cases hl:i<l.length;rw[if_pos hl] at h;exact .inl ⟨e.symm,(Option.some.inj h).symm,hl⟩;rw[if_neg hl] at h;cases h;rw[if_neg e] at h;exact .inr ⟨λz=>e z.symm,h⟩
theorem au.put(I:au K Z tm O ρ σ H){t:T}(hp:∀p∈Z.P,p.1≠i)(hv:At K H (av Z O) t v):au K Z tm (O.set i none) (ρ.set i (some (t,false))) (σ.set i (some v)) H:=by
 have fw:∀{t:T}{v:V},At K H (av Z O) t v->At K H (av Z (O.set i none)) t v:=λq=>q.aP (bu i);refine⟨by simp[I.lσ],by simp[I.lO],λj e h=>?_,di _ _ I.nd,λa h=>I.own a (br i a h),λp q=>?_,I.ox,I.keep,λp q=>fw (I.iH p q)⟩;rcases get_set h with⟨rfl,rfl,hl⟩|⟨ne,h⟩
 exact⟨none,some v,by rw[AB (by rw[I.lO];exact hl)],by rw[AB (by rw[I.lσ];exact hl)],rfl,v,rfl,fw hv⟩;obtain⟨o,s,h1,h2,h3⟩:=I.sl j e h;exact⟨o,s,by rw[r6 (Ne.symm ne)];exact h1,by rw[r6 (Ne.symm ne)];exact h2,h3.map (λ_ _ q=>fw q) λ_ _ _ q=>q.aP (bu i)⟩;rw[r6 (Ne.symm (hp p q))];exact I.par p q
theorem au.forget(I:au K Z tm O ρ σ H)(hp:∀p∈Z.P,p.1≠i):au K Z tm (O.set i none) (ρ.set i none) σ H:=by
 have fw:∀{t:T}{v:V},At K H (av Z O) t v->At K H (av Z (O.set i none)) t v:=λq=>q.aP (bu i);refine⟨by simp[I.lσ],by simp[I.lO],λj e h=>?_,di _ _ I.nd,λa h=>I.own a (br i a h),λp q=>?_,I.ox,I.keep,λp q=>fw (I.iH p q)⟩;rcases get_set h with⟨rfl,rfl,hl⟩|⟨ne,h⟩
 obtain⟨s,hs⟩:∃s,σ[j]?=some s:=⟨σ[j]'(by rw[I.lσ];exact hl),by simp⟩;exact⟨none,s,by rw[AB (by rw[I.lO];exact hl)],hs,rfl⟩;obtain⟨o,s,h1,h2,h3⟩:=I.sl j e h;exact⟨o,s,by rw[r6 (Ne.symm ne)];exact h1,h2,h3.map (λ_ _ q=>fw q) λ_ _ _ q=>q.aP (bu i)⟩;rw[r6 (Ne.symm (hp p q))];exact I.par p q
theorem kA:∀(O:HD)(i:Nat)(a:Addr),a∉roots O->(roots O).Nodup->(roots (O.set i (some a))).Nodup
 |[],i,a,_,h=>by simpa using h
 |o::O,0,a,n,h=>by
  cases o with
  |none=>simp only[roots,SI,k8,id] at n h ⊢;exact lC.mpr ⟨n,h⟩
  |some b=>simp only[roots,SI,k8,id] at n h ⊢;exact lC.mpr ⟨λz=>n (d3 _ z),(lC.mp h).2⟩
 |o::O,i+1,a,n,h=>by
  have key:=kA O i a;cases o with
  |none=>simp only[roots,NJ,k8,id] at n h ⊢;exact key n h
  |some b=>
   simp only[roots,NJ,k8,id] at n h ⊢;rw[lC] at h ⊢;refine⟨λz=>?_,key (λz=>n (d3 _ z)) h.2⟩;have z':some b∈O.set i (some a):=aA.mp z;rcases Oi z' with q|q
   exact h.1 (aA.mpr q);exact n (by rw[Option.some.inj q];exact dq)
theorem sI{a:Addr}(i:Nat):∀b∈av Z (O.set i (some a)),b∈av (Z.ex a) O:=λb h=>by
 rcases g7.mp h with h|h
 rcases Oi (aA.mp h) with z|z
 exact hU _ (aA.mpr z);exact g6 _ (by rw[Option.some.inj z];exact dq);exact g6 _ (d3 _ h)
theorem au.U_{a:Addr}(I:au K (Z.ex a) tm O ρ σ H){t:T}(hp:∀p∈Z.P,p.1≠i)(hv:b_ K H (av (Z.ex a) O) a t)(h0:Z.H0 a=none)(hx:a∉Z.Ox):au K Z tm (O.set i (some a)) (ρ.set i (some (t,true))) (σ.set i (some (.ref a))) H:=by
 have sub:=sI (Z:=Z) (O:=O) (a:=a) i;have fw:∀{t:T}{v:V},At K H (av (Z.ex a) O) t v->At K H (av Z (O.set i (some a))) t v:=λq=>q.aP sub;have na:a∉roots O:=λz=>(I.own a z).2.1 dq;refine⟨by simp[I.lσ],by simp[I.lO],λj e h=>?_,kA _ _ _ na I.nd,λb h=>?_,λp q=>?_,λb h=>I.ox b (d3 _ h),I.keep,λp q=>fw (I.iH p q)⟩;rcases get_set h with⟨rfl,rfl,hl⟩|⟨ne,h⟩
 exact⟨some a,some (.ref a),by rw[AB (by rw[I.lO];exact hl)],by rw[AB (by rw[I.lσ];exact hl)],a,rfl,rfl,hv.aP sub⟩;obtain⟨o,s,h1,h2,h3⟩:=I.sl j e h;exact⟨o,s,by rw[r6 (Ne.symm ne)];exact h1,by rw[r6 (Ne.symm ne)];exact h2,h3.map (λ_ _ q=>fw q) λ_ _ _ q=>q.aP sub⟩;rcases Oi (aA.mp h) with z|z
 obtain⟨h1,h2,h3⟩:=I.own b (aA.mpr z);exact⟨h1,λq=>h2 (d3 _ q),h3⟩;cases z;exact⟨.inr h0,hx,hv.mut⟩;rw[r6 (Ne.symm (hp p q))];exact I.par p q
theorem au.dH(I:au K Z tm O ρ σ H){t:T}(hp:∀p∈Z.P,p.1≠i)(hi:ρ[i]?=some (some (t,true))):au K Z tm (O.set i none) (ρ.set i (some (t,false))) σ H:=by
 have fw:∀{t:T}{v:V},At K H (av Z O) t v->At K H (av Z (O.set i none)) t v:=λq=>q.aP (bu i);obtain⟨o,s,h1,h2,a,rfl,rfl,hr⟩:=I.sl i _ hi;have ha:a∈roots O:=aA.mpr (fY h1);have na:a∉roots (O.set i none):=λz=>by
  obtain⟨j,hj⟩:=Ic.mp (aA.mp z);rcases get_set hj with⟨_,q,_⟩|⟨ne,q⟩
  cases q
  -- two places of one root
  have key:∀(O:HD)(i j:Nat),i<j->O[i]?=some (some a)->O[j]?=some (some a)->(roots O).Nodup->False:=by
   intro O;induction O with
   |nil=>intro i j _ h;simp at h
   |cons o O ih=>
    intro i j xr e1 e2 nd;cases j with
    |zero=>omega
    |succ j=>
     have zf:O[j]?=some (some a):=by simpa using e2
     cases i with
     |zero=>
      have:o=some a:=by simpa using e1
      subst this;simp only[roots,k8,id] at nd;exact (lC.mp nd).1 (aA.mpr (fY zf))
     |succ i=>
      refine ih i j (by omega) (by simpa using e1) zf ?_;cases o with
      |none=>simpa[roots] using nd
      |some b=>simp only[roots,k8,id] at nd;exact (lC.mp nd).2
  rcases Nat.lt_or_gt_of_ne ne with l|l
  exact key O j i l q h1 I.nd;exact key O i j l h1 q I.nd
 have U':a∉av Z (O.set i none):=λz=>by
  rcases g7.mp z with z|z
  exact na z;exact (I.own a ha).2.1 z
 refine⟨by simp[I.lσ],by simp[I.lO],λj e h=>?_,di _ _ I.nd,λa h=>I.own a (br i a h),λp q=>?_,I.ox,I.keep,λp q=>fw (I.iH p q)⟩;rcases get_set h with⟨rfl,rfl,hl⟩|⟨ne,h⟩
 exact⟨none,some (.ref a),by rw[AB (by rw[I.lO];exact hl)],h2,rfl,.ref a,rfl,(hr.aP (bu j)).at U'⟩;obtain⟨o,s,h1,h2,h3⟩:=I.sl j e h;exact⟨o,s,by rw[r6 (Ne.symm ne)];exact h1,h2,h3.map (λ_ _ q=>fw q) λ_ _ _ q=>q.aP (bu i)⟩;rw[r6 (Ne.symm (hp p q))];exact I.par p q
theorem au.wrote(I:au K Z tm O ρ σ H){t t':T}{a:Addr}{u:HO}(hi:ρ[i]?=some (some (t,true)))(hO:O[i]?=some (some a))(hr:b_ K (upd H a u) (av Z O) a t'):au K Z tm O (ρ.set i (some (t',true))) σ (upd H a u):=by
 have ha:a∈roots O:=aA.mpr (fY hO);have AL:a∈av Z O:=hU _ ha;obtain⟨hP,hx,u0,e0,m0⟩:=I.own a ha;have inj:∀j b,j≠i->O[j]?=some (some b)->b≠a:=by
  intro j b ne hj e;subst e;have key:∀(O:HD)(i j:Nat),i<j->O[i]?=some (some b)->O[j]?=some (some b)->(roots O).Nodup->False:=by
   intro O;induction O with
   |nil=>intro i j _ h;simp at h
   |cons o O ih=>
    intro i j xr e1 e2 nd;cases j with
    |zero=>omega
    |succ j=>
     have zf:O[j]?=some (some b):=by simpa using e2
     cases i with
     |zero=>
      have:o=some b:=by simpa using e1
      subst this;simp only[roots,k8,id] at nd;exact (lC.mp nd).1 (aA.mpr (fY zf))
     |succ i=>
      refine ih i j (by omega) (by simpa using e1) zf ?_;cases o with
      |none=>simpa[roots] using nd
      |some c=>simp only[roots,k8,id] at nd;exact (lC.mp nd).2
  rcases Nat.lt_or_gt_of_ne ne with l|l
  exact key O j i l hj hO I.nd;exact key O i j l hO hj I.nd
 refine⟨by simp[I.lσ],by simp[I.lO],λj e h=>?_,I.nd,λb h=>?_,I.par,λb h=>?_,λb o e n=>?_,λp q=>(I.iH p q).wrote AL e0 m0⟩;rcases get_set h with⟨rfl,rfl,hl⟩|⟨ne,h⟩
 obtain⟨o,s,h1,h2,a',h4,h5,h6⟩:=I.sl j _ hi;rw[hO] at h1;cases h1;cases h4;exact⟨_,s,hO,h2,a,rfl,h5,hr⟩;obtain⟨o,s,h1,h2,h3⟩:=I.sl j e h;refine⟨o,s,h1,h2,h3.map (λ_ _ q=>q.wrote AL e0 m0) λb t e q=>?_⟩;subst e;exact q.map (ar (inj j b ne h1)) λ_ _ z=>z.wrote AL e0 m0;obtain⟨h1,h2,v,e,m⟩:=I.own b h;by_cases hb:b=a;subst hb;exact⟨h1,h2,hr.mut⟩;exact⟨h1,h2,v,by rw[ar hb];exact e,m⟩;by_cases hb:b=a;subst hb;exact absurd h hx;rw[ar hb];exact I.ox b h;by_cases hb:b=a;subst hb;obtain q|q:=hP
 exact absurd q n;rw[q] at e;cases e;rw[ar hb];exact I.keep b o e n
theorem au.fresh(I:au K Z tm O ρ σ H){a:Addr}(h:H a=none):a∉av Z O/\a∉Z.Ox/\Z.H0 a=none:=by
 refine⟨λz=>I.FR a z h,λz=>I.ox a z h,?_⟩;cases e:Z.H0 a with
 |none=>rfl
 |some o=>by_cases hp:a∈Z.P.map (·.2);obtain⟨p,Tc,rfl⟩:=kN.mp hp;obtain⟨_,_,u,e',_⟩:=I.own p.2 (aA.mpr (fY (I.par p Tc)));rw[h] at e';cases e';rw[I.keep a o e hp] at h;cases h
theorem cp{a:Addr}:∀b∈av (Z.ex a) O,b∈av Z O\/b=a:=λb h=>by
 rcases g7.mp h with h|h
 exact .inl (hU _ h);rcases dh.mp h with h|h
 exact .inr h;exact .inl (g6 _ h)
theorem eM{a:Addr}:∀b∈av Z O,b∈av (Z.ex a) O:=λb h=>by
 rcases g7.mp h with h|h
 exact hU _ h;exact g6 _ (d3 _ h)
theorem au.new(I:au K Z tm O ρ σ H){a:Addr}{u:HO}(h:H a=none)(hu:kR u=true):au K (Z.ex a) tm O ρ σ (upd H a u):=by
 have s:aF H (upd H a u):=aB h;have J:=I.same s;obtain⟨n1,n2,n3⟩:=I.fresh h;have mr:∀b∈av (Z.ex a) O,b∈av Z O\/H b=none:=λb hb=>(cp b hb).imp id λe=>by rw[e];exact h
 have fw:∀{t:T}{v:V},At K H (av Z O) t v->At K (upd H a u) (av (Z.ex a) O) t v:=λq=>(q.more mr).same s;refine⟨J.lσ,J.lO,λi e hi=>?_,J.nd,λb hb=>?_,J.par,λb hb=>?_,J.keep,λp hp=>fw (I.iH p hp)⟩;obtain⟨o,w,h1,h2,h3⟩:=I.sl i e hi;refine⟨o,w,h1,h2,h3.map (λ_ _ q=>fw q) λb t eo q=>?_⟩;refine b_.same (q.map rfl λ_ _ z=>z.more mr) s;obtain⟨q1,q2,q3⟩:=J.own b hb;refine⟨q1,λz=>?_,q3⟩;rcases dh.mp z with z|z
 exact n1 (by rw[<- z];exact hU _ hb);exact q2 z;rcases dh.mp hb with z|z
 rw[z,ay];simp;exact J.ox b z
theorem au.Va{a:Addr}(I:au K (Z.ex a) tm O ρ σ H):au K Z tm O ρ σ H :=
 ⟨I.lσ,I.lO,λi e h=>let ⟨o,w,h1,h2,h3⟩:=I.sl i e h;⟨o,w,h1,h2,h3.map (λ_ _ q=>q.aP eM) λ_ _ _ q=>q.aP eM⟩,I.nd,
  λb h=>let ⟨q1,q2,q3⟩:=I.own b h;⟨q1,λz=>q2 (d3 _ z),q3⟩,I.par,λb h=>I.ox b (d3 _ h),I.keep,λp hp=>(I.iH p hp).aP eM⟩
end
inductive Rt where
 |vw (t:T)
 |fr (t:T)
def Rt.t:Rt->T
 |.vw t=>t
 |.fr t=>t
def d4(K:qaf)(H:Hp)(A:qah)(t:T)(v:V):Prop:=At K H A t v\/∃a,v=.ref a/\b_ K H A a t
def f7(K:qaf)(Z:Zc)(tm:List (T×V))(O:HD)(ρ:En)(σ:St)(H:Hp):Rt->V->Prop
 |.vw t,v=>au K Z tm O ρ σ H/\At K H (av Z O) t v
 |.fr t,v=>∃a,v=.ref a/\au K (Z.ex a) tm O ρ σ H/\b_ K H (av (Z.ex a) O) a t/\Z.H0 a=none/\a∉Z.Ox
abbrev FE:=En->(T->Prop)->Prop
abbrev FP:=En->(Rt->Prop)->Prop
abbrev FX:=En->(En->Rt->Prop)->Prop
abbrev FB:=En->(Bool->Prop)->Prop
abbrev FA:=En->(List T->Prop)->Prop
section
variable{Z:Zc}{tm:List (T×V)}{ρ:En}{A:qah}
theorem d4.same{t:T}(s:aF H H')(h:d4 K H A t v):d4 K H' A t v:=h.imp (λq=>q.same s) λ⟨a,e,q⟩=>⟨a,e,q.same s⟩
theorem d4.lst{ts:List T}(h:d4 K H A (.lst ts) v):∃a vs,v=.ref a/\fq K H a vs/\ax K H A ts vs:=by
 obtain h|⟨a,rfl,vs,e,q⟩:=h
 simp only[At] at h;obtain⟨a,vs,rfl,l,q⟩:=h;exact⟨a,vs,rfl,l.sq,q⟩;exact⟨a,vs,rfl,fq.of e,q⟩
theorem d4.tup{ts:List T}(h:d4 K H A (.tup ts) v):∃a vs,v=.ref a/\dy K H a vs/\ax K H A ts vs:=by
 obtain h|⟨a,rfl,q⟩:=h
 simpa only[At] using h;exact q.elim
theorem d4.dk{ks:List Key}{ts:List T}(h:d4 K H A (.dk ks ts) v):∃a vs,v=.ref a/\ks.length=vs.length/\H a=some (.dK (ks.zip vs))/\ax K H A ts vs:=by
 obtain h|⟨a,rfl,vs,l,e,q⟩:=h
 simp only[At] at h;obtain⟨a,vs,rfl,l,d,q⟩:=h;exact⟨a,vs,rfl,l,d.1,q⟩;exact⟨a,vs,rfl,l,e,q⟩
theorem d4.dt{ts:List T}(h:d4 K H A (.dt ks ts) v):∃a vs,v=.ref a/\ks.length=vs.length/\H a=some (.dT (ks.zip vs))/\ax K H A ts vs:=by
 obtain h|⟨a,rfl,vs,l,e,q⟩:=h
 simp only[At] at h;obtain⟨a,vs,rfl,l,d,q⟩:=h;exact⟨a,vs,rfl,l,d.1,q⟩;exact⟨a,vs,rfl,l,e,q⟩
theorem d4.df{ts:List T}(h:d4 K H A (.df o ks ts) v):∃a vs,v=.ref a/\ks.length=vs.length/\H a=some (.dH o (.dT (ks.zip vs)))/\ax K H A ts vs:=by
 obtain h|⟨a,rfl,q⟩:=h
 simp only[At] at h;obtain⟨a,vs,rfl,l,d,q⟩:=h;exact⟨a,vs,rfl,l,d.1,q⟩;exact q.elim
theorem d4.dz{ks:List Key}{ts:List T}(h:d4 K H A (.dz o ks ts) v):∃a vs,v=.ref a/\ks.length=vs.length/\H a=some (.dH o (.dK (ks.zip vs)))/\ax K H A ts vs:=by
 obtain h|⟨a,rfl,q⟩:=h
 simp only[At] at h;obtain⟨a,vs,rfl,l,d,q⟩:=h;exact⟨a,vs,rfl,l,d.1,q⟩;exact q.elim
theorem d4.dc{nh:List Key×Key->Int}{ks:List (List Key×Key)}{ts:List T}(h:d4 K H A (.dc nh ks ts) v):∃a xs vs,v=.ref a/\H a=some (.ext (PQ nh a xs))/\ks=xs.map (·.1)/\(a==sysModules)=false/\(∀x∈xs,PR K H x.1 x.2.1)/\Vals vs (xs.map (·.2.2))/\ax K H A ts vs:=by
 obtain h|⟨a,rfl,q⟩:=h
 simp only[At] at h;obtain⟨a,xs,vs,rfl,d,q⟩:=h;exact⟨a,xs,vs,rfl,d.1,q⟩;exact q.elim
theorem d4.kt{k:List Key}(h:d4 K H A (.kt k) v):∃a,v=.ref a/\H a=some (.tup (k.map kV)):=by
 obtain h|⟨a,rfl,q⟩:=h
 simp only[At] at h;obtain⟨a,rfl,d⟩:=h;exact⟨a,rfl,d.1⟩;exact q.elim
theorem d4.ins{ns:qai}{ts:List T}(h:d4 K H A (.ins C ns ts) v):∃a dx vs,v=.ref a/\ns.length=vs.length/\H a=some (.ins C dx (ns.zip vs))/\ax K H A ts vs:=by
 obtain h|⟨a,rfl,dx,vs,l,e,q⟩:=h
 simp only[At] at h;obtain⟨a,dx,vs,rfl,l,d,q⟩:=h;exact⟨a,dx,vs,rfl,l,d.1,q⟩;exact⟨a,dx,vs,rfl,l,e,q⟩
theorem d4.int{i:Int}(h:d4 K H A (.int i) v):v=.int i:=h.elim (λq=>by simpa only[At] using q) λ⟨_,_,q⟩=>q.elim
theorem d4.str{i:Str}(h:d4 K H A (.str i) v):v=.str i:=h.elim (λq=>by simpa only[At] using q) λ⟨_,_,q⟩=>q.elim
theorem d4.bl{i:Bool}(h:d4 K H A (.bl i) v):v=.bl i:=h.elim (λq=>by simpa only[At] using q) λ⟨_,_,q⟩=>q.elim
theorem d4.a9(h:d4 K H A .a9 v):v=.a9:=h.elim (λq=>by simpa only[At] using q) λ⟨_,_,q⟩=>q.elim
theorem d4.ob{a:Addr}(h:d4 K H A (.ob a) v):v=.ref a:=h.elim (λq=>by simpa only[At] using q) λ⟨_,_,q⟩=>q.elim
theorem aZ{i:Int}:At K H A (.int i) (.int i):=by simp only[At]
theorem cZ{i:Str}:At K H A (.str i) (.str i):=by simp only[At]
theorem cX{i:Bool}:At K H A (.bl i) (.bl i):=by simp only[At]
theorem p9:At K H A .a9 .a9:=by simp only[At]
theorem cP{ts:List T}{a:Addr}(h:dy K H a vs)(q:ax K H A ts vs):At K H A (.tup ts) (.ref a):=by simp only[At];exact⟨a,vs,rfl,h,q⟩
theorem f7.env{r:Rt}(h:f7 K Z tm O ρ σ H r v):au K Z tm O ρ σ H:=by
 cases r with
 |vw t=>exact h.1
 |fr t=>obtain⟨a,_,I,_⟩:=h;exact I.Va
theorem f7.at{r:Rt}(h:f7 K Z tm O ρ σ H r v):At K H (av Z O) r.t v:=by
 cases r with
 |vw t=>exact h.2
 |fr t=>
  obtain⟨a,rfl,I,q,_,hx⟩:=h;refine (q.aP eM).at λz=>?_;rcases g7.mp z with z|z
  exact (I.own a z).2.1 dq;exact hx z
theorem au.vB(I:au K Z tm O ρ σ H){a:Addr}{ts:List T}(h:H a=none)(q:ax K H (av Z O) ts vs):f7 K Z tm O ρ σ (upd H a (.lst vs)) (.fr (.lst ts)) (.ref a):=by obtain⟨n1,n2,n3⟩:=I.fresh h;exact⟨a,rfl,I.new h rfl,⟨vs,ay,(q.more λb hb=>(cp b hb).imp id λe=>by rw[e];exact h).same (aB h)⟩,n3,n2⟩
theorem au.newD(I:au K Z tm O ρ σ H){a:Addr}{ks:List Key}{ts:List T}(h:H a=none)(hl:ks.length=vs.length)(q:ax K H (av Z O) ts vs):f7 K Z tm O ρ σ (upd H a (.dK (ks.zip vs))) (.fr (.dk ks ts)) (.ref a):=by obtain⟨n1,n2,n3⟩:=I.fresh h;exact⟨a,rfl,I.new h rfl,⟨vs,hl,ay,(q.more λb hb=>(cp b hb).imp id λe=>by rw[e];exact h).same (aB h)⟩,n3,n2⟩
end
structure Bx(p:List (T×V)->Prop):Prop where
 h:∀tm,p tm
section
variable(X:Cx)(Z:Zc)
noncomputable def lR(tm:List (T×V))(f:FE):TE:=λσ H Q=>∃ρ O q,au X.K Z tm O ρ σ H/\f ρ q/\∀t,q t->∀v H',aF H H'->d4 X.K H' (av Z O) t v->Q v H'
noncomputable def lE(tm:List (T×V))(f:FE):TE:=λσ H Q=>∃ρ O q,au X.K Z tm O ρ σ H/\f ρ q/\∀t,q t->∀v H',aF H H'->At X.K H' (av Z O) t v->Q v H'
def lP(tm:List (T×V))(f:FP):TE:=λσ H Q=>∃ρ O q,au X.K Z tm O ρ σ H/\f ρ q/\∀r,q r->∀v H',aF H H'->f7 X.K Z tm O ρ σ H' r v->Q v H'
def lX(tm:List (T×V))(f:FX):TE:=λσ H Q=>∃ρ O q,au X.K Z tm O ρ σ H/\f ρ q/\∀ρ' r,q ρ' r->∀O' v H',f7 X.K Z tm O' ρ' σ H' r v->Q v H'
def lB(tm:List (T×V))(f:FB):TT:=λσ H Q=>∃ρ O q,au X.K Z tm O ρ σ H/\f ρ q/\∀b,q b->∀H',aF H H'->Q b H'
noncomputable def lA(tm:List (T×V))(f:FA):TA:=λσ H Q=>∃ρ O q,au X.K Z tm O ρ σ H/\f ρ q/\∀ts,q ts->∀vs H',aF H H'->ax X.K H' (av Z O) ts vs->Q vs H'
noncomputable def Xa(tm:List (T×V))(f:FA):TA:=λσ H Q=>∃ρ O q,au X.K Z tm O ρ σ H/\f ρ q/\∀ts,q ts->∀vs H',aF H H'->Paired (λv t=>d4 X.K H' (av Z O) t v) vs ts->Q vs H'
def VR(e:Expr)(f:FE):Prop:=Bx λtm=>PE X e (lR X Z tm f)
instance{e:Expr}{f:FE}:CoeFun (VR X Z e f) λ_=>∀tm,PE X e (lR X Z tm f):=⟨λh=>Bx.h h⟩
def VE(e:Expr)(f:FE):Prop:=Bx λtm=>PE X e (lE X Z tm f)
instance{e:Expr}{f:FE}:CoeFun (VE X Z e f) λ_=>∀tm,PE X e (lE X Z tm f):=⟨λh=>Bx.h h⟩
def VP(e:Expr)(f:FP):Prop:=Bx λtm=>PE X e (lP X Z tm f)
instance{e:Expr}{f:FP}:CoeFun (VP X Z e f) λ_=>∀tm,PE X e (lP X Z tm f):=⟨λh=>Bx.h h⟩
def VX(e:Expr)(f:FX):Prop:=Bx λtm=>PE X e (lX X Z tm f)
instance{e:Expr}{f:FX}:CoeFun (VX X Z e f) λ_=>∀tm,PE X e (lX X Z tm f):=⟨λh=>Bx.h h⟩
def VC(e:Expr)(f:FB):Prop:=Bx λtm=>PT X e (lB X Z tm f)
instance{e:Expr}{f:FB}:CoeFun (VC X Z e f) λ_=>∀tm,PT X e (lB X Z tm f):=⟨λh=>Bx.h h⟩
def VW(e:Expr)(f:FB):Prop:=Bx λtm=>PW X e (lB X Z tm f)
instance{e:Expr}{f:FB}:CoeFun (VW X Z e f) λ_=>∀tm,PW X e (lB X Z tm f):=⟨λh=>Bx.h h⟩
def VA(es:qap)(f:FA):Prop:=Bx λtm=>PA X es (lA X Z tm f)
instance{es:qap}{f:FA}:CoeFun (VA X Z es f) λ_=>∀tm,PA X es (lA X Z tm f):=⟨λh=>Bx.h h⟩
def NX(es:qap)(f:FA):Prop:=Bx λtm=>PA X es (Xa X Z tm f)
instance{es:qap}{f:FA}:CoeFun (NX X Z es f) λ_=>∀tm,PA X es (Xa X Z tm f):=⟨λh=>Bx.h h⟩
end
theorem PE.weak{X:Cx}{t t':TE}(h:PE X e t)(hw:∀σ H Q,t' σ H Q->t σ H Q):PE X e t':=λpins s σ H Q I q=>h pins s σ H Q I (hw _ _ _ q)
theorem PT.weak{X:Cx}{t t':TT}(h:PT X e t)(hw:∀σ H Q,t' σ H Q->t σ H Q):PT X e t':=λpins s σ H Q I q=>h pins s σ H Q I (hw _ _ _ q)
theorem PW.weak{X:Cx}{t t':TT}(h:PW X e t)(hw:∀σ H Q,t' σ H Q->t σ H Q):PW X e t':=λwh pins s σ H Q I q=>h wh pins s σ H Q I (hw _ _ _ q)
theorem PA.weak{X:Cx}{e:qap}{t t':TA}(h:PA X e t)(hw:∀σ H Q,t' σ H Q->t σ H Q):PA X e t':=λpos pins s σ H Q I q=>h pos pins s σ H Q I (hw _ _ _ q)
theorem PS.weak{X:Cx}{b:Stmt}{t t':TS}(h:PS X b t)(hw:∀D σ H,t' D σ H->t D σ H):PS X b t':=λpins s σ H D I q=>h pins s σ H D I (hw D σ H q)
theorem ik.kB{X:Cx}{b:qaq}{t t':TS}(h:ik X b t)(hw:∀D σ H,t' D σ H->t D σ H):ik X b t':=λpins s σ H D I q=>h pins s σ H D I (hw D σ H q)
section
variable{X:Cx}{Z:Zc}{a b:Expr}
theorem VE.vr{f:FE}(h:VE X Z e f):VR X Z e f:=.mk λtm=>PE.weak (h tm) λσ H Q ⟨ρ,O,q,I,hf,k⟩=>⟨ρ,O,q,I,hf,λt ht v H' s z=>k t ht v H' s (.inl z)⟩
def fT(f:FP):FE:=λρ Q=>f ρ λr=>Q r.t
def fV(f:FE):FP:=λρ Q=>f ρ λt=>Q (.vw t)
def fX(f:FP):FX:=λρ Q=>f ρ λr=>Q ρ r
theorem VP.ve{f:FP}(h:VP X Z e f):VE X Z e (fT f):=.mk λtm=>PE.weak (h tm) λσ H Q ⟨ρ,O,q,I,hf,k⟩=>⟨ρ,O,λr=>q r.t,I,hf,λr hr v H' s z=>k r.t hr v H' s z.at⟩
theorem VP.vr{f:FP}(h:VP X Z e f):VR X Z e (fT f):=h.ve.vr
theorem VP.vx{f:FP}(h:VP X Z e f):VX X Z e (fX f):=.mk λtm=>PE.weak (h tm) λσ H Q ⟨ρ,O,q,I,hf,k⟩=>⟨ρ,O,λr=>q ρ r,I,hf,λr hr v H' s z=>k ρ r hr O v H' z⟩
theorem VE.vp{f:FE}(h:VE X Z e f):VP X Z e (fV f):=.mk λtm=>PE.weak (h tm) λσ H Q ⟨ρ,O,q,I,hf,k⟩=>⟨ρ,O,λt=>q (.vw t),I,hf,λt hr v H' s z=>k (.vw t) hr v H' s ⟨I.same s,z⟩⟩
def cV(i:Nat):FE:=λρ Q=>match ρ[i]? with
 |some (some (t,false))=>Q t
 |_=>False
def cY(i:Nat):FE:=λρ Q=>match ρ[i]? with
 |some (some (t,_))=>Q t
 |_=>False
theorem ai(i:Nat)(hN:X.N[i]?=some x:=by rfl)(hv:ko X.env.scope x:=by first|exact Or.inl rfl|exact Or.inr (Or.inl rfl)|exact Or.inr (Or.inr rfl))(hd:eG x:=by decide)(eI:nJ x:=by decide):VE X Z (.Name x pos) (cV i):=.mk λtm=>PE.weak (bD hN hv hd eI) λσ H Q ⟨ρ,O,q,I,hf,k⟩=>by
 unfold cV at hf;split at hf
 rename_i t e
 obtain⟨o,s,h1,h2,rfl,v,rfl,h3⟩:=I.sl i _ e;exact⟨v,h2,k t hf v H (aF.refl H) h3⟩;exact hf.elim
theorem ae(i:Nat)(hN:X.N[i]?=some x:=by rfl)(hv:ko X.env.scope x:=by first|exact Or.inl rfl|exact Or.inr (Or.inl rfl)|exact Or.inr (Or.inr rfl))(hd:eG x:=by decide)(eI:nJ x:=by decide):VR X Z (.Name x pos) (cY i):=.mk λtm=>PE.weak (bD hN hv hd eI) λσ H Q ⟨ρ,O,q,I,hf,k⟩=>by
 unfold cY at hf;split at hf
 rename_i t b e
 obtain⟨o,s,h1,h2,h3⟩:=I.sl i _ e;cases b with
 |false=>obtain⟨rfl,v,rfl,h3⟩:=h3;exact⟨v,h2,k t hf v H (aF.refl H) (.inl h3)⟩
 |true=>obtain⟨a,rfl,rfl,h3⟩:=h3;exact⟨_,h2,k t hf _ H (aF.refl H) (.inr ⟨a,rfl,h3⟩)⟩
 exact hf.elim
def fC(t:T):FP:=λ_ Q=>Q (.vw t)
theorem Bs{t:T}(h:PE X e (tC v))(ht:∀H A,At X.K H A t v):VP X Z e (fC t):=.mk λtm=>PE.weak h λσ H Q ⟨ρ,O,q,I,hf,k⟩=>k _ hf v H (aF.refl H) ⟨I,ht _ _⟩
theorem af{i j pos}:VP X Z (.Constant (.int i) j pos) (fC (.int i)):=Bs JZ λ_ _=>aZ
theorem hW{i j pos}:VP X Z (.Constant (.bool i) j pos) (fC (.bl i)):=Bs OC λ_ _=>cX
theorem aE{i j pos}:VP X Z (.Constant (.str i) j pos) (fC (.str i)):=Bs J_ λ_ _=>cZ
theorem d9{j pos}:VP X Z (.Constant .none j pos) (fC .a9):=Bs J1 λ_ _=>p9
theorem k_{t:T}(hg:Gl X x)(hm:X.mg x=some u)(r:RelV v u)(ht:∀H A,At X.K H A t v)(hd:eG x:=by decide):VP X Z (.Name x pos) (fC t):=Bs (E9 hg hm r hd) ht
def lb(K:qaf)(r:R2)(p:T->T->(Rt->Prop)->Prop):Prop :=
 ∀(Z:Zc)(tm:List (T×V))(O:HD)(ρ:En)(σ:St)(H:Hp)(x y:T)(v w:V)(q:Rt->Prop)(Q:VK),au K Z tm O ρ σ H->d4 K H (av Z O) x v->d4 K H (av Z O) y w->p x y q ->
  (∀t,q t->∀u H',aF H H'->f7 K Z tm O ρ σ H' t u->Q u H')->r v w H Q
def f2(fa fb:FE)(p:T->T->(Rt->Prop)->Prop):FP:=λρ Q=>fa ρ λx=>fb ρ λy=>p x y Q
theorem two{fa fb:FE}{p:T->T->(Rt->Prop)->Prop}(ho:lb X.K r p){tm:List (T×V)}:∀σ H Q,lP X Z tm (f2 fa fb p) σ H Q->OR r (lR X Z tm fa) (lR X Z tm fb) σ H Q:=λσ H Q ⟨ρ,O,q,I,hf,k⟩ =>
 ⟨ρ,O,λx=>fb ρ λy=>p x y q,I,hf,λx hx v H1 s1 a1=>⟨ρ,O,λy=>p x y q,I.same s1,hx,λy hy w H2 s2 a2=>
  ho Z tm O ρ σ H2 x y v w q Q ((I.same s1).same s2) (a1.same s2) a2 hy λt ht u H' s a=>k t ht u H' ((s1.trans s2).trans s) a⟩⟩
theorem d_{op:Operator}{fa fb:FE}{p:T->T->(Rt->Prop)->Prop}(h:dI X (binaryOp op) r)(ho:lb X.K r p)(ha:VR X Z a fa)(hb:VR X Z b fb):VP X Z (.BinOp a op b pos) (f2 fa fb p) :=
 .mk λtm=>PE.weak (Iz h (ha tm) (hb tm)) (two ho)
theorem p_{op:CmpOp}{fa fb:FE}{p:T->T->(Rt->Prop)->Prop}(h:dI X (compareOp op) r)(ho:lb X.K r p)(ha:VR X Z a fa)(hb:VR X Z b fb)(hm:behindInMarks op b=false):VP X Z (.Compare a [op] [b] pos) (f2 fa fb p) :=
 .mk λtm=>PE.weak (Fn h (ha tm) (hb tm) hm) (two ho)
def jG(f:FP):FB:=λρ Q=>f ρ λr=>match r with
 |.vw (.bl c)=>Q c
 |_=>False
theorem vC{r:Rt}{Q:Bool->Prop}(h:match r with | .vw (.bl c)=>Q c|_=>False):∃c,r=.vw (.bl c)/\Q c:=by split at h;exact⟨_,rfl,h⟩;exact h.elim
theorem iq{op:CmpOp}{fa fb:FE}{p:T->T->(Rt->Prop)->Prop}(h:dI X (compareOp op) r)(ho:lb X.K r p)(ha:VR X Z a fa)(hb:VR X Z b fb)(hm:behindInMarks op b=false):VC X Z (.Compare a [op] [b] pos) (jG (f2 fa fb p)) :=
 .mk λtm=>PT.weak (Fo h (ha tm) (hb tm) hm) λσ H Q ⟨ρ,O,q,I,hf,k⟩=>two ho σ H _ ⟨ρ,O,_,I,hf,λt ht u H' s a=>by obtain⟨c,rfl,hc⟩:=vC ht;have e:=a.2;simp only[At] at e;exact⟨c,e,k c hc H' s⟩⟩
theorem cH{f:FP}(h:VP X Z e f)(he:∀whole,isTrue e X.env whole=(do let v <- whole;standAt e.pos;holding [v] (truthy v)):=by intro _;rfl):VC X Z e (jG f) :=
 .mk λtm=>PT.weak (A3 (h tm) he) λσ H Q ⟨ρ,O,q,I,hf,k⟩=>⟨ρ,O,_,I,hf,λt ht u H' s a=>by obtain⟨c,rfl,hc⟩:=vC ht;have e:=a.2;simp only[At] at e;exact⟨c,e,k c hc H' s⟩⟩
def Vb(f g:FB):FB:=λρ Q=>f ρ λc=>if c=true then g ρ Q else Q false
def YK(f g:FB):FB:=λρ Q=>f ρ λc=>if c=true then Q true else g ρ Q
def Vc(f:FB):FB:=λρ Q=>f ρ λc=>Q (!c)
theorem VW.vc{f:FB}(h:VW X Z e f):VC X Z e f:=.mk λtm=>PW.pt (h tm)
theorem fF{f:FB}(h:VC X Z a f):VW X Z (.BoolOp .And [a] pos) f:=.mk λtm=>pw_and1 (h tm)
theorem K9{f:FB}(h:VC X Z a f):VW X Z (.BoolOp .Or [a] pos) f:=.mk λtm=>pw_or1 (h tm)
theorem gr{rest:qap}{f g:FB}(h:VC X Z a f)(h':VW X Z (.BoolOp .And (b::rest) pos) g):VW X Z (.BoolOp .And (a::b::rest) pos) (Vb f g) :=
 .mk λtm=>PW.weak (pw_and (h tm) (h' tm)) λσ H Q ⟨ρ,O,q,I,hf,k⟩=>⟨ρ,O,_,I,hf,λc hc H1 s1=>by
  cases c with
  |true=>rw[if_pos rfl] at hc ⊢;exact⟨ρ,O,q,I.same s1,hc,λb hb H' s=>k b hb H' (s1.trans s)⟩
  |false=>rw[if_neg dO] at hc ⊢;exact k false hc H1 s1⟩
theorem PU{rest:qap}{f g:FB}(h:VC X Z a f)(h':VW X Z (.BoolOp .Or (b::rest) pos) g):VW X Z (.BoolOp .Or (a::b::rest) pos) (YK f g) :=
 .mk λtm=>PW.weak (pw_or (h tm) (h' tm)) λσ H Q ⟨ρ,O,q,I,hf,k⟩=>⟨ρ,O,_,I,hf,λc hc H1 s1=>by
  cases c with
  |true=>rw[if_pos rfl] at hc ⊢;exact k true hc H1 s1
  |false=>rw[if_neg dO] at hc ⊢;exact⟨ρ,O,q,I.same s1,hc,λb hb H' s=>k b hb H' (s1.trans s)⟩⟩
theorem l6{f:FB}(h:VC X Z a f):VC X Z (.UnaryOp .Not a pos) (Vc f) :=
 .mk λtm=>PT.weak (Ka (h tm)) λσ H Q ⟨ρ,O,q,I,hf,k⟩=>⟨ρ,O,_,I,hf,λc hc H1 s1=>k _ hc H1 s1⟩
def PV(f g:FP):FP:=λρ Q=>f ρ λr=>match r with
 |.vw (.bl true)=>g ρ Q
 |.vw (.bl false)=>Q (.vw (.bl false))
 |_=>False
def K_(f g:FP):FP:=λρ Q=>f ρ λr=>match r with
 |.vw (.bl true)=>Q (.vw (.bl true))
 |.vw (.bl false)=>g ρ Q
 |_=>False
def PX(f:FP):FP:=λρ Q=>f ρ λr=>match r with
 |.vw (.bl c)=>Q (.vw (.bl (!c)))
 |_=>False
theorem l7{op}{f:FP}(h:VP X Z a f):VP X Z (.BoolOp op [a] pos) f:=.mk λtm=>Kb (h tm)
theorem jH{rest:qap}{f g:FP}(h:VP X Z a f)(h':VP X Z (.BoolOp .And (b::rest) pos) g):VP X Z (.BoolOp .And (a::b::rest) pos) (PV f g) :=
 .mk λtm=>PE.weak (Kc (h tm) (h' tm)) λσ H Q ⟨ρ,O,q,I,hf,k⟩=>⟨ρ,O,_,I,hf,λr hr v H1 s1 z=>by split at hr;have e:=z.2;simp only[At] at e;exact⟨true,e,by rw[if_pos rfl];exact⟨ρ,O,q,I.same s1,hr,λb hb v H' s=>k b hb v H' (s1.trans s)⟩⟩;have e:=z.2;simp only[At] at e;exact⟨false,e,by rw[if_neg dO];exact k _ hr _ H1 s1 ⟨I.same s1,cX⟩⟩;exact hr.elim⟩
theorem PY{rest:qap}{f g:FP}(h:VP X Z a f)(h':VP X Z (.BoolOp .Or (b::rest) pos) g):VP X Z (.BoolOp .Or (a::b::rest) pos) (K_ f g) :=
 .mk λtm=>PE.weak (OG (h tm) (h' tm)) λσ H Q ⟨ρ,O,q,I,hf,k⟩=>⟨ρ,O,_,I,hf,λr hr v H1 s1 z=>by split at hr;have e:=z.2;simp only[At] at e;exact⟨true,e,by rw[if_pos rfl];exact k _ hr _ H1 s1 ⟨I.same s1,cX⟩⟩;have e:=z.2;simp only[At] at e;exact⟨false,e,by rw[if_neg dO];exact⟨ρ,O,q,I.same s1,hr,λb hb v H' s=>k b hb v H' (s1.trans s)⟩⟩;exact hr.elim⟩
theorem K'{f:FP}(h:VP X Z a f):VP X Z (.UnaryOp .Not a pos) (PX f) :=
 .mk λtm=>PE.weak (Ke (h tm)) λσ H Q ⟨ρ,O,q,I,hf,k⟩=>⟨ρ,O,_,I,hf,λr hr v H1 s1 z=>by split at hr;have e:=z.2;simp only[At] at e;exact⟨_,e,k _ hr _ H1 s1 ⟨I.same s1,cX⟩⟩;exact hr.elim⟩
def YL(c:FB)(f g:FP):FP:=λρ Q=>c ρ λb=>if b=true then f ρ Q else g ρ Q
theorem IG{fc:FB}{f g:FP}(hc:VC X Z c fc)(h:VP X Z a f)(h':VP X Z b g):VP X Z (.IfExp c a b pos) (YL fc f g) :=
 .mk λtm=>PE.weak (A4 (hc tm) (h tm) (h' tm)) λσ H Q ⟨ρ,O,q,I,hf,k⟩=>⟨ρ,O,_,I,hf,λc hc H1 s1=>by
  cases c with
  |true=>rw[if_pos rfl] at hc ⊢;exact⟨ρ,O,q,I.same s1,hc,λb hb v H' s=>k b hb v H' (s1.trans s)⟩
  |false=>rw[if_neg dO] at hc ⊢;exact⟨ρ,O,q,I.same s1,hc,λb hb v H' s=>k b hb v H' (s1.trans s)⟩⟩
def jI:FA:=λ_ Q=>Q []
def bM(f:FE)(g:FA):FA:=λρ Q=>f ρ λt=>g ρ λts=>Q (t::ts)
theorem aj:VA X Z [] jI:=.mk λtm=>PA.weak cF λσ H Q ⟨ρ,O,q,I,hf,k⟩=>k _ hf [] H (aF.refl H) ax.nil
theorem aa{f:FE}{g:FA}(h:VE X Z e f)(h':VA X Z es g)(hs:starEach (e::es) X.env=(false,eval e X.env)::starEach es X.env:=by rfl):VA X Z (e::es) (bM f g) :=
 .mk λtm=>PA.weak (a8 (h tm) (h' tm) hs) λσ H Q ⟨ρ,O,q,I,hf,k⟩=>⟨ρ,O,_,I,hf,λt ht v H1 s1 a1=>⟨ρ,O,_,I.same s1,ht,λts d5 vs H2 s2 a2=>k _ d5 _ H2 (s1.trans s2) (ax.cons (a1.same s2) a2)⟩⟩
theorem bx:NX X Z [] jI:=.mk λtm=>PA.weak cF λσ H Q ⟨ρ,O,q,I,hf,k⟩=>k _ hf [] H (aF.refl H) .nil
theorem a_{f:FE}{g:FA}(h:VR X Z e f)(h':NX X Z es g)(hs:starEach (e::es) X.env=(false,eval e X.env)::starEach es X.env:=by rfl):NX X Z (e::es) (bM f g) :=
 .mk λtm=>PA.weak (a8 (h tm) (h' tm) hs) λσ H Q ⟨ρ,O,q,I,hf,k⟩=>⟨ρ,O,_,I,hf,λt ht v H1 s1 a1=>⟨ρ,O,_,I.same s1,ht,λts d5 vs H2 s2 a2=>k _ d5 _ H2 (s1.trans s2) (.cons (a1.same s2) a2)⟩⟩
def PZ(g:FA):FP:=λρ Q=>g ρ λts=>ts.length<=sizeLine/\Q (.vw (.tup ts))
def Vd(g:FA):FP:=λρ Q=>g ρ λts=>ts.length<=sizeLine/\Q (.fr (.lst ts))
theorem aV{g:FA}{x1}(h:VA X Z es g):VP X Z (.Tuple es x1 pos) (PZ g) :=
 .mk λtm=>PE.weak (jE (h tm)) λσ H Q ⟨ρ,O,q,I,hf,k⟩=>⟨ρ,O,_,I,hf,λts d5 vs H1 s1 a1=>⟨by rw[a1.length];exact d5.1,λp hp=>k _ d5.2 _ _ (s1.trans (aB hp)) ⟨(I.same s1).same (aB hp),cP (dy.of ay) (a1.same (aB hp))⟩⟩⟩
theorem bO{g:FA}(h:VA X Z es g):VP X Z (.List es pos) (Vd g) :=
 .mk λtm=>PE.weak (KD (h tm)) λσ H Q ⟨ρ,O,q,I,hf,k⟩=>⟨ρ,O,_,I,hf,λts d5 vs H1 s1 a1=>⟨by rw[a1.length];exact d5.1,λp hp=>k _ d5.2 _ _ (s1.trans (aB hp)) ((I.same s1).vB hp a1)⟩⟩
end
mutual
noncomputable def eqT:T->T->Bool
 |.a9,.a9=>true
 |.bl a,.bl b=>a==b
 |.bl a,.int b=>(if a then 1 else 0)==b
 |.int a,.bl b=>a==(if b then 1 else 0)
 |.int a,.int b=>a==b
 |.str a,.str b=>a==b
 |.tup a,.tup b=>fG a b
 |.lst a,.lst b=>fG a b
 |_,_=>false
noncomputable def fG:List T->List T->Bool
 |[],[]=>true
 |a::as,b::bs=>eqT a b && fG as bs
 |_,_=>false
end
mutual
noncomputable def plainT:T->Bool
 |.tup l=>bP l
 |.lst l=>bP l
 |.dk _ _=>false
 |.dt _ _=>false
 |.df _ _ _=>false
 |.dz _ _ _=>false
 |.dc _ _ _=>false
 |.kt _=>false
 |.ins _ _ _=>false
 |.pin _ _=>false
 |.ob _=>false
 |.ty _=>false
 |_=>true
noncomputable def bP:List T->Bool
 |[]=>true
 |t::ts=>plainT t && bP ts
end
mutual
noncomputable def dep:T->Nat
 |.tup l=>nV l+1
 |.lst l=>nV l+1
 |_=>0
noncomputable def nV:List T->Nat
 |[]=>0
 |t::ts=>max (dep t) (nV ts)
end
mutual
theorem l8:∀(t:T),plainT t=true->eqT t t=true
 |.a9,_=>by simp[eqT]
 |.bl _,_=>by simp[eqT]
 |.int _,_=>by simp[eqT]
 |.str _,_=>by simp[eqT]
 |.tup l,h=>by simp only[plainT] at h;simp only[eqT];exact jJ l h
 |.lst l,h=>by simp only[plainT] at h;simp only[eqT];exact jJ l h
 |.dk _ _,h=>by simp only[plainT] at h;cases h
 |.dt _ _,h=>by simp only[plainT] at h;cases h
 |.df _ _ _,h=>by simp only[plainT] at h;cases h
 |.dz _ _ _,h=>by simp only[plainT] at h;cases h
 |.dc _ _ _,h=>by simp only[plainT] at h;cases h
 |.kt _,h=>by simp only[plainT] at h;cases h
 |.ins _ _ _,h=>by simp only[plainT] at h;cases h
 |.pin _ _,h=>by simp only[plainT] at h;cases h
 |.ob _,h=>by simp only[plainT] at h;cases h
 |.ty _,h=>by simp only[plainT] at h;cases h
theorem jJ:∀(t:List T),bP t=true->fG t t=true
 |[],_=>by simp[fG]
 |t::ts,h=>by simp only[bP,gi] at h;simp only[fG,gi];exact⟨l8 t h.1,jJ ts h.2⟩
end
theorem iU:∀{a b:List T},fG a b=true->a.length=b.length
 |[],[],_=>rfl
 |a::as,b::bs,h=>by simp only[fG,gi] at h;simp[iU h.2]
 |[],_::_,h=>by simp[fG] at h
 |_::_,[],h=>by simp[fG] at h
theorem iV:∀{a b:List T},a.length=b.length->fG a b=(List.range a.length).all λj=>match a[j]?,b[j]? with
  |some x,some y=>eqT x y
  |_,_=>true
 |[],[],_=>by simp[fG]
 |a::as,b::bs,h=>by have ih:=iV (a:=as) (b:=bs) (by simpa using h);simp only[fG];rw[ih,w5,List.range_succ_eq_map,List.all_cons,List.all_map];rfl
 |[],_::_,h=>by simp at h
 |_::_,[],h=>by simp at h
theorem sJ:∀{a b:List T},fG a b=((List.range (min a.length b.length)).all (λj=>match a[j]?,b[j]? with
  |some x,some y=>eqT x y
  |_,_=>true) && a.length==b.length)
 |a,b=>by
   by_cases h:a.length=b.length;rw[iV h,h,Il];simp;have e:(a.length==b.length)=false:=by simpa using h
   rw[e,Ov];cases q:fG a b with
   |false=>rfl
   |true=>exact absurd (iU q) h
section
variable{X:Cx}{O O':qah}
theorem sL(I:Inv X pins σ H s){a:Addr}{ys:qak}(h:fq X.K H a xs)(h':dy X.K H a ys):False:=by
 obtain⟨aH,_,p,_⟩:=I.list h;obtain⟨ir,_,p2,_⟩:=I.tuple h';obtain⟨o,n,e,c,_⟩:=p;obtain⟨o2,e2,c2,_⟩:=p2;rw[e] at e2;cases e2;rw[c] at c2;injection c2 with c2
 exact absurd c2 (by decide)
mutual
theorem At.inj(I:Inv X pins σ H s):∀{t u:T}{v:V},plainT t=true->plainT u=true->At X.K H O t v->At X.K H O' u v->t=u
 |.a9,u,v,_,pu,h,h'=>by simp only[At] at h;subst h;cases u<;>simp only[At] at h'<;>first|rfl|(simp only[plainT] at pu;cases pu;done)|(obtain⟨_,_,e,_⟩:=h';cases e)|(cases h';done)
 |.bl b,u,v,_,pu,h,h'=>by simp only[At] at h;subst h;cases u<;>simp only[At] at h'<;>first|(simp only[plainT] at pu;cases pu;done)|(obtain⟨_,_,e,_⟩:=h';cases e;done)|(cases h';rfl)|(cases h';done)
 |.int b,u,v,_,pu,h,h'=>by simp only[At] at h;subst h;cases u<;>simp only[At] at h'<;>first|(simp only[plainT] at pu;cases pu;done)|(obtain⟨_,_,e,_⟩:=h';cases e;done)|(cases h';rfl)|(cases h';done)
 |.str b,u,v,_,pu,h,h'=>by simp only[At] at h;subst h;cases u<;>simp only[At] at h'<;>first|(simp only[plainT] at pu;cases pu;done)|(obtain⟨_,_,e,_⟩:=h';cases e;done)|(cases h';rfl)|(cases h';done)
 |.dk _ _,_,_,p,_,_,_=>by simp only[plainT] at p;cases p
 |.dt _ _,_,_,p,_,_,_=>by simp only[plainT] at p;cases p
 |.df _ _ _,_,_,p,_,_,_=>by simp only[plainT] at p;cases p
 |.dz _ _ _,_,_,p,_,_,_=>by simp only[plainT] at p;cases p
 |.dc _ _ _,_,_,p,_,_,_=>by simp only[plainT] at p;cases p
 |.kt _,_,_,p,_,_,_=>by simp only[plainT] at p;cases p
 |.ins _ _ _,_,_,p,_,_,_=>by simp only[plainT] at p;cases p
 |.pin _ _,_,_,p,_,_,_=>by simp only[plainT] at p;cases p
 |.ob _,_,_,p,_,_,_=>by simp only[plainT] at p;cases p
 |.ty _,_,_,p,_,_,_=>by simp only[plainT] at p;cases p
 |.tup ts,u,v,p,pu,h,h'=>by
  simp only[At] at h;obtain⟨a,vs,rfl,h1,h2⟩:=h;cases u with
  |tup us=>simp only[At] at h';obtain⟨b,ws,e,g1,g2⟩:=h';cases e;cases I.jz h1 g1;simp only[plainT] at p pu;rw[ax.inj I p pu h2 g2]
  |lst us=>simp only[At] at h';obtain⟨b,ws,e,g1,g2⟩:=h';cases e;exact (sL I g1.sq h1).elim
  |dk _ _=>simp only[plainT] at pu;cases pu
  |dt _ _=>simp only[plainT] at pu;cases pu
  |df _ _ _=>simp only[plainT] at pu;cases pu
  |dz _ _ _=>simp only[plainT] at pu;cases pu
  |dc _ _ _=>simp only[plainT] at pu;cases pu
  |kt _=>simp only[plainT] at pu;cases pu
  |ins _ _ _=>simp only[plainT] at pu;cases pu
  |pin _ _=>simp only[plainT] at pu;cases pu
  |ob _=>simp only[plainT] at pu;cases pu
  |ty _=>simp only[plainT] at pu;cases pu
  |_=>simp only[At] at h';cases h'
 |.lst ts,u,v,p,pu,h,h'=>by
  simp only[At] at h;obtain⟨a,vs,rfl,h1,h2⟩:=h;cases u with
  |lst us=>simp only[At] at h';obtain⟨b,ws,e,g1,g2⟩:=h';cases e;cases I.iN h1.sq g1.sq;simp only[plainT] at p pu;rw[ax.inj I p pu h2 g2]
  |tup us=>simp only[At] at h';obtain⟨b,ws,e,g1,g2⟩:=h';cases e;exact (sL I h1.sq g1).elim
  |dk _ _=>simp only[plainT] at pu;cases pu
  |dt _ _=>simp only[plainT] at pu;cases pu
  |df _ _ _=>simp only[plainT] at pu;cases pu
  |dz _ _ _=>simp only[plainT] at pu;cases pu
  |dc _ _ _=>simp only[plainT] at pu;cases pu
  |kt _=>simp only[plainT] at pu;cases pu
  |ins _ _ _=>simp only[plainT] at pu;cases pu
  |pin _ _=>simp only[plainT] at pu;cases pu
  |ob _=>simp only[plainT] at pu;cases pu
  |ty _=>simp only[plainT] at pu;cases pu
  |_=>simp only[At] at h';cases h'
theorem ax.inj(I:Inv X pins σ H s):∀{ts us:List T}{vs:qak},bP ts=true->bP us=true->ax X.K H O ts vs->ax X.K H O' us vs->ts=us
 |[],[],_,_,_,_,_=>rfl
 |[],_::_,_,_,_,h,h'=>by simp only[ax] at h h';subst h;obtain⟨_,_,e,_⟩:=h';cases e
 |_::_,[],_,_,_,h,h'=>by simp only[ax] at h h';subst h';obtain⟨_,_,e,_⟩:=h;cases e
 |t::ts,u::us,_,p,pu,h,h'=>by simp only[ax] at h h';simp only[bP,gi] at p pu;obtain⟨v,r,rfl,h1,h2⟩:=h;obtain⟨v',r',e,g1,g2⟩:=h';cases e;rw[At.inj I p.1 pu.1 h1 g1,ax.inj I p.2 pu.2 h2 g2]
end
theorem iW:∀{ts:List T}{j:Nat}{x:T},ts[j]?=some x->dep x<=nV ts
 |[],_,_,h=>by simp at h
 |t::ts,0,x,h=>by simp at h;subst h;simp only[nV];omega
 |t::ts,j+1,x,h=>by have:=iW (ts:=ts) (j:=j) (x:=x) (by simpa using h);simp only[nV];omega
theorem bQ:∀{ts:List T}{j:Nat}{x:T},bP ts=true->ts[j]?=some x->plainT x=true
 |[],_,_,_,h=>by simp at h
 |t::ts,0,x,p,h=>by simp at h;subst h;simp only[bP,gi] at p;exact p.1
 |t::ts,j+1,x,p,h=>by simp only[bP,gi] at p;exact bQ (ts:=ts) (j:=j) p.2 (by simpa using h)
theorem in1_units(A:Around):A.in1.units=A.units+1:=by first|rfl|simp[Around.in1,Around.units]
theorem iX(I:Inv X pins σ H s){ts us:List T}{ws:qak}{aH ir:qag}(h1:ax X.K H O ts vs)(h2:ax X.K H O' us ws)(r1:Vals vs aH)(r2:Vals ws ir)(key:∀(j:Nat) x y v w u u',ts[j]?=some x->us[j]?=some y->At X.K H O x v->At X.K H O' y w->RelV v u->RelV w u'->SeqAt.EqAt A s u u' (eqT x y)) :
  ∀(j:Nat)(g1:j<aH.toArray.size)(g2:j<ir.toArray.size),SeqAt.EqAt A s aH.toArray[j] ir.toArray[j] (match ts[j]?,us[j]? with
   |some x,some y=>eqT x y
   |_,_=>true):=λj g1 g2=>by
 have l1:=h1.length;have l2:=h2.length;have m1:=r1.length;have m2:=r2.length;simp only[gh] at g1 g2;have e1:ts[j]?=some (ts[j]'(by omega)):=by simp
 have e2:us[j]?=some (us[j]'(by omega)):=by simp
 obtain⟨v,a1,a2⟩:=h1.get e1;obtain⟨w,b1,b2⟩:=h2.get e2;obtain⟨u,c1,c2⟩:=r1.get a1;obtain⟨u',d1,d2⟩:=r2.get b1;have f1:aH.toArray[j]=u:=by rw[kj (by omega)] at c1;simpa using c1
 have f2:ir.toArray[j]=u':=by rw[kj (by omega)] at d1;simpa using d1
 rw[f1,f2,e1,e2];exact key j _ _ v w u u' e1 e2 a2 b2 c2 d2
theorem l9{O:qah}(I:Inv X pins σ H s){u:T}{w:V}{b:Value}(pu:plainT u=true)(hw:At X.K H O u w)(r:RelV w b):(u=.a9/\b=.none)\/(∃c,u=.bl c/\b=.bool c)\/(∃c t,u=.int c/\b=.int c t)\/(∃c t,u=.str c/\b=.str c t)\/(∃l p xs,u=.tup l/\b=.ref p/\s.heap.IsTuple p xs)\/∃l p xs,u=.lst l/\b=.ref p/\s.heap.IsList p xs:=by
 cases u with
 |tup l=>simp only[At] at hw;obtain⟨p,ws,rfl,q,_⟩:=hw;cases r;obtain⟨_,_,p1,_⟩:=I.tuple q;exact .inr (.inr (.inr (.inr (.inl ⟨l,p,_,rfl,rfl,p1⟩))))
 |lst l=>simp only[At] at hw;obtain⟨p,ws,rfl,q,_⟩:=hw;cases r;obtain⟨_,_,p1,_⟩:=I.list q.sq;exact .inr (.inr (.inr (.inr (.inr ⟨l,p,_,rfl,rfl,p1.isList⟩))))
 |a9=>simp only[At] at hw;subst hw;cases r;exact .inl ⟨rfl,rfl⟩
 |bl c=>simp only[At] at hw;subst hw;cases r;exact .inr (.inl ⟨c,rfl,rfl⟩)
 |int c=>simp only[At] at hw;subst hw;obtain⟨t,rfl⟩:=r;exact .inr (.inr (.inl ⟨c,t,rfl,rfl⟩))
 |str c=>simp only[At] at hw;subst hw;obtain⟨t,rfl⟩:=r;exact .inr (.inr (.inr (.inl ⟨c,t,rfl,rfl⟩)))
 |_=>simp only[plainT] at pu;cases pu
theorem xt(I:Inv X pins σ H s){t u:T}{w:V}{a b:Value}(en:A.units<cLine)(key:∀(x y:T) (v w:V) (a b:Value),dep x+1<=dep t->plainT x=true->plainT y=true->At X.K H O x v->At X.K H O' y w->RelV v a->RelV w b->SeqAt.EqAt A.in1 s a b (eqT x y))(pt:plainT t=true)(pu:plainT u=true)(ht:At X.K H O t v)(hw:At X.K H O' u w)(rv:RelV v a)(rw':RelV w b):SeqAt.RcAt A s a b (eqT t u):=by
 rcases l9 I pt ht rv with⟨rfl,rfl⟩|⟨d,rfl,rfl⟩|⟨d,_,rfl,rfl⟩|⟨d,_,rfl,rfl⟩|⟨l,p,_,rfl,rfl,h⟩|⟨l,p,_,rfl,rfl,h⟩<;>rcases l9 I pu hw rw' with⟨rfl,rfl⟩|⟨c,rfl,rfl⟩|⟨c,_,rfl,rfl⟩|⟨c,_,rfl,rfl⟩|⟨l',p',_,rfl,rfl,h'⟩|⟨l',p',_,rfl,rfl,h'⟩<;>simp only[eqT]
 exact .none_none;exact .none_bool _;exact .none_int _ _;exact .none_str _ _;exact .none_tuple h' en;exact .none_list h' en;exact .bool_none _;exact .bool_bool _ _;exact .bool_int _ _ _;exact .bool_str _ _ _;exact .bool_tuple _ h' en;exact .bool_list _ h' en;exact .int_none _ _;exact .int_bool _ _ _;exact .int_int _ _ _ _;exact .int_str _ _ _ _;exact .int_tuple _ _ h' en;exact .int_list _ _ h' en;exact .str_none _ _;exact .str_bool _ _ _;exact .str_int _ _ _ _;exact .str_str _ _ _ _;exact .str_tuple _ _ h' en;exact .str_list _ _ h' en;exact .tuple_none h en;exact .tuple_bool _ h en;exact .tuple_int _ _ h en;exact .tuple_str _ _ h en;simp only[plainT] at pt pu;simp only[At] at ht hw;obtain⟨_,vs,rfl,h1,h2⟩:=ht;obtain⟨_,ws,rfl,g1,g2⟩:=hw;cases rv;cases rw';have e3:=h2.length;have e4:=g2.length;obtain⟨aH,r1,p1,_⟩:=I.tuple h1;obtain⟨ir,r2,p2,_⟩:=I.tuple g1;have e1:=r1.length;have e2:=r2.length;have:=SeqAt.RcAt.tuples (A:=A) p1 p2 en (iX I h2 g2 r1 r2 λj x y v w u u' e1 e2 a1 a2 b1 b2=>key x y v w u u' (km (Nat.succ_le_succ (iW e1)) (by simp only[dep];omega)) (bQ pt e1) (bQ pu e2) a1 a2 b1 b2);simp only[gh] at this;rw[<- e1,<- e2,e3,e4] at this;rw[sJ];exact this;exact .tuple_list h h' en;exact .list_none h en;exact .list_bool _ h en;exact .list_int _ _ h en;exact .list_str _ _ h en;exact .list_tuple h h' en;simp only[plainT] at pt pu;simp only[At] at ht hw;obtain⟨_,vs,rfl,h1,h2⟩:=ht;obtain⟨_,ws,rfl,g1,g2⟩:=hw;cases rv;cases rw';have e3:=h2.length;have e4:=g2.length;obtain⟨aH,r1,p1,_⟩:=I.list h1.sq;obtain⟨ir,r2,p2,_⟩:=I.list g1.sq;have e1:=r1.length;have e2:=r2.length;by_cases hl:l.length=l'.length;have:=SeqAt.RcAt.lists (A:=A) p1.isList p2.isList (by simp only[gh];omega) en (iX I h2 g2 r1 r2 λj x y v w u u' e1 e2 a1 a2 b1 b2=>key x y v w u u' (km (Nat.succ_le_succ (iW e1)) (by simp only[dep];omega)) (bQ pt e1) (bQ pu e2) a1 a2 b1 b2);simp only[gh] at this;rw[<- e1,e3] at this;rw[iV hl];exact this;have:fG l l'=false:=by
  cases q:fG l l' with
  |false=>rfl
  |true=>exact absurd (iU q) hl
 rw[this];exact SeqAt.RcAt.lists_lengths p1.isList p2.isList (by simp only[gh];rw[bne_iff_ne];omega) en
theorem Bt{a b:Value}{k:Bool}(h:SeqAt.RcAt A s a b k)(g:a=b->k=true)(f:∀x t,a≠.float x t):SeqAt.EqAt A s a b k:=λprog w E Q hq=>by
 unfold eqBool;refine wpAny_holding (wpAny_ite_split (λe=>?_) λ_=>?_);rw[g (eq_of_beq e)] at hq;exact wpAny_bind (wpAny_rule (wpAny_pure hq));cases a with
 |float x t=>exact absurd rfl (f x t)
 |_=>exact wpAny_bind (h prog w E _ (wpAny_truthy_bool hq))
theorem vD(I:Inv X pins σ H s)(n:Nat):∀(t u:T)(v w:V)(a b:Value)(A:Around),dep t<=n->A.units+n<cLine->plainT t=true->plainT u=true->At X.K H O t v->At X.K H O' u w->RelV v a->RelV w b->SeqAt.EqAt A s a b (eqT t u):=by
 induction n using Nat.strongRecOn with
 |_ n ih=>intro t u v w a b A hd hu pt pu ht hw rv rw';refine Bt (xt I (by omega) (λx y v w a b h=>?_) pt pu ht hw rv rw') (λe=>?_) λx t e=>?_;exact ih (n-1) (by omega) x y v w a b A.in1 (by omega) (by rw[in1_units];omega);subst e;cases rv.inj rw';cases At.inj I pt pu ht hw;exact l8 _ pt;rcases l9 I pt ht rv with⟨_,h⟩|⟨_,_,h⟩|⟨_,_,_,h⟩|⟨_,_,_,h⟩|⟨_,_,_,_,h,_⟩|⟨_,_,_,_,h,_⟩<;>cases e.symm.trans h
end
section
variable{X:Cx}{O O':qah}
theorem La(I:Inv X pins σ H s)(t u:T)(v w:V)(a b:Value)(A:Around)(hd:dep t<=100)(hu:A.units+101<cLine)(pt:plainT t=true)(pu:plainT u=true)(ht:At X.K H O t v)(hw:At X.K H O' u w)(rv:RelV v a)(rw':RelV w b):SeqAt.RcAt A s a b (eqT t u) :=
 xt I (by omega) (λx y v w a b h=>vD I 100 x y v w a b A.in1 (by omega) (by rw[in1_units];omega)) pt pu ht hw rv rw'
theorem Lb(I:Inv X pins σ H s)(t u:T)(v w:V)(a b:Value)(A:Around)(hd:dep t<=100)(hu:A.units+101<cLine)(pt:plainT t=true)(pu:plainT u=true)(ht:At X.K H O t v)(hw:At X.K H O' u w)(rv:RelV v a)(rw':RelV w b):SeqAt.RcNeAt A s a b (!eqT t u):=by
 have en:A.units<cLine:=by omega
 have iY:A.in1.units+100<cLine:=by rw[in1_units];omega
 rcases l9 I pt ht rv with⟨rfl,rfl⟩|⟨d,rfl,rfl⟩|⟨d,_,rfl,rfl⟩|⟨d,_,rfl,rfl⟩|⟨l,p,_,rfl,rfl,h⟩|⟨l,p,_,rfl,rfl,h⟩<;>rcases l9 I pu hw rw' with⟨rfl,rfl⟩|⟨c,rfl,rfl⟩|⟨c,_,rfl,rfl⟩|⟨c,_,rfl,rfl⟩|⟨l',p',_,rfl,rfl,h'⟩|⟨l',p',_,rfl,rfl,h'⟩<;>simp only[eqT]
 exact .none_none;exact .none_bool _;exact .none_int _ _;exact .none_str _ _;exact .none_tuple h' en;exact .none_list h' en;exact .bool_none _;exact .bool_bool _ _;exact .bool_int _ _ _;exact .bool_str _ _ _;exact .bool_tuple _ h' en;exact .bool_list _ h' en;exact .int_none _ _;exact .int_bool _ _ _;exact .int_int _ _ _ _;exact .int_str _ _ _ _;exact .int_tuple _ _ h' en;exact .int_list _ _ h' en;exact .str_none _ _;exact .str_bool _ _ _;exact .str_int _ _ _ _;exact .str_str _ _ _ _;exact .str_tuple _ _ h' en;exact .str_list _ _ h' en;exact .tuple_none h en;exact .tuple_bool _ h en;exact .tuple_int _ _ h en;exact .tuple_str _ _ h en;simp only[plainT] at pt pu;simp only[dep] at hd;simp only[At] at ht hw;obtain⟨_,vs,rfl,h1,h2⟩:=ht;obtain⟨_,ws,rfl,g1,g2⟩:=hw;cases rv;cases rw';have e3:=h2.length;have e4:=g2.length;obtain⟨aH,r1,p1,_⟩:=I.tuple h1;obtain⟨ir,r2,p2,_⟩:=I.tuple g1;have e1:=r1.length;have e2:=r2.length;have:=SeqAt.RcNeAt.tuples (A:=A) p1 p2 en (iX I h2 g2 r1 r2 λj x y v w u u' e1 e2 a1 a2 b1 b2=>vD I 100 x y v w u u' A.in1 (km (iW e1) (by omega)) iY (bQ pt e1) (bQ pu e2) a1 a2 b1 b2);simp only[gh] at this;rw[<- e1,<- e2,e3,e4] at this;rw[sJ];exact this;exact .tuple_list h h' en;exact .list_none h en;exact .list_bool _ h en;exact .list_int _ _ h en;exact .list_str _ _ h en;exact .list_tuple h h' en;simp only[plainT] at pt pu;simp only[dep] at hd;simp only[At] at ht hw;obtain⟨_,vs,rfl,h1,h2⟩:=ht;obtain⟨_,ws,rfl,g1,g2⟩:=hw;cases rv;cases rw';have e3:=h2.length;have e4:=g2.length;obtain⟨aH,r1,p1,_⟩:=I.list h1.sq;obtain⟨ir,r2,p2,_⟩:=I.list g1.sq;have e1:=r1.length;have e2:=r2.length;by_cases hl:l.length=l'.length;have:=SeqAt.RcNeAt.lists (A:=A) p1.isList p2.isList (by simp only[gh];omega) en (iX I h2 g2 r1 r2 λj x y v w u u' e1 e2 a1 a2 b1 b2=>vD I 100 x y v w u u' A.in1 (km (iW e1) (by omega)) iY (bQ pt e1) (bQ pu e2) a1 a2 b1 b2);simp only[gh] at this;rw[<- e1,e3] at this;rw[iV hl];exact this;have:fG l l'=false:=by
  cases q:fG l l' with
  |false=>rfl
  |true=>exact absurd (iU q) hl
 rw[this];exact SeqAt.RcNeAt.lists_lengths p1.isList p2.isList (by simp only[gh];rw[bne_iff_ne];omega) en
theorem d4.bare{A:qah}{t:T}(h:d4 K H A t v):At K H [] t v:=by
 obtain h|⟨a,rfl,h⟩:=h
 exact At.aP (O':=[]) (λ_ z=>absurd z fm) h;exact (b_.aP (A':=[]) h (λ_ z=>absurd z fm)).at fm
noncomputable def FT(K:qaf)(neg:Bool):R2:=λx y H Q=>∃t u,At K H [] t x/\At K H [] u y/\plainT t=true/\plainT u=true/\dep t<=100/\Q (.bl (if neg then !eqT t u else eqT t u)) H
theorem Bu(hu:X.A.units+101<cLine):dI X (compareOp .Eq) (FT X.K false):=by intro pins s σ H x y v u Q I rx ry ⟨t,t',h1,h2,p1,p2,d,q⟩;exact La I t t' x y v u X.A d hu p1 p2 h1 h2 rx ry X.prog X.w X.xe _ ⟨.bl _,H,I,rfl,q⟩
theorem Bv(hu:X.A.units+101<cLine):dI X (compareOp .NotEq) (FT X.K true):=by intro pins s σ H x y v u Q I rx ry ⟨t,t',h1,h2,p1,p2,d,q⟩;exact Lb I t t' x y v u X.A d hu p1 p2 h1 h2 rx ry X.prog X.w X.xe _ ⟨.bl _,H,I,rfl,q⟩
end
def P0(x y:T)(q:Rt->Prop):Prop:=match x,y with
 |.int i,.int j=>q (.vw (.bl (decide (i=j))))
 |.str i,.str j=>q (.vw (.bl (decide (i=j))))
 |.bl i,.bl j=>q (.vw (.bl (decide (i=j))))
 |x,y=>plainT x=true/\plainT y=true/\dep x<=100/\q (.vw (.bl (eqT x y)))
def IH(x y:T)(q:Rt->Prop):Prop:=match x,y with
 |.int i,.int j=>q (.vw (.bl (!decide (i=j))))
 |.str i,.str j=>q (.vw (.bl (!decide (i=j))))
 |.bl i,.bl j=>q (.vw (.bl (!decide (i=j))))
 |x,y=>plainT x=true/\plainT y=true/\dep x<=100/\q (.vw (.bl (!eqT x y)))
theorem FU{x y:T}{q:Rt->Prop}(h:P0 x y q):plainT x=true/\plainT y=true/\dep x<=100/\q (.vw (.bl (eqT x y))):=by
 unfold P0 at h;split at h;exact⟨rfl,rfl,nL _,by simp only[eqT,Sv];exact h⟩;refine⟨rfl,rfl,nL _,?_⟩;have e:∀i j:Str,(i==j)=decide (i=j):=λi j=>by rw[Bool.eq_iff_iff];simp
 simp only[eqT,e];exact h;exact⟨rfl,rfl,nL _,by simp only[eqT,Sv];exact h⟩;exact h
theorem FV{x y:T}{q:Rt->Prop}(h:IH x y q):plainT x=true/\plainT y=true/\dep x<=100/\q (.vw (.bl (!eqT x y))):=by
 unfold IH at h;split at h;exact⟨rfl,rfl,nL _,by simp only[eqT,Sv];exact h⟩;refine⟨rfl,rfl,nL _,?_⟩;have e:∀i j:Str,(i==j)=decide (i=j):=λi j=>by rw[Bool.eq_iff_iff];simp
 simp only[eqT,e];exact h;exact⟨rfl,rfl,nL _,by simp only[eqT,Sv];exact h⟩;exact h
theorem Bw:lb K (FT K false) P0:=by intro Z tm O ρ σ H x y v w q Q I h1 h2 h k;obtain⟨p1,p2,d,h⟩:=FU h;exact⟨x,y,h1.bare,h2.bare,p1,p2,d,k _ h _ H (aF.refl H) ⟨I,by rw[if_neg dO];exact cX⟩⟩
theorem By:lb K (FT K true) IH:=by intro Z tm O ρ σ H x y v w q Q I h1 h2 h k;obtain⟨p1,p2,d,h⟩:=FV h;exact⟨x,y,h1.bare,h2.bare,p1,p2,d,k _ h _ H (aF.refl H) ⟨I,by rw[if_pos rfl];exact cX⟩⟩
def P4(g:Int->Int->Bool)(x y:T)(q:Rt->Prop):Prop:=match x,y with
 |.int i,.int j=>q (.vw (.bl (g i j)))
 |_,_=>False
def Lc(x y:T)(q:Rt->Prop):Prop:=match x,y with
 |.int i,.int j=>q (.vw (.int (i-j)))
 |_,_=>False
theorem FW:lb K (nH λi j=>.int (i-j)) Lc:=by intro Z tm O ρ σ H x y v w q Q I h1 h2 h k;unfold Lc at h;split at h;exact⟨_,_,h1.int,h2.int,k _ h _ H (aF.refl H) ⟨I,aZ⟩⟩;exact h.elim
def Ld(x y:T)(q:Rt->Prop):Prop:=match x,y with
 |.int i,.int j=>yT i j/\q (.vw (.int (i * j)))
 |_,_=>False
theorem FY:lb K (rI yT λi j=>.int (i * j)) Ld:=by intro Z tm O ρ σ H x y v w q Q I h1 h2 h k;unfold Ld at h;split at h;exact⟨_,_,h1.int,h2.int,h.1,k _ h.2 _ H (aF.refl H) ⟨I,aZ⟩⟩;exact h.elim
def Lf(x y:T)(q:Rt->Prop):Prop:=match x,y with
 |.int i,.int j=>(0<j/\j<1073741824)/\q (.vw (.int (i / j)))
 |_,_=>False
theorem FZ:lb K (rI OT λi j=>.int (i / j)) Lf:=by intro Z tm O ρ σ H x y v w q Q I h1 h2 h k;unfold Lf at h;split at h;exact⟨_,_,h1.int,h2.int,h.1,k _ h.2 _ H (aF.refl H) ⟨I,aZ⟩⟩;exact h.elim
def Lg(x y:T)(q:Rt->Prop):Prop:=match x,y with
 |.int i,.int j=>0<j/\q (.vw (.int (i % j)))
 |_,_=>False
theorem F1:lb K (rI (λ_ j=>0<j) λi j=>.int (i % j)) Lg:=by intro Z tm O ρ σ H x y v w q Q I h1 h2 h k;unfold Lg at h;split at h;exact⟨_,_,h1.int,h2.int,h.1,k _ h.2 _ H (aF.refl H) ⟨I,aZ⟩⟩;exact h.elim
def Lh(x y:T)(q:Rt->Prop):Prop:=match x,y with
 |.int i,.int j=>(0<=j/\j<=1000000/\i.natAbs<2 ^ 64)/\q (.vw (.int (i ^ j.toNat)))
 |_,_=>False
theorem F2:lb K (rI Fh λi j=>.int (i ^ j.toNat)) Lh:=by intro Z tm O ρ σ H x y v w q Q I h1 h2 h k;unfold Lh at h;split at h;exact⟨_,_,h1.int,h2.int,h.1,k _ h.2 _ H (aF.refl H) ⟨I,aZ⟩⟩;exact h.elim
def Li(x y:T)(q:Rt->Prop):Prop:=match x,y with
 |.int i,.int j=>(0<=j/\j<=1000000/\i.natAbs<2 ^ 64)/\q (.vw (.int (i * 2 ^ j.toNat)))
 |_,_=>False
theorem F3:lb K (rI Fh λi j=>.int (i * 2 ^ j.toNat)) Li:=by intro Z tm O ρ σ H x y v w q Q I h1 h2 h k;unfold Li at h;split at h;exact⟨_,_,h1.int,h2.int,h.1,k _ h.2 _ H (aF.refl H) ⟨I,aZ⟩⟩;exact h.elim
def Lj(x y:T)(q:Rt->Prop):Prop:=match x,y with
 |.int i,.int j=>0<=j/\q (.vw (.int (i / 2 ^ j.toNat)))
 |_,_=>False
theorem F4:lb K (rI (λ_ j=>0<=j) λi j=>.int (i / 2 ^ j.toNat)) Lj:=by intro Z tm O ρ σ H x y v w q Q I h1 h2 h k;unfold Lj at h;split at h;exact⟨_,_,h1.int,h2.int,h.1,k _ h.2 _ H (aF.refl H) ⟨I,aZ⟩⟩;exact h.elim
def Bz(x y:T)(q:Rt->Prop):Prop:=match x,y with
 |.int i,.int j=>q (.vw (.int (Builtin.bitAnd i j)))
 |_,_=>False
theorem BA:lb K (nH λi j=>.int (Builtin.bitAnd i j)) Bz:=by intro Z tm O ρ σ H x y v w q Q I h1 h2 h k;unfold Bz at h;split at h;exact⟨_,_,h1.int,h2.int,k _ h _ H (aF.refl H) ⟨I,aZ⟩⟩;exact h.elim
def qa(x y:T)(q:Rt->Prop):Prop:=match x,y with
 |.int i,.int j=>q (.vw (.int (Builtin.bitOr i j)))
 |_,_=>False
theorem xu:lb K (nH λi j=>.int (Builtin.bitOr i j)) qa:=by intro Z tm O ρ σ H x y v w q Q I h1 h2 h k;unfold qa at h;split at h;exact⟨_,_,h1.int,h2.int,k _ h _ H (aF.refl H) ⟨I,aZ⟩⟩;exact h.elim
def Ve(x y:T)(q:Rt->Prop):Prop:=match x,y with
 |.int i,.int j=>q (.vw (.bl (decide (i<j))))
 |_,_=>False
theorem Ll:lb K (nH λi j=>.bl (decide (i<j))) Ve:=by intro Z tm O ρ σ H x y v w q Q I h1 h2 h k;unfold Ve at h;split at h;exact⟨_,_,h1.int,h2.int,k _ h _ H (aF.refl H) ⟨I,cX⟩⟩;exact h.elim
def Vf(x y:T)(q:Rt->Prop):Prop:=match x,y with
 |.int i,.int j=>q (.vw (.bl (decide (j<i))))
 |_,_=>False
theorem Lm:lb K (nH λi j=>.bl (decide (j<i))) Vf:=by intro Z tm O ρ σ H x y v w q Q I h1 h2 h k;unfold Vf at h;split at h;exact⟨_,_,h1.int,h2.int,k _ h _ H (aF.refl H) ⟨I,cX⟩⟩;exact h.elim
def II(x y:T)(q:Rt->Prop):Prop:=match x,y with
 |.int i,.int j=>q (.vw (.int (i+j)))
 |_,_=>False
theorem BB:lb K (nH λi j=>.int (i+j)) II:=by intro Z tm O ρ σ H x y v w q Q I h1 h2 h k;unfold II at h;split at h;exact⟨_,_,h1.int,h2.int,k _ h _ H (aF.refl H) ⟨I,aZ⟩⟩;exact h.elim
noncomputable def IJ(K:qaf):R2:=λx y H Q=>∃l b xs zs,x=.ref l/\y=.ref b/\fq K H l xs/\fq K H b zs/\xs.length+zs.length<=sizeLine/\∀p,H p=none->Q (.ref p) (upd H p (.lst (xs++zs)))
noncomputable def IK(K:qaf):R2:=λx y H Q=>∃a b xs ys,x=.ref a/\y=.ref b/\dy K H a xs/\dy K H b ys/\xs.length+ys.length<=sizeLine/\(xs=[]->Q (.ref b) H)/\(xs≠[]->ys=[]->Q (.ref a) H)/\(xs≠[]->ys≠[]->∀p,H p=none->Q (.ref p) (upd H p (.tup (xs++ys))))
section
variable{X:Cx}
theorem F5:dI X (binaryOp .Add) (IJ X.K):=by
 intro pins s σ H x y v u Q I rx ry h;obtain⟨l,b,xs,zs,rfl,rfl,hH,hB,hz,q⟩:=h;cases rx;cases ry;obtain⟨aH,r,p1,z1⟩:=I.list hH;obtain⟨ir,r2,p2,z2⟩:=I.list hB;obtain⟨⟨cls,dd,data,sl⟩,n,ho,hc,_,hd⟩:=p1;obtain⟨⟨Pb,NU,data2,NV⟩,n2,ED,AK,_,hd2⟩:=p2;simp only at hc hd AK hd2;subst hc hd AK hd2;have l1:=r.length;have l2:=r2.length;have e:aH.toArray++ir.toArray=(aH++ir).toArray:=by simp
 refine concat_meets ⟨_,ho,rfl⟩ ⟨_,ED,rfl⟩ noFill_list_add seq_list_add PySem.F.slot_list_add PySem.F.entry_list_add (PySem.F.args_list_add_2 _ _) (list_addW l b aH.toArray ir.toArray n n2 dd NU sl NV (by simp only[gh];omega)) ⟨ho,ED,?_⟩;rw[e];exact⟨.ref _,_,I.Pp (t':=s.toks) (r.append r2) (by rw[yH];omega),rfl,q _ I.fresh⟩
theorem F6:dI X (binaryOp .Add) (IK X.K):=by
 intro pins s σ H x y v u Q I rx ry h;obtain⟨a,b,xs,ys,rfl,rfl,ha,hb,hz,q0,q1,q2⟩:=h;cases rx;cases ry;obtain⟨aH,r1,p1,_⟩:=I.tuple ha;obtain⟨ir,r2,p2,_⟩:=I.tuple hb;by_cases hx:xs=[];obtain⟨⟨cls,dd,data,sl⟩,ho,hc,n,hd⟩:=id p1;obtain⟨⟨Pb,NU,data2,NV⟩,ED,AK,n2,hd2⟩:=id p2;simp only at hc hd AK hd2;subst hc hd AK hd2;exact concat_meets ⟨_,ho,rfl⟩ ⟨_,ED,rfl⟩ noFill_tuple_add seq_tuple_add Uc T' (T_ _ _)
  (tuple_addW0 a b aH.toArray ir.toArray n n2 dd NU sl NV (by simp[r1.k9.mpr hx])) ⟨ho,ED,⟨.ref b,H,I,rfl,q0 hx⟩⟩
 refine HT.Ft p1 p2 (λz=>hx (r1.k9.mp z)) (λz=>⟨.ref a,H,I,rfl,q1 hx (r2.k9.mp z)⟩) (λz=>?_) (by rw[<- r1.length,<- r2.length];exact hz);refine⟨.ref s.heap.objs.size,_,I.laid (t':=s.toks) (o:=.tup (xs++ys)) (λb ob q=>dg _ q) (bG _) ?_,rfl,q2 hx (λw=>z (r2.k9.mpr w)) _ (I.ba.fresh (bG _))⟩;exact⟨by rw[yH];exact hz,_,r1.append r2,IsTup.new _ _⟩
end
noncomputable def IL(K:qaf):R2:=λx y H Q=>nH (λi j=>.int (i+j)) x y H Q\/(λx y H Q=>∃i j,x=.str i/\y=.str j/\i.length+j.length<=sizeLine/\Q (.str (i++j)) H) x y H Q\/IJ K x y H Q\/IK K x y H Q
theorem F7{X:Cx}:dI X (binaryOp .Add) (IL X.K):=dI.or Ko (dI.or vd (dI.or F5 F6))
def Ln(x y:T)(q:Rt->Prop):Prop:=match x,y with
 |.int i,.int j=>q (.vw (.int (i+j)))
 |.str i,.str j=>i.length+j.length<=sizeLine/\q (.vw (.str (i++j)))
 |.lst a,.lst b=>a.length+b.length<=sizeLine/\q (.fr (.lst (a++b)))
 |.tup a,.tup b=>a.length+b.length<=sizeLine/\q (.vw (.tup (a++b)))
 |_,_=>False
theorem F8:lb K (IL K) Ln:=by
 intro Z tm O ρ σ H x y v w q Q I h1 h2 h k;unfold Ln at h;split at h;exact .inl ⟨_,_,h1.int,h2.int,k _ h _ H (aF.refl H) ⟨I,aZ⟩⟩;exact .inr (.inl ⟨_,_,h1.str,h2.str,h.1,k _ h.2 _ H (aF.refl H) ⟨I,cZ⟩⟩);obtain⟨a,vs,rfl,s1,a1⟩:=h1.lst;obtain⟨b,ws,rfl,s2,a2⟩:=h2.lst;exact .inr (.inr (.inl ⟨a,b,vs,ws,rfl,rfl,s1,s2,by rw[a1.length,a2.length];exact h.1,λp hp=>k _ h.2 _ _ (aB hp) (I.vB hp (a1.append a2))⟩));obtain⟨a,vs,rfl,s1,a1⟩:=h1.tup;obtain⟨b,ws,rfl,s2,a2⟩:=h2.tup;refine .inr (.inr (.inr ⟨a,b,vs,ws,rfl,rfl,s1,s2,by rw[a1.length,a2.length];exact h.1,λe=>?_,λ_ e=>?_,λ_ _ p hp=>?_⟩));subst e;have e:=a1.length
 rename_i xs ys
 have e':xs=[]:=Sq.mp e.symm;subst e';exact k _ h.2 _ H (aF.refl H) ⟨I,cP s2 a2⟩;subst e;have e:=a2.length
 rename_i xs ys _
 have e':ys=[]:=Sq.mp e.symm;subst e';exact k _ h.2 _ H (aF.refl H) ⟨I,by rw[Ew];exact cP s1 a1⟩;exact k _ h.2 _ _ (aB hp) ⟨I.same (aB hp),cP (dy.of ay) ((a1.append a2).same (aB hp))⟩;exact h.elim
section
variable{X:Cx}{Z:Zc}{a b:Expr}{fa fb:FE}
theorem dR(ha:VR X Z a fa)(hb:VR X Z b fb):VP X Z (.BinOp a .Add b pos) (f2 fa fb Ln):=d_ F7 F8 ha hb
theorem Lo(ha:VR X Z a fa)(hb:VR X Z b fb):VP X Z (.BinOp a .Sub b pos) (f2 fa fb Lc):=d_ Kq FW ha hb
theorem BC(ha:VR X Z a fa)(hb:VR X Z b fb):VP X Z (.BinOp a .Mult b pos) (f2 fa fb Ld):=d_ Kr FY ha hb
theorem bY(ha:VR X Z a fa)(hb:VR X Z b fb):VP X Z (.BinOp a .FloorDiv b pos) (f2 fa fb Lf):=d_ Fi FZ ha hb
theorem bH(ha:VR X Z a fa)(hb:VR X Z b fb):VP X Z (.BinOp a .Mod b pos) (f2 fa fb Lg):=d_ Ks F1 ha hb
theorem BD(ha:VR X Z a fa)(hb:VR X Z b fb):VP X Z (.BinOp a .Pow b pos) (f2 fa fb Lh):=d_ Kt F2 ha hb
theorem BE(ha:VR X Z a fa)(hb:VR X Z b fb):VP X Z (.BinOp a .LShift b pos) (f2 fa fb Li):=d_ Ku F3 ha hb
theorem vE(ha:VR X Z a fa)(hb:VR X Z b fb):VP X Z (.BinOp a .RShift b pos) (f2 fa fb Lj):=d_ Kv F4 ha hb
theorem F9(ha:VR X Z a fa)(hb:VR X Z b fb):VP X Z (.BinOp a .BitAnd b pos) (f2 fa fb Bz):=d_ Kw BA ha hb
theorem qb(ha:VR X Z a fa)(hb:VR X Z b fb):VP X Z (.BinOp a .BitOr b pos) (f2 fa fb qa):=d_ OU xu ha hb
def Vg(f:FE):FP:=λρ Q=>f ρ λx=>match x with
 |.int i=>Q (.vw (.int (-i)))
 |_=>False
theorem vF(ha:VR X Z a fa):VP X Z (.UnaryOp .USub a pos) (Vg fa):=.mk λtm=>PE.weak (OS Kz (ha tm)) λσ H Q ⟨ρ,O,q,I,hf,k⟩=>⟨ρ,O,_,I,hf,λt ht v H1 s1 a1=>by split at ht;exact⟨_,a1.int,k _ ht _ H1 s1 ⟨I.same s1,aZ⟩⟩;exact ht.elim⟩
theorem oR(hu:X.A.units+101<cLine)(ha:VR X Z a fa)(hb:VR X Z b fb):VP X Z (.Compare a [.Eq] [b] pos) (f2 fa fb P0):=p_ (Bu hu) Bw ha hb (fA _)
theorem P5(hu:X.A.units+101<cLine)(ha:VR X Z a fa)(hb:VR X Z b fb):VP X Z (.Compare a [.NotEq] [b] pos) (f2 fa fb IH):=p_ (Bv hu) By ha hb (fA _)
theorem bU(hu:X.A.units+101<cLine)(ha:VR X Z a fa)(hb:VR X Z b fb):VC X Z (.Compare a [.Eq] [b] pos) (jG (f2 fa fb P0)):=iq (Bu hu) Bw ha hb (fA _)
theorem BF(hu:X.A.units+101<cLine)(ha:VR X Z a fa)(hb:VR X Z b fb):VC X Z (.Compare a [.NotEq] [b] pos) (jG (f2 fa fb IH)):=iq (Bv hu) By ha hb (fA _)
theorem sM(ha:VR X Z a fa)(hb:VR X Z b fb):VC X Z (.Compare a [.Lt] [b] pos) (jG (f2 fa fb Ve)):=iq OW Ll ha hb (fA _)
theorem xv(ha:VR X Z a fa)(hb:VR X Z b fb):VC X Z (.Compare a [.Gt] [b] pos) (jG (f2 fa fb Vf)):=iq OX Lm ha hb (fA _)
def f3(fa fb fc:FE)(p p':T->T->(Rt->Prop)->Prop):FP:=λρ Q=>fa ρ λx=>fb ρ λy=>p x y λr=>match r with
 |.vw (.bl true)=>fc ρ λz=>p' y z Q
 |.vw (.bl false)=>Q (.vw (.bl false))
 |_=>False
end
theorem BG{A:qah}{ts:List T}{i:Int}{t:T}(h:ax K H A ts vs)(e:ky ts i=some t):∃v,ky vs i=some v/\At K H A t v:=by
 unfold ky at e ⊢;rw[h.length];cases q:y4 ts.length i with
 |none=>rw[q] at e;cases e
 |some j=>rw[q] at e;obtain⟨v,h1,h2⟩:=h.get (i:=j) e;exact⟨v,h1,h2⟩
def NY(x y:T)(q:Rt->Prop):Prop:=match x,y with
 |.lst ts,.int i=>∃t,ky ts i=some t/\q (.vw t)
 |.tup ts,.int i=>∃t,ky ts i=some t/\q (.vw t)
 |.str z,.int i=>z.length<=sizeLine/\∃c,ky z.cps.toList i=some c/\q (.vw (.str ⟨#[c]⟩))
 |_,_=>False
theorem Lq:lb K (W4 K) NY:=by intro Z tm O ρ σ H x y v w q Q I h1 h2 h k;unfold NY at h;split at h;obtain⟨t,e,h⟩:=h;obtain⟨a,vs,rfl,s1,a1⟩:=h1.lst;obtain⟨u,e',a2⟩:=BG a1 e;exact .inl ⟨a,vs,_,u,rfl,h2.int,s1,e',k _ h _ H (aF.refl H) ⟨I,a2⟩⟩;obtain⟨t,e,h⟩:=h;obtain⟨a,vs,rfl,s1,a1⟩:=h1.tup;obtain⟨u,e',a2⟩:=BG a1 e;exact .inr (.inl ⟨a,vs,_,u,rfl,h2.int,s1,e',k _ h _ H (aF.refl H) ⟨I,a2⟩⟩);obtain⟨hz,c,e,h⟩:=h;exact .inr (.inr ⟨_,_,c,h1.str,h2.int,hz,e,k _ h _ H (aF.refl H) ⟨I,cZ⟩⟩);exact h.elim
section
variable{X:Cx}{Z:Zc}{a b:Expr}{fa fb:FE}
theorem aC(ha:VR X Z a fa)(hb:VR X Z b fb)(hs:xn b:=by exact λ_ _=>rfl):VP X Z (.Subscript a b pos) (f2 fa fb NY) :=
 .mk λtm=>PE.weak (Pg KO (ha tm) (hb tm) hs) (two Lq)
end
abbrev FO:=En->(Option Int->Prop)->Prop
def lO(X:Cx)(Z:Zc)(tm:List (T×V))(f:FO):TO:=λσ H Q=>∃ρ O q,au X.K Z tm O ρ σ H/\f ρ q/\∀o,q o->∀H',aF H H'->Q o H'
def VO(X:Cx)(Z:Zc)(e:Option Expr)(f:FO):Prop:=Bx λtm=>PO X e (lO X Z tm f)
instance{X:Cx}{Z:Zc}{e:Option Expr}{f:FO}:CoeFun (VO X Z e f) λ_=>∀tm,PO X e (lO X Z tm f):=⟨λh=>Bx.h h⟩
theorem PO.weak{X:Cx}{e:Option Expr}{t t':TO}(h:PO X e t)(hw:∀σ H Q,t' σ H Q->t σ H Q):PO X e t':=λpins s σ H Q I q=>h pins s σ H Q I (hw _ _ _ q)
def YM:FO:=λ_ Q=>Q none
def YN(f:FE):FO:=λρ Q=>f ρ λt=>match t with
 |.int i=>Q (some i)
 |_=>False
noncomputable def qc{α:Type}(xs:List α)(lo hi:Option Int):List α:=(xs.drop (HT.cM xs.length 0 lo)).take (HT.cM xs.length xs.length hi-HT.cM xs.length 0 lo)
theorem ax.cut{A:qah}{ts:List T}(h:ax K H A ts vs)(lo hi:Option Int):ax K H A (qc ts lo hi) (sF vs lo hi):=by unfold qc sF;rw[h.length];exact (h.drop _).take _
def Vh(K:qaf):V->Option Int->Option Int->Hp->VK->Prop:=λx lo hi H Q=>Pn K x lo hi H Q\/Pf K x lo hi H Q\/PM x lo hi H Q
theorem Vi{X:Cx}:Bf X (Vh X.K):=Bf.or Fz (Bf.or KJ K7)
def Xb(x:T)(lo hi:Option Int)(q:Rt->Prop):Prop:=match x with
 |.lst ts=>q (.fr (.lst (qc ts lo hi)))
 |.tup ts=>¬ (HT.cM ts.length 0 lo=0/\HT.cM ts.length ts.length hi=ts.length)/\q (.vw (.tup (qc ts lo hi)))
 |.str z=>z.length<=sizeLine/\q (.vw (.str (Txt.slice z lo hi)))
 |_=>False
def YO(fa:FE)(fl fh:FO):FP:=λρ Q=>fa ρ λx=>fl ρ λlo=>fh ρ λhi=>Xb x lo hi Q
section
variable{X:Cx}{Z:Zc}{a b:Expr}{lo hi:Option Expr}{fa:FE}{fl fh:FO}
theorem F_:VO X Z none YM:=.mk λtm=>PO.weak Fv λσ H Q ⟨ρ,O,q,I,hf,k⟩=>k _ hf H (aF.refl H)
theorem qd(h:VR X Z e fa):VO X Z (some e) (YN fa):=.mk λtm=>PO.weak (Fw (h tm)) λσ H Q ⟨ρ,O,q,I,hf,k⟩=>⟨ρ,O,_,I,hf,λt ht v H' s z=>by split at ht;exact⟨_,z.int,k _ ht H' s⟩;exact ht.elim⟩
theorem sN(he:VR X Z e fa)(hl:VO X Z lo fl)(hh:VO X Z hi fh):VP X Z (.Subscript e (.Slice lo hi none p2) pos) (YO fa fl fh) :=
 .mk λtm=>PE.weak (Bg Vi (he tm) (hl tm) (hh tm)) λσ H Q ⟨ρ,O,q,I,hf,k⟩=>⟨ρ,O,_,I,hf,λx hx v H1 s1 a1=>⟨ρ,O,_,I.same s1,hx,λl hl H2 s2=>⟨ρ,O,_,(I.same s1).same s2,hl,λu hu H3 s3=>by have J:=((I.same s1).same s2).same s3;have a3:=(a1.same s2).same s3;have S:=(s1.trans s2).trans s3;unfold Xb at hu;split at hu;obtain⟨p,vs,rfl,q1,q2⟩:=a3.lst;exact .inl ⟨p,vs,rfl,q1,λr hr=>k _ hu _ _ (S.trans (aB hr)) (J.vB hr (q2.cut _ _))⟩;obtain⟨p,vs,rfl,q1,q2⟩:=a3.tup;refine .inr (.inl ⟨p,vs,rfl,q1,by rw[q2.length];exact hu.1,λr hr=>k _ hu.2 _ _ (S.trans (aB hr)) ⟨J.same (aB hr),cP (dy.of ay) ((q2.cut _ _).same (aB hr))⟩⟩);exact .inr (.inr ⟨_,a3.str,hu.1,k _ hu.2 _ H3 S ⟨J,cZ⟩⟩);exact hu.elim⟩⟩⟩
end
def IM(g:FA)(p:List T->(Rt->Prop)->Prop):FP:=λρ Q=>g ρ λts=>p ts Q
def kD(K:qaf)(r:qak->Hp->VK->Prop)(p:List T->(Rt->Prop)->Prop):Prop :=
 ∀(Z:Zc)(tm:List (T×V))(O:HD)(ρ:En)(σ:St)(H:Hp)(ts:List T)(vs:qak)(q:Rt->Prop)(Q:VK),au K Z tm O ρ σ H->Paired (λv t=>d4 K H (av Z O) t v) vs ts->p ts q ->
  (∀t,q t->∀u H',aF H H'->f7 K Z tm O ρ σ H' t u->Q u H')->r vs H Q
section
variable{X:Cx}{Z:Zc}{a b:Expr}{g:FA}{id Ty:String}{r:qak->Hp->VK->Prop}{pp:List T->(Rt->Prop)->Prop}
theorem bC(hc:cL X (.builtin id) r)(ht:kD X.K r pp)(hg:Gl X x)(hm:X.mg x=none)(hv:bootBuiltins x=some (.builtin id))(ha:NX X Z (e::es) g)(hn:x≠"__name__":=by decide)(nP:eG x:=by decide)(hs:starEach (e::es) X.env=(false,eval e X.env)::starEach es X.env:=by rfl)(ku:(backTo pos (starEach es X.env)).any (·.1)=false:=by rfl):VP X Z (.Call (.Name x p) (e::es) [] pos) (IM g pp) :=
 .mk λtm=>PE.weak (lM hc hg hm hv (ha tm) hn nP hs ku) λσ H Q ⟨ρ,O,q,I,hf,k⟩=>⟨ρ,O,_,I,hf,λts d5 vs H1 s1 a1=>ht Z tm O ρ σ H1 ts vs q _ (I.same s1) a1 d5 λt h u H' s z=>k t h u H' (s1.trans s) z⟩
theorem jK(hc:cL X (.type Ty) r)(ht:kD X.K r pp)(hg:Gl X x)(hm:X.mg x=none)(hv:bootBuiltins x=some (.type Ty))(ha:NX X Z (e::es) g)(hn:x≠"__name__":=by decide)(nP:eG x:=by decide)(hs:starEach (e::es) X.env=(false,eval e X.env)::starEach es X.env:=by rfl)(ku:(backTo pos (starEach es X.env)).any (·.1)=false:=by rfl):VP X Z (.Call (.Name x p) (e::es) [] pos) (IM g pp) :=
 .mk λtm=>PE.weak (y3 hc hg hm hv (ha tm) hn nP hs ku) λσ H Q ⟨ρ,O,q,I,hf,k⟩=>⟨ρ,O,_,I,hf,λts d5 vs H1 s1 a1=>ht Z tm O ρ σ H1 ts vs q _ (I.same s1) a1 d5 λt h u H' s z=>k t h u H' (s1.trans s) z⟩
end
def P6(ts:List T)(q:Rt->Prop):Prop:=match ts with
 |[.lst l]=>q (.vw (.int l.length))
 |[.tup l]=>q (.vw (.int l.length))
 |[.str z]=>z.length<=sizeLine/\q (.vw (.int z.length))
 |_=>False
def IP(K:qaf):qak->Hp->VK->Prop:=λxs H Q=>(∃p ys,xs=[.ref p]/\(fq K H p ys\/dy K H p ys)/\Q (.int ys.length) H)\/(∃z,xs=[.str z]/\z.length<=sizeLine/\Q (.int z.length) H)
theorem cq{X:Cx}:cL X (.builtin "len") (IP X.K):=cL.or p4 p5
theorem cz{F:α->β->Prop}{vs:List α}{t:β}(h:Paired F vs [t]):∃v,vs=[v]/\F v t:=by
 cases h with
 |cons r q=>cases q;exact⟨_,rfl,r⟩
theorem cu:kD K (IP K) P6:=by intro Z tm O ρ σ H ts vs q Q I h hp k;unfold P6 at hp;split at hp;obtain⟨v,rfl,a⟩:=cz h;obtain⟨p,ws,rfl,q1,q2⟩:=a.lst;exact .inl ⟨p,ws,rfl,.inl q1,k _ hp _ H (aF.refl H) ⟨I,by rw[q2.length];exact aZ⟩⟩;obtain⟨v,rfl,a⟩:=cz h;obtain⟨p,ws,rfl,q1,q2⟩:=a.tup;exact .inl ⟨p,ws,rfl,.inr q1,k _ hp _ H (aF.refl H) ⟨I,by rw[q2.length];exact aZ⟩⟩;obtain⟨v,rfl,a⟩:=cz h;exact .inr ⟨_,by rw[a.str],hp.1,k _ hp.2 _ H (aF.refl H) ⟨I,aZ⟩⟩;exact hp.elim
def IQ(ts:List T)(q:Rt->Prop):Prop:=match ts with
 |[.lst l]=>q (.fr (.lst l))
 |[.tup l]=>q (.fr (.lst l))
 |_=>False
theorem vG:kD K (λxs H Q=>∃p ys,xs=[.ref p]/\(fq K H p ys\/dy K H p ys)/\∀l,H l=none->Q (.ref l) (upd H l (.lst ys))) IQ:=by intro Z tm O ρ σ H ts vs q Q I h hp k;unfold IQ at hp;split at hp;obtain⟨v,rfl,a⟩:=cz h;obtain⟨p,ws,rfl,q1,q2⟩:=a.lst;exact⟨p,ws,rfl,.inl q1,λl hl=>k _ hp _ _ (aB hl) (I.vB hl q2)⟩;obtain⟨v,rfl,a⟩:=cz h;obtain⟨p,ws,rfl,q1,q2⟩:=a.tup;exact⟨p,ws,rfl,.inr q1,λl hl=>k _ hp _ _ (aB hl) (I.vB hl q2)⟩;exact hp.elim
structure IS where
 nx:En->Prop
 rt:En->Rt->Prop
 bk:En->Prop:=λ_=>False
 ct:En->Prop:=λ_=>False
structure Fin(K:qaf)(Z:Zc)(tm:List (T×V))(d:IS)(D:Ends):Prop where
 nx:∀O ρ σ H,au K Z tm O ρ σ H->d.nx ρ->D.nx σ H
 rt:∀O ρ σ H r v,f7 K Z tm O ρ σ H r v->d.rt ρ r->D.rt v H
 bk:∀O ρ σ H,au K Z tm O ρ σ H->d.bk ρ->D.bk σ H
 ct:∀O ρ σ H,au K Z tm O ρ σ H->d.ct ρ->D.ct σ H
abbrev FS:=IS->En->Prop
def lS(X:Cx)(Z:Zc)(tm:List (T×V))(g:FS):TS:=λD σ H=>∃ρ O d,au X.K Z tm O ρ σ H/\g d ρ/\Fin X.K Z tm d D
def VS(X:Cx)(Z:Zc)(st:Stmt)(g:FS):Prop:=Bx λtm=>PS X st (lS X Z tm g)
instance{X:Cx}{Z:Zc}{st:Stmt}{g:FS}:CoeFun (VS X Z st g) λ_=>∀tm,PS X st (lS X Z tm g):=⟨λh=>Bx.h h⟩
def l_(X:Cx)(Z:Zc)(st:qaq)(g:FS):Prop:=Bx λtm=>ik X st (lS X Z tm g)
instance{X:Cx}{Z:Zc}{st:qaq}{g:FS}:CoeFun (l_ X Z st g) λ_=>∀tm,ik X st (lS X Z tm g):=⟨λh=>Bx.h h⟩
def aX(Z:Zc)(i:Nat):Prop:=∀p∈Z.P,p.1≠i
section
variable{X:Cx}{Z:Zc}{st:Stmt}{rest:qaq}{g u:FS}
def P7:FS:=λd ρ=>d.nx ρ
def P8(g u:FS):FS:=λd ρ=>g {d with nx:=u d} ρ
theorem aL:l_ X Z [] P7:=.mk λtm=>ik.kB xc λD σ H ⟨ρ,O,d,I,h,F⟩=>F.nx O ρ σ H I h
theorem ah(h1:VS X Z st g)(h2:l_ X Z rest u):l_ X Z (st::rest) (P8 g u):=.mk λtm=>ik.kB (gp (h1 tm) (h2 tm)) λD σ H ⟨ρ,O,d,I,h,F⟩ =>
 ⟨ρ,O,{d with nx:=u d},I,h,⟨λO' ρ' σ' H' I' h'=>⟨ρ',O',d,I',h',F⟩,F.rt,F.bk,F.ct⟩⟩
theorem ak(h1:VS X Z st g):l_ X Z [st] g:=.mk λtm=>iO (h1 tm)
theorem l_.weak(h:l_ X Z rest g)(hw:∀d ρ,u d ρ->g d ρ):l_ X Z rest u:=.mk λtm=>ik.kB (h tm) λD σ H ⟨ρ,O,d,I,q,F⟩=>⟨ρ,O,d,I,hw d ρ q,F⟩
def P9(f:FX):FS:=λd ρ=>f ρ λρ' _=>d.nx ρ'
theorem cA{f:FX}(h:VX X Z e f)(hs:swapsWith e none pos.line X.env=pure false:=by rfl):VS X Z (.Expr e pos) (P9 f):=.mk λtm=>PS.weak (Fc (h tm) hs) λD σ H ⟨ρ,O,d,I,q,F⟩ =>
 ⟨ρ,O,_,I,q,λρ' r hr O' v H' z=>F.nx O' ρ' σ H' z.env hr⟩
def Vj(f:FX):FS:=λd ρ=>f ρ λρ' r=>d.rt ρ' r
theorem aJ{f:FX}(h:VX X Z e f):VS X Z (.Return (some e) pos) (Vj f):=.mk λtm=>PS.weak (u7 (h tm)) λD σ H ⟨ρ,O,d,I,q,F⟩ =>
 ⟨ρ,O,_,I,q,λρ' r hr O' v H' z=>F.rt O' ρ' σ H' r v z hr⟩
def YQ(c:FB)(g u:FS):FS:=λd ρ=>c ρ λb=>if b=true then g d ρ else u d ρ
theorem aY{fc:FB}{a b:qaq}(hc:VC X Z c fc)(ha:l_ X Z a g)(hb:l_ X Z b u):VS X Z (.If c a b pos) (YQ fc g u):=.mk λtm=>PS.weak (Iw (hc tm) (ha tm) (hb tm)) λD σ H ⟨ρ,O,d,I,q,F⟩ =>
 ⟨ρ,O,_,I,q,λb hb H' s=>by
  cases b with
  |true=>rw[if_pos rfl] at hb ⊢;exact⟨ρ,O,d,I.same s,hb,F⟩
  |false=>rw[if_neg dO] at hb ⊢;exact⟨ρ,O,d,I.same s,hb,F⟩⟩
def P_(i:Nat)(f:FX):FS:=λd ρ=>f ρ λρ' r=>d.nx (ρ'.set i (some (r.t,false)))
def Vk(i:Nat)(f:FX):FS:=λd ρ=>f ρ λρ' r=>match r with
 |.fr t=>d.nx (ρ'.set i (some (t,true)))
 |_=>False
theorem aN{f:FX}(hN:X.N.Nodup)(hi:X.N[i]?=some x)(hx:Loc X.env.scope x)(he:VX X Z e f)(hp:aX Z i)(hs:swapsWith e (some (.Name x pos')) pos.line X.env=pure false:=by rfl)(hf:X.fn x=true\/X.env.scope.names.lookup x=some .local:=by first|exact .inl rfl|exact .inr rfl|assumption):VS X Z (.Assign [.Name x pos'] e pos) (P_ i f):=.mk λtm=>PS.weak (pU hN hi hx (he tm) hs hf) λD σ H ⟨ρ,O,d,I,q,F⟩ =>
 ⟨ρ,O,_,I,q,λρ' r hr O' v H' z=>F.nx _ _ _ H' (z.env.put hp z.at) hr⟩
theorem dv{f:FX}(hN:X.N.Nodup)(hi:X.N[i]?=some x)(hx:Loc X.env.scope x)(he:VX X Z e f)(hp:aX Z i)(hs:swapsWith e (some (.Name x pos')) pos.line X.env=pure false:=by rfl)(hf:X.fn x=true\/X.env.scope.names.lookup x=some .local:=by first|exact .inl rfl|exact .inr rfl|assumption):VS X Z (.Assign [.Name x pos'] e pos) (Vk i f):=.mk λtm=>PS.weak (pU hN hi hx (he tm) hs hf) λD σ H ⟨ρ,O,d,I,q,F⟩ =>
 ⟨ρ,O,_,I,q,λρ' r hr O' v H' z=>by split at hr;obtain⟨a,rfl,J,hR,h0,S9⟩:=z;exact F.nx _ _ _ H' (J.U_ hp hR h0 S9) hr;exact hr.elim⟩
def Qa(i:Nat)(f:FE)(p:T->T->(Rt->Prop)->Prop):FS:=λd ρ=>match ρ[i]? with
 |some (some (x,false))=>f ρ λy=>p x y λr=>d.nx (ρ.set i (some (r.t,false)))
 |_=>False
theorem BH{f:FE}{op:Operator}{p:T->T->(Rt->Prop)->Prop}(hN:X.N.Nodup)(hi:X.N[i]?=some x)(hx:Loc X.env.scope x)(he:VR X Z e f)(ho:dI X (inplaceOp op) r)(ht:lb X.K r p)(hp:aX Z i)(hf:X.fn x=true\/X.env.scope.names.lookup x=some .local:=by first|exact .inl rfl|exact .inr rfl|assumption):VS X Z (.AugAssign (.Name x pos') op e pos) (Qa i f p):=.mk λtm=>PS.weak (Kj hN hi hx (he tm) ho hf) λD σ H ⟨ρ,O,d,I,q,F⟩=>by
 unfold Qa at q;split at q
 rename_i t e0
 obtain⟨o,s,h1,h2,rfl,v,rfl,h3⟩:=I.sl i _ e0;refine⟨v,h2,ρ,O,_,I,q,λy hy w H1 s1 a1=>?_⟩;exact ht Z tm O ρ σ H1 t y v w _ _ (I.same s1) (.inl (h3.same s1)) a1 hy λr hr z H2 s2 k=>F.nx _ _ _ H2 (k.env.put hp k.at) hr;exact q.elim
end
section
variable{X:Cx}{Z:Zc}{a b:Expr}
theorem au.root{tm:List (T×V)}{ρ:En}(I:au K Z tm O ρ σ H){t:T}(e:ρ[k]?=some (some (t,true))):∃a,O[k]?=some (some a)/\σ[k]?=some (some (.ref a))/\b_ K H (av Z O) a t:=by obtain⟨o,s,h1,h2,a,rfl,rfl,h3⟩:=I.sl k _ e;exact⟨a,h1,h2,h3⟩
def xw(k:Nat)(g:FA)(p:List T->List T->(List T->T->Prop)->Prop):FX:=λρ Q=>match ρ[k]? with
 |some (some (.lst ts,true))=>g ρ λvs=>p ts vs λeA r=>Q (ρ.set k (some (.lst eA,true))) (.vw r)
 |_=>False
def Qb(K:qaf)(r:V->qak->Hp->VK->Prop)(p:List T->List T->(List T->T->Prop)->Prop):Prop :=
 ∀(H:Hp)(A:qah)(l:Addr)(xs:qak)(ts us:List T)(vs:qak)(q:List T->T->Prop)(Q:VK),l∈A->H l=some (.lst xs)->ax K H A ts xs->ax K H A us vs->p ts us q ->
  (∀eA t,q eA t->∀Td v,ax K H A eA Td->At K H A t v->Q v (upd H l (.lst Td)))->r (.ref l) vs H Q
theorem xx{r:V->qak->Hp->VK->Prop}{p:List T->List T->(List T->T->Prop)->Prop}(hm:Qb X.K r p){g:FA}{tm:List (T×V)}{Q:VK}(h:lX X Z tm (xw k g p) σ H Q) :
  ∃l,σ[k]?=some (some (.ref l))/\(∃xs,fq X.K H l xs)/\lA X Z tm g σ H λvs H1=>r (.ref l) vs H1 Q:=by
 obtain⟨ρ,O,q,I,hf,kk⟩:=h;unfold xw at hf;split at hf
 rename_i ts e0
 obtain⟨l,h1,h2,xs,h3,h4⟩:=I.root e0;refine⟨l,h2,⟨xs,fq.of h3⟩,ρ,O,_,I,hf,λus US vs H1 s1 a1=>?_⟩;have J:=I.same s1;have ha:l∈av Z O:=hU _ (aA.mpr (fY h1));refine hm H1 (av Z O) l xs ts us vs _ Q ha (s1 _ _ h3) (h4.same s1) a1 US λeA t ht Td v b1 b2=>?_;exact kk _ _ ht O _ _ ⟨J.wrote e0 h1 ⟨Td,ay,b1.wrote ha (s1 _ _ h3) rfl⟩,b2.wrote ha (s1 _ _ h3) rfl⟩;exact hf.elim
theorem iZ(k:Nat){name:Str}{id:String}{g:FA}{r:V->qak->Hp->VK->Prop}{pp:List T->List T->(List T->T->Prop)->Prop}(slot:Slot "list" name id)(KR:typeOf (.builtin id)=pure (.type "method_descriptor"))(hm:IC X id r)(ht:Qb X.K r pp)(ha:VA X Z (e::es) g)(hN:X.N[k]?=some x:=by rfl)(hv:ko X.env.scope x:=by first|exact Or.inl rfl|exact Or.inr (Or.inl rfl)|exact Or.inr (Or.inr rfl))(hd:eG x:=by decide)(eI:nJ x:=by decide)(cN:attributeBase (.Name x p) name X.env (eval (.Name x p) X.env)=eval (.Name x p) X.env:=by rfl)(vv:((backTo bf (starEach (e::es) X.env)).all (λx=>!x.1) && (backToKw bf (keywordEach [] X.env)).all (λx=>x.1.isSome)
    && decide ((e::es).length+([]:List Keyword).length+(if ([]:List Keyword).isEmpty then 0 else 1)<30))=true:=by rfl)(cO:(apos.endLine==bf.line)=true:=by rfl)(hs:starEach (e::es) X.env=(false,eval e X.env)::starEach es X.env:=by rfl)(ip:(backTo bf (starEach es X.env)).any (·.1)=false:=by rfl) :
  VX X Z (.Call (.Attribute (.Name x p) name apos) (e::es) [] bf) (xw k g pp):=.mk λtm=>
 PE.weak (Bj PySem.F.plainAttrs_list slot KR hm (bD hN hv hd eI) (ha tm) cN vv cO hs ip) λσ H Q h=>
  let ⟨l,h1,h2,h3⟩:=xx ht h;⟨.ref l,h1,.inl ⟨rfl,h2⟩,h3⟩
theorem Lr(k:Nat){name:Str}{id:String}{r:V->qak->Hp->VK->Prop}{pp:List T->List T->(List T->T->Prop)->Prop}(slot:Slot "list" name id)(KR:typeOf (.builtin id)=pure (.type "method_descriptor"))(hm:IC X id r)(ht:Qb X.K r pp)(hN:X.N[k]?=some x:=by rfl)(hv:ko X.env.scope x:=by first|exact Or.inl rfl|exact Or.inr (Or.inl rfl)|exact Or.inr (Or.inr rfl))(hd:eG x:=by decide)(eI:nJ x:=by decide)(cN:attributeBase (.Name x p) name X.env (eval (.Name x p) X.env)=eval (.Name x p) X.env:=by rfl)(cO:(apos.endLine==bf.line)=true:=by rfl):VX X Z (.Call (.Attribute (.Name x p) name apos) [] [] bf) (xw k jI pp):=.mk λtm=>
 PE.weak (vt PySem.F.plainAttrs_list slot KR hm (bD hN hv hd eI) cN cO) λσ H Q h=>by obtain⟨l,h1,h2,ρ,O,q,I,hf,kk⟩:=xx ht h;exact⟨.ref l,h1,.inl ⟨rfl,h2⟩,kk [] hf [] H (aF.refl H) ax.nil⟩
def xy(ts us:List T)(q:List T->T->Prop):Prop:=match us with
 |[t]=>ts.length<sizeLine/\q (ts++[t]) .a9
 |_=>False
theorem bR:Qb K xo xy:=by intro H A l xs ts us vs q Q hl hH h1 h2 hp k;unfold xy at hp;split at hp;obtain⟨v,rfl,a⟩:=cz (ax.iff.mp h2);exact⟨l,xs,v,rfl,rfl,hH,by rw[h1.length];exact hp.1,k _ _ hp.2 _ _ (h1.append (ax.cons a ax.nil)) p9⟩;exact hp.elim
def Vl(ts us:List T)(q:List T->T->Prop):Prop:=us=[]/\∃t,ts[ts.length-1]?=some t/\q ts.dropLast t
theorem ax.dropLast{A:qah}{ts:List T}(h:ax K H A ts vs):ax K H A ts.dropLast vs.dropLast:=by rw[List.dropLast_eq_take,List.dropLast_eq_take,h.length];exact h.take _
theorem F':Qb K Pq Vl:=by
 intro H A l xs ts us vs q Q hl hH h1 h2 hp k;obtain⟨rfl,t,e1,hq⟩:=hp;have e:vs=[]:=by simpa only[ax] using h2
 obtain⟨v,e2,a⟩:=h1.get e1;exact⟨l,xs,v,rfl,e,hH,by rw[h1.length];exact e2,k _ _ hq _ _ h1.dropLast a⟩
noncomputable def IT(k:Nat)(f fi:FE):FS:=λd ρ=>match ρ[k]? with
 |some (some (.lst ts,true))=>f ρ λv=>fi ρ λi=>match i with
  |.int j=>∃n,y4 ts.length j=some n/\d.nx (ρ.set k (some (.lst (ts.set n v),true)))
  |_=>False
 |_=>False
theorem fH(k:Nat){f fi:FE}{i:Expr}(he:VE X Z e f)(hi:VR X Z i fi)(hN:X.N[k]?=some x:=by rfl)(hv:ko X.env.scope x:=by first|exact Or.inl rfl|exact Or.inr (Or.inl rfl)|exact Or.inr (Or.inr rfl))(hd:eG x:=by decide)(eI:nJ x:=by decide)(ha:∀v,assign (.Subscript (.Name x p) i du) X.env v=(do
    let ov <- holding [v] (eval (.Name x p) X.env)
    let iv <- holding [v,ov] (eval i X.env)
    standAt du
    holding [v,ov,iv] (setItem ov iv v)
    release [v,ov,iv] []):=by intro _;rfl)(hs:swapsWithSole [.Subscript (.Name x p) i du] e pos.line X.env=pure false:=by rfl)(hw:swappedStores [.Subscript (.Name x p) i du] e X.env=pure none:=by rfl)(h1:(assignEach [.Subscript (.Name x p) i du] X.env).map (·.2)=[assign (.Subscript (.Name x p) i du) X.env]:=by rfl):VS X Z (.Assign [.Subscript (.Name x p) i du] e pos) (IT k f fi):=.mk λtm=>
 PS.weak (A7 (he tm) (Ki (bD hN hv hd eI) (hi tm) set_list ha) hs hw h1) λD σ H ⟨ρ,O,d,I,q,F⟩=>by
  unfold IT at q;split at q
  rename_i ts e0
  obtain⟨l,h1,h2,xs,h3,h4⟩:=I.root e0;have ha:l∈av Z O:=hU _ (aA.mpr (fY h1));refine⟨ρ,O,_,I,q,λt ht v H1 s1 a1=>⟨.ref l,h2,ρ,O,_,I.same s1,ht,λj hj w H2 s2 a2=>?_⟩⟩;split at hj;obtain⟨n,e1,hj⟩:=hj;refine⟨l,xs,_,n,rfl,a2.int,s2 _ _ (s1 _ _ h3),by rw[h4.length];exact e1,?_⟩;refine F.nx O _ σ _ (((I.same s1).same s2).wrote (t':=.lst (ts.set n t)) e0 h1 ⟨xs.set n v,ay,?_⟩) hj;exact ax.wrote ha (s2 _ _ (s1 _ _ h3)) rfl (((h4.same s1).same s2).set n (a1.same s2));exact hj.elim;exact q.elim
theorem au.give{tm:List (T×V)}{ρ:En}(I:au K Z tm O ρ σ H){t:T}(hp:aX Z i)(hi:ρ[i]?=some (some (t,true))):∃a,σ[i]?=some (some (.ref a))/\f7 K Z tm (O.set i none) (ρ.set i none) σ H (.fr t) (.ref a):=by
 obtain⟨a,h1,h2,h3⟩:=I.root hi;have ha:a∈roots O:=aA.mpr (fY h1);obtain⟨o1,o2,o3⟩:=I.own a ha;have J:=I.forget hp;have J2:=I.dH hp hi;have na:a∉roots (O.set i none):=λz=>by
  obtain⟨o,s,g1,g2,g3,v,g4,g5⟩:=J2.sl i (some (t,false)) (by rw[AB (by rw[<- I.lO];exact (dJ.mp h1).1)]);rw[h2] at g2;cases g2;cases g4;have nn:a∉av Z (O.set i none):=by
   obtain⟨u,eu,mu⟩:=h3.mut;cases t with
   |lst ts=>
    simp only[At] at g5;obtain⟨b,vs,eb,l,_⟩:=g5;cases eb;obtain l|⟨oo,_,_,lk,_⟩:=l
    exact l.2;exact λz2=>by
     have key:∀(O:HD)(i:Nat),O[i]?=some (some a)->(roots O).Nodup->a∉roots (O.set i none):=by
      intro O;induction O with
      |nil=>intro i h;simp at h
      |cons o O ih=>
       intro i h nd;cases i with
       |zero=>
        have:o=some a:=by simpa using h
        subst this;simp only[roots,SI,k8,id] at nd ⊢;exact (lC.mp nd).1
       |succ i=>
        have h':O[i]?=some (some a):=by simpa using h
        cases o with
        |none=>simp only[roots,NJ,k8,id] at nd ⊢;exact ih i h' nd
        |some b=>
         simp only[roots,NJ,k8,id] at nd ⊢;rw[lC] at nd;intro z;rcases dh.mp z with z|z
         exact nd.1 (by rw[<- z];exact aA.mpr (fY h'));exact ih i h' nd.2 z
     rcases g7.mp z2 with z2|z2
     exact key O i h1 I.nd z2;exact o2 z2
   |dk ks ts=>simp only[At] at g5;obtain⟨b,vs,eb,_,d,_⟩:=g5;cases eb;exact d.2
   |dt ks ts=>simp only[At] at g5;obtain⟨b,vs,eb,_,d,_⟩:=g5;cases eb;exact d.2
   |ins C ns ts=>simp only[At] at g5;obtain⟨b,dx,vs,eb,_,d,_⟩:=g5;cases eb;exact d.2
   |_=>exact h3.elim
  exact nn (hU _ z)
 have hP:Z.H0 a=none:=by
  obtain z|z:=o1
  obtain⟨p,YR,rfl⟩:=kN.mp z;have:=J.par p YR;exact absurd (aA.mpr (fY this)) na;exact z
 have sub:∀b∈av (Z.ex a) (O.set i none),b∈av Z O:=λb hb=>by
  rcases cp b hb with z|z
  exact bu i b z;rw[z];exact hU _ ha
 refine⟨a,h2,a,rfl,⟨J.lσ,J.lO,λj e h=>?_,J.nd,λb hb=>?_,J.par,λb hb=>?_,J.keep,λp hp=>(I.iH p hp).aP sub⟩,h3.aP sub,hP,o2⟩;rcases get_set h with⟨rfl,rfl,hl⟩|⟨ne,h⟩
 obtain⟨o,s,g1,g2,g3⟩:=J.sl j none (by rw[AB hl]);exact⟨o,s,g1,g2,g3⟩;obtain⟨o,s,g1,g2,g3⟩:=I.sl j e h;exact⟨o,s,by rw[r6 (Ne.symm ne)];exact g1,g2,g3.map (λ_ _ q=>q.aP sub) λ_ _ _ q=>q.aP sub⟩;obtain⟨q1,q2,q3⟩:=J.own b hb;refine⟨q1,λz=>?_,q3⟩;rcases dh.mp z with z|z
 exact na (by rw[<- z];exact hb);exact q2 z;rcases dh.mp hb with z|z
 obtain⟨u,eu,_⟩:=o3;rw[z,eu];simp;exact I.ox b z
def IU(i:Nat):FX:=λρ Q=>match ρ[i]? with
 |some (some (t,true))=>Q (ρ.set i none) (.fr t)
 |some (some (t,false))=>Q ρ (.vw t)
 |_=>False
theorem lg(i:Nat)(hp:aX Z i)(hN:X.N[i]?=some x:=by rfl)(hv:ko X.env.scope x:=by first|exact Or.inl rfl|exact Or.inr (Or.inl rfl)|exact Or.inr (Or.inr rfl))(hd:eG x:=by decide)(eI:nJ x:=by decide):VX X Z (.Name x pos) (IU i):=.mk λtm=>PE.weak (bD hN hv hd eI) λσ H Q ⟨ρ,O,q,I,hf,k⟩=>by
 unfold IU at hf;split at hf
 rename_i t e
 obtain⟨a,h1,h2⟩:=I.give hp e;exact⟨_,h1,k _ _ hf _ _ H h2⟩
 rename_i t e
 obtain⟨o,s,h1,h2,rfl,v,rfl,h3⟩:=I.sl i _ e;exact⟨v,h2,k _ _ hf O v H ⟨I,h3⟩⟩;exact hf.elim
end
theorem au.nW{Z:Zc}{tm Xc:List (T×V)}{ρ:En}(I:au K Z tm O ρ σ H)(h:∀p∈Xc,At K H (av Z O) p.1 p.2):au K Z Xc O ρ σ H :=
 ⟨I.lσ,I.lO,I.sl,I.nd,I.own,I.par,I.ox,I.keep,h⟩
theorem f7.nW{Z:Zc}{srcs tm:List (T×V)}{ρ:En}{r:Rt}(h:f7 K Z (srcs++tm) O ρ σ H r v):f7 K Z tm O ρ σ H r v:=by
 cases r with
 |vw t=>exact⟨h.1.nW λp hp=>h.1.iH p (g6 _ hp),h.2⟩
 |fr t=>obtain⟨a,e,I,q⟩:=h;exact⟨a,e,I.nW λp hp=>I.iH p (g6 _ hp),q⟩
def Wk(K:qaf)(J:It)(srcs:List (T×V))(ts:List T):Prop:=∀H A,(∀a∈A,H a≠none)->(∀p∈srcs,At K H A p.1 p.2)->∀i:Nat,
 (i<ts.length->J.go i H)/\(ts.length=i->J.stop i H)/\∀t,ts[i]?=some t->∀x H',J.NR i H x H'->aF H H'/\At K H' A t x
abbrev FI:=En->(List T->Prop)->Prop
noncomputable def lI(X:Cx)(Z:Zc)(tm:List (T×V))(f:FI):TI:=λσ H R=>∃ρ O q,au X.K Z tm O ρ σ H/\f ρ q/\∀ts,q ts->∀J H' srcs,aF H H'->(∀p∈srcs,At X.K H' (av Z O) p.1 p.2)->Wk X.K J srcs ts->R J H'
def VI(X:Cx)(Z:Zc)(tg iter:Expr)(f:FI):Prop:=Bx λtm=>PI X tg iter (lI X Z tm f)
instance{X:Cx}{Z:Zc}{tg iter:Expr}{f:FI}:CoeFun (VI X Z tg iter f) λ_=>∀tm,PI X tg iter (lI X Z tm f):=⟨λh=>Bx.h h⟩
theorem PI.weak{X:Cx}{tg:Expr}{t t':TI}(h:PI X tg e t)(hw:∀σ H R,t' σ H R->t σ H R):PI X tg e t':=λpins s σ H R I q=>h pins s σ H R I (hw _ _ _ q)
theorem PG.weak{X:Cx}{tg:Expr}{t t':TG}(h:PG X tg t)(hw:∀v σ H Q,t' v σ H Q->t v σ H Q):PG X tg t':=λpins s σ H v u Q I r q=>h pins s σ H v u Q I r (hw _ _ _ _ q)
theorem A5.weak{X:Cx}{tg:qap}{t t':Fd}(h:A5 X tg t)(hw:∀v σ H Q,t' v σ H Q->t v σ H Q):A5 X tg t':=λpins s σ H v u Q I r q=>h pins s σ H v u Q I r (hw _ _ _ _ q)
def Ga(K:qaf)(tl:TE):TI:=λσ H R=>tl σ H λx H1=>(∃a,x=.ref a/\(∃xs,fq K H1 a xs)/\R (UH K a) H1)\/(∃a,x=.ref a/\(∃xs,dy K H1 a xs)/\R (UI K a) H1)\/∃z,x=.str z/\R (S_ z) H1
section
variable{X:Cx}{Z:Zc}{tg:Expr}
theorem vH{tl:TE}(hl:PE X l tl):PI X tg l (Ga X.K tl):=by
 intro pins s σ H R I h;refine bJ (hl pins s σ H _ I h) λv s1 ⟨x,H1,I1,r1,q1⟩=>?_;obtain⟨a,e,hq,q⟩|⟨a,e,hq,q⟩|⟨z,e,q⟩:=q1
 subst e;cases r1;obtain⟨xs,hq⟩:=hq;obtain⟨aH,rv,p,hz⟩:=I1.list hq;refine wpAny_pyIter_list p.isList ?_;refine⟨s1.heap.objs.size,[s1.heap.objs.size],_,_,H1,rfl,I1.kept (t':=s1.toks) λb o e=>dg _ e,yP a _,⟨_,gN _ rfl,rfl,rfl⟩,λb hb=>?_,q⟩;have e:b=s1.heap.objs.size:=by simpa using hb
 subst e;exact I1.lK (bG _) (I1.ba.fresh (bG _));subst e;cases r1;obtain⟨xs,hq⟩:=hq;obtain⟨aH,rv,p,hz⟩:=I1.tuple hq;refine wpAny_pyIter_tuple (show s1.heap.IsTuple a aH.toArray from p) ?_;refine⟨s1.heap.objs.size,[s1.heap.objs.size],_,_,H1,rfl,I1.kept (t':=s1.toks) λb o e=>dg _ e,u9 a _,⟨_,gN _ rfl,rfl,rfl⟩,λb hb=>?_,q⟩;have e:b=s1.heap.objs.size:=by simpa using hb
 subst e;exact I1.lK (bG _) (I1.ba.fresh (bG _));subst e;obtain⟨t,rfl⟩:=r1;refine wpAny_pyIter_strU ?_;have I2:Inv X pins σ H1 {s1 with heap:=s1.heap.push {cls:=.type (strIterType z),data:=.fields #[.str z t,.int 0 0]} }:=I1.kept (t':=s1.toks) λb o e=>dg _ e;refine⟨s1.heap.objs.size,[s1.heap.objs.size],_,_,H1,rfl,I2,Br z t _,⟨_,gN _ rfl,rfl,rfl⟩,λb hb=>?_,q⟩;have e:b=s1.heap.objs.size:=by simpa using hb
 subst e;exact I1.lK (bG _) I1.fresh
def Vm(f:FE):FI:=λρ Q=>f ρ λt=>match t with
 |.lst ts=>Q ts
 |.tup ts=>Q ts
 |.str z=>Q (z.cps.toList.map λc=>.str ⟨#[c]⟩)
 |_=>False
theorem qe{a:Addr}{ts:List T}:Wk K (UH K a) [(.lst ts,.ref a)] ts:=λH A hA h i=>by have h:=h _ dq;simp only[At] at h;obtain⟨b,vs,e,l,q⟩:=h;cases e;have hl:=q.length;refine⟨λhi=>⟨vs,vs[i]'(by omega),l.sq,by simp⟩,λhi=>⟨vs,l.sq,by omega⟩,λt ht x H' y=>?_⟩;obtain⟨rfl,y⟩:=y;obtain⟨v,e1,e2⟩:=q.get ht;have:=y vs l.sq;rw[e1] at this;cases this;exact⟨aF.refl _,e2⟩
theorem Lu{a:Addr}{ts:List T}:Wk K (UI K a) [(.tup ts,.ref a)] ts:=λH A hA h i=>by have h:=h _ dq;simp only[At] at h;obtain⟨b,vs,e,l,q⟩:=h;cases e;have hl:=q.length;refine⟨λhi=>⟨vs,vs[i]'(by omega),l,by simp⟩,λhi=>⟨vs,l,by omega⟩,λt ht x H' y=>?_⟩;obtain⟨rfl,y⟩:=y;obtain⟨v,e1,e2⟩:=q.get ht;have:=y vs l;rw[e1] at this;cases this;exact⟨aF.refl _,e2⟩
theorem Lw{z:Str}:Wk K (S_ z) [] (z.cps.toList.map λc=>T.str ⟨#[c]⟩):=λH A hA h i=>by refine⟨λhi=>by rw[cn,JG] at hi;exact hi,λhi=>by rw[cn,JG] at hi;exact Nat.le_of_eq hi,λt ht x H' y=>?_⟩;obtain⟨rfl,c,hc,rfl⟩:=y;rw[fj,EW,hc] at ht;cases ht;exact⟨aF.refl _,cZ⟩
theorem jL{f:FE}(h:VE X Z l f):VI X Z tg l (Vm f):=.mk λtm=>PI.weak (vH (h tm)) λσ H R ⟨ρ,O,q,I,hf,k⟩=>⟨ρ,O,_,I,hf,λt ht v H' s a=>by split at ht;have a0:=a;simp only[At] at a;obtain⟨p,vs,rfl,l,_⟩:=a;exact .inl ⟨p,rfl,⟨vs,l.sq⟩,k _ ht _ H' _ s (λp hp=>by rw[cT.mp hp];exact a0) qe⟩;have a0:=a;simp only[At] at a;obtain⟨p,vs,rfl,l,_⟩:=a;exact .inr (.inl ⟨p,rfl,⟨vs,l⟩,k _ ht _ H' _ s (λp hp=>by rw[cT.mp hp];exact a0) Lu⟩);have e:=a;simp only[At] at e;exact .inr (.inr ⟨_,e,k _ ht _ H' [] s (λp hp=>nomatch hp) Lw⟩);exact ht.elim⟩
def rangeT(lo:Int)(n:Nat):List T:=(List.range n).map λi=>T.int (lo+((i:Nat):Int))
theorem BI{lo:Int}:Wk K (SV lo n) [] (rangeT lo n):=λH A hA h i=>by
 unfold rangeT;refine⟨λhi=>by rw[cn,uW] at hi;exact hi,λhi=>by rw[cn,uW] at hi;exact Nat.le_of_eq hi,λt ht x H' y=>?_⟩;obtain⟨rfl,rfl⟩:=y;rw[fj] at ht;cases e:(List.range n)[i]? with
 |none=>rw[e] at ht;cases ht
 |some j=>
  rw[e] at ht;have hj:j=i:=by have:=dJ.mp e;obtain⟨h1,h2⟩:=this;simpa using h2.symm
  subst hj;cases ht;exact⟨aF.refl _,aZ⟩
def Xd(ts:List T)(Q:List T->Prop):Prop:=match ts with
 |[.int j]=>-(2 ^ 62)<=j/\j<2 ^ 62/\Q (rangeT 0 j.toNat)
 |_=>False
def Lx(g:FA)(p:List T->(List T->Prop)->Prop):FI:=λρ Q=>g ρ λts=>p ts Q
theorem eQ{a:Expr}{g:FE}(hg:Gl X "range")(hm:X.mg "range"=none)(ha:VR X Z a g)(hs:starEach [a] X.env=[(false,eval a X.env)]:=by rfl) :
  VI X Z tg (.Call (.Name "range" p) [a] [] pos) (Lx (bM g jI) Xd):=.mk λtm=>PI.weak (yQ hg hm ((a_ ha bx hs) tm) hs) λσ H R ⟨ρ,O,q,I,hf,k⟩=>⟨ρ,O,_,I,hf,λts d5 vs H' s a=>by
 unfold Xd at d5;split at d5;obtain⟨v,rfl,a1⟩:=cz a;exact⟨_,by rw[a1.int],d5.1,d5.2.1,k _ d5.2.2 _ H' [] s (λp hp=>nomatch hp) BI⟩;exact d5.elim⟩
abbrev FG:=T->En->(En->Prop)->Prop
abbrev Gb:=List T->En->(En->Prop)->Prop
noncomputable def lG(X:Cx)(Z:Zc)(tm:List (T×V))(is:qao)(h:FG):TG:=λv σ H Q=>∃ρ O t q,au X.K Z tm O ρ σ H/\At X.K H (av Z O) t v/\h t ρ q/\∀ρ',q ρ'->∀O' σ',au X.K Z tm O' ρ' σ' H->(∀a∈roots O',a∈roots O)->(∀(j:Nat),j∉is->O'[j]?=O[j]?)->σ'.length=σ.length->(∀(j:Nat),j∉is->σ'[j]?=σ[j]?)->Q σ' H
noncomputable def Xe(X:Cx)(Z:Zc)(tm:List (T×V))(is:qao)(h:Gb):Fd:=λvs σ H Q=>∃ρ O ts q,au X.K Z tm O ρ σ H/\ax X.K H (av Z O) ts vs/\h ts ρ q/\∀ρ',q ρ'->∀O' σ',au X.K Z tm O' ρ' σ' H->(∀a∈roots O',a∈roots O)->(∀(j:Nat),j∉is->O'[j]?=O[j]?)->σ'.length=σ.length->(∀(j:Nat),j∉is->σ'[j]?=σ[j]?)->Q σ' H
def VG(X:Cx)(Z:Zc)(tg:Expr)(is:qao)(h:FG):Prop:=Bx λtm=>PG X tg (lG X Z tm is h)
instance{X:Cx}{Z:Zc}{tg:Expr}{is:qao}{h:FG}:CoeFun (VG X Z tg is h) λ_=>∀tm,PG X tg (lG X Z tm is h):=⟨λh=>Bx.h h⟩
def Qc(X:Cx)(Z:Zc)(Te:qap)(is:qao)(h:Gb):Prop:=Bx λtm=>A5 X Te (Xe X Z tm is h)
instance{X:Cx}{Z:Zc}{Te:qap}{is:qao}{h:Gb}:CoeFun (Qc X Z Te is h) λ_=>∀tm,A5 X Te (Xe X Z tm is h):=⟨λh=>Bx.h h⟩
def hName(i:Nat):FG:=λt ρ Q=>Q (ρ.set i (some (t,false)))
theorem aD(hN:X.N.Nodup)(hi:X.N[i]?=some x)(hx:Loc X.env.scope x)(hp:aX Z i)(hf:X.fn x=true\/X.env.scope.names.lookup x=some .local:=by first|exact .inl rfl|exact .inr rfl|assumption) :
  VG X Z (.Name x pos) [i] (hName i):=.mk λtm=>PG.weak (Fe hN hi hx hf) λv σ H Q ⟨ρ,O,t,q,I,a,h,k⟩ =>
 k _ h _ _ (I.put hp a) (br i) (λj hj=>r6 (λe=>hj (by simp[e]))) (by simp) λj hj=>r6 (λe=>hj (by simp[e]))
def Vn:Gb:=λts ρ Q=>ts=[]/\Q ρ
def IV(h:FG)(hs:Gb):Gb:=λts ρ Q=>match ts with
 |t::r=>h t ρ λρ'=>hs r ρ' Q
 |[]=>False
def Qd(n:Nat)(h:Gb):FG:=λt ρ Q=>match t with
 |.tup ts=>ts.length=n/\h ts ρ Q
 |_=>False
theorem cC:Qc X Z [] [] Vn:=.mk λtm=>A5.weak Ff λvs σ H Q ⟨ρ,O,ts,q,I,a,h,k⟩=>by
 obtain⟨rfl,h⟩:=h;have e:vs=[]:=by simpa only[ax] using a
 exact⟨e,k _ h O σ I (λ_ z=>z) (λ_ _=>rfl) rfl λ_ _=>rfl⟩
theorem aK{js:qao}{h:FG}{hs:Gb}(h1:VG X Z e is h)(h2:Qc X Z es js hs)(YS:(assignEach (e::es) X.env).map (·.2)=assign e X.env::(assignEach es X.env).map (·.2):=by rfl):Qc X Z (e::es) (is++js) (IV h hs):=.mk λtm=>A5.weak (A6 (h1 tm) (h2 tm) YS) λvs σ H Q ⟨ρ,O,ts,q,I,a,hh,k⟩=>by
 unfold IV at hh;split at hh;simp only[ax] at a;obtain⟨v,r,rfl,a1,a2⟩:=a;refine⟨v,r,rfl,ρ,O,_,_,I,a1,hh,λρ' hρ O' σ' I' ro eo l e=>⟨ρ',O',_,q,I',a2.aP λb hb=>?_,hρ,λρ2 h2 O2 σ2 I2 YT YU l2 e2=>k ρ2 h2 O2 σ2 I2 (λa z=>ro a (YT a z)) (λj hj=>?_) (l2.trans l) λj hj=>?_⟩⟩;rcases g7.mp hb with z|z
 exact hU _ (ro b z);exact g6 _ z;rw[g7,not_or] at hj;exact (YU j hj.2).trans (eo j hj.1);rw[g7,not_or] at hj;exact (e2 j hj.2).trans (e j hj.1);exact hh.elim
theorem dw{h:Gb}(hc:X.calm=true)(hh:Qc X Z es is h)(hn:(assignEach es X.env).length=n:=by rfl)(UC:(assignEach es X.env).findIdx? (·.1)=none:=by rfl):VG X Z (.Tuple es k pos) is (Qd n h):=.mk λtm=>PG.weak (Kh hc (hh tm) hn UC) λv σ H Q ⟨ρ,O,t,q,I,a,h',kk⟩=>by unfold Qd at h';split at h';simp only[At] at a;obtain⟨p,vs,rfl,s,a⟩:=a;exact⟨p,vs,rfl,s,a.length.trans h'.1,ρ,O,_,q,I,a,h'.2,kk⟩;exact h'.elim
def Vo(f:FE)(h:FG):FS:=λd ρ=>f ρ λt=>h t ρ d.nx
theorem vI{tg:Expr}{f:FE}{h:FG}(he:VE X Z e f)(hg:VG X Z tg is h)(hs:swapsWithSole [tg] e pos.line X.env=pure false:=by rfl)(hw:swappedStores [tg] e X.env=pure none:=by rfl)(h1:(assignEach [tg] X.env).map (·.2)=[assign tg X.env]:=by rfl):VS X Z (.Assign [tg] e pos) (Vo f h):=.mk λtm=>PS.weak (A7 (he tm) (hg tm) hs hw h1) λD σ H ⟨ρ,O,d,I,q,F⟩ =>
 ⟨ρ,O,_,I,q,λt ht v H' s a=>⟨ρ,O,t,_,I.same s,a,ht,λρ' hρ O' σ' I' _ _ _ _=>F.nx O' ρ' σ' H' I' hρ⟩⟩
def hX(ts:List T)(h:FG)(g:FS):FS:=λd ρ=>∃Pv:Nat->En->Prop,Pv 0 ρ/\(∀(i:Nat) t ρ',ts[i]?=some t->Pv i ρ'->h t ρ' λρ2=>g {nx:=Pv (i+1),ct:=Pv (i+1),bk:=d.nx,rt:=d.rt} ρ2)/\∀ρ',Pv ts.length ρ'->d.nx ρ'
def Vp(f:FI)(h:FG)(g:FS):FS:=λd ρ=>f ρ λts=>hX ts h g d ρ
theorem eB{f:FI}{h:FG}{g:FS}(hp:PassesOwn (model X.prog X.w) X.A X.env X.xe)(hc:X.calm=true)(hi:VI X Z tg iter f)(hg:VG X Z tg is h)(hb:l_ X Z body g)(hs:∀x,foldedSetIterable iter X.env x=pure x:=by intro _;rfl):VS X Z (.For tg iter body [] pos) (Vp f h g):=by
 refine .mk λtm pins s σ H D I0 hw=>?_;obtain⟨ρ,O,d,I,q,F⟩:=hw;refine pV (wi:=lI X Z tm f) (g:=λv σ H Q=>∃srcs,lG X Z (srcs++tm) is h v σ H Q) (tb:=λD σ H=>∃srcs,lS X Z (srcs++tm) g D σ H) hp hc (hi tm) (λpins s σ H v u Q I r ⟨srcs,z⟩=>hg (srcs++tm) pins s σ H v u Q I r z) (λpins s σ H D I ⟨srcs,z⟩=>hb (srcs++tm) pins s σ H D I z) hs pins s σ H D I0 ?_;refine⟨ρ,O,_,I,q,λts d5 J H' srcs s a wk=>?_⟩;obtain⟨Pv,p0,step,fin⟩:=d5;have J0:au X.K Z (srcs++tm) O ρ σ H':=(I.same s).nW λp hp=>by
  rcases g7.mp hp with z|z
  exact a p z;exact (I.same s).iH p z
 refine⟨λi m σ H=>m=ts.length-i/\i<=ts.length/\∃ρ O,au X.K Z (srcs++tm) O ρ σ H/\Pv i ρ,⟨ts.length,by simp,nL _,ρ,O,J0,p0⟩,?_⟩;rintro i m σ1 H1 ⟨rfl,hi,ρ1,O1,I1,p1⟩;obtain⟨w1,w2,w3⟩:=wk H1 (av Z O1) I1.FR (λp hp=>I1.iH p (hU _ hp)) i;have un:∀{O:HD}{ρ:En}{σ:St}{H:Hp},au X.K Z (srcs++tm) O ρ σ H->au X.K Z tm O ρ σ H:=λI=>I.nW λp hp=>I.iH p (g6 _ hp);by_cases eJ:i<ts.length;refine .inr ⟨w1 eJ,λσ' H'=>∃ρ O,au X.K Z (srcs++tm) O ρ σ' H'/\Pv (i+1) ρ,λσ' H' ⟨ρ',O',I',p'⟩=>⟨ts.length-(i+1),by omega,rfl,eJ,ρ',O',I',p'⟩,λx H2 y=>?_⟩;have e:ts[i]?=some ts[i]:=by simp[eJ]
 obtain⟨s2,a2⟩:=w3 ts[i] e x H2 y;refine⟨srcs,ρ1,O1,ts[i],_,I1.same s2,a2,step i _ ρ1 e p1,λρ2 h2 O2 σ2 I2 _ _ _ _=>⟨srcs,ρ2,O2,_,I2,h2,?_⟩⟩;exact⟨λO ρ σ H I p=>⟨ρ,O,I,p⟩,λO ρ σ H r v z p=>F.rt O ρ σ H r v z.nW p,λO ρ σ H I p=>F.nx O ρ σ H (un I) p,λO ρ σ H I p=>⟨ρ,O,I,p⟩⟩;have e:i=ts.length:=by omega
 subst e;exact .inl ⟨w2 (rfl),F.nx O1 ρ1 σ1 H1 (un I1) (fin ρ1 p1)⟩
end
theorem c0(O:HD)(n:Nat):roots (O++List.replicate n none)=roots O:=by
 unfold roots;rw[List.filterMap_append];have:(List.replicate n (none:qar)).filterMap id=[]:=by
  induction n with
  |zero=>rfl
  |succ n ih=>rw[AD,k8];exact ih
 rw[this,Ew]
theorem au.longer{Z:Zc}{tm:List (T×V)}{ρ:En}(I:au K Z tm O ρ σ H)(n:Nat){τ:St}(hτ:τ.length=n) :
  au K Z tm (O++List.replicate n none) (ρ++List.replicate n none) (σ++τ) H:=by
 have ea:av Z (O++List.replicate n none)=av Z O:=by unfold av;rw[c0]
 refine⟨by simp[I.lσ,hτ],by simp[I.lO],λi e h=>?_,by rw[c0];exact I.nd,λa h=>I.own a (by rw[c0] at h;exact h),λp hp=>?_,I.ox,I.keep,λp hp=>by rw[ea];exact I.iH p hp⟩;rw[ea];by_cases hi:i<ρ.length;rw[k7 hi] at h;obtain⟨o,s,h1,h2,h3⟩:=I.sl i e h;exact⟨o,s,by rw[k7 (by rw[I.lO];exact hi)];exact h1,by rw[k7 (by rw[I.lσ];exact hi)];exact h2,h3⟩;rw[pP (by omega),wY] at h;split at h
 rename_i hl
 cases h;refine⟨none,τ[i-σ.length]'(by rw[I.lσ,hτ];exact hl),?_,?_,rfl⟩;rw[pP (by rw[I.lO];omega),wY,if_pos (by rw[I.lO];exact hl)];rw[pP (by rw[I.lσ];omega)];simp;cases h;have:=I.par p hp;have hl:=(dJ.mp this).1;rw[k7 hl];exact this
theorem au.Ly{Z:Zc}{tm:List (T×V)}{ρ:En}{a:Addr}{u o:HO}(I:au K (Z.ex a) tm O ρ σ H)(hu:H a=some u)(hm:kR u=true)(h0:Z.H0 a=none):au K (Z.ex a) tm O ρ σ (upd H a o):=by
 have AL:a∈av (Z.ex a) O:=g6 _ dq;have nr:∀b∈roots O,b≠a:=λb hb e=>(I.own b hb).2.1 (by rw[e];exact dq);refine⟨I.lσ,I.lO,λi e h=>?_,I.nd,λb hb=>?_,I.par,λb hb=>?_,λb o' e n=>?_,λp hp=>(I.iH p hp).wrote AL hu hm⟩;obtain⟨o',s,h1,h2,h3⟩:=I.sl i e h;refine⟨o',s,h1,h2,h3.map (λ_ _ q=>q.wrote AL hu hm) λb t e q=>?_⟩;subst e;exact q.map (ar (nr b (aA.mpr (fY h1)))) λ_ _ z=>z.wrote AL hu hm;obtain⟨q1,q2,v,e,m⟩:=I.own b hb;exact⟨q1,q2,v,by rw[ar (nr b hb)];exact e,m⟩;by_cases e:b=a;subst e;rw[ay];simp;rw[ar e];exact I.ox b hb;have:b≠a:=λe'=>by subst e';have e2:Z.H0 b=some o':=e;rw[h0] at e2;cases e2
 rw[ar this];exact I.keep b o' e n
def cw(h:FG)(fc:FB)(fe:FE)(ρ:En):List T->(List T->Prop)->Prop
 |[],Q=>Q []
 |t::ts,Q=>h t ρ λρ2=>fc ρ2 λb=>if b=true then fe ρ2 λu=>cw h fc fe ρ ts λus=>Q (u::us) else cw h fc fe ρ ts Q
def IW(n:Nat)(is:qao)(f:FI)(h:FG)(fc:FB)(fe:FE):FP:=λρ Q=>(is.all λj=>decide (ρ.length<=j))=true/\f ρ λts=>ts.length<=sizeLine/\cw h fc fe (ρ++List.replicate n none) ts λus=>Q (.fr (.lst us))
def Tf(X:Cx)(Z:Zc)(ifs:qap)(f:FB):Prop:=Bx λtm=>EH X ifs (lB X Z tm f)
instance{X:Cx}{Z:Zc}{ifs:qap}{f:FB}:CoeFun (Tf X Z ifs f) λ_=>∀tm,EH X ifs (lB X Z tm f):=⟨λh=>Bx.h h⟩
def BJ:FB:=λ_ Q=>Q true
theorem EH.weak{X:Cx}{e:qap}{t t':TT}(h:EH X e t)(hw:∀σ H Q,t' σ H Q->t σ H Q):EH X e t':=λpins s σ H Q I q=>h pins s σ H Q I (hw _ _ _ q)
section
variable{X:Cx}{Z:Zc}
theorem qf:Tf X Z [] BJ:=.mk λtm=>EH.weak FH λσ H Q ⟨ρ,O,q,I,h,k⟩=>k true h H (aF.refl H)
theorem gQ{f:FB}(h:VC X Z c f):Tf X Z [c] f:=.mk λtm=>FJ (h tm)
noncomputable def cG(X:Cx)(Z:Zc)(tm:List (T×V))(is:qao)(h:FG):TG:=λv σ H Q=>∃D srcs,lG X (Z.ex D) (srcs++tm) is h v σ H Q
noncomputable def cB(X:Cx)(Z:Zc)(tm:List (T×V))(f:FB):TT:=λσ H Q=>∃D srcs,lB X (Z.ex D) (srcs++tm) f σ H Q
noncomputable def cE(X:Cx)(Z:Zc)(tm:List (T×V))(f:FE):TE:=λσ H Q=>∃D srcs,lE X (Z.ex D) (srcs++tm) f σ H Q
theorem Lz{Z:Zc}{tm srcs:List (T×V)}{ρ:En}{H1:Hp}{D:Addr}{J:It}{ts:List T}{h:FG}{fc:FB}{fe:FE}{q:Rt->Prop}{Q:VK}(X:Cx)(hK:X.K=K)(I:au K Z (srcs++tm) O ρ σ H1)(hD:H1 D=none)(wk:Wk K J srcs ts)(hz:ts.length<=sizeLine)(Tg:∀j∈is,ρ.length<=j)(hw:cw h fc fe (ρ++List.replicate n none) ts λus=>q (.fr (.lst us)))(k:∀r,q r->∀v H',aF H1 H'->f7 K Z tm O ρ σ H' r v->Q v H') :
  Bo J (cG X Z tm is h) (cB X Z tm fc) (cE X Z tm fe) n σ D (Q (.ref D)) H1:=by
 subst hK;obtain⟨n1,n2,n3⟩:=I.fresh hD;refine⟨λi m acc H2=>m=ts.length-i/\i<=ts.length/\aF H1 H2/\H2 D=some (.lst acc)/\∃us,ax X.K H2 (av (Z.ex D) O) us acc/\acc.length<=i/\au X.K (Z.ex D) (srcs++tm) O ρ σ H2/\cw h fc fe (ρ++List.replicate n none) (ts.drop i) λr=>q (.fr (.lst (us++r))),
  ⟨ts.length,by simp,nL _,aB hD,ay,[],ax.nil,nL _,I.new hD rfl,by simpa using hw⟩,?_⟩
 rintro i m acc H2 ⟨rfl,hi,s2,Th,us,a2,hl,I2,w2⟩;refine⟨Th,?_⟩;obtain⟨w1,YV,w3⟩:=wk H2 (av (Z.ex D) O) I2.FR (λp hp=>I2.iH p (hU _ hp)) i;by_cases eJ:i<ts.length;refine .inr ⟨w1 eJ,by omega,λx H3 y=>?_⟩;have e:ts[i]?=some ts[i]:=by simp[eJ]
 obtain⟨s3,a3⟩:=w3 ts[i] e x H3 y;rw[Oj eJ] at w2;have I3:=(I2.same s3).longer n (τ:=List.replicate n none) (by simp);have ea:av (Z.ex D) (O++List.replicate n none)=av (Z.ex D) O:=by unfold av;rw[c0]
 refine⟨D,srcs,_,_,ts[i],_,I3,by rw[ea];exact a3,w2,λρ4 YW O4 σ4 I4 ro4 YX l4 e4=>⟨⟨?_,λj v hj=>?_⟩,D,srcs,ρ4,O4,_,I4,YW,λb hb H5 s5=>?_⟩⟩;rw[l4];simp;have oS:=(dJ.mp hj).1;have:j∉is:=λz=>by have:=Tg j z;have:=I.lσ;omega
 rw[e4 j this,k7 oS];exact hj;have S5:=(s2.trans s3).trans s5;have J5:=(I2.same s3).same s5;cases b with
 |true=>
   rw[if_pos rfl] at hb;refine PC ⟨D,srcs,ρ4,O4,_,I4.same s5,hb,λu hu y H6 s6 a6=>?_⟩;have Vq:=s6 _ _ (s5 _ _ (s3 _ _ Th));refine⟨Vq,ts.length-(i+1),by omega,rfl,eJ,λb o e=>?_,ay,us++[u],?_,by simp;omega,(J5.same s6).Ly Vq rfl n3,?_⟩;rw[ar (aS e hD)];exact s6 _ _ (S5 _ _ e);have AL:D∈av (Z.ex D) O:=g6 _ dq;have YY:At X.K H6 (av (Z.ex D) O) u y:=a6.aP λb hb=>by
    rcases g7.mp hb with z|z
    obtain⟨j,hj⟩:=Ic.mp (aA.mp z);have oS:=(dJ.mp hj).1;have nj:j∉is:=λz=>by have:=Tg j z;have:=I.lO;omega
    have:=YX j nj;rw[k7 oS,hj] at this;exact hU _ (aA.mpr (fY this));exact g6 _ z
   exact ax.wrote AL Vq rfl ((((a2.same s3).same s5).same s6).append (ax.cons YY ax.nil));have e2:∀r,(us++[u])++r=us++(u::r):=λr=>by simp
   simp only[e2];exact hu
 |false=>rw[if_neg dO] at hb;exact PB ⟨ts.length-(i+1),by omega,rfl,eJ,S5,s5 _ _ (s3 _ _ Th),us,(a2.same s3).same s5,by omega,J5,hb⟩
 have e:i=ts.length:=by omega
 subst e;refine .inl ⟨YV (rfl),?_⟩;rw[List.drop_length] at w2;simp only[cw,Ew] at w2;refine k _ w2 _ H2 s2 ⟨D,rfl,I2.nW λp hp=>I2.iH p (g6 _ hp),⟨acc,Th,a2⟩,n3,n2⟩
theorem Ge{tm:List (T×V)}{f:FI}{h:FG}{fc:FB}{fe:FE}{Q:VK}(hq:lP X Z tm (IW n is f h fc fe) σ H Q):IE n (lI X Z tm f) (cG X Z tm is h) (cB X Z tm fc) (cE X Z tm fe) σ H Q:=by
 obtain⟨ρ,O,q,I,⟨Tg,hf⟩,k⟩:=hq;refine⟨ρ,O,_,I,hf,λts d5 J H' srcs s a wk D hD=>?_⟩;have I':au X.K Z (srcs++tm) O ρ σ H':=(I.same s).nW λp hp=>by
  rcases g7.mp hp with z|z
  exact a p z;exact (I.same s).iH p z
 refine Lz X rfl I' hD wk d5.1 (λj hj=>?_) d5.2 λr hr v H2 s2 z=>k r hr v H2 (s.trans s2) z;have:=EZ.mp Tg j hj;exact of_decide_eq_true this
variable{ts:qai}{elt tg:Expr}{ifs:qap}{f:FI}{h:FG}{fc:FB}{fe:FE}
theorem dA(hc:X.calm=true)(hS:p8 X.N ts X.env.scope sc=true)(hi:VI X Z tg iter f)(hg:∀D cl C fp s H,VG (bE X ts sc cl C fp s H) (Z.ex D) tg is h)(ht:∀D cl C fp s H,Tf (bE X ts sc cl C fp s H) (Z.ex D) ifs fc)(he:∀D cl C fp s H,VE (bE X ts sc cl C fp s H) (Z.ex D) elt fe)(hs:∀x,foldedSetIterable iter X.env x=pure x:=by intro _;rfl):VP X Z (.ListComp elt [⟨tg,iter,ifs,0⟩] sc pos) (IW ts.length is f h fc fe):=.mk λtm=>
 PE.weak (FL hc hS (hi tm) (λcl C fp s H pins s' σ H' v u Q I r ⟨D,srcs,z⟩=>hg D cl C fp s H (srcs++tm) pins s' σ H' v u Q I r z) (λcl C fp s H pins s' σ H' Q I ⟨D,srcs,z⟩=>ht D cl C fp s H (srcs++tm) pins s' σ H' Q I z)
  (λcl C fp s H pins s' σ H' Q I ⟨D,srcs,z⟩=>he D cl C fp s H (srcs++tm) pins s' σ H' Q I z) hs) λσ H Q hq=>Ge hq
theorem jM{h:FG}{fc:FB}{fe:FE}{ρ:En}{ts:List T}{Q:List T->Prop}(p:T->Bool)(u:T->T)(step:∀t∈ts,∀k:List T->Prop,∀r:List T->Prop,(if p t=true then r [u t] else r [])->h t ρ λρ2=>fc ρ2 λb=>if b=true then fe ρ2 λx=>r [x] else r [])(hq:Q ((ts.filter p).map u)):cw h fc fe ρ ts Q:=by
 induction ts generalizing Q with
 |nil=>exact hq
 |cons t ts ih=>
  have st:=step t dq (λ_=>True) (λl=>match l with
   |[x]=>cw h fc fe ρ ts λus=>Q (x::us)
   |_=>cw h fc fe ρ ts Q)
  have rest:∀{Q':List T->Prop},Q' ((ts.filter p).map u)->cw h fc fe ρ ts Q':=λhq=>ih (λt ht=>step t (d3 _ ht)) hq;simp only[cw];refine st ?_;by_cases hp:p t=true;rw[if_pos hp];refine rest ?_;rw[List.filter_cons_of_pos hp] at hq;exact hq;rw[if_neg hp];refine rest ?_;rw[List.filter_cons_of_neg hp] at hq;exact hq
end
def dS(K:qaf)(H:Hp)(A:qah):List Bool->qah->List T->qak->Prop
 |[],as,ts,vs=>as=[]/\ts=[]/\vs=[]
 |false::fs,as,ts,vs=>∃t eA v hY,ts=t::eA/\vs=v::hY/\At K H A t v/\dS K H A fs as eA hY
 |true::fs,as,ts,vs=>∃a oU t eA hY,as=a::oU/\ts=t::eA/\vs=.ref a::hY/\b_ K H A a t/\dS K H A fs oU eA hY
def Qe(K:qaf)(H:Hp)(as Ox:qah)(H':Hp)(us:List T):Rt->V->Prop
 |.vw t,v=>At K H' (as++Ox) t v/\Paired (λa u=>b_ K H' (as++Ox) a u) as us
 |.fr t,v=>∃b,v=.ref b/\H b=none/\b∉as/\b_ K H' (b::(as++Ox)) b t/\Paired (λa u=>b_ K H' (b::(as++Ox)) a u) as us
abbrev GT:=List T->(List T->Rt->Prop)->Prop
def sO(K:qaf)(fs:List Bool)(G:GT):Sp:=λvs H Q _=>∃ts as Ox q,as.Nodup/\(∀a∈as,a∉Ox)/\(∀a∈Ox,H a≠none)/\dS K H (as++Ox) fs as ts vs/\G ts q /\
 ∀us r,q us r->∀v H',(∀b o,H b=some o->b∉as->H' b=some o)->Qe K H as Ox H' us r v->Q v H'
noncomputable def ro:List Bool->qah->HD
 |[],_=>[]
 |false::fs,as=>none::ro fs as
 |true::fs,a::as=>some a::ro fs as
 |true::fs,[]=>none::ro fs []
noncomputable def pz:List Bool->qah->Nat->List (Nat×Addr)
 |[],_,_=>[]
 |false::fs,as,k=>pz fs as (k+1)
 |true::fs,a::as,k=>(k,a)::pz fs as (k+1)
 |true::fs,[],k=>pz fs [] (k+1)
noncomputable def sP:List Bool->List T->En
 |f::fs,t::ts=>some (t,f)::sP fs ts
 |_,_=>[]
noncomputable def jN:List Bool->En->List T
 |[],_=>[]
 |false::fs,ρ=>jN fs ρ.tail
 |true::fs,some (t,_)::ρ=>t::jN fs ρ
 |true::fs,ρ=>.a9::jN fs ρ.tail
section
variable{A:qah}
theorem eR:∀{fs:List Bool}{as:qah}{ts:List T}{vs:qak},dS K H A fs as ts vs->ts.length=fs.length/\vs.length=fs.length/\(ro fs as).length=fs.length/\(sP fs ts).length=fs.length/\roots (ro fs as)=as
 |[],as,ts,vs,h=>by obtain⟨rfl,rfl,rfl⟩:=h;exact⟨rfl,rfl,rfl,rfl,rfl⟩
 |false::fs,as,ts,vs,h=>by obtain⟨t,eA,v,hY,rfl,rfl,_,h⟩:=h;obtain⟨h1,h2,h3,h4,h5⟩:=eR h;exact⟨by simp[h1],by simp[h2],by simp[ro,h3],by simp[sP,h4],by simpa[ro,roots] using h5⟩
 |true::fs,as,ts,vs,h=>by obtain⟨a,oU,t,eA,hY,rfl,rfl,rfl,_,h⟩:=h;obtain⟨h1,h2,h3,h4,h5⟩:=eR h;refine⟨by simp[h1],by simp[h2],by simp[ro,h3],by simp[sP,h4],?_⟩;simp only[ro,roots,k8,id] at h5 ⊢;rw[h5]
theorem ma:∀{fs:List Bool}{as:qah}{ts:List T}{vs:qak},dS K H A fs as ts vs->∀(i:Nat) e,(sP fs ts)[i]?=some e->∃o s,(ro fs as)[i]?=some o/\(vs.map some)[i]?=some s/\fE K H A e o s
 |[],as,ts,vs,h,i,e,he=>by simp[sP] at he
 |false::fs,as,ts,vs,h,i,e,he=>by
  obtain⟨t,eA,v,hY,rfl,rfl,a,h⟩:=h;cases i with
  |zero=>simp only[sP,Ua,Option.some.injEq] at he;subst he;exact⟨none,some v,rfl,rfl,rfl,v,rfl,a⟩
  |succ i=>exact ma h i e (by simpa[sP] using he)
 |true::fs,as,ts,vs,h,i,e,he=>by
  obtain⟨a,oU,t,eA,hY,rfl,rfl,rfl,r,h⟩:=h;cases i with
  |zero=>simp only[sP,Ua,Option.some.injEq] at he;subst he;exact⟨some a,some (.ref a),rfl,rfl,a,rfl,rfl,r⟩
  |succ i=>exact ma h i e (by simpa[sP] using he)
theorem jO:∀{fs:List Bool}{as:qah}{ts:List T}{vs:qak},dS K H A fs as ts vs->∀a∈as,∃t,b_ K H A a t
 |[],as,ts,vs,h,a,ha=>by obtain⟨rfl,rfl,rfl⟩:=h;cases ha
 |false::fs,as,ts,vs,h,a,ha=>by obtain⟨t,eA,v,hY,rfl,rfl,_,h⟩:=h;exact jO h a ha
 |true::fs,as,ts,vs,h,a,ha=>by
  obtain⟨b,oU,t,eA,hY,rfl,rfl,rfl,r,h⟩:=h;rcases dh.mp ha with z|z
  subst z;exact⟨t,r⟩;exact jO h a z
theorem BK:∀{fs:List Bool}{as:qah}{ts:List T}{vs:qak}(k:Nat),dS K H A fs as ts vs->(pz fs as k).map (·.2)=as/\∀p∈pz fs as k,k<=p.1/\(ro fs as)[p.1-k]?=some (some p.2)
 |[],as,ts,vs,k,h=>by obtain⟨rfl,rfl,rfl⟩:=h;exact⟨rfl,λ_ z=>nomatch z⟩
 |false::fs,as,ts,vs,k,h=>by
  obtain⟨t,eA,v,hY,rfl,rfl,_,h⟩:=h;obtain⟨h1,h2⟩:=BK (k+1) h;refine⟨h1,λp hp=>?_⟩;obtain⟨l,e⟩:=h2 p hp;refine⟨by omega,?_⟩;have:p.1-k=(p.1-(k+1))+1:=by omega
  rw[this];simpa[ro] using e
 |true::fs,as,ts,vs,k,h=>by
  obtain⟨a,oU,t,eA,hY,rfl,rfl,rfl,_,h⟩:=h;obtain⟨h1,h2⟩:=BK (k+1) h;refine⟨by simp[pz,h1],λp hp=>?_⟩;rcases dh.mp hp with z|z
  subst z;exact⟨bG _,by simp[ro]⟩;obtain⟨l,e⟩:=h2 p z;refine⟨by omega,?_⟩;have:p.1-k=(p.1-(k+1))+1:=by omega
  rw[this];simpa[ro] using e
theorem qg{R:Addr->T->Prop}{ρ:En}:∀{fs:List Bool}{as:qah}{ts:List T}{vs:qak}(k:Nat),dS K H A fs as ts vs->(∀p∈pz fs as k,∃t,ρ[p.1]?=some (some (t,true))/\R p.2 t)->Paired R as (jN fs (ρ.drop k))
 |[],as,ts,vs,k,h,_=>by obtain⟨rfl,rfl,rfl⟩:=h;exact .nil
 |false::fs,as,ts,vs,k,h,q=>by obtain⟨t,eA,v,hY,rfl,rfl,_,h⟩:=h;have:=qg (k+1) h q;simp only[jN,List.tail_drop];exact this
 |true::fs,as,ts,vs,k,h,q=>by
  obtain⟨a,oU,t,eA,hY,rfl,rfl,rfl,_,h⟩:=h;have:=qg (ρ:=ρ) (k+1) h λp hp=>q p (d3 _ hp);obtain⟨u,e,r⟩:=q (k,a) dq;have hk:k<ρ.length:=(dJ.mp e).1;have e2:ρ[k]=some (u,true):=by rw[kj hk] at e;exact Option.some.inj e
  rw[Oj hk,e2];exact .cons r this
end
theorem BL{X:Cx}{N:qai}{fs:List Bool}{as Ox:qah}{ts:List T}{Q:VK}{q:List T->Rt->Prop}{g:FS}(nd:as.Nodup)(nx:∀a∈as,a∉Ox)(ox:∀a∈Ox,H a≠none)(ha:dS X.K H (as++Ox) fs as ts vs)(kk:∀us r,q us r->∀v H',(∀b o,H b=some o->b∉as->H' b=some o)->Qe X.K H as Ox H' us r v->Q v H')(hq:g {nx:=λρ=>q (jN fs ρ) (.vw .a9),rt:=λρ r=>q (jN fs ρ) r} (sP fs ts++List.replicate (N.length-ts.length) none)) :
  lS X ⟨H,pz fs as 0,Ox⟩ [] g {nx:=λ_ H'=>Q .a9 H',rt:=Q} (start N vs) H:=by
 obtain⟨K,eK⟩:∃K,K=X.K:=⟨_,rfl⟩;unfold lS;rw[<- eK] at ha kk ⊢;obtain⟨l1,l2,l3,l4,l5⟩:=eR ha;obtain⟨p1,p2⟩:=BK 0 ha;have ea:av ⟨H,pz fs as 0,Ox⟩ (ro fs as++List.replicate (N.length-ts.length) none)=as++Ox:=by unfold av;rw[c0,l5]
 have YZ:∀H0 P (O:HD),av ⟨H0,P,Ox⟩ O=roots O++Ox:=λ_ _ _=>rfl;have I0:au K ⟨H,pz fs as 0,Ox⟩ [] (ro fs as++List.replicate (N.length-ts.length) none) (sP fs ts++List.replicate (N.length-ts.length) none) (start N vs) H:=by
  refine⟨?_,?_,λi e he=>?_,by rw[c0,l5];exact nd,λa h=>?_,λp hp=>?_,ox,λb o e _=>e,λp hp=>nomatch hp⟩;unfold L2.start;simp[l2,l4,l1];simp[l3,l4];rw[ea];by_cases hi:i<fs.length;rw[k7 (by rw[l4];exact hi)] at he;obtain⟨o,s,h1,h2,h3⟩:=ma ha i e he;refine⟨o,s,by rw[k7 (by rw[l3];exact hi)];exact h1,?_,h3⟩;unfold L2.start;rw[k7 (by rw[cn,l2];exact hi)];exact h2;rw[List.getElem?_append_right (by omega),wY] at he;split at he
  rename_i hl
  cases he;refine⟨none,none,?_,?_,rfl⟩;rw[pP (by omega),wY,if_pos (by rw[l3];rw[l4] at hl;exact hl)];unfold L2.start;rw[pP (by rw[cn];omega),wY,cn,if_pos (by rw[l2];rw[l4,l1] at hl;exact hl)];cases he;rw[c0,l5] at h;obtain⟨t,r⟩:=jO ha a h;exact⟨.inl (by show a∈(pz fs as 0).map (·.2);rw[p1];exact h),nx a h,r.mut⟩;obtain⟨_,e⟩:=p2 p hp;rw[Nat.sub_zero] at e;rw[k7 (dJ.mp e).1];exact e
 have fin:∀{O:HD}{ρ:En}{σ:St}{H':Hp}{Z':Zc},Z'.P=pz fs as 0->au K Z' [] O ρ σ H'->Paired (λa u=>b_ K H' (av Z' O) a u) as (jN fs ρ):=λ{O ρ σ H' Z'} eP I=>by
  have:=qg (ρ:=ρ) (R:=λa u=>b_ K H' (av Z' O) a u) 0 ha λp hp=>?_;rw[List.drop_zero] at this;exact this;have e:=I.par p (by rw[eP];exact hp);have hl:=(dJ.mp e).1;have OA:p.1<ρ.length:=by rw[<- I.lO];exact hl
  obtain⟨o,s',h1,h2,h3⟩:=I.sl p.1 ρ[p.1] (by simp);rw[e] at h1;cases h1;cases q:ρ[p.1] with
  |none=>rw[q] at h3;cases h3
  |some tb=>
    obtain⟨t,b⟩:=tb;rw[q] at h3;cases b with
    |false=>cases h3.1
    |true=>obtain⟨a',e1,_,r⟩:=h3;cases e1;exact⟨t,by rw[<- q];simp,r⟩
 have keep:∀{O:HD}{ρ:En}{σ:St}{H':Hp}{Z':Zc},Z'.H0=H->Z'.P=pz fs as 0->au K Z' [] O ρ σ H'->∀b o,H b=some o->b∉as->H' b=some o:=λe0 eP I b o e n=>I.keep b o (by rw[e0];exact e) (by rw[eP,p1];exact n);have sub:∀{O:HD}{ρ:En}{σ:St}{H':Hp}{Z':Zc},Z'.P=pz fs as 0->au K Z' [] O ρ σ H'->∀a∈as,a∈roots O:=λeP I a h=>by
  have:a∈(pz fs as 0).map (·.2):=by rw[p1];exact h
  obtain⟨p,hp,rfl⟩:=kN.mp this;exact aA.mpr (fY (I.par p (by rw[eP];exact hp)))
 refine⟨_,_,_,I0,hq,⟨λO ρ σ H' I h=>?_,λO ρ σ H' r v z h=>?_,λ_ _ _ _ _ h=>h.elim,λ_ _ _ _ _ h=>h.elim⟩⟩;have sb:∀a∈as++Ox,a∈av ⟨H,pz fs as 0,Ox⟩ O:=λa h=>by
  rcases g7.mp h with h|h
  exact hU _ (sub rfl I a h);exact g6 _ h
 exact kk _ _ h .a9 H' (keep rfl rfl I) ⟨p9,Paired.iM (fin rfl I) λ_ _ q=>q.aP sb⟩;cases r with
 |vw t=>
   obtain⟨I,a⟩:=z;have sb:∀a∈as++Ox,a∈av ⟨H,pz fs as 0,Ox⟩ O:=λa h=>by
    rcases g7.mp h with h|h
    exact hU _ (sub rfl I a h);exact g6 _ h
   exact kk _ _ h v H' (keep rfl rfl I) ⟨a.aP sb,Paired.iM (fin rfl I) λ_ _ q=>q.aP sb⟩
 |fr t=>
   obtain⟨b,rfl,I,hR,h0,hx⟩:=z;have sb:∀a∈b::(as++Ox),a∈av (Zc.ex ⟨H,pz fs as 0,Ox⟩ b) O:=λa h=>by
    rcases dh.mp h with h|h
    rw[h];exact g6 _ dq;rcases g7.mp h with h|h
    exact hU _ (sub rfl I a h);exact g6 _ (d3 _ h)
   exact kk _ _ h (.ref b) H' (keep rfl rfl I) ⟨b,rfl,h0,λhb=>(I.own b (sub rfl I b hb)).2.1 dq,hR.aP sb,Paired.iM (fin rfl I) λ_ _ q=>q.aP sb⟩
section
theorem Xf{st:Stmt}{N:qai}{fs:List Bool}{G:GT}(F:y_ K x qual st f fd)(S:aG N ps (aq st))(Vr:fs.length=ps.length)(dP:∀(bw:Value) (A:Around) (outer:List Env) (s:Shared) (H:Hp) (E:XK) (as Ox:qah),bb k (A.deeper (envOfC qual (aq st) s.heap.objs.size f bw))->∀ts q,ts.length=fs.length->G ts q ->
    ∃g,l_ (il gP P w K mg base N qual (aq st) f bw A outer s H E).yO ⟨H,pz fs as 0,Ox⟩ (bB st) g/\g {nx:=λρ=>q (jN fs ρ) (.vw .a9),rt:=λρ r=>q (jN fs ρ) r} (sP fs ts++List.replicate (N.length-ts.length) none)) :
  cU P w K mg base gP (k+1) f fd ps (sO K fs G):=by
 refine F.ok S (λvs H Q E h=>?_) (λbw A outer s H vs Q E hr h=>?_);obtain⟨ts,as,Ox,q,_,_,_,ha,_⟩:=h;rw[<- Vr];exact (eR ha).2.1;obtain⟨ts,as,Ox,q,nd,nx,ox,ha,hG,kk⟩:=h;have l1:=(eR ha).1;obtain⟨g,hg,hq⟩:=dP bw A outer s H E as Ox hr ts q l1 hG;exact⟨_,hg [],BL nd nx ox ha kk hq⟩
end
def cK(K:qaf)(n:Nat)(G:List T->(Rt->Prop)->Prop):Sp:=sO K (List.replicate n false) λts q=>G ts (q [])
section
variable{A:qah}
theorem fJ:∀{n:Nat}{ts:List T}{vs:qak},ts.length=n->ax K H A ts vs->dS K H A (List.replicate n false) [] ts vs
 |0,ts,vs,l,h=>by have e:ts=[]:=Sq.mp l;subst e;simp only[ax] at h;exact⟨rfl,rfl,h⟩
 |n+1,ts,vs,l,h=>by
  cases ts with
  |nil=>simp at l
  |cons t ts=>simp only[ax] at h;obtain⟨v,r,rfl,h1,h2⟩:=h;exact⟨t,ts,v,r,rfl,rfl,h1,fJ (by simpa using l) h2⟩
end
theorem au.IX{Z:Zc}{tm:List (T×V)}{ρ:En}(I:au K Z tm O ρ σ H){a:Addr}(h:H a=none)(s:aF H H'){u:HO}(hu:H' a=some u):au K (Z.ex a) tm O ρ σ H':=by
 have J:=I.same s;obtain⟨n1,n2,n3⟩:=I.fresh h;have mr:∀b∈av (Z.ex a) O,b∈av Z O\/H b=none:=λb hb=>(cp b hb).imp id λe=>by rw[e];exact h
 have fw:∀{t:T}{v:V},At K H (av Z O) t v->At K H' (av (Z.ex a) O) t v:=λq=>(q.more mr).same s;refine⟨J.lσ,J.lO,λi e hi=>?_,J.nd,λb hb=>?_,J.par,λb hb=>?_,J.keep,λp hp=>fw (I.iH p hp)⟩;obtain⟨o,w,h1,h2,h3⟩:=I.sl i e hi;refine⟨o,w,h1,h2,h3.map (λ_ _ q=>fw q) λb t eo q=>?_⟩;exact b_.same (q.map rfl λ_ _ z=>z.more mr) s;obtain⟨q1,q2,q3⟩:=J.own b hb;refine⟨q1,λz=>?_,q3⟩;rcases dh.mp z with z|z
 exact n1 (by rw[<- z];exact hU _ hb);exact q2 z;rcases dh.mp hb with z|z
 rw[z,hu];simp;exact J.ox b z
def gu(n:Nat)(g:FA)(G:List T->(Rt->Prop)->Prop):FP:=λρ Q=>g ρ λts=>ts.length=n/\G ts Q
section
variable{X:Cx}{Z:Zc}{G:List T->(Rt->Prop)->Prop}{g:FA}
theorem xA{tm:List (T×V)}{ρ:En}{ts:List T}{q:Rt->Prop}{Q:VK}(I:au X.K Z tm O ρ σ H)(a:ax X.K H (av Z O) ts vs)(hn:ts.length=n)(hG:G ts q)(k:∀r,q r->∀v H',aF H H'->f7 X.K Z tm O ρ σ H' r v->Q v H'):cK X.K n G (vs++[]) H Q E0:=by
 rw[Ew];refine⟨ts,[],av Z O,λ_ r=>q r,E1,λ_ z=>absurd z fm,I.FR,fJ hn a,hG,λus r hr v H' fr z=>?_⟩;have s:aF H H':=λb o e=>fr b o e fm;cases r with
 |vw t=>exact k _ hr v H' s ⟨I.same s,z.1⟩
 |fr t=>
  obtain⟨b,rfl,hb,_,hR,_⟩:=z;obtain⟨n1,n2,n3⟩:=I.fresh hb;obtain⟨u,eu,_⟩:=hR.mut;refine k _ hr _ H' s ⟨b,rfl,I.IX hb s eu,hR.aP λc hc=>?_,n3,n2⟩;rcases cp c hc with z|z
  exact d3 _ z;rw[z];exact dq
theorem xB(F:cU X.prog X.w X.K X.mg X.base gP k f fd ps (cK X.K n G))(hr:bb k X.A)(hg:Gl X x)(hm:X.mg x=some (.ref f))(hk:PySem.W.keepIn X.K (.ref f)=true)(hb:Binds X.K fd ps [])(ha:VA X Z (e::es) g)(nP:eG x:=by decide)(he:starEach (e::es) X.env=(false,eval e X.env)::starEach es X.env:=by rfl)(ku:(backTo pos (starEach es X.env)).any (·.1)=false:=by rfl) :
  VP X Z (.Call (.Name x p) (e::es) [] pos) (gu n g G):=.mk λtm=>PE.weak (gO F hr hg hm hk hb .nil kz (ha tm) nP he ku) λσ H Q ⟨ρ,O,q,I,hf,k⟩ =>
 ⟨ρ,O,_,I,hf,λts d5 vs H1 s1 a1=>xA (I.same s1) a1 d5.1 d5.2 λr hr v H' s z=>k r hr v H' (s1.trans s) z⟩
end
def AM(K:qaf)(H:Hp)(A:qah)(O:HD)(ρ:En):List (Option Nat)->List T->qak->Prop
 |[],ts,vs=>ts=[]/\vs=[]
 |none::ms,ts,vs=>∃t eA v hY,ts=t::eA/\vs=v::hY/\At K H A t v/\AM K H A O ρ ms eA hY
 |some k::ms,ts,vs=>∃a t eA hY,ts=t::eA/\vs=.ref a::hY/\ρ[k]?=some (some (t,true))/\O[k]?=some (some a)/\AM K H A O ρ ms eA hY
noncomputable def Xg(X:Cx)(Z:Zc)(tm:List (T×V))(ms:List (Option Nat))(f:FA):TA:=λσ H Q=>∃ρ O q,au X.K Z tm O ρ σ H/\f ρ q/\∀ts,q ts->∀vs H',aF H H'->AM X.K H' (av Z O) O ρ ms ts vs->Q vs H'
def LA(X:Cx)(Z:Zc)(es:qap)(ms:List (Option Nat))(f:FA):Prop:=Bx λtm=>PA X es (Xg X Z tm ms f)
instance{X:Cx}{Z:Zc}{es:qap}{ms:List (Option Nat)}{f:FA}:CoeFun (LA X Z es ms f) λ_=>∀tm,PA X es (Xg X Z tm ms f):=⟨λh=>Bx.h h⟩
def BM(i:Nat):FE:=λρ Q=>match ρ[i]? with
 |some (some (t,true))=>Q t
 |_=>False
section
variable{X:Cx}{Z:Zc}{g:FA}
theorem Gf:LA X Z [] [] jI:=.mk λtm=>PA.weak cF λσ H Q ⟨ρ,O,q,I,hf,k⟩=>k _ hf [] H (aF.refl H) ⟨rfl,rfl⟩
theorem BO{ms:List (Option Nat)}{f:FE}(h:VE X Z e f)(h':LA X Z es ms g)(hs:starEach (e::es) X.env=(false,eval e X.env)::starEach es X.env:=by rfl):LA X Z (e::es) (none::ms) (bM f g) :=
 .mk λtm=>PA.weak (a8 (h tm) (h' tm) hs) λσ H Q ⟨ρ,O,q,I,hf,k⟩=>⟨ρ,O,_,I,hf,λt ht v H1 s1 a1=>⟨ρ,O,_,I.same s1,ht,λts d5 vs H2 s2 a2=>k _ d5 _ H2 (s1.trans s2) ⟨t,ts,v,vs,rfl,rfl,a1.same s2,a2⟩⟩⟩
theorem xD(j:Nat){ms:List (Option Nat)}{py:Pos}(h':LA X Z es ms g)(hN:X.N[j]?=some y:=by rfl)(hv:ko X.env.scope y:=by first|exact Or.inl rfl|exact Or.inr (Or.inl rfl)|exact Or.inr (Or.inr rfl))(hd:eG y:=by decide)(eI:nJ y:=by decide)(hs:starEach (.Name y py::es) X.env=(false,eval (.Name y py) X.env)::starEach es X.env:=by rfl):LA X Z (.Name y py::es) (some j::ms) (bM (BM j) g) :=
 .mk λtm=>PA.weak (a8 (bD hN hv hd eI) (h' tm) hs) λσ H Q ⟨ρ,O,q,I,hf,k⟩=>by
  have Ti:BM j ρ λt=>g ρ λts=>q (t::ts):=hf;unfold BM at Ti;split at Ti
  rename_i t e0
  obtain⟨a,h1,h2,h3⟩:=I.root e0;exact⟨.ref a,h2,ρ,O,_,I,Ti,λts d5 vs H2 s2 a2=>k _ d5 _ H2 s2 ⟨a,t,ts,vs,rfl,rfl,e0,h1,a2⟩⟩;exact Ti.elim
end
noncomputable def putK:qao->List T->En->En
 |k::ks,u::us,ρ=>putK ks us (ρ.set k (some (u,true)))
 |_,_,ρ=>ρ
theorem me:∀(ks:qao)(us:List T)(ρ:En),(putK ks us ρ).length=ρ.length
 |[],_,_=>rfl
 |_::_,[],_=>rfl
 |k::ks,u::us,ρ=>by rw[putK,me];simp
theorem sQ:∀{ks:qao}{us:List T}{ρ:En}{i:Nat}{e:Option (T×Bool)},ks.Nodup->ks.length=us.length->(putK ks us ρ)[i]?=some e->(i∉ks/\ρ[i]?=some e)\/∃(j:Nat)(u:T),ks[j]?=some i/\us[j]?=some u/\e=some (u,true)
 |[],us,ρ,i,e,_,_,h=>.inl ⟨fm,h⟩
 |k::ks,[],ρ,i,e,_,l,h=>by simp at l
 |k::ks,u::us,ρ,i,e,nd,l,h=>by
  rw[lC] at nd;rcases sQ nd.2 (by simpa using l) (show (putK ks us (ρ.set k (some (u,true))))[i]?=some e from h) with⟨h1,h2⟩|⟨j,u',h1,h2,h3⟩
  rcases get_set h2 with⟨rfl,rfl,_⟩|⟨ne,h2⟩
  exact .inr ⟨0,u,rfl,rfl,rfl⟩;exact .inl ⟨λz=>by rcases dh.mp z with z|z;exact ne z;exact h1 z,h2⟩;exact .inr ⟨j+1,u',by simpa using h1,by simpa using h2,h3⟩
section
variable{A:qah}
theorem At.LB{as:qah}{t:T}(fr:∀b o,H b=some o->b∉as->H' b=some o)(sub:∀a∈as,a∈A)(mu:∀a∈as,∃u,H a=some u/\kR u=true)(h:At K H A t v):At K H' A t v:=by
 refine At.map (λb vs q=>?_) (λb vs q=>?_) (λb kvs q=>?_) h;obtain q|q:=q
 refine .inl ⟨?_,q.2⟩;have nb:b∉as:=λz=>q.2 (sub b z);obtain z|⟨o',z⟩:=q.1
 exact .inl (fr _ _ z nb);exact .inr ⟨o',fr _ _ z nb⟩;exact .inr q;obtain z|z:=q
 refine .inl ?_;have nb:b∉as:=λm=>by
  obtain⟨u,eu,mu⟩:=mu b m;obtain z|⟨o',z⟩:=z
  rw[z] at eu;cases eu;cases mu;rw[z] at eu;cases eu;cases mu
 obtain z|⟨o',z⟩:=z
 exact .inl (fr _ _ z nb);exact .inr ⟨o',fr _ _ z nb⟩;exact .inr z;exact⟨fr _ _ q.1 λz=>q.2 (sub b z),q.2⟩
theorem AM.args{A':qah}{O:HD}{ρ:En}(sub:∀a∈A',a∈A)(hr:∀(k:Nat) t,ρ[k]?=some (some (t,true))->∃a,O[k]?=some (some a)/\b_ K H A a t):∀{ms:List (Option Nat)}{ts:List T}{vs:qak},AM K H A O ρ ms ts vs ->
  ∃as,dS K H A' (ms.map Option.isSome) as ts vs/\Paired (λa k=>O[k]?=some (some a)) as (ms.filterMap id)
 |[],ts,vs,h=>⟨[],⟨rfl,h.1,h.2⟩,.nil⟩
 |none::ms,ts,vs,h=>by obtain⟨t,eA,v,hY,rfl,rfl,a,h⟩:=h;obtain⟨as,h1,h2⟩:=AM.args sub hr h;exact⟨as,⟨t,eA,v,hY,rfl,rfl,a.aP sub,h1⟩,h2⟩
 |some k::ms,ts,vs,h=>by obtain⟨a,t,eA,hY,rfl,rfl,e0,e1,h⟩:=h;obtain⟨as,h1,h2⟩:=AM.args sub hr h;obtain⟨a',e2,r⟩:=hr k t e0;rw[e1] at e2;cases e2;exact⟨a::as,⟨a,as,t,eA,hY,rfl,rfl,rfl,r.aP sub,h1⟩,.cons e1 h2⟩
end
noncomputable def LC(ms:List (Option Nat))(g:FA)(G:GT):FX:=λρ Q=>g ρ λts=>G ts λus r=>Q (putK (ms.filterMap id) us ρ) r
section
variable{X:Cx}{Z:Zc}{fs:List Bool}{G:GT}{g:FA}{ms:List (Option Nat)}
theorem sR{tm:List (T×V)}{ρ:En}(I:au K Z tm O ρ σ H){a:Addr}(h1:O[i]?=some (some a))(h2:O[j]?=some (some a)):i=j:=by
 have key:∀(O:HD)(i j:Nat),i<j->O[i]?=some (some a)->O[j]?=some (some a)->(roots O).Nodup->False:=by
  intro O;induction O with
  |nil=>intro i j _ h;simp at h
  |cons o O ih=>
   intro i j xr e1 e2 nd;cases j with
   |zero=>omega
   |succ j=>
    have zf:O[j]?=some (some a):=by simpa using e2
    cases i with
    |zero=>
     have:o=some a:=by simpa using e1
     subst this;simp only[roots,k8,id] at nd;exact (lC.mp nd).1 (aA.mpr (fY zf))
    |succ i=>
     refine ih i j (by omega) (by simpa using e1) zf ?_;cases o with
     |none=>simpa[roots] using nd
     |some b=>simp only[roots,k8,id] at nd;exact (lC.mp nd).2
 rcases Nat.lt_trichotomy i j with l|l|l
 exact (key O i j l h1 h2 I.nd).elim;exact l;exact (key O j i l h2 h1 I.nd).elim
theorem dU{α β:Type}{F:α->β->Prop}:∀{l₁:List α}{l₂:List β}{a:α},Paired F l₁ l₂->a∈l₁->∃b∈l₂,F a b
 |_,_,_,.nil,h=>nomatch h
 |_,_,a,.cons r t,h=>by
  rcases dh.mp h with z|z
  subst z;exact⟨_,dq,r⟩;obtain⟨b,h1,h2⟩:=dU t z;exact⟨b,d3 _ h1,h2⟩
theorem mf{α β:Type}{F:α->β->Prop}:∀{l₁:List α}{l₂:List β}{i:Nat}{b:β},Paired F l₁ l₂->l₂[i]?=some b->∃a,l₁[i]?=some a/\F a b
 |_,_,_,_,.nil,e=>by simp at e
 |_,_,0,_,.cons r _,e=>by simp at e;subst e;exact⟨_,rfl,r⟩
 |_,_,i+1,b,.cons _ t,e=>by obtain⟨a,h1,h2⟩:=mf (i:=i) (b:=b) t (by simpa using e);exact⟨a,by simpa using h1,h2⟩
theorem dj{α β:Type}{F:α->β->Prop}:∀{l₁:List α}{l₂:List β}{i:Nat}{a:α},Paired F l₁ l₂->l₁[i]?=some a->∃b,l₂[i]?=some b/\F a b
 |_,_,_,_,.nil,e=>by simp at e
 |_,_,0,_,.cons r _,e=>by simp at e;subst e;exact⟨_,rfl,r⟩
 |_,_,i+1,b,.cons _ t,e=>by obtain⟨a,h1,h2⟩:=dj (i:=i) (a:=b) t (by simpa using e);exact⟨a,by simpa using h1,h2⟩
theorem au.called{Z':Zc}{tm:List (T×V)}{ρ:En}{as:qah}{ks:qao}{us:List T}(I:au K Z tm O ρ σ H)(hk:Paired (λa k=>O[k]?=some (some a)) as ks)(nk:ks.Nodup)(fr:∀b o,H b=some o->b∉as->H' b=some o)(hu:Paired (λa u=>b_ K H' (av Z' O) a u) as us)(hZ:Z'.H0=Z.H0)(hP:Z'.P=Z.P)(Xh:∀a∈Z'.Ox,a∉roots O/\H' a≠none)(more:∀a∈av Z' O,a∈av Z O\/H a=none):au K Z' tm O (putK ks us ρ) σ H':=by
 have vJ:∀a∈as,a∈roots O:=λa h=>by obtain⟨k,_,e⟩:=dU hk h;exact aA.mpr (fY e)
 have sub:∀a∈as,a∈av Z O:=λa h=>hU _ (vJ a h);have Vs:∀a∈as,a∈av Z' O:=λa h=>hU _ (vJ a h);have mu:∀a∈as,∃u,H a=some u/\kR u=true:=λa h=>(I.own a (vJ a h)).2.2;have fw:∀{t:T}{v:V},At K H (av Z O) t v->At K H' (av Z' O) t v:=λq=>(q.more more).LB fr Vs mu;have Tj:∀{t:List T}{v:qak},ax K H (av Z O) t v->ax K H' (av Z' O) t v:=λq=>ax.iff.mpr (Paired.iM (ax.iff.mp q) λ_ _ z=>fw z);refine⟨by rw[me];exact I.lσ,by rw[me];exact I.lO,λi e h=>?_,I.nd,λb hb=>?_,by rw[hP];exact I.par,λa ha=>(Xh a ha).2,λb o e n=>?_,λp hp=>fw (I.iH p hp)⟩;rcases sQ nk (by rw[<- Ih hk,Ih hu]) h with⟨h1,h2⟩|⟨j,u,h1,h2,rfl⟩
 obtain⟨o,s,g1,g2,g3⟩:=I.sl i e h2;refine⟨o,s,g1,g2,g3.map (λ_ _ q=>fw q) λb t eo q=>?_⟩;subst eo;have nb:b∉as:=λm=>by obtain⟨k,vK,LD⟩:=dU hk m;exact h1 (by rw[sR I g1 LD];exact vK)
 obtain⟨u,eu,_⟩:=q.mut;exact q.map (by rw[eu];exact fr _ _ eu nb) λ_ _ z=>Tj z;obtain⟨a,ha,r⟩:=mf hu h2;obtain⟨k,vK,LD⟩:=dj hk ha;rw[h1] at vK;cases vK;have hl:i<ρ.length:=by rw[<- I.lO];exact (dJ.mp LD).1
 obtain⟨o,s,g1,g2,g3⟩:=I.sl i ρ[i] (by simp);rw[LD] at g1;cases g1;refine⟨some a,s,LD,g2,a,rfl,?_,r⟩;cases q:ρ[i] with
 |none=>rw[q] at g3;cases g3
 |some tb=>
  obtain⟨t,b⟩:=tb;rw[q] at g3;cases b with
  |false=>cases g3.1
  |true=>obtain⟨a',e1,e2,_⟩:=g3;cases e1;exact e2
 obtain⟨q1,q2,v,e,m⟩:=I.own b hb;refine⟨by rw[hZ,hP];exact q1,λz=>(Xh b z).1 hb,?_⟩;by_cases Xi:b∈as;obtain⟨j,hj⟩:=Ic.mp Xi;obtain⟨u,_,r⟩:=dj hu hj;exact r.mut;exact⟨v,fr _ _ e Xi,m⟩;rw[hZ] at e;rw[hP] at n;refine fr _ _ (I.keep b o e n) λm=>?_;rcases (I.own b (vJ b m)).1 with z|z
 exact n z;rw[z] at e;cases e
theorem BP(F:cU X.prog X.w X.K X.mg X.base gP k f fd ps (sO X.K fs G))(hr:bb k X.A)(hg:Gl X x)(hm:X.mg x=some (.ref f))(hk:PySem.W.keepIn X.K (.ref f)=true)(hb:Binds X.K fd ps [])(ha:LA X Z (e::es) ms g)(Vr:ms.map Option.isSome=fs:=by rfl)(Vt:(ms.filterMap id).Nodup:=by decide)(nP:eG x:=by decide)(he:starEach (e::es) X.env=(false,eval e X.env)::starEach es X.env:=by rfl)(ku:(backTo pos (starEach es X.env)).any (·.1)=false:=by rfl) :
  VX X Z (.Call (.Name x p) (e::es) [] pos) (LC ms g G):=.mk λtm=>PE.weak (gO F hr hg hm hk hb .nil kz (ha tm) nP he ku) λσ H Q ⟨ρ,O,q,I,hf,k⟩ =>
 ⟨ρ,O,_,I,hf,λts d5 vs H1 s1 a1=>by
   subst Vr;show sO X.K _ G (vs++[]) H1 Q E0;rw[Ew];have J:=I.same s1;obtain⟨as,h1,h2⟩:=AM.args (A':=av Z O) (λ_ z=>z) (λk t e=>by obtain⟨a,q1,q2,q3⟩:=J.root e;exact⟨a,q1,q3⟩) a1;have vJ:∀a∈as,a∈roots O:=λa h=>by obtain⟨k,_,e⟩:=dU h2 h;exact aA.mpr (fY e)
   have Y4:as.Nodup:=by
    clear h1;have:∀{as:qah}{ks:qao},ks.Nodup->Paired (λa k=>O[k]?=some (some a)) as ks->as.Nodup:=by
     intro as ks nd h;induction h with
     |nil=>exact E1
     |cons r t ih=>rw[lC] at nd ⊢;refine⟨λm=>?_,ih nd.2⟩;obtain⟨k',m1,m2⟩:=dU t m;exact nd.1 (by rw[sR J r m2];exact m1)
    exact this Vt h2
   have Tn:∀b,b∈as++(av Z O).filter (λb=>decide (b∉as))↔b∈av Z O:=λb=>by rw[g7,sf];constructor;rintro (z|z);exact hU _ (vJ b z);exact z.1;intro z;by_cases hb:b∈as;exact .inl hb;exact .inr ⟨z,decide_eq_true hb⟩
   obtain⟨oU,EI,EJ⟩:=AM.args (A':=as++(av Z O).filter (λb=>decide (b∉as))) (λb z=>(Tn b).mp z) (λk t e=>by obtain⟨a,q1,q2,q3⟩:=J.root e;exact⟨a,q1,q3⟩) a1;have ee:oU=as:=by
    have:∀{as oU:qah}{ks:qao},Paired (λa k=>O[k]?=some (some a)) as ks->Paired (λa k=>O[k]?=some (some a)) oU ks->oU=as:=by
     intro as oU ks h h';induction h generalizing oU with
     |nil=>cases h';rfl
     |cons r t ih=>
       cases h' with
       |cons r' t'=>rw[r] at r';cases r';rw[ih t']
    exact this h2 EJ
   subst ee;refine⟨ts,oU,(av Z O).filter (λb=>decide (b∉oU)),_,Y4,λa h z=>?_,λa h=>J.FR a (sf.mp h).1,EI,d5,λus r hr v H' fr z=>?_⟩;exact (of_decide_eq_true (sf.mp z).2) h;have Qf:∀a∈Z.Ox,a∉roots O/\H' a≠none:=λa h=>by
    have na:a∉roots O:=λm=>(J.own a m).2.1 h;refine⟨na,?_⟩;cases e:H1 a with
    |none=>exact absurd e (J.ox a h)
    |some u=>rw[fr _ _ e λm=>na (vJ a m)];simp
   cases r with
   |vw t=>obtain⟨z1,z2⟩:=z;exact k _ _ hr O v H' ⟨J.called h2 Vt fr (Paired.iM z2 λ_ _ q=>q.aP λb hb=>(Tn b).mpr hb) rfl rfl Qf λa h=>.inl h,z1.aP λb hb=>(Tn b).mpr hb⟩
   |fr t=>
     obtain⟨b,rfl,hb,nb,hR,z2⟩:=z;obtain⟨n1,n2,n3⟩:=J.fresh hb;have sb:∀c∈av (Z.ex b) O,c∈b::(oU++(av Z O).filter (λb=>decide (b∉oU))):=λc hc=>by
      rcases cp c hc with z|z
      exact d3 _ ((Tn c).mpr z);rw[z];exact dq
     refine k _ _ hr O _ H' ⟨b,rfl,J.called h2 Vt fr (Paired.iM z2 λ_ _ q=>q.aP sb) rfl rfl (λa h=>?_) (λa h=>(cp a h).imp id λe=>by rw[e];exact hb),hR.aP sb,n3,n2⟩;rcases dh.mp h with z|z
     subst z;obtain⟨u,eu,_⟩:=hR.mut;exact⟨λm=>n1 (hU _ m),by rw[eu];simp⟩;exact Qf a z⟩
end
section
variable(K:qaf)
theorem sS:PySem.W.kitOne K (.type "int") (.type "int")=some true:=by kernel_rfl
theorem qh:PySem.W.kitOne K (.type "int") (.type "bool")=some false:=by kernel_rfl
theorem sT:PySem.W.kitOne K (.type "int") (.type "str")=some false:=by kernel_rfl
theorem qi:PySem.W.kitOne K (.type "int") (.type "list")=some false:=by kernel_rfl
theorem nX:PySem.W.kitOne K (.type "int") (.type "tuple")=some false:=by kernel_rfl
theorem qj:PySem.W.kitOne K (.type "bool") (.type "int")=some true:=by kernel_rfl
theorem nY:PySem.W.kitOne K (.type "bool") (.type "bool")=some true:=by kernel_rfl
theorem qk:PySem.W.kitOne K (.type "bool") (.type "str")=some false:=by kernel_rfl
theorem nZ:PySem.W.kitOne K (.type "bool") (.type "list")=some false:=by kernel_rfl
theorem mh:PySem.W.kitOne K (.type "bool") (.type "tuple")=some false:=by kernel_rfl
theorem sU:PySem.W.kitOne K (.type "str") (.type "int")=some false:=by kernel_rfl
theorem ql:PySem.W.kitOne K (.type "str") (.type "bool")=some false:=by kernel_rfl
theorem sV:PySem.W.kitOne K (.type "str") (.type "str")=some true:=by kernel_rfl
theorem qm:PySem.W.kitOne K (.type "str") (.type "list")=some false:=by kernel_rfl
theorem n5:PySem.W.kitOne K (.type "str") (.type "tuple")=some false:=by kernel_rfl
theorem qo:PySem.W.kitOne K (.type "list") (.type "int")=some false:=by kernel_rfl
theorem n6:PySem.W.kitOne K (.type "list") (.type "bool")=some false:=by kernel_rfl
theorem qp:PySem.W.kitOne K (.type "list") (.type "str")=some false:=by kernel_rfl
theorem n9:PySem.W.kitOne K (.type "list") (.type "list")=some true:=by kernel_rfl
theorem mi:PySem.W.kitOne K (.type "list") (.type "tuple")=some false:=by kernel_rfl
theorem n_:PySem.W.kitOne K (.type "tuple") (.type "int")=some false:=by kernel_rfl
theorem mj:PySem.W.kitOne K (.type "tuple") (.type "bool")=some false:=by kernel_rfl
theorem og:PySem.W.kitOne K (.type "tuple") (.type "str")=some false:=by kernel_rfl
theorem mm:PySem.W.kitOne K (.type "tuple") (.type "list")=some false:=by kernel_rfl
theorem kS:PySem.W.kitOne K (.type "tuple") (.type "tuple")=some true:=by kernel_rfl
theorem qq:PySem.W.kitOne K (.type "dict") (.type "int")=some false:=by kernel_rfl
theorem oh:PySem.W.kitOne K (.type "dict") (.type "bool")=some false:=by kernel_rfl
theorem qr:PySem.W.kitOne K (.type "dict") (.type "str")=some false:=by kernel_rfl
theorem oj:PySem.W.kitOne K (.type "dict") (.type "list")=some false:=by kernel_rfl
theorem mn:PySem.W.kitOne K (.type "dict") (.type "tuple")=some false:=by kernel_rfl
theorem jP:PySem.W.kitOne K (.type "NoneType") (.type "int")=some false:=by kernel_rfl
theorem i0:PySem.W.kitOne K (.type "NoneType") (.type "bool")=some false:=by kernel_rfl
theorem jQ:PySem.W.kitOne K (.type "NoneType") (.type "str")=some false:=by kernel_rfl
theorem i4:PySem.W.kitOne K (.type "NoneType") (.type "list")=some false:=by kernel_rfl
theorem iu:PySem.W.kitOne K (.type "NoneType") (.type "tuple")=some false:=by kernel_rfl
end
def Xj(K:qaf)(H:Hp):V->String->Prop
 |.a9,t=>t="NoneType"
 |.bl _,t=>t="bool"
 |.int _,t=>t="int"
 |.str _,t=>t="str"
 |.ref a,t=>(t="list"/\∃xs,fq K H a xs)\/(t="tuple"/\∃xs,dy K H a xs)\/(t="dict"/\∃kvs,H a=some (.dK kvs))
 |_,_=>False
def Qg(K:qaf):qak->Hp->VK->Prop:=λxs H Q=>∃x n t b,xs=[x,.ty n]/\Xj K H x t/\PySem.W.kitOne K (.type t) (.type n)=some b/\Q (.bl b) H
theorem zu{X:Cx}:cL X (.builtin "isinstance") (Qg X.K):=by
 intro pins s σ H xs us Q I r h;obtain⟨x,n,t,b,rfl,ty,e,q⟩:=h;obtain⟨u,w',rfl,rx,ry⟩:=vals2 r;obtain rfl:w'=Value.type n:=ry;have fin:∀tk,EP X pins σ Q (.bool b) {s with toks:=tk}:=λtk=>⟨.bl b,H,I.tok _,rfl,q⟩;cases x with
 |a9=>cases (show t=_ from ty);cases (show u=Value.none from rx);exact JO PySem.W.kitx_none I.r8 True.intro e (λz=>nomatch z) fin
 |bl y=>cases (show t=_ from ty);cases (show u=Value.bool y from rx);exact JO PySem.W.kitx_bool I.r8 True.intro e (λz=>nomatch z) fin
 |int i=>cases (show t=_ from ty);obtain⟨t,q⟩:=(show ∃t,u=Value.int i t from rx);cases q;exact JO PySem.W.kitx_int I.r8 True.intro e (λz=>nomatch z) fin
 |str y=>cases (show t=_ from ty);obtain⟨t,q⟩:=(show ∃t,u=Value.str y t from rx);cases q;exact JO PySem.W.kitx_str I.r8 True.intro e (λz=>nomatch z) fin
 |ref a=>
  cases (show u=Value.ref a from rx);obtain⟨rfl,xs,hq⟩|⟨rfl,xs,hq⟩|⟨rfl,kvs,hq⟩:=ty
  obtain⟨aH,_,p,_⟩:=I.list hq;obtain⟨o,n',h1,h2,_⟩:=p;exact JO PySem.W.kitx_list I.r8 ⟨o,h1,h2⟩ e (λz=>nomatch z) fin;obtain⟨aH,_,p,_⟩:=I.tuple hq;obtain⟨o,h1,h2,_⟩:=p;exact JO PySem.W.kitx_tuple I.r8 ⟨o,h1,h2⟩ e (λz=>nomatch z) fin;obtain⟨_,_,vs,_,p⟩:=(show bh X.prog X.w H s.heap a (.dK kvs) from I.ba a _ hq);obtain⟨o,es,ep,h1,h2,_⟩:=p;exact JO PySem.W.kitx_dict I.r8 ⟨o,h1,h2.1⟩ e (λz=>nomatch z) fin
 |_=>exact (show False from ty).elim
def isInt:T->Bool
 |.int _=>true
 |.bl _=>true
 |_=>false
def isBool:T->Bool
 |.bl _=>true
 |_=>false
def isStr:T->Bool
 |.str _=>true
 |_=>false
def isList:T->Bool
 |.lst _=>true
 |_=>false
def Gh:T->Bool
 |.tup _=>true
 |_=>false
noncomputable def known:T->Bool
 |.dt _ _=>false
 |.df _ _ _=>false
 |.dz _ _ _=>false
 |.dc _ _ _=>false
 |.kt _=>false
 |.ins _ _ _=>false
 |.pin _ _=>false
 |.ob _=>false
 |.ty _=>false
 |_=>true
def jR(K:qaf)(n:String)(p:T->Bool):Prop:=∀H A t v,known t=true->d4 K H A t v->∃ty,Xj K H v ty/\PySem.W.kitOne K (.type ty) (.type n)=some (p t)
theorem sW:jR K "int" isInt:=by
 intro H A t v hk h;cases t with
 |a9=>rw[h.a9];exact⟨_,rfl,jP K⟩
 |bl b=>rw[h.bl];exact⟨_,rfl,qj K⟩
 |int b=>rw[h.int];exact⟨_,rfl,sS K⟩
 |str b=>rw[h.str];exact⟨_,rfl,sU K⟩
 |tup l=>obtain⟨a,vs,rfl,q,_⟩:=h.tup;exact⟨_,.inr (.inl ⟨rfl,_,q⟩),n_ K⟩
 |lst l=>obtain⟨a,vs,rfl,q,_⟩:=h.lst;exact⟨_,.inl ⟨rfl,_,q⟩,qo K⟩
 |dk ks l=>obtain⟨a,vs,rfl,_,q,_⟩:=h.dk;exact⟨_,.inr (.inr ⟨rfl,_,q⟩),qq K⟩
 |_=>simp only[known] at hk;cases hk
theorem zw:jR K "bool" isBool:=by
 intro H A t v hk h;cases t with
 |a9=>rw[h.a9];exact⟨_,rfl,i0 K⟩
 |bl b=>rw[h.bl];exact⟨_,rfl,nY K⟩
 |int b=>rw[h.int];exact⟨_,rfl,qh K⟩
 |str b=>rw[h.str];exact⟨_,rfl,ql K⟩
 |tup l=>obtain⟨a,vs,rfl,q,_⟩:=h.tup;exact⟨_,.inr (.inl ⟨rfl,_,q⟩),mj K⟩
 |lst l=>obtain⟨a,vs,rfl,q,_⟩:=h.lst;exact⟨_,.inl ⟨rfl,_,q⟩,n6 K⟩
 |dk ks l=>obtain⟨a,vs,rfl,_,q,_⟩:=h.dk;exact⟨_,.inr (.inr ⟨rfl,_,q⟩),oh K⟩
 |_=>simp only[known] at hk;cases hk
theorem dW:jR K "str" isStr:=by
 intro H A t v hk h;cases t with
 |a9=>rw[h.a9];exact⟨_,rfl,jQ K⟩
 |bl b=>rw[h.bl];exact⟨_,rfl,qk K⟩
 |int b=>rw[h.int];exact⟨_,rfl,sT K⟩
 |str b=>rw[h.str];exact⟨_,rfl,sV K⟩
 |tup l=>obtain⟨a,vs,rfl,q,_⟩:=h.tup;exact⟨_,.inr (.inl ⟨rfl,_,q⟩),og K⟩
 |lst l=>obtain⟨a,vs,rfl,q,_⟩:=h.lst;exact⟨_,.inl ⟨rfl,_,q⟩,qp K⟩
 |dk ks l=>obtain⟨a,vs,rfl,_,q,_⟩:=h.dk;exact⟨_,.inr (.inr ⟨rfl,_,q⟩),qr K⟩
 |_=>simp only[known] at hk;cases hk
theorem oV:jR K "list" isList:=by
 intro H A t v hk h;cases t with
 |a9=>rw[h.a9];exact⟨_,rfl,i4 K⟩
 |bl b=>rw[h.bl];exact⟨_,rfl,nZ K⟩
 |int b=>rw[h.int];exact⟨_,rfl,qi K⟩
 |str b=>rw[h.str];exact⟨_,rfl,qm K⟩
 |tup l=>obtain⟨a,vs,rfl,q,_⟩:=h.tup;exact⟨_,.inr (.inl ⟨rfl,_,q⟩),mm K⟩
 |lst l=>obtain⟨a,vs,rfl,q,_⟩:=h.lst;exact⟨_,.inl ⟨rfl,_,q⟩,n9 K⟩
 |dk ks l=>obtain⟨a,vs,rfl,_,q,_⟩:=h.dk;exact⟨_,.inr (.inr ⟨rfl,_,q⟩),oj K⟩
 |_=>simp only[known] at hk;cases hk
theorem mq:jR K "tuple" Gh:=by
 intro H A t v hk h;cases t with
 |a9=>rw[h.a9];exact⟨_,rfl,iu K⟩
 |bl b=>rw[h.bl];exact⟨_,rfl,mh K⟩
 |int b=>rw[h.int];exact⟨_,rfl,nX K⟩
 |str b=>rw[h.str];exact⟨_,rfl,n5 K⟩
 |tup l=>obtain⟨a,vs,rfl,q,_⟩:=h.tup;exact⟨_,.inr (.inl ⟨rfl,_,q⟩),kS K⟩
 |lst l=>obtain⟨a,vs,rfl,q,_⟩:=h.lst;exact⟨_,.inl ⟨rfl,_,q⟩,mi K⟩
 |dk ks l=>obtain⟨a,vs,rfl,_,q,_⟩:=h.dk;exact⟨_,.inr (.inr ⟨rfl,_,q⟩),mn K⟩
 |_=>simp only[known] at hk;cases hk
noncomputable def Qh(f:FE)(p:T->Bool):FP:=λρ Q=>f ρ λt=>known t=true/\Q (.vw (.bl (p t)))
section
variable{X:Cx}{Z:Zc}{a b:Expr}{fa fb To:FE}
theorem qt:bootBuiltins "isinstance"=some (.builtin "isinstance"):=by decide +kernel
theorem bZ{n:String}{q:T->Bool}(hq:jR X.K n q)(hg:Gl X "isinstance")(hm:X.mg "isinstance"=none)(Y5:Gl X y)(Y6:X.mg y=none)(Y7:bootBuiltins y=some (.type n))(ha:VR X Z e fa)(Y8:y≠"__name__":=by decide)(Y9:eG y:=by decide)(hs:starEach [e,.Name y p2] X.env=(false,eval e X.env)::starEach [.Name y p2] X.env:=by rfl)(yX:starEach [.Name y p2] X.env=(false,eval (.Name y p2) X.env)::starEach [] X.env:=by rfl)(ku:(backTo pos (starEach [.Name y p2] X.env)).any (·.1)=false:=by rfl) :
  VP X Z (.Call (.Name "isinstance" p) [e,.Name y p2] [] pos) (Qh fa q):=.mk λtm=>
 PE.weak (lM zu hg hm qt (a8 (ha tm) (a8 (E_ (v:=.ty n) Y5 Y6 Y7 rfl Y8 Y9) cF yX) hs) (by decide) (by decide) hs ku) λσ H Q ⟨ρ,O,q',I,hf,k⟩=>⟨ρ,O,_,I,hf,λt ht v H1 s1 a1=>by obtain⟨ty,h1,h2⟩:=hq H1 _ t v ht.1 a1;exact⟨v,n,ty,_,rfl,h1,h2,k _ ht.2 _ H1 s1 ⟨I.same s1,cX⟩⟩⟩
noncomputable def h_:T->Bool
 |.a9=>true
 |.bl _=>true
 |.int _=>true
 |.str _=>true
 |_=>false
noncomputable def sX:List T->Bool
 |[]=>true
 |t::ts=>h_ t && sX ts
noncomputable def LF(x:T):List T->Bool
 |[]=>false
 |t::ts=>eqT t x || LF x ts
theorem jS{K:qaf}{H:Hp}{A:qah}:∀{ts:List T}{vs:qak}{x:T}{v:V},sX ts=true->h_ x=true->ax K H A ts vs->At K H A x v->vs.all gq=true/\gq v=true/\SX v vs=LF x ts
 |[],vs,x,v,_,fx,h,hx=>by simp only[ax] at h;subst h;refine⟨rfl,?_,rfl⟩;cases x<;>simp only[At] at hx<;>first|(subst hx;rfl)|(simp only[h_] at fx;cases fx)
 |t::ts,vs,x,v,f,fx,h,hx=>by
  simp only[ax] at h;obtain⟨u,r,rfl,h1,h2⟩:=h;simp only[sX,gi] at f;obtain⟨i1,i2,i3⟩:=jS f.2 fx h2 hx;have ft:gq u=true:=by cases t<;>simp only[At] at h1<;>first|(subst h1;rfl)|(have:=f.1;simp only[h_] at this;cases this)
  have e:EF u v=eqT t x:=by
   cases t<;>simp only[At] at h1<;>first
    | (have:=f.1;simp only[h_] at this;cases this;done)
    | (subst h1
       cases x<;>simp only[At] at hx<;>first
        | (simp only[h_] at fx;cases fx;done)
        | (subst hx;simp[EF,eqT];done))
  refine⟨by simp[ft,i1],i2,?_⟩;simp only[LF,SX,yI];rw[e]
  congr 1
noncomputable def Qi(K:qaf)(neg:Bool):R2:=λx y H Q=>W5 K neg x y H Q\/∃i j,x=.str i/\y=.str j/\Q (.bl (if neg then !(!(Builtin.Str.occurrences j i 0 j.length 1).isEmpty) else !(Builtin.Str.occurrences j i 0 j.length 1).isEmpty)) H
theorem BQ:dI X (compareOp .In) (Qi X.K false):=by
 intro pins s σ H x y v u Q I rx ry h;obtain h|⟨i,j,h1,h2,h⟩:=h
 exact y6 pins s σ H x y v u Q I rx ry h;exact yU pins s σ H x y v u Q I rx ry ⟨i,j,h1,h2,by simpa using h⟩
noncomputable def BR(i j:Str):Bool:=!(Builtin.Str.occurrences j i 0 j.length 1).isEmpty
def Tp(x y:T)(q:Rt->Prop):Prop:=match y with
 |.lst ts=>h_ x=true/\sX ts=true/\q (.vw (.bl (LF x ts)))
 |.tup ts=>h_ x=true/\sX ts=true/\q (.vw (.bl (LF x ts)))
 |.str j=>∃i,x=.str i/\q (.vw (.bl (BR i j)))
 |_=>False
theorem BU:lb K (Qi K false) Tp:=by
 intro Z tm O ρ σ H x y v w q Q I h1 h2 h k;have x1:h_ x=true->At K H (av Z O) x v:=λf=>by
  obtain h|⟨a,rfl,h⟩:=h1
  exact h;cases x<;>first|exact h.elim|(simp only[h_] at f;cases f)
 unfold Tp at h;split at h;obtain⟨f1,f2,h⟩:=h;obtain⟨a,vs,rfl,q1,q2⟩:=h2.lst;obtain⟨i1,i2,i3⟩:=jS f2 f1 q2 (x1 f1);exact .inl ⟨a,vs,rfl,.inl q1,i2,i1,k _ h _ H (aF.refl H) ⟨I,by rw[if_neg dO,i3];exact cX⟩⟩;obtain⟨f1,f2,h⟩:=h;obtain⟨a,vs,rfl,q1,q2⟩:=h2.tup;obtain⟨i1,i2,i3⟩:=jS f2 f1 q2 (x1 f1);exact .inl ⟨a,vs,rfl,.inr q1,i2,i1,k _ h _ H (aF.refl H) ⟨I,by rw[if_neg dO,i3];exact cX⟩⟩;obtain⟨i,rfl,h⟩:=h;exact .inr ⟨i,_,h1.str,h2.str,k _ h _ H (aF.refl H) ⟨I,by rw[if_neg dO];exact cX⟩⟩;exact h.elim
theorem Qj(ha:VR X Z a fa)(hb:VR X Z b fb)(hm:behindInMarks .In b=false:=by rfl):VP X Z (.Compare a [.In] [b] pos) (f2 fa fb Tp):=p_ BQ BU ha hb hm
theorem IY(ha:VR X Z a fa)(hb:VR X Z b fb)(hm:behindInMarks .In b=false:=by rfl):VC X Z (.Compare a [.In] [b] pos) (jG (f2 fa fb Tp)):=iq BQ BU ha hb hm
def sY:T->Bool
 |.a9=>true
 |_=>false
def Tq(x y:T)(q:Rt->Prop):Prop:=match y with
 |.a9=>q (.vw (.bl (sY x)))
 |_=>False
def qu(x y:T)(q:Rt->Prop):Prop:=match y with
 |.a9=>q (.vw (.bl (!sY x)))
 |_=>False
theorem xE{A:qah}{t:T}(h:d4 K H A t v):decide (v=.a9)=sY t:=by
 cases t with
 |a9=>rw[h.a9];rfl
 |bl b=>rw[h.bl];rfl
 |int b=>rw[h.int];rfl
 |str b=>rw[h.str];rfl
 |ob b=>rw[h.ob];rfl
 |ty b=>have:v=.ty b:=h.elim (λq=>by simpa only[At] using q) λ⟨_,_,q⟩=>q.elim;rw[this];rfl
 |tup l=>obtain⟨a,vs,rfl,_⟩:=h.tup;rfl
 |lst l=>obtain⟨a,vs,rfl,_⟩:=h.lst;rfl
 |dk ks l=>obtain⟨a,vs,rfl,_⟩:=h.dk;rfl
 |dt ks l=>obtain⟨a,vs,rfl,_⟩:=h.dt;rfl
 |df o ks l=>obtain⟨a,vs,rfl,_⟩:=h.df;rfl
 |dz o ks l=>obtain⟨a,vs,rfl,_⟩:=h.dz;rfl
 |dc nh ks l=>obtain⟨a,xs,vs,rfl,_⟩:=h.dc;rfl
 |kt k=>obtain⟨a,rfl,_⟩:=h.kt;rfl
 |ins C ns l=>obtain⟨a,dx,vs,rfl,_⟩:=h.ins;rfl
 |pin a t=>have e:v=.ref a:=h.elim (λq=>by simp only[At] at q;exact q.1) λ⟨_,_,q⟩=>q.elim;rw[e];rfl
theorem BV:lb K (λx y H Q=>y=.a9/\Q (.bl (decide (x=.a9))) H) Tq:=by intro Z tm O ρ σ H x y v w q Q I h1 h2 h k;unfold Tq at h;split at h;exact⟨h2.a9,k _ h _ H (aF.refl H) ⟨I,by rw[xE h1];exact cX⟩⟩;exact h.elim
theorem zx:lb K (λx y H Q=>y=.a9/\Q (.bl (!decide (x=.a9))) H) qu:=by intro Z tm O ρ σ H x y v w q Q I h1 h2 h k;unfold qu at h;split at h;exact⟨h2.a9,k _ h _ H (aF.refl H) ⟨I,by rw[xE h1];exact cX⟩⟩;exact h.elim
theorem Qk(ha:VR X Z a fa)(hb:VR X Z b fb):VP X Z (.Compare a [.Is] [b] pos) (f2 fa fb Tq):=p_ A9 BV ha hb (fA _)
theorem Ql(ha:VR X Z a fa)(hb:VR X Z b fb):VC X Z (.Compare a [.Is] [b] pos) (jG (f2 fa fb Tq)):=iq A9 BV ha hb (fA _)
theorem BW(ha:VR X Z a fa)(hb:VR X Z b fb):VC X Z (.Compare a [.IsNot] [b] pos) (jG (f2 fa fb qu)):=iq Fm zx ha hb (fA _)
theorem BX{g g':Int->Int->Bool}{tm:List (T×V)}{Q:VK}(h:lP X Z tm (f3 fa fb To (P4 g) (P4 g')) σ H Q):A_ (nH λi j=>.bl (g i j)) (nH λi j=>.bl (g' i j)) (lR X Z tm fa) (lR X Z tm fb) (lR X Z tm To) σ H Q:=by
 obtain⟨ρ,O,q,I,hf,k⟩:=h;refine⟨ρ,O,_,I,hf,λx hx v H1 s1 a1=>⟨ρ,O,_,I.same s1,hx,λy hy w H2 s2 a2=>?_⟩⟩;have J:=(I.same s1).same s2;unfold P4 at hy;split at hy
 rename_i i j
 refine⟨i,j,(a1.same s2).int,a2.int,_,rfl,?_⟩;cases e:g i j with
 |true=>
  rw[e] at hy;refine PC ⟨ρ,O,_,J,hy,λz hz w3 H3 s3 a3=>?_⟩;split at hz
  rename_i e1
  cases e1;exact⟨_,_,(a2.same s3).int,a3.int,k _ hz _ H3 ((s1.trans s2).trans s3) ⟨J.same s3,cX⟩⟩;exact hz.elim
 |false=>rw[e] at hy;exact PB (k _ hy _ H2 (s1.trans s2) ⟨J,cX⟩)
 exact hy.elim
theorem BY{op KA:CmpOp}{g g':Int->Int->Bool}(ho:dI X (compareOp op) (nH λi j=>.bl (g i j)))(lH:dI X (compareOp KA) (nH λi j=>.bl (g' i j)))(ha:VR X Z a fa)(hb:VR X Z b fb)(hc:VR X Z c To)(hm:lastMarks [op,KA] [b,c]=false:=by with_unfolding_all rfl):VC X Z (.Compare a [op,KA] [b,c] pos) (jG (f3 fa fb To (P4 g) (P4 g'))):=.mk λtm=>PT.weak (Ba ho lH (ha tm) (hb tm) (hc tm) hm) λσ H Q ⟨ρ,O,q,I,hf,k⟩ =>
 BX ⟨ρ,O,_,I,hf,λt ht u H' s a=>by obtain⟨c,rfl,hc⟩:=vC ht;have e:=a.2;simp only[At] at e;exact⟨c,e,k c hc H' s⟩⟩
def dX(ts:List T):List T:=ts.mapIdx λi t=>.tup [.int (i:Int),t]
def Qm(f:FE):FI:=λρ Q=>f ρ λt=>match t with
 |.lst ts=>Q (dX ts)
 |_=>False
theorem Gi{a:Addr}{ts:List T}:Wk K (U7 K a) [(.lst ts,.ref a)] (dX ts):=λH A hA h i=>by
 have h:=h _ dq;simp only[At] at h;obtain⟨b,vs,e,l,q⟩:=h;cases e;have hl:=q.length;have hle:(dX ts).length=ts.length:=by unfold dX;rw[List.length_mapIdx]
 rw[hle];refine⟨λhi=>⟨vs,vs[i]'(by omega),l.sq,by simp⟩,λhi=>⟨vs,l.sq,by omega⟩,λt ht x H' y=>?_⟩;obtain⟨p,u,hp,rfl,hu,rfl⟩:=y;unfold dX at ht;rw[Sz] at ht;cases e:ts[i]? with
 |none=>rw[e] at ht;cases ht
 |some t'=>rw[e] at ht;cases ht;obtain⟨v,e1,e2⟩:=q.get e;have:=hu vs l.sq;rw[e1] at this;cases this;exact⟨aB hp,cP (dy.of ay) (ax.cons aZ (ax.cons (e2.same (aB hp)) ax.nil))⟩
theorem i5{x1}(hg:Gl X "enumerate")(hm:X.mg "enumerate"=none)(ha:VE X Z a fa)(hs:starEach [a] X.env=[(false,eval a X.env)]:=by rfl) :
  VI X Z (.Tuple elts x1 tp) (.Call (.Name "enumerate" p) [a] [] pos) (Qm fa):=.mk λtm=>PI.weak (FN hg hm (a8 (ha tm) cF hs) hs) λσ H R ⟨ρ,O,q,I,hf,k⟩=>⟨ρ,O,_,I,hf,λt ht v H' s a=>by
 split at ht;have a0:=a;simp only[At] at a;obtain⟨p,vs,rfl,l,_⟩:=a;exact⟨p,rfl,⟨vs,l.sq⟩,k _ ht _ H' _ s (λp hp=>by rw[cT.mp hp];exact a0) Gi⟩;exact ht.elim⟩
noncomputable def cb:List T->Option (List Bool)
 |[]=>some []
 |.bl b::ts=>(cb ts).map (b::·)
 |_=>none
theorem BZ{K:qaf}{H:Hp}{A:qah}:∀{ts:List T}{bs:List Bool}{vs:qak},cb ts=some bs->ax K H A ts vs->vs=bs.map V.bl
 |[],bs,vs,e,h=>by simp only[cb] at e;cases e;simp only[ax] at h;rw[h];rfl
 |.bl b::ts,bs,vs,e,h=>by
  simp only[cb] at e;cases q:cb ts with
  |none=>rw[q] at e;cases e
  |some cs=>rw[q] at e;cases e;simp only[ax,At] at h;obtain⟨v,r,rfl,rfl,h⟩:=h;rw[BZ q h];rfl
 |.a9::_,_,_,e,_=>by simp[cb] at e
 |.int _::_,_,_,e,_=>by simp[cb] at e
 |.str _::_,_,_,e,_=>by simp[cb] at e
 |.tup _::_,_,_,e,_=>by simp[cb] at e
 |.lst _::_,_,_,e,_=>by simp[cb] at e
 |.dk _ _::_,_,_,e,_=>by simp[cb] at e
 |.dt _ _::_,_,_,e,_=>by simp[cb] at e
 |.df _ _ _::_,_,_,e,_=>by simp[cb] at e
 |.dz _ _ _::_,_,_,e,_=>by simp[cb] at e
 |.dc _ _ _::_,_,_,e,_=>by simp[cb] at e
 |.kt _::_,_,_,e,_=>by simp[cb] at e
 |.ins _ _ _::_,_,_,e,_=>by simp[cb] at e
 |.pin _ _::_,_,_,e,_=>by simp[cb] at e
 |.ob _::_,_,_,e,_=>by simp[cb] at e
 |.ty _::_,_,_,e,_=>by simp[cb] at e
def Qn(ts:List T)(q:Rt->Prop):Prop:=match ts with
 |[.lst l]=>∃bs,cb l=some bs/\q (.vw (.bl (bs.all id)))
 |_=>False
theorem zy:kD K (λxs H Q=>∃(p:Addr)(bs:List Bool),xs=[.ref p]/\fq K H p (bs.map V.bl)/\Q (.bl (bs.all id)) H) Qn:=by intro Z tm O ρ σ H ts vs q Q I h hp k;unfold Qn at hp;split at hp;obtain⟨bs,e,hp⟩:=hp;obtain⟨v,rfl,a⟩:=cz h;obtain⟨p,ws,rfl,q1,q2⟩:=a.lst;rw[BZ e q2] at q1;exact⟨p,bs,rfl,q1,k _ hp _ H (aF.refl H) ⟨I,cX⟩⟩;exact hp.elim
def IZ(ts:List T)(q:Rt->Prop):Prop:=match ts with
 |[.int i]=>q (.vw (.int i))
 |[.bl b]=>q (.vw (.int (if b then 1 else 0)))
 |_=>False
theorem mw:kD K (λxs H Q=>(∃i,xs=[.int i]/\Q (.int i) H)\/∃k,xs=[.bl k]/\Q (.int (if k then 1 else 0)) H) IZ:=by intro Z tm O ρ σ H ts vs q Q I h hp k;unfold IZ at hp;split at hp;obtain⟨v,rfl,a⟩:=cz h;exact .inl ⟨_,by rw[a.int],k _ hp _ H (aF.refl H) ⟨I,aZ⟩⟩;obtain⟨v,rfl,a⟩:=cz h;exact .inr ⟨_,by rw[a.bl],k _ hp _ H (aF.refl H) ⟨I,aZ⟩⟩;exact hp.elim
def Vu(f:FP)(fb:FE):FP:=λρ Q=>f ρ λr=>match r with
 |.fr (.lst ts)=>fb ρ λy=>match y with
  |.int k=>-(2 ^ 63)<=k/\k<2 ^ 63/\ts.length * k.toNat<=sizeLine/\Q (.fr (.lst (List.replicate k.toNat ts).flatten))
  |_=>False
 |_=>False
theorem ax.rep{K:qaf}{H:Hp}{A:qah}{ts:List T}{vs:qak}(h:ax K H A ts vs):∀k:Nat,ax K H A (List.replicate k ts).flatten (List.replicate k vs).flatten
 |0=>ax.nil
 |k+1=>by rw[AD,AD,JJ,JJ];exact h.append (ax.rep h k)
theorem qv{f:FP}(ha:VP X Z a f)(hb:VR X Z b fb):VP X Z (.BinOp a .Mult b pos) (Vu f fb):=.mk λtm=>PE.weak (Iz KW (ha tm) (hb tm)) λσ H Q ⟨ρ,O,q,I,hf,k⟩=>⟨ρ,O,_,I,hf,λr hr v H1 s1 z=>by split at hr;obtain⟨l,rfl,J,⟨xs,e,q1⟩,_⟩:=z;refine⟨ρ,O,_,I.same s1,hr,λy hy w H2 s2 a2=>?_⟩;split at hy;obtain⟨h1,h2,h3,hy⟩:=hy;have q2:ax X.K H2 (av Z O) _ xs:=(q1.same s2).aP eM;exact⟨l,_,xs,rfl,a2.int,s2 _ _ e,h1,h2,by rw[q2.length];exact h3,λp hp=>k _ hy _ _ ((s1.trans s2).trans (aB hp)) (((I.same s1).same s2).vB hp (q2.rep _))⟩;exact hy.elim;exact hr.elim⟩
end
structure Df(K:qaf)(mg:qae)(x:Str)(st:Stmt)(ps:qai)(f:Addr)(fd:FuncData):Prop where
 F:y_ K x x st f fd
 m:mg x=some (.ref f)
 b:Binds K fd ps []
def cJ(P:Program)(w:World)(K:qaf)(mg:qae)(base:Heap)(x:Str)(ps:qai)(k:Nat)(sp:Sp):Prop :=
 ∃f fd,mg x=some (.ref f)/\PySem.W.keepIn K (.ref f)=true/\Binds K fd ps []/\cU P w K mg base gP k f fd ps sp
theorem Df.iI{st:Stmt}{sp:Sp}(D:Df K mg x st ps f fd)(F:cU P w K mg base gP k f fd ps sp):cJ P w K mg base x ps k sp :=
 ⟨f,fd,D.m,D.F.kp,D.b,F⟩
theorem iw{Ox:qah}:aX ⟨H,[],Ox⟩ i:=λ_ z=>nomatch z
section
theorem lh{st:Stmt}{N:qai}{G:List T->(Rt->Prop)->Prop}(F:y_ K x qual st f fd)(S:aG N ps (aq st))(hn:n=ps.length)(dP:∀(bw:Value) (A:Around) (outer:List Env) (s:Shared) (H:Hp) (E:XK) (Ox:qah),bb k (A.deeper (envOfC qual (aq st) s.heap.objs.size f bw))->∀ts q,G ts q ->
    ∃g,l_ (il gP P w K mg base N qual (aq st) f bw A outer s H E).yO ⟨H,[],Ox⟩ (bB st) g/\(ts.length=n->g {nx:=λ_=>q (.vw .a9),rt:=λ_ r=>q r} (ts.map (λt=>some (t,false))++List.replicate (N.length-ts.length) none))) :
  cU P w K mg base gP (k+1) f fd ps (cK K n G):=by
 have hp:∀n (as:qah) k,pz (List.replicate n false) as k=[]:=by
  intro n;induction n with
  |zero=>intro as k;rfl
  |succ n ih=>intro as k;exact ih as (k+1)
 have Y_:∀n (ρ:En),jN (List.replicate n false) ρ=[]:=by
  intro n;induction n with
  |zero=>intro ρ;rfl
  |succ n ih=>intro ρ;exact ih ρ.tail
 have he:∀n (ts:List T),ts.length=n->sP (List.replicate n false) ts=ts.map λt=>some (t,false):=by
  intro n;induction n with
  |zero=>intro ts e;cases ts<;>simp_all [sP]
  |succ n ih=>
    intro ts e;cases ts with
    |nil=>simp at e
    |cons t ts=>rw[AD,sP,ih ts (by simpa using e)];rfl
 refine Xf F S (by rw[JF];exact hn) λbw A outer s H E as Ox hr ts q hl hG=>?_;rw[JF] at hl;obtain⟨g,h1,h2⟩:=dP bw A outer s H E Ox hr ts (q []) hG;refine⟨g,by rw[hp];exact h1,?_⟩;rw[he n ts hl];simp only[Y_];exact h2 hl
end
theorem bb.fK(r:bb k A):A.units+101<cLine:=by have:=r.un;omega
theorem vL:bootBuiltins "list"=some (.type "list"):=by decide +kernel
theorem xF:bootBuiltins "tuple"=some (.type "tuple"):=by decide +kernel
theorem Qo:bootBuiltins "all"=some (.builtin "all"):=by decide +kernel
theorem Qp:bootBuiltins "min"=some (.builtin "min"):=by decide +kernel
theorem xG:bootBuiltins "int"=some (.type "int"):=by decide +kernel
theorem LG:bootBuiltins "bool"=some (.type "bool"):=by decide +kernel
theorem mx:bootBuiltins "str"=some (.type "str"):=by decide +kernel
theorem lj:∀{fs:List Bool}{as:qah}{k:Nat},∀p∈pz fs as k,k<=p.1/\fs[p.1-k]?=some true
 |[],_,_,p,hp=>nomatch hp
 |false::fs,as,k,p,hp=>by
  obtain⟨h1,h2⟩:=lj (fs:=fs) (as:=as) (k:=k+1) p hp;refine⟨by omega,?_⟩;have:p.1-k=(p.1-(k+1))+1:=by omega
  rw[this];simpa using h2
 |true::fs,a::as,k,p,hp=>by
  rcases dh.mp hp with z|z
  subst z;exact⟨bG _,by simp⟩;obtain⟨h1,h2⟩:=lj (fs:=fs) (as:=as) (k:=k+1) p z;refine⟨by omega,?_⟩;have:p.1-k=(p.1-(k+1))+1:=by omega
  rw[this];simpa using h2
 |true::fs,[],k,p,hp=>by
  obtain⟨h1,h2⟩:=lj (fs:=fs) (as:=[]) (k:=k+1) p hp;refine⟨by omega,?_⟩;have:p.1-k=(p.1-(k+1))+1:=by omega
  rw[this];simpa using h2
theorem Qq{fs:List Bool}{as Ox:qah}(h:fs[i]?≠some true):aX ⟨H,pz fs as 0,Ox⟩ i:=λp hp e=>by have:=(lj p hp).2;rw[Nat.sub_zero,e] at this;exact h this
theorem fL(lo:Int)(n:Nat):(rangeT lo n).length=n:=by unfold rangeT;rw[cn,uW]
theorem ix{lo:Int}{t:T}(h:(rangeT lo n)[i]?=some t):i<n/\t=.int (lo+(i:Int)):=by
 unfold rangeT at h;rw[fj] at h;cases e:(List.range n)[i]? with
 |none=>rw[e] at h;cases h
 |some j=>rw[e] at h;obtain⟨h1,h2⟩:=dJ.mp e;rw[List.getElem_range] at h2;rw[uW] at h1;subst h2;cases h;exact⟨h1,rfl⟩
theorem my{lo:Int}{h:FG}{g:FS}{d:IS}{ρ:En}(Pv:Nat->En->Prop)(h0:Pv 0 ρ)(hs:∀(i:Nat) ρ',i<n->Pv i ρ'->h (.int (lo+(i:Int))) ρ' λρ2=>g {nx:=Pv (i+1),ct:=Pv (i+1),bk:=d.nx,rt:=d.rt} ρ2)(hd:∀ρ',Pv n ρ'->d.nx ρ'):hX (rangeT lo n) h g d ρ:=⟨Pv,h0,λi t ρ' e p=>by obtain⟨h1,rfl⟩:=ix e;exact hs i ρ' h1 p,λρ' p=>hd ρ' (by rw[fL] at p;exact p)⟩
theorem eS{f:α->T}{xs:List α}{h:FG}{g:FS}{d:IS}{ρ:En}(Pv:Nat->En->Prop)(h0:Pv 0 ρ)(hs:∀(i:Nat) x ρ',xs[i]?=some x->Pv i ρ'->h (f x) ρ' λρ2=>g {nx:=Pv (i+1),ct:=Pv (i+1),bk:=d.nx,rt:=d.rt} ρ2)(hd:∀ρ',Pv xs.length ρ'->d.nx ρ'):hX (xs.map f) h g d ρ:=⟨Pv,h0,λi t ρ' e p=>by
 rw[fj] at e;cases q:xs[i]? with
 |none=>rw[q] at e;cases e
 |some x=>rw[q] at e;cases e;exact hs i x ρ' q p,λρ' p=>hd ρ' (by rw[cn] at p;exact p)⟩
theorem LH{c:Bool}{A:Prop}(hc:c=true)(h:A):if c=true then A else B:=by rw[if_pos hc];exact h
theorem LI{c:Bool}{A:Prop}(hc:c=false)(h:B):if c=true then A else B:=by rw[if_neg (by rw[hc];exact dO)];exact h
theorem jT{c A:Prop}[Decidable c](h1:c->A)(h2:¬ c->B):if decide c=true then A else B:=by by_cases h:c;rw[if_pos (decide_eq_true h)];exact h1 h;rw[if_neg (by rw[decide_eq_false h];exact dO)];exact h2 h
section
theorem i6{t:Addr}{items:Array Value}{x:Value}(hit:s.heap.IsTupleIter it t i)(ht:s.heap.IsTuple t items)(hx:items[i]?=some x)(hQ:∀h',h'.IsTupleIter it t (i+1)->Heap.SameBut it s.heap h'->Q x {s with heap:=h'}):wpAny (model prog w) A (Builtin.SmallTypes.nextOf (.ref it)) Q E s:=by
 obtain⟨o,ho,hc,hd⟩:=id hit;obtain⟨ol,Vv,_,nl,Vw⟩:=ht;unfold Builtin.SmallTypes.nextOf;refine wpAny_bind (wpAny_callSpecial?_slot (name:=Str.ofString "__next__") hit.typeIs Sl
  (wpAny_call_entry Sl hit.typeIs F.entry_tuple_iterator_next ?_ (F.args_tuple_iterator_next_1 _)))
 show wpAny _ _ (field (.ref it) 0 >>= _) _ _ s;refine wpAny_bind (wpAny_field ho hd (x:=.ref t) rfl ?_);show wpAny _ _ (if (Value.ref t==Value.none)=true then _ else _) _ _ s;rw[if_neg (show ¬ ((Value.ref t==Value.none)=true) from dO)];show wpAny _ _ (field (.ref it) 1 >>= _) _ _ s;refine wpAny_bind (wpAny_field ho hd (x:=.int i 0) rfl ?_);show wpAny _ _ (seqItems? (.ref t) >>= _) _ _ s;refine wpAny_bind (wpAny_seqItems Vv Vw ?_);simp only[iL,hx];refine wpAny_bind (wpAny_setField ho hd (by simp) (wpAny_pure ⟨x,rfl,wpAny_pure (hQ _ ?_ (Oo ..))⟩));exact⟨_,Heap.get?_update_self _ ho (Obj.isFreed_of_fields (SJ hd _)),(Obj.cls_mapFields ..).trans hc,by
  rw[SJ hd];simp[rawInt]⟩
theorem jU{t:Addr}{items:Array Value}(hh:A.handled=none)(hit:s.heap.IsTupleIter it t i)(ht:s.heap.IsTuple t items)(hx:items[i]?=none)(hE:∀h' e,Heap.ExtBut it s.heap h'->(∃o,h'.get? e=some o/\o.cls=.type "StopIteration")->E (.ref e) {s with heap:=h'}):wpAny (model prog w) A (Builtin.SmallTypes.nextOf (.ref it)) Q E s:=by
 obtain⟨o,ho,hc,hd⟩:=id hit;obtain⟨ol,Vv,_,nl,Vw⟩:=ht;unfold Builtin.SmallTypes.nextOf;refine wpAny_bind (wpAny_callSpecial?_slot (name:=Str.ofString "__next__") hit.typeIs Sl
  (wpAny_call_entry Sl hit.typeIs F.entry_tuple_iterator_next ?_ (F.args_tuple_iterator_next_1 _)))
 show wpAny _ _ (field (.ref it) 0 >>= _) _ _ s;refine wpAny_bind (wpAny_field ho hd (x:=.ref t) rfl ?_);show wpAny _ _ (if (Value.ref t==Value.none)=true then _ else _) _ _ s;rw[if_neg (show ¬ ((Value.ref t==Value.none)=true) from dO)];show wpAny _ _ (field (.ref it) 1 >>= _) _ _ s;refine wpAny_bind (wpAny_field ho hd (x:=.int i 0) rfl ?_);show wpAny _ _ (seqItems? (.ref t) >>= _) _ _ s;refine wpAny_bind (wpAny_seqItems Vv Vw ?_);simp only[iL,hx];refine wpAny_bind (wpAny_rule (wpAny_bind (wpAny_setField ho hd (by simp) ?_)));show wpAny _ _ (newExc (.type "StopIteration") [] >>= _) _ _ _;refine wpAny_bind ?_;simp only[newExc,newTuple];refine wpAny_bind (wpAny_newObj_type ?_ (by size_fits));refine wpAny_bind (m:=firstArgMember _ _) (wpAny_of_eq (a:=Value.none) (by first|rfl|(simp only[firstArgMember];rfl)) ?_);refine wpAny_newObj_type ?_ (by size_fits);simp only[raiseNew];refine wpAny_bind (wpAny_handled ?_)
 first|rw[show A.in1.handled=none from hh]|rw[hh]
 refine wpAny_bind (wpAny_pure (wpAny_throw ?_));exact hE _ _ (((Oo ..).extBut.push _).push _) ⟨_,gN _ rfl,rfl⟩
end
structure Part(prog:Program)(w:World)(i:Addr)(fp:qah)(n:Nat)(Pv:Nat->Value->Prop)(st:Nat->Heap->Prop):Prop where
 draws:∀A:Around,A.handled=none->Draws prog w A i fp n Pv st
 mem:i∈fp
 fld:∀k h,st k h->∃o vs,h.get? i=some o/\o.data=.fields vs
theorem zz(it l:Addr)(f6:l≠it)(items:Array Value):Part prog w it [it,l] items.size (λi v=>items[i]?=some v) (λi h=>h.IsListIter it l i/\h.IsList l items) :=
 ⟨λA hh=>Draws.list hh it l f6 items,by simp,λk h st=>let ⟨⟨o,e,_,d⟩,_⟩:=st;⟨o,_,e,d⟩⟩
theorem vM(it l:Addr)(f6:l≠it)(items:Array Value):Part prog w it [it,l] items.size (λi v=>items[i]?=some v) (λi h=>h.IsTupleIter it l i/\h.IsTuple l items) :=
 ⟨λA hh=>{live:=λ_ _ st=>let ⟨o,ho,_⟩:=st.1;⟨o,ho⟩,frame:=λ_ _ _ st hk=>⟨let ⟨o,ho,r⟩:=st.1;⟨o,hk it (by simp) o ho,r⟩,let ⟨o,ho,r⟩:=st.2;⟨o,hk l (by simp) o ho,r⟩⟩,item:=λi s Q E hi st hQ=>i6 st.1 st.2 (x:=items[i]) (by simp[hi]) λh' Gj r9=>hQ _ h' s.toks (by simp[hi]) ⟨Gj,st.2.extBut r9.extBut f6⟩ r9,done:=λs Q E st hE=>jU hh st.1 st.2 (by simp) hE},by simp,λk h st=>let ⟨⟨o,e,_,d⟩,_⟩:=st;⟨o,_,e,d⟩⟩
theorem B0(it:Addr)(x:Str)(t:Tok):Part prog w it [it] x.cps.size (λi v=>∃c u,x.cps[i]?=some c/\v=.str ⟨#[c]⟩ u) (λi h=>h.IsStrIter it (strIterType x) x t i):=by
 rcases cx x with z|z
 rw[z];exact⟨λA hh=>Draws.strAscii hh it x t,by simp,λk h st=>let ⟨o,e,_,d⟩:=st;⟨o,_,e,d⟩⟩;rw[z];exact⟨λA hh=>Draws.strWide hh it x t,by simp,λk h st=>let ⟨o,e,_,d⟩:=st;⟨o,_,e,d⟩⟩
structure Apart(z TI TO i1 i2:Addr)(mB ll:qah):Prop where
 TIz:TI≠z
 TOz:TO≠z
 i1z:i1≠z
 i2z:i2≠z
 TITO:TI≠TO
 TIi1:TI≠i1
 TIi2:TI≠i2
 TOi1:TO≠i1
 TOi2:TO≠i2
 i12:i1≠i2
 z1:z∉mB
 z2:z∉ll
 O1:TO∉mB
 O2:TO∉ll
 x1:i2∉mB
 x2:i1∉ll
section
variable{z TI TO i1 i2:Addr}{mB ll:qah}{n1 n2:Nat}{P1 P2:Nat->Value->Prop}{S1 S2:Nat->Heap->Prop}
theorem B1{a b:Value}(hh:A.handled=none)(D:Apart z TI TO i1 i2 mB ll)(p1:Part prog w i1 mB n1 P1 S1)(p2:Part prog w i2 ll n2 P2 S2)(hz:IsZip s.heap z TI TO .none)(Gk:IsPair s.heap TI (.ref i1) (.ref i2))(Gm:IsPair s.heap TO a b)(h1:S1 k s.heap)(h2:S2 k s.heap)(hx:k<n1)(hy:k<n2)(hQ:∀x y h' tk,P1 k x->P2 k y->IsZip h' z TI TO (rawInt s.heap.objs.size)->IsPair h' TO x y->S1 (k+1) h'->S2 (k+1) h'->IsPair h' s.heap.objs.size x y->h'.objs.size=s.heap.objs.size+1 ->
    (∀c o,c≠z->c≠TO->c≠i1->c≠i2->s.heap.get? c=some o->h'.get? c=some o)->Q (.ref s.heap.objs.size) {s with heap:=h',toks:=tk}) :
  wpAny (model prog w) A (Builtin.«zip.__next__» ⟨[.ref z],[]⟩) (λfin s'=>∃v,fin=.done (.ret v)/\Q v s') E s:=by
 show wpAny _ _ (field (.ref z) 2 >>= _) _ _ _;refine wpAny_bind (wpAny_field hz rfl (x:=.bool false) rfl ?_);show wpAny _ _ (field (.ref z) 3 >>= _) _ _ _;refine wpAny_bind (wpAny_field hz rfl (x:=.ref TI) rfl ?_);refine wpAny_bind (wpAny_seqItems Gk rfl ?_);show wpAny _ _ (Builtin.SmallTypes.ownedTupleIsFree (.ref z) >>= _) _ _ _;refine wpAny_bind ?_;unfold Builtin.SmallTypes.ownedTupleIsFree;refine wpAny_bind (wpAny_field hz rfl (x:=.none) rfl (wpAny_pure ?_));simp only[if_true];refine wpAny_bind (wpAny_rule ?_);refine wpAny_bind (wpAny_field hz rfl (x:=.ref TO) rfl ?_);refine wpAny_bind (wpAny_setField_rec hz (by simp) λh₁ uS r_=>?_)
 replace uS:IsZip h₁ z TI TO .ellipsis:=uS
 refine wpAny_bind ?_;simp only[List.zipIdx_cons,List.zipIdx_nil,JN,List.forIn_nil];have f1:∀{m h h' c},c∉mB->S1 m h->Heap.SameBut c h h'->S1 m h':=λ{m h h' c} hc st sb=>(p1.draws A hh).frame m h h' st λb hb o e=>sb.extBut b o (λq=>hc (q▸hb)) e;have f2:∀{m h h' c},c∉ll->S2 m h->Heap.SameBut c h h'->S2 m h':=λ{m h h' c} hc st sb=>(p2.draws A hh).frame m h h' st λb hb o e=>sb.extBut b o (λq=>hc (q▸hb)) e;refine wpAny_bind (wpAny_bind (wpAny_onRaise ?_));show wpAny _ _ (Builtin.SmallTypes.nextOf (.ref i1) >>= _) _ _ _;refine wpAny_bind ((p1.draws _ hh).item k _ _ _ hx (f1 D.z1 h1 r_) λx h₂ Y' px Xk nS=>wpAny_pure ?_)
 replace nS:Heap.SameBut i1 h₁ h₂:=nS
 have B2:IsPair h₂ TO a b:=nS.extBut _ _ D.TOi1 (r_.extBut _ _ D.TOz Gm);refine wpAny_bind (wpAny_seqItems B2 rfl ?_);refine wpAny_bind (wpAny_updateSeq_pair B2 λh₃ Gn nI=>?_)
 replace Gn:IsPair h₃ TO x b:=Gn
 replace nI:Heap.SameBut TO h₂ h₃:=nI
 refine wpAny_bind (wpAny_letGo (wpAny_pure ?_));refine wpAny_bind (wpAny_bind (wpAny_onRaise ?_));show wpAny _ _ (Builtin.SmallTypes.nextOf (.ref i2) >>= _) _ _ _;refine wpAny_bind ((p2.draws _ hh).item k _ _ _ hy (f2 D.O2 (f2 D.x2 (f2 D.z2 h2 r_) nS) nI) λy h₄ Za py Zb uT=>wpAny_pure ?_)
 replace uT:Heap.SameBut i2 h₃ h₄:=uT
 have Qr:IsPair h₄ TO x b:=uT.extBut _ _ D.TOi2 Gn;refine wpAny_bind (wpAny_seqItems Qr rfl ?_);refine wpAny_bind (wpAny_updateSeq_pair Qr λh₅ Gp uU=>?_)
 replace Gp:IsPair h₅ TO x y:=Gp
 replace uU:Heap.SameBut TO h₄ h₅:=uU
 refine wpAny_bind (wpAny_letGo (wpAny_pure (wpAny_pure ?_)));refine wpAny_bind (wpAny_seqItems Gp rfl ?_);refine wpAny_bind (wpAny_newTuple ?_);have hsz:h₅.objs.size=s.heap.objs.size:=by rw[uU.1,uT.1,nI.1,nS.1,r_.1]
 have Xl:IsZip h₅ z TI TO .ellipsis:=uU.extBut _ _ D.TOz.symm (uT.extBut _ _ D.i2z.symm (nI.extBut _ _ D.TOz.symm (nS.extBut _ _ D.i1z.symm uS)));have Zd:∀c o,c≠z->c≠TO->c≠i1->c≠i2->s.heap.get? c=some o->h₅.get? c=some o:=λc o c1 c2 c3 c4 e=>
  uU.extBut _ _ c2 (uT.extBut _ _ c4 (nI.extBut _ _ c2 (nS.extBut _ _ c3 (r_.extBut _ _ c1 e))))
 have Ze:S1 (k+1) h₅:=f1 D.O1 (f1 D.x1 (f1 D.O1 Xk nI) uT) uU;have Zf:S2 (k+1) h₅:=f2 D.O2 Zb uU;have Qs:z<h₅.objs.size:=dG Xl;show wpAny _ _ (Builtin.SmallTypes.ownedTupleHandOut (.ref z) (.ref h₅.objs.size) >>= _) _ _ _;refine wpAny_bind ?_;unfold Builtin.SmallTypes.ownedTupleHandOut;have Zg:IsZip (h₅.push {cls:=.type "tuple",data:=.seq #[x,y]}) z TI TO .ellipsis:=dg _ Xl;refine wpAny_bind (wpAny_setField_rec Zg (by simp) λh₇ Vx Vy=>?_)
 replace Vx:IsZip h₇ z TI TO (rawInt h₅.objs.size):=Vx
 refine wpAny_setField_rec Vx (by simp) λh₈ Ts Vz=>?_
 replace Ts:IsZip h₈ z TI TO (rawInt h₅.objs.size):=Ts
 have up:∀c o,c≠z->h₅.get? c=some o->h₈.get? c=some o:=λc o c1 e=>Vz.extBut _ _ c1 (Vy.extBut _ _ c1 (dg _ e));have Xm:IsPair h₈ h₅.objs.size x y:=Vz.extBut _ _ (EA Qs) (Vy.extBut _ _ (EA Qs) (gN _ rfl));have Xn:h₈.objs.size=h₅.objs.size+1:=by rw[Vz.1,Vy.1,AW]
 have Zh:S1 (k+1) h₈:=(p1.draws A hh).frame _ _ _ Ze λb hb o e=>up b o (λq=>D.z1 (q▸hb)) e;have Zi:S2 (k+1) h₈:=(p2.draws A hh).frame _ _ _ Zf λb hb o e=>up b o (λq=>D.z2 (q▸hb)) e;rw[hsz] at Ts Xm Xn;refine wpAny_pure ⟨_,rfl,?_⟩;show Q (.ref h₅.objs.size) _;rw[hsz];exact hQ x y h₈ Za px py Ts (up _ _ D.TOz Gp) Zh Zi Xm Xn λc o c1 c2 c3 c4 e=>up c o c1 (Zd c o c1 c2 c3 c4 e)
theorem Gq{a b:Value}{Q:PySem.Fin->Shared->Prop}(hh:A.handled=none)(D:Apart z TI TO i1 i2 mB ll)(p1:Part prog w i1 mB n1 P1 S1)(p2:Part prog w i2 ll n2 P2 S2)(hz:IsZip s.heap z TI TO .none)(Gk:IsPair s.heap TI (.ref i1) (.ref i2))(Gm:IsPair s.heap TO a b)(h1:S1 k s.heap)(h2:S2 k s.heap)(LJ:k=n1\/(k<n1/\k=n2))(hE:∀h' tk e,(∀c o,c≠z->c≠TO->c≠i1->c≠i2->s.heap.get? c=some o->h'.get? c=some o)->(∃o,h'.get? e=some o/\o.cls=.type "StopIteration")->E (.ref e) {s with heap:=h',toks:=tk}) :
  wpAny (model prog w) A (Builtin.«zip.__next__» ⟨[.ref z],[]⟩) Q E s:=by
 have f1:∀{m h h' c},c∉mB->S1 m h->Heap.SameBut c h h'->S1 m h':=λ{m h h' c} hc st sb=>(p1.draws A hh).frame m h h' st λb hb o e=>sb.extBut b o (λq=>hc (q▸hb)) e;have f2:∀{m h h' c},c∉ll->S2 m h->Heap.SameBut c h h'->S2 m h':=λ{m h h' c} hc st sb=>(p2.draws A hh).frame m h h' st λb hb o e=>sb.extBut b o (λq=>hc (q▸hb)) e;show wpAny _ _ (field (.ref z) 2 >>= _) _ _ _;refine wpAny_bind (wpAny_field hz rfl (x:=.bool false) rfl ?_);show wpAny _ _ (field (.ref z) 3 >>= _) _ _ _;refine wpAny_bind (wpAny_field hz rfl (x:=.ref TI) rfl ?_);refine wpAny_bind (wpAny_seqItems Gk rfl ?_);show wpAny _ _ (Builtin.SmallTypes.ownedTupleIsFree (.ref z) >>= _) _ _ _;refine wpAny_bind ?_;unfold Builtin.SmallTypes.ownedTupleIsFree;refine wpAny_bind (wpAny_field hz rfl (x:=.none) rfl (wpAny_pure ?_));simp only[if_true];refine wpAny_bind (wpAny_rule ?_);refine wpAny_bind (wpAny_field hz rfl (x:=.ref TO) rfl ?_);refine wpAny_bind (wpAny_setField_rec hz (by simp) λh₁ uS r_=>?_)
 replace uS:IsZip h₁ z TI TO .ellipsis:=uS
 refine wpAny_bind ?_;simp only[List.zipIdx_cons,List.zipIdx_nil,JN,List.forIn_nil];refine wpAny_bind (wpAny_bind (wpAny_onRaise ?_));show wpAny _ _ (Builtin.SmallTypes.nextOf (.ref i1) >>= _) _ _ _;obtain rfl|⟨eJ,rfl⟩:=LJ
 . refine wpAny_bind ((p1.draws _ hh).done _ _ _ (f1 D.z1 h1 r_) λh₂ e nS he=>?_);obtain⟨oe,LK,Qt⟩:=he;have NZ:IsZip h₂ z TI TO .ellipsis:=nS _ _ D.i1z.symm uS;have VB:e≠z:=λx=>by subst x;rw[NZ] at LK;cases LK;simp at Qt
   refine wpAny_setField_rec NZ (by simp) λh₃ _ nI=>hE h₃ _ e (λc o c1 _ c3 _ x=>nI.extBut _ _ c1 (nS _ _ c3 (r_.extBut _ _ c1 x))) ⟨oe,nI.extBut _ _ VB LK,Qt⟩
 . refine wpAny_bind ((p1.draws _ hh).item k _ _ _ eJ (f1 D.z1 h1 r_) λx h₂ Y' px Xk nS=>wpAny_pure ?_)
   replace nS:Heap.SameBut i1 h₁ h₂:=nS
   have B2:IsPair h₂ TO a b:=nS.extBut _ _ D.TOi1 (r_.extBut _ _ D.TOz Gm);refine wpAny_bind (wpAny_seqItems B2 rfl ?_);refine wpAny_bind (wpAny_updateSeq_pair B2 λh₃ Gn nI=>?_)
   replace nI:Heap.SameBut TO h₂ h₃:=nI
   refine wpAny_bind (wpAny_letGo (wpAny_pure ?_));refine wpAny_bind (wpAny_bind (wpAny_onRaise ?_));show wpAny _ _ (Builtin.SmallTypes.nextOf (.ref i2) >>= _) _ _ _;refine wpAny_bind ((p2.draws _ hh).done _ _ _ (f2 D.O2 (f2 D.x2 (f2 D.z2 h2 r_) nS) nI) λh₄ e uT he=>?_);obtain⟨oe,LK,Qt⟩:=he;have Xo:IsZip h₄ z TI TO .ellipsis:=uT _ _ D.i2z.symm (nI.extBut _ _ D.TOz.symm (nS.extBut _ _ D.i1z.symm uS));have VB:e≠z:=λx=>by subst x;rw[Xo] at LK;cases LK;simp at Qt
   refine wpAny_setField_rec Xo (by simp) λh₅ _ uU=>hE h₅ _ e (λc o c1 c2 c3 c4 x=>uU.extBut _ _ c1 (uT _ _ c4 (nI.extBut _ _ c2 (nS.extBut _ _ c3 (r_.extBut _ _ c1 x))))) ⟨oe,uU.extBut _ _ VB LK,Qt⟩
theorem kU{a b:Value}{Q:(Option Value)->Shared->Prop}(hh:A.handled=none)(D:Apart z TI TO i1 i2 mB ll)(p1:Part prog w i1 mB n1 P1 S1)(p2:Part prog w i2 ll n2 P2 S2)(hz:IsZip s.heap z TI TO .none)(Gk:IsPair s.heap TI (.ref i1) (.ref i2))(Gm:IsPair s.heap TO a b)(h1:S1 k s.heap)(h2:S2 k s.heap)(hx:k<n1)(hy:k<n2)(hQ:∀x y h' tk,P1 k x->P2 k y->IsZip h' z TI TO (rawInt s.heap.objs.size)->IsPair h' TO x y->S1 (k+1) h'->S2 (k+1) h'->IsPair h' s.heap.objs.size x y->h'.objs.size=s.heap.objs.size+1 ->
    (∀c o,c≠z->c≠TO->c≠i1->c≠i2->s.heap.get? c=some o->h'.get? c=some o)->Q (some (.ref s.heap.objs.size)) {s with heap:=h',toks:=tk}):wpAny (model prog w) A (pyNext (.ref z)) Q E s:=by
 have hT:s.TypeIs (.ref z) "zip":=⟨_,hz,rfl⟩;unfold pyNext;exact wpAny_bind (wpAny_attempt (wpAny_callSpecial?_slot (name:=Str.ofString "__next__") hT F.slot_zip_next
  (wpAny_call_entry F.slot_zip_next hT F.entry_zip_next
    (B1 hh D p1 p2 hz Gk Gm h1 h2 hx hy λx y h' tk q1 q2 a1 a2 a3 a4 a5 a6 a7=>wpAny_pure (hQ x y h' tk q1 q2 a1 a2 a3 a4 a5 a6 a7)) (F.args_zip_next_1 _))))
theorem mC{a b:Value}{Q:(Option Value)->Shared->Prop}(hh:A.handled=none)(D:Apart z TI TO i1 i2 mB ll)(p1:Part prog w i1 mB n1 P1 S1)(p2:Part prog w i2 ll n2 P2 S2)(hz:IsZip s.heap z TI TO .none)(Gk:IsPair s.heap TI (.ref i1) (.ref i2))(Gm:IsPair s.heap TO a b)(h1:S1 k s.heap)(h2:S2 k s.heap)(LJ:k=n1\/(k<n1/\k=n2))(hQ:∀h' tk,(∀c o,c≠z->c≠TO->c≠i1->c≠i2->s.heap.get? c=some o->h'.get? c=some o)->Q none {s with heap:=h',toks:=tk}):wpAny (model prog w) A (pyNext (.ref z)) Q E s:=by
 have hT:s.TypeIs (.ref z) "zip":=⟨_,hz,rfl⟩;unfold pyNext;refine wpAny_bind (wpAny_attempt (wpAny_callSpecial?_slot (name:=Str.ofString "__next__") hT F.slot_zip_next
  (wpAny_call_entry F.slot_zip_next hT F.entry_zip_next (Gq hh D p1 p2 hz Gk Gm h1 h2 LJ λh' tk e hk he=>?_) (F.args_zip_next_1 _))))
 obtain⟨o,ho,hc⟩:=he;refine wpAny_bind (wpAny_isInstance (T:="StopIteration") (b:=true) ⟨o,ho,hc⟩ isSubtype_stop ?_);exact wpAny_pure (hQ _ _ hk)
end
def gv(v:Value)(o:Obj)(c:Heap->Prop):Prop:=∀(prog:Program)(w:World)(A:Around)(E:qad)(s:Shared)(Q:qad),c s.heap ->
 Q (.ref s.heap.objs.size) {s with heap:=s.heap.push o}->wpAny (model prog w) A (pyIter v) Q E s
theorem sZ(l:Addr)(items:Array Value):gv (.ref l) {cls:=.type "list_iterator",data:=.fields #[.ref l,.int 0 0]} (λh=>h.IsList l items):=λ_ _ _ _ _ _ h q=>wpAny_pyIter_list h q
theorem qw(l:Addr)(items:Array Value):gv (.ref l) {cls:=.type "tuple_iterator",data:=.fields #[.ref l,.int 0 0]} (λh=>h.IsTuple l items):=λ_ _ _ _ _ _ h q=>wpAny_pyIter_tuple h q
theorem vN(x:Str)(t:Tok):gv (.str x t) {cls:=.type (strIterType x),data:=.fields #[.str x t,.int 0 0]} (λ_=>True):=λ_ _ _ _ _ _ _ q=>wpAny_pyIter_strU q
noncomputable abbrev Tt(h:Heap)(o1 o2:Obj):Heap:=((h.push o1).push o2).push {cls:=.type "tuple",data:=.seq #[.ref h.objs.size,.ref (h.push o1).objs.size]}
noncomputable abbrev Tu(h:Heap)(o1 o2:Obj):Heap:=(Tt h o1 o2).push {cls:=.type "tuple",data:=.seq #[.none,.none]}
noncomputable abbrev LL(h:Heap)(o1 o2:Obj):Heap:=(Tu h o1 o2).push {cls:=.type "zip",data:=.fields #[.none,.bool false,.bool false,.ref ((h.push o1).push o2).objs.size,.ref (Tt h o1 o2).objs.size]}
theorem vO{v1 v2:Value}{o1 o2:Obj}{c1 c2:Heap->Prop}(i1:gv v1 o1 c1)(i2:gv v2 o2 c2)(zA:∀h o,c2 h->c2 (h.push o)) :
  Meets (Builtin.«zip.__new__» ⟨[.type "zip",v1,v2],[]⟩) (λ_ R s=>c1 s.heap/\c2 s.heap /\
   R (.ok (.ret (.ref (Tu s.heap o1 o2).objs.size))) {s with heap:=LL s.heap o1 o2}) :=
 .of_wp λprog w A R s h=>by
  obtain⟨hp,g,d,tk,os⟩:=s;obtain⟨VF,AK,h⟩:=h;have Zj:=sub_zip;have Zk:=zA _ o1 AK;have I1:∀(A:Around)(E:qad)(Q:qad),Q (.ref hp.objs.size) ⟨hp.push o1,g,d,tk,os⟩->wpAny (model prog w) A (pyIter v1) Q E ⟨hp,g,d,tk,os⟩:=λA E Q q=>i1 prog w A E _ Q VF q;have I2:∀(A:Around)(E:qad)(Q:qad),Q (.ref (hp.push o1).objs.size) ⟨(hp.push o1).push o2,g,d,tk,os⟩->wpAny (model prog w) A (pyIter v2) Q E ⟨hp.push o1,g,d,tk,os⟩:=λA E Q q=>i2 prog w A E _ Q Zk q
  wp_walk using I1,I2
  exact⟨_,rfl,h⟩
section
theorem zB{v1 v2:Value}{o1 o2:Obj}{c1 c2:Heap->Prop}(i1:gv v1 o1 c1)(i2:gv v2 o2 c2)(zA:∀h o,c2 h->c2 (h.push o))(h1:c1 s.heap)(h2:c2 s.heap)(VH:o1.isFreed=false)(VJ:o2.isFreed=false)(h:∀h',IsZip h' (s.heap.objs.size+4) (s.heap.objs.size+2) (s.heap.objs.size+3) .none->IsPair h' (s.heap.objs.size+2) (.ref s.heap.objs.size) (.ref (s.heap.objs.size+1)) ->
    IsPair h' (s.heap.objs.size+3) .none .none->h'.get? s.heap.objs.size=some o1->h'.get? (s.heap.objs.size+1)=some o2->h'.objs.size=s.heap.objs.size+5 ->
    (∀c o,s.heap.get? c=some o->h'.get? c=some o)->Q (.ref (s.heap.objs.size+4)) {s with heap:=h'}) :
  wpAny (model prog w) A (call (.type "zip") [v1,v2]) Q E s:=by
 refine callType_new F.called_zip (by decide) (F.typeCall_zip_2 _ _) (F.newCall_zip_2 _ _) (λobj=>F.args_object_init_3 obj _ _) F.entry_zip_new
  (vO i1 i2 zA) ⟨h1,h2,?_⟩
 have z1:(s.heap.push o1).objs.size=s.heap.objs.size+1:=AW ..;have z2:((s.heap.push o1).push o2).objs.size=s.heap.objs.size+2:=by rw[AW,z1]
 have z3:(Tt s.heap o1 o2).objs.size=s.heap.objs.size+3:=by rw[AW,z2]
 have z4:(Tu s.heap o1 o2).objs.size=s.heap.objs.size+4:=by rw[AW,z3]
 have z5:(LL s.heap o1 o2).objs.size=s.heap.objs.size+5:=by rw[AW,z4]
 have g5:(LL s.heap o1 o2).get? (Tu s.heap o1 o2).objs.size=some _:=gN _ rfl;have g4:(LL s.heap o1 o2).get? (Tt s.heap o1 o2).objs.size=some _:=dg _ (gN _ rfl);have g3:(LL s.heap o1 o2).get? ((s.heap.push o1).push o2).objs.size=some _:=dg _ (dg _ (gN _ rfl));have g2:(LL s.heap o1 o2).get? (s.heap.push o1).objs.size=some _:=dg _ (dg _ (dg _ (gN _ VJ)));have g1:(LL s.heap o1 o2).get? s.heap.objs.size=some _:=dg _ (dg _ (dg _ (dg _ (gN _ VH))));show _/\_;rw[z2,z3,z4] at g5;rw[z1,z2] at g3;rw[z3] at g4;rw[z1] at g2;rw[z4];exact⟨⟨_,g5,rfl⟩,h _ g5 g3 g4 g1 g2 z5 λc o x=>
  dg _ (dg _ (dg _ (dg _ (dg _ x))))⟩
end
structure zC(P:Program)(w:World)(K:qaf)(i:Addr)(fp:qah)(sq:Hp->qak->Prop)(it:Nat->Heap->Prop):Prop where
 part:∀(X:Cx)(pins:qaa)(σ:St)(H:Hp)(s:Shared),X.prog=P->X.w=w->X.K=K->Inv X pins σ H s->∀xs,sq H xs ->
  ∃(Pv:Nat->Value->Prop)(S:Nat->Heap->Prop),Part P w i fp xs.length Pv S/\(∀k v,Pv k v->∃x,xs[k]?=some x/\RelV x v)/\(∀k h,S k h->it k h)/\∀k,it k s.heap->S k s.heap
 keep:∀k h h',it k h->(∀o,h.get? i=some o->h'.get? i=some o)->it k h'
 obj:∀k h,it k h->∃o,h.get? i=some o/\∀v,o.data≠.cell v
 inj:∀(X:Cx)(pins:qaa)(σ:St)(H:Hp)(s:Shared),X.K=K->Inv X pins σ H s->∀xs ys,sq H xs->sq H ys->xs=ys
theorem src_list(i l:Addr)(f6:l≠i):zC P w K i [i,l] (λH xs=>fq K H l xs) (λk h=>h.IsListIter i l k) where
 part:=λX pins σ H s hP hw hK I xs hq=>by
  subst hP hw hK;obtain⟨aH,rv,p,hz⟩:=I.list hq;have e:aH.toArray.size=xs.length:=by simp[rv.length]
  refine⟨_,_,e▸zz i l f6 aH.toArray,λk v hv=>?_,λk h st=>st.1,λk st=>⟨st,p.isList⟩⟩;have sC:aH[k]?=some v:=by simpa using hv
  have hk:k<xs.length:=by rw[<- e];simp;exact (dJ.mp sC).1
  obtain⟨u,hu,ru⟩:=rv.get (show xs[k]?=some xs[k] by simp);rw[sC] at hu;cases hu;exact⟨_,by simp,ru⟩
 keep:=λk h h' st q=>st.at q
 obj:=λk h st=>let ⟨o,e,_,d⟩:=st;⟨o,e,λv z=>by rw[d] at z;cases z⟩
 inj:=λX pins σ H s hK I xs ys h1 h2=>by subst hK;exact I.iN h1 h2
theorem src_tuple(i l:Addr)(f6:l≠i):zC P w K i [i,l] (λH xs=>dy K H l xs) (λk h=>h.IsTupleIter i l k) where
 part:=λX pins σ H s hP hw hK I xs hq=>by
  subst hP hw hK;obtain⟨aH,rv,p,hz⟩:=I.tuple hq;have e:aH.toArray.size=xs.length:=by simp[rv.length]
  refine⟨_,_,e▸vM i l f6 aH.toArray,λk v hv=>?_,λk h st=>st.1,λk st=>⟨st,p⟩⟩;have sC:aH[k]?=some v:=by simpa using hv
  have hk:k<xs.length:=by rw[<- e];simp;exact (dJ.mp sC).1
  obtain⟨u,hu,ru⟩:=rv.get (show xs[k]?=some xs[k] by simp);rw[sC] at hu;cases hu;exact⟨_,by simp,ru⟩
 keep:=λk h h' st q=>let ⟨o,e,r⟩:=st;⟨o,q o e,r⟩
 obj:=λk h st=>let ⟨o,e,_,d⟩:=st;⟨o,e,λv z=>by rw[d] at z;cases z⟩
 inj:=λX pins σ H s hK I xs ys h1 h2=>by subst hK;exact I.jz h1 h2
noncomputable def vP(x:Str):qak:=x.cps.toList.map λc=>.str ⟨#[c]⟩
theorem Gr(i:Addr)(x:Str)(t:Tok):zC P w K i [i] (λ_ xs=>xs=vP x) (λk h=>h.IsStrIter i (strIterType x) x t k) where
 part:=λX pins σ H s hP hw hK I xs hq=>by
  subst hP hw hK hq;have e:x.cps.size=(vP x).length:=by unfold vP;simp
  refine⟨_,_,e▸B0 i x t,λk v hv=>?_,λk h st=>st,λk st=>st⟩;obtain⟨c,u,h1,rfl⟩:=hv;exact⟨.str ⟨#[c]⟩,by unfold vP;rw[fj];simp[h1],u,rfl⟩
 keep:=λk h h' st q=>let ⟨o,e,r⟩:=st;⟨o,q o e,r⟩
 obj:=λk h st=>let ⟨o,e,_,d⟩:=st;⟨o,e,λv z=>by rw[d] at z;cases z⟩
 inj:=λX pins σ H s hK I xs ys h1 h2=>by rw[h1,h2]
section
variable{X:Cx}
theorem Gs{ch:qah}(I:Inv X pins σ H s)(k:∀b u,b∉ch->s.heap.get? b=some u->h'.get? b=some u)(hf:∀b∈ch,jB X pins H b):Inv X pins σ H {s with heap:=h',toks:=t'}:=by
 have A0:∀b u,H b=some u->b∉ch:=λb u e z=>by rw[(hf b z).1] at e;cases e
 refine I.step (g':=s.gens) (d':=s.drawn) (ch:=ch) (λb hb=>?_) (λb u _ _ hc e _=>k b u hc e) (λb u _ _ hc e _=>⟨u.slots,k b u hc e⟩) (λb u _ e n=>n) (λb u hc e=>⟨u,k b u hc e⟩)
  (λb xs e=>e) (λb u v e=>e) (λb ps e=>⟨#[],?_⟩) (λm hm=>?_) (λb u e=>?_) I.bare
 obtain⟨_,f1,_,f3,f4,f5⟩:=hf b hb;exact⟨f3,f1,f4,f5⟩;rw[e];simp;obtain⟨ob,es,ep,ho,r⟩:=hm;exact⟨ob,es,ep,k _ ob (λz=>(hf _ z).2.1 rfl) ho,r⟩;refine (I.ba b u e).sr (λc v hc q=>k c v ?_ q) (λc q=>q) λc xs q=>q;obtain z|z:=hc
 rw[z];exact A0 b u e;exact A0 c _ z
end
noncomputable def VL(vQ vR:Hp->qak->Prop):It :=
 ⟨λi H=>∃xs ys,vQ H xs/\vR H ys/\i<xs.length/\i<ys.length,λi H v H'=>∃t x y,H t=none/\v=.ref t/\(∀xs,vQ H xs->xs[i]?=some x)/\(∀ys,vR H ys->ys[i]?=some y)/\H'=upd H t (.tup [x,y]),
  λi H=>∃xs ys,vQ H xs/\vR H ys/\(i=xs.length\/(i<xs.length/\i=ys.length))⟩
theorem B3{x1}{z TI TO i1 i2:Addr}{mB ll:qah}{vQ vR:Hp->qak->Prop}{t1 t2:Nat->Heap->Prop}(D:Apart z TI TO i1 i2 mB ll)(p1:zC P w K i1 mB vQ t1)(p2:zC P w K i2 ll vR t2) :
  Turn P w K (.Tuple elts x1 tp) (VL vQ vR) [z,TI,TO,i1,i2] z (λi h=>IsZip h z TI TO .none/\IsPair h TI (.ref i1) (.ref i2)/\(∃a b,IsPair h TO a b)/\t1 i h/\t2 i h) where
 mem:=by simp
 obj:=λi h st b hb=>by
  obtain⟨h1,h2,⟨a,c,h3⟩,h4,h5⟩:=st;simp only[dh,fm,or_false] at hb;obtain rfl|rfl|rfl|rfl|rfl:=hb
  exact⟨_,h1,λv q=>by cases q⟩;exact⟨_,h2,λv q=>by cases q⟩;exact⟨_,h3,λv q=>by cases q⟩;exact p1.obj i h h4;exact p2.obj i h h5
 keep:=λi h h' st k=>by obtain⟨h1,h2,⟨a,c,h3⟩,h4,h5⟩:=st;exact⟨k z (by simp) _ h1,k TI (by simp) _ h2,⟨a,c,k TO (by simp) _ h3⟩,p1.keep i h h' h4 λo q=>k i1 (by simp) o q,p2.keep i h h' h5 λo q=>k i2 (by simp) o q⟩
 item:=by
  intro X hP hw hK hc i pins s σ H E I hf st hg;obtain⟨xs,ys,Tv,I8,l1,l2⟩:=hg;obtain⟨h1,h2,⟨a,c,h3⟩,h4,h5⟩:=st;obtain⟨P1,S1,q1,v1,b1,f1⟩:=p1.part X pins σ H s hP hw hK I xs Tv;obtain⟨P2,S2,q2,v2,b2,f2⟩:=p2.part X pins σ H s hP hw hK I ys I8;refine kU (I.ok.hd hc) D q1 q2 h1 h2 h3 (f1 i h4) (f2 i h5) l1 l2 λx y h₁ tk px py uS VM s1 s2 Zl hsz hk=>?_;obtain⟨x',ex,rx⟩:=v1 i x px;obtain⟨y',ey,ry⟩:=v2 i y py;refine⟨_,rfl,wpAny_letOwnedTupleGo_zip uS λh₂ NZ nS=>?_⟩;have nT:Heap.SameBut z h₁ h₂:=nS;have eJ:z<s.heap.objs.size:=dG h1;have U9:s.heap.objs.size≠z:=EA eJ;have kk:∀b ob,b∉[z,TI,TO,i1,i2]->s.heap.get? b=some ob->h₂.get? b=some ob:=λb ob hb q=>by simp only[dh,fm,or_false,not_or] at hb;exact (nT.2 b hb.1).trans (hk b ob hb.1 hb.2.2.1 hb.2.2.2.1 hb.2.2.2.2 q)
  have new:bh X.prog X.w (upd H s.heap.objs.size (.tup [x',y'])) h₂ s.heap.objs.size (.tup [x',y']) :=
   ⟨by show 2<=sizeLine;rw[sizeLine_eq];decide,[x,y],.cons rx (.cons ry .nil),⟨_,(nT.2 _ U9).trans Zl,rfl,_,rfl⟩⟩
  refine⟨.ref s.heap.objs.size,upd H s.heap.objs.size (.tup [x',y']),I.grown (t':=tk) kk hf (bG _) new,rfl,⟨_,x',y',I.fresh,rfl,λzs hz=>by rw[p1.inj X pins σ H s hK I _ _ hz Tv];exact ex,λzs hz=>by rw[p2.inj X pins σ H s hK I _ _ hz I8];exact ey,rfl⟩,⟨NZ,?_,⟨x,y,?_⟩,?_,?_⟩,λb hb=>?_⟩;exact (nT.2 TI D.TIz).trans (hk TI _ D.TIz D.TITO D.TIi1 D.TIi2 h2);exact (nT.2 TO D.TOz).trans VM;exact p1.keep _ _ _ (b1 _ _ s1) λo q=>(nT.2 i1 D.i1z).trans q;exact p2.keep _ _ _ (b2 _ _ s2) λo q=>(nT.2 i2 D.i2z).trans q;have NW:b<s.heap.objs.size:=by
   simp only[dh,fm,or_false] at hb;obtain rfl|rfl|rfl|rfl|rfl:=hb
   exact eJ;exact dG h2;exact dG h3;obtain⟨o,e,_⟩:=p1.obj i _ h4;exact dG e;obtain⟨o,e,_⟩:=p2.obj i _ h5;exact dG e
  rw[ar (iG NW)];exact (hf b hb).1
 done:=by intro X hP hw hK hc i pins s σ H E I hf st hg;obtain⟨xs,ys,Tv,I8,he⟩:=hg;obtain⟨h1,h2,⟨a,c,h3⟩,h4,h5⟩:=st;obtain⟨P1,S1,q1,v1,b1,f1⟩:=p1.part X pins σ H s hP hw hK I xs Tv;obtain⟨P2,S2,q2,v2,b2,f2⟩:=p2.part X pins σ H s hP hw hK I ys I8;refine mC (I.ok.hd hc) D q1 q2 h1 h2 h3 (f1 i h4) (f2 i h5) he λh' tk hk=>⟨rfl,?_⟩;refine Gs (t':=tk) I (λb u hb q=>?_) hf;simp only[dh,fm,or_false,not_or] at hb;exact hk b u hb.1 hb.2.2.1 hb.2.2.2.1 hb.2.2.2.2 q
 self:=λ_ _ _ _ _ st h=>by obtain⟨h1,_⟩:=st;exact wpAny_pyIter_zip h1 h
inductive ZK(K:qaf)(H:Hp):V->(Hp->qak->Prop)->Prop where
 |lst {a:Addr} {xs:qak}:fq K H a xs->ZK K H (.ref a) (λH xs=>fq K H a xs)
 |tup {a:Addr} {xs:qak}:dy K H a xs->ZK K H (.ref a) (λH xs=>dy K H a xs)
 |str (z:Str):ZK K H (.str z) (λ_ xs=>xs=vP z)
theorem I9{X:Cx}{x:V}{sq:Hp->qak->Prop}(I:Inv X pins σ H s)(z:ZK X.K H x sq)(r:RelV x u) :
  ∃(o:Obj)(c:Heap->Prop)(fp:qah)(it:Addr->Nat->Heap->Prop),gv u o c/\c s.heap/\(∀h o,c h->c (h.push o))/\o.isFreed=false/\(∀b∈fp,b<s.heap.objs.size) /\
   ∀i,s.heap.objs.size<=i->zC X.prog X.w X.K i (i::fp) sq (it i)/\∀h,h.get? i=some o->it i 0 h:=by
 cases z with
 |lst hq=>
   rename_i a xs
   cases r;obtain⟨aH,rv,p,hz⟩:=I.list hq;have hl:a<s.heap.objs.size:=by obtain⟨o,n,e,_⟩:=p;exact dG e
   refine⟨_,_,[a],λi k h=>h.IsListIter i a k,sZ a aH.toArray,p.isList,λh o q=>Heap.IsList.push q _,rfl,λb hb=>by rw[cT.mp hb];exact hl,λi hi=>⟨src_list i a (iG (nK hl hi)),λh e=>⟨_,e,rfl,rfl⟩⟩⟩
 |tup hq=>
   rename_i a xs
   cases r;obtain⟨aH,rv,p,hz⟩:=I.tuple hq;have hl:a<s.heap.objs.size:=by obtain⟨o,e,_⟩:=p;exact dG e
   refine⟨_,_,[a],λi k h=>h.IsTupleIter i a k,qw a aH.toArray,p,λh o q=>(let ⟨o',e,r⟩:=q;⟨o',dg _ e,r⟩),rfl,λb hb=>by rw[cT.mp hb];exact hl,λi hi=>⟨src_tuple i a (iG (nK hl hi)),λh e=>⟨_,e,rfl,rfl⟩⟩⟩
 |str z=>obtain⟨t,rfl⟩:=r;refine⟨_,_,[],λi k h=>h.IsStrIter i (strIterType z) z t k,vN z t,trivial,λ_ _ _=>trivial,rfl,λb hb=>?_,λi hi=>⟨Gr i z t,λh e=>⟨_,e,rfl,rfl⟩⟩⟩;cases hb
theorem nn{a b:Nat}(h:a<b):a≠b:=iG h
theorem B4{mB ll:qah}(h1:∀b∈mB,b<n)(h2:∀b∈ll,b<n):Apart (n+4) (n+2) (n+3) n (n+1) (n::mB) ((n+1)::ll):=by
 have k1:∀b:Nat,n<b->b∉(n::mB):=λb hb m=>by
  rcases dh.mp m with q|q
  exact EA hb q;exact AF _ (Nat.lt_trans hb (h1 b q))
 have k2:∀b:Nat,n+1<b->b∉((n+1)::ll):=λb hb m=>by
  rcases dh.mp m with q|q
  exact EA hb q;exact AF _ (Nat.lt_trans (Nat.lt_trans (AV n) hb) (h2 b q))
 have k3:n∉((n+1)::ll):=λm=>by
  rcases dh.mp m with q|q
  exact iG (AV n) q;exact AF _ (h2 n q)
 exact⟨nn (by omega),nn (by omega),nn (by omega),nn (by omega),nn (by omega),(nn (by omega)).symm,(nn (by omega)).symm,(nn (by omega)).symm,(nn (by omega)).symm,nn (by omega),k1 _ (by omega),k2 _ (by omega),k1 _ (by omega),k2 _ (by omega),k1 _ (by omega),k3⟩
theorem Gu{c:Nat}(h:c∈[n+4,n+2,n+3,n,n+1]):n<=c:=by simp only[dh,fm,or_false] at h;omega
noncomputable def VN(K:qaf)(ta:TA):TI:=λσ H R=>ta σ H λvs H1=>∃x y vQ vR,vs=[x,y]/\ZK K H1 x vQ/\ZK K H1 y vR/\R (VL vQ vR) H1
section
variable{X:Cx}{Z:Zc}
theorem boot_zip:bootBuiltins "zip"=some (.type "zip"):=by decide +kernel
theorem LM{x1}{a b:Expr}{ta:TA}(hg:Gl X "zip")(hm:X.mg "zip"=none)(ha:PA X [a,b] ta)(hs:starEach [a,b] X.env=[(false,eval a X.env),(false,eval b X.env)])(yX:starEach [b] X.env=[(false,eval b X.env)]) :
  PI X (.Tuple elts x1 tp) (.Call (.Name "zip" p) [a,b] [] pos) (VN X.K ta):=by
 intro pins s σ H R I h;refine Call_ (jy I hg hm boot_zip (Sk (bJ (ha pos pins s σ H _ I h) λus s1 ⟨vs,H1,I1,r1,q1⟩=>?_) (by rw[hs,yX]) (by rw[yX];rfl)));obtain⟨x,y,vQ,vR,e,k1,k2,q⟩:=q1;subst e;obtain⟨u,w',rfl,ru,rw'⟩:=vals2 r1;obtain⟨o1,c1,mB,t1,i1,VF,Qu,VH,LN,z1⟩:=I9 I1 k1 ru;obtain⟨o2,c2,ll,t2,i2,AK,zA,VJ,I_,z2⟩:=I9 I1 k2 rw';refine zB i1 i2 zA VF AK VH VJ λh' hz Gk Gm g1 g2 hsz hk=>?_;have I2:Inv X pins σ H1 {s1 with heap:=h'}:=I1.kept (t':=s1.toks) hk;refine wpAny_pyIter_zip hz ?_;obtain⟨S1,a1⟩:=z1 s1.heap.objs.size (bG _);obtain⟨S2,a2⟩:=z2 (s1.heap.objs.size+1) (Io _);have D:Apart (s1.heap.objs.size+4) (s1.heap.objs.size+2) (s1.heap.objs.size+3) s1.heap.objs.size (s1.heap.objs.size+1) (s1.heap.objs.size::mB) ((s1.heap.objs.size+1)::ll):=by exact B4 LN I_
 refine⟨s1.heap.objs.size+4,_,_,_,H1,rfl,I2,B3 D S1 S2,⟨hz,Gk,⟨_,_,Gm⟩,a1 _ g1,a2 _ g2⟩,λc hc=>?_,q⟩;have Xp:s1.heap.objs.size<=c:=Gu hc;exact I1.lK Xp (I1.ba.fresh Xp)
noncomputable def LO:T->Option (List T)
 |.lst ts=>some ts
 |.tup ts=>some ts
 |.str z=>some (z.cps.toList.map λc=>.str ⟨#[c]⟩)
 |_=>none
noncomputable def qx(xs ys:List T):List T:=List.zipWith (λa b=>.tup [a,b]) xs ys
noncomputable def VQ(fa fb:FE):FI:=λρ Q=>fa ρ λx=>fb ρ λy=>match LO x,LO y with
 |some xs,some ys=>Q (qx xs ys)
 |_,_=>False
theorem Ja{A:qah}{x:T}{xs:List T}(h:At K H A x v)(e:LO x=some xs):∃sq,ZK K H v sq/\∀H A,At K H A x v->∃vs,sq H vs/\ax K H A xs vs:=by
 cases x with
 |lst ts=>cases e;simp only[At] at h;obtain⟨a,vs,rfl,l,q⟩:=h;refine⟨_,.lst l.sq,λH A h=>?_⟩;simp only[At] at h;obtain⟨a',hY,e,l',q'⟩:=h;cases e;exact⟨hY,l'.sq,q'⟩
 |tup ts=>cases e;simp only[At] at h;obtain⟨a,vs,rfl,l,q⟩:=h;refine⟨_,.tup l,λH A h=>?_⟩;simp only[At] at h;obtain⟨a',hY,e,l',q'⟩:=h;cases e;exact⟨hY,l',q'⟩
 |str z=>
  cases e;simp only[At] at h;subst h;refine⟨_,.str z,λH A h=>⟨vP z,rfl,?_⟩⟩;unfold vP;generalize z.cps.toList=l;induction l with
  |nil=>exact ax.nil
  |cons c l ih=>exact ax.cons cZ ih
 |_=>cases e
theorem LP{x y:T}{w:V}{xs ys:List T}{vQ vR:Hp->qak->Prop}(h1:∀H A,At K H A x v->∃vs,vQ H vs/\ax K H A xs vs)(h2:∀H A,At K H A y w->∃vs,vR H vs/\ax K H A ys vs) :
  Wk K (VL vQ vR) [(x,v),(y,w)] (qx xs ys):=λH A hA h i=>by
 obtain⟨vs,q1,l1⟩:=h1 H A (h _ dq);obtain⟨ws,q2,l2⟩:=h2 H A (h _ (d3 _ dq));have e1:=l1.length;have e2:=l2.length;have el:(qx xs ys).length=min xs.length ys.length:=by unfold qx;rw[List.length_zipWith]
 rw[el];refine⟨λhi=>⟨vs,ws,q1,q2,by omega,by omega⟩,λhi=>⟨vs,ws,q1,q2,by omega⟩,λt ht x H' y=>?_⟩;obtain⟨p,a,b,hp,rfl,ha,hb,rfl⟩:=y;unfold qx at ht;rw[List.getElem?_zipWith] at ht;cases ex:xs[i]? with
 |none=>rw[ex] at ht;cases ht
 |some tx=>
   cases ey:ys[i]? with
   |none=>rw[ex,ey] at ht;cases ht
   |some ty=>rw[ex,ey] at ht;cases ht;obtain⟨v1,g1,g2⟩:=l1.get ex;obtain⟨v2,g3,g4⟩:=l2.get ey;have z1:=ha vs q1;have z2:=hb ws q2;rw[g1] at z1;rw[g3] at z2;cases z1;cases z2;exact⟨aB hp,cP (dy.of ay) (ax.cons (g2.same (aB hp)) (ax.cons (g4.same (aB hp)) ax.nil))⟩
theorem LQ{x1}{a b:Expr}{fa fb:FE}(hg:Gl X "zip")(hm:X.mg "zip"=none)(ha:VE X Z a fa)(hb:VE X Z b fb)(hs:starEach [a,b] X.env=[(false,eval a X.env),(false,eval b X.env)]:=by rfl)(yX:starEach [b] X.env=[(false,eval b X.env)]:=by rfl) :
  VI X Z (.Tuple elts x1 tp) (.Call (.Name "zip" p) [a,b] [] pos) (VQ fa fb):=.mk λtm=>
 PI.weak (LM hg hm (a8 (ha tm) (a8 (hb tm) cF yX) (by rw[hs,yX])) hs yX) λσ H R ⟨ρ,O,q,I,hf,k⟩=>⟨ρ,O,_,I,hf,λx hx v H1 s1 a1=>⟨ρ,O,_,I.same s1,hx,λy hy w H2 s2 a2=>by
  split at hy
  rename_i xs ys e1 e2
  obtain⟨vQ,k1,w1⟩:=Ja (a1.same s2) e1;obtain⟨vR,k2,w2⟩:=Ja a2 e2;exact⟨v,w,vQ,vR,rfl,k1,k2,k _ hy _ H2 _ (s1.trans s2) (λp hp=>by
   rcases dh.mp hp with e|hp
   rw[e];exact a1.same s2;rw[cT.mp hp];exact a2) (LP w1 w2)⟩
  exact hy.elim⟩⟩
end
end VT
variable{Z:VT.Zc}{ρ:VT.En}{ts:List VT.T}{fa fb fe:VT.FE}{tm:List (VT.T×L2.V)}{g:VT.FA}
abbrev qab:=List (VT.T×L2.V)
abbrev qaj:=List VT.T
abbrev qam:=VT.Rt->Prop
abbrev qas:=@VT.VP.vr
abbrev qat:=@VT.VP.ve
abbrev qau:=@VT.VP.vx
namespace HE
open PySem PySem.W PySem.Calls PyProof.Rows
noncomputable def lp(tb:String->Option Builtin)(p:Program)(w:World)(n₀:Nat)(ann:Option Value):Nat->SharedT->Thread->Option SharedT
 |0,_,_=>none
 |n+1,s,t=>match through t with
  |true=>some s
  |false=>match stepOk n₀ ann t with
   |false=>none
   |true=>match stepT (denote tb) p w s t with
    |some (s',t')=>lp tb p w n₀ ann n s' t'
    |none=>none
theorem oW{tb:String->Option Builtin}{p:Program}{w:World}{n₀:Nat}{ann:Option Value}:∀{n:Nat}{s s':SharedT}{t:Thread},lp tb p w n₀ ann n s t=some s'->topRun tb p w n₀ ann n s.abs t=some s'.abs
 |0,_,_,_,h=>by cases h
 |n+1,s,s',t,h=>by
  unfold lp at h;unfold topRun;cases ht:through t with
  |true=>rw[ht] at h;cases h;rfl
  |false=>
   rw[ht] at h;cases hk:stepOk n₀ ann t with
   |false=>rw[hk] at h;cases h
   |true=>
    rw[hk] at h;cases hs:stepT (denote tb) p w s t with
    |none=>rw[hs] at h;cases h
    |some r=>obtain⟨s₂,t₂⟩:=r;rw[hs] at h;rw[stepT_spec hs];exact oW h
noncomputable def Zm(l:List Obj):BT:=(l.foldl (λ(p:BT×Nat) o=>(p.1.ins p.2 o,p.2+1)) (.nil,0)).1
noncomputable def i7(P:Params):BT:=Zm (boot_heap P).objs.toList
noncomputable def Qv(T:BT)(os:OsState):SharedT:=⟨T,11,{},Array.mk [],boot_drawn,boot_toks,os⟩
theorem boot_abs(P:Params):absHeap (i7 P) 11 {}=boot_heap P:=by kernel_rfl
theorem zD(P:Params):((boot_heap P).isNs mainGlobals,(boot_heap P).objs.size,(boot_heap P).nsMap mainGlobals "__annotations__")=(true,11,some (.ref 6)):=by kernel_rfl
noncomputable def LR(p:Program)(T:BT)(w:World)(M:Nat)(os:OsState):Option SharedT:=lp treeTable p w 11 (some (.ref 6)) M (Qv T os) (topStub p)
noncomputable def Kf(as:qah)(g:Addr->Option Obj):Frag:=as.filterMap λa=>(g a).map λo=>(a,o)
noncomputable def tg(T:BT)(n:Nat)(a:Addr):Option Obj:=match Nat.blt a n with
 |true=>alive ((T.get a).getD default)
 |false=>none
theorem Qw(T:BT)(n:Nat)(life:Life)(a:Addr):(absHeap T n life).get? a=tg T n a:=by
 unfold tg;cases h:Nat.blt a n with
 |true=>
  have hn:a<n:=Nat.ble_eq.mp h;cases g:T.get a with
  |some o=>rw[abs_get hn g];rfl
  |none=>have e:=absHeap_at T n life a;rw[if_pos hn,g] at e;unfold Heap.get?;rw[e];rfl
 |false=>
  have hn:¬ a<n:=λz=>by have:Nat.blt a n=true:=Nat.ble_eq.mpr z;rw[h] at this;cases this
  exact abs_get_none hn
noncomputable abbrev Gv(q:Program)(lv:List (Str×WData))(R:WRecords)(s:Shared):Bool:=xlAt q lv s && recOk R s
noncomputable def lookA(p q:Program)(loose:qai)(lv:List (Str×WData))(R:WRecords)(T:BT)(H0:Heap)(w:World)(M:Nat)(os:OsState) :=
 (LR p T w M os).map λs=>((staticsOk (importedModules p.main.body) H0 s.abs.heap && namesBound p s.abs.heap && gensDone s.abs && laidKept H0 s.abs.heap),
  (openSeen q loose (importedModules p.main.body) (Gv q lv R) true s.abs).1,(openSeen q loose (importedModules p.main.body) (Gv q lv R) true s.abs).2.1)
noncomputable def lookB(p q:Program)(loose:qai)(lv:List (Str×WData))(R:WRecords)(T:BT)(w:World)(M:Nat)(os:OsState) :=
 (LR p T w M os).map λs=>(openSeen q loose (importedModules p.main.body) (Gv q lv R) true s.abs).2.2
noncomputable def lookC{β:Type}(p:Program)(as:qah)(F:Frag->β)(T:BT)(w:World)(M:Nat)(os:OsState) :=
 (LR p T w M os).map λs=>F (Kf as (tg s.tree s.n))
noncomputable def qy(p:Program)(N:Nat)(w:World)(a:Addr):Option Obj:=(openEnds treeTable p w N).bind (·.heap.get? a)
theorem head{p q:Program}{loose:qai}{lv:List (Str×WData)}{R:WRecords}{as:qah}{N M:Nat}{F:Frag->β}{v:World->β}(e:opening p=plainProg p.main.scope.names)(hN:Nat.ble 600 N=true)(f:∀s,fenceModules? p s=some s)(le:Nat.ble M N=true)(ra:∀(w:World) (os:OsState),lookA p q loose lv R (i7 w.params) (boot_heap w.params) w M os=some (true,(openGood q loose).1,(openGood q loose).2.1))(rb:∀(w:World) (os:OsState),lookB p q loose lv R (i7 w.params) w M os=some (openGood q loose).2.2)(rc:∀(w:World) (os:OsState),lookC p as F (i7 w.params) w M os=some (v w)) :
  LeftO p q loose (Gv q lv R) (λs=>as.map s.heap.get?) (λw=>as.map (qy p N w)) N/\∀w,F (Kf as (qy p N w))=v w:=by
 have key:∀w,∃s,openEnds treeTable p w N=some s/\openSeen q loose (importedModules p.main.body) (Gv q lv R) true s=openGood q loose/\F (Kf as s.heap.get?)=v w:=λw=>by
  obtain⟨⟨h,gs,d,k,os⟩,e1,e2⟩:=EV.mp (boot_open e hN f w);obtain⟨rfl,rfl,rfl,rfl⟩:h=boot_heap w.params/\gs=Array.mk []/\d=boot_drawn/\k=boot_toks:=by simpa using e2
  obtain⟨s,r1,r2⟩:=EV.mp (ra w os);obtain⟨s',Zn,Zo⟩:=EV.mp (rb w os);obtain⟨O8,VU,Zp⟩:=EV.mp (rc w os);obtain rfl:s=s':=Option.some.inj (r1.symm.trans Zn);obtain rfl:s=O8:=Option.some.inj (r1.symm.trans VU);have r3:=congrArg (λx=>x.1) r2;have r4:openSeen q loose (importedModules p.main.body) (Gv q lv R) true s.abs=openGood q loose:=AG (congrArg (λx=>x.2.1) r2) (AG (congrArg (λx=>x.2.2) r2) Zo);have r5:F (Kf as s.abs.heap.get?)=v w:=by rw[show s.abs.heap.get?=tg s.tree s.n from funext λa=>Qw _ _ _ a];exact Zp
  have t1:=oW r1;have ea:(Qv (i7 w.params) os).abs=⟨boot_heap w.params,Array.mk [],boot_drawn,boot_toks,os⟩:=by show (⟨absHeap (i7 w.params) 11 {},_,_,_,_⟩:Shared)=_;rw[boot_abs];rfl
  rw[ea] at t1;have t2:=topRun_mono (N-M) _ _ _ _ t1;rw[show M+(N-M)=N by have:=Nat.le_of_ble_eq_true le;omega] at t2;have z:=zD w.params;have z1:=congrArg (λx=>x.1) z;have z2:=congrArg (λx=>x.2.1) z;have z3:=congrArg (λx=>x.2.2) z;refine⟨s.abs,?_,r4,r5⟩;unfold openEnds;rw[e1];show topFrom treeTable p w N _=_;unfold topFrom;dsimp only at z1 z2 z3 ⊢;rw[z1,z2,z3,t2];show (match staticsOk (importedModules p.main.body) (boot_heap w.params) s.abs.heap && namesBound p s.abs.heap && gensDone s.abs && laidKept (boot_heap w.params) s.abs.heap with|true=>_|false=>_)=_;have Zq:(staticsOk (importedModules p.main.body) (boot_heap w.params) s.abs.heap && namesBound p s.abs.heap && gensDone s.abs && laidKept (boot_heap w.params) s.abs.heap)=true:=r3;rw[Zq]
 refine⟨λw=>?_,λw=>?_⟩;obtain⟨s,a,b,c⟩:=key w;rw[a];have:qy p N w=s.heap.get?:=by funext x;unfold qy;rw[a];rfl
 show some (openSeen q loose (importedModules p.main.body) (Gv q lv R) true s,as.map s.heap.get?)=some (openGood q loose,as.map (qy p N w));rw[b,this];obtain⟨s,a,b,c⟩:=key w;have:qy p N w=s.heap.get?:=by funext x;unfold qy;rw[a];rfl
 rw[this];exact c
theorem kf_in{as:qah}{g:Addr->Option Obj}(e:as.map h.get?=as.map g):(Kf as g).In h:=by
 have key:∀{as:qah},as.map h.get?=as.map g->∀a o,(Kf as g).lookup a=some o->h.get? a=some o:=by
  intro as;induction as with
  |nil=>intro _ a o z;cases z
  |cons x as ih=>
   intro e a o z;rw[gj,gj] at e;injection e with e1 e2
   unfold Kf at z;rw[k8] at z;cases hg:g x with
   |none=>rw[hg] at z;exact ih e2 a o z
   |some o'=>
    rw[hg] at z;simp only[Option.map_some,EY] at z;split at z
    rename_i q
    have:a=x:=by simpa using q
    subst this;cases z;rw[e1,hg];exact ih e2 a o z
 exact λa o z=>key e a o z
theorem B5{q:Program}{loose:qai}{XP:(qae)->Heap->Prop}{as:qah}{g:World->Addr->Option Obj}{r:RowW}{d:DefRec}{kwd:List (Str×Expr)}{run:Value->qag->Sem Value}(h:WalkO q loose XP (λw h=>(Kf as (g w)).In h) r d kwd run):WalkX q loose XP (λs=>as.map s.heap.get?) (λw=>as.map (g w)) r d kwd run :=
 λw s₀ s₁ mg mb G y a o pm cd doc dV kV h1 h2 h3 h4 h5 h6 args vals oU L y8 Px W7 Pt EG=>h w s₀ s₁ mg mb G (λb o' z=>Laid.keeps L _ _ (kf_in y b o' z)) a o pm cd doc dV kV h1 h2 h3 h4 h5 h6 args vals oU y8 Px W7 Pt EG
noncomputable def Qx:Stmt->DefRec
 |.FunctionDef n ps b _ _ _ sc _ _ p=>⟨n,ps,b,sc,p⟩
 |_=>⟨Str.empty,default,[],default,default⟩
end HE
lay_quick HE.lookA HE.lookB HE.lookC
namespace VT
open PySem PySem.Spec PyProof.Rows L2
section
variable{X:Cx}{k':Nat}{G:qaj->(qam)->Prop}
theorem aO(C:cJ X.prog X.w X.K X.mg X.base x ps k (cK X.K n G))(hr:bb k' X.A)(ha:VA X Z (e::es) g)(hg:Gl X x:=by rfl)(hk:k<=k':=by decide)(nP:eG x:=by decide)(he:starEach (e::es) X.env=(false,eval e X.env)::starEach es X.env:=by rfl)(ku:(backTo pos (starEach es X.env)).any (·.1)=false:=by rfl) :
  VP X Z (.Call (.Name x p) (e::es) [] pos) (gu n g G):=by
 obtain⟨f,fd,h1,h2,h3,F⟩:=C;exact xB F (hr.mono hk) hg h1 h2 h3 ha nP he ku
end
end VT
namespace Gen
open PySem L2 VT
open lV (bj)
theorem small(h:n<=1000):n<=sizeLine:=Nat.le_of_lt (za h)
theorem LS(h:Nat.ble n 1000=true):n<=sizeLine:=small (Nat.le_of_ble_eq_true h)
noncomputable def jV(n:Int):Nat:=bj.cps.toList.getD (n % 26).toNat 0
theorem s_:bj.cps.toList.length=26:=by decide +kernel
theorem qz:bj.length=26:=by decide +kernel
theorem eC:bj.length<=sizeLine:=by rw[qz,sizeLine_eq];decide
theorem oX(n:Int):ky bj.cps.toList (n % 26)=some (jV n):=by
 have h0:0<=n % 26:=Ex n (by decide);have h1:n % 26<26:=EX n (by decide);unfold jV;obtain⟨j,hj⟩:=oF h0;rw[hj];have eJ:j<bj.cps.toList.length:=by rw[s_];omega
 refine ag ?_;rw[iL,List.getD,kj eJ];rfl
def qA(c:Int):Int:=c % 1000000000000
noncomputable def jW(c:Int):Nat:=(1+qA c % 7).toNat
noncomputable def EK(c:Int):Nat:=(qA c / 7 % (jW c:Int)).toNat
noncomputable def zE(c:Int)(k j:Nat):Int:=qA c / 49 / ((j:Int)+1)+(j:Int) * (j:Int)+(if j=EK c then (k:Int) else 0)
noncomputable def bV(c:Int)(k n:Nat):Str:=⟨((List.range n).map λj=>jV (zE c k j)).toArray⟩
noncomputable def c5(c:Int)(m:Nat):qai :=
 if qA c / 49 % 3=1 then ((List.range m).map λk=>bV c k (jW c)).set 1 (bV c 0 (jW c)++⟨#[jV (qA c / 147)]⟩) else (List.range m).map λk=>bV c k (jW c)
theorem Jb(c:Int):((jW c:Nat):Int)=1+qA c % 7:=by unfold jW;have:0<=qA c % 7:=Ex _ (by decide);omega
theorem vS(c:Int):1<=jW c/\jW c<=7:=by have:=Jb c;have h0:0<=qA c % 7:=Ex _ (by decide);have h1:qA c % 7<7:=EX _ (by decide);omega
theorem Qy(c:Int):((EK c:Nat):Int)=qA c / 7 % (jW c:Int):=by unfold EK;have h:=vS c;have:0<=qA c / 7 % (jW c:Int):=Ex _ (by omega);omega
theorem vT(c:Int)(k n:Nat):bV c k (n+1)=bV c k n++⟨#[jV (zE c k n)]⟩:=by
 unfold bV;rw[Ou,AE];show _=Str.mk (_++_)
 congr 1
 simp
theorem gR(c:Int)(k n:Nat):(bV c k n).length=n:=by unfold bV Str.length;simp
theorem vU(c:Int)(m:Nat):(c5 c m).length=m:=by unfold c5;split<;>simp
theorem Qz:(10:Int) ^ (12:Int).toNat=1000000000000:=by decide +kernel
inductive xH where
 |nm (x:Str)
 |nu (i:Int)
inductive Ky where
 |fld (x:Str)
 |op (o:xH)
inductive Rw where
 |df (f:Str) (ps:qai)
 |give (a:xH)
 |put (x:Str) (a:xH)
 |Xq (x:Str) (a:xH) (op:Str) (b:xH)
 |new (x:Str)
 |get (x r:Str) (k:Ky)
 |set (r:Str) (k:Ky) (a:xH)
 |call (x f:Str) (as:List xH)
 |fail (w:Str)
 |B6 (a:xH)
 |QA
 |B7 (a:xH)
 |fin
 |skip
noncomputable def uV:xH->T
 |.nm x=>.str x
 |.nu i=>.int i
noncomputable def qB:Ky->T
 |.fld x=>.str (((".":String):Str)++x)
 |.op o=>uV o
noncomputable def aU:Rw->T
 |.df f ps=>.tup [.str "def",.str f,.tup (ps.map .str)]
 |.give a=>.tup [.str "give",uV a]
 |.put x a=>.tup [.str "put",.str x,uV a]
 |.Xq x a op b=>.tup [.str "do",.str x,uV a,.str op,uV b]
 |.new x=>.tup [.str "new",.str x]
 |.get x r k=>.tup [.str "get",.str x,.str r,qB k]
 |.set r k a=>.tup [.str "set",.str r,qB k,uV a]
 |.call x f as=>.tup [.str "call",.str x,.str f,.tup (as.map uV)]
 |.fail w=>.tup [.str "fail",.str w]
 |.B6 a=>.tup [.str "if",uV a]
 |.QA=>.tup [.str "else"]
 |.B7 a=>.tup [.str "while",uV a]
 |.fin=>.tup [.str "end"]
 |.skip=>.tup [.str "skip"]
theorem fM{α:Type}{f:α->T}(h:∀x,plainT (f x)=true):∀l:List α,bP (l.map f)=true
 |[]=>by simp[bP]
 |x::l=>by simp only[gj,bP,h x,fM h l,Bool.and_self]
theorem i8{α:Type}{f:α->T}{n:Nat}(h:∀x,dep (f x)<=n):∀l:List α,nV (l.map f)<=n
 |[]=>by simp[nV]
 |x::l=>by have:=h x;have:=i8 h l;simp only[gj,nV];omega
theorem jX(o:xH):plainT (uV o)=true:=by cases o<;>simp[uV,plainT]
theorem zF(o:Ky):plainT (qB o)=true:=by cases o with|fld x=>simp[qB,plainT]|op o=>exact jX o
theorem vV(r:Rw):plainT (aU r)=true:=by cases r<;>simp[aU,plainT,bP,jX,zF,fM (f:=T.str) (λ_=>by simp[plainT]),fM (f:=uV) jX]
theorem qC(o:xH):dep (uV o)=0:=by cases o<;>simp[uV,dep]
theorem Gw(o:Ky):dep (qB o)=0:=by cases o with|fld x=>simp[qB,dep]|op o=>exact qC o
theorem B8(r:Rw):dep (aU r)<=2:=by have h1:=λl:qai=>i8 (f:=T.str) (n:=0) (λ_=>by simp[dep]) l;have h2:=λl:List xH=>i8 (f:=uV) (n:=0) (λo=>by simp[qC]) l;cases r<;>simp[aU,dep,nV,qC,Gw]<;>first|(rename_i x;have:=h1 x;omega)|(rename_i x;have:=h2 x;omega)|skip
end Gen
abbrev qal:=List Gen.Rw
namespace Gen
open PySem L2 VT
open lV (bj zl bX)
theorem xI(n:Int):zl (jV n)=true:=by
 have h0:0<=n % 26:=Ex n (by decide);have h1:n % 26<26:=EX n (by decide);have h:∀j<26,zl (bj.cps.toList.getD j 0)=true:=by decide +kernel
 exact h _ (by omega)
theorem mD{c:Int}(h1:1<=n)(h8:n<=8):bX (bV c k n)=true:=by unfold bX;rw[gR,decide_eq_true (by omega),decide_eq_true (by omega),uX,uX];show ((List.range n).map λj=>jV (zE c k j)).all zl=true;rw[List.all_map];exact EZ.mpr λj _=>xI _
theorem B9{n:Int}(h:bX x=true)(hl:x.length<=7):bX (x++⟨#[jV n]⟩)=true:=by
 have hx:=lV.fD h;have el:(x++(⟨#[jV n]⟩:Str)).length=x.length+1:=by show (x.cps++#[jV n]).size=_;simp[Str.length]
 unfold bX;rw[el,decide_eq_true (by omega),decide_eq_true (by omega),uX,uX];show (x.cps++#[jV n]).toList.all zl=true;simp only[Eu,List.all_append,hx,uX];simp[xI]
theorem zG{c:Int}(h:y∈c5 c m):(∃k<m,y=bV c k (jW c))\/y=bV c 0 (jW c)++⟨#[jV (qA c / 147)]⟩:=by
 have hz:∀{y},y∈((List.range m).map λk=>bV c k (jW c))->∃k<m,y=bV c k (jW c):=λh=>by obtain⟨k,hk,rfl⟩:=kN.mp h;exact⟨k,w6.mp hk,rfl⟩
 unfold c5 at h;split at h;rcases Oi h with h|h
 exact .inl (hz h);exact .inr h;exact .inl (hz h)
theorem vW{c:Int}:∀y∈c5 c m,bX y=true:=by
 intro y hy;have hs:=vS c;rcases zG hy with⟨k,_,rfl⟩|rfl
 exact mD (by omega) (by omega);exact B9 (mD (by omega) (by omega)) (by rw[gR];omega)
theorem jY{f:α->T}{xs:List α}{h:FG}{g:FS}{d:IS}(Pv:Nat->En->Prop)(h0:Pv 0 ρ)(hs:∀(i:Nat) x ρ',xs[i]?=some x->Pv i ρ'->h (.tup [.int (i:Int),f x]) ρ' λρ2=>g {nx:=Pv (i+1),ct:=Pv (i+1),bk:=d.nx,rt:=d.rt} ρ2)(hd:∀ρ',Pv xs.length ρ'->d.nx ρ'):hX (dX (xs.map f)) h g d ρ:=⟨Pv,h0,λi t ρ' e p=>by
 unfold dX at e;rw[Sz,fj] at e;cases q:xs[i]? with
 |none=>rw[q] at e;cases e
 |some x=>rw[q] at e;cases e;exact hs i x ρ' q p,λρ' p=>hd ρ' (by unfold dX at p;rw[List.length_mapIdx,cn] at p;exact p)⟩
noncomputable def QB:List (Str×Nat)->Str->Option Nat
 |[],_=>none
 | (k,i)::l,f=>if k=f then some i else QB l f
noncomputable def LU(l:List (Str×Nat))(i:Nat):Rw->List (Str×Nat)
 |.df f _=>match QB l f with
  |some _=>l
  |none=>l++[(f,i)]
 |_=>l
noncomputable def aW(rs:qal):Nat->List (Str×Nat)
 |0=>[]
 |n+1=>match rs[n]? with
  |some r=>LU (aW rs n) n r
  |none=>aW rs n
end Gen
variable{rs:qal}
namespace K5
structure Kd where
 op:Bool
 cl:Bool
 el:Bool
 df:Bool
deriving DecidableEq,Inhabited
section
variable(kd:Nat->Kd)
noncomputable def st:Nat->qao
 |0=>[]
 |k+1=>let s:=if (kd k).cl=true then (st k).dropLast else st k
  if (kd k).op=true then s++[k] else s
noncomputable def dp(k:Nat):Nat:=(st kd k).length
structure WF(n:Nat):Prop where
 ex:∀k,k<n->(kd k).op=true->(kd k).cl=false
 cl:∀k,k<n->(kd k).cl=true->st kd k≠[]
 el:∀k,k<n->(kd k).el=true->st kd k≠[]
 nc:∀k,k<n->(kd k).el=true->(kd k).cl=false/\(kd k).op=false
 dn:∀k,k<n->(kd k).df=true->(kd k).op=true
 fin:st kd n=[]
end
section
variable{kd:Nat->Kd}
theorem oY(h:(kd k).op=true)(h':(kd k).cl=false):st kd (k+1)=st kd k++[k]:=by simp[st,h,h']
theorem mE(h:(kd k).cl=true)(h':(kd k).op=false):st kd (k+1)=(st kd k).dropLast:=by simp[st,h,h']
theorem tf(h:(kd k).cl=false)(h':(kd k).op=false):st kd (k+1)=st kd k:=by simp[st,h,h']
theorem WF.Uk(W:WF kd n)(hk:k<n)(h:(kd k).cl=true):(kd k).op=false:=by
 cases q:(kd k).op with
 |false=>rfl
 |true=>rw[W.ex k hk q] at h;cases h
theorem xJ(W:WF kd n)(hk:k<n)(h:(kd k).op=true):dp kd (k+1)=dp kd k+1:=by unfold dp;rw[oY h (W.ex k hk h)];simp
theorem B_(W:WF kd n)(hk:k<n)(h:(kd k).cl=true):dp kd (k+1)+1=dp kd k:=by unfold dp;rw[mE h (W.Uk hk h),NI];have:0<(st kd k).length:=List.length_pos_iff.mpr (W.cl k hk h);omega
theorem B'(h:(kd k).cl=false)(h':(kd k).op=false):dp kd (k+1)=dp kd k:=by unfold dp;rw[tf h h']
theorem Jc(W:WF kd n):∀k,k<=n->∀i j,(st kd k)[i]?=some j->j<k/\(kd j).op=true/\dp kd j=i/\∀m,j<m->m<=k->i<dp kd m
 |0,_,i,j,h=>by simp[st] at h
 |k+1,hk,i,j,h=>by
  have ih:=Jc W k (by omega);have QC:k<n:=by omega
  have ext:∀{i j:Nat},(st kd k)[i]?=some j->i<dp kd (k+1)->j<k+1/\(kd j).op=true/\dp kd j=i/\∀m,j<m->m<=k+1->i<dp kd m:=λ{i j} h hd=>by obtain⟨a,b,c,d⟩:=ih i j h;refine⟨by omega,b,c,λm h1 h2=>?_⟩;by_cases e:m=k+1;rw[e];exact hd;exact d m h1 (by omega)
  by_cases ho:(kd k).op=true;rw[oY ho (W.ex k QC ho)] at h;have hd:=xJ W QC ho;by_cases hi:i<(st kd k).length;rw[k7 hi] at h;exact ext h (by rw[hd];exact NL hi);rw[pP (by omega)] at h;have e:i-(st kd k).length=0:=by
   cases q:i-(st kd k).length with
   |zero=>rfl
   |succ r=>rw[q] at h;simp at h
  rw[e] at h;simp at h;subst h;have ei:i=dp kd k:=by unfold dp;omega
  refine⟨by omega,ho,ei.symm,λm h1 h2=>?_⟩;have:m=k+1:=by omega
  rw[this,hd,ei];omega;have lH:(kd k).op=false:=by cases q:(kd k).op<;>simp_all
  by_cases hc:(kd k).cl=true;rw[mE hc lH] at h;have hi:i<(st kd k).dropLast.length:=(dJ.mp h).1;have hd:dp kd (k+1)=(st kd k).dropLast.length:=by unfold dp;rw[mE hc lH]
  rw[List.getElem?_dropLast,if_pos (by rw[NI] at hi;exact hi)] at h;exact ext h (by rw[hd];exact hi);have nM:(kd k).cl=false:=by cases q:(kd k).cl<;>simp_all
  rw[tf nM lH] at h;have hd:dp kd (k+1)=dp kd k:=B' nM lH;exact ext h (by rw[hd];exact (dJ.mp h).1)
theorem Jd(W:WF kd n){j:Nat}(ho:(kd j).op=true):∀k,j<k->k<=n->(∀m,j<m->m<=k->dp kd j<dp kd m)->(st kd k)[dp kd j]?=some j
 |0,h,_,_=>by omega
 |k+1,h,hk,hm=>by
  have QC:k<n:=by omega
  by_cases e:j=k;subst e;rw[oY ho (W.ex j QC ho)];unfold dp;rw[pP (bG _)];simp;have ih:=Jd W ho k (by omega) (by omega) λm h1 h2=>hm m h1 (by omega);have hd:=hm (k+1) (by omega) (bG _);by_cases lH:(kd k).op=true;rw[oY lH (W.ex k QC lH),k7 (dJ.mp ih).1];exact ih;have LV:(kd k).op=false:=by cases q:(kd k).op<;>simp_all
  by_cases hc:(kd k).cl=true;have hl:dp kd (k+1)=(st kd k).length-1:=by unfold dp;rw[mE hc LV,NI]
  rw[mE hc LV,List.getElem?_dropLast,if_pos (by omega)];exact ih;have nM:(kd k).cl=false:=by cases q:(kd k).cl<;>simp_all
  rw[tf nM LV];exact ih
noncomputable def gS(kd:Nat->Kd)(n d:Nat):Nat->Nat->Option Nat
 |0,_=>none
 |f+1,k=>if k<n then (if dp kd (k+1)=d then some k else gS kd n d f (k+1)) else none
noncomputable def endOf(kd:Nat->Kd)(n j:Nat):Option Nat:=gS kd n (dp kd j) (n-(j+1)) (j+1)
theorem i9{d:Nat}:∀{f k e:Nat},gS kd n d f k=some e->k<=e/\e<n/\dp kd (e+1)=d/\∀m,k<=m->m<e->dp kd (m+1)≠d
 |0,_,_,h=>by cases h
 |f+1,k,e,h=>by
  simp only[gS] at h;split at h
  rename_i hk
  split at h
  rename_i hd
  cases h;exact⟨bG _,hk,hd,λm h1 h2=>by omega⟩
  rename_i hd
  obtain⟨a,b,c,r⟩:=i9 h;refine⟨by omega,b,c,λm h1 h2=>?_⟩;by_cases em:m=k;rw[em];exact hd;exact r m (by omega) h2;cases h
theorem i_{d:Nat}:∀{f k:Nat},gS kd n d f k=none->∀m,k<=m->m<k+f->m<n->dp kd (m+1)≠d
 |0,k,_,m,h1,h2,_=>by omega
 |f+1,k,h,m,h1,h2,h3=>by
  simp only[gS] at h;split at h;split at h;cases h
  rename_i hd
  by_cases em:m=k;rw[em];exact hd;exact i_ h m (by omega) (by omega) h3;omega
theorem Gx(W:WF kd n)(hk:k<n):dp kd k<=dp kd (k+1)+1:=by
 by_cases ho:(kd k).op=true;rw[xJ W hk ho];omega;have lH:(kd k).op=false:=by cases q:(kd k).op<;>simp_all
 by_cases hc:(kd k).cl=true;rw[B_ W hk hc];exact bG _;have nM:(kd k).cl=false:=by cases q:(kd k).cl<;>simp_all
 rw[B' nM lH];omega
theorem above(W:WF kd n){j:Nat}(hj:j<n)(ho:(kd j).op=true):∀k,j<k->k<=n->(∀m,j<m->m<k->dp kd (m+1)≠dp kd j)->∀m,j<m->m<=k->dp kd j<dp kd m
 |0,h,_,_,m,_,_=>by omega
 |k+1,h,hk,f6,m,h1,h2=>by by_cases em:m=k+1;subst em;by_cases e:j=k;subst e;rw[xJ W hj ho];omega;have ih:=above W hj ho k (by omega) (by omega) (λm a b=>f6 m a (by omega)) k (by omega) (bG _);have s:=Gx W (k:=k) (by omega);have ne:=f6 k (by omega) (by omega);omega;by_cases e:j=k;omega;exact above W hj ho k (by omega) (by omega) (λm a b=>f6 m a (by omega)) m h1 (by omega)
theorem end_is(W:WF kd n)(hj:j<n)(ho:(kd j).op=true):∃e,endOf kd n j=some e/\j<e/\e<n/\dp kd (e+1)=dp kd j/\∀m,j<m->m<e->dp kd (m+1)≠dp kd j:=by
 cases h:endOf kd n j with
 |some e=>obtain⟨a,b,c,d⟩:=i9 h;exact⟨e,rfl,by omega,b,c,λm h1 h2=>d m (by omega) h2⟩
 |none=>
  exfalso;have q:=i_ h;have a:=above W hj ho n hj (bG _) (λm h1 h2=>q m (by omega) (by omega) h2) n hj (bG _);have z:dp kd n=0:=by unfold dp;rw[W.fin];rfl
  omega
theorem oZ:∀k,(st kd k).Pairwise (·<·)/\∀j∈st kd k,j<k
 |0=>⟨List.Pairwise.nil,λj h=>(by simp[st] at h)⟩
 |k+1=>by
  obtain⟨h1,h2⟩:=oZ k;have base:∀{s:qao},s.Sublist (st kd k)->s.Pairwise (·<·)/\∀j∈s,j<k:=λsl=>⟨h1.sublist sl,λj h=>h2 j (sl.subset h)⟩;have key:∀{s:qao},s.Sublist (st kd k)->(if (kd k).op=true then s++[k] else s).Pairwise (·<·)/\∀j∈(if (kd k).op=true then s++[k] else s),j<k+1:=λ{s} sl=>by
   obtain⟨a,b⟩:=base sl;split;refine⟨Om.mpr ⟨a,List.pairwise_singleton _ _,λx hx y hy=>by rw[cT.mp hy];exact b x hx⟩,λj hj=>?_⟩;rcases g7.mp hj with h|h
   exact NL (b j h);rw[cT.mp h];exact AV _;exact⟨a,λj hj=>NL (b j hj)⟩
  simp only[st];by_cases hc:(kd k).cl=true;rw[if_pos hc];exact key (List.dropLast_sublist _);rw[if_neg hc];exact key (List.Sublist.refl _)
noncomputable def endsAt(kd:Nat->Kd)(n j:Nat):Option Nat:=if (kd j).op=true then endOf kd n j else none
theorem Gy(W:WF kd n)(hk:k<n)(hc:(kd k).cl=true)(ht:(st kd k).getLast?=some j):endsAt kd n j=some k/\j<k:=by
 have hl:(st kd k)[(st kd k).length-1]?=some j:=by rw[<- Sn];exact ht
 obtain⟨a,b,c,d⟩:=Jc W k (by omega) _ j hl;obtain⟨e,h1,h2,h3,h4,h5⟩:=end_is W (by omega) b;refine⟨?_,a⟩;unfold endsAt;rw[if_pos b,h1]
 congr 1
 have hd:=B_ W hk hc;have vK:dp kd (k+1)=dp kd j:=by rw[c];unfold dp at hd ⊢;omega
 rcases Nat.lt_or_ge e k with l|l
 have:=d (e+1) (by omega) (by omega);omega;rcases Nat.lt_or_ge k e with l2|l2
 exact absurd vK (h5 k a l2);omega
theorem xK(W:WF kd n)(hk:k<n)(he:endsAt kd n j=some k)(hj:j<n):(kd k).cl=true/\(st kd k).getLast?=some j:=by
 unfold endsAt at he;by_cases ho:(kd j).op=true;rw[if_pos ho] at he;obtain⟨e,h1,h2,h3,h4,h5⟩:=end_is W hj ho;rw[h1] at he;cases he;have ab:=above W hj ho k h2 (by omega) λm x y=>h5 m x y;have hk0:=ab k h2 (bG _);have hc:(kd k).cl=true:=by
  cases q:(kd k).cl with
  |true=>rfl
  |false=>exfalso;by_cases lH:(kd k).op=true;rw[xJ W hk lH] at h4;omega;rw[B' q (by cases r:(kd k).op<;>simp_all)] at h4;omega
 refine⟨hc,?_⟩;have hd:=B_ W hk hc;have:=Jd W ho k h2 (by omega) ab;rw[Sn];have e:(st kd k).length-1=dp kd j:=by unfold dp at hd h4 ⊢;omega
 rw[e];exact this;rw[if_neg ho] at he;cases he
end
end K5
namespace VT
open PySem PySem.Spec PyProof.Rows L2
structure Ca(K:qaf)(H H':Hp)(Ox:qah)(us:qaj)(p:Addr)(ls:qah):Prop where
 same:aF H H'
 tup:H' p=some (.tup (ls.map V.ref))
 nd:ls.Nodup
 new:∀a∈ls,H a=none
 Xr:Paired (λa t=>b_ K H' (ls++Ox) a t) ls us
def LW(K:qaf)(n:Nat)(G:qaj->(qaj->Prop)->Prop):Sp:=λvs H Q _=>∃ts Ox q,(∀a∈Ox,H a≠none)/\ax K H Ox ts vs/\ts.length=n/\G ts q /\
 ∀us,q us->∀p ls H',Ca K H H' Ox us p ls->Q (.ref p) H'
structure VY(K:qaf)(Z:Zc)(tm:qab)(d:IS)(dp:qaj->Prop)(D:Ends):Prop where
 fin:Fin K Z tm d D
 dp:∀us,dp us->∀p ls H',Ca K Z.H0 H' Z.Ox us p ls->D.rt (.ref p) H'
abbrev Je:=IS->(qaj->Prop)->En->Prop
def Xs(X:Cx)(Z:Zc)(tm:qab)(g:Je):TS:=λD σ H=>∃ρ O d dp,au X.K Z tm O ρ σ H/\g d dp ρ/\VY X.K Z tm d dp D
def zH(X:Cx)(Z:Zc)(st:qaq)(g:Je):Prop:=Bx λtm=>ik X st (Xs X Z tm g)
instance{X:Cx}{Z:Zc}{st:qaq}{g:Je}:CoeFun (zH X Z st g) λ_=>∀tm,ik X st (Xs X Z tm g):=⟨λh=>Bx.h h⟩
noncomputable def Gz(ρ:En):qao->Option (qaj)
 |[]=>some []
 |i::is=>match ρ[i]?,Gz ρ is with
  |some (some (t,true)),some ts=>some (t::ts)
  |_,_=>none
section
variable{X:Cx}{st:Stmt}{rest:qaq}{g:FS}{u:Je}
def QD(g:FS)(u:Je):Je:=λd dp ρ=>g {d with nx:=u d dp} ρ
theorem dY(h1:VS X Z st g)(h2:zH X Z rest u):zH X Z (st::rest) (QD g u):=.mk λtm=>ik.kB (gp (h1 tm) (h2 tm)) λD σ H ⟨ρ,O,d,dp,I,h,F⟩ =>
 ⟨ρ,O,{d with nx:=u d dp},I,h,⟨λO' ρ' σ' H' I' h'=>⟨ρ',O',d,dp,I',h',F⟩,F.fin.rt,F.fin.bk,F.fin.ct⟩⟩
def qD(X:Cx):qap->qao->Prop
 |[],is=>is=[]
 |e::es,is=>∃x p i js,e=.Name x p/\is=i::js/\X.N[i]?=some x/\ko X.env.scope x/\(x==("__debug__":Str))=false/\(x==("__classdict__":Str))=false/\starEach (e::es) X.env=(false,eval e X.env)::starEach es X.env/\qD X es js
def QE(is:qao):TA:=λσ H Q=>∃vs,Paired (λ(i:Nat) (v:V)=>σ[i]?=some (some v)) is vs/\Q vs H
theorem xM:∀{es:qap}{is:qao},qD X es is->PA X es (QE is)
 |[],is,h=>λpos pins s σ H Q I ⟨vs,hv,q⟩=>by have e:is=[]:=h;subst e;cases hv;exact cF pos pins s σ H Q I q
 |e::es,is,h=>by
  obtain⟨x,p,i,js,rfl,rfl,h1,h2,h3,h4,h5,h6⟩:=h;exact PA.weak (a8 (bD h1 h2 h3 h4) (xM h6) h5) λσ H Q ⟨vs,hv,q⟩=>by
   cases hv with
   |cons r t=>exact⟨_,r,_,t,q⟩
theorem tq{K:qaf}{tm:qab}{O:HD}{ρ:En}{σ:St}{H:Hp}(I:au K Z tm O ρ σ H):∀{is:qao}{ts:qaj},Gz ρ is=some ts ->
  ∃ls:qah,Paired (λ(i:Nat) (v:V)=>σ[i]?=some (some v)) is (ls.map V.ref)/\Paired (λ(i:Nat) (a:Addr)=>O[i]?=some (some a)) is ls/\Paired (λa t=>b_ K H (av Z O) a t) ls ts
 |[],ts,h=>by cases h;exact⟨[],.nil,.nil,.nil⟩
 |i::is,ts,h=>by
   simp only[Gz] at h;split at h
   rename_i t us e1 e2
   cases h;obtain⟨a,h1,h2,h3⟩:=I.root e1;obtain⟨ls,g1,g2,g3⟩:=tq I e2;exact⟨a::ls,.cons h2 g1,.cons h1 g2,.cons h3 g3⟩;cases h
theorem eD{R:α->β->Prop}{l:List α}{m:List β}(h:Paired R l m){b:β}(hb:b∈m):∃a∈l,R a b:=by
 induction h with
 |nil=>cases hb
 |cons r t ih=>
  rcases dh.mp hb with e|hb
  subst e;exact⟨_,dq,r⟩;obtain⟨a,h1,h2⟩:=ih hb;exact⟨a,d3 _ h1,h2⟩
theorem vX{tm:qab}(I:au K Z tm O ρ σ H){ls:qah}(nd:is.Nodup)(h:Paired (λ(i:Nat) (a:Addr)=>O[i]?=some (some a)) is ls):ls.Nodup:=by
 induction h with
 |nil=>exact E1
 |cons r t ih=>rw[lC] at nd ⊢;refine⟨λm=>?_,ih nd.2⟩;obtain⟨j,hj,e⟩:=eD t m;exact nd.1 (by rw[sR I r e];exact hj)
noncomputable def Jf(is:qao):Je:=λ_ dp ρ=>match Gz ρ is with
 |some ts=>dp ts
 |none=>False
theorem GA{x1}(hP:Z.P=[])(hn:qD X es is)(nd:is.Nodup)(hl:is.length<=100):zH X Z [.Return (some (.Tuple es x1 p)) pos] (Jf is):=.mk λtm=>
 iO (PS.weak (u7 (jE (xM hn))) λD σ H ⟨ρ,O,d,dp,I,h,F⟩=>by
  unfold Jf at h;split at h
  rename_i ts e
  obtain⟨ls,g1,g2,g3⟩:=tq I e;refine⟨ls.map V.ref,g1,?_,λq hq=>F.dp ts h q ls _ ⟨?_,ay,vX I nd g2,λa ha=>?_,?_⟩⟩;rw[cn,<- Ih g2,sizeLine_eq];omega;intro b o eb;have:=I.keep b o eb (by rw[hP];exact λz=>nomatch z);rw[ar (aS this hq)];exact this;obtain⟨i,_,e⟩:=eD g2 ha;rcases (I.own a (aA.mpr (fY e))).1 with z|z
  rw[hP] at z;exact nomatch z;exact z;refine Paired.iM g3 λa t r=>(r.same (aB hq)).aP λb hb=>?_;rcases g7.mp hb with z|z
  obtain⟨i,_,e⟩:=eD g2 z;exact hU _ (aA.mpr (fY e));exact g6 _ z;exact h.elim)
end
section
theorem dZ(n:Nat):roots (List.replicate n none)=[]:=by
 unfold roots;induction n with
 |zero=>rfl
 |succ n ih=>rw[AD,k8];exact ih
theorem jZ{N:qai}{Ox:qah}{ts:qaj}(hN:ts.length<=N.length)(ox:∀a∈Ox,H a≠none)(h:ax K H Ox ts vs) :
  au K ⟨H,[],Ox⟩ [] (List.replicate N.length none) (ts.map (λt=>some (t,false))++List.replicate (N.length-ts.length) none) (start N vs) H:=by
 have hl:=h.length;have ea:av ⟨H,[],Ox⟩ (List.replicate N.length none)=Ox:=by unfold av;rw[dZ];rfl
 refine⟨?_,by simp;omega,λi e he=>?_,by rw[dZ];exact E1,λa ha=>?_,λp hp=>(nomatch hp),ox,λb o e _=>e,λp hp=>(nomatch hp)⟩;unfold L2.start;simp[hl];rw[ea];by_cases hi:i<ts.length;rw[k7 (by simpa using hi),fj] at he;have e1:ts[i]?=some ts[i]:=by simp
 rw[e1] at he;cases he;obtain⟨v,h1,h2⟩:=h.get e1;refine⟨none,some v,by rw[wY,if_pos (by omega)],?_,rfl,v,rfl,h2⟩;unfold L2.start;rw[k7 (by rw[cn];omega),fj,h1];rfl;rw[pP (by simpa using hi),wY] at he;split at he
 rename_i eJ
 cases he;rw[cn] at eJ;refine⟨none,none,by rw[wY,if_pos (by omega)],?_,rfl⟩;unfold L2.start;rw[pP (by rw[cn];omega),wY,cn,if_pos (by omega)];cases he;rw[dZ] at ha;exact nomatch ha
theorem Xu{st:Stmt}{N:qai}{G:qaj->(qaj->Prop)->Prop}(F:y_ K x qual st f fd)(S:aG N ps (aq st))(hn:n=ps.length)(hN:n<=N.length)(dP:∀(bw:Value) (A:Around) (outer:List Env) (s:Shared) (H:Hp) (E:XK) (Ox:qah),bb k (A.deeper (envOfC qual (aq st) s.heap.objs.size f bw))->∀ts q,G ts q ->
    ∃g,zH (il gP P w K mg base N qual (aq st) f bw A outer s H E).yO ⟨H,[],Ox⟩ (bB st) g/\(ts.length=n->g {nx:=λ_=>False,rt:=λ_ _=>False} q (ts.map (λt=>some (t,false))++List.replicate (N.length-ts.length) none))) :
  cU P w K mg base gP (k+1) f fd ps (LW K n G):=by
 refine F.ok S (λvs H Q E h=>?_) (λbw A outer s H vs Q E hr h=>?_);obtain⟨ts,Ox,q,_,ha,hl,_⟩:=h;rw[ha.length,hl,hn];obtain⟨ts,Ox,q,ox,ha,hl,hG,kk⟩:=h;obtain⟨g,hg,hq⟩:=dP bw A outer s H E Ox hr ts q hG;exact⟨_,hg [],_,_,_,q,jZ (by omega) ox ha,hq hl,⟨⟨λ_ _ _ _ _ h=>h.elim,λ_ _ _ _ _ _ _ h=>h.elim,λ_ _ _ _ _ h=>h.elim,λ_ _ _ _ _ h=>h.elim⟩,λus hu p ls H' D=>kk us hu p ls H' D⟩⟩
end
section
variable{X:Cx}{G:qaj->(qaj->Prop)->Prop}
noncomputable def lD(X:Cx)(Z:Zc)(tm:qab)(f:En->(qaj->Prop)->Prop):TE:=λσ H Q=>∃ρ O q,au X.K Z tm O ρ σ H/\f ρ q/\∀us,q us->∀p ls H',Ca X.K H H' (av Z O) us p ls->Q (.ref p) H'
def VD(X:Cx)(Z:Zc)(e:Expr)(f:En->(qaj->Prop)->Prop):Prop:=Bx λtm=>PE X e (lD X Z tm f)
instance{X:Cx}{Z:Zc}{e:Expr}{f:En->(qaj->Prop)->Prop}:CoeFun (VD X Z e f) λ_=>∀tm,PE X e (lD X Z tm f):=⟨λh=>Bx.h h⟩
def LX(n:Nat)(g:FA)(G:qaj->(qaj->Prop)->Prop):En->(qaj->Prop)->Prop:=λρ Q=>g ρ λts=>ts.length=n/\G ts Q
theorem xN(F:cU X.prog X.w X.K X.mg X.base gP k f fd ps (LW X.K n G))(hr:bb k X.A)(hg:Gl X x)(hm:X.mg x=some (.ref f))(hk:PySem.W.keepIn X.K (.ref f)=true)(hb:Binds X.K fd ps [])(ha:VA X Z (e::es) g)(nP:eG x:=by decide)(he:starEach (e::es) X.env=(false,eval e X.env)::starEach es X.env:=by rfl)(ku:(backTo pos (starEach es X.env)).any (·.1)=false:=by rfl) :
  VD X Z (.Call (.Name x p) (e::es) [] pos) (LX n g G):=.mk λtm=>PE.weak (gO F hr hg hm hk hb .nil kz (ha tm) nP he ku) λσ H Q ⟨ρ,O,q,I,hf,k⟩ =>
 ⟨ρ,O,_,I,hf,λts d5 vs H1 s1 a1=>by
   show LW X.K n G (vs++[]) H1 Q E0;rw[Ew];refine⟨ts,av Z O,q,(I.same s1).FR,a1,d5.1,d5.2,λus hu p ls H' D=>k us hu p ls H' ⟨s1.trans D.same,D.tup,D.nd,λa ha=>?_,D.Xr⟩⟩;cases z:H a with
   |none=>rfl
   |some o=>have:=D.new a ha;rw[s1 _ _ z] at this;cases this⟩
theorem Ca.at{tm:qab}{us:qaj}{p:Addr}{ls:qah}(I:au K Z tm O ρ σ H)(D:Ca K H H' (av Z O) us p ls):At K H' (av Z O) (.tup us) (.ref p):=by
 refine cP (dy.of D.tup) (ax.iff.mpr ?_);have key:∀{Tw:qah}{Jg:qaj},(∀a∈Tw,a∈ls)->Paired (λa t=>b_ K H' (ls++av Z O) a t) Tw Jg->Paired (λv t=>At K H' (av Z O) t v) (Tw.map V.ref) Jg:=by
  intro Tw Jg sub h;induction h with
  |nil=>exact .nil
  |cons r t ih=>refine .cons ((r.aP λb hb=>g6 _ hb).at λz=>?_) (ih λa ha=>sub a (d3 _ ha));exact I.FR _ z (D.new _ (sub _ dq))
 exact key (λ_ h=>h) D.Xr
def QF(f:En->(qaj->Prop)->Prop):FP:=λρ Q=>f ρ λus=>Q (.vw (.tup us))
theorem VD.vp{f:En->(qaj->Prop)->Prop}(h:VD X Z e f):VP X Z e (QF f):=.mk λtm=>PE.weak (h tm) λσ H Q ⟨ρ,O,q,I,hf,k⟩ =>
 ⟨ρ,O,_,I,hf,λus hu p ls H' D=>k _ hu _ H' D.same ⟨I.same D.same,D.at I⟩⟩
end
end VT
namespace K5
open PySem L2 VT Gen
noncomputable def wordOf:Rw->Str
 |.df _ _=>"def" | .give _=>"give" | .put _ _=>"put" | .Xq _ _ _ _=>"do" | .new _=>"new" | .get _ _ _=>"get" | .set _ _ _=>"set" | .call _ _ _=>"call" | .fail _=>"fail"
 |.B6 _=>"if" | .QA=>"else" | .B7 _=>"while" | .fin=>"end" | .skip=>"skip"
theorem eT(r:Rw):∃l,aU r=.tup (.str (wordOf r)::l):=by cases r<;>exact⟨_,rfl⟩
noncomputable def aQ:Rw->Kd
 |.df _ _=>⟨true,false,false,true⟩
 |.give _=>⟨false,true,false,false⟩
 |.B6 _=>⟨true,false,false,false⟩
 |.QA=>⟨false,false,true,false⟩
 |.B7 _=>⟨true,false,false,false⟩
 |.fin=>⟨false,true,false,false⟩
 |_=>⟨false,false,false,false⟩
theorem QG(r:Rw):decide (wordOf r="def")=(aQ r).df:=by cases r<;>first|rfl|decide +kernel
theorem QH(r:Rw):decide (wordOf r="else")=(aQ r).el:=by cases r<;>first|rfl|decide +kernel
theorem QI(r:Rw):LF (.str (wordOf r)) [.str "give",.str "end"]=(aQ r).cl:=by cases r<;>first|rfl|decide +kernel
theorem QJ(r:Rw):LF (.str (wordOf r)) [.str "def",.str "if",.str "while"]=(aQ r).op:=by cases r<;>first|rfl|decide +kernel
noncomputable def bz(rs:qal)(k:Nat):Kd:=match rs[k]? with
 |some r=>aQ r
 |none=>⟨false,false,false,false⟩
theorem j1{r:Rw}(h:rs[k]?=some r):bz rs k=aQ r:=by unfold bz;rw[h]
def N0(rs:qal):Prop:=WF (bz rs) rs.length
noncomputable def oT:Option Nat->T
 |none=>.a9
 |some k=>.int (k:Int)
noncomputable def tab(f:Nat->Option Nat)(n k:Nat):qaj:=(List.range n).map λi=>if i<k then oT (f i) else .a9
def f9(e:Nat->Option Nat)(n k:Nat):qaj:=(List.range n).map λj=>match e j with
 |some m=>if m<k then .int (m:Int) else .a9
 |none=>.a9
theorem ja(f n k):(tab f n k).length=n:=by simp[tab]
theorem tu(f n k):(f9 f n k).length=n:=by simp[f9]
theorem tw(f n):tab f n 0=List.replicate n .a9:=by unfold tab;rw[List.eq_replicate_iff];exact⟨by simp,λx hx=>by simp at hx;exact hx.2.symm⟩
theorem zI(f n):f9 f n 0=List.replicate n .a9:=by unfold f9;rw[List.eq_replicate_iff];refine⟨by simp,λx hx=>?_⟩;obtain⟨j,_,rfl⟩:=kN.mp hx;split<;>simp
theorem lq{f:Nat->Option Nat}:(tab f n k).set k (oT (f k))=tab f n (k+1):=by refine List.ext_getElem? λi=>?_;rw[List.getElem?_set,ja];unfold tab;rw[fj,fj];by_cases hi:i<n;rw[So hi];by_cases e:k=i;subst e;rw[if_pos rfl,if_pos hi];simp;rw[if_neg e];simp only[Option.map_some];by_cases l:i<k;rw[if_pos l,if_pos (by omega)];rw[if_neg l,if_neg (by omega)];rw[Sw (by simp;omega)];split;rw[if_neg (by omega)];rfl;rfl
theorem tD{f:Nat->Option Nat}(h:f k=none):tab f n k=tab f n (k+1):=by unfold tab;refine Et λi _=>?_;by_cases e:i=k;subst e;rw[if_neg (AF _),if_pos (AV _),h];rfl;by_cases l:i<k;rw[if_pos l,if_pos (by omega)];rw[if_neg l,if_neg (by omega)]
theorem tF(f n):tab f n n=(List.range n).map λi=>oT (f i):=by unfold tab;exact Et λi hi=>by rw[if_pos (w6.mp hi)]
theorem Cb{e:Nat->Option Nat}(h:e j=some k)(u:∀i,i<n->e i=some k->i=j):(f9 e n k).set j (.int (k:Int))=f9 e n (k+1):=by
 refine List.ext_getElem? λi=>?_;rw[List.getElem?_set,tu];unfold f9;rw[fj,fj];by_cases hi:i<n;rw[List.getElem?_range hi];by_cases q:j=i;subst q;rw[if_pos rfl,if_pos hi];simp[h];rw[if_neg q];simp only[Option.map_some];cases r:e i with
 |none=>rfl
 |some m=>have:m≠k:=λz=>q (u i hi (by rw[r,z])).symm;simp only;by_cases l:m<k;rw[if_pos l,if_pos (by omega)];rw[if_neg l,if_neg (by omega)]
 rw[Sw (by simp;omega)];split;rw[if_neg (by omega)];rfl;rfl
theorem zJ{e:Nat->Option Nat}(u:∀i,i<n->e i≠some k):f9 e n k=f9 e n (k+1):=by
 unfold f9;refine Et λi hi=>?_;cases r:e i with
 |none=>rfl
 |some m=>have:m≠k:=λz=>u i (w6.mp hi) (by rw[r,z]);simp only;by_cases l:m<k;rw[if_pos l,if_pos (by omega)];rw[if_neg l,if_neg (by omega)]
theorem zK{e:Nat->Option Nat}(h:∀j m,j<n->e j=some m->m<n):f9 e n n=(List.range n).map λi=>oT (e i):=by
 unfold f9;refine Et λi hi=>?_;cases r:e i with
 |none=>rfl
 |some m=>simp only;rw[if_pos (h i m (w6.mp hi) r)];rfl
section
variable(kd:Nat->Kd)
noncomputable def EL(k:Nat):Option Nat:=(st kd k).getLast?
noncomputable def j2(k:Nat):Option Nat:=if (kd k).df=true then some k else (st kd k).head?
noncomputable def vY(n:Nat):Nat->qaj
 |0=>List.replicate n .a9
 |k+1=>match (kd k).el,EL kd k with
  |true,some h=>(vY n k).set h (.int (k:Int))
  |_,_=>vY n k
end
theorem qF(kd n):∀k,(vY kd n k).length=n
 |0=>by simp[vY]
 |k+1=>by simp only[vY];split;rw[List.length_set];exact qF kd n k;exact qF kd n k
noncomputable def Cc(rs:qal):qaj:=[.lst ((List.range rs.length).map λi=>oT (EL (bz rs) i)),.lst ((List.range rs.length).map λi=>oT (endsAt (bz rs) rs.length i)),.lst (vY (bz rs) rs.length rs.length),.lst ((List.range rs.length).map λi=>oT (j2 (bz rs) i))]
theorem Cd(rs:qal):dX (rs.map aU)=(rs.zipIdx).map λp=>.tup [.int (p.2:Int),aU p.1]:=by unfold dX;refine List.ext_getElem? λi=>?_;rw[Sz,fj,fj,List.getElem?_zipIdx];cases rs[i]?<;>simp
noncomputable def dr:Nat->qal->Option Nat
 |d,[]=>some d
 |d,r::rs=>if (aQ r).cl=true then (if d=0 then none else dr (d-1) rs) else if (aQ r).el=true then (if d=0 then none else dr d rs) else if (aQ r).op=true then dr (d+1) rs else dr d rs
theorem fO:∀(a b:qal)(d:Nat),dr d (a++b)=(dr d a).bind λe=>dr e b
 |[],b,d=>rfl
 |r::a,b,d=>by simp only[List.cons_append,dr];split;split;rfl;exact fO a b _;split;split;rfl;exact fO a b _;split;exact fO a b _;exact fO a b _
theorem LY(rs:qal){r:Rw}(h:rs[k]?=some r):(st (bz rs) (k+1)).length=(if (aQ r).cl=true then (st (bz rs) k).length-1 else if (aQ r).op=true then (st (bz rs) k).length+1 else (st (bz rs) k).length):=by
 have kG:=j1 h;by_cases hc:(aQ r).cl=true;have ho:(aQ r).op=false:=by cases r<;>first|rfl|(cases hc)
 rw[if_pos hc,mE (by rw[kG];exact hc) (by rw[kG];exact ho),NI];have nM:(aQ r).cl=false:=by cases q:(aQ r).cl<;>simp_all
 rw[if_neg hc];by_cases ho:(aQ r).op=true;rw[if_pos ho,oY (by rw[kG];exact ho) (by rw[kG];exact nM)];simp;rw[if_neg ho,tf (by rw[kG];exact nM) (by rw[kG];cases q:(aQ r).op<;>simp_all)]
theorem lr{rs:qal}(h:dr 0 rs=some 0):∀k,k<=rs.length->dr 0 (rs.take k)=some (st (bz rs) k).length
 |0,_=>rfl
 |k+1,hk=>by
  have ih:=lr h k (by omega);have e:rs[k]?=some rs[k]:=by simp
  have et:rs.take (k+1)=rs.take k++[rs[k]]:=by rw[List.take_succ,e];rfl
  have hs:(dr 0 (rs.take (k+1))).isSome=true:=by
   rw[<- Sx (k+1) rs,fO] at h;cases q:dr 0 (rs.take (k+1)) with
   |some _=>rfl
   |none=>rw[q] at h;cases h
  rw[et,fO,ih,SM] at hs ⊢;rw[LY rs e];simp only[dr] at hs ⊢;by_cases hc:(aQ rs[k]).cl=true;rw[if_pos hc,if_pos hc] at *;by_cases z:(st (bz rs) k).length=0;rw[if_pos z] at hs;cases hs;rw[if_neg z]
  . rw[if_neg hc,if_neg hc] at *;by_cases hl:(aQ rs[k]).el=true
    . have ho:¬ (aQ rs[k]).op=true:=by generalize rs[k]=r at hl;cases r<;>first|(cases hl;done)|(intro z;cases z)
      rw[if_pos hl,if_neg ho] at *;by_cases z:(st (bz rs) k).length=0;rw[if_pos z] at hs;cases hs;rw[if_neg z]
    rw[if_neg hl] at *;split<;>rfl
theorem QK(h:dr 0 rs=some 0):N0 rs:=by
 have at':∀{k:Nat},k<rs.length->∃r,rs[k]?=some r/\bz rs k=aQ r:=λ{k} hk=>⟨rs[k],by simp,j1 (by simp)⟩;have step:∀{k:Nat}{r:Rw},rs[k]?=some r->(aQ r).cl=true\/(aQ r).el=true->st (bz rs) k≠[]:=λ{k r} hr PL z=>by
  have hk:k<rs.length:=(dJ.mp hr).1;have h1:=lr h k (by omega);have h2:=lr h (k+1) (by omega);have et:rs.take (k+1)=rs.take k++[r]:=by rw[List.take_succ,hr];rfl
  rw[et,fO,h1,SM,z] at h2;simp only[dr,List.length_nil] at h2;obtain q|q:=PL
  rw[if_pos q,if_pos True.intro] at h2;cases h2;by_cases q2:(aQ r).cl=true;rw[if_pos q2,if_pos True.intro] at h2;cases h2;rw[if_neg q2,if_pos q,if_pos True.intro] at h2;cases h2
 refine⟨λk hk ho=>?_,λk hk hc=>?_,λk hk hc=>?_,λk hk hc=>?_,λk hk hc=>?_,?_⟩;obtain⟨r,hr,e⟩:=at' hk;rw[e] at ho ⊢;cases r<;>first|rfl|(cases ho)
 obtain⟨r,hr,e⟩:=at' hk;exact step hr (.inl (by rw[<- e];exact hc));obtain⟨r,hr,e⟩:=at' hk;exact step hr (.inr (by rw[<- e];exact hc));obtain⟨r,hr,e⟩:=at' hk;rw[e] at hc ⊢;cases r<;>first|exact⟨rfl,rfl⟩|(cases hc)
 obtain⟨r,hr,e⟩:=at' hk;rw[e] at hc ⊢;cases r<;>first|rfl|(cases hc)
 have:=lr h rs.length (bG _);rw[JM,h] at this;exact Sq.mp (Option.some.inj this).symm
end K5
namespace L2
open PySem PySem.Spec PyProof.Rows
section
variable{X:Cx}
variable{a b:Expr}{tb:TE}
variable{tA OD:TT}{rest:qap}
end
section
variable{X:Cx}{CX:AJ}{ks:qai}{sp:Sp}{E:XK}{m:Str}{vm:Pos}{o:Expr}{Yu:List Keyword}{t tk:TA}{nm:Option Str}
variable{g:qag->qag->qag}{gV:qak->qak->qak}
end
section
variable{κ:Type}[DecidableEq κ]
noncomputable def gw(kvs:List (κ×V))(k:κ):Option V:=(kvs.find? λkv=>decide (kv.1=k)).map (·.2)
noncomputable def putK(kvs:List (κ×V))(k:κ)(v:V):List (κ×V) :=
 if (kvs.any λkv=>decide (kv.1=k))=true then kvs.map (λkv=>if kv.1=k then (kv.1,v) else kv) else kvs++[(k,v)]
theorem gx{p:κ×V}{r:List (κ×V)}{k:κ}(e:p.1=k):gw (p::r) k=some p.2:=by simp[gw,NP,e]
theorem gy{p:κ×V}{r:List (κ×V)}{k:κ}(e:¬ p.1=k):gw (p::r) k=gw r k:=by simp[gw,NP,e]
theorem mF(k:κ):∀kvs:List (κ×V),(kvs.any λkv=>decide (kv.1=k))=(gw kvs k).isSome
 |[]=>rfl
 |p::r=>by rw[yI];by_cases e:p.1=k;simp only[gx e,decide_eq_true e,Bool.true_or,Option.isSome_some];rw[gy e,decide_eq_false e,E2];exact mF k r
theorem gz(kvs:List (κ×V))(k:κ)(v:V):(putK kvs k v).length<=kvs.length+1:=by unfold putK;split;rw[cn];omega;rw[yH,w5,List.length_nil];omega
theorem Ce{kvs:List (κ×V)}{k:κ}(v:V)(h:gw kvs k=none):putK kvs k v=kvs++[(k,v)]:=by unfold putK;rw[mF,h];exact if_neg (by decide)
theorem ij.zL{o:Option V}{u:Option Value}(r:ij o u):o.isSome=u.isSome:=by
 cases o with
 |none=>cases u with
  |none=>rfl
  |some _=>exact (show False from r).elim
 |some _=>cases u with
  |none=>exact (show False from r).elim
  |some _=>rfl
theorem ij.getD{o:Option V}{u:Option Value}{d:V}{d':Value}(r:ij o u)(rd:RelV d d'):RelV (o.getD d) (u.getD d'):=by
 cases o with
 |none=>cases u with
  |none=>exact rd
  |some _=>exact (show False from r).elim
 |some _=>cases u with
  |none=>exact (show False from r).elim
  |some _=>exact r
theorem KV.val{kvs:List (κ×V)}{vs:List (κ×Value)}(r:KV kvs vs)(k:κ):ij (gw kvs k) (valueAt vs k):=by
 unfold KV at r;induction r with
 |nil=>exact True.intro
 |@cons p q ps qs h t ih=>
  obtain⟨h1,h2⟩:=h;by_cases e:p.1=k;have e':q.1=k:=h1.symm.trans e;have b:valueAt (q::qs) k=some q.2:=by simp[valueAt,NP,e']
  rw[gx e,b];exact h2;have e':¬ q.1=k:=λz=>e (h1.trans z);have b:valueAt (q::qs) k=valueAt qs k:=by simp[valueAt,NP,e']
  rw[gy e,b];exact ih
theorem KV.any{kvs:List (κ×V)}{vs:List (κ×Value)}(r:KV kvs vs)(k:κ):(kvs.any λkv=>decide (kv.1=k))=vs.any λkv=>decide (kv.1=k):=by
 unfold KV at r;induction r with
 |nil=>rfl
 |cons h t ih=>rw[yI,yI,ih,h.1]
theorem KV.LZ{kvs:List (κ×V)}{vs:List (κ×Value)}(r:KV kvs vs)(k:κ){y:V}(ry:RelV y u) :
  KV (kvs.map λkv=>if kv.1=k then (kv.1,y) else kv) (vs.map λkv=>if kv.1=k then (kv.1,u) else kv):=by
 unfold KV at r ⊢;induction r with
 |nil=>exact .nil
 |@cons p q ps qs h t ih=>rw[gj,gj];refine .cons ?_ ih;obtain⟨h1,h2⟩:=h;by_cases e:p.1=k;rw[if_pos e,if_pos (h1.symm.trans e)];exact⟨h1,ry⟩;rw[if_neg e,if_neg (λz=>e (h1.trans z))];exact⟨h1,h2⟩
theorem KV.put{kvs:List (κ×V)}{vs:List (κ×Value)}(r:KV kvs vs)(k:κ){y:V}(ry:RelV y u):KV (putK kvs k y) (stored vs k u):=by unfold putK stored;rw[r.any k];by_cases e:(vs.any λkv=>decide (kv.1=k))=true;rw[if_pos e,if_pos e];exact r.LZ k ry;rw[if_neg e,if_neg e];exact Paired.snoc r ⟨rfl,ry⟩
theorem KV.length{kvs:List (κ×V)}{vs:List (κ×Value)}(r:KV kvs vs):kvs.length=vs.length:=Ih r
end
theorem tG{k:Key}(r:RelV (kV k) u):(bq P w).is k u=true:=by
 cases k with
 |inl i=>obtain⟨t,e⟩:=(show ∃t,u=Value.int i t from r);subst e;exact sg P w i t
 |inr x=>obtain⟨t,e⟩:=(show ∃t,u=Value.str x t from r);subst e;exact sk P w x t
theorem o4{P:Program}{w:World}:∀{ks:List Key}{us:qag},Vals (ks.map kV) us->ItemsAre (bq P w) ks us
 |[],_,r=>by rw[NQ] at r;cases r;exact .nil
 |k::ks,_,r=>by
  rw[gj] at r;cases r with
  |cons h t=>exact .cons (tG h) (o4 t)
abbrev KT(H:Hp):List (List Key×V)->List (List Key×Addr×Value)->Prop:=Paired λp q=>p.1=q.1/\H q.2.1=some (.tup (p.1.map kV))/\RelV p.2 q.2.2
theorem KT.val{xs:List (List Key×Addr×Value)}(r:KT H kvs xs)(k:List Key):ij (gw kvs k) ((atKey xs k).map (·.2)):=by
 induction r with
 |nil=>exact True.intro
 |@cons p q ps qs h t ih=>
  obtain⟨h1,_,h2⟩:=h;by_cases e:p.1=k;have e':q.1=k:=h1.symm.trans e;have b:atKey (q::qs) k=some q.2:=by simp[atKey,NP,e']
  rw[gx e,b];exact h2;have e':¬ q.1=k:=λz=>e (h1.trans z);have b:atKey (q::qs) k=atKey qs k:=by simp[atKey,NP,e']
  rw[gy e,b];exact ih
theorem KT.LZ{xs:List (List Key×Addr×Value)}(r:KT H kvs xs)(k:List Key){y:V}(ry:RelV y u) :
  KT H (kvs.map λkv=>if kv.1=k then (kv.1,y) else kv) (xs.map (putAt k u)):=by
 induction r with
 |nil=>exact .nil
 |@cons p q ps qs h t ih=>rw[gj,gj];refine .cons ?_ ih;obtain⟨h1,h2,h3⟩:=h;unfold putAt;by_cases e:p.1=k;rw[if_pos e,if_pos (h1.symm.trans e)];exact⟨h1,h2,ry⟩;rw[if_neg e,if_neg (λz=>e (h1.trans z))];exact⟨h1,h2,h3⟩
theorem KT.put{xs:List (List Key×Addr×Value)}(r:KT H kvs xs)(k:List Key){b:Addr}{y:V}(hb:H b=some (.tup (k.map kV)))(ry:RelV y u) :
  KT H (putK kvs k y) (storedH xs k b u):=by
 have e:(kvs.any λkv=>decide (kv.1=k))=(atKey xs k).isSome:=by rw[mF,(r.val k).zL,Option.isSome_map]
 unfold putK storedH;rw[e];by_cases q:(atKey xs k).isSome=true;rw[if_pos q,if_pos q];exact r.LZ k ry;rw[if_neg q,if_neg q];exact Paired.snoc r ⟨rfl,hb,ry⟩
theorem KT.keeps{xs:List (List Key×Addr×Value)}(r:KT H kvs xs)(ht:∀b ys,H b=some (.tup ys)->H' b=some (.tup ys)):KT H' kvs xs :=
 Paired.iM r λ_ _ z=>⟨z.1,ht _ _ z.2.1,z.2.2⟩
section
variable{a:Addr}
theorem Jh{u:HO}(ok:g8 P w H h)(e:Rd H a u):bh P w H h a u:=e.ok ok
theorem o5{kvs:List (Key×V)}(ok:g8 P w H h)(e:Rd H a (.dK kvs)):kvs.length<=sizeLine/\(a==sysModules)=false/\∃vs,KV kvs vs/\h.DictOf (bq P w) a vs :=
 show bh P w H h a (.dK kvs) from Jh ok e
theorem xO{kvs:List (Key×V)}(ok:g8 P w H h)(e:H a=some (.dK kvs)):kvs.length<=sizeLine/\(a==sysModules)=false/\∃vs,KV kvs vs/\h.DictOf (bq P w) a vs:=o5 ok (.inl e)
theorem qG{ks:List Key}(ok:g8 P w H h)(e:H a=some (.tup (ks.map kV))):(tupleKind (bq P w)).is h ks a:=by obtain⟨_,aH,r,o,h1,h2,n,h3⟩:=(show bh P w H h a (.tup (ks.map kV)) from ok a _ e);exact⟨o,aH.toArray,n,h1,h2,h3,by simpa using o4 r⟩
theorem tH(ok:g8 P w H h)(e:Rd H a (.dT kvs)):kvs.length<=sizeLine/\(a==sysModules)=false /\
  ∃xs,KT H kvs xs/\h.DictOfH (tupleKind (bq P w)) a xs:=by
 obtain⟨z,y,xs,r,o,es,ep,h1,h2,h3,h4,h5⟩:=(show bh P w H h a (.dT kvs) from Jh ok e);refine⟨z,y,xs,r,o,es,ep,h1,h2,h3,h4,λx hx=>?_,h5⟩;have all:∀{l:List (List Key×V)}{m:List (List Key×Addr×Value)},KT H l m->∀x∈m,(tupleKind (bq P w)).is h x.1 x.2.1:=by
  intro l m q;induction q with
  |nil=>intro x hx;exact nomatch hx
  |@cons p q ps qs hq t ih=>
    intro x hx;rcases dh.mp hx with e|hx
    subst e;exact qG ok (by rw[<- hq.1];exact hq.2.1);exact ih x hx
 exact all r x hx
theorem QL(ok:g8 P w H h)(e:H a=some (.dT kvs)):kvs.length<=sizeLine/\(a==sysModules)=false /\
 ∃xs,KT H kvs xs/\h.DictOfH (tupleKind (bq P w)) a xs:=tH ok (.inl e)
end
def Cf(H:Hp)(a:Addr)(y:V)(r:Option V):Prop :=
 (∃kvs k,Rd H a (.dK kvs)/\y=kV k/\r=gw kvs k)\/∃kvs k b,Rd H a (.dT kvs)/\y=.ref b/\H b=some (.tup (k.map kV))/\r=gw kvs k
def tI(H:Hp)(a:Addr)(y v:V)(H':Hp):Prop :=
 (∃kvs k,H a=some (.dK kvs)/\y=kV k/\kvs.length<sizeLine/\H'=upd H a (.dK (putK kvs k v))) \/
 ∃kvs k b,H a=some (.dT kvs)/\y=.ref b/\H b=some (.tup (k.map kV))/\kvs.length<sizeLine/\H'=upd H a (.dT (putK kvs k v))
theorem tI.t{a b:Addr}{k:List Key}(e:H a=some (.dT kvs))(eb:H b=some (.tup (k.map kV)))(hl:kvs.length<sizeLine) :
 tI H a (.ref b) v (upd H a (.dT (putK kvs k v))):=.inr ⟨kvs,k,b,e,rfl,eb,hl,rfl⟩
section
variable{X:Cx}{a:Addr}{y:V}{r:Value}{o:Option V}
theorem Inv.big(I:Inv X pins σ H s):sysModules<s.heap.objs.size:=by have h:mainGlobals<s.heap.objs.size:=(I.mod.glob.keeps I.bk).lt;exact Nat.lt_trans (by decide) h
theorem zM(hu:A.units+1<cLine)(I:Inv X pins σ H s)(g:Cf H a y (some v))(ry:RelV y u)(h:∀w' s',Inv X pins σ H s'->RelV v w'->Q w' s') :
  wpAny (model X.prog X.w) A (getItem (.ref a) u) Q E s:=by
 obtain⟨kvs,k,e,ey,l⟩|⟨kvs,k,b,e,ey,eb,l⟩:=g
 subst ey;obtain⟨z,hd,vs,rel,dd⟩:=o5 I.ba e;obtain⟨w',hw,rw'⟩:=ij.some_of (v:=v) (o:=valueAt vs k) (by rw[l];exact rel.val k);exact wpAny_getItem_of (tG ry) dd.mapOf hw (h w' _ (I.tok _) rw');subst ey;cases (show u=Value.ref b from ry);obtain⟨z,hd,xs,rel,dd⟩:=tH I.ba e;obtain⟨w',hw,rw'⟩:=ij.some_of (v:=v) (o:=(atKey xs k).map (·.2)) (by rw[l];exact rel.val k);obtain⟨p,hp,zA⟩:=EV.mp hw;refine wpAny_getItem_heap (tupleKind_room_in1 hu) (qG I.ba eb) dd hp ?_;rw[zA];exact h w' _ (I.tok _) rw'
theorem qH{ob:HO}(I:Inv X pins σ H s)(mu:Ow (H a))(hs:Heap.SameBut a s.heap h')(he:∃q,h'.get? a=some q)(new:bh X.prog X.w (upd H a ob) h' a ob) :
  Inv X pins σ (upd H a ob) {s with heap:=h',toks:=t'} :=
 I.write (x:=a) (e:=a) mu (.inl rfl) (λb q hb z=>(hs.2 b hb).trans z) he new
theorem Cg{kvs:List (Key×V)}{vs:List (Key×Value)}(z:kvs.length<=sizeLine)(hd:(a==sysModules)=false)(rel:KV kvs vs)(dd:h'.DictOf (bq P w) a vs) :
 bh P w H' h' a (.dK kvs):=⟨z,hd,vs,rel,dd⟩
theorem zN{Q:Unit->Shared->Prop}(hu:A.units+1<cLine)(I:Inv X pins σ H s)(g:tI H a y v H')(ry:RelV y u)(rv:RelV v r)(h:∀s',Inv X pins σ H' s'->Q () s') :
  wpAny (model X.prog X.w) A (setItem (.ref a) u r) Q E s:=by
 obtain⟨kvs,k,e,ey,l,eH⟩|⟨kvs,k,b,e,ey,eb,l,eH⟩:=g
 subst ey eH;obtain⟨z,hd,vs,rel,dd⟩:=xO I.ba e;have hz:vs.length<=sizeLine:=by rw[<- rel.length];exact z
 have hl:(putK kvs k v).length<=sizeLine:=by have:=gz kvs k v;omega
 refine wpAny_setItem_pairs (hsz:=hz) (tG ry) dd λh' L3 hs=>h _ ?_;have he:∃q,h'.get? a=some q:=let ⟨q,_,_,hq,_⟩:=L3;⟨q,hq⟩;exact qH I (by rw[e];exact True.intro) hs he (Cg hl hd (rel.put k rv) L3);subst ey eH;cases (show u=Value.ref b from ry);obtain⟨z,hd,xs,rel,dd⟩:=QL I.ba e;have hz:xs.length<=sizeLine:=by rw[<- Ih rel];exact z
 have hl:(putK kvs k v).length<=sizeLine:=by have:=gz kvs k v;omega
 refine wpAny_setItem_heap (hsz:=hz) (tupleKind_room_in1 hu) (qG I.ba eb) dd λh' L3 hs=>h _ ?_;obtain⟨q,es,ep,hq,h2,h3,h4,_,h5⟩:=L3;refine qH I (by rw[e];exact True.intro) hs ⟨q,hq⟩ ⟨hl,hd,_,(rel.put k eb rv).keeps λc ys ec=>?_,q,es,ep,hq,h2,h3,h4,h5⟩;rw[ar (AX ec e (λz=>nomatch z))];exact ec
end
section
variable{X:Cx}{a:Addr}{kvs:List (Key×V)}{k:Key}
theorem QM(I:Inv X pins σ H s)(e:Rd H a (.dK kvs))(h:∀t s',Inv X pins σ H s'->Q (.int kvs.length t) s'):wpAny (model X.prog X.w) A (call (.builtin "len") [.ref a]) Q E s:=by obtain⟨z,hd,vs,rel,dd⟩:=o5 I.ba e;refine call_len_dict hd dd (by rw[<- rel.length];rw[sizeLine_eq] at z;omega) ?_;rw[<- rel.length];exact h _ _ (I.tok _)
end
def Ci(i:Expr):Prop:=∀ov iv,subscripted i false ov iv=operate [ov,iv] (getItem ov iv)
theorem GB{env:Env}{value slice:Expr}{T id:String}(hl:typeLookup (.type T) "__getitem__"=pure (some (.builtin id)))(hs:Ci slice)(h:wpAny (model prog w) A (eval value env) (λo s₁=>wpAny (model prog w) A (eval slice env) (λi s₂=>s₂.TypeIs o T/\wpAny (model prog w) A (getItem o i) Q E s₂) E s₁) E s) :
  wpAny (model prog w) A (eval (.Subscript value slice pos) env) Q E s:=by
 refine Subscript_ (wpAny_mono h (λo s₁ h₁=>wpAny_mono h₁ (λi s₂ h₂=>?_) λ_ _ x=>x) λ_ _ x=>x);obtain⟨hT,h₂⟩:=h₂;unfold subscriptTail;refine wpAny_bind ?_;rw[getitemInPython_of_ne hT.not_modules];refine wpAny_bind (wpAny_specialOf hT hl ?_);have fin:wpAny (model prog w) A (subscripted slice false o i) (λr s₃=>wpAny (model prog w) A (letTemporaryGo value o r >>= λ_=>pure r) Q E s₃) E s₂:=by rw[hs o i];exact wpAny_operating (wpAny_mono h₂ (λr s₃ h₃=>wpAny_bind (wpAny_letTemporaryGo (wpAny_pure h₃))) λ_ _ x=>x)
 first
  |exact wpAny_pure (wpAny_bind fin)
  |exact wpAny_bind (wpAny_pure (wpAny_bind fin))
  |exact wpAny_bind fin
theorem tJ{X:Cx}{a:Addr}{y:V}{o:Option V}(I:Inv X pins σ H s)(g:Cf H a y o):s.TypeIs (.ref a) "dict":=by
 obtain⟨kvs,k,e,_,_⟩|⟨kvs,k,b,e,_,_,_⟩:=g
 obtain⟨_,_,vs,_,dd⟩:=o5 I.ba e;exact dd.typeIs;obtain⟨_,_,xs,_,dd⟩:=tH I.ba e;exact dd.typeIs
def QN(td ty:TE):TE:=λσ H Q=>td σ H λx H1=>ty σ H1 λy H2=>∃a v,x=.ref a/\Cf H2 a y (some v)/\Q v H2
def QO(td ty tv:TE):TS:=λD σ H=>tv σ H λv H1=>td σ H1 λx H2=>ty σ H2 λy H3=>∃a H4,x=.ref a/\tI H3 a y v H4/\D.nx σ H4
section
variable{X:Cx}{o i value:Expr}{td ty tv:TE}
theorem qI(hu:X.A.units+1<cLine)(ho:PE X o td)(hi:PE X i ty)(hs:Ci i):PE X (.Subscript o i pos) (QN td ty):=by intro pins s σ H Q I h;refine GB PySem.F.slot_dict_getitem.lookup hs (bJ (ho pins s σ H _ I h) λu s1 ⟨x,H1,I1,rx,q1⟩=>bJ (hi pins s1 σ H1 _ I1 q1) λiv s2 ⟨y,H2,I2,ry,a,v,ex,g,q2⟩=>?_);subst ex;obtain rfl:u=Value.ref a:=rx;exact⟨tJ I2 g,zM hu I2 g ry λw' s3 I3 rw'=>⟨v,H2,I3,rw',q2⟩⟩
theorem qJ(hu:X.A.units+1<cLine)(ho:PE X o td)(hi:PE X i ty)(hv:PE X value tv)(hs:swapsWith value (some (.Subscript o i pos')) pos.line X.env=pure false) :
  PS X (.Assign [.Subscript o i pos'] value pos) (QO td ty tv):=by
 intro pins s σ H D I h;refine wpAny_Assign_Subscript (bJ (hv pins s σ H _ I h) λr s1 ⟨v,H1,I1,rv,q1⟩=>bJ (ho pins s1 σ H1 _ I1 q1) λu s2 ⟨x,H2,I2,rx,q2⟩=>bJ (hi pins s2 σ H2 _ I2 q2) λiv s3 ⟨y,H3,I3,ry,a,H4,ex,g,q3⟩=>?_) hs;subst ex;obtain rfl:u=Value.ref a:=rx;exact zN hu I3 g ry rv λs4 I4=>⟨σ,H4,I4,q3⟩
end
theorem Cj(h:Heap)(hb:sysModules<h.objs.size):bh P w H (h.push {cls:=.type "dict",data:=.dict #[]}) h.objs.size (.dK []) :=
 ⟨nL _,beq_eq_false_iff_ne.mpr (Ne.symm (iG hb)),[],.nil,Heap.DictOf.new h⟩
theorem Ck(h:Heap)(hb:sysModules<h.objs.size):bh P w H (h.push {cls:=.type "dict",data:=.dict #[]}) h.objs.size (.dT []) :=
 ⟨nL _,beq_eq_false_iff_ne.mpr (Ne.symm (iG hb)),[],.nil,_,#[],0,gN _ rfl,⟨rfl,rfl,rfl⟩,rfl,rfl,E1⟩
noncomputable def L4:TE:=λ_ H Q=>∀p,H p=none->Q (.ref p) (upd H p (.dK []))
noncomputable def L5:TE:=λ_ H Q=>∀p,H p=none->Q (.ref p) (upd H p (.dT []))
section
variable{X:Cx}
theorem Cm:PE X (.Dict [] [] pos) L4:=λpins s σ H Q I h=>
 wpAny_Dict_empty ⟨.ref s.heap.objs.size,_,I.laid (a:=s.heap.objs.size) (o:=.dK []) (t':=s.toks) (λ_ _ q=>dg _ q) (bG _) (Cj s.heap I.big),rfl,h _ (I.ba.fresh (bG _))⟩
theorem mG:PE X (.Dict [] [] pos) L5:=λpins s σ H Q I h=>
 wpAny_Dict_empty ⟨.ref s.heap.objs.size,_,I.laid (a:=s.heap.objs.size) (o:=.dT []) (t':=s.toks) (λ_ _ q=>dg _ q) (bG _) (Ck s.heap I.big),rfl,h _ (I.ba.fresh (bG _))⟩
end
structure M2(X:Cx)(o:Expr)(m:Str)(apos:Pos)(e f:Expr)(bf:Pos):Prop where
 base:attributeBase o m X.env (eval o X.env)=eval o X.env
 Zr:((backTo bf (starEach [e,f] X.env)).all (λx=>!x.1) && (backToKw bf (keywordEach [] X.env)).all (λx=>x.1.isSome)
  && decide (([e,f]:qap).length+([]:List Keyword).length+(if ([]:List Keyword).isEmpty then 0 else 1)<30))=true
 line:(apos.endLine==bf.line)=true
 trees:backTo bf (starEach [e,f] X.env)=[(false,eval e X.env),(false,eval f X.env)]
def VZ(H:Hp)(a:Addr):Prop:=(∃kvs,Rd H a (.dK kvs))\/∃kvs,Rd H a (.dT kvs)
theorem Cn{X:Cx}{a:Addr}(I:Inv X pins σ H s)(d:VZ H a) :
  s.TypeIs (.ref a) "dict"/\(∀b,Value.ref a=.ref b->∃ob,s.heap.get? b=some ob/\ob.dict=none)/\(a==sysModules)=false:=by
 obtain⟨kvs,e⟩|⟨kvs,e⟩:=d
 obtain⟨_,hd,vs,_,dd⟩:=o5 I.ba e;refine⟨dd.typeIs,λb q=>?_,hd⟩;cases q;obtain⟨ob,_,_,h1,h2,_⟩:=dd;exact⟨ob,h1,h2.2.1⟩;obtain⟨_,hd,xs,_,dd⟩:=tH I.ba e;refine⟨dd.typeIs,λb q=>?_,hd⟩;cases q;obtain⟨ob,_,_,h1,h2,_⟩:=dd;exact⟨ob,h1,h2.2.1⟩
section
variable{X:Cx}{a:Addr}{y d:V}{r:Value}{o:Option V}
theorem L6(hu:A.units+1<cLine)(I:Inv X pins σ H s)(g:Cf H a y o)(ry:RelV y u)(rd:RelV d r)(h:∀w' s',Inv X pins σ H s'->RelV (o.getD d) w'->Q w' s') :
  wpAny (model X.prog X.w) A (call (.builtin "dict.get") [.ref a,u,r]) Q E s:=by
 obtain⟨kvs,k,e,ey,l⟩|⟨kvs,k,b,e,ey,eb,l⟩:=g
 subst ey;obtain⟨z,hd,vs,rel,dd⟩:=o5 I.ba e;refine call_meetsIn PySem.F.slot_dict_get dd.typeIs PySem.F.entry_dict_get (PySem.F.args_dict_get_3 _ _ _) (meets_dict_get_default (bq X.prog X.w) a (tG ry) hd r) ⟨_,dd.mapOf,h _ _ (I.tok _) ?_⟩;rw[l];exact (rel.val k).getD rd;subst ey;cases (show u=Value.ref b from ry);obtain⟨z,hd,xs,rel,dd⟩:=tH I.ba e;refine call_meetsIn PySem.F.slot_dict_get dd.typeIs PySem.F.entry_dict_get (PySem.F.args_dict_get_3 _ _ _) (meetsH_dict_get_default (tupleKind (bq X.prog X.w)) a b hd r) ⟨tupleKind_room_in1 hu,k,xs,qG I.ba eb,dd,h _ _ (I.tok _) ?_⟩;rw[l];exact (rel.val k).getD rd
end
def L7(td ty tx:TE):TE:=λσ H Q=>td σ H λx H1=>∃a,x=.ref a/\VZ H1 a/\ty σ H1 λy H2=>tx σ H2 λz H3=>∃o,Cf H3 a y o/\Q (o.getD z) H3
section
variable{X:Cx}{o f:Expr}{td ty tx:TE}
theorem tK(hu:X.A.units+1<cLine)(ho:PE X o td)(he:PE X e ty)(hf:PE X f tx)(m:M2 X o "get" apos e f bf):PE X (.Call (.Attribute o "get" apos) [e,f] [] bf) (L7 td ty tx):=by
 intro pins s σ H Q I h;refine wpAny_Call_method m.base m.Zr m.line Sr PySem.F.slot_dict_get PySem.F.type_dict_get (bJ (ho pins s σ H _ I h) λu s1 ⟨x,H1,I1,rx,a,ex,d,q1⟩=>?_);subst ex;obtain rfl:u=Value.ref a:=rx;obtain⟨t1,t2,_⟩:=Cn I1 d;refine⟨t1,t2,?_⟩;rw[m.trees];refine Ss rfl (Calls.evalArgs_plain (Calls.spliced_cons (bJ (he pins s1 σ H1 _ I1 q1) λiv s2 ⟨y,H2,I2,ry,q2⟩ =>
  Calls.spliced_cons (bJ (hf pins s2 σ H2 _ I2 q2) λfv s3 ⟨z,H3,I3,rz,ov,g,q3⟩=>Calls.spliced_nil ?_))))
 exact L6 hu I3 g ry rz λw' s4 I4 rw'=>⟨_,H3,I4,rw',q3⟩
end
end L2
namespace SY
open PySem PySem.W PySem.Calls PyProof.Rows
end SY
namespace L2
open PySem PySem.Spec PyProof.Rows
section
variable{X:Cx}
theorem zO:cL X (.builtin "len") (λxs H Q=>∃a kvs,xs=[V.ref a]/\H a=some (.dK kvs)/\Q (.int kvs.length) H):=by intro pins s σ H xs us Q I r h;obtain⟨a,kvs,rfl,ha,q⟩:=h;obtain⟨u,rfl,ru⟩:=vals1 r;cases ru;exact QM I (.inl ha) λt s' I'=>⟨.int kvs.length,H,I',⟨t,rfl⟩,q⟩
end
end L2
namespace VT
open PySem PySem.Spec PyProof.Rows L2
noncomputable def L8:T->Option Key
 |.int i=>some (.inl i)
 |.str x=>some (.inr x)
 |_=>none
theorem xP{A:qah}{t:T}{k:Key}(h:d4 K H A t v)(e:L8 t=some k):v=kV k:=by
 cases t with
 |int i=>cases e;exact h.int
 |str x=>cases e;exact h.str
 |_=>cases e
noncomputable def jb{α:Type}:List Key->List α->Key->Option α
 |k::ks,t::ts,x=>if k=x then some t else jb ks ts x
 |_,_,_=>none
theorem jc:∀(ks:List Key)(vs:qak)(x:Key),gw (ks.zip vs) x=jb ks vs x
 |[],vs,x=>rfl
 |k::ks,[],x=>rfl
 |k::ks,v::vs,x=>by simp only[jb,JI];by_cases e:k=x;rw[if_pos e,gx (p:=(k,v)) e];rw[if_neg e,gy (p:=(k,v)) e];exact jc ks vs x
theorem tM(ts:List α)(x:Key):jb [] ts x=none:=by cases ts<;>rfl
theorem lu{K:qaf}{H:Hp}{A:qah}:∀{ks:List Key}{ts:qaj}{vs:qak}{x:Key},ax K H A ts vs->(∀t,jb ks ts x=some t->∃v,jb ks vs x=some v/\At K H A t v)/\(jb ks ts x=none->jb ks vs x=none)
 |[],ts,vs,x,h=>by rw[tM,tM];refine⟨λt e=>?_,λ_=>rfl⟩;cases e
 |k::ks,[],vs,x,h=>by simp only[ax] at h;subst h;exact⟨λt e=>(by cases e),λ_=>rfl⟩
 |k::ks,t::ts,vs,x,h=>by simp only[ax] at h;obtain⟨v,r,rfl,h1,h2⟩:=h;simp only[jb];by_cases e:k=x;rw[if_pos e,if_pos e];exact⟨λt e=>by cases e;exact⟨v,rfl,h1⟩,λq=>by cases q⟩;rw[if_neg e,if_neg e];exact lu h2
section
variable{X:Cx}{a b:Expr}{fc:FE}
def QP:FP:=λ_ Q=>Q (.fr (.dk [] []))
theorem GC:VP X Z (.Dict [] [] pos) QP:=.mk λtm=>PE.weak Cm λσ H Q ⟨ρ,O,q,I,hf,k⟩ p hp=>
 k _ hf _ _ (aB hp) (I.newD (ks:=[]) (ts:=[]) (vs:=[]) hp rfl ax.nil)
end
section
variable{X:Cx}{a b:Expr}
def Ji(ts:qaj)(q:qam):Prop:=match ts with
 |[.dk ks vs]=>q (.vw (.int (vs.length:Int)))
 |_=>False
theorem vZ:kD K (λxs H Q=>∃a kvs,xs=[V.ref a]/\H a=some (.dK kvs)/\Q (.int kvs.length) H) Ji:=by intro Z tm O ρ σ H ts vs q Q I h hp k;unfold Ji at hp;split at hp;obtain⟨v,rfl,a⟩:=cz h;obtain⟨l,ws,rfl,hl,hd,hv⟩:=a.dk;refine⟨l,_,rfl,hd,?_⟩;rw[JP,hl,Il,hv.length];exact k _ hp _ H (aF.refl H) ⟨I,aZ⟩;exact hp.elim
end
end VT
namespace RV
open PySem PySem.Spec PyProof.Rows
section
variable{R:Result->Shared->Prop}
variable{I:Addr}{wr:qah}{G:Array GenState->Array GenState->Prop}{P:Nat->Value->Prop}{St:Nat->Shared->Prop}
end
end RV
namespace VT
open PySem PySem.Spec PyProof.Rows L2
theorem kH(h:n+101<cLine):n+1<cLine:=by omega
section
variable{X:Cx}
theorem tO{out:Array Value}{Q:VK}(I:Inv X pins σ H s)(hx:Vals xs out.toList)(hl:xs.length<=sizeLine)(q:∀a,H a=none->Q (.ref a) (upd H a (.lst xs))) :
  EP X pins σ Q (.ref (s.heap.objs.size+1)) {s with heap:=sortedAll s.heap us out}:=by
 obtain⟨e,he⟩:=sortedAll_at s.heap us out;refine⟨.ref (s.heap.objs.size+1),_,I.laid (a:=s.heap.objs.size+1) (o:=.lst xs) (t':=s.toks) (λb o h=>sortedAll_old h) (Io _) ⟨hl,out.toList,e,hx,?_⟩,rfl,q _ (I.ba.fresh (Io _))⟩;rw[he]
end
abbrev Zs:=En->(List (Key×T)->Prop)->Prop
section
variable{X:Cx}
theorem GF:IC X "dict.setdefault" (λx xs H Q=>∃(a:Addr)(kvs:List (Key×V))(k:Key)(v:V),x=.ref a/\xs=[kV k,v]/\H a=some (.dK kvs)/\kvs.length<sizeLine /\
  (∀u,gw kvs k=some u->Q u H)/\(gw kvs k=none->Q v (upd H a (.dK (L2.putK kvs k v))))):=by
 intro pins s σ H x xs v us Q I rx rs h;obtain⟨a,kvs,k,y,rfl,rfl,ha,hsz,q1,q2⟩:=h;cases rx;obtain⟨u1,u2,rfl,Zt,Xv⟩:∃u1 u2,us=[u1,u2]/\RelV (kV k) u1/\RelV y u2:=by
  cases rs with
  |cons r1 t=>cases t with
    |cons r2 t2=>cases t2;exact⟨_,_,rfl,r1,r2⟩
 obtain⟨z,hd,vs,rel,dd⟩:=xO I.ba ha;refine call_meetsIn PySem.F.slot_dict_setdefault dd.typeIs PySem.F.entry_dict_setdefault (PySem.F.args_dict_setdefault_3 _ _ _) (kt_meets_setdefault (bq X.prog X.w) a (tG Zt) hd u2) ⟨vs,dd,by rw[<- rel.length];omega,λv0 hv=>?_,λhn h' L3 hs=>?_⟩;have sC:=rel.val k;rw[hv] at sC;cases e:gw kvs k with
 |none=>rw[e] at sC;cases sC
 |some w0=>rw[e] at sC;have hr:RelV w0 v0:=sC;exact⟨w0,H,I.tok _,hr,q1 w0 e⟩
 have sC:=rel.val k;rw[hn] at sC;cases e:gw kvs k with
 |some w0=>rw[e] at sC;cases sC
 |none=>
   have he:∃q,h'.get? a=some q:=let ⟨q,_,_,hq,_⟩:=L3;⟨q,hq⟩;have hl:(L2.putK kvs k y).length<=sizeLine:=by have:=gz kvs k y;omega
   exact⟨y,_,qH (t':=s.toks+1) I (by rw[ha];exact True.intro) hs he (Cg hl hd (rel.put k Xv) L3),Xv,q2 e⟩
end
section
variable{X:Cx}{e1 e2:Expr}{f1 f2:FE}
noncomputable def Jj(n:Nat)(f1 f2:FE):FX:=λρ Q=>match ρ[n]? with
 |some (some (.dk ks ts,true))=>f1 ρ λx=>f2 ρ λy=>match L8 x with
  |some k=>ts.length<16777216/\match jb ks ts k with
   |some t=>Q ρ (.vw t)
   |none=>Q (ρ.set n (some (.dk (ks++[k]) (ts++[y]),true))) (.vw y)
  |none=>False
 |_=>False
theorem GG(n:Nat)(h1:VE X Z e1 f1)(h2:VE X Z e2 f2)(hN:X.N[n]?=some x:=by rfl)(hv:ko X.env.scope x:=by first|exact Or.inl rfl|exact Or.inr (Or.inl rfl)|exact Or.inr (Or.inr rfl))(hd:eG x:=by decide)(eI:nJ x:=by decide)(cN:attributeBase (.Name x p) "setdefault" X.env (eval (.Name x p) X.env)=eval (.Name x p) X.env:=by rfl)(vv:((backTo bf (starEach [e1,e2] X.env)).all (λx=>!x.1) && (backToKw bf (keywordEach [] X.env)).all (λx=>x.1.isSome)
    && decide (([e1,e2]:qap).length+([]:List Keyword).length+(if ([]:List Keyword).isEmpty then 0 else 1)<30))=true:=by rfl)(cO:(apos.endLine==bf.line)=true:=by rfl)(hs:starEach [e1,e2] X.env=(false,eval e1 X.env)::starEach [e2] X.env:=by rfl)(yX:starEach [e2] X.env=(false,eval e2 X.env)::starEach [] X.env:=by rfl)(ip:(backTo bf (starEach [e2] X.env)).any (·.1)=false:=by rfl) :
  VX X Z (.Call (.Attribute (.Name x p) "setdefault" apos) [e1,e2] [] bf) (Jj n f1 f2):=.mk λtm=>
 PE.weak (Bj Sr PySem.F.slot_dict_setdefault PySem.F.type_dict_setdefault GF (bD hN hv hd eI) (a8 (h1 tm) (a8 (h2 tm) cF yX) hs) cN vv cO hs ip) λσ H Q ⟨ρ,O,q,I,hf,kk⟩=>by
  unfold Jj at hf;split at hf
  rename_i ks ts e0
  obtain⟨l,g1,g2,xs,hl,g3,g4⟩:=I.root e0;have ha:l∈av Z O:=hU _ (aA.mpr (fY g1));refine⟨.ref l,g2,.inr (.inr (.inl ⟨rfl,.inl ⟨_,g3⟩⟩)),ρ,O,_,I,hf,λt ht v H1 s1 a1=>⟨ρ,O,_,I.same s1,ht,λy hy w H2 s2 a2=>?_⟩⟩;split at hy
  rename_i N4 ek
  obtain⟨hlen,hy⟩:=hy;have ev:v=kV N4:=xP (.inl a1) ek;subst ev;have hz:(ks.zip xs).length<sizeLine:=by rw[sizeLine_eq,JP,hl,Il,g4.length];omega
  have J:=(I.same s1).same s2;have b4:=(g4.same s1).same s2;refine⟨l,ks.zip xs,N4,w,rfl,rfl,s2 _ _ (s1 _ _ g3),hz,λu hu=>?_,λhn=>?_⟩;rw[jc] at hu;cases eg:jb ks ts N4 with
  |none=>rw[(lu b4).2 eg] at hu;cases hu
  |some t0=>rw[eg] at hy;obtain⟨v0,e1,e2⟩:=(lu b4).1 t0 eg;rw[e1] at hu;cases hu;exact kk _ _ hy O _ _ ⟨J,e2⟩
  rw[jc] at hn;cases eg:jb ks ts N4 with
  |some t0=>obtain⟨v0,e1,e2⟩:=(lu b4).1 t0 eg;rw[e1] at hn;cases hn
  |none=>
    rw[eg] at hy;have e1:L2.putK (ks.zip xs) N4 w=(ks++[N4]).zip (xs++[w]):=by rw[Ce _ (by rw[jc];exact hn),List.zip_append hl];rfl
    rw[e1];refine kk _ _ hy O _ _ ⟨J.wrote e0 g1 ⟨xs++[w],by simp[hl],ay,?_⟩,a2.wrote ha (s2 _ _ (s1 _ _ g3)) rfl⟩;exact (b4.append (ax.cons a2 ax.nil)).wrote ha (s2 _ _ (s1 _ _ g3)) rfl
  exact hy.elim;exact hf.elim
end
noncomputable def mH{α:Type}(f:Str):qai->List α->Option α
 |n::ns,t::ts=>match f==n with
  |true=>some t
  |false=>mH f ns ts
 |_,_=>none
noncomputable def zQ(f:Str):qai->qai
 |[]=>[f]
 |n::ns=>if n=f then n::ns else n::zQ f ns
noncomputable def kW{α:Type}(f:Str)(u:α):qai->List α->List α
 |n::ns,t::ts=>if n=f then u::ts else t::kW f u ns ts
 |_,_=>[u]
theorem mJ(f:Str):∀(ns:qai)(vs:qak),(ns.zip vs).lookup f=mH f ns vs
 |[],vs=>by cases vs<;>rfl
 |n::ns,[]=>rfl
 |n::ns,v::vs=>by
  rw[JI,EY];unfold mH;cases f==n with
  |true=>rfl
  |false=>exact mJ f ns vs
theorem tP(f:Str)(y:V):∀(ns:qai)(vs:qak),ns.length=vs.length->fZ f y (ns.zip vs)=(zQ f ns).zip (kW f y ns vs)/\(zQ f ns).length=(kW f y ns vs).length
 |[],[],_=>⟨rfl,rfl⟩
 |[],v::vs,h=>by simp at h
 |n::ns,[],h=>by simp at h
 |n::ns,v::vs,h=>by have ih:=tP f y ns vs (by simpa using h);rw[JI];show (if n=f then (n,y)::ns.zip vs else (n,v)::fZ f y (ns.zip vs))=_/\_;unfold zQ kW;by_cases e:n=f;rw[if_pos e,if_pos e,if_pos e];exact⟨rfl,by simpa using h⟩;rw[if_neg e,if_neg e,if_neg e,ih.1];exact⟨rfl,by simp[ih.2]⟩
section
variable{A:qah}{f:Str}
theorem tQ:∀{ns:qai}{ts:qaj}{vs:qak}{t:T},ax K H A ts vs->mH f ns ts=some t->∃v,mH f ns vs=some v/\At K H A t v
 |[],ts,vs,t,_,e=>by cases ts<;>cases e
 |n::ns,[],vs,t,_,e=>by cases e
 |n::ns,t0::ts,vs,t,h,e=>by
  simp only[ax] at h;obtain⟨v,r,rfl,h1,h2⟩:=h;unfold mH at e ⊢;cases q:f==n with
  |true=>rw[q] at e;cases e;exact⟨v,rfl,h1⟩
  |false=>rw[q] at e;exact tQ h2 e
theorem xQ:∀{ns:qai}{ts:qaj}{vs:qak}{t:T}{v:V},ax K H A ts vs->At K H A t v->ax K H A (kW f t ns ts) (kW f v ns vs)
 |[],ts,vs,t,v,_,q=>by
  have e1:kW f t [] ts=[t]:=by cases ts<;>rfl
  have e2:kW f v [] vs=[v]:=by cases vs<;>rfl
  rw[e1,e2];exact ax.cons q ax.nil
 |n::ns,[],vs,t,v,h,q=>by simp only[ax] at h;subst h;exact ax.cons q ax.nil
 |n::ns,t0::ts,vs,t,v,h,q=>by simp only[ax] at h;obtain⟨v0,r,rfl,h1,h2⟩:=h;unfold kW;by_cases e:n=f;rw[if_pos e,if_pos e];exact ax.cons q h2;rw[if_neg e,if_neg e];exact ax.cons h1 (xQ h2 q)
end
section
variable{X:Cx}{f:Str}
noncomputable def QQ(C:Addr)(f:Str)(fe:FE):FP:=λρ Q=>fe ρ λt=>match t with
 |.ins C' ns ts=>C'=C/\∃u,mH f ns ts=some u/\Q (.vw u)
 |_=>False
theorem gA(cl:Bc X.K C)(na:bN X.K C f)(h:VR X Z e fe)(hb:attributeBase e f X.env (eval e X.env)=eval e X.env:=by rfl):VP X Z (.Attribute e f pos) (QQ C f fe):=.mk λtm=>
 PE.weak (vh (h tm) hb) λσ H Q ⟨ρ,O,q,I,hf,k⟩=>⟨ρ,O,_,I,hf,λt ht v H1 s1 a1=>by
  split at ht
  rename_i C' ns ts
  obtain⟨rfl,u,e1,hq⟩:=ht;obtain⟨a,dx,vs,rfl,hl,hd,hv⟩:=a1.ins;obtain⟨w,e2,e3⟩:=tQ hv e1;exact⟨a,_,dx,_,w,rfl,hd,cl,na,by rw[mJ];exact e2,k _ hq _ H1 s1 ⟨I.same s1,e3⟩⟩;exact ht.elim⟩
noncomputable def Co(n:Nat)(C:Addr)(f:Str)(fe:FE):FS:=λd ρ=>match ρ[n]? with
 |some (some (.ins C' ns ts,true))=>C'=C/\fe ρ λv=>ts.length<1000/\d.nx (ρ.set n (some (.ins C' (zQ f ns) (kW f v ns ts),true)))
 |_=>False
theorem fP(n:Nat)(cl:Bc X.K C)(na:bN X.K C f)(he:VE X Z e fe)(hN:X.N[n]?=some x:=by rfl)(hv:ko X.env.scope x:=by first|exact Or.inl rfl|exact Or.inr (Or.inl rfl)|exact Or.inr (Or.inr rfl))(hd:eG x:=by decide)(eI:nJ x:=by decide)(hs:swapsWith e (some (.Attribute (.Name x p) f du)) pos.line X.env=pure false:=by rfl) :
  VS X Z (.Assign [.Attribute (.Name x p) f du] e pos) (Co n C f fe):=.mk λtm=>
 PS.weak (KC (bD hN hv hd eI) (he tm) hs) λD σ H ⟨ρ,O,d,I,q,F⟩=>by
  unfold Co at q;split at q
  rename_i C' ns ts e0
  obtain⟨rfl,q⟩:=q;obtain⟨l,h1,h2,dx,xs,hl,h3,h4⟩:=I.root e0;have ha:l∈av Z O:=hU _ (aA.mpr (fY h1));refine⟨ρ,O,_,I,q,λt ht v H1 s1 a1=>⟨.ref l,h2,l,_,dx,_,rfl,s1 _ _ h3,cl,na,?_,?_⟩⟩;rw[JP,hl,Il,h4.length];exact ht.1;have pz:=tP f v ns xs hl;rw[pz.1];refine F.nx O _ σ _ ((I.same s1).wrote (t':=.ins _ (zQ f ns) (kW f t ns ts)) e0 h1 ⟨dx,kW f v ns xs,pz.2,ay,?_⟩) ht.2;exact ax.wrote ha (s1 _ _ h3) rfl (xQ (h4.same s1) a1);exact q.elim
def L9(K:qaf)(C:Addr)(n:Nat)(G:qaj->(T->Prop)->Prop):Sp:=sO K (true::List.replicate n false) λts q=>match ts with
 |.ins C' [] []::us=>C'=C/\G us λu=>q [u] (.vw .a9)
 |_=>False
def QR(n:Nat)(g:FA)(G:qaj->(T->Prop)->Prop):FP:=λρ Q=>g ρ λts=>ts.length=n/\G ts λu=>Q (.fr u)
theorem xR{G:qaj->(T->Prop)->Prop}{tm:qab}{ts:qaj}{q:qam}{Q:VK}(I:au X.K Z tm O ρ σ H)(a:ax X.K H (av Z O) ts vs)(hn:ts.length=n)(hG:G ts λu=>q (.fr u))(k:∀r,q r->∀v H',aF H H'->f7 X.K Z tm O ρ σ H' r v->Q v H'):∀x dx,H x=none->H dx=none->dx≠x->L9 X.K C n G (.ref x::(vs++[])) (upd (upd H dx (.own x)) x (.ins C dx [])) (λv H2=>v=.a9/\Q (.ref x) H2) E0:=by
 intro x dx hx Zu f6;rw[Ew];obtain⟨n1,n2,n3⟩:=I.fresh hx;have s0:aF H (upd (upd H dx (.own x)) x (.ins C dx [])):=λb o e=>by rw[ar (aS e hx),ar (aS e Zu)];exact e
 have a1:ax X.K (upd (upd H dx (.own x)) x (.ins C dx [])) ([x]++av Z O) ts vs:=(a.more λb hb=>by
  rcases g7.mp hb with z|z
  exact .inr (by rw[cT.mp z];exact hx);exact .inl z).same s0
 refine⟨.ins C [] []::ts,[x],av Z O,λus r=>r=.vw .a9/\∃u,us=[u]/\q (.fr u),by simp,λb hb=>by rw[cT.mp hb];exact n1,λb hb=>?_,⟨x,[],_,ts,vs,rfl,rfl,rfl,⟨dx,[],rfl,ay,ax.nil⟩,fJ hn a1⟩,⟨rfl,?_⟩,λus r hr v H' fr z=>?_⟩;cases e:H b with
 |none=>exact absurd e (I.FR b hb)
 |some o=>rw[s0 _ _ e];simp
 have w:(λu=>q (.fr u))=λu=>((.vw .a9:Rt)=.vw .a9/\∃u',[u]=[u']/\q (.fr u')):=by funext u;exact propext ⟨λh=>⟨rfl,u,rfl,h⟩,λ⟨_,u',e,h⟩=>by cases e;exact h⟩
 rw[<- w];exact hG;obtain⟨rfl,u,rfl,hq⟩:=hr;obtain⟨z1,z2⟩:=z;simp only[At] at z1;refine⟨z1,?_⟩;cases z2 with
 |cons r _=>
  have s:aF H H':=λb o e=>fr b o (s0 b o e) (by rw[cT];exact aS e hx);obtain⟨o,eo,_⟩:=r.mut;refine k _ hq _ H' s ⟨x,rfl,I.IX hx s eo,r.aP λc hc=>?_,n3,n2⟩;rcases cp c hc with z|z
  exact g6 _ z;rw[z];exact hU _ dq
theorem GH{kk:Nat}{G:qaj->(T->Prop)->Prop}{fI:Addr}(M:Mk X.K C fI)(F:cU X.prog X.w X.K X.mg X.base gP kk fI fd ps (L9 X.K C n G))(hr:bb (kk+1) X.A)(hg:Gl X x)(hm:X.mg x=some (.ref C))(hb:Binds X.K fd ps [])(ha:VA X Z (e::es) g)(nP:eG x:=by decide)(he:starEach (e::es) X.env=(false,eval e X.env)::starEach es X.env:=by rfl)(ku:(backTo pos (starEach es X.env)).any (·.1)=false:=by rfl) :
  VP X Z (.Call (.Name x p) (e::es) [] pos) (QR n g G):=.mk λtm=>PE.weak (xh M F hr hg hm hb .nil kz (ha tm) nP he ku) λσ H Q ⟨ρ,O,q,I,hf,k⟩ =>
 ⟨ρ,O,_,I,hf,λts d5 vs H1 s1 a1=>xR (I.same s1) a1 d5.1 d5.2 λr hr v H' s z=>k r hr v H' (s1.trans s) z⟩
end
structure Dc(K:qaf)(mg:qae)(cls qual:Str)(st:Stmt)(ps:qai)(C f:Addr)(fd:FuncData):Prop where
 F:y_ K "__init__" qual st f fd
 m:mg cls=some (.ref C)
 b:Binds K fd ps []
 M:Mk K C f
def Cq(P:Program)(w:World)(K:qaf)(mg:qae)(base:Heap)(cls:Str)(C:Addr)(ps:qai)(k n:Nat)(G:qaj->(T->Prop)->Prop):Prop :=
 ∃f fd,Mk K C f/\mg cls=some (.ref C)/\Binds K fd ps []/\cU P w K mg base gP k f fd ps (L9 K C n G)
section
theorem Dc.iI{cls:Str}{st:Stmt}{G:qaj->(T->Prop)->Prop}(D:Dc K mg cls qual st ps C f fd)(F:cU P w K mg base gP k f fd ps (L9 K C n G)):Cq P w K mg base cls C ps k n G :=
 ⟨f,fd,D.M,D.m,D.b,F⟩
theorem Xw{st:Stmt}{N:qai}{G:qaj->(T->Prop)->Prop}(F:y_ K x qual st f fd)(S:aG N ps (aq st))(hn:n+1=ps.length)(dP:∀(bw:Value) (A:Around) (outer:List Env) (s:Shared) (H:Hp) (E:XK) (as Ox:qah),bb k (A.deeper (envOfC qual (aq st) s.heap.objs.size f bw))->∀(us:qaj) (q:qaj->qam),us.length=n->G us (λu=>q [u] (.vw .a9)) ->
    ∃g,l_ (il gP P w K mg base N qual (aq st) f bw A outer s H E).yO ⟨H,pz (true::List.replicate n false) as 0,Ox⟩ (bB st) g /\
     g {nx:=λρ=>q (jN (true::List.replicate n false) ρ) (.vw .a9),rt:=λρ r=>q (jN (true::List.replicate n false) ρ) r} (some (.ins C [] [],true)::sP (List.replicate n false) us++List.replicate (N.length-(us.length+1)) none)) :
  cU P w K mg base gP (k+1) f fd ps (L9 K C n G) :=
 Xf F S (by rw[<- hn];simp) λbw A outer s H E as Ox hr ts q hl hG=>by
  cases ts with
  |nil=>exact hG.elim
  |cons t us=>cases t with
    |ins C' ns vs=>cases ns with
      |nil=>cases vs with
        |nil=>obtain⟨e,Zv⟩:=hG;subst e;exact dP bw A outer s H E as Ox hr us q (by simpa using hl) Zv
        |cons _ _=>exact hG.elim
      |cons _ _=>exact hG.elim
    |_=>exact hG.elim
end
def xS(a d:Addr):HO:=.ext λh=>h.get? a=some {cls:=.type "dict_values",data:=.fields #[.ref d]}
theorem tR(val:Nat->Int):∀k,∃j≤k,argBest (λi j=>decide (val i<val j)) k=j/\∀i≤k,val j<=val i
 |0=>⟨0,bG _,rfl,λi hi=>by rw[Nat.le_zero.mp hi];exact Int.le_refl _⟩
 |k+1=>by
  obtain⟨j,hj,e,h⟩:=tR val k;unfold argBest;rw[e];by_cases q:val (k+1)<val j;rw[if_pos (decide_eq_true q)];refine⟨k+1,bG _,rfl,λi hi=>?_⟩;rcases Nat.lt_or_eq_of_le hi with l|l
  exact Int.le_trans (Int.le_of_lt q) (h i (Nat.le_of_lt_succ l));rw[l];exact Int.le_refl _;rw[if_neg (by rw[decide_eq_true_eq];exact q)];refine⟨j,Nat.le_succ_of_le hj,rfl,λi hi=>?_⟩;rcases Nat.lt_or_eq_of_le hi with l|l
  exact h i (Nat.le_of_lt_succ l);rw[l];exact Int.not_lt.mp q
section
variable{X:Cx}
theorem zR:IC X "dict.values" (λx xs H Q=>∃(d:Addr)(kvs:List (Key×V)),x=.ref d/\xs=[]/\H d=some (.dK kvs)/\∀a,H a=none->Q (.ref a) (upd H a (xS a d))):=by intro pins s σ H x xs v us Q I rx rs h;obtain⟨d,kvs,rfl,rfl,hd,q⟩:=h;cases rx;cases rs;obtain⟨z,hs,vs,rel,dd⟩:=xO I.ba hd;refine call_meetsIn PySem.F.slot_dict_values dd.typeIs PySem.F.entry_dict_values (PySem.F.args_dict_values_1 _) (meets_dict_values (bq X.prog X.w) d hs) ⟨⟨vs,dd⟩,?_⟩;refine⟨.ref s.heap.objs.size,_,I.laid (a:=s.heap.objs.size) (t':=s.toks) (λb o e=>dg _ e) (bG _) ?_,rfl,q _ I.fresh⟩;exact⟨gN _ rfl,⟨_,gN _ rfl⟩,λh1 h2 z k=>k _ z⟩
theorem qK(hc:X.calm=true):cL X (.builtin "min") (λxs H Q=>∃(a d:Addr)(kvs:List (Key×V))(is:qan),xs=[.ref a]/\H a=some (xS a d)/\H d=some (.dK kvs)/\kvs.map (·.2)=is.map V.int/\is≠[]/\∀m,m∈is->(∀i∈is,m<=i)->Q (.int m) H):=by
 intro pins s σ H xs us Q I r h;obtain⟨a,d,kvs,is,rfl,ha,hd,hv,f6,q⟩:=h;obtain⟨u,rfl,ru⟩:=vals1 r;cases ru;obtain⟨z,hs,vs,rel,dd⟩:=xO I.ba hd;obtain⟨hA,_,_⟩:=(show bh X.prog X.w H s.heap a (xS a d) from I.ba a _ ha);obtain⟨ep,da⟩:=dd.dictAt;have hh:X.A.in1.handled=none:=by simp[I.ok.hd hc]
 have hlen:vs.length=is.length:=by have:=congrArg List.length hv;rw[cn,cn] at this;rw[<- rel.length];exact this
 have QS:∀(i:Nat)(v:Value),(∃k,vs[i]?=some (k,v))->∃t,v=.int (is.getD i 0) t:=by
  intro i v ⟨k,e⟩;have hi:i<vs.length:=(dJ.mp e).1;have V0:i<kvs.length:=by rw[rel.length];exact hi
  have e1:kvs[i]?=some kvs[i]:=by simp[V0]
  have key:∀{l₁:List (Key×V)}{l₂:List (Key×Value)}{i:Nat}{p:Key×V}{q:Key×Value},KV l₁ l₂->l₁[i]?=some p->l₂[i]?=some q->RelV p.2 q.2:=by
   intro l₁ l₂ i p q h;unfold KV at h;induction h generalizing i with
   |nil=>intro e;simp at e
   |cons r t ih=>
    intro e e';cases i with
    |zero=>simp at e e';subst e;subst e';exact r.2
    |succ i=>exact ih (by simpa using e) (by simpa using e')
  have rr:=key rel e1 e;have e2:(kvs.map (·.2))[i]?=some kvs[i].2:=by rw[fj,e1];rfl
  rw[hv,fj] at e2;cases q2:is[i]? with
  |none=>rw[q2] at e2;cases e2
  |some m=>rw[q2] at e2;have e3:kvs[i].2=V.int m:=(Option.some.inj e2).symm;rw[e3] at rr;obtain⟨t,et⟩:=rr;exact⟨t,by rw[T8,q2];exact et⟩
 have Zw:0<vs.length:=by rw[hlen];exact List.length_pos_iff.mpr f6
 refine call_min_walk (wpAny_pyIter_values ⟨_,hA,rfl,rfl⟩ da ?_);refine⟨_,_,_,_,_,_,_,rfl,Walks.dictValues hh _ d (iG da.lt_size) vs ep,⟨⟨_,gN _ rfl,rfl,rfl⟩,da.push _⟩,λb hb=>?_,Zw,CmpOf.ints_lt (λi=>is.getD i 0) QS,λv h' tk hP hk=>?_⟩;show b<(s.heap.push _).objs.size;rw[AW];rcases dh.mp hb with rfl|hb
 exact AV _;rw[cT.mp hb];exact NL da.lt_size;obtain⟨j,hj,e,hm⟩:=tR (λi=>is.getD i 0) (vs.length-1);rw[e] at hP;obtain⟨t,rfl⟩:=QS j v hP;have Tx:j<is.length:=by omega
 refine⟨.int (is.getD j 0),H,I.kept (t':=tk) λb u eb=>hk b u (λz=>?_) (dg _ eb),⟨t,rfl⟩,q _ ?_ λi hi=>?_⟩;rw[cT.mp z] at eb;exact absurd (dG eb) (AF _);rw[T8,kj Tx];exact NO Tx;obtain⟨n,hn⟩:=Ic.mp hi;have hnl:n<is.length:=(dJ.mp hn).1;have:=hm n (by omega);have e5:is.getD n 0=i:=by rw[T8,hn];rfl
 rw[e5] at this;exact this
end
section
variable{X:Cx}{a:Expr}{p1 GD zP:Pos}
def QT(fa:FE):FP:=λρ Q=>fa ρ λx=>match x with
 |.dk ks ts=>∃is,ts=is.map T.int/\is≠[]/\∀m,m∈is->(∀i∈is,m<=i)->Q (.vw (.int m))
 |_=>False
theorem v3(hc:X.calm=true)(Zx:Gl X "min")(Tz:X.mg "min"=none)(ha:VR X Z a fa)(cN:attributeBase a "values" X.env (eval a X.env)=eval a X.env:=by rfl)(cO:(apos.endLine==zP.line)=true:=by rfl)(he:starEach [.Call (.Attribute a "values" apos) [] [] zP] X.env=(false,eval (.Call (.Attribute a "values" apos) [] [] zP) X.env)::starEach [] X.env:=by rfl)(ku:(backTo GD (starEach [] X.env)).any (·.1)=false:=by rfl) :
  VP X Z (.Call (.Name "min" p1) [.Call (.Attribute a "values" apos) [] [] zP] [] GD) (QT fa):=.mk λtm=>
 PE.weak (lM (qK hc) Zx Tz Qp (a8 (vt Sr PySem.F.slot_dict_values PySem.F.type_dict_values zR (ha tm) cN cO) cF he) (by decide) (by decide) he ku) λσ H Q ⟨ρ,O,q,I,hf,k⟩ =>
  ⟨ρ,O,_,I,hf,λx hx v H1 s1 a1=>by
    split at hx
    rename_i ks ts
    obtain⟨is,rfl,f6,hq⟩:=hx;obtain⟨d,vs,rfl,hl,hd,hv⟩:=a1.dk;refine⟨.inr (.inr (.inl ⟨rfl,.inl ⟨_,hd⟩⟩)),d,_,rfl,rfl,hd,λb hb=>?_⟩;have sb:aF H1 (upd H1 b (xS b d)):=aB hb;have ev:vs=is.map V.int:=by
     clear hq f6 hl hd a1;induction is generalizing vs with
     |nil=>simpa only[NQ,ax] using hv
     |cons i is ih=>simp only[gj,ax,At] at hv;obtain⟨v,r,rfl,rfl,h2⟩:=hv;rw[ih r h2];rfl
    subst ev;refine⟨b,d,_,is,rfl,ay,sb _ _ hd,?_,f6,λm h1 h2=>k _ (hq m h1 h2) _ _ (s1.trans sb) ⟨(I.same s1).same sb,aZ⟩⟩;rw[List.map_snd_zip];rw[hl];exact bG _;exact hx.elim⟩
end
end VT
namespace Lay
open PySem L2 VT Gen K5
noncomputable def N5(l:List (Str×Nat)):T:=.dk (l.map λp=>(Sum.inr p.1:Key)) (l.map λp=>T.int (p.2:Int))
theorem L_(l:List (Str×Nat))(f:Str):jb (l.map λp=>(Sum.inr p.1:Key)) (l.map λp=>T.int (p.2:Int)) (Sum.inr f)=(QB l f).map λi=>T.int (i:Int):=by
 induction l with
 |nil=>rfl
 |cons p l ih=>obtain⟨k,i⟩:=p;simp only[gj,jb,QB];by_cases h:k=f;rw[if_pos h,if_pos (by rw[h])];rfl;rw[if_neg h,if_neg (λz=>h (Sum.inr.inj z))];exact ih
theorem mK(rs:qal):∀n,(aW rs n).length<=n
 |0=>bG _
 |n+1=>by
  have:=mK rs n;simp only[aW];split
  rename_i r _
  cases r<;>simp only[LU]<;>first
   |omega
   | (split<;>simp<;>omega)
  omega
def QU:Rw->Bool
 |.df _ _=>true
 |_=>false
def gB(rs:qal):Option Nat:=rs.findIdx? QU
theorem o6(rs:qal):∀n,∀p∈aW rs n,p.2<n/\∃ps,rs[p.2]?=some (.df p.1 ps)
 |0,p,h=>nomatch h
 |n+1,p,h=>by
  have old:p∈aW rs n->p.2<n+1/\∃ps,rs[p.2]?=some (.df p.1 ps):=λh=>by have:=o6 rs n p h;exact⟨by omega,this.2⟩
  simp only[aW] at h;split at h
  rename_i r hr
  cases r with
  |df g ps=>
   simp only[LU] at h;split at h;exact old h;rcases g7.mp h with z|z
   exact old z;rw[cT] at z;subst z;exact⟨AV _,ps,hr⟩
  |_=>exact old h
  exact old h
theorem d7{rs:qal}{i:Nat}(h:∀j,j<i->∀f ps,rs[j]?≠some (.df f ps)):∀n≤i,aW rs n=[]
 |0,_=>rfl
 |n+1,hn=>by
  simp only[aW];split
  rename_i r hr
  rw[d7 h n (by omega)];cases r with
  |df g ps=>exact absurd hr (h n (by omega) g ps)
  |_=>rfl
  exact d7 h n (by omega)
theorem gC{rs:qal}{i:Nat}{g:Str}{ps:qai}(hi:rs[i]?=some (.df g ps))(h:∀j,j<i->∀f ps,rs[j]?≠some (.df f ps)):∀n,i<n->∃l,aW rs n=(g,i)::l
 |0,hn=>absurd hn (Nat.not_lt_zero _)
 |n+1,hn=>by
  by_cases e:i=n;subst e;refine⟨[],?_⟩;simp only[aW,hi,LU];rw[d7 h i (bG _)];rfl;obtain⟨l,hl⟩:=gC hi h n (by omega);simp only[aW];rw[hl];split
  rename_i r _
  cases r with
  |df f qs=>simp only[LU];split;exact⟨l,rfl⟩;exact⟨l++[(f,n)],rfl⟩
  |_=>exact⟨l,rfl⟩
  exact⟨l,rfl⟩
theorem GJ{r:Rw}(h:QU r=true):∃f ps,r=.df f ps:=by
 cases r with
 |df f ps=>exact⟨f,ps,rfl⟩
 |_=>cases h
theorem o7(h:gB rs=some i):(∃f ps,rs[i]?=some (.df f ps))/\∀j,j<i->∀f ps,rs[j]?≠some (.df f ps):=by unfold gB at h;rw[List.findIdx?_eq_some_iff_getElem] at h;obtain⟨hl,h1,h2⟩:=h;obtain⟨f,ps,e⟩:=GJ h1;refine⟨⟨f,ps,by rw[kj hl,e]⟩,λj hj f ps e=>?_⟩;obtain⟨Tx,ej⟩:=dJ.mp e;have:=h2 j hj;rw[ej] at this;exact this rfl
theorem zS(h:gB rs=none):∀(j:Nat) f ps,rs[j]?≠some (Rw.df f ps):=by unfold gB at h;rw[List.findIdx?_eq_none_iff] at h;intro j f ps e;have:=h _ (fY e);cases this
theorem v5(h:gB rs=none):aW rs rs.length=[]:=d7 (i:=rs.length) (λj _=>zS h j) _ (bG _)
theorem Cr{m:Int}(h1:m∈(aW rs rs.length).map λp=>(p.2:Int))(h2:∀i∈(aW rs rs.length).map λp=>(p.2:Int),m<=i):T.int m=oT (gB rs):=by
 cases e:gB rs with
 |none=>rw[v5 e] at h1;cases h1
 |some i=>
  obtain⟨⟨g,ps,hi⟩,hm⟩:=o7 e;obtain⟨l,hl⟩:=gC hi hm rs.length (dJ.mp hi).1;obtain⟨p,hp,rfl⟩:=kN.mp h1;obtain⟨_,qs,hq⟩:=o6 rs _ p hp;have le1:(p.2:Int)<=(i:Int):=h2 _ (kN.mpr ⟨(g,i),by rw[hl];exact dq,rfl⟩);have le2:¬ p.2<i:=λz=>hm _ z _ _ hq;have:p.2=i:=by omega
  rw[this];rfl
noncomputable def QV(rs:qal):qaj:=(List.range rs.length).map λi=>oT (EL (bz rs) i)
noncomputable def Jk(rs:qal):qaj:=(List.range rs.length).map λi=>oT (endsAt (bz rs) rs.length i)
noncomputable def QW(rs:qal):qaj:=vY (bz rs) rs.length rs.length
noncomputable def tS(rs:qal):qaj:=(List.range rs.length).map λi=>oT (j2 (bz rs) i)
theorem Cs(rs:qal):Cc rs=[.lst (QV rs),.lst (Jk rs),.lst (QW rs),.lst (tS rs)]:=rfl
noncomputable def kX(C:Addr)(rs:qal):T:=.ins C ["program","heads","ends","elses","homes","defs","main"] [.lst (rs.map aU),.lst (QV rs),.lst (Jk rs),.lst (QW rs),.lst (tS rs),N5 (aW rs rs.length),oT (gB rs)]
section
theorem L'{r:Rw}(h:rs[i]?=some r):ky (rs.map aU) (i:Int)=some (aU r):=ag (by rw[fj,h];rfl)
theorem Ma(h:i<rs.length):ky (tS rs) (i:Int)=some (oT (j2 (bz rs) i)):=ag (by unfold tS;rw[fj,So h];rfl)
end
noncomputable def top(i:Nat):Stmt:=PySem.Challenge.pw_slicewise_k22_cells_of_records.main.body.getD i (.Pass ⟨0,0,0,0⟩)
noncomputable abbrev fQ:Stmt:=top 12
structure Xx(mg:qae):Prop where
 enumerate:mg "enumerate"=none
def Ct(ts:qaj)(q:qam):Prop:=∃rs:qal,ts=[.lst (rs.map aU)]/\rs.length<=100/\q (.fr (N5 (aW rs rs.length)))
section
noncomputable abbrev qL:qai:=["program","firsts","place","row"]
theorem ic:aG qL qav (aq fQ):=L2.iQ
theorem om(D:Df K mg "first_defs" fQ qav f fd)(M:Xx mg):cJ P w K mg base "first_defs" qav 1 (cK K 1 Ct):=by
 refine D.iI (lh D.F ic rfl λbw A outer s H E Ox hr ts q hG=>?_);have nd:=ic.nd;have hu:=bb.fK hr;have np:∀{i:Nat},aX ⟨H,[],Ox⟩ i:=iw;refine⟨_,(ah (dv (i:=1) nd rfl (Or.inl rfl) (qau GC) np)
  (ah (eB uP rfl (i5 (by rfl) M.enumerate (ai 0)) (dw (n:=2) rfl (aK (aD (i:=2) nd rfl (Or.inl rfl) np) (aK (aD (i:=3) nd rfl (Or.inl rfl) np) cC)))
   (ak (aY (bU hu (qas (aC (ae 3) (qas af))) (qas aE))
    (ak (cA (GG 1 (qat (aC (ae 3) (qas af))) (ai 2))))
    aL)))
  (ak (aJ (lg 1 np))))),λ_=>?_⟩
 obtain⟨rs,rfl,hn,hq⟩:=hG;refine jY (λi ρ=>∃b2 b3,ρ=[some (.lst (rs.map aU),false),some (N5 (aW rs i),true),b2,b3]) ⟨_,_,rfl⟩ ?_ ?_;rintro i r ρ hr ⟨b2,b3,rfl⟩;have hi:=(dJ.mp hr).1;have hlen:((aW rs i).map λp=>T.int (p.2:Int)).length<16777216:=by rw[cn];have:=mK rs i;omega
 have es:aW rs (i+1)=LU (aW rs i) i r:=by simp only[aW,hr]
 cases r with
 |df g ps=>
  refine⟨rfl,rfl,_,ag (j:=0) rfl,?_⟩;refine⟨_,ag (j:=1) rfl,hlen,?_⟩;rw[es];simp only[LU];rw[L_];cases ha:QB (aW rs i) g with
  |some j=>exact⟨_,_,rfl⟩
  |none=>
   show ∃b2 b3,_=[_,some (N5 (aW rs i++[(g,i)]),true),b2,b3];have ef:N5 (aW rs i++[(g,i)])=.dk (((aW rs i).map λp=>(Sum.inr p.1:Key))++[Sum.inr g]) (((aW rs i).map λp=>T.int (p.2:Int))++[T.int (i:Int)]):=by simp only[N5,AE,gj,NQ]
   rw[ef];exact⟨_,_,rfl⟩
 |_=>refine⟨rfl,rfl,_,ag (j:=0) rfl,?_⟩;rw[es];exact⟨_,_,rfl⟩
 rintro ρ ⟨b2,b3,rfl⟩;exact hq
end
end Lay
namespace QX
open PySem L2 VT Gen K5
noncomputable def top(i:Nat):Stmt:=PySem.Challenge.pw_slicewise_k22_cells_of_records.main.body.getD i (.Pass ⟨0,0,0,0⟩)
noncomputable abbrev jd:Stmt:=top 13
structure Xy(K:qaf)(mg:qae):Prop where
 len:mg "len"=none
 range:mg "range"=none
 enumerate:mg "enumerate"=none
 isinstance:mg "isinstance"=none
 int:mg "int"=none
 bool:mg "bool"=none
 tuple:mg "tuple"=none
 list:mg "list"=none
 zip:mg "zip"=none
 CL:∃a,mg "CLOSERS"=some (.ref a)/\∀H,dy K H a [.str "give",.str "end"]
 OP:∃a,mg "OPENERS"=some (.ref a)/\∀H,dy K H a [.str "def",.str "if",.str "while"]
def Cu(ts:qaj)(q:qaj->Prop):Prop:=∃rs:qal,ts=[.lst (rs.map aU)]/\N0 rs/\rs.length<=100/\q (Cc rs)
theorem Cv{l:qaj}{t:T}(h:l.getLast?=some t):ky l (-1)=some t:=by
 have hl:0<l.length:=by cases l<;>simp_all
 rw[Sn] at h;unfold ky y4;rw[if_neg (by decide),if_pos (by omega)];have e:(-1+(l.length:Int)).toNat=l.length-1:=by omega
 rw[e];exact h
theorem Cw(kd:Nat->Kd):∀k,(st kd k).length<=k
 |0=>bG _
 |k+1=>by have:=Cw kd k;simp only[st];split<;>split<;>simp<;>omega
theorem GK(n:Nat)(t:T):(List.replicate n [t]).flatten=List.replicate n t:=by
 induction n with
 |zero=>rfl
 |succ n ih=>rw[AD,JJ,ih];rfl
noncomputable def Cy(rs:qal)(h e l o s:qaj)(k:Nat)(r:Rw):En:=[some (.lst (rs.map aU),false),some (.lst h,true),some (.lst e,true),some (.lst l,true),some (.lst o,true),some (.lst s,true),some (.int (k:Int),false),some (aU r,false)]
noncomputable def qM(rs:qal)(k:Nat):qaj:=(st (bz rs) k).map λ(j:Nat)=>T.int (j:Int)
def QY(rs:qal)(k:Nat)(ρ:En):Prop:=∃b6 b7 h e l o s,ρ=[some (.lst (rs.map aU),false),some (.lst h,true),some (.lst e,true),some (.lst l,true),some (.lst o,true),some (.lst s,true),b6,b7]/\h=tab (EL (bz rs)) rs.length k/\e=f9 (endsAt (bz rs) rs.length) rs.length k/\l=vY (bz rs) rs.length k/\o=tab (j2 (bz rs)) rs.length k/\s=qM rs k
noncomputable def GL(rs:qal)(M:Nat->Rw->qaj->qaj->qaj->qaj->qaj->Prop):FS:=λd ρ=>∃k r h e l o s,rs[k]?=some r/\ρ=Cy rs h e l o s k r/\h=tab (EL (bz rs)) rs.length (k+1)/\M k r h e l o s/\∀ρ',QY rs (k+1) ρ'->d.nx ρ'
def M1(rs:qal)(k:Nat)(r:Rw)(h e l o s:qaj):Prop:=e=f9 (endsAt (bz rs) rs.length) rs.length k/\l=vY (bz rs) rs.length k/\s=qM rs k/\o.length=rs.length/\((aQ r).df=true->o.set k (.int (k:Int))=tab (j2 (bz rs)) rs.length (k+1))/\((aQ r).df=false->o=tab (j2 (bz rs)) rs.length (k+1))
def M2(rs:qal)(k:Nat)(r:Rw)(h e l o s:qaj):Prop:=e=f9 (endsAt (bz rs) rs.length) rs.length k/\l=vY (bz rs) rs.length k/\s=qM rs k/\o=tab (j2 (bz rs)) rs.length (k+1)
def M3(rs:qal)(k:Nat)(r:Rw)(h e l o s:qaj):Prop:=e=f9 (endsAt (bz rs) rs.length) rs.length k/\l=vY (bz rs) rs.length (k+1)/\s=qM rs k/\o=tab (j2 (bz rs)) rs.length (k+1)
def M4(rs:qal)(k:Nat)(r:Rw)(h e l o s:qaj):Prop:=e=f9 (endsAt (bz rs) rs.length) rs.length (k+1)/\l=vY (bz rs) rs.length (k+1)/\o=tab (j2 (bz rs)) rs.length (k+1)/\s=(if (aQ r).cl=true then (qM rs k).dropLast else qM rs k)
theorem mM(h:k<n):y4 n (k:Int)=some k:=by unfold y4;rw[if_pos (by omega),if_pos (by omega),iL]
theorem qN(h:st (bz rs) k≠[]):∃j,(st (bz rs) k).getLast?=some j/\ky (qM rs k) (-1)=some (.int (j:Int)):=by obtain⟨j,hj⟩:∃j,(st (bz rs) k).getLast?=some j:=⟨_,List.getLast?_eq_some_getLast h⟩;exact⟨j,hj,Cv (by unfold qM;rw[List.getLast?_map,hj];rfl)⟩
section
noncomputable abbrev qO:qai:=["program","heads","ends","elses","homes","opened","place","row"]
theorem tV:aG qO qav (aq jd):=L2.iQ
theorem Cz(D:Df K mg "shape" jd qav f fd)(M:Xy K mg):cJ P w K mg base "shape" qav 1 (LW K 1 Cu):=by
 refine D.iI (Xu D.F tV rfl (by decide) λbw A outer s H E Ox hr ts q hG=>?_);have nd:=tV.nd;have hu:=bb.fK hr;have np:∀{i:Nat},aX ⟨H,[],Ox⟩ i:=iw;obtain⟨ac,mc,Zy⟩:=M.CL;obtain⟨ao,mo,Zz⟩:=M.OP;have zU:∀{pos},VP (il gP P w K mg base qO "shape" (aq jd) f bw A outer s H E).yO ⟨H,[],Ox⟩ (.Name "CLOSERS" pos) (fC (.tup [.str "give",.str "end"])):=k_ (by rfl) mc (v:=.ref ac) rfl λH A=>cP (Zy H) (ax.cons cZ (ax.cons cZ ax.nil));have zV:∀{pos},VP (il gP P w K mg base qO "shape" (aq jd) f bw A outer s H E).yO ⟨H,[],Ox⟩ (.Name "OPENERS" pos) (fC (.tup [.str "def",.str "if",.str "while"])):=k_ (by rfl) mo (v:=.ref ao) rfl λH A=>cP (Zz H) (ax.cons cZ (ax.cons cZ (ax.cons cZ ax.nil)));obtain⟨rs,rfl,W,hn,hq⟩:=hG;refine⟨_,(dY (dv (i:=1) nd rfl (Or.inl rfl) (qau (qv (bO (aa (qat d9) aj)) (qas (bC cq cu (by rfl) M.len Ez (a_ (ae 0) bx))))) np)
  (dY (dv (i:=2) nd rfl (Or.inl rfl) (qau (qv (bO (aa (qat d9) aj)) (qas (bC cq cu (by rfl) M.len Ez (a_ (ae 0) bx))))) np)
  (dY (dv (i:=3) nd rfl (Or.inl rfl) (qau (qv (bO (aa (qat d9) aj)) (qas (bC cq cu (by rfl) M.len Ez (a_ (ae 0) bx))))) np)
  (dY (dv (i:=4) nd rfl (Or.inl rfl) (qau (qv (bO (aa (qat d9) aj)) (qas (bC cq cu (by rfl) M.len Ez (a_ (ae 0) bx))))) np)
  (dY (dv (i:=5) nd rfl (Or.inl rfl) (qau (bO aj)) np)
  (dY (eB uP rfl (i5 (by rfl) M.enumerate (ai 0)) (dw (n:=2) rfl (aK (aD (i:=6) nd rfl (Or.inl rfl) np) (aK (aD (i:=7) nd rfl (Or.inl rfl) np) cC)))
   (ah (aY (xv (qas (bC cq cu (by rfl) M.len Ez (a_ (ae 5) bx))) (qas af))
    (ah (fH 1 (qat (aC (ae 5) (qas (vF (qas af))))) (ae 6))
    (ak (fH 4 (qat (aC (ae 5) (qas af))) (ae 6))))
    aL)
   (l_.weak (u:=(GL rs (M1 rs))) (ah (aY (bU hu (qas (aC (ae 7) (qas af))) (qas aE))
    (ak (fH 4 (ai 6) (ae 6)))
    aL)
   (l_.weak (u:=(GL rs (M2 rs))) (ah (aY (bU hu (qas (aC (ae 7) (qas af))) (qas aE))
    (ak (fH 3 (ai 6) (qas (aC (ae 5) (qas (vF (qas af)))))))
    aL)
   (l_.weak (u:=(GL rs (M3 rs))) (ah (aY (IY (qas (aC (ae 7) (qas af))) (qas zU))
    (ah (fH 2 (ai 6) (qas (aC (ae 5) (qas (vF (qas af))))))
    (ak (cA (Lr 5 PySem.F.slot_list_pop PySem.F.type_list_pop KU F'))))
    aL)
   (l_.weak (u:=(GL rs (M4 rs))) (ak (aY (IY (qas (aC (ae 7) (qas af))) (qas zV))
    (ak (cA (iZ 5 ET EU bW bR (aa (ai 6) aj))))
    aL)) ?w4)) ?w3)) ?w2)) ?w1)))
  (GA (is:=[1,2,3,4]) rfl ⟨_,_,1,_,rfl,rfl,rfl,Or.inl rfl,by decide,by decide,rfl,⟨_,_,2,_,rfl,rfl,rfl,Or.inl rfl,by decide,by decide,rfl,⟨_,_,3,_,rfl,rfl,rfl,Or.inl rfl,by decide,by decide,rfl,⟨_,_,4,_,rfl,rfl,rfl,Or.inl rfl,by decide,by decide,rfl,rfl⟩⟩⟩⟩ (by decide) (by decide)))))))),λ_=>?main⟩
 case w4=>
  rintro d ρ ⟨k,r,h,e,l,o,s,gD,rfl,rfl,⟨rfl,rfl,rfl,rfl⟩,fin⟩;have xT:k<rs.length:=(dJ.mp gD).1;have kG:=j1 gD;obtain⟨rl,er⟩:=eT r;unfold Cy;rw[er];refine⟨_,ag (j:=0) rfl,rfl,rfl,?_⟩;refine zc (λh1=>?_) (λh1=>?_);have ho:(aQ r).op=true:=by rw[<- QJ];exact h1
  have hc:(aQ r).cl=false:=by have:=W.ex k xT (by rw[kG];exact ho);rw[kG] at this;exact this
  rw[hc,if_neg dO];refine⟨?_,fin _ ⟨_,_,_,_,_,_,_,rfl,rfl,rfl,rfl,rfl,?_⟩⟩;have:=Cw (bz rs) k;unfold qM;rw[cn,sizeLine_eq];omega;unfold qM;rw[oY (by rw[kG];exact ho) (by rw[kG];exact hc),AE];rfl;have ho:(aQ r).op=false:=by
   cases q:(aQ r).op with
   |false=>rfl
   |true=>exact (h1 ((QJ r).trans q)).elim
  refine fin _ ⟨_,_,_,_,_,_,_,rfl,rfl,rfl,rfl,rfl,?_⟩;unfold qM;by_cases hc:(aQ r).cl=true;rw[if_pos hc,mE (by rw[kG];exact hc) (by rw[kG];exact ho),List.map_dropLast];rw[if_neg hc,tf (by rw[kG];cases q:(aQ r).cl<;>simp_all) (by rw[kG];exact ho)]
 case w3=>
  rintro d ρ ⟨k,r,h,e,l,o,s,gD,rfl,rfl,⟨rfl,rfl,rfl,rfl⟩,fin⟩;have xT:k<rs.length:=(dJ.mp gD).1;have kG:=j1 gD;obtain⟨rl,er⟩:=eT r;unfold Cy;rw[er];refine⟨_,ag (j:=0) rfl,rfl,rfl,?_⟩;refine zc (λh1=>?_) (λh1=>?_);have hc:(aQ r).cl=true:=by rw[<- QI];exact h1
  have nM:(bz rs k).cl=true:=by rw[kG];exact hc
  obtain⟨j,hj,ej⟩:=qN (W.cl k xT nM);obtain⟨te,hjk⟩:=Gy W xT nM hj;refine⟨_,ej,j,by rw[tu];exact mM (by omega),rfl,.int (j:Int),?_,k,r,_,_,_,_,_,gD,by rw[<- er];rfl,rfl,⟨?_,rfl,rfl,by rw[if_pos hc]⟩,fin⟩;unfold qM;rw[cn,fj,<- Sn,hj];rfl;refine Cb te λi hi he=>?_;have:=(xK W xT he hi).2;rw[hj] at this;exact (Option.some.inj this).symm;have hc:(aQ r).cl=false:=by
   cases q:(aQ r).cl with
   |false=>rfl
   |true=>exact (h1 ((QI r).trans q)).elim
  refine⟨k,r,_,_,_,_,_,gD,by rw[<- er];rfl,rfl,⟨zJ λi hi he=>?_,rfl,rfl,by rw[hc,if_neg dO]⟩,fin⟩;have:=(xK W xT he hi).1;rw[kG,hc] at this;cases this
 case w2=>
  rintro d ρ ⟨k,r,h,e,l,o,s,gD,rfl,rfl,⟨rfl,rfl,rfl,rfl⟩,fin⟩;have xT:k<rs.length:=(dJ.mp gD).1;have kG:=j1 gD;obtain⟨rl,er⟩:=eT r;unfold Cy;rw[er];refine⟨_,ag (j:=0) rfl,?_⟩;refine zc (λh1=>?_) (λh1=>?_);have hc:(aQ r).el=true:=by rw[<- QH];exact h1
  have nM:(bz rs k).el=true:=by rw[kG];exact hc
  obtain⟨j,hj,ej⟩:=qN (W.el k xT nM);have Tx:j<k:=(oZ k).2 j (List.mem_of_getLast? hj);refine⟨_,ej,j,by rw[qF];exact mM (by omega),k,r,_,_,_,_,_,gD,by rw[<- er];rfl,rfl,⟨rfl,?_,rfl,rfl⟩,fin⟩;simp only[vY,EL,nM,hj];have hc:(aQ r).el=false:=by
   cases q:(aQ r).el with
   |false=>rfl
   |true=>exact (h1 ((QH r).trans q)).elim
  refine⟨k,r,_,_,_,_,_,gD,by rw[<- er];rfl,rfl,⟨rfl,?_,rfl,rfl⟩,fin⟩;simp only[vY,kG,hc]
 case w1=>
  rintro d ρ ⟨k,r,h,e,l,o,s,gD,rfl,rfl,⟨rfl,rfl,rfl,ol,o1,o2⟩,fin⟩;have xT:k<rs.length:=(dJ.mp gD).1;obtain⟨rl,er⟩:=eT r;unfold Cy;rw[er];refine⟨_,ag (j:=0) rfl,?_⟩;refine zc (λh1=>?_) (λh1=>?_);exact⟨k,by rw[ol];exact mM xT,k,r,_,_,_,_,_,gD,by rw[<- er];rfl,rfl,⟨rfl,rfl,rfl,o1 (by rw[<- QG];exact h1)⟩,fin⟩;have hc:(aQ r).df=false:=by
   cases q:(aQ r).df with
   |false=>rfl
   |true=>exact (h1 ((QG r).trans q)).elim
  exact⟨k,r,_,_,_,_,_,gD,by rw[<- er];rfl,rfl,⟨rfl,rfl,rfl,o2 hc⟩,fin⟩
 case main=>
  have hlen:((rs.map aU).length:Int)=(rs.length:Int):=by rw[cn]
  have CA:(List.replicate ((rs.map aU).length:Int).toNat [T.a9]).flatten=List.replicate rs.length T.a9:=by rw[hlen,iL];exact GK _ _
  have LN : -(2 ^ 63)<=((rs.map aU).length:Int):=by omega
  have I_:((rs.map aU).length:Int)<2 ^ 63:=by omega
  have TB:[T.a9].length * ((rs.map aU).length:Int).toNat<=sizeLine:=by rw[hlen,iL,sizeLine_eq];simp;omega
  refine⟨Gen.LS rfl,LN,I_,TB,Gen.LS rfl,LN,I_,TB,Gen.LS rfl,LN,I_,TB,Gen.LS rfl,LN,I_,TB,Gen.LS rfl,?_⟩;show hX (dX (rs.map aU)) _ _ _ [some (.lst (rs.map aU),false),some (.lst (List.replicate ((rs.map aU).length:Int).toNat [T.a9]).flatten,true),some (.lst (List.replicate ((rs.map aU).length:Int).toNat [T.a9]).flatten,true),some (.lst (List.replicate ((rs.map aU).length:Int).toNat [T.a9]).flatten,true),some (.lst (List.replicate ((rs.map aU).length:Int).toNat [T.a9]).flatten,true),some (.lst [],true),none,none];rw[Cd,CA];refine eS (QY rs)
   ⟨_,_,_,_,_,_,_,rfl,(tw _ _).symm,(zI _ _).symm,rfl,(tw _ _).symm,rfl⟩ ?_ ?_
  . rintro k ⟨r,k'⟩ ρ hk ⟨b6,b7,_,_,_,_,_,rfl,rfl,rfl,rfl,rfl,rfl⟩;rw[List.getElem?_zipIdx] at hk;cases gD:rs[k]? with
    |none=>rw[gD] at hk;cases hk
    |some r'=>
    rw[gD] at hk;simp at hk;obtain⟨rfl,rfl⟩:=hk;have xT:k<rs.length:=(dJ.mp gD).1;obtain⟨rl,er⟩:=eT r';refine⟨rfl,rfl,?_⟩;show P8 _ _ _ [some (.lst (rs.map aU),false),some (.lst (tab (EL (bz rs)) rs.length k),true),some (.lst (f9 (endsAt (bz rs) rs.length) rs.length k),true),some (.lst (vY (bz rs) rs.length k),true),some (.lst (tab (j2 (bz rs)) rs.length k),true),some (.lst (qM rs k),true),some (.int (k:Int),false),some (aU r',false)];rw[er];have kG:=j1 gD;refine jT (λh1=>?_) (λh1=>?_);have f6:st (bz rs) k≠[]:=λz=>by have EI:((qM rs k).length:Int) > 0:=h1;unfold qM at EI;rw[z] at EI;simp at EI
    obtain⟨j,hj,ej⟩:=qN f6;obtain⟨j0,Xz⟩:∃j0,(st (bz rs) k).head?=some j0:=⟨_,List.head?_eq_some_head f6⟩;have ZA:ky (qM rs k) 0=some (.int (j0:Int)):=ag (j:=0) (by unfold qM;rw[fj,<- List.head?_eq_getElem?,Xz];rfl);refine⟨_,ej,k,by rw[ja];exact mM xT,_,ZA,k,by rw[ja];exact mM xT,k,r',_,_,_,_,_,gD,by rw[<- er];rfl,?_,⟨rfl,rfl,rfl,by rw[List.length_set,ja],λhd=>?_,λhd=>?_⟩,λρ' h=>h⟩;have e1:T.int (j:Int)=oT (EL (bz rs) k):=by unfold EL;rw[hj];rfl
    rw[e1];exact lq;rw[List.set_set];have e1:T.int (k:Int)=oT (j2 (bz rs) k):=by unfold j2;rw[kG,if_pos hd];rfl
    rw[e1];exact lq;have e1:T.int (j0:Int)=oT (j2 (bz rs) k):=by unfold j2;rw[kG,hd,if_neg dO,Xz];rfl
    rw[e1];exact lq;have f6:st (bz rs) k=[]:=by
     cases q:st (bz rs) k with
     |nil=>rfl
     |cons a b=>exfalso;refine h1 ?_;show ((qM rs k).length:Int) > 0;unfold qM;rw[q];simp
    refine⟨k,r',_,_,_,_,_,gD,by rw[<- er];rfl,tD (by unfold EL;rw[f6];rfl),⟨rfl,rfl,rfl,by rw[ja],λhd=>?_,λhd=>?_⟩,λρ' h=>h⟩;have e1:T.int (k:Int)=oT (j2 (bz rs) k):=by unfold j2;rw[kG,if_pos hd];rfl
    rw[e1];exact lq;exact tD (by unfold j2;rw[kG,hd,if_neg dO,f6];rfl)
  rintro ρ ⟨b6,b7,_,_,_,_,_,rfl,rfl,rfl,rfl,rfl,rfl⟩;rw[List.length_zipIdx,tF,tF,zK];exact hq;intro j m hj he;unfold endsAt at he;split at he
  rename_i ho
  obtain⟨e,h1,h2,h3,_⟩:=end_is W hj ho;rw[h1] at he;cases he;exact h3;cases he
end
end QX
namespace VT
open PySem PySem.Spec PyProof.Rows L2
end VT
namespace Lay
open PySem L2 VT Gen K5
noncomputable abbrev gE:Stmt:=inClass (top 15) 0
structure QZ(mg:qae):Prop where
 len:mg "len"=none
 min:mg "min"=none
structure Q0(K:qaf)(C:Addr):Prop where
 cl:Bc K C
 eU:bN K C "program"
 GN:bN K C "heads"
 Mb:bN K C "ends"
 GO:bN K C "elses"
 je:bN K C "homes"
 v7:bN K C "defs"
 Mc:bN K C "main"
def xU(C:Addr)(ts:qaj)(q:T->Prop):Prop:=∃rs:qal,ts=[.lst (rs.map aU)]/\N0 rs/\rs.length<=100/\q (kX C rs)
section
variable{aT:Addr}
noncomputable abbrev CB:qai:=["self","program","parts"]
theorem o8:aG CB qaw (aq gE):=L2.iQ
theorem zW(D:Dc K mg "Layout" "Layout.__init__" gE qaw aT f fd)(M:QZ mg)(M1:Q0 K aT)(GP:cJ P w K mg base "shape" qav 1 (LW K 1 QX.Cu))(qP:cJ P w K mg base "first_defs" qav 1 (cK K 1 Ct)):Cq P w K mg base "Layout" aT qaw 2 1 (xU aT):=by
 obtain⟨TC,Q1,GQ,GR,GU,GV⟩:=GP;refine D.iI (Xw D.F o8 rfl λbw A outer s H E as Ox hr us q hl hG=>?_);have nd:=o8.nd;have aI:=M1;refine⟨_,(ah (aN (i:=2) nd rfl (Or.inl rfl) (qau (VD.vp (xN GV (hr.mono (by decide)) (by rfl) GQ GR GU (aa (ai 1) aj)))) (Qq (by decide)))
  (ah (fP 0 aI.cl aI.eU (ai 1))
  (ah (fP 0 aI.cl aI.GN (qat (aC (ae 2) (qas af))))
  (ah (fP 0 aI.cl aI.Mb (qat (aC (ae 2) (qas af))))
  (ah (fP 0 aI.cl aI.GO (qat (aC (ae 2) (qas af))))
  (ah (fP 0 aI.cl aI.je (qat (aC (ae 2) (qas af))))
  (ah (fP 0 aI.cl aI.v7 (qat (aO qP hr (aa (ai 1) aj))))
  (ak (fP 0 aI.cl aI.Mc (qat (IG (xv (qas (bC zO vZ (by rfl) M.len Ez (a_ (qas (gA aI.cl aI.v7 (ae 0))) bx))) (qas af)) (v3 rfl (by rfl) M.min (qas (gA aI.cl aI.v7 (ae 0)))) d9))))))))))),?_⟩
 obtain⟨rs,rfl,W,hn,hq⟩:=hG;refine⟨rfl,rs,rfl,W,hn,?_⟩;rw[Cs];refine⟨rfl,by show 0<1000;decide,?_⟩;refine⟨rfl,_,ag (j:=0) rfl,by show 1<1000;decide,?_⟩;refine⟨rfl,_,ag (j:=1) rfl,by show 2<1000;decide,?_⟩;refine⟨rfl,_,ag (j:=2) rfl,by show 3<1000;decide,?_⟩;refine⟨rfl,_,ag (j:=3) rfl,by show 4<1000;decide,?_⟩;refine⟨rfl,rfl,rs,rfl,hn,by show 5<1000;decide,?_⟩;refine⟨rfl,?_⟩;refine⟨rfl,_,rfl,?_⟩;refine jT (λh=>?_) (λh=>?_);refine⟨rfl,_,rfl,(aW rs rs.length).map (λp=>(p.2:Int)),?_,?_,λm h1 h2=>?_⟩;rw[uY];rfl;intro z;rw[List.map_eq_nil_iff] at z;rw[z] at h;exact absurd h (by decide);refine⟨by show 6<1000;decide,?_⟩;have e:=Cr h1 h2;show q [_] _;rw[e];exact hq;refine⟨by show 6<1000;decide,?_⟩;have z:aW rs rs.length=[]:=by
  cases e:aW rs rs.length with
  |nil=>rfl
  |cons a b=>exfalso;apply h;rw[e];simp
 have e:gB rs=none:=by
  cases e:gB rs with
  |none=>rfl
  |some i=>obtain⟨⟨g,ps,hi⟩,hm⟩:=o7 e;obtain⟨l,hl⟩:=gC hi hm rs.length (dJ.mp hi).1;rw[z] at hl;cases hl
 have e2:T.a9=oT (gB rs):=by rw[e];rfl
 unfold kX at hq;rw[<- e2] at hq;exact hq
end
end Lay
namespace VT
open PySem PySem.Spec PyProof.Rows L2
section
variable{X:Cx}{o:Expr}{fo:FE}
def GW(fo fe:FE):FP:=λρ Q=>fo ρ λx=>match x with
 |.str z=>fe ρ λy=>match y with
  |.str y=>Q (.vw (.bl (Txt.startswith z y)))
  |_=>False
 |_=>False
theorem o9(ho:VR X Z o fo)(he:VR X Z e fe)(cN:attributeBase o "startswith" X.env (eval o X.env)=eval o X.env:=by rfl)(vv:((backTo bf (starEach [e] X.env)).all (λx=>!x.1) && (backToKw bf (keywordEach [] X.env)).all (λx=>x.1.isSome)
    && decide (([e]:qap).length+([]:List Keyword).length+(if ([]:List Keyword).isEmpty then 0 else 1)<30))=true:=by rfl)(cO:(apos.endLine==bf.line)=true:=by rfl)(hs:starEach [e] X.env=(false,eval e X.env)::starEach [] X.env:=by rfl)(ip:(backTo bf (starEach [] X.env)).any (·.1)=false:=by rfl) :
  VP X Z (.Call (.Attribute o "startswith" apos) [e] [] bf) (GW fo fe):=.mk λtm=>
 PE.weak (Bj PySem.F.plainAttrs_str PySem.F.slot_str_startswith PySem.F.type_str_startswith nR (ho tm) (a8 (he tm) cF hs) cN vv cO hs ip) λσ H Q ⟨ρ,O,q,I,hf,k⟩ =>
  ⟨ρ,O,_,I,hf,λx hx v H1 s1 a1=>by
    split at hx
    rename_i z
    have ev:=a1.str;subst ev;refine⟨rfl,ρ,O,_,I.same s1,hx,λy hy w H2 s2 a2=>?_⟩;split at hy;have ew:=a2.str;subst ew;exact⟨z,_,rfl,rfl,k _ hy _ H2 (s1.trans s2) ⟨(I.same s1).same s2,cX⟩⟩;exact hy.elim;exact hx.elim⟩
end
end VT
namespace VT
open PySem PySem.Spec PyProof.Rows
def ZC{K:Type}[DecidableEq K](l:List K)(v:K):List K:=if v∈l then l else l++[v]
def met{K:Type}[DecidableEq K](val:Nat->K):Nat->List K
 |0=>[]
 |i+1=>ZC (met val i) (val i)
section
variable{R:Result->Shared->Prop}{I:Addr}{wr:qah}{G:Array GenState->Array GenState->Prop}{P:Nat->Value->Prop}{St:Nat->Shared->Prop}
variable{K:Type}[DecidableEq K]{knd:PySem.KeyKind prog w K}
end
end VT
namespace VT
open PySem PySem.Spec PyProof.Rows L2
section
variable{X:Cx}{a b o i:Expr}{fo fi:FE}
theorem zX:IC X "int.bit_length" (λx xs H Q=>∃i,x=.int i/\xs=[]/\Q (.int (Builtin.Int.intBits i)) H):=by intro pins s σ H x xs v us Q I rx rs h;obtain⟨i,rfl,rfl,q⟩:=h;obtain⟨t,rfl⟩:=rx;cases rs;exact call_int_bit_length ⟨.int _,H,I.tok _,⟨_,rfl⟩,q⟩
def GX(f:FE):FP:=λρ Q=>f ρ λx=>match x with
 |.int i=>Q (.vw (.int (Builtin.Int.intBits i)))
 |_=>False
theorem zY(ho:VR X Z o fo)(cN:attributeBase o "bit_length" X.env (eval o X.env)=eval o X.env:=by rfl)(cO:(apos.endLine==bf.line)=true:=by rfl) :
  VP X Z (.Call (.Attribute o "bit_length" apos) [] [] bf) (GX fo):=.mk λtm=>
 PE.weak (vt PySem.F.plainAttrs_int PyProof.Rows.slot_int_bit_length PyProof.Rows.type_int_bit_length zX (ho tm) cN cO) λσ H Q ⟨ρ,O,q,I,hf,k⟩ =>
  ⟨ρ,O,_,I,hf,λx hx v H1 s1 a1=>by
    split at hx
    rename_i z
    have ev:=a1.int;subst ev;exact⟨rfl,z,rfl,rfl,k _ hx _ H1 s1 ⟨I.same s1,aZ⟩⟩;exact hx.elim⟩
end
end VT
namespace Nm
open PySem L2 VT Gen lV
noncomputable def top(i:Nat):Stmt:=PySem.Challenge.pw_slicewise_k22_cells_of_records.main.body.getD i (.Pass ⟨0,0,0,0⟩)
noncomputable abbrev gT:Stmt:=top 6
noncomputable abbrev iy:Stmt:=top 7
structure V1(mg:qae):Prop where
 GY:∃t,mg "LETTERS"=some (.str bj t)
 qQ:∃t,mg "LONGEST_NAME"=some (.int 8 t)
 isinstance:mg "isinstance"=none
 str:mg "str"=none
 len:mg "len"=none
 all:mg "all"=none
theorem bS(h:n<=1000):n<=sizeLine:=small h
noncomputable def GZ:T->Bool
 |.lst _=>false
 |.dk _ _=>false
 |.dt _ _=>false
 |.df _ _ _=>false
 |.dz _ _ _=>false
 |.dc _ _ _=>false
 |.kt _=>false
 |.ins _ _ _=>false
 |.pin _ _=>false
 |.ob _=>false
 |.ty _=>false
 |_=>true
noncomputable def Q2:T->Bool
 |.str x=>bX x
 |_=>false
def sx(ts:qaj)(q:qam):Prop:=∃t,ts=[t]/\GZ t=true/\(∀x,t=.str x->x.length<=1000)/\q (.vw (.bl (Q2 t)))
def Md(r:Rt)(A:Prop)(B:Prop):Prop:=match r with
 |.vw (.bl true)=>A
 |.vw (.bl false)=>B
 |_=>False
theorem CC{c:Bool}{A:Prop}(h1:c=true->A)(h2:c=false->B):Md (.vw (.bl c)) A B:=by
 cases c with
 |true=>exact h1 rfl
 |false=>exact h2 rfl
noncomputable def Q3:T->Bool
 |.str x=>dQ x
 |_=>false
def zZ(t:T):Prop:=(∃x,t=.str x/\x.length<=100)\/∃i,t=.int i
def Co(ts:qaj)(q:qam):Prop:=∃t,ts=[t]/\zZ t/\q (.vw (.bl (Q3 t)))
def andM(r:Rt)(A:Prop)(B:Prop):Prop:=match r with
 |.vw (.bl true)=>A
 |.vw (.bl false)=>B
 |_=>False
theorem G0{c:Bool}{A:Prop}(h1:c=true->A)(h2:c=false->B):andM (.vw (.bl c)) A B:=by
 cases c with
 |true=>exact h1 rfl
 |false=>exact h2 rfl
theorem xV:∀l:qao,cb (l.map ((λt:T=>match t with | .str y=>.bl (BR y bj)|_=>.a9) ∘ λc=>T.str ⟨#[c]⟩))=some (l.map zl)
 |[]=>rfl
 |c::l=>by rw[gj,gj];show (cb _).map _=_;rw[xV l];rfl
section
noncomputable abbrev j3:qai:=qax
theorem mO:aG j3 qax (aq gT):=L2.iQ
theorem oq:(j3++(["sign"]:qai)).Nodup:=by decide +kernel
theorem G1(D:Df K mg "is_name" gT qax f fd)(M:V1 mg):cJ P w K mg base "is_name" qax 1 (cK K 1 sx):=by
 refine D.iI (lh D.F mO rfl λbw A outer s H E Ox hr ts q hG=>?_);have nd:=mO.nd;have np:∀{i:Nat},aX ⟨H,[],Ox⟩ i:=iw;obtain⟨tL,mL⟩:=M.GY;obtain⟨tN,mN⟩:=M.qQ;have mP:∀{pos},VP (il gP P w K mg base j3 "is_name" (aq gT) f bw A outer s H E).yO ⟨H,[],Ox⟩ (.Name "LONGEST_NAME" pos) (fC (.int 8)):=k_ (by rfl) mN (v:=.int 8) ⟨tN,rfl⟩ λ_ _=>aZ;refine⟨_,(ah (aY (VW.vc (PU (l6 (cH (bZ dW (by rfl) M.isinstance (by rfl) M.str mx (ae 0)))) (K9 (l6 (BY IA IA (qas af) (qas (bC cq cu (by rfl) M.len Ez (a_ (ae 0) bx))) (qas mP))))))
    (ak (aJ (qau hW)))
    aL)
   (ak (aJ (qau (bC (lU rfl) zy (by rfl) M.all Qo (a_ (qas (dA (ts:=["sign"]) rfl (by rfl) (jL (ai 0)) (λ_ _ _ _ _ _=>(aD (i:=1) oq rfl (Or.inl rfl) np)) (λ_ _ _ _ _ _=>qf) (λ_ _ _ _ _ _=>(qat (Qj (ae 1) (qas (k_ (by rfl) mL (v:=.str bj) ⟨tL,rfl⟩ λ_ _=>cZ))))))) bx)))))),λ_=>?_⟩
 obtain⟨t,rfl,ht,hx,hq⟩:=hG;cases t with
 |a9=>exact⟨rfl,hq⟩
 |bl b=>exact⟨rfl,hq⟩
 |int x=>exact⟨rfl,hq⟩
 |tup l=>exact⟨rfl,hq⟩
 |str x=>
   have hl:=hx x rfl;have oI:q (.vw (.bl (decide (1<=(x.length:Int)) && (decide ((x.length:Int)<=8) && x.cps.toList.all zl)))):=hq;refine⟨rfl,bS hl,CC (c:=decide (1<=(x.length:Int))) (λh1=>?_) (λh1=>?_)⟩;rw[h1,uX] at oI;refine zc (λh2=>?_) (λh2=>?_);have EJ:(!decide ((x.length:Int)<=8))=true:=h2;have h3:decide ((x.length:Int)<=8)=false:=by simpa using EJ
   rw[h3,Ey] at oI;exact oI;have EJ:¬ (!decide ((x.length:Int)<=8))=true:=h2;have h3:decide ((x.length:Int)<=8)=true:=by simpa using EJ
   rw[h3,uX] at oI;refine⟨rfl,by rw[cn,JG];exact bS hl,jM (λ_=>true) (λt=>match t with | .str y=>.bl (BR y bj)|_=>.a9) (λt ht k r h=>?_) ?_⟩;obtain⟨c,_,rfl⟩:=kN.mp ht;exact⟨_,rfl,h⟩;rw[List.filter_eq_self.mpr (λ_ _=>rfl),uY];refine⟨x.cps.toList.map zl,xV x.cps.toList,?_⟩;rw[List.all_map];exact oI;rw[h1,Ey] at oI;exact oI
 |_=>cases ht
abbrev v8:qai:=qax
theorem kJ:aG v8 qax (aq iy):=L2.iQ
theorem tW(D:Df K mg "is_field" iy qax f fd)(M:V1 mg)(z0:cJ P w K mg base "is_name" qax 1 (cK K 1 sx)):cJ P w K mg base "is_field" qax 2 (cK K 1 Co):=by
 refine D.iI (lh D.F kJ rfl λbw A outer s H E Ox hr ts q hG=>?_);have nd:=kJ.nd;refine⟨_,(ak (aJ (qau (jH (bZ dW (by rfl) M.isinstance (by rfl) M.str mx (ae 0)) (jH (o9 (ae 0) (qas aE)) (l7 (aO z0 hr (aa (qat (sN (ae 0) (qd (qas af)) F_)) aj)))))))),λ_=>?_⟩;obtain⟨t,rfl,ht,hq⟩:=hG;obtain⟨x,rfl,hx⟩|⟨i,rfl⟩:=ht
 refine⟨rfl,?_⟩;have oI:q (.vw (.bl (Txt.startswith x "." && bX (Txt.slice x (some 1) none)))):=hq;refine G0 (c:=Txt.startswith x ".") (λh=>?_) (λh=>?_);rw[h,uX] at oI;refine⟨bS (by omega),rfl,_,rfl,rfl,λy e=>?_,oI⟩;cases e;exact km (Txt.slice_le x _ _) (by omega);rw[h,Ey] at oI;exact oI;exact⟨rfl,hq⟩
end
end Nm
namespace PySem
open Sem (wp)
section
variable{d:Addr}{es:Array DictEntry}{ep:Nat}
theorem iz(hm:(d==sysModules)=false)(ho:s.heap.get? d=some o)(hc:o.cls=.type "dict")(hd:o.data=.dict es ep)(hQ:Q (.ref s.heap.objs.size) {s with heap:=s.heap.push {cls:=.type "dict_keyiterator",data:=.fields #[.ref d,.int 0 0,.int es.size 0,.int ep 0]} }):wpAny (model prog w) A (pyIter (.ref d)) Q E s:=by have hT:s.TypeIs (.ref d) "dict":=⟨o,ho,hc⟩;refine wpAny_pyIter_slot hT F.slot_dict_iter (wpAny_call_entry F.slot_dict_iter hT F.entry_dict_iter ?_ (F.args_dict_iter_1 _));unfold Builtin.«dict.__iter__»;refine wpAny_bind ?_;unfold Builtin.Dict.dictSlotNone Builtin.Dict.notOrdered;refine wpAny_bind ?_;rw[if_pos (by decide +kernel)];refine wpAny_bind (wpAny_typeOf hT ?_);rw[if_neg (by decide +kernel)];refine wpAny_pure ?_;refine wpAny_bind (wpAny_pure ?_);refine wpAny_pure ?_;refine wpAny_bind (wpAny_pure ?_);unfold Builtin.Dict.showsAll;rw[if_neg (by rw[hm];decide)];refine wpAny_bind (wpAny_pure ?_);refine wpAny_bind (wpAny_dictEntries ho hd ?_);refine wpAny_bind (wpAny_dictEpoch ho hd ?_);refine wpAny_bind (wpAny_newObj_type (wpAny_pure ⟨_,rfl,"dict_keyiterator",_,⟨_,gN _ rfl,rfl⟩,NG.lookup,?_⟩));exact hQ
theorem iA{Q:(Option Value)->Shared->Prop}(hit:s.heap.IsKeyIter it d i es.size ep)(ho:s.heap.get? d=some o)(hd:o.data=.dict es ep){e:DictEntry}(he:es[i]?=some e)(h:∀h',h'.IsKeyIter it d (i+1) es.size ep->Heap.SameBut it s.heap h'->Q (some e.key) {s with heap:=h'}):wpAny (model prog w) A (pyNext (.ref it)) Q E s:=by
 obtain⟨oi,N6,XA,Me⟩:=id hit;unfold pyNext;refine wpAny_bind (wpAny_attempt (wpAny_callSpecial?_slot (name:=Str.ofString "__next__") hit.typeIs NG
  (wpAny_call_entry NG hit.typeIs F.entry_dict_keyiterator_next ?_ (F.args_dict_keyiterator_next_1 _))))
 unfold Builtin.«dict_keyiterator.__next__»
 wp_delta
 refine wpAny_bind (wpAny_bind (wpAny_pure ?_));refine wpAny_pure ?_;dsimp only;have hT:=hit.typeIs;refine wpAny_bind ?_
 wp_delta
 refine wpAny_bind ?_
 wp_delta
 refine wpAny_bind (wpAny_typeNameOfWhole_keyiter hT ?_);refine wpAny_pure ?_;rw[if_neg (by decide +kernel)];refine wpAny_bind (wpAny_fieldsOf N6 Me ?_);show wpAny _ _ (if (Value.ref d==Value.none)=true then _ else _) _ _ _;rw[if_neg (by simp)];refine wpAny_bind (wpAny_pure ?_);refine wpAny_bind (wpAny_dictEntries ho hd ?_);dsimp only;rw[if_neg (by simp)];refine wpAny_bind (wpAny_pure ?_);refine wpAny_bind (wpAny_dictEpoch ho hd ?_);rw[if_neg (by simp)];refine wpAny_pure ?_;dsimp only;rw[if_neg (by omega),show ((i:Int)).toNat=i from iL i,he];dsimp only;refine wpAny_bind ?_
 wp_delta
 refine wpAny_bind (wpAny_typeNameOfWhole_keyiter hT ?_);refine wpAny_pure ?_;rw[if_neg (by decide +kernel)];refine wpAny_bind (wpAny_isOneOf_keyiter hT ?_);rw[if_neg (by decide +kernel)];refine wpAny_bind (wpAny_setField N6 Me (by simp) ?_);have g1:=Heap.get?_update_self (Obj.mapFields (·.setIfInBounds (0+1) (rawInt ((i:Int)+1)))) N6 (Obj.isFreed_of_fields (SJ Me _));have Gj:(s.heap.update it (Obj.mapFields (·.setIfInBounds (0+1) (rawInt ((i:Int)+1))))).IsKeyIter it d (i+1) es.size ep :=
  ⟨_,g1,(Obj.cls_mapFields ..).trans XA,by rw[SJ Me];simp[rawInt]⟩
 refine wpAny_bind (wpAny_holding ?_)
 wp_delta
 refine wpAny_bind (wpAny_isOneOf_keyiter (s:={s with heap:=_}) Gj.typeIs ?_);rw[if_pos (by decide +kernel)];refine wpAny_pure ?_;exact wpAny_pure ⟨_,rfl,wpAny_pure (h _ Gj (Oo ..))⟩
theorem f_{Q:(Option Value)->Shared->Prop}(hh:A.handled=none)(hit:s.heap.IsKeyIter it d i es.size ep)(ho:s.heap.get? d=some o)(hd:o.data=.dict es ep)(he:es[i]?=none)(h:∀h',Heap.ExtBut it s.heap h'->Q none {s with heap:=h'}):wpAny (model prog w) A (pyNext (.ref it)) Q E s:=by
 obtain⟨oi,N6,XA,Me⟩:=id hit;unfold pyNext;refine wpAny_bind (wpAny_attempt (wpAny_callSpecial?_slot (name:=Str.ofString "__next__") hit.typeIs NG
  (wpAny_call_entry NG hit.typeIs F.entry_dict_keyiterator_next ?_ (F.args_dict_keyiterator_next_1 _))))
 unfold Builtin.«dict_keyiterator.__next__»
 wp_delta
 refine wpAny_bind (wpAny_bind (wpAny_pure ?_));refine wpAny_pure ?_;dsimp only;have hT:=hit.typeIs;refine wpAny_bind ?_
 wp_delta
 refine wpAny_bind ?_
 wp_delta
 refine wpAny_bind (wpAny_typeNameOfWhole_keyiter hT ?_);refine wpAny_pure ?_;rw[if_neg (by decide +kernel)];refine wpAny_bind (wpAny_fieldsOf N6 Me ?_);show wpAny _ _ (if (Value.ref d==Value.none)=true then _ else _) _ _ _;rw[if_neg (by simp)];refine wpAny_bind (wpAny_pure ?_);refine wpAny_bind (wpAny_dictEntries ho hd ?_);dsimp only;rw[if_neg (by simp)];refine wpAny_bind (wpAny_pure ?_);refine wpAny_bind (wpAny_dictEpoch ho hd ?_);rw[if_neg (by simp)];refine wpAny_pure ?_;dsimp only;rw[if_neg (by omega),show ((i:Int)).toNat=i from iL i,he];dsimp only;refine wpAny_bind ?_
 wp_delta
 refine wpAny_bind (wpAny_typeNameOfWhole_keyiter hT ?_);refine wpAny_pure ?_;rw[if_neg (by decide +kernel)];refine wpAny_bind (wpAny_setField N6 Me (by simp) ?_);refine wpAny_bind ?_;simp only[newExc,newTuple];refine wpAny_bind (wpAny_newObj_type ?_ (by size_fits));refine wpAny_bind (m:=firstArgMember _ _) (wpAny_of_eq (a:=Value.none) (by first|rfl|(simp only[firstArgMember];rfl)) ?_);refine wpAny_newObj_type ?_ (by size_fits);simp only[raiseNew];refine wpAny_bind (wpAny_handled ?_);rw[show A.in1.handled=none from hh];refine wpAny_bind (wpAny_pure (wpAny_throw ?_));refine wpAny_bind (wpAny_isInstance (T:="StopIteration") (b:=true) ⟨_,gN _ rfl,rfl⟩ isSubtype_stop ?_);exact wpAny_pure (h _ (((Oo ..).extBut.push _).push _))
theorem jf(hit:s.heap.IsKeyIter it d i n ep)(hQ:Q (.ref it) s):wpAny (model prog w) A (pyIter (.ref it)) Q E s:=by refine wpAny_pyIter_slot hit.typeIs F.slot_dict_keyiterator_iter (wpAny_call_entry F.slot_dict_keyiterator_iter hit.typeIs F.entry_dict_keyiterator_iter ?_ (F.args_dict_keyiterator_iter_1 _));exact wpAny_pure ⟨_,rfl,"dict_keyiterator",_,hit.typeIs,NG.lookup,hQ⟩
end
end PySem
namespace VT
open PySem PySem.Spec PyProof.Rows L2
noncomputable def ou(o:Obj)(i:Nat):Addr:=match o.data with
 |.dict es _=>match es[i]? with
  |some e=>match e.key with
   |.ref b=>b
   |_=>0
  |none=>0
 |_=>0
def AN(H:Hp)(a:Addr)(o:Obj)(ks:List (List Key)):Prop:=∃vs:qak,ks.length=vs.length/\H a=some (.dH o (.dT (ks.zip vs)))
theorem AN.known{a:Addr}(ok:g8 P w H h)(z:AN H a o ks):h.get? a=some o/\(a==sysModules)=false/\o.cls=.type "dict"/\∃es ep,o.data=.dict es ep/\es.size=ks.length /\
  ∀(i:Nat)(k:List Key),ks[i]?=some k->H (ou o i)=some (.tup (k.map kV))/\∃e,es[i]?=some e/\e.key=.ref (ou o i):=by
 obtain⟨vs,hl,ha⟩:=z;obtain⟨ho,_,hm,xs,hx,o',es,ep,h1,h2,h3,h4,h5⟩:=(show bh P w H h a (.dH o (.dT (ks.zip vs))) from ok a _ ha);rw[ho] at h1;cases h1;have hz:es.size=ks.length:=by have e1:=Ih hx;rw[JP,hl,Il] at e1;rw[<- JG,h4,cn,hl];exact e1.symm
 refine⟨ho,hm,h2.1,es,ep,h3,hz,λi k hk=>?_⟩;have hi:i<ks.length:=(dJ.mp hk).1;have hv:vs[i]?=some (vs[i]'(by omega)):=kj _;have hp:(ks.zip vs)[i]?=some (k,vs[i]'(by omega)):=by rw[T9];exact⟨hk,hv⟩
 obtain⟨q,hq,e1,e2,e3⟩:=dj hx hp;have he:es[i]?=some (entryOfKey (tupleKind (bq P w)) q):=by rw[<- EW,h4,fj,hq];rfl
 have ek:ou o i=q.2.1:=by unfold ou;rw[h3];dsimp only;rw[he];rfl
 rw[ek];exact⟨e2,_,he,rfl⟩
noncomputable def TF(a:Addr)(o:Obj)(ks:List (List Key)):It :=
 ⟨λi H=>AN H a o ks/\i<ks.length,λi H x H'=>H'=H/\∃k,ks[i]?=some k/\x=.ref (ou o i)/\H (ou o i)=some (.tup (k.map kV)),λi H=>AN H a o ks/\ks.length=i⟩
theorem z6{tg:Expr}{es:Array DictEntry}{ep:Nat}(ks:List (List Key))(a it:Addr)(hd:o.data=.dict es ep):Turn P w K tg (TF a o ks) [it] it (λi h=>h.IsKeyIter it a i es.size ep) where
 mem:=by simp
 obj:=λi h st b hb=>by
  have e:b=it:=by simpa using hb
  subst e;obtain⟨o,e,c,d⟩:=st;exact⟨o,e,λv z=>by rw[d] at z;cases z⟩
 keep:=λi h h' st k=>st.at λo e=>k it (by simp) o e
 item:=by intro X hP hw hK hc i pins s σ H E I hf st hg;subst hP hw hK;obtain⟨ha,hi⟩:=hg;obtain⟨ho,_,_,JX,JY,h3,hz,hk⟩:=ha.known I.ba;rw[hd] at h3;cases h3;obtain⟨hb,e,he,ek⟩:=hk i _ (kj hi);obtain⟨f0,f1,f2,f3,f4,f5⟩:=hf it (by simp);refine iA st ho hd he λh' st' sb=>?_;have I1:Inv X pins σ H {s with heap:=h'}:=I.turned (t':=s.toks) (λb o hb e=>(sb.2 b hb).trans e) f0 f1 f3 f4 f5;obtain⟨oi,e1,c,d⟩:=id st';rw[ek];exact⟨_,rfl,sA (s:={s with heap:=h'}) e1 c d (by decide) ⟨.ref (ou o i),H,I1,rfl,⟨rfl,_,kj hi,rfl,hb⟩,st',λb hb=>(hf b hb).1⟩⟩
 done:=by intro X hP hw hK hc i pins s σ H E I hf st hg;subst hP hw hK;obtain⟨ha,hi⟩:=hg;obtain⟨ho,_,_,JX,JY,h3,hz,hk⟩:=ha.known I.ba;rw[hd] at h3;cases h3;obtain⟨f0,f1,f2,f3,f4,f5⟩:=hf it (by simp);exact f_ (I.ok.hd hc) st ho hd (Array.getElem?_eq_none (by omega)) λh' eb=>⟨rfl,I.turned (t':=s.toks) (λb o hb e=>eb b o hb e) f0 f1 f3 f4 f5⟩
 self:=λ_ _ _ _ _ st h=>jf st h
noncomputable def Q5(tl:TE):TI:=λσ H R=>tl σ H λx H1=>∃a o ks,x=.ref a/\AN H1 a o ks/\R (TF a o ks) H1
theorem xW{X:Cx}{tg:Expr}{tl:TE}(hl:PE X l tl):PI X tg l (Q5 tl):=by
 intro pins s σ H R I h;refine bJ (hl pins s σ H _ I h) λv s1 ⟨x,H1,I1,r1,a,o,ks,e,ha,q⟩=>?_;subst e;cases r1;obtain⟨ho,hm,hc,es,ep,h3,hz,hk⟩:=ha.known I1.ba;refine iz hm ho hc h3 ?_;refine⟨s1.heap.objs.size,[s1.heap.objs.size],_,_,H1,rfl,I1.kept (t':=s1.toks) λb o e=>dg _ e,z6 ks a _ h3,⟨_,gN _ rfl,rfl,rfl⟩,λb hb=>?_,q⟩;have e:b=s1.heap.objs.size:=by simpa using hb
 subst e;exact I1.lK (bG _) (I1.ba.fresh (bG _))
noncomputable def kT:Key->T
 |.inl i=>.int i
 |.inr x=>.str x
noncomputable def CD(k:List Key):T:=.tup (k.map kT)
theorem Q6{A:qah}(k:Key):At K H A (kT k) (kV k):=by cases k<;>simp only[kT,kV,At]
theorem CF{K:qaf}{H:Hp}{A:qah}:∀k:List Key,ax K H A (k.map kT) (k.map kV)
 |[]=>ax.nil
 |k::ks=>ax.cons (Q6 k) (CF ks)
theorem v_{A:qah}{b:Addr}{k:List Key}(h:H b=some (.tup (k.map kV))):At K H A (CD k) (.ref b):=cP (dy.of h) (CF k)
noncomputable def mQ(o:Obj)(ks:List (List Key)):qaj:=ks.zipIdx.map λp=>.pin (ou o p.2) (CD p.1)
theorem tX(o:Obj)(ks:List (List Key)):(mQ o ks).length=ks.length:=by unfold mQ;simp
theorem CG(o:Obj)(ks:List (List Key))(i:Nat):(mQ o ks)[i]?=ks[i]?.map λk=>.pin (ou o i) (CD k):=by unfold mQ;rw[fj,List.getElem?_zipIdx];cases ks[i]?<;>simp
theorem o_{A:qah}{ts:qaj}{a:Addr}(h:At K H A (.df o ks ts) (.ref a)):AN H a o ks:=by simp only[At] at h;obtain⟨b,vs,e,hl,hd,_⟩:=h;cases e;exact⟨vs,hl,hd.1⟩
theorem G2{a:Addr}{ts:qaj}:Wk K (TF a o ks) [(.df o ks ts,.ref a)] (ks.map CD):=λH A hA h i=>by have z:=o_ (h _ dq);refine⟨λhi=>⟨z,by simpa using hi⟩,λhi=>⟨z,by simpa using hi⟩,λt ht x H' y=>?_⟩;obtain⟨rfl,k,hk,rfl,hb⟩:=y;rw[fj,hk] at ht;cases ht;exact⟨aF.refl _,v_ hb⟩
theorem CH{a:Addr}{ts:qaj}:Wk K (TF a o ks) [(.df o ks ts,.ref a)] (mQ o ks):=λH A hA h i=>by have z:=o_ (h _ dq);rw[tX];refine⟨λhi=>⟨z,hi⟩,λhi=>⟨z,hi⟩,λt ht x H' y=>?_⟩;obtain⟨rfl,k,hk,rfl,hb⟩:=y;rw[CG,hk] at ht;cases ht;refine⟨aF.refl _,?_⟩;unfold At;exact⟨rfl,v_ hb⟩
section
variable{X:Cx}{tg:Expr}
noncomputable def Q7(f:FE):FI:=λρ Q=>f ρ λt=>match t with
 |.df _ ks _=>Q (ks.map CD)
 |_=>False
noncomputable def Mf(f:FE):FI:=λρ Q=>f ρ λt=>match t with
 |.df o ks _=>Q (mQ o ks)
 |_=>False
theorem G3{f:FE}(h:VE X Z l f):VI X Z tg l (Q7 f):=.mk λtm=>PI.weak (xW (h tm)) λσ H R ⟨ρ,O,q,I,hf,k⟩=>⟨ρ,O,_,I,hf,λt ht v H' s a=>by
 cases t with
 |df o ks ts=>
  obtain⟨b,rfl⟩:∃b,v=.ref b:=by simp only[At] at a;obtain⟨b,_,e,_⟩:=a;exact⟨b,e⟩
  exact⟨b,o,ks,rfl,o_ a,k _ ht _ H' _ s (λp hp=>by rw[cT.mp hp];exact a) G2⟩
 |_=>exact ht.elim⟩
theorem tY{f:FE}(h:VE X Z l f):VI X Z tg l (Mf f):=.mk λtm=>PI.weak (xW (h tm)) λσ H R ⟨ρ,O,q,I,hf,k⟩=>⟨ρ,O,_,I,hf,λt ht v H' s a=>by
 cases t with
 |df o ks ts=>
  obtain⟨b,rfl⟩:∃b,v=.ref b:=by simp only[At] at a;obtain⟨b,_,e,_⟩:=a;exact⟨b,e⟩
  exact⟨b,o,ks,rfl,o_ a,k _ ht _ H' _ s (λp hp=>by rw[cT.mp hp];exact a) CH⟩
 |_=>exact ht.elim⟩
end
section
variable{X:Cx}
theorem qR{rest:qaq}{t:TS}(h:ik X rest t):ik X rest (λD σ H=>∃a kvs,H a=some (.dT kvs)/\∀o,t D σ (upd H a (.dH o (.dT kvs)))):=by
 intro pins s σ H D I hq;obtain⟨a,kvs,ha,k⟩:=hq;obtain⟨z,y,xs,r,o,es,ep,h1,h2,h3,h4,h5⟩:=(show bh X.prog X.w H s.heap a (.dT kvs) from I.ba a _ ha);have new:bh X.prog X.w (upd H a (.dH o (.dT kvs))) s.heap a (.dH o (.dT kvs)):=by refine⟨h1,z,y,xs,Paired.iM r λp q ⟨e1,e2,e3⟩=>⟨e1,?_,e3⟩,o,es,ep,h1,h2,h3,h4,h5⟩;rw[ar];exact e2;intro e;rw[e,ha] at e2;cases e2
 have I':Inv X pins σ (upd H a (.dH o (.dT kvs))) {s with heap:=s.heap,toks:=s.toks}:=I.write (x:=a) (e:=a) (by rw[ha];trivial) (.inl rfl) (λb u _ q=>q) ⟨o,h1⟩ new;exact h pins s σ _ D I' (k o)
theorem au.ZD{tm:qab}(I:au K Z tm O ρ σ H){ts:qaj}(hp:aX Z i)(hi:ρ[i]?=some (some (.dt ks ts,true))) :
  ∃a vs,H a=some (.dT (ks.zip vs))/\∀o,au K Z tm (O.set i none) (ρ.set i (some (.df o ks ts,false))) σ (upd H a (.dH o (.dT (ks.zip vs)))):=by
 obtain⟨o',s,h1,h2,a,rfl,rfl,vs,hl,e0,q0⟩:=I.sl i _ hi;have ha:a∈roots O:=aA.mpr (fY h1);have AL:a∈av Z O:=hU _ ha;obtain⟨hP,hx,_⟩:=I.own a ha;refine⟨a,vs,e0,λo=>?_⟩;have apart:∀b,b∈roots (O.set i none)->b≠a:=λb hb e=>by
  subst e;obtain⟨j,hj⟩:=Ic.mp (aA.mp hb);rcases get_set hj with⟨_,z,_⟩|⟨ne,z⟩
  cases z;exact ne (sR I z h1)
 have U':a∉av Z (O.set i none):=λz=>by
  rcases g7.mp z with z|z
  exact apart a z rfl;exact hx z
 have fw:∀{t:T}{v:V},At K H (av Z O) t v->At K (upd H a (.dH o (.dT (ks.zip vs)))) (av Z (O.set i none)) t v:=λq=>(At.wrote AL e0 rfl q).aP (bu i);have Tj:∀{t:qaj}{v:qak},ax K H (av Z O) t v->ax K (upd H a (.dH o (.dT (ks.zip vs)))) (av Z (O.set i none)) t v:=λq=>(ax.wrote AL e0 rfl q).aP (bu i);refine⟨by simp[I.lσ],by simp[I.lO],λj e h=>?_,di _ _ I.nd,λb h=>?_,λp q=>?_,λb h=>?_,λb u e n=>?_,λp q=>fw (I.iH p q)⟩;rcases get_set h with⟨rfl,rfl,OA⟩|⟨ne,h⟩
 refine⟨none,some (.ref a),by rw[AB (by rw[I.lO];exact OA)],h2,rfl,.ref a,rfl,?_⟩;simp only[At];exact⟨a,vs,rfl,hl,⟨ay,U'⟩,Tj q0⟩;obtain⟨o2,s,g1,g2,g3⟩:=I.sl j e h;refine⟨o2,s,by rw[r6 (Ne.symm ne)];exact g1,g2,g3.map (λ_ _ q=>fw q) λb t eb q=>?_⟩;subst eb;refine q.map (ar ?_) λ_ _ q=>Tj q;intro e;subst e;exact ne (sR I g1 h1);obtain⟨g1,g2,u,g3,g4⟩:=I.own b (br i b h);exact⟨g1,g2,u,by rw[ar (apart b h)];exact g3,g4⟩;rw[r6 (Ne.symm (hp p q))];exact I.par p q;by_cases e:b=a;subst e;exact absurd h hx;rw[ar e];exact I.ox b h;rw[ar];exact I.keep b u e n;intro eb;subst eb;obtain z|z:=hP
 exact n z;rw[z] at e;cases e
def Q8(i:Nat)(g:FS):FS:=λd ρ=>match ρ[i]? with
 |some (some (.dt ks ts,true))=>∀o,g d (ρ.set i (some (.df o ks ts,false)))
 |_=>False
theorem xX{rest:qaq}{g:FS}(i:Nat)(hp:aX Z i)(h:l_ X Z rest g):l_ X Z rest (Q8 i g):=.mk λtm=>ik.kB (qR (h tm)) λD σ H ⟨ρ,O,d,I,q,F⟩=>by
 unfold Q8 at q;split at q
 rename_i ks ts e
 obtain⟨a,vs,e1,k⟩:=I.ZD hp e;exact⟨a,_,e1,λo=>⟨_,_,d,k o,q o,F⟩⟩;exact q.elim
end
noncomputable def pd:qaj->Option (List Key)
 |[]=>some []
 |t::ts=>match L8 t,pd ts with
  |some k,some ks=>some (k::ks)
  |_,_=>none
theorem jg{K:qaf}{H:Hp}{A:qah}:∀{ts:qaj}{vs:qak}{k:List Key},ax K H A ts vs->pd ts=some k->vs=k.map kV
 |[],vs,k,h,e=>by simp only[ax] at h;cases e;exact h
 |t::ts,vs,k,h,e=>by
  simp only[ax] at h;obtain⟨v,r,rfl,h1,h2⟩:=h;simp only[pd] at e;split at e
  rename_i k' ks e1 e2
  cases e;rw[xP (.inl h1) e1,jg h2 e2];rfl;cases e
section
variable{κ:Type}[DecidableEq κ]
noncomputable def bL:List κ->List α->κ->Option α
 |k::ks,t::ts,x=>if k=x then some t else bL ks ts x
 |_,_,_=>none
noncomputable def mR(ks:List κ)(x:κ):Bool:=ks.any λk=>decide (k=x)
noncomputable def CI(ks:List κ)(x:κ):List κ:=if mR ks x=true then ks else ks++[x]
noncomputable def xY(ks:List κ)(ts:List α)(x:κ)(u:α):List α:=if mR ks x=true then List.zipWith (λk t=>if k=x then u else t) ks ts else ts++[u]
theorem mS(ts:List α)(x:κ):bL [] ts x=none:=by cases ts<;>rfl
theorem eV:∀(ks:List κ)(vs:qak)(x:κ),gw (ks.zip vs) x=bL ks vs x
 |[],vs,x=>by rw[mS];rfl
 |k::ks,[],x=>rfl
 |k::ks,v::vs,x=>by simp only[bL,JI];by_cases e:k=x;rw[if_pos e,gx (p:=(k,v)) e];rw[if_neg e,gy (p:=(k,v)) e];exact eV ks vs x
theorem gU{K:qaf}{H:Hp}{A:qah}:∀{ks:List κ}{ts:qaj}{vs:qak}{x:κ},ax K H A ts vs->(∀t,bL ks ts x=some t->∃v,bL ks vs x=some v/\At K H A t v)/\(bL ks ts x=none->bL ks vs x=none)
 |[],ts,vs,x,h=>by rw[mS,mS];refine⟨λt e=>?_,λ_=>rfl⟩;cases e
 |k::ks,[],vs,x,h=>by simp only[ax] at h;subst h;exact⟨λt e=>(by cases e),λ_=>rfl⟩
 |k::ks,t::ts,vs,x,h=>by simp only[ax] at h;obtain⟨v,r,rfl,h1,h2⟩:=h;simp only[bL];by_cases e:k=x;rw[if_pos e,if_pos e];exact⟨λt e=>by cases e;exact⟨v,rfl,h1⟩,λq=>by cases q⟩;rw[if_neg e,if_neg e];exact gU h2
theorem CJ(ks:List κ)(vs:qak)(x:κ)(hl:ks.length=vs.length):((ks.zip vs).any λkv=>decide (kv.1=x))=mR ks x:=by
 unfold mR;induction ks generalizing vs with
 |nil=>rfl
 |cons k ks ih=>
  cases vs with
  |nil=>simp at hl
  |cons v vs=>rw[JI,yI,yI,ih vs (by simpa using hl)]
theorem Q9(ks:List κ)(vs:qak)(x:κ)(v:V):(ks.zip vs).map (λkv=>if kv.1=x then (kv.1,v) else kv)=ks.zip (List.zipWith (λk t=>if k=x then v else t) ks vs):=by
 induction ks generalizing vs with
 |nil=>rfl
 |cons k ks ih=>
  cases vs with
  |nil=>rfl
  |cons u vs=>simp only[JI,gj,Ud];rw[ih vs];by_cases e:k=x;rw[if_pos e,if_pos e];rw[if_neg e,if_neg e]
theorem Jl(ks:List κ)(vs:qak)(x:κ)(v:V)(hl:ks.length=vs.length):L2.putK (ks.zip vs) x v=(CI ks x).zip (xY ks vs x v)/\(CI ks x).length=(xY ks vs x v).length:=by unfold L2.putK CI xY;rw[CJ ks vs x hl];by_cases e:mR ks x=true;rw[if_pos e,if_pos e,if_pos e];exact⟨Q9 ks vs x v,by simp[hl]⟩;rw[if_neg e,if_neg e,if_neg e];refine⟨?_,by simp[hl]⟩;rw[List.zip_append hl];rfl
theorem CK{A:qah}{ks:List κ}{ts:qaj}{x:κ}{t:T}(h:ax K H A ts vs)(ht:At K H A t v):ax K H A (xY ks ts x t) (xY ks vs x v):=by
 unfold xY;by_cases e:mR ks x=true;rw[if_pos e,if_pos e];clear e;induction ks generalizing ts vs with
 |nil=>simp only[List.zipWith_nil_left];exact ax.nil
 |cons k ks ih=>
  cases ts with
  |nil=>simp only[ax] at h;subst h;simp only[List.zipWith_nil_right];exact ax.nil
  |cons t0 ts=>simp only[ax] at h;obtain⟨v0,r,rfl,h1,h2⟩:=h;simp only[Ud];refine ax.cons ?_ (ih h2);by_cases q:k=x;rw[if_pos q,if_pos q];exact ht;rw[if_neg q,if_neg q];exact h1
 rw[if_neg e,if_neg e];exact h.append (ax.cons ht ax.nil)
theorem xZ{A:qah}{ks:List κ}{ts:qaj}{k:κ}{z:T}{w:V}(h:ax K H A ts vs)(hz:At K H A z w):At K H A ((bL ks ts k).getD z) ((bL ks vs k).getD w):=by
 cases e:bL ks ts k with
 |none=>rw[(gU h).2 e];exact hz
 |some t=>obtain⟨v,e1,e2⟩:=(gU h).1 t e;rw[e1];exact e2
end
section
variable{X:Cx}{a b:Expr}{fc:FE}
def Mh:FP:=λ_ Q=>Q (.fr (.dt [] []))
theorem tZ:VP X Z (.Dict [] [] pos) Mh:=.mk λtm=>PE.weak mG λσ H Q ⟨ρ,O,q,I,hf,k⟩ p hp=>by refine k _ hf _ _ (aB hp) ?_;obtain⟨n1,n2,n3⟩:=I.fresh hp;exact⟨p,rfl,I.new hp rfl,⟨[],rfl,ay,ax.nil⟩,n3,n2⟩
noncomputable def Q_(fa:FE)(g:FA):FP:=λρ Q=>fa ρ λx=>g ρ λys=>match x,pd ys with
 |.df _ ks ts,some k=>ys.length<=sizeLine/\∃t,bL ks ts k=some t/\Q (.vw t)
 |_,_=>False
theorem G4{x1}{vm:Pos}(hu:X.A.units+1<cLine)(ha:VR X Z a fa)(hb:VA X Z es g)(hs:Ci (.Tuple es x1 vm):=by intro _ _;rfl):VP X Z (.Subscript a (.Tuple es x1 vm) pos) (Q_ fa g):=.mk λtm=>PE.weak (qI hu (ha tm) (jE (hb tm)) hs) λσ H Q ⟨ρ,O,q,I,hf,k⟩ =>
 ⟨ρ,O,_,I,hf,λx hx v H1 s1 a1=>⟨ρ,O,_,I.same s1,hx,λys hy ws H2 s2 a2=>by
  split at hy
  rename_i o ks ts kk e
  obtain⟨hsz,t,e1,hq⟩:=hy;refine⟨by rw[a2.length];exact hsz,λp0 V2=>?_⟩;have s3:aF H2 (upd H2 p0 (.tup ws)):=aB V2;obtain⟨l,vs,rfl,hl,hd,hv⟩:=((a1.same s2).same s3).df;obtain⟨u,e2,e3⟩:=(gU hv).1 t e1;have hb:upd H2 p0 (.tup ws) p0=some (.tup (kk.map kV)):=by rw[jg a2 e];exact ay
  exact⟨l,u,rfl,.inr ⟨_,kk,p0,.inr ⟨o,hd⟩,rfl,hb,by rw[eV,e2]⟩,k _ hq _ _ ((s1.trans s2).trans s3) ⟨((I.same s1).same s2).same s3,e3⟩⟩;exact hy.elim⟩⟩
noncomputable def V3(fa:FE)(g:FA)(fc:FE):FP:=λρ Q=>fa ρ λx=>match x with
 |.df _ ks ts=>g ρ λys=>match pd ys with
  |some k=>ys.length<=sizeLine/\fc ρ λz=>Q (.vw ((bL ks ts k).getD z))
  |none=>False
 |_=>False
theorem CM{x1}{vm:Pos}(hu:X.A.units+1<cLine)(ha:VR X Z a fa)(hb:VA X Z es g)(hc:VE X Z c fc)(m:M2 X a "get" apos (.Tuple es x1 vm) c bf):VP X Z (.Call (.Attribute a "get" apos) [.Tuple es x1 vm,c] [] bf) (V3 fa g fc):=.mk λtm=>PE.weak (tK hu (ha tm) (jE (hb tm)) (hc tm) m) λσ H Q ⟨ρ,O,q,I,hf,k⟩ =>
 ⟨ρ,O,_,I,hf,λx hx v H1 s1 a1=>by
  split at hx
  rename_i o ks ts
  obtain⟨l,vs,rfl,hl,hd,hv⟩:=a1.df;refine⟨l,rfl,.inr ⟨_,.inr ⟨o,hd⟩⟩,ρ,O,_,I.same s1,hx,λys hy ws H2 s2 a2=>?_⟩;split at hy
  rename_i kk e
  refine⟨by rw[a2.length];exact hy.1,λp0 V2=>?_⟩;have s3:aF H2 (upd H2 p0 (.tup ws)):=aB V2;refine⟨ρ,O,_,((I.same s1).same s2).same s3,hy.2,λz hz u H3 s4 a3=>?_⟩;have hb:H3 p0=some (.tup (kk.map kV)):=s4 _ _ (by rw[<- jg a2 e];exact ay);refine⟨_,.inr ⟨_,kk,p0,.inr ⟨o,s4 _ _ (s3 _ _ (s2 _ _ hd))⟩,rfl,hb,rfl⟩,?_⟩;rw[eV];exact k _ hz _ H3 (((s1.trans s2).trans s3).trans s4) ⟨(((I.same s1).same s2).same s3).same s4,xZ (((hv.same s2).same s3).same s4) a3⟩;exact hy.elim;exact hx.elim⟩
theorem Mi{t:TE}(h:PE X e t):PE X e (λσ H Q=>t σ H λv H1=>(∃hp,g8 X.prog X.w H1 hp)->Q v H1):=by intro pins s σ H Q I hq;exact bJ (h pins s σ H _ I hq) λv s1 ⟨x,H1,I1,r1,q⟩=>⟨x,H1,I1,r1,q ⟨s1.heap,I1.ba⟩⟩
noncomputable def Ra(fa fb:FE):FP:=λρ Q=>fa ρ λx=>fb ρ λy=>match x,y with
 |.df o ks ts,.pin b _=>∃i k t,b=ou o i/\ks[i]?=some k/\bL ks ts k=some t/\Q (.vw t)
 |_,_=>False
theorem lx(hu:X.A.units+1<cLine)(ha:VR X Z a fa)(hb:VR X Z b fb)(hs:Ci b:=by intro _ _;rfl):VP X Z (.Subscript a b pos) (Ra fa fb):=.mk λtm=>PE.weak (qI hu (ha tm) (Mi (hb tm)) hs) λσ H Q ⟨ρ,O,q,I,hf,k⟩ =>
 ⟨ρ,O,_,I,hf,λx hx v H1 s1 a1=>⟨ρ,O,_,I.same s1,hx,λy hy w H2 s2 a2=>by
  intro ba;split at hy
  rename_i o ks ts b0 t0
  obtain⟨i,kk,t,rfl,hi,e1,hq⟩:=hy;obtain⟨hp,ba⟩:=ba;obtain⟨l,vs,rfl,hl,hd,hv⟩:=(a1.same s2).df;obtain⟨u,e2,e3⟩:=(gU hv).1 t e1;obtain⟨_,_,_,_,_,_,_,hk⟩:=AN.known ba ⟨vs,hl,hd⟩;have ew:w=.ref (ou o i):=by
   obtain a2|⟨a,_,r⟩:=a2
   simp only[At] at a2;exact a2.1;exact r.elim
  exact⟨l,u,rfl,.inr ⟨_,kk,_,.inr ⟨o,hd⟩,ew,(hk i kk hi).1,by rw[eV,e2]⟩,k _ hq _ H2 (s1.trans s2) ⟨(I.same s1).same s2,e3⟩⟩;exact hy.elim⟩⟩
def V4:T->T
 |.pin _ t=>t
 |t=>t
def V5(f:FE):FE:=λρ Q=>f ρ λt=>Q (V4 t)
theorem qS(h:VR X Z e fa):VR X Z e (V5 fa):=.mk λtm=>PE.weak (h tm) λσ H Q ⟨ρ,O,q,I,hf,k⟩=>⟨ρ,O,_,I,hf,λt ht v H' s z=>by
 refine k _ ht v H' s ?_;cases t with
 |pin b t=>
  obtain z|⟨a,_,r⟩:=z
  simp only[At] at z;exact .inl z.2;exact r.elim
 |_=>exact z⟩
end
end VT
namespace PySem
open Sem (wp)
section
variable{d:Addr}{es:Array DictEntry}{ep:Nat}{ok ov:Value}
theorem g_{v:Addr}(hv:s.heap.IsItemsView v d)(ho:s.heap.get? d=some o)(hd:o.data=.dict es ep)(hQ:Q (.ref s.heap.objs.size) {s with heap:=s.heap.push {cls:=.type "dict_itemiterator",data:=.fields #[.none,.bool false,.ref d,.int 0 0,.int es.size 0,.int ep 0,.none,.none]} }):wpAny (model prog w) A (pyIter (.ref v)) Q E s:=by
 obtain⟨o2,ZE,hcv,ZF⟩:=id hv;refine wpAny_pyIter_slot hv.typeIs F.slot_dict_items_iter (wpAny_call_entry F.slot_dict_items_iter hv.typeIs F.entry_dict_items_iter ?_ (F.args_dict_items_iter_1 _));unfold Builtin.«dict_items.__iter__» Builtin.Dict_items.dictOf Builtin.Dict_items.newIterator;refine wpAny_bind (wpAny_pure (wpAny_bind (wpAny_bind (wpAny_field ZE ZF (x:=.ref d) rfl (wpAny_pure (wpAny_bind (wpAny_bind (wpAny_dictEntries ho hd (wpAny_bind (wpAny_dictEpoch ho hd ?_))))))))));have own:Builtin.Dict_items.ownsTuple "dict_itemiterator"=true:=by decide
 simp only[own,if_true];refine wpAny_newObj_type (wpAny_pure ⟨_,rfl,"dict_itemiterator",_,⟨_,gN _ rfl,rfl⟩,Og.lookup,?_⟩) (by simp[sizeOk,Builtin.Dict_items.ownedTupleFields,sizeLine_eq]);simpa[rawInt,Builtin.Dict_items.ownedTupleFields] using hQ
theorem hJ{Q:(Option Value)->Shared->Prop}{e:DictEntry}(hit:IsItemIter s.heap it d i es.size ep ok ov)(ho:s.heap.get? d=some o)(hd:o.data=.dict es ep)(he:es[i]?=some e)(hQ:∀h',IsItemIterOut h' it d (i+1) es.size ep e.key e.val s.heap.objs.size->h'.get? s.heap.objs.size=some {cls:=.type "tuple",data:=.seq #[e.key,e.val]}->h'.objs.size=s.heap.objs.size+1 ->
    (∀b u,b≠it->s.heap.get? b=some u->h'.get? b=some u)->Q (some (.ref s.heap.objs.size)) {s with heap:=h'}):wpAny (model prog w) A (pyNext (.ref it)) Q E s:=by
 obtain⟨hp,g,dr,tk,os⟩:=s;have hT:Shared.TypeIs ⟨hp,g,dr,tk,os⟩ (.ref it) "dict_itemiterator":=⟨_,hit,rfl⟩;have eJ:i<es.size:=(Array.getElem?_eq_some_iff.mp he).1;unfold pyNext;refine wpAny_bind (wpAny_attempt (wpAny_callSpecial?_slot (name:=Str.ofString "__next__") hT Og
  (wpAny_call_entry Og hT F.entry_dict_itemiterator_next ?_ (F.args_dict_itemiterator_next_1 _))))
 refine wpAny_bind (wpAny_pure (wpAny_bind (wpAny_bind ?_)))
 first|refine wpAny_bind (wpAny_typeNameOfWhole_itemiter hT (wpAny_pure ?_))|refine wpAny_bind (wpAny_typeNameOf_itemiter hT (wpAny_pure ?_))
 refine wpAny_bind (wpAny_fieldsOf hit rfl ?_);have own:Builtin.Dict_items.ownsTuple "dict_itemiterator"=true:=by decide
 simp only[own,if_true];show wpAny _ _ (if (Value.ref d==Value.none)=true then _ else _) _ _ _;rw[if_neg (show ¬ ((Value.ref d==Value.none)=true) from dO)];refine wpAny_bind (wpAny_pure (wpAny_bind (wpAny_dictEntries ho hd ?_)));rw[if_neg (by simp)];refine wpAny_bind (wpAny_pure (wpAny_bind (wpAny_dictEpoch ho hd ?_)));rw[if_neg (by simp)];refine wpAny_pure ?_;simp only[show ¬ ((i:Int)<0) from by omega,if_false,iL,he];refine wpAny_bind ?_
 first|refine wpAny_bind (wpAny_typeNameOfWhole_itemiter hT (wpAny_pure ?_))|refine wpAny_bind (wpAny_typeNameOf_itemiter hT (wpAny_pure ?_))
 refine wpAny_bind (wpAny_isOneOf_itemiter hT ?_);show wpAny _ _ (setField (.ref it) 3 (rawInt ((i:Int)+1)) >>= _) _ _ ⟨hp,g,dr,tk,os⟩;refine wpAny_bind (wpAny_setField_rec hit (by simp) λh₁ Rb r_=>?_)
 replace r_:Heap.SameBut it hp h₁:=r_
 replace Rb:IsItemIter h₁ it d (i+1) es.size ep ok ov:=by
  have e1:((i+1:Nat):Int)=(i:Int)+1:=by omega
  unfold IsItemIter;rw[e1];simpa[rawInt] using Rb
 have V6:Shared.TypeIs ⟨h₁,g,dr,tk,os⟩ (.ref it) "dict_itemiterator":=⟨_,Rb,rfl⟩;refine wpAny_bind (wpAny_holding (wpAny_bind (wpAny_isOneOf_itemiter V6 ?_)));refine wpAny_bind (wpAny_isOneOf_itemiter V6 ?_);show wpAny _ _ (Builtin.Dict_items.pairFromOwner (.ref it) 6 e.key e.val) _ _ ⟨h₁,g,dr,tk,os⟩;unfold Builtin.Dict_items.pairFromOwner;refine wpAny_bind (wpAny_newTuple ?_);have K8:IsItemIter (h₁.push {cls:=.type "tuple",data:=.seq #[e.key,e.val]}) it d (i+1) es.size ep ok ov:=dg _ Rb;generalize TH:h₁.push {cls:=.type "tuple",data:=.seq #[e.key,e.val]}=h₂ at K8;have uS:h₁.objs.size=hp.objs.size:=r_.1;have V7:it<hp.objs.size:=dG hit;have ZG:h₂.get? hp.objs.size=some {cls:=.type "tuple",data:=.seq #[e.key,e.val]}:=by rw[<- TH,<- uS];exact gN _ rfl
 have NZ:h₂.objs.size=hp.objs.size+1:=by rw[<- TH,AW,uS]
 have ZH:∀b u,b≠it->hp.get? b=some u->h₂.get? b=some u:=λb u hb e=>by rw[<- TH];exact dg _ (r_.extBut b u hb e)
 show wpAny _ _ (Builtin.Dict_items.ownedTupleIsFree (.ref it) >>= _) _ _ ⟨h₂,g,dr,tk,os⟩;rw[uS];clear TH Rb r_ V6 uS h₁;unfold Builtin.Dict_items.ownedTupleIsFree;refine wpAny_bind (wpAny_bind (wpAny_field K8 rfl (x:=.none) rfl (wpAny_pure ?_)));simp only[if_true];refine wpAny_bind (wpAny_field K8 rfl (x:=ok) rfl (wpAny_bind (wpAny_field K8 rfl (x:=ov) rfl ?_)));refine wpAny_bind (wpAny_setField_rec K8 (by simp) λh₃ V8 nI=>?_)
 replace nI:Heap.SameBut it h₂ h₃:=nI
 replace V8:IsItemIter h₃ it d (i+1) es.size ep e.key ov:=V8
 refine wpAny_bind (wpAny_setField_rec V8 (by simp) λh₄ V9 uT=>?_)
 replace uT:Heap.SameBut it h₃ h₄:=uT
 replace V9:IsItemIter h₄ it d (i+1) es.size ep e.key e.val:=V9
 refine wpAny_bind (wpAny_setField_rec V9 (by simp) λh₅ V_ uU=>?_)
 replace uU:Heap.SameBut it h₄ h₅:=uU
 replace V_:IsItemIterOut h₅ it d (i+1) es.size ep e.key e.val hp.objs.size:=V_
 refine wpAny_bind (wpAny_setField_rec V_ (by simp) λh₆ V' Rc=>?_)
 replace Rc:Heap.SameBut it h₅ h₆:=Rc
 replace V':IsItemIterOut h₆ it d (i+1) es.size ep e.key e.val hp.objs.size:=V'
 have E8:hp.objs.size≠it:=EA V7;refine wpAny_bind (wpAny_letGo (wpAny_pure (wpAny_pure ⟨_,rfl,wpAny_pure (hQ h₆ V' ?_ ?_ ?_)⟩)));exact Rc.extBut _ _ E8 (uU.extBut _ _ E8 (uT.extBut _ _ E8 (nI.extBut _ _ E8 ZG)));show h₆.objs.size=hp.objs.size+1;rw[Rc.1,uU.1,uT.1,nI.1,NZ];exact λb u hb e=>Rc.extBut b u hb (uU.extBut b u hb (uT.extBut b u hb (nI.extBut b u hb (ZH b u hb e))))
theorem fR{Q:(Option Value)->Shared->Prop}(hh:A.handled=none)(hit:IsItemIter s.heap it d i es.size ep ok ov)(ho:s.heap.get? d=some o)(hd:o.data=.dict es ep)(he:es[i]?=none)(hQ:∀h',Heap.ExtBut it s.heap h'->Q none {s with heap:=h'}):wpAny (model prog w) A (pyNext (.ref it)) Q E s:=by
 have hT:s.TypeIs (.ref it) "dict_itemiterator":=⟨_,hit,rfl⟩;unfold pyNext;refine wpAny_bind (wpAny_attempt (wpAny_callSpecial?_slot (name:=Str.ofString "__next__") hT Og
  (wpAny_call_entry Og hT F.entry_dict_itemiterator_next ?_ (F.args_dict_itemiterator_next_1 _))))
 refine wpAny_bind (wpAny_pure (wpAny_bind (wpAny_bind ?_)))
 first|refine wpAny_bind (wpAny_typeNameOfWhole_itemiter hT (wpAny_pure ?_))|refine wpAny_bind (wpAny_typeNameOf_itemiter hT (wpAny_pure ?_))
 refine wpAny_bind (wpAny_fieldsOf hit rfl ?_);have own:Builtin.Dict_items.ownsTuple "dict_itemiterator"=true:=by decide
 simp only[own,if_true];show wpAny _ _ (if (Value.ref d==Value.none)=true then _ else _) _ _ s;rw[if_neg (show ¬ ((Value.ref d==Value.none)=true) from dO)];refine wpAny_bind (wpAny_pure (wpAny_bind (wpAny_dictEntries ho hd ?_)));rw[if_neg (by simp)];refine wpAny_bind (wpAny_pure (wpAny_bind (wpAny_dictEpoch ho hd ?_)));rw[if_neg (by simp)];refine wpAny_pure ?_;simp only[show ¬ ((i:Int)<0) from by omega,if_false,iL,he];refine wpAny_bind ?_
 first|refine wpAny_bind (wpAny_typeNameOfWhole_itemiter hT (wpAny_pure ?_))|refine wpAny_bind (wpAny_typeNameOf_itemiter hT (wpAny_pure ?_))
 show wpAny _ _ (setField (.ref it) 2 .none >>= _) _ _ s;refine wpAny_bind (wpAny_setField hit rfl (by simp) ?_);show wpAny _ _ (newExc (.type "StopIteration") [] >>= _) _ _ _;refine wpAny_bind ?_;simp only[newExc,newTuple];refine wpAny_bind (wpAny_newObj_type ?_ (by size_fits));refine wpAny_bind (m:=firstArgMember _ _) (wpAny_of_eq (a:=Value.none) (by first|rfl|(simp only[firstArgMember];rfl)) ?_);refine wpAny_newObj_type ?_ (by size_fits);simp only[raiseNew];refine wpAny_bind (wpAny_handled ?_);rw[show A.in1.handled=none from hh];refine wpAny_bind (wpAny_pure (wpAny_throw ?_));refine wpAny_bind (wpAny_isInstance (T:="StopIteration") (b:=true) ⟨_,gN _ rfl,rfl⟩ isSubtype_stop ?_);exact wpAny_pure (hQ _ (((Oo ..).extBut.push _).push _))
end
end PySem
namespace VT
open PySem PySem.Spec PyProof.Rows L2
def CN(a d:Addr):HO:=.ext λh=>h.get? a=some {cls:=.type "dict_items",data:=.fields #[.ref d]}
noncomputable def Wa(a:Addr)(o:Obj)(ks:List (List Key)):It :=
 ⟨λi H=>AN H a o ks/\i<ks.length,λi H x H'=>∃k v p vs,ks[i]?=some k/\ks.length=vs.length/\H a=some (.dH o (.dT (ks.zip vs)))/\vs[i]?=some v/\H (ou o i)=some (.tup (k.map kV))/\H p=none/\x=.ref p/\H'=upd H p (.tup [.ref (ou o i),v]),λi H=>AN H a o ks/\ks.length=i⟩
theorem AN.entry{a:Addr}{es:Array DictEntry}{ep:Nat}(ok:g8 P w H h)(z:AN H a o ks)(hd:o.data=.dict es ep)(hi:i<ks.length) :
  ∃k v vs e,ks[i]?=some k/\ks.length=vs.length/\H a=some (.dH o (.dT (ks.zip vs)))/\vs[i]?=some v/\H (ou o i)=some (.tup (k.map kV))/\es[i]?=some e/\e.key=.ref (ou o i)/\RelV v e.val:=by
 have kn:=z.known ok;obtain⟨vs,hl,ha⟩:=z;obtain⟨ho,_,hm,xs,hx,o',JX,JY,h1,h2,h3,h4,h5⟩:=(show bh P w H h a (.dH o (.dT (ks.zip vs))) from ok a _ ha);rw[ho] at h1;cases h1;rw[hd] at h3;cases h3;have hv:vs[i]?=some (vs[i]'(by omega)):=kj _;have hk:ks[i]?=some ks[i]:=kj hi;have hp:(ks.zip vs)[i]?=some (ks[i],vs[i]'(by omega)):=by rw[T9];exact⟨hk,hv⟩
 obtain⟨q,hq,e1,e2,e3⟩:=dj hx hp;have he:es[i]?=some (entryOfKey (tupleKind (bq P w)) q):=by rw[<- EW,h4,fj,hq];rfl
 have ek:ou o i=q.2.1:=by unfold ou;rw[hd];dsimp only;rw[he];rfl
 exact⟨ks[i],vs[i]'(by omega),vs,_,hk,hl,ha,hv,by rw[ek];exact e2,he,by rw[ek];rfl,e3⟩
theorem wc{x1}{es:Array DictEntry}{ep:Nat}(ks:List (List Key))(a it:Addr)(hd:o.data=.dict es ep) :
  Turn P w K (.Tuple elts x1 tp) (Wa a o ks) [it] it (λi h=>∃ok ov,IsItemIter h it a i es.size ep ok ov) where
 mem:=by simp
 obj:=λi h st b hb=>by
  have e:b=it:=by simpa using hb
  subst e;obtain⟨ok,ov,st⟩:=st;exact⟨_,st,λv z=>by cases z⟩
 keep:=λi h h' ⟨ok,ov,st⟩ k=>⟨ok,ov,k it (by simp) _ st⟩
 item:=by
  intro X hP hw hK hc i pins s σ H E I hf st hg;subst hP hw hK;obtain⟨ok,ov,st⟩:=st;obtain⟨ha,hi⟩:=hg;obtain⟨ho,_,_,_⟩:=ha.known I.ba;obtain⟨k,v,vs,e,hk,hl,hH,hv,hb,he,ek,rv⟩:=ha.entry I.ba hd hi;obtain⟨f0,f1,f2,f3,f4,f5⟩:=hf it (by simp);refine hJ st ho hd he λh' st' tup sz old=>?_;refine⟨_,rfl,wpAny_letOwnedTupleGo_items (s:={s with heap:=h'}) st' λh2 pW sb=>?_⟩;have TJ:Heap.SameBut it h' h2:=sb;have eJ:it<s.heap.objs.size:=dG st;have E8:s.heap.objs.size≠it:=EA eJ;have kk:∀b ob,b∉[it]->s.heap.get? b=some ob->h2.get? b=some ob:=λb ob hb q=>by have Ta:b≠it:=λz=>hb (by simp[z]);exact (TJ.2 b Ta).trans (old b ob Ta q)
  have new:bh X.prog X.w (upd H s.heap.objs.size (.tup [.ref (ou o i),v])) h2 s.heap.objs.size (.tup [.ref (ou o i),v]) :=
   ⟨by show 2<=sizeLine;rw[sizeLine_eq];decide,[e.key,e.val],.cons (by rw[ek];rfl) (.cons rv .nil),⟨_,(TJ.2 _ E8).trans tup,rfl,_,rfl⟩⟩
  refine⟨.ref s.heap.objs.size,_,I.grown (t':=s.toks) kk hf (bG _) new,rfl,⟨k,v,_,vs,hk,hl,hH,hv,hb,I.fresh,rfl,rfl⟩,⟨_,_,pW⟩,λb hb=>?_⟩;have e:b=it:=by simpa using hb
  subst e;rw[ar (iG eJ)];exact (hf b hb).1
 done:=by intro X hP hw hK hc i pins s σ H E I hf st hg;subst hP hw hK;obtain⟨ok,ov,st⟩:=st;obtain⟨ha,hi⟩:=hg;obtain⟨ho,_,_,JX,JY,h3,hz,hk⟩:=ha.known I.ba;rw[hd] at h3;cases h3;obtain⟨f0,f1,f2,f3,f4,f5⟩:=hf it (by simp);exact fR (I.ok.hd hc) st ho hd (Array.getElem?_eq_none (by omega)) λh' eb=>⟨rfl,I.turned (t':=s.toks) (λb o hb e=>eb b o hb e) f0 f1 f3 f4 f5⟩
 self:=λA i s Q E ⟨ok,ov,st⟩ h=>PySem.W.kcp_self st h
noncomputable def Mj(tl:TE):TI:=λσ H R=>tl σ H λx H1=>∃a o ks,x=.ref a/\AN H1 a o ks/\∀p,H1 p=none->R (Wa a o ks) (upd H1 p (CN p a))
theorem CO{X:Cx}{x1}{tl:TE}(hl:PE X l tl)(cN:attributeBase l "items" X.env (eval l X.env)=eval l X.env:=by rfl)(cO:(apos.endLine==bf.line)=true:=by rfl) :
  PI X (.Tuple elts x1 tp) (.Call (.Attribute l "items" apos) [] [] bf) (Mj tl):=by
 intro pins s σ H R I h;refine wpAny_Call_method0_late cN cO (bJ (hl pins s σ H _ I h) λv s1 ⟨x,H1,I1,r1,d,o,ks,e,hz,q1⟩=>?_);subst e;obtain rfl:v=Value.ref d:=r1;obtain⟨ho,hm,hc,es,ep,h3,XB,hk⟩:=hz.known I1.ba;have hD:VZ H1 d:=.inr (let ⟨vs,_,e⟩:=hz;⟨_,.inr ⟨o,e⟩⟩);obtain⟨t1,t2,_⟩:=Cn I1 hD;refine⟨"dict","dict.items",Sr,PySem.F.slot_dict_items,PySem.F.type_dict_items,t1,t2,Ss rfl (PySem.evalArgs_none ?_)⟩;refine wpAny_call_entry PySem.F.slot_dict_items t1 PySem.F.entry_dict_items ?_ (PySem.F.args_dict_items_1 _);unfold Builtin.«dict.items» Builtin.Dict.noArgs;refine wpAny_bind (wpAny_bind (wpAny_notOrdered_dict t1 (wpAny_pure ?_)));unfold Builtin.Dict.showsAll;rw[if_neg (by rw[hm];exact dO)];refine wpAny_bind (wpAny_pure (wpAny_bind (wpAny_newObj_type (wpAny_pure ⟨_,rfl,?_⟩))));have I2:Inv X pins σ (upd H1 s1.heap.objs.size (CN s1.heap.objs.size d)) {s1 with heap:=s1.heap.push {cls:=.type "dict_items",data:=.fields #[.ref d]} } :=
  I1.laid (a:=s1.heap.objs.size) (t':=s1.toks) (λb o e=>dg _ e) (bG _) ⟨gN _ rfl,⟨_,gN _ rfl⟩,λh1 h2 z k=>k _ z⟩
 refine g_ (s:={s1 with heap:=s1.heap.push {cls:=.type "dict_items",data:=.fields #[.ref d]} }) ⟨_,gN _ rfl,rfl,rfl⟩ (dg _ ho) h3 ?_;refine⟨_,[(s1.heap.push {cls:=.type "dict_items",data:=.fields #[.ref d]}).objs.size],_,_,_,rfl,I2.kept (t':=s1.toks) λb o e=>dg _ e,wc ks d _ h3,⟨.none,.none,gN _ rfl⟩,λb hb=>?_,q1 _ I1.fresh⟩;have e:b=(s1.heap.push {cls:=.type "dict_items",data:=.fields #[.ref d]}).objs.size:=by simpa using hb
 subst e;exact I2.lK (bG _) (I2.ba.fresh (bG _))
noncomputable def N7(p:List Key×T):T:=.tup [CD p.1,p.2]
theorem CP{a:Addr}{ts:qaj}(hl:ks.length=ts.length):Wk K (Wa a o ks) [(.df o ks ts,.ref a)] ((ks.zip ts).map N7):=λH A hA h i=>by
 have hs:=h _ dq;have z:=o_ hs;have ez:((ks.zip ts).map N7).length=ks.length:=by rw[cn,JP,hl,Il]
 rw[ez];refine⟨λhi=>⟨z,hi⟩,λhi=>⟨z,hi⟩,λt ht x H' y=>?_⟩;obtain⟨k,v,p,vs,hk,hv,hH,ZI,hb,hp,rfl,rfl⟩:=y;simp only[At] at hs;obtain⟨b,hY,e,OA,hd,hq⟩:=hs;cases e;have e1:=hd.1;rw[hH] at e1;have e2:ks.zip vs=ks.zip hY:=by injection e1 with e1;injection e1 with _ e1;injection e1
 have e3:hY=vs:=by have:=congrArg (List.map Prod.snd) e2;rw[List.map_snd_zip (by omega),List.map_snd_zip (by omega)] at this;exact this.symm
 subst e3;have hi:i<ks.length:=(dJ.mp hk).1;have XC:ts[i]?=some (ts[i]'(by omega)):=kj _;rw[fj,show (ks.zip ts)[i]?=some (k,ts[i]'(by omega)) from by rw[T9];exact⟨hk,XC⟩] at ht;cases ht;obtain⟨v',g1,g2⟩:=hq.get XC;rw[ZI] at g1;cases g1;have s:aF H (upd H p (.tup [.ref (ou o i),v])):=aB hp;exact⟨s,cP (dy.of ay) (ax.cons ((v_ hb).same s) (ax.cons (g2.same s) ax.nil))⟩
section
variable{X:Cx}
noncomputable def Ml(f:FE):FI:=λρ Q=>f ρ λt=>match t with
 |.df _ ks ts=>ks.length=ts.length/\Q ((ks.zip ts).map N7)
 |_=>False
theorem CQ{f:FE}{x1}(h:VE X Z l f)(cN:attributeBase l "items" X.env (eval l X.env)=eval l X.env:=by rfl)(cO:(apos.endLine==bf.line)=true:=by rfl) :
  VI X Z (.Tuple elts x1 tp) (.Call (.Attribute l "items" apos) [] [] bf) (Ml f):=.mk λtm=>PI.weak (CO (h tm) cN cO) λσ H R ⟨ρ,O,q,I,hf,k⟩=>⟨ρ,O,_,I,hf,λt ht v H' s a=>by
 cases t with
 |df o ks ts=>
   obtain⟨b,rfl⟩:∃b,v=.ref b:=by simp only[At] at a;obtain⟨b,_,e,_⟩:=a;exact⟨b,e⟩
   refine⟨b,o,ks,rfl,o_ a,λp hp=>?_⟩;have s2:aF H' (upd H' p (CN p b)):=aB hp;exact k _ ht.2 _ _ [(.df o ks ts,.ref b)] (s.trans s2) (λp hp=>by rw[cT.mp hp];exact a.same s2) (CP ht.1)
 |_=>exact ht.elim⟩
end
structure MG where
 a:Addr
 dx:Addr
 a1:Addr
 a2:Addr
 C:Addr
 H0:Hp
 n1:a≠a1
 n2:a≠a2
 n3:a1≠a2
 hb:Bool
noncomputable def MG.Ox(M:MG):qah:=if M.hb=true then [M.a,M.a1,M.a2] else [M.a1,M.a2]
theorem MG.m1(M:MG):M.a1∈M.Ox:=by unfold MG.Ox;split<;>simp
theorem MG.m2(M:MG):M.a2∈M.Ox:=by unfold MG.Ox;split<;>simp
theorem MG.mem(M:MG){b:Addr}(h:b∈M.Ox):(M.hb=true/\b=M.a)\/b=M.a1\/b=M.a2:=by
 unfold MG.Ox at h;split at h
 rename_i z
 simp only[dh,fm,or_false] at h;exact h.elim (λe=>.inl ⟨z,e⟩) .inr;simp only[dh,fm,or_false] at h;exact .inr h
structure S2 where
 k1:List (List Key)
 t1:qaj
 k2:List (List Key)
 t2:qaj
noncomputable abbrev fN:qai:=["names","cells"]
def Mm(K:qaf)(H:Hp)(A:qah)(a:Addr)(ks:List (List Key))(ts:qaj):Prop:=∃vs,ks.length=vs.length/\H a=some (.dT (ks.zip vs))/\ax K H A ts vs
structure SD(K:qaf)(M:MG)(s:S2)(H:Hp):Prop where
 ins:M.hb=true->H M.a=some (.ins M.C M.dx (fN.zip [.ref M.a1,.ref M.a2]))
 d1:Mm K H M.Ox M.a1 s.k1 s.t1
 d2:Mm K H M.Ox M.a2 s.k2 s.t2
 fr:∀b o,M.H0 b=some o->b∉M.Ox->H b=some o
structure SG(K:qaf)(M:MG)(tm:qab)(ρ:En)(s:S2)(σ:St)(H:Hp):Prop where
 env:∃O,roots O=[]/\au K ⟨H,[],M.Ox⟩ tm O ρ σ H
 sd:SD K M s H
section
variable{M:MG}{tm:qab}{s:S2}
theorem Mm.same{A:qah}{a:Addr}{ts:qaj}(h:Mm K H A a ks ts)(sm:aF H H'):Mm K H' A a ks ts:=let ⟨vs,l,e,q⟩:=h;⟨vs,l,sm _ _ e,q.same sm⟩
theorem SD.same(h:SD K M s H)(sm:aF H H'):SD K M s H':=⟨λz=>sm _ _ (h.ins z),h.d1.same sm,h.d2.same sm,λb o e n=>sm _ _ (h.fr b o e n)⟩
theorem SD.here(h:SD K M s H):∀b∈M.Ox,∃u,H b=some u/\kR u=true:=λb hb=>by
 obtain⟨v1,_,e1,_⟩:=h.d1;obtain⟨v2,_,e2,_⟩:=h.d2;rcases M.mem hb with⟨z,rfl⟩|rfl|rfl
 exact⟨_,h.ins z,rfl⟩;exact⟨_,e1,rfl⟩;exact⟨_,e2,rfl⟩
theorem cQ(h:roots O=[]):av Z O=Z.Ox:=by unfold av;rw[h];rfl
def f'(ρ:En):Bool:=ρ.all λe=>match e with
 |some (_,true)=>false
 |_=>true
theorem qT(I:au K Z tm O ρ σ H)(h:f' ρ=true):roots O=[]:=by
 cases q:roots O with
 |nil=>rfl
 |cons a l=>
  exfalso;have ha:some a∈O:=aA.mp (by rw[q];exact dq);obtain⟨i,hi⟩:=Ic.mp ha;have hl:i<ρ.length:=by rw[<- I.lO];exact (dJ.mp hi).1
  have he:ρ[i]?=some ρ[i]:=kj hl;obtain⟨o,s,h1,h2,h3⟩:=I.sl i _ he;rw[hi] at h1;cases h1;have hv:=EZ.mp h ρ[i] (NO hl);revert h3 hv
  match ρ[i] with
  |none=>intro h3 _;cases h3
  |some (t,false)=>intro h3 _;exact nomatch h3.1
  |some (t,true)=>intro _ hv;cases hv
theorem au.now(I:au K Z tm O ρ σ H)(h:roots O=[]):au K ⟨H,[],Z.Ox⟩ tm O ρ σ H:=by have e:av ⟨H,[],Z.Ox⟩ O=av Z O:=rfl;exact⟨I.lσ,I.lO,I.sl,I.nd,λa ha=>(by rw[h] at ha;exact absurd ha fm),λp hp=>absurd hp fm,I.ox,λb o e _=>e,I.iH⟩
theorem SG.of(hZ:Z=⟨H,[],M.Ox⟩){ρ':En}{σ':St}(d:SD K M s H)(I:au K Z tm O ρ' σ' H')(hv:f' ρ'=true):SG K M tm ρ' s σ' H':=by subst hZ;exact⟨⟨O,qT I hv,I.now (qT I hv)⟩,d.same λb o e=>I.keep b o e (λz=>absurd z fm)⟩
noncomputable def kL(M:MG)(s:S2):Option (T×Bool)->Option (T×Bool)
 |some (.ob x,false)=>if x=M.a1 then some (.dt s.k1 s.t1,false) else if x=M.a2 then some (.dt s.k2 s.t2,false) else if x=M.a/\M.hb=true then some (.ins M.C fN [.pin M.a1 (.dt s.k1 s.t1),.pin M.a2 (.dt s.k2 s.t2)],false) else some (.ob x,false)
 |e=>e
theorem Wb(M:MG)(s:S2)(z:M.hb=true):kL M s (some (.ob M.a,false))=some (.ins M.C fN [.pin M.a1 (.dt s.k1 s.t1),.pin M.a2 (.dt s.k2 s.t2)],false):=by show (if M.a=M.a1 then _ else _)=_;rw[if_neg M.n1,if_neg M.n2,if_pos ⟨rfl,z⟩]
theorem Wc(M:MG)(s:S2):kL M s (some (.ob M.a1,false))=some (.dt s.k1 s.t1,false):=by show (if M.a1=M.a1 then _ else _)=_;rw[if_pos rfl]
noncomputable def gk(b:Option T):Option (T×Bool):=b.map λt=>(t,false)
theorem gF:f' []=true:=rfl
theorem mT(b:Option T)(ρ:En):f' (gk b::ρ)=f' ρ:=by cases b<;>rfl
theorem mU(t:T)(ρ:En):f' (some (t,false)::ρ)=f' ρ:=rfl
theorem Mm.at{A:qah}{a:Addr}{ts:qaj}(h:Mm K H A a ks ts):At K H [] (.dt ks ts) (.ref a):=by obtain⟨vs,l,e,q⟩:=h;simp only[At];exact⟨a,vs,rfl,l,⟨e,λz=>nomatch z⟩,q.aP λb hb=>nomatch hb⟩
theorem SD.at(h:SD K M s H)(z:M.hb=true):At K H [] (.ins M.C fN [.pin M.a1 (.dt s.k1 s.t1),.pin M.a2 (.dt s.k2 s.t2)]) (.ref M.a):=by unfold At;refine⟨M.a,M.dx,[.ref M.a1,.ref M.a2],rfl,rfl,⟨h.ins z,λz=>nomatch z⟩,ax.cons ?_ (ax.cons ?_ ax.nil)⟩;unfold At;exact⟨rfl,h.d1.at⟩;unfold At;exact⟨rfl,h.d2.at⟩
theorem SG.up(g:SG K M tm ρ s σ H):∃O,roots O=[]/\au K ⟨H,[],[]⟩ tm O (ρ.map (kL M s)) σ H:=by
 obtain⟨O,hr,I⟩:=g.env;refine⟨O,hr,⟨by rw[cn];exact I.lσ,by rw[cn];exact I.lO,λi e he=>?_,I.nd,λa ha=>(by rw[hr] at ha;exact absurd ha fm),λp hp=>absurd hp fm,λa ha=>absurd ha fm,λb o e _=>e,λp hp=>?_⟩⟩;have e0:av ⟨H,[],[]⟩ O=[]:=cQ hr;rw[fj] at he;cases q:ρ[i]? with
 |none=>rw[q] at he;cases he
 |some e1=>
  rw[q] at he;cases he;obtain⟨o,sv,h1,h2,h3⟩:=I.sl i e1 q;refine⟨o,sv,h1,h2,?_⟩;rw[e0];have plain:fE K H [] e1 o sv:=by refine h3.map (λt v z=>z.aP λb hb=>nomatch hb) λa t eo _=>?_;subst eo;have:a∈roots O:=aA.mpr (fY h1);rw[hr] at this;exact nomatch this
  match e1,h3,plain with
  |some (.ob x,false),⟨eo,v,es,Rf⟩,plain=>simp only[At] at Rf;subst Rf;show fE K H [] (if x=M.a1 then _ else _) o sv;by_cases c1:x=M.a1;rw[if_pos c1];subst c1;exact⟨eo,_,es,g.sd.d1.at⟩;rw[if_neg c1];by_cases c2:x=M.a2;rw[if_pos c2];subst c2;exact⟨eo,_,es,g.sd.d2.at⟩;rw[if_neg c2];by_cases c3:x=M.a/\M.hb=true;rw[if_pos c3];obtain⟨rfl,c4⟩:=c3;exact⟨eo,_,es,g.sd.at c4⟩;rw[if_neg c3];exact plain
  |none,_,plain=>exact plain
  |some (t,true),_,plain=>
   have:kL M s (some (t,true))=some (t,true):=by cases t<;>rfl
   rw[this];exact plain
  |some (.a9,false),_,plain=>exact plain
  |some (.bl _,false),_,plain=>exact plain
  |some (.int _,false),_,plain=>exact plain
  |some (.str _,false),_,plain=>exact plain
  |some (.tup _,false),_,plain=>exact plain
  |some (.lst _,false),_,plain=>exact plain
  |some (.dk _ _,false),_,plain=>exact plain
  |some (.dt _ _,false),_,plain=>exact plain
  |some (.df _ _ _,false),_,plain=>exact plain
  |some (.dz _ _ _,false),_,plain=>exact plain
  |some (.dc _ _ _,false),_,plain=>exact plain
  |some (.kt _,false),_,plain=>exact plain
  |some (.ins _ _ _,false),_,plain=>exact plain
  |some (.pin _ _,false),_,plain=>exact plain
  |some (.ty _,false),_,plain=>exact plain
 rw[cQ hr];exact (I.iH p hp).aP λb hb=>nomatch hb
end
structure AO where
 nx:En->S2->Prop
 rt:S2->T->Prop
 bk:En->S2->Prop:=λ_ _=>False
 ct:En->S2->Prop:=λ_ _=>False
structure CT(K:qaf)(M:MG)(tm:qab)(d:AO)(D:Ends):Prop where
 nx:∀ρ s σ H,SG K M tm ρ s σ H->d.nx ρ s->D.nx σ H
 rt:∀s H t v,SD K M s H->At K H M.Ox t v->d.rt s t->D.rt v H
 bk:∀ρ s σ H,SG K M tm ρ s σ H->d.bk ρ s->D.bk σ H
 ct:∀ρ s σ H,SG K M tm ρ s σ H->d.ct ρ s->D.ct σ H
abbrev iJ:=AO->En->S2->Prop
def N8(X:Cx)(M:MG)(tm:qab)(g:iJ):TS:=λD σ H=>∃ρ s d,SG X.K M tm ρ s σ H/\g d ρ s/\CT X.K M tm d D
def GS(X:Cx)(M:MG)(st:Stmt)(g:iJ):Prop:=Bx λtm=>PS X st (N8 X M tm g)
def AQ(X:Cx)(M:MG)(st:qaq)(g:iJ):Prop:=Bx λtm=>ik X st (N8 X M tm g)
section
variable{X:Cx}{M:MG}{st:Stmt}{rest:qaq}{g u:iJ}
def Rg:iJ:=λd ρ s=>d.nx ρ s
def Rh(g u:iJ):iJ:=λd ρ s=>g {d with nx:=u d} ρ s
theorem G5:AQ X M [] Rg:=.mk λtm=>ik.kB xc λD σ H ⟨ρ,s,d,I,h,F⟩=>F.nx ρ s σ H I h
theorem dm(h1:GS X M st g)(h2:AQ X M rest u):AQ X M (st::rest) (Rh g u):=.mk λtm=>ik.kB (gp (h1.h tm) (h2.h tm)) λD σ H ⟨ρ,s,d,I,h,F⟩ =>
 ⟨ρ,s,{d with nx:=u d},I,h,⟨λρ' s' σ' H' I' h'=>⟨ρ',s',d,I',h',F⟩,F.rt,F.bk,F.ct⟩⟩
theorem d8(h1:GS X M st g):AQ X M [st] g:=.mk λtm=>iO (h1.h tm)
def Ri(d:AO)(s:S2):IS:={nx:=λρ'=>f' ρ'=true/\d.nx ρ' s,rt:=λρ' r=>f' ρ'=true/\d.rt s r.t,bk:=λρ'=>f' ρ'=true/\d.bk ρ' s,ct:=λρ'=>f' ρ'=true/\d.ct ρ' s}
def XD(g:FS):iJ:=λd ρ s=>g (Ri d s) ρ
theorem Rj{tm:qab}{d:AO}{D:Ends}{s:S2}(F:CT K M tm d D)(sd:SD K M s H):Fin K ⟨H,[],M.Ox⟩ tm (Ri d s) D :=
 ⟨λO ρ σ H' I h=>F.nx ρ s σ H' (SG.of rfl sd I h.1) h.2,λO ρ σ H' r v z h=>by have I:=z.env;have hr:=qT I h.1;have a:=z.at;rw[cQ hr] at a;exact F.rt s H' r.t v (sd.same λb o e=>I.keep b o e (λq=>absurd q fm)) a h.2,λO ρ σ H' I h=>F.bk ρ s σ H' (SG.of rfl sd I h.1) h.2,λO ρ σ H' I h=>F.ct ρ s σ H' (SG.of rfl sd I h.1) h.2⟩
theorem eW{g:FS}(h:∀H0 Ox,VS X ⟨H0,[],Ox⟩ st g):GS X M st (XD g):=.mk λtm pins s' σ H D J ⟨ρ,s,d,S,hg,F⟩=>by obtain⟨O,hr,I⟩:=S.env;exact h H M.Ox tm pins s' σ H D J ⟨ρ,O,_,I,hg,Rj F S.sd⟩
def Wd(c:FB)(g u:iJ):iJ:=λd ρ s=>c ρ λb=>if b=true then g d ρ s else u d ρ s
theorem SG.c6{tm:qab}{s:S2}(S:SG K M tm ρ s σ H)(sm:aF H H'):SG K M tm ρ s σ H':=by obtain⟨O,hr,I⟩:=S.env;exact⟨⟨O,hr,(I.same sm).now hr⟩,S.sd.same sm⟩
theorem Rk{fc:FB}{a b:qaq}(hc:∀H0 Ox,VC X ⟨H0,[],Ox⟩ c fc)(ha:AQ X M a g)(hb:AQ X M b u):GS X M (.If c a b pos) (Wd fc g u):=.mk λtm pins s' σ H D J ⟨ρ,s,d,S,hg,F⟩=>by
 obtain⟨O,hr,I⟩:=S.env;refine Iw (hc H M.Ox tm) (ha.h tm) (hb.h tm) pins s' σ H D J ⟨ρ,O,_,I,hg,λb hb H' sm=>?_⟩;cases b with
 |true=>rw[if_pos rfl] at hb ⊢;exact⟨ρ,s,d,S.c6 sm,hb,F⟩
 |false=>rw[if_neg dO] at hb ⊢;exact⟨ρ,s,d,S.c6 sm,hb,F⟩
def jh(t:T):Prop:=(∃n,t=.int n)\/∃b,t=.bl b
noncomputable def CU(M:MG)(i:Nat)(f:FE):iJ:=λd ρ s=>f (ρ.map (kL M s)) λt=>jh t/\d.nx (ρ.set i (some (t,false))) s
theorem mV{A A':qah}{t:T}(h:jh t)(a:At K H A t v):At K H' A' t v:=by
 obtain⟨n,rfl⟩|⟨b,rfl⟩:=h
 simp only[At] at a ⊢;exact a;simp only[At] at a ⊢;exact a
theorem CV{f:FE}(hN:X.N.Nodup)(hi:X.N[i]?=some x)(hx:Loc X.env.scope x)(he:∀H0 Ox,VE X ⟨H0,[],Ox⟩ e f)(hs:swapsWith e (some (.Name x pos')) pos.line X.env=pure false:=by rfl)(hf:X.fn x=true\/X.env.scope.names.lookup x=some .local:=by first|exact .inl rfl|exact .inr rfl|assumption):GS X M (.Assign [.Name x pos'] e pos) (CU M i f):=.mk λtm pins s' σ H D J ⟨ρ,s,d,S,hg,F⟩=>by
 obtain⟨O,hr,I⟩:=S.env;obtain⟨O2,N9,I2⟩:=S.up;refine pU hN hi hx (he H [] tm) hs hf pins s' σ H D J ⟨_,O2,_,I2,hg,λt ht v H' sm a=>?_⟩;have S':=S.c6 sm;obtain⟨O3,ZJ,I3⟩:=S'.env;refine F.nx _ s _ H' ⟨⟨O3.set i none,?_,?_⟩,S'.sd⟩ ht.2;cases q:roots (O3.set i none) with
 |nil=>rfl
 |cons b l=>have:=br (O:=O3) i b (by rw[q];exact dq);rw[ZJ] at this;exact absurd this fm
 exact I3.put (λp hp=>absurd hp fm) (mV ht.1 a)
noncomputable def S2.wd(s:S2)(k:List Key)(t:T):S2:={s with k1:=CI s.k1 k,t1:=xY s.k1 s.t1 k t}
noncomputable def Jm(M:MG)(n m:Nat)(f:FE):iJ:=λd ρ s=>f (ρ.map (kL M s)) λt=>jh t/\ρ[n]?=some (some (.ob M.a1,false))/\s.t1.length<16777216/\∃k,ρ[m]?=some (some (.kt k,false))/\d.nx ρ (s.wd k t)
theorem pe{tm:qab}{s:S2}{H1:Hp}{A:qah}{D:Ends}{d:AO}{t:T}{k:List Key}(S1:SG X.K M tm ρ s σ H1)(F:CT X.K M tm d D)(EM:jh t)(a:At X.K H' A t v)(hn:ρ[n]?=some (some (.ob M.a1,false)))(hlen:s.t1.length<16777216)(hk:ρ[m]?=some (some (.kt k,false)))(hq:d.nx ρ (s.wd k t)) :
  yN n σ H1 λx H2=>yN m σ H2 λy H3=>∃a H4,x=.ref a/\tI H3 a y v H4/\D.nx σ H4:=by
 obtain⟨O1,we,I1⟩:=S1.env;obtain⟨_,_,_,z1,_,v1,rfl,b1⟩:=I1.sl n _ hn;obtain⟨_,_,_,z2,_,v2,rfl,b2⟩:=I1.sl m _ hk;simp only[At] at b1;subst b1;rw[cQ we] at b2;simp only[At] at b2;obtain⟨b,rfl,hb,_⟩:=b2;obtain⟨vs,hl,h1,h2⟩:=S1.sd.d1;have hz:(s.k1.zip vs).length<sizeLine:=by rw[sizeLine_eq,JP,hl,Il,h2.length];omega
 have pq:=Jl s.k1 vs k v hl;refine⟨.ref M.a1,z1,.ref b,z2,M.a1,_,rfl,tI.t h1 hb hz,?_⟩;rw[pq.1];have G6:M.a1∈M.Ox:=M.m1;have wr:∀{t:T}{v':V},At X.K H1 M.Ox t v'->At X.K (upd H1 M.a1 (.dT ((CI s.k1 k).zip (xY s.k1 vs k v)))) M.Ox t v':=λq=>At.wrote G6 h1 rfl q;have Rl:∀{t:qaj}{v':qak},ax X.K H1 M.Ox t v'->ax X.K (upd H1 M.a1 (.dT ((CI s.k1 k).zip (xY s.k1 vs k v)))) M.Ox t v':=λq=>ax.wrote G6 h1 rfl q;have na:M.a≠M.a1:=M.n1;refine F.nx ρ (s.wd k t) σ _ ⟨⟨O1,we,I1.lσ,I1.lO,λi e he=>?_,I1.nd,λb hb=>(by rw[we] at hb;exact absurd hb fm),λp hp=>absurd hp fm,λb hb=>?_,λb o e _=>e,λp hp=>?_⟩,?_,?_,?_,λb o e n=>(by rw[ar (λz=>n (by rw[z];exact G6))];exact S1.sd.fr b o e n)⟩ hq;obtain⟨o,sv,g1,g2,g3⟩:=I1.sl i e he;refine⟨o,sv,g1,g2,?_⟩;rw[cQ we] at g3 ⊢;refine g3.map (λt v z=>wr z) λb t' eo _=>?_;subst eo;have:=aA.mpr (fY g1);rw[we] at this;exact absurd this fm;by_cases e:b=M.a1;rw[e,ay];simp;rw[ar e];obtain⟨u,eu,_⟩:=S1.sd.here b hb;rw[eu];simp;have:=I1.iH p hp;rw[cQ we] at this ⊢;exact wr this;exact λz=>by rw[ar na];exact S1.sd.ins z
 exact⟨_,pq.2,ay,Rl (CK h2 (mV EM a))⟩;obtain⟨gW,l2,e2,q2⟩:=S1.sd.d2;exact⟨gW,l2,by rw[ar (Ne.symm M.n3)];exact e2,Rl q2⟩
theorem G7(n m:Nat){f:FE}(hu:X.A.units+1<cLine)(he:∀H0 Ox,VE X ⟨H0,[],Ox⟩ e f)(hN:X.N[n]?=some x:=by rfl)(hv:ko X.env.scope x:=by first|exact Or.inl rfl|exact Or.inr (Or.inl rfl)|exact Or.inr (Or.inr rfl))(hd:eG x:=by decide)(eI:nJ x:=by decide)(EN:X.N[m]?=some y:=by rfl)(Jn:ko X.env.scope y:=by first|exact Or.inl rfl|exact Or.inr (Or.inl rfl)|exact Or.inr (Or.inr rfl))(hd2:eG y:=by decide)(ow:nJ y:=by decide)(hs:swapsWith e (some (.Subscript (.Name x p) (.Name y p2) du)) pos.line X.env=pure false:=by rfl):GS X M (.Assign [.Subscript (.Name x p) (.Name y p2) du] e pos) (Jm M n m f):=.mk λtm pins s' σ H D J ⟨ρ,s,d,S,hg,F⟩=>by obtain⟨O,hr,I⟩:=S.env;obtain⟨O2,N9,I2⟩:=S.up;refine qJ hu (bD hN hv hd eI) (bD EN Jn hd2 ow) (he H [] tm) hs pins s' σ H D J ⟨_,O2,_,I2,hg,λt ht v H1 sm a=>?_⟩;obtain⟨EM,hn,hlen,k,hk,hq⟩:=ht;exact pe (S.c6 sm) F EM a hn hlen hk hq
def x3(ts:qaj)(h:FG)(g:iJ):iJ:=λd ρ s=>∃Pv:Nat->En->S2->Prop,Pv 0 ρ s/\(∀(i:Nat) t ρ' s',ts[i]?=some t->Pv i ρ' s'->h t ρ' λρ2=>f' ρ2=true/\g {nx:=Pv (i+1),ct:=Pv (i+1),bk:=d.nx,rt:=d.rt} ρ2 s')/\∀ρ' s',Pv ts.length ρ' s'->d.nx ρ' s'
theorem j4{h:FG}{tm srcs:qab}{s:S2}{d:AO}{D:Ends}{ts:qaj}{J:It}(hK:X.K=K)(S:SG K M (srcs++tm) ρ s σ H)(wk:Wk K J srcs ts)(F:CT K M tm d D)(hl:x3 ts h g d ρ s) :
  ∃W:Nat->Nat->St->Hp->Prop,(∃m,W 0 m σ H)/\∀i m σ H,W i m σ H->(J.stop i H/\D.nx σ H)\/(J.go i H/\∃N:St->Hp->Prop,(∀σ' H',N σ' H'->∃m',m'<m/\W (i+1) m' σ' H') /\
   ∀x H',J.NR i H x H'->(∃srcs H0,lG X ⟨H0,[],M.Ox⟩ (srcs++tm) is h x σ H' λσ2 H2=>(∃srcs,N8 X M (srcs++tm) g {D with nx:=N,ct:=N,bk:=D.nx} σ2 H2))):=by
 subst hK;obtain⟨Pv,p0,step,fin⟩:=hl;have un:∀{ρ:En}{s:S2}{σ:St}{H:Hp},SG X.K M (srcs++tm) ρ s σ H->SG X.K M tm ρ s σ H:=λ⟨⟨O,hr,I⟩,sd⟩=>⟨⟨O,hr,I.nW λp hp=>I.iH p (g6 _ hp)⟩,sd⟩;refine⟨λi m σ H=>m=ts.length-i/\i<=ts.length/\∃ρ s,SG X.K M (srcs++tm) ρ s σ H/\Pv i ρ s,⟨ts.length,by simp,nL _,ρ,s,S,p0⟩,?_⟩;rintro i m σ1 H1 ⟨rfl,hi,ρ1,s1,S1,p1⟩;obtain⟨O1,we,I1⟩:=S1.env;obtain⟨w1,w2,w3⟩:=wk H1 M.Ox (λa ha=>by obtain⟨u,e,_⟩:=S1.sd.here a ha;rw[e];simp) (λp hp=>by have:=I1.iH p (hU _ hp);rw[cQ we] at this;exact this) i;by_cases eJ:i<ts.length;refine .inr ⟨w1 eJ,λσ' H'=>∃ρ s,SG X.K M (srcs++tm) ρ s σ' H'/\Pv (i+1) ρ s,λσ' H' ⟨ρ',s',S',p'⟩=>⟨ts.length-(i+1),by omega,rfl,eJ,ρ',s',S',p'⟩,λx H2 y=>?_⟩;have e:ts[i]?=some ts[i]:=by simp[eJ]
 obtain⟨s2,a2⟩:=w3 ts[i] e x H2 y;have XE:=S1.c6 s2;obtain⟨O2,N9,I2⟩:=XE.env;refine⟨srcs,H2,ρ1,O2,ts[i],_,I2,by rw[cQ N9];exact a2,step i _ ρ1 s1 e p1,λρ2 h2 O3 σ3 I3 _ _ _ _=>⟨srcs,ρ2,s1,_,SG.of rfl XE.sd I3 h2.1,h2.2,?_⟩⟩;exact⟨λρ s σ H I p=>⟨ρ,s,I,p⟩,λs H t v sd a p=>F.rt s H t v sd a p,λρ s σ H I p=>F.nx ρ s σ H (un I) p,λρ s σ H I p=>⟨ρ,s,I,p⟩⟩;have e:i=ts.length:=by omega
 subst e;exact .inl ⟨w2 rfl,F.nx ρ1 s1 σ1 H1 (un S1) (fin ρ1 s1 p1)⟩
def We(f:FI)(h:FG)(g:iJ):iJ:=λd ρ s=>f ρ λts=>x3 ts h g d ρ s
theorem SG.temps{tm srcs:qab}{s:S2}(S:SG K M tm ρ s σ H)(h:∀p∈srcs,At K H M.Ox p.1 p.2):SG K M (srcs++tm) ρ s σ H:=by
 obtain⟨O,hr,I⟩:=S.env;refine⟨⟨O,hr,I.nW λp hp=>?_⟩,S.sd⟩;rcases g7.mp hp with z|z
 rw[cQ hr];exact h p z;exact I.iH p z
theorem CW{tg:Expr}{f:FI}{h:FG}(hp:PassesOwn (model X.prog X.w) X.A X.env X.xe)(hc:X.calm=true)(hi:∀H0 Ox,VI X ⟨H0,[],Ox⟩ tg iter f)(hg:∀H0 Ox,VG X ⟨H0,[],Ox⟩ tg is h)(hb:AQ X M body g)(hs:∀x,foldedSetIterable iter X.env x=pure x:=by intro _;rfl):GS X M (.For tg iter body [] pos) (We f h g):=by refine .mk λtm pins s' σ H D J ⟨ρ,s,d,S,hq,F⟩=>?_;obtain⟨O,hr,I⟩:=S.env;refine pV (wi:=lI X ⟨H,[],M.Ox⟩ tm f) (g:=λv σ H Q=>∃srcs H0,lG X ⟨H0,[],M.Ox⟩ (srcs++tm) is h v σ H Q) (tb:=λD σ H=>∃srcs,N8 X M (srcs++tm) g D σ H) hp hc (hi H M.Ox tm) (λpins s σ H v u Q I r ⟨srcs,H0,z⟩=>hg H0 M.Ox (srcs++tm) pins s σ H v u Q I r z) (λpins s σ H D I ⟨srcs,z⟩=>hb.h (srcs++tm) pins s σ H D I z) hs pins s' σ H D J ?_;refine⟨ρ,O,_,I,hq,λts d5 J' H' srcs sm a wk=>?_⟩;rw[cQ hr] at a;exact j4 rfl ((S.c6 sm).temps a) wk F d5
noncomputable def Wf:T->Option T
 |.tup [.pin a _,.kt k,.int w]=>some (.tup [.ob a,.kt k,.int w])
 |.kt k=>some (.kt k)
 |_=>none
noncomputable def z7:qaj->Option (qaj)
 |[]=>some []
 |t::ts=>match Wf t,z7 ts with
  |some u,some us=>some (u::us)
  |_,_=>none
theorem Mn{A:qah}{t u:T}(hA:∀b∈A,∃o,H b=some o/\kR o=true)(e:Wf t=some u)(a:At K H [] t v):At K H A u v:=by
 unfold Wf at e;split at e
 rename_i a' t' k w
 cases e;obtain⟨b,us,rfl,h2,h3⟩:=d4.tup (.inl a);simp only[ax,At] at h3;obtain⟨_,_,rfl,⟨rfl,_⟩,_,_,rfl,⟨kb,rfl,hk⟩,_,_,rfl,rfl,rfl⟩:=h3;refine cP h2 (ax.cons (by simp only[At]) (ax.cons ?_ (ax.cons aZ ax.nil)));simp only[At];refine⟨kb,rfl,hk.1,λz=>?_⟩;obtain⟨o,eo,mo⟩:=hA kb z;rw[hk.1] at eo;cases eo;cases mo
 rename_i k
 cases e;simp only[At] at a ⊢;obtain⟨kb,rfl,hk⟩:=a;refine⟨kb,rfl,hk.1,λz=>?_⟩;obtain⟨o,eo,mo⟩:=hA kb z;rw[hk.1] at eo;cases eo;cases mo;cases e
theorem x4{K:qaf}{H:Hp}{A:qah}(hA:∀b∈A,∃o,H b=some o/\kR o=true):∀{ts us:qaj}{vs:qak},z7 ts=some us->ax K H [] ts vs->ax K H A us vs
 |[],us,vs,e,a=>by cases e;simp only[ax] at a ⊢;exact a
 |t::ts,us,vs,e,a=>by
  simp only[z7] at e;split at e
  rename_i u Jg e1 e2
  cases e;simp only[ax] at a;obtain⟨v,r,rfl,h1,h2⟩:=a;exact ax.cons (Mn hA e1 h1) (x4 hA e2 h2);cases e
noncomputable def CY(M:MG)(f:FE)(h:FG)(g:iJ):iJ:=λd ρ s=>f (ρ.map (kL M s)) λt=>match t with
 |.lst us=>∃ts,z7 us=some ts/\x3 ts h g d ρ s
 |_=>False
theorem G8{tg:Expr}{f:FE}{h:FG}(hp:PassesOwn (model X.prog X.w) X.A X.env X.xe)(hc:X.calm=true)(hi:∀H0 Ox,VE X ⟨H0,[],Ox⟩ iter f)(hg:∀H0 Ox,VG X ⟨H0,[],Ox⟩ tg is h)(hb:AQ X M body g)(hs:∀x,foldedSetIterable iter X.env x=pure x:=by intro _;rfl):GS X M (.For tg iter body [] pos) (CY M f h g):=by
 refine .mk λtm pins s' σ H D J ⟨ρ,s,d,S,hq,F⟩=>?_;obtain⟨O2,N9,I2⟩:=S.up;refine pV (wi:=Ga X.K (lE X ⟨H,[],[]⟩ tm f)) (g:=λv σ H Q=>∃srcs H0,lG X ⟨H0,[],M.Ox⟩ (srcs++tm) is h v σ H Q) (tb:=λD σ H=>∃srcs,N8 X M (srcs++tm) g D σ H) hp hc (vH (hi H [] tm)) (λpins s σ H v u Q I r ⟨srcs,H0,z⟩=>hg H0 M.Ox (srcs++tm) pins s σ H v u Q I r z) (λpins s σ H D I ⟨srcs,z⟩=>hb.h (srcs++tm) pins s σ H D I z) hs pins s' σ H D J ?_;refine⟨_,O2,_,I2,hq,λt ht v H' sm a=>?_⟩;split at ht
 rename_i us
 obtain⟨ts,et,hl⟩:=ht;rw[cQ N9] at a;simp only[At] at a;obtain⟨l,vs,rfl,TK,hv⟩:=a;have S':=S.c6 sm;have at':At X.K H' M.Ox (.lst ts) (.ref l):=by
  simp only[At];refine⟨l,vs,rfl,?_,x4 S'.sd.here et hv⟩;obtain z|z:=TK
  refine .inl ⟨z.1,λm=>?_⟩;obtain⟨o,eo,mo⟩:=S'.sd.here l m;obtain q|⟨o',q⟩:=z.1
  rw[eo] at q;cases q;obtain⟨_,_,e1,_⟩:=S'.sd.d1;obtain⟨_,_,e2,_⟩:=S'.sd.d2;rcases M.mem m with⟨zb,rfl⟩|rfl|rfl
  rw[S'.sd.ins zb] at eo;cases eo;rw[e1] at eo;cases eo;rw[e2] at eo;cases eo;rw[eo] at q;cases q;cases mo;exact .inr z
 refine .inl ⟨l,rfl,⟨vs,TK.sq⟩,?_⟩;exact j4 rfl (S'.temps (srcs:=[(.lst ts,.ref l)]) λp hp=>by rw[cT.mp hp];exact at') qe F hl;exact ht.elim
end
section
variable{X:Cx}{a b:Expr}{fc:FE}
noncomputable def Jo(g:FA):FP:=λρ Q=>g ρ λys=>match pd ys with
 |some k=>ys.length<=sizeLine/\Q (.vw (.kt k))
 |none=>False
theorem cR{x1}(h:VA X Z es g):VP X Z (.Tuple es x1 pos) (Jo g):=.mk λtm=>PE.weak (jE (h tm)) λσ H Q ⟨ρ,O,q,I,hf,k⟩=>⟨ρ,O,_,I,hf,λys hy vs H1 s1 a1=>by
 split at hy
 rename_i kk ek
 refine⟨by rw[a1.length];exact hy.1,λp hp=>?_⟩;have s2:aF H1 (upd H1 p (.tup vs)):=aB hp;refine k _ hy.2 _ _ (s1.trans s2) ⟨(I.same s1).same s2,?_⟩;simp only[At];exact⟨p,rfl,by rw[<- jg a1 ek];exact ay,λz=>(I.same s1).FR p z hp⟩;exact hy.elim⟩
noncomputable def G9:T->Option (List (List Key)×qaj)
 |.dt ks ts=>some (ks,ts)
 |.pin _ (.dt ks ts)=>some (ks,ts)
 |.df _ ks ts=>some (ks,ts)
 |_=>none
def TL(H:Hp)(a:Addr)(u:List (List Key×V)):Prop:=H a=some (.dT u)\/∃o,H a=some (.dH o (.dT u))
theorem TL.same{a:Addr}{u:List (List Key×V)}(h:TL H a u)(sm:aF H H'):TL H' a u:=h.elim (λz=>.inl (sm _ _ z)) λ⟨o,z⟩=>.inr ⟨o,sm _ _ z⟩
theorem x5{A:qah}{t:T}{ts:qaj}(h:d4 K H A t v)(e:G9 t=some (ks,ts)):∃a vs,v=.ref a/\ks.length=vs.length/\TL H a (ks.zip vs)/\ax K H A ts vs:=by
 unfold G9 at e;split at e;cases e;obtain⟨a,vs,h1,h2,h3,h4⟩:=h.dt;exact⟨a,vs,h1,h2,.inl h3,h4⟩;cases e;obtain h|⟨_,_,r⟩:=h
 simp only[At] at h;obtain⟨_,h⟩:=h;obtain⟨a,vs,h1,h2,h3,h4⟩:=d4.dt (.inl (by simp only[At];exact h));exact⟨a,vs,h1,h2,.inl h3,h4⟩;exact r.elim;cases e;obtain⟨a,vs,h1,h2,h3,h4⟩:=h.df;exact⟨a,vs,h1,h2,.inr ⟨_,h3⟩,h4⟩;cases e
noncomputable def wg(fa fb fc:FE):FP:=λρ Q=>fa ρ λx=>match G9 x with
 |some (ks,ts)=>fb ρ λy=>fc ρ λz=>match y with
  |.kt k=>Q (.vw ((bL ks ts k).getD z))
  |_=>False
 |none=>False
theorem fS(hu:X.A.units+1<cLine)(ha:VR X Z a fa)(hb:VE X Z b fb)(hc:VE X Z c fc)(m:M2 X a "get" apos b c bf):VP X Z (.Call (.Attribute a "get" apos) [b,c] [] bf) (wg fa fb fc):=.mk λtm=>PE.weak (tK hu (ha tm) (hb tm) (hc tm) m) λσ H Q ⟨ρ,O,q,I,hf,k⟩ =>
 ⟨ρ,O,_,I,hf,λx hx v H1 s1 a1=>by
  split at hx
  rename_i ks ts ed
  obtain⟨l,vs,rfl,hl,hd,hv⟩:=x5 a1 ed;refine⟨l,rfl,.inr ⟨_,hd⟩,ρ,O,_,I.same s1,hx,λy hy w H2 s2 a2=>⟨ρ,O,_,(I.same s1).same s2,hy,λz hz u H3 s3 a3=>?_⟩⟩;split at hz
  rename_i kk
  simp only[At] at a2;obtain⟨b,rfl,hb,_⟩:=a2;refine⟨_,.inr ⟨_,kk,b,(hd.same s2).same s3,rfl,s3 _ _ hb,rfl⟩,?_⟩;rw[eV];exact k _ hz _ H3 ((s1.trans s2).trans s3) ⟨((I.same s1).same s2).same s3,xZ ((hv.same s2).same s3) a3⟩;exact hz.elim;exact hx.elim⟩
noncomputable def CZ(fa fb:FE):FP:=λρ Q=>fa ρ λx=>fb ρ λy=>match G9 x,y with
 |some (ks,ts),.kt k=>∃t,bL ks ts k=some t/\Q (.vw t)
 |_,_=>False
theorem G_(hu:X.A.units+1<cLine)(ha:VR X Z a fa)(hb:VE X Z b fb)(hs:Ci b:=by intro _ _;rfl):VP X Z (.Subscript a b pos) (CZ fa fb):=.mk λtm=>PE.weak (qI hu (ha tm) (hb tm) hs) λσ H Q ⟨ρ,O,q,I,hf,k⟩ =>
 ⟨ρ,O,_,I,hf,λx hx v H1 s1 a1=>⟨ρ,O,_,I.same s1,hx,λy hy w H2 s2 a2=>by
  split at hy
  rename_i ks ts kk ed
  obtain⟨t,e1,hq⟩:=hy;obtain⟨l,vs,rfl,hl,hd,hv⟩:=x5 (a1.same s2) ed;obtain⟨u,e2,e3⟩:=(gU hv).1 t e1;simp only[At] at a2;obtain⟨b,rfl,hb,_⟩:=a2;exact⟨l,u,rfl,.inr ⟨_,kk,b,hd,rfl,hb,by rw[eV,e2]⟩,k _ hq _ H2 (s1.trans s2) ⟨(I.same s1).same s2,e3⟩⟩;exact hy.elim⟩⟩
end
noncomputable def TM(K:qaf)(C:Addr)(G:T->S2->(S2->T->Prop)->Prop):Sp:=λvs H Q _=>∃(M:MG)(s:S2)(l:T)(v0:V)(q:S2->T->Prop),(M.C=C/\M.hb=true)/\vs=[v0,.ref M.a]/\At K H M.Ox l v0/\SD K {M with H0:=H} s H/\G l s q /\
 ∀s' t,q s' t->∀v H',SD K {M with H0:=H} s' H'->At K H' M.Ox t v->Q v H'
section
theorem ZL{st:Stmt}{N:qai}{G:T->S2->(S2->T->Prop)->Prop}(F:y_ K x qual st f fd)(S:aG N ps (aq st))(hn:2=ps.length)(hN:2<=N.length)(dP:∀(bw:Value) (A:Around) (outer:List Env) (s:Shared) (H:Hp) (E:XK) (M:MG),M.C=C->M.hb=true->bb k (A.deeper (envOfC qual (aq st) s.heap.objs.size f bw))->∀l s0 q,G l s0 q ->
    ∃g,AQ (il gP P w K mg base N qual (aq st) f bw A outer s H E).yO M (bB st) g/\g {nx:=λ_ _=>False,rt:=q} (some (l,false)::some (.ob M.a,false)::List.replicate (N.length-2) none) s0) :
  cU P w K mg base gP (k+1) f fd ps (TM K C G):=by
 refine F.ok S (λvs H Q E h=>?_) (λbw A outer s H vs Q E hr h=>?_);obtain⟨M,s,l,v0,q,_,rfl,_⟩:=h;exact hn;obtain⟨M,s0,l,v0,q,⟨hC,hB⟩,rfl,a0,sd,hG,kk⟩:=h;obtain⟨g,hg,hq⟩:=dP bw A outer s H E {M with H0:=H} hC hB hr l s0 q hG;refine⟨_,hg.h [],_,s0,_,⟨⟨List.replicate N.length none,dZ _,?_⟩,sd⟩,hq,⟨λ_ _ _ _ _ z=>z.elim,λs' H' t v ZM a z=>kk s' t z v H' ZM a,λ_ _ _ _ _ z=>z.elim,λ_ _ _ _ _ z=>z.elim⟩⟩;have:=jZ (K:=K) (N:=N) (H:=H) (Ox:=M.Ox) (ts:=[l,.ob M.a]) (vs:=[v0,.ref M.a]) (by simpa using hN) (λb hb=>by obtain⟨u,e,_⟩:=sd.here b hb;rw[e];simp) (ax.cons a0 (ax.cons (by simp only[At]) ax.nil));exact this
end
end VT
variable{M:VT.MG}
namespace TS
open PySem PyProof.Rows
section
theorem C0{vs:qag}{xs:Array Keyed}(hp:xs.Perm (pairsOf vs)):(xs.map (·.2)).toList.Perm vs:=by
 have h:=(Oh.mp hp).map (λp:Keyed=>p.2);rw[pairsOf_toList] at h;rw[Array.toList_map];refine h.trans ?_;have:∀l:qag,(l.zip l).map (λp:Keyed=>p.2)=l:=λl=>by
  induction l with
  |nil=>rfl
  |cons x l ih=>rw[JI,gj,ih]
 rw[this]
end
section
theorem qU(b:Bool)(x y:Value):keyLt' (tuples' b) x y=(do
 let xs <- Builtin.List.listItems x
 let ys <- Builtin.List.listItems y
 for ((p,q),i) in (xs.toList.zip ys.toList).zipIdx do
  if !(<- eqBool p q) then return <- oneLt' (b && i==0) p q
 return decide (xs.size<ys.size)):=rfl
def TupAt(h:Heap)(v:Value)(aH:Array Value):Prop:=∃a o n,v=.ref a/\h.get? a=some o/\o.cls=.type "tuple"/\o.data=.seq aH n
theorem qV{α β:Type}{f:α->Sem β}{g:α->β}:∀(l:List α)(Q:List β->Shared->Prop),(∀v∈l,∀R:β->Shared->Prop,R (g v) s->wpAny (model prog w) A (f v) R E s)->Q (l.map g) s->wpAny (model prog w) A (l.mapM f) Q E s
 |[],Q,_,hq=>by rw[List.mapM_nil];exact wpAny_pure hq
 |v::l,Q,h,hq=>by rw[List.mapM_cons];refine wpAny_bind (h v (by simp) _ ?_);refine wpAny_bind (qV l _ (λv hv=>h v (d3 _ hv)) ?_);exact wpAny_pure hq
theorem C1(v:Value):firstOfTuple' v=(do
 if (<- typeOf v) != .type "tuple" then return none
 return (<- Builtin.List.listItems v)[0]?):=rfl
theorem C2{vs:qag}(f6:vs≠[])(ht:∀v∈vs,∃aH i t,TupAt s.heap v aH/\aH[0]?=some (.int i t)){Q:SortKind->Shared->Prop}(hq:Q (tuples' true) s) :
  wpAny (model prog w) A (keyKind' vs.toArray) Q E s:=by
 have pick:∃g:Value->Option Value,∀v∈vs,∃i t,g v=some (.int i t)/\∀R:(Option Value)->Shared->Prop,R (g v) s->wpAny (model prog w) A (firstOfTuple' v) R E s:=by
  refine⟨λv=>open Classical in if h:∃x:Value,(∃i t,x=.int i t)/\∀R:(Option Value)->Shared->Prop,R (some x) s->wpAny (model prog w) A (firstOfTuple' v) R E s then some h.choose else none,λv hv=>?_⟩;obtain⟨aH,i,t,⟨a,o,n,rfl,h1,h2,h3⟩,h4⟩:=ht v hv;have hex:∃x:Value,(∃i t,x=.int i t)/\∀R:(Option Value)->Shared->Prop,R (some x) s->wpAny (model prog w) A (firstOfTuple' (.ref a)) R E s:=by refine⟨.int i t,⟨i,t,rfl⟩,λR hR=>?_⟩;rw[C1];refine wpAny_bind (wpAny_typeOf (T:="tuple") ⟨o,h1,h2⟩ ?_);simp only[bne_self_eq_false,Oq,if_false];refine wpAny_bind (listItems_at h1 h3 (wpAny_pure ?_));rw[h4];exact hR
  dsimp only;rw[dif_pos hex];obtain⟨⟨i',t',e⟩,hR⟩:=hex.choose_spec;exact⟨i',t',by rw[e],hR⟩
 obtain⟨g,hg⟩:=pick;rw[keyKind'_eq,List.mapM_toArray];refine wpAny_bind ?_;rw[map_eq_pure_bind];refine wpAny_bind (qV (g:=g) vs _ (λv hv R hR=>(hg v hv).choose_spec.choose_spec.2 R hR) (wpAny_pure ?_));have KY:((vs.map g).toArray.all λx=>x.isSome)=true:=by rw[List.all_toArray,List.all_map,EZ];intro v hv;obtain⟨i,t,e,_⟩:=hg v hv;show (g v).isSome=true;rw[e];rfl
 rw[if_pos KY];refine wpAny_bind (wpAny_rule ?_);have ZN:(Array.filterMap id (vs.map g).toArray)=(vs.filterMap g).toArray:=by simp[SH]
 rw[ZN,oneTypeOnly'_eq,List.mapM_toArray];have hi:∀x∈vs.filterMap g,∃i t,x=Value.int i t:=λx hx=>by obtain⟨v,hv,e⟩:=SE.mp hx;obtain⟨i,t,e',_⟩:=hg v hv;rw[e] at e';exact⟨i,t,Option.some.inj e'⟩
 have hn:vs.filterMap g≠[]:=by
  obtain⟨v,rest,rfl⟩:∃v rest,vs=v::rest:=by
   cases vs with
   |nil=>exact absurd rfl f6
   |cons v rest=>exact⟨v,rest,rfl⟩
  obtain⟨i,t,e,_⟩:=hg v (by simp);rw[List.filterMap_cons_some e];simp
 generalize vs.filterMap g=fs at hi hn;refine wpAny_bind (wpAny_bind ?_);rw[map_eq_pure_bind];refine wpAny_bind (qV (g:=λ_=>Value.type "int") fs _ (λx hx R hR=>?_) (wpAny_pure ?_));obtain⟨i,t,rfl⟩:=hi x hx;exact wpAny_typeOf (typeIs_int s i t) hR;cases fs with
 |nil=>exact absurd rfl hn
 |cons x fs=>
   have ZO:(((x::fs).map λ_=>Value.type "int").toArray.all λy=>y==Value.type "int")=true:=by rw[List.all_toArray,List.all_map,EZ];intro y _;rfl
   show wpAny _ _ (pure (if (((x::fs).map λ_=>Value.type "int").toArray.all λy=>y==Value.type "int")=true then some (Value.type "int") else none)) _ _ _;rw[if_pos ZO];exact wpAny_pure (wpAny_pure hq)
end
end TS
namespace TS
open PySem PySem.Spec PyProof.Rows L2 VT
section
theorem z8:∀{us Jg:qag},Jg.Perm us->∀{xs:qak},Vals xs us->∃zs:qak,zs.Perm xs/\Vals zs Jg:=by
 intro us Jg p;induction p with
 |nil=>intro xs r;cases r;exact⟨[],.nil,.nil⟩
 |cons u _ ih=>
  intro xs r;cases r with
  |cons r t=>obtain⟨zs,p,q⟩:=ih t;exact⟨_,p.cons _,.cons r q⟩
 |swap u v l=>
  intro xs r;cases r with
  |cons r1 t=>cases t with
   |cons r2 t=>exact⟨_,.swap _ _ _,.cons r2 (.cons r1 t)⟩
 |trans _ _ ZP ZQ=>intro xs r;obtain⟨zs,p,q⟩:=ZQ r;obtain⟨ZR,p',q'⟩:=ZP q;exact⟨ZR,p'.trans p,q'⟩
end
end TS
namespace BS
open PySem PySem.Builtin PyProof.Rows
noncomputable def ib(x:Int)(k:Nat):Bool:=decide (x / 2 ^ k % 2=1)
theorem two_pos(k:Nat):(0:Int)<2 ^ k:=Int.pow_pos (by decide)
theorem eX(k:Nat):((2 ^ k:Nat):Int)=2 ^ k:=by rw[Int.natCast_pow];rfl
theorem bT(n k:Nat):ib (n:Int) k=n.testBit k:=by
 unfold ib;rw[Nat.testBit_eq_decide_div_mod_eq,<- eX];have:((n:Int) / ((2 ^ k:Nat):Int) % 2=1)↔(n / 2 ^ k % 2=1):=by rw[<- Int.natCast_ediv];omega
 exact decide_eq_decide.mpr this
theorem d0(x:Int)(k:Nat):ib (bitNot x) k=!ib x k:=by
 unfold ib bitNot;have h:(-x-1) / 2 ^ k=-(x / 2 ^ k)-1:=by
  have hp:=two_pos k;have e1:=Int.mul_ediv_add_emod x (2 ^ k);have e2:=Ex x (Int.ne_of_gt hp);have e3:=EX x hp;refine (Int.ediv_emod_unique hp (r:=2 ^ k-1-x % 2 ^ k)).mpr ⟨?_,?_,?_⟩ |>.1
  have:2 ^ k * (-(x / 2 ^ k)-1)=-(2 ^ k * (x / 2 ^ k))-2 ^ k:=by rw[Int.mul_sub,Int.mul_neg,Int.mul_one]
  rw[this];omega;omega;omega
 rw[h];by_cases q:x / 2 ^ k % 2=1;rw[decide_eq_true q,decide_eq_false (by omega)];rfl;rw[decide_eq_false q,decide_eq_true (by omega)];rfl
theorem wj{x y:Int}(h:∀k,ib x k=ib y k):x=y:=by
 have pos:∀(m n:Nat),(∀k,ib (m:Int) k=ib (n:Int) k)->m=n:=λm n q=>Nat.eq_of_testBit_eq λk=>by rw[<- bT,<- bT];exact q k
 have mix:∀(m:Nat)(y:Int),¬ 0<=y->¬ ∀k,ib (m:Int) k=ib y k:=by intro m y hy q;have hn:0<=bitNot y:=bitNot_nonneg.mpr hy;obtain⟨n,hn⟩:=oF hn;have h1:=q (m+n);rw[<- bitNot_bitNot y,d0,hn,bT,bT] at h1;have a1:m.testBit (m+n)=false:=Nat.testBit_lt_two_pow (Nat.lt_of_le_of_lt (Nat.le_add_right m n) Nat.lt_two_pow_self);have a2:n.testBit (m+n)=false:=Nat.testBit_lt_two_pow (Nat.lt_of_le_of_lt (Nat.le_add_left n m) Nat.lt_two_pow_self);rw[a1,a2] at h1;cases h1
 by_cases hx:0<=x;obtain⟨m,rfl⟩:=oF hx;by_cases hy:0<=y;obtain⟨n,rfl⟩:=oF hy;exact congrArg _ (pos m n h);exact (mix m y hy h).elim;by_cases hy:0<=y;obtain⟨n,rfl⟩:=oF hy;exact (mix n x hx λk=>(h k).symm).elim;have a:=bitNot_nonneg.mpr hx;have b:=bitNot_nonneg.mpr hy;obtain⟨m,hm⟩:=oF a;obtain⟨n,hn⟩:=oF b;have:m=n:=pos m n λk=>by rw[<- hm,<- hn,d0,d0,h k]
 rw[<- bitNot_bitNot x,<- bitNot_bitNot y,hm,hn,this]
theorem t5(x m:Nat):x-(x &&& m)=x ^^^ (x &&& m):=by
 have h:=nat_or_add_and (x ^^^ (x &&& m)) (x &&& m);have e1:(x ^^^ (x &&& m)) ||| (x &&& m)=x:=Nat.eq_of_testBit_eq λk=>by simp only[Nat.testBit_or,Nat.testBit_xor,Nat.testBit_and];cases x.testBit k<;>cases m.testBit k<;>rfl
 have e2:(x ^^^ (x &&& m)) &&& (x &&& m)=0:=Nat.eq_of_testBit_eq λk=>by simp only[Nat.testBit_xor,Nat.testBit_and,Nat.zero_testBit];cases x.testBit k<;>cases m.testBit k<;>rfl
 rw[e1,e2] at h;omega
theorem C3(x y:Int)(k:Nat):ib (bitAnd x y) k=(ib x k && ib y k):=by
 have pn:∀(m:Nat)(y:Int),¬ 0<=y->ib ((m:Int)-((m &&& (bitNot y).toNat:Nat):Int)) k=(ib (m:Int) k && ib y k):=by
  intro m y hy;obtain⟨n,hn⟩:=oF (bitNot_nonneg.mpr hy);have e:ib y k=!n.testBit k:=by rw[<- bitNot_bitNot y,d0,hn,bT]
  rw[hn,iL,<- Int.ofNat_sub Nat.and_le_left,t5,bT,bT,e];simp only[Nat.testBit_xor,Nat.testBit_and];cases m.testBit k<;>cases n.testBit k<;>rfl
 by_cases hx:0<=x;obtain⟨m,rfl⟩:=oF hx;by_cases hy:0<=y;obtain⟨n,rfl⟩:=oF hy;rw[bitAnd_pp hx hy,iL,iL,bT,bT,bT,Nat.testBit_and];rw[bitAnd_pn hx hy,iL];exact pn m y hy;by_cases hy:0<=y;obtain⟨n,rfl⟩:=oF hy;rw[bitAnd_np hx hy,iL,pn n x hx,Bool.and_comm];obtain⟨m,hm⟩:=oF (bitNot_nonneg.mpr hx);obtain⟨n,hn⟩:=oF (bitNot_nonneg.mpr hy);rw[bitAnd_nn hx hy,hm,hn,iL,iL,d0,bT,Nat.testBit_or,<- bT,<- bT,<- hm,<- hn,d0,d0];cases ib x k<;>cases ib y k<;>rfl
theorem t6(x y:Int)(k:Nat):ib (bitOr x y) k=(ib x k || ib y k):=by unfold bitOr;rw[d0,C3,d0,d0];cases ib x k<;>cases ib y k<;>rfl
theorem dB(k:Nat):ib 0 k=false:=by have:=bT 0 k;rw[Nat.zero_testBit] at this;exact this
theorem C4(x:Int)(j k:Nat):ib (x / 2 ^ j) k=ib x (j+k):=by unfold ib;rw[Int.ediv_ediv_of_nonneg (Int.le_of_lt (two_pos j)),<- Int.pow_add]
theorem wm(x:Int)(j k:Nat):ib (x % 2 ^ j) k=(decide (k<j) && ib x k):=by
 have pos:∀n:Nat,ib ((n:Int) % 2 ^ j) k=(decide (k<j) && n.testBit k):=λn=>by rw[<- eX,<- Int.natCast_emod,bT,Nat.testBit_mod_two_pow]
 by_cases hx:0<=x;obtain⟨m,rfl⟩:=oF hx;rw[pos,bT];obtain⟨m,hm⟩:=oF (bitNot_nonneg.mpr hx);have e:x=-(m:Int)-1:=by unfold bitNot at hm;omega
 have hp:=two_pos j;have e2:x % 2 ^ j=2 ^ j-1-(m:Int) % 2 ^ j:=by
  have e1:=Int.mul_ediv_add_emod (m:Int) (2 ^ j);have e2:=Ex (m:Int) (Int.ne_of_gt hp);have e3:=EX (m:Int) hp;refine (Int.ediv_emod_unique hp (q:=-((m:Int) / 2 ^ j)-1)).mpr ⟨?_,?_,?_⟩ |>.2
  have:2 ^ j * (-((m:Int) / 2 ^ j)-1)=-(2 ^ j * ((m:Int) / 2 ^ j))-2 ^ j:=by rw[Int.mul_sub,Int.mul_neg,Int.mul_one]
  rw[this];omega;omega;omega
 have e3:x % 2 ^ j=((2 ^ j-(m % 2 ^ j+1):Nat):Int):=by
  have eJ:m % 2 ^ j<2 ^ j:=Nat.mod_lt _ (Nat.two_pow_pos j);have a1:(m:Int) % 2 ^ j=((m % 2 ^ j:Nat):Int):=by rw[Int.natCast_emod,eX]
  have a2:=eX j;rw[e2,a1,<- a2];generalize 2 ^ j=P at eJ ⊢;omega
 have hb:ib x k=!m.testBit k:=by rw[<- bitNot_bitNot x,d0,hm,bT]
 rw[e3,bT,Nat.testBit_two_pow_sub_succ (Nat.mod_lt _ (Nat.two_pow_pos j)),Nat.testBit_mod_two_pow,hb];by_cases q:k<j;rw[decide_eq_true q,uX,uX,uX];rw[decide_eq_false q,Ey,Ey]
theorem Mo(x:Int)(j k:Nat):ib (x * 2 ^ j) k=(decide (j<=k) && ib x (k-j)):=by by_cases h:j<=k;obtain⟨d,rfl⟩:=Nat.exists_eq_add_of_le h;rw[decide_eq_true h,uX,Nat.add_sub_cancel_left,<- C4,Int.mul_ediv_cancel _ (Int.ne_of_gt (two_pos j))];rw[decide_eq_false h,Ey];have q:=wm (x * 2 ^ j) j k;rw[Int.mul_emod_left,dB,decide_eq_true (by omega),uX] at q;exact q.symm
theorem qW(k:Nat):ib 1 k=decide (k=0):=by
 cases k with
 |zero=>decide
 |succ k=>have h:(1:Int) / 2 ^ (k+1)=0:=Int.ediv_eq_zero_of_lt (by decide) (by rw[Int.pow_succ];have:=two_pos k;omega);unfold ib;rw[h];rfl
theorem C5(j k:Nat):ib (2 ^ j) k=decide (k=j):=by have h:=Mo 1 j k;rw[Int.one_mul,qW] at h;rw[h];by_cases e:k=j;subst e;simp;rw[decide_eq_false e];by_cases l:j<=k;rw[decide_eq_false (by omega:¬ k-j=0),Ov];rw[decide_eq_false l,Ey]
theorem qX(j k:Nat):ib (1 * 2 ^ j) k=decide (k=j):=by rw[Int.one_mul,C5]
theorem Jp{x y:Int}(h:0<=x)(h':0<=y):0<=bitOr x y:=by unfold bitOr;rw[bitAnd_nn (λq=>(bitNot_nonneg.mp q) h) (λq=>(bitNot_nonneg.mp q) h'),bitNot_bitNot];exact SF _
theorem G'(x:Int):bitAnd x 1=if ib x 0=true then 1 else 0:=wj λk=>by
 rw[C3,qW];by_cases e:k=0;subst e;cases q:ib x 0 with
 |true=>rw[if_pos rfl,qW];rfl
 |false=>rw[if_neg (by decide),dB];rfl
 rw[decide_eq_false e,Ov];split;rw[qW,decide_eq_false e];rw[dB]
theorem wo(x:Int)(k:Nat):bitAnd (x / 2 ^ k) 1=if ib x k=true then 1 else 0:=by rw[G',C4,Nat.add_zero]
def sub(y x:Int):Prop:=∀k,ib y k=true->ib x k=true
theorem gG(x:Int):sub x x:=λ_ h=>h
theorem cv{x y z:Int}(h:sub x y)(h':sub y z):sub x z:=λk q=>h' k (h k q)
theorem ji{x y:Int}(h:sub x y)(h':sub y x):x=y:=wj λk=>by
 cases q:ib x k with
 |true=>rw[h k q]
 |false=>
  cases r:ib y k with
  |false=>rfl
  |true=>rw[h' k r] at q;cases q
theorem gH(x y:Int):sub x (bitOr x y):=λk h=>by rw[t6,h];rfl
theorem dC(x y:Int):sub y (bitOr x y):=λk h=>by rw[t6,h,Bool.or_true]
theorem wq{x y z:Int}(h:sub x z)(h':sub y z):sub (bitOr x y) z:=λk q=>by rw[t6,Bool.or_eq_true] at q;exact q.elim (h k) (h' k)
theorem sub_zero(x:Int):sub 0 x:=λk h=>by rw[dB] at h;cases h
def below(m:Nat)(x:Int):Prop:=0<=x/\x<2 ^ m
theorem below.bit{x:Int}(h:below m x)(hk:ib x k=true):k<m:=by have e:x % 2 ^ m=x:=Int.emod_eq_of_lt h.1 h.2;rw[<- e,wm,gi] at hk;exact of_decide_eq_true hk.1
theorem mW{x:Int}(h0:0<=x)(h:∀k,ib x k=true->k<m):below m x:=by
 refine⟨h0,?_⟩;have e:x=x % 2 ^ m:=wj λk=>by
  rw[wm];cases q:ib x k with
  |false=>rw[Ov]
  |true=>rw[decide_eq_true (h k q)];rfl
 rw[e];exact EX _ (two_pos m)
theorem t7{x y:Int}(h:below m x)(h':below m y):below m (bitOr x y):=mW (Jp h.1 h'.1) λk hk=>by rw[t6,Bool.or_eq_true] at hk;exact hk.elim h.bit h'.bit
theorem iB(m:Nat):below m 0:=⟨Int.le_refl _,two_pos m⟩
theorem z9(h:j<m):below m (2 ^ j):=mW (Int.le_of_lt (two_pos j)) λk hk=>by rw[C5] at hk;rw[of_decide_eq_true hk];exact h
theorem mX(h:j<m):below m (1 * 2 ^ j):=by rw[Int.one_mul];exact z9 h
end BS
namespace x6
open PySem L2 VT BS
open PySem.Builtin (bitOr)
abbrev Ent:=(Int×Str)×Int
noncomputable def kK(k:Int×Str):List Key:=[.inl k.1,.inr k.2]
theorem gJ{a b:Int×Str}:kK a=kK b↔a=b:=by
 constructor;intro h;unfold kK at h;injection h with h1 h2
 injection h2 with h2 h3
 injection h1 with h1
 injection h2 with h2
 exact AG h1 h2;rintro rfl;rfl
noncomputable def cD(E:List Ent):List (List Key):=E.map λe=>kK e.1
def cW(E:List Ent):qaj:=E.map λe=>.int e.2
def gc(E:List Ent)(k:Int×Str):Bool:=E.any λe=>decide (e.1=k)
noncomputable def eY(E:List Ent)(k:Int×Str)(v:Int):List Ent:=if gc E k=true then E.map (λe=>if e.1=k then (e.1,v) else e) else E++[(k,v)]
theorem C6(E:List Ent)(k:Int×Str):mR (cD E) (kK k)=gc E k:=by
 unfold mR cD gc;rw[List.any_map]
 congr 1
 funext e;exact decide_eq_decide.mpr gJ
theorem C7(E:List Ent)(k:Int×Str)(v:Int):CI (cD E) (kK k)=cD (eY E k v):=by unfold CI eY;rw[C6];by_cases h:gc E k=true;rw[if_pos h,if_pos h];unfold cD;rw[uY];refine Et λe _=>?_;show kK e.1=kK (if e.1=k then (e.1,v) else e).1;split<;>rfl;rw[if_neg h,if_neg h];unfold cD;rw[AE];rfl
theorem fH(E:List Ent)(k:Int×Str)(v:Int):xY (cD E) (cW E) (kK k) (.int v)=cW (eY E k v):=by
 unfold xY eY;rw[C6];by_cases h:gc E k=true;rw[if_pos h,if_pos h];clear h;unfold cD cW;induction E with
 |nil=>rfl
 |cons e E ih=>
  simp only[gj,Ud];rw[ih]
  congr 1
  by_cases z:e.1=k;rw[if_pos z,if_pos (gJ.mpr z)];rw[if_neg z,if_neg (λq=>z (gJ.mp q))]
 rw[if_neg h,if_neg h];unfold cW;rw[AE];rfl
noncomputable def AR(p:Int×Str->Bool)(b:Int)(e:Ent):Int:=if p e.1=true then bitOr b e.2 else b
noncomputable def Jq(p:Int×Str->Bool)(E:List Ent):Int:=E.foldl (AR p) 0
theorem dB(k:Nat):ib 0 k=false:=by have:ib ((0:Nat):Int) k=(0:Nat).testBit k:=bT 0 k;rw[Nat.zero_testBit] at this;exact this
theorem qY(p:Int×Str->Bool)(k:Nat):∀(E:List Ent)(b:Int),ib (E.foldl (AR p) b) k=(ib b k || E.any λe=>p e.1 && ib e.2 k)
 |[],b=>by simp
 |e::E,b=>by
  rw[List.foldl_cons,qY p k E,yI];unfold AR;cases p e.1 with
  |true=>rw[if_pos rfl,t6,uX,Bool.or_assoc]
  |false=>rw[if_neg dO,Ey,E2]
theorem Ha{p:Int×Str->Bool}{E:List Ent}{e:Ent}(h:E[i]?=some e):Jq p (E.take (i+1))=AR p (Jq p (E.take i)) e:=by unfold Jq;rw[NM,h,NN];rfl
theorem qZ{E:List Ent}(nd:(E.map (·.1)).Nodup){e:Ent}(h:e∈E):bL (cD E) (cW E) (kK e.1)=some (.int e.2):=by
 induction E with
 |nil=>cases h
 |cons x E ih=>
  show (if kK x.1=kK e.1 then some (T.int x.2) else bL (cD E) (cW E) (kK e.1))=_;rw[gj,lC] at nd;rcases dh.mp h with rfl|h
  rw[if_pos rfl];rw[if_neg (λz=>nd.1 (by rw[gJ.mp z];exact List.mem_map_of_mem h)),ih nd.2 h]
end x6
variable{F:List x6.Ent}
namespace BS
open PySem PySem.Builtin PyProof.Rows
noncomputable def mem(x:Int):qao:=(List.range (Builtin.Int.intBits x)).filter (ib x)
theorem Hb{x:Int}(h0:0<=x):x<2 ^ Builtin.Int.intBits x:=by
 unfold Builtin.Int.intBits;by_cases e:x=0;subst e;decide;rw[if_neg (by simpa using e)];obtain⟨n,rfl⟩:=oF h0;have hn:n≠0:=by omega
 rw[Int.natAbs_natCast];have:=(Nat.log2_lt hn (k:=n.log2+1)).mp (AV _);rw[<- eX];exact Int.ofNat_lt.mpr this
theorem bits_le{x:Int}(h:below m x):Builtin.Int.intBits x<=m:=by
 unfold Builtin.Int.intBits;split;exact nL _
 rename_i e
 obtain⟨n,rfl⟩:=oF h.1;have hn:n≠0:=by intro z;subst z;exact e rfl
 rw[Int.natAbs_natCast];have h2:=h.2;rw[<- eX] at h2;have:=(Nat.log2_lt hn (k:=m)).mpr (Int.ofNat_lt.mp h2);omega
theorem Mp{x:Int}(h0:0<=x)(hk:ib x k=true):k<Builtin.Int.intBits x:=below.bit ⟨h0,Hb h0⟩ hk
theorem mem_iff{x:Int}(h0:0<=x):k∈mem x↔ib x k=true:=by unfold mem;rw[sf,w6];exact⟨λh=>h.2,λh=>⟨Mp h0 h,h⟩⟩
end BS
namespace TS
open PySem PyProof.Rows
end TS
namespace TS
open PySem PySem.Spec PyProof.Rows L2 VT
section
variable(L:α->α->Bool)
variable{L}
theorem filter_lt{p q:α->Bool}:∀{l:List α},(∀x∈l,p x=true->q x=true)->∀{y},y∈l->p y=false->q y=true->(l.filter p).length<(l.filter q).length
 |x::l,h,y,hy,h1,h2=>by
  have le:∀{l:List α},(∀x∈l,p x=true->q x=true)->(l.filter p).length<=(l.filter q).length:=by
   intro l;induction l with
   |nil=>intro _;exact bG _
   |cons x l ih=>
    intro h;have:=ih λz hz=>h z (d3 _ hz);rw[SN,SN];cases hp:p x with
    |true=>rw[h x (by simp) hp];simpa using this
    |false=>
     cases hq:q x with
     |true=>simp;omega
     |false=>simpa using this
  have hl:=λz hz=>h z (d3 x hz);rw[SN,SN];rcases dh.mp hy with rfl|hy
  rw[h1,h2];have:=le hl;simp;omega;have ih:=filter_lt hl hy h1 h2;cases hp:p x with
  |true=>rw[h x (by simp) hp];simpa using ih
  |false=>
   cases hq:q x with
   |true=>simp;omega
   |false=>simpa using ih
end
abbrev Tr:=Int×Str×Int
noncomputable def cS(a b:Tr):Bool:=if a.1=b.1 then (if a.2.1=b.2.1 then decide (a.2.2<b.2.2) else decide (a.2.1.cps.toList<b.2.1.cps.toList)) else decide (a.1<b.1)
theorem Hc(h:x.cps.toList=y.cps.toList):x=y:=by cases x;cases y;congr 1;exact Array.toList_inj.mp h
theorem Hd(a:Tr):cS a a=false:=by unfold cS;rw[if_pos rfl,if_pos rfl];exact decide_eq_false (Int.lt_irrefl _)
theorem x8{a b:Tr}(h:a≠b):cS a b=true\/cS b a=true:=by
 unfold cS;by_cases e1:a.1=b.1;rw[if_pos e1,if_pos e1.symm];by_cases e2:a.2.1=b.2.1;rw[if_pos e2,if_pos e2.symm];have:a.2.2≠b.2.2:=λz=>h (AG e1 (AG e2 z));rcases Int.lt_or_gt_of_ne this with z|z
 exact .inl (decide_eq_true z);exact .inr (decide_eq_true z);rw[if_neg e2,if_neg (λz=>e2 z.symm)];by_cases z:a.2.1.cps.toList<b.2.1.cps.toList;exact .inl (decide_eq_true z);refine .inr (decide_eq_true ?_);by_cases z2:b.2.1.cps.toList<a.2.1.cps.toList;exact z2;exact absurd (Hc (List.le_antisymm (List.not_lt.mp z2) (List.not_lt.mp z))) e2;rw[if_neg e1,if_neg (λz=>e1 z.symm)];rcases Int.lt_or_gt_of_ne e1 with z|z
 exact .inl (decide_eq_true z);exact .inr (decide_eq_true z)
theorem x9{a b c:Tr}(h1:cS a b=true)(h2:cS b c=true):cS a c=true:=by unfold cS at h1 h2 ⊢;by_cases e1:a.1=b.1;rw[if_pos e1] at h1;by_cases e2:b.1=c.1;rw[if_pos e2] at h2;rw[if_pos (e1.trans e2)];by_cases f1:a.2.1=b.2.1;rw[if_pos f1] at h1;by_cases f2:b.2.1=c.2.1;rw[if_pos f2] at h2;rw[if_pos (f1.trans f2)];exact decide_eq_true (Int.lt_trans (of_decide_eq_true h1) (of_decide_eq_true h2));rw[if_neg f2] at h2;rw[if_neg (by rw[f1];exact f2),f1];exact h2;rw[if_neg f1] at h1;by_cases f2:b.2.1=c.2.1;rw[<- f2,if_neg f1];exact h1;rw[if_neg f2] at h2;have z:=List.lt_trans (of_decide_eq_true h1) (of_decide_eq_true h2);rw[if_neg (λq=>by rw[q] at z;exact List.lt_irrefl _ z)];exact decide_eq_true z;rw[if_neg e2] at h2;rw[if_neg (by rw[e1];exact e2),e1];exact h2;rw[if_neg e1] at h1;by_cases e2:b.1=c.1;rw[<- e2,if_neg e1];exact h1;rw[if_neg e2] at h2;have z:=Int.lt_trans (of_decide_eq_true h1) (of_decide_eq_true h2);rw[if_neg (by omega)];exact decide_eq_true z
section
theorem ltI{i j:Int}{t u:Tok}{Q:Bool->Shared->Prop}(hq:Q (decide (i<j)) s):wpAny (model prog w) A (oneLt' false (.int i t) (.int j u)) Q E s:=by rw[oneLt'_eq];simp only[Oq,if_false];exact wpAny_bind (wpAny_richCompare_same (op:=.Lt) (T:="int") (typeIs_int s i t) (typeIs_int s j u) slot_int_lt (call_int_lt ⟨by simp,wpAny_truthy_bool hq⟩))
theorem ZT{t u:Tok}{Q:Bool->Shared->Prop}(hq:Q (decide (x.cps.toList<y.cps.toList)) s):wpAny (model prog w) A (oneLt' false (.str x t) (.str y u)) Q E s:=by rw[oneLt'_eq];simp only[Oq,if_false];exact wpAny_bind (wpAny_richCompare_same (op:=.Lt) (T:="str") (typeIs_str s x t) (typeIs_str s y u) slot_str_lt (call_str_lt ⟨by simp,wpAny_truthy_bool hq⟩))
def eZ(h:Heap)(v:Value)(a:Tr):Prop:=∃t1 t2 t3,TupAt h v #[.int a.1 t1,.str a.2.1 t2,.int a.2.2 t3]
theorem He{x y:Value}{a b:Tr}(hx:eZ s.heap x a)(hy:eZ s.heap y b){Q:Bool->Shared->Prop}(hq:Q (cS a b) s):wpAny (model prog w) A (keyLt' (tuples' true) x y) Q E s:=by obtain⟨t1,t2,t3,p,o,n,rfl,h1,h2,h3⟩:=hx;obtain⟨u1,u2,u3,p',o',n',rfl,EI,EJ,TN⟩:=hy;rw[qU];refine wpAny_bind (listItems_at h1 h3 (wpAny_bind (listItems_at EI TN ?_)));have e:((#[Value.int a.1 t1,.str a.2.1 t2,.int a.2.2 t3]:Array Value).toList.zip (#[Value.int b.1 u1,.str b.2.1 u2,.int b.2.2 u3]:Array Value).toList).zipIdx=[((Value.int a.1 t1,Value.int b.1 u1),0),((Value.str a.2.1 t2,Value.str b.2.1 u2),1),((Value.int a.2.2 t3,Value.int b.2.2 u3),2)]:=rfl;rw[e,JN];unfold cS at hq;refine wpAny_bind (wpAny_bind (wpAny_bind (wpAny_eqBool_int ?_)));by_cases e1:a.1=b.1;rw[if_pos e1] at hq;rw[if_neg (by simp[e1])];refine wpAny_pure ?_;dsimp only;rw[JN];refine wpAny_bind (wpAny_bind (wpAny_eqBool_str ?_));by_cases e2:a.2.1=b.2.1;rw[if_pos e2] at hq;rw[if_neg (by simp[e2])];refine wpAny_pure ?_;dsimp only;rw[JN];refine wpAny_bind (wpAny_bind (wpAny_eqBool_int ?_));by_cases e3:a.2.2=b.2.2;rw[if_neg (by simp[e3])];refine wpAny_pure ?_;dsimp only;rw[List.forIn_nil];refine wpAny_pure ?_;refine wpAny_pure ?_;rw[decide_eq_false (by omega)] at hq;exact hq;rw[if_pos (by simp[e3])];refine wpAny_bind (ltI ?_);refine wpAny_pure (wpAny_pure (wpAny_pure hq));rw[if_neg e2] at hq;rw[if_pos (by simp[e2])];refine wpAny_bind (ZT ?_);refine wpAny_pure (wpAny_pure (wpAny_pure hq));rw[if_neg e1] at hq;rw[if_pos (by simp[e1])];refine wpAny_bind (oneLt_int ?_);refine wpAny_pure (wpAny_pure (wpAny_pure hq))
end
section
theorem z_{v:Value}{a b:Tr}(x:eZ h v a)(y:eZ h v b):a=b:=by
 obtain⟨t1,t2,t3,p,o,n,rfl,h1,h2,h3⟩:=x;obtain⟨u1,u2,u3,p',o',n',e,EI,EJ,TN⟩:=y;cases e;rw[h1] at EI;cases EI;rw[h3] at TN;injection TN with e1 e2
 have:=congrArg Array.toList e1;simp only[List.cons.injEq,Value.int.injEq,Value.str.injEq] at this;obtain⟨⟨q1,_⟩,⟨q2,_⟩,⟨q3,_⟩,_⟩:=this;exact AG q1 (AG q2 q3)
open Classical in
noncomputable def q8(h:Heap)(v:Value):Tr:=if z:∃a,eZ h v a then z.choose else (0,⟨#[]⟩,0)
theorem q9{v:Value}{a:Tr}(x:eZ h v a):q8 h v=a:=by unfold q8;have z:∃a,eZ h v a:=⟨a,x⟩;rw[dif_pos z];exact z_ z.choose_spec x
end
def kY(K:qaf)(H:Hp)(w:V)(a:Tr):Prop:=∃b,w=.ref b/\dy K H b [.int a.1,.str a.2.1,.int a.2.2]
noncomputable def tT(a:Tr):T:=.tup [.int a.1,.str a.2.1,.int a.2.2]
section
variable{A:qah}
theorem Rm{a:Tr}{w:V}(h:At K H A (tT a) w):kY K H w a:=by obtain⟨b,us,rfl,h2,h3⟩:=d4.tup (.inl h);simp only[ax,At] at h3;obtain⟨_,_,rfl,rfl,_,_,rfl,rfl,_,_,rfl,rfl,rfl⟩:=h3;exact⟨b,rfl,h2⟩
theorem Ro{a:Tr}{w:V}(h:kY K H w a):At K H A (tT a) w:=by obtain⟨b,rfl,h⟩:=h;exact cP h (ax.cons aZ (ax.cons cZ (ax.cons aZ ax.nil)))
theorem C8:∀{as:List Tr}{ws:qak},ax K H A (as.map tT) ws->Paired (kY K H) ws as
 |[],ws,h=>by simp only[NQ,ax] at h;subst h;exact .nil
 |a::as,ws,h=>by simp only[gj,ax] at h;obtain⟨v,r,rfl,h1,h2⟩:=h;exact .cons (Rm h1) (C8 h2)
theorem Mq{ws:qak}{as:List Tr}(h:Paired (kY K H) ws as):ax K H A (as.map tT) ws:=by
 induction h with
 |nil=>exact ax.nil
 |cons r _ ih=>exact ax.cons (Ro r) ih
end
end TS
namespace SO
open PySem PyProof.Rows PyProof
abbrev Kd:=Value×Value
structure Od(lt:Kd->Kd->Bool):Prop where
 as:∀{a b},lt a b=true->lt b a=false
 nt:∀{a c} b,lt a c=true->lt a b=true\/lt b c=true
theorem Od.le{lt:Kd->Kd->Bool}(O:Od lt){a b c:Kd}(h1:lt b a=false)(h2:lt c b=false):lt c a=false:=by
 cases h:lt c a with
 |false=>rfl
 |true=>rcases O.nt b h with z|z<;>simp_all
theorem Od.AS{lt:Kd->Kd->Bool}(O:Od lt)(a:Kd):lt a a=false:=by
 cases h:lt a a with
 |false=>rfl
 |true=>exact absurd h (by rw[O.as h];simp)
structure Cp(prog:Program)(w:World)(A:Around)(E:qad)(s:Shared)(κ:SortKind)(lt:Kd->Kd->Bool)(G:Kd->Prop):Prop where
 od:Od lt
 lt:∀{p q:Kd}{st:SortSt}{Q:Option Bool->SortSt->Prop},G p->G q->kindOf st=κ->Q (some (lt p q)) st->wpS (model prog w) A E s (lt' p q) Q st
noncomputable def jj:Bool->Kd->Array Kd->Nat->Nat->Nat->StateT SortSt Sem (Option Nat):=sortPriv% PySem.Builtin.gallop
variable{κ:SortKind}{lt:Kd->Kd->Bool}{G:Kd->Prop}
theorem aR{arr:Array Kd}{p:Kd}{st:SortSt}{Q:Kd->SortSt->Prop}(h:arr[i]?=some p)(hq:Q p st):wpS (model prog w) A E s (elem' arr i) Q st:=by rw[elem'_eq,h];exact wpS_pure hq
theorem x_{hi:Nat}{st:SortSt}{B:Nat->Bool}{f:Nat->StateT SortSt Sem (Option Bool)}{Q:Option (Option Nat)×Nat×Nat->SortSt->Prop}(hf:∀i<n,∀Q':Option Bool->SortSt->Prop,Q' (some (B i)) st->wpS (model prog w) A E s (f i) Q' st)(mono:∀i j,i<=j->j<n->B j=true->B i=true)(Wg:lo<=hi)(hn:hi<=n)(h1:∀i<lo,B i=true)(h2:∀i,hi<=i->i<n->B i=false)(hq:∀k≤n,(∀i<k,B i=true)->(∀i,k<=i->i<n->B i=false)->Q (none,k,k) st) :
  wpS (model prog w) A E s (forIn [:n] (none,lo,hi) λ_ c=>if c.2.1 ≥ c.2.2 then pure (.done (none,c.2.1,c.2.2)) else do
   match <- f (c.2.1+(c.2.2-c.2.1) / 2) with
   |some more=>if more=true then pure (.yield (none,c.2.1+(c.2.2-c.2.1) / 2+1,c.2.2)) else pure (.yield (none,c.2.1,c.2.1+(c.2.2-c.2.1) / 2))
   |_=>pure (.done (some none,c.2.1,c.2.2))) Q st:=by
 refine wpS_forRange (I:=λx c st'=>st'=st/\∃lo hi,c=(none,lo,hi)/\lo<=hi/\hi<=n/\hi-lo<=n-x/\(∀i<lo,B i=true)/\∀i,hi<=i->i<n->B i=false) ?_ ?_ ⟨rfl,lo,hi,rfl,Wg,hn,by omega,h1,h2⟩;rintro x c st' _ hx ⟨rfl,lo,hi,rfl,Wg,hn,hm,h1,h2⟩;dsimp only;by_cases z:lo ≥ hi;rw[if_pos z];have e:lo=hi:=by omega
 subst e;exact wpS_pure (hq lo hn h1 h2);rw[if_neg z];refine wpS_bind (hf _ (by omega) _ ?_);dsimp only;cases hb:B (lo+(hi-lo) / 2) with
 |true=>exact wpS_pure ⟨rfl,_,_,rfl,by omega,hn,by omega,λi IF=>mono i _ (by omega) (by omega) hb,h2⟩
 |false=>
   refine wpS_pure ⟨rfl,_,_,rfl,by omega,by omega,by omega,h1,λi ZU V0=>?_⟩;cases hc:B i with
   |false=>rfl
   |true=>rw[mono _ i ZU V0 hc] at hb;exact hb
 rintro c st' ⟨rfl,lo,hi,rfl,Wg,hn,hm,h1,h2⟩;have e:lo=hi:=by omega
 subst e;exact hq lo hn h1 h2
theorem c7(C:Cp prog w A E s κ lt G){left:Bool}{key:Kd}{arr:Array Kd}{base hint:Nat}{st:SortSt}{Q:Option Nat->SortSt->Prop}(hk:kindOf st=κ)(Fp:G key)(hh:hint<n)(B:Nat->Bool)(hB:∀i<n,∃p,arr[base+i]?=some p/\G p/\B i=if left then lt p key else !lt key p)(mono:∀i j,i<=j->j<n->B j=true->B i=true)(hq:∀k≤n,(∀i<k,B i=true)->(∀i,k<=i->i<n->B i=false)->Q (some k) st):wpS (model prog w) A E s (jj left key arr base n hint) Q st:=by
 have Rp:∀i<n,∀Q':Option Bool->SortSt->Prop,Q' (some (B i)) st->wpS (model prog w) A E s (do let x <- elem' arr (base+i);if left then lt' x key else return (<- lt' key x).map (!·)) Q' st:=λi hi Q' h=>by
  obtain⟨p,e,g,eb⟩:=hB i hi;refine wpS_bind (aR e ?_);cases left with
  |true=>exact C.lt g Fp hk (by rw[eb] at h;exact h)
  |false=>exact wpS_bind (C.lt Fp g hk (wpS_pure (by rw[eb] at h;exact h)))
 have XF:∀{i j},i<=j->j<n->B i=false->B j=false:=λ{i j} h1 h2 h3=>by
  cases hc:B j with
  |false=>rfl
  |true=>rw[mono i j h1 h2 hc] at h3;exact h3
 refine wpS_bind (Rp hint hh _ ?_);dsimp only;cases hb:B hint with
 |true=>
  rw[if_pos rfl];refine wpS_bind (wpS_mono (wpS_forRange (I:=λx c st'=>st'=st/\∃la o,c=(none,la,o)/\la<o/\x<o/\hint+la<n/\B (hint+la)=true)
   (Q:=λc st'=>st'=st/\∃la o,c=(none,la,o)/\la<o/\hint+la<n/\B (hint+la)=true/\(o<n-hint->B (hint+o)=false)) ?_ ?_ ⟨rfl,0,1,rfl,by omega,by omega,by omega,hb⟩) ?_)
  rintro x c st' _ hx ⟨rfl,la,o,rfl,h1,h2,h3,h4⟩;dsimp only;by_cases z:o ≥ n-hint;rw[if_pos z];exact wpS_pure ⟨rfl,la,o,rfl,h1,h3,h4,λ_=>by omega⟩;rw[if_neg z];refine wpS_bind (Rp _ (by omega) _ ?_);cases hc:B (hint+o) with
  |false=>exact wpS_pure ⟨rfl,la,o,rfl,h1,h3,h4,λ_=>hc⟩
  |true=>exact wpS_pure ⟨rfl,o,2 * o+1,rfl,by omega,by omega,by omega,hc⟩
  rintro c st' ⟨rfl,la,o,rfl,h1,h2,h3,h4⟩;exact⟨rfl,la,o,rfl,h1,h3,h4,λ_=>by omega⟩;rintro c st' ⟨rfl,la,o,rfl,h1,h3,h4,h5⟩;dsimp only;exact wpS_bind (x_ Rp mono (by omega) (by omega) (λi hi=>mono i _ (by omega) h3 h4) (λi h6 h7=>XF (i:=hint+o) (by omega) h7 (h5 (by omega))) λk hk h6 h7=>wpS_pure (hq k hk h6 h7))
 |false=>
  rw[if_neg (by simp)];refine wpS_bind (wpS_mono (wpS_forRange (I:=λx c st'=>st'=st/\∃la o,c=(none,la,o)/\la<o/\x<o/\la<=hint/\B (hint-la)=false)
   (Q:=λc st'=>st'=st/\∃la o,c=(none,la,o)/\la<o/\la<=hint/\B (hint-la)=false/\(o<hint+1->B (hint-o)=true)) ?_ ?_ ⟨rfl,0,1,rfl,by omega,by omega,by omega,hb⟩) ?_)
  rintro x c st' _ hx ⟨rfl,la,o,rfl,h1,h2,h3,h4⟩;dsimp only;by_cases z:o ≥ hint+1;rw[if_pos z];exact wpS_pure ⟨rfl,la,o,rfl,h1,h3,h4,λ_=>by omega⟩;rw[if_neg z];refine wpS_bind (Rp _ (by omega) _ ?_);cases hc:B (hint-o) with
  |true=>exact wpS_pure ⟨rfl,la,o,rfl,h1,h3,h4,λ_=>hc⟩
  |false=>exact wpS_pure ⟨rfl,o,2 * o+1,rfl,by omega,by omega,by omega,hc⟩
  rintro c st' ⟨rfl,la,o,rfl,h1,h2,h3,h4⟩;exact⟨rfl,la,o,rfl,h1,h3,h4,λ_=>by omega⟩;rintro c st' ⟨rfl,la,o,rfl,h1,h3,h4,h5⟩;dsimp only;exact wpS_bind (x_ Rp mono (by omega) (by omega) (λi hi=>mono i _ (by omega) (by omega) (h5 (by omega))) (λi h6 h7=>XF h6 h7 h4) λk hk h6 h7=>wpS_pure (hq k hk h6 h7))
structure Mg(R:Kd->Kd->Prop)(U out as bs:List Kd):Prop where
 pm:(out++(as++bs)).Perm U
 so:out.Pairwise R
 sa:as.Pairwise R
 sb:bs.Pairwise R
 oa:∀x∈out,∀y∈as,R x y
 ob:∀x∈out,∀y∈bs,R x y
theorem Mg.swap{R:Kd->Kd->Prop}{U out as bs:List Kd}(h:Mg R U out as bs):Mg R U out bs as :=
 ⟨(List.Perm.append_left out List.perm_append_comm).trans h.pm,h.so,h.sb,h.sa,h.ob,h.oa⟩
theorem Mg.a{R:Kd->Kd->Prop}{U out x as bs:List Kd}(h:Mg R U out (x++as) bs)(hx:∀u∈x,∀v∈bs,R u v):Mg R U (out++x) as bs:=by obtain⟨h1,h2,h3⟩:=Om.mp h.sa;refine⟨by rw[NK,<- NK x];exact h.pm,Om.mpr ⟨h.so,h1,λu hu v hv=>h.oa u hu v (hU _ hv)⟩,h2,h.sb,λu hu v hv=>?_,λu hu v hv=>?_⟩;exact (g7.mp hu).elim (λz=>h.oa u z v (g6 _ hv)) λz=>h3 u z v hv;exact (g7.mp hu).elim (λz=>h.ob u z v hv) λz=>hx u z v hv
theorem Mg.b{R:Kd->Kd->Prop}{U out x as bs:List Kd}(h:Mg R U out as (x++bs))(hx:∀u∈x,∀v∈as,R u v):Mg R U (out++x) as bs:=(h.swap.a hx).swap
theorem Mg.fin{R:Kd->Kd->Prop}{U out as bs:List Kd}(h:Mg R U out as bs)(hx:∀u∈as,∀v∈bs,R u v):(out++(as++bs)).Perm U/\(out++(as++bs)).Pairwise R :=
 ⟨h.pm,Om.mpr ⟨h.so,Om.mpr ⟨h.sa,h.sb,hx⟩,λu hu v hv=>(g7.mp hv).elim (h.oa u hu v) (h.ob u hu v)⟩⟩
noncomputable def X(a:Array Kd)(i:Nat):Kd:=a[i]?.getD (.none,.none)
theorem at_{a:Array Kd}(h:i<a.size):a[i]?=some (X a i):=by unfold X;rw[getElem?_pos a i h];rfl
theorem cy{a:Array Kd}(h:i<a.size):X a i∈a.toList:=by have:=at_ h;rw[<- EW] at this;exact fY this
theorem pf{a:Array Kd}{x:Kd}(h:x∈a.toList.drop i):∃j,i<=j/\j<a.size/\x=X a j:=by
 obtain⟨j,hj,e⟩:=Ol.mp h;have oS:i+j<a.size:=by simp at hj;omega
 refine⟨i+j,by omega,oS,?_⟩;unfold X;rw[getElem?_pos a _ oS,<- e];simp
theorem gK{a:Array Kd}{x:Kd}(h:x∈(a.extract i k).toList):∃j,i<=j/\j<k/\j<a.size/\x=X a j:=by
 obtain⟨j,hj,e⟩:=Ol.mp h;have oS:i+j<a.size/\i+j<k:=by simp at hj;omega
 refine⟨i+j,by omega,oS.2,oS.1,?_⟩;unfold X;rw[getElem?_pos a _ oS.1,<- e];simp
theorem dE{a:Array Kd}(h:i<=k):a.toList.drop i=(a.extract i k).toList++a.toList.drop k:=by
 rw[SA,List.extract_eq_drop_take]
 conv=>lhs;rw[<- Sx (k-i) (a.toList.drop i),List.drop_drop]
 congr 2;omega
theorem eE{a:Array Kd}:(a.extract i).toList=a.toList.drop i:=by rw[SA,List.extract_eq_drop_take,Su (by simp)]
theorem j5{lt:Kd->Kd->Bool}(O:Od lt){a:Array Kd}(h:a.toList.Pairwise λx y=>lt y x=false)(xr:i<=j)(hj:j<a.size):lt (X a j) (X a i)=false:=by
 by_cases e:i=j;subst e;exact O.AS _;have hi:i<a.size:=by omega
 have:=List.pairwise_iff_getElem.mp h i j (by simpa using hi) (by simpa using hj) (by omega);unfold X;rw[getElem?_pos a i hi,getElem?_pos a j hj];simpa using this
def C9:Array Kd->Array Kd->StateT SortSt Sem (Array Kd):=sortPriv% PySem.Builtin.mergeLo
noncomputable def C_:Array Kd->Array Kd->StateT SortSt Sem (Array Kd):=sortPriv% PySem.Builtin.mergeHi
structure Sm(st st':SortSt):Prop where
 k:kindOf st'=kindOf st
 a:arrOf st'=arrOf st
 p:pendingOf st'=pendingOf st
 f:failedOf st'=failedOf st
variable{κ:SortKind}{lt:Kd->Kd->Bool}{G:Kd->Prop}
section
variable{a b:Array Kd}
abbrev RR(lt:Kd->Kd->Bool):Kd->Kd->Prop:=λx y=>lt y x=false
abbrev ML(lt:Kd->Kd->Bool)(a b out:Array Kd)(ia ib:Nat):Prop:=Mg (RR lt) (a.toList++b.toList) out.toList (a.toList.drop ia) (b.toList.drop ib)
def OK(lt:Kd->Kd->Bool)(a b r:Array Kd):Prop:=r.toList.Perm (a.toList++b.toList)/\r.toList.Pairwise (RR lt)
theorem ML.pa{out:Array Kd}{ia ib:Nat}(M:ML lt a b out ia ib)(h:ia<=k)(hx:∀i,ia<=i->i<k->i<a.size->∀j,ib<=j->j<b.size->lt (X b j) (X a i)=false):ML lt a b (out++a.extract ia k) k ib:=by
 have M':Mg (RR lt) (a.toList++b.toList) out.toList ((a.extract ia k).toList++a.toList.drop k) (b.toList.drop ib):=by rw[<- dE h];exact M
 have:=M'.a λu hu v hv=>by obtain⟨i,h1,h2,h3,rfl⟩:=gK hu;obtain⟨j,h4,h5,rfl⟩:=pf hv;exact hx i h1 h2 h3 j h4 h5
 unfold ML;rw[Eu];exact this
theorem ML.pb{out:Array Kd}{ia ib:Nat}(M:ML lt a b out ia ib)(h:ib<=k)(hx:∀i,ib<=i->i<k->i<b.size->∀j,ia<=j->j<a.size->lt (X a j) (X b i)=false):ML lt a b (out++b.extract ib k) ia k:=by
 have M':Mg (RR lt) (a.toList++b.toList) out.toList (a.toList.drop ia) ((b.extract ib k).toList++b.toList.drop k):=by rw[<- dE h];exact M
 have:=M'.b λu hu v hv=>by obtain⟨i,h1,h2,h3,rfl⟩:=gK hu;obtain⟨j,h4,h5,rfl⟩:=pf hv;exact hx i h1 h2 h3 j h4 h5
 unfold ML;rw[Eu];exact this
theorem j6{out a:Array Kd}(h:i<a.size):out.push (X a i)=out++a.extract i (i+1):=by
 apply Array.toList_inj.mp;have e:(a.extract i (i+1)).toList=[X a i]:=by rw[SA,List.extract_eq_drop_take,show i+1-i=1 by omega];unfold X;rw[getElem?_pos a i h,Oj (by simpa using h)];simp
 rw[Eu,e,Array.toList_push]
theorem ML.fin{out:Array Kd}{ia ib:Nat}(M:ML lt a b out ia ib)(h:a.size<=ia\/b.size<=ib):OK lt a b (out++a.extract ia++b.extract ib):=by unfold OK;rw[Eu,Eu,eE,eE,NK];refine Mg.fin M λu hu v hv=>?_;obtain⟨i,h1,h2,_⟩:=pf hu;obtain⟨j,h3,h4,_⟩:=pf hv;omega
theorem ML.last{out:Array Kd}{ia ib:Nat}(M:ML lt a b out ia ib)(e:ia+1=a.size)(hl:∀j,j<b.size->lt (X a (a.size-1)) (X b j)=false):OK lt a b (out++b.extract ib++a.extract ia):=by unfold OK;rw[Eu,Eu,eE,eE,NK];refine Mg.fin (Mg.swap M) λu hu v hv=>?_;obtain⟨i,h1,h2,rfl⟩:=pf hu;obtain⟨j,h3,h4,rfl⟩:=pf hv;rw[show j=a.size-1 by omega];exact hl i h2
end
structure In(lt:Kd->Kd->Bool)(G:Kd->Prop)(a b:Array Kd):Prop where
 ga:∀x∈a.toList,G x
 gb:∀x∈b.toList,G x
 sa:a.toList.Pairwise (RR lt)
 sb:b.toList.Pairwise (RR lt)
 a0:0<a.size
 b0:0<b.size
 hf:∀j,j<a.size->lt (X a j) (X b 0)=false
 hl:∀j,j<b.size->lt (X a (a.size-1)) (X b j)=false
theorem Sm.of{st st':SortSt}(h:Sm st st'){g:Nat}:Sm st (SortSt.mk' (kindOf st') (arrOf st') (pendingOf st') g (failedOf st')):=⟨h.k,h.a,h.p,h.f⟩
theorem az{c:Prop}[Decidable c]{x y:StateT SortSt Sem α}{Q:α->SortSt->Prop}{st:SortSt}(h1:c->wpS (model prog w) A E s x Q st)(h2:¬ c->wpS (model prog w) A E s y Q st):wpS (model prog w) A E s (if c then x else y) Q st:=by by_cases h:c;rw[if_pos h];exact h1 h;rw[if_neg h];exact h2 h
theorem ya{γ:Type}(jp:β->γ->StateT SortSt Sem α){x:StateT SortSt Sem α}{Q:α->SortSt->Prop}{st:SortSt}(h1:∀r m,wpS (model prog w) A E s (jp r m) Q st)(h2:(∀r m,wpS (model prog w) A E s (jp r m) Q st)->wpS (model prog w) A E s x Q st):wpS (model prog w) A E s x Q st:=h2 h1
theorem jk{γ δ:Type}(jp:β->γ->δ->StateT SortSt Sem α)(P:γ->δ->Prop){x:StateT SortSt Sem α}{Q:α->SortSt->Prop}{st:SortSt}(h1:∀r o i,P o i->wpS (model prog w) A E s (jp r o i) Q st)(h2:(∀r o i,P o i->wpS (model prog w) A E s (jp r o i) Q st)->wpS (model prog w) A E s x Q st):wpS (model prog w) A E s x Q st:=h2 h1
def Dd{Y0 Y1 Y2 Y3 τ:Type}(st:SortSt)(D:Y0->Prop)(P P':Y1->Y2->Y3->Prop)(u6:ForInStep (Option Y0×Y1×Y2×Y3×τ))(st':SortSt):Prop:=Sm st st'/\match u6 with
 |.done (some u6,_)=>D u6
 |.done (none,u1,u2,w,_)=>P' u1 u2 w
 |.yield (none,u1,u2,w,_)=>P u1 u2 w
 |.yield (some _,_)=>False
section
variable{Y0 Y1 Y2 Y3 τ:Type}{st st':SortSt}{D:Y0->Prop}{P P':Y1->Y2->Y3->Prop}{u1:Y1}{u2:Y2}{u3:Y3}{u5:τ}
theorem Dd.dn(hs:Sm st st'){u6:Y0}(h:D u6):Dd (τ:=τ) st D P P' (.done (some u6,u1,u2,u3,u5)) st':=⟨hs,h⟩
theorem Dd.ot(hs:Sm st st')(h:P' u1 u2 u3):Dd (τ:=τ) st D P P' (.done (none,u1,u2,u3,u5)) st':=⟨hs,h⟩
theorem Dd.go(hs:Sm st st')(h:P u1 u2 u3):Dd (τ:=τ) st D P P' (.yield (none,u1,u2,u3,u5)) st':=⟨hs,h⟩
end
theorem gX{Y0 Y1 Y2 Y3 τ:Type}{f:Nat->Option Y0×Y1×Y2×Y3×τ->StateT SortSt Sem (ForInStep (Option Y0×Y1×Y2×Y3×τ))}{Q:Option Y0×Y1×Y2×Y3×τ->SortSt->Prop}{Qv st:SortSt}{u1:Y1}{u2:Y2}{u3:Y3}{u4:τ}(D:Y0->Prop)(P:Nat->Y1->Y2->Y3->Prop)(P':Y1->Y2->Y3->Prop)(hs:Sm st Qv)(h0:P 0 u1 u2 u3)(step:∀u5 u1 u2 u3 (u4:τ) st',u5<n->Sm st st'->P u5 u1 u2 u3->wpS (model prog w) A E s (f u5 (none,u1,u2,u3,u4)) (Dd st D (P (u5+1)) P') st')(fin:∀u1 u2 u3,P n u1 u2 u3->False)(q1:∀u6 d st',Sm st st'->D u6->Q (some u6,d) st')(q2:∀u1 u2 u3 u4 st',Sm st st'->P' u1 u2 u3->Q (none,u1,u2,u3,u4) st'):wpS (model prog w) A E s (forIn [:n] (none,u1,u2,u3,u4) f) Q Qv:=by
 refine wpS_mono (wpS_forRange (I:=λu5 c st'=>Sm st st'/\∃u1 u2 u3 u4,c=(none,u1,u2,u3,u4)/\P u5 u1 u2 u3) (Q:=λc st'=>Sm st st'/\((∃u6 d,c=(some u6,d)/\D u6)\/∃u1 u2 u3 u4,c=(none,u1,u2,u3,u4)/\P' u1 u2 u3)) ?_ ?_ ⟨hs,_,_,_,_,rfl,h0⟩) ?_
 . rintro u5 c dD _ hx ⟨hs,u1,u2,u3,u4,rfl,h⟩;refine wpS_mono (step u5 u1 u2 u3 u4 dD hx hs h) λu6 pW h=>?_;obtain⟨h1,h2⟩:=h
   match u6,h2 with
   |.done (some u6,_),h2=>exact⟨h1,.inl ⟨_,_,rfl,h2⟩⟩
   |.done (none,_,_,_,_),h2=>exact⟨h1,.inr ⟨_,_,_,_,rfl,h2⟩⟩
   |.yield (none,_,_,_,_),h2=>exact⟨h1,_,_,_,_,rfl,h2⟩
 rintro c dD ⟨hs,u1,u2,u3,u4,rfl,h⟩;exact (fin u1 u2 u3 (by simpa using h)).elim;rintro c dD ⟨hs,⟨u6,d,rfl,h⟩|⟨u1,u2,u3,u4,rfl,h⟩⟩;exact q1 u6 d dD hs h;exact q2 u1 u2 u3 u4 dD hs h
structure JL(lt:Kd->Kd->Bool)(a b:Array Kd)(c:Nat)(o:Array Kd)(i j:Nat):Prop where
 M:ML lt a b o i j
 h1:i+1<a.size
 h2:j<b.size
 h3:c<=i+j
theorem Mr(C:Cp prog w A E s κ lt G){a b:Array Kd}{st:SortSt}{Q:Array Kd->SortSt->Prop}(hk:kindOf st=κ)(I:In lt G a b)(hq:∀out st',OK lt a b out->Sm st st'->Q out st'):wpS (model prog w) A E s (C9 a b) Q st:=by
 have a0:=I.a0;have b0:=I.b0;have s0:Sm st st:=⟨rfl,rfl,rfl,rfl⟩;have M0:ML lt a b #[X b 0] 0 1:=by
  have M:ML lt a b #[] 0 0:=⟨by simp,by simp,by simpa using I.sa,by simpa using I.sb,by simp,by simp⟩;have:=M.pb (k:=0+1) (by omega) λi h1 h2 h3 j h4 h5=>by rw[show i=0 by omega];exact I.hf j h5
  rw[<- j6 b0] at this;exact this
 refine wpS_bind (wpS_lift (wpAny_rule ⟨rfl,?_⟩));refine wpS_bind (aR (at_ b0) (az (λc1=>?_) λc1=>az (λc2=>?_) λc2=>wpS_bind (wpS_get ?_)));exact wpS_pure (hq _ _ (M0.fin (.inr (by simp at c1;omega))) s0);exact wpS_pure (hq _ _ (M0.last (by simpa using c2) I.hl) s0);have c1:1<b.size:=by simp at c1;omega
 have c2:0+1<a.size:=by simp at c2;omega
 refine wpS_bind (gX (OK lt a b) (λx=>JL lt a b x) (λ_ _ _=>False) s0 ⟨M0,c2,c1,nL _⟩ ?_ (λo i j J=>?_) (λr d st' hs hr=>wpS_pure (hq r st' hr hs)) λ_ _ _ _ _ _ h=>h.elim)
 rotate_left
 have h1:=J.h1;have h2:=J.h2;have h3:=J.h3;omega;clear c1 c2 M0 s0 a0 b0;intro x out ia ib mg dD hx hs J;refine wpS_bind (gX (OK lt a b) (λy=>JL lt a b (x+y)) (JL lt a b (x+1)) hs J ?_ (λo i j J=>?_) (λr d st' hs hr=>wpS_pure (Dd.dn hs hr)) ?_)
 . clear J hs;intro y out ia ib t dD hy hs J;have M:=J.M;have h1:=J.h1;have h2:=J.h2;have h3:=J.h3;dsimp only;refine wpS_bind (aR (at_ h2) (wpS_bind (aR (at_ (by omega)) (wpS_bind (C.lt (I.gb _ (cy h2)) (I.ga _ (cy (by omega))) (hs.k.trans hk) ?_)))));refine az (λhw=>wpS_bind (aR (at_ h2) ?_)) λhw=>wpS_bind (aR (at_ (by omega)) ?_)
   . have M1:=M.pb (k:=ib+1) (by omega) λi h4 h5 h6 j h7 h8=>by rw[show i=ib by omega];exact C.od.le (C.od.as hw) (j5 C.od I.sa h7 h8)
     rw[<- j6 h2] at M1;refine az (λz=>?_) λz=>az (λ_=>?_) λ_=>?_;exact wpS_pure (.dn hs (M1.fin (.inr (by simp at z;omega))))
     all_goals have z:ib+1<b.size:=by simp at z;omega
     exact wpS_pure (.ot hs ⟨M1,h1,z,by omega⟩);exact wpS_pure (.go hs ⟨M1,h1,z,by omega⟩)
   . have M1:=M.pa (k:=ia+1) (by omega) λi h4 h5 h6 j h7 h8=>by rw[show i=ia by omega];exact C.od.le (by simpa using hw) (j5 C.od I.sb h7 h8)
     rw[<- j6 (show ia<a.size by omega)] at M1;refine az (λz=>?_) λz=>az (λ_=>?_) λ_=>?_;exact wpS_pure (.dn hs (M1.last (by simpa using z) I.hl))
     all_goals have z:ia+1+1<a.size:=by simp at z;omega
     exact wpS_pure (.ot hs ⟨M1,z,h2,by omega⟩);exact wpS_pure (.go hs ⟨M1,z,h2,by omega⟩)
 have h1:=J.h1;have h2:=J.h2;have h3:=J.h3;omega;clear J hs;intro out ia ib t dD hs J;refine wpS_bind (wpS_lift (wpAny_rule ⟨rfl,?_⟩));refine wpS_bind (gX (OK lt a b) (λy=>JL lt a b (x+1+y)) (JL lt a b (x+1)) hs J ?_ (λo i j J=>?_) (λr d st' hs hr=>wpS_pure (Dd.dn hs hr)) λo i j t st' hs J=>wpS_bind (wpS_modify (wpS_pure (.go hs.of J))))
 rotate_left
 have h1:=J.h1;have h2:=J.h2;have h3:=J.h3;omega;clear J hs;intro y out ia ib t dD hy hs J;have h1:=J.h1;have h2:=J.h2;have h3:=J.h3;have Rq:∀{Q':Option Nat->SortSt->Prop}{dD:SortSt},Sm st dD->(∀k≤a.size-ia,(∀i,ia<=i->i<ia+k->lt (X b ib) (X a i)=false)->(∀i,ia+k<=i->i<a.size->lt (X b ib) (X a i)=true)->Q' (some k) dD)->wpS (model prog w) A E s (jj false (X b ib) a ia (a.size-ia) 0) Q' dD:=λ{Q' dD} hs h=>by refine c7 C (hs.k.trans hk) (I.gb _ (cy h2)) (by omega) (λi=>!lt (X b ib) (X a (ia+i))) (λi hi=>⟨_,at_ (by omega),I.ga _ (cy (by omega)),rfl⟩) (λi j xr hj hb=>?_) λk hk h4 h5=>h k hk (λi h6 h7=>?_) λi h6 h7=>?_;have:=j5 C.od I.sa (show ia+i<=ia+j by omega) (by omega);simp only[Bool.not_eq_true'] at hb ⊢;exact C.od.le this hb;have:=h4 (i-ia) (by omega);rw[show ia+(i-ia)=i by omega] at this;simpa using this;have:=h5 (i-ia) (by omega) (by omega);rw[show ia+(i-ia)=i by omega] at this;simpa using this
 have De:∀{Q':Option Nat->SortSt->Prop}{dD:SortSt}{ia ib:Nat},Sm st dD->ia<a.size->ib<b.size->(∀k≤b.size-ib,(∀i,ib<=i->i<ib+k->lt (X b i) (X a ia)=true)->(∀i,ib+k<=i->i<b.size->lt (X b i) (X a ia)=false)->Q' (some k) dD)->wpS (model prog w) A E s (jj true (X a ia) b ib (b.size-ib) 0) Q' dD:=λ{Q' dD ia ib} hs h1 h2 h=>by
  refine c7 C (hs.k.trans hk) (I.ga _ (cy h1)) (by omega) (λi=>lt (X b (ib+i)) (X a ia)) (λi hi=>⟨_,at_ (by omega),I.gb _ (cy (by omega)),rfl⟩) (λi j xr hj hb=>?_) λk hk h4 h5=>h k hk (λi h6 h7=>?_) λi h6 h7=>?_;have:=j5 C.od I.sb (show ib+i<=ib+j by omega) (by omega);rcases C.od.nt (X b (ib+i)) hb with z|z
  rw[this] at z;cases z;exact z;have:=h4 (i-ib) (by omega)
  rwa [show ib+(i-ib)=i by omega] at this
  have:=h5 (i-ib) (by omega) (by omega)
  rwa [show ib+(i-ib)=i by omega] at this
 dsimp -zeta -zetaHave -zetaUnused only
 extract_lets -underBinder -merge +onlyGivenNames s0 o s1 i s2 j s3 m s4 p q jp
 subst s0 o s1 i s2 j s3 m s4 p q;refine ya jp (λ_ mg=>?_) λhj=>?_
 rotate_left
 clear_value jp
 exact az (λ_=>hj _ _) λ_=>hj _ _;refine wpS_bind (wpS_modify (wpS_bind (aR (at_ h2) (wpS_bind (Rq hs.of λk vK h4 h5=>?_)))));clear jp;dsimp -zeta -zetaHave -zetaUnused only
 extract_lets -underBinder -merge +onlyGivenNames ac jp
 refine jk jp (λo i=>JL lt a b (x+1+y) o i ib/\∀j,i<=j->j<a.size->lt (X a j) (X b ib)=false) ?_ λhj=>?_
 rotate_left
 clear_value jp
 have M1:=J.M.pa (k:=ia+k) (by omega) λi h6 h7 h8 j h9 Dg=>C.od.le (h4 i h6 h7) (j5 C.od I.sb h9 Dg);have F:∀j,ia+k<=j->j<a.size->lt (X a j) (X b ib)=false:=λj h6 h7=>C.od.as (h5 j h6 h7);refine az (λzk=>az (λz1=>?_) λz1=>az (λz2=>?_) λz2=>hj _ _ _ ⟨⟨M1,by simp at z1 z2;omega,h2,by omega⟩,F⟩) λzk=>hj _ _ _ ⟨J,λj h6 h7=>F j (by omega) h7⟩;exact wpS_pure (.dn hs.of (M1.last (by simpa using z1) I.hl));exact wpS_pure (.dn hs.of (M1.fin (.inl (by simp at z2;omega))));clear h1 h3 h4 h5 vK J Rq;intro _ out ia J;have h1:=J.1.h1;have h3:=J.1.h3;have M2:=J.1.M.pb (k:=ib+1) (by omega) λi h6 h7 h8 j h9 Dg=>by rw[show i=ib by omega];exact J.2 j h9 Dg
 rw[<- j6 h2] at M2;refine wpS_bind (aR (at_ h2) (az (λz=>?_) λz=>?_));exact wpS_pure (.dn hs.of (M2.fin (.inr (by simp at z;omega))));clear jp
 clear_value ac
 have z:ib+1<b.size:=by simp at z;omega
 refine wpS_bind (aR (at_ (by omega)) (wpS_bind (De hs.of (by omega) z λk vK h4 h5=>?_)));dsimp -zeta -zetaHave -zetaUnused only
 extract_lets -underBinder -merge +onlyGivenNames bc jp
 refine jk jp (λo i=>JL lt a b (x+1+y+1) o ia i/\∀j,i<=j->j<b.size->lt (X b j) (X a ia)=false) ?_ λhj=>?_
 rotate_left
 clear_value jp
 have M3:=M2.pb (k:=ib+1+k) (by omega) λi h6 h7 h8 j h9 Dg=>C.od.le (C.od.as (h4 i h6 h7)) (j5 C.od I.sa h9 Dg);refine az (λzk=>az (λz1=>?_) λz1=>hj _ _ _ ⟨⟨M3,h1,by simp at z1;omega,by omega⟩,h5⟩) λzk=>hj _ _ _ ⟨⟨M2,h1,z,by omega⟩,λj h6 h7=>h5 j (by omega) h7⟩;exact wpS_pure (.dn hs.of (M3.fin (.inr (by simp at z1;omega))));clear h1 h2 h3 h4 h5 vK M2 De z J;intro _ out ib J;have h1:=J.1.h1;have h2:=J.1.h2;have h3:=J.1.h3;have M4:=J.1.M.pa (k:=ia+1) (by omega) λi h6 h7 h8 j h9 Dg=>by rw[show i=ia by omega];exact J.2 j h9 Dg
 rw[<- j6 (show ia<a.size by omega)] at M4;refine wpS_bind (aR (at_ (by omega)) (az (λz=>?_) λz=>az (λ_=>?_) λ_=>?_));exact wpS_pure (.dn hs.of (M4.last (by simpa using z) I.hl))
 all_goals have z:ia+1+1<a.size:=by simp at z;omega
 exact wpS_pure (.ot hs.of ⟨M4,z,h2,by omega⟩);exact wpS_pure (.go hs.of ⟨M4,z,h2,by omega⟩)
variable{κ:SortKind}{lt:Kd->Kd->Bool}{G:Kd->Prop}
theorem j7{a:Array Kd}{x:Kd}(h:x∈(a.toList.take n).reverse):∃j,j<n/\j<a.size/\x=X a j:=by
 obtain⟨j,hj,e⟩:=Ol.mp (List.mem_reverse.mp h);have oS:j<a.size/\j<n:=by simp at hj;omega
 refine⟨j,oS.2,oS.1,?_⟩;unfold X;rw[getElem?_pos a _ oS.1,<- e];simp
theorem tE{a:Array Kd}(h:k<=n):(a.toList.take n).reverse=(a.extract k n).reverse.toList++(a.toList.take k).reverse:=by
 rw[Array.toList_reverse,SA,List.extract_eq_drop_take,<- List.reverse_append]
 congr 1
 rw[show n=k+(n-k) by omega,List.take_add,show k+(n-k)-k=n-k by omega]
abbrev MH(lt:Kd->Kd->Bool)(a b out:Array Kd)(na nb:Nat):Prop:=Mg (λx y=>lt x y=false) (a.toList++b.toList) out.toList (a.toList.take na).reverse (b.toList.take nb).reverse
section
variable{a b:Array Kd}
theorem MH.pa{out:Array Kd}{na nb:Nat}(M:MH lt a b out na nb)(h:k<=na)(hx:∀i,k<=i->i<na->i<a.size->∀j,j<nb->j<b.size->lt (X a i) (X b j)=false):MH lt a b (out++(a.extract k na).reverse) k nb:=by
 have M':Mg (λx y=>lt x y=false) (a.toList++b.toList) out.toList ((a.extract k na).reverse.toList++(a.toList.take k).reverse) (b.toList.take nb).reverse:=by rw[<- tE h];exact M
 have:=M'.a λu hu v hv=>by rw[Array.toList_reverse] at hu;obtain⟨i,h1,h2,h3,rfl⟩:=gK (List.mem_reverse.mp hu);obtain⟨j,h4,h5,rfl⟩:=j7 hv;exact hx i h1 h2 h3 j h4 h5
 unfold MH;rw[Eu];exact this
theorem MH.pb{out:Array Kd}{na nb:Nat}(M:MH lt a b out na nb)(h:k<=nb)(hx:∀i,k<=i->i<nb->i<b.size->∀j,j<na->j<a.size->lt (X b i) (X a j)=false):MH lt a b (out++(b.extract k nb).reverse) na k:=by
 have M':Mg (λx y=>lt x y=false) (a.toList++b.toList) out.toList (a.toList.take na).reverse ((b.extract k nb).reverse.toList++(b.toList.take k).reverse):=by rw[<- tE h];exact M
 have:=M'.b λu hu v hv=>by rw[Array.toList_reverse] at hu;obtain⟨i,h1,h2,h3,rfl⟩:=gK (List.mem_reverse.mp hu);obtain⟨j,h4,h5,rfl⟩:=j7 hv;exact hx i h1 h2 h3 j h4 h5
 unfold MH;rw[Eu];exact this
theorem jl{out a:Array Kd}(h:i-1<a.size)(h0:0<i):out.push (X a (i-1))=out++(a.extract (i-1) i).reverse:=by
 have:=j6 (out:=#[]) h;rw[show i-1+1=i by omega] at this;have e:a.extract (i-1) i=#[X a (i-1)]:=by rw[Array.empty_append] at this;rw[<- this];rfl
 rw[e];rfl
theorem yb{l r:List Kd}{U:List Kd}(h:l.Perm U/\l.Pairwise λx y=>lt x y=false)(e:r=l.reverse):r.Perm U/\r.Pairwise (RR lt):=by subst e;exact⟨(List.reverse_perm l).trans h.1,List.pairwise_reverse.mpr h.2⟩
theorem MH.fin{out:Array Kd}{na nb:Nat}(M:MH lt a b out na nb)(h:na=0\/nb=0):OK lt a b (a.extract 0 na++b.extract 0 nb++out.reverse):=by refine yb (Mg.fin (Mg.swap M) λu hu v hv=>?_) ?_;obtain⟨i,h1,_⟩:=j7 hu;obtain⟨j,h3,_⟩:=j7 hv;omega;simp[List.extract_eq_drop_take]
theorem MH.last{out:Array Kd}{na nb:Nat}(M:MH lt a b out na nb)(e:nb=1)(hl:∀j,j<a.size->lt (X a j) (X b 0)=false):OK lt a b (b.extract 0 nb++a.extract 0 na++out.reverse):=by refine yb (Mg.fin M λu hu v hv=>?_) ?_;obtain⟨i,h1,h2,rfl⟩:=j7 hu;obtain⟨j,h3,h4,rfl⟩:=j7 hv;rw[show j=0 by omega];exact hl i h2;simp[List.extract_eq_drop_take]
end
structure JH(lt:Kd->Kd->Bool)(a b:Array Kd)(c:Nat)(na nb:Nat)(o:Array Kd):Prop where
 M:MH lt a b o na nb
 h1:0<na
 wt:na<a.size
 h2:1<nb
 Aa:nb<=b.size
 h3:c+na+nb<a.size+b.size
theorem Ms(C:Cp prog w A E s κ lt G){a b:Array Kd}{st:SortSt}{Q:Array Kd->SortSt->Prop}(hk:kindOf st=κ)(I:In lt G a b)(hq:∀out st',OK lt a b out->Sm st st'->Q out st'):wpS (model prog w) A E s (C_ a b) Q st:=by
 have a0:=I.a0;have b0:=I.b0;have s0:Sm st st:=⟨rfl,rfl,rfl,rfl⟩;have M0:MH lt a b #[X a (a.size-1)] (a.size-1) b.size:=by
  have M:MH lt a b #[] a.size b.size:=by have e1:a.toList.take a.size=a.toList:=Su (by simp);have e2:b.toList.take b.size=b.toList:=Su (by simp);unfold MH;rw[e1,e2];refine⟨?_,by simp,List.pairwise_reverse.mpr I.sa,List.pairwise_reverse.mpr I.sb,by simp,by simp⟩;simpa using (List.reverse_perm a.toList).append (List.reverse_perm b.toList)
  have:=M.pa (k:=a.size-1) (by omega) λi h1 h2 h3 j h4 h5=>by rw[show i=a.size-1 by omega];exact I.hl j h5
  rw[<- jl (by omega) a0] at this;exact this
 refine wpS_bind (wpS_lift (wpAny_rule ⟨rfl,?_⟩));refine wpS_bind (aR (at_ (show a.size-1<a.size by omega)) (az (λc1=>?_) λc1=>az (λc2=>?_) λc2=>wpS_bind (wpS_get ?_)));exact wpS_pure (hq _ _ (M0.fin (.inl (by simpa using c1))) s0);exact wpS_pure (hq _ _ (M0.last (by simpa using c2) I.hf) s0);have c1:0<a.size-1:=by simp at c1;omega
 have c2:1<b.size:=by simp at c2;omega
 refine wpS_bind (gX (OK lt a b) (λx=>JH lt a b x) (λ_ _ _=>False) s0 ⟨M0,c1,by omega,c2,by omega,by omega⟩ ?_ (λi j o J=>?_) (λr d st' hs hr=>wpS_pure (hq r st' hr hs)) λ_ _ _ _ _ _ h=>h.elim)
 rotate_left
 have h3:=J.h3;omega;clear c1 c2 M0 s0 a0 b0;intro x na nb out mg dD hx hs J;refine wpS_bind (gX (OK lt a b) (λy=>JH lt a b (x+y)) (JH lt a b (x+1)) hs J ?_ (λi j o J=>?_) (λr d st' hs hr=>wpS_pure (Dd.dn hs hr)) ?_)
 . clear J hs;intro y na nb out t dD hy hs J;have M:=J.M;have h1:=J.h1;have wt:=J.wt;have h2:=J.h2;have Aa:=J.Aa;have h3:=J.h3;dsimp only;refine wpS_bind (aR (at_ (by omega)) (wpS_bind (aR (at_ (by omega)) (wpS_bind (C.lt (I.gb _ (cy (by omega))) (I.ga _ (cy (by omega))) (hs.k.trans hk) ?_)))));refine az (λhw=>wpS_bind (aR (at_ (by omega)) ?_)) λhw=>wpS_bind (aR (at_ (by omega)) ?_)
   . have M1:=M.pa (k:=na-1) (by omega) λi h4 h5 h6 j h7 h8=>by rw[show i=na-1 by omega];exact C.od.le (j5 C.od I.sb (show j<=nb-1 by omega) (by omega)) (C.od.as hw)
     rw[<- jl (by omega) h1] at M1;refine az (λz=>?_) λz=>az (λ_=>?_) λ_=>?_;exact wpS_pure (.dn hs (M1.fin (.inl (by simpa using z))))
     all_goals have z:0<na-1:=by simp at z;omega
     exact wpS_pure (.ot hs ⟨M1,z,by omega,h2,Aa,by omega⟩);exact wpS_pure (.go hs ⟨M1,z,by omega,h2,Aa,by omega⟩)
   . have M1:=M.pb (k:=nb-1) (by omega) λi h4 h5 h6 j h7 h8=>by rw[show i=nb-1 by omega];exact C.od.le (j5 C.od I.sa (show j<=na-1 by omega) (by omega)) (by simpa using hw)
     rw[<- jl (by omega) (by omega)] at M1;refine az (λz=>?_) λz=>az (λ_=>?_) λ_=>?_;exact wpS_pure (.dn hs (M1.last (by simpa using z) I.hf))
     all_goals have z:1<nb-1:=by simp at z;omega
     exact wpS_pure (.ot hs ⟨M1,h1,wt,z,by omega,by omega⟩);exact wpS_pure (.go hs ⟨M1,h1,wt,z,by omega,by omega⟩)
 have h3:=J.h3;omega;clear J hs;intro na nb out t dD hs J;refine wpS_bind (wpS_lift (wpAny_rule ⟨rfl,?_⟩));refine wpS_bind (gX (OK lt a b) (λy=>JH lt a b (x+1+y)) (JH lt a b (x+1)) hs J ?_ (λi j o J=>?_) (λr d st' hs hr=>wpS_pure (Dd.dn hs hr)) λo i j t st' hs J=>wpS_bind (wpS_modify (wpS_pure (.go hs.of J))))
 rotate_left
 have h3:=J.h3;omega;clear J hs;intro y na nb out t dD hy hs J;have h1:=J.h1;have wt:=J.wt;have h2:=J.h2;have Aa:=J.Aa;have h3:=J.h3;have Rq:∀{Q':Option Nat->SortSt->Prop}{dD:SortSt},Sm st dD->(∀k≤na,(∀i,i<k->lt (X b (nb-1)) (X a i)=false)->(∀i,k<=i->i<na->lt (X b (nb-1)) (X a i)=true)->Q' (some k) dD)->wpS (model prog w) A E s (jj false (X b (nb-1)) a 0 na (na-1)) Q' dD:=λ{Q' dD} hs h=>by refine c7 C (hs.k.trans hk) (I.gb _ (cy (by omega))) (by omega) (λi=>!lt (X b (nb-1)) (X a i)) (λi hi=>⟨_,by rw[Nat.zero_add];exact at_ (by omega),I.ga _ (cy (by omega)),rfl⟩) (λi j xr hj hb=>?_) λk hk h4 h5=>h k hk (λi h6=>?_) λi h6 h7=>?_;simp only[Bool.not_eq_true'] at hb ⊢;exact C.od.le (j5 C.od I.sa xr (by omega)) hb;simpa using h4 i h6;simpa using h5 i h6 h7
 have De:∀{Q':Option Nat->SortSt->Prop}{dD:SortSt}{na nb:Nat},Sm st dD->0<na->na<=a.size->0<nb->nb<=b.size->(∀k≤nb,(∀i,i<k->lt (X b i) (X a (na-1))=true)->(∀i,k<=i->i<nb->lt (X b i) (X a (na-1))=false)->Q' (some k) dD)->wpS (model prog w) A E s (jj true (X a (na-1)) b 0 nb (nb-1)) Q' dD:=λ{Q' dD na nb} hs h1 wt h2 Aa h=>by
  refine c7 C (hs.k.trans hk) (I.ga _ (cy (by omega))) (by omega) (λi=>lt (X b i) (X a (na-1))) (λi hi=>⟨_,by rw[Nat.zero_add];exact at_ (by omega),I.gb _ (cy (by omega)),rfl⟩) (λi j xr hj hb=>?_) h;rcases C.od.nt (X b i) hb with z|z
  rw[j5 C.od I.sb xr (by omega)] at z;cases z;exact z
 dsimp -zeta -zetaHave -zetaUnused only
 extract_lets -underBinder -merge +onlyGivenNames s0 o s1 i s2 j s3 m s4 p q jp
 subst s0 o s1 i s2 j s3 m s4 p q;refine ya jp (λ_ mg=>?_) λhj=>?_
 rotate_left
 clear_value jp
 exact az (λ_=>hj _ _) λ_=>hj _ _;refine wpS_bind (wpS_modify (wpS_bind (aR (at_ (by show nb-1<b.size;omega)) (wpS_bind (Rq hs.of λk vK h4 h5=>?_)))));clear jp;dsimp -zeta -zetaHave -zetaUnused only
 extract_lets -underBinder -merge +onlyGivenNames kk ac jp
 refine jk jp (λi o=>JH lt a b (x+1+y) i nb o/\∀j,j<i->lt (X b (nb-1)) (X a j)=false) ?_ λhj=>?_
 rotate_left
 clear_value jp
 subst kk;have M1:=J.M.pa (k:=k) (by omega) λi h6 h7 h8 j h9 Dg=>C.od.le (j5 C.od I.sb (show j<=nb-1 by omega) (by omega)) (C.od.as (h5 i h6 h7));refine az (λzk=>az (λz1=>?_) λz1=>hj _ _ _ ⟨⟨M1,by simp at z1;omega,by omega,h2,Aa,by omega⟩,h4⟩) λzk=>hj _ _ _ ⟨J,λj h6=>h4 j (by omega)⟩;exact wpS_pure (.dn hs.of (M1.fin (.inl (by simpa using z1))));clear h1 wt h3 h4 h5 vK J Rq;intro _ na out J;have h1:=J.1.h1;have wt:=J.1.wt;have h3:=J.1.h3;have M2:=J.1.M.pb (k:=nb-1) (by omega) λi h6 h7 h8 j h9 Dg=>by rw[show i=nb-1 by omega];exact J.2 j h9
 rw[<- jl (by omega) (by omega)] at M2;refine wpS_bind (aR (at_ (by show nb-1<b.size;omega)) (az (λz=>?_) λz=>?_));exact wpS_pure (.dn hs.of (M2.last (by simpa using z) I.hf));clear jp
 clear_value ac
 have z:1<nb-1:=by simp at z;omega
 refine wpS_bind (aR (at_ (by show na-1<a.size;omega)) (wpS_bind (De hs.of h1 (by omega) (by omega) (by omega) λk vK h4 h5=>?_)));dsimp -zeta -zetaHave -zetaUnused only
 extract_lets -underBinder -merge +onlyGivenNames kk bc jp
 refine jk jp (λj o=>JH lt a b (x+1+y+1) na j o/\∀i,i<j->lt (X b i) (X a (na-1))=true) ?_ λhj=>?_
 rotate_left
 clear_value jp
 subst kk;have M3:=M2.pb (k:=k) (by omega) λi h6 h7 h8 j h9 Dg=>C.od.le (j5 C.od I.sa (show j<=na-1 by omega) (by omega)) (h5 i h6 h7);refine az (λzk=>az (λz1=>?_) λz1=>az (λz2=>?_) λz2=>hj _ _ _ ⟨⟨M3,h1,wt,by simp at z1 z2;omega,by omega,by omega⟩,h4⟩) λzk=>hj _ _ _ ⟨⟨M2,h1,wt,z,by omega,by omega⟩,λi h6=>h4 i (by omega)⟩;exact wpS_pure (.dn hs.of (M3.last (by simpa using z1) I.hf));exact wpS_pure (.dn hs.of (M3.fin (.inr (by simpa using z2))));clear h1 wt h2 Aa h3 h4 h5 vK M2 De z J;intro _ nb out J;have h1:=J.1.h1;have wt:=J.1.wt;have h2:=J.1.h2;have Aa:=J.1.Aa;have h3:=J.1.h3;have M4:=J.1.M.pa (k:=na-1) (by omega) λi h6 h7 h8 j h9 Dg=>by rw[show i=na-1 by omega];exact C.od.as (J.2 j h9)
 rw[<- jl (by omega) h1] at M4;refine wpS_bind (aR (at_ (by show na-1<a.size;omega)) (az (λz=>?_) λz=>az (λ_=>?_) λ_=>?_));exact wpS_pure (.dn hs.of (M4.fin (.inl (by simpa using z))))
 all_goals have z:0<na-1:=by simp at z;omega
 exact wpS_pure (.ot hs.of ⟨M4,z,by omega,h2,Aa,by omega⟩);exact wpS_pure (.go hs.of ⟨M4,z,by omega,h2,Aa,by omega⟩)
variable{κ:SortKind}{lt:Kd->Kd->Bool}{G:Kd->Prop}
def Sg(lt:Kd->Kd->Bool)(xs:Array Kd)(lo hi:Nat):Prop:=∀i j,lo<=i->i<=j->j<hi->lt (X xs j) (X xs i)=false
def Ng(lt:Kd->Kd->Bool)(xs:Array Kd)(lo hi:Nat):Prop:=∀i j,lo<=i->i<=j->j<hi->lt (X xs i) (X xs j)=false
def Ev(lt:Kd->Kd->Bool)(xs:Array Kd)(lo hi:Nat):Prop:=∀i j,lo<=i->i<hi->lo<=j->j<hi->lt (X xs i) (X xs j)=false
theorem gY{xs ys:Array Kd}(h:xs[i]?=ys[j]?):X xs i=X ys j:=by unfold X;rw[h]
theorem t8{xs:Array Kd}(hj:j<=xs.size)(k:Nat):X (mirror xs i j ((j-i) / 2)) k=if i<=k/\k<j then X xs (i+j-1-k) else X xs k:=by have e:=getElem?_mirror_all (i:=i) hj k;by_cases h1:i<=k/\k<j;rw[if_pos h1] at e ⊢;exact gY e;rw[if_neg h1] at e ⊢;exact gY e
theorem Dh{xs:Array Kd}{src d:Nat}(hs:src<xs.size)(hd:d<=src)(k:Nat):X (bubble xs src d) k=if k=src-d then X xs src else if src-d<k/\k<=src then X xs (k-1) else X xs k:=by have e:=getElem?_bubble hs d hd k;by_cases h1:k=src-d;rw[if_pos h1] at e ⊢;exact gY e;rw[if_neg h1] at e ⊢;by_cases h2:src-d<k/\k<=src;rw[if_pos h2] at e ⊢;exact gY e;rw[if_neg h2] at e ⊢;exact gY e
theorem Ng.Jr{xs:Array Kd}{hi:Nat}(h:Ng lt xs lo hi)(h1:lo<=i)(h2:j<=hi)(h3:hi<=xs.size)(e:Ev lt xs i j):Ng lt (mirror xs i j ((j-i) / 2)) lo hi:=λp q hp XG hq=>by
 rw[t8 (by omega),t8 (by omega)]
 repeat' split
 exact e _ _ (by omega) (by omega) (by omega) (by omega);exact h _ _ (by omega) (by omega) (by omega);exact h _ _ (by omega) (by omega) (by omega);exact h _ _ hp XG hq
theorem Ng.rev{xs:Array Kd}(h:Ng lt xs lo (lo+n))(h3:lo+n<=xs.size):Sg lt (mirror xs lo (lo+n) ((lo+n-lo) / 2)) lo (lo+n):=λp q hp XG hq=>by rw[t8 h3,t8 h3,if_pos (by omega),if_pos (by omega)];exact h _ _ (by omega) (by omega) (by omega)
structure Kp(lo:Nat)(st st':SortSt):Prop where
 k:kindOf st'=kindOf st
 p:pendingOf st'=pendingOf st
 f:failedOf st'=failedOf st
 m:(arrOf st').Perm (arrOf st)
 l:∀i<lo,X (arrOf st') i=X (arrOf st) i
theorem Kp.refl(st:SortSt):Kp lo st st:=⟨rfl,rfl,rfl,.refl _,λ_ _=>rfl⟩
theorem Kp.trans{a b c:SortSt}(h:Kp lo a b)(g:Kp lo b c):Kp lo a c:=⟨g.k.trans h.k,g.p.trans h.p,g.f.trans h.f,g.m.trans h.m,λi hi=>(g.l i hi).trans (h.l i hi)⟩
theorem Kp.Jr{st:SortSt}(h1:lo<=i)(h2:j<=(arrOf st).size):Kp lo st (setArr st (mirror (arrOf st) i j ((j-i) / 2))):=⟨rfl,rfl,rfl,mirror_perm _ _ _ _,λk hk=>by show X (mirror _ _ _ _) k=_;rw[t8 h2,if_neg (by omega)]⟩
structure Gd(κ:SortKind)(G:Kd->Prop)(st:SortSt):Prop where
 k:kindOf st=κ
 g:∀x∈(arrOf st).toList,G x
theorem Kp.gd{st st':SortSt}(h:Kp lo st st')(g:Gd κ G st):Gd κ G st':=⟨h.k.trans g.k,λx hx=>g.g x ((Oh.mp h.m).mem_iff.mp hx)⟩
theorem mY(C:Cp prog w A E s κ lt G){st:SortSt}{Q:Option Bool->SortSt->Prop}(g:Gd κ G st)(hi:i<(arrOf st).size)(hj:j<(arrOf st).size)(h:Q (some (lt (X (arrOf st) i) (X (arrOf st) j))) st):wpS (model prog w) A E s (ltAt' i j) Q st:=by rw[ltAt'_eq];exact wpS_bind (wpS_get (wpS_bind (aR (at_ hi) (wpS_bind (aR (at_ hj) (C.lt (g.g _ (cy hi)) (g.g _ (cy hj)) g.k h))))))
theorem jm{st:SortSt}{Q:Unit->SortSt->Prop}(h:Q () (setArr st (mirror (arrOf st) i j ((j-i) / 2)))):wpS (model prog w) A E s (reverseSlice' i j) Q st:=by rw[reverseSlice'_eq];exact wpS_modify h
theorem yc(C:Cp prog w A E s κ lt G){st:SortSt}{a gf:Nat}{Q:Option (Option Nat)×Nat->SortSt->Prop}(g:Gd κ G st)(hn:lo+gf<=(arrOf st).size)(ha:1<=a)(ZV:a<=gf)(hs:Sg lt (arrOf st) lo (lo+a))(h:∀n,a<=n->n<=gf->Sg lt (arrOf st) lo (lo+n)->(n=gf\/lt (X (arrOf st) (lo+n)) (X (arrOf st) (lo+n-1))=true)->Q (none,n) st) :
  wpS (model prog w) A E s (forIn [a:gf] (none,a) λ_ c=>do
   match <- ltAt' (lo+c.2) (lo+c.2-1) with
   |some z=>if z=true then pure (.done (none,c.2)) else pure (.yield (none,c.2+1))
   |_=>pure (.done (some none,c.2))) Q st:=by
 refine wpS_forRange (I:=λx c st'=>st'=st/\c=(none,x)/\Sg lt (arrOf st) lo (lo+x)) ?_ ?_ ⟨rfl,rfl,hs⟩;rintro x c st' XH ZW ⟨rfl,rfl,r9⟩;dsimp only;refine wpS_bind (mY C g (by omega) (by omega) ?_);dsimp only;cases hc:lt (X (arrOf st') (lo+x)) (X (arrOf st') (lo+x-1)) with
 |true=>exact wpS_pure (h x XH (by omega) r9 (.inr hc))
 |false=>refine wpS_pure ⟨rfl,rfl,λi j h1 h2 h3=>?_⟩;by_cases z:j<lo+x;exact r9 i j h1 h2 z;rw[show j=lo+x by omega];by_cases z2:i=lo+x;rw[z2];exact C.od.AS _;exact C.od.le (r9 i (lo+x-1) h1 (by omega) (by omega)) hc
 rintro c st' ⟨rfl,rfl,r9⟩;rw[show max a gf=gf by omega] at r9 ⊢;exact h gf ZV (bG _) r9 (.inl rfl)
theorem Ab(C:Cp prog w A E s κ lt G){st:SortSt}{gf:Nat}{Q:Option Nat->SortSt->Prop}(g:Gd κ G st)(hn:lo+gf<=(arrOf st).size)(h1:1<=gf)(h:∀m st',Kp lo st st'->1<=m->m<=gf->Sg lt (arrOf st') lo (lo+m)->Q (some m) st'):wpS (model prog w) A E s (countRun' lo gf) Q st:=by
 refine wpS_bind (yc C g hn (bG 1) h1 (λi j h1 h2 h3=>by rw[show i=j by omega];exact C.od.AS _) λn XI OY TQ ZX=>?_);dsimp only;refine az (λz=>?_) λz=>?_;exact wpS_pure (h n st (Kp.refl _) XI OY TQ);have z:n≠gf:=by simpa using z
 have eJ:=ZX.resolve_left z;have hsz:lo+n<(arrOf st).size:=by omega
 have hN:(∀i,lo<=i->i<lo+n->lt (X (arrOf st) i) (X (arrOf st) (lo+n-1))=false)->Ng lt (arrOf st) lo (lo+n+1)/\Ev lt (arrOf st) lo (lo+n):=λhe=>by have ev:Ev lt (arrOf st) lo (lo+n):=λi j h1 h2 h3 h4=>C.od.le (TQ j (lo+n-1) h3 (by omega) (by omega)) (he i h1 h2);refine⟨λi j h1 h2 h3=>?_,ev⟩;by_cases z:j<lo+n;exact ev i j h1 (by omega) (by omega) z;rw[show j=lo+n by omega];by_cases z2:i=lo+n;rw[z2];exact C.od.AS _;exact C.od.le (C.od.as eJ) (ev i (lo+n-1) h1 (by omega) (by omega) (by omega))
 refine az (λz2=>wpS_bind (mY C g (by omega) (by omega) (az (λhc=>?_) λhc=>wpS_bind (jm ?_)))) λz2=>?_;exact wpS_pure (h n st (Kp.refl _) XI OY TQ)
 case' _=>
  obtain⟨ZY,EN⟩:=hN λi h1 h2=>C.od.le (by simpa using hc) (TQ lo i (bG _) h1 h2);have K1:Kp lo st (setArr st (mirror (arrOf st) lo (lo+n) ((lo+n-lo) / 2))):=Kp.Jr (j:=lo+n) (bG lo) (by omega);have N1:Ng lt (arrOf (setArr st (mirror (arrOf st) lo (lo+n) ((lo+n-lo) / 2)))) lo (lo+n+1):=ZY.Jr (bG _) (Io _) hsz EN;generalize setArr st (mirror (arrOf st) lo (lo+n) ((lo+n-lo) / 2))=dD at K1 N1 ⊢
 rotate_left
 case' _=>
  obtain⟨dD,e,K1,N1⟩:∃dD,dD=st/\Kp lo st dD/\Ng lt (arrOf dD) lo (lo+n+1):=⟨st,rfl,Kp.refl _,(hN λi h1 h2=>by rw[show i=lo+n-1 by omega];exact C.od.AS _).1⟩;rw[<- e]
 all_goals
  refine wpS_bind (wpS_lift (wpAny_rule ⟨rfl,?_⟩));refine wpS_bind (wpS_mono (wpS_forRange (I:=λx c st'=>∃yd,c=(none,x,yd)/\Kp lo st st'/\Ng lt (arrOf st') lo (lo+x)/\yd+1<=x/\Ev lt (arrOf st') (lo+x-(yd+1)) (lo+x))
   (Q:=λc st'=>∃m yd,c=(none,m,yd)/\1<=m/\m<=gf/\Kp lo st st'/\Ng lt (arrOf st') lo (lo+m)/\yd+1<=m/\Ev lt (arrOf st') (lo+m-(yd+1)) (lo+m)) ?_ ?_ ⟨0,rfl,K1,N1,by omega,λi j h1 h2 h3 h4=>by rw[show i=j by omega];exact C.od.AS _⟩) ?_)
  . rintro x c st' XH ZW ⟨yd,rfl,K2,N2,hq,ev⟩;dsimp only;have sz:(arrOf st').size=(arrOf st).size:=K2.m.size_eq;refine wpS_bind (mY C (K2.gd g) (by omega) (by omega) (az (λhc=>?_) λhc=>wpS_bind (mY C (K2.gd g) (by omega) (by omega) (az (λhd=>?_) λhd=>?_))))
    . have N3:Ng lt (arrOf st') lo (lo+x+1):=λi j h1 h2 h3=>by by_cases z:j<lo+x;exact N2 i j h1 h2 z;rw[show j=lo+x by omega];by_cases z2:i=lo+x;rw[z2];exact C.od.AS _;exact C.od.le (C.od.as hc) (N2 i (lo+x-1) h1 (by omega) (by omega))
      refine az (λ_=>wpS_bind (jm (wpS_pure ⟨0,rfl,K2.trans (Kp.Jr (by omega) (by omega)),N3.Jr (by omega) (by omega) (by omega) ev,by omega,λi j h1 h2 h3 h4=>?_⟩))) λ_=>wpS_pure ⟨0,rfl,K2,N3,by omega,λi j h1 h2 h3 h4=>?_⟩
      all_goals rw[show i=j by omega];exact C.od.AS _
    exact wpS_pure ⟨x,yd,rfl,by omega,by omega,K2,N2,hq,ev⟩;have hc:lt (X (arrOf st') (lo+x)) (X (arrOf st') (lo+x-1))=false:=by simpa using hc
    have hd:lt (X (arrOf st') (lo+x-1)) (X (arrOf st') (lo+x))=false:=by simpa using hd
    refine wpS_pure ⟨yd+1,rfl,K2,λi j h1 h2 h3=>?_,by omega,λi j h1 h2 h3 h4=>?_⟩;by_cases z:j<lo+x;exact N2 i j h1 h2 z;rw[show j=lo+x by omega];by_cases z2:i=lo+x;rw[z2];exact C.od.AS _;exact C.od.le hd (N2 i (lo+x-1) h1 (by omega) (by omega));by_cases z:i=lo+x;by_cases z2:j=lo+x;rw[z,z2];exact C.od.AS _;rw[z];exact C.od.le (ev (lo+x-1) j (by omega) (by omega) (by omega) (by omega)) hc;by_cases z2:j=lo+x;rw[z2];exact C.od.le hd (ev i (lo+x-1) (by omega) (by omega) (by omega) (by omega));exact ev i j (by omega) (by omega) (by omega) (by omega)
  rintro c st' ⟨yd,rfl,K2,N2,hq,ev⟩;rw[show max (n+1) gf=gf by omega] at N2 hq ev ⊢;exact⟨gf,yd,rfl,h1,bG _,K2,N2,hq,ev⟩;rintro c pW ⟨m,yd,rfl,G6,XJ,K2,N2,hq,ev⟩;dsimp only;have sz:(arrOf pW).size=(arrOf st).size:=K2.m.size_eq;have last:∀uQ,Kp lo st uQ->Ng lt (arrOf uQ) lo (lo+m)->Kp lo st (setArr uQ (mirror (arrOf uQ) lo (lo+m) ((lo+m-lo) / 2)))/\Sg lt (arrOf (setArr uQ (mirror (arrOf uQ) lo (lo+m) ((lo+m-lo) / 2)))) lo (lo+m):=λuQ K3 N3=>by have sz:(arrOf uQ).size=(arrOf st).size:=K3.m.size_eq;exact⟨K3.trans (Kp.Jr (bG _) (by omega)),N3.rev (by omega)⟩
  refine az (λ_=>wpS_bind (jm (wpS_bind (jm ?_)))) λ_=>wpS_bind (jm ?_)
  case' _=>obtain⟨K4,S4⟩:=last _ (K2.trans (Kp.Jr (i:=lo+m-(yd+1)) (j:=lo+m) (by omega) (by omega))) (N2.Jr (by omega) (by omega) (by omega) ev)
  rotate_left
  case' _=>obtain⟨K4,S4⟩:=last _ K2 N2
  all_goals
   refine wpS_bind (yc C (K4.gd g) (by rw[K4.m.size_eq];exact hn) G6 XJ S4 λk vK LD hs _=>?_);exact wpS_pure (h k _ K4 (by omega) LD hs)
variable{κ:SortKind}{lt:Kd->Kd->Bool}{G:Kd->Prop}
theorem Hf(C:Cp prog w A E s κ lt G){st:SortSt}{ok:Nat}{Q:Bool->SortSt->Prop}(g:Gd κ G st)(hn:lo+n<=(arrOf st).size)(ba:ok<=n)(hs:Sg lt (arrOf st) lo (lo+ok))(h:∀st',Kp lo st st'->Sg lt (arrOf st') lo (lo+n)->Q true st'):wpS (model prog w) A E s (binarySort' lo n ok) Q st:=by
 refine wpS_bind (wpS_mono (wpS_forRange (I:=λk c st'=>c=(none,())/\Kp lo st st'/\Sg lt (arrOf st') lo (lo+min k n))
  (Q:=λc st'=>c=(none,())/\Kp lo st st'/\Sg lt (arrOf st') lo (lo+n)) ?step ?fin ?init) ?post)
 case post=>
  rintro c st' ⟨rfl,K,r9⟩;exact wpS_pure (h st' K r9)
 case init=>
  refine⟨rfl,Kp.refl _,λi j h1 h2 h3=>?_⟩;by_cases z:ok=0;rw[show i=j by omega];exact C.od.AS _;exact hs i j h1 h2 (by omega)
 case fin=>
  rintro c st' ⟨hc,K,r9⟩;refine⟨hc,K,?_⟩
  rwa [show min (max (max ok 1) n) n=n by omega] at r9
 case step=>
  rintro k c st' hak xT ⟨rfl,K,r9⟩;rw[show min k n=k by omega] at r9;have sz:(arrOf st').size=(arrOf st).size:=K.m.size_eq;refine wpS_bind (wpS_mono (wpS_forRange (I:=λx c oy=>oy=st'/\∃l r,c=(none,l,r)/\l<=r/\r<=k/\r-l<=k-x /\
    (∀i,lo<=i->i<lo+l->lt (X (arrOf st') (lo+k)) (X (arrOf st') i)=false)/\(∀i,lo+r<=i->i<lo+k->lt (X (arrOf st') (lo+k)) (X (arrOf st') i)=true))
   (Q:=λc oy=>oy=st'/\∃l r,c=(none,l,r)/\l<=k /\
     (∀i,lo<=i->i<lo+l->lt (X (arrOf st') (lo+k)) (X (arrOf st') i)=false)/\(∀i,lo+l<=i->i<lo+k->lt (X (arrOf st') (lo+k)) (X (arrOf st') i)=true)) ?_ ?_ ⟨rfl,0,k,rfl,by omega,by omega,by omega,λi _ _=>by omega,λi _ _=>by omega⟩) ?_)
  rintro x c oy _ hxk ⟨rfl,l,r,rfl,ZZ,Z0,hm,EG,N_⟩;dsimp only;refine az (λz=>?_) λz=>wpS_bind (mY C (K.gd g) (by omega) (by omega) (az (λhc=>?_) λhc=>?_));exact wpS_pure ⟨rfl,l,r,rfl,by omega,EG,λi h1 h2=>N_ i (by omega) h2⟩;refine wpS_pure ⟨rfl,l,(l+r) / 2,rfl,by omega,by omega,by omega,EG,λi h1 h2=>?_⟩;rcases C.od.nt (X (arrOf oy) i) hc with z|z
  exact z;rw[r9 _ _ (by omega) h1 h2] at z;cases z;refine wpS_pure ⟨rfl,(l+r) / 2+1,r,rfl,by omega,by omega,by omega,λi h1 h2=>?_,N_⟩;exact C.od.le (r9 i (lo+(l+r) / 2) h1 (by omega) (by omega)) (by simpa using hc);rintro c oy ⟨rfl,l,r,rfl,ZZ,Z0,hm,EG,N_⟩;exact⟨rfl,l,r,rfl,by omega,EG,λi h1 h2=>N_ i (by omega) h2⟩;rintro c oy ⟨rfl,l,r,rfl,hlk,EG,N_⟩;refine wpS_bind (wpS_modify (wpS_pure ⟨rfl,K.trans ⟨rfl,rfl,rfl,bubble_perm _ _ _,λi hi=>?_⟩,?_⟩));show X (bubble (arrOf oy) (lo+k) (lo+k-(lo+l))) i=_;rw[Dh (by omega) (by omega),if_neg (by omega),if_neg (by omega)]
  . rw[show min (k+1) n=k+1 by omega];intro i j h1 h2 h3;show lt (X (bubble (arrOf oy) (lo+k) (lo+k-(lo+l))) j) (X (bubble (arrOf oy) (lo+k) (lo+k-(lo+l))) i)=false;rw[Dh (by omega) (by omega),Dh (by omega) (by omega),show lo+k-(lo+k-(lo+l))=lo+l by omega]
    repeat' split
    all_goals first
     | (exfalso;omega)
     |exact C.od.AS _
     |exact EG _ (by omega) (by omega)
     |exact C.od.as (N_ _ (by omega) (by omega))
     |exact r9 _ _ (by omega) (by omega) (by omega)
variable{κ:SortKind}{lt:Kd->Kd->Bool}{G:Kd->Prop}
noncomputable def putL(a:Array Kd)(sa:Nat)(l:List Kd)(c:Nat):Array Kd:=(l.zipIdx c).foldl (λa (x:Kd×Nat)=>match x with|(p,j)=>a.setIfInBounds (sa+j) p) a
theorem mZ:∀(l:List Kd)(a:Array Kd)(sa c:Nat),sa+c+l.length<=a.size->(putL a sa l c).toList=a.toList.take (sa+c)++(l++a.toList.drop (sa+c+l.length))
 |[],a,sa,c,_=>by simp[putL]
 |p::l,a,sa,c,h=>by
  rw[w5] at h;have hl:sa+c<a.toList.length:=by simp;omega
  show (putL (a.setIfInBounds (sa+c) p) sa l (c+1)).toList=_;rw[mZ l _ sa (c+1) (by simp;omega),Array.toList_setIfInBounds,List.set_eq_take_append_cons_drop,if_pos hl,show sa+(c+1)=sa+c+1 by omega,w5];have e1:(a.toList.take (sa+c)).length=sa+c:=by rw[JK];omega
  rw[List.take_append,List.drop_append,e1,show sa+c+1-(sa+c)=1 by omega,show sa+c+1+l.length-(sa+c)=l.length+1 by omega,List.drop_succ_cons,List.drop_drop,List.take_succ_cons,List.take_zero,Su (by omega),List.drop_of_length_le (l:=a.toList.take (sa+c)) (by omega),show sa+c+1+l.length=sa+c+(l.length+1) by omega];simp
noncomputable def put(a:Array Kd)(sa:Nat)(b:Array Kd):Array Kd:=putL a sa b.toList 0
theorem t9{a b:Array Kd}{sa:Nat}(h:sa+b.size<=a.size):(put a sa b).toList=a.toList.take sa++(b.toList++a.toList.drop (sa+b.size)):=mZ b.toList a sa 0 h
theorem m3(a:Array Kd)(i:Nat):X a i=a.toList[i]?.getD (.none,.none):=by unfold X;rw[EW]
theorem Di{a b:Array Kd}{sa:Nat}(h:sa+b.size<=a.size)(j:Nat):X (put a sa b) j=if sa<=j/\j<sa+b.size then X b (j-sa) else X a j:=by
 have e1:(a.toList.take sa).length=sa:=by rw[JK];simp;omega
 rw[m3,t9 h];by_cases z:j<sa;rw[if_neg (by omega),k7 (by omega),List.getElem?_take_of_lt z,<- m3];rw[pP (by omega),e1];by_cases z2:j<sa+b.size;rw[if_pos (by omega),k7 (by simp;omega),<- m3];rw[if_neg (by omega),pP (by simp;omega),List.getElem?_drop,m3]
 congr 2
 simp;omega
theorem Dj{a:Array Kd}{hi:Nat}(h:hi<=a.size)(IF:lo+i<hi):X (a.extract lo hi) i=X a (lo+i):=by refine gY ?_;rw[Array.getElem?_extract,if_pos (by omega)]
theorem Sg.ex{xs:Array Kd}{hi:Nat}(h:Sg lt xs lo hi)(hh:hi<=xs.size):(xs.extract lo hi).toList.Pairwise (RR lt):=by
 rw[List.pairwise_iff_getElem];intro i j IF oS xr;have hj:lo+j<hi:=by simp at oS;omega
 have e:∀k (hk:k<(xs.extract lo hi).toList.length),lo+k<hi->(xs.extract lo hi).toList[k]=X xs (lo+k):=λk hk h2=>by rw[<- Dj hh h2,m3,kj hk];rfl
 rw[e i IF (by omega),e j oS hj];exact h _ _ (by omega) (by omega) hj
theorem Hg(O:Od lt){xs m:Array Kd}{sa sb sc e:Nat}(h1:Sg lt xs sa sb)(h2:Sg lt xs sb sc)(hk:sa<=k)(Z1:k<=sb)(AH:sb<=e)(hec:e<=sc)(hsz:sc<=xs.size)(ha:∀i,sa<=i->i<k->sb<sc->lt (X xs sb) (X xs i)=false)(hb:∀i,e<=i->i<sc->sa<sb->lt (X xs i) (X xs (sb-1))=false)(hm:OK lt (xs.extract k sb) (xs.extract sb e) m):Sg lt (put xs k m) sa sc/\(put xs k m).Perm xs/\∀j,(j<sa\/sc<=j)->X (put xs k m) j=X xs j:=by
 have sm:m.size=e-k:=by have:=hm.1.length_eq;simp at this;omega
 have Ac:k+m.size<=xs.size:=by omega
 have mid:∀j,k<=j->j<e->∃j',k<=j'/\j'<e/\X m (j-k)=X xs j':=λj h1 h2=>by
  have:X m (j-k)∈(xs.extract k sb).toList++(xs.extract sb e).toList:=hm.1.mem_iff.mp (cy (by omega));rcases g7.mp this with z|z
  obtain⟨j',a1,a2,_,a3⟩:=gK z;exact⟨j',a1,by omega,a3⟩;obtain⟨j',a1,a2,_,a3⟩:=gK z;exact⟨j',by omega,a2,a3⟩
 have ab:∀i j,sa<=i->i<k->k<=j->j<sc->lt (X xs j) (X xs i)=false:=λi j a1 a2 a3 a4=>by by_cases z:j<sb;exact h1 i j a1 (by omega) z;exact O.le (ha i a1 a2 (by omega)) (h2 sb j (bG _) (by omega) a4)
 have bc:∀i j,sa<=i->i<e->e<=j->j<sc->lt (X xs j) (X xs i)=false:=λi j a1 a2 a3 a4=>by by_cases z:i<sb;exact O.le (h1 i (sb-1) a1 (by omega) (by omega)) (hb j a3 a4 (by omega));exact h2 i j (by omega) (by omega) a4
 refine⟨λi j a1 a2 a3=>?_,?_,λj hj=>by rw[Di Ac,if_neg (by omega)]⟩;rw[Di Ac,Di Ac];by_cases zi:k<=i/\i<k+m.size;rw[if_pos zi];by_cases zj:k<=j/\j<k+m.size;rw[if_pos zj];exact j5 O hm.2 (by omega) (by omega);rw[if_neg zj];obtain⟨i',b1,b2,b3⟩:=mid i zi.1 (by omega);rw[b3];exact bc i' j (by omega) b2 (by omega) a3;rw[if_neg zi];by_cases zj:k<=j/\j<k+m.size;rw[if_pos zj];obtain⟨j',b1,b2,b3⟩:=mid j zj.1 (by omega);rw[b3];exact ab i j' a1 (by omega) b1 (by omega);rw[if_neg zj];by_cases z1:i<k;by_cases z2:j<k;exact h1 i j a1 a2 (by omega);exact ab i j a1 z1 (by omega) a3;exact h2 i j (by omega) a2 a3;rw[Oh,t9 Ac];have e0:xs.toList=xs.toList.take k++(((xs.extract k sb).toList++(xs.extract sb e).toList)++xs.toList.drop e):=by rw[NK,<- dE AH,<- dE Z1,Sx]
 rw[show k+m.size=e by omega]
 conv=>rhs;rw[e0]
 exact List.Perm.append_left _ (List.Perm.append_right _ hm.1)
variable{κ:SortKind}{lt:Kd->Kd->Bool}{G:Kd->Prop}
theorem Hh{f:SortSt}{Q:PUnit->SortSt->Prop}{st:SortSt}(h:Q ⟨⟩ f):wpS (model prog w) A E s (set f:StateT SortSt Sem PUnit) Q st:=by unfold wpS;rw[StateT.run_set];exact wpAny_pure ⟨rfl,h⟩
theorem t_(C:Cp prog w A E s κ lt G){st:SortSt}{sa na pa sb nb pb:Nat}{Q:Bool->SortSt->Prop}(g:Gd κ G st)(e1:(pendingOf st)[i]?=some (sa,na,pa))(e2:(pendingOf st)[i+1]?=some (sb,nb,pb))(hab:sb=sa+na)(hsz:sb+nb<=(arrOf st).size)(Z2:0<na)(nb0:0<nb)(h1:Sg lt (arrOf st) sa sb)(h2:Sg lt (arrOf st) sb (sb+nb))(hf:failedOf st=none)(h:∀st',kindOf st'=kindOf st->failedOf st'=none->pendingOf st'=((pendingOf st).setIfInBounds i (sa,na+nb,pa)).eraseIdxIfInBounds (i+1)->(arrOf st').Perm (arrOf st)->Sg lt (arrOf st') sa (sb+nb)->(∀j,j<sa\/sb+nb<=j->X (arrOf st') j=X (arrOf st) j)->Q true st'):wpS (model prog w) A E s (mergeAt' i) Q st:=by
 refine wpS_bind (wpS_get ?_);rw[e1,e2];refine wpS_bind (Hh ?_);refine wpS_bind (aR (at_ (show sb<(arrOf st).size by omega)) ?_);refine wpS_bind (c7 C (arr:=arrOf st) (st:=setPending st _) g.k (g.g _ (cy (by omega))) Z2 (λi=>!lt (X (arrOf st) sb) (X (arrOf st) (sa+i))) (λi hi=>⟨_,at_ (by omega),g.g _ (cy (by omega)),rfl⟩) (λi j xr hj hb=>?_) λk hk h4 h5=>?_);simp only[Bool.not_eq_true'] at hb ⊢;exact C.od.le (h1 (sa+i) (sa+j) (by omega) (by omega) (by omega)) hb;dsimp only;refine az (λz=>?_) λz=>?_;refine wpS_pure (h _ rfl hf rfl (.refl _) (λp q a1 a2 a3=>?_) λ_ _=>rfl);have hk:k=na:=by simp at z;omega
 by_cases zq:q<sb;exact h1 p q a1 a2 zq;by_cases zp:p<sb;refine C.od.le (b:=X (arrOf st) sb) ?_ (h2 sb q (bG _) (by omega) a3);have:=h4 (p-sa) (by omega);rw[show sa+(p-sa)=p by omega] at this;simpa using this;exact h2 p q (by omega) a2 a3;have zk:k<na:=by simp at z;omega
 refine wpS_bind (aR (at_ (show sa+k+(na-k)-1<(arrOf st).size by omega)) ?_);refine wpS_bind (c7 C (arr:=arrOf st) (st:=setPending st _) g.k (g.g _ (cy (by omega))) (show nb-1<nb by omega) (λi=>lt (X (arrOf st) (sb+i)) (X (arrOf st) (sa+k+(na-k)-1))) (λi hi=>⟨_,at_ (by omega),g.g _ (cy (by omega)),rfl⟩) (λi j xr hj hb=>?_) λe he h6 h7=>?_);rcases C.od.nt (X (arrOf st) (sb+i)) hb with z|z
 rw[h2 (sb+i) (sb+j) (by omega) (by omega) (by omega)] at z;cases z;exact z;rw[show sa+k+(na-k)-1=sb-1 by omega] at h6 h7;dsimp only;refine az (λz=>?_) λz=>?_;refine wpS_pure (h _ rfl hf rfl (.refl _) (λp q a1 a2 a3=>?_) λ_ _=>rfl);have he0:e=0:=by simpa using z
 by_cases zq:q<sb;exact h1 p q a1 a2 zq;by_cases zp:p<sb;refine C.od.le (b:=X (arrOf st) (sb-1)) (h1 p (sb-1) a1 (by omega) (by omega)) ?_;have:=h7 (q-sb) (by omega) (by omega)
 rwa [show sb+(q-sb)=q by omega] at this
 exact h2 p q (by omega) a2 a3;have ze:0<e:=by simp at z;omega
 have I:In lt G ((arrOf st).extract (sa+k) sb) ((arrOf st).extract sb (sb+e)):=by
  have s1:((arrOf st).extract (sa+k) sb).size=sb-(sa+k):=by simp;omega
  have s2:((arrOf st).extract sb (sb+e)).size=e:=by simp;omega
  refine⟨λx hx=>?_,λx hx=>?_,Sg.ex (λi j a1 a2 a3=>h1 i j (by omega) a2 a3) (by omega),Sg.ex (λi j a1 a2 a3=>h2 i j a1 a2 (by omega)) (by omega),by omega,by omega,λj hj=>?_,λj hj=>?_⟩;obtain⟨j,_,_,hj,rfl⟩:=gK hx;exact g.g _ (cy hj);obtain⟨j,_,_,hj,rfl⟩:=gK hx;exact g.g _ (cy hj);rw[Dj (by omega) (by omega),Dj (by omega) (by omega)];have:=h5 (k+j) (by omega) (by omega);rw[show sa+(k+j)=sa+k+j by omega] at this;exact C.od.as (by simpa using this);rw[Dj (by omega) (by omega),Dj (by omega) (by omega),s1,show sa+k+(sb-(sa+k)-1)=sb-1 by omega];exact C.od.as (h6 j (by omega))
 have fin:∀out st',OK lt ((arrOf st).extract (sa+k) sb) ((arrOf st).extract sb (sb+e)) out->Sm (setPending st (((pendingOf st).setIfInBounds i (sa,na+nb,pa)).eraseIdxIfInBounds (i+1))) st'->Q true (setArr st' (put (arrOf st') (sa+k) out))/\failedOf st'=none:=λout st' ho hs=>by
  obtain⟨a1,a2,a3⟩:=Hg C.od (k:=sa+k) (e:=sb+e) h1 h2 (by omega) (by omega) (by omega) (by omega) hsz (λi b1 b2 _=>by
   have:=h4 (i-sa) (by omega);rw[show sa+(i-sa)=i by omega] at this;simpa using this) (λi b1 b2 _=>by
   have:=h7 (i-sb) (by omega) (by omega)
   rwa [show sb+(i-sb)=i by omega] at this) ho
  have ea:arrOf st'=arrOf st:=hs.a;rw[ea];exact⟨h _ hs.k (hs.f.trans hf) hs.p a2 a1 a3,hs.f.trans hf⟩
 refine az (λ_=>wpS_bind (Mr C (st:=setPending st _) g.k I λout st' ho hs=>?_)) λ_=>wpS_bind (Ms C (st:=setPending st _) g.k I λout st' ho hs=>?_)
 all_goals
  obtain⟨q,hn⟩:=fin out st' ho hs;refine wpS_bind (wpS_modify (wpS_bind (wpS_get (wpS_pure ?_))));show Q (failedOf st').isNone (setArr st' (put (arrOf st') (sa+k) out));rw[hn];exact q
variable{κ:SortKind}{lt:Kd->Kd->Bool}{G:Kd->Prop}
abbrev Pd:=Nat×Nat×Nat
def Rn(lt:Kd->Kd->Bool)(xs:Array Kd):Nat->List Pd->Nat->Prop
 |a,[],b=>a=b
 |a,p::l,b=>p.1=a/\0<p.2.1/\Sg lt xs a (a+p.2.1)/\Rn lt xs (a+p.2.1) l b
theorem Rn.app{xs:Array Kd}:∀{l l':List Pd}{a b:Nat},Rn lt xs a (l++l') b↔∃c,Rn lt xs a l c/\Rn lt xs c l' b
 |[],l',a,b=>⟨λh=>⟨a,rfl,h⟩,λ⟨c,e,h⟩=>by cases (show a=c from e);exact h⟩
 |p::l,l',a,b=>by constructor;rintro⟨h1,h2,h3,h4⟩;obtain⟨c,h5,h6⟩:=Rn.app.mp h4;exact⟨c,⟨h1,h2,h3,h5⟩,h6⟩;rintro⟨c,⟨h1,h2,h3,h5⟩,h6⟩;exact⟨h1,h2,h3,Rn.app.mpr ⟨c,h5,h6⟩⟩
theorem Rn.le{xs:Array Kd}:∀{l:List Pd}{a b:Nat},Rn lt xs a l b->a+l.length<=b
 |[],a,b,h=>by have h:a=b:=h;simp;omega
 |p::l,a,b,⟨_,h1,_,h2⟩=>by have:=h2.le;simp;omega
theorem Rn.same{xs ys:Array Kd}:∀{l:List Pd}{a b:Nat},Rn lt xs a l b->(∀j,a<=j->j<b->X ys j=X xs j)->Rn lt ys a l b
 |[],a,b,h,_=>h
 |p::l,a,b,⟨h1,h2,h3,h4⟩,e=>by have:=h4.le;refine⟨h1,h2,λi j a1 a2 a3=>?_,h4.same λj a1 a2=>e j (by omega) a2⟩;rw[e i a1 (by omega),e j (by omega) (by omega)];exact h3 i j a1 a2 a3
structure St(lt:Kd->Kd->Bool)(κ:SortKind)(G:Kd->Prop)(a₀:Array Kd)(lo:Nat)(st:SortSt):Prop where
 gd:Gd κ G st
 fl:failedOf st=none
 pm:(arrOf st).Perm a₀
 rn:Rn lt (arrOf st) 0 (pendingOf st).toList lo
theorem Mt{l:List Pd}(h:i+1<l.length):∃l1 x y l2,l=l1++x::y::l2/\l1.length=i:=by refine⟨l.take i,l[i],l[i+1],l.drop (i+2),?_,by rw[JK];omega⟩;rw[<- Oj,<- Oj,Sx]
theorem Rr{l1 l2:List Pd}{x y v:Pd}:((l1++x::y::l2).set l1.length v).eraseIdx (l1.length+1)=l1++v::l2:=by rw[List.set_append_right _ _ (bG _),Nat.sub_self,List.eraseIdx_append_of_length_le (by omega),show l1.length+1-l1.length=1 by omega];rfl
theorem ph(C:Cp prog w A E s κ lt G){a₀:Array Kd}{st:SortSt}{Q:Bool->SortSt->Prop}(S:St lt κ G a₀ lo st)(EG:lo<=a₀.size)(hi:i+1<(pendingOf st).size)(h:∀st',St lt κ G a₀ lo st'->(pendingOf st').size+1=(pendingOf st).size->(∀j,lo<=j->X (arrOf st') j=X (arrOf st) j)->Q true st'):wpS (model prog w) A E s (mergeAt' i) Q st:=by
 obtain⟨l1,⟨sa,na,pa⟩,⟨sb,nb,pb⟩,l2,el,e1⟩:=Mt (l:=(pendingOf st).toList) (i:=i) (by simpa using hi);subst e1;have R:=S.rn;rw[el] at R;obtain⟨c,R1,e2,h2,h3,e4,h5,h6,R2⟩:=Rn.app.mp R;simp only at e2 h2 h3 e4 h5 h6 R2;subst e2 e4;have hl:=R2.le;have sz:(arrOf st).size=a₀.size:=S.pm.size_eq;have g1:(pendingOf st)[l1.length]?=some (sa,na,pa):=by rw[<- EW,el,pP (bG _),Nat.sub_self];rfl
 have g2:(pendingOf st)[l1.length+1]?=some (sa+na,nb,pb):=by rw[<- EW,el,pP (by omega),show l1.length+1-l1.length=1 by omega];rfl
 refine t_ C S.gd g1 g2 rfl (by omega) h2 h5 h3 h6 S.fl λst' k1 k2 k3 k4 k5 k6=>?_;have ep:(pendingOf st').toList=l1++(sa,na+nb,pa)::l2:=by rw[k3,Array.toList_eraseIdxIfInBounds,Array.toList_setIfInBounds,el,Rr]
 refine h st' ⟨⟨k1.trans S.gd.k,λx hx=>S.gd.g x ((Oh.mp k4).mem_iff.mp hx)⟩,k2,k4.trans S.pm,?_⟩ ?_ λj hj=>k6 j (by omega);rw[ep];refine Rn.app.mpr ⟨sa,R1.same λj a1 a2=>k6 j (.inl a2),rfl,Nat.add_pos_left h2 _,by rw[<- Nat.add_assoc];exact k5,?_⟩;rw[<- Nat.add_assoc];exact R2.same λj a1 a2=>k6 j (.inr a1);have e1:(pendingOf st').size=(pendingOf st').toList.length:=by simp
 have e2:(pendingOf st).size=(pendingOf st).toList.length:=by simp
 rw[e1,e2,ep,el];simp;omega
theorem Rn.md{xs:Array Kd}{f:Pd->Pd}(h1:∀p,(f p).1=p.1)(h2:∀p,(f p).2.1=p.2.1):∀{l:List Pd}{i a b:Nat},Rn lt xs a l b->Rn lt xs a (l.modify i f) b
 |[],i,a,b,h=>by rw[List.modify_nil];exact h
 |p::l,0,a,b,⟨e1,e2,e3,e4⟩=>by rw[List.modify_zero_cons];refine⟨(h1 p).trans e1,by rw[h2];exact e2,by rw[h2];exact e3,by rw[h2];exact e4⟩
 |p::l,i+1,a,b,⟨e1,e2,e3,e4⟩=>by rw[List.modify_succ_cons];exact⟨e1,e2,e3,e4.md h1 h2⟩
theorem Dk(C:Cp prog w A E s κ lt G){a₀:Array Kd}{st:SortSt}{Q:Unit->SortSt->Prop}(S:St lt κ G a₀ 0 st)(h2:2<=a₀.size)(h:∀st',(arrOf st').Perm a₀->failedOf st'=none->(arrOf st').toList.Pairwise (RR lt)->Q () st'):wpS (model prog w) A E s sortRuns' Q st:=by
 have fin:∀st',St lt κ G a₀ a₀.size st'->(pendingOf st').size<=1->Q () st':=λst' S h1=>by
  have sz:(arrOf st').size=a₀.size:=S.pm.size_eq;have R:=S.rn;have hl:(pendingOf st').toList.length<=1:=by simpa using h1
  have S0:Sg lt (arrOf st') 0 (arrOf st').size:=by
   match (pendingOf st').toList,hl,R with
   |[],_,R=>have:0=a₀.size:=R;omega
   |[p],_,⟨_,_,h3,h4⟩ =>have h4:0+p.2.1=a₀.size:=h4;rw[h4,<- sz] at h3;exact h3
   |_::_::_,hl,_=>simp at hl
  have:=S0.ex (bG _);rw[eE,List.drop_zero] at this;exact h st' S.pm S.fl this
 refine wpS_bind (wpS_get ?_);dsimp only;rw[show (arrOf st).size=a₀.size from S.pm.size_eq];refine wpS_bind (wpS_mono (wpS_forRange (I:=λx c st'=>∃lo,c=(none,lo)/\x<=lo/\lo<=a₀.size/\St lt κ G a₀ lo st') (Q:=λc st'=>∃lo,c=(none,lo)/\St lt κ G a₀ a₀.size st') ?step ?fin ⟨0,rfl,bG _,nL _,S⟩) ?post)
 case fin=>
  rintro c st' ⟨lo,rfl,h3,h4,S'⟩;have e:lo=a₀.size:=by omega
  subst e;exact⟨_,rfl,S'⟩
 case post=>
  rintro c st' ⟨lo,rfl,S'⟩;have hp:(pendingOf st').size+0<=a₀.size:=by have:=S'.rn.le;simp at this;omega
  refine wpS_bind (wpS_mono (wpS_forRange (I:=λx c st'=>c=(none,())/\St lt κ G a₀ a₀.size st'/\((pendingOf st').size<=1\/(pendingOf st').size+x<=a₀.size)) (Q:=λc st'=>c=(none,())/\St lt κ G a₀ a₀.size st'/\(pendingOf st').size<=1) ?_ ?_ ⟨rfl,S',by omega⟩) ?_);rintro x c dD _ hx ⟨rfl,S1,p1⟩;refine wpS_bind (wpS_get (az (λz=>wpS_pure ⟨rfl,S1,z⟩) λz=>?_));have hi:∀(c:Prop)[Decidable c],(if c then (pendingOf dD).size-2-1 else (pendingOf dD).size-2)+1<(pendingOf dD).size:=λc _=>by have z:¬ (pendingOf dD).size<=1:=z;split<;>omega
  refine wpS_bind (ph C S1 (bG _) (hi _) λpW S2 p2 _=>az (λz=>by simp at z) λ_=>wpS_pure ⟨rfl,S2,by omega⟩);rintro c dD ⟨rfl,S1,p1⟩;exact⟨rfl,S1,by omega⟩;rintro c dD ⟨rfl,S1,p1⟩;exact wpS_pure (fin dD S1 p1)
 case step=>
  rintro x c dD _ hx ⟨lo,rfl,h3,h4,S1⟩;dsimp only;have sz:(arrOf dD).size=a₀.size:=S1.pm.size_eq;refine az (λz=>?_) λz=>wpS_bind (Ab C S1.gd (by omega) (by omega) λm pW K2 m1 m2 s2=>?_);have e:lo=a₀.size:=by omega
  subst e;exact wpS_pure ⟨_,rfl,S1⟩;have S2:St lt κ G a₀ lo pW:=⟨K2.gd S1.gd,K2.f.trans S1.fl,K2.m.trans S1.pm,by rw[K2.p];exact S1.rn.same λj _ a2=>K2.l j a2⟩;have sz2:(arrOf pW).size=a₀.size:=S2.pm.size_eq;dsimp only;refine az (λzm=>wpS_bind (wpS_lift (wpAny_rule ⟨rfl,wpS_bind (Hf C S2.gd (by omega) (by omega) s2 λuQ K3 s3=>?_)⟩))) λzm=>?_
  case' _=>
   have S3:St lt κ G a₀ lo uQ:=⟨K3.gd S2.gd,K3.f.trans S2.fl,K3.m.trans S2.pm,by rw[K3.p];exact S2.rn.same λj _ a2=>K3.l j a2⟩;have n0:0<min (a₀.size-lo) ((sortPriv% PySem.Builtin.minRun) a₀.size a₀.size 0):=by omega
   have n1:lo+min (a₀.size-lo) ((sortPriv% PySem.Builtin.minRun) a₀.size a₀.size 0)<=a₀.size:=by omega
   generalize min (a₀.size-lo) ((sortPriv% PySem.Builtin.minRun) a₀.size a₀.size 0)=n at *;refine az (λz=>by simp at z) λ_=>?_
  rotate_left
  case' _=>
   have S3:=S2;have s3:=s2;have n0:0<m:=m1;have n1:lo+m<=a₀.size:=by omega
  all_goals
   have push:∀{n st'},0<n->St lt κ G a₀ lo st'->Sg lt (arrOf st') lo (lo+n)->St lt κ G a₀ (lo+n) (setPending st' ((pendingOf st').push (lo,n,0))):=λ{n st'} n0 S' s'=>⟨⟨S'.gd.k,S'.gd.g⟩,S'.fl,S'.pm,by
    show Rn lt (arrOf st') 0 ((pendingOf st').push (lo,n,0)).toList (lo+n);rw[Array.toList_push];exact Rn.app.mpr ⟨lo,S'.rn,rfl,n0,s',rfl⟩⟩
   refine wpS_bind (wpS_get ?_);split;refine wpS_bind (wpS_mono (wpS_forRange (I:=λ_ c st'=>c=(none,())/\St lt κ G a₀ lo st'/\Sg lt (arrOf st') lo (lo+_)) (Q:=λc st'=>c=(none,())/\St lt κ G a₀ lo st'/\Sg lt (arrOf st') lo (lo+_)) ?_ (λ_ _ hh=>hh) ⟨rfl,S3,s3⟩) ?_);rintro y c Hi _ _ ⟨rfl,S4,s4⟩;refine wpS_bind (wpS_get ?_);by_cases zp:(pendingOf Hi).size > 1;rw[if_pos zp,getElem?_pos (pendingOf Hi) _ (show (pendingOf Hi).size-2<(pendingOf Hi).size by omega)];refine az (λ_=>wpS_pure ⟨rfl,S4,s4⟩) λ_=>wpS_bind (ph C S4 h4 (show (pendingOf Hi).size-2+1<(pendingOf Hi).size by omega) λIy S5 _ k5=>az (λz=>by simp at z) λ_=>wpS_pure ⟨rfl,S5,λi j a1 a2 a3=>?_⟩);rw[k5 i a1,k5 j (by omega)];exact s4 i j a1 a2 a3;rw[if_neg zp];exact wpS_pure ⟨rfl,S4,s4⟩;rintro c Hi ⟨rfl,S4,s4⟩;refine wpS_bind (wpS_modify (wpS_bind (wpS_modify (wpS_pure ⟨_,rfl,by omega,n1,push n0 (st':=setPending Hi _) ⟨⟨S4.gd.k,S4.gd.g⟩,S4.fl,S4.pm,?_⟩ s4⟩))));show Rn lt (arrOf Hi) 0 (Array.modify _ _ _).toList lo;rw[Array.toList_modify];exact S4.rn.md (by exact λ_=>rfl) (by exact λ_=>rfl);exact wpS_bind (wpS_modify (wpS_pure ⟨_,rfl,by omega,n1,push n0 S3 s3⟩))
end SO
namespace TS
open PySem PySem.Spec PyProof.Rows L2 VT
section
noncomputable abbrev Ru(tv:Value->Tr)(p q:Keyed):Bool:=cS (tv p.1) (tv q.1)
theorem Hj{a b:Tr}(h:cS a b=true):cS b a=false:=by
 cases h2:cS b a with
 |false=>rfl
 |true=>exact (Hd a).symm.trans (x9 h h2) |>.symm
theorem Mu(tv:Value->Tr):SO.Od (Ru tv):=⟨λh=>Hj h,λ{a c} b h=>by
 by_cases e:tv a.1=tv b.1
 right;show cS (tv b.1) (tv c.1)=true;rw[<- e];exact h
 rcases x8 e with z|z
 exact .inl z;exact .inr (x9 z h)⟩
theorem Wh{tv:Value->Tr}{vs:qag}{xs:Array Keyed}(hp:xs.Perm (pairsOf vs))(hi:xs.toList.Pairwise (SO.RR (Ru tv))):(((xs.map (·.2)).toList).map tv).Pairwise (λa b=>cS b a=false):=by
 rw[Array.toList_map,SK,SK];refine List.Pairwise.imp_of_mem (λ{p q} Tc oI h=>?_) hi;have mem:∀p∈xs.toList,p.1=p.2:=λp h=>by have:=(Oh.mp hp).mem_iff.mp h;rw[pairsOf_toList] at this;exact (mem_zip_self this).1
 rw[<- mem p Tc,<- mem q oI];exact h
theorem Rv{l:Addr}{vs:qag}{ep:Nat}{P:Fin->Shared->Prop}(tv:Value->Tr)(hl:s.heap.get? l=some (seqObj "list" vs.toArray ep))(TR:vs.length<=100000)(ht:∀g:Heap,(∀b o,b≠l->s.heap.get? b=some o->g.get? b=some o)->∀v∈vs,eZ g v (tv v))(h:∀out:Array Value,out.toList.Perm vs->(out.toList.map tv).Pairwise (λa b=>cS b a=false)->P (.done (.ret .none)) {s with heap:=sortedHeap s.heap l vs out}) :
  wpAny (model prog w) A (Builtin.«list.sort» ⟨[.ref l],[]⟩) P E s:=by
 have eJ:l<s.heap.objs.size:=dG hl;have Mw:vs.length<=sizeLine:=by rw[sizeLine_eq];omega
 rw[list_sort_plain];refine wpAny_bind (listItems_at hl rfl (wpAny_bind (listUpdate_at hl rfl ?_)));obtain⟨e1,g1⟩:∃e1,(s.heap.update l (Obj.mapSeq λ_=>#[])).get? l=some (seqObj "list" #[] e1):=⟨_,get?_update_seq hl _⟩;refine wpAny_bind (seqEpoch_at g1 rfl (wpAny_bind (wpAny_newTuple (wpAny_bind (wpAny_newList (wpAny_holding ?_))) (by simpa using Mw))));show wpAny (model prog w) A _ P E {s with heap:=((s.heap.update l (Obj.mapSeq λ_=>#[])).push (seqObj "tuple" vs.toArray 0)).push (seqObj "list" #[] 0)};generalize hg:((s.heap.update l (Obj.mapSeq λ_=>#[])).push (seqObj "tuple" vs.toArray 0)).push (seqObj "list" #[] 0)=g;have g2:g.get? l=some (seqObj "list" #[] e1):=by subst hg;exact dg _ (dg _ g1)
 have old:∀b o,b≠l->s.heap.get? b=some o->g.get? b=some o:=λb o hb e=>by subst hg;refine dg _ (dg _ ?_);rw[Heap.get?_update_ne _ _ _ _ hb];exact e
 have Mx:=ht g old;have out:∀xs:Array Keyed,xs.Perm (pairsOf vs)->xs.toList.Pairwise (SO.RR (Ru tv))->P (.done (.ret .none)) {s with heap:=g.update l (Obj.mapSeq λ_=>xs.map (·.2))}:=λxs hp hi=>by have:=h (xs.map (·.2)) (C0 hp) (Wh hp hi);unfold sortedHeap at this;rw[hg] at this;exact this
 have XM:∀xs:Array Keyed,xs.Perm (pairsOf vs)->(xs.map (·.2)).size<=sizeLine:=λxs hp=>by rw[Array.size_map,hp.size_eq,pairsOf_size];exact Mw
 dsimp only;by_cases h2:vs.toArray.size<2;rw[if_pos h2,if_pos h2];refine wpAny_bind (wpAny_pure ?_);rw[StateT.run_pure];refine wpAny_bind (wpAny_pure ?_);refine wpAny_bind (seqEpoch_at g2 rfl (wpAny_bind (listUpdate_at g2 rfl ?_ (hsz2:=Nat.le_succ_of_le (XM (pairsOf vs) (Array.Perm.refl _))))));simp only[bne_self_eq_false,Oq,if_false];refine wpAny_pure (out (pairsOf vs) (Array.Perm.refl _) ?_);rw[gh] at h2;rw[pairsOf_toList]
 match vs,h2 with
 |[],_=>exact .nil
 |[_],_=>simp
 |_::_::_,h2=>simp at h2;omega
 rw[if_neg h2,if_neg h2];have EJ:2<=vs.length:=by rw[gh] at h2;omega
 have kd:∀Q:SortKind->Shared->Prop,Q (tuples' true) {s with heap:=g}->wpAny (model prog w) A (keyKind' vs.toArray) Q E {s with heap:=g}:=λQ hq=>by refine C2 (by rintro rfl;simp at EJ) (λv hv=>?_) hq;obtain⟨t1,t2,t3,ta⟩:=Mx v hv;exact⟨_,_,_,ta,rfl⟩
 have cm:SO.Cp prog w A E {s with heap:=g} (tuples' true) (Ru tv) (λp=>p.1∈vs):=⟨Mu tv,λ{p q st Q} hp hq hk h=>by rw[lt'_eq];refine wpS_bind (wpS_get ?_);rw[hk];refine wpS_bind (wpS_lift (wpAny_attempt (He (s:={s with heap:=g}) (Mx _ hp) (Mx _ hq) ⟨rfl,?_⟩)));exact wpS_pure h⟩
 refine wpAny_bind (kd _ ?_);refine wpAny_bind (wpAny_mono (SO.Dk (a₀:=pairsOf vs) (st:=SortSt.mk' (tuples' true) (vs.toArray.zip vs.toArray) #[] 7 none) (Q:=λ_ st'=>((arrOf st').Perm (pairsOf vs)/\(arrOf st').toList.Pairwise (SO.RR (Ru tv)))/\failedOf st'=none) cm ⟨⟨rfl,λp hp=>?_⟩,rfl,Array.Perm.refl _,rfl⟩ (by rw[pairsOf_size];exact EJ) λst' p1 p2 p3=>⟨⟨p1,p3⟩,p2⟩) ?_ λ_ _ z=>z);have hp:p∈(pairsOf vs).toList:=hp;rw[pairsOf_toList] at hp;exact (mem_zip_self hp).2;rintro⟨⟨⟩,st'⟩ s' ⟨rfl,⟨hp,hi⟩,hf⟩;dsimp only;refine wpAny_bind (seqEpoch_at g2 rfl (wpAny_bind (listUpdate_at g2 rfl ?_ (hsz2:=Nat.le_succ_of_le (XM _ hp)))));rw[hf];simp only[bne_self_eq_false,Oq,if_false];exact wpAny_pure (out _ hp hi)
theorem ua{l:Addr}{vs:qag}{as:List Tr}(hl:s.heap.IsList l vs.toArray)(TR:vs.length<=100000)(ht:Paired (λv a=>eZ s.heap v a) vs as)(h:∀out:Array Value,out.toList.Perm vs->(out.toList.map (q8 s.heap)).Perm as->(out.toList.map (q8 s.heap)).Pairwise (λa b=>cS b a=false)->Q (.ref (s.heap.objs.size+1)) {s with heap:=sortedAll s.heap vs out}) :
  wpAny (model prog w) A (call (.builtin "sorted") [.ref l]) Q E s:=by
 have Mw:vs.length<=sizeLine:=by rw[sizeLine_eq];omega
 have em:vs.map (q8 s.heap)=as:=by
  clear h TR Mw hl;induction ht with
  |nil=>rfl
  |cons r _ ih=>rw[gj,q9 r,ih]
 have each:∀v∈vs,eZ s.heap v (q8 s.heap v):=λv hv=>by
  clear h TR Mw hl em;induction ht with
  |nil=>cases hv
  |cons r _ ih=>
    rcases dh.mp hv with rfl|hv
    rw[q9 r];exact r;exact ih hv
 refine Calls.call_function_entry kind_sorted plain_sorted entry_sorted (args_sorted1 _) ?_;unfold Builtin.«sorted»;refine wpAny_bind (m:=checkCount "sorted" 1 1 _) (wpAny_pure ?_);refine wpAny_bind (collect_list hl ?_ Mw);have hz:((s.heap.push (seqObj "list" #[] 0)).update s.heap.objs.size (Obj.mapSeq (·++vs.toArray))).objs.size=s.heap.objs.size+1:=by rw[Heap.size_update,size_push']
 have old:∀b o,s.heap.get? b=some o->(((s.heap.push (seqObj "list" #[] 0)).update s.heap.objs.size (Obj.mapSeq (·++vs.toArray))).push (seqObj "list" vs.toArray 0)).get? b=some o:=λb o e=>by refine dg _ ?_;rw[Heap.get?_update_ne _ _ _ _ (iG (dG e))];exact dg _ e
 refine wpAny_bind (wpAny_newList ?_ Mw);have ho:(((s.heap.push (seqObj "list" #[] 0)).update s.heap.objs.size (Obj.mapSeq (·++vs.toArray))).push (seqObj "list" vs.toArray 0)).get? (s.heap.objs.size+1)=some (seqObj "list" vs.toArray 0):=by rw[<- hz];exact gN _ rfl
 show wpAny _ _ _ _ _ {s with heap:=((s.heap.push (seqObj "list" #[] 0)).update s.heap.objs.size (Obj.mapSeq (·++vs.toArray))).push (seqObj "list" vs.toArray 0)};rw[hz];have Wi:∀g:Heap,(∀b o,b≠s.heap.objs.size+1->(((s.heap.push (seqObj "list" #[] 0)).update s.heap.objs.size (Obj.mapSeq (·++vs.toArray))).push (seqObj "list" vs.toArray 0)).get? b=some o->g.get? b=some o)->∀v∈vs,eZ g v (q8 s.heap v):=λg hg v hv=>by obtain⟨t1,t2,t3,a,o,n,rfl,e,c,d⟩:=each v hv;exact⟨t1,t2,t3,a,o,n,rfl,hg a o (iG (NL (dG e))) (old a o e),c,d⟩
 refine wpAny_bind (wpAny_holding (wpAny_call_entry slot_list_sort ⟨_,ho,rfl⟩ entry_list_sort (Rv (q8 s.heap) ho TR (λg hg=>Wi g hg) λout hp hs=>⟨_,rfl,?_⟩) (args_list_sort _)));exact wpAny_pure ⟨_,rfl,h out hp (by rw[<- em];exact hp.map _) hs⟩
end
theorem c8{X:Cx}:cL X (.builtin "sorted") (λxs H Q=>∃(p:Addr)(ws:qak)(as:List Tr),xs=[.ref p]/\fq X.K H p ws/\ws.length<=100000/\Paired (kY X.K H) ws as /\
  ∀zs bs,Paired (kY X.K H) zs bs->bs.Perm as->bs.Pairwise (λa b=>cS b a=false)->∀a,H a=none->Q (.ref a) (upd H a (.lst zs))):=by
 intro pins s σ H xs us Q I r h;obtain⟨p,ws,as,rfl,hq,hl,ht,q⟩:=h;obtain⟨u,rfl,ru⟩:=vals1 r;cases ru;obtain⟨aH,rv,pl,hz⟩:=I.list hq;have e:=rv.length;have Mx:∀{w:V}{v:Value}{a:Tr},RelV w v->kY X.K H w a->eZ s.heap v a:=λ{w v a} rw' ⟨b,eb,hb⟩=>by
  subst eb;have ev:v=.ref b:=rw';subst ev;obtain⟨ps,pv,⟨o,ho,hc,n,hd⟩,_⟩:=I.tuple hb;cases pv with
  |cons r1 pv=>cases pv with
    |cons r2 pv=>cases pv with
      |cons r3 pv=>cases pv;obtain⟨t1,rfl⟩:=r1;obtain⟨t2,rfl⟩:=r2;obtain⟨t3,rfl⟩:=r3;exact⟨t1,t2,t3,b,o,n,rfl,ho,hc,hd⟩
 have XN:Paired (λv a=>eZ s.heap v a) aH as:=by
  clear hz pl hq hl q e r;induction rv generalizing as with
  |nil=>cases ht;exact .nil
  |cons r1 _ ih=>cases ht with
    |cons t1 t2=>exact .cons (Mx r1 t1) (ih _ t2)
 refine ua pl.isList (by omega) XN λout hp XO hs=>?_;obtain⟨zs,p1,p2⟩:=z8 hp rv;have key:∀{zs:qak}{vs:qag},Vals zs vs->(∀z∈zs,∃a,kY X.K H z a)->Paired (kY X.K H) zs (vs.map (q8 s.heap)):=by
  intro zs vs hv;induction hv with
  |nil=>intro _;exact .nil
  |cons r1 _ ih=>intro hh;obtain⟨a,ha⟩:=hh _ dq;rw[gj,q9 (Mx r1 ha)];exact .cons ha (ih λz hz=>hh z (d3 _ hz))
 have all:∀w∈ws,∃a,kY X.K H w a:=λw hw=>by
  clear XN Mx key hz pl hq hl q e r rv p1 p2 XO hs hp;induction ht with
  |nil=>cases hw
  |cons r1 _ ih=>
    rcases dh.mp hw with rfl|hw
    exact⟨_,r1⟩;exact ih hw
 refine tO I p2 ?_ (q zs _ (key p2 λz XB=>all z (p1.mem_iff.mp XB)) XO hs);rw[p1.length_eq];exact hz
def wu(ts:qaj)(q:qam):Prop:=∃as:List Tr,ts=[.lst (as.map tT)]/\as.length<=100000/\∀bs:List Tr,bs.Perm as->bs.Pairwise (λa b=>cS b a=false)->q (.fr (.lst (bs.map tT)))
section
variable{A:qah}
theorem gL:kD K (λxs H Q=>∃(p:Addr)(ws:qak)(as:List Tr),xs=[.ref p]/\fq K H p ws/\ws.length<=100000/\Paired (kY K H) ws as /\
  ∀zs bs,Paired (kY K H) zs bs->bs.Perm as->bs.Pairwise (λa b=>cS b a=false)->∀a,H a=none->Q (.ref a) (upd H a (.lst zs))) wu:=by
 intro Z tm O ρ σ H ts vs q Q I h hp k;obtain⟨as,rfl,hl,hq⟩:=hp;obtain⟨v,rfl,a⟩:=cz h;obtain⟨p,ws,rfl,hs,hv⟩:=a.lst;have e:=hv.length;rw[cn] at e;exact⟨p,ws,as,rfl,hs,by omega,C8 hv,λzs bs h1 h2 h3 b hb=>k _ (hq bs h2 h3) _ _ (aB hb) (I.vB hb (Mq h1))⟩
end
end TS
namespace MK
open PySem L2 VT Gen BS K5 x6
open PySem.Builtin (bitOr)
noncomputable def aM(E:List Ent)(k:Int×Str):Int:=match E with
 |[]=>0
 |e::E=>if e.1=k then e.2 else aM E k
theorem e_(k:Int×Str):∀E:List Ent,(bL (cD E) (cW E) (kK k)).getD (.int 0)=.int (aM E k)
 |[]=>rfl
 |e::E=>by show (if kK e.1=kK k then some (T.int e.2) else bL (cD E) (cW E) (kK k)).getD (.int 0)=.int (if e.1=k then e.2 else aM E k);by_cases z:e.1=k;rw[if_pos z,if_pos (gJ.mpr z)];rfl;rw[if_neg z,if_neg (λq=>z (gJ.mp q))];exact e_ k E
theorem q_(h n:Int):∀E:List Ent,bL (cD E) (cW E) [.inl h,.inl n]=none
 |[]=>rfl
 |e::E=>by show (if kK e.1=[.inl h,.inl n] then some (T.int e.2) else bL (cD E) (cW E) [.inl h,.inl n])=none;rw[if_neg (λz=>by unfold kK at z;injection z with _ z;injection z with z _;cases z)];exact q_ h n E
theorem uc(k k':Int×Str)(v:Int)(E:List Ent):aM (eY E k v) k'=if k'=k then v else aM E k':=by
 unfold eY;by_cases h:gc E k=true;rw[if_pos h];induction E with
 |nil=>cases h
 |cons e E ih=>
  rw[gj];show (if (if e.1=k then (e.1,v) else e).1=k' then (if e.1=k then (e.1,v) else e).2 else aM (E.map _) k')=if k'=k then v else if e.1=k' then e.2 else aM E k'
  by_cases q:e.1=k;rw[if_pos q];by_cases q2:k'=k;rw[if_pos q2,if_pos (q.trans q2.symm)];rw[if_neg q2,if_neg (λz=>q2 (z.symm.trans q)),if_neg (λz=>q2 (z.symm.trans q))];by_cases h2:gc E k=true;rw[ih h2,if_neg q2];have:∀l:List Ent,¬ gc l k=true->(l.map λe=>if e.1=k then (e.1,v) else e)=l:=λl hl=>by
   conv=>rhs;rw[<- List.map_id l]
   refine Et λx hx=>?_;rw[if_neg λz=>hl (Ig.mpr ⟨x,hx,decide_eq_true z⟩)];rfl
  rw[this E h2];rw[if_neg q];have h2:gc E k=true:=by unfold gc at h ⊢;rw[yI,decide_eq_false q,E2] at h;exact h
  rw[ih h2];by_cases q3:e.1=k';rw[if_pos q3,if_pos q3,if_neg (λz=>q (q3.trans z))];rw[if_neg q3,if_neg q3]
 rw[if_neg h];induction E with
 |nil=>
  show (if k=k' then v else 0)=if k'=k then v else 0
  by_cases q:k'=k;rw[if_pos q,if_pos q.symm];rw[if_neg q,if_neg (λz=>q z.symm)]
 |cons e E ih=>
  have h1:¬ e.1=k:=λz=>h (by unfold gc;rw[yI,decide_eq_true z];rfl);have h2:¬ gc E k=true:=λz=>h (by unfold gc at z ⊢;rw[yI,z,Bool.or_true]);show (if e.1=k' then e.2 else aM (E++[(k,v)]) k')=if k'=k then v else if e.1=k' then e.2 else aM E k'
  rw[ih h2];by_cases q3:e.1=k';rw[if_pos q3,if_pos q3,if_neg (λz=>h1 (q3.trans z))];rw[if_neg q3,if_neg q3]
theorem Hk(k:Int×Str)(v:Int)(E:List Ent):bL (cD (eY E k v)) (cW (eY E k v)) (kK k)=some (.int v):=by
 have h:gc (eY E k v) k=true:=by unfold eY;by_cases h:gc E k=true;rw[if_pos h];obtain⟨e,he,z⟩:=Ig.mp h;have z:e.1=k:=of_decide_eq_true z;exact Ig.mpr ⟨(e.1,v),kN.mpr ⟨e,he,by rw[if_pos z]⟩,decide_eq_true z⟩;rw[if_neg h];exact Ig.mpr ⟨(k,v),g6 _ (cT.mpr rfl),decide_eq_true rfl⟩
 have e1:=e_ k (eY E k v);rw[uc,if_pos rfl] at e1;have:∀F:List Ent,gc F k=true->∃t,bL (cD F) (cW F) (kK k)=some t:=λF=>by
  induction F with
  |nil=>intro z;cases z
  |cons e F ih=>intro z;show ∃t,(if kK e.1=kK k then some (T.int e.2) else bL (cD F) (cW F) (kK k))=some t;by_cases q:e.1=k;exact⟨_,if_pos (gJ.mpr q)⟩;rw[if_neg (λx=>q (gJ.mp x))];unfold gc at z;rw[yI,decide_eq_false q,E2] at z;exact ih z
 obtain⟨t,ht⟩:=this _ h;rw[ht] at e1 ⊢;exact congrArg some e1
noncomputable def cc(k:Ky):Str:=match qB k with
 |.str x=>if lV.dQ x=true then x else "#"
 |_=>"#"
noncomputable def oA(E:List Ent)(h:Nat):xH->Int
 |.nm y=>aM E ((h:Int),y)
 |.nu _=>0
noncomputable def Wj(F:List Ent)(x:Int)(c:Str):Int:=(mem x).foldl (λt (j:Nat)=>bitOr t (aM F ((j:Int),c))) 0
abbrev Wt:=Bool×(Int×Str)×Int
noncomputable def Hl(E F:List Ent)(i h:Nat):Rw->List Wt
 |.new x=>[(true,((h:Int),x),1 * 2 ^ ((i:Int)).toNat)]
 |.put x o=>[(true,((h:Int),x),oA E h o)]
 |.get x y k=>[(true,((h:Int),x),Wj F (aM E ((h:Int),y)) (cc k))]
 |.set y k o=>(mem (aM E ((h:Int),y))).map λ(j:Nat)=>(false,((j:Int),cc k),oA E h o)
 |_=>[]
noncomputable def TU:Rw->Bool
 |.call _ _ _=>false
 |_=>true
noncomputable def Wl(a1 a2:Addr)(E F:List Ent)(b:Bool):T:=if b=true then .pin a1 (.dt (cD E) (cW E)) else .pin a2 (.dt (cD F) (cW F))
noncomputable def wT(a1 a2:Addr)(E F:List Ent)(p:Wt):T:=.tup [Wl a1 a2 E F p.1,.kt (kK p.2.1),.int p.2.2]
noncomputable def pA(E:List Ent):List TS.Tr:=(E.filter λe=>!decide (e.2=0)).map λe=>(e.1.1,e.1.2,e.2)
end MK
namespace VT
open PySem PySem.Spec PyProof.Rows L2
theorem iC{α:Type}{f u:α->T}{h:FG}{fe:FE}{ρ:En}:∀{xs:List α}{Q:qaj->Prop},(∀x∈xs,∀r:T->Prop,r (u x)->h (f x) ρ λρ2=>fe ρ2 r)->Q (xs.map u)->cw h BJ fe ρ (xs.map f) Q
 |[],Q,_,hq=>hq
 |x::xs,Q,step,hq=>by simp only[gj,cw];exact step x dq (λy=>cw h BJ fe ρ (xs.map f) λus=>Q (y::us)) (iC (Q:=λus=>Q (u x::us)) (λy hy=>step y (d3 _ hy)) hq)
theorem ud{lo:Int}{u:Nat->T}{h:FG}{Q:qaj->Prop}(step:∀i<n,∀r:T->Prop,r (u i)->h (.int (lo+(i:Int))) ρ λρ2=>fe ρ2 r)(hq:Q ((List.range n).map u)):cw h BJ fe ρ (rangeT lo n) Q :=
 iC (f:=λi:Nat=>T.int (lo+(i:Int))) (u:=u) (λi hi=>step i (w6.mp hi)) hq
theorem c9{α:Type}{f u:α->T}{p:α->Bool}{h:FG}{fc:FB}{fe:FE}{ρ:En}:∀{xs:List α}{Q:qaj->Prop},(∀x∈xs,∀r s:Prop,(if p x=true then ∀k:T->Prop,(k (u x)->r)->r else s)->True)->(∀x∈xs,∀(k:T->Prop)(s:Prop),(if p x=true then k (u x) else s)->h (f x) ρ λρ2=>fc ρ2 λb=>if b=true then fe ρ2 k else s)->Q ((xs.filter p).map u)->cw h fc fe ρ (xs.map f) Q
 |[],Q,_,_,hq=>hq
 |x::xs,Q,t0,step,hq=>by simp only[gj,cw];refine step x dq _ _ ?_;by_cases hp:p x=true;rw[if_pos hp];rw[List.filter_cons_of_pos hp] at hq;exact c9 (Q:=λus=>Q (u x::us)) (λ_ _ _ _ _=>trivial) (λy hy=>step y (d3 _ hy)) hq;rw[if_neg hp];rw[List.filter_cons_of_neg hp] at hq;exact c9 (λ_ _ _ _ _=>trivial) (λy hy=>step y (d3 _ hy)) hq
def My:FS:=λ_ _=>False
theorem Ad{X:Cx}{ss:qaq}:l_ X Z ss My:=.mk λtm=>λpins s σ H D I h=>by obtain⟨_,_,_,_,q,_⟩:=h;exact q.elim
end VT
namespace d6
open PySem L2 VT Gen K5 Lay BS x6 MK
open PySem.Builtin (bitOr bitAnd)
noncomputable def top(i:Nat):Stmt:=PySem.Challenge.pw_slicewise_k22_cells_of_records.main.body.getD i (.Pass ⟨0,0,0,0⟩)
noncomputable abbrev Dl:Stmt:=top 1
noncomputable abbrev j8:Stmt:=top 2
noncomputable abbrev iD:Stmt:=top 8
noncomputable abbrev m4:Stmt:=top 18
noncomputable abbrev j9:Stmt:=top 19
noncomputable abbrev rf:Stmt:=top 20
noncomputable abbrev rh:Stmt:=top 21
noncomputable abbrev fU:Stmt:=top 22
noncomputable abbrev m5:Stmt:=inClass (top 17) 0
structure TV(mg:qae):Prop where
 enumerate:mg "enumerate"=none
 sorted:mg "sorted"=none
 range:mg "range"=none
structure Rx(K:qaf)(C:Addr):Prop where
 cl:Bc K C
 rj:bN K C "names"
 ly:bN K C "cells"
theorem bS(h:n<=1000):n<=sizeLine:=Gen.small h
theorem jn:bootBuiltins "sorted"=some (.builtin "sorted"):=by decide +kernel
noncomputable abbrev ue(l:qao):qaj:=l.map λ(k:Nat)=>T.int (k:Int)
def mR(ts:qaj)(q:qam):Prop:=∃(x:Int)(k:Nat),ts=[.int x,.int (k:Int)]/\q (.vw (.bl (ib x k)))
def m6(ts:qaj)(q:qam):Prop:=∃x:Int,ts=[.int x]/\Builtin.Int.intBits x<=64/\q (.fr (.lst (ue (mem x))))
noncomputable def Dm:T->Str
 |.str x=>if lV.dQ x=true then x else "#"
 |_=>"#"
def j_(ts:qaj)(q:qam):Prop:=∃t,ts=[t]/\Nm.zZ t/\q (.vw (.str (Dm t)))
def Js(C:Addr)(ts:qaj)(q:T->Prop):Prop:=∃t1 t2,ts=[t1,t2]/\q (.ins C fN [t1,t2])
noncomputable def m7(CS a1 a2:Addr)(E F:List Ent):T:=.ins CS fN [.pin a1 (.dt (cD E) (cW E)),.pin a2 (.dt (cD F) (cW F))]
def Jt(CS:Addr)(ts:qaj)(q:qam):Prop:=∃(a1 a2:Addr)(E F:List Ent)(x:Int)(c:Str),ts=[m7 CS a1 a2 E F,.int x,.str c]/\Builtin.Int.intBits x<=64/\q (.vw (.int (Wj F x c)))
def TX:Rw->Prop
 |.get _ _ k=>Nm.zZ (qB k)
 |.set _ k _=>Nm.zZ (qB k)
 |_=>True
def wx(C CS:Addr)(ts:qaj)(q:qam):Prop:=∃(rs:qal)(a1 a2:Addr)(E F:List Ent)(i:Nat)(r:Rw)(h:Nat),ts=[kX C rs,m7 CS a1 a2 E F,.int (i:Int)]/\rs[i]?=some r/\TU r=true/\TX r/\j2 (bz rs) i=some h/\i<=1000/\(∀k,Builtin.Int.intBits (aM E k)<=64)/\q (.fr (.lst ((Hl E F i h r).map (wT a1 a2 E F))))
def ye(ts:qaj)(q:qam):Prop:=∃(E:List Ent)(o:Obj),ts=[.df o (cD E) (cW E)]/\E.length<=100000/\∀bs:List TS.Tr,bs.Perm (pA E)->bs.Pairwise (λa b=>TS.cS b a=false)->q (.fr (.lst (bs.map TS.tT)))
theorem Mz(x:Int)(k:Nat):decide (bitAnd (x / 2 ^ ((k:Int)).toNat) 1=1)=ib x k:=by rw[iL,wo];cases ib x k<;>decide
theorem MA(x:Int):((rangeT 0 (Builtin.Int.intBits x)).filter λt=>match t with | .int i=>ib x i.toNat|_=>false).map (λt=>t)=ue (mem x):=by
 unfold rangeT mem;rw[List.map_id',List.filter_map];have e:((λt:T=>match t with | .int i=>ib x i.toNat|_=>false) ∘ λ(i:Nat)=>T.int (0+(i:Int)))=ib x:=by funext i;show ib x (0+(i:Int)).toNat=ib x i;rw[Im,iL]
 rw[e];refine Et λi _=>?_;rw[Im]
theorem Dn(k:Ky):Dm (qB k)=cc k:=by unfold cc Dm;cases qB k<;>rfl
section
variable{aT cf:Addr}
noncomputable abbrev Ry:qai:=qay
theorem Dp:aG Ry qay (aq Dl):=L2.iQ
theorem MB(D:Df K mg "has" Dl qay f fd):cJ P w K mg base "has" qay 1 (cK K 2 mR):=by refine D.iI (lh D.F Dp rfl λbw A outer s H E Ox hr ts q hG=>?_);have nd:=Dp.nd;have hu:=bb.fK hr;refine⟨_,(ak (aJ (qau (oR hu (qas (F9 (qas (vE (ae 0) (ae 1))) (qas af))) (qas af))))),λ_=>?_⟩;obtain⟨x,k,rfl,hq⟩:=hG;refine⟨by show (0:Int)<=(k:Int);omega,?_⟩;show q (.vw (.bl (decide (bitAnd (x / 2 ^ ((k:Int)).toNat) 1=1))));rw[Mz];exact hq
abbrev pB:qai:=["rows"]
theorem m8:aG pB ["rows"] (aq j8):=L2.iQ
theorem oB:(pB++(["row"]:qai)).Nodup:=by decide +kernel
theorem wy(D:Df K mg "members" j8 ["rows"] f fd)(M:TV mg)(Rz:cJ P w K mg base "has" qay 1 (cK K 2 mR)):cJ P w K mg base "members" ["rows"] 2 (cK K 1 m6):=by refine D.iI (lh D.F m8 rfl λbw A outer s H E Ox hr ts q hG=>?_);have nd:=m8.nd;have np:∀{i:Nat},aX ⟨H,[],Ox⟩ i:=iw;refine⟨_,(ak (aJ (qau (dA (ts:=["row"]) rfl (by rfl) (eQ (by rfl) M.range (qas (zY (ae 0)))) (λ_ _ _ _ _ _=>(aD (i:=1) oB rfl (Or.inl rfl) np)) (λ_ _ _ _ _ _=>(gQ (cH (aO Rz hr (aa (ai 0) (aa (ai 1) aj)))))) (λ_ _ _ _ _ _=>(ai 1)))))),λ_=>?_⟩;obtain⟨x,rfl,hb,hq⟩:=hG;refine⟨rfl,by omega,by omega,?_,?_⟩;rw[fL];exact bS (by omega);refine jM (λt=>match t with | .int i=>ib x i.toNat|_=>false) (λt=>t) (λt ht k r h=>?_) ?_;obtain⟨i,hi⟩:=Ic.mp ht;obtain⟨_,rfl⟩:=ix hi;have e:(0:Int)+(i:Int)=(i:Int):=Im _;rw[e] at h ⊢;exact⟨rfl,x,i,rfl,h⟩;show q (.fr (.lst (((rangeT 0 (Builtin.Int.intBits x)).filter λt=>match t with | .int i=>ib x i.toNat|_=>false).map (λt=>t))));rw[MA];exact hq
noncomputable abbrev wz:qai:=["key"]
theorem kM:aG wz ["key"] (aq iD):=L2.iQ
theorem uf(D:Df K mg "class_of" iD ["key"] f fd)(wA:cJ P w K mg base "is_field" qax 2 (cK K 1 Nm.Co)):cJ P w K mg base "class_of" ["key"] 3 (cK K 1 j_):=by
 refine D.iI (lh D.F kM rfl λbw A outer s H E Ox hr ts q hG=>?_);have nd:=kM.nd;refine⟨_,(ak (aJ (qau (IG (cH (aO wA hr (aa (ai 0) aj))) (VE.vp (ai 0)) aE)))),λ_=>?_⟩;obtain⟨t,rfl,ht,hq⟩:=hG;refine⟨rfl,t,rfl,ht,?_⟩;show if Nm.Q3 t=true then q (.vw t) else q (.vw (.str "#"))
 obtain⟨x,rfl,_⟩|⟨i,rfl⟩:=ht
 have hq:q (.vw (.str (if lV.dQ x=true then x else "#"))):=hq;show if lV.dQ x=true then _ else _
 by_cases z:lV.dQ x=true;rw[if_pos z] at hq ⊢;exact hq;rw[if_neg z] at hq ⊢;exact hq;exact hq
noncomputable abbrev MC:qai:=qaz
theorem yf:aG MC qaz (aq m5):=L2.iQ
theorem Hm(D:Dc K mg "Sets" "Sets.__init__" m5 qaz cf f fd)(M:Rx K cf):Cq P w K mg base "Sets" cf qaz 1 2 (Js cf):=by
 refine D.iI (Xw D.F yf rfl λbw A outer s H E as Ox hr us q hl hG=>?_);have nd:=yf.nd;have cg:=M;refine⟨_,(ah (fP 0 cg.cl cg.rj (ai 1))
  (ak (fP 0 cg.cl cg.ly (ai 2)))),?_⟩
 obtain⟨t1,t2,rfl,hq⟩:=hG;exact⟨rfl,by show 0<1000;decide,rfl,by show 1<1000;decide,hq⟩
noncomputable abbrev rm:qai:=["sets","rows","kind","told","row"]
theorem ie:aG rm qaA (aq fU):=L2.iQ
theorem oC(D:Df K mg "read_cells" fU qaA f fd)(M:Rx K cf)(ka:cJ P w K mg base "members" ["rows"] 2 (cK K 1 m6)):cJ P w K mg base "read_cells" qaA 3 (cK K 3 (Jt cf)):=by
 refine D.iI (lh D.F ie rfl λbw A outer s H E Ox hr ts q hG=>?_);have nd:=ie.nd;have hu:=bb.fK hr;have np:∀{i:Nat},aX ⟨H,[],Ox⟩ i:=iw;have cg:=M;have iY:=kH hu;refine⟨_,(ah (aN (i:=3) nd rfl (Or.inl rfl) (qau af) np)
  (ah (eB uP rfl (jL (qat (aO ka hr (aa (ai 1) aj)))) (aD (i:=4) nd rfl (Or.inl rfl) np)
   (ak (BH (i:=3) nd rfl (Or.inl rfl) (qas (fS iY (qas (gA cg.cl cg.ly (ae 0))) (qat (cR (aa (ai 4) (aa (ai 2) aj)))) (qat af) ⟨rfl,rfl,rfl,rfl⟩)) Kx xu np)))
  (ak (aJ (qau (VE.vp (ai 3))))))),λ_=>?_⟩
 obtain⟨a1,a2,E,F,x,c,rfl,hb,hq⟩:=hG;refine⟨rfl,x,rfl,hb,?_⟩;show hX (ue (mem x)) _ _ _ _;refine eS (λn ρ=>∃v b4,ρ=[some (m7 cf a1 a2 E F,false),some (.int x,false),some (.str c,false),some (.int v,false),b4]/\v=((mem x).take n).foldl (λt (j:Nat)=>bitOr t (aM F ((j:Int),c))) 0) ⟨_,none,rfl,rfl⟩ ?_ ?_;rintro n j ρ hj ⟨v,b4,rfl,hv⟩;refine⟨rfl,_,rfl,bS (by simp),?_⟩;show qa (.int v) ((bL (cD F) (cW F) (kK ((j:Int),c))).getD (.int 0)) (λr=>∃v b4,[some (m7 cf a1 a2 E F,false),some (.int x,false),some (.str c,false),some (r.t,false),some (.int (j:Int),false)]=[some (m7 cf a1 a2 E F,false),some (.int x,false),some (.str c,false),some (.int v,false),b4]/\v=((mem x).take (n+1)).foldl (λt (j:Nat)=>bitOr t (aM F ((j:Int),c))) 0);rw[e_];refine⟨_,_,rfl,?_⟩;rw[NM,hj,NN,<- hv];rfl;rintro ρ ⟨_,b4,rfl,rfl⟩;rw[JM];exact hq
noncomputable abbrev pD:qai:=["held"]
theorem m9:aG pD ["held"] (aq j9):=L2.iQ
theorem ig:(pD++(["key","told"]:qai)).Nodup:=by decide +kernel
theorem wB(D:Df K mg "list_of" j9 ["held"] f fd)(M:TV mg):cJ P w K mg base "list_of" ["held"] 1 (cK K 1 ye):=by
 refine D.iI (lh D.F m9 rfl λbw A outer s H E Ox hr ts q hG=>?_);have nd:=m9.nd;have hu:=bb.fK hr;have np:∀{i:Nat},aX ⟨H,[],Ox⟩ i:=iw;refine⟨_,(ak (aJ (qau (bC TS.c8 TS.gL (by rfl) M.sorted jn (a_ (qas (dA (ts:=["key","told"]) rfl (by rfl) (CQ (ai 0)) (λ_ _ _ _ _ _=>(dw (n:=2) rfl (aK (aD (i:=1) ig rfl (Or.inl rfl) np) (aK (aD (i:=2) ig rfl (Or.inl rfl) np) cC)))) (λ_ _ _ _ _ _=>(gQ (BF hu (ae 2) (qas af)))) (λ_ _ _ _ _ _=>(qat (aV (aa (qat (aC (ae 1) (qas af))) (aa (qat (aC (ae 1) (qas af))) (aa (ai 2) aj)))))))) bx))))),λ_=>?_⟩;obtain⟨E,o,rfl,hlen,hq⟩:=hG;have ez:((cD E).zip (cW E)).map N7=E.map λe=>.tup [CD (kK e.1),.int e.2]:=by unfold cD cW;rw[List.zip_map',uY];rfl
 refine⟨rfl,by unfold cD cW;rw[cn,cn],?_⟩;show (((cD E).zip (cW E)).map N7).length<=sizeLine/\cw _ _ _ _ (((cD E).zip (cW E)).map N7) _;rw[ez];refine⟨by rw[cn,sizeLine_eq];omega,?_⟩;refine c9 (u:=λe:Ent=>TS.tT (e.1.1,e.1.2,e.2)) (p:=λe=>!decide (e.2=0)) (λ_ _ _ _ _=>trivial) (λe he k s hk=>?_) ?_;refine⟨rfl,rfl,?_⟩;show if (!decide (e.2=0))=true then _ else _
 by_cases z:(!decide (e.2=0))=true;rw[if_pos z] at hk ⊢;exact⟨_,ag (j:=0) rfl,_,ag (j:=1) rfl,bS (by simp),hk⟩;rw[if_neg z] at hk ⊢;exact hk;show TS.wu [.lst ((E.filter λe=>!decide (e.2=0)).map λe:Ent=>TS.tT (e.1.1,e.1.2,e.2))] _;refine⟨pA E,by unfold pA;rw[uY];rfl,?_,hq⟩;unfold pA;rw[cn];have:=Sy (λe:Ent=>!decide (e.2=0)) E;omega
noncomputable abbrev yg:qai:=["layout","sets","place","row","home","names","given"]
theorem ug:aG yg qaB (aq rh):=L2.iQ
theorem uh:(yg++(["one"]:qai)).Nodup:=by decide +kernel
theorem Dq(D:Df K mg "wants" rh qaB f fd)(M:Q0 K aT)(M1:Rx K cf)(rp:cJ P w K mg base "read_cells" qaA 3 (cK K 3 (Jt cf)))(m_:cJ P w K mg base "class_of" ["key"] 3 (cK K 1 j_))(ka:cJ P w K mg base "members" ["rows"] 2 (cK K 1 m6)):cJ P w K mg base "wants" qaB 4 (cK K 3 (wx aT cf)):=by
 refine D.iI (lh D.F ug rfl λbw A outer s H E Ox hr ts q hG=>?_);have nd:=ug.nd;have hu:=bb.fK hr;have np:∀{i:Nat},aX ⟨H,[],Ox⟩ i:=iw;have aI:=M;have cg:=M1;have iY:=kH hu;refine⟨_,(ah (aN (i:=3) nd rfl (Or.inr rfl) (qau (aC (qas (gA aI.cl aI.eU (ae 0))) (ae 2))) np)
  (ah (aN (i:=4) nd rfl (Or.inl rfl) (qau (aC (qas (gA aI.cl aI.je (ae 0))) (ae 2))) np)
  (ah (aN (i:=5) nd rfl (Or.inl rfl) (qau (gA cg.cl cg.rj (ae 1))) np)
  (ah (aY (bU hu (qas (aC (ae 3) (qas af))) (qas aE))
   (ak (aJ (qau (bO (aa (qat (aV (aa (ai 5) (aa (qat (cR (aa (ai 4) (aa (qat (aC (ae 3) (qas af))) aj)))) (aa (qat (BE (qas af) (ae 2))) aj))))) aj)))))
   aL)
  (ah (aY (bU hu (qas (aC (ae 3) (qas af))) (qas aE))
   (ak (aJ (qau (bO (aa (qat (aV (aa (ai 5) (aa (qat (cR (aa (ai 4) (aa (qat (aC (ae 3) (qas af))) aj)))) (aa (qat (fS iY (ae 5) (qat (cR (aa (ai 4) (aa (qat (aC (ae 3) (qas af))) aj)))) (qat af) ⟨rfl,rfl,rfl,rfl⟩)) aj))))) aj)))))
   aL)
  (ah (aY (bU hu (qas (aC (ae 3) (qas af))) (qas aE))
   (ak (aJ (qau (bO (aa (qat (aV (aa (ai 5) (aa (qat (cR (aa (ai 4) (aa (qat (aC (ae 3) (qas af))) aj)))) (aa (qat (aO rp hr (aa (ai 1) (aa (qat (fS iY (ae 5) (qat (cR (aa (ai 4) (aa (qat (aC (ae 3) (qas af))) aj)))) (qat af) ⟨rfl,rfl,rfl,rfl⟩)) (aa (qat (aO m_ hr (aa (qat (aC (ae 3) (qas af))) aj))) aj))))) aj))))) aj)))))
   aL)
  (ah (aY (bU hu (qas (aC (ae 3) (qas af))) (qas aE))
   (ah (aN (i:=6) nd rfl (Or.inr rfl) (qau (fS iY (ae 5) (qat (cR (aa (ai 4) (aa (qat (aC (ae 3) (qas af))) aj)))) (qat af) ⟨rfl,rfl,rfl,rfl⟩)) np)
   (ak (aJ (qau (dA (ts:=["one"]) rfl (by rfl) (jL (qat (aO ka hr (aa (qat (fS iY (ae 5) (qat (cR (aa (ai 4) (aa (qat (aC (ae 3) (qas af))) aj)))) (qat af) ⟨rfl,rfl,rfl,rfl⟩)) aj)))) (λ_ _ _ _ _ _=>(aD (i:=7) uh rfl (Or.inl rfl) np)) (λ_ _ _ _ _ _=>qf) (λ_ _ _ _ _ _=>(qat (aV (aa (qat (gA cg.cl cg.ly (ae 1))) (aa (qat (cR (aa (ai 7) (aa (qat (aO m_ hr (aa (qat (aC (ae 3) (qas af))) aj))) aj)))) (aa (ai 6) aj)))))))))))
   aL)
  (ah (aY (bU hu (qas (aC (ae 3) (qas af))) (qas aE))
   Ad
   aL)
  (ak (aJ (qau (bO aj)))))))))))),λ_=>?_⟩
 obtain⟨rs,a1,a2,E,F,i,r,h,rfl,gD,ba,XQ,hh,hi,TY,hq⟩:=hG;have Z3:i<rs.length:=(dJ.mp gD).1;refine⟨rfl,_,rfl,_,L' gD,rfl,_,rfl,.int (h:Int),(Ma Z3).trans (by rw[hh];rfl),rfl,_,rfl,?_⟩;have sh:(0:Int)<=(i:Int)/\(i:Int)<=1000000/\(1:Int).natAbs<2 ^ 64:=⟨by omega,by omega,by decide⟩;cases r with
 |new x=>exact⟨_,ag (j:=0) rfl,_,ag (j:=1) rfl,bS (by simp),sh,bS (by simp),bS (by simp),hq⟩
 |put x o=>
  refine⟨_,ag (j:=0) rfl,_,ag (j:=0) rfl,_,ag (j:=1) rfl,bS (by simp),_,ag (j:=2) rfl,?_⟩;cases o with
  |nm y=>refine⟨bS (by simp),bS (by simp),bS (by simp),?_⟩;show q (.fr (.lst [.tup [.pin a1 (.dt (cD E) (cW E)),.kt (kK ((h:Int),x)),(bL (cD E) (cW E) (kK ((h:Int),y))).getD (.int 0)]]));rw[e_];exact hq
  |nu n=>refine⟨bS (by simp),bS (by simp),bS (by simp),?_⟩;show q (.fr (.lst [.tup [.pin a1 (.dt (cD E) (cW E)),.kt (kK ((h:Int),x)),(bL (cD E) (cW E) [.inl (h:Int),.inl n]).getD (.int 0)]]));rw[q_];exact hq
 |get x y k=>refine⟨_,ag (j:=0) rfl,_,ag (j:=0) rfl,_,ag (j:=0) rfl,_,ag (j:=1) rfl,bS (by simp),?_⟩;refine⟨_,ag (j:=2) rfl,bS (by simp),_,ag (j:=3) rfl,rfl,_,rfl,XQ,rfl,a1,a2,E,F,aM E ((h:Int),y),cc k,?_,TY _,bS (by simp),bS (by simp),hq⟩;show [m7 cf a1 a2 E F,(bL (cD E) (cW E) (kK ((h:Int),y))).getD (.int 0),.str (Dm (qB k))]=_;rw[e_,Dn]
 |set y k a=>
  refine⟨_,ag (j:=0) rfl,_,ag (j:=0) rfl,_,ag (j:=0) rfl,_,ag (j:=0) rfl,_,ag (j:=3) rfl,?_⟩;have fin:∀g:T,g=.int (oA E h a)->cw (hName 7) BJ (fT (PZ (bM (fT (QQ cf "cells" (cY 1))) (bM (fT (Jo (bM (cV 7) (bM (fT (gu 1 (bM (fT (f2 (cY 3) (fT (fC (.int 2))) NY)) jI) j_)) jI)))) (bM (cV 6) jI))))) [some (kX aT rs,false),some (m7 cf a1 a2 E F,false),some (.int (i:Int),false),some (aU (.set y k a),false),some (.int (h:Int),false),some (.pin a1 (.dt (cD E) (cW E)),false),some (g,false),none] (ue (mem (aM E ((h:Int),y)))) λus=>q (.fr (.lst us)):=λg eg=>by subst eg;refine iC (f:=λ(j:Nat)=>T.int (j:Int)) (u:=λ(j:Nat)=>wT a1 a2 E F (false,((j:Int),cc k),oA E h a)) (λj hj r hr=>?_) (by have I8:=hq;unfold Hl at I8;rw[uY] at I8;exact I8);refine⟨rfl,_,rfl,_,ag (j:=2) rfl,rfl,_,rfl,XQ,?_⟩;refine⟨bS (by simp),bS (by simp),?_⟩;show r (.tup [.pin a2 (.dt (cD F) (cW F)),.kt [.inl (j:Int),.inr (Dm (qB k))],.int (oA E h a)]);rw[Dn];exact hr
  have Tz:(ue (mem (aM E ((h:Int),y)))).length<=sizeLine:=by rw[cn];have h1:=Sy (ib (aM E ((h:Int),y))) (List.range (Builtin.Int.intBits (aM E ((h:Int),y))));rw[uW] at h1;have:=TY ((h:Int),y);exact bS (by show (List.filter _ _).length<=_;omega)
  have e1:[(bL (cD E) (cW E) (kK ((h:Int),y))).getD (.int 0)]=[.int (aM E ((h:Int),y))]:=by rw[e_]
  cases a with
  |nm z=>exact⟨bS (by simp),rfl,_,ag (j:=1) rfl,bS (by simp),rfl,aM E ((h:Int),y),e1,TY _,Tz,fin _ (e_ ((h:Int),z) E)⟩
  |nu n=>exact⟨bS (by simp),rfl,_,ag (j:=1) rfl,bS (by simp),rfl,aM E ((h:Int),y),e1,TY _,Tz,fin ((bL (cD E) (cW E) [.inl (h:Int),.inl n]).getD (.int 0)) (by rw[q_];rfl)⟩
 |call x g as=>cases ba
 |_=>exact⟨_,ag (j:=0) rfl,_,ag (j:=0) rfl,_,ag (j:=0) rfl,_,ag (j:=0) rfl,_,ag (j:=0) rfl,nL _,hq⟩
end
end d6
namespace MK
open PySem L2 VT Gen BS K5 x6
open PySem.Builtin (bitOr)
structure Tb where
 E:List Ent
 F:List Ent
 b:Bool
noncomputable def Tb.get(p:Tb)(w:Bool)(k:Int×Str):Int:=if w=true then aM p.E k else aM p.F k
noncomputable def Tb.put(p:Tb)(w:Bool)(k:Int×Str)(v:Int):Tb:=if w=true then {p with E:=eY p.E k v} else {p with F:=eY p.F k v}
noncomputable def gZ(p:Tb)(w:Wt):Tb:={p.put w.1 w.2.1 (bitOr (p.get w.1 w.2.1) w.2.2) with b:=p.b || !decide (bitOr (p.get w.1 w.2.1) w.2.2=p.get w.1 w.2.1)}
noncomputable def yh(rs:qal)(E F:List Ent)(i:Nat):List Wt:=match rs[i]?,j2 (bz rs) i with
 |some r,some h=>Hl E F i h r
 |_,_=>[]
noncomputable def MD(rs:qal)(p:Tb)(i:Nat):Tb:=(yh rs p.E p.F i).foldl gZ p
noncomputable def cj(rs:qal)(E F:List Ent)(n:Nat):Tb:=(List.range n).foldl (MD rs) ⟨E,F,false⟩
theorem ff(rs:qal)(E F:List Ent)(n:Nat):cj rs E F (n+1)=MD rs (cj rs E F n) n:=by unfold cj;rw[Ou,NN];rfl
theorem fW(p:Tb)(w:Wt)(b:Bool)(k:Int×Str):(gZ p w).get b k=if b=w.1/\k=w.2.1 then bitOr (p.get w.1 w.2.1) w.2.2 else p.get b k:=by obtain⟨wb,wk,wv⟩:=w;unfold gZ Tb.put Tb.get;cases wb<;>cases b<;>simp[uc]
def keyOk(rs:qal)(w:Bool)(k:Int×Str):Prop:=∃(i:Nat)(r:Rw)(h:Nat),rs[i]?=some r/\j2 (bz rs) i=some h /\
 if w=true then (k.1=(h:Int)/\(match r with | .new x=>k.2=x | .put x _=>k.2=x | .get x _ _=>k.2=x|_=>False)) else (0<=k.1/\k.1<(rs.length:Int)/\(match r with | .set _ c _=>k.2=cc c|_=>False))
structure Iv(rs:qal)(p:Tb):Prop where
 nE:(p.E.map (·.1)).Nodup
 nF:(p.F.map (·.1)).Nodup
 kE:∀e∈p.E,keyOk rs true e.1
 kF:∀e∈p.F,keyOk rs false e.1
 bl:∀w k,below rs.length (p.get w k)
theorem ui{E:List Ent}{k:Int×Str}{v:Int}(nd:(E.map (·.1)).Nodup):((eY E k v).map (·.1)).Nodup/\∀e∈eY E k v,e.1=k\/∃e'∈E,e'.1=e.1:=by
 unfold eY;by_cases h:gc E k=true;rw[if_pos h];have e:(E.map (λe=>if e.1=k then (e.1,v) else e)).map (·.1)=E.map (·.1):=by rw[uY];refine Et λe _=>?_;show (if e.1=k then (e.1,v) else e).1=e.1;split<;>rfl
 refine⟨by rw[e];exact nd,λx hx=>?_⟩;obtain⟨y,hy,rfl⟩:=kN.mp hx;exact .inr ⟨y,hy,by split<;>rfl⟩;rw[if_neg h];refine⟨?_,λx hx=>?_⟩;rw[AE,List.nodup_append];refine⟨nd,by simp,λa ha b hb e=>?_⟩;have hb:b=k:=by simpa using hb
 subst e;subst hb;obtain⟨y,hy,e⟩:=kN.mp ha;exact h (Ig.mpr ⟨y,hy,decide_eq_true e⟩);rcases g7.mp hx with z|z
 exact .inr ⟨x,z,rfl⟩;rw[cT.mp z];exact .inl rfl
theorem Iv.step{p:Tb}(I:Iv rs p){w:Wt}(hk:keyOk rs w.1 w.2.1)(hb:below rs.length w.2.2):Iv rs (gZ p w):=by
 have NW:∀b k,below rs.length ((gZ p w).get b k):=λb k=>by rw[fW];split;exact t7 (I.bl _ _) hb;exact I.bl b k
 obtain⟨wb,wk,wv⟩:=w;cases wb with
 |true=>obtain⟨h1,h2⟩:=ui (k:=wk) (v:=bitOr (p.get true wk) wv) I.nE;exact⟨h1,I.nF,λe he=>(h2 e he).elim (λz=>by rw[z];exact hk) λ⟨e',Wm,z⟩=>by rw[<- z];exact I.kE e' Wm,I.kF,NW⟩
 |false=>obtain⟨h1,h2⟩:=ui (k:=wk) (v:=bitOr (p.get false wk) wv) I.nF;exact⟨I.nE,h1,I.kE,λe he=>(h2 e he).elim (λz=>by rw[z];exact hk) λ⟨e',Wm,z⟩=>by rw[<- z];exact I.kF e' Wm,NW⟩
theorem wC{l:qao}{f:Nat->Int}(h:∀j,below n (f j)):∀x,below n x->below n (l.foldl (λt j=>bitOr t (f j)) x):=by
 induction l with
 |nil=>exact λx h=>h
 |cons j l ih=>exact λx hx=>ih _ (t7 hx (h j))
theorem ME{p:Tb}(I:Iv rs p)(hi:i<rs.length){w:Wt}(hw:w∈yh rs p.E p.F i):keyOk rs w.1 w.2.1/\below rs.length w.2.2:=by
 unfold yh at hw;obtain⟨r,hr⟩:∃r,rs[i]?=some r:=⟨_,kj hi⟩;cases hh:j2 (bz rs) i with
 |none=>rw[hr,hh] at hw;cases hw
 |some h=>
  rw[hr,hh] at hw;have bo:∀o,below rs.length (oA p.E h o):=λo=>by
   cases o with
   |nm y=>exact I.bl true _
   |nu _=>exact iB _
  cases r with
  |new x=>rw[cT.mp hw];exact⟨⟨i,_,h,hr,hh,rfl,rfl⟩,by rw[iL];exact mX hi⟩
  |put x o=>rw[cT.mp hw];exact⟨⟨i,_,h,hr,hh,rfl,rfl⟩,bo o⟩
  |get x y k=>rw[cT.mp hw];exact⟨⟨i,_,h,hr,hh,rfl,rfl⟩,wC (λj=>I.bl false _) 0 (iB _)⟩
  |set y k o=>obtain⟨j,hj,rfl⟩:=kN.mp hw;have b:=I.bl true ((h:Int),y);have:=b.bit ((mem_iff b.1).mp hj);exact⟨⟨i,_,h,hr,hh,SF j,by show (j:Int)<_;omega,rfl⟩,bo o⟩
  |_=>cases hw
theorem Iv.fold{rs:qal}:∀{l:List Wt}{p:Tb},Iv rs p->(∀w∈l,keyOk rs w.1 w.2.1/\below rs.length w.2.2)->Iv rs (l.foldl gZ p)
 |[],p,I,_=>I
 |w::l,p,I,h=>by have:=h w dq;exact Iv.fold (l:=l) (I.step this.1 this.2) λv hv=>h v (d3 _ hv)
theorem Iv.MD{p:Tb}(I:Iv rs p)(hi:i<rs.length):Iv rs (MD rs p i):=I.fold λw hw=>ME I hi hw
theorem Iv.bool{p:Tb}(I:Iv rs p)(b:Bool):Iv rs {p with b:=b}:=⟨I.nE,I.nF,I.kE,I.kF,I.bl⟩
theorem Iv.grow{E:List Ent}{b:Bool}(I:Iv rs ⟨E,F,b⟩):∀n≤rs.length,Iv rs (cj rs E F n)
 |0,_=>I.bool false
 |n+1,h=>by rw[ff];exact (I.grow n (by omega)).MD (by omega)
noncomputable def MJ(rs:qal)(i:Nat):List (Int×Str):=match rs[i]?,j2 (bz rs) i with
 |some (.new x),some h=>[((h:Int),x)]
 |some (.put x _),some h=>[((h:Int),x)]
 |some (.get x _ _),some h=>[((h:Int),x)]
 |_,_=>[]
noncomputable def MM(rs:qal)(i:Nat):List (Int×Str):=match rs[i]? with
 |some (.set _ c _)=>(List.range rs.length).map λ(j:Nat)=>((j:Int),cc c)
 |_=>[]
noncomputable def uj(rs:qal)(w:Bool):List (Int×Str):=(List.range rs.length).flatMap (if w=true then MJ rs else MM rs)
theorem wD{w:Bool}{k:Int×Str}(h:keyOk rs w k):k∈uj rs w:=by
 obtain⟨i,r,h',hr,hh,hk⟩:=h;have hi:i<rs.length:=(dJ.mp hr).1;refine Ot.mpr ⟨i,w6.mpr hi,?_⟩;cases w with
 |true=>rw[if_pos rfl] at hk ⊢;obtain⟨h1,h2⟩:=hk;unfold MJ;rw[hr,hh];cases r<;>first|(exact cT.mpr (AG h1 h2))|cases h2
 |false=>
  rw[if_neg dO] at hk ⊢;obtain⟨h1,h2,h3⟩:=hk;unfold MM;rw[hr];cases r<;>first|(exact absurd h3 id)|skip
  rename_i y c o
  exact kN.mpr ⟨k.1.toNat,w6.mpr (by omega),AG (by show ((k.1.toNat:Nat):Int)=k.1;omega) (Eq.symm h3)⟩
theorem um{α:Type}{f:Nat->List α}{m:Nat}(h:∀i,(f i).length<=m):∀l:qao,(l.flatMap f).length<=l.length * m
 |[]=>by simp
 |i::l=>by have:=um h l;have:=h i;rw[List.flatMap_cons,yH,w5,Nat.add_mul];omega
theorem pF(rs:qal)(w:Bool):(uj rs w).length<=rs.length * (rs.length+1):=by
 refine km (um (m:=rs.length+1) (λi=>?_) _) (by rw[uW];exact bG _);cases w with
 |true=>rw[if_pos rfl];unfold MJ;split<;>simp
 |false=>rw[if_neg dO];unfold MM;split;rw[cn,uW];omega;simp
theorem sub_len{α:Type}[DecidableEq α]:∀{l U:List α},l.Nodup->(∀x∈l,x∈U)->l.length<=U.length
 |[],U,_,_=>nL _
 |x::l,U,nd,h=>by rw[lC] at nd;have hx:=h x dq;have:=sub_len (l:=l) (U:=U.erase x) nd.2 λy hy=>(List.mem_erase_of_ne (λe=>nd.1 (by rw[<- e];exact hy))).mpr (h y (d3 _ hy));rw[List.length_erase_of_mem hx] at this;have:=List.length_pos_of_mem hx;rw[w5];omega
theorem Iv.Hn{p:Tb}(I:Iv rs p):p.E.length<=rs.length * (rs.length+1):=by
 have:=sub_len (U:=uj rs true) I.nE λk hk=>by obtain⟨e,he,rfl⟩:=kN.mp hk;exact wD (I.kE e he)
 rw[cn] at this;exact km this (pF rs true)
theorem Iv.Ho{p:Tb}(I:Iv rs p):p.F.length<=rs.length * (rs.length+1):=by
 have:=sub_len (U:=uj rs false) I.nF λk hk=>by obtain⟨e,he,rfl⟩:=kN.mp hk;exact wD (I.kF e he)
 rw[cn] at this;exact km this (pF rs false)
def Le(p p':Tb):Prop:=∀w k,sub (p.get w k) (p'.get w k)
theorem Le.refl(p:Tb):Le p p:=λ_ _=>gG _
theorem Le.trans{p q r:Tb}(h:Le p q)(g:Le q r):Le p r:=λw k=>cv (h w k) (g w k)
def Nw(rs:qal)(p p':Tb):Prop:=∃w k b,keyOk rs w k/\b<rs.length/\ib (p.get w k) b=false/\ib (p'.get w k) b=true
theorem Nw.le{p q r:Tb}(h:Nw rs p q)(g:Le q r):Nw rs p r:=let ⟨w,k,b,h1,h2,h3,h4⟩:=h;⟨w,k,b,h1,h2,h3,g w k b h4⟩
theorem Nw.ge{p q r:Tb}(g:Le p q)(h:Nw rs q r):Nw rs p r:=by
 obtain⟨w,k,b,h1,h2,h3,h4⟩:=h;refine⟨w,k,b,h1,h2,?_,h4⟩;cases z:ib (p.get w k) b with
 |false=>rfl
 |true=>rw[g w k b z] at h3;cases h3
theorem wF{p:Tb}{w:Wt}:Le p (gZ p w):=λb k=>by
 rw[fW];split
 rename_i h
 rw[h.1,h.2];exact gH _ _;exact gG _
theorem Dr{p:Tb}{w:Wt}(hk:keyOk rs w.1 w.2.1)(hb:below rs.length w.2.2)(h:(gZ p w).b=true):p.b=true\/Nw rs p (gZ p w):=by
 have h:(p.b || !decide (bitOr (p.get w.1 w.2.1) w.2.2=p.get w.1 w.2.1))=true:=h;cases hp:p.b with
 |true=>exact .inl rfl
 |false=>
  rw[hp,E2] at h;have f6:bitOr (p.get w.1 w.2.1) w.2.2≠p.get w.1 w.2.1:=λz=>by rw[decide_eq_true z] at h;cases h
  right
  have hs:¬ sub w.2.2 (p.get w.1 w.2.1):=λz=>f6 (ji (wq (gG _) z) (gH _ _));obtain⟨b,h1,h2⟩:∃b,ib w.2.2 b=true/\¬ ib (p.get w.1 w.2.1) b=true:=NH λz=>hs λb hb=>NH λy=>z ⟨b,hb,y⟩;refine⟨w.1,w.2.1,b,hk,hb.bit h1,by simpa using h2,?_⟩;rw[fW,if_pos ⟨rfl,rfl⟩];exact dC _ _ b h1
theorem lz:∀{l:List Wt}{p:Tb},Le p (l.foldl gZ p)
 |[],p=>Le.refl p
 |w::l,p=>wF.trans (lz (l:=l))
theorem yi{rs:qal}:∀{l:List Wt}{p:Tb},(∀w∈l,keyOk rs w.1 w.2.1/\below rs.length w.2.2)->(l.foldl gZ p).b=true->p.b=true\/Nw rs p (l.foldl gZ p)
 |[],p,_,h=>.inl h
 |w::l,p,hk,h=>by
  have h0:=hk w dq;rcases yi (l:=l) (p:=gZ p w) (λv hv=>hk v (d3 _ hv)) h with z|z
  rcases Dr h0.1 h0.2 z with z|z
  exact .inl z;exact .inr (z.le lz);exact .inr (z.ge wF)
theorem yj{rs:qal}{E F:List Ent}{b:Bool}(I:Iv rs ⟨E,F,b⟩):∀n≤rs.length,Le ⟨E,F,b⟩ (cj rs E F n)/\((cj rs E F n).b=true->Nw rs ⟨E,F,b⟩ (cj rs E F n))
 |0,_=>⟨λ_ _=>gG _,λh=>nomatch h⟩
 |n+1,h=>by
  obtain⟨h1,h2⟩:=yj I n (by omega);have I':=I.grow n (by omega);rw[ff];refine⟨h1.trans lz,λhb=>?_⟩;rcases yi (λw hw=>ME I' (by omega) hw) hb with z|z
  exact (h2 z).le lz;exact z.ge h1
noncomputable def RA(rs:qal):List ((Bool×Int×Str)×Nat):=[true,false].flatMap λw=>(uj rs w).flatMap λk=>(List.range rs.length).map λb=>((w,k),b)
noncomputable def mu(rs:qal)(p:Tb):Nat:=((RA rs).filter λx=>!ib (p.get x.1.1 x.1.2) x.2).length
theorem Ju{p p':Tb}(h:Le p p')(n:Nw rs p p'):mu rs p'<mu rs p:=by
 obtain⟨w,k,b,h1,h2,h3,h4⟩:=n;refine TS.filter_lt (λx _ z=>?_) (y:=((w,k),b)) ?_ (by show (!ib (p'.get w k) b)=false;rw[h4];rfl) (by show (!ib (p.get w k) b)=true;rw[h3];rfl);cases q:ib (p.get x.1.1 x.1.2) x.2 with
 |false=>rfl
 |true=>rw[h _ _ _ q] at z;cases z
 refine Ot.mpr ⟨w,by cases w<;>simp,Ot.mpr ⟨k,wD h1,kN.mpr ⟨b,w6.mpr h2,rfl⟩⟩⟩
noncomputable def jo(rs:qal):Nat->Tb
 |0=>⟨[],[],false⟩
 |m+1=>cj rs (jo rs m).E (jo rs m).F rs.length
theorem Ds(rs:qal):Iv rs ⟨[],[],false⟩:=⟨E1,E1,λe h=>(nomatch h),λe h=>(nomatch h),λw k=>by cases w<;>exact iB rs.length⟩
theorem pG(rs:qal):∀m,Iv rs (jo rs m)
 |0=>Ds rs
 |m+1=>(show Iv rs ⟨(jo rs m).E,(jo rs m).F,(jo rs m).b⟩ from pG rs m).grow rs.length (bG _)
end MK
namespace VT
open PySem PySem.Spec PyProof.Rows L2
section
variable{A:qah}
theorem At.frame{t:T}(here:∀b∈A,∃u,H b=some u/\kR u=true)(fr:∀b o,H b=some o->b∉A->H' b=some o)(h:At K H A t v):At K H' A t v:=by
 have rd:∀{a:Addr}{u:HO},a∉A->Rd H a u->Rd H' a u:=λn q=>q.elim (λz=>.inl (fr _ _ z n)) λ⟨o,z⟩=>.inr ⟨o,fr _ _ z n⟩;refine At.map (λa vs q=>q.elim (λz=>.inl ⟨rd z.2 z.1,z.2⟩) .inr) (λa vs q=>q.elim (λz=>.inl (rd (λm=>?_) z)) .inr) (λa u q=>⟨fr _ _ q.1 q.2,q.2⟩) h;obtain⟨u,e,mu⟩:=here a m;obtain z|⟨o,z⟩:=z
 rw[e] at z;cases z;cases mu;rw[e] at z;cases z;cases mu
end
noncomputable def RB:S2:=⟨[],[],[],[]⟩
noncomputable def Z4(i j:Nat)(Gg:T->S2->(S2->T->Prop)->Prop)(MN:qaj->(qam)->Prop):Je:=λ_ dp ρ=>i<ρ.length/\match ρ[j]? with
 |some (some (l,false))=>∃W:Nat->S2->Prop,(∃m,W m RB)/\∀m s,W m s->Gg l s λs' t=>∃b,t=.bl b/\if b=true then ∃m',m'<m/\W m' s' else
  ∀o1 o2,MN [.df o1 s'.k1 s'.t1] λr1=>∃RC,r1=.fr (.lst RC)/\iT RC=true/\MN [.df o2 s'.k2 s'.t2] λr2=>∃RD,r2=.fr (.lst RD)/\iT RD=true/\dp [.lst RC,.lst RD]
 |_=>False
section
variable{X:Cx}{Gg:T->S2->(S2->T->Prop)->Prop}{MN:qaj->(qam)->Prop}
theorem Dt(K:qaf)(H:Hp):au K ⟨H,[],[]⟩ [] [] [] [] H:=⟨rfl,rfl,λi e h=>by simp at h,E1,λa h=>absurd h fm,λp hp=>absurd hp fm,λa h=>absurd h fm,λb o e _=>e,λp hp=>absurd hp fm⟩
theorem pH{t:T}{q:qaj->Prop}{Q:VK}(a:At X.K H [] t v)(hG:MN [t] λr=>∃ts,r=.fr (.lst ts)/\iT ts=true/\q ts)(k:∀ts,q ts->iT ts=true->∀l vs H',aF H H'->H l=none->H' l=some (.lst vs)->(∀A,ax X.K H' A ts vs)->Q (.ref l) H'):cK X.K 1 MN ([v]++[]) H Q E0 :=
 xA (X:=X) (Dt X.K H) (ax.cons a ax.nil) rfl hG λr ⟨ts,er,hi,hq⟩ w H' sm z=>by subst er;obtain⟨l,rfl,_,⟨vs,e,av⟩,n,_⟩:=z;exact k ts hq hi l vs H' sm n e λA=>ax.oQ hi av
theorem MO(hB:M.hb=true){s:S2}{H0:Hp}{Ox:qah}{o1 o2:Obj}{iK gW:qak}{dp:qaj->Prop}(sd:SD K M s H)(l1:s.k1.length=iK.length)(e1:H M.a1=some (.dT (s.k1.zip iK)))(q1:ax K H M.Ox s.t1 iK)(l2:s.k2.length=gW.length)(e2:H M.a2=some (.dT (s.k2.zip gW)))(q2:ax K H M.Ox s.t2 gW):∃H2,H2=upd (upd H M.a1 (.dH o1 (.dT (s.k1.zip iK)))) M.a2 (.dH o2 (.dT (s.k2.zip gW))) /\
  At K H2 [] (.df o1 s.k1 s.t1) (.ref M.a1)/\At K H2 [] (.df o2 s.k2 s.t2) (.ref M.a2)/\H2 M.a=some (.ins M.C M.dx (fN.zip [.ref M.a1,.ref M.a2]))/\∀b o,H b=some o->b∉M.Ox->H2 b=some o:=by
 have m1:M.a1∈M.Ox:=M.m1;have m2:M.a2∈M.Ox:=M.m2;have zf:upd H M.a1 (.dH o1 (.dT (s.k1.zip iK))) M.a2=some (.dT (s.k2.zip gW)):=by rw[ar (Ne.symm M.n3)];exact e2
 refine⟨_,rfl,?_,?_,?_,λb o e n=>?_⟩;simp only[At];exact⟨M.a1,iK,rfl,l1,⟨by rw[ar M.n3,ay],λz=>nomatch z⟩,((q1.wrote m1 e1 rfl).wrote m2 zf rfl).aP λb hb=>nomatch hb⟩;simp only[At];exact⟨M.a2,gW,rfl,l2,⟨ay,λz=>nomatch z⟩,((q2.wrote m1 e1 rfl).wrote m2 zf rfl).aP λb hb=>nomatch hb⟩;rw[ar M.n2,ar M.n1];exact sd.ins hB;rw[ar (λz=>n (by rw[z];exact m2)),ar (λz=>n (by rw[z];exact m1))];exact e
structure Made(C:Addr)(H H3:Hp)(a dx p1 p2:Addr):Prop where
 same:aF H H3
 na:H a=none
 n1:H p1=none
 n2:H p2=none
 ne:p1≠p2
 ea:H3 a=some (.ins C dx (fN.zip [.ref p1,.ref p2]))
 d1:H3 p1=some (.dT [])
 d2:H3 p2=some (.dT [])
def RE(C:Addr):TE:=λσ H Q=>∀a dx p1 p2 H3,Made C H H3 a dx p1 p2->Q (.ref a) H3
theorem Hq{xC:Str}{kC:Nat}{fI:Addr}{RF:FuncData}{RG:qai}{GI:qaj->(T->Prop)->Prop}{pC Jv yk pc:Pos}(MI:Mk X.K C fI)(FI:cU X.prog X.w X.K X.mg X.base gP kC fI RF RG (L9 X.K C 2 GI))(Wn:∀t1 t2 q,q (.ins C fN [t1,t2])->GI [t1,t2] q)(rI:bb (kC+1) X.A)(gI:Gl X xC)(mI:X.mg xC=some (.ref C))(bI:Binds X.K RF RG [])(Wo:eG xC:=by decide)(s1:starEach [.Dict [] [] Jv,.Dict [] [] yk] X.env=(false,eval (.Dict [] [] Jv) X.env)::starEach [.Dict [] [] yk] X.env:=by rfl)(s2:starEach [.Dict [] [] yk] X.env=(false,eval (.Dict [] [] yk) X.env)::starEach [] X.env:=by rfl)(s3:(backTo pc (starEach [.Dict [] [] yk] X.env)).any (·.1)=false:=by rfl):PE X (.Call (.Name xC pC) [.Dict [] [] Jv,.Dict [] [] yk] [] pc) (RE C) :=
 PE.weak (xh MI FI rI gI mI bI .nil kz (a8 mG (a8 mG cF s2) s1) Wo s1 s3) λσ H Q h=>by
  intro p1 Qu p2 zA;have sa:aF H (upd H p1 (.dT [])):=aB Qu;have sb:aF (upd H p1 (.dT [])) (upd (upd H p1 (.dT [])) p2 (.dT [])):=aB zA;have Du:p1≠p2:=λz=>by rw[<- z,ay] at zA;cases zA
  have MQ:H p2=none:=by rw[ar (Ne.symm Du)] at zA;exact zA
  have d1:upd (upd H p1 (.dT [])) p2 (.dT []) p1=some (.dT []):=sb _ _ ay;have d2:upd (upd H p1 (.dT [])) p2 (.dT []) p2=some (.dT []):=ay;refine xR (X:=X) (Z:=⟨_,[],[]⟩) (C:=C) (G:=GI) (Q:=Q) (q:=λr=>r=.fr (.ins C fN [.pin p1 (.dt [] []),.pin p2 (.dt [] [])])) (Dt X.K _) (ts:=[.pin p1 (.dt [] []),.pin p2 (.dt [] [])]) (vs:=[.ref p1,.ref p2]) (ax.cons ?_ (ax.cons ?_ ax.nil)) rfl (Wn _ _ (λu=>Rt.fr u=.fr (.ins C fN [.pin p1 (.dt [] []),.pin p2 (.dt [] [])])) rfl) (λr er v H3 sm z=>?_);unfold At;refine⟨rfl,?_⟩;simp only[At];exact⟨p1,[],rfl,rfl,⟨d1,λm=>nomatch m⟩,ax.nil⟩;unfold At;refine⟨rfl,?_⟩;simp only[At];exact⟨p2,[],rfl,rfl,⟨d2,λm=>nomatch m⟩,ax.nil⟩;subst er;obtain⟨a,rfl,_,⟨dx,vs,hl,ea,hv⟩,n0,_⟩:=z;simp only[ax] at hv;obtain⟨_,_,rfl,h1,_,_,rfl,h2,rfl⟩:=hv;unfold At at h1 h2;obtain⟨rfl,_⟩:=h1;obtain⟨rfl,_⟩:=h2;refine h a dx p1 p2 H3 ⟨(sa.trans sb).trans sm,?_,Qu,MQ,Du,ea,sm _ _ d1,sm _ _ d2⟩;cases z:H a with
  |none=>rfl
  |some o=>have:=sb _ _ (sa _ _ z);rw[show upd (upd H p1 (.dT [])) p2 (.dT []) a=none from n0] at this;cases this
theorem wG{xC xg xl:Str}{kC kg kl:Nat}{fI fg fl:Addr}{RF XR XS:FuncData}{RG XT XU:qai}{GI:qaj->(T->Prop)->Prop}{px pC p1 Jv yk pc pg RH Jw TZ pw pp Jx EO RI MR Wq RJ Hr Ae pt pr:Pos}{kt}(hP:Z.P=[])(xr:i≠j)(hN:X.N.Nodup)(hi:X.N[i]?=some x)(hj:X.N[j]?=some y)(hx:Loc X.env.scope x)(vx:ko X.env.scope x)(vy:ko X.env.scope y)(hp:PassesOwn (model X.prog X.w) X.A X.env X.xe)(MI:Mk X.K C fI)(FI:cU X.prog X.w X.K X.mg X.base gP kC fI RF RG (L9 X.K C 2 GI))(Wn:∀t1 t2 q,q (.ins C fN [t1,t2])->GI [t1,t2] q)(rI:bb (kC+1) X.A)(gI:Gl X xC)(mI:X.mg xC=some (.ref C))(bI:Binds X.K RF RG [])(Fg:cU X.prog X.w X.K X.mg X.base gP kg fg XR XT (TM X.K C Gg))(rg:bb kg X.A)(gg:Gl X xg)(mg:X.mg xg=some (.ref fg))(Z5:PySem.W.keepIn X.K (.ref fg)=true)(bg:Binds X.K XR XT [])(Fl:cU X.prog X.w X.K X.mg X.base gP kl fl XS XU (cK X.K 1 MN))(rl:bb kl X.A)(gl:Gl X xl)(ml:X.mg xl=some (.ref fl))(XW:PySem.W.keepIn X.K (.ref fl)=true)(bl:Binds X.K XS XU [])(cl:Bc X.K C)(n1:bN X.K C "names")(n2:bN X.K C "cells")(hd:eG x:=by decide)(eI:nJ x:=by decide)(hd2:eG y:=by decide)(ow:nJ y:=by decide)(Wo:eG xC:=by decide)(Z6:eG xg:=by decide)(XY:eG xl:=by decide)(s1:starEach [.Dict [] [] Jv,.Dict [] [] yk] X.env=(false,eval (.Dict [] [] Jv) X.env)::starEach [.Dict [] [] yk] X.env:=by rfl)(s2:starEach [.Dict [] [] yk] X.env=(false,eval (.Dict [] [] yk) X.env)::starEach [] X.env:=by rfl)(s3:(backTo pc (starEach [.Dict [] [] yk] X.env)).any (·.1)=false:=by rfl)(g1:starEach [.Name y RH,.Name x Jw] X.env=(false,eval (.Name y RH) X.env)::starEach [.Name x Jw] X.env:=by rfl)(g2:starEach [.Name x Jw] X.env=(false,eval (.Name x Jw) X.env)::starEach [] X.env:=by rfl)(g3:(backTo TZ (starEach [.Name x Jw] X.env)).any (·.1)=false:=by rfl)(he:∀whole,isTrue (.Call (.Name xg pg) [.Name y RH,.Name x Jw] [] TZ) X.env whole=(do let v <- whole;standAt (Expr.pos (.Call (.Name xg pg) [.Name y RH,.Name x Jw] [] TZ));holding [v] (truthy v)):=by intro _;rfl)(b1:attributeBase (.Name x Jx) "names" X.env (eval (.Name x Jx) X.env)=eval (.Name x Jx) X.env:=by rfl)(b2:attributeBase (.Name x EO) "cells" X.env (eval (.Name x EO) X.env)=eval (.Name x EO) X.env:=by rfl)(a1:starEach [.Attribute (.Name x Jx) "names" RI] X.env=(false,eval (.Attribute (.Name x Jx) "names" RI) X.env)::starEach [] X.env:=by rfl)(a2:starEach [.Attribute (.Name x EO) "cells" MR] X.env=(false,eval (.Attribute (.Name x EO) "cells" MR) X.env)::starEach [] X.env:=by rfl)(a3:(backTo Hr (starEach [] X.env)).any (·.1)=false:=by rfl)(a4:(backTo Ae (starEach [] X.env)).any (·.1)=false:=by rfl)(t1:starEach [.Call (.Name xl Wq) [.Attribute (.Name x Jx) "names" RI] [] Hr,.Call (.Name xl RJ) [.Attribute (.Name x EO) "cells" MR] [] Ae] X.env=(false,eval (.Call (.Name xl Wq) [.Attribute (.Name x Jx) "names" RI] [] Hr) X.env)::starEach [.Call (.Name xl RJ) [.Attribute (.Name x EO) "cells" MR] [] Ae] X.env:=by rfl)(t2:starEach [.Call (.Name xl RJ) [.Attribute (.Name x EO) "cells" MR] [] Ae] X.env=(false,eval (.Call (.Name xl RJ) [.Attribute (.Name x EO) "cells" MR] [] Ae) X.env)::starEach [] X.env:=by rfl)(hs:swapsWith (.Call (.Name xC pC) [.Dict [] [] Jv,.Dict [] [] yk] [] pc) (some (.Name x px)) p1.line X.env=pure false:=by rfl)(hf:X.fn x=true\/X.env.scope.names.lookup x=some .local:=by first|exact .inl rfl|exact .inr rfl|assumption) :
  zH X Z [.Assign [.Name x px] (.Call (.Name xC pC) [.Dict [] [] Jv,.Dict [] [] yk] [] pc) p1,.While (.Call (.Name xg pg) [.Name y RH,.Name x Jw] [] TZ) [.Pass pp] [] pw,
   .Return (some (.Tuple [.Call (.Name xl Wq) [.Attribute (.Name x Jx) "names" RI] [] Hr,.Call (.Name xl RJ) [.Attribute (.Name x EO) "cells" MR] [] Ae] kt pt)) pr] (Z4 i j Gg MN):=.mk λtm=>
 ik.kB (gp (pU hN hi hx (Hq MI FI Wn rI gI mI bI Wo s1 s2 s3) hs hf)
  (gp (sy hp (A3 (gO Fg rg gg mg Z5 bg .nil kz (a8 (bD hj vy hd2 ow) (a8 (bD hi vx hd eI) cF g2) g1) Z6 g1 g3) he) (iO Fb))
    (qR (qR (iO (u7 (jE (a8 (gO Fl rl gl ml XW bl .nil kz (a8 (vh (bD hi vx hd eI) b1) cF a1) XY a1 a3) (a8 (gO Fl rl gl ml XW bl .nil kz (a8 (vh (bD hi vx hd eI) b2) cF a2) XY a2 a4) cF t2) t1)))))))) λD σ H ⟨ρ,O,d,dp,I,q,F⟩=>by
  obtain⟨V7,q⟩:=q;split at q
  rename_i l el
  obtain⟨W,w0,step⟩:=q;intro a dx p1 p2 H3 ⟨sH,na,Qu,MQ,Du,ea,XZ,X0⟩
  let M:MG:=⟨a,dx,p1,p2,C,H3,(λz=>by rw[z,XZ] at ea;cases ea),(λz=>by rw[z,X0] at ea;cases ea),Du,true⟩
  have nO:∀b∈M.Ox,H b=none:=λb hb=>by
   rcases M.mem hb with⟨_,rfl⟩|rfl|rfl
   exact na;exact Qu;exact MQ
  have RK:∀b o,Z.H0 b=some o->H b=some o:=λb o e=>I.keep b o e (by rw[hP];exact λz=>nomatch z);have Z7:SD X.K M RB H3:=⟨λ_=>ea,⟨[],rfl,XZ,ax.nil⟩,⟨[],rfl,X0,ax.nil⟩,λb o e _=>e⟩;obtain⟨_,_,o1,o2,rfl,v0,rfl,Z8⟩:=I.sl j _ el;have Z9:At X.K H3 M.Ox l v0:=(Z8.more λb hb=>.inr (nO b hb)).same sH;have sj:(σ.set i (some (.ref a)))[j]?=some (some v0):=by rw[r6 xr];exact o2
  have si:(σ.set i (some (.ref a)))[i]?=some (some (.ref a)):=AB (by rw[I.lσ];exact V7);refine⟨λm σ' H'=>σ'=σ.set i (some (.ref a))/\∃s,W m s/\SD X.K M s H'/\At X.K H' M.Ox l v0,?_,?_⟩;obtain⟨m,hm⟩:=w0;exact⟨m,rfl,_,hm,Z7,Z9⟩;rintro m _ H4 ⟨rfl,s,hw,sd,X1⟩;refine⟨v0,sj,.ref a,si,?_⟩;refine⟨M,s,l,v0,_,⟨rfl,rfl⟩,rfl,X1,⟨sd.ins,sd.d1,sd.d2,λb o e _=>e⟩,step m s hw,λs' t ht v H5 RL a5=>?_⟩;obtain⟨b,rfl,hb⟩:=ht;simp only[At] at a5;refine⟨b,a5,?_⟩;have RM:SD X.K M s' H5:=⟨RL.ins,RL.d1,RL.d2,λb o e n=>RL.fr b o (sd.fr b o e n) n⟩;cases b with
  |true=>
    rw[if_pos rfl] at hb;show if true=true then _ else _
    rw[if_pos rfl];obtain⟨m',lt,Z_⟩:=hb;exact⟨λσ' H'=>σ'=σ.set i (some (.ref a))/\∃s,W m' s/\SD X.K M s H'/\At X.K H' M.Ox l v0,λσ' H' h=>⟨m',lt,h⟩,rfl,s',Z_,RM,X1.frame sd.here λb o e n=>RL.fr b o e n⟩
  |false=>
    rw[if_neg dO] at hb;show if false=true then _ else _
    rw[if_neg dO];obtain⟨iK,l1,e1,q1⟩:=RM.d1;obtain⟨gW,l2,e2,q2⟩:=RM.d2;refine⟨p1,_,e1,λo1=>⟨p2,_,(by rw[ar (Ne.symm Du)];exact e2),λo2=>?_⟩⟩;obtain⟨H6,eH,A1,A2,X2,fr6⟩:=MO (hB:=rfl) (o1:=o1) (o2:=o2) (H0:=H) (Ox:=[]) (dp:=dp) RM l1 e1 q1 l2 e2 q2;have fr:∀b o,Z.H0 b=some o->H6 b=some o:=λb o e=>by
     have e':=RK b o e;have n:b∉M.Ox:=λz=>by rw[nO b z] at e';cases e'
     exact fr6 b o (RM.fr b o (sH _ _ e') n) n
    rw[<- show _=_ from eH];refine⟨.ref a,si,a,C,dx,_,.ref p1,rfl,X2,cl,n1,rfl,pH A1 (hb o1 o2) λRC h1 i1 b1 Wr H7 s7 n7 e7 at7=>?_⟩;refine⟨.ref a,si,a,C,dx,_,.ref p2,rfl,s7 _ _ X2,cl,n2,rfl,pH (A2.same s7) h1 λRD h2 i2 b2 Ws H8 s8 n8 e8 at8=>?_⟩;refine⟨by rw[sizeLine_eq];simp,λp hp=>?_⟩;have sp:aF H8 (upd H8 p (.tup [.ref b1,.ref b2])):=aB hp;have ne:b1≠b2:=λz=>by rw[<- z,e7] at n8;cases n8
    refine F.dp [.lst RC,.lst RD] h2 p [b1,b2] _ ⟨λb o e=>sp _ _ (s8 _ _ (s7 _ _ (fr b o e))),ay,?_,?_,?_⟩;simp[ne];intro b X3;simp only[dh,fm,or_false] at X3;cases z:Z.H0 b with
    |none=>rfl
    |some o=>
      exfalso;have e6:=fr b o z;obtain rfl|rfl:=X3
      rw[n7] at e6;cases e6;rw[s7 _ _ e6] at n8;cases n8
    refine .cons ⟨Wr,sp _ _ (s8 _ _ e7),((at7 _).same s8).same sp⟩ (.cons ⟨Ws,sp _ _ e8,(at8 _).same sp⟩ .nil)
  exact q.elim
end
section
variable{X:Cx}{st:Stmt}{rest:qaq}{g u:iJ}
noncomputable def S2.put2(s:S2)(k:List Key)(t:T):S2:={s with k2:=CI s.k2 k,t2:=xY s.k2 s.t2 k t}
noncomputable def Jy(M:MG)(n m:Nat)(f:FE):iJ:=λd ρ s=>f (ρ.map (kL M s)) λt=>jh t/\ρ[n]?=some (some (.ob M.a2,false))/\s.t2.length<16777216/\∃k,ρ[m]?=some (some (.kt k,false))/\d.nx ρ (s.put2 k t)
theorem pI{tm:qab}{s:S2}{H1:Hp}{A:qah}{D:Ends}{d:AO}{t:T}{k:List Key}(S1:SG X.K M tm ρ s σ H1)(F:CT X.K M tm d D)(EM:jh t)(a:At X.K H' A t v)(hn:ρ[n]?=some (some (.ob M.a2,false)))(hlen:s.t2.length<16777216)(hk:ρ[m]?=some (some (.kt k,false)))(hq:d.nx ρ (s.put2 k t)) :
  yN n σ H1 λx H2=>yN m σ H2 λy H3=>∃a H4,x=.ref a/\tI H3 a y v H4/\D.nx σ H4:=by
 obtain⟨O1,we,I1⟩:=S1.env;obtain⟨_,_,_,z1,_,v1,rfl,b1⟩:=I1.sl n _ hn;obtain⟨_,_,_,z2,_,v2,rfl,b2⟩:=I1.sl m _ hk;simp only[At] at b1;subst b1;rw[cQ we] at b2;simp only[At] at b2;obtain⟨b,rfl,hb,_⟩:=b2;obtain⟨vs,hl,h1,h2⟩:=S1.sd.d2;have hz:(s.k2.zip vs).length<sizeLine:=by rw[sizeLine_eq,JP,hl,Il,h2.length];omega
 have pq:=Jl s.k2 vs k v hl;refine⟨.ref M.a2,z1,.ref b,z2,M.a2,_,rfl,tI.t h1 hb hz,?_⟩;rw[pq.1];have G6:M.a2∈M.Ox:=M.m2;have wr:∀{t:T}{v':V},At X.K H1 M.Ox t v'->At X.K (upd H1 M.a2 (.dT ((CI s.k2 k).zip (xY s.k2 vs k v)))) M.Ox t v':=λq=>At.wrote G6 h1 rfl q;have Rl:∀{t:qaj}{v':qak},ax X.K H1 M.Ox t v'->ax X.K (upd H1 M.a2 (.dT ((CI s.k2 k).zip (xY s.k2 vs k v)))) M.Ox t v':=λq=>ax.wrote G6 h1 rfl q;have na:M.a≠M.a2:=M.n2;refine F.nx ρ (s.put2 k t) σ _ ⟨⟨O1,we,I1.lσ,I1.lO,λi e he=>?_,I1.nd,λb hb=>(by rw[we] at hb;exact absurd hb fm),λp hp=>absurd hp fm,λb hb=>?_,λb o e _=>e,λp hp=>?_⟩,?_,?_,?_,λb o e n=>(by rw[ar (λz=>n (by rw[z];exact G6))];exact S1.sd.fr b o e n)⟩ hq;obtain⟨o,sv,g1,g2,g3⟩:=I1.sl i e he;refine⟨o,sv,g1,g2,?_⟩;rw[cQ we] at g3 ⊢;refine g3.map (λt v z=>wr z) λb t' eo _=>?_;subst eo;have:=aA.mpr (fY g1);rw[we] at this;exact absurd this fm;by_cases e:b=M.a2;rw[e,ay];simp;rw[ar e];obtain⟨u,eu,_⟩:=S1.sd.here b hb;rw[eu];simp;have:=I1.iH p hp;rw[cQ we] at this ⊢;exact wr this;exact λz=>by rw[ar na];exact S1.sd.ins z
 obtain⟨gW,l2,e2,q2⟩:=S1.sd.d1;exact⟨gW,l2,by rw[ar M.n3];exact e2,Rl q2⟩;exact⟨_,pq.2,ay,Rl (CK h2 (mV EM a))⟩
theorem Hs(n m:Nat){f:FE}(hu:X.A.units+1<cLine)(he:∀H0 Ox,VE X ⟨H0,[],Ox⟩ e f)(hN:X.N[n]?=some x:=by rfl)(hv:ko X.env.scope x:=by first|exact Or.inl rfl|exact Or.inr (Or.inl rfl)|exact Or.inr (Or.inr rfl))(hd:eG x:=by decide)(eI:nJ x:=by decide)(EN:X.N[m]?=some y:=by rfl)(Jn:ko X.env.scope y:=by first|exact Or.inl rfl|exact Or.inr (Or.inl rfl)|exact Or.inr (Or.inr rfl))(hd2:eG y:=by decide)(ow:nJ y:=by decide)(hs:swapsWith e (some (.Subscript (.Name x p) (.Name y p2) du)) pos.line X.env=pure false:=by rfl):GS X M (.Assign [.Subscript (.Name x p) (.Name y p2) du] e pos) (Jy M n m f):=.mk λtm pins s' σ H D J ⟨ρ,s,d,S,hg,F⟩=>by obtain⟨O,hr,I⟩:=S.env;obtain⟨O2,N9,I2⟩:=S.up;refine qJ hu (bD hN hv hd eI) (bD EN Jn hd2 ow) (he H [] tm) hs pins s' σ H D J ⟨_,O2,_,I2,hg,λt ht v H1 sm a=>?_⟩;obtain⟨EM,hn,hlen,k,hk,hq⟩:=ht;exact pI (S.c6 sm) F EM a hn hlen hk hq
noncomputable def RN(M:MG)(n m:Nat)(f:FE):iJ:=λd ρ s=>Jm M n m f d ρ s\/Jy M n m f d ρ s
theorem GS.or{g u:iJ}{st:Stmt}(h1:GS X M st g)(h2:GS X M st u):GS X M st (λd ρ s=>g d ρ s\/u d ρ s):=.mk λtm pins s' σ H D J ⟨ρ,s,d,S,hg,F⟩=>by
 obtain hg|hg:=hg
 exact h1.h tm pins s' σ H D J ⟨ρ,s,d,S,hg,F⟩;exact h2.h tm pins s' σ H D J ⟨ρ,s,d,S,hg,F⟩
theorem MT(n m:Nat){f:FE}(hu:X.A.units+1<cLine)(he:∀H0 Ox,VE X ⟨H0,[],Ox⟩ e f)(hN:X.N[n]?=some x:=by rfl)(hv:ko X.env.scope x:=by first|exact Or.inl rfl|exact Or.inr (Or.inl rfl)|exact Or.inr (Or.inr rfl))(hd:eG x:=by decide)(eI:nJ x:=by decide)(EN:X.N[m]?=some y:=by rfl)(Jn:ko X.env.scope y:=by first|exact Or.inl rfl|exact Or.inr (Or.inl rfl)|exact Or.inr (Or.inr rfl))(hd2:eG y:=by decide)(ow:nJ y:=by decide)(hs:swapsWith e (some (.Subscript (.Name x p) (.Name y p2) du)) pos.line X.env=pure false:=by rfl):GS X M (.Assign [.Subscript (.Name x p) (.Name y p2) du] e pos) (RN M n m f) :=
 GS.or (G7 n m hu he hN hv hd eI EN Jn hd2 ow hs) (Hs n m hu he hN hv hd eI EN Jn hd2 ow hs)
theorem Wu(M:MG)(s:S2):kL M s (some (.ob M.a2,false))=some (.dt s.k2 s.t2,false):=by show (if M.a2=M.a1 then _ else _)=_;rw[if_neg (Ne.symm M.n3),if_pos rfl]
end
end VT
namespace d6
open PySem L2 VT Gen K5 Lay BS x6 MK
open PySem.Builtin (bitOr)
noncomputable def sE(E F:List Ent):S2:=⟨cD E,cW E,cD F,cW F⟩
def Dv(C:Addr)(l:T)(s:S2)(q:S2->T->Prop):Prop:=∃(rs:qal)(E F:List Ent),l=kX C rs/\s=sE E F/\(∀r∈rs,TU r=true/\TX r)/\rs.length<=64/\Iv rs ⟨E,F,false⟩/\q (sE (cj rs E F rs.length).E (cj rs E F rs.length).F) (.bl (cj rs E F rs.length).b)
noncomputable abbrev X4(M:MG)(C:Addr)(rs:qal)(b:Bool)(b3 b4 b5 b6 b7 b8:Option T):En:=[some (kX C rs,false),some (.ob M.a,false),some (.bl b,false),gk b3,gk b4,gk b5,gk b6,gk b7,gk b8]
theorem Dw(rs:qal)(i:Nat){t:T}(h:(dX (tS rs))[i]?=some t):i<rs.length/\t=.tup [.int (i:Int),oT (j2 (bz rs) i)]:=by unfold dX tS at h;rw[Sz,fj] at h;by_cases hi:i<rs.length;rw[So hi] at h;cases h;exact⟨hi,rfl⟩;rw[Sw (by rw[uW];omega)] at h;cases h
theorem Dx(rs:qal):(dX (tS rs)).length=rs.length:=by unfold dX tS;simp
theorem Ht{d:AO}{s:S2}{ts:qaj}{k:List Key}(h5:(ρ.map (kL M s))[n]?=some (some (.dt ks ts,false)))(h6:(ρ.map (kL M s))[m]?=some (some (.kt k,false)))(hq:jh ((bL ks ts k).getD (.int 0))/\d.nx (ρ.set i (some ((bL ks ts k).getD (.int 0),false))) s):CU M i (fT (wg (cY n) (cV m) (fT (fC (.int 0))))) d ρ s:=by unfold CU fT wg cY;rw[h5];show cV m _ _;unfold cV;rw[h6];exact hq
theorem Dy{n2 n8:Nat}{d:AO}{s s0:S2}(es:s0=s){ts:qaj}{k:List Key}{b:Bool}{v before:Int}(h2:(ρ.map (kL M s))[n2]?=some (some (.bl b,false)))(h5:(ρ.map (kL M s))[n]?=some (some (.dt ks ts,false)))(h6:(ρ.map (kL M s))[m]?=some (some (.kt k,false)))(h8:(ρ.map (kL M s))[n8]?=some (some (.int before,false)))(hg:bL ks ts k=some (.int v))(hq:jh (.bl (b || !decide (v=before)))/\d.nx (ρ.set i (some (.bl (b || !decide (v=before)),false))) s) :
  CU M i (fT (K_ (fV (cV n2)) (f2 (fT (CZ (cY n) (cV m))) (cY n8) IH))) d ρ s0:=by
 rw[es];unfold CU fT K_ fV cV;rw[h2];cases b with
 |true=>exact hq
 |false=>show f2 _ _ _ _ _;unfold f2 CZ cY;dsimp only;rw[h5];show (match (ρ.map (kL M s))[m]? with|some (some (t,false))=>_|_=>False);rw[h6];refine⟨_,hg,?_⟩;show (match (ρ.map (kL M s))[n8]? with|some (some (t,_))=>_|_=>False);rw[h8];exact hq
theorem Dz{g u:iJ}{d:AO}{s:S2}{t:T}(h:ρ[n]?=some (some (t,false)))(ht:sY t=false)(hg:g d ρ s):Wd (jG (f2 (cY n) (fT (fC .a9)) qu)) g u d ρ s:=by
 unfold Wd jG f2 cY;rw[h];show if (!sY t)=true then g d ρ s else u d ρ s
 rw[ht];exact hg
noncomputable def wO(M:MG)(p:Wt):T:=.tup [.ob (if p.1=true then M.a1 else M.a2),.kt (kK p.2.1),.int p.2.2]
theorem Jz(M:MG)(E F:List Ent):∀l:List Wt,z7 (l.map (wT M.a1 M.a2 E F))=some (l.map (wO M))
 |[]=>rfl
 |p::l=>by rw[gj,gj];obtain⟨b,k,v⟩:=p;unfold z7;rw[Jz M E F l];cases b<;>rfl
theorem DA(p:Tb)(w:Bool)(k:Int×Str)(v:Int):(if w=true then (sE p.E p.F).wd (kK k) (.int v) else (sE p.E p.F).put2 (kK k) (.int v))=sE (p.put w k v).E (p.put w k v).F:=by
 cases w with
 |true=>show S2.wd _ _ _=_;unfold S2.wd sE Tb.put;dsimp only;rw[C7 p.E k v,fH];rfl
 |false=>show S2.put2 _ _ _=_;unfold S2.put2 sE Tb.put;dsimp only;rw[C7 p.F k v,fH];rfl
noncomputable def Wv(p:Tb)(w:Bool):T:=if w=true then .dt (cD p.E) (cW p.E) else .dt (cD p.F) (cW p.F)
theorem RO(M:MG)(p:Tb)(w:Bool):kL M (sE p.E p.F) (some (.ob (if w=true then M.a1 else M.a2),false))=some (Wv p w,false):=by
 cases w with
 |true=>exact Wc M _
 |false=>exact Wu M _
theorem RP{f:FE}{d:AO}{p:Tb}{ub:Bool}{k:Int×Str}{v:Int}(hf:∀Q:T->Prop,Q (.int v)->f (ρ.map (kL M (sE p.E p.F))) Q)(h5:ρ[n]?=some (some (.ob (if ub=true then M.a1 else M.a2),false)))(h6:ρ[m]?=some (some (.kt (kK k),false)))(l1:p.E.length<16777216)(l2:p.F.length<16777216)(hq:d.nx ρ (sE (p.put ub k v).E (p.put ub k v).F)):RN M n m f d ρ (sE p.E p.F):=by
 rw[<- DA] at hq;cases ub with
 |true=>exact .inl (hf _ ⟨.inl ⟨_,rfl⟩,h5,by show (cW p.E).length<_;unfold cW;rw[cn];exact l1,kK k,h6,hq⟩)
 |false=>exact .inr (hf _ ⟨.inl ⟨_,rfl⟩,h5,by show (cW p.F).length<_;unfold cW;rw[cn];exact l2,kK k,h6,hq⟩)
theorem Ww(p:Tb)(ub:Bool):∃EE:List Ent,Wv p ub=.dt (cD EE) (cW EE)/\(∀k,p.get ub k=aM EE k)/\∀k v,Wv (p.put ub k v) ub=.dt (cD (eY EE k v)) (cW (eY EE k v)):=by
 cases ub with
 |true=>exact⟨p.E,rfl,λ_=>rfl,λ_ _=>rfl⟩
 |false=>exact⟨p.F,rfl,λ_=>rfl,λ_ _=>rfl⟩
section
variable{aT cf:Addr}
noncomputable abbrev Hu:qai:=["layout","sets","lacking","place","home","held","key","wanted","before"]
theorem uo:aG Hu ["layout","sets"] (aq rf):=L2.iQ
theorem DB(D:Df K mg "grown" rf ["layout","sets"] f fd)(aI:Q0 K aT)(Mg:TV mg)(Hv:cJ P w K mg base "wants" qaB 4 (cK K 3 (wx aT cf))):cJ P w K mg base "grown" ["layout","sets"] (4+1) (TM K cf (Dv aT)):=by
 refine D.iI (ZL D.F uo rfl (by decide) λbw A outer s H E M hC hB hr l s0 q hG=>?_);have nd:=uo.nd;have hu:=bb.fK hr;have iY:=kH hu;subst hC;refine⟨_,(dm (eW λ_ _=>aN (i:=2) nd rfl (Or.inl rfl) (qau hW) iw)
  (dm (CW uP rfl (λ_ _=>i5 (by rfl) Mg.enumerate (qat (gA aI.cl aI.je (ae 0)))) (λ_ _=>dw (n:=2) rfl (aK (aD (i:=3) nd rfl (Or.inl rfl) iw) (aK (aD (i:=4) nd rfl (Or.inl rfl) iw) cC)))
   (d8 (Rk (λ_ _=>BW (ae 4) (qas d9))
    (d8 (G8 uP rfl (λ_ _=>qat (aO Hv hr (aa (ai 0) (aa (ai 1) (aa (ai 3) aj))))) (λ_ _=>dw (n:=3) rfl (aK (aD (i:=5) nd rfl (Or.inl rfl) iw) (aK (aD (i:=6) nd rfl (Or.inl rfl) iw) (aK (aD (i:=7) nd rfl (Or.inl rfl) iw) cC))))
     (dm (CV (i:=8) nd rfl (Or.inl rfl) (λ_ _=>qat (fS iY (ae 5) (ai 6) (qat af) ⟨rfl,rfl,rfl,rfl⟩)))
     (dm (MT 5 6 iY (λ_ _=>qat (qb (ae 8) (ae 7))))
     (d8 (CV (i:=2) nd rfl (Or.inl rfl) (λ_ _=>qat (PY (VE.vp (ai 2)) (l7 (P5 hu (qas (G_ iY (ae 5) (ai 6))) (ae 8)))))))))))
    G5)))
  (d8 (eW λ_ _=>aJ (qau (VE.vp (ai 2))))))),?_⟩
 obtain⟨rs,E0,F0,rfl,rfl,ba,hn,I0,hq⟩:=hG;refine⟨rfl,rfl,_,rfl,?_⟩;refine⟨λi ρ s=>∃b3 b4 b5 b6 b7 b8,ρ=X4 M aT rs (cj rs E0 F0 i).b b3 b4 b5 b6 b7 b8/\s=sE (cj rs E0 F0 i).E (cj rs E0 F0 i).F,⟨none,none,none,none,none,none,rfl,rfl⟩,?_,?_⟩;rintro i t ρ s ht ⟨b3,b4,b5,b6,b7,b8,rfl,rfl⟩;obtain⟨hi,rfl⟩:=Dw rs i ht;obtain⟨r,gD⟩:∃r,rs[i]?=some r:=⟨_,kj hi⟩;have I:=I0.grow i (by omega);have gs:=ff rs E0 F0 i;generalize hp:cj rs E0 F0 i=p at I gs ⊢;refine⟨rfl,rfl,(by show f' [some (kX aT rs,false),some (.ob M.a,false),some (.bl p.b,false),some (.int (i:Int),false),some (oT _,false),gk b5,gk b6,gk b7,gk b8]=true;simp only[mU,mT,gF]),?_⟩;cases hh:j2 (bz rs) i with
 |none=>
  have wn:yh rs p.E p.F i=[]:=by unfold yh;rw[gD,hh]
  have gs:cj rs E0 F0 (i+1)=p:=by rw[gs];unfold MD;rw[wn];rfl
  exact⟨some (.int (i:Int)),some .a9,b5,b6,b7,b8,by rw[gs];rfl,by rw[gs]⟩
 |some h=>
  have wa:yh rs p.E p.F i=Hl p.E p.F i h r:=by unfold yh;rw[gD,hh]
  have gs:cj rs E0 F0 (i+1)=(Hl p.E p.F i h r).foldl gZ p:=by rw[gs];unfold MD;rw[wa]
  refine Dz (t:=.int (h:Int)) rfl rfl ?_;show CY M _ _ _ _ [some (kX aT rs,false),some (.ob M.a,false),some (.bl p.b,false),some (.int (i:Int),false),some (.int (h:Int),false),gk b5,gk b6,gk b7,gk b8] (sE p.E p.F);unfold CY;show (fT (gu 3 (bM (cV 0) (bM (cV 1) (bM (cV 3) jI))) (wx aT M.C))) [some (kX aT rs,false),kL M (sE p.E p.F) (some (.ob M.a,false)),some (.bl p.b,false),some (.int (i:Int),false),some (.int (h:Int),false),kL M (sE p.E p.F) (gk b5),kL M (sE p.E p.F) (gk b6),kL M (sE p.E p.F) (gk b7),kL M (sE p.E p.F) (gk b8)] _;rw[Wb _ _ hB];have X5:=ba r (fY gD);refine⟨rfl,rs,M.a1,M.a2,p.E,p.F,i,r,h,rfl,gD,X5.1,X5.2,hh,by omega,λk=>km (bits_le (I.bl true k)) hn,?_⟩;have X6:∀w∈Hl p.E p.F i h r,keyOk rs w.1 w.2.1/\below rs.length w.2.2:=λw hw=>ME I hi (by rw[wa];exact hw);generalize Hl p.E p.F i h r=L at gs X6;refine⟨L.map (wO M),Jz M p.E p.F L,λj ρ s=>∃b5 b6 b7 b8,ρ=X4 M aT rs ((L.take j).foldl gZ p).b (some (.int (i:Int))) (some (.int (h:Int))) b5 b6 b7 b8/\s=sE ((L.take j).foldl gZ p).E ((L.take j).foldl gZ p).F,⟨b5,b6,b7,b8,rfl,rfl⟩,?_,?_⟩;rintro j t ρ s hj ⟨b5,b6,b7,b8,rfl,rfl⟩;rw[fj] at hj;obtain⟨u,hw,rfl⟩:=EV.mp hj;have es:(L.take (j+1)).foldl gZ p=gZ ((L.take j).foldl gZ p) u:=by rw[NM,hw,NN];rfl
  have Ij:Iv rs ((L.take j).foldl gZ p):=I.fold λv hv=>X6 v (List.mem_of_mem_take hv);have l1:=Ij.Hn;have l2:=Ij.Ho;have l3:rs.length * (rs.length+1)<=64 * 65:=Nat.mul_le_mul hn (by omega);generalize (L.take j).foldl gZ p=pj at es Ij l1 l2 ⊢;obtain⟨ub,uk,uv⟩:=u;obtain⟨EE,hd,hg,Ac⟩:=Ww pj ub;refine⟨rfl,rfl,(by show f' [some (kX aT rs,false),some (.ob M.a,false),some (.bl pj.b,false),some (.int (i:Int),false),some (.int (h:Int),false),some (.ob _,false),some (.kt (kK uk),false),some (.int uv,false),gk b8]=true;simp only[mU,mT,gF]),?_⟩;refine Ht (ks:=cD EE) (ts:=cW EE) (k:=kK uk) (by show some (kL M (sE pj.E pj.F) (some (.ob (if ub=true then M.a1 else M.a2),false)))=_;rw[RO,hd]) rfl ?_;rw[e_,<- hg];refine⟨.inl ⟨_,rfl⟩,RP (v:=bitOr (pj.get ub uk) uv) (k:=uk) (ub:=ub) (λQ hQ=>hQ) rfl rfl (by omega) (by omega) ?_⟩;refine Dy (M:=M) (i:=2) (n:=5) (m:=6) (n2:=2) (n8:=8) (ρ:=[some (kX aT rs,false),some (.ob M.a,false),some (.bl pj.b,false),some (.int (i:Int),false),some (.int (h:Int),false),some (.ob (if ub=true then M.a1 else M.a2),false),some (.kt (kK uk),false),some (.int uv,false),some (.int (pj.get ub uk),false)]) rfl (ks:=cD (eY EE uk (bitOr (pj.get ub uk) uv))) (ts:=cW (eY EE uk (bitOr (pj.get ub uk) uv))) (k:=kK uk) (b:=pj.b) (v:=bitOr (pj.get ub uk) uv) (before:=pj.get ub uk) rfl (by show some (kL M (sE (pj.put ub uk (bitOr (pj.get ub uk) uv)).E (pj.put ub uk (bitOr (pj.get ub uk) uv)).F) (some (.ob (if ub=true then M.a1 else M.a2),false)))=_;rw[RO,Ac]) rfl rfl (Hk uk _ EE) ?_;exact⟨.inr ⟨_,rfl⟩,some (.ob (if ub=true then M.a1 else M.a2)),some (.kt (kK uk)),some (.int uv),some (.int (pj.get ub uk)),by rw[es];rfl,by rw[es];rfl⟩;rintro ρ s ⟨b5',b6',b7',b8',rfl,rfl⟩;rw[cn,JM];exact⟨_,_,_,_,_,_,by rw[gs],by rw[gs]⟩
 rintro ρ s ⟨b3,b4,b5,b6,b7,b8,rfl,rfl⟩;rw[Dx] at *;refine⟨(by show f' [some (kX aT rs,false),some (.ob M.a,false),some (.bl _,false),gk b3,gk b4,gk b5,gk b6,gk b7,gk b8]=true;simp only[mU,mT,gF]),hq⟩
end
def yl(ts:qaj)(q:qaj->Prop):Prop:=∃rs:qal,ts=[.lst (rs.map aU)]/\N0 rs/\rs.length<=64/\(∀r∈rs,TU r=true/\TX r) /\
 ∀m,(∀j<m,(jo rs (j+1)).b=true)->(jo rs (m+1)).b=false->∀bs cs:List TS.Tr,bs.Perm (pA (jo rs (m+1)).E)->bs.Pairwise (λa b=>TS.cS b a=false)->cs.Perm (pA (jo rs (m+1)).F)->cs.Pairwise (λa b=>TS.cS b a=false)->q [.lst (bs.map TS.tT),.lst (cs.map TS.tT)]
theorem rq:∀bs:List TS.Tr,iT (bs.map TS.tT)=true
 |[]=>rfl
 |b::bs=>by rw[gj,iT,rq bs];rfl
section
variable{aT cf:Addr}
noncomputable abbrev DC:qai:=["program","layout","sets"]
theorem pJ:aG DC qav (aq m4):=L2.iQ
theorem Af(D:Df K mg "makers" m4 qav f fd)(M:Q0 K aT)(M1:Rx K cf)(DD:Cq P w K mg base "Layout" aT qaw 2 1 (xU aT))(MU:Cq P w K mg base "Sets" cf qaz 1 2 (Js cf))(Hw:cJ P w K mg base "grown" ["layout","sets"] 5 (TM K cf (Dv aT)))(Ag:cJ P w K mg base "list_of" ["held"] 1 (cK K 1 ye)):cJ P w K mg base "makers" qav 6 (LW K 1 yl):=by
 obtain⟨RQ,N',DE,DF,DG,DH⟩:=DD;obtain⟨Wx,T1,MV,MW,MX,MY⟩:=MU;obtain⟨T2,RS,Hx,Hy,Hz,HA⟩:=Hw;obtain⟨Oa,MZ,Ah,Ai,Aj,Ak⟩:=Ag;refine D.iI (Xu D.F pJ rfl (by decide) λbw A outer s H E Ox hr ts q hG=>?_);have nd:=pJ.nd;have np:∀{i:Nat},aX ⟨H,[],Ox⟩ i:=iw;refine⟨_,dY (aN (i:=1) nd rfl (Or.inl rfl) (qau (GH DE DH (hr.mono (by decide)) (by rfl) DF DG (aa (ai 0) aj))) np)
  (wG (i:=2) (j:=1) rfl (by decide) nd rfl rfl (Or.inl rfl) (Or.inl rfl) (Or.inl rfl) uP MV MY (λt1 t2 q hq=>⟨t1,t2,rfl,hq⟩) (hr.mono (by decide)) (by rfl) MW MX HA (hr.mono (by decide)) (by rfl) Hx Hy Hz Ak (hr.mono (by decide)) (by rfl) Ah Ai Aj M1.cl M1.rj M1.ly),λ_=>?_⟩
 obtain⟨rs,rfl,W,hn,ba,hq⟩:=hG;refine⟨rfl,rs,rfl,W,by omega,?_⟩;refine⟨by show 2<3;decide,?_⟩;refine⟨λm s=>∃j,s=sE (jo rs j).E (jo rs j).F/\(∀i<j,(jo rs (i+1)).b=true)/\m=mu rs (jo rs j),⟨_,0,rfl,λi hi=>absurd hi (Nat.not_lt_zero i),rfl⟩,?_⟩;rintro m s ⟨j,rfl,hb,rfl⟩;have I:=pG rs j;have I':=pG rs (j+1);have l1:=I'.Hn;have l2:=I'.Ho;have l3:rs.length * (rs.length+1)<=64 * 65:=Nat.mul_le_mul hn (by omega);refine⟨rs,(jo rs j).E,(jo rs j).F,rfl,rfl,ba,hn,I.bool false,_,rfl,?_⟩;split
 rename_i z
 have z:(jo rs (j+1)).b=true:=z;have gn:=yj (show Iv rs ⟨(jo rs j).E,(jo rs j).F,(jo rs j).b⟩ from I) rs.length (bG _);exact⟨_,Ju gn.1 (gn.2 z),j+1,rfl,λi hi=>by by_cases e:i=j;rw[e];exact z;exact hb i (by omega),rfl⟩
 rename_i z
 have z:(jo rs (j+1)).b=false:=by
  cases h:(jo rs (j+1)).b with
  |false=>rfl
  |true=>exact absurd h z
 intro o1 o2;refine⟨(jo rs (j+1)).E,o1,rfl,by omega,λbs p srt=>⟨_,rfl,rq bs,?_⟩⟩;refine⟨(jo rs (j+1)).F,o2,rfl,by omega,λcs p2 Wy=>⟨_,rfl,rq cs,?_⟩⟩;exact hq j hb z bs cs p srt p2 Wy
end
end d6
namespace rA
open PySem L2 VT Gen
open lV (bj)
noncomputable def top(i:Nat):Stmt:=PySem.Challenge.pw_slicewise_k22_cells_of_records.main.body.getD i (.Pass ⟨0,0,0,0⟩)
noncomputable abbrev kc:Stmt:=top 25
noncomputable abbrev rB:Stmt:=top 26
structure Wz(mg:qae):Prop where
 len:mg "len"=none
 range:mg "range"=none
 tuple:mg "tuple"=none
 sum:mg "sum"=none
def DI(ts:qaj)(q:qam):Prop:=∃(ns:qan)(j:Nat),ts=[.lst (ns.map .int),.int (j:Int)]/\q (.vw (.int (ns.getD j 0)))
def DJ(ts:qaj)(q:qam):Prop:=∃(c:Int)(m:Nat),ts=[.int c,.int (m:Int)]/\2<=m/\m<=20/\q (.fr (.lst ((c5 c m).map .str)))
section
noncomputable abbrev Al:qai:=qaC
theorem ng:aG Al qaC (aq kc):=L2.iQ
theorem wH(D:Df K mg "_law_cell_at" kc qaC f fd)(M:Wz mg):cJ P w K mg base "_law_cell_at" qaC 1 (cK K 2 DI):=by
 refine D.iI (lh D.F ng rfl λbw A outer s H E Ox hr ts q hG=>?_);have nd:=ng.nd;refine⟨_,(ah (aY (sM (ae 1) (qas (bC cq cu (by rfl) M.len Ez (a_ (ae 0) bx))))
    (ak (aJ (qau (aC (ae 0) (ae 1)))))
    aL)
   (ak (aJ (qau af)))),λ_=>?_⟩
 obtain⟨ns,j,rfl,hq⟩:=hG;refine zc (λh=>?_) (λh=>?_);have h':(j:Int)<((ns.map T.int).length:Int):=of_decide_eq_true h;rw[cn] at h';have hj:j<ns.length:=by omega
 refine⟨.int (ns.getD j 0),ag ?_,hq⟩;rw[fj,kj hj,List.getD,kj hj];rfl;have h':¬ ((j:Int)<((ns.map T.int).length:Int)):=λz=>h (decide_eq_true z);rw[cn] at h';have e:ns.getD j 0=0:=by rw[List.getD,Sw (by omega)];rfl
 rw[e] at hq;exact hq
noncomputable abbrev HB:qai:=["_law_cell","_law_many","_law_letters","_law_size","_law_at","_law_words_here","_law_k","_law_word","_law_j","_law_number"]
theorem uq:aG HB qaD (aq rB):=L2.iQ
theorem DK(D:Df K mg "_law_words" rB qaD f fd)(M:Wz mg):cJ P w K mg base "_law_words" qaD 1 (cK K 2 DJ):=by
 refine D.iI (lh D.F uq rfl λbw A outer s H E Ox hr ts q hG=>?_);have nd:=uq.nd;have hu:=bb.fK hr;have np:∀{i:Nat},aX ⟨H,[],Ox⟩ i:=iw;refine⟨_,(ah (aN (i:=2) nd rfl (Or.inl rfl) (qau aE) np)
  (ah (aN (i:=0) nd rfl (Or.inl rfl) (qau (bH (ae 0) (qas (BD (qas af) (qas af))))) np)
  (ah (aN (i:=3) nd rfl (Or.inl rfl) (qau (dR (qas af) (qas (bH (ae 0) (qas af))))) np)
  (ah (aN (i:=4) nd rfl (Or.inl rfl) (qau (bH (qas (bY (ae 0) (qas af))) (ae 3))) np)
  (ah (dv (i:=5) nd rfl (Or.inl rfl) (qau (bO aj)) np)
  (ah (eB uP rfl (eQ (by rfl) M.range (ae 1)) (aD (i:=6) nd rfl (Or.inl rfl) np)
   (ah (aN (i:=7) nd rfl (Or.inl rfl) (qau aE) np)
   (ah (eB uP rfl (eQ (by rfl) M.range (ae 3)) (aD (i:=8) nd rfl (Or.inl rfl) np)
    (ah (aN (i:=9) nd rfl (Or.inl rfl) (qau (dR (qas (bY (qas (bY (ae 0) (qas af))) (qas (dR (ae 8) (qas af))))) (qas (BC (ae 8) (ae 8))))) np)
    (ah (aY (bU hu (ae 8) (ae 4))
     (ak (BH (i:=9) nd rfl (Or.inl rfl) (ae 6) Fj BB np))
     aL)
    (ak (aN (i:=7) nd rfl (Or.inl rfl) (qau (dR (ae 7) (qas (aC (ae 2) (qas (bH (ae 9) (qas af))))))) np)))))
   (ak (cA (iZ 5 ET EU bW bR (aa (ai 7) aj)))))))
  (ah (aY (bU hu (qas (bH (qas (bY (ae 0) (qas af))) (qas af))) (qas af))
   (ak (fH 5 (qat (dR (qas (aC (ae 5) (qas af))) (qas (aC (ae 2) (qas (bH (qas (bY (ae 0) (qas af))) (qas af))))))) (qas af)))
   aL)
  (ak (aJ (lg 5 np)))))))))),λ_=>?_⟩
 obtain⟨c,m,rfl,XJ,acr,hq⟩:=hG;have WA:(10:Int) ^ (12:Int).toNat=1000000000000:=Qz;have hz:(1:Int)+c % (10:Int) ^ (12:Int).toNat % 7=(jW c:Int):=by rw[WA];exact (Jb c).symm
 have hsz:=vS c;refine⟨⟨by decide,by decide,by decide⟩,(by show (0:Int)<10 ^ (12:Int).toNat;decide),(by show (0:Int)<7;decide),⟨by decide,by decide⟩,(by show (0:Int)<1+c % 10 ^ (12:Int).toNat % 7;rw[hz];omega),nL _,by omega,by omega,?_⟩;refine my (λk ρ=>∃kv wv jv nv,ρ=[some (.int (qA c),false),some (.int (m:Int),false),some (.str bj,false),some (.int (jW c:Int),false),some (.int (EK c:Int),false),some (.lst (((List.range k).map λk=>bV c k (jW c)).map .str),true),kv,wv,jv,nv]) ⟨none,none,none,none,?_⟩ ?_ ?_;have ha:c % (10:Int) ^ (12:Int).toNat / 7 % (1+c % (10:Int) ^ (12:Int).toNat % 7)=(EK c:Int):=by rw[hz,WA];exact (Qy c).symm
 show [some (T.int (c % (10:Int) ^ (12:Int).toNat),false),_,_,some (T.int (1+c % (10:Int) ^ (12:Int).toNat % 7),false),some (T.int (c % (10:Int) ^ (12:Int).toNat / 7 % (1+c % (10:Int) ^ (12:Int).toNat % 7)),false),_,_,_,_,_]=_;rw[ha,hz,WA];rfl;rintro k ρ hk ⟨kv,wv,jv,nv,rfl⟩;refine⟨by omega,by omega,?_⟩;refine my (λj ρ=>∃jv nv,ρ=[some (.int (qA c),false),some (.int (m:Int),false),some (.str bj,false),some (.int (jW c:Int),false),some (.int (EK c:Int),false),some (.lst (((List.range k).map λk=>bV c k (jW c)).map .str),true),some (.int (0+(k:Int)),false),some (.str (bV c k j),false),jv,nv]) ⟨_,_,rfl⟩ ?_ ?_;rintro j ρ hj ⟨jv,nv,rfl⟩;have oS:j<jW c:=by omega
 refine⟨⟨by decide,by decide⟩,⟨by show (0:Int)<0+(j:Int)+1;omega,by show 0+(j:Int)+1<1073741824;omega⟩,.inl ⟨by show -(2 ^ 64)<0+(j:Int);omega,by show 0+(j:Int)<2 ^ 64;omega⟩,?_⟩;have last:∀n:Int,n=zE c k j->∃c',ky bj.cps.toList (n % 26)=some c'/\(bV c k j).length+(Str.mk #[c']).length<=sizeLine/\(bV c k j++⟨#[c']⟩)=bV c k (j+1):=by rintro n rfl;refine⟨_,oX _,?_,(vT c k j).symm⟩;rw[gR,sizeLine_eq];show j+1<=16777216;omega
 refine jT (λh=>?_) (λh=>?_);have WB:j=EK c:=by have h:(0:Int)+(j:Int)=(EK c:Int):=h;omega
 obtain⟨c',h1,h2,h3⟩:=last (qA c / 49 / (0+(j:Int)+1)+(0+(j:Int)) * (0+(j:Int))+(0+(k:Int))) (by unfold zE;rw[if_pos WB];simp only[Im]);exact⟨by show (0:Int)<26;decide,eC,c',h1,h2,_,_,by rw[<- h3];rfl⟩;have WB:¬ j=EK c:=λz=>h (by show (0:Int)+(j:Int)=(EK c:Int);omega);obtain⟨c',h1,h2,h3⟩:=last (qA c / 49 / (0+(j:Int)+1)+(0+(j:Int)) * (0+(j:Int))) (by unfold zE;rw[if_neg WB];simp only[Im,Int.add_zero]);exact⟨by show (0:Int)<26;decide,eC,c',h1,h2,_,_,by rw[<- h3];rfl⟩;rintro ρ ⟨jv,nv,rfl⟩;refine⟨?_,some (.int (0+(k:Int)),false),some (.str (bV c k (jW c)),false),jv,nv,?_⟩;rw[cn,cn,uW,sizeLine_eq];omega;rw[Ou,AE,AE];rfl;rintro ρ ⟨kv,wv,jv,nv,rfl⟩;refine⟨⟨by decide,by decide⟩,(by show (0:Int)<3;decide),jT (λh=>?_) (λh=>?_)⟩;have hc:qA c / 49 % 3=1:=h;have e0:ky (((List.range m).map λk=>bV c k (jW c)).map T.str) 0=some (T.str (bV c 0 (jW c))):=by refine ag (j:=0) ?_;rw[fj,fj,So (by omega)];rfl
 refine⟨_,e0,⟨by decide,by decide⟩,(by show (0:Int)<26;decide),eC,_,oX _,?_,1,?_,?_⟩;rw[gR,sizeLine_eq];show jW c+1<=16777216;omega;unfold y4;rw[if_pos (by decide),if_pos (by rw[cn,cn,uW];omega)];rfl;have e:(c5 c m).map T.str=(((List.range m).map λk=>bV c k (jW c)).map T.str).set 1 (T.str (bV c 0 (jW c)++⟨#[jV (qA c / 147)]⟩)):=by unfold c5;rw[if_pos hc,List.map_set]
 rw[e] at hq;exact hq;have hc:¬ qA c / 49 % 3=1:=h;have e:(c5 c m).map T.str=(((List.range m).map λk=>bV c k (jW c)).map T.str):=by unfold c5;rw[if_neg hc]
 rw[e] at hq;exact hq
end
end rA
namespace VT
open PySem PySem.Spec PyProof.Rows L2
section
variable{X:Cx}{g:iJ}
def M6(c:FB)(g:iJ):iJ:=λd ρ s=>∃W:Nat->En->S2->Prop,(∃m,W m ρ s)/\∀m ρ s,W m ρ s->c ρ λb=>if b=true then g {nx:=λρ' s'=>∃m',m'<m/\W m' ρ' s',ct:=λρ' s'=>∃m',m'<m/\W m' ρ' s',bk:=d.nx,rt:=d.rt} ρ s else d.nx ρ s
theorem DM{fc:FB}(hp:PassesOwn (model X.prog X.w) X.A X.env X.xe)(hc:∀H0 Ox,VC X ⟨H0,[],Ox⟩ c fc)(hb:AQ X M body g):GS X M (.While c body [] pos) (M6 fc g):=.mk λtm pins s' σ H D J ⟨ρ,s,d,S,hg,F⟩=>by
 obtain⟨W,⟨m0,w0⟩,step⟩:=hg;refine sy (tc:=λσ H Q=>∃H0,lB X ⟨H0,[],M.Ox⟩ tm fc σ H Q) hp (λpins s σ H Q I ⟨H0,z⟩=>hc H0 M.Ox tm pins s σ H Q I z) (hb.h tm) pins s' σ H D J ?_;refine⟨λm σ H=>∃ρ s,SG X.K M tm ρ s σ H/\W m ρ s,⟨m0,ρ,s,S,w0⟩,?_⟩;rintro m σ1 H1 ⟨ρ1,s1,S1,w1⟩;obtain⟨O,hr,I⟩:=S1.env;refine⟨H1,ρ1,O,_,I,step m ρ1 s1 w1,λb hb H2 sm=>?_⟩;cases b with
 |true=>rw[if_pos rfl] at hb ⊢;refine⟨λσ' H'=>∃m',m'<m/\∃ρ s,SG X.K M tm ρ s σ' H'/\W m' ρ s,λσ' H' z=>z,ρ1,s1,_,S1.c6 sm,hb,?_⟩;exact⟨λρ s σ H I ⟨m',hm,p⟩=>⟨m',hm,ρ,s,I,p⟩,F.rt,F.nx,λρ s σ H I ⟨m',hm,p⟩=>⟨m',hm,ρ,s,I,p⟩⟩
 |false=>rw[if_neg dO] at hb ⊢;exact F.nx ρ1 s1 σ1 H2 (S1.c6 sm) hb
end
theorem apart2(a b:Nat):a+b+1≠a/\a+b+1≠b:=by omega
noncomputable def WC(G:T->S2->(S2->Prop)->Prop):GT:=λts q=>∃k1 t1 k2 t2 l,ts=[.dt k1 t1,.dt k2 t2,l]/\G l ⟨k1,t1,k2,t2⟩ λs'=>iT s'.t1=true/\iT s'.t2=true/\q [.dt s'.k1 s'.t1,.dt s'.k2 s'.t2] (.vw .a9)
section
theorem WD{st:Stmt}{N:qai}{G:T->S2->(S2->Prop)->Prop}(F:y_ K x qual st f fd)(S:aG N ps (aq st))(hn:3=ps.length)(hN:3<=N.length)(dP:∀(bw:Value) (A:Around) (outer:List Env) (s:Shared) (H:Hp) (E:XK) (M:MG),M.hb=false->bb k (A.deeper (envOfC qual (aq st) s.heap.objs.size f bw))->∀l s0 q,G l s0 q ->
    ∃g,AQ (il gP P w K mg base N qual (aq st) f bw A outer s H E).yO M (bB st) g/\g {nx:=λ_ s=>q s,rt:=λ_ _=>False} (some (.ob M.a1,false)::some (.ob M.a2,false)::some (l,false)::List.replicate (N.length-3) none) s0) :
  cU P w K mg base gP (k+1) f fd ps (sO K [true,true,false] (WC G)):=by
 refine F.ok S (λvs H Q E h=>?_) (λbw A outer s H vs Q E hr h=>?_);obtain⟨ts,as,Ox,q,_,_,_,ha,_⟩:=h;rw[<- hn];exact (eR ha).2.1;obtain⟨ts,as,Ox,q,nd,nx,ox,ha,⟨k1,t1,k2,t2,l,rfl,hG⟩,kk⟩:=h;obtain⟨a1,as1,_,_,_,rfl,e1,rfl,r1,a2,as2,_,_,_,rfl,e2,rfl,r2,_,_,v,_,e3,rfl,av,rfl,rfl,rfl⟩:=ha;cases e1;cases e2;cases e3;have ne:a1≠a2:=λz=>by rw[z] at nd;simp at nd
 let M:MG:=⟨a1+a2+1,0,a1,a2,0,H,(apart2 a1 a2).1,(apart2 a1 a2).2,ne,false⟩
 obtain⟨g,hg,hq⟩:=dP bw A outer s H E M rfl hr l _ _ hG;have sub:∀b∈M.Ox,b∈[a1,a2]++Ox:=λb hb=>hU _ hb;obtain⟨iK,l1,h1,q1⟩:=r1;obtain⟨gW,l2,h2,q2⟩:=r2;have sd:SD K M ⟨k1,t1,k2,t2⟩ H:=⟨λz=>(nomatch z),⟨iK,l1,h1,q1.aP sub⟩,⟨gW,l2,h2,q2.aP sub⟩,λb o e _=>e⟩;refine⟨_,hg.h [],_,_,_,⟨⟨List.replicate N.length none,dZ _,?_⟩,sd⟩,hq,⟨λρ s' σ' H' S' z=>?_,λ_ _ _ _ _ _ z=>z.elim,λ_ _ _ _ _ z=>z.elim,λ_ _ _ _ _ z=>z.elim⟩⟩;exact jZ (K:=K) (N:=N) (H:=H) (Ox:=M.Ox) (ts:=[.ob a1,.ob a2,l]) (vs:=[.ref a1,.ref a2,v]) (by simpa using hN) (λb hb=>by obtain⟨u,e,_⟩:=sd.here b hb;rw[e];simp) (ax.cons (by simp only[At]) (ax.cons (by simp only[At]) (ax.cons (av.aP sub) ax.nil)));obtain⟨i1,i2,oI⟩:=z;obtain⟨Wr,m1,b1,c1⟩:=S'.sd.d1;obtain⟨Ws,m2,b2,c2⟩:=S'.sd.d2;exact kk _ _ oI .a9 H' (λb o e n=>S'.sd.fr b o e n) ⟨p9,.cons ⟨Wr,m1,b1,ax.oQ i1 c1⟩ (.cons ⟨Ws,m2,b2,ax.oQ i2 c2⟩ .nil)⟩
end
section
variable{X:Cx}
theorem ym{a:Addr}(I:Inv X pins σ H s)(ha:H a=some (.dT kvs)):∃o,Inv X pins σ (upd H a (.dH o (.dT kvs))) s:=by
 obtain⟨z,y,xs,r,o,es,ep,h1,h2,h3,h4,h5⟩:=(show bh X.prog X.w H s.heap a (.dT kvs) from I.ba a _ ha);have new:bh X.prog X.w (upd H a (.dH o (.dT kvs))) s.heap a (.dH o (.dT kvs)):=by refine⟨h1,z,y,xs,Paired.iM r λp q ⟨e1,e2,e3⟩=>⟨e1,?_,e3⟩,o,es,ep,h1,h2,h3,h4,h5⟩;rw[ar];exact e2;intro e;rw[e,ha] at e2;cases e2
 exact⟨o,I.write (x:=a) (e:=a) (by rw[ha];trivial) (.inl rfl) (λb u _ q=>q) ⟨o,h1⟩ new⟩
theorem ur{a:Addr}(I:Inv X pins σ H s)(ha:H a=some (.dH o (.dT kvs)))(hz:∀o u,X.H₀ a≠some (.dH o u)):Inv X pins σ (upd H a (.dT kvs)) s:=by
 have nn:∀b,H b=none->b≠a:=λb n e=>by rw[e,ha] at n;cases n
 have nt:∀b xs,H b=some (.tup xs)->b≠a:=λb xs q e=>by rw[e,ha] at q;cases q
 have no:∀b x,H b=some (.own x)->b≠a:=λb xs q e=>by rw[e,ha] at q;cases q
 refine⟨I.ok,I.os,I.bare,⟨I.base.keep,I.base.slot,λb ob q n hx=>?_,I.base.there,λb xs q=>?_,λb ob u q=>?_,λb ps q=>?_⟩,I.loc,I.cell,?_,λx c q=>?_,λp hp=>?_,λb u q=>?_,I.len⟩;have:=I.base.free b ob q n hx;rw[ar (nn b this)];exact this;have:=I.base.pQ b xs q;rw[ar (nt b xs this)];exact this;have:=I.base.lF b ob u q;rw[ar (λe=>hz ob u (by rw[<- e];exact q))];exact this;obtain⟨m,e⟩:=I.base.pR b ps q;exact⟨m,by rw[ar (λz=>by rw[z,ha] at e;cases e)];exact e⟩;rw[ar (nn _ I.free)];exact I.free;rw[ar (nn _ (I.eL x c q))];exact I.eL x c q;obtain⟨h1,h2,h3⟩:=I.pin p hp;exact⟨h1,by rw[ar (nn _ h2)];exact h2,h3⟩;by_cases hb:b=a;subst hb;rw[ay] at q;cases q;obtain⟨_,z,y,xs,r,w⟩:=(show bh X.prog X.w H s.heap b (.dH o (.dT kvs)) from I.ba b _ ha);exact⟨z,y,xs,Paired.iM r λp q ⟨e1,e2,e3⟩=>⟨e1,by rw[ar (nt _ _ e2)];exact e2,e3⟩,w⟩;rw[ar hb] at q;exact (I.ba b u q).sr (λc v _ r=>r) (λc r=>by rw[ar (no c b r)];exact r) λc xs r=>by rw[ar (nt c xs r)];exact r
theorem pK{a:Addr}(I:Inv X pins σ H s)(ha:H a=some (.dT kvs)):∀o u,X.H₀ a≠some (.dH o u):=λo u q=>by have:=I.base.lF a o u q;rw[ha] at this;cases this
noncomputable def yn(t:TE):TE:=λσ H Q=>∃a1 HC a2 DN,a1≠a2/\H a1=some (.dT HC)/\H a2=some (.dT DN)/\∀o1 o2,t σ (upd (upd H a1 (.dH o1 (.dT HC))) a2 (.dH o2 (.dT DN))) λv H'=>H' a1=some (.dH o1 (.dT HC))/\H' a2=some (.dH o2 (.dT DN))/\Q v (upd (upd H' a1 (.dT HC)) a2 (.dT DN))
theorem HF{t:TE}(h:PE X e t):PE X e (yn t):=by intro pins s σ H Q I hq;obtain⟨a1,HC,a2,DN,ne,h1,h2,k⟩:=hq;have z1:=pK I h1;have z2:=pK I h2;obtain⟨o1,I1⟩:=ym I h1;obtain⟨o2,I2⟩:=ym I1 (a:=a2) (kvs:=DN) (by rw[ar (Ne.symm ne)];exact h2);refine bJ (h pins s σ _ _ I2 (k o1 o2)) λv s1 ⟨x,H1,I3,r1,e1,e2,q⟩=>⟨x,_,ur (ur I3 e1 z1) (a:=a2) (o:=o2) (kvs:=DN) (by rw[ar (Ne.symm ne)];exact e2) z2,r1,q⟩
end
section
variable{tm:qab}{s:S2}
noncomputable def se(M:MG)(o1 o2:Obj)(s:S2):Option (T×Bool)->Option (T×Bool)
 |some (.ob x,false)=>if x=M.a1 then some (.df o1 s.k1 s.t1,false) else if x=M.a2 then some (.df o2 s.k2 s.t2,false) else some (.ob x,false)
 |e=>e
theorem DO(M:MG)(o1 o2:Obj)(s:S2):se M o1 o2 s (some (.ob M.a1,false))=some (.df o1 s.k1 s.t1,false):=by show (if M.a1=M.a1 then _ else _)=_;rw[if_pos rfl]
theorem DP(M:MG)(o1 o2:Obj)(s:S2):se M o1 o2 s (some (.ob M.a2,false))=some (.df o2 s.k2 s.t2,false):=by show (if M.a2=M.a1 then _ else _)=_;rw[if_neg (Ne.symm M.n3),if_pos rfl]
noncomputable def jq(M:MG)(H:Hp)(o1 o2:Obj)(HC DN:List (List Key×V)):Hp:=upd (upd H M.a1 (.dH o1 (.dT HC))) M.a2 (.dH o2 (.dT DN))
theorem M7{o1 o2:Obj}{HC DN:List (List Key×V)}{b:Addr}(h:b∉M.Ox):jq M H o1 o2 HC DN b=H b:=by unfold jq;rw[ar (λz=>h (by rw[z];exact M.m2)),ar (λz=>h (by rw[z];exact M.m1))]
theorem SG.se(g:SG K M tm ρ s σ H){iK gW:qak}(l1:s.k1.length=iK.length)(e1:H M.a1=some (.dT (s.k1.zip iK)))(q1:ax K H M.Ox s.t1 iK)(l2:s.k2.length=gW.length)(e2:H M.a2=some (.dT (s.k2.zip gW)))(q2:ax K H M.Ox s.t2 gW)(o1 o2:Obj) :
  ∃O,roots O=[]/\au K ⟨jq M H o1 o2 (s.k1.zip iK) (s.k2.zip gW),[],[]⟩ tm O (ρ.map (VT.se M o1 o2 s)) σ (jq M H o1 o2 (s.k1.zip iK) (s.k2.zip gW)):=by
 obtain⟨O,hr,I⟩:=g.env;have mv:∀{t:T}{v:V},At K H M.Ox t v->At K (jq M H o1 o2 (s.k1.zip iK) (s.k2.zip gW)) [] t v:=λq=>(At.frame g.sd.here (λb o e n=>by rw[M7 n];exact e) q).aP λb hb=>nomatch hb;have X7:∀{ts:qaj}{vs:qak},ax K H M.Ox ts vs->ax K (jq M H o1 o2 (s.k1.zip iK) (s.k2.zip gW)) [] ts vs:=λ{ts}=>by
  induction ts with
  |nil=>intro vs q;simp only[ax] at q ⊢;exact q
  |cons t ts ih=>intro vs q;simp only[ax] at q;obtain⟨v,r,rfl,h1,h2⟩:=q;exact ax.cons (mv h1) (ih h2)
 have d1:At K (jq M H o1 o2 (s.k1.zip iK) (s.k2.zip gW)) [] (.df o1 s.k1 s.t1) (.ref M.a1):=by simp only[At];exact⟨M.a1,iK,rfl,l1,⟨by unfold jq;rw[ar M.n3,ay],λz=>nomatch z⟩,X7 q1⟩
 have d2:At K (jq M H o1 o2 (s.k1.zip iK) (s.k2.zip gW)) [] (.df o2 s.k2 s.t2) (.ref M.a2):=by simp only[At];exact⟨M.a2,gW,rfl,l2,⟨by unfold jq;rw[ay],λz=>nomatch z⟩,X7 q2⟩
 refine⟨O,hr,⟨by rw[cn];exact I.lσ,by rw[cn];exact I.lO,λi e he=>?_,I.nd,λa ha=>(by rw[hr] at ha;exact absurd ha fm),λp hp=>absurd hp fm,λa ha=>absurd ha fm,λb o e _=>e,λp hp=>?_⟩⟩;have e0:av ⟨jq M H o1 o2 (s.k1.zip iK) (s.k2.zip gW),[],[]⟩ O=[]:=cQ hr;rw[fj] at he;obtain⟨ID,q,rfl⟩:=EV.mp he;obtain⟨o,sv,h1,h2,h3⟩:=I.sl i ID q;refine⟨o,sv,h1,h2,?_⟩;rw[e0];rw[cQ hr] at h3;have plain:fE K (jq M H o1 o2 (s.k1.zip iK) (s.k2.zip gW)) [] ID o sv:=h3.map (λt v z=>mv z) λa t eo _=>by subst eo;have:a∈roots O:=aA.mpr (fY h1);rw[hr] at this;exact nomatch this
 by_cases c:∃x,ID=some (.ob x,false);obtain⟨x,rfl⟩:=c;obtain⟨eo,v,es,Rf⟩:=h3;simp only[At] at Rf;subst Rf;show fE K _ [] (if x=M.a1 then _ else _) o sv;by_cases c1:x=M.a1;rw[if_pos c1];subst c1;exact⟨eo,_,es,d1⟩;rw[if_neg c1];by_cases c2:x=M.a2;rw[if_pos c2];subst c2;exact⟨eo,_,es,d2⟩;rw[if_neg c2];exact plain;have:VT.se M o1 o2 s ID=ID:=by
  unfold VT.se;split
  rename_i x
  exact absurd ⟨x,rfl⟩ c;rfl
 rw[this];exact plain;rw[cQ hr];have:=I.iH p hp;rw[cQ hr] at this;exact mv this
theorem SG.WE{o1 o2:Obj}{iK gW:qak}(g:SG K M tm ρ s σ H)(l1:s.k1.length=iK.length)(e1:H M.a1=some (.dT (s.k1.zip iK)))(q1:ax K H M.Ox s.t1 iK)(l2:s.k2.length=gW.length)(e2:H M.a2=some (.dT (s.k2.zip gW)))(q2:ax K H M.Ox s.t2 gW)(sm:aF (jq M H o1 o2 (s.k1.zip iK) (s.k2.zip gW)) H') :
  aF H (upd (upd H' M.a1 (.dT (s.k1.zip iK))) M.a2 (.dT (s.k2.zip gW))):=λb o e=>by
 by_cases c2:b=M.a2;rw[c2] at e ⊢;rw[e2] at e;cases e;rw[ay];rw[ar c2];by_cases c1:b=M.a1;rw[c1] at e ⊢;rw[e1] at e;cases e;rw[ay];rw[ar c1];refine sm b o ?_;unfold jq;rw[ar c2,ar c1];exact e
end
section
variable{X:Cx}{g:iJ}
theorem DQ{tm:qab}{f:FE}(he:∀H0 Ox,VE X ⟨H0,[],Ox⟩ e f):PE X e (yn λσ H Q=>∃H0,lE X ⟨H0,[],[]⟩ tm f σ H Q):=HF λpins s σ H Q I ⟨H0,z⟩=>he H0 [] tm pins s σ H Q I z
theorem DR{tm:qab}{f:FE}{s:S2}{Q:VK}{q:T->Prop}(S:SG X.K M tm ρ s σ H)(hf:∀o1 o2,f (ρ.map (se M o1 o2 s)) q)(k:∀t v H',q t->(∀b,b∈[M.a1,M.a2]->∃o u,H' b=some (.dH o (.dT u)))->At X.K H' [] t v->∀WG,aF H WG->(∀b,b≠M.a1->b≠M.a2->WG b=H' b)->Q v WG):yn (λσ H Q=>∃H0,lE X ⟨H0,[],[]⟩ tm f σ H Q) σ H Q:=by
 obtain⟨iK,l1,e1,q1⟩:=S.sd.d1;obtain⟨gW,l2,e2,q2⟩:=S.sd.d2;refine⟨M.a1,_,M.a2,_,M.n3,e1,e2,λo1 o2=>?_⟩;obtain⟨O,hr,I⟩:=S.se l1 e1 q1 l2 e2 q2 o1 o2;refine⟨_,_,O,_,I,hf o1 o2,λt ht v H' sm a=>?_⟩;have f1:H' M.a1=some (.dH o1 (.dT (s.k1.zip iK))):=sm _ _ (by rw[ar M.n3,ay]);have f2:H' M.a2=some (.dH o2 (.dT (s.k2.zip gW))):=sm _ _ (by rw[ay]);rw[cQ hr] at a;refine⟨f1,f2,k t v H' ht (λb hb=>?_) a _ (S.WE l1 e1 q1 l2 e2 q2 sm) λb n1 n2=>by rw[ar n2,ar n1]⟩;simp only[dh,fm,or_false] at hb;obtain rfl|rfl:=hb
 exact⟨_,_,f1⟩;exact⟨_,_,f2⟩
noncomputable def JA(M:MG)(n m:Nat)(f:FE):iJ:=λd ρ s=>∀o1 o2,f (ρ.map (se M o1 o2 s)) λt=>jh t/\s.t1.length<16777216/\s.t2.length<16777216/\∃k,ρ[m]?=some (some (.kt k,false))/\((ρ[n]?=some (some (.ob M.a1,false))/\d.nx ρ (s.wd k t))\/(ρ[n]?=some (some (.ob M.a2,false))/\d.nx ρ (s.put2 k t)))
theorem HG(n m:Nat){f:FE}(hu:X.A.units+1<cLine)(he:∀H0 Ox,VE X ⟨H0,[],Ox⟩ e f)(hN:X.N[n]?=some x:=by rfl)(hv:ko X.env.scope x:=by first|exact Or.inl rfl|exact Or.inr (Or.inl rfl)|exact Or.inr (Or.inr rfl))(hd:eG x:=by decide)(eI:nJ x:=by decide)(EN:X.N[m]?=some y:=by rfl)(Jn:ko X.env.scope y:=by first|exact Or.inl rfl|exact Or.inr (Or.inl rfl)|exact Or.inr (Or.inr rfl))(hd2:eG y:=by decide)(ow:nJ y:=by decide)(hs:swapsWith e (some (.Subscript (.Name x p) (.Name y p2) du)) pos.line X.env=pure false:=by rfl):GS X M (.Assign [.Subscript (.Name x p) (.Name y p2) du] e pos) (JA M n m f):=.mk λtm pins s' σ H D J ⟨ρ,s,d,S,hg,F⟩=>by refine qJ hu (bD hN hv hd eI) (bD EN Jn hd2 ow) (DQ (tm:=tm) he) hs pins s' σ H D J (DR S hg λt v H1 ht _ a H2 sm _=>?_);obtain⟨EM,h1,h2,k,hk,⟨hn,hq⟩|⟨hn,hq⟩⟩:=ht;exact pe (S.c6 sm) F EM a hn h1 hk hq;exact pI (S.c6 sm) F EM a hn h2 hk hq
theorem DS{K:qaf}{H H':Hp}{A:qah}(h:∀b xs,H b=some (.tup xs)->H' b=some (.tup xs)/\b∉A):∀{ks:List (List Key)}{vs:qak},ax K H [] (ks.map T.kt) vs->ax K H' A (ks.map T.kt) vs
 |[],vs,a=>by simp only[NQ,ax] at a ⊢;exact a
 |k::ks,vs,a=>by simp only[gj,ax] at a;obtain⟨v,r,rfl,h1,h2⟩:=a;refine ax.cons ?_ (DS h h2);simp only[At] at h1 ⊢;obtain⟨b,rfl,hb⟩:=h1;have:=h b _ hb.1;exact⟨b,rfl,this.1,this.2⟩
noncomputable def JB(M:MG)(f:FE)(h:FG)(g:iJ):iJ:=λd ρ s=>∀o1 o2,f (ρ.map (se M o1 o2 s)) λt=>∃ks:List (List Key),t=.lst (ks.map .kt)/\x3 (ks.map .kt) h g d ρ s
theorem HH{tg:Expr}{f:FE}{h:FG}(hB:M.hb=false)(hp:PassesOwn (model X.prog X.w) X.A X.env X.xe)(hc:X.calm=true)(hi:∀H0 Ox,VE X ⟨H0,[],Ox⟩ iter f)(hg:∀H0 Ox,VG X ⟨H0,[],Ox⟩ tg is h)(hb:AQ X M body g)(hs:∀x,foldedSetIterable iter X.env x=pure x:=by intro _;rfl):GS X M (.For tg iter body [] pos) (JB M f h g):=by
 refine .mk λtm pins s' σ H D J ⟨ρ,s,d,S,hq,F⟩=>?_;have eO:M.Ox=[M.a1,M.a2]:=by unfold MG.Ox;rw[hB];rfl
 refine pV (wi:=Ga X.K (yn λσ H Q=>∃H0,lE X ⟨H0,[],[]⟩ tm f σ H Q)) (g:=λv σ H Q=>∃srcs H0,lG X ⟨H0,[],M.Ox⟩ (srcs++tm) is h v σ H Q) (tb:=λD σ H=>∃srcs,N8 X M (srcs++tm) g D σ H) hp hc (vH (DQ (tm:=tm) hi)) (λpins s σ H v u Q I r ⟨srcs,H0,z⟩=>hg H0 M.Ox (srcs++tm) pins s σ H v u Q I r z) (λpins s σ H D I ⟨srcs,z⟩=>hb.h (srcs++tm) pins s σ H D I z) hs pins s' σ H D J ?_;unfold ON Ga;refine DR S hq λt v H' ht fz a H2 sm old=>?_;obtain⟨ks,rfl,hl⟩:=ht;simp only[At] at a;obtain⟨l,vs,rfl,TK,hv⟩:=a;have JV:∀b xs,H' b=some (.tup xs)->H2 b=some (.tup xs)/\b∉M.Ox:=λb xs q=>by
  have n:b∉M.Ox:=λz=>by rw[eO] at z;obtain⟨o,u,e⟩:=fz b z;rw[q] at e;cases e
  refine⟨?_,n⟩;rw[old b (λz=>n (by rw[z];exact M.m1)) (λz=>n (by rw[z];exact M.m2))];exact q
 have ls:lY X.K H2 M.Ox l vs:=by
  obtain z|z:=TK
  have n:l∉M.Ox:=λm=>by
   rw[eO] at m;obtain⟨o,u,e⟩:=fz l m;obtain q|⟨o',q⟩:=z.1
   rw[e] at q;cases q;rw[e] at q;cases q
  refine .inl ⟨?_,n⟩;have eo:=old l (λz=>n (by rw[z];exact M.m1)) (λz=>n (by rw[z];exact M.m2));exact z.1.elim (λq=>.inl (by rw[eo];exact q)) λ⟨o',q⟩=>.inr ⟨o',by rw[eo];exact q⟩;exact .inr z
 have at':At X.K H2 M.Ox (.lst (ks.map .kt)) (.ref l):=by simp only[At];exact⟨l,vs,rfl,ls,DS JV hv⟩
 exact .inl ⟨l,rfl,⟨vs,ls.sq⟩,j4 rfl ((S.c6 sm).temps (srcs:=[(.lst (ks.map .kt),.ref l)]) λp hp=>by rw[cT.mp hp];exact at') qe F hl⟩
end
end VT
namespace Lay
open PySem L2 VT Gen K5
end Lay
namespace MK
open PySem L2 VT Gen BS K5 x6
open lV (bX dQ)
open PySem.Builtin (bitOr)
def X8:Ky->Prop
 |.fld x=>bX x=true
 |.op (.nm y)=>bX y=true
 |.op (.nu _)=>True
theorem HI(h:bX x=true):cc (.fld x)=(".":String)++x:=by unfold cc qB;dsimp only;rw[lV.zt h,if_pos rfl]
theorem M8(h:bX y=true):cc (.op (.nm y))=("#":String):=by unfold cc qB uV;dsimp only;rw[lV.nU h,if_neg dO]
def Am(ys:qai):Ky->Prop
 |.fld x=>x∈ys
 |.op (.nm y)=>y∈ys
 |.op (.nu _)=>True
def M9(ys:qai):Rw->Prop
 |.new x=>x∈ys
 |.put x (.nm y)=>x∈ys/\y∈ys
 |.get x y k=>x∈ys/\y∈ys/\Am ys k
 |.set x k (.nm y)=>x∈ys/\Am ys k/\y∈ys
 |.set x k (.nu _)=>x∈ys/\Am ys k
 |_=>False
def g0:Rw->Bool
 |.B6 _=>true
 |.B7 _=>true
 |_=>false
structure rC(ys:qai)(rs:qal):Prop where
 sh:∃f ps body g,rs=.df f ps::(body++(List.replicate (body.countP g0) .fin++[.give (.nm g)]))/\(∀r∈body,M9 ys r\/∃x,r=.B6 (.nm x)\/r=.B7 (.nm x))
 le:rs.length<=60
theorem rC.at{ys:qai}(p:rC ys rs){r:Rw}(h:rs[i]?=some r):(i=0/\∃f ps,r=.df f ps)\/(0<i/\i+1<rs.length/\(M9 ys r\/(∃x,r=.B6 (.nm x)\/r=.B7 (.nm x))\/r=.fin))\/(0<i/\i+1=rs.length/\∃g,r=.give (.nm g)):=by
 obtain⟨f,ps,body,g,rfl,hb⟩:=p.sh;have hl:(Rw.df f ps::(body++(List.replicate (body.countP g0) .fin++[.give (.nm g)]))).length=1+(body.length+(body.countP g0+1)):=by simp;omega
 cases i with
 |zero=>cases h;exact .inl ⟨rfl,f,ps,rfl⟩
 |succ i=>
  rw[hl];rw[Ub] at h;by_cases h1:i<body.length;rw[k7 h1] at h;exact .inr (.inl ⟨by omega,by omega,(hb r (fY h)).elim .inl λz=>.inr (.inl z)⟩);rw[pP (by omega)] at h;by_cases h2:i-body.length<body.countP g0;rw[k7 (by simpa using h2),wY,if_pos h2] at h;cases h;exact .inr (.inl ⟨by omega,by omega,.inr (.inr rfl)⟩);rw[pP (by simpa using h2),JF] at h;cases q:i-body.length-body.countP g0 with
  |zero=>rw[q] at h;cases h;exact .inr (.inr ⟨by omega,by omega,g,rfl⟩)
  |succ j=>rw[q] at h;cases h
inductive Pl
 |nm (x:Str)
 |cl (x c:Str)
 |rw (i:Nat)
noncomputable def M_:Pl->T
 |.nm x=>.tup [.str "name",.int 0,.str x,.str ""]
 |.cl x c=>.tup [.str "cells",.int 0,.str x,.str c]
 |.rw i=>.tup [.str "row",.int (i:Int),.str "",.str ""]
abbrev Mv:=Pl×Pl
noncomputable def ke(m:Mv):T:=.tup [M_ m.1,M_ m.2]
noncomputable def ni(i:Nat):Rw->List Mv
 |.new x=>[(.nm x,.rw i)]
 |.put x (.nm y)=>[(.nm x,.nm y)]
 |.get x y k=>[(.nm x,.cl y (cc k))]
 |.set y k (.nm z)=>[(.cl y (cc k),.nm z)]
 |_=>[]
noncomputable def gm(rs:qal)(n:Nat):List Mv:=(List.range n).flatMap λi=>match rs[i]? with
 |some r=>ni i r
 |none=>[]
theorem DT{r:Rw}(h:rs[n]?=some r):gm rs (n+1)=gm rs n++ni n r:=by
 unfold gm;rw[Ou,List.flatMap_append]
 congr 1
 simp[h]
theorem yo(rs:qal):∀n,(gm rs n).length<=n
 |0=>bG _
 |n+1=>by
  have ih:=yo rs n;unfold gm at ih ⊢;rw[Ou,List.flatMap_append,yH];have:((List.flatMap (λi=>match rs[i]? with|some r=>ni i r|none=>[]) [n])).length<=1:=by
   simp only[List.flatMap_cons,List.flatMap_nil,Ew];split
   rename_i r _
   cases r with
   |put x o=>cases o<;>simp[ni]
   |set y k o=>cases o<;>simp[ni]
   |_=>simp[ni]
   simp
  omega
def zk(x:Str):Int×Str:=(0,x)
noncomputable def pC(x:Int)(c:Str)(k:Int×Str):Bool:=decide (k.2=c) && ib x k.1.toNat
noncomputable def eF(E F:List Ent):Pl->Int
 |.rw i=>1 * 2 ^ ((i:Int)).toNat
 |.nm y=>aM E (zk y)
 |.cl y c=>Jq (pC (aM E (zk y)) c) F
def isNm:Pl->Bool
 |.nm _=>true
 |_=>false
noncomputable def ck(E:List Ent):Pl->List (Int×Str)
 |.nm x=>[zk x]
 |.cl y c=>((List.range 60).filter (ib (aM E (zk y)))).map λ(j:Nat)=>((j:Int),c)
 |.rw _=>[]
noncomputable def bp(E F:List Ent)(m:Mv):List (Int×Str):=(ck E m.1).filter λk=>!decide (bitOr (Tb.get ⟨E,F,false⟩ (isNm m.1) k) (eF E F m.2)=Tb.get ⟨E,F,false⟩ (isNm m.1) k)
def Na:Pl->Prop
 |.rw i=>i<=1000
 |_=>True
end MK
namespace bF
open PySem L2 VT Gen K5 Lay BS x6 MK
open PySem.Builtin (bitOr)
noncomputable def top(i:Nat):Stmt:=PySem.Challenge.pw_slicewise_k22_cells_of_records.main.body.getD i (.Pass ⟨0,0,0,0⟩)
noncomputable abbrev s_same:Stmt:=top 27
noncomputable abbrev rD:Stmt:=top 28
noncomputable abbrev rE:Stmt:=top 29
noncomputable abbrev DU:Stmt:=top 30
noncomputable abbrev s_row:Stmt:=top 31
noncomputable abbrev kf:Stmt:=top 32
noncomputable abbrev rF:Stmt:=top 33
noncomputable abbrev DV:Stmt:=top 34
noncomputable abbrev rG:Stmt:=top 35
noncomputable abbrev rH:Stmt:=top 36
noncomputable abbrev kh:Stmt:=top 37
noncomputable abbrev rJ:Stmt:=top 38
noncomputable abbrev jr:Stmt:=top 39
structure ER(mg:qae):Prop where
 isinstance:mg "isinstance"=none
 str:mg "str"=none
 int:mg "int"=none
 range:mg "range"=none
 enumerate:mg "enumerate"=none
 sorted:mg "sorted"=none
 list:mg "list"=none
theorem bS(h:n<=1000):n<=sizeLine:=Gen.small h
theorem jn:bootBuiltins "sorted"=some (.builtin "sorted"):=by decide +kernel
def j_(ts:qaj)(q:qam):Prop:=∃k:Ky,ts=[qB k]/\X8 k/\q (.vw (.str (cc k)))
def RT(ts:qaj)(q:qam):Prop:=∃(c:Int)(ys:qai),ts=[.int c,.lst (ys.map .str)]/\ys.length=4/\(∀y∈ys,y.length<=8)/\∀k,Am ys k->q (.vw (qB k))
def RU(ts:qaj)(q:qam):Prop:=∃(c:Int)(ys:qai),ts=[.int c,.lst (ys.map .str)]/\ys.length=4/\(∀y∈ys,y.length<=8)/\∀r,M9 ys r->q (.vw (aU r))
def JC(ts:qaj)(q:qam):Prop:=∃(ns:qan)(ys:qai),ts=[.lst (ns.map .int),.lst (ys.map .str)]/\ys.length=4/\(∀y∈ys,y.length<=8)/\ns.length<=63/\∀rs,rC ys rs->q (.fr (.lst (rs.map aU)))
def DW(ts:qaj)(q:qam):Prop:=∃(ys:qai)(rs:qal),ts=[.lst (rs.map aU)]/\rC ys rs/\q (.fr (.lst (List.replicate rs.length (.int 0))))
def DX(ts:qaj)(q:qam):Prop:=∃(ys:qai)(rs:qal),ts=[.lst (rs.map aU)]/\rC ys rs/\(∀y∈ys,lV.bX y=true)/\q (.fr (.lst ((gm rs rs.length).map ke)))
theorem T3{ys:qai}(h:ys.length=4)(n:Int):∃y,y∈ys/\ky (ys.map T.str) (n % 4)=some (.str y):=by
 have h0:=Ex n (b:=4) (by decide);have h1:=EX n (b:=4) (by decide);obtain⟨j,hj⟩:=oF h0;have eJ:j<ys.length:=by omega
 rw[hj];exact⟨ys[j],NO eJ,ag (by rw[fj,kj eJ];rfl)⟩
theorem DY{ys:qai}(h:ys.length=4)(hj:j<4):∃y,y∈ys/\ky (ys.map T.str) (j:Int)=some (.str y):=by
 have eJ:j<ys.length:=by omega
 exact⟨ys[j],NO eJ,ag (by rw[fj,kj eJ];rfl)⟩
theorem RW(ns:qan):∃ms:qan,qc (ns.map T.int) (some 2) (some 42)=ms.map T.int/\ms.length<=40:=by refine⟨qc ns (some 2) (some 42),by unfold qc;rw[cn,List.map_take,List.map_drop],?_⟩;unfold qc;have e:∀d,HT.cM ns.length d (some 2)=min 2 ns.length:=λd=>HT.xi ns.length d 2;have e':∀d,HT.cM ns.length d (some 42)=min 42 ns.length:=λd=>HT.xi ns.length d 42;rw[e,e',JK,List.length_drop];omega
section
noncomputable abbrev HJ:qai:=qaE
theorem uu:aG HJ qaE (aq rE):=L2.iQ
theorem DZ(D:Df K mg "_law_class" rE qaE f fd)(M:ER mg):cJ P w K mg base "_law_class" qaE 1 (cK K 1 j_):=by
 refine D.iI (lh D.F uu rfl λbw A outer s H E Ox hr ts q hG=>?_);have nd:=uu.nd;refine⟨_,(ah (aY (VW.vc (gr (cH (bZ dW (by rfl) M.isinstance (by rfl) M.str mx (ae 0))) (fF (cH (o9 (ae 0) (qas aE))))))
    (ak (aJ (qau (VE.vp (ai 0)))))
    aL)
   (ak (aJ (qau aE)))),λ_=>?_⟩
 obtain⟨k,rfl,hk,hq⟩:=hG;cases k with
 |fld x=>rw[HI hk] at hq;exact⟨rfl,LH rfl (LH (lV.lW x) hq)⟩
 |op o=>
   cases o with
   |nm y=>rw[M8 hk] at hq;exact⟨rfl,LH rfl (LI (lV.hV (lV.fD hk)) hq)⟩
   |nu i=>exact⟨rfl,hq⟩
noncomputable abbrev RX:qai:=qaF
theorem D0:aG RX qaF (aq DU):=L2.iQ
theorem Nb(D:Df K mg "_law_key" DU qaF f fd):cJ P w K mg base "_law_key" qaF 1 (cK K 2 RT):=by
 refine D.iI (lh D.F D0 rfl λbw A outer s H E Ox hr ts q hG=>?_);have nd:=D0.nd;refine⟨_,(ak (aJ (qau (aC (qas (bO (aa (qat (dR (qas aE) (qas (aC (ae 1) (qas af))))) (aa (qat (dR (qas aE) (qas (aC (ae 1) (qas af))))) (aa (qat (Lo (qas (bH (qas (bY (ae 0) (qas af))) (qas af))) (qas af))) (aa (qat (aC (ae 1) (qas (bH (qas (bY (ae 0) (qas af))) (qas af))))) aj)))))) (qas (bH (ae 0) (qas af))))))),λ_=>?_⟩;obtain⟨c,ys,rfl,h4,h8,hq⟩:=hG;obtain⟨y0,m0,e0⟩:=DY h4 (j:=0) (by decide);obtain⟨y1,m1,e1⟩:=DY h4 (j:=1) (by decide);obtain⟨y2,m2,e2⟩:=T3 h4 (c / 4);have d1:((".":String):Str).length=1:=by decide +kernel
 have l0:=h8 y0 m0;have l1:=h8 y1 m1;refine⟨_,e0,by rw[d1];exact bS (by omega),_,e1,by rw[d1];exact bS (by omega),⟨by decide,by decide⟩,by decide,⟨by decide,by decide⟩,by decide,_,e2,bS (by simp),by decide,?_⟩;have h0:=Ex c (b:=4) (by decide);have h1:=EX c (b:=4) (by decide);obtain⟨j,hj⟩:=oF h0;have hl:j<4:=by omega
 rw[hj]
 match j,hl with
 |0,_=>exact⟨_,ag rfl,hq (.fld y0) m0⟩
 |1,_=>exact⟨_,ag rfl,hq (.fld y1) m1⟩
 |2,_=>exact⟨_,ag rfl,hq (.op (.nu _)) trivial⟩
 |3,_=>exact⟨_,ag rfl,hq (.op (.nm y2)) m2⟩
noncomputable abbrev RY:qai:=["_law_cell","_law_words_here","_law_kind","_law_name","_law_other","_law_key_here"]
theorem D1:aG RY qaF (aq s_row):=L2.iQ
theorem Nc(D:Df K mg "_law_row" s_row qaF f fd)(RZ:cJ P w K mg base "_law_key" qaF 1 (cK K 2 RT)):cJ P w K mg base "_law_row" qaF 2 (cK K 2 RU):=by
 refine D.iI (lh D.F D1 rfl λbw A outer s H E Ox hr ts q hG=>?_);have nd:=D1.nd;have hu:=bb.fK hr;have np:∀{i:Nat},aX ⟨H,[],Ox⟩ i:=iw;refine⟨_,(ah (aN (i:=2) nd rfl (Or.inl rfl) (qau (bH (ae 0) (qas af))) np)
  (ah (aN (i:=3) nd rfl (Or.inl rfl) (qau (aC (ae 1) (qas (bH (qas (bY (ae 0) (qas af))) (qas af))))) np)
  (ah (aN (i:=4) nd rfl (Or.inl rfl) (qau (aC (ae 1) (qas (bH (qas (bY (ae 0) (qas af))) (qas af))))) np)
  (ah (aN (i:=5) nd rfl (Or.inl rfl) (qau (aO RZ hr (aa (qat (bY (ae 0) (qas af))) (aa (ai 1) aj)))) np)
  (ah (aY (sM (ae 2) (qas af))
   (ak (aJ (qau (aV (aa (qat aE) (aa (ai 3) aj))))))
   aL)
  (ah (aY (bU hu (ae 2) (qas af))
   (ak (aJ (qau (aV (aa (qat aE) (aa (ai 3) (aa (ai 4) aj)))))))
   aL)
  (ah (aY (sM (ae 2) (qas af))
   (ak (aJ (qau (aV (aa (qat aE) (aa (ai 3) (aa (ai 4) (aa (ai 5) aj))))))))
   aL)
  (ah (aY (sM (ae 2) (qas af))
   (ak (aJ (qau (aV (aa (qat aE) (aa (ai 3) (aa (ai 5) (aa (ai 4) aj))))))))
   aL)
  (ak (aJ (qau (aV (aa (qat aE) (aa (ai 3) (aa (ai 5) (aa (qat (bH (qas (bY (ae 0) (qas af))) (qas (BD (qas af) (qas af))))) aj)))))))))))))))),λ_=>?_⟩
 obtain⟨c,ys,rfl,h4,h8,hq⟩:=hG;obtain⟨x,hx,ex⟩:=T3 h4 (c / 9);obtain⟨y,hy,ey⟩:=T3 h4 (c / 36);refine⟨(by show (0:Int)<9;decide),⟨by decide,by decide⟩,(by show (0:Int)<4;decide),_,ex,⟨by decide,by decide⟩,(by show (0:Int)<4;decide),_,ey,⟨by decide,by decide⟩,rfl,_,ys,rfl,h4,h8,λk hk=>?_⟩;refine jT (λ_=>?_) (λ_=>jT (λ_=>?_) (λ_=>jT (λ_=>?_) (λ_=>jT (λ_=>?_) (λ_=>?_))));exact⟨bS (by simp),hq (.new x) hx⟩;exact⟨bS (by simp),hq (.put x (.nm y)) ⟨hx,hy⟩⟩;exact⟨bS (by simp),hq (.get x y k) ⟨hx,hy,hk⟩⟩;exact⟨bS (by simp),hq (.set x k (.nm y)) ⟨hx,hk,hy⟩⟩;exact⟨⟨by decide,by decide⟩,⟨by decide,by decide,by decide⟩,(by show (0:Int)<10 ^ (30:Int).toNat;decide),bS (by simp),hq (.set x k (.nu _)) ⟨hx,hk⟩⟩
noncomputable abbrev eU:qai:=["_law_script","_law_words_here","_law_rows","_law_many","_law_cell"]
theorem nq:aG eU qaG (aq kf):=L2.iQ
theorem oE:(eU++(["_law_k"]:qai)).Nodup:=by decide +kernel
theorem wI(D:Df K mg "_law_program" kf qaG f fd)(M:ER mg)(ki:cJ P w K mg base "_law_cell_at" qaC 1 (cK K 2 rA.DI))(R0:cJ P w K mg base "_law_row" qaF 2 (cK K 2 RU)):cJ P w K mg base "_law_program" qaG 3 (cK K 2 JC):=by
 refine D.iI (lh D.F nq rfl λbw A outer s H E Ox hr ts q hG=>?_);have nd:=nq.nd;have hu:=bb.fK hr;have np:∀{i:Nat},aX ⟨H,[],Ox⟩ i:=iw;refine⟨_,(ah (dv (i:=2) nd rfl (Or.inl rfl) (qau (bO (aa (qat (aV (aa (qat aE) (aa (qat (aC (ae 1) (qas af))) (aa (qat (aV (aa (qat (aC (ae 1) (qas af))) aj))) aj))))) aj))) np)
  (ah (aN (i:=3) nd rfl (Or.inl rfl) (qau af) np)
  (ah (eB uP rfl (jL (qat (sN (ae 0) (qd (qas af)) (qd (qas af))))) (aD (i:=4) nd rfl (Or.inl rfl) np)
   (ak (aY (VW.vc (gr (bU hu (qas (bH (qas (aO ki hr (aa (ai 0) (aa (qat af) aj)))) (qas af))) (qas af)) (gr (bU hu (qas (bH (ae 4) (qas af))) (qas af)) (fF (sM (ae 3) (qas af))))))
    (ah (cA (iZ 2 ET EU bW bR (aa (qat (aV (aa (qat (aC (qas (bO (aa (qat aE) (aa (qat aE) aj)))) (qas (bH (qas (bY (ae 4) (qas af))) (qas af))))) (aa (qat (aC (ae 1) (qas (bH (qas (bY (ae 4) (qas af))) (qas af))))) aj)))) aj)))
    (ak (aN (i:=3) nd rfl (Or.inl rfl) (qau (dR (ae 3) (qas af))) np)))
    (ak (cA (iZ 2 ET EU bW bR (aa (qat (aO R0 hr (aa (qat (dR (qas (bY (ae 4) (qas af))) (qas (BC (qas (bH (ae 4) (qas af))) (qas af))))) (aa (ai 1) aj)))) aj)))))))
  (ak (aJ (qau (dR (qas (dR (ae 2) (qas (dA (ts:=["_law_k"]) rfl (by rfl) (eQ (by rfl) M.range (ae 3)) (λ_ _ _ _ _ _=>(aD (i:=5) oE rfl (Or.inl rfl) np)) (λ_ _ _ _ _ _=>qf) (λ_ _ _ _ _ _=>(qat (aV (aa (qat aE) aj)))))))) (qas (bO (aa (qat (aV (aa (qat aE) (aa (qat (aC (ae 1) (qas af))) aj)))) aj)))))))))),λ_=>?_⟩
 obtain⟨ns,ys,rfl,h4,h8,X9,hq⟩:=hG;obtain⟨y0,m0,e0⟩:=DY h4 (j:=0) (by decide);obtain⟨y1,m1,e1⟩:=DY h4 (j:=1) (by decide);obtain⟨y2,m2,e2⟩:=DY h4 (j:=2) (by decide);obtain⟨ms,ems,hms⟩:=RW ns;refine⟨_,e0,_,e1,bS (by simp),bS (by simp),bS (by simp),?_⟩;show hX (qc (ns.map T.int) (some 2) (some 42)) _ _ _ _;rw[ems];refine eS (λn ρ=>∃body ts b4,ρ=[some (.lst (ns.map .int),false),some (.lst (ys.map .str),false),some (.lst ts,true),some (.int (body.countP g0:Nat),false),b4]/\ts=(Rw.df y0 [y1]::body).map aU/\body.length=n/\body.countP g0<=8/\∀r∈body,M9 ys r\/∃x,r=.B6 (.nm x)\/r=.B7 (.nm x)) ⟨[],_,none,rfl,rfl,rfl,nL _,λr h=>nomatch h⟩ ?_ ?_
 . rintro n c ρ hc ⟨body,ts,b4,rfl,An,hlen,X_,hb⟩;have hn:n<ms.length:=(dJ.mp hc).1;have d5:ts.length<sizeLine:=by rw[An,cn,w5,sizeLine_eq];omega
   obtain⟨z,mz,ez⟩:=T3 h4 (c / 10);refine⟨rfl,ns,1,rfl,by decide,?_⟩;have QA:∀r,M9 ys r->∃uw eA b4',[some (T.lst (ns.map .int),false),some (.lst (ys.map .str),false),some (.lst (ts++[aU r]),true),some (.int (body.countP g0:Nat),false),some (.int c,false)]=[some (.lst (ns.map .int),false),some (.lst (ys.map .str),false),some (.lst eA,true),some (.int (uw.countP g0:Nat),false),b4']/\eA=(Rw.df y0 [y1]::uw).map aU/\uw.length=n+1/\uw.countP g0<=8/\∀r∈uw,M9 ys r\/∃x,r=.B6 (.nm x)\/r=.B7 (.nm x):=λr hr=>by
    have ho:g0 r=false:=by cases r<;>first|rfl|exact hr.elim
    have ec:(body++[r]).countP g0=body.countP g0:=by rw[List.countP_append,List.countP_singleton,ho];rfl
    refine⟨body++[r],_,_,by rw[ec],by rw[An];simp,by simp[hlen],by rw[ec];exact X_,λr' gD=>?_⟩;rcases g7.mp gD with q|q
    exact hb r' q;rw[cT.mp q];exact .inl hr
   have cm:yT (c % 5) 1000003:=.inr ⟨by decide,by decide⟩;refine jT (λ_=>⟨by decide,jT (λ_=>jT (λ_=>?_) λ_=>?_) λ_=>?_⟩) λ_=>?_;obtain⟨r,er,hr⟩:∃r:Rw,(∃v,ky [T.str ("if":String),.str ("while":String)] (c / 5 % 2)=some v/\aU r=.tup [v,.str z])/\(r=.B6 (.nm z)\/r=.B7 (.nm z)):=by
    have h0:=Ex (c / 5) (b:=2) (by decide);have h1:=EX (c / 5) (b:=2) (by decide);obtain⟨j,hj⟩:=oF h0;have hl:j<2:=by omega
    rw[hj]
    match j,hl with
    |0,_=>exact⟨.B6 (.nm z),⟨_,ag rfl,rfl⟩,.inl rfl⟩
    |1,_=>exact⟨.B7 (.nm z),⟨_,ag rfl,rfl⟩,.inr rfl⟩
   obtain⟨v,ev,evr⟩:=er;have ho:g0 r=true:=by obtain rfl|rfl:=hr<;>rfl
   have ec:(body++[r]).countP g0=body.countP g0+1:=by rw[List.countP_append,List.countP_singleton,ho];rfl
   refine⟨bS (by simp),⟨by decide,by decide⟩,by decide,_,ev,⟨by decide,by decide⟩,by decide,_,ez,bS (by simp),d5,?_⟩;refine⟨body++[r],(Rw.df y0 [y1]::(body++[r])).map aU,some (.int c,false),?_,rfl,by simp[hlen],?_,λr' gD=>?_⟩;have e3:(Rw.df y0 [y1]::(body++[r])).map aU=ts++[.tup [v,.str z]]:=by rw[An,gj,gj,AE,List.map_singleton,evr];rfl
   rw[ec,e3];rfl;rw[ec];omega;rcases g7.mp gD with q|q
   exact hb r' q;rw[cT.mp q];exact .inr ⟨z,hr⟩
   all_goals exact⟨⟨by decide,by decide⟩,by decide,cm,rfl,_,ys,rfl,h4,h8,λr hr=>⟨d5,QA r hr⟩⟩
 rintro ρ ⟨body,ts,b4,rfl,An,hlen,X_,hb⟩;refine⟨rfl,by omega,by omega,by rw[fL];exact bS (by omega),?_⟩;refine ud (u:=λ_=>aU .fin) (λi hi r hr=>⟨bS (by simp),hr⟩) ?_;have hl1:ts.length<=41:=by rw[An,cn,w5];omega
 refine⟨by rw[cn,uW];exact bS (by omega),_,e2,bS (by simp),bS (by simp),?_,?_⟩;rw[yH,cn,uW];exact bS (by simp;omega);have:=hq (Rw.df y0 [y1]::(body++(List.replicate (body.countP g0) .fin++[.give (.nm y2)]))) ⟨⟨y0,[y1],body,y2,rfl,hb⟩,by simp;omega⟩;have e3:(Rw.df y0 [y1]::(body++(List.replicate (body.countP g0) .fin++[.give (.nm y2)]))).map aU=ts++(List.range ((body.countP g0:Nat):Int).toNat).map (λ_=>aU .fin)++[aU (.give (.nm y2))]:=by rw[An,gj,AE,AE,List.map_replicate,iL,List.map_const',uW];simp
 rw[e3] at this;exact this
noncomputable abbrev je:qai:=["_law_program_here","_law_homes_here","_law_here","_law_k","_law_row_here"]
theorem ux:aG je qaH (aq rD):=L2.iQ
theorem D2(D:Df K mg "_law_homes" rD qaH f fd)(M:ER mg):cJ P w K mg base "_law_homes" qaH 1 (cK K 1 DW):=by
 refine D.iI (lh D.F ux rfl λbw A outer s H E Ox hr ts q hG=>?_);have nd:=ux.nd;have hu:=bb.fK hr;have np:∀{i:Nat},aX ⟨H,[],Ox⟩ i:=iw;refine⟨_,(ah (dv (i:=1) nd rfl (Or.inl rfl) (qau (bO aj)) np)
  (ah (aN (i:=2) nd rfl (Or.inl rfl) (qau d9) np)
  (ah (eB uP rfl (i5 (by rfl) M.enumerate (ai 0)) (dw (n:=2) rfl (aK (aD (i:=3) nd rfl (Or.inl rfl) np) (aK (aD (i:=4) nd rfl (Or.inl rfl) np) cC)))
   (ah (aY (bU hu (qas (aC (ae 4) (qas af))) (qas aE))
    (ak (aN (i:=2) nd rfl (Or.inl rfl) (qau (VE.vp (ai 3))) np))
    aL)
   (ah (cA (iZ 1 ET EU bW bR (aa (ai 2) aj)))
   (ak (aY (bU hu (qas (aC (ae 4) (qas af))) (qas aE))
    (ak (aN (i:=2) nd rfl (Or.inl rfl) (qau d9) np))
    aL)))))
  (ak (aJ (lg 1 np)))))),λ_=>?_⟩
 obtain⟨ys,rs,rfl,p,hq⟩:=hG;have hn:=p.le;refine⟨bS (by simp),?_⟩;refine jY (λi ρ=>∃ts hr b3 b4,ρ=[some (.lst (rs.map aU),false),some (.lst ts,true),some (hr,false),b3,b4]/\ts=List.replicate i (.int 0)/\(i<rs.length->hr=if i=0 then .a9 else .int 0)) ⟨_,_,none,none,rfl,rfl,λ_=>rfl⟩ ?_ ?_
 . rintro i r ρ hr ⟨ts,h,b3,b4,rfl,An,eh⟩;have hi:=(dJ.mp hr).1;have eh:=eh hi;have hs:ts.length<sizeLine:=by rw[An,JF,sizeLine_eq];omega
   have CA:ts++[.int 0]=List.replicate (i+1) (.int 0):=by rw[An,List.replicate_succ']
   rcases p.at hr with⟨rfl,f,ps,rfl⟩|⟨h1,h2,hk⟩|⟨h1,h2,g,rfl⟩
   exact⟨rfl,rfl,_,ag (j:=0) rfl,hs,_,ag (j:=0) rfl,_,_,_,_,rfl,CA,λ_=>rfl⟩
   . rw[if_neg (by omega)] at eh;subst eh;have fin:∃eA hr b3 b4,[some (T.lst (rs.map aU),false),some (.lst (ts++[.int 0]),true),some (.int 0,false),some (.int (i:Int),false),some (aU r,false)]=[some (.lst (rs.map aU),false),some (.lst eA,true),some (hr,false),b3,b4]/\eA=List.replicate (i+1) (T.int 0)/\(i+1<rs.length->hr=if i+1=0 then .a9 else .int 0):=⟨_,_,_,_,rfl,CA,λ_=>rfl⟩;obtain hk|⟨x,rfl|rfl⟩|rfl:=hk
     cases r<;>first|exact hk.elim|exact⟨rfl,rfl,_,ag (j:=0) rfl,hs,_,ag (j:=0) rfl,fin⟩
     all_goals exact⟨rfl,rfl,_,ag (j:=0) rfl,hs,_,ag (j:=0) rfl,fin⟩
   rw[if_neg (by omega)] at eh;subst eh;exact⟨rfl,rfl,_,ag (j:=0) rfl,hs,_,ag (j:=0) rfl,_,_,_,_,rfl,CA,λ_=>by omega⟩
 rintro ρ ⟨ts,h,b3,b4,rfl,rfl,_⟩;exact hq
noncomputable abbrev HK:qai:=["_law_program_here","_law_homes_here","_law_moves_here","_law_k","_law_row_here","_law_home"]
theorem uy:aG HK qaH (aq rF):=L2.iQ
theorem D3(D:Df K mg "_law_moves" rF qaH f fd)(M:ER mg)(HL:cJ P w K mg base "_law_homes" qaH 1 (cK K 1 DW))(yp:cJ P w K mg base "_law_class" qaE 1 (cK K 1 j_)):cJ P w K mg base "_law_moves" qaH 2 (cK K 1 DX):=by
 refine D.iI (lh D.F uy rfl λbw A outer s H E Ox hr ts q hG=>?_);have nd:=uy.nd;have hu:=bb.fK hr;have np:∀{i:Nat},aX ⟨H,[],Ox⟩ i:=iw;refine⟨_,(ah (aN (i:=1) nd rfl (Or.inl rfl) (qau (aO HL hr (aa (ai 0) aj))) np)
  (ah (dv (i:=2) nd rfl (Or.inl rfl) (qau (bO aj)) np)
  (ah (eB uP rfl (i5 (by rfl) M.enumerate (ai 0)) (dw (n:=2) rfl (aK (aD (i:=3) nd rfl (Or.inl rfl) np) (aK (aD (i:=4) nd rfl (Or.inl rfl) np) cC)))
   (ah (aN (i:=5) nd rfl (Or.inl rfl) (qau (aC (ae 1) (ae 3))) np)
   (ak (aY (bU hu (qas (aC (ae 4) (qas af))) (qas aE))
    (ak (cA (iZ 2 ET EU bW bR (aa (qat (aV (aa (qat (aV (aa (qat aE) (aa (ai 5) (aa (qat (aC (ae 4) (qas af))) (aa (qat aE) aj)))))) (aa (qat (aV (aa (qat aE) (aa (ai 3) (aa (qat aE) (aa (qat aE) aj)))))) aj)))) aj))))
    (ak (aY (VW.vc (gr (bU hu (qas (aC (ae 4) (qas af))) (qas aE)) (fF (cH (bZ dW (by rfl) M.isinstance (by rfl) M.str mx (qas (aC (ae 4) (qas af))))))))
     (ak (cA (iZ 2 ET EU bW bR (aa (qat (aV (aa (qat (aV (aa (qat aE) (aa (ai 5) (aa (qat (aC (ae 4) (qas af))) (aa (qat aE) aj)))))) (aa (qat (aV (aa (qat aE) (aa (ai 5) (aa (qat (aC (ae 4) (qas af))) (aa (qat aE) aj)))))) aj)))) aj))))
     (ak (aY (bU hu (qas (aC (ae 4) (qas af))) (qas aE))
      (ak (cA (iZ 2 ET EU bW bR (aa (qat (aV (aa (qat (aV (aa (qat aE) (aa (ai 5) (aa (qat (aC (ae 4) (qas af))) (aa (qat aE) aj)))))) (aa (qat (aV (aa (qat aE) (aa (ai 5) (aa (qat (aC (ae 4) (qas af))) (aa (qat (aO yp hr (aa (qat (aC (ae 4) (qas af))) aj))) aj)))))) aj)))) aj))))
      (ak (aY (VW.vc (gr (bU hu (qas (aC (ae 4) (qas af))) (qas aE)) (fF (cH (bZ dW (by rfl) M.isinstance (by rfl) M.str mx (qas (aC (ae 4) (qas af))))))))
       (ak (cA (iZ 2 ET EU bW bR (aa (qat (aV (aa (qat (aV (aa (qat aE) (aa (ai 5) (aa (qat (aC (ae 4) (qas af))) (aa (qat (aO yp hr (aa (qat (aC (ae 4) (qas af))) aj))) aj)))))) (aa (qat (aV (aa (qat aE) (aa (ai 5) (aa (qat (aC (ae 4) (qas af))) (aa (qat aE) aj)))))) aj)))) aj))))
       aL))))))))))
  (ak (aJ (lg 2 np)))))),λ_=>?_⟩
 obtain⟨ys,rs,rfl,p,hy,hq⟩:=hG;have hn:=p.le;refine⟨rfl,ys,rs,rfl,p,bS (by simp),?_⟩;refine jY (λi ρ=>∃ts b3 b4 b5,ρ=[some (.lst (rs.map aU),false),some (.lst (List.replicate rs.length (.int 0)),false),some (.lst ts,true),b3,b4,b5]/\ts=(gm rs i).map ke) ⟨_,none,none,none,rfl,rfl⟩ ?_ ?_
 . rintro i r ρ hr ⟨ts,b3,b4,b5,rfl,An⟩;have hi:=(dJ.mp hr).1;have em:=DT hr;have ml:=yo rs i;have hs:ts.length<sizeLine:=by rw[An,cn,sizeLine_eq];omega
   have h0:ky (List.replicate rs.length (T.int 0)) (i:Int)=some (.int 0):=ag (by rw[wY,if_pos hi]);have X':∀k,Am ys k->X8 k:=λk hk=>by
    cases k with
    |fld x=>exact hy x hk
    |op o=>cases o with
     |nm y=>exact hy y hk
     |nu _=>trivial
   refine⟨rfl,rfl,_,h0,?_⟩;have nil:ni i r=[]->∃eA b3 b4 b5,[some (T.lst (rs.map aU),false),some (.lst (List.replicate rs.length (.int 0)),false),some (.lst ts,true),some (.int (i:Int),false),some (aU r,false),some (.int 0,false)]=[some (.lst (rs.map aU),false),some (.lst (List.replicate rs.length (.int 0)),false),some (.lst eA,true),b3,b4,b5]/\eA=(gm rs (i+1)).map ke:=λz=>⟨_,_,_,_,rfl,by rw[em,z,Ew];exact An⟩;have one:∀m,ni i r=[m]->∃eA b3 b4 b5,[some (T.lst (rs.map aU),false),some (.lst (List.replicate rs.length (.int 0)),false),some (.lst (ts++[ke m]),true),some (.int (i:Int),false),some (aU r,false),some (.int 0,false)]=[some (.lst (rs.map aU),false),some (.lst (List.replicate rs.length (.int 0)),false),some (.lst eA,true),b3,b4,b5]/\eA=(gm rs (i+1)).map ke:=λm z=>⟨_,_,_,_,rfl,by rw[em,z,AE,An];rfl⟩;rcases p.at hr with⟨rfl,f,ps,rfl⟩|⟨h1,h2,hk⟩|⟨h1,h2,g,rfl⟩
   exact⟨_,ag (j:=0) rfl,_,ag (j:=0) rfl,_,ag (j:=0) rfl,_,ag (j:=0) rfl,nil rfl⟩
   . obtain hk|⟨x,rfl|rfl⟩|rfl:=hk
     cases r with
     |new x=>exact⟨_,ag (j:=0) rfl,_,ag (j:=1) rfl,bS (by simp),bS (by simp),bS (by simp),hs,one _ rfl⟩
     |put x o=>
      cases o with
      |nm y=>exact⟨_,ag (j:=0) rfl,_,ag (j:=0) rfl,_,ag (j:=2) rfl,rfl,_,ag (j:=1) rfl,bS (by simp),_,ag (j:=2) rfl,bS (by simp),bS (by simp),hs,one _ rfl⟩
      |nu _=>exact hk.elim
     |get x y k=>exact⟨_,ag (j:=0) rfl,_,ag (j:=0) rfl,_,ag (j:=0) rfl,_,ag (j:=1) rfl,bS (by simp),_,ag (j:=2) rfl,_,ag (j:=3) rfl,rfl,k,rfl,X' k hk.2.2,bS (by simp),bS (by simp),hs,one _ rfl⟩
     |set y k o=>
      cases o with
      |nm z=>exact⟨_,ag (j:=0) rfl,_,ag (j:=0) rfl,_,ag (j:=0) rfl,_,ag (j:=0) rfl,_,ag (j:=3) rfl,rfl,_,ag (j:=1) rfl,_,ag (j:=2) rfl,rfl,k,rfl,X' k hk.2.1,bS (by simp),_,ag (j:=3) rfl,bS (by simp),bS (by simp),hs,one _ rfl⟩
      |nu _=>exact⟨_,ag (j:=0) rfl,_,ag (j:=0) rfl,_,ag (j:=0) rfl,_,ag (j:=0) rfl,_,ag (j:=3) rfl,rfl,nil rfl⟩
     |_=>exact hk.elim
     all_goals exact⟨_,ag (j:=0) rfl,_,ag (j:=0) rfl,_,ag (j:=0) rfl,_,ag (j:=0) rfl,nil rfl⟩
   exact⟨_,ag (j:=0) rfl,_,ag (j:=0) rfl,_,ag (j:=0) rfl,_,ag (j:=0) rfl,nil rfl⟩
 rintro ρ ⟨ts,b3,b4,b5,rfl,rfl⟩;exact hq
end
noncomputable def ny(o:Obj)(E:List Ent):T:=.df o (cD E) (cW E)
def D4(ts:qaj)(q:qam):Prop:=∃(E F:List Ent)(o1 o2:Obj)(p:Pl),ts=[ny o1 E,ny o2 F,M_ p]/\(F.map (·.1)).Nodup/\(∀e∈F,0<=e.1.1)/\Na p/\q (.vw (.int (eF E F p)))
def D5(ts:qaj)(q:qam):Prop:=∃(E:List Ent)(o1:Obj)(p:Pl),ts=[ny o1 E,M_ p]/\(∀i,p≠.rw i)/\q (.fr (.lst ((ck E p).map λk=>.kt (kK k))))
def rK(ts:qaj)(q:qam):Prop:=∃(E F:List Ent)(o1 o2:Obj)(m:Mv),ts=[ny o1 E,ny o2 F,ke m]/\(F.map (·.1)).Nodup/\(∀e∈F,0<=e.1.1)/\Na m.2/\(∀i,m.1≠.rw i)/\q (.fr (.lst ((bp E F m).map λk=>.kt (kK k))))
def D6(ts:qaj)(q:qam):Prop:=∃(E F:List Ent)(o1 o2:Obj),ts=[ny o1 E,ny o2 F]/\(E.map (·.1)).Nodup/\(F.map (·.1)).Nodup/\E.length<=100000/\F.length<=100000/\(∀e∈E,0<=e.2)/\(∀e∈F,0<=e.2)/\∀bs cs:List TS.Tr,bs.Perm (pA E)->bs.Pairwise (λa b=>TS.cS b a=false)->cs.Perm (pA F)->cs.Pairwise (λa b=>TS.cS b a=false)->q (.vw (.tup [.lst (bs.map TS.tT),.lst (cs.map TS.tT)]))
noncomputable def R3(q:qam):FS:=λd ρ=>∃(E F:List Ent)(o1 o2:Obj)(p:T)(y c:Str)(b:Bool),ρ=[some (ny o1 E,false),some (ny o2 F,false),some (p,false),some (.str (if b=true then "name" else "cells"),false),some (.int 0,false),some (.str y,false),some (.str c,false),some (.int (aM E (zk y)),false),none,none,none]/\(F.map (·.1)).Nodup/\(∀e∈F,0<=e.1.1)/\q (.vw (.int (if b=true then aM E (zk y) else Jq (pC (aM E (zk y)) c) F)))/\∀ρ r,q r->d.rt ρ r
noncomputable def R4(q:qam):FS:=λd ρ=>∃(E:List Ent)(o1:Obj)(p:T)(y c:Str),ρ=[some (ny o1 E,false),some (p,false),some (.str "cells",false),some (.int 0,false),some (.str y,false),some (.str c,false),some (.int (aM E (zk y)),false)]/\q (.fr (.lst ((ck E (.cl y c)).map λk=>.kt (kK k))))/\∀ρ r,q r->d.rt ρ r
theorem yq(E:List Ent):(pA E).length<=E.length:=by unfold pA;rw[cn];exact Sy _ E
theorem yr{E:List Ent}(h:∀e∈E,0<=e.2):(E.zipIdx.filter λp=>decide (p.1.2 > 0)).map (λp:Ent×Nat=>TS.tT (p.1.1.1,p.1.1.2,p.1.2))=(pA E).map TS.tT:=by
 have e1:(E.zipIdx.filter λp=>decide (p.1.2 > 0)).map (λp:Ent×Nat=>p.1)=E.filter λe=>decide (e.2 > 0):=by
  conv=>rhs;rw[<- List.zipIdx_map_fst 0 E,List.filter_map]
  rfl
 have e2:(E.filter λe=>decide (e.2 > 0))=E.filter λe=>!decide (e.2=0):=List.filter_congr λe he=>by have:=h e he;by_cases z:e.2=0;simp[z];rw[decide_eq_true (show e.2 > 0 by omega),decide_eq_false z];rfl
 unfold pA;rw[<- e2,<- e1,uY,uY];rfl
section
noncomputable abbrev R5:qai:=["_law_names","_law_cells","_law_origin","_law_word","_law_home","_law_name","_law_kind","_law_some","_law_total","_law_row_here","_law_other"]
theorem D7:aG R5 qaI (aq DV):=L2.iQ
theorem Nd(D:Df K mg "_law_had" DV qaI f fd):cJ P w K mg base "_law_had" qaI 1 (cK K 3 D4):=by
 refine D.iI (lh D.F D7 rfl λbw A outer s H E Ox hr ts q hG=>?_);have nd:=D7.nd;have hu:=bb.fK hr;have np:∀{i:Nat},aX ⟨H,[],Ox⟩ i:=iw;have iY:=kH hu;refine⟨_,(ah (vI (ai 2) (dw (n:=4) rfl (aK (aD (i:=3) nd rfl (Or.inl rfl) np) (aK (aD (i:=4) nd rfl (Or.inl rfl) np) (aK (aD (i:=5) nd rfl (Or.inl rfl) np) (aK (aD (i:=6) nd rfl (Or.inl rfl) np) cC))))))
  (ah (aY (bU hu (ae 3) (qas aE))
   (ak (aJ (qau (BE (qas af) (ae 4)))))
   aL)
  (ah (aN (i:=7) nd rfl (Or.inl rfl) (qau (CM iY (ae 0) (aa (ai 4) (aa (ai 5) aj)) (qat af) ⟨rfl,rfl,rfl,rfl⟩)) np)
  (l_.weak (u:=(R3 q)) (ah (aY (bU hu (ae 3) (qas aE))
   (ak (aJ (qau (VE.vp (ai 7)))))
   aL)
  (ah (aN (i:=8) nd rfl (Or.inl rfl) (qau af) np)
  (ah (eB uP rfl (G3 (ai 1)) (dw (n:=2) rfl (aK (aD (i:=9) nd rfl (Or.inl rfl) np) (aK (aD (i:=10) nd rfl (Or.inl rfl) np) cC)))
   (ak (aY (VW.vc (gr (bU hu (ae 10) (ae 6)) (fF (bU hu (qas (bH (qas (vE (ae 7) (ae 9))) (qas af))) (qas af)))))
    (ak (aN (i:=8) nd rfl (Or.inl rfl) (qau (qb (ae 8) (qas (G4 iY (ae 1) (aa (ai 9) (aa (ai 10) aj)))))) np))
    aL)))
  (ak (aJ (qau (VE.vp (ai 8)))))))) ?w1)))),λ_=>?main⟩
 case w1=>
  rintro d ρ ⟨E,F,o1,o2,p,y,c,b,rfl,nd,ps,hq,fin⟩;cases b with
  |true=>exact fin _ _ hq
  |false=>
   have hq:q (.vw (.int (Jq (pC (aM E (zk y)) c) F))):=hq;have ek:(cD F).map CD=F.map λe=>CD (kK e.1):=by unfold cD;rw[uY];rfl
   show hX ((cD F).map CD) _ _ _ _;rw[ek];refine eS (λn ρ=>∃v b9 WH,ρ=[some (ny o1 E,false),some (ny o2 F,false),some (p,false),some (.str "cells",false),some (.int 0,false),some (.str y,false),some (.str c,false),some (.int (aM E (zk y)),false),some (.int v,false),b9,WH]/\v=Jq (pC (aM E (zk y)) c) (F.take n)) ⟨_,none,none,rfl,rfl⟩ ?_ ?_;rintro n e ρ he ⟨_,b9,WH,rfl,rfl⟩;have hs:=Ha (p:=pC (aM E (zk y)) c) he;have h0:=ps e (fY he);have hb:aM E (zk y) / 2 ^ e.1.1.toNat % 2=1↔ib (aM E (zk y)) e.1.1.toNat=true:=⟨λz=>decide_eq_true z,of_decide_eq_true⟩;refine⟨rfl,rfl,jT (λz1=>⟨h0,(by show (0:Int)<2;decide),jT (λz2=>?_) (λz2=>?_)⟩) (λz1=>?_)⟩;have hp:pC (aM E (zk y)) c e.1=true:=by unfold pC;rw[decide_eq_true z1,uX];exact hb.mp z2
   refine⟨bS (by simp),.int e.2,qZ nd (fY he),_,_,_,rfl,?_⟩;rw[hs];unfold AR;rw[if_pos hp];have hp:¬ pC (aM E (zk y)) c e.1=true:=λz=>z2 (by unfold pC at z;rw[gi] at z;exact hb.mpr z.2);refine⟨_,_,_,rfl,?_⟩;rw[hs];unfold AR;rw[if_neg hp];have hp:¬ pC (aM E (zk y)) c e.1=true:=λz=>z1 (by unfold pC at z;rw[gi] at z;exact of_decide_eq_true z.1);refine⟨_,_,_,rfl,?_⟩;rw[hs];unfold AR;rw[if_neg hp];rintro ρ ⟨_,b9,WH,rfl,rfl⟩;rw[JM];exact fin _ _ hq
 case main=>
  obtain⟨E,F,o1,o2,p,rfl,nd,ps,pk,hq⟩:=hG;have go:∀(b:Bool)(y c:Str)(p:T),q (.vw (.int (if b=true then aM E (zk y) else Jq (pC (aM E (zk y)) c) F)))->R3 q {nx:=λx=>q (.vw .a9),rt:=λx r=>q r} [some (ny o1 E,false),some (ny o2 F,false),some (p,false),some (.str (if b=true then "name" else "cells"),false),some (.int 0,false),some (.str y,false),some (.str c,false),some ((bL (cD E) (cW E) (kK (zk y))).getD (.int 0),false),none,none,none]:=λb y c p hq=>by rw[e_];exact⟨E,F,o1,o2,p,y,c,b,rfl,nd,ps,hq,λ_ _ h=>h⟩
  cases p with
  |rw i=>have pk:i<=1000:=pk;exact⟨rfl,rfl,⟨by omega,by omega,by decide⟩,hq⟩
  |nm y=>exact⟨rfl,rfl,bS (by simp),go true y "" _ hq⟩
  |cl y c=>exact⟨rfl,rfl,bS (by simp),go false y c _ hq⟩
noncomputable abbrev yt:qai:=["_law_names","_law_goal","_law_word","_law_home","_law_name","_law_kind","_law_some"]
theorem uz:aG yt qaJ (aq rG):=L2.iQ
theorem uA:(yt++(["_law_row_here"]:qai)).Nodup:=by decide +kernel
theorem D8(D:Df K mg "_law_goals" rG qaJ f fd)(M:ER mg):cJ P w K mg base "_law_goals" qaJ 1 (cK K 2 D5):=by
 refine D.iI (lh D.F uz rfl λbw A outer s H E Ox hr ts q hG=>?_);have nd:=uz.nd;have hu:=bb.fK hr;have np:∀{i:Nat},aX ⟨H,[],Ox⟩ i:=iw;have iY:=kH hu;refine⟨_,(ah (vI (ai 1) (dw (n:=4) rfl (aK (aD (i:=2) nd rfl (Or.inl rfl) np) (aK (aD (i:=3) nd rfl (Or.inl rfl) np) (aK (aD (i:=4) nd rfl (Or.inl rfl) np) (aK (aD (i:=5) nd rfl (Or.inr rfl) np) cC))))))
  (ah (aY (bU hu (ae 2) (qas aE))
   (ak (aJ (qau (bO (aa (qat (cR (aa (ai 3) (aa (ai 4) aj)))) aj)))))
   aL)
  (ah (aN (i:=6) nd rfl (Or.inr rfl) (qau (CM iY (ae 0) (aa (ai 3) (aa (ai 4) aj)) (qat af) ⟨rfl,rfl,rfl,rfl⟩)) np)
  (l_.weak (u:=(R4 q)) (ak (aJ (qau (dA (ts:=["_law_row_here"]) rfl (by rfl) (eQ (by rfl) M.range (qas af)) (λ_ _ _ _ _ _=>(aD (i:=7) uA rfl (Or.inl rfl) np)) (λ_ _ _ _ _ _=>(gQ (bU hu (qas (bH (qas (vE (ae 6) (ae 7))) (qas af))) (qas af)))) (λ_ _ _ _ _ _=>(qat (cR (aa (ai 7) (aa (ai 5) aj))))))))) ?w1)))),λ_=>?main⟩
 case w1=>
  rintro d ρ ⟨E,o1,p,y,c,rfl,hq,fin⟩;have hr:((rangeT 0 60).filter λt=>match t with | .int i=>ib (aM E (zk y)) i.toNat|_=>false)=((List.range 60).filter (ib (aM E (zk y)))).map λ(j:Nat)=>T.int (j:Int):=by
   unfold rangeT;rw[List.filter_map];have e:((λt:T=>match t with | .int i=>ib (aM E (zk y)) i.toNat|_=>false) ∘ λ(i:Nat)=>T.int (0+(i:Int)))=ib (aM E (zk y)):=by funext i;show ib _ (0+(i:Int)).toNat=_;rw[Im,iL]
   rw[e];exact Et λi _=>by rw[Im]
  refine⟨rfl,by decide,by decide,by rw[fL];exact bS (by decide),?_⟩;refine jM (λt=>match t with | .int i=>ib (aM E (zk y)) i.toNat|_=>false) (λt=>match t with | .int i=>.kt (kK (i,c))|_=>.a9) (λt ht k r h=>?_) ?_;obtain⟨i,hi⟩:=Ic.mp ht;obtain⟨_,rfl⟩:=ix hi;rw[Im] at h ⊢;refine⟨by omega,by decide,?_⟩;have h:if ib (aM E (zk y)) ((i:Int)).toNat=true then r [.kt (kK ((i:Int),c))] else r []:=h
  show if ib (aM E (zk y)) ((i:Int)).toNat=true then (2<=sizeLine/\r [.kt (kK ((i:Int),c))]) else r []
  by_cases z:ib (aM E (zk y)) ((i:Int)).toNat=true;rw[if_pos z] at h ⊢;exact⟨bS (by decide),h⟩;rw[if_neg z] at h ⊢;exact h;refine fin _ _ ?_;show q (.fr (.lst (((rangeT 0 60).filter λt=>match t with | .int i=>ib (aM E (zk y)) i.toNat|_=>false).map λt=>match t with | .int i=>.kt (kK (i,c))|_=>.a9)));rw[hr,uY];unfold ck at hq;rw[uY] at hq;exact hq
 case main=>
  obtain⟨E,o1,p,rfl,hp,hq⟩:=hG;cases p with
  |rw i=>exact absurd rfl (hp i)
  |nm x=>exact⟨rfl,rfl,bS (by simp),bS (by simp),hq⟩
  |cl y c=>refine⟨rfl,rfl,bS (by simp),?_⟩;show R4 q _ [some (ny o1 E,false),some (M_ (.cl y c),false),some (.str "cells",false),some (.int 0,false),some (.str y,false),some (.str c,false),some ((bL (cD E) (cW E) (kK (zk y))).getD (.int 0),false)];rw[e_];exact⟨E,o1,_,y,c,rfl,hq,λ_ _ h=>h⟩
noncomputable abbrev yu:qai:=["_law_names","_law_cells","_law_move","_law_goal","_law_origin","_law_some","_law_where"]
theorem uB:aG yu qaK (aq rH):=L2.iQ
theorem uC:(yu++(["_law_key_here"]:qai)).Nodup:=by decide +kernel
theorem D9(D:Df K mg "_law_lacks" rH qaK f fd)(M:ER mg)(D_:cJ P w K mg base "_law_had" qaI 1 (cK K 3 D4))(HM:cJ P w K mg base "_law_goals" qaJ 1 (cK K 2 D5)):cJ P w K mg base "_law_lacks" qaK 2 (cK K 3 rK):=by
 refine D.iI (lh D.F uB rfl λbw A outer s H E Ox hr ts q hG=>?_);have nd:=uB.nd;have hu:=bb.fK hr;have np:∀{i:Nat},aX ⟨H,[],Ox⟩ i:=iw;have iY:=kH hu;refine⟨_,(ah (vI (ai 2) (dw (n:=2) rfl (aK (aD (i:=3) nd rfl (Or.inl rfl) np) (aK (aD (i:=4) nd rfl (Or.inl rfl) np) cC))))
  (ah (aN (i:=5) nd rfl (Or.inr rfl) (qau (aO D_ hr (aa (ai 0) (aa (ai 1) (aa (ai 4) aj))))) np)
  (ah (aN (i:=6) nd rfl (Or.inr rfl) (qau (aC (qas (bO (aa (ai 1) (aa (ai 0) aj)))) (qas (jK oH mw (by rfl) M.int xG (a_ (qas (oR hu (qas (aC (ae 3) (qas af))) (qas aE))) bx))))) np)
  (ak (aJ (qau (dA (ts:=qaE) rfl (by rfl) (jL (qat (aO HM hr (aa (ai 0) (aa (ai 3) aj))))) (λ_ _ _ _ _ _=>(aD (i:=7) uC rfl (Or.inl rfl) np)) (λ_ _ _ _ _ _=>(gQ (BF hu (qas (qb (qas (fS iY (ae 6) (ai 7) (qat af) ⟨rfl,rfl,rfl,rfl⟩)) (ae 5))) (qas (fS iY (ae 6) (ai 7) (qat af) ⟨rfl,rfl,rfl,rfl⟩))))) (λ_ _ _ _ _ _=>(ai 7))))))))),λ_=>?_⟩
 obtain⟨E,F,o1,o2,m,rfl,nd,ps,pk,hp,hq⟩:=hG;refine⟨rfl,rfl,rfl,E,F,o1,o2,m.2,rfl,nd,ps,pk,?_⟩;obtain⟨g,o⟩:=m;have gl:((ck E g).map λk=>T.kt (kK k)).length<=sizeLine:=by
  rw[cn];cases g with
  |nm x=>exact bS (by simp[ck])
  |rw i=>exact bS (by simp[ck])
  |cl y c=>unfold ck;rw[cn];have:=Sy (ib (aM E (zk y))) (List.range 60);rw[uW] at this;exact bS (by omega)
 have fin:∀(EE:List Ent)(oo:Obj),(∀k,Tb.get ⟨E,F,false⟩ (isNm g) k=aM EE k)->cw (hName 7) (jG (f2 (fT (f2 (fT (wg (cY 6) (cV 7) (fT (fC (.int 0))))) (cY 5) qa)) (fT (wg (cY 6) (cV 7) (fT (fC (.int 0))))) IH)) (cV 7) [some (ny o1 E,false),some (ny o2 F,false),some (ke (g,o),false),some (M_ g,false),some (M_ o,false),some (.int (eF E F o),false),some (ny oo EE,false),none] ((ck E g).map λk=>T.kt (kK k)) λus=>q (.fr (.lst us)):=λEE oo hg=>by
  refine c9 (f:=λk=>T.kt (kK k)) (u:=λk=>T.kt (kK k)) (p:=λk=>!decide (bitOr (Tb.get ⟨E,F,false⟩ (isNm g) k) (eF E F o)=Tb.get ⟨E,F,false⟩ (isNm g) k)) (λ_ _ _ _ _=>trivial) (λk _ r s hk=>?_) hq;rw[hg] at hk;show qa ((bL (cD EE) (cW EE) (kK k)).getD (.int 0)) (.int (eF E F o)) λx=>IH x.t ((bL (cD EE) (cW EE) (kK k)).getD (.int 0)) λy=>match y with | .vw (.bl b)=>if b=true then r (.kt (kK k)) else s|_=>False
  rw[e_];exact hk
 cases g with
 |rw i=>exact absurd rfl (hp i)
 |nm x=>exact⟨bS (by simp),_,ag (j:=0) rfl,_,ag (j:=1) rfl,rfl,rfl,E,o1,_,rfl,hp,gl,fin E o1 λ_=>rfl⟩
 |cl y c=>exact⟨bS (by simp),_,ag (j:=0) rfl,_,ag (j:=0) rfl,rfl,rfl,E,o1,_,rfl,hp,gl,fin F o2 λ_=>rfl⟩
noncomputable abbrev rL:qai:=["_law_names","_law_cells","_law_first"]
theorem uD:aG rL qaL (aq rJ):=L2.iQ
theorem uE:(rL++(["_law_key_here"]:qai)).Nodup:=by decide +kernel
theorem uF:(rL++(["_law_key_here"]:qai)).Nodup:=by decide +kernel
theorem D'(D:Df K mg "_law_table" rJ qaL f fd)(M:ER mg):cJ P w K mg base "_law_table" qaL 1 (cK K 2 D6):=by
 refine D.iI (lh D.F uD rfl λbw A outer s H E Ox hr ts q hG=>?_);have nd:=uD.nd;have hu:=bb.fK hr;have np:∀{i:Nat},aX ⟨H,[],Ox⟩ i:=iw;have iY:=kH hu;refine⟨_,(ah (aN (i:=2) nd rfl (Or.inl rfl) (qau (bC TS.c8 TS.gL (by rfl) M.sorted jn (a_ (qas (dA (ts:=qaE) rfl (by rfl) (tY (ai 0)) (λ_ _ _ _ _ _=>(aD (i:=3) uE rfl (Or.inl rfl) np)) (λ_ _ _ _ _ _=>(gQ (xv (qas (lx iY (ae 0) (ae 3))) (qas af)))) (λ_ _ _ _ _ _=>(qat (aV (aa (qat (aC (qS (ae 3)) (qas af))) (aa (qat (aC (qS (ae 3)) (qas af))) (aa (qat (lx iY (ae 0) (ae 3))) aj)))))))) bx))) np)
  (ak (aJ (qau (aV (aa (ai 2) (aa (qat (bC TS.c8 TS.gL (by rfl) M.sorted jn (a_ (qas (dA (ts:=qaE) rfl (by rfl) (tY (ai 1)) (λ_ _ _ _ _ _=>(aD (i:=3) uF rfl (Or.inl rfl) np)) (λ_ _ _ _ _ _=>(gQ (xv (qas (lx iY (ae 1) (ae 3))) (qas af)))) (λ_ _ _ _ _ _=>(qat (aV (aa (qat (aC (qS (ae 3)) (qas af))) (aa (qat (aC (qS (ae 3)) (qas af))) (aa (qat (lx iY (ae 1) (ae 3))) aj)))))))) bx))) aj))))))),λ_=>?_⟩
 obtain⟨E,F,o1,o2,rfl,n1,n2,l1,l2,p1,p2,hq⟩:=hG;have ep:∀(E:List Ent)(o:Obj),mQ o (cD E)=E.zipIdx.map λp=>.pin (ou o p.2) (CD (kK p.1.1)):=λE o=>by unfold mQ cD;rw[List.zipIdx_map,uY];rfl
 have pl:∀(E:List Ent)(o:Obj),E.length<=100000->(mQ o (cD E)).length<=sizeLine:=λE o h=>by rw[tX];unfold cD;rw[cn,sizeLine_eq];omega
 refine⟨rfl,pl E o1 l1,?_⟩;show cw _ _ _ _ (mQ o1 (cD E)) _;rw[ep];refine c9 (u:=λp:Ent×Nat=>TS.tT (p.1.1.1,p.1.1.2,p.1.2)) (p:=λp=>decide (p.1.2 > 0)) (λ_ _ _ _ _=>trivial) (λp hp r s hr=>?_) ?_;obtain⟨e,i⟩:=p;have hi:E[i]?=some e:=List.mem_zipIdx_iff_getElem?.mp hp;have hk:(cD E)[i]?=some (kK e.1):=by unfold cD;rw[fj,hi];rfl
 have hg:=qZ n1 (fY hi);refine⟨i,kK e.1,.int e.2,rfl,hk,hg,?_⟩;show if decide (e.2 > 0)=true then _ else s
 by_cases z:decide (e.2 > 0)=true;rw[if_pos z] at hr ⊢;exact⟨_,ag (j:=0) rfl,_,ag (j:=1) rfl,i,kK e.1,.int e.2,rfl,hk,hg,bS (by simp),hr⟩;rw[if_neg z] at hr ⊢;exact hr;show TS.wu [.lst _] _;refine⟨pA E,by rw[yr p1],km (yq E) l1,λbs pb sb=>?_⟩;refine⟨rfl,pl F o2 l2,?_⟩;show cw _ _ _ _ (mQ o2 (cD F)) _;rw[ep];refine c9 (u:=λp:Ent×Nat=>TS.tT (p.1.1.1,p.1.1.2,p.1.2)) (p:=λp=>decide (p.1.2 > 0)) (λ_ _ _ _ _=>trivial) (λp hp r s hr=>?_) ?_;obtain⟨e,i⟩:=p;have hi:F[i]?=some e:=List.mem_zipIdx_iff_getElem?.mp hp;have hk:(cD F)[i]?=some (kK e.1):=by unfold cD;rw[fj,hi];rfl
 have hg:=qZ n2 (fY hi);refine⟨i,kK e.1,.int e.2,rfl,hk,hg,?_⟩;show if decide (e.2 > 0)=true then _ else s
 by_cases z:decide (e.2 > 0)=true;rw[if_pos z] at hr ⊢;exact⟨_,ag (j:=0) rfl,_,ag (j:=1) rfl,i,kK e.1,.int e.2,rfl,hk,hg,bS (by simp),hr⟩;rw[if_neg z] at hr ⊢;exact hr;refine⟨pA F,by show [T.lst ((F.zipIdx.filter λp=>decide (p.1.2 > 0)).map (λp:Ent×Nat=>TS.tT (p.1.1.1,p.1.1.2,p.1.2)))]=_;rw[yr p2],km (yq F) l2,λcs pc sc=>?_⟩;exact⟨bS (by simp),hq bs cs pb sb pc sc⟩
end
end bF
namespace Lay
open PySem L2 VT Gen K5
end Lay
namespace MK
open PySem L2 VT Gen BS K5 x6
open PySem.Builtin (bitOr)
noncomputable def stK(w:Bool)(o:Pl)(p:Tb)(k:Int×Str):Tb:={gZ p (w,k,eF p.E p.F o) with b:=true}
noncomputable def kZ(p:Tb)(m:Mv):Tb:=(bp p.E p.F m).foldl (stK (isNm m.1) m.2) p
def AU(rs:qal):Prop:=∀i,i<rs.length->j2 (bz rs) i=some 0
def iE(rs:qal)(m:Mv):Prop:=∃(i:Nat)(r:Rw),rs[i]?=some r/\m∈ni i r
theorem Nf{m:Mv}(h:m∈gm rs n):iE rs m:=by
 unfold gm at h;obtain⟨i,_,hm⟩:=Ot.mp h;cases hr:rs[i]? with
 |none=>rw[hr] at hm;cases hm
 |some r=>rw[hr] at hm;exact⟨i,r,hr,hm⟩
theorem Nh{m:Mv}{r:Rw}(hr:rs[i]?=some r)(h:m∈ni i r):m∈gm rs rs.length :=
 Ot.mpr ⟨i,w6.mpr (dJ.mp hr).1,by rw[hr];exact h⟩
theorem get_mem{E:List Ent}(nd:(E.map (·.1)).Nodup){e:Ent}(h:e∈E):aM E e.1=e.2:=by have h1:=e_ e.1 E;rw[qZ nd h] at h1;exact (T.int.inj h1).symm
theorem pL{p:Tb}(I:Iv rs p){m:Mv}(hm:iE rs m):below rs.length (eF p.E p.F m.2):=by
 obtain⟨i,r,hr,hm⟩:=hm;have hi:i<rs.length:=(dJ.mp hr).1;obtain⟨g,o⟩:=m;have cl:∀y c,below rs.length (eF p.E p.F (.cl y c)):=λy c=>by
  refine mW ?_ λk hk=>?_;have:∀(l:List Ent)(b:Int),0<=b->(∀e∈l,0<=e.2)->0<=l.foldl (AR (pC (aM p.E (zk y)) c)) b:=λl=>by
   induction l with
   |nil=>exact λb h _=>h
   |cons e l ih=>intro b hb he;refine ih _ ?_ λx hx=>he x (d3 _ hx);unfold AR;split;exact Jp hb (he e dq);exact hb
  exact this p.F 0 (Int.le_refl _) λe he=>by rw[<- get_mem I.nF he];exact (I.bl false e.1).1
  have hk:ib (p.F.foldl (AR (pC (aM p.E (zk y)) c)) 0) k=true:=hk;rw[qY,x6.dB,E2] at hk;obtain⟨e,he,z⟩:=Ig.mp hk;rw[gi] at z;have:=I.bl false e.1;rw[show p.get false e.1=e.2 from get_mem I.nF he] at this;exact this.bit z.2
 cases r with
 |new x=>rw[cT.mp hm];show below _ (1 * 2 ^ ((i:Int)).toNat);rw[iL];exact mX hi
 |put x q=>
  cases q with
  |nm y=>rw[cT.mp hm];exact I.bl true _
  |nu _=>cases hm
 |get x y k=>rw[cT.mp hm];exact cl _ _
 |set y k q=>
  cases q with
  |nm y=>rw[cT.mp hm];exact I.bl true _
  |nu _=>cases hm
 |_=>cases hm
theorem HN{p:Tb}(I:Iv rs p)(H:AU rs){m:Mv}(hm:iE rs m){k:Int×Str}(hk:k∈ck p.E m.1):keyOk rs (isNm m.1) k:=by
 obtain⟨i,r,hr,hm⟩:=hm;have hi:i<rs.length:=(dJ.mp hr).1;have hh:=H i hi;have Ni:∀x,k∈ck p.E (.nm x)->k=zk x:=λx h=>cT.mp h;cases r with
 |new x=>rw[cT.mp hm] at hk ⊢;rw[Ni x hk];exact⟨i,_,0,hr,hh,rfl,rfl⟩
 |put x q=>
  cases q with
  |nm y=>rw[cT.mp hm] at hk ⊢;rw[Ni x hk];exact⟨i,_,0,hr,hh,rfl,rfl⟩
  |nu _=>cases hm
 |get x y c=>rw[cT.mp hm] at hk ⊢;rw[Ni x hk];exact⟨i,_,0,hr,hh,rfl,rfl⟩
 |set y c q=>
  cases q with
  |nm z=>rw[cT.mp hm] at hk ⊢;obtain⟨j,hj,rfl⟩:=kN.mp hk;have:=(I.bl true (zk y)).bit (sf.mp hj).2;exact⟨i,_,0,hr,hh,SF j,by show (j:Int)<_;omega,rfl⟩
  |nu _=>cases hm
 |_=>cases hm
theorem Iv.stK{p:Tb}(I:Iv rs p){m:Mv}(hm:iE rs m){k:Int×Str}(hk:keyOk rs (isNm m.1) k):Iv rs (stK (isNm m.1) m.2 p k):=(I.step (w:=(isNm m.1,k,eF p.E p.F m.2)) hk (pL I hm)).bool true
theorem Ea{p:Tb}{w:Bool}{o:Pl}{k:Int×Str}:Le p (stK w o p k):=wF (p:=p) (w:=(w,k,eF p.E p.F o))
theorem yw{rs:qal}{m:Mv}(hm:iE rs m):∀{l:List (Int×Str)}{p:Tb},Iv rs p->(∀k∈l,keyOk rs (isNm m.1) k)->Iv rs (l.foldl (stK (isNm m.1) m.2) p)/\Le p (l.foldl (stK (isNm m.1) m.2) p)
 |[],p,I,_=>⟨I,Le.refl p⟩
 |k::l,p,I,h=>by obtain⟨h1,h2⟩:=yw hm (l:=l) (I.stK hm (h k dq)) λv hv=>h v (d3 _ hv);exact⟨h1,Ea.trans h2⟩
theorem nz{p:Tb}(I:Iv rs p)(H:AU rs){m:Mv}(hm:iE rs m):∀k∈bp p.E p.F m,keyOk rs (isNm m.1) k:=λk hk=>HN I H hm (sf.mp hk).1
theorem Eb{p:Tb}(I:Iv rs p)(H:AU rs){m:Mv}(hm:iE rs m):Iv rs (kZ p m)/\Le p (kZ p m)/\(bp p.E p.F m≠[]->Nw rs p (kZ p m)):=by
 have lk:=nz I H hm;obtain⟨h1,h2⟩:=yw hm I lk;refine⟨h1,h2,λf6=>?_⟩;unfold kZ;cases hl:bp p.E p.F m with
 |nil=>exact absurd hl f6
 |cons k l=>
  have hk:k∈bp p.E p.F m:=by rw[hl];exact dq
  have hc:=(sf.mp hk).2;obtain⟨_,g2⟩:=yw hm (l:=l) (I.stK hm (lk k hk)) λv hv=>lk v (by rw[hl];exact d3 _ hv);have nw:Nw rs ⟨p.E,p.F,false⟩ (gZ ⟨p.E,p.F,false⟩ (isNm m.1,k,eF p.E p.F m.2)):=by
   rcases Dr (p:=⟨p.E,p.F,false⟩) (w:=(isNm m.1,k,eF p.E p.F m.2)) (lk k hk) (pL I hm) (by show (false || _)=true;rw[E2];exact hc) with z|z
   cases z;exact z
  have nw2:Nw rs p (stK (isNm m.1) m.2 p k):=by obtain⟨w,k',b,n1,n2,n3,n4⟩:=nw;refine⟨w,k',b,n1,n2,n3,?_⟩;rw[fW] at n4;show ib ((gZ p (isNm m.1,k,eF p.E p.F m.2)).get w k') b=true;rw[fW];exact n4
  exact nw2.le g2
theorem bK{w:Bool}{o:Pl}:∀{l:List (Int×Str)}{q:Tb},q.b=true->(l.foldl (stK w o) q).b=true
 |[],q,h=>h
 |k::l,q,_=>bK (l:=l) (q:=stK w o q k) rfl
theorem rM{rs:qal}(H:AU rs):∀{ms:List Mv}{p:Tb},(∀m∈ms,iE rs m)->Iv rs p->Iv rs (ms.foldl kZ p)/\Le p (ms.foldl kZ p)/\((ms.foldl kZ p).b=true->p.b=true\/Nw rs p (ms.foldl kZ p))/\((ms.foldl kZ p).b=false->ms.foldl kZ p=p/\∀m∈ms,bp p.E p.F m=[])
 |[],p,_,I=>⟨I,Le.refl p,.inl,λ_=>⟨rfl,λm h=>nomatch h⟩⟩
 |m::ms,p,hm,I=>by
  have hm0:=hm m dq;obtain⟨h1,h2,h3⟩:=Eb I H hm0;obtain⟨g1,g2,g3,g4⟩:=rM H (ms:=ms) (λv hv=>hm v (d3 _ hv)) h1;have nl:bp p.E p.F m=[]->kZ p m=p:=λz=>by unfold kZ;rw[z];rfl
  have bt:∀{l:List (Int×Str)}{w:Bool}{o:Pl}{q:Tb},l≠[]->(l.foldl (stK w o) q).b=true:=λ{l w o q} hl=>by
   cases l with
   |nil=>exact absurd rfl hl
   |cons k l=>exact bK (l:=l) (q:=stK w o q k) rfl
  refine⟨g1,h2.trans g2,λhb=>?_,λhb=>?_⟩;by_cases z:bp p.E p.F m=[];rcases g3 hb with q|q
  rw[nl z] at q;exact .inl q;exact .inr (q.ge h2);exact .inr ((h3 z).le g2);obtain⟨e1,e2⟩:=g4 hb;have z:bp p.E p.F m=[]:=NH λz=>by have:=bt (w:=isNm m.1) (o:=m.2) (q:=p) z;rw[List.foldl_cons,e1] at hb;exact absurd (this.symm.trans hb) (by simp)
  have e3:=nl z;rw[e3] at e1 e2;refine⟨by rw[List.foldl_cons,e3];exact e1,λv hv=>?_⟩;rcases dh.mp hv with rfl|hv
  exact z;exact e2 v hv
abbrev Sf:=Bool->Int×Str->Int
def ES(rs:qal)(S:Sf):Prop:=∀(i:Nat)(r:Rw),rs[i]?=some r->match r with
 |.new x=>ib (S true (zk x)) i=true
 |.put x (.nm y)=>sub (S true (zk y)) (S true (zk x))
 |.get x y k=>∀j:Nat,ib (S true (zk y)) j=true->sub (S false ((j:Int),cc k)) (S true (zk x))
 |.set y k (.nm z)=>∀j:Nat,ib (S true (zk y)) j=true->sub (S true (zk z)) (S false ((j:Int),cc k))
 |_=>True
def Ls(rs:qal)(p:Tb):Prop:=∀S,ES rs S->∀w k,sub (p.get w k) (S w k)
theorem Ls.bool{p:Tb}(h:Ls rs p)(b:Bool):Ls rs {p with b:=b}:=h
theorem Ls.gZ{p:Tb}(h:Ls rs p){w:Wt}(hw:∀S,ES rs S->(∀b k,sub (p.get b k) (S b k))->sub w.2.2 (S w.1 w.2.1)):Ls rs (gZ p w):=λS hS b k=>by
 rw[fW];split
 rename_i z
 rw[z.1,z.2];exact wq (h S hS _ _) (hw S hS λb k=>h S hS b k);exact h S hS b k
theorem yx{x:Int}(h:ib x i=true):sub (1 * 2 ^ i) x:=λk hk=>by rw[qX] at hk;rw[of_decide_eq_true hk];exact h
theorem HP{p:Tb}(I:Iv rs p){S:Sf}(hS:ES rs S)(hp:∀b k,sub (p.get b k) (S b k)){m:Mv}(hm:iE rs m){k:Int×Str}(hk:k∈ck p.E m.1):sub (eF p.E p.F m.2) (S (isNm m.1) k):=by
 obtain⟨i,r,hr,hm⟩:=hm;have c:=hS i r hr;have Ni:∀x,k∈ck p.E (.nm x)->k=zk x:=λx h=>cT.mp h;cases r with
 |new x=>rw[cT.mp hm] at hk ⊢;rw[Ni x hk];show sub (1 * 2 ^ ((i:Int)).toNat) _;rw[iL];exact yx c
 |put x q=>
  cases q with
  |nm y=>rw[cT.mp hm] at hk ⊢;rw[Ni x hk];exact cv (hp true (zk y)) c
  |nu _=>cases hm
 |get x y kk=>rw[cT.mp hm] at hk ⊢;rw[Ni x hk];intro b hb;have hb:ib (p.F.foldl (AR (pC (aM p.E (zk y)) (cc kk))) 0) b=true:=hb;rw[qY,x6.dB,E2] at hb;obtain⟨e,he,z⟩:=Ig.mp hb;rw[gi] at z;have z1:=z.1;unfold pC at z1;rw[gi] at z1;obtain⟨hc,hx⟩:=z1;have hc:e.1.2=cc kk:=of_decide_eq_true hc;obtain⟨_,_,_,_,_,h0⟩:=I.kF e he;rw[if_neg dO] at h0;have e1:e.1=((e.1.1.toNat:Int),cc kk):=AG (by show e.1.1=((e.1.1.toNat:Nat):Int);have:=h0.1;omega) hc;refine c e.1.1.toNat (hp true (zk y) _ hx) b ?_;rw[<- e1];refine hp false e.1 b ?_;rw[show p.get false e.1=e.2 from get_mem I.nF he];exact z.2
 |set y kk q=>
  cases q with
  |nm z=>rw[cT.mp hm] at hk ⊢;obtain⟨j,hj,rfl⟩:=kN.mp hk;exact cv (hp true (zk z)) (c j (hp true (zk y) _ (sf.mp hj).2))
  |nu _=>cases hm
 |_=>cases hm
theorem wJ{E E':List Ent}(h:∀k,sub (aM E k) (aM E' k)){g:Pl}{k:Int×Str}(hk:k∈ck E g):k∈ck E' g:=by
 cases g with
 |nm x=>exact hk
 |rw i=>exact hk
 |cl y c=>obtain⟨j,hj,rfl⟩:=kN.mp hk;obtain⟨h1,h2⟩:=sf.mp hj;exact kN.mpr ⟨j,sf.mpr ⟨h1,h (zk y) j h2⟩,rfl⟩
theorem uG{rs:qal}{m:Mv}(hm:iE rs m):∀{l:List (Int×Str)}{p:Tb},Iv rs p->Ls rs p->(∀k∈l,keyOk rs (isNm m.1) k)->(∀k∈l,k∈ck p.E m.1)->Ls rs (l.foldl (stK (isNm m.1) m.2) p)
 |[],p,_,L,_,_=>L
 |k::l,p,I,L,hk,hg=>by have L1:Ls rs (stK (isNm m.1) m.2 p k):=(L.gZ (w:=(isNm m.1,k,eF p.E p.F m.2)) λS hS hp=>HP I hS hp hm (hg k dq)).bool true;refine uG hm (l:=l) (I.stK hm (hk k dq)) L1 (λv hv=>hk v (d3 _ hv)) λv hv=>?_;exact wJ (λk'=>Ea (p:=p) (w:=isNm m.1) (o:=m.2) (k:=k) true k') (hg v (d3 _ hv))
theorem Nj{p:Tb}(I:Iv rs p)(L:Ls rs p)(H:AU rs){m:Mv}(hm:iE rs m):Ls rs (kZ p m):=uG hm I L (nz I H hm) λk hk=>(sf.mp hk).1
theorem yy{rs:qal}(H:AU rs):∀{ms:List Mv}{p:Tb},(∀m∈ms,iE rs m)->Iv rs p->Ls rs p->Ls rs (ms.foldl kZ p)
 |[],p,_,_,L=>L
 |m::ms,p,hm,I,L=>yy H (ms:=ms) (λv hv=>hm v (d3 _ hv)) (Eb I H (hm m dq)).1 (Nj I L H (hm m dq))
theorem wK{p:Tb}(I:Iv rs p)(hn:rs.length<=60)(hc:∀m∈gm rs rs.length,bp p.E p.F m=[]):ES rs p.get:=by
 have key:∀{i:Nat}{r:Rw}{m:Mv},rs[i]?=some r->m∈ni i r->∀k∈ck p.E m.1,sub (eF p.E p.F m.2) (p.get (isNm m.1) k):=λ{i r m} hr hm k hk=>by
  have z:=hc m (Nh hr hm);have:¬ k∈bp p.E p.F m:=by rw[z];exact fm
  have e:bitOr (p.get (isNm m.1) k) (eF p.E p.F m.2)=p.get (isNm m.1) k:=NH λq=>this (sf.mpr ⟨hk,by show (!decide (bitOr (p.get (isNm m.1) k) _=p.get (isNm m.1) k))=true;rw[decide_eq_false q];rfl⟩);rw[<- e];exact dC _ _
 intro i r hr;have hi:i<rs.length:=(dJ.mp hr).1;cases r with
 |new x=>have:=key hr (m:=(.nm x,.rw i)) (cT.mpr rfl) (zk x) (cT.mpr rfl);refine this i ?_;show ib (1 * 2 ^ ((i:Int)).toNat) i=true;rw[iL,qX];exact decide_eq_true rfl
 |put x q=>
  cases q with
  |nm y=>exact key hr (m:=(.nm x,.nm y)) (cT.mpr rfl) (zk x) (cT.mpr rfl)
  |nu _=>trivial
 |get x y k=>
  intro j hj b hb;have:=key hr (m:=(.nm x,.cl y (cc k))) (cT.mpr rfl) (zk x) (cT.mpr rfl);refine this b ?_;show ib (p.F.foldl (AR (pC (aM p.E (zk y)) (cc k))) 0) b=true;rw[qY,x6.dB,E2];have hb:ib (aM p.F ((j:Int),cc k)) b=true:=hb;obtain⟨e,he,e1,e2⟩:∃e∈p.F,e.1=((j:Int),cc k)/\e.2=aM p.F ((j:Int),cc k):=by
   have:∀F:List Ent,aM F ((j:Int),cc k)≠0->∃e∈F,e.1=((j:Int),cc k)/\e.2=aM F ((j:Int),cc k):=λF=>by
    induction F with
    |nil=>intro z;exact absurd rfl z
    |cons e F ih=>
     intro z;show ∃e'∈e::F,e'.1=_/\e'.2=if e.1=_ then e.2 else aM F _
     by_cases q:e.1=((j:Int),cc k);exact⟨e,dq,q,by rw[if_pos q]⟩;have z':aM F ((j:Int),cc k)≠0:=λy=>z (by show (if e.1=_ then e.2 else aM F _)=0;rw[if_neg q];exact y);obtain⟨e',h1,h2,h3⟩:=ih z';exact⟨e',d3 _ h1,h2,by rw[if_neg q];exact h3⟩
   exact this p.F λz=>by rw[z,BS.dB] at hb;cases hb
  refine Ig.mpr ⟨e,he,?_⟩;rw[gi];refine⟨?_,by rw[e2];exact hb⟩;unfold pC;rw[e1,gi];exact⟨decide_eq_true rfl,by rw[iL];exact hj⟩
 |set y k q=>
  cases q with
  |nm z=>intro j hj;have WI:j<60:=nK ((I.bl true (zk y)).bit hj) hn;exact key hr (m:=(.cl y (cc k),.nm z)) (cT.mpr rfl) ((j:Int),cc k) (kN.mpr ⟨j,sf.mpr ⟨w6.mpr WI,hj⟩,rfl⟩)
  |nu _=>trivial
 |_=>trivial
theorem HQ{l:qao}{f:Nat->Int}{x y:Int}(hx:sub x y)(h:∀j∈l,sub (f j) y):sub (l.foldl (λt j=>bitOr t (f j)) x) y:=by
 induction l generalizing x with
 |nil=>exact hx
 |cons j l ih=>exact ih (wq hx (h j dq)) λi hi=>h i (d3 _ hi)
theorem HR{l:qao}{f:Nat->Int}:∀{x:Int},sub x (l.foldl (λt j=>bitOr t (f j)) x)/\∀j∈l,sub (f j) (l.foldl (λt j=>bitOr t (f j)) x):=by
 induction l with
 |nil=>exact λ{x}=>⟨gG x,λj h=>nomatch h⟩
 |cons i l ih=>
  intro x;obtain⟨h1,h2⟩:=ih (x:=bitOr x (f i));refine⟨cv (gH _ _) h1,λj hj=>?_⟩;rcases dh.mp hj with rfl|hj
  exact cv (dC _ _) h1;exact h2 j hj
theorem Ec{p:Tb}(I:Iv rs p)(H:AU rs){S:Sf}(hS:ES rs S)(hp:∀b k,sub (p.get b k) (S b k)){w:Wt}(hw:w∈yh rs p.E p.F i):sub w.2.2 (S w.1 w.2.1):=by
 unfold yh at hw;cases hr:rs[i]? with
 |none=>rw[hr] at hw;cases hw
 |some r=>
  have hi:i<rs.length:=(dJ.mp hr).1;rw[hr,H i hi] at hw;have c:=hS i r hr;have oz:∀n:Int,oA p.E 0 (.nu n)=0:=λ_=>rfl;cases r with
  |new x=>rw[cT.mp hw];show sub (1 * 2 ^ ((i:Int)).toNat) _;rw[iL];exact yx c
  |put x q=>
   rw[cT.mp hw];cases q with
   |nm y=>exact cv (hp true (zk y)) c
   |nu n=>exact sub_zero _
  |get x y k=>rw[cT.mp hw];refine HQ (sub_zero _) λj hj=>?_;exact cv (hp false ((j:Int),cc k)) (c j (hp true (zk y) j ((mem_iff (I.bl true (zk y)).1).mp hj)))
  |set y k q=>
   obtain⟨j,hj,rfl⟩:=kN.mp hw;have oS:=(mem_iff (I.bl true (zk y)).1).mp hj;cases q with
   |nm z=>exact cv (hp true (zk z)) (c j (hp true (zk y) j oS))
   |nu n=>exact sub_zero _
  |_=>cases hw
theorem yz{rs:qal}:∀{l:List Wt}{p:Tb},Ls rs p->(∀w∈l,∀S,ES rs S->sub w.2.2 (S w.1 w.2.1))->Ls rs (l.foldl gZ p)
 |[],p,L,_=>L
 |w::l,p,L,h=>yz (l:=l) (L.gZ λS hS _=>h w dq S hS) λv hv=>h v (d3 _ hv)
theorem yA{rs:qal}(H:AU rs){E F:List Ent}{b:Bool}(I:Iv rs ⟨E,F,b⟩)(L:Ls rs ⟨E,F,b⟩):∀n≤rs.length,Ls rs (cj rs E F n)
 |0,_=>L
 |n+1,h=>by have L1:=yA H I L n (by omega);rw[ff];exact yz L1 λw hw S hS=>Ec (I.grow n (by omega)) H hS (λb k=>L1 S hS b k) hw
theorem JD{rs:qal}(H:AU rs):∀m,Ls rs (jo rs m)
 |0=>λS hS w k=>by cases w<;>exact sub_zero _
 |m+1=>yA H (show Iv rs ⟨(jo rs m).E,(jo rs m).F,(jo rs m).b⟩ from pG rs m) (JD H m) rs.length (bG _)
theorem uH:∀{l:List Wt}{p:Tb},(l.foldl gZ p).b=false->p.b=false/\(∀b k,(l.foldl gZ p).get b k=p.get b k)/\∀w∈l,sub w.2.2 (p.get w.1 w.2.1)
 |[],p,h=>⟨h,λ_ _=>rfl,λw h=>nomatch h⟩
 |w::l,p,h=>by
  obtain⟨h1,h2,h3⟩:=uH (l:=l) (p:=gZ p w) h;have h1:(p.b || !decide (bitOr (p.get w.1 w.2.1) w.2.2=p.get w.1 w.2.1))=false:=h1;rw[Bool.or_eq_false_iff] at h1;have e:bitOr (p.get w.1 w.2.1) w.2.2=p.get w.1 w.2.1:=NH λz=>by have:=h1.2;rw[decide_eq_false z] at this;cases this
  have g:∀b k,(gZ p w).get b k=p.get b k:=λb k=>by
   rw[fW];split
   rename_i z;rw[z.1,z.2];exact e
   rfl
  refine⟨h1.1,λb k=>(h2 b k).trans (g b k),λv hv=>?_⟩;rcases dh.mp hv with rfl|hv
  rw[<- e];exact dC _ _;rw[<- g];exact h3 v hv
theorem Ao{p q:Tb}(h:∀b k,p.get b k=q.get b k)(i:Nat):yh rs p.E p.F i=yh rs q.E q.F i:=by
 have hE:∀k,aM p.E k=aM q.E k:=λk=>h true k;have hF:∀k,aM p.F k=aM q.F k:=λk=>h false k;have hO:∀(a:Nat) o,oA p.E a o=oA q.E a o:=λa o=>by cases o<;>first|exact hE _|rfl
 unfold yh;cases rs[i]? with
 |none=>rfl
 |some r=>
  cases j2 (bz rs) i with
  |none=>rfl
  |some a=>
   cases r<;>first|rfl|(simp only[Hl,hO,hE])|skip
   all_goals (unfold Wj;simp only[hF])
theorem uI{rs:qal}{E F:List Ent}:∀n,(cj rs E F n).b=false->(∀b k,(cj rs E F n).get b k=Tb.get ⟨E,F,false⟩ b k)/\∀i<n,∀w∈yh rs E F i,sub w.2.2 (Tb.get ⟨E,F,false⟩ w.1 w.2.1)
 |0,_=>⟨λ_ _=>rfl,λi h=>absurd h (Nat.not_lt_zero i)⟩
 |n+1,h=>by rw[ff] at h ⊢;obtain⟨h1,h2,h3⟩:=uH h;obtain⟨g1,g2⟩:=uI n h1;refine⟨λb k=>(h2 b k).trans (g1 b k),λi hi w hw=>?_⟩;by_cases z:i=n;subst z;have:=h3 w (by rw[Ao (q:=⟨E,F,false⟩) g1];exact hw);rw[g1] at this;exact this;exact g2 i (by omega) w hw
theorem uJ(H:AU rs){E:List Ent}(I:Iv rs ⟨E,F,false⟩)(h:(cj rs E F rs.length).b=false):ES rs (cj rs E F rs.length).get:=by
 obtain⟨g1,g2⟩:=uI rs.length h;have e:(cj rs E F rs.length).get=Tb.get ⟨E,F,false⟩:=funext λb=>funext λk=>g1 b k;rw[e];intro i r hr;have hi:i<rs.length:=(dJ.mp hr).1;have w:∀w∈Hl E F i 0 r,sub w.2.2 (Tb.get ⟨E,F,false⟩ w.1 w.2.1):=λw hw=>g2 i hi w (by unfold yh;rw[hr,H i hi];exact hw);cases r with
 |new x=>have:=w _ (cT.mpr rfl);refine this i ?_;show ib (1 * 2 ^ ((i:Int)).toNat) i=true;rw[iL,qX];exact decide_eq_true rfl
 |put x q=>
  cases q with
  |nm y=>exact w _ (cT.mpr rfl)
  |nu _=>trivial
 |get x y k=>intro j hj;have h1:=w _ (cT.mpr rfl);exact cv ((HR (f:=λ(j:Nat)=>aM F ((j:Int),cc k))).2 j ((mem_iff (I.bl true (zk y)).1).mpr hj)) h1
 |set y k q=>
  cases q with
  |nm z=>intro j hj;exact w (false,((j:Int),cc k),oA E 0 (.nm z)) (kN.mpr ⟨j,(mem_iff (I.bl true (zk y)).1).mpr hj,rfl⟩)
  |nu _=>trivial
 |_=>trivial
theorem Ed{p q:Tb}(c1:ES rs p.get)(l1:Ls rs p)(c2:ES rs q.get)(l2:Ls rs q)(w:Bool)(k:Int×Str):p.get w k=q.get w k:=ji (l1 _ c2 w k) (l2 _ c1 w k)
theorem yB{E:List Ent}(nd:(E.map (·.1)).Nodup){t:TS.Tr}:t∈pA E↔t.2.2≠0/\aM E (t.1,t.2.1)=t.2.2:=by
 unfold pA;rw[kN];constructor;rintro⟨e,he,rfl⟩;obtain⟨h1,h2⟩:=sf.mp he;exact⟨by simpa using h2,get_mem nd h1⟩;rintro⟨h1,h2⟩;have:∀F:List Ent,aM F (t.1,t.2.1)≠0->∃e∈F,e.1=(t.1,t.2.1)/\e.2=aM F (t.1,t.2.1):=λF=>by
  induction F with
  |nil=>intro z;exact absurd rfl z
  |cons e F ih=>
   intro z;show ∃e'∈e::F,e'.1=_/\e'.2=if e.1=_ then e.2 else aM F _
   by_cases q:e.1=(t.1,t.2.1);exact⟨e,dq,q,by rw[if_pos q]⟩;have z':aM F (t.1,t.2.1)≠0:=λy=>z (by show (if e.1=_ then e.2 else aM F _)=0;rw[if_neg q];exact y);obtain⟨e',h1,h2,h3⟩:=ih z';exact⟨e',d3 _ h1,h2,by rw[if_neg q];exact h3⟩
 obtain⟨e,he,e1,e2⟩:=this E (by rw[h2];exact h1);rw[h2] at e2;refine⟨e,sf.mpr ⟨he,by rw[e2];simpa using h1⟩,?_⟩;rw[e1,e2]
theorem Ee{E:List Ent}(nd:(E.map (·.1)).Nodup):(pA E).Nodup:=by
 unfold pA List.Nodup;rw[SK];have h:=nd;unfold List.Nodup at h;rw[SK] at h;refine (h.sublist List.filter_sublist).imp λ{a b} q z=>q ?_;injection z with z1 z2
 injection z2 with z2 _
 exact AG z1 z2
theorem uK{E:List Ent}(n1:(E.map (·.1)).Nodup)(n2:(F.map (·.1)).Nodup)(h:∀k,aM E k=aM F k):(pA E).Perm (pA F) :=
 (List.perm_ext_iff_of_nodup (Ee n1) (Ee n2)).mpr λt=>by rw[yB n1,yB n2,h]
theorem iF:∀{l m:List TS.Tr},l.Pairwise (λa b=>TS.cS b a=false)->m.Pairwise (λa b=>TS.cS b a=false)->l.Perm m->l=m
 |[],m,_,_,p=>(List.nil_perm.mp p).symm
 |a::l,[],_,_,p=>absurd p.length_eq (by simp)
 |a::l,b::m,h1,h2,p=>by
  rw[List.pairwise_cons] at h1 h2;have e:a=b:=by
   have ha:a∈b::m:=p.mem_iff.mp (by simp);have hb:b∈a::l:=p.mem_iff.mpr (by simp);rcases dh.mp ha with z|z
   exact z;rcases dh.mp hb with q|q
   exact q.symm;have x:=h2.1 a z;have y:=h1.1 b q;refine NH λne=>?_;rcases TS.x8 ne with t|t
   rw[t] at x;cases x;rw[t] at y;cases y
  subst e;rw[iF h1.2 h2.2 (List.perm_cons a |>.mp p)]
end MK
namespace bF
open PySem L2 VT Gen K5 Lay BS x6 MK
open PySem.Builtin (bitOr)
def R6(l:T)(s:S2)(q:S2->Prop):Prop:=∃(rs:qal)(E F:List Ent),l=.lst ((gm rs rs.length).map ke)/\s=d6.sE E F/\rs.length<=60/\AU rs/\Iv rs ⟨E,F,false⟩/\Ls rs ⟨E,F,false⟩/\∀p:Tb,Iv rs p->Ls rs p->(∀m∈gm rs rs.length,bp p.E p.F m=[])->q (d6.sE p.E p.F)
noncomputable abbrev Ap(M:MG)(ms:List Mv)(b:Bool)(b4 b5 b6:Option T):En:=[some (.ob M.a1,false),some (.ob M.a2,false),some (.lst (ms.map ke),false),some (.bl b,false),gk b4,gk b5,gk b6]
theorem R7{m:Mv}(h:iE rs m)(hn:rs.length<=60):Na m.2/\∀i,m.1≠.rw i:=by
 obtain⟨i,r,hr,hm⟩:=h;have hi:i<rs.length:=(dJ.mp hr).1;cases r with
 |new x=>rw[cT.mp hm];exact⟨by show i<=1000;omega,λ_ z=>nomatch z⟩
 |put x q=>
  cases q with
  |nm y=>rw[cT.mp hm];exact⟨trivial,λ_ z=>nomatch z⟩
  |nu _=>cases hm
 |get x y k=>rw[cT.mp hm];exact⟨trivial,λ_ z=>nomatch z⟩
 |set y k q=>
  cases q with
  |nm y=>rw[cT.mp hm];exact⟨trivial,λ_ z=>nomatch z⟩
  |nu _=>cases hm
 |_=>cases hm
theorem uL{p:Tb}(I:Iv rs p):∀e∈p.F,0<=e.1.1:=λe he=>by obtain⟨_,_,_,_,_,h⟩:=I.kF e he;rw[if_neg dO] at h;exact h.1
theorem R8(M:MG)(o1 o2:Obj)(p:Tb)(w:Bool):se M o1 o2 (d6.sE p.E p.F) (some (.ob (if w=true then M.a1 else M.a2),false))=some (if w=true then ny o1 p.E else ny o2 p.F,false):=by
 cases w with
 |true=>exact DO M o1 o2 _
 |false=>exact DP M o1 o2 _
theorem Nk{Q:T->Prop}{x y:Int}(ha:∀q:T->Prop,q (.int x)->fa ρ q)(hb:∀q:T->Prop,q (.int y)->fb ρ q)(hq:Q (.int (bitOr x y))):fT (f2 fa fb qa) ρ Q:=by unfold fT f2;exact ha _ (hb _ hq)
section
noncomputable abbrev Aq:qai:=["_law_names","_law_cells","_law_moves_here","_law_fresh","_law_move","_law_where","_law_key_here"]
theorem nA:aG Aq qaM (aq kh):=L2.iQ
theorem wL(D:Df K mg "_law_grown" kh qaM f fd)(M:ER mg)(D_:cJ P w K mg base "_law_had" qaI 1 (cK K 3 D4))(HS:cJ P w K mg base "_law_lacks" qaK 2 (cK K 3 rK)):cJ P w K mg base "_law_grown" qaM 3 (sO K [true,true,false] (WC R6)):=by
 refine D.iI (WD D.F nA rfl (by decide) λbw A outer s H E G hB hr l s0 q hG=>?_);have nd:=nA.nd;have hu:=bb.fK hr;have iY:=kH hu;refine⟨_,(dm (eW λ_ _=>aN (i:=3) nd rfl (Or.inl rfl) (qau hW) iw)
  (d8 (DM uP (λ_ _=>cH (VE.vp (ai 3)))
    (dm (eW λ_ _=>aN (i:=3) nd rfl (Or.inl rfl) (qau hW) iw)
    (d8 (CW uP rfl (λ_ _=>jL (ai 2)) (λ_ _=>aD (i:=4) nd rfl (Or.inl rfl) iw)
      (dm (eW λ_ _=>aN (i:=5) nd rfl (Or.inl rfl) (qau (aC (qas (bO (aa (ai 1) (aa (ai 0) aj)))) (qas (jK oH mw (by rfl) M.int xG (a_ (qas (oR hu (qas (aC (qas (aC (ae 4) (qas af))) (qas af))) (qas aE))) bx))))) iw)
      (d8 (HH hB uP rfl (λ_ _=>qat (aO HS hr (aa (ai 0) (aa (ai 1) (aa (ai 4) aj))))) (λ_ _=>aD (i:=6) nd rfl (Or.inl rfl) iw)
        (dm (HG 5 6 iY (λ_ _=>qat (qb (qas (fS iY (ae 5) (ai 6) (qat af) ⟨rfl,rfl,rfl,rfl⟩)) (qas (aO D_ hr (aa (ai 0) (aa (ai 1) (aa (qat (aC (ae 4) (qas af))) aj))))))))
        (d8 (eW λ_ _=>aN (i:=3) nd rfl (Or.inl rfl) (qau hW) iw)))))))))))),?_⟩
 obtain⟨rs,E0,F0,rfl,rfl,hn,H0,I0,L0,hq⟩:=hG;have av:∀(b:Bool)(b4 b5 b6:Option T),f' (Ap G (gm rs rs.length) b b4 b5 b6)=true:=λb b4 b5 b6=>by show f' [some (.ob G.a1,false),some (.ob G.a2,false),some (.lst _,false),some (.bl b,false),gk b4,gk b5,gk b6]=true;simp only[mU,mT,gF]
 refine⟨av true none none none,?_⟩;refine⟨λm ρ s=>∃(p:Tb)(b:Bool)(b4 b5 b6:Option T),ρ=Ap G (gm rs rs.length) b b4 b5 b6/\s=d6.sE p.E p.F/\Iv rs p/\Ls rs p/\m=(if b=true then mu rs p+1 else 0)/\(b=false->∀m∈gm rs rs.length,bp p.E p.F m=[]),⟨_,⟨E0,F0,false⟩,true,none,none,none,rfl,rfl,I0,L0,rfl,λz=>nomatch z⟩,?_⟩;rintro m ρ s ⟨p,b,b4,b5,b6,rfl,rfl,I,L,rfl,PL⟩;cases b with
 |false=>exact hq p I L (PL rfl)
 |true=>
   refine⟨av false b4 b5 b6,?_⟩;have T4:∀m∈gm rs rs.length,iE rs m:=λm hm=>Nf hm;refine⟨λi ρ s=>∃b4 b5 b6,ρ=Ap G (gm rs rs.length) (((gm rs rs.length).take i).foldl kZ {p with b:=false}).b b4 b5 b6/\s=d6.sE (((gm rs rs.length).take i).foldl kZ {p with b:=false}).E (((gm rs rs.length).take i).foldl kZ {p with b:=false}).F,⟨b4,b5,b6,rfl,rfl⟩,?_,?_⟩;rintro i t ρ s ht ⟨b4,b5,b6,rfl,rfl⟩;rw[fj] at ht;obtain⟨m,hm,rfl⟩:=EV.mp ht;have WJ:iE rs m:=T4 m (fY hm);have es:((gm rs rs.length).take (i+1)).foldl kZ {p with b:=false}=kZ (((gm rs rs.length).take i).foldl kZ {p with b:=false}) m:=by rw[NM,hm,NN];rfl
   obtain⟨Ii,_⟩:=rM H0 (ms:=(gm rs rs.length).take i) (p:={p with b:=false}) (λv hv=>T4 v (List.mem_of_mem_take hv)) (I.bool false);generalize ((gm rs rs.length).take i).foldl kZ {p with b:=false}=pi at Ii es ⊢;obtain⟨Ya,Yb⟩:=R7 WJ hn;have lk:=nz Ii H0 WJ;have aw:∀(b:Bool)(t4:T)(b5 b6:Option T),f' [some (.ob G.a1,false),some (.ob G.a2,false),some (.lst ((gm rs rs.length).map ke),false),some (.bl b,false),some (t4,false),gk b5,gk b6]=true:=λb t4 b5 b6=>by simp only[mU,mT,gF]
   have inner:∀(d:AO),(∀b6:Option T,d.nx (Ap G (gm rs rs.length) (kZ pi m).b (some (ke m)) (some (.ob (if isNm m.1=true then G.a1 else G.a2))) b6) (d6.sE (kZ pi m).E (kZ pi m).F)) ->
     JB G (fT (gu 3 (bM (cV 0) (bM (cV 1) (bM (cV 4) jI))) rK)) (hName 6)
      (Rh (JA G 5 6 (fT (f2 (fT (wg (cY 5) (cV 6) (fT (fC (.int 0))))) (fT (gu 3 (bM (cV 0) (bM (cV 1) (bM (fT (f2 (cY 4) (fT (fC (.int 1))) NY)) jI))) D4)) qa))) (XD (P_ 3 (fX (fC (.bl true))))))
      d [some (.ob G.a1,false),some (.ob G.a2,false),some (.lst ((gm rs rs.length).map ke),false),some (.bl pi.b,false),some (ke m,false),some (.ob (if isNm m.1=true then G.a1 else G.a2),false),gk b6] (d6.sE pi.E pi.F):=λd hd o1 o2=>by
    show fT (gu 3 (bM (cV 0) (bM (cV 1) (bM (cV 4) jI))) rK) [se G o1 o2 (d6.sE pi.E pi.F) (some (.ob G.a1,false)),se G o1 o2 (d6.sE pi.E pi.F) (some (.ob G.a2,false)),some (.lst ((gm rs rs.length).map ke),false),some (.bl pi.b,false),some (ke m,false),se G o1 o2 (d6.sE pi.E pi.F) (some (.ob (if isNm m.1=true then G.a1 else G.a2),false)),se G o1 o2 (d6.sE pi.E pi.F) (gk b6)] _;rw[DO,DP];refine⟨rfl,pi.E,pi.F,o1,o2,m,rfl,Ii.nF,uL Ii,Ya,Yb,(bp pi.E pi.F m).map kK,by rw[uY];rfl,?_⟩;refine⟨λj ρ s=>∃b6,ρ=Ap G (gm rs rs.length) (((bp pi.E pi.F m).take j).foldl (stK (isNm m.1) m.2) pi).b (some (ke m)) (some (.ob (if isNm m.1=true then G.a1 else G.a2))) b6/\s=d6.sE (((bp pi.E pi.F m).take j).foldl (stK (isNm m.1) m.2) pi).E (((bp pi.E pi.F m).take j).foldl (stK (isNm m.1) m.2) pi).F,⟨b6,rfl,rfl⟩,?_,?_⟩;rintro j t ρ s hj ⟨b6,rfl,rfl⟩;rw[uY,fj] at hj;obtain⟨k,hk,rfl⟩:=EV.mp hj;have es:((bp pi.E pi.F m).take (j+1)).foldl (stK (isNm m.1) m.2) pi=stK (isNm m.1) m.2 (((bp pi.E pi.F m).take j).foldl (stK (isNm m.1) m.2) pi) k:=by rw[NM,hk,NN];rfl
    obtain⟨Ij,_⟩:=yw WJ (l:=(bp pi.E pi.F m).take j) Ii λv hv=>lk v (List.mem_of_mem_take hv);generalize ((bp pi.E pi.F m).take j).foldl (stK (isNm m.1) m.2) pi=pj at Ij es ⊢;have l1:=Ij.Hn;have l2:=Ij.Ho;have l3:rs.length * (rs.length+1)<=60 * 61:=Nat.mul_le_mul hn (by omega);refine⟨aw pj.b (ke m) (some (.ob (if isNm m.1=true then G.a1 else G.a2))) (some (.kt (kK k))),λo1 o2=>?_⟩;obtain⟨oo,EE,Pu,hg⟩:∃oo EE,(if isNm m.1=true then ny o1 pj.E else ny o2 pj.F)=ny oo EE/\∀k,pj.get (isNm m.1) k=aM EE k:=by
     cases isNm m.1 with
     |true=>exact⟨o1,pj.E,rfl,λ_=>rfl⟩
     |false=>exact⟨o2,pj.F,rfl,λ_=>rfl⟩
    show fT (f2 (fT (wg (cY 5) (cV 6) (fT (fC (.int 0))))) (fT (gu 3 (bM (cV 0) (bM (cV 1) (bM (fT (f2 (cY 4) (fT (fC (.int 1))) NY)) jI))) D4)) qa) [se G o1 o2 (d6.sE pj.E pj.F) (some (.ob G.a1,false)),se G o1 o2 (d6.sE pj.E pj.F) (some (.ob G.a2,false)),some (.lst ((gm rs rs.length).map ke),false),some (.bl pj.b,false),some (ke m,false),se G o1 o2 (d6.sE pj.E pj.F) (some (.ob (if isNm m.1=true then G.a1 else G.a2),false)),some (.kt (kK k),false)] _;rw[DO,DP,R8,Pu];refine Nk (x:=pj.get (isNm m.1) k) (y:=eF pj.E pj.F m.2) (λQ h=>?_) (λQ h=>⟨_,ag (j:=1) rfl,rfl,pj.E,pj.F,o1,o2,m.2,rfl,Ij.nF,uL Ij,Ya,h⟩) ?_;show Q ((bL (cD EE) (cW EE) (kK k)).getD (.int 0));rw[e_,<- hg];exact h;have nx:∀s',s'=d6.sE (pj.put (isNm m.1) k (bitOr (pj.get (isNm m.1) k) (eF pj.E pj.F m.2))).E (pj.put (isNm m.1) k (bitOr (pj.get (isNm m.1) k) (eF pj.E pj.F m.2))).F->∃b6,[some (.ob G.a1,false),some (.ob G.a2,false),some (.lst ((gm rs rs.length).map ke),false),some (.bl true,false),some (ke m,false),some (.ob (if isNm m.1=true then G.a1 else G.a2),false),some (T.kt (kK k),false)]=Ap G (gm rs rs.length) (((bp pi.E pi.F m).take (j+1)).foldl (stK (isNm m.1) m.2) pi).b (some (ke m)) (some (.ob (if isNm m.1=true then G.a1 else G.a2))) b6/\s'=d6.sE (((bp pi.E pi.F m).take (j+1)).foldl (stK (isNm m.1) m.2) pi).E (((bp pi.E pi.F m).take (j+1)).foldl (stK (isNm m.1) m.2) pi).F:=λs' e=>⟨some (.kt (kK k)),by rw[es];rfl,by rw[es,e];rfl⟩;have ps:=d6.DA pj (isNm m.1) k (bitOr (pj.get (isNm m.1) k) (eF pj.E pj.F m.2));refine⟨.inl ⟨_,rfl⟩,by show (cW pj.E).length<_;unfold cW;rw[cn];omega,by show (cW pj.F).length<_;unfold cW;rw[cn];omega,kK k,rfl,?_⟩;by_cases hb:isNm m.1=true;rw[if_pos hb] at ps;exact .inl ⟨by show some (some (T.ob (if isNm m.1=true then G.a1 else G.a2),false))=_;rw[if_pos hb],aw true (ke m) (some (.ob (if isNm m.1=true then G.a1 else G.a2))) (some (.kt (kK k))),nx _ ps⟩;rw[if_neg hb] at ps;exact .inr ⟨by show some (some (T.ob (if isNm m.1=true then G.a1 else G.a2),false))=_;rw[if_neg hb],aw true (ke m) (some (.ob (if isNm m.1=true then G.a1 else G.a2))) (some (.kt (kK k))),nx _ ps⟩;rintro ρ s ⟨b6,rfl,rfl⟩;rw[cn,cn,JM];exact hd b6
   refine⟨aw pi.b (ke m) b5 b6,bS (by simp),_,ag (j:=0) rfl,?_⟩;obtain⟨g,o⟩:=m;cases g with
   |rw i=>exact absurd rfl (Yb i)
   |nm x=>exact⟨_,ag (j:=0) rfl,_,ag (j:=1) rfl,aw pi.b (ke (.nm x,o)) (some (.ob G.a1)) b6,inner _ λb6=>⟨_,_,b6,by rw[es],by rw[es]⟩⟩
   |cl y c=>exact⟨_,ag (j:=0) rfl,_,ag (j:=0) rfl,aw pi.b (ke (.cl y c,o)) (some (.ob G.a2)) b6,inner _ λb6=>⟨_,_,b6,by rw[es],by rw[es]⟩⟩
   rintro ρ s ⟨b4,b5,b6,rfl,rfl⟩;rw[cn,JM];obtain⟨g1,g2,g3,g4⟩:=rM H0 T4 (I.bool false);have gl:=yy H0 T4 (I.bool false) (L.bool false);generalize Tc:(gm rs rs.length).foldl kZ {p with b:=false}=p' at g1 g2 g3 g4 gl;refine⟨_,?_,p',p'.b,b4,b5,b6,rfl,rfl,g1,gl,rfl,λz=>?_⟩;show (if p'.b=true then mu rs p'+1 else 0)<mu rs p+1;split
   rename_i z
   rcases g3 z with q|q
   cases q;have:=Ju g2 q;show mu rs p'+1<mu rs p+1;have e:mu rs {p with b:=false}=mu rs p:=rfl;omega;omega;obtain⟨e1,e2⟩:=g4 z;rw[e1];exact e2
end
structure WK(mg:qae):Prop where
 isinstance:mg "isinstance"=none
 str:mg "str"=none
 int:mg "int"=none
 bool:mg "bool"=none
 list:mg "list"=none
 tuple:mg "tuple"=none
 len:mg "len"=none
 zip:mg "zip"=none
def Lv:Nat->T->Prop
 |0,_=>False
 |n+1,t=>(∃i,t=.int i)\/(∃x,t=.str x)\/(∃ts,t=.lst ts/\∀u∈ts,Lv n u)\/∃ts,t=.tup ts/\∀u∈ts,Lv n u
def uM(n:Nat)(ts:qaj)(q:qam):Prop:=∃t,ts=[t,t]/\Lv n t/\q (.vw (.bl true))
theorem uN(ts:qaj):qx ts ts=ts.map λu=>.tup [u,u]:=by unfold qx;rw[List.zipWith_self]
section
noncomputable abbrev Nl:qai:=["_law_found","_law_due","_law_one","_law_other"]
theorem rN:aG Nl qaN (aq s_same):=L2.iQ
theorem Ef(D:Df K mg "_law_same" s_same qaN f fd):cJ P w K mg base "_law_same" qaN 1 (cK K 2 (uM 0)) :=
 D.iI (lh D.F rN rfl λbw A outer s H E Ox hr ts q hG=>by obtain⟨_,_,h,_⟩:=hG;exact h.elim)
theorem jt{d:Nat}(D:Df K mg "_law_same" s_same qaN f fd)(M:WK mg)(C:cJ P w K mg base "_law_same" qaN d (cK K 2 (uM n))):cJ P w K mg base "_law_same" qaN (d+1) (cK K 2 (uM (n+1))):=by
 obtain⟨WL,T5,Nn,k_same,Np,Nq⟩:=C;refine D.iI (lh D.F rN rfl λbw A outer s H E Ox hr ts q hG=>?_);have nd:=rN.nd;have hu:=bb.fK hr;have np:∀{i:Nat},aX ⟨H,[],Ox⟩ i:=iw;refine⟨_,(ah (aY (Ql (ae 1) (qas d9))
    (ak (aJ (qau (Qk (ae 0) (qas d9)))))
    aL)
   (ah (aY (cH (bZ dW (by rfl) M.isinstance (by rfl) M.str mx (ae 1)))
     (ak (aJ (qau (jH (bZ dW (by rfl) M.isinstance (by rfl) M.str mx (ae 0)) (l7 (oR hu (ae 0) (ae 1)))))))
     aL)
   (ah (aY (cH (bZ sW (by rfl) M.isinstance (by rfl) M.int xG (ae 1)))
     (ak (aJ (qau (jH (bZ sW (by rfl) M.isinstance (by rfl) M.int xG (ae 0)) (jH (K' (bZ zw (by rfl) M.isinstance (by rfl) M.bool LG (ae 0))) (l7 (oR hu (ae 0) (ae 1))))))))
     aL)
   (ah (aY (VW.vc (gr (cH (bZ oV (by rfl) M.isinstance (by rfl) M.list vL (ae 1))) (fF (l6 (cH (bZ oV (by rfl) M.isinstance (by rfl) M.list vL (ae 0)))))))
     (ak (aJ (qau hW)))
     aL)
   (ah (aY (VW.vc (gr (cH (bZ mq (by rfl) M.isinstance (by rfl) M.tuple xF (ae 1))) (fF (l6 (cH (bZ mq (by rfl) M.isinstance (by rfl) M.tuple xF (ae 0)))))))
     (ak (aJ (qau hW)))
     aL)
   (ah (aY (BF hu (qas (bC cq cu (by rfl) M.len Ez (a_ (ae 0) bx))) (qas (bC cq cu (by rfl) M.len Ez (a_ (ae 1) bx))))
     (ak (aJ (qau hW)))
     aL)
   (ah (eB uP rfl (LQ (by rfl) M.zip (ai 0) (ai 1)) (dw (n:=2) rfl (aK (aD (i:=2) nd rfl (Or.inl rfl) np) (aK (aD (i:=3) nd rfl (Or.inl rfl) np) cC)))
     (ak (aY (l6 (cH (xB Nq (hr.mono (by omega)) (by rfl) Nn k_same Np (aa (ai 2) (aa (ai 3) aj)))))
       (ak (aJ (qau hW)))
       aL)))
   (ak (aJ (qau hW)))))))))),λ_=>?_⟩
 obtain⟨t,rfl,hL,hq⟩:=hG;obtain⟨i,rfl⟩|⟨x,rfl⟩|⟨l,rfl,hl⟩|⟨l,rfl,hl⟩:=hL
 refine⟨rfl,rfl,rfl,rfl,?_⟩;show q (.vw (.bl (decide (i=i))));rw[decide_eq_true rfl];exact hq;refine⟨rfl,rfl,?_⟩;show q (.vw (.bl (decide (x=x))));rw[decide_eq_true rfl];exact hq;refine⟨rfl,rfl,rfl,rfl,rfl,?_⟩;refine LI (c:=!decide ((l.length:Int)=(l.length:Int))) (by simp) ?_;show hX (qx l l) _ _ _ _;rw[uN];refine eS (λ_ ρ=>∃b2 b3,ρ=[some (.lst l,false),some (.lst l,false),b2,b3]) ⟨_,_,rfl⟩ ?_ ?_;rintro i x ρ hx ⟨b2,b3,rfl⟩;exact⟨rfl,rfl,rfl,x,rfl,hl x (fY hx),_,_,rfl⟩;rintro ρ ⟨b2,b3,rfl⟩;exact hq;refine⟨rfl,rfl,rfl,rfl,rfl,?_⟩;refine LI (c:=!decide ((l.length:Int)=(l.length:Int))) (by simp) ?_;show hX (qx l l) _ _ _ _;rw[uN];refine eS (λ_ ρ=>∃b2 b3,ρ=[some (.tup l,false),some (.tup l,false),b2,b3]) ⟨_,_,rfl⟩ ?_ ?_;rintro i x ρ hx ⟨b2,b3,rfl⟩;exact⟨rfl,rfl,rfl,x,rfl,hl x (fY hx),_,_,rfl⟩;rintro ρ ⟨b2,b3,rfl⟩;exact hq
theorem HU(D:Df K mg "_law_same" s_same qaN f fd)(M:WK mg):cJ P w K mg base "_law_same" qaN 5 (cK K 2 (uM 4)):=jt D M (jt D M (jt D M (jt D M (Ef D))))
end
end bF
namespace MK
open PySem L2 VT Gen BS K5 x6
open lV (bX)
section
variable{ys:qai}{f:Str}{body:qal}{g:Str}
noncomputable abbrev k0(f:Str)(ps:qai)(body:qal)(g:Str):qal:=.df f ps::(body++(List.replicate (body.countP g0) .fin++[.give (.nm g)]))
def R9(ys:qai)(r:Rw):Prop:=M9 ys r\/∃x,r=.B6 (.nm x)\/r=.B7 (.nm x)
theorem ju{r:Rw}(h:R9 ys r):(aQ r).cl=false/\(aQ r).op=g0 r/\(aQ r).df=false/\(aQ r).el=false:=by
 obtain h|⟨x,rfl|rfl⟩:=h
 cases r<;>first|exact h.elim|exact⟨rfl,rfl,rfl,rfl⟩
 exact⟨rfl,rfl,rfl,rfl⟩;exact⟨rfl,rfl,rfl,rfl⟩
theorem yC:∀{body:qal}{d:Nat},(∀r∈body,R9 ys r)->dr d body=some (d+body.countP g0)
 |[],d,_=>rfl
 |r::body,d,h=>by
  obtain⟨h1,h2,h3,h4⟩:=ju (h r dq);have ih:=λd=>yC (body:=body) (d:=d) λv hv=>h v (d3 _ hv);unfold dr;rw[h1,h4,if_neg dO,if_neg dO,h2,List.countP_cons];split
  rename_i z;rw[ih];congr 1;omega
  rename_i z;rw[ih];congr 1
theorem yD:∀(n d:Nat),dr (n+d) (List.replicate n Rw.fin)=some d
 |0,d=>by rw[Nat.zero_add];rfl
 |n+1,d=>by rw[AD];show (if (n+1+d=0) then none else dr (n+1+d-1) (List.replicate n Rw.fin))=_;rw[if_neg (by omega),show n+1+d-1=n+d by omega];exact yD n d
theorem Nr(hb:∀r∈body,R9 ys r):N0 (k0 f ps body g):=by refine QK ?_;show dr (0+1) (body++(List.replicate (body.countP g0) .fin++[.give (.nm g)]))=some 0;rw[fO,yC hb,SM,fO,show 0+1+body.countP g0=body.countP g0+1 by omega,yD,SM];rfl
theorem rO(hb:∀r∈body,R9 ys r):∀k≤body.length,∃l,st (bz (k0 f ps body g)) (k+1)=0::l/\l.length=(body.take k).countP g0
 |0,_=>⟨[],rfl,rfl⟩
 |k+1,h=>by
  obtain⟨l,e,hl⟩:=rO hb k (by omega);have hk:k<body.length:=by omega
  have er:(k0 f ps body g)[k+1]?=some body[k]:=by rw[Ub,k7 hk,kj hk]
  obtain⟨h1,h2,_,_⟩:=ju (hb body[k] (NO hk));have kd:bz (k0 f ps body g) (k+1)=aQ body[k]:=by unfold bz;rw[er]
  have et:(body.take (k+1)).countP g0=(body.take k).countP g0+(if g0 body[k]=true then 1 else 0):=by rw[NM,kj hk,List.countP_append];show _+[body[k]].countP g0=_;rw[List.countP_singleton]
  show ∃l,(if (bz (k0 f ps body g) (k+1)).op=true then (if (bz (k0 f ps body g) (k+1)).cl=true then (st (bz (k0 f ps body g)) (k+1)).dropLast else st (bz (k0 f ps body g)) (k+1))++[k+1] else (if (bz (k0 f ps body g) (k+1)).cl=true then (st (bz (k0 f ps body g)) (k+1)).dropLast else st (bz (k0 f ps body g)) (k+1)))=0::l/\_;rw[kd,h1,if_neg dO,h2,e,et];by_cases z:g0 body[k]=true;rw[if_pos z,if_pos z];exact⟨l++[k+1],rfl,by rw[yH,hl];rfl⟩;rw[if_neg z,if_neg z];exact⟨l,rfl,hl⟩
theorem yE(hb:∀r∈body,R9 ys r):∀j≤body.countP g0,∃l,st (bz (k0 f ps body g)) (body.length+1+j)=0::l/\l.length=body.countP g0-j
 |0,_=>by obtain⟨l,e,hl⟩:=rO (f:=f) (ps:=ps) (g:=g) hb body.length (bG _);rw[JM] at hl;exact⟨l,e,hl⟩
 |j+1,h=>by
  obtain⟨l,e,hl⟩:=yE hb j (by omega);have er:(k0 f ps body g)[body.length+1+j]?=some .fin:=by rw[show body.length+1+j=(body.length+j)+1 by omega,Ub,pP (by omega),show body.length+j-body.length=j by omega,k7 (by rw[JF];omega),wY,if_pos (by omega)]
  have kd:bz (k0 f ps body g) (body.length+1+j)=aQ .fin:=by unfold bz;rw[er]
  show ∃l,(if (bz (k0 f ps body g) (body.length+1+j)).op=true then (if (bz (k0 f ps body g) (body.length+1+j)).cl=true then (st (bz (k0 f ps body g)) (body.length+1+j)).dropLast else st (bz (k0 f ps body g)) (body.length+1+j))++[body.length+1+j] else (if (bz (k0 f ps body g) (body.length+1+j)).cl=true then (st (bz (k0 f ps body g)) (body.length+1+j)).dropLast else st (bz (k0 f ps body g)) (body.length+1+j)))=0::l/\_;rw[kd,e];show ∃l',(0::l).dropLast=0::l'/\_;cases l with
  |nil=>simp at hl;omega
  |cons a l=>exact⟨(a::l).dropLast,rfl,by rw[NI,hl];omega⟩
end
theorem rC.wf{ys:qai}(p:rC ys rs):N0 rs:=by obtain⟨f,ps,body,g,rfl,hb⟩:=p.sh;exact Nr hb
theorem rC.hm{ys:qai}(p:rC ys rs):AU rs:=λi hi=>by
 have hr:=kj hi;have at':=p.at hr;have IF:=hi;obtain⟨f,ps,body,g,rfl,hb⟩:=p.sh;have hl:(k0 f ps body g).length=1+(body.length+(body.countP g0+1)):=by simp;omega
 have kd:bz (k0 f ps body g) i=aQ (k0 f ps body g)[i]:=by unfold bz;rw[hr]
 rw[hl] at IF;cases i with
 |zero=>rfl
 |succ i=>
  have df:(bz (k0 f ps body g) (i+1)).df=false:=by
   rw[kd];obtain⟨z,_⟩|⟨_,_,z|z|z⟩|⟨_,_,g',z⟩:=at'
   omega;exact (ju (ys:=ys) (.inl z)).2.2.1;exact (ju (ys:=ys) (.inr z)).2.2.1;rw[z];rfl;rw[z];rfl
  unfold j2;rw[df,if_neg dO];by_cases z:i<=body.length;obtain⟨l,e,_⟩:=rO (f:=f) (ps:=ps) (g:=g) hb i z;rw[e];rfl;obtain⟨l,e,_⟩:=yE (f:=f) (ps:=ps) (g:=g) hb (i-body.length) (by omega);rw[show body.length+1+(i-body.length)=i+1 by omega] at e;rw[e];rfl
end MK
namespace VT
open PySem PySem.Spec PyProof.Rows L2
end VT
namespace bF
open PySem L2 VT Gen K5 Lay BS x6 MK
open PySem.Builtin (bitOr)
def HV(ts:qaj)(q:qam):Prop:=∃ns:qan,ts=[.lst (ns.map .int)]/\ns.length<=63/\q (.vw (.bl true))
theorem Eg(E:List Ent):iT (cW E)=true:=by
 unfold cW;induction E with
 |nil=>rfl
 |cons e E ih=>rw[gj,iT,ih];rfl
theorem Nt(bs cs:List TS.Tr):Lv 4 (.tup [.lst (bs.map TS.tT),.lst (cs.map TS.tT)]):=by
 have row:∀b:TS.Tr,Lv 2 (TS.tT b):=λb=>.inr (.inr (.inr ⟨_,rfl,λu hu=>by
  simp only[dh,fm,or_false] at hu;obtain rfl|rfl|rfl:=hu
  exact .inl ⟨_,rfl⟩;exact .inr (.inl ⟨_,rfl⟩);exact .inl ⟨_,rfl⟩⟩))
 have lst:∀l:List TS.Tr,Lv 3 (.lst (l.map TS.tT)):=λl=>.inr (.inr (.inl ⟨_,rfl,λu hu=>by obtain⟨b,_,rfl⟩:=kN.mp hu;exact row b⟩))
 refine .inr (.inr (.inr ⟨_,rfl,λu hu=>?_⟩));simp only[dh,fm,or_false] at hu;obtain rfl|rfl:=hu
 exact lst bs;exact lst cs
theorem wM(rs:qal):plainT (.lst (rs.map aU))=true:=by simp only[plainT];exact fM vV rs
theorem R_(h:lV.bX x=true):x.length<=8:=by unfold lV.bX at h;rw[gi,gi] at h;have:=of_decide_eq_true h.2.1;omega
theorem Eh(rs:qal):dep (.lst (rs.map aU))<=100:=by have:=i8 (f:=aU) (n:=2) B8 rs;simp only[dep];omega
section
noncomputable abbrev R':qai:=["_law_script","_law_words_here","_law_rows","_law_lent","_law_names","_law_cells"]
theorem Ei:aG R' qaO (aq jr):=L2.iQ
theorem Nu(D:Df K mg "law" jr qaO f fd)(M:ER mg)(ki:cJ P w K mg base "_law_cell_at" qaC 1 (cK K 2 rA.DI))(HW:cJ P w K mg base "_law_words" qaD 1 (cK K 2 rA.DJ))(Ar:cJ P w K mg base "_law_program" qaG 3 (cK K 2 JC))(HX:cJ P w K mg base "_law_moves" qaH 2 (cK K 1 DX))(As:cJ P w K mg base "_law_grown" qaM 3 (sO K [true,true,false] (WC R6)))(HY:cJ P w K mg base "_law_table" qaL 1 (cK K 2 D6))(Ej:cJ P w K mg base "makers" qav 6 (LW K 1 d6.yl))(Nv:cJ P w K mg base "_law_same" qaN 5 (cK K 2 (uM 4))):cU P w K mg base gP 7 f fd qaO (cK K 1 HV):=by
 obtain⟨Ob,Nx,Au,Av,Aw,Ax⟩:=As;obtain⟨Sa,Oc,Ek,El,Em,Eo⟩:=Ej;refine lh D.F Ei rfl λbw A outer s H E Ox hr ts q hG=>?_;have nd:=Ei.nd;have hu:=bb.fK hr;have np:∀{i:Nat},aX ⟨H,[],Ox⟩ i:=iw;refine⟨_,(ah (aN (i:=1) nd rfl (Or.inl rfl) (qau (aO HW hr (aa (qat (aO ki hr (aa (ai 0) (aa (qat af) aj)))) (aa (qat af) aj)))) np)
  (ah (aN (i:=2) nd rfl (Or.inl rfl) (qau (aO Ar hr (aa (ai 0) (aa (ai 1) aj)))) np)
  (ah (aN (i:=3) nd rfl (Or.inl rfl) (qau (jK p6 vG (by rfl) M.list vL (a_ (ae 2) bx))) np)
  (ah (dv (i:=4) nd rfl (Or.inl rfl) (qau tZ) np)
  (ah (dv (i:=5) nd rfl (Or.inl rfl) (qau tZ) np)
  (ah (cA (BP Ax (hr.mono (by decide)) (by rfl) Au Av Aw (xD 4 (xD 5 (BO (qat (aO HX hr (aa (ai 2) aj))) Gf)))))
  (xX 4 np (xX 5 np (ak (aJ (qau (jH (aO Nv hr (aa (qat (VD.vp (xN Eo (hr.mono (by decide)) (by rfl) Ek El Em (aa (ai 3) aj)))) (aa (qat (aO HY hr (aa (ai 4) (aa (ai 5) aj)))) aj))) (l7 (oR hu (ae 3) (ae 2))))))))))))))),λ_=>?_⟩
 obtain⟨ns,rfl,X9,hq⟩:=hG;have Yc:(c5 (ns.getD 0 0) 4).length=4:=vU _ _;have WM:∀y∈c5 (ns.getD 0 0) 4,lV.bX y=true:=vW;refine⟨rfl,ns,0,rfl,rfl,_,4,rfl,by decide,by decide,?_⟩;generalize c5 (ns.getD 0 0) 4=ys at Yc WM ⊢;have h8:∀y∈ys,y.length<=8:=λy hy=>R_ (WM y hy);refine⟨rfl,ns,ys,rfl,Yc,h8,X9,λrs pg=>?_⟩;have ls0:Ls rs ⟨[],[],false⟩:=λS hS w k=>by cases w<;>exact sub_zero _
 refine⟨rfl,ys,rs,rfl,pg,WM,[],[],[],[],_,rfl,rs,[],[],rfl,rfl,pg.le,pg.hm,Ds rs,ls0,λp Ip Lp cl=>⟨Eg _,Eg _,?_⟩⟩;intro o1 o2;have WN:∀r∈rs,TU r=true/\d6.TX r:=λr hr=>by
  obtain⟨i,hi,e⟩:=Ol.mp hr;have dot:∀x∈ys,Nm.zZ (qB (.fld x)):=λx hx=>.inl ⟨_,rfl,by
   have:=h8 x hx;have e:(((".":String):Str)++x).length=1+x.length:=by show (((".":String):Str).cps++x.cps).size=_;rw[Array.size_append];rfl
   rw[e];omega⟩
  have leaf:∀k,Am ys k->Nm.zZ (qB k):=λk hk=>by
   cases k with
   |fld x=>exact dot x hk
   |op o=>cases o with
    |nm y=>exact .inl ⟨_,rfl,by have:=h8 y hk;omega⟩
    |nu i=>exact .inr ⟨i,rfl⟩
  rcases pg.at (i:=i) (r:=r) (by rw[kj hi,e]) with⟨_,f,ps,rfl⟩|⟨_,_,hk|⟨x,rfl|rfl⟩|rfl⟩|⟨_,_,g,rfl⟩
  exact⟨rfl,trivial⟩;cases r with
  |get x y k=>exact⟨rfl,leaf k hk.2.2⟩
  |set y k o=>cases o with
   |nm z=>exact⟨rfl,leaf k hk.2.1⟩
   |nu _=>exact⟨rfl,leaf k hk.2⟩
  |call _ _ _=>exact hk.elim
  |_=>exact⟨rfl,trivial⟩
  all_goals exact⟨rfl,trivial⟩
 have hle:=pg.le;refine⟨rfl,rs,rfl,pg.wf,by omega,WN,λm LN I_ bs cs pb sb pc sc=>?_⟩;have I1:=pG rs (m+1);have cl1:ES rs (jo rs (m+1)).get:=uJ pg.hm ((pG rs m).bool false) I_;have cl2:=wK Ip pg.le cl;have eg:=λw k=>Ed cl1 (JD pg.hm (m+1)) cl2 Lp w k;have l1:=Ip.Hn;have l2:=Ip.Ho;have l3:rs.length * (rs.length+1)<=60 * 61:=Nat.mul_le_mul hle (by omega);refine⟨rfl,p.E,p.F,o1,o2,rfl,Ip.nE,Ip.nF,by omega,by omega,λe he=>?_,λe he=>?_,λbs' cs' pb' TJ pc' sc'=>?_⟩;rw[<- get_mem Ip.nE he];exact (Ip.bl true e.1).1;rw[<- get_mem Ip.nF he];exact (Ip.bl false e.1).1;have e1:bs'=bs:=iF TJ sb (pb'.trans ((uK Ip.nE I1.nE λk=>(eg true k).symm).trans pb.symm));have e2:cs'=cs:=iF sc' sc (pc'.trans ((uK Ip.nF I1.nF λk=>(eg false k).symm).trans pc.symm));subst e1 e2;have hp:=wM rs;refine⟨rfl,_,rfl,Nt _ _,hp,hp,Eh rs,?_⟩;show q (.vw (.bl (eqT (.lst (rs.map aU)) (.lst (rs.map aU)))));rw[l8 _ hp];exact hq
end
end bF
namespace jw
open PySem L2 VT
theorem Sb(X:K.In h)(G:h.Ns mainGlobals mg){st:Stmt}{oc:Value}{od an:qar}{EC:Array (Option Value)}{kV doc pm bw ct:Value}(a:PySem.W.nsIn K mainGlobals x=some (some (.ref f)))(l:K.lookup f=some ⟨oc,od,.func (PySem.W.fnOf x x (c_ st) (bB st) (aq st) .none kV doc pm an bw ct),EC⟩)(c:PySem.W.codeIn K bw x=true)(k:PySem.W.keepIn K (.ref f)=true)(hb:∀(kV doc pm:Value) (an:qar) (bw ct:Value) (us:qag),us.length=ps.length->bindArgs (PySem.W.fnOf x x (c_ st) (bB st) (aq st) .none kV doc pm an bw ct) ⟨us,[]⟩=pure (ps.zip us)) :
  ∃f fd,Df K mg x st ps f fd:=by
 have F:=p7 (st:=st) l c k;exact⟨f,_,F,Ik X G a,F.binds hb⟩
theorem WO{C:qag->Prop}(h:C []):∀us:qag,us.length=0->C us
 |[],_=>h
theorem Ny{C:qag->Prop}(h:∀a,∀us:qag,us.length=n->C (a::us)):∀us:qag,us.length=n+1->C us
 |a::us,e=>h a us (Nat.succ.inj e)
theorem Sd{C:qag->Prop}(h:∀a,C [a]):∀us:qag,us.length=1->C us:=Ny λa=>WO (h a)
theorem bn1{C:qag->Prop}(h:∀a,C [a]):∀us:qag,us.length=1->C us:=Sd h
theorem Yd{C:qag->Prop}(h:∀a b,C [a,b]):∀us:qag,us.length=2->C us:=Ny λa=>bn1 (h a)
theorem bn3{C:qag->Prop}(h:∀a b c,C [a,b,c]):∀us:qag,us.length=3->C us:=Ny λa=>Yd (h a)
noncomputable abbrev pE:Program:=PySem.Challenge.pw_slicewise_k22_cells_of_records
noncomputable def qE:Program:=PySem.W.view pE [1,2,4,5,6,7,8,10,11,12,13,15,17,18,19,20,21,22,23,25,26,27,28,29,30,31,32,33,34,35,36,37,38,39]
def JE:qai:=[]
noncomputable def Se:qah:=[0,1,2,3,4,5,6,7,8,9,10,11,12,13,14,15,16,17,18,19,20,21,22,23,24,25,26,27,28,29,30,31,32,33,34,35,36,37,38,39,40,41,42,43,44,45,46,47,48,49,50,51,52,53,54,55,56,57,58,59,60,61,69,70,71,72,73,74,75,76,77,78,79,80,90,91,92,93,94,95,96,97,98,99,100,101,104,105,106,107,108,109,110,111,112,113,114,115,116,117,118,119,120,121,122,123,124,125,126,127,128,129,130,131,132,133,134,135,136,137,138,139,140,141,142,143,144,145,146,147,148,149,150,151,152,153,154,155,156,157,158,159,160,161,162,163,164,165,166,167,168,169,170,171,172,173,174,175,176,177,178,179,180,181,182,183,184,185,186,187,188,189,190,191,192,193,194,195,196,197,198,199,200,201,202,203,204,205,206,207,208,209,210,211,212,213,214,215,216,217,218,219,220,221,222,223,224,225,226,227,228,229,230,231,232,233,234,235,236,237,238]
abbrev OV:=Option (Option Value)
abbrev OO:=Option Obj
abbrev N(K:qaf)(x:Str):=PySem.W.nsIn K mainGlobals x
noncomputable abbrev Lk(K:qaf)(a:Addr):=List.lookup a K
abbrev R(a:Addr):OV:=some (some (.ref a))
noncomputable abbrev fo(x q:Str)(st:Stmt)(pm:Value)(c:Addr):OO:=some ⟨.type "function",none,.func (PySem.W.fnOf x q (c_ st) (bB st) (aq st) .none .none .none pm none (.ref c) .none),#[]⟩
abbrev cI(K:qaf)(c:Value)(q:Str):=PySem.W.codeIn K c q
abbrev kI(K:qaf)(f:Addr):=PySem.W.keepIn K (.ref f)
noncomputable abbrev fI(K:qaf)(c:Addr)(x:Str):=PySem.W.findIn K (.ref c) x
abbrev Q4:=OV×OO×Bool×Bool
noncomputable def q4(K:qaf)(x:Str)(f c:Addr):Q4:=(N K x,Lk K f,cI K (.ref c) x,kI K f)
noncomputable def v4(x:Str)(st:Stmt)(f:Addr)(pm:Value)(c:Addr):Q4:=(R f,fo x x st pm c,true,true)
def BN:qai->(qag->Prop)->Prop
 |[],C=>C []
 |_::ps,C=>∀v,BN ps λus=>C (v::us)
theorem Ye:∀{ps:qai}{C:qag->Prop},BN ps C->∀us:qag,us.length=ps.length->C us
 |[],_,h,[],_=>h
 |_::_,_,h,v::us,e=>Ye (h v) us (Nat.succ.inj e)
theorem dM{D:Prop}(X:K.In h)(G:h.Ns mainGlobals mg){st:Stmt}{c:Addr}{pm:Value}(e:q4 K x f c=v4 x st f pm c)(k:∀{f:Addr} {fd:FuncData},Df K mg x st ps f fd->D)(hb:∀(kV doc pm:Value) (an:qar) (bw ct:Value),BN ps λus=>bindArgs (PySem.W.fnOf x x (c_ st) (bB st) (aq st) .none kV doc pm an bw ct) ⟨us,[]⟩=pure (ps.zip us):=by simp only[BN];intros;rfl):D:=by unfold q4 v4 at e;simp only[Prod.mk.injEq] at e;obtain⟨_,_,d⟩:=Sb X G e.1 e.2.1 e.2.2.1 e.2.2.2 λa b c d e f=>Ye (hb a b c d e f);exact k d
def Tk(P:Program)(w:World)(base:Heap):Prop:=True
theorem dN{sp:Sp}(z:Tk P w base)(X:K.In h)(G:h.Ns mainGlobals mg){st:Stmt}{c:Addr}{pm:Value}(e:q4 K x f c=v4 x st f pm c)(k:∀{f:Addr} {fd:FuncData},Df K mg x st ps f fd->cJ P w K mg base x ps n sp)(hb:∀(kV doc pm:Value) (an:qar) (bw ct:Value),BN ps λus=>bindArgs (PySem.W.fnOf x x (c_ st) (bB st) (aq st) .none kV doc pm an bw ct) ⟨us,[]⟩=pure (ps.zip us):=by simp only[BN];intros;rfl):cJ P w K mg base x ps n sp:=dM X G e k hb
noncomputable abbrev tU(l:Array Value):OO:=some ⟨.type "tuple",none,.seq l 0,#[]⟩
abbrev kE(w:World)(x:Str)(t:Tok)(r:Addr):DictEntry:=⟨PyData.keyHash w.params x,.str x t,.ref r⟩
noncomputable abbrev wN:Value:=.str "law_slicewise_k22_cells_of_records" 396
noncomputable abbrev Oe:Value:=.str "slicewise.makers" 300
noncomputable abbrev WQ:Value:=.str "slicewise.rows" 203
abbrev T6:=Q4×(Q4×Q4)
abbrev Of:=OV×(OV×OV)
abbrev Sh:=Bool×Bool
abbrev WR:=(Q4×Q4)×T6
abbrev Si:=OV×OV
abbrev XX:Type:=(((((Si×(OV×(OO×OV)))×((OO×OV)×Of))×((Si×Of)×(Si×Of)))×(((Si×(Bool×(OO×Bool)))×(Sh×(Bool×(Bool×OV))))×((Sh×Of)×(Of×Of))))×(((((Bool×OO)×(Bool×Sh))×(Sh×(OV×Sh)))×((Si×(OV×(OO×Bool)))×((Bool×(Q4×Q4))×T6)))×((WR×WR)×(WR×(T6×T6)))))
noncomputable def FF(K:qaf):XX:=((((((N K "LETTERS",N K "LONGEST_NAME"),(N K "CLOSERS",(Lk K 47,N K "OPENERS"))),((Lk K 46,N K "isinstance"),(N K "int",(N K "str",N K "bool")))),(((N K "len",N K "all"),(N K "tuple",(N K "zip",N K "range"))),((N K "list",N K "enumerate"),(N K "min",(N K "sum",N K "sorted"))))),((((N K "Layout",fI K 78 "__init__"),(PySem.W.isFn K (.ref 75),(Lk K 75,cI K (.ref 74) "Layout.__init__"))),((kI K 75,PySem.W.plainGet K 78 Str.empty),(PySem.W.hasDictIn K 78,(PySem.W.plainOver K 78,fI K 78 "__setattr__")))),(((PySem.W.makesIn K 78,kI K 78),(fI K 78 "program",(fI K 78 "heads",fI K 78 "ends"))),((fI K 78 "elses",(fI K 78 "homes",fI K 78 "defs")),(fI K 78 "main",(N K "Sets",fI K 99 "__init__")))))),(((((PySem.W.isFn K (.ref 96),Lk K 96),(cI K (.ref 95) "Sets.__init__",(kI K 96,PySem.W.plainGet K 99 Str.empty))),((PySem.W.hasDictIn K 99,PySem.W.plainOver K 99),(fI K 99 "__setattr__",(PySem.W.makesIn K 99,kI K 99)))),(((fI K 99 "names",fI K 99 "cells"),(N K "law",(Lk K 238,cI K (.ref 237) "law"))),((kI K 238,(q4 K "has" 21 20,q4 K "members" 26 25)),(q4 K "is_name" 31 30,(q4 K "is_field" 38 37,q4 K "class_of" 45 44))))),((((q4 K "shape" 61 60,q4 K "first_defs" 54 53),(q4 K "list_of" 115 114,(q4 K "read_cells" 134 133,q4 K "wants" 127 126))),((q4 K "grown" 122 121,q4 K "makers" 110 109),(q4 K "_law_cell_at" 148 147,(q4 K "_law_words" 155 154,q4 K "_law_same" 162 161)))),(((q4 K "_law_homes" 169 168,q4 K "_law_class" 176 175),(q4 K "_law_key" 183 182,(q4 K "_law_row" 190 189,q4 K "_law_program" 195 194))),((q4 K "_law_moves" 202 201,(q4 K "_law_had" 209 208,q4 K "_law_goals" 214 213)),(q4 K "_law_lacks" 219 218,(q4 K "_law_grown" 226 225,q4 K "_law_table" 231 230)))))))
noncomputable def VV(w:World):XX:=((((((some (some (.str lV.bj 205)),some (some (.int 8 207))),(R 47,(tU #[.str "give" 235,.str "end" 236],R 46))),((tU #[.str "def" 231,.str "if" 232,.str "while" 233],some none),(some none,(some none,some none)))),(((some none,some none),(some none,(some none,some none))),((some none,some none),(some none,(some none,some none))))),((((R 78,some (some (.ref 75))),(true,(fo "__init__" "Layout.__init__" Lay.gE (.str "slicewise.layouts" 262) 74,true))),((true,true),(true,(true,some (some (.builtin "object.__setattr__")))))),(((true,true),(some none,(some none,some none))),((some none,(some none,some none)),(some none,(R 99,some (some (.ref 96)))))))),(((((true,fo "__init__" "Sets.__init__" d6.m5 Oe 95),(true,(true,true))),((true,true),(some (some (.builtin "object.__setattr__")),(true,true)))),(((some none,some none),(R 238,(fo "law" "law" bF.jr wN 237,true))),((true,(v4 "has" d6.Dl 21 (.str "slicewise.bits" 187) 20,v4 "members" d6.j8 26 (.str "slicewise.bits" 187) 25)),(v4 "is_name" Nm.gT 31 WQ 30,(v4 "is_field" Nm.iy 38 WQ 37,v4 "class_of" d6.iD 45 WQ 44))))),((((v4 "shape" QX.jd 61 (.str "slicewise.programs" 229) 60,v4 "first_defs" Lay.fQ 54 (.str "slicewise.programs" 229) 53),(v4 "list_of" d6.j9 115 Oe 114,(v4 "read_cells" d6.fU 134 Oe 133,v4 "wants" d6.rh 127 Oe 126))),((v4 "grown" d6.rf 122 Oe 121,v4 "makers" d6.m4 110 Oe 109),(v4 "_law_cell_at" rA.kc 148 wN 147,(v4 "_law_words" rA.rB 155 wN 154,v4 "_law_same" bF.s_same 162 wN 161)))),(((v4 "_law_homes" bF.rD 169 wN 168,v4 "_law_class" bF.rE 176 wN 175),(v4 "_law_key" bF.DU 183 wN 182,(v4 "_law_row" bF.s_row 190 wN 189,v4 "_law_program" bF.kf 195 wN 194))),((v4 "_law_moves" bF.rF 202 wN 201,(v4 "_law_had" bF.DV 209 wN 208,v4 "_law_goals" bF.rG 214 wN 213)),(v4 "_law_lacks" bF.rH 219 wN 218,(v4 "_law_grown" bF.kh 226 wN 225,v4 "_law_table" bF.rJ 231 wN 230)))))))
theorem WS(w:World)(os:OsState):HE.lookA pE qE JE [] [] (HE.i7 (w).params) (PySem.W.boot_heap (w).params) (w) 1444 os=some (true,(PySem.W.openGood qE JE).1,(PySem.W.openGood qE JE).2.1):=by
 rw[PySem.W.Fast.te2848547177322276819]
 kernel_rfl
theorem WT(w:World)(os:OsState):HE.lookB pE qE JE [] [] (HE.i7 (w).params) (w) 1444 os=some (PySem.W.openGood qE JE).2.2:=by
 rw[PySem.W.Fast.te312265020846911052]
 kernel_rfl
theorem runC(w:World)(os:OsState):HE.lookC pE Se FF (HE.i7 (w).params) (w) 1444 os=some (VV (w)):=by
 rw[PySem.W.Fast.te3135357915001837337]
 kernel_rfl
theorem Nz:PySem.Challenge.rw_slicewise_k22_cells_of_records.wellSaid=true:=by kernel_rfl
noncomputable abbrev KE(w:World):qaf:=HE.Kf Se (HE.qy pE 3568 w)
noncomputable abbrev dE:DefRec:=HE.Qx bF.jr
theorem hd:PySem.W.LeftO pE qE JE (HE.Gv qE [] []) (λs=>Se.map s.heap.get?) (λw=>Se.map (HE.qy pE 3568 w)) 3568/\∀w,FF (KE w)=VV w:=HE.head (p:=pE) (q:=qE) (loose:=JE) (lv:=[]) (R:=[]) (as:=Se) (N:=3568) (M:=1444) (F:=FF) (v:=VV) (by kernel_rfl) rfl (λs=>by kernel_rfl) rfl WS WT runC
theorem NA{l:PySem.W.OpenLaw}{fa:Addr}(X:K.In h)(G:h.Ns mainGlobals mg)(Yf:mg "law"=some (.ref fa))(hF:FF K=VV w) :
  ∃fd:FuncData,(∀(s:Shared)(v:Value),BindsTo s fd ⟨[v],[]⟩ [("_law_script",v)])/\∀base:Heap,K.In base->base.Ns mainGlobals mg->cU l.prog w K mg base gP 7 fa fd qaO (cK K 1 bF.HV):=by
 have Q {β:Type} (f:XX->β):=congrArg f hF;have de:=wZ X G (Q (·.1.1.1.2.1.2) :);have wQ:=wZ X G (Q (·.1.1.1.2.2.1) :);have wR:=wZ X G (Q (·.1.1.1.2.2.2.1) :);have yF:=wZ X G (Q (·.1.1.1.2.2.2.2) :);have nB:=wZ X G (Q (·.1.1.2.1.1.1) :);have NB:=wZ X G (Q (·.1.1.2.1.1.2) :);have nC:=wZ X G (Q (·.1.1.2.1.2.1) :);have Ep:=wZ X G (Q (·.1.1.2.1.2.2.1) :);have jx:=wZ X G (Q (·.1.1.2.1.2.2.2) :);have rP:=wZ X G (Q (·.1.1.2.2.1.1) :);have dF:=wZ X G (Q (·.1.1.2.2.1.2) :);have NC:=wZ X G (Q (·.1.1.2.2.2.1) :);have ND:=wZ X G (Q (·.1.1.2.2.2.2.1) :);have pM:=wZ X G (Q (·.1.1.2.2.2.2.2) :);have e:=Yf.symm.trans (Ik X G (Q (·.2.1.2.1.2.1) :));cases e;have aI:Lay.Q0 K 78:=⟨⟨(Q (·.1.2.1.2.1.2) :),(Q (·.1.2.1.2.2.1) :),(Q (·.1.2.1.2.2.2.1) :),(Q (·.1.2.1.2.2.2.2) :)⟩,(Q (·.1.2.2.1.2.1) :),(Q (·.1.2.2.1.2.2.1) :),(Q (·.1.2.2.1.2.2.2) :),(Q (·.1.2.2.2.1.1) :),(Q (·.1.2.2.2.1.2.1) :),(Q (·.1.2.2.2.1.2.2) :),(Q (·.1.2.2.2.2.1) :)⟩;have pN:=p7 (st:=Lay.gE) (Q (·.1.2.1.1.2.2.1) :) (Q (·.1.2.1.1.2.2.2) :) (Q (·.1.2.1.2.1.1) :);have Ay:Dc K mg "Layout" "Layout.__init__" Lay.gE qaw 78 75 _:=⟨pN,Ik X G (Q (·.1.2.1.1.1.1) :),pN.binds (λ_ _ _ _ _ _=>(jw.Yd λ_ _=>rfl)),⟨(Q (·.1.2.2.1.1.1) :),(Q (·.1.2.1.1.1.2) :),(Q (·.1.2.1.1.2.1) :),(Q (·.1.2.2.1.1.2) :)⟩⟩;have cg:d6.Rx K 99:=⟨⟨(Q (·.2.1.1.1.2.2.2) :),(Q (·.2.1.1.2.1.1) :),(Q (·.2.1.1.2.1.2) :),(Q (·.2.1.1.2.2.1) :)⟩,(Q (·.2.1.2.1.1.1) :),(Q (·.2.1.2.1.1.2) :)⟩;have yG:=p7 (st:=d6.m5) (Q (·.2.1.1.1.1.2) :) (Q (·.2.1.1.1.2.1) :) (Q (·.2.1.1.1.2.2.1) :);have HZ:Dc K mg "Sets" "Sets.__init__" d6.m5 qaz 99 96 _:=⟨yG,Ik X G (Q (·.1.2.2.2.2.2.1) :),yG.binds (λ_ _ _ _ _ _=>(jw.bn3 λ_ _ _=>rfl)),⟨(Q (·.2.1.1.2.2.2.1) :),(Q (·.1.2.2.2.2.2.2) :),(Q (·.2.1.1.1.1.1) :),(Q (·.2.1.1.2.2.2.2) :)⟩⟩;have M5:QX.Xy K mg:=⟨nB,jx,dF,de,wQ,yF,nC,rP,Ep,⟨47,Ik X G (Q (·.1.1.1.1.2.1) :),λH=>.inr ⟨_,_,_,(Q (·.1.1.1.1.2.2.1) :),rfl,rfl,Gen.LS rfl,.cons ⟨_,rfl⟩ (.cons ⟨_,rfl⟩ (.nil))⟩⟩,⟨46,Ik X G (Q (·.1.1.1.1.2.2.2) :),λH=>.inr ⟨_,_,_,(Q (·.1.1.1.2.1.1) :),rfl,rfl,Gen.LS rfl,.cons ⟨_,rfl⟩ (.cons ⟨_,rfl⟩ (.cons ⟨_,rfl⟩ (.nil)))⟩⟩⟩;have MF:Lay.Xx mg:=⟨dF⟩;have MLy:Lay.QZ mg:=⟨nB,NC⟩;have N2:Nm.V1 mg:=⟨⟨_,Ik X G (Q (·.1.1.1.1.1.1) :)⟩,⟨_,Ik X G (Q (·.1.1.1.1.1.2) :)⟩,de,wR,nB,NB⟩;have MP:d6.TV mg:=⟨dF,pM,jx⟩;have MG:rA.Wz mg:=⟨nB,jx,nC,ND⟩;have MS:bF.WK mg:=⟨de,wR,wQ,yF,rP,nC,nB,Ep⟩;have ML:bF.ER mg:=⟨de,wR,wQ,jx,dF,pM,rP⟩;have F:=p7 (st:=bF.jr) (Q (·.2.1.2.1.2.2.1) :) (Q (·.2.1.2.1.2.2.2) :) (Q (·.2.1.2.2.1.1) :);have DL:Df K mg "law" bF.jr qaO 238 _:=⟨F,Yf,F.binds (λ_ _ _ _ _ _=>Sd λ_=>rfl)⟩;refine⟨PySem.W.fnOf "law" "law" (c_ bF.jr) (bB bF.jr) (aq bF.jr) .none (.none) (.none) (.str "law_slicewise_k22_cells_of_records" 396) none (.ref 237) (.none),λs v=>.of_eq rfl,λbase _ _=>?_⟩;have zT:Tk l.prog w base:=trivial;have Sj:=dN zT X G (Q (·.2.1.2.2.1.2.1) :) λD=>d6.MB D;have pO:=dM X G (Q (·.2.1.2.2.1.2.2) :) λD=>d6.wy D MP Sj;have Az:=dN zT X G (Q (·.2.1.2.2.2.1) :) λD=>Nm.G1 D N2;have wU:=dM X G (Q (·.2.1.2.2.2.2.1) :) λD=>Nm.tW D N2 Az;have wV:=dM X G (Q (·.2.1.2.2.2.2.2) :) λD=>d6.uf D wU;have H_:=dN zT X G (Q (·.2.2.1.1.1.1) :) λD=>QX.Cz D M5;have rQ:=dN zT X G (Q (·.2.2.1.1.1.2) :) λD=>Lay.om D MF;have Er:=Lay.zW Ay MLy aI H_ rQ;have NF:=d6.Hm (P:=l.prog) (w:=w) (base:=base) HZ cg;have AA:=dN zT X G (Q (·.2.2.1.1.2.1) :) λD=>d6.wB D MP;have rR:=dM X G (Q (·.2.2.1.1.2.2.1) :) λD=>d6.oC D cg pO;have Ia:=dM X G (Q (·.2.2.1.1.2.2.2) :) λD=>d6.Dq D aI cg rR wV pO;have Ib:=dM X G (Q (·.2.2.1.2.1.1) :) λD=>d6.DB D aI MP Ia;have Es:=dM X G (Q (·.2.2.1.2.1.2) :) λD=>d6.Af D aI cg Er NF Ib AA;have gM:=dN zT X G (Q (·.2.2.1.2.2.1) :) λD=>rA.wH D MG;have rS:=dN zT X G (Q (·.2.2.1.2.2.2.1) :) λD=>rA.DK D MG;have uO:=dN zT X G (Q (·.2.2.1.2.2.2.2) :) λD=>bF.HU D MS;have rT:=dN zT X G (Q (·.2.2.2.1.1.1) :) λD=>bF.D2 D ML;have rV:=dN zT X G (Q (·.2.2.2.1.1.2) :) λD=>bF.DZ D ML;have wW:=dN zT X G (Q (·.2.2.2.1.2.1) :) λD=>bF.Nb D;have wX:=dM X G (Q (·.2.2.2.1.2.2.1) :) λD=>bF.Nc D wW;have nD:=dM X G (Q (·.2.2.2.1.2.2.2) :) λD=>bF.wI D ML gM wX;have rW:=dM X G (Q (·.2.2.2.2.1.1) :) λD=>bF.D3 D ML rT rV;have nG:=dN zT X G (Q (·.2.2.2.2.1.2.1) :) λD=>bF.Nd D;have rX:=dN zT X G (Q (·.2.2.2.2.1.2.2) :) λD=>bF.D8 D ML;have rY:=dM X G (Q (·.2.2.2.2.2.1) :) λD=>bF.D9 D ML nG rX;have rZ:=dM X G (Q (·.2.2.2.2.2.2.1) :) λD=>bF.wL D ML nG rY;have r0:=dN zT X G (Q (·.2.2.2.2.2.2.2) :) λD=>bF.D' D ML;exact bF.Nu DL ML gM rS nD rW rZ r0 Es uO
theorem walk{l:PySem.W.OpenLaw}{q:Program}{loose:qai}{XP:(qae)->Heap->Prop}{d:DefRec}{K:World->qaf}(hn:l.most=some 63)(Pu:d.params.defaults=[])(F:∀(w:World) (mg:qae) (fa:Addr) (h:Heap),(K w).In h->h.Ns mainGlobals mg->mg d.name=some (.ref fa) ->
    ∃fd:FuncData,(∀(s:Shared) (u:Value),BindsTo s fd ⟨[u],[]⟩ [("_law_script",u)])/\∀base:Heap,(K w).In base->base.Ns mainGlobals mg->cU l.prog w (K w) mg base gP 7 fa fd qaO (cK (K w) 1 bF.HV)) :
  PySem.W.WalkO q loose XP (λw h=>(K w).In h) l.row.toRowW d [] (λf vs=>PySem.call f vs):=by
 refine SY.sG hn Pu λw s₀ s₁ mg mb fa o pm cd doc a vs ns G Y ho hd eI Pw KZ hints hlen hg=>?_;obtain⟨fd,hb,hF⟩:=F w mg fa _ Y G.T.g Pw;exact Bl (CX:=gP) (sp:=cK (K w) 1 bF.HV) (k:=7) Y G.T.g G.T.b G.T.builtins G.T.nolimit hg KZ hints (km hlen (by decide)) ⟨rfl,by decide,by decide⟩ hF hb (λH _ hS=>
  ⟨[.lst (ns.map .int)],[],[],λ_ r=>r=.vw (.bl true),E1,λ_ z=>(nomatch z),λ_ z=>(nomatch z),fJ rfl (ax.cons (by
     simp only[At];refine⟨a,ns.map V.int,rfl,hS.imp (λz=>⟨z,λm=>nomatch m⟩) id,?_⟩;clear hS;clear hints hlen;induction ns with
     |nil=>exact ax.nil
     |cons n ns ih=>exact ax.cons aZ ih) ax.nil),⟨ns,rfl,hlen,rfl⟩,λus r hr v H' _ z=>by
     subst hr;have:=z.1;simpa only[At] using this⟩) λ_ _ _ z=>z
end jw
open PySem PySem.W PyProof.Rows
set_option maxRecDepth 100000 in
set_option maxHeartbeats 0 in
theorem PySem.Challenge.cw_slicewise_k22_cells_of_records_holds : PySem.Challenge.rw_slicewise_k22_cells_of_records.Holds := by
 w_on
 refine PySem.W.holds_law jw.Nz λNz=>?_;refine PySem.W.holds_openX (q:=jw.qE) (loose:=jw.JE) (Xt:=HE.Gv jw.qE [] []) (XP:=PySem.W.XL jw.qE []) (d:=jw.dE) (kwd:=[]) (N:=3568) jw.hd.1 (λs e=>PySem.W.xl_of s (Bool.and_eq_true_iff.mp e).1) PySem.W.XL.keeps (by kernel_rfl) (by kernel_rfl) (by kernel_rfl) (λs e=>PySem.W.recFacts_of (Bool.and_eq_true_iff.mp e).2) (by kernel_rfl) Nz (by kernel_rfl) ⟨rfl,rfl,rfl,rfl,rfl,by decide +kernel⟩ ?hw ?hc
 (case hw=>w_witness2)
 exact HE.B5 (jw.walk (l:=PySem.Challenge.rw_slicewise_k22_cells_of_records) (K:=jw.KE) rfl rfl (λw mg fa h KX G Pw=>jw.NA KX G Pw (jw.hd.2 w)))
