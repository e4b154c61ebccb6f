import PyProof.Rows.All
import Wide.All
import OpenK.AllK
import Wide.FinOn
import Lean
import PyProof.EqAt
import PyProof.EqKinds
import PyProof.TupleCall
import PyProof.NeKinds
import PyProof.Rows.SumAny
import PyProof.StrBlockL
import PyProof.StrBlockI
import PyProof.FitsReplace
import PyProof.Rows.SeqMore
import PyProof.Rows.TupAdd
import PyProof.Draws
import PyProof.ZipIter
import OpenK.ZGo
import PyProof.Rows.SetFrom
import PyProof.SetRoads
import PyProof.ListNew
import PyProof.Rows.SortStr
import PyProof.Rows.SortWalk
import PyProof.IsRules
import KE.KDictLaws
import PyProof.DictWalks
import PyProof.WalkInts
import PyProof.SeqRoads2
import PySem.Challenge.RW_slicewise_k19_whole_programs_judged
set_option Elab.async false
set_option linter.all false
set_option maxRecDepth 100000
set_option maxHeartbeats 8000000
abbrev gk (x:PySem.Str):Prop:=(x == ("__debug__":PySem.Str))=false
abbrev vR (x:PySem.Str):Prop:=(x == ("__classdict__":PySem.Str))=false
abbrev dH:=@PySem.Heap.get?_push_of_some
abbrev e_:=@List.getElem?_eq_some_iff
abbrev cV:=@List.length_map
abbrev gq:=@List.mem_cons_self
abbrev i_:=@List.mem_cons_of_mem
abbrev gU:=@PySem.W.mg_none_of
abbrev cZ:=@Nat.le_refl
abbrev dZ:=@PySem.Heap.lt_size
abbrev gT:=@Bool.and_eq_true
abbrev fg:=@List.mem_cons
abbrev ir:=@List.size_toArray
abbrev k8:=@List.mem_append_right
abbrev gC:=@PySem.boot_len
abbrev mV:=@List.mem_of_getElem?
abbrev mX:=@List.mem_append_left
abbrev lh:=@Bool.false_ne_true
abbrev ko:=@List.not_mem_nil
abbrev iZ:=@List.map_cons
abbrev lj:=@List.getElem?_map
abbrev sR:=@List.getElem?_eq_getElem
abbrev ux:=@List.getElem?_append_left
abbrev iu:=@Nat.ne_of_lt
abbrev je:=@PySem.W.mg_of
abbrev pb:=@List.filterMap_cons
abbrev pd:=@PySem.Heap.get?_push_size
abbrev pe:=@Nat.lt_of_lt_of_le
abbrev pP:=@List.length_append
abbrev mY:=@List.mem_append
abbrev vY:=@List.getElem?_set_ne
abbrev C4:=@List.getElem?_append_right
abbrev rP:=@List.nodup_cons
abbrev oq:=@Nat.le_trans
abbrev pf:=@Bool.true_and
abbrev Ao:=@List.getElem?_set_self
abbrev vZ:=@List.mem_singleton
abbrev yd:=@PySem.F.called_set
abbrev ph:=@Nat.zero_le
abbrev Dj:=@List.getElem?_replicate
abbrev vS:=@Bool.false_and
abbrev C5:=@List.replicate_succ
abbrev Dk:=@List.length_dropLast
abbrev yg:=@PySem.Heap.size_push
abbrev C6:=@List.all_eq_true
abbrev Dl:=@Int.toNat_natCast
abbrev C7:=@List.map_append
abbrev Kg:=@PySem.Heap.get?_update_other
abbrev Dm:=@List.append_nil
abbrev Dn:=@PySem.PassesOwn.never
abbrev Bp:=@List.mem_map
abbrev Dp:=@List.mem_range
abbrev Kh:=@PySem.mem_of_lookup
abbrev Lv:=@PySem.Heap.get?_update_self
abbrev Lw:=@List.length_singleton
abbrev Lx:=@List.mem_iff_getElem?
abbrev C8:=@Nat.ne_of_gt
abbrev GR:=@Nat.lt_succ_self
abbrev GS:=@List.lookup_cons
abbrev GU:=@List.length_cons
abbrev OK:=@PySem.F.slot_list_append
abbrev OL:=@PySem.F.type_list_append
abbrev Dq:=@Nat.lt_irrefl
abbrev Ly:=@List.dropLast_concat
abbrev OM:=@List.length_eq_zero_iff
abbrev Ki:=@Nat.lt_succ_of_lt
abbrev GW:=@List.mem_filter
abbrev GX:=@Bool.eq_iff_iff
abbrev Lz:=@Array.length_toList
abbrev Kj:=@Option.bind_some
abbrev ON:=@List.length_replicate
abbrev GY:=@List.nodup_nil
abbrev LA:=@PySem.Obj.data_mapFields
abbrev Po:=@List.mem_or_eq_of_mem_set
abbrev Kk:=@List.length_set
abbrev Kl:=@PySem.W.kia_one
abbrev LB:=@List.flatten_cons
abbrev Pp:=@Option.map_eq_some_iff
abbrev Td:=@PyProof.Rows.callWith_type1
abbrev GZ:=@List.map_nil
abbrev OQ:=@List.set_cons_succ
abbrev Uz:=@PyProof.Rows.F.plain_set_update_loop
abbrev Pq:=@PySem.Obj.isFreed_of_fields
abbrev Pr:=@PySem.F.slot_dict_get
abbrev LC:=@Int.emod_nonneg
abbrev Km:=@List.all_cons
abbrev Te:=@PySem.F.slot_tuple_iterator_next
abbrev OR:=@List.length_range
abbrev Pt:=@PySem.Heap.get?_none_of_le
abbrev Tf:=@List.drop_eq_getElem_cons
abbrev Pu:=@PySem.F.excBase_ValueError
abbrev Tg:=@List.getLast?_eq_getElem?
abbrev OS:=@List.length_take
abbrev Pw:=@List.filter_eq_self
abbrev UA:=@PyProof.Rows.slot_tuple_getitem
abbrev Th:=@PySem.F.plainAttrs_list
abbrev Ti:=@PySem.F.plainAttrs_dict
abbrev Tj:=@Int.eq_ofNat_of_zero_le
abbrev Px:=@PySem.W.callWith_K
abbrev OT:=@List.find?_cons
abbrev Py:=@Int.emod_lt_of_pos
abbrev Tn:=@PySem.Calls.callWith_builtin
abbrev OU:=@Bool.and_false
abbrev LD:=@List.all_map
abbrev To:=@Bool.beq_eq_decide_eq
abbrev Tp:=@List.eq_nil_or_concat
abbrev XT:=@List.concat_eq_append
abbrev Pz:=@List.drop_length
abbrev OW:=@PySem.Paired.length
abbrev OX:=@List.any_cons
abbrev UB:=@Array.getElem?_eq_some_iff
abbrev LF:=@Nat.le_succ
abbrev Tq:=@List.map_congr_left
abbrev PB:=@Option.map_some
abbrev PC:=@List.length_nil
abbrev UC:=@Option.isSome_iff_exists
abbrev UD:=@PySem.F.args_tuple_add_2
abbrev OY:=@PySem.Txt.slice_le
abbrev Tr:=@List.set_cons_zero
abbrev Ts:=@PySem.Code.quiet_builtin
abbrev OZ:=@Int.zero_add
abbrev UE:=@PySem.F.entry_tuple_add
abbrev UG:=@List.filter_cons_of_pos
abbrev UH:=@List.filter_cons_of_neg
abbrev UI:=@PySem.F.args_dict_get_2
abbrev UJ:=@PySem.F.slot_tuple_add
abbrev UK:=@PySem.F.entry_dict_get
abbrev Tt:=@List.length_drop
abbrev Tu:=@List.getElem_mem
abbrev Tv:=@List.cons_append
namespace L2
open PySem PySem.Spec PyProof.Rows
abbrev Key:=Sum Int Str
def sS:Key→Value→Bool
 | .inl k,v=>Value.isInt k v
 | .inr x,v=>Value.isStrOf x v
def UL (w:World):Key→Int
 | .inl k=>hashInt k
 | .inr x=>hashStr w x
theorem bU:∀ {k:Key} {v:Value},sS k v=true→(∃ i t,k=Sum.inl i∧v=Value.int i t)∨(∃ x t,k=Sum.inr x∧v=Value.str x t)
 | .inl i,v,h=>by
   obtain ⟨t,e⟩:=Value.isInt_shape (k:=i) (v:=v) h
   exact .inl ⟨i,t,rfl,e⟩
 | .inr x,v,h=>by
   obtain ⟨t,e⟩:=Value.isStrOf_shape (x:=x) (v:=v) h
   exact .inr ⟨x,t,rfl,e⟩
theorem Bq (i:Int) (t:Tok):sS (.inl i) (.int i t)=true:=by simp [sS,Value.isInt]
theorem Br (x:Str) (t:Tok):sS (.inr x) (.str x t)=true:=by simp [sS,Value.isStrOf]
theorem LG (a b:Int):decide ((Sum.inl a:Key)=Sum.inl b)=(a == b):=by
 by_cases e:a=b
 · subst e; simp
 · have h:¬ (Sum.inl a:Key)=Sum.inl b:=fun q=>e (Sum.inl.inj q)
   rw [decide_eq_false h]
   exact (beq_eq_false_iff_ne.mpr e).symm
theorem LH (a b:Str):decide ((Sum.inr a:Key)=Sum.inr b)=decide (a=b):=by
 by_cases e:a=b
 · subst e; simp
 · have h:¬ (Sum.inr a:Key)=Sum.inr b:=fun q=>e (Sum.inr.inj q)
   rw [decide_eq_false h,decide_eq_false e]
theorem LI (a:Int) (b:Str):decide ((Sum.inl a:Key)=Sum.inr b)=false:=decide_eq_false (fun q=>nomatch q)
theorem LJ (a:Str) (b:Int):decide ((Sum.inr a:Key)=Sum.inl b)=false:=decide_eq_false (fun q=>nomatch q)
def bq (prog:Program) (w:World):PySem.KeyKind prog w Key where
 is:=sS
 hash:=UL w
 inj:=fun v a b ha hb=>by
  rcases bU ha with ⟨i,t,rfl,rfl⟩ | ⟨x,t,rfl,rfl⟩
  · rcases bU hb with ⟨j,u,rfl,e⟩ | ⟨y,u,rfl,e⟩
    · injection e with e1 _; rw [e1]
    · exact nomatch e
  · rcases bU hb with ⟨j,u,rfl,e⟩ | ⟨y,u,rfl,e⟩
    · exact nomatch e
    · injection e with e1 _; rw [e1]
 byValue:=fun k v h=>by
  rcases bU h with ⟨i,t,rfl,rfl⟩ | ⟨x,t,rfl,rfl⟩ <;> rfl
 pyHash:=fun hv h=>by
  rcases bU hv with ⟨i,t,rfl,rfl⟩ | ⟨x,t,rfl,rfl⟩
  · exact wpAny_pyHash_int h
  · exact wpAny_pyHash_str h
 eqBool:=fun hu hv h=>by
  rcases bU hu with ⟨i,t,rfl,rfl⟩ | ⟨x,t,rfl,rfl⟩
  · rcases bU hv with ⟨j,u,rfl,rfl⟩ | ⟨y,u,rfl,rfl⟩
    · rw [LG] at h; exact wpAny_eqBool_int h
    · rw [LI] at h; exact SeqAt.EqAt.int_str i t y u _ _ _ _ h
  · rcases bU hv with ⟨j,u,rfl,rfl⟩ | ⟨y,u,rfl,rfl⟩
    · rw [LJ] at h; exact SeqAt.EqAt.str_int x t j u _ _ _ _ h
    · rw [LH] at h; exact wpAny_eqBool_str h
 «strs»:=fun k x t v h=>by
  rcases bU h with ⟨i,u,rfl,e⟩ | ⟨y,u,rfl,e⟩
  · exact nomatch e
  · injection e with e1 _
    subst e1
    cases v <;> rfl
theorem v3 (prog:Program) (w:World) (i:Int) (t:Tok):(bq prog w).is (.inl i) (.int i t)=true:=Bq i t
theorem v5 (prog:Program) (w:World) (x:Str) (t:Tok):(bq prog w).is (.inr x) (.str x t)=true:=Br x t
inductive V where
 | bb | bl (b:Bool) | int (i:Int) | str (x:Str) | XU (b:Array UInt8) | XW (b:UInt64) | ref (a:Addr) | ty (n:String)
 deriving DecidableEq
def RelV:V→Value→Prop
 | .bb,u=>u=Value.none
 | .bl b,u=>u=Value.bool b
 | .int i,u=>∃ t,u=Value.int i t
 | .str x,u=>∃ t,u=Value.str x t
 | .XU b,u=>∃ t,u=Value.bytes b t
 | .XW b,u=>∃ t,u=Value.float b t
 | .ref a,u=>u=Value.ref a
 | .ty n,u=>u=Value.type n
abbrev Vals:List V→List Value→Prop:=Paired RelV
theorem Vals.length {xs:List V} {us:List Value} (r:Vals xs us):xs.length=us.length:=OW r
theorem Vals.get:∀ {xs:List V} {us:List Value} {i:Nat} {x:V},Vals xs us→xs[i]?=some x→∃ u,us[i]?=some u∧RelV x u
 | _,_,_,_,.nil,e=>by simp at e
 | _,_,0,_,.cons r _,e=>by simp at e; subst e; exact ⟨_,rfl,r⟩
 | _,_,i+1,x,.cons _ t,e=>by
   obtain ⟨u,h1,h2⟩:=Vals.get (i:=i) (x:=x) t (by simpa using e)
   exact ⟨u,by simpa using h1,h2⟩
theorem Vals.set {x:V} {u:Value} (r:RelV x u):∀ {xs:List V} {us:List Value} (i:Nat),Vals xs us→Vals (xs.set i x) (us.set i u)
 | _,_,_,.nil=>.nil
 | _,_,0,.cons _ t=>.cons r t
 | _,_,i+1,.cons q t=>.cons q (Vals.set r i t)
theorem Vals.append:∀ {xs ys:List V} {us ws:List Value},Vals xs us→Vals ys ws→Vals (xs ++ ys) (us ++ ws)
 | _,_,_,_,.nil,s=>s
 | _,_,_,_,.cons r t,s=>.cons r (Vals.append t s)
theorem Vals.take:∀ {xs:List V} {us:List Value} (n:Nat),Vals xs us→Vals (xs.take n) (us.take n)
 | _,_,0,_=>.nil
 | _,_,_+1,.nil=>.nil
 | _,_,n+1,.cons r t=>.cons r (Vals.take n t)
theorem Vals.drop:∀ {xs:List V} {us:List Value} (n:Nat),Vals xs us→Vals (xs.drop n) (us.drop n)
 | _,_,0,r=>r
 | _,_,_+1,.nil=>.nil
 | _,_,n+1,.cons _ t=>Vals.drop n t
def kC:Option V→Option Value→Prop
 | some v,some u=>RelV v u
 | none,none=>True
 | _,_=>False
def KV {κ:Type}:List (κ×V)→List (κ×Value)→Prop:=Paired fun (p:κ×V) (q:κ×Value)=>p.1=q.1∧RelV p.2 q.2
def kV:Key→V
 | .inl i=>.int i
 | .inr x=>.str x
inductive HO where
 | lst (xs:List V)
 | tup (xs:List V)
 | dK (aV:List (Key×V)) | dT (aV:List (List Key×V))
 | set (S:Int→Bool) (n:Nat)
 | ins (C dx:Addr) (fs:List (Str×V))
 | own (x:Addr)
 | xd (fs:List (Str×V))
 | met (f x:Addr)
 | Tw (lo hi:Int)
 | vT (o:Obj) (u:HO)
 | Kn (ps:Array Value)
 | ext (φ:Heap→Prop)
abbrev Hp:=Addr→Option HO
def upd (H:Hp) (a:Addr) (o:HO):Hp:=fun b=>if b=a then some o else H b
theorem aQ {H:Hp} {a:Addr} {o:HO}:upd H a o a=some o:=by unfold upd; rw [if_pos rfl]
theorem aK {H:Hp} {a b:Addr} {o:HO} (h:b≠a):upd H a o b=H b:=by unfold upd; rw [if_neg h]
theorem G0 {H:Hp} {a:Addr} {o u:HO}:upd (upd H a o) a u=upd H a u:=by
 funext b; unfold upd; split <;> rfl
theorem Ko {H:Hp} {a b:Addr} {o u:HO} (h:H a=some o) (h':H b=some u) (d:o≠u):a≠b:=by
 intro e; subst e; rw [h] at h'; exact d (Option.some.inj h')
theorem aX {H:Hp} {a b:Addr} {o:HO} (h:H a=some o) (h':H b=none):a≠b:=by
 intro e; subst e; rw [h] at h'; cases h'
section
variable (P:Program) (w:World)
def bQ (H:Hp) (h:Heap) (a:Addr):HO→Prop
 | .lst xs=>xs.length≤sizeLine∧∃ (aP:List Value) (n:Nat),Vals xs aP∧h.get? a=some { cls:=.type "list",data:=.seq aP.toArray n }
 | .tup xs=>xs.length≤sizeLine∧∃ aP:List Value,Vals xs aP∧IsTup h a aP.toArray
 | .dK aV=>aV.length≤sizeLine∧(a == sysModules)=false∧∃ vs,KV aV vs∧h.DictOf (bq P w) a vs
 | .dT aV=>aV.length≤sizeLine∧(a == sysModules)=false∧∃ xs:List (List Key×Addr×Value),
    Paired (fun (p:List Key×V) (q:List Key×Addr×Value)=>p.1=q.1∧H q.2.1=some (.tup (p.1.map kV))∧RelV p.2 q.2.2) aV xs ∧
    ∃ o es ep,h.get? a=some o∧o.ExactDict∧o.data = .dict es ep∧es.toList=xs.map (entryOfKey (tupleKind (bq P w)))∧(xs.map (·.1)).Nodup
 | .set S n=>h.SetOf (intKind P w) a S n
 | .ins C dx fs=>H dx=some (.own a)∧fs.length≤1000∧dx≠a∧h.get? a=some (PySem.W.instObj C dx) ∧
    ∃ mA,h.Ns1 dx mA∧(∀ f,kC (fs.lookup f) (mA f))∧PySem.Within mA (fs.map (·.1))
 | .own _=>∃ o,h.get? a=some o
 | .xd fs=>∃ mA,h.Ns1 a mA∧∀ f,kC (fs.lookup f) (mA f)
 | .Tw lo hi=>∃ t u v,h.get? a=some { cls:=.type "range",data:=.fields #[.int lo t,.int hi u,.int 1 v] }
 | .vT o u=>h.get? a=some o∧bQ H h a u
 | .Kn ps=>h.get? a=some { cls:=.none,data:=.fields ps }
 | .met f x=>h.get? a=some (PySem.W.methodObj (.ref f) (.ref x))
 | .ext φ=>φ h∧(∃ o,h.get? a=some o)∧∀ h1 h2:Heap,φ h1→(∀ o,h1.get? a=some o→h2.get? a=some o)→φ h2
def ki (H:Hp) (h:Heap):Prop:=∀ a o,H a=some o→bQ P w H h a o
end
section
variable {P:Program} {w:World} {H H':Hp} {h h':Heap} {a:Addr} {o:HO}
theorem bQ.lt (x:bQ P w H h a o):a < h.objs.size:=by
 cases o with
 | lst xs=>obtain ⟨_,_,_,_,e⟩:=x; exact dZ e
 | tup xs=>obtain ⟨_,_,_,p⟩:=x; exact p.lt
 | dK aV=>obtain ⟨_,_,_,_,o,_,_,e,_⟩:=x; exact dZ e
 | dT aV=>obtain ⟨_,_,_,_,o,_,_,e,_⟩:=x; exact dZ e
 | set S n=>obtain ⟨o,_,_,_,e,_⟩:=x; exact dZ e
 | ins C dx fs=>obtain ⟨_,_,_,e,_⟩:=x; exact dZ e
 | own y=>obtain ⟨_,e⟩:=x; exact dZ e
 | xd fs=>obtain ⟨_,⟨_,_,_,e,_⟩,_⟩:=x; exact dZ e
 | Tw lo hi=>obtain ⟨_,_,_,e⟩:=x; exact dZ e
 | vT ob u=>obtain ⟨e,_⟩:=x; exact dZ e
 | Kn ps=>exact dZ (show h.get? a=some _ from x)
 | met f y=>exact dZ (show h.get? a=some _ from x)
 | ext φ=>obtain ⟨_,⟨_,e⟩,_⟩:=x; exact dZ e
theorem Paired.mZ {α β:Type} {F G:α→β→Prop}:∀ {l₁:List α} {l₂:List β},Paired F l₁ l₂→(∀ a b,F a b→G a b)→Paired G l₁ l₂
 | _,_,.nil,_=>.nil
 | _,_,.cons r t,f=>.cons (f _ _ r) (Paired.mZ t f)
theorem bQ.oQ (x:bQ P w H h a o) (k:∀ b u,(b=a∨H b=some (.own a))→h.get? b=some u→h'.get? b=some u)
  (ho:∀ b,H b=some (.own a)→H' b=some (.own a)) (ht:∀ b xs,H b=some (.tup xs)→H' b=some (.tup xs)):bQ P w H' h' a o:=by
 induction o with
 | lst xs=>obtain ⟨z,aP,n,r,e⟩:=x; exact ⟨z,aP,n,r,k _ _ (.inl rfl) e⟩
 | tup xs=>obtain ⟨z,aP,r,ob,e,c⟩:=x; exact ⟨z,aP,r,ob,k _ _ (.inl rfl) e,c⟩
 | dK aV=>obtain ⟨z,y,vs,r,ob,es,ep,e,c⟩:=x; exact ⟨z,y,vs,r,ob,es,ep,k _ _ (.inl rfl) e,c⟩
 | dT aV =>
   obtain ⟨z,y,xs,r,ob,es,ep,e,c⟩:=x
   exact ⟨z,y,xs,Paired.mZ r fun p q z=>⟨z.1,ht _ _ z.2.1,z.2.2⟩,ob,es,ep,k _ _ (.inl rfl) e,c⟩
 | set S n=>obtain ⟨ob,es,ep,t,e,c⟩:=x; exact ⟨ob,es,ep,t,k _ _ (.inl rfl) e,c⟩
 | ins C dx fs =>
   obtain ⟨d,z,ne,e,mA,⟨od,es,ep,e2,c⟩,r⟩:=x
   exact ⟨ho _ d,z,ne,k _ _ (.inl rfl) e,mA,⟨od,es,ep,k _ _ (.inr d) e2,c⟩,r⟩
 | own y=>obtain ⟨ob,e⟩:=x; exact ⟨ob,k _ _ (.inl rfl) e⟩
 | xd fs=>obtain ⟨mA,⟨od,es,ep,e,c⟩,r⟩:=x; exact ⟨mA,⟨od,es,ep,k _ _ (.inl rfl) e,c⟩,r⟩
 | Tw lo hi=>obtain ⟨t,u,v,e⟩:=x; exact ⟨t,u,v,k _ _ (.inl rfl) e⟩
 | vT ob u ih=>obtain ⟨e,q⟩:=x; exact ⟨k _ _ (.inl rfl) e,ih q⟩
 | Kn ps =>
   have e:h.get? a=some { cls:=.none,data:=.fields ps }:=x
   show h'.get? a=some { cls:=.none,data:=.fields ps }
   exact k a _ (.inl rfl) e
 | met f y =>
   have e:h.get? a=some (PySem.W.methodObj (.ref f) (.ref y)):=x
   show h'.get? a=some (PySem.W.methodObj (.ref f) (.ref y))
   exact k a _ (.inl rfl) e
 | ext φ=>obtain ⟨p,⟨o,e⟩,st⟩:=x; exact ⟨st _ _ p fun o q=>k _ _ (.inl rfl) q,⟨o,k _ _ (.inl rfl) e⟩,st⟩
theorem ki.lt (x:ki P w H h) (e:H a=some o):a < h.objs.size:=(x a o e).lt
theorem ki.fresh (x:ki P w H h) (e:h.objs.size≤a):H a=none:=by
 cases q:H a with
 | none=>rfl
 | some u=>exact absurd (pe (x.lt q) e) (Dq _)
theorem ki.kept (x:ki P w H h) (k:∀ b u,h.get? b=some u→h'.get? b=some u):ki P w H h':=fun a o e =>
 (x a o e).oQ (fun b u _ q=>k b u q) (fun _ q=>q) fun _ _ q=>q
theorem ki.laid (x:ki P w H h) (k:∀ b u,h.get? b=some u→h'.get? b=some u) (hp:h.objs.size≤a) (new:bQ P w (upd H a o) h' a o):ki P w (upd H a o) h':=fun b u e=>by
 have hn:=x.fresh hp
 by_cases hb:b=a
 · subst hb; rw [aQ] at e; cases e; exact new
 · rw [aK hb] at e
   exact (x b u e).oQ (fun c v _ q=>k c v q) (fun c q=>by rw [aK (aX q hn)]; exact q) fun c xs q=>by rw [aK (aX q hn)]; exact q
end
def Rd (H:Hp) (a:Addr) (u:HO):Prop:=H a=some u∨∃ o,H a=some (.vT o u)
theorem Rd.of {H:Hp} {a:Addr} {u:HO} (h:H a=some u):Rd H a u:=.inl h
theorem Rd.ok {P:Program} {w:World} {H:Hp} {h:Heap} {a:Addr} {u:HO} (r:Rd H a u) (x:ki P w H h):bQ P w H h a u:=by
 rcases r with r | ⟨o,r⟩
 · exact x a u r
 · obtain ⟨_,q⟩:=x a _ r
   exact q
def PD:Option HO→Prop
 | some (.lst _)=>True
 | some (.dK _)=>True
 | some (.dT _)=>True
 | some (.set _ _)=>True
 | some (.ins _ _ _)=>True
 | some (.ext _)=>True
 | _=>False
section
variable {P:Program} {w:World} {H:Hp} {h h':Heap} {x e:Addr} {o':HO}
theorem ki.write (ok:ki P w H h) (mu:PD (H x)) (he:e=x∨H e=some (.own x)) (k:∀ b u,b≠e→h.get? b=some u→h'.get? b=some u) (Kq:∃ u,h'.get? e=some u)
  (new:bQ P w (upd H x o') h' x o'):ki P w (upd H x o') h':=fun b u q=>by
 have PF:∀ c y,H c=some (.own y)→c≠x:=fun c y r z=>by subst z; rw [r] at mu; exact mu
 have UM:∀ c xs,H c=some (.tup xs)→c≠x:=fun c xs r z=>by subst z; rw [r] at mu; exact mu
 by_cases hb:b=x
 · subst hb; rw [aQ] at q; cases q; exact new
 · rw [aK hb] at q
   by_cases Gz:b=e
   · have q':H b=some (.own x):=by
      rcases he with z | z
      · exact absurd (Gz.trans z) hb
      · rw [Gz]; exact z
     rw [q] at q'; cases q'
     obtain ⟨v,hv⟩:=Kq
     exact ⟨v,by rw [Gz]; exact hv⟩
   · refine (ok b u q).oQ (fun c v hc r=>k c v ?_ r) (fun c r=>by rw [aK (PF c b r)]; exact r) fun c xs r=>by rw [aK (UM c xs r)]; exact r
     rcases hc with rfl | hc
     · exact Gz
     · rintro rfl
       rcases he with z | z
       · exact PF c b hc z
       · rw [hc] at z; cases z; exact hb rfl
end
structure Un (fs ex:List Addr) (H H':Hp) (h h':Heap):Prop where
 keep:∀ b o,h.get? b=some o→H b=none→b∉fs→b∉ex→h'.get? b=some o
 slot:∀ b o,h.get? b=some o→H b=none→b∈fs→b∉ex→∃ sl,h'.get? b=some { o with slots:=sl }
 free:∀ b o,h.get? b=some o→H b=none→b∉ex→H' b=none
 there:∀ b o,h.get? b=some o→b∉ex→∃ o',h'.get? b=some o'
 ja:∀ b xs,H b=some (.tup xs)→H' b=some (.tup xs)
 iw:∀ b o u,H b=some (.vT o u)→H' b=some (.vT o u)
 jb:∀ b ps,H b=some (.Kn ps)→∃ more,H' b=some (.Kn (ps ++ more))
section
variable {fs PH ex PJ:List Addr} {H H1 H2:Hp} {h h1 h2 h':Heap} {a x e:Addr} {o:HO}
theorem Un.any (u:Un fs ex H H1 h h1) {b:Addr} {ob:Obj} (q:h.get? b=some ob) (n:H b=none) (hx:b∉ex):∃ sl,h1.get? b=some { ob with slots:=sl }:=by
 by_cases hb:b∈fs
 · exact u.slot b ob q n hb hx
 · exact ⟨ob.slots,u.keep b ob q n hb hx⟩
theorem Un.trans (a:Un fs ex H H1 h h1) (b:Un fs ex H1 H2 h1 h2):Un fs ex H H2 h h2 where
 keep:=fun c ob q n hc hx=>b.keep c ob (a.keep c ob q n hc hx) (a.free c ob q n hx) hc hx
 slot:=fun c ob q n hc hx=>by
  obtain ⟨sl,e1⟩:=a.slot c ob q n hc hx
  obtain ⟨UN,e2⟩:=b.slot c _ e1 (a.free c ob q n hx) hc hx
  exact ⟨UN,e2⟩
 free:=fun c ob q n hx=>by
  obtain ⟨o',e1⟩:=a.there c ob q hx
  exact b.free c o' e1 (a.free c ob q n hx) hx
 there:=fun c ob q hx=>by
  obtain ⟨o',e1⟩:=a.there c ob q hx
  exact b.there c o' e1 hx
 ja:=fun c xs q=>b.ja c xs (a.ja c xs q)
 iw:=fun c ob xs q=>b.iw c ob xs (a.iw c ob xs q)
 jb:=fun c ps q=>by
  obtain ⟨m1,e1⟩:=a.jb c ps q
  obtain ⟨m2,e2⟩:=b.jb c _ e1
  exact ⟨m1 ++ m2,by rw [e2,Array.append_assoc]⟩
theorem Un.kept (k:∀ b u,h.get? b=some u→h'.get? b=some u):Un fs ex H H h h' :=
 ⟨fun b ob q _ _ _=>k b ob q,fun b ob q _ _ _=>⟨ob.slots,k b ob q⟩,fun _ _ _ n _=>n,fun b ob q _=>⟨ob,k b ob q⟩,fun _ _ q=>q,fun _ _ _ q=>q,fun _ ps q=>⟨#[],by rw [q]; simp⟩⟩
theorem Un.refl:Un fs ex H H h h:=Un.kept fun _ _ q=>q
theorem Un.laid (k:∀ b u,h.get? b=some u→h'.get? b=some u) (hp:h.objs.size≤a) (hn:H a=none):Un fs ex H (upd H a o) h h' where
 keep:=fun b u q _ _ _=>k b u q
 slot:=fun b u q _ _ _=>⟨u.slots,k b u q⟩
 free:=fun b u q n _=>by rw [aK (iu (pe (dZ q) hp))]; exact n
 there:=fun b u q _=>⟨u,k b u q⟩
 ja:=fun b xs q=>by rw [aK (aX q hn)]; exact q
 iw:=fun b u xs q=>by rw [aK (aX q hn)]; exact q
 jb:=fun b ps q=>⟨#[],by rw [aK (aX q hn),q]; simp⟩
theorem Un.write (mu:PD (H x)) (he:e=x∨H e=some (.own x)) (k:∀ b u,b≠e→h.get? b=some u→h'.get? b=some u) (Kq:∃ u,h'.get? e=some u):Un fs ex H (upd H x o) h h':=by
 have hx:∀ b,H b=none→b≠x:=fun b n z=>by subst z; rw [n] at mu; exact mu
 have hb:∀ b,H b=none→b≠e:=fun b n z=>by
  subst z
  rcases he with r | r
  · exact hx b n r
  · rw [n] at r; cases r
 have hm:∀ b u,H b=some u→¬ PD (some u)→b≠x:=fun b u q nm z=>by subst z; rw [q] at mu; exact nm mu
 refine ⟨fun b u q n _ _=>k b u (hb b n) q,fun b u q n _ _=>⟨u.slots,k b u (hb b n) q⟩,fun b u q n _=>by rw [aK (hx b n)]; exact n,fun b u q _=>?_,
  fun b xs q=>by rw [aK (hm b _ q fun z=>z)]; exact q,fun b u xs q=>by rw [aK (hm b _ q fun z=>z)]; exact q,fun b ps q=>⟨#[],by rw [aK (hm b _ q fun z=>z),q]; simp⟩⟩
 by_cases Gz:b=e
 · subst Gz; exact Kq
 · exact ⟨u,k b u Gz q⟩
theorem Un.mono (u:Un fs ex H H1 h h1) (hs:∀ b∈fs,b∈PH) (hx:∀ b∈ex,b∈PJ):Un PH PJ H H1 h h1 :=
 ⟨fun b ob q n hb he=>u.keep b ob q n (fun z=>hb (hs b z)) fun z=>he (hx b z),fun _ _ q n _ he=>u.any q n fun z=>he (hx _ z),fun b ob q n he=>u.free b ob q n fun z=>he (hx b z),fun b ob q he=>u.there b ob q fun z=>he (hx b z),u.ja,u.iw,u.jb⟩
end
def Tx (h:Heap) (H:Hp):List Addr:=(List.range h.objs.size).filter fun a=>(H a).isSome
def uy (h:Heap) (H:Hp):Heap:=PySem.W.hideAll h (Tx h H)
theorem Bs (h:Heap) (H:Hp):(uy h H).objs.size=h.objs.size:=PySem.W.hideAll_size _ _
theorem Dr {h:Heap} {H:Hp} {b:Addr} {o:Obj} (e:h.get? b=some o) (n:H b=none):(uy h H).get? b=some o :=
 PySem.W.hideAll_get _ e fun hm=>by
  have q:(H b).isSome=true:=(GW.mp hm).2
  rw [n] at q; simp at q
theorem G1 {h:Heap} {H:Hp} {b:Addr} {o:Obj} (e:(uy h H).get? b=some o):h.get? b=some o∧H b=none:=by
 have e':h.get? b=some o:=PySem.W.of_hideAll (Tx h H) e
 refine ⟨e',?_⟩
 cases q:H b with
 | none=>rfl
 | some x =>
   have hm:b∈Tx h H:=GW.mpr ⟨Dp.mpr (dZ e'),by simp [q]⟩
   have z:(uy h H).get? b=none:=PySem.W.hideAll_none (Tx h H) hm
   rw [z] at e; cases e
def G2 (g h:Heap) (L:Addr):List (Addr×Obj):=(List.range h.objs.size).filterMap fun a=>if a=L∨(g.get? a).isSome=true then none else (h.get? a).map fun o=>(a,o)
def rest (g h:Heap) (L d:Addr):List (Addr×Obj):=(G2 g h L).filter fun p=>decide (p.1≠d)
structure Mod (K:PySem.W.Frag) (mg:Str→Option Value) (base:Heap):Prop where
 LK:K.In base
 glob:base.Ns mainGlobals mg
 blt:∃ mb,base.Ns builtinsNs mb∧∀ x:Str,x≠"__name__"→mb x=bootBuiltins x
 nolimit:base.NoLimit
structure Cx where
 prog:Program
 w:World
 K:PySem.W.Frag
 mg:Str→Option Value
 base:Heap
 A:Around
 N:List Str
 s₀:Shared
 H₀:Hp
 env:Env
 outer:List Env
 stack:List Env
 ex:List Addr
 fn:Str→Bool
 calm:Bool
 pn:List (Addr×Obj)
 xe:Value→Shared→Prop
def ll (l:List Env):List Addr:=l.filterMap (·.frame)
abbrev Cx.fs (X:Cx):List Addr:=ll X.outer
def rQ (sc:Scope) (x:Str):Prop:=sc.names.lookup x=some .local∨sc.names.lookup x=some .cell∨sc.names.lookup x=some .free
def Loc (sc:Scope) (x:Str):Prop:=sc.names.lookup x=some .local∨sc.names.lookup x=some .cell
def Look (env:Env) (h:Heap) (m:Str→Option Value) (x:Str) (u:Value):Prop :=
 (env.kindOf x=some .local∧m x=some u)∨((env.kindOf x=some .cell∨env.kindOf x=some .free)∧∃ c,env.cells.lookup x=some c∧h.IsCell c (some u))
structure Cx.Ok (X:Cx):Prop where
 mod:Mod X.K X.mg X.base
 kind:X.env.scope.kind = .function
 glob:X.env.globals=mainGlobals
 blt:X.env.builtins=builtinsNs
 above:X.s₀.heap.objs.size≤X.env.locals
 inj:∀ x y c,X.env.cells.lookup x=some c→X.env.cells.lookup y=some c→x=y
 has:∀ x,(X.env.kindOf x=some .cell∨X.env.kindOf x=some .free)→∃ c,X.env.cells.lookup x=some c
 O0:∀ x c,X.fn x=true→X.env.cells.lookup x=some c→X.s₀.heap.objs.size≤c
 hd:X.calm=true→X.A.handled=none
 frames:X.A.frames=some X.stack
 PK:X.stack=X.outer∨(X.stack=X.env :: X.outer∧X.env.frame=some X.env.locals)
 UO:∀ b∈X.ex,b≠X.env.locals∧∀ x c,X.env.cells.lookup x=some c→c≠b
 bs:∀ b o,X.base.get? b=some o→X.s₀.heap.get? b=some o∧X.H₀ b=none
 C9:X.base.objs.size≤X.s₀.heap.objs.size
 Bt:∀ b o,X.base.get? b=some o→b∉X.ex
 Ds:∀ b∈X.ex,b∉X.fs
 lp:X.s₀.heap.FunFrames X.base X.outer
 G3:∀ b∈X.fs,X.H₀ b=none
structure Inv (X:Cx) (pins:List (Addr×Obj)) (σ:List (Option V)) (H:Hp) (s:Shared):Prop where
 ok:X.Ok
 os:s.os=X.s₀.os
 bare:AllBare s.gens
 base:Un X.fs X.ex X.H₀ H X.s₀.heap s.heap
 loc:∃ m,s.heap.Ns X.env.locals m∧∀ (i:Nat) (x:Str) (v:V),X.N[i]?=some x→σ[i]?=some (some v)→rQ X.env.scope x→∃ u,RelV v u∧Look X.env s.heap m x u
 cell:∀ x c,X.env.cells.lookup x=some c→∃ v,s.heap.IsCell c v
 free:H X.env.locals=none
 fm:∀ x c,X.env.cells.lookup x=some c→H c=none
 pin:∀ p∈X.pn ++ pins,s.heap.get? p.1=some p.2∧H p.1=none∧p.1≠X.env.locals∧p.1∉X.fs∧∀ v,p.2.data≠.cell v
 bB:ki X.prog X.w H s.heap
 len:σ.length=X.N.length
section
variable {X:Cx} {pins:List (Addr×Obj)} {σ:List (Option V)} {H H':Hp} {s:Shared} {h':Heap}
theorem Cx.Ok.G4 (ok:X.Ok) {b:Addr} {o:Obj} (e:X.base.get? b=some o):b∉X.fs:=fun hb=>by
 have:=(ok.lp.mem hb).1
 rw [e] at this; cases this
theorem Inv.bs (I:Inv X pins σ H s):∀ b o,X.base.get? b=some o→s.heap.get? b=some o∧H b=none:=fun b o e =>
 ⟨I.base.keep b o (I.ok.bs b o e).1 (I.ok.bs b o e).2 (I.ok.G4 e) (I.ok.Bt b o e),I.base.free b o (I.ok.bs b o e).1 (I.ok.bs b o e).2 (I.ok.Bt b o e)⟩
theorem Inv.bk (I:Inv X pins σ H s):∀ b o,X.base.get? b=some o→s.heap.get? b=some o:=fun b o e=>(I.bs b o e).1
theorem Inv.mod (I:Inv X pins σ H s):Mod X.K X.mg X.base:=I.ok.mod
theorem Inv.kq (I:Inv X pins σ H s):X.K.In s.heap:=I.ok.mod.LK.keeps I.bk
theorem Inv.nolimit (I:Inv X pins σ H s):s.heap.NoLimit:=I.ok.mod.nolimit.keeps I.bk
theorem Inv.fr (I:Inv X pins σ H s):∃ m,Fr X.base X.env.locals s.heap m :=
 let ⟨m,hn,_⟩:=I.loc
 ⟨m,hn,I.bk,oq I.ok.C9 I.ok.above⟩
theorem Inv.lt (I:Inv X pins σ H s):X.env.locals < s.heap.objs.size:=let ⟨_,hn,_⟩:=I.loc; hn.lt
theorem Inv.sz (I:Inv X pins σ H s):X.s₀.heap.objs.size≤s.heap.objs.size:=oq I.ok.above (Nat.le_of_lt I.lt)
theorem Inv.UP (I:Inv X pins σ H s) {a:Addr} (h:s.heap.objs.size≤a):a∉X.fs:=fun hb=>by
 obtain ⟨_,o,ho,_⟩:=I.ok.lp.mem hb
 exact absurd (pe (dZ ho) (oq I.sz h)) (Dq _)
theorem Inv.Dt (I:Inv X pins σ H s):∀ x c,X.env.cells.lookup x=some c→c≠X.env.locals:=fun x c e z=>by
 obtain ⟨v,o,ho,hd⟩:=I.cell x c e
 obtain ⟨m,⟨o',es,ep,m9,Y4,_⟩,_⟩:=I.loc
 rw [z,m9] at ho; cases ho; rw [Y4] at hd; cases hd
theorem Inv.lp (I:Inv X pins σ H s):s.heap.FunFrames X.base X.outer:=by
 have all:∀ (l:List Env),(∀ b∈ll l,b∈X.fs)→X.s₀.heap.FunFrames X.base l→s.heap.FunFrames X.base l:=by
  intro l
  induction l with
  | nil=>intro _ _; trivial
  | cons env r ih =>
    intro hs hl
    obtain ⟨hk,⟨L,o,hf,hn,ho,hd⟩,hr⟩:=hl
    have hL:L∈X.fs:=hs L (by unfold ll; rw [pb,hf]; exact gq)
    obtain ⟨sl,e⟩:=I.base.slot L o ho (I.ok.G3 L hL) hL fun z=>I.ok.Ds L z hL
    exact ⟨hk,⟨L,_,hf,hn,e,hd⟩,ih (fun b hb=>hs b (by unfold ll; rw [pb,hf]; exact i_ _ hb)) hr⟩
 exact all X.outer (fun _ hb=>hb) I.ok.lp
theorem Inv.stack (I:Inv X pins σ H s):s.heap.FunFrames X.base X.stack:=by
 rcases I.ok.PK with e | ⟨e,hf⟩
 · rw [e]; exact I.lp
 · rw [e]
   obtain ⟨m,hn,_⟩:=I.loc
   refine .cons (by rw [I.ok.kind]; decide) hf hn ?_ I.lp
   exact Pt (oq I.ok.C9 I.ok.above)
theorem Inv.yh (I:Inv X pins σ H s):∀ b∈ll X.stack,b∈X.env.locals :: X.fs:=fun b hb=>by
 rcases I.ok.PK with e | ⟨e,hf⟩
 · rw [e] at hb; exact i_ _ hb
 · rw [e] at hb
   unfold ll at hb
   rw [pb,hf] at hb
   exact hb
theorem Inv.pj (I:Inv X pins σ H s):∀ b∈ll X.stack,H b=none:=fun b hb=>by
 rcases fg.mp (I.yh b hb) with e | hb
 · rw [e]; exact I.free
 · obtain ⟨_,o,ho,_⟩:=I.ok.lp.mem hb
   exact I.base.free b o ho (I.ok.G3 b hb) fun z=>I.ok.Ds b z hb
theorem Inv.step {g':Array GenState} {t':Nat} {d':Drawn} {ch:List Addr} (I:Inv X pins σ H s)
  (GA:∀ b∈ch,(b∈X.ex∨X.s₀.heap.objs.size≤b)∧b≠X.env.locals∧(∀ x c,X.env.cells.lookup x=some c→c≠b)∧∀ p∈X.pn ++ pins,p.1≠b)
  (keep:∀ b o,b≠X.env.locals→b∉X.fs→b∉ch→s.heap.get? b=some o→H b=none→h'.get? b=some o)
  (slot:∀ b o,b≠X.env.locals→b∈X.fs→b∉ch→s.heap.get? b=some o→H b=none→∃ sl,h'.get? b=some { o with slots:=sl }) (free:∀ b o,b∉ch→s.heap.get? b=some o→H b=none→H' b=none)
  (there:∀ b o,b∉ch→s.heap.get? b=some o→∃ o',h'.get? b=some o')
  (ja:∀ b xs,H b=some (.tup xs)→H' b=some (.tup xs)) (iw:∀ b o u,H b=some (.vT o u)→H' b=some (.vT o u)) (jb:∀ b ps,H b=some (.Kn ps)→∃ more,H' b=some (.Kn (ps ++ more)))
  (ns:∀ m,s.heap.Ns X.env.locals m→h'.Ns X.env.locals m) (bB:ki X.prog X.w H' h') (hg:AllBare g') :
  Inv X pins σ H' { s with heap:=h',gens:=g',drawn:=d',toks:=t' }:=by
 have XY:∀ b o,X.s₀.heap.get? b=some o→b≠X.env.locals:=fun b o e=>iu (pe (dZ e) I.ok.above)
 have Tz:∀ b o,X.s₀.heap.get? b=some o→b∉X.ex→b∉ch:=fun b o e hx hb=>by
  rcases (GA b hb).1 with z | z
  · exact hx z
  · exact absurd (pe (dZ e) z) (Dq _)
 have cellK:∀ x c,X.env.cells.lookup x=some c→∀ v,s.heap.IsCell c v→h'.IsCell c v:=fun x c e v ⟨o,ho,hd⟩=>by
  have Du:c∉ch:=fun z=>(GA c z).2.2.1 x c e rfl
  by_cases hc:c∈X.fs
  · obtain ⟨sl,q⟩:=slot c o (I.Dt x c e) hc Du ho (I.fm x c e)
    exact ⟨_,q,hd⟩
  · exact ⟨o,keep c o (I.Dt x c e) hc Du ho (I.fm x c e),hd⟩
 refine ⟨I.ok,I.os,hg,⟨fun b o e n hb hx=>?_,fun b o e n hb hx=>?_,fun b o e n hx=>?_,fun b o e hx=>?_,fun b xs e=>ja b xs (I.base.ja b xs e),fun b o xs e=>iw b o xs (I.base.iw b o xs e),fun b ps e=>?_⟩,?_,fun x c e=>?_,?_,fun x c e=>?_,fun p hp=>?_,bB,I.len⟩
 · exact keep b o (XY b o e) hb (Tz b o e hx) (I.base.keep b o e n hb hx) (I.base.free b o e n hx)
 · obtain ⟨sl,e1⟩:=I.base.slot b o e n hb hx
   obtain ⟨UN,e2⟩:=slot b _ (XY b o e) hb (Tz b o e hx) e1 (I.base.free b o e n hx)
   exact ⟨UN,e2⟩
 · obtain ⟨o',e1⟩:=I.base.there b o e hx
   exact free b o' (Tz b o e hx) e1 (I.base.free b o e n hx)
 · obtain ⟨o',e1⟩:=I.base.there b o e hx
   exact there b o' (Tz b o e hx) e1
 · obtain ⟨m1,e1⟩:=I.base.jb b ps e
   obtain ⟨m2,e2⟩:=jb b _ e1
   exact ⟨m1 ++ m2,by rw [e2,Array.append_assoc]⟩
 · obtain ⟨m,hn,hl⟩:=I.loc
   refine ⟨m,ns m hn,fun i x v e1 e2 e3=>?_⟩
   obtain ⟨u,r,l⟩:=hl i x v e1 e2 e3
   refine ⟨u,r,?_⟩
   rcases l with l | ⟨k,c,e,z⟩
   · exact .inl l
   · exact .inr ⟨k,c,e,cellK x c e _ z⟩
 · obtain ⟨v,z⟩:=I.cell x c e
   exact ⟨v,cellK x c e v z⟩
 · obtain ⟨m,⟨o,_,_,ho,_⟩,_⟩:=I.loc
   exact free _ o (fun z=>(GA _ z).2.1 rfl) ho I.free
 · obtain ⟨v,o,ho,hd⟩:=I.cell x c e
   exact free c o (fun z=>(GA c z).2.2.1 x c e rfl) ho (I.fm x c e)
 · obtain ⟨e,n,ne,nf,d⟩:=I.pin p hp
   have Du:p.1∉ch:=fun z=>(GA p.1 z).2.2.2 p hp rfl
   exact ⟨keep p.1 p.2 ne nf Du e n,free p.1 p.2 Du e n,ne,nf,d⟩
theorem Inv.un {t':Nat} (I:Inv X pins σ H s) (u:Un X.fs [] H H' s.heap h') (bB:ki X.prog X.w H' h'):Inv X pins σ H' { s with heap:=h',toks:=t' }:=by
 obtain ⟨m,⟨o,es,ep,ho,r⟩,_⟩:=id I.loc
 obtain ⟨sl,hL⟩:=u.any ho I.free (by simp)
 exact I.step (g':=s.gens) (d':=s.drawn) (ch:=[]) (fun _ z=>nomatch z) (fun b o _ hb _ e n=>u.keep b o e n hb (by simp)) (fun b o _ hb _ e n=>u.slot b o e n hb (by simp)) (fun b o _ e n=>u.free b o e n (by simp)) (fun b o _ e=>u.there b o e (by simp)) u.ja u.iw u.jb (fun m' hm=>by
  obtain ⟨o',UQ,UR,m9,r'⟩:=hm
  rw [ho] at m9; cases m9
  exact ⟨_,UQ,UR,hL,r'⟩) bB I.bare
theorem Inv.call {g':Array GenState} {t':Nat} {d':Drawn} {ch:List Addr} (I:Inv X pins σ H s) (u:Un (ll X.stack) ch H H' s.heap h') (bB:ki X.prog X.w H' h') (hg:AllBare g')
  (GA:∀ b∈ch,(b∈X.ex∨X.s₀.heap.objs.size≤b)∧b≠X.env.locals∧(∀ x c,X.env.cells.lookup x=some c→c≠b)∧∀ p∈X.pn ++ pins,p.1≠b) :
  Inv X pins σ H' { s with heap:=h',gens:=g',drawn:=d',toks:=t' }:=by
 obtain ⟨m,⟨o,es,ep,ho,r⟩,_⟩:=id I.loc
 obtain ⟨sl,hL⟩:=u.any ho I.free fun z=>(GA _ z).2.1 rfl
 exact I.step (ch:=ch) GA (fun b o hL hb hc e n=>u.keep b o e n (fun z=>(fg.mp (I.yh b z)).elim hL hb) hc) (fun b o _ _ hc e n=>u.any e n hc) (fun b o hc e n=>u.free b o e n hc) (fun b o hc e=>u.there b o e hc) u.ja u.iw u.jb (fun m' hm=>by
  obtain ⟨o',UQ,UR,m9,r'⟩:=hm
  rw [ho] at m9; cases m9
  exact ⟨_,UQ,UR,hL,r'⟩) bB hg
theorem Inv.turned {t':Nat} {it:Addr} (I:Inv X pins σ H s) (k:∀ b o,b≠it→s.heap.get? b=some o→h'.get? b=some o) (hn:H it=none) (hL:it≠X.env.locals)
  (h1:it∈X.ex∨X.s₀.heap.objs.size≤it) (h2:∀ x c,X.env.cells.lookup x=some c→c≠it) (h3:∀ p∈X.pn ++ pins,p.1≠it):Inv X pins σ H { s with heap:=h',toks:=t' }:=by
 have XZ:∀ b u,H b=some u→b≠it:=fun b u e z=>by rw [z,hn] at e; cases e
 refine I.step (g':=s.gens) (d':=s.drawn) (ch:=[it]) (fun b hb=>?_) (fun b o _ _ hc e _=>k b o (fun z=>hc (by simp [z])) e) (fun b o _ _ hc e _=>⟨o.slots,k b o (fun z=>hc (by simp [z])) e⟩) (fun _ _ _ _ n=>n)
  (fun b o hc e=>⟨o,k b o (fun z=>hc (by simp [z])) e⟩) (fun _ _ e=>e) (fun _ _ _ e=>e) (fun b ps e=>⟨#[],by rw [e]; simp⟩) (fun m hm=>?_) (fun b u e=>?_) I.bare
 · have e:b=it:=by simpa using hb
   subst e
   exact ⟨h1,hL,h2,h3⟩
 · obtain ⟨o,es,ep,ho,r⟩:=hm
   exact ⟨o,es,ep,k _ o (Ne.symm hL) ho,r⟩
 · refine (I.bB b u e).oQ (fun c v hc q=>k c v ?_ q) (fun _ q=>q) fun _ _ q=>q
   rcases hc with z | z
   · rw [z]; exact XZ b u e
   · exact XZ c _ z
theorem Inv.tok (I:Inv X pins σ H s) (t:Nat):Inv X pins σ H { s with toks:=t }:=I.un (h':=s.heap) (t':=t) Un.refl I.bB
theorem Inv.kept {t':Nat} (I:Inv X pins σ H s) (k:∀ b u,s.heap.get? b=some u→h'.get? b=some u):Inv X pins σ H { s with heap:=h',toks:=t' }:=I.un (Un.kept k) (I.bB.kept k)
theorem Inv.laid {a:Addr} {o:HO} {t':Nat} (I:Inv X pins σ H s) (k:∀ b u,s.heap.get? b=some u→h'.get? b=some u) (hp:s.heap.objs.size≤a) (new:bQ X.prog X.w (upd H a o) h' a o) :
 Inv X pins σ (upd H a o) { s with heap:=h',toks:=t' }:=I.un (Un.laid k hp (I.bB.fresh hp)) (I.bB.laid k hp new)
theorem Inv.write {x e:Addr} {o:HO} {t':Nat} (I:Inv X pins σ H s) (mu:PD (H x)) (he:e=x∨H e=some (.own x)) (k:∀ b u,b≠e→s.heap.get? b=some u→h'.get? b=some u) (Kq:∃ u,h'.get? e=some u)
 (new:bQ X.prog X.w (upd H x o) h' x o):Inv X pins σ (upd H x o) { s with heap:=h',toks:=t' }:=I.un (Un.write mu he k Kq) (I.bB.write mu he k Kq new)
theorem Inv.weak {σ':List (Option V)} (I:Inv X pins σ H s) (hl:σ'.length=σ.length) (w:∀ (i:Nat) v,σ'[i]?=some (some v)→σ[i]?=some (some v)):Inv X pins σ' H s :=
 ⟨I.ok,I.os,I.bare,I.base,let ⟨m,hn,US⟩:=I.loc; ⟨m,hn,fun i x v e1 e2 e3=>US i x v e1 (w i v e2) e3⟩,I.cell,I.free,I.fm,I.pin,I.bB,hl.trans I.len⟩
theorem Inv.Ap {Aq:List (Addr×Obj)} (I:Inv X pins σ H s) (h:∀ p∈Aq,s.heap.get? p.1=some p.2∧H p.1=none∧p.1≠X.env.locals∧p.1∉X.fs∧∀ v,p.2.data≠.cell v):Inv X Aq σ H s :=
 ⟨I.ok,I.os,I.bare,I.base,I.loc,I.cell,I.free,I.fm,fun p hp=>(mY.mp hp).elim (fun z=>I.pin p (mX _ z)) (h p),I.bB,I.len⟩
theorem pQ {N:List Str} (hN:N.Nodup) {i j:Nat} {x:Str} (a:N[i]?=some x) (b:N[j]?=some x):i=j:=by
 obtain ⟨h1,e1⟩:=e_.mp a
 obtain ⟨h2,e2⟩:=e_.mp b
 exact (List.getElem_inj hN).mp (e1.trans e2.symm)
theorem sT {M:Model} {A:Around} {E:Value→Shared→Prop} {i:Nat} {x:Str} {v:V} {u:Value} {Q:Unit→Shared→Prop} (I:Inv X pins σ H s) (hN:X.N.Nodup) (hi:X.N[i]?=some x) (hx:Loc X.env.scope x) (r:RelV v u)
  (h:∀ s',Inv X pins (σ.set i (some v)) H s'→(∃ a,Heap.SameBut a s.heap s'.heap∧(a=X.env.locals∨X.env.cells.lookup x=some a))→Q () s') (hf:X.fn x=true∨X.env.scope.names.lookup x=some .local:=by first | exact .inl rfl | exact .inr rfl | assumption):wpAny M A (storeName X.env x u) Q E s:=by
 obtain ⟨m,hn,hl⟩:=id I.loc
 have LL:(X.env.scope.kind == .class || (X.env.scope.kind == .module && X.env.locals != X.env.globals))=false:=by rw [I.ok.kind]; rfl
 have TB:i < σ.length:=by rw [I.len]; exact (e_.mp hi).1
 have Dt:=I.Dt
 have tracked:∀ {a:Addr} {h':Heap},(∃ o,s.heap.get? a=some o∧H a=none)→Heap.SameBut a s.heap h'→ki X.prog X.w H h':=fun {a h'} ha hs b ob e=>by
  obtain ⟨_,_,Kr⟩:=ha
  refine (I.bB b ob e).oQ (fun c w' hc q=>(hs.2 c ?_).trans q) (fun _ q=>q) fun _ _ q=>q
  rintro rfl
  rcases hc with rfl | hc
  · rw [Kr] at e; cases e
  · rw [Kr] at hc; cases hc
 rcases hx with hk | hk
 · refine wpAny_storeName_local hk hn (fun h' O3 hs=>?_) LL
   obtain ⟨oL,_,_,X2,_⟩:=id hn
   refine h _ ⟨I.ok,I.os,I.bare,⟨fun b o e n hb hx=>?_,fun b o e n hb hx=>?_,I.base.free,fun b o e hx=>?_,I.base.ja,I.base.iw,I.base.jb⟩,⟨_,O3,fun j y v' e1 e2 e3=>?_⟩,fun y c e=>?_,I.free,I.fm,fun p hp=>?_,tracked ⟨oL,X2,I.free⟩ hs,by simpa using I.len⟩ ⟨_,hs,.inl rfl⟩
   · exact (hs.2 b (iu (pe (dZ e) I.ok.above))).trans (I.base.keep b o e n hb hx)
   · obtain ⟨sl,e1⟩:=I.base.slot b o e n hb hx
     exact ⟨sl,(hs.2 b (iu (pe (dZ e) I.ok.above))).trans e1⟩
   · obtain ⟨o',e1⟩:=I.base.there b o e hx
     exact ⟨o',(hs.2 b (iu (pe (dZ e) I.ok.above))).trans e1⟩
   · by_cases hj:j=i
     · subst hj
       rw [hi] at e1; cases e1
       rw [Ao TB] at e2
       cases e2
       exact ⟨u,r,.inl ⟨hk,by simp⟩⟩
     · rw [vY (Ne.symm hj)] at e2
       obtain ⟨u',r',q⟩:=hl j y v' e1 e2 e3
       refine ⟨u',r',?_⟩
       rcases q with ⟨k,e⟩ | ⟨k,c,e,z⟩
       · refine .inl ⟨k,?_⟩
         have:y≠x:=fun e=>hj (pQ hN e1 (e▸hi))
         simp [this,e]
       · exact .inr ⟨k,c,e,z.sameBut hs (Dt y c e)⟩
   · obtain ⟨w',z⟩:=I.cell y c e
     exact ⟨w',z.sameBut hs (Dt y c e)⟩
   · obtain ⟨e,n,ne,nf,d⟩:=I.pin p hp
     exact ⟨(hs.2 p.1 ne).trans e,n,ne,nf,d⟩
 · have UT:X.fn x=true:=by
    rcases hf with z | z
    · exact z
    · rw [z] at hk; cases hk
   obtain ⟨c,hc⟩:=I.ok.has x (.inl hk)
   obtain ⟨w',z⟩:=I.cell x c hc
   refine wpAny_storeName_cell I.ok.kind hk hc z (fun h' rR hs=>?_)
   obtain ⟨oc,X3,UU⟩:=id z
   refine h { s with heap:=h' } ⟨I.ok,I.os,I.bare,⟨fun b o e n hb hx=>?_,fun b o e n hb hx=>?_,I.base.free,fun b o e hx=>?_,I.base.ja,I.base.iw,I.base.jb⟩,⟨m,hn.sameBut hs (Ne.symm (Dt x c hc)),fun j y v' e1 e2 e3=>?_⟩,fun y c' e=>?_,I.free,I.fm,fun p hp=>?_,tracked ⟨oc,X3,I.fm x c hc⟩ hs,by simpa using I.len⟩ ⟨c,hs,.inr hc⟩
   · exact (hs.2 b (iu (pe (dZ e) (I.ok.O0 x c UT hc)))).trans (I.base.keep b o e n hb hx)
   · obtain ⟨sl,e1⟩:=I.base.slot b o e n hb hx
     exact ⟨sl,(hs.2 b (iu (pe (dZ e) (I.ok.O0 x c UT hc)))).trans e1⟩
   · obtain ⟨o',e1⟩:=I.base.there b o e hx
     exact ⟨o',(hs.2 b (iu (pe (dZ e) (I.ok.O0 x c UT hc)))).trans e1⟩
   · by_cases hj:j=i
     · subst hj
       rw [hi] at e1; cases e1
       rw [Ao TB] at e2
       cases e2
       exact ⟨u,r,.inr ⟨.inl hk,c,hc,rR⟩⟩
     · rw [vY (Ne.symm hj)] at e2
       obtain ⟨u',r',q⟩:=hl j y v' e1 e2 e3
       refine ⟨u',r',?_⟩
       rcases q with q | ⟨k,c',e,z'⟩
       · exact .inl q
       · refine .inr ⟨k,c',e,z'.sameBut hs ?_⟩
         rintro rfl
         exact hj (pQ hN e1 (I.ok.inj _ _ _ e hc▸hi))
   · by_cases X4:c'=c
     · subst X4; exact ⟨_,rR⟩
     · obtain ⟨w2,z2⟩:=I.cell y c' e
       exact ⟨w2,z2.sameBut hs X4⟩
   · obtain ⟨e,n,ne,nf,d⟩:=I.pin p hp
     refine ⟨(hs.2 p.1 ?_).trans e,n,ne,nf,d⟩
     intro q
     rw [q,X3] at e
     have q':oc=p.2:=Option.some.inj e
     exact d w' (by rw [← q']; exact UU)
theorem jf {M:Model} {A:Around} {E:Value→Shared→Prop} {i:Nat} {x:Str} {v:V} {u:Value} {Q:Unit→Shared→Prop} (I:Inv X pins σ H s) (hN:X.N.Nodup) (hi:X.N[i]?=some x) (hx:Loc X.env.scope x) (r:RelV v u)
  (h:∀ s',Inv X pins (σ.set i (some v)) H s'→Q () s') (hf:X.fn x=true∨X.env.scope.names.lookup x=some .local:=by first | exact .inl rfl | exact .inr rfl | assumption):wpAny M A (storeName X.env x u) Q E s :=
 sT I hN hi hx r (fun s' I' _=>h s' I') hf
theorem Inv.Dv {s':Shared} {ch:List Addr} (I:Inv X pins σ H s) (ho:s'.os=s.os) (u:Un (ll X.stack) ch H H' s.heap s'.heap) (bB:ki X.prog X.w H' s'.heap) (hg:AllBare s'.gens)
  (GA:∀ b∈ch,(b∈X.ex∨X.s₀.heap.objs.size≤b)∧b≠X.env.locals∧(∀ x c,X.env.cells.lookup x=some c→c≠b)∧∀ p∈X.pn ++ pins,p.1≠b):Inv X pins σ H' s':=by
 obtain ⟨h',g',d',t',o'⟩:=s'
 have e:o'=s.os:=ho
 subst e
 exact I.call (g':=g') (t':=t') (d':=d') u bB hg GA
end
abbrev XK:=Value→Option Addr→Hp→Prop
abbrev St:=List (Option V)
abbrev VK:=V→Hp→Prop
abbrev TE:=St→Hp→VK→Prop
abbrev TT:=St→Hp→(Bool→Hp→Prop)→Prop
abbrev TA:=St→Hp→(List V→Hp→Prop)→Prop
structure Ends where
 nx:St→Hp→Prop
 rt:VK
 bk:St→Hp→Prop:=fun _ _=>False
 ct:St→Hp→Prop:=fun _ _=>False
abbrev TS:=Ends→St→Hp→Prop
def EP (X:Cx) (pins:List (Addr×Obj)) (σ:St) (Q:VK) (u:Value) (s':Shared):Prop:=∃ v H',Inv X pins σ H' s'∧RelV v u∧Q v H'
def TP (X:Cx) (pins:List (Addr×Obj)) (σ:St) (Q:Bool→Hp→Prop) (b:Bool) (s':Shared):Prop:=∃ H',Inv X pins σ H' s'∧Q b H'
def AP (X:Cx) (pins:List (Addr×Obj)) (σ:St) (Q:List V→Hp→Prop) (us:List Value) (s':Shared):Prop:=∃ vs H',Inv X pins σ H' s'∧Vals vs us∧Q vs H'
def SP (X:Cx) (pins:List (Addr×Obj)) (D:Ends) (f:Flow) (s':Shared):Prop :=
 match f with
 | .next=>∃ σ' H',Inv X pins σ' H' s'∧D.nx σ' H'
 | .brk=>∃ σ' H',Inv X pins σ' H' s'∧D.bk σ' H'
 | .cont=>∃ σ' H',Inv X pins σ' H' s'∧D.ct σ' H'
 | .ret u=>∃ v σ' H',Inv X pins σ' H' s'∧RelV v u∧D.rt v H'
def PE (X:Cx) (e:Expr) (t:TE):Prop :=
 ∀ (pins:List (Addr×Obj)) (s:Shared) (σ:St) (H:Hp) (Q:VK),Inv X pins σ H s→t σ H Q→wpAny (model X.prog X.w) X.A (eval e X.env) (EP X pins σ Q) X.xe s
def PT (X:Cx) (e:Expr) (t:TT):Prop :=
 ∀ (pins:List (Addr×Obj)) (s:Shared) (σ:St) (H:Hp) (Q:Bool→Hp→Prop),Inv X pins σ H s→t σ H Q→wpAny (model X.prog X.w) X.A (isTrue e X.env (eval e X.env)) (TP X pins σ Q) X.xe s
def PW (X:Cx) (e:Expr) (t:TT):Prop :=
 ∀ (whole:Sem Value) (pins:List (Addr×Obj)) (s:Shared) (σ:St) (H:Hp) (Q:Bool→Hp→Prop),Inv X pins σ H s→t σ H Q→wpAny (model X.prog X.w) X.A (isTrue e X.env whole) (TP X pins σ Q) X.xe s
theorem PW.pt {X:Cx} {e:Expr} {t:TT} (h:PW X e t):PT X e t:=h _
def PA (X:Cx) (es:List Expr) (t:TA):Prop :=
 ∀ (pos:Pos) (pins:List (Addr×Obj)) (s:Shared) (σ:St) (H:Hp) (Q:List V→Hp→Prop),Inv X pins σ H s→t σ H Q→wpAny (model X.prog X.w) X.A (spliced (backTo pos (starEach es X.env))) (AP X pins σ Q) X.xe s
def PS (X:Cx) (st:Stmt) (t:TS):Prop :=
 ∀ (pins:List (Addr×Obj)) (s:Shared) (σ:St) (H:Hp) (D:Ends),Inv X pins σ H s→t D σ H→wpAny (model X.prog X.w) X.A (exec st X.env) (SP X pins D) X.xe s
def oR (X:Cx) (st:List Stmt) (t:TS):Prop :=
 ∀ (pins:List (Addr×Obj)) (s:Shared) (σ:St) (H:Hp) (D:Ends),Inv X pins σ H s→t D σ H→wpAny (model X.prog X.w) X.A (execs st X.env) (SP X pins D) X.xe s
theorem bT {α:Type} {t:Sem α} {Q Q':α→Shared→Prop} {M:Model} {A:Around} {E:Value→Shared→Prop} {s:Shared} (h:wpAny M A t Q E s) (hQ:∀ a s,Q a s→Q' a s):wpAny M A t Q' E s:=wpAny_mono h hQ fun _ _ x=>x
section
variable {X:Cx}
def LM (i:Nat):TE:=fun σ H Q=>∃ v,σ[i]?=some (some v)∧Q v H
def tC (v:V):TE:=fun _ H Q=>Q v H
theorem cD {i:Nat} {x:Str} {pos:Pos} (hN:X.N[i]?=some x) (hv:rQ X.env.scope x) (hd:gk x:=by decide) (iy:vR x:=by decide):PE X (.Name x pos) (LM i):=by
 intro pins s σ H Q I h
 obtain ⟨v,e,h⟩:=h
 obtain ⟨m,hn,hl⟩:=I.loc
 obtain ⟨u,r,l⟩:=hl i x v hN e hv
 have fin:EP X pins σ Q u s:=⟨v,H,I,r,h⟩
 rcases l with ⟨hk,hm⟩ | ⟨hk,c,hc,Ar⟩
 · exact wpAny_Name (wpAny_loadName_local I.ok.kind hk hn hm fin) hd
 · rcases hk with hk | hk
   · exact wpAny_Name (wpAny_loadName_cell I.ok.kind hk hc Ar fin) hd
   · exact wpAny_Name (wpAny_loadName_free I.ok.kind hk hc Ar fin iy) hd
theorem LN {i j pos}:PE X (.Constant (.int i) j pos) (tC (.int i)):=fun _ _ _ H _ I h=>wpAny_Constant_int ⟨.int i,H,I.tok _,⟨_,rfl⟩,h⟩
theorem PL {b j pos}:PE X (.Constant (.bool b) j pos) (tC (.bl b)):=fun _ _ _ H _ I h=>Constant_bool ⟨.bl b,H,I,rfl,h⟩
theorem LO {j pos}:PE X (.Constant .none j pos) (tC .bb):=fun _ _ _ H _ I h=>Constant_none ⟨.bb,H,I,rfl,h⟩
theorem LP {x j pos}:PE X (.Constant (.str x) j pos) (tC (.str x)):=fun _ _ _ H _ I h=>Calls.Constant_str ⟨.str x,H,I.tok _,⟨_,rfl⟩,h⟩
def Gl (X:Cx) (x:Str):Prop:=X.env.kindOf x=some .globalImplicit
theorem iA {E:Value→Shared→Prop} {pins:List (Addr×Obj)} {s:Shared} {σ:St} {H:Hp} {x:Str} {u:Value} {pos:Pos} {Q:Value→Shared→Prop} (I:Inv X pins σ H s) (hg:Gl X x) (hm:X.mg x=some u) (h:Q u s)
  (hd:gk x:=by decide):wpAny (model X.prog X.w) X.A (eval (.Name x pos) X.env) Q E s :=
 Calls.Name_function_global I.ok.kind hg (Calls.loadGlobal_global (by rw [I.ok.glob]; exact I.mod.glob.keeps I.bk) hm h) hd
theorem kD {E:Value→Shared→Prop} {pins:List (Addr×Obj)} {s:Shared} {σ:St} {H:Hp} {x:Str} {u:Value} {pos:Pos} {Q:Value→Shared→Prop} (I:Inv X pins σ H s) (hg:Gl X x) (hm:X.mg x=none) (hv:bootBuiltins x=some u) (h:Q u s)
  (hn:x≠"__name__":=by decide) (hd:gk x:=by decide):wpAny (model X.prog X.w) X.A (eval (.Name x pos) X.env) Q E s:=by
 obtain ⟨mb,h1,h2⟩:=I.mod.blt
 exact Calls.Name_function_global I.ok.kind hg (Calls.loadGlobal_builtin (by rw [I.ok.glob]; exact I.mod.glob.keeps I.bk) hm (by rw [I.ok.blt]; exact h1.keeps I.bk) ((h2 x hn).trans hv) h) hd
theorem pk {x:Str} {v:V} {u:Value} {pos:Pos} (hg:Gl X x) (hm:X.mg x=some u) (r:RelV v u) (hd:gk x:=by decide):PE X (.Name x pos) (tC v) :=
 fun _ _ _ H _ I h=>iA I hg hm ⟨v,H,I,r,h⟩ hd
theorem G5 {x:Str} {v:V} {u:Value} {pos:Pos} (hg:Gl X x) (hm:X.mg x=none) (hv:bootBuiltins x=some u) (r:RelV v u) (hn:x≠"__name__":=by decide) (hd:gk x:=by decide):PE X (.Name x pos) (tC v) :=
 fun _ _ _ H _ I h=>kD I hg hm hv ⟨v,H,I,r,h⟩ hn hd
variable {a b:Expr} {ta tb:TE} {pos:Pos}
def tB (t:TE):TT:=fun σ H Q=>t σ H fun x H1=>∃ c,x = .bl c∧Q c H1
theorem LQ {e:Expr} {t:TE} (h:PE X e t) (he:∀ whole,isTrue e X.env whole=(do let v ← whole; standAt e.pos; holding [v] (truthy v)):=by intro _; rfl):PT X e (tB t):=by
 intro pins s σ H Q I hw
 refine isTrue_plain (bT (h pins s σ H _ I hw) fun v s1 ⟨x,H1,I1,r1,q1⟩=>?_) (he _)
 obtain ⟨d,rfl,q⟩:=q1
 cases r1
 exact wpAny_truthy_bool ⟨H1,I1,q⟩
variable {tA PM:TT} {rest:List Expr}
def UW (t u:TT):TT:=fun σ H Q=>t σ H fun c H1=>if c=true then u σ H1 Q else Q false H1
def Y5 (t u:TT):TT:=fun σ H Q=>t σ H fun c H1=>if c=true then Q true H1 else u σ H1 Q
def UX (t:TT):TT:=fun σ H Q=>t σ H fun c H1=>Q (!c) H1
theorem pw_and1 (ha:PT X a tA):PW X (.BoolOp .And [a] pos) tA:=by
 intro wh pins s σ H Q I h
 refine isTrue_and (bT (ha pins s σ H Q I h) fun c s1 e=>?_)
 cases c with
 | true=>exact isTrue_and_nil e
 | false=>exact e
theorem pw_or1 (ha:PT X a tA):PW X (.BoolOp .Or [a] pos) tA:=by
 intro wh pins s σ H Q I h
 refine isTrue_or (bT (ha pins s σ H Q I h) fun c s1 e=>?_)
 cases c with
 | false=>exact isTrue_or_nil e
 | true=>exact e
theorem pw_and (ha:PT X a tA) (hb:PW X (.BoolOp .And (b :: rest) pos) PM):PW X (.BoolOp .And (a :: b :: rest) pos) (UW tA PM):=by
 intro wh pins s σ H Q I h
 refine isTrue_and (bT (ha pins s σ H _ I h) fun c s1 ⟨H1,I1,q1⟩=>?_)
 cases c with
 | true=>exact hb wh pins s1 σ H1 Q I1 q1
 | false=>exact ⟨H1,I1,q1⟩
theorem pw_or (ha:PT X a tA) (hb:PW X (.BoolOp .Or (b :: rest) pos) PM):PW X (.BoolOp .Or (a :: b :: rest) pos) (Y5 tA PM):=by
 intro wh pins s σ H Q I h
 refine isTrue_or (bT (ha pins s σ H _ I h) fun c s1 ⟨H1,I1,q1⟩=>?_)
 cases c with
 | true=>exact ⟨H1,I1,q1⟩
 | false=>exact hb wh pins s1 σ H1 Q I1 q1
theorem LR (ha:PT X a tA):PT X (.UnaryOp .Not a pos) (UX tA):=by
 intro pins s σ H Q I h
 exact isTrue_not (ha pins s σ H (fun c H1=>Q (!c) H1) I h)
def PN (ta tb:TE):TE:=fun σ H Q=>ta σ H fun x H1=>∃ c,x = .bl c∧if c=true then tb σ H1 Q else Q (.bl false) H1
def UY (ta tb:TE):TE:=fun σ H Q=>ta σ H fun x H1=>∃ c,x = .bl c∧if c=true then Q (.bl true) H1 else tb σ H1 Q
def PQ (ta:TE):TE:=fun σ H Q=>ta σ H fun x H1=>∃ c,x = .bl c∧Q (.bl (!c)) H1
theorem LS {op} {t:TE} (h:PE X a t):PE X (.BoolOp op [a] pos) t:=fun pins s σ H Q I hw=>BoolOp_one (h pins s σ H Q I hw)
theorem LU (ha:PE X a ta) (hb:PE X (.BoolOp .And (b :: rest) pos) tb):PE X (.BoolOp .And (a :: b :: rest) pos) (PN ta tb):=by
 intro pins s σ H Q I h
 refine BoolOp_and (bT (ha pins s σ H _ I h) fun v s1 ⟨x,H1,I1,r1,q1⟩=>?_)
 obtain ⟨c,rfl,q1⟩:=q1
 cases r1
 refine wpAny_truthy_bool ?_
 cases c with
 | true=>exact hb pins s1 σ H1 Q I1 q1
 | false=>exact ⟨.bl false,H1,I1,rfl,q1⟩
theorem PR (ha:PE X a ta) (hb:PE X (.BoolOp .Or (b :: rest) pos) tb):PE X (.BoolOp .Or (a :: b :: rest) pos) (UY ta tb):=by
 intro pins s σ H Q I h
 refine BoolOp_or (bT (ha pins s σ H _ I h) fun v s1 ⟨x,H1,I1,r1,q1⟩=>?_)
 obtain ⟨c,rfl,q1⟩:=q1
 cases r1
 refine wpAny_truthy_bool ?_
 cases c with
 | false=>exact hb pins s1 σ H1 Q I1 q1
 | true=>exact ⟨.bl true,H1,I1,rfl,q1⟩
theorem LV (ha:PE X a ta):PE X (.UnaryOp .Not a pos) (PQ ta):=by
 intro pins s σ H Q I h
 refine UnaryOp_ (bT (ha pins s σ H _ I h) fun v s1 ⟨x,H1,I1,r1,q1⟩=>?_)
 obtain ⟨c,rfl,q1⟩:=q1
 cases r1
 exact not_of (wpAny_truthy_bool ⟨.bl (!c),H1,I1,rfl,q1⟩)
end
def gm (K:PySem.W.Frag) (H:Hp) (a:Addr) (xs:List V):Prop :=
 Rd H a (.lst xs) ∨
  ∃ (o:Obj) (aP:Array Value) (n:Nat),K.lookup a=some o∧o.cls = .type "list"∧o.dict=none∧o.data = .seq aP n∧aP.size≤sizeLine∧Vals xs aP.toList
def dY (K:PySem.W.Frag) (H:Hp) (a:Addr) (xs:List V):Prop :=
 Rd H a (.tup xs) ∨
  ∃ (o:Obj) (aP:Array Value) (n:Nat),K.lookup a=some o∧o.cls = .type "tuple"∧o.data = .seq aP n∧aP.size≤sizeLine∧Vals xs aP.toList
def UZ:Value→Option V
 | .none=>some .bb
 | .bool b=>some (.bl b)
 | .int i _=>some (.int i)
 | .str x _=>some (.str x)
 | .bytes b _=>some (.XU b)
 | .float b _=>some (.XW b)
 | .ref a=>some (.ref a)
 | .type n=>some (.ty n)
 | _=>none
theorem RelV.abs {x:V} {u:Value} (r:RelV x u):UZ u=some x:=by
 cases x with
 | bb=>cases r; rfl
 | bl _=>cases r; rfl
 | ref _=>cases r; rfl
 | ty _=>cases r; rfl
 | _=>obtain ⟨t,rfl⟩:=r; rfl
theorem RelV.inj {x y:V} {u:Value} (r:RelV x u) (q:RelV y u):x=y:=Option.some.inj (r.abs.symm.trans q.abs)
theorem Vals.inj:∀ {xs ys:List V} {us:List Value},Vals xs us→Vals ys us→xs=ys
 | _,_,_,.nil,.nil=>rfl
 | _,_,_,.cons r t,.cons r' t'=>by rw [r.inj r',Vals.inj t t']
section
variable {X:Cx} {pins:List (Addr×Obj)} {σ:St} {H:Hp} {s:Shared} {a:Addr} {xs ys:List V}
theorem gm.of {K:PySem.W.Frag} (h:H a=some (.lst xs)):gm K H a xs:=.inl (.inl h)
theorem dY.of {K:PySem.W.Frag} (h:H a=some (.tup xs)):dY K H a xs:=.inl (.inl h)
theorem Inv.list (I:Inv X pins σ H s) (h:gm X.K H a xs):∃ aP:List Value,Vals xs aP∧PlainL s.heap a aP.toArray∧xs.length≤sizeLine:=by
 rcases h with h | ⟨o,aP,n,hk,hc,hd,hs,hz,r⟩
 · obtain ⟨z,aP,n,r,e⟩:=h.ok I.bB
   exact ⟨aP,r,⟨_,n,e,rfl,rfl,rfl⟩,z⟩
 · refine ⟨aP.toList,r,⟨o,n,I.kq a o hk,hc,hd,by simpa using hs⟩,?_⟩
   have e:=r.length
   simp only [Lz] at e
   omega
theorem Inv.tuple (I:Inv X pins σ H s) (h:dY X.K H a xs):∃ aP:List Value,Vals xs aP∧IsTup s.heap a aP.toArray∧xs.length≤sizeLine:=by
 rcases h with h | ⟨o,aP,n,hk,hc,hs,hz,r⟩
 · obtain ⟨z,aP,r,p⟩:=h.ok I.bB
   exact ⟨aP,r,p,z⟩
 · refine ⟨aP.toList,r,⟨o,I.kq a o hk,hc,n,by simpa using hs⟩,?_⟩
   have e:=r.length
   simp only [Lz] at e
   omega
theorem Inv.lq (I:Inv X pins σ H s) (h:gm X.K H a xs) (h':gm X.K H a ys):xs=ys:=by
 obtain ⟨aP,r,⟨o,n,e,_,_,d⟩,_⟩:=I.list h
 obtain ⟨its',r',⟨o',n',e',_,_,d'⟩,_⟩:=I.list h'
 rw [e] at e'; cases e'
 rw [d] at d'
 injection d' with d1 _
 have:aP=its':=by simpa using congrArg Array.toList d1
 subst this
 exact r.inj r'
theorem Inv.m_ (I:Inv X pins σ H s) (h:dY X.K H a xs) (h':dY X.K H a ys):xs=ys:=by
 obtain ⟨aP,r,⟨o,e,_,n,d⟩,_⟩:=I.tuple h
 obtain ⟨its',r',⟨o',e',_,n',d'⟩,_⟩:=I.tuple h'
 rw [e] at e'; cases e'
 rw [d] at d'
 injection d' with d1 _
 have:aP=its':=by simpa using congrArg Array.toList d1
 subst this
 exact r.inj r'
end
abbrev Cx.jg (X:Cx) (E:Value→Shared→Prop):Cx:={ X with xe:=E }
abbrev Cx.ng (X:Cx):Cx:=X.jg fun _ _=>False
theorem Cx.Ok.jg {X:Cx} (ok:X.Ok) (E:Value→Shared→Prop):(X.jg E).Ok :=
 ⟨ok.mod,ok.kind,ok.glob,ok.blt,ok.above,ok.inj,ok.has,ok.O0,ok.hd,ok.frames,ok.PK,ok.UO,ok.bs,ok.C9,ok.Bt,ok.Ds,ok.lp,ok.G3⟩
theorem Cx.Ok.gD {X:Cx} {E:Value→Shared→Prop} (ok:(X.jg E).Ok):X.Ok :=
 ⟨ok.mod,ok.kind,ok.glob,ok.blt,ok.above,ok.inj,ok.has,ok.O0,ok.hd,ok.frames,ok.PK,ok.UO,ok.bs,ok.C9,ok.Bt,ok.Ds,ok.lp,ok.G3⟩
section
variable {X:Cx} {pins:List (Addr×Obj)} {σ:St} {H:Hp} {s:Shared} {E:Value→Shared→Prop}
theorem Inv.jg (I:Inv X pins σ H s) (E:Value→Shared→Prop):Inv (X.jg E) pins σ H s:=⟨I.ok.jg E,I.os,I.bare,I.base,I.loc,I.cell,I.free,I.fm,I.pin,I.bB,I.len⟩
theorem Inv.gD (I:Inv (X.jg E) pins σ H s):Inv X pins σ H s:=⟨I.ok.gD,I.os,I.bare,I.base,I.loc,I.cell,I.free,I.fm,I.pin,I.bB,I.len⟩
theorem SP.gD {D:Ends} {f:Flow} {s':Shared} (h:SP (X.jg E) pins D f s'):SP X pins D f s':=by
 cases f with
 | ret u=>obtain ⟨v,σ',H',I,r,q⟩:=h; exact ⟨v,σ',H',I.gD,r,q⟩
 | _=>obtain ⟨σ',H',I,q⟩:=h; exact ⟨σ',H',I.gD,q⟩
theorem PE.ng {e:Expr} {t:TE} (h:PE X.ng e t):PE X e t:=fun pins s σ H Q I hw =>
 wpAny_mono (h pins s σ H Q (I.jg _) hw) (fun _ _ ⟨v,H',I',r,q⟩=>⟨v,H',I'.gD,r,q⟩) fun _ _ z=>False.elim z
theorem PT.ng {e:Expr} {t:TT} (h:PT X.ng e t):PT X e t:=fun pins s σ H Q I hw =>
 wpAny_mono (h pins s σ H Q (I.jg _) hw) (fun _ _ ⟨H',I',q⟩=>⟨H',I'.gD,q⟩) fun _ _ z=>False.elim z
theorem oR.ng {st:List Stmt} {t:TS} (h:oR X.ng st t):oR X st t:=fun pins s σ H D I hw =>
 wpAny_mono (h pins s σ H D (I.jg _) hw) (fun _ _ q=>q.gD) fun _ _ z=>False.elim z
end
section
variable {X:Cx} {st:Stmt} {rest:List Stmt} {t u:TS} {e:Expr} {te:TE} {pos:Pos}
def PU:TS:=fun D σ H=>D.nx σ H
def U0 (t u:TS):TS:=fun D σ H=>t { D with nx:=u D } σ H
theorem G6:oR X [] PU:=fun _ _ σ H _ I h=>wpAny_execs_nil ⟨σ,H,I,h⟩
theorem jh (h1:PS X st t) (h2:oR X rest u):oR X (st :: rest) (U0 t u):=by
 intro pins s σ H D I h
 refine wpAny_execs_cons (bT (h1 pins s σ H { D with nx:=u D } I h) fun f s1 q=>?_)
 cases f with
 | next =>
   obtain ⟨σ',H',I',q⟩:=q
   exact h2 pins s1 σ' H' D I' q
 | ret v=>exact q
 | _=>exact q
theorem lu (h1:PS X st t):oR X [st] t:=by
 intro pins s σ H D I h
 refine wpAny_execs_cons (bT (h1 pins s σ H D I h) fun f s1 q=>?_)
 cases f with
 | next=>exact wpAny_execs_nil q
 | ret v=>exact q
 | _=>exact q
theorem Inv.quiet {pins:List (Addr×Obj)} {σ:St} {H:Hp} {s:Shared} (I:Inv X pins σ H s):interactive X.env=false:=by simp [interactive,I.ok.kind]
def PV (te:TE):TS:=fun D σ H=>te σ H fun _ H1=>D.nx σ H1
theorem lC (he:PE X e te) (hs:swapsWith e none pos.line X.env=pure false:=by rfl):PS X (.Expr e pos) (PV te):=by
 intro pins s σ H D I h
 exact wpAny_Expr_any (bT (he pins s σ H _ I h) fun v s1 ⟨x,H1,I1,r1,q1⟩=>⟨σ,H1,I1,q1⟩) I.quiet hs
def U1 (te:TE):TS:=fun D σ H=>te σ H D.rt
theorem Dw (he:PE X e te):PS X (.Return (some e) pos) (U1 te):=by
 intro pins s σ H D I h
 exact wpAny_Return_some (bT (he pins s σ H _ I h) fun v s1 ⟨x,H1,I1,r1,q1⟩=>⟨x,σ,H1,I1,r1,q1⟩)
def U2 (c:TT) (t u:TS):TS:=fun D σ H=>c σ H fun b H1=>if b=true then t D σ H1 else u D σ H1
theorem PX {c:Expr} {a b:List Stmt} {tc:TT} (hc:PT X c tc) (ha:oR X a t) (hb:oR X b u):PS X (.If c a b pos) (U2 tc t u):=by
 intro pins s σ H D I h
 refine wpAny_If (bT (hc pins s σ H _ I h) fun d s1 ⟨H1,I1,q1⟩=>?_)
 cases d with
 | true=>exact ha pins s1 σ H1 D I1 q1
 | false=>exact hb pins s1 σ H1 D I1 q1
end
abbrev TG:=V→St→Hp→(St→Hp→Prop)→Prop
abbrev G7:=List V→St→Hp→(St→Hp→Prop)→Prop
def PG (X:Cx) (target:Expr) (t:TG):Prop :=
 ∀ (pins:List (Addr×Obj)) (s:Shared) (σ:St) (H:Hp) (v:V) (u:Value) (Q:St→Hp→Prop),Inv X pins σ H s→RelV v u→t v σ H Q →
  wpAny (model X.prog X.w) X.A (assign target X.env u) (fun _ s'=>∃ σ' H',Inv X pins σ' H' s'∧Q σ' H') X.xe s
def Dx (X:Cx) (ts:List Expr) (t:G7):Prop :=
 ∀ (pins:List (Addr×Obj)) (s:Shared) (σ:St) (H:Hp) (vs:List V) (us:List Value) (Q:St→Hp→Prop),Inv X pins σ H s→Vals vs us→t vs σ H Q →
  wpAny (model X.prog X.w) X.A (assignInOrder ((assignEach ts X.env).map (·.2)) us) (fun _ s'=>∃ σ' H',Inv X pins σ' H' s'∧Q σ' H') X.xe s
abbrev LW:=V→V→V→Hp→(Hp→Prop)→Prop
def PY (X:Cx) (t:LW):Prop :=
 ∀ (pins:List (Addr×Obj)) (s:Shared) (σ:St) (H:Hp) (o i v:V) (ov iv u:Value) (Q:Hp→Prop),Inv X pins σ H s→RelV o ov→RelV i iv→RelV v u→t o i v H Q →
  wpAny (model X.prog X.w) X.A (setItem ov iv u) (fun _ s'=>∃ H',Inv X pins σ H' s'∧Q H') X.xe s
abbrev U3:=V→V→Hp→VK→Prop
def Y6 (X:Cx) (op:Operator) (t:U3):Prop :=
 ∀ (pins:List (Addr×Obj)) (s:Shared) (σ:St) (H:Hp) (x y:V) (v u:Value) (Q:VK),Inv X pins σ H s→RelV x v→RelV y u→t x y H Q →
  wpAny (model X.prog X.w) X.A (inplaceOp op v u) (EP X pins σ Q) X.xe s
section
variable {X:Cx} {pos:Pos}
def i0 (i:Nat):TG:=fun v σ H Q=>Q (σ.set i (some v)) H
theorem G8 {i:Nat} {x:Str} (hN:X.N.Nodup) (hi:X.N[i]?=some x) (hx:Loc X.env.scope x) (hf:X.fn x=true∨X.env.scope.names.lookup x=some .local:=by first | exact .inl rfl | exact .inr rfl | assumption):PG X (.Name x pos) (i0 i):=by
 intro pins s σ H v u Q I r h
 exact wpAny_assign_Name (jf I hN hi hx r (fun s' I'=>⟨_,H,I',h⟩) hf)
def U4:G7:=fun vs σ H Q=>vs=[]∧Q σ H
def PZ (t:TG) (u:G7):G7:=fun vs σ H Q=>∃ v r,vs=v :: r∧t v σ H fun σ' H'=>u r σ' H' Q
theorem G9:Dx X [] U4:=by
 intro pins s σ H vs us Q I r h
 obtain ⟨e,h⟩:=h
 subst e
 cases r
 exact assignInOrder_nil ⟨σ,H,I,h⟩
theorem Dy {e:Expr} {es:List Expr} {t:TG} {u:G7} (h1:PG X e t) (h2:Dx X es u)
  (hs:(assignEach (e :: es) X.env).map (·.2)=assign e X.env :: (assignEach es X.env).map (·.2):=by rfl):Dx X (e :: es) (PZ t u):=by
 intro pins s σ H vs us Q I r h
 obtain ⟨v,vr,e1,h⟩:=h
 subst e1
 cases r with
 | cons r rr =>
   rw [hs]
   refine assignInOrder_cons (bT (h1 pins s σ H _ _ _ I r h) fun _ s1 ⟨σ1,H1,I1,q1⟩=>?_)
   exact h2 pins s1 σ1 H1 _ _ Q I1 rr q1
def U5 (K:PySem.W.Frag) (n:Nat) (t:G7):TG:=fun v σ H Q=>∃ a xs,v = .ref a∧dY K H a xs∧xs.length=n∧t xs σ H Q
theorem LX {es:List Expr} {k:Nat} {t:G7} {n:Nat} (hc:X.calm=true) (h:Dx X es t)
  (hn:(assignEach es X.env).length=n:=by rfl) (G_:(assignEach es X.env).findIdx? (·.1)=none:=by rfl):PG X (.Tuple es k pos) (U5 X.K n t):=by
 intro pins s σ H v u Q I r hw
 obtain ⟨a,xs,e1,hq,hl,hw⟩:=hw
 subst e1
 cases r
 obtain ⟨aP,rv,ht,hz⟩:=I.tuple hq
 refine assign_Tuple_tuple (I.ok.hd hc) ht (by simp [hn,← hl,rv.length]) G_ fun h' hx=>?_
 have I1:Inv X pins σ H { s with heap:=h' }:=I.kept (t':=s.toks) fun b o e=>hx b o (iu (dZ e)) e
 exact h pins _ σ H xs _ Q I1 (by simpa using rv) hw
def U6 (to ti:TE) (t:LW):TG:=fun v σ H Q=>to σ H fun o H1=>ti σ H1 fun i H2=>t o i v H2 fun H3=>Q σ H3
theorem LY {o i:Expr} {to ti:TE} {t:LW} (ho:PE X o to) (hi:PE X i ti) (hs:PY X t)
  (ha:∀ v,assign (.Subscript o i pos) X.env v=(do
    let ov ← holding [v] (eval o X.env)
    let iv ← holding [v,ov] (eval i X.env)
    standAt pos
    holding [v,ov,iv] (setItem ov iv v)
    release [v,ov,iv] []):=by intro _; rfl):PG X (.Subscript o i pos) (U6 to ti t):=by
 intro pins s σ H v u Q I r h
 rw [ha]
 refine wpAny_bind (wpAny_holding (bT (ho pins s σ H _ I h) fun ov s1 ⟨x,H1,I1,r1,q1⟩=>?_))
 refine wpAny_bind (wpAny_holding (bT (hi pins s1 σ H1 _ I1 q1) fun iv s2 ⟨y,H2,I2,r2,q2⟩=>?_))
 refine wpAny_bind (wpAny_standAt (wpAny_bind (wpAny_holding (bT (hs pins s2 σ H2 x y v ov iv u _ I2 r1 r2 r q2) fun _ s3 ⟨H3,I3,q3⟩=>?_))))
 exact wpAny_release ⟨σ,H3,I3,q3⟩
def G' (te:TE) (g:TG):TS:=fun D σ H=>te σ H fun x H1=>g x σ H1 D.nx
theorem LZ {tg e:Expr} {te:TE} {g:TG} (he:PE X e te) (hg:PG X tg g) (hs:swapsWithSole [tg] e pos.line X.env=pure false:=by rfl) (hw:swappedStores [tg] e X.env=pure none:=by rfl)
  (h1:(assignEach [tg] X.env).map (·.2)=[assign tg X.env]:=by rfl):PS X (.Assign [tg] e pos) (G' te g):=by
 intro pins s σ H D I h
 refine wpAny_Assign_stores (bT (he pins s σ H _ I h) fun v s1 ⟨x,H1,I1,r1,q1⟩=>?_) hs hw
 rw [h1]
 exact bT (hg pins s1 σ H1 x v _ I1 r1 q1) fun _ s2 q=>q
theorem yi {i:Nat} {x:Str} {e:Expr} {te:TE} {pos':Pos} (hN:X.N.Nodup) (hi:X.N[i]?=some x) (hx:Loc X.env.scope x) (he:PE X e te) (hs:swapsWith e (some (.Name x pos')) pos.line X.env=pure false:=by rfl) (hf:X.fn x=true∨X.env.scope.names.lookup x=some .local:=by first | exact .inl rfl | exact .inr rfl | assumption) :
  PS X (.Assign [.Name x pos'] e pos) (G' te (i0 i)):=by
 intro pins s σ H D I h
 refine wpAny_Assign_Name (bT (he pins s σ H _ I h) fun v s1 ⟨y,H1,I1,r1,q1⟩=>?_) hs
 exact jf I1 hN hi hx r1 (fun s2 I2=>⟨_,H1,I2,q1⟩) hf
def U7 (i:Nat) (te:TE) (ti:U3):TS:=fun D σ H=>∃ x,σ[i]?=some (some x)∧te σ H fun y H1=>ti x y H1 fun z H2=>D.nx (σ.set i (some z)) H2
theorem L0 {i:Nat} {x:Str} {e:Expr} {te:TE} {op:Operator} {ti:U3} {pos':Pos} (hN:X.N.Nodup) (hi:X.N[i]?=some x) (hx:Loc X.env.scope x) (he:PE X e te) (ho:Y6 X op ti) (hf:X.fn x=true∨X.env.scope.names.lookup x=some .local:=by first | exact .inl rfl | exact .inr rfl | assumption) :
  PS X (.AugAssign (.Name x pos') op e pos) (U7 i te ti):=by
 intro pins s σ H D I h
 obtain ⟨v,e1,h⟩:=h
 obtain ⟨m,hn,hl⟩:=I.loc
 have Y7:rQ X.env.scope x:=by rcases hx with k | k; exact .inl k; exact .inr (.inl k)
 obtain ⟨u,r,l⟩:=hl i x v hi e1 Y7
 refine wpAny_AugAssign_Name ?_
 have go:wpAny (model X.prog X.w) X.A (eval e X.env) (fun w s₂=>wpAny (model X.prog X.w) X.A (inplaceOp op u w) (fun r s₃=>wpAny (model X.prog X.w) X.A (storeName X.env x r) (fun _=>SP X pins D .next) X.xe s₃) X.xe s₂) X.xe s:=by
  refine bT (he pins s σ H _ I h) fun w s1 ⟨y,H1,I1,r1,q1⟩=>?_
  refine bT (ho pins s1 σ H1 v y u w _ I1 r r1 q1) fun z s2 ⟨zv,H2,I2,r2,q2⟩=>?_
  exact jf I2 hN hi hx r2 (fun s3 I3=>⟨_,H2,I3,q2⟩) hf
 rcases l with ⟨hk,hm⟩ | ⟨hk,c,hc,Ar⟩
 · exact wpAny_loadName_local I.ok.kind hk hn hm go
 · rcases hk with hk | hk
   · exact wpAny_loadName_cell I.ok.kind hk hc Ar go
   · rcases hx with k | k
     · have:X.env.scope.names.lookup x=some .free:=hk
       rw [k] at this; cases this
     · have:X.env.scope.names.lookup x=some .free:=hk
       rw [k] at this; cases this
end
section
variable {X:Cx} {pos:Pos}
end
structure It where
 go:Nat→Hp→Prop
 O5:Nat→Hp→V→Hp→Prop
 stop:Nat→Hp→Prop
def nh (X:Cx) (pins:List (Addr×Obj)) (H:Hp) (b:Addr):Prop :=
 H b=none∧b≠X.env.locals∧b∉X.fs∧(b∈X.ex∨X.s₀.heap.objs.size≤b)∧(∀ x c,X.env.cells.lookup x=some c→c≠b)∧∀ p∈X.pn ++ pins,p.1≠b
theorem Inv.rS {X:Cx} {pins:List (Addr×Obj)} {σ:St} {H H':Hp} {s:Shared} {b:Addr} (I:Inv X pins σ H s) (hb:s.heap.objs.size≤b) (hn:H' b=none):nh X pins H' b:=by
 refine ⟨hn,C8 (pe I.lt hb),I.UP hb,.inr (oq I.sz hb),fun x c e z=>?_,fun p hp z=>?_⟩
 · obtain ⟨v,q⟩:=I.cell x c e
   exact absurd (pe q.lt (by rw [z]; exact hb)) (Dq _)
 · exact absurd (pe (dZ (I.pin p hp).1) (by rw [z]; exact hb)) (Dq _)
structure Turn (P:Program) (w:World) (K:PySem.W.Frag) (tg:Expr) (J:It) (fp:List Addr) (it:Addr) (tn:Nat→Heap→Prop):Prop where
 mem:it∈fp
 obj:∀ i h,tn i h→∀ b∈fp,∃ o,h.get? b=some o∧∀ v,o.data≠.cell v
 keep:∀ i h h',tn i h→(∀ b∈fp,∀ o,h.get? b=some o→h'.get? b=some o)→tn i h'
 item:∀ (X:Cx),X.prog=P→X.w=w→X.K=K→X.calm=true→∀ (i:Nat) (pins:List (Addr×Obj)) (s:Shared) (σ:St) (H:Hp) (E:Value→Shared→Prop),Inv X pins σ H s→(∀ b∈fp,nh X pins H b)→tn i s.heap→J.go i H →
  wpAny (model P w) X.A (pyNext (.ref it)) (fun r s1=>∃ u,r=some u ∧
   wpAny (model P w) X.A (letOwnedTupleGo tg (.ref it) u) (fun _ s2=>∃ x H',Inv X pins σ H' s2∧RelV x u∧J.O5 i H x H'∧tn (i+1) s2.heap∧∀ b∈fp,H' b=none) E s1) E s
 done:∀ (X:Cx),X.prog=P→X.w=w→X.K=K→X.calm=true→∀ (i:Nat) (pins:List (Addr×Obj)) (s:Shared) (σ:St) (H:Hp) (E:Value→Shared→Prop),Inv X pins σ H s→(∀ b∈fp,nh X pins H b)→tn i s.heap→J.stop i H →
  wpAny (model P w) X.A (pyNext (.ref it)) (fun r s1=>r=none∧Inv X pins σ H s1) E s
 self:∀ (A:Around) (i:Nat) (s:Shared) (Q:Value→Shared→Prop) (E:Value→Shared→Prop),tn i s.heap→Q (.ref it) s→wpAny (model P w) A (pyIter (.ref it)) Q E s
abbrev TI:=St→Hp→(It→Hp→Prop)→Prop
def X5 (X:Cx) (pins:List (Addr×Obj)) (σ:St) (tg:Expr) (R:It→Hp→Prop) (TC:Value) (s2:Shared):Prop :=
 ∃ (it:Addr) (fp:List Addr) (tn:Nat→Heap→Prop) (J:It) (H':Hp),TC = .ref it∧Inv X pins σ H' s2∧Turn X.prog X.w X.K tg J fp it tn∧tn 0 s2.heap∧(∀ b∈fp,nh X pins H' b)∧R J H'
def PI (X:Cx) (tg iter:Expr) (wi:TI):Prop :=
 ∀ (pins:List (Addr×Obj)) (s:Shared) (σ:St) (H:Hp) (R:It→Hp→Prop),Inv X pins σ H s→wi σ H R →
  wpAny (model X.prog X.w) X.A (eval iter X.env) (fun v s1=>wpAny (model X.prog X.w) X.A (pyIter v) (X5 X pins σ tg R) X.xe s1) X.xe s
theorem As {M:Model} {A:Around} {E:Value→Shared→Prop} {s:Shared} {tg:Expr} {it:Addr} {u:Value} {o:Obj} {n:String} {vs:Array Value} {Q:Unit→Shared→Prop} (ho:s.heap.get? it=some o) (hc:o.cls = .type n) (hd:o.data = .fields vs)
  (hn:["enumerate","zip","dict_itemiterator","dict_reverseitemiterator","odict_iterator","itertools.zip_longest","itertools.pairwise"].contains n=false) (hQ:Q () s):wpAny M A (letOwnedTupleGo tg (.ref it) u) Q E s:=by
 unfold letOwnedTupleGo
 cases tg <;> first
  | exact wpAny_pure hQ
  | (cases u <;> first
      | exact wpAny_pure hQ
      | (refine wpAny_bind (wpAny_load ho ?_)
         rw [hc,hd]
         show wpAny M A (if (["enumerate","zip","dict_itemiterator","dict_reverseitemiterator","odict_iterator","itertools.zip_longest","itertools.pairwise"].contains n && vs[0]? == some (rawInt _))=true then _ else _) Q E s
         rw [if_neg (by intro h; rw [hn,vS] at h; cases h)]
         exact wpAny_pure hQ))
def U8 (K:PySem.W.Frag) (a:Addr):It :=
 ⟨fun i H=>∃ xs x,gm K H a xs∧xs[i]?=some x,fun i H x H'=>H'=H∧∀ xs,gm K H a xs→xs[i]?=some x,fun i H=>∃ xs,gm K H a xs∧xs.length≤i⟩
def U9 (K:PySem.W.Frag) (a:Addr):It :=
 ⟨fun i H=>∃ xs x,dY K H a xs∧xs[i]?=some x,fun i H x H'=>H'=H∧∀ xs,dY K H a xs→xs[i]?=some x,fun i H=>∃ xs,dY K H a xs∧xs.length≤i⟩
def TF (lo:Int) (n:Nat):It:=⟨fun i _=>i < n,fun i H x H'=>H'=H∧x = .int (lo+i),fun i _=>n≤i⟩
theorem Bu {P:Program} {w:World} {K:PySem.W.Frag} {tg:Expr} (a it:Addr):Turn P w K tg (U8 K a) [it] it (fun i h=>h.IsListIter it a i) where
 mem:=by simp
 obj:=fun i h st b hb=>by
  have e:b=it:=by simpa using hb
  subst e
  obtain ⟨o,e,c,d⟩:=st
  exact ⟨o,e,fun v z=>by rw [d] at z; cases z⟩
 keep:=fun i h h' st k=>st.at fun o e=>k it (by simp) o e
 item:=by
  intro X hP hw hK hc i pins s σ H E I hf st hg
  subst hP hw hK
  obtain ⟨xs,x,hq,hx⟩:=hg
  obtain ⟨aP,rv,p,hz⟩:=I.list hq
  obtain ⟨u,hu,ru⟩:=rv.get hx
  obtain ⟨f0,f1,f2,f3,f4,f5⟩:=hf it (by simp)
  refine wpAny_pyNext_list_item st p.isList (x:=u) (by simpa using hu) fun h' yj sb=>?_
  have I1:Inv X pins σ H { s with heap:=h' }:=I.turned (t':=s.toks) (fun b o hb e=>(sb.2 b hb).trans e) f0 f1 f3 f4 f5
  obtain ⟨o,e,c,d⟩:=id yj
  exact ⟨u,rfl,As (s:={ s with heap:=h' }) e c d (by decide) ⟨x,H,I1,ru,⟨rfl,fun ys hy=>by rw [I.lq hy hq]; exact hx⟩,yj,fun b hb=>(hf b hb).1⟩⟩
 done:=by
  intro X hP hw hK hc i pins s σ H E I hf st hg
  subst hP hw hK
  obtain ⟨xs,hq,hx⟩:=hg
  obtain ⟨aP,rv,p,hz⟩:=I.list hq
  obtain ⟨f0,f1,f2,f3,f4,f5⟩:=hf it (by simp)
  have hl:=rv.length
  exact wpAny_pyNext_list_end (I.ok.hd hc) st p.isList (by simp; omega) fun h' eb=>⟨rfl,I.turned (t':=s.toks) (fun b o hb e=>eb b o hb e) f0 f1 f3 f4 f5⟩
 self:=fun _ _ _ _ _ st h=>wpAny_pyIter_listiter st h
theorem yk {P:Program} {w:World} {K:PySem.W.Frag} {tg:Expr} (a it:Addr):Turn P w K tg (U9 K a) [it] it (fun i h=>h.IsTupleIter it a i) where
 mem:=by simp
 obj:=fun i h st b hb=>by
  have e:b=it:=by simpa using hb
  subst e
  obtain ⟨o,e,c,d⟩:=st
  exact ⟨o,e,fun v z=>by rw [d] at z; cases z⟩
 keep:=fun i h h' st k=>st.at fun o e=>k it (by simp) o e
 item:=by
  intro X hP hw hK hc i pins s σ H E I hf st hg
  subst hP hw hK
  obtain ⟨xs,x,hq,hx⟩:=hg
  obtain ⟨aP,rv,p,hz⟩:=I.tuple hq
  obtain ⟨u,hu,ru⟩:=rv.get hx
  obtain ⟨f0,f1,f2,f3,f4,f5⟩:=hf it (by simp)
  refine wpAny_pyNext_tuple_item st (show s.heap.IsTuple a aP.toArray from p) (x:=u) (by simpa using hu) fun h' yj sb=>?_
  have I1:Inv X pins σ H { s with heap:=h' }:=I.turned (t':=s.toks) (fun b o hb e=>(sb.2 b hb).trans e) f0 f1 f3 f4 f5
  obtain ⟨o,e,c,d⟩:=id yj
  exact ⟨u,rfl,As (s:={ s with heap:=h' }) e c d (by decide) ⟨x,H,I1,ru,⟨rfl,fun ys hy=>by rw [I.m_ hy hq]; exact hx⟩,yj,fun b hb=>(hf b hb).1⟩⟩
 done:=by
  intro X hP hw hK hc i pins s σ H E I hf st hg
  subst hP hw hK
  obtain ⟨xs,hq,hx⟩:=hg
  obtain ⟨aP,rv,p,hz⟩:=I.tuple hq
  obtain ⟨f0,f1,f2,f3,f4,f5⟩:=hf it (by simp)
  have hl:=rv.length
  exact wpAny_pyNext_tuple_end (I.ok.hd hc) st (show s.heap.IsTuple a aP.toArray from p) (by simp; omega) fun h' eb=>⟨rfl,I.turned (t':=s.toks) (fun b o hb e=>eb b o hb e) f0 f1 f3 f4 f5⟩
 self:=fun _ _ _ _ _ st h=>wpAny_pyIter_tupleiter st h
theorem yl {P:Program} {w:World} {K:PySem.W.Frag} {tg:Expr} (it:Addr) (lo:Int) (n:Nat):Turn P w K tg (TF lo n) [it] it (fun i h=>IsRangeIter h it (lo+(i:Nat) * 1) ((n:Int) - (i:Nat)) 1) where
 mem:=by simp
 obj:=fun i h st b hb=>by
  have e:b=it:=by simpa using hb
  subst e
  exact ⟨_,st,fun v z=>by
   have z':Data.fields _=Data.cell v:=z
   cases z'⟩
 keep:=fun i h h' st k=>k it (by simp) _ st
 item:=by
  intro X hP hw hK hc i pins s σ H E I hf st hg
  subst hP hw hK
  obtain ⟨f0,f1,f2,f3,f4,f5⟩:=hf it (by simp)
  have W:=Walks.range (prog:=X.prog) (w:=X.w) (I.ok.hd hc) it lo 1 n
  refine W.item i s _ _ hg st fun v h' tk hv yj kk=>?_
  obtain ⟨t,rfl⟩:=hv
  have I1:Inv X pins σ H { s with heap:=h',toks:=tk }:=I.turned (fun b o hb e=>kk b o (by simpa using hb) e) f0 f1 f3 f4 f5
  refine ⟨_,rfl,As (s:={ s with heap:=h',toks:=tk }) (n:="range_iterator") yj rfl rfl (by decide) ⟨.int (lo+i),H,I1,⟨t,?_⟩,⟨rfl,rfl⟩,yj,fun b hb=>(hf b hb).1⟩⟩
  rw [Int.mul_one]
 done:=by
  intro X hP hw hK hc i pins s σ H E I hf st hg
  subst hP hw hK
  obtain ⟨f0,f1,f2,f3,f4,f5⟩:=hf it (by simp)
  exact wpAny_pyNext_range_end (I.ok.hd hc) st (by have:n≤i:=hg; omega) fun h' eb=>⟨rfl,I.turned (t':=s.toks) (fun b o hb e=>eb b o hb e) f0 f1 f3 f4 f5⟩
 self:=fun _ _ _ _ _ st h=>wpAny_pyIter_rangeiter st h
section
variable {X:Cx} {tg:Expr}
theorem Dz {pins:List (Addr×Obj)} {σ:St} {H:Hp} {s:Shared} {R:It→Hp→Prop} {E:Value→Shared→Prop} {lo hi:Int} {t u v:Tok} {tk:Nat} (I:Inv X pins σ H s) (h1 : -(2 ^ 62)≤lo) (h2:lo < 2 ^ 62) (h3 : -(2 ^ 62)≤hi) (h4:hi < 2 ^ 62)
  (q:R (TF lo (hi - lo).toNat) H):wpAny (model X.prog X.w) X.A (pyIter (.ref s.heap.objs.size)) (X5 X pins σ tg R) E { s with heap:=s.heap.push { cls:=.type "range",data:=.fields #[.int lo t,.int hi u,.int 1 v] },toks:=tk }:=by
 refine wpAny_pyIter_range (IsRange.new ..) (small_one h1 h2 h3 h4) ?_
 have I1:Inv X pins σ H { s with heap:=s.heap.push { cls:=.type "range",data:=.fields #[.int lo t,.int hi u,.int 1 v] },toks:=tk }:=I.kept fun b o e=>dH _ e
 refine ⟨(s.heap.push { cls:=.type "range",data:=.fields #[.int lo t,.int hi u,.int 1 v] }).objs.size,[(s.heap.push { cls:=.type "range",data:=.fields #[.int lo t,.int hi u,.int 1 v] }).objs.size],_,_,H,rfl,
  I1.kept (t':=tk) fun b o e=>dH _ e,yl _ lo (hi - lo).toNat,?_,fun b hb=>?_,q⟩
 · have e1:lo+((0:Nat):Int) * 1=lo:=by simp
   have e2:(((hi - lo).toNat:Nat):Int) - ((0:Nat):Int)=Builtin.Range.rangeSize lo hi 1:=by rw [rangeSize_one]; split <;> omega
   show IsRangeIter _ _ (lo+((0:Nat):Int) * 1) ((((hi - lo).toNat:Nat):Int) - ((0:Nat):Int)) 1
   rw [e1,e2]
   exact pd _ rfl
 · have e:b=(s.heap.push { cls:=.type "range",data:=.fields #[.int lo t,.int hi u,.int 1 v] }).objs.size:=by simpa using hb
   subst e
   exact I1.rS (cZ _) (I1.bB.fresh (cZ _))
def P4 (ta:TA):TI:=fun σ H R=>ta σ H fun vs H1=>∃ j:Int,vs=[.int j]∧-(2 ^ 62)≤j∧j < 2 ^ 62∧R (TF 0 j.toNat) H1
theorem Bv {a:Expr} {ta:TA} {p pos:Pos} (hg:Gl X "range") (hm:X.mg "range" = none) (ha:PA X [a] ta) (hs:starEach [a] X.env=[(false,eval a X.env)]:=by rfl):PI X tg (.Call (.Name "range" p) [a] [] pos) (P4 ta):=by
 intro pins s σ H R I h
 refine Call_ (kD I hg hm boot_range (Td (bT (ha pos pins s σ H _ I h) fun us s1 ⟨vs,H1,I1,r1,q1⟩=>?_) hs rfl))
 obtain ⟨j,e,q1,q2,q⟩:=q1
 subst e
 cases r1 with
 | cons r rr =>
   cases rr
   obtain ⟨t,rfl⟩:=r
   exact call_range_1 (Dz I1 (by omega) (by omega) q1 q2 (by simpa using q))
def U_ (wi:TI) (g:TG) (tb:TS):TS:=fun D σ H=>wi σ H fun J H1=>∃ W:Nat→Nat→St→Hp→Prop,(∃ m,W 0 m σ H1)∧∀ i m σ H,W i m σ H →
 (J.stop i H∧D.nx σ H)∨(J.go i H∧∃ N:St→Hp→Prop,(∀ σ' H',N σ' H'→∃ m',m' < m∧W (i+1) m' σ' H')∧∀ x H',J.O5 i H x H'→g x σ H' fun σ2 H2=>tb { D with nx:=N,ct:=N,bk:=D.nx } σ2 H2)
def pR (fp:List Addr) (h:Heap):List (Addr×Obj):=fp.filterMap fun b=>(h.get? b).map fun o=>(b,o)
theorem iB {fp:List Addr} {h:Heap} {b:Addr} {o:Obj} (hb:b∈fp) (e:h.get? b=some o):(b,o)∈pR fp h:=List.mem_filterMap.mpr ⟨b,hb,by rw [e]; rfl⟩
theorem Bw {fp:List Addr} {h:Heap} {p:Addr×Obj} (hp:p∈pR fp h):p.1∈fp∧h.get? p.1=some p.2:=by
 obtain ⟨b,hb,e⟩:=List.mem_filterMap.mp hp
 cases q:h.get? b with
 | none=>rw [q] at e; cases e
 | some o =>
   rw [q] at e
   have e':(b,o)=p:=Option.some.inj e
   subst e'
   exact ⟨hb,q⟩
theorem Inv.pinned {pins:List (Addr×Obj)} {σ:St} {H:Hp} {s:Shared} {fp:List Addr} (I:Inv X pins σ H s) (hf:∀ b∈fp,nh X pins H b) (ho:∀ b∈fp,∃ o,s.heap.get? b=some o∧∀ v,o.data≠.cell v):Inv X (pins ++ pR fp s.heap) σ H s :=
 I.Ap fun p hp=>(mY.mp hp).elim (fun z=>I.pin p (k8 _ z)) fun z=>by
  obtain ⟨hb,e⟩:=Bw z
  obtain ⟨f0,f1,f2,_⟩:=hf p.1 hb
  obtain ⟨o,e',d⟩:=ho p.1 hb
  rw [e] at e'; cases e'
  exact ⟨e,f0,f1,f2,d⟩
theorem Inv.lF {pins pl:List (Addr×Obj)} {σ:St} {H:Hp} {s:Shared} (I:Inv X (pins ++ pl) σ H s):Inv X pins σ H s:=I.Ap fun p hp=>I.pin p (k8 _ (mX _ hp))
theorem L1 {iter:Expr} {body:List Stmt} {wi:TI} {g:TG} {tb:TS} {pos:Pos} (hp:PassesOwn (model X.prog X.w) X.A X.env X.xe) (hc:X.calm=true) (hi:PI X tg iter wi) (hg:PG X tg g) (hb:oR X body tb)
  (hs:∀ x,foldedSetIterable iter X.env x=pure x:=by intro _; rfl):PS X (.For tg iter body [] pos) (U_ wi g tb):=by
 intro pins s σ H D I h
 refine wpAny_For (bT (hi pins s σ H _ I h) fun v s1 h1=>bT h1 fun TC s2 h2=>?_) hs
 obtain ⟨it,fp,tn,J,H2,e,I2,T,C_,f2,W,⟨m0,w0⟩,turn⟩:=h2
 subst e
 have L3:∀ {H':Hp},(∀ b∈fp,H' b=none)→∀ b∈fp,nh X pins H' b:=fun hn b hb=>⟨hn b hb,(f2 b hb).2⟩
 refine codeAny_forLoop_any (fun n s'=>∃ i σ' H',Inv X pins σ' H' s'∧tn i s'.heap∧(∀ b∈fp,H' b=none)∧W i n σ' H') ?_ m0 ⟨0,σ,H2,I2,C_,fun b hb=>(f2 b hb).1,w0⟩
 rintro n s3 ⟨i,σ3,H3,I3,P5,P6,w3⟩
 rcases turn i n σ3 H3 w3 with ⟨stop,qn⟩ | ⟨go,N,hN,step⟩
 · refine wpAny_passesOwn hp (bT (T.done X rfl rfl rfl hc i pins s3 σ3 H3 X.xe I3 (L3 P6) P5 stop) fun r s4 ⟨hr,I4⟩=>?_)
   subst hr
   exact wpAny_execs_nil ⟨σ3,H3,I4,qn⟩
 · refine wpAny_passesOwn hp (bT (T.item X rfl rfl rfl hc i pins s3 σ3 H3 X.xe I3 (L3 P6) P5 go) fun r s4 ⟨u,hr,h4⟩=>?_)
   subst hr
   refine wpAny_passesOwn hp (bT h4 fun _ s5 ⟨x,H5,I5,r5,y5,L4,U'⟩=>?_)
   have Y8:=I5.pinned (L3 U') (T.obj _ _ L4)
   refine wpAny_passesOwn hp (bT (hg _ s5 σ3 H5 x u _ Y8 r5 (step x H5 y5)) fun _ s6 ⟨σ6,H6,I6,q6⟩=>?_)
   refine wpAny_passesOwn hp (bT (hb _ s6 σ6 H6 _ I6 q6) fun f s7 q7=>?_)
   have again:∀ {σ7:St} {H7:Hp},Inv X (pins ++ pR fp s5.heap) σ7 H7 s7→N σ7 H7→∃ m,m < n∧∃ i σ' H',Inv X pins σ' H' s7∧tn i s7.heap∧(∀ b∈fp,H' b=none)∧W i m σ' H':=fun {σ7 H7} I7 n7=>by
    obtain ⟨m',hm,w7⟩:=hN σ7 H7 n7
    refine ⟨m',hm,i+1,σ7,H7,I7.lF,T.keep _ _ _ L4 fun b hb o e=>(I7.pin (b,o) (k8 _ (k8 _ (iB hb e)))).1,fun b hb=>?_,w7⟩
    obtain ⟨o,e,d⟩:=T.obj _ _ L4 b hb
    exact (I7.pin (b,o) (k8 _ (k8 _ (iB hb e)))).2.1
   cases f with
   | brk=>obtain ⟨σ7,H7,I7,q7⟩:=q7; exact ⟨σ7,H7,I7.lF,q7⟩
   | ret v=>obtain ⟨x7,σ7,H7,I7,r7,q7⟩:=q7; exact ⟨x7,σ7,H7,I7.lF,r7,q7⟩
   | _=>obtain ⟨σ7,H7,I7,n7⟩:=q7; exact again I7 n7
end
abbrev R2:=V→V→Hp→VK→Prop
def ff (X:Cx) (f:Value→Value→Sem Value) (r:R2):Prop :=
 ∀ (pins:List (Addr×Obj)) (s:Shared) (σ:St) (H:Hp) (x y:V) (v u:Value) (Q:VK),Inv X pins σ H s→RelV x v→RelV y u→r x y H Q →
  wpAny (model X.prog X.w) X.A (f v u) (EP X pins σ Q) X.xe s
def Va (X:Cx) (f:Value→Sem Value) (r:V→Hp→VK→Prop):Prop :=
 ∀ (pins:List (Addr×Obj)) (s:Shared) (σ:St) (H:Hp) (x:V) (v:Value) (Q:VK),Inv X pins σ H s→RelV x v→r x H Q →
  wpAny (model X.prog X.w) X.A (f v) (EP X pins σ Q) X.xe s
def dC (X:Cx) (f:Value) (r:List V→Hp→VK→Prop):Prop :=
 ∀ (pins:List (Addr×Obj)) (s:Shared) (σ:St) (H:Hp) (xs:List V) (us:List Value) (Q:VK),Inv X pins σ H s→Vals xs us→r xs H Q →
  wpAny (model X.prog X.w) X.A (call f us) (EP X pins σ Q) X.xe s
def P7 (r:R2) (ta tb:TE):TE:=fun σ H Q=>ta σ H fun x H1=>tb σ H1 fun y H2=>r x y H2 Q
def Y9 (r:V→Hp→VK→Prop) (ta:TE):TE:=fun σ H Q=>ta σ H fun x H1=>r x H1 Q
def rI (C:Int→Int→Prop) (g:Int→Int→V):R2:=fun x y H Q=>∃ i j,x = .int i∧y = .int j∧C i j∧Q (g i j) H
def uz (g:Int→Int→V):R2:=fun x y H Q=>∃ i j,x = .int i∧y = .int j∧Q (g i j) H
def rU (g:Int→V):V→Hp→VK→Prop:=fun x H Q=>∃ i,x = .int i∧Q (g i) H
section
variable {X:Cx} {a b c:Expr} {ta tb tc:TE} {pos:Pos}
theorem L5 (ha:PE X a ta) (hb:PE X b tb) {pins:List (Addr×Obj)} {s:Shared} {σ:St} {H:Hp} {R:V→V→Hp→Prop} (I:Inv X pins σ H s)
  (h:ta σ H fun x H1=>tb σ H1 fun y H2=>R x y H2) {Q:Value→Shared→Prop} {f:Value→Value→Sem Value}
  (hf:∀ v u s2 x y H2,Inv X pins σ H2 s2→RelV x v→RelV y u→R x y H2→wpAny (model X.prog X.w) X.A (f v u) Q X.xe s2) :
  wpAny (model X.prog X.w) X.A (eval a X.env) (fun v s₁=>wpAny (model X.prog X.w) X.A (eval b X.env) (fun u s₂=>wpAny (model X.prog X.w) X.A (f v u) Q X.xe s₂) X.xe s₁) X.xe s:=by
 refine bT (ha pins s σ H _ I h) fun v s1 ⟨x,H1,I1,r1,q1⟩=>?_
 refine bT (hb pins s1 σ H1 _ I1 q1) fun u s2 ⟨y,H2,I2,r2,q2⟩=>?_
 exact hf v u s2 x y H2 I2 r1 r2 q2
theorem Ks {op:Operator} {r:R2} (ho:ff X (binaryOp op) r) (ha:PE X a ta) (hb:PE X b tb):PE X (.BinOp a op b pos) (P7 r ta tb):=by
 intro pins s σ H Q I h
 exact wpAny_BinOp (L5 ha hb I h fun v u s2 x y H2 I2 rx ry q=>ho pins s2 σ H2 x y v u Q I2 rx ry q)
theorem P8 {op:UnaryOp} {r:V→Hp→VK→Prop} (ho:Va X (unaryOp op) r) (ha:PE X a ta):PE X (.UnaryOp op a pos) (Y9 r ta):=by
 intro pins s σ H Q I h
 exact UnaryOp_ (bT (ha pins s σ H _ I h) fun v s1 ⟨x,H1,I1,r1,q1⟩=>ho pins s1 σ H1 x v Q I1 r1 q1)
theorem TH {f:Value→Value→Sem Value} {C:Int→Int→Prop} {g:Int→Int→Int}
  (rule:∀ (i j:Int) (t u:Tok) (s:Shared) (Q:Value→Shared→Prop) (E:Value→Shared→Prop),C i j→Q (.int (g i j) s.toks) { s with toks:=s.toks+1 }→wpAny (model X.prog X.w) X.A (f (.int i t) (.int j u)) Q E s) :
  ff X f (rI C fun i j=>.int (g i j)):=by
 intro pins s σ H x y v u Q I rx ry h
 obtain ⟨i,j,rfl,rfl,hc,q⟩:=h
 obtain ⟨t,rfl⟩:=rx
 obtain ⟨t',rfl⟩:=ry
 exact rule i j t t' s _ _ hc ⟨.int (g i j),H,I.tok _,⟨_,rfl⟩,q⟩
theorem L6 {f:Value→Value→Sem Value} {g:Int→Int→Int}
  (rule:∀ (i j:Int) (t u:Tok) (s:Shared) (Q:Value→Shared→Prop) (E:Value→Shared→Prop),Q (.int (g i j) s.toks) { s with toks:=s.toks+1 }→wpAny (model X.prog X.w) X.A (f (.int i t) (.int j u)) Q E s) :
  ff X f (uz fun i j=>.int (g i j)):=by
 intro pins s σ H x y v u Q I rx ry h
 obtain ⟨i,j,rfl,rfl,q⟩:=h
 obtain ⟨t,rfl⟩:=rx
 obtain ⟨t',rfl⟩:=ry
 exact rule i j t t' s _ _ ⟨.int (g i j),H,I.tok _,⟨_,rfl⟩,q⟩
theorem L7 {f:Value→Value→Sem Value} {g:Int→Int→Bool}
  (rule:∀ (i j:Int) (t u:Tok) (s:Shared) (Q:Value→Shared→Prop) (E:Value→Shared→Prop),Q (.bool (g i j)) s→wpAny (model X.prog X.w) X.A (f (.int i t) (.int j u)) Q E s) :
  ff X f (uz fun i j=>.bl (g i j)):=by
 intro pins s σ H x y v u Q I rx ry h
 obtain ⟨i,j,rfl,rfl,q⟩:=h
 obtain ⟨t,rfl⟩:=rx
 obtain ⟨t',rfl⟩:=ry
 exact rule i j t t' s _ _ ⟨.bl (g i j),H,I,rfl,q⟩
def P9 (i j:Int):Prop:=0 < j∧j < 1073741824
def P_ (i j:Int):Prop:=0≤j∧j≤1000000∧i.natAbs < 2 ^ 64
def DA (i j:Int):Prop:=(-(2 ^ 64) < i∧i < 2 ^ 64)∨(-(2 ^ 64) < j∧j < 2 ^ 64)
theorem DA.ok {i j:Int} (h:DA i j):IntMulOk i j:=by
 rcases h with ⟨h1,h2⟩ | ⟨h1,h2⟩
 · exact .of_left (intBits_le_64 h1 h2)
 · exact .of_right (intBits_le_64 h1 h2)
theorem L8:ff X (binaryOp .Add) (uz fun i j=>.int (i+j)):=L6 fun _ _ _ _ _ _ _ q=>add_int q
theorem L9:ff X (binaryOp .Sub) (uz fun i j=>.int (i - j)):=L6 fun _ _ _ _ _ _ _ q=>sub_int q
theorem L_:ff X (binaryOp .Mult) (rI DA fun i j=>.int (i * j)):=TH fun _ _ _ _ _ _ _ hc q=>mul_int q hc.ok
theorem Ha:ff X (binaryOp .FloorDiv) (rI P9 fun i j=>.int (i / j)):=TH fun i j _ _ _ _ _ hc q=>by
 have h1:(0:Int) < j:=hc.1
 have h2:j < 1073741824:=hc.2
 exact floordiv_int (by omega) (by rw [Int.fdiv_eq_ediv_of_nonneg i (by omega)]; exact q) (.inl (PyProof.noPylong_small (by omega)))
theorem L':ff X (binaryOp .Mod) (rI (fun _ j=>0 < j) fun i j=>.int (i % j)):=TH fun i j _ _ _ _ _ hc q=>by
 have h1:(0:Int) < j:=hc
 exact mod_int' (by omega) (by rw [Int.fmod_eq_emod_of_nonneg i (by omega)]; exact q)
theorem Ma:ff X (binaryOp .Pow) (rI P_ fun i j=>.int (i ^ j.toNat)):=TH fun _ _ _ _ _ _ _ hc q=>pow_int_small hc.1 hc.2.1 hc.2.2 q
theorem Au:ff X (inplaceOp .Add) (uz fun i j=>.int (i+j)):=L6 fun _ _ _ _ _ _ _ q=>iadd_int q
theorem Y_ {f:Value→Sem Value} {g:Int→Int}
  (rule:∀ (i:Int) (t:Tok) (s:Shared) (Q:Value→Shared→Prop) (E:Value→Shared→Prop),Q (.int (g i) s.toks) { s with toks:=s.toks+1 }→wpAny (model X.prog X.w) X.A (f (.int i t)) Q E s) :
  Va X f (rU fun i=>.int (g i)):=by
 intro pins s σ H x v Q I rx h
 obtain ⟨i,rfl,q⟩:=h
 obtain ⟨t,rfl⟩:=rx
 exact rule i t s _ _ ⟨.int (g i),H,I.tok _,⟨_,rfl⟩,q⟩
theorem Mb:Va X (unaryOp .USub) (rU fun i=>.int (-i)):=Y_ fun _ _ _ _ _ q=>neg_int q
end
section
variable {X:Cx} {a b c:Expr} {ta tb tc:TE} {pos:Pos}
theorem ym {pins:List (Addr×Obj)} {σ:St} {H:Hp} {s:Shared} {Q:VK} {k k':Bool} (I:Inv X pins σ H s) (q:Q (.bl k) H) (e:k=k'):EP X pins σ Q (.bool k') s:=by
 subst e
 exact ⟨.bl k,H,I,rfl,q⟩
theorem DB:ff X (compareOp .Lt) (uz fun i j=>.bl (decide (i < j))):=L7 fun _ _ _ _ _ _ _ q=>lt_int q
theorem Av:ff X (compareOp .LtE) (uz fun i j=>.bl (decide (i≤j))):=L7 fun _ _ _ _ _ _ _ q=>le_int q
theorem P':ff X (compareOp .Gt) (uz fun i j=>.bl (decide (j < i))):=L7 fun _ _ _ _ _ _ _ q=>gt_int q
theorem By:ff X (compareOp .In) (fun x y H Q=>∃ i j,x = .str i∧y = .str j∧Q (.bl (!(Builtin.Str.occurrences j i 0 j.length 1).isEmpty)) H):=by
 intro pins s σ H x y v u Q I rx ry h
 obtain ⟨i,j,rfl,rfl,q⟩:=h
 obtain ⟨t,rfl⟩:=rx
 obtain ⟨t',rfl⟩:=ry
 exact in_str (ym I q rfl)
theorem Mc:ff X (compareOp .Is) (fun x y H Q=>y = .bb∧Q (.bl (decide (x = .bb))) H):=by
 intro pins s σ H x y v u Q I rx ry h
 obtain ⟨rfl,q⟩:=h
 cases ry
 refine is_none_gen (ym I q ?_)
 cases x <;> first
  | (cases rx; rfl)
  | (obtain ⟨t,rfl⟩:=rx; rfl)
theorem Hb:ff X (compareOp .IsNot) (fun x y H Q=>y = .bb∧Q (.bl (!decide (x = .bb))) H):=by
 intro pins s σ H x y v u Q I rx ry h
 obtain ⟨rfl,q⟩:=h
 cases ry
 refine isnot_none_gen (ym I q ?_)
 cases x <;> first
  | (cases rx; rfl)
  | (obtain ⟨t,rfl⟩:=rx; rfl)
theorem ff.or {f:Value→Value→Sem Value} {r r':R2} (h:ff X f r) (h':ff X f r'):ff X f (fun x y H Q=>r x y H Q∨r' x y H Q):=by
 intro pins s σ H x y v u Q I rx ry q
 rcases q with q | q
 · exact h pins s σ H x y v u Q I rx ry q
 · exact h' pins s σ H x y v u Q I rx ry q
theorem ji (b:Expr) {op:CmpOp} (h:op≠.In:=by decide) (h2:op≠.NotIn:=by decide):behindInMarks op b=false:=by
 have e1:(op == CmpOp.In)=false:=by cases op <;> first | rfl | exact absurd rfl h
 have e2:(op == CmpOp.NotIn)=false:=by cases op <;> first | rfl | exact absurd rfl h2
 cases b <;> simp [behindInMarks,e1,e2]
theorem Hc {op:CmpOp} {r:R2} (ho:ff X (compareOp op) r) (ha:PE X a ta) (hb:PE X b tb) (hm:behindInMarks op b=false):PE X (.Compare a [op] [b] pos) (P7 r ta tb):=by
 intro pins s σ H Q I h
 exact wpAny_Compare1 (L5 ha hb I h fun v u s2 x y H2 I2 rx ry q=>ho pins s2 σ H2 x y v u Q I2 rx ry q) hm
def Kt (t:TE):TT:=fun σ H Q=>t σ H fun x H'=>∃ k,x = .bl k∧Q k H'
theorem He {op:CmpOp} {r:R2} (ho:ff X (compareOp op) r) (ha:PE X a ta) (hb:PE X b tb) (hm:behindInMarks op b=false):PT X (.Compare a [op] [b] pos) (Kt (P7 r ta tb)):=by
 intro pins s σ H Q I h
 refine wpAny_isTrue_Compare1 (bT (ha pins s σ H _ I h) fun v s1 ⟨x,H1,I1,r1,q1⟩=>bT (hb pins s1 σ H1 _ I1 q1) fun u s2 ⟨y,H2,I2,r2,q2⟩ =>
  bT (ho pins s2 σ H2 x y v u _ I2 r1 r2 q2) fun c s3 ⟨z,H3,I3,r3,k,e,q3⟩=>?_) hm
 subst e
 cases r3
 exact wpAny_truthy_bool ⟨H3,I3,q3⟩
def yn (r r':R2) (ta tb tc:TE):TE:=fun σ H Q=>ta σ H fun x H1=>tb σ H1 fun y H2=>r x y H2 fun z H3=>∃ k,z = .bl k ∧
 (if k=true then tc σ H3 fun w' H4=>r' y w' H4 Q else Q (.bl false) H3)
theorem DC {op yo:CmpOp} {r r':R2} (ho:ff X (compareOp op) r) (m9:ff X (compareOp yo) r') (ha:PE X a ta) (hb:PE X b tb) (hc:PE X c tc)
  (hm:lastMarks [op,yo] [b,c]=false:=by with_unfolding_all rfl):PE X (.Compare a [op,yo] [b,c] pos) (yn r r' ta tb tc):=by
 intro pins s σ H Q I h
 refine Compare_chain (bT (ha pins s σ H _ I h) fun v s1 ⟨x,H1,I1,r1,q1⟩=>chain_link (bT (hb pins s1 σ H1 _ I1 q1) fun u s2 ⟨y,H2,I2,r2,q2⟩ =>
  bT (ho pins s2 σ H2 x y v u _ I2 r1 r2 q2) fun d s3 ⟨z,H3,I3,r3,k,e,q3⟩=>?_)) hm
 subst e
 cases r3
 refine wpAny_truthy_bool ?_
 cases k with
 | false=>exact ite_ff ⟨.bl false,H3,I3,rfl,q3⟩
 | true=>exact ite_tt (chain_last (bT (hc pins s3 σ H3 _ I3 q3) fun w' s4 ⟨z',H4,I4,r4,q4⟩=>m9 pins s4 σ H4 y z' u w' Q I4 r2 r4 q4))
theorem DD {op yo:CmpOp} {r r':R2} (ho:ff X (compareOp op) r) (m9:ff X (compareOp yo) r') (ha:PE X a ta) (hb:PE X b tb) (hc:PE X c tc)
  (hm:lastMarks [op,yo] [b,c]=false:=by with_unfolding_all rfl):PT X (.Compare a [op,yo] [b,c] pos) (Kt (yn r r' ta tb tc)):=by
 intro pins s σ H Q I h
 refine isTrue_chain (bT (ha pins s σ H _ I h) fun v s1 ⟨x,H1,I1,r1,q1⟩=>test_link (bT (hb pins s1 σ H1 _ I1 q1) fun u s2 ⟨y,H2,I2,r2,q2⟩ =>
  bT (ho pins s2 σ H2 x y v u _ I2 r1 r2 q2) fun d s3 ⟨z,H3,I3,r3,k,e,q3⟩=>?_)) hm
 subst e
 cases r3
 refine wpAny_truthy_bool ?_
 cases k with
 | false =>
   obtain ⟨k',e',q'⟩:=q3
   cases e'
   exact ite_ff ⟨H3,I3,q'⟩
 | true =>
   refine ite_tt (test_last (bT (hc pins s3 σ H3 _ I3 q3) fun w' s4 ⟨z',H4,I4,r4,q4⟩=>bT (m9 pins s4 σ H4 y z' u w' _ I4 r2 r4 q4) fun d' s5 ⟨z2,H5,I5,r5,k2,e2,q5⟩=>?_))
   subst e2
   cases r5
   exact wpAny_truthy_bool ⟨H5,I5,q5⟩
theorem ni:(sizeLine:Nat) < 2 ^ 63:=by rw [sizeLine_eq]; decide
theorem yp:ff X (binaryOp .Add) (fun x y H Q=>∃ i j,x = .str i∧y = .str j∧i.length+j.length≤sizeLine∧Q (.str (i ++ j)) H):=by
 intro pins s σ H x y v u Q I rx ry h
 obtain ⟨i,j,rfl,rfl,hz,q⟩:=h
 obtain ⟨t,rfl⟩:=rx
 obtain ⟨t',rfl⟩:=ry
 exact add_str (fun t' tk=>⟨.str (i ++ j),H,I.tok _,⟨_,rfl⟩,q⟩) hz
theorem vals1 {x:V} {us:List Value} (r:Vals [x] us):∃ u,us=[u]∧RelV x u:=by
 cases r with
 | cons r1 r2=>cases r2; exact ⟨_,rfl,r1⟩
theorem vals2 {x y:V} {us:List Value} (r:Vals [x,y] us):∃ u w',us=[u,w']∧RelV x u∧RelV y w':=by
 cases r with
 | cons r1 r2 =>
   cases r2 with
   | cons r3 r4=>cases r4; exact ⟨_,_,rfl,r1,r3⟩
theorem Bz:dC X (.type "int") (fun xs H Q=>(∃ i,xs=[.int i]∧Q (.int i) H)∨∃ k,xs=[.bl k]∧Q (.int (if k then 1 else 0)) H):=by
 intro pins s σ H xs us Q I r h
 rcases h with ⟨i,rfl,q⟩ | ⟨k,rfl,q⟩
 · obtain ⟨u,rfl,t,rfl⟩:=vals1 r
   exact call_int_int ⟨.int i,H,I,⟨_,rfl⟩,q⟩
 · obtain ⟨u,rfl,r1⟩:=vals1 r
   cases r1
   exact call_int_bool ⟨.int (if k then 1 else 0),H,I.tok _,⟨_,rfl⟩,q⟩
end
section
variable {prog:Program} {w:World} {A:Around} {E:Value→Shared→Prop} {s:Shared} {K:PySem.W.Frag} {x dx C f:Addr} {mA:Str→Option Value} {name:Str} {v:Value}
end
theorem kC.some_of {v:V} {o:Option Value} (r:kC (some v) o):∃ u,o=some u∧RelV v u:=by
 cases o with
 | none=>exact (show False from r).elim
 | some u=>exact ⟨u,rfl,r⟩
section
variable {P:Program} {w:World} {H H':Hp} {h h':Heap} {a C dx:Addr} {fs PH:List (Str×V)}
end
structure X6 (K:PySem.W.Frag) (C:Addr):Prop where
 pg:PySem.W.plainGet K C Str.empty=true
 hd:PySem.W.hasDictIn K C=true
 po:PySem.W.plainOver K C=true
 sa:PySem.W.findIn K (.ref C) "__setattr__" = some (some (.builtin "object.__setattr__"))
theorem X6.get {K:PySem.W.Frag} {C:Addr} (c:X6 K C) (f:Str):PySem.W.plainGet K C f=true:=c.pg
section
variable {X:Cx} {pins:List (Addr×Obj)} {σ:St} {H:Hp} {s:Shared} {a C dx:Addr} {fs:List (Str×V)} {f:Str} {v:V} {A:Around} {E:Value→Shared→Prop}
theorem Inv.made (I:Inv X pins σ H s):Inv X pins σ (upd (upd H s.heap.objs.size (.own (s.heap.objs.size+1))) (s.heap.objs.size+1) (.ins C s.heap.objs.size []))
  { s with heap:=(s.heap.push PySem.W.emptyDict).push (PySem.W.instObj C s.heap.objs.size) }:=by
 have e1:(s.heap.push PySem.W.emptyDict).get? s.heap.objs.size=some PySem.W.emptyDict:=pd s.heap rfl
 have e2:((s.heap.push PySem.W.emptyDict).push (PySem.W.instObj C s.heap.objs.size)).get? (s.heap.objs.size+1)=some (PySem.W.instObj C s.heap.objs.size):=by
  have:=pd (s.heap.push PySem.W.emptyDict) (o:=PySem.W.instObj C s.heap.objs.size) rfl
  rwa [yg] at this
 have e3:(s.heap.push PySem.W.emptyDict).Ns s.heap.objs.size (fun _=>none):=⟨PySem.W.emptyDict,#[],_,e1,rfl,(fun e he=>absurd he (by simp)),fun _=>rfl⟩
 have I1:=I.laid (a:=s.heap.objs.size) (o:=.own (s.heap.objs.size+1)) (h':=s.heap.push PySem.W.emptyDict) (t':=s.toks) (fun b u q=>dH _ q) (cZ _) ⟨_,e1⟩
 refine I1.laid (a:=s.heap.objs.size+1) (o:=.ins C s.heap.objs.size []) (t':=s.toks) (fun b u q=>dH _ q) (Nat.le_of_eq (yg _ _)) ?_
 have ne:s.heap.objs.size≠s.heap.objs.size+1:=iu (GR _)
 refine ⟨by rw [aK ne,aQ],ph _,ne,e2,fun _=>none,(Heap.Ns1.of_empty e3).at fun o q=>dH _ q,fun _=>True.intro,fun y hy=>absurd rfl hy⟩
theorem Hf {prog:Program} {w:World} {env:Env} {e:Expr} {f:Str} {pos:Pos} {s:Shared} {Q:Value→Shared→Prop} (hb:attributeBase e f env (eval e env)=eval e env)
  (h:wpAny (model prog w) A (eval e env) (fun o s₁=>wpAny (model prog w) A (getAttr o f true) Q E s₁) E s):wpAny (model prog w) A (eval (.Attribute e f pos) env) Q E s :=
 Attribute_any_ h (by rw [arm_eval_Attribute,hb])
end
section
variable {X:Cx} {o e value:Expr} {f:Str} {pos pos' rT:Pos} {ta tv:TE}
end
section
variable {X:Cx} {pins:List (Addr×Obj)} {σ:St} {H:Hp} {s:Shared} {A:Around} {E:Value→Shared→Prop} {Q:Value→Shared→Prop} {c:Value} {b:Bool}
end
structure bj (k:Nat) (A:Around):Prop where
 hd:A.handled=none
 dp:A.depth+3 * k+5 < recursionLimit
 un:A.units+16 * k+200 < cLine
theorem bj.mono {j k:Nat} {A:Around} (r:bj k A) (h:j≤k):bj j A:=⟨r.hd,by have:=r.dp; omega,by have:=r.un; omega⟩
theorem bj.deeper {k:Nat} {A:Around} (r:bj (k+1) A) (env:Env):bj k (A.deeper env) :=
 ⟨r.hd,by have:=r.dp; show A.depth+1+3 * k+5 < _; omega,by have:=r.un; show A.units+3+16 * k+200 < _; omega⟩
theorem bj.in1 {k:Nat} {A:Around} (r:bj (k+1) A):bj k A.in1 :=
 ⟨r.hd,by have:=r.dp; show A.depth+3 * k+5 < _; omega,by have:=r.un; show A.units+1+16 * k+200 < _; omega⟩
theorem yq {A:Around} {C:Addr} {us:List Value} {kw:List (Str×Value)}:(A.under (.builtin "type.__call__" ⟨.ref C :: us,kw⟩)).depth=A.depth+1:=by
 first | rfl | simp [Around.under,Code.weight,Code.isCreation,Code.isGuard,Code.isCaller,Code.frames,Code.isFrame,guardIds]
theorem yr {A:Around} {C:Addr} {us:List Value} {kw:List (Str×Value)}:(A.under (.builtin "type.__call__" ⟨.ref C :: us,kw⟩)).units=A.units+1:=by
 first | rfl | simp [Around.under,Code.cUnits,Code.frames,Code.isFrame]
theorem bj.make {k:Nat} {A:Around} (r:bj (k+1) A) (C:Addr) (us:List Value) (kw:List (Str×Value)):bj k (A.under (.builtin "type.__call__" ⟨.ref C :: us,kw⟩)) :=
 ⟨r.hd,by have:=r.dp; rw [yq]; omega,by have:=r.un; rw [yr]; omega⟩
theorem bj.depth {k:Nat} {A:Around} (r:bj k A):A.depth < recursionLimit:=by have:=r.dp; omega
theorem bj.units {k:Nat} {A:Around} (r:bj k A):A.units+64 < cLine:=by have:=r.un; omega
def Md:TA:=fun _ H Q=>Q [] H
def DE (ta:TE) (tr:TA):TA:=fun σ H Q=>ta σ H fun x H1=>tr σ H1 fun xs H2=>Q (x :: xs) H2
section
variable {X:Cx} {e:Expr} {es:List Expr} {te:TE} {t:TA} {pos:Pos}
theorem cb:PA X [] Md:=fun _ _ _ _ H Q I h=>Calls.spliced_nil ⟨[],H,I,.nil,h⟩
theorem ba (ha:PE X e te) (hr:PA X es t) (hs:starEach (e :: es) X.env=(false,eval e X.env) :: starEach es X.env:=by rfl):PA X (e :: es) (DE te t):=by
 intro pos pins s σ H Q I h
 rw [hs]
 show wpAny _ _ (spliced ((false,eval e X.env) :: backTo pos (starEach es X.env))) _ _ s
 refine Calls.spliced_cons (bT (ha pins s σ H _ I h) fun u s1 ⟨x,H1,I1,r1,q1⟩=>?_)
 exact bT (hr pos pins s1 σ H1 _ I1 q1) fun us s2 ⟨xs,H2,I2,r2,q2⟩=>⟨x :: xs,H2,I2,.cons r1 r2,q2⟩
def Vb (t:TA):TE:=fun σ H Q=>t σ H fun xs H1=>xs.length≤sizeLine∧∀ p,H1 p=none→Q (.ref p) (upd H1 p (.tup xs))
def Vc (t:TA):TE:=fun σ H Q=>t σ H fun xs H1=>xs.length≤sizeLine∧∀ p,H1 p=none→Q (.ref p) (upd H1 p (.lst xs))
theorem DF {x1} (h:PA X es t):PE X (.Tuple es x1 pos) (Vb t):=by
 intro pins s σ H Q I hq
 refine wpAny_Tuple_spliced (bT (h pos pins s σ H _ I hq) fun us s1 ⟨xs,H1,I1,r,z,q⟩=>⟨by rw [← r.length]; exact z,?_⟩)
 have hf:H1 s1.heap.objs.size=none:=I1.bB.fresh (cZ _)
 refine ⟨.ref s1.heap.objs.size,upd H1 s1.heap.objs.size (.tup xs),I1.laid (t':=s1.toks) (fun b u e=>dH _ e) (cZ _) ?_,rfl,q _ hf⟩
 exact ⟨z,us,r,⟨_,pd _ rfl,rfl,_,rfl⟩⟩
theorem Me (h:PA X es t):PE X (.List es pos) (Vc t):=by
 intro pins s σ H Q I hq
 refine wpAny_List_spliced (bT (h pos pins s σ H _ I hq) fun us s1 ⟨xs,H1,I1,r,z,q⟩=>⟨by rw [← r.length]; exact z,?_⟩)
 have hf:H1 s1.heap.objs.size=none:=I1.bB.fresh (cZ _)
 refine ⟨.ref s1.heap.objs.size,upd H1 s1.heap.objs.size (.lst xs),I1.laid (t':=s1.toks) (fun b u e=>dH _ e) (cZ _) ?_,rfl,q _ hf⟩
 exact ⟨z,us,0,r,pd _ rfl⟩
end
abbrev Sp:=List V→Hp→VK→XK→Prop
abbrev yt:=List Env→Hp→Shared→XK→Value→Shared→Prop
structure rV (P:Program) (w:World) (K:PySem.W.Frag) (mg:Str→Option Value) (base:Heap) (A:Around) (outer:List Env) (s:Shared) (H:Hp):Prop where
 frames:A.frames=some outer
 mod:Mod K mg base
 bs:∀ b o,base.get? b=some o→s.heap.get? b=some o∧H b=none
 C9:base.objs.size≤s.heap.objs.size
 lp:s.heap.FunFrames base outer
 G3:∀ b∈ll outer,H b=none
 bB:ki P w H s.heap
 bare:AllBare s.gens
def CE (outer:List Env) (P:Program) (w:World) (H:Hp) (s:Shared) (Q:VK) (u:Value) (s':Shared):Prop :=
 ∃ v H',s'.os=s.os∧AllBare s'.gens∧Un (ll outer) [] H H' s.heap s'.heap∧ki P w H' s'.heap∧RelV v u∧Q v H'
def CR (CX:yt) (outer:List Env) (P:Program) (w:World) (H:Hp) (s:Shared) (Q:VK) (E:XK) (r:Result) (s':Shared):Prop :=
 match r with
 | .ok (.ret u)=>CE outer P w H s Q u s'
 | .ok _=>False
 | .error e=>CX outer H s E e s'
structure cF (P:Program) (w:World) (K:PySem.W.Frag) (mg:Str→Option Value) (base:Heap) (CX:yt) (k:Nat) (f:Addr) (fd:FuncData) (ps:List Str) (sp:Sp):Prop where
 len:∀ vs H Q E,sp vs H Q E→vs.length=ps.length
 run:∀ (A:Around) (outer:List Env) (s:Shared) (H:Hp) (args:Args) (us:List Value) (vs:List V) (Q:VK) (E:XK),bj k A→rV P w K mg base A outer s H→BindsTo s fd args (ps.zip us)→Vals vs us→sp vs H Q E →
  codeAny (model P w) A (.call (.ref f) args) (CR CX outer P w H s Q E) s
theorem cF.mono {P:Program} {w:World} {K:PySem.W.Frag} {mg:Str→Option Value} {base:Heap} {CX:yt} {j k:Nat} {f:Addr} {fd:FuncData} {ps:List Str} {sp:Sp} (F:cF P w K mg base CX j f fd ps sp) (h:j≤k) :
 cF P w K mg base CX k f fd ps sp:=⟨F.len,fun A outer s H args us vs Q E hr=>F.run A outer s H args us vs Q E (hr.mono h)⟩
theorem cF.imp {P:Program} {w:World} {K:PySem.W.Frag} {mg:Str→Option Value} {base:Heap} {CX:yt} {k:Nat} {f:Addr} {fd:FuncData} {ps:List Str} {sp X7:Sp} (F:cF P w K mg base CX k f fd ps sp)
  (h:∀ vs H Q E,X7 vs H Q E→sp vs H Q E):cF P w K mg base CX k f fd ps X7 :=
 ⟨fun vs H Q E q=>F.len vs H Q E (h _ _ _ _ q),fun A outer s H args us vs Q E hr he hb hv hs=>F.run A outer s H args us vs Q E hr he hb hv (h _ _ _ _ hs)⟩
theorem rV.make {P:Program} {w:World} {K:PySem.W.Frag} {mg:Str→Option Value} {base:Heap} {A:Around} {outer:List Env} {s:Shared} {H:Hp} (e:rV P w K mg base A outer s H) (C:Addr) (us:List Value) (kw:List (Str×Value)) :
 rV P w K mg base (A.under (.builtin "type.__call__" ⟨.ref C :: us,kw⟩)) outer s H:=⟨by first | exact e.frames | (simpa [Around.under,Code.envs,Code.isFrame,pushEnvs] using e.frames),e.mod,e.bs,e.C9,e.lp,e.G3,e.bB,e.bare⟩
theorem rV.in1 {P:Program} {w:World} {K:PySem.W.Frag} {mg:Str→Option Value} {base:Heap} {A:Around} {outer:List Env} {s:Shared} {H:Hp} (e:rV P w K mg base A outer s H) :
 rV P w K mg base A.in1 outer s H:=⟨e.frames,e.mod,e.bs,e.C9,e.lp,e.G3,e.bB,e.bare⟩
section
variable {X:Cx} {pins:List (Addr×Obj)} {σ:St} {H:Hp} {s s':Shared}
theorem Inv.Mf (I:Inv X pins σ H s):rV X.prog X.w X.K X.mg X.base X.A X.stack s H :=
 ⟨I.ok.frames,I.ok.mod,I.bs,oq I.ok.C9 I.sz,I.stack,I.pj,I.bB,I.bare⟩
theorem Inv.after {Q:VK} {u:Value} (I:Inv X pins σ H s) (h:CE X.stack X.prog X.w H s Q u s'):EP X pins σ Q u s':=by
 obtain ⟨v,H',os,bare,un,bB,r,q⟩:=h
 obtain ⟨hh,g,d,t,Qa⟩:=s'
 obtain rfl:Qa=s.os:=os
 exact ⟨v,H',I.call (h':=hh) (g':=g) (d':=d) (t':=t) (ch:=[]) un bB bare (fun b z=>absurd z (by simp)),r,q⟩
end
def Qb (sp:Sp) (Hg:List V) (E:XK) (t:TA):TE:=fun σ H Q=>t σ H fun vs H1=>sp (vs ++ Hg) H1 Q E
def Binds (K:PySem.W.Frag) (fd:FuncData) (ps:List Str) (ds:List Value):Prop :=
 ∀ (s:Shared) (us:List Value),K.In s.heap→(us ++ ds).length=ps.length→BindsTo s fd ⟨us,[]⟩ (ps.zip (us ++ ds))
theorem Binds.all {K:PySem.W.Frag} {fd:FuncData} {ps:List Str} (h:∀ us:List Value,us.length=ps.length→bindArgs fd ⟨us,[]⟩=pure (ps.zip us)):Binds K fd ps []:=fun s us _ hl=>by
 rw [Dm] at hl ⊢
 exact .of_eq (h us hl)
def Passes (CX:yt) (X:Cx) (E:XK):Prop:=∀ (pins:List (Addr×Obj)) (σ:St) (H:Hp) (s:Shared) (e:Value) (s':Shared),Inv X pins σ H s→CX X.stack H s E e s'→X.xe e s'
section
variable {X:Cx} {CX:yt} {k:Nat} {f C:Addr} {fd:FuncData} {ps:List Str} {sp:Sp} {Hg:List V} {ds:List Value} {E:XK} {x m:Str} {p pos apos:Pos} {e o:Expr} {es:List Expr} {ta:TE} {t:TA}
theorem DG {pins:List (Addr×Obj)} {σ:St} {H:Hp} {s:Shared} {Q:VK} {us:List Value} {vs:List V} (F:cF X.prog X.w X.K X.mg X.base CX k f fd ps sp) (hr:bj k X.A) (hb:Binds X.K fd ps ds) (hd:Vals Hg ds) (hx:Passes CX X E)
  (I:Inv X pins σ H s) (r:Vals vs us) (h:sp (vs ++ Hg) H Q E):wpAny (model X.prog X.w) X.A (call (.ref f) us) (EP X pins σ Q) X.xe s:=by
 have r2:Vals (vs ++ Hg) (us ++ ds):=r.append hd
 have hl:(us ++ ds).length=ps.length:=by rw [← r2.length]; exact F.len _ _ _ _ h
 refine wpAny_call (codeAny_mono (F.run X.A X.stack s H ⟨us,[]⟩ (us ++ ds) (vs ++ Hg) Q E hr I.Mf (hb s us I.kq hl) r2 h) fun r s' hq=>?_)
 cases r with
 | error e=>exact hx pins σ H s e s' I hq
 | ok fl =>
   cases fl with
   | ret u=>exact I.after hq
   | _=>exact False.elim hq
theorem j4 (F:cF X.prog X.w X.K X.mg X.base CX k f fd ps sp) (hr:bj k X.A) (hg:Gl X x) (hm:X.mg x=some (.ref f)) (hk:PySem.W.keepIn X.K (.ref f)=true) (hb:Binds X.K fd ps ds) (hd:Vals Hg ds) (hx:Passes CX X E)
  (ha:PA X (e :: es) t) (lH:gk x:=by decide) (he:starEach (e :: es) X.env=(false,eval e X.env) :: starEach es X.env:=by rfl) (gj:(backTo pos (starEach es X.env)).any (·.1)=false:=by rfl) :
  PE X (.Call (.Name x p) (e :: es) [] pos) (Qb sp Hg E t):=by
 intro pins s σ H Q I h
 refine wpAny_Call_Name_kw (iA I hg hm ?_ lH)
 refine Px (h₀:=X.base) I.ok.mod.LK hk (bT (ha pos pins s σ H _ I h) fun us s1 ⟨vs,H1,I1,r,q⟩=>⟨I1.kq,?_⟩) he gj
 exact DG F hr hb hd hx I1 r q
structure Mk (K:PySem.W.Frag) (C f:Addr):Prop where
 makes:PySem.W.makesIn K C=true
 init:PySem.W.findIn K (.ref C) "__init__" = some (some (.ref f))
 fn:PySem.W.isFn K (.ref f)=true
 kp:PySem.W.keepIn K (.ref C)=true
end
section
variable {X:Cx} {CX:yt} {k:Nat} {f C:Addr} {fd:FuncData} {ps ks:List Str} {sp:Sp} {E:XK} {x m:Str} {p pos apos Vd:Pos} {e o:Expr} {es:List Expr} {Y':List Keyword} {te ta:TE} {t tk:TA} {nm:Option Str}
variable {g:List Value→List Value→List Value} {gV:List V→List V→List V}
end
structure aH (N P:List Str) (sc:Scope):Prop where
 kind:sc.kind = .function
 co:sc.isCoroutine=false
 gen:sc.isGenerator=false
 nd:N.Nodup
 pre:N.take P.length=P
 par:∀ x∈P,sc.names.lookup x=some .local∨sc.names.lookup x=some .cell
 Mg:∀ y∈sc.names,y.2≠.free
theorem gE {N P:List Str} {sc:Scope} (a:sc.kind=.function:=by rfl) (b:sc.isCoroutine=false:=by rfl) (c:sc.isGenerator=false:=by rfl) (d:N.Nodup:=by decide +kernel) (e:N.take P.length=P:=by rfl) (f:∀ x∈P,sc.names.lookup x=some .local∨sc.names.lookup x=some .cell:=by decide +kernel) (g:∀ y∈sc.names,y.2≠.free:=by decide +kernel):aH N P sc:=⟨a,b,c,d,e,f,g⟩
theorem sU {kindOf:Str→Option NameKind} {x:Str}:∀ {binds:List (Str×Value)} {m:Str→Option Value},(∀ v,(x,v)∉binds)→bindL kindOf binds m x=m x
 | [],_,_=>rfl
 | (n,v) :: r,m,h=>by
   unfold bindL
   rw [sU fun w hw=>h w (i_ _ hw)]
   split
   · have:x≠n:=by rintro rfl; exact h v gq
     simp [this]
   · rfl
theorem sV {kindOf:Str→Option NameKind} {x:Str}:∀ {binds:List (Str×Value)} {m:Str→Option Value},(∀ v,(x,v)∉binds)→bindC kindOf binds m x=m x
 | [],_,_=>rfl
 | (n,v) :: r,m,h=>by
   unfold bindC
   rw [sV fun w hw=>h w (i_ _ hw)]
   split
   · rfl
   · have:x≠n:=by rintro rfl; exact h v gq
     simp [this]
theorem sW {kindOf:Str→Option NameKind} {x:Str} {v:Value}:∀ {P:List Str} {vs:List Value} {i:Nat} {m:Str→Option Value},P.Nodup→P[i]?=some x→vs[i]?=some v→kindOf x=some .local →
  bindL kindOf (P.zip vs) m x=some v
 | [],_,_,_,_,h,_,_=>by simp at h
 | _ :: _,[],_,_,_,_,h,_=>by simp at h
 | p :: P,w :: vs,0,m,nd,h1,h2,hk=>by
   simp at h1 h2; subst h1; subst h2
   show bindL kindOf ((p,w) :: P.zip vs) m p=_
   unfold bindL
   rw [sU fun v hv=>(rP.mp nd).1 (List.of_mem_zip hv).1,if_pos hk]
   simp
 | p :: P,w :: vs,i+1,m,nd,h1,h2,hk=>by
   show bindL kindOf ((p,w) :: P.zip vs) m x=_
   unfold bindL
   exact sW (i:=i) (rP.mp nd).2 (by simpa using h1) (by simpa using h2) hk
theorem sX {kindOf:Str→Option NameKind} {x:Str} {v:Value}:∀ {P:List Str} {vs:List Value} {i:Nat} {m:Str→Option Value},P.Nodup→P[i]?=some x→vs[i]?=some v→kindOf x≠some .local →
  bindC kindOf (P.zip vs) m x=some v
 | [],_,_,_,_,h,_,_=>by simp at h
 | _ :: _,[],_,_,_,_,h,_=>by simp at h
 | p :: P,w :: vs,0,m,nd,h1,h2,hk=>by
   simp at h1 h2; subst h1; subst h2
   show bindC kindOf ((p,w) :: P.zip vs) m p=_
   unfold bindC
   rw [sV fun v hv=>(rP.mp nd).1 (List.of_mem_zip hv).1,if_neg hk]
   simp
 | p :: P,w :: vs,i+1,m,nd,h1,h2,hk=>by
   show bindC kindOf ((p,w) :: P.zip vs) m x=_
   unfold bindC
   exact sX (i:=i) (rP.mp nd).2 (by simpa using h1) (by simpa using h2) hk
def start (N:List Str) (vs:List V):St:=vs.map some ++ List.replicate (N.length - vs.length) none
def dy (CX:yt) (P:Program) (w:World) (K:PySem.W.Frag) (mg:Str→Option Value) (base:Heap) (N:List Str) (qual:Str) (scope:Scope) (f:Addr) (cd:Value) (A:Around) (outer:List Env) (s:Shared) (H:Hp) (E:XK):Cx where
 prog:=P
 w:=w
 K:=K
 mg:=mg
 base:=base
 A:=A.deeper (envOfC qual scope s.heap.objs.size f cd)
 N:=N
 s₀:=s
 H₀:=H
 env:=envOfC qual scope s.heap.objs.size f cd
 outer:=outer
 stack:=envOfC qual scope s.heap.objs.size f cd :: outer
 ex:=[]
 calm:=true
 fn:=fun _=>true
 pn:=[]
 xe:=fun e s'=>wpAny (model P w) (A.deeper (envOfC qual scope s.heap.objs.size f cd)) (leaving (envOfC qual scope s.heap.objs.size f cd) e) (fun _ Mh=>CX outer H s E e Mh) (fun e' Mh=>CX outer H s E e' Mh) s'
theorem v7 {sc:Scope} {n:Nat} {x:Str} (h:sc.names.lookup x=some .cell):∃ c,(cellsFrom n sc.names []).lookup x=some c:=by
 have q:=PySem.W.cellsFrom_some sc.names n [] (.inl h)
 exact UC.mp q
theorem BA {CX:yt} {P:Program} {w:World} {K:PySem.W.Frag} {mg:Str→Option Value} {base:Heap} {N ps:List Str} {qual:Str} {scope:Scope} {f:Addr} {cd:Value} {A:Around} {outer:List Env} {s s1:Shared} {H:Hp} {E:XK} {us:List Value} {vs:List V}
  (S:aH N ps scope) (hd:A.handled=none) (e0:rV P w K mg base A outer s H) (hl:vs.length=ps.length) (r:Vals vs us)
  (x:InCallC s s.heap.objs.size (bindL (envOfC qual scope s.heap.objs.size f cd).kindOf (ps.zip us) fun _=>none) (cellsFrom (s.heap.objs.size+1) scope.names []) (bindC (envOfC qual scope s.heap.objs.size f cd).kindOf (ps.zip us) fun _=>none) s1) :
  Inv (dy CX P w K mg base N qual scope f cd A outer s H E) [] (start N vs) H s1:=by
 have gj:ps.length≤N.length:=by have:=congrArg List.length S.pre; rw [OS] at this; omega
 obtain ⟨h1,tk,rfl,hk⟩:=x.done
 have Qc:∀ b:Addr,b∉(dy CX P w K mg base N qual scope f cd A outer s H E).ex:=fun b z=>absurd (show b∈([]:List Addr) from z) (by simp)
 refine ⟨⟨e0.mod,S.kind,rfl,rfl,cZ _,fun y z c h1 h2=>?_,fun y hy=>?_,fun y c _ h=>?_,fun _=>hd,Around.frames_deeper e0.frames,.inr ⟨rfl,rfl⟩,fun b z=>absurd z (Qc b),e0.bs,e0.C9,fun b _ _=>Qc b,fun b z=>absurd z (Qc b),e0.lp,e0.G3⟩,
  rfl,e0.bare,Un.kept hk,⟨_,x.toInCall.ns,fun i y v h1 h2 h3=>?_⟩,fun y c h=>⟨_,x.cell y c h⟩,e0.bB.fresh (cZ _),fun y c h=>?_,fun p hp=>absurd (show p∈([]:List (Addr×Obj)) from hp) (by simp),e0.bB.kept hk,?_⟩
 · exact name_of_addr x.apart (Kh h1) (Kh h2)
 · have hy:scope.names.lookup y=some .cell∨scope.names.lookup y=some .free:=hy
   rcases hy with hy | hy
   · exact v7 hy
   · exact absurd rfl (S.Mg _ (Kh hy))
 · exact Nat.le_of_lt (x.above y c (Kh h))
 · have hi:i < vs.length:=by
    unfold start at h2
    by_cases hi:i < vs.length
    · exact hi
    · rw [C4 (by simpa using hi)] at h2
      rw [Dj] at h2
      split at h2 <;> cases h2
   have ha:vs[i]?=some v:=by
    unfold start at h2
    rw [ux (by simpa using hi),lj] at h2
    cases e:vs[i]? with
    | none=>rw [e] at h2; cases h2
    | some a=>rw [e] at h2; cases h2; rfl
   obtain ⟨u,hu,rv⟩:=r.get ha
   have hp:ps[i]?=some y:=by
    rw [← S.pre,List.getElem?_take_of_lt (by omega)]; exact h1
   have X8:ps.Nodup:=by rw [← S.pre]; exact S.nd.sublist (List.take_sublist _ _)
   refine ⟨u,rv,?_⟩
   rcases S.par y (mV hp) with k | k
   · exact .inl ⟨k,sW X8 hp hu k⟩
   · obtain ⟨c,e⟩:=v7 (n:=s.heap.objs.size+1) k
     refine .inr ⟨.inl k,c,e,?_⟩
     have q:=x.cell y c e
     rw [sX X8 hp hu (by show scope.names.lookup y≠_; rw [k]; decide)] at q
     exact q
 · exact e0.bB.fresh (Nat.le_of_lt (x.above y c (Kh h)))
 · unfold start
   show _=N.length
   rw [pP,cV,ON]
   omega
theorem Ku {CX:yt} {P:Program} {w:World} {K:PySem.W.Frag} {mg:Str→Option Value} {base:Heap} {k:Nat} {f:Addr} {name qual:Str} {params:Arguments} {body:List Stmt} {scope:Scope} {dV kV doc pm bw ct oc:Value} {an od:Option Addr}
  {Aw:Array (Option Value)} {N ps:List Str} {sp:Sp} (lk:K.lookup f=some ⟨oc,od,.func (PySem.W.fnOf name qual params body scope dV kV doc pm an bw ct),Aw⟩) (iy:PySem.W.codeIn K bw qual=true) (S:aH N ps scope)
  (len:∀ vs H Q E,sp vs H Q E→vs.length=ps.length)
  (gW:∀ (A:Around) (outer:List Env) (s:Shared) (H:Hp) (vs:List V) (Q:VK) (E:XK),bj k (A.deeper (envOfC qual scope s.heap.objs.size f bw))→sp vs H Q E →
    ∃ t,oR (dy CX P w K mg base N qual scope f bw A outer s H E) body t∧t { nx:=fun _ H'=>Q .bb H',rt:=Q } (start N vs) H) :
  cF P w K mg base CX (k+1) f (PySem.W.fnOf name qual params body scope dV kV doc pm an bw ct) ps sp:=by
 refine ⟨len,fun A outer s H args us vs Q E hr e0 hb r Kv=>?_⟩
 have hl:=len _ _ _ _ Kv
 have KX:K.In s.heap:=e0.mod.LK.keeps fun b o e=>(e0.bs b o e).1
 have lim:s.heap.NoLimit:=e0.mod.nolimit.keeps fun b o e=>(e0.bs b o e).1
 have Qd:∀ y∈ps.zip us,scope.names.lookup y.1=some .local∨(scope.names.lookup y.1=some .cell∧((cellsFrom (s.heap.objs.size+1) scope.names []).lookup y.1).isSome=true):=fun ⟨n,v⟩ hy=>by
  rcases S.par n (List.of_mem_zip hy).1 with q | q
  · exact .inl q
  · exact .inr ⟨q,PySem.W.cellsFrom_some _ _ _ (.inl q)⟩
 refine codeAny_call_function hr.depth (KX _ _ lk) rfl S.co S.gen rfl (PySem.W.codeRec_of KX iy) (hb _ _ _ _ ?_)
 refine wpAny_newFunctionEnv_cells S.kind Qd fun env he s1 x=>?_
 subst he
 refine ⟨lim.keeps x.toInCall.keep,codeAny_func ?_⟩
 obtain ⟨t,ht,hq⟩:=gW A outer s H vs Q E (hr.deeper _) Kv
 have I:Inv (dy CX P w K mg base N qual scope f bw A outer s H E) [] (start N vs) H s1:=BA S hr.hd e0 hl r x
 refine wpAny_mono (ht [] s1 (start N vs) H _ I hq) (fun fl s' hs=>?_) fun e s' hs=>hs
 have fin:∀ {σ':St} {H':Hp} {v:V} {u:Value},Inv (dy CX P w K mg base N qual scope f bw A outer s H E) [] σ' H' s'→RelV v u→Q v H'→CE outer P w H s Q u s' :=
  fun {σ' H' v u} J rv q=>⟨v,H',J.os,J.bare,J.base,J.bB,rv,q⟩
 cases fl with
 | ret u =>
   obtain ⟨v,σ',H',J,rv,q⟩:=hs
   exact fin J rv q
 | next =>
   obtain ⟨σ',H',J,q⟩:=hs
   exact fin (v:=V.bb) (u:=Value.none) J rfl q
 | brk =>
   obtain ⟨_,_,_,q⟩:=hs
   exact False.elim q
 | cont =>
   obtain ⟨_,_,_,q⟩:=hs
   exact False.elim q
section
variable {X:Cx} {x:Str} {p pos:Pos} {e:Expr} {es:List Expr} {t:TA} {id T:String} {r:List V→Hp→VK→Prop}
def X9 (r:List V→Hp→VK→Prop) (t:TA):TE:=fun σ H Q=>t σ H fun vs H1=>r vs H1 Q
theorem lJ (hc:dC X (.builtin id) r) (hg:Gl X x) (hm:X.mg x=none) (hv:bootBuiltins x=some (.builtin id)) (ha:PA X (e :: es) t) (hn:x≠"__name__":=by decide) (lH:gk x:=by decide)
  (he:starEach (e :: es) X.env=(false,eval e X.env) :: starEach es X.env:=by rfl) (gj:(backTo pos (starEach es X.env)).any (·.1)=false:=by rfl):PE X (.Call (.Name x p) (e :: es) [] pos) (X9 r t):=by
 intro pins s σ H Q I h
 refine wpAny_Call_Name_kw (kD I hg hm hv ?_ hn lH)
 exact PyProof.Rows.callWith_builtin1 (bT (ha pos pins s σ H _ I h) fun us s1 ⟨vs,H1,I1,r1,q1⟩=>hc pins s1 σ H1 vs us Q I1 r1 q1) he gj
theorem sY (hc:dC X (.type T) r) (hg:Gl X x) (hm:X.mg x=none) (hv:bootBuiltins x=some (.type T)) (ha:PA X (e :: es) t) (hn:x≠"__name__":=by decide) (lH:gk x:=by decide)
  (he:starEach (e :: es) X.env=(false,eval e X.env) :: starEach es X.env:=by rfl) (gj:(backTo pos (starEach es X.env)).any (·.1)=false:=by rfl):PE X (.Call (.Name x p) (e :: es) [] pos) (X9 r t):=by
 intro pins s σ H Q I h
 refine wpAny_Call_Name_kw (kD I hg hm hv ?_ hn lH)
 exact Td (bT (ha pos pins s σ H _ I h) fun us s1 ⟨vs,H1,I1,r1,q1⟩=>hc pins s1 σ H1 vs us Q I1 r1 q1) he gj
end
end L2
namespace HT
open PySem PyProof.Rows
section
open PySem.SeqAt
open PySem.AutoSeq1 (wpAny_loadPart')
open PySem.MeetsSeq PySem.MeetsSeq2 PySem.MeetsSeq3
end
section
variable {prog:Program} {w:World} {A:Around} {E:Value→Shared→Prop} {s:Shared}
theorem Hh {t b:Addr} {vs ws:List Value} {Q:Value→Shared→Prop} (ht:IsTup s.heap t vs.toArray) (hb:IsTup s.heap b ws.toArray) (hv:vs≠[])
  (h1:ws=[]→Q (.ref t) s) (h2:ws≠[]→Q (.ref s.heap.objs.size) { s with heap:=s.heap.push { cls:=.type "tuple",data:=.seq (vs ++ ws).toArray } })
  (pS:vs.length+ws.length≤sizeLine):wpAny (model prog w) A (binaryOp .Add (.ref t) (.ref b)) Q E s:=by
 obtain ⟨⟨cls,dd,data,sl⟩,ho,hc,n,hd⟩:=id ht
 obtain ⟨⟨Qe,Kw,data2,Ax⟩,GB,Dd,n2,hd2⟩:=id hb
 simp only at hc hd Dd hd2
 subst hc hd Dd hd2
 have e:vs.toArray ++ ws.toArray=(vs ++ ws).toArray:=by simp
 by_cases hw:ws=[]
 · exact concat_meets ⟨_,ho,rfl⟩ ⟨_,GB,rfl⟩ noFill_tuple_add seq_tuple_add UJ UE (UD _ _)
    (tuple_addW1 t b vs.toArray ws.toArray n n2 dd Kw sl Ax (by simpa using hv) (by simp [hw])) ⟨ho,GB,h1 hw⟩
 · refine concat_meets ⟨_,ho,rfl⟩ ⟨_,GB,rfl⟩ noFill_tuple_add seq_tuple_add UJ UE (UD _ _)
    (tuple_addW2 t b vs.toArray ws.toArray n n2 dd Kw sl Ax (by simpa using hv) (by simpa using hw) (by rw [ir,ir]; exact pS)) ⟨ho,GB,?_⟩
   rw [e]
   exact h2 hw
def dA (n d:Nat):Option Int→Nat
 | none=>d
 | some v=>if v < 0 then (v+(n:Int)).toNat else min v.toNat n
theorem v8 (n d:Nat):dA n d none=d:=rfl
theorem pq (n d k:Nat):dA n d (some (k:Int))=min k n:=by
 show (if (k:Int) < 0 then ((k:Int)+(n:Int)).toNat else min (k:Int).toNat n)=min k n
 rw [if_neg (by omega),Dl]
theorem Mi (n d:Nat) (hd:d≤n) (o:Option Int):dA n d o≤n:=by
 cases o with
 | none=>exact hd
 | some v =>
   show (if v < 0 then (v+(n:Int)).toNat else min v.toNat n)≤n
   by_cases hv:v < 0
   · rw [if_pos hv]; omega
   · rw [if_neg hv]; exact Nat.min_le_right _ _
theorem Ay (v:Int) (n d:Nat):(if v < 0 then max (v+(n:Int)) 0 else min v (n:Int))=((dA n d (some v):Nat):Int):=by
 show (if v < 0 then max (v+(n:Int)) 0 else min v (n:Int))=(((if v < 0 then (v+(n:Int)).toNat else min v.toNat n):Nat):Int)
 by_cases hv:v < 0
 · simp only [if_pos hv]; omega
 · simp only [if_neg hv]; omega
theorem yu (lo hi:Option Int) (n:Nat):Builtin.Slice.sliceAdjust lo hi 1 (n:Int)=(((dA n 0 lo:Nat):Int),((dA n n hi:Nat):Int)):=by
 have h1:¬ ((1:Int) < 0):=by omega
 unfold Builtin.Slice.sliceAdjust
 simp only [h1,if_false]
 refine Prod.ext ?_ ?_
 · cases lo with
   | none=>rfl
   | some v=>exact Ay v n 0
 · cases hi with
   | none=>rfl
   | some v=>exact Ay v n n
theorem yw (i j:Nat):Builtin.Slice.slicePlaces (i:Int) (j:Int) 1=j - i:=by
 unfold Builtin.Slice.slicePlaces
 have h1:(1:Int) > 0:=by omega
 simp only [h1,if_true,Int.ediv_one]
 split <;> omega
theorem pT {v:Value} {o:Option Int} {Q:Option Int→Shared→Prop} (p:IsPart v o) (h:Q o s):wpAny (model prog w) A (Builtin.Slice.slicePartIndex v) Q E s:=by
 cases p with
 | none=>exact slicePart_none h
 | int i t=>exact slicePart_int h
theorem nq {sl:Addr} {vl vu:Value} {lo hi:Option Int} {n:Nat} {Q:Int×Int×Nat→Shared→Prop} (hs:s.heap.IsSliceOf sl vl vu .none) (pl:IsPart vl lo) (pu:IsPart vu hi)
  (h:Q (((dA n 0 lo:Nat):Int),1,dA n n hi - dA n 0 lo) s):wpAny (model prog w) A (Builtin.Slice.sliceApplied (.ref sl) (pure (n:Int))) Q E s:=by
 obtain ⟨os,Qf,X_,TJ⟩:=id hs
 unfold Builtin.Slice.sliceApplied Builtin.Slice.sliceFields
 refine wpAny_bind (wpAny_bind (wpAny_field Qf TJ (x:=vl) rfl (wpAny_bind (wpAny_field Qf TJ (x:=vu) rfl (wpAny_bind (wpAny_field Qf TJ (x:=.none) rfl (wpAny_pure ?_)))))))
 refine wpAny_bind (slicePart_none ?_)
 show wpAny _ _ (if ((1:Int) == 0)=true then _ else _) _ _ s
 rw [if_neg (by decide)]
 refine wpAny_bind (pT pl (wpAny_bind (pT pu (wpAny_bind (wpAny_pure ?_)))))
 show wpAny _ _ (match Builtin.Slice.sliceAdjust lo hi 1 (n:Int) with | (lo,hi)=>pure (lo,(1:Int),Builtin.Slice.slicePlaces lo hi 1)) _ _ s
 rw [yu lo hi n]
 show wpAny _ _ (pure (((dA n 0 lo:Nat):Int),(1:Int),Builtin.Slice.slicePlaces ((dA n 0 lo:Nat):Int) ((dA n n hi:Nat):Int) 1)) _ _ s
 rw [yw]
 exact wpAny_pure h
theorem DH (xs:Array Value) (i k:Nat):((List.range k).filterMap fun (m:Nat)=>xs[((i:Int)+(m:Int) * 1).toNat]?).toArray=((xs.toList.drop i).take k).toArray:=by
 have e:(fun (m:Nat)=>xs[((i:Int)+(m:Int) * 1).toNat]?)=fun m=>xs[i+m]?:=by
  funext m
  have:((i:Int)+(m:Int) * 1).toNat=i+m:=by omega
  rw [this]
 rw [e]
 have:=pick_run xs i k
 rw [List.filterMap_map] at this
 have e2:((fun x=>xs[x]?) ∘ fun x=>i+x)=fun m=>xs[i+m]?:=rfl
 rw [e2] at this
 rw [this]
theorem lK {t sl:Addr} {items:Array Value} {vl vu:Value} {lo hi:Option Int} {Q:Value→Shared→Prop} (ht:IsTup s.heap t items) (hs:s.heap.IsSliceOf sl vl vu .none) (pl:IsPart vl lo) (pu:IsPart vu hi)
  (hw:¬ (dA items.size 0 lo=0∧dA items.size items.size hi=items.size))
  (h:Q (.ref s.heap.objs.size) { s with heap:=s.heap.push { cls:=.type "tuple",data:=.seq ((items.toList.drop (dA items.size 0 lo)).take (dA items.size items.size hi - dA items.size 0 lo)).toArray } })
  (pS:items.size≤sizeLine):wpAny (model prog w) A (getItem (.ref t) (.ref sl)) Q E s:=by
 have Az:sizeOk (.seq ((items.toList.drop (dA items.size 0 lo)).take (dA items.size items.size hi - dA items.size 0 lo)).toArray):=by
  show ((items.toList.drop (dA items.size 0 lo)).take (dA items.size items.size hi - dA items.size 0 lo)).toArray.size≤sizeLine
  rw [ir,OS,Tt,Lz]
  omega
 have hj:dA items.size items.size hi≤items.size:=Mi _ _ (cZ _) hi
 obtain ⟨os,Qf,X_,TJ⟩:=id hs
 have Za:s.TypeIs (.ref sl) "slice":=⟨os,Qf,X_⟩
 unfold getItem
 try with_reducible refine wpAny_holding ?_
 first | refine wpAny_bind (wpAny_pure ?_) | skip
 refine wpAny_bind (wpAny_sequenceKey ht.typeIs (by decide) ?_)
 refine wpAny_bind (wpAny_callSpecial?_slot (name:=Str.ofString "__getitem__") ht.typeIs UA
  (wpAny_call_entry UA ht.typeIs entry_tuple_getitem ?_ (args_tuple_getitem _ _)))
 show wpAny _ _ (Builtin.Tuple.tupleItemsOf (.ref t) >>= _) _ _ s
 refine wpAny_bind (tupleItemsOf_ ht ?_)
 refine wpAny_bind (wpAny_typeOf Za ?_)
 rw [if_pos (by decide)]
 refine wpAny_bind (nq hs pl pu ?_)
 have Hi:¬ ((((dA items.size 0 lo:Nat):Int) == 0 && (1:Int) == 1 && (dA items.size items.size hi - dA items.size 0 lo) == items.size)=true):=by
  intro q
  rw [gT,gT] at q
  have q1:((dA items.size 0 lo:Nat):Int)=0:=eq_of_beq q.1.1
  have q2:dA items.size items.size hi - dA items.size 0 lo=items.size:=eq_of_beq q.2
  exact hw ⟨by omega,by omega⟩
 show wpAny _ _ (if (((dA items.size 0 lo:Nat):Int) == 0 && (1:Int) == 1 && (dA items.size items.size hi - dA items.size 0 lo) == items.size)=true then _ else _) _ _ s
 rw [if_neg Hi,DH]
 first
  | exact wpAny_bind (m:=Builtin.Tuple.tupleExact _) (wpAny_newObj_type (wpAny_pure ⟨_,rfl,wpAny_pure h⟩) Az)
  | exact wpAny_bind (m:=Builtin.Tuple.tupleExact _) (wpAny_newObj_type (wpAny_bind (wpAny_pure (wpAny_pure ⟨_,rfl,wpAny_pure h⟩))) Az)
  | exact wpAny_bind (wpAny_bind (m:=Builtin.Tuple.tupleExact _) (wpAny_newObj_type (wpAny_pure (wpAny_pure ⟨_,rfl,wpAny_pure h⟩)) Az))
  | exact wpAny_bind (wpAny_bind (m:=Builtin.Tuple.tupleExact _) (wpAny_newObj_type (wpAny_pure ⟨_,rfl,wpAny_pure h⟩) Az))
end
end HT
namespace L2
open PySem PySem.Spec PyProof.Rows
abbrev TO:=St→Hp→(Option Int→Hp→Prop)→Prop
def PO (X:Cx) (e:Option Expr) (t:TO):Prop :=
 ∀ (pins:List (Addr×Obj)) (s:Shared) (σ:St) (H:Hp) (Q:Option Int→Hp→Prop),Inv X pins σ H s→t σ H Q →
  wpAny (model X.prog X.w) X.A (evalPart e X.env) (fun u s'=>∃ o H',Inv X pins σ H' s'∧IsPart u o∧Q o H') X.xe s
def Hj:TO:=fun _ H Q=>Q none H
def Qg (t:TE):TO:=fun σ H Q=>t σ H fun x H1=>∃ i,x = .int i∧Q (some i) H1
section
variable {X:Cx} {e:Expr} {te:TE} {lo hi:Option Expr} {tl th:TO} {pos p2:Pos}
theorem Hk:PO X none Hj:=by
 intro pins s σ H Q I h
 rw [evalPart_none]
 exact wpAny_pure ⟨none,H,I,.none,h⟩
theorem Hl (h:PE X e te):PO X (some e) (Qg te):=by
 intro pins s σ H Q I hw
 rw [evalPart_some]
 refine bT (h pins s σ H _ I hw) fun u s1 ⟨x,H1,I1,r1,q1⟩=>?_
 obtain ⟨i,rfl,q⟩:=q1
 obtain ⟨t,rfl⟩:=r1
 exact ⟨some i,H1,I1,.int i t,q⟩
def DI (X:Cx) (r:V→Option Int→Option Int→Hp→VK→Prop):Prop :=
 ∀ (pins:List (Addr×Obj)) (s:Shared) (σ:St) (H:Hp) (x:V) (v vl vu:Value) (lo hi:Option Int) (sl:Addr) (Q:VK),Inv X pins σ H s→RelV x v→s.heap.IsSliceOf sl vl vu .none→IsPart vl lo→IsPart vu hi→r x lo hi H Q →
  ∃ T id,typeLookup (.type T) "__getitem__" = pure (some (.builtin id))∧s.TypeIs v T∧wpAny (model X.prog X.w) X.A (getItem v (.ref sl)) (EP X pins σ Q) X.xe s
theorem DI.or {r r':V→Option Int→Option Int→Hp→VK→Prop} (h:DI X r) (h':DI X r'):DI X (fun x lo hi H Q=>r x lo hi H Q∨r' x lo hi H Q):=by
 intro pins s σ H x v vl vu lo hi sl Q I rx hs pl pu q
 rcases q with q | q
 · exact h pins s σ H x v vl vu lo hi sl Q I rx hs pl pu q
 · exact h' pins s σ H x v vl vu lo hi sl Q I rx hs pl pu q
def Zb (r:V→Option Int→Option Int→Hp→VK→Prop) (te:TE) (tl th:TO):TE:=fun σ H Q=>te σ H fun x H1=>tl σ H1 fun l H2=>th σ H2 fun u H3=>r x l u H3 Q
theorem DJ {r:V→Option Int→Option Int→Hp→VK→Prop} (hr:DI X r) (he:PE X e te) (hl:PO X lo tl) (hu:PO X hi th):PE X (.Subscript e (.Slice lo hi none p2) pos) (Zb r te tl th):=by
 intro pins s σ H Q I h
 refine Subscript_ (bT (he pins s σ H _ I h) fun v s1 ⟨x,H1,I1,r1,q1⟩=>?_)
 refine wpAny_Slice (bT (hl pins s1 σ H1 _ I1 q1) fun vl s2 ⟨l,H2,I2,pl,q2⟩=>bT (hu pins s2 σ H2 _ I2 q2) fun vu s3 ⟨u,H3,I3,pu,q3⟩=>?_)
 rw [evalPart_none]
 refine wpAny_pure ?_
 have I4:Inv X pins σ H3 { s3 with heap:=s3.heap.push { cls:=.type "slice",data:=.fields #[vl,vu,.none] } }:=I3.kept (t':=s3.toks) fun b ob q=>dH _ q
 obtain ⟨T,id,hT,ht,hg⟩:=hr pins { s3 with heap:=s3.heap.push { cls:=.type "slice",data:=.fields #[vl,vu,.none] } } σ H3 x v vl vu l u s3.heap.objs.size Q I4 r1 (Heap.IsSliceOf.new ..) pl pu q3
 show wpAny (model X.prog X.w) X.A (subscriptTail e (.Slice lo hi none p2) v (.ref s3.heap.objs.size)) (EP X pins σ Q) X.xe { s3 with heap:=s3.heap.push { cls:=.type "slice",data:=.fields #[vl,vu,.none] } }
 exact tail_any (ops:=[.ref s3.heap.objs.size,v]) ht hT hg (by with_unfolding_all rfl)
def v_ (xs:List V) (lo hi:Option Int):List V:=(xs.drop (HT.dA xs.length 0 lo)).take (HT.dA xs.length xs.length hi - HT.dA xs.length 0 lo)
theorem ot (xs:List V) (lo hi:Option Int):(v_ xs lo hi).length≤xs.length:=by
 unfold v_
 rw [OS,Tt]
 omega
def Qh (K:PySem.W.Frag):V→Option Int→Option Int→Hp→VK→Prop:=fun x lo hi H Q=>∃ a xs,x = .ref a∧dY K H a xs ∧
 ¬ (HT.dA xs.length 0 lo=0∧HT.dA xs.length xs.length hi=xs.length)∧∀ p,H p=none→Q (.ref p) (upd H p (.tup (v_ xs lo hi)))
theorem Mj:DI X (Qh X.K):=by
 intro pins s σ H x v vl vu lo hi sl Q I rx hs pl pu h
 obtain ⟨a,xs,rfl,hx,hw,q⟩:=h
 cases rx
 obtain ⟨aP,r,ht,hz⟩:=I.tuple hx
 have hlen:aP.toArray.size=xs.length:=by rw [ir]; exact r.length.symm
 refine ⟨"tuple",_,UA.lookup,ht.typeIs,?_⟩
 refine HT.lK ht hs pl pu (by rw [hlen]; exact hw) ?_ (by rw [hlen]; exact hz)
 rw [hlen]
 refine ⟨.ref s.heap.objs.size,_,I.laid (t':=s.toks) (o:=.tup (v_ xs lo hi)) (fun b ob q=>dH _ q) (cZ _) ?_,rfl,q _ (I.bB.fresh (cZ _))⟩
 exact ⟨oq (ot xs lo hi) hz,_,(r.drop (HT.dA xs.length 0 lo)).take (HT.dA xs.length xs.length hi - HT.dA xs.length 0 lo),IsTup.new _ _⟩
theorem Vals.pA {xs:List V} {us:List Value} (r:Vals xs us):us=[]↔xs=[]:=by
 cases r with
 | _=>simp
end
def vU (n:Nat) (i:Int):Option Nat:=if 0≤i then (if i < n then some i.toNat else none) else if -(n:Int)≤i then some (i+n).toNat else none
def k9 {α:Type} (xs:List α) (i:Int):Option α:=(vU xs.length i).bind fun j=>xs[j]?
theorem AA {n:Nat} {i:Int} {j:Nat} (h:vU n i=some j):seqIndex? i n=some j∧j < n∧-(n:Int)≤i∧i < n:=by
 unfold vU at h
 by_cases h0:0≤i
 · rw [if_pos h0] at h
   by_cases h1:i < n
   · rw [if_pos h1] at h
     have e:i.toNat=j:=Option.some.inj h
     exact ⟨by rw [seqIndex_of h0 h1,e],by omega,by omega,h1⟩
   · rw [if_neg h1] at h; cases h
 · rw [if_neg h0] at h
   by_cases h1 : -(n:Int)≤i
   · rw [if_pos h1] at h
     have e:(i+n).toNat=j:=Option.some.inj h
     exact ⟨by rw [seqIndex_neg (by omega) h1,e],by omega,h1,by omega⟩
   · rw [if_neg h1] at h; cases h
theorem uA {α:Type} {xs:List α} {i:Int} {v:α} (h:k9 xs i=some v):∃ j,seqIndex? i xs.length=some j∧xs[j]?=some v∧j < xs.length∧-(xs.length:Int)≤i∧i < xs.length:=by
 unfold k9 at h
 cases e:vU xs.length i with
 | none=>rw [e] at h; cases h
 | some j =>
   rw [e] at h
   obtain ⟨h1,h2,h3,h4⟩:=AA e
   exact ⟨j,h1,h,h2,h3,h4⟩
theorem ax {α:Type} {xs:List α} {j:Nat} {v:α} (h:xs[j]?=some v):k9 xs (j:Int)=some v:=by
 have hj:j < xs.length:=(e_.mp h).1
 have e:vU xs.length (j:Int)=some j:=by
  unfold vU
  rw [if_pos (by omega),if_pos (by omega)]; simp
 unfold k9; rw [e]; exact h
theorem lL {α:Type} (xs:List α) (v:α):k9 (xs ++ [v]) (-1)=some v:=by
 have hl:(xs ++ [v]).length=xs.length+1:=by simp
 have e:vU (xs ++ [v]).length (-1)=some xs.length:=by
  unfold vU
  rw [hl,if_neg (by decide),if_pos (by omega)]
  congr 1
  omega
 unfold k9
 rw [e]
 show (xs ++ [v])[xs.length]?=some v
 simp
def AB (b:Expr):Prop:=∀ o i,subscripted b false o i=operate [o,i] (getItem o i)
def Hm (X:Cx) (r:R2):Prop :=
 ∀ (value slice:Expr) (pins:List (Addr×Obj)) (s:Shared) (σ:St) (H:Hp) (x y:V) (v u:Value) (Q:VK),Inv X pins σ H s→RelV x v→RelV y u→r x y H Q →
  subscripted slice false v u=operate [v,u] (getItem v u)→wpAny (model X.prog X.w) X.A (subscriptTail value slice v u) (EP X pins σ Q) X.xe s
def BB (X:Cx) (id:String) (r:V→List V→Hp→VK→Prop):Prop :=
 ∀ (pins:List (Addr×Obj)) (s:Shared) (σ:St) (H:Hp) (x:V) (xs:List V) (v:Value) (us:List Value) (Q:VK),Inv X pins σ H s→RelV x v→Vals xs us→r x xs H Q →
  wpAny (model X.prog X.w) X.A (call (.builtin id) (v :: us)) (EP X pins σ Q) X.xe s
section
variable {X:Cx} {a b:Expr} {ta tb:TE} {pos:Pos}
theorem Hm.or {r r':R2} (h:Hm X r) (h':Hm X r'):Hm X (fun x y H Q=>r x y H Q∨r' x y H Q):=by
 intro value slice pins s σ H x y v u Q I rx ry q hs
 rcases q with q | q
 · exact h value slice pins s σ H x y v u Q I rx ry q hs
 · exact h' value slice pins s σ H x y v u Q I rx ry q hs
theorem BB.or {id:String} {r r':V→List V→Hp→VK→Prop} (h:BB X id r) (h':BB X id r'):BB X id (fun x xs H Q=>r x xs H Q∨r' x xs H Q):=by
 intro pins s σ H x xs v us Q I rx rs q
 rcases q with q | q
 · exact h pins s σ H x xs v us Q I rx rs q
 · exact h' pins s σ H x xs v us Q I rx rs q
theorem Qi {r:R2} (hr:Hm X r) (ha:PE X a ta) (hb:PE X b tb) (hs:AB b):PE X (.Subscript a b pos) (P7 r ta tb):=by
 intro pins s σ H Q I h
 exact Subscript_ (L5 ha hb I h fun v u s2 x y H2 I2 rx ry q=>hr a b pins s2 σ H2 x y v u Q I2 rx ry q (hs _ _))
def Qj (K:PySem.W.Frag):R2:=fun x y H Q=>∃ p xs i v,x = .ref p∧y = .int i∧gm K H p xs∧k9 xs i=some v∧Q v H
def Qk (K:PySem.W.Frag):R2:=fun x y H Q=>∃ p xs i v,x = .ref p∧y = .int i∧dY K H p xs∧k9 xs i=some v∧Q v H
def Ql:R2:=fun x y H Q=>∃ z i c,x = .str z∧y = .int i∧z.length≤sizeLine∧k9 z.cps.toList i=some c∧Q (.str ⟨#[c]⟩) H
theorem Hn:Hm X (Qj X.K):=by
 intro value slice pins s σ H x y v u Q I rx ry h hs
 obtain ⟨p,xs,i,z,rfl,rfl,hq,he,q⟩:=h
 cases rx
 obtain ⟨t,rfl⟩:=ry
 obtain ⟨aP,r,pl,hz⟩:=I.list hq
 obtain ⟨j,h1,h2,h3,h4,h5⟩:=uA he
 obtain ⟨w,ew,rw'⟩:=r.get h2
 have hl:=r.length
 have hn:=ni
 have fin:EP X pins σ Q w s:=⟨z,H,I,rw',q⟩
 by_cases h0:0≤i
 · have hj:i.toNat=j:=by
    rw [seqIndex_of h0 h5] at h1
    exact Option.some.inj h1
   exact item_listR pl.isList h0 (by omega) (by rw [hj]; simpa using ew) fin hs
 · have hj:(i+(aP.toArray.size:Int)).toNat=j:=by
    rw [seqIndex_neg (by omega) h4] at h1
    rw [ir,← hl]
    exact Option.some.inj h1
   exact subscriptTail_builtinR (x:=w) pl.isList.typeIs slot_list_getitem.lookup
    (wpAny_getItem_list_neg (Q:=fun r s'=>r=w∧EP X pins σ Q r s') pl.isList (by omega) (by rw [ir] <;> omega) (by omega) (by rw [hj]; simpa using ew) ⟨rfl,fin⟩) hs
theorem Ml:Hm X (Qk X.K):=by
 intro value slice pins s σ H x y v u Q I rx ry h hs
 obtain ⟨p,xs,i,z,rfl,rfl,hq,he,q⟩:=h
 cases rx
 obtain ⟨t,rfl⟩:=ry
 obtain ⟨aP,r,pl,hz⟩:=I.tuple hq
 obtain ⟨j,h1,h2,h3,h4,h5⟩:=uA he
 obtain ⟨w,ew,rw'⟩:=r.get h2
 have hl:=r.length
 have hn:=ni
 have fin:EP X pins σ Q w s:=⟨z,H,I,rw',q⟩
 exact subscriptTail_builtinR (x:=w) pl.typeIs slot_tuple_getitem.lookup
  (getItem_tuple (j:=j) (Q:=fun r s'=>r=w∧EP X pins σ Q r s') pl (by omega) (by omega) (by rw [ir,← hl]; exact h1) (by simpa using ew) ⟨rfl,fin⟩) hs
theorem Mm:Hm X Ql:=by
 intro value slice pins s σ H x y v u Q I rx ry h hs
 obtain ⟨z,i,c,rfl,rfl,hz,he,q⟩:=h
 obtain ⟨t,rfl⟩:=rx
 obtain ⟨t',rfl⟩:=ry
 obtain ⟨j,h1,h2,h3,h4,h5⟩:=uA he
 have hl:z.cps.toList.length=z.length:=by simp [Str.length]
 rw [hl] at h1 h4 h5
 have hn:=ni
 exact tail_any (typeIs_str s z t) slot_str_getitem.lookup (getItem_str (c:=c) (by
  have e1:decide (i < -(2 ^ 63:Int))=false:=decide_eq_false (by omega)
  have e2:decide (i ≥ 2 ^ 63)=false:=decide_eq_false (by omega)
  rw [e1,e2,Bool.or_false]) (by rw [h1]; simpa using h2) ⟨.str ⟨#[c]⟩,H,I.tok _,⟨_,rfl⟩,q⟩) hs
def X' (K:PySem.W.Frag):R2:=fun x y H Q=>Qj K x y H Q∨Qk K x y H Q∨Ql x y H Q
theorem Mn:Hm X (X' X.K):=Hn.or (Ml.or Mm)
theorem yx (aP:List Value) (n j:Nat) (u:Value):Obj.mapSeq (·.setIfInBounds j u) { cls:=.type "list",data:=.seq aP.toArray n }={ cls:=.type "list",data:=.seq (aP.set j u).toArray n }:=by
 simp [Obj.mapSeq]
theorem Inv.lst {pins:List (Addr×Obj)} {σ:St} {H:Hp} {s:Shared} {p:Addr} {xs:List V} (I:Inv X pins σ H s) (h:H p=some (.lst xs)) :
  ∃ (aP:List Value) (n:Nat),Vals xs aP∧s.heap.get? p=some { cls:=.type "list",data:=.seq aP.toArray n }∧xs.length≤sizeLine:=by
 obtain ⟨z,aP,n,r,e⟩:=I.bB p _ h
 exact ⟨aP,n,r,e,z⟩
theorem Inv.Mo {pins:List (Addr×Obj)} {σ:St} {H:Hp} {s:Shared} {p:Addr} {xs ys:List V} {aP its':List Value} {n n':Nat} {f:Obj→Obj} (I:Inv X pins σ H s) (h:H p=some (.lst xs))
  (ho:s.heap.get? p=some { cls:=.type "list",data:=.seq aP.toArray n }) (hf:f { cls:=.type "list",data:=.seq aP.toArray n }={ cls:=.type "list",data:=.seq its'.toArray n' }) (r:Vals ys its') (hz:ys.length≤sizeLine) (t:Nat) :
  Inv X pins σ (upd H p (.lst ys)) { s with heap:=s.heap.update p f,toks:=t }:=by
 have e:(s.heap.update p f).get? p=some { cls:=.type "list",data:=.seq its'.toArray n' }:=by
  rw [Lv f ho (by rw [hf] <;> rfl),hf]
 refine I.write (x:=p) (e:=p) (by rw [h]; trivial) (.inl rfl) (fun b u hb q=>(Kg _ _ (Ne.symm hb)).trans q) ⟨_,e⟩ ?_
 exact ⟨hz,its',n',r,e⟩
def Qm:V→V→V→Hp→(Hp→Prop)→Prop:=fun o i v H Q=>∃ p xs k j,o = .ref p∧i = .int k∧H p=some (.lst xs)∧vU xs.length k=some j∧Q (upd H p (.lst (xs.set j v)))
theorem set_list:PY X Qm:=by
 intro pins s σ H o i v ov iv u Q I ro ri rv h
 obtain ⟨p,xs,k,j,rfl,rfl,hp,hj,q⟩:=h
 cases ro
 obtain ⟨t,rfl⟩:=ri
 obtain ⟨aP,n,r,ho,hz⟩:=I.lst hp
 obtain ⟨h1,h2,h3,h4⟩:=AA hj
 have hl:=r.length
 have hn:=ni
 have I':Inv X pins σ (upd H p (.lst (xs.set j v))) { s with heap:=s.heap.update p (Obj.mapSeq (·.setIfInBounds j u)) } :=
  I.Mo hp ho (yx aP n j u) (r.set rv j) (by rw [Kk]; exact hz) s.toks
 by_cases h0:0≤k
 · have hk:k.toNat=j:=by
    rw [seqIndex_of h0 h4] at h1
    exact Option.some.inj h1
   exact PySem.W.ki_setAt ho h0 (by omega) (by rw [ir,← hl]; exact h4) (by rw [hk]; exact ⟨_,I',q⟩)
 · have hk:(k+(aP.toArray.size:Int)).toNat=j:=by
    rw [seqIndex_neg (by omega) h3] at h1
    rw [ir,← hl]
    exact Option.some.inj h1
   exact PySem.W.ki_setBack ho (by omega) (by rw [ir,← hl]; exact h3) (by omega) (by rw [hk]; exact ⟨_,I',q⟩)
theorem uB (lo hi:Option Int) (n:Nat):(sliceBounds lo hi none n).1=((HT.dA n 0 lo:Nat):Int)∧(sliceBounds lo hi none n).2.1=((HT.dA n n hi:Nat):Int)∧(sliceBounds lo hi none n).2.2=1:=by
 refine ⟨?_,?_,rfl⟩
 · cases lo with
   | none=>simp [sliceBounds,HT.dA]
   | some i =>
     simp only [sliceBounds,HT.dA,Option.getD_none,show (1:Int) > 0 by decide,if_true]
     by_cases h:i < 0
     · simp only [h,if_true] <;> omega
     · simp only [h,if_false] <;> omega
 · cases hi with
   | none=>simp [sliceBounds,HT.dA]
   | some i =>
     simp only [sliceBounds,HT.dA,Option.getD_none,show (1:Int) > 0 by decide,if_true]
     by_cases h:i < 0
     · simp only [h,if_true] <;> omega
     · simp only [h,if_false] <;> omega
theorem rW (aP:List Value) (lo hi:Option Int):slicePick aP.toArray lo hi none=((aP.drop (HT.dA aP.length 0 lo)).take (HT.dA aP.length aP.length hi - HT.dA aP.length 0 lo)).toArray:=by
 obtain ⟨h1,h2,h3⟩:=uB lo hi aP.toArray.size
 unfold slicePick
 rw [h1,h2,h3]
 simp only [sliceRange_one,pick_run,ir] <;> rfl
def Qn (K:PySem.W.Frag):V→Option Int→Option Int→Hp→VK→Prop:=fun x lo hi H Q=>∃ a xs,x = .ref a∧gm K H a xs∧∀ p,H p=none→Q (.ref p) (upd H p (.lst (v_ xs lo hi)))
theorem Ho:DI X (Qn X.K):=by
 intro pins s σ H x v vl vu lo hi sl Q I rx hs pl pu h
 obtain ⟨a,xs,rfl,hx,q⟩:=h
 cases rx
 obtain ⟨aP,r,ht,hz⟩:=I.list hx
 have hlen:=r.length
 refine ⟨"list",_,slot_list_getitem.lookup,ht.isList.typeIs,?_⟩
 refine wpAny_getItem_list_slice ht.isList hs pl pu .none (by simp) ?_ (by rw [ir] <;> omega)
 rw [rW,← hlen]
 refine ⟨.ref s.heap.objs.size,_,I.laid (t':=s.toks) (o:=.lst (v_ xs lo hi)) (fun b ob q=>dH _ q) (cZ _) ?_,rfl,q _ (I.bB.fresh (cZ _))⟩
 exact ⟨oq (ot xs lo hi) hz,_,0,(r.drop (HT.dA xs.length 0 lo)).take (HT.dA xs.length xs.length hi - HT.dA xs.length 0 lo),pd _ rfl⟩
def jj:V→Bool
 | .bb=>true
 | .bl _=>true
 | .int _=>true
 | .str _=>true
 | _=>false
def GC:V→V→Bool
 | .bb,.bb=>true
 | .bl a,.bl b=>a == b
 | .bl a,.int b=>(if a then 1 else 0) == b
 | .int a,.bl b=>a == (if b then 1 else 0)
 | .int a,.int b=>a == b
 | .str a,.str b=>a == b
 | _,_=>false
theorem Mp {A:Around} {s:Shared} {y x:V} {u v:Value} (ry:RelV y u) (rx:RelV x v) (fy:jj y=true) (fx:jj x=true):SeqAt.EqAt A s u v (GC y x):=by
 cases y with
 | bb =>
   cases ry
   cases x with
   | bb=>cases rx; exact SeqAt.EqAt.same _
   | bl b=>cases rx; exact SeqAt.EqAt.none_bool b
   | int b=>obtain ⟨t,rfl⟩:=rx; exact SeqAt.EqAt.none_int b t
   | str b=>obtain ⟨t,rfl⟩:=rx; exact SeqAt.EqAt.none_str b t
   | _=>exact absurd (show false=true from fx) lh
 | bl a =>
   cases ry
   cases x with
   | bb=>cases rx; exact SeqAt.EqAt.bool_none a
   | bl b=>cases rx; exact SeqAt.EqAt.bool_bool a b
   | int b=>obtain ⟨t,rfl⟩:=rx; exact SeqAt.EqAt.bool_int a b t
   | str b=>obtain ⟨t,rfl⟩:=rx; exact SeqAt.EqAt.bool_str a b t
   | _=>exact absurd (show false=true from fx) lh
 | int a =>
   obtain ⟨t',rfl⟩:=ry
   cases x with
   | bb=>cases rx; exact SeqAt.EqAt.int_none a t'
   | bl b=>cases rx; exact SeqAt.EqAt.int_bool a t' b
   | int b=>obtain ⟨t,rfl⟩:=rx; exact SeqAt.EqAt.int_int a t' b t
   | str b=>obtain ⟨t,rfl⟩:=rx; exact SeqAt.EqAt.int_str a t' b t
   | _=>exact absurd (show false=true from fx) lh
 | str a =>
   obtain ⟨t',rfl⟩:=ry
   cases x with
   | bb=>cases rx; exact SeqAt.EqAt.str_none a t'
   | bl b=>cases rx; exact SeqAt.EqAt.str_bool a t' b
   | int b=>obtain ⟨t,rfl⟩:=rx; exact SeqAt.EqAt.str_int a t' b t
   | str b=>obtain ⟨t,rfl⟩:=rx; exact SeqAt.EqAt.str_str a t' b t
   | _=>exact absurd (show false=true from fx) lh
 | _=>exact absurd (show false=true from fy) lh
def yy (x:V) (u:Value):Bool:=match u with
 | .none=>GC .bb x
 | .bool b=>GC (.bl b) x
 | .int i _=>GC (.int i) x
 | .str z _=>GC (.str z) x
 | _=>false
theorem DK {x y:V} {u:Value} (r:RelV y u) (f:jj y=true):yy x u=GC y x:=by
 cases y with
 | bb=>cases r; rfl
 | bl b=>cases r; rfl
 | int i=>obtain ⟨t,rfl⟩:=r; rfl
 | str z=>obtain ⟨t,rfl⟩:=r; rfl
 | _=>exact absurd (show false=true from f) lh
theorem lM {x:V}:∀ {xs:List V} {us:List Value},Vals xs us→xs.all jj=true→us.any (yy x)=xs.any fun y=>GC y x
 | _,_,.nil,_=>rfl
 | y :: xs,u :: us,.cons r t,f=>by
   rw [Km,gT] at f
   rw [OX,OX,DK r f.1,lM t f.2]
theorem jk {A:Around} {s:Shared} {x:V} {v:Value} (rx:RelV x v) (fx:jj x=true):∀ {xs:List V} {us:List Value},Vals xs us→xs.all jj=true→∀ u∈us,SeqAt.EqAt A s u v (yy x u)
 | _,_,.nil,_=>fun u hu=>by cases hu
 | y :: xs,u :: us,.cons r t,f=>fun u' hu=>by
   rw [Km,gT] at f
   rcases fg.mp hu with rfl | hu
   · rw [DK r f.1]; exact Mp r rx f.1 fx
   · exact jk rx fx t f.2 u' hu
def TK (x:V) (xs:List V):Bool:=xs.any fun y=>GC y x
def Ve (K:PySem.W.Frag) (neg:Bool):R2:=fun x y H Q=>∃ p xs,y = .ref p∧(gm K H p xs∨dY K H p xs)∧jj x=true∧xs.all jj=true∧Q (.bl (if neg then !TK x xs else TK x xs)) H
theorem BC:ff X (compareOp .In) (Ve X.K false):=by
 intro pins s σ H x y v u Q I rx ry h
 obtain ⟨p,xs,rfl,hq,fx,fs,q⟩:=h
 cases ry
 rcases hq with hq | hq
 · obtain ⟨aP,r,pl,hz⟩:=I.list hq
   refine SeqAt.in_listAt (yy x) pl.isList (fun w hw=>jk rx fx r fs w (by simpa using hw)) ⟨.bl _,H,I,rfl,?_⟩
   rw [show aP.toArray.any (yy x)=aP.any (yy x) by simp,lM r fs]
   exact q
 · obtain ⟨aP,r,pl,hz⟩:=I.tuple hq
   refine SeqAt.in_tupleAt (yy x) pl (fun w hw=>jk rx fx r fs w (by simpa using hw)) ⟨.bl _,H,I,rfl,?_⟩
   rw [show aP.toArray.any (yy x)=aP.any (yy x) by simp,lM r fs]
   exact q
theorem uC:ff X (compareOp .NotIn) (Ve X.K true):=by
 intro pins s σ H x y v u Q I rx ry h
 obtain ⟨p,xs,rfl,hq,fx,fs,q⟩:=h
 cases ry
 rcases hq with hq | hq
 · obtain ⟨aP,r,pl,hz⟩:=I.list hq
   refine SeqAt.notIn_listAt (yy x) pl.isList (fun w hw=>jk rx fx r fs w (by simpa using hw)) ⟨.bl _,H,I,rfl,?_⟩
   rw [show aP.toArray.any (yy x)=aP.any (yy x) by simp,lM r fs]
   exact q
 · obtain ⟨aP,r,pl,hz⟩:=I.tuple hq
   refine SeqAt.notIn_tupleAt (yy x) pl (fun w hw=>jk rx fx r fs w (by simpa using hw)) ⟨.bl _,H,I,rfl,?_⟩
   rw [show aP.toArray.any (yy x)=aP.any (yy x) by simp,lM r fs]
   exact q
theorem uD:ff X (compareOp .NotIn) (fun x y H Q=>∃ i j,x = .str i∧y = .str j∧Q (.bl (!(!(Builtin.Str.occurrences j i 0 j.length 1).isEmpty))) H):=by
 intro pins s σ H x y v u Q I rx ry h
 obtain ⟨i,j,rfl,rfl,q⟩:=h
 obtain ⟨t,rfl⟩:=rx
 obtain ⟨t',rfl⟩:=ry
 exact notIn_str ⟨.bl _,H,I,rfl,q⟩
theorem uE:dC X (.builtin "len") (fun xs H Q=>∃ p ys,xs=[.ref p]∧(gm X.K H p ys∨dY X.K H p ys)∧Q (.int ys.length) H):=by
 intro pins s σ H xs us Q I r h
 obtain ⟨p,ys,rfl,hq,q⟩:=h
 obtain ⟨u,rfl,rx⟩:=vals1 r
 cases rx
 have hn:=ni
 rcases hq with hq | hq
 · obtain ⟨aP,r',pl,hz⟩:=I.list hq
   have hlen:=r'.length
   exact Calls.call_len_list pl.isList (by simp only [ir] <;> omega) ⟨.int ys.length,H,I.tok _,⟨s.toks+1,by rw [ir,hlen]⟩,q⟩
 · obtain ⟨aP,r',pl,hz⟩:=I.tuple hq
   have hlen:=r'.length
   exact len_tuple pl (by simp only [ir] <;> omega) ⟨.int ys.length,H,I.tok _,⟨s.toks+1,by rw [ir,hlen]⟩,q⟩
theorem uF:dC X (.builtin "len") (fun xs H Q=>∃ z,xs=[.str z]∧z.length≤sizeLine∧Q (.int z.length) H):=by
 intro pins s σ H xs us Q I r h
 obtain ⟨z,rfl,hz,q⟩:=h
 obtain ⟨u,rfl,t,rfl⟩:=vals1 r
 have hn:=ni
 exact len_str (by omega) ⟨.int z.length,H,I.tok _,⟨_,rfl⟩,q⟩
theorem dC.or {f:Value} {r r':List V→Hp→VK→Prop} (h:dC X f r) (h':dC X f r'):dC X f (fun xs H Q=>r xs H Q∨r' xs H Q):=by
 intro pins s σ H xs us Q I rs q
 rcases q with q | q
 · exact h pins s σ H xs us Q I rs q
 · exact h' pins s σ H xs us Q I rs q
theorem fq:dC X (.type "list") (fun xs H Q=>∃ p ys,xs=[.ref p]∧(gm X.K H p ys∨dY X.K H p ys)∧∀ l,H l=none→Q (.ref l) (upd H l (.lst ys))):=by
 intro pins s σ H xs us Q I r h
 obtain ⟨p,ys,rfl,hq,q⟩:=h
 obtain ⟨u,rfl,rx⟩:=vals1 r
 cases rx
 have fin:∀ (aP:List Value),Vals ys aP→ys.length≤sizeLine→∀ (h':Heap) (c':Nat),(∀ b o',s.heap.get? b=some o'→h'.get? b=some o') →
   h'.get? s.heap.objs.size=some { cls:=.type "list",dict:=none,data:=.seq aP.toArray c',slots:=#[] }→EP X pins σ Q (.ref s.heap.objs.size) { s with heap:=h' }:=fun aP r' hz h' c' kp e =>
  ⟨.ref s.heap.objs.size,_,I.laid (t':=s.toks) kp (cZ _) (show bQ X.prog X.w _ h' _ (.lst ys) from ⟨hz,aP,c',r',e⟩),rfl,q _ (I.bB.fresh (cZ _))⟩
 rcases hq with hq | hq
 · obtain ⟨aP,r',pl,hz⟩:=I.list hq
   have hlen:=r'.length
   obtain ⟨o,ho,hc,n,hd⟩:=pl.isList
   exact call_list_seq p (.inl rfl) ho hc hd (fun h' c' kp e=>fin aP r' hz h' c' kp e) (by simp only [ir] <;> omega)
 · obtain ⟨aP,r',pl,hz⟩:=I.tuple hq
   have hlen:=r'.length
   obtain ⟨o,ho,hc,n,hd⟩:=pl
   exact call_list_seq p (.inr rfl) ho hc hd (fun h' c' kp e=>fin aP r' hz h' c' kp e) (by simp only [ir] <;> omega)
theorem kr:dC X (.type "tuple") (fun xs H Q=>∃ p ys,xs=[.ref p]∧((gm X.K H p ys∧∀ l,H l=none→Q (.ref l) (upd H l (.tup ys)))∨(dY X.K H p ys∧Q (.ref p) H))):=by
 intro pins s σ H xs us Q I r h
 obtain ⟨p,ys,rfl,h⟩:=h
 obtain ⟨u,rfl,rx⟩:=vals1 r
 cases rx
 rcases h with ⟨hq,q⟩ | ⟨hq,q⟩
 · obtain ⟨aP,r',pl,hz⟩:=I.list hq
   have hlen:=r'.length
   refine call_tuple_list pl.isList (fun h' kp=>?_) (by simp only [ir] <;> omega)
   have I1:Inv X pins σ H { s with heap:=h' }:=I.kept (t':=s.toks) kp
   have I2:Inv X pins σ (upd H h'.objs.size (.tup ys)) { s with heap:=h'.push { cls:=.type "tuple",data:=.seq aP.toArray } } :=
    I1.laid (t':=s.toks) (fun b o e=>dH _ e) (cZ _) (show bQ X.prog X.w _ _ _ (.tup ys) from ⟨hz,aP,r',IsTup.new _ _⟩)
   exact ⟨.ref h'.objs.size,_,I2,rfl,q _ (I1.bB.fresh (cZ _))⟩
 · obtain ⟨aP,r',pl,hz⟩:=I.tuple hq
   exact call_tuple_same pl ⟨.ref p,H,I,rfl,q⟩
def Vf (K:PySem.W.Frag) (T:String) (x:V) (H:Hp):Prop:=match x with
 | .str _=>T="str"
 | .int _=>T="int"
 | .ref p=>(T="list"∧∃ xs,gm K H p xs)∨(T="tuple"∧∃ o,K.lookup p=some o∧o.cls = .type "tuple"∧o.dict=none) ∨
    (T="dict"∧((∃ aV,H p=some (.dK aV))∨∃ aV,H p=some (.dT aV)))∨(T="set"∧∃ S n,H p=some (.set S n))
 | _=>False
theorem DM {pins:List (Addr×Obj)} {σ:St} {H:Hp} {s:Shared} {T:String} {x:V} {v:Value} (I:Inv X pins σ H s) (r:RelV x v) (ty:Vf X.K T x H) :
  s.TypeIs v T∧∀ a,v = .ref a→∃ ob,s.heap.get? a=some ob∧ob.dict=none:=by
 cases x with
 | str z =>
   obtain ⟨t,rfl⟩:=r
   cases (show T="str" from ty)
   exact ⟨typeIs_str s z t,fun _ e=>nomatch e⟩
 | int i =>
   obtain ⟨t,rfl⟩:=r
   cases (show T="int" from ty)
   exact ⟨typeIs_int s i t,fun _ e=>nomatch e⟩
 | ref p =>
   cases r
   rcases ty with ⟨rfl,xs,hq⟩ | ⟨rfl,o,hk,hc,hd⟩ | ⟨rfl,hk⟩ | ⟨rfl,S,n,hk⟩
   · obtain ⟨aP,_,pl,_⟩:=I.list hq
     refine ⟨pl.isList.typeIs,fun a e=>?_⟩
     cases e
     obtain ⟨o,n,e,c,hd,_⟩:=pl
     exact ⟨o,e,hd⟩
   · refine ⟨⟨o,I.kq p o hk,hc⟩,fun a e=>?_⟩
     cases e
     exact ⟨o,I.kq _ o hk,hd⟩
   · have z:∃ o,s.heap.get? p=some o∧o.ExactDict:=by
      rcases hk with ⟨aV,hk⟩ | ⟨aV,hk⟩
      · obtain ⟨_,_,_,_,o,_,_,e,ex,_⟩:=I.bB p _ hk
        exact ⟨o,e,ex⟩
      · obtain ⟨_,_,_,_,o,_,_,e,ex,_⟩:=I.bB p _ hk
        exact ⟨o,e,ex⟩
     obtain ⟨o,e,ex⟩:=z
     refine ⟨⟨o,e,ex.1⟩,fun a e2=>?_⟩
     cases e2
     exact ⟨o,e,ex.2.1⟩
   · obtain ⟨o,_,_,_,e,ex,_⟩:=I.bB p _ hk
     refine ⟨⟨o,e,ex.1⟩,fun a e2=>?_⟩
     cases e2
     exact ⟨o,e,ex.2.1⟩
 | _=>exact False.elim ty
def Vg (K:PySem.W.Frag) (T:String) (r:V→List V→Hp→VK→Prop) (to:TE):TE:=fun σ H Q=>to σ H fun x H1=>Vf K T x H1∧r x [] H1 Q
def Zd (K:PySem.W.Frag) (T:String) (r:V→List V→Hp→VK→Prop) (to:TE) (t:TA):TE:=fun σ H Q=>to σ H fun x H1=>Vf K T x H1∧t σ H1 fun xs H2=>r x xs H2 Q
variable {o e:Expr} {es:List Expr} {to:TE} {t:TA} {name:Str} {apos a9:Pos} {T id:String} {r:V→List V→Hp→VK→Prop}
theorem Mq (pa:PlainAttrs T) (slot:Slot T name id) (Mr:typeOf (.builtin id)=pure (.type "method_descriptor")) (hm:BB X id r) (ho:PE X o to)
  (eX:attributeBase o name X.env (eval o X.env)=eval o X.env:=by rfl) (eY:(apos.endLine == a9.line)=true:=by rfl):PE X (.Call (.Attribute o name apos) [] [] a9) (Vg X.K T r to):=by
 intro pins s σ H Q I h
 refine wpAny_Call_method0_late eX eY (bT (ho pins s σ H _ I h) fun v s1 ⟨x,H1,I1,r1,ty,q1⟩=>?_)
 obtain ⟨h1,h2⟩:=DM I1 r1 ty
 exact ⟨T,id,pa,slot,Mr,h1,h2,Tn rfl (PySem.evalArgs_none (hm pins s1 σ H1 x [] v [] Q I1 r1 .nil q1))⟩
theorem sZ (pa:PlainAttrs T) (slot:Slot T name id) (Mr:typeOf (.builtin id)=pure (.type "method_descriptor")) (hm:BB X id r) (ho:PE X o to) (ha:PA X (e :: es) t)
  (eX:attributeBase o name X.env (eval o X.env)=eval o X.env:=by rfl)
  (ny:((backTo a9 (starEach (e :: es) X.env)).all (fun x=>!x.1) && (backToKw a9 (keywordEach [] X.env)).all (fun x=>x.1.isSome)
    && decide ((e :: es).length+([]:List Keyword).length+(if ([]:List Keyword).isEmpty then 0 else 1) < 30))=true:=by rfl)
  (eY:(apos.endLine == a9.line)=true:=by rfl) (hs:starEach (e :: es) X.env=(false,eval e X.env) :: starEach es X.env:=by rfl) (d7:(backTo a9 (starEach es X.env)).any (·.1)=false:=by rfl) :
  PE X (.Call (.Attribute o name apos) (e :: es) [] a9) (Zd X.K T r to t):=by
 intro pins s σ H Q I h
 refine wpAny_Call_method_late eX ny eY rfl (bT (ho pins s σ H _ I h) fun v s1 ⟨x,H1,I1,r1,ty,q1⟩=>?_)
 obtain ⟨h1,h2⟩:=DM I1 r1 ty
 refine ⟨T,id,pa,slot,Mr,h1,h2,?_⟩
 have hA:=ha a9 pins s1 σ H1 _ I1 q1
 rw [hs] at hA ⊢
 refine Tn (by show (false || (backTo a9 (starEach es X.env)).any (·.1))=false; rw [d7] <;> rfl) (Calls.evalArgs_plain ?_)
 exact bT hA fun us s2 ⟨vs,H2,I2,r2,q2⟩=>hm pins s2 σ H2 x vs v us Q I2 r1 r2 q2
end
def Ya (X:Cx) (id:String) (r:V→List V→Hp→VK→Prop):Prop :=
 ∀ (pins:List (Addr×Obj)) (s:Shared) (σ:St) (H:Hp) (x:V) (xs:List V) (v:Value) (us:List Value) (Q:VK),Inv X pins σ H s→RelV x v→Vals xs us→r x xs H Q →
  wpAny (model X.prog X.w) X.A (call (.builtin id) (v :: us)) (EP X pins σ Q) X.xe s
theorem Vals.one:∀ {x:V} {us:List Value},Vals [x] us→∃ u,us=[u]∧RelV x u
 | _,_,.cons r .nil=>⟨_,rfl,r⟩
theorem Vals.two:∀ {x y:V} {us:List Value},Vals [x,y] us→∃ u v,us=[u,v]∧RelV x u∧RelV y v
 | _,_,_,.cons r (.cons q .nil)=>⟨_,_,rfl,r,q⟩
theorem Vals.zero:∀ {us:List Value},Vals [] us→us=[]
 | _,.nil=>rfl
theorem Vals.dropLast {xs:List V} {us:List Value} (h:Vals xs us):Vals xs.dropLast us.dropLast:=by
 induction h with
 | nil=>exact .nil
 | cons r t ih =>
   cases t with
   | nil=>exact .nil
   | cons q t'=>exact .cons r ih
theorem Vals.eraseIdx:∀ {xs:List V} {us:List Value} (i:Nat),Vals xs us→Vals (xs.eraseIdx i) (us.eraseIdx i)
 | _,_,_,.nil=>.nil
 | _,_,0,.cons _ t=>t
 | _,_,i+1,.cons r t=>.cons r (Vals.eraseIdx i t)
theorem Vals.rep {xs:List V} {us:List Value} (h:Vals xs us):∀ k:Nat,Vals (List.replicate k xs).flatten (List.replicate k us).flatten
 | 0=>.nil
 | k+1=>by
   rw [C5,C5,LB,LB]
   exact Vals.append h (Vals.rep h k)
theorem yz {α:Type} (l:List α):l.eraseIdx (l.length - 1)=l.dropLast:=by
 induction l with
 | nil=>rfl
 | cons a r ih =>
   cases r with
   | nil=>rfl
   | cons b r =>
     have e:(a :: b :: r).length - 1=((b :: r).length - 1)+1:=by
      have h1:(a :: b :: r).length=r.length+2:=rfl
      have h2:(b :: r).length=r.length+1:=rfl
      omega
     rw [e,List.eraseIdx_cons_succ,ih]
     all_goals rfl
theorem foldl_rep (aP:List Value):∀ (k:Nat) (acc:List Value),
  List.foldl (fun x1 x2=>x1 ++ x2) acc.toArray (List.replicate k aP.toArray)=(acc ++ (List.replicate k aP).flatten).toArray
 | 0,acc=>by simp
 | k+1,acc=>by
   have e:acc.toArray ++ aP.toArray=(acc ++ aP).toArray:=by simp
   have e2:(acc ++ aP) ++ (List.replicate k aP).flatten=acc ++ (List.replicate (k+1) aP).flatten:=by
    rw [C5,LB,List.append_assoc]
   rw [← e2,← foldl_rep aP k (acc ++ aP),← e,C5,List.foldl_cons]
section
variable {X:Cx} {pins:List (Addr×Obj)} {σ:St} {H:Hp} {s:Shared} {l b:Addr} {xs ys zs:List V}
theorem Inv.Qo {aP its':List Value} {n:Nat} {f:Array Value→Array Value} {t':Nat} (I:Inv X pins σ H s) (hH:H l=some (.lst xs))
  (e:s.heap.get? l=some { cls:=.type "list",data:=.seq aP.toArray n }) (hf:f aP.toArray=its'.toArray) (hv:Vals ys its') (hz:ys.length≤sizeLine) :
  Inv X pins σ (upd H l (.lst ys)) { s with heap:=s.heap.update l (Obj.mapSeq f),toks:=t' }:=by
 have q:=PySem.IsL.update e f
 rw [hf] at q
 refine I.write (x:=l) (e:=l) (by rw [hH]; exact trivial) (.inl rfl) (fun b' u hb hu=>(Kg s.heap (Obj.mapSeq f) (Ne.symm hb)).trans hu) ⟨_,q⟩ ?_
 exact ⟨hz,its',_,hv,q⟩
theorem Inv.Qp {aP:List Value} {t':Nat} (I:Inv X pins σ H s) (hv:Vals ys aP) (hz:ys.length≤sizeLine) :
  Inv X pins σ (upd H s.heap.objs.size (.lst ys)) { s with heap:=s.heap.push { cls:=.type "list",data:=.seq aP.toArray },toks:=t' } :=
 I.laid (fun _ _ q=>dH _ q) (cZ _) ⟨hz,aP,0,hv,pd _ rfl⟩
theorem Inv.fresh (I:Inv X pins σ H s):H s.heap.objs.size=none:=I.bB.fresh (cZ _)
theorem Inv.Ms (I:Inv X pins σ H s) (hH:H l=some (.lst xs)):xs.length≤sizeLine∧∃ (aP:List Value) (n:Nat),Vals xs aP∧xs.length=aP.length∧s.heap.get? l=some { cls:=.type "list",data:=.seq aP.toArray n }:=by
 obtain ⟨z,aP,n,r,e⟩:=I.bB l _ hH
 exact ⟨z,aP,n,r,r.length,e⟩
theorem DN {n:Nat} (h:n≤sizeLine):Builtin.List.listTooLong n=false:=by
 unfold Builtin.List.listTooLong
 exact decide_eq_false (by omega)
end
section
variable {X:Cx}
def AD:V→List V→Hp→VK→Prop:=fun x vs H Q=>∃ l xs y,x = .ref l∧vs=[y]∧H l=some (.lst xs)∧xs.length < sizeLine∧Q .bb (upd H l (.lst (xs ++ [y])))
theorem d8:Ya X "list.append" AD:=by
 intro pins s σ H x vs v us Q I rx rv h
 obtain ⟨l,xs,y,rfl,rfl,hH,hz,q⟩:=h
 cases rx
 obtain ⟨u,rfl,ru⟩:=rv.one
 obtain ⟨z,aP,n,r,hl,e⟩:=I.Ms hH
 refine call_meets F.slot_list_append ⟨_,e,rfl⟩ F.entry_list_append (F.args_list_append_2 _ _) (PySem.list_append l aP.toArray n u (by rw [ir]; omega)) ⟨e,?_⟩
 refine ⟨.bb,_,I.Qo (its':=aP ++ [u]) hH e (by simp) (r.append (.cons ru .nil)) ?_,rfl,q⟩
 rw [pP,Lw]
 omega
def Qq:V→List V→Hp→VK→Prop:=fun x vs H Q=>∃ l xs y,x = .ref l∧vs=[]∧H l=some (.lst xs)∧xs[xs.length - 1]?=some y∧Q y (upd H l (.lst xs.dropLast))
theorem yA:Ya X "list.pop" Qq:=by
 intro pins s σ H x vs v us Q I rx rv h
 obtain ⟨l,xs,y,rfl,rfl,hH,hy,q⟩:=h
 cases rx
 have Vh:=rv.zero
 subst Vh
 obtain ⟨z,aP,n,r,hl,e⟩:=I.Ms hH
 obtain ⟨u,hu,ru⟩:=r.get hy
 have Mt:aP.toArray[aP.toArray.size - 1]?=some u:=by
  show aP.toArray[aP.length - 1]?=some u
  rw [← Array.getElem?_toList,← hl]
  exact hu
 refine call_meets F.slot_list_pop ⟨_,e,rfl⟩ F.entry_list_pop (F.args_list_pop_1 _) (MeetsSeq.list_pop_last l aP.toArray n u Mt (by rw [ir]; omega)) ⟨e,?_⟩
 refine ⟨y,_,I.Qo (its':=aP.dropLast) hH e ?_ r.dropLast ?_,ru,q⟩
 · show aP.toArray.eraseIdxIfInBounds (aP.toArray.size - 1)=aP.dropLast.toArray
   rw [ir,List.eraseIdxIfInBounds_toArray,yz]
 · rw [Dk]
   omega
def Vi:R2:=fun x y H Q=>∃ l k xs,x = .ref l∧y = .int k∧H l=some (.lst xs)∧-(2 ^ 63)≤k∧k < 2 ^ 63∧xs.length * k.toNat≤sizeLine ∧
 ∀ p,H p=none→Q (.ref p) (upd H p (.lst (List.replicate k.toNat xs).flatten))
theorem len_rep {α:Type} (xs:List α) (k:Nat):(List.replicate k xs).flatten.length=k * xs.length:=by
 induction k with
 | zero=>simp
 | succ k ih=>rw [C5,LB,pP,ih,Nat.succ_mul,Nat.add_comm]
theorem Mu:ff X (binaryOp .Mult) Vi:=by
 intro pins s σ H x y v u Q I rx ry h
 obtain ⟨l,k,xs,rfl,rfl,hH,h1,h2,hz,q⟩:=h
 cases rx
 obtain ⟨t,rfl⟩:=ry
 obtain ⟨z,aP,n,r,hl,e⟩:=I.Ms hH
 have hlen:aP.toArray.size * k.toNat≤sizeLine:=by rw [ir,← hl]; exact hz
 have Vj:¬ aP.toArray.size * k.toNat > (2 ^ 63 - 1) / 8:=by
  have:(sizeLine:Nat)≤(2 ^ 63 - 1) / 8:=by decide
  omega
 have Vk:¬ (!Builtin.List.listFitsIndex k)=true:=by
  rw [fitsIndex_both h1 h2]
  exact lh
 have Qr:¬ Builtin.List.listTooLong (aP.toArray.size * k.toNat)=true:=by
  rw [DN hlen]
  exact lh
 have Vl:List.foldl (fun x1 x2=>x1 ++ x2) #[] (List.replicate (if aP.toArray.isEmpty=true then 0 else k.toNat) aP.toArray)=(List.replicate k.toNat aP).flatten.toArray:=by
  have f0:∀ m:Nat,List.foldl (fun x1 x2=>x1 ++ x2) #[] (List.replicate m aP.toArray)=(List.replicate m aP).flatten.toArray:=fun m=>by
   have:=foldl_rep aP m []
   rw [List.nil_append] at this
   exact this
  rw [f0]
  cases aP with
  | nil=>simp
  | cons a r'=>rw [if_neg (by simp)]
 refine wpAny_binaryOp_repeat_ref (T:="list") (U:="int") (by decide) ⟨_,e,rfl⟩ (fun s'=>typeIs_int s' k t) noFill_list_mul F.fills_int_mul F.slot_int_rmul repeat_list F.slot_int_index.lookup
  (call_meets F.slot_int_rmul (typeIs_int s k t) F.entry_int_rmul (F.args_int_rmul_2 _ _) (int___rmul___int_list k t l aP.toArray n)
    ⟨e,rfl,⟨_,e,rfl⟩,call_meets F.slot_list_mul ⟨_,e,rfl⟩ F.entry_list_mul (F.args_list_mul_2 _ _) (AutoListH.list___mul___list_int_3 l aP.toArray n k t Vk Vj Qr) ⟨e,?_⟩⟩)
 rw [Vl]
 exact ⟨.ref _,_,I.Qp (t':=s.toks) (r.rep k.toNat) (by rw [len_rep,Nat.mul_comm]; exact hz),rfl,q _ I.fresh⟩
end
section
variable {prog:Program} {w:World} {A:Around} {E:Value→Shared→Prop} {s:Shared}
end
section
variable {X:Cx}
end
end L2
namespace TL
open PySem PySem.W PySem.Calls PyProof.Rows
theorem oU {P:Params} {h:Heap}:∀ (ns:List Int) (vs:List Value),WellAll P h vs (ns.map WData.int)→IntsAre vs ns:=by
 intro ns
 induction ns with
 | nil =>
   intro vs w
   rw [GZ] at w
   cases w
   exact .nil
 | cons n ns ih =>
   intro vs w
   rw [iZ] at w
   cases w with
   | cons a b =>
     cases a
     exact .cons _ _ (ih _ b)
theorem BD {l:OpenLaw} {n:Nat} (hn:l.most=some n) {P:Params} {h:Heap} {args:List WData} {vals:List Value}
  (BE:l.row.toRowW.claim.pre args=true) (Qs:WellAll P h vals args) :
  ∃ a vs ns,vals=[Value.ref a]∧args=[WData.list (ns.map WData.int)]∧h.get? a=some { cls:=.type "list",data:=.seq vs.toArray }∧IntsAre vs ns∧ns.length≤n:=by
 have Ze:WShape.hasAll [] args [.list .int]=true:=(pre_splitW BE).1
 have hc:l.pre.holds [] { args:=args }=true:=(pre_splitW BE).2
 obtain ⟨d,r,rfl,h1,h2⟩:=hasAllW_cons Ze
 obtain rfl:=hasAllW_nil h2
 obtain ⟨xs,rfl,h3⟩:=hasW_list h1
 obtain ⟨ns,rfl⟩:=items_int h3
 have hlen:ns.length≤n:=by
  unfold OpenLaw.pre at hc
  have h4:(WTm.not (.lt (.lit (.int (n:Int))) (.len (.arg 0)))).holds [] { args:=[.list (ns.map .int)] }=true:=by
   have h4:=(holds_andW hc).1
   rw [hn] at h4
   exact h4
  have h5:=condW_of h4 (w_not (w_lt w_lit (w_len_list (w_arg rfl))))
  rw [cV] at h5
  refine Nat.le_of_not_lt fun q=>?_
  have q':(n:Int) < ((ns.length:Nat):Int):=by omega
  first
   | (rw [decide_eq_true q'] at h5; exact absurd h5 (by decide))
   | (simp at h5; omega)
 cases Qs with
 | cons w1 w2 =>
   cases w2
   cases w1 with
   | list ho jm=>exact ⟨_,_,ns,rfl,rfl,ho,oU ns _ jm,hlen⟩
theorem BF (l:OpenLaw) (args:List WData):l.row.toRowW.claim.post args (.bool true) args=true :=
 postW_of (r:=l.row.toRowW) (X:=(true == true))
  (show WShape.has [] (.bool true) .bool=true by first | rfl | decide | simp [WShape.has,WShape.arms,WShape.armsAll])
  (show (WTm.eq .res (.lit (.bool true))).value [] { args:=args,res:=some (.bool true),after:=args }=some (.bool (true == true)) from w_eq_bool (w_res rfl) w_lit) rfl
theorem wa {l:OpenLaw} {n:Nat} {q:Program} {loose:List Str} {XP:(Str→Option Value)→Heap→Prop} {YP:World→Heap→Prop} {d:DefRec}
  (hn:l.most=some n) (Vm:d.params.defaults=[])
  (call:∀ (w:World) (s₀ s₁:Shared) (mg mb:Str→Option Value) (fa:Addr) (o:Obj) (pm cd doc:Value) (a:Addr) (vs:List Value) (ns:List Int),
    Ground q loose [] XP w s₀ mg mb s₁.heap→YP w s₁.heap →
    s₁.heap.get? fa=some o→o.data = .func (docDef d.name d.params d.body d.scope pm cd doc)→s₁.heap.CodeRec cd d.name→mg d.name=some (.ref fa) →
    s₁.heap.get? a=some { cls:=.type "list",data:=.seq vs.toArray }→IntsAre vs ns→ns.length≤n→s₁.gens = #[] →
    codeAny (model l.prog w) callerA (.call (.ref fa) ⟨[.ref a],[]⟩) (fun r s'=>r = .ok (.ret (.bool true))∧OldK s₁.heap s'.heap∧s'.os=s₁.os∧AllBare s'.gens) s₁) :
  WalkO q loose XP YP l.row.toRowW d [] (fun f vs=>PySem.call f vs):=by
 intro w s₀ s₁ mg mb G Y fa o pm cd doc dV kV ho hd iy hD Qt hg args vals as BE Qu Yb Qs Yc
 obtain rfl:dV = .none:=Dflts.none hD Vm
 obtain rfl:kV = .none:=Dflts.noKw hD
 obtain ⟨a,vs,ns,rfl,rfl,Mv,hints,hlen⟩:=BD hn BE Qs
 refine enter_call (codeAny_mono (call w s₀ s₁ mg mb fa o pm cd doc a vs ns G Y ho (fd_plain hd) iy Qt Mv hints hlen hg) fun r s' hq=>?_)
 obtain ⟨rfl,h2,h3,h4⟩:=hq
 exact ⟨.inl ⟨.bool true,.bool true,[],rfl,fun _=>rfl,.bool true,BF l _,fun _=>⟨List.Pairwise.nil,fun _ hm=>(nomatch hm)⟩⟩,h2,h3,h4⟩
section
variable {prog:Program} {w:World} {A:Around} {E:Value→Shared→Prop} {s:Shared} {K:Frag}
end
end TL
namespace L2
open PySem PySem.Spec PyProof.Rows
theorem s_:∀ {vs:List Value} {ns:List Int},IntsAre vs ns→Vals (ns.map V.int) vs
 | _,_,.nil=>.nil
 | _,_,.cons n t h=>.cons ⟨t,rfl⟩ (s_ h)
def Qv (H:Hp):Prop:=∀ b,H b=none∨∃ o xs,H b=some (.vT o (.lst xs))
theorem DO {P:Program} {w:World} {K:PySem.W.Frag} {mg mb:Str→Option Value} {CX:yt} {k:Nat} {fa a:Addr} {fd:FuncData} {x:Str} {sp:Sp} {s₁:Shared} {vs:List Value} {ns:List Int}
  (KX:K.In s₁.heap) (Yd:s₁.heap.Ns mainGlobals mg) (hb:s₁.heap.Ns builtinsNs mb) (Zf:∀ x:Str,x≠"__name__"→mb x=bootBuiltins x) (Vn:s₁.heap.NoLimit) (hg:s₁.gens = #[])
  (ha:s₁.heap.get? a=some { cls:=.type "list",data:=.seq vs.toArray }) (hi:IntsAre vs ns) (hl:ns.length≤sizeLine) (hr:bj k callerA)
  (F:∀ base:Heap,K.In base→base.Ns mainGlobals mg→cF P w K mg base CX k fa fd [x] sp) (Qw:∀ (s:Shared) (u:Value),BindsTo s fd ⟨[u],[]⟩ [(x,u)])
  (Kv:∀ H:Hp,Qv H→gm K H a (ns.map V.int)→sp [.ref a] H (fun v _=>v = .bl true) fun _ _ _=>False)
  (Zg:∀ H e s',CX [] H s₁ (fun _ _ _=>False) e s'→False) :
  codeAny (model P w) callerA (.call (.ref fa) ⟨[.ref a],[]⟩) (fun r s'=>r = .ok (.ret (.bool true))∧OldK s₁.heap s'.heap∧s'.os=s₁.os∧AllBare s'.gens) s₁:=by
 have rv:=s_ hi
 have Vo:=hi.length
 have core:∀ H:Hp,Qv H→gm K H a (ns.map V.int)→ki P w H s₁.heap→(∀ b,H b≠none→b=a)→(H a≠none→K.lookup a=none) →
   codeAny (model P w) callerA (.call (.ref fa) ⟨[.ref a],[]⟩) (fun r s'=>r = .ok (.ret (.bool true))∧OldK s₁.heap s'.heap∧s'.os=s₁.os∧AllBare s'.gens) s₁:=by
  intro H hO hS bB hA hK
  have AE:∀ {b:Addr} {o:Obj},s₁.heap.get? b=some o→H b=none→(uy s₁.heap H).get? b=some o:=fun e n=>Dr e n
  have Qc:∀ {b:Addr} {o:Obj} {es:Array DictEntry} {ep:Nat},s₁.heap.get? b=some o→o.data = .dict es ep→H b=none:=fun {b o es ep} e d=>by
   cases q:H b with
   | none=>rfl
   | some u =>
     have e':b=a:=hA b (by rw [q]; simp)
     subst e'
     rw [ha] at e; cases e
     have d':Data.seq vs.toArray _=Data.dict es ep:=d
     cases d'
  have TM:∀ {b:Addr} {m:Str→Option Value},s₁.heap.Ns b m→(uy s₁.heap H).Ns b m:=fun {b m} ⟨o,es,ep,e,d,r⟩=>⟨o,es,ep,AE e (Qc e d),d,r⟩
  have Ye:K.In (uy s₁.heap H):=fun b o e=>AE (KX b o e) (by
   cases q:H b with
   | none=>rfl
   | some u =>
     have e':b=a:=hA b (by rw [q]; simp)
     subst e'
     rw [hK (by rw [q]; simp)] at e; cases e)
  have hM:Mod K mg (uy s₁.heap H):=⟨Ye,TM Yd,⟨mb,TM hb,Zf⟩,let ⟨mc,h1,h2⟩:=Vn; ⟨mc,TM h1,h2⟩⟩
  have e0:rV P w K mg (uy s₁.heap H) callerA [] s₁ H:=⟨rfl,hM,fun b o e=>G1 e,Nat.le_of_eq (Bs _ _),trivial,fun b hb=>absurd (show b∈([]:List Addr) from hb) (by simp),bB,.of_eq hg⟩
  refine codeAny_mono ((F _ Ye (TM Yd)).run callerA [] s₁ H ⟨[.ref a],[]⟩ [.ref a] [.ref a] _ _ hr e0 (Qw s₁ (.ref a)) (.cons rfl .nil) (Kv H hO hS)) fun r s' h=>?_
  cases r with
  | error e=>exact (Zg H e s' h).elim
  | ok fl =>
    cases fl with
    | ret u =>
      obtain ⟨v,H',os,bare,un,Vp,r',q⟩:=h
      have q':v = .bl true:=q
      subst q'
      obtain rfl:u=Value.bool true:=r'
      refine ⟨rfl,OldK.of_keep fun b o e=>?_,os,bare⟩
      cases q:H b with
      | none=>exact un.keep b o e q (by intro z; exact absurd (show b∈([]:List Addr) from z) (by simp)) (by simp)
      | some u =>
        rcases hO b with z | ⟨ob,xs,z⟩
        · rw [q] at z; cases z
        · have z2:=un.iw b ob _ z
          obtain ⟨e1,_⟩:=bB b _ z
          obtain ⟨e2,_⟩:=Vp b _ z2
          rw [e] at e1; cases e1
          exact e2
    | _=>exact False.elim h
 cases hk:K.lookup a with
 | some o =>
   have e:=KX a o hk
   rw [ha] at e
   cases e
   refine core (fun _=>none) (fun _=>.inl rfl) (.inr ⟨_,vs.toArray,_,hk,rfl,rfl,rfl,by rw [ir,Vo]; exact hl,by simpa using rv⟩) (fun b u z=>by have z':(none:Option HO)=some u:=z; cases z') (fun b z=>absurd rfl z) fun z=>absurd rfl z
 | none =>
   refine core (fun b=>if b=a then some (.vT { cls:=.type "list",data:=.seq vs.toArray } (.lst (ns.map V.int))) else none) (fun b=>?_) (.inl (.inr ⟨{ cls:=.type "list",data:=.seq vs.toArray },if_pos rfl⟩)) (fun b u z=>?_) (fun b z=>?_) fun _=>hk
   · by_cases hb:b=a
     · exact .inr ⟨_,_,if_pos hb⟩
     · exact .inl (if_neg hb)
   · by_cases hb:b=a
     · have z':=(if_pos hb).symm.trans z
       cases z'
       subst hb
       exact ⟨ha,by rw [cV]; exact hl,vs,_,rv,ha⟩
     · have z':=(if_neg hb).symm.trans z
       cases z'
   · by_cases hb:b=a
     · exact hb
     · exact absurd (if_neg hb) z
def inClass (s:Stmt) (j:Nat):Stmt:=match s with
 | .ClassDef _ _ _ body _ _ _ _ _ _ _=>body.getD j (.Pass ⟨0,0,0,0⟩)
 | _=>.Pass ⟨0,0,0,0⟩
def fu (s:Stmt):Arguments:=match s with
 | .FunctionDef _ a _ _ _ _ _ _ _ _=>a
 | _=>{ posonlyargs:=[],args:=[],vararg:=none,kwonlyargs:=[],kw_defaults:=[],kwarg:=none,defaults:=[] }
def cc (s:Stmt):List Stmt:=match s with
 | .FunctionDef _ _ b _ _ _ _ _ _ _=>b
 | _=>[]
def aj (s:Stmt):Scope:=match s with
 | .FunctionDef _ _ _ _ _ _ sc _ _ _=>sc
 | _=>{ kind:=.function,names:=[],isGenerator:=false,isCoroutine:=false }
abbrev ip:yt:=fun _ _ _ _ _ _=>False
abbrev E0:XK:=fun _ _ _=>False
theorem tf {X:Cx}:Passes ip X E0:=fun _ _ _ _ _ _ _ h=>h.elim
structure BG (K:PySem.W.Frag) (x qual:Str) (st:Stmt) (f:Addr) (fd:FuncData):Prop where
 ex:∃ (oc:Value) (od:Option Addr) (kV doc pm:Value) (an:Option Addr) (bw ct:Value) (Aw:Array (Option Value)),
  fd=PySem.W.fnOf x qual (fu st) (cc st) (aj st) .none kV doc pm an bw ct∧K.lookup f=some ⟨oc,od,.func fd,Aw⟩∧PySem.W.codeIn K bw qual=true
 kp:PySem.W.keepIn K (.ref f)=true
section
variable {P:Program} {w:World} {K:PySem.W.Frag} {mg:Str→Option Value} {base:Heap}
theorem BG.ok {x qual:Str} {st:Stmt} {f:Addr} {fd:FuncData} {N ps:List Str} {k:Nat} {sp:Sp} (F:BG K x qual st f fd) (S:aH N ps (aj st)) (len:∀ vs H Q E,sp vs H Q E→vs.length=ps.length)
  (gW:∀ (bw:Value) (A:Around) (outer:List Env) (s:Shared) (H:Hp) (vs:List V) (Q:VK) (E:XK),bj k (A.deeper (envOfC qual (aj st) s.heap.objs.size f bw))→sp vs H Q E →
    ∃ t,oR (dy ip P w K mg base N qual (aj st) f bw A outer s H E).ng (cc st) t∧t { nx:=fun _ H'=>Q .bb H',rt:=Q } (start N vs) H):cF P w K mg base ip (k+1) f fd ps sp:=by
 obtain ⟨oc,od,kV,doc,pm,an,bw,ct,Aw,rfl,lk,iy⟩:=F.ex
 refine Ku lk iy S len fun A outer s H vs Q E hr Kv=>?_
 obtain ⟨t,h,q⟩:=gW bw A outer s H vs Q E hr Kv
 exact ⟨t,h.ng,q⟩
theorem BG.binds {x qual:Str} {st:Stmt} {f:Addr} {fd:FuncData} {ps:List Str} (F:BG K x qual st f fd)
  (h:∀ (kV doc pm:Value) (an:Option Addr) (bw ct:Value) (us:List Value),us.length=ps.length→bindArgs (PySem.W.fnOf x qual (fu st) (cc st) (aj st) .none kV doc pm an bw ct) ⟨us,[]⟩=pure (ps.zip us)):Binds K fd ps []:=by
 obtain ⟨oc,od,kV,doc,pm,an,bw,ct,Aw,rfl,lk,iy⟩:=F.ex
 exact .all (h kV doc pm an bw ct)
theorem pU {x qual:Str} {st:Stmt} {f:Addr} {oc:Value} {od an:Option Addr} {Aw:Array (Option Value)} {kV doc pm bw ct:Value} (l:K.lookup f=some ⟨oc,od,.func (PySem.W.fnOf x qual (fu st) (cc st) (aj st) .none kV doc pm an bw ct),Aw⟩)
 (c:PySem.W.codeIn K bw qual=true) (k:PySem.W.keepIn K (.ref f)=true):BG K x qual st f (PySem.W.fnOf x qual (fu st) (cc st) (aj st) .none kV doc pm an bw ct):=⟨⟨oc,od,kV,doc,pm,an,bw,ct,Aw,rfl,l,c⟩,k⟩
end
theorem BH {n:Nat} (h:n≤1000):n < sizeLine:=Nat.lt_of_le_of_lt h (by decide)
section
variable {X:Cx}
theorem pv (i:Nat) {x:Str} {pos:Pos} (hN:X.N[i]?=some x:=by rfl) (hv:rQ X.env.scope x:=by first | exact Or.inl rfl | exact Or.inr (Or.inl rfl) | exact Or.inr (Or.inr rfl)) (hd:gk x:=by decide)
 (iy:vR x:=by decide):PE X (.Name x pos) (LM i):=cD hN hv hd iy
end
theorem Qx {A B:Prop} (h:B):if false=true then A else B:=by
 rw [if_neg lh]
 exact h
theorem Qy {A B:Prop} (h:A):if true=true then A else B:=by
 rw [if_pos rfl]
 exact h
theorem kj {c A B:Prop} [Decidable c] (h1:c→A) (h2:¬ c→B):if c then A else B:=by
 by_cases h:c
 · rw [if_pos h]
   exact h1 h
 · rw [if_neg h]
   exact h2 h
def aM (H H':Hp):Prop:=∀ b o,H b=some o→H' b=some o
theorem aM.refl (H:Hp):aM H H:=fun _ _ h=>h
theorem aM.trans {H H1 H2:Hp} (a:aM H H1) (b:aM H1 H2):aM H H2:=fun c o h=>b c o (a c o h)
theorem aM.free {H H':Hp} (e:aM H H') {l:Addr} (h:H' l=Option.none):H l=Option.none:=by
 cases q:H l with
 | none=>rfl
 | some o =>
   rw [e l o q] at h
   cases h
theorem aM.seq {K:PySem.W.Frag} {H H':Hp} {a:Addr} {xs:List V} (e:aM H H') (h:gm K H a xs):gm K H' a xs:=by
 rcases h with (h | ⟨o,h⟩) | h
 · exact .inl (.inl (e _ _ h))
 · exact .inl (.inr ⟨o,e _ _ h⟩)
 · exact .inr h
section
theorem iC {env:Env} {f:Str×NameKind→List (Str×Addr)→Sem (ForInStep (List (Str×Addr)))}:∀ (l:List (Str×NameKind)) (cs:List (Str×Addr)),
  (∀ p∈l,∀ r,(p.2 = .free→∃ c,env.cells.lookup p.1=some c∧f p r=pure (.yield ((p.1,c) :: r)))∧(p.2≠.free→f p r=pure (.yield r))) →
  ∃ cl,forIn l cs f=pure cl∧(∀ y c,cl.lookup y=some c→cs.lookup y=some c∨env.cells.lookup y=some c)∧(∀ y,(cs.lookup y).isSome=true→(cl.lookup y).isSome=true) ∧
   ∀ p∈l,p.2 = .free→(cl.lookup p.1).isSome=true
 | [],cs,_=>⟨cs,by rw [List.forIn_nil],fun _ _ h=>.inl h,fun _ h=>h,fun _ h=>nomatch h⟩
 | p :: l,cs,hf=>by
   have hr:∀ q∈l,∀ r,(q.2 = .free→∃ c,env.cells.lookup q.1=some c∧f q r=pure (.yield ((q.1,c) :: r)))∧(q.2≠.free→f q r=pure (.yield r)):=fun q hq r=>hf q (i_ _ hq) r
   by_cases hp:p.2 = .free
   · obtain ⟨c,hc,e⟩:=(hf p gq cs).1 hp
     obtain ⟨cl,h1,h2,h3,h4⟩:=iC l ((p.1,c) :: cs) hr
     refine ⟨cl,?_,fun y d h=>?_,fun y h=>h3 y ?_,fun q hq TN=>?_⟩
     · rw [List.forIn_cons,e]
       exact h1
     · rcases h2 y d h with z | z
       · rw [GS] at z
         cases hy:y == p.1 with
         | true =>
           rw [hy] at z
           have ey:y=p.1:=eq_of_beq hy
           cases z
           rw [ey]
           exact .inr hc
         | false=>rw [hy] at z; exact .inl z
       · exact .inr z
     · rw [GS]
       cases hy:y == p.1 with
       | true=>rfl
       | false=>exact h
     · rcases fg.mp hq with z | z
       · subst z
         refine h3 _ ?_
         rw [GS,beq_self_eq_true]
         rfl
       · exact h4 q z TN
   · have e:=(hf p gq cs).2 hp
     obtain ⟨cl,h1,h2,h3,h4⟩:=iC l cs hr
     refine ⟨cl,?_,h2,h3,fun q hq TN=>?_⟩
     · rw [List.forIn_cons,e]
       exact h1
     · rcases fg.mp hq with z | z
       · subst z; exact absurd TN hp
       · exact h4 q z TN
theorem i4 {scope:Scope} {env:Env} (h:∀ p∈scope.names,p.2 = .free→∃ c,env.cells.lookup p.1=some c) :
  ∃ cl,closureFor scope env=pure cl∧(∀ y c,cl.lookup y=some c→env.cells.lookup y=some c)∧∀ p∈scope.names,p.2 = .free→∃ c,cl.lookup p.1=some c:=by
 have key:∃ cl,closureFor scope env=pure cl∧(∀ y c,cl.lookup y=some c→([]:List (Str×Addr)).lookup y=some c∨env.cells.lookup y=some c)∧(∀ y,(([]:List (Str×Addr)).lookup y).isSome=true→(cl.lookup y).isSome=true) ∧
   ∀ p∈scope.names,p.2 = .free→(cl.lookup p.1).isSome=true:=by
  simp only [closureFor]
  have go:=@iC env (fun x r=>if x.2 == NameKind.free then (do let c ← cellOf env x.1; pure (ForInStep.yield ((x.1,c) :: r))) else pure (ForInStep.yield r)) scope.names [] ?_
  · obtain ⟨cl,h1,h2⟩:=go
    refine ⟨cl,?_,h2⟩
    first
     | (show (forIn scope.names [] _ >>= fun cs=>pure cs)=_; rw [h1]; rfl)
     | (rw [h1]; rfl)
     | exact congrArg (· >>= pure) h1
  · intro p hp r
    refine ⟨fun hf=>?_,fun hf=>?_⟩
    · obtain ⟨c,hc⟩:=h p hp hf
      refine ⟨c,hc,?_⟩
      have e1:(p.2 == NameKind.free)=true:=by rw [hf]; rfl
      have e2:cellOf env p.1=pure c:=by unfold cellOf; rw [hc]
      rw [e1,if_pos rfl,e2]
      rfl
    · have e1:(p.2 == NameKind.free)=false:=by simpa using hf
      rw [e1,if_neg (by decide)]
 obtain ⟨cl,h1,h2,h3,h4⟩:=key
 refine ⟨cl,h1,fun y c e=>?_,fun p hp hf=>UC.mp (h4 p hp hf)⟩
 rcases h2 y c e with z | z
 · rw [List.lookup_nil] at z; cases z
 · exact z
theorem lN {scope:Scope} {env:Env} (y:Str):(relabel scope env).names.lookup y =
  (scope.names.lookup y).map fun k=>if (k == .free && env.scope.kind == .function && env.kindOf y == some .cell)=true then .cell else k:=by
 have key:∀ l:List (Str×NameKind),(l.map fun (n,k)=>if (k == NameKind.free && env.scope.kind == .function && env.kindOf n == some .cell) then (n,NameKind.cell) else (n,k)).lookup y =
   (l.lookup y).map fun k=>if (k == .free && env.scope.kind == .function && env.kindOf y == some .cell)=true then .cell else k:=by
  intro l
  induction l with
  | nil=>rfl
  | cons p l ih =>
    obtain ⟨n,k⟩:=p
    rw [iZ]
    show List.lookup y ((if (k == NameKind.free && env.scope.kind == .function && env.kindOf n == some .cell)=true then (n,NameKind.cell) else (n,k)) :: _)=_
    by_cases hc:(k == NameKind.free && env.scope.kind == .function && env.kindOf n == some .cell)=true
    · rw [if_pos hc,GS,GS]
      cases hy:y == n with
      | true =>
        have ey:y=n:=eq_of_beq hy
        subst ey
        show some NameKind.cell=some (if _ then _ else _)
        rw [if_pos hc]
      | false=>exact ih
    · rw [if_neg hc,GS,GS]
      cases hy:y == n with
      | true =>
        have ey:y=n:=eq_of_beq hy
        subst ey
        show some k=some (if _ then _ else _)
        rw [if_neg hc]
      | false=>exact ih
 exact key scope.names
end
def kE (N ts:List Str) (out sc:Scope):Bool :=
 (sc.kind == .function) && sc.names.all (fun p=>(p.2 != .cell) && (p.2 != .free || out.names.lookup p.1 == some .cell || out.names.lookup p.1 == some .free) && (p.2 != .local || sc.names.lookup p.1 == some .local))
   && N.all (fun y=>sc.names.lookup y != some .local) && ts.all (fun y=>sc.names.lookup y == some .local) && decide ((N ++ ts).Nodup)
structure pV (N ts:List Str) (out sc:Scope):Prop where
 kind:sc.kind = .function
 DP:∀ p∈sc.names,p.2≠.cell
 fr:∀ p∈sc.names,p.2 = .free→out.names.lookup p.1=some .cell∨out.names.lookup p.1=some .free
 names:∀ p∈sc.names,p.2 = .local→sc.names.lookup p.1=some .local
 own:∀ y∈N,sc.names.lookup y≠some .local
 tgt:∀ y∈ts,sc.names.lookup y=some .local
 nd:(N ++ ts).Nodup
theorem tq {N ts:List Str} {out sc:Scope} (h:kE N ts out sc=true):pV N ts out sc:=by
 unfold kE at h
 rw [gT,gT,gT,gT] at h
 obtain ⟨⟨⟨⟨h1,h2⟩,h3⟩,h4⟩,h5⟩:=h
 rw [C6] at h2 h3 h4
 refine ⟨eq_of_beq h1,fun p hp=>?_,fun p hp hf=>?_,fun p hp hl=>?_,fun y hy=>?_,fun y hy=>?_,of_decide_eq_true h5⟩
 · have:=h2 p hp
   rw [gT,gT] at this
   simpa using this.1.1
 · have:=h2 p hp
   rw [gT,gT] at this
   have q:=this.1.2
   rw [hf] at q
   simpa using q
 · have:=h2 p hp
   rw [gT,gT] at this
   have q:=this.2
   rw [hl] at q
   simpa using q
 · simpa using h3 y hy
 · simpa using h4 y hy
def br (X:Cx) (ts:List Str) (sc:Scope) (cl:List (Str×Addr)) (C:Addr) (fp:List Addr) (s:Shared) (H:Hp):Cx where
 prog:=X.prog
 w:=X.w
 K:=X.K
 mg:=X.mg
 base:=X.base
 A:=X.A
 N:=X.N ++ ts
 s₀:=s
 H₀:=H
 env:=compEnvC sc cl C X.env
 outer:=X.stack
 stack:=X.stack
 ex:=fp
 fn:=fun _=>false
 calm:=X.calm
 pn:=[]
 xe:=fun _ _=>False
section
variable {X:Cx} {pins:List (Addr×Obj)} {σ:St} {H:Hp} {s:Shared} {ts:List Str} {sc:Scope} {cl:List (Str×Addr)} {C D:Addr} {fp:List Addr}
theorem tu (hS:pV X.N ts X.env.scope sc) {y:Str} (h:rQ (relabel sc X.env) y):sc.names.lookup y=some .local∨(sc.names.lookup y=some .free∧((relabel sc X.env).names.lookup y=some .cell∨(relabel sc X.env).names.lookup y=some .free)):=by
 have e:=lN (scope:=sc) (env:=X.env) y
 cases hk:sc.names.lookup y with
 | none =>
   rw [hk] at e
   have e':(relabel sc X.env).names.lookup y=none:=e
   rcases h with h | h | h <;> rw [e'] at h <;> cases h
 | some k =>
   have hm:(y,k)∈sc.names:=Kh hk
   rw [hk] at e
   cases k with
   | «local»=>exact .inl rfl
   | cell=>exact absurd rfl (hS.DP _ hm)
   | free =>
     refine .inr ⟨rfl,?_⟩
     rw [e,PB]
     by_cases hc:(NameKind.free == .free && X.env.scope.kind == .function && X.env.kindOf y == some .cell)=true
     · rw [if_pos hc]; exact .inl rfl
     · rw [if_neg hc]; exact .inr rfl
   | globalExplicit =>
     have e':(relabel sc X.env).names.lookup y=some .globalExplicit:=e
     rcases h with h | h | h <;> rw [e'] at h <;> cases h
   | globalImplicit =>
     have e':(relabel sc X.env).names.lookup y=some .globalImplicit:=e
     rcases h with h | h | h <;> rw [e'] at h <;> cases h
theorem AF (I:Inv X pins σ H s) (hf:∀ b∈fp,nh X pins H b):∀ b∈fp,b∉ll X.stack:=fun b hb z=>by
 obtain ⟨_,f1,f2,_⟩:=hf b hb
 rcases fg.mp (I.yh b z) with e | e
 · exact f1 e
 · exact f2 e
theorem Hq (I:Inv X pins σ H s) (hf:∀ b∈fp,nh X pins H b) (Mw:∀ b∈fp,∃ o,s.heap.get? b=some o) (hS:pV X.N ts X.env.scope sc)
  (c1:∀ y c,cl.lookup y=some c→X.env.cells.lookup y=some c) (c2:∀ p∈sc.names,p.2 = .free→∃ c,cl.lookup p.1=some c)
  (hC:s.heap.objs.size≤C) (hD:s.heap.objs.size≤D) (TQ:D≠C) {h1:Heap} {m:Str→Option Value} {n:Nat} {t:Nat} (k:∀ b o,s.heap.get? b=some o→h1.get? b=some o) (hn:h1.Ns C m)
  (hd:h1.get? D=some { cls:=.type "list",data:=.seq ([]:List Value).toArray n }) :
  Inv (br X ts sc cl C fp s H) [] (σ ++ ts.map fun _=>none) (upd H D (.lst [])) { s with heap:=h1,toks:=t }:=by
 have sz:=I.sz
 have Vq:∀ b∈fp,b < s.heap.objs.size:=fun b hb=>by obtain ⟨o,e⟩:=Mw b hb; exact dZ e
 have Dt:∀ y c,cl.lookup y=some c→c < s.heap.objs.size:=fun y c e=>by obtain ⟨v,q⟩:=I.cell y c (c1 y c e); exact q.lt
 have ok:(br X ts sc cl C fp s H).Ok:=by
  refine ⟨I.ok.mod,hS.kind,I.ok.glob,I.ok.blt,hC,fun x y c e1 e2=>I.ok.inj x y c (c1 x c e1) (c1 y c e2),fun x hx=>?_,fun x c hx=>absurd hx (by simp [br]),I.ok.hd,I.ok.frames,.inl rfl,fun b hb=>?_,fun b o e=>I.bs b o e,
   oq I.ok.C9 sz,fun b o e hb=>?_,AF I hf,I.stack,fun b hb=>I.pj b hb⟩
  · have hv:rQ (relabel sc X.env) x:=by
     rcases hx with hx | hx
     · exact .inr (.inl hx)
     · exact .inr (.inr hx)
    rcases tu hS hv with z | ⟨z,_⟩
    · have e:=lN (scope:=sc) (env:=X.env) x
      rw [z] at e
      have e':(relabel sc X.env).names.lookup x=some .local:=e
      have TR:(relabel sc X.env).names.lookup x=some .cell∨(relabel sc X.env).names.lookup x=some .free:=hx
      rw [e'] at TR
      rcases TR with q | q <;> cases q
    · exact c2 _ (Kh z) rfl
  · exact ⟨fun e=>absurd (pe (Vq b hb) hC) (by have e':b=C:=e; rw [e']; exact Dq _),fun x c e z=>(hf b hb).2.2.2.2.1 x c (c1 x c e) z⟩
  · rcases (hf b hb).2.2.2.1 with z | z
    · exact I.ok.Bt b o e z
    · exact absurd (pe (dZ e) (oq I.ok.C9 z)) (Dq _)
 have Zh:H D=none:=I.bB.fresh hD
 refine ⟨ok,rfl,I.bare,Un.laid k hD Zh,⟨m,hn,fun i x v e1 e2 e3=>?_⟩,fun x c e=>?_,?_,fun x c e=>?_,fun p hp=>absurd (show p∈([]:List (Addr×Obj)) from hp) (by simp),I.bB.laid k hD ⟨ph _,[],n,.nil,hd⟩,?_⟩
 · have hi:i < σ.length:=by
    by_cases hi:i < σ.length
    · exact hi
    · rw [C4 (by omega),lj] at e2
      cases q:ts[i - σ.length]? with
      | none=>rw [q] at e2; cases e2
      | some a=>rw [q] at e2; cases e2
   have GD:σ[i]?=some (some v):=by rw [ux hi] at e2; exact e2
   have Yf:X.N[i]?=some x:=by
    have Qz:(X.N ++ ts)[i]?=some x:=e1
    rw [ux (by rw [← I.len]; exact hi)] at Qz
    exact Qz
   rcases tu hS e3 with z | ⟨z,zr⟩
   · exact absurd z (hS.own x (mV Yf))
   · have hm:=Kh z
     have ho:=hS.fr _ hm rfl
     obtain ⟨m0,_,hl⟩:=I.loc
     obtain ⟨u,r,l⟩:=hl i x v Yf GD (.inr ho)
     obtain ⟨c',rR⟩:=c2 _ hm rfl
     rcases l with ⟨l,_⟩ | ⟨_,c,hc,z2⟩
     · have l':X.env.scope.names.lookup x=some .local:=l
       rw [l'] at ho
       rcases ho with q | q <;> cases q
     · have ec:=c1 x c' rR
       rw [hc] at ec
       cases ec
       exact ⟨u,r,.inr ⟨zr,_,rR,z2.keeps k⟩⟩
 · obtain ⟨v,z⟩:=I.cell x c (c1 x c e)
   exact ⟨v,z.keeps k⟩
 · show upd H D (.lst []) C=none
   rw [aK (Ne.symm TQ)]
   exact I.bB.fresh hC
 · show upd H D (.lst []) c=none
   rw [aK (iu (pe (Dt x c e) hD))]
   exact I.fm x c (c1 x c e)
 · show (σ ++ ts.map fun _=>none).length=(X.N ++ ts).length
   rw [pP,pP,cV,I.len]
theorem wb (I:Inv X pins σ H s) (hf:∀ b∈fp,nh X pins H b) {Aq:List (Addr×Obj)} {σ':St} {H':Hp} {s':Shared} (J:Inv (br X ts sc cl C fp s H) Aq σ' H' s'):Inv X pins σ H' s' :=
 I.Dv J.os J.base J.bB J.bare fun b hb=>by
  obtain ⟨_,f1,_,f3,f4,f5⟩:=hf b hb
  exact ⟨f3,f1,f4,f5⟩
end
section
variable {prog:Program} {w:World} {A:Around} {R:Result→Shared→Prop} {s:Shared}
theorem km {elt target iter:Expr} {ifs:List Expr} {scope:Scope} {pos:Pos} {it acc:Value} {env:Env} (I:Nat→Shared→Prop)
  (turn:∀ n s,I n s→wpAny (model prog w) A (pyNext it) (fun r s₁=>match r with
    | none=>R (.ok .next) s₁
    | some v=>wpAny (model prog w) A (letOwnedTupleGo target it v) (fun _ Yg=>wpAny (model prog w) A (assign target env v) (fun _ s₂ =>
       wpAny (model prog w) A (forIn ifs true fun c r=>if r=true then do let ok ← isTrue c env (eval c env); pure (ForInStep.yield ok) else pure (ForInStep.yield r)) (fun ok s₃ =>
        if ok=true then wpAny (model prog w) A (eval elt env) (fun x s₄ =>
         wpAny (model prog w) A (call (.builtin "list.append") [acc,x]) (fun _ s₅=>∃ m,m < n∧I m s₅) (notedBy (model prog w) A env fun e s'=>R (.error e) s') s₄) (notedBy (model prog w) A env fun e s'=>R (.error e) s') s₃
        else ∃ m,m < n∧I m s₃) (notedBy (model prog w) A env fun e s'=>R (.error e) s') s₂) (notedBy (model prog w) A env fun e s'=>R (.error e) s') Yg)
       (notedBy (model prog w) A env fun e s'=>R (.error e) s') s₁) (notedBy (model prog w) A env fun e s'=>R (.error e) s') s)
  (n:Nat) (h:I n s):codeAny (model prog w) A (.compLoop (.ListComp elt [⟨target,iter,ifs,0⟩] scope pos) 0 it acc env) R s:=by
 refine codeAny_loop rfl I (fun n s hI=>?_) n h
 show wpAny _ A ((compTurn (.ListComp elt [⟨target,iter,ifs,0⟩] scope pos) 0 it acc env).onRaise (fun x=>do noteFrame x env; theTreesLotGoes x)) _ _ s
 refine wpAny_noted ?_
 rw [compTurn_list]
 refine wpAny_bind (wpAny_standAt (wpAny_bind (wpAny_mono (turn n s hI) (fun r s₁ h₁=>?_) fun _ _ h'=>h')))
 cases r with
 | none=>exact wpAny_pure h₁
 | some v =>
   refine wpAny_bind (wpAny_mono h₁ (fun _ Yg Zi=>?_) fun _ _ h'=>h')
   refine wpAny_bind (wpAny_mono Zi (fun _ s₂ h₂=>wpAny_bind (wpAny_mono h₂ (fun ok s₃ h₃=>?_) fun _ _ h'=>h')) fun _ _ h'=>h')
   cases ok with
   | false=>exact wpAny_pure ⟨rfl,h₃⟩
   | true =>
     exact wpAny_bind (wpAny_bind (wpAny_mono h₃ (fun x s₄ h₄=>wpAny_bind (wpAny_mono h₄ (fun _ s₅ h₅=>wpAny_pure (wpAny_pure ⟨rfl,h₅⟩)) fun _ _ h'=>h')) fun _ _ h'=>h'))
end
def DQ (X:Cx) (ifs:List Expr) (t:TT):Prop :=
 ∀ (pins:List (Addr×Obj)) (s:Shared) (σ:St) (H:Hp) (Q:Bool→Hp→Prop),Inv X pins σ H s→t σ H Q →
  wpAny (model X.prog X.w) X.A (forIn ifs true fun c r=>if r=true then do let ok ← isTrue c X.env (eval c X.env); pure (ForInStep.yield ok) else pure (ForInStep.yield r)) (TP X pins σ Q) X.xe s
def Vr:TT:=fun _ H Q=>Q true H
theorem Hr {X:Cx}:DQ X [] Vr:=fun _ _ _ H _ I h=>wpAny_tests_nil ⟨H,I,h⟩
theorem Hs {X:Cx} {c:Expr} {t:TT} (h:PT X c t):DQ X [c] t:=fun pins s σ H Q I hw=>wpAny_tests_one (h pins s σ H Q I hw)
def wc (J:It) (g:TG) (tt:TT) (te:TE) (n:Nat) (σ:St) (D:Addr) (Q:Hp→Prop) (H1:Hp):Prop :=
 ∃ W:Nat→Nat→List V→Hp→Prop,(∃ m,W 0 m [] (upd H1 D (.lst [])))∧∀ i m acc H2,W i m acc H2→H2 D=some (.lst acc) ∧
  ((J.stop i H2∧Q H2)∨(J.go i H2∧acc.length < sizeLine∧∀ x H3,J.O5 i H2 x H3→g x (σ ++ List.replicate n none) H3 fun σ4 H4=>(σ4.length=σ.length+n∧∀ (i:Nat) v,σ[i]?=some (some v)→σ4[i]?=some (some v)) ∧
    tt σ4 H4 fun b H5=>if b=true then te σ4 H5 fun y H6=>H6 D=some (.lst acc)∧∃ m',m' < m∧W (i+1) m' (acc ++ [y]) (upd H6 D (.lst (acc ++ [y]))) else ∃ m',m' < m∧W (i+1) m' acc H5))
section
variable {X:Cx} {pins:List (Addr×Obj)} {σ:St} {H:Hp} {s:Shared} {ts:List Str} {sc:Scope} {cl:List (Str×Addr)} {fp:List Addr}
theorem BI {Y:Cx} {pl:List (Addr×Obj)} {σ4:St} {H':Hp} {s':Shared} {n:Nat} (I:Inv Y pl σ4 H' s') (hl:σ4.length=σ.length+n) (hs:∀ (i:Nat) v,σ[i]?=some (some v)→σ4[i]?=some (some v)) :
  Inv Y pl (σ ++ List.replicate n none) H' s':=by
 refine I.weak (by rw [pP,ON,hl]) fun i v e=>?_
 by_cases hi:i < σ.length
 · rw [ux hi] at e
   exact hs i v e
 · rw [C4 (by omega),Dj] at e
   split at e <;> cases e
theorem we {elt iter tg:Expr} {ifs:List Expr} {pos:Pos} {it:Addr} {tn:Nat→Heap→Prop} {J:It} {g:TG} {tt:TT} {te:TE} {Q:Hp→Prop} {RR:Value→Addr→Result→Shared→Prop} {E:Value→Shared→Prop}
  (hc:X.calm=true) (I:Inv X pins σ H s) (T:Turn X.prog X.w X.K tg J fp it tn) (st:tn 0 s.heap) (hf:∀ b∈fp,nh X pins H b) (hS:pV X.N ts X.env.scope sc)
  (c1:∀ y c,cl.lookup y=some c→X.env.cells.lookup y=some c) (c2:∀ p∈sc.names,p.2 = .free→∃ c,cl.lookup p.1=some c)
  (hg:∀ C,PG (br X ts sc cl C fp s H) tg g) (ht:∀ C,DQ (br X ts sc cl C fp s H) ifs tt) (he:∀ C,PE (br X ts sc cl C fp s H) elt te)
  (hw:wc J g tt te ts.length σ s.heap.objs.size Q H)
  (fin:∀ (C:Addr) (H':Hp) (s':Shared) (σ':St),s.heap.objs.size≤C→Inv (br X ts sc cl C fp s H) [] σ' H' s'→Q H'→RR (.ref s.heap.objs.size) C (.ok .next) s') :
  wpAny (model X.prog X.w) X.A (newList []) (fun acc s₃=>wpAny (model X.prog X.w) X.A (newFunctionEnv sc X.env.globals cl [] X.env.qual none .none (some X.env)) (fun QA s₄ =>
   codeAny (model X.prog X.w) X.A (.compStart (.ListComp elt [⟨tg,iter,ifs,0⟩] sc pos) 0 (.ref it) acc { QA with scope:=relabel sc X.env }) (RR acc QA.locals) s₄) E s₃) E s:=by
 obtain ⟨W,⟨m0,w0⟩,turn⟩:=hw
 have Vs:=T.obj 0 _ st
 have Mw:∀ b∈fp,∃ o,s.heap.get? b=some o:=fun b hb=>let ⟨o,e,_⟩:=Vs b hb; ⟨o,e⟩
 refine wpAny_newObj_type (wpAny_newFunctionEnv hS.DP (by intro y hy; simp at hy) (fun h₁ Mx Ht=>?_) hS.kind)
 dsimp only at Mx Ht ⊢
 generalize Vt:s.heap.push { cls:=.type "list",dict:=none,data:=.seq ([]:List Value).toArray }=H2 at Mx Ht ⊢
 have hC:H2.objs.size=s.heap.objs.size+1:=by rw [← Vt,yg]
 have TQ:s.heap.objs.size≠H2.objs.size:=by rw [hC]; exact iu (GR _)
 have QB:s.heap.objs.size≤H2.objs.size:=by rw [hC]; exact LF _
 have below:∀ b,b < s.heap.objs.size→b≠H2.objs.size∧b≠s.heap.objs.size:=fun b hb=>⟨by rw [hC]; exact iu (Ki hb),iu hb⟩
 have old:∀ b o,s.heap.get? b=some o→h₁.get? b=some o:=fun b o e=>Ht.extBut b o (below b (dZ e)).1 (dH _ (Vt▸dH _ e))
 have Vu:h₁.get? s.heap.objs.size=some { cls:=.type "list",data:=.seq ([]:List Value).toArray }:=Ht.extBut _ _ TQ (dH _ (Vt▸pd _ rfl))
 have QC:tn 0 h₁:=T.keep _ _ _ st fun b hb o e=>old b o e
 have fresh:H s.heap.objs.size=none:=I.bB.fresh (cZ _)
 have Vv:∀ {H':Hp},(∀ b∈fp,H' b=none)→∀ b∈fp,nh (br X ts sc cl H2.objs.size fp s H) [] H' b:=fun {H'} hn b hb=>by
  obtain ⟨o,e⟩:=Mw b hb
  refine ⟨hn b hb,fun z=>?_,AF I hf b hb,.inl hb,fun x c e z=>(hf b hb).2.2.2.2.1 x c (c1 x c e) z,fun p hp=>absurd (show p∈([]:List (Addr×Obj)) from hp) (by simp)⟩
  have z':b=H2.objs.size:=z
  exact (below b (dZ e)).1 z'
 have Zj:∀ b∈fp,(upd H s.heap.objs.size (.lst [])) b=none:=fun b hb=>by
  obtain ⟨o,e⟩:=Mw b hb
  rw [aK (iu (dZ e))]
  exact (hf b hb).1
 have eN:(ts.map fun _=>(none:Option V))=List.replicate ts.length none:=List.map_const'
 have loop:∀ s₃:Shared,s₃={ s with heap:=h₁,toks:=s.toks+([]:List (Str×Value)).length } →
   codeAny (model X.prog X.w) X.A (.compLoop (.ListComp elt [⟨tg,iter,ifs,0⟩] sc pos) 0 (.ref it) (.ref s.heap.objs.size) (compEnvC sc cl H2.objs.size X.env)) (RR (.ref s.heap.objs.size) H2.objs.size) s₃:=by
  rintro s₃ rfl
  have J0:=Hq (ts:=ts) (t:=s.toks+([]:List (Str×Value)).length) I hf Mw hS c1 c2 QB (cZ _) TQ old Mx Vu
  rw [eN] at J0
  refine km (fun n s'=>∃ i acc H',Inv (br X ts sc cl H2.objs.size fp s H) [] (σ ++ List.replicate ts.length none) H' s'∧tn i s'.heap∧(∀ b∈fp,H' b=none)∧W i n acc H') ?_ m0 ⟨0,[],_,J0,QC,Zj,w0⟩
  rintro n s3 ⟨i,acc,H3,J3,P5,P6,w3⟩
  obtain ⟨hD3,alt⟩:=turn i n acc H3 w3
  rcases alt with ⟨stop,q⟩ | ⟨go,hz,step⟩
  · refine bT (T.done (br X ts sc cl H2.objs.size fp s H) rfl rfl rfl hc i [] s3 _ H3 _ J3 (Vv P6) P5 stop) fun r s4 ⟨hr,J4⟩=>?_
    subst hr
    exact fin _ H3 s4 _ QB J4 q
  · refine bT (T.item (br X ts sc cl H2.objs.size fp s H) rfl rfl rfl hc i [] s3 _ H3 _ J3 (Vv P6) P5 go) fun r s4 ⟨u,hr,h4⟩=>?_
    subst hr
    refine bT h4 fun _ s5 ⟨x,H5,J5,r5,y5,L4,U'⟩=>?_
    have Zk:=J5.pinned (Vv U') (T.obj _ _ L4)
    have again:∀ {σ7:St} {H7:Hp} {s7:Shared},Inv (br X ts sc cl H2.objs.size fp s H) ([] ++ pR fp s5.heap) σ7 H7 s7→(σ7.length=σ.length+ts.length∧∀ (i:Nat) v,σ[i]?=some (some v)→σ7[i]?=some (some v))→∀ My m',W (i+1) m' My H7→m' < n →
      ∃ m,m < n∧∃ i acc H',Inv (br X ts sc cl H2.objs.size fp s H) [] (σ ++ List.replicate ts.length none) H' s7∧tn i s7.heap∧(∀ b∈fp,H' b=none)∧W i m acc H':=fun {σ7 H7 s7} I7 hσ My m' w7 hm=>by
     refine ⟨m',hm,i+1,My,H7,BI I7.lF hσ.1 hσ.2,T.keep _ _ _ L4 fun b hb o e=>(I7.pin (b,o) (k8 _ (k8 _ (iB hb e)))).1,fun b hb=>?_,w7⟩
     obtain ⟨o,e,d⟩:=T.obj _ _ L4 b hb
     exact (I7.pin (b,o) (k8 _ (k8 _ (iB hb e)))).2.1
    refine wpAny_mono (hg H2.objs.size _ s5 _ H5 x u _ Zk r5 (step x H5 y5)) (fun _ s6 ⟨σ6,H6,J6,hσ,q6⟩=>?_) fun _ _ z=>False.elim z
    refine wpAny_mono (ht H2.objs.size _ s6 σ6 H6 _ J6 q6) (fun b s7 ⟨H7,J7,q7⟩=>?_) fun _ _ z=>False.elim z
    cases b with
    | false =>
      obtain ⟨m',hm,w7⟩:=q7
      exact again J7 hσ acc m' w7 hm
    | true =>
      show wpAny _ _ _ _ _ _
      refine wpAny_mono (he H2.objs.size _ s7 σ6 H7 _ J7 q7) (fun y s8 ⟨yv,H8,J8,ry,Zl,m',hm,w8⟩=>?_) fun _ _ z=>False.elim z
      refine wpAny_mono (d8 (X:=br X ts sc cl H2.objs.size fp s H) _ s8 σ6 H8 (.ref s.heap.objs.size) [yv] (.ref s.heap.objs.size) [y] (fun v H9=>v = .bb∧H9=upd H8 s.heap.objs.size (.lst (acc ++ [yv]))) J8 rfl (.cons ry .nil) ⟨_,acc,yv,rfl,rfl,Zl,hz,rfl,rfl⟩) (fun v9 s9 ⟨v,H9,J9,_,_,e9⟩=>?_) fun _ _ z=>False.elim z
      subst e9
      exact again J9 hσ (acc ++ [yv]) m' w8 hm
 exact codeAny_compStart_list (loop _ rfl) (T.self _ 0 _ _ _ QC (loop _ rfl))
def DR (n:Nat) (wi:TI) (g:TG) (tt:TT) (te:TE):TE:=fun σ H Q=>wi σ H fun J H1=>∀ D,H1 D=none→wc J g tt te n σ D (Q (.ref D)) H1
theorem wg (I:Inv X pins σ H s) (hS:pV X.N ts X.env.scope sc):∀ p∈sc.names,p.2 = .free→∃ c,X.env.cells.lookup p.1=some c:=fun p hp hf=>by
 rcases hS.fr p hp hf with z | z
 · exact I.ok.has p.1 (.inl z)
 · exact I.ok.has p.1 (.inr z)
theorem Hu {elt iter tg:Expr} {ifs:List Expr} {pos:Pos} {wi:TI} {g:TG} {tt:TT} {te:TE} (hc:X.calm=true) (hS:kE X.N ts X.env.scope sc=true) (hi:PI X tg iter wi)
  (hg:∀ cl C fp s H,PG (br X ts sc cl C fp s H) tg g) (ht:∀ cl C fp s H,DQ (br X ts sc cl C fp s H) ifs tt) (he:∀ cl C fp s H,PE (br X ts sc cl C fp s H) elt te)
  (hs:∀ x,foldedSetIterable iter X.env x=pure x:=by intro _; rfl):PE X (.ListComp elt [⟨tg,iter,ifs,0⟩] sc pos) (DR ts.length wi g tt te):=by
 intro pins s σ H Q I h
 have S:=tq hS
 obtain ⟨cl,AG,c1,c2⟩:=i4 (wg I S)
 rw [eval_ListComp]
 refine wpAny_comprehension_free (use:=none) rfl hs AG S.kind S.names ?_
 refine bT (hi pins s σ H _ I h) fun v s1 h1=>bT h1 fun TC s2 h2=>?_
 obtain ⟨it,fp,tn,J,H2,e,I2,T,C_,f2,q2⟩:=h2
 subst e
 refine we (E:=X.xe) (RR:=fun acc C=>compPost (model X.prog X.w) X.A X.xe none (EP X pins σ Q) acc C) hc I2 T C_ f2 S c1 c2 (fun C=>hg cl C fp s2 H2) (fun C=>ht cl C fp s2 H2) (fun C=>he cl C fp s2 H2) (q2 _ (I2.bB.fresh (cZ _))) ?_
 intro C H' s' σ' hC J' q'
 obtain ⟨m,hn,_⟩:=J'.loc
 refine ⟨m,hn,fun h' sb=>?_⟩
 have I':=wb I2 f2 J'
 have fk:=I2.rS (H':=H') hC J'.free
 obtain ⟨f0,f1,_,f3,f4,f5⟩:=fk
 exact ⟨.ref _,H',I'.turned (t':=s'.toks) (fun b o hb e=>(sb.2 b hb).trans e) f0 f1 f3 f4 f5,rfl,q'⟩
theorem Hv {i:Nat} {y:Str} {py:Pos} {wj:Pos} {elt iter tg:Expr} {ifs:List Expr} {pos:Pos} {wi:TI} {g:TG} {tt:TT} {te:TE} (hN:X.N.Nodup) (hy:X.N[i]?=some y) (hx:Loc X.env.scope y) (hc:X.calm=true) (hS:kE X.N ts X.env.scope sc=true) (hi:PI X tg iter wi)
  (hg:∀ cl C fp s H,PG (br X ts sc cl C fp s H) tg g) (ht:∀ cl C fp s H,DQ (br X ts sc cl C fp s H) ifs tt) (he:∀ cl C fp s H,PE (br X ts sc cl C fp s H) elt te)
  (QD:swapsWith (.ListComp elt [⟨tg,iter,ifs,0⟩] sc pos) (some (.Name y py)) wj.line X.env=pure true:=by rfl)
  (hs:∀ x,foldedSetIterable iter X.env x=pure x:=by intro _; rfl) (hf:X.fn y=true∨X.env.scope.names.lookup y=some .local:=by first | exact .inl rfl | exact .inr rfl | assumption) :
  PS X (.Assign [.Name y py] (.ListComp elt [⟨tg,iter,ifs,0⟩] sc pos) wj) (G' (DR ts.length wi g tt te) (i0 i)):=by
 intro pins s σ H D I h
 have S:=tq hS
 obtain ⟨cl,AG,c1,c2⟩:=i4 (wg I S)
 rw [exec_Assign_Name_used _ _ _ _ QD]
 refine wpAny_bind (wpAny_standAt (wpAny_bind ?_))
 show wpAny _ X.A (do let _ ← comprehension (.ListComp elt [⟨tg,iter,ifs,0⟩] sc pos) sc X.env _ (newList []) false (eval iter X.env) (some (assign (.Name y py) X.env))) _ _ s
 refine wpAny_bind (wpAny_mono (wpAny_comprehension_free (use:=some (assign (.Name y py) X.env)) (Q:=fun _ s'=>SP X pins D .next s') (E:=X.xe) rfl hs AG S.kind S.names ?_) (fun _ s' hq=>wpAny_pure (wpAny_pure hq)) fun _ _ e=>e)
 refine bT (hi pins s σ H _ I h) fun v s1 h1=>bT h1 fun TC s2 h2=>?_
 obtain ⟨it,fp,tn,J,H2,e,I2,T,C_,f2,q2⟩:=h2
 subst e
 refine we (E:=X.xe) (RR:=fun acc C=>compPost (model X.prog X.w) X.A X.xe (some (assign (.Name y py) X.env)) (fun _ s'=>SP X pins D .next s') acc C) hc I2 T C_ f2 S c1 c2 (fun C=>hg cl C fp s2 H2) (fun C=>ht cl C fp s2 H2) (fun C=>he cl C fp s2 H2) (q2 _ (I2.bB.fresh (cZ _))) ?_
 intro C H' s' σ' hC J' q'
 obtain ⟨m,hn,_⟩:=J'.loc
 have I':=wb I2 f2 J'
 have fk:=I2.rS (H':=H') hC J'.free
 obtain ⟨f0,f1,_,f3,f4,f5⟩:=fk
 show wpAny _ X.A (assign (.Name y py) X.env (.ref s2.heap.objs.size)) _ _ s'
 refine wpAny_assign_Name (sT (v:=.ref s2.heap.objs.size) I' hN hy hx rfl (fun s3 I3 ⟨a,sb,ha⟩=>?_) hf)
 have Zm:C≠a:=by
  rcases ha with z | z
  · rw [z]; exact f1
  · exact fun e=>f4 y a z e.symm
 refine ⟨m,hn.sameBut sb Zm,fun h' Zn=>?_⟩
 exact ⟨_,H',I3.turned (t':=s3.toks) (fun b o hb e=>(Zn.2 b hb).trans e) f0 f1 f3 f4 f5,q'⟩
end
def TU (x:Str):It:=⟨fun i _=>i < x.cps.size,fun i H v H'=>H'=H∧∃ c,x.cps[i]?=some c∧v = .str ⟨#[c]⟩,fun i _=>x.cps.size≤i⟩
theorem c9 (x:Str):(strIterType x="str_ascii_iterator")∨(strIterType x="str_iterator"):=by
 unfold strIterType
 cases x.cps.all (· < 128)
 · exact .inr rfl
 · exact .inl rfl
theorem DS {P:Program} {w:World} {K:PySem.W.Frag} {tg:Expr} (x:Str) (t:Tok) (it:Addr):Turn P w K tg (TU x) [it] it (fun i h=>h.IsStrIter it (strIterType x) x t i) where
 mem:=by simp
 obj:=fun i h st b hb=>by
  have e:b=it:=by simpa using hb
  subst e
  obtain ⟨o,e,c,d⟩:=st
  exact ⟨o,e,fun v z=>by rw [d] at z; cases z⟩
 keep:=fun i h h' st k=>by
  obtain ⟨o,e,c,d⟩:=st
  exact ⟨o,k it (by simp) o e,c,d⟩
 item:=by
  intro X hP hw hK hc i pins s σ H E I hf st hg
  subst hP hw hK
  obtain ⟨f0,f1,f2,f3,f4,f5⟩:=hf it (by simp)
  have hi:i < x.cps.size:=hg
  have hx:x.cps[i]?=some x.cps[i]:=by simp [hi]
  have fin:∀ h',h'.IsStrIter it (strIterType x) x t (i+1)→Heap.SameBut it s.heap h'→∃ u,(some (Value.str ⟨#[x.cps[i]]⟩ s.toks):Option Value)=some u ∧
    wpAny (model X.prog X.w) X.A (letOwnedTupleGo tg (.ref it) u) (fun _ s2=>∃ y H',Inv X pins σ H' s2∧RelV y u∧(TU x).O5 i H y H'∧Heap.IsStrIter s2.heap it (strIterType x) x t (i+1)∧∀ b∈[it],H' b=none) E { s with heap:=h',toks:=s.toks+1 }:=fun h' yj sb=>by
   have I1:Inv X pins σ H { s with heap:=h',toks:=s.toks+1 }:=I.turned (t':=s.toks+1) (fun b o hb e=>(sb.2 b hb).trans e) f0 f1 f3 f4 f5
   obtain ⟨o,e,c,d⟩:=id yj
   refine ⟨_,rfl,As (s:={ s with heap:=h',toks:=s.toks+1 }) e c d ?_ ⟨.str ⟨#[x.cps[i]]⟩,H,I1,⟨_,rfl⟩,⟨rfl,_,hx,rfl⟩,yj,fun b hb=>(hf b hb).1⟩⟩
   rcases c9 x with z | z <;> rw [z] <;> decide
  rcases c9 x with z | z
  · rw [z] at st fin
    refine wpAny_pyNext_ascii_item st hx fun h' yj sb=>?_
    have:=fin h' yj sb
    rw [← z] at this
    simpa [z] using this
  · rw [z] at st fin
    refine wpAny_pyNext_wide_item st hx fun h' yj sb=>?_
    have:=fin h' yj sb
    simpa [z] using this
 done:=by
  intro X hP hw hK hc i pins s σ H E I hf st hg
  subst hP hw hK
  obtain ⟨f0,f1,f2,f3,f4,f5⟩:=hf it (by simp)
  have hi:x.cps.size≤i:=hg
  have hx:x.cps[i]?=none:=by simp [hi]
  rcases c9 x with z | z
  · rw [z] at st
    exact wpAny_pyNext_ascii_end (I.ok.hd hc) st hx fun h' eb=>⟨rfl,I.turned (t':=s.toks) (fun b o hb e=>eb b o hb e) f0 f1 f3 f4 f5⟩
  · rw [z] at st
    exact wpAny_pyNext_wide_end (I.ok.hd hc) st hx fun h' eb=>⟨rfl,I.turned (t':=s.toks) (fun b o hb e=>eb b o hb e) f0 f1 f3 f4 f5⟩
 self:=fun A i s Q E st h=>by
  rcases c9 x with z | z
  · rw [z] at st; exact wpAny_pyIter_striter_ascii st h
  · rw [z] at st; exact wpAny_pyIter_striter_wide st h
section
variable {X:Cx} {tg:Expr}
theorem bO (hc:X.calm=true):dC X (.builtin "all") (fun xs H Q=>∃ (p:Addr) (bs:List Bool),xs=[.ref p]∧gm X.K H p (bs.map V.bl)∧Q (.bl (bs.all id)) H):=by
 intro pins s σ H xs us Q I r h
 obtain ⟨p,bs,rfl,hq,q⟩:=h
 obtain ⟨u,rfl,rx⟩:=vals1 r
 cases rx
 obtain ⟨aP,rv,pl,hz⟩:=I.list hq
 refine call_all_walk (wpAny_pyIter_list pl.isList ?_)
 have gF:p < s.heap.objs.size:=by obtain ⟨o,n,e,_⟩:=pl; exact dZ e
 have k_:p≠s.heap.objs.size:=iu gF
 have hh:X.A.in1.handled=none:=I.ok.hd hc
 refine ⟨s.heap.objs.size,_,_,_,_,_,fun i=>bs.getD i true,rfl,Walks.list hh s.heap.objs.size p k_ aP.toArray,⟨⟨_,pd _ rfl,rfl,rfl⟩,pl.isList.push _⟩,?_,fun h' tk k=>?_⟩
 · intro i v s' Q' E' hP hQ
   have Yh:aP[i]?=some v:=by simpa using hP
   have hb:i < bs.length:=by
    have:=rv.length
    have h2:=(e_.mp Yh).1
    rw [cV] at this
    omega
   obtain ⟨u,e1,r1⟩:=rv.get (i:=i) (x:=.bl bs[i]) (by simp [hb])
   rw [Yh] at e1
   cases e1
   obtain rfl:v=Value.bool bs[i]:=r1
   have e3:bs.getD i true=bs[i]:=by simp [List.getD,hb]
   dsimp only at hQ; rw [e3] at hQ
   exact wpAny_truthy_bool hQ
 · have hl:aP.toArray.size=bs.length:=by have:=rv.length; rw [cV] at this; rw [ir]; omega
   have e:(List.range aP.toArray.size).all (fun i=>bs.getD i true)=bs.all id:=by
    rw [hl,GX,C6,C6]
    constructor
    · intro h x hx
      obtain ⟨i,hi,e⟩:=List.mem_iff_getElem.mp hx
      have:=h i (Dp.mpr hi)
      simp only [List.getD,sR hi,Option.getD_some] at this
      rw [← e]; exact this
    · intro h i hi
      have O6:=Dp.mp hi
      simp only [List.getD,sR O6,Option.getD_some]
      exact h _ (Tu O6)
   rw [e]
   refine ⟨.bl (bs.all id),H,?_,rfl,q⟩
   have I0:Inv X pins σ H { s with heap:=s.heap.push { cls:=.type "list_iterator",data:=.fields #[.ref p,.int 0 0] } }:=I.kept (t':=s.toks) fun b o e=>dH _ e
   have fk:=I.rS (H':=H) (cZ s.heap.objs.size) I.fresh
   obtain ⟨f0,f1,_,f3,f4,f5⟩:=fk
   exact I0.turned (t':=tk) (fun b o hb e=>k b o (by simpa using hb) e) f0 f1 f3 f4 f5
theorem rX:BB X "str.startswith" (fun x xs H Q=>∃ z y,x = .str z∧xs=[.str y]∧Q (.bl (Txt.startswith z y)) H):=by
 intro pins s σ H x xs v us Q I rx rs h
 obtain ⟨z,y,rfl,rfl,q⟩:=h
 obtain ⟨t,rfl⟩:=rx
 obtain ⟨u,rfl,t',rfl⟩:=vals1 rs
 exact SC.startswith ⟨.bl _,H,I,rfl,q⟩
def QE:V→Option Int→Option Int→Hp→VK→Prop:=fun x lo hi H Q=>∃ z,x = .str z∧z.length≤sizeLine∧Q (.str (Txt.slice z lo hi)) H
theorem Mz:DI X QE:=by
 intro pins s σ H x v vl vu lo hi sl Q I rx hs pl pu h
 obtain ⟨z,rfl,hz,q⟩:=h
 obtain ⟨t,rfl⟩:=rx
 obtain ⟨o,e,c,d⟩:=hs
 refine ⟨"str",_,slot_str_getitem.lookup,typeIs_str _ _ _,?_⟩
 cases pl with
 | none =>
   cases pu with
   | none=>exact wpAny_getItem_str_slice (l:=none) (u:=none) (st:=none) ⟨o,e,c,d⟩ rfl (post_val_or_str ⟨oq (OY z _ _) hz,fun t' k=>⟨.str _,H,I.tok _,⟨_,rfl⟩,q⟩⟩)
   | int j tj=>exact wpAny_getItem_str_slice (l:=none) (u:=some (j,tj)) (st:=none) ⟨o,e,c,d⟩ rfl (post_val_or_str ⟨oq (OY z _ _) hz,fun t' k=>⟨.str _,H,I.tok _,⟨_,rfl⟩,q⟩⟩)
 | int i ti =>
   cases pu with
   | none=>exact wpAny_getItem_str_slice (l:=some (i,ti)) (u:=none) (st:=none) ⟨o,e,c,d⟩ rfl (post_val_or_str ⟨oq (OY z _ _) hz,fun t' k=>⟨.str _,H,I.tok _,⟨_,rfl⟩,q⟩⟩)
   | int j tj=>exact wpAny_getItem_str_slice (l:=some (i,ti)) (u:=some (j,tj)) (st:=none) ⟨o,e,c,d⟩ rfl (post_val_or_str ⟨oq (OY z _ _) hz,fun t' k=>⟨.str _,H,I.tok _,⟨_,rfl⟩,q⟩⟩)
end
def Walk (J:It) (H1:Hp) (xs:List V):Prop:=∀ (i:Nat) H',aM H1 H'→(∀ x,xs[i]?=some x→J.go i H')∧(xs.length≤i→J.stop i H')∧(i < xs.length→∀ x Kx,J.O5 i H' x Kx→Kx=H'∧xs[i]?=some x)
theorem wc.map {J:It} {tt:TT} {te:TE} {σ:St} {D:Addr} {Q:Hp→Prop} {H1:Hp} {k:Nat} (xs:List V) (p:V→Bool) (f:V→V) (hk:k=σ.length) (hD:H1 D=none) (hz:xs.length≤sizeLine) (hJ:Walk J H1 xs)
  (ht:∀ (i:Nat) x H' R,xs[i]?=some x→aM H1 H'→(∀ Kx,aM H' Kx→R (p x) Kx)→tt (σ ++ [some x]) H' R)
  (he:∀ (i:Nat) x H' R,xs[i]?=some x→p x=true→aM H1 H'→(∀ Kx,aM H' Kx→R (f x) Kx)→te (σ ++ [some x]) H' R)
  (hq:∀ H',aM H1 H'→H' D=some (.lst ((xs.filter p).map f))→Q H'):wc J (i0 k) tt te 1 σ D Q H1:=by
 subst hk
 refine ⟨fun i m acc H2=>i≤xs.length∧m=xs.length - i∧acc=((xs.take i).filter p).map f∧aM H1 H2∧H2 D=some (.lst acc),⟨xs.length,ph _,rfl,by simp,fun b o e=>?_,aQ⟩,?_⟩
 · rw [aK (aX e hD)]; exact e
 · rintro i m acc H2 ⟨hi,rfl,rfl,s2,Hw⟩
   refine ⟨Hw,?_⟩
   obtain ⟨j1,j2,j3⟩:=hJ i H2 s2
   by_cases gF:i < xs.length
   · refine .inr ⟨j1 xs[i] (by simp [gF]),?_,fun x H3 y=>?_⟩
     · have h1:(((xs.take i).filter p).map f).length≤i:=by
        rw [cV]
        refine oq (List.length_filter_le _ _) ?_
        rw [OS]; omega
       omega
     · obtain ⟨e3,hx⟩:=j3 gF x H3 y
       subst e3
       have eσ:(σ ++ List.replicate 1 none).set σ.length (some x)=σ ++ [some x]:=by
        rw [List.set_append_right _ _ (cZ _),Nat.sub_self]; rfl
       show (((σ ++ List.replicate 1 none).set σ.length (some x)).length=σ.length+1∧_)∧_
       rw [eσ]
       refine ⟨⟨by simp,fun i v h=>?_⟩,?_⟩
       · have O6:=(e_.mp h).1
         rw [ux O6]; exact h
       refine ht i x H3 _ hx s2 fun H5 s5=>?_
       have Yi:(xs.take (i+1)).filter p=(xs.take i).filter p ++ (if p x then [x] else []):=take_succ_filter p xs i x hx
       cases hp:p x with
       | false =>
         rw [if_neg lh]
         refine ⟨xs.length - (i+1),by omega,gF,rfl,?_,s2.trans s5,s5 _ _ Hw⟩
         rw [Yi,hp]; simp
       | true =>
         rw [if_pos rfl]
         refine he i x H5 _ hx hp (s2.trans s5) fun H6 s6=>?_
         refine ⟨s6 _ _ (s5 _ _ Hw),xs.length - (i+1),by omega,gF,rfl,?_,fun b o e=>?_,aQ⟩
         · rw [Yi,hp]; simp
         · rw [aK (aX e hD)]; exact s6 _ _ (s5 _ _ (s2 _ _ e))
   · have e:i=xs.length:=by omega
     subst e
     refine .inl ⟨j2 (cZ _),hq H2 s2 ?_⟩
     rw [Hw,List.take_length]
theorem aS {H:Hp} {D:Addr} {o:HO} (h:H D=none):aM H (upd H D o):=fun b u e=>by rw [aK (aX e h)]; exact e
section
variable {X:Cx} {pins:List (Addr×Obj)} {σ:St} {H H':Hp} {s:Shared} {h':Heap}
theorem Inv.grown {t':Nat} {ch:List Addr} {t:Addr} {o:HO} (I:Inv X pins σ H s) (k:∀ b u,b∉ch→s.heap.get? b=some u→h'.get? b=some u) (hf:∀ b∈ch,nh X pins H b) (ht:s.heap.objs.size≤t)
  (new:bQ X.prog X.w (upd H t o) h' t o):Inv X pins σ (upd H t o) { s with heap:=h',toks:=t' }:=by
 have hn:H t=none:=I.bB.fresh ht
 have Du:∀ b u,H b=some u→b∉ch:=fun b u e z=>by rw [(hf b z).1] at e; cases e
 refine I.step (g':=s.gens) (d':=s.drawn) (ch:=ch) (fun b hb=>?_) (fun b u _ _ hc e _=>k b u hc e) (fun b u _ _ hc e _=>⟨u.slots,k b u hc e⟩) (fun b u _ e n=>?_) (fun b u hc e=>⟨u,k b u hc e⟩)
  (fun b xs e=>?_) (fun b u v e=>?_) (fun b ps e=>⟨#[],?_⟩) (fun m hm=>?_) (fun b u e=>?_) I.bare
 · obtain ⟨_,f1,_,f3,f4,f5⟩:=hf b hb
   exact ⟨f3,f1,f4,f5⟩
 · rw [aK (iu (pe (dZ e) ht))]; exact n
 · rw [aK (aX e hn)]; exact e
 · rw [aK (aX e hn)]; exact e
 · rw [aK (aX e hn),e]; simp
 · obtain ⟨ob,es,ep,ho,r⟩:=hm
   exact ⟨ob,es,ep,k _ ob (fun z=>(hf _ z).2.1 rfl) ho,r⟩
 · by_cases hb:b=t
   · subst hb; rw [aQ] at e; cases e; exact new
   · rw [aK hb] at e
     refine (I.bB b u e).oQ (fun c v hc q=>k c v ?_ q) (fun c q=>by rw [aK (aX q hn)]; exact q) fun c xs q=>by rw [aK (aX q hn)]; exact q
     rcases hc with z | z
     · rw [z]; exact Du b u e
     · exact Du c _ z
end
def Vw (K:PySem.W.Frag) (a:Addr):It :=
 ⟨fun i H=>∃ xs x,gm K H a xs∧xs[i]?=some x,fun i H v H'=>∃ t x,H t=none∧v = .ref t∧(∀ xs,gm K H a xs→xs[i]?=some x)∧H'=upd H t (.tup [.int (i:Int),x]),fun i H=>∃ xs,gm K H a xs∧xs.length≤i⟩
theorem BJ {P:Program} {w:World} {K:PySem.W.Frag} {elts:List Expr} {x1} {tp:Pos} (a e it:Addr) (k_:e≠it) :
  Turn P w K (.Tuple elts x1 tp) (Vw K a) [e,it] e (fun i h=>(∃ old,IsEnum h e it (i:Int) old)∧h.IsListIter it a i) where
 mem:=by simp
 obj:=fun i h st b hb=>by
  obtain ⟨⟨old,h1⟩,o,h2,c,d⟩:=st
  rcases fg.mp hb with z | z
  · subst z
    exact ⟨_,h1,fun v z=>by cases z⟩
  · have z':b=it:=by simpa using z
    subst z'
    exact ⟨o,h2,fun v z=>by rw [d] at z; cases z⟩
 keep:=fun i h h' st k=>by
  obtain ⟨⟨old,h1⟩,C_⟩:=st
  exact ⟨⟨old,k e (by simp) _ h1⟩,C_.at fun o q=>k it (by simp) o q⟩
 item:=by
  intro X hP hw hK hc i pins s σ H E I hf st hg
  subst hP hw hK
  obtain ⟨xs,x,hq,hx⟩:=hg
  obtain ⟨aP,rv,p,hz⟩:=I.list hq
  obtain ⟨u,hu,ru⟩:=rv.get hx
  obtain ⟨⟨old,h1⟩,C_⟩:=st
  refine wpAny_pyNext_enum_item h1 C_ p.isList (x:=u) (by simpa using hu) k_ fun h₁ Kq Vx Zo DT Zp=>?_
  refine ⟨_,rfl,wpAny_letOwnedTupleGo_enum Kq fun h₂ Zq rY=>?_⟩
  have rZ:Heap.SameBut e h₁ h₂:=rY
  have gF:e < s.heap.objs.size:=dZ h1
  have Vy:s.heap.objs.size≠e:=C8 gF
  have kk:∀ b ob,b∉[e,it]→s.heap.get? b=some ob→h₂.get? b=some ob:=fun b ob hb q=>by
   have Gz:b≠e:=fun z=>hb (by simp [z])
   have Vz:b≠it:=fun z=>hb (by simp [z])
   exact (rZ.2 b Gz).trans (Zp b ob Gz Vz q)
  have new:bQ X.prog X.w (upd H s.heap.objs.size (.tup [.int (i:Int),x])) h₂ s.heap.objs.size (.tup [.int (i:Int),x]) :=
   ⟨by show 2≤sizeLine; rw [sizeLine_eq]; decide,[.int i s.toks,u],.cons ⟨_,rfl⟩ (.cons ru .nil),⟨_,(rZ.2 _ Vy).trans Zo,rfl,_,rfl⟩⟩
  refine ⟨.ref s.heap.objs.size,upd H s.heap.objs.size (.tup [.int (i:Int),x]),I.grown (t':=s.toks+1) kk hf (cZ _) new,rfl,⟨_,x,I.fresh,rfl,fun ys hy=>by rw [I.lq hy hq]; exact hx,rfl⟩,⟨⟨u,?_⟩,?_⟩,fun b hb=>?_⟩
  · have:((i:Int)+1)=((i+1:Nat):Int):=by omega
    rw [← this]; exact Zq
  · obtain ⟨o,q,r⟩:=Vx
    exact ⟨o,(rZ.2 it (Ne.symm k_)).trans q,r⟩
  · have VB:b < s.heap.objs.size:=by
     rcases fg.mp hb with z | z
     · subst z; exact gF
     · have z':b=it:=by simpa using z
       subst z'
       obtain ⟨o,q,_⟩:=C_
       exact dZ q
    rw [aK (iu VB)]
    exact (hf b hb).1
 done:=by
  intro X hP hw hK hc i pins s σ H E I hf st hg
  subst hP hw hK
  obtain ⟨xs,hq,hx⟩:=hg
  obtain ⟨aP,rv,p,hz⟩:=I.list hq
  have hl:=rv.length
  obtain ⟨⟨old,h1⟩,C_⟩:=st
  obtain ⟨f0,f1,f2,f3,f4,f5⟩:=hf it (by simp)
  exact wpAny_pyNext_enum_end (I.ok.hd hc) h1 C_ p.isList (by simp; omega) fun h' eb=>⟨rfl,I.turned (t':=s.toks) (fun b o hb q=>eb b o hb q) f0 f1 f3 f4 f5⟩
 self:=fun _ _ _ _ _ st h=>by
  obtain ⟨⟨old,h1⟩,_⟩:=st
  exact wpAny_pyIter_enum h1 h
def QF (K:PySem.W.Frag) (ta:TA):TI:=fun σ H R=>ta σ H fun vs H1=>∃ a,vs=[.ref a]∧(∃ xs,gm K H1 a xs)∧R (Vw K a) H1
section
variable {X:Cx}
theorem boot_enumerate:bootBuiltins "enumerate" = some (.type "enumerate"):=by decide +kernel
theorem Hx {elts:List Expr} {x1} {tp:Pos} {a:Expr} {ta:TA} {p pos:Pos} (hg:Gl X "enumerate") (hm:X.mg "enumerate" = none) (ha:PA X [a] ta) (hs:starEach [a] X.env=[(false,eval a X.env)]:=by rfl) :
  PI X (.Tuple elts x1 tp) (.Call (.Name "enumerate" p) [a] [] pos) (QF X.K ta):=by
 intro pins s σ H R I h
 refine Call_ (kD I hg hm boot_enumerate (Td (bT (ha pos pins s σ H _ I h) fun us s1 ⟨vs,H1,I1,r1,q1⟩=>?_) hs rfl))
 obtain ⟨b,e,⟨xs,hq⟩,q⟩:=q1
 subst e
 obtain ⟨u,rfl,ru⟩:=vals1 r1
 cases ru
 obtain ⟨aP,rv,pl,hz⟩:=I1.list hq
 refine call_enumerate_list pl.isList fun h' he hit pS hk=>?_
 have I2:Inv X pins σ H1 { s1 with heap:=h' }:=I1.kept (t':=s1.toks) hk
 refine wpAny_pyIter_enum he ?_
 refine ⟨s1.heap.objs.size+1,[s1.heap.objs.size+1,s1.heap.objs.size],_,_,H1,rfl,I2,BJ b _ _ (C8 (GR _)),⟨⟨_,he⟩,hit⟩,fun c hc=>?_,q⟩
 rcases fg.mp hc with z | z
 · subst z; exact I1.rS (LF _) (I1.bB.fresh (LF _))
 · have z':c=s1.heap.objs.size:=by simpa using z
   subst z'; exact I1.rS (cZ _) I1.fresh
end
section
variable {X:Cx}
end
end L2
namespace wm
open PySem Builtin Builtin.Str
def bf:Str:="abcdefghijklmnopqrstuvwxyz"
def wo (c:Nat):Bool:=!(occurrences bf ⟨#[c]⟩ 0 bf.length 1).isEmpty
theorem Hy:wo 46=false:=by decide +kernel
theorem yB:(("." : String):Str)=⟨#[46]⟩:=by decide +kernel
def dI (x:Str):Bool:=decide (1≤(x.length:Int)) && (decide ((x.length:Int)≤8) && x.cps.toList.all wo)
def MA (x:Str):Bool:=Txt.startswith x "." && dI (Txt.slice x (some 1) none)
theorem r6 {x:Str} (h:x.cps.toList.all wo=true):Txt.startswith x "." = false:=by
 obtain ⟨⟨l⟩⟩:=x
 rw [yB]
 unfold Txt.startswith subAt
 cases l with
 | nil=>rfl
 | cons c r =>
   have hc:wo c=true:=by
    have:=C6.mp h c (by simp)
    exact this
   have ne:c≠46:=fun e=>by rw [e,Hy] at hc; cases hc
   have e1:(Array.extract ({ toList:=c :: r }:Array Nat) 0 (0+(Str.mk #[46]).length) == (Str.mk #[46]).cps)=false:=by
    rw [beq_eq_false_iff_ne]
    intro q
    have q2:=congrArg (fun a=>a[0]?) q
    simp [Str.length] at q2
    exact ne q2
   show (decide _ && (Array.extract ({ toList:=c :: r }:Array Nat) 0 (0+(Str.mk #[46]).length) == (Str.mk #[46]).cps))=false
   rw [e1,OU]
theorem lQ {x:Str} (h:dI x=true):x.cps.toList.all wo=true:=by
 unfold dI at h
 rw [gT,gT] at h
 exact h.2.2
end wm
namespace VT
open PySem PySem.Spec PyProof.Rows L2
abbrev St:=L2.St
inductive T where
 | bb | bl (b:Bool) | int (i:Int) | str (x:Str) | tup (l:List T) | lst (l:List T) | dk (ks:List Key) (vs:List T) | dt (ks:List (List Key)) (vs:List T) | df (o:Obj) (ks:List (List Key)) (vs:List T) | dz (o:Obj) (ks:List Key) (vs:List T) | kt (k:List Key) | ins (C:Addr) (ns:List Str) (vs:List T) | pin (a:Addr) (t:T) | ob (a:Addr) | ty (n:String)
def r8 (K:PySem.W.Frag) (H:Hp) (O:List Addr) (a:Addr) (vs:List V):Prop :=
 (Rd H a (.lst vs)∧a∉O)∨∃ (o:Obj) (aP:Array Value) (n:Nat),K.lookup a=some o∧o.cls = .type "list"∧o.dict=none∧o.data = .seq aP n∧aP.size≤sizeLine∧Vals vs aP.toList
theorem r8.sq {K:PySem.W.Frag} {H:Hp} {O:List Addr} {a:Addr} {vs:List V} (h:r8 K H O a vs):gm K H a vs:=by
 rcases h with h | h
 · exact .inl h.1
 · exact .inr h
def r9 (H:Hp) (O:List Addr) (a:Addr) (u:HO):Prop:=H a=some u∧a∉O
mutual
def At (K:PySem.W.Frag) (H:Hp) (O:List Addr):T→V→Prop
 | .bb,v=>v = .bb
 | .bl b,v=>v = .bl b
 | .int i,v=>v = .int i
 | .str x,v=>v = .str x
 | .ob a,v=>v = .ref a
 | .ty n,v=>v = .ty n
 | .tup ts,v=>∃ a vs,v = .ref a∧dY K H a vs∧aI K H O ts vs
 | .lst ts,v=>∃ a vs,v = .ref a∧r8 K H O a vs∧aI K H O ts vs
 | .dk ks ts,v=>∃ a vs,v = .ref a∧ks.length=vs.length∧r9 H O a (.dK (ks.zip vs))∧aI K H O ts vs
 | .dt ks ts,v=>∃ a vs,v = .ref a∧ks.length=vs.length∧r9 H O a (.dT (ks.zip vs))∧aI K H O ts vs
 | .df o ks ts,v=>∃ a vs,v = .ref a∧ks.length=vs.length∧r9 H O a (.vT o (.dT (ks.zip vs)))∧aI K H O ts vs
 | .dz o ks ts,v=>∃ a vs,v = .ref a∧ks.length=vs.length∧r9 H O a (.vT o (.dK (ks.zip vs)))∧aI K H O ts vs
 | .kt k,v=>∃ a,v = .ref a∧r9 H O a (.tup (k.map kV))
 | .pin a t,v=>v = .ref a∧At K H O t v
 | .ins C ns ts,v=>∃ a dx vs,v = .ref a∧ns.length=vs.length∧r9 H O a (.ins C dx (ns.zip vs))∧aI K H O ts vs
def aI (K:PySem.W.Frag) (H:Hp) (O:List Addr):List T→List V→Prop
 | [],vs=>vs=[]
 | t :: ts,vs=>∃ v r,vs=v :: r∧At K H O t v∧aI K H O ts r
end
section
variable {K:PySem.W.Frag} {H H':Hp} {O O':List Addr}
mutual
theorem At.map (hl:∀ a vs,r8 K H O a vs→r8 K H' O' a vs) (ht:∀ a vs,dY K H a vs→dY K H' a vs) (hd:∀ a u,r9 H O a u→r9 H' O' a u):∀ {t:T} {v:V},At K H O t v→At K H' O' t v
 | .bb,_,h=>by simpa only [At] using h
 | .bl _,_,h=>by simpa only [At] using h
 | .int _,_,h=>by simpa only [At] using h
 | .str _,_,h=>by simpa only [At] using h
 | .ob _,_,h=>by simpa only [At] using h
 | .ty _,_,h=>by simpa only [At] using h
 | .tup ts,_,h=>by
   simp only [At] at h ⊢
   obtain ⟨a,vs,e,h1,h2⟩:=h
   exact ⟨a,vs,e,ht a vs h1,aI.map hl ht hd h2⟩
 | .lst ts,_,h=>by
   simp only [At] at h ⊢
   obtain ⟨a,vs,e,h1,h2⟩:=h
   exact ⟨a,vs,e,hl a vs h1,aI.map hl ht hd h2⟩
 | .dk ks ts,_,h=>by
   simp only [At] at h ⊢
   obtain ⟨a,vs,e,h0,h1,h2⟩:=h
   exact ⟨a,vs,e,h0,hd _ _ h1,aI.map hl ht hd h2⟩
 | .dt ks ts,_,h=>by
   simp only [At] at h ⊢
   obtain ⟨a,vs,e,h0,h1,h2⟩:=h
   exact ⟨a,vs,e,h0,hd _ _ h1,aI.map hl ht hd h2⟩
 | .df o ks ts,_,h=>by
   simp only [At] at h ⊢
   obtain ⟨a,vs,e,h0,h1,h2⟩:=h
   exact ⟨a,vs,e,h0,hd _ _ h1,aI.map hl ht hd h2⟩
 | .dz o ks ts,_,h=>by
   simp only [At] at h ⊢
   obtain ⟨a,vs,e,h0,h1,h2⟩:=h
   exact ⟨a,vs,e,h0,hd _ _ h1,aI.map hl ht hd h2⟩
 | .kt k,_,h=>by
   simp only [At] at h ⊢
   obtain ⟨a,e,h1⟩:=h
   exact ⟨a,e,hd _ _ h1⟩
 | .pin a t,_,h=>by
   simp only [At] at h ⊢
   exact ⟨h.1,At.map hl ht hd h.2⟩
 | .ins C ns ts,_,h=>by
   simp only [At] at h ⊢
   obtain ⟨a,dx,vs,e,h0,h1,h2⟩:=h
   exact ⟨a,dx,vs,e,h0,hd _ _ h1,aI.map hl ht hd h2⟩
theorem aI.map (hl:∀ a vs,r8 K H O a vs→r8 K H' O' a vs) (ht:∀ a vs,dY K H a vs→dY K H' a vs) (hd:∀ a u,r9 H O a u→r9 H' O' a u):∀ {ts:List T} {vs:List V},aI K H O ts vs→aI K H' O' ts vs
 | [],_,h=>by simpa only [aI] using h
 | t :: ts,_,h=>by
   simp only [aI] at h ⊢
   obtain ⟨v,r,e,h1,h2⟩:=h
   exact ⟨v,r,e,At.map hl ht hd h1,aI.map hl ht hd h2⟩
end
theorem Rd.same {a:Addr} {u:HO} (s:aM H H') (h:Rd H a u):Rd H' a u:=by
 rcases h with h | ⟨o,h⟩
 · exact .inl (s _ _ h)
 · exact .inr ⟨o,s _ _ h⟩
theorem dY.same {a:Addr} {vs:List V} (s:aM H H') (h:dY K H a vs):dY K H' a vs:=by
 rcases h with h | h
 · exact .inl (Rd.same s h)
 · exact .inr h
theorem r8.same {a:Addr} {vs:List V} (s:aM H H') (h:r8 K H O a vs):r8 K H' O a vs:=by
 rcases h with h | h
 · exact .inl ⟨Rd.same s h.1,h.2⟩
 · exact .inr h
theorem At.same {t:T} {v:V} (s:aM H H') (h:At K H O t v):At K H' O t v:=At.map (fun _ _ q=>q.same s) (fun _ _ q=>dY.same s q) (fun _ _ q=>⟨s _ _ q.1,q.2⟩) h
theorem aI.same {t:List T} {v:List V} (s:aM H H') (h:aI K H O t v):aI K H' O t v:=aI.map (fun _ _ q=>q.same s) (fun _ _ q=>dY.same s q) (fun _ _ q=>⟨s _ _ q.1,q.2⟩) h
theorem At.bh {t:T} {v:V} (s:∀ a∈O',a∈O) (h:At K H O t v):At K H O' t v :=
 At.map (fun a vs q=>q.elim (fun z=>.inl ⟨z.1,fun m=>z.2 (s a m)⟩) .inr) (fun _ _ q=>q) (fun a _ q=>⟨q.1,fun m=>q.2 (s a m)⟩) h
theorem aI.bh {t:List T} {v:List V} (s:∀ a∈O',a∈O) (h:aI K H O t v):aI K H O' t v :=
 aI.map (fun a vs q=>q.elim (fun z=>.inl ⟨z.1,fun m=>z.2 (s a m)⟩) .inr) (fun _ _ q=>q) (fun a _ q=>⟨q.1,fun m=>q.2 (s a m)⟩) h
theorem Rd.some {a:Addr} {u:HO} (h:Rd H a u):H a≠none:=by
 rcases h with h | ⟨o,h⟩ <;> rw [h] <;> simp
theorem At.more {t:T} {v:V} (s:∀ a∈O',a∈O∨H a=none) (h:At K H O t v):At K H O' t v :=
 At.map (fun a vs q=>q.elim (fun z=>.inl ⟨z.1,fun m=>(s a m).elim z.2 (Rd.some z.1)⟩) .inr) (fun _ _ q=>q) (fun a aV q=>⟨q.1,fun m=>(s a m).elim q.2 (by rw [q.1]; simp)⟩) h
theorem aI.more {t:List T} {v:List V} (s:∀ a∈O',a∈O∨H a=none) (h:aI K H O t v):aI K H O' t v :=
 aI.map (fun a vs q=>q.elim (fun z=>.inl ⟨z.1,fun m=>(s a m).elim z.2 (Rd.some z.1)⟩) .inr) (fun _ _ q=>q) (fun a aV q=>⟨q.1,fun m=>(s a m).elim q.2 (by rw [q.1]; simp)⟩) h
def wq:HO→Bool
 | .lst _=>true
 | .dK _=>true
 | .dT _=>true
 | .ins _ _ _=>true
 | _=>false
theorem At.wrote {t:T} {v:V} {a:Addr} {o u:HO} (ha:a∈O) (hu:H a=some u) (hm:wq u=true) (h:At K H O t v):At K (upd H a o) O t v:=by
 have ne:∀ b,b∉O→b≠a:=fun b hb e=>hb (by rw [e]; exact ha)
 refine At.map (fun b vs q=>?_) (fun b vs q=>?_) (fun b aV q=>?_) h
 · rcases q with q | q
   · refine .inl ⟨?_,q.2⟩
     rcases q.1 with z | ⟨o',z⟩
     · exact .inl (by rw [aK (ne b q.2)]; exact z)
     · exact .inr ⟨o',by rw [aK (ne b q.2)]; exact z⟩
   · exact .inr q
 · rcases q with z | z
   · refine .inl ?_
     rcases z with z | ⟨o',z⟩
     · exact .inl (by rw [aK (Ko z hu (by intro e; subst e; cases hm))]; exact z)
     · exact .inr ⟨o',by rw [aK (Ko z hu (by intro e; subst e; cases hm))]; exact z⟩
   · exact .inr z
 · exact ⟨by rw [aK (ne b q.2)]; exact q.1,q.2⟩
theorem aI.iff {ts:List T}:∀ {vs:List V},aI K H O ts vs↔Paired (fun v t=>At K H O t v) vs ts:=by
 induction ts with
 | nil=>intro vs; simp only [aI]; exact ⟨fun e=>by subst e; exact .nil,fun h=>by cases h; rfl⟩
 | cons t ts ih =>
   intro vs
   simp only [aI]
   constructor
   · rintro ⟨v,r,rfl,h1,h2⟩
     exact .cons h1 (ih.mp h2)
   · intro h
     cases h with
     | cons h1 h2=>exact ⟨_,_,rfl,h1,ih.mpr h2⟩
theorem aI.wrote {t:List T} {v:List V} {a:Addr} {o u:HO} (ha:a∈O) (hu:H a=some u) (hm:wq u=true) (h:aI K H O t v):aI K (upd H a o) O t v :=
 aI.iff.mpr (Paired.mZ (aI.iff.mp h) fun _ _ q=>q.wrote ha hu hm)
theorem aI.length {ts:List T} {vs:List V} (h:aI K H O ts vs):vs.length=ts.length:=OW (aI.iff.mp h)
theorem aI.get {ts:List T} {vs:List V} (h:aI K H O ts vs) {i:Nat} {t:T} (e:ts[i]?=some t):∃ v,vs[i]?=some v∧At K H O t v:=by
 have q:=aI.iff.mp h
 clear h
 induction q generalizing i with
 | nil=>simp at e
 | cons r _ ih =>
   cases i with
   | zero=>simp at e; subst e; exact ⟨_,rfl,r⟩
   | succ i=>obtain ⟨v,h1,h2⟩:=ih (i:=i) (by simpa using e); exact ⟨v,by simpa using h1,h2⟩
theorem aI.cons {t:T} {ts:List T} {v:V} {vs:List V} (h:At K H O t v) (hs:aI K H O ts vs):aI K H O (t :: ts) (v :: vs):=by
 simp only [aI]; exact ⟨v,vs,rfl,h,hs⟩
theorem aI.nil:aI K H O [] []:=by simp only [aI]
theorem aI.append {ts us:List T} {vs ws:List V} (h:aI K H O ts vs) (h':aI K H O us ws):aI K H O (ts ++ us) (vs ++ ws):=by
 rw [aI.iff] at h h' ⊢
 induction h with
 | nil=>exact h'
 | cons r _ ih=>exact .cons r ih
theorem aI.drop {ts:List T} {vs:List V} (n:Nat) (h:aI K H O ts vs):aI K H O (ts.drop n) (vs.drop n):=by
 rw [aI.iff] at h ⊢
 induction h generalizing n with
 | nil=>cases n <;> exact .nil
 | cons r t ih=>cases n with
   | zero=>exact .cons r t
   | succ n=>exact ih n
theorem aI.take {ts:List T} {vs:List V} (n:Nat) (h:aI K H O ts vs):aI K H O (ts.take n) (vs.take n):=by
 rw [aI.iff] at h ⊢
 induction h generalizing n with
 | nil=>cases n <;> exact .nil
 | cons r t ih=>cases n with
   | zero=>exact .nil
   | succ n=>exact .cons r (ih n)
theorem aI.set {ts:List T} {vs:List V} {t:T} {v:V} (i:Nat) (h:aI K H O ts vs) (q:At K H O t v):aI K H O (ts.set i t) (vs.set i v):=by
 rw [aI.iff] at h ⊢
 induction h generalizing i with
 | nil=>exact .nil
 | cons r s ih=>cases i with
   | zero=>exact .cons q s
   | succ i=>exact .cons r (ih i)
end
mutual
def mW:T→Bool
 | .tup ts=>r_ ts
 | .lst _=>false
 | .dk _ _=>false
 | .dt _ _=>false
 | .df _ _ _=>false
 | .dz _ _ _=>false
 | .kt _=>false
 | .ins _ _ _=>false
 | .pin _ _=>false
 | _=>true
def r_:List T→Bool
 | []=>true
 | t :: ts=>mW t && r_ ts
end
section
variable {K:PySem.W.Frag} {H H':Hp} {O O':List Addr}
mutual
theorem At.mW:∀ {t:T} {v:V},mW t=true→At K H O t v→At K H O' t v
 | .bb,_,_,h=>by simpa only [At] using h
 | .bl _,_,_,h=>by simpa only [At] using h
 | .int _,_,_,h=>by simpa only [At] using h
 | .str _,_,_,h=>by simpa only [At] using h
 | .ob _,_,_,h=>by simpa only [At] using h
 | .ty _,_,_,h=>by simpa only [At] using h
 | .tup ts,_,i,h=>by
   simp only [At] at h ⊢
   simp only [VT.mW] at i
   obtain ⟨a,vs,e,h1,h2⟩:=h
   exact ⟨a,vs,e,h1,aI.mW i h2⟩
 | .lst ts,_,i,h=>by simp only [VT.mW] at i; cases i
 | .dk _ _,_,i,h=>by simp only [VT.mW] at i; cases i
 | .dt _ _,_,i,h=>by simp only [VT.mW] at i; cases i
 | .df _ _ _,_,i,h=>by simp only [VT.mW] at i; cases i
 | .dz _ _ _,_,i,h=>by simp only [VT.mW] at i; cases i
 | .kt _,_,i,h=>by simp only [VT.mW] at i; cases i
 | .ins _ _ _,_,i,h=>by simp only [VT.mW] at i; cases i
 | .pin _ _,_,i,h=>by simp only [VT.mW] at i; cases i
theorem aI.mW:∀ {ts:List T} {vs:List V},r_ ts=true→aI K H O ts vs→aI K H O' ts vs
 | [],_,_,h=>by simpa only [aI] using h
 | t :: ts,_,i,h=>by
   simp only [VT.r_,gT] at i
   simp only [aI] at h ⊢
   obtain ⟨v,r,e,h1,h2⟩:=h
   exact ⟨v,r,e,At.mW i.1 h1,aI.mW i.2 h2⟩
end
end
abbrev En:=List (Option (T×Bool))
structure Zc where
 H0:Hp
 P:List (Nat×Addr)
 Ox:List Addr
def Zc.ex (Z:Zc) (a:Addr):Zc:={ Z with Ox:=a :: Z.Ox }
def cA (K:PySem.W.Frag) (H:Hp) (A:List Addr) (a:Addr):T→Prop
 | .lst ts=>∃ vs,H a=some (.lst vs)∧aI K H A ts vs
 | .dk ks ts=>∃ vs,ks.length=vs.length∧H a=some (.dK (ks.zip vs))∧aI K H A ts vs
 | .dt ks ts=>∃ vs,ks.length=vs.length∧H a=some (.dT (ks.zip vs))∧aI K H A ts vs
 | .ins C ns ts=>∃ dx vs,ns.length=vs.length∧H a=some (.ins C dx (ns.zip vs))∧aI K H A ts vs
 | _=>False
def pW (K:PySem.W.Frag) (H:Hp) (A:List Addr):Option (T×Bool)→Option Addr→Option V→Prop
 | none,o,_=>o=none
 | some (t,false),o,s=>o=none∧∃ v,s=some v∧At K H A t v
 | some (t,true),o,s=>∃ a,o=some a∧s=some (.ref a)∧cA K H A a t
def roots (O:List (Option Addr)):List Addr:=O.filterMap id
def av (Z:Zc) (O:List (Option Addr)):List Addr:=roots O ++ Z.Ox
structure aA (K:PySem.W.Frag) (Z:Zc) (tm:List (T×V)) (O:List (Option Addr)) (ρ:En) (σ:St) (H:Hp):Prop where
 lσ:σ.length=ρ.length
 lO:O.length=ρ.length
 sl:∀ (i:Nat) e,ρ[i]?=some e→∃ o s,O[i]?=some o∧σ[i]?=some s∧pW K H (av Z O) e o s
 nd:(roots O).Nodup
 own:∀ a∈roots O,(a∈Z.P.map (·.2)∨Z.H0 a=none)∧a∉Z.Ox∧∃ u,H a=some u∧wq u=true
 par:∀ p∈Z.P,O[p.1]?=some (some p.2)
 ox:∀ a∈Z.Ox,H a≠none
 keep:∀ b o,Z.H0 b=some o→b∉Z.P.map (·.2)→H b=some o
 pB:∀ p∈tm,At K H (av Z O) p.1 p.2
section
variable {K:PySem.W.Frag} {Z:Zc} {tm:List (T×V)} {O:List (Option Addr)} {ρ:En} {σ:St} {H H':Hp}
theorem cA.map {A A':List Addr} {a:Addr} {t:T} (h:cA K H A a t) (h1:H' a=H a) (h2:∀ ts vs,aI K H A ts vs→aI K H' A' ts vs):cA K H' A' a t:=by
 cases t with
 | lst ts=>obtain ⟨vs,e,q⟩:=h; exact ⟨vs,h1.trans e,h2 _ _ q⟩
 | dk ks ts=>obtain ⟨vs,l,e,q⟩:=h; exact ⟨vs,l,h1.trans e,h2 _ _ q⟩
 | dt ks ts=>obtain ⟨vs,l,e,q⟩:=h; exact ⟨vs,l,h1.trans e,h2 _ _ q⟩
 | ins C ns ts=>obtain ⟨dx,vs,l,e,q⟩:=h; exact ⟨dx,vs,l,h1.trans e,h2 _ _ q⟩
 | _=>exact h.elim
theorem cA.mut {A:List Addr} {a:Addr} {t:T} (h:cA K H A a t):∃ u,H a=some u∧wq u=true:=by
 cases t with
 | lst ts=>obtain ⟨vs,e,q⟩:=h; exact ⟨_,e,rfl⟩
 | dk ks ts=>obtain ⟨vs,l,e,q⟩:=h; exact ⟨_,e,rfl⟩
 | dt ks ts=>obtain ⟨vs,l,e,q⟩:=h; exact ⟨_,e,rfl⟩
 | ins C ns ts=>obtain ⟨dx,vs,l,e,q⟩:=h; exact ⟨_,e,rfl⟩
 | _=>exact h.elim
theorem cA.bh {A A':List Addr} {a:Addr} {t:T} (h:cA K H A a t) (s:∀ b∈A',b∈A):cA K H A' a t:=h.map rfl fun _ _ q=>q.bh s
theorem cA.same {A:List Addr} {a:Addr} {t:T} (h:cA K H A a t) (s:aM H H'):cA K H' A a t:=by
 obtain ⟨u,e,_⟩:=h.mut
 exact h.map (by rw [e]; exact s _ _ e) fun _ _ q=>q.same s
theorem cA.at {A:List Addr} {a:Addr} {t:T} (h:cA K H A a t) (n:a∉A):At K H A t (.ref a):=by
 cases t with
 | lst ts=>obtain ⟨vs,e,q⟩:=h; simp only [At]; exact ⟨a,vs,rfl,.inl ⟨.inl e,n⟩,q⟩
 | dk ks ts=>obtain ⟨vs,l,e,q⟩:=h; simp only [At]; exact ⟨a,vs,rfl,l,⟨e,n⟩,q⟩
 | dt ks ts=>obtain ⟨vs,l,e,q⟩:=h; simp only [At]; exact ⟨a,vs,rfl,l,⟨e,n⟩,q⟩
 | ins C ns ts=>obtain ⟨dx,vs,l,e,q⟩:=h; simp only [At]; exact ⟨a,dx,vs,rfl,l,⟨e,n⟩,q⟩
 | _=>exact h.elim
theorem pW.map {A A':List Addr} {e:Option (T×Bool)} {o:Option Addr} {s:Option V} (h:pW K H A e o s) (h1:∀ t v,At K H A t v→At K H' A' t v) (h2:∀ a t,o=some a→cA K H A a t→cA K H' A' a t):pW K H' A' e o s:=by
 match e,h with
 | none,h=>exact h
 | some (t,false),⟨e,v,es,q⟩=>exact ⟨e,v,es,h1 _ _ q⟩
 | some (t,true),⟨a,e,es,q⟩=>exact ⟨a,e,es,h2 _ _ e q⟩
theorem aN {a:Addr}:a∈roots O↔some a∈O:=by
 unfold roots
 rw [List.mem_filterMap]
 exact ⟨fun ⟨x,h,e⟩=>by rw [id] at e; rw [← e]; exact h,fun h=>⟨_,h,rfl⟩⟩
theorem aA.Kz (I:aA K Z tm O ρ σ H):∀ a∈av Z O,H a≠none:=fun a h=>by
 rcases mY.mp h with h | h
 · obtain ⟨_,_,u,e,_⟩:=I.own a h; rw [e]; simp
 · exact I.ox a h
theorem aA.same (I:aA K Z tm O ρ σ H) (s:aM H H'):aA K Z tm O ρ σ H' :=
 ⟨I.lσ,I.lO,fun i e h=>let ⟨o,w,h1,h2,h3⟩:=I.sl i e h; ⟨o,w,h1,h2,h3.map (fun _ _ q=>q.same s) fun _ _ _ q=>q.same s⟩,I.nd,
   fun a h=>let ⟨h1,h2,u,e,m⟩:=I.own a h; ⟨h1,h2,u,s _ _ e,m⟩,I.par,fun a h=>by
    cases e:H a with
    | none=>exact absurd e (I.ox a h)
    | some u=>rw [s _ _ e]; simp,
   fun b o e n=>s _ _ (I.keep b o e n),fun p hp=>(I.pB p hp).same s⟩
theorem cq (i:Nat):∀ a∈roots (O.set i none),a∈roots O:=fun a h=>by
 rw [aN] at h ⊢
 rcases Po h with z | z
 · exact z
 · cases z
theorem gr:∀ (O:List (Option Addr)) (i:Nat),(roots O).Nodup→(roots (O.set i none)).Nodup
 | [],i,h=>by simpa using h
 | o :: O,0,h=>by
   cases o with
   | none=>simpa [roots] using h
   | some a=>simp only [roots,Tr,pb,id] at h ⊢; exact (rP.mp h).2
 | o :: O,i+1,h=>by
   have key:=gr O i
   cases o with
   | none=>simp only [roots,OQ,pb,id] at h ⊢; exact key h
   | some a =>
     simp only [roots,OQ,pb,id] at h ⊢
     rw [rP] at h ⊢
     exact ⟨fun z=>h.1 (cq i a z),key h.2⟩
theorem b8 (i:Nat):∀ a∈av Z (O.set i none),a∈av Z O:=fun a h=>by
 rcases mY.mp h with h | h
 · exact mX _ (cq i a h)
 · exact k8 _ h
theorem get_set {α:Type} {l:List α} {i j:Nat} {x y:α} (h:(l.set i x)[j]?=some y):(j=i∧y=x∧i < l.length)∨(j≠i∧l[j]?=some y):=by
 rw [List.getElem?_set] at h
 by_cases e:i=j
 · rw [if_pos e] at h
   by_cases hl:i < l.length
   · rw [if_pos hl] at h
     exact .inl ⟨e.symm,(Option.some.inj h).symm,hl⟩
   · rw [if_neg hl] at h; cases h
 · rw [if_neg e] at h
   exact .inr ⟨fun z=>e z.symm,h⟩
theorem aA.put (I:aA K Z tm O ρ σ H) {i:Nat} {t:T} {v:V} (hp:∀ p∈Z.P,p.1≠i) (hv:At K H (av Z O) t v):aA K Z tm (O.set i none) (ρ.set i (some (t,false))) (σ.set i (some v)) H:=by
 have fw:∀ {t:T} {v:V},At K H (av Z O) t v→At K H (av Z (O.set i none)) t v:=fun q=>q.bh (b8 i)
 refine ⟨by simp [I.lσ],by simp [I.lO],fun j e h=>?_,gr _ _ I.nd,fun a h=>I.own a (cq i a h),fun p q=>?_,I.ox,I.keep,fun p q=>fw (I.pB p q)⟩
 · rcases get_set h with ⟨rfl,rfl,hl⟩ | ⟨ne,h⟩
   · exact ⟨none,some v,by rw [Ao (by rw [I.lO]; exact hl)],by rw [Ao (by rw [I.lσ]; exact hl)],rfl,v,rfl,fw hv⟩
   · obtain ⟨o,s,h1,h2,h3⟩:=I.sl j e h
     exact ⟨o,s,by rw [vY (Ne.symm ne)]; exact h1,by rw [vY (Ne.symm ne)]; exact h2,h3.map (fun _ _ q=>fw q) fun _ _ _ q=>q.bh (b8 i)⟩
 · rw [vY (Ne.symm (hp p q))]; exact I.par p q
theorem aA.forget (I:aA K Z tm O ρ σ H) {i:Nat} (hp:∀ p∈Z.P,p.1≠i):aA K Z tm (O.set i none) (ρ.set i none) σ H:=by
 have fw:∀ {t:T} {v:V},At K H (av Z O) t v→At K H (av Z (O.set i none)) t v:=fun q=>q.bh (b8 i)
 refine ⟨by simp [I.lσ],by simp [I.lO],fun j e h=>?_,gr _ _ I.nd,fun a h=>I.own a (cq i a h),fun p q=>?_,I.ox,I.keep,fun p q=>fw (I.pB p q)⟩
 · rcases get_set h with ⟨rfl,rfl,hl⟩ | ⟨ne,h⟩
   · obtain ⟨s,hs⟩:∃ s,σ[j]?=some s:=⟨σ[j]'(by rw [I.lσ]; exact hl),by simp⟩
     exact ⟨none,s,by rw [Ao (by rw [I.lO]; exact hl)],hs,rfl⟩
   · obtain ⟨o,s,h1,h2,h3⟩:=I.sl j e h
     exact ⟨o,s,by rw [vY (Ne.symm ne)]; exact h1,h2,h3.map (fun _ _ q=>fw q) fun _ _ _ q=>q.bh (b8 i)⟩
 · rw [vY (Ne.symm (hp p q))]; exact I.par p q
theorem ou:∀ (O:List (Option Addr)) (i:Nat) (a:Addr),a∉roots O→(roots O).Nodup→(roots (O.set i (some a))).Nodup
 | [],i,a,_,h=>by simpa using h
 | o :: O,0,a,n,h=>by
   cases o with
   | none=>simp only [roots,Tr,pb,id] at n h ⊢; exact rP.mpr ⟨n,h⟩
   | some b =>
     simp only [roots,Tr,pb,id] at n h ⊢
     exact rP.mpr ⟨fun z=>n (i_ _ z),(rP.mp h).2⟩
 | o :: O,i+1,a,n,h=>by
   have key:=ou O i a
   cases o with
   | none=>simp only [roots,OQ,pb,id] at n h ⊢; exact key n h
   | some b =>
     simp only [roots,OQ,pb,id] at n h ⊢
     rw [rP] at h ⊢
     refine ⟨fun z=>?_,key (fun z=>n (i_ _ z)) h.2⟩
     have z':some b∈O.set i (some a):=aN.mp z
     rcases Po z' with q | q
     · exact h.1 (aN.mpr q)
     · exact n (by rw [Option.some.inj q]; exact gq)
theorem wt {a:Addr} (i:Nat):∀ b∈av Z (O.set i (some a)),b∈av (Z.ex a) O:=fun b h=>by
 rcases mY.mp h with h | h
 · rcases Po (aN.mp h) with z | z
   · exact mX _ (aN.mpr z)
   · exact k8 _ (by rw [Option.some.inj z]; exact gq)
 · exact k8 _ (i_ _ h)
theorem aA.VF {a:Addr} (I:aA K (Z.ex a) tm O ρ σ H) {i:Nat} {t:T} (hp:∀ p∈Z.P,p.1≠i) (hv:cA K H (av (Z.ex a) O) a t) (h0:Z.H0 a=none) (hx:a∉Z.Ox):aA K Z tm (O.set i (some a)) (ρ.set i (some (t,true))) (σ.set i (some (.ref a))) H:=by
 have sub:=wt (Z:=Z) (O:=O) (a:=a) i
 have fw:∀ {t:T} {v:V},At K H (av (Z.ex a) O) t v→At K H (av Z (O.set i (some a))) t v:=fun q=>q.bh sub
 have na:a∉roots O:=fun z=>(I.own a z).2.1 gq
 refine ⟨by simp [I.lσ],by simp [I.lO],fun j e h=>?_,ou _ _ _ na I.nd,fun b h=>?_,fun p q=>?_,fun b h=>I.ox b (i_ _ h),I.keep,fun p q=>fw (I.pB p q)⟩
 · rcases get_set h with ⟨rfl,rfl,hl⟩ | ⟨ne,h⟩
   · exact ⟨some a,some (.ref a),by rw [Ao (by rw [I.lO]; exact hl)],by rw [Ao (by rw [I.lσ]; exact hl)],a,rfl,rfl,hv.bh sub⟩
   · obtain ⟨o,s,h1,h2,h3⟩:=I.sl j e h
     exact ⟨o,s,by rw [vY (Ne.symm ne)]; exact h1,by rw [vY (Ne.symm ne)]; exact h2,h3.map (fun _ _ q=>fw q) fun _ _ _ q=>q.bh sub⟩
 · rcases Po (aN.mp h) with z | z
   · obtain ⟨h1,h2,h3⟩:=I.own b (aN.mpr z)
     exact ⟨h1,fun q=>h2 (i_ _ q),h3⟩
   · cases z
     exact ⟨.inr h0,hx,hv.mut⟩
 · rw [vY (Ne.symm (hp p q))]; exact I.par p q
theorem aA.vT (I:aA K Z tm O ρ σ H) {i:Nat} {t:T} (hp:∀ p∈Z.P,p.1≠i) (hi:ρ[i]?=some (some (t,true))):aA K Z tm (O.set i none) (ρ.set i (some (t,false))) σ H:=by
 have fw:∀ {t:T} {v:V},At K H (av Z O) t v→At K H (av Z (O.set i none)) t v:=fun q=>q.bh (b8 i)
 obtain ⟨o,s,h1,h2,a,rfl,rfl,hr⟩:=I.sl i _ hi
 have ha:a∈roots O:=aN.mpr (mV h1)
 have na:a∉roots (O.set i none):=fun z=>by
  obtain ⟨j,hj⟩:=Lx.mp (aN.mp z)
  rcases get_set hj with ⟨_,q,_⟩ | ⟨ne,q⟩
  · cases q
  · -- two places of one root
    have key:∀ (O:List (Option Addr)) (i j:Nat),i < j→O[i]?=some (some a)→O[j]?=some (some a)→(roots O).Nodup→False:=by
     intro O
     induction O with
     | nil=>intro i j _ h; simp at h
     | cons o O ih =>
       intro i j MB e1 e2 nd
       cases j with
       | zero=>omega
       | succ j =>
         have GD:O[j]?=some (some a):=by simpa using e2
         cases i with
         | zero =>
           have:o=some a:=by simpa using e1
           subst this
           simp only [roots,pb,id] at nd
           exact (rP.mp nd).1 (aN.mpr (mV GD))
         | succ i =>
           refine ih i j (by omega) (by simpa using e1) GD ?_
           cases o with
           | none=>simpa [roots] using nd
           | some b=>simp only [roots,pb,id] at nd; exact (rP.mp nd).2
    rcases Nat.lt_or_gt_of_ne ne with l | l
    · exact key O j i l q h1 I.nd
    · exact key O i j l h1 q I.nd
 have Zr:a∉av Z (O.set i none):=fun z=>by
  rcases mY.mp z with z | z
  · exact na z
  · exact (I.own a ha).2.1 z
 refine ⟨by simp [I.lσ],by simp [I.lO],fun j e h=>?_,gr _ _ I.nd,fun a h=>I.own a (cq i a h),fun p q=>?_,I.ox,I.keep,fun p q=>fw (I.pB p q)⟩
 · rcases get_set h with ⟨rfl,rfl,hl⟩ | ⟨ne,h⟩
   · exact ⟨none,some (.ref a),by rw [Ao (by rw [I.lO]; exact hl)],h2,rfl,.ref a,rfl,(hr.bh (b8 j)).at Zr⟩
   · obtain ⟨o,s,h1,h2,h3⟩:=I.sl j e h
     exact ⟨o,s,by rw [vY (Ne.symm ne)]; exact h1,h2,h3.map (fun _ _ q=>fw q) fun _ _ _ q=>q.bh (b8 i)⟩
 · rw [vY (Ne.symm (hp p q))]; exact I.par p q
theorem aA.wrote (I:aA K Z tm O ρ σ H) {i:Nat} {t t':T} {a:Addr} {u:HO} (hi:ρ[i]?=some (some (t,true))) (hO:O[i]?=some (some a)) (hr:cA K (upd H a u) (av Z O) a t'):aA K Z tm O (ρ.set i (some (t',true))) σ (upd H a u):=by
 have ha:a∈roots O:=aN.mpr (mV hO)
 have Hz:a∈av Z O:=mX _ ha
 obtain ⟨hP,hx,u0,e0,m0⟩:=I.own a ha
 have inj:∀ j b,j≠i→O[j]?=some (some b)→b≠a:=by
  intro j b ne hj e
  subst e
  have key:∀ (O:List (Option Addr)) (i j:Nat),i < j→O[i]?=some (some b)→O[j]?=some (some b)→(roots O).Nodup→False:=by
   intro O
   induction O with
   | nil=>intro i j _ h; simp at h
   | cons o O ih =>
     intro i j MB e1 e2 nd
     cases j with
     | zero=>omega
     | succ j =>
       have GD:O[j]?=some (some b):=by simpa using e2
       cases i with
       | zero =>
         have:o=some b:=by simpa using e1
         subst this
         simp only [roots,pb,id] at nd
         exact (rP.mp nd).1 (aN.mpr (mV GD))
       | succ i =>
         refine ih i j (by omega) (by simpa using e1) GD ?_
         cases o with
         | none=>simpa [roots] using nd
         | some c=>simp only [roots,pb,id] at nd; exact (rP.mp nd).2
  rcases Nat.lt_or_gt_of_ne ne with l | l
  · exact key O j i l hj hO I.nd
  · exact key O i j l hO hj I.nd
 refine ⟨by simp [I.lσ],by simp [I.lO],fun j e h=>?_,I.nd,fun b h=>?_,I.par,fun b h=>?_,fun b o e n=>?_,fun p q=>(I.pB p q).wrote Hz e0 m0⟩
 · rcases get_set h with ⟨rfl,rfl,hl⟩ | ⟨ne,h⟩
   · obtain ⟨o,s,h1,h2,a',h4,h5,h6⟩:=I.sl j _ hi
     rw [hO] at h1
     cases h1
     cases h4
     exact ⟨_,s,hO,h2,a,rfl,h5,hr⟩
   · obtain ⟨o,s,h1,h2,h3⟩:=I.sl j e h
     refine ⟨o,s,h1,h2,h3.map (fun _ _ q=>q.wrote Hz e0 m0) fun b t e q=>?_⟩
     subst e
     exact q.map (aK (inj j b ne h1)) fun _ _ z=>z.wrote Hz e0 m0
 · obtain ⟨h1,h2,v,e,m⟩:=I.own b h
   by_cases hb:b=a
   · subst hb; exact ⟨h1,h2,hr.mut⟩
   · exact ⟨h1,h2,v,by rw [aK hb]; exact e,m⟩
 · by_cases hb:b=a
   · subst hb; exact absurd h hx
   · rw [aK hb]; exact I.ox b h
 · by_cases hb:b=a
   · subst hb
     rcases hP with q | q
     · exact absurd q n
     · rw [q] at e; cases e
   · rw [aK hb]; exact I.keep b o e n
theorem aA.fresh (I:aA K Z tm O ρ σ H) {a:Addr} (h:H a=none):a∉av Z O∧a∉Z.Ox∧Z.H0 a=none:=by
 refine ⟨fun z=>I.Kz a z h,fun z=>I.ox a z h,?_⟩
 cases e:Z.H0 a with
 | none=>rfl
 | some o =>
   by_cases hp:a∈Z.P.map (·.2)
   · obtain ⟨p,TV,rfl⟩:=Bp.mp hp
     obtain ⟨_,_,u,e',_⟩:=I.own p.2 (aN.mpr (mV (I.par p TV)))
     rw [h] at e'; cases e'
   · rw [I.keep a o e hp] at h; cases h
theorem dD {a:Addr}:∀ b∈av (Z.ex a) O,b∈av Z O∨b=a:=fun b h=>by
 rcases mY.mp h with h | h
 · exact .inl (mX _ h)
 · rcases fg.mp h with h | h
   · exact .inr h
   · exact .inl (k8 _ h)
theorem fF {a:Addr}:∀ b∈av Z O,b∈av (Z.ex a) O:=fun b h=>by
 rcases mY.mp h with h | h
 · exact mX _ h
 · exact k8 _ (i_ _ h)
theorem aA.new (I:aA K Z tm O ρ σ H) {a:Addr} {u:HO} (h:H a=none) (hu:wq u=true):aA K (Z.ex a) tm O ρ σ (upd H a u):=by
 have s:aM H (upd H a u):=aS h
 have J:=I.same s
 obtain ⟨n1,n2,n3⟩:=I.fresh h
 have mr:∀ b∈av (Z.ex a) O,b∈av Z O∨H b=none:=fun b hb=>(dD b hb).imp id fun e=>by rw [e]; exact h
 have fw:∀ {t:T} {v:V},At K H (av Z O) t v→At K (upd H a u) (av (Z.ex a) O) t v:=fun q=>(q.more mr).same s
 refine ⟨J.lσ,J.lO,fun i e hi=>?_,J.nd,fun b hb=>?_,J.par,fun b hb=>?_,J.keep,fun p hp=>fw (I.pB p hp)⟩
 · obtain ⟨o,w,h1,h2,h3⟩:=I.sl i e hi
   refine ⟨o,w,h1,h2,h3.map (fun _ _ q=>fw q) fun b t eo q=>?_⟩
   refine cA.same (q.map rfl fun _ _ z=>z.more mr) s
 · obtain ⟨q1,q2,q3⟩:=J.own b hb
   refine ⟨q1,fun z=>?_,q3⟩
   rcases fg.mp z with z | z
   · exact n1 (by rw [← z]; exact mX _ hb)
   · exact q2 z
 · rcases fg.mp hb with z | z
   · rw [z,aQ]; simp
   · exact J.ox b z
theorem aA.VH {a:Addr} (I:aA K (Z.ex a) tm O ρ σ H):aA K Z tm O ρ σ H :=
 ⟨I.lσ,I.lO,fun i e h=>let ⟨o,w,h1,h2,h3⟩:=I.sl i e h; ⟨o,w,h1,h2,h3.map (fun _ _ q=>q.bh fF) fun _ _ _ q=>q.bh fF⟩,I.nd,
   fun b h=>let ⟨q1,q2,q3⟩:=I.own b h; ⟨q1,fun z=>q2 (i_ _ z),q3⟩,I.par,fun b h=>I.ox b (i_ _ h),I.keep,fun p hp=>(I.pB p hp).bh fF⟩
end
inductive Rt where
 | vw (t:T)
 | fr (t:T)
def Rt.t:Rt→T
 | .vw t=>t
 | .fr t=>t
def iq (K:PySem.W.Frag) (H:Hp) (A:List Addr) (t:T) (v:V):Prop:=At K H A t v∨∃ a,v = .ref a∧cA K H A a t
def jo (K:PySem.W.Frag) (Z:Zc) (tm:List (T×V)) (O:List (Option Addr)) (ρ:En) (σ:St) (H:Hp):Rt→V→Prop
 | .vw t,v=>aA K Z tm O ρ σ H∧At K H (av Z O) t v
 | .fr t,v=>∃ a,v = .ref a∧aA K (Z.ex a) tm O ρ σ H∧cA K H (av (Z.ex a) O) a t∧Z.H0 a=none∧a∉Z.Ox
abbrev FE:=En→(T→Prop)→Prop
abbrev FP:=En→(Rt→Prop)→Prop
abbrev FX:=En→(En→Rt→Prop)→Prop
abbrev FB:=En→(Bool→Prop)→Prop
abbrev FA:=En→(List T→Prop)→Prop
section
variable {K:PySem.W.Frag} {Z:Zc} {tm:List (T×V)} {O:List (Option Addr)} {ρ:En} {σ:St} {H H':Hp} {A:List Addr}
theorem iq.same {t:T} {v:V} (s:aM H H') (h:iq K H A t v):iq K H' A t v:=h.imp (fun q=>q.same s) fun ⟨a,e,q⟩=>⟨a,e,q.same s⟩
theorem iq.lst {ts:List T} {v:V} (h:iq K H A (.lst ts) v):∃ a vs,v = .ref a∧gm K H a vs∧aI K H A ts vs:=by
 rcases h with h | ⟨a,rfl,vs,e,q⟩
 · simp only [At] at h
   obtain ⟨a,vs,rfl,l,q⟩:=h
   exact ⟨a,vs,rfl,l.sq,q⟩
 · exact ⟨a,vs,rfl,gm.of e,q⟩
theorem iq.tup {ts:List T} {v:V} (h:iq K H A (.tup ts) v):∃ a vs,v = .ref a∧dY K H a vs∧aI K H A ts vs:=by
 rcases h with h | ⟨a,rfl,q⟩
 · simpa only [At] using h
 · exact q.elim
theorem iq.dk {ks:List Key} {ts:List T} {v:V} (h:iq K H A (.dk ks ts) v):∃ a vs,v = .ref a∧ks.length=vs.length∧H a=some (.dK (ks.zip vs))∧aI K H A ts vs:=by
 rcases h with h | ⟨a,rfl,vs,l,e,q⟩
 · simp only [At] at h
   obtain ⟨a,vs,rfl,l,d,q⟩:=h
   exact ⟨a,vs,rfl,l,d.1,q⟩
 · exact ⟨a,vs,rfl,l,e,q⟩
theorem iq.dt {ks:List (List Key)} {ts:List T} {v:V} (h:iq K H A (.dt ks ts) v):∃ a vs,v = .ref a∧ks.length=vs.length∧H a=some (.dT (ks.zip vs))∧aI K H A ts vs:=by
 rcases h with h | ⟨a,rfl,vs,l,e,q⟩
 · simp only [At] at h
   obtain ⟨a,vs,rfl,l,d,q⟩:=h
   exact ⟨a,vs,rfl,l,d.1,q⟩
 · exact ⟨a,vs,rfl,l,e,q⟩
theorem iq.df {o:Obj} {ks:List (List Key)} {ts:List T} {v:V} (h:iq K H A (.df o ks ts) v):∃ a vs,v = .ref a∧ks.length=vs.length∧H a=some (.vT o (.dT (ks.zip vs)))∧aI K H A ts vs:=by
 rcases h with h | ⟨a,rfl,q⟩
 · simp only [At] at h
   obtain ⟨a,vs,rfl,l,d,q⟩:=h
   exact ⟨a,vs,rfl,l,d.1,q⟩
 · exact q.elim
theorem iq.dz {o:Obj} {ks:List Key} {ts:List T} {v:V} (h:iq K H A (.dz o ks ts) v):∃ a vs,v = .ref a∧ks.length=vs.length∧H a=some (.vT o (.dK (ks.zip vs)))∧aI K H A ts vs:=by
 rcases h with h | ⟨a,rfl,q⟩
 · simp only [At] at h
   obtain ⟨a,vs,rfl,l,d,q⟩:=h
   exact ⟨a,vs,rfl,l,d.1,q⟩
 · exact q.elim
theorem iq.kt {k:List Key} {v:V} (h:iq K H A (.kt k) v):∃ a,v = .ref a∧H a=some (.tup (k.map kV)):=by
 rcases h with h | ⟨a,rfl,q⟩
 · simp only [At] at h
   obtain ⟨a,rfl,d⟩:=h
   exact ⟨a,rfl,d.1⟩
 · exact q.elim
theorem iq.ins {C:Addr} {ns:List Str} {ts:List T} {v:V} (h:iq K H A (.ins C ns ts) v):∃ a dx vs,v = .ref a∧ns.length=vs.length∧H a=some (.ins C dx (ns.zip vs))∧aI K H A ts vs:=by
 rcases h with h | ⟨a,rfl,dx,vs,l,e,q⟩
 · simp only [At] at h
   obtain ⟨a,dx,vs,rfl,l,d,q⟩:=h
   exact ⟨a,dx,vs,rfl,l,d.1,q⟩
 · exact ⟨a,dx,vs,rfl,l,e,q⟩
theorem iq.int {i:Int} {v:V} (h:iq K H A (.int i) v):v = .int i:=h.elim (fun q=>by simpa only [At] using q) fun ⟨_,_,q⟩=>q.elim
theorem iq.str {i:Str} {v:V} (h:iq K H A (.str i) v):v = .str i:=h.elim (fun q=>by simpa only [At] using q) fun ⟨_,_,q⟩=>q.elim
theorem iq.bl {i:Bool} {v:V} (h:iq K H A (.bl i) v):v = .bl i:=h.elim (fun q=>by simpa only [At] using q) fun ⟨_,_,q⟩=>q.elim
theorem iq.bb {v:V} (h:iq K H A .bb v):v = .bb:=h.elim (fun q=>by simpa only [At] using q) fun ⟨_,_,q⟩=>q.elim
theorem iq.ob {a:Addr} {v:V} (h:iq K H A (.ob a) v):v = .ref a:=h.elim (fun q=>by simpa only [At] using q) fun ⟨_,_,q⟩=>q.elim
theorem bx {i:Int}:At K H A (.int i) (.int i):=by simp only [At]
theorem bF {i:Str}:At K H A (.str i) (.str i):=by simp only [At]
theorem cH {i:Bool}:At K H A (.bl i) (.bl i):=by simp only [At]
theorem nz:At K H A .bb .bb:=by simp only [At]
theorem bu {ts:List T} {a:Addr} {vs:List V} (h:dY K H a vs) (q:aI K H A ts vs):At K H A (.tup ts) (.ref a):=by simp only [At]; exact ⟨a,vs,rfl,h,q⟩
theorem jo.env {r:Rt} {v:V} (h:jo K Z tm O ρ σ H r v):aA K Z tm O ρ σ H:=by
 cases r with
 | vw t=>exact h.1
 | fr t=>obtain ⟨a,_,I,_⟩:=h; exact I.VH
theorem jo.at {r:Rt} {v:V} (h:jo K Z tm O ρ σ H r v):At K H (av Z O) r.t v:=by
 cases r with
 | vw t=>exact h.2
 | fr t =>
   obtain ⟨a,rfl,I,q,_,hx⟩:=h
   refine (q.bh fF).at fun z=>?_
   rcases mY.mp z with z | z
   · exact (I.own a z).2.1 gq
   · exact hx z
theorem aA.BK (I:aA K Z tm O ρ σ H) {a:Addr} {ts:List T} {vs:List V} (h:H a=none) (q:aI K H (av Z O) ts vs):jo K Z tm O ρ σ (upd H a (.lst vs)) (.fr (.lst ts)) (.ref a):=by
 obtain ⟨n1,n2,n3⟩:=I.fresh h
 exact ⟨a,rfl,I.new h rfl,⟨vs,aQ,(q.more fun b hb=>(dD b hb).imp id fun e=>by rw [e]; exact h).same (aS h)⟩,n3,n2⟩
theorem aA.newD (I:aA K Z tm O ρ σ H) {a:Addr} {ks:List Key} {ts:List T} {vs:List V} (h:H a=none) (hl:ks.length=vs.length) (q:aI K H (av Z O) ts vs):jo K Z tm O ρ σ (upd H a (.dK (ks.zip vs))) (.fr (.dk ks ts)) (.ref a):=by
 obtain ⟨n1,n2,n3⟩:=I.fresh h
 exact ⟨a,rfl,I.new h rfl,⟨vs,hl,aQ,(q.more fun b hb=>(dD b hb).imp id fun e=>by rw [e]; exact h).same (aS h)⟩,n3,n2⟩
end
structure Bx (p:List (T×V)→Prop):Prop where
 h:∀ tm,p tm
section
variable (X:Cx) (Z:Zc)
def lR (tm:List (T×V)) (f:FE):TE:=fun σ H Q=>∃ ρ O q,aA X.K Z tm O ρ σ H∧f ρ q∧∀ t,q t→∀ v H',aM H H'→iq X.K H' (av Z O) t v→Q v H'
def lE (tm:List (T×V)) (f:FE):TE:=fun σ H Q=>∃ ρ O q,aA X.K Z tm O ρ σ H∧f ρ q∧∀ t,q t→∀ v H',aM H H'→At X.K H' (av Z O) t v→Q v H'
def lP (tm:List (T×V)) (f:FP):TE:=fun σ H Q=>∃ ρ O q,aA X.K Z tm O ρ σ H∧f ρ q∧∀ r,q r→∀ v H',aM H H'→jo X.K Z tm O ρ σ H' r v→Q v H'
def lX (tm:List (T×V)) (f:FX):TE:=fun σ H Q=>∃ ρ O q,aA X.K Z tm O ρ σ H∧f ρ q∧∀ ρ' r,q ρ' r→∀ O' v H',jo X.K Z tm O' ρ' σ H' r v→Q v H'
def lB (tm:List (T×V)) (f:FB):TT:=fun σ H Q=>∃ ρ O q,aA X.K Z tm O ρ σ H∧f ρ q∧∀ b,q b→∀ H',aM H H'→Q b H'
def lA (tm:List (T×V)) (f:FA):TA:=fun σ H Q=>∃ ρ O q,aA X.K Z tm O ρ σ H∧f ρ q∧∀ ts,q ts→∀ vs H',aM H H'→aI X.K H' (av Z O) ts vs→Q vs H'
def Yj (tm:List (T×V)) (f:FA):TA:=fun σ H Q=>∃ ρ O q,aA X.K Z tm O ρ σ H∧f ρ q∧∀ ts,q ts→∀ vs H',aM H H'→Paired (fun v t=>iq X.K H' (av Z O) t v) vs ts→Q vs H'
def VR (e:Expr) (f:FE):Prop:=Bx fun tm=>PE X e (lR X Z tm f)
instance {e:Expr} {f:FE}:CoeFun (VR X Z e f) fun _=>∀ tm,PE X e (lR X Z tm f):=⟨fun h=>Bx.h h⟩
def VE (e:Expr) (f:FE):Prop:=Bx fun tm=>PE X e (lE X Z tm f)
instance {e:Expr} {f:FE}:CoeFun (VE X Z e f) fun _=>∀ tm,PE X e (lE X Z tm f):=⟨fun h=>Bx.h h⟩
def VP (e:Expr) (f:FP):Prop:=Bx fun tm=>PE X e (lP X Z tm f)
instance {e:Expr} {f:FP}:CoeFun (VP X Z e f) fun _=>∀ tm,PE X e (lP X Z tm f):=⟨fun h=>Bx.h h⟩
def VX (e:Expr) (f:FX):Prop:=Bx fun tm=>PE X e (lX X Z tm f)
instance {e:Expr} {f:FX}:CoeFun (VX X Z e f) fun _=>∀ tm,PE X e (lX X Z tm f):=⟨fun h=>Bx.h h⟩
def VC (e:Expr) (f:FB):Prop:=Bx fun tm=>PT X e (lB X Z tm f)
instance {e:Expr} {f:FB}:CoeFun (VC X Z e f) fun _=>∀ tm,PT X e (lB X Z tm f):=⟨fun h=>Bx.h h⟩
def VW (e:Expr) (f:FB):Prop:=Bx fun tm=>PW X e (lB X Z tm f)
instance {e:Expr} {f:FB}:CoeFun (VW X Z e f) fun _=>∀ tm,PW X e (lB X Z tm f):=⟨fun h=>Bx.h h⟩
def VA (es:List Expr) (f:FA):Prop:=Bx fun tm=>PA X es (lA X Z tm f)
instance {es:List Expr} {f:FA}:CoeFun (VA X Z es f) fun _=>∀ tm,PA X es (lA X Z tm f):=⟨fun h=>Bx.h h⟩
def GF (es:List Expr) (f:FA):Prop:=Bx fun tm=>PA X es (Yj X Z tm f)
instance {es:List Expr} {f:FA}:CoeFun (GF X Z es f) fun _=>∀ tm,PA X es (Yj X Z tm f):=⟨fun h=>Bx.h h⟩
end
theorem PE.weak {X:Cx} {e:Expr} {t t':TE} (h:PE X e t) (hw:∀ σ H Q,t' σ H Q→t σ H Q):PE X e t':=fun pins s σ H Q I q=>h pins s σ H Q I (hw _ _ _ q)
theorem PT.weak {X:Cx} {e:Expr} {t t':TT} (h:PT X e t) (hw:∀ σ H Q,t' σ H Q→t σ H Q):PT X e t':=fun pins s σ H Q I q=>h pins s σ H Q I (hw _ _ _ q)
theorem PW.weak {X:Cx} {e:Expr} {t t':TT} (h:PW X e t) (hw:∀ σ H Q,t' σ H Q→t σ H Q):PW X e t':=fun wh pins s σ H Q I q=>h wh pins s σ H Q I (hw _ _ _ q)
theorem PA.weak {X:Cx} {e:List Expr} {t t':TA} (h:PA X e t) (hw:∀ σ H Q,t' σ H Q→t σ H Q):PA X e t':=fun pos pins s σ H Q I q=>h pos pins s σ H Q I (hw _ _ _ q)
theorem PS.weak {X:Cx} {b:Stmt} {t t':TS} (h:PS X b t) (hw:∀ D σ H,t' D σ H→t D σ H):PS X b t':=fun pins s σ H D I q=>h pins s σ H D I (hw D σ H q)
theorem oR.tw {X:Cx} {b:List Stmt} {t t':TS} (h:oR X b t) (hw:∀ D σ H,t' D σ H→t D σ H):oR X b t':=fun pins s σ H D I q=>h pins s σ H D I (hw D σ H q)
section
variable {X:Cx} {Z:Zc} {e a b:Expr} {es:List Expr} {pos:Pos}
theorem VE.vr {f:FE} (h:VE X Z e f):VR X Z e f:=.mk fun tm=>PE.weak (h tm) fun σ H Q ⟨ρ,O,q,I,hf,k⟩=>⟨ρ,O,q,I,hf,fun t ht v H' s z=>k t ht v H' s (.inl z)⟩
def fT (f:FP):FE:=fun ρ Q=>f ρ fun r=>Q r.t
def fV (f:FE):FP:=fun ρ Q=>f ρ fun t=>Q (.vw t)
def fX (f:FP):FX:=fun ρ Q=>f ρ fun r=>Q ρ r
theorem VP.ve {f:FP} (h:VP X Z e f):VE X Z e (fT f):=.mk fun tm=>PE.weak (h tm) fun σ H Q ⟨ρ,O,q,I,hf,k⟩=>⟨ρ,O,fun r=>q r.t,I,hf,fun r hr v H' s z=>k r.t hr v H' s z.at⟩
theorem VP.vr {f:FP} (h:VP X Z e f):VR X Z e (fT f):=h.ve.vr
theorem VP.vx {f:FP} (h:VP X Z e f):VX X Z e (fX f):=.mk fun tm=>PE.weak (h tm) fun σ H Q ⟨ρ,O,q,I,hf,k⟩=>⟨ρ,O,fun r=>q ρ r,I,hf,fun r hr v H' s z=>k ρ r hr O v H' z⟩
theorem VE.vp {f:FE} (h:VE X Z e f):VP X Z e (fV f):=.mk fun tm=>PE.weak (h tm) fun σ H Q ⟨ρ,O,q,I,hf,k⟩=>⟨ρ,O,fun t=>q (.vw t),I,hf,fun t hr v H' s z=>k (.vw t) hr v H' s ⟨I.same s,z⟩⟩
def QG (i:Nat):FE:=fun ρ Q=>match ρ[i]? with
 | some (some (t,false))=>Q t
 | _=>False
def KA (i:Nat):FE:=fun ρ Q=>match ρ[i]? with
 | some (some (t,_))=>Q t
 | _=>False
theorem aw (i:Nat) {x:Str} (hN:X.N[i]?=some x:=by rfl) (hv:rQ X.env.scope x:=by first | exact Or.inl rfl | exact Or.inr (Or.inl rfl) | exact Or.inr (Or.inr rfl)) (hd:gk x:=by decide)
  (iy:vR x:=by decide):VE X Z (.Name x pos) (QG i):=.mk fun tm=>PE.weak (cD hN hv hd iy) fun σ H Q ⟨ρ,O,q,I,hf,k⟩=>by
 unfold QG at hf
 split at hf
 · rename_i t e
   obtain ⟨o,s,h1,h2,rfl,v,rfl,h3⟩:=I.sl i _ e
   exact ⟨v,h2,k t hf v H (aM.refl H) h3⟩
 · exact hf.elim
theorem aa (i:Nat) {x:Str} (hN:X.N[i]?=some x:=by rfl) (hv:rQ X.env.scope x:=by first | exact Or.inl rfl | exact Or.inr (Or.inl rfl) | exact Or.inr (Or.inr rfl)) (hd:gk x:=by decide)
  (iy:vR x:=by decide):VR X Z (.Name x pos) (KA i):=.mk fun tm=>PE.weak (cD hN hv hd iy) fun σ H Q ⟨ρ,O,q,I,hf,k⟩=>by
 unfold KA at hf
 split at hf
 · rename_i t b e
   obtain ⟨o,s,h1,h2,h3⟩:=I.sl i _ e
   cases b with
   | false=>obtain ⟨rfl,v,rfl,h3⟩:=h3; exact ⟨v,h2,k t hf v H (aM.refl H) (.inl h3)⟩
   | true=>obtain ⟨a,rfl,rfl,h3⟩:=h3; exact ⟨_,h2,k t hf _ H (aM.refl H) (.inr ⟨a,rfl,h3⟩)⟩
 · exact hf.elim
def fC (t:T):FP:=fun _ Q=>Q (.vw t)
theorem DU {t:T} {v:V} (h:PE X e (tC v)) (ht:∀ H A,At X.K H A t v):VP X Z e (fC t):=.mk fun tm=>PE.weak h fun σ H Q ⟨ρ,O,q,I,hf,k⟩=>k _ hf v H (aM.refl H) ⟨I,ht _ _⟩
theorem ag {i j pos}:VP X Z (.Constant (.int i) j pos) (fC (.int i)):=DU LN fun _ _=>bx
theorem fM {i j pos}:VP X Z (.Constant (.bool i) j pos) (fC (.bl i)):=DU PL fun _ _=>cH
theorem ai {i j pos}:VP X Z (.Constant (.str i) j pos) (fC (.str i)):=DU LP fun _ _=>bF
theorem cJ {j pos}:VP X Z (.Constant .none j pos) (fC .bb):=DU LO fun _ _=>nz
theorem dv {x:Str} {t:T} {v:V} {u:Value} (hg:Gl X x) (hm:X.mg x=some u) (r:RelV v u) (ht:∀ H A,At X.K H A t v) (hd:gk x:=by decide):VP X Z (.Name x pos) (fC t):=DU (pk hg hm r hd) ht
def pX (K:PySem.W.Frag) (r:R2) (p:T→T→(Rt→Prop)→Prop):Prop :=
 ∀ (Z:Zc) (tm:List (T×V)) (O:List (Option Addr)) (ρ:En) (σ:St) (H:Hp) (x y:T) (v w:V) (q:Rt→Prop) (Q:VK),aA K Z tm O ρ σ H→iq K H (av Z O) x v→iq K H (av Z O) y w→p x y q →
  (∀ t,q t→∀ u H',aM H H'→jo K Z tm O ρ σ H' t u→Q u H')→r v w H Q
def f2 (fa fb:FE) (p:T→T→(Rt→Prop)→Prop):FP:=fun ρ Q=>fa ρ fun x=>fb ρ fun y=>p x y Q
theorem two {r:R2} {fa fb:FE} {p:T→T→(Rt→Prop)→Prop} (ho:pX X.K r p) {tm:List (T×V)}:∀ σ H Q,lP X Z tm (f2 fa fb p) σ H Q→P7 r (lR X Z tm fa) (lR X Z tm fb) σ H Q:=fun σ H Q ⟨ρ,O,q,I,hf,k⟩ =>
 ⟨ρ,O,fun x=>fb ρ fun y=>p x y q,I,hf,fun x hx v H1 s1 a1=>⟨ρ,O,fun y=>p x y q,I.same s1,hx,fun y hy w H2 s2 a2 =>
   ho Z tm O ρ σ H2 x y v w q Q ((I.same s1).same s2) (a1.same s2) a2 hy fun t ht u H' s a=>k t ht u H' ((s1.trans s2).trans s) a⟩⟩
theorem nA {op:Operator} {r:R2} {fa fb:FE} {p:T→T→(Rt→Prop)→Prop} (h:ff X (binaryOp op) r) (ho:pX X.K r p) (ha:VR X Z a fa) (hb:VR X Z b fb):VP X Z (.BinOp a op b pos) (f2 fa fb p) :=
 .mk fun tm=>PE.weak (Ks h (ha tm) (hb tm)) (two ho)
theorem uG {op:CmpOp} {r:R2} {fa fb:FE} {p:T→T→(Rt→Prop)→Prop} (h:ff X (compareOp op) r) (ho:pX X.K r p) (ha:VR X Z a fa) (hb:VR X Z b fb) (hm:behindInMarks op b=false):VP X Z (.Compare a [op] [b] pos) (f2 fa fb p) :=
 .mk fun tm=>PE.weak (Hc h (ha tm) (hb tm) hm) (two ho)
def pY (f:FP):FB:=fun ρ Q=>f ρ fun r=>match r with
 | .vw (.bl c)=>Q c
 | _=>False
theorem yC {r:Rt} {Q:Bool→Prop} (h:match r with | .vw (.bl c)=>Q c | _=>False):∃ c,r = .vw (.bl c)∧Q c:=by
 split at h
 · exact ⟨_,rfl,h⟩
 · exact h.elim
theorem jq {op:CmpOp} {r:R2} {fa fb:FE} {p:T→T→(Rt→Prop)→Prop} (h:ff X (compareOp op) r) (ho:pX X.K r p) (ha:VR X Z a fa) (hb:VR X Z b fb) (hm:behindInMarks op b=false):VC X Z (.Compare a [op] [b] pos) (pY (f2 fa fb p)) :=
 .mk fun tm=>PT.weak (He h (ha tm) (hb tm) hm) fun σ H Q ⟨ρ,O,q,I,hf,k⟩=>two ho σ H _ ⟨ρ,O,_,I,hf,fun t ht u H' s a=>by
  obtain ⟨c,rfl,hc⟩:=yC ht
  have e:=a.2
  simp only [At] at e
  exact ⟨c,e,k c hc H' s⟩⟩
theorem bY {f:FP} (h:VP X Z e f) (he:∀ whole,isTrue e X.env whole=(do let v ← whole; standAt e.pos; holding [v] (truthy v)):=by intro _; rfl):VC X Z e (pY f) :=
 .mk fun tm=>PT.weak (LQ (h tm) he) fun σ H Q ⟨ρ,O,q,I,hf,k⟩=>⟨ρ,O,_,I,hf,fun t ht u H' s a=>by
  obtain ⟨c,rfl,hc⟩:=yC ht
  have e:=a.2
  simp only [At] at e
  exact ⟨c,e,k c hc H' s⟩⟩
def VJ (f g:FB):FB:=fun ρ Q=>f ρ fun c=>if c=true then g ρ Q else Q false
def Zs (f g:FB):FB:=fun ρ Q=>f ρ fun c=>if c=true then Q true else g ρ Q
def VL (f:FB):FB:=fun ρ Q=>f ρ fun c=>Q (!c)
theorem VW.vc {f:FB} (h:VW X Z e f):VC X Z e f:=.mk fun tm=>PW.pt (h tm)
theorem dw {f:FB} (h:VC X Z a f):VW X Z (.BoolOp .And [a] pos) f:=.mk fun tm=>pw_and1 (h tm)
theorem cK {f:FB} (h:VC X Z a f):VW X Z (.BoolOp .Or [a] pos) f:=.mk fun tm=>pw_or1 (h tm)
theorem fj {rest:List Expr} {f g:FB} (h:VC X Z a f) (h':VW X Z (.BoolOp .And (b :: rest) pos) g):VW X Z (.BoolOp .And (a :: b :: rest) pos) (VJ f g) :=
 .mk fun tm=>PW.weak (pw_and (h tm) (h' tm)) fun σ H Q ⟨ρ,O,q,I,hf,k⟩=>⟨ρ,O,_,I,hf,fun c hc H1 s1=>by
  cases c with
  | true=>rw [if_pos rfl] at hc ⊢; exact ⟨ρ,O,q,I.same s1,hc,fun b hb H' s=>k b hb H' (s1.trans s)⟩
  | false=>rw [if_neg lh] at hc ⊢; exact k false hc H1 s1⟩
theorem dF {rest:List Expr} {f g:FB} (h:VC X Z a f) (h':VW X Z (.BoolOp .Or (b :: rest) pos) g):VW X Z (.BoolOp .Or (a :: b :: rest) pos) (Zs f g) :=
 .mk fun tm=>PW.weak (pw_or (h tm) (h' tm)) fun σ H Q ⟨ρ,O,q,I,hf,k⟩=>⟨ρ,O,_,I,hf,fun c hc H1 s1=>by
  cases c with
  | true=>rw [if_pos rfl] at hc ⊢; exact k true hc H1 s1
  | false=>rw [if_neg lh] at hc ⊢; exact ⟨ρ,O,q,I.same s1,hc,fun b hb H' s=>k b hb H' (s1.trans s)⟩⟩
theorem cf {f:FB} (h:VC X Z a f):VC X Z (.UnaryOp .Not a pos) (VL f) :=
 .mk fun tm=>PT.weak (LR (h tm)) fun σ H Q ⟨ρ,O,q,I,hf,k⟩=>⟨ρ,O,_,I,hf,fun c hc H1 s1=>k _ hc H1 s1⟩
def QH (f g:FP):FP:=fun ρ Q=>f ρ fun r=>match r with
 | .vw (.bl true)=>g ρ Q
 | .vw (.bl false)=>Q (.vw (.bl false))
 | _=>False
def VM (f g:FP):FP:=fun ρ Q=>f ρ fun r=>match r with
 | .vw (.bl true)=>Q (.vw (.bl true))
 | .vw (.bl false)=>g ρ Q
 | _=>False
def QI (f:FP):FP:=fun ρ Q=>f ρ fun r=>match r with
 | .vw (.bl c)=>Q (.vw (.bl (!c)))
 | _=>False
theorem nB {op} {f:FP} (h:VP X Z a f):VP X Z (.BoolOp op [a] pos) f:=.mk fun tm=>LS (h tm)
theorem nC {rest:List Expr} {f g:FP} (h:VP X Z a f) (h':VP X Z (.BoolOp .And (b :: rest) pos) g):VP X Z (.BoolOp .And (a :: b :: rest) pos) (QH f g) :=
 .mk fun tm=>PE.weak (LU (h tm) (h' tm)) fun σ H Q ⟨ρ,O,q,I,hf,k⟩=>⟨ρ,O,_,I,hf,fun r hr v H1 s1 z=>by
  split at hr
  · have e:=z.2; simp only [At] at e
    exact ⟨true,e,by rw [if_pos rfl]; exact ⟨ρ,O,q,I.same s1,hr,fun b hb v H' s=>k b hb v H' (s1.trans s)⟩⟩
  · have e:=z.2; simp only [At] at e
    exact ⟨false,e,by rw [if_neg lh]; exact k _ hr _ H1 s1 ⟨I.same s1,cH⟩⟩
  · exact hr.elim⟩
theorem KC {rest:List Expr} {f g:FP} (h:VP X Z a f) (h':VP X Z (.BoolOp .Or (b :: rest) pos) g):VP X Z (.BoolOp .Or (a :: b :: rest) pos) (VM f g) :=
 .mk fun tm=>PE.weak (PR (h tm) (h' tm)) fun σ H Q ⟨ρ,O,q,I,hf,k⟩=>⟨ρ,O,_,I,hf,fun r hr v H1 s1 z=>by
  split at hr
  · have e:=z.2; simp only [At] at e
    exact ⟨true,e,by rw [if_pos rfl]; exact k _ hr _ H1 s1 ⟨I.same s1,cH⟩⟩
  · have e:=z.2; simp only [At] at e
    exact ⟨false,e,by rw [if_neg lh]; exact ⟨ρ,O,q,I.same s1,hr,fun b hb v H' s=>k b hb v H' (s1.trans s)⟩⟩
  · exact hr.elim⟩
theorem MD {f:FP} (h:VP X Z a f):VP X Z (.UnaryOp .Not a pos) (QI f) :=
 .mk fun tm=>PE.weak (LV (h tm)) fun σ H Q ⟨ρ,O,q,I,hf,k⟩=>⟨ρ,O,_,I,hf,fun r hr v H1 s1 z=>by
  split at hr
  · have e:=z.2; simp only [At] at e
    exact ⟨_,e,k _ hr _ H1 s1 ⟨I.same s1,cH⟩⟩
  · exact hr.elim⟩
def DV:FA:=fun _ Q=>Q []
def wu (f:FE) (g:FA):FA:=fun ρ Q=>f ρ fun t=>g ρ fun ts=>Q (t :: ts)
theorem ak:VA X Z [] DV:=.mk fun tm=>PA.weak cb fun σ H Q ⟨ρ,O,q,I,hf,k⟩=>k _ hf [] H (aM.refl H) aI.nil
theorem ae {f:FE} {g:FA} (h:VE X Z e f) (h':VA X Z es g) (hs:starEach (e :: es) X.env=(false,eval e X.env) :: starEach es X.env:=by rfl):VA X Z (e :: es) (wu f g) :=
 .mk fun tm=>PA.weak (ba (h tm) (h' tm) hs) fun σ H Q ⟨ρ,O,q,I,hf,k⟩=>⟨ρ,O,_,I,hf,fun t ht v H1 s1 a1=>⟨ρ,O,_,I.same s1,ht,fun ts gG vs H2 s2 a2=>k _ gG _ H2 (s1.trans s2) (aI.cons (a1.same s2) a2)⟩⟩
theorem ay:GF X Z [] DV:=.mk fun tm=>PA.weak cb fun σ H Q ⟨ρ,O,q,I,hf,k⟩=>k _ hf [] H (aM.refl H) .nil
theorem aq {f:FE} {g:FA} (h:VR X Z e f) (h':GF X Z es g) (hs:starEach (e :: es) X.env=(false,eval e X.env) :: starEach es X.env:=by rfl):GF X Z (e :: es) (wu f g) :=
 .mk fun tm=>PA.weak (ba (h tm) (h' tm) hs) fun σ H Q ⟨ρ,O,q,I,hf,k⟩=>⟨ρ,O,_,I,hf,fun t ht v H1 s1 a1=>⟨ρ,O,_,I.same s1,ht,fun ts gG vs H2 s2 a2=>k _ gG _ H2 (s1.trans s2) (.cons (a1.same s2) a2)⟩⟩
def VN (g:FA):FP:=fun ρ Q=>g ρ fun ts=>ts.length≤sizeLine∧Q (.vw (.tup ts))
def VQ (g:FA):FP:=fun ρ Q=>g ρ fun ts=>ts.length≤sizeLine∧Q (.fr (.lst ts))
theorem aY {g:FA} {x1} (h:VA X Z es g):VP X Z (.Tuple es x1 pos) (VN g) :=
 .mk fun tm=>PE.weak (DF (h tm)) fun σ H Q ⟨ρ,O,q,I,hf,k⟩=>⟨ρ,O,_,I,hf,fun ts gG vs H1 s1 a1=>⟨by rw [a1.length]; exact gG.1,fun p hp=>k _ gG.2 _ _ (s1.trans (aS hp)) ⟨(I.same s1).same (aS hp),bu (dY.of aQ) (a1.same (aS hp))⟩⟩⟩
theorem bt {g:FA} (h:VA X Z es g):VP X Z (.List es pos) (VQ g) :=
 .mk fun tm=>PE.weak (Me (h tm)) fun σ H Q ⟨ρ,O,q,I,hf,k⟩=>⟨ρ,O,_,I,hf,fun ts gG vs H1 s1 a1=>⟨by rw [a1.length]; exact gG.1,fun p hp=>k _ gG.2 _ _ (s1.trans (aS hp)) ((I.same s1).BK hp a1)⟩⟩
end
mutual
def eqT:T→T→Bool
 | .bb,.bb=>true
 | .bl a,.bl b=>a == b
 | .bl a,.int b=>(if a then 1 else 0) == b
 | .int a,.bl b=>a == (if b then 1 else 0)
 | .int a,.int b=>a == b
 | .str a,.str b=>a == b
 | .tup a,.tup b=>gH a b
 | .lst a,.lst b=>gH a b
 | _,_=>false
def gH:List T→List T→Bool
 | [],[]=>true
 | a :: as,b :: bs=>eqT a b && gH as bs
 | _,_=>false
end
mutual
def plainT:T→Bool
 | .tup l=>bC l
 | .lst l=>bC l
 | .dk _ _=>false
 | .dt _ _=>false
 | .df _ _ _=>false
 | .dz _ _ _=>false
 | .kt _=>false
 | .ins _ _ _=>false
 | .pin _ _=>false
 | .ob _=>false
 | .ty _=>false
 | _=>true
def bC:List T→Bool
 | []=>true
 | t :: ts=>plainT t && bC ts
end
mutual
def dep:T→Nat
 | .tup l=>gI l+1
 | .lst l=>gI l+1
 | _=>0
def gI:List T→Nat
 | []=>0
 | t :: ts=>max (dep t) (gI ts)
end
mutual
theorem c_:∀ (t:T),plainT t=true→eqT t t=true
 | .bb,_=>by simp [eqT]
 | .bl _,_=>by simp [eqT]
 | .int _,_=>by simp [eqT]
 | .str _,_=>by simp [eqT]
 | .tup l,h=>by simp only [plainT] at h; simp only [eqT]; exact nD l h
 | .lst l,h=>by simp only [plainT] at h; simp only [eqT]; exact nD l h
 | .dk _ _,h=>by simp only [plainT] at h; cases h
 | .dt _ _,h=>by simp only [plainT] at h; cases h
 | .df _ _ _,h=>by simp only [plainT] at h; cases h
 | .dz _ _ _,h=>by simp only [plainT] at h; cases h
 | .kt _,h=>by simp only [plainT] at h; cases h
 | .ins _ _ _,h=>by simp only [plainT] at h; cases h
 | .pin _ _,h=>by simp only [plainT] at h; cases h
 | .ob _,h=>by simp only [plainT] at h; cases h
 | .ty _,h=>by simp only [plainT] at h; cases h
theorem nD:∀ (t:List T),bC t=true→gH t t=true
 | [],_=>by simp [gH]
 | t :: ts,h=>by
   simp only [bC,gT] at h
   simp only [gH,gT]
   exact ⟨c_ t h.1,nD ts h.2⟩
end
theorem jr:∀ {a b:List T},gH a b=true→a.length=b.length
 | [],[],_=>rfl
 | a :: as,b :: bs,h=>by simp only [gH,gT] at h; simp [jr h.2]
 | [],_ :: _,h=>by simp [gH] at h
 | _ :: _,[],h=>by simp [gH] at h
theorem jt:∀ {a b:List T},a.length=b.length→gH a b=(List.range a.length).all fun j=>match a[j]?,b[j]? with
  | some x,some y=>eqT x y
  | _,_=>true
 | [],[],_=>by simp [gH]
 | a :: as,b :: bs,h=>by
   have ih:=jt (a:=as) (b:=bs) (by simpa using h)
   simp only [gH]
   rw [ih,GU,List.range_succ_eq_map,Km,LD]
   rfl
 | [],_ :: _,h=>by simp at h
 | _ :: _,[],h=>by simp at h
theorem pZ:∀ {a b:List T},gH a b=((List.range (min a.length b.length)).all (fun j=>match a[j]?,b[j]? with
  | some x,some y=>eqT x y
  | _,_=>true) && a.length == b.length)
 | a,b=>by
   by_cases h:a.length=b.length
   · rw [jt h,h,Nat.min_self]; simp
   · have e:(a.length == b.length)=false:=by simpa using h
     rw [e,OU]
     cases q:gH a b with
     | false=>rfl
     | true=>exact absurd (jr q) h
section
variable {X:Cx} {pins:List (Addr×Obj)} {σ:St} {H:Hp} {s:Shared} {O O':List Addr}
theorem wx (I:Inv X pins σ H s) {a:Addr} {xs ys:List V} (h:gm X.K H a xs) (h':dY X.K H a ys):False:=by
 obtain ⟨aP,_,p,_⟩:=I.list h
 obtain ⟨fz,_,p2,_⟩:=I.tuple h'
 obtain ⟨o,n,e,c,_⟩:=p
 obtain ⟨o2,e2,c2,_⟩:=p2
 rw [e] at e2
 cases e2
 rw [c] at c2
 injection c2 with c2
 exact absurd c2 (by decide)
mutual
theorem At.inj (I:Inv X pins σ H s):∀ {t u:T} {v:V},plainT t=true→plainT u=true→At X.K H O t v→At X.K H O' u v→t=u
 | .bb,u,v,_,pu,h,h'=>by
   simp only [At] at h; subst h
   cases u <;> simp only [At] at h' <;> first | rfl | (simp only [plainT] at pu; cases pu; done) | (obtain ⟨_,_,e,_⟩:=h'; cases e) | (cases h'; done)
 | .bl b,u,v,_,pu,h,h'=>by
   simp only [At] at h; subst h
   cases u <;> simp only [At] at h' <;> first | (simp only [plainT] at pu; cases pu; done) | (obtain ⟨_,_,e,_⟩:=h'; cases e; done) | (cases h'; rfl) | (cases h'; done)
 | .int b,u,v,_,pu,h,h'=>by
   simp only [At] at h; subst h
   cases u <;> simp only [At] at h' <;> first | (simp only [plainT] at pu; cases pu; done) | (obtain ⟨_,_,e,_⟩:=h'; cases e; done) | (cases h'; rfl) | (cases h'; done)
 | .str b,u,v,_,pu,h,h'=>by
   simp only [At] at h; subst h
   cases u <;> simp only [At] at h' <;> first | (simp only [plainT] at pu; cases pu; done) | (obtain ⟨_,_,e,_⟩:=h'; cases e; done) | (cases h'; rfl) | (cases h'; done)
 | .dk _ _,_,_,p,_,_,_=>by simp only [plainT] at p; cases p
 | .dt _ _,_,_,p,_,_,_=>by simp only [plainT] at p; cases p
 | .df _ _ _,_,_,p,_,_,_=>by simp only [plainT] at p; cases p
 | .dz _ _ _,_,_,p,_,_,_=>by simp only [plainT] at p; cases p
 | .kt _,_,_,p,_,_,_=>by simp only [plainT] at p; cases p
 | .ins _ _ _,_,_,p,_,_,_=>by simp only [plainT] at p; cases p
 | .pin _ _,_,_,p,_,_,_=>by simp only [plainT] at p; cases p
 | .ob _,_,_,p,_,_,_=>by simp only [plainT] at p; cases p
 | .ty _,_,_,p,_,_,_=>by simp only [plainT] at p; cases p
 | .tup ts,u,v,p,pu,h,h'=>by
   simp only [At] at h
   obtain ⟨a,vs,rfl,h1,h2⟩:=h
   cases u with
   | tup us =>
     simp only [At] at h'
     obtain ⟨b,ws,e,g1,g2⟩:=h'
     cases e
     cases I.m_ h1 g1
     simp only [plainT] at p pu
     rw [aI.inj I p pu h2 g2]
   | lst us =>
     simp only [At] at h'
     obtain ⟨b,ws,e,g1,g2⟩:=h'
     cases e
     exact (wx I g1.sq h1).elim
   | dk _ _=>simp only [plainT] at pu; cases pu
   | dt _ _=>simp only [plainT] at pu; cases pu
   | df _ _ _=>simp only [plainT] at pu; cases pu
   | dz _ _ _=>simp only [plainT] at pu; cases pu
   | kt _=>simp only [plainT] at pu; cases pu
   | ins _ _ _=>simp only [plainT] at pu; cases pu
   | pin _ _=>simp only [plainT] at pu; cases pu
   | ob _=>simp only [plainT] at pu; cases pu
   | ty _=>simp only [plainT] at pu; cases pu
   | _=>simp only [At] at h'; cases h'
 | .lst ts,u,v,p,pu,h,h'=>by
   simp only [At] at h
   obtain ⟨a,vs,rfl,h1,h2⟩:=h
   cases u with
   | lst us =>
     simp only [At] at h'
     obtain ⟨b,ws,e,g1,g2⟩:=h'
     cases e
     cases I.lq h1.sq g1.sq
     simp only [plainT] at p pu
     rw [aI.inj I p pu h2 g2]
   | tup us =>
     simp only [At] at h'
     obtain ⟨b,ws,e,g1,g2⟩:=h'
     cases e
     exact (wx I h1.sq g1).elim
   | dk _ _=>simp only [plainT] at pu; cases pu
   | dt _ _=>simp only [plainT] at pu; cases pu
   | df _ _ _=>simp only [plainT] at pu; cases pu
   | dz _ _ _=>simp only [plainT] at pu; cases pu
   | kt _=>simp only [plainT] at pu; cases pu
   | ins _ _ _=>simp only [plainT] at pu; cases pu
   | pin _ _=>simp only [plainT] at pu; cases pu
   | ob _=>simp only [plainT] at pu; cases pu
   | ty _=>simp only [plainT] at pu; cases pu
   | _=>simp only [At] at h'; cases h'
theorem aI.inj (I:Inv X pins σ H s):∀ {ts us:List T} {vs:List V},bC ts=true→bC us=true→aI X.K H O ts vs→aI X.K H O' us vs→ts=us
 | [],[],_,_,_,_,_=>rfl
 | [],_ :: _,_,_,_,h,h'=>by simp only [aI] at h h'; subst h; obtain ⟨_,_,e,_⟩:=h'; cases e
 | _ :: _,[],_,_,_,h,h'=>by simp only [aI] at h h'; subst h'; obtain ⟨_,_,e,_⟩:=h; cases e
 | t :: ts,u :: us,_,p,pu,h,h'=>by
   simp only [aI] at h h'
   simp only [bC,gT] at p pu
   obtain ⟨v,r,rfl,h1,h2⟩:=h
   obtain ⟨v',r',e,g1,g2⟩:=h'
   cases e
   rw [At.inj I p.1 pu.1 h1 g1,aI.inj I p.2 pu.2 h2 g2]
end
theorem iD:∀ {ts:List T} {j:Nat} {x:T},ts[j]?=some x→dep x≤gI ts
 | [],_,_,h=>by simp at h
 | t :: ts,0,x,h=>by simp at h; subst h; simp only [gI]; omega
 | t :: ts,j+1,x,h=>by have:=iD (ts:=ts) (j:=j) (x:=x) (by simpa using h); simp only [gI]; omega
theorem bz:∀ {ts:List T} {j:Nat} {x:T},bC ts=true→ts[j]?=some x→plainT x=true
 | [],_,_,_,h=>by simp at h
 | t :: ts,0,x,p,h=>by simp at h; subst h; simp only [bC,gT] at p; exact p.1
 | t :: ts,j+1,x,p,h=>by simp only [bC,gT] at p; exact bz (ts:=ts) (j:=j) p.2 (by simpa using h)
theorem in1_units (A:Around):A.in1.units=A.units+1:=by
 first | rfl | simp [Around.in1,Around.units]
theorem gY (I:Inv X pins σ H s) {ts us:List T} {vs ws:List V} {aP fz:List Value} {A:Around} (h1:aI X.K H O ts vs) (h2:aI X.K H O' us ws) (r1:Vals vs aP) (r2:Vals ws fz)
  (key:∀ (j:Nat) x y v w u u',ts[j]?=some x→us[j]?=some y→At X.K H O x v→At X.K H O' y w→RelV v u→RelV w u'→SeqAt.EqAt A s u u' (eqT x y)) :
  ∀ (j:Nat) (g1:j < aP.toArray.size) (g2:j < fz.toArray.size),SeqAt.EqAt A s aP.toArray[j] fz.toArray[j] (match ts[j]?,us[j]? with
   | some x,some y=>eqT x y
   | _,_=>true):=fun j g1 g2=>by
 have l1:=h1.length
 have l2:=h2.length
 have m1:=r1.length
 have m2:=r2.length
 simp only [ir] at g1 g2
 have e1:ts[j]?=some (ts[j]'(by omega)):=by simp
 have e2:us[j]?=some (us[j]'(by omega)):=by simp
 obtain ⟨v,a1,a2⟩:=h1.get e1
 obtain ⟨w,b1,b2⟩:=h2.get e2
 obtain ⟨u,c1,c2⟩:=r1.get a1
 obtain ⟨u',d1,d2⟩:=r2.get b1
 have f1:aP.toArray[j]=u:=by rw [sR (by omega)] at c1; simpa using c1
 have f2:fz.toArray[j]=u':=by rw [sR (by omega)] at d1; simpa using d1
 rw [f1,f2,e1,e2]
 exact key j _ _ v w u u' e1 e2 a2 b2 c2 d2
theorem kF {O:List Addr} (I:Inv X pins σ H s) {u:T} {w:V} {b:Value} (pu:plainT u=true) (hw:At X.K H O u w) (r:RelV w b):(u = .bb∧b = .none)∨(∃ c,u = .bl c∧b = .bool c)∨(∃ c t,u = .int c∧b = .int c t)∨(∃ c t,u = .str c∧b = .str c t)∨(∃ l p xs,u = .tup l∧b = .ref p∧s.heap.IsTuple p xs)∨∃ l p xs,u = .lst l∧b = .ref p∧s.heap.IsList p xs:=by
 cases u with
 | tup l=>simp only [At] at hw; obtain ⟨p,ws,rfl,q,_⟩:=hw; cases r; obtain ⟨_,_,p1,_⟩:=I.tuple q; exact .inr (.inr (.inr (.inr (.inl ⟨l,p,_,rfl,rfl,p1⟩))))
 | lst l=>simp only [At] at hw; obtain ⟨p,ws,rfl,q,_⟩:=hw; cases r; obtain ⟨_,_,p1,_⟩:=I.list q.sq; exact .inr (.inr (.inr (.inr (.inr ⟨l,p,_,rfl,rfl,p1.isList⟩))))
 | bb=>simp only [At] at hw; subst hw; cases r; exact .inl ⟨rfl,rfl⟩
 | bl c=>simp only [At] at hw; subst hw; cases r; exact .inr (.inl ⟨c,rfl,rfl⟩)
 | int c=>simp only [At] at hw; subst hw; obtain ⟨t,rfl⟩:=r; exact .inr (.inr (.inl ⟨c,t,rfl,rfl⟩))
 | str c=>simp only [At] at hw; subst hw; obtain ⟨t,rfl⟩:=r; exact .inr (.inr (.inr (.inl ⟨c,t,rfl,rfl⟩)))
 | _=>simp only [plainT] at pu; cases pu
theorem uH (I:Inv X pins σ H s):∀ (n:Nat) (t u:T) (v w:V) (a b:Value) (A:Around),dep t≤n→A.units+n < cLine→plainT t=true→plainT u=true→At X.K H O t v→At X.K H O' u w→RelV v a→RelV w b→SeqAt.EqAt A s a b (eqT t u):=by
 intro n
 induction n with
 | zero =>
   intro t u v w a b A hd hu pt pu ht hw rv rw'
   have cT:A.units < cLine:=by omega
   rcases kF I pt ht rv with ⟨rfl,rfl⟩ | ⟨d,rfl,rfl⟩ | ⟨d,t',rfl,rfl⟩ | ⟨d,t',rfl,rfl⟩ | ⟨l,p,xs,rfl,_⟩ | ⟨l,p,xs,rfl,_⟩
   · rcases kF I pu hw rw' with ⟨rfl,rfl⟩ | ⟨c,rfl,rfl⟩ | ⟨c,t,rfl,rfl⟩ | ⟨c,t,rfl,rfl⟩ | ⟨l,p,xs,rfl,rfl,h⟩ | ⟨l,p,xs,rfl,rfl,h⟩ <;> simp only [eqT]
     · exact SeqAt.EqAt.same _
     · exact SeqAt.EqAt.none_bool c
     · exact SeqAt.EqAt.none_int c t
     · exact SeqAt.EqAt.none_str c t
     · exact SeqAt.EqAt.none_tuple h cT
     · exact SeqAt.EqAt.none_list h cT
   · rcases kF I pu hw rw' with ⟨rfl,rfl⟩ | ⟨c,rfl,rfl⟩ | ⟨c,t,rfl,rfl⟩ | ⟨c,t,rfl,rfl⟩ | ⟨l,p,xs,rfl,rfl,h⟩ | ⟨l,p,xs,rfl,rfl,h⟩ <;> simp only [eqT]
     · exact SeqAt.EqAt.bool_none d
     · exact SeqAt.EqAt.bool_bool d c
     · exact SeqAt.EqAt.bool_int d c t
     · exact SeqAt.EqAt.bool_str d c t
     · exact SeqAt.EqAt.bool_tuple d h cT
     · exact SeqAt.EqAt.bool_list d h cT
   · rcases kF I pu hw rw' with ⟨rfl,rfl⟩ | ⟨c,rfl,rfl⟩ | ⟨c,t,rfl,rfl⟩ | ⟨c,t,rfl,rfl⟩ | ⟨l,p,xs,rfl,rfl,h⟩ | ⟨l,p,xs,rfl,rfl,h⟩ <;> simp only [eqT]
     · exact SeqAt.EqAt.int_none d t'
     · exact SeqAt.EqAt.int_bool d t' c
     · exact SeqAt.EqAt.int_int d t' c t
     · exact SeqAt.EqAt.int_str d t' c t
     · exact SeqAt.EqAt.int_tuple d t' h cT
     · exact SeqAt.EqAt.int_list d t' h cT
   · rcases kF I pu hw rw' with ⟨rfl,rfl⟩ | ⟨c,rfl,rfl⟩ | ⟨c,t,rfl,rfl⟩ | ⟨c,t,rfl,rfl⟩ | ⟨l,p,xs,rfl,rfl,h⟩ | ⟨l,p,xs,rfl,rfl,h⟩ <;> simp only [eqT]
     · exact SeqAt.EqAt.str_none d t'
     · exact SeqAt.EqAt.str_bool d t' c
     · exact SeqAt.EqAt.str_int d t' c t
     · exact SeqAt.EqAt.str_str d t' c t
     · exact SeqAt.EqAt.str_tuple d t' h cT
     · exact SeqAt.EqAt.str_list d t' h cT
   · simp only [dep] at hd; omega
   · simp only [dep] at hd; omega
 | succ n ih =>
   intro t u v w a b A hd hu pt pu ht hw rv rw'
   by_cases h0:dep t≤n
   · exact ih t u v w a b A h0 (by omega) pt pu ht hw rv rw'
   · have cT:A.units < cLine:=by omega
     have vV:A.in1.units+n < cLine:=by rw [in1_units]; omega
     cases t with
     | tup l =>
       simp only [plainT] at pt
       simp only [dep] at hd
       have VU:=ht
       simp only [At] at ht
       obtain ⟨p,vs,rfl,h1,h2⟩:=ht
       cases rv
       obtain ⟨aP,r1,p1,_⟩:=I.tuple h1
       cases u with
       | tup l' =>
         have VY:=hw
         simp only [At] at hw
         obtain ⟨p',ws,rfl,g1,g2⟩:=hw
         cases rw'
         simp only [plainT] at pu
         by_cases e:p=p'
         · subst e
           have:=At.inj I (t:=.tup l) (u:=.tup l') (by simp only [plainT]; exact pt) (by simp only [plainT]; exact pu) VU VY
           rw [← this,c_ _ (by simp only [plainT]; exact pt)]
           exact SeqAt.EqAt.same _
         · obtain ⟨fz,r2,p2,_⟩:=I.tuple g1
           refine SeqAt.EqAt.of_refs e ?_
           have:=SeqAt.RcAt.tuples (A:=A) p1 p2 cT (gY I h2 g2 r1 r2 fun j x y v w u u' e1 e2 a1 a2 b1 b2=>ih x y v w u u' A.in1 (oq (iD e1) (by omega)) vV (bz pt e1) (bz pu e2) a1 a2 b1 b2)
           simp only [eqT]
           rw [pZ]
           have e1:=r1.length
           have e2:=r2.length
           have e3:=h2.length
           have e4:=g2.length
           simp only [ir] at this
           rw [← e1,← e2,e3,e4] at this
           exact this
       | _ =>
         rcases kF I pu hw rw' with ⟨e,rfl⟩ | ⟨c,e,rfl⟩ | ⟨c,t,e,rfl⟩ | ⟨c,t,e,rfl⟩ | ⟨l,p,xs,e,rfl,h⟩ | ⟨l,p,xs,e,rfl,h⟩ <;> cases e <;> simp only [eqT]
         all_goals first | exact SeqAt.EqAt.tuple_none p1 cT | exact SeqAt.EqAt.tuple_bool _ p1 cT | exact SeqAt.EqAt.tuple_int _ _ p1 cT | exact SeqAt.EqAt.tuple_str _ _ p1 cT | exact SeqAt.EqAt.tuple_list p1 (by assumption) cT
     | lst l =>
       simp only [plainT] at pt
       simp only [dep] at hd
       have VU:=ht
       simp only [At] at ht
       obtain ⟨p,vs,rfl,h1,h2⟩:=ht
       cases rv
       obtain ⟨aP,r1,p1,_⟩:=I.list h1.sq
       cases u with
       | lst l' =>
         have VY:=hw
         simp only [At] at hw
         obtain ⟨p',ws,rfl,g1,g2⟩:=hw
         cases rw'
         simp only [plainT] at pu
         by_cases e:p=p'
         · subst e
           have:=At.inj I (t:=.lst l) (u:=.lst l') (by simp only [plainT]; exact pt) (by simp only [plainT]; exact pu) VU VY
           rw [← this,c_ _ (by simp only [plainT]; exact pt)]
           exact SeqAt.EqAt.same _
         · obtain ⟨fz,r2,p2,_⟩:=I.list g1.sq
           refine SeqAt.EqAt.of_refs e ?_
           have e1:=r1.length
           have e2:=r2.length
           have e3:=h2.length
           have e4:=g2.length
           by_cases hl:l.length=l'.length
           · have:=SeqAt.RcAt.lists (A:=A) p1.isList p2.isList (by simp only [ir]; omega) cT (gY I h2 g2 r1 r2 fun j x y v w u u' e1 e2 a1 a2 b1 b2=>ih x y v w u u' A.in1 (oq (iD e1) (by omega)) vV (bz pt e1) (bz pu e2) a1 a2 b1 b2)
             simp only [eqT]
             rw [jt hl]
             simp only [ir] at this
             rw [← e1,e3] at this
             exact this
           · simp only [eqT]
             have:gH l l'=false:=by
              cases q:gH l l' with
              | false=>rfl
              | true=>exact absurd (jr q) hl
             rw [this]
             exact SeqAt.RcAt.lists_lengths p1.isList p2.isList (by simp only [ir]; rw [bne_iff_ne]; omega) cT
       | _ =>
         rcases kF I pu hw rw' with ⟨e,rfl⟩ | ⟨c,e,rfl⟩ | ⟨c,t,e,rfl⟩ | ⟨c,t,e,rfl⟩ | ⟨l,p,xs,e,rfl,h⟩ | ⟨l,p,xs,e,rfl,h⟩ <;> cases e <;> simp only [eqT]
         all_goals first | exact SeqAt.EqAt.list_none p1.isList cT | exact SeqAt.EqAt.list_bool _ p1.isList cT | exact SeqAt.EqAt.list_int _ _ p1.isList cT | exact SeqAt.EqAt.list_str _ _ p1.isList cT | exact SeqAt.EqAt.list_tuple p1.isList (by assumption) cT
     | _=>exact absurd (ph n) h0
end
section
variable {X:Cx} {pins:List (Addr×Obj)} {σ:St} {H:Hp} {s:Shared} {O O':List Addr}
theorem ME (I:Inv X pins σ H s) (t u:T) (v w:V) (a b:Value) (A:Around) (hd:dep t≤100) (hu:A.units+101 < cLine) (pt:plainT t=true) (pu:plainT u=true) (ht:At X.K H O t v) (hw:At X.K H O' u w) (rv:RelV v a) (rw':RelV w b):SeqAt.RcAt A s a b (eqT t u):=by
 have cT:A.units < cLine:=by omega
 have vV:A.in1.units+100 < cLine:=by rw [in1_units]; omega
 cases t with
 | bb =>
   simp only [At] at ht; subst ht; cases rv
   cases u with
   | bb =>
     simp only [At] at hw; subst hw; cases rw'
     simp only [eqT]
     exact SeqAt.RcAt.none_none
   | bl c =>
     simp only [At] at hw; subst hw; cases rw'
     simp only [eqT]
     exact SeqAt.RcAt.none_bool c
   | int c =>
     simp only [At] at hw; subst hw; obtain ⟨t2,rfl⟩:=rw'
     simp only [eqT]
     exact SeqAt.RcAt.none_int c t2
   | str c =>
     simp only [At] at hw; subst hw; obtain ⟨t2,rfl⟩:=rw'
     simp only [eqT]
     exact SeqAt.RcAt.none_str c t2
   | tup l=>simp only [At] at hw; obtain ⟨p,ws,rfl,q,_⟩:=hw; cases rw'; obtain ⟨_,_,p1,_⟩:=I.tuple q; simp only [eqT]; exact SeqAt.RcAt.none_tuple p1 cT
   | lst l=>simp only [At] at hw; obtain ⟨p,ws,rfl,q,_⟩:=hw; cases rw'; obtain ⟨_,_,p1,_⟩:=I.list q.sq; simp only [eqT]; exact SeqAt.RcAt.none_list p1.isList cT
   | _=>simp only [plainT] at pu; cases pu
 | bl d =>
   simp only [At] at ht; subst ht; cases rv
   cases u with
   | bb =>
     simp only [At] at hw; subst hw; cases rw'
     simp only [eqT]
     exact SeqAt.RcAt.bool_none d
   | bl c =>
     simp only [At] at hw; subst hw; cases rw'
     simp only [eqT]
     exact SeqAt.RcAt.bool_bool d c
   | int c =>
     simp only [At] at hw; subst hw; obtain ⟨t2,rfl⟩:=rw'
     simp only [eqT]
     exact SeqAt.RcAt.bool_int d c t2
   | str c =>
     simp only [At] at hw; subst hw; obtain ⟨t2,rfl⟩:=rw'
     simp only [eqT]
     exact SeqAt.RcAt.bool_str d c t2
   | tup l=>simp only [At] at hw; obtain ⟨p,ws,rfl,q,_⟩:=hw; cases rw'; obtain ⟨_,_,p1,_⟩:=I.tuple q; simp only [eqT]; exact SeqAt.RcAt.bool_tuple d p1 cT
   | lst l=>simp only [At] at hw; obtain ⟨p,ws,rfl,q,_⟩:=hw; cases rw'; obtain ⟨_,_,p1,_⟩:=I.list q.sq; simp only [eqT]; exact SeqAt.RcAt.bool_list d p1.isList cT
   | _=>simp only [plainT] at pu; cases pu
 | int d =>
   simp only [At] at ht; subst ht; obtain ⟨t1,rfl⟩:=rv
   cases u with
   | bb =>
     simp only [At] at hw; subst hw; cases rw'
     simp only [eqT]
     exact SeqAt.RcAt.int_none d t1
   | bl c =>
     simp only [At] at hw; subst hw; cases rw'
     simp only [eqT]
     exact SeqAt.RcAt.int_bool d t1 c
   | int c =>
     simp only [At] at hw; subst hw; obtain ⟨t2,rfl⟩:=rw'
     simp only [eqT]
     exact SeqAt.RcAt.int_int d t1 c t2
   | str c =>
     simp only [At] at hw; subst hw; obtain ⟨t2,rfl⟩:=rw'
     simp only [eqT]
     exact SeqAt.RcAt.int_str d t1 c t2
   | tup l=>simp only [At] at hw; obtain ⟨p,ws,rfl,q,_⟩:=hw; cases rw'; obtain ⟨_,_,p1,_⟩:=I.tuple q; simp only [eqT]; exact SeqAt.RcAt.int_tuple d t1 p1 cT
   | lst l=>simp only [At] at hw; obtain ⟨p,ws,rfl,q,_⟩:=hw; cases rw'; obtain ⟨_,_,p1,_⟩:=I.list q.sq; simp only [eqT]; exact SeqAt.RcAt.int_list d t1 p1.isList cT
   | _=>simp only [plainT] at pu; cases pu
 | str d =>
   simp only [At] at ht; subst ht; obtain ⟨t1,rfl⟩:=rv
   cases u with
   | bb =>
     simp only [At] at hw; subst hw; cases rw'
     simp only [eqT]
     exact SeqAt.RcAt.str_none d t1
   | bl c =>
     simp only [At] at hw; subst hw; cases rw'
     simp only [eqT]
     exact SeqAt.RcAt.str_bool d t1 c
   | int c =>
     simp only [At] at hw; subst hw; obtain ⟨t2,rfl⟩:=rw'
     simp only [eqT]
     exact SeqAt.RcAt.str_int d t1 c t2
   | str c =>
     simp only [At] at hw; subst hw; obtain ⟨t2,rfl⟩:=rw'
     simp only [eqT]
     exact SeqAt.RcAt.str_str d t1 c t2
   | tup l=>simp only [At] at hw; obtain ⟨p,ws,rfl,q,_⟩:=hw; cases rw'; obtain ⟨_,_,p1,_⟩:=I.tuple q; simp only [eqT]; exact SeqAt.RcAt.str_tuple d t1 p1 cT
   | lst l=>simp only [At] at hw; obtain ⟨p,ws,rfl,q,_⟩:=hw; cases rw'; obtain ⟨_,_,p1,_⟩:=I.list q.sq; simp only [eqT]; exact SeqAt.RcAt.str_list d t1 p1.isList cT
   | _=>simp only [plainT] at pu; cases pu
 | tup l =>
   simp only [plainT] at pt
   simp only [dep] at hd
   simp only [At] at ht
   obtain ⟨p,vs,rfl,h1,h2⟩:=ht
   cases rv
   obtain ⟨aP,r1,p1,_⟩:=I.tuple h1
   cases u with
   | bb =>
     simp only [At] at hw; subst hw; cases rw'
     simp only [eqT]
     exact SeqAt.RcAt.tuple_none p1 cT
   | bl c =>
     simp only [At] at hw; subst hw; cases rw'
     simp only [eqT]
     exact SeqAt.RcAt.tuple_bool c p1 cT
   | int c =>
     simp only [At] at hw; subst hw; obtain ⟨t2,rfl⟩:=rw'
     simp only [eqT]
     exact SeqAt.RcAt.tuple_int c t2 p1 cT
   | str c =>
     simp only [At] at hw; subst hw; obtain ⟨t2,rfl⟩:=rw'
     simp only [eqT]
     exact SeqAt.RcAt.tuple_str c t2 p1 cT
   | tup l' =>
     simp only [At] at hw
     obtain ⟨p',ws,rfl,g1,g2⟩:=hw
     cases rw'
     obtain ⟨fz,r2,p2,_⟩:=I.tuple g1
     simp only [eqT]
     simp only [plainT] at pu
     have e1:=r1.length
     have e2:=r2.length
     have e3:=h2.length
     have e4:=g2.length
     have:=SeqAt.RcAt.tuples (A:=A) p1 p2 cT (gY I h2 g2 r1 r2 fun j x y v w u u' e1 e2 a1 a2 b1 b2=>uH I 100 x y v w u u' A.in1 (oq (iD e1) (by omega)) vV (bz pt e1) (bz pu e2) a1 a2 b1 b2)
     simp only [ir] at this
     rw [← e1,← e2,e3,e4] at this
     rw [pZ]
     exact this
   | lst l' =>
     simp only [At] at hw
     obtain ⟨p',ws,rfl,g1,g2⟩:=hw
     cases rw'
     obtain ⟨fz,r2,p2,_⟩:=I.list g1.sq
     simp only [eqT]
     exact SeqAt.RcAt.tuple_list p1 p2.isList cT
   | _=>simp only [plainT] at pu; cases pu
 | lst l =>
   simp only [plainT] at pt
   simp only [dep] at hd
   simp only [At] at ht
   obtain ⟨p,vs,rfl,h1,h2⟩:=ht
   cases rv
   obtain ⟨aP,r1,p1,_⟩:=I.list h1.sq
   cases u with
   | bb =>
     simp only [At] at hw; subst hw; cases rw'
     simp only [eqT]
     exact SeqAt.RcAt.list_none p1.isList cT
   | bl c =>
     simp only [At] at hw; subst hw; cases rw'
     simp only [eqT]
     exact SeqAt.RcAt.list_bool c p1.isList cT
   | int c =>
     simp only [At] at hw; subst hw; obtain ⟨t2,rfl⟩:=rw'
     simp only [eqT]
     exact SeqAt.RcAt.list_int c t2 p1.isList cT
   | str c =>
     simp only [At] at hw; subst hw; obtain ⟨t2,rfl⟩:=rw'
     simp only [eqT]
     exact SeqAt.RcAt.list_str c t2 p1.isList cT
   | tup l' =>
     simp only [At] at hw
     obtain ⟨p',ws,rfl,g1,g2⟩:=hw
     cases rw'
     obtain ⟨fz,r2,p2,_⟩:=I.tuple g1
     simp only [eqT]
     exact SeqAt.RcAt.list_tuple p1.isList p2 cT
   | lst l' =>
     simp only [At] at hw
     obtain ⟨p',ws,rfl,g1,g2⟩:=hw
     cases rw'
     obtain ⟨fz,r2,p2,_⟩:=I.list g1.sq
     simp only [eqT]
     simp only [plainT] at pu
     have e1:=r1.length
     have e2:=r2.length
     have e3:=h2.length
     have e4:=g2.length
     by_cases hl:l.length=l'.length
     · have:=SeqAt.RcAt.lists (A:=A) p1.isList p2.isList (by simp only [ir]; omega) cT (gY I h2 g2 r1 r2 fun j x y v w u u' e1 e2 a1 a2 b1 b2=>uH I 100 x y v w u u' A.in1 (oq (iD e1) (by omega)) vV (bz pt e1) (bz pu e2) a1 a2 b1 b2)
       simp only [ir] at this
       rw [← e1,e3] at this
       rw [jt hl]
       exact this
     · have:gH l l'=false:=by
        cases q:gH l l' with
        | false=>rfl
        | true=>exact absurd (jr q) hl
       rw [this]
       exact SeqAt.RcAt.lists_lengths p1.isList p2.isList (by simp only [ir]; rw [bne_iff_ne]; omega) cT
   | _=>simp only [plainT] at pu; cases pu
 | _=>simp only [plainT] at pt; cases pt
theorem MF (I:Inv X pins σ H s) (t u:T) (v w:V) (a b:Value) (A:Around) (hd:dep t≤100) (hu:A.units+101 < cLine) (pt:plainT t=true) (pu:plainT u=true) (ht:At X.K H O t v) (hw:At X.K H O' u w) (rv:RelV v a) (rw':RelV w b):SeqAt.RcNeAt A s a b (!eqT t u):=by
 have cT:A.units < cLine:=by omega
 have vV:A.in1.units+100 < cLine:=by rw [in1_units]; omega
 cases t with
 | bb =>
   simp only [At] at ht; subst ht; cases rv
   cases u with
   | bb =>
     simp only [At] at hw; subst hw; cases rw'
     simp only [eqT]
     exact SeqAt.RcNeAt.none_none
   | bl c =>
     simp only [At] at hw; subst hw; cases rw'
     simp only [eqT]
     exact SeqAt.RcNeAt.none_bool c
   | int c =>
     simp only [At] at hw; subst hw; obtain ⟨t2,rfl⟩:=rw'
     simp only [eqT]
     exact SeqAt.RcNeAt.none_int c t2
   | str c =>
     simp only [At] at hw; subst hw; obtain ⟨t2,rfl⟩:=rw'
     simp only [eqT]
     exact SeqAt.RcNeAt.none_str c t2
   | tup l=>simp only [At] at hw; obtain ⟨p,ws,rfl,q,_⟩:=hw; cases rw'; obtain ⟨_,_,p1,_⟩:=I.tuple q; simp only [eqT]; exact SeqAt.RcNeAt.none_tuple p1 cT
   | lst l=>simp only [At] at hw; obtain ⟨p,ws,rfl,q,_⟩:=hw; cases rw'; obtain ⟨_,_,p1,_⟩:=I.list q.sq; simp only [eqT]; exact SeqAt.RcNeAt.none_list p1.isList cT
   | _=>simp only [plainT] at pu; cases pu
 | bl d =>
   simp only [At] at ht; subst ht; cases rv
   cases u with
   | bb =>
     simp only [At] at hw; subst hw; cases rw'
     simp only [eqT]
     exact SeqAt.RcNeAt.bool_none d
   | bl c =>
     simp only [At] at hw; subst hw; cases rw'
     simp only [eqT]
     exact SeqAt.RcNeAt.bool_bool d c
   | int c =>
     simp only [At] at hw; subst hw; obtain ⟨t2,rfl⟩:=rw'
     simp only [eqT]
     exact SeqAt.RcNeAt.bool_int d c t2
   | str c =>
     simp only [At] at hw; subst hw; obtain ⟨t2,rfl⟩:=rw'
     simp only [eqT]
     exact SeqAt.RcNeAt.bool_str d c t2
   | tup l=>simp only [At] at hw; obtain ⟨p,ws,rfl,q,_⟩:=hw; cases rw'; obtain ⟨_,_,p1,_⟩:=I.tuple q; simp only [eqT]; exact SeqAt.RcNeAt.bool_tuple d p1 cT
   | lst l=>simp only [At] at hw; obtain ⟨p,ws,rfl,q,_⟩:=hw; cases rw'; obtain ⟨_,_,p1,_⟩:=I.list q.sq; simp only [eqT]; exact SeqAt.RcNeAt.bool_list d p1.isList cT
   | _=>simp only [plainT] at pu; cases pu
 | int d =>
   simp only [At] at ht; subst ht; obtain ⟨t1,rfl⟩:=rv
   cases u with
   | bb =>
     simp only [At] at hw; subst hw; cases rw'
     simp only [eqT]
     exact SeqAt.RcNeAt.int_none d t1
   | bl c =>
     simp only [At] at hw; subst hw; cases rw'
     simp only [eqT]
     exact SeqAt.RcNeAt.int_bool d t1 c
   | int c =>
     simp only [At] at hw; subst hw; obtain ⟨t2,rfl⟩:=rw'
     simp only [eqT]
     exact SeqAt.RcNeAt.int_int d t1 c t2
   | str c =>
     simp only [At] at hw; subst hw; obtain ⟨t2,rfl⟩:=rw'
     simp only [eqT]
     exact SeqAt.RcNeAt.int_str d t1 c t2
   | tup l=>simp only [At] at hw; obtain ⟨p,ws,rfl,q,_⟩:=hw; cases rw'; obtain ⟨_,_,p1,_⟩:=I.tuple q; simp only [eqT]; exact SeqAt.RcNeAt.int_tuple d t1 p1 cT
   | lst l=>simp only [At] at hw; obtain ⟨p,ws,rfl,q,_⟩:=hw; cases rw'; obtain ⟨_,_,p1,_⟩:=I.list q.sq; simp only [eqT]; exact SeqAt.RcNeAt.int_list d t1 p1.isList cT
   | _=>simp only [plainT] at pu; cases pu
 | str d =>
   simp only [At] at ht; subst ht; obtain ⟨t1,rfl⟩:=rv
   cases u with
   | bb =>
     simp only [At] at hw; subst hw; cases rw'
     simp only [eqT]
     exact SeqAt.RcNeAt.str_none d t1
   | bl c =>
     simp only [At] at hw; subst hw; cases rw'
     simp only [eqT]
     exact SeqAt.RcNeAt.str_bool d t1 c
   | int c =>
     simp only [At] at hw; subst hw; obtain ⟨t2,rfl⟩:=rw'
     simp only [eqT]
     exact SeqAt.RcNeAt.str_int d t1 c t2
   | str c =>
     simp only [At] at hw; subst hw; obtain ⟨t2,rfl⟩:=rw'
     simp only [eqT]
     exact SeqAt.RcNeAt.str_str d t1 c t2
   | tup l=>simp only [At] at hw; obtain ⟨p,ws,rfl,q,_⟩:=hw; cases rw'; obtain ⟨_,_,p1,_⟩:=I.tuple q; simp only [eqT]; exact SeqAt.RcNeAt.str_tuple d t1 p1 cT
   | lst l=>simp only [At] at hw; obtain ⟨p,ws,rfl,q,_⟩:=hw; cases rw'; obtain ⟨_,_,p1,_⟩:=I.list q.sq; simp only [eqT]; exact SeqAt.RcNeAt.str_list d t1 p1.isList cT
   | _=>simp only [plainT] at pu; cases pu
 | tup l =>
   simp only [plainT] at pt
   simp only [dep] at hd
   simp only [At] at ht
   obtain ⟨p,vs,rfl,h1,h2⟩:=ht
   cases rv
   obtain ⟨aP,r1,p1,_⟩:=I.tuple h1
   cases u with
   | bb =>
     simp only [At] at hw; subst hw; cases rw'
     simp only [eqT]
     exact SeqAt.RcNeAt.tuple_none p1 cT
   | bl c =>
     simp only [At] at hw; subst hw; cases rw'
     simp only [eqT]
     exact SeqAt.RcNeAt.tuple_bool c p1 cT
   | int c =>
     simp only [At] at hw; subst hw; obtain ⟨t2,rfl⟩:=rw'
     simp only [eqT]
     exact SeqAt.RcNeAt.tuple_int c t2 p1 cT
   | str c =>
     simp only [At] at hw; subst hw; obtain ⟨t2,rfl⟩:=rw'
     simp only [eqT]
     exact SeqAt.RcNeAt.tuple_str c t2 p1 cT
   | tup l' =>
     simp only [At] at hw
     obtain ⟨p',ws,rfl,g1,g2⟩:=hw
     cases rw'
     obtain ⟨fz,r2,p2,_⟩:=I.tuple g1
     simp only [eqT]
     simp only [plainT] at pu
     have e1:=r1.length
     have e2:=r2.length
     have e3:=h2.length
     have e4:=g2.length
     have:=SeqAt.RcNeAt.tuples (A:=A) p1 p2 cT (gY I h2 g2 r1 r2 fun j x y v w u u' e1 e2 a1 a2 b1 b2=>uH I 100 x y v w u u' A.in1 (oq (iD e1) (by omega)) vV (bz pt e1) (bz pu e2) a1 a2 b1 b2)
     simp only [ir] at this
     rw [← e1,← e2,e3,e4] at this
     rw [pZ]
     exact this
   | lst l' =>
     simp only [At] at hw
     obtain ⟨p',ws,rfl,g1,g2⟩:=hw
     cases rw'
     obtain ⟨fz,r2,p2,_⟩:=I.list g1.sq
     simp only [eqT]
     exact SeqAt.RcNeAt.tuple_list p1 p2.isList cT
   | _=>simp only [plainT] at pu; cases pu
 | lst l =>
   simp only [plainT] at pt
   simp only [dep] at hd
   simp only [At] at ht
   obtain ⟨p,vs,rfl,h1,h2⟩:=ht
   cases rv
   obtain ⟨aP,r1,p1,_⟩:=I.list h1.sq
   cases u with
   | bb =>
     simp only [At] at hw; subst hw; cases rw'
     simp only [eqT]
     exact SeqAt.RcNeAt.list_none p1.isList cT
   | bl c =>
     simp only [At] at hw; subst hw; cases rw'
     simp only [eqT]
     exact SeqAt.RcNeAt.list_bool c p1.isList cT
   | int c =>
     simp only [At] at hw; subst hw; obtain ⟨t2,rfl⟩:=rw'
     simp only [eqT]
     exact SeqAt.RcNeAt.list_int c t2 p1.isList cT
   | str c =>
     simp only [At] at hw; subst hw; obtain ⟨t2,rfl⟩:=rw'
     simp only [eqT]
     exact SeqAt.RcNeAt.list_str c t2 p1.isList cT
   | tup l' =>
     simp only [At] at hw
     obtain ⟨p',ws,rfl,g1,g2⟩:=hw
     cases rw'
     obtain ⟨fz,r2,p2,_⟩:=I.tuple g1
     simp only [eqT]
     exact SeqAt.RcNeAt.list_tuple p1.isList p2 cT
   | lst l' =>
     simp only [At] at hw
     obtain ⟨p',ws,rfl,g1,g2⟩:=hw
     cases rw'
     obtain ⟨fz,r2,p2,_⟩:=I.list g1.sq
     simp only [eqT]
     simp only [plainT] at pu
     have e1:=r1.length
     have e2:=r2.length
     have e3:=h2.length
     have e4:=g2.length
     by_cases hl:l.length=l'.length
     · have:=SeqAt.RcNeAt.lists (A:=A) p1.isList p2.isList (by simp only [ir]; omega) cT (gY I h2 g2 r1 r2 fun j x y v w u u' e1 e2 a1 a2 b1 b2=>uH I 100 x y v w u u' A.in1 (oq (iD e1) (by omega)) vV (bz pt e1) (bz pu e2) a1 a2 b1 b2)
       simp only [ir] at this
       rw [← e1,e3] at this
       rw [jt hl]
       exact this
     · have:gH l l'=false:=by
        cases q:gH l l' with
        | false=>rfl
        | true=>exact absurd (jr q) hl
       rw [this]
       exact SeqAt.RcNeAt.lists_lengths p1.isList p2.isList (by simp only [ir]; rw [bne_iff_ne]; omega) cT
   | _=>simp only [plainT] at pu; cases pu
 | _=>simp only [plainT] at pt; cases pt
theorem iq.bare {K:PySem.W.Frag} {H:Hp} {A:List Addr} {t:T} {v:V} (h:iq K H A t v):At K H [] t v:=by
 rcases h with h | ⟨a,rfl,h⟩
 · exact At.bh (O':=[]) (fun _ z=>absurd z ko) h
 · exact (cA.bh (A':=[]) h (fun _ z=>absurd z ko)).at ko
def HA (K:PySem.W.Frag) (neg:Bool):R2:=fun x y H Q=>∃ t u,At K H [] t x∧At K H [] u y∧plainT t=true∧plainT u=true∧dep t≤100∧Q (.bl (if neg then !eqT t u else eqT t u)) H
theorem DW (hu:X.A.units+101 < cLine):ff X (compareOp .Eq) (HA X.K false):=by
 intro pins s σ H x y v u Q I rx ry ⟨t,t',h1,h2,p1,p2,d,q⟩
 exact ME I t t' x y v u X.A d hu p1 p2 h1 h2 rx ry X.prog X.w X.xe _ ⟨.bl _,H,I,rfl,q⟩
theorem DY (hu:X.A.units+101 < cLine):ff X (compareOp .NotEq) (HA X.K true):=by
 intro pins s σ H x y v u Q I rx ry ⟨t,t',h1,h2,p1,p2,d,q⟩
 exact MF I t t' x y v u X.A d hu p1 p2 h1 h2 rx ry X.prog X.w X.xe _ ⟨.bl _,H,I,rfl,q⟩
end
def QJ (x y:T) (q:Rt→Prop):Prop:=match x,y with
 | .int i,.int j=>q (.vw (.bl (decide (i=j))))
 | .str i,.str j=>q (.vw (.bl (decide (i=j))))
 | .bl i,.bl j=>q (.vw (.bl (decide (i=j))))
 | x,y=>plainT x=true∧plainT y=true∧dep x≤100∧q (.vw (.bl (eqT x y)))
def QK (x y:T) (q:Rt→Prop):Prop:=match x,y with
 | .int i,.int j=>q (.vw (.bl (!decide (i=j))))
 | .str i,.str j=>q (.vw (.bl (!decide (i=j))))
 | .bl i,.bl j=>q (.vw (.bl (!decide (i=j))))
 | x,y=>plainT x=true∧plainT y=true∧dep x≤100∧q (.vw (.bl (!eqT x y)))
theorem HB {x y:T} {q:Rt→Prop} (h:QJ x y q):plainT x=true∧plainT y=true∧dep x≤100∧q (.vw (.bl (eqT x y))):=by
 unfold QJ at h
 split at h
 · exact ⟨rfl,rfl,ph _,by simp only [eqT,To]; exact h⟩
 · refine ⟨rfl,rfl,ph _,?_⟩
   have e:∀ i j:Str,(i == j)=decide (i=j):=fun i j=>by rw [GX]; simp
   simp only [eqT,e]; exact h
 · exact ⟨rfl,rfl,ph _,by simp only [eqT,To]; exact h⟩
 · exact h
theorem HC {x y:T} {q:Rt→Prop} (h:QK x y q):plainT x=true∧plainT y=true∧dep x≤100∧q (.vw (.bl (!eqT x y))):=by
 unfold QK at h
 split at h
 · exact ⟨rfl,rfl,ph _,by simp only [eqT,To]; exact h⟩
 · refine ⟨rfl,rfl,ph _,?_⟩
   have e:∀ i j:Str,(i == j)=decide (i=j):=fun i j=>by rw [GX]; simp
   simp only [eqT,e]; exact h
 · exact ⟨rfl,rfl,ph _,by simp only [eqT,To]; exact h⟩
 · exact h
theorem DZ {K:PySem.W.Frag}:pX K (HA K false) QJ:=by
 intro Z tm O ρ σ H x y v w q Q I h1 h2 h k
 obtain ⟨p1,p2,d,h⟩:=HB h
 exact ⟨x,y,h1.bare,h2.bare,p1,p2,d,k _ h _ H (aM.refl H) ⟨I,by rw [if_neg lh]; exact cH⟩⟩
theorem D_ {K:PySem.W.Frag}:pX K (HA K true) QK:=by
 intro Z tm O ρ σ H x y v w q Q I h1 h2 h k
 obtain ⟨p1,p2,d,h⟩:=HC h
 exact ⟨x,y,h1.bare,h2.bare,p1,p2,d,k _ h _ H (aM.refl H) ⟨I,by rw [if_pos rfl]; exact cH⟩⟩
def MH (g:Int→Int→Bool) (x y:T) (q:Rt→Prop):Prop:=match x,y with
 | .int i,.int j=>q (.vw (.bl (g i j)))
 | _,_=>False
section
variable {K:PySem.W.Frag}
end
def MI (x y:T) (q:Rt→Prop):Prop:=match x,y with
 | .int i,.int j=>q (.vw (.int (i - j)))
 | _,_=>False
theorem HF {K:PySem.W.Frag}:pX K (uz fun i j=>.int (i - j)) MI:=by
 intro Z tm O ρ σ H x y v w q Q I h1 h2 h k
 unfold MI at h
 split at h
 · exact ⟨_,_,h1.int,h2.int,k _ h _ H (aM.refl H) ⟨I,bx⟩⟩
 · exact h.elim
def MJ (x y:T) (q:Rt→Prop):Prop:=match x,y with
 | .int i,.int j=>DA i j∧q (.vw (.int (i * j)))
 | _,_=>False
theorem HG {K:PySem.W.Frag}:pX K (rI DA fun i j=>.int (i * j)) MJ:=by
 intro Z tm O ρ σ H x y v w q Q I h1 h2 h k
 unfold MJ at h
 split at h
 · exact ⟨_,_,h1.int,h2.int,h.1,k _ h.2 _ H (aM.refl H) ⟨I,bx⟩⟩
 · exact h.elim
def MK (x y:T) (q:Rt→Prop):Prop:=match x,y with
 | .int i,.int j=>(0 < j∧j < 1073741824)∧q (.vw (.int (i / j)))
 | _,_=>False
theorem HH {K:PySem.W.Frag}:pX K (rI P9 fun i j=>.int (i / j)) MK:=by
 intro Z tm O ρ σ H x y v w q Q I h1 h2 h k
 unfold MK at h
 split at h
 · exact ⟨_,_,h1.int,h2.int,h.1,k _ h.2 _ H (aM.refl H) ⟨I,bx⟩⟩
 · exact h.elim
def MM (x y:T) (q:Rt→Prop):Prop:=match x,y with
 | .int i,.int j=>0 < j∧q (.vw (.int (i % j)))
 | _,_=>False
theorem HI {K:PySem.W.Frag}:pX K (rI (fun _ j=>0 < j) fun i j=>.int (i % j)) MM:=by
 intro Z tm O ρ σ H x y v w q Q I h1 h2 h k
 unfold MM at h
 split at h
 · exact ⟨_,_,h1.int,h2.int,h.1,k _ h.2 _ H (aM.refl H) ⟨I,bx⟩⟩
 · exact h.elim
def MN (x y:T) (q:Rt→Prop):Prop:=match x,y with
 | .int i,.int j=>(0≤j∧j≤1000000∧i.natAbs < 2 ^ 64)∧q (.vw (.int (i ^ j.toNat)))
 | _,_=>False
theorem HJ {K:PySem.W.Frag}:pX K (rI P_ fun i j=>.int (i ^ j.toNat)) MN:=by
 intro Z tm O ρ σ H x y v w q Q I h1 h2 h k
 unfold MN at h
 split at h
 · exact ⟨_,_,h1.int,h2.int,h.1,k _ h.2 _ H (aM.refl H) ⟨I,bx⟩⟩
 · exact h.elim
def VZ (x y:T) (q:Rt→Prop):Prop:=match x,y with
 | .int i,.int j=>q (.vw (.bl (decide (i < j))))
 | _,_=>False
theorem MO {K:PySem.W.Frag}:pX K (uz fun i j=>.bl (decide (i < j))) VZ:=by
 intro Z tm O ρ σ H x y v w q Q I h1 h2 h k
 unfold VZ at h
 split at h
 · exact ⟨_,_,h1.int,h2.int,k _ h _ H (aM.refl H) ⟨I,cH⟩⟩
 · exact h.elim
def V0 (x y:T) (q:Rt→Prop):Prop:=match x,y with
 | .int i,.int j=>q (.vw (.bl (decide (j < i))))
 | _,_=>False
theorem MQ {K:PySem.W.Frag}:pX K (uz fun i j=>.bl (decide (j < i))) V0:=by
 intro Z tm O ρ σ H x y v w q Q I h1 h2 h k
 unfold V0 at h
 split at h
 · exact ⟨_,_,h1.int,h2.int,k _ h _ H (aM.refl H) ⟨I,cH⟩⟩
 · exact h.elim
def KD (x y:T) (q:Rt→Prop):Prop:=match x,y with
 | .int i,.int j=>q (.vw (.int (i+j)))
 | _,_=>False
theorem wy {K:PySem.W.Frag}:pX K (uz fun i j=>.int (i+j)) KD:=by
 intro Z tm O ρ σ H x y v w q Q I h1 h2 h k
 unfold KD at h
 split at h
 · exact ⟨_,_,h1.int,h2.int,k _ h _ H (aM.refl H) ⟨I,bx⟩⟩
 · exact h.elim
def KG (K:PySem.W.Frag):R2:=fun x y H Q=>∃ l b xs zs,x = .ref l∧y = .ref b∧gm K H l xs∧gm K H b zs∧xs.length+zs.length≤sizeLine∧∀ p,H p=none→Q (.ref p) (upd H p (.lst (xs ++ zs)))
def KH (K:PySem.W.Frag):R2:=fun x y H Q=>∃ a b xs ys,x = .ref a∧y = .ref b∧dY K H a xs∧dY K H b ys∧xs.length+ys.length≤sizeLine∧(xs=[]→Q (.ref b) H)∧(xs≠[]→ys=[]→Q (.ref a) H)∧(xs≠[]→ys≠[]→∀ p,H p=none→Q (.ref p) (upd H p (.tup (xs ++ ys))))
section
variable {X:Cx}
theorem HK:ff X (binaryOp .Add) (KG X.K):=by
 intro pins s σ H x y v u Q I rx ry h
 obtain ⟨l,b,xs,zs,rfl,rfl,hH,hB,hz,q⟩:=h
 cases rx
 cases ry
 obtain ⟨aP,r,p1,z1⟩:=I.list hH
 obtain ⟨fz,r2,p2,z2⟩:=I.list hB
 obtain ⟨⟨cls,dd,data,sl⟩,n,ho,hc,_,hd⟩:=p1
 obtain ⟨⟨Qe,Kw,data2,Ax⟩,n2,GB,Dd,_,hd2⟩:=p2
 simp only at hc hd Dd hd2
 subst hc hd Dd hd2
 have l1:=r.length
 have l2:=r2.length
 have e:aP.toArray ++ fz.toArray=(aP ++ fz).toArray:=by simp
 refine concat_meets ⟨_,ho,rfl⟩ ⟨_,GB,rfl⟩ noFill_list_add seq_list_add PySem.F.slot_list_add PySem.F.entry_list_add (PySem.F.args_list_add_2 _ _) (list_addW l b aP.toArray fz.toArray n n2 dd Kw sl Ax (by simp only [ir]; omega)) ⟨ho,GB,?_⟩
 rw [e]
 exact ⟨.ref _,_,I.Qp (t':=s.toks) (r.append r2) (by rw [pP]; omega),rfl,q _ I.fresh⟩
theorem HL:ff X (binaryOp .Add) (KH X.K):=by
 intro pins s σ H x y v u Q I rx ry h
 obtain ⟨a,b,xs,ys,rfl,rfl,ha,hb,hz,q0,q1,q2⟩:=h
 cases rx
 cases ry
 obtain ⟨aP,r1,p1,_⟩:=I.tuple ha
 obtain ⟨fz,r2,p2,_⟩:=I.tuple hb
 by_cases hx:xs=[]
 · obtain ⟨⟨cls,dd,data,sl⟩,ho,hc,n,hd⟩:=id p1
   obtain ⟨⟨Qe,Kw,data2,Ax⟩,GB,Dd,n2,hd2⟩:=id p2
   simp only at hc hd Dd hd2
   subst hc hd Dd hd2
   exact concat_meets ⟨_,ho,rfl⟩ ⟨_,GB,rfl⟩ noFill_tuple_add seq_tuple_add UJ UE (UD _ _)
    (tuple_addW0 a b aP.toArray fz.toArray n n2 dd Kw sl Ax (by simp [r1.pA.mpr hx])) ⟨ho,GB,⟨.ref b,H,I,rfl,q0 hx⟩⟩
 · refine HT.Hh p1 p2 (fun z=>hx (r1.pA.mp z)) (fun z=>⟨.ref a,H,I,rfl,q1 hx (r2.pA.mp z)⟩) (fun z=>?_) (by rw [← r1.length,← r2.length]; exact hz)
   refine ⟨.ref s.heap.objs.size,_,I.laid (t':=s.toks) (o:=.tup (xs ++ ys)) (fun b ob q=>dH _ q) (cZ _) ?_,rfl,q2 hx (fun w=>z (r2.pA.mpr w)) _ (I.bB.fresh (cZ _))⟩
   exact ⟨by rw [pP]; exact hz,_,r1.append r2,IsTup.new _ _⟩
end
def KI (K:PySem.W.Frag):R2:=fun x y H Q=>uz (fun i j=>.int (i+j)) x y H Q∨(fun x y H Q=>∃ i j,x = .str i∧y = .str j∧i.length+j.length≤sizeLine∧Q (.str (i ++ j)) H) x y H Q∨KG K x y H Q∨KH K x y H Q
theorem HM {X:Cx}:ff X (binaryOp .Add) (KI X.K):=ff.or L8 (ff.or yp (ff.or HK HL))
def MR (x y:T) (q:Rt→Prop):Prop:=match x,y with
 | .int i,.int j=>q (.vw (.int (i+j)))
 | .str i,.str j=>i.length+j.length≤sizeLine∧q (.vw (.str (i ++ j)))
 | .lst a,.lst b=>a.length+b.length≤sizeLine∧q (.fr (.lst (a ++ b)))
 | .tup a,.tup b=>a.length+b.length≤sizeLine∧q (.vw (.tup (a ++ b)))
 | _,_=>False
theorem HN {K:PySem.W.Frag}:pX K (KI K) MR:=by
 intro Z tm O ρ σ H x y v w q Q I h1 h2 h k
 unfold MR at h
 split at h
 · exact .inl ⟨_,_,h1.int,h2.int,k _ h _ H (aM.refl H) ⟨I,bx⟩⟩
 · exact .inr (.inl ⟨_,_,h1.str,h2.str,h.1,k _ h.2 _ H (aM.refl H) ⟨I,bF⟩⟩)
 · obtain ⟨a,vs,rfl,s1,a1⟩:=h1.lst
   obtain ⟨b,ws,rfl,s2,a2⟩:=h2.lst
   exact .inr (.inr (.inl ⟨a,b,vs,ws,rfl,rfl,s1,s2,by rw [a1.length,a2.length]; exact h.1,fun p hp=>k _ h.2 _ _ (aS hp) (I.BK hp (a1.append a2))⟩))
 · obtain ⟨a,vs,rfl,s1,a1⟩:=h1.tup
   obtain ⟨b,ws,rfl,s2,a2⟩:=h2.tup
   refine .inr (.inr (.inr ⟨a,b,vs,ws,rfl,rfl,s1,s2,by rw [a1.length,a2.length]; exact h.1,fun e=>?_,fun _ e=>?_,fun _ _ p hp=>?_⟩))
   · subst e
     have e:=a1.length
     rename_i xs ys
     have e':xs=[]:=OM.mp e.symm
     subst e'
     exact k _ h.2 _ H (aM.refl H) ⟨I,bu s2 a2⟩
   · subst e
     have e:=a2.length
     rename_i xs ys _
     have e':ys=[]:=OM.mp e.symm
     subst e'
     exact k _ h.2 _ H (aM.refl H) ⟨I,by rw [Dm]; exact bu s1 a1⟩
   · exact k _ h.2 _ _ (aS hp) ⟨I.same (aS hp),bu (dY.of aQ) ((a1.append a2).same (aS hp))⟩
 · exact h.elim
section
variable {X:Cx} {Z:Zc} {e a b:Expr} {es:List Expr} {pos:Pos} {fa fb:FE}
theorem dJ (ha:VR X Z a fa) (hb:VR X Z b fb):VP X Z (.BinOp a .Add b pos) (f2 fa fb MR):=nA HM HN ha hb
theorem p_ (ha:VR X Z a fa) (hb:VR X Z b fb):VP X Z (.BinOp a .Sub b pos) (f2 fa fb MI):=nA L9 HF ha hb
theorem yD (ha:VR X Z a fa) (hb:VR X Z b fb):VP X Z (.BinOp a .Mult b pos) (f2 fa fb MJ):=nA L_ HG ha hb
theorem bD (ha:VR X Z a fa) (hb:VR X Z b fb):VP X Z (.BinOp a .FloorDiv b pos) (f2 fa fb MK):=nA Ha HH ha hb
theorem bA (ha:VR X Z a fa) (hb:VR X Z b fb):VP X Z (.BinOp a .Mod b pos) (f2 fa fb MM):=nA L' HI ha hb
theorem ju (ha:VR X Z a fa) (hb:VR X Z b fb):VP X Z (.BinOp a .Pow b pos) (f2 fa fb MN):=nA Ma HJ ha hb
def V1 (f:FE):FP:=fun ρ Q=>f ρ fun x=>match x with
 | .int i=>Q (.vw (.int (-i)))
 | _=>False
theorem d9 (ha:VR X Z a fa):VP X Z (.UnaryOp .USub a pos) (V1 fa):=.mk fun tm=>PE.weak (P8 Mb (ha tm)) fun σ H Q ⟨ρ,O,q,I,hf,k⟩=>⟨ρ,O,_,I,hf,fun t ht v H1 s1 a1=>by
 split at ht
 · exact ⟨_,a1.int,k _ ht _ H1 s1 ⟨I.same s1,bx⟩⟩
 · exact ht.elim⟩
theorem ow (hu:X.A.units+101 < cLine) (ha:VR X Z a fa) (hb:VR X Z b fb):VP X Z (.Compare a [.Eq] [b] pos) (f2 fa fb QJ):=uG (DW hu) DZ ha hb (ji _)
theorem KJ (hu:X.A.units+101 < cLine) (ha:VR X Z a fa) (hb:VR X Z b fb):VP X Z (.Compare a [.NotEq] [b] pos) (f2 fa fb QK):=uG (DY hu) D_ ha hb (ji _)
theorem bc (hu:X.A.units+101 < cLine) (ha:VR X Z a fa) (hb:VR X Z b fb):VC X Z (.Compare a [.Eq] [b] pos) (pY (f2 fa fb QJ)):=jq (DW hu) DZ ha hb (ji _)
theorem gZ (hu:X.A.units+101 < cLine) (ha:VR X Z a fa) (hb:VR X Z b fb):VC X Z (.Compare a [.NotEq] [b] pos) (pY (f2 fa fb QK)):=jq (DY hu) D_ ha hb (ji _)
theorem oy (ha:VR X Z a fa) (hb:VR X Z b fb):VC X Z (.Compare a [.Lt] [b] pos) (pY (f2 fa fb VZ)):=jq DB MO ha hb (ji _)
theorem i5 (ha:VR X Z a fa) (hb:VR X Z b fb):VC X Z (.Compare a [.Gt] [b] pos) (pY (f2 fa fb V0)):=jq P' MQ ha hb (ji _)
def f3 (fa fb fc:FE) (p p':T→T→(Rt→Prop)→Prop):FP:=fun ρ Q=>fa ρ fun x=>fb ρ fun y=>p x y fun r=>match r with
 | .vw (.bl true)=>fc ρ fun z=>p' y z Q
 | .vw (.bl false)=>Q (.vw (.bl false))
 | _=>False
end
theorem D' {K:PySem.W.Frag} {H:Hp} {A:List Addr} {ts:List T} {vs:List V} {i:Int} {t:T} (h:aI K H A ts vs) (e:k9 ts i=some t):∃ v,k9 vs i=some v∧At K H A t v:=by
 unfold k9 at e ⊢
 rw [h.length]
 cases q:vU ts.length i with
 | none=>rw [q] at e; cases e
 | some j =>
   rw [q] at e
   obtain ⟨v,h1,h2⟩:=h.get (i:=j) e
   exact ⟨v,h1,h2⟩
def V2 (x y:T) (q:Rt→Prop):Prop:=match x,y with
 | .lst ts,.int i=>∃ t,k9 ts i=some t∧q (.vw t)
 | .tup ts,.int i=>∃ t,k9 ts i=some t∧q (.vw t)
 | .str z,.int i=>z.length≤sizeLine∧∃ c,k9 z.cps.toList i=some c∧q (.vw (.str ⟨#[c]⟩))
 | _,_=>False
theorem MS {K:PySem.W.Frag}:pX K (X' K) V2:=by
 intro Z tm O ρ σ H x y v w q Q I h1 h2 h k
 unfold V2 at h
 split at h
 · obtain ⟨t,e,h⟩:=h
   obtain ⟨a,vs,rfl,s1,a1⟩:=h1.lst
   obtain ⟨u,e',a2⟩:=D' a1 e
   exact .inl ⟨a,vs,_,u,rfl,h2.int,s1,e',k _ h _ H (aM.refl H) ⟨I,a2⟩⟩
 · obtain ⟨t,e,h⟩:=h
   obtain ⟨a,vs,rfl,s1,a1⟩:=h1.tup
   obtain ⟨u,e',a2⟩:=D' a1 e
   exact .inr (.inl ⟨a,vs,_,u,rfl,h2.int,s1,e',k _ h _ H (aM.refl H) ⟨I,a2⟩⟩)
 · obtain ⟨hz,c,e,h⟩:=h
   exact .inr (.inr ⟨_,_,c,h1.str,h2.int,hz,e,k _ h _ H (aM.refl H) ⟨I,bF⟩⟩)
 · exact h.elim
section
variable {X:Cx} {Z:Zc} {e a b:Expr} {es:List Expr} {pos:Pos} {fa fb:FE}
theorem aG (ha:VR X Z a fa) (hb:VR X Z b fb) (hs:AB b:=by exact fun _ _=>rfl):VP X Z (.Subscript a b pos) (f2 fa fb V2) :=
 .mk fun tm=>PE.weak (Qi Mn (ha tm) (hb tm) hs) (two MS)
end
abbrev FO:=En→(Option Int→Prop)→Prop
def lO (X:Cx) (Z:Zc) (tm:List (T×V)) (f:FO):TO:=fun σ H Q=>∃ ρ O q,aA X.K Z tm O ρ σ H∧f ρ q∧∀ o,q o→∀ H',aM H H'→Q o H'
def VO (X:Cx) (Z:Zc) (e:Option Expr) (f:FO):Prop:=Bx fun tm=>PO X e (lO X Z tm f)
instance {X:Cx} {Z:Zc} {e:Option Expr} {f:FO}:CoeFun (VO X Z e f) fun _=>∀ tm,PO X e (lO X Z tm f):=⟨fun h=>Bx.h h⟩
theorem PO.weak {X:Cx} {e:Option Expr} {t t':TO} (h:PO X e t) (hw:∀ σ H Q,t' σ H Q→t σ H Q):PO X e t':=fun pins s σ H Q I q=>h pins s σ H Q I (hw _ _ _ q)
def Zt:FO:=fun _ Q=>Q none
def Zu (f:FE):FO:=fun ρ Q=>f ρ fun t=>match t with
 | .int i=>Q (some i)
 | _=>False
def iE {α:Type} (xs:List α) (lo hi:Option Int):List α:=(xs.drop (HT.dA xs.length 0 lo)).take (HT.dA xs.length xs.length hi - HT.dA xs.length 0 lo)
theorem aI.cut {K:PySem.W.Frag} {H:Hp} {A:List Addr} {ts:List T} {vs:List V} (h:aI K H A ts vs) (lo hi:Option Int):aI K H A (iE ts lo hi) (v_ vs lo hi):=by
 unfold iE v_
 rw [h.length]
 exact (h.drop _).take _
def V3 (K:PySem.W.Frag):V→Option Int→Option Int→Hp→VK→Prop:=fun x lo hi H Q=>Qn K x lo hi H Q∨Qh K x lo hi H Q∨QE x lo hi H Q
theorem V4 {X:Cx}:DI X (V3 X.K):=DI.or Ho (DI.or Mj Mz)
def Yk (x:T) (lo hi:Option Int) (q:Rt→Prop):Prop:=match x with
 | .lst ts=>q (.fr (.lst (iE ts lo hi)))
 | .tup ts=>¬ (HT.dA ts.length 0 lo=0∧HT.dA ts.length ts.length hi=ts.length)∧q (.vw (.tup (iE ts lo hi)))
 | .str z=>z.length≤sizeLine∧q (.vw (.str (Txt.slice z lo hi)))
 | _=>False
def Zv (fa:FE) (fl fh:FO):FP:=fun ρ Q=>fa ρ fun x=>fl ρ fun lo=>fh ρ fun hi=>Yk x lo hi Q
section
variable {X:Cx} {Z:Zc} {e a b:Expr} {lo hi:Option Expr} {pos p2:Pos} {fa:FE} {fl fh:FO}
theorem eR:VO X Z none Zt:=.mk fun tm=>PO.weak Hk fun σ H Q ⟨ρ,O,q,I,hf,k⟩=>k _ hf H (aM.refl H)
theorem eT (h:VR X Z e fa):VO X Z (some e) (Zu fa):=.mk fun tm=>PO.weak (Hl (h tm)) fun σ H Q ⟨ρ,O,q,I,hf,k⟩=>⟨ρ,O,_,I,hf,fun t ht v H' s z=>by
 split at ht
 · exact ⟨_,z.int,k _ ht H' s⟩
 · exact ht.elim⟩
theorem dc (he:VR X Z e fa) (hl:VO X Z lo fl) (hh:VO X Z hi fh):VP X Z (.Subscript e (.Slice lo hi none p2) pos) (Zv fa fl fh) :=
 .mk fun tm=>PE.weak (DJ V4 (he tm) (hl tm) (hh tm)) fun σ H Q ⟨ρ,O,q,I,hf,k⟩=>⟨ρ,O,_,I,hf,fun x hx v H1 s1 a1=>⟨ρ,O,_,I.same s1,hx,fun l hl H2 s2=>⟨ρ,O,_,(I.same s1).same s2,hl,fun u hu H3 s3=>by
  have J:=((I.same s1).same s2).same s3
  have a3:=(a1.same s2).same s3
  have S:=(s1.trans s2).trans s3
  unfold Yk at hu
  split at hu
  · obtain ⟨p,vs,rfl,q1,q2⟩:=a3.lst
    exact .inl ⟨p,vs,rfl,q1,fun r hr=>k _ hu _ _ (S.trans (aS hr)) (J.BK hr (q2.cut _ _))⟩
  · obtain ⟨p,vs,rfl,q1,q2⟩:=a3.tup
    refine .inr (.inl ⟨p,vs,rfl,q1,by rw [q2.length]; exact hu.1,fun r hr=>k _ hu.2 _ _ (S.trans (aS hr)) ⟨J.same (aS hr),bu (dY.of aQ) ((q2.cut _ _).same (aS hr))⟩⟩)
  · exact .inr (.inr ⟨_,a3.str,hu.1,k _ hu.2 _ H3 S ⟨J,bF⟩⟩)
  · exact hu.elim⟩⟩⟩
end
def KL (g:FA) (p:List T→(Rt→Prop)→Prop):FP:=fun ρ Q=>g ρ fun ts=>p ts Q
def qa (K:PySem.W.Frag) (r:List V→Hp→VK→Prop) (p:List T→(Rt→Prop)→Prop):Prop :=
 ∀ (Z:Zc) (tm:List (T×V)) (O:List (Option Addr)) (ρ:En) (σ:St) (H:Hp) (ts:List T) (vs:List V) (q:Rt→Prop) (Q:VK),aA K Z tm O ρ σ H→Paired (fun v t=>iq K H (av Z O) t v) vs ts→p ts q →
  (∀ t,q t→∀ u H',aM H H'→jo K Z tm O ρ σ H' t u→Q u H')→r vs H Q
section
variable {X:Cx} {Z:Zc} {e a b:Expr} {es:List Expr} {pos p:Pos} {g:FA} {x:Str} {id Ty:String} {r:List V→Hp→VK→Prop} {pp:List T→(Rt→Prop)→Prop}
theorem aE (hc:dC X (.builtin id) r) (ht:qa X.K r pp) (hg:Gl X x) (hm:X.mg x=none) (hv:bootBuiltins x=some (.builtin id)) (ha:GF X Z (e :: es) g) (hn:x≠"__name__":=by decide) (lH:gk x:=by decide)
  (hs:starEach (e :: es) X.env=(false,eval e X.env) :: starEach es X.env:=by rfl) (gj:(backTo pos (starEach es X.env)).any (·.1)=false:=by rfl):VP X Z (.Call (.Name x p) (e :: es) [] pos) (KL g pp) :=
 .mk fun tm=>PE.weak (lJ hc hg hm hv (ha tm) hn lH hs gj) fun σ H Q ⟨ρ,O,q,I,hf,k⟩=>⟨ρ,O,_,I,hf,fun ts gG vs H1 s1 a1=>ht Z tm O ρ σ H1 ts vs q _ (I.same s1) a1 gG fun t h u H' s z=>k t h u H' (s1.trans s) z⟩
theorem d_ (hc:dC X (.type Ty) r) (ht:qa X.K r pp) (hg:Gl X x) (hm:X.mg x=none) (hv:bootBuiltins x=some (.type Ty)) (ha:GF X Z (e :: es) g) (hn:x≠"__name__":=by decide) (lH:gk x:=by decide)
  (hs:starEach (e :: es) X.env=(false,eval e X.env) :: starEach es X.env:=by rfl) (gj:(backTo pos (starEach es X.env)).any (·.1)=false:=by rfl):VP X Z (.Call (.Name x p) (e :: es) [] pos) (KL g pp) :=
 .mk fun tm=>PE.weak (sY hc hg hm hv (ha tm) hn lH hs gj) fun σ H Q ⟨ρ,O,q,I,hf,k⟩=>⟨ρ,O,_,I,hf,fun ts gG vs H1 s1 a1=>ht Z tm O ρ σ H1 ts vs q _ (I.same s1) a1 gG fun t h u H' s z=>k t h u H' (s1.trans s) z⟩
end
def QL (ts:List T) (q:Rt→Prop):Prop:=match ts with
 | [.lst l]=>q (.vw (.int l.length))
 | [.tup l]=>q (.vw (.int l.length))
 | [.str z]=>z.length≤sizeLine∧q (.vw (.int z.length))
 | _=>False
def KN (K:PySem.W.Frag):List V→Hp→VK→Prop:=fun xs H Q=>(∃ p ys,xs=[.ref p]∧(gm K H p ys∨dY K H p ys)∧Q (.int ys.length) H)∨(∃ z,xs=[.str z]∧z.length≤sizeLine∧Q (.int z.length) H)
theorem aB {X:Cx}:dC X (.builtin "len") (KN X.K):=dC.or uE uF
theorem cw {α β:Type} {F:α→β→Prop} {vs:List α} {t:β} (h:Paired F vs [t]):∃ v,vs=[v]∧F v t:=by
 cases h with
 | cons r q=>cases q; exact ⟨_,rfl,r⟩
theorem aD {K:PySem.W.Frag}:qa K (KN K) QL:=by
 intro Z tm O ρ σ H ts vs q Q I h hp k
 unfold QL at hp
 split at hp
 · obtain ⟨v,rfl,a⟩:=cw h
   obtain ⟨p,ws,rfl,q1,q2⟩:=a.lst
   exact .inl ⟨p,ws,rfl,.inl q1,k _ hp _ H (aM.refl H) ⟨I,by rw [q2.length]; exact bx⟩⟩
 · obtain ⟨v,rfl,a⟩:=cw h
   obtain ⟨p,ws,rfl,q1,q2⟩:=a.tup
   exact .inl ⟨p,ws,rfl,.inr q1,k _ hp _ H (aM.refl H) ⟨I,by rw [q2.length]; exact bx⟩⟩
 · obtain ⟨v,rfl,a⟩:=cw h
   exact .inr ⟨_,by rw [a.str],hp.1,k _ hp.2 _ H (aM.refl H) ⟨I,bx⟩⟩
 · exact hp.elim
def KO (ts:List T) (q:Rt→Prop):Prop:=match ts with
 | [.lst l]=>q (.fr (.lst l))
 | [.tup l]=>q (.fr (.lst l))
 | _=>False
theorem iF {K:PySem.W.Frag}:qa K (fun xs H Q=>∃ p ys,xs=[.ref p]∧(gm K H p ys∨dY K H p ys)∧∀ l,H l=none→Q (.ref l) (upd H l (.lst ys))) KO:=by
 intro Z tm O ρ σ H ts vs q Q I h hp k
 unfold KO at hp
 split at hp
 · obtain ⟨v,rfl,a⟩:=cw h
   obtain ⟨p,ws,rfl,q1,q2⟩:=a.lst
   exact ⟨p,ws,rfl,.inl q1,fun l hl=>k _ hp _ _ (aS hl) (I.BK hl q2)⟩
 · obtain ⟨v,rfl,a⟩:=cw h
   obtain ⟨p,ws,rfl,q1,q2⟩:=a.tup
   exact ⟨p,ws,rfl,.inr q1,fun l hl=>k _ hp _ _ (aS hl) (I.BK hl q2)⟩
 · exact hp.elim
def Ea (ts:List T) (q:Rt→Prop):Prop:=match ts with
 | [.lst l]=>q (.vw (.tup l))
 | [.tup l]=>q (.vw (.tup l))
 | _=>False
theorem oz {K:PySem.W.Frag}:qa K (fun xs H Q=>∃ p ys,xs=[.ref p]∧((gm K H p ys∧∀ l,H l=none→Q (.ref l) (upd H l (.tup ys)))∨(dY K H p ys∧Q (.ref p) H))) Ea:=by
 intro Z tm O ρ σ H ts vs q Q I h hp k
 unfold Ea at hp
 split at hp
 · obtain ⟨v,rfl,a⟩:=cw h
   obtain ⟨p,ws,rfl,q1,q2⟩:=a.lst
   exact ⟨p,ws,rfl,.inl ⟨q1,fun l hl=>k _ hp _ _ (aS hl) ⟨I.same (aS hl),bu (dY.of aQ) (q2.same (aS hl))⟩⟩⟩
 · obtain ⟨v,rfl,a⟩:=cw h
   obtain ⟨p,ws,rfl,q1,q2⟩:=a.tup
   exact ⟨p,ws,rfl,.inr ⟨q1,k _ hp _ H (aM.refl H) ⟨I,bu q1 q2⟩⟩⟩
 · exact hp.elim
structure KP where
 nx:En→Prop
 rt:En→Rt→Prop
 bk:En→Prop:=fun _=>False
 ct:En→Prop:=fun _=>False
structure Fin (K:PySem.W.Frag) (Z:Zc) (tm:List (T×V)) (d:KP) (D:Ends):Prop where
 nx:∀ O ρ σ H,aA K Z tm O ρ σ H→d.nx ρ→D.nx σ H
 rt:∀ O ρ σ H r v,jo K Z tm O ρ σ H r v→d.rt ρ r→D.rt v H
 bk:∀ O ρ σ H,aA K Z tm O ρ σ H→d.bk ρ→D.bk σ H
 ct:∀ O ρ σ H,aA K Z tm O ρ σ H→d.ct ρ→D.ct σ H
abbrev FS:=KP→En→Prop
def lS (X:Cx) (Z:Zc) (tm:List (T×V)) (g:FS):TS:=fun D σ H=>∃ ρ O d,aA X.K Z tm O ρ σ H∧g d ρ∧Fin X.K Z tm d D
def VS (X:Cx) (Z:Zc) (st:Stmt) (g:FS):Prop:=Bx fun tm=>PS X st (lS X Z tm g)
instance {X:Cx} {Z:Zc} {st:Stmt} {g:FS}:CoeFun (VS X Z st g) fun _=>∀ tm,PS X st (lS X Z tm g):=⟨fun h=>Bx.h h⟩
def lU (X:Cx) (Z:Zc) (st:List Stmt) (g:FS):Prop:=Bx fun tm=>oR X st (lS X Z tm g)
instance {X:Cx} {Z:Zc} {st:List Stmt} {g:FS}:CoeFun (lU X Z st g) fun _=>∀ tm,oR X st (lS X Z tm g):=⟨fun h=>Bx.h h⟩
def aZ (Z:Zc) (i:Nat):Prop:=∀ p∈Z.P,p.1≠i
section
variable {X:Cx} {Z:Zc} {st:Stmt} {rest:List Stmt} {g u:FS} {e:Expr} {pos:Pos}
def QM:FS:=fun d ρ=>d.nx ρ
def QN (g u:FS):FS:=fun d ρ=>g { d with nx:=u d } ρ
theorem au:lU X Z [] QM:=.mk fun tm=>oR.tw G6 fun D σ H ⟨ρ,O,d,I,h,F⟩=>F.nx O ρ σ H I h
theorem af (h1:VS X Z st g) (h2:lU X Z rest u):lU X Z (st :: rest) (QN g u):=.mk fun tm=>oR.tw (jh (h1 tm) (h2 tm)) fun D σ H ⟨ρ,O,d,I,h,F⟩ =>
 ⟨ρ,O,{ d with nx:=u d },I,h,⟨fun O' ρ' σ' H' I' h'=>⟨ρ',O',d,I',h',F⟩,F.rt,F.bk,F.ct⟩⟩
theorem ah (h1:VS X Z st g):lU X Z [st] g:=.mk fun tm=>lu (h1 tm)
theorem lU.weak (h:lU X Z rest g) (hw:∀ d ρ,u d ρ→g d ρ):lU X Z rest u:=.mk fun tm=>oR.tw (h tm) fun D σ H ⟨ρ,O,d,I,q,F⟩=>⟨ρ,O,d,I,hw d ρ q,F⟩
def QO (f:FX):FS:=fun d ρ=>f ρ fun ρ' _=>d.nx ρ'
theorem bV {f:FX} (h:VX X Z e f) (hs:swapsWith e none pos.line X.env=pure false:=by rfl):VS X Z (.Expr e pos) (QO f):=.mk fun tm=>PS.weak (lC (h tm) hs) fun D σ H ⟨ρ,O,d,I,q,F⟩ =>
 ⟨ρ,O,_,I,q,fun ρ' r hr O' v H' z=>F.nx O' ρ' σ H' z.env hr⟩
def V5 (f:FX):FS:=fun d ρ=>f ρ fun ρ' r=>d.rt ρ' r
theorem az {f:FX} (h:VX X Z e f):VS X Z (.Return (some e) pos) (V5 f):=.mk fun tm=>PS.weak (Dw (h tm)) fun D σ H ⟨ρ,O,d,I,q,F⟩ =>
 ⟨ρ,O,_,I,q,fun ρ' r hr O' v H' z=>F.rt O' ρ' σ H' r v z hr⟩
def Zw (c:FB) (g u:FS):FS:=fun d ρ=>c ρ fun b=>if b=true then g d ρ else u d ρ
theorem aJ {c:Expr} {fc:FB} {a b:List Stmt} (hc:VC X Z c fc) (ha:lU X Z a g) (hb:lU X Z b u):VS X Z (.If c a b pos) (Zw fc g u):=.mk fun tm=>PS.weak (PX (hc tm) (ha tm) (hb tm)) fun D σ H ⟨ρ,O,d,I,q,F⟩ =>
 ⟨ρ,O,_,I,q,fun b hb H' s=>by
   cases b with
   | true=>rw [if_pos rfl] at hb ⊢; exact ⟨ρ,O,d,I.same s,hb,F⟩
   | false=>rw [if_neg lh] at hb ⊢; exact ⟨ρ,O,d,I.same s,hb,F⟩⟩
def QP (i:Nat) (f:FX):FS:=fun d ρ=>f ρ fun ρ' r=>d.nx (ρ'.set i (some (r.t,false)))
def V6 (i:Nat) (f:FX):FS:=fun d ρ=>f ρ fun ρ' r=>match r with
 | .fr t=>d.nx (ρ'.set i (some (t,true)))
 | _=>False
theorem a_ {i:Nat} {x:Str} {f:FX} {pos':Pos} (hN:X.N.Nodup) (hi:X.N[i]?=some x) (hx:Loc X.env.scope x) (he:VX X Z e f) (hp:aZ Z i) (hs:swapsWith e (some (.Name x pos')) pos.line X.env=pure false:=by rfl)
  (hf:X.fn x=true∨X.env.scope.names.lookup x=some .local:=by first | exact .inl rfl | exact .inr rfl | assumption):VS X Z (.Assign [.Name x pos'] e pos) (QP i f):=.mk fun tm=>PS.weak (yi hN hi hx (he tm) hs hf) fun D σ H ⟨ρ,O,d,I,q,F⟩ =>
 ⟨ρ,O,_,I,q,fun ρ' r hr O' v H' z=>F.nx _ _ _ H' (z.env.put hp z.at) hr⟩
theorem cY {i:Nat} {x:Str} {f:FX} {pos':Pos} (hN:X.N.Nodup) (hi:X.N[i]?=some x) (hx:Loc X.env.scope x) (he:VX X Z e f) (hp:aZ Z i) (hs:swapsWith e (some (.Name x pos')) pos.line X.env=pure false:=by rfl)
  (hf:X.fn x=true∨X.env.scope.names.lookup x=some .local:=by first | exact .inl rfl | exact .inr rfl | assumption):VS X Z (.Assign [.Name x pos'] e pos) (V6 i f):=.mk fun tm=>PS.weak (yi hN hi hx (he tm) hs hf) fun D σ H ⟨ρ,O,d,I,q,F⟩ =>
 ⟨ρ,O,_,I,q,fun ρ' r hr O' v H' z=>by
   split at hr
   · obtain ⟨a,rfl,J,hR,h0,TR⟩:=z
     exact F.nx _ _ _ H' (J.VF hp hR h0 TR) hr
   · exact hr.elim⟩
def QQ (i:Nat) (f:FE) (p:T→T→(Rt→Prop)→Prop):FS:=fun d ρ=>match ρ[i]? with
 | some (some (x,false))=>f ρ fun y=>p x y fun r=>d.nx (ρ.set i (some (r.t,false)))
 | _=>False
theorem Eb {i:Nat} {x:Str} {f:FE} {op:Operator} {r:R2} {p:T→T→(Rt→Prop)→Prop} {pos':Pos} (hN:X.N.Nodup) (hi:X.N[i]?=some x) (hx:Loc X.env.scope x) (he:VR X Z e f) (ho:ff X (inplaceOp op) r) (ht:pX X.K r p) (hp:aZ Z i)
  (hf:X.fn x=true∨X.env.scope.names.lookup x=some .local:=by first | exact .inl rfl | exact .inr rfl | assumption):VS X Z (.AugAssign (.Name x pos') op e pos) (QQ i f p):=.mk fun tm=>PS.weak (L0 hN hi hx (he tm) ho hf) fun D σ H ⟨ρ,O,d,I,q,F⟩=>by
 unfold QQ at q
 split at q
 · rename_i t e0
   obtain ⟨o,s,h1,h2,rfl,v,rfl,h3⟩:=I.sl i _ e0
   refine ⟨v,h2,ρ,O,_,I,q,fun y hy w H1 s1 a1=>?_⟩
   exact ht Z tm O ρ σ H1 t y v w _ _ (I.same s1) (.inl (h3.same s1)) a1 hy fun r hr z H2 s2 k=>F.nx _ _ _ H2 (k.env.put hp k.at) hr
 · exact q.elim
def V7 (is:List Nat) (g:FS):FS:=fun d ρ=>g d (is.foldl (fun ρ i=>match ρ[i]? with
 | some (some (t,true))=>ρ.set i (some (t,false))
 | _=>ρ) ρ)
theorem qb {K:PySem.W.Frag} {tm:List (T×V)}:∀ (is:List Nat) {O:List (Option Addr)} {ρ:En} {σ:St} {H:Hp},(∀ i∈is,aZ Z i)→aA K Z tm O ρ σ H→∃ O',aA K Z tm O' (is.foldl (fun ρ i=>match ρ[i]? with
 | some (some (t,true))=>ρ.set i (some (t,false))
 | _=>ρ) ρ) σ H
 | [],O,ρ,σ,H,_,I=>⟨O,I⟩
 | i :: is,O,ρ,σ,H,hp,I=>by
   rw [List.foldl_cons]
   have TV:∀ j∈is,aZ Z j:=fun j hj=>hp j (i_ _ hj)
   split
   · rename_i t e
     exact qb is TV (I.vT (hp i gq) e)
   · exact qb is TV I
theorem HP (is:List Nat) (h:lU X Z rest g) (hp:∀ i∈is,aZ Z i):lU X Z rest (V7 is g):=.mk fun tm=>oR.tw (h tm) fun D σ H ⟨ρ,O,d,I,q,F⟩=>let ⟨O',I'⟩:=qb is hp I; ⟨_,O',d,I',q,F⟩
end
section
variable {X:Cx} {Z:Zc} {e a b:Expr} {es:List Expr} {pos apos a9:Pos}
theorem aA.root {K:PySem.W.Frag} {tm:List (T×V)} {O:List (Option Addr)} {ρ:En} {σ:St} {H:Hp} (I:aA K Z tm O ρ σ H) {k:Nat} {t:T} (e:ρ[k]?=some (some (t,true))):∃ a,O[k]?=some (some a)∧σ[k]?=some (some (.ref a))∧cA K H (av Z O) a t:=by
 obtain ⟨o,s,h1,h2,a,rfl,rfl,h3⟩:=I.sl k _ e
 exact ⟨a,h1,h2,h3⟩
def AH (k:Nat) (g:FA) (p:List T→List T→(List T→T→Prop)→Prop):FX:=fun ρ Q=>match ρ[k]? with
 | some (some (.lst ts,true))=>g ρ fun vs=>p ts vs fun kG r=>Q (ρ.set k (some (.lst kG,true))) (.vw r)
 | _=>False
def QR (K:PySem.W.Frag) (r:V→List V→Hp→VK→Prop) (p:List T→List T→(List T→T→Prop)→Prop):Prop :=
 ∀ (H:Hp) (A:List Addr) (l:Addr) (xs:List V) (ts us:List T) (vs:List V) (q:List T→T→Prop) (Q:VK),l∈A→H l=some (.lst xs)→aI K H A ts xs→aI K H A us vs→p ts us q →
  (∀ kG t,q kG t→∀ TX v,aI K H A kG TX→At K H A t v→Q v (upd H l (.lst TX)))→r (.ref l) vs H Q
theorem AI {r:V→List V→Hp→VK→Prop} {p:List T→List T→(List T→T→Prop)→Prop} (hm:QR X.K r p) {k:Nat} {g:FA} {tm:List (T×V)} {σ:St} {H:Hp} {Q:VK} (h:lX X Z tm (AH k g p) σ H Q) :
  ∃ l,σ[k]?=some (some (.ref l))∧(∃ xs,gm X.K H l xs)∧lA X Z tm g σ H fun vs H1=>r (.ref l) vs H1 Q:=by
 obtain ⟨ρ,O,q,I,hf,kk⟩:=h
 unfold AH at hf
 split at hf
 · rename_i ts e0
   obtain ⟨l,h1,h2,xs,h3,h4⟩:=I.root e0
   refine ⟨l,h2,⟨xs,gm.of h3⟩,ρ,O,_,I,hf,fun us Vh vs H1 s1 a1=>?_⟩
   have J:=I.same s1
   have ha:l∈av Z O:=mX _ (aN.mpr (mV h1))
   refine hm H1 (av Z O) l xs ts us vs _ Q ha (s1 _ _ h3) (h4.same s1) a1 Vh fun kG t ht TX v b1 b2=>?_
   exact kk _ _ ht O _ _ ⟨J.wrote e0 h1 ⟨TX,aQ,b1.wrote ha (s1 _ _ h3) rfl⟩,b2.wrote ha (s1 _ _ h3) rfl⟩
 · exact hf.elim
theorem tD (k:Nat) {x name:Str} {id:String} {p:Pos} {g:FA} {r:V→List V→Hp→VK→Prop} {pp:List T→List T→(List T→T→Prop)→Prop} (slot:Slot "list" name id) (Mr:typeOf (.builtin id)=pure (.type "method_descriptor")) (hm:BB X id r) (ht:QR X.K r pp) (ha:VA X Z (e :: es) g)
  (hN:X.N[k]?=some x:=by rfl) (hv:rQ X.env.scope x:=by first | exact Or.inl rfl | exact Or.inr (Or.inl rfl) | exact Or.inr (Or.inr rfl)) (hd:gk x:=by decide)
  (iy:vR x:=by decide) (eX:attributeBase (.Name x p) name X.env (eval (.Name x p) X.env)=eval (.Name x p) X.env:=by rfl)
  (ny:((backTo a9 (starEach (e :: es) X.env)).all (fun x=>!x.1) && (backToKw a9 (keywordEach [] X.env)).all (fun x=>x.1.isSome)
    && decide ((e :: es).length+([]:List Keyword).length+(if ([]:List Keyword).isEmpty then 0 else 1) < 30))=true:=by rfl)
  (eY:(apos.endLine == a9.line)=true:=by rfl) (hs:starEach (e :: es) X.env=(false,eval e X.env) :: starEach es X.env:=by rfl) (d7:(backTo a9 (starEach es X.env)).any (·.1)=false:=by rfl) :
  VX X Z (.Call (.Attribute (.Name x p) name apos) (e :: es) [] a9) (AH k g pp):=.mk fun tm =>
 PE.weak (sZ Th slot Mr hm (cD hN hv hd iy) (ha tm) eX ny eY hs d7) fun σ H Q h =>
  let ⟨l,h1,h2,h3⟩:=AI ht h; ⟨.ref l,h1,.inl ⟨rfl,h2⟩,h3⟩
theorem yE (k:Nat) {x name:Str} {id:String} {p:Pos} {r:V→List V→Hp→VK→Prop} {pp:List T→List T→(List T→T→Prop)→Prop} (slot:Slot "list" name id) (Mr:typeOf (.builtin id)=pure (.type "method_descriptor")) (hm:BB X id r) (ht:QR X.K r pp)
  (hN:X.N[k]?=some x:=by rfl) (hv:rQ X.env.scope x:=by first | exact Or.inl rfl | exact Or.inr (Or.inl rfl) | exact Or.inr (Or.inr rfl)) (hd:gk x:=by decide)
  (iy:vR x:=by decide) (eX:attributeBase (.Name x p) name X.env (eval (.Name x p) X.env)=eval (.Name x p) X.env:=by rfl)
  (eY:(apos.endLine == a9.line)=true:=by rfl):VX X Z (.Call (.Attribute (.Name x p) name apos) [] [] a9) (AH k DV pp):=.mk fun tm =>
 PE.weak (Mq Th slot Mr hm (cD hN hv hd iy) eX eY) fun σ H Q h=>by
  obtain ⟨l,h1,h2,ρ,O,q,I,hf,kk⟩:=AI ht h
  exact ⟨.ref l,h1,.inl ⟨rfl,h2⟩,kk [] hf [] H (aM.refl H) aI.nil⟩
def AJ (ts us:List T) (q:List T→T→Prop):Prop:=match us with
 | [t]=>ts.length < sizeLine∧q (ts ++ [t]) .bb
 | _=>False
theorem ez {K:PySem.W.Frag}:QR K AD AJ:=by
 intro H A l xs ts us vs q Q hl hH h1 h2 hp k
 unfold AJ at hp
 split at hp
 · obtain ⟨v,rfl,a⟩:=cw (aI.iff.mp h2)
   exact ⟨l,xs,v,rfl,rfl,hH,by rw [h1.length]; exact hp.1,k _ _ hp.2 _ _ (h1.append (aI.cons a aI.nil)) nz⟩
 · exact hp.elim
def V8 (ts us:List T) (q:List T→T→Prop):Prop:=us=[]∧∃ t,ts[ts.length - 1]?=some t∧q ts.dropLast t
theorem aI.dropLast {K:PySem.W.Frag} {H:Hp} {A:List Addr} {ts:List T} {vs:List V} (h:aI K H A ts vs):aI K H A ts.dropLast vs.dropLast:=by
 rw [List.dropLast_eq_take,List.dropLast_eq_take,h.length]
 exact h.take _
theorem uI {K:PySem.W.Frag}:QR K Qq V8:=by
 intro H A l xs ts us vs q Q hl hH h1 h2 hp k
 obtain ⟨rfl,t,e1,hq⟩:=hp
 have e:vs=[]:=by simpa only [aI] using h2
 obtain ⟨v,e2,a⟩:=h1.get e1
 exact ⟨l,xs,v,rfl,e,hH,by rw [h1.length]; exact e2,k _ _ hq _ _ h1.dropLast a⟩
def KQ (k:Nat) (f fi:FE):FS:=fun d ρ=>match ρ[k]? with
 | some (some (.lst ts,true))=>f ρ fun v=>fi ρ fun i=>match i with
   | .int j=>∃ n,vU ts.length j=some n∧d.nx (ρ.set k (some (.lst (ts.set n v),true)))
   | _=>False
 | _=>False
theorem jw (k:Nat) {x:Str} {p:Pos} {f fi:FE} {i:Expr} {rT:Pos} (he:VE X Z e f) (hi:VR X Z i fi)
  (hN:X.N[k]?=some x:=by rfl) (hv:rQ X.env.scope x:=by first | exact Or.inl rfl | exact Or.inr (Or.inl rfl) | exact Or.inr (Or.inr rfl)) (hd:gk x:=by decide)
  (iy:vR x:=by decide)
  (ha:∀ v,assign (.Subscript (.Name x p) i rT) X.env v=(do
    let ov ← holding [v] (eval (.Name x p) X.env)
    let iv ← holding [v,ov] (eval i X.env)
    standAt rT
    holding [v,ov,iv] (setItem ov iv v)
    release [v,ov,iv] []):=by intro _; rfl)
  (hs:swapsWithSole [.Subscript (.Name x p) i rT] e pos.line X.env=pure false:=by rfl) (hw:swappedStores [.Subscript (.Name x p) i rT] e X.env=pure none:=by rfl)
  (h1:(assignEach [.Subscript (.Name x p) i rT] X.env).map (·.2)=[assign (.Subscript (.Name x p) i rT) X.env]:=by rfl):VS X Z (.Assign [.Subscript (.Name x p) i rT] e pos) (KQ k f fi):=.mk fun tm =>
 PS.weak (LZ (he tm) (LY (cD hN hv hd iy) (hi tm) set_list ha) hs hw h1) fun D σ H ⟨ρ,O,d,I,q,F⟩=>by
  unfold KQ at q
  split at q
  · rename_i ts e0
    obtain ⟨l,h1,h2,xs,h3,h4⟩:=I.root e0
    have ha:l∈av Z O:=mX _ (aN.mpr (mV h1))
    refine ⟨ρ,O,_,I,q,fun t ht v H1 s1 a1=>⟨.ref l,h2,ρ,O,_,I.same s1,ht,fun j hj w H2 s2 a2=>?_⟩⟩
    split at hj
    · obtain ⟨n,e1,hj⟩:=hj
      refine ⟨l,xs,_,n,rfl,a2.int,s2 _ _ (s1 _ _ h3),by rw [h4.length]; exact e1,?_⟩
      refine F.nx O _ σ _ (((I.same s1).same s2).wrote (t':=.lst (ts.set n t)) e0 h1 ⟨xs.set n v,aQ,?_⟩) hj
      exact aI.wrote ha (s2 _ _ (s1 _ _ h3)) rfl (((h4.same s1).same s2).set n (a1.same s2))
    · exact hj.elim
  · exact q.elim
theorem aA.give {K:PySem.W.Frag} {tm:List (T×V)} {O:List (Option Addr)} {ρ:En} {σ:St} {H:Hp} (I:aA K Z tm O ρ σ H) {i:Nat} {t:T} (hp:aZ Z i) (hi:ρ[i]?=some (some (t,true))):∃ a,σ[i]?=some (some (.ref a))∧jo K Z tm (O.set i none) (ρ.set i none) σ H (.fr t) (.ref a):=by
 obtain ⟨a,h1,h2,h3⟩:=I.root hi
 have ha:a∈roots O:=aN.mpr (mV h1)
 obtain ⟨o1,o2,o3⟩:=I.own a ha
 have J:=I.forget hp
 have J2:=I.vT hp hi
 have na:a∉roots (O.set i none):=fun z=>by
  obtain ⟨o,s,g1,g2,g3,v,g4,g5⟩:=J2.sl i (some (t,false)) (by rw [Ao (by rw [← I.lO]; exact (e_.mp h1).1)])
  rw [h2] at g2
  cases g2
  cases g4
  have nn:a∉av Z (O.set i none):=by
   obtain ⟨u,eu,mu⟩:=h3.mut
   cases t with
   | lst ts=>simp only [At] at g5; obtain ⟨b,vs,eb,l,_⟩:=g5; cases eb; rcases l with l | ⟨oo,_,_,lk,_⟩
             · exact l.2
             · exact fun z2=>by
                have key:∀ (O:List (Option Addr)) (i:Nat),O[i]?=some (some a)→(roots O).Nodup→a∉roots (O.set i none):=by
                 intro O
                 induction O with
                 | nil=>intro i h; simp at h
                 | cons o O ih =>
                   intro i h nd
                   cases i with
                   | zero =>
                     have:o=some a:=by simpa using h
                     subst this
                     simp only [roots,Tr,pb,id] at nd ⊢
                     exact (rP.mp nd).1
                   | succ i =>
                     have h':O[i]?=some (some a):=by simpa using h
                     cases o with
                     | none=>simp only [roots,OQ,pb,id] at nd ⊢; exact ih i h' nd
                     | some b =>
                       simp only [roots,OQ,pb,id] at nd ⊢
                       rw [rP] at nd
                       intro z
                       rcases fg.mp z with z | z
                       · exact nd.1 (by rw [← z]; exact aN.mpr (mV h'))
                       · exact ih i h' nd.2 z
                rcases mY.mp z2 with z2 | z2
                · exact key O i h1 I.nd z2
                · exact o2 z2
   | dk ks ts=>simp only [At] at g5; obtain ⟨b,vs,eb,_,d,_⟩:=g5; cases eb; exact d.2
   | dt ks ts=>simp only [At] at g5; obtain ⟨b,vs,eb,_,d,_⟩:=g5; cases eb; exact d.2
   | ins C ns ts=>simp only [At] at g5; obtain ⟨b,dx,vs,eb,_,d,_⟩:=g5; cases eb; exact d.2
   | _=>exact h3.elim
  exact nn (mX _ z)
 have hP:Z.H0 a=none:=by
  rcases o1 with z | z
  · obtain ⟨p,Zx,rfl⟩:=Bp.mp z
    have:=J.par p Zx
    exact absurd (aN.mpr (mV this)) na
  · exact z
 have sub:∀ b∈av (Z.ex a) (O.set i none),b∈av Z O:=fun b hb=>by
  rcases dD b hb with z | z
  · exact b8 i b z
  · rw [z]; exact mX _ ha
 refine ⟨a,h2,a,rfl,⟨J.lσ,J.lO,fun j e h=>?_,J.nd,fun b hb=>?_,J.par,fun b hb=>?_,J.keep,fun p hp=>(I.pB p hp).bh sub⟩,h3.bh sub,hP,o2⟩
 · rcases get_set h with ⟨rfl,rfl,hl⟩ | ⟨ne,h⟩
   · obtain ⟨o,s,g1,g2,g3⟩:=J.sl j none (by rw [Ao hl])
     exact ⟨o,s,g1,g2,g3⟩
   · obtain ⟨o,s,g1,g2,g3⟩:=I.sl j e h
     exact ⟨o,s,by rw [vY (Ne.symm ne)]; exact g1,g2,g3.map (fun _ _ q=>q.bh sub) fun _ _ _ q=>q.bh sub⟩
 · obtain ⟨q1,q2,q3⟩:=J.own b hb
   refine ⟨q1,fun z=>?_,q3⟩
   rcases fg.mp z with z | z
   · exact na (by rw [← z]; exact hb)
   · exact q2 z
 · rcases fg.mp hb with z | z
   · obtain ⟨u,eu,_⟩:=o3; rw [z,eu]; simp
   · exact I.ox b z
def KR (i:Nat):FX:=fun ρ Q=>match ρ[i]? with
 | some (some (t,true))=>Q (ρ.set i none) (.fr t)
 | some (some (t,false))=>Q ρ (.vw t)
 | _=>False
theorem lV (i:Nat) {x:Str} (hp:aZ Z i) (hN:X.N[i]?=some x:=by rfl) (hv:rQ X.env.scope x:=by first | exact Or.inl rfl | exact Or.inr (Or.inl rfl) | exact Or.inr (Or.inr rfl)) (hd:gk x:=by decide)
  (iy:vR x:=by decide):VX X Z (.Name x pos) (KR i):=.mk fun tm=>PE.weak (cD hN hv hd iy) fun σ H Q ⟨ρ,O,q,I,hf,k⟩=>by
 unfold KR at hf
 split at hf
 · rename_i t e
   obtain ⟨a,h1,h2⟩:=I.give hp e
   exact ⟨_,h1,k _ _ hf _ _ H h2⟩
 · rename_i t e
   obtain ⟨o,s,h1,h2,rfl,v,rfl,h3⟩:=I.sl i _ e
   exact ⟨v,h2,k _ _ hf O v H ⟨I,h3⟩⟩
 · exact hf.elim
end
theorem aA.wz {K:PySem.W.Frag} {Z:Zc} {tm Yl:List (T×V)} {O:List (Option Addr)} {ρ:En} {σ:St} {H:Hp} (I:aA K Z tm O ρ σ H) (h:∀ p∈Yl,At K H (av Z O) p.1 p.2):aA K Z Yl O ρ σ H :=
 ⟨I.lσ,I.lO,I.sl,I.nd,I.own,I.par,I.ox,I.keep,h⟩
theorem jo.wz {K:PySem.W.Frag} {Z:Zc} {bM tm:List (T×V)} {O:List (Option Addr)} {ρ:En} {σ:St} {H:Hp} {r:Rt} {v:V} (h:jo K Z (bM ++ tm) O ρ σ H r v):jo K Z tm O ρ σ H r v:=by
 cases r with
 | vw t=>exact ⟨h.1.wz fun p hp=>h.1.pB p (k8 _ hp),h.2⟩
 | fr t=>obtain ⟨a,e,I,q⟩:=h; exact ⟨a,e,I.wz fun p hp=>I.pB p (k8 _ hp),q⟩
def Wk (K:PySem.W.Frag) (J:It) (bM:List (T×V)) (ts:List T):Prop:=∀ H A,(∀ a∈A,H a≠none)→(∀ p∈bM,At K H A p.1 p.2)→∀ i:Nat,
 (i < ts.length→J.go i H)∧(ts.length=i→J.stop i H)∧∀ t,ts[i]?=some t→∀ x H',J.O5 i H x H'→aM H H'∧At K H' A t x
abbrev FI:=En→(List T→Prop)→Prop
def lI (X:Cx) (Z:Zc) (tm:List (T×V)) (f:FI):TI:=fun σ H R=>∃ ρ O q,aA X.K Z tm O ρ σ H∧f ρ q∧∀ ts,q ts→∀ J H' bM,aM H H'→(∀ p∈bM,At X.K H' (av Z O) p.1 p.2)→Wk X.K J bM ts→R J H'
def VI (X:Cx) (Z:Zc) (tg iter:Expr) (f:FI):Prop:=Bx fun tm=>PI X tg iter (lI X Z tm f)
instance {X:Cx} {Z:Zc} {tg iter:Expr} {f:FI}:CoeFun (VI X Z tg iter f) fun _=>∀ tm,PI X tg iter (lI X Z tm f):=⟨fun h=>Bx.h h⟩
theorem PI.weak {X:Cx} {tg e:Expr} {t t':TI} (h:PI X tg e t) (hw:∀ σ H R,t' σ H R→t σ H R):PI X tg e t':=fun pins s σ H R I q=>h pins s σ H R I (hw _ _ _ q)
theorem PG.weak {X:Cx} {tg:Expr} {t t':TG} (h:PG X tg t) (hw:∀ v σ H Q,t' v σ H Q→t v σ H Q):PG X tg t':=fun pins s σ H v u Q I r q=>h pins s σ H v u Q I r (hw _ _ _ _ q)
theorem Dx.weak {X:Cx} {tg:List Expr} {t t':G7} (h:Dx X tg t) (hw:∀ v σ H Q,t' v σ H Q→t v σ H Q):Dx X tg t':=fun pins s σ H v u Q I r q=>h pins s σ H v u Q I r (hw _ _ _ _ q)
def V9 (K:PySem.W.Frag) (tl:TE):TI:=fun σ H R=>tl σ H fun x H1=>(∃ a,x = .ref a∧(∃ xs,gm K H1 a xs)∧R (U8 K a) H1)∨(∃ a,x = .ref a∧(∃ xs,dY K H1 a xs)∧R (U9 K a) H1)∨∃ z,x = .str z∧R (TU z) H1
section
variable {X:Cx} {Z:Zc} {tg:Expr}
theorem MT {l:Expr} {tl:TE} (hl:PE X l tl):PI X tg l (V9 X.K tl):=by
 intro pins s σ H R I h
 refine bT (hl pins s σ H _ I h) fun v s1 ⟨x,H1,I1,r1,q1⟩=>?_
 rcases q1 with ⟨a,e,hq,q⟩ | ⟨a,e,hq,q⟩ | ⟨z,e,q⟩
 · subst e
   cases r1
   obtain ⟨xs,hq⟩:=hq
   obtain ⟨aP,rv,p,hz⟩:=I1.list hq
   refine wpAny_pyIter_list p.isList ?_
   refine ⟨s1.heap.objs.size,[s1.heap.objs.size],_,_,H1,rfl,I1.kept (t':=s1.toks) fun b o e=>dH _ e,Bu a _,⟨_,pd _ rfl,rfl,rfl⟩,fun b hb=>?_,q⟩
   have e:b=s1.heap.objs.size:=by simpa using hb
   subst e
   exact I1.rS (cZ _) (I1.bB.fresh (cZ _))
 · subst e
   cases r1
   obtain ⟨xs,hq⟩:=hq
   obtain ⟨aP,rv,p,hz⟩:=I1.tuple hq
   refine wpAny_pyIter_tuple (show s1.heap.IsTuple a aP.toArray from p) ?_
   refine ⟨s1.heap.objs.size,[s1.heap.objs.size],_,_,H1,rfl,I1.kept (t':=s1.toks) fun b o e=>dH _ e,yk a _,⟨_,pd _ rfl,rfl,rfl⟩,fun b hb=>?_,q⟩
   have e:b=s1.heap.objs.size:=by simpa using hb
   subst e
   exact I1.rS (cZ _) (I1.bB.fresh (cZ _))
 · subst e
   obtain ⟨t,rfl⟩:=r1
   refine wpAny_pyIter_strU ?_
   have I2:Inv X pins σ H1 { s1 with heap:=s1.heap.push { cls:=.type (strIterType z),data:=.fields #[.str z t,.int 0 0] } }:=I1.kept (t':=s1.toks) fun b o e=>dH _ e
   refine ⟨s1.heap.objs.size,[s1.heap.objs.size],_,_,H1,rfl,I2,DS z t _,⟨_,pd _ rfl,rfl,rfl⟩,fun b hb=>?_,q⟩
   have e:b=s1.heap.objs.size:=by simpa using hb
   subst e
   exact I1.rS (cZ _) I1.fresh
def V_ (f:FE):FI:=fun ρ Q=>f ρ fun t=>match t with
 | .lst ts=>Q ts
 | .tup ts=>Q ts
 | .str z=>Q (z.cps.toList.map fun c=>.str ⟨#[c]⟩)
 | _=>False
theorem HQ {K:PySem.W.Frag} {a:Addr} {ts:List T}:Wk K (U8 K a) [(.lst ts,.ref a)] ts:=fun H A hA h i=>by
 have h:=h _ gq
 simp only [At] at h
 obtain ⟨b,vs,e,l,q⟩:=h
 cases e
 have hl:=q.length
 refine ⟨fun hi=>⟨vs,vs[i]'(by omega),l.sq,by simp⟩,fun hi=>⟨vs,l.sq,by omega⟩,fun t ht x H' y=>?_⟩
 obtain ⟨rfl,y⟩:=y
 obtain ⟨v,e1,e2⟩:=q.get ht
 have:=y vs l.sq
 rw [e1] at this
 cases this
 exact ⟨aM.refl _,e2⟩
theorem MU {K:PySem.W.Frag} {a:Addr} {ts:List T}:Wk K (U9 K a) [(.tup ts,.ref a)] ts:=fun H A hA h i=>by
 have h:=h _ gq
 simp only [At] at h
 obtain ⟨b,vs,e,l,q⟩:=h
 cases e
 have hl:=q.length
 refine ⟨fun hi=>⟨vs,vs[i]'(by omega),l,by simp⟩,fun hi=>⟨vs,l,by omega⟩,fun t ht x H' y=>?_⟩
 obtain ⟨rfl,y⟩:=y
 obtain ⟨v,e1,e2⟩:=q.get ht
 have:=y vs l
 rw [e1] at this
 cases this
 exact ⟨aM.refl _,e2⟩
theorem MV {K:PySem.W.Frag} {z:Str}:Wk K (TU z) [] (z.cps.toList.map fun c=>T.str ⟨#[c]⟩):=fun H A hA h i=>by
 refine ⟨fun hi=>by rw [cV,Lz] at hi; exact hi,fun hi=>by rw [cV,Lz] at hi; exact Nat.le_of_eq hi,fun t ht x H' y=>?_⟩
 obtain ⟨rfl,c,hc,rfl⟩:=y
 rw [lj,Array.getElem?_toList,hc] at ht
 cases ht
 exact ⟨aM.refl _,bF⟩
theorem iG {l:Expr} {f:FE} (h:VE X Z l f):VI X Z tg l (V_ f):=.mk fun tm=>PI.weak (MT (h tm)) fun σ H R ⟨ρ,O,q,I,hf,k⟩=>⟨ρ,O,_,I,hf,fun t ht v H' s a=>by
 split at ht
 · have a0:=a
   simp only [At] at a
   obtain ⟨p,vs,rfl,l,_⟩:=a
   exact .inl ⟨p,rfl,⟨vs,l.sq⟩,k _ ht _ H' _ s (fun p hp=>by rw [vZ.mp hp]; exact a0) HQ⟩
 · have a0:=a
   simp only [At] at a
   obtain ⟨p,vs,rfl,l,_⟩:=a
   exact .inr (.inl ⟨p,rfl,⟨vs,l⟩,k _ ht _ H' _ s (fun p hp=>by rw [vZ.mp hp]; exact a0) MU⟩)
 · have e:=a
   simp only [At] at e
   exact .inr (.inr ⟨_,e,k _ ht _ H' [] s (fun p hp=>nomatch hp) MV⟩)
 · exact ht.elim⟩
def rangeT (lo:Int) (n:Nat):List T:=(List.range n).map fun i=>T.int (lo+((i:Nat):Int))
theorem Ec {K:PySem.W.Frag} {lo:Int} {n:Nat}:Wk K (TF lo n) [] (rangeT lo n):=fun H A hA h i=>by
 unfold rangeT
 refine ⟨fun hi=>by rw [cV,OR] at hi; exact hi,fun hi=>by rw [cV,OR] at hi; exact Nat.le_of_eq hi,fun t ht x H' y=>?_⟩
 obtain ⟨rfl,rfl⟩:=y
 rw [lj] at ht
 cases e:(List.range n)[i]? with
 | none=>rw [e] at ht; cases ht
 | some j =>
   rw [e] at ht
   have hj:j=i:=by
    have:=e_.mp e
    obtain ⟨h1,h2⟩:=this
    simpa using h2.symm
   subst hj
   cases ht
   exact ⟨aM.refl _,bx⟩
def Ym (ts:List T) (Q:List T→Prop):Prop:=match ts with
 | [.int j]=>-(2 ^ 62)≤j∧j < 2 ^ 62∧Q (rangeT 0 j.toNat)
 | _=>False
def MW (g:FA) (p:List T→(List T→Prop)→Prop):FI:=fun ρ Q=>g ρ fun ts=>p ts Q
theorem fG {a:Expr} {g:FE} {p pos:Pos} (hg:Gl X "range") (hm:X.mg "range" = none) (ha:VR X Z a g) (hs:starEach [a] X.env=[(false,eval a X.env)]:=by rfl) :
  VI X Z tg (.Call (.Name "range" p) [a] [] pos) (MW (wu g DV) Ym):=.mk fun tm=>PI.weak (Bv hg hm ((aq ha ay hs) tm) hs) fun σ H R ⟨ρ,O,q,I,hf,k⟩=>⟨ρ,O,_,I,hf,fun ts gG vs H' s a=>by
 unfold Ym at gG
 split at gG
 · obtain ⟨v,rfl,a1⟩:=cw a
   exact ⟨_,by rw [a1.int],gG.1,gG.2.1,k _ gG.2.2 _ H' [] s (fun p hp=>nomatch hp) Ec⟩
 · exact gG.elim⟩
abbrev FG:=T→En→(En→Prop)→Prop
abbrev HR:=List T→En→(En→Prop)→Prop
def lG (X:Cx) (Z:Zc) (tm:List (T×V)) (is:List Nat) (h:FG):TG:=fun v σ H Q=>∃ ρ O t q,aA X.K Z tm O ρ σ H∧At X.K H (av Z O) t v∧h t ρ q∧∀ ρ',q ρ'→∀ O' σ',aA X.K Z tm O' ρ' σ' H→(∀ a∈roots O',a∈roots O)→(∀ (j:Nat),j∉is→O'[j]?=O[j]?)→σ'.length=σ.length→(∀ (j:Nat),j∉is→σ'[j]?=σ[j]?)→Q σ' H
def Yn (X:Cx) (Z:Zc) (tm:List (T×V)) (is:List Nat) (h:HR):G7:=fun vs σ H Q=>∃ ρ O ts q,aA X.K Z tm O ρ σ H∧aI X.K H (av Z O) ts vs∧h ts ρ q∧∀ ρ',q ρ'→∀ O' σ',aA X.K Z tm O' ρ' σ' H→(∀ a∈roots O',a∈roots O)→(∀ (j:Nat),j∉is→O'[j]?=O[j]?)→σ'.length=σ.length→(∀ (j:Nat),j∉is→σ'[j]?=σ[j]?)→Q σ' H
def VG (X:Cx) (Z:Zc) (tg:Expr) (is:List Nat) (h:FG):Prop:=Bx fun tm=>PG X tg (lG X Z tm is h)
instance {X:Cx} {Z:Zc} {tg:Expr} {is:List Nat} {h:FG}:CoeFun (VG X Z tg is h) fun _=>∀ tm,PG X tg (lG X Z tm is h):=⟨fun h=>Bx.h h⟩
def QS (X:Cx) (Z:Zc) (TY:List Expr) (is:List Nat) (h:HR):Prop:=Bx fun tm=>Dx X TY (Yn X Z tm is h)
instance {X:Cx} {Z:Zc} {TY:List Expr} {is:List Nat} {h:HR}:CoeFun (QS X Z TY is h) fun _=>∀ tm,Dx X TY (Yn X Z tm is h):=⟨fun h=>Bx.h h⟩
def hName (i:Nat):FG:=fun t ρ Q=>Q (ρ.set i (some (t,false)))
theorem aW {i:Nat} {x:Str} {pos:Pos} (hN:X.N.Nodup) (hi:X.N[i]?=some x) (hx:Loc X.env.scope x) (hp:aZ Z i) (hf:X.fn x=true∨X.env.scope.names.lookup x=some .local:=by first | exact .inl rfl | exact .inr rfl | assumption) :
  VG X Z (.Name x pos) [i] (hName i):=.mk fun tm=>PG.weak (G8 hN hi hx hf) fun v σ H Q ⟨ρ,O,t,q,I,a,h,k⟩ =>
 k _ h _ _ (I.put hp a) (cq i) (fun j hj=>vY (fun e=>hj (by simp [e]))) (by simp) fun j hj=>vY (fun e=>hj (by simp [e]))
def V':HR:=fun ts ρ Q=>ts=[]∧Q ρ
def KS (h:FG) (hs:HR):HR:=fun ts ρ Q=>match ts with
 | t :: r=>h t ρ fun ρ'=>hs r ρ' Q
 | []=>False
def QT (n:Nat) (h:HR):FG:=fun t ρ Q=>match t with
 | .tup ts=>ts.length=n∧h ts ρ Q
 | _=>False
theorem eU:QS X Z [] [] V':=.mk fun tm=>Dx.weak G9 fun vs σ H Q ⟨ρ,O,ts,q,I,a,h,k⟩=>by
 obtain ⟨rfl,h⟩:=h
 have e:vs=[]:=by simpa only [aI] using a
 exact ⟨e,k _ h O σ I (fun _ z=>z) (fun _ _=>rfl) rfl fun _ _=>rfl⟩
theorem bo {e:Expr} {es:List Expr} {is js:List Nat} {h:FG} {hs:HR} (h1:VG X Z e is h) (h2:QS X Z es js hs)
  (Zy:(assignEach (e :: es) X.env).map (·.2)=assign e X.env :: (assignEach es X.env).map (·.2):=by rfl):QS X Z (e :: es) (is ++ js) (KS h hs):=.mk fun tm=>Dx.weak (Dy (h1 tm) (h2 tm) Zy) fun vs σ H Q ⟨ρ,O,ts,q,I,a,hh,k⟩=>by
 unfold KS at hh
 split at hh
 · simp only [aI] at a
   obtain ⟨v,r,rfl,a1,a2⟩:=a
   refine ⟨v,r,rfl,ρ,O,_,_,I,a1,hh,fun ρ' hρ O' σ' I' ro eo l e=>⟨ρ',O',_,q,I',a2.bh fun b hb=>?_,hρ,fun ρ2 h2 O2 σ2 I2 Zz ZA l2 e2=>k ρ2 h2 O2 σ2 I2 (fun a z=>ro a (Zz a z)) (fun j hj=>?_) (l2.trans l) fun j hj=>?_⟩⟩
   · rcases mY.mp hb with z | z
     · exact mX _ (ro b z)
     · exact k8 _ z
   · rw [mY,not_or] at hj
     exact (ZA j hj.2).trans (eo j hj.1)
   · rw [mY,not_or] at hj
     exact (e2 j hj.2).trans (e j hj.1)
 · exact hh.elim
theorem gJ {es:List Expr} {k:Nat} {is:List Nat} {h:HR} {n:Nat} {pos:Pos} (hc:X.calm=true) (hh:QS X Z es is h)
  (hn:(assignEach es X.env).length=n:=by rfl) (G_:(assignEach es X.env).findIdx? (·.1)=none:=by rfl):VG X Z (.Tuple es k pos) is (QT n h):=.mk fun tm=>PG.weak (LX hc (hh tm) hn G_) fun v σ H Q ⟨ρ,O,t,q,I,a,h',kk⟩=>by
 unfold QT at h'
 split at h'
 · simp only [At] at a
   obtain ⟨p,vs,rfl,s,a⟩:=a
   exact ⟨p,vs,rfl,s,a.length.trans h'.1,ρ,O,_,q,I,a,h'.2,kk⟩
 · exact h'.elim
def tE (ts:List T) (h:FG) (g:FS):FS:=fun d ρ=>∃ Pv:Nat→En→Prop,Pv 0 ρ∧(∀ (i:Nat) t ρ',ts[i]?=some t→Pv i ρ'→h t ρ' fun ρ2=>g { nx:=Pv (i+1),ct:=Pv (i+1),bk:=d.nx,rt:=d.rt } ρ2)∧∀ ρ',Pv ts.length ρ'→d.nx ρ'
def Wa (f:FI) (h:FG) (g:FS):FS:=fun d ρ=>f ρ fun ts=>tE ts h g d ρ
theorem dM {iter:Expr} {body:List Stmt} {f:FI} {is:List Nat} {h:FG} {g:FS} {pos:Pos} (hp:PassesOwn (model X.prog X.w) X.A X.env X.xe) (hc:X.calm=true) (hi:VI X Z tg iter f) (hg:VG X Z tg is h) (hb:lU X Z body g)
  (hs:∀ x,foldedSetIterable iter X.env x=pure x:=by intro _; rfl):VS X Z (.For tg iter body [] pos) (Wa f h g):=by
 refine .mk fun tm pins s σ H D I0 hw=>?_
 obtain ⟨ρ,O,d,I,q,F⟩:=hw
 refine L1 (wi:=lI X Z tm f) (g:=fun v σ H Q=>∃ bM,lG X Z (bM ++ tm) is h v σ H Q) (tb:=fun D σ H=>∃ bM,lS X Z (bM ++ tm) g D σ H) hp hc (hi tm) (fun pins s σ H v u Q I r ⟨bM,z⟩=>hg (bM ++ tm) pins s σ H v u Q I r z) (fun pins s σ H D I ⟨bM,z⟩=>hb (bM ++ tm) pins s σ H D I z) hs pins s σ H D I0 ?_
 refine ⟨ρ,O,_,I,q,fun ts gG J H' bM s a wk=>?_⟩
 obtain ⟨Pv,p0,step,fin⟩:=gG
 have J0:aA X.K Z (bM ++ tm) O ρ σ H':=(I.same s).wz fun p hp=>by
  rcases mY.mp hp with z | z
  · exact a p z
  · exact (I.same s).pB p z
 refine ⟨fun i m σ H=>m=ts.length - i∧i≤ts.length∧∃ ρ O,aA X.K Z (bM ++ tm) O ρ σ H∧Pv i ρ,⟨ts.length,by simp,ph _,ρ,O,J0,p0⟩,?_⟩
 rintro i m σ1 H1 ⟨rfl,hi,ρ1,O1,I1,p1⟩
 obtain ⟨w1,w2,w3⟩:=wk H1 (av Z O1) I1.Kz (fun p hp=>I1.pB p (mX _ hp)) i
 have un:∀ {O:List (Option Addr)} {ρ:En} {σ:St} {H:Hp},aA X.K Z (bM ++ tm) O ρ σ H→aA X.K Z tm O ρ σ H:=fun I=>I.wz fun p hp=>I.pB p (k8 _ hp)
 by_cases gF:i < ts.length
 · refine .inr ⟨w1 gF,fun σ' H'=>∃ ρ O,aA X.K Z (bM ++ tm) O ρ σ' H'∧Pv (i+1) ρ,fun σ' H' ⟨ρ',O',I',p'⟩=>⟨ts.length - (i+1),by omega,rfl,gF,ρ',O',I',p'⟩,fun x H2 y=>?_⟩
   have e:ts[i]?=some ts[i]:=by simp [gF]
   obtain ⟨s2,a2⟩:=w3 ts[i] e x H2 y
   refine ⟨bM,ρ1,O1,ts[i],_,I1.same s2,a2,step i _ ρ1 e p1,fun ρ2 h2 O2 σ2 I2 _ _ _ _=>⟨bM,ρ2,O2,_,I2,h2,?_⟩⟩
   exact ⟨fun O ρ σ H I p=>⟨ρ,O,I,p⟩,fun O ρ σ H r v z p=>F.rt O ρ σ H r v z.wz p,fun O ρ σ H I p=>F.nx O ρ σ H (un I) p,fun O ρ σ H I p=>⟨ρ,O,I,p⟩⟩
 · have e:i=ts.length:=by omega
   subst e
   exact .inl ⟨w2 (rfl),F.nx O1 ρ1 σ1 H1 (un I1) (fin ρ1 p1)⟩
end
theorem eA (O:List (Option Addr)) (n:Nat):roots (O ++ List.replicate n none)=roots O:=by
 unfold roots
 rw [List.filterMap_append]
 have:(List.replicate n (none:Option Addr)).filterMap id=[]:=by
  induction n with
  | zero=>rfl
  | succ n ih=>rw [C5,pb]; exact ih
 rw [this,Dm]
theorem aA.longer {K:PySem.W.Frag} {Z:Zc} {tm:List (T×V)} {O:List (Option Addr)} {ρ:En} {σ:St} {H:Hp} (I:aA K Z tm O ρ σ H) (n:Nat) {τ:St} (hτ:τ.length=n) :
  aA K Z tm (O ++ List.replicate n none) (ρ ++ List.replicate n none) (σ ++ τ) H:=by
 have ea:av Z (O ++ List.replicate n none)=av Z O:=by unfold av; rw [eA]
 refine ⟨by simp [I.lσ,hτ],by simp [I.lO],fun i e h=>?_,by rw [eA]; exact I.nd,fun a h=>I.own a (by rw [eA] at h; exact h),fun p hp=>?_,I.ox,I.keep,fun p hp=>by rw [ea]; exact I.pB p hp⟩
 · rw [ea]
   by_cases hi:i < ρ.length
   · rw [ux hi] at h
     obtain ⟨o,s,h1,h2,h3⟩:=I.sl i e h
     exact ⟨o,s,by rw [ux (by rw [I.lO]; exact hi)]; exact h1,by rw [ux (by rw [I.lσ]; exact hi)]; exact h2,h3⟩
   · rw [C4 (by omega),Dj] at h
     split at h
     · rename_i hl
       cases h
       refine ⟨none,τ[i - σ.length]'(by rw [I.lσ,hτ]; exact hl),?_,?_,rfl⟩
       · rw [C4 (by rw [I.lO]; omega),Dj,if_pos (by rw [I.lO]; exact hl)]
       · rw [C4 (by rw [I.lσ]; omega)]; simp
     · cases h
 · have:=I.par p hp
   have hl:=(e_.mp this).1
   rw [ux hl]; exact this
theorem aA.Ed {K:PySem.W.Frag} {Z:Zc} {tm:List (T×V)} {O:List (Option Addr)} {ρ:En} {σ:St} {H:Hp} {a:Addr} {u o:HO} (I:aA K (Z.ex a) tm O ρ σ H) (hu:H a=some u) (hm:wq u=true) (h0:Z.H0 a=none):aA K (Z.ex a) tm O ρ σ (upd H a o):=by
 have Hz:a∈av (Z.ex a) O:=k8 _ gq
 have nr:∀ b∈roots O,b≠a:=fun b hb e=>(I.own b hb).2.1 (by rw [e]; exact gq)
 refine ⟨I.lσ,I.lO,fun i e h=>?_,I.nd,fun b hb=>?_,I.par,fun b hb=>?_,fun b o' e n=>?_,fun p hp=>(I.pB p hp).wrote Hz hu hm⟩
 · obtain ⟨o',s,h1,h2,h3⟩:=I.sl i e h
   refine ⟨o',s,h1,h2,h3.map (fun _ _ q=>q.wrote Hz hu hm) fun b t e q=>?_⟩
   subst e
   exact q.map (aK (nr b (aN.mpr (mV h1)))) fun _ _ z=>z.wrote Hz hu hm
 · obtain ⟨q1,q2,v,e,m⟩:=I.own b hb
   exact ⟨q1,q2,v,by rw [aK (nr b hb)]; exact e,m⟩
 · by_cases e:b=a
   · subst e; rw [aQ]; simp
   · rw [aK e]; exact I.ox b hb
 · have:b≠a:=fun e'=>by
    subst e'
    have e2:Z.H0 b=some o':=e
    rw [h0] at e2; cases e2
   rw [aK this]; exact I.keep b o' e n
def cL (h:FG) (fc:FB) (fe:FE) (ρ:En):List T→(List T→Prop)→Prop
 | [],Q=>Q []
 | t :: ts,Q=>h t ρ fun ρ2=>fc ρ2 fun b=>if b=true then fe ρ2 fun u=>cL h fc fe ρ ts fun us=>Q (u :: us) else cL h fc fe ρ ts Q
def AK (n:Nat) (is:List Nat) (f:FI) (h:FG) (fc:FB) (fe:FE):FP:=fun ρ Q=>(is.all fun j=>decide (ρ.length≤j))=true∧f ρ fun ts=>ts.length≤sizeLine∧cL h fc fe (ρ ++ List.replicate n none) ts fun us=>Q (.fr (.lst us))
def O7 (X:Cx) (Z:Zc) (ifs:List Expr) (f:FB):Prop:=Bx fun tm=>DQ X ifs (lB X Z tm f)
instance {X:Cx} {Z:Zc} {ifs:List Expr} {f:FB}:CoeFun (O7 X Z ifs f) fun _=>∀ tm,DQ X ifs (lB X Z tm f):=⟨fun h=>Bx.h h⟩
def Ee:FB:=fun _ Q=>Q true
theorem DQ.weak {X:Cx} {e:List Expr} {t t':TT} (h:DQ X e t) (hw:∀ σ H Q,t' σ H Q→t σ H Q):DQ X e t':=fun pins s σ H Q I q=>h pins s σ H Q I (hw _ _ _ q)
section
variable {X:Cx} {Z:Zc}
theorem gu:O7 X Z [] Ee:=.mk fun tm=>DQ.weak Hr fun σ H Q ⟨ρ,O,q,I,h,k⟩=>k true h H (aM.refl H)
theorem uJ {c:Expr} {f:FB} (h:VC X Z c f):O7 X Z [c] f:=.mk fun tm=>Hs (h tm)
def cG (X:Cx) (Z:Zc) (tm:List (T×V)) (is:List Nat) (h:FG):TG:=fun v σ H Q=>∃ D bM,lG X (Z.ex D) (bM ++ tm) is h v σ H Q
def cB (X:Cx) (Z:Zc) (tm:List (T×V)) (f:FB):TT:=fun σ H Q=>∃ D bM,lB X (Z.ex D) (bM ++ tm) f σ H Q
def cE (X:Cx) (Z:Zc) (tm:List (T×V)) (f:FE):TE:=fun σ H Q=>∃ D bM,lE X (Z.ex D) (bM ++ tm) f σ H Q
theorem MX {K:PySem.W.Frag} {Z:Zc} {tm bM:List (T×V)} {n:Nat} {O:List (Option Addr)} {ρ:En} {σ:St} {H1:Hp} {D:Addr} {J:It} {ts:List T} {h:FG} {fc:FB} {fe:FE} {is:List Nat} {q:Rt→Prop} {Q:VK} (X:Cx) (hK:X.K=K)
  (I:aA K Z (bM ++ tm) O ρ σ H1) (hD:H1 D=none) (wk:Wk K J bM ts) (hz:ts.length≤sizeLine) (TZ:∀ j∈is,ρ.length≤j)
  (hw:cL h fc fe (ρ ++ List.replicate n none) ts fun us=>q (.fr (.lst us)))
  (k:∀ r,q r→∀ v H',aM H1 H'→jo K Z tm O ρ σ H' r v→Q v H') :
  wc J (cG X Z tm is h) (cB X Z tm fc) (cE X Z tm fe) n σ D (Q (.ref D)) H1:=by
 subst hK
 obtain ⟨n1,n2,n3⟩:=I.fresh hD
 refine ⟨fun i m acc H2=>m=ts.length - i∧i≤ts.length∧aM H1 H2∧H2 D=some (.lst acc)∧∃ us,aI X.K H2 (av (Z.ex D) O) us acc∧acc.length≤i∧aA X.K (Z.ex D) (bM ++ tm) O ρ σ H2∧cL h fc fe (ρ ++ List.replicate n none) (ts.drop i) fun r=>q (.fr (.lst (us ++ r))),
  ⟨ts.length,by simp,ph _,aS hD,aQ,[],aI.nil,ph _,I.new hD rfl,by simpa using hw⟩,?_⟩
 rintro i m acc H2 ⟨rfl,hi,s2,Hw,us,a2,hl,I2,w2⟩
 refine ⟨Hw,?_⟩
 obtain ⟨w1,ZC,w3⟩:=wk H2 (av (Z.ex D) O) I2.Kz (fun p hp=>I2.pB p (mX _ hp)) i
 by_cases gF:i < ts.length
 · refine .inr ⟨w1 gF,by omega,fun x H3 y=>?_⟩
   have e:ts[i]?=some ts[i]:=by simp [gF]
   obtain ⟨s3,a3⟩:=w3 ts[i] e x H3 y
   rw [Tf gF] at w2
   have I3:=(I2.same s3).longer n (τ:=List.replicate n none) (by simp)
   have ea:av (Z.ex D) (O ++ List.replicate n none)=av (Z.ex D) O:=by unfold av; rw [eA]
   refine ⟨D,bM,_,_,ts[i],_,I3,by rw [ea]; exact a3,w2,fun ρ4 ZD O4 σ4 I4 ro4 ZE l4 e4=>⟨⟨?_,fun j v hj=>?_⟩,D,bM,ρ4,O4,_,I4,ZD,fun b hb H5 s5=>?_⟩⟩
   · rw [l4]; simp
   · have T1:=(e_.mp hj).1
     have:j∉is:=fun z=>by have:=TZ j z; have:=I.lσ; omega
     rw [e4 j this,ux T1]; exact hj
   · have S5:=(s2.trans s3).trans s5
     have J5:=(I2.same s3).same s5
     cases b with
     | true =>
       rw [if_pos rfl] at hb
       refine Qy ⟨D,bM,ρ4,O4,_,I4.same s5,hb,fun u hu y H6 s6 a6=>?_⟩
       have Wb:=s6 _ _ (s5 _ _ (s3 _ _ Hw))
       refine ⟨Wb,ts.length - (i+1),by omega,rfl,gF,fun b o e=>?_,aQ,us ++ [u],?_,by simp; omega,(J5.same s6).Ed Wb rfl n3,?_⟩
       · rw [aK (aX e hD)]; exact s6 _ _ (S5 _ _ e)
       · have Hz:D∈av (Z.ex D) O:=k8 _ gq
         have ZF:At X.K H6 (av (Z.ex D) O) u y:=a6.bh fun b hb=>by
          rcases mY.mp hb with z | z
          · obtain ⟨j,hj⟩:=Lx.mp (aN.mp z)
            have T1:=(e_.mp hj).1
            have nj:j∉is:=fun z=>by have:=TZ j z; have:=I.lO; omega
            have:=ZE j nj
            rw [ux T1,hj] at this
            exact mX _ (aN.mpr (mV this))
          · exact k8 _ z
         exact aI.wrote Hz Wb rfl ((((a2.same s3).same s5).same s6).append (aI.cons ZF aI.nil))
       · have e2:∀ r,(us ++ [u]) ++ r=us ++ (u :: r):=fun r=>by simp
         simp only [e2]
         exact hu
     | false =>
       rw [if_neg lh] at hb
       exact Qx ⟨ts.length - (i+1),by omega,rfl,gF,S5,s5 _ _ (s3 _ _ Hw),us,(a2.same s3).same s5,by omega,J5,hb⟩
 · have e:i=ts.length:=by omega
   subst e
   refine .inl ⟨ZC (rfl),?_⟩
   rw [Pz] at w2
   simp only [cL,Dm] at w2
   refine k _ w2 _ H2 s2 ⟨D,rfl,I2.wz fun p hp=>I2.pB p (k8 _ hp),⟨acc,Hw,a2⟩,n3,n2⟩
theorem AL {tm:List (T×V)} {n:Nat} {is:List Nat} {f:FI} {h:FG} {fc:FB} {fe:FE} {σ:St} {H:Hp} {Q:VK} (hq:lP X Z tm (AK n is f h fc fe) σ H Q):DR n (lI X Z tm f) (cG X Z tm is h) (cB X Z tm fc) (cE X Z tm fe) σ H Q:=by
 obtain ⟨ρ,O,q,I,⟨TZ,hf⟩,k⟩:=hq
 refine ⟨ρ,O,_,I,hf,fun ts gG J H' bM s a wk D hD=>?_⟩
 have I':aA X.K Z (bM ++ tm) O ρ σ H':=(I.same s).wz fun p hp=>by
  rcases mY.mp hp with z | z
  · exact a p z
  · exact (I.same s).pB p z
 refine MX X rfl I' hD wk gG.1 (fun j hj=>?_) gG.2 fun r hr v H2 s2 z=>k r hr v H2 (s.trans s2) z
 have:=C6.mp TZ j hj
 exact of_decide_eq_true this
variable {ts:List Str} {sc:Scope} {elt iter tg:Expr} {ifs:List Expr} {pos:Pos} {f:FI} {h:FG} {fc:FB} {fe:FE} {is:List Nat}
theorem eV (hc:X.calm=true) (hS:kE X.N ts X.env.scope sc=true) (hi:VI X Z tg iter f) (hg:∀ D cl C fp s H,VG (br X ts sc cl C fp s H) (Z.ex D) tg is h) (ht:∀ D cl C fp s H,O7 (br X ts sc cl C fp s H) (Z.ex D) ifs fc)
  (he:∀ D cl C fp s H,VE (br X ts sc cl C fp s H) (Z.ex D) elt fe) (hs:∀ x,foldedSetIterable iter X.env x=pure x:=by intro _; rfl):VP X Z (.ListComp elt [⟨tg,iter,ifs,0⟩] sc pos) (AK ts.length is f h fc fe):=.mk fun tm =>
 PE.weak (Hu hc hS (hi tm) (fun cl C fp s H pins s' σ H' v u Q I r ⟨D,bM,z⟩=>hg D cl C fp s H (bM ++ tm) pins s' σ H' v u Q I r z) (fun cl C fp s H pins s' σ H' Q I ⟨D,bM,z⟩=>ht D cl C fp s H (bM ++ tm) pins s' σ H' Q I z)
  (fun cl C fp s H pins s' σ H' Q I ⟨D,bM,z⟩=>he D cl C fp s H (bM ++ tm) pins s' σ H' Q I z) hs) fun σ H Q hq=>AL hq
theorem wA {i:Nat} {y:Str} {py wj:Pos} (hN:X.N.Nodup) (hy:X.N[i]?=some y) (hx:Loc X.env.scope y) (hc:X.calm=true) (hS:kE X.N ts X.env.scope sc=true) (hi:VI X Z tg iter f) (hg:∀ D cl C fp s H,VG (br X ts sc cl C fp s H) (Z.ex D) tg is h)
  (ht:∀ D cl C fp s H,O7 (br X ts sc cl C fp s H) (Z.ex D) ifs fc) (he:∀ D cl C fp s H,VE (br X ts sc cl C fp s H) (Z.ex D) elt fe)
  (QD:swapsWith (.ListComp elt [⟨tg,iter,ifs,0⟩] sc pos) (some (.Name y py)) wj.line X.env=pure true)
  (hs:∀ x,foldedSetIterable iter X.env x=pure x) (hf:X.fn y=true∨X.env.scope.names.lookup y=some .local) (tm:List (T×V)) :
  PS X (.Assign [.Name y py] (.ListComp elt [⟨tg,iter,ifs,0⟩] sc pos) wj) (G' (lP X Z tm (AK ts.length is f h fc fe)) (i0 i)) :=
 PS.weak (Hv hN hy hx hc hS (hi tm) (fun cl C fp s H pins s' σ H' v u Q I r ⟨D,bM,z⟩=>hg D cl C fp s H (bM ++ tm) pins s' σ H' v u Q I r z) (fun cl C fp s H pins s' σ H' Q I ⟨D,bM,z⟩=>ht D cl C fp s H (bM ++ tm) pins s' σ H' Q I z)
  (fun cl C fp s H pins s' σ H' Q I ⟨D,bM,z⟩=>he D cl C fp s H (bM ++ tm) pins s' σ H' Q I z) QD hs hf) fun D σ H hq=>AL hq
theorem HS {i:Nat} {y:Str} {py wj:Pos} (hN:X.N.Nodup) (hy:X.N[i]?=some y) (hx:Loc X.env.scope y) (hc:X.calm=true) (hS:kE X.N ts X.env.scope sc=true) (hi:VI X Z tg iter f) (hg:∀ D cl C fp s H,VG (br X ts sc cl C fp s H) (Z.ex D) tg is h)
  (ht:∀ D cl C fp s H,O7 (br X ts sc cl C fp s H) (Z.ex D) ifs fc) (he:∀ D cl C fp s H,VE (br X ts sc cl C fp s H) (Z.ex D) elt fe) (hp:aZ Z i)
  (QD:swapsWith (.ListComp elt [⟨tg,iter,ifs,0⟩] sc pos) (some (.Name y py)) wj.line X.env=pure true:=by rfl)
  (hs:∀ x,foldedSetIterable iter X.env x=pure x:=by intro _; rfl) (hf:X.fn y=true∨X.env.scope.names.lookup y=some .local:=by first | exact .inl rfl | exact .inr rfl | assumption) :
  VS X Z (.Assign [.Name y py] (.ListComp elt [⟨tg,iter,ifs,0⟩] sc pos) wj) (QP i (fX (AK ts.length is f h fc fe))):=.mk fun tm =>
 PS.weak (wA hN hy hx hc hS hi hg ht he QD hs hf tm) fun D σ H ⟨ρ,O,d,I,q,F⟩=>⟨ρ,O,_,I,q,fun r hr v H' s z=>F.nx _ _ _ H' (z.env.put hp z.at) hr⟩
theorem fH {h:FG} {fc:FB} {fe:FE} {ρ:En} {ts:List T} {Q:List T→Prop} (p:T→Bool) (u:T→T) (step:∀ t∈ts,∀ k:List T→Prop,∀ r:List T→Prop,(if p t=true then r [u t] else r [])→h t ρ fun ρ2=>fc ρ2 fun b=>if b=true then fe ρ2 fun x=>r [x] else r [])
  (hq:Q ((ts.filter p).map u)):cL h fc fe ρ ts Q:=by
 induction ts generalizing Q with
 | nil=>exact hq
 | cons t ts ih =>
   have st:=step t gq (fun _=>True) (fun l=>match l with
    | [x]=>cL h fc fe ρ ts fun us=>Q (x :: us)
    | _=>cL h fc fe ρ ts Q)
   have rest:∀ {Q':List T→Prop},Q' ((ts.filter p).map u)→cL h fc fe ρ ts Q':=fun hq=>ih (fun t ht=>step t (i_ _ ht)) hq
   simp only [cL]
   refine st ?_
   by_cases hp:p t=true
   · rw [if_pos hp]
     refine rest ?_
     rw [UG hp] at hq
     exact hq
   · rw [if_neg hp]
     refine rest ?_
     rw [UH hp] at hq
     exact hq
end
def eB (K:PySem.W.Frag) (H:Hp) (A:List Addr):List Bool→List Addr→List T→List V→Prop
 | [],as,ts,vs=>as=[]∧ts=[]∧vs=[]
 | false :: fs,as,ts,vs=>∃ t kG v lg,ts=t :: kG∧vs=v :: lg∧At K H A t v∧eB K H A fs as kG lg
 | true :: fs,as,ts,vs=>∃ a tF t kG lg,as=a :: tF∧ts=t :: kG∧vs = .ref a :: lg∧cA K H A a t∧eB K H A fs tF kG lg
def QU (K:PySem.W.Frag) (H:Hp) (as Ox:List Addr) (H':Hp) (us:List T):Rt→V→Prop
 | .vw t,v=>At K H' (as ++ Ox) t v∧Paired (fun a u=>cA K H' (as ++ Ox) a u) as us
 | .fr t,v=>∃ b,v = .ref b∧H b=none∧b∉as∧cA K H' (b :: (as ++ Ox)) b t∧Paired (fun a u=>cA K H' (b :: (as ++ Ox)) a u) as us
abbrev GT:=List T→(List T→Rt→Prop)→Prop
def wB (K:PySem.W.Frag) (fs:List Bool) (G:GT):Sp:=fun vs H Q _=>∃ ts as Ox q,as.Nodup∧(∀ a∈as,a∉Ox)∧(∀ a∈Ox,H a≠none)∧eB K H (as ++ Ox) fs as ts vs∧G ts q ∧
 ∀ us r,q us r→∀ v H',(∀ b o,H b=some o→b∉as→H' b=some o)→QU K H as Ox H' us r v→Q v H'
def ro:List Bool→List Addr→List (Option Addr)
 | [],_=>[]
 | false :: fs,as=>none :: ro fs as
 | true :: fs,a :: as=>some a :: ro fs as
 | true :: fs,[]=>none :: ro fs []
def pz:List Bool→List Addr→Nat→List (Nat×Addr)
 | [],_,_=>[]
 | false :: fs,as,k=>pz fs as (k+1)
 | true :: fs,a :: as,k=>(k,a) :: pz fs as (k+1)
 | true :: fs,[],k=>pz fs [] (k+1)
def uK:List Bool→List T→En
 | f :: fs,t :: ts=>some (t,f) :: uK fs ts
 | _,_=>[]
def oV:List Bool→En→List T
 | [],_=>[]
 | false :: fs,ρ=>oV fs ρ.tail
 | true :: fs,some (t,_) :: ρ=>t :: oV fs ρ
 | true :: fs,ρ=>.bb :: oV fs ρ.tail
section
variable {K:PySem.W.Frag} {H:Hp} {A:List Addr}
theorem fN:∀ {fs:List Bool} {as:List Addr} {ts:List T} {vs:List V},eB K H A fs as ts vs→ts.length=fs.length∧vs.length=fs.length∧(ro fs as).length=fs.length∧(uK fs ts).length=fs.length∧roots (ro fs as)=as
 | [],as,ts,vs,h=>by obtain ⟨rfl,rfl,rfl⟩:=h; exact ⟨rfl,rfl,rfl,rfl,rfl⟩
 | false :: fs,as,ts,vs,h=>by
   obtain ⟨t,kG,v,lg,rfl,rfl,_,h⟩:=h
   obtain ⟨h1,h2,h3,h4,h5⟩:=fN h
   exact ⟨by simp [h1],by simp [h2],by simp [ro,h3],by simp [uK,h4],by simpa [ro,roots] using h5⟩
 | true :: fs,as,ts,vs,h=>by
   obtain ⟨a,tF,t,kG,lg,rfl,rfl,rfl,_,h⟩:=h
   obtain ⟨h1,h2,h3,h4,h5⟩:=fN h
   refine ⟨by simp [h1],by simp [h2],by simp [ro,h3],by simp [uK,h4],?_⟩
   simp only [ro,roots,pb,id] at h5 ⊢
   rw [h5]
theorem qc:∀ {fs:List Bool} {as:List Addr} {ts:List T} {vs:List V},eB K H A fs as ts vs→∀ (i:Nat) e,(uK fs ts)[i]?=some e→∃ o s,(ro fs as)[i]?=some o∧(vs.map some)[i]?=some s∧pW K H A e o s
 | [],as,ts,vs,h,i,e,he=>by simp [uK] at he
 | false :: fs,as,ts,vs,h,i,e,he=>by
   obtain ⟨t,kG,v,lg,rfl,rfl,a,h⟩:=h
   cases i with
   | zero=>simp only [uK,List.getElem?_cons_zero,Option.some.injEq] at he; subst he; exact ⟨none,some v,rfl,rfl,rfl,v,rfl,a⟩
   | succ i=>exact qc h i e (by simpa [uK] using he)
 | true :: fs,as,ts,vs,h,i,e,he=>by
   obtain ⟨a,tF,t,kG,lg,rfl,rfl,rfl,r,h⟩:=h
   cases i with
   | zero=>simp only [uK,List.getElem?_cons_zero,Option.some.injEq] at he; subst he; exact ⟨some a,some (.ref a),rfl,rfl,a,rfl,rfl,r⟩
   | succ i=>exact qc h i e (by simpa [uK] using he)
theorem nE:∀ {fs:List Bool} {as:List Addr} {ts:List T} {vs:List V},eB K H A fs as ts vs→∀ a∈as,∃ t,cA K H A a t
 | [],as,ts,vs,h,a,ha=>by obtain ⟨rfl,rfl,rfl⟩:=h; cases ha
 | false :: fs,as,ts,vs,h,a,ha=>by obtain ⟨t,kG,v,lg,rfl,rfl,_,h⟩:=h; exact nE h a ha
 | true :: fs,as,ts,vs,h,a,ha=>by
   obtain ⟨b,tF,t,kG,lg,rfl,rfl,rfl,r,h⟩:=h
   rcases fg.mp ha with z | z
   · subst z; exact ⟨t,r⟩
   · exact nE h a z
theorem Ef:∀ {fs:List Bool} {as:List Addr} {ts:List T} {vs:List V} (k:Nat),eB K H A fs as ts vs→(pz fs as k).map (·.2)=as∧∀ p∈pz fs as k,k≤p.1∧(ro fs as)[p.1 - k]?=some (some p.2)
 | [],as,ts,vs,k,h=>by obtain ⟨rfl,rfl,rfl⟩:=h; exact ⟨rfl,fun _ z=>nomatch z⟩
 | false :: fs,as,ts,vs,k,h=>by
   obtain ⟨t,kG,v,lg,rfl,rfl,_,h⟩:=h
   obtain ⟨h1,h2⟩:=Ef (k+1) h
   refine ⟨h1,fun p hp=>?_⟩
   obtain ⟨l,e⟩:=h2 p hp
   refine ⟨by omega,?_⟩
   have:p.1 - k=(p.1 - (k+1))+1:=by omega
   rw [this]
   simpa [ro] using e
 | true :: fs,as,ts,vs,k,h=>by
   obtain ⟨a,tF,t,kG,lg,rfl,rfl,rfl,_,h⟩:=h
   obtain ⟨h1,h2⟩:=Ef (k+1) h
   refine ⟨by simp [pz,h1],fun p hp=>?_⟩
   rcases fg.mp hp with z | z
   · subst z; exact ⟨cZ _,by simp [ro]⟩
   · obtain ⟨l,e⟩:=h2 p z
     refine ⟨by omega,?_⟩
     have:p.1 - k=(p.1 - (k+1))+1:=by omega
     rw [this]
     simpa [ro] using e
theorem uL {R:Addr→T→Prop} {ρ:En}:∀ {fs:List Bool} {as:List Addr} {ts:List T} {vs:List V} (k:Nat),eB K H A fs as ts vs→(∀ p∈pz fs as k,∃ t,ρ[p.1]?=some (some (t,true))∧R p.2 t)→Paired R as (oV fs (ρ.drop k))
 | [],as,ts,vs,k,h,_=>by obtain ⟨rfl,rfl,rfl⟩:=h; exact .nil
 | false :: fs,as,ts,vs,k,h,q=>by
   obtain ⟨t,kG,v,lg,rfl,rfl,_,h⟩:=h
   have:=uL (k+1) h q
   simp only [oV,List.tail_drop]
   exact this
 | true :: fs,as,ts,vs,k,h,q=>by
   obtain ⟨a,tF,t,kG,lg,rfl,rfl,rfl,_,h⟩:=h
   have:=uL (ρ:=ρ) (k+1) h fun p hp=>q p (i_ _ hp)
   obtain ⟨u,e,r⟩:=q (k,a) gq
   have hk:k < ρ.length:=(e_.mp e).1
   have e2:ρ[k]=some (u,true):=by rw [sR hk] at e; exact Option.some.inj e
   rw [Tf hk,e2]
   exact .cons r this
end
theorem qd {X:Cx} {N:List Str} {fs:List Bool} {as Ox:List Addr} {ts:List T} {vs:List V} {H:Hp} {Q:VK} {q:List T→Rt→Prop} {g:FS} (nd:as.Nodup) (nx:∀ a∈as,a∉Ox) (ox:∀ a∈Ox,H a≠none) (ha:eB X.K H (as ++ Ox) fs as ts vs)
  (kk:∀ us r,q us r→∀ v H',(∀ b o,H b=some o→b∉as→H' b=some o)→QU X.K H as Ox H' us r v→Q v H')
  (hq:g { nx:=fun ρ=>q (oV fs ρ) (.vw .bb),rt:=fun ρ r=>q (oV fs ρ) r } (uK fs ts ++ List.replicate (N.length - ts.length) none)) :
  lS X ⟨H,pz fs as 0,Ox⟩ [] g { nx:=fun _ H'=>Q .bb H',rt:=Q } (start N vs) H:=by
 obtain ⟨K,eK⟩:∃ K,K=X.K:=⟨_,rfl⟩
 unfold lS
 rw [← eK] at ha kk ⊢
 obtain ⟨l1,l2,l3,l4,l5⟩:=fN ha
 obtain ⟨p1,p2⟩:=Ef 0 ha
 have ea:av ⟨H,pz fs as 0,Ox⟩ (ro fs as ++ List.replicate (N.length - ts.length) none)=as ++ Ox:=by unfold av; rw [eA,l5]
 have ZG:∀ H0 P (O:List (Option Addr)),av ⟨H0,P,Ox⟩ O=roots O ++ Ox:=fun _ _ _=>rfl
 have I0:aA K ⟨H,pz fs as 0,Ox⟩ [] (ro fs as ++ List.replicate (N.length - ts.length) none) (uK fs ts ++ List.replicate (N.length - ts.length) none) (start N vs) H:=by
  refine ⟨?_,?_,fun i e he=>?_,by rw [eA,l5]; exact nd,fun a h=>?_,fun p hp=>?_,ox,fun b o e _=>e,fun p hp=>nomatch hp⟩
  · unfold L2.start; simp [l2,l4,l1]
  · simp [l3,l4]
  · rw [ea]
    by_cases hi:i < fs.length
    · rw [ux (by rw [l4]; exact hi)] at he
      obtain ⟨o,s,h1,h2,h3⟩:=qc ha i e he
      refine ⟨o,s,by rw [ux (by rw [l3]; exact hi)]; exact h1,?_,h3⟩
      unfold L2.start
      rw [ux (by rw [cV,l2]; exact hi)]; exact h2
    · rw [List.getElem?_append_right (by omega),Dj] at he
      split at he
      · rename_i hl
        cases he
        refine ⟨none,none,?_,?_,rfl⟩
        · rw [C4 (by omega),Dj,if_pos (by rw [l3]; rw [l4] at hl; exact hl)]
        · unfold L2.start
          rw [C4 (by rw [cV]; omega),Dj,cV,if_pos (by rw [l2]; rw [l4,l1] at hl; exact hl)]
      · cases he
  · rw [eA,l5] at h
    obtain ⟨t,r⟩:=nE ha a h
    exact ⟨.inl (by show a∈(pz fs as 0).map (·.2); rw [p1]; exact h),nx a h,r.mut⟩
  · obtain ⟨_,e⟩:=p2 p hp
    rw [Nat.sub_zero] at e
    rw [ux (e_.mp e).1]; exact e
 have fin:∀ {O:List (Option Addr)} {ρ:En} {σ:St} {H':Hp} {Z':Zc},Z'.P=pz fs as 0→aA K Z' [] O ρ σ H'→Paired (fun a u=>cA K H' (av Z' O) a u) as (oV fs ρ):=fun {O ρ σ H' Z'} eP I=>by
  have:=uL (ρ:=ρ) (R:=fun a u=>cA K H' (av Z' O) a u) 0 ha fun p hp=>?_
  · rw [List.drop_zero] at this; exact this
  · have e:=I.par p (by rw [eP]; exact hp)
    have hl:=(e_.mp e).1
    have US:p.1 < ρ.length:=by rw [← I.lO]; exact hl
    obtain ⟨o,s',h1,h2,h3⟩:=I.sl p.1 ρ[p.1] (by simp)
    rw [e] at h1
    cases h1
    cases q:ρ[p.1] with
    | none=>rw [q] at h3; cases h3
    | some tb =>
      obtain ⟨t,b⟩:=tb
      rw [q] at h3
      cases b with
      | false=>cases h3.1
      | true =>
        obtain ⟨a',e1,_,r⟩:=h3
        cases e1
        exact ⟨t,by rw [← q]; simp,r⟩
 have keep:∀ {O:List (Option Addr)} {ρ:En} {σ:St} {H':Hp} {Z':Zc},Z'.H0=H→Z'.P=pz fs as 0→aA K Z' [] O ρ σ H'→∀ b o,H b=some o→b∉as→H' b=some o:=fun e0 eP I b o e n=>I.keep b o (by rw [e0]; exact e) (by rw [eP,p1]; exact n)
 have sub:∀ {O:List (Option Addr)} {ρ:En} {σ:St} {H':Hp} {Z':Zc},Z'.P=pz fs as 0→aA K Z' [] O ρ σ H'→∀ a∈as,a∈roots O:=fun eP I a h=>by
  have:a∈(pz fs as 0).map (·.2):=by rw [p1]; exact h
  obtain ⟨p,hp,rfl⟩:=Bp.mp this
  exact aN.mpr (mV (I.par p (by rw [eP]; exact hp)))
 refine ⟨_,_,_,I0,hq,⟨fun O ρ σ H' I h=>?_,fun O ρ σ H' r v z h=>?_,fun _ _ _ _ _ h=>h.elim,fun _ _ _ _ _ h=>h.elim⟩⟩
 · have sb:∀ a∈as ++ Ox,a∈av ⟨H,pz fs as 0,Ox⟩ O:=fun a h=>by
    rcases mY.mp h with h | h
    · exact mX _ (sub rfl I a h)
    · exact k8 _ h
   exact kk _ _ h .bb H' (keep rfl rfl I) ⟨nz,Paired.mZ (fin rfl I) fun _ _ q=>q.bh sb⟩
 · cases r with
   | vw t =>
     obtain ⟨I,a⟩:=z
     have sb:∀ a∈as ++ Ox,a∈av ⟨H,pz fs as 0,Ox⟩ O:=fun a h=>by
      rcases mY.mp h with h | h
      · exact mX _ (sub rfl I a h)
      · exact k8 _ h
     exact kk _ _ h v H' (keep rfl rfl I) ⟨a.bh sb,Paired.mZ (fin rfl I) fun _ _ q=>q.bh sb⟩
   | fr t =>
     obtain ⟨b,rfl,I,hR,h0,hx⟩:=z
     have sb:∀ a∈b :: (as ++ Ox),a∈av (Zc.ex ⟨H,pz fs as 0,Ox⟩ b) O:=fun a h=>by
      rcases fg.mp h with h | h
      · rw [h]; exact k8 _ gq
      · rcases mY.mp h with h | h
        · exact mX _ (sub rfl I a h)
        · exact k8 _ (i_ _ h)
     exact kk _ _ h (.ref b) H' (keep rfl rfl I) ⟨b,rfl,h0,fun hb=>(I.own b (sub rfl I b hb)).2.1 gq,hR.bh sb,Paired.mZ (fin rfl I) fun _ _ q=>q.bh sb⟩
section
variable {P:Program} {w:World} {K:PySem.W.Frag} {mg:Str→Option Value} {base:Heap}
theorem Yo {x qual:Str} {st:Stmt} {f:Addr} {fd:FuncData} {N ps:List Str} {k:Nat} {fs:List Bool} {G:GT} (F:BG K x qual st f fd) (S:aH N ps (aj st)) (Wc:fs.length=ps.length)
  (gW:∀ (bw:Value) (A:Around) (outer:List Env) (s:Shared) (H:Hp) (E:XK) (as Ox:List Addr),bj k (A.deeper (envOfC qual (aj st) s.heap.objs.size f bw))→∀ ts q,ts.length=fs.length→G ts q →
    ∃ g,lU (dy ip P w K mg base N qual (aj st) f bw A outer s H E).ng ⟨H,pz fs as 0,Ox⟩ (cc st) g∧g { nx:=fun ρ=>q (oV fs ρ) (.vw .bb),rt:=fun ρ r=>q (oV fs ρ) r } (uK fs ts ++ List.replicate (N.length - ts.length) none)) :
  cF P w K mg base ip (k+1) f fd ps (wB K fs G):=by
 refine F.ok S (fun vs H Q E h=>?_) (fun bw A outer s H vs Q E hr h=>?_)
 · obtain ⟨ts,as,Ox,q,_,_,_,ha,_⟩:=h
   rw [← Wc]; exact (fN ha).2.1
 · obtain ⟨ts,as,Ox,q,nd,nx,ox,ha,hG,kk⟩:=h
   have l1:=(fN ha).1
   obtain ⟨g,hg,hq⟩:=gW bw A outer s H E as Ox hr ts q l1 hG
   exact ⟨_,hg [],qd nd nx ox ha kk hq⟩
end
def bZ (K:PySem.W.Frag) (n:Nat) (G:List T→(Rt→Prop)→Prop):Sp:=wB K (List.replicate n false) fun ts q=>G ts (q [])
section
variable {K:PySem.W.Frag} {H:Hp} {A:List Addr}
theorem eD:∀ {n:Nat} {ts:List T} {vs:List V},ts.length=n→aI K H A ts vs→eB K H A (List.replicate n false) [] ts vs
 | 0,ts,vs,l,h=>by
   have e:ts=[]:=OM.mp l
   subst e
   simp only [aI] at h
   exact ⟨rfl,rfl,h⟩
 | n+1,ts,vs,l,h=>by
   cases ts with
   | nil=>simp at l
   | cons t ts =>
     simp only [aI] at h
     obtain ⟨v,r,rfl,h1,h2⟩:=h
     exact ⟨t,ts,v,r,rfl,rfl,h1,eD (by simpa using l) h2⟩
end
theorem aA.KU {K:PySem.W.Frag} {Z:Zc} {tm:List (T×V)} {O:List (Option Addr)} {ρ:En} {σ:St} {H H':Hp} (I:aA K Z tm O ρ σ H) {a:Addr} (h:H a=none) (s:aM H H') {u:HO} (hu:H' a=some u):aA K (Z.ex a) tm O ρ σ H':=by
 have J:=I.same s
 obtain ⟨n1,n2,n3⟩:=I.fresh h
 have mr:∀ b∈av (Z.ex a) O,b∈av Z O∨H b=none:=fun b hb=>(dD b hb).imp id fun e=>by rw [e]; exact h
 have fw:∀ {t:T} {v:V},At K H (av Z O) t v→At K H' (av (Z.ex a) O) t v:=fun q=>(q.more mr).same s
 refine ⟨J.lσ,J.lO,fun i e hi=>?_,J.nd,fun b hb=>?_,J.par,fun b hb=>?_,J.keep,fun p hp=>fw (I.pB p hp)⟩
 · obtain ⟨o,w,h1,h2,h3⟩:=I.sl i e hi
   refine ⟨o,w,h1,h2,h3.map (fun _ _ q=>fw q) fun b t eo q=>?_⟩
   exact cA.same (q.map rfl fun _ _ z=>z.more mr) s
 · obtain ⟨q1,q2,q3⟩:=J.own b hb
   refine ⟨q1,fun z=>?_,q3⟩
   rcases fg.mp z with z | z
   · exact n1 (by rw [← z]; exact mX _ hb)
   · exact q2 z
 · rcases fg.mp hb with z | z
   · rw [z,hu]; simp
   · exact J.ox b z
def MY (n:Nat) (g:FA) (G:List T→(Rt→Prop)→Prop):FP:=fun ρ Q=>g ρ fun ts=>ts.length=n∧G ts Q
def MZ:Rt→Bool
 | .vw t=>mW t
 | .fr (.lst ts)=>r_ ts
 | _=>false
def M0 (n:Nat) (g:FA) (G:List T→(Rt→Prop)→Prop):FP:=fun ρ Q=>g ρ fun ts=>ts.length=n∧G ts fun r=>MZ r=true∧Q r
section
variable {X:Cx} {Z:Zc} {k n:Nat} {f:Addr} {fd:FuncData} {ps:List Str} {G:List T→(Rt→Prop)→Prop} {x:Str} {p pos:Pos} {e:Expr} {es:List Expr} {g:FA}
theorem AN {tm:List (T×V)} {O:List (Option Addr)} {ρ:En} {σ:St} {H:Hp} {ts:List T} {vs:List V} {q:Rt→Prop} {Q:VK} (I:aA X.K Z tm O ρ σ H) (a:aI X.K H (av Z O) ts vs) (hn:ts.length=n) (hG:G ts q)
  (k:∀ r,q r→∀ v H',aM H H'→jo X.K Z tm O ρ σ H' r v→Q v H'):bZ X.K n G (vs ++ []) H Q E0:=by
 rw [Dm]
 refine ⟨ts,[],av Z O,fun _ r=>q r,GY,fun _ z=>absurd z ko,I.Kz,eD hn a,hG,fun us r hr v H' fr z=>?_⟩
 have s:aM H H':=fun b o e=>fr b o e ko
 cases r with
 | vw t=>exact k _ hr v H' s ⟨I.same s,z.1⟩
 | fr t =>
   obtain ⟨b,rfl,hb,_,hR,_⟩:=z
   obtain ⟨n1,n2,n3⟩:=I.fresh hb
   obtain ⟨u,eu,_⟩:=hR.mut
   refine k _ hr _ H' s ⟨b,rfl,I.KU hb s eu,hR.bh fun c hc=>?_,n3,n2⟩
   rcases dD c hc with z | z
   · exact i_ _ z
   · rw [z]; exact gq
theorem aT (F:cF X.prog X.w X.K X.mg X.base ip k f fd ps (bZ X.K n G)) (hr:bj k X.A) (hg:Gl X x) (hm:X.mg x=some (.ref f)) (hk:PySem.W.keepIn X.K (.ref f)=true) (hb:Binds X.K fd ps []) (ha:VA X Z (e :: es) g)
  (lH:gk x:=by decide) (he:starEach (e :: es) X.env=(false,eval e X.env) :: starEach es X.env:=by rfl) (gj:(backTo pos (starEach es X.env)).any (·.1)=false:=by rfl) :
  VP X Z (.Call (.Name x p) (e :: es) [] pos) (MY n g G):=.mk fun tm=>PE.weak (j4 F hr hg hm hk hb .nil tf (ha tm) lH he gj) fun σ H Q ⟨ρ,O,q,I,hf,k⟩ =>
 ⟨ρ,O,_,I,hf,fun ts gG vs H1 s1 a1=>AN (I.same s1) a1 gG.1 gG.2 fun r hr v H' s z=>k r hr v H' (s1.trans s) z⟩
theorem g0 (F:cF X.prog X.w X.K X.mg X.base ip k f fd ps (bZ X.K n G)) (hr:bj k X.A) (hg:Gl X x) (hm:X.mg x=some (.ref f)) (hk:PySem.W.keepIn X.K (.ref f)=true) (hb:Binds X.K fd ps []) (ha:GF X Z (e :: es) g)
  (lH:gk x:=by decide) (he:starEach (e :: es) X.env=(false,eval e X.env) :: starEach es X.env:=by rfl) (gj:(backTo pos (starEach es X.env)).any (·.1)=false:=by rfl) :
  VP X Z (.Call (.Name x p) (e :: es) [] pos) (M0 n g G):=.mk fun tm=>PE.weak (j4 F hr hg hm hk hb .nil tf (ha tm) lH he gj) fun σ H Q ⟨ρ,O,q,I,hf,k⟩ =>
 ⟨ρ,O,_,I,hf,fun ts gG vs H1 s1 a1=>by
   show bZ X.K n G (vs ++ []) H1 Q E0
   rw [Dm]
   have J:=I.same s1
   have a2:aI X.K H1 [] ts vs:=aI.iff.mpr (Paired.mZ a1 fun _ _ z=>z.bare)
   refine ⟨ts,[],[],fun _ r=>MZ r=true∧q r,GY,fun _ z=>absurd z ko,fun _ z=>absurd z ko,eD gG.1 a2,gG.2,fun us r ⟨hi,hr⟩ v H' fr z=>?_⟩
   have s:aM H1 H':=fun b o e=>fr b o e ko
   cases r with
   | vw t=>exact k _ hr v H' (s1.trans s) ⟨J.same s,At.mW hi z.1⟩
   | fr t =>
     obtain ⟨b,rfl,hb,_,hR,_⟩:=z
     obtain ⟨n1,n2,n3⟩:=J.fresh hb
     obtain ⟨u,eu,_⟩:=hR.mut
     cases t with
     | lst ts =>
       obtain ⟨ws,e1,e2⟩:=hR
       exact k _ hr _ H' (s1.trans s) ⟨b,rfl,J.KU hb s eu,⟨ws,e1,aI.mW hi e2⟩,n3,n2⟩
     | _=>exact absurd hi (by simp [MZ])⟩
end
def AM (K:PySem.W.Frag) (H:Hp) (A:List Addr) (O:List (Option Addr)) (ρ:En):List (Option Nat)→List T→List V→Prop
 | [],ts,vs=>ts=[]∧vs=[]
 | none :: ms,ts,vs=>∃ t kG v lg,ts=t :: kG∧vs=v :: lg∧At K H A t v∧AM K H A O ρ ms kG lg
 | some k :: ms,ts,vs=>∃ a t kG lg,ts=t :: kG∧vs = .ref a :: lg∧ρ[k]?=some (some (t,true))∧O[k]?=some (some a)∧AM K H A O ρ ms kG lg
def Yp (X:Cx) (Z:Zc) (tm:List (T×V)) (ms:List (Option Nat)) (f:FA):TA:=fun σ H Q=>∃ ρ O q,aA X.K Z tm O ρ σ H∧f ρ q∧∀ ts,q ts→∀ vs H',aM H H'→AM X.K H' (av Z O) O ρ ms ts vs→Q vs H'
def M6 (X:Cx) (Z:Zc) (es:List Expr) (ms:List (Option Nat)) (f:FA):Prop:=Bx fun tm=>PA X es (Yp X Z tm ms f)
instance {X:Cx} {Z:Zc} {es:List Expr} {ms:List (Option Nat)} {f:FA}:CoeFun (M6 X Z es ms f) fun _=>∀ tm,PA X es (Yp X Z tm ms f):=⟨fun h=>Bx.h h⟩
def Eg (i:Nat):FE:=fun ρ Q=>match ρ[i]? with
 | some (some (t,true))=>Q t
 | _=>False
section
variable {X:Cx} {Z:Zc} {e:Expr} {es:List Expr} {g:FA}
theorem AO:M6 X Z [] [] DV:=.mk fun tm=>PA.weak cb fun σ H Q ⟨ρ,O,q,I,hf,k⟩=>k _ hf [] H (aM.refl H) ⟨rfl,rfl⟩
theorem wC {ms:List (Option Nat)} {f:FE} (h:VE X Z e f) (h':M6 X Z es ms g) (hs:starEach (e :: es) X.env=(false,eval e X.env) :: starEach es X.env:=by rfl):M6 X Z (e :: es) (none :: ms) (wu f g) :=
 .mk fun tm=>PA.weak (ba (h tm) (h' tm) hs) fun σ H Q ⟨ρ,O,q,I,hf,k⟩=>⟨ρ,O,_,I,hf,fun t ht v H1 s1 a1=>⟨ρ,O,_,I.same s1,ht,fun ts gG vs H2 s2 a2=>k _ gG _ H2 (s1.trans s2) ⟨t,ts,v,vs,rfl,rfl,a1.same s2,a2⟩⟩⟩
theorem AQ (j:Nat) {ms:List (Option Nat)} {y:Str} {py:Pos} (h':M6 X Z es ms g) (hN:X.N[j]?=some y:=by rfl) (hv:rQ X.env.scope y:=by first | exact Or.inl rfl | exact Or.inr (Or.inl rfl) | exact Or.inr (Or.inr rfl)) (hd:gk y:=by decide)
  (iy:vR y:=by decide) (hs:starEach (.Name y py :: es) X.env=(false,eval (.Name y py) X.env) :: starEach es X.env:=by rfl):M6 X Z (.Name y py :: es) (some j :: ms) (wu (Eg j) g) :=
 .mk fun tm=>PA.weak (ba (cD hN hv hd iy) (h' tm) hs) fun σ H Q ⟨ρ,O,q,I,hf,k⟩=>by
  have T3:Eg j ρ fun t=>g ρ fun ts=>q (t :: ts):=hf
  unfold Eg at T3
  split at T3
  · rename_i t e0
    obtain ⟨a,h1,h2,h3⟩:=I.root e0
    exact ⟨.ref a,h2,ρ,O,_,I,T3,fun ts gG vs H2 s2 a2=>k _ gG _ H2 s2 ⟨a,t,ts,vs,rfl,rfl,e0,h1,a2⟩⟩
  · exact T3.elim
end
def putK:List Nat→List T→En→En
 | k :: ks,u :: us,ρ=>putK ks us (ρ.set k (some (u,true)))
 | _,_,ρ=>ρ
theorem qe:∀ (ks:List Nat) (us:List T) (ρ:En),(putK ks us ρ).length=ρ.length
 | [],_,_=>rfl
 | _ :: _,[],_=>rfl
 | k :: ks,u :: us,ρ=>by rw [putK,qe]; simp
theorem wD:∀ {ks:List Nat} {us:List T} {ρ:En} {i:Nat} {e:Option (T×Bool)},ks.Nodup→ks.length=us.length→(putK ks us ρ)[i]?=some e→(i∉ks∧ρ[i]?=some e)∨∃ (j:Nat) (u:T),ks[j]?=some i∧us[j]?=some u∧e=some (u,true)
 | [],us,ρ,i,e,_,_,h=>.inl ⟨ko,h⟩
 | k :: ks,[],ρ,i,e,_,l,h=>by simp at l
 | k :: ks,u :: us,ρ,i,e,nd,l,h=>by
   rw [rP] at nd
   rcases wD nd.2 (by simpa using l) (show (putK ks us (ρ.set k (some (u,true))))[i]?=some e from h) with ⟨h1,h2⟩ | ⟨j,u',h1,h2,h3⟩
   · rcases get_set h2 with ⟨rfl,rfl,_⟩ | ⟨ne,h2⟩
     · exact .inr ⟨0,u,rfl,rfl,rfl⟩
     · exact .inl ⟨fun z=>by rcases fg.mp z with z | z; exact ne z; exact h1 z,h2⟩
   · exact .inr ⟨j+1,u',by simpa using h1,by simpa using h2,h3⟩
section
variable {K:PySem.W.Frag} {H H':Hp} {A:List Addr}
theorem At.M7 {as:List Addr} {t:T} {v:V} (fr:∀ b o,H b=some o→b∉as→H' b=some o) (sub:∀ a∈as,a∈A) (mu:∀ a∈as,∃ u,H a=some u∧wq u=true) (h:At K H A t v):At K H' A t v:=by
 refine At.map (fun b vs q=>?_) (fun b vs q=>?_) (fun b aV q=>?_) h
 · rcases q with q | q
   · refine .inl ⟨?_,q.2⟩
     have nb:b∉as:=fun z=>q.2 (sub b z)
     rcases q.1 with z | ⟨o',z⟩
     · exact .inl (fr _ _ z nb)
     · exact .inr ⟨o',fr _ _ z nb⟩
   · exact .inr q
 · rcases q with z | z
   · refine .inl ?_
     have nb:b∉as:=fun m=>by
      obtain ⟨u,eu,mu⟩:=mu b m
      rcases z with z | ⟨o',z⟩
      · rw [z] at eu; cases eu; cases mu
      · rw [z] at eu; cases eu; cases mu
     rcases z with z | ⟨o',z⟩
     · exact .inl (fr _ _ z nb)
     · exact .inr ⟨o',fr _ _ z nb⟩
   · exact .inr z
 · exact ⟨fr _ _ q.1 fun z=>q.2 (sub b z),q.2⟩
theorem AM.args {A':List Addr} {O:List (Option Addr)} {ρ:En} (sub:∀ a∈A',a∈A) (hr:∀ (k:Nat) t,ρ[k]?=some (some (t,true))→∃ a,O[k]?=some (some a)∧cA K H A a t):∀ {ms:List (Option Nat)} {ts:List T} {vs:List V},AM K H A O ρ ms ts vs →
  ∃ as,eB K H A' (ms.map Option.isSome) as ts vs∧Paired (fun a k=>O[k]?=some (some a)) as (ms.filterMap id)
 | [],ts,vs,h=>⟨[],⟨rfl,h.1,h.2⟩,.nil⟩
 | none :: ms,ts,vs,h=>by
   obtain ⟨t,kG,v,lg,rfl,rfl,a,h⟩:=h
   obtain ⟨as,h1,h2⟩:=AM.args sub hr h
   exact ⟨as,⟨t,kG,v,lg,rfl,rfl,a.bh sub,h1⟩,h2⟩
 | some k :: ms,ts,vs,h=>by
   obtain ⟨a,t,kG,lg,rfl,rfl,e0,e1,h⟩:=h
   obtain ⟨as,h1,h2⟩:=AM.args sub hr h
   obtain ⟨a',e2,r⟩:=hr k t e0
   rw [e1] at e2
   cases e2
   exact ⟨a :: as,⟨a,as,t,kG,lg,rfl,rfl,rfl,r.bh sub,h1⟩,.cons e1 h2⟩
end
def M8 (ms:List (Option Nat)) (g:FA) (G:GT):FX:=fun ρ Q=>g ρ fun ts=>G ts fun us r=>Q (putK (ms.filterMap id) us ρ) r
section
variable {X:Cx} {Z:Zc} {k:Nat} {f:Addr} {fd:FuncData} {ps:List Str} {fs:List Bool} {G:GT} {x:Str} {p pos:Pos} {e:Expr} {es:List Expr} {g:FA} {ms:List (Option Nat)}
theorem Eh {K:PySem.W.Frag} {tm:List (T×V)} {O:List (Option Addr)} {ρ:En} {σ:St} {H:Hp} (I:aA K Z tm O ρ σ H) {i j:Nat} {a:Addr} (h1:O[i]?=some (some a)) (h2:O[j]?=some (some a)):i=j:=by
 have key:∀ (O:List (Option Addr)) (i j:Nat),i < j→O[i]?=some (some a)→O[j]?=some (some a)→(roots O).Nodup→False:=by
  intro O
  induction O with
  | nil=>intro i j _ h; simp at h
  | cons o O ih =>
    intro i j MB e1 e2 nd
    cases j with
    | zero=>omega
    | succ j =>
      have GD:O[j]?=some (some a):=by simpa using e2
      cases i with
      | zero =>
        have:o=some a:=by simpa using e1
        subst this
        simp only [roots,pb,id] at nd
        exact (rP.mp nd).1 (aN.mpr (mV GD))
      | succ i =>
        refine ih i j (by omega) (by simpa using e1) GD ?_
        cases o with
        | none=>simpa [roots] using nd
        | some b=>simp only [roots,pb,id] at nd; exact (rP.mp nd).2
 rcases Nat.lt_trichotomy i j with l | l | l
 · exact (key O i j l h1 h2 I.nd).elim
 · exact l
 · exact (key O j i l h2 h1 I.nd).elim
theorem fO {α β:Type} {F:α→β→Prop}:∀ {l₁:List α} {l₂:List β} {a:α},Paired F l₁ l₂→a∈l₁→∃ b∈l₂,F a b
 | _,_,_,.nil,h=>nomatch h
 | _,_,a,.cons r t,h=>by
   rcases fg.mp h with z | z
   · subst z; exact ⟨_,gq,r⟩
   · obtain ⟨b,h1,h2⟩:=fO t z; exact ⟨b,i_ _ h1,h2⟩
theorem qf {α β:Type} {F:α→β→Prop}:∀ {l₁:List α} {l₂:List β} {i:Nat} {b:β},Paired F l₁ l₂→l₂[i]?=some b→∃ a,l₁[i]?=some a∧F a b
 | _,_,_,_,.nil,e=>by simp at e
 | _,_,0,_,.cons r _,e=>by simp at e; subst e; exact ⟨_,rfl,r⟩
 | _,_,i+1,b,.cons _ t,e=>by
   obtain ⟨a,h1,h2⟩:=qf (i:=i) (b:=b) t (by simpa using e)
   exact ⟨a,by simpa using h1,h2⟩
theorem jx {α β:Type} {F:α→β→Prop}:∀ {l₁:List α} {l₂:List β} {i:Nat} {a:α},Paired F l₁ l₂→l₁[i]?=some a→∃ b,l₂[i]?=some b∧F a b
 | _,_,_,_,.nil,e=>by simp at e
 | _,_,0,_,.cons r _,e=>by simp at e; subst e; exact ⟨_,rfl,r⟩
 | _,_,i+1,b,.cons _ t,e=>by
   obtain ⟨a,h1,h2⟩:=jx (i:=i) (a:=b) t (by simpa using e)
   exact ⟨a,by simpa using h1,h2⟩
theorem aA.called {K:PySem.W.Frag} {Z':Zc} {tm:List (T×V)} {O:List (Option Addr)} {ρ:En} {σ:St} {H H':Hp} {as:List Addr} {ks:List Nat} {us:List T} (I:aA K Z tm O ρ σ H) (hk:Paired (fun a k=>O[k]?=some (some a)) as ks) (nk:ks.Nodup)
  (fr:∀ b o,H b=some o→b∉as→H' b=some o) (hu:Paired (fun a u=>cA K H' (av Z' O) a u) as us)
  (hZ:Z'.H0=Z.H0) (hP:Z'.P=Z.P) (Yq:∀ a∈Z'.Ox,a∉roots O∧H' a≠none) (more:∀ a∈av Z' O,a∈av Z O∨H a=none):aA K Z' tm O (putK ks us ρ) σ H':=by
 have yF:∀ a∈as,a∈roots O:=fun a h=>by obtain ⟨k,_,e⟩:=fO hk h; exact aN.mpr (mV e)
 have sub:∀ a∈as,a∈av Z O:=fun a h=>mX _ (yF a h)
 have We:∀ a∈as,a∈av Z' O:=fun a h=>mX _ (yF a h)
 have mu:∀ a∈as,∃ u,H a=some u∧wq u=true:=fun a h=>(I.own a (yF a h)).2.2
 have fw:∀ {t:T} {v:V},At K H (av Z O) t v→At K H' (av Z' O) t v:=fun q=>(q.more more).M7 fr We mu
 have ZH:∀ {t:List T} {v:List V},aI K H (av Z O) t v→aI K H' (av Z' O) t v:=fun q=>aI.iff.mpr (Paired.mZ (aI.iff.mp q) fun _ _ z=>fw z)
 refine ⟨by rw [qe]; exact I.lσ,by rw [qe]; exact I.lO,fun i e h=>?_,I.nd,fun b hb=>?_,by rw [hP]; exact I.par,fun a ha=>(Yq a ha).2,fun b o e n=>?_,fun p hp=>fw (I.pB p hp)⟩
 · rcases wD nk (by rw [← OW hk,OW hu]) h with ⟨h1,h2⟩ | ⟨j,u,h1,h2,rfl⟩
   · obtain ⟨o,s,g1,g2,g3⟩:=I.sl i e h2
     refine ⟨o,s,g1,g2,g3.map (fun _ _ q=>fw q) fun b t eo q=>?_⟩
     subst eo
     have nb:b∉as:=fun m=>by
      obtain ⟨k,HU,M9⟩:=fO hk m
      exact h1 (by rw [Eh I g1 M9]; exact HU)
     obtain ⟨u,eu,_⟩:=q.mut
     exact q.map (by rw [eu]; exact fr _ _ eu nb) fun _ _ z=>ZH z
   · obtain ⟨a,ha,r⟩:=qf hu h2
     obtain ⟨k,HU,M9⟩:=jx hk ha
     rw [h1] at HU
     cases HU
     have hl:i < ρ.length:=by rw [← I.lO]; exact (e_.mp M9).1
     obtain ⟨o,s,g1,g2,g3⟩:=I.sl i ρ[i] (by simp)
     rw [M9] at g1
     cases g1
     refine ⟨some a,s,M9,g2,a,rfl,?_,r⟩
     cases q:ρ[i] with
     | none=>rw [q] at g3; cases g3
     | some tb =>
       obtain ⟨t,b⟩:=tb
       rw [q] at g3
       cases b with
       | false=>cases g3.1
       | true=>obtain ⟨a',e1,e2,_⟩:=g3; cases e1; exact e2
 · obtain ⟨q1,q2,v,e,m⟩:=I.own b hb
   refine ⟨by rw [hZ,hP]; exact q1,fun z=>(Yq b z).1 hb,?_⟩
   by_cases Yr:b∈as
   · obtain ⟨j,hj⟩:=Lx.mp Yr
     obtain ⟨u,_,r⟩:=jx hu hj
     exact r.mut
   · exact ⟨v,fr _ _ e Yr,m⟩
 · rw [hZ] at e
   rw [hP] at n
   refine fr _ _ (I.keep b o e n) fun m=>?_
   rcases (I.own b (yF b m)).1 with z | z
   · exact n z
   · rw [z] at e; cases e
theorem wF (F:cF X.prog X.w X.K X.mg X.base ip k f fd ps (wB X.K fs G)) (hr:bj k X.A) (hg:Gl X x) (hm:X.mg x=some (.ref f)) (hk:PySem.W.keepIn X.K (.ref f)=true) (hb:Binds X.K fd ps []) (ha:M6 X Z (e :: es) ms g)
  (Wc:ms.map Option.isSome=fs:=by rfl) (Wf:(ms.filterMap id).Nodup:=by decide)
  (lH:gk x:=by decide) (he:starEach (e :: es) X.env=(false,eval e X.env) :: starEach es X.env:=by rfl) (gj:(backTo pos (starEach es X.env)).any (·.1)=false:=by rfl) :
  VX X Z (.Call (.Name x p) (e :: es) [] pos) (M8 ms g G):=.mk fun tm=>PE.weak (j4 F hr hg hm hk hb .nil tf (ha tm) lH he gj) fun σ H Q ⟨ρ,O,q,I,hf,k⟩ =>
 ⟨ρ,O,_,I,hf,fun ts gG vs H1 s1 a1=>by
   subst Wc
   show wB X.K _ G (vs ++ []) H1 Q E0
   rw [Dm]
   have J:=I.same s1
   obtain ⟨as,h1,h2⟩:=AM.args (A':=av Z O) (fun _ z=>z) (fun k t e=>by obtain ⟨a,q1,q2,q3⟩:=J.root e; exact ⟨a,q1,q3⟩) a1
   have yF:∀ a∈as,a∈roots O:=fun a h=>by obtain ⟨k,_,e⟩:=fO h2 h; exact aN.mpr (mV e)
   have ZI:as.Nodup:=by
    clear h1
    have:∀ {as:List Addr} {ks:List Nat},ks.Nodup→Paired (fun a k=>O[k]?=some (some a)) as ks→as.Nodup:=by
     intro as ks nd h
     induction h with
     | nil=>exact GY
     | cons r t ih =>
       rw [rP] at nd ⊢
       refine ⟨fun m=>?_,ih nd.2⟩
       obtain ⟨k',m1,m2⟩:=fO t m
       exact nd.1 (by rw [Eh J r m2]; exact m1)
    exact this Wf h2
   have T4:∀ b,b∈as ++ (av Z O).filter (fun b=>decide (b∉as))↔b∈av Z O:=fun b=>by
    rw [mY,GW]
    constructor
    · rintro (z | z)
      · exact mX _ (yF b z)
      · exact z.1
    · intro z
      by_cases hb:b∈as
      · exact .inl hb
      · exact .inr ⟨z,decide_eq_true hb⟩
   obtain ⟨tF,M_,HV⟩:=AM.args (A':=as ++ (av Z O).filter (fun b=>decide (b∉as))) (fun b z=>(T4 b).mp z) (fun k t e=>by obtain ⟨a,q1,q2,q3⟩:=J.root e; exact ⟨a,q1,q3⟩) a1
   have ee:tF=as:=by
    have:∀ {as tF:List Addr} {ks:List Nat},Paired (fun a k=>O[k]?=some (some a)) as ks→Paired (fun a k=>O[k]?=some (some a)) tF ks→tF=as:=by
     intro as tF ks h h'
     induction h generalizing tF with
     | nil=>cases h'; rfl
     | cons r t ih =>
       cases h' with
       | cons r' t' =>
         rw [r] at r'
         cases r'
         rw [ih t']
    exact this h2 HV
   subst ee
   refine ⟨ts,tF,(av Z O).filter (fun b=>decide (b∉tF)),_,ZI,fun a h z=>?_,fun a h=>J.Kz a (GW.mp h).1,M_,gG,fun us r hr v H' fr z=>?_⟩
   · exact (of_decide_eq_true (GW.mp z).2) h
   have QV:∀ a∈Z.Ox,a∉roots O∧H' a≠none:=fun a h=>by
    have na:a∉roots O:=fun m=>(J.own a m).2.1 h
    refine ⟨na,?_⟩
    cases e:H1 a with
    | none=>exact absurd e (J.ox a h)
    | some u=>rw [fr _ _ e fun m=>na (yF a m)]; simp
   cases r with
   | vw t =>
     obtain ⟨z1,z2⟩:=z
     exact k _ _ hr O v H' ⟨J.called h2 Wf fr (Paired.mZ z2 fun _ _ q=>q.bh fun b hb=>(T4 b).mpr hb) rfl rfl QV fun a h=>.inl h,z1.bh fun b hb=>(T4 b).mpr hb⟩
   | fr t =>
     obtain ⟨b,rfl,hb,nb,hR,z2⟩:=z
     obtain ⟨n1,n2,n3⟩:=J.fresh hb
     have sb:∀ c∈av (Z.ex b) O,c∈b :: (tF ++ (av Z O).filter (fun b=>decide (b∉tF))):=fun c hc=>by
      rcases dD c hc with z | z
      · exact i_ _ ((T4 c).mpr z)
      · rw [z]; exact gq
     refine k _ _ hr O _ H' ⟨b,rfl,J.called h2 Wf fr (Paired.mZ z2 fun _ _ q=>q.bh sb) rfl rfl (fun a h=>?_) (fun a h=>(dD a h).imp id fun e=>by rw [e]; exact hb),hR.bh sb,n3,n2⟩
     rcases fg.mp h with z | z
     · subst z
       obtain ⟨u,eu,_⟩:=hR.mut
       exact ⟨fun m=>n1 (mX _ m),by rw [eu]; simp⟩
     · exact QV a z⟩
end
section
variable (K:PySem.W.Frag)
theorem wG:PySem.W.kitOne K (.type "int") (.type "int")=some true:=by kernel_rfl
theorem uM:PySem.W.kitOne K (.type "int") (.type "bool")=some false:=by kernel_rfl
theorem wH:PySem.W.kitOne K (.type "int") (.type "str")=some false:=by kernel_rfl
theorem uN:PySem.W.kitOne K (.type "int") (.type "list")=some false:=by kernel_rfl
theorem sd:PySem.W.kitOne K (.type "int") (.type "tuple")=some false:=by kernel_rfl
theorem uO:PySem.W.kitOne K (.type "bool") (.type "int")=some true:=by kernel_rfl
theorem se:PySem.W.kitOne K (.type "bool") (.type "bool")=some true:=by kernel_rfl
theorem uP:PySem.W.kitOne K (.type "bool") (.type "str")=some false:=by kernel_rfl
theorem sg:PySem.W.kitOne K (.type "bool") (.type "list")=some false:=by kernel_rfl
theorem qg:PySem.W.kitOne K (.type "bool") (.type "tuple")=some false:=by kernel_rfl
theorem wI:PySem.W.kitOne K (.type "str") (.type "int")=some false:=by kernel_rfl
theorem uQ:PySem.W.kitOne K (.type "str") (.type "bool")=some false:=by kernel_rfl
theorem wJ:PySem.W.kitOne K (.type "str") (.type "str")=some true:=by kernel_rfl
theorem uR:PySem.W.kitOne K (.type "str") (.type "list")=some false:=by kernel_rfl
theorem sh:PySem.W.kitOne K (.type "str") (.type "tuple")=some false:=by kernel_rfl
theorem uS:PySem.W.kitOne K (.type "list") (.type "int")=some false:=by kernel_rfl
theorem si:PySem.W.kitOne K (.type "list") (.type "bool")=some false:=by kernel_rfl
theorem uT:PySem.W.kitOne K (.type "list") (.type "str")=some false:=by kernel_rfl
theorem sj:PySem.W.kitOne K (.type "list") (.type "list")=some true:=by kernel_rfl
theorem qh:PySem.W.kitOne K (.type "list") (.type "tuple")=some false:=by kernel_rfl
theorem sk:PySem.W.kitOne K (.type "tuple") (.type "int")=some false:=by kernel_rfl
theorem qi:PySem.W.kitOne K (.type "tuple") (.type "bool")=some false:=by kernel_rfl
theorem sr:PySem.W.kitOne K (.type "tuple") (.type "str")=some false:=by kernel_rfl
theorem qj:PySem.W.kitOne K (.type "tuple") (.type "list")=some false:=by kernel_rfl
theorem oW:PySem.W.kitOne K (.type "tuple") (.type "tuple")=some true:=by kernel_rfl
theorem uU:PySem.W.kitOne K (.type "dict") (.type "int")=some false:=by kernel_rfl
theorem su:PySem.W.kitOne K (.type "dict") (.type "bool")=some false:=by kernel_rfl
theorem uV:PySem.W.kitOne K (.type "dict") (.type "str")=some false:=by kernel_rfl
theorem sx:PySem.W.kitOne K (.type "dict") (.type "list")=some false:=by kernel_rfl
theorem qk:PySem.W.kitOne K (.type "dict") (.type "tuple")=some false:=by kernel_rfl
theorem nF:PySem.W.kitOne K (.type "NoneType") (.type "int")=some false:=by kernel_rfl
theorem lW:PySem.W.kitOne K (.type "NoneType") (.type "bool")=some false:=by kernel_rfl
theorem nG:PySem.W.kitOne K (.type "NoneType") (.type "str")=some false:=by kernel_rfl
theorem lY:PySem.W.kitOne K (.type "NoneType") (.type "list")=some false:=by kernel_rfl
theorem kH:PySem.W.kitOne K (.type "NoneType") (.type "tuple")=some false:=by kernel_rfl
end
def Ys (K:PySem.W.Frag) (H:Hp):V→String→Prop
 | .bb,t=>t="NoneType"
 | .bl _,t=>t="bool"
 | .int _,t=>t="int"
 | .str _,t=>t="str"
 | .ref a,t=>(t="list"∧∃ xs,gm K H a xs)∨(t="tuple"∧∃ xs,dY K H a xs)∨(t="dict"∧∃ aV,H a=some (.dK aV))
 | _,_=>False
def QW (K:PySem.W.Frag):List V→Hp→VK→Prop:=fun xs H Q=>∃ x n t b,xs=[x,.ty n]∧Ys K H x t∧PySem.W.kitOne K (.type t) (.type n)=some b∧Q (.bl b) H
theorem BL {X:Cx}:dC X (.builtin "isinstance") (QW X.K):=by
 intro pins s σ H xs us Q I r h
 obtain ⟨x,n,t,b,rfl,ty,e,q⟩:=h
 obtain ⟨u,w',rfl,rx,ry⟩:=vals2 r
 obtain rfl:w'=Value.type n:=ry
 have fin:∀ tk,EP X pins σ Q (.bool b) { s with toks:=tk }:=fun tk=>⟨.bl b,H,I.tok _,rfl,q⟩
 cases x with
 | bb=>cases (show t=_ from ty); cases (show u=Value.none from rx); exact Kl PySem.W.kitx_none I.kq True.intro e (fun z=>nomatch z) fin
 | bl y=>cases (show t=_ from ty); cases (show u=Value.bool y from rx); exact Kl PySem.W.kitx_bool I.kq True.intro e (fun z=>nomatch z) fin
 | int i=>cases (show t=_ from ty); obtain ⟨t,q⟩:=(show ∃ t,u=Value.int i t from rx); cases q; exact Kl PySem.W.kitx_int I.kq True.intro e (fun z=>nomatch z) fin
 | str y=>cases (show t=_ from ty); obtain ⟨t,q⟩:=(show ∃ t,u=Value.str y t from rx); cases q; exact Kl PySem.W.kitx_str I.kq True.intro e (fun z=>nomatch z) fin
 | ref a =>
   cases (show u=Value.ref a from rx)
   rcases ty with ⟨rfl,xs,hq⟩ | ⟨rfl,xs,hq⟩ | ⟨rfl,aV,hq⟩
   · obtain ⟨aP,_,p,_⟩:=I.list hq
     obtain ⟨o,n',h1,h2,_⟩:=p
     exact Kl PySem.W.kitx_list I.kq ⟨o,h1,h2⟩ e (fun z=>nomatch z) fin
   · obtain ⟨aP,_,p,_⟩:=I.tuple hq
     obtain ⟨o,h1,h2,_⟩:=p
     exact Kl PySem.W.kitx_tuple I.kq ⟨o,h1,h2⟩ e (fun z=>nomatch z) fin
   · obtain ⟨_,_,vs,_,p⟩:=(show bQ X.prog X.w H s.heap a (.dK aV) from I.bB a _ hq)
     obtain ⟨o,es,ep,h1,h2,_⟩:=p
     exact Kl PySem.W.kitx_dict I.kq ⟨o,h1,h2.1⟩ e (fun z=>nomatch z) fin
 | _=>exact (show False from ty).elim
def isInt:T→Bool
 | .int _=>true
 | .bl _=>true
 | _=>false
def isBool:T→Bool
 | .bl _=>true
 | _=>false
def isStr:T→Bool
 | .str _=>true
 | _=>false
def isList:T→Bool
 | .lst _=>true
 | _=>false
def HW:T→Bool
 | .tup _=>true
 | _=>false
def known:T→Bool
 | .dt _ _=>false
 | .df _ _ _=>false
 | .dz _ _ _=>false
 | .kt _=>false
 | .ins _ _ _=>false
 | .pin _ _=>false
 | .ob _=>false
 | .ty _=>false
 | _=>true
def nH (K:PySem.W.Frag) (n:String) (p:T→Bool):Prop:=∀ H A t v,known t=true→iq K H A t v→∃ ty,Ys K H v ty∧PySem.W.kitOne K (.type ty) (.type n)=some (p t)
theorem ql {K:PySem.W.Frag}:nH K "int" isInt:=by
 intro H A t v hk h
 cases t with
 | bb=>rw [h.bb]; exact ⟨_,rfl,nF K⟩
 | bl b=>rw [h.bl]; exact ⟨_,rfl,uO K⟩
 | int b=>rw [h.int]; exact ⟨_,rfl,wG K⟩
 | str b=>rw [h.str]; exact ⟨_,rfl,wI K⟩
 | tup l=>obtain ⟨a,vs,rfl,q,_⟩:=h.tup; exact ⟨_,.inr (.inl ⟨rfl,_,q⟩),sk K⟩
 | lst l=>obtain ⟨a,vs,rfl,q,_⟩:=h.lst; exact ⟨_,.inl ⟨rfl,_,q⟩,uS K⟩
 | dk ks l=>obtain ⟨a,vs,rfl,_,q,_⟩:=h.dk; exact ⟨_,.inr (.inr ⟨rfl,_,q⟩),uU K⟩
 | _=>simp only [known] at hk; cases hk
theorem tG {K:PySem.W.Frag}:nH K "bool" isBool:=by
 intro H A t v hk h
 cases t with
 | bb=>rw [h.bb]; exact ⟨_,rfl,lW K⟩
 | bl b=>rw [h.bl]; exact ⟨_,rfl,se K⟩
 | int b=>rw [h.int]; exact ⟨_,rfl,uM K⟩
 | str b=>rw [h.str]; exact ⟨_,rfl,uQ K⟩
 | tup l=>obtain ⟨a,vs,rfl,q,_⟩:=h.tup; exact ⟨_,.inr (.inl ⟨rfl,_,q⟩),qi K⟩
 | lst l=>obtain ⟨a,vs,rfl,q,_⟩:=h.lst; exact ⟨_,.inl ⟨rfl,_,q⟩,si K⟩
 | dk ks l=>obtain ⟨a,vs,rfl,_,q,_⟩:=h.dk; exact ⟨_,.inr (.inr ⟨rfl,_,q⟩),su K⟩
 | _=>simp only [known] at hk; cases hk
theorem jy {K:PySem.W.Frag}:nH K "str" isStr:=by
 intro H A t v hk h
 cases t with
 | bb=>rw [h.bb]; exact ⟨_,rfl,nG K⟩
 | bl b=>rw [h.bl]; exact ⟨_,rfl,uP K⟩
 | int b=>rw [h.int]; exact ⟨_,rfl,wH K⟩
 | str b=>rw [h.str]; exact ⟨_,rfl,wJ K⟩
 | tup l=>obtain ⟨a,vs,rfl,q,_⟩:=h.tup; exact ⟨_,.inr (.inl ⟨rfl,_,q⟩),sr K⟩
 | lst l=>obtain ⟨a,vs,rfl,q,_⟩:=h.lst; exact ⟨_,.inl ⟨rfl,_,q⟩,uT K⟩
 | dk ks l=>obtain ⟨a,vs,rfl,_,q,_⟩:=h.dk; exact ⟨_,.inr (.inr ⟨rfl,_,q⟩),uV K⟩
 | _=>simp only [known] at hk; cases hk
theorem BM {K:PySem.W.Frag}:nH K "list" isList:=by
 intro H A t v hk h
 cases t with
 | bb=>rw [h.bb]; exact ⟨_,rfl,lY K⟩
 | bl b=>rw [h.bl]; exact ⟨_,rfl,sg K⟩
 | int b=>rw [h.int]; exact ⟨_,rfl,uN K⟩
 | str b=>rw [h.str]; exact ⟨_,rfl,uR K⟩
 | tup l=>obtain ⟨a,vs,rfl,q,_⟩:=h.tup; exact ⟨_,.inr (.inl ⟨rfl,_,q⟩),qj K⟩
 | lst l=>obtain ⟨a,vs,rfl,q,_⟩:=h.lst; exact ⟨_,.inl ⟨rfl,_,q⟩,sj K⟩
 | dk ks l=>obtain ⟨a,vs,rfl,_,q,_⟩:=h.dk; exact ⟨_,.inr (.inr ⟨rfl,_,q⟩),sx K⟩
 | _=>simp only [known] at hk; cases hk
theorem kJ {K:PySem.W.Frag}:nH K "tuple" HW:=by
 intro H A t v hk h
 cases t with
 | bb=>rw [h.bb]; exact ⟨_,rfl,kH K⟩
 | bl b=>rw [h.bl]; exact ⟨_,rfl,qg K⟩
 | int b=>rw [h.int]; exact ⟨_,rfl,sd K⟩
 | str b=>rw [h.str]; exact ⟨_,rfl,sh K⟩
 | tup l=>obtain ⟨a,vs,rfl,q,_⟩:=h.tup; exact ⟨_,.inr (.inl ⟨rfl,_,q⟩),oW K⟩
 | lst l=>obtain ⟨a,vs,rfl,q,_⟩:=h.lst; exact ⟨_,.inl ⟨rfl,_,q⟩,qh K⟩
 | dk ks l=>obtain ⟨a,vs,rfl,_,q,_⟩:=h.dk; exact ⟨_,.inr (.inr ⟨rfl,_,q⟩),qk K⟩
 | _=>simp only [known] at hk; cases hk
def QX (f:FE) (p:T→Bool):FP:=fun ρ Q=>f ρ fun t=>known t=true∧Q (.vw (.bl (p t)))
section
variable {X:Cx} {Z:Zc} {e a b c:Expr} {es:List Expr} {pos p p2:Pos} {fa fb O8:FE}
theorem lZ:bootBuiltins "isinstance" = some (.builtin "isinstance"):=by decide +kernel
theorem cx {n:String} {y:Str} {q:T→Bool} (hq:nH X.K n q) (hg:Gl X "isinstance") (hm:X.mg "isinstance" = none) (ZJ:Gl X y) (ZL:X.mg y=none) (ZM:bootBuiltins y=some (.type n)) (ha:VR X Z e fa)
  (ZN:y≠"__name__":=by decide) (ZO:gk y:=by decide)
  (hs:starEach [e,.Name y p2] X.env=(false,eval e X.env) :: starEach [.Name y p2] X.env:=by rfl) (vW:starEach [.Name y p2] X.env=(false,eval (.Name y p2) X.env) :: starEach [] X.env:=by rfl) (gj:(backTo pos (starEach [.Name y p2] X.env)).any (·.1)=false:=by rfl) :
  VP X Z (.Call (.Name "isinstance" p) [e,.Name y p2] [] pos) (QX fa q):=.mk fun tm =>
 PE.weak (lJ BL hg hm lZ (ba (ha tm) (ba (G5 (v:=.ty n) ZJ ZL ZM rfl ZN ZO) cb vW) hs) (by decide) (by decide) hs gj) fun σ H Q ⟨ρ,O,q',I,hf,k⟩=>⟨ρ,O,_,I,hf,fun t ht v H1 s1 a1=>by
  obtain ⟨ty,h1,h2⟩:=hq H1 _ t v ht.1 a1
  exact ⟨v,n,ty,_,rfl,h1,h2,k _ ht.2 _ H1 s1 ⟨I.same s1,cH⟩⟩⟩
def gv:T→Bool
 | .bb=>true
 | .bl _=>true
 | .int _=>true
 | .str _=>true
 | _=>false
def oA:List T→Bool
 | []=>true
 | t :: ts=>gv t && oA ts
def l6 (x:T):List T→Bool
 | []=>false
 | t :: ts=>eqT t x || l6 x ts
theorem g6 {K:PySem.W.Frag} {H:Hp} {A:List Addr}:∀ {ts:List T} {vs:List V} {x:T} {v:V},oA ts=true→gv x=true→aI K H A ts vs→At K H A x v→vs.all jj=true∧jj v=true∧TK v vs=l6 x ts
 | [],vs,x,v,_,fx,h,hx=>by
   simp only [aI] at h; subst h
   refine ⟨rfl,?_,rfl⟩
   cases x <;> simp only [At] at hx <;> first | (subst hx; rfl) | (simp only [gv] at fx; cases fx)
 | t :: ts,vs,x,v,f,fx,h,hx=>by
   simp only [aI] at h
   obtain ⟨u,r,rfl,h1,h2⟩:=h
   simp only [oA,gT] at f
   obtain ⟨i1,i2,i3⟩:=g6 f.2 fx h2 hx
   have ft:jj u=true:=by
    cases t <;> simp only [At] at h1 <;> first | (subst h1; rfl) | (have:=f.1; simp only [gv] at this; cases this)
   have e:GC u v=eqT t x:=by
    cases t <;> simp only [At] at h1 <;> first
     | (have:=f.1; simp only [gv] at this; cases this; done)
     | (subst h1
        cases x <;> simp only [At] at hx <;> first
         | (simp only [gv] at fx; cases fx; done)
         | (subst hx; simp [GC,eqT]; done))
   refine ⟨by simp [ft,i1],i2,?_⟩
   simp only [l6,TK,OX]
   rw [e]
   congr 1
def Ei (K:PySem.W.Frag) (neg:Bool):R2:=fun x y H Q=>Ve K neg x y H Q∨∃ i j,x = .str i∧y = .str j∧Q (.bl (if neg then !(!(Builtin.Str.occurrences j i 0 j.length 1).isEmpty) else !(Builtin.Str.occurrences j i 0 j.length 1).isEmpty)) H
theorem yG:ff X (compareOp .In) (Ei X.K false):=by
 intro pins s σ H x y v u Q I rx ry h
 rcases h with h | ⟨i,j,h1,h2,h⟩
 · exact BC pins s σ H x y v u Q I rx ry h
 · exact By pins s σ H x y v u Q I rx ry ⟨i,j,h1,h2,by simpa using h⟩
theorem BN:ff X (compareOp .NotIn) (Ei X.K true):=by
 intro pins s σ H x y v u Q I rx ry h
 rcases h with h | ⟨i,j,h1,h2,h⟩
 · exact uC pins s σ H x y v u Q I rx ry h
 · exact uD pins s σ H x y v u Q I rx ry ⟨i,j,h1,h2,by simpa using h⟩
def l7 (i j:Str):Bool:=!(Builtin.Str.occurrences j i 0 j.length 1).isEmpty
def QY (x y:T) (q:Rt→Prop):Prop:=match y with
 | .lst ts=>gv x=true∧oA ts=true∧q (.vw (.bl (l6 x ts)))
 | .tup ts=>gv x=true∧oA ts=true∧q (.vw (.bl (l6 x ts)))
 | .str j=>∃ i,x = .str i∧q (.vw (.bl (l7 i j)))
 | _=>False
def M' (x y:T) (q:Rt→Prop):Prop:=match y with
 | .lst ts=>gv x=true∧oA ts=true∧q (.vw (.bl (!l6 x ts)))
 | .tup ts=>gv x=true∧oA ts=true∧q (.vw (.bl (!l6 x ts)))
 | .str j=>∃ i,x = .str i∧q (.vw (.bl (!l7 i j)))
 | _=>False
theorem yH {K:PySem.W.Frag}:pX K (Ei K false) QY:=by
 intro Z tm O ρ σ H x y v w q Q I h1 h2 h k
 have x1:gv x=true→At K H (av Z O) x v:=fun f=>by
  rcases h1 with h | ⟨a,rfl,h⟩
  · exact h
  · cases x <;> first | exact h.elim | (simp only [gv] at f; cases f)
 unfold QY at h
 split at h
 · obtain ⟨f1,f2,h⟩:=h
   obtain ⟨a,vs,rfl,q1,q2⟩:=h2.lst
   obtain ⟨i1,i2,i3⟩:=g6 f2 f1 q2 (x1 f1)
   exact .inl ⟨a,vs,rfl,.inl q1,i2,i1,k _ h _ H (aM.refl H) ⟨I,by rw [if_neg lh,i3]; exact cH⟩⟩
 · obtain ⟨f1,f2,h⟩:=h
   obtain ⟨a,vs,rfl,q1,q2⟩:=h2.tup
   obtain ⟨i1,i2,i3⟩:=g6 f2 f1 q2 (x1 f1)
   exact .inl ⟨a,vs,rfl,.inr q1,i2,i1,k _ h _ H (aM.refl H) ⟨I,by rw [if_neg lh,i3]; exact cH⟩⟩
 · obtain ⟨i,rfl,h⟩:=h
   exact .inr ⟨i,_,h1.str,h2.str,k _ h _ H (aM.refl H) ⟨I,by rw [if_neg lh]; exact cH⟩⟩
 · exact h.elim
theorem HX {K:PySem.W.Frag}:pX K (Ei K true) M':=by
 intro Z tm O ρ σ H x y v w q Q I h1 h2 h k
 have x1:gv x=true→At K H (av Z O) x v:=fun f=>by
  rcases h1 with h | ⟨a,rfl,h⟩
  · exact h
  · cases x <;> first | exact h.elim | (simp only [gv] at f; cases f)
 unfold M' at h
 split at h
 · obtain ⟨f1,f2,h⟩:=h
   obtain ⟨a,vs,rfl,q1,q2⟩:=h2.lst
   obtain ⟨i1,i2,i3⟩:=g6 f2 f1 q2 (x1 f1)
   exact .inl ⟨a,vs,rfl,.inl q1,i2,i1,k _ h _ H (aM.refl H) ⟨I,by rw [if_pos rfl,i3]; exact cH⟩⟩
 · obtain ⟨f1,f2,h⟩:=h
   obtain ⟨a,vs,rfl,q1,q2⟩:=h2.tup
   obtain ⟨i1,i2,i3⟩:=g6 f2 f1 q2 (x1 f1)
   exact .inl ⟨a,vs,rfl,.inr q1,i2,i1,k _ h _ H (aM.refl H) ⟨I,by rw [if_pos rfl,i3]; exact cH⟩⟩
 · obtain ⟨i,rfl,h⟩:=h
   exact .inr ⟨i,_,h1.str,h2.str,k _ h _ H (aM.refl H) ⟨I,by rw [if_pos rfl]; exact cH⟩⟩
 · exact h.elim
theorem Ej (ha:VR X Z a fa) (hb:VR X Z b fb) (hm:behindInMarks .In b=false:=by rfl):VP X Z (.Compare a [.In] [b] pos) (f2 fa fb QY):=uG yG yH ha hb hm
theorem l8 (ha:VR X Z a fa) (hb:VR X Z b fb) (hm:behindInMarks .In b=false:=by rfl):VC X Z (.Compare a [.In] [b] pos) (pY (f2 fa fb QY)):=jq yG yH ha hb hm
theorem yI (ha:VR X Z a fa) (hb:VR X Z b fb) (hm:behindInMarks .NotIn b=false:=by rfl):VC X Z (.Compare a [.NotIn] [b] pos) (pY (f2 fa fb M')):=jq BN HX ha hb hm
def Ek:T→Bool
 | .bb=>true
 | _=>false
def Wg (x y:T) (q:Rt→Prop):Prop:=match y with
 | .bb=>q (.vw (.bl (Ek x)))
 | _=>False
def yJ (x y:T) (q:Rt→Prop):Prop:=match y with
 | .bb=>q (.vw (.bl (!Ek x)))
 | _=>False
theorem AR {K:PySem.W.Frag} {H:Hp} {A:List Addr} {t:T} {v:V} (h:iq K H A t v):decide (v = .bb)=Ek t:=by
 cases t with
 | bb=>rw [h.bb]; rfl
 | bl b=>rw [h.bl]; rfl
 | int b=>rw [h.int]; rfl
 | str b=>rw [h.str]; rfl
 | ob b=>rw [h.ob]; rfl
 | ty b =>
   have:v = .ty b:=h.elim (fun q=>by simpa only [At] using q) fun ⟨_,_,q⟩=>q.elim
   rw [this]; rfl
 | tup l=>obtain ⟨a,vs,rfl,_⟩:=h.tup; rfl
 | lst l=>obtain ⟨a,vs,rfl,_⟩:=h.lst; rfl
 | dk ks l=>obtain ⟨a,vs,rfl,_⟩:=h.dk; rfl
 | dt ks l=>obtain ⟨a,vs,rfl,_⟩:=h.dt; rfl
 | df o ks l=>obtain ⟨a,vs,rfl,_⟩:=h.df; rfl
 | dz o ks l=>obtain ⟨a,vs,rfl,_⟩:=h.dz; rfl
 | kt k=>obtain ⟨a,rfl,_⟩:=h.kt; rfl
 | ins C ns l=>obtain ⟨a,dx,vs,rfl,_⟩:=h.ins; rfl
 | pin a t =>
   have e:v = .ref a:=h.elim (fun q=>by simp only [At] at q; exact q.1) fun ⟨_,_,q⟩=>q.elim
   rw [e]; rfl
theorem Na {K:PySem.W.Frag}:pX K (fun x y H Q=>y = .bb∧Q (.bl (decide (x = .bb))) H) Wg:=by
 intro Z tm O ρ σ H x y v w q Q I h1 h2 h k
 unfold Wg at h
 split at h
 · exact ⟨h2.bb,k _ h _ H (aM.refl H) ⟨I,by rw [AR h1]; exact cH⟩⟩
 · exact h.elim
theorem BO {K:PySem.W.Frag}:pX K (fun x y H Q=>y = .bb∧Q (.bl (!decide (x = .bb))) H) yJ:=by
 intro Z tm O ρ σ H x y v w q Q I h1 h2 h k
 unfold yJ at h
 split at h
 · exact ⟨h2.bb,k _ h _ H (aM.refl H) ⟨I,by rw [AR h1]; exact cH⟩⟩
 · exact h.elim
theorem qm (ha:VR X Z a fa) (hb:VR X Z b fb):VC X Z (.Compare a [.Is] [b] pos) (pY (f2 fa fb Wg)):=jq Mc Na ha hb (ji _)
theorem wK (ha:VR X Z a fa) (hb:VR X Z b fb):VC X Z (.Compare a [.IsNot] [b] pos) (pY (f2 fa fb yJ)):=jq Hb BO ha hb (ji _)
theorem wL {g g':Int→Int→Bool} {tm:List (T×V)} {σ:St} {H:Hp} {Q:VK} (h:lP X Z tm (f3 fa fb O8 (MH g) (MH g')) σ H Q):yn (uz fun i j=>.bl (g i j)) (uz fun i j=>.bl (g' i j)) (lR X Z tm fa) (lR X Z tm fb) (lR X Z tm O8) σ H Q:=by
 obtain ⟨ρ,O,q,I,hf,k⟩:=h
 refine ⟨ρ,O,_,I,hf,fun x hx v H1 s1 a1=>⟨ρ,O,_,I.same s1,hx,fun y hy w H2 s2 a2=>?_⟩⟩
 have J:=(I.same s1).same s2
 unfold MH at hy
 split at hy
 · rename_i i j
   refine ⟨i,j,(a1.same s2).int,a2.int,_,rfl,?_⟩
   cases e:g i j with
   | true =>
     rw [e] at hy
     refine Qy ⟨ρ,O,_,J,hy,fun z hz w3 H3 s3 a3=>?_⟩
     split at hz
     · rename_i e1
       cases e1
       exact ⟨_,_,(a2.same s3).int,a3.int,k _ hz _ H3 ((s1.trans s2).trans s3) ⟨J.same s3,cH⟩⟩
     · exact hz.elim
   | false =>
     rw [e] at hy
     exact Qx (k _ hy _ H2 (s1.trans s2) ⟨J,cH⟩)
 · exact hy.elim
theorem wM {op yo:CmpOp} {g g':Int→Int→Bool} (ho:ff X (compareOp op) (uz fun i j=>.bl (g i j))) (m9:ff X (compareOp yo) (uz fun i j=>.bl (g' i j))) (ha:VR X Z a fa) (hb:VR X Z b fb) (hc:VR X Z c O8)
 (hm:lastMarks [op,yo] [b,c]=false:=by with_unfolding_all rfl):VP X Z (.Compare a [op,yo] [b,c] pos) (f3 fa fb O8 (MH g) (MH g')):=.mk fun tm=>PE.weak (DC ho m9 (ha tm) (hb tm) (hc tm) hm) fun σ H Q h=>wL h
theorem El {op yo:CmpOp} {g g':Int→Int→Bool} (ho:ff X (compareOp op) (uz fun i j=>.bl (g i j))) (m9:ff X (compareOp yo) (uz fun i j=>.bl (g' i j))) (ha:VR X Z a fa) (hb:VR X Z b fb) (hc:VR X Z c O8)
  (hm:lastMarks [op,yo] [b,c]=false:=by with_unfolding_all rfl):VC X Z (.Compare a [op,yo] [b,c] pos) (pY (f3 fa fb O8 (MH g) (MH g'))):=.mk fun tm=>PT.weak (DD ho m9 (ha tm) (hb tm) (hc tm) hm) fun σ H Q ⟨ρ,O,q,I,hf,k⟩ =>
 wL ⟨ρ,O,_,I,hf,fun t ht u H' s a=>by
  obtain ⟨c,rfl,hc⟩:=yC ht
  have e:=a.2
  simp only [At] at e
  exact ⟨c,e,k c hc H' s⟩⟩
def jz (ts:List T):List T:=ts.mapIdx fun i t=>.tup [.int (i:Int),t]
def QZ (f:FE):FI:=fun ρ Q=>f ρ fun t=>match t with
 | .lst ts=>Q (jz ts)
 | _=>False
theorem HY {K:PySem.W.Frag} {a:Addr} {ts:List T}:Wk K (Vw K a) [(.lst ts,.ref a)] (jz ts):=fun H A hA h i=>by
 have h:=h _ gq
 simp only [At] at h
 obtain ⟨b,vs,e,l,q⟩:=h
 cases e
 have hl:=q.length
 have hle:(jz ts).length=ts.length:=by unfold jz; rw [List.length_mapIdx]
 rw [hle]
 refine ⟨fun hi=>⟨vs,vs[i]'(by omega),l.sq,by simp⟩,fun hi=>⟨vs,l.sq,by omega⟩,fun t ht x H' y=>?_⟩
 obtain ⟨p,u,hp,rfl,hu,rfl⟩:=y
 unfold jz at ht
 rw [List.getElem?_mapIdx] at ht
 cases e:ts[i]? with
 | none=>rw [e] at ht; cases ht
 | some t' =>
   rw [e] at ht
   cases ht
   obtain ⟨v,e1,e2⟩:=q.get e
   have:=hu vs l.sq
   rw [e1] at this
   cases this
   exact ⟨aS hp,bu (dY.of aQ) (aI.cons bx (aI.cons (e2.same (aS hp)) aI.nil))⟩
theorem gw {elts:List Expr} {x1} {tp:Pos} (hg:Gl X "enumerate") (hm:X.mg "enumerate" = none) (ha:VE X Z a fa) (hs:starEach [a] X.env=[(false,eval a X.env)]:=by rfl) :
  VI X Z (.Tuple elts x1 tp) (.Call (.Name "enumerate" p) [a] [] pos) (QZ fa):=.mk fun tm=>PI.weak (Hx hg hm (ba (ha tm) cb hs) hs) fun σ H R ⟨ρ,O,q,I,hf,k⟩=>⟨ρ,O,_,I,hf,fun t ht v H' s a=>by
 split at ht
 · have a0:=a
   simp only [At] at a
   obtain ⟨p,vs,rfl,l,_⟩:=a
   exact ⟨p,rfl,⟨vs,l.sq⟩,k _ ht _ H' _ s (fun p hp=>by rw [vZ.mp hp]; exact a0) HY⟩
 · exact ht.elim⟩
def b9:List T→Option (List Bool)
 | []=>some []
 | .bl b :: ts=>(b9 ts).map (b :: ·)
 | _=>none
theorem Em {K:PySem.W.Frag} {H:Hp} {A:List Addr}:∀ {ts:List T} {bs:List Bool} {vs:List V},b9 ts=some bs→aI K H A ts vs→vs=bs.map V.bl
 | [],bs,vs,e,h=>by simp only [b9] at e; cases e; simp only [aI] at h; rw [h]; rfl
 | .bl b :: ts,bs,vs,e,h=>by
   simp only [b9] at e
   cases q:b9 ts with
   | none=>rw [q] at e; cases e
   | some cs =>
     rw [q] at e
     cases e
     simp only [aI,At] at h
     obtain ⟨v,r,rfl,rfl,h⟩:=h
     rw [Em q h]; rfl
 | .bb :: _,_,_,e,_=>by simp [b9] at e
 | .int _ :: _,_,_,e,_=>by simp [b9] at e
 | .str _ :: _,_,_,e,_=>by simp [b9] at e
 | .tup _ :: _,_,_,e,_=>by simp [b9] at e
 | .lst _ :: _,_,_,e,_=>by simp [b9] at e
 | .dk _ _ :: _,_,_,e,_=>by simp [b9] at e
 | .dt _ _ :: _,_,_,e,_=>by simp [b9] at e
 | .df _ _ _ :: _,_,_,e,_=>by simp [b9] at e
 | .dz _ _ _ :: _,_,_,e,_=>by simp [b9] at e
 | .kt _ :: _,_,_,e,_=>by simp [b9] at e
 | .ins _ _ _ :: _,_,_,e,_=>by simp [b9] at e
 | .pin _ _ :: _,_,_,e,_=>by simp [b9] at e
 | .ob _ :: _,_,_,e,_=>by simp [b9] at e
 | .ty _ :: _,_,_,e,_=>by simp [b9] at e
def Q0 (ts:List T) (q:Rt→Prop):Prop:=match ts with
 | [.lst l]=>∃ bs,b9 l=some bs∧q (.vw (.bl (bs.all id)))
 | _=>False
theorem eE {K:PySem.W.Frag}:qa K (fun xs H Q=>∃ (p:Addr) (bs:List Bool),xs=[.ref p]∧gm K H p (bs.map V.bl)∧Q (.bl (bs.all id)) H) Q0:=by
 intro Z tm O ρ σ H ts vs q Q I h hp k
 unfold Q0 at hp
 split at hp
 · obtain ⟨bs,e,hp⟩:=hp
   obtain ⟨v,rfl,a⟩:=cw h
   obtain ⟨p,ws,rfl,q1,q2⟩:=a.lst
   rw [Em e q2] at q1
   exact ⟨p,bs,rfl,q1,k _ hp _ H (aM.refl H) ⟨I,cH⟩⟩
 · exact hp.elim
def KW (ts:List T) (q:Rt→Prop):Prop:=match ts with
 | [.int i]=>q (.vw (.int i))
 | [.bl b]=>q (.vw (.int (if b then 1 else 0)))
 | _=>False
theorem yK {K:PySem.W.Frag}:qa K (fun xs H Q=>(∃ i,xs=[.int i]∧Q (.int i) H)∨∃ k,xs=[.bl k]∧Q (.int (if k then 1 else 0)) H) KW:=by
 intro Z tm O ρ σ H ts vs q Q I h hp k
 unfold KW at hp
 split at hp
 · obtain ⟨v,rfl,a⟩:=cw h
   exact .inl ⟨_,by rw [a.int],k _ hp _ H (aM.refl H) ⟨I,bx⟩⟩
 · obtain ⟨v,rfl,a⟩:=cw h
   exact .inr ⟨_,by rw [a.bl],k _ hp _ H (aM.refl H) ⟨I,bx⟩⟩
 · exact hp.elim
def Wh (f:FP) (fb:FE):FP:=fun ρ Q=>f ρ fun r=>match r with
 | .fr (.lst ts)=>fb ρ fun y=>match y with
   | .int k=>-(2 ^ 63)≤k∧k < 2 ^ 63∧ts.length * k.toNat≤sizeLine∧Q (.fr (.lst (List.replicate k.toNat ts).flatten))
   | _=>False
 | _=>False
theorem aI.rep {K:PySem.W.Frag} {H:Hp} {A:List Addr} {ts:List T} {vs:List V} (h:aI K H A ts vs):∀ k:Nat,aI K H A (List.replicate k ts).flatten (List.replicate k vs).flatten
 | 0=>aI.nil
 | k+1=>by rw [C5,C5,LB,LB]; exact h.append (aI.rep h k)
theorem qo {f:FP} (ha:VP X Z a f) (hb:VR X Z b fb):VP X Z (.BinOp a .Mult b pos) (Wh f fb):=.mk fun tm=>PE.weak (Ks Mu (ha tm) (hb tm)) fun σ H Q ⟨ρ,O,q,I,hf,k⟩=>⟨ρ,O,_,I,hf,fun r hr v H1 s1 z=>by
 split at hr
 · obtain ⟨l,rfl,J,⟨xs,e,q1⟩,_⟩:=z
   refine ⟨ρ,O,_,I.same s1,hr,fun y hy w H2 s2 a2=>?_⟩
   split at hy
   · obtain ⟨h1,h2,h3,hy⟩:=hy
     have q2:aI X.K H2 (av Z O) _ xs:=(q1.same s2).bh fF
     exact ⟨l,_,xs,rfl,a2.int,s2 _ _ e,h1,h2,by rw [q2.length]; exact h3,fun p hp=>k _ hy _ _ ((s1.trans s2).trans (aS hp)) (((I.same s1).same s2).BK hp (q2.rep _))⟩
   · exact hy.elim
 · exact hr.elim⟩
end
structure Df (K:PySem.W.Frag) (mg:Str→Option Value) (x:Str) (st:Stmt) (ps:List Str) (f:Addr) (fd:FuncData):Prop where
 F:BG K x x st f fd
 m:mg x=some (.ref f)
 b:Binds K fd ps []
def b_ (P:Program) (w:World) (K:PySem.W.Frag) (mg:Str→Option Value) (base:Heap) (x:Str) (ps:List Str) (k:Nat) (sp:Sp):Prop :=
 ∃ f fd,mg x=some (.ref f)∧PySem.W.keepIn K (.ref f)=true∧Binds K fd ps []∧cF P w K mg base ip k f fd ps sp
theorem Df.jA {P:Program} {w:World} {K:PySem.W.Frag} {mg:Str→Option Value} {base:Heap} {x:Str} {st:Stmt} {ps:List Str} {f:Addr} {fd:FuncData} {k:Nat} {sp:Sp} (D:Df K mg x st ps f fd) (F:cF P w K mg base ip k f fd ps sp):b_ P w K mg base x ps k sp :=
 ⟨f,fd,D.m,D.F.kp,D.b,F⟩
theorem j5 {H:Hp} {Ox:List Addr} {i:Nat}:aZ ⟨H,[],Ox⟩ i:=fun _ z=>nomatch z
section
variable {P:Program} {w:World} {K:PySem.W.Frag} {mg:Str→Option Value} {base:Heap}
theorem ku {x qual:Str} {st:Stmt} {f:Addr} {fd:FuncData} {N ps:List Str} {k n:Nat} {G:List T→(Rt→Prop)→Prop} (F:BG K x qual st f fd) (S:aH N ps (aj st)) (hn:n=ps.length)
  (gW:∀ (bw:Value) (A:Around) (outer:List Env) (s:Shared) (H:Hp) (E:XK) (Ox:List Addr),bj k (A.deeper (envOfC qual (aj st) s.heap.objs.size f bw))→∀ ts q,G ts q →
    ∃ g,lU (dy ip P w K mg base N qual (aj st) f bw A outer s H E).ng ⟨H,[],Ox⟩ (cc st) g∧(ts.length=n→g { nx:=fun _=>q (.vw .bb),rt:=fun _ r=>q r } (ts.map (fun t=>some (t,false)) ++ List.replicate (N.length - ts.length) none))) :
  cF P w K mg base ip (k+1) f fd ps (bZ K n G):=by
 have hp:∀ n (as:List Addr) k,pz (List.replicate n false) as k=[]:=by
  intro n
  induction n with
  | zero=>intro as k; rfl
  | succ n ih=>intro as k; exact ih as (k+1)
 have ZP:∀ n (ρ:En),oV (List.replicate n false) ρ=[]:=by
  intro n
  induction n with
  | zero=>intro ρ; rfl
  | succ n ih=>intro ρ; exact ih ρ.tail
 have he:∀ n (ts:List T),ts.length=n→uK (List.replicate n false) ts=ts.map fun t=>some (t,false):=by
  intro n
  induction n with
  | zero=>intro ts e; cases ts <;> simp_all [uK]
  | succ n ih =>
    intro ts e
    cases ts with
    | nil=>simp at e
    | cons t ts=>rw [C5,uK,ih ts (by simpa using e)]; rfl
 refine Yo F S (by rw [ON]; exact hn) fun bw A outer s H E as Ox hr ts q hl hG=>?_
 rw [ON] at hl
 obtain ⟨g,h1,h2⟩:=gW bw A outer s H E Ox hr ts (q []) hG
 refine ⟨g,by rw [hp]; exact h1,?_⟩
 rw [he n ts hl]
 simp only [ZP]
 exact h2 hl
end
theorem bj.fP {k:Nat} {A:Around} (r:bj k A):A.units+101 < cLine:=by have:=r.un; omega
theorem qp:bootBuiltins "list" = some (.type "list"):=by decide +kernel
theorem l9:bootBuiltins "tuple" = some (.type "tuple"):=by decide +kernel
theorem qq:bootBuiltins "all" = some (.builtin "all"):=by decide +kernel
theorem AS:bootBuiltins "int" = some (.type "int"):=by decide +kernel
theorem Eo:bootBuiltins "bool" = some (.type "bool"):=by decide +kernel
theorem wN:bootBuiltins "str" = some (.type "str"):=by decide +kernel
theorem qr (lo:Int) (n:Nat):(rangeT lo n).length=n:=by unfold rangeT; rw [cV,OR]
theorem yL {lo:Int} {n i:Nat} {t:T} (h:(rangeT lo n)[i]?=some t):i < n∧t = .int (lo+(i:Int)):=by
 unfold rangeT at h
 rw [lj] at h
 cases e:(List.range n)[i]? with
 | none=>rw [e] at h; cases h
 | some j =>
   rw [e] at h
   obtain ⟨h1,h2⟩:=e_.mp e
   rw [List.getElem_range] at h2
   rw [OR] at h1
   subst h2
   cases h
   exact ⟨h1,rfl⟩
theorem fQ {lo:Int} {n:Nat} {h:FG} {g:FS} {d:KP} {ρ:En} (Pv:Nat→En→Prop) (h0:Pv 0 ρ) (hs:∀ (i:Nat) ρ',i < n→Pv i ρ'→h (.int (lo+(i:Int))) ρ' fun ρ2=>g { nx:=Pv (i+1),ct:=Pv (i+1),bk:=d.nx,rt:=d.rt } ρ2)
 (hd:∀ ρ',Pv n ρ'→d.nx ρ'):tE (rangeT lo n) h g d ρ:=⟨Pv,h0,fun i t ρ' e p=>by obtain ⟨h1,rfl⟩:=yL e; exact hs i ρ' h1 p,fun ρ' p=>hd ρ' (by rw [qr] at p; exact p)⟩
theorem wO {α:Type} {f:α→T} {xs:List α} {h:FG} {g:FS} {d:KP} {ρ:En} (Pv:Nat→En→Prop) (h0:Pv 0 ρ) (hs:∀ (i:Nat) x ρ',xs[i]?=some x→Pv i ρ'→h (f x) ρ' fun ρ2=>g { nx:=Pv (i+1),ct:=Pv (i+1),bk:=d.nx,rt:=d.rt } ρ2)
 (hd:∀ ρ',Pv xs.length ρ'→d.nx ρ'):tE (xs.map f) h g d ρ:=⟨Pv,h0,fun i t ρ' e p=>by
   rw [lj] at e
   cases q:xs[i]? with
   | none=>rw [q] at e; cases e
   | some x=>rw [q] at e; cases e; exact hs i x ρ' q p,fun ρ' p=>hd ρ' (by rw [cV] at p; exact p)⟩
theorem dN {c:Bool} {A B:Prop} (hc:c=false) (h:B):if c=true then A else B:=by rw [if_neg (by rw [hc]; exact lh)]; exact h
theorem cj {c A B:Prop} [Decidable c] (h1:c→A) (h2:¬ c→B):if decide c=true then A else B:=by
 by_cases h:c
 · rw [if_pos (decide_eq_true h)]; exact h1 h
 · rw [if_neg (by rw [decide_eq_false h]; exact lh)]; exact h2 h
section
variable {prog:Program} {w:World} {A:Around} {E:Value→Shared→Prop} {s:Shared}
theorem l_ {it t:Addr} {i:Nat} {items:Array Value} {x:Value} {Q:Value→Shared→Prop} (hit:s.heap.IsTupleIter it t i) (ht:s.heap.IsTuple t items) (hx:items[i]?=some x)
  (hQ:∀ h',h'.IsTupleIter it t (i+1)→Heap.SameBut it s.heap h'→Q x { s with heap:=h' }):wpAny (model prog w) A (Builtin.SmallTypes.nextOf (.ref it)) Q E s:=by
 obtain ⟨o,ho,hc,hd⟩:=id hit
 obtain ⟨ol,HZ,_,nl,H_⟩:=ht
 unfold Builtin.SmallTypes.nextOf
 refine wpAny_bind (wpAny_callSpecial?_slot (name:=Str.ofString "__next__") hit.typeIs Te
  (wpAny_call_entry Te hit.typeIs F.entry_tuple_iterator_next ?_ (F.args_tuple_iterator_next_1 _)))
 show wpAny _ _ (field (.ref it) 0 >>= _) _ _ s
 refine wpAny_bind (wpAny_field ho hd (x:=.ref t) rfl ?_)
 show wpAny _ _ (if (Value.ref t == Value.none)=true then _ else _) _ _ s
 rw [if_neg (show ¬ ((Value.ref t == Value.none)=true) from lh)]
 show wpAny _ _ (field (.ref it) 1 >>= _) _ _ s
 refine wpAny_bind (wpAny_field ho hd (x:=.int i 0) rfl ?_)
 show wpAny _ _ (seqItems? (.ref t) >>= _) _ _ s
 refine wpAny_bind (wpAny_seqItems HZ H_ ?_)
 simp only [Dl,hx]
 refine wpAny_bind (wpAny_setField ho hd (by simp) (wpAny_pure ⟨x,rfl,wpAny_pure (hQ _ ?_ (Heap.SameBut.update ..))⟩))
 exact ⟨_,Lv _ ho (Pq (LA hd _)),(Obj.cls_mapFields ..).trans hc,by
  rw [LA hd]; simp [rawInt]⟩
theorem nI {it t:Addr} {i:Nat} {items:Array Value} {Q:Value→Shared→Prop} (hh:A.handled=none) (hit:s.heap.IsTupleIter it t i) (ht:s.heap.IsTuple t items) (hx:items[i]?=none)
  (hE:∀ h' e,Heap.ExtBut it s.heap h'→(∃ o,h'.get? e=some o∧o.cls = .type "StopIteration")→E (.ref e) { s with heap:=h' }):wpAny (model prog w) A (Builtin.SmallTypes.nextOf (.ref it)) Q E s:=by
 obtain ⟨o,ho,hc,hd⟩:=id hit
 obtain ⟨ol,HZ,_,nl,H_⟩:=ht
 unfold Builtin.SmallTypes.nextOf
 refine wpAny_bind (wpAny_callSpecial?_slot (name:=Str.ofString "__next__") hit.typeIs Te
  (wpAny_call_entry Te hit.typeIs F.entry_tuple_iterator_next ?_ (F.args_tuple_iterator_next_1 _)))
 show wpAny _ _ (field (.ref it) 0 >>= _) _ _ s
 refine wpAny_bind (wpAny_field ho hd (x:=.ref t) rfl ?_)
 show wpAny _ _ (if (Value.ref t == Value.none)=true then _ else _) _ _ s
 rw [if_neg (show ¬ ((Value.ref t == Value.none)=true) from lh)]
 show wpAny _ _ (field (.ref it) 1 >>= _) _ _ s
 refine wpAny_bind (wpAny_field ho hd (x:=.int i 0) rfl ?_)
 show wpAny _ _ (seqItems? (.ref t) >>= _) _ _ s
 refine wpAny_bind (wpAny_seqItems HZ H_ ?_)
 simp only [Dl,hx]
 refine wpAny_bind (wpAny_rule (wpAny_bind (wpAny_setField ho hd (by simp) ?_)))
 show wpAny _ _ (newExc (.type "StopIteration") [] >>= _) _ _ _
 refine wpAny_bind ?_
 simp only [newExc,newTuple]
 refine wpAny_bind (wpAny_newObj_type ?_ (by size_fits))
 refine wpAny_bind (m:=firstArgMember _ _) (wpAny_of_eq (a:=Value.none) (by first | rfl | (simp only [firstArgMember]; rfl)) ?_)
 refine wpAny_newObj_type ?_ (by size_fits)
 simp only [raiseNew]
 refine wpAny_bind (wpAny_handled ?_)
 first | rw [show A.in1.handled=none from hh] | rw [hh]
 refine wpAny_bind (wpAny_pure (wpAny_throw ?_))
 exact hE _ _ (((Heap.SameBut.update ..).extBut.push _).push _) ⟨_,pd _ rfl,rfl⟩
end
structure Part (prog:Program) (w:World) (i:Addr) (fp:List Addr) (n:Nat) (Pv:Nat→Value→Prop) (st:Nat→Heap→Prop):Prop where
 draws:∀ A:Around,A.handled=none→Draws prog w A i fp n Pv st
 mem:i∈fp
 fld:∀ k h,st k h→∃ o vs,h.get? i=some o∧o.data = .fields vs
theorem BP {prog:Program} {w:World} (it l:Addr) (k_:l≠it) (items:Array Value):Part prog w it [it,l] items.size (fun i v=>items[i]?=some v) (fun i h=>h.IsListIter it l i∧h.IsList l items) :=
 ⟨fun A hh=>Draws.list hh it l k_ items,by simp,fun k h st=>let ⟨⟨o,e,_,d⟩,_⟩:=st; ⟨o,_,e,d⟩⟩
theorem yM {prog:Program} {w:World} (it l:Addr) (k_:l≠it) (items:Array Value):Part prog w it [it,l] items.size (fun i v=>items[i]?=some v) (fun i h=>h.IsTupleIter it l i∧h.IsTuple l items) :=
 ⟨fun A hh=>{ live:=fun _ _ st=>let ⟨o,ho,_⟩:=st.1; ⟨o,ho⟩
              frame:=fun _ _ _ st hk=>⟨let ⟨o,ho,r⟩:=st.1; ⟨o,hk it (by simp) o ho,r⟩,let ⟨o,ho,r⟩:=st.2; ⟨o,hk l (by simp) o ho,r⟩⟩
              item:=fun i s Q E hi st hQ=>l_ st.1 st.2 (x:=items[i]) (by simp [hi]) fun h' Wi T5=>hQ _ h' s.toks (by simp [hi]) ⟨Wi,st.2.extBut T5.extBut k_⟩ T5
              done:=fun s Q E st hE=>nI hh st.1 st.2 (by simp) hE },by simp,fun k h st=>let ⟨⟨o,e,_,d⟩,_⟩:=st; ⟨o,_,e,d⟩⟩
theorem Ep {prog:Program} {w:World} (it:Addr) (x:Str) (t:Tok):Part prog w it [it] x.cps.size (fun i v=>∃ c u,x.cps[i]?=some c∧v = .str ⟨#[c]⟩ u) (fun i h=>h.IsStrIter it (strIterType x) x t i):=by
 rcases c9 x with z | z
 · rw [z]; exact ⟨fun A hh=>Draws.strAscii hh it x t,by simp,fun k h st=>let ⟨o,e,_,d⟩:=st; ⟨o,_,e,d⟩⟩
 · rw [z]; exact ⟨fun A hh=>Draws.strWide hh it x t,by simp,fun k h st=>let ⟨o,e,_,d⟩:=st; ⟨o,_,e,d⟩⟩
structure Apart (z TI TO i1 i2:Addr) (qt pC:List Addr):Prop where
 TIz:TI≠z
 TOz:TO≠z
 i1z:i1≠z
 i2z:i2≠z
 TITO:TI≠TO
 TIi1:TI≠i1
 TIi2:TI≠i2
 TOi1:TO≠i1
 TOi2:TO≠i2
 i12:i1≠i2
 z1:z∉qt
 z2:z∉pC
 O1:TO∉qt
 O2:TO∉pC
 x1:i2∉qt
 x2:i1∉pC
section
variable {prog:Program} {w:World} {A:Around} {E:Value→Shared→Prop} {s:Shared} {z TI TO i1 i2:Addr} {qt pC:List Addr} {n1 n2:Nat} {P1 P2:Nat→Value→Prop} {S1 S2:Nat→Heap→Prop}
theorem Er {k:Nat} {a b:Value} {Q:Value→Shared→Prop} (hh:A.handled=none) (D:Apart z TI TO i1 i2 qt pC) (p1:Part prog w i1 qt n1 P1 S1) (p2:Part prog w i2 pC n2 P2 S2)
  (hz:IsZip s.heap z TI TO .none) (Ia:IsPair s.heap TI (.ref i1) (.ref i2)) (Ib:IsPair s.heap TO a b) (h1:S1 k s.heap) (h2:S2 k s.heap) (hx:k < n1) (hy:k < n2)
  (hQ:∀ x y h' tk,P1 k x→P2 k y→IsZip h' z TI TO (rawInt s.heap.objs.size)→IsPair h' TO x y→S1 (k+1) h'→S2 (k+1) h'→IsPair h' s.heap.objs.size x y→h'.objs.size=s.heap.objs.size+1 →
    (∀ c o,c≠z→c≠TO→c≠i1→c≠i2→s.heap.get? c=some o→h'.get? c=some o)→Q (.ref s.heap.objs.size) { s with heap:=h',toks:=tk }) :
  wpAny (model prog w) A (Builtin.«zip.__next__» ⟨[.ref z],[]⟩) (fun fin s'=>∃ v,fin = .done (.ret v)∧Q v s') E s:=by
 show wpAny _ _ (field (.ref z) 2 >>= _) _ _ _
 refine wpAny_bind (wpAny_field hz rfl (x:=.bool false) rfl ?_)
 show wpAny _ _ (field (.ref z) 3 >>= _) _ _ _
 refine wpAny_bind (wpAny_field hz rfl (x:=.ref TI) rfl ?_)
 refine wpAny_bind (wpAny_seqItems Ia rfl ?_)
 show wpAny _ _ (Builtin.SmallTypes.ownedTupleIsFree (.ref z) >>= _) _ _ _
 refine wpAny_bind ?_
 unfold Builtin.SmallTypes.ownedTupleIsFree
 refine wpAny_bind (wpAny_field hz rfl (x:=.none) rfl (wpAny_pure ?_))
 simp only [if_true]
 refine wpAny_bind (wpAny_rule ?_)
 refine wpAny_bind (wpAny_field hz rfl (x:=.ref TO) rfl ?_)
 refine wpAny_bind (wpAny_setField_rec hz (by simp) fun h₁ DT De=>?_)
 replace DT:IsZip h₁ z TI TO .ellipsis:=DT
 refine wpAny_bind ?_
 simp only [List.zipIdx_cons,List.zipIdx_nil,List.forIn_cons,List.forIn_nil]
 have f1:∀ {m h h' c},c∉qt→S1 m h→Heap.SameBut c h h'→S1 m h':=fun {m h h' c} hc st sb=>(p1.draws A hh).frame m h h' st fun b hb o e=>sb.extBut b o (fun q=>hc (q▸hb)) e
 have f2:∀ {m h h' c},c∉pC→S2 m h→Heap.SameBut c h h'→S2 m h':=fun {m h h' c} hc st sb=>(p2.draws A hh).frame m h h' st fun b hb o e=>sb.extBut b o (fun q=>hc (q▸hb)) e
 refine wpAny_bind (wpAny_bind (wpAny_onRaise ?_))
 show wpAny _ _ (Builtin.SmallTypes.nextOf (.ref i1) >>= _) _ _ _
 refine wpAny_bind ((p1.draws _ hh).item k _ _ _ hx (f1 D.z1 h1 De) fun x h₂ ZQ px Yt rY=>wpAny_pure ?_)
 replace rY:Heap.SameBut i1 h₁ h₂:=rY
 have Es:IsPair h₂ TO a b:=rY.extBut _ _ D.TOi1 (De.extBut _ _ D.TOz Ib)
 refine wpAny_bind (wpAny_seqItems Es rfl ?_)
 refine wpAny_bind (wpAny_updateSeq_pair Es fun h₃ Ic ye=>?_)
 replace Ic:IsPair h₃ TO x b:=Ic
 replace ye:Heap.SameBut TO h₂ h₃:=ye
 refine wpAny_bind (wpAny_letGo (wpAny_pure ?_))
 refine wpAny_bind (wpAny_bind (wpAny_onRaise ?_))
 show wpAny _ _ (Builtin.SmallTypes.nextOf (.ref i2) >>= _) _ _ _
 refine wpAny_bind ((p2.draws _ hh).item k _ _ _ hy (f2 D.O2 (f2 D.x2 (f2 D.z2 h2 De) rY) ye) fun y h₄ ZR py ZS GG=>wpAny_pure ?_)
 replace GG:Heap.SameBut i2 h₃ h₄:=GG
 have Q1:IsPair h₄ TO x b:=GG.extBut _ _ D.TOi2 Ic
 refine wpAny_bind (wpAny_seqItems Q1 rfl ?_)
 refine wpAny_bind (wpAny_updateSeq_pair Q1 fun h₅ Ie GH=>?_)
 replace Ie:IsPair h₅ TO x y:=Ie
 replace GH:Heap.SameBut TO h₄ h₅:=GH
 refine wpAny_bind (wpAny_letGo (wpAny_pure (wpAny_pure ?_)))
 refine wpAny_bind (wpAny_seqItems Ie rfl ?_)
 refine wpAny_bind (wpAny_newTuple ?_)
 have pS:h₅.objs.size=s.heap.objs.size:=by rw [GH.1,GG.1,ye.1,rY.1,De.1]
 have Yu:IsZip h₅ z TI TO .ellipsis:=GH.extBut _ _ D.TOz.symm (GG.extBut _ _ D.i2z.symm (ye.extBut _ _ D.TOz.symm (rY.extBut _ _ D.i1z.symm DT)))
 have ZT:∀ c o,c≠z→c≠TO→c≠i1→c≠i2→s.heap.get? c=some o→h₅.get? c=some o:=fun c o c1 c2 c3 c4 e =>
  GH.extBut _ _ c2 (GG.extBut _ _ c4 (ye.extBut _ _ c2 (rY.extBut _ _ c3 (De.extBut _ _ c1 e))))
 have ZU:S1 (k+1) h₅:=f1 D.O1 (f1 D.x1 (f1 D.O1 Yt ye) GG) GH
 have ZV:S2 (k+1) h₅:=f2 D.O2 ZS GH
 have Q2:z < h₅.objs.size:=dZ Yu
 show wpAny _ _ (Builtin.SmallTypes.ownedTupleHandOut (.ref z) (.ref h₅.objs.size) >>= _) _ _ _
 refine wpAny_bind ?_
 unfold Builtin.SmallTypes.ownedTupleHandOut
 have ZW:IsZip (h₅.push { cls:=.type "tuple",data:=.seq #[x,y] }) z TI TO .ellipsis:=dH _ Yu
 refine wpAny_bind (wpAny_setField_rec ZW (by simp) fun h₇ Wj Wl=>?_)
 replace Wj:IsZip h₇ z TI TO (rawInt h₅.objs.size):=Wj
 refine wpAny_setField_rec Wj (by simp) fun h₈ T6 Wm=>?_
 replace T6:IsZip h₈ z TI TO (rawInt h₅.objs.size):=T6
 have up:∀ c o,c≠z→h₅.get? c=some o→h₈.get? c=some o:=fun c o c1 e=>Wm.extBut _ _ c1 (Wl.extBut _ _ c1 (dH _ e))
 have Yv:IsPair h₈ h₅.objs.size x y:=Wm.extBut _ _ (C8 Q2) (Wl.extBut _ _ (C8 Q2) (pd _ rfl))
 have Yw:h₈.objs.size=h₅.objs.size+1:=by rw [Wm.1,Wl.1,yg]
 have ZX:S1 (k+1) h₈:=(p1.draws A hh).frame _ _ _ ZU fun b hb o e=>up b o (fun q=>D.z1 (q▸hb)) e
 have ZY:S2 (k+1) h₈:=(p2.draws A hh).frame _ _ _ ZV fun b hb o e=>up b o (fun q=>D.z2 (q▸hb)) e
 rw [pS] at T6 Yv Yw
 refine wpAny_pure ⟨_,rfl,?_⟩
 show Q (.ref h₅.objs.size) _
 rw [pS]
 exact hQ x y h₈ ZR px py T6 (up _ _ D.TOz Ie) ZX ZY Yv Yw fun c o c1 c2 c3 c4 e=>up c o c1 (ZT c o c1 c2 c3 c4 e)
theorem Ig {k:Nat} {a b:Value} {Q:PySem.Fin→Shared→Prop} (hh:A.handled=none) (D:Apart z TI TO i1 i2 qt pC) (p1:Part prog w i1 qt n1 P1 S1) (p2:Part prog w i2 pC n2 P2 S2)
  (hz:IsZip s.heap z TI TO .none) (Ia:IsPair s.heap TI (.ref i1) (.ref i2)) (Ib:IsPair s.heap TO a b) (h1:S1 k s.heap) (h2:S2 k s.heap) (Nb:k=n1∨(k < n1∧k=n2))
  (hE:∀ h' tk e,(∀ c o,c≠z→c≠TO→c≠i1→c≠i2→s.heap.get? c=some o→h'.get? c=some o)→(∃ o,h'.get? e=some o∧o.cls = .type "StopIteration")→E (.ref e) { s with heap:=h',toks:=tk }) :
  wpAny (model prog w) A (Builtin.«zip.__next__» ⟨[.ref z],[]⟩) Q E s:=by
 have f1:∀ {m h h' c},c∉qt→S1 m h→Heap.SameBut c h h'→S1 m h':=fun {m h h' c} hc st sb=>(p1.draws A hh).frame m h h' st fun b hb o e=>sb.extBut b o (fun q=>hc (q▸hb)) e
 have f2:∀ {m h h' c},c∉pC→S2 m h→Heap.SameBut c h h'→S2 m h':=fun {m h h' c} hc st sb=>(p2.draws A hh).frame m h h' st fun b hb o e=>sb.extBut b o (fun q=>hc (q▸hb)) e
 show wpAny _ _ (field (.ref z) 2 >>= _) _ _ _
 refine wpAny_bind (wpAny_field hz rfl (x:=.bool false) rfl ?_)
 show wpAny _ _ (field (.ref z) 3 >>= _) _ _ _
 refine wpAny_bind (wpAny_field hz rfl (x:=.ref TI) rfl ?_)
 refine wpAny_bind (wpAny_seqItems Ia rfl ?_)
 show wpAny _ _ (Builtin.SmallTypes.ownedTupleIsFree (.ref z) >>= _) _ _ _
 refine wpAny_bind ?_
 unfold Builtin.SmallTypes.ownedTupleIsFree
 refine wpAny_bind (wpAny_field hz rfl (x:=.none) rfl (wpAny_pure ?_))
 simp only [if_true]
 refine wpAny_bind (wpAny_rule ?_)
 refine wpAny_bind (wpAny_field hz rfl (x:=.ref TO) rfl ?_)
 refine wpAny_bind (wpAny_setField_rec hz (by simp) fun h₁ DT De=>?_)
 replace DT:IsZip h₁ z TI TO .ellipsis:=DT
 refine wpAny_bind ?_
 simp only [List.zipIdx_cons,List.zipIdx_nil,List.forIn_cons,List.forIn_nil]
 refine wpAny_bind (wpAny_bind (wpAny_onRaise ?_))
 show wpAny _ _ (Builtin.SmallTypes.nextOf (.ref i1) >>= _) _ _ _
 rcases Nb with rfl | ⟨gF,rfl⟩
 · refine wpAny_bind ((p1.draws _ hh).done _ _ _ (f1 D.z1 h1 De) fun h₂ e rY he=>?_)
   obtain ⟨oe,Nc,Q3⟩:=he
   have T7:IsZip h₂ z TI TO .ellipsis:=rY _ _ D.i1z.symm DT
   have Wn:e≠z:=fun x=>by subst x; rw [T7] at Nc; cases Nc; simp at Q3
   refine wpAny_setField_rec T7 (by simp) fun h₃ _ ye=>hE h₃ _ e (fun c o c1 _ c3 _ x=>ye.extBut _ _ c1 (rY _ _ c3 (De.extBut _ _ c1 x))) ⟨oe,ye.extBut _ _ Wn Nc,Q3⟩
 · refine wpAny_bind ((p1.draws _ hh).item k _ _ _ gF (f1 D.z1 h1 De) fun x h₂ ZQ px Yt rY=>wpAny_pure ?_)
   replace rY:Heap.SameBut i1 h₁ h₂:=rY
   have Es:IsPair h₂ TO a b:=rY.extBut _ _ D.TOi1 (De.extBut _ _ D.TOz Ib)
   refine wpAny_bind (wpAny_seqItems Es rfl ?_)
   refine wpAny_bind (wpAny_updateSeq_pair Es fun h₃ Ic ye=>?_)
   replace ye:Heap.SameBut TO h₂ h₃:=ye
   refine wpAny_bind (wpAny_letGo (wpAny_pure ?_))
   refine wpAny_bind (wpAny_bind (wpAny_onRaise ?_))
   show wpAny _ _ (Builtin.SmallTypes.nextOf (.ref i2) >>= _) _ _ _
   refine wpAny_bind ((p2.draws _ hh).done _ _ _ (f2 D.O2 (f2 D.x2 (f2 D.z2 h2 De) rY) ye) fun h₄ e GG he=>?_)
   obtain ⟨oe,Nc,Q3⟩:=he
   have Yx:IsZip h₄ z TI TO .ellipsis:=GG _ _ D.i2z.symm (ye.extBut _ _ D.TOz.symm (rY.extBut _ _ D.i1z.symm DT))
   have Wn:e≠z:=fun x=>by subst x; rw [Yx] at Nc; cases Nc; simp at Q3
   refine wpAny_setField_rec Yx (by simp) fun h₅ _ GH=>hE h₅ _ e (fun c o c1 c2 c3 c4 x=>GH.extBut _ _ c1 (GG _ _ c4 (ye.extBut _ _ c2 (rY.extBut _ _ c3 (De.extBut _ _ c1 x))))) ⟨oe,GH.extBut _ _ Wn Nc,Q3⟩
theorem oX {k:Nat} {a b:Value} {Q:Option Value→Shared→Prop} (hh:A.handled=none) (D:Apart z TI TO i1 i2 qt pC) (p1:Part prog w i1 qt n1 P1 S1) (p2:Part prog w i2 pC n2 P2 S2)
  (hz:IsZip s.heap z TI TO .none) (Ia:IsPair s.heap TI (.ref i1) (.ref i2)) (Ib:IsPair s.heap TO a b) (h1:S1 k s.heap) (h2:S2 k s.heap) (hx:k < n1) (hy:k < n2)
  (hQ:∀ x y h' tk,P1 k x→P2 k y→IsZip h' z TI TO (rawInt s.heap.objs.size)→IsPair h' TO x y→S1 (k+1) h'→S2 (k+1) h'→IsPair h' s.heap.objs.size x y→h'.objs.size=s.heap.objs.size+1 →
    (∀ c o,c≠z→c≠TO→c≠i1→c≠i2→s.heap.get? c=some o→h'.get? c=some o)→Q (some (.ref s.heap.objs.size)) { s with heap:=h',toks:=tk }):wpAny (model prog w) A (pyNext (.ref z)) Q E s:=by
 have hT:s.TypeIs (.ref z) "zip":=⟨_,hz,rfl⟩
 unfold pyNext
 exact wpAny_bind (wpAny_attempt (wpAny_callSpecial?_slot (name:=Str.ofString "__next__") hT F.slot_zip_next
  (wpAny_call_entry F.slot_zip_next hT F.entry_zip_next
    (Er hh D p1 p2 hz Ia Ib h1 h2 hx hy fun x y h' tk q1 q2 a1 a2 a3 a4 a5 a6 a7=>wpAny_pure (hQ x y h' tk q1 q2 a1 a2 a3 a4 a5 a6 a7)) (F.args_zip_next_1 _))))
theorem qu {k:Nat} {a b:Value} {Q:Option Value→Shared→Prop} (hh:A.handled=none) (D:Apart z TI TO i1 i2 qt pC) (p1:Part prog w i1 qt n1 P1 S1) (p2:Part prog w i2 pC n2 P2 S2)
  (hz:IsZip s.heap z TI TO .none) (Ia:IsPair s.heap TI (.ref i1) (.ref i2)) (Ib:IsPair s.heap TO a b) (h1:S1 k s.heap) (h2:S2 k s.heap) (Nb:k=n1∨(k < n1∧k=n2))
  (hQ:∀ h' tk,(∀ c o,c≠z→c≠TO→c≠i1→c≠i2→s.heap.get? c=some o→h'.get? c=some o)→Q none { s with heap:=h',toks:=tk }):wpAny (model prog w) A (pyNext (.ref z)) Q E s:=by
 have hT:s.TypeIs (.ref z) "zip":=⟨_,hz,rfl⟩
 unfold pyNext
 refine wpAny_bind (wpAny_attempt (wpAny_callSpecial?_slot (name:=Str.ofString "__next__") hT F.slot_zip_next
  (wpAny_call_entry F.slot_zip_next hT F.entry_zip_next (Ig hh D p1 p2 hz Ia Ib h1 h2 Nb fun h' tk e hk he=>?_) (F.args_zip_next_1 _))))
 obtain ⟨o,ho,hc⟩:=he
 refine wpAny_bind (wpAny_isInstance (T:="StopIteration") (b:=true) ⟨o,ho,hc⟩ isSubtype_stop ?_)
 exact wpAny_pure (hQ _ _ hk)
end
def Wo (i:Int):Prop:=i.natAbs < 2 ^ 2000
theorem Wo.of {i:Int} (h1 : -(10 ^ 200)≤i) (h2:i≤10 ^ 200):Wo i:=by
 unfold Wo
 have e:(10:Nat) ^ 200 < 2 ^ 2000:=by decide
 have:i.natAbs≤10 ^ 200:=by
  have e2:((10 ^ 200:Nat):Int)=(10:Int) ^ 200:=by rw [Int.natCast_pow]; rfl
  generalize (10:Nat) ^ 200=m at *
  rw [← e2] at h1 h2
  omega
 exact Nat.lt_of_le_of_lt this e
section
variable {X:Cx}
end
section
variable {X:Cx} {Z:Zc} {a b:Expr} {fa fb:FE} {pos:Pos}
end
def jB (v:Value) (o:Obj) (c:Heap→Prop):Prop:=∀ (prog:Program) (w:World) (A:Around) (E:Value→Shared→Prop) (s:Shared) (Q:Value→Shared→Prop),c s.heap →
 Q (.ref s.heap.objs.size) { s with heap:=s.heap.push o }→wpAny (model prog w) A (pyIter v) Q E s
theorem wQ (l:Addr) (items:Array Value):jB (.ref l) { cls:=.type "list_iterator",data:=.fields #[.ref l,.int 0 0] } (fun h=>h.IsList l items):=fun _ _ _ _ _ _ h q=>wpAny_pyIter_list h q
theorem uW (l:Addr) (items:Array Value):jB (.ref l) { cls:=.type "tuple_iterator",data:=.fields #[.ref l,.int 0 0] } (fun h=>h.IsTuple l items):=fun _ _ _ _ _ _ h q=>wpAny_pyIter_tuple h q
theorem yN (x:Str) (t:Tok):jB (.str x t) { cls:=.type (strIterType x),data:=.fields #[.str x t,.int 0 0] } (fun _=>True):=fun _ _ _ _ _ _ _ q=>wpAny_pyIter_strU q
abbrev T8 (h:Heap) (o1 o2:Obj):Heap:=((h.push o1).push o2).push { cls:=.type "tuple",data:=.seq #[.ref h.objs.size,.ref (h.push o1).objs.size] }
abbrev T9 (h:Heap) (o1 o2:Obj):Heap:=(T8 h o1 o2).push { cls:=.type "tuple",data:=.seq #[.none,.none] }
abbrev Nd (h:Heap) (o1 o2:Obj):Heap:=(T9 h o1 o2).push { cls:=.type "zip",data:=.fields #[.none,.bool false,.bool false,.ref ((h.push o1).push o2).objs.size,.ref (T8 h o1 o2).objs.size] }
theorem yO {v1 v2:Value} {o1 o2:Obj} {c1 c2:Heap→Prop} (i1:jB v1 o1 c1) (i2:jB v2 o2 c2) (yP:∀ h o,c2 h→c2 (h.push o)) :
  Meets (Builtin.«zip.__new__» ⟨[.type "zip",v1,v2],[]⟩) (fun _ R s=>c1 s.heap∧c2 s.heap ∧
   R (.ok (.ret (.ref (T9 s.heap o1 o2).objs.size))) { s with heap:=Nd s.heap o1 o2 }) :=
 .of_wp fun prog w A R s h=>by
  obtain ⟨hp,g,d,tk,os⟩:=s; obtain ⟨Wq,Dd,h⟩:=h
  have Et:=sub_zip
  have ZZ:=yP _ o1 Dd
  have I1:∀ (A:Around) (E:Value→Shared→Prop) (Q:Value→Shared→Prop),Q (.ref hp.objs.size) ⟨hp.push o1,g,d,tk,os⟩→wpAny (model prog w) A (pyIter v1) Q E ⟨hp,g,d,tk,os⟩:=fun A E Q q=>i1 prog w A E _ Q Wq q
  have I2:∀ (A:Around) (E:Value→Shared→Prop) (Q:Value→Shared→Prop),Q (.ref (hp.push o1).objs.size) ⟨(hp.push o1).push o2,g,d,tk,os⟩→wpAny (model prog w) A (pyIter v2) Q E ⟨hp.push o1,g,d,tk,os⟩:=fun A E Q q=>i2 prog w A E _ Q ZZ q
  wp_walk using I1,I2
  exact ⟨_,rfl,h⟩
section
variable {prog:Program} {w:World} {A:Around} {E:Value→Shared→Prop} {s:Shared}
theorem BQ {v1 v2:Value} {o1 o2:Obj} {c1 c2:Heap→Prop} {Q:Value→Shared→Prop} (i1:jB v1 o1 c1) (i2:jB v2 o2 c2) (yP:∀ h o,c2 h→c2 (h.push o)) (h1:c1 s.heap) (h2:c2 s.heap) (Wr:o1.isFreed=false) (Ws:o2.isFreed=false)
  (h:∀ h',IsZip h' (s.heap.objs.size+4) (s.heap.objs.size+2) (s.heap.objs.size+3) .none→IsPair h' (s.heap.objs.size+2) (.ref s.heap.objs.size) (.ref (s.heap.objs.size+1)) →
    IsPair h' (s.heap.objs.size+3) .none .none→h'.get? s.heap.objs.size=some o1→h'.get? (s.heap.objs.size+1)=some o2→h'.objs.size=s.heap.objs.size+5 →
    (∀ c o,s.heap.get? c=some o→h'.get? c=some o)→Q (.ref (s.heap.objs.size+4)) { s with heap:=h' }) :
  wpAny (model prog w) A (call (.type "zip") [v1,v2]) Q E s:=by
 refine callType_new F.called_zip (by decide) (F.typeCall_zip_2 _ _) (F.newCall_zip_2 _ _) (fun obj=>F.args_object_init_3 obj _ _) F.entry_zip_new
  (yO i1 i2 yP) ⟨h1,h2,?_⟩
 have z1:(s.heap.push o1).objs.size=s.heap.objs.size+1:=yg ..
 have z2:((s.heap.push o1).push o2).objs.size=s.heap.objs.size+2:=by rw [yg,z1]
 have z3:(T8 s.heap o1 o2).objs.size=s.heap.objs.size+3:=by rw [yg,z2]
 have z4:(T9 s.heap o1 o2).objs.size=s.heap.objs.size+4:=by rw [yg,z3]
 have z5:(Nd s.heap o1 o2).objs.size=s.heap.objs.size+5:=by rw [yg,z4]
 have g5:(Nd s.heap o1 o2).get? (T9 s.heap o1 o2).objs.size=some _:=pd _ rfl
 have g4:(Nd s.heap o1 o2).get? (T8 s.heap o1 o2).objs.size=some _:=dH _ (pd _ rfl)
 have g3:(Nd s.heap o1 o2).get? ((s.heap.push o1).push o2).objs.size=some _:=dH _ (dH _ (pd _ rfl))
 have g2:(Nd s.heap o1 o2).get? (s.heap.push o1).objs.size=some _:=dH _ (dH _ (dH _ (pd _ Ws)))
 have g1:(Nd s.heap o1 o2).get? s.heap.objs.size=some _:=dH _ (dH _ (dH _ (dH _ (pd _ Wr))))
 show _∧_
 rw [z2,z3,z4] at g5
 rw [z1,z2] at g3
 rw [z3] at g4
 rw [z1] at g2
 rw [z4]
 exact ⟨⟨_,g5,rfl⟩,h _ g5 g3 g4 g1 g2 z5 fun c o x =>
  dH _ (dH _ (dH _ (dH _ (dH _ x))))⟩
end
structure BR (P:Program) (w:World) (K:PySem.W.Frag) (i:Addr) (fp:List Addr) (sq:Hp→List V→Prop) (it:Nat→Heap→Prop):Prop where
 part:∀ (X:Cx) (pins:List (Addr×Obj)) (σ:St) (H:Hp) (s:Shared),X.prog=P→X.w=w→X.K=K→Inv X pins σ H s→∀ xs,sq H xs →
  ∃ (Pv:Nat→Value→Prop) (S:Nat→Heap→Prop),Part P w i fp xs.length Pv S∧(∀ k v,Pv k v→∃ x,xs[k]?=some x∧RelV x v)∧(∀ k h,S k h→it k h)∧∀ k,it k s.heap→S k s.heap
 keep:∀ k h h',it k h→(∀ o,h.get? i=some o→h'.get? i=some o)→it k h'
 obj:∀ k h,it k h→∃ o,h.get? i=some o∧∀ v,o.data≠.cell v
 inj:∀ (X:Cx) (pins:List (Addr×Obj)) (σ:St) (H:Hp) (s:Shared),X.K=K→Inv X pins σ H s→∀ xs ys,sq H xs→sq H ys→xs=ys
theorem src_list {P:Program} {w:World} {K:PySem.W.Frag} (i l:Addr) (k_:l≠i):BR P w K i [i,l] (fun H xs=>gm K H l xs) (fun k h=>h.IsListIter i l k) where
 part:=fun X pins σ H s hP hw hK I xs hq=>by
  subst hP hw hK
  obtain ⟨aP,rv,p,hz⟩:=I.list hq
  have e:aP.toArray.size=xs.length:=by simp [rv.length]
  refine ⟨_,_,e▸BP i l k_ aP.toArray,fun k v hv=>?_,fun k h st=>st.1,fun k st=>⟨st,p.isList⟩⟩
  have yQ:aP[k]?=some v:=by simpa using hv
  have hk:k < xs.length:=by rw [← e]; simp; exact (e_.mp yQ).1
  obtain ⟨u,hu,ru⟩:=rv.get (show xs[k]?=some xs[k] by simp)
  rw [yQ] at hu
  cases hu
  exact ⟨_,by simp,ru⟩
 keep:=fun k h h' st q=>st.at q
 obj:=fun k h st=>let ⟨o,e,_,d⟩:=st; ⟨o,e,fun v z=>by rw [d] at z; cases z⟩
 inj:=fun X pins σ H s hK I xs ys h1 h2=>by subst hK; exact I.lq h1 h2
theorem src_tuple {P:Program} {w:World} {K:PySem.W.Frag} (i l:Addr) (k_:l≠i):BR P w K i [i,l] (fun H xs=>dY K H l xs) (fun k h=>h.IsTupleIter i l k) where
 part:=fun X pins σ H s hP hw hK I xs hq=>by
  subst hP hw hK
  obtain ⟨aP,rv,p,hz⟩:=I.tuple hq
  have e:aP.toArray.size=xs.length:=by simp [rv.length]
  refine ⟨_,_,e▸yM i l k_ aP.toArray,fun k v hv=>?_,fun k h st=>st.1,fun k st=>⟨st,p⟩⟩
  have yQ:aP[k]?=some v:=by simpa using hv
  have hk:k < xs.length:=by rw [← e]; simp; exact (e_.mp yQ).1
  obtain ⟨u,hu,ru⟩:=rv.get (show xs[k]?=some xs[k] by simp)
  rw [yQ] at hu
  cases hu
  exact ⟨_,by simp,ru⟩
 keep:=fun k h h' st q=>let ⟨o,e,r⟩:=st; ⟨o,q o e,r⟩
 obj:=fun k h st=>let ⟨o,e,_,d⟩:=st; ⟨o,e,fun v z=>by rw [d] at z; cases z⟩
 inj:=fun X pins σ H s hK I xs ys h1 h2=>by subst hK; exact I.m_ h1 h2
def yR (x:Str):List V:=x.cps.toList.map fun c=>.str ⟨#[c]⟩
theorem Ih {P:Program} {w:World} {K:PySem.W.Frag} (i:Addr) (x:Str) (t:Tok):BR P w K i [i] (fun _ xs=>xs=yR x) (fun k h=>h.IsStrIter i (strIterType x) x t k) where
 part:=fun X pins σ H s hP hw hK I xs hq=>by
  subst hP hw hK hq
  have e:x.cps.size=(yR x).length:=by unfold yR; simp
  refine ⟨_,_,e▸Ep i x t,fun k v hv=>?_,fun k h st=>st,fun k st=>st⟩
  obtain ⟨c,u,h1,rfl⟩:=hv
  exact ⟨.str ⟨#[c]⟩,by unfold yR; rw [lj]; simp [h1],u,rfl⟩
 keep:=fun k h h' st q=>let ⟨o,e,r⟩:=st; ⟨o,q o e,r⟩
 obj:=fun k h st=>let ⟨o,e,_,d⟩:=st; ⟨o,e,fun v z=>by rw [d] at z; cases z⟩
 inj:=fun X pins σ H s hK I xs ys h1 h2=>by rw [h1,h2]
section
variable {X:Cx} {pins:List (Addr×Obj)} {σ:St} {H H':Hp} {s:Shared} {h':Heap}
theorem Ii {t':Nat} {ch:List Addr} (I:Inv X pins σ H s) (k:∀ b u,b∉ch→s.heap.get? b=some u→h'.get? b=some u) (hf:∀ b∈ch,nh X pins H b):Inv X pins σ H { s with heap:=h',toks:=t' }:=by
 have Du:∀ b u,H b=some u→b∉ch:=fun b u e z=>by rw [(hf b z).1] at e; cases e
 refine I.step (g':=s.gens) (d':=s.drawn) (ch:=ch) (fun b hb=>?_) (fun b u _ _ hc e _=>k b u hc e) (fun b u _ _ hc e _=>⟨u.slots,k b u hc e⟩) (fun b u _ e n=>n) (fun b u hc e=>⟨u,k b u hc e⟩)
  (fun b xs e=>e) (fun b u v e=>e) (fun b ps e=>⟨#[],?_⟩) (fun m hm=>?_) (fun b u e=>?_) I.bare
 · obtain ⟨_,f1,_,f3,f4,f5⟩:=hf b hb
   exact ⟨f3,f1,f4,f5⟩
 · rw [e]; simp
 · obtain ⟨ob,es,ep,ho,r⟩:=hm
   exact ⟨ob,es,ep,k _ ob (fun z=>(hf _ z).2.1 rfl) ho,r⟩
 · refine (I.bB b u e).oQ (fun c v hc q=>k c v ?_ q) (fun c q=>q) fun c xs q=>q
   rcases hc with z | z
   · rw [z]; exact Du b u e
   · exact Du c _ z
end
def Wt (yS yT:Hp→List V→Prop):It :=
 ⟨fun i H=>∃ xs ys,yS H xs∧yT H ys∧i < xs.length∧i < ys.length,fun i H v H'=>∃ t x y,H t=none∧v = .ref t∧(∀ xs,yS H xs→xs[i]?=some x)∧(∀ ys,yT H ys→ys[i]?=some y)∧H'=upd H t (.tup [x,y]),
   fun i H=>∃ xs ys,yS H xs∧yT H ys∧(i=xs.length∨(i < xs.length∧i=ys.length))⟩
theorem Eu {P:Program} {w:World} {K:PySem.W.Frag} {elts:List Expr} {x1} {tp:Pos} {z TI TO i1 i2:Addr} {qt pC:List Addr} {yS yT:Hp→List V→Prop} {t1 t2:Nat→Heap→Prop} (D:Apart z TI TO i1 i2 qt pC) (p1:BR P w K i1 qt yS t1) (p2:BR P w K i2 pC yT t2) :
  Turn P w K (.Tuple elts x1 tp) (Wt yS yT) [z,TI,TO,i1,i2] z (fun i h=>IsZip h z TI TO .none∧IsPair h TI (.ref i1) (.ref i2)∧(∃ a b,IsPair h TO a b)∧t1 i h∧t2 i h) where
 mem:=by simp
 obj:=fun i h st b hb=>by
  obtain ⟨h1,h2,⟨a,c,h3⟩,h4,h5⟩:=st
  simp only [fg,ko,or_false] at hb
  rcases hb with rfl | rfl | rfl | rfl | rfl
  · exact ⟨_,h1,fun v q=>by cases q⟩
  · exact ⟨_,h2,fun v q=>by cases q⟩
  · exact ⟨_,h3,fun v q=>by cases q⟩
  · exact p1.obj i h h4
  · exact p2.obj i h h5
 keep:=fun i h h' st k=>by
  obtain ⟨h1,h2,⟨a,c,h3⟩,h4,h5⟩:=st
  exact ⟨k z (by simp) _ h1,k TI (by simp) _ h2,⟨a,c,k TO (by simp) _ h3⟩,p1.keep i h h' h4 fun o q=>k i1 (by simp) o q,p2.keep i h h' h5 fun o q=>k i2 (by simp) o q⟩
 item:=by
  intro X hP hw hK hc i pins s σ H E I hf st hg
  obtain ⟨xs,ys,T_,Ua,l1,l2⟩:=hg
  obtain ⟨h1,h2,⟨a,c,h3⟩,h4,h5⟩:=st
  obtain ⟨P1,S1,q1,v1,b1,f1⟩:=p1.part X pins σ H s hP hw hK I xs T_
  obtain ⟨P2,S2,q2,v2,b2,f2⟩:=p2.part X pins σ H s hP hw hK I ys Ua
  refine oX (I.ok.hd hc) D q1 q2 h1 h2 h3 (f1 i h4) (f2 i h5) l1 l2 fun x y h₁ tk px py DT Wu s1 s2 Z0 pS hk=>?_
  obtain ⟨x',ex,rx⟩:=v1 i x px
  obtain ⟨y',ey,ry⟩:=v2 i y py
  refine ⟨_,rfl,wpAny_letOwnedTupleGo_zip DT fun h₂ T7 rY=>?_⟩
  have rZ:Heap.SameBut z h₁ h₂:=rY
  have gF:z < s.heap.objs.size:=dZ h1
  have Vy:s.heap.objs.size≠z:=C8 gF
  have kk:∀ b ob,b∉[z,TI,TO,i1,i2]→s.heap.get? b=some ob→h₂.get? b=some ob:=fun b ob hb q=>by
   simp only [fg,ko,or_false,not_or] at hb
   exact (rZ.2 b hb.1).trans (hk b ob hb.1 hb.2.2.1 hb.2.2.2.1 hb.2.2.2.2 q)
  have new:bQ X.prog X.w (upd H s.heap.objs.size (.tup [x',y'])) h₂ s.heap.objs.size (.tup [x',y']) :=
   ⟨by show 2≤sizeLine; rw [sizeLine_eq]; decide,[x,y],.cons rx (.cons ry .nil),⟨_,(rZ.2 _ Vy).trans Z0,rfl,_,rfl⟩⟩
  refine ⟨.ref s.heap.objs.size,upd H s.heap.objs.size (.tup [x',y']),I.grown (t':=tk) kk hf (cZ _) new,rfl,⟨_,x',y',I.fresh,rfl,fun zs hz=>by rw [p1.inj X pins σ H s hK I _ _ hz T_]; exact ex,fun zs hz=>by rw [p2.inj X pins σ H s hK I _ _ hz Ua]; exact ey,rfl⟩,⟨T7,?_,⟨x,y,?_⟩,?_,?_⟩,fun b hb=>?_⟩
  · exact (rZ.2 TI D.TIz).trans (hk TI _ D.TIz D.TITO D.TIi1 D.TIi2 h2)
  · exact (rZ.2 TO D.TOz).trans Wu
  · exact p1.keep _ _ _ (b1 _ _ s1) fun o q=>(rZ.2 i1 D.i1z).trans q
  · exact p2.keep _ _ _ (b2 _ _ s2) fun o q=>(rZ.2 i2 D.i2z).trans q
  · have VB:b < s.heap.objs.size:=by
     simp only [fg,ko,or_false] at hb
     rcases hb with rfl | rfl | rfl | rfl | rfl
     · exact gF
     · exact dZ h2
     · exact dZ h3
     · obtain ⟨o,e,_⟩:=p1.obj i _ h4; exact dZ e
     · obtain ⟨o,e,_⟩:=p2.obj i _ h5; exact dZ e
    rw [aK (iu VB)]
    exact (hf b hb).1
 done:=by
  intro X hP hw hK hc i pins s σ H E I hf st hg
  obtain ⟨xs,ys,T_,Ua,he⟩:=hg
  obtain ⟨h1,h2,⟨a,c,h3⟩,h4,h5⟩:=st
  obtain ⟨P1,S1,q1,v1,b1,f1⟩:=p1.part X pins σ H s hP hw hK I xs T_
  obtain ⟨P2,S2,q2,v2,b2,f2⟩:=p2.part X pins σ H s hP hw hK I ys Ua
  refine qu (I.ok.hd hc) D q1 q2 h1 h2 h3 (f1 i h4) (f2 i h5) he fun h' tk hk=>⟨rfl,?_⟩
  refine Ii (t':=tk) I (fun b u hb q=>?_) hf
  simp only [fg,ko,or_false,not_or] at hb
  exact hk b u hb.1 hb.2.2.1 hb.2.2.2.1 hb.2.2.2.2 q
 self:=fun _ _ _ _ _ st h=>by
  obtain ⟨h1,_⟩:=st
  exact wpAny_pyIter_zip h1 h
inductive ZK (K:PySem.W.Frag) (H:Hp):V→(Hp→List V→Prop)→Prop where
 | lst {a:Addr} {xs:List V}:gm K H a xs→ZK K H (.ref a) (fun H xs=>gm K H a xs)
 | tup {a:Addr} {xs:List V}:dY K H a xs→ZK K H (.ref a) (fun H xs=>dY K H a xs)
 | str (z:Str):ZK K H (.str z) (fun _ xs=>xs=yR z)
theorem KY {X:Cx} {pins:List (Addr×Obj)} {σ:St} {H:Hp} {s:Shared} {x:V} {u:Value} {sq:Hp→List V→Prop} (I:Inv X pins σ H s) (z:ZK X.K H x sq) (r:RelV x u) :
  ∃ (o:Obj) (c:Heap→Prop) (fp:List Addr) (it:Addr→Nat→Heap→Prop),jB u o c∧c s.heap∧(∀ h o,c h→c (h.push o))∧o.isFreed=false∧(∀ b∈fp,b < s.heap.objs.size) ∧
   ∀ i,s.heap.objs.size≤i→BR X.prog X.w X.K i (i :: fp) sq (it i)∧∀ h,h.get? i=some o→it i 0 h:=by
 cases z with
 | lst hq =>
   rename_i a xs
   cases r
   obtain ⟨aP,rv,p,hz⟩:=I.list hq
   have hl:a < s.heap.objs.size:=by obtain ⟨o,n,e,_⟩:=p; exact dZ e
   refine ⟨_,_,[a],fun i k h=>h.IsListIter i a k,wQ a aP.toArray,p.isList,fun h o q=>Heap.IsList.push q _,rfl,fun b hb=>by rw [vZ.mp hb]; exact hl,fun i hi=>⟨src_list i a (iu (pe hl hi)),fun h e=>⟨_,e,rfl,rfl⟩⟩⟩
 | tup hq =>
   rename_i a xs
   cases r
   obtain ⟨aP,rv,p,hz⟩:=I.tuple hq
   have hl:a < s.heap.objs.size:=by obtain ⟨o,e,_⟩:=p; exact dZ e
   refine ⟨_,_,[a],fun i k h=>h.IsTupleIter i a k,uW a aP.toArray,p,fun h o q=>(let ⟨o',e,r⟩:=q; ⟨o',dH _ e,r⟩),rfl,fun b hb=>by rw [vZ.mp hb]; exact hl,fun i hi=>⟨src_tuple i a (iu (pe hl hi)),fun h e=>⟨_,e,rfl,rfl⟩⟩⟩
 | str z =>
   obtain ⟨t,rfl⟩:=r
   refine ⟨_,_,[],fun i k h=>h.IsStrIter i (strIterType z) z t k,yN z t,trivial,fun _ _ _=>trivial,rfl,fun b hb=>?_,fun i hi=>⟨Ih i z t,fun h e=>⟨_,e,rfl,rfl⟩⟩⟩
   cases hb
theorem nn {a b:Nat} (h:a < b):a≠b:=iu h
theorem Ew {n:Nat} {qt pC:List Addr} (h1:∀ b∈qt,b < n) (h2:∀ b∈pC,b < n):Apart (n+4) (n+2) (n+3) n (n+1) (n :: qt) ((n+1) :: pC):=by
 have k1:∀ b:Nat,n < b→b∉(n :: qt):=fun b hb m=>by
  rcases fg.mp m with q | q
  · exact C8 hb q
  · exact Dq _ (Nat.lt_trans hb (h1 b q))
 have k2:∀ b:Nat,n+1 < b→b∉((n+1) :: pC):=fun b hb m=>by
  rcases fg.mp m with q | q
  · exact C8 hb q
  · exact Dq _ (Nat.lt_trans (Nat.lt_trans (GR n) hb) (h2 b q))
 have k3:n∉((n+1) :: pC):=fun m=>by
  rcases fg.mp m with q | q
  · exact iu (GR n) q
  · exact Dq _ (h2 n q)
 exact ⟨nn (by omega),nn (by omega),nn (by omega),nn (by omega),nn (by omega),(nn (by omega)).symm,(nn (by omega)).symm,(nn (by omega)).symm,(nn (by omega)).symm,nn (by omega),k1 _ (by omega),k2 _ (by omega),k1 _ (by omega),k2 _ (by omega),k1 _ (by omega),k3⟩
theorem Ij {n c:Nat} (h:c∈[n+4,n+2,n+3,n,n+1]):n≤c:=by
 simp only [fg,ko,or_false] at h
 omega
def Wv (K:PySem.W.Frag) (ta:TA):TI:=fun σ H R=>ta σ H fun vs H1=>∃ x y yS yT,vs=[x,y]∧ZK K H1 x yS∧ZK K H1 y yT∧R (Wt yS yT) H1
section
variable {X:Cx} {Z:Zc}
theorem boot_zip:bootBuiltins "zip" = some (.type "zip"):=by decide +kernel
theorem Nf {elts:List Expr} {x1} {tp:Pos} {a b:Expr} {ta:TA} {p pos:Pos} (hg:Gl X "zip") (hm:X.mg "zip" = none) (ha:PA X [a,b] ta) (hs:starEach [a,b] X.env=[(false,eval a X.env),(false,eval b X.env)]) (vW:starEach [b] X.env=[(false,eval b X.env)]) :
  PI X (.Tuple elts x1 tp) (.Call (.Name "zip" p) [a,b] [] pos) (Wv X.K ta):=by
 intro pins s σ H R I h
 refine Call_ (kD I hg hm boot_zip (Td (bT (ha pos pins s σ H _ I h) fun us s1 ⟨vs,H1,I1,r1,q1⟩=>?_) (by rw [hs,vW]) (by rw [vW]; rfl)))
 obtain ⟨x,y,yS,yT,e,k1,k2,q⟩:=q1
 subst e
 obtain ⟨u,w',rfl,ru,rw'⟩:=vals2 r1
 obtain ⟨o1,c1,qt,t1,i1,Wq,hp1,Wr,Dg,z1⟩:=KY I1 k1 ru
 obtain ⟨o2,c2,pC,t2,i2,Dd,yP,Ws,Dh,z2⟩:=KY I1 k2 rw'
 refine BQ i1 i2 yP Wq Dd Wr Ws fun h' hz Ia Ib g1 g2 pS hk=>?_
 have I2:Inv X pins σ H1 { s1 with heap:=h' }:=I1.kept (t':=s1.toks) hk
 refine wpAny_pyIter_zip hz ?_
 obtain ⟨S1,a1⟩:=z1 s1.heap.objs.size (cZ _)
 obtain ⟨S2,a2⟩:=z2 (s1.heap.objs.size+1) (LF _)
 have D:Apart (s1.heap.objs.size+4) (s1.heap.objs.size+2) (s1.heap.objs.size+3) s1.heap.objs.size (s1.heap.objs.size+1) (s1.heap.objs.size :: qt) ((s1.heap.objs.size+1) :: pC):=by
  exact Ew Dg Dh
 refine ⟨s1.heap.objs.size+4,_,_,_,H1,rfl,I2,Eu D S1 S2,⟨hz,Ia,⟨_,_,Ib⟩,a1 _ g1,a2 _ g2⟩,fun c hc=>?_,q⟩
 have Yy:s1.heap.objs.size≤c:=Ij hc
 exact I1.rS Yy (I1.bB.fresh Yy)
def Ey:T→Option (List T)
 | .lst ts=>some ts
 | .tup ts=>some ts
 | .str z=>some (z.cps.toList.map fun c=>.str ⟨#[c]⟩)
 | _=>none
def nJ (xs ys:List T):List T:=List.zipWith (fun a b=>.tup [a,b]) xs ys
def Ww (fa fb:FE):FI:=fun ρ Q=>fa ρ fun x=>fb ρ fun y=>match Ey x,Ey y with
 | some xs,some ys=>Q (nJ xs ys)
 | _,_=>False
theorem KZ {K:PySem.W.Frag} {H:Hp} {A:List Addr} {x:T} {v:V} {xs:List T} (h:At K H A x v) (e:Ey x=some xs):∃ sq,ZK K H v sq∧∀ H A,At K H A x v→∃ vs,sq H vs∧aI K H A xs vs:=by
 cases x with
 | lst ts =>
   cases e
   simp only [At] at h
   obtain ⟨a,vs,rfl,l,q⟩:=h
   refine ⟨_,.lst l.sq,fun H A h=>?_⟩
   simp only [At] at h
   obtain ⟨a',lg,e,l',q'⟩:=h
   cases e
   exact ⟨lg,l'.sq,q'⟩
 | tup ts =>
   cases e
   simp only [At] at h
   obtain ⟨a,vs,rfl,l,q⟩:=h
   refine ⟨_,.tup l,fun H A h=>?_⟩
   simp only [At] at h
   obtain ⟨a',lg,e,l',q'⟩:=h
   cases e
   exact ⟨lg,l',q'⟩
 | str z =>
   cases e
   simp only [At] at h
   subst h
   refine ⟨_,.str z,fun H A h=>⟨yR z,rfl,?_⟩⟩
   unfold yR
   generalize z.cps.toList=l
   induction l with
   | nil=>exact aI.nil
   | cons c l ih=>exact aI.cons bF ih
 | _=>cases e
theorem Ng {K:PySem.W.Frag} {x y:T} {v w:V} {xs ys:List T} {yS yT:Hp→List V→Prop} (h1:∀ H A,At K H A x v→∃ vs,yS H vs∧aI K H A xs vs) (h2:∀ H A,At K H A y w→∃ vs,yT H vs∧aI K H A ys vs) :
  Wk K (Wt yS yT) [(x,v),(y,w)] (nJ xs ys):=fun H A hA h i=>by
 obtain ⟨vs,q1,l1⟩:=h1 H A (h _ gq)
 obtain ⟨ws,q2,l2⟩:=h2 H A (h _ (i_ _ gq))
 have e1:=l1.length
 have e2:=l2.length
 have el:(nJ xs ys).length=min xs.length ys.length:=by unfold nJ; rw [List.length_zipWith]
 rw [el]
 refine ⟨fun hi=>⟨vs,ws,q1,q2,by omega,by omega⟩,fun hi=>⟨vs,ws,q1,q2,by omega⟩,fun t ht x H' y=>?_⟩
 obtain ⟨p,a,b,hp,rfl,ha,hb,rfl⟩:=y
 unfold nJ at ht
 rw [List.getElem?_zipWith] at ht
 cases ex:xs[i]? with
 | none=>rw [ex] at ht; cases ht
 | some tx =>
   cases ey:ys[i]? with
   | none=>rw [ex,ey] at ht; cases ht
   | some ty =>
     rw [ex,ey] at ht
     cases ht
     obtain ⟨v1,g1,g2⟩:=l1.get ex
     obtain ⟨v2,g3,g4⟩:=l2.get ey
     have z1:=ha vs q1
     have z2:=hb ws q2
     rw [g1] at z1
     rw [g3] at z2
     cases z1
     cases z2
     exact ⟨aS hp,bu (dY.of aQ) (aI.cons (g2.same (aS hp)) (aI.cons (g4.same (aS hp)) aI.nil))⟩
theorem Ez {elts:List Expr} {x1} {tp p pos:Pos} {a b:Expr} {fa fb:FE} (hg:Gl X "zip") (hm:X.mg "zip" = none) (ha:VE X Z a fa) (hb:VE X Z b fb)
  (hs:starEach [a,b] X.env=[(false,eval a X.env),(false,eval b X.env)]:=by rfl) (vW:starEach [b] X.env=[(false,eval b X.env)]:=by rfl) :
  VI X Z (.Tuple elts x1 tp) (.Call (.Name "zip" p) [a,b] [] pos) (Ww fa fb):=.mk fun tm =>
 PI.weak (Nf hg hm (ba (ha tm) (ba (hb tm) cb vW) (by rw [hs,vW])) hs vW) fun σ H R ⟨ρ,O,q,I,hf,k⟩=>⟨ρ,O,_,I,hf,fun x hx v H1 s1 a1=>⟨ρ,O,_,I.same s1,hx,fun y hy w H2 s2 a2=>by
  split at hy
  · rename_i xs ys e1 e2
    obtain ⟨yS,k1,w1⟩:=KZ (a1.same s2) e1
    obtain ⟨yT,k2,w2⟩:=KZ a2 e2
    exact ⟨v,w,yS,yT,rfl,k1,k2,k _ hy _ H2 _ (s1.trans s2) (fun p hp=>by
     rcases fg.mp hp with e | hp
     · rw [e]; exact a1.same s2
     · rw [vZ.mp hp]; exact a2) (Ng w1 w2)⟩
  · exact hy.elim⟩⟩
end
end VT
namespace HE
open PySem PySem.W PySem.Calls PyProof.Rows
noncomputable def pD (tb:String→Option Builtin) (p:Program) (w:World) (n₀:Nat) (ann:Option Value):Nat→SharedT→Thread→Option SharedT
 | 0,_,_=>none
 | n+1,s,t=>match through t with
   | true=>some s
   | false=>match stepOk n₀ ann t with
     | false=>none
     | true=>match stepT (denote tb) p w s t with
       | some (s',t')=>pD tb p w n₀ ann n s' t'
       | none=>none
theorem tI {tb:String→Option Builtin} {p:Program} {w:World} {n₀:Nat} {ann:Option Value}:∀ {n:Nat} {s s':SharedT} {t:Thread},pD tb p w n₀ ann n s t=some s'→topRun tb p w n₀ ann n s.abs t=some s'.abs
 | 0,_,_,_,h=>by cases h
 | n+1,s,s',t,h=>by
   unfold pD at h
   unfold topRun
   cases ht:through t with
   | true=>rw [ht] at h; cases h; rfl
   | false =>
     rw [ht] at h
     cases hk:stepOk n₀ ann t with
     | false=>rw [hk] at h; cases h
     | true =>
       rw [hk] at h
       cases hs:stepT (denote tb) p w s t with
       | none=>rw [hs] at h; cases h
       | some r=>obtain ⟨s₂,t₂⟩:=r; rw [hs] at h; rw [stepT_spec hs]; exact tI h
noncomputable def Z1 (l:List Obj):BT:=(l.foldl (fun (p:BT×Nat) o=>(p.1.ins p.2 o,p.2+1)) (.nil,0)).1
noncomputable def d0 (P:Params):BT:=Z1 (boot_heap P).objs.toList
noncomputable def Yz (T:BT) (os:OsState):SharedT:=⟨T,11,{},Array.mk [],boot_drawn,boot_toks,os⟩
theorem boot_abs (P:Params):absHeap (d0 P) 11 {}=boot_heap P:=by kernel_rfl
theorem BS (P:Params):((boot_heap P).isNs mainGlobals,(boot_heap P).objs.size,(boot_heap P).nsMap mainGlobals "__annotations__")=(true,11,some (.ref 6)):=by kernel_rfl
noncomputable def Nh (p:Program) (T:BT) (w:World) (M:Nat) (os:OsState):Option SharedT:=pD treeTable p w 11 (some (.ref 6)) M (Yz T os) (topStub p)
noncomputable def Kf (as:List Addr) (g:Addr→Option Obj):Frag:=as.filterMap fun a=>(g a).map fun o=>(a,o)
noncomputable def tg (T:BT) (n:Nat) (a:Addr):Option Obj:=match Nat.blt a n with
 | true=>alive ((T.get a).getD default)
 | false=>none
theorem Q5 (T:BT) (n:Nat) (life:Life) (a:Addr):(absHeap T n life).get? a=tg T n a:=by
 unfold tg
 cases h:Nat.blt a n with
 | true =>
   have hn:a < n:=Nat.ble_eq.mp h
   cases g:T.get a with
   | some o=>rw [abs_get hn g]; rfl
   | none =>
     have e:=absHeap_at T n life a
     rw [if_pos hn,g] at e
     unfold Heap.get?
     rw [e]
     rfl
 | false =>
   have hn:¬ a < n:=fun z=>by
    have:Nat.blt a n=true:=Nat.ble_eq.mpr z
    rw [h] at this; cases this
   exact abs_get_none hn
abbrev Ik (q:Program) (lv:List (Str×WData)) (R:WRecords) (s:Shared):Bool:=xlAt q lv s && recOk R s
noncomputable def lookA (p q:Program) (loose:List Str) (lv:List (Str×WData)) (R:WRecords) (T:BT) (H0:Heap) (w:World) (M:Nat) (os:OsState) :=
 (Nh p T w M os).map fun s=>((staticsOk (importedModules p.main.body) H0 s.abs.heap && namesBound p s.abs.heap && gensDone s.abs && laidKept H0 s.abs.heap),
   (openSeen q loose (importedModules p.main.body) (Ik q lv R) true s.abs).1,(openSeen q loose (importedModules p.main.body) (Ik q lv R) true s.abs).2.1)
noncomputable def lookB (p q:Program) (loose:List Str) (lv:List (Str×WData)) (R:WRecords) (T:BT) (w:World) (M:Nat) (os:OsState) :=
 (Nh p T w M os).map fun s=>(openSeen q loose (importedModules p.main.body) (Ik q lv R) true s.abs).2.2
noncomputable def lookC {β:Type} (p:Program) (as:List Addr) (F:Frag→β) (T:BT) (w:World) (M:Nat) (os:OsState) :=
 (Nh p T w M os).map fun s=>F (Kf as (tg s.tree s.n))
noncomputable def uX (p:Program) (N:Nat) (w:World) (a:Addr):Option Obj:=(openEnds treeTable p w N).bind (·.heap.get? a)
theorem head {p q:Program} {loose:List Str} {lv:List (Str×WData)} {R:WRecords} {as:List Addr} {N M:Nat} {β:Type} {F:Frag→β} {v:World→β}
  (e:opening p=plainProg p.main.scope.names) (hN:Nat.ble 600 N=true) (f:∀ s,fenceModules? p s=some s) (le:Nat.ble M N=true)
  (ra:∀ (w:World) (os:OsState),lookA p q loose lv R (d0 w.params) (boot_heap w.params) w M os=some (true,(openGood q loose).1,(openGood q loose).2.1))
  (rb:∀ (w:World) (os:OsState),lookB p q loose lv R (d0 w.params) w M os=some (openGood q loose).2.2)
  (rc:∀ (w:World) (os:OsState),lookC p as F (d0 w.params) w M os=some (v w)) :
  LeftO p q loose (Ik q lv R) (fun s=>as.map s.heap.get?) (fun w=>as.map (uX p N w)) N∧∀ w,F (Kf as (uX p N w))=v w:=by
 have key:∀ w,∃ s,openEnds treeTable p w N=some s∧openSeen q loose (importedModules p.main.body) (Ik q lv R) true s=openGood q loose∧F (Kf as s.heap.get?)=v w:=fun w=>by
  obtain ⟨⟨h,gs,d,k,os⟩,e1,e2⟩:=Pp.mp (boot_open e hN f w)
  obtain ⟨rfl,rfl,rfl,rfl⟩:h=boot_heap w.params∧gs=Array.mk []∧d=boot_drawn∧k=boot_toks:=by simpa using e2
  obtain ⟨s,r1,r2⟩:=Pp.mp (ra w os)
  obtain ⟨s',Z2,Z3⟩:=Pp.mp (rb w os)
  obtain ⟨Mh,Wx,Z4⟩:=Pp.mp (rc w os)
  obtain rfl:s=s':=Option.some.inj (r1.symm.trans Z2)
  obtain rfl:s=Mh:=Option.some.inj (r1.symm.trans Wx)
  have r3:=congrArg (fun x=>x.1) r2
  have r4:openSeen q loose (importedModules p.main.body) (Ik q lv R) true s.abs=openGood q loose:=Prod.ext (congrArg (fun x=>x.2.1) r2) (Prod.ext (congrArg (fun x=>x.2.2) r2) Z3)
  have r5:F (Kf as s.abs.heap.get?)=v w:=by
   rw [show s.abs.heap.get?=tg s.tree s.n from funext fun a=>Q5 _ _ _ a]
   exact Z4
  have t1:=tI r1
  have ea:(Yz (d0 w.params) os).abs=⟨boot_heap w.params,Array.mk [],boot_drawn,boot_toks,os⟩:=by
   show (⟨absHeap (d0 w.params) 11 {},_,_,_,_⟩:Shared)=_
   rw [boot_abs]; rfl
  rw [ea] at t1
  have t2:=topRun_mono (N - M) _ _ _ _ t1
  rw [show M+(N - M)=N by have:=Nat.le_of_ble_eq_true le; omega] at t2
  have z:=BS w.params
  have z1:=congrArg (fun x=>x.1) z
  have z2:=congrArg (fun x=>x.2.1) z
  have z3:=congrArg (fun x=>x.2.2) z
  refine ⟨s.abs,?_,r4,r5⟩
  unfold openEnds
  rw [e1]
  show topFrom treeTable p w N _=_
  unfold topFrom
  dsimp only at z1 z2 z3 ⊢
  rw [z1,z2,z3,t2]
  show (match staticsOk (importedModules p.main.body) (boot_heap w.params) s.abs.heap && namesBound p s.abs.heap && gensDone s.abs && laidKept (boot_heap w.params) s.abs.heap with | true=>_ | false=>_)=_
  have Z5:(staticsOk (importedModules p.main.body) (boot_heap w.params) s.abs.heap && namesBound p s.abs.heap && gensDone s.abs && laidKept (boot_heap w.params) s.abs.heap)=true:=r3
  rw [Z5]
 refine ⟨fun w=>?_,fun w=>?_⟩
 · obtain ⟨s,a,b,c⟩:=key w
   rw [a]
   have:uX p N w=s.heap.get?:=by funext x; unfold uX; rw [a]; rfl
   show some (openSeen q loose (importedModules p.main.body) (Ik q lv R) true s,as.map s.heap.get?)=some (openGood q loose,as.map (uX p N w))
   rw [b,this]
 · obtain ⟨s,a,b,c⟩:=key w
   have:uX p N w=s.heap.get?:=by funext x; unfold uX; rw [a]; rfl
   rw [this]
   exact c
theorem kf_in {as:List Addr} {g:Addr→Option Obj} {h:Heap} (e:as.map h.get?=as.map g):(Kf as g).In h:=by
 have key:∀ {as:List Addr},as.map h.get?=as.map g→∀ a o,(Kf as g).lookup a=some o→h.get? a=some o:=by
  intro as
  induction as with
  | nil=>intro _ a o z; cases z
  | cons x as ih =>
    intro e a o z
    rw [iZ,iZ] at e
    injection e with e1 e2
    unfold Kf at z
    rw [pb] at z
    cases hg:g x with
    | none=>rw [hg] at z; exact ih e2 a o z
    | some o' =>
      rw [hg] at z
      simp only [PB,GS] at z
      split at z
      · rename_i q
        have:a=x:=by simpa using q
        subst this
        cases z
        rw [e1,hg]
      · exact ih e2 a o z
 exact fun a o z=>key e a o z
theorem EA {q:Program} {loose:List Str} {XP:(Str→Option Value)→Heap→Prop} {as:List Addr} {g:World→Addr→Option Obj} {r:RowW} {d:DefRec} {kwd:List (Str×Expr)} {run:Value→List Value→Sem Value}
  (h:WalkO q loose XP (fun w h=>(Kf as (g w)).In h) r d kwd run):WalkX q loose XP (fun s=>as.map s.heap.get?) (fun w=>as.map (g w)) r d kwd run :=
 fun w s₀ s₁ mg mb G y a o pm cd doc dV kV h1 h2 h3 h4 h5 h6 args vals tF L BE Qu Yb Qs Yc=>h w s₀ s₁ mg mb G (fun b o' z=>Laid.keeps L _ _ (kf_in y b o' z)) a o pm cd doc dV kV h1 h2 h3 h4 h5 h6 args vals tF BE Qu Yb Qs Yc
noncomputable def Q6:Stmt→DefRec
 | .FunctionDef n ps b _ _ _ sc _ _ p=>⟨n,ps,b,sc,p⟩
 | _=>⟨Str.empty,default,[],default,default⟩
end HE
lay_quick HE.lookA HE.lookB HE.lookC
namespace VT
open PySem PySem.Spec PyProof.Rows L2
section
variable {X:Cx} {Z:Zc} {o e:Expr} {fo fe:FE} {apos a9:Pos}
def Il (fo fe:FE):FP:=fun ρ Q=>fo ρ fun x=>match x with
 | .str z=>fe ρ fun y=>match y with
   | .str y=>Q (.vw (.bl (Txt.startswith z y)))
   | _=>False
 | _=>False
theorem BU (ho:VR X Z o fo) (he:VR X Z e fe) (eX:attributeBase o "startswith" X.env (eval o X.env)=eval o X.env:=by rfl)
  (ny:((backTo a9 (starEach [e] X.env)).all (fun x=>!x.1) && (backToKw a9 (keywordEach [] X.env)).all (fun x=>x.1.isSome)
    && decide (([e]:List Expr).length+([]:List Keyword).length+(if ([]:List Keyword).isEmpty then 0 else 1) < 30))=true:=by rfl)
  (eY:(apos.endLine == a9.line)=true:=by rfl) (hs:starEach [e] X.env=(false,eval e X.env) :: starEach [] X.env:=by rfl) (d7:(backTo a9 (starEach [] X.env)).any (·.1)=false:=by rfl) :
  VP X Z (.Call (.Attribute o "startswith" apos) [e] [] a9) (Il fo fe):=.mk fun tm =>
 PE.weak (sZ PySem.F.plainAttrs_str PySem.F.slot_str_startswith PySem.F.type_str_startswith rX (ho tm) (ba (he tm) cb hs) eX ny eY hs d7) fun σ H Q ⟨ρ,O,q,I,hf,k⟩ =>
  ⟨ρ,O,_,I,hf,fun x hx v H1 s1 a1=>by
    split at hx
    · rename_i z
      have ev:=a1.str
      subst ev
      refine ⟨rfl,ρ,O,_,I.same s1,hx,fun y hy w H2 s2 a2=>?_⟩
      split at hy
      · have ew:=a2.str
        subst ew
        exact ⟨z,_,rfl,rfl,k _ hy _ H2 (s1.trans s2) ⟨(I.same s1).same s2,cH⟩⟩
      · exact hy.elim
    · exact hx.elim⟩
end
end VT
namespace VT
open PySem PySem.Spec PyProof.Rows
def Q7 {K:Type} [DecidableEq K] (l:List K) (v:K):List K:=if v∈l then l else l ++ [v]
def met {K:Type} [DecidableEq K] (val:Nat→K):Nat→List K
 | 0=>[]
 | i+1=>Q7 (met val i) (val i)
section
variable {K:Type} [DecidableEq K]
theorem AU (val:Nat→K):∀ i,(met val i).length≤i
 | 0=>cZ _
 | i+1=>by
   have:=AU val i
   simp only [met,Q7]
   split
   · omega
   · rw [pP,Lw]; omega
theorem Im {l:List K} {v k:K}:k∈Q7 l v↔k∈l∨k=v:=by
 unfold Q7
 split
 · rename_i h
   exact ⟨.inl,fun q=>q.elim id fun e=>e▸h⟩
 · rw [mY,vZ]
end
abbrev gn (led:Bool):Obj:={ cls:=.type "set",dict:=none,data:=.set #[] 0 (.fresh 0 0 led) }
theorem sub_list_set:isSubtype (.type "list") (.type "set")=pure false:=by rw [isSubtype_type]; kernel_rfl
theorem sub_list_frozenset:isSubtype (.type "list") (.type "frozenset")=pure false:=by rw [isSubtype_type]; kernel_rfl
theorem sub_tuple_set:isSubtype (.type "tuple") (.type "set")=pure false:=by rw [isSubtype_type]; kernel_rfl
theorem sub_tuple_frozenset:isSubtype (.type "tuple") (.type "frozenset")=pure false:=by rw [isSubtype_type]; kernel_rfl
section
variable {prog:Program} {w:World} {A:Around} {R:Result→Shared→Prop} {I:Addr} {fp wr:List Addr} {G:Array GenState→Array GenState→Prop} {n:Nat} {P:Nat→Value→Prop} {St:Nat→Shared→Prop}
variable {K:Type} [DecidableEq K] {knd:PySem.KeyKind prog w K}
theorem tJ (W:WalksS prog w A.in1 I fp wr G n P St) (S:Addr) (O9:S∉fp)
  (val:Nat→K) (Wy:∀ i v,P i v→knd.is (val i) v=true∧v.scannable=true) (hb:n+1 < scanBound) :
  ∀ (k i:Nat) (s:Shared),n - i=k→i≤n→St i s →
   s.heap.SetOf knd S (fun k'=>decide (k'∈met val i)) (met val i).length →
   (∀ s',Moved (S :: wr) G s s'→s'.heap.SetOf knd S (fun k'=>decide (k'∈met val n)) (met val n).length→R (.ok (.ret .none)) s') →
   codeAny (model prog w) A (.builtin "set.update.loop" ⟨[.ref S,.ref I],[]⟩) R s:=by
 have YA:S∉wr:=fun h=>O9 (W.sub _ h)
 have Et:∀ b∈wr,b∈S :: wr:=fun b hb=>i_ _ hb
 intro k
 induction k with
 | zero =>
   intro i s hk hi G_ hS hR
   have Wz:i=n:=by omega
   subst Wz
   refine codeAny_builtin PyProof.Rows.F.entry_set_update_loop ?_
   rw [Around.under_plainId Uz _]
   show wpAny _ A.in1 (pyNext (.ref I) >>= _) _ _ s
   refine wpAny_bind (W.done s _ _ G_ fun s' hm=>?_)
   show wpAny _ A.in1 (ret Value.none) _ _ s'
   exact wpAny_pure (hR s' (hm.mono Et) (by
    obtain ⟨o,es,ep,t,ho,rest⟩:=hS
    exact ⟨o,es,ep,t,hm.heap S _ YA ho,rest⟩))
 | succ k ih =>
   intro i s hk hi G_ hS hR
   have gF:i < n:=by omega
   refine codeAny_builtin PyProof.Rows.F.entry_set_update_loop ?_
   rw [Around.under_plainId Uz _]
   show wpAny _ A.in1 (pyNext (.ref I) >>= _) _ _ s
   refine wpAny_bind (W.item i s _ _ gF G_ fun v s' hP WA hm=>?_)
   obtain ⟨HU,M9⟩:=Wy i v hP
   have EB:s'.heap.SetOf knd S (fun k'=>decide (k'∈met val i)) (met val i).length:=by
    obtain ⟨o,es,ep,tb,ho,rest⟩:=hS
    exact ⟨o,es,ep,tb,hm.heap S _ YA ho,rest⟩
   show wpAny _ A.in1 (holding [v] (setAdd S v) >>= _) _ _ s'
   refine wpAny_bind (wpAny_holding ?_)
   unfold setAdd
   refine wpAny_holding ?_
   refine wpAny_bind (knd.pyHash (k:=val i) HU ?_)
   have Q8:(met val i).length+1 < scanBound:=by have:=AU val i; omega
   refine wpAny_setAddHashed_of (knd:=knd) (s:={ s' with toks:=s'.toks+1 }) HU M9 EB Q8 fun h' YB Z6=>?_
   have Z7:h'.SetOf knd S (fun k'=>decide (k'∈met val (i+1))) (met val (i+1)).length :=
    SetOf_congr Z6 (fun k'=>by
     simp only [met,Im,Bool.decide_or]) (by
     simp only [met,Q7,decide_eq_true_eq]
     split <;> simp)
   refine wpAny_pure ⟨plainId_quiet Uz _,ih (i+1) _ (by omega) gF (W.frame _ s' _ _ WA (LF _) fun b hb o e=>?_) Z7 fun Mh WB WC=>?_⟩
   · rw [YB.2 b (fun h:b=S=>O9 (by rw [← h]; exact hb))]; exact e
   · refine hR Mh (Moved.trans W.gtrans ((hm.mono Et).then_heap (LF _) fun b o hb e=>?_) WB) WC
     rw [YB.2 b (fun h:b=S=>hb (by rw [h]; exact gq))]; exact e
end
section
variable {prog:Program} {w:World} {A:Around} {E:Value→Shared→Prop} {s:Shared} {K:Type} [DecidableEq K] {knd:PySem.KeyKind prog w K}
theorem qv {l:Addr} {items:Array Value} {val:Nat→K} {Q:Value→Shared→Prop}
  (hh:A.handled=none) (hl:s.heap.IsList l items) (hi:∀ (i:Nat) (v:Value),items[i]?=some v→knd.is (val i) v=true∧v.scannable=true) (hb:items.size+1 < scanBound)
  (h:∀ (h':Heap) (tk:Nat),h'.SetOf knd s.heap.objs.size (fun k'=>decide (k'∈met val items.size)) (met val items.size).length →
    (∀ b o,b < s.heap.objs.size→s.heap.get? b=some o→h'.get? b=some o)→s.heap.objs.size < h'.objs.size→Q (.ref s.heap.objs.size) { s with heap:=h',toks:=tk }) :
  wpAny (model prog w) A (call (.type "set") [.ref l]) Q E s:=by
 obtain ⟨c,tl,WD⟩:=yd.mro
 have Q9:=yd.made
 have Et:=yd.sub
 refine wpAny_call (codeAny_of_tree ?_)
 show wpAny _ _ (callAny (.type "set") _) _ _ _
 refine wpAny_pure ⟨Ts _ (by decide +kernel),codeAny_builtin F.entry_type_call ?_⟩
 rw [Around.under_plain (weight_type_call_type "set" [.ref l] []) rfl]
 have h1:=yd.notType
 have h2:=yd.canCreate
 have Z8:=PySem.F.typeCall_set_1 (.ref l)
 repeat (any_goals (first | assumption | wp_step))
 refine codeAny_mono (code_set_new_1 (.ref l) (E:=E) (Q₁:=fun obj s₁=>∃ led:Bool,obj = .ref s.heap.objs.size∧s₁={ s with heap:=s.heap.push (gn led) }) fun led=>⟨led,rfl,rfl⟩) fun r s₁ hr=>?_
 cases r with
 | error e=>exact hr
 | ok fl =>
   cases fl with
   | ret obj =>
     obtain ⟨led,rfl,rfl⟩:=hr
     have hS:(s.heap.push (gn led)).get? s.heap.objs.size=some (gn led):=pd _ rfl
     have hT:Shared.TypeIs { s with heap:=s.heap.push (gn led) } (.ref s.heap.objs.size) "set":=⟨_,hS,rfl⟩
     have Z9:=yd.init.lookup
     have Vz:=yd.init.bind (.ref s.heap.objs.size)
     repeat (any_goals (first | assumption | wp_step))
     refine codeAny_mono (codeAny_call_builtin (R:=wants (fun r s₂=>r = .none∧∃ h' tk,s₂={ s with heap:=h',toks:=tk } ∧
       h'.SetOf knd s.heap.objs.size (fun k'=>decide (k'∈met val items.size)) (met val items.size).length ∧
       (∀ b o,b < s.heap.objs.size→s.heap.get? b=some o→h'.get? b=some o)) E) yd.init.plain PySem.F.entry_set_init (check_set_init_1 hT ?_)) fun r₂ s₂ Ni=>?_
     · obtain ⟨ol,HZ,AG,nl,H_⟩:=hl
       obtain ⟨WE,EC,Q_,yU⟩:=ol
       simp only at AG H_
       subst AG; subst H_
       have Nj:(s.heap.push (gn led)).get? l=some { cls:=.type "list",dict:=EC,data:=.seq items nl,slots:=yU }:=dH _ HZ
       have WG:=sub_list_set
       have WH:=sub_list_frozenset
       have k_:(Value.type "list" == Value.type "dict")=false:=by decide
       have GI:(s.heap.push (gn led)).IsList l items:=⟨_,Nj,rfl,nl,rfl⟩
       unfold Builtin.«set.__init__» noKeywords Builtin.Frozenset.updateFrom
       generalize WI:pyIter=PI
       wp_walk
       subst WI
       refine wpAny_pyIter_list GI ?_
       refine wpAny_bind (wpAny_runValue ?_)
       have Ra:l < s.heap.objs.size:=dZ HZ
       have WJ:A.in1.in1.in1.handled=none:=by simp [hh]
       have Nk:l≠(s.heap.push (gn led)).objs.size:=by
        rw [yg]; exact iu (Ki Ra)
       have O9:s.heap.objs.size∉[(s.heap.push (gn led)).objs.size,l]:=by
        rw [yg]; simp only [fg,vZ,ko,or_false,not_or]
        exact ⟨iu (GR _),C8 Ra⟩
       refine tJ ((Walks.list WJ _ l Nk items).toS) s.heap.objs.size
        O9 val hi hb (items.size - 0) 0 _ (by omega) (ph _)
        ⟨⟨_,pd _ rfl,rfl,rfl⟩,(GI.push _)⟩ ?hS0 ?hR
       case hS0 =>
        have Nl:((s.heap.push (gn led)).push { cls:=.type "list_iterator",data:=.fields #[.ref l,.int 0 0] }).get? s.heap.objs.size
          = some (gn led):=dH _ hS
        exact SetOf_congr ((setObjOf_fresh (knd:=knd) led).setOf Nl (by unfold scanBound; omega)) (fun _=>by simp [met]) rfl
       case hR =>
        intro s' hm EB
        obtain ⟨h',g',d',ED,Qa⟩:=s'
        have eg:g'=s.gens:=hm.gens
        have ed:d'=s.drawn:=hm.drawn
        have eo:Qa=s.os:=hm.os
        subst eg; subst ed; subst eo
        show wpAny _ _ _ _ _ _
        refine wpAny_pure ?_
        show wpAny _ _ (ret Value.none) _ _ _
        refine wpAny_pure ⟨rfl,h',ED,rfl,EB,fun b o hb e=>?_⟩
        have Dg:b≠s.heap.objs.size:=iu hb
        have Dh:b≠(s.heap.push (gn led)).objs.size:=by
         rw [yg]; exact iu (Ki hb)
        exact hm.heap b o (by simp only [fg,vZ,ko,or_false,not_or]; exact ⟨Dg,Dh⟩) (dH _ (dH _ e))
     · cases r₂ with
       | error e=>exact Ni
       | ok WK =>
         cases WK with
         | ret r =>
           obtain ⟨rfl,h',tk,rfl,EB,Io⟩:=Ni
           repeat (any_goals (first | assumption | wp_step))
           refine h _ _ EB Io ?_
           obtain ⟨o,_,_,_,ho,_⟩:=EB
           exact dZ ho
         | _=>exact Ni.elim
   | _=>exact hr.elim
theorem oY {l:Addr} {items:Array Value} {val:Nat→K} {Q:Value→Shared→Prop}
  (hh:A.handled=none) (hl:s.heap.IsTuple l items) (hi:∀ (i:Nat) (v:Value),items[i]?=some v→knd.is (val i) v=true∧v.scannable=true) (hb:items.size+1 < scanBound)
  (h:∀ (h':Heap) (tk:Nat),h'.SetOf knd s.heap.objs.size (fun k'=>decide (k'∈met val items.size)) (met val items.size).length →
    (∀ b o,b < s.heap.objs.size→s.heap.get? b=some o→h'.get? b=some o)→s.heap.objs.size < h'.objs.size→Q (.ref s.heap.objs.size) { s with heap:=h',toks:=tk }) :
  wpAny (model prog w) A (call (.type "set") [.ref l]) Q E s:=by
 obtain ⟨c,tl,WD⟩:=yd.mro
 have Q9:=yd.made
 have Et:=yd.sub
 refine wpAny_call (codeAny_of_tree ?_)
 show wpAny _ _ (callAny (.type "set") _) _ _ _
 refine wpAny_pure ⟨Ts _ (by decide +kernel),codeAny_builtin F.entry_type_call ?_⟩
 rw [Around.under_plain (weight_type_call_type "set" [.ref l] []) rfl]
 have h1:=yd.notType
 have h2:=yd.canCreate
 have Z8:=PySem.F.typeCall_set_1 (.ref l)
 repeat (any_goals (first | assumption | wp_step))
 refine codeAny_mono (code_set_new_1 (.ref l) (E:=E) (Q₁:=fun obj s₁=>∃ led:Bool,obj = .ref s.heap.objs.size∧s₁={ s with heap:=s.heap.push (gn led) }) fun led=>⟨led,rfl,rfl⟩) fun r s₁ hr=>?_
 cases r with
 | error e=>exact hr
 | ok fl =>
   cases fl with
   | ret obj =>
     obtain ⟨led,rfl,rfl⟩:=hr
     have hS:(s.heap.push (gn led)).get? s.heap.objs.size=some (gn led):=pd _ rfl
     have hT:Shared.TypeIs { s with heap:=s.heap.push (gn led) } (.ref s.heap.objs.size) "set":=⟨_,hS,rfl⟩
     have Z9:=yd.init.lookup
     have Vz:=yd.init.bind (.ref s.heap.objs.size)
     repeat (any_goals (first | assumption | wp_step))
     refine codeAny_mono (codeAny_call_builtin (R:=wants (fun r s₂=>r = .none∧∃ h' tk,s₂={ s with heap:=h',toks:=tk } ∧
       h'.SetOf knd s.heap.objs.size (fun k'=>decide (k'∈met val items.size)) (met val items.size).length ∧
       (∀ b o,b < s.heap.objs.size→s.heap.get? b=some o→h'.get? b=some o)) E) yd.init.plain PySem.F.entry_set_init (check_set_init_1 hT ?_)) fun r₂ s₂ Ni=>?_
     · obtain ⟨ol,HZ,AG,nl,H_⟩:=hl
       obtain ⟨WE,EC,Q_,yU⟩:=ol
       simp only at AG H_
       subst AG; subst H_
       have Nj:(s.heap.push (gn led)).get? l=some { cls:=.type "tuple",dict:=EC,data:=.seq items nl,slots:=yU }:=dH _ HZ
       have WG:=sub_tuple_set
       have WH:=sub_tuple_frozenset
       have k_:(Value.type "tuple" == Value.type "dict")=false:=by decide
       have GI:(s.heap.push (gn led)).IsTuple l items:=⟨_,Nj,rfl,nl,rfl⟩
       unfold Builtin.«set.__init__» noKeywords Builtin.Frozenset.updateFrom
       generalize WI:pyIter=PI
       wp_walk
       subst WI
       refine wpAny_pyIter_tuple GI ?_
       refine wpAny_bind (wpAny_runValue ?_)
       have Ra:l < s.heap.objs.size:=dZ HZ
       have WJ:A.in1.in1.in1.handled=none:=by simp [hh]
       have Nk:l≠(s.heap.push (gn led)).objs.size:=by
        rw [yg]; exact iu (Ki Ra)
       have O9:s.heap.objs.size∉[(s.heap.push (gn led)).objs.size,l]:=by
        rw [yg]; simp only [fg,vZ,ko,or_false,not_or]
        exact ⟨iu (GR _),C8 Ra⟩
       refine tJ ((Walks.tuple WJ _ l Nk items).toS) s.heap.objs.size
        O9 val hi hb (items.size - 0) 0 _ (by omega) (ph _)
        ⟨⟨_,pd _ rfl,rfl,rfl⟩,(GI.push _)⟩ ?hS0 ?hR
       case hS0 =>
        have Nl:((s.heap.push (gn led)).push { cls:=.type "tuple_iterator",data:=.fields #[.ref l,.int 0 0] }).get? s.heap.objs.size
          = some (gn led):=dH _ hS
        exact SetOf_congr ((setObjOf_fresh (knd:=knd) led).setOf Nl (by unfold scanBound; omega)) (fun _=>by simp [met]) rfl
       case hR =>
        intro s' hm EB
        obtain ⟨h',g',d',ED,Qa⟩:=s'
        have eg:g'=s.gens:=hm.gens
        have ed:d'=s.drawn:=hm.drawn
        have eo:Qa=s.os:=hm.os
        subst eg; subst ed; subst eo
        show wpAny _ _ _ _ _ _
        refine wpAny_pure ?_
        show wpAny _ _ (ret Value.none) _ _ _
        refine wpAny_pure ⟨rfl,h',ED,rfl,EB,fun b o hb e=>?_⟩
        have Dg:b≠s.heap.objs.size:=iu hb
        have Dh:b≠(s.heap.push (gn led)).objs.size:=by
         rw [yg]; exact iu (Ki hb)
        exact hm.heap b o (by simp only [fg,vZ,ko,or_false,not_or]; exact ⟨Dg,Dh⟩) (dH _ (dH _ e))
     · cases r₂ with
       | error e=>exact Ni
       | ok WK =>
         cases WK with
         | ret r =>
           obtain ⟨rfl,h',tk,rfl,EB,Io⟩:=Ni
           repeat (any_goals (first | assumption | wp_step))
           refine h _ _ EB Io ?_
           obtain ⟨o,_,_,_,ho,_⟩:=EB
           exact dZ ho
         | _=>exact Ni.elim
   | _=>exact hr.elim
end
end VT
namespace VT
open PySem PySem.Spec PyProof.Rows L2
def Nm (P:Program) (w:World) (a:Addr) (f:Str→Bool) (n:Nat):HO:=.ext fun h=>h.SetOf (PySem.strKind P w) a f n
def once (ys:List Str):List Str:=met (fun i=>ys.getD i Str.empty) ys.length
section
variable {X:Cx}
theorem tK {ys:List Str} {aP:List Value} (r:Vals (ys.map V.str) aP) (i:Nat) (v:Value) (h:aP.toArray[i]?=some v):(PySem.strKind X.prog X.w).is (ys.getD i Str.empty) v=true∧v.scannable=true:=by
 have h':aP[i]?=some v:=by simpa using h
 have hl:=r.length
 rw [cV] at hl
 have hi:i < ys.length:=by have:=(e_.mp h').1; omega
 obtain ⟨u,hu,ru⟩:=r.get (show (ys.map V.str)[i]?=some (.str ys[i]) by rw [lj,sR hi]; rfl)
 rw [h'] at hu
 cases hu
 obtain ⟨t,rfl⟩:=ru
 refine ⟨?_,rfl⟩
 rw [List.getD_eq_getElem?_getD,sR hi]
 show Value.isStrOf ys[i] (.str ys[i] t)=true
 simp [Value.isStrOf]
theorem sy (hc:X.calm=true):dC X (.type "set") (fun xs H Q=>∃ (p:Addr) (ys:List Str),xs=[.ref p]∧(gm X.K H p (ys.map V.str)∨dY X.K H p (ys.map V.str))∧ys.length < 4000 ∧
  ∀ a,H a=none→Q (.ref a) (upd H a (Nm X.prog X.w a (fun k=>decide (k∈once ys)) (once ys).length))):=by
 intro pins s σ H xs us Q I r h
 obtain ⟨p,ys,rfl,hq,hl,q⟩:=h
 obtain ⟨u,rfl,ru⟩:=vals1 r
 cases ru
 have fin:∀ (n:Nat),n=ys.length→∀ (h':Heap) (tk:Nat),h'.SetOf (PySem.strKind X.prog X.w) s.heap.objs.size (fun k'=>decide (k'∈met (fun i=>ys.getD i Str.empty) n)) (met (fun i=>ys.getD i Str.empty) n).length →
   (∀ b o,b < s.heap.objs.size→s.heap.get? b=some o→h'.get? b=some o)→EP X pins σ Q (.ref s.heap.objs.size) { s with heap:=h',toks:=tk }:=fun n hn h' tk hS hk=>by
  subst hn
  refine ⟨.ref s.heap.objs.size,_,I.laid (a:=s.heap.objs.size) (t':=tk) (fun b o e=>hk b o (dZ e) e) (cZ _) ?_,rfl,q _ I.fresh⟩
  refine ⟨hS,?_,fun h1 h2 z k=>?_⟩
  · obtain ⟨o,_,_,_,ho,_⟩:=hS
    exact ⟨o,ho⟩
  · obtain ⟨o,es,ep,t,ho,rest⟩:=z
    exact ⟨o,es,ep,t,k o ho,rest⟩
 rcases hq with hq | hq
 · obtain ⟨aP,rv,pl,hz⟩:=I.list hq
   have e:=rv.length
   rw [cV] at e
   exact qv (knd:=PySem.strKind X.prog X.w) (val:=fun i=>ys.getD i Str.empty) (I.ok.hd hc) pl.isList (tK rv) (by unfold scanBound; simp; omega) fun h' tk hS hk _=>fin _ (by simp [e]) h' tk hS hk
 · obtain ⟨aP,rv,pl,hz⟩:=I.tuple hq
   have e:=rv.length
   rw [cV] at e
   exact oY (knd:=PySem.strKind X.prog X.w) (val:=fun i=>ys.getD i Str.empty) (I.ok.hd hc) (show s.heap.IsTuple p aP.toArray from pl) (tK rv) (by unfold scanBound; simp; omega) fun h' tk hS hk _=>fin _ (by simp [e]) h' tk hS hk
theorem sA:dC X (.builtin "len") (fun xs H Q=>∃ a f n,xs=[.ref a]∧H a=some (Nm X.prog X.w a f n)∧Q (.int (n:Int)) H):=by
 intro pins s σ H xs us Q I r h
 obtain ⟨a,f,n,rfl,ha,q⟩:=h
 obtain ⟨u,rfl,ru⟩:=vals1 r
 cases ru
 obtain ⟨⟨o,es,ep,t,ho,hex,hd,_,_,hb,hf,hn⟩,_⟩:=(show bQ X.prog X.w H s.heap a (Nm X.prog X.w a f n) from I.bB a _ ha)
 refine PySem.call_len_set ho hex hd hf (by unfold scanBound at hb; omega) ?_
 rw [hn]
 exact ⟨.int n,H,I.tok _,⟨_,rfl⟩,q⟩
theorem boot_set:bootBuiltins "set" = some (.type "set"):=by decide +kernel
end
section
variable {X:Cx} {Z:Zc} {a:Expr} {fa:FE} {p1 p2 Ip BV:Pos}
def Iq (fa:FE):FP:=fun ρ Q=>fa ρ fun x=>∃ ys:List Str,(x = .lst (ys.map .str)∨x = .tup (ys.map .str))∧ys.length < 4000∧Q (.vw (.int ((once ys).length:Int)))
theorem uY {K:PySem.W.Frag} {H:Hp} {A:List Addr}:∀ {ys:List Str} {vs:List V},aI K H A (ys.map T.str) vs→vs=ys.map V.str
 | [],vs,h=>by simpa only [GZ,aI] using h
 | y :: ys,vs,h=>by
   simp only [iZ,aI] at h
   obtain ⟨v,r,rfl,h1,h2⟩:=h
   simp only [At] at h1
   rw [h1,uY h2]
   rfl
theorem tO (hc:X.calm=true) (Z_:Gl X "len") (hml:X.mg "len" = none) (hgs:Gl X "set") (YC:X.mg "set" = none) (ha:VR X Z a fa)
  (he:starEach [.Call (.Name "set" p2) [a] [] BV] X.env=(false,eval (.Call (.Name "set" p2) [a] [] BV) X.env) :: starEach [] X.env:=by rfl) (gj:(backTo Ip (starEach [] X.env)).any (·.1)=false:=by rfl)
  (YD:starEach [a] X.env=(false,eval a X.env) :: starEach [] X.env:=by rfl) (WL:(backTo BV (starEach [] X.env)).any (·.1)=false:=by rfl) :
  VP X Z (.Call (.Name "len" p1) [.Call (.Name "set" p2) [a] [] BV] [] Ip) (Iq fa):=.mk fun tm =>
 PE.weak (lJ sA Z_ hml gC (ba (sY (sy hc) hgs YC boot_set (ba (ha tm) cb YD) (by decide) (by decide) YD WL) cb he) (by decide) (by decide) he gj) fun σ H Q ⟨ρ,O,q,I,hf,k⟩ =>
  ⟨ρ,O,_,I,hf,fun x hx v H1 s1 a1=>by
    obtain ⟨ys,hy,hl,hq⟩:=hx
    have src:∃ p,v = .ref p∧(gm X.K H1 p (ys.map V.str)∨dY X.K H1 p (ys.map V.str)):=by
     rcases hy with rfl | rfl
     · obtain ⟨p,vs,rfl,h1,h2⟩:=a1.lst
       rw [uY h2] at h1
       exact ⟨p,rfl,.inl h1⟩
     · obtain ⟨p,vs,rfl,h1,h2⟩:=a1.tup
       rw [uY h2] at h1
       exact ⟨p,rfl,.inr h1⟩
    obtain ⟨p,rfl,hs⟩:=src
    exact ⟨p,ys,rfl,hs,hl,fun b hb=>⟨b,_,_,rfl,aQ,k _ hq _ _ (s1.trans (aS hb)) ⟨(I.same s1).same (aS hb),bx⟩⟩⟩⟩
end
end VT
namespace L2
open PySem PySem.Spec PyProof.Rows
section
variable (P:Program) (w:World)
end
section
variable {P:Program} {w:World} {H H':Hp} {h h':Heap} {a:Addr} {o:HO}
end
section
variable {P:Program} {w:World} {H:Hp} {h h':Heap} {x e:Addr} {o':HO}
end
section
variable {fs PH ex PJ:List Addr} {H H1 H2:Hp} {h h1 h2 h':Heap} {a x e:Addr} {o:HO}
end
section
variable {X:Cx} {pins:List (Addr×Obj)} {σ:List (Option V)} {H H':Hp} {s:Shared} {h':Heap}
end
section
variable {X:Cx}
variable {a b:Expr} {ta tb:TE} {pos:Pos}
variable {tA PM:TT} {rest:List Expr}
end
section
variable {X:Cx} {pins:List (Addr×Obj)} {σ:St} {H:Hp} {s:Shared} {a:Addr} {xs ys:List V}
end
section
variable {X:Cx} {pins:List (Addr×Obj)} {σ:St} {H:Hp} {s:Shared} {E:Value→Shared→Prop}
end
section
variable {X:Cx} {st:Stmt} {rest:List Stmt} {t u:TS} {e:Expr} {te:TE} {pos:Pos}
end
section
variable {X:Cx} {pos:Pos}
end
section
variable {X:Cx} {pos:Pos}
end
section
variable {X:Cx} {tg:Expr}
end
section
variable {X:Cx} {a b c:Expr} {ta tb tc:TE} {pos:Pos}
end
section
variable {X:Cx} {a b c:Expr} {ta tb tc:TE} {pos:Pos}
end
section
variable {prog:Program} {w:World} {A:Around} {E:Value→Shared→Prop} {s:Shared} {K:PySem.W.Frag} {x dx C f:Addr} {mA:Str→Option Value} {name:Str} {v:Value}
end
section
variable {P:Program} {w:World} {H H':Hp} {h h':Heap} {a C dx:Addr} {fs PH:List (Str×V)}
end
section
variable {X:Cx} {pins:List (Addr×Obj)} {σ:St} {H:Hp} {s:Shared} {a C dx:Addr} {fs:List (Str×V)} {f:Str} {v:V} {A:Around} {E:Value→Shared→Prop}
end
section
variable {X:Cx} {o e value:Expr} {f:Str} {pos pos' rT:Pos} {ta tv:TE}
end
section
variable {X:Cx} {pins:List (Addr×Obj)} {σ:St} {H:Hp} {s:Shared} {A:Around} {E:Value→Shared→Prop} {Q:Value→Shared→Prop} {c:Value} {b:Bool}
end
section
variable {X:Cx} {e:Expr} {es:List Expr} {te:TE} {t:TA} {pos:Pos}
end
section
variable {X:Cx} {pins:List (Addr×Obj)} {σ:St} {H:Hp} {s s':Shared}
end
section
variable {X:Cx} {CX:yt} {k:Nat} {f C:Addr} {fd:FuncData} {ps:List Str} {sp:Sp} {Hg:List V} {ds:List Value} {E:XK} {x m:Str} {p pos apos:Pos} {e o:Expr} {es:List Expr} {ta:TE} {t:TA}
end
section
variable {X:Cx} {CX:yt} {k:Nat} {f C:Addr} {fd:FuncData} {ps ks:List Str} {sp:Sp} {E:XK} {x m:Str} {p pos apos Vd:Pos} {e o:Expr} {es:List Expr} {Y':List Keyword} {te ta:TE} {t tk:TA} {nm:Option Str}
variable {g:List Value→List Value→List Value} {gV:List V→List V→List V}
end
section
variable {X:Cx} {x:Str} {p pos:Pos} {e:Expr} {es:List Expr} {t:TA} {id T:String} {r:List V→Hp→VK→Prop}
end
section
variable {κ:Type} [DecidableEq κ]
def jc (aV:List (κ×V)) (k:κ):Option V:=(aV.find? fun kv=>decide (kv.1=k)).map (·.2)
def putK (aV:List (κ×V)) (k:κ) (v:V):List (κ×V) :=
 if (aV.any fun kv=>decide (kv.1=k))=true then aV.map (fun kv=>if kv.1=k then (kv.1,v) else kv) else aV ++ [(k,v)]
def K0 (aV:List (κ×V)) (k:κ):List (κ×V):=aV.filter fun kv=>decide (kv.1≠k)
theorem ma {p:κ×V} {r:List (κ×V)} {k:κ} (e:p.1=k):jc (p :: r) k=some p.2:=by simp [jc,OT,e]
theorem md {p:κ×V} {r:List (κ×V)} {k:κ} (e:¬ p.1=k):jc (p :: r) k=jc r k:=by simp [jc,OT,e]
theorem qw (k:κ):∀ aV:List (κ×V),(aV.any fun kv=>decide (kv.1=k))=(jc aV k).isSome
 | []=>rfl
 | p :: r=>by
   rw [OX]
   by_cases e:p.1=k
   · simp only [ma e,decide_eq_true e,Bool.true_or,Option.isSome_some]
   · rw [md e,decide_eq_false e,Bool.false_or]; exact qw k r
theorem oB (aV:List (κ×V)) (k:κ) (v:V):(putK aV k v).length≤aV.length+1:=by
 unfold putK
 split
 · rw [cV]; omega
 · rw [pP,GU,PC]; omega
theorem EE {aV:List (κ×V)} {k:κ} (v:V) (h:jc aV k=none):putK aV k v=aV ++ [(k,v)]:=by
 unfold putK
 rw [qw,h]
 exact if_neg (by decide)
theorem kC.BW {o:Option V} {u:Option Value} (r:kC o u):o.isSome=u.isSome:=by
 cases o with
 | none=>cases u with
   | none=>rfl
   | some _=>exact (show False from r).elim
 | some _=>cases u with
   | none=>exact (show False from r).elim
   | some _=>rfl
theorem kC.getD {o:Option V} {u:Option Value} {d:V} {d':Value} (r:kC o u) (rd:RelV d d'):RelV (o.getD d) (u.getD d'):=by
 cases o with
 | none=>cases u with
   | none=>exact rd
   | some _=>exact (show False from r).elim
 | some _=>cases u with
   | none=>exact (show False from r).elim
   | some _=>exact r
theorem KV.val {aV:List (κ×V)} {vs:List (κ×Value)} (r:KV aV vs) (k:κ):kC (jc aV k) (valueAt vs k):=by
 unfold KV at r
 induction r with
 | nil=>exact True.intro
 | @cons p q ps qs h t ih =>
   obtain ⟨h1,h2⟩:=h
   by_cases e:p.1=k
   · have e':q.1=k:=h1.symm.trans e
     have b:valueAt (q :: qs) k=some q.2:=by simp [valueAt,OT,e']
     rw [ma e,b]; exact h2
   · have e':¬ q.1=k:=fun z=>e (h1.trans z)
     have b:valueAt (q :: qs) k=valueAt qs k:=by simp [valueAt,OT,e']
     rw [md e,b]; exact ih
theorem KV.any {aV:List (κ×V)} {vs:List (κ×Value)} (r:KV aV vs) (k:κ):(aV.any fun kv=>decide (kv.1=k))=vs.any fun kv=>decide (kv.1=k):=by
 unfold KV at r
 induction r with
 | nil=>rfl
 | cons h t ih=>rw [OX,OX,ih,h.1]
theorem KV.Nn {aV:List (κ×V)} {vs:List (κ×Value)} (r:KV aV vs) (k:κ) {y:V} {u:Value} (ry:RelV y u) :
  KV (aV.map fun kv=>if kv.1=k then (kv.1,y) else kv) (vs.map fun kv=>if kv.1=k then (kv.1,u) else kv):=by
 unfold KV at r ⊢
 induction r with
 | nil=>exact .nil
 | @cons p q ps qs h t ih =>
   rw [iZ,iZ]
   refine .cons ?_ ih
   obtain ⟨h1,h2⟩:=h
   by_cases e:p.1=k
   · rw [if_pos e,if_pos (h1.symm.trans e)]; exact ⟨h1,ry⟩
   · rw [if_neg e,if_neg (fun z=>e (h1.trans z))]; exact ⟨h1,h2⟩
theorem KV.put {aV:List (κ×V)} {vs:List (κ×Value)} (r:KV aV vs) (k:κ) {y:V} {u:Value} (ry:RelV y u):KV (putK aV k y) (stored vs k u):=by
 unfold putK stored
 rw [r.any k]
 by_cases e:(vs.any fun kv=>decide (kv.1=k))=true
 · rw [if_pos e,if_pos e]; exact r.Nn k ry
 · rw [if_neg e,if_neg e]; exact Paired.snoc r ⟨rfl,ry⟩
theorem KV.drop {aV:List (κ×V)} {vs:List (κ×Value)} (r:KV aV vs) (k:κ):KV (K0 aV k) (without vs k):=by
 unfold KV at r ⊢
 unfold K0 without
 induction r with
 | nil=>exact .nil
 | @cons p q ps qs h t ih =>
   obtain ⟨h1,h2⟩:=h
   rw [List.filter_cons,List.filter_cons]
   by_cases e:p.1=k
   · have a:¬ decide (p.1≠k)=true:=by simp [e]
     have b:¬ decide (q.1≠k)=true:=by simp [h1.symm.trans e]
     rw [if_neg a,if_neg b]; exact ih
   · have e':¬ q.1=k:=fun z=>e (h1.trans z)
     have a:decide (p.1≠k)=true:=by simp [e]
     have b:decide (q.1≠k)=true:=by simp [e']
     rw [if_pos a,if_pos b]; exact .cons ⟨h1,h2⟩ ih
theorem KV.keys {aV:List (κ×V)} {vs:List (κ×Value)} (r:KV aV vs):aV.map (·.1)=vs.map (·.1):=by
 unfold KV at r
 induction r with
 | nil=>rfl
 | cons h t ih=>rw [iZ,iZ,ih,h.1]
theorem KV.length {aV:List (κ×V)} {vs:List (κ×Value)} (r:KV aV vs):aV.length=vs.length:=OW r
end
theorem tQ {P:Program} {w:World} {k:Key} {u:Value} (r:RelV (kV k) u):(bq P w).is k u=true:=by
 cases k with
 | inl i=>obtain ⟨t,e⟩:=(show ∃ t,u=Value.int i t from r); subst e; exact v3 P w i t
 | inr x=>obtain ⟨t,e⟩:=(show ∃ t,u=Value.str x t from r); subst e; exact v5 P w x t
theorem tS {P:Program} {w:World}:∀ {ks:List Key} {us:List Value},Vals (ks.map kV) us→ItemsAre (bq P w) ks us
 | [],_,r=>by rw [GZ] at r; cases r; exact .nil
 | k :: ks,_,r=>by
   rw [iZ] at r
   cases r with
   | cons h t=>exact .cons (tQ h) (tS t)
abbrev KT (H:Hp):List (List Key×V)→List (List Key×Addr×Value)→Prop:=Paired fun p q=>p.1=q.1∧H q.2.1=some (.tup (p.1.map kV))∧RelV p.2 q.2.2
theorem KT.val {H:Hp} {aV:List (List Key×V)} {xs:List (List Key×Addr×Value)} (r:KT H aV xs) (k:List Key):kC (jc aV k) ((atKey xs k).map (·.2)):=by
 induction r with
 | nil=>exact True.intro
 | @cons p q ps qs h t ih =>
   obtain ⟨h1,_,h2⟩:=h
   by_cases e:p.1=k
   · have e':q.1=k:=h1.symm.trans e
     have b:atKey (q :: qs) k=some q.2:=by simp [atKey,OT,e']
     rw [ma e,b]; exact h2
   · have e':¬ q.1=k:=fun z=>e (h1.trans z)
     have b:atKey (q :: qs) k=atKey qs k:=by simp [atKey,OT,e']
     rw [md e,b]; exact ih
theorem KT.Nn {H:Hp} {aV:List (List Key×V)} {xs:List (List Key×Addr×Value)} (r:KT H aV xs) (k:List Key) {y:V} {u:Value} (ry:RelV y u) :
  KT H (aV.map fun kv=>if kv.1=k then (kv.1,y) else kv) (xs.map (putAt k u)):=by
 induction r with
 | nil=>exact .nil
 | @cons p q ps qs h t ih =>
   rw [iZ,iZ]
   refine .cons ?_ ih
   obtain ⟨h1,h2,h3⟩:=h
   unfold putAt
   by_cases e:p.1=k
   · rw [if_pos e,if_pos (h1.symm.trans e)]; exact ⟨h1,h2,ry⟩
   · rw [if_neg e,if_neg (fun z=>e (h1.trans z))]; exact ⟨h1,h2,h3⟩
theorem KT.put {H:Hp} {aV:List (List Key×V)} {xs:List (List Key×Addr×Value)} (r:KT H aV xs) (k:List Key) {b:Addr} {y:V} {u:Value} (hb:H b=some (.tup (k.map kV))) (ry:RelV y u) :
  KT H (putK aV k y) (storedH xs k b u):=by
 have e:(aV.any fun kv=>decide (kv.1=k))=(atKey xs k).isSome:=by
  rw [qw,(r.val k).BW,Option.isSome_map]
 unfold putK storedH
 rw [e]
 by_cases q:(atKey xs k).isSome=true
 · rw [if_pos q,if_pos q]; exact r.Nn k ry
 · rw [if_neg q,if_neg q]; exact Paired.snoc r ⟨rfl,hb,ry⟩
theorem KT.keeps {H H':Hp} {aV:List (List Key×V)} {xs:List (List Key×Addr×Value)} (r:KT H aV xs) (ht:∀ b ys,H b=some (.tup ys)→H' b=some (.tup ys)):KT H' aV xs :=
 Paired.mZ r fun _ _ z=>⟨z.1,ht _ _ z.2.1,z.2.2⟩
section
variable {P:Program} {w:World} {H:Hp} {h:Heap} {a:Addr}
theorem K1 {u:HO} (ok:ki P w H h) (e:Rd H a u):bQ P w H h a u:=e.ok ok
theorem wR {aV:List (Key×V)} (ok:ki P w H h) (e:Rd H a (.dK aV)):aV.length≤sizeLine∧(a == sysModules)=false∧∃ vs,KV aV vs∧h.DictOf (bq P w) a vs :=
 show bQ P w H h a (.dK aV) from K1 ok e
theorem AV {aV:List (Key×V)} (ok:ki P w H h) (e:H a=some (.dK aV)):aV.length≤sizeLine∧(a == sysModules)=false∧∃ vs,KV aV vs∧h.DictOf (bq P w) a vs:=wR ok (.inl e)
theorem yV {ks:List Key} (ok:ki P w H h) (e:H a=some (.tup (ks.map kV))):(tupleKind (bq P w)).is h ks a:=by
 obtain ⟨_,aP,r,o,h1,h2,n,h3⟩:=(show bQ P w H h a (.tup (ks.map kV)) from ok a _ e)
 exact ⟨o,aP.toArray,n,h1,h2,h3,by simpa using tS r⟩
theorem AW {aV:List (List Key×V)} (ok:ki P w H h) (e:Rd H a (.dT aV)):aV.length≤sizeLine∧(a == sysModules)=false ∧
  ∃ xs,KT H aV xs∧h.DictOfH (tupleKind (bq P w)) a xs:=by
 obtain ⟨z,y,xs,r,o,es,ep,h1,h2,h3,h4,h5⟩:=(show bQ P w H h a (.dT aV) from K1 ok e)
 refine ⟨z,y,xs,r,o,es,ep,h1,h2,h3,h4,fun x hx=>?_,h5⟩
 have all:∀ {l:List (List Key×V)} {m:List (List Key×Addr×Value)},KT H l m→∀ x∈m,(tupleKind (bq P w)).is h x.1 x.2.1:=by
  intro l m q
  induction q with
  | nil=>intro x hx; exact nomatch hx
  | @cons p q ps qs hq t ih =>
    intro x hx
    rcases fg.mp hx with e | hx
    · subst e
      exact yV ok (by rw [← hq.1]; exact hq.2.1)
    · exact ih x hx
 exact all r x hx
end
def qx (H:Hp) (a:Addr) (y:V) (r:Option V):Prop :=
 (∃ aV k,Rd H a (.dK aV)∧y=kV k∧r=jc aV k)∨∃ aV k b,Rd H a (.dT aV)∧y = .ref b∧H b=some (.tup (k.map kV))∧r=jc aV k
def Ir (H:Hp) (a:Addr) (y v:V) (H':Hp):Prop :=
 (∃ aV k,H a=some (.dK aV)∧y=kV k∧aV.length < sizeLine∧H'=upd H a (.dK (putK aV k v))) ∨
 ∃ aV k b,H a=some (.dT aV)∧y = .ref b∧H b=some (.tup (k.map kV))∧aV.length < sizeLine∧H'=upd H a (.dT (putK aV k v))
theorem qx.k {H:Hp} {a:Addr} {aV:List (Key×V)} {k:Key} (e:H a=some (.dK aV)):qx H a (kV k) (jc aV k):=.inl ⟨aV,k,.inl e,rfl,rfl⟩
theorem qx.t {H:Hp} {a b:Addr} {aV:List (List Key×V)} {k:List Key} (e:H a=some (.dT aV)) (eb:H b=some (.tup (k.map kV))):qx H a (.ref b) (jc aV k):=.inr ⟨aV,k,b,.inl e,rfl,eb,rfl⟩
theorem Ir.k {H:Hp} {a:Addr} {aV:List (Key×V)} {k:Key} {v:V} (e:H a=some (.dK aV)) (hl:aV.length < sizeLine):Ir H a (kV k) v (upd H a (.dK (putK aV k v))):=.inl ⟨aV,k,e,rfl,hl,rfl⟩
theorem Ir.t {H:Hp} {a b:Addr} {aV:List (List Key×V)} {k:List Key} {v:V} (e:H a=some (.dT aV)) (eb:H b=some (.tup (k.map kV))) (hl:aV.length < sizeLine) :
 Ir H a (.ref b) v (upd H a (.dT (putK aV k v))):=.inr ⟨aV,k,b,e,rfl,eb,hl,rfl⟩
section
variable {X:Cx} {pins:List (Addr×Obj)} {σ:St} {H:Hp} {s:Shared} {a:Addr} {y v:V} {u r:Value} {o:Option V} {A:Around} {E:Value→Shared→Prop}
theorem Inv.big (I:Inv X pins σ H s):sysModules < s.heap.objs.size:=by
 have h:mainGlobals < s.heap.objs.size:=(I.mod.glob.keeps I.bk).lt
 exact Nat.lt_trans (by decide) h
theorem BX {Q:Value→Shared→Prop} (hu:A.units+1 < cLine) (I:Inv X pins σ H s) (g:qx H a y (some v)) (ry:RelV y u) (h:∀ w' s',Inv X pins σ H s'→RelV v w'→Q w' s') :
  wpAny (model X.prog X.w) A (getItem (.ref a) u) Q E s:=by
 rcases g with ⟨aV,k,e,ey,l⟩ | ⟨aV,k,b,e,ey,eb,l⟩
 · subst ey
   obtain ⟨z,hd,vs,rel,dd⟩:=wR I.bB e
   obtain ⟨w',hw,rw'⟩:=kC.some_of (v:=v) (o:=valueAt vs k) (by rw [l]; exact rel.val k)
   exact wpAny_getItem_of (tQ ry) dd.mapOf hw (h w' _ (I.tok _) rw')
 · subst ey
   cases (show u=Value.ref b from ry)
   obtain ⟨z,hd,xs,rel,dd⟩:=AW I.bB e
   obtain ⟨w',hw,rw'⟩:=kC.some_of (v:=v) (o:=(atKey xs k).map (·.2)) (by rw [l]; exact rel.val k)
   obtain ⟨p,hp,yP⟩:=Pp.mp hw
   refine wpAny_getItem_heap (tupleKind_room_in1 hu) (yV I.bB eb) dd hp ?_
   rw [yP]
   exact h w' _ (I.tok _) rw'
theorem uZ {h':Heap} {t':Nat} {ob:HO} (I:Inv X pins σ H s) (mu:PD (H a)) (hs:Heap.SameBut a s.heap h') (he:∃ q,h'.get? a=some q) (new:bQ X.prog X.w (upd H a ob) h' a ob) :
  Inv X pins σ (upd H a ob) { s with heap:=h',toks:=t' } :=
 I.write (x:=a) (e:=a) mu (.inl rfl) (fun b q hb z=>(hs.2 b hb).trans z) he new
theorem yW {P:Program} {w:World} {H':Hp} {h':Heap} {aV:List (Key×V)} {vs:List (Key×Value)} (z:aV.length≤sizeLine) (hd:(a == sysModules)=false) (rel:KV aV vs) (dd:h'.DictOf (bq P w) a vs) :
 bQ P w H' h' a (.dK aV):=⟨z,hd,vs,rel,dd⟩
end
section
variable {X:Cx} {pins:List (Addr×Obj)} {σ:St} {H:Hp} {s:Shared} {a:Addr} {aV:List (Key×V)} {k:Key} {u:Value} {A:Around} {E:Value→Shared→Prop}
end
def Np (i:Expr):Prop:=∀ ov iv,subscripted i false ov iv=operate [ov,iv] (getItem ov iv)
theorem Iu {prog:Program} {w:World} {A:Around} {E:Value→Shared→Prop} {s:Shared} {env:Env} {value slice:Expr} {pos:Pos} {T id:String} {Q:Value→Shared→Prop}
  (hl:typeLookup (.type T) "__getitem__" = pure (some (.builtin id))) (hs:Np slice)
  (h:wpAny (model prog w) A (eval value env) (fun o s₁=>wpAny (model prog w) A (eval slice env) (fun i s₂=>s₂.TypeIs o T∧wpAny (model prog w) A (getItem o i) Q E s₂) E s₁) E s) :
  wpAny (model prog w) A (eval (.Subscript value slice pos) env) Q E s:=by
 refine Subscript_ (wpAny_mono h (fun o s₁ h₁=>wpAny_mono h₁ (fun i s₂ h₂=>?_) fun _ _ x=>x) fun _ _ x=>x)
 obtain ⟨hT,h₂⟩:=h₂
 unfold subscriptTail
 refine wpAny_bind ?_
 rw [getitemInPython_of_ne hT.not_modules]
 refine wpAny_bind (wpAny_specialOf hT hl ?_)
 have fin:wpAny (model prog w) A (subscripted slice false o i) (fun r s₃=>wpAny (model prog w) A (letTemporaryGo value o r >>= fun _=>pure r) Q E s₃) E s₂:=by
  rw [hs o i]
  exact wpAny_operating (wpAny_mono h₂ (fun r s₃ h₃=>wpAny_bind (wpAny_letTemporaryGo (wpAny_pure h₃))) fun _ _ x=>x)
 first
  | exact wpAny_pure (wpAny_bind fin)
  | exact wpAny_bind (wpAny_pure (wpAny_bind fin))
  | exact wpAny_bind fin
theorem wU {X:Cx} {pins:List (Addr×Obj)} {σ:St} {H:Hp} {s:Shared} {a:Addr} {y:V} {o:Option V} (I:Inv X pins σ H s) (g:qx H a y o):s.TypeIs (.ref a) "dict":=by
 rcases g with ⟨aV,k,e,_,_⟩ | ⟨aV,k,b,e,_,_,_⟩
 · obtain ⟨_,_,vs,_,dd⟩:=wR I.bB e
   exact dd.typeIs
 · obtain ⟨_,_,xs,_,dd⟩:=AW I.bB e
   exact dd.typeIs
def Rb (td ty:TE):TE:=fun σ H Q=>td σ H fun x H1=>ty σ H1 fun y H2=>∃ a v,x = .ref a∧qx H2 a y (some v)∧Q v H2
section
variable {X:Cx} {o i e value:Expr} {pos pos' rT:Pos} {td ty tv:TE}
theorem Iv (hu:X.A.units+1 < cLine) (ho:PE X o td) (hi:PE X i ty) (hs:Np i):PE X (.Subscript o i pos) (Rb td ty):=by
 intro pins s σ H Q I h
 refine Iu PySem.F.slot_dict_getitem.lookup hs (bT (ho pins s σ H _ I h) fun u s1 ⟨x,H1,I1,rx,q1⟩=>bT (hi pins s1 σ H1 _ I1 q1) fun iv s2 ⟨y,H2,I2,ry,a,v,ex,g,q2⟩=>?_)
 subst ex
 obtain rfl:u=Value.ref a:=rx
 exact ⟨wU I2 g,BX hu I2 g ry fun w' s3 I3 rw'=>⟨v,H2,I3,rw',q2⟩⟩
end
theorem wV {P:Program} {w:World} {H:Hp} (h:Heap) (hb:sysModules < h.objs.size):bQ P w H (h.push { cls:=.type "dict",data:=.dict #[] }) h.objs.size (.dK []) :=
 ⟨ph _,beq_eq_false_iff_ne.mpr (Ne.symm (iu hb)),[],.nil,Heap.DictOf.new h⟩
def Nq:TE:=fun _ H Q=>∀ p,H p=none→Q (.ref p) (upd H p (.dK []))
section
variable {X:Cx} {pos:Pos}
theorem EF:PE X (.Dict [] [] pos) Nq:=fun pins s σ H Q I h =>
 wpAny_Dict_empty ⟨.ref s.heap.objs.size,_,I.laid (a:=s.heap.objs.size) (o:=.dK []) (t':=s.toks) (fun _ _ q=>dH _ q) (cZ _) (wV s.heap I.big),rfl,h _ (I.bB.fresh (cZ _))⟩
end
def u3:List (TE×TE)→St→Hp→(List (V×V)→Hp→Prop)→Prop
 | [],_,H,Q=>Q [] H
 | (tk,tv) :: r,σ,H,Q=>tk σ H fun x H1=>tv σ H1 fun y H2=>u3 r σ H2 fun ps H3=>Q ((x,y) :: ps) H3
abbrev VV:List (V×V)→List (Value×Value)→Prop:=Paired fun p q=>RelV p.1 q.1∧RelV p.2 q.2
def Rc (X:Cx) (pos:Pos) (keys:List (Option Expr)) (values:List Expr) (AX:List (TE×TE)):Prop :=
 ∀ (pins:List (Addr×Obj)) (s:Shared) (σ:St) (H:Hp) (Q:List (V×V)→Hp→Prop),Inv X pins σ H s→u3 AX σ H Q →
  wpAny (model X.prog X.w) X.A (evalPairs (pairTrees keys values X.env pos)) (fun vs s'=>∃ ps H',Inv X pins σ H' s'∧VV ps vs∧Q ps H') X.xe s
theorem Iw {X:Cx} {pos:Pos}:Rc X pos [] [] []:=fun pins s σ H Q I h=>pairTrees_nil_walk ⟨[],H,I,.nil,h⟩
theorem EG {X:Cx} {pos:Pos} {k v:Expr} {ks:List (Option Expr)} {vs:List Expr} {tk tv:TE} {AX:List (TE×TE)} (hk:PE X k tk) (hv:PE X v tv) (hr:Rc X pos ks vs AX) :
  Rc X pos (some k :: ks) (v :: vs) ((tk,tv) :: AX):=fun pins s σ H Q I h =>
 pairTrees_cons_walk (bT (hk pins s σ H _ I h) fun u s1 ⟨x,H1,I1,rx,q1⟩=>bT (hv pins s1 σ H1 _ I1 q1) fun w2 s2 ⟨y,H2,I2,ry,q2⟩ =>
  bT (hr pins s2 σ H2 _ I2 q2) fun ws s3 ⟨ps,H3,I3,rel,q3⟩=>⟨(x,y) :: ps,H3,I3,.cons ⟨rx,ry⟩ rel,q3⟩)
def iH (aV more:List (Key×V)):List (Key×V):=more.foldl (fun acc kv=>putK acc kv.1 kv.2) aV
theorem KV.merge:∀ {more:List (Key×V)} {rs:List (Key×Value)} {aV:List (Key×V)} {vs:List (Key×Value)},KV more rs→KV aV vs→KV (iH aV more) (merged vs rs):=by
 intro more rs aV vs r
 unfold KV at r
 induction r generalizing aV vs with
 | nil=>intro q; exact q
 | @cons p q ps qs h t ih =>
   intro r0
   have e:KV (putK aV p.1 p.2) (stored vs q.1 q.2):=by
    have:=r0.put p.1 h.2
    rw [← h.1]; exact this
   exact ih e
theorem gK:∀ (more aV:List (Key×V)),(iH aV more).length≤aV.length+more.length
 | [],aV=>by show aV.length≤aV.length+0; omega
 | p :: r,aV=>by
   have h1:=gK r (putK aV p.1 p.2)
   have h2:=oB aV p.1 p.2
   show (iH (putK aV p.1 p.2) r).length≤_
   rw [GU]; omega
theorem qy {P:Program} {w:World}:∀ {aV:List (Key×V)} {ws:List (Value×Value)},VV (aV.map fun kv=>(kV kv.1,kv.2)) ws→∃ rs,Carries (bq P w) ws rs∧KV aV rs
 | [],_,r=>by rw [GZ] at r; cases r; exact ⟨[],True.intro,.nil⟩
 | p :: aV,_,r=>by
   rw [iZ] at r
   cases r with
   | @cons a b as bs h t =>
     obtain ⟨rs,c,q⟩:=qy (P:=P) (w:=w) t
     obtain ⟨b1,b2⟩:=b
     exact ⟨(p.1,b2) :: rs,⟨tQ h.1,rfl,c⟩,.cons ⟨rfl,h.2⟩ q⟩
def Rf (AX:List (TE×TE)):TE:=fun σ H Q=>∀ p,H p=none→u3 AX σ (upd H p (.dK [])) fun ps H2=>H2 p=some (.dK [])∧∃ aV:List (Key×V),ps=aV.map (fun kv=>(kV kv.1,kv.2))∧aV.length≤15∧Q (.ref p) (upd H2 p (.dK (iH [] aV)))
theorem Iy {X:Cx} {pos:Pos} {keys:List (Option Expr)} {values:List Expr} {AX:List (TE×TE)} (h:Rc X pos keys values AX) (jm:keys.all (·.isSome)=true) (hl:keys.length=values.length) (h0:keys≠[])
  (h15:keys.length≤15):PE X (.Dict keys values pos) (Rf AX):=by
 intro pins s σ H Q I q
 have hn:=I.bB.fresh (cZ s.heap.objs.size)
 have I1:=I.laid (a:=s.heap.objs.size) (o:=.dK []) (h':=s.heap.push { cls:=.type "dict",data:=.dict #[] }) (t':=s.toks) (fun _ _ q=>dH _ q) (cZ _) (wV s.heap I.big)
 refine wpAny_Dict_walk (knd:=bq X.prog X.w) jm hl h0 h15 (bT (h pins _ σ _ _ I1 (q _ hn)) fun ws s2 ⟨ps,H2,I2,rel,e,aV,ep,lk,q2⟩=>?_)
 subst ep
 obtain ⟨rs,c,rk⟩:=qy (P:=X.prog) (w:=X.w) rel
 obtain ⟨z,hd,vs0,r0,dd⟩:=AV I2.bB e
 cases r0
 refine ⟨rs,c,dd,fun h' yX hs=>⟨.ref s.heap.objs.size,_,?_,rfl,q2⟩⟩
 have hz:(iH [] aV).length≤sizeLine:=by
  have h1:=gK aV []
  rw [PC] at h1
  rw [sizeLine_eq]; omega
 have he:∃ q,h'.get? s.heap.objs.size=some q:=let ⟨q,_,_,hq,_⟩:=yX; ⟨q,hq⟩
 exact uZ I2 (by rw [e]; exact True.intro) hs he (yW hz hd (rk.merge .nil) yX)
structure M1 (X:Cx) (o:Expr) (m:Str) (apos:Pos) (e:Expr) (a9:Pos):Prop where
 base:attributeBase o m X.env (eval o X.env)=eval o X.env
 WM:((backTo a9 (starEach [e] X.env)).all (fun x=>!x.1) && (backToKw a9 (keywordEach [] X.env)).all (fun x=>x.1.isSome)
  && decide (([e]:List Expr).length+([]:List Keyword).length+(if ([]:List Keyword).isEmpty then 0 else 1) < 30))=true
 line:(apos.endLine == a9.line)=true
 trees:backTo a9 (starEach [e] X.env)=[(false,eval e X.env)]
structure M2 (X:Cx) (o:Expr) (m:Str) (apos:Pos) (e f:Expr) (a9:Pos):Prop where
 base:attributeBase o m X.env (eval o X.env)=eval o X.env
 WM:((backTo a9 (starEach [e,f] X.env)).all (fun x=>!x.1) && (backToKw a9 (keywordEach [] X.env)).all (fun x=>x.1.isSome)
  && decide (([e,f]:List Expr).length+([]:List Keyword).length+(if ([]:List Keyword).isEmpty then 0 else 1) < 30))=true
 line:(apos.endLine == a9.line)=true
 trees:backTo a9 (starEach [e,f] X.env)=[(false,eval e X.env),(false,eval f X.env)]
def YE (H:Hp) (a:Addr):Prop:=(∃ aV,Rd H a (.dK aV))∨∃ aV,Rd H a (.dT aV)
theorem Nr {X:Cx} {pins:List (Addr×Obj)} {σ:St} {H:Hp} {s:Shared} {a:Addr} (I:Inv X pins σ H s) (d:YE H a) :
  s.TypeIs (.ref a) "dict"∧(∀ b,Value.ref a = .ref b→∃ ob,s.heap.get? b=some ob∧ob.dict=none)∧(a == sysModules)=false:=by
 rcases d with ⟨aV,e⟩ | ⟨aV,e⟩
 · obtain ⟨_,hd,vs,_,dd⟩:=wR I.bB e
   refine ⟨dd.typeIs,fun b q=>?_,hd⟩
   cases q
   obtain ⟨ob,_,_,h1,h2,_⟩:=dd
   exact ⟨ob,h1,h2.2.1⟩
 · obtain ⟨_,hd,xs,_,dd⟩:=AW I.bB e
   refine ⟨dd.typeIs,fun b q=>?_,hd⟩
   cases q
   obtain ⟨ob,_,_,h1,h2,_⟩:=dd
   exact ⟨ob,h1,h2.2.1⟩
section
variable {X:Cx} {pins:List (Addr×Obj)} {σ:St} {H:Hp} {s:Shared} {a:Addr} {y d:V} {u r:Value} {o:Option V} {A:Around} {E:Value→Shared→Prop}
theorem Nt {Q:Value→Shared→Prop} (hu:A.units+1 < cLine) (I:Inv X pins σ H s) (g:qx H a y o) (ry:RelV y u) (h:∀ w' s',Inv X pins σ H s'→RelV (o.getD .bb) w'→Q w' s') :
  wpAny (model X.prog X.w) A (call (.builtin "dict.get") [.ref a,u]) Q E s:=by
 rcases g with ⟨aV,k,e,ey,l⟩ | ⟨aV,k,b,e,ey,eb,l⟩
 · subst ey
   obtain ⟨z,hd,vs,rel,dd⟩:=wR I.bB e
   refine call_meetsIn Pr dd.typeIs UK (UI _ _) (meets_dict_get (bq X.prog X.w) a (tQ ry) hd) ⟨_,dd.mapOf,h _ _ (I.tok _) ?_⟩
   rw [l]
   exact (rel.val k).getD rfl
 · subst ey
   cases (show u=Value.ref b from ry)
   obtain ⟨z,hd,xs,rel,dd⟩:=AW I.bB e
   refine call_meetsIn Pr dd.typeIs UK (UI _ _) (meetsH_dict_get (tupleKind (bq X.prog X.w)) a b hd) ⟨tupleKind_room_in1 hu,k,xs,yV I.bB eb,dd,h _ _ (I.tok _) ?_⟩
   rw [l]
   exact (rel.val k).getD rfl
end
def Nu (td ty:TE):TE:=fun σ H Q=>td σ H fun x H1=>∃ a,x = .ref a∧YE H1 a∧ty σ H1 fun y H2=>∃ o,qx H2 a y o∧Q (o.getD .bb) H2
section
variable {X:Cx} {o e f:Expr} {apos a9:Pos} {td ty tx:TE}
theorem EH (hu:X.A.units+1 < cLine) (ho:PE X o td) (he:PE X e ty) (m:M1 X o "get" apos e a9):PE X (.Call (.Attribute o "get" apos) [e] [] a9) (Nu td ty):=by
 intro pins s σ H Q I h
 refine wpAny_Call_method m.base m.WM m.line Ti Pr PySem.F.type_dict_get (bT (ho pins s σ H _ I h) fun u s1 ⟨x,H1,I1,rx,a,ex,d,q1⟩=>?_)
 subst ex
 obtain rfl:u=Value.ref a:=rx
 obtain ⟨t1,t2,_⟩:=Nr I1 d
 refine ⟨t1,t2,?_⟩
 rw [m.trees]
 refine Tn rfl (Calls.evalArgs_plain (Calls.spliced_cons (bT (he pins s1 σ H1 _ I1 q1) fun iv s2 ⟨y,H2,I2,ry,ov,g,q2⟩=>Calls.spliced_nil ?_)))
 exact Nt hu I2 g ry fun w' s3 I3 rw'=>⟨_,H2,I3,rw',q2⟩
end
section
variable {X:Cx} {pins:List (Addr×Obj)} {σ:St} {H:Hp} {s:Shared} {a:Addr} {aV:List (Key×V)} {A:Around} {E:Value→Shared→Prop}
end
section
variable {X:Cx} {pins:List (Addr×Obj)} {σ:St} {H:Hp} {s:Shared} {a:Addr} {y:V} {u:Value} {A:Around} {E:Value→Shared→Prop}
end
end L2
namespace TL
open PySem PySem.W PySem.Calls PyProof.Rows
section
variable {prog:Program} {w:World} {A:Around} {E:Value→Shared→Prop} {s:Shared} {K:Frag}
end
end TL
namespace L2
open PySem PySem.Spec PyProof.Rows
section
variable {P:Program} {w:World} {K:PySem.W.Frag} {mg:Str→Option Value} {base:Heap}
end
section
variable {X:Cx}
end
section
variable {κ:Type} [DecidableEq κ]
end
end L2
namespace VT
open PySem PySem.Spec PyProof.Rows L2
def yY:T→Option Key
 | .int i=>some (.inl i)
 | .str x=>some (.inr x)
 | _=>none
theorem pF {K:PySem.W.Frag} {H:Hp} {A:List Addr} {t:T} {v:V} {k:Key} (h:iq K H A t v) (e:yY t=some k):v=kV k:=by
 cases t with
 | int i=>cases e; exact h.int
 | str x=>cases e; exact h.str
 | _=>cases e
def fB {α:Type}:List Key→List α→Key→Option α
 | k :: ks,t :: ts,x=>if k=x then some t else fB ks ts x
 | _,_,_=>none
theorem fR:∀ (ks:List Key) (vs:List V) (x:Key),jc (ks.zip vs) x=fB ks vs x
 | [],vs,x=>rfl
 | k :: ks,[],x=>rfl
 | k :: ks,v :: vs,x=>by
   simp only [fB,List.zip_cons_cons]
   by_cases e:k=x
   · rw [if_pos e,ma (p:=(k,v)) e]
   · rw [if_neg e,md (p:=(k,v)) e]; exact fR ks vs x
theorem wW {α:Type} (ts:List α) (x:Key):fB [] ts x=none:=by cases ts <;> rfl
theorem iI {K:PySem.W.Frag} {H:Hp} {A:List Addr}:∀ {ks:List Key} {ts:List T} {vs:List V} {x:Key},aI K H A ts vs→(∀ t,fB ks ts x=some t→∃ v,fB ks vs x=some v∧At K H A t v)∧(fB ks ts x=none→fB ks vs x=none)
 | [],ts,vs,x,h=>by
   rw [wW,wW]
   refine ⟨fun t e=>?_,fun _=>rfl⟩
   cases e
 | k :: ks,[],vs,x,h=>by
   simp only [aI] at h
   subst h
   exact ⟨fun t e=>(by cases e),fun _=>rfl⟩
 | k :: ks,t :: ts,vs,x,h=>by
   simp only [aI] at h
   obtain ⟨v,r,rfl,h1,h2⟩:=h
   simp only [fB]
   by_cases e:k=x
   · rw [if_pos e,if_pos e]
     exact ⟨fun t e=>by cases e; exact ⟨v,rfl,h1⟩,fun q=>by cases q⟩
   · rw [if_neg e,if_neg e]
     exact iI h2
section
variable {X:Cx} {Z:Zc} {e a b:Expr} {fa fb fc:FE} {pos:Pos}
def Rg:FP:=fun _ Q=>Q (.fr (.dk [] []))
theorem Iz:VP X Z (.Dict [] [] pos) Rg:=.mk fun tm=>PE.weak EF fun σ H Q ⟨ρ,O,q,I,hf,k⟩ p hp =>
 k _ hf _ _ (aS hp) (I.newD (ks:=[]) (ts:=[]) (vs:=[]) hp rfl aI.nil)
def Rh (fa fb:FE):FP:=fun ρ Q=>fa ρ fun x=>fb ρ fun y=>match x,yY y with
 | .dk ks ts,some k=>∃ t,fB ks ts k=some t∧Q (.vw t)
 | _,_=>False
theorem EI (hu:X.A.units+1 < cLine) (ha:VR X Z a fa) (hb:VR X Z b fb) (hs:Np b:=by intro _ _; rfl):VP X Z (.Subscript a b pos) (Rh fa fb):=.mk fun tm=>PE.weak (Iv hu (ha tm) (hb tm) hs) fun σ H Q ⟨ρ,O,q,I,hf,k⟩ =>
 ⟨ρ,O,_,I,hf,fun x hx v H1 s1 a1=>⟨ρ,O,_,I.same s1,hx,fun y hy w H2 s2 a2=>by
   split at hy
   · rename_i ks ts kk e
     obtain ⟨t,e1,hq⟩:=hy
     obtain ⟨l,vs,rfl,hl,hd,hv⟩:=(a1.same s2).dk
     obtain ⟨u,e2,e3⟩:=(iI hv).1 t e1
     rw [pF a2 e]
     exact ⟨l,u,rfl,by rw [← e2,← fR]; exact qx.k hd,k _ hq _ H2 (s1.trans s2) ⟨(I.same s1).same s2,e3⟩⟩
   · exact hy.elim⟩⟩
def WN (fa fb:FE):FP:=fun ρ Q=>fa ρ fun x=>match x with
 | .dk ks ts=>fb ρ fun y=>match yY y with
   | some k=>Q (.vw ((fB ks ts k).getD .bb))
   | none=>False
 | _=>False
theorem AY {K:PySem.W.Frag} {H:Hp} {A:List Addr} {ks:List Key} {ts:List T} {vs:List V} {k:Key} {z:T} {w:V} (h:aI K H A ts vs) (hz:At K H A z w):At K H A ((fB ks ts k).getD z) ((fB ks vs k).getD w):=by
 cases e:fB ks ts k with
 | none=>rw [(iI h).2 e]; exact hz
 | some t=>obtain ⟨v,e1,e2⟩:=(iI h).1 t e; rw [e1]; exact e2
theorem yZ {apos a9:Pos} (hu:X.A.units+1 < cLine) (ha:VR X Z a fa) (hb:VR X Z b fb) (m:M1 X a "get" apos b a9):VP X Z (.Call (.Attribute a "get" apos) [b] [] a9) (WN fa fb):=.mk fun tm=>PE.weak (EH hu (ha tm) (hb tm) m) fun σ H Q ⟨ρ,O,q,I,hf,k⟩ =>
 ⟨ρ,O,_,I,hf,fun x hx v H1 s1 a1=>by
   split at hx
   · rename_i ks ts
     obtain ⟨l,vs,rfl,hl,hd,hv⟩:=a1.dk
     refine ⟨l,rfl,.inl ⟨_,.inl hd⟩,ρ,O,_,I.same s1,hx,fun y hy w H2 s2 a2=>?_⟩
     split at hy
     · rename_i kk e
       rw [pF a2 e]
       refine ⟨_,qx.k (s2 _ _ hd),?_⟩
       rw [fR]
       exact k _ hy _ H2 (s1.trans s2) ⟨(I.same s1).same s2,AY (hv.same s2) nz⟩
     · exact hy.elim
   · exact hx.elim⟩
end
def K2 (w:World) (K:PySem.W.Frag) (e:DictEntry) (p:Str×T):Prop:=e.hash=PyData.keyHash w.params p.1∧(∃ t,e.key = .str p.1 t)∧∃ v,RelV v e.val∧∀ H A,At K H A p.2 v
def AZ (w:World) (K:PySem.W.Frag) (a:Addr) (l:List (Str×T)):Prop:=∃ es ep,K.lookup a=some ⟨.type "dict",none,.dict es ep,#[]⟩∧(a == sysModules)=false∧Paired (K2 w K) es.toList l∧(l.map (·.1)).Nodup
theorem ents {P:Program} {w:World} {K:PySem.W.Frag}:∀ {es:List DictEntry} {l:List (Str×T)},Paired (K2 w K) es l →
  ∃ (vs:List V) (us:List (Key×Value)),(∀ H A,aI K H A (l.map (·.2)) vs)∧KV ((l.map fun p=>(Sum.inr p.1:Key)).zip vs) us∧PySem.Pairs (bq P w) es us∧us.map (·.1)=l.map (fun p=>(Sum.inr p.1:Key))∧∀ e∈es,∃ k,(bq P w).is k e.key=true∧e.hash=(bq P w).hash k
 | _,_,.nil=>⟨[],[],fun _ _=>aI.nil,.nil,.nil,rfl,fun _ h=>nomatch h⟩
 | _,_,.cons (a:=e) (b:=p) r t=>by
   obtain ⟨vs,us,h1,h2,h3,h4,h5⟩:=ents (P:=P) t
   obtain ⟨r1,⟨tk,r2⟩,v,r3,r4⟩:=r
   have hk:(bq P w).is (Sum.inr p.1) e.key=true:=by
    rw [r2]
    show Value.isStrOf p.1 (.str p.1 tk)=true
    simp [Value.isStrOf]
   refine ⟨v :: vs,(Sum.inr p.1,e.val) :: us,fun H A=>aI.cons (r4 H A) (h1 H A),.cons ⟨rfl,r3⟩ h2,.cons hk rfl h3,by rw [iZ,iZ,h4],fun e' he=>?_⟩
   rcases fg.mp he with q | q
   · subst q
     exact ⟨Sum.inr p.1,hk,r1⟩
   · exact h5 e' q
theorem AZ.of {X:Cx} {pins:List (Addr×Obj)} {σ:St} {H:Hp} {s:Shared} {a:Addr} {l:List (Str×T)} (I:Inv X pins σ H s) (d:AZ X.w X.K a l) :
  ∃ (vs:List V) (us:List (Key×Value)),(∀ H A,aI X.K H A (l.map (·.2)) vs)∧KV ((l.map fun p=>(Sum.inr p.1:Key)).zip vs) us∧s.heap.DictOf (bq X.prog X.w) a us∧(a == sysModules)=false:=by
 obtain ⟨es,ep,lk,hs,hp,nd⟩:=d
 obtain ⟨vs,us,h1,h2,h3,h4,h5⟩:=ents (P:=X.prog) hp
 refine ⟨vs,us,h1,h2,⟨_,es,ep,I.kq a _ lk,⟨rfl,rfl,rfl⟩,rfl,fun e he=>h5 e (by simpa using he),h3,?_⟩,hs⟩
 rw [h4]
 have e:(l.map fun p=>(Sum.inr p.1:Key))=(l.map (·.1)).map Sum.inr:=by rw [List.map_map]; rfl
 rw [e]
 exact List.Pairwise.map _ (fun a b h z=>h (Sum.inr.inj z)) nd
section
variable {X:Cx} {Z:Zc} {e c:Expr} {fe fc:FE} {x:Str} {p apos a9:Pos} {a:Addr} {l:List (Str×T)}
def IA (l:List (Str×T)) (k:Str):Option T:=fB (l.map fun p=>(Sum.inr p.1:Key)) (l.map (·.2)) (Sum.inr k)
def onStr (t:T) (f:Str→Prop):Prop:=match t with
 | .str k=>f k
 | _=>False
theorem EJ {t:T} {f:Str→Prop} (h:onStr t f):∃ k,t = .str k∧f k:=by
 unfold onStr at h
 split at h
 · exact ⟨_,rfl,h⟩
 · exact h.elim
def WO (l:List (Str×T)) (fe:FE):FP:=fun ρ Q=>fe ρ fun y=>onStr y fun k=>Q (.vw ((IA l k).getD .bb))
theorem EK (hg:Gl X x) (hm:X.mg x=some (.ref a)) (d:AZ X.w X.K a l) (he:VR X Z e fe) (m:M1 X (.Name x p) "get" apos e a9) (hd:gk x:=by decide) :
  VP X Z (.Call (.Attribute (.Name x p) "get" apos) [e] [] a9) (WO l fe):=.mk fun tm pins s σ H Q I ⟨ρ,O,q,E,hf,k⟩=>by
 refine wpAny_Call_method m.base m.WM m.line Ti Pr PySem.F.type_dict_get (bT (pk hg hm (v:=.ref a) rfl hd pins s σ H (fun v H'=>v = .ref a∧H'=H) I ⟨rfl,rfl⟩) fun u s1 ⟨x',H1,I1,rx,ex,eH⟩=>?_)
 subst ex eH
 obtain rfl:u=Value.ref a:=rx
 obtain ⟨vs,us,h1,h2,dd,hs⟩:=d.of I1
 refine ⟨dd.typeIs,fun b q=>?_,?_⟩
 · cases q
   obtain ⟨ob,_,_,z1,z2,_⟩:=dd
   exact ⟨ob,z1,z2.2.1⟩
 rw [m.trees]
 refine Tn rfl (Calls.evalArgs_plain (Calls.spliced_cons (bT (he tm pins s1 σ H1 (fun y H2=>∃ t,iq X.K H2 (av Z O) t y∧aM H1 H2∧onStr t fun k=>q (.vw ((IA l k).getD .bb))) I1 ⟨ρ,O,_,E,hf,fun t ht v H' s a1=>⟨t,a1,s,ht⟩⟩) fun iv s2 ⟨y,H2,I2,ry,t,a1,sa,q3⟩=>Calls.spliced_nil ?_)))
 obtain ⟨kk,et,q3⟩:=EJ q3
 subst et
 obtain ⟨lg,Ub,M_,HV,yX,T5⟩:=d.of I2
 have ey:=a1.str
 subst ey
 refine call_meetsIn Pr yX.typeIs UK (UI _ _) (meets_dict_get (bq X.prog X.w) a (tQ (k:=Sum.inr kk) ry) T5) ⟨_,yX.mapOf,⟨_,H2,I2.tok _,(HV.val (Sum.inr kk)).getD (d:=.bb) rfl,?_⟩⟩
 rw [fR]
 exact k _ q3 _ H2 sa ⟨E.same sa,AY (M_ H2 (av Z O)) nz⟩
end
end VT
namespace Gen
open PySem L2 VT
open wm (bf)
theorem small {n:Nat} (h:n≤1000):n≤sizeLine:=Nat.le_of_lt (BH h)
def kK (n:Int):Nat:=bf.cps.toList.getD (n % 26).toNat 0
theorem wX:bf.cps.toList.length=26:=by decide +kernel
theorem u4:bf.length=26:=by decide +kernel
theorem gL:bf.length≤sizeLine:=by rw [u4,sizeLine_eq]; decide
theorem tT (n:Int):k9 bf.cps.toList (n % 26)=some (kK n):=by
 have h0:0≤n % 26:=LC n (by decide)
 have h1:n % 26 < 26:=Py n (by decide)
 unfold kK
 obtain ⟨j,hj⟩:=Tj h0
 rw [hj]
 have gF:j < bf.cps.toList.length:=by rw [wX]; omega
 refine ax ?_
 rw [Dl,List.getD,sR gF]
 rfl
def u5 (c:Int):Int:=c % 1000000000000
def nK (c:Int):Nat:=(1+u5 c % 7).toNat
def GJ (c:Int):Nat:=(u5 c / 7 % (nK c:Int)).toNat
def BY (c:Int) (k j:Nat):Int:=u5 c / 49 / ((j:Int)+1)+(j:Int) * (j:Int)+(if j=GJ c then (k:Int) else 0)
def cm (c:Int) (k n:Nat):Str:=⟨((List.range n).map fun j=>kK (BY c k j)).toArray⟩
def eF (c:Int) (m:Nat):List Str :=
 if u5 c / 49 % 3=1 then ((List.range m).map fun k=>cm c k (nK c)).set 1 (cm c 0 (nK c) ++ ⟨#[kK (u5 c / 147)]⟩) else (List.range m).map fun k=>cm c k (nK c)
theorem K3 (c:Int):((nK c:Nat):Int)=1+u5 c % 7:=by
 unfold nK
 have:0≤u5 c % 7:=LC _ (by decide)
 omega
theorem y0 (c:Int):1≤nK c∧nK c≤7:=by
 have:=K3 c
 have h0:0≤u5 c % 7:=LC _ (by decide)
 have h1:u5 c % 7 < 7:=Py _ (by decide)
 omega
theorem Ri (c:Int):((GJ c:Nat):Int)=u5 c / 7 % (nK c:Int):=by
 unfold GJ
 have h:=y0 c
 have:0≤u5 c / 7 % (nK c:Int):=LC _ (by omega)
 omega
theorem y7 (c:Int) (k n:Nat):cm c k (n+1)=cm c k n ++ ⟨#[kK (BY c k n)]⟩:=by
 unfold cm
 rw [List.range_succ,C7]
 show _=Str.mk (_ ++ _)
 congr 1
 simp
theorem j6 (c:Int) (k n:Nat):(cm c k n).length=n:=by
 unfold cm Str.length
 simp
theorem y8 (c:Int) (m:Nat):(eF c m).length=m:=by
 unfold eF
 split <;> simp
theorem Rj:(10:Int) ^ (12:Int).toNat=1000000000000:=by decide +kernel
inductive tU where
 | nm (x:Str)
 | nu (i:Int)
inductive Ky where
 | fld (x:Str)
 | op (o:tU)
inductive Rw where
 | df (f:Str) (ps:List Str)
 | give (a:tU)
 | put (x:Str) (a:tU)
 | Uc (x:Str) (a:tU) (op:Str) (b:tU)
 | new (x:Str)
 | get (x r:Str) (k:Ky)
 | set (r:Str) (k:Ky) (a:tU)
 | call (x f:Str) (as:List tU)
 | fail (w:Str)
 | O_ (a:tU)
 | Pa
 | Pb (a:tU)
 | fin
 | skip
def tV:tU→T
 | .nm x=>.str x
 | .nu i=>.int i
def Rk:Ky→T
 | .fld x=>.str ((("." : String):Str) ++ x)
 | .op o=>tV o
def aU:Rw→T
 | .df f ps=>.tup [.str "def",.str f,.tup (ps.map .str)]
 | .give a=>.tup [.str "give",tV a]
 | .put x a=>.tup [.str "put",.str x,tV a]
 | .Uc x a op b=>.tup [.str "do",.str x,tV a,.str op,tV b]
 | .new x=>.tup [.str "new",.str x]
 | .get x r k=>.tup [.str "get",.str x,.str r,Rk k]
 | .set r k a=>.tup [.str "set",.str r,Rk k,tV a]
 | .call x f as=>.tup [.str "call",.str x,.str f,.tup (as.map tV)]
 | .fail w=>.tup [.str "fail",.str w]
 | .O_ a=>.tup [.str "if",tV a]
 | .Pa=>.tup [.str "else"]
 | .Pb a=>.tup [.str "while",tV a]
 | .fin=>.tup [.str "end"]
 | .skip=>.tup [.str "skip"]
theorem iJ {α:Type} {f:α→T} (h:∀ x,plainT (f x)=true):∀ l:List α,bC (l.map f)=true
 | []=>by simp [bC]
 | x :: l=>by simp only [iZ,bC,h x,iJ h l,Bool.and_self]
theorem fS {α:Type} {f:α→T} {n:Nat} (h:∀ x,dep (f x)≤n):∀ l:List α,gI (l.map f)≤n
 | []=>by simp [gI]
 | x :: l=>by have:=h x; have:=fS h l; simp only [iZ,gI]; omega
theorem u6 (o:tU):dep (tV o)=0:=by cases o <;> simp [tV,dep]
theorem IB (o:Ky):dep (Rk o)=0:=by cases o with | fld x=>simp [Rk,dep] | op o=>exact u6 o
theorem EL (r:Rw):dep (aU r)≤2:=by
 have h1:=fun l:List Str=>fS (f:=T.str) (n:=0) (fun _=>by simp [dep]) l
 have h2:=fun l:List tU=>fS (f:=tV) (n:=0) (fun o=>by simp [u6]) l
 cases r <;> simp [aU,dep,gI,u6,IB] <;> first | (rename_i x; have:=h1 x; omega) | (rename_i x; have:=h2 x; omega) | skip
end Gen
namespace fJ
open PySem L2 VT Gen wm
def top (i:Nat):Stmt:=PySem.Challenge.pw_slicewise_k19_whole_programs_judged.main.body.getD i (.Pass ⟨0,0,0,0⟩)
abbrev gx:Stmt:=top 17
abbrev j7:Stmt:=top 18
abbrev bG:Stmt:=top 19
abbrev kL:Stmt:=top 20
abbrev qz:Stmt:=top 21
structure Ud (mg:Str→Option Value):Prop where
 H:∃ t,mg "H" = some (.int 1000000000000000000000000000000 t)
 IC:∃ t,mg "LETTERS" = some (.str bf t)
 u7:∃ t,mg "LONGEST_NAME" = some (.int 8 t)
 isinstance:mg "isinstance" = none
 int:mg "int" = none
 bool:mg "bool" = none
 str:mg "str" = none
 len:mg "len" = none
 all:mg "all" = none
theorem oZ {n:Nat} (h:n≤1000):n≤sizeLine:=small h
def me:T→Bool
 | .lst _=>false
 | .dk _ _=>false
 | .dt _ _=>false
 | .df _ _ _=>false
 | .dz _ _ _=>false
 | .kt _=>false
 | .ins _ _ _=>false
 | .pin _ _=>false
 | .ob _=>false
 | .ty _=>false
 | _=>true
def EM:T→Bool
 | .int i=>decide (-1000000000000000000000000000000≤i) && decide (i < 1000000000000000000000000000000)
 | _=>false
def bR:T→Bool
 | .str x=>dI x
 | _=>false
def Rl (ts:List T) (q:Rt→Prop):Prop:=∃ t,ts=[t]∧me t=true∧q (.vw (.bl (EM t)))
def i0 (ts:List T) (q:Rt→Prop):Prop:=∃ t,ts=[t]∧me t=true∧(∀ x,t = .str x→x.length≤1000)∧q (.vw (.bl (bR t)))
def EN (r:Rt) (A:Prop) (B:Prop):Prop:=match r with
 | .vw (.bl true)=>A
 | .vw (.bl false)=>B
 | _=>False
theorem EO {c d:Bool} {q:Rt→Prop} (h:q (.vw (.bl (c && d)))):EN (.vw (.bl c)) (q (.vw (.bl d))) (q (.vw (.bl false))):=by
 cases c with
 | _=>exact h
theorem wY {c:Bool} {A B:Prop} (h1:c=true→A) (h2:c=false→B):EN (.vw (.bl c)) A B:=by
 cases c with
 | true=>exact h1 rfl
 | false=>exact h2 rfl
theorem A0:∀ l:List Nat,b9 (l.map ((fun t:T=>match t with | .str y=>.bl (l7 y bf) | _=>.bb) ∘ fun c=>T.str ⟨#[c]⟩))=some (l.map wo)
 | []=>rfl
 | c :: l=>by
   rw [iZ,iZ]
   show (b9 _).map _=_
   rw [A0 l]
   rfl
section
variable {P:Program} {w:World} {K:PySem.W.Frag} {mg:Str→Option Value} {base:Heap}
abbrev oE:List Str:=["thing"]
theorem mf:aH oE ["thing"] (aj gx):=L2.gE
theorem BZ {f:Addr} {fd:FuncData} (D:Df K mg "is_number" gx ["thing"] f fd) (M:Ud mg):b_ P w K mg base "is_number" ["thing"] 1 (bZ K 1 Rl):=by
 refine D.jA (ku D.F mf rfl fun bw A outer s H E Ox hr ts q hG=>?_)
 have nd:=mf.nd
 obtain ⟨tH,mH⟩:=M.H
 have YF:∀ {pos},VP (dy ip P w K mg base oE "is_number" (aj gx) f bw A outer s H E).ng ⟨H,[],Ox⟩ (.Name "H" pos) (fC (.int 1000000000000000000000000000000)):=dv (by rfl) mH (v:=.int 1000000000000000000000000000000) ⟨tH,rfl⟩ fun _ _=>bx
 refine ⟨_,(ah (az (VP.vx (nC (cx ql (by rfl) M.isinstance (by rfl) M.int AS (aa 0)) (nC (MD (cx tG (by rfl) M.isinstance (by rfl) M.bool Eo (aa 0))) (nB (wM Av DB (VP.vr (d9 (VP.vr YF))) (aa 0) (VP.vr YF)))))))),fun _=>?_⟩
 obtain ⟨t,rfl,ht,hq⟩:=hG
 cases t with
 | bb=>exact ⟨rfl,hq⟩
 | bl b=>exact ⟨rfl,rfl,hq⟩
 | str x=>exact ⟨rfl,hq⟩
 | tup l=>exact ⟨rfl,hq⟩
 | int i =>
   refine ⟨rfl,rfl,?_⟩
   have cy:q (.vw (.bl (decide (-1000000000000000000000000000000≤i) && decide (i < 1000000000000000000000000000000)))):=hq
   exact EO (c:=decide (-1000000000000000000000000000000≤i)) cy
 | _=>cases ht
abbrev nL:List Str:=["thing"]
theorem qA:aH nL ["thing"] (aj j7):=L2.gE
theorem sC:(nL ++ (["sign"]:List Str)).Nodup:=by decide +kernel
theorem ID {f:Addr} {fd:FuncData} (D:Df K mg "is_name" j7 ["thing"] f fd) (M:Ud mg):b_ P w K mg base "is_name" ["thing"] 1 (bZ K 1 i0):=by
 refine D.jA (ku D.F qA rfl fun bw A outer s H E Ox hr ts q hG=>?_)
 have nd:=qA.nd
 have np:∀ {i:Nat},aZ ⟨H,[],Ox⟩ i:=j5
 obtain ⟨tL,mL⟩:=M.IC
 obtain ⟨tN,mN⟩:=M.u7
 have qB:∀ {pos},VP (dy ip P w K mg base nL "is_name" (aj j7) f bw A outer s H E).ng ⟨H,[],Ox⟩ (.Name "LONGEST_NAME" pos) (fC (.int 8)):=dv (by rfl) mN (v:=.int 8) ⟨tN,rfl⟩ fun _ _=>bx
 refine ⟨_,(af (aJ (VW.vc (dF (cf (bY (cx jy (by rfl) M.isinstance (by rfl) M.str wN (aa 0)))) (cK (cf (El Av Av (VP.vr ag) (VP.vr (aE aB aD (by rfl) M.len gC (aq (aa 0) ay))) (VP.vr qB))))))
    (ah (az (VP.vx fM)))
    au)
   (ah (az (VP.vx (aE (bO rfl) eE (by rfl) M.all qq (aq (VP.vr (eV (ts:=["sign"]) rfl (by rfl) (iG (aw 0)) (fun _ _ _ _ _ _=>(aW (i:=1) sC rfl (Or.inl rfl) np)) (fun _ _ _ _ _ _=>gu) (fun _ _ _ _ _ _=>(VP.ve (Ej (aa 1) (VP.vr (dv (by rfl) mL (v:=.str bf) ⟨tL,rfl⟩ fun _ _=>bF))))))) ay)))))),fun _=>?_⟩
 obtain ⟨t,rfl,ht,hx,hq⟩:=hG
 cases t with
 | bb=>exact ⟨rfl,hq⟩
 | bl b=>exact ⟨rfl,hq⟩
 | int x=>exact ⟨rfl,hq⟩
 | tup l=>exact ⟨rfl,hq⟩
 | str x =>
   have hl:=hx x rfl
   have cy:q (.vw (.bl (decide (1≤(x.length:Int)) && (decide ((x.length:Int)≤8) && x.cps.toList.all wo)))):=hq
   refine ⟨rfl,oZ hl,wY (c:=decide (1≤(x.length:Int))) (fun h1=>?_) (fun h1=>?_)⟩
   · rw [h1,pf] at cy
     refine kj (fun h2=>?_) (fun h2=>?_)
     · have HV:(!decide ((x.length:Int)≤8))=true:=h2
       have h3:decide ((x.length:Int)≤8)=false:=by simpa using HV
       rw [h3,vS] at cy
       exact cy
     · have HV:¬ (!decide ((x.length:Int)≤8))=true:=h2
       have h3:decide ((x.length:Int)≤8)=true:=by simpa using HV
       rw [h3,pf] at cy
       refine ⟨rfl,by rw [cV,Lz]; exact oZ hl,fH (fun _=>true) (fun t=>match t with | .str y=>.bl (l7 y bf) | _=>.bb) (fun t ht k r h=>?_) ?_⟩
       · obtain ⟨c,_,rfl⟩:=Bp.mp ht
         exact ⟨_,rfl,h⟩
       · rw [Pw.mpr (fun _ _=>rfl),List.map_map]
         refine ⟨x.cps.toList.map wo,A0 x.cps.toList,?_⟩
         rw [LD]
         exact cy
   · rw [h1,vS] at cy
     exact cy
 | _=>cases ht
end
def dG (t:T):Bool:=bR t || EM t
def ER (ts:List T) (q:Rt→Prop):Prop:=∃ t,ts=[t]∧me t=true∧(∀ x,t = .str x→x.length≤1000)∧q (.vw (.bl (dG t)))
section
variable {P:Program} {w:World} {K:PySem.W.Frag} {mg:Str→Option Value} {base:Heap}
abbrev iK:List Str:=["thing"]
theorem de:aH iK ["thing"] (aj bG):=L2.gE
theorem kM {f:Addr} {fd:FuncData} (D:Df K mg "is_operand" bG ["thing"] f fd) (c1:b_ P w K mg base "is_name" ["thing"] 1 (bZ K 1 i0)) (c2:b_ P w K mg base "is_number" ["thing"] 1 (bZ K 1 Rl)):b_ P w K mg base "is_operand" ["thing"] 2 (bZ K 1 ER):=by
 obtain ⟨nM,kN,eG,eI,eJ,eL⟩:=c1
 obtain ⟨K4,IE,wZ,w5,w6,w_⟩:=c2
 refine D.jA (ku D.F de rfl fun bw A outer s H E Ox hr ts q hG=>?_)
 have nd:=de.nd
 refine ⟨_,(ah (az (VP.vx (KC (aT eL (hr.mono (by decide)) (by rfl) eG eI eJ (ae (aw 0) ak)) (nB (aT w_ (hr.mono (by decide)) (by rfl) wZ w5 w6 (ae (aw 0) ak))))))),fun _=>?_⟩
 obtain ⟨t,rfl,ht,hx,hq⟩:=hG
 unfold dG at hq
 refine ⟨rfl,t,rfl,ht,hx,wY (c:=bR t) (fun h=>?_) (fun h=>⟨rfl,t,rfl,ht,?_⟩)⟩
 · rw [h,Bool.true_or] at hq; exact hq
 · rw [h,Bool.false_or] at hq; exact hq
end
end fJ
namespace VT
open PySem PySem.Spec PyProof.Rows L2
section
variable {X:Cx} {Z:Zc} {a b:Expr} {fa fb:FE} {pos:Pos}
end
end VT
namespace RV
open PySem PySem.Spec PyProof.Rows
def xa (h:Heap) (it l:Addr) (i:Int):Prop:=∃ o,h.get? it=some o∧o.cls = .type "list_reverseiterator"∧o.data = .fields #[.ref l,.int i 0]
section
variable {prog:Program} {w:World} {A:Around} {E:Value→Shared→Prop} {s:Shared}
theorem xa.typeIs {it l:Addr} {i:Int} (h:xa s.heap it l i):s.TypeIs (.ref it) "list_reverseiterator":=let ⟨o,ho,hc,_⟩:=h; ⟨o,ho,hc⟩
end
theorem xa.at {h h':Heap} {it l:Addr} {i:Int} (x:xa h it l i) (k:∀ o,h.get? it=some o→h'.get? it=some o):xa h' it l i:=let ⟨o,ho,r⟩:=x; ⟨o,k o ho,r⟩
section
variable {prog:Program} {w:World} {A:Around} {s:Shared} {R:Result→Shared→Prop}
variable {I:Addr} {fp wr:List Addr} {G:Array GenState→Array GenState→Prop} {n:Nat} {P:Nat→Value→Prop} {St:Nat→Shared→Prop}
def Ends (prog:Program) (w:World) (A:Around) (I:Addr) (wr:List Addr) (G:Array GenState→Array GenState→Prop) (n:Nat) (St:Nat→Shared→Prop):Prop :=
 ∀ (s:Shared) (Q:Option Value→Shared→Prop) (E:Value→Shared→Prop),St n s→(∀ s',Moved wr G s s'→(∃ o,s'.heap.get? I=some o)→Q none s')→wpAny (model prog w) A (pyNext (.ref I)) Q E s
end
section
variable {prog:Program} {w:World} {A:Around} {E:Value→Shared→Prop} {s:Shared}
variable {I:Addr} {fp wr:List Addr} {G:Array GenState→Array GenState→Prop} {n:Nat} {P:Nat→Value→Prop} {St:Nat→Shared→Prop}
end
section
variable {prog:Program} {w:World} {A:Around} {E:Value→Shared→Prop} {s:Shared}
end
end RV
namespace VT
open PySem PySem.Spec PyProof.Rows L2
section
variable {X:Cx}
end
section
variable {X:Cx} {Z:Zc} {a:Expr} {fa:FE} {p1 p2 Ip BV:Pos}
end
theorem xb {n:Nat} (h:n+101 < cLine):n+1 < cLine:=by omega
section
variable {X:Cx} {Z:Zc} {ek ev:Expr} {fk fv:FE} {pos:Pos}
end
section
variable {X:Cx}
end
section
variable {K:PySem.W.Frag} {H:Hp} {A:List Addr}
theorem tW:∀ {ys:List Str} {vs:List V},aI K H A (ys.map T.str) vs→vs=ys.map V.str
 | [],vs,h=>by simpa only [GZ,aI] using h
 | y :: ys,vs,h=>by
   simp only [iZ,aI] at h
   obtain ⟨v,r,rfl,h1,h2⟩:=h
   simp only [At] at h1
   rw [h1,tW h2]
   rfl
end
section
variable {X:Cx}
theorem B0 (hu:X.A.units+101 < cLine):ff X (compareOp .In) (fun x y H Q=>∃ (p q:Addr) (xs:List V) (ys:List Str),x = .ref p∧y = .ref q∧dY X.K H p xs∧dY X.K H q (ys.map V.str)∧Q (.bl false) H):=by
 intro pins s σ H x y v u Q I rx ry h
 obtain ⟨p,q,xs,ys,rfl,rfl,h1,h2,hq⟩:=h
 cases rx
 cases ry
 obtain ⟨aP,r,pl,hz⟩:=I.tuple h1
 obtain ⟨fz,r2,pl2,hz2⟩:=I.tuple h2
 have jm:∀ w∈fz.toArray,SeqAt.EqAt X.A.in1 s w (.ref p) false:=by
  intro w hw
  have hw':w∈fz:=by simpa using hw
  obtain ⟨i,hi⟩:=Lx.mp hw'
  have hl:=r2.length
  rw [cV] at hl
  have hiy:i < ys.length:=by have:=(e_.mp hi).1; omega
  obtain ⟨u,cT,ru⟩:=r2.get (show (ys.map V.str)[i]?=some (.str ys[i]) by rw [lj,sR hiy]; rfl)
  rw [hi] at cT
  cases cT
  obtain ⟨t,rfl⟩:=ru
  exact SeqAt.EqAt.str_tuple _ _ pl (by rw [in1_units]; omega)
 refine SeqAt.in_tupleAt (fun _=>false) pl2 jm ⟨.bl false,H,I,?_,hq⟩
 show Value.bool _=Value.bool false
 congr 1
 exact Array.any_eq_false.mpr (by simp)
def Nv (x y:T) (q:Rt→Prop):Prop:=match x,y with
 | .tup _,.tup us=>∃ ys:List Str,us=ys.map .str∧q (.vw (.bl false))
 | _,_=>False
theorem IF {K:PySem.W.Frag}:pX K (fun x y H Q=>∃ (p q:Addr) (xs:List V) (ys:List Str),x = .ref p∧y = .ref q∧dY K H p xs∧dY K H q (ys.map V.str)∧Q (.bl false) H) Nv:=by
 intro Z tm O ρ σ H x y v w q Q I h1 h2 h k
 unfold Nv at h
 split at h
 · obtain ⟨ys,rfl,h⟩:=h
   obtain ⟨a,vs,rfl,s1,_⟩:=h1.tup
   obtain ⟨b,ws,rfl,s2,a2⟩:=h2.tup
   have e:ws=ys.map V.str:=tW a2
   rw [e] at s2
   exact ⟨a,b,vs,ys,rfl,rfl,s1,s2,k _ h _ H (aM.refl H) ⟨I,cH⟩⟩
 · exact h.elim
def Nw (x y:T) (q:Rt→Prop):Prop:=match x with
 | .tup _=>Nv x y q
 | _=>QY x y q
def Rm (K:PySem.W.Frag):R2:=fun x y H Q=>Ei K false x y H Q∨∃ (p q:Addr) (xs:List V) (ys:List Str),x = .ref p∧y = .ref q∧dY K H p xs∧dY K H q (ys.map V.str)∧Q (.bl false) H
theorem Nx (hu:X.A.units+101 < cLine):ff X (compareOp .In) (Rm X.K):=by
 intro pins s σ H x y v u Q I rx ry h
 rcases h with h | h
 · exact yG pins s σ H x y v u Q I rx ry h
 · exact B0 hu pins s σ H x y v u Q I rx ry h
theorem IG {K:PySem.W.Frag}:pX K (Rm K) Nw:=by
 intro Z tm O ρ σ H x y v w q Q I h1 h2 h k
 unfold Nw at h
 split at h
 · exact Or.inr (IF Z tm O ρ σ H _ y v w q Q I h1 h2 h k)
 · exact Or.inl (yH Z tm O ρ σ H x y v w q Q I h1 h2 h k)
end
section
variable {X:Cx} {Z:Zc} {a b e:Expr} {fa fb:FE} {pos:Pos}
theorem ES (hu:X.A.units+101 < cLine) (ha:VR X Z a fa) (hb:VR X Z b fb) (hm:behindInMarks .In b=false:=by rfl):VP X Z (.Compare a [.In] [b] pos) (f2 fa fb Nw):=uG (Nx hu) IG ha hb hm
end
theorem kO:∀ (more acc:List (Key×V)),(acc.map (·.1) ++ more.map (·.1)).Nodup→iH acc more=acc ++ more
 | [],acc,_=>by simp [iH]
 | p :: more,acc,nd=>by
   have h1:p.1∉acc.map (·.1):=by
    rw [List.nodup_append] at nd
    intro z
    exact nd.2.2 p.1 z p.1 (by simp) rfl
   have e:L2.putK acc p.1 p.2=acc ++ [p]:=by
    unfold L2.putK
    rw [if_neg]
    intro z
    rw [List.any_eq_true] at z
    obtain ⟨kv,hk,hd⟩:=z
    exact h1 (Bp.mpr ⟨kv,hk,of_decide_eq_true hd⟩)
   show iH (L2.putK acc p.1 p.2) more=_
   rw [e,kO more (acc ++ [p]) (by simpa [List.append_assoc] using nd)]
   simp
abbrev Ny:=En→(List (Key×T)→Prop)→Prop
def lPs (X:Cx) (Z:Zc) (tm:List (T×V)) (f:Ny) (σ:St) (H:Hp) (Q:List (V×V)→Hp→Prop):Prop :=
 ∃ ρ O q,aA X.K Z tm O ρ σ H∧f ρ q∧∀ pG:List (Key×T),q pG→∀ vs H',aM H H'→aI X.K H' (av Z O) (pG.map (·.2)) vs→Q ((pG.map fun p=>kV p.1).zip vs) H'
def Ue (X:Cx) (Z:Zc) (pos:Pos) (n:Nat) (keys:List (Option Expr)) (values:List Expr) (f:Ny):Prop:=(keys.all (·.isSome)=true∧keys.length=n∧values.length=n)∧∀ tm,∃ AX,Rc X pos keys values AX∧∀ σ H Q,lPs X Z tm f σ H Q→u3 AX σ H Q
section
variable {X:Cx} {Z:Zc} {ek ev:Expr} {fk fv:FE} {pos:Pos} {keys:List (Option Expr)} {values:List Expr} {f:Ny}
def Rn:Ny:=fun _ Q=>Q []
def Nz (fk fv:FE) (f:Ny):Ny:=fun ρ Q=>fk ρ fun x=>fv ρ fun y=>match yY x with
 | some k=>f ρ fun pG=>Q ((k,y) :: pG)
 | none=>False
theorem A1:Ue X Z pos 0 [] [] Rn:=⟨⟨rfl,rfl,rfl⟩,fun tm=>⟨[],Iw,fun σ H Q ⟨ρ,O,q,I,hf,k⟩=>k [] hf [] H (aM.refl H) aI.nil⟩⟩
theorem bW {n:Nat} (hk:VR X Z ek fk) (hv:VE X Z ev fv) (h:Ue X Z pos n keys values f):Ue X Z pos (n+1) (some ek :: keys) (ev :: values) (Nz fk fv f):=by
 refine ⟨⟨by rw [Km,h.1.1]; rfl,by rw [GU,h.1.2.1],by rw [GU,h.1.2.2]⟩,fun tm=>?_⟩
 obtain ⟨AX,hp,hw⟩:=h.2 tm
 refine ⟨_,EG (hk tm) (hv tm) hp,fun σ H Q ⟨ρ,O,q,I,hf,k⟩=>⟨ρ,O,_,I,hf,fun x hx v H1 s1 a1=>⟨ρ,O,_,I.same s1,hx,fun y hy w H2 s2 a2=>?_⟩⟩⟩
 split at hy
 · rename_i kk ek
   refine hw σ H2 _ ⟨ρ,O,_,(I.same s1).same s2,hy,fun pG hk vs H3 s3 a3=>?_⟩
   have:=k _ hk (w :: vs) H3 ((s1.trans s2).trans s3) (aI.cons (a2.same s3) a3)
   rw [pF a1 ek]
   exact this
 · exact hy.elim
def fDN (f:Ny):FP:=fun ρ Q=>f ρ fun pG=>r_ (pG.map (·.2))=true∧pG.length≤15∧(pG.map (·.1)).Nodup∧Q (.fr (.dk (pG.map (·.1)) (pG.map (·.2))))
theorem NA (pG:List (Key×T)) (vs:List V) (hl:pG.length=vs.length):(pG.map fun p=>kV p.1).zip vs=((pG.map (·.1)).zip vs).map fun kv=>(kV kv.1,kv.2):=by
 induction pG generalizing vs with
 | nil=>simp
 | cons p pG ih=>cases vs with
   | nil=>simp at hl
   | cons v vs=>simp only [iZ,List.zip_cons_cons,iZ,ih vs (by simpa using hl)]
theorem K6 {n:Nat} (h:Ue X Z pos n keys values f) (hn:0 < n∧n≤15):VP X Z (.Dict keys values pos) (fDN f):=.mk fun tm=>by
 obtain ⟨AX,hp,hw⟩:=h.2 tm
 obtain ⟨jm,GI,WQ⟩:=h.1
 refine PE.weak (Iy hp jm (by omega) (by intro z; rw [z] at GI; simp at GI; omega) (by omega)) fun σ H Q ⟨ρ,O,q,I,hf,k⟩ p WR=>?_
 have s0:aM H (upd H p (.dK [])):=aS WR
 obtain ⟨a,ea,I0,R0,n3,n2⟩:=I.newD (ks:=[]) (ts:=[]) (vs:=[]) WR rfl aI.nil
 cases ea
 refine hw σ _ _ ⟨ρ,O,_,I.same s0,hf,fun pG ⟨hi,hn,nd,hq⟩ vs H2 s2 a2=>?_⟩
 have yP:H2 p=some (.dK []):=s2 _ _ aQ
 have hlen:pG.length=vs.length:=by have:=a2.length; rw [cV] at this; exact this.symm
 have hz:((pG.map (·.1)).zip vs).map (·.1)=pG.map (·.1):=List.map_fst_zip (by rw [cV]; omega)
 refine ⟨yP,(pG.map (·.1)).zip vs,NA pG vs hlen,by rw [List.length_zip,cV]; omega,?_⟩
 rw [kO _ [] (by simpa [hz] using nd),List.nil_append]
 refine k _ hq _ _ (fun b o hb=>?_) ⟨p,rfl,(I0.same s2).Ed yP rfl n3,⟨vs,by rw [cV]; exact hlen,aQ,?_⟩,n3,n2⟩
 · have k_:b≠p:=fun e=>by subst e; rw [WR] at hb; cases hb
   rw [aK k_]
   exact s2 _ _ (s0 _ _ hb)
 · exact aI.wrote (u:=.dK []) (k8 _ gq) yP rfl (a2.mW hi)
theorem IH:BB X "dict.update" (fun x xs H Q=>∃ (a b:Addr) (aV more:List (Key×V)),x = .ref a∧xs=[.ref b]∧H a=some (.dK aV)∧H b=some (.dK more)∧a≠b∧aV.length+more.length≤sizeLine∧Q .bb (upd H a (.dK (iH aV more)))):=by
 intro pins s σ H x xs v us Q I rx rs h
 obtain ⟨a,b,aV,more,rfl,rfl,ha,hb,k_,pS,q⟩:=h
 cases rx
 obtain ⟨u,rfl,ru⟩:=vals1 rs
 cases ru
 obtain ⟨z,hd,vs,rel,dd⟩:=AV I.bB ha
 obtain ⟨z2,hd2,vs2,Ro,Kw⟩:=AV I.bB hb
 refine call_meetsIn PySem.F.slot_dict_update dd.typeIs PySem.F.entry_dict_update (PySem.F.args_dict_update_2 _ _) (meets_dict_update (bq X.prog X.w) a b k_ hd2) ⟨vs,vs2,dd,Kw,by rw [← rel.length,← Ro.length]; exact pS,fun h' yX _ hs=>⟨.bb,_,?_,rfl,q⟩⟩
 have he:∃ q,h'.get? a=some q:=let ⟨q,_,_,hq,_⟩:=yX; ⟨q,hq⟩
 exact uZ (t':=s.toks) I (by rw [ha]; exact True.intro) hs he (yW (oq (gK _ _) pS) hd (Ro.merge rel) yX)
def Rp (k:Nat) (f:FP):FX:=fun ρ Q=>match ρ[k]? with
 | some (some (.dk ks ts,true))=>f ρ fun r=>match r with
   | .fr (.dk Pc WS)=>(ks ++ Pc).Nodup∧ts.length+WS.length≤sizeLine∧Q (ρ.set k (some (.dk (ks ++ Pc) (ts ++ WS),true))) (.vw .bb)
   | _=>False
 | _=>False
variable {e:Expr} {apos a9:Pos}
theorem II (k:Nat) {x:Str} {p:Pos} {g:FP} (he:VP X Z e g)
  (hN:X.N[k]?=some x:=by rfl) (hv:rQ X.env.scope x:=by first | exact Or.inl rfl | exact Or.inr (Or.inl rfl) | exact Or.inr (Or.inr rfl)) (hd:gk x:=by decide)
  (iy:vR x:=by decide) (eX:attributeBase (.Name x p) "update" X.env (eval (.Name x p) X.env)=eval (.Name x p) X.env:=by rfl)
  (ny:((backTo a9 (starEach [e] X.env)).all (fun x=>!x.1) && (backToKw a9 (keywordEach [] X.env)).all (fun x=>x.1.isSome)
    && decide (([e]:List Expr).length+([]:List Keyword).length+(if ([]:List Keyword).isEmpty then 0 else 1) < 30))=true:=by rfl)
  (eY:(apos.endLine == a9.line)=true:=by rfl) (hs:starEach [e] X.env=(false,eval e X.env) :: starEach [] X.env:=by rfl) (d7:(backTo a9 (starEach [] X.env)).any (·.1)=false:=by rfl) :
  VX X Z (.Call (.Attribute (.Name x p) "update" apos) [e] [] a9) (Rp k g):=.mk fun tm =>
 PE.weak (sZ Ti PySem.F.slot_dict_update PySem.F.type_dict_update IH (cD hN hv hd iy) (ba (he tm) cb hs) eX ny eY hs d7) fun σ H Q ⟨ρ,O,q,I,hf,kk⟩=>by
  unfold Rp at hf
  split at hf
  · rename_i ks ts e0
    obtain ⟨l,h1,h2,xs,hl,h3,h4⟩:=I.root e0
    have ha:l∈av Z O:=mX _ (aN.mpr (mV h1))
    refine ⟨.ref l,h2,.inr (.inr (.inl ⟨rfl,.inl ⟨_,h3⟩⟩)),ρ,O,_,I,hf,fun r hr v H1 s1 z=>?_⟩
    split at hr
    · rename_i Pc WS
      obtain ⟨nd,hz,hq⟩:=hr
      have J:=z.env
      obtain ⟨b,rfl,I2,⟨zs,YG,hb,aL⟩,_,hbx⟩:=z
      have aL':=aL.bh fF
      have hlb:l≠b:=fun e=>by
       subst e
       exact (I2.own l (aN.mpr (mV h1))).2.1 gq
      have e1:((ks.zip xs).map (·.1))=ks:=List.map_fst_zip (by omega)
      have e2:((Pc.zip zs).map (·.1))=Pc:=List.map_fst_zip (by omega)
      refine ⟨l,b,ks.zip xs,Pc.zip zs,rfl,rfl,s1 _ _ h3,hb,hlb,by rw [List.length_zip,List.length_zip,hl,YG,Nat.min_self,Nat.min_self,h4.length,aL.length]; exact hz,?_⟩
      rw [kO _ _ (by rw [e1,e2]; exact nd),← List.zip_append hl]
      refine kk _ _ hq O _ _ ⟨J.wrote e0 h1 ⟨xs ++ zs,by simp [hl,YG],aQ,?_⟩,nz⟩
      exact ((h4.same s1).append aL').wrote ha (s1 _ _ h3) rfl
    · exact hr.elim
  · exact hf.elim
end
section
variable {X:Cx} {Z:Zc} {a b o e i:Expr} {fa fb fe fo fi:FE} {pos apos a9:Pos}
end
def andM (r:Rt) (A B:Prop):Prop:=match r with
 | .vw (.bl true)=>A
 | .vw (.bl false)=>B
 | _=>False
theorem pH {c:Bool} {A B:Prop} (h1:c=true→A) (h2:c=false→B):andM (.vw (.bl c)) A B:=by
 cases c with
 | true=>exact h1 rfl
 | false=>exact h2 rfl
section
variable {X:Cx} {Z:Zc} {k n:Nat} {x:Str} {p pos:Pos} {e:Expr} {es:List Expr} {g:FA}
abbrev GV:=List T→(Rt→Prop)→Prop
def ET (i n:Nat) (g:FA) (Fn:Addr→GV→Prop):FP:=fun ρ Q=>match ρ[i]? with
 | some (some (.ob f,false))=>∃ G,Fn f G∧g ρ fun ts=>ts.length=n∧G ts Q
 | _=>False
theorem EU (i:Nat) {Fn:Addr→GV→Prop} (C:∀ f G,Fn f G→PySem.W.keepIn X.K (.ref f)=true∧∃ fd ps,Binds X.K fd ps []∧cF X.prog X.w X.K X.mg X.base ip k f fd ps (bZ X.K n G)) (hr:bj k X.A) (ha:VA X Z (e :: es) g)
  (hN:X.N[i]?=some x:=by rfl) (hv:rQ X.env.scope x:=by first | exact Or.inl rfl | exact Or.inr (Or.inl rfl) | exact Or.inr (Or.inr rfl)) (hd:gk x:=by decide)
  (iy:vR x:=by decide) (he:starEach (e :: es) X.env=(false,eval e X.env) :: starEach es X.env:=by rfl) (gj:(backTo pos (starEach es X.env)).any (·.1)=false:=by rfl) :
  VP X Z (.Call (.Name x p) (e :: es) [] pos) (ET i n g Fn):=.mk fun tm pins s σ H Q I ⟨ρ,O,q,E,hf,kk⟩=>by
 unfold ET at hf
 split at hf
 · rename_i f e0
   obtain ⟨G,hFn,hf⟩:=hf
   obtain ⟨o,sv,h1,h2,rfl,v,rfl,h3⟩:=E.sl i _ e0
   simp only [At] at h3
   subst h3
   obtain ⟨hk,fd,ps,hb,F⟩:=C f G hFn
   refine wpAny_Call_Name_kw (bT (cD hN hv hd iy pins s σ H (fun v H'=>v = .ref f∧H'=H) I ⟨_,h2,rfl,rfl⟩) fun u s1 ⟨v,H1,I1,r,ev,eH⟩=>?_)
   subst ev eH
   obtain rfl:u=Value.ref f:=r
   refine Px (h₀:=X.base) I1.ok.mod.LK hk (bT (ha tm pos pins s1 σ H1 (fun vs H2=>bZ X.K n G (vs ++ []) H2 Q E0) I1 ⟨ρ,O,_,E,hf,fun ts gG vs H2 s2 a2=>AN (E.same s2) a2 gG.1 gG.2 fun r hr v H' s z=>kk r hr v H' (s2.trans s) z⟩) fun us s2 ⟨vs,H2,I2,r2,q2⟩=>⟨I2.kq,?_⟩) he gj
   exact DG F hr hb .nil tf I2 r2 q2
 · exact hf.elim
end
end VT
namespace fJ
open PySem L2 VT Gen wm
abbrev dO:Stmt:=top 22
abbrev dP:Stmt:=top 23
abbrev eM:Stmt:=top 24
structure NB (w:World) (K:PySem.W.Frag) (mg:Str→Option Value):Prop where
 m2:Ud mg
 y9:∃ t,mg "MOST_PARTS" = some (.int 4 t)
 y_:∃ a,mg "RECKONINGS" = some (.ref a)∧∀ H,dY K H a [.str "plus",.str "minus",.str "times",.str "over",.str "rest",.str "less",.str "same"]
 isinstance:mg "isinstance" = none
 int:mg "int" = none
 bool:mg "bool" = none
 str:mg "str" = none
 len:mg "len" = none
 all:mg "all" = none
 tuple:mg "tuple" = none
 set:mg "set" = none
 zip:mg "zip" = none
def za:T→Bool
 | .str x=>MA x
 | _=>false
def xg (t:T):Bool:=za t || dG t
def NC:List T:=[.str "plus",.str "minus",.str "times",.str "over",.str "rest",.str "less",.str "same"]
def B1:T→Bool
 | .tup _=>false
 | t=>l6 t NC
def B2:T→Bool
 | .tup l=>decide (l.length≤4) && l.all dG
 | _=>false
def strsOf (l:List T):List Str:=l.filterMap fun t=>match t with
 | .str x=>some x
 | _=>none
def B3:T→Bool
 | .tup l=>(decide (l.length≤4) && l.all dG) && (l.all bR && decide ((once (strsOf l)).length=l.length))
 | _=>false
def jC (t:T):Prop:=(∃ x,t = .str x∧x.length≤100)∨∃ i,t = .int i
def Part (t:T):Prop:=jC t∨∃ l,t = .tup l∧l.length≤10∧∀ u∈l,jC u
theorem jC.flat {t:T} (h:jC t):me t=true:=by rcases h with ⟨x,rfl,_⟩ | ⟨i,rfl⟩ <;> rfl
theorem jC.short {t:T} (h:jC t):∀ x,t = .str x→x.length≤1000:=by
 rintro x rfl
 rcases h with ⟨y,e,hy⟩ | ⟨i,e⟩
 · cases e; omega
 · cases e
theorem Part.flat {t:T} (h:Part t):me t=true:=by rcases h with h | ⟨l,rfl,_⟩; exact h.flat; rfl
theorem Part.short {t:T} (h:Part t):∀ x,t = .str x→x.length≤1000:=by
 rcases h with h | ⟨l,rfl,_⟩
 · exact h.short
 · intro x e; cases e
def xi (p:T→Bool) (ts:List T) (q:Rt→Prop):Prop:=∃ t,ts=[t]∧Part t∧q (.vw (.bl (p t)))
abbrev ND:=xi za
abbrev EV:=xi xg
abbrev NF:=xi B1
abbrev IJ:=xi B2
abbrev NG:=xi B3
theorem nt {b:Bool} (h:(!b)=true):b=false:=by cases b <;> simp_all
theorem nf {b:Bool} (h:¬ (!b)=true):b=true:=by cases b <;> simp_all
theorem g7 (p:T→Bool):∀ l:List T,b9 (l.map fun t=>T.bl (p t))=some (l.map p)
 | []=>rfl
 | t :: l=>by
   rw [iZ,iZ]
   show (b9 _).map _=_
   rw [g7 p l]
   rfl
theorem dB {l:List T} (h:l.all bR=true):l=(strsOf l).map .str:=by
 induction l with
 | nil=>rfl
 | cons t l ih =>
   rw [Km,gT] at h
   cases t with
   | str x =>
     show T.str x :: l=T.str x :: (strsOf l).map T.str
     rw [← ih h.2]
   | _=>cases h.1
section
variable {P:Program} {w:World} {K:PySem.W.Frag} {mg:Str→Option Value} {base:Heap}
abbrev zb:List Str:=["thing"]
theorem oF:aH zb ["thing"] (aj kL):=L2.gE
theorem xj {f:Addr} {fd:FuncData} (D:Df K mg "is_field" kL ["thing"] f fd) (M:NB w K mg) (g8:b_ P w K mg base "is_name" ["thing"] 1 (bZ K 1 i0)):b_ P w K mg base "is_field" ["thing"] 2 (bZ K 1 ND):=by
 obtain ⟨nM,kN,eG,eI,eJ,eL⟩:=g8
 refine D.jA (ku D.F oF rfl fun bw A outer s H E Ox hr ts q hG=>?_)
 have nd:=oF.nd
 refine ⟨_,(ah (az (VP.vx (nC (cx jy (by rfl) M.isinstance (by rfl) M.str wN (aa 0)) (nC (BU (aa 0) (VP.vr ai)) (nB (aT eL (hr.mono (by decide)) (by rfl) eG eI eJ (ae (VP.ve (dc (aa 0) (eT (VP.vr ag)) eR)) ak)))))))),fun _=>?_⟩
 obtain ⟨t,rfl,ht,hq⟩:=hG
 rcases ht with (⟨x,rfl,hx⟩ | ⟨i,rfl⟩) | ⟨l,rfl,_⟩
 · refine ⟨rfl,?_⟩
   have cy:q (.vw (.bl (Txt.startswith x "." && dI (Txt.slice x (some 1) none)))):=hq
   refine pH (c:=Txt.startswith x ".") (fun h=>?_) (fun h=>?_)
   · rw [h,pf] at cy
     refine ⟨oZ (by omega),rfl,_,rfl,rfl,fun y e=>?_,cy⟩
     cases e
     exact oq (OY x _ _) (by omega)
   · rw [h,vS] at cy
     exact cy
 · exact ⟨rfl,hq⟩
 · exact ⟨rfl,hq⟩
abbrev EW:List Str:=["thing"]
theorem tX:aH EW ["thing"] (aj qz):=L2.gE
theorem B4 {f:Addr} {fd:FuncData} (D:Df K mg "is_key" qz ["thing"] f fd) (M:NB w K mg) (zc:b_ P w K mg base "is_field" ["thing"] 2 (bZ K 1 ND)) (ck:b_ P w K mg base "is_operand" ["thing"] 2 (bZ K 1 ER)):b_ P w K mg base "is_key" ["thing"] 3 (bZ K 1 EV):=by
 obtain ⟨NH,K7,zd,ze,zf,zg⟩:=zc
 obtain ⟨iL,gM,bH,bI,bJ,bK⟩:=ck
 refine D.jA (ku D.F tX rfl fun bw A outer s H E Ox hr ts q hG=>?_)
 have nd:=tX.nd
 refine ⟨_,(ah (az (VP.vx (KC (aT zg (hr.mono (by decide)) (by rfl) zd ze zf (ae (aw 0) ak)) (nB (aT bK (hr.mono (by decide)) (by rfl) bH bI bJ (ae (aw 0) ak))))))),fun _=>?_⟩
 obtain ⟨t,rfl,ht,hq⟩:=hG
 have cy:q (.vw (.bl (za t || dG t))):=hq
 refine ⟨rfl,t,rfl,ht,pH (c:=za t) (fun h=>?_) (fun h=>⟨rfl,t,rfl,ht.flat,ht.short,?_⟩)⟩
 · rw [h,Bool.true_or] at cy; exact cy
 · rw [h,Bool.false_or] at cy; exact cy
abbrev jD:List Str:=["thing"]
theorem i6:aH jD ["thing"] (aj dO):=L2.gE
theorem o4 {f:Addr} {fd:FuncData} (D:Df K mg "is_reckoning" dO ["thing"] f fd) (M:NB w K mg):b_ P w K mg base "is_reckoning" ["thing"] 1 (bZ K 1 NF):=by
 refine D.jA (ku D.F i6 rfl fun bw A outer s H E Ox hr ts q hG=>?_)
 have nd:=i6.nd
 have hu:=bj.fP hr
 obtain ⟨aR,mR,hR⟩:=M.y_
 have u9:∀ {pos},VP (dy ip P w K mg base jD "is_reckoning" (aj dO) f bw A outer s H E).ng ⟨H,[],Ox⟩ (.Name "RECKONINGS" pos) (fC (.tup NC)):=dv (by rfl) mR (v:=.ref aR) rfl fun H A=>bu (hR H) (aI.cons bF (aI.cons bF (aI.cons bF (aI.cons bF (aI.cons bF (aI.cons bF (aI.cons bF aI.nil)))))))
 refine ⟨_,(ah (az (VP.vx (ES hu (aa 0) (VP.vr u9))))),fun _=>?_⟩
 obtain ⟨t,rfl,ht,hq⟩:=hG
 rcases ht with (⟨x,rfl,hx⟩ | ⟨i,rfl⟩) | ⟨l,rfl,_⟩
 · exact ⟨rfl,rfl,hq⟩
 · exact ⟨rfl,rfl,hq⟩
 · exact ⟨["plus","minus","times","over","rest","less","same"],rfl,hq⟩
abbrev fU:List Str:=["thing"]
theorem i7:aH fU ["thing"] (aj dP):=L2.gE
theorem kP:(fU ++ (["part"]:List Str)).Nodup:=by decide +kernel
theorem o5 {f:Addr} {fd:FuncData} (D:Df K mg "are_operands" dP ["thing"] f fd) (M:NB w K mg) (ck:b_ P w K mg base "is_operand" ["thing"] 2 (bZ K 1 ER)):b_ P w K mg base "are_operands" ["thing"] 3 (bZ K 1 IJ):=by
 obtain ⟨iL,gM,bH,bI,bJ,bK⟩:=ck
 refine D.jA (ku D.F i7 rfl fun bw A outer s H E Ox hr ts q hG=>?_)
 have nd:=i7.nd
 have np:∀ {i:Nat},aZ ⟨H,[],Ox⟩ i:=j5
 obtain ⟨tP,mP⟩:=M.y9
 have u_:∀ {pos},VP (dy ip P w K mg base fU "are_operands" (aj dP) f bw A outer s H E).ng ⟨H,[],Ox⟩ (.Name "MOST_PARTS" pos) (fC (.int 4)):=dv (by rfl) mP (v:=.int 4) ⟨_,rfl⟩ fun _ _=>bx
 refine ⟨_,(af (aJ (VW.vc (dF (cf (bY (cx kJ (by rfl) M.isinstance (by rfl) M.tuple l9 (aa 0)))) (cK (i5 (VP.vr (aE aB aD (by rfl) M.len gC (aq (aa 0) ay))) (VP.vr u_)))))
    (ah (az (VP.vx fM)))
    au)
   (ah (az (VP.vx (aE (bO rfl) eE (by rfl) M.all qq (aq (VP.vr (eV (ts:=["part"]) rfl (by rfl) (iG (aw 0)) (fun _ _ _ _ _ _=>(aW (i:=1) kP rfl (Or.inl rfl) np)) (fun _ _ _ _ _ _=>gu) (fun _ _ _ _ _ _=>(VP.ve (aT bK (hr.mono (by decide)) (by rfl) bH bI bJ (ae (aw 1) ak)))))) ay)))))),fun _=>?_⟩
 obtain ⟨t,rfl,ht,hq⟩:=hG
 rcases ht with (⟨x,rfl,hx⟩ | ⟨i,rfl⟩) | ⟨l,rfl,hl,hL⟩
 · exact ⟨rfl,hq⟩
 · exact ⟨rfl,hq⟩
 · have cy:q (.vw (.bl (decide (l.length≤4) && l.all dG))):=hq
   refine ⟨rfl,?_⟩
   refine cj (fun h=>?_) (fun h=>?_)
   · have h':(4:Int) < (l.length:Int):=h
     rw [decide_eq_false (by omega),vS] at cy
     exact cy
   · have h':¬ (4:Int) < (l.length:Int):=h
     rw [decide_eq_true (by omega),pf] at cy
     refine ⟨rfl,oZ (by omega),fH (fun _=>true) (fun t=>T.bl (dG t)) (fun t ht k r h=>⟨rfl,t,rfl,(hL t ht).flat,(hL t ht).short,h⟩) ?_⟩
     rw [Pw.mpr (fun _ _=>rfl)]
     refine ⟨l.map dG,g7 dG l,?_⟩
     rw [LD]
     exact cy
abbrev g9:List Str:=["thing"]
theorem gy:aH g9 ["thing"] (aj eM):=L2.gE
theorem jE:(g9 ++ (["part"]:List Str)).Nodup:=by decide +kernel
theorem mh {f:Addr} {fd:FuncData} (D:Df K mg "are_parameters" eM ["thing"] f fd) (M:NB w K mg) (fW:b_ P w K mg base "are_operands" ["thing"] 3 (bZ K 1 IJ)) (g8:b_ P w K mg base "is_name" ["thing"] 1 (bZ K 1 i0)):b_ P w K mg base "are_parameters" ["thing"] 4 (bZ K 1 NG):=by
 obtain ⟨qC,o6,fY,fZ,f_,gb⟩:=fW
 obtain ⟨nM,kN,eG,eI,eJ,eL⟩:=g8
 refine D.jA (ku D.F gy rfl fun bw A outer s H E Ox hr ts q hG=>?_)
 have nd:=gy.nd
 have hu:=bj.fP hr
 have np:∀ {i:Nat},aZ ⟨H,[],Ox⟩ i:=j5
 refine ⟨_,(af (aJ (VW.vc (dF (cf (bY (aT gb (hr.mono (by decide)) (by rfl) fY fZ f_ (ae (aw 0) ak)))) (cK (cf (bY (aE (bO rfl) eE (by rfl) M.all qq (aq (VP.vr (eV (ts:=["part"]) rfl (by rfl) (iG (aw 0)) (fun _ _ _ _ _ _=>(aW (i:=1) jE rfl (Or.inl rfl) np)) (fun _ _ _ _ _ _=>gu) (fun _ _ _ _ _ _=>(VP.ve (aT eL (hr.mono (by decide)) (by rfl) eG eI eJ (ae (aw 1) ak)))))) ay)))))))
    (ah (az (VP.vx fM)))
    au)
   (ah (az (VP.vx (ow hu (VP.vr (tO rfl (by rfl) M.len (by rfl) M.set (aa 0))) (VP.vr (aE aB aD (by rfl) M.len gC (aq (aa 0) ay)))))))),fun _=>?_⟩
 obtain ⟨t,rfl,ht,hq⟩:=hG
 refine ⟨rfl,t,rfl,ht,?_⟩
 rcases ht with (⟨x,rfl,hx⟩ | ⟨i,rfl⟩) | ⟨l,rfl,hl,hL⟩
 · exact hq
 · exact hq
 · have cy:q (.vw (.bl ((decide (l.length≤4) && l.all dG) && (l.all bR && decide ((once (strsOf l)).length=l.length))))):=hq
   refine kj (fun h=>?_) (fun h=>?_)
   · have h':(!(decide (l.length≤4) && l.all dG))=true:=h
     have h2:(decide (l.length≤4) && l.all dG)=false:=nt h'
     rw [h2,vS] at cy
     exact cy
   · have h':¬ (!(decide (l.length≤4) && l.all dG))=true:=h
     have h2:(decide (l.length≤4) && l.all dG)=true:=nf h'
     rw [h2,pf] at cy
     refine ⟨rfl,oZ (by omega),fH (fun _=>true) (fun t=>T.bl (bR t)) (fun t ht k r h=>⟨rfl,t,rfl,(hL t ht).flat,(hL t ht).short,h⟩) ?_⟩
     rw [Pw.mpr (fun _ _=>rfl)]
     refine ⟨l.map bR,g7 bR l,?_⟩
     rw [LD]
     refine kj (fun h3=>?_) (fun h3=>?_)
     · have Rq:(!(l.all bR))=true:=h3
       have h4:l.all bR=false:=nt Rq
       rw [h4,vS] at cy
       exact cy
     · have Rq:¬ (!(l.all bR))=true:=h3
       have h4:l.all bR=true:=nf Rq
       rw [h4,pf] at cy
       refine ⟨strsOf l,.inr (by rw [← dB h4]),?_,?_⟩
       · have:=congrArg List.length (dB h4)
         rw [cV] at this
         omega
       · have e:decide (((once (strsOf l)).length:Int)=(l.length:Int))=decide ((once (strsOf l)).length=l.length):=decide_eq_decide.mpr (by omega)
         show q (.vw (.bl (decide (((once (strsOf l)).length:Int)=(l.length:Int)))))
         rw [e]
         exact cy
end
abbrev qD:Stmt:=top 26
inductive So where
 | nm | op | key | rk | par | ops
def fnName:So→Str
 | .nm=>"is_name"
 | .op=>"is_operand"
 | .key=>"is_key"
 | .rk=>"is_reckoning"
 | .par=>"are_parameters"
 | .ops=>"are_operands"
def mi:So→T→Bool
 | .nm=>bR
 | .op=>dG
 | .key=>xg
 | .rk=>B1
 | .par=>B3
 | .ops=>B2
def WU:So→List T→(Rt→Prop)→Prop
 | .nm=>i0
 | .op=>ER
 | .key=>EV
 | .rk=>NF
 | .par=>NG
 | .ops=>IJ
theorem EY {s:So} {t:T} {q:Rt→Prop} (h:Part t) (hq:q (.vw (.bl (mi s t)))):WU s [t] q:=by
 cases s with
 | nm=>exact ⟨t,rfl,h.flat,h.short,hq⟩
 | op=>exact ⟨t,rfl,h.flat,h.short,hq⟩
 | _=>exact ⟨t,rfl,h,hq⟩
def gc:List (Str×List So):=[("def",[.nm,.par]),("give",[.op]),("put",[.nm,.op]),("do",[.nm,.op,.rk,.op]),("new",[.nm]),("get",[.nm,.nm,.key]),("set",[.nm,.key,.op]),("call",[.nm,.nm,.ops]),("fail",[.nm]),("if",[.op]),("else",[]),("while",[.op]),("end",[]),("skip",[])]
def bP:List (Str×List So)→Str→Option (List So)
 | [],_=>none
 | (k,ss) :: l,x=>if k=x then some ss else bP l x
def cW (x:Str) (ps:List T):Bool:=match bP gc x with
 | none=>false
 | some ss=>decide (ps.length=ss.length) && (List.zipWith mi ss ps).all id
theorem tY (fo:So→Addr) (x:Str):∀ l:List (Str×List So),IA (l.map fun p=>(p.1,T.tup (p.2.map fun s=>T.ob (fo s)))) x=(bP l x).map fun ss=>T.tup (ss.map fun s=>T.ob (fo s))
 | []=>rfl
 | (k,ss) :: l=>by
   have ih:=tY fo x l
   unfold IA at ih ⊢
   simp only [iZ,fB,bP]
   by_cases h:k=x
   · rw [if_pos h,if_pos (by rw [h])]; rfl
   · rw [if_neg h,if_neg (fun z=>h (Sum.inr.inj z))]; exact ih
theorem nN:∀ x ss,bP gc x=some ss→ss.length≤4:=by
 intro x ss
 have:∀ l:List (Str×List So),(∀ p∈l,p.2.length≤4)→bP l x=some ss→ss.length≤4:=by
  intro l
  induction l with
  | nil=>intro _ h; cases h
  | cons p l ih =>
    intro hl h
    obtain ⟨k,s0⟩:=p
    simp only [bP] at h
    split at h
    · cases h; exact hl _ gq
    · exact ih (fun p hp=>hl p (i_ _ hp)) h
 exact this gc (by simp [gc])
theorem j8 {α:Type} {h:FG} {fe:FE} {ρ:En} {fA:α→T} {b:α→T→Bool}:∀ {ss:List α} {ps:List T} {Q:List T→Prop},(∀ s∈ss,∀ p∈ps,∀ r:T→Prop,r (.bl (b s p))→h (.tup [fA s,p]) ρ fun ρ2=>fe ρ2 r)→Q ((List.zipWith b ss ps).map .bl)→cL h Ee fe ρ (nJ (ss.map fA) ps) Q
 | [],ps,Q,_,hq=>by simpa [nJ,cL] using hq
 | s :: ss,[],Q,_,hq=>by simpa [nJ,cL] using hq
 | s :: ss,p :: ps,Q,step,hq=>by
   show cL h Ee fe ρ (T.tup [fA s,p] :: nJ (ss.map fA) ps) Q
   simp only [cL]
   refine step s gq p gq _ ?_
   exact j8 (fun s hs p hp=>step s (i_ _ hs) p (i_ _ hp)) hq
theorem mj:∀ l:List Bool,b9 (l.map T.bl)=some l
 | []=>rfl
 | b :: l=>by
   rw [iZ]
   show (b9 _).map _=_
   rw [mj l]
   rfl
structure K8 (w:World) (K:PySem.W.Frag) (mg:Str→Option Value):Prop extends NB w K mg where
 Rr:∃ (a:Addr) (fo:So→Addr),mg "FORMS" = some (.ref a)∧(∀ s,mg (fnName s)=some (.ref (fo s)))∧AZ w K a (gc.map fun p=>(p.1,T.tup (p.2.map fun s=>T.ob (fo s))))
def va (ts:List T) (q:Rt→Prop):Prop:=∃ (x:Str) (ps:List T),ts=[.tup (.str x :: ps)]∧ps.length≤10∧(∀ p∈ps,Part p)∧q (.vw (.bl (cW x ps)))
theorem NI (t:T) (ps:List T):iE (t :: ps) (some 1) none=ps:=by
 unfold iE
 have e:HT.dA (t :: ps).length 0 (some 1)=1:=by
  have:=HT.pq (t :: ps).length 0 1
  rw [show ((1:Nat):Int)=1 from rfl] at this
  rw [this]
  simp
 rw [e,HT.v8]
 simp
section
variable {P:Program} {w:World} {K:PySem.W.Frag} {mg:Str→Option Value} {base:Heap}
abbrev xl:List Str:=["row","form"]
theorem tZ:aH xl ["row"] (aj qD):=L2.gE
theorem ml:(xl ++ (["fits","part"]:List Str)).Nodup:=by decide +kernel
theorem B5 {f:Addr} {fd:FuncData} (D:Df K mg "is_row" qD ["row"] f fd) (M:K8 w K mg) (g8:b_ P w K mg base "is_name" ["thing"] 1 (bZ K 1 i0)) (ck:b_ P w K mg base "is_operand" ["thing"] 2 (bZ K 1 ER)) (EZ:b_ P w K mg base "is_key" ["thing"] 3 (bZ K 1 EV)) (qF:b_ P w K mg base "is_reckoning" ["thing"] 1 (bZ K 1 NF)) (nO:b_ P w K mg base "are_parameters" ["thing"] 4 (bZ K 1 NG)) (fW:b_ P w K mg base "are_operands" ["thing"] 3 (bZ K 1 IJ)):b_ P w K mg base "is_row" ["row"] 5 (bZ K 1 va):=by
 obtain ⟨nM,kN,eG,eI,eJ,eL⟩:=g8
 obtain ⟨iL,gM,bH,bI,bJ,bK⟩:=ck
 obtain ⟨Ru,Pd,E2,E3,E4,E5⟩:=EZ
 obtain ⟨E6,Di,qG,qH,qI,qJ⟩:=qF
 obtain ⟨B6,A2,nP,nQ,nR,nS⟩:=nO
 obtain ⟨qC,o6,fY,fZ,f_,gb⟩:=fW
 refine D.jA (ku D.F tZ rfl fun bw A outer s H E Ox hr ts q hG=>?_)
 have nd:=tZ.nd
 have hu:=bj.fP hr
 have np:∀ {i:Nat},aZ ⟨H,[],Ox⟩ i:=j5
 obtain ⟨aF,fo,IK,Mw,E7⟩:=M.Rr
 have zh:∀ f' G,(∃ s:So,f'=fo s∧G=WU s)→PySem.W.keepIn K (.ref f')=true∧∃ fd ps,Binds K fd ps []∧cF P w K mg base ip 4 f' fd ps (bZ K 1 G):=by
  rintro f' G ⟨s,rfl,rfl⟩
  have h:=Mw s
  cases s with
  | nm=>cases eG.symm.trans h; exact ⟨eI,_,_,eJ,eL.mono (by decide)⟩
  | op=>cases bH.symm.trans h; exact ⟨bI,_,_,bJ,bK.mono (by decide)⟩
  | key=>cases E2.symm.trans h; exact ⟨E3,_,_,E4,E5.mono (by decide)⟩
  | rk=>cases qG.symm.trans h; exact ⟨qH,_,_,qI,qJ.mono (by decide)⟩
  | par=>cases nP.symm.trans h; exact ⟨nQ,_,_,nR,nS.mono (by decide)⟩
  | ops=>cases fY.symm.trans h; exact ⟨fZ,_,_,f_,gb.mono (by decide)⟩
 refine ⟨_,(af (aJ (VW.vc (dF (cf (bY (cx kJ (by rfl) M.isinstance (by rfl) M.tuple l9 (aa 0)))) (dF (bc hu (VP.vr (aE aB aD (by rfl) M.len gC (aq (aa 0) ay))) (VP.vr ag)) (cK (cf (bY (cx jy (by rfl) M.isinstance (by rfl) M.str wN (VP.vr (aG (aa 0) (VP.vr ag))))))))))
    (ah (az (VP.vx fM)))
    au)
   (af (a_ (i:=1) nd rfl (Or.inl rfl) (VP.vx (EK (by rfl) IK E7 (VP.vr (aG (aa 0) (VP.vr ag))) ⟨rfl,rfl,rfl,rfl⟩)) np)
   (af (aJ (VW.vc (dF (qm (aa 1) (VP.vr cJ)) (cK (gZ hu (VP.vr (aE aB aD (by rfl) M.len gC (aq (aa 0) ay))) (VP.vr (dJ (VP.vr (aE aB aD (by rfl) M.len gC (aq (aa 1) ay))) (VP.vr ag)))))))
     (ah (az (VP.vx fM)))
     au)
   (ah (az (VP.vx (aE (bO rfl) eE (by rfl) M.all qq (aq (VP.vr (eV (ts:=["fits","part"]) rfl (by rfl) (Ez (by rfl) M.zip (aw 1) (VP.ve (dc (aa 0) (eT (VP.vr ag)) eR))) (fun _ _ _ _ _ _=>(gJ (n:=2) rfl (bo (aW (i:=2) ml rfl (Or.inl rfl) np) (bo (aW (i:=3) ml rfl (Or.inl rfl) np) eU)))) (fun _ _ _ _ _ _=>gu) (fun _ _ _ _ _ _=>(VP.ve (EU 2 zh (hr.mono (by decide)) (ae (aw 3) ak)))))) ay)))))))),fun _=>?_⟩
 obtain ⟨x,ps,rfl,hl,hP,hq⟩:=hG
 have Rv:=tY fo x gc
 refine ⟨rfl,_,ax (j:=0) rfl,rfl,_,ax (j:=0) rfl,?_⟩
 show onStr (T.str x) _
 unfold onStr
 dsimp only
 rw [Rv]
 cases hf:bP gc x with
 | none =>
   have hg:cW x ps=false:=by unfold cW; rw [hf]
   rw [hg] at hq
   exact hq
 | some ss =>
   have hg:cW x ps=(decide (ps.length=ss.length) && (List.zipWith mi ss ps).all id):=by unfold cW; rw [hf]
   rw [hg] at hq
   have hss:=nN x ss hf
   have el:(((T.str x :: ps).length:Nat):Int)=(ps.length:Int)+1:=by rw [GU]; omega
   have Rx:(((ss.map fun s=>T.ob (fo s)).length:Nat):Int)=(ss.length:Int):=by rw [cV]
   refine kj (fun h=>?_) (fun h=>?_)
   · have h':(!decide (((T.str x :: ps).length:Int)=((ss.map fun s=>T.ob (fo s)).length:Int)+1))=true:=h
     have h2:=of_decide_eq_false (nt h')
     rw [el,Rx] at h2
     rw [decide_eq_false (by omega),vS] at hq
     exact hq
   · have h':¬ (!decide (((T.str x :: ps).length:Int)=((ss.map fun s=>T.ob (fo s)).length:Int)+1))=true:=h
     have h2:=of_decide_eq_true (nf h')
     rw [el,Rx] at h2
     rw [decide_eq_true (by omega),pf] at hq
     have sD:¬ (HT.dA (T.str x :: ps).length 0 (some 1)=0∧HT.dA (T.str x :: ps).length (T.str x :: ps).length none=(T.str x :: ps).length):=by
      rintro ⟨z,_⟩
      have:=HT.pq (T.str x :: ps).length 0 1
      rw [show ((1:Nat):Int)=1 from rfl,z] at this
      simp at this
     refine ⟨rfl,sD,?_⟩
     rw [NI]
     refine ⟨?_,j8 (b:=mi) (fun s _ p hp r hr=>?_) ⟨_,mj _,hq⟩⟩
     · show (nJ (ss.map fun s=>T.ob (fo s)) ps).length≤sizeLine
       unfold nJ
       rw [List.length_zipWith]
       exact oZ (by omega)
     · exact ⟨rfl,rfl,WU s,⟨s,rfl,rfl⟩,rfl,EY (q:=fun x=>r x.t) (hP p hp) hr⟩
end
end fJ
namespace Gen
open PySem L2 VT
open wm (bf wo dI)
theorem A3 (n:Int):wo (kK n)=true:=by
 have h0:0≤n % 26:=LC n (by decide)
 have h1:n % 26 < 26:=Py n (by decide)
 have h:∀ j < 26,wo (bf.cps.toList.getD j 0)=true:=by decide +kernel
 exact h _ (by omega)
theorem qK {c:Int} {k n:Nat} (h1:1≤n) (h8:n≤8):dI (cm c k n)=true:=by
 unfold dI
 rw [j6,decide_eq_true (by omega),decide_eq_true (by omega),pf,pf]
 show ((List.range n).map fun j=>kK (BY c k j)).all wo=true
 rw [LD]
 exact C6.mpr fun j _=>A3 _
theorem E8 {x:Str} {n:Int} (h:dI x=true) (hl:x.length≤7):dI (x ++ ⟨#[kK n]⟩)=true:=by
 have hx:=wm.lQ h
 have el:(x ++ (⟨#[kK n]⟩:Str)).length=x.length+1:=by
  show (x.cps ++ #[kK n]).size=_
  simp [Str.length]
 unfold dI
 rw [el,decide_eq_true (by omega),decide_eq_true (by omega),pf,pf]
 show (x.cps ++ #[kK n]).toList.all wo=true
 simp only [Array.toList_append,List.all_append,hx,pf]
 simp [A3]
theorem A4 (x:Str) (n:Int):(x ++ (⟨#[kK n]⟩:Str)).length=x.length+1:=by
 show (x.cps ++ #[kK n]).size=_
 simp [Str.length]
theorem B7 {c:Int} {m:Nat} {y:Str} (h:y∈eF c m):(∃ k < m,y=cm c k (nK c))∨y=cm c 0 (nK c) ++ ⟨#[kK (u5 c / 147)]⟩:=by
 have hz:∀ {y},y∈((List.range m).map fun k=>cm c k (nK c))→∃ k < m,y=cm c k (nK c):=fun h=>by
  obtain ⟨k,hk,rfl⟩:=Bp.mp h
  exact ⟨k,Dp.mp hk,rfl⟩
 unfold eF at h
 split at h
 · rcases Po h with h | h
   · exact .inl (hz h)
   · exact .inr h
 · exact .inl (hz h)
theorem zi {c:Int} {m:Nat}:∀ y∈eF c m,dI y=true:=by
 intro y hy
 have hs:=y0 c
 rcases B7 hy with ⟨k,_,rfl⟩ | rfl
 · exact qK (by omega) (by omega)
 · exact E8 (qK (by omega) (by omega)) (by rw [j6]; omega)
end Gen
deriving instance DecidableEq for fJ.So
namespace fJ
open PySem L2 VT Gen wm
theorem E9 {x:Str} (h:dI x=true):x.length≤8:=by
 unfold dI at h
 simp only [gT,decide_eq_true_eq] at h
 omega
section
variable {ys:List Str}
def xm (t:T):Prop:=∃ (x:Str) (ps:List T),t = .tup (.str x :: ps)∧ps.length≤4∧(∀ p∈ps,Part p)∧cW x ps=true
end
end fJ
namespace Gen
open PySem L2 VT
def wd:Rw→Str
 | .df _ _=>"def"
 | .give _=>"give"
 | .put _ _=>"put"
 | .Uc _ _ _ _=>"do"
 | .new _=>"new"
 | .get _ _ _=>"get"
 | .set _ _ _=>"set"
 | .call _ _ _=>"call"
 | .fail _=>"fail"
 | .O_ _=>"if"
 | .Pa=>"else"
 | .Pb _=>"while"
 | .fin=>"end"
 | .skip=>"skip"
def fD (st:List Str) (x:Str):Bool:=match st.getLast? with
 | none=>l6 (.str x) [.str "def",.str "skip"]
 | some l=>if x="give" then decide (l="def") else if x="else" then decide (l="if") else if x="end" then !decide (l="def") else !decide (x="def")
def iM (st:List Str) (x:Str):List Str :=
 if x="def"∨x="if"∨x="while" then st ++ [x] else if x="give"∨x="end" then st.dropLast else if x="else" then st.dropLast ++ [("else" : Str)] else st
theorem iN (x:Str):∀ l:List Str,l6 (.str x) (l.map .str)=decide (x∈l)
 | []=>by simp [l6]
 | y :: l=>by
   rw [iZ]
   show (eqT (.str y) (.str x) || l6 (.str x) (l.map .str))=_
   rw [iN x l]
   show (decide (y=x) || decide (x∈l))=_
   rw [GX]
   simp only [Bool.or_eq_true,decide_eq_true_eq,fg]
   constructor
   · rintro (h | h)
     · exact .inl h.symm
     · exact .inr h
   · rintro (h | h)
     · exact .inl h.symm
     · exact .inr h
theorem vb (r:Rw):∃ l,aU r = .tup (.str (wd r) :: l):=by cases r <;> exact ⟨_,rfl⟩
theorem eO {α:Type} {f:α→T} {xs:List α} {h:FG} {g:FS} {d:KP} {ρ:En} (Pv:Nat→En→Prop) (h0:Pv 0 ρ) (hs:∀ (i:Nat) x ρ',xs[i]?=some x→Pv i ρ'→h (.tup [.int (i:Int),f x]) ρ' fun ρ2=>g { nx:=Pv (i+1),ct:=Pv (i+1),bk:=d.nx,rt:=d.rt } ρ2)
 (hd:∀ ρ',Pv xs.length ρ'→d.nx ρ'):tE (jz (xs.map f)) h g d ρ:=⟨Pv,h0,fun i t ρ' e p=>by
   unfold jz at e
   rw [List.getElem?_mapIdx,lj] at e
   cases q:xs[i]? with
   | none=>rw [q] at e; cases e
   | some x=>rw [q] at e; cases e; exact hs i x ρ' q p,fun ρ' p=>hd ρ' (by unfold jz at p; rw [List.length_mapIdx,cV] at p; exact p)⟩
def IL (o:Option (List Str)) (r:Rw):Option (List Str):=o.bind fun st=>if fD st (wd r)=true then some (iM st (wd r)) else none
def B8 (o:Option (List Str)) (rs:List Rw):Option (List Str):=rs.foldl IL o
theorem A5 (o:Option (List Str)) (a b:List Rw):B8 o (a ++ b)=B8 (B8 o a) b:=List.foldl_append
theorem xn (rs:List Rw):B8 none rs=none:=by
 induction rs with
 | nil=>rfl
 | cons r rs ih=>exact ih
theorem B9 {st:List Str} {r:Rw} (h:fD st (wd r)=true):IL (some st) r=some (iM st (wd r)):=by
 show (if fD st (wd r)=true then _ else _)=_
 rw [if_pos h]
theorem IM {st:List Str} {r:Rw} (h:fD st (wd r)=true):B8 (some st) [r]=some (iM st (wd r)):=B9 h
theorem E_ {rs:List Rw} {st:List Str} (h:B8 (some []) rs=some st) (i:Nat) {r:Rw} (hr:rs[i]?=some r) :
  ∃ s,B8 (some []) (rs.take i)=some s∧fD s (wd r)=true∧B8 (some []) (rs.take (i+1))=some (iM s (wd r)):=by
 have hi:=(e_.mp hr).1
 have e:rs=rs.take i ++ (r :: rs.drop (i+1)):=by
  have hg:=(e_.mp hr).2
  rw [← hg,List.getElem_cons_drop,List.take_append_drop]
 have e2:rs.take (i+1)=rs.take i ++ [r]:=by
  have hg:=(e_.mp hr).2
  rw [← hg,List.take_append_getElem]
 rw [e,A5] at h
 cases hs:B8 (some []) (rs.take i) with
 | none =>
   rw [hs,xn] at h
   cases h
 | some s =>
   rw [hs] at h
   have h':B8 (IL (some s) r) (rs.drop (i+1))=some st:=h
   cases hm:fD s (wd r) with
   | false =>
     have:IL (some s) r=none:=by show (if fD s (wd r)=true then _ else _)=_; rw [hm]; rfl
     rw [this,xn] at h'
     cases h'
   | true=>exact ⟨s,rfl,hm,by rw [e2,A5,hs]; exact IM hm⟩
def Hd (x:Str):Prop:=x="if"∨x="while"∨x="else"
theorem Hd.ne {x:Str} (h:Hd x):x≠"def":=by rcases h with rfl | rfl | rfl <;> decide +kernel
theorem NJ (st:List Str):iM st "if" = st ++ [("if" : Str)]:=by unfold iM; rw [if_pos (.inr (.inl rfl))]
theorem B_ (st:List Str):iM st "while" = st ++ [("while" : Str)]:=by unfold iM; rw [if_pos (.inr (.inr rfl))]
theorem IP (st:List Str):iM st "end" = st.dropLast:=by unfold iM; rw [if_neg (by decide +kernel),if_pos (by decide +kernel)]
theorem Fb (st:List Str):iM st "give" = st.dropLast:=by unfold iM; rw [if_neg (by decide +kernel),if_pos (by decide +kernel)]
theorem Fc (st:List Str):iM st "else" = st.dropLast ++ [("else" : Str)]:=by unfold iM; rw [if_neg (by decide +kernel),if_neg (by decide +kernel),if_pos rfl]
theorem A6 {st:List Str} (h:st≠[]):∃ s l,st=s ++ [l]:=⟨st.dropLast,st.getLast h,(List.dropLast_concat_getLast h).symm⟩
def nU:List (Str×Nat)→Str→Option Nat
 | [],_=>none
 | (k,i) :: l,f=>if k=f then some i else nU l f
theorem pI (l m:List (Str×Nat)) (f:Str):nU (l ++ m) f=match nU l f with
  | some i=>some i
  | none=>nU m f:=by
 induction l with
 | nil=>rfl
 | cons p l ih =>
   obtain ⟨k,i⟩:=p
   simp only [Tv,nU]
   by_cases h:k=f
   · rw [if_pos h,if_pos h]
   · rw [if_neg h,if_neg h]; exact ih
def K9 (l:List (Str×Nat)) (i:Nat):Rw→List (Str×Nat)
 | .df f _=>match nU l f with
   | some _=>l
   | none=>l ++ [(f,i)]
 | _=>l
def a8 (rs:List Rw):Nat→List (Str×Nat)
 | 0=>[]
 | n+1=>match rs[n]? with
   | some r=>K9 (a8 rs n) n r
   | none=>a8 rs n
theorem g_ {rs:List Rw} {f:Str} {j:Nat}:∀ n,nU (a8 rs n) f=some j→j < n∧∃ ps,rs[j]?=some (.df f ps)
 | 0,h=>nomatch h
 | n+1,h=>by
   have old:nU (a8 rs n) f=some j→j < n+1∧∃ ps,rs[j]?=some (.df f ps):=fun h=>by
    have:=g_ n h
    exact ⟨by omega,this.2⟩
   simp only [a8] at h
   split at h
   · rename_i r hr
     cases r with
     | df g ps =>
       simp only [K9] at h
       split at h
       · exact old h
       · rename_i hn
         rw [pI] at h
         split at h
         · rename_i i hi
           cases h
           exact old hi
         · simp only [nU] at h
           split at h
           · rename_i e
             cases h
             subst e
             exact ⟨by omega,ps,hr⟩
           · cases h
     | _=>exact old h
   · exact old h
theorem fK {rs:List Rw} {f:Str} {i:Nat} {ps:List Str} (hi:rs[i]?=some (.df f ps)):∀ n,i < n→∃ j,nU (a8 rs n) f=some j
 | 0,h=>absurd h (by omega)
 | n+1,h=>by
   simp only [a8]
   by_cases e:i=n
   · subst e
     rw [hi]
     simp only [K9]
     cases ha:nU (a8 rs i) f with
     | some j=>exact ⟨j,ha⟩
     | none =>
       refine ⟨i,?_⟩
       simp only
       rw [pI,ha]
       simp only [nU,if_true]
   · obtain ⟨j,hj⟩:=fK hi n (by omega)
     split
     · rename_i r hr
       cases r with
       | df g qs =>
         simp only [K9]
         split
         · exact ⟨j,hj⟩
         · rw [pI,hj]; exact ⟨j,rfl⟩
       | _=>exact ⟨j,hj⟩
     · exact ⟨j,hj⟩
structure vd (rs:List Rw):Prop where
 un:∀ (i i':Nat) (f:Str) (ps Ry:List Str),rs[i]?=some (Rw.df f ps)→rs[i']?=some (Rw.df f Ry)→i=i'
 ca:∀ (i:Nat) (x f:Str) (as:List tU),rs[i]?=some (Rw.call x f as)→∃ (j:Nat) (ps:List Str),i < j∧rs[j]?=some (Rw.df f ps)∧ps.length=as.length
theorem vd.first {rs:List Rw} (h:vd rs) {i:Nat} {f:Str} {ps:List Str} (hi:rs[i]?=some (.df f ps)):nU (a8 rs rs.length) f=some i:=by
 obtain ⟨j,hj⟩:=fK hi rs.length (e_.mp hi).1
 obtain ⟨_,qs,hq⟩:=g_ _ hj
 rw [hj,h.un j i f qs ps hq hi]
end Gen
namespace VT
open PySem PySem.Spec PyProof.Rows L2
section
variable {X:Cx}
end
section
variable {X:Cx} {Z:Zc} {a b:Expr} {fa fb:FE} {pos:Pos}
end
section
variable {X:Cx} {Z:Zc}
def WV:FS:=fun _ _=>False
theorem kQ {st:Stmt}:VS X Z st WV:=.mk fun tm pins s σ H D I ⟨_,_,_,_,h,_⟩=>h.elim
theorem IQ:BB X "dict.setdefault" (fun x xs H Q=>∃ (a:Addr) (aV:List (Key×V)) (k:Key) (v:V),x = .ref a∧xs=[kV k,v]∧H a=some (.dK aV)∧aV.length < sizeLine ∧
  (∀ u,jc aV k=some u→Q u H)∧(jc aV k=none→Q v (upd H a (.dK (L2.putK aV k v))))):=by
 intro pins s σ H x xs v us Q I rx rs h
 obtain ⟨a,aV,k,y,rfl,rfl,ha,pS,q1,q2⟩:=h
 cases rx
 obtain ⟨u1,u2,rfl,ru1,YH⟩:∃ u1 u2,us=[u1,u2]∧RelV (kV k) u1∧RelV y u2:=by
  cases rs with
  | cons r1 t=>cases t with
    | cons r2 t2=>cases t2; exact ⟨_,_,rfl,r1,r2⟩
 obtain ⟨z,hd,vs,rel,dd⟩:=AV I.bB ha
 refine call_meetsIn PySem.F.slot_dict_setdefault dd.typeIs PySem.F.entry_dict_setdefault (PySem.F.args_dict_setdefault_3 _ _ _) (kt_meets_setdefault (bq X.prog X.w) a (tQ ru1) hd u2) ⟨vs,dd,by rw [← rel.length]; omega,fun v0 hv=>?_,fun hn h' yX hs=>?_⟩
 · have yQ:=rel.val k
   rw [hv] at yQ
   cases e:jc aV k with
   | none=>rw [e] at yQ; cases yQ
   | some w0 =>
     rw [e] at yQ
     have hr:RelV w0 v0:=yQ
     exact ⟨w0,H,I.tok _,hr,q1 w0 e⟩
 · have yQ:=rel.val k
   rw [hn] at yQ
   cases e:jc aV k with
   | some w0=>rw [e] at yQ; cases yQ
   | none =>
     have he:∃ q,h'.get? a=some q:=let ⟨q,_,_,hq,_⟩:=yX; ⟨q,hq⟩
     have hl:(L2.putK aV k y).length≤sizeLine:=by have:=oB aV k y; omega
     exact ⟨y,_,uZ (t':=s.toks+1) I (by rw [ha]; exact True.intro) hs he (yW hl hd (rel.put k YH) yX),YH,q2 e⟩
end
section
variable {X:Cx} {Z:Zc} {e1 e2:Expr} {f1 f2:FE} {apos a9:Pos}
def K_ (n:Nat) (f1 f2:FE):FX:=fun ρ Q=>match ρ[n]? with
 | some (some (.dk ks ts,true))=>f1 ρ fun x=>f2 ρ fun y=>match yY x with
   | some k=>ts.length < 16777216∧match fB ks ts k with
     | some t=>Q ρ (.vw t)
     | none=>Q (ρ.set n (some (.dk (ks ++ [k]) (ts ++ [y]),true))) (.vw y)
   | none=>False
 | _=>False
theorem IS (n:Nat) {x:Str} {p:Pos} (h1:VE X Z e1 f1) (h2:VE X Z e2 f2)
  (hN:X.N[n]?=some x:=by rfl) (hv:rQ X.env.scope x:=by first | exact Or.inl rfl | exact Or.inr (Or.inl rfl) | exact Or.inr (Or.inr rfl)) (hd:gk x:=by decide)
  (iy:vR x:=by decide) (eX:attributeBase (.Name x p) "setdefault" X.env (eval (.Name x p) X.env)=eval (.Name x p) X.env:=by rfl)
  (ny:((backTo a9 (starEach [e1,e2] X.env)).all (fun x=>!x.1) && (backToKw a9 (keywordEach [] X.env)).all (fun x=>x.1.isSome)
    && decide (([e1,e2]:List Expr).length+([]:List Keyword).length+(if ([]:List Keyword).isEmpty then 0 else 1) < 30))=true:=by rfl)
  (eY:(apos.endLine == a9.line)=true:=by rfl) (hs:starEach [e1,e2] X.env=(false,eval e1 X.env) :: starEach [e2] X.env:=by rfl) (vW:starEach [e2] X.env=(false,eval e2 X.env) :: starEach [] X.env:=by rfl)
  (d7:(backTo a9 (starEach [e2] X.env)).any (·.1)=false:=by rfl) :
  VX X Z (.Call (.Attribute (.Name x p) "setdefault" apos) [e1,e2] [] a9) (K_ n f1 f2):=.mk fun tm =>
 PE.weak (sZ Ti PySem.F.slot_dict_setdefault PySem.F.type_dict_setdefault IQ (cD hN hv hd iy) (ba (h1 tm) (ba (h2 tm) cb vW) hs) eX ny eY hs d7) fun σ H Q ⟨ρ,O,q,I,hf,kk⟩=>by
  unfold K_ at hf
  split at hf
  · rename_i ks ts e0
    obtain ⟨l,g1,g2,xs,hl,g3,g4⟩:=I.root e0
    have ha:l∈av Z O:=mX _ (aN.mpr (mV g1))
    refine ⟨.ref l,g2,.inr (.inr (.inl ⟨rfl,.inl ⟨_,g3⟩⟩)),ρ,O,_,I,hf,fun t ht v H1 s1 a1=>⟨ρ,O,_,I.same s1,ht,fun y hy w H2 s2 a2=>?_⟩⟩
    split at hy
    · rename_i Pe ek
      obtain ⟨hlen,hy⟩:=hy
      have ev:v=kV Pe:=pF (.inl a1) ek
      subst ev
      have hz:(ks.zip xs).length < sizeLine:=by
       rw [sizeLine_eq,List.length_zip,hl,Nat.min_self,g4.length]
       omega
      have J:=(I.same s1).same s2
      have b4:=(g4.same s1).same s2
      refine ⟨l,ks.zip xs,Pe,w,rfl,rfl,s2 _ _ (s1 _ _ g3),hz,fun u hu=>?_,fun hn=>?_⟩
      · rw [fR] at hu
        cases eg:fB ks ts Pe with
        | none=>rw [(iI b4).2 eg] at hu; cases hu
        | some t0 =>
          rw [eg] at hy
          obtain ⟨v0,e1,e2⟩:=(iI b4).1 t0 eg
          rw [e1] at hu
          cases hu
          exact kk _ _ hy O _ _ ⟨J,e2⟩
      · rw [fR] at hn
        cases eg:fB ks ts Pe with
        | some t0 =>
          obtain ⟨v0,e1,e2⟩:=(iI b4).1 t0 eg
          rw [e1] at hn
          cases hn
        | none =>
          rw [eg] at hy
          have e1:L2.putK (ks.zip xs) Pe w=(ks ++ [Pe]).zip (xs ++ [w]):=by
           rw [EE _ (by rw [fR]; exact hn),List.zip_append hl]
           rfl
          rw [e1]
          refine kk _ _ hy O _ _ ⟨J.wrote e0 g1 ⟨xs ++ [w],by simp [hl],aQ,?_⟩,a2.wrote ha (s2 _ _ (s1 _ _ g3)) rfl⟩
          exact (b4.append (aI.cons a2 aI.nil)).wrote ha (s2 _ _ (s1 _ _ g3)) rfl
    · exact hy.elim
  · exact hf.elim
end
end VT
namespace fJ
open PySem L2 VT Gen wm
abbrev bg:Stmt:=top 31
abbrev cU:Stmt:=top 32
abbrev b0:Stmt:=top 33
abbrev jF:Stmt:=top 34
abbrev hU:Stmt:=top 35
abbrev cu:Stmt:=top 36
abbrev iO:Stmt:=top 37
abbrev eQ:Stmt:=top 38
structure zj (w:World) (K:PySem.W.Frag) (mg:Str→Option Value):Prop where
 nV:∃ t,mg "MOST_ROWS" = some (.int 60 t)
 IT:∃ a,mg "OPENERS" = some (.ref a)∧∀ H,dY K H a [.str "def",.str "if",.str "while"]
 IU:∃ a,mg "CLOSERS" = some (.ref a)∧∀ H,dY K H a [.str "give",.str "end"]
 list:mg "list" = none
 len:mg "len" = none
 enumerate:mg "enumerate" = none
structure Acc (rs:List Rw):Prop where
 n:rs.length≤60
 g:∀ r∈rs,xm (aU r)
 b:B8 (some []) rs=some []
 d:vd rs
def NK (ts:List T) (q:Rt→Prop):Prop:=∃ (st:List Str) (x:Str),ts=[.lst (st.map .str),.str x]∧q (.vw (.bl (fD st x)))
def WW:GT:=fun ts q=>∃ (st:List Str) (x:Str),ts=[.lst (st.map .str),.str x]∧st.length≤1000∧fD st x=true∧q [.lst ((iM st x).map .str)] (.vw .bb)
def zk (ts:List T) (q:Rt→Prop):Prop:=∃ rs:List Rw,ts=[.lst (rs.map aU)]∧(∀ r∈rs,xm (aU r))∧q (.vw .bb)
def hV (ts:List T) (q:Rt→Prop):Prop:=∃ rs:List Rw,ts=[.lst (rs.map aU)]∧rs.length≤60∧B8 (some []) rs=some []∧q (.vw .bb)
def IV (l:List (Str×Nat)):T:=.dk (l.map fun p=>(Sum.inr p.1:Key)) (l.map fun p=>T.int (p.2:Int))
def zl (ts:List T) (q:Rt→Prop):Prop:=∃ rs:List Rw,ts=[.lst (rs.map aU)]∧rs.length≤60∧q (.fr (IV (a8 rs rs.length)))
def xo (ts:List T) (q:Rt→Prop):Prop:=∃ (rs:List Rw) (l:List (Str×Nat)) (i:Nat) (x f:Str) (as:List tU) (j:Nat) (ps:List Str),ts=[.lst (rs.map aU),IV l,.int (i:Int)]∧rs[i]?=some (Rw.call x f as)∧nU l f=some j∧i≤j∧rs[j]?=some (Rw.df f ps)∧ps.length=as.length∧q (.vw (.bl true))
def j9 (ts:List T) (q:Rt→Prop):Prop:=∃ rs:List Rw,ts=[.lst (rs.map aU)]∧rs.length≤60∧vd rs∧q (.vw .bb)
def vf (ts:List T) (q:Rt→Prop):Prop:=∃ rs:List Rw,ts=[.lst (rs.map aU)]∧Acc rs∧q (.fr (.lst (rs.map aU)))
theorem pJ {rs:List Rw} {i:Nat} {r:Rw} (h:rs[i]?=some r):k9 (rs.map aU) (i:Int)=some (aU r):=ax (by rw [lj,h]; rfl)
theorem qL (l:List (Str×Nat)) (f:Str):fB (l.map fun p=>(Sum.inr p.1:Key)) (l.map fun p=>T.int (p.2:Int)) (Sum.inr f)=(nU l f).map fun i=>T.int (i:Int):=by
 induction l with
 | nil=>rfl
 | cons p l ih =>
   obtain ⟨k,i⟩:=p
   simp only [iZ,fB,nU]
   by_cases h:k=f
   · rw [if_pos h,if_pos (by rw [h])]; rfl
   · rw [if_neg h,if_neg (fun z=>h (Sum.inr.inj z))]; exact ih
theorem qM (rs:List Rw):∀ n,(a8 rs n).length≤n
 | 0=>cZ _
 | n+1=>by
   have:=qM rs n
   simp only [a8]
   split
   · rename_i r _
     cases r <;> simp only [K9] <;> first
      | omega
      | (split <;> simp <;> omega)
   · omega
section
variable {P:Program} {w:World} {K:PySem.W.Frag} {mg:Str→Option Value} {base:Heap}
abbrev xq:List Str:=["opened","word"]
theorem mm:aH xq ["opened","word"] (aj jF):=L2.gE
theorem vg {f:Addr} {fd:FuncData} (D:Df K mg "may_stand" jF ["opened","word"] f fd) (M:zj w K mg):b_ P w K mg base "may_stand" ["opened","word"] 1 (bZ K 2 NK):=by
 refine D.jA (ku D.F mm rfl fun bw A outer s H E Ox hr ts q hG=>?_)
 have nd:=mm.nd
 have hu:=bj.fP hr
 refine ⟨_,(af (aJ (bc hu (VP.vr (aE aB aD (by rfl) M.len gC (aq (aa 0) ay))) (VP.vr ag))
    (ah (az (VP.vx (Ej (aa 1) (VP.vr (aY (ae (VP.ve ai) (ae (VP.ve ai) ak))))))))
    au)
   (af (aJ (bc hu (aa 1) (VP.vr ai))
     (ah (az (VP.vx (ow hu (VP.vr (aG (aa 0) (VP.vr (d9 (VP.vr ag))))) (VP.vr ai)))))
     au)
   (af (aJ (bc hu (aa 1) (VP.vr ai))
     (ah (az (VP.vx (ow hu (VP.vr (aG (aa 0) (VP.vr (d9 (VP.vr ag))))) (VP.vr ai)))))
     au)
   (af (aJ (bc hu (aa 1) (VP.vr ai))
     (ah (az (VP.vx (KJ hu (VP.vr (aG (aa 0) (VP.vr (d9 (VP.vr ag))))) (VP.vr ai)))))
     au)
   (ah (az (VP.vx (KJ hu (aa 1) (VP.vr ai))))))))),fun _=>?_⟩
 obtain ⟨st,x,rfl,hq⟩:=hG
 rcases Tp st with e | ⟨s0,l,e⟩
 · subst e
   exact ⟨small (by simp),rfl,rfl,hq⟩
 · rw [List.concat_eq_append] at e
   have hl:((st.map T.str).length:Int)≠0:=by rw [e]; simp; omega
   have ex:k9 (st.map T.str) (-1)=some (T.str l):=by rw [e,C7]; exact lL _ _
   unfold fD at hq
   rw [e,List.getLast?_concat] at hq
   refine dN (c:=decide (((st.map T.str).length:Int)=0)) (decide_eq_false hl) ?_
   have cy:q (.vw (.bl (if x="give" then decide (l="def") else if x="else" then decide (l="if") else if x="end" then !decide (l="def") else !decide (x="def")))):=hq
   refine cj (fun h=>?_) (fun h=>?_)
   · rw [if_pos h] at cy; exact ⟨_,ex,cy⟩
   · rw [if_neg h] at cy
     refine cj (fun h=>?_) (fun h=>?_)
     · rw [if_pos h] at cy; exact ⟨_,ex,cy⟩
     · rw [if_neg h] at cy
       refine cj (fun h=>?_) (fun h=>?_)
       · rw [if_pos h] at cy; exact ⟨_,ex,cy⟩
       · rw [if_neg h] at cy; exact cy
abbrev iP:List Str:=["program","place","row"]
theorem dg:aH iP ["program"] (aj cU):=L2.gE
theorem kx {f:Addr} {fd:FuncData} (D:Df K mg "check_rows" cU ["program"] f fd) (M:zj w K mg) (qN:b_ P w K mg base "is_row" ["row"] 5 (bZ K 1 va)):b_ P w K mg base "check_rows" ["program"] 6 (bZ K 1 zk):=by
 obtain ⟨Fd,B',qO,qP,qQ,qR⟩:=qN
 refine D.jA (ku D.F dg rfl fun bw A outer s H E Ox hr ts q hG=>?_)
 have nd:=dg.nd
 have np:∀ {i:Nat},aZ ⟨H,[],Ox⟩ i:=j5
 refine ⟨_,(ah (dM Dn rfl (gw (by rfl) M.enumerate (aw 0)) (gJ (n:=2) rfl (bo (aW (i:=1) nd rfl (Or.inl rfl) np) (bo (aW (i:=2) nd rfl (Or.inl rfl) np) eU)))
   (ah (aJ (cf (bY (aT qR (hr.mono (by decide)) (by rfl) qO qP qQ (ae (aw 2) ak))))
     (ah kQ)
     au)))),fun _=>?_⟩
 obtain ⟨rs,rfl,hg,hq⟩:=hG
 refine eO (fun i ρ=>∃ b1 b2,ρ=[some (.lst (rs.map aU),false),b1,b2]) ⟨_,_,rfl⟩ ?_ ?_
 · rintro i r ρ hr ⟨b1,b2,rfl⟩
   obtain ⟨x,ps,ex,Ug,Rz,hgd⟩:=hg r (mV hr)
   refine ⟨rfl,rfl,rfl,x,ps,by rw [← ex],by omega,Rz,?_⟩
   rw [hgd]
   exact ⟨_,_,rfl⟩
 · rintro ρ ⟨b1,b2,rfl⟩
   exact hq
abbrev nW:List Str:=["opened","word"]
theorem qS:aH nW ["opened","word"] (aj hU):=L2.gE
theorem zm {f:Addr} {fd:FuncData} (D:Df K mg "go_past" hU ["opened","word"] f fd) (M:zj w K mg):b_ P w K mg base "go_past" ["opened","word"] 1 (wB K [true,false] WW):=by
 refine D.jA (Yo D.F qS rfl fun bw A outer s H E as Ox hr ts q hl hG=>?_)
 have nd:=qS.nd
 have hu:=bj.fP hr
 obtain ⟨aO,mO,hO⟩:=M.IT
 obtain ⟨aC,mC,hC⟩:=M.IU
 have nX:∀ {pos},VP (dy ip P w K mg base nW "go_past" (aj hU) f bw A outer s H E).ng ⟨H,pz [true,false] as 0,Ox⟩ (.Name "OPENERS" pos) (fC (.tup [.str "def",.str "if",.str "while"])):=dv (by rfl) mO (v:=.ref aO) rfl fun H A=>bu (hO H) (aI.cons bF (aI.cons bF (aI.cons bF aI.nil)))
 have nY:∀ {pos},VP (dy ip P w K mg base nW "go_past" (aj hU) f bw A outer s H E).ng ⟨H,pz [true,false] as 0,Ox⟩ (.Name "CLOSERS" pos) (fC (.tup [.str "give",.str "end"])):=dv (by rfl) mC (v:=.ref aC) rfl fun H A=>bu (hC H) (aI.cons bF (aI.cons bF aI.nil))
 refine ⟨_,(ah (aJ (l8 (aa 1) (VP.vr nX))
    (ah (bV (tD 0 OK OL d8 ez (ae (aw 1) ak))))
    (ah (aJ (l8 (aa 1) (VP.vr nY))
      (ah (bV (yE 0 PySem.F.slot_list_pop PySem.F.type_list_pop yA uI)))
      (ah (aJ (bc hu (aa 1) (VP.vr ai))
        (ah (jw 0 (VP.ve ai) (VP.vr (d9 (VP.vr ag)))))
        au)))))),?_⟩
 obtain ⟨st,x,rfl,hl,hm,hq⟩:=hG
 have e1:l6 (.str x) [.str "def",.str "if",.str "while"]=decide (x="def"∨x="if"∨x="while"):=by
  have:=iN x ["def","if","while"]
  rw [show ([.str "def",.str "if",.str "while"]:List T)=(["def","if","while"]:List Str).map .str from rfl,this]
  simp
 have e2:l6 (.str x) [.str "give",.str "end"]=decide (x="give"∨x="end"):=by
  have:=iN x ["give","end"]
  rw [show ([.str "give",.str "end"]:List T)=(["give","end"]:List Str).map .str from rfl,this]
  simp
 unfold iM at hq
 refine ⟨rfl,rfl,?_⟩
 rw [e1]
 refine cj (fun h=>?_) (fun h=>?_)
 · rw [if_pos h] at hq
   refine ⟨(by rw [sizeLine_eq,cV]; omega),?_⟩
   show q [.lst (st.map .str ++ [.str x])] _
   rw [C7] at hq
   exact hq
 · rw [if_neg h] at hq
   refine ⟨rfl,rfl,?_⟩
   rw [e2]
   have ne:(x="give"∨x="end")∨x="else"→∃ s0 l,st=s0 ++ [l]:=fun hx=>by
    rcases Tp st with e | ⟨s0,l,e⟩
    · subst e
      exfalso
      rcases hx with (rfl | rfl) | rfl <;> exact absurd hm (by decide +kernel)
    · exact ⟨s0,l,by rw [e,XT]⟩
   refine cj (fun h2=>?_) (fun h2=>?_)
   · rw [if_pos h2] at hq
     obtain ⟨s0,l,rfl⟩:=ne (.inl h2)
     refine ⟨rfl,.str l,by simp,?_⟩
     show q [.lst (((s0 ++ [l]).map T.str).dropLast)] _
     rw [Ly] at hq
     rw [C7]
     show q [.lst ((s0.map T.str ++ [T.str l]).dropLast)] _
     rw [Ly]
     exact hq
   · rw [if_neg h2] at hq
     refine cj (fun h3=>?_) (fun h3=>?_)
     · rw [if_pos h3] at hq
       obtain ⟨s0,l,rfl⟩:=ne (.inr h3)
       have GI:((s0 ++ [l]).map T.str).length=s0.length+1:=by simp
       refine ⟨s0.length,?_,?_⟩
       · unfold vU
         rw [GI,if_neg (by decide),if_pos (by omega)]
         congr 1
         omega
       · show q [.lst (((s0 ++ [l]).map T.str).set s0.length (T.str "else"))] _
         rw [Ly] at hq
         have e3:((s0 ++ [l]).map T.str).set s0.length (T.str "else")=(s0 ++ [("else" : Str)]).map T.str:=by simp
         rw [e3]
         exact hq
     · rw [if_neg h3] at hq
       exact hq
abbrev gd:List Str:=["program","opened","place","row"]
theorem cp:aH gd ["program"] (aj b0):=L2.gE
theorem i8 {f:Addr} {fd:FuncData} (D:Df K mg "check_blocks" b0 ["program"] f fd) (M:zj w K mg) (jG:b_ P w K mg base "may_stand" ["opened","word"] 1 (bZ K 2 NK)) (nZ:b_ P w K mg base "go_past" ["opened","word"] 1 (wB K [true,false] WW)):b_ P w K mg base "check_blocks" ["program"] 3 (bZ K 1 hV):=by
 obtain ⟨xr,vh,jH,jI,jJ,jK⟩:=jG
 obtain ⟨Ca,zo,n5,n6,n8,n9⟩:=nZ
 refine D.jA (ku D.F cp rfl fun bw A outer s H E Ox hr ts q hG=>?_)
 have nd:=cp.nd
 have np:∀ {i:Nat},aZ ⟨H,[],Ox⟩ i:=j5
 refine ⟨_,(af (cY (i:=1) nd rfl (Or.inl rfl) (VP.vx (bt ak)) np)
   (af (dM Dn rfl (gw (by rfl) M.enumerate (aw 0)) (gJ (n:=2) rfl (bo (aW (i:=2) nd rfl (Or.inl rfl) np) (bo (aW (i:=3) nd rfl (Or.inl rfl) np) eU)))
     (af (aJ (cf (bY (g0 jK (hr.mono (by decide)) (by rfl) jH jI jJ (aq (aa 1) (aq (VP.vr (aG (aa 3) (VP.vr ag))) ay)))))
       (ah kQ)
       au)
     (ah (bV (wF n9 (hr.mono (by decide)) (by rfl) n5 n6 n8 (AQ 1 (wC (VP.ve (aG (aa 3) (VP.vr ag))) AO)))))))
   (ah (aJ (i5 (VP.vr (aE aB aD (by rfl) M.len gC (aq (aa 1) ay))) (VP.vr ag))
     (ah kQ)
     au)))),fun _=>?_⟩
 obtain ⟨rs,rfl,hn,hb,hq⟩:=hG
 refine ⟨ph _,?_⟩
 refine eO (fun i ρ=>∃ b2 b3 st,ρ=[some (.lst (rs.map aU),false),some (.lst (st.map .str),true),b2,b3]∧B8 (some []) (rs.take i)=some st∧st.length≤i) ⟨_,_,[],rfl,rfl,ph _⟩ ?_ ?_
 · rintro i r ρ hr ⟨b2,b3,st,rfl,hs,hl⟩
   have hi:=(e_.mp hr).1
   obtain ⟨s',e1,hm,e2⟩:=E_ hb i hr
   rw [hs] at e1
   cases e1
   obtain ⟨l,el⟩:=vb r
   rw [el]
   refine ⟨rfl,rfl,_,ax (j:=0) rfl,rfl,st,wd r,rfl,?_⟩
   rw [hm]
   refine ⟨rfl,_,ax (j:=0) rfl,st,wd r,rfl,by omega,hm,?_⟩
   refine ⟨_,_,iM st (wd r),rfl,e2,?_⟩
   unfold iM
   split
   · rw [pP]; simp; omega
   · split
     · rw [Dk]; omega
     · split
       · rw [pP,Dk]; simp
         cases st with
         | nil=>rename_i z; rw [z] at hm; exact absurd hm (by decide +kernel)
         | cons a t=>simp at hl ⊢; omega
       · omega
 · rintro ρ ⟨b2,b3,st,rfl,hs,_⟩
   rw [List.take_length,hb] at hs
   cases hs
   exact hq
abbrev vi:List Str:=["program","firsts","place","row"]
theorem ky:aH vi ["program"] (aj iO):=L2.gE
theorem sE {f:Addr} {fd:FuncData} (D:Df K mg "first_defs" iO ["program"] f fd) (M:zj w K mg):b_ P w K mg base "first_defs" ["program"] 1 (bZ K 1 zl):=by
 refine D.jA (ku D.F ky rfl fun bw A outer s H E Ox hr ts q hG=>?_)
 have nd:=ky.nd
 have hu:=bj.fP hr
 have np:∀ {i:Nat},aZ ⟨H,[],Ox⟩ i:=j5
 refine ⟨_,(af (cY (i:=1) nd rfl (Or.inl rfl) (VP.vx Iz) np)
   (af (dM Dn rfl (gw (by rfl) M.enumerate (aw 0)) (gJ (n:=2) rfl (bo (aW (i:=2) nd rfl (Or.inl rfl) np) (bo (aW (i:=3) nd rfl (Or.inl rfl) np) eU)))
     (ah (aJ (bc hu (VP.vr (aG (aa 3) (VP.vr ag))) (VP.vr ai))
       (ah (bV (IS 1 (VP.ve (aG (aa 3) (VP.vr ag))) (aw 2))))
       au)))
   (ah (az (lV 1 np))))),fun _=>?_⟩
 obtain ⟨rs,rfl,hn,hq⟩:=hG
 refine eO (fun i ρ=>∃ b2 b3,ρ=[some (.lst (rs.map aU),false),some (IV (a8 rs i),true),b2,b3]) ⟨_,_,rfl⟩ ?_ ?_
 · rintro i r ρ hr ⟨b2,b3,rfl⟩
   have hi:=(e_.mp hr).1
   have hlen:((a8 rs i).map fun p=>T.int (p.2:Int)).length < 16777216:=by
    rw [cV]; have:=qM rs i; omega
   have es:a8 rs (i+1)=K9 (a8 rs i) i r:=by simp only [a8,hr]
   cases r with
   | df g ps =>
     refine ⟨rfl,rfl,_,ax (j:=0) rfl,?_⟩
     refine ⟨_,ax (j:=1) rfl,hlen,?_⟩
     rw [es]
     simp only [K9]
     rw [qL]
     cases ha:nU (a8 rs i) g with
     | some j=>exact ⟨_,_,rfl⟩
     | none =>
       show ∃ b2 b3,_=[_,some (IV (a8 rs i ++ [(g,i)]),true),b2,b3]
       have ef:IV (a8 rs i ++ [(g,i)]) = .dk (((a8 rs i).map fun p=>(Sum.inr p.1:Key)) ++ [Sum.inr g]) (((a8 rs i).map fun p=>T.int (p.2:Int)) ++ [T.int (i:Int)]):=by
        simp only [IV,C7,iZ,GZ]
       rw [ef]
       exact ⟨_,_,rfl⟩
   | _ =>
     refine ⟨rfl,rfl,_,ax (j:=0) rfl,?_⟩
     rw [es]
     exact ⟨_,_,rfl⟩
 · rintro ρ ⟨b2,b3,rfl⟩
   exact hq
abbrev kR:List Str:=["program","firsts","place","row","first"]
theorem eZ:aH kR ["program","firsts","place"] (aj eQ):=L2.gE
theorem oG {f:Addr} {fd:FuncData} (D:Df K mg "may_call" eQ ["program","firsts","place"] f fd) (M:zj w K mg):b_ P w K mg base "may_call" ["program","firsts","place"] 1 (bZ K 3 xo):=by
 refine D.jA (ku D.F eZ rfl fun bw A outer s H E Ox hr ts q hG=>?_)
 have nd:=eZ.nd
 have hu:=bj.fP hr
 have np:∀ {i:Nat},aZ ⟨H,[],Ox⟩ i:=j5
 have vV:=xb hu
 refine ⟨_,(af (a_ (i:=3) nd rfl (Or.inl rfl) (VP.vx (aG (aa 0) (aa 2))) np)
  (af (a_ (i:=4) nd rfl (Or.inl rfl) (VP.vx (yZ vV (aa 1) (VP.vr (aG (aa 3) (VP.vr ag))) ⟨rfl,rfl,rfl,rfl⟩)) np)
  (af (aJ (VW.vc (dF (qm (aa 4) (VP.vr cJ)) (cK (oy (aa 4) (aa 2)))))
    (ah (az (VP.vx fM)))
    au)
  (ah (az (VP.vx (ow hu (VP.vr (aE aB aD (by rfl) M.len gC (aq (VP.vr (aG (VP.vr (aG (aa 0) (aa 4))) (VP.vr ag))) ay))) (VP.vr (aE aB aD (by rfl) M.len gC (aq (VP.vr (aG (aa 3) (VP.vr ag))) ay)))))))))),fun _=>?_⟩
 obtain ⟨rs,l,i,x,g,as,j,ps,rfl,hi,ha,MB,hj,hl,hq⟩:=hG
 refine ⟨_,pJ hi,_,ax (j:=2) rfl,?_⟩
 have ex:=qL l g
 rw [ha] at ex
 dsimp only [Rt.t,yY]
 rw [ex]
 refine dN (c:=decide ((j:Int) < (i:Int))) (decide_eq_false (by omega)) ?_
 refine ⟨_,pJ hj,_,ax (j:=2) rfl,_,ax (j:=3) rfl,?_⟩
 show q (.vw (.bl (decide (((ps.map T.str).length:Int)=((as.map tV).length:Int)))))
 rw [cV,cV,decide_eq_true (by omega)]
 exact hq
abbrev gN:List Str:=["program","firsts","place","row"]
theorem cM:aH gN ["program"] (aj cu):=L2.gE
theorem jL {f:Addr} {fd:FuncData} (D:Df K mg "check_calls" cu ["program"] f fd) (M:zj w K mg) (iQ:b_ P w K mg base "first_defs" ["program"] 1 (bZ K 1 zl)) (kS:b_ P w K mg base "may_call" ["program","firsts","place"] 1 (bZ K 3 xo)):b_ P w K mg base "check_calls" ["program"] 3 (bZ K 1 j9):=by
 obtain ⟨vj,sF,iR,iS,iT,iU⟩:=iQ
 obtain ⟨zp,xt,kT,kU,kW,kX⟩:=kS
 refine D.jA (ku D.F cM rfl fun bw A outer s H E Ox hr ts q hG=>?_)
 have nd:=cM.nd
 have hu:=bj.fP hr
 have np:∀ {i:Nat},aZ ⟨H,[],Ox⟩ i:=j5
 have vV:=xb hu
 refine ⟨_,(af (a_ (i:=1) nd rfl (Or.inl rfl) (VP.vx (aT iU (hr.mono (by decide)) (by rfl) iR iS iT (ae (aw 0) ak))) np)
   (ah (dM Dn rfl (gw (by rfl) M.enumerate (aw 0)) (gJ (n:=2) rfl (bo (aW (i:=2) nd rfl (Or.inl rfl) np) (bo (aW (i:=3) nd rfl (Or.inl rfl) np) eU)))
     (af (aJ (VW.vc (fj (bc hu (VP.vr (aG (aa 3) (VP.vr ag))) (VP.vr ai)) (dw (gZ hu (VP.vr (EI vV (aa 1) (VP.vr (aG (aa 3) (VP.vr ag))))) (aa 2)))))
       (ah kQ)
       au)
     (ah (aJ (VW.vc (fj (bc hu (VP.vr (aG (aa 3) (VP.vr ag))) (VP.vr ai)) (dw (cf (bY (aT kX (hr.mono (by decide)) (by rfl) kT kU kW (ae (aw 0) (ae (aw 1) (ae (aw 2) ak)))))))))
       (ah kQ)
       au)))))),fun _=>?_⟩
 obtain ⟨rs,rfl,hn,hd,hq⟩:=hG
 refine ⟨rfl,rs,rfl,hn,?_⟩
 refine eO (fun i ρ=>∃ b2 b3,ρ=[some (.lst (rs.map aU),false),some (IV (a8 rs rs.length),false),b2,b3]) ⟨_,_,rfl⟩ ?_ ?_
 · rintro i r ρ hr ⟨b2,b3,rfl⟩
   cases r with
   | df g ps =>
     refine ⟨rfl,rfl,_,ax (j:=0) rfl,_,ax (j:=1) rfl,?_⟩
     have ex:=qL (a8 rs rs.length) g
     rw [hd.first hr] at ex
     exact ⟨_,ex,dN (c:=!decide ((i:Int)=(i:Int))) (by simp) ⟨_,ax (j:=0) rfl,_,_,rfl⟩⟩
   | call x g as =>
     obtain ⟨j,ps,MB,hj,hl⟩:=hd.ca i x g as hr
     refine ⟨rfl,rfl,_,ax (j:=0) rfl,_,ax (j:=0) rfl,rfl,rs,_,i,x,g,as,j,ps,rfl,hr,hd.first hj,by omega,hj,hl,?_⟩
     exact ⟨_,_,rfl⟩
   | _=>exact ⟨rfl,rfl,_,ax (j:=0) rfl,_,ax (j:=0) rfl,_,_,rfl⟩
 · rintro ρ ⟨b2,b3,rfl⟩
   exact hq
abbrev bX:List Str:=["rows","program"]
theorem bL:aH bX ["rows"] (aj bg):=L2.gE
theorem gO {f:Addr} {fd:FuncData} (D:Df K mg "program_of" bg ["rows"] f fd) (M:zj w K mg) (dQ:b_ P w K mg base "check_rows" ["program"] 6 (bZ K 1 zk)) (cN:b_ P w K mg base "check_blocks" ["program"] 3 (bZ K 1 hV)) (dh:b_ P w K mg base "check_calls" ["program"] 3 (bZ K 1 j9)):b_ P w K mg base "program_of" ["rows"] 7 (bZ K 1 vf):=by
 obtain ⟨mn,kz,dR,dS,dU,dW⟩:=dQ
 obtain ⟨jM,i9,cO,cP,cQ,cS⟩:=cN
 obtain ⟨kA,jN,di,dj,dm,dq⟩:=dh
 refine D.jA (ku D.F bL rfl fun bw A outer s H E Ox hr ts q hG=>?_)
 have nd:=bL.nd
 have np:∀ {i:Nat},aZ ⟨H,[],Ox⟩ i:=j5
 obtain ⟨tM,mM⟩:=M.nV
 have e7:∀ {pos},VP (dy ip P w K mg base bX "program_of" (aj bg) f bw A outer s H E).ng ⟨H,[],Ox⟩ (.Name "MOST_ROWS" pos) (fC (.int 60)):=dv (by rfl) mM (v:=.int 60) ⟨_,rfl⟩ fun _ _=>bx
 refine ⟨_,(af (cY (i:=1) nd rfl (Or.inl rfl) (VP.vx (d_ fq iF (by rfl) M.list qp (aq (aa 0) ay))) np)
  (af (aJ (i5 (VP.vr (aE aB aD (by rfl) M.len gC (aq (aa 1) ay))) (VP.vr e7))
    (ah kQ)
    au)
  (af (bV (VP.vx (g0 dW (hr.mono (by decide)) (by rfl) dR dS dU (aq (aa 1) ay))))
  (af (bV (VP.vx (g0 cS (hr.mono (by decide)) (by rfl) cO cP cQ (aq (aa 1) ay))))
  (af (bV (VP.vx (g0 dq (hr.mono (by decide)) (by rfl) di dj dm (aq (aa 1) ay))))
  (ah (az (lV 1 np)))))))),fun _=>?_⟩
 obtain ⟨rs,rfl,hA,hq⟩:=hG
 have hn:=hA.n
 have hl:((rs.map aU).length:Int)=(rs.length:Int):=by rw [cV]
 refine dN (c:=decide ((60:Int) < ((rs.map aU).length:Int))) (decide_eq_false (by omega)) ?_
 exact ⟨rfl,rs,rfl,hA.g,rfl,rfl,rs,rfl,hA.n,hA.b,rfl,rfl,rs,rfl,hA.n,hA.d,rfl,hq⟩
end
end fJ
namespace Gen
open PySem L2 VT
def brk (st:List Str):List Rw→Nat→Option Nat
 | [],i=>if st=[] then none else some i
 | r :: rs,i=>if fD st (wd r)=true then brk (iM st (wd r)) rs (i+1) else some i
theorem vk {α:Type} {l:List α} {i:Nat} {x:α} (h:l[i]?=some x):l.drop i=x :: l.drop (i+1):=by
 obtain ⟨hi,e⟩:=e_.mp h
 rw [← e]; exact (Tf hi)
def vm (rs:List Rw) (i:Nat) (f:Str) (as:List tU):Bool:=match nU (a8 rs rs.length) f with
 | none=>false
 | some j=>if j < i then false else match rs[j]? with
   | some (.df _ ps)=>decide (ps.length=as.length)
   | _=>false
theorem t5 {rs:List Rw} {i:Nat} {f:Str} {as:List tU} (h:nU (a8 rs rs.length) f=none):vm rs i f as=false:=by unfold vm; rw [h]
theorem t6 {rs:List Rw} {i j:Nat} {f g:Str} {ps:List Str} {as:List tU} (h:nU (a8 rs rs.length) f=some j) (hj:rs[j]?=some (.df g ps)):vm rs i f as=if j < i then false else decide (ps.length=as.length):=by
 unfold vm
 rw [h]
 dsimp only
 rw [hj]
theorem xu {c:Bool} {A B:Prop} (hc:c=true) (h:A):if c=true then A else B:=by rw [if_pos hc]; exact h
def bS (rs:List Rw) (i:Nat):Bool:=match rs[i]? with
 | some (.df g _)=>!decide (nU (a8 rs rs.length) g=some i)
 | some (.call _ f as)=>!vm rs i f as
 | _=>false
def gz (rs:List Rw):Option Nat:=(List.range rs.length).find? (bS rs)
theorem qT {rs:List Rw} {i:Nat} (hi:i < rs.length) (h:∀ j < i,bS rs j=false) (hw:bS rs i=true):gz rs=some i:=by
 unfold gz
 rw [List.find?_range_eq_some]
 exact ⟨hw,Dp.mpr hi,fun j hj=>by rw [h j hj]; rfl⟩
theorem qU {rs:List Rw} (h:∀ j < rs.length,bS rs j=false):gz rs=none:=by
 unfold gz
 rw [List.find?_eq_none]
 intro j hj
 rw [h j (Dp.mp hj)]; simp
theorem IW {st:List Str} {x:Str} (h:fD st x=true):(iM st x).length≤st.length+1:=by
 unfold iM
 split
 · rw [pP]; simp
 · split
   · rw [Dk]; omega
   · split
     · rw [pP,Dk]; simp
     · omega
end Gen
namespace EX
open PySem PySem.Spec PySem.Calls PyProof.Rows L2
def Flt (h:Heap) (e C:Addr) (dd T:Option Addr) (fl:Value):Prop :=
 ∃ oe vs,h.get? e=some oe∧oe.cls = .ref C∧oe.dict=dd∧oe.data = .fields vs∧1 < vs.size ∧
  match T with
  | none=>vs[1]?=some .none
  | some a=>vs[1]?=some (.ref a)∧a≠e∧∃ oT ts,h.get? a=some oT∧oT.data = .fields ts∧ts[3]?=some fl
structure Kp (fs:List Addr) (e:Addr) (T:Option Addr) (h h':Heap):Prop where
 keep:∀ b o,h.get? b=some o→b≠e→T≠some b→b∉fs→h'.get? b=some o
 slot:∀ b o,h.get? b=some o→b∈fs→b≠e→T≠some b→∃ sl,h'.get? b=some { o with slots:=sl }
theorem Kp.any {fs:List Addr} {e:Addr} {T:Option Addr} {h h':Heap} (k:Kp fs e T h h') {b:Addr} {o:Obj} (q:h.get? b=some o) (h1:b≠e) (h2:T≠some b):∃ sl,h'.get? b=some { o with slots:=sl }:=by
 by_cases z:b∈fs
 · exact k.slot b o q z h1 h2
 · exact ⟨o.slots,k.keep b o q h1 h2 z⟩
theorem Kp.trans {fs:List Addr} {e:Addr} {T T':Option Addr} {h h1 h2:Heap} (a:Kp fs e T h h1) (b:Kp fs e T' h1 h2) (hT:∀ c,T'=some c→h.get? c=none∨T=some c):Kp fs e T h h2 where
 keep:=fun c o q n1 n2 n3=>b.keep c o (a.keep c o q n1 n2 n3) n1 (fun z=>by rcases hT c z with y | y; rw [q] at y; cases y; exact n2 y) n3
 slot:=fun c o q n1 n2 n3=>by
  obtain ⟨sl,q1⟩:=a.slot c o q n1 n2 n3
  obtain ⟨Ax,q2⟩:=b.slot c _ q1 n1 n2 (fun z=>by rcases hT c z with y | y; rw [q] at y; cases y; exact n3 y)
  exact ⟨Ax,q2⟩
theorem IX (o:Obj) (f:Array Value→Array Value):(o.mapFields f).dict=o.dict:=by
 obtain ⟨c,d,da,sl⟩:=o
 cases da <;> rfl
section
variable {M:Model} {A:Around} {E:Value→Shared→Prop} {s:Shared} {e C L:Addr} {dd T:Option Addr} {fl:Value} {base:Heap} {env:Env} {outer:List Env}
theorem Flt.G4 {h:Heap} {l:List Env} (F:Flt h e C dd T fl) (hl:h.FunFrames base l):e∉ll l∧∀ a,T=some a→a∉ll l:=by
 obtain ⟨oe,vs,he,hc,hd,Cb,pS,hT⟩:=F
 refine ⟨fun z=>?_,fun a ea z=>?_⟩
 · obtain ⟨_,o,ho,hn⟩:=hl.mem z
   rw [he] at ho
   cases ho
   exact hn vs Cb
 · subst ea
   obtain ⟨_,_,oT,ts,IY,GK,_⟩:=hT
   obtain ⟨_,o,ho,hn⟩:=hl.mem z
   rw [IY] at ho
   cases ho
   exact hn ts GK
theorem xv {head:Value} {hn:Bool} {oe:Obj} {vs:Array Value} {Q:Unit→Shared→Prop} (GL:A.frames=some (env :: outer)) (hl:s.heap.FunFrames base (env :: outer)) (hf:env.frame=some L)
  (he:s.heap.get? e=some oe) (hc:oe.cls = .ref C) (hd:oe.dict=dd) (Cb:oe.data = .fields vs) (pS:1 < vs.size)
  (h:∀ h' T',Flt h' e C dd (some T') (rawInt L)→s.heap.get? T'=none→Kp (ll (env :: outer)) e none s.heap h'→Q () { s with heap:=h' }) :
  wpAny M A (do let a ← frameOf env; let pl ← entryPlaceOf L hn; let b ← EntryCells.newEntry head a .none (rawInt L) .none pl; setField (.ref e) 1 b) Q E s:=by
 have ne:e∉ll (env :: outer):=fun z=>by
  obtain ⟨_,o,ho,q⟩:=hl.mem z
  rw [he] at ho
  cases ho
  exact q vs Cb
 refine wpAny_bind (wpAny_frameOf_fun GL hl hf fun h1 so=>?_)
 refine wpAny_bind (wpAny_entryPlaceOf fun pl gj=>?_)
 unfold EntryCells.newEntry newFields
 refine wpAny_bind (wpAny_newObj_type ?_ (gj.sizeOk5 _ _ _ _ _))
 have e1:h1.get? e=some oe:=(so.2.1 e ne).trans he
 generalize hx:([head,Value.ref L,.none,rawInt L,.none] ++ (if pl.isEmpty then List.replicate 6 Value.none else pl))=xs
 have x3:xs.toArray[3]?=some (rawInt L):=by rw [← hx]; simp
 have e2:(h1.push ⟨.type "traceback",none,.fields xs.toArray,#[]⟩).get? e=some oe:=dH _ e1
 refine wpAny_setField e2 Cb pS ?_
 have nT:h1.objs.size≠e:=C8 (dZ e1)
 have d3:=LA Cb (·.setIfInBounds 1 (Value.ref h1.objs.size))
 refine h _ h1.objs.size ⟨_,_,Lv _ e2 (Pq d3),(Obj.cls_mapFields _ _).trans hc,?_,d3,by simp [pS],by simp [pS],nT,⟨.type "traceback",none,.fields xs.toArray,#[]⟩,xs.toArray,?_,rfl,x3⟩ (Pt (by rw [so.1]; exact cZ _)) ⟨fun b o q n1 _ n3=>?_,fun b o q n1 n2 _=>?_⟩
 · rw [← hd]; exact IX _ _
 · rw [Kg _ _ (Ne.symm nT)]; exact pd h1 rfl
 · rw [Kg _ _ (Ne.symm n1)]; exact dH _ ((so.2.1 b n3).trans q)
 · obtain ⟨sl,q2⟩:=so.2.2 b o q
   exact ⟨sl,by rw [Kg _ _ (Ne.symm n2)]; exact dH _ q2⟩
theorem A7 {Q:Unit→Shared→Prop} (GL:A.frames=some (env :: outer)) (hl:s.heap.FunFrames base (env :: outer)) (hf:env.frame=some L) (F:Flt s.heap e C dd T .none)
  (h:∀ h' T',Flt h' e C dd (some T') (rawInt L)→s.heap.get? T'=none→Kp (ll (env :: outer)) e T s.heap h'→Q () { s with heap:=h' }):wpAny M A (noteFrame (.ref e) env) Q E s:=by
 have nf:=F.G4 hl
 obtain ⟨oe,vs,he,hc,hd,Cb,pS,hT⟩:=F
 unfold noteFrame
 simp only [hf]
 cases T with
 | none =>
   refine wpAny_bind (wpAny_field he Cb hT ?_)
   rw [if_neg (by decide)]
   exact xv GL hl hf he hc hd Cb pS h
 | some a =>
   obtain ⟨h1,ne,oT,ts,IY,GK,h3⟩:=hT
   refine wpAny_bind (wpAny_field he Cb h1 ?_)
   rw [if_pos (by simp)]
   refine wpAny_bind (wpAny_field IY GK h3 ?_)
   rw [if_neg (by simp [rawInt])]
   refine wpAny_bind (wpAny_setField IY GK (UB.mp h3).1 ?_)
   have K':∀ b,b≠a→(s.heap.update a (Obj.mapFields (·.setIfInBounds 3 Value.none))).get? b=s.heap.get? b:=fun b hb=>Kg _ _ (Ne.symm hb)
   have WQ:=hl.of_keeps (h':=s.heap.update a (Obj.mapFields (·.setIfInBounds 3 Value.none))) fun b o q nn=>⟨o,(K' b fun z=>by subst z; rw [IY] at q; cases q; exact nn ts GK).trans q,rfl⟩
   refine xv (s:={ s with heap:=s.heap.update a (Obj.mapFields (·.setIfInBounds 3 Value.none)) }) GL WQ hf ((K' e (Ne.symm ne)).trans he) hc hd Cb pS fun h' T' f n k=>h h' T' f ?_ ⟨fun b o q n1 n2 n3=>?_,fun b o q n1 n2 n3=>?_⟩
   · cases q:s.heap.get? T' with
     | none=>rfl
     | some o =>
       by_cases z:T'=a
       · subst z
         have:=Lv (Obj.mapFields (·.setIfInBounds 3 Value.none)) IY (Pq (LA GK _))
         rw [this] at n
         cases n
       · rw [K' T' z,q] at n; cases n
   · have nb:b≠a:=fun z=>n2 (by rw [z])
     exact k.keep b o ((K' b nb).trans q) n1 (fun z=>by cases z) n3
   · have nb:b≠a:=fun z=>n3 (by rw [z])
     exact k.slot b o ((K' b nb).trans q) n1 n2 (fun z=>by cases z)
theorem vn {Q:Unit→Shared→Prop} {a:Addr} (F:Flt s.heap e C dd (some a) fl) (h:∀ h',Flt h' e C dd (some a) .none→Kp [] e (some a) s.heap h'→Q () { s with heap:=h' }):wpAny M A (setFlight (.ref e) none) Q E s:=by
 obtain ⟨oe,vs,he,hc,hd,Cb,pS,h1,ne,oT,ts,IY,GK,h3⟩:=F
 have z3:=(UB.mp h3).1
 unfold setFlight
 refine wpAny_bind (wpAny_field he Cb h1 ?_)
 rw [if_pos (by simp)]
 refine wpAny_setField IY GK z3 ?_
 have K':∀ (f:Obj→Obj) b,b≠a→(s.heap.update a f).get? b=s.heap.get? b:=fun f b hb=>Kg _ _ (Ne.symm hb)
 refine h _ ⟨oe,vs,(K' _ e (Ne.symm ne)).trans he,hc,hd,Cb,pS,h1,ne,_,_,Lv _ IY (Pq (LA GK _)),LA GK _,by simp [z3]⟩
  ⟨fun b o q n1 n2 _=>(K' _ b fun z=>n2 (by rw [z])).trans q,fun b o q n1 _ _=>absurd n1 (by simp)⟩
theorem Fe {Q:Unit→Shared→Prop} (GL:A.frames=some (env :: outer)) (hl:s.heap.FunFrames base (env :: outer)) (hf:env.frame=some L) (F:Flt s.heap e C dd T .none)
  (h:∀ h' T',Flt h' e C dd (some T') .none→s.heap.get? T'=none→Kp (ll (env :: outer)) e T s.heap h'→Q () { s with heap:=h' }):wpAny M A (leaving env (.ref e)) Q E s:=by
 unfold leaving
 refine wpAny_bind (A7 GL hl hf F fun h1 T' f n k=>?_)
 refine vn f fun h2 f2 k2=>h h2 T' f2 n (k.trans ⟨fun b o q n1 n2 _=>k2.keep b o q n1 n2 (by simp),fun b o q _ n2 n3=>⟨o.slots,k2.keep b o q n2 n3 (by simp)⟩⟩ fun c z=>.inl (by cases z; exact n))
end
end EX
namespace EX
open PySem PySem.Spec PySem.Calls PyProof.Rows L2
open PySem.W (findIn typeIn clsIn subIn looks_findIn looks_typeIn looks_subIn looks_clsIn Looks InstAt lookIn findObj)
abbrev GN:List Value:=[.type "ValueError",.type "Exception",.type "BaseException",.type "object"]
abbrev clO (nm q:Str) (C N:Addr) (bs bm:List Value) (sn:List Str) (sub:List Value) (ab:Bool) (col:Option Bool) (dd:Option Addr) (k0 k1 k2 k3 k5:Option Value):Obj:=excClassObj nm q C N bs bm true sn sub ab col dd k0 k1 k2 k3 k5 "ValueError.__new__"
structure XC (K:PySem.W.Frag) (C:Addr) (tl:List Addr):Prop where
 obj:∃ nm q N bs sn sub ab col dd k0 k1 k2 k3 k5,K.lookup C=some (clO nm q C N bs (tl.map .ref ++ GN) sn sub ab col dd k0 k1 k2 k3 k5)
 tail:∀ a∈tl,∃ c dd cd sl o es ep,K.lookup a=some ⟨c,dd,.cls cd,sl⟩∧K.lookup cd.ns=some o∧o.data = .dict es ep∧StrKeys es∧nsFind es "__init__" = none
theorem mq {K:PySem.W.Frag} {h:Heap} (X:K.In h):∀ {tl:List Addr},(∀ a∈tl,∃ c dd cd sl o es ep,K.lookup a=some ⟨c,dd,.cls cd,sl⟩∧K.lookup cd.ns=some o∧o.data = .dict es ep∧StrKeys es∧nsFind es "__init__" = none)→OwnTail h GN (tl.map .ref ++ GN)
 | [],_=>.base
 | a :: tl,q=>by
   obtain ⟨c,dd,cd,sl,o,es,ep,h1,h2,h3,h4,h5⟩:=q a gq
   exact .own (X _ _ h1) ⟨o,es,ep,X _ _ h2,h3,h4,fun _=>rfl⟩ h5 (mq X fun b hb=>q b (i_ _ hb))
section
variable {prog:Program} {w:World} {A:Around} {E:Value→Shared→Prop} {h:Heap} {g:Array GenState} {d:Drawn} {t:Nat} {os:OsState} {K:PySem.W.Frag} {C fI:Addr} {tl:List Addr} {rest:List Value}
theorem zq {Q:PySem.Fin→Shared→Prop} (X:K.In h) (xc:XC K C tl) (hi:findIn K (.ref C) "__init__" = some (some (.ref fI))) (ht:typeIn K (.ref fI)=some (.type "function"))
  (hq:∀ h' e,Heap.MadeExcOf h h' e (.ref C) rest→wpAny (model prog w) A (call (.ref fI) (.ref e :: rest)) (fun r s'=>r = .none∧Q (.done (.ret (.ref e))) s') E ⟨h',g,d,t,os⟩) (hr:rest.length≤sizeLine) :
  wpAny (model prog w) A (Builtin.«type.__call__» ⟨.ref C :: rest,[]⟩) Q E ⟨h,g,d,t,os⟩:=by
 obtain ⟨nm,q,N,bs,sn,sub,ab,col,dd,k0,k1,k2,k3,k5,oK⟩:=xc.obj
 have oC:=X _ _ oK
 have T:=mq X xc.tail
 repeat (first | with_reducible refine wpAny_loadPart_at oC ?_ | with_reducible refine wpAny_madeBy_exc oC ?_ | wp_step)
 refine codeAny_call_builtin_code (Ts _ Pu.quiet) (wpAny_check_new_subT Pu T oC ?_)
 refine codeAny_exc_new_subT Pu T oC ?_ hr
 show wpAny _ _ _ _ _ _
 generalize YI:(⟨.type "tuple",none,.seq rest.toArray 0,#[]⟩:Obj)=tp
 generalize NL:(⟨.ref C,none,.fields #[.ref h.objs.size,.none,.none,.none,.bool false,.none],#[]⟩:Obj)=oe
 have kk:∀ b o,h.get? b=some o→((h.push tp).push oe).get? b=some o:=fun b o q=>dH _ (dH _ q)
 have X1:K.In ((h.push tp).push oe):=fun b o q=>kk b o (X b o q)
 have oC1:=X1 _ _ oK
 have Uh:((h.push tp).push oe).get? (h.objs.size+1)=some oe:=by subst NL; heap_get
 have ot1:((h.push tp).push oe).get? h.objs.size=some tp:=by subst YI; exact dH _ (Heap.get?_push_at rfl rfl)
 have hcC:(Value.ref C :: (tl.map Value.ref ++ GN)).contains (.ref C)=true:=by simp
 have ec:oe.cls = .ref C:=by subst NL; rfl
 unfold isInstance
 repeat (first | (with_reducible refine wpAny_loadPart_at Uh ?_; rw [ec]) | (with_reducible refine wpAny_isSubtype_exc oC1 ?_; rw [hcC]) | wp_step)
 show wpAny _ _ (typeLookup (.ref C) _) _ _ _
 refine looks_findIn X1 hi _ _ _ _ (fun _ _ z=>z) ?_
 refine wpAny_holding (wpAny_bind (PySem.W.bind_fn X1 _ ht _ _ _ _ (fun _ _ z=>z) ?_))
 refine wpAny_bind (wpAny_mono (hq _ (h.objs.size+1) ⟨kk,Pt (LF _),h.objs.size,by rw [Uh,← NL],Pt (cZ _),by rw [ot1,← YI]⟩) (fun r s' z=>?_) fun _ _ z=>z)
 obtain ⟨rfl,z⟩:=z
 wp_walk
 exact z
theorem Cc {Q:Value→Shared→Prop} (X:K.In h) (xc:XC K C tl) (hi:findIn K (.ref C) "__init__" = some (some (.ref fI))) (ht:typeIn K (.ref fI)=some (.type "function"))
  (hq:∀ h' e,Heap.MadeExcOf h h' e (.ref C) rest→wpAny (model prog w) (A.under (.builtin "type.__call__" ⟨.ref C :: rest,[]⟩)) (call (.ref fI) (.ref e :: rest)) (fun r s'=>r = .none∧Q (.ref e) s') E ⟨h',g,d,t,os⟩) (hr:rest.length≤sizeLine) :
  wpAny (model prog w) A (call (.ref C) rest) Q E ⟨h,g,d,t,os⟩:=by
 obtain ⟨nm,q,N,bs,sn,sub,ab,col,dd,k0,k1,k2,k3,k5,oK⟩:=id xc.obj
 have oC:=X _ _ oK
 have l1:=tc_lookup
 have l2:=tc_bind (.ref C)
 have lT:(⟨h,g,d,t,os⟩:Shared).TypeIs (.ref C) "type":=⟨_,oC,rfl⟩
 refine wpAny_call (codeAny_of_tree ?_)
 show wpAny _ _ (callAny (.ref C) _) _ _ _
 repeat (any_goals (first | assumption | with_reducible refine wpAny_loadPart_at oC ?_ | wp_step))
 refine ⟨rfl,?_⟩
 exact codeAny_call_builtin_at (Ts _ (by decide +kernel)) entry_typeCall (wpAny_check_type_call_sub oC (zq X xc hi ht (fun h' e m=>hq h' e m) hr))
end
end EX
namespace EX
open PySem PySem.Spec PySem.Calls PyProof.Rows L2 Builtin Builtin.ObjectAttr
open PySem.W (findIn typeIn clsIn subIn mroIn specialIn takesIn looks_findIn looks_typeIn looks_subIn looks_clsIn looks_mroIn looks_find Looks InstAt lookIn findObj)
structure XF (K:PySem.W.Frag) (C:Addr):Prop where
 ga:findIn K (.ref C) "__getattribute__" = some (some (.builtin "BaseException.__getattribute__"))
 hk:findIn K (.ref C) "__getattr__" = some none
 sa:findIn K (.ref C) "__setattr__" = some (some (.builtin "object.__setattr__"))
 pl:findIn K (.ref C) "place" = some none
 cl:findIn K (.ref C) "__class__" = some (some (.builtin "object.__class__"))
 sub:subIn K (.ref C) (.type "BaseException")=some true
 ob:mroIn K C (.type "object")=some true
 cg:specialIn K (.builtin "object.__class__") "__get__" = some (some (.builtin "getset_descriptor.__get__"))
 ct:takesIn K (.builtin "object.__class__")=some true
section
variable {prog:Program} {w:World} {A:Around} {E:Value→Shared→Prop} {s:Shared} {K:PySem.W.Frag} {C e:Addr} {oe:Obj} {od:Option Obj} {name:Str} {tl:List Addr}
theorem La {tk:Tok} {fill expr:Bool} {Q:Value→Shared→Prop} (X:K.In s.heap) (f:XF K C) (I:InstAt s.heap e oe C od)
  (h:wpAny (model prog w) A.in1 (Builtin.«object.__getattribute__» ⟨[.ref e,.str name tk],[]⟩) (fun fin s'=>match fin with | .done (.ret v)=>wpAny (model prog w) A (handedOut v) Q E s' | _=>False) (fun _ _=>False) s) :
  wpAny (model prog w) A (getAttrBy (.ref e) (.str name tk) fill expr) Q E s:=by
 have ex:=F.excAttr_ValueError.ga
 unfold getAttrBy
 refine wpAny_holding (wpAny_bind (I.type.here (wpAny_bind ((looks_findIn X f.ga).here ?_))))
 dsimp only
 have n1:(Value.builtin "BaseException.__getattribute__" == Value.builtin "object.__getattribute__")=false:=by decide +kernel
 rw [show (onTheHeap (Value.ref C) && Value.builtin "BaseException.__getattribute__" == Value.builtin "object.__getattribute__")=false from by rw [n1,OU],if_neg (by decide)]
 unfold getAttrByItsOwn
 have hb:Looks (model prog w) s.heap (hookBefore (.ref C)) none:=PySem.W.looks_hook X (by show findIn K (.ref C) "__getattr__" = some none; exact f.hk)
 refine wpAny_bind (hb.here (wpAny_bind (wpAny_attempt (wpAny_holding ?_))))
 unfold callGetattribute
 rw [show (expr && onTheHeap (Value.builtin "BaseException.__getattribute__"))=false from OU _,if_neg (by decide)]
 unfold boundAndCalled
 rw [ex.bind]
 refine wpAny_bind (wpAny_pure ?_)
 show wpAny _ _ (call (.builtin "BaseException.__getattribute__") [.ref e,.str name tk]) _ _ _
 refine wpAny_call (codeAny_call_builtin ex.plain F.entry_bexc_ga ?_)
 refine @PySem.W.check_slot (model prog w) _ _ s "BaseException.__getattribute__" "BaseException" "__getattribute__" (.ref e) [.str name tk] [] _ (by decide +kernel) (by decide +kernel) (I.type.andThen (looks_subIn X f.sub)) (F.args_bexc_ga _ _) ?_
 refine wpAny_mono h (fun fin s' z=>?_) fun _ _ z=>z.elim
 rcases fin with (_ | _ | _ | _) | _ <;> first | exact z | exact z.elim
theorem xw {tk:Tok} {r:Found} {Q:PySem.Fin→Shared→Prop} (L:Looks (model prog w) s.heap (find (.ref e) (.ref C) name) r) (I:InstAt s.heap e oe C od)
  (h:wpAny (model prog w) A (match r with | .value v=>ret v | .bind g a=>bindTo g a (.ref e) (.ref C) | .missing=>pure (.done (.ret .none))) Q E s) (hr:r≠.missing) :
  wpAny (model prog w) A (Builtin.«object.__getattribute__» ⟨[.ref e,.str name tk],[]⟩) Q E s:=by
 refine wpAny_bind (wpAny_pure (wpAny_bind (wpAny_pure (wpAny_bind (I.type.here (wpAny_bind (L.here ?_)))))))
 cases r with
 | value v=>exact h
 | bind g a=>exact h
 | missing=>exact absurd rfl hr
theorem Cd {v:Value} {dx:Addr} {mA:Str→Option Value} {expr:Bool} {Q:Value→Shared→Prop} (X:K.In s.heap) (f:XF K C) (hd:(clsIn K C).any (·.hasDict)=true) (he:s.heap.get? e=some oe) (hc:oe.cls = .ref C) (Hi:PySem.W.notCls oe=true) (hdx:oe.dict=some dx)
  (hn:s.heap.Ns1 dx mA) (hv:mA "place" = some v) (hh:PySem.W.handedIn v=true) (h:Q v { s with toks:=s.toks+1 }):wpAny (model prog w) A (getAttr (.ref e) "place" expr) Q E s:=by
 obtain ⟨oD,es,ep,h1,h2,h3,h4,h5⟩:=id hn
 have I:InstAt s.heap e oe C (some oD):=⟨he,hc,Hi,by rw [hdx]; exact h1⟩
 obtain ⟨cd,q1,q2⟩:=PySem.W.any_some hd
 have lk:lookIn "place" oD=some (some v):=by
  have q:=h5 "place"
  rw [hv] at q
  unfold nsFind findBy at q
  unfold lookIn
  rw [h2]
  dsimp only
  rw [← Array.find?_toList] at q
  cases z:es.toList.find? (·.key.isStr "place") with
  | none=>rw [z] at q; cases q
  | some en=>rw [z] at q; cases q; rfl
 have hf:findObj K C (some oD) "place" = some (.value v):=by
  unfold findObj PySem.W.ownOf
  rw [q1,Kj,f.pl,Kj]
  simp only [Kj,q2,if_true,lk]
 unfold getAttr
 refine wpAny_bind (wpAny_mkText ?_)
 refine La (s:={ s with toks:=s.toks+1 }) X f I ?_
 refine xw (s:={ s with toks:=s.toks+1 }) (looks_find X I hf) I (wpAny_pure ?_) (by intro z; cases z)
 show wpAny _ _ (handedOut v) _ _ _
 rw [PySem.W.handedOut_of hh]; exact wpAny_pure h
theorem get_cls {Q:Option Value→Shared→Prop} (X:K.In s.heap) (f:XF K C) (AG:(clsIn K C).isSome=true) (I:InstAt s.heap e oe C od) (h:Q (some (.ref C)) { s with toks:=s.toks+1 }):wpAny (model prog w) A (getAttr? (.ref e) "__class__") Q E s:=by
 have hf:findObj K C od "__class__" = some (.bind (.builtin "getset_descriptor.__get__") (.builtin "object.__class__")):=by
  obtain ⟨cd,hc⟩:=UC.mp AG
  unfold findObj
  rw [hc,Kj,f.cl,Kj]
  simp only [f.cg,Kj,f.ct]
 unfold getAttr? getAttrBy?
 refine wpAny_bind (wpAny_mkText (wpAny_bind (wpAny_attempt ?_)))
 refine La (s:={ s with toks:=s.toks+1 }) X f I ?_
 refine xw (s:={ s with toks:=s.toks+1 }) (looks_find X I hf) I ?_ (by intro z; cases z)
 show wpAny _ _ (holding [_] (call _ [_,.ref e,.ref C]) >>= ret) _ _ _
 refine wpAny_bind (wpAny_holding (wpAny_call (PySem.W.class_get (s:={ s with toks:=s.toks+1 }) X I f.ob ?_)))
 refine wpAny_pure ?_
 show wpAny _ _ (handedOut (.ref C)) _ _ _
 exact wpAny_pure (wpAny_pure h)
end
end EX
namespace EX
open PySem PySem.Spec PySem.Calls PyProof.Rows L2 Builtin Builtin.ObjectAttr
open PySem.W (findIn typeIn clsIn subIn mroIn specialIn takesIn looks_findIn looks_typeIn looks_subIn looks_clsIn looks_mroIn looks_find Looks InstAt lookIn findObj kitOne KitX)
section
variable {K:PySem.W.Frag} {C e:Addr} {oe:Obj} {tl:List Addr}
theorem XC.cls (xc:XC K C tl):∃ cd,clsIn K C=some cd∧cd.hasDict=true∧cd.mro = .ref C :: (tl.map .ref ++ GN):=by
 obtain ⟨nm,q,N,bs,sn,sub,ab,col,dd,k0,k1,k2,k3,k5,oK⟩:=xc.obj
 exact ⟨_,by unfold clsIn; rw [oK],rfl,rfl⟩
theorem Ff (xc:XC K C tl) (f:XF K C):KitX K (.ref e) (.ref C) (fun h=>∃ oe od,InstAt h e oe C od) where
 ty:=fun _ _ _ ⟨_,_,I⟩=>I.type
 it:=fun _ h X _=>by
  obtain ⟨nm,q,N,bs,sn,sub,ab,col,dd,k0,k1,k2,k3,k5,oK⟩:=xc.obj
  intro A' Q' E' s' k q
  unfold isType loadHead
  exact wpAny_bind (wpAny_loadPart (k _ _ (X _ _ oK)) (wpAny_pure q))
 ne:=fun h tp yX aP n sl X htp=>by
  obtain ⟨nm,q,N,bs,sn,sub,ab,col,dd,k0,k1,k2,k3,k5,oK⟩:=xc.obj
  refine Bool.eq_false_iff.mpr fun z=>?_
  have z:C=tp:=Value.ref.inj (beq_iff_eq.mp z)
  subst z
  have z2:=Option.some.inj ((X _ _ oK).symm.trans htp)
  exact absurd (Value.type.inj (congrArg Obj.cls z2)) (by decide)
 ca:=fun X ⟨_,_,I⟩ k=>get_cls X f (by obtain ⟨cd,z,_⟩:=xc.cls; rw [z]; rfl) I k
variable {prog:Program} {w:World} {A:Around} {E:Value→Shared→Prop} {s:Shared} {od:Option Obj}
theorem IZ {c:Value} {b:Bool} {Q:Value→Shared→Prop} (X:K.In s.heap) (xc:XC K C tl) (f:XF K C) (I:InstAt s.heap e oe C od) (hk:kitOne K (.ref C) c=some b) (h:∀ tk,Q (.bool b) { s with toks:=tk }) :
  wpAny (model prog w) A (call (.builtin "isinstance") [.ref e,c]) Q E s :=
 Kl (Ff xc f) X ⟨oe,od,I⟩ hk (by intro z; cases z) h
theorem Ce {rest:List Value} {vs:Array Value} {Q:Value→Shared→Prop} (X:K.In s.heap) (xc:XC K C tl) (he:s.heap.get? e=some oe) (hc:oe.cls = .ref C) (hd:oe.data = .fields vs) {t0:Addr} (h0:vs[0]?=some (.ref t0)) (hr:rest.length≤sizeLine)
  (h:∀ h',(∀ b o,b≠e→s.heap.get? b=some o→h'.get? b=some o)→h'.get? e=some (oe.mapFields (·.setIfInBounds 0 (.ref s.heap.objs.size)))→Q .none { s with heap:=h' }) :
  wpAny (model prog w) A (call (.builtin "ValueError.__init__") (.ref e :: rest)) Q E s:=by
 obtain ⟨hp,g,dr,t,os⟩:=s
 dsimp only at X he h
 obtain ⟨nm,q,N,bs,sn,sub,ab,col,dd,k0,k1,k2,k3,k5,oK⟩:=xc.obj
 have oC:=X _ _ oK
 have T:=mq X xc.tail
 have F:=Pu
 refine wpAny_call (codeAny_call_builtin F.init.plain F.initEntry (wpAny_check_init_subT F T oC he hc ?_))
 have hz:=(UB.mp h0).1
 unfold Builtin.«BaseException.__init__»
 repeat (any_goals (first | with_reducible refine wpAny_field (dH _ he) hd h0 ?_ | with_reducible refine wpAny_setField (dH _ he) hd hz ?_ | wp_step))
 refine h _ (fun b o nb q=>?_) ?_
 · rw [Kg _ _ (Ne.symm nb)]; exact dH _ q
 · rw [Lv _ (dH _ he) (Pq (LA hd _))]
end
section
variable {prog:Program} {w:World} {A:Around} {E:Value→Shared→Prop} {s:Shared} {K:PySem.W.Frag} {C e:Addr} {oe:Obj} {tl:List Addr}
theorem t7 (self:Value):∀ tl:List Addr,refuseLoop self "__setattr__" (tl.map .ref ++ GN)=pure ()
 | []=>F.store_ValueError.passes self
 | a :: tl=>by rw [iZ,Tv,refuseLoop_ref]; exact t7 self tl
theorem I_ {v:Value} {tk:Tok} {vs:Array Value} {R:Result→Shared→Prop} (X:K.In s.heap) (xc:XC K C tl) (f:XF K C) (he:s.heap.get? e=some oe) (hc:oe.cls = .ref C) (hd:oe.data = .fields vs) (hn:oe.dict=none)
  (h:∀ h' ED,(∀ b o,b≠e→s.heap.get? b=some o→h'.get? b=some o)→h'.get? e=some { oe with dict:=some s.heap.objs.size }→h'.Ns1 s.heap.objs.size (fun y=>if y="place" then some v else none)→R (.ok (.ret .none)) { s with heap:=h',toks:=ED }) :
  codeAny (model prog w) A (.call (.builtin "object.__setattr__") ⟨[.ref e,.str "place" tk,v],[]⟩) R s:=by
 have SF:=F.store_ValueError
 obtain ⟨cd,q1,q2,q3⟩:=xc.cls
 have I:InstAt s.heap e oe C none:=⟨he,hc,by unfold PySem.W.notCls; rw [hd],by rw [hn]; trivial⟩
 refine codeAny_call_builtin SF.slot.plain SF.entry (@PySem.W.check_slot (model prog w) _ _ s "object.__setattr__" "object" "__setattr__" (.ref e) [.str "place" tk,v] [] _ SF.kind SF.split (I.type.andThen (looks_mroIn X f.ob)) (SF.args (.ref e) (.str "place" tk) v) ?_)
 have lm:Looks (model prog w) s.heap (mroOf (.ref C)) cd.mro:=(looks_clsIn X q1).andThen .now
 rw [PySem.W.osa_eq,refuse_eq]
 refine wpAny_bind (wpAny_bind (I.type.here (wpAny_bind (lm.here ?_))))
 rw [q3,refuseLoop_ref,t7]
 refine wpAny_pure (wpAny_bind (I.type.here (wpAny_bind ((looks_findIn X f.pl).here (wpAny_bind (wpAny_pure ?_))))))
 unfold storeInOwnDict
 refine wpAny_bind (wpAny_pure (wpAny_bind ?_))
 show wpAny _ _ (instanceDict e true) _ _ _
 unfold instanceDict
 obtain ⟨oc,odi,oda,Aw⟩:=oe
 dsimp only at hc hd hn
 subst hc hd hn
 refine wpAny_bind (wpAny_loadPart he ?_)
 dsimp only
 refine wpAny_bind ((looks_clsIn X q1).here ?_)
 rw [q2]
 obtain ⟨hp,g,dr,t,os⟩:=s
 dsimp only at X he h
 have e1:(hp.push { cls:=.type "dict",data:=.dict #[] }).get? e=some ⟨.ref C,none,.fields vs,Aw⟩:=dH _ he
 have ne:e≠hp.objs.size:=iu (dZ he)
 refine wpAny_bind (wpAny_alloc' (wpAny_bind (wpAny_update' e1 ?_)))
 refine wpAny_pure ?_
 generalize hu:(hp.push { cls:=.type "dict",data:=.dict #[] }).update e (fun o=>{ o with dict:=some hp.objs.size })=h1
 have g1:h1.get? hp.objs.size=some { cls:=.type "dict",data:=.dict #[] }:=by rw [← hu,Heap.get?_update_ne _ _ _ _ ne.symm]; exact Heap.get?_push_at rfl rfl
 have g2:h1.get? e=some ⟨.ref C,some hp.objs.size,.fields vs,Aw⟩:=by rw [← hu]; exact Lv _ e1 rfl
 have nd:h1.Ns hp.objs.size (fun _=>none):=⟨_,#[],_,g1,rfl,fun a z=>absurd z (by simp),fun _=>rfl⟩
 show wpAny _ _ (storeInDict hp.objs.size (.str "place" tk) "place" v) _ _ _
 unfold storeInDict newKeyGuard
 refine wpAny_bind (wpAny_pure (wpAny_bind (wpAny_nsSet1 (Heap.Ns1.of_empty nd) fun h' O3 sb=>?_)))
 obtain ⟨oD,esD,epD,z1,z2,z3⟩:=O3.count (Within.cons "place" v Within.nil)
 refine wpAny_bind (wpAny_lookBehind z1 (by rw [z2]; exact pastItsLine_dict (oq z3 (by rw [GU,PC,sizeLine_eq]; omega))) ?_)
 refine wpAny_pure (h h' _ (fun b o nb q=>?_) ((sb.2 e ne).trans g2) O3)
 have nb2:b≠hp.objs.size:=iu (dZ q)
 refine (sb.2 b nb2).trans ?_
 rw [← hu,Heap.get?_update_ne _ _ _ _ nb]
 exact dH _ q
theorem Cf {v:Value} {vs:Array Value} {Q:Unit→Shared→Prop} (X:K.In s.heap) (xc:XC K C tl) (f:XF K C) (he:s.heap.get? e=some oe) (hc:oe.cls = .ref C) (hd:oe.data = .fields vs) (hn:oe.dict=none)
  (h:∀ h' ED,(∀ b o,b≠e→s.heap.get? b=some o→h'.get? b=some o)→h'.get? e=some { oe with dict:=some s.heap.objs.size }→h'.Ns1 s.heap.objs.size (fun y=>if y="place" then some v else none)→Q () { s with heap:=h',toks:=ED }) :
  wpAny (model prog w) A (setAttr (.ref e) "place" v) Q E s:=by
 have I:InstAt s.heap e oe C none:=⟨he,hc,by unfold PySem.W.notCls; rw [hd],by rw [hn]; trivial⟩
 have L:Looks (model prog w) s.heap (specialOf (.ref e) "__setattr__") (some (.builtin "object.__setattr__")):=I.type.andThen (looks_findIn X f.sa)
 unfold setAttr callSpecial?
 refine wpAny_bind (wpAny_mkText (wpAny_bind (wpAny_bind (L.here (s:={ s with toks:=s.toks+1 }) (wpAny_holding ?_)))))
 rw [F.store_ValueError.slot.bind]
 refine wpAny_bind (wpAny_pure (wpAny_bind ?_))
 refine wpAny_call (I_ (s:={ s with toks:=s.toks+1 }) (vs:=vs) X xc f he hc hd hn fun h' ED k1 k2 k3=>?_)
 exact wpAny_pure (wpAny_pure (h h' ED k1 k2 k3))
end
end EX
namespace EX
open PySem PySem.Spec PySem.Calls PyProof.Rows L2
open PySem.W (findIn typeIn clsIn subIn mroIn specialIn takesIn looks_findIn Looks InstAt)
theorem Ja:∀ n:Fin 101,((toString (n.val:Int):String):Str).length≤8:=by decide +kernel
theorem Fg {H:Hp} {a:Addr} {o:HO} (h:H a=some o):upd H a o=H:=by
 funext b
 unfold upd
 split
 · rename_i z; rw [z,h]
 · rfl
section
variable {X:Cx}
def YJ (tv:TE):TE:=fun σ H Q=>tv σ H fun v H1=>∃ i:Int,v = .int i∧0≤i∧i≤100∧∀ x,Q (.str x) H1
theorem A8 {a b:Str} {j1 j2:Nat} {p1 p2 p3 p:Pos} {value:Expr} {tv:TE} (hv:PE X value tv) (hl:a.length+b.length≤1000:=by decide +kernel) :
  PE X (.JoinedStr [.Constant (.str a) j1 p1,.FormattedValue value (-1) none p2,.Constant (.str b) j2 p3] p) (YJ tv):=by
 intro pins s σ H Q I h
 refine wpAny_JoinedStr ?_
 show Joins _ _ _ [eval (.Constant (.str a) j1 p1) X.env,eval (.FormattedValue value (-1) none p2) X.env,eval (.Constant (.str b) j2 p3) X.env] _ _ _
 refine Calls.Constant_str ⟨a,_,rfl,?_,?_⟩
 · rw [strLen_append]; rw [sizeLine_eq]; show (0:Nat)+_≤_; omega
 refine wpAny_FormattedValue_plain (bT (hv pins _ σ H _ (I.tok _) h) fun u s1 ⟨v,H1,I1,r,i,ev,h0,h1,q⟩=>?_)
 subst ev
 obtain ⟨t,rfl⟩:=r
 have WX:i.natAbs.log2 < 1920:=by
  have:i.natAbs≤100:=by omega
  exact Nat.lt_of_le_of_lt (Nat.log2_le_self _) (by omega)
 have hi:((toString i:String):Str).length≤8:=by
  have:=Ja ⟨i.toNat,by omega⟩
  rw [show ((i.toNat:Nat):Int)=i from Int.toNat_of_nonneg h0] at this
  exact this
 refine wpAny_formatField_int WX ⟨_,_,rfl,?_,?_⟩
 · rw [strLen_append,strLen_append,sizeLine_eq]; show (0:Nat)+_+_≤_; omega
 refine Calls.Constant_str ⟨b,_,rfl,?_,?_⟩
 · rw [strLen_append,strLen_append,strLen_append,sizeLine_eq]; show (0:Nat)+_+_+_≤_; omega
 refine ⟨?_,.str _,H1,I1.tok _,⟨_,rfl⟩,q _⟩
 rw [strLen_append,strLen_append,strLen_append,sizeLine_eq]; show (0:Nat)+_+_+_≤_; omega
end
abbrev YK (C:Addr) (dd:Option Addr) (t:Addr):Obj:=⟨.ref C,dd,.fields #[.ref t,.none,.none,.none,.bool false,.none],#[]⟩
def vX (C e:Addr) (dd:Option Addr):Heap→Prop:=fun h=>∃ t,h.get? e=some (YK C dd t)
theorem A9 {P:Program} {w:World} {H:Hp} {h:Heap} {C e t:Addr} {dd:Option Addr} (q:h.get? e=some (YK C dd t)):bQ P w H h e (.ext (vX C e dd)) :=
 ⟨⟨t,q⟩,⟨_,q⟩,fun _ _ ⟨t,a⟩ k=>⟨t,k _ a⟩⟩
structure XS (K:PySem.W.Frag) (S:Addr):Prop where
 ga:specialIn K (.ref S) "__getattribute__" = some (some (.builtin "type.__getattribute__"))
 rd:PySem.W.readsIn K S (.type "type")=true
 fi:PySem.W.findCls K (.ref S) (.type "type") "__init__" = some (.val (.builtin "ValueError.__init__"))
theorem mv {fs ex:List Addr} {H H1:Hp} {h h':Heap} {a:Addr} {o:HO} (u:Un fs ex H H1 h h') (n:H1 a=none) (f:h.get? a=none):Un fs ex H (upd H1 a o) h h' where
 keep:=u.keep
 slot:=u.slot
 free:=fun b ob q z x=>by rw [aK (fun e=>by subst e; rw [f] at q; cases q)]; exact u.free b ob q z x
 there:=u.there
 ja:=fun b xs q=>by have:=u.ja b xs q; rw [aK (aX this n)]; exact this
 iw:=fun b ob xs q=>by have:=u.iw b ob xs q; rw [aK (aX this n)]; exact this
 jb:=fun b ps q=>by obtain ⟨m,this⟩:=u.jb b ps q; exact ⟨m,by rw [aK (aX this n)]; exact this⟩
theorem j_ {P:Program} {w:World} {H:Hp} {h:Heap} {a:Addr} {o:HO} (ok:ki P w H h) (n:H a=none) (new:bQ P w (upd H a o) h a o):ki P w (upd H a o) h:=fun b u q=>by
 by_cases e:b=a
 · subst e; rw [aQ] at q; cases q; exact new
 · rw [aK e] at q
   exact (ok b u q).oQ (fun _ _ _ z=>z) (fun c z=>by rw [aK (aX z n)]; exact z) fun c xs z=>by rw [aK (aX z n)]; exact z
section
variable {X:Cx} {C S:Addr} {tl:List Addr}
def NM (C:Addr) (ta:TA):TE:=fun σ H Q=>ta σ H fun vs H1=>∃ e x,vs=[.ref e,.str x]∧H1 e=some (.ext (vX C e none))∧Q .bb H1
theorem qV {x:Str} {e0:Expr} {es:List Expr} {p1 p2 pos:Pos} {ta:TA} (xs:XS X.K S) (hg:Gl X x) (hm:X.mg x=some (.ref S)) (xc:XC X.K C tl) (ha:PA X (e0 :: es) ta) (hd:gk x:=by decide)
  {pl:Sem Bool} (ht:eval (.Call (.Attribute (.Name x p1) "__init__" p2) (e0 :: es) [] pos) X.env=(do
   let ov ← eval (.Name x p1) X.env
   standAt p2.atName
   let (f,first) ← holding [ov] (getMethod ov "__init__" pl)
   callWith pos f first (backTo pos (starEach (e0 :: es) X.env)) (backToKw pos (keywordEach [] X.env))):=by rfl)
  (G_:starEach (e0 :: es) X.env=(false,eval e0 X.env) :: starEach es X.env:=by rfl) (gj:(backTo pos (starEach es X.env)).any (·.1)=false:=by rfl) :
  PE X (.Call (.Attribute (.Name x p1) "__init__" p2) (e0 :: es) [] pos) (NM C ta):=by
 intro pins s σ H Q I h
 refine PySem.W.methodCall_KW (pl:=pl) (iA I hg hm ?_ hd) ht
 refine PySem.W.method_cls I.kq xs.ga (PySem.W.cls_value I.kq xs.rd xs.fi (by decide +kernel) ?_)
 refine callWith_builtin1 (bT (ha pos pins _ σ H _ (I.tok _) h) fun us s1 ⟨vs,H1,I1,r,e,y,ev,eh,q⟩=>?_) G_ gj
 subst ev
 obtain ⟨u1,r1,rfl,z1,r⟩:∃ u1 r1,us=u1 :: r1∧RelV (.ref e) u1∧Vals [.str y] r1:=by cases r with | cons a b=>exact ⟨_,_,rfl,a,b⟩
 obtain ⟨u2,r2,rfl,z2,r⟩:∃ u1 r2,r1=u1 :: r2∧RelV (.str y) u1∧Vals [] r2:=by cases r with | cons a b=>exact ⟨_,_,rfl,a,b⟩
 cases r
 obtain rfl:u1=Value.ref e:=z1
 obtain ⟨⟨t,oe⟩,_,_⟩:=I1.bB e _ eh
 refine Ce I1.kq xc oe rfl rfl rfl (by show (1:Nat)≤sizeLine; rw [sizeLine_eq]; omega) fun h' k1 k2=>?_
 refine ⟨.bb,H1,?_,rfl,q⟩
 have:=I1.write (o:=.ext (vX C e none)) (h':=h') (t':=s1.toks) (by rw [eh]; trivial) (.inl rfl) k1 ⟨_,k2⟩ (A9 (t:=s1.heap.objs.size) k2)
 rw [Fg eh] at this
 exact this
def sPl (C:Addr) (to tv:TE):TS:=fun D σ H=>tv σ H fun y H1=>to σ H1 fun x H2=>∃ e i,y = .int i∧x = .ref e∧H2 e=some (.ext (vX C e none)) ∧
 ∀ dx,H2 dx=none→dx≠e→D.nx σ (upd (upd H2 e (.ext (vX C e (some dx)))) dx (.xd [("place",.int i)]))
theorem Fh {o value:Expr} {pos pos':Pos} {to tv:TE} (xc:XC X.K C tl) (f:XF X.K C) (ho:PE X o to) (hv:PE X value tv) (hs:swapsWith value (some (.Attribute o "place" pos')) pos.line X.env=pure false:=by rfl) :
  PS X (.Assign [.Attribute o "place" pos'] value pos) (sPl C to tv):=by
 intro pins s σ H D I h
 refine plainObj_wpAny_Assign_Attribute (bT (hv pins s σ H _ I h) fun u s1 ⟨y,H1,I1,ry,q⟩=>bT (ho pins s1 σ H1 _ I1 q) fun ov s2 ⟨x,H2,I2,rx,e,i,ey,ex,eh,q2⟩=>?_) hs
 subst ey ex
 obtain rfl:ov=Value.ref e:=rx
 obtain ⟨t,rfl⟩:=ry
 obtain ⟨⟨t0,oe⟩,_,_⟩:=I2.bB e _ eh
 refine Cf I2.kq xc f oe rfl rfl rfl fun h' ED k1 k2 k3=>?_
 have ne:s2.heap.objs.size≠e:=C8 (dZ oe)
 have fr:H2 s2.heap.objs.size=none:=I2.bB.fresh (cZ _)
 refine ⟨σ,_,?_,q2 s2.heap.objs.size fr ne⟩
 have hw:=I2.bB.write (o':=.ext (vX C e (some s2.heap.objs.size))) (h':=h') (e:=e) (by rw [eh]; trivial) (.inl rfl) k1 ⟨_,k2⟩ (A9 (t:=t0) k2)
 have uw:=Un.write (fs:=X.fs) (ex:=[]) (o:=.ext (vX C e (some s2.heap.objs.size))) (h':=h') (H:=H2) (x:=e) (e:=e) (by rw [eh]; trivial) (.inl rfl) k1 ⟨_,k2⟩
 have n1:upd H2 e (.ext (vX C e (some s2.heap.objs.size))) s2.heap.objs.size=none:=by rw [aK ne]; exact fr
 refine I2.un (t':=ED) (mv uw n1 (Pt (cZ _))) (j_ hw n1 ⟨_,k3,fun y=>?_⟩)
 by_cases z:y="place"
 · subst z; show kC (some (V.int i)) (some (Value.int i t)); exact ⟨t,rfl⟩
 · show kC (List.lookup y [("place",V.int i)]) _
   rw [if_neg z,GS,beq_eq_false_iff_ne.mpr z]
   trivial
end
end EX
namespace EX
open PySem PySem.Spec PySem.Calls PyProof.Rows L2
open PySem.W (findIn typeIn Looks InstAt)
def A_ (P:Program) (w:World):yt:=fun outer H s E v s'=>∃ e C dd T H',v = .ref e∧s'.os=s.os∧AllBare s'.gens∧Un (ll outer) [] H H' s.heap s'.heap∧ki P w H' s'.heap∧Flt s'.heap e C dd (some T) .none ∧
 s.heap.get? e=none∧s.heap.get? T=none∧H' e=none∧H' T=none∧E (.ref C) dd H'
def del (H:Hp) (e:Addr):Hp:=fun b=>if b=e then none else H b
theorem mw {H:Hp} {e:Addr}:del H e e=none:=by unfold del; rw [if_pos rfl]
theorem gP {H:Hp} {e b:Addr} (h:b≠e):del H e b=H b:=by unfold del; rw [if_neg h]
theorem NN {fs ex:List Addr} {H:Hp} {h:Heap} {e:Addr} {φ:Heap→Prop} (q:H e=some (.ext φ)):Un fs ex H (del H e) h h where
 keep:=fun _ _ z _ _ _=>z
 slot:=fun b o z _ _ _=>⟨o.slots,z⟩
 free:=fun b o _ z _=>by by_cases y:b=e; rw [y]; exact mw; rw [gP y]; exact z
 there:=fun b o z _=>⟨o,z⟩
 ja:=fun b xs z=>by rw [gP (fun y=>by rw [y,q] at z; cases z)]; exact z
 iw:=fun b o u z=>by rw [gP (fun y=>by rw [y,q] at z; cases z)]; exact z
 jb:=fun b ps z=>⟨#[],by rw [gP (fun y=>by rw [y,q] at z; cases z),z]; simp⟩
theorem Jb {P:Program} {w:World} {H:Hp} {h:Heap} {e:Addr} {φ:Heap→Prop} (ok:ki P w H h) (q:H e=some (.ext φ)):ki P w (del H e) h:=fun b u z=>by
 have n:b≠e:=fun y=>by rw [y,mw] at z; cases z
 rw [gP n] at z
 exact (ok b u z).oQ (fun _ _ _ y=>y) (fun c y=>by rw [gP (fun x=>by rw [x,q] at y; cases y)]; exact y) fun c xs y=>by rw [gP (fun x=>by rw [x,q] at y; cases y)]; exact y
theorem Jc {h:Heap} {e C:Addr} {dd:Option Addr} (q:vX C e dd h):Flt h e C dd none .none:=let ⟨t,a⟩:=q; ⟨_,_,a,rfl,rfl,rfl,by simp,rfl⟩
theorem jO {P:Program} {w:World} {H:Hp} {h:Heap} {a:Addr} {o:HO} (x:bQ P w H h a o):∃ u,h.get? a=some u:=by
 cases o with
 | lst xs=>obtain ⟨_,_,_,_,e⟩:=x; exact ⟨_,e⟩
 | tup xs=>obtain ⟨_,_,_,_,e,_⟩:=x; exact ⟨_,e⟩
 | dK aV=>obtain ⟨_,_,_,_,o,_,_,e,_⟩:=x; exact ⟨_,e⟩
 | dT aV=>obtain ⟨_,_,_,_,o,_,_,e,_⟩:=x; exact ⟨_,e⟩
 | set S n=>obtain ⟨o,_,_,_,e,_⟩:=x; exact ⟨_,e⟩
 | ins C dx fs=>obtain ⟨_,_,_,e,_⟩:=x; exact ⟨_,e⟩
 | own y=>exact x
 | xd fs=>obtain ⟨_,⟨_,_,_,e,_⟩,_⟩:=x; exact ⟨_,e⟩
 | Tw lo hi=>obtain ⟨_,_,_,e⟩:=x; exact ⟨_,e⟩
 | vT ob u=>exact ⟨_,x.1⟩
 | Kn ps=>exact ⟨_,show h.get? a=some _ from x⟩
 | met f y=>exact ⟨_,show h.get? a=some _ from x⟩
 | ext φ=>exact x.2.1
theorem NO {P:Program} {w:World} {K:PySem.W.Frag} {mg:Str→Option Value} {base:Heap} {N:List Str} {qual:Str} {scope:Scope} {f:Addr} {cd:Value} {A:Around} {outer:List Env} {s s':Shared} {H H':Hp} {E:XK} {pins:List (Addr×Obj)} {σ:L2.St}
  {e C:Addr} {dd T:Option Addr} (I:Inv (dy (A_ P w) P w K mg base N qual scope f cd A outer s H E) pins σ H' s') (F:Flt s'.heap e C dd T .none) (he:H' e=none) (hT:∀ a,T=some a→H' a=none)
  (ne:s.heap.get? e=none) (nT:∀ a,T=some a→s.heap.get? a=none) (hE:E (.ref C) dd H'):(dy (A_ P w) P w K mg base N qual scope f cd A outer s H E).xe (.ref e) s':=by
 have st:=I.stack
 have fr:=I.pj
 have GL:=I.ok.frames
 have nf:=F.G4 st
 refine Fe GL st rfl F fun h2 T2 F2 n2 k=>?_
 have lt:∀ b o,s.heap.get? b=some o→b≠s.heap.objs.size:=fun b o q=>iu (dZ q)
 have cn:∀ b o,s.heap.get? b=some o→b≠e∧T≠some b:=fun b o q=>⟨fun z=>by (rw [z,ne] at q; cases q),fun z=>by (rw [nT b z] at q; cases q)⟩
 have Ui:∀ b,b∈ll (envOfC qual scope s.heap.objs.size f cd :: outer)→b=s.heap.objs.size∨b∈ll outer:=fun b hb=>by
  rcases fg.mp (show b∈s.heap.objs.size :: ll outer from hb) with z | z
  · exact .inl z
  · exact .inr z
 have u:Un (ll outer) [] H H' s.heap s'.heap:=I.base
 have hk:∀ b u,H' b=some u→b≠e∧T≠some b∧b∉ll (envOfC qual scope s.heap.objs.size f cd :: outer):=fun b u z=>⟨fun y=>by (rw [y,he] at z; cases z),fun y=>by (rw [hT b y] at z; cases z),fun y=>by (rw [fr b y] at z; cases z)⟩
 refine ⟨e,C,dd,T2,H',rfl,I.os,I.bare,⟨fun b o q n Uj _=>?_,fun b o q n Uj _=>?_,fun b o q n _=>u.free b o q n (by simp),fun b o q _=>?_,u.ja,u.iw,u.jb⟩,fun b u z=>?_,F2,ne,?_,he,?_,hE⟩
 · exact k.keep b o (u.keep b o q n Uj (by simp)) (cn b o q).1 (cn b o q).2 fun z=>(Ui b z).elim (lt b o q) Uj
 · obtain ⟨sl,q1⟩:=u.slot b o q n Uj (by simp)
   obtain ⟨Ax,q2⟩:=k.any q1 (cn b o q).1 (cn b o q).2
   exact ⟨Ax,q2⟩
 · obtain ⟨o1,q1⟩:=u.there b o q (by simp)
   obtain ⟨sl,q2⟩:=k.any q1 (cn b o q).1 (cn b o q).2
   exact ⟨_,q2⟩
 · refine (I.bB b u z).oQ (fun c v hc q=>?_) (fun _ y=>y) fun _ _ y=>y
   have hh:∃ u,H' c=some u:=by
    rcases hc with y | y
    · exact ⟨u,by rw [y]; exact z⟩
    · exact ⟨_,y⟩
   obtain ⟨u',y⟩:=hh
   obtain ⟨n1,n2',n3⟩:=hk c u' y
   exact k.keep c v q n1 n2' n3
 · cases q:s.heap.get? T2 with
   | none=>rfl
   | some o =>
     obtain ⟨o1,q1⟩:=u.there T2 o q (by simp)
     rw [n2] at q1; cases q1
 · cases q:H' T2 with
   | none=>rfl
   | some o =>
     obtain ⟨o1,q1⟩:=jO (I.bB T2 o q)
     rw [n2] at q1; cases q1
def Uk (C:Addr):Sp:=fun vs H Q _=>∃ e i,vs=[.ref e,.int i]∧0≤i∧i≤100∧H e=some (.ext (vX C e none)) ∧
 ∀ dx,H dx=none→dx≠e→Q .bb (upd (upd H e (.ext (vX C e (some dx)))) dx (.xd [("place",.int i)]))
structure XP (P:Program) (w:World) (K:PySem.W.Frag) (mg:Str→Option Value) (base:Heap) (x:Str) (C:Addr) (k:Nat):Prop where
 m:mg x=some (.ref C)
 kp:PySem.W.keepIn K (.ref C)=true
 xc:∃ tl,XC K C tl
 init:∃ fI fd,findIn K (.ref C) "__init__" = some (some (.ref fI))∧typeIn K (.ref fI)=some (.type "function")∧Binds K fd ["self","place"] []∧cF P w K mg base ip k fI fd ["self","place"] (Uk C)
section
variable {X:Cx} {C:Addr} {k:Nat} {x:Str}
def WY (C:Addr) (t:TA):TE:=fun σ H Q=>t σ H fun vs H1=>∃ i,vs=[.int i]∧0≤i∧i≤100∧∀ e dx,H1 e=none→H1 dx=none→dx≠e→Q (.ref e) (upd (upd H1 e (.ext (vX C e (some dx)))) dx (.xd [("place",.int i)]))
theorem NP {a:Expr} {es:List Expr} {p pos:Pos} {t:TA} (xp:XP X.prog X.w X.K X.mg X.base x C k) (hr:bj (k+1) X.A) (hg:Gl X x) (ha:PA X (a :: es) t) (lH:gk x:=by decide)
  (he:starEach (a :: es) X.env=(false,eval a X.env) :: starEach es X.env:=by rfl) (gj:(backTo pos (starEach es X.env)).any (·.1)=false:=by rfl):PE X (.Call (.Name x p) (a :: es) [] pos) (WY C t):=by
 intro pins s σ H Q I h
 obtain ⟨tl,xc⟩:=xp.xc
 obtain ⟨fI,fd,hi,ht,hb,F⟩:=xp.init
 refine wpAny_Call_Name_kw (iA I hg xp.m ?_ lH)
 refine Px (h₀:=X.base) I.ok.mod.LK xp.kp (bT (ha pos pins s σ H _ I h) fun us s1 ⟨vs,H1,I1,r,i,ev,h0,h1,q⟩=>⟨I1.kq,?_⟩) he gj
 subst ev
 obtain ⟨u1,r1,rfl,z1,r⟩:∃ u1 r1,us=u1 :: r1∧RelV (.int i) u1∧Vals [] r1:=by cases r with | cons a b=>exact ⟨_,_,rfl,a,b⟩
 cases r
 refine Cc (g:=s1.gens) (d:=s1.drawn) (t:=s1.toks) (os:=s1.os) I1.kq xc hi ht (fun h' e hm=>?_) (by show (1:Nat)≤sizeLine; rw [sizeLine_eq]; omega)
 obtain ⟨t0,NL,_,_⟩:=hm.there
 have n1:H1 e=none:=by
  cases q:H1 e with
  | none=>rfl
  | some o=>obtain ⟨u,z⟩:=jO (I1.bB e o q); rw [hm.new] at z; cases z
 have I2:Inv X pins σ (upd H1 e (.ext (vX C e none))) { s1 with heap:=h' }:=I1.un (t':=s1.toks) (mv (Un.kept hm.keeps) n1 hm.new) (j_ (I1.bB.kept hm.keeps) n1 (A9 NL))
 have r2:Vals [V.ref e,.int i] [Value.ref e,u1]:=.cons rfl (.cons z1 .nil)
 refine wpAny_call (codeAny_mono (F.run _ X.stack _ _ ⟨[Value.ref e,u1],[]⟩ [Value.ref e,u1] _ (fun v H2=>v = .bb∧Q (.ref e) H2) E0 (hr.make C [u1] []) (I2.Mf.make C [u1] []) (hb _ [Value.ref e,u1] I2.kq rfl) r2 ⟨e,i,rfl,h0,h1,aQ,fun dx d1 d2=>⟨rfl,?_⟩⟩) fun r s' hq=>?_)
 · have d3:H1 dx=none:=by rw [aK d2] at d1; exact d1
   have:=q e dx n1 d3 d2
   rw [G0]
   exact this
 · cases r with
   | error e=>exact False.elim hq
   | ok fl =>
     cases fl with
     | ret u =>
       obtain ⟨v,H2,I3,rv,rfl,q2⟩:=I2.after hq
       refine ⟨?_,.ref e,H2,I3,rfl,q2⟩
       exact rv
     | _=>exact False.elim hq
def NQ (X:Cx) (te:TE):TS:=fun _ σ H=>te σ H fun v H1=>∃ e C dd tl,v = .ref e∧XC X.K C tl∧H1 e=some (.ext (vX C e dd)) ∧
 ∀ pins s,Inv X pins σ H1 s→Inv X pins σ (del H1 e) s→Flt s.heap e C dd none .none→X.xe (.ref e) s
theorem xx {e:Expr} {pos:Pos} {te:TE} (hc:X.calm=true) (he:PE X e te):PS X (.Raise (some e) none pos) (NQ X te):=by
 intro pins s σ H D I h
 rw [arm_exec_Raise]
 refine wpAny_bind (wpAny_standAt ?_)
 unfold raiseStmt
 refine wpAny_bind (wpAny_bind (bT (he pins s σ H _ I h) fun v s1 ⟨x,H1,I1,r,e,C,dd,tl,ex,xc,eh,q⟩=>?_))
 subst ex
 obtain rfl:v=Value.ref e:=r
 have hh:=I1.ok.hd hc
 obtain ⟨nm,q',N,bs,sn,sub,ab,col,yX,k0,k1,k2,k3,k5,oK⟩:=xc.obj
 have oC:=I1.kq _ _ oK
 obtain ⟨⟨t,oe⟩,_,_⟩:=I1.bB e _ eh
 have hE:X.xe (.ref e) s1:=q pins s1 I1 (I1.un (t':=s1.toks) (NN eh) (Jb I1.bB eh)) (Jc ⟨t,oe⟩)
 have hcB:(Value.ref C :: (tl.map Value.ref ++ GN)).contains (.type "BaseException")=true:=by simp
 obtain ⟨hp,g,dr,tk,os⟩:=s1
 repeat (first | with_reducible refine wpAny_loadPart_at oe ?_ | with_reducible refine wpAny_loadPart_at oC ?_ | (with_reducible refine wpAny_isSubtype_exc oC ?_; rw [hcB]) | wp_step)
 exact wpAny_raiseNew_none hh hE
end
end EX
namespace EX
open PySem PySem.Spec PySem.Calls PyProof.Rows L2 VT
abbrev WT:=Addr→Option Int→Prop
def Jd (H:Hp) (dd:Option Addr):Option Int→Prop
 | none=>dd=none
 | some i=>∃ d,dd=some d∧H d=some (.xd [("place",.int i)])
def zt (K:PySem.W.Frag) (n:Nat) (G:WT→List T→(Rt→Prop)→Prop):Sp:=fun vs H Q E=>∃ W,bZ K n (G W) vs H Q E∧∀ C p dd H',aM H H'→Jd H' dd p→W C p→E (.ref C) dd H'
structure Pf (X:Cx) (Z:Zc) (W:WT):Prop where
 calm:X.calm=true
 own:PassesOwn (model X.prog X.w) X.A X.env X.xe
 P0:Z.P=[]
 H0:Z.H0=X.H₀
 ex:X.ex=[]
 xe:∀ pins σ H s e C dd T p,Inv X pins σ H s→Flt s.heap e C dd T .none→H e=none→(∀ a,T=some a→H a=none)→X.s₀.heap.get? e=none→(∀ a,T=some a→X.s₀.heap.get? a=none)→aM Z.H0 H→Jd H dd p→W C p→X.xe (.ref e) s
theorem qW {K:PySem.W.Frag} {Z:Zc} {tm:List (T×V)} {O:List (Option Addr)} {ρ:En} {σ:L2.St} {H:Hp} (h:Z.P=[]) (I:aA K Z tm O ρ σ H):aM Z.H0 H:=fun b o e=>I.keep b o e (by rw [h]; simp)
section
variable {X:Cx} {Z:Zc} {W:WT} {C f:Addr} {fd:FuncData} {ps:List Str} {k n:Nat} {x:Str} {g:FA}
def NR (W:WT) (C:Addr) (g:FA):FS:=fun _ ρ=>g ρ fun ts=>∃ i:Int,ts=[.int i]∧0≤i∧i≤100∧W C (some i)
theorem jP {a:Expr} {np a9 pos:Pos} (hw:Pf X Z W) (xp:XP X.prog X.w X.K X.mg X.base x C k) (hr:bj (k+1) X.A) (hg:Gl X x) (ha:VA X Z [a] g) (lH:gk x:=by decide)
  (he:starEach [a] X.env=(false,eval a X.env) :: starEach [] X.env:=by rfl) (gj:(backTo a9 (starEach [] X.env)).any (·.1)=false:=by rfl) :
  VS X Z (.Raise (some (.Call (.Name x np) [a] [] a9)) none pos) (NR W C g):=.mk fun tm=>PS.weak (xx hw.calm (NP xp hr hg (ha tm) lH he gj)) fun D σ H ⟨ρ,O,d,I,q,F⟩ =>
 ⟨ρ,O,_,I,q,fun ts ⟨i,ets,h0,h1,hW⟩ vs H1 s1 a1=>by
   subst ets
   simp only [aI,At] at a1
   obtain ⟨v,r,rfl,rfl,rfl⟩:=a1
   refine ⟨i,rfl,h0,h1,fun e dx n1 n2 n3=>?_⟩
   obtain ⟨tl,xc⟩:=xp.xc
   have eu:upd (upd H1 e (.ext (vX C e (some dx)))) dx (.xd [("place",.int i)]) e=some (.ext (vX C e (some dx))):=by rw [aK (Ne.symm n3),aQ]
   refine ⟨e,C,some dx,tl,rfl,xc,eu,fun pins s J J2 fl=>?_⟩
   have sm:aM Z.H0 H1:=(qW hw.P0 I).trans s1
   have z0:Z.H0 e=none:=sm.free n1
   refine hw.xe pins σ _ s e C (some dx) none (some i) J2 fl mw (fun _ z=>nomatch z) ?_ (fun _ z=>nomatch z) (fun b o z=>?_) ⟨dx,rfl,by rw [gP n3,aQ]⟩ hW
   · cases q2:X.s₀.heap.get? e with
     | none=>rfl
     | some o =>
       have:=J.base.free e o q2 (by rw [← hw.H0]; exact z0) (by rw [hw.ex]; simp)
       rw [eu] at this; cases this
   · have z1:=sm b o z
     have b1:b≠e:=fun y=>by rw [y,n1] at z1; cases z1
     have b2:b≠dx:=fun y=>by rw [y,n2] at z1; cases z1
     rw [gP b1,aK b2,aK b1]
     exact z1⟩
theorem RA (hw:Pf X Z W):Passes (A_ X.prog X.w) X (fun c dd H'=>∃ C p,c = .ref C∧aM Z.H0 H'∧Jd H' dd p∧W C p):=by
 rintro pins σ H s _ s' I ⟨e,C,dd,T,H',rfl,os,bare,un,bB,fl,n1,n2,n3,n4,C',p,eC,sm,pl,hW⟩
 cases eC
 have J:=I.Dv os un bB bare fun b z=>nomatch z
 have fr:∀ a,s.heap.get? a=none→X.s₀.heap.get? a=none:=fun a z=>by
  cases q:X.s₀.heap.get? a with
  | none=>rfl
  | some o=>obtain ⟨o',q'⟩:=I.base.there a o q (by rw [hw.ex]; simp); rw [z] at q'; cases q'
 exact hw.xe pins σ H' s' e C dd (some T) p J fl n3 (fun a z=>by cases z; exact n4) (fr e n1) (fun a z=>by cases z; exact fr _ n2) sm pl hW
def NT (n:Nat) (g:FA) (G:WT→List T→(Rt→Prop)→Prop) (W:WT):FS:=fun d ρ=>g ρ fun ts=>ts.length=n∧∃ W',(∀ C p,W' C p→W C p)∧G W' ts fun r=>r = .vw .bb∧d.nx ρ
theorem jQ {e:Expr} {es:List Expr} {G:WT→List T→(Rt→Prop)→Prop} {p pos pos':Pos} (hw:Pf X Z W) (F:cF X.prog X.w X.K X.mg X.base (A_ X.prog X.w) k f fd ps (zt X.K n G)) (hr:bj k X.A) (hg:Gl X x) (hm:X.mg x=some (.ref f)) (hk:PySem.W.keepIn X.K (.ref f)=true) (hb:Binds X.K fd ps [])
  (ha:GF X Z (e :: es) g) (lH:gk x:=by decide) (he:starEach (e :: es) X.env=(false,eval e X.env) :: starEach es X.env:=by rfl) (gj:(backTo pos (starEach es X.env)).any (·.1)=false:=by rfl)
  (hs:swapsWith (.Call (.Name x p) (e :: es) [] pos) none pos'.line X.env=pure false:=by rfl) :
  VS X Z (.Expr (.Call (.Name x p) (e :: es) [] pos) pos') (NT n g G W):=.mk fun tm=>PS.weak (lC (j4 F hr hg hm hk hb .nil (RA hw) (ha tm) lH he gj) hs) fun D σ H ⟨ρ,O,d,I,q,F⟩ =>
 ⟨ρ,O,_,I,q,fun ts ⟨hn,W',sub,hG⟩ vs H1 s1 a1=>by
   have J:=I.same s1
   have sm:aM Z.H0 H1:=(qW hw.P0 I).trans s1
   have a2:aI X.K H1 [] ts vs:=aI.iff.mpr (Paired.mZ a1 fun _ _ z=>z.bare)
   show zt X.K n G (vs ++ []) H1 _ _
   rw [Dm]
   refine ⟨W',⟨ts,[],[],fun _ r=>r = .vw .bb∧d.nx ρ,GY,fun _ z=>absurd z ko,fun _ z=>absurd z ko,eD hn a2,hG,fun us r ⟨hr,hd⟩ v H' fr z=>?_⟩,fun C p dd H' s2 pl w=>⟨C,p,rfl,sm.trans s2,pl,sub C p w⟩⟩
   subst hr
   have s2:aM H1 H':=fun b o e=>fr b o e ko
   exact F.nx O ρ σ H' (J.same s2) hd⟩
end
section
variable {P:Program} {w:World} {K:PySem.W.Frag} {mg:Str→Option Value} {base:Heap}
def qX (P:Program) (w:World) (K:PySem.W.Frag) (mg:Str→Option Value) (base:Heap) (x:Str) (ps:List Str) (k:Nat) (sp:Sp):Prop :=
 ∃ f fd,mg x=some (.ref f)∧PySem.W.keepIn K (.ref f)=true∧Binds K fd ps []∧cF P w K mg base (A_ P w) k f fd ps sp
theorem YL:∀ n (as:List Addr) k,pz (List.replicate n false) as k=[]
 | 0,_,_=>rfl
 | n+1,as,k=>YL n as (k+1)
theorem Lb:∀ n (ρ:En),oV (List.replicate n false) ρ=[]
 | 0,_=>rfl
 | n+1,ρ=>Lb n ρ.tail
theorem RB:∀ n (ts:List T),ts.length=n→uK (List.replicate n false) ts=ts.map fun t=>some (t,false)
 | 0,ts,e=>by cases ts <;> simp_all [uK]
 | n+1,[],e=>by simp at e
 | n+1,t :: ts,e=>by rw [C5,uK,RB n ts (by simpa using e)]; rfl
theorem YM:∀ {n:Nat} {H:Hp} {A as:List Addr} {ts:List T} {vs:List V},eB K H A (List.replicate n false) as ts vs→as=[]
 | 0,_,_,_,_,_,h=>h.1
 | n+1,_,_,_,_,_,h=>let ⟨_,_,_,_,_,_,_,h⟩:=h; YM (n:=n) h
theorem RC {x qual:Str} {st:Stmt} {f:Addr} {fd:FuncData} {N ps:List Str} {k n:Nat} {G:WT→List T→(Rt→Prop)→Prop} (F:BG K x qual st f fd) (S:aH N ps (aj st)) (hn:n=ps.length)
  (gW:∀ (bw:Value) (A:Around) (outer:List Env) (s:Shared) (H:Hp) (E:XK) (Ox:List Addr),bj k (A.deeper (envOfC qual (aj st) s.heap.objs.size f bw))→∀ W ts q,G W ts q→Pf (dy (A_ P w) P w K mg base N qual (aj st) f bw A outer s H E) ⟨H,[],Ox⟩ W →
    ∃ g,lU (dy (A_ P w) P w K mg base N qual (aj st) f bw A outer s H E) ⟨H,[],Ox⟩ (cc st) g∧(ts.length=n→g { nx:=fun _=>q (.vw .bb),rt:=fun _ r=>q r } (ts.map (fun t=>some (t,false)) ++ List.replicate (N.length - ts.length) none))) :
  cF P w K mg base (A_ P w) (k+1) f fd ps (zt K n G):=by
 obtain ⟨oc,od,kV,doc,pm,an,bw,ct,Aw,rfl,lk,iy⟩:=F.ex
 refine Ku lk iy S (fun vs H Q E h=>?_) fun A outer s H vs Q E hr Kv=>?_
 · obtain ⟨W,⟨ts,as,Ox,q,_,_,_,ha,_⟩,_⟩:=h
   rw [(fN ha).2.1,ON,hn]
 · obtain ⟨W,⟨ts,as,Ox,q,nd,nx,ox,ha,hG,kk⟩,hE⟩:=Kv
   have l1:=(fN ha).1
   rw [ON] at l1
   have e0:=YM ha
   subst e0
   have hw:Pf (dy (A_ P w) P w K mg base N qual (aj st) f bw A outer s H E) ⟨H,[],Ox⟩ W :=
    ⟨rfl,PassesOwn.leaving,rfl,rfl,rfl,fun pins σ H' s' e C dd T p I fl h1 h2 h3 h4 sm pl w=>NO I fl h1 h2 h3 h4 (hE C p dd H' sm pl w)⟩
   obtain ⟨g,h1,h2⟩:=gW bw A outer s H E Ox hr W ts (q []) hG hw
   refine ⟨_,h1 [],?_⟩
   have:=qd (X:=dy (A_ P w) P w K mg base N qual (aj st) f bw A outer s H E) (N:=N) (g:=g) nd nx ox ha kk (by
    rw [RB n ts l1]
    simp only [Lb]
    exact h2 l1)
   rw [YL] at this
   exact this
end
end EX
namespace Je
open PySem L2 VT Gen wm EX fJ
abbrev bg:Stmt:=top 31
abbrev b0:Stmt:=top 33
abbrev cu:Stmt:=top 36
abbrev eQ:Stmt:=top 38
def xo (ts:List T) (q:Rt→Prop):Prop:=∃ (rs:List Rw) (i:Nat) (x f:Str) (as:List tU),ts=[.lst (rs.map aU),IV (a8 rs rs.length),.int (i:Int)]∧rs[i]?=some (Rw.call x f as)∧q (.vw (.bl (vm rs i f as)))
def hV (cB:Addr) (W:WT) (ts:List T) (q:Rt→Prop):Prop:=∃ rs:List Rw,ts=[.lst (rs.map aU)]∧rs.length≤60∧(match brk [] rs 0 with | none=>q (.vw .bb) | some i=>W cB (some (i:Int)))
def j9 (cC:Addr) (W:WT) (ts:List T) (q:Rt→Prop):Prop:=∃ rs:List Rw,ts=[.lst (rs.map aU)]∧rs.length≤60∧(match gz rs with | none=>q (.vw .bb) | some i=>W cC (some (i:Int)))
def vf (cB cC:Addr) (W:WT) (ts:List T) (q:Rt→Prop):Prop:=∃ rs:List Rw,ts=[.lst (rs.map aU)]∧rs.length≤60∧(∀ r∈rs,xm (aU r))∧(match brk [] rs 0 with
 | some i=>W cB (some (i:Int))
 | none=>match gz rs with
   | some i=>W cC (some (i:Int))
   | none=>q (.fr (.lst (rs.map aU))))
section
variable {P:Program} {w:World} {K:PySem.W.Frag} {mg:Str→Option Value} {base:Heap} {gf gA:Addr}
abbrev gd:List Str:=["program","opened","place","row"]
theorem cp:aH gd ["program"] (aj b0):=L2.gE
theorem i8 {f:Addr} {fd:FuncData} (D:Df K mg "check_blocks" b0 ["program"] f fd) (M:zj w K mg) (iV:XP P w K mg base "NoBlock" gf 1) (jG:b_ P w K mg base "may_stand" ["opened","word"] 1 (bZ K 2 NK)) (nZ:b_ P w K mg base "go_past" ["opened","word"] 1 (wB K [true,false] WW)):qX P w K mg base "check_blocks" ["program"] 3 (zt K 1 (hV gf)):=by
 obtain ⟨xr,vh,jH,jI,jJ,jK⟩:=jG
 obtain ⟨Ca,zo,n5,n6,n8,n9⟩:=nZ
 refine ⟨f,fd,D.m,D.F.kp,D.b,RC D.F cp rfl fun bw A outer s H E Ox hr W ts q hG hw=>?_⟩
 have nd:=cp.nd
 have np:∀ {i:Nat},aZ ⟨H,[],Ox⟩ i:=j5
 refine ⟨_,(af (cY (i:=1) nd rfl (Or.inl rfl) (VP.vx (bt ak)) np)
   (af (dM hw.own rfl (gw (by rfl) M.enumerate (aw 0)) (gJ (n:=2) rfl (bo (aW (i:=2) nd rfl (Or.inl rfl) np) (bo (aW (i:=3) nd rfl (Or.inl rfl) np) eU)))
     (af (aJ (cf (bY (g0 jK (hr.mono (by decide)) (by rfl) jH jI jJ (aq (aa 1) (aq (VP.vr (aG (aa 3) (VP.vr ag))) ay)))))
       (ah (jP hw iV (hr.mono (by decide)) (by rfl) (ae (aw 2) ak)))
       au)
     (ah (bV (wF n9 (hr.mono (by decide)) (by rfl) n5 n6 n8 (AQ 1 (wC (VP.ve (aG (aa 3) (VP.vr ag))) AO)))))))
   (ah (aJ (i5 (VP.vr (aE aB aD (by rfl) M.len gC (aq (aa 1) ay))) (VP.vr ag))
     (ah (jP hw iV (hr.mono (by decide)) (by rfl) (ae (VP.ve (aE aB aD (by rfl) M.len gC (aq (aa 0) ay))) ak)))
     au)))),fun _=>?_⟩
 obtain ⟨rs,rfl,hn,hq⟩:=hG
 refine ⟨ph _,?_⟩
 refine eO (fun i ρ=>∃ b2 b3 st,ρ=[some (.lst (rs.map aU),false),some (.lst (st.map .str),true),b2,b3]∧brk [] rs 0=brk st (rs.drop i) i∧st.length≤i) ⟨_,_,[],rfl,rfl,ph _⟩ ?_ ?_
 · rintro i r ρ hr ⟨b2,b3,st,rfl,hs,hl⟩
   have hi:=(e_.mp hr).1
   rw [vk hr] at hs
   obtain ⟨l,el⟩:=vb r
   rw [el]
   refine ⟨rfl,rfl,_,ax (j:=0) rfl,rfl,st,wd r,rfl,?_⟩
   cases hm:fD st (wd r) with
   | false =>
     have e2:brk [] rs 0=some i:=by rw [hs]; show (if fD st (wd r)=true then _ else _)=_; rw [hm]; rfl
     rw [e2] at hq
     exact ⟨rfl,(i:Int),rfl,by omega,by omega,hq⟩
   | true =>
     refine ⟨rfl,_,ax (j:=0) rfl,st,wd r,rfl,by omega,hm,?_⟩
     have hg:=IW hm
     refine ⟨_,_,iM st (wd r),rfl,?_,by omega⟩
     rw [hs]; show (if fD st (wd r)=true then _ else _)=_; rw [if_pos hm]
 · rintro ρ ⟨b2,b3,st,rfl,hs,hl⟩
   rw [Pz] at hs
   have vW:brk [] rs 0=if st=[] then none else some rs.length:=hs
   rw [vW] at hq
   by_cases he:st=[]
   · rw [if_pos he] at hq
     subst he
     exact hq
   · rw [if_neg he] at hq
     have hp:0 < st.length:=List.length_pos_iff.mpr he
     have WQ:((st.map T.str).length:Int)=(st.length:Int):=by rw [cV]
     refine xu (c:=decide ((0:Int) < ((st.map T.str).length:Int))) (decide_eq_true (by omega)) ?_
     have hl3:((rs.map aU).length:Int)=(rs.length:Int):=by rw [cV]
     exact ⟨((rs.map aU).length:Int),rfl,by omega,by omega,by rw [hl3]; exact hq⟩
abbrev kR:List Str:=["program","firsts","place","row","first"]
theorem eZ:aH kR ["program","firsts","place"] (aj eQ):=L2.gE
theorem oG {f:Addr} {fd:FuncData} (D:Df K mg "may_call" eQ ["program","firsts","place"] f fd) (M:zj w K mg):b_ P w K mg base "may_call" ["program","firsts","place"] 1 (bZ K 3 xo):=by
 refine D.jA (ku D.F eZ rfl fun bw A outer s H E Ox hr ts q hG=>?_)
 have nd:=eZ.nd
 have hu:=bj.fP hr
 have np:∀ {i:Nat},aZ ⟨H,[],Ox⟩ i:=j5
 have vV:=xb hu
 refine ⟨_,(af (a_ (i:=3) nd rfl (Or.inl rfl) (VP.vx (aG (aa 0) (aa 2))) np)
   (af (a_ (i:=4) nd rfl (Or.inl rfl) (VP.vx (yZ vV (aa 1) (VP.vr (aG (aa 3) (VP.vr ag))) ⟨rfl,rfl,rfl,rfl⟩)) np)
   (af (aJ (VW.vc (dF (qm (aa 4) (VP.vr cJ)) (cK (oy (aa 4) (aa 2)))))
     (ah (az (VP.vx fM)))
     au)
   (ah (az (VP.vx (ow hu (VP.vr (aE aB aD (by rfl) M.len gC (aq (VP.vr (aG (VP.vr (aG (aa 0) (aa 4))) (VP.vr ag))) ay))) (VP.vr (aE aB aD (by rfl) M.len gC (aq (VP.vr (aG (aa 3) (VP.vr ag))) ay)))))))))),fun _=>?_⟩
 obtain ⟨rs,i,x,g,as,rfl,hi,hq⟩:=hG
 refine ⟨_,pJ hi,_,ax (j:=2) rfl,?_⟩
 have ex:=qL (a8 rs rs.length) g
 dsimp only [Rt.t,yY]
 rw [ex]
 cases ha:nU (a8 rs rs.length) g with
 | none=>rw [t5 ha] at hq; exact hq
 | some j =>
   obtain ⟨_,ps,hj⟩:=g_ rs.length ha
   rw [t6 ha hj] at hq
   by_cases MB:j < i
   · rw [if_pos MB] at hq
     exact xu (c:=decide ((j:Int) < (i:Int))) (decide_eq_true (by omega)) hq
   · rw [if_neg MB] at hq
     refine dN (c:=decide ((j:Int) < (i:Int))) (decide_eq_false (by omega)) ?_
     refine ⟨_,pJ hj,_,ax (j:=2) rfl,_,ax (j:=3) rfl,?_⟩
     show q (.vw (.bl (decide (((ps.map T.str).length:Int)=((as.map tV).length:Int)))))
     rw [cV,cV]
     have e:decide ((ps.length:Int)=(as.length:Int))=decide (ps.length=as.length):=by rw [GX]; simp; omega
     rw [e]
     exact hq
abbrev gN:List Str:=["program","firsts","place","row"]
theorem cM:aH gN ["program"] (aj cu):=L2.gE
theorem jL {f:Addr} {fd:FuncData} (D:Df K mg "check_calls" cu ["program"] f fd) (M:zj w K mg) (j':XP P w K mg base "NoCall" gA 1) (iQ:b_ P w K mg base "first_defs" ["program"] 1 (bZ K 1 zl)) (kS:b_ P w K mg base "may_call" ["program","firsts","place"] 1 (bZ K 3 xo)):qX P w K mg base "check_calls" ["program"] 3 (zt K 1 (j9 gA)):=by
 obtain ⟨vj,sF,iR,iS,iT,iU⟩:=iQ
 obtain ⟨zp,xt,kT,kU,kW,kX⟩:=kS
 refine ⟨f,fd,D.m,D.F.kp,D.b,RC D.F cM rfl fun bw A outer s H E Ox hr W ts q hG hw=>?_⟩
 have nd:=cM.nd
 have hu:=bj.fP hr
 have np:∀ {i:Nat},aZ ⟨H,[],Ox⟩ i:=j5
 have vV:=xb hu
 refine ⟨_,(af (a_ (i:=1) nd rfl (Or.inl rfl) (VP.vx (aT iU (hr.mono (by decide)) (by rfl) iR iS iT (ae (aw 0) ak))) np)
   (ah (dM hw.own rfl (gw (by rfl) M.enumerate (aw 0)) (gJ (n:=2) rfl (bo (aW (i:=2) nd rfl (Or.inl rfl) np) (bo (aW (i:=3) nd rfl (Or.inl rfl) np) eU)))
     (af (aJ (VW.vc (fj (bc hu (VP.vr (aG (aa 3) (VP.vr ag))) (VP.vr ai)) (dw (gZ hu (VP.vr (EI vV (aa 1) (VP.vr (aG (aa 3) (VP.vr ag))))) (aa 2)))))
       (ah (jP hw j' (hr.mono (by decide)) (by rfl) (ae (aw 2) ak)))
       au)
     (ah (aJ (VW.vc (fj (bc hu (VP.vr (aG (aa 3) (VP.vr ag))) (VP.vr ai)) (dw (cf (bY (aT kX (hr.mono (by decide)) (by rfl) kT kU kW (ae (aw 0) (ae (aw 1) (ae (aw 2) ak)))))))))
       (ah (jP hw j' (hr.mono (by decide)) (by rfl) (ae (aw 2) ak)))
       au)))))),fun _=>?_⟩
 obtain ⟨rs,rfl,hn,hq⟩:=hG
 refine ⟨rfl,rs,rfl,hn,?_⟩
 refine eO (fun i ρ=>∃ b2 b3,ρ=[some (.lst (rs.map aU),false),some (IV (a8 rs rs.length),false),b2,b3]∧∀ j < i,bS rs j=false) ⟨_,_,rfl,fun j hj=>absurd hj (Nat.not_lt_zero _)⟩ ?_ ?_
 · rintro i r ρ hr ⟨b2,b3,rfl,hp⟩
   have hi:=(e_.mp hr).1
   have WZ:bS rs i=false→∀ j < i+1,bS rs j=false:=fun h j hj=>by
    rcases Nat.lt_succ_iff_lt_or_eq.mp hj with z | z
    · exact hp j z
    · rw [z]; exact h
   have bad:bS rs i=true→W gA (some (i:Int)):=fun h=>by
    rw [qT hi hp h] at hq
    exact hq
   cases r with
   | df g ps =>
     refine ⟨rfl,rfl,_,ax (j:=0) rfl,_,ax (j:=1) rfl,?_⟩
     have ex:=qL (a8 rs rs.length) g
     obtain ⟨j,ha⟩:=fK hr rs.length hi
     rw [ha] at ex
     refine ⟨_,ex,?_⟩
     have ew:bS rs i = !decide (j=i):=by unfold bS; rw [hr]; dsimp only; rw [ha]; simp
     by_cases GO:j=i
     · refine dN (c:=!decide ((j:Int)=(i:Int))) (by simp; omega) ⟨_,ax (j:=0) rfl,_,_,rfl,WZ (by rw [ew,decide_eq_true GO]; rfl)⟩
     · refine xu (c:=!decide ((j:Int)=(i:Int))) (by simp; omega) ⟨(i:Int),rfl,by omega,by omega,bad (by rw [ew,decide_eq_false GO]; rfl)⟩
   | call x g as =>
     have ew:bS rs i = !vm rs i g as:=by unfold bS; rw [hr]
     refine ⟨rfl,rfl,_,ax (j:=0) rfl,_,ax (j:=0) rfl,rfl,rs,i,x,g,as,rfl,hr,?_⟩
     cases hm:vm rs i g as with
     | true=>exact ⟨_,_,rfl,WZ (by rw [ew,hm]; rfl)⟩
     | false=>exact ⟨(i:Int),rfl,by omega,by omega,bad (by rw [ew,hm]; rfl)⟩
   | _=>exact ⟨rfl,rfl,_,ax (j:=0) rfl,_,ax (j:=0) rfl,_,_,rfl,WZ (by unfold bS; rw [hr])⟩
 · rintro ρ ⟨b2,b3,rfl,hp⟩
   rw [qU hp] at hq
   exact hq
abbrev bX:List Str:=["rows","program"]
theorem bL:aH bX ["rows"] (aj bg):=L2.gE
theorem gO {f:Addr} {fd:FuncData} (D:Df K mg "program_of" bg ["rows"] f fd) (M:zj w K mg) (dQ:b_ P w K mg base "check_rows" ["program"] 6 (bZ K 1 zk)) (cN:qX P w K mg base "check_blocks" ["program"] 3 (zt K 1 (hV gf))) (dh:qX P w K mg base "check_calls" ["program"] 3 (zt K 1 (j9 gA))):qX P w K mg base "program_of" ["rows"] 7 (zt K 1 (vf gf gA)):=by
 obtain ⟨mn,kz,dR,dS,dU,dW⟩:=dQ
 obtain ⟨jM,i9,cO,cP,cQ,cS⟩:=cN
 obtain ⟨kA,jN,di,dj,dm,dq⟩:=dh
 refine ⟨f,fd,D.m,D.F.kp,D.b,RC D.F bL rfl fun bw A outer s H E Ox hr W ts q hG hw=>?_⟩
 have nd:=bL.nd
 have np:∀ {i:Nat},aZ ⟨H,[],Ox⟩ i:=j5
 obtain ⟨tM,mM⟩:=M.nV
 have e7:∀ {pos},VP (dy (A_ P w) P w K mg base bX "program_of" (aj bg) f bw A outer s H E) ⟨H,[],Ox⟩ (.Name "MOST_ROWS" pos) (fC (.int 60)):=dv (by rfl) mM (v:=.int 60) ⟨_,rfl⟩ fun _ _=>bx
 refine ⟨_,(af (cY (i:=1) nd rfl (Or.inl rfl) (VP.vx (d_ fq iF (by rfl) M.list qp (aq (aa 0) ay))) np)
   (af (aJ (i5 (VP.vr (aE aB aD (by rfl) M.len gC (aq (aa 1) ay))) (VP.vr e7))
     (ah kQ)
     au)
   (af (bV (VP.vx (g0 dW (hr.mono (by decide)) (by rfl) dR dS dU (aq (aa 1) ay))))
   (af (jQ hw cS (hr.mono (by decide)) (by rfl) cO cP cQ (aq (aa 1) ay))
   (af (jQ hw dq (hr.mono (by decide)) (by rfl) di dj dm (aq (aa 1) ay))
   (ah (az (lV 1 np)))))))),fun _=>?_⟩
 obtain ⟨rs,rfl,hn,hA,hq⟩:=hG
 have hl:((rs.map aU).length:Int)=(rs.length:Int):=by rw [cV]
 refine dN (c:=decide ((60:Int) < ((rs.map aU).length:Int))) (decide_eq_false (by omega)) ?_
 refine ⟨rfl,rs,rfl,hA,rfl,rfl,W,fun _ _ z=>z,rs,rfl,hn,?_⟩
 cases hb:brk [] rs 0 with
 | some i=>rw [hb] at hq; exact hq
 | none =>
   rw [hb] at hq
   refine ⟨rfl,rfl,W,fun _ _ z=>z,rs,rfl,hn,?_⟩
   cases hc:gz rs with
   | some i=>rw [hc] at hq; exact hq
   | none =>
     rw [hc] at hq
     exact ⟨rfl,hq⟩
end
end Je
namespace EX
open PySem PySem.Spec PySem.Calls PyProof.Rows L2
open PySem.W (findIn typeIn Looks InstAt)
def NU (C e:Addr) (dd:Option Addr):Heap→Prop:=fun h=>∃ oe vs,h.get? e=some oe∧oe.cls = .ref C∧oe.dict=dd∧oe.data = .fields vs
section
variable {X:Cx} {pins:List (Addr×Obj)} {σ:L2.St} {H H1:Hp} {s s1:Shared} {h':Heap} {e:Addr} {T:Option Addr}
theorem zu (I1:Inv X pins σ H1 s1) (I:Inv X pins σ H s) (st:X.stack=X.env :: X.outer∧X.env.frame=some X.env.locals) (k:Kp (ll X.stack) e T s.heap h') (ne:s1.heap.get? e=none) (nT:∀ a,T=some a→s1.heap.get? a=none)
  (he:H e=none) (hT:∀ a,T=some a→H a=none):Inv X pins σ H { s with heap:=h' }:=by
 have Lc:∀ b o,s1.heap.get? b=some o→b≠e∧T≠some b:=fun b o q=>⟨fun z=>by (rw [z,ne] at q; cases q),fun z=>by (rw [nT b z] at q; cases q)⟩
 have Ui:∀ b,b∈ll X.stack→b=X.env.locals∨b∈X.fs:=fun b hb=>by
  rw [st.1] at hb
  unfold ll at hb
  rw [pb,st.2] at hb
  exact fg.mp hb
 have W0:∀ b o,X.s₀.heap.get? b=some o→b∉X.ex→(b≠e∧T≠some b)∧b≠X.env.locals:=fun b o q hx=>by
  obtain ⟨o',q'⟩:=I1.base.there b o q hx
  exact ⟨Lc b o' q',iu (pe (dZ q) I.ok.above)⟩
 have okT:∀ b u,H b=some u→b≠e∧T≠some b∧b∉ll X.stack:=fun b u z=>⟨fun y=>by (rw [y,he] at z; cases z),fun y=>by (rw [hT b y] at z; cases z),fun y=>by (rw [I.pj b y] at z; cases z)⟩
 have cellK:∀ x c v,X.env.cells.lookup x=some c→s.heap.IsCell c v→Heap.IsCell h' c v:=fun x c v q ⟨o,ho,hd⟩=>by
  obtain ⟨v1,o1,NV,_⟩:=I1.cell x c q
  obtain ⟨n1,n2⟩:=Lc c o1 NV
  obtain ⟨sl,q2⟩:=k.any ho n1 n2
  exact ⟨_,q2,hd⟩
 refine ⟨I.ok,I.os,I.bare,⟨fun b o q n nf hx=>?_,fun b o q n nf hx=>?_,I.base.free,fun b o q hx=>?_,I.base.ja,I.base.iw,I.base.jb⟩,?_,fun x c q=>?_,I.free,I.fm,fun p hp=>?_,fun b u z=>?_,I.len⟩
 · obtain ⟨⟨n1,n2⟩,n3⟩:=W0 b o q hx
   exact k.keep b o (I.base.keep b o q n nf hx) n1 n2 fun z=>(Ui b z).elim n3 nf
 · obtain ⟨⟨n1,n2⟩,n3⟩:=W0 b o q hx
   obtain ⟨sl,q1⟩:=I.base.slot b o q n nf hx
   obtain ⟨Ax,q2⟩:=k.any q1 n1 n2
   exact ⟨Ax,q2⟩
 · obtain ⟨⟨n1,n2⟩,n3⟩:=W0 b o q hx
   obtain ⟨o1,q1⟩:=I.base.there b o q hx
   obtain ⟨Ax,q2⟩:=k.any q1 n1 n2
   exact ⟨_,q2⟩
 · obtain ⟨m,⟨o,es,ep,ho,hd,r⟩,hl⟩:=I.loc
   obtain ⟨m1,⟨o1,_,_,NV,_⟩,_⟩:=I1.loc
   obtain ⟨n1,n2⟩:=Lc _ o1 NV
   obtain ⟨sl,q⟩:=k.any ho n1 n2
   refine ⟨m,⟨_,es,ep,q,hd,r⟩,fun i x v e1 e2 e3=>?_⟩
   obtain ⟨u,rv,l⟩:=hl i x v e1 e2 e3
   refine ⟨u,rv,?_⟩
   rcases l with l | ⟨kk,c,q,z⟩
   · exact .inl l
   · exact .inr ⟨kk,c,q,cellK x c _ q z⟩
 · obtain ⟨v,z⟩:=I.cell x c q
   exact ⟨v,cellK x c v q z⟩
 · obtain ⟨q,n,ne',nf,d⟩:=I.pin p hp
   obtain ⟨q1,_,_,_,_⟩:=I1.pin p hp
   obtain ⟨n1,n2⟩:=Lc _ _ q1
   exact ⟨k.keep p.1 p.2 q n1 n2 fun z=>(Ui _ z).elim ne' nf,n,ne',nf,d⟩
 · refine (I.bB b u z).oQ (fun c v hc q=>?_) (fun _ y=>y) fun _ _ y=>y
   have hh:∃ u,H c=some u:=by
    rcases hc with y | y
    · exact ⟨u,by rw [y]; exact z⟩
    · exact ⟨_,y⟩
   obtain ⟨u',y⟩:=hh
   obtain ⟨n1,n2,n3⟩:=okT c u' y
   exact k.keep c v q n1 n2 n3
theorem Jf {M:Model} {A:Around} {E:Value→Shared→Prop} {n:Str} {i:Nat} {pos:Pos} {Q:Unit→Shared→Prop} (I:Inv X pins σ H s) (hN:X.N.Nodup) (hi:X.N[i]?=some n) (hl:X.env.scope.names.lookup n=some .local)
  (h:∀ s',Inv X pins (σ.set i none) H s'→Q () s'):wpAny M A (do bindName X.env n .none; unbindBehindTheSuite X.env n pos) Q E s:=by
 obtain ⟨m,hn,hlk⟩:=id I.loc
 have LL:(X.env.scope.kind == .class || (X.env.scope.kind == .module && X.env.locals != X.env.globals))=false:=by rw [I.ok.kind]; rfl
 have TB:i < σ.length:=by rw [I.len]; exact (e_.mp hi).1
 obtain ⟨oL,_,_,X2,_⟩:=id hn
 refine wpAny_nameGoes_keeps hl hn LL fun h' v O3 hs=>h _ ⟨I.ok,I.os,I.bare,⟨fun b o q z hb hx=>?_,fun b o q z hb hx=>?_,I.base.free,fun b o q hx=>?_,I.base.ja,I.base.iw,I.base.jb⟩,⟨_,O3,fun j y v' e1 e2 e3=>?_⟩,fun y c q=>?_,I.free,I.fm,fun p hp=>?_,fun b ob q=>?_,by simpa using I.len⟩
 · exact (hs.2 b (iu (pe (dZ q) I.ok.above))).trans (I.base.keep b o q z hb hx)
 · obtain ⟨sl,q1⟩:=I.base.slot b o q z hb hx
   exact ⟨sl,(hs.2 b (iu (pe (dZ q) I.ok.above))).trans q1⟩
 · obtain ⟨o',q1⟩:=I.base.there b o q hx
   exact ⟨o',(hs.2 b (iu (pe (dZ q) I.ok.above))).trans q1⟩
 · have hj:j≠i:=fun z=>by
    subst z
    rw [Ao TB] at e2
    cases e2
   rw [vY (Ne.symm hj)] at e2
   obtain ⟨u',r',q⟩:=hlk j y v' e1 e2 e3
   refine ⟨u',r',?_⟩
   rcases q with ⟨kk,q⟩ | ⟨kk,c,q,z⟩
   · refine .inl ⟨kk,?_⟩
     have:y≠n:=fun z=>hj (pQ hN e1 (z▸hi))
     simp [this,q]
   · exact .inr ⟨kk,c,q,z.sameBut hs (I.Dt y c q)⟩
 · obtain ⟨w',z⟩:=I.cell y c q
   exact ⟨w',z.sameBut hs (I.Dt y c q)⟩
 · obtain ⟨q,z,ne,nf,d⟩:=I.pin p hp
   exact ⟨(hs.2 p.1 ne).trans q,z,ne,nf,d⟩
 · refine (I.bB b ob q).oQ (fun c w' hc z=>(hs.2 c ?_).trans z) (fun _ z=>z) fun _ _ z=>z
   rintro rfl
   rcases hc with y | y
   · rw [← y,I.free] at q; cases q
   · rw [I.free] at y; cases y
end
section
variable {prog:Program} {w:World} {A:Around} {E:Value→Shared→Prop} {s:Shared} {K:PySem.W.Frag} {C S e:Addr} {tl ts:List Addr} {oe:Obj}
theorem xy {Q:Bool→Shared→Prop} (X:K.In s.heap) (xc:XC K C tl) (xs:XC K S ts) (hS:C=S∨S∈tl) (he:s.heap.get? e=some oe) (hc:oe.cls = .ref C) (h:Q true s):wpAny (model prog w) A (excMatches (.ref e) (.ref S)) Q E s:=by
 obtain ⟨nm,q',N,bs,sn,sub,ab,col,yX,k0,k1,k2,k3,k5,oK⟩:=xc.obj
 obtain ⟨nmS,qS',NS,bsS,snS,aci,abS,acj,ack,k0S,k1S,k2S,k3S,k5S,oKS⟩:=xs.obj
 have oC:=X _ _ oK
 have oS:=X _ _ oKS
 have f:=tc_notTuple
 have c1:(Value.ref S :: (ts.map Value.ref ++ GN)).contains (.type "BaseException")=true:=by simp
 have c2:(Value.ref C :: (tl.map Value.ref ++ GN)).contains (.ref S)=true:=by
  rcases hS with z | z
  · subst z; simp
  · simp [z]
 obtain ⟨hp,g,dr,tk,os⟩:=s
 unfold excMatches
 repeat (first | (with_reducible refine wpAny_loadPart_at he ?_; rw [hc]) | with_reducible refine wpAny_loadPart_at oS ?_ | (with_reducible refine wpAny_isSubtype_exc oS ?_; rw [c1]) | (with_reducible refine wpAny_isSubtype_exc oC ?_; rw [c2]) | wp_step)
 exact h
end
abbrev Pg (X:Cx) (e:Addr):Cx:={ X with A:=X.A.mark (some (.ref e)),calm:=false }
theorem RD {X:Cx} (ok:X.Ok) (e:Addr):(Pg X e).Ok :=
 ⟨ok.mod,ok.kind,ok.glob,ok.blt,ok.above,ok.inj,ok.has,ok.O0,(fun z=>by cases z),ok.frames,ok.PK,ok.UO,ok.bs,ok.C9,ok.Bt,ok.Ds,ok.lp,ok.G3⟩
section
variable {X:Cx} {pins:List (Addr×Obj)} {σ:L2.St} {H:Hp} {s:Shared}
theorem Fi (I:Inv X pins σ H s) (e:Addr):Inv (Pg X e) pins σ H s:=⟨RD I.ok e,I.os,I.bare,I.base,I.loc,I.cell,I.free,I.fm,I.pin,I.bB,I.len⟩
theorem Cg {H1:Hp} {s1:Shared} {e:Addr} {o:HO} (I1:Inv X pins σ H1 s1) (I:Inv X pins σ H s) (ne:s1.heap.get? e=none) (hx:X.ex=[]) (n3:H e=none) (new:bQ X.prog X.w (upd H e o) s.heap e o):Inv X pins σ (upd H e o) s:=by
 have Lc:∀ b u,s1.heap.get? b=some u→b≠e:=fun b u q z=>by rw [z,ne] at q; cases q
 have f0:X.s₀.heap.get? e=none:=by
  cases q:X.s₀.heap.get? e with
  | none=>rfl
  | some o=>obtain ⟨o',q'⟩:=I1.base.there e o q (by rw [hx]; simp); rw [ne] at q'; cases q'
 refine ⟨I.ok,I.os,I.bare,mv I.base n3 f0,I.loc,I.cell,?_,fun x c q=>?_,fun p hp=>?_,j_ I.bB n3 new,I.len⟩
 · obtain ⟨m1,⟨o1,_,_,NV,_⟩,_⟩:=I1.loc
   rw [aK (Lc _ _ NV)]; exact I.free
 · obtain ⟨v1,o1,NV,_⟩:=I1.cell x c q
   rw [aK (Lc _ _ NV)]; exact I.fm x c q
 · obtain ⟨q1,_,_,_,_⟩:=I1.pin p hp
   obtain ⟨q,z,r⟩:=I.pin p hp
   exact ⟨q,by rw [aK (Lc _ _ q1)]; exact z,r⟩
theorem Fj {e:Addr} (ok:X.Ok) (I:Inv (Pg X e) pins σ H s):Inv X pins σ H s:=⟨ok,I.os,I.bare,I.base,I.loc,I.cell,I.free,I.fm,I.pin,I.bB,I.len⟩
end
section
variable {X:Cx} {S f:Addr} {ts:List Addr} {fd:FuncData} {ps:List Str} {k ix iz jn:Nat} {x z n cl fx:Str} {sp:Sp} {a:Expr} {p0 p1 p2 p3 p4 p5 p6 p7 p8 pos:Pos} {ta:TA}
def W2 (K:PySem.W.Frag) (S:Addr) (ix iz jn:Nat) (sp:Sp) (ta:TA):TS:=fun D σ H=>ta σ H fun vs H1=>sp vs H1 (fun v H2=>D.nx (σ.set ix (some v)) H2) fun c dd H2=>∃ C tl,c = .ref C∧XC K C tl∧(C=S∨S∈tl) ∧
 ∀ e,H1 e=none→H2 e=none→D.nx (((σ.set jn (some (.ref e))).set iz (some (.ref e))).set jn none) (upd H2 e (.ext (NU C e dd)))
theorem Jg (st:X.stack=X.env :: X.outer∧X.env.frame=some X.env.locals) (F:cF X.prog X.w X.K X.mg X.base (A_ X.prog X.w) k f fd ps sp) (hr:bj k X.A) (hg:Gl X fx) (hm:X.mg fx=some (.ref f)) (hk:PySem.W.keepIn X.K (.ref f)=true) (hb:Binds X.K fd ps [])
  (ha:∀ E1,PA (X.jg E1) [a] ta) (hN:X.N.Nodup) (W3:X.N[ix]?=some x) (W4:X.N[iz]?=some z) (NW:X.N[jn]?=some n) (lx:Loc X.env.scope x) (lz:Loc X.env.scope z) (ln:X.env.scope.names.lookup n=some .local)
  (W5:Gl X cl) (W6:X.mg cl=some (.ref S)) (xs:XC X.K S ts) (jm:∀ y,X.fn y=true) (hex:X.ex=[]) (d1:gk fx:=by decide) (d2:gk cl:=by decide) (d3:gk n:=by decide) (d4:vR n:=by decide)
  (he:starEach [a] X.env=(false,eval a X.env) :: starEach [] X.env:=by rfl) (gj:(backTo p2 (starEach [] X.env)).any (·.1)=false:=by rfl)
  (Ph:swapsWith (.Call (.Name fx p1) [a] [] p2) (some (.Name x p0)) p3.line X.env=pure false:=by rfl) (vW:swapsWith (.Name n p5) (some (.Name z p6)) p7.line X.env=pure false:=by rfl) :
  PS X (.Try [.Assign [.Name x p0] (.Call (.Name fx p1) [a] [] p2) p3] [.ExceptHandler (some (.Name cl p4)) (some n) [.Assign [.Name z p6] (.Name n p5) p7] p8] [] [] pos) (W2 X.K S ix iz jn sp ta):=by
 intro pins s σ H D I h
 refine wpAny_Try_except ?_
 generalize hE1:(fun (e:Value) (s₁:Shared)=>wpAny (model X.prog X.w) X.A (noteFrame e X.env) (fun _ s₂=>wpAny (model X.prog X.w) X.A (setFlight e none) (fun _ s₃=>wpAny (model X.prog X.w) X.A (handleBy e X.env [.ExceptHandler (some (.Name cl p4)) (some n) [.Assign [.Name z p6] (.Name n p5) p7] p8]) (SP X pins D) X.xe s₃) X.xe s₂) X.xe s₁)=E1
 refine wpAny_execs_cons ?_
 refine wpAny_Assign_Name ?_ Ph
 refine wpAny_Call_Name_kw (iA I hg hm ?_ d1)
 refine Px (h₀:=X.base) I.ok.mod.LK hk (wpAny_mono (ha E1 p2 pins s σ H _ (I.jg E1) h) (fun us s1 ⟨vs,H1,J1,r,q⟩=>⟨J1.kq,?_⟩) fun _ _ y=>y) he gj
 have I1:Inv X pins σ H1 s1:=J1.gD
 have hl:us.length=ps.length:=by rw [← r.length]; exact F.len _ _ _ _ q
 have Dg:BindsTo s1 fd ⟨us,[]⟩ (ps.zip us):=by have:=hb s1 us I1.kq (by rw [Dm]; exact hl); rw [Dm] at this; exact this
 refine wpAny_call (codeAny_mono (F.run X.A X.stack s1 H1 ⟨us,[]⟩ us vs _ _ hr I1.Mf Dg r q) fun rr s' hq=>?_)
 cases rr with
 | ok fl =>
   cases fl with
   | ret u =>
     obtain ⟨v,H2,I2,rv,q2⟩:=I1.after hq
     exact jf I2 hN W3 lx rv (fun s3 I3=>wpAny_execs_nil (wpAny_execs_nil ⟨_,H2,I3,q2⟩)) (.inl (jm _))
   | _=>exact False.elim hq
 | error ev =>
   obtain ⟨e,C,dd,T,H2,rfl,os,bare,un,bB,fl,n1,n2,n3,n4,C',tl,eC,xc,hS,q3⟩:=hq
   cases eC
   have I2:Inv X pins σ H2 s':=I1.Dv os un bB bare fun b y=>nomatch y
   have n0:H1 e=none:=by
    cases y:H1 e with
    | none=>rfl
    | some o=>obtain ⟨u,y2⟩:=jO (I1.bB e o y); rw [n1] at y2; cases y2
   have GL:X.A.frames=some (X.env :: X.outer):=by rw [← st.1]; exact I.ok.frames
   have sf:s'.heap.FunFrames X.base (X.env :: X.outer):=by have:=I2.stack; rw [st.1] at this; exact this
   show E1 (.ref e) s'
   rw [← hE1]
   refine A7 GL sf st.2 fl fun h2 T2 f2 t2 k2=>?_
   have I3:Inv X pins σ H2 { s' with heap:=h2 }:=zu I1 I2 st (by rw [st.1]; exact k2) n1 (fun a y=>by cases y; exact n2) n3 (fun a y=>by cases y; exact n4)
   have t3:s1.heap.get? T2=none:=by
    cases y:s1.heap.get? T2 with
    | none=>rfl
    | some o =>
      by_cases y3:∃ u,H1 T2=some u
      · obtain ⟨o',y4⟩:=un.there T2 o y (by simp)
        rw [t2] at y4; cases y4
      · obtain ⟨o',y4⟩:=un.there T2 o y (by simp)
        rw [t2] at y4; cases y4
   have t4:H2 T2=none:=by
    cases y:H2 T2 with
    | none=>rfl
    | some o=>obtain ⟨u,y2⟩:=jO (bB T2 o y); rw [t2] at y2; cases y2
   refine vn (s:={ s' with heap:=h2 }) f2 fun h3 f3 k3=>?_
   have up:∀ {a b:Heap} {T:Addr},Kp [] e (some T) a b→Kp (ll X.stack) e (some T) a b:=fun {a b T} kk=>⟨fun b o q n1 n2 _=>kk.keep b o q n1 n2 (by simp),fun b o q _ n2 n3=>⟨o.slots,kk.keep b o q n2 n3 (by simp)⟩⟩
   have I4:Inv X pins σ H2 { s' with heap:=h3 }:=zu (s:={ s' with heap:=h2 }) I1 I3 st (up k3) n1 (fun a y=>by cases y; exact t3) n3 (fun a y=>by cases y; exact t4)
   obtain ⟨oe,vs3,Uh,oe2,oe3,oe4,_⟩:=id f3
   refine wpAny_handleBy_cons (codeAny_handlers_test ?_) (by intro y; cases y)
   refine iA (X:=Pg X e) (s:={ s' with heap:=h3 }) (Fi I4 e) W5 W6 ?_ d2
   refine xy (s:={ s' with heap:=h3 }) I4.kq xc xs hS Uh oe2 ?_
   refine codeAny_handlers_suite_as ?_
   refine vn (s:={ s' with heap:=h3 }) f3 fun h4 f4 k4=>?_
   have I5:Inv X pins σ H2 { s' with heap:=h4 }:=zu (s:={ s' with heap:=h3 }) I1 I4 st (up k4) n1 (fun a y=>by cases y; exact t3) n3 (fun a y=>by cases y; exact t4)
   obtain ⟨of,vs4,YN,of2,of3,of4,_⟩:=id f4
   have I6:Inv X pins σ (upd H2 e (.ext (NU C e dd))) { s' with heap:=h4 }:=Cg (s:={ s' with heap:=h4 }) I1 I5 n1 hex n3 ⟨⟨of,vs4,YN,of2,of3,of4⟩,⟨_,YN⟩,fun g1 g2 ⟨o,v,y1,y2⟩ kk=>⟨o,v,kk _ y1,y2⟩⟩
   refine jf I6 hN NW (.inl ln) (v:=.ref e) rfl (fun s5 I7=>?_) (.inl (jm _))
   have jl:jn < (σ.set jn (some (V.ref e))).length:=by rw [Kk,I.len]; exact (e_.mp NW).1
   have ev:(σ.set jn (some (V.ref e)))[jn]?=some (some (.ref e)):=by rw [Ao (by rw [Kk] at jl; exact jl)]
   have pw:=yi (X:=(Pg X e).ng) (pos:=p7) (pos':=p6) (e:=.Name n p5) hN W4 lz (cD (X:=(Pg X e).ng) (i:=jn) NW (.inl ln) d3 d4) vW (.inl (jm _))
   refine wpAny_execs_cons (wpAny_mono (pw pins s5 _ _ { nx:=fun σ' H'=>σ'=(σ.set jn (some (.ref e))).set iz (some (.ref e))∧H'=upd H2 e (.ext (NU C e dd)),rt:=fun _ _=>False } ((Fi I7 e).jg _) ⟨_,ev,rfl,rfl⟩) (fun fl s6 y=>?_) fun ev s6 y=>?_)
   · cases fl with
     | next =>
       obtain ⟨σ7,H7,I8,rfl,rfl⟩:=y
       refine wpAny_execs_nil ?_
       show wpAny _ _ _ _ _ _
       refine Jf (Fj I.ok I8.gD) hN NW ln fun s8 I9=>⟨_,_,I9,q3 e n0 n3⟩
     | ret u=>obtain ⟨_,_,_,_,_,y⟩:=y; exact y.elim
     | _=>obtain ⟨_,_,_,y⟩:=y; exact y.elim
   · exact False.elim y
end
end EX
namespace VT
open PySem PySem.Spec PyProof.Rows L2
def RE (f:Str):List Str→List Str
 | []=>[f]
 | n :: ns=>if n=f then n :: ns else n :: RE f ns
def RF {α:Type} (f:Str) (u:α):List Str→List α→List α
 | n :: ns,t :: ts=>if n=f then u :: ts else t :: RF f u ns ts
 | _,_=>[u]
section
variable {K:PySem.W.Frag} {H:Hp} {A:List Addr} {f:Str}
end
section
variable {X:Cx} {Z:Zc} {e:Expr} {es:List Expr} {C:Addr} {f:Str} {pos:Pos}
def ND (n:Nat) (C:Addr) (f:Str) (fe:FE):FS:=fun d ρ=>match ρ[n]? with
 | some (some (.ins C' ns ts,true))=>C'=C∧fe ρ fun v=>ts.length < 1000∧d.nx (ρ.set n (some (.ins C' (RE f ns) (RF f v ns ts),true)))
 | _=>False
def Uk (K:PySem.W.Frag) (C:Addr) (n:Nat) (G:List T→(T→Prop)→Prop):Sp:=wB K (true :: List.replicate n false) fun ts q=>match ts with
 | .ins C' [] [] :: us=>C'=C∧G us fun u=>q [u] (.vw .bb)
 | _=>False
end
structure Dc (K:PySem.W.Frag) (mg:Str→Option Value) (cls qual:Str) (st:Stmt) (ps:List Str) (C f:Addr) (fd:FuncData):Prop where
 F:BG K "__init__" qual st f fd
 m:mg cls=some (.ref C)
 b:Binds K fd ps []
 M:Mk K C f
def W7 (P:Program) (w:World) (K:PySem.W.Frag) (mg:Str→Option Value) (base:Heap) (cls:Str) (C:Addr) (ps:List Str) (k n:Nat) (G:List T→(T→Prop)→Prop):Prop :=
 ∃ f fd,Mk K C f∧mg cls=some (.ref C)∧Binds K fd ps []∧cF P w K mg base ip k f fd ps (Uk K C n G)
section
variable {P:Program} {w:World} {K:PySem.W.Frag} {mg:Str→Option Value} {base:Heap}
theorem Dc.jA {cls qual:Str} {st:Stmt} {ps:List Str} {C f:Addr} {fd:FuncData} {k n:Nat} {G:List T→(T→Prop)→Prop} (D:Dc K mg cls qual st ps C f fd) (F:cF P w K mg base ip k f fd ps (Uk K C n G)):W7 P w K mg base cls C ps k n G :=
 ⟨f,fd,D.M,D.m,D.b,F⟩
end
section
variable {X:Cx}
end
section
variable {X:Cx} {Z:Zc} {a:Expr} {fa:FE} {p1 apos Ip BV:Pos}
end
structure Fl (K:PySem.W.Frag) (H H':Hp) (Ox:List Addr) (us:List T) (p:Addr) (ls:List Addr):Prop where
 same:aM H H'
 tup:H' p=some (.tup (ls.map V.ref))
 nd:ls.Nodup
 new:∀ a∈ls,H a=none
 YO:Paired (fun a t=>cA K H' (ls ++ Ox) a t) ls us
def RG (K:PySem.W.Frag) (n:Nat) (G:List T→(List T→Prop)→Prop):Sp:=fun vs H Q _=>∃ ts Ox q,(∀ a∈Ox,H a≠none)∧aI K H Ox ts vs∧ts.length=n∧G ts q ∧
 ∀ us,q us→∀ p ls H',Fl K H H' Ox us p ls→Q (.ref p) H'
structure W8 (K:PySem.W.Frag) (Z:Zc) (tm:List (T×V)) (d:KP) (dp:List T→Prop) (D:Ends):Prop where
 fin:Fin K Z tm d D
 dp:∀ us,dp us→∀ p ls H',Fl K Z.H0 H' Z.Ox us p ls→D.rt (.ref p) H'
abbrev Ld:=KP→(List T→Prop)→En→Prop
def YQ (X:Cx) (Z:Zc) (tm:List (T×V)) (g:Ld):TS:=fun D σ H=>∃ ρ O d dp,aA X.K Z tm O ρ σ H∧g d dp ρ∧W8 X.K Z tm d dp D
def xA (X:Cx) (Z:Zc) (st:List Stmt) (g:Ld):Prop:=Bx fun tm=>oR X st (YQ X Z tm g)
instance {X:Cx} {Z:Zc} {st:List Stmt} {g:Ld}:CoeFun (xA X Z st g) fun _=>∀ tm,oR X st (YQ X Z tm g):=⟨fun h=>Bx.h h⟩
def Jh (ρ:En):List Nat→Option (List T)
 | []=>some []
 | i :: is=>match ρ[i]?,Jh ρ is with
   | some (some (t,true)),some ts=>some (t :: ts)
   | _,_=>none
section
variable {X:Cx} {Z:Zc} {st:Stmt} {rest:List Stmt} {g:FS} {u:Ld} {pos:Pos}
def RH (g:FS) (u:Ld):Ld:=fun d dp ρ=>g { d with nx:=u d dp } ρ
theorem hX (h1:VS X Z st g) (h2:xA X Z rest u):xA X Z (st :: rest) (RH g u):=.mk fun tm=>oR.tw (jh (h1 tm) (h2 tm)) fun D σ H ⟨ρ,O,d,dp,I,h,F⟩ =>
 ⟨ρ,O,{ d with nx:=u d dp },I,h,⟨fun O' ρ' σ' H' I' h'=>⟨ρ',O',d,dp,I',h',F⟩,F.fin.rt,F.fin.bk,F.fin.ct⟩⟩
theorem xA.weak {u':Ld} (h:xA X Z rest u) (hw:∀ d dp ρ,u' d dp ρ→u d dp ρ):xA X Z rest u':=.mk fun tm=>oR.tw (h tm) fun D σ H ⟨ρ,O,d,dp,I,q,F⟩=>⟨ρ,O,d,dp,I,hw d dp ρ q,F⟩
def vo (X:Cx):List Expr→List Nat→Prop
 | [],is=>is=[]
 | e :: es,is=>∃ x p i js,e = .Name x p∧is=i :: js∧X.N[i]?=some x∧rQ X.env.scope x∧(x == ("__debug__" : Str))=false∧(x == ("__classdict__" : Str))=false∧starEach (e :: es) X.env=(false,eval e X.env) :: starEach es X.env∧vo X es js
def RI (is:List Nat):TA:=fun σ H Q=>∃ vs,Paired (fun (i:Nat) (v:V)=>σ[i]?=some (some v)) is vs∧Q vs H
theorem Ba:∀ {es:List Expr} {is:List Nat},vo X es is→PA X es (RI is)
 | [],is,h=>fun pos pins s σ H Q I ⟨vs,hv,q⟩=>by
   have e:is=[]:=h
   subst e
   cases hv
   exact cb pos pins s σ H Q I q
 | e :: es,is,h=>by
   obtain ⟨x,p,i,js,rfl,rfl,h1,h2,h3,h4,h5,h6⟩:=h
   exact PA.weak (ba (cD h1 h2 h3 h4) (Ba h6) h5) fun σ H Q ⟨vs,hv,q⟩=>by
    cases hv with
    | cons r t=>exact ⟨_,r,_,t,q⟩
theorem xB {K:PySem.W.Frag} {tm:List (T×V)} {O:List (Option Addr)} {ρ:En} {σ:St} {H:Hp} (I:aA K Z tm O ρ σ H):∀ {is:List Nat} {ts:List T},Jh ρ is=some ts →
  ∃ ls:List Addr,Paired (fun (i:Nat) (v:V)=>σ[i]?=some (some v)) is (ls.map V.ref)∧Paired (fun (i:Nat) (a:Addr)=>O[i]?=some (some a)) is ls∧Paired (fun a t=>cA K H (av Z O) a t) ls ts
 | [],ts,h=>by cases h; exact ⟨[],.nil,.nil,.nil⟩
 | i :: is,ts,h=>by
   simp only [Jh] at h
   split at h
   · rename_i t us e1 e2
     cases h
     obtain ⟨a,h1,h2,h3⟩:=I.root e1
     obtain ⟨ls,g1,g2,g3⟩:=xB I e2
     exact ⟨a :: ls,.cons h2 g1,.cons h1 g2,.cons h3 g3⟩
   · cases h
theorem gQ {α β:Type} {R:α→β→Prop} {l:List α} {m:List β} (h:Paired R l m) {b:β} (hb:b∈m):∃ a∈l,R a b:=by
 induction h with
 | nil=>cases hb
 | cons r t ih =>
   rcases fg.mp hb with e | hb
   · subst e; exact ⟨_,gq,r⟩
   · obtain ⟨a,h1,h2⟩:=ih hb; exact ⟨a,i_ _ h1,h2⟩
theorem zw {K:PySem.W.Frag} {tm:List (T×V)} {O:List (Option Addr)} {ρ:En} {σ:St} {H:Hp} (I:aA K Z tm O ρ σ H) {is:List Nat} {ls:List Addr} (nd:is.Nodup) (h:Paired (fun (i:Nat) (a:Addr)=>O[i]?=some (some a)) is ls):ls.Nodup:=by
 induction h with
 | nil=>exact GY
 | cons r t ih =>
   rw [rP] at nd ⊢
   refine ⟨fun m=>?_,ih nd.2⟩
   obtain ⟨j,hj,e⟩:=gQ t m
   exact nd.1 (by rw [Eh I r e]; exact hj)
def Le (is:List Nat):Ld:=fun _ dp ρ=>match Jh ρ is with
 | some ts=>dp ts
 | none=>False
theorem Ji {es:List Expr} {is:List Nat} {x1} {p:Pos} (hP:Z.P=[]) (hn:vo X es is) (nd:is.Nodup) (hl:is.length≤100):xA X Z [.Return (some (.Tuple es x1 p)) pos] (Le is):=.mk fun tm =>
 lu (PS.weak (Dw (DF (Ba hn))) fun D σ H ⟨ρ,O,d,dp,I,h,F⟩=>by
  unfold Le at h
  split at h
  · rename_i ts e
    obtain ⟨ls,g1,g2,g3⟩:=xB I e
    refine ⟨ls.map V.ref,g1,?_,fun q hq=>F.dp ts h q ls _ ⟨?_,aQ,zw I nd g2,fun a ha=>?_,?_⟩⟩
    · rw [cV,← OW g2,sizeLine_eq]; omega
    · intro b o eb
      have:=I.keep b o eb (by rw [hP]; exact fun z=>nomatch z)
      rw [aK (aX this hq)]; exact this
    · obtain ⟨i,_,e⟩:=gQ g2 ha
      rcases (I.own a (aN.mpr (mV e))).1 with z | z
      · rw [hP] at z; exact nomatch z
      · exact z
    · refine Paired.mZ g3 fun a t r=>(r.same (aS hq)).bh fun b hb=>?_
      rcases mY.mp hb with z | z
      · obtain ⟨i,_,e⟩:=gQ g2 z
        exact mX _ (aN.mpr (mV e))
      · exact k8 _ z
  · exact h.elim)
end
section
variable {P:Program} {w:World} {K:PySem.W.Frag} {mg:Str→Option Value} {base:Heap}
theorem kY (n:Nat):roots (List.replicate n none)=[]:=by
 unfold roots
 induction n with
 | zero=>rfl
 | succ n ih=>rw [C5,pb]; exact ih
theorem Ci {N:List Str} {H:Hp} {Ox:List Addr} {ts:List T} {vs:List V} (hN:ts.length≤N.length) (ox:∀ a∈Ox,H a≠none) (h:aI K H Ox ts vs) :
  aA K ⟨H,[],Ox⟩ [] (List.replicate N.length none) (ts.map (fun t=>some (t,false)) ++ List.replicate (N.length - ts.length) none) (start N vs) H:=by
 have hl:=h.length
 have ea:av ⟨H,[],Ox⟩ (List.replicate N.length none)=Ox:=by unfold av; rw [kY]; rfl
 refine ⟨?_,by simp; omega,fun i e he=>?_,by rw [kY]; exact GY,fun a ha=>?_,fun p hp=>(nomatch hp),ox,fun b o e _=>e,fun p hp=>(nomatch hp)⟩
 · unfold L2.start; simp [hl]
 · rw [ea]
   by_cases hi:i < ts.length
   · rw [ux (by simpa using hi),lj] at he
     have e1:ts[i]?=some ts[i]:=by simp
     rw [e1] at he
     cases he
     obtain ⟨v,h1,h2⟩:=h.get e1
     refine ⟨none,some v,by rw [Dj,if_pos (by omega)],?_,rfl,v,rfl,h2⟩
     unfold L2.start
     rw [ux (by rw [cV]; omega),lj,h1]
     rfl
   · rw [C4 (by simpa using hi),Dj] at he
     split at he
     · rename_i gF
       cases he
       rw [cV] at gF
       refine ⟨none,none,by rw [Dj,if_pos (by omega)],?_,rfl⟩
       unfold L2.start
       rw [C4 (by rw [cV]; omega),Dj,cV,if_pos (by omega)]
     · cases he
 · rw [kY] at ha; exact nomatch ha
theorem fnD {x qual:Str} {st:Stmt} {f:Addr} {fd:FuncData} {N ps:List Str} {k n:Nat} {G:List T→(List T→Prop)→Prop} (F:BG K x qual st f fd) (S:aH N ps (aj st)) (hn:n=ps.length) (hN:n≤N.length)
  (gW:∀ (bw:Value) (A:Around) (outer:List Env) (s:Shared) (H:Hp) (E:XK) (Ox:List Addr),bj k (A.deeper (envOfC qual (aj st) s.heap.objs.size f bw))→∀ ts q,G ts q →
    ∃ g,xA (dy ip P w K mg base N qual (aj st) f bw A outer s H E).ng ⟨H,[],Ox⟩ (cc st) g∧(ts.length=n→g { nx:=fun _=>False,rt:=fun _ _=>False } q (ts.map (fun t=>some (t,false)) ++ List.replicate (N.length - ts.length) none))) :
  cF P w K mg base ip (k+1) f fd ps (RG K n G):=by
 refine F.ok S (fun vs H Q E h=>?_) (fun bw A outer s H vs Q E hr h=>?_)
 · obtain ⟨ts,Ox,q,_,ha,hl,_⟩:=h
   rw [ha.length,hl,hn]
 · obtain ⟨ts,Ox,q,ox,ha,hl,hG,kk⟩:=h
   obtain ⟨g,hg,hq⟩:=gW bw A outer s H E Ox hr ts q hG
   exact ⟨_,hg [],_,_,_,q,Ci (by omega) ox ha,hq hl,⟨⟨fun _ _ _ _ _ h=>h.elim,fun _ _ _ _ _ _ _ h=>h.elim,fun _ _ _ _ _ h=>h.elim,fun _ _ _ _ _ h=>h.elim⟩,fun us hu p ls H' D=>kk us hu p ls H' D⟩⟩
end
section
variable {X:Cx} {Z:Zc} {k n:Nat} {f:Addr} {fd:FuncData} {ps:List Str} {G:List T→(List T→Prop)→Prop} {x:Str} {p pos:Pos} {e:Expr} {es:List Expr} {g:FA}
def lD (X:Cx) (Z:Zc) (tm:List (T×V)) (f:En→(List T→Prop)→Prop):TE:=fun σ H Q=>∃ ρ O q,aA X.K Z tm O ρ σ H∧f ρ q∧∀ us,q us→∀ p ls H',Fl X.K H H' (av Z O) us p ls→Q (.ref p) H'
def VD (X:Cx) (Z:Zc) (e:Expr) (f:En→(List T→Prop)→Prop):Prop:=Bx fun tm=>PE X e (lD X Z tm f)
instance {X:Cx} {Z:Zc} {e:Expr} {f:En→(List T→Prop)→Prop}:CoeFun (VD X Z e f) fun _=>∀ tm,PE X e (lD X Z tm f):=⟨fun h=>Bx.h h⟩
def NX (n:Nat) (g:FA) (G:List T→(List T→Prop)→Prop):En→(List T→Prop)→Prop:=fun ρ Q=>g ρ fun ts=>ts.length=n∧G ts Q
theorem Jj (F:cF X.prog X.w X.K X.mg X.base ip k f fd ps (RG X.K n G)) (hr:bj k X.A) (hg:Gl X x) (hm:X.mg x=some (.ref f)) (hk:PySem.W.keepIn X.K (.ref f)=true) (hb:Binds X.K fd ps []) (ha:VA X Z (e :: es) g)
  (lH:gk x:=by decide) (he:starEach (e :: es) X.env=(false,eval e X.env) :: starEach es X.env:=by rfl) (gj:(backTo pos (starEach es X.env)).any (·.1)=false:=by rfl) :
  VD X Z (.Call (.Name x p) (e :: es) [] pos) (NX n g G):=.mk fun tm=>PE.weak (j4 F hr hg hm hk hb .nil tf (ha tm) lH he gj) fun σ H Q ⟨ρ,O,q,I,hf,k⟩ =>
 ⟨ρ,O,_,I,hf,fun ts gG vs H1 s1 a1=>by
   show RG X.K n G (vs ++ []) H1 Q E0
   rw [Dm]
   refine ⟨ts,av Z O,q,(I.same s1).Kz,a1,gG.1,gG.2,fun us hu p ls H' D=>k us hu p ls H' ⟨s1.trans D.same,D.tup,D.nd,fun a ha=>?_,D.YO⟩⟩
   cases z:H a with
   | none=>rfl
   | some o=>have:=D.new a ha; rw [s1 _ _ z] at this; cases this⟩
theorem Fl.at {K:PySem.W.Frag} {tm:List (T×V)} {O:List (Option Addr)} {ρ:En} {σ:St} {H H':Hp} {us:List T} {p:Addr} {ls:List Addr} (I:aA K Z tm O ρ σ H) (D:Fl K H H' (av Z O) us p ls):At K H' (av Z O) (.tup us) (.ref p):=by
 refine bu (dY.of D.tup) (aI.iff.mpr ?_)
 have key:∀ {Ul:List Addr} {Ub:List T},(∀ a∈Ul,a∈ls)→Paired (fun a t=>cA K H' (ls ++ av Z O) a t) Ul Ub→Paired (fun v t=>At K H' (av Z O) t v) (Ul.map V.ref) Ub:=by
  intro Ul Ub sub h
  induction h with
  | nil=>exact .nil
  | cons r t ih =>
    refine .cons ((r.bh fun b hb=>k8 _ hb).at fun z=>?_) (ih fun a ha=>sub a (i_ _ ha))
    exact I.Kz _ z (D.new _ (sub _ gq))
 exact key (fun _ h=>h) D.YO
def RJ (f:En→(List T→Prop)→Prop):FP:=fun ρ Q=>f ρ fun us=>Q (.vw (.tup us))
theorem VD.vp {f:En→(List T→Prop)→Prop} (h:VD X Z e f):VP X Z e (RJ f):=.mk fun tm=>PE.weak (h tm) fun σ H Q ⟨ρ,O,q,I,hf,k⟩ =>
 ⟨ρ,O,_,I,hf,fun us hu p ls H' D=>k _ hu _ H' D.same ⟨I.same D.same,D.at I⟩⟩
end
section
variable {X:Cx} {Z:Zc}
end
section
variable {X:Cx} {Z:Zc}
end
section
variable {X:Cx} {Z:Zc} {st:Stmt} {sts:List Stmt} {g:FS}
end
section
variable {X:Cx} {Z:Zc} {o e:Expr} {fo fe:FE} {apos a9:Pos}
end
theorem qY {α:Type} {f u:α→T} {h:FG} {fe:FE} {ρ:En}:∀ {xs:List α} {Q:List T→Prop},(∀ x∈xs,∀ r:T→Prop,r (u x)→h (f x) ρ fun ρ2=>fe ρ2 r)→Q (xs.map u)→cL h Ee fe ρ (xs.map f) Q
 | [],Q,_,hq=>hq
 | x :: xs,Q,step,hq=>by
   simp only [iZ,cL]
   exact step x gq (fun y=>cL h Ee fe ρ (xs.map f) fun us=>Q (y :: us)) (qY (Q:=fun us=>Q (u x :: us)) (fun y hy=>step y (i_ _ hy)) hq)
theorem iW {α:Type} {f u:α→T} {p:α→Bool} {h:FG} {fc:FB} {fe:FE} {ρ:En}:∀ {xs:List α} {Q:List T→Prop},(∀ x∈xs,∀ r s:Prop,(if p x=true then ∀ k:T→Prop,(k (u x)→r)→r else s)→True)→(∀ x∈xs,∀ (k:T→Prop) (s:Prop),(if p x=true then k (u x) else s)→h (f x) ρ fun ρ2=>fc ρ2 fun b=>if b=true then fe ρ2 k else s)→Q ((xs.filter p).map u)→cL h fc fe ρ (xs.map f) Q
 | [],Q,_,_,hq=>hq
 | x :: xs,Q,t0,step,hq=>by
   simp only [iZ,cL]
   refine step x gq _ _ ?_
   by_cases hp:p x=true
   · rw [if_pos hp]
     rw [UG hp] at hq
     exact iW (Q:=fun us=>Q (u x :: us)) (fun _ _ _ _ _=>trivial) (fun y hy=>step y (i_ _ hy)) hq
   · rw [if_neg hp]
     rw [UH hp] at hq
     exact iW (fun _ _ _ _ _=>trivial) (fun y hy=>step y (i_ _ hy)) hq
end VT
namespace VT
open PySem PySem.Spec PyProof.Rows L2 PySem.MeetsSeq PySem.SeqAt
section
variable {X:Cx}
end
section
variable {X:Cx} {Z:Zc} {o e:Expr} {fo:FE} {apos a9:Pos}
end
def Bb (z:Bool):Value→Bool
 | .bool y=>y == z
 | _=>false
theorem qZ:∀ {bs:List Bool} {us:List Value},Vals (bs.map V.bl) us→us=bs.map Value.bool
 | [],_,h=>by cases h; rfl
 | b :: bs,_,h=>by
   cases h with
   | cons r t=>rw [iZ,← qZ t]; cases r; rfl
theorem vq {K:PySem.W.Frag} {H:Hp} {A:List Addr}:∀ {bs:List Bool} {vs:List V},aI K H A (bs.map .bl) vs→vs=bs.map V.bl
 | [],vs,h=>by simpa only [GZ,aI] using h
 | y :: ys,vs,h=>by
   simp only [iZ,aI,At] at h
   obtain ⟨v,r,rfl,rfl,h⟩:=h
   rw [vq h]; rfl
section
variable {X:Cx}
theorem Cj:BB X "list.count" (fun x xs H Q=>∃ (p:Addr) (ys:List Bool) (z:Bool),x = .ref p∧xs=[.bl z]∧gm X.K H p (ys.map V.bl)∧Q (.int ((ys.countP (· == z):Nat):Int)) H):=by
 intro pins s σ H x xs v us Q I rx rs h
 obtain ⟨p,ys,z,rfl,rfl,hq,q⟩:=h
 cases rx
 obtain ⟨u,rfl,ru⟩:=vals1 rs
 obtain rfl:u=Value.bool z:=ru
 obtain ⟨aP,rv,pl,_⟩:=I.list hq
 obtain ⟨⟨cls,dd,data,sl⟩,ho,hc,n,hd⟩:=pl.isList
 simp only at hc hd
 subst hc hd
 have e:=qZ rv
 subst e
 refine call_meets PySem.F.slot_list_count ⟨_,ho,rfl⟩ PySem.F.entry_list_count (PySem.F.args_list_count_2 _ _) (list_countAt p (ys.map Value.bool).toArray n dd sl (.bool z) (Bb z)) ⟨ho,fun y hy=>?_,?_⟩
 · have Mt:y∈ys.map Value.bool:=by simpa using hy
   obtain ⟨b,_,rfl⟩:=Bp.mp Mt
   exact EqAt.bool_bool b z
 · have e:((ys.map Value.bool).toArray.toList.countP (Bb z))=ys.countP (· == z):=by rw [show (ys.map Value.bool).toArray.toList=ys.map Value.bool from rfl,List.countP_map]; rfl
   rw [e]
   exact ⟨.int ((ys.countP (· == z):Nat):Int),H,I.tok _,⟨_,rfl⟩,q⟩
theorem Ck:BB X "list.index" (fun x xs H Q=>∃ (p:Addr) (ys:List Bool) (z:Bool) (j:Nat),x = .ref p∧xs=[.bl z]∧gm X.K H p (ys.map V.bl)∧ys[j]?=some z∧(∀ i,i < j→ys[i]?≠some z)∧ys.length≤1000∧Q (.int (j:Int)) H):=by
 intro pins s σ H x xs v us Q I rx rs h
 obtain ⟨p,ys,z,j,rfl,rfl,hq,hj,Hi,hl,q⟩:=h
 cases rx
 obtain ⟨u,rfl,ru⟩:=vals1 rs
 obtain rfl:u=Value.bool z:=ru
 obtain ⟨aP,rv,pl,_⟩:=I.list hq
 obtain ⟨⟨cls,dd,data,sl⟩,ho,hc,n,hd⟩:=pl.isList
 simp only at hc hd
 subst hc hd
 have e:=qZ rv
 subst e
 have YR:j < ys.length:=(e_.mp hj).1
 have key:∀ (i:Nat) (hi:i < (ys.map Value.bool).toArray.size),Bb z (ys.map Value.bool).toArray[i]=decide (ys[i]?=some z):=by
  intro i hi
  have O6:i < ys.length:=by simpa using hi
  have e3:(ys.map Value.bool).toArray[i]=Value.bool ys[i]:=by simp
  rw [e3,sR O6]
  show (ys[i] == z)=_
  rw [GX]
  simp
 refine call_meets PySem.F.slot_list_index ⟨_,ho,rfl⟩ PySem.F.entry_list_index (PySem.F.args_list_index_2 _ _)
  (list_indexAt p (ys.map Value.bool).toArray n dd sl (.bool z) (Bb z) j (by simpa using YR) (by omega) ?_ ?_) ⟨ho,fun y hy=>?_,⟨.int (j:Int),H,I.tok _,⟨_,rfl⟩,q⟩⟩
 · rw [key]; exact decide_eq_true hj
 · intro m hm gF
   rw [key]; exact decide_eq_false (Hi m gF)
 · have Mt:y∈ys.map Value.bool:=by simpa using hy
   obtain ⟨b,_,rfl⟩:=Bp.mp Mt
   exact EqAt.bool_bool b z
end
section
variable {X:Cx} {Z:Zc} {o e:Expr} {fo:FE} {apos a9:Pos}
def Jk (fo:FE) (g:FA):FP:=fun ρ Q=>fo ρ fun x=>match x with
 | .lst ts=>g ρ fun y=>∃ (ys:List Bool) (z:Bool),ts=ys.map .bl∧y=[.bl z]∧Q (.vw (.int ((ys.countP (· == z):Nat):Int)))
 | _=>False
theorem xC {g:FA} (ho:VR X Z o fo) (he:GF X Z [e] g) (eX:attributeBase o "count" X.env (eval o X.env)=eval o X.env:=by rfl)
  (ny:((backTo a9 (starEach [e] X.env)).all (fun x=>!x.1) && (backToKw a9 (keywordEach [] X.env)).all (fun x=>x.1.isSome)
    && decide (([e]:List Expr).length+([]:List Keyword).length+(if ([]:List Keyword).isEmpty then 0 else 1) < 30))=true:=by rfl)
  (eY:(apos.endLine == a9.line)=true:=by rfl) (hs:starEach [e] X.env=(false,eval e X.env) :: starEach [] X.env:=by rfl) (d7:(backTo a9 (starEach [] X.env)).any (·.1)=false:=by rfl) :
  VP X Z (.Call (.Attribute o "count" apos) [e] [] a9) (Jk fo g):=.mk fun tm =>
 PE.weak (sZ Th PySem.F.slot_list_count PySem.F.type_list_count Cj (ho tm) (he tm) eX ny eY hs d7) fun σ H Q ⟨ρ,O,q,I,hf,k⟩ =>
  ⟨ρ,O,_,I,hf,fun x hx v H1 s1 a1=>by
    split at hx
    · rename_i ts
      obtain ⟨p,vs,rfl,h1,h2⟩:=a1.lst
      refine ⟨.inl ⟨rfl,vs,h1⟩,ρ,O,_,I.same s1,hx,fun y hy w H2 s2 a2=>?_⟩
      obtain ⟨ys,z,rfl,rfl,hq⟩:=hy
      obtain ⟨u,rfl,a3⟩:=cw a2
      have ev:=vq h2
      subst ev
      have eu:=a3.bl
      subst eu
      exact ⟨p,ys,z,rfl,rfl,h1.imp (fun z=>Rd.same s2 z) id,k _ hq _ H2 (s1.trans s2) ⟨(I.same s1).same s2,bx⟩⟩
    · exact hx.elim⟩
def Jl (fo:FE) (g:FA):FP:=fun ρ Q=>fo ρ fun x=>match x with
 | .lst ts=>g ρ fun y=>∃ (ys:List Bool) (z:Bool) (j:Nat),ts=ys.map .bl∧y=[.bl z]∧ys[j]?=some z∧(∀ i,i < j→ys[i]?≠some z)∧ys.length≤1000∧Q (.vw (.int (j:Int)))
 | _=>False
theorem xD {g:FA} (ho:VR X Z o fo) (he:GF X Z [e] g) (eX:attributeBase o "index" X.env (eval o X.env)=eval o X.env:=by rfl)
  (ny:((backTo a9 (starEach [e] X.env)).all (fun x=>!x.1) && (backToKw a9 (keywordEach [] X.env)).all (fun x=>x.1.isSome)
    && decide (([e]:List Expr).length+([]:List Keyword).length+(if ([]:List Keyword).isEmpty then 0 else 1) < 30))=true:=by rfl)
  (eY:(apos.endLine == a9.line)=true:=by rfl) (hs:starEach [e] X.env=(false,eval e X.env) :: starEach [] X.env:=by rfl) (d7:(backTo a9 (starEach [] X.env)).any (·.1)=false:=by rfl) :
  VP X Z (.Call (.Attribute o "index" apos) [e] [] a9) (Jl fo g):=.mk fun tm =>
 PE.weak (sZ Th PySem.F.slot_list_index PySem.F.type_list_index Ck (ho tm) (he tm) eX ny eY hs d7) fun σ H Q ⟨ρ,O,q,I,hf,k⟩ =>
  ⟨ρ,O,_,I,hf,fun x hx v H1 s1 a1=>by
    split at hx
    · rename_i ts
      obtain ⟨p,vs,rfl,h1,h2⟩:=a1.lst
      refine ⟨.inl ⟨rfl,vs,h1⟩,ρ,O,_,I.same s1,hx,fun y hy w H2 s2 a2=>?_⟩
      obtain ⟨ys,z,j,rfl,rfl,hj,Hi,hl,hq⟩:=hy
      obtain ⟨u,rfl,a3⟩:=cw a2
      have ev:=vq h2
      subst ev
      have eu:=a3.bl
      subst eu
      exact ⟨p,ys,z,j,rfl,rfl,h1.imp (fun z=>Rd.same s2 z) id,hj,Hi,hl,k _ hq _ H2 (s1.trans s2) ⟨(I.same s1).same s2,bx⟩⟩
    · exact hx.elim⟩
end
end VT
namespace EX
open PySem PySem.Spec PySem.Calls PyProof.Rows L2 VT
open PySem.W (kitOne InstAt)
structure XK1 (K:PySem.W.Frag) (C:Addr):Prop where
 xc:∃ tl,XC K C tl
 xf:XF K C
structure Ex (K:PySem.W.Frag) (H:Hp) (e C:Addr) (dd:Option Addr) (p:Option Int):Prop where
 ex:H e=some (.ext (NU C e dd))
 pl:Jd H dd p
 kl:XK1 K C
theorem Ex.same {K:PySem.W.Frag} {H H':Hp} {e C:Addr} {dd:Option Addr} {p:Option Int} (x:Ex K H e C dd p) (s:aM H H'):Ex K H' e C dd p :=
 ⟨s _ _ x.ex,by cases p with | none=>exact x.pl | some i=>obtain ⟨d,h1,h2⟩:=x.pl; exact ⟨d,h1,s _ _ h2⟩,x.kl⟩
section
variable {X:Cx} {Z:Zc} {e C:Addr} {dd:Option Addr} {pp:Option Int}
theorem Jm {pins:List (Addr×Obj)} {σ:L2.St} {H:Hp} {s:Shared} (I:Inv X pins σ H s) (x:Ex X.K H e C dd pp):∃ oe od,InstAt s.heap e oe C od:=by
 obtain ⟨⟨oe,vs,h1,h2,h3,h4⟩,_,_⟩:=I.bB e _ x.ex
 have nc:PySem.W.notCls oe=true:=by unfold PySem.W.notCls; rw [h4]
 cases pp with
 | none =>
   have pl:dd=none:=x.pl
   exact ⟨oe,none,h1,h2,nc,by rw [h3,pl]; trivial⟩
 | some i =>
   obtain ⟨d,rfl,hd⟩:=x.pl
   obtain ⟨mA,⟨o,_,_,ho,_⟩,_⟩:=I.bB d _ hd
   exact ⟨oe,some o,h1,h2,nc,by rw [h3]; exact ho⟩
def W9 (K:PySem.W.Frag) (cv:V) (c:Value) (e C:Addr) (dd:Option Addr) (pp:Option Int) (b:Bool):List V→Hp→VK→Prop:=fun xs H Q=>xs=[.ref e,cv]∧Ex K H e C dd pp∧kitOne K (.ref C) c=some b∧Q (.bl b) H
theorem Fm {cv:V} {c:Value} {b:Bool} (rc:∀ u,RelV cv u→u=c):dC X (.builtin "isinstance") (W9 X.K cv c e C dd pp b):=by
 rintro pins s σ H xs us Q I r ⟨rfl,x,hk,q⟩
 obtain ⟨u,w',rfl,rx,ry⟩:=vals2 r
 obtain rfl:u=Value.ref e:=rx
 obtain rfl:=rc _ ry
 obtain ⟨oe,od,J⟩:=Jm I x
 obtain ⟨tl,xc⟩:=x.kl.xc
 exact IZ I.kq xc x.kl.xf J hk fun tk=>⟨.bl b,H,I.tok _,rfl,q⟩
def W_ (i:Nat) (e:Addr) (b:Bool):FP:=fun ρ Q=>ρ[i]?=some (some (.ob e,false))∧Q (.vw (.bl b))
theorem gR (i:Nat) {x:Str} {ce:Expr} {cv:V} {c:Value} {b:Bool} {p1 p2 pos:Pos} (xz:Ex X.K Z.H0 e C dd pp) (hP:Z.P=[]) (rc:∀ u,RelV cv u→u=c) (hk:kitOne X.K (.ref C) c=some b) (hg:Gl X "isinstance") (hm:X.mg "isinstance" = none) (hc:PE X ce (tC cv))
  (hN:X.N[i]?=some x:=by rfl) (hv:rQ X.env.scope x:=by first | exact Or.inl rfl | exact Or.inr (Or.inl rfl) | exact Or.inr (Or.inr rfl)) (hd:gk x:=by decide) (iy:vR x:=by decide)
  (Ph:starEach [.Name x p1,ce] X.env=(false,eval (.Name x p1) X.env) :: starEach [ce] X.env:=by rfl) (vW:starEach [ce] X.env=(false,eval ce X.env) :: starEach [] X.env:=by rfl) (gj:(backTo pos (starEach [ce] X.env)).any (·.1)=false:=by rfl) :
  VP X Z (.Call (.Name "isinstance" p2) [.Name x p1,ce] [] pos) (W_ i e b):=.mk fun tm =>
 PE.weak (lJ (Fm (e:=e) (C:=C) (dd:=dd) (pp:=pp) rc) hg hm lZ (ba (cD hN hv hd iy) (ba hc cb vW) Ph) (by decide) (by decide) Ph gj) fun σ H Q ⟨ρ,O,q,I,hf,k⟩=>by
  obtain ⟨h1,h2⟩:=hf
  obtain ⟨o,s,h3,h4,rfl,v,rfl,h5⟩:=I.sl i _ h1
  simp only [At] at h5
  subst h5
  exact ⟨_,h4,rfl,xz.same (qW hP I),hk,k _ h2 _ H (aM.refl H) ⟨I,cH⟩⟩
def fPl (i:Nat) (e:Addr) (n:Int):FP:=fun ρ Q=>ρ[i]?=some (some (.ob e,false))∧Q (.vw (.int n))
theorem Fo (i:Nat) {x:Str} {n:Int} {p1 pos:Pos} (xz:Ex X.K Z.H0 e C dd (some n)) (hP:Z.P=[]) (hN:X.N[i]?=some x:=by rfl) (hv:rQ X.env.scope x:=by first | exact Or.inl rfl | exact Or.inr (Or.inl rfl) | exact Or.inr (Or.inr rfl)) (hd:gk x:=by decide) (iy:vR x:=by decide)
  (hb:attributeBase (.Name x p1) "place" X.env (eval (.Name x p1) X.env)=eval (.Name x p1) X.env:=by rfl):VP X Z (.Attribute (.Name x p1) "place" pos) (fPl i e n):=.mk fun tm pins s σ H Q J ⟨ρ,O,q,I,hf,k⟩=>by
 obtain ⟨h1,h2⟩:=hf
 obtain ⟨o,s',h3,h4,rfl,v,rfl,h5⟩:=I.sl i _ h1
 simp only [At] at h5
 subst h5
 have xh:=xz.same (qW hP I)
 have pv:=cD (pos:=p1) hN hv hd iy pins s σ H (fun v H1=>v = .ref e∧H1=H) J ⟨_,h4,rfl,rfl⟩
 refine Hf hb (bT pv fun u s1 ⟨v,H1,J1,rv,e1,e2⟩=>?_)
 subst e1 e2
 obtain rfl:u=Value.ref e:=rv
 obtain ⟨d,rfl,hd⟩:=xh.pl
 obtain ⟨⟨oe,vs,g1,g2,g3,g4⟩,_,_⟩:=J1.bB e _ xh.ex
 obtain ⟨mA,ns,rel⟩:=J1.bB d _ hd
 obtain ⟨tl,xc⟩:=xh.kl.xc
 obtain ⟨cd,c1,c2,_⟩:=xc.cls
 have rp:kC (some (V.int n)) (mA "place"):=rel "place"
 cases hm:mA "place" with
 | none=>rw [hm] at rp; exact rp.elim
 | some u =>
   rw [hm] at rp
   obtain ⟨t,rfl⟩:=(show ∃ t,u=Value.int n t from rp)
   exact Cd J1.kq xh.kl.xf (by rw [c1]; exact c2) g1 g2 (by unfold PySem.W.notCls; rw [g4]) g3 ns hm rfl ⟨.int n,H1,J1.tok _,⟨t,rfl⟩,k _ h2 _ H1 (aM.refl H1) ⟨I,bx⟩⟩
end
def Um (K:PySem.W.Frag) (G:Addr→Option Int→(T→Prop)→Prop):Sp:=fun vs H Q _=>∃ e C dd p q,vs=[.ref e]∧Ex K H e C dd p∧G C p q∧∀ t,q t→∀ v H',aM H H'→At K H' [] t v→Q v H'
section
variable {P:Program} {w:World} {K:PySem.W.Frag} {mg:Str→Option Value} {base:Heap}
theorem fnW {x qual:Str} {st:Stmt} {f:Addr} {fd:FuncData} {N ps:List Str} {k:Nat} {G:Addr→Option Int→(T→Prop)→Prop} (F:BG K x qual st f fd) (S:aH N ps (aj st)) (hn:1=ps.length)
  (gW:∀ (bw:Value) (A:Around) (outer:List Env) (s:Shared) (H:Hp) (E:XK),bj k (A.deeper (envOfC qual (aj st) s.heap.objs.size f bw))→∀ e C dd p q,Ex K H e C dd p→G C p q →
    ∃ g,lU (dy ip P w K mg base N qual (aj st) f bw A outer s H E).ng ⟨H,[],[]⟩ (cc st) g∧g { nx:=fun _=>q .bb,rt:=fun _ r=>∃ t,r = .vw t∧q t } (some (.ob e,false) :: List.replicate (N.length - 1) none)) :
  cF P w K mg base ip (k+1) f fd ps (Um K G):=by
 refine F.ok S (fun vs H Q E h=>?_) (fun bw A outer s H vs Q E hr h=>?_)
 · obtain ⟨e,C,dd,p,q,rfl,_⟩:=h
   exact hn
 · obtain ⟨e,C,dd,p,q,rfl,xh,hG,kk⟩:=h
   obtain ⟨g,h1,h2⟩:=gW bw A outer s H E hr e C dd p q xh hG
   refine ⟨_,h1 [],?_⟩
   have ar:eB K H [] [false] [] [.ob e] [.ref e]:=⟨.ob e,[],.ref e,[],rfl,rfl,by simp only [At],rfl,rfl,rfl⟩
   exact qd (X:=(dy ip P w K mg base N qual (aj st) f bw A outer s H E).ng) (N:=N) (fs:=[false]) (as:=[]) (Ox:=[]) (q:=fun _ r=>∃ t,r = .vw t∧q t) GY (fun _ z=>nomatch z) (fun _ z=>nomatch z) ar
    (fun us r ⟨t,er,hq⟩ v H' fr z=>by subst er; exact kk t hq v H' (fun b o y=>fr b o y (by simp)) z.1) (by
      have e1:g { nx:=fun _=>∃ t,Rt.vw T.bb = .vw t∧q t,rt:=fun _ r=>∃ t,r = .vw t∧q t } (some (.ob e,false) :: List.replicate (N.length - 1) none):=by
       have:(∃ t,Rt.vw T.bb = .vw t∧q t)=q .bb:=by
        apply propext
        constructor
        · rintro ⟨t,y,z⟩; cases y; exact z
        · exact fun z=>⟨_,rfl,z⟩
       rw [this]; exact h2
      exact e1)
end
section
variable {X:Cx} {Z:Zc} {e C f:Addr} {dd:Option Addr} {pp:Option Int} {fd:FuncData} {ps:List Str} {k:Nat}
def NY (i:Nat) (e C:Addr) (pp:Option Int) (G:Addr→Option Int→(T→Prop)→Prop):FP:=fun ρ Q=>ρ[i]?=some (some (.ob e,false))∧G C pp fun t=>mW t=true∧Q (.vw t)
theorem xE (i:Nat) {x y:Str} {p1 p2 pos:Pos} {G:Addr→Option Int→(T→Prop)→Prop} (xz:Ex X.K Z.H0 e C dd pp) (hP:Z.P=[]) (F:cF X.prog X.w X.K X.mg X.base ip k f fd ps (Um X.K G)) (hr:bj k X.A) (hg:Gl X y) (hm:X.mg y=some (.ref f)) (hk:PySem.W.keepIn X.K (.ref f)=true) (hb:Binds X.K fd ps [])
  (hN:X.N[i]?=some x:=by rfl) (hv:rQ X.env.scope x:=by first | exact Or.inl rfl | exact Or.inr (Or.inl rfl) | exact Or.inr (Or.inr rfl)) (hd:gk x:=by decide) (iy:vR x:=by decide)
  (lH:gk y:=by decide) (he:starEach [.Name x p1] X.env=(false,eval (.Name x p1) X.env) :: starEach [] X.env:=by rfl) (gj:(backTo pos (starEach [] X.env)).any (·.1)=false:=by rfl) :
  VP X Z (.Call (.Name y p2) [.Name x p1] [] pos) (NY i e C pp G):=.mk fun tm=>PE.weak (j4 F hr hg hm hk hb .nil tf (ba (cD hN hv hd iy) cb he) lH he gj) fun σ H Q ⟨ρ,O,q,I,hf,kk⟩=>by
 obtain ⟨h1,h2⟩:=hf
 obtain ⟨o,s',h3,h4,rfl,v,rfl,h5⟩:=I.sl i _ h1
 simp only [At] at h5
 subst h5
 refine ⟨_,h4,e,C,dd,pp,_,rfl,xz.same (qW hP I),h2,fun t ⟨hi,hq⟩ v H' s a=>?_⟩
 exact kk _ hq v H' s ⟨I.same s,At.mW hi a⟩
end
theorem Jn {K:PySem.W.Frag} {Z:Zc} {tm:List (T×V)} {O:List (Option Addr)} {ρ:En} {σ:L2.St} {H:Hp} (hP:Z.P=[]) (I:aA K Z tm O ρ σ H) (hv:∀ (i:Nat) (t:T),ρ[i]?≠some (some (t,true))):aA K ⟨H,[],Z.Ox⟩ tm O ρ σ H:=by
 have r0:roots O=[]:=by
  cases hr:roots O with
  | nil=>rfl
  | cons a r =>
    have ha:a∈roots O:=by rw [hr]; exact gq
    obtain ⟨i,hi⟩:=Lx.mp (aN.mp ha)
    have hl:=(e_.mp hi).1
    have US:i < ρ.length:=by rw [← I.lO]; exact hl
    obtain ⟨o,s,h1,h2,h3⟩:=I.sl i ρ[i] (by simp)
    rw [hi] at h1
    cases h1
    cases q:ρ[i] with
    | none=>rw [q] at h3; cases h3
    | some tb =>
      obtain ⟨t,b⟩:=tb
      rw [q] at h3
      cases b with
      | false=>cases h3.1
      | true=>exact absurd (by rw [← q]; simp) (hv i t)
 refine ⟨I.lσ,I.lO,I.sl,I.nd,fun a ha=>by (rw [r0] at ha; cases ha),fun p hp=>(nomatch hp),I.ox,fun b o y _=>y,I.pB⟩
theorem jR {K:PySem.W.Frag} {Z:Zc} {H0:Hp} {tm:List (T×V)} {O:List (Option Addr)} {ρ:En} {σ:L2.St} {H:Hp} (hP:Z.P=[]) (s:aM Z.H0 H0) (I:aA K ⟨H0,[],Z.Ox⟩ tm O ρ σ H):aA K Z tm O ρ σ H:=by
 refine ⟨I.lσ,I.lO,I.sl,I.nd,fun a ha=>?_,fun p hp=>by (rw [hP] at hp; cases hp),I.ox,fun b o y _=>I.keep b o (s _ _ y) (by simp),I.pB⟩
 obtain ⟨h1,h2,h3⟩:=I.own a ha
 refine ⟨.inr ?_,h2,h3⟩
 rcases h1 with z | z
 · exact absurd z (by simp)
 · exact s.free z
theorem Fp {K:PySem.W.Frag} {Z:Zc} {H0:Hp} {tm:List (T×V)} {d:KP} {D:Ends} (hP:Z.P=[]) (s:aM Z.H0 H0) (F:VT.Fin K Z tm d D):VT.Fin K ⟨H0,[],Z.Ox⟩ tm d D:=by
 refine ⟨fun O ρ σ H I h=>F.nx O ρ σ H (jR hP s I) h,fun O ρ σ H r v z h=>F.rt O ρ σ H r v ?_ h,fun O ρ σ H I h=>F.bk O ρ σ H (jR hP s I) h,fun O ρ σ H I h=>F.ct O ρ σ H (jR hP s I) h⟩
 cases r with
 | vw t=>exact ⟨jR hP s z.1,z.2⟩
 | fr t =>
   obtain ⟨a,rfl,I,hR,h0,hx⟩:=z
   exact ⟨a,rfl,jR (Z:=Z.ex a) hP s I,hR,s.free h0,hx⟩
theorem Fq {K:PySem.W.Frag} {Z:Zc} {tm:List (T×V)} {O:List (Option Addr)} {ρ:En} {σ:L2.St} {H:Hp} {i:Nat} {s:Option V} (I:aA K Z tm O ρ σ H) (hi:ρ[i]?=some none):aA K Z tm O ρ (σ.set i s) H:=by
 refine ⟨by rw [Kk]; exact I.lσ,I.lO,fun j e h=>?_,I.nd,I.own,I.par,I.ox,I.keep,I.pB⟩
 obtain ⟨o,s',h1,h2,h3⟩:=I.sl j e h
 by_cases z:j=i
 · subst z
   rw [hi] at h
   cases h
   exact ⟨o,s,h1,by rw [Ao ((e_.mp h2).1)],h3⟩
 · exact ⟨o,s',h1,by rw [vY (Ne.symm z)]; exact h2,h3⟩
section
variable {X:Cx} {Z:Zc} {S f:Addr} {ts:List Addr} {fd:FuncData} {ps:List Str} {k ix iz jn ia:Nat} {x z n cl fx y:Str} {p0 p1 p2 p3 p4 p5 p6 p7 p8 p9 pos:Pos} {rest:List Stmt} {G:WT→List T→(Rt→Prop)→Prop} {g1:FS} {g2:Addr→Addr→Int→FS} {g3:Addr→Addr→FS}
def noOwn (ρ:En):Prop:=∀ (i:Nat) (t:T),ρ[i]?≠some (some (t,true))
def gX (g2:Addr→Addr→Int→FS) (g3:Addr→Addr→FS) (e C:Addr):Option Int→FS
 | some n=>g2 e C n
 | none=>g3 e C
def Xa (K:PySem.W.Frag) (S:Addr) (ia ix iz jn:Nat) (G:WT→List T→(Rt→Prop)→Prop) (g1:FS) (g2:Addr→Addr→Int→FS) (g3:Addr→Addr→FS):FS:=fun d ρ=>noOwn ρ∧∃ t W,ρ[ia]?=some (some (t,false))∧G W [t] (fun r=>g1 d (ρ.set ix (some (r.t,false)))) ∧
 ∀ C p,W C p→(∃ tl,XC K C tl∧(C=S∨S∈tl))∧XF K C∧∀ e,gX g2 g3 e C p d (((ρ.set jn (some (.ob e,false))).set iz (some (.ob e,false))).set jn none)
theorem Fs (hP:Z.P=[]) (st:X.stack=X.env :: X.outer∧X.env.frame=some X.env.locals) (F:cF X.prog X.w X.K X.mg X.base (A_ X.prog X.w) k f fd ps (zt X.K 1 G)) (hr:bj k X.A) (hg:Gl X fx) (hm:X.mg fx=some (.ref f)) (hk:PySem.W.keepIn X.K (.ref f)=true) (hb:Binds X.K fd ps [])
  (W5:Gl X cl) (W6:X.mg cl=some (.ref S)) (xs:XC X.K S ts) (jm:∀ y,X.fn y=true) (hex:X.ex=[])
  (hn:lU X Z rest g1) (hx:∀ e C dd n H0,Ex X.K H0 e C dd (some n)→lU X ⟨H0,[],Z.Ox⟩ rest (g2 e C n)) (hx0:∀ e C dd H0,Ex X.K H0 e C dd none→lU X ⟨H0,[],Z.Ox⟩ rest (g3 e C))
  (hN:X.N.Nodup) (hia:X.N[ia]?=some y:=by rfl) (W3:X.N[ix]?=some x:=by rfl) (W4:X.N[iz]?=some z:=by rfl) (NW:X.N[jn]?=some n:=by rfl) (vy:rQ X.env.scope y:=by first | exact Or.inl rfl | exact Or.inr (Or.inl rfl)) (lx:Loc X.env.scope x:=by exact Or.inl rfl) (lz:Loc X.env.scope z:=by exact Or.inl rfl) (ln:X.env.scope.names.lookup n=some .local:=by rfl)
  (d1:gk fx:=by decide) (d2:gk cl:=by decide) (d3:gk n:=by decide) (d4:vR n:=by decide) (d5:gk y:=by decide) (d6:vR y:=by decide)
  (he:starEach [.Name y p9] X.env=(false,eval (.Name y p9) X.env) :: starEach [] X.env:=by rfl) (gj:(backTo p2 (starEach [] X.env)).any (·.1)=false:=by rfl)
  (Ph:swapsWith (.Call (.Name fx p1) [.Name y p9] [] p2) (some (.Name x p0)) p3.line X.env=pure false:=by rfl) (vW:swapsWith (.Name n p5) (some (.Name z p6)) p7.line X.env=pure false:=by rfl) :
  lU X Z (.Try [.Assign [.Name x p0] (.Call (.Name fx p1) [.Name y p9] [] p2) p3] [.ExceptHandler (some (.Name cl p4)) (some n) [.Assign [.Name z p6] (.Name n p5) p7] p8] [] [] pos :: rest) (Xa X.K S ia ix iz jn G g1 g2 g3):=by
 refine .mk fun tm pins s σ H D J ⟨ρ,O,d,I,⟨no,t,W,ht,hG,hW⟩,Fn⟩=>?_
 have pt:=Jg (X:=X) (ix:=ix) (iz:=iz) (jn:=jn) (p0:=p0) (p1:=p1) (p2:=p2) (p3:=p3) (p4:=p4) (p5:=p5) (p6:=p6) (p7:=p7) (p8:=p8) (pos:=pos) (a:=.Name y p9) (ta:=DE (LM ia) Md) st F hr hg hm hk hb (fun E1=>ba (X:=X.jg E1) (cD (X:=X.jg E1) hia vy d5 d6) cb he) hN W3 W4 NW lx lz ln W5 W6 xs jm hex d1 d2 d3 d4 he gj Ph vW
 have R1:∀ pins s σ' H',Inv X pins σ' H' s→((lS X Z tm g1 D σ' H')∨∃ e C dd p H0,Ex X.K H0 e C dd p∧lS X ⟨H0,[],Z.Ox⟩ tm (gX g2 g3 e C p) D σ' H')→wpAny (model X.prog X.w) X.A (execs rest X.env) (SP X pins D) X.xe s:=fun pins s σ' H' J' h=>by
  rcases h with h | ⟨e,C,dd,p,H0,xh,h⟩
  · exact hn tm pins s σ' H' D J' h
  · cases p with
    | some n=>exact hx e C dd n H0 xh tm pins s σ' H' D J' h
    | none=>exact hx0 e C dd H0 xh tm pins s σ' H' D J' h
 refine wpAny_execs_cons (bT (pt pins s σ H { D with nx:=fun σ' H'=>(lS X Z tm g1 D σ' H')∨∃ e C dd p H0,Ex X.K H0 e C dd p∧lS X ⟨H0,[],Z.Ox⟩ tm (gX g2 g3 e C p) D σ' H' } J ?_) fun fl s1 q=>?_)
 · obtain ⟨o,s',h3,h4,rfl,v,rfl,h5⟩:=I.sl ia _ ht
   refine ⟨v,h4,W,⟨[t],[],av Z O,fun _ r=>g1 d (ρ.set ix (some (r.t,false))),GY,fun _ z=>absurd z ko,I.Kz,eD rfl (aI.cons h5 aI.nil),hG,fun us r hr v' H' fr zz=>?_⟩,fun C p dd H' sm pl hw=>?_⟩
   · have sm:aM H H':=fun b o e=>fr b o e ko
     refine .inl ⟨_,_,d,(I.same sm).put (fun p hp=>by rw [hP] at hp; cases hp) ?_,hr,Fn⟩
     cases r with
     | vw t'=>exact zz.1
     | fr t' =>
       obtain ⟨b,rfl,hb',_,hR,_⟩:=zz
       obtain ⟨n1,n2,n3⟩:=I.fresh hb'
       refine (hR.bh fun c hc=>i_ _ hc).at fun z=>?_
       rcases mY.mp z with y | y
       · exact absurd y ko
       · exact n1 y
   · obtain ⟨⟨tl,xc,hS⟩,xf,hg2⟩:=hW C p hw
     refine ⟨C,tl,rfl,xc,hS,fun e n1 n2=>.inr ⟨e,C,dd,p,upd H' e (.ext (NU C e dd)),⟨aQ,?_,⟨tl,xc⟩,xf⟩,?_⟩⟩
     · cases p with
       | none=>exact pl
       | some i =>
         obtain ⟨dx,e1,e2⟩:=pl
         exact ⟨dx,e1,by rw [aK (aX e2 n2)]; exact e2⟩
     · have s2:aM H (upd H' e (.ext (NU C e dd))):=fun b o y=>by rw [aK (fun z=>by rw [z,n1] at y; cases y)]; exact sm b o y
       have I2:=Jn hP (I.same s2) no
       have yP:∀ i,∀ p∈(⟨upd H' e (.ext (NU C e dd)),[],Z.Ox⟩:Zc).P,p.1≠i:=fun i p hp=>nomatch hp
       have I3:=((I2.put (i:=jn) (t:=.ob e) (v:=.ref e) (yP _) (by simp only [At])).put (i:=iz) (t:=.ob e) (v:=.ref e) (yP _) (by simp only [At]))
       have I4:=Fq (s:=(none:Option V)) (I3.forget (yP jn)) (by rw [Ao (by rw [Kk,Kk,← I.lσ,J.len]; exact (e_.mp NW).1)])
       exact ⟨_,_,d,I4,hg2 e,Fp hP ((qW hP I).trans s2) Fn⟩
 · cases fl with
   | next=>obtain ⟨σ',H',J',q⟩:=q; exact R1 pins s1 σ' H' J' q
   | ret v=>exact q
   | _=>exact q
end
end EX
namespace EX
open PySem PySem.Spec PySem.Calls PyProof.Rows L2
open PySem.W (findIn typeIn clsIn subIn mroIn specialIn takesIn kitOne)
def xg:Value→Bool
 | .str _ _=>true
 | _=>false
def RK (K:PySem.W.Frag) (a:Addr):Bool:=match K.lookup a with
 | some ⟨_,_,.cls cd,_⟩=>(match K.lookup cd.ns with
   | some ⟨_,_,.dict es _,_⟩=>es.toList.all (fun e=>xg e.key) && (nsFind es "__init__").isNone
   | _=>false)
 | _=>false
def Uo (K:PySem.W.Frag) (C:Addr) (tl:List Addr):Bool:=match K.lookup C with
 | some ⟨c,_,.cls cd,sl⟩=>c == .type "type" && (cd.mro == (Value.ref C :: (tl.map Value.ref ++ GN)) && (cd.hasDict && (!cd.hasDel && ((match sl.toList with
   | [_,_,_,_,some v,_]=>v == .builtin "ValueError.__new__"
   | _=>false) && tl.all (RK K)))))
 | _=>false
theorem Lf {K:PySem.W.Frag} {a:Addr} (h:RK K a=true):∃ c dd cd sl o es ep,K.lookup a=some ⟨c,dd,.cls cd,sl⟩∧K.lookup cd.ns=some o∧o.data = .dict es ep∧StrKeys es∧nsFind es "__init__" = none:=by
 unfold RK at h
 split at h
 · rename_i c dd cd sl h1
   split at h
   · rename_i c2 d2 es ep Ax h2
     rw [gT] at h
     refine ⟨c,dd,cd,sl,_,es,ep,h1,h2,rfl,fun e he=>?_,Option.isNone_iff_eq_none.mp h.2⟩
     have:=C6.mp h.1 e (by simpa using he)
     cases q:e.key with
     | str n t=>exact ⟨n,t,rfl⟩
     | _=>rw [q] at this; cases this
   · cases h
 · cases h
theorem Lg {K:PySem.W.Frag} {C:Addr} {tl:List Addr} (h:Uo K C tl=true):XC K C tl:=by
 unfold Uo at h
 split at h
 · rename_i c dd cd sl h1
   simp only [gT] at h
   obtain ⟨e1,e2,e3,e4,e5,e6⟩:=h
   refine ⟨?_,fun a ha=>Lf (C6.mp e6 a ha)⟩
   obtain ⟨nm,bs,mro,ns,q,hd,sn,sub,ab,col,RL⟩:=cd
   have e1:=beq_iff_eq.mp e1
   have e2:=beq_iff_eq.mp e2
   simp only at e2 e3 e4
   subst e1 e2 e3
   have e4:RL=false:=by cases RL <;> simp_all
   subst e4
   obtain ⟨l⟩:=sl
   match l,e5 with
   | [k0,k1,k2,k3,some v,k5],e5 =>
     have e5:=beq_iff_eq.mp e5
     subst e5
     exact ⟨nm,q,ns,bs,sn,sub,ab,col,dd,k0,k1,k2,k3,k5,h1⟩
 · cases h
def Xb (K:PySem.W.Frag) (C:Addr):Bool:=findIn K (.ref C) "__getattribute__" == some (some (.builtin "BaseException.__getattribute__")) && (findIn K (.ref C) "__getattr__" == some none && (findIn K (.ref C) "__setattr__" == some (some (.builtin "object.__setattr__")) &&
 (findIn K (.ref C) "place" == some none && (findIn K (.ref C) "__class__" == some (some (.builtin "object.__class__")) && (subIn K (.ref C) (.type "BaseException") == some true && (mroIn K C (.type "object") == some true &&
 (specialIn K (.builtin "object.__class__") "__get__" == some (some (.builtin "getset_descriptor.__get__")) && takesIn K (.builtin "object.__class__") == some true)))))))
theorem RM {K:PySem.W.Frag} {C:Addr} (h:Xb K C=true):XF K C:=by
 unfold Xb at h
 simp only [gT,beq_iff_eq] at h
 obtain ⟨h1,h2,h3,h4,h5,h6,h7,h8,h9⟩:=h
 exact ⟨h1,h2,h3,h4,h5,h6,h7,h8,h9⟩
def cfV:PySem.W.CFound→Option Value
 | .val v=>some v
 | _=>none
def Xc (K:PySem.W.Frag) (S:Addr):Bool:=specialIn K (.ref S) "__getattribute__" == some (some (.builtin "type.__getattribute__")) && (PySem.W.readsIn K S (.type "type") && ((PySem.W.findCls K (.ref S) (.type "type") "__init__").bind cfV == some (.builtin "ValueError.__init__")))
theorem RN {K:PySem.W.Frag} {S:Addr} (h:Xc K S=true):XS K S:=by
 unfold Xc at h
 simp only [gT,beq_iff_eq] at h
 obtain ⟨h1,h2,h3⟩:=h
 refine ⟨h1,h2,?_⟩
 cases q:PySem.W.findCls K (.ref S) (.type "type") "__init__" with
 | none=>rw [q] at h3; cases h3
 | some r =>
   rw [q] at h3
   cases r with
   | val v=>rw [show v=Value.builtin "ValueError.__init__" from Option.some.inj h3]
   | get a b c d=>cases h3
def YS (K:PySem.W.Frag) (cl:List Addr) (S:Addr):Bool:=cl.all fun C=>Uo K C [S] && (Xb K C && (kitOne K (.ref C) (.type "ValueError") == some true && cl.all fun D=>kitOne K (.ref C) (.ref D) == some (decide (C=D))))
theorem kB {K:PySem.W.Frag} {cl:List Addr} {S:Addr} (h:YS K cl S=true):(∀ C∈cl,∀ D∈cl,kitOne K (.ref C) (.ref D)=some (decide (C=D)))∧(∀ C∈cl,kitOne K (.ref C) (.type "ValueError")=some true)∧∀ C∈cl,XC K C [S]∧XF K C:=by
 have h:=C6.mp h
 refine ⟨fun C hC D hD=>?_,fun C hC=>?_,fun C hC=>?_⟩
 · have:=h C hC
   simp only [gT,C6,beq_iff_eq] at this
   exact this.2.2.2 D hD
 · have:=h C hC
   simp only [gT,beq_iff_eq] at this
   exact this.2.2.1
 · have:=h C hC
   simp only [gT] at this
   exact ⟨Lg this.1,RM this.2.1⟩
end EX
namespace EX
open PySem PySem.Spec PySem.Calls PyProof.Rows L2 VT
open PySem.W (findIn typeIn Looks InstAt)
structure X0 (K:PySem.W.Frag) (mg:Str→Option Value) (x:Str) (C:Addr):Prop where
 m:mg x=some (.ref C)
 kp:PySem.W.keepIn K (.ref C)=true
 xc:∃ tl,XC K C tl
 n0:∃ c dd cd sl o es ep,K.lookup C=some ⟨c,dd,.cls cd,sl⟩∧K.lookup cd.ns=some o∧o.data = .dict es ep∧StrKeys es∧nsFind es "__init__" = none
section
variable {X:Cx} {C:Addr} {x:Str}
def Xd (C:Addr) (t:TA):TE:=fun σ H Q=>t σ H fun vs H1=>∃ y,vs=[.str y]∧∀ e,H1 e=none→Q (.ref e) (upd H1 e (.ext (vX C e none)))
theorem NZ {a:Expr} {es:List Expr} {p pos:Pos} {t:TA} (x0:X0 X.K X.mg x C) (hg:Gl X x) (ha:PA X (a :: es) t) (lH:gk x:=by decide)
  (he:starEach (a :: es) X.env=(false,eval a X.env) :: starEach es X.env:=by rfl) (gj:(backTo pos (starEach es X.env)).any (·.1)=false:=by rfl):PE X (.Call (.Name x p) (a :: es) [] pos) (Xd C t):=by
 intro pins s σ H Q I h
 obtain ⟨tl,xc⟩:=x0.xc
 refine wpAny_Call_Name_kw (iA I hg x0.m ?_ lH)
 refine Px (h₀:=X.base) I.ok.mod.LK x0.kp (bT (ha pos pins s σ H _ I h) fun us s1 ⟨vs,H1,I1,r,y,ev,q⟩=>⟨I1.kq,?_⟩) he gj
 subst ev
 obtain ⟨u1,r1,rfl,z1,r⟩:∃ u1 r1,us=u1 :: r1∧RelV (.str y) u1∧Vals [] r1:=by cases r with | cons a b=>exact ⟨_,_,rfl,a,b⟩
 cases r
 obtain ⟨nm,qn,N,bs,sn,sub,ab,col,dd,k0,k1,k2,k3,k5,oK⟩:=id xc.obj
 obtain ⟨c,yX,cd,sl,o,es,ep,g1,g2,g3,g4,g5⟩:=x0.n0
 rw [oK] at g1
 cases g1
 refine wpAny_call_exc_subT (g:=s1.gens) (d:=s1.drawn) (t:=s1.toks) (os:=s1.os) Pu (mq I1.kq xc.tail) (I1.kq _ _ oK) ⟨o,es,ep,I1.kq _ _ g2,g3,g4,fun _=>rfl⟩ g5 (fun h' e hm=>?_) (by show (1:Nat)≤sizeLine; rw [sizeLine_eq]; omega)
 obtain ⟨t0,NL,_,_⟩:=hm.there
 have n1:H1 e=none:=by
  cases q:H1 e with
  | none=>rfl
  | some o=>obtain ⟨u,z⟩:=jO (I1.bB e o q); rw [hm.new] at z; cases z
 have I2:Inv X pins σ (upd H1 e (.ext (vX C e none))) { s1 with heap:=h' }:=I1.un (t':=s1.toks) (mv (Un.kept hm.keeps) n1 hm.new) (j_ (I1.bB.kept hm.keeps) n1 (A9 NL))
 exact ⟨.ref e,_,I2,rfl,q e n1⟩
end
section
variable {X:Cx} {Z:Zc} {W:WT} {C:Addr} {x:Str}
def Jo (W:WT) (C:Addr):FS:=fun _ _=>W C none
theorem Cm {a:Expr} {np a9 pos:Pos} {i:Int} (hw:Pf X Z W) (x0:X0 X.K X.mg x C) (hg:Gl X x) (ha:PA X [a] (DE (YJ (tC (.int i))) Md)) (h0:0≤i:=by decide) (h1:i≤100:=by decide) (lH:gk x:=by decide)
  (he:starEach [a] X.env=(false,eval a X.env) :: starEach [] X.env:=by rfl) (gj:(backTo a9 (starEach [] X.env)).any (·.1)=false:=by rfl) :
  VS X Z (.Raise (some (.Call (.Name x np) [a] [] a9)) none pos) (Jo W C):=.mk fun tm=>PS.weak (xx hw.calm (NZ x0 hg ha lH he gj)) fun D σ H ⟨ρ,O,d,I,hW,F⟩=>by
 refine ⟨i,rfl,h0,h1,fun y=>⟨y,rfl,fun e n1=>?_⟩⟩
 obtain ⟨tl,xc⟩:=x0.xc
 refine ⟨e,C,none,tl,rfl,xc,aQ,fun pins s J J2 fl=>?_⟩
 have sm:aM Z.H0 H:=qW hw.P0 I
 have z0:Z.H0 e=none:=sm.free n1
 refine hw.xe pins σ _ s e C none none none J2 fl mw (fun _ z=>nomatch z) ?_ (fun _ z=>nomatch z) (fun b o z=>?_) rfl hW
 · cases q2:X.s₀.heap.get? e with
   | none=>rfl
   | some o =>
     have:=J.base.free e o q2 (by rw [← hw.H0]; exact z0) (by rw [hw.ex]; simp)
     rw [aQ] at this; cases this
 · have z1:=sm b o z
   have b1:b≠e:=fun y=>by rw [y,n1] at z1; cases z1
   rw [gP b1,aK b1]
   exact z1
theorem RO {K:PySem.W.Frag} {mg:Str→Option Value} {C:Addr} {x:Str} {tl:List Addr} (m:mg x=some (.ref C)) (kp:PySem.W.keepIn K (.ref C)=true) (xc:XC K C tl) (h:RK K C=true):X0 K mg x C:=⟨m,kp,⟨tl,xc⟩,Lf h⟩
end
end EX
namespace Jp
open PySem L2 VT Gen wm EX fJ
abbrev bg:Stmt:=top 31
abbrev cU:Stmt:=top 32
def RT (t:T):Prop:=∃ (x:Str) (ps:List T),t = .tup (.str x :: ps)∧ps.length≤10∧∀ p∈ps,Part p
def RP:T→Bool
 | .tup (.str x :: ps)=>cW x ps
 | _=>false
def cX:List T→Nat→Option Nat
 | [],_=>none
 | t :: l,i=>if RP t=true then cX l (i+1) else some i
def Bc (cR:Addr) (W:WT) (ts:List T) (q:Rt→Prop):Prop:=∃ xs:List T,ts=[.lst xs]∧xs.length≤60∧(∀ x∈xs,RT x)∧(match cX xs 0 with | none=>q (.vw .bb) | some i=>W cR (some (i:Int)))
def Ft (c0 c1 c2 c3:Addr) (W:WT) (ts:List T) (q:Rt→Prop):Prop:=∃ xs:List T,ts=[.lst xs]∧xs.length≤200∧(∀ x∈xs,RT x)∧(60 < xs.length→W c0 none)∧(xs.length≤60→match cX xs 0 with
 | some i=>W c1 (some (i:Int))
 | none=>∃ rs:List Rw,xs=rs.map aU∧(match brk [] rs 0 with
   | some i=>W c2 (some (i:Int))
   | none=>match gz rs with
     | some i=>W c3 (some (i:Int))
     | none=>q (.fr (.lst (rs.map aU)))))
section
variable {P:Program} {w:World} {K:PySem.W.Frag} {mg:Str→Option Value} {base:Heap} {t8 vt gf gA:Addr}
abbrev iP:List Str:=["program","place","row"]
theorem dg:aH iP ["program"] (aj cU):=L2.gE
theorem kx {f:Addr} {fd:FuncData} (D:Df K mg "check_rows" cU ["program"] f fd) (M:zj w K mg) (q8:XP P w K mg base "NoRow" vt 1) (qN:b_ P w K mg base "is_row" ["row"] 5 (bZ K 1 va)):qX P w K mg base "check_rows" ["program"] 6 (zt K 1 (Bc vt)):=by
 obtain ⟨Fd,B',qO,qP,qQ,qR⟩:=qN
 refine ⟨f,fd,D.m,D.F.kp,D.b,RC D.F dg rfl fun bw A outer s H E Ox hr W ts q hG hw=>?_⟩
 have nd:=dg.nd
 have np:∀ {i:Nat},aZ ⟨H,[],Ox⟩ i:=j5
 refine ⟨_,(ah (dM hw.own rfl (gw (by rfl) M.enumerate (aw 0)) (gJ (n:=2) rfl (bo (aW (i:=1) nd rfl (Or.inl rfl) np) (bo (aW (i:=2) nd rfl (Or.inl rfl) np) eU)))
    (ah (aJ (cf (bY (aT qR (hr.mono (by decide)) (by rfl) qO qP qQ (ae (aw 2) ak))))
      (ah (jP hw q8 (hr.mono (by decide)) (by rfl) (ae (aw 1) ak)))
      au)))),fun _=>?_⟩
 obtain ⟨xs,rfl,hn,n_,hq⟩:=hG
 have e0:xs=xs.map id:=by simp
 rw [e0]
 refine eO (fun i ρ=>∃ b1 b2,ρ=[some (.lst (xs.map id),false),b1,b2]∧cX xs 0=cX (xs.drop i) i) ⟨_,_,rfl,rfl⟩ ?_ ?_
 · rintro i t ρ ht ⟨b1,b2,rfl,hb⟩
   have hi:=(e_.mp ht).1
   have ed:xs.drop i=t :: xs.drop (i+1):=by
    obtain ⟨h1,h2⟩:=e_.mp ht
    rw [← h2]; exact Tf h1
   rw [ed] at hb
   obtain ⟨x,ps,ex,Ug,Rz⟩:=n_ t (mV ht)
   subst ex
   refine ⟨rfl,rfl,rfl,x,ps,rfl,Ug,Rz,?_⟩
   cases hg:cW x ps with
   | true =>
     refine ⟨_,_,rfl,?_⟩
     rw [hb]
     show (if cW x ps=true then _ else _)=_
     rw [if_pos hg]
   | false =>
     have e2:cX xs 0=some i:=by rw [hb]; show (if cW x ps=true then _ else _)=_; rw [hg]; rfl
     rw [e2] at hq
     exact ⟨(i:Int),rfl,by omega,by omega,hq⟩
 · rintro ρ ⟨b1,b2,rfl,hb⟩
   rw [Pz] at hb
   have Dh:cX xs 0=none:=hb
   rw [Dh] at hq
   exact hq
abbrev oH:Int:=60
abbrev bX:List Str:=["rows","program"]
theorem bL:aH bX ["rows"] (aj bg):=L2.gE
theorem gO {f:Addr} {fd:FuncData} (D:Df K mg "program_of" bg ["rows"] f fd) (M:zj w K mg) (M1:X0 K mg "TooGreat" t8) (dQ:qX P w K mg base "check_rows" ["program"] 6 (zt K 1 (Bc vt))) (cN:qX P w K mg base "check_blocks" ["program"] 3 (zt K 1 (Je.hV gf))) (dh:qX P w K mg base "check_calls" ["program"] 3 (zt K 1 (Je.j9 gA))):qX P w K mg base "program_of" ["rows"] 7 (zt K 1 (Ft t8 vt gf gA)):=by
 obtain ⟨mn,kz,dR,dS,dU,dW⟩:=dQ
 obtain ⟨jM,i9,cO,cP,cQ,cS⟩:=cN
 obtain ⟨kA,jN,di,dj,dm,dq⟩:=dh
 refine ⟨f,fd,D.m,D.F.kp,D.b,RC D.F bL rfl fun bw A outer s H E Ox hr W ts q hG hw=>?_⟩
 have nd:=bL.nd
 have np:∀ {i:Nat},aZ ⟨H,[],Ox⟩ i:=j5
 obtain ⟨tM,oI⟩:=M.nV
 have e7:∀ {pos},VP (dy (A_ P w) P w K mg base bX "program_of" (aj bg) f bw A outer s H E) ⟨H,[],Ox⟩ (.Name "MOST_ROWS" pos) (fC (.int 60)):=dv (by rfl) oI (v:=.int 60) ⟨_,rfl⟩ fun _ _=>bx
 have jS:=M1
 refine ⟨_,(af (cY (i:=1) nd rfl (Or.inl rfl) (VP.vx (d_ fq iF (by rfl) M.list qp (aq (aa 0) ay))) np)
   (af (aJ (i5 (VP.vr (aE aB aD (by rfl) M.len gC (aq (aa 1) ay))) (VP.vr e7))
     (ah (Cm (i:=oH) hw jS (by rfl) (ba (A8 (pk (by rfl) oI (v:=.int oH) ⟨_,rfl⟩)) cb)))
     au)
   (af (jQ hw dW (hr.mono (by decide)) (by rfl) dR dS dU (aq (aa 1) ay))
   (af (jQ hw cS (hr.mono (by decide)) (by rfl) cO cP cQ (aq (aa 1) ay))
   (af (jQ hw dq (hr.mono (by decide)) (by rfl) di dj dm (aq (aa 1) ay))
   (ah (az (lV 1 np)))))))),fun _=>?_⟩
 obtain ⟨xs,rfl,RQ,n_,hg,hq⟩:=hG
 refine cj (fun h=>?_) (fun h=>?_)
 · have h':60 < xs.length:=by omega
   exact hg h'
 · have hn:xs.length≤60:=by omega
   replace hq:=hq hn
   refine ⟨rfl,W,fun _ _ z=>z,xs,rfl,hn,n_,?_⟩
   cases YT:cX xs 0 with
   | some i=>rw [YT] at hq; exact hq
   | none =>
     rw [YT] at hq
     obtain ⟨rs,rfl,hq⟩:=hq
     rw [cV] at hn
     refine ⟨rfl,rfl,W,fun _ _ z=>z,rs,rfl,hn,?_⟩
     cases hb:brk [] rs 0 with
     | some i=>rw [hb] at hq; exact hq
     | none =>
       rw [hb] at hq
       refine ⟨rfl,rfl,W,fun _ _ z=>z,rs,rfl,hn,?_⟩
       cases hc:gz rs with
       | some i=>rw [hc] at hq; exact hq
       | none =>
         rw [hc] at hq
         exact ⟨rfl,hq⟩
end
end Jp
namespace VT
open PySem PySem.Spec PyProof.Rows L2
def N0:FS:=fun _ _=>False
theorem t9 {X:Cx} {Z:Zc} {ss:List Stmt}:lU X Z ss N0:=.mk fun tm=>fun pins s σ H D I h=>by
 obtain ⟨_,_,_,_,q,_⟩:=h
 exact q.elim
end VT
namespace GP
open PySem L2 VT Gen wm EX fJ
def top (i:Nat):Stmt:=PySem.Challenge.pw_slicewise_k19_whole_programs_judged.main.body.getD i (.Pass ⟨0,0,0,0⟩)
abbrev fL:Stmt:=top 41
abbrev ka:Stmt:=top 42
abbrev hY:Stmt:=top 43
abbrev bG:Stmt:=top 44
abbrev q9:Stmt:=top 45
abbrev mx:Stmt:=top 46
abbrev gg:Stmt:=top 47
abbrev gB:Stmt:=top 48
abbrev h_:Stmt:=top 49
abbrev ib:Stmt:=top 50
abbrev s_row:Stmt:=top 51
abbrev q_:Stmt:=top 52
abbrev gh:Stmt:=top 53
abbrev xF:Stmt:=top 54
abbrev jT:Stmt:=top 55
abbrev jU:Stmt:=top 56
abbrev w9:List Str:=["great","row","block","call","text","place","unlike","fault","done"]
structure Xe (K:PySem.W.Frag) (mg:Str→Option Value) (S c0 c1 c2 c3 c4 c5 c6 c7 c8:Addr):Prop where
 mS:mg "SliceError" = some (.ref S)
 m0:mg "TooGreat" = some (.ref c0)
 m1:mg "NoRow" = some (.ref c1)
 m2:mg "NoBlock" = some (.ref c2)
 m3:mg "NoCall" = some (.ref c3)
 m4:mg "NoText" = some (.ref c4)
 m5:mg "NoPlace" = some (.ref c5)
 m6:mg "Unlike" = some (.ref c6)
 m7:mg "NoFault" = some (.ref c7)
 m8:mg "Done" = some (.ref c8)
 xs:XC K S []
 nd:[c0,c1,c2,c3,c4,c5,c6,c7,c8].Nodup
 hk:∀ C∈[c0,c1,c2,c3,c4,c5,c6,c7,c8],∀ D∈[c0,c1,c2,c3,c4,c5,c6,c7,c8],PySem.W.kitOne K (.ref C) (.ref D)=some (decide (C=D))
 hv:∀ C∈[c0,c1,c2,c3,c4,c5,c6,c7,c8],PySem.W.kitOne K (.ref C) (.type "ValueError")=some true
 xk:∀ C∈[c0,c1,c2,c3,c4,c5,c6,c7,c8],XC K C [S]∧XF K C
 isinstance:mg "isinstance" = none
 int:mg "int" = none
 bool:mg "bool" = none
 ValueError:mg "ValueError" = none
def Fu (cl:List Addr) (C:Addr) (p:Option Int) (q:T→Prop):Prop:=∃ i:Nat,cl[i]?=some C∧q (.str (w9.getD i ""))
theorem Jq {cl:List Addr} (nd:cl.Nodup) {C:Addr} (h:C∈cl):(cl.map fun D=>decide (C=D)).countP (· == true)=1:=by
 rw [List.countP_map]
 have:((fun x=>x == true) ∘ fun D=>decide (C=D))=fun D=>D == C:=by
  funext D
  simp only [Function.comp]
  by_cases z:C=D
  · subst z; simp
  · have z2:D≠C:=fun y=>z y.symm
    simp [z,z2]
 rw [this]
 exact Nat.le_antisymm (List.nodup_iff_count.mp nd C) (List.count_pos_iff.mpr h)
theorem iX {a:Addr}:∀ u,RelV (.ref a) u→u=Value.ref a:=fun _ z=>z
theorem RS {n:String}:∀ u,RelV (.ty n) u→u=Value.type n:=fun _ z=>z
section
variable {P:Program} {w:World} {K:PySem.W.Frag} {mg:Str→Option Value} {base:Heap} {S c0 c1 c2 c3 c4 c5 c6 c7 c8:Addr}
abbrev pK:List Str:=["_law_error","_law_some"]
theorem xG:aH pK ["_law_error"] (aj gB):=L2.gE
theorem Fv {f:Addr} {fd:FuncData} (D:Df K mg "_law_which" gB ["_law_error"] f fd) (M:Xe K mg S c0 c1 c2 c3 c4 c5 c6 c7 c8):b_ P w K mg base "_law_which" ["_law_error"] 1 (Um K (Fu [c0,c1,c2,c3,c4,c5,c6,c7,c8])):=by
 refine D.jA (fnW D.F xG rfl fun bw A outer s H E hr e C dd p q xz hG=>?_)
 have nd:=xG.nd
 have hu:=bj.fP hr
 have np:∀ {i:Nat},aZ ⟨H,[],[]⟩ i:=j5
 obtain ⟨i,hi,hq⟩:=hG
 have hC:=mV hi
 have xH:=M.hk C hC c0 (by simp)
 have Fw:=M.hk C hC c1 (by simp)
 have zx:=M.hk C hC c2 (by simp)
 have Cn:=M.hk C hC c3 (by simp)
 have Co:=M.hk C hC c4 (by simp)
 have zy:=M.hk C hC c5 (by simp)
 have Cp:=M.hk C hC c6 (by simp)
 have zA:=M.hk C hC c7 (by simp)
 have Jr:=M.hk C hC c8 (by simp)
 have sG:=M.hv C hC
 have pg:∀ {x:Str} {a:Addr} {pos:Pos},mg x=some (.ref a)→(x == ("__debug__" : Str))=false→Gl (dy ip P w K mg base pK "_law_which" (aj gB) f bw A outer s H E).ng x→PE (dy ip P w K mg base pK "_law_which" (aj gB) f bw A outer s H E).ng (.Name x pos) (tC (.ref a)):=fun hm hd hg=>pk hg hm rfl hd
 have xI:∀ {pos},_:=fun {pos}=>pg (pos:=pos) M.m0 (by decide) (by rfl)
 have Fx:∀ {pos},_:=fun {pos}=>pg (pos:=pos) M.m1 (by decide) (by rfl)
 have zB:∀ {pos},_:=fun {pos}=>pg (pos:=pos) M.m2 (by decide) (by rfl)
 have Cq:∀ {pos},_:=fun {pos}=>pg (pos:=pos) M.m3 (by decide) (by rfl)
 have Cr:∀ {pos},_:=fun {pos}=>pg (pos:=pos) M.m4 (by decide) (by rfl)
 have zC:∀ {pos},_:=fun {pos}=>pg (pos:=pos) M.m5 (by decide) (by rfl)
 have Cs:∀ {pos},_:=fun {pos}=>pg (pos:=pos) M.m6 (by decide) (by rfl)
 have zD:∀ {pos},_:=fun {pos}=>pg (pos:=pos) M.m7 (by decide) (by rfl)
 have Js:∀ {pos},_:=fun {pos}=>pg (pos:=pos) M.m8 (by decide) (by rfl)
 have sH:∀ {pos},PE (dy ip P w K mg base pK "_law_which" (aj gB) f bw A outer s H E).ng (.Name "ValueError" pos) (tC (.ty "ValueError")):=fun {pos} pins s σ H Q I h=>kD I (by rfl) M.ValueError (by decide +kernel) ⟨.ty "ValueError",H,I,rfl,h⟩
 refine ⟨_,(af (a_ (i:=1) nd rfl (Or.inl rfl) (VP.vx (bt (ae (VP.ve (gR 0 xz rfl iX xH (by rfl) M.isinstance xI)) (ae (VP.ve (gR 0 xz rfl iX Fw (by rfl) M.isinstance Fx)) (ae (VP.ve (gR 0 xz rfl iX zx (by rfl) M.isinstance zB)) ak))))) np)
   (af (a_ (i:=1) nd rfl (Or.inl rfl) (VP.vx (dJ (aa 1) (VP.vr (bt (ae (VP.ve (gR 0 xz rfl iX Cn (by rfl) M.isinstance Cq)) (ae (VP.ve (gR 0 xz rfl iX Co (by rfl) M.isinstance Cr)) (ae (VP.ve (gR 0 xz rfl iX zy (by rfl) M.isinstance zC)) ak))))))) np)
   (af (a_ (i:=1) nd rfl (Or.inl rfl) (VP.vx (dJ (aa 1) (VP.vr (bt (ae (VP.ve (gR 0 xz rfl iX Cp (by rfl) M.isinstance Cs)) (ae (VP.ve (gR 0 xz rfl iX zA (by rfl) M.isinstance zD)) (ae (VP.ve (gR 0 xz rfl iX Jr (by rfl) M.isinstance Js)) ak))))))) np)
   (af (aJ (VW.vc (dF (gZ hu (VP.vr (xC (aa 1) (aq (VP.vr fM) ay))) (VP.vr ag)) (cK (cf (bY (gR 0 xz rfl RS sG (by rfl) M.isinstance sH))))))
     (ah (az (VP.vx ai)))
     au)
   (ah (az (VP.vx (aG (VP.vr (bt (ae (VP.ve ai) (ae (VP.ve ai) (ae (VP.ve ai) (ae (VP.ve ai) (ae (VP.ve ai) (ae (VP.ve ai) (ae (VP.ve ai) (ae (VP.ve ai) (ae (VP.ve ai) ak))))))))))) (VP.vr (xD (aa 1) (aq (VP.vr fM) ay))))))))))),?_⟩
 have c1':([c0,c1,c2,c3,c4,c5,c6,c7,c8].map fun D=>decide (C=D)).countP (· == true)=1:=Jq M.nd hC
 have gF:i < 9:=(e_.mp hi).1
 refine ⟨rfl,rfl,rfl,small (by simp),rfl,rfl,rfl,small (by simp),small (by simp),rfl,rfl,rfl,small (by simp),small (by simp),?_⟩
 refine ⟨[c0,c1,c2,c3,c4,c5,c6,c7,c8].map fun D=>decide (C=D),true,rfl,rfl,?_⟩
 rw [c1']
 refine ⟨rfl,small (by simp),[c0,c1,c2,c3,c4,c5,c6,c7,c8].map fun D=>decide (C=D),true,i,rfl,rfl,?_,?_,by simp,?_⟩
 · rw [lj,hi]; simp
 · intro j hj
   rw [lj]
   cases hjj:[c0,c1,c2,c3,c4,c5,c6,c7,c8][j]? with
   | none=>simp
   | some D =>
     have:C≠D:=fun z=>by
      subst z
      obtain ⟨a1,a2⟩:=e_.mp hi
      obtain ⟨b1,b2⟩:=e_.mp hjj
      have:=(List.getElem_inj M.nd).mp (a2.trans b2.symm)
      omega
     simp [this]
 · refine ⟨_,ax (j:=i) (v:=T.str (w9.getD i "")) ?_,_,rfl,hq⟩
   match i,gF with
   | 0,_=>rfl
   | 1,_=>rfl
   | 2,_=>rfl
   | 3,_=>rfl
   | 4,_=>rfl
   | 5,_=>rfl
   | 6,_=>rfl
   | 7,_=>rfl
   | 8,_=>rfl
def Fy (rs:List Rw):T:=match brk [] rs 0 with
 | some i=>.tup [.str "block",.int (i:Int)]
 | none=>match gz rs with
   | some i=>.tup [.str "call",.int (i:Int)]
   | none=>.tup [.str "made",.lst (rs.map aU)]
open Jp (RT RP cX)
def RU (ts:List T) (q:Rt→Prop):Prop:=∃ xs:List T,ts=[.lst xs]∧xs.length≤200∧(∀ x∈xs,RT x)∧((60 < xs.length∧q (.vw (.tup [.str "great",.int 0])))∨(xs.length≤60∧∃ i:Nat,cX xs 0=some i∧q (.vw (.tup [.str "row",.int (i:Int)])))∨(xs.length≤60∧cX xs 0=none∧∃ rs:List Rw,xs=rs.map aU∧q (.vw (Fy rs))))
abbrev Ct:List Str:=["_law_rows","_law_error","_law_made","e","_law_word"]
theorem rf:aH Ct ["_law_rows"] (aj h_):=L2.gE
theorem zE {f:Addr} {fd:FuncData} (D:Df K mg "_law_outcome" h_ ["_law_rows"] f fd) (M:Xe K mg S c0 c1 c2 c3 c4 c5 c6 c7 c8) (vv:qX P w K mg base "program_of" ["rows"] 7 (zt K 1 (Jp.Ft c0 c1 c2 c3))) (Jt:b_ P w K mg base "_law_which" ["_law_error"] 1 (Um K (Fu [c0,c1,c2,c3,c4,c5,c6,c7,c8]))) :
  b_ P w K mg base "_law_outcome" ["_law_rows"] 8 (bZ K 1 RU):=by
 obtain ⟨Ju,GQ,vz,vA,vB,vC⟩:=vv
 obtain ⟨Up,RW,Bd,Be,Bf,Bg⟩:=Jt
 refine D.jA (ku D.F rf rfl fun bw A outer s H E Ox hr ts q hG=>?_)
 have nd:=rf.nd
 have mS:=M.mS
 have xs:=M.xs
 refine ⟨_,(af (a_ (i:=1) nd rfl (Or.inl rfl) (VP.vx cJ) j5)
   (af (a_ (i:=2) nd rfl (Or.inl rfl) (VP.vx cJ) j5)
   (Fs (ia:=0) (ix:=2) (iz:=1) (jn:=3) rfl ⟨rfl,rfl⟩ vC (hr.mono (by decide)) (by rfl) vz vA vB (by rfl) mS xs (fun _=>rfl) rfl
   (af (aJ (qm (aa 1) (VP.vr cJ))
     (ah (az (VP.vx (aY (ae (VP.ve ai) (ae (aw 2) ak))))))
     au) t9)
   (fun e C dd n H0 xz =>
     (af (aJ (qm (aa 1) (VP.vr cJ))
       (ah (az (VP.vx (aY (ae (VP.ve ai) (ae (aw 2) ak))))))
       au)
     (af (a_ (i:=4) nd rfl (Or.inl rfl) (VP.vx (xE 1 xz rfl Bg (hr.mono (by decide)) (by rfl) Bd Be Bf)) j5)
     (af (aJ (l8 (aa 4) (VP.vr (aY (ae (VP.ve ai) (ae (VP.ve ai) (ae (VP.ve ai) ak))))))
       (af (aJ (VW.vc (dF (cf (bY (cx ql (by rfl) M.isinstance (by rfl) M.int AS (VP.vr (Fo 1 xz rfl))))) (cK (bY (cx tG (by rfl) M.isinstance (by rfl) M.bool Eo (VP.vr (Fo 1 xz rfl)))))))
         (ah (az (VP.vx (aY (ae (VP.ve ai) (ae (VP.ve ag) ak))))))
         au)
       (ah (az (VP.vx (aY (ae (aw 4) (ae (VP.ve (Fo 1 xz rfl)) ak)))))))
       au)
     (ah (az (VP.vx (aY (ae (aw 4) (ae (VP.ve ag) ak))))))))))
   (fun e C dd H0 xz =>
     (af (aJ (qm (aa 1) (VP.vr cJ))
       (ah (az (VP.vx (aY (ae (VP.ve ai) (ae (aw 2) ak))))))
       au)
     (af (a_ (i:=4) nd rfl (Or.inl rfl) (VP.vx (xE 1 xz rfl Bg (hr.mono (by decide)) (by rfl) Bd Be Bf)) j5)
     (af (aJ (l8 (aa 4) (VP.vr (aY (ae (VP.ve ai) (ae (VP.ve ai) (ae (VP.ve ai) ak))))))
       t9
       au)
     (ah (az (VP.vx (aY (ae (aw 4) (ae (VP.ve ag) ak)))))))))) nd))),fun _=>?_⟩
 obtain ⟨xs,rfl,RQ,hR,hq⟩:=hG
 refine ⟨?_,_,fun C p=>(60 < xs.length∧C=c0∧p=none)∨∃ (j:Nat) (wd:Str) (i:Nat),[c0,c1,c2,c3,c4,c5,c6,c7,c8][j]?=some C∧w9.getD j "" = wd∧l6 (.str wd) [.str "row",.str "block",.str "call"]=true∧p=some (i:Int)∧xs.length≤60∧q (.vw (.tup [.str wd,.int (i:Int)])),rfl,⟨xs,rfl,RQ,hR,fun h=>.inl ⟨h,rfl,rfl⟩,fun h=>?_⟩,fun C p hW=>?_⟩
 · intro i t
   match i with
   | 0=>intro z; cases z
   | 1=>intro z; cases z
   | 2=>intro z; cases z
   | 3=>intro z; cases z
   | 4=>intro z; cases z
   | i+5=>intro z; cases z
 · rcases hq with ⟨h1,_⟩ | ⟨_,i,hb,hq⟩ | ⟨_,hb,rs,rfl,hq⟩
   · omega
   · rw [hb]
     exact .inr ⟨1,"row",i,rfl,rfl,by decide +kernel,rfl,h,hq⟩
   · rw [hb]
     refine ⟨rs,rfl,?_⟩
     unfold Fy at hq
     cases Lh:brk [] rs 0 with
     | some i=>rw [Lh] at hq; exact .inr ⟨2,"block",i,rfl,rfl,by decide +kernel,rfl,h,hq⟩
     | none =>
       cases hc:gz rs with
       | some i=>rw [Lh,hc] at hq; exact .inr ⟨3,"call",i,rfl,rfl,by decide +kernel,rfl,h,hq⟩
       | none =>
         rw [Lh,hc] at hq
         exact ⟨small (by simp),hq⟩
 · rcases hW with ⟨h1,rfl,rfl⟩ | ⟨j,wd,i,hj,hw,Wz,rfl,_,hq⟩
   · have hC:C∈[C,c1,c2,c3,c4,c5,c6,c7,c8]:=by simp
     obtain ⟨x1,x2⟩:=M.xk C hC
     refine ⟨⟨[S],x1,.inr (by simp)⟩,x2,fun e=>?_⟩
     have hq0:q (.vw (.tup [.str "great",.int 0])):=by
      rcases hq with ⟨_,hq⟩ | ⟨h2,_⟩ | ⟨h2,_⟩
      · exact hq
      · omega
      · omega
     refine ⟨rfl,⟨0,rfl,rfl,?_⟩⟩
     refine ⟨small (by simp),rfl,rfl,?_⟩
     refine dN (c:=l6 (.str "great") [.str "row",.str "block",.str "call"]) (by decide +kernel) ?_
     exact ⟨small (by simp),hq0⟩
   · have hC:=mV hj
     obtain ⟨x1,x2⟩:=M.xk C hC
     refine ⟨⟨[S],x1,.inr (by simp)⟩,x2,fun e=>?_⟩
     refine ⟨rfl,⟨j,hj,rfl,?_⟩⟩
     rw [hw]
     refine ⟨small (by simp),rfl,rfl,?_⟩
     refine xu (c:=l6 (.str wd) [.str "row",.str "block",.str "call"]) Wz ?_
     first
      | exact ⟨rfl,rfl,rfl,rfl,rfl,small (by simp),hq⟩
      | exact ⟨rfl,rfl,rfl,rfl,small (by simp),hq⟩
      | exact ⟨rfl,rfl,rfl,rfl,rfl,rfl,small (by simp),hq⟩
      | exact ⟨rfl,rfl,rfl,rfl,rfl,hq⟩
      | exact ⟨rfl,rfl,rfl,rfl,rfl,rfl,hq⟩
end
end GP
namespace xJ
open PySem L2 VT Gen
open wm (bf)
def top (i:Nat):Stmt:=PySem.Challenge.pw_slicewise_k19_whole_programs_judged.main.body.getD i (.Pass ⟨0,0,0,0⟩)
abbrev fL:Stmt:=top 41
abbrev ka:Stmt:=top 42
structure Xf (mg:Str→Option Value):Prop where
 len:mg "len" = none
 range:mg "range" = none
 tuple:mg "tuple" = none
 sum:mg "sum" = none
def Li (ts:List T) (q:Rt→Prop):Prop:=∃ (ns:List Int) (j:Nat),ts=[.lst (ns.map .int),.int (j:Int)]∧q (.vw (.int (ns.getD j 0)))
def Fz (ts:List T) (q:Rt→Prop):Prop:=∃ (c:Int) (m:Nat),ts=[.int c,.int (m:Int)]∧2≤m∧m≤20∧q (.fr (.lst ((eF c m).map .str)))
section
variable {P:Program} {w:World} {K:PySem.W.Frag} {mg:Str→Option Value} {base:Heap}
abbrev Cu:List Str:=["_law_script","_law_k"]
theorem rg:aH Cu ["_law_script","_law_k"] (aj fL):=L2.gE
theorem zF {f:Addr} {fd:FuncData} (D:Df K mg "_law_cell_at" fL ["_law_script","_law_k"] f fd) (M:Xf mg):b_ P w K mg base "_law_cell_at" ["_law_script","_law_k"] 1 (bZ K 2 Li):=by
 refine D.jA (ku D.F rg rfl fun bw A outer s H E Ox hr ts q hG=>?_)
 have nd:=rg.nd
 refine ⟨_,(af (aJ (oy (aa 1) (VP.vr (aE aB aD (by rfl) M.len gC (aq (aa 0) ay))))
    (ah (az (VP.vx (aG (aa 0) (aa 1)))))
    au)
   (ah (az (VP.vx ag)))),fun _=>?_⟩
 obtain ⟨ns,j,rfl,hq⟩:=hG
 refine kj (fun h=>?_) (fun h=>?_)
 · have h':(j:Int) < ((ns.map T.int).length:Int):=of_decide_eq_true h
   rw [cV] at h'
   have hj:j < ns.length:=by omega
   refine ⟨.int (ns.getD j 0),ax ?_,hq⟩
   rw [lj,sR hj,List.getD,sR hj]
   rfl
 · have h':¬ ((j:Int) < ((ns.map T.int).length:Int)):=fun z=>h (decide_eq_true z)
   rw [cV] at h'
   have e:ns.getD j 0=0:=by
    rw [List.getD,List.getElem?_eq_none (by omega)]
    rfl
   rw [e] at hq
   exact hq
abbrev Jv:List Str:=["_law_cell","_law_many","_law_letters","_law_size","_law_at","_law_words_here","_law_k","_law_word","_law_j","_law_number"]
theorem xK:aH Jv ["_law_cell","_law_many"] (aj ka):=L2.gE
theorem FC {f:Addr} {fd:FuncData} (D:Df K mg "_law_words" ka ["_law_cell","_law_many"] f fd) (M:Xf mg):b_ P w K mg base "_law_words" ["_law_cell","_law_many"] 1 (bZ K 2 Fz):=by
 refine D.jA (ku D.F xK rfl fun bw A outer s H E Ox hr ts q hG=>?_)
 have nd:=xK.nd
 have hu:=bj.fP hr
 have np:∀ {i:Nat},aZ ⟨H,[],Ox⟩ i:=j5
 refine ⟨_,(af (a_ (i:=2) nd rfl (Or.inl rfl) (VP.vx ai) np)
   (af (a_ (i:=0) nd rfl (Or.inl rfl) (VP.vx (bA (aa 0) (VP.vr (ju (VP.vr ag) (VP.vr ag))))) np)
   (af (a_ (i:=3) nd rfl (Or.inl rfl) (VP.vx (dJ (VP.vr ag) (VP.vr (bA (aa 0) (VP.vr ag))))) np)
   (af (a_ (i:=4) nd rfl (Or.inl rfl) (VP.vx (bA (VP.vr (bD (aa 0) (VP.vr ag))) (aa 3))) np)
   (af (cY (i:=5) nd rfl (Or.inl rfl) (VP.vx (bt ak)) np)
   (af (dM Dn rfl (fG (by rfl) M.range (aa 1)) (aW (i:=6) nd rfl (Or.inl rfl) np)
     (af (a_ (i:=7) nd rfl (Or.inl rfl) (VP.vx ai) np)
     (af (dM Dn rfl (fG (by rfl) M.range (aa 3)) (aW (i:=8) nd rfl (Or.inl rfl) np)
       (af (a_ (i:=9) nd rfl (Or.inl rfl) (VP.vx (dJ (VP.vr (bD (VP.vr (bD (aa 0) (VP.vr ag))) (VP.vr (dJ (aa 8) (VP.vr ag))))) (VP.vr (yD (aa 8) (aa 8))))) np)
       (af (aJ (bc hu (aa 8) (aa 4))
         (ah (Eb (i:=9) nd rfl (Or.inl rfl) (aa 6) Au wy np))
         au)
       (ah (a_ (i:=7) nd rfl (Or.inl rfl) (VP.vx (dJ (aa 7) (VP.vr (aG (aa 2) (VP.vr (bA (aa 9) (VP.vr ag))))))) np)))))
     (ah (bV (tD 5 OK OL d8 ez (ae (aw 7) ak)))))))
   (af (aJ (bc hu (VP.vr (bA (VP.vr (bD (aa 0) (VP.vr ag))) (VP.vr ag))) (VP.vr ag))
     (ah (jw 5 (VP.ve (dJ (VP.vr (aG (aa 5) (VP.vr ag))) (VP.vr (aG (aa 2) (VP.vr (bA (VP.vr (bD (aa 0) (VP.vr ag))) (VP.vr ag))))))) (VP.vr ag)))
     au)
   (ah (az (lV 5 np)))))))))),fun _=>?_⟩
 obtain ⟨c,m,rfl,hm2,acm,hq⟩:=hG
 have Xg:(10:Int) ^ (12:Int).toNat=1000000000000:=Rj
 have hz:(1:Int)+c % (10:Int) ^ (12:Int).toNat % 7=(nK c:Int):=by rw [Xg]; exact (K3 c).symm
 have pS:=y0 c
 refine ⟨⟨by decide,by decide,by decide⟩,(by show (0:Int) < 10 ^ (12:Int).toNat; decide),(by show (0:Int) < 7; decide),⟨by decide,by decide⟩,(by show (0:Int) < 1+c % 10 ^ (12:Int).toNat % 7; rw [hz]; omega),ph _,by omega,by omega,?_⟩
 refine fQ (fun k ρ=>∃ kv wv jv nv,ρ=[some (.int (u5 c),false),some (.int (m:Int),false),some (.str bf,false),some (.int (nK c:Int),false),some (.int (GJ c:Int),false),some (.lst (((List.range k).map fun k=>cm c k (nK c)).map .str),true),kv,wv,jv,nv]) ⟨none,none,none,none,?_⟩ ?_ ?_
 · have ha:c % (10:Int) ^ (12:Int).toNat / 7 % (1+c % (10:Int) ^ (12:Int).toNat % 7)=(GJ c:Int):=by rw [hz,Xg]; exact (Ri c).symm
   show [some (T.int (c % (10:Int) ^ (12:Int).toNat),false),_,_,some (T.int (1+c % (10:Int) ^ (12:Int).toNat % 7),false),some (T.int (c % (10:Int) ^ (12:Int).toNat / 7 % (1+c % (10:Int) ^ (12:Int).toNat % 7)),false),_,_,_,_,_]=_
   rw [ha,hz,Xg]
   rfl
 · rintro k ρ hk ⟨kv,wv,jv,nv,rfl⟩
   refine ⟨by omega,by omega,?_⟩
   refine fQ (fun j ρ=>∃ jv nv,ρ=[some (.int (u5 c),false),some (.int (m:Int),false),some (.str bf,false),some (.int (nK c:Int),false),some (.int (GJ c:Int),false),some (.lst (((List.range k).map fun k=>cm c k (nK c)).map .str),true),some (.int (0+(k:Int)),false),some (.str (cm c k j),false),jv,nv]) ⟨_,_,rfl⟩ ?_ ?_
   · rintro j ρ hj ⟨jv,nv,rfl⟩
     have T1:j < nK c:=by omega
     refine ⟨⟨by decide,by decide⟩,⟨by show (0:Int) < 0+(j:Int)+1; omega,by show 0+(j:Int)+1 < 1073741824; omega⟩,.inl ⟨by show -(2 ^ 64) < 0+(j:Int); omega,by show 0+(j:Int) < 2 ^ 64; omega⟩,?_⟩
     have last:∀ n:Int,n=BY c k j→∃ c',k9 bf.cps.toList (n % 26)=some c'∧(cm c k j).length+(Str.mk #[c']).length≤sizeLine∧(cm c k j ++ ⟨#[c']⟩)=cm c k (j+1):=by
      rintro n rfl
      refine ⟨_,tT _,?_,(y7 c k j).symm⟩
      rw [j6,sizeLine_eq]
      show j+1≤16777216
      omega
     refine cj (fun h=>?_) (fun h=>?_)
     · have Xh:j=GJ c:=by have h:(0:Int)+(j:Int)=(GJ c:Int):=h; omega
       obtain ⟨c',h1,h2,h3⟩:=last (u5 c / 49 / (0+(j:Int)+1)+(0+(j:Int)) * (0+(j:Int))+(0+(k:Int))) (by unfold BY; rw [if_pos Xh]; simp only [OZ])
       exact ⟨by show (0:Int) < 26; decide,gL,c',h1,h2,_,_,by rw [← h3]; rfl⟩
     · have Xh:¬ j=GJ c:=fun z=>h (by show (0:Int)+(j:Int)=(GJ c:Int); omega)
       obtain ⟨c',h1,h2,h3⟩:=last (u5 c / 49 / (0+(j:Int)+1)+(0+(j:Int)) * (0+(j:Int))) (by unfold BY; rw [if_neg Xh]; simp only [OZ,Int.add_zero])
       exact ⟨by show (0:Int) < 26; decide,gL,c',h1,h2,_,_,by rw [← h3]; rfl⟩
   · rintro ρ ⟨jv,nv,rfl⟩
     refine ⟨?_,some (.int (0+(k:Int)),false),some (.str (cm c k (nK c)),false),jv,nv,?_⟩
     · rw [cV,cV,OR,sizeLine_eq]; omega
     · rw [List.range_succ,C7,C7]; rfl
 · rintro ρ ⟨kv,wv,jv,nv,rfl⟩
   refine ⟨⟨by decide,by decide⟩,(by show (0:Int) < 3; decide),cj (fun h=>?_) (fun h=>?_)⟩
   · have hc:u5 c / 49 % 3=1:=h
     have e0:k9 (((List.range m).map fun k=>cm c k (nK c)).map T.str) 0=some (T.str (cm c 0 (nK c))):=by
      refine ax (j:=0) ?_
      rw [lj,lj,List.getElem?_range (by omega)]
      rfl
     refine ⟨_,e0,⟨by decide,by decide⟩,(by show (0:Int) < 26; decide),gL,_,tT _,?_,1,?_,?_⟩
     · rw [j6,sizeLine_eq]
       show nK c+1≤16777216
       omega
     · unfold vU
       rw [if_pos (by decide),if_pos (by rw [cV,cV,OR]; omega)]
       rfl
     · have e:(eF c m).map T.str=(((List.range m).map fun k=>cm c k (nK c)).map T.str).set 1 (T.str (cm c 0 (nK c) ++ ⟨#[kK (u5 c / 147)]⟩)):=by
        unfold eF
        rw [if_pos hc,List.map_set]
       rw [e] at hq
       exact hq
   · have hc:¬ u5 c / 49 % 3=1:=h
     have e:(eF c m).map T.str=(((List.range m).map fun k=>cm c k (nK c)).map T.str):=by
      unfold eF
      rw [if_neg hc]
     rw [e] at hq
     exact hq
end
end xJ
namespace FD
open PySem L2 VT Gen wm
open fJ (EM bR dG xg za B1 NC B2 B3 strsOf jC Part nt nf g7 dB So mi gc bP cW nN j8 mj NI K8 oZ va)
def top (i:Nat):Stmt:=PySem.Challenge.pw_slicewise_k19_whole_programs_judged.main.body.getD i (.Pass ⟨0,0,0,0⟩)
abbrev fL:Stmt:=top 41
abbrev ka:Stmt:=top 42
abbrev hY:Stmt:=top 43
abbrev bG:Stmt:=top 44
abbrev q9:Stmt:=top 45
abbrev mx:Stmt:=top 46
abbrev gg:Stmt:=top 47
abbrev gB:Stmt:=top 48
abbrev h_:Stmt:=top 49
abbrev ib:Stmt:=top 50
abbrev s_row:Stmt:=top 51
abbrev q_:Stmt:=top 52
abbrev gh:Stmt:=top 53
abbrev xF:Stmt:=top 54
abbrev jT:Stmt:=top 55
abbrev jU:Stmt:=top 56
def FH (ts:List T) (q:Rt→Prop):Prop:=∃ t,ts=[t]∧Part t∧q (.vw (.bl (bR t)))
def Lj (ts:List T) (q:Rt→Prop):Prop:=∃ t,ts=[t]∧Part t∧q (.vw (.bl (dG t)))
def Uq:So→Nat
 | .nm=>110
 | .op=>111
 | .key=>107
 | .rk=>119
 | .par=>112
 | .ops=>97
def Xi (s:So):Str:=⟨#[Uq s]⟩
def chars (ss:List So):Str:=⟨(ss.map Uq).toArray⟩
def Ll (ts:List T) (q:Rt→Prop):Prop:=∃ s t,ts=[.str (Xi s),t]∧Part t∧q (.vw (.bl (mi s t)))
def FJ:Option (List So)→T
 | none=>.bb
 | some ss=>.str (chars ss)
def FK (ts:List T) (q:Rt→Prop):Prop:=∃ x:Str,ts=[.str x]∧q (.vw (FJ (bP gc x)))
theorem Part.str {x:Str} (h:Part (.str x)):x.length≤100:=by
 rcases h with (⟨y,e,hy⟩ | ⟨i,e⟩) | ⟨l,e,_⟩
 · cases e; exact hy
 · cases e
 · cases e
open Builtin Builtin.Str in
theorem N1 (x:Str):Txt.slice x none (some 1)=⟨(x.cps.toList.take 1).toArray⟩:=by
 obtain ⟨⟨l⟩⟩:=x
 cases l with
 | nil=>decide +kernel
 | cons c l =>
   have hl:(Str.length (Str.mk { toList:=c :: l }))=l.length+1:=rfl
   have hi:strSliceIndices none (some 1) 1 (l.length+1)=[0]:=by
    unfold strSliceIndices sliceRange
    simp only [show (1:Int) > 0 by decide,if_true]
    have e0:max 0 (min (if (1:Int) < 0 then 1+((l.length+1:Nat):Int) else 1) ((l.length+1:Nat):Int))=1:=by
     rw [if_neg (by decide)]; omega
    rw [e0]
    rfl
   unfold Txt.slice
   rw [hl,hi]
   by_cases h0:l=[]
   · subst h0
     rfl
   · have k_:¬ (((1:Int) == 1 && ([0]:List Nat).length == l.length+1)=true):=by
      rw [gT]
      intro q
      have:=beq_iff_eq.mp q.2
      have h1:l.length=0:=by simpa using this
      exact h0 (OM.mp h1)
     rw [if_neg k_]
     rfl
open Builtin Builtin.Str in
theorem Jw (x:Str):Txt.startswith x "." = (x.cps.toList.take 1 == [46]):=by
 obtain ⟨⟨l⟩⟩:=x
 rw [yB]
 unfold Txt.startswith subAt
 cases l with
 | nil=>rfl
 | cons c r =>
   have e:(Array.extract ({ toList:=c :: r }:Array Nat) 0 (0+(Str.mk #[46]).length)) = #[c]:=by
    apply Array.ext'
    simp [Str.length]
   show (decide _ && (Array.extract ({ toList:=c :: r }:Array Nat) 0 (0+(Str.mk #[46]).length) == (Str.mk #[46]).cps))=_
   rw [e,decide_eq_true (by show 0+1≤_; simp [Str.length]),pf]
   show (#[c] == #[46])=([c] == [46])
   rfl
theorem my (x:Str):decide (Txt.slice x none (some 1)=("." : String))=Txt.startswith x ".":=by
 rw [N1,Jw,yB]
 generalize x.cps.toList.take 1=l
 rw [GX]
 constructor
 · intro h
   have h2:=congrArg (fun y:Str=>y.cps.toList) (of_decide_eq_true h)
   exact beq_iff_eq.mpr h2
 · intro h
   exact decide_eq_true (by rw [beq_iff_eq.mp h])
theorem zG {x:Str} (h:Txt.startswith x "." = true):dI x=false:=by
 cases hn:dI x with
 | false=>rfl
 | true=>rw [r6 (lQ hn)] at h; cases h
theorem FL (x:Str):eqT (.lst (((x.cps.toList.map fun c=>T.str ⟨#[c]⟩).filter fun t=>match t with | .str y=>!l7 y bf | _=>false).map fun t=>t)) (.lst [])=x.cps.toList.all wo:=by
 rw [List.map_id',List.filter_map]
 have e:((fun t:T=>match t with | .str y=>!l7 y bf | _=>false) ∘ fun c=>T.str ⟨#[c]⟩)=fun c=>!wo c:=rfl
 rw [e]
 generalize x.cps.toList=l
 induction l with
 | nil=>rfl
 | cons c l ih =>
   rw [Km]
   cases h:wo c with
   | true=>rw [UH (by simp [h]),pf]; exact ih
   | false=>rw [UG (by simp [h]),vS]; rfl
theorem t_ (ss:List So):(chars ss).length=ss.length:=by
 show (ss.map Uq).toArray.size=_
 simp
theorem ua {x:Str} {l l':List (Str×List So)} (h:bP l x=bP l' x):∀ p:List (Str×List So),bP (p ++ l) x=bP (p ++ l') x
 | []=>h
 | (k,ss) :: p=>by
   simp only [Tv,bP,ua h p]
theorem zH {x k k':Str} {a b:List So} {l:List (Str×List So)} (h:k≠k'):bP ((k,a) :: (k',b) :: l) x=bP ((k',b) :: (k,a) :: l) x:=by
 simp only [bP]
 by_cases h1:k=x
 · rw [if_pos h1,if_neg (fun z=>h (h1.trans z.symm)),if_pos h1]
 · rw [if_neg h1,if_neg h1]
def rh:List (Str×List So):=[("def",[.nm,.par]),("give",[.op]),("put",[.nm,.op]),("do",[.nm,.op,.rk,.op]),("new",[.nm]),("get",[.nm,.nm,.key]),("set",[.nm,.key,.op]),("call",[.nm,.nm,.ops]),("fail",[.nm]),("if",[.op]),("while",[.op]),("else",[]),("end",[]),("skip",[])]
theorem Jx (x:Str):bP gc x=bP rh x :=
 ua (l:=[("else",[]),("while",[.op]),("end",[]),("skip",[])]) (l':=[("while",[.op]),("else",[]),("end",[]),("skip",[])]) (zH (by decide +kernel)) [("def",[.nm,.par]),("give",[.op]),("put",[.nm,.op]),("do",[.nm,.op,.rk,.op]),("new",[.nm]),("get",[.nm,.nm,.key]),("set",[.nm,.key,.op]),("call",[.nm,.nm,.ops]),("fail",[.nm]),("if",[.op])]
theorem ub (x:Str):∀ l:List (Str×List So),(fB (l.map fun p=>(Sum.inr p.1:Key)) (l.map fun p=>T.str (chars p.2)) (.inr x))=(bP l x).map fun ss=>T.str (chars ss)
 | []=>rfl
 | (k,ss) :: l=>by
   have ih:=ub x l
   simp only [iZ,fB,bP]
   by_cases h:k=x
   · rw [if_pos h,if_pos (by rw [h])]; rfl
   · rw [if_neg h,if_neg (fun z=>h (Sum.inr.inj z))]; exact ih
theorem N2:(rh.map fun p=>T.str (chars p.2))=[.str "np",.str "o",.str "no",.str "nowo",.str "n",.str "nnk",.str "nko",.str "nna",.str "n",.str "o",.str "o",.str "",.str "",.str ""]:=by
 have e:∀ (ss:List So) (y:Str),chars ss=y→T.str (chars ss)=T.str y:=fun ss y h=>by rw [h]
 simp only [rh,iZ,GZ]
 congr 1
theorem FN (x:Str):(fB (rh.map fun p=>(Sum.inr p.1:Key)) [.str "np",.str "o",.str "no",.str "nowo",.str "n",.str "nnk",.str "nko",.str "nna",.str "n",.str "o",.str "o",.str "",.str "",.str ""] (.inr x)).getD .bb=FJ (bP gc x):=by
 rw [← N2,ub,Jx]
 cases bP rh x <;> rfl
section
variable {P:Program} {w:World} {K:PySem.W.Frag} {mg:Str→Option Value} {base:Heap}
abbrev uc:List Str:=["_law_thing"]
theorem rj:aH uc ["_law_thing"] (aj hY):=L2.gE
theorem sI:(uc ++ (["_law_sign"]:List Str)).Nodup:=by decide +kernel
theorem zI {f:Addr} {fd:FuncData} (D:Df K mg "_law_is_word" hY ["_law_thing"] f fd) (M:K8 w K mg):b_ P w K mg base "_law_is_word" ["_law_thing"] 1 (bZ K 1 FH):=by
 refine D.jA (ku D.F rj rfl fun bw A outer s H E Ox hr ts q hG=>?_)
 have nd:=rj.nd
 have hu:=bj.fP hr
 have np:∀ {i:Nat},aZ ⟨H,[],Ox⟩ i:=j5
 refine ⟨_,(af (aJ (VW.vc (dF (cf (bY (cx jy (by rfl) M.isinstance (by rfl) M.str wN (aa 0)))) (dF (oy (VP.vr (aE aB aD (by rfl) M.len gC (aq (aa 0) ay))) (VP.vr ag)) (cK (i5 (VP.vr (aE aB aD (by rfl) M.len gC (aq (aa 0) ay))) (VP.vr ag))))))
    (ah (az (VP.vx fM)))
    au)
   (ah (az (VP.vx (ow hu (VP.vr (eV (ts:=["_law_sign"]) rfl (by rfl) (iG (aw 0)) (fun _ _ _ _ _ _=>(aW (i:=1) sI rfl (Or.inl rfl) np)) (fun _ _ _ _ _ _=>(uJ (yI (aa 1) (VP.vr ai)))) (fun _ _ _ _ _ _=>(aw 1)))) (VP.vr (bt ak))))))),fun _=>?_⟩
 obtain ⟨t,rfl,ht,hq⟩:=hG
 rcases id ht with (⟨x,rfl,hx⟩ | ⟨i,rfl⟩) | ⟨l,rfl,_⟩
 · have cy:q (.vw (.bl (decide (1≤(x.length:Int)) && (decide ((x.length:Int)≤8) && x.cps.toList.all wo)))):=hq
   refine ⟨rfl,oZ (by omega),?_⟩
   refine cj (fun h=>?_) (fun h=>⟨oZ (by omega),?_⟩)
   · have h':(x.length:Int) < 1:=h
     rw [decide_eq_false (by omega),vS] at cy
     exact cy
   · have h':¬ (x.length:Int) < 1:=h
     rw [decide_eq_true (by omega:1≤(x.length:Int)),pf] at cy
     refine cj (fun h2=>?_) (fun h2=>?_)
     · have HV:(8:Int) < (x.length:Int):=h2
       rw [decide_eq_false (by omega),vS] at cy
       exact cy
     · have HV:¬ (8:Int) < (x.length:Int):=h2
       rw [decide_eq_true (by omega:(x.length:Int)≤8),pf] at cy
       have AG:x.cps.toList.length≤100:=by rw [Lz]; exact hx
       refine ⟨rfl,by rw [cV]; exact oZ (by omega),fH (fun t=>match t with | .str y=>!l7 y bf | _=>false) (fun t=>t) (fun t ht k r h=>?_) ?_⟩
       · obtain ⟨c,_,rfl⟩:=Bp.mp ht
         exact ⟨_,rfl,h⟩
       · have fl:=FL x
         have jm:∀ u∈(((x.cps.toList.map fun c=>T.str ⟨#[c]⟩).filter fun t=>match t with | .str y=>!l7 y bf | _=>false).map fun t=>t),∃ y,u=T.str y:=by
          intro u hu
          rw [List.map_id'] at hu
          obtain ⟨c,_,rfl⟩:=Bp.mp (GW.mp hu).1
          exact ⟨_,rfl⟩
         generalize (((x.cps.toList.map fun c=>T.str ⟨#[c]⟩).filter fun t=>match t with | .str y=>!l7 y bf | _=>false).map fun t=>t)=l at fl jm
         have hp:plainT (.lst l)=true∧dep (.lst l)≤100:=by
          clear fl
          simp only [plainT,dep]
          induction l with
          | nil=>simp [bC,gI]
          | cons u l ih =>
            obtain ⟨y,rfl⟩:=jm u gq
            have:=ih fun u hu=>jm u (i_ _ hu)
            simp only [bC,plainT,gI,dep,pf]
            exact ⟨this.1,by omega⟩
         refine ⟨oZ (by simp),hp.1,rfl,hp.2,?_⟩
         show q (.vw (.bl (eqT (.lst l) (.lst []))))
         rw [fl]
         exact cy
 · exact ⟨rfl,hq⟩
 · exact ⟨rfl,hq⟩
abbrev iK:List Str:=["_law_thing"]
theorem de:aH iK ["_law_thing"] (aj bG):=L2.gE
theorem sJ {f:Addr} {fd:FuncData} (D:Df K mg "_law_is_operand" bG ["_law_thing"] f fd) (M:K8 w K mg) (oa:b_ P w K mg base "_law_is_word" ["_law_thing"] 1 (bZ K 1 FH)):b_ P w K mg base "_law_is_operand" ["_law_thing"] 2 (bZ K 1 Lj):=by
 obtain ⟨Cv,zJ,ic,ie,ig,ij⟩:=oa
 refine D.jA (ku D.F de rfl fun bw A outer s H E Ox hr ts q hG=>?_)
 have nd:=de.nd
 refine ⟨_,(af (aJ (bY (cx ql (by rfl) M.isinstance (by rfl) M.int AS (aa 0)))
    (ah (az (VP.vx (wM Av DB (VP.vr (p_ (VP.vr ag) (VP.vr (ju (VP.vr ag) (VP.vr ag))))) (aa 0) (VP.vr (ju (VP.vr ag) (VP.vr ag)))))))
    au)
   (ah (az (VP.vx (aT ij (hr.mono (by decide)) (by rfl) ic ie ig (ae (aw 0) ak)))))),fun _=>?_⟩
 obtain ⟨t,rfl,ht,hq⟩:=hG
 rcases id ht with (⟨x,rfl,hx⟩ | ⟨i,rfl⟩) | ⟨l,rfl,_⟩
 · refine ⟨rfl,rfl,_,rfl,ht,?_⟩
   have e:dG (.str x)=bR (.str x):=by show (bR (.str x) || false)=_; rw [Bool.or_false]
   rw [e] at hq
   exact hq
 · have cy:q (.vw (.bl (decide (-1000000000000000000000000000000≤i) && decide (i < 1000000000000000000000000000000)))):=hq
   have e1:(0:Int) - 10 ^ (30:Int).toNat = -1000000000000000000000000000000:=by decide +kernel
   have e2:(10:Int) ^ (30:Int).toNat=1000000000000000000000000000000:=by decide +kernel
   refine ⟨rfl,⟨by decide,by decide,by decide⟩,?_⟩
   refine pH (c:=decide (0 - 10 ^ (30:Int).toNat≤i)) (fun h=>⟨⟨by decide,by decide,by decide⟩,?_⟩) (fun h=>?_)
   · rw [e1] at h
     rw [h,pf] at cy
     show q (.vw (.bl (decide (i < 10 ^ (30:Int).toNat))))
     rw [e2]
     exact cy
   · rw [e1] at h
     rw [h,vS] at cy
     exact cy
 · exact ⟨rfl,rfl,_,rfl,ht,hq⟩
abbrev zK:List Str:=["_law_sort","_law_thing"]
theorem Bh:aH zK ["_law_sort","_law_thing"] (aj q9):=L2.gE
theorem zL:(zK ++ (["_law_one"]:List Str)).Nodup:=by decide +kernel
theorem zM:(zK ++ (["_law_one"]:List Str)).Nodup:=by decide +kernel
theorem Jy {f:Addr} {fd:FuncData} (D:Df K mg "_law_fits" q9 ["_law_sort","_law_thing"] f fd) (M:K8 w K mg) (oa:b_ P w K mg base "_law_is_word" ["_law_thing"] 1 (bZ K 1 FH)) (ck:b_ P w K mg base "_law_is_operand" ["_law_thing"] 2 (bZ K 1 Lj)):b_ P w K mg base "_law_fits" ["_law_sort","_law_thing"] 3 (bZ K 2 Ll):=by
 obtain ⟨Cv,zJ,ic,ie,ig,ij⟩:=oa
 obtain ⟨iL,gM,bH,bI,bJ,bK⟩:=ck
 refine D.jA (ku D.F Bh rfl fun bw A outer s H E Ox hr ts q hG=>?_)
 have nd:=Bh.nd
 have hu:=bj.fP hr
 have np:∀ {i:Nat},aZ ⟨H,[],Ox⟩ i:=j5
 refine ⟨_,(af (aJ (bc hu (aa 0) (VP.vr ai))
    (ah (az (VP.vx (aT ij (hr.mono (by decide)) (by rfl) ic ie ig (ae (aw 1) ak)))))
    au)
   (af (aJ (bc hu (aa 0) (VP.vr ai))
     (ah (az (VP.vx (aT bK (hr.mono (by decide)) (by rfl) bH bI bJ (ae (aw 1) ak)))))
     au)
   (af (aJ (bc hu (aa 0) (VP.vr ai))
     (af (aJ (VW.vc (fj (bY (cx jy (by rfl) M.isinstance (by rfl) M.str wN (aa 1))) (dw (bc hu (VP.vr (dc (aa 1) eR (eT (VP.vr ag)))) (VP.vr ai)))))
       (ah (az (VP.vx (aT ij (hr.mono (by decide)) (by rfl) ic ie ig (ae (VP.ve (dc (aa 1) (eT (VP.vr ag)) eR)) ak)))))
       au)
     (ah (az (VP.vx (aT bK (hr.mono (by decide)) (by rfl) bH bI bJ (ae (aw 1) ak))))))
     au)
   (af (aJ (bc hu (aa 0) (VP.vr ai))
     (ah (az (VP.vx (ES hu (aa 1) (VP.vr (aY (ae (VP.ve ai) (ae (VP.ve ai) (ae (VP.ve ai) (ae (VP.ve ai) (ae (VP.ve ai) (ae (VP.ve ai) (ae (VP.ve ai) ak)))))))))))))
     au)
   (af (aJ (VW.vc (dF (cf (bY (cx kJ (by rfl) M.isinstance (by rfl) M.tuple l9 (aa 1)))) (cK (i5 (VP.vr (aE aB aD (by rfl) M.len gC (aq (aa 1) ay))) (VP.vr ag)))))
     (ah (az (VP.vx fM)))
     au)
   (af (aJ (bc hu (aa 0) (VP.vr ai))
     (ah (az (VP.vx (nC (aE (bO rfl) eE (by rfl) M.all qq (aq (VP.vr (eV (ts:=["_law_one"]) rfl (by rfl) (iG (aw 1)) (fun _ _ _ _ _ _=>(aW (i:=2) zL rfl (Or.inl rfl) np)) (fun _ _ _ _ _ _=>gu) (fun _ _ _ _ _ _=>(VP.ve (aT ij (hr.mono (by decide)) (by rfl) ic ie ig (ae (aw 2) ak)))))) ay)) (nB (ow hu (VP.vr (tO rfl (by rfl) M.len (by rfl) M.set (aa 1))) (VP.vr (aE aB aD (by rfl) M.len gC (aq (aa 1) ay)))))))))
     au)
   (ah (az (VP.vx (aE (bO rfl) eE (by rfl) M.all qq (aq (VP.vr (eV (ts:=["_law_one"]) rfl (by rfl) (iG (aw 1)) (fun _ _ _ _ _ _=>(aW (i:=2) zM rfl (Or.inl rfl) np)) (fun _ _ _ _ _ _=>gu) (fun _ _ _ _ _ _=>(VP.ve (aT bK (hr.mono (by decide)) (by rfl) bH bI bJ (ae (aw 2) ak)))))) ay))))))))))),fun _=>?_⟩
 obtain ⟨s,t,rfl,ht,hq⟩:=hG
 cases s with
 | key =>
   rcases id ht with (⟨x,rfl,hx⟩ | ⟨i,rfl⟩) | ⟨l,rfl,_⟩
   · have cy:q (.vw (.bl ((Txt.startswith x "." && dI (Txt.slice x (some 1) none)) || (dI x || false)))):=hq
     refine ⟨rfl,oZ (by omega),?_⟩
     refine kj (fun h=>?_) (fun h=>?_)
     · have h':decide (Txt.slice x none (some 1)=("." : String))=true:=h
       rw [my] at h'
       rw [h',zG h',pf,Bool.or_false,Bool.or_false] at cy
       exact ⟨oZ (by omega),rfl,_,rfl,.inl (.inl ⟨_,rfl,oq (OY x _ _) hx⟩),cy⟩
     · have h':¬ decide (Txt.slice x none (some 1)=("." : String))=true:=h
       rw [my] at h'
       have h2:Txt.startswith x "." = false:=by cases z:Txt.startswith x "." <;> simp_all
       rw [h2,vS,Bool.false_or] at cy
       exact ⟨rfl,_,rfl,ht,cy⟩
   · exact ⟨rfl,rfl,_,rfl,ht,hq⟩
   · exact ⟨rfl,rfl,_,rfl,ht,hq⟩
 | rk =>
   refine ⟨oZ (by simp),?_⟩
   rcases id ht with (⟨x,rfl,hx⟩ | ⟨i,rfl⟩) | ⟨l,rfl,_⟩
   · exact ⟨rfl,rfl,hq⟩
   · exact ⟨rfl,rfl,hq⟩
   · exact ⟨["plus","minus","times","over","rest","less","same"],rfl,hq⟩
 | par =>
   rcases id ht with (⟨x,rfl,hx⟩ | ⟨i,rfl⟩) | ⟨l,rfl,hl,hL⟩
   · exact ⟨rfl,hq⟩
   · exact ⟨rfl,hq⟩
   · have cy:q (.vw (.bl ((decide (l.length≤4) && l.all dG) && (l.all bR && decide ((once (strsOf l)).length=l.length))))):=hq
     have ho:l.all bR=true→l.all dG=true:=fun h=>C6.mpr fun t ht=>by
      have:=C6.mp h t ht
      show (bR t || _)=true
      rw [this,Bool.true_or]
     refine ⟨rfl,?_⟩
     refine cj (fun h=>?_) (fun h=>?_)
     · have h':(4:Int) < (l.length:Int):=h
       rw [decide_eq_false (by omega),vS,vS] at cy
       exact cy
     · have h':¬ (4:Int) < (l.length:Int):=h
       rw [decide_eq_true (by omega),pf] at cy
       refine ⟨rfl,oZ (by omega),fH (fun _=>true) (fun t=>T.bl (bR t)) (fun t ht k r h=>⟨rfl,t,rfl,.inl (hL t ht),h⟩) ?_⟩
       rw [Pw.mpr (fun _ _=>rfl)]
       refine ⟨l.map bR,g7 bR l,?_⟩
       rw [LD]
       refine pH (c:=l.all bR) (fun h4=>?_) (fun h4=>?_)
       · rw [ho h4,h4,pf,pf] at cy
         refine ⟨strsOf l,.inr (by rw [← dB h4]),?_,?_⟩
         · have:=congrArg List.length (dB h4)
           rw [cV] at this
           omega
         · have e:decide (((once (strsOf l)).length:Int)=(l.length:Int))=decide ((once (strsOf l)).length=l.length):=decide_eq_decide.mpr (by omega)
           show q (.vw (.bl (decide (((once (strsOf l)).length:Int)=(l.length:Int)))))
           rw [e]
           exact cy
       · rw [h4,vS,OU] at cy
         exact cy
 | ops =>
   rcases id ht with (⟨x,rfl,hx⟩ | ⟨i,rfl⟩) | ⟨l,rfl,hl,hL⟩
   · exact ⟨rfl,hq⟩
   · exact ⟨rfl,hq⟩
   · have cy:q (.vw (.bl (decide (l.length≤4) && l.all dG))):=hq
     refine ⟨rfl,?_⟩
     refine cj (fun h=>?_) (fun h=>?_)
     · have h':(4:Int) < (l.length:Int):=h
       rw [decide_eq_false (by omega),vS] at cy
       exact cy
     · have h':¬ (4:Int) < (l.length:Int):=h
       rw [decide_eq_true (by omega),pf] at cy
       refine ⟨rfl,oZ (by omega),fH (fun _=>true) (fun t=>T.bl (dG t)) (fun t ht k r h=>⟨rfl,t,rfl,.inl (hL t ht),h⟩) ?_⟩
       rw [Pw.mpr (fun _ _=>rfl)]
       refine ⟨l.map dG,g7 dG l,?_⟩
       rw [LD]
       exact cy
 | _=>exact ⟨rfl,t,rfl,ht,hq⟩
abbrev Jz:List Str:=["_law_word","_law_some"]
theorem xM:aH Jz ["_law_word"] (aj mx):=L2.gE
theorem FQ {f:Addr} {fd:FuncData} (D:Df K mg "_law_sorts" mx ["_law_word"] f fd) (M:K8 w K mg):b_ P w K mg base "_law_sorts" ["_law_word"] 1 (bZ K 1 FK):=by
 refine D.jA (ku D.F xM rfl fun bw A outer s H E Ox hr ts q hG=>?_)
 have nd:=xM.nd
 have hu:=bj.fP hr
 have np:∀ {i:Nat},aZ ⟨H,[],Ox⟩ i:=j5
 have vV:=xb hu
 refine ⟨_,(af (cY (i:=1) nd rfl (Or.inl rfl) (VP.vx (K6 (bW (VP.vr ai) (VP.ve ai) (bW (VP.vr ai) (VP.ve ai) (bW (VP.vr ai) (VP.ve ai) (bW (VP.vr ai) (VP.ve ai) (bW (VP.vr ai) (VP.ve ai) (bW (VP.vr ai) (VP.ve ai) (bW (VP.vr ai) (VP.ve ai) A1))))))) (by decide))) np)
  (af (bV (II 1 (K6 (bW (VP.vr ai) (VP.ve ai) (bW (VP.vr ai) (VP.ve ai) (bW (VP.vr ai) (VP.ve ai) (bW (VP.vr ai) (VP.ve ai) (bW (VP.vr ai) (VP.ve ai) (bW (VP.vr ai) (VP.ve ai) (bW (VP.vr ai) (VP.ve ai) A1))))))) (by decide))))
  (ah (az (VP.vx (yZ vV (aa 1) (aa 0) ⟨rfl,rfl,rfl,rfl⟩)))))),fun _=>?_⟩
 obtain ⟨x,rfl,hq⟩:=hG
 refine ⟨rfl,by decide,by decide +kernel,rfl,by decide,by decide +kernel,by decide +kernel,oZ (by decide),?_⟩
 have e:=FN x
 rw [← e] at hq
 exact hq
abbrev rn:List Str:=["_law_row_here","_law_sorts_here"]
theorem oJ:aH rn ["_law_row_here"] (aj gg):=L2.gE
theorem jV:(rn ++ (["_law_sort","_law_thing"]:List Str)).Nodup:=by decide +kernel
theorem xN {f:Addr} {fd:FuncData} (D:Df K mg "_law_good_row" gg ["_law_row_here"] f fd) (M:K8 w K mg) (JA:b_ P w K mg base "_law_sorts" ["_law_word"] 1 (bZ K 1 FK)) (zh:b_ P w K mg base "_law_fits" ["_law_sort","_law_thing"] 3 (bZ K 2 Ll)):b_ P w K mg base "_law_good_row" ["_law_row_here"] 4 (bZ K 1 va):=by
 obtain ⟨Ur,RX,JB,JC,JD,JE⟩:=JA
 obtain ⟨Xj,Us,N3,N4,N5,N6⟩:=zh
 refine D.jA (ku D.F oJ rfl fun bw A outer s H E Ox hr ts q hG=>?_)
 have nd:=oJ.nd
 have hu:=bj.fP hr
 have np:∀ {i:Nat},aZ ⟨H,[],Ox⟩ i:=j5
 refine ⟨_,(af (a_ (i:=1) nd rfl (Or.inl rfl) (VP.vx (aT JE (hr.mono (by decide)) (by rfl) JB JC JD (ae (VP.ve (aG (aa 0) (VP.vr ag))) ak))) np)
   (af (aJ (VW.vc (dF (qm (aa 1) (VP.vr cJ)) (cK (gZ hu (VP.vr (aE aB aD (by rfl) M.len gC (aq (aa 0) ay))) (VP.vr (dJ (VP.vr ag) (VP.vr (aE aB aD (by rfl) M.len gC (aq (aa 1) ay)))))))))
     (ah (az (VP.vx fM)))
     au)
   (ah (az (VP.vx (aE (bO rfl) eE (by rfl) M.all qq (aq (VP.vr (eV (ts:=["_law_sort","_law_thing"]) rfl (by rfl) (Ez (by rfl) M.zip (aw 1) (VP.ve (dc (aa 0) (eT (VP.vr ag)) eR))) (fun _ _ _ _ _ _=>(gJ (n:=2) rfl (bo (aW (i:=2) jV rfl (Or.inl rfl) np) (bo (aW (i:=3) jV rfl (Or.inl rfl) np) eU)))) (fun _ _ _ _ _ _=>gu) (fun _ _ _ _ _ _=>(VP.ve (aT N6 (hr.mono (by decide)) (by rfl) N3 N4 N5 (ae (aw 2) (ae (aw 3) ak))))))) ay))))))),fun _=>?_⟩
 obtain ⟨x,ps,rfl,hl,hP,hq⟩:=hG
 refine ⟨_,ax (j:=0) rfl,rfl,x,rfl,?_⟩
 cases hf:bP gc x with
 | none =>
   have hg:cW x ps=false:=by unfold cW; rw [hf]
   rw [hg] at hq
   exact hq
 | some ss =>
   have hg:cW x ps=(decide (ps.length=ss.length) && (List.zipWith mi ss ps).all id):=by unfold cW; rw [hf]
   rw [hg] at hq
   have hss:=nN x ss hf
   have el:(((T.str x :: ps).length:Nat):Int)=(ps.length:Int)+1:=by rw [GU]; omega
   have Rx:((chars ss).length:Int)=(ss.length:Int):=by rw [t_]
   refine ⟨oZ (by rw [t_]; omega),?_⟩
   refine kj (c:=(!decide (((T.str x :: ps).length:Int)=1+((chars ss).length:Int)))=true) (fun h=>?_) (fun h=>?_)
   · have h':(!decide (((T.str x :: ps).length:Int)=1+((chars ss).length:Int)))=true:=h
     have h2:=of_decide_eq_false (nt h')
     rw [el,Rx] at h2
     rw [decide_eq_false (by omega),vS] at hq
     exact hq
   · have h':¬ (!decide (((T.str x :: ps).length:Int)=1+((chars ss).length:Int)))=true:=h
     have h2:=of_decide_eq_true (nf h')
     rw [el,Rx] at h2
     rw [decide_eq_true (by omega),pf] at hq
     have sD:¬ (HT.dA (T.str x :: ps).length 0 (some 1)=0∧HT.dA (T.str x :: ps).length (T.str x :: ps).length none=(T.str x :: ps).length):=by
      rintro ⟨z,_⟩
      have:=HT.pq (T.str x :: ps).length 0 1
      rw [show ((1:Nat):Int)=1 from rfl,z] at this
      simp at this
     refine ⟨rfl,sD,?_⟩
     rw [NI]
     have ec:Ey (FJ (some ss))=some (ss.map fun s=>T.str (Xi s)):=by
      show some ((ss.map Uq).toArray.toList.map _)=_
      rw [List.toList_toArray,List.map_map]
      rfl
     dsimp only [Rt.t]
     rw [ec]
     dsimp only [Ey]
     refine ⟨?_,j8 (b:=mi) (fun s _ p hp r hr=>?_) ⟨_,mj _,hq⟩⟩
     · show (nJ (ss.map fun s=>T.str (Xi s)) ps).length≤sizeLine
       unfold nJ
       rw [List.length_zipWith]
       exact oZ (by omega)
     · exact ⟨rfl,rfl,rfl,s,p,rfl,hP p hp,hr⟩
end
end FD
namespace yf
open PySem L2 VT EX
def top (i:Nat):Stmt:=PySem.Challenge.pw_slicewise_k19_whole_programs_judged.main.body.getD i (.Pass ⟨0,0,0,0⟩)
abbrev ik:Stmt:=inClass (top 8) 0
abbrev jW:Stmt:=inClass (top 9) 0
abbrev mz:Stmt:=inClass (top 7) 0
structure DX (K:PySem.W.Frag) (mg:Str→Option Value) (x qual:Str) (st:Stmt) (S C f:Addr) (fd:FuncData):Prop where
 F:BG K "__init__" qual st f fd
 m:mg x=some (.ref C)
 kp:PySem.W.keepIn K (.ref C)=true
 b:Binds K fd ["self","place"] []
 xc:XC K C [S]
 xf:XF K C
 hi:PySem.W.findIn K (.ref C) "__init__" = some (some (.ref f))
 ht:PySem.W.typeIn K (.ref f)=some (.type "function")
theorem zN:aH ["self","place"] ["self","place"] (aj ik):=L2.gE
theorem Cw:aH ["self","place"] ["self","place"] (aj jW):=L2.gE
theorem FR:aH ["self","place"] ["self","place"] (aj mz):=L2.gE
section
variable {P:Program} {w:World} {K:PySem.W.Frag} {mg:Str→Option Value} {base:Heap} {S C f:Addr} {fd:FuncData}
theorem zO (D:DX K mg "NoBlock" "NoBlock.__init__" ik S C f fd) (xs:XS K S) (mS:mg "SliceError" = some (.ref S)):XP P w K mg base "NoBlock" C 1:=by
 refine ⟨D.m,D.kp,⟨_,D.xc⟩,f,fd,D.hi,D.ht,D.b,D.F.ok zN (fun vs H Q E h=>?_) fun bw A outer s H vs Q E hr h=>?_⟩
 · obtain ⟨e,i,rfl,_⟩:=h; rfl
 · obtain ⟨e,i,rfl,h0,h1,he,hq⟩:=h
   refine ⟨_,jh (lC (qV xs (by rfl) mS D.xc (ba (pv 0) (ba (A8 (pv 1)) cb)))) (lu (Fh D.xc D.xf (pv 0) (pv 1))),?_⟩
   refine ⟨_,rfl,_,rfl,i,rfl,h0,h1,fun x=>⟨e,x,rfl,he,_,rfl,_,rfl,e,i,rfl,rfl,he,hq⟩⟩
theorem Cy (D:DX K mg "NoCall" "NoCall.__init__" jW S C f fd) (xs:XS K S) (mS:mg "SliceError" = some (.ref S)):XP P w K mg base "NoCall" C 1:=by
 refine ⟨D.m,D.kp,⟨_,D.xc⟩,f,fd,D.hi,D.ht,D.b,D.F.ok Cw (fun vs H Q E h=>?_) fun bw A outer s H vs Q E hr h=>?_⟩
 · obtain ⟨e,i,rfl,_⟩:=h; rfl
 · obtain ⟨e,i,rfl,h0,h1,he,hq⟩:=h
   refine ⟨_,jh (lC (qV xs (by rfl) mS D.xc (ba (pv 0) (ba (A8 (pv 1)) cb)))) (lu (Fh D.xc D.xf (pv 0) (pv 1))),?_⟩
   refine ⟨_,rfl,_,rfl,i,rfl,h0,h1,fun x=>⟨e,x,rfl,he,_,rfl,_,rfl,e,i,rfl,rfl,he,hq⟩⟩
theorem FT (D:DX K mg "NoRow" "NoRow.__init__" mz S C f fd) (xs:XS K S) (mS:mg "SliceError" = some (.ref S)):XP P w K mg base "NoRow" C 1:=by
 refine ⟨D.m,D.kp,⟨_,D.xc⟩,f,fd,D.hi,D.ht,D.b,D.F.ok FR (fun vs H Q E h=>?_) fun bw A outer s H vs Q E hr h=>?_⟩
 · obtain ⟨e,i,rfl,_⟩:=h; rfl
 · obtain ⟨e,i,rfl,h0,h1,he,hq⟩:=h
   refine ⟨_,jh (lC (qV xs (by rfl) mS D.xc (ba (pv 0) (ba (A8 (pv 1)) cb)))) (lu (Fh D.xc D.xf (pv 0) (pv 1))),?_⟩
   refine ⟨_,rfl,_,rfl,i,rfl,h0,h1,fun x=>⟨e,x,rfl,he,_,rfl,_,rfl,e,i,rfl,rfl,he,hq⟩⟩
end
end yf
namespace VT
open PySem PySem.Spec PyProof.Rows L2
section
variable {X:Cx}
end
end VT
namespace dX
open PySem L2 VT Gen wm
open fJ (xm cW Part jC bP gc mi bR dG B1 xg B3 B2 strsOf EM za)
open Jp (RT RP cX)
def top (i:Nat):Stmt:=PySem.Challenge.pw_slicewise_k19_whole_programs_judged.main.body.getD i (.Pass ⟨0,0,0,0⟩)
abbrev fL:Stmt:=top 41
abbrev ka:Stmt:=top 42
abbrev hY:Stmt:=top 43
abbrev bG:Stmt:=top 44
abbrev q9:Stmt:=top 45
abbrev mx:Stmt:=top 46
abbrev gg:Stmt:=top 47
abbrev gB:Stmt:=top 48
abbrev h_:Stmt:=top 49
abbrev ib:Stmt:=top 50
abbrev s_row:Stmt:=top 51
abbrev q_:Stmt:=top 52
abbrev gh:Stmt:=top 53
abbrev xF:Stmt:=top 54
abbrev jT:Stmt:=top 55
abbrev jU:Stmt:=top 56
structure Lm (mg:Str→Option Value):Prop where
 list:mg "list" = none
 len:mg "len" = none
 int:mg "int" = none
 range:mg "range" = none
 tuple:mg "tuple" = none
 isinstance:mg "isinstance" = none
def Wd (ys:List Str):Prop:=ys.length=6∧∀ y∈ys,y.length≤8
def YU (ts:List T) (q:Rt→Prop):Prop:=∃ (n:Int) (ys:List Str),ts=[.int n,.lst (ys.map .str)]∧Wd ys∧∀ t:T,jC t→q (.vw t)
def va (ts:List T) (q:Rt→Prop):Prop:=∃ (c:Int) (ys:List Str),ts=[.int c,.lst (ys.map .str)]∧Wd ys∧∀ t:T,RT t→q (.vw t)
theorem mB {ys:List Str} {k:Nat} (h:k < ys.length):k9 (ys.map T.str) (k:Int)=some (.str (ys.getD k "")):=ax (by rw [lj,List.getD,sR h]; rfl)
theorem gi {ys:List Str} (h:Wd ys) (k:Nat):(ys.getD k "").length≤8:=by
 rw [List.getD]
 cases e:ys[k]? with
 | none=>decide
 | some y=>exact h.2 y (mV e)
theorem kZ {x:Str} (h:x.length≤8):jC (.str x):=.inl ⟨x,rfl,by omega⟩
theorem FU (i:Int):jC (.int i):=.inr ⟨i,rfl⟩
theorem A4 (a b:Str):(a ++ b).length=a.length+b.length:=by
 show (a.cps ++ b.cps).size=_
 simp [Str.length]
theorem ud {l:List T} {n m:Int} (hm:0 < m) (h:m≤(l.length:Int)):∃ t∈l,k9 l (n % m)=some t:=by
 have h0:0≤n % m:=LC n (by omega)
 have h1:n % m < m:=Py n hm
 obtain ⟨j,hj⟩:=Tj h0
 have gF:j < l.length:=by omega
 rw [hj]
 exact ⟨l[j],Tu gF,ax (sR gF)⟩
theorem ue {ys:List Str} (hy:Wd ys) {n m:Int} (hm:0 < m:=by decide) (h:m≤6:=by decide):∃ y:Str,y.length≤8∧k9 (ys.map T.str) (n % m)=some (T.str y):=by
 obtain ⟨t,ht,e⟩:=ud (l:=ys.map T.str) (n:=n) hm (by rw [cV,hy.1]; exact h)
 obtain ⟨y,Mt,rfl⟩:=Bp.mp ht
 exact ⟨y,hy.2 y Mt,e⟩
theorem Bi {l:List T} {lo hi:Option Int} {t:T} (h:t∈iE l lo hi):t∈l:=by
 unfold iE at h
 exact List.mem_of_mem_drop (List.mem_of_mem_take h)
theorem Bj (l:List T) (lo hi:Option Int):(iE l lo hi).length≤l.length:=by
 unfold iE
 rw [OS,Tt]
 omega
theorem xO {a b:T} {lo hi:Option Int} (ha:jC a) (hb:jC b):Part (.tup (iE [a,b] lo hi)):=.inr ⟨_,rfl,by have:=Bj [a,b] lo hi; simp only [GU,PC] at this; omega,fun u hu=>by
 have:=Bi hu
 simp only [fg,ko,or_false] at this
 rcases this with rfl | rfl
 · exact ha
 · exact hb⟩
theorem uf {x:Str} {ps:List T} (h:∀ p∈ps,Part p) (h1:ps.length≤10:=by simp):RT (.tup (.str x :: ps)):=⟨x,ps,rfl,h1,h⟩
theorem p0:∀ p∈([]:List T),Part p:=fun p hp=>nomatch hp
theorem pc {a:T} {l:List T} (ha:Part a) (hl:∀ p∈l,Part p):∀ p∈a :: l,Part p:=fun p hp=>by
 rcases fg.mp hp with rfl | hp
 · exact ha
 · exact hl p hp
theorem N7 {l:List T} {i:Int} (h0:0≤i) (h1:i < (l.length:Int)):∃ t∈l,k9 l i=some t:=by
 obtain ⟨j,rfl⟩:=Tj h0
 have gF:j < l.length:=by omega
 exact ⟨l[j],Tu gF,ax (sR gF)⟩
theorem rq {x:Str} (h:x.length≤8):jC (.str ((("." : String):Str) ++ x)):=.inl ⟨_,rfl,by rw [A4,show ((("." : String):Str)).length=1 by decide +kernel]; omega⟩
theorem vD {x:Str} (h:x.length≤8):((("." : String):Str)).length+x.length≤sizeLine:=small (by rw [show ((("." : String):Str)).length=1 by decide +kernel]; omega)
section
variable {P:Program} {w:World} {K:PySem.W.Frag} {mg:Str→Option Value} {base:Heap}
abbrev Cz:List Str:=["_law_number","_law_words_here"]
theorem rz:aH Cz ["_law_number","_law_words_here"] (aj ib):=L2.gE
theorem kM {f:Addr} {fd:FuncData} (D:Df K mg "_law_operand" ib ["_law_number","_law_words_here"] f fd) (M:Lm mg):b_ P w K mg base "_law_operand" ["_law_number","_law_words_here"] 1 (bZ K 2 YU):=by
 refine D.jA (ku D.F rz rfl fun bw A outer s H E Ox hr ts q hG=>?_)
 have nd:=rz.nd
 have hu:=bj.fP hr
 refine ⟨_,(af (aJ (bc hu (VP.vr (bA (aa 0) (VP.vr ag))) (VP.vr ag))
    (ah (az (VP.vx (aG (VP.vr (bt (ae (VP.ve (ju (VP.vr ag) (VP.vr ag))) (ae (VP.ve ai) (ae (VP.ve ai) (ae (VP.ve (p_ (VP.vr ag) (VP.vr (ju (VP.vr ag) (VP.vr ag))))) (ae (VP.ve (p_ (VP.vr (ju (VP.vr ag) (VP.vr ag))) (VP.vr ag))) (ae (VP.ve ag) (ae (VP.ve (dJ (VP.vr ai) (VP.vr (aG (aa 1) (VP.vr ag))))) ak))))))))) (VP.vr (bA (VP.vr (bD (aa 0) (VP.vr ag))) (VP.vr ag)))))))
    au)
   (af (aJ (oy (VP.vr (bA (aa 0) (VP.vr ag))) (VP.vr ag))
     (ah (az (VP.vx (aG (aa 1) (VP.vr (bA (VP.vr (bD (aa 0) (VP.vr ag))) (VP.vr ag)))))))
     au)
   (ah (az (VP.vx (p_ (VP.vr (bA (VP.vr (bD (aa 0) (VP.vr ag))) (VP.vr (yD (VP.vr ag) (VP.vr (ju (VP.vr ag) (VP.vr ag))))))) (VP.vr (ju (VP.vr ag) (VP.vr ag))))))))),fun _=>?_⟩
 obtain ⟨n,ys,rfl,hy,hq⟩:=hG
 have l0:=gi hy 0
 refine ⟨by show (0:Int) < 7; decide,?_⟩
 refine cj (fun h=>?_) (fun h=>?_)
 · refine ⟨⟨by decide,by decide,by decide⟩,⟨by decide,by decide,by decide⟩,⟨by decide,by decide,by decide⟩,_,mB (k:=0) (by have:=hy.1; omega),vD l0,small (by simp),⟨by decide,by decide⟩,(by show (0:Int) < 7; decide),?_⟩
   have hL:∀ t∈[T.int (10 ^ (30:Int).toNat),.str "",.str "Ab",.int (0 - 10 ^ (30:Int).toNat),.int (10 ^ (30:Int).toNat - 1),.int 0,.str ((("." : String):Str) ++ ys.getD 0 "")],jC t:=by
    simp only [List.forall_mem_cons,ko,false_implies,implies_true,and_true]
    exact ⟨FU _,kZ (by decide +kernel),kZ (by decide +kernel),FU _,FU _,FU _,rq l0⟩
   obtain ⟨t,ht,e⟩:=ud (n:=n / 7) (m:=7) (l:=[T.int (10 ^ (30:Int).toNat),.str "",.str "Ab",.int (0 - 10 ^ (30:Int).toNat),.int (10 ^ (30:Int).toNat - 1),.int 0,.str ((("." : String):Str) ++ ys.getD 0 "")]) (by decide) (by simp)
   exact ⟨t,e,hq t (hL t ht)⟩
 · refine ⟨by show (0:Int) < 7; decide,?_⟩
   refine cj (fun h=>?_) (fun h=>?_)
   · obtain ⟨y,ly,e⟩:=ue hy (n:=n / 7) (m:=4)
     exact ⟨⟨by decide,by decide⟩,(by show (0:Int) < 4; decide),_,e,hq _ (kZ ly)⟩
   · exact ⟨⟨by decide,by decide⟩,⟨by decide,by decide,by decide⟩,.inl ⟨by decide,by decide⟩,(by show (0:Int) < 2 * 10 ^ (30:Int).toNat; decide +kernel),⟨by decide,by decide,by decide⟩,hq _ (FU _)⟩
abbrev RY:List Str:=["_law_cell","_law_words_here","_law_number","_law_name","_law_one","_law_other","_law_kind"]
theorem FV:aH RY ["_law_cell","_law_words_here"] (aj s_row):=L2.gE
theorem N8 {f:Addr} {fd:FuncData} (D:Df K mg "_law_row" s_row ["_law_cell","_law_words_here"] f fd) (M:Lm mg) (CA:b_ P w K mg base "_law_operand" ["_law_number","_law_words_here"] 1 (bZ K 2 YU)):b_ P w K mg base "_law_row" ["_law_cell","_law_words_here"] 2 (bZ K 2 va):=by
 obtain ⟨Pj,N9,ug,uh,ui,uj⟩:=CA
 refine D.jA (ku D.F FV rfl fun bw A outer s H E Ox hr ts q hG=>?_)
 have nd:=FV.nd
 have hu:=bj.fP hr
 have np:∀ {i:Nat},aZ ⟨H,[],Ox⟩ i:=j5
 refine ⟨_,(af (a_ (i:=2) nd rfl (Or.inl rfl) (VP.vx (bA (VP.vr (yD (VP.vr (bD (aa 0) (VP.vr ag))) (VP.vr ag))) (VP.vr ag))) np)
   (af (a_ (i:=3) nd rfl (Or.inl rfl) (VP.vx (aG (aa 1) (VP.vr (bA (aa 2) (VP.vr ag))))) np)
   (af (a_ (i:=4) nd rfl (Or.inl rfl) (VP.vx (aT uj (hr.mono (by decide)) (by rfl) ug uh ui (ae (VP.ve (bD (aa 2) (VP.vr ag))) (ae (aw 1) ak)))) np)
   (af (a_ (i:=5) nd rfl (Or.inl rfl) (VP.vx (aT uj (hr.mono (by decide)) (by rfl) ug uh ui (ae (VP.ve (bD (aa 2) (VP.vr ag))) (ae (aw 1) ak)))) np)
   (af (a_ (i:=6) nd rfl (Or.inl rfl) (VP.vx (bA (aa 0) (VP.vr ag))) np)
   (af (aJ (bc hu (aa 6) (VP.vr ag))
     (ah (az (VP.vx (aY (ae (VP.ve ai) (ae (VP.ve (aG (aa 1) (VP.vr (bA (VP.vr (bD (aa 2) (VP.vr ag))) (VP.vr ag))))) (ae (VP.ve (d_ kr oz (by rfl) M.tuple l9 (aq (VP.vr (dc (VP.vr (bt (ae (VP.ve (aG (aa 1) (VP.vr ag))) (ae (VP.ve (aG (aa 1) (VP.vr ag))) ak)))) eR (eT (VP.vr (bA (VP.vr (bD (aa 2) (VP.vr ag))) (VP.vr ag)))))) ay))) ak)))))))
     au)
   (af (aJ (oy (aa 6) (VP.vr ag))
     (ah (az (VP.vx (aY (ae (VP.ve ai) (ae (aw 4) ak))))))
     au)
   (af (aJ (bc hu (aa 6) (VP.vr ag))
     (ah (az (VP.vx (aY (ae (VP.ve ai) (ae (aw 4) ak))))))
     au)
   (af (aJ (oy (aa 6) (VP.vr ag))
     (ah (az (VP.vx (aG (VP.vr (bt (ae (VP.ve (aY (ae (VP.ve ai) ak))) (ae (VP.ve (aY (ae (VP.ve ai) ak))) (ae (VP.ve (aY (ae (VP.ve ai) ak))) (ae (VP.ve (aY (ae (VP.ve ai) (ae (aw 4) ak)))) ak)))))) (VP.vr (p_ (aa 6) (VP.vr ag)))))))
     au)
   (af (aJ (bc hu (aa 6) (VP.vr ag))
     (ah (az (VP.vx (aY (ae (VP.ve ai) (ae (aw 3) (ae (aw 4) ak)))))))
     au)
   (af (aJ (bc hu (aa 6) (VP.vr ag))
     (ah (az (VP.vx (aY (ae (VP.ve ai) (ae (aw 3) (ae (aw 4) (ae (VP.ve (aG (VP.vr (bt (ae (VP.ve ai) (ae (VP.ve ai) (ae (VP.ve ai) (ae (VP.ve ai) ak)))))) (VP.vr (bA (VP.vr (bD (aa 2) (VP.vr ag))) (VP.vr ag))))) (ae (aw 5) ak)))))))))
     au)
   (af (aJ (bc hu (aa 6) (VP.vr ag))
     (ah (az (VP.vx (aY (ae (VP.ve ai) (ae (aw 3) ak))))))
     au)
   (af (aJ (bc hu (aa 6) (VP.vr ag))
     (ah (az (VP.vx (aY (ae (VP.ve ai) (ae (aw 3) (ae (VP.ve (aG (aa 1) (VP.vr (bA (VP.vr (bD (aa 2) (VP.vr ag))) (VP.vr ag))))) (ae (VP.ve (aG (VP.vr (bt (ae (VP.ve (dJ (VP.vr ai) (VP.vr (aG (aa 1) (VP.vr ag))))) (ae (aw 4) ak)))) (VP.vr (bA (VP.vr (bD (aa 2) (VP.vr ag))) (VP.vr ag))))) ak))))))))
     au)
   (af (aJ (bc hu (aa 6) (VP.vr ag))
     (ah (az (VP.vx (aY (ae (VP.ve ai) (ae (aw 3) (ae (VP.ve (aG (VP.vr (bt (ae (VP.ve (dJ (VP.vr ai) (VP.vr (aG (aa 1) (VP.vr ag))))) (ae (aw 4) ak)))) (VP.vr (bA (VP.vr (bD (aa 2) (VP.vr ag))) (VP.vr ag))))) (ae (aw 5) ak))))))))
     au)
   (af (aJ (bc hu (aa 6) (VP.vr ag))
     (ah (az (VP.vx (aY (ae (VP.ve ai) (ae (aw 3) (ae (VP.ve (aG (aa 1) (VP.vr (bA (VP.vr (bD (aa 2) (VP.vr ag))) (VP.vr ag))))) (ae (VP.ve (d_ kr oz (by rfl) M.tuple l9 (aq (VP.vr (dc (VP.vr (bt (ae (aw 4) (ae (aw 5) ak)))) eR (eT (VP.vr (bA (VP.vr (bD (aa 2) (VP.vr ag))) (VP.vr ag)))))) ay))) ak))))))))
     au)
   (af (aJ (bc hu (aa 6) (VP.vr ag))
     (ah (az (VP.vx (aY (ae (VP.ve ai) (ae (VP.ve (aG (aa 1) (VP.vr (bA (VP.vr (bD (aa 2) (VP.vr ag))) (VP.vr ag))))) ak))))))
     au)
   (ah (az (VP.vx (aG (VP.vr (bt (ae (VP.ve (aY (ae (VP.ve ai) ak))) (ae (VP.ve (aY (ae (VP.ve ai) ak))) (ae (VP.ve (aY (ae (VP.ve ai) (ae (aw 3) ak)))) ak))))) (VP.vr (bA (aa 2) (VP.vr ag))))))))))))))))))))))),fun _=>?_⟩
 obtain ⟨c,ys,rfl,hy,hq⟩:=hG
 refine ⟨⟨by decide,by decide⟩,.inr ⟨by decide,by decide⟩,(by show (0:Int) < 2305843009213693951; decide),(by show (0:Int) < 4; decide),?_⟩
 generalize c / 17 * 48271 % 2305843009213693951=n
 obtain ⟨nm,ln,en⟩:=ue hy (n:=n) (m:=4)
 refine ⟨_,en,⟨by decide,by decide⟩,rfl,_,ys,rfl,hy,fun a ha=>⟨⟨by decide,by decide⟩,rfl,_,ys,rfl,hy,fun b hb=>?_⟩⟩
 refine ⟨by show (0:Int) < 17; decide,?_⟩
 have k0:0≤c % 17:=LC _ (by decide)
 have k1:c % 17 < 17:=Py _ (by decide)
 generalize c % 17=k at k0 k1 ⊢
 have y6:=hy.1
 have ps:Part (.str nm):=.inl (kZ ln)
 refine cj (fun h=>?_) (fun h=>?_)
 · obtain ⟨f1,lf,ef⟩:=ue hy (n:=n / 9) (m:=3)
   exact ⟨⟨by decide,by decide⟩,(by show (0:Int) < 3; decide),_,ef,_,mB (k:=0) (by omega),_,mB (k:=2) (by omega),small (by simp),⟨by decide,by decide⟩,(by show (0:Int) < 3; decide),small (by simp),hq _ (uf (pc (.inl (kZ lf)) (pc (xO (kZ (gi hy 0)) (kZ (gi hy 2))) p0)))⟩
 refine cj (fun h=>?_) (fun h=>?_)
 · exact ⟨small (by simp),hq _ (uf (pc (.inl ha) p0))⟩
 refine cj (fun h=>?_) (fun h=>?_)
 · exact ⟨small (by simp),hq _ (uf (pc (.inl ha) p0))⟩
 refine cj (fun h=>?_) (fun h=>?_)
 · refine ⟨small (by simp),small (by simp),small (by simp),small (by simp),small (by simp),?_⟩
   obtain ⟨t,ht,e⟩:=N7 (l:=[.tup [.str "else"],.tup [.str "end"],.tup [.str "end"],.tup [.str "give",a]]) (i:=k - 4) (by omega) (by simp; omega)
   refine ⟨t,e,hq t ?_⟩
   simp only [fg,ko,or_false] at ht
   rcases ht with rfl | rfl | rfl | rfl
   · exact uf p0
   · exact uf p0
   · exact uf p0
   · exact uf (pc (.inl ha) p0)
 refine cj (fun h=>?_) (fun h=>?_)
 · exact ⟨small (by simp),hq _ (uf (pc ps (pc (.inl ha) p0)))⟩
 refine cj (fun h=>?_) (fun h=>?_)
 · obtain ⟨t,ht,e⟩:=ud (n:=n / 5) (m:=4) (l:=[T.str "plus",.str "less",.str "rest",.str "more"]) (by decide) (by simp)
   refine ⟨small (by simp),⟨by decide,by decide⟩,(by show (0:Int) < 4; decide),t,e,small (by simp),hq _ (uf (pc ps (pc (.inl ha) (pc (.inl ?_) (pc (.inl hb) p0)))))⟩
   simp only [fg,ko,or_false] at ht
   rcases ht with rfl | rfl | rfl | rfl <;> exact kZ (by decide +kernel)
 refine cj (fun h=>?_) (fun h=>?_)
 · exact ⟨small (by simp),hq _ (uf (pc ps p0))⟩
 refine cj (fun h=>?_) (fun h=>?_)
 · obtain ⟨r1,lr,er⟩:=ue hy (n:=n / 13) (m:=4)
   obtain ⟨t,ht,e⟩:=ud (n:=n / 7) (m:=2) (l:=[T.str ((("." : String):Str) ++ ys.getD 1 ""),a]) (by decide) (by simp)
   refine ⟨⟨by decide,by decide⟩,(by show (0:Int) < 4; decide),_,er,_,mB (k:=1) (by omega),vD (gi hy 1),small (by simp),⟨by decide,by decide⟩,(by show (0:Int) < 2; decide),t,e,small (by simp),hq _ (uf (pc ps (pc (.inl (kZ lr)) (pc (.inl ?_) p0))))⟩
   simp only [fg,ko,or_false] at ht
   rcases ht with rfl | rfl
   · exact rq (gi hy 1)
   · exact ha
 refine cj (fun h=>?_) (fun h=>?_)
 · obtain ⟨t,ht,e⟩:=ud (n:=n / 7) (m:=2) (l:=[T.str ((("." : String):Str) ++ ys.getD 0 ""),a]) (by decide) (by simp)
   refine ⟨_,mB (k:=0) (by omega),vD (gi hy 0),small (by simp),⟨by decide,by decide⟩,(by show (0:Int) < 2; decide),t,e,small (by simp),hq _ (uf (pc ps (pc (.inl ?_) (pc (.inl hb) p0))))⟩
   simp only [fg,ko,or_false] at ht
   rcases ht with rfl | rfl
   · exact rq (gi hy 0)
   · exact ha
 refine cj (fun h=>?_) (fun h=>?_)
 · obtain ⟨f1,lf,ef⟩:=ue hy (n:=n / 9) (m:=3)
   exact ⟨⟨by decide,by decide⟩,(by show (0:Int) < 3; decide),_,ef,small (by simp),⟨by decide,by decide⟩,(by show (0:Int) < 3; decide),small (by simp),hq _ (uf (pc ps (pc (.inl (kZ lf)) (pc (xO ha hb) p0))))⟩
 refine cj (fun h=>?_) (fun h=>?_)
 · obtain ⟨f1,lf,ef⟩:=ue hy (n:=n / 3) (m:=6)
   exact ⟨⟨by decide,by decide⟩,(by show (0:Int) < 6; decide),_,ef,small (by simp),hq _ (uf (pc (.inl (kZ lf)) p0))⟩
 obtain ⟨t,ht,e⟩:=ud (n:=n) (m:=3) (l:=[T.tup [.str "skip"],.tup [.str "skip"],.tup [.str "put",.str nm]]) (by decide) (by simp)
 refine ⟨small (by simp),small (by simp),small (by simp),small (by simp),(by show (0:Int) < 3; decide),t,e,hq t ?_⟩
 simp only [fg,ko,or_false] at ht
 rcases ht with rfl | rfl | rfl
 · exact uf p0
 · exact uf p0
 · exact uf (pc ps p0)
end
end dX
namespace Gen
open PySem L2 VT
def fE (x:Str):Str:=if x="else" then "if with else" else x
theorem FW {c:Bool} {p A B:Prop} [Decidable p] (e:c=decide p) (h1:p→A) (h2:¬ p→B):if c=true then A else B:=by
 rw [e]
 by_cases h:p
 · rw [if_pos (decide_eq_true h)]; exact h1 h
 · rw [if_neg (by rw [decide_eq_false h]; exact lh)]; exact h2 h
def oS (st:List Str):List T:=st.map fun x=>T.str (fE x)
theorem JF {α:Type} (f:α→T) (l:List α) (k:Nat) (h:k≤l.length):iE (l.map f) none (some (k:Int))=(l.take k).map f:=by
 unfold iE
 rw [cV,HT.v8,HT.pq,List.drop_zero,Nat.sub_zero,Nat.min_eq_left h,List.map_take]
theorem FY (st:List Str) (x:Str):(iM st x).length≤st.length+1:=by
 unfold iM
 split
 · rw [pP]; simp
 · split
   · rw [Dk]; omega
   · split
     · rw [pP,Dk]; simp
     · omega
def FZ:Rw→Bool
 | .df _ _=>true
 | _=>false
theorem N_ (r:Rw):decide (wd r="def")=FZ r:=by cases r <;> rfl
def RZ (rs:List Rw):List Nat:=(List.range rs.length).filter fun k=>(rs[k]?.map FZ).getD false
def JG:Rw→Str
 | .df f _=>f
 | _=>""
def named (rs:List Rw) (f:Str):List Nat:=(RZ rs).filter fun k=>decide ((rs[k]?.map JG).getD "" = f)
theorem JH {rs:List Rw} {k:Nat}:k∈RZ rs↔∃ f ps,rs[k]?=some (.df f ps):=by
 unfold RZ
 rw [GW,Dp]
 constructor
 · rintro ⟨h1,h2⟩
   rw [sR h1] at h2 ⊢
   cases q:rs[k] with
   | df f ps=>exact ⟨f,ps,rfl⟩
   | _=>rw [q] at h2; cases h2
 · rintro ⟨f,ps,h⟩
   exact ⟨(e_.mp h).1,by rw [h]; rfl⟩
theorem og {rs:List Rw} {f:Str} {k:Nat}:k∈named rs f↔∃ ps,rs[k]?=some (.df f ps):=by
 unfold named
 rw [GW,JH]
 constructor
 · rintro ⟨⟨g,ps,h⟩,h2⟩
   rw [h] at h2
   have:g=f:=of_decide_eq_true h2
   subst this
   exact ⟨ps,h⟩
 · rintro ⟨ps,h⟩
   exact ⟨⟨f,ps,h⟩,by rw [h]; exact decide_eq_true rfl⟩
theorem vE (rs:List Rw) (f:Str):(named rs f).Pairwise (· < ·):=by
 unfold named RZ
 exact List.Pairwise.filter _ (List.Pairwise.filter _ List.pairwise_lt_range)
theorem oh {rs:List Rw} {f:Str} {j:Nat}:∀ n,nU (a8 rs n) f=some j→∀ k < j,∀ ps,rs[k]?≠some (.df f ps)
 | 0,h=>nomatch h
 | n+1,h=>by
   have old:nU (a8 rs n) f=some j→∀ k < j,∀ ps,rs[k]?≠some (.df f ps):=oh n
   simp only [a8] at h
   split at h
   · rename_i r hr
     cases r with
     | df g ps =>
       simp only [K9] at h
       split at h
       · exact old h
       · rename_i hn
         rw [pI] at h
         split at h
         · rename_i i hi
           cases h
           exact old hi
         · rename_i Hi
           simp only [nU] at h
           split at h
           · rename_i e
             cases h
             intro k hk qs hq
             obtain ⟨j2,YV⟩:=fK hq _ hk
             rw [Hi] at YV
             cases YV
           · cases h
     | _=>exact old h
   · exact old h
theorem zP (rs:List Rw) (f:Str):(named rs f).head?=nU (a8 rs rs.length) f:=by
 cases ha:nU (a8 rs rs.length) f with
 | none =>
   cases hl:named rs f with
   | nil=>rfl
   | cons k l =>
     obtain ⟨ps,h⟩:=og.mp (by rw [hl]; exact gq:k∈named rs f)
     obtain ⟨j,hj⟩:=fK h rs.length (e_.mp h).1
     rw [ha] at hj; cases hj
 | some j =>
   obtain ⟨_,ps,hj⟩:=g_ _ ha
   have hm:j∈named rs f:=og.mpr ⟨ps,hj⟩
   cases hl:named rs f with
   | nil=>rw [hl] at hm; cases hm
   | cons k l =>
     have hk:k∈named rs f:=by rw [hl]; exact gq
     obtain ⟨qs,hq⟩:=og.mp hk
     have h1:¬ k < j:=fun z=>oh _ ha k z qs hq
     have hs:=vE rs f
     rw [hl] at hs hm
     rcases fg.mp hm with z | z
     · rw [z]; rfl
     · have:=(List.pairwise_cons.mp hs).1 j z
       omega
end Gen
namespace dX
open PySem L2 VT Gen wm
def R3:Option Nat→T
 | none=>.bb
 | some i=>.int (i:Int)
def Ln (ts:List T) (q:Rt→Prop):Prop:=∃ rs:List Rw,ts=[.lst (rs.map aU)]∧rs.length≤100∧q (.vw (R3 (brk [] rs 0)))
def Lo (ts:List T) (q:Rt→Prop):Prop:=∃ rs:List Rw,ts=[.lst (rs.map aU)]∧rs.length≤100∧q (.vw (R3 (gz rs)))
def sL (st:List Str):List T:=st.map .str
def R4 (rs:List Rw):FS:=fun d ρ=>∃ (st:List Str) (i:Nat) (r:Rw),rs[i]?=some r∧fD st (wd r)=true∧st.length≤100∧ρ=[some (.lst (rs.map aU),false),some (.lst (sL st),true),some (.int (i:Int),false),some (.str (wd r),false)]∧∀ b2 b3,d.nx [some (.lst (rs.map aU),false),some (.lst (sL (iM st (wd r))),true),b2,b3]
def nT (l:List Nat):List T:=l.map fun k:Nat=>T.int (k:Int)
theorem mD {rs:List Rw} {i:Nat} {r:Rw} (h:rs[i]?=some r):k9 (rs.map aU) (i:Int)=some (aU r):=ax (by rw [lj,h]; rfl)
theorem uk:∀ l:List Str,oA (l.map T.str)=true
 | []=>rfl
 | x :: l=>by rw [iZ]; exact uk l
section
variable {P:Program} {w:World} {K:PySem.W.Frag} {mg:Str→Option Value} {base:Heap}
abbrev N':List Str:=["_law_rows","_law_opened","_law_at","_law_word"]
theorem Bk:aH N' ["_law_rows"] (aj q_):=L2.gE
theorem JI {f:Addr} {fd:FuncData} (D:Df K mg "_law_open" q_ ["_law_rows"] f fd) (M:Lm mg):b_ P w K mg base "_law_open" ["_law_rows"] 1 (bZ K 1 Ln):=by
 refine D.jA (ku D.F Bk rfl fun bw A outer s H E Ox hr ts q hG=>?_)
 have nd:=Bk.nd
 have hu:=bj.fP hr
 have np:∀ {i:Nat},aZ ⟨H,[],Ox⟩ i:=j5
 obtain ⟨rs,rfl,hn,hq⟩:=hG
 refine ⟨_,(af (cY (i:=1) nd rfl (Or.inl rfl) (VP.vx (bt ak)) np)
   (af (dM Dn rfl (fG (by rfl) M.range (VP.vr (aE aB aD (by rfl) M.len gC (aq (aa 0) ay)))) (aW (i:=2) nd rfl (Or.inl rfl) np)
     (af (a_ (i:=3) nd rfl (Or.inl rfl) (VP.vx (aG (VP.vr (aG (aa 0) (aa 2))) (VP.vr ag))) np)
     (af (aJ (VW.vc (fj (bc hu (aa 1) (VP.vr (bt ak))) (dw (yI (aa 3) (VP.vr (aY (ae (VP.ve ai) (ae (VP.ve ai) ak))))))))
       (ah (az (VP.vx (VE.vp (aw 2)))))
       au)
     (af (aJ (VW.vc (fj (gZ hu (aa 1) (VP.vr (bt ak))) (dw (VW.vc (dF (bc hu (aa 3) (VP.vr ai)) (cK (VW.vc (fj (bc hu (aa 3) (VP.vr ai)) (dw (gZ hu (VP.vr (aG (aa 1) (VP.vr (d9 (VP.vr ag))))) (VP.vr ai)))))))))))
       (ah (az (VP.vx (VE.vp (aw 2)))))
       au)
     (af (aJ (VW.vc (dF (VW.vc (fj (bc hu (aa 3) (VP.vr ai)) (dw (bc hu (VP.vr (aG (aa 1) (VP.vr (d9 (VP.vr ag))))) (VP.vr ai))))) (cK (VW.vc (fj (bc hu (aa 3) (VP.vr ai)) (dw (gZ hu (VP.vr (aG (aa 1) (VP.vr (d9 (VP.vr ag))))) (VP.vr ai))))))))
       (ah (az (VP.vx (VE.vp (aw 2)))))
       au)
     (lU.weak (u:=((R4 rs))) (af (aJ (l8 (aa 3) (VP.vr (aY (ae (VP.ve ai) (ae (VP.ve ai) (ae (VP.ve ai) ak))))))
       (ah (bV (tD 1 OK OL d8 ez (ae (aw 3) ak))))
       au)
     (af (aJ (l8 (aa 3) (VP.vr (aY (ae (VP.ve ai) (ae (VP.ve ai) ak)))))
       (ah (bV (yE 1 PySem.F.slot_list_pop PySem.F.type_list_pop yA uI)))
       au)
     (ah (aJ (bc hu (aa 3) (VP.vr ai))
       (ah (jw 1 (VP.ve ai) (VP.vr (d9 (VP.vr ag)))))
       au)))) ?w1))))))
   (af (aJ (gZ hu (aa 1) (VP.vr (bt ak)))
     (ah (az (VP.vx (aE aB aD (by rfl) M.len gC (aq (aa 0) ay)))))
     au)
   (ah (az (VP.vx cJ)))))),fun _=>?main⟩
 case w1 =>
  rintro d ρ ⟨st,i,r,hr,hm,hl,rfl,hk⟩
  generalize wd r=x at hm hk ⊢
  have e1:l6 (.str x) [.str "def",.str "if",.str "while"]=decide (x="def"∨x="if"∨x="while"):=by
   have:=iN x ["def","if","while"]
   rw [show ([.str "def",.str "if",.str "while"]:List T)=(["def","if","while"]:List Str).map .str from rfl,this]
   simp
  have e2:l6 (.str x) [.str "give",.str "end"]=decide (x="give"∨x="end"):=by
   have:=iN x ["give","end"]
   rw [show ([.str "give",.str "end"]:List T)=(["give","end"]:List Str).map .str from rfl,this]
   simp
  have hls:(sL st).length≤100:=by unfold sL; rw [cV]; exact hl
  refine ⟨small (by simp),rfl,rfl,?_⟩
  refine FW (c:=l6 (.str x) [.str "def",.str "if",.str "while"]) e1 (fun h=>?_) (fun h=>?_)
  · refine ⟨small (by omega),small (by simp),rfl,rfl,?_⟩
    have hx:x≠"else":=by rcases h with rfl | rfl | rfl <;> decide +kernel
    have hy:¬ (x="give"∨x="end"):=by rcases h with rfl | rfl | rfl <;> decide +kernel
    refine dN (c:=l6 (.str x) [.str "give",.str "end"]) (by rw [e2]; exact decide_eq_false hy) ?_
    refine dN (c:=decide (x="else")) (decide_eq_false hx) ?_
    have ho:sL (iM st x)=sL st ++ [.str x]:=by unfold iM; rw [if_pos h]; unfold sL; rw [C7]; rfl
    rw [ho] at hk
    exact hk _ _
  · refine ⟨small (by simp),rfl,rfl,?_⟩
    refine FW (c:=l6 (.str x) [.str "give",.str "end"]) e2 (fun h2=>?_) (fun h2=>?_)
    · have hx:x≠"else":=by rcases h2 with rfl | rfl <;> decide +kernel
      have ho:sL (iM st x)=(sL st).dropLast:=by unfold iM; rw [if_neg h,if_pos h2]; unfold sL; rw [List.map_dropLast]
      rw [ho] at hk
      have ne:st≠[]:=fun z=>by
       subst z
       rcases h2 with rfl | rfl <;> exact absurd hm (by decide +kernel)
      obtain ⟨s0,y,rfl⟩:=A6 ne
      refine ⟨rfl,.str y,by simp [sL],?_⟩
      refine dN (c:=decide (x="else")) (decide_eq_false hx) ?_
      exact hk _ _
    · refine cj (fun h3=>?_) (fun h3=>?_)
      · have ho:sL (iM st x)=(sL st).dropLast ++ [.str "else"]:=by unfold iM; rw [if_neg h,if_neg h2,if_pos h3]; unfold sL; rw [C7,List.map_dropLast]; rfl
        have ne:st≠[]:=fun z=>by
         subst z; subst h3
         exact absurd hm (by decide +kernel)
        obtain ⟨s0,y,rfl⟩:=A6 ne
        have e4:sL (s0 ++ [y])=sL s0 ++ [.str y]:=by unfold sL; rw [C7]; rfl
        rw [e4,Ly] at ho
        rw [ho] at hk
        rw [e4]
        refine ⟨(sL s0).length,?_,?_⟩
        · show vU (sL s0 ++ [T.str y]).length (-1)=some (sL s0).length
          rw [pP]
          unfold vU
          rw [if_neg (by decide),if_pos (by simp only [Lw]; omega)]
          congr 1
          simp only [Lw]
          omega
        · have:(sL s0 ++ [T.str y]).set (sL s0).length (.str "else")=sL s0 ++ [.str "else"]:=by simp
          show d.nx [_,some (.lst ((sL s0 ++ [T.str y]).set (sL s0).length (.str "else")),true),_,_]
          rw [this]
          exact hk _ _
      · have ho:iM st x=st:=by unfold iM; rw [if_neg h,if_neg h2,if_neg h3]
        rw [ho] at hk
        exact hk _ _
 case main =>
  have hl:((rs.map aU).length:Int)=((rs.length:Nat):Int):=by rw [cV]
  refine ⟨small (by simp),by omega,by omega,?_⟩
  rw [hl,Dl]
  refine fQ (fun i ρ=>∃ (st:List Str) (b2 b3:Option (T×Bool)),i≤rs.length∧ρ=[some (.lst (rs.map aU),false),some (.lst (sL st),true),b2,b3]∧st.length≤i∧brk [] rs 0=brk st (rs.drop i) i) ⟨[],_,_,ph _,rfl,cZ _,rfl⟩ ?_ ?_
  · rintro i ρ hi ⟨st,b2,b3,_,rfl,hsl,hb⟩
    rw [OZ]
    have hr:rs[i]?=some rs[i]:=sR hi
    rw [vk hr] at hb
    generalize rs[i]=r at hr hb
    obtain ⟨l,el⟩:=vb r
    refine ⟨_,ax (j:=i) (by rw [lj,hr]; rfl),?_⟩
    rw [el]
    refine ⟨_,ax (j:=0) rfl,?_⟩
    have kn:fD st (wd r)=false→q (.vw (.int (i:Int))):=fun h=>by
     have e:brk [] rs 0=some i:=by
      rw [hb]
      show (if _ then _ else _)=_
      rw [h]; rfl
     rw [e] at hq
     exact hq
    have YW:fD st (wd r)=true→brk [] rs 0=brk (iM st (wd r)) (rs.drop (i+1)) (i+1):=fun h=>by
     rw [hb]
     show (if _ then _ else _)=_
     rw [if_pos h]
    have sD:fD st (wd r)=true→R4 rs { nx:=fun ρ=>∃ (st:List Str) (b2 b3:Option (T×Bool)),i+1≤rs.length∧ρ=[some (.lst (rs.map aU),false),some (.lst (sL st),true),b2,b3]∧st.length≤i+1∧brk [] rs 0=brk st (rs.drop (i+1)) (i+1),rt:=fun _ r=>q r } [some (.lst (rs.map aU),false),some (.lst (sL st),true),some (.int (i:Int),false),some (.str (wd r),false)]:=fun h=>⟨st,i,r,hr,h,by omega,rfl,fun b2 b3=>⟨_,b2,b3,by omega,rfl,by have:=FY st (wd r); omega,YW h⟩⟩
    clear YW hb el
    generalize wd r=x at kn sD ⊢
    rcases Tp st with e | ⟨s0,y,e⟩
    · subst e
      have em:fD [] x=l6 (.str x) [.str "def",.str "skip"]:=rfl
      have ei:l6 (.str x) [.str "def",.str "skip"]=decide (x="def"∨x="skip"):=by
       have:=iN x ["def","skip"]
       rw [show ([.str "def",.str "skip"]:List T)=(["def","skip"]:List Str).map .str from rfl,this]
       simp
      refine ⟨small (by simp),rfl,rfl,by decide,small (by simp),rfl,rfl,?_⟩
      refine FW (c:=!l6 (.str x) [.str "def",.str "skip"]) (p:=¬ (x="def"∨x="skip")) (by rw [ei]; simp) (fun h=>?_) (fun h=>?_)
      · exact kn (by rw [em,ei]; exact decide_eq_false h)
      · have h':x="def"∨x="skip":=Decidable.not_not.mp h
        refine ⟨small (by simp),rfl,rfl,by decide,?_⟩
        refine dN (c:=!eqT (.lst (sL [])) (.lst [])) rfl ?_
        refine dN (c:=decide (x="end")) (decide_eq_false (by rcases h' with rfl | rfl <;> decide +kernel)) ?_
        refine dN (c:=decide (x="else")) (decide_eq_false (by rcases h' with rfl | rfl <;> decide +kernel)) ?_
        exact sD (by rw [em,ei]; exact decide_eq_true h')
    · rw [List.concat_eq_append] at e
      subst e
      have em:fD (s0 ++ [y]) x=if x="give" then decide (y="def") else if x="else" then decide (y="if") else if x="end" then !decide (y="def") else !decide (x="def"):=by unfold fD; rw [List.getLast?_concat]
      have e4:sL (s0 ++ [y])=sL s0 ++ [.str y]:=by unfold sL; rw [C7]; rfl
      have ex:k9 (sL (s0 ++ [y])) (-1)=some (.str y):=by rw [e4]; exact lL _ _
      have ne:sL (s0 ++ [y])≠[]:=by rw [e4]; simp
      obtain ⟨t1,ts1,et⟩:=List.exists_cons_of_ne_nil ne
      have hp:plainT (.lst (sL (s0 ++ [y])))=true:=by simp only [plainT]; exact iJ (fun _=>rfl) _
      have hd:dep (.lst (sL (s0 ++ [y])))≤100:=by have:=fS (f:=T.str) (n:=0) (fun _=>cZ _) (s0 ++ [y]); simp only [dep]; unfold sL; omega
      refine ⟨small (by simp),hp,rfl,hd,?_⟩
      refine dN (c:=eqT (.lst (sL (s0 ++ [y]))) (.lst [])) (by rw [et]; rfl) ?_
      refine ⟨small (by simp),hp,rfl,hd,?_⟩
      refine xu (c:=!eqT (.lst (sL (s0 ++ [y]))) (.lst [])) (by rw [et]; rfl) ?_
      refine cj (fun h=>?_) (fun h=>?_)
      · have h':x="def":=h
        subst h'
        exact kn (by rw [em,if_neg (by decide +kernel),if_neg (by decide +kernel),if_neg (by decide +kernel)]; rfl)
      · have h1:¬ x="def":=h
        refine cj (fun h=>?_) (fun h=>?_)
        · have h':x="give":=h
          rw [if_pos h'] at em
          refine ⟨_,ex,?_⟩
          refine kj (fun h=>?_) (fun h=>?_)
          · have h2:(!decide (y="def"))=true:=h
            exact kn (by rw [em]; simpa using h2)
          · have h2:¬ (!decide (y="def"))=true:=h
            refine dN (c:=decide (x="end")) (decide_eq_false (by rw [h']; decide +kernel)) ?_
            refine dN (c:=decide (x="else")) (decide_eq_false (by rw [h']; decide +kernel)) ?_
            exact sD (by rw [em]; simpa using h2)
        · have h2:¬ x="give":=h
          rw [if_neg h2] at em
          refine cj (fun h=>?_) (fun h=>?_)
          · have h':x="end":=h
            rw [if_neg (by rw [h']; decide +kernel),if_pos h'] at em
            refine ⟨_,ex,?_⟩
            refine cj (fun h=>?_) (fun h=>?_)
            · have h3:y="def":=h
              exact kn (by rw [em,h3]; rfl)
            · have h3:¬ y="def":=h
              refine dN (c:=decide (x="else")) (decide_eq_false (by rw [h']; decide +kernel)) ?_
              exact sD (by rw [em]; simpa using h3)
          · have h3:¬ x="end":=h
            refine cj (fun h=>?_) (fun h=>?_)
            · have h':x="else":=h
              subst h'
              rw [if_pos rfl] at em
              refine ⟨_,ex,?_⟩
              refine kj (fun h=>?_) (fun h=>?_)
              · have h2:(!decide (y="if"))=true:=h
                exact kn (by rw [em]; simpa using h2)
              · have h2:¬ (!decide (y="if"))=true:=h
                exact sD (by rw [em]; simpa using h2)
            · have h4:¬ x="else":=h
              rw [if_neg h4,if_neg h3] at em
              exact sD (by rw [em]; simpa using h1)
  · rintro ρ ⟨st,b2,b3,_,rfl,hsl,hb⟩
    rw [Pz] at hb
    have hp:plainT (.lst (sL st))=true:=by simp only [plainT]; exact iJ (fun _=>rfl) _
    have hd:dep (.lst (sL st))≤100:=by have:=fS (f:=T.str) (n:=0) (fun _=>cZ _) st; simp only [dep]; unfold sL; omega
    refine ⟨small (by simp),hp,rfl,hd,?_⟩
    cases st with
    | nil =>
      have e:brk [] rs 0=none:=hb
      rw [e] at hq
      exact hq
    | cons y st =>
      have e:brk [] rs 0=some rs.length:=hb
      rw [e] at hq
      show q (.vw (.int ((rs.map aU).length:Int)))
      rw [cV]
      exact hq
abbrev k6:List Str:=["_law_rows","_law_at","_law_row_here","_law_named"]
theorem oM:aH k6 ["_law_rows"] (aj gh):=L2.gE
theorem rA:(k6 ++ (["_law_one"]:List Str)).Nodup:=by decide +kernel
theorem rB:(k6 ++ (["_law_k"]:List Str)).Nodup:=by decide +kernel
theorem xP {f:Addr} {fd:FuncData} (D:Df K mg "_law_bad_call" gh ["_law_rows"] f fd) (M:Lm mg):b_ P w K mg base "_law_bad_call" ["_law_rows"] 1 (bZ K 1 Lo):=by
 refine D.jA (ku D.F oM rfl fun bw A outer s H E Ox hr ts q hG=>?_)
 have nd:=oM.nd
 have hu:=bj.fP hr
 have np:∀ {i:Nat},aZ ⟨H,[],Ox⟩ i:=j5
 obtain ⟨rs,rfl,hn,hq⟩:=hG
 refine ⟨_,(af (dM Dn rfl (fG (by rfl) M.range (VP.vr (aE aB aD (by rfl) M.len gC (aq (aa 0) ay)))) (aW (i:=1) nd rfl (Or.inl rfl) np)
    (af (a_ (i:=2) nd rfl (Or.inr rfl) (VP.vx (aG (aa 0) (aa 1))) np)
    (af (aJ (VW.vc (fj (bc hu (VP.vr (aG (aa 2) (VP.vr ag))) (VP.vr ai)) (dw (l8 (VP.vr (aG (aa 2) (VP.vr ag))) (VP.vr (eV (ts:=["_law_one"]) rfl (by rfl) (iG (VP.ve (dc (aa 0) eR (eT (aa 1))))) (fun _ _ _ _ _ _=>(aW (i:=4) rA rfl (Or.inl rfl) np)) (fun _ _ _ _ _ _=>(uJ (bc hu (VP.vr (aG (aa 4) (VP.vr ag))) (VP.vr ai)))) (fun _ _ _ _ _ _=>(VP.ve (aG (aa 4) (VP.vr ag))))))))))
      (ah (az (VP.vx (VE.vp (aw 1)))))
      au)
    (ah (aJ (bc hu (VP.vr (aG (aa 2) (VP.vr ag))) (VP.vr ai))
      (af (HS (i:=3) (ts:=["_law_k"]) nd rfl (Or.inl rfl) rfl (by rfl) (fG (by rfl) M.range (VP.vr (aE aB aD (by rfl) M.len gC (aq (aa 0) ay)))) (fun _ _ _ _ _ _=>(aW (i:=4) rB rfl (Or.inl rfl) np)) (fun _ _ _ _ _ _=>(uJ (VW.vc (fj (bc hu (VP.vr (aG (VP.vr (aG (aa 0) (aa 4))) (VP.vr ag))) (VP.vr ai)) (dw (bc hu (VP.vr (aG (VP.vr (aG (aa 0) (aa 4))) (VP.vr ag))) (VP.vr (aG (aa 2) (VP.vr ag))))))))) (fun _ _ _ _ _ _=>(aw 4)) np)
      (ah (aJ (VW.vc (dF (bc hu (aa 3) (VP.vr (bt ak))) (dF (oy (VP.vr (aG (aa 3) (VP.vr ag))) (aa 1)) (cK (gZ hu (VP.vr (aE aB aD (by rfl) M.len gC (aq (VP.vr (aG (VP.vr (aG (aa 0) (VP.vr (aG (aa 3) (VP.vr ag))))) (VP.vr ag))) ay))) (VP.vr (aE aB aD (by rfl) M.len gC (aq (VP.vr (aG (aa 2) (VP.vr ag))) ay))))))))
        (ah (az (VP.vx (VE.vp (aw 1)))))
        au)))
      au)))))
   (ah (az (VP.vx cJ)))),fun _=>?_⟩
 have hl:((rs.map aU).length:Int)=((rs.length:Nat):Int):=by rw [cV]
 refine ⟨by omega,by omega,?_⟩
 rw [hl,Dl]
 refine fQ (fun i ρ=>∃ (b1 b2 b3:Option (T×Bool)),ρ=[some (.lst (rs.map aU),false),b1,b2,b3]∧∀ j < i,bS rs j=false) ⟨_,_,_,rfl,fun j hj=>absurd hj (Nat.not_lt_zero _)⟩ ?_ ?_
 · rintro i ρ hi ⟨b1,b2,b3,rfl,hw⟩
   rw [OZ]
   have hr:rs[i]?=some rs[i]:=sR hi
   have kn:bS rs i=true→q (.vw (.int (i:Int))):=fun h=>by
    rw [qT hi hw h] at hq
    exact hq
   have Pk:bS rs i=false→∀ j < i+1,bS rs j=false:=fun h j hj=>by
    by_cases e:j=i
    · rw [e]; exact h
    · exact hw j (by omega)
   refine ⟨_,mD hr,?_⟩
   generalize rs[i]=r at hr
   cases r with
   | df g ps =>
     refine ⟨_,ax (j:=0) rfl,_,ax (j:=1) rfl,?_⟩
     have hc:=JF aU rs i (by omega)
     refine ⟨rfl,?_⟩
     show (iE (rs.map aU) none (some (i:Int))).length≤sizeLine∧cL _ _ _ _ (iE (rs.map aU) none (some (i:Int))) _
     rw [hc]
     refine ⟨small (by simp; omega),?_⟩
     refine iW (xs:=rs.take i) (f:=aU) (u:=fun r:Rw=>T.str (JG r)) (p:=FZ) (fun _ _ _ _ _=>trivial) (fun r1 h1 k s hk=>?_) ?_
     · have e:=N_ r1
       cases r1 with
       | df g1 R5=>exact ⟨_,ax (j:=0) rfl,_,ax (j:=1) rfl,hk⟩
       | _=>exact ⟨_,ax (j:=0) rfl,hk⟩
     · have e1:((rs.take i).filter FZ).map (fun r:Rw=>T.str (JG r))=(((rs.take i).filter FZ).map JG).map T.str:=by rw [List.map_map]; rfl
       have e2:l6 (.str g) ((((rs.take i).filter FZ).map JG).map T.str)=bS rs i:=by
        rw [iN]
        unfold bS
        rw [hr]
        obtain ⟨j,hj⟩:=fK hr rs.length hi
        obtain ⟨_,qs,hjr⟩:=g_ _ hj
        have hm:=oh _ hj
        dsimp only
        rw [hj,GX]
        simp only [decide_eq_true_eq,Bool.not_eq_true',decide_eq_false_iff_not,Option.some.injEq,Bp,GW]
        constructor
        · rintro ⟨r1,⟨h1,h2⟩,h3⟩ GO
          subst GO
          cases r1 with
          | df g1 R5 =>
            obtain ⟨m,Ut⟩:=Lx.mp h1
            rw [List.getElem?_take] at Ut
            split at Ut
            · have Rq:g1=g:=h3
              subst Rq
              exact hm m (by assumption) R5 Ut
            · cases Ut
          | _=>cases h2
        · intro GO
          have gF:j < i:=by
           rcases Nat.lt_trichotomy j i with z | z | z
           · exact z
           · exact absurd z GO
           · exact absurd hr (hm i z ps)
          exact ⟨_,⟨Lx.mpr ⟨j,by rw [List.getElem?_take,if_pos gF]; exact hjr⟩,rfl⟩,rfl⟩
       rw [e1]
       refine ⟨rfl,uk _,?_⟩
       refine kj (fun h=>?_) (fun h=>?_)
       · exact kn (e2.symm.trans h)
       · have h2:¬ l6 (.str g) ((((rs.take i).filter FZ).map JG).map T.str)=true:=h
         rw [e2] at h2
         exact ⟨_,ax (j:=0) rfl,_,_,_,rfl,Pk (by simpa using h2)⟩
   | call x f as =>
     refine ⟨_,ax (j:=0) rfl,_,ax (j:=0) rfl,?_⟩
     refine ⟨rfl,(by show -(2 ^ 62:Int)≤((rs.map aU).length:Int); omega),(by show ((rs.map aU).length:Int) < (2 ^ 62:Int); omega),?_⟩
     refine ⟨by rw [qr]; exact Gen.small (by show (((rs.map aU).length:Int)).toNat≤1000; omega),?_⟩
     have en:(((rs.map aU).length:Int)).toNat=rs.length:=by omega
     show cL _ _ _ _ (rangeT 0 (((rs.map aU).length:Int)).toNat) _
     rw [en]
     refine iW (xs:=List.range rs.length) (f:=fun i:Nat=>T.int (0+(i:Int))) (u:=fun i:Nat=>T.int (i:Int)) (p:=fun k=>decide ((rs[k]?.map JG).getD "" = f) && (rs[k]?.map FZ).getD false) (fun _ _ _ _ _=>trivial) (fun m hm k s hk=>?_) ?_
     · have hm':=Dp.mp hm
       have R6:rs[m]?=some rs[m]:=sR hm'
       rw [OZ]
       rw [R6] at hk
       generalize rs[m]=rm at R6 hk
       cases rm with
       | df g1 R5 =>
         refine ⟨_,mD R6,_,ax (j:=0) rfl,_,mD R6,_,ax (j:=1) rfl,_,ax (j:=2) rfl,?_⟩
         have e5:(decide ((Option.map JG (some (Rw.df g1 R5))).getD "" = f) && (Option.map FZ (some (Rw.df g1 R5))).getD false)=decide (g1=f):=Bool.and_true _
         rw [e5] at hk
         exact hk
       | _ =>
         refine ⟨_,mD R6,_,ax (j:=0) rfl,?_⟩
         have e5:∀ b:Bool,(b && false)=false:=fun b=>OU _
         simp only [PB,Option.getD_some,FZ,e5] at hk
         exact hk
     · have hh:=zP rs f
       have ew:bS rs i = !vm rs i f as:=by unfold bS; rw [hr]
       rw [ew] at kn Pk
       have hp:plainT (.lst (nT (named rs f)))=true:=by simp only [plainT]; exact iJ (fun _=>rfl) _
       have hd:dep (.lst (nT (named rs f)))≤100:=by have:=fS (f:=fun k:Nat=>T.int (k:Int)) (n:=0) (fun _=>cZ _) (named rs f); simp only [dep]; unfold nT; omega
       have enm:(List.range rs.length).filter (fun k=>decide ((rs[k]?.map JG).getD "" = f) && (rs[k]?.map FZ).getD false)=named rs f:=by unfold named RZ; rw [List.filter_filter]
       rw [enm]
       refine ⟨small (by simp),hp,rfl,hd,?_⟩
       cases R7:named rs f with
       | nil =>
         rw [R7] at hh
         rw [t5 hh.symm] at kn
         exact kn rfl
       | cons j l =>
         rw [R7] at hh
         obtain ⟨_,ps,hj⟩:=g_ _ hh.symm
         rw [t6 hh.symm hj] at kn Pk
         refine ⟨_,ax (j:=0) rfl,?_⟩
         refine cj (fun hc=>?_) (fun hc=>?_)
         · have GO:j < i:=by omega
           rw [if_pos GO] at kn
           exact kn rfl
         · have GO:¬ j < i:=by omega
           rw [if_neg GO] at kn Pk
           refine ⟨_,ax (j:=0) rfl,_,mD hj,_,ax (j:=2) rfl,_,ax (j:=3) rfl,?_⟩
           have e:decide (((ps.map T.str).length:Int)=((as.map tV).length:Int))=decide (ps.length=as.length):=by rw [cV,cV,GX]; simp; omega
           refine kj (fun h=>?_) (fun h=>?_)
           · have h2:(!decide (((ps.map T.str).length:Int)=((as.map tV).length:Int)))=true:=h
             rw [e] at h2
             exact kn h2
           · have h2:¬ (!decide (((ps.map T.str).length:Int)=((as.map tV).length:Int)))=true:=h
             rw [e] at h2
             exact ⟨_,_,_,rfl,Pk (by simpa using h2)⟩
   | _=>exact ⟨_,ax (j:=0) rfl,_,ax (j:=0) rfl,_,_,_,rfl,Pk (by unfold bS; rw [hr])⟩
 · rintro ρ ⟨b1,b2,b3,rfl,hw⟩
   rw [qU hw] at hq
   exact hq
end
end dX
namespace K5
structure Kd where
 op:Bool
 cl:Bool
 el:Bool
 df:Bool
deriving DecidableEq,Inhabited
section
variable (kd:Nat→Kd)
def st:Nat→List Nat
 | 0=>[]
 | k+1=>let s:=if (kd k).cl=true then (st k).dropLast else st k
   if (kd k).op=true then s ++ [k] else s
def dp (k:Nat):Nat:=(st kd k).length
structure WF (n:Nat):Prop where
 ex:∀ k,k < n→(kd k).op=true→(kd k).cl=false
 cl:∀ k,k < n→(kd k).cl=true→st kd k≠[]
 el:∀ k,k < n→(kd k).el=true→st kd k≠[]
 nc:∀ k,k < n→(kd k).el=true→(kd k).cl=false∧(kd k).op=false
 dn:∀ k,k < n→(kd k).df=true→(kd k).op=true
 fin:st kd n=[]
end
section
variable {kd:Nat→Kd} {n:Nat}
theorem um {k:Nat} (h:(kd k).op=true) (h':(kd k).cl=false):st kd (k+1)=st kd k ++ [k]:=by simp [st,h,h']
theorem rC {k:Nat} (h:(kd k).cl=true) (h':(kd k).op=false):st kd (k+1)=(st kd k).dropLast:=by simp [st,h,h']
theorem xQ {k:Nat} (h:(kd k).cl=false) (h':(kd k).op=false):st kd (k+1)=st kd k:=by simp [st,h,h']
theorem WF.PJ (W:WF kd n) {k:Nat} (hk:k < n) (h:(kd k).cl=true):(kd k).op=false:=by
 cases q:(kd k).op with
 | false=>rfl
 | true=>rw [W.ex k hk q] at h; cases h
theorem Bl (W:WF kd n) {k:Nat} (hk:k < n) (h:(kd k).op=true):dp kd (k+1)=dp kd k+1:=by
 unfold dp; rw [um h (W.ex k hk h)]; simp
theorem F0 (W:WF kd n) {k:Nat} (hk:k < n) (h:(kd k).cl=true):dp kd (k+1)+1=dp kd k:=by
 unfold dp; rw [rC h (W.PJ hk h),Dk]
 have:0 < (st kd k).length:=List.length_pos_iff.mpr (W.cl k hk h)
 omega
theorem F1 {k:Nat} (h:(kd k).cl=false) (h':(kd k).op=false):dp kd (k+1)=dp kd k:=by unfold dp; rw [xQ h h']
theorem Lp (W:WF kd n):∀ k,k≤n→∀ i j,(st kd k)[i]?=some j→j < k∧(kd j).op=true∧dp kd j=i∧∀ m,j < m→m≤k→i < dp kd m
 | 0,_,i,j,h=>by simp [st] at h
 | k+1,hk,i,j,h=>by
   have ih:=Lp W k (by omega)
   have Io:k < n:=by omega
   have ext:∀ {i j:Nat},(st kd k)[i]?=some j→i < dp kd (k+1)→j < k+1∧(kd j).op=true∧dp kd j=i∧∀ m,j < m→m≤k+1→i < dp kd m:=fun {i j} h hd=>by
    obtain ⟨a,b,c,d⟩:=ih i j h
    refine ⟨by omega,b,c,fun m h1 h2=>?_⟩
    by_cases e:m=k+1
    · rw [e]; exact hd
    · exact d m h1 (by omega)
   by_cases ho:(kd k).op=true
   · rw [um ho (W.ex k Io ho)] at h
     have hd:=Bl W Io ho
     by_cases hi:i < (st kd k).length
     · rw [ux hi] at h
       exact ext h (by rw [hd]; exact Ki hi)
     · rw [C4 (by omega)] at h
       have e:i - (st kd k).length=0:=by
        cases q:i - (st kd k).length with
        | zero=>rfl
        | succ r=>rw [q] at h; simp at h
       rw [e] at h
       simp at h
       subst h
       have ei:i=dp kd k:=by unfold dp; omega
       refine ⟨by omega,ho,ei.symm,fun m h1 h2=>?_⟩
       have:m=k+1:=by omega
       rw [this,hd,ei]; omega
   · have m9:(kd k).op=false:=by cases q:(kd k).op <;> simp_all
     by_cases hc:(kd k).cl=true
     · rw [rC hc m9] at h
       have hi:i < (st kd k).dropLast.length:=(e_.mp h).1
       have hd:dp kd (k+1)=(st kd k).dropLast.length:=by unfold dp; rw [rC hc m9]
       rw [List.getElem?_dropLast,if_pos (by rw [Dk] at hi; exact hi)] at h
       exact ext h (by rw [hd]; exact hi)
     · have rR:(kd k).cl=false:=by cases q:(kd k).cl <;> simp_all
       rw [xQ rR m9] at h
       have hd:dp kd (k+1)=dp kd k:=F1 rR m9
       exact ext h (by rw [hd]; exact (e_.mp h).1)
theorem Lq (W:WF kd n) {j:Nat} (ho:(kd j).op=true):∀ k,j < k→k≤n→(∀ m,j < m→m≤k→dp kd j < dp kd m)→(st kd k)[dp kd j]?=some j
 | 0,h,_,_=>by omega
 | k+1,h,hk,hm=>by
   have Io:k < n:=by omega
   by_cases e:j=k
   · subst e
     rw [um ho (W.ex j Io ho)]
     unfold dp
     rw [C4 (cZ _)]
     simp
   · have ih:=Lq W ho k (by omega) (by omega) fun m h1 h2=>hm m h1 (by omega)
     have hd:=hm (k+1) (by omega) (cZ _)
     by_cases m9:(kd k).op=true
     · rw [um m9 (W.ex k Io m9),ux (e_.mp ih).1]; exact ih
     · have Oa:(kd k).op=false:=by cases q:(kd k).op <;> simp_all
       by_cases hc:(kd k).cl=true
       · have hl:dp kd (k+1)=(st kd k).length - 1:=by unfold dp; rw [rC hc Oa,Dk]
         rw [rC hc Oa,List.getElem?_dropLast,if_pos (by omega)]; exact ih
       · have rR:(kd k).cl=false:=by cases q:(kd k).cl <;> simp_all
         rw [xQ rR Oa]; exact ih
def kb (kd:Nat→Kd) (n d:Nat):Nat→Nat→Option Nat
 | 0,_=>none
 | f+1,k=>if k < n then (if dp kd (k+1)=d then some k else kb kd n d f (k+1)) else none
def endOf (kd:Nat→Kd) (n j:Nat):Option Nat:=kb kd n (dp kd j) (n - (j+1)) (j+1)
theorem mE {d:Nat}:∀ {f k e:Nat},kb kd n d f k=some e→k≤e∧e < n∧dp kd (e+1)=d∧∀ m,k≤m→m < e→dp kd (m+1)≠d
 | 0,_,_,h=>by cases h
 | f+1,k,e,h=>by
   simp only [kb] at h
   split at h
   · rename_i hk
     split at h
     · rename_i hd
       cases h
       exact ⟨cZ _,hk,hd,fun m h1 h2=>by omega⟩
     · rename_i hd
       obtain ⟨a,b,c,r⟩:=mE h
       refine ⟨by omega,b,c,fun m h1 h2=>?_⟩
       by_cases em:m=k
       · rw [em]; exact hd
       · exact r m (by omega) h2
   · cases h
theorem mF {d:Nat}:∀ {f k:Nat},kb kd n d f k=none→∀ m,k≤m→m < k+f→m < n→dp kd (m+1)≠d
 | 0,k,_,m,h1,h2,_=>by omega
 | f+1,k,h,m,h1,h2,h3=>by
   simp only [kb] at h
   split at h
   · split at h
     · cases h
     · rename_i hd
       by_cases em:m=k
       · rw [em]; exact hd
       · exact mF h m (by omega) (by omega) h3
   · omega
theorem JJ (W:WF kd n) {k:Nat} (hk:k < n):dp kd k≤dp kd (k+1)+1:=by
 by_cases ho:(kd k).op=true
 · rw [Bl W hk ho]; omega
 · have m9:(kd k).op=false:=by cases q:(kd k).op <;> simp_all
   by_cases hc:(kd k).cl=true
   · rw [F0 W hk hc]; exact cZ _
   · have rR:(kd k).cl=false:=by cases q:(kd k).cl <;> simp_all
     rw [F1 rR m9]; omega
theorem above (W:WF kd n) {j:Nat} (hj:j < n) (ho:(kd j).op=true):∀ k,j < k→k≤n→(∀ m,j < m→m < k→dp kd (m+1)≠dp kd j)→∀ m,j < m→m≤k→dp kd j < dp kd m
 | 0,h,_,_,m,_,_=>by omega
 | k+1,h,hk,k_,m,h1,h2=>by
   by_cases em:m=k+1
   · subst em
     by_cases e:j=k
     · subst e; rw [Bl W hj ho]; omega
     · have ih:=above W hj ho k (by omega) (by omega) (fun m a b=>k_ m a (by omega)) k (by omega) (cZ _)
       have s:=JJ W (k:=k) (by omega)
       have ne:=k_ k (by omega) (by omega)
       omega
   · by_cases e:j=k
     · omega
     · exact above W hj ho k (by omega) (by omega) (fun m a b=>k_ m a (by omega)) m h1 (by omega)
theorem end_is (W:WF kd n) {j:Nat} (hj:j < n) (ho:(kd j).op=true):∃ e,endOf kd n j=some e∧j < e∧e < n∧dp kd (e+1)=dp kd j∧∀ m,j < m→m < e→dp kd (m+1)≠dp kd j:=by
 cases h:endOf kd n j with
 | some e =>
   obtain ⟨a,b,c,d⟩:=mE h
   exact ⟨e,rfl,by omega,b,c,fun m h1 h2=>d m (by omega) h2⟩
 | none =>
   exfalso
   have q:=mF h
   have a:=above W hj ho n hj (cZ _) (fun m h1 h2=>q m (by omega) (by omega) h2) n hj (cZ _)
   have z:dp kd n=0:=by unfold dp; rw [W.fin]; rfl
   omega
theorem uo:∀ k,(st kd k).Pairwise (· < ·)∧∀ j∈st kd k,j < k
 | 0=>⟨List.Pairwise.nil,fun j h=>(by simp [st] at h)⟩
 | k+1=>by
   obtain ⟨h1,h2⟩:=uo k
   have base:∀ {s:List Nat},s.Sublist (st kd k)→s.Pairwise (· < ·)∧∀ j∈s,j < k:=fun sl=>⟨h1.sublist sl,fun j h=>h2 j (sl.subset h)⟩
   have key:∀ {s:List Nat},s.Sublist (st kd k)→(if (kd k).op=true then s ++ [k] else s).Pairwise (· < ·)∧∀ j∈(if (kd k).op=true then s ++ [k] else s),j < k+1:=fun {s} sl=>by
    obtain ⟨a,b⟩:=base sl
    split
    · refine ⟨List.pairwise_append.mpr ⟨a,List.pairwise_singleton _ _,fun x hx y hy=>by rw [vZ.mp hy]; exact b x hx⟩,fun j hj=>?_⟩
      rcases mY.mp hj with h | h
      · exact Ki (b j h)
      · rw [vZ.mp h]; exact GR _
    · exact ⟨a,fun j hj=>Ki (b j hj)⟩
   simp only [st]
   by_cases hc:(kd k).cl=true
   · rw [if_pos hc]; exact key (List.dropLast_sublist _)
   · rw [if_neg hc]; exact key (List.Sublist.refl _)
def endsAt (kd:Nat→Kd) (n j:Nat):Option Nat:=if (kd j).op=true then endOf kd n j else none
theorem JK (W:WF kd n) {k j:Nat} (hk:k < n) (hc:(kd k).cl=true) (ht:(st kd k).getLast?=some j):endsAt kd n j=some k∧j < k:=by
 have hl:(st kd k)[(st kd k).length - 1]?=some j:=by rw [← Tg]; exact ht
 obtain ⟨a,b,c,d⟩:=Lp W k (by omega) _ j hl
 obtain ⟨e,h1,h2,h3,h4,h5⟩:=end_is W (by omega) b
 refine ⟨?_,a⟩
 unfold endsAt
 rw [if_pos b,h1]
 congr 1
 have hd:=F0 W hk hc
 have HU:dp kd (k+1)=dp kd j:=by rw [c]; unfold dp at hd ⊢; omega
 rcases Nat.lt_or_ge e k with l | l
 · have:=d (e+1) (by omega) (by omega)
   omega
 · rcases Nat.lt_or_ge k e with l2 | l2
   · exact absurd HU (h5 k a l2)
   · omega
theorem Bm (W:WF kd n) {k j:Nat} (hk:k < n) (he:endsAt kd n j=some k) (hj:j < n):(kd k).cl=true∧(st kd k).getLast?=some j:=by
 unfold endsAt at he
 by_cases ho:(kd j).op=true
 · rw [if_pos ho] at he
   obtain ⟨e,h1,h2,h3,h4,h5⟩:=end_is W hj ho
   rw [h1] at he
   cases he
   have ab:=above W hj ho k h2 (by omega) fun m x y=>h5 m x y
   have hk0:=ab k h2 (cZ _)
   have hc:(kd k).cl=true:=by
    cases q:(kd k).cl with
    | true=>rfl
    | false =>
      exfalso
      by_cases m9:(kd k).op=true
      · rw [Bl W hk m9] at h4; omega
      · rw [F1 q (by cases r:(kd k).op <;> simp_all)] at h4; omega
   refine ⟨hc,?_⟩
   have hd:=F0 W hk hc
   have:=Lq W ho k h2 (by omega) ab
   rw [Tg]
   have e:(st kd k).length - 1=dp kd j:=by unfold dp at hd h4 ⊢; omega
   rw [e]; exact this
 · rw [if_neg ho] at he; cases he
end
end K5
namespace K5
open PySem L2 VT Gen
def wordOf:Rw→Str
 | .df _ _=>"def" | .give _=>"give" | .put _ _=>"put" | .Uc _ _ _ _=>"do" | .new _=>"new" | .get _ _ _=>"get" | .set _ _ _=>"set" | .call _ _ _=>"call" | .fail _=>"fail"
 | .O_ _=>"if" | .Pa=>"else" | .Pb _=>"while" | .fin=>"end" | .skip=>"skip"
theorem il (r:Rw):∃ l,aU r = .tup (.str (wordOf r) :: l):=by cases r <;> exact ⟨_,rfl⟩
def bp:Rw→Kd
 | .df _ _=>⟨true,false,false,true⟩
 | .give _=>⟨false,true,false,false⟩
 | .O_ _=>⟨true,false,false,false⟩
 | .Pa=>⟨false,false,true,false⟩
 | .Pb _=>⟨true,false,false,false⟩
 | .fin=>⟨false,true,false,false⟩
 | _=>⟨false,false,false,false⟩
theorem R8 (r:Rw):decide (wordOf r="def")=(bp r).df:=by cases r <;> first | rfl | decide +kernel
theorem R9 (r:Rw):decide (wordOf r="else")=(bp r).el:=by cases r <;> first | rfl | decide +kernel
theorem R_ (r:Rw):l6 (.str (wordOf r)) [.str "give",.str "end"]=(bp r).cl:=by cases r <;> first | rfl | decide +kernel
theorem R' (r:Rw):l6 (.str (wordOf r)) [.str "def",.str "if",.str "while"]=(bp r).op:=by cases r <;> first | rfl | decide +kernel
def e8 (rs:List Rw) (k:Nat):Kd:=match rs[k]? with
 | some r=>bp r
 | none=>⟨false,false,false,false⟩
theorem oi {rs:List Rw} {k:Nat} {r:Rw} (h:rs[k]?=some r):e8 rs k=bp r:=by unfold e8; rw [h]
def YX (rs:List Rw):Prop:=WF (e8 rs) rs.length
def oT:Option Nat→T
 | none=>.bb
 | some k=>.int (k:Int)
def tab (f:Nat→Option Nat) (n k:Nat):List T:=(List.range n).map fun i=>if i < k then oT (f i) else .bb
def jd (e:Nat→Option Nat) (n k:Nat):List T:=(List.range n).map fun j=>match e j with
 | some m=>if m < k then .int (m:Int) else .bb
 | none=>.bb
theorem mG (f n k):(tab f n k).length=n:=by simp [tab]
theorem xR (f n k):(jd f n k).length=n:=by simp [jd]
theorem xS (f n):tab f n 0=List.replicate n .bb:=by
 unfold tab
 rw [List.eq_replicate_iff]
 exact ⟨by simp,fun x hx=>by simp at hx; exact hx.2.symm⟩
theorem CB (f n):jd f n 0=List.replicate n .bb:=by
 unfold jd
 rw [List.eq_replicate_iff]
 refine ⟨by simp,fun x hx=>?_⟩
 obtain ⟨j,_,rfl⟩:=Bp.mp hx
 split <;> simp
theorem pL {f:Nat→Option Nat} {n k:Nat}:(tab f n k).set k (oT (f k))=tab f n (k+1):=by
 refine List.ext_getElem? fun i=>?_
 rw [List.getElem?_set,mG]
 unfold tab
 rw [lj,lj]
 by_cases hi:i < n
 · rw [List.getElem?_range hi]
   by_cases e:k=i
   · subst e; rw [if_pos rfl,if_pos hi]; simp
   · rw [if_neg e]
     simp only [PB]
     by_cases l:i < k
     · rw [if_pos l,if_pos (by omega)]
     · rw [if_neg l,if_neg (by omega)]
 · rw [List.getElem?_eq_none (by simp; omega)]
   split
   · rw [if_neg (by omega)]; rfl
   · rfl
theorem xT {f:Nat→Option Nat} {n k:Nat} (h:f k=none):tab f n k=tab f n (k+1):=by
 unfold tab
 refine Tq fun i _=>?_
 by_cases e:i=k
 · subst e; rw [if_neg (Dq _),if_pos (GR _),h]; rfl
 · by_cases l:i < k
   · rw [if_pos l,if_pos (by omega)]
   · rw [if_neg l,if_neg (by omega)]
theorem xU (f n):tab f n n=(List.range n).map fun i=>oT (f i):=by
 unfold tab
 exact Tq fun i hi=>by rw [if_pos (Dp.mp hi)]
theorem F3 {e:Nat→Option Nat} {n k j:Nat} (h:e j=some k) (u:∀ i,i < n→e i=some k→i=j):(jd e n k).set j (.int (k:Int))=jd e n (k+1):=by
 refine List.ext_getElem? fun i=>?_
 rw [List.getElem?_set,xR]
 unfold jd
 rw [lj,lj]
 by_cases hi:i < n
 · rw [List.getElem?_range hi]
   by_cases q:j=i
   · subst q; rw [if_pos rfl,if_pos hi]; simp [h]
   · rw [if_neg q]
     simp only [PB]
     cases r:e i with
     | none=>rfl
     | some m =>
       have:m≠k:=fun z=>q (u i hi (by rw [r,z])).symm
       simp only
       by_cases l:m < k
       · rw [if_pos l,if_pos (by omega)]
       · rw [if_neg l,if_neg (by omega)]
 · rw [List.getElem?_eq_none (by simp; omega)]
   split
   · rw [if_neg (by omega)]; rfl
   · rfl
theorem CC {e:Nat→Option Nat} {n k:Nat} (u:∀ i,i < n→e i≠some k):jd e n k=jd e n (k+1):=by
 unfold jd
 refine Tq fun i hi=>?_
 cases r:e i with
 | none=>rfl
 | some m =>
   have:m≠k:=fun z=>u i (Dp.mp hi) (by rw [r,z])
   simp only
   by_cases l:m < k
   · rw [if_pos l,if_pos (by omega)]
   · rw [if_neg l,if_neg (by omega)]
theorem CD {e:Nat→Option Nat} {n:Nat} (h:∀ j m,j < n→e j=some m→m < n):jd e n n=(List.range n).map fun i=>oT (e i):=by
 unfold jd
 refine Tq fun i hi=>?_
 cases r:e i with
 | none=>rfl
 | some m=>simp only; rw [if_pos (h i m (Dp.mp hi) r)]; rfl
section
variable (kd:Nat→Kd)
def JL (k:Nat):Option Nat:=(st kd k).getLast?
def zQ (k:Nat):Option Nat:=if (kd k).df=true then some k else (st kd k).head?
def Bn (n:Nat):Nat→List T
 | 0=>List.replicate n .bb
 | k+1=>match (kd k).el,JL kd k with
   | true,some h=>(Bn n k).set h (.int (k:Int))
   | _,_=>Bn n k
end
theorem pM (kd n):∀ k,(Bn kd n k).length=n
 | 0=>by simp [Bn]
 | k+1=>by
   simp only [Bn]
   split
   · rw [Kk]; exact pM kd n k
   · exact pM kd n k
def F4 (rs:List Rw):List T:=[.lst ((List.range rs.length).map fun i=>oT (JL (e8 rs) i)),.lst ((List.range rs.length).map fun i=>oT (endsAt (e8 rs) rs.length i)),.lst (Bn (e8 rs) rs.length rs.length),.lst ((List.range rs.length).map fun i=>oT (zQ (e8 rs) i))]
theorem F5 (rs:List Rw):jz (rs.map aU)=(rs.zipIdx).map fun p=>.tup [.int (p.2:Int),aU p.1]:=by
 unfold jz
 refine List.ext_getElem? fun i=>?_
 rw [List.getElem?_mapIdx,lj,lj,List.getElem?_zipIdx]
 cases rs[i]? <;> simp
end K5
namespace Sa
open PySem L2 VT Gen K5
def top (i:Nat):Stmt:=PySem.Challenge.pw_slicewise_k19_whole_programs_judged.main.body.getD i (.Pass ⟨0,0,0,0⟩)
abbrev mI:Stmt:=top 39
structure YY (K:PySem.W.Frag) (mg:Str→Option Value):Prop where
 len:mg "len" = none
 range:mg "range" = none
 enumerate:mg "enumerate" = none
 isinstance:mg "isinstance" = none
 int:mg "int" = none
 bool:mg "bool" = none
 tuple:mg "tuple" = none
 list:mg "list" = none
 zip:mg "zip" = none
 CL:∃ a,mg "CLOSERS" = some (.ref a)∧∀ H,dY K H a [.str "give",.str "end"]
 OP:∃ a,mg "OPENERS" = some (.ref a)∧∀ H,dY K H a [.str "def",.str "if",.str "while"]
def F6 (ts:List T) (q:List T→Prop):Prop:=∃ rs:List Rw,ts=[.lst (rs.map aU)]∧YX rs∧rs.length≤100∧q (F4 rs)
theorem lL {l:List T} {t:T} (h:l.getLast?=some t):k9 l (-1)=some t:=by
 have hl:0 < l.length:=by cases l <;> simp_all
 rw [Tg] at h
 unfold k9 vU
 rw [if_neg (by decide),if_pos (by omega)]
 have e:(-1+(l.length:Int)).toNat=l.length - 1:=by omega
 rw [e]
 exact h
theorem F7 (kd:Nat→Kd):∀ k,(st kd k).length≤k
 | 0=>cZ _
 | k+1=>by
   have:=F7 kd k
   simp only [st]
   split <;> split <;> simp <;> omega
theorem oZ {n:Nat} (h:n≤1000):n≤sizeLine:=small h
theorem JM (n:Nat) (t:T):(List.replicate n [t]).flatten=List.replicate n t:=by
 induction n with
 | zero=>rfl
 | succ n ih=>rw [C5,LB,ih]; rfl
def F8 (rs:List Rw) (h e l o s:List T) (k:Nat) (r:Rw):En:=[some (.lst (rs.map aU),false),some (.lst h,true),some (.lst e,true),some (.lst l,true),some (.lst o,true),some (.lst s,true),some (.int (k:Int),false),some (aU r,false)]
def vF (rs:List Rw) (k:Nat):List T:=(st (e8 rs) k).map fun (j:Nat)=>T.int (j:Int)
def Sb (rs:List Rw) (k:Nat) (ρ:En):Prop:=∃ b6 b7 h e l o s,ρ=[some (.lst (rs.map aU),false),some (.lst h,true),some (.lst e,true),some (.lst l,true),some (.lst o,true),some (.lst s,true),b6,b7]∧h=tab (JL (e8 rs)) rs.length k∧e=jd (endsAt (e8 rs) rs.length) rs.length k∧l=Bn (e8 rs) rs.length k∧o=tab (zQ (e8 rs)) rs.length k∧s=vF rs k
def JN (rs:List Rw) (M:Nat→Rw→List T→List T→List T→List T→List T→Prop):FS:=fun d ρ=>∃ k r h e l o s,rs[k]?=some r∧ρ=F8 rs h e l o s k r∧h=tab (JL (e8 rs)) rs.length (k+1)∧M k r h e l o s∧∀ ρ',Sb rs (k+1) ρ'→d.nx ρ'
def M1 (rs:List Rw) (k:Nat) (r:Rw) (h e l o s:List T):Prop:=e=jd (endsAt (e8 rs) rs.length) rs.length k∧l=Bn (e8 rs) rs.length k∧s=vF rs k∧o.length=rs.length∧((bp r).df=true→o.set k (.int (k:Int))=tab (zQ (e8 rs)) rs.length (k+1))∧((bp r).df=false→o=tab (zQ (e8 rs)) rs.length (k+1))
def M2 (rs:List Rw) (k:Nat) (r:Rw) (h e l o s:List T):Prop:=e=jd (endsAt (e8 rs) rs.length) rs.length k∧l=Bn (e8 rs) rs.length k∧s=vF rs k∧o=tab (zQ (e8 rs)) rs.length (k+1)
def M3 (rs:List Rw) (k:Nat) (r:Rw) (h e l o s:List T):Prop:=e=jd (endsAt (e8 rs) rs.length) rs.length k∧l=Bn (e8 rs) rs.length (k+1)∧s=vF rs k∧o=tab (zQ (e8 rs)) rs.length (k+1)
def M4 (rs:List Rw) (k:Nat) (r:Rw) (h e l o s:List T):Prop:=e=jd (endsAt (e8 rs) rs.length) rs.length (k+1)∧l=Bn (e8 rs) rs.length (k+1)∧o=tab (zQ (e8 rs)) rs.length (k+1)∧s=(if (bp r).cl=true then (vF rs k).dropLast else vF rs k)
theorem rD {n k:Nat} (h:k < n):vU n (k:Int)=some k:=by
 unfold vU
 rw [if_pos (by omega),if_pos (by omega),Dl]
theorem vG {rs:List Rw} {k:Nat} (h:st (e8 rs) k≠[]):∃ j,(st (e8 rs) k).getLast?=some j∧k9 (vF rs k) (-1)=some (.int (j:Int)):=by
 obtain ⟨j,hj⟩:∃ j,(st (e8 rs) k).getLast?=some j:=⟨_,List.getLast?_eq_some_getLast h⟩
 exact ⟨j,hj,lL (by unfold vF; rw [List.getLast?_map,hj]; rfl)⟩
section
variable {P:Program} {w:World} {K:PySem.W.Frag} {mg:Str→Option Value} {base:Heap}
abbrev vH:List Str:=["program","heads","ends","elses","homes","opened","place","row"]
theorem xV:aH vH ["program"] (aj mI):=L2.gE
theorem F9 {f:Addr} {fd:FuncData} (D:Df K mg "shape" mI ["program"] f fd) (M:YY K mg):b_ P w K mg base "shape" ["program"] 1 (RG K 1 F6):=by
 refine D.jA (fnD D.F xV rfl (by decide) fun bw A outer s H E Ox hr ts q hG=>?_)
 have nd:=xV.nd
 have hu:=bj.fP hr
 have np:∀ {i:Nat},aZ ⟨H,[],Ox⟩ i:=j5
 obtain ⟨ac,mc,hac⟩:=M.CL
 obtain ⟨ao,mo,hao⟩:=M.OP
 have nY:∀ {pos},VP (dy ip P w K mg base vH "shape" (aj mI) f bw A outer s H E).ng ⟨H,[],Ox⟩ (.Name "CLOSERS" pos) (fC (.tup [.str "give",.str "end"])):=dv (by rfl) mc (v:=.ref ac) rfl fun H A=>bu (hac H) (aI.cons bF (aI.cons bF aI.nil))
 have nX:∀ {pos},VP (dy ip P w K mg base vH "shape" (aj mI) f bw A outer s H E).ng ⟨H,[],Ox⟩ (.Name "OPENERS" pos) (fC (.tup [.str "def",.str "if",.str "while"])):=dv (by rfl) mo (v:=.ref ao) rfl fun H A=>bu (hao H) (aI.cons bF (aI.cons bF (aI.cons bF aI.nil)))
 obtain ⟨rs,rfl,W,hn,hq⟩:=hG
 refine ⟨_,(hX (cY (i:=1) nd rfl (Or.inl rfl) (VP.vx (qo (bt (ae (VP.ve cJ) ak)) (VP.vr (aE aB aD (by rfl) M.len gC (aq (aa 0) ay))))) np)
   (hX (cY (i:=2) nd rfl (Or.inl rfl) (VP.vx (qo (bt (ae (VP.ve cJ) ak)) (VP.vr (aE aB aD (by rfl) M.len gC (aq (aa 0) ay))))) np)
   (hX (cY (i:=3) nd rfl (Or.inl rfl) (VP.vx (qo (bt (ae (VP.ve cJ) ak)) (VP.vr (aE aB aD (by rfl) M.len gC (aq (aa 0) ay))))) np)
   (hX (cY (i:=4) nd rfl (Or.inl rfl) (VP.vx (qo (bt (ae (VP.ve cJ) ak)) (VP.vr (aE aB aD (by rfl) M.len gC (aq (aa 0) ay))))) np)
   (hX (cY (i:=5) nd rfl (Or.inl rfl) (VP.vx (bt ak)) np)
   (hX (dM Dn rfl (gw (by rfl) M.enumerate (aw 0)) (gJ (n:=2) rfl (bo (aW (i:=6) nd rfl (Or.inl rfl) np) (bo (aW (i:=7) nd rfl (Or.inl rfl) np) eU)))
     (af (aJ (i5 (VP.vr (aE aB aD (by rfl) M.len gC (aq (aa 5) ay))) (VP.vr ag))
       (af (jw 1 (VP.ve (aG (aa 5) (VP.vr (d9 (VP.vr ag))))) (aa 6))
       (ah (jw 4 (VP.ve (aG (aa 5) (VP.vr ag))) (aa 6))))
       au)
     (lU.weak (u:=(JN rs (M1 rs))) (af (aJ (bc hu (VP.vr (aG (aa 7) (VP.vr ag))) (VP.vr ai))
       (ah (jw 4 (aw 6) (aa 6)))
       au)
     (lU.weak (u:=(JN rs (M2 rs))) (af (aJ (bc hu (VP.vr (aG (aa 7) (VP.vr ag))) (VP.vr ai))
       (ah (jw 3 (aw 6) (VP.vr (aG (aa 5) (VP.vr (d9 (VP.vr ag)))))))
       au)
     (lU.weak (u:=(JN rs (M3 rs))) (af (aJ (l8 (VP.vr (aG (aa 7) (VP.vr ag))) (VP.vr nY))
       (af (jw 2 (aw 6) (VP.vr (aG (aa 5) (VP.vr (d9 (VP.vr ag))))))
       (ah (bV (yE 5 PySem.F.slot_list_pop PySem.F.type_list_pop yA uI))))
       au)
     (lU.weak (u:=(JN rs (M4 rs))) (ah (aJ (l8 (VP.vr (aG (aa 7) (VP.vr ag))) (VP.vr nX))
       (ah (bV (tD 5 OK OL d8 ez (ae (aw 6) ak))))
       au)) ?w4)) ?w3)) ?w2)) ?w1)))
   (Ji (is:=[1,2,3,4]) rfl ⟨_,_,1,_,rfl,rfl,rfl,Or.inl rfl,by decide,by decide,rfl,⟨_,_,2,_,rfl,rfl,rfl,Or.inl rfl,by decide,by decide,rfl,⟨_,_,3,_,rfl,rfl,rfl,Or.inl rfl,by decide,by decide,rfl,⟨_,_,4,_,rfl,rfl,rfl,Or.inl rfl,by decide,by decide,rfl,rfl⟩⟩⟩⟩ (by decide) (by decide)))))))),fun _=>?main⟩
 case w4 =>
  rintro d ρ ⟨k,r,h,e,l,o,s,n_,rfl,rfl,⟨rfl,rfl,rfl,rfl⟩,fin⟩
  have CF:k < rs.length:=(e_.mp n_).1
  have oN:=oi n_
  obtain ⟨rl,er⟩:=il r
  unfold F8
  rw [er]
  refine ⟨_,ax (j:=0) rfl,rfl,rfl,?_⟩
  refine kj (fun h1=>?_) (fun h1=>?_)
  · have ho:(bp r).op=true:=by rw [← R']; exact h1
    have hc:(bp r).cl=false:=by have:=W.ex k CF (by rw [oN]; exact ho); rw [oN] at this; exact this
    rw [hc,if_neg lh]
    refine ⟨?_,fin _ ⟨_,_,_,_,_,_,_,rfl,rfl,rfl,rfl,rfl,?_⟩⟩
    · have:=F7 (e8 rs) k
      unfold vF
      rw [cV,sizeLine_eq]
      omega
    · unfold vF
      rw [um (by rw [oN]; exact ho) (by rw [oN]; exact hc),C7]
      rfl
  · have ho:(bp r).op=false:=by
     cases q:(bp r).op with
     | false=>rfl
     | true=>exact (h1 ((R' r).trans q)).elim
    refine fin _ ⟨_,_,_,_,_,_,_,rfl,rfl,rfl,rfl,rfl,?_⟩
    unfold vF
    by_cases hc:(bp r).cl=true
    · rw [if_pos hc,rC (by rw [oN]; exact hc) (by rw [oN]; exact ho),List.map_dropLast]
    · rw [if_neg hc,xQ (by rw [oN]; cases q:(bp r).cl <;> simp_all) (by rw [oN]; exact ho)]
 case w3 =>
  rintro d ρ ⟨k,r,h,e,l,o,s,n_,rfl,rfl,⟨rfl,rfl,rfl,rfl⟩,fin⟩
  have CF:k < rs.length:=(e_.mp n_).1
  have oN:=oi n_
  obtain ⟨rl,er⟩:=il r
  unfold F8
  rw [er]
  refine ⟨_,ax (j:=0) rfl,rfl,rfl,?_⟩
  refine kj (fun h1=>?_) (fun h1=>?_)
  · have hc:(bp r).cl=true:=by rw [← R_]; exact h1
    have rR:(e8 rs k).cl=true:=by rw [oN]; exact hc
    obtain ⟨j,hj,ej⟩:=vG (W.cl k CF rR)
    obtain ⟨te,hjk⟩:=JK W CF rR hj
    refine ⟨_,ej,j,by rw [xR]; exact rD (by omega),rfl,.int (j:Int),?_,k,r,_,_,_,_,_,n_,by rw [← er]; rfl,rfl,⟨?_,rfl,rfl,by rw [if_pos hc]⟩,fin⟩
    · unfold vF
      rw [cV,lj,← Tg,hj]
      rfl
    · refine F3 te fun i hi he=>?_
      have:=(Bm W CF he hi).2
      rw [hj] at this
      exact (Option.some.inj this).symm
  · have hc:(bp r).cl=false:=by
     cases q:(bp r).cl with
     | false=>rfl
     | true=>exact (h1 ((R_ r).trans q)).elim
    refine ⟨k,r,_,_,_,_,_,n_,by rw [← er]; rfl,rfl,⟨CC fun i hi he=>?_,rfl,rfl,by rw [hc,if_neg lh]⟩,fin⟩
    have:=(Bm W CF he hi).1
    rw [oN,hc] at this
    cases this
 case w2 =>
  rintro d ρ ⟨k,r,h,e,l,o,s,n_,rfl,rfl,⟨rfl,rfl,rfl,rfl⟩,fin⟩
  have CF:k < rs.length:=(e_.mp n_).1
  have oN:=oi n_
  obtain ⟨rl,er⟩:=il r
  unfold F8
  rw [er]
  refine ⟨_,ax (j:=0) rfl,?_⟩
  refine kj (fun h1=>?_) (fun h1=>?_)
  · have hc:(bp r).el=true:=by rw [← R9]; exact h1
    have rR:(e8 rs k).el=true:=by rw [oN]; exact hc
    obtain ⟨j,hj,ej⟩:=vG (W.el k CF rR)
    have YR:j < k:=(uo k).2 j (List.mem_of_getLast? hj)
    refine ⟨_,ej,j,by rw [pM]; exact rD (by omega),k,r,_,_,_,_,_,n_,by rw [← er]; rfl,rfl,⟨rfl,?_,rfl,rfl⟩,fin⟩
    simp only [Bn,JL,rR,hj]
  · have hc:(bp r).el=false:=by
     cases q:(bp r).el with
     | false=>rfl
     | true=>exact (h1 ((R9 r).trans q)).elim
    refine ⟨k,r,_,_,_,_,_,n_,by rw [← er]; rfl,rfl,⟨rfl,?_,rfl,rfl⟩,fin⟩
    simp only [Bn,oN,hc]
 case w1 =>
  rintro d ρ ⟨k,r,h,e,l,o,s,n_,rfl,rfl,⟨rfl,rfl,rfl,ol,o1,o2⟩,fin⟩
  have CF:k < rs.length:=(e_.mp n_).1
  obtain ⟨rl,er⟩:=il r
  unfold F8
  rw [er]
  refine ⟨_,ax (j:=0) rfl,?_⟩
  refine kj (fun h1=>?_) (fun h1=>?_)
  · exact ⟨k,by rw [ol]; exact rD CF,k,r,_,_,_,_,_,n_,by rw [← er]; rfl,rfl,⟨rfl,rfl,rfl,o1 (by rw [← R8]; exact h1)⟩,fin⟩
  · have hc:(bp r).df=false:=by
     cases q:(bp r).df with
     | false=>rfl
     | true=>exact (h1 ((R8 r).trans q)).elim
    exact ⟨k,r,_,_,_,_,_,n_,by rw [← er]; rfl,rfl,⟨rfl,rfl,rfl,o2 hc⟩,fin⟩
 case main =>
  have hlen:((rs.map aU).length:Int)=(rs.length:Int):=by rw [cV]
  have Xk:(List.replicate ((rs.map aU).length:Int).toNat [T.bb]).flatten=List.replicate rs.length T.bb:=by
   rw [hlen,Dl]
   exact JM _ _
  have Dg : -(2 ^ 63)≤((rs.map aU).length:Int):=by omega
  have Dh:((rs.map aU).length:Int) < 2 ^ 63:=by omega
  have Uu:[T.bb].length * ((rs.map aU).length:Int).toNat≤sizeLine:=by rw [hlen,Dl,sizeLine_eq]; simp; omega
  refine ⟨oZ (by simp),Dg,Dh,Uu,oZ (by simp),Dg,Dh,Uu,oZ (by simp),Dg,Dh,Uu,oZ (by simp),Dg,Dh,Uu,oZ (by simp),?_⟩
  show tE (jz (rs.map aU)) _ _ _ [some (.lst (rs.map aU),false),some (.lst (List.replicate ((rs.map aU).length:Int).toNat [T.bb]).flatten,true),some (.lst (List.replicate ((rs.map aU).length:Int).toNat [T.bb]).flatten,true),some (.lst (List.replicate ((rs.map aU).length:Int).toNat [T.bb]).flatten,true),some (.lst (List.replicate ((rs.map aU).length:Int).toNat [T.bb]).flatten,true),some (.lst [],true),none,none]
  rw [F5,Xk]
  refine wO (Sb rs)
   ⟨_,_,_,_,_,_,_,rfl,(xS _ _).symm,(CB _ _).symm,rfl,(xS _ _).symm,rfl⟩ ?_ ?_
  · rintro k ⟨r,k'⟩ ρ hk ⟨b6,b7,_,_,_,_,_,rfl,rfl,rfl,rfl,rfl,rfl⟩
    rw [List.getElem?_zipIdx] at hk
    cases n_:rs[k]? with
    | none=>rw [n_] at hk; cases hk
    | some r' =>
    rw [n_] at hk
    simp at hk
    obtain ⟨rfl,rfl⟩:=hk
    have CF:k < rs.length:=(e_.mp n_).1
    obtain ⟨rl,er⟩:=il r'
    refine ⟨rfl,rfl,?_⟩
    show QN _ _ _ [some (.lst (rs.map aU),false),some (.lst (tab (JL (e8 rs)) rs.length k),true),some (.lst (jd (endsAt (e8 rs) rs.length) rs.length k),true),some (.lst (Bn (e8 rs) rs.length k),true),some (.lst (tab (zQ (e8 rs)) rs.length k),true),some (.lst (vF rs k),true),some (.int (k:Int),false),some (aU r',false)]
    rw [er]
    have oN:=oi n_
    refine cj (fun h1=>?_) (fun h1=>?_)
    · have k_:st (e8 rs) k≠[]:=fun z=>by
       have M_:((vF rs k).length:Int) > 0:=h1
       unfold vF at M_
       rw [z] at M_
       simp at M_
      obtain ⟨j,hj,ej⟩:=vG k_
      obtain ⟨j0,YZ⟩:∃ j0,(st (e8 rs) k).head?=some j0:=⟨_,List.head?_eq_some_head k_⟩
      have ej0:k9 (vF rs k) 0=some (.int (j0:Int)):=ax (j:=0) (by unfold vF; rw [lj,← List.head?_eq_getElem?,YZ]; rfl)
      refine ⟨_,ej,k,by rw [mG]; exact rD CF,_,ej0,k,by rw [mG]; exact rD CF,k,r',_,_,_,_,_,n_,by rw [← er]; rfl,?_,⟨rfl,rfl,rfl,by rw [Kk,mG],fun hd=>?_,fun hd=>?_⟩,fun ρ' h=>h⟩
      · have e1:T.int (j:Int)=oT (JL (e8 rs) k):=by unfold JL; rw [hj]; rfl
        rw [e1]; exact pL
      · rw [List.set_set]
        have e1:T.int (k:Int)=oT (zQ (e8 rs) k):=by unfold zQ; rw [oN,if_pos hd]; rfl
        rw [e1]; exact pL
      · have e1:T.int (j0:Int)=oT (zQ (e8 rs) k):=by unfold zQ; rw [oN,hd,if_neg lh,YZ]; rfl
        rw [e1]; exact pL
    · have k_:st (e8 rs) k=[]:=by
       cases q:st (e8 rs) k with
       | nil=>rfl
       | cons a b =>
         exfalso
         refine h1 ?_
         show ((vF rs k).length:Int) > 0
         unfold vF
         rw [q]
         simp
      refine ⟨k,r',_,_,_,_,_,n_,by rw [← er]; rfl,xT (by unfold JL; rw [k_]; rfl),⟨rfl,rfl,rfl,by rw [mG],fun hd=>?_,fun hd=>?_⟩,fun ρ' h=>h⟩
      · have e1:T.int (k:Int)=oT (zQ (e8 rs) k):=by unfold zQ; rw [oN,if_pos hd]; rfl
        rw [e1]; exact pL
      · exact xT (by unfold zQ; rw [oN,hd,if_neg lh,k_]; rfl)
  · rintro ρ ⟨b6,b7,_,_,_,_,_,rfl,rfl,rfl,rfl,rfl,rfl⟩
    rw [List.length_zipIdx,xU,xU,CD]
    · exact hq
    · intro j m hj he
      unfold endsAt at he
      split at he
      · rename_i ho
        obtain ⟨e,h1,h2,h3,_⟩:=end_is W hj ho
        rw [h1] at he
        cases he
        exact h3
      · cases he
end
end Sa
namespace K5
open PySem L2 VT Gen
def dr:Nat→List Rw→Option Nat
 | d,[]=>some d
 | d,r :: rs=>if (bp r).cl=true then (if d=0 then none else dr (d - 1) rs) else if (bp r).el=true then (if d=0 then none else dr d rs) else if (bp r).op=true then dr (d+1) rs else dr d rs
theorem k7:∀ (a b:List Rw) (d:Nat),dr d (a ++ b)=(dr d a).bind fun e=>dr e b
 | [],b,d=>rfl
 | r :: a,b,d=>by
   simp only [Tv,dr]
   split
   · split
     · rfl
     · exact k7 a b _
   · split
     · split
       · rfl
       · exact k7 a b _
     · split
       · exact k7 a b _
       · exact k7 a b _
theorem Ob (rs:List Rw) {k:Nat} {r:Rw} (h:rs[k]?=some r):(st (e8 rs) (k+1)).length=(if (bp r).cl=true then (st (e8 rs) k).length - 1 else if (bp r).op=true then (st (e8 rs) k).length+1 else (st (e8 rs) k).length):=by
 have oN:=oi h
 by_cases hc:(bp r).cl=true
 · have ho:(bp r).op=false:=by cases r <;> first | rfl | (cases hc)
   rw [if_pos hc,rC (by rw [oN]; exact hc) (by rw [oN]; exact ho),Dk]
 · have rR:(bp r).cl=false:=by cases q:(bp r).cl <;> simp_all
   rw [if_neg hc]
   by_cases ho:(bp r).op=true
   · rw [if_pos ho,um (by rw [oN]; exact ho) (by rw [oN]; exact rR)]; simp
   · rw [if_neg ho,xQ (by rw [oN]; exact rR) (by rw [oN]; cases q:(bp r).op <;> simp_all)]
theorem pN {rs:List Rw} (h:dr 0 rs=some 0):∀ k,k≤rs.length→dr 0 (rs.take k)=some (st (e8 rs) k).length
 | 0,_=>rfl
 | k+1,hk=>by
   have ih:=pN h k (by omega)
   have e:rs[k]?=some rs[k]:=by simp
   have et:rs.take (k+1)=rs.take k ++ [rs[k]]:=by rw [List.take_succ,e]; rfl
   have hs:(dr 0 (rs.take (k+1))).isSome=true:=by
    rw [← List.take_append_drop (k+1) rs,k7] at h
    cases q:dr 0 (rs.take (k+1)) with
    | some _=>rfl
    | none=>rw [q] at h; cases h
   rw [et,k7,ih,Kj] at hs ⊢
   rw [Ob rs e]
   simp only [dr] at hs ⊢
   by_cases hc:(bp rs[k]).cl=true
   · rw [if_pos hc,if_pos hc] at *
     by_cases z:(st (e8 rs) k).length=0
     · rw [if_pos z] at hs; cases hs
     · rw [if_neg z]
   · rw [if_neg hc,if_neg hc] at *
     by_cases hl:(bp rs[k]).el=true
     · have ho:¬ (bp rs[k]).op=true:=by
        generalize rs[k]=r at hl
        cases r <;> first | (cases hl; done) | (intro z; cases z)
       rw [if_pos hl,if_neg ho] at *
       by_cases z:(st (e8 rs) k).length=0
       · rw [if_pos z] at hs; cases hs
       · rw [if_neg z]
     · rw [if_neg hl] at *
       split <;> rfl
theorem Sd {rs:List Rw} (h:dr 0 rs=some 0):YX rs:=by
 have at':∀ {k:Nat},k < rs.length→∃ r,rs[k]?=some r∧e8 rs k=bp r:=fun {k} hk=>⟨rs[k],by simp,oi (by simp)⟩
 have step:∀ {k:Nat} {r:Rw},rs[k]?=some r→(bp r).cl=true∨(bp r).el=true→st (e8 rs) k≠[]:=fun {k r} hr AG z=>by
  have hk:k < rs.length:=(e_.mp hr).1
  have h1:=pN h k (by omega)
  have h2:=pN h (k+1) (by omega)
  have et:rs.take (k+1)=rs.take k ++ [r]:=by rw [List.take_succ,hr]; rfl
  rw [et,k7,h1,Kj,z] at h2
  simp only [dr,PC] at h2
  rcases AG with q | q
  · rw [if_pos q,if_pos True.intro] at h2; cases h2
  · by_cases q2:(bp r).cl=true
    · rw [if_pos q2,if_pos True.intro] at h2; cases h2
    · rw [if_neg q2,if_pos q,if_pos True.intro] at h2; cases h2
 refine ⟨fun k hk ho=>?_,fun k hk hc=>?_,fun k hk hc=>?_,fun k hk hc=>?_,fun k hk hc=>?_,?_⟩
 · obtain ⟨r,hr,e⟩:=at' hk
   rw [e] at ho ⊢
   cases r <;> first | rfl | (cases ho)
 · obtain ⟨r,hr,e⟩:=at' hk
   exact step hr (.inl (by rw [← e]; exact hc))
 · obtain ⟨r,hr,e⟩:=at' hk
   exact step hr (.inr (by rw [← e]; exact hc))
 · obtain ⟨r,hr,e⟩:=at' hk
   rw [e] at hc ⊢
   cases r <;> first | exact ⟨rfl,rfl⟩ | (cases hc)
 · obtain ⟨r,hr,e⟩:=at' hk
   rw [e] at hc ⊢
   cases r <;> first | rfl | (cases hc)
 · have:=pN h rs.length (cZ _)
   rw [List.take_length,h] at this
   exact OM.mp (Option.some.inj this).symm
end K5
namespace dX
open PySem L2 VT Gen wm
open fJ (xm cW Part jC bP gc mi bR dG B1 xg B3 B2 strsOf EM za dB)
open Jp (RT RP cX)
theorem gS {t:T} (h:bR t=true):∃ x,t = .str x:=by
 cases t with
 | str x=>exact ⟨x,rfl⟩
 | _=>cases h
theorem jX {t:T} (hp:Part t) (h:dG t=true):∃ o,t=tV o:=by
 rcases hp with (⟨x,rfl,_⟩ | ⟨i,rfl⟩) | ⟨l,rfl,_,_⟩
 · exact ⟨.nm x,rfl⟩
 · exact ⟨.nu i,rfl⟩
 · cases h
theorem F_ {t:T} (hp:Part t) (h:xg t=true):∃ k,t=Rk k:=by
 rcases hp with (⟨x,rfl,_⟩ | ⟨i,rfl⟩) | ⟨l,rfl,_,_⟩
 · exact ⟨.op (.nm x),rfl⟩
 · exact ⟨.op (.nu i),rfl⟩
 · cases h
theorem Oc {t:T} (hp:Part t) (h:B1 t=true):∃ x,t = .str x:=by
 rcases hp with (⟨x,rfl,_⟩ | ⟨i,rfl⟩) | ⟨l,rfl,_,_⟩
 · exact ⟨x,rfl⟩
 · cases h
 · cases h
theorem F' {t:T} (h:B3 t=true):∃ ps:List Str,t = .tup (ps.map .str):=by
 cases t with
 | tup l =>
   have h':((decide (l.length≤4) && l.all dG) && (l.all bR && decide ((once (strsOf l)).length=l.length)))=true:=h
   rw [gT,gT (l.all bR)] at h'
   exact ⟨strsOf l,by rw [← dB h'.2.1]⟩
 | _=>cases h
theorem Ga {t:T} (hp:Part t) (h:B2 t=true):∃ as:List tU,t = .tup (as.map tV):=by
 rcases hp with (⟨x,rfl,_⟩ | ⟨i,rfl⟩) | ⟨l,rfl,hlen,hl⟩
 · cases h
 · cases h
 · clear hlen
   have h':(decide (l.length≤4) && l.all dG)=true:=h
   rw [gT] at h'
   have h2:=h'.2
   clear h h'
   suffices H:∃ as:List tU,l=as.map tV by
    obtain ⟨as,e⟩:=H
    exact ⟨as,by rw [e]⟩
   induction l with
   | nil=>exact ⟨[],rfl⟩
   | cons t l ih =>
     rw [Km,gT] at h2
     obtain ⟨o,rfl⟩:=jX (.inl (hl t gq)) h2.1
     obtain ⟨as,rfl⟩:=ih (fun u hu=>hl u (i_ _ hu)) h2.2
     exact ⟨o :: as,rfl⟩
theorem mJ {ps:List T} (h:(decide (ps.length=0) && (List.zipWith mi [] ps).all id)=true):ps=[]:=by
 rw [gT,decide_eq_true_eq] at h
 exact OM.mp h.1
theorem gp {s:fJ.So} {ss:List fJ.So} {ps:List T} (h:(decide (ps.length=(s :: ss).length) && (List.zipWith mi (s :: ss) ps).all id)=true):∃ p Ry,ps=p :: Ry∧mi s p=true∧(decide (Ry.length=ss.length) && (List.zipWith mi ss Ry).all id)=true:=by
 cases ps with
 | nil=>cases h
 | cons p ps =>
   rw [gT,decide_eq_true_eq,List.zipWith_cons_cons,Km,gT] at h
   exact ⟨p,ps,rfl,h.2.1,by rw [gT,decide_eq_true_eq]; exact ⟨by simpa using h.1,h.2.2⟩⟩
theorem cz {k x:Str} {a ss:List fJ.So} {l:List (Str×List fJ.So)} (h:bP ((k,a) :: l) x=some ss):(k=x∧a=ss)∨bP l x=some ss:=by
 unfold bP at h
 split at h
 · rename_i e
   exact .inl ⟨e,Option.some.inj h⟩
 · exact .inr h
theorem Gb {t:T} (hR:RT t) (h:RP t=true):∃ r,t=aU r:=by
 obtain ⟨x,ps,rfl,_,hP⟩:=hR
 have hg:cW x ps=true:=h
 unfold cW at hg
 cases hf:bP gc x with
 | none=>rw [hf] at hg; cases hg
 | some ss =>
   rw [hf] at hg
   dsimp only at hg
   have m0:∀ {p:T} {l:List T},(∀ q∈p :: l,Part q)→Part p:=fun h=>h _ gq
   have m1:∀ {p:T} {l:List T},(∀ q∈p :: l,Part q)→∀ q∈l,Part q:=fun h q hq=>h q (i_ _ hq)
   rcases cz hf with ⟨rfl,rfl⟩ | hf
   · skip
     obtain ⟨p1,l1,rfl,f1,hg⟩:=gp hg
     obtain ⟨p2,l2,rfl,f2,hg⟩:=gp hg
     have:=mJ hg; subst this
     obtain ⟨y,rfl⟩:=gS f1
     obtain ⟨qs,rfl⟩:=F' f2
     exact ⟨.df y qs,rfl⟩
   rcases cz hf with ⟨rfl,rfl⟩ | hf
   · skip
     obtain ⟨p1,l1,rfl,f1,hg⟩:=gp hg
     have:=mJ hg; subst this
     obtain ⟨o,rfl⟩:=jX (m0 hP) f1
     exact ⟨.give o,rfl⟩
   rcases cz hf with ⟨rfl,rfl⟩ | hf
   · skip
     obtain ⟨p1,l1,rfl,f1,hg⟩:=gp hg
     obtain ⟨p2,l2,rfl,f2,hg⟩:=gp hg
     have:=mJ hg; subst this
     obtain ⟨y,rfl⟩:=gS f1
     obtain ⟨o,rfl⟩:=jX (m0 (m1 hP)) f2
     exact ⟨.put y o,rfl⟩
   rcases cz hf with ⟨rfl,rfl⟩ | hf
   · skip
     obtain ⟨p1,l1,rfl,f1,hg⟩:=gp hg
     obtain ⟨p2,l2,rfl,f2,hg⟩:=gp hg
     obtain ⟨p3,l3,rfl,f3,hg⟩:=gp hg
     obtain ⟨p4,l4,rfl,f4,hg⟩:=gp hg
     have:=mJ hg; subst this
     obtain ⟨y,rfl⟩:=gS f1
     obtain ⟨o,rfl⟩:=jX (m0 (m1 hP)) f2
     obtain ⟨z,rfl⟩:=Oc (m0 (m1 (m1 hP))) f3
     obtain ⟨o2,rfl⟩:=jX (m0 (m1 (m1 (m1 hP)))) f4
     exact ⟨.Uc y o z o2,rfl⟩
   rcases cz hf with ⟨rfl,rfl⟩ | hf
   · skip
     obtain ⟨p1,l1,rfl,f1,hg⟩:=gp hg
     have:=mJ hg; subst this
     obtain ⟨y,rfl⟩:=gS f1
     exact ⟨.new y,rfl⟩
   rcases cz hf with ⟨rfl,rfl⟩ | hf
   · skip
     obtain ⟨p1,l1,rfl,f1,hg⟩:=gp hg
     obtain ⟨p2,l2,rfl,f2,hg⟩:=gp hg
     obtain ⟨p3,l3,rfl,f3,hg⟩:=gp hg
     have:=mJ hg; subst this
     obtain ⟨y,rfl⟩:=gS f1
     obtain ⟨z,rfl⟩:=gS f2
     obtain ⟨k,rfl⟩:=F_ (m0 (m1 (m1 hP))) f3
     exact ⟨.get y z k,rfl⟩
   rcases cz hf with ⟨rfl,rfl⟩ | hf
   · skip
     obtain ⟨p1,l1,rfl,f1,hg⟩:=gp hg
     obtain ⟨p2,l2,rfl,f2,hg⟩:=gp hg
     obtain ⟨p3,l3,rfl,f3,hg⟩:=gp hg
     have:=mJ hg; subst this
     obtain ⟨y,rfl⟩:=gS f1
     obtain ⟨k,rfl⟩:=F_ (m0 (m1 hP)) f2
     obtain ⟨o,rfl⟩:=jX (m0 (m1 (m1 hP))) f3
     exact ⟨.set y k o,rfl⟩
   rcases cz hf with ⟨rfl,rfl⟩ | hf
   · skip
     obtain ⟨p1,l1,rfl,f1,hg⟩:=gp hg
     obtain ⟨p2,l2,rfl,f2,hg⟩:=gp hg
     obtain ⟨p3,l3,rfl,f3,hg⟩:=gp hg
     have:=mJ hg; subst this
     obtain ⟨y,rfl⟩:=gS f1
     obtain ⟨z,rfl⟩:=gS f2
     obtain ⟨as,rfl⟩:=Ga (m0 (m1 (m1 hP))) f3
     exact ⟨.call y z as,rfl⟩
   rcases cz hf with ⟨rfl,rfl⟩ | hf
   · skip
     obtain ⟨p1,l1,rfl,f1,hg⟩:=gp hg
     have:=mJ hg; subst this
     obtain ⟨y,rfl⟩:=gS f1
     exact ⟨.fail y,rfl⟩
   rcases cz hf with ⟨rfl,rfl⟩ | hf
   · skip
     obtain ⟨p1,l1,rfl,f1,hg⟩:=gp hg
     have:=mJ hg; subst this
     obtain ⟨o,rfl⟩:=jX (m0 hP) f1
     exact ⟨.O_ o,rfl⟩
   rcases cz hf with ⟨rfl,rfl⟩ | hf
   · skip
     have:=mJ hg; subst this
     exact ⟨.Pa,rfl⟩
   rcases cz hf with ⟨rfl,rfl⟩ | hf
   · skip
     obtain ⟨p1,l1,rfl,f1,hg⟩:=gp hg
     have:=mJ hg; subst this
     obtain ⟨o,rfl⟩:=jX (m0 hP) f1
     exact ⟨.Pb o,rfl⟩
   rcases cz hf with ⟨rfl,rfl⟩ | hf
   · skip
     have:=mJ hg; subst this
     exact ⟨.fin,rfl⟩
   rcases cz hf with ⟨rfl,rfl⟩ | hf
   · skip
     have:=mJ hg; subst this
     exact ⟨.skip,rfl⟩
   cases hf
theorem uq:∀ (xs:List T) (i:Nat),(∀ x∈xs,RT x)→cX xs i=none→∃ rs:List Rw,xs=rs.map aU
 | [],_,_,_=>⟨[],rfl⟩
 | t :: xs,i,hR,h=>by
   unfold cX at h
   split at h
   · rename_i ht
     obtain ⟨r,rfl⟩:=Gb (hR t gq) ht
     obtain ⟨rs,rfl⟩:=uq xs (i+1) (fun u hu=>hR u (i_ _ hu)) h
     exact ⟨r :: rs,rfl⟩
   · cases h
theorem Gd:∀ (rs:List Rw) (st:List Str) (i:Nat),brk st rs i=none→K5.dr st.length rs=some 0
 | [],st,i,h=>by
   unfold brk at h
   split at h
   · rename_i e; subst e; rfl
   · cases h
 | r :: rs,st,i,h=>by
   unfold brk at h
   split at h
   · rename_i hm
     have ih:=Gd rs _ _ h
     rcases Tp st with e | ⟨s0,y,e⟩
     · subst e
       cases r with
       | df f ps=>exact ih
       | skip=>exact ih
       | _=>exact Bool.noConfusion (show false=true from hm)
     · rw [XT] at e
       subst e
       have hl:(s0 ++ [y]).length=s0.length+1:=by simp
       cases r with
       | df f ps =>
         exfalso
         have h2:fD (s0 ++ [y]) "def" = true:=hm
         unfold fD at h2
         rw [List.getLast?_concat] at h2
         have h3:(!decide (("def" : Str)="def"))=true:=h2
         exact absurd h3 (by decide +kernel)
       | give a =>
         have zR:K5.dr (iM (s0 ++ [y]) "give").length rs=some 0:=ih
         rw [Fb,Ly] at zR
         show (if (s0 ++ [y]).length=0 then none else K5.dr ((s0 ++ [y]).length - 1) rs)=some 0
         rw [hl,if_neg (by omega),Nat.add_sub_cancel]
         exact zR
       | O_ a =>
         have zR:K5.dr (iM (s0 ++ [y]) "if").length rs=some 0:=ih
         rw [NJ,pP (bs:=[_]),Lw] at zR
         exact zR
       | Pa =>
         have zR:K5.dr (iM (s0 ++ [y]) "else").length rs=some 0:=ih
         rw [Fc,Ly] at zR
         show (if (s0 ++ [y]).length=0 then none else K5.dr (s0 ++ [y]).length rs)=some 0
         rw [hl,if_neg (by omega)]
         rw [pP,Lw] at zR
         exact zR
       | Pb a =>
         have zR:K5.dr (iM (s0 ++ [y]) "while").length rs=some 0:=ih
         rw [B_,pP (bs:=[_]),Lw] at zR
         exact zR
       | fin =>
         have zR:K5.dr (iM (s0 ++ [y]) "end").length rs=some 0:=ih
         rw [IP,Ly] at zR
         show (if (s0 ++ [y]).length=0 then none else K5.dr ((s0 ++ [y]).length - 1) rs)=some 0
         rw [hl,if_neg (by omega),Nat.add_sub_cancel]
         exact zR
       | _=>exact ih
   · cases h
theorem Ge {t:T} (h:jC t):mW t=true∧plainT t=true∧dep t≤0:=by
 rcases h with ⟨x,rfl,_⟩ | ⟨i,rfl⟩ <;> exact ⟨rfl,rfl,cZ _⟩
theorem vI {n:Nat}:∀ {l:List T},(∀ t∈l,mW t=true∧plainT t=true∧dep t≤n)→r_ l=true∧bC l=true∧gI l≤n
 | [],_=>⟨rfl,rfl,ph _⟩
 | t :: l,h=>by
   obtain ⟨a,b,c⟩:=h t gq
   obtain ⟨a',b',c'⟩:=vI (l:=l) fun u hu=>h u (i_ _ hu)
   simp only [r_,bC,gI,a,b,a',b',Bool.and_self,true_and]
   omega
theorem Od {t:T} (h:Part t):mW t=true∧plainT t=true∧dep t≤1:=by
 rcases h with h | ⟨l,rfl,_,h⟩
 · obtain ⟨a,b,c⟩:=Ge h
   exact ⟨a,b,by omega⟩
 · obtain ⟨a,b,c⟩:=vI fun u hu=>Ge (h u hu)
   simp only [mW,plainT,dep,a,b,true_and]
   omega
theorem Xl {t:T} (h:RT t):mW t=true∧plainT t=true∧dep t≤2:=by
 obtain ⟨x,ps,rfl,_,h⟩:=h
 obtain ⟨a,b,c⟩:=vI fun u hu=>Od (h u hu)
 simp only [mW,r_,plainT,bC,dep,gI,a,b,Bool.and_self,true_and]
 omega
theorem Se {l:List T} (h:∀ t∈l,RT t):r_ l=true∧plainT (.lst l)=true∧dep (.lst l)≤100:=by
 obtain ⟨a,b,c⟩:=vI fun u hu=>Xl (h u hu)
 simp only [plainT,dep,a,b,true_and]
 omega
def Sf (ts:List T) (q:Rt→Prop):Prop:=∃ xs:List T,ts=[.lst xs]∧xs.length≤200∧(∀ x∈xs,RT x)∧((60 < xs.length∧q (.vw (.tup [.str "great",.int 0])))∨(xs.length≤60∧∃ i:Nat,cX xs 0=some i∧q (.vw (.tup [.str "row",.int (i:Int)])))∨(xs.length≤60∧cX xs 0=none∧∃ rs:List Rw,xs=rs.map aU∧q (.vw (GP.Fy rs))))
def Bo (ts:List T) (q:Rt→Prop):Prop:=∃ xs:List T,ts=[.lst xs]∧xs.length≤200∧(∀ x∈xs,RT x)∧q (.vw (.bl true))
section
variable {P:Program} {w:World} {K:PySem.W.Frag} {mg:Str→Option Value} {base:Heap}
abbrev Sg:List Str:=["_law_rows","_law_at"]
theorem Gf:aH Sg ["_law_rows"] (aj xF):=L2.gE
theorem Oe {f:Addr} {fd:FuncData} (D:Df K mg "_law_due" xF ["_law_rows"] f fd) (M:Lm mg) (zS:b_ P w K mg base "_law_good_row" ["_law_row_here"] 4 (bZ K 1 fJ.va)) (Of:b_ P w K mg base "_law_open" ["_law_rows"] 1 (bZ K 1 Ln)) (zT:b_ P w K mg base "_law_bad_call" ["_law_rows"] 1 (bZ K 1 Lo)):b_ P w K mg base "_law_due" ["_law_rows"] 5 (bZ K 1 Sf):=by
 obtain ⟨Og,Lr,zU,zV,zW,zX⟩:=zS
 obtain ⟨Xm,Uv,Oh,Oi,Oj,Ol⟩:=Of
 obtain ⟨Om,Ls,zY,zZ,z6,z7⟩:=zT
 refine D.jA (ku D.F Gf rfl fun bw A outer s H E Ox hr ts q hG=>?_)
 have nd:=Gf.nd
 have np:∀ {i:Nat},aZ ⟨H,[],Ox⟩ i:=j5
 obtain ⟨xs,rfl,hn,hR,hq⟩:=hG
 refine ⟨_,(af (aJ (i5 (VP.vr (aE aB aD (by rfl) M.len gC (aq (aa 0) ay))) (VP.vr ag))
    (ah (az (VP.vx (aY (ae (VP.ve ai) (ae (VP.ve ag) ak))))))
    au)
   (af (dM Dn rfl (fG (by rfl) M.range (VP.vr (aE aB aD (by rfl) M.len gC (aq (aa 0) ay)))) (aW (i:=1) nd rfl (Or.inl rfl) np)
     (ah (aJ (cf (bY (aT zX (hr.mono (by decide)) (by rfl) zU zV zW (ae (VP.ve (aG (aa 0) (aa 1))) ak))))
       (ah (az (VP.vx (aY (ae (VP.ve ai) (ae (aw 1) ak))))))
       au)))
   (af (a_ (i:=1) nd rfl (Or.inl rfl) (VP.vx (aT Ol (hr.mono (by decide)) (by rfl) Oh Oi Oj (ae (aw 0) ak))) np)
   (af (aJ (wK (aa 1) (VP.vr cJ))
     (ah (az (VP.vx (aY (ae (VP.ve ai) (ae (aw 1) ak))))))
     au)
   (af (a_ (i:=1) nd rfl (Or.inl rfl) (VP.vx (aT z7 (hr.mono (by decide)) (by rfl) zY zZ z6 (ae (aw 0) ak))) np)
   (af (aJ (wK (aa 1) (VP.vr cJ))
     (ah (az (VP.vx (aY (ae (VP.ve ai) (ae (aw 1) ak))))))
     au)
   (ah (az (VP.vx (aY (ae (VP.ve ai) (ae (aw 0) ak)))))))))))),fun _=>?_⟩
 refine cj (fun h=>?_) (fun h=>?_)
 · rcases hq with ⟨h1,hq⟩ | ⟨h1,_⟩ | ⟨h1,_⟩
   · exact ⟨small (by simp),hq⟩
   · omega
   · omega
 · have Uw:xs.length≤60:=by omega
   refine ⟨by omega,by omega,?_⟩
   rw [Dl]
   refine fQ (fun i ρ=>∃ b1:Option (T×Bool),ρ=[some (.lst xs,false),b1]∧cX xs 0=cX (xs.drop i) i) ⟨_,rfl,rfl⟩ ?_ ?_
   · rintro i ρ hi ⟨b1,rfl,hb⟩
     rw [OZ]
     have ht:xs[i]?=some xs[i]:=sR hi
     obtain ⟨x,ps,ex,Ug,Rz⟩:=hR _ (Tu hi)
     rw [vk ht] at hb
     rw [ex] at ht hb
     refine ⟨_,ax ht,rfl,x,ps,rfl,Ug,Rz,?_⟩
     cases hg:cW x ps with
     | true =>
       refine ⟨_,rfl,?_⟩
       rw [hb]
       show (if cW x ps=true then _ else _)=_
       rw [if_pos hg]
     | false =>
       have e2:cX xs 0=some i:=by rw [hb]; show (if cW x ps=true then _ else _)=_; rw [hg]; rfl
       rcases hq with ⟨h1,_⟩ | ⟨_,j,hj,hq⟩ | ⟨_,hj,_⟩
       · omega
       · rw [e2] at hj
         cases hj
         exact ⟨small (by simp),hq⟩
       · rw [e2] at hj; cases hj
   · rintro ρ ⟨b1,rfl,hb⟩
     rw [Pz] at hb
     have e2:cX xs 0=none:=hb
     rcases hq with ⟨h1,_⟩ | ⟨_,j,hj,_⟩ | ⟨_,_,rs,rfl,hq⟩
     · omega
     · rw [e2] at hj; cases hj
     · rw [cV] at Uw
       replace hn:rs.length≤100:=by omega
       refine ⟨rfl,rs,rfl,hn,?_⟩
       unfold GP.Fy at hq
       cases Lh:brk [] rs 0 with
       | some i=>rw [Lh] at hq; exact ⟨small (by simp),hq⟩
       | none =>
         rw [Lh] at hq
         refine ⟨rfl,rs,rfl,hn,?_⟩
         cases hc:gz rs with
         | some i=>rw [hc] at hq; exact ⟨small (by simp),hq⟩
         | none=>rw [hc] at hq; exact ⟨small (by simp),hq⟩
abbrev xW:List Str:=["_law_rows","_law_held","_law_found"]
theorem ur:aH xW ["_law_rows"] (aj jT):=L2.gE
theorem vJ:(xW ++ (["_law_some"]:List Str)).Nodup:=by decide +kernel
theorem CG {f:Addr} {fd:FuncData} (D:Df K mg "_law_judged" jT ["_law_rows"] f fd) (M:Lm mg) (CH:b_ P w K mg base "_law_outcome" ["_law_rows"] 8 (bZ K 1 GP.RU)) (Sh:b_ P w K mg base "_law_due" ["_law_rows"] 5 (bZ K 1 Sf)) (JO:b_ P w K mg base "shape" ["program"] 1 (RG K 1 Sa.F6)):b_ P w K mg base "_law_judged" ["_law_rows"] 9 (bZ K 1 Bo):=by
 obtain ⟨Pl,Oo,CI,CJ,CK,CM⟩:=CH
 obtain ⟨Y0,Xn,Si,Sj,Sk,Sl⟩:=Sh
 obtain ⟨Ux,Sm,JP,JQ,JR,JS⟩:=JO
 refine D.jA (ku D.F ur rfl fun bw A outer s H E Ox hr ts q hG=>?_)
 have nd:=ur.nd
 have hu:=bj.fP hr
 have np:∀ {i:Nat},aZ ⟨H,[],Ox⟩ i:=j5
 obtain ⟨xs,rfl,hn,hR,hq⟩:=hG
 refine ⟨_,(af (a_ (i:=1) nd rfl (Or.inl rfl) (VP.vx (d_ fq iF (by rfl) M.list qp (aq (aa 0) ay))) np)
   (af (a_ (i:=2) nd rfl (Or.inl rfl) (VP.vx (aT CM (hr.mono (by decide)) (by rfl) CI CJ CK (ae (aw 0) ak))) np)
   (af (aJ (VW.vc (dF (gZ hu (aa 2) (VP.vr (aT Sl (hr.mono (by decide)) (by rfl) Si Sj Sk (ae (aw 1) ak)))) (cK (gZ hu (aa 0) (aa 1)))))
     (ah (az (VP.vx fM)))
     au)
   (af (aJ (gZ hu (VP.vr (aG (aa 2) (VP.vr ag))) (VP.vr ai))
     (ah (az (VP.vx fM)))
     au)
   (af (aJ (cf (bY (cx BM (by rfl) M.isinstance (by rfl) M.list qp (VP.vr (aG (aa 2) (VP.vr ag))))))
     (ah (az (VP.vx fM)))
     au)
   (ah (az (VP.vx (ow hu (VP.vr (eV (ts:=["_law_some"]) rfl (by rfl) (iG (VP.ve (VD.vp (Jj JS (hr.mono (by decide)) (by rfl) JP JQ JR (ae (VP.ve (aG (aa 2) (VP.vr ag))) ak))))) (fun _ _ _ _ _ _=>(aW (i:=3) vJ rfl (Or.inl rfl) np)) (fun _ _ _ _ _ _=>gu) (fun _ _ _ _ _ _=>(VP.ve (aE aB aD (by rfl) M.len gC (aq (aa 3) ay)))))) (VP.vr (bt (ae (VP.ve (aE aB aD (by rfl) M.len gC (aq (aa 1) ay))) (ae (VP.ve (aE aB aD (by rfl) M.len gC (aq (aa 1) ay))) (ae (VP.ve (aE aB aD (by rfl) M.len gC (aq (aa 1) ay))) (ae (VP.ve (aE aB aD (by rfl) M.len gC (aq (aa 1) ay))) ak))))))))))))))),fun _=>?_⟩
 obtain ⟨him,hp,hd⟩:=Se hR
 have he:=c_ _ hp
 have ne2:(!eqT (.lst xs) (.lst xs))=false:=by rw [he]; rfl
 by_cases Uw:60 < xs.length
 · refine ⟨rfl,xs,rfl,hn,hR,.inl ⟨Uw,?_⟩⟩
   refine ⟨rfl,xs,rfl,hn,hR,.inl ⟨Uw,?_⟩⟩
   refine ⟨rfl,rfl,by show dep (.tup [.str _,.int _])≤100; simp [dep,gI],?_⟩
   refine dN (c:=!eqT (.tup [.str "great",.int 0]) (.tup [.str "great",.int 0])) (by rw [c_ _ rfl]; rfl) ?_
   refine ⟨hp,hp,hd,?_⟩
   refine dN (c:=!eqT (.lst xs) (.lst xs)) ne2 ?_
   refine ⟨_,ax (j:=0) rfl,?_⟩
   exact hq
 · have Gg:xs.length≤60:=by omega
   cases hb:cX xs 0 with
   | some i =>
     refine ⟨rfl,xs,rfl,hn,hR,.inr (.inl ⟨Gg,i,hb,?_⟩)⟩
     refine ⟨rfl,xs,rfl,hn,hR,.inr (.inl ⟨Gg,i,hb,?_⟩)⟩
     refine ⟨rfl,rfl,by show dep (.tup [.str _,.int _])≤100; simp [dep,gI],?_⟩
     refine dN (c:=!eqT (.tup [.str "row",.int (i:Int)]) (.tup [.str "row",.int (i:Int)])) (by rw [c_ _ rfl]; rfl) ?_
     refine ⟨hp,hp,hd,?_⟩
     refine dN (c:=!eqT (.lst xs) (.lst xs)) ne2 ?_
     exact ⟨_,ax (j:=0) rfl,hq⟩
   | none =>
     obtain ⟨rs,rfl⟩:=uq xs 0 hR hb
     refine ⟨rfl,_,rfl,hn,hR,.inr (.inr ⟨Gg,hb,rs,rfl,?_⟩)⟩
     refine ⟨rfl,_,rfl,hn,hR,.inr (.inr ⟨Gg,hb,rs,rfl,?_⟩)⟩
     unfold GP.Fy
     cases Lh:brk [] rs 0 with
     | some i =>
       refine ⟨rfl,rfl,by show dep (.tup [.str _,.int _])≤100; simp [dep,gI],?_⟩
       refine dN (c:=!eqT (.tup [.str "block",.int (i:Int)]) (.tup [.str "block",.int (i:Int)])) (by rw [c_ _ rfl]; rfl) ?_
       refine ⟨hp,hp,hd,?_⟩
       refine dN (c:=!eqT (.lst (rs.map aU)) (.lst (rs.map aU))) ne2 ?_
       exact ⟨_,ax (j:=0) rfl,hq⟩
     | none =>
       cases hc:gz rs with
       | some i =>
         refine ⟨rfl,rfl,by show dep (.tup [.str _,.int _])≤100; simp [dep,gI],?_⟩
         refine dN (c:=!eqT (.tup [.str "call",.int (i:Int)]) (.tup [.str "call",.int (i:Int)])) (by rw [c_ _ rfl]; rfl) ?_
         refine ⟨hp,hp,hd,?_⟩
         refine dN (c:=!eqT (.lst (rs.map aU)) (.lst (rs.map aU))) ne2 ?_
         exact ⟨_,ax (j:=0) rfl,hq⟩
       | none =>
         have Xo:plainT (.tup [.str "made",.lst (rs.map aU)])=true:=by simp only [plainT,bC] at hp ⊢; rw [hp]; rfl
         have hd3:dep (.tup [.str "made",.lst (rs.map aU)])≤100:=by
          have:=fS (f:=aU) (n:=2) EL rs
          simp only [dep,gI]
          omega
         refine ⟨Xo,Xo,hd3,?_⟩
         refine dN (c:=!eqT (.tup [.str "made",.lst (rs.map aU)]) (.tup [.str "made",.lst (rs.map aU)])) (by rw [c_ _ Xo]; rfl) ?_
         refine ⟨hp,hp,hd,?_⟩
         refine dN (c:=!eqT (.lst (rs.map aU)) (.lst (rs.map aU))) ne2 ?_
         refine ⟨_,ax (j:=0) rfl,?_⟩
         refine ⟨_,ax (j:=1) rfl,?_⟩
         refine ⟨rfl,?_⟩
         refine dN (c:=false) rfl ?_
         refine ⟨rfl,_,ax (j:=1) rfl,rfl,rs,rfl,K5.Sd (Gd rs [] 0 Lh),by rw [cV] at Gg; omega,?_⟩
         have eS:∃ a b c d:List T,K5.F4 rs=[a,b,c,d].map T.lst∧a.length=rs.length∧b.length=rs.length∧c.length=rs.length∧d.length=rs.length:=⟨_,_,_,_,rfl,by simp,by simp,K5.pM _ _ _,by simp⟩
         obtain ⟨a,b,c,d,e1,la,lb,lc,ld⟩:=eS
         rw [e1]
         refine ⟨small (by simp),?_⟩
         refine qY (f:=T.lst) (u:=fun l=>T.int (l.length:Int)) (fun l hl r hr=>hr) ?_
         have e2:[a,b,c,d].map (fun l:List T=>T.int (l.length:Int))=[.int (rs.length:Int),.int (rs.length:Int),.int (rs.length:Int),.int (rs.length:Int)]:=by simp only [iZ,GZ,la,lb,lc,ld]
         rw [e2]
         refine ⟨small (by simp),rfl,rfl,by show dep (.lst [.int _,.int _,.int _,.int _])≤100; simp [dep,gI],?_⟩
         show q (.vw (.bl (eqT (.lst [.int (rs.length:Int),.int (rs.length:Int),.int (rs.length:Int),.int (rs.length:Int)]) (.lst [.int ((rs.map aU).length:Int),.int ((rs.map aU).length:Int),.int ((rs.map aU).length:Int),.int ((rs.map aU).length:Int)]))))
         rw [cV,c_ _ rfl]
         exact hq
end
def JT (ts:List T) (q:Rt→Prop):Prop:=∃ ns:List Int,ts=[.lst (ns.map .int)]∧ns.length≤63∧q (.vw (.bl true))
theorem JU {α:Type} (f:α→T) (ns:List α) (lo hi:Option Int):∃ ms:List α,iE (ns.map f) lo hi=ms.map f∧ms.length≤ns.length:=by
 unfold iE
 rw [cV,← List.map_drop,← List.map_take]
 refine ⟨_,rfl,?_⟩
 rw [OS,Tt]
 omega
def Xp:FS:=fun d ρ=>∃ (ns:List Int) (ys:List Str) (xs:List T) (b3 b4 b5:Option (T×Bool)),ρ=[some (.lst (ns.map .int),false),some (.lst (ys.map .str),false),some (.lst xs,true),b3,b4,b5]∧xs.length≤200∧(∀ x∈xs,RT x)∧∀ ρ,d.rt ρ (.vw (.bl true))
def Xq:FS:=fun d ρ=>∃ (ns:List Int) (ys:List Str) (xs:List T),ρ=[some (.lst (ns.map .int),false),some (.lst (ys.map .str),false),some (.lst xs,true),none,none,none]∧Wd ys∧ns.length≤63∧xs.length≤1∧(∀ x∈xs,RT x)∧∀ ρ,d.rt ρ (.vw (.bl true))
section
variable {P:Program} {w:World} {K:PySem.W.Frag} {mg:Str→Option Value} {base:Heap}
abbrev Sn:List Str:=["_law_script","_law_words_here","_law_rows","_law_opened","_law_cell","_law_row_here"]
theorem Gh:aH Sn ["_law_script"] (aj jU):=L2.gE
theorem Oq {f:Addr} {fd:FuncData} (D:Df K mg "law" jU ["_law_script"] f fd) (M:Lm mg) (CN:b_ P w K mg base "_law_cell_at" ["_law_script","_law_k"] 1 (bZ K 2 xJ.Li)) (JV:b_ P w K mg base "_law_words" ["_law_cell","_law_many"] 1 (bZ K 2 xJ.Fz)) (Sq:b_ P w K mg base "_law_row" ["_law_cell","_law_words_here"] 2 (bZ K 2 va)) (Gi:b_ P w K mg base "_law_judged" ["_law_rows"] 9 (bZ K 1 Bo)):cF P w K mg base ip 10 f fd ["_law_script"] (bZ K 1 JT):=by
 obtain ⟨Pm,Ot,kc,ke,kf,kg⟩:=CN
 obtain ⟨Uy,Sr,m_words,JW,JX,JY⟩:=JV
 obtain ⟨Y1,Xr,Ss,Su,Sv,Sw⟩:=Sq
 obtain ⟨Sx,Pn,xX,xY,xZ,x4⟩:=Gi
 refine ku D.F Gh rfl fun bw A outer s H E Ox hr ts q hG=>?_
 have nd:=Gh.nd
 have hu:=bj.fP hr
 have np:∀ {i:Nat},aZ ⟨H,[],Ox⟩ i:=j5
 have npf:∀ {is:List Nat},∀ i∈is,aZ ⟨H,[],Ox⟩ i:=fun i _=>j5
 obtain ⟨ns,rfl,Xs,hq⟩:=hG
 refine ⟨_,(af (a_ (i:=1) nd rfl (Or.inl rfl) (VP.vx (aT JY (hr.mono (by decide)) (by rfl) m_words JW JX (ae (VP.ve (aT kg (hr.mono (by decide)) (by rfl) kc ke kf (ae (aw 0) (ae (VP.ve ag) ak)))) (ae (VP.ve ag) ak)))) np)
   (af (cY (i:=2) nd rfl (Or.inl rfl) (VP.vx (bt ak)) np)
   (af (aJ (i5 (VP.vr (bA (VP.vr (aT kg (hr.mono (by decide)) (by rfl) kc ke kf (ae (aw 0) (ae (VP.ve ag) ak)))) (VP.vr ag))) (VP.vr ag))
     (ah (bV (tD 2 OK OL d8 ez (ae (VP.ve (aY (ae (VP.ve ai) (ae (VP.ve (aG (aa 1) (VP.vr ag))) (ae (VP.ve (aY (ae (VP.ve (aG (aa 1) (VP.vr ag))) (ae (VP.ve (aG (aa 1) (VP.vr ag))) ak)))) ak))))) ak))))
     au)
   (lU.weak (u:=(Xq)) (af (a_ (i:=3) nd rfl (Or.inl rfl) (VP.vx ag) np)
   (af (dM Dn rfl (iG (VP.ve (dc (aa 0) (eT (VP.vr ag)) eR))) (aW (i:=4) nd rfl (Or.inl rfl) np)
     (af (a_ (i:=5) nd rfl (Or.inl rfl) (VP.vx (aT Sw (hr.mono (by decide)) (by rfl) Ss Su Sv (ae (aw 4) (ae (aw 1) ak)))) np)
     (ah (aJ (VW.vc (dF (bc hu (VP.vr (bA (VP.vr (aT kg (hr.mono (by decide)) (by rfl) kc ke kf (ae (aw 0) (ae (VP.ve ag) ak)))) (VP.vr ag))) (VP.vr ag)) (cK (yI (VP.vr (aG (aa 5) (VP.vr ag))) (VP.vr (aY (ae (VP.ve ai) (ae (VP.ve ai) (ae (VP.ve ai) (ae (VP.ve ai) ak))))))))))
       (af (bV (tD 2 OK OL d8 ez (ae (aw 5) ak)))
       (ah (Eb (i:=3) nd rfl (Or.inl rfl) (VP.vr (d_ Bz yK (by rfl) M.int AS (aq (VP.vr (Ej (VP.vr (aG (aa 5) (VP.vr ag))) (VP.vr (aY (ae (VP.ve ai) (ae (VP.ve ai) ak)))))) ay))) Au wy np)))
       au))))
   (af (aJ (i5 (VP.vr (bA (VP.vr (aT kg (hr.mono (by decide)) (by rfl) kc ke kf (ae (aw 0) (ae (VP.ve ag) ak)))) (VP.vr ag))) (VP.vr ag))
     (ah (cY (i:=2) nd rfl (Or.inl rfl) (VP.vx (dJ (VP.vr (dJ (aa 2) (VP.vr (qo (bt (ae (VP.ve (aY (ae (VP.ve ai) ak))) ak)) (aa 3))))) (VP.vr (bt (ae (VP.ve (aY (ae (VP.ve ai) (ae (VP.ve (aG (aa 1) (VP.vr ag))) ak)))) ak))))) np))
     au)
   (lU.weak (u:=(Xp)) (HP [2] (ah (az (VP.vx (nC (aT x4 (hr.mono (by decide)) (by rfl) xX xY xZ (ae (aw 2) ak)) (nB (aT x4 (hr.mono (by decide)) (by rfl) xX xY xZ (ae (VP.ve (dc (aa 2) eR (eT (VP.vr (d9 (VP.vr ag)))))) ak))))))) npf) ?w2)))) ?w1)))),fun _=>?main⟩
 case w2 =>
  rintro d ρ ⟨ns,ys,xs,b3,b4,b5,rfl,hn,hR,fin⟩
  refine ⟨rfl,xs,rfl,hn,hR,?_⟩
  refine ⟨rfl,iE xs none (some (-1)),rfl,by have:=Bj xs none (some (-1)); omega,fun x hx=>hR x (Bi hx),fin _⟩
 case w1 =>
  rintro d ρ ⟨ns,ys,xs,rfl,hy,Xs,hn,hR,fin⟩
  obtain ⟨ms,ems,YC⟩:=JU T.int ns (some 2) none
  show tE (iE (ns.map T.int) (some 2) none) _ _ _ _
  rw [ems]
  refine wO (fun i ρ=>i≤ms.length∧∃ (xs:List T) (o:Int) (b4 b5:Option (T×Bool)),ρ=[some (.lst (ns.map .int),false),some (.lst (ys.map .str),false),some (.lst xs,true),some (.int o,false),b4,b5]∧xs.length≤1+i∧(0≤o∧o≤(i:Int))∧∀ x∈xs,RT x) ⟨ph _,xs,0,_,_,rfl,by omega,⟨by omega,by omega⟩,hR⟩ ?_ ?_
  · rintro i c ρ hc ⟨_,xs,o,b4,b5,rfl,hl,ho,hR⟩
    have hi:=(e_.mp hc).1
    refine ⟨rfl,c,ys,rfl,hy,fun t tR=>?_⟩
    obtain ⟨x,ps,rfl,h10,hP⟩:=id tR
    have Y2:∀ u∈xs ++ [.tup (.str x :: ps)],RT u:=fun u hu=>by
     rcases mY.mp hu with h | h
     · exact hR u h
     · rw [vZ.mp h]; exact tR
    have hb:∀ b:Bool,0≤o+(if b then 1 else 0)∧o+(if b then 1 else 0)≤((i+1:Nat):Int):=fun b=>by cases b <;> simp <;> omega
    refine ⟨rfl,ns,1,rfl,(by show (0:Int) < 3; decide),?_⟩
    refine cj (fun h=>?_) (fun h=>?_)
    · exact ⟨small (by omega),_,ax (j:=0) rfl,small (by simp),rfl,rfl,by omega,_,_,_,_,rfl,by simp; omega,hb _,Y2⟩
    · refine ⟨_,ax (j:=0) rfl,small (by simp),rfl,rfl,?_⟩
      refine kj (fun h=>?_) (fun h=>?_)
      · exact ⟨small (by omega),_,ax (j:=0) rfl,small (by simp),rfl,rfl,by omega,_,_,_,_,rfl,by simp; omega,hb _,Y2⟩
      · exact ⟨by omega,_,_,_,_,rfl,by omega,⟨by omega,by omega⟩,hR⟩
  · rintro ρ ⟨_,xs,o,b4,b5,rfl,hl,ho,hR⟩
    refine ⟨rfl,ns,1,rfl,(by show (0:Int) < 3; decide),?_⟩
    refine cj (fun h=>?_) (fun h=>⟨ns,ys,xs,_,_,_,rfl,by omega,hR,fin⟩)
    obtain ⟨n,rfl⟩:=Tj ho.1
    have hn2:n≤63:=by omega
    have Xu:=hy.1
    have hE:∀ u∈xs ++ (List.replicate n [T.tup [.str "end"]]).flatten ++ [.tup [.str "give",.str (ys.getD 2 "")]],RT u:=fun u hu=>by
     rcases mY.mp hu with hu | hu
     · rcases mY.mp hu with hu | hu
       · exact hR u hu
       · obtain ⟨l,h1,h2⟩:=List.mem_flatten.mp hu
         rw [(List.mem_replicate.mp h1).2] at h2
         rw [vZ.mp h2]
         exact uf p0
     · rw [vZ.mp hu]
       exact uf (pc (.inl (kZ (gi hy 2))) p0)
    have hlen:((List.replicate n [T.tup [.str "end"]]).flatten).length=n:=by simp
    refine ⟨small (by simp),small (by simp),by omega,by omega,small (by simp; omega),?_⟩
    rw [Dl]
    dsimp only [Rt.t]
    refine ⟨small (by rw [hlen]; omega),_,mB (k:=2) (by omega),small (by simp),small (by simp),small (by rw [pP,hlen]; simp; omega),?_⟩
    exact ⟨ns,ys,_,_,_,_,rfl,by rw [pP,pP,hlen]; simp; omega,hE,fin⟩
 case main =>
  have Xu:(eF (ns.getD 0 0) 6).length=6:=y8 _ _
  have R7:∀ y∈eF (ns.getD 0 0) 6,dI y=true:=zi
  refine ⟨rfl,ns,0,rfl,rfl,_,6,rfl,by decide,by decide,?_⟩
  generalize eF (ns.getD 0 0) 6=ys at Xu R7 ⊢
  have hy:Wd ys:=⟨Xu,fun y hy=>by have:=fJ.E9 (R7 y hy); omega⟩
  have fin:∀ ρ':En,(fun (_:En) (r:Rt)=>q r) ρ' (.vw (.bl true)):=fun _=>hq
  refine ⟨small (by simp),rfl,ns,1,rfl,(by show (0:Int) < 5; decide),?_⟩
  refine cj (fun h=>?_) (fun h=>⟨ns,ys,[],rfl,hy,Xs,by simp,by simp,fin⟩)
  exact ⟨_,mB (k:=0) (by omega),_,mB (k:=1) (by omega),_,mB (k:=3) (by omega),small (by simp),small (by simp),small (by simp),ns,ys,_,rfl,hy,Xs,by simp,fun x hx=>by
   rw [vZ.mp hx]
   exact uf (pc (.inl (kZ (gi hy 0))) (pc (.inr ⟨_,rfl,by simp,fun u hu=>by
    simp only [fg,ko,or_false] at hu
    rcases hu with rfl | rfl
    · exact kZ (gi hy 1)
    · exact kZ (gi hy 3)⟩) p0)),fin⟩
end
end dX
namespace bN
open PySem L2 VT
theorem Sy {K:PySem.W.Frag} {h:Heap} {mg:Str→Option Value} (X:K.In h) (G:h.Ns mainGlobals mg) {x:Str} {st:Stmt} {ps:List Str} {f:Addr} {oc:Value} {od an:Option Addr} {Aw:Array (Option Value)} {kV doc pm bw ct:Value}
  (a:PySem.W.nsIn K mainGlobals x=some (some (.ref f))) (l:K.lookup f=some ⟨oc,od,.func (PySem.W.fnOf x x (fu st) (cc st) (aj st) .none kV doc pm an bw ct),Aw⟩)
  (c:PySem.W.codeIn K bw x=true) (k:PySem.W.keepIn K (.ref f)=true)
  (hb:∀ (kV doc pm:Value) (an:Option Addr) (bw ct:Value) (us:List Value),us.length=ps.length→bindArgs (PySem.W.fnOf x x (fu st) (cc st) (aj st) .none kV doc pm an bw ct) ⟨us,[]⟩=pure (ps.zip us)) :
  ∃ f fd,Df K mg x st ps f fd:=by
 have F:=pU (st:=st) l c k
 exact ⟨f,_,F,je X G a,F.binds hb⟩
theorem Xv {C:List Value→Prop} (h:C []):∀ us:List Value,us.length=0→C us
 | [],_=>h
theorem Ou {n:Nat} {C:List Value→Prop} (h:∀ a,∀ us:List Value,us.length=n→C (a :: us)):∀ us:List Value,us.length=n+1→C us
 | a :: us,e=>h a us (Nat.succ.inj e)
theorem Sz {C:List Value→Prop} (h:∀ a,C [a]):∀ us:List Value,us.length=1→C us:=Ou fun a=>Xv (h a)
theorem oO {C:List Value→Prop} (h:∀ a,C [a]):∀ us:List Value,us.length=1→C us:=Sz h
theorem Gj {C:List Value→Prop} (h:∀ a b,C [a,b]):∀ us:List Value,us.length=2→C us:=Ou fun a=>oO (h a)
theorem bn3 {C:List Value→Prop} (h:∀ a b c,C [a,b,c]):∀ us:List Value,us.length=3→C us:=Ou fun a=>Gj (h a)
abbrev pE:Program:=PySem.Challenge.pw_slicewise_k19_whole_programs_judged
noncomputable def qE:Program:=PySem.W.view pE [1,2,3,4,5,6,7,8,9,10,12,13,14,15,16,17,18,19,20,21,22,23,24,25,26,28,29,30,31,32,33,34,35,36,37,38,39,41,42,43,44,45,46,47,48,49,50,51,52,53,54,55,56]
def rE:List Str:=["FORMS"]
def Lu:List Addr:=[0,1,2,3,4,5,6,7,8,9,10,11,12,13,14,15,22,23,24,25,28,35,36,37,40,47,48,49,52,59,60,61,64,71,72,73,76,83,84,85,88,95,96,97,98,99,100,101,102,103,104,107,114,115,116,117,118,119,120,121,122,123,126,133,134,135,136,137,138,139,140,141,142,145,152,153,154,155,156,157,158,159,160,161,164,165,166,167,168,169,170,171,172,173,174,175,176,177,178,179,180,181,182,183,184,185,186,187,188,189,190,191,192,193,194,195,196,197,198,199,200,201,202,203,204,205,206,207,208,209,210,211,212,213,214,215,216,217,218,219,220,221,222,223,224,225,226,227,228,229,230,231,232,233,234,235,236,237,238,239,240,241,242,243,244,245,246,247,248,249,250,251,252,253,254,255,256,257,258,259,260,261,262,263,264,265,266,267,268,269,270,271,272,273,274,275,276,277,278,279,280,281,282,283,284,285,286,287,288,289,290,291,292,293,294,295,296,297,298,299,300,301,302,303,304,305,306,307,308,309,310,311,312,313,314,315,316,317,318,319,320,321,322,323,324,325,326,327,328,329,330,331,332,333,334,335,336,337,338,339,340,341,342,343,344,345,346,347,348,349,350,351,352,353,354,355,356,357,358,359,360,361,362,363,364,365,366,367,368,369,370,371,372,373,374,375,376,377,378,379,380,381,382,383,384,385,386,387,388,389,390,391,392,393,394,395,396,397,398,399,400,401]
abbrev OV:=Option (Option Value)
abbrev OO:=Option Obj
abbrev N (K:PySem.W.Frag) (x:Str):=PySem.W.nsIn K mainGlobals x
abbrev Lk (K:PySem.W.Frag) (a:Addr):=List.lookup a K
abbrev R (a:Addr):OV:=some (some (.ref a))
abbrev fo (x q:Str) (st:Stmt) (pm:Value) (c:Addr):OO:=some ⟨.type "function",none,.func (PySem.W.fnOf x q (fu st) (cc st) (aj st) .none .none .none pm none (.ref c) .none),#[]⟩
abbrev cI (K:PySem.W.Frag) (c:Value) (q:Str):=PySem.W.codeIn K c q
abbrev kI (K:PySem.W.Frag) (f:Addr):=PySem.W.keepIn K (.ref f)
abbrev fI (K:PySem.W.Frag) (c:Addr) (x:Str):=PySem.W.findIn K (.ref c) x
abbrev Q4:=OV×OO×Bool×Bool
noncomputable def q4 (K:PySem.W.Frag) (x:Str) (f c:Addr):Q4:=(N K x,Lk K f,cI K (.ref c) x,kI K f)
noncomputable def v4 (x:Str) (st:Stmt) (f:Addr) (pm:Value) (c:Addr):Q4:=(R f,fo x x st pm c,true,true)
theorem bE {K:PySem.W.Frag} {h:Heap} {mg:Str→Option Value} (X:K.In h) (G:h.Ns mainGlobals mg) {x:Str} {st:Stmt} {ps:List Str} {f c:Addr} {pm:Value} (e:q4 K x f c=v4 x st f pm c)
  (hb:∀ (kV doc pm:Value) (an:Option Addr) (bw ct:Value) (us:List Value),us.length=ps.length→bindArgs (PySem.W.fnOf x x (fu st) (cc st) (aj st) .none kV doc pm an bw ct) ⟨us,[]⟩=pure (ps.zip us)) :
  ∃ f fd,Df K mg x st ps f fd:=by
 unfold q4 v4 at e
 simp only [Prod.mk.injEq] at e
 exact Sy X G e.1 e.2.1 e.2.2.1 e.2.2.2 hb
abbrev XX:Type:=((((((OV×(OV×OV))×((OV×OV)×(OV×OO)))×((OV×(OO×OV))×((OO×OV)×(OV×OV))))×(((OV×(OV×OV))×((OV×OV)×(OV×OV)))×(((OV×OV)×(OV×OV))×((OV×OV)×(OV×OV)))))×((((OV×(OV×OV))×((OO×OO)×(OO×OO)))×((OO×(OO×OO))×((OO×OO)×(OO×OO))))×(((OO×(OO×OO))×((OO×OV)×(OV×OV)))×(((OV×OV)×(OV×OV))×((OV×OV)×(OV×Bool))))))×(((((Bool×(Bool×Bool))×((Bool×OV)×(Bool×OO)))×((Bool×(Bool×Bool))×((OV×Bool)×(OO×Bool))))×(((Bool×(Bool×OV))×((Bool×OO)×(Bool×Bool)))×(((Bool×OV)×(OO×Bool))×((Bool×Q4)×(Q4×Q4)))))×((((Q4×(Q4×Q4))×((Q4×Q4)×(Q4×Q4)))×(((Q4×Q4)×(Q4×Q4))×((Q4×Q4)×(Q4×Q4))))×(((Q4×(Q4×Q4))×((Q4×Q4)×(Q4×Q4)))×(((Q4×Q4)×(Q4×Q4))×((Q4×Q4)×(Q4×Q4)))))))
noncomputable def FF (K:PySem.W.Frag):XX:=((((((N K "H",(N K "LETTERS",N K "LONGEST_NAME")),((N K "MOST_PARTS",N K "MOST_ROWS"),(N K "RECKONINGS",Lk K 164))),((N K "OPENERS",(Lk K 235,N K "CLOSERS")),((Lk K 236,N K "isinstance"),(N K "int",N K "bool")))),(((N K "str",(N K "len",N K "all")),((N K "tuple",N K "set"),(N K "zip",N K "range"))),(((N K "sum",N K "list"),(N K "enumerate",N K "ValueError")),((N K "is_name",N K "are_parameters"),(N K "is_operand",N K "is_reckoning"))))),((((N K "is_key",(N K "are_operands",N K "FORMS")),((Lk K 215,Lk K 229),(Lk K 228,Lk K 227))),((Lk K 226,(Lk K 225,Lk K 224)),((Lk K 223,Lk K 222),(Lk K 221,Lk K 220)))),(((Lk K 219,(Lk K 218,Lk K 217)),((Lk K 216,N K "SliceError"),(N K "TooGreat",N K "NoRow"))),(((N K "NoBlock",N K "NoCall"),(N K "NoText",N K "NoPlace")),((N K "Unlike",N K "NoFault"),(N K "Done",EX.YS K [37,104,123,142,161,49,61,73,85] 24)))))),(((((EX.Xc K 24,(EX.Uo K 24 [],kI K 37)),((EX.RK K 37,fI K 104 "__init__"),(PySem.W.isFn K (.ref 101),Lk K 101))),((cI K (.ref 100) "NoRow.__init__",(kI K 101,kI K 104)),((fI K 123 "__init__",PySem.W.isFn K (.ref 120)),(Lk K 120,cI K (.ref 119) "NoBlock.__init__")))),(((kI K 120,(kI K 123,fI K 142 "__init__")),((PySem.W.isFn K (.ref 139),Lk K 139),(cI K (.ref 138) "NoCall.__init__",kI K 139))),(((kI K 142,N K "law"),(Lk K 401,cI K (.ref 400) "law")),((kI K 401,q4 K "is_number" 171 170),(q4 K "is_name" 176 175,q4 K "is_operand" 183 182))))),((((q4 K "is_field" 190 189,(q4 K "is_key" 197 196,q4 K "is_reckoning" 204 203)),((q4 K "are_operands" 209 208,q4 K "are_parameters" 214 213),(q4 K "is_row" 234 233,q4 K "may_stand" 264 263))),(((q4 K "go_past" 271 270,q4 K "check_rows" 250 249),(q4 K "check_blocks" 257 256,q4 K "first_defs" 285 284)),((q4 K "may_call" 292 291,q4 K "check_calls" 278 277),(q4 K "program_of" 243 242,q4 K "_law_cell_at" 306 305)))),(((q4 K "_law_words" 313 312,(q4 K "shape" 299 298,q4 K "_law_is_word" 318 317)),((q4 K "_law_is_operand" 325 324,q4 K "_law_fits" 330 329),(q4 K "_law_sorts" 337 336,q4 K "_law_good_row" 342 341))),(((q4 K "_law_which" 349 348,q4 K "_law_outcome" 356 355),(q4 K "_law_operand" 363 362,q4 K "_law_row" 370 369)),((q4 K "_law_open" 377 376,q4 K "_law_bad_call" 382 381),(q4 K "_law_due" 389 388,q4 K "_law_judged" 394 393)))))))
noncomputable def VV (w:World):XX:=((((((some (some (.int 1000000000000000000000000000000 389)),(some (some (.str wm.bf 391)),some (some (.int 8 393)))),((some (some (.int 4 395)),some (some (.int 60 495))),(R 164,some ⟨.type "tuple",none,.seq #[.str "plus" 397,.str "minus" 398,.str "times" 399,.str "over" 400,.str "rest" 401,.str "less" 402,.str "same" 403] 0,#[]⟩))),((R 235,(some ⟨.type "tuple",none,.seq #[.str "def" 497,.str "if" 498,.str "while" 499] 0,#[]⟩,R 236)),((some ⟨.type "tuple",none,.seq #[.str "give" 501,.str "end" 502] 0,#[]⟩,some none),(some none,some none)))),(((some none,(some none,some none)),((some none,some none),(some none,some none))),(((some none,some none),(some none,some none)),((R 176,R 214),(R 183,R 204))))),((((R 197,(R 209,R 215)),((some ⟨.type "dict",none,.dict #[⟨PyData.keyHash w.params "def",.str "def" 458,.ref 216⟩,⟨PyData.keyHash w.params "give",.str "give" 459,.ref 217⟩,⟨PyData.keyHash w.params "put",.str "put" 460,.ref 218⟩,⟨PyData.keyHash w.params "do",.str "do" 461,.ref 219⟩,⟨PyData.keyHash w.params "new",.str "new" 462,.ref 220⟩,⟨PyData.keyHash w.params "get",.str "get" 463,.ref 221⟩,⟨PyData.keyHash w.params "set",.str "set" 464,.ref 222⟩,⟨PyData.keyHash w.params "call",.str "call" 465,.ref 223⟩,⟨PyData.keyHash w.params "fail",.str "fail" 466,.ref 224⟩,⟨PyData.keyHash w.params "if",.str "if" 467,.ref 225⟩,⟨PyData.keyHash w.params "else",.str "else" 468,.ref 226⟩,⟨PyData.keyHash w.params "while",.str "while" 469,.ref 227⟩,⟨PyData.keyHash w.params "end",.str "end" 470,.ref 228⟩,⟨PyData.keyHash w.params "skip",.str "skip" 471,.ref 229⟩] 14,#[]⟩,some ⟨.type "tuple",none,.seq #[] 0,#[]⟩),(some ⟨.type "tuple",none,.seq #[] 0,#[]⟩,some ⟨.type "tuple",none,.seq #[.ref 183] 0,#[]⟩))),((some ⟨.type "tuple",none,.seq #[] 0,#[]⟩,(some ⟨.type "tuple",none,.seq #[.ref 183] 0,#[]⟩,some ⟨.type "tuple",none,.seq #[.ref 176] 0,#[]⟩)),((some ⟨.type "tuple",none,.seq #[.ref 176,.ref 176,.ref 209] 0,#[]⟩,some ⟨.type "tuple",none,.seq #[.ref 176,.ref 197,.ref 183] 0,#[]⟩),(some ⟨.type "tuple",none,.seq #[.ref 176,.ref 176,.ref 197] 0,#[]⟩,some ⟨.type "tuple",none,.seq #[.ref 176] 0,#[]⟩)))),(((some ⟨.type "tuple",none,.seq #[.ref 176,.ref 183,.ref 204,.ref 183] 0,#[]⟩,(some ⟨.type "tuple",none,.seq #[.ref 176,.ref 183] 0,#[]⟩,some ⟨.type "tuple",none,.seq #[.ref 183] 0,#[]⟩)),((some ⟨.type "tuple",none,.seq #[.ref 176,.ref 214] 0,#[]⟩,R 24),(R 37,R 104))),(((R 123,R 142),(R 161,R 49)),((R 61,R 73),(R 85,true)))))),(((((true,(true,true)),((true,some (some (.ref 101))),(true,fo "__init__" "NoRow.__init__" yf.mz (.str "slicewise.errors" 187) 100))),((true,(true,true)),((some (some (.ref 120)),true),(fo "__init__" "NoBlock.__init__" yf.ik (.str "slicewise.errors" 187) 119,true)))),(((true,(true,some (some (.ref 139)))),((true,fo "__init__" "NoCall.__init__" yf.jW (.str "slicewise.errors" 187) 138),(true,true))),(((true,R 401),(fo "law" "law" dX.jU (.str "law_slicewise_k19_whole_programs_judged" 592) 400,true)),((true,v4 "is_number" fJ.gx 171 (.str "slicewise.rows" 387) 170),(v4 "is_name" fJ.j7 176 (.str "slicewise.rows" 387) 175,v4 "is_operand" fJ.bG 183 (.str "slicewise.rows" 387) 182))))),((((v4 "is_field" fJ.kL 190 (.str "slicewise.rows" 387) 189,(v4 "is_key" fJ.qz 197 (.str "slicewise.rows" 387) 196,v4 "is_reckoning" fJ.dO 204 (.str "slicewise.rows" 387) 203)),((v4 "are_operands" fJ.dP 209 (.str "slicewise.rows" 387) 208,v4 "are_parameters" fJ.eM 214 (.str "slicewise.rows" 387) 213),(v4 "is_row" fJ.qD 234 (.str "slicewise.rows" 387) 233,v4 "may_stand" fJ.jF 264 (.str "slicewise.programs" 493) 263))),(((v4 "go_past" fJ.hU 271 (.str "slicewise.programs" 493) 270,v4 "check_rows" Jp.cU 250 (.str "slicewise.programs" 493) 249),(v4 "check_blocks" Je.b0 257 (.str "slicewise.programs" 493) 256,v4 "first_defs" fJ.iO 285 (.str "slicewise.programs" 493) 284)),((v4 "may_call" Je.eQ 292 (.str "slicewise.programs" 493) 291,v4 "check_calls" Je.cu 278 (.str "slicewise.programs" 493) 277),(v4 "program_of" Jp.bg 243 (.str "slicewise.programs" 493) 242,v4 "_law_cell_at" xJ.fL 306 (.str "law_slicewise_k19_whole_programs_judged" 592) 305)))),(((v4 "_law_words" xJ.ka 313 (.str "law_slicewise_k19_whole_programs_judged" 592) 312,(v4 "shape" Sa.mI 299 (.str "slicewise.programs" 493) 298,v4 "_law_is_word" FD.hY 318 (.str "law_slicewise_k19_whole_programs_judged" 592) 317)),((v4 "_law_is_operand" FD.bG 325 (.str "law_slicewise_k19_whole_programs_judged" 592) 324,v4 "_law_fits" FD.q9 330 (.str "law_slicewise_k19_whole_programs_judged" 592) 329),(v4 "_law_sorts" FD.mx 337 (.str "law_slicewise_k19_whole_programs_judged" 592) 336,v4 "_law_good_row" FD.gg 342 (.str "law_slicewise_k19_whole_programs_judged" 592) 341))),(((v4 "_law_which" GP.gB 349 (.str "law_slicewise_k19_whole_programs_judged" 592) 348,v4 "_law_outcome" GP.h_ 356 (.str "law_slicewise_k19_whole_programs_judged" 592) 355),(v4 "_law_operand" dX.ib 363 (.str "law_slicewise_k19_whole_programs_judged" 592) 362,v4 "_law_row" dX.s_row 370 (.str "law_slicewise_k19_whole_programs_judged" 592) 369)),((v4 "_law_open" dX.q_ 377 (.str "law_slicewise_k19_whole_programs_judged" 592) 376,v4 "_law_bad_call" dX.gh 382 (.str "law_slicewise_k19_whole_programs_judged" 592) 381),(v4 "_law_due" dX.xF 389 (.str "law_slicewise_k19_whole_programs_judged" 592) 388,v4 "_law_judged" dX.jT 394 (.str "law_slicewise_k19_whole_programs_judged" 592) 393)))))))
theorem z8 (w:World) (os:OsState):HE.lookA pE qE rE [] [] (HE.d0 (w.withFollow "special-get-raises" false).params) (PySem.W.boot_heap (w.withFollow "special-get-raises" false).params) (w.withFollow "special-get-raises" false) 3671 os=some (true,(PySem.W.openGood qE rE).1,(PySem.W.openGood qE rE).2.1):=by
 rw [PySem.W.Fast.te2848547177322276819]
 kernel_rfl
theorem CO (w:World) (os:OsState):HE.lookA pE qE rE [] [] (HE.d0 (w.withFollow "special-get-raises" true).params) (PySem.W.boot_heap (w.withFollow "special-get-raises" true).params) (w.withFollow "special-get-raises" true) 3671 os=some (true,(PySem.W.openGood qE rE).1,(PySem.W.openGood qE rE).2.1):=by
 rw [PySem.W.Fast.te2848547177322276819]
 kernel_rfl
theorem Xw (w:World) (os:OsState):HE.lookA pE qE rE [] [] (HE.d0 (w).params) (PySem.W.boot_heap (w).params) (w) 3671 os=some (true,(PySem.W.openGood qE rE).1,(PySem.W.openGood qE rE).2.1) :=
 PySem.W.byRow2 "special-get-raises" (P:=fun w=>∀ os,HE.lookA pE qE rE [] [] (HE.d0 (w).params) (PySem.W.boot_heap (w).params) (w) 3671 os=some (true,(PySem.W.openGood qE rE).1,(PySem.W.openGood qE rE).2.1)) z8 CO w os
theorem z9 (w:World) (os:OsState):HE.lookB pE qE rE [] [] (HE.d0 (w.withFollow "special-get-raises" false).params) (w.withFollow "special-get-raises" false) 3671 os=some (PySem.W.openGood qE rE).2.2:=by
 rw [PySem.W.Fast.te312265020846911052]
 kernel_rfl
theorem CP (w:World) (os:OsState):HE.lookB pE qE rE [] [] (HE.d0 (w.withFollow "special-get-raises" true).params) (w.withFollow "special-get-raises" true) 3671 os=some (PySem.W.openGood qE rE).2.2:=by
 rw [PySem.W.Fast.te312265020846911052]
 kernel_rfl
theorem Xx (w:World) (os:OsState):HE.lookB pE qE rE [] [] (HE.d0 (w).params) (w) 3671 os=some (PySem.W.openGood qE rE).2.2 :=
 PySem.W.byRow2 "special-get-raises" (P:=fun w=>∀ os,HE.lookB pE qE rE [] [] (HE.d0 (w).params) (w) 3671 os=some (PySem.W.openGood qE rE).2.2) z9 CP w os
theorem z_ (w:World) (os:OsState):HE.lookC pE Lu FF (HE.d0 (w.withFollow "special-get-raises" false).params) (w.withFollow "special-get-raises" false) 3671 os=some (VV (w.withFollow "special-get-raises" false)):=by
 rw [PySem.W.Fast.te3135357915001837337]
 kernel_rfl
theorem CQ (w:World) (os:OsState):HE.lookC pE Lu FF (HE.d0 (w.withFollow "special-get-raises" true).params) (w.withFollow "special-get-raises" true) 3671 os=some (VV (w.withFollow "special-get-raises" true)):=by
 rw [PySem.W.Fast.te3135357915001837337]
 kernel_rfl
theorem runC (w:World) (os:OsState):HE.lookC pE Lu FF (HE.d0 (w).params) (w) 3671 os=some (VV (w)) :=
 PySem.W.byRow2 "special-get-raises" (P:=fun w=>∀ os,HE.lookC pE Lu FF (HE.d0 (w).params) (w) 3671 os=some (VV (w))) z_ CQ w os
theorem Ov:PySem.Challenge.rw_slicewise_k19_whole_programs_judged.wellSaid=true:=by kernel_rfl
noncomputable abbrev KE (w:World):PySem.W.Frag:=HE.Kf Lu (HE.uX pE 8022 w)
noncomputable abbrev dE:DefRec:=HE.Q6 dX.jU
theorem hd:PySem.W.LeftO pE qE rE (HE.Ik qE [] []) (fun s=>Lu.map s.heap.get?) (fun w=>Lu.map (HE.uX pE 8022 w)) 8022∧∀ w,FF (KE w)=VV w:=HE.head (p:=pE) (q:=qE) (loose:=rE) (lv:=[]) (R:=[]) (as:=Lu) (N:=8022) (M:=3671) (F:=FF) (v:=VV) (by kernel_rfl) rfl (fun s=>by kernel_rfl) rfl Xw Xx runC
theorem Ow {l:PySem.W.OpenLaw} {w:World} {K:PySem.W.Frag} {h:Heap} {mg:Str→Option Value} {fa:Addr} (X:K.In h) (G:h.Ns mainGlobals mg) (Y3:mg "law" = some (.ref fa)) (hF:FF K=VV w) :
  ∃ fd:FuncData,(∀ (s:Shared) (v:Value),BindsTo s fd ⟨[v],[]⟩ [("_law_script",v)])∧∀ base:Heap,K.In base→base.Ns mainGlobals mg→cF l.prog w K mg base ip 10 fa fd ["_law_script"] (bZ K 1 dX.JT):=by
 simp only [FF,VV,Prod.mk.injEq] at hF
 obtain ⟨⟨⟨⟨⟨⟨mi5,⟨mz6,mi7⟩⟩,⟨⟨mi8,mi9⟩,⟨Xy,Xz⟩⟩⟩,⟨⟨SA,⟨SD,SE⟩⟩,⟨⟨SG,du⟩,⟨rF,pO⟩⟩⟩⟩,⟨⟨⟨Gk,⟨oj,Gm⟩⟩,⟨⟨mK,Oy⟩,⟨Gn,rG⟩⟩⟩,⟨⟨⟨Oz,vK⟩,⟨mQ,sM⟩⟩,⟨⟨Aa,mT⟩,⟨sN,o7⟩⟩⟩⟩⟩,⟨⟨⟨⟨CS,⟨o8,XA⟩⟩,⟨⟨XB,JZ⟩,⟨J_,Ka⟩⟩⟩,⟨⟨Kb,⟨OA,OB⟩⟩,⟨⟨OC,OD⟩,⟨OE,OF⟩⟩⟩⟩,⟨⟨⟨OG,⟨OH,OI⟩⟩,⟨⟨OJ,eW⟩,⟨oP,x5⟩⟩⟩,⟨⟨⟨rH,uu⟩,⟨CT,Ab⟩⟩,⟨⟨CU,Ac⟩,⟨Kc,sO⟩⟩⟩⟩⟩⟩,⟨⟨⟨⟨⟨xS1,⟨xS2,x6⟩⟩,⟨⟨jS,Gp⟩,⟨Gq,Gr⟩⟩⟩,⟨⟨Gs,⟨Gu,Gv⟩⟩,⟨⟨Ad,Ae⟩,⟨Af,Ag⟩⟩⟩⟩,⟨⟨⟨Ah,⟨Ai,CV⟩⟩,⟨⟨CW,CY⟩,⟨CZ,C0⟩⟩⟩,⟨⟨⟨C1,SH⟩,⟨SI,SJ⟩⟩,⟨⟨SK,XD⟩,⟨XE,XG⟩⟩⟩⟩⟩,⟨⟨⟨⟨XH,⟨XI,XJ⟩⟩,⟨⟨XM,XN⟩,⟨XO,XQ⟩⟩⟩,⟨⟨⟨SM,SN⟩,⟨SO,SQ⟩⟩,⟨⟨SR,SS⟩,⟨SU,SV⟩⟩⟩⟩,⟨⟨⟨SW,⟨SX,SY⟩⟩,⟨⟨S0,S3⟩,⟨S4,S6⟩⟩⟩,⟨⟨⟨S7,S8⟩,⟨S9,S_⟩⟩,⟨⟨S',Ta⟩,⟨Tb,Tc⟩⟩⟩⟩⟩⟩⟩:=hF
 have e:=Y3.symm.trans (je X G SH)
 cases e
 have x8:=pU (st:=yf.mz) Gr Gs Gu
 have Gw:yf.DX K mg "NoRow" "NoRow.__init__" yf.mz 24 104 101 _:=⟨x8,je X G x5,Gv,x8.binds (fun _ _ _ _ _ _=>(bN.Gj fun _ _=>rfl)),((EX.kB sO).2.2 104 (by simp)).1,((EX.kB sO).2.2 104 (by simp)).2,Gp,beq_iff_eq.mp Gq⟩
 have rJ:=pU (st:=yf.ik) Af Ag Ah
 have Aj:yf.DX K mg "NoBlock" "NoBlock.__init__" yf.ik 24 123 120 _:=⟨rJ,je X G rH,Ai,rJ.binds (fun _ _ _ _ _ _=>(bN.Gj fun _ _=>rfl)),((EX.kB sO).2.2 123 (by simp)).1,((EX.kB sO).2.2 123 (by simp)).2,Ad,beq_iff_eq.mp Ae⟩
 have uv:=pU (st:=yf.jW) CY CZ C0
 have C2:yf.DX K mg "NoCall" "NoCall.__init__" yf.jW 24 142 139 _:=⟨uv,je X G uu,C1,uv.binds (fun _ _ _ _ _ _=>(bN.Gj fun _ _=>rfl)),((EX.kB sO).2.2 142 (by simp)).1,((EX.kB sO).2.2 142 (by simp)).2,CV,beq_iff_eq.mp CW⟩
 have M2:fJ.Ud mg:=⟨⟨_,je X G mi5⟩,⟨_,je X G mz6⟩,⟨_,je X G mi7⟩,(gU X G du),(gU X G rF),(gU X G pO),(gU X G Gk),(gU X G oj),(gU X G Gm)⟩
 have M3:fJ.NB w K mg:=⟨M2,⟨_,je X G mi8⟩,⟨164,je X G Xy,fun H=>.inr ⟨_,_,_,Xz,rfl,rfl,Gen.small (by simp),.cons ⟨_,rfl⟩ (.cons ⟨_,rfl⟩ (.cons ⟨_,rfl⟩ (.cons ⟨_,rfl⟩ (.cons ⟨_,rfl⟩ (.cons ⟨_,rfl⟩ (.cons ⟨_,rfl⟩ (.nil)))))))⟩⟩,(gU X G du),(gU X G rF),(gU X G pO),(gU X G Gk),(gU X G oj),(gU X G Gm),(gU X G mK),(gU X G Oy),(gU X G Gn)⟩
 have M4:fJ.K8 w K mg:=⟨M3,⟨215,fun s=>match s with | .nm=>176 | .op=>183 | .key=>197 | .rk=>204 | .par=>214 | .ops=>209,(je X G XA),fun s=>match s with | .nm=>(je X G Aa) | .op=>(je X G sN) | .key=>(je X G CS) | .rk=>(je X G o7) | .par=>(je X G mT) | .ops=>(je X G o8),⟨_,_,XB,(by first | rfl | decide),.cons ⟨rfl,⟨_,rfl⟩,.ref 216,rfl,fun _ _=>bu (vs:=[V.ref 176,V.ref 214]) (.inr ⟨_,_,_,OJ,rfl,rfl,Gen.small (by simp),.cons rfl (.cons rfl (.nil))⟩) (aI.cons (by simp only [At]) (aI.cons (by simp only [At]) (aI.nil)))⟩ (.cons ⟨rfl,⟨_,rfl⟩,.ref 217,rfl,fun _ _=>bu (vs:=[V.ref 183]) (.inr ⟨_,_,_,OI,rfl,rfl,Gen.small (by simp),.cons rfl (.nil)⟩) (aI.cons (by simp only [At]) (aI.nil))⟩ (.cons ⟨rfl,⟨_,rfl⟩,.ref 218,rfl,fun _ _=>bu (vs:=[V.ref 176,V.ref 183]) (.inr ⟨_,_,_,OH,rfl,rfl,Gen.small (by simp),.cons rfl (.cons rfl (.nil))⟩) (aI.cons (by simp only [At]) (aI.cons (by simp only [At]) (aI.nil)))⟩ (.cons ⟨rfl,⟨_,rfl⟩,.ref 219,rfl,fun _ _=>bu (vs:=[V.ref 176,V.ref 183,V.ref 204,V.ref 183]) (.inr ⟨_,_,_,OG,rfl,rfl,Gen.small (by simp),.cons rfl (.cons rfl (.cons rfl (.cons rfl (.nil))))⟩) (aI.cons (by simp only [At]) (aI.cons (by simp only [At]) (aI.cons (by simp only [At]) (aI.cons (by simp only [At]) (aI.nil)))))⟩ (.cons ⟨rfl,⟨_,rfl⟩,.ref 220,rfl,fun _ _=>bu (vs:=[V.ref 176]) (.inr ⟨_,_,_,OF,rfl,rfl,Gen.small (by simp),.cons rfl (.nil)⟩) (aI.cons (by simp only [At]) (aI.nil))⟩ (.cons ⟨rfl,⟨_,rfl⟩,.ref 221,rfl,fun _ _=>bu (vs:=[V.ref 176,V.ref 176,V.ref 197]) (.inr ⟨_,_,_,OE,rfl,rfl,Gen.small (by simp),.cons rfl (.cons rfl (.cons rfl (.nil)))⟩) (aI.cons (by simp only [At]) (aI.cons (by simp only [At]) (aI.cons (by simp only [At]) (aI.nil))))⟩ (.cons ⟨rfl,⟨_,rfl⟩,.ref 222,rfl,fun _ _=>bu (vs:=[V.ref 176,V.ref 197,V.ref 183]) (.inr ⟨_,_,_,OD,rfl,rfl,Gen.small (by simp),.cons rfl (.cons rfl (.cons rfl (.nil)))⟩) (aI.cons (by simp only [At]) (aI.cons (by simp only [At]) (aI.cons (by simp only [At]) (aI.nil))))⟩ (.cons ⟨rfl,⟨_,rfl⟩,.ref 223,rfl,fun _ _=>bu (vs:=[V.ref 176,V.ref 176,V.ref 209]) (.inr ⟨_,_,_,OC,rfl,rfl,Gen.small (by simp),.cons rfl (.cons rfl (.cons rfl (.nil)))⟩) (aI.cons (by simp only [At]) (aI.cons (by simp only [At]) (aI.cons (by simp only [At]) (aI.nil))))⟩ (.cons ⟨rfl,⟨_,rfl⟩,.ref 224,rfl,fun _ _=>bu (vs:=[V.ref 176]) (.inr ⟨_,_,_,OB,rfl,rfl,Gen.small (by simp),.cons rfl (.nil)⟩) (aI.cons (by simp only [At]) (aI.nil))⟩ (.cons ⟨rfl,⟨_,rfl⟩,.ref 225,rfl,fun _ _=>bu (vs:=[V.ref 183]) (.inr ⟨_,_,_,OA,rfl,rfl,Gen.small (by simp),.cons rfl (.nil)⟩) (aI.cons (by simp only [At]) (aI.nil))⟩ (.cons ⟨rfl,⟨_,rfl⟩,.ref 226,rfl,fun _ _=>bu (vs:=[]) (.inr ⟨_,_,_,Kb,rfl,rfl,Gen.small (by simp),.nil⟩) (aI.nil)⟩ (.cons ⟨rfl,⟨_,rfl⟩,.ref 227,rfl,fun _ _=>bu (vs:=[V.ref 183]) (.inr ⟨_,_,_,Ka,rfl,rfl,Gen.small (by simp),.cons rfl (.nil)⟩) (aI.cons (by simp only [At]) (aI.nil))⟩ (.cons ⟨rfl,⟨_,rfl⟩,.ref 228,rfl,fun _ _=>bu (vs:=[]) (.inr ⟨_,_,_,J_,rfl,rfl,Gen.small (by simp),.nil⟩) (aI.nil)⟩ (.cons ⟨rfl,⟨_,rfl⟩,.ref 229,rfl,fun _ _=>bu (vs:=[]) (.inr ⟨_,_,_,JZ,rfl,rfl,Gen.small (by simp),.nil⟩) (aI.nil)⟩ (.nil)))))))))))))),by show ([("def" : Str),("give" : Str),("put" : Str),("do" : Str),("new" : Str),("get" : Str),("set" : Str),("call" : Str),("fail" : Str),("if" : Str),("else" : Str),("while" : Str),("end" : Str),("skip" : Str)]).Nodup; decide +kernel⟩⟩⟩
 have MP:fJ.zj w K mg:=⟨⟨_,je X G mi9⟩,⟨235,je X G SA,fun H=>.inr ⟨_,_,_,SD,rfl,rfl,Gen.small (by simp),.cons ⟨_,rfl⟩ (.cons ⟨_,rfl⟩ (.cons ⟨_,rfl⟩ (.nil)))⟩⟩,⟨236,je X G SE,fun H=>.inr ⟨_,_,_,SG,rfl,rfl,Gen.small (by simp),.cons ⟨_,rfl⟩ (.cons ⟨_,rfl⟩ (.nil))⟩⟩,(gU X G vK),(gU X G oj),(gU X G mQ)⟩
 have ML:dX.Lm mg:=⟨(gU X G vK),(gU X G oj),(gU X G rF),(gU X G rG),(gU X G mK),(gU X G du)⟩
 have M5:Sa.YY K mg:=⟨(gU X G oj),(gU X G rG),(gU X G mQ),(gU X G du),(gU X G rF),(gU X G pO),(gU X G mK),(gU X G vK),(gU X G Gn),⟨236,je X G SE,fun H=>.inr ⟨_,_,_,SG,rfl,rfl,Gen.small (by simp),.cons ⟨_,rfl⟩ (.cons ⟨_,rfl⟩ (.nil))⟩⟩,⟨235,je X G SA,fun H=>.inr ⟨_,_,_,SD,rfl,rfl,Gen.small (by simp),.cons ⟨_,rfl⟩ (.cons ⟨_,rfl⟩ (.cons ⟨_,rfl⟩ (.nil)))⟩⟩⟩
 have MG:xJ.Xf mg:=⟨(gU X G oj),(gU X G rG),(gU X G mK),(gU X G Oz)⟩
 have XR:EX.XS K 24:=EX.RN xS1
 have MC:GP.Xe K mg 24 37 104 123 142 161 49 61 73 85:=⟨je X G eW,je X G oP,je X G x5,je X G rH,je X G uu,je X G CT,je X G Ab,je X G CU,je X G Ac,je X G Kc,EX.Lg xS2,by decide,(EX.kB sO).1,(EX.kB sO).2.1,(EX.kB sO).2.2,(gU X G du),(gU X G rF),(gU X G pO),(gU X G sM)⟩
 have x9:EX.X0 K mg "TooGreat" 37:=EX.RO (je X G oP) x6 ((EX.kB sO).2.2 37 (by simp)).1 jS
 obtain ⟨f0,fd0,D0⟩:=bE (ps:=["thing"]) X G XD (fun _ _ _ _ _ _=>(bN.oO fun _=>rfl))
 obtain ⟨f1,fd1,D1⟩:=bE (ps:=["thing"]) X G XE (fun _ _ _ _ _ _=>(bN.oO fun _=>rfl))
 obtain ⟨f2,fd2,D2⟩:=bE (ps:=["thing"]) X G XG (fun _ _ _ _ _ _=>(bN.oO fun _=>rfl))
 obtain ⟨f3,fd3,D3⟩:=bE (ps:=["thing"]) X G XH (fun _ _ _ _ _ _=>(bN.oO fun _=>rfl))
 obtain ⟨f4,fd4,D4⟩:=bE (ps:=["thing"]) X G XI (fun _ _ _ _ _ _=>(bN.oO fun _=>rfl))
 obtain ⟨f5,fd5,D5⟩:=bE (ps:=["thing"]) X G XJ (fun _ _ _ _ _ _=>(bN.oO fun _=>rfl))
 obtain ⟨f6,fd6,D6⟩:=bE (ps:=["thing"]) X G XM (fun _ _ _ _ _ _=>(bN.oO fun _=>rfl))
 obtain ⟨f7,fd7,D7⟩:=bE (ps:=["thing"]) X G XN (fun _ _ _ _ _ _=>(bN.oO fun _=>rfl))
 obtain ⟨f8,fd8,D8⟩:=bE (ps:=["row"]) X G XO (fun _ _ _ _ _ _=>(bN.oO fun _=>rfl))
 obtain ⟨f9,fd9,D9⟩:=bE (ps:=["opened","word"]) X G XQ (fun _ _ _ _ _ _=>(bN.Gj fun _ _=>rfl))
 obtain ⟨f10,acn,D10⟩:=bE (ps:=["opened","word"]) X G SM (fun _ _ _ _ _ _=>(bN.Gj fun _ _=>rfl))
 obtain ⟨f11,aco,D11⟩:=bE (ps:=["program"]) X G SN (fun _ _ _ _ _ _=>(bN.oO fun _=>rfl))
 obtain ⟨f12,acp,D12⟩:=bE (ps:=["program"]) X G SO (fun _ _ _ _ _ _=>(bN.oO fun _=>rfl))
 obtain ⟨f13,acq,D13⟩:=bE (ps:=["program"]) X G SQ (fun _ _ _ _ _ _=>(bN.oO fun _=>rfl))
 obtain ⟨f14,acr,D14⟩:=bE (ps:=["program","firsts","place"]) X G SR (fun _ _ _ _ _ _=>(bN.bn3 fun _ _ _=>rfl))
 obtain ⟨f15,acs,D15⟩:=bE (ps:=["program"]) X G SS (fun _ _ _ _ _ _=>(bN.oO fun _=>rfl))
 obtain ⟨f16,acu,D16⟩:=bE (ps:=["rows"]) X G SU (fun _ _ _ _ _ _=>(bN.oO fun _=>rfl))
 obtain ⟨f17,acv,D17⟩:=bE (ps:=["_law_script","_law_k"]) X G SV (fun _ _ _ _ _ _=>(bN.Gj fun _ _=>rfl))
 obtain ⟨f18,acw,D18⟩:=bE (ps:=["_law_cell","_law_many"]) X G SW (fun _ _ _ _ _ _=>(bN.Gj fun _ _=>rfl))
 obtain ⟨f19,acx,D19⟩:=bE (ps:=["program"]) X G SX (fun _ _ _ _ _ _=>(bN.oO fun _=>rfl))
 obtain ⟨f20,acy,D20⟩:=bE (ps:=["_law_thing"]) X G SY (fun _ _ _ _ _ _=>(bN.oO fun _=>rfl))
 obtain ⟨f21,acz,D21⟩:=bE (ps:=["_law_thing"]) X G S0 (fun _ _ _ _ _ _=>(bN.oO fun _=>rfl))
 obtain ⟨f22,acA,D22⟩:=bE (ps:=["_law_sort","_law_thing"]) X G S3 (fun _ _ _ _ _ _=>(bN.Gj fun _ _=>rfl))
 obtain ⟨f23,acB,D23⟩:=bE (ps:=["_law_word"]) X G S4 (fun _ _ _ _ _ _=>(bN.oO fun _=>rfl))
 obtain ⟨f24,acC,D24⟩:=bE (ps:=["_law_row_here"]) X G S6 (fun _ _ _ _ _ _=>(bN.oO fun _=>rfl))
 obtain ⟨f25,acD,D25⟩:=bE (ps:=["_law_error"]) X G S7 (fun _ _ _ _ _ _=>(bN.oO fun _=>rfl))
 obtain ⟨f26,acE,D26⟩:=bE (ps:=["_law_rows"]) X G S8 (fun _ _ _ _ _ _=>(bN.oO fun _=>rfl))
 obtain ⟨f27,acF,D27⟩:=bE (ps:=["_law_number","_law_words_here"]) X G S9 (fun _ _ _ _ _ _=>(bN.Gj fun _ _=>rfl))
 obtain ⟨f28,acG,D28⟩:=bE (ps:=["_law_cell","_law_words_here"]) X G S_ (fun _ _ _ _ _ _=>(bN.Gj fun _ _=>rfl))
 obtain ⟨f29,acH,D29⟩:=bE (ps:=["_law_rows"]) X G S' (fun _ _ _ _ _ _=>(bN.oO fun _=>rfl))
 obtain ⟨f30,acI,D30⟩:=bE (ps:=["_law_rows"]) X G Ta (fun _ _ _ _ _ _=>(bN.oO fun _=>rfl))
 obtain ⟨f31,acJ,D31⟩:=bE (ps:=["_law_rows"]) X G Tb (fun _ _ _ _ _ _=>(bN.oO fun _=>rfl))
 obtain ⟨f32,acK,D32⟩:=bE (ps:=["_law_rows"]) X G Tc (fun _ _ _ _ _ _=>(bN.oO fun _=>rfl))
 have F:=pU (st:=dX.jU) SI SJ SK
 have DL:Df K mg "law" dX.jU ["_law_script"] 401 _:=⟨F,Y3,F.binds (fun _ _ _ _ _ _=>Sz fun _=>rfl)⟩
 refine ⟨PySem.W.fnOf "law" "law" (fu dX.jU) (cc dX.jU) (aj dX.jU) .none (.none) (.none) (.str "law_slicewise_k19_whole_programs_judged" 592) none (.ref 400) (.none),fun s v=>.of_eq rfl,fun base _ _=>?_⟩
 have q8:=yf.FT (P:=l.prog) (w:=w) (base:=base) Gw XR (je X G eW)
 have iV:=yf.zO (P:=l.prog) (w:=w) (base:=base) Aj XR (je X G eW)
 have j':=yf.Cy (P:=l.prog) (w:=w) (base:=base) C2 XR (je X G eW)
 have x_:=fJ.BZ (P:=l.prog) (w:=w) (base:=base) D0 M2
 have kh:=fJ.ID (P:=l.prog) (w:=w) (base:=base) D1 M2
 have iY:=fJ.kM (P:=l.prog) (w:=w) (base:=base) D2 kh x_
 have Ak:=fJ.xj (P:=l.prog) (w:=w) (base:=base) D3 M3 kh
 have Gx:=fJ.B4 (P:=l.prog) (w:=w) (base:=base) D4 M3 Ak iY
 have rK:=fJ.o4 (P:=l.prog) (w:=w) (base:=base) D5 M3
 have jY:=fJ.o5 (P:=l.prog) (w:=w) (base:=base) D6 M3 iY
 have om:=fJ.mh (P:=l.prog) (w:=w) (base:=base) D7 M3 jY kh
 have Gy:=fJ.B5 (P:=l.prog) (w:=w) (base:=base) D8 M4 kh iY Gx rK om jY
 have ya:=fJ.vg (P:=l.prog) (w:=w) (base:=base) D9 MP
 have C3:=fJ.zm (P:=l.prog) (w:=w) (base:=base) D10 MP
 have vL:=Jp.kx (P:=l.prog) (w:=w) (base:=base) D11 MP q8 Gy
 have rL:=Je.i8 (P:=l.prog) (w:=w) (base:=base) D12 MP iV ya C3
 have vM:=fJ.sE (P:=l.prog) (w:=w) (base:=base) D13 MP
 have Al:=Je.oG (P:=l.prog) (w:=w) (base:=base) D14 MP
 have sP:=Je.jL (P:=l.prog) (w:=w) (base:=base) D15 MP j' vM Al
 have vN:=Jp.gO (P:=l.prog) (w:=w) (base:=base) D16 MP x9 vL rL sP
 have rM:=xJ.zF (P:=l.prog) (w:=w) (base:=base) D17 MG
 have vO:=xJ.FC (P:=l.prog) (w:=w) (base:=base) D18 MG
 have Ke:=Sa.F9 (P:=l.prog) (w:=w) (base:=base) D19 M5
 have jZ:=FD.zI (P:=l.prog) (w:=w) (base:=base) D20 M4
 have mU:=FD.sJ (P:=l.prog) (w:=w) (base:=base) D21 M4 jZ
 have yb:=FD.Jy (P:=l.prog) (w:=w) (base:=base) D22 M4 jZ mU
 have vP:=FD.FQ (P:=l.prog) (w:=w) (base:=base) D23 M4
 have o9:=FD.xN (P:=l.prog) (w:=w) (base:=base) D24 M4 vP yb
 have vQ:=GP.Fv (P:=l.prog) (w:=w) (base:=base) D25 MC
 have rN:=GP.zE (P:=l.prog) (w:=w) (base:=base) D26 MC vN vQ
 have rO:=dX.kM (P:=l.prog) (w:=w) (base:=base) D27 ML
 have Am:=dX.N8 (P:=l.prog) (w:=w) (base:=base) D28 ML rO
 have yc:=dX.JI (P:=l.prog) (w:=w) (base:=base) D29 ML
 have o_:=dX.xP (P:=l.prog) (w:=w) (base:=base) D30 ML
 have An:=dX.Oe (P:=l.prog) (w:=w) (base:=base) D31 ML o9 yc o_
 have sQ:=dX.CG (P:=l.prog) (w:=w) (base:=base) D32 ML rN An Ke
 exact dX.Oq (P:=l.prog) (w:=w) (base:=base) DL ML rM vO Am sQ
theorem walk {l:PySem.W.OpenLaw} {q:Program} {loose:List Str} {XP:(Str→Option Value)→Heap→Prop} {d:DefRec} {K:World→PySem.W.Frag} (hn:l.most=some 63) (Vm:d.params.defaults=[])
  (F:∀ (w:World) (mg:Str→Option Value) (fa:Addr) (h:Heap),(K w).In h→h.Ns mainGlobals mg→mg d.name=some (.ref fa) →
    ∃ fd:FuncData,(∀ (s:Shared) (u:Value),BindsTo s fd ⟨[u],[]⟩ [("_law_script",u)])∧∀ base:Heap,(K w).In base→base.Ns mainGlobals mg→cF l.prog w (K w) mg base ip 10 fa fd ["_law_script"] (bZ (K w) 1 dX.JT)) :
  PySem.W.WalkO q loose XP (fun w h=>(K w).In h) l.row.toRowW d [] (fun f vs=>PySem.call f vs):=by
 refine TL.wa hn Vm fun w s₀ s₁ mg mb fa o pm cd doc a vs ns G Y ho hd iy Qt Mv hints hlen hg=>?_
 obtain ⟨fd,hb,hF⟩:=F w mg fa _ Y G.T.g Qt
 exact DO (CX:=ip) (sp:=bZ (K w) 1 dX.JT) (k:=10) Y G.T.g G.T.b G.T.builtins G.T.nolimit hg Mv hints (oq hlen (by decide)) ⟨rfl,by decide,by decide⟩ hF hb (fun H _ hS =>
  ⟨[.lst (ns.map .int)],[],[],fun _ r=>r = .vw (.bl true),GY,fun _ z=>(nomatch z),fun _ z=>(nomatch z),eD rfl (aI.cons (by
     simp only [At]
     refine ⟨a,ns.map V.int,rfl,hS.imp (fun z=>⟨z,fun m=>nomatch m⟩) id,?_⟩
     clear hS
     clear hints hlen
     induction ns with
     | nil=>exact aI.nil
     | cons n ns ih=>exact aI.cons bx ih) aI.nil),⟨ns,rfl,hlen,rfl⟩,fun us r hr v H' _ z=>by
     subst hr
     have:=z.1
     simpa only [At] using this⟩) fun _ _ _ z=>z
end bN
open PySem PySem.W PyProof.Rows
set_option maxRecDepth 100000 in
set_option maxHeartbeats 0 in
theorem PySem.Challenge.cw_slicewise_k19_whole_programs_judged_holds : PySem.Challenge.rw_slicewise_k19_whole_programs_judged.Holds := by
 w_on
 refine PySem.W.holds_law bN.Ov fun Ov=>?_
 refine PySem.W.holds_openX (q:=bN.qE) (loose:=bN.rE) (Xt:=HE.Ik bN.qE [] []) (XP:=PySem.W.XL bN.qE []) (d:=bN.dE) (kwd:=[]) (N:=8022) bN.hd.1 (fun s e=>PySem.W.xl_of s (Bool.and_eq_true_iff.mp e).1) PySem.W.XL.keeps (by kernel_rfl) (by kernel_rfl) (by kernel_rfl) (fun s e=>PySem.W.recFacts_of (Bool.and_eq_true_iff.mp e).2) (by kernel_rfl) Ov (by kernel_rfl) ⟨rfl,rfl,rfl,rfl,rfl,by decide +kernel⟩ ?hw ?hc
 (case hw=>w_witness2)
 exact HE.EA (bN.walk (l:=PySem.Challenge.rw_slicewise_k19_whole_programs_judged) (K:=bN.KE) rfl rfl (fun w mg fa h KX G Qt=>bN.Ow KX G Qt (bN.hd.2 w)))
