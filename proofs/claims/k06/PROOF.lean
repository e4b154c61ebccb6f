import PyProof.Rows.All
import Wide.All
import OpenK.AllK
import Wide.FinOn
import Lean
import PyProof.EqAt
import PyProof.EqKinds
import PyProof.TupleCall
import PyProof.NeKinds
import PyProof.Rows.SumAny
import PyProof.StrBlockL
import PyProof.StrBlockI
import PyProof.FitsReplace
import PyProof.Rows.SeqMore
import PyProof.Rows.TupAdd
import PyProof.Draws
import PyProof.ZipIter
import OpenK.ZGo
import PyProof.Rows.SetFrom
import PyProof.SetRoads
import PyProof.ListNew
import PyProof.Rows.SortStr
import PyProof.Rows.SortWalk
import PyProof.IsRules
import KE.KDictLaws
import PyProof.DictWalks
import PyProof.WalkInts
import PyProof.SeqRoads2
import PySem.Challenge.RW_slicewise_k06_rows_refused
set_option Elab.async false
set_option linter.all false
set_option maxRecDepth 100000
set_option maxHeartbeats 8000000
abbrev gh (x:PySem.Str):Prop:=(x == ("__debug__":PySem.Str))=false
abbrev uH (x:PySem.Str):Prop:=(x == ("__classdict__":PySem.Str))=false
abbrev dB:=@PySem.Heap.get?_push_of_some
abbrev fY:=@List.getElem?_eq_some_iff
abbrev cu:=@List.length_map
abbrev dZ:=@List.not_mem_nil
abbrev cL:=@List.mem_cons
abbrev gS:=@List.size_toArray
abbrev d7:=@PySem.Heap.lt_size
abbrev lK:=@List.getElem?_eq_getElem
abbrev iO:=@List.mem_cons_self
abbrev jX:=@List.mem_cons_of_mem
abbrev d8:=@Nat.le_refl
abbrev lL:=@List.mem_append_right
abbrev iP:=@Bool.and_eq_true
abbrev lM:=@List.mem_append_left
abbrev iI:=@List.mem_append
abbrev kG:=@PySem.W.mg_none_of
abbrev iA:=@PySem.boot_len
abbrev mW:=@List.mem_of_getElem?
abbrev gW:=@Nat.ne_of_lt
abbrev nP:=@List.filterMap_cons
abbrev nQ:=@PySem.Heap.get?_push_size
abbrev uz:=@List.getElem?_append_left
abbrev nA:=@Int.emod_lt_of_pos
abbrev jB:=@PySem.W.mg_of
abbrev nR:=@Nat.lt_of_lt_of_le
abbrev nS:=@Bool.false_ne_true
abbrev nU:=@List.length_append
abbrev uA:=@PySem.F.slot_list_append
abbrev uB:=@PySem.F.type_list_append
abbrev lN:=@Int.emod_nonneg
abbrev jY:=@List.map_cons
abbrev nV:=@List.getElem?_map
abbrev uI:=@List.getElem?_set_ne
abbrev BL:=@List.getElem?_append_right
abbrev kK:=@Nat.zero_le
abbrev yI:=@List.getElem?_set_self
abbrev yJ:=@List.zipWith_cons_cons
abbrev nB:=@Nat.le_trans
abbrev rm:=@List.nodup_cons
abbrev yK:=@List.zipWith_nil_left
abbrev wB:=@PySem.F.called_set
abbrev wH:=@List.mem_singleton
abbrev uC:=@List.all_cons
abbrev EU:=@Int.eq_ofNat_of_zero_le
abbrev BZ:=@List.forall_mem_cons
abbrev wI:=@PySem.Heap.size_push
abbrev yL:=@List.map_append
abbrev zU:=@List.all_eq_true
abbrev Fh:=@List.length_replicate
abbrev B0:=@Int.toNat_natCast
abbrev wJ:=@List.mem_map
abbrev BM:=@PySem.PassesOwn.never
abbrev Ih:=@PySem.Heap.get?_update_other
abbrev B1:=@List.getElem_mem
abbrev Fi:=@Array.length_toList
abbrev EV:=@List.append_assoc
abbrev zV:=@Bool.true_and
abbrev JA:=@List.getElem?_replicate
abbrev EW:=@List.length_take
abbrev Fj:=@List.length_range
abbrev Ii:=@PySem.mem_of_lookup
abbrev EY:=@List.append_nil
abbrev JB:=@PySem.Heap.get?_update_self
abbrev BN:=@Nat.ne_of_gt
abbrev Fl:=@List.lookup_cons
abbrev Fm:=@List.length_cons
abbrev EZ:=@List.mem_range
abbrev JC:=@List.dropLast_concat
abbrev Nd:=@List.take_of_length_le
abbrev B2:=@List.all_nil
abbrev E2:=@Nat.lt_irrefl
abbrev Ij:=@List.length_drop
abbrev Nf:=@List.length_singleton
abbrev JD:=@PySem.Obj.data_mapFields
abbrev NF:=@List.mem_or_eq_of_mem_set
abbrev Ik:=@PySem.W.kia_one
abbrev Il:=@Bool.false_and
abbrev JE:=@Nat.lt_succ_self
abbrev Im:=@Bool.and_false
abbrev NG:=@Option.map_eq_some_iff
abbrev QX:=@PyProof.Rows.callWith_type1
abbrev Ng:=@List.set_cons_succ
abbrev R7:=@PyProof.Rows.F.plain_set_update_loop
abbrev JF:=@List.length_set
abbrev NH:=@List.mem_iff_getElem?
abbrev NI:=@PySem.Obj.isFreed_of_fields
abbrev NJ:=@PySem.F.slot_dict_get
abbrev QY:=@PySem.F.slot_tuple_iterator_next
abbrev NK:=@PySem.Heap.get?_none_of_le
abbrev NL:=@List.length_dropLast
abbrev QZ:=@List.drop_eq_getElem_cons
abbrev NM:=@List.getLast?_concat
abbrev NN:=@PySem.F.excBase_ValueError
abbrev JG:=@List.nodup_nil
abbrev Nh:=@Option.bind_some
abbrev Q0:=@PySem.F.slot_list_insert
abbrev Q1:=@PySem.F.type_list_insert
abbrev R8:=@PyProof.Rows.slot_tuple_getitem
abbrev Q2:=@List.getElem?_cons_zero
abbrev Q3:=@List.length_eq_zero_iff
abbrev Q5:=@PySem.F.plainAttrs_list
abbrev NO:=@PySem.W.callWith_K
abbrev Ni:=@Bool.eq_iff_iff
abbrev Nj:=@List.find?_cons
abbrev Q6:=@PySem.Calls.callWith_builtin
abbrev NP:=@Nat.lt_succ_of_lt
abbrev JH:=@List.map_nil
abbrev Q7:=@Bool.beq_eq_decide_eq
abbrev Q8:=@List.eq_nil_or_concat
abbrev R9:=@List.concat_eq_append
abbrev Nk:=@List.any_cons
abbrev R_:=@Array.getElem?_eq_some_iff
abbrev JI:=@Nat.le_succ
abbrev Q9:=@List.replicate_succ
abbrev Q_:=@List.filter_eq_self
abbrev NQ:=@List.mem_filter
abbrev R':=@List.pairwise_iff_getElem
abbrev Sa:=@Option.isSome_iff_exists
abbrev Sb:=@PySem.F.args_tuple_add_2
abbrev Ra:=@List.set_cons_zero
abbrev Rb:=@PySem.Code.quiet_builtin
abbrev Sd:=@PySem.F.entry_tuple_add
abbrev Se:=@PySem.F.args_dict_get_2
abbrev Sf:=@PySem.F.plainAttrs_dict
abbrev Sg:=@PySem.F.slot_tuple_add
abbrev Sh:=@PySem.F.entry_dict_get
abbrev Rc:=@List.cons_append
namespace L2
open PySem PySem.Spec PyProof.Rows
abbrev Key:=Sum Int Str
def rn:Key→Value→Bool
 | .inl k,v=>Value.isInt k v
 | .inr x,v=>Value.isStrOf x v
def Si (w:World):Key→Int
 | .inl k=>hashInt k
 | .inr x=>hashStr w x
theorem bS:∀ {k:Key} {v:Value},rn k v=true→(∃ i t,k=Sum.inl i∧v=Value.int i t)∨(∃ x t,k=Sum.inr x∧v=Value.str x t)
 | .inl i,v,h=>by
   obtain ⟨t,e⟩:=Value.isInt_shape (k:=i) (v:=v) h
   exact .inl ⟨i,t,rfl,e⟩
 | .inr x,v,h=>by
   obtain ⟨t,e⟩:=Value.isStrOf_shape (x:=x) (v:=v) h
   exact .inr ⟨x,t,rfl,e⟩
theorem zW (i:Int) (t:Tok):rn (.inl i) (.int i t)=true:=by simp [rn,Value.isInt]
theorem zX (x:Str) (t:Tok):rn (.inr x) (.str x t)=true:=by simp [rn,Value.isStrOf]
theorem JJ (a b:Int):decide ((Sum.inl a:Key)=Sum.inl b)=(a == b):=by
 by_cases e:a=b
 · subst e; simp
 · have h:¬ (Sum.inl a:Key)=Sum.inl b:=fun q=>e (Sum.inl.inj q)
   rw [decide_eq_false h]
   exact (beq_eq_false_iff_ne.mpr e).symm
theorem JK (a b:Str):decide ((Sum.inr a:Key)=Sum.inr b)=decide (a=b):=by
 by_cases e:a=b
 · subst e; simp
 · have h:¬ (Sum.inr a:Key)=Sum.inr b:=fun q=>e (Sum.inr.inj q)
   rw [decide_eq_false h,decide_eq_false e]
theorem JL (a:Int) (b:Str):decide ((Sum.inl a:Key)=Sum.inr b)=false:=decide_eq_false (fun q=>nomatch q)
theorem JM (a:Str) (b:Int):decide ((Sum.inr a:Key)=Sum.inl b)=false:=decide_eq_false (fun q=>nomatch q)
def bC (prog:Program) (w:World):PySem.KeyKind prog w Key where
 is:=rn
 hash:=Si w
 inj:=fun v a b ha hb=>by
  rcases bS ha with ⟨i,t,rfl,rfl⟩ | ⟨x,t,rfl,rfl⟩
  · rcases bS hb with ⟨j,u,rfl,e⟩ | ⟨y,u,rfl,e⟩
    · injection e with e1 _; rw [e1]
    · exact nomatch e
  · rcases bS hb with ⟨j,u,rfl,e⟩ | ⟨y,u,rfl,e⟩
    · exact nomatch e
    · injection e with e1 _; rw [e1]
 byValue:=fun k v h=>by
  rcases bS h with ⟨i,t,rfl,rfl⟩ | ⟨x,t,rfl,rfl⟩ <;> rfl
 pyHash:=fun hv h=>by
  rcases bS hv with ⟨i,t,rfl,rfl⟩ | ⟨x,t,rfl,rfl⟩
  · exact wpAny_pyHash_int h
  · exact wpAny_pyHash_str h
 eqBool:=fun hu hv h=>by
  rcases bS hu with ⟨i,t,rfl,rfl⟩ | ⟨x,t,rfl,rfl⟩
  · rcases bS hv with ⟨j,u,rfl,rfl⟩ | ⟨y,u,rfl,rfl⟩
    · rw [JJ] at h; exact wpAny_eqBool_int h
    · rw [JL] at h; exact SeqAt.EqAt.int_str i t y u _ _ _ _ h
  · rcases bS hv with ⟨j,u,rfl,rfl⟩ | ⟨y,u,rfl,rfl⟩
    · rw [JM] at h; exact SeqAt.EqAt.str_int x t j u _ _ _ _ h
    · rw [JK] at h; exact wpAny_eqBool_str h
 «strs»:=fun k x t v h=>by
  rcases bS h with ⟨i,u,rfl,e⟩ | ⟨y,u,rfl,e⟩
  · exact nomatch e
  · injection e with e1 _
    subst e1
    cases v <;> rfl
theorem uJ (prog:Program) (w:World) (i:Int) (t:Tok):(bC prog w).is (.inl i) (.int i t)=true:=zW i t
theorem uK (prog:Program) (w:World) (x:Str) (t:Tok):(bC prog w).is (.inr x) (.str x t)=true:=zX x t
inductive V where
 | br | bl (b:Bool) | int (i:Int) | str (x:Str) | VJ (b:Array UInt8) | VL (b:UInt64) | ref (a:Addr) | ty (n:String)
 deriving DecidableEq
def RelV:V→Value→Prop
 | .br,u=>u=Value.none
 | .bl b,u=>u=Value.bool b
 | .int i,u=>∃ t,u=Value.int i t
 | .str x,u=>∃ t,u=Value.str x t
 | .VJ b,u=>∃ t,u=Value.bytes b t
 | .VL b,u=>∃ t,u=Value.float b t
 | .ref a,u=>u=Value.ref a
 | .ty n,u=>u=Value.type n
abbrev Vals:List V→List Value→Prop:=Paired RelV
theorem Vals.length {xs:List V} {us:List Value} (r:Vals xs us):xs.length=us.length:=Paired.length r
theorem Vals.get:∀ {xs:List V} {us:List Value} {i:Nat} {x:V},Vals xs us→xs[i]?=some x→∃ u,us[i]?=some u∧RelV x u
 | _,_,_,_,.nil,e=>by simp at e
 | _,_,0,_,.cons r _,e=>by simp at e; subst e; exact ⟨_,rfl,r⟩
 | _,_,i+1,x,.cons _ t,e=>by
   obtain ⟨u,h1,h2⟩:=Vals.get (i:=i) (x:=x) t (by simpa using e)
   exact ⟨u,by simpa using h1,h2⟩
theorem Vals.set {x:V} {u:Value} (r:RelV x u):∀ {xs:List V} {us:List Value} (i:Nat),Vals xs us→Vals (xs.set i x) (us.set i u)
 | _,_,_,.nil=>.nil
 | _,_,0,.cons _ t=>.cons r t
 | _,_,i+1,.cons q t=>.cons q (Vals.set r i t)
theorem Vals.append:∀ {xs ys:List V} {us ws:List Value},Vals xs us→Vals ys ws→Vals (xs ++ ys) (us ++ ws)
 | _,_,_,_,.nil,s=>s
 | _,_,_,_,.cons r t,s=>.cons r (Vals.append t s)
theorem Vals.take:∀ {xs:List V} {us:List Value} (n:Nat),Vals xs us→Vals (xs.take n) (us.take n)
 | _,_,0,_=>.nil
 | _,_,_+1,.nil=>.nil
 | _,_,n+1,.cons r t=>.cons r (Vals.take n t)
theorem Vals.drop:∀ {xs:List V} {us:List Value} (n:Nat),Vals xs us→Vals (xs.drop n) (us.drop n)
 | _,_,0,r=>r
 | _,_,_+1,.nil=>.nil
 | _,_,n+1,.cons _ t=>Vals.drop n t
def kd:Option V→Option Value→Prop
 | some v,some u=>RelV v u
 | none,none=>True
 | _,_=>False
def KV {κ:Type}:List (κ×V)→List (κ×Value)→Prop:=Paired fun (p:κ×V) (q:κ×Value)=>p.1=q.1∧RelV p.2 q.2
def kV:Key→V
 | .inl i=>.int i
 | .inr x=>.str x
inductive HO where
 | lst (xs:List V)
 | tup (xs:List V)
 | dK (aZ:List (Key×V)) | dT (aZ:List (List Key×V))
 | set (S:Int→Bool) (n:Nat)
 | ins (C dx:Addr) (fs:List (Str×V))
 | own (x:Addr)
 | xd (fs:List (Str×V))
 | met (f x:Addr)
 | Rf (lo hi:Int)
 | uD (o:Obj) (u:HO)
 | Io (ps:Array Value)
 | ext (φ:Heap→Prop)
abbrev Hp:=Addr→Option HO
def upd (H:Hp) (a:Addr) (o:HO):Hp:=fun b=>if b=a then some o else H b
theorem aQ {H:Hp} {a:Addr} {o:HO}:upd H a o a=some o:=by unfold upd; rw [if_pos rfl]
theorem aD {H:Hp} {a b:Addr} {o:HO} (h:b≠a):upd H a o b=H b:=by unfold upd; rw [if_neg h]
theorem Fo {H:Hp} {a:Addr} {o u:HO}:upd (upd H a o) a u=upd H a u:=by
 funext b; unfold upd; split <;> rfl
theorem Ip {H:Hp} {a b:Addr} {o u:HO} (h:H a=some o) (h':H b=some u) (d:o≠u):a≠b:=by
 intro e; subst e; rw [h] at h'; exact d (Option.some.inj h')
theorem aU {H:Hp} {a b:Addr} {o:HO} (h:H a=some o) (h':H b=none):a≠b:=by
 intro e; subst e; rw [h] at h'; cases h'
section
variable (P:Program) (w:World)
def bQ (H:Hp) (h:Heap) (a:Addr):HO→Prop
 | .lst xs=>xs.length≤sizeLine∧∃ (aK:List Value) (n:Nat),Vals xs aK∧h.get? a=some { cls:=.type "list",data:=.seq aK.toArray n }
 | .tup xs=>xs.length≤sizeLine∧∃ aK:List Value,Vals xs aK∧IsTup h a aK.toArray
 | .dK aZ=>aZ.length≤sizeLine∧(a == sysModules)=false∧∃ vs,KV aZ vs∧h.DictOf (bC P w) a vs
 | .dT aZ=>aZ.length≤sizeLine∧(a == sysModules)=false∧∃ xs:List (List Key×Addr×Value),
    Paired (fun (p:List Key×V) (q:List Key×Addr×Value)=>p.1=q.1∧H q.2.1=some (.tup (p.1.map kV))∧RelV p.2 q.2.2) aZ xs ∧
    ∃ o es ep,h.get? a=some o∧o.ExactDict∧o.data = .dict es ep∧es.toList=xs.map (entryOfKey (tupleKind (bC P w)))∧(xs.map (·.1)).Nodup
 | .set S n=>h.SetOf (intKind P w) a S n
 | .ins C dx fs=>H dx=some (.own a)∧fs.length≤1000∧dx≠a∧h.get? a=some (PySem.W.instObj C dx) ∧
    ∃ mA,h.Ns1 dx mA∧(∀ f,kd (fs.lookup f) (mA f))∧PySem.Within mA (fs.map (·.1))
 | .own _=>∃ o,h.get? a=some o
 | .xd fs=>∃ mA,h.Ns1 a mA∧∀ f,kd (fs.lookup f) (mA f)
 | .Rf lo hi=>∃ t u v,h.get? a=some { cls:=.type "range",data:=.fields #[.int lo t,.int hi u,.int 1 v] }
 | .uD o u=>h.get? a=some o∧bQ H h a u
 | .Io ps=>h.get? a=some { cls:=.none,data:=.fields ps }
 | .met f x=>h.get? a=some (PySem.W.methodObj (.ref f) (.ref x))
 | .ext φ=>φ h∧(∃ o,h.get? a=some o)∧∀ h1 h2:Heap,φ h1→(∀ o,h1.get? a=some o→h2.get? a=some o)→φ h2
def jS (H:Hp) (h:Heap):Prop:=∀ a o,H a=some o→bQ P w H h a o
end
section
variable {P:Program} {w:World} {H H':Hp} {h h':Heap} {a:Addr} {o:HO}
theorem bQ.lt (x:bQ P w H h a o):a < h.objs.size:=by
 cases o with
 | lst xs=>obtain ⟨_,_,_,_,e⟩:=x; exact d7 e
 | tup xs=>obtain ⟨_,_,_,p⟩:=x; exact p.lt
 | dK aZ=>obtain ⟨_,_,_,_,o,_,_,e,_⟩:=x; exact d7 e
 | dT aZ=>obtain ⟨_,_,_,_,o,_,_,e,_⟩:=x; exact d7 e
 | set S n=>obtain ⟨o,_,_,_,e,_⟩:=x; exact d7 e
 | ins C dx fs=>obtain ⟨_,_,_,e,_⟩:=x; exact d7 e
 | own y=>obtain ⟨_,e⟩:=x; exact d7 e
 | xd fs=>obtain ⟨_,⟨_,_,_,e,_⟩,_⟩:=x; exact d7 e
 | Rf lo hi=>obtain ⟨_,_,_,e⟩:=x; exact d7 e
 | uD ob u=>obtain ⟨e,_⟩:=x; exact d7 e
 | Io ps=>exact d7 (show h.get? a=some _ from x)
 | met f y=>exact d7 (show h.get? a=some _ from x)
 | ext φ=>obtain ⟨_,⟨_,e⟩,_⟩:=x; exact d7 e
theorem Paired.nC {α β:Type} {F G:α→β→Prop}:∀ {l₁:List α} {l₂:List β},Paired F l₁ l₂→(∀ a b,F a b→G a b)→Paired G l₁ l₂
 | _,_,.nil,_=>.nil
 | _,_,.cons r t,f=>.cons (f _ _ r) (Paired.nC t f)
theorem bQ.nD (x:bQ P w H h a o) (k:∀ b u,(b=a∨H b=some (.own a))→h.get? b=some u→h'.get? b=some u)
  (ho:∀ b,H b=some (.own a)→H' b=some (.own a)) (ht:∀ b xs,H b=some (.tup xs)→H' b=some (.tup xs)):bQ P w H' h' a o:=by
 induction o with
 | lst xs=>obtain ⟨z,aK,n,r,e⟩:=x; exact ⟨z,aK,n,r,k _ _ (.inl rfl) e⟩
 | tup xs=>obtain ⟨z,aK,r,ob,e,c⟩:=x; exact ⟨z,aK,r,ob,k _ _ (.inl rfl) e,c⟩
 | dK aZ=>obtain ⟨z,y,vs,r,ob,es,ep,e,c⟩:=x; exact ⟨z,y,vs,r,ob,es,ep,k _ _ (.inl rfl) e,c⟩
 | dT aZ =>
   obtain ⟨z,y,xs,r,ob,es,ep,e,c⟩:=x
   exact ⟨z,y,xs,Paired.nC r fun p q z=>⟨z.1,ht _ _ z.2.1,z.2.2⟩,ob,es,ep,k _ _ (.inl rfl) e,c⟩
 | set S n=>obtain ⟨ob,es,ep,t,e,c⟩:=x; exact ⟨ob,es,ep,t,k _ _ (.inl rfl) e,c⟩
 | ins C dx fs =>
   obtain ⟨d,z,ne,e,mA,⟨od,es,ep,e2,c⟩,r⟩:=x
   exact ⟨ho _ d,z,ne,k _ _ (.inl rfl) e,mA,⟨od,es,ep,k _ _ (.inr d) e2,c⟩,r⟩
 | own y=>obtain ⟨ob,e⟩:=x; exact ⟨ob,k _ _ (.inl rfl) e⟩
 | xd fs=>obtain ⟨mA,⟨od,es,ep,e,c⟩,r⟩:=x; exact ⟨mA,⟨od,es,ep,k _ _ (.inl rfl) e,c⟩,r⟩
 | Rf lo hi=>obtain ⟨t,u,v,e⟩:=x; exact ⟨t,u,v,k _ _ (.inl rfl) e⟩
 | uD ob u ih=>obtain ⟨e,q⟩:=x; exact ⟨k _ _ (.inl rfl) e,ih q⟩
 | Io ps =>
   have e:h.get? a=some { cls:=.none,data:=.fields ps }:=x
   show h'.get? a=some { cls:=.none,data:=.fields ps }
   exact k a _ (.inl rfl) e
 | met f y =>
   have e:h.get? a=some (PySem.W.methodObj (.ref f) (.ref y)):=x
   show h'.get? a=some (PySem.W.methodObj (.ref f) (.ref y))
   exact k a _ (.inl rfl) e
 | ext φ=>obtain ⟨p,⟨o,e⟩,st⟩:=x; exact ⟨st _ _ p fun o q=>k _ _ (.inl rfl) q,⟨o,k _ _ (.inl rfl) e⟩,st⟩
theorem jS.lt (x:jS P w H h) (e:H a=some o):a < h.objs.size:=(x a o e).lt
theorem jS.fresh (x:jS P w H h) (e:h.objs.size≤a):H a=none:=by
 cases q:H a with
 | none=>rfl
 | some u=>exact absurd (nR (x.lt q) e) (E2 _)
theorem jS.kept (x:jS P w H h) (k:∀ b u,h.get? b=some u→h'.get? b=some u):jS P w H h':=fun a o e =>
 (x a o e).nD (fun b u _ q=>k b u q) (fun _ q=>q) fun _ _ q=>q
theorem jS.laid (x:jS P w H h) (k:∀ b u,h.get? b=some u→h'.get? b=some u) (hp:h.objs.size≤a) (new:bQ P w (upd H a o) h' a o):jS P w (upd H a o) h':=fun b u e=>by
 have hn:=x.fresh hp
 by_cases hb:b=a
 · subst hb; rw [aQ] at e; cases e; exact new
 · rw [aD hb] at e
   exact (x b u e).nD (fun c v _ q=>k c v q) (fun c q=>by rw [aD (aU q hn)]; exact q) fun c xs q=>by rw [aD (aU q hn)]; exact q
end
def Rd (H:Hp) (a:Addr) (u:HO):Prop:=H a=some u∨∃ o,H a=some (.uD o u)
theorem Rd.of {H:Hp} {a:Addr} {u:HO} (h:H a=some u):Rd H a u:=.inl h
theorem Rd.ok {P:Program} {w:World} {H:Hp} {h:Heap} {a:Addr} {u:HO} (r:Rd H a u) (x:jS P w H h):bQ P w H h a u:=by
 rcases r with r | ⟨o,r⟩
 · exact x a u r
 · obtain ⟨_,q⟩:=x a _ r
   exact q
def NR:Option HO→Prop
 | some (.lst _)=>True
 | some (.dK _)=>True
 | some (.dT _)=>True
 | some (.set _ _)=>True
 | some (.ins _ _ _)=>True
 | some (.ext _)=>True
 | _=>False
section
variable {P:Program} {w:World} {H:Hp} {h h':Heap} {x e:Addr} {o':HO}
theorem jS.write (ok:jS P w H h) (mu:NR (H x)) (he:e=x∨H e=some (.own x)) (k:∀ b u,b≠e→h.get? b=some u→h'.get? b=some u) (Iq:∃ u,h'.get? e=some u)
  (new:bQ P w (upd H x o') h' x o'):jS P w (upd H x o') h':=fun b u q=>by
 have NT:∀ c y,H c=some (.own y)→c≠x:=fun c y r z=>by subst z; rw [r] at mu; exact mu
 have Sj:∀ c xs,H c=some (.tup xs)→c≠x:=fun c xs r z=>by subst z; rw [r] at mu; exact mu
 by_cases hb:b=x
 · subst hb; rw [aQ] at q; cases q; exact new
 · rw [aD hb] at q
   by_cases E3:b=e
   · have q':H b=some (.own x):=by
      rcases he with z | z
      · exact absurd (E3.trans z) hb
      · rw [E3]; exact z
     rw [q] at q'; cases q'
     obtain ⟨v,hv⟩:=Iq
     exact ⟨v,by rw [E3]; exact hv⟩
   · refine (ok b u q).nD (fun c v hc r=>k c v ?_ r) (fun c r=>by rw [aD (NT c b r)]; exact r) fun c xs r=>by rw [aD (Sj c xs r)]; exact r
     rcases hc with rfl | hc
     · exact E3
     · rintro rfl
       rcases he with z | z
       · exact NT c b hc z
       · rw [hc] at z; cases z; exact hb rfl
end
structure Un (fs ex:List Addr) (H H':Hp) (h h':Heap):Prop where
 keep:∀ b o,h.get? b=some o→H b=none→b∉fs→b∉ex→h'.get? b=some o
 slot:∀ b o,h.get? b=some o→H b=none→b∈fs→b∉ex→∃ sl,h'.get? b=some { o with slots:=sl }
 free:∀ b o,h.get? b=some o→H b=none→b∉ex→H' b=none
 there:∀ b o,h.get? b=some o→b∉ex→∃ o',h'.get? b=some o'
 iJ:∀ b xs,H b=some (.tup xs)→H' b=some (.tup xs)
 gY:∀ b o u,H b=some (.uD o u)→H' b=some (.uD o u)
 iK:∀ b ps,H b=some (.Io ps)→∃ more,H' b=some (.Io (ps ++ more))
section
variable {fs NU ex Sk:List Addr} {H H1 H2:Hp} {h h1 h2 h':Heap} {a x e:Addr} {o:HO}
theorem Un.any (u:Un fs ex H H1 h h1) {b:Addr} {ob:Obj} (q:h.get? b=some ob) (n:H b=none) (hx:b∉ex):∃ sl,h1.get? b=some { ob with slots:=sl }:=by
 by_cases hb:b∈fs
 · exact u.slot b ob q n hb hx
 · exact ⟨ob.slots,u.keep b ob q n hb hx⟩
theorem Un.trans (a:Un fs ex H H1 h h1) (b:Un fs ex H1 H2 h1 h2):Un fs ex H H2 h h2 where
 keep:=fun c ob q n hc hx=>b.keep c ob (a.keep c ob q n hc hx) (a.free c ob q n hx) hc hx
 slot:=fun c ob q n hc hx=>by
  obtain ⟨sl,e1⟩:=a.slot c ob q n hc hx
  obtain ⟨Sl,e2⟩:=b.slot c _ e1 (a.free c ob q n hx) hc hx
  exact ⟨Sl,e2⟩
 free:=fun c ob q n hx=>by
  obtain ⟨o',e1⟩:=a.there c ob q hx
  exact b.free c o' e1 (a.free c ob q n hx) hx
 there:=fun c ob q hx=>by
  obtain ⟨o',e1⟩:=a.there c ob q hx
  exact b.there c o' e1 hx
 iJ:=fun c xs q=>b.iJ c xs (a.iJ c xs q)
 gY:=fun c ob xs q=>b.gY c ob xs (a.gY c ob xs q)
 iK:=fun c ps q=>by
  obtain ⟨m1,e1⟩:=a.iK c ps q
  obtain ⟨m2,e2⟩:=b.iK c _ e1
  exact ⟨m1 ++ m2,by rw [e2,Array.append_assoc]⟩
theorem Un.kept (k:∀ b u,h.get? b=some u→h'.get? b=some u):Un fs ex H H h h' :=
 ⟨fun b ob q _ _ _=>k b ob q,fun b ob q _ _ _=>⟨ob.slots,k b ob q⟩,fun _ _ _ n _=>n,fun b ob q _=>⟨ob,k b ob q⟩,fun _ _ q=>q,fun _ _ _ q=>q,fun _ ps q=>⟨#[],by rw [q]; simp⟩⟩
theorem Un.refl:Un fs ex H H h h:=Un.kept fun _ _ q=>q
theorem Un.laid (k:∀ b u,h.get? b=some u→h'.get? b=some u) (hp:h.objs.size≤a) (hn:H a=none):Un fs ex H (upd H a o) h h' where
 keep:=fun b u q _ _ _=>k b u q
 slot:=fun b u q _ _ _=>⟨u.slots,k b u q⟩
 free:=fun b u q n _=>by rw [aD (gW (nR (d7 q) hp))]; exact n
 there:=fun b u q _=>⟨u,k b u q⟩
 iJ:=fun b xs q=>by rw [aD (aU q hn)]; exact q
 gY:=fun b u xs q=>by rw [aD (aU q hn)]; exact q
 iK:=fun b ps q=>⟨#[],by rw [aD (aU q hn),q]; simp⟩
theorem Un.write (mu:NR (H x)) (he:e=x∨H e=some (.own x)) (k:∀ b u,b≠e→h.get? b=some u→h'.get? b=some u) (Iq:∃ u,h'.get? e=some u):Un fs ex H (upd H x o) h h':=by
 have hx:∀ b,H b=none→b≠x:=fun b n z=>by subst z; rw [n] at mu; exact mu
 have hb:∀ b,H b=none→b≠e:=fun b n z=>by
  subst z
  rcases he with r | r
  · exact hx b n r
  · rw [n] at r; cases r
 have hm:∀ b u,H b=some u→¬ NR (some u)→b≠x:=fun b u q nm z=>by subst z; rw [q] at mu; exact nm mu
 refine ⟨fun b u q n _ _=>k b u (hb b n) q,fun b u q n _ _=>⟨u.slots,k b u (hb b n) q⟩,fun b u q n _=>by rw [aD (hx b n)]; exact n,fun b u q _=>?_,
  fun b xs q=>by rw [aD (hm b _ q fun z=>z)]; exact q,fun b u xs q=>by rw [aD (hm b _ q fun z=>z)]; exact q,fun b ps q=>⟨#[],by rw [aD (hm b _ q fun z=>z),q]; simp⟩⟩
 by_cases E3:b=e
 · subst E3; exact Iq
 · exact ⟨u,k b u E3 q⟩
theorem Un.mono (u:Un fs ex H H1 h h1) (hs:∀ b∈fs,b∈NU) (hx:∀ b∈ex,b∈Sk):Un NU Sk H H1 h h1 :=
 ⟨fun b ob q n hb he=>u.keep b ob q n (fun z=>hb (hs b z)) fun z=>he (hx b z),fun _ _ q n _ he=>u.any q n fun z=>he (hx _ z),fun b ob q n he=>u.free b ob q n fun z=>he (hx b z),fun b ob q he=>u.there b ob q fun z=>he (hx b z),u.iJ,u.gY,u.iK⟩
end
def Rg (h:Heap) (H:Hp):List Addr:=(List.range h.objs.size).filter fun a=>(H a).isSome
def sH (h:Heap) (H:Hp):Heap:=PySem.W.hideAll h (Rg h H)
theorem zY (h:Heap) (H:Hp):(sH h H).objs.size=h.objs.size:=PySem.W.hideAll_size _ _
theorem B3 {h:Heap} {H:Hp} {b:Addr} {o:Obj} (e:h.get? b=some o) (n:H b=none):(sH h H).get? b=some o :=
 PySem.W.hideAll_get _ e fun hm=>by
  have q:(H b).isSome=true:=(NQ.mp hm).2
  rw [n] at q; simp at q
theorem Fp {h:Heap} {H:Hp} {b:Addr} {o:Obj} (e:(sH h H).get? b=some o):h.get? b=some o∧H b=none:=by
 have e':h.get? b=some o:=PySem.W.of_hideAll (Rg h H) e
 refine ⟨e',?_⟩
 cases q:H b with
 | none=>rfl
 | some x =>
   have hm:b∈Rg h H:=NQ.mpr ⟨EZ.mpr (d7 e'),by simp [q]⟩
   have z:(sH h H).get? b=none:=PySem.W.hideAll_none (Rg h H) hm
   rw [z] at e; cases e
def Fq (g h:Heap) (L:Addr):List (Addr×Obj):=(List.range h.objs.size).filterMap fun a=>if a=L∨(g.get? a).isSome=true then none else (h.get? a).map fun o=>(a,o)
def rest (g h:Heap) (L d:Addr):List (Addr×Obj):=(Fq g h L).filter fun p=>decide (p.1≠d)
structure Mod (K:PySem.W.Frag) (mg:Str→Option Value) (base:Heap):Prop where
 JN:K.In base
 glob:base.Ns mainGlobals mg
 blt:∃ mb,base.Ns builtinsNs mb∧∀ x:Str,x≠"__name__"→mb x=bootBuiltins x
 nolimit:base.NoLimit
structure Cx where
 prog:Program
 w:World
 K:PySem.W.Frag
 mg:Str→Option Value
 base:Heap
 A:Around
 N:List Str
 s₀:Shared
 H₀:Hp
 env:Env
 outer:List Env
 stack:List Env
 ex:List Addr
 fn:Str→Bool
 calm:Bool
 pn:List (Addr×Obj)
 xe:Value→Shared→Prop
def kL (l:List Env):List Addr:=l.filterMap (·.frame)
abbrev Cx.fs (X:Cx):List Addr:=kL X.outer
def sI (sc:Scope) (x:Str):Prop:=sc.names.lookup x=some .local∨sc.names.lookup x=some .cell∨sc.names.lookup x=some .free
def Loc (sc:Scope) (x:Str):Prop:=sc.names.lookup x=some .local∨sc.names.lookup x=some .cell
def Look (env:Env) (h:Heap) (m:Str→Option Value) (x:Str) (u:Value):Prop :=
 (env.kindOf x=some .local∧m x=some u)∨((env.kindOf x=some .cell∨env.kindOf x=some .free)∧∃ c,env.cells.lookup x=some c∧h.IsCell c (some u))
structure Cx.Ok (X:Cx):Prop where
 mod:Mod X.K X.mg X.base
 kind:X.env.scope.kind = .function
 glob:X.env.globals=mainGlobals
 blt:X.env.builtins=builtinsNs
 above:X.s₀.heap.objs.size≤X.env.locals
 inj:∀ x y c,X.env.cells.lookup x=some c→X.env.cells.lookup y=some c→x=y
 has:∀ x,(X.env.kindOf x=some .cell∨X.env.kindOf x=some .free)→∃ c,X.env.cells.lookup x=some c
 Nl:∀ x c,X.fn x=true→X.env.cells.lookup x=some c→X.s₀.heap.objs.size≤c
 hd:X.calm=true→X.A.handled=none
 frames:X.A.frames=some X.stack
 NV:X.stack=X.outer∨(X.stack=X.env :: X.outer∧X.env.frame=some X.env.locals)
 Sm:∀ b∈X.ex,b≠X.env.locals∧∀ x c,X.env.cells.lookup x=some c→c≠b
 bs:∀ b o,X.base.get? b=some o→X.s₀.heap.get? b=some o∧X.H₀ b=none
 BO:X.base.objs.size≤X.s₀.heap.objs.size
 zZ:∀ b o,X.base.get? b=some o→b∉X.ex
 B4:∀ b∈X.ex,b∉X.fs
 kM:X.s₀.heap.FunFrames X.base X.outer
 Fs:∀ b∈X.fs,X.H₀ b=none
structure Inv (X:Cx) (pins:List (Addr×Obj)) (σ:List (Option V)) (H:Hp) (s:Shared):Prop where
 ok:X.Ok
 os:s.os=X.s₀.os
 bare:AllBare s.gens
 base:Un X.fs X.ex X.H₀ H X.s₀.heap s.heap
 loc:∃ m,s.heap.Ns X.env.locals m∧∀ (i:Nat) (x:Str) (v:V),X.N[i]?=some x→σ[i]?=some (some v)→sI X.env.scope x→∃ u,RelV v u∧Look X.env s.heap m x u
 cell:∀ x c,X.env.cells.lookup x=some c→∃ v,s.heap.IsCell c v
 free:H X.env.locals=none
 eW:∀ x c,X.env.cells.lookup x=some c→H c=none
 pin:∀ p∈X.pn ++ pins,s.heap.get? p.1=some p.2∧H p.1=none∧p.1≠X.env.locals∧p.1∉X.fs∧∀ v,p.2.data≠.cell v
 bD:jS X.prog X.w H s.heap
 len:σ.length=X.N.length
section
variable {X:Cx} {pins:List (Addr×Obj)} {σ:List (Option V)} {H H':Hp} {s:Shared} {h':Heap}
theorem Cx.Ok.Ft (ok:X.Ok) {b:Addr} {o:Obj} (e:X.base.get? b=some o):b∉X.fs:=fun hb=>by
 have:=(ok.kM.mem hb).1
 rw [e] at this; cases this
theorem Inv.bs (I:Inv X pins σ H s):∀ b o,X.base.get? b=some o→s.heap.get? b=some o∧H b=none:=fun b o e =>
 ⟨I.base.keep b o (I.ok.bs b o e).1 (I.ok.bs b o e).2 (I.ok.Ft e) (I.ok.zZ b o e),I.base.free b o (I.ok.bs b o e).1 (I.ok.bs b o e).2 (I.ok.zZ b o e)⟩
theorem Inv.bk (I:Inv X pins σ H s):∀ b o,X.base.get? b=some o→s.heap.get? b=some o:=fun b o e=>(I.bs b o e).1
theorem Inv.mod (I:Inv X pins σ H s):Mod X.K X.mg X.base:=I.ok.mod
theorem Inv.jZ (I:Inv X pins σ H s):X.K.In s.heap:=I.ok.mod.JN.keeps I.bk
theorem Inv.nolimit (I:Inv X pins σ H s):s.heap.NoLimit:=I.ok.mod.nolimit.keeps I.bk
theorem Inv.fr (I:Inv X pins σ H s):∃ m,Fr X.base X.env.locals s.heap m :=
 let ⟨m,hn,_⟩:=I.loc
 ⟨m,hn,I.bk,nB I.ok.BO I.ok.above⟩
theorem Inv.lt (I:Inv X pins σ H s):X.env.locals < s.heap.objs.size:=let ⟨_,hn,_⟩:=I.loc; hn.lt
theorem Inv.sz (I:Inv X pins σ H s):X.s₀.heap.objs.size≤s.heap.objs.size:=nB I.ok.above (Nat.le_of_lt I.lt)
theorem Inv.Sn (I:Inv X pins σ H s) {a:Addr} (h:s.heap.objs.size≤a):a∉X.fs:=fun hb=>by
 obtain ⟨_,o,ho,_⟩:=I.ok.kM.mem hb
 exact absurd (nR (d7 ho) (nB I.sz h)) (E2 _)
theorem Inv.B5 (I:Inv X pins σ H s):∀ x c,X.env.cells.lookup x=some c→c≠X.env.locals:=fun x c e z=>by
 obtain ⟨v,o,ho,hd⟩:=I.cell x c e
 obtain ⟨m,⟨o',es,ep,wK,WX,_⟩,_⟩:=I.loc
 rw [z,wK] at ho; cases ho; rw [WX] at hd; cases hd
theorem Inv.kM (I:Inv X pins σ H s):s.heap.FunFrames X.base X.outer:=by
 have all:∀ (l:List Env),(∀ b∈kL l,b∈X.fs)→X.s₀.heap.FunFrames X.base l→s.heap.FunFrames X.base l:=by
  intro l
  induction l with
  | nil=>intro _ _; trivial
  | cons env r ih =>
    intro hs hl
    obtain ⟨hk,⟨L,o,hf,hn,ho,hd⟩,hr⟩:=hl
    have hL:L∈X.fs:=hs L (by unfold kL; rw [nP,hf]; exact iO)
    obtain ⟨sl,e⟩:=I.base.slot L o ho (I.ok.Fs L hL) hL fun z=>I.ok.B4 L z hL
    exact ⟨hk,⟨L,_,hf,hn,e,hd⟩,ih (fun b hb=>hs b (by unfold kL; rw [nP,hf]; exact jX _ hb)) hr⟩
 exact all X.outer (fun _ hb=>hb) I.ok.kM
theorem Inv.stack (I:Inv X pins σ H s):s.heap.FunFrames X.base X.stack:=by
 rcases I.ok.NV with e | ⟨e,hf⟩
 · rw [e]; exact I.kM
 · rw [e]
   obtain ⟨m,hn,_⟩:=I.loc
   refine .cons (by rw [I.ok.kind]; decide) hf hn ?_ I.kM
   exact NK (nB I.ok.BO I.ok.above)
theorem Inv.wL (I:Inv X pins σ H s):∀ b∈kL X.stack,b∈X.env.locals :: X.fs:=fun b hb=>by
 rcases I.ok.NV with e | ⟨e,hf⟩
 · rw [e] at hb; exact jX _ hb
 · rw [e] at hb
   unfold kL at hb
   rw [nP,hf] at hb
   exact hb
theorem Inv.nW (I:Inv X pins σ H s):∀ b∈kL X.stack,H b=none:=fun b hb=>by
 rcases cL.mp (I.wL b hb) with e | hb
 · rw [e]; exact I.free
 · obtain ⟨_,o,ho,_⟩:=I.ok.kM.mem hb
   exact I.base.free b o ho (I.ok.Fs b hb) fun z=>I.ok.B4 b z hb
theorem Inv.step {g':Array GenState} {t':Nat} {d':Drawn} {ch:List Addr} (I:Inv X pins σ H s)
  (E4:∀ b∈ch,(b∈X.ex∨X.s₀.heap.objs.size≤b)∧b≠X.env.locals∧(∀ x c,X.env.cells.lookup x=some c→c≠b)∧∀ p∈X.pn ++ pins,p.1≠b)
  (keep:∀ b o,b≠X.env.locals→b∉X.fs→b∉ch→s.heap.get? b=some o→H b=none→h'.get? b=some o)
  (slot:∀ b o,b≠X.env.locals→b∈X.fs→b∉ch→s.heap.get? b=some o→H b=none→∃ sl,h'.get? b=some { o with slots:=sl }) (free:∀ b o,b∉ch→s.heap.get? b=some o→H b=none→H' b=none)
  (there:∀ b o,b∉ch→s.heap.get? b=some o→∃ o',h'.get? b=some o')
  (iJ:∀ b xs,H b=some (.tup xs)→H' b=some (.tup xs)) (gY:∀ b o u,H b=some (.uD o u)→H' b=some (.uD o u)) (iK:∀ b ps,H b=some (.Io ps)→∃ more,H' b=some (.Io (ps ++ more)))
  (ns:∀ m,s.heap.Ns X.env.locals m→h'.Ns X.env.locals m) (bD:jS X.prog X.w H' h') (hg:AllBare g') :
  Inv X pins σ H' { s with heap:=h',gens:=g',drawn:=d',toks:=t' }:=by
 have VM:∀ b o,X.s₀.heap.get? b=some o→b≠X.env.locals:=fun b o e=>gW (nR (d7 e) I.ok.above)
 have Rh:∀ b o,X.s₀.heap.get? b=some o→b∉X.ex→b∉ch:=fun b o e hx hb=>by
  rcases (E4 b hb).1 with z | z
  · exact hx z
  · exact absurd (nR (d7 e) z) (E2 _)
 have cellK:∀ x c,X.env.cells.lookup x=some c→∀ v,s.heap.IsCell c v→h'.IsCell c v:=fun x c e v ⟨o,ho,hd⟩=>by
  have B6:c∉ch:=fun z=>(E4 c z).2.2.1 x c e rfl
  by_cases hc:c∈X.fs
  · obtain ⟨sl,q⟩:=slot c o (I.B5 x c e) hc B6 ho (I.eW x c e)
    exact ⟨_,q,hd⟩
  · exact ⟨o,keep c o (I.B5 x c e) hc B6 ho (I.eW x c e),hd⟩
 refine ⟨I.ok,I.os,hg,⟨fun b o e n hb hx=>?_,fun b o e n hb hx=>?_,fun b o e n hx=>?_,fun b o e hx=>?_,fun b xs e=>iJ b xs (I.base.iJ b xs e),fun b o xs e=>gY b o xs (I.base.gY b o xs e),fun b ps e=>?_⟩,?_,fun x c e=>?_,?_,fun x c e=>?_,fun p hp=>?_,bD,I.len⟩
 · exact keep b o (VM b o e) hb (Rh b o e hx) (I.base.keep b o e n hb hx) (I.base.free b o e n hx)
 · obtain ⟨sl,e1⟩:=I.base.slot b o e n hb hx
   obtain ⟨Sl,e2⟩:=slot b _ (VM b o e) hb (Rh b o e hx) e1 (I.base.free b o e n hx)
   exact ⟨Sl,e2⟩
 · obtain ⟨o',e1⟩:=I.base.there b o e hx
   exact free b o' (Rh b o e hx) e1 (I.base.free b o e n hx)
 · obtain ⟨o',e1⟩:=I.base.there b o e hx
   exact there b o' (Rh b o e hx) e1
 · obtain ⟨m1,e1⟩:=I.base.iK b ps e
   obtain ⟨m2,e2⟩:=iK b _ e1
   exact ⟨m1 ++ m2,by rw [e2,Array.append_assoc]⟩
 · obtain ⟨m,hn,hl⟩:=I.loc
   refine ⟨m,ns m hn,fun i x v e1 e2 e3=>?_⟩
   obtain ⟨u,r,l⟩:=hl i x v e1 e2 e3
   refine ⟨u,r,?_⟩
   rcases l with l | ⟨k,c,e,z⟩
   · exact .inl l
   · exact .inr ⟨k,c,e,cellK x c e _ z⟩
 · obtain ⟨v,z⟩:=I.cell x c e
   exact ⟨v,cellK x c e v z⟩
 · obtain ⟨m,⟨o,_,_,ho,_⟩,_⟩:=I.loc
   exact free _ o (fun z=>(E4 _ z).2.1 rfl) ho I.free
 · obtain ⟨v,o,ho,hd⟩:=I.cell x c e
   exact free c o (fun z=>(E4 c z).2.2.1 x c e rfl) ho (I.eW x c e)
 · obtain ⟨e,n,ne,nf,d⟩:=I.pin p hp
   have B6:p.1∉ch:=fun z=>(E4 p.1 z).2.2.2 p hp rfl
   exact ⟨keep p.1 p.2 ne nf B6 e n,free p.1 p.2 B6 e n,ne,nf,d⟩
theorem Inv.un {t':Nat} (I:Inv X pins σ H s) (u:Un X.fs [] H H' s.heap h') (bD:jS X.prog X.w H' h'):Inv X pins σ H' { s with heap:=h',toks:=t' }:=by
 obtain ⟨m,⟨o,es,ep,ho,r⟩,_⟩:=id I.loc
 obtain ⟨sl,hL⟩:=u.any ho I.free (by simp)
 exact I.step (g':=s.gens) (d':=s.drawn) (ch:=[]) (fun _ z=>nomatch z) (fun b o _ hb _ e n=>u.keep b o e n hb (by simp)) (fun b o _ hb _ e n=>u.slot b o e n hb (by simp)) (fun b o _ e n=>u.free b o e n (by simp)) (fun b o _ e=>u.there b o e (by simp)) u.iJ u.gY u.iK (fun m' hm=>by
  obtain ⟨o',Sq,Sr,wK,r'⟩:=hm
  rw [ho] at wK; cases wK
  exact ⟨_,Sq,Sr,hL,r'⟩) bD I.bare
theorem Inv.call {g':Array GenState} {t':Nat} {d':Drawn} {ch:List Addr} (I:Inv X pins σ H s) (u:Un (kL X.stack) ch H H' s.heap h') (bD:jS X.prog X.w H' h') (hg:AllBare g')
  (E4:∀ b∈ch,(b∈X.ex∨X.s₀.heap.objs.size≤b)∧b≠X.env.locals∧(∀ x c,X.env.cells.lookup x=some c→c≠b)∧∀ p∈X.pn ++ pins,p.1≠b) :
  Inv X pins σ H' { s with heap:=h',gens:=g',drawn:=d',toks:=t' }:=by
 obtain ⟨m,⟨o,es,ep,ho,r⟩,_⟩:=id I.loc
 obtain ⟨sl,hL⟩:=u.any ho I.free fun z=>(E4 _ z).2.1 rfl
 exact I.step (ch:=ch) E4 (fun b o hL hb hc e n=>u.keep b o e n (fun z=>(cL.mp (I.wL b z)).elim hL hb) hc) (fun b o _ _ hc e n=>u.any e n hc) (fun b o hc e n=>u.free b o e n hc) (fun b o hc e=>u.there b o e hc) u.iJ u.gY u.iK (fun m' hm=>by
  obtain ⟨o',Sq,Sr,wK,r'⟩:=hm
  rw [ho] at wK; cases wK
  exact ⟨_,Sq,Sr,hL,r'⟩) bD hg
theorem Inv.turned {t':Nat} {it:Addr} (I:Inv X pins σ H s) (k:∀ b o,b≠it→s.heap.get? b=some o→h'.get? b=some o) (hn:H it=none) (hL:it≠X.env.locals)
  (h1:it∈X.ex∨X.s₀.heap.objs.size≤it) (h2:∀ x c,X.env.cells.lookup x=some c→c≠it) (h3:∀ p∈X.pn ++ pins,p.1≠it):Inv X pins σ H { s with heap:=h',toks:=t' }:=by
 have VN:∀ b u,H b=some u→b≠it:=fun b u e z=>by rw [z,hn] at e; cases e
 refine I.step (g':=s.gens) (d':=s.drawn) (ch:=[it]) (fun b hb=>?_) (fun b o _ _ hc e _=>k b o (fun z=>hc (by simp [z])) e) (fun b o _ _ hc e _=>⟨o.slots,k b o (fun z=>hc (by simp [z])) e⟩) (fun _ _ _ _ n=>n)
  (fun b o hc e=>⟨o,k b o (fun z=>hc (by simp [z])) e⟩) (fun _ _ e=>e) (fun _ _ _ e=>e) (fun b ps e=>⟨#[],by rw [e]; simp⟩) (fun m hm=>?_) (fun b u e=>?_) I.bare
 · have e:b=it:=by simpa using hb
   subst e
   exact ⟨h1,hL,h2,h3⟩
 · obtain ⟨o,es,ep,ho,r⟩:=hm
   exact ⟨o,es,ep,k _ o (Ne.symm hL) ho,r⟩
 · refine (I.bD b u e).nD (fun c v hc q=>k c v ?_ q) (fun _ q=>q) fun _ _ q=>q
   rcases hc with z | z
   · rw [z]; exact VN b u e
   · exact VN c _ z
theorem Inv.tok (I:Inv X pins σ H s) (t:Nat):Inv X pins σ H { s with toks:=t }:=I.un (h':=s.heap) (t':=t) Un.refl I.bD
theorem Inv.kept {t':Nat} (I:Inv X pins σ H s) (k:∀ b u,s.heap.get? b=some u→h'.get? b=some u):Inv X pins σ H { s with heap:=h',toks:=t' }:=I.un (Un.kept k) (I.bD.kept k)
theorem Inv.laid {a:Addr} {o:HO} {t':Nat} (I:Inv X pins σ H s) (k:∀ b u,s.heap.get? b=some u→h'.get? b=some u) (hp:s.heap.objs.size≤a) (new:bQ X.prog X.w (upd H a o) h' a o) :
 Inv X pins σ (upd H a o) { s with heap:=h',toks:=t' }:=I.un (Un.laid k hp (I.bD.fresh hp)) (I.bD.laid k hp new)
theorem Inv.write {x e:Addr} {o:HO} {t':Nat} (I:Inv X pins σ H s) (mu:NR (H x)) (he:e=x∨H e=some (.own x)) (k:∀ b u,b≠e→s.heap.get? b=some u→h'.get? b=some u) (Iq:∃ u,h'.get? e=some u)
 (new:bQ X.prog X.w (upd H x o) h' x o):Inv X pins σ (upd H x o) { s with heap:=h',toks:=t' }:=I.un (Un.write mu he k Iq) (I.bD.write mu he k Iq new)
theorem Inv.weak {σ':List (Option V)} (I:Inv X pins σ H s) (hl:σ'.length=σ.length) (w:∀ (i:Nat) v,σ'[i]?=some (some v)→σ[i]?=some (some v)):Inv X pins σ' H s :=
 ⟨I.ok,I.os,I.bare,I.base,let ⟨m,hn,Ss⟩:=I.loc; ⟨m,hn,fun i x v e1 e2 e3=>Ss i x v e1 (w i v e2) e3⟩,I.cell,I.free,I.eW,I.pin,I.bD,hl.trans I.len⟩
theorem Inv.yM {yN:List (Addr×Obj)} (I:Inv X pins σ H s) (h:∀ p∈yN,s.heap.get? p.1=some p.2∧H p.1=none∧p.1≠X.env.locals∧p.1∉X.fs∧∀ v,p.2.data≠.cell v):Inv X yN σ H s :=
 ⟨I.ok,I.os,I.bare,I.base,I.loc,I.cell,I.free,I.eW,fun p hp=>(iI.mp hp).elim (fun z=>I.pin p (lM _ z)) (h p),I.bD,I.len⟩
theorem oz {N:List Str} (hN:N.Nodup) {i j:Nat} {x:Str} (a:N[i]?=some x) (b:N[j]?=some x):i=j:=by
 obtain ⟨h1,e1⟩:=fY.mp a
 obtain ⟨h2,e2⟩:=fY.mp b
 exact (List.getElem_inj hN).mp (e1.trans e2.symm)
theorem rq {M:Model} {A:Around} {E:Value→Shared→Prop} {i:Nat} {x:Str} {v:V} {u:Value} {Q:Unit→Shared→Prop} (I:Inv X pins σ H s) (hN:X.N.Nodup) (hi:X.N[i]?=some x) (hx:Loc X.env.scope x) (r:RelV v u)
  (h:∀ s',Inv X pins (σ.set i (some v)) H s'→(∃ a,Heap.SameBut a s.heap s'.heap∧(a=X.env.locals∨X.env.cells.lookup x=some a))→Q () s') (hf:X.fn x=true∨X.env.scope.names.lookup x=some .local:=by first | exact .inl rfl | exact .inr rfl | assumption):wpAny M A (storeName X.env x u) Q E s:=by
 obtain ⟨m,hn,hl⟩:=id I.loc
 have JO:(X.env.scope.kind == .class || (X.env.scope.kind == .module && X.env.locals != X.env.globals))=false:=by rw [I.ok.kind]; rfl
 have Ri:i < σ.length:=by rw [I.len]; exact (fY.mp hi).1
 have B5:=I.B5
 have tracked:∀ {a:Addr} {h':Heap},(∃ o,s.heap.get? a=some o∧H a=none)→Heap.SameBut a s.heap h'→jS X.prog X.w H h':=fun {a h'} ha hs b ob e=>by
  obtain ⟨_,_,Ir⟩:=ha
  refine (I.bD b ob e).nD (fun c w' hc q=>(hs.2 c ?_).trans q) (fun _ q=>q) fun _ _ q=>q
  rintro rfl
  rcases hc with rfl | hc
  · rw [Ir] at e; cases e
  · rw [Ir] at hc; cases hc
 rcases hx with hk | hk
 · refine wpAny_storeName_local hk hn (fun h' JP hs=>?_) JO
   obtain ⟨oL,_,_,VQ,_⟩:=id hn
   refine h _ ⟨I.ok,I.os,I.bare,⟨fun b o e n hb hx=>?_,fun b o e n hb hx=>?_,I.base.free,fun b o e hx=>?_,I.base.iJ,I.base.gY,I.base.iK⟩,⟨_,JP,fun j y v' e1 e2 e3=>?_⟩,fun y c e=>?_,I.free,I.eW,fun p hp=>?_,tracked ⟨oL,VQ,I.free⟩ hs,by simpa using I.len⟩ ⟨_,hs,.inl rfl⟩
   · exact (hs.2 b (gW (nR (d7 e) I.ok.above))).trans (I.base.keep b o e n hb hx)
   · obtain ⟨sl,e1⟩:=I.base.slot b o e n hb hx
     exact ⟨sl,(hs.2 b (gW (nR (d7 e) I.ok.above))).trans e1⟩
   · obtain ⟨o',e1⟩:=I.base.there b o e hx
     exact ⟨o',(hs.2 b (gW (nR (d7 e) I.ok.above))).trans e1⟩
   · by_cases hj:j=i
     · subst hj
       rw [hi] at e1; cases e1
       rw [yI Ri] at e2
       cases e2
       exact ⟨u,r,.inl ⟨hk,by simp⟩⟩
     · rw [uI (Ne.symm hj)] at e2
       obtain ⟨u',r',q⟩:=hl j y v' e1 e2 e3
       refine ⟨u',r',?_⟩
       rcases q with ⟨k,e⟩ | ⟨k,c,e,z⟩
       · refine .inl ⟨k,?_⟩
         have:y≠x:=fun e=>hj (oz hN e1 (e▸hi))
         simp [this,e]
       · exact .inr ⟨k,c,e,z.sameBut hs (B5 y c e)⟩
   · obtain ⟨w',z⟩:=I.cell y c e
     exact ⟨w',z.sameBut hs (B5 y c e)⟩
   · obtain ⟨e,n,ne,nf,d⟩:=I.pin p hp
     exact ⟨(hs.2 p.1 ne).trans e,n,ne,nf,d⟩
 · have Su:X.fn x=true:=by
    rcases hf with z | z
    · exact z
    · rw [z] at hk; cases hk
   obtain ⟨c,hc⟩:=I.ok.has x (.inl hk)
   obtain ⟨w',z⟩:=I.cell x c hc
   refine wpAny_storeName_cell I.ok.kind hk hc z (fun h' NW hs=>?_)
   obtain ⟨oc,VU,Sv⟩:=id z
   refine h { s with heap:=h' } ⟨I.ok,I.os,I.bare,⟨fun b o e n hb hx=>?_,fun b o e n hb hx=>?_,I.base.free,fun b o e hx=>?_,I.base.iJ,I.base.gY,I.base.iK⟩,⟨m,hn.sameBut hs (Ne.symm (B5 x c hc)),fun j y v' e1 e2 e3=>?_⟩,fun y c' e=>?_,I.free,I.eW,fun p hp=>?_,tracked ⟨oc,VU,I.eW x c hc⟩ hs,by simpa using I.len⟩ ⟨c,hs,.inr hc⟩
   · exact (hs.2 b (gW (nR (d7 e) (I.ok.Nl x c Su hc)))).trans (I.base.keep b o e n hb hx)
   · obtain ⟨sl,e1⟩:=I.base.slot b o e n hb hx
     exact ⟨sl,(hs.2 b (gW (nR (d7 e) (I.ok.Nl x c Su hc)))).trans e1⟩
   · obtain ⟨o',e1⟩:=I.base.there b o e hx
     exact ⟨o',(hs.2 b (gW (nR (d7 e) (I.ok.Nl x c Su hc)))).trans e1⟩
   · by_cases hj:j=i
     · subst hj
       rw [hi] at e1; cases e1
       rw [yI Ri] at e2
       cases e2
       exact ⟨u,r,.inr ⟨.inl hk,c,hc,NW⟩⟩
     · rw [uI (Ne.symm hj)] at e2
       obtain ⟨u',r',q⟩:=hl j y v' e1 e2 e3
       refine ⟨u',r',?_⟩
       rcases q with q | ⟨k,c',e,z'⟩
       · exact .inl q
       · refine .inr ⟨k,c',e,z'.sameBut hs ?_⟩
         rintro rfl
         exact hj (oz hN e1 (I.ok.inj _ _ _ e hc▸hi))
   · by_cases VY:c'=c
     · subst VY; exact ⟨_,NW⟩
     · obtain ⟨w2,z2⟩:=I.cell y c' e
       exact ⟨w2,z2.sameBut hs VY⟩
   · obtain ⟨e,n,ne,nf,d⟩:=I.pin p hp
     refine ⟨(hs.2 p.1 ?_).trans e,n,ne,nf,d⟩
     intro q
     rw [q,VU] at e
     have q':oc=p.2:=Option.some.inj e
     exact d w' (by rw [← q']; exact Sv)
theorem iR {M:Model} {A:Around} {E:Value→Shared→Prop} {i:Nat} {x:Str} {v:V} {u:Value} {Q:Unit→Shared→Prop} (I:Inv X pins σ H s) (hN:X.N.Nodup) (hi:X.N[i]?=some x) (hx:Loc X.env.scope x) (r:RelV v u)
  (h:∀ s',Inv X pins (σ.set i (some v)) H s'→Q () s') (hf:X.fn x=true∨X.env.scope.names.lookup x=some .local:=by first | exact .inl rfl | exact .inr rfl | assumption):wpAny M A (storeName X.env x u) Q E s :=
 rq I hN hi hx r (fun s' I' _=>h s' I') hf
theorem Inv.B7 {s':Shared} {ch:List Addr} (I:Inv X pins σ H s) (ho:s'.os=s.os) (u:Un (kL X.stack) ch H H' s.heap s'.heap) (bD:jS X.prog X.w H' s'.heap) (hg:AllBare s'.gens)
  (E4:∀ b∈ch,(b∈X.ex∨X.s₀.heap.objs.size≤b)∧b≠X.env.locals∧(∀ x c,X.env.cells.lookup x=some c→c≠b)∧∀ p∈X.pn ++ pins,p.1≠b):Inv X pins σ H' s':=by
 obtain ⟨h',g',d',t',o'⟩:=s'
 have e:o'=s.os:=ho
 subst e
 exact I.call (g':=g') (t':=t') (d':=d') u bD hg E4
end
abbrev XK:=Value→Option Addr→Hp→Prop
abbrev St:=List (Option V)
abbrev VK:=V→Hp→Prop
abbrev TE:=St→Hp→VK→Prop
abbrev TT:=St→Hp→(Bool→Hp→Prop)→Prop
abbrev TA:=St→Hp→(List V→Hp→Prop)→Prop
structure Ends where
 nx:St→Hp→Prop
 rt:VK
 bk:St→Hp→Prop:=fun _ _=>False
 ct:St→Hp→Prop:=fun _ _=>False
abbrev TS:=Ends→St→Hp→Prop
def EP (X:Cx) (pins:List (Addr×Obj)) (σ:St) (Q:VK) (u:Value) (s':Shared):Prop:=∃ v H',Inv X pins σ H' s'∧RelV v u∧Q v H'
def TP (X:Cx) (pins:List (Addr×Obj)) (σ:St) (Q:Bool→Hp→Prop) (b:Bool) (s':Shared):Prop:=∃ H',Inv X pins σ H' s'∧Q b H'
def AP (X:Cx) (pins:List (Addr×Obj)) (σ:St) (Q:List V→Hp→Prop) (us:List Value) (s':Shared):Prop:=∃ vs H',Inv X pins σ H' s'∧Vals vs us∧Q vs H'
def SP (X:Cx) (pins:List (Addr×Obj)) (D:Ends) (f:Flow) (s':Shared):Prop :=
 match f with
 | .next=>∃ σ' H',Inv X pins σ' H' s'∧D.nx σ' H'
 | .brk=>∃ σ' H',Inv X pins σ' H' s'∧D.bk σ' H'
 | .cont=>∃ σ' H',Inv X pins σ' H' s'∧D.ct σ' H'
 | .ret u=>∃ v σ' H',Inv X pins σ' H' s'∧RelV v u∧D.rt v H'
def PE (X:Cx) (e:Expr) (t:TE):Prop :=
 ∀ (pins:List (Addr×Obj)) (s:Shared) (σ:St) (H:Hp) (Q:VK),Inv X pins σ H s→t σ H Q→wpAny (model X.prog X.w) X.A (eval e X.env) (EP X pins σ Q) X.xe s
def PT (X:Cx) (e:Expr) (t:TT):Prop :=
 ∀ (pins:List (Addr×Obj)) (s:Shared) (σ:St) (H:Hp) (Q:Bool→Hp→Prop),Inv X pins σ H s→t σ H Q→wpAny (model X.prog X.w) X.A (isTrue e X.env (eval e X.env)) (TP X pins σ Q) X.xe s
def PW (X:Cx) (e:Expr) (t:TT):Prop :=
 ∀ (whole:Sem Value) (pins:List (Addr×Obj)) (s:Shared) (σ:St) (H:Hp) (Q:Bool→Hp→Prop),Inv X pins σ H s→t σ H Q→wpAny (model X.prog X.w) X.A (isTrue e X.env whole) (TP X pins σ Q) X.xe s
theorem PW.pt {X:Cx} {e:Expr} {t:TT} (h:PW X e t):PT X e t:=h _
def PA (X:Cx) (es:List Expr) (t:TA):Prop :=
 ∀ (pos:Pos) (pins:List (Addr×Obj)) (s:Shared) (σ:St) (H:Hp) (Q:List V→Hp→Prop),Inv X pins σ H s→t σ H Q→wpAny (model X.prog X.w) X.A (spliced (backTo pos (starEach es X.env))) (AP X pins σ Q) X.xe s
def PS (X:Cx) (st:Stmt) (t:TS):Prop :=
 ∀ (pins:List (Addr×Obj)) (s:Shared) (σ:St) (H:Hp) (D:Ends),Inv X pins σ H s→t D σ H→wpAny (model X.prog X.w) X.A (exec st X.env) (SP X pins D) X.xe s
def nE (X:Cx) (st:List Stmt) (t:TS):Prop :=
 ∀ (pins:List (Addr×Obj)) (s:Shared) (σ:St) (H:Hp) (D:Ends),Inv X pins σ H s→t D σ H→wpAny (model X.prog X.w) X.A (execs st X.env) (SP X pins D) X.xe s
theorem bV {α:Type} {t:Sem α} {Q Q':α→Shared→Prop} {M:Model} {A:Around} {E:Value→Shared→Prop} {s:Shared} (h:wpAny M A t Q E s) (hQ:∀ a s,Q a s→Q' a s):wpAny M A t Q' E s:=wpAny_mono h hQ fun _ _ x=>x
section
variable {X:Cx}
def JQ (i:Nat):TE:=fun σ H Q=>∃ v,σ[i]?=some (some v)∧Q v H
def tC (v:V):TE:=fun _ H Q=>Q v H
theorem di {i:Nat} {x:Str} {pos:Pos} (hN:X.N[i]?=some x) (hv:sI X.env.scope x) (hd:gh x:=by decide) (iL:uH x:=by decide):PE X (.Name x pos) (JQ i):=by
 intro pins s σ H Q I h
 obtain ⟨v,e,h⟩:=h
 obtain ⟨m,hn,hl⟩:=I.loc
 obtain ⟨u,r,l⟩:=hl i x v hN e hv
 have fin:EP X pins σ Q u s:=⟨v,H,I,r,h⟩
 rcases l with ⟨hk,hm⟩ | ⟨hk,c,hc,yO⟩
 · exact wpAny_Name (wpAny_loadName_local I.ok.kind hk hn hm fin) hd
 · rcases hk with hk | hk
   · exact wpAny_Name (wpAny_loadName_cell I.ok.kind hk hc yO fin) hd
   · exact wpAny_Name (wpAny_loadName_free I.ok.kind hk hc yO fin iL) hd
theorem JR {i j pos}:PE X (.Constant (.int i) j pos) (tC (.int i)):=fun _ _ _ H _ I h=>wpAny_Constant_int ⟨.int i,H,I.tok _,⟨_,rfl⟩,h⟩
theorem NX {b j pos}:PE X (.Constant (.bool b) j pos) (tC (.bl b)):=fun _ _ _ H _ I h=>Constant_bool ⟨.bl b,H,I,rfl,h⟩
theorem JS {j pos}:PE X (.Constant .none j pos) (tC .br):=fun _ _ _ H _ I h=>Constant_none ⟨.br,H,I,rfl,h⟩
theorem JT {x j pos}:PE X (.Constant (.str x) j pos) (tC (.str x)):=fun _ _ _ H _ I h=>Calls.Constant_str ⟨.str x,H,I.tok _,⟨_,rfl⟩,h⟩
def Gl (X:Cx) (x:Str):Prop:=X.env.kindOf x=some .globalImplicit
theorem gZ {E:Value→Shared→Prop} {pins:List (Addr×Obj)} {s:Shared} {σ:St} {H:Hp} {x:Str} {u:Value} {pos:Pos} {Q:Value→Shared→Prop} (I:Inv X pins σ H s) (hg:Gl X x) (hm:X.mg x=some u) (h:Q u s)
  (hd:gh x:=by decide):wpAny (model X.prog X.w) X.A (eval (.Name x pos) X.env) Q E s :=
 Calls.Name_function_global I.ok.kind hg (Calls.loadGlobal_global (by rw [I.ok.glob]; exact I.mod.glob.keeps I.bk) hm h) hd
theorem ke {E:Value→Shared→Prop} {pins:List (Addr×Obj)} {s:Shared} {σ:St} {H:Hp} {x:Str} {u:Value} {pos:Pos} {Q:Value→Shared→Prop} (I:Inv X pins σ H s) (hg:Gl X x) (hm:X.mg x=none) (hv:bootBuiltins x=some u) (h:Q u s)
  (hn:x≠"__name__":=by decide) (hd:gh x:=by decide):wpAny (model X.prog X.w) X.A (eval (.Name x pos) X.env) Q E s:=by
 obtain ⟨mb,h1,h2⟩:=I.mod.blt
 exact Calls.Name_function_global I.ok.kind hg (Calls.loadGlobal_builtin (by rw [I.ok.glob]; exact I.mod.glob.keeps I.bk) hm (by rw [I.ok.blt]; exact h1.keeps I.bk) ((h2 x hn).trans hv) h) hd
theorem nX {x:Str} {v:V} {u:Value} {pos:Pos} (hg:Gl X x) (hm:X.mg x=some u) (r:RelV v u) (hd:gh x:=by decide):PE X (.Name x pos) (tC v) :=
 fun _ _ _ H _ I h=>gZ I hg hm ⟨v,H,I,r,h⟩ hd
theorem Fu {x:Str} {v:V} {u:Value} {pos:Pos} (hg:Gl X x) (hm:X.mg x=none) (hv:bootBuiltins x=some u) (r:RelV v u) (hn:x≠"__name__":=by decide) (hd:gh x:=by decide):PE X (.Name x pos) (tC v) :=
 fun _ _ _ H _ I h=>ke I hg hm hv ⟨v,H,I,r,h⟩ hn hd
variable {a b:Expr} {ta tb:TE} {pos:Pos}
def tB (t:TE):TT:=fun σ H Q=>t σ H fun x H1=>∃ c,x = .bl c∧Q c H1
theorem JU {e:Expr} {t:TE} (h:PE X e t) (he:∀ whole,isTrue e X.env whole=(do let v ← whole; standAt e.pos; holding [v] (truthy v)):=by intro _; rfl):PT X e (tB t):=by
 intro pins s σ H Q I hw
 refine isTrue_plain (bV (h pins s σ H _ I hw) fun v s1 ⟨x,H1,I1,r1,q1⟩=>?_) (he _)
 obtain ⟨d,rfl,q⟩:=q1
 cases r1
 exact wpAny_truthy_bool ⟨H1,I1,q⟩
variable {tA NY:TT} {rest:List Expr}
def Sw (t u:TT):TT:=fun σ H Q=>t σ H fun c H1=>if c=true then u σ H1 Q else Q false H1
def WY (t u:TT):TT:=fun σ H Q=>t σ H fun c H1=>if c=true then Q true H1 else u σ H1 Q
def Sx (t:TT):TT:=fun σ H Q=>t σ H fun c H1=>Q (!c) H1
theorem pw_and1 (ha:PT X a tA):PW X (.BoolOp .And [a] pos) tA:=by
 intro wh pins s σ H Q I h
 refine isTrue_and (bV (ha pins s σ H Q I h) fun c s1 e=>?_)
 cases c with
 | true=>exact isTrue_and_nil e
 | false=>exact e
theorem pw_or1 (ha:PT X a tA):PW X (.BoolOp .Or [a] pos) tA:=by
 intro wh pins s σ H Q I h
 refine isTrue_or (bV (ha pins s σ H Q I h) fun c s1 e=>?_)
 cases c with
 | false=>exact isTrue_or_nil e
 | true=>exact e
theorem pw_and (ha:PT X a tA) (hb:PW X (.BoolOp .And (b :: rest) pos) NY):PW X (.BoolOp .And (a :: b :: rest) pos) (Sw tA NY):=by
 intro wh pins s σ H Q I h
 refine isTrue_and (bV (ha pins s σ H _ I h) fun c s1 ⟨H1,I1,q1⟩=>?_)
 cases c with
 | true=>exact hb wh pins s1 σ H1 Q I1 q1
 | false=>exact ⟨H1,I1,q1⟩
theorem pw_or (ha:PT X a tA) (hb:PW X (.BoolOp .Or (b :: rest) pos) NY):PW X (.BoolOp .Or (a :: b :: rest) pos) (WY tA NY):=by
 intro wh pins s σ H Q I h
 refine isTrue_or (bV (ha pins s σ H _ I h) fun c s1 ⟨H1,I1,q1⟩=>?_)
 cases c with
 | true=>exact ⟨H1,I1,q1⟩
 | false=>exact hb wh pins s1 σ H1 Q I1 q1
theorem JV (ha:PT X a tA):PT X (.UnaryOp .Not a pos) (Sx tA):=by
 intro pins s σ H Q I h
 exact isTrue_not (ha pins s σ H (fun c H1=>Q (!c) H1) I h)
def NZ (ta tb:TE):TE:=fun σ H Q=>ta σ H fun x H1=>∃ c,x = .bl c∧if c=true then tb σ H1 Q else Q (.bl false) H1
def Sy (ta tb:TE):TE:=fun σ H Q=>ta σ H fun x H1=>∃ c,x = .bl c∧if c=true then Q (.bl true) H1 else tb σ H1 Q
def N0 (ta:TE):TE:=fun σ H Q=>ta σ H fun x H1=>∃ c,x = .bl c∧Q (.bl (!c)) H1
theorem JW {op} {t:TE} (h:PE X a t):PE X (.BoolOp op [a] pos) t:=fun pins s σ H Q I hw=>BoolOp_one (h pins s σ H Q I hw)
theorem JX (ha:PE X a ta) (hb:PE X (.BoolOp .And (b :: rest) pos) tb):PE X (.BoolOp .And (a :: b :: rest) pos) (NZ ta tb):=by
 intro pins s σ H Q I h
 refine BoolOp_and (bV (ha pins s σ H _ I h) fun v s1 ⟨x,H1,I1,r1,q1⟩=>?_)
 obtain ⟨c,rfl,q1⟩:=q1
 cases r1
 refine wpAny_truthy_bool ?_
 cases c with
 | true=>exact hb pins s1 σ H1 Q I1 q1
 | false=>exact ⟨.bl false,H1,I1,rfl,q1⟩
theorem N1 (ha:PE X a ta) (hb:PE X (.BoolOp .Or (b :: rest) pos) tb):PE X (.BoolOp .Or (a :: b :: rest) pos) (Sy ta tb):=by
 intro pins s σ H Q I h
 refine BoolOp_or (bV (ha pins s σ H _ I h) fun v s1 ⟨x,H1,I1,r1,q1⟩=>?_)
 obtain ⟨c,rfl,q1⟩:=q1
 cases r1
 refine wpAny_truthy_bool ?_
 cases c with
 | false=>exact hb pins s1 σ H1 Q I1 q1
 | true=>exact ⟨.bl true,H1,I1,rfl,q1⟩
theorem JY (ha:PE X a ta):PE X (.UnaryOp .Not a pos) (N0 ta):=by
 intro pins s σ H Q I h
 refine UnaryOp_ (bV (ha pins s σ H _ I h) fun v s1 ⟨x,H1,I1,r1,q1⟩=>?_)
 obtain ⟨c,rfl,q1⟩:=q1
 cases r1
 exact not_of (wpAny_truthy_bool ⟨.bl (!c),H1,I1,rfl,q1⟩)
end
def eY (K:PySem.W.Frag) (H:Hp) (a:Addr) (xs:List V):Prop :=
 Rd H a (.lst xs) ∨
  ∃ (o:Obj) (aK:Array Value) (n:Nat),K.lookup a=some o∧o.cls = .type "list"∧o.dict=none∧o.data = .seq aK n∧aK.size≤sizeLine∧Vals xs aK.toList
def d9 (K:PySem.W.Frag) (H:Hp) (a:Addr) (xs:List V):Prop :=
 Rd H a (.tup xs) ∨
  ∃ (o:Obj) (aK:Array Value) (n:Nat),K.lookup a=some o∧o.cls = .type "tuple"∧o.data = .seq aK n∧aK.size≤sizeLine∧Vals xs aK.toList
def Sz:Value→Option V
 | .none=>some .br
 | .bool b=>some (.bl b)
 | .int i _=>some (.int i)
 | .str x _=>some (.str x)
 | .bytes b _=>some (.VJ b)
 | .float b _=>some (.VL b)
 | .ref a=>some (.ref a)
 | .type n=>some (.ty n)
 | _=>none
theorem RelV.abs {x:V} {u:Value} (r:RelV x u):Sz u=some x:=by
 cases x with
 | br=>cases r; rfl
 | bl _=>cases r; rfl
 | ref _=>cases r; rfl
 | ty _=>cases r; rfl
 | _=>obtain ⟨t,rfl⟩:=r; rfl
theorem RelV.inj {x y:V} {u:Value} (r:RelV x u) (q:RelV y u):x=y:=Option.some.inj (r.abs.symm.trans q.abs)
theorem Vals.inj:∀ {xs ys:List V} {us:List Value},Vals xs us→Vals ys us→xs=ys
 | _,_,_,.nil,.nil=>rfl
 | _,_,_,.cons r t,.cons r' t'=>by rw [r.inj r',Vals.inj t t']
section
variable {X:Cx} {pins:List (Addr×Obj)} {σ:St} {H:Hp} {s:Shared} {a:Addr} {xs ys:List V}
theorem eY.of {K:PySem.W.Frag} (h:H a=some (.lst xs)):eY K H a xs:=.inl (.inl h)
theorem d9.of {K:PySem.W.Frag} (h:H a=some (.tup xs)):d9 K H a xs:=.inl (.inl h)
theorem Inv.list (I:Inv X pins σ H s) (h:eY X.K H a xs):∃ aK:List Value,Vals xs aK∧PlainL s.heap a aK.toArray∧xs.length≤sizeLine:=by
 rcases h with h | ⟨o,aK,n,hk,hc,hd,hs,hz,r⟩
 · obtain ⟨z,aK,n,r,e⟩:=h.ok I.bD
   exact ⟨aK,r,⟨_,n,e,rfl,rfl,rfl⟩,z⟩
 · refine ⟨aK.toList,r,⟨o,n,I.jZ a o hk,hc,hd,by simpa using hs⟩,?_⟩
   have e:=r.length
   simp only [Fi] at e
   omega
theorem Inv.tuple (I:Inv X pins σ H s) (h:d9 X.K H a xs):∃ aK:List Value,Vals xs aK∧IsTup s.heap a aK.toArray∧xs.length≤sizeLine:=by
 rcases h with h | ⟨o,aK,n,hk,hc,hs,hz,r⟩
 · obtain ⟨z,aK,r,p⟩:=h.ok I.bD
   exact ⟨aK,r,p,z⟩
 · refine ⟨aK.toList,r,⟨o,I.jZ a o hk,hc,n,by simpa using hs⟩,?_⟩
   have e:=r.length
   simp only [Fi] at e
   omega
theorem Inv.kN (I:Inv X pins σ H s) (h:eY X.K H a xs) (h':eY X.K H a ys):xs=ys:=by
 obtain ⟨aK,r,⟨o,n,e,_,_,d⟩,_⟩:=I.list h
 obtain ⟨its',r',⟨o',n',e',_,_,d'⟩,_⟩:=I.list h'
 rw [e] at e'; cases e'
 rw [d] at d'
 injection d' with d1 _
 have:aK=its':=by simpa using congrArg Array.toList d1
 subst this
 exact r.inj r'
theorem Inv.lV (I:Inv X pins σ H s) (h:d9 X.K H a xs) (h':d9 X.K H a ys):xs=ys:=by
 obtain ⟨aK,r,⟨o,e,_,n,d⟩,_⟩:=I.tuple h
 obtain ⟨its',r',⟨o',e',_,n',d'⟩,_⟩:=I.tuple h'
 rw [e] at e'; cases e'
 rw [d] at d'
 injection d' with d1 _
 have:aK=its':=by simpa using congrArg Array.toList d1
 subst this
 exact r.inj r'
end
abbrev Cx.iS (X:Cx) (E:Value→Shared→Prop):Cx:={ X with xe:=E }
abbrev Cx.nY (X:Cx):Cx:=X.iS fun _ _=>False
theorem Cx.Ok.iS {X:Cx} (ok:X.Ok) (E:Value→Shared→Prop):(X.iS E).Ok :=
 ⟨ok.mod,ok.kind,ok.glob,ok.blt,ok.above,ok.inj,ok.has,ok.Nl,ok.hd,ok.frames,ok.NV,ok.Sm,ok.bs,ok.BO,ok.zZ,ok.B4,ok.kM,ok.Fs⟩
theorem Cx.Ok.gi {X:Cx} {E:Value→Shared→Prop} (ok:(X.iS E).Ok):X.Ok :=
 ⟨ok.mod,ok.kind,ok.glob,ok.blt,ok.above,ok.inj,ok.has,ok.Nl,ok.hd,ok.frames,ok.NV,ok.Sm,ok.bs,ok.BO,ok.zZ,ok.B4,ok.kM,ok.Fs⟩
section
variable {X:Cx} {pins:List (Addr×Obj)} {σ:St} {H:Hp} {s:Shared} {E:Value→Shared→Prop}
theorem Inv.iS (I:Inv X pins σ H s) (E:Value→Shared→Prop):Inv (X.iS E) pins σ H s:=⟨I.ok.iS E,I.os,I.bare,I.base,I.loc,I.cell,I.free,I.eW,I.pin,I.bD,I.len⟩
theorem Inv.gi (I:Inv (X.iS E) pins σ H s):Inv X pins σ H s:=⟨I.ok.gi,I.os,I.bare,I.base,I.loc,I.cell,I.free,I.eW,I.pin,I.bD,I.len⟩
theorem SP.gi {D:Ends} {f:Flow} {s':Shared} (h:SP (X.iS E) pins D f s'):SP X pins D f s':=by
 cases f with
 | ret u=>obtain ⟨v,σ',H',I,r,q⟩:=h; exact ⟨v,σ',H',I.gi,r,q⟩
 | _=>obtain ⟨σ',H',I,q⟩:=h; exact ⟨σ',H',I.gi,q⟩
theorem PE.nY {e:Expr} {t:TE} (h:PE X.nY e t):PE X e t:=fun pins s σ H Q I hw =>
 wpAny_mono (h pins s σ H Q (I.iS _) hw) (fun _ _ ⟨v,H',I',r,q⟩=>⟨v,H',I'.gi,r,q⟩) fun _ _ z=>False.elim z
theorem PT.nY {e:Expr} {t:TT} (h:PT X.nY e t):PT X e t:=fun pins s σ H Q I hw =>
 wpAny_mono (h pins s σ H Q (I.iS _) hw) (fun _ _ ⟨H',I',q⟩=>⟨H',I'.gi,q⟩) fun _ _ z=>False.elim z
theorem nE.nY {st:List Stmt} {t:TS} (h:nE X.nY st t):nE X st t:=fun pins s σ H D I hw =>
 wpAny_mono (h pins s σ H D (I.iS _) hw) (fun _ _ q=>q.gi) fun _ _ z=>False.elim z
end
section
variable {X:Cx} {st:Stmt} {rest:List Stmt} {t u:TS} {e:Expr} {te:TE} {pos:Pos}
def N2:TS:=fun D σ H=>D.nx σ H
def SA (t u:TS):TS:=fun D σ H=>t { D with nx:=u D } σ H
theorem Fv:nE X [] N2:=fun _ _ σ H _ I h=>wpAny_execs_nil ⟨σ,H,I,h⟩
theorem kO (h1:PS X st t) (h2:nE X rest u):nE X (st :: rest) (SA t u):=by
 intro pins s σ H D I h
 refine wpAny_execs_cons (bV (h1 pins s σ H { D with nx:=u D } I h) fun f s1 q=>?_)
 cases f with
 | next =>
   obtain ⟨σ',H',I',q⟩:=q
   exact h2 pins s1 σ' H' D I' q
 | ret v=>exact q
 | _=>exact q
theorem nZ (h1:PS X st t):nE X [st] t:=by
 intro pins s σ H D I h
 refine wpAny_execs_cons (bV (h1 pins s σ H D I h) fun f s1 q=>?_)
 cases f with
 | next=>exact wpAny_execs_nil q
 | ret v=>exact q
 | _=>exact q
theorem Inv.quiet {pins:List (Addr×Obj)} {σ:St} {H:Hp} {s:Shared} (I:Inv X pins σ H s):interactive X.env=false:=by simp [interactive,I.ok.kind]
def N3 (te:TE):TS:=fun D σ H=>te σ H fun _ H1=>D.nx σ H1
theorem kP (he:PE X e te) (hs:swapsWith e none pos.line X.env=pure false:=by rfl):PS X (.Expr e pos) (N3 te):=by
 intro pins s σ H D I h
 exact wpAny_Expr_any (bV (he pins s σ H _ I h) fun v s1 ⟨x,H1,I1,r1,q1⟩=>⟨σ,H1,I1,q1⟩) I.quiet hs
def SD (te:TE):TS:=fun D σ H=>te σ H D.rt
theorem JZ (he:PE X e te):PS X (.Return (some e) pos) (SD te):=by
 intro pins s σ H D I h
 exact wpAny_Return_some (bV (he pins s σ H _ I h) fun v s1 ⟨x,H1,I1,r1,q1⟩=>⟨x,σ,H1,I1,r1,q1⟩)
def SE (c:TT) (t u:TS):TS:=fun D σ H=>c σ H fun b H1=>if b=true then t D σ H1 else u D σ H1
theorem N4 {c:Expr} {a b:List Stmt} {tc:TT} (hc:PT X c tc) (ha:nE X a t) (hb:nE X b u):PS X (.If c a b pos) (SE tc t u):=by
 intro pins s σ H D I h
 refine wpAny_If (bV (hc pins s σ H _ I h) fun d s1 ⟨H1,I1,q1⟩=>?_)
 cases d with
 | true=>exact ha pins s1 σ H1 D I1 q1
 | false=>exact hb pins s1 σ H1 D I1 q1
end
abbrev TG:=V→St→Hp→(St→Hp→Prop)→Prop
abbrev Fw:=List V→St→Hp→(St→Hp→Prop)→Prop
def PG (X:Cx) (target:Expr) (t:TG):Prop :=
 ∀ (pins:List (Addr×Obj)) (s:Shared) (σ:St) (H:Hp) (v:V) (u:Value) (Q:St→Hp→Prop),Inv X pins σ H s→RelV v u→t v σ H Q →
  wpAny (model X.prog X.w) X.A (assign target X.env u) (fun _ s'=>∃ σ' H',Inv X pins σ' H' s'∧Q σ' H') X.xe s
def B8 (X:Cx) (ts:List Expr) (t:Fw):Prop :=
 ∀ (pins:List (Addr×Obj)) (s:Shared) (σ:St) (H:Hp) (vs:List V) (us:List Value) (Q:St→Hp→Prop),Inv X pins σ H s→Vals vs us→t vs σ H Q →
  wpAny (model X.prog X.w) X.A (assignInOrder ((assignEach ts X.env).map (·.2)) us) (fun _ s'=>∃ σ' H',Inv X pins σ' H' s'∧Q σ' H') X.xe s
abbrev J_:=V→V→V→Hp→(Hp→Prop)→Prop
def N5 (X:Cx) (t:J_):Prop :=
 ∀ (pins:List (Addr×Obj)) (s:Shared) (σ:St) (H:Hp) (o i v:V) (ov iv u:Value) (Q:Hp→Prop),Inv X pins σ H s→RelV o ov→RelV i iv→RelV v u→t o i v H Q →
  wpAny (model X.prog X.w) X.A (setItem ov iv u) (fun _ s'=>∃ H',Inv X pins σ H' s'∧Q H') X.xe s
abbrev SG:=V→V→Hp→VK→Prop
def WZ (X:Cx) (op:Operator) (t:SG):Prop :=
 ∀ (pins:List (Addr×Obj)) (s:Shared) (σ:St) (H:Hp) (x y:V) (v u:Value) (Q:VK),Inv X pins σ H s→RelV x v→RelV y u→t x y H Q →
  wpAny (model X.prog X.w) X.A (inplaceOp op v u) (EP X pins σ Q) X.xe s
section
variable {X:Cx} {pos:Pos}
def iB (i:Nat):TG:=fun v σ H Q=>Q (σ.set i (some v)) H
theorem Fx {i:Nat} {x:Str} (hN:X.N.Nodup) (hi:X.N[i]?=some x) (hx:Loc X.env.scope x) (hf:X.fn x=true∨X.env.scope.names.lookup x=some .local:=by first | exact .inl rfl | exact .inr rfl | assumption):PG X (.Name x pos) (iB i):=by
 intro pins s σ H v u Q I r h
 exact wpAny_assign_Name (iR I hN hi hx r (fun s' I'=>⟨_,H,I',h⟩) hf)
def SH:Fw:=fun vs σ H Q=>vs=[]∧Q σ H
def N6 (t:TG) (u:Fw):Fw:=fun vs σ H Q=>∃ v r,vs=v :: r∧t v σ H fun σ' H'=>u r σ' H' Q
theorem Fy:B8 X [] SH:=by
 intro pins s σ H vs us Q I r h
 obtain ⟨e,h⟩:=h
 subst e
 cases r
 exact assignInOrder_nil ⟨σ,H,I,h⟩
theorem B9 {e:Expr} {es:List Expr} {t:TG} {u:Fw} (h1:PG X e t) (h2:B8 X es u)
  (hs:(assignEach (e :: es) X.env).map (·.2)=assign e X.env :: (assignEach es X.env).map (·.2):=by rfl):B8 X (e :: es) (N6 t u):=by
 intro pins s σ H vs us Q I r h
 obtain ⟨v,vr,e1,h⟩:=h
 subst e1
 cases r with
 | cons r rr =>
   rw [hs]
   refine assignInOrder_cons (bV (h1 pins s σ H _ _ _ I r h) fun _ s1 ⟨σ1,H1,I1,q1⟩=>?_)
   exact h2 pins s1 σ1 H1 _ _ Q I1 rr q1
def SI (K:PySem.W.Frag) (n:Nat) (t:Fw):TG:=fun v σ H Q=>∃ a xs,v = .ref a∧d9 K H a xs∧xs.length=n∧t xs σ H Q
theorem Ka {es:List Expr} {k:Nat} {t:Fw} {n:Nat} (hc:X.calm=true) (h:B8 X es t)
  (hn:(assignEach es X.env).length=n:=by rfl) (B_:(assignEach es X.env).findIdx? (·.1)=none:=by rfl):PG X (.Tuple es k pos) (SI X.K n t):=by
 intro pins s σ H v u Q I r hw
 obtain ⟨a,xs,e1,hq,hl,hw⟩:=hw
 subst e1
 cases r
 obtain ⟨aK,rv,ht,hz⟩:=I.tuple hq
 refine assign_Tuple_tuple (I.ok.hd hc) ht (by simp [hn,← hl,rv.length]) B_ fun h' hx=>?_
 have I1:Inv X pins σ H { s with heap:=h' }:=I.kept (t':=s.toks) fun b o e=>hx b o (gW (d7 e)) e
 exact h pins _ σ H xs _ Q I1 (by simpa using rv) hw
def SJ (to ti:TE) (t:J_):TG:=fun v σ H Q=>to σ H fun o H1=>ti σ H1 fun i H2=>t o i v H2 fun H3=>Q σ H3
theorem Kb {o i:Expr} {to ti:TE} {t:J_} (ho:PE X o to) (hi:PE X i ti) (hs:N5 X t)
  (ha:∀ v,assign (.Subscript o i pos) X.env v=(do
    let ov ← holding [v] (eval o X.env)
    let iv ← holding [v,ov] (eval i X.env)
    standAt pos
    holding [v,ov,iv] (setItem ov iv v)
    release [v,ov,iv] []):=by intro _; rfl):PG X (.Subscript o i pos) (SJ to ti t):=by
 intro pins s σ H v u Q I r h
 rw [ha]
 refine wpAny_bind (wpAny_holding (bV (ho pins s σ H _ I h) fun ov s1 ⟨x,H1,I1,r1,q1⟩=>?_))
 refine wpAny_bind (wpAny_holding (bV (hi pins s1 σ H1 _ I1 q1) fun iv s2 ⟨y,H2,I2,r2,q2⟩=>?_))
 refine wpAny_bind (wpAny_standAt (wpAny_bind (wpAny_holding (bV (hs pins s2 σ H2 x y v ov iv u _ I2 r1 r2 r q2) fun _ s3 ⟨H3,I3,q3⟩=>?_))))
 exact wpAny_release ⟨σ,H3,I3,q3⟩
def Fz (te:TE) (g:TG):TS:=fun D σ H=>te σ H fun x H1=>g x σ H1 D.nx
theorem B' {tg e:Expr} {te:TE} {g:TG} (he:PE X e te) (hg:PG X tg g) (hs:swapsWithSole [tg] e pos.line X.env=pure false:=by rfl) (hw:swappedStores [tg] e X.env=pure none:=by rfl)
  (h1:(assignEach [tg] X.env).map (·.2)=[assign tg X.env]:=by rfl):PS X (.Assign [tg] e pos) (Fz te g):=by
 intro pins s σ H D I h
 refine wpAny_Assign_stores (bV (he pins s σ H _ I h) fun v s1 ⟨x,H1,I1,r1,q1⟩=>?_) hs hw
 rw [h1]
 exact bV (hg pins s1 σ H1 x v _ I1 r1 q1) fun _ s2 q=>q
theorem wM {i:Nat} {x:Str} {e:Expr} {te:TE} {pos':Pos} (hN:X.N.Nodup) (hi:X.N[i]?=some x) (hx:Loc X.env.scope x) (he:PE X e te) (hs:swapsWith e (some (.Name x pos')) pos.line X.env=pure false:=by rfl) (hf:X.fn x=true∨X.env.scope.names.lookup x=some .local:=by first | exact .inl rfl | exact .inr rfl | assumption) :
  PS X (.Assign [.Name x pos'] e pos) (Fz te (iB i)):=by
 intro pins s σ H D I h
 refine wpAny_Assign_Name (bV (he pins s σ H _ I h) fun v s1 ⟨y,H1,I1,r1,q1⟩=>?_) hs
 exact iR I1 hN hi hx r1 (fun s2 I2=>⟨_,H1,I2,q1⟩) hf
def SK (i:Nat) (te:TE) (ti:SG):TS:=fun D σ H=>∃ x,σ[i]?=some (some x)∧te σ H fun y H1=>ti x y H1 fun z H2=>D.nx (σ.set i (some z)) H2
theorem Kc {i:Nat} {x:Str} {e:Expr} {te:TE} {op:Operator} {ti:SG} {pos':Pos} (hN:X.N.Nodup) (hi:X.N[i]?=some x) (hx:Loc X.env.scope x) (he:PE X e te) (ho:WZ X op ti) (hf:X.fn x=true∨X.env.scope.names.lookup x=some .local:=by first | exact .inl rfl | exact .inr rfl | assumption) :
  PS X (.AugAssign (.Name x pos') op e pos) (SK i te ti):=by
 intro pins s σ H D I h
 obtain ⟨v,e1,h⟩:=h
 obtain ⟨m,hn,hl⟩:=I.loc
 have W0:sI X.env.scope x:=by rcases hx with k | k; exact .inl k; exact .inr (.inl k)
 obtain ⟨u,r,l⟩:=hl i x v hi e1 W0
 refine wpAny_AugAssign_Name ?_
 have go:wpAny (model X.prog X.w) X.A (eval e X.env) (fun w s₂=>wpAny (model X.prog X.w) X.A (inplaceOp op u w) (fun r s₃=>wpAny (model X.prog X.w) X.A (storeName X.env x r) (fun _=>SP X pins D .next) X.xe s₃) X.xe s₂) X.xe s:=by
  refine bV (he pins s σ H _ I h) fun w s1 ⟨y,H1,I1,r1,q1⟩=>?_
  refine bV (ho pins s1 σ H1 v y u w _ I1 r r1 q1) fun z s2 ⟨zv,H2,I2,r2,q2⟩=>?_
  exact iR I2 hN hi hx r2 (fun s3 I3=>⟨_,H2,I3,q2⟩) hf
 rcases l with ⟨hk,hm⟩ | ⟨hk,c,hc,yO⟩
 · exact wpAny_loadName_local I.ok.kind hk hn hm go
 · rcases hk with hk | hk
   · exact wpAny_loadName_cell I.ok.kind hk hc yO go
   · rcases hx with k | k
     · have:X.env.scope.names.lookup x=some .free:=hk
       rw [k] at this; cases this
     · have:X.env.scope.names.lookup x=some .free:=hk
       rw [k] at this; cases this
end
section
variable {X:Cx} {pos:Pos}
def Kd (c:TT) (tb:TS):TS:=fun D σ H=>∃ W:Nat→St→Hp→Prop,(∃ m,W m σ H)∧∀ m σ H,W m σ H →
 c σ H fun b H1=>if b=true then ∃ N:St→Hp→Prop,(∀ σ' H',N σ' H'→∃ m',m' < m∧W m' σ' H')∧tb { D with nx:=N,ct:=N,bk:=D.nx } σ H1 else D.nx σ H1
theorem Ca {c:Expr} {body:List Stmt} {tc:TT} {tb:TS} (hp:PassesOwn (model X.prog X.w) X.A X.env X.xe) (hc:PT X c tc) (hb:nE X body tb):PS X (.While c body [] pos) (Kd tc tb):=by
 intro pins s σ H D I h
 obtain ⟨W,⟨m0,w0⟩,turn⟩:=h
 refine wpAny_While (codeAny_whileLoop (fun n s'=>∃ σ' H',Inv X pins σ' H' s'∧W n σ' H') ?_ m0 ⟨σ,H,I,w0⟩)
 rintro n s1 ⟨σ1,H1,I1,w1⟩
 refine wpAny_passesOwn hp (bV (hc pins s1 σ1 H1 _ I1 (turn n σ1 H1 w1)) fun b s2 ⟨H2,I2,q2⟩=>?_)
 cases b with
 | true =>
   obtain ⟨N,hN,q2⟩:=q2
   rw [if_pos rfl]
   refine wpAny_passesOwn hp (bV (hb pins s2 σ1 H2 _ I2 q2) fun f s3 q3=>?_)
   cases f with
   | next =>
     obtain ⟨σ3,H3,I3,n3⟩:=q3
     obtain ⟨m',hm,w3⟩:=hN σ3 H3 n3
     exact ⟨m',hm,σ3,H3,I3,w3⟩
   | cont =>
     obtain ⟨σ3,H3,I3,n3⟩:=q3
     obtain ⟨m',hm,w3⟩:=hN σ3 H3 n3
     exact ⟨m',hm,σ3,H3,I3,w3⟩
   | brk=>exact q3
   | ret v=>exact q3
 | false =>
   rw [if_neg nS]
   exact wpAny_execs_nil ⟨σ1,H2,I2,q2⟩
end
structure It where
 go:Nat→Hp→Prop
 Nm:Nat→Hp→V→Hp→Prop
 stop:Nat→Hp→Prop
def lW (X:Cx) (pins:List (Addr×Obj)) (H:Hp) (b:Addr):Prop :=
 H b=none∧b≠X.env.locals∧b∉X.fs∧(b∈X.ex∨X.s₀.heap.objs.size≤b)∧(∀ x c,X.env.cells.lookup x=some c→c≠b)∧∀ p∈X.pn ++ pins,p.1≠b
theorem Inv.qA {X:Cx} {pins:List (Addr×Obj)} {σ:St} {H H':Hp} {s:Shared} {b:Addr} (I:Inv X pins σ H s) (hb:s.heap.objs.size≤b) (hn:H' b=none):lW X pins H' b:=by
 refine ⟨hn,BN (nR I.lt hb),I.Sn hb,.inr (nB I.sz hb),fun x c e z=>?_,fun p hp z=>?_⟩
 · obtain ⟨v,q⟩:=I.cell x c e
   exact absurd (nR q.lt (by rw [z]; exact hb)) (E2 _)
 · exact absurd (nR (d7 (I.pin p hp).1) (by rw [z]; exact hb)) (E2 _)
structure Turn (P:Program) (w:World) (K:PySem.W.Frag) (tg:Expr) (J:It) (fp:List Addr) (it:Addr) (tn:Nat→Heap→Prop):Prop where
 mem:it∈fp
 obj:∀ i h,tn i h→∀ b∈fp,∃ o,h.get? b=some o∧∀ v,o.data≠.cell v
 keep:∀ i h h',tn i h→(∀ b∈fp,∀ o,h.get? b=some o→h'.get? b=some o)→tn i h'
 item:∀ (X:Cx),X.prog=P→X.w=w→X.K=K→X.calm=true→∀ (i:Nat) (pins:List (Addr×Obj)) (s:Shared) (σ:St) (H:Hp) (E:Value→Shared→Prop),Inv X pins σ H s→(∀ b∈fp,lW X pins H b)→tn i s.heap→J.go i H →
  wpAny (model P w) X.A (pyNext (.ref it)) (fun r s1=>∃ u,r=some u ∧
   wpAny (model P w) X.A (letOwnedTupleGo tg (.ref it) u) (fun _ s2=>∃ x H',Inv X pins σ H' s2∧RelV x u∧J.Nm i H x H'∧tn (i+1) s2.heap∧∀ b∈fp,H' b=none) E s1) E s
 done:∀ (X:Cx),X.prog=P→X.w=w→X.K=K→X.calm=true→∀ (i:Nat) (pins:List (Addr×Obj)) (s:Shared) (σ:St) (H:Hp) (E:Value→Shared→Prop),Inv X pins σ H s→(∀ b∈fp,lW X pins H b)→tn i s.heap→J.stop i H →
  wpAny (model P w) X.A (pyNext (.ref it)) (fun r s1=>r=none∧Inv X pins σ H s1) E s
 self:∀ (A:Around) (i:Nat) (s:Shared) (Q:Value→Shared→Prop) (E:Value→Shared→Prop),tn i s.heap→Q (.ref it) s→wpAny (model P w) A (pyIter (.ref it)) Q E s
abbrev TI:=St→Hp→(It→Hp→Prop)→Prop
def VZ (X:Cx) (pins:List (Addr×Obj)) (σ:St) (tg:Expr) (R:It→Hp→Prop) (Rj:Value) (s2:Shared):Prop :=
 ∃ (it:Addr) (fp:List Addr) (tn:Nat→Heap→Prop) (J:It) (H':Hp),Rj = .ref it∧Inv X pins σ H' s2∧Turn X.prog X.w X.K tg J fp it tn∧tn 0 s2.heap∧(∀ b∈fp,lW X pins H' b)∧R J H'
def PI (X:Cx) (tg iter:Expr) (wi:TI):Prop :=
 ∀ (pins:List (Addr×Obj)) (s:Shared) (σ:St) (H:Hp) (R:It→Hp→Prop),Inv X pins σ H s→wi σ H R →
  wpAny (model X.prog X.w) X.A (eval iter X.env) (fun v s1=>wpAny (model X.prog X.w) X.A (pyIter v) (VZ X pins σ tg R) X.xe s1) X.xe s
theorem yP {M:Model} {A:Around} {E:Value→Shared→Prop} {s:Shared} {tg:Expr} {it:Addr} {u:Value} {o:Obj} {n:String} {vs:Array Value} {Q:Unit→Shared→Prop} (ho:s.heap.get? it=some o) (hc:o.cls = .type n) (hd:o.data = .fields vs)
  (hn:["enumerate","zip","dict_itemiterator","dict_reverseitemiterator","odict_iterator","itertools.zip_longest","itertools.pairwise"].contains n=false) (hQ:Q () s):wpAny M A (letOwnedTupleGo tg (.ref it) u) Q E s:=by
 unfold letOwnedTupleGo
 cases tg <;> first
  | exact wpAny_pure hQ
  | (cases u <;> first
      | exact wpAny_pure hQ
      | (refine wpAny_bind (wpAny_load ho ?_)
         rw [hc,hd]
         show wpAny M A (if (["enumerate","zip","dict_itemiterator","dict_reverseitemiterator","odict_iterator","itertools.zip_longest","itertools.pairwise"].contains n && vs[0]? == some (rawInt _))=true then _ else _) Q E s
         rw [if_neg (by intro h; rw [hn,Il] at h; cases h)]
         exact wpAny_pure hQ))
def SM (K:PySem.W.Frag) (a:Addr):It :=
 ⟨fun i H=>∃ xs x,eY K H a xs∧xs[i]?=some x,fun i H x H'=>H'=H∧∀ xs,eY K H a xs→xs[i]?=some x,fun i H=>∃ xs,eY K H a xs∧xs.length≤i⟩
def SN (K:PySem.W.Frag) (a:Addr):It :=
 ⟨fun i H=>∃ xs x,d9 K H a xs∧xs[i]?=some x,fun i H x H'=>H'=H∧∀ xs,d9 K H a xs→xs[i]?=some x,fun i H=>∃ xs,d9 K H a xs∧xs.length≤i⟩
def Rk (lo:Int) (n:Nat):It:=⟨fun i _=>i < n,fun i H x H'=>H'=H∧x = .int (lo+i),fun i _=>n≤i⟩
theorem z6 {P:Program} {w:World} {K:PySem.W.Frag} {tg:Expr} (a it:Addr):Turn P w K tg (SM K a) [it] it (fun i h=>h.IsListIter it a i) where
 mem:=by simp
 obj:=fun i h st b hb=>by
  have e:b=it:=by simpa using hb
  subst e
  obtain ⟨o,e,c,d⟩:=st
  exact ⟨o,e,fun v z=>by rw [d] at z; cases z⟩
 keep:=fun i h h' st k=>st.at fun o e=>k it (by simp) o e
 item:=by
  intro X hP hw hK hc i pins s σ H E I hf st hg
  subst hP hw hK
  obtain ⟨xs,x,hq,hx⟩:=hg
  obtain ⟨aK,rv,p,hz⟩:=I.list hq
  obtain ⟨u,hu,ru⟩:=rv.get hx
  obtain ⟨f0,f1,f2,f3,f4,f5⟩:=hf it (by simp)
  refine wpAny_pyNext_list_item st p.isList (x:=u) (by simpa using hu) fun h' wN sb=>?_
  have I1:Inv X pins σ H { s with heap:=h' }:=I.turned (t':=s.toks) (fun b o hb e=>(sb.2 b hb).trans e) f0 f1 f3 f4 f5
  obtain ⟨o,e,c,d⟩:=id wN
  exact ⟨u,rfl,yP (s:={ s with heap:=h' }) e c d (by decide) ⟨x,H,I1,ru,⟨rfl,fun ys hy=>by rw [I.kN hy hq]; exact hx⟩,wN,fun b hb=>(hf b hb).1⟩⟩
 done:=by
  intro X hP hw hK hc i pins s σ H E I hf st hg
  subst hP hw hK
  obtain ⟨xs,hq,hx⟩:=hg
  obtain ⟨aK,rv,p,hz⟩:=I.list hq
  obtain ⟨f0,f1,f2,f3,f4,f5⟩:=hf it (by simp)
  have hl:=rv.length
  exact wpAny_pyNext_list_end (I.ok.hd hc) st p.isList (by simp; omega) fun h' eb=>⟨rfl,I.turned (t':=s.toks) (fun b o hb e=>eb b o hb e) f0 f1 f3 f4 f5⟩
 self:=fun _ _ _ _ _ st h=>wpAny_pyIter_listiter st h
theorem wO {P:Program} {w:World} {K:PySem.W.Frag} {tg:Expr} (a it:Addr):Turn P w K tg (SN K a) [it] it (fun i h=>h.IsTupleIter it a i) where
 mem:=by simp
 obj:=fun i h st b hb=>by
  have e:b=it:=by simpa using hb
  subst e
  obtain ⟨o,e,c,d⟩:=st
  exact ⟨o,e,fun v z=>by rw [d] at z; cases z⟩
 keep:=fun i h h' st k=>st.at fun o e=>k it (by simp) o e
 item:=by
  intro X hP hw hK hc i pins s σ H E I hf st hg
  subst hP hw hK
  obtain ⟨xs,x,hq,hx⟩:=hg
  obtain ⟨aK,rv,p,hz⟩:=I.tuple hq
  obtain ⟨u,hu,ru⟩:=rv.get hx
  obtain ⟨f0,f1,f2,f3,f4,f5⟩:=hf it (by simp)
  refine wpAny_pyNext_tuple_item st (show s.heap.IsTuple a aK.toArray from p) (x:=u) (by simpa using hu) fun h' wN sb=>?_
  have I1:Inv X pins σ H { s with heap:=h' }:=I.turned (t':=s.toks) (fun b o hb e=>(sb.2 b hb).trans e) f0 f1 f3 f4 f5
  obtain ⟨o,e,c,d⟩:=id wN
  exact ⟨u,rfl,yP (s:={ s with heap:=h' }) e c d (by decide) ⟨x,H,I1,ru,⟨rfl,fun ys hy=>by rw [I.lV hy hq]; exact hx⟩,wN,fun b hb=>(hf b hb).1⟩⟩
 done:=by
  intro X hP hw hK hc i pins s σ H E I hf st hg
  subst hP hw hK
  obtain ⟨xs,hq,hx⟩:=hg
  obtain ⟨aK,rv,p,hz⟩:=I.tuple hq
  obtain ⟨f0,f1,f2,f3,f4,f5⟩:=hf it (by simp)
  have hl:=rv.length
  exact wpAny_pyNext_tuple_end (I.ok.hd hc) st (show s.heap.IsTuple a aK.toArray from p) (by simp; omega) fun h' eb=>⟨rfl,I.turned (t':=s.toks) (fun b o hb e=>eb b o hb e) f0 f1 f3 f4 f5⟩
 self:=fun _ _ _ _ _ st h=>wpAny_pyIter_tupleiter st h
theorem wQ {P:Program} {w:World} {K:PySem.W.Frag} {tg:Expr} (it:Addr) (lo:Int) (n:Nat):Turn P w K tg (Rk lo n) [it] it (fun i h=>IsRangeIter h it (lo+(i:Nat) * 1) ((n:Int) - (i:Nat)) 1) where
 mem:=by simp
 obj:=fun i h st b hb=>by
  have e:b=it:=by simpa using hb
  subst e
  exact ⟨_,st,fun v z=>by
   have z':Data.fields _=Data.cell v:=z
   cases z'⟩
 keep:=fun i h h' st k=>k it (by simp) _ st
 item:=by
  intro X hP hw hK hc i pins s σ H E I hf st hg
  subst hP hw hK
  obtain ⟨f0,f1,f2,f3,f4,f5⟩:=hf it (by simp)
  have W:=Walks.range (prog:=X.prog) (w:=X.w) (I.ok.hd hc) it lo 1 n
  refine W.item i s _ _ hg st fun v h' tk hv wN kk=>?_
  obtain ⟨t,rfl⟩:=hv
  have I1:Inv X pins σ H { s with heap:=h',toks:=tk }:=I.turned (fun b o hb e=>kk b o (by simpa using hb) e) f0 f1 f3 f4 f5
  refine ⟨_,rfl,yP (s:={ s with heap:=h',toks:=tk }) (n:="range_iterator") wN rfl rfl (by decide) ⟨.int (lo+i),H,I1,⟨t,?_⟩,⟨rfl,rfl⟩,wN,fun b hb=>(hf b hb).1⟩⟩
  rw [Int.mul_one]
 done:=by
  intro X hP hw hK hc i pins s σ H E I hf st hg
  subst hP hw hK
  obtain ⟨f0,f1,f2,f3,f4,f5⟩:=hf it (by simp)
  exact wpAny_pyNext_range_end (I.ok.hd hc) st (by have:n≤i:=hg; omega) fun h' eb=>⟨rfl,I.turned (t':=s.toks) (fun b o hb e=>eb b o hb e) f0 f1 f3 f4 f5⟩
 self:=fun _ _ _ _ _ st h=>wpAny_pyIter_rangeiter st h
section
variable {X:Cx} {tg:Expr}
theorem Cb {pins:List (Addr×Obj)} {σ:St} {H:Hp} {s:Shared} {R:It→Hp→Prop} {E:Value→Shared→Prop} {lo hi:Int} {t u v:Tok} {tk:Nat} (I:Inv X pins σ H s) (h1 : -(2 ^ 62)≤lo) (h2:lo < 2 ^ 62) (h3 : -(2 ^ 62)≤hi) (h4:hi < 2 ^ 62)
  (q:R (Rk lo (hi - lo).toNat) H):wpAny (model X.prog X.w) X.A (pyIter (.ref s.heap.objs.size)) (VZ X pins σ tg R) E { s with heap:=s.heap.push { cls:=.type "range",data:=.fields #[.int lo t,.int hi u,.int 1 v] },toks:=tk }:=by
 refine wpAny_pyIter_range (IsRange.new ..) (small_one h1 h2 h3 h4) ?_
 have I1:Inv X pins σ H { s with heap:=s.heap.push { cls:=.type "range",data:=.fields #[.int lo t,.int hi u,.int 1 v] },toks:=tk }:=I.kept fun b o e=>dB _ e
 refine ⟨(s.heap.push { cls:=.type "range",data:=.fields #[.int lo t,.int hi u,.int 1 v] }).objs.size,[(s.heap.push { cls:=.type "range",data:=.fields #[.int lo t,.int hi u,.int 1 v] }).objs.size],_,_,H,rfl,
  I1.kept (t':=tk) fun b o e=>dB _ e,wQ _ lo (hi - lo).toNat,?_,fun b hb=>?_,q⟩
 · have e1:lo+((0:Nat):Int) * 1=lo:=by simp
   have e2:(((hi - lo).toNat:Nat):Int) - ((0:Nat):Int)=Builtin.Range.rangeSize lo hi 1:=by rw [rangeSize_one]; split <;> omega
   show IsRangeIter _ _ (lo+((0:Nat):Int) * 1) ((((hi - lo).toNat:Nat):Int) - ((0:Nat):Int)) 1
   rw [e1,e2]
   exact nQ _ rfl
 · have e:b=(s.heap.push { cls:=.type "range",data:=.fields #[.int lo t,.int hi u,.int 1 v] }).objs.size:=by simpa using hb
   subst e
   exact I1.qA (d8 _) (I1.bD.fresh (d8 _))
def N7 (ta:TA):TI:=fun σ H R=>ta σ H fun vs H1=>∃ j:Int,vs=[.int j]∧-(2 ^ 62)≤j∧j < 2 ^ 62∧R (Rk 0 j.toNat) H1
theorem z7 {a:Expr} {ta:TA} {p pos:Pos} (hg:Gl X "range") (hm:X.mg "range" = none) (ha:PA X [a] ta) (hs:starEach [a] X.env=[(false,eval a X.env)]:=by rfl):PI X tg (.Call (.Name "range" p) [a] [] pos) (N7 ta):=by
 intro pins s σ H R I h
 refine Call_ (ke I hg hm boot_range (QX (bV (ha pos pins s σ H _ I h) fun us s1 ⟨vs,H1,I1,r1,q1⟩=>?_) hs rfl))
 obtain ⟨j,e,q1,q2,q⟩:=q1
 subst e
 cases r1 with
 | cons r rr =>
   cases rr
   obtain ⟨t,rfl⟩:=r
   exact call_range_1 (Cb I1 (by omega) (by omega) q1 q2 (by simpa using q))
def SO (wi:TI) (g:TG) (tb:TS):TS:=fun D σ H=>wi σ H fun J H1=>∃ W:Nat→Nat→St→Hp→Prop,(∃ m,W 0 m σ H1)∧∀ i m σ H,W i m σ H →
 (J.stop i H∧D.nx σ H)∨(J.go i H∧∃ N:St→Hp→Prop,(∀ σ' H',N σ' H'→∃ m',m' < m∧W (i+1) m' σ' H')∧∀ x H',J.Nm i H x H'→g x σ H' fun σ2 H2=>tb { D with nx:=N,ct:=N,bk:=D.nx } σ2 H2)
def oA (fp:List Addr) (h:Heap):List (Addr×Obj):=fp.filterMap fun b=>(h.get? b).map fun o=>(b,o)
theorem g6 {fp:List Addr} {h:Heap} {b:Addr} {o:Obj} (hb:b∈fp) (e:h.get? b=some o):(b,o)∈oA fp h:=List.mem_filterMap.mpr ⟨b,hb,by rw [e]; rfl⟩
theorem z8 {fp:List Addr} {h:Heap} {p:Addr×Obj} (hp:p∈oA fp h):p.1∈fp∧h.get? p.1=some p.2:=by
 obtain ⟨b,hb,e⟩:=List.mem_filterMap.mp hp
 cases q:h.get? b with
 | none=>rw [q] at e; cases e
 | some o =>
   rw [q] at e
   have e':(b,o)=p:=Option.some.inj e
   subst e'
   exact ⟨hb,q⟩
theorem Inv.pinned {pins:List (Addr×Obj)} {σ:St} {H:Hp} {s:Shared} {fp:List Addr} (I:Inv X pins σ H s) (hf:∀ b∈fp,lW X pins H b) (ho:∀ b∈fp,∃ o,s.heap.get? b=some o∧∀ v,o.data≠.cell v):Inv X (pins ++ oA fp s.heap) σ H s :=
 I.yM fun p hp=>(iI.mp hp).elim (fun z=>I.pin p (lL _ z)) fun z=>by
  obtain ⟨hb,e⟩:=z8 z
  obtain ⟨f0,f1,f2,_⟩:=hf p.1 hb
  obtain ⟨o,e',d⟩:=ho p.1 hb
  rw [e] at e'; cases e'
  exact ⟨e,f0,f1,f2,d⟩
theorem Inv.kQ {pins pl:List (Addr×Obj)} {σ:St} {H:Hp} {s:Shared} (I:Inv X (pins ++ pl) σ H s):Inv X pins σ H s:=I.yM fun p hp=>I.pin p (lL _ (lM _ hp))
theorem Ke {iter:Expr} {body:List Stmt} {wi:TI} {g:TG} {tb:TS} {pos:Pos} (hp:PassesOwn (model X.prog X.w) X.A X.env X.xe) (hc:X.calm=true) (hi:PI X tg iter wi) (hg:PG X tg g) (hb:nE X body tb)
  (hs:∀ x,foldedSetIterable iter X.env x=pure x:=by intro _; rfl):PS X (.For tg iter body [] pos) (SO wi g tb):=by
 intro pins s σ H D I h
 refine wpAny_For (bV (hi pins s σ H _ I h) fun v s1 h1=>bV h1 fun Rj s2 h2=>?_) hs
 obtain ⟨it,fp,tn,J,H2,e,I2,T,BP,f2,W,⟨m0,w0⟩,turn⟩:=h2
 subst e
 have Kg:∀ {H':Hp},(∀ b∈fp,H' b=none)→∀ b∈fp,lW X pins H' b:=fun hn b hb=>⟨hn b hb,(f2 b hb).2⟩
 refine codeAny_forLoop_any (fun n s'=>∃ i σ' H',Inv X pins σ' H' s'∧tn i s'.heap∧(∀ b∈fp,H' b=none)∧W i n σ' H') ?_ m0 ⟨0,σ,H2,I2,BP,fun b hb=>(f2 b hb).1,w0⟩
 rintro n s3 ⟨i,σ3,H3,I3,N8,N9,w3⟩
 rcases turn i n σ3 H3 w3 with ⟨stop,qn⟩ | ⟨go,N,hN,step⟩
 · refine wpAny_passesOwn hp (bV (T.done X rfl rfl rfl hc i pins s3 σ3 H3 X.xe I3 (Kg N9) N8 stop) fun r s4 ⟨hr,I4⟩=>?_)
   subst hr
   exact wpAny_execs_nil ⟨σ3,H3,I4,qn⟩
 · refine wpAny_passesOwn hp (bV (T.item X rfl rfl rfl hc i pins s3 σ3 H3 X.xe I3 (Kg N9) N8 go) fun r s4 ⟨u,hr,h4⟩=>?_)
   subst hr
   refine wpAny_passesOwn hp (bV h4 fun _ s5 ⟨x,H5,I5,r5,y5,Kh,SQ⟩=>?_)
   have W2:=I5.pinned (Kg SQ) (T.obj _ _ Kh)
   refine wpAny_passesOwn hp (bV (hg _ s5 σ3 H5 x u _ W2 r5 (step x H5 y5)) fun _ s6 ⟨σ6,H6,I6,q6⟩=>?_)
   refine wpAny_passesOwn hp (bV (hb _ s6 σ6 H6 _ I6 q6) fun f s7 q7=>?_)
   have again:∀ {σ7:St} {H7:Hp},Inv X (pins ++ oA fp s5.heap) σ7 H7 s7→N σ7 H7→∃ m,m < n∧∃ i σ' H',Inv X pins σ' H' s7∧tn i s7.heap∧(∀ b∈fp,H' b=none)∧W i m σ' H':=fun {σ7 H7} I7 n7=>by
    obtain ⟨m',hm,w7⟩:=hN σ7 H7 n7
    refine ⟨m',hm,i+1,σ7,H7,I7.kQ,T.keep _ _ _ Kh fun b hb o e=>(I7.pin (b,o) (lL _ (lL _ (g6 hb e)))).1,fun b hb=>?_,w7⟩
    obtain ⟨o,e,d⟩:=T.obj _ _ Kh b hb
    exact (I7.pin (b,o) (lL _ (lL _ (g6 hb e)))).2.1
   cases f with
   | brk=>obtain ⟨σ7,H7,I7,q7⟩:=q7; exact ⟨σ7,H7,I7.kQ,q7⟩
   | ret v=>obtain ⟨x7,σ7,H7,I7,r7,q7⟩:=q7; exact ⟨x7,σ7,H7,I7.kQ,r7,q7⟩
   | _=>obtain ⟨σ7,H7,I7,n7⟩:=q7; exact again I7 n7
end
abbrev R2:=V→V→Hp→VK→Prop
def fq (X:Cx) (f:Value→Value→Sem Value) (r:R2):Prop :=
 ∀ (pins:List (Addr×Obj)) (s:Shared) (σ:St) (H:Hp) (x y:V) (v u:Value) (Q:VK),Inv X pins σ H s→RelV x v→RelV y u→r x y H Q →
  wpAny (model X.prog X.w) X.A (f v u) (EP X pins σ Q) X.xe s
def SR (X:Cx) (f:Value→Sem Value) (r:V→Hp→VK→Prop):Prop :=
 ∀ (pins:List (Addr×Obj)) (s:Shared) (σ:St) (H:Hp) (x:V) (v:Value) (Q:VK),Inv X pins σ H s→RelV x v→r x H Q →
  wpAny (model X.prog X.w) X.A (f v) (EP X pins σ Q) X.xe s
def cw (X:Cx) (f:Value) (r:List V→Hp→VK→Prop):Prop :=
 ∀ (pins:List (Addr×Obj)) (s:Shared) (σ:St) (H:Hp) (xs:List V) (us:List Value) (Q:VK),Inv X pins σ H s→Vals xs us→r xs H Q →
  wpAny (model X.prog X.w) X.A (call f us) (EP X pins σ Q) X.xe s
def N_ (r:R2) (ta tb:TE):TE:=fun σ H Q=>ta σ H fun x H1=>tb σ H1 fun y H2=>r x y H2 Q
def W3 (r:V→Hp→VK→Prop) (ta:TE):TE:=fun σ H Q=>ta σ H fun x H1=>r x H1 Q
def rI (C:Int→Int→Prop) (g:Int→Int→V):R2:=fun x y H Q=>∃ i j,x = .int i∧y = .int j∧C i j∧Q (g i j) H
def rz (g:Int→Int→V):R2:=fun x y H Q=>∃ i j,x = .int i∧y = .int j∧Q (g i j) H
def rU (g:Int→V):V→Hp→VK→Prop:=fun x H Q=>∃ i,x = .int i∧Q (g i) H
section
variable {X:Cx} {a b c:Expr} {ta tb tc:TE} {pos:Pos}
theorem Ki (ha:PE X a ta) (hb:PE X b tb) {pins:List (Addr×Obj)} {s:Shared} {σ:St} {H:Hp} {R:V→V→Hp→Prop} (I:Inv X pins σ H s)
  (h:ta σ H fun x H1=>tb σ H1 fun y H2=>R x y H2) {Q:Value→Shared→Prop} {f:Value→Value→Sem Value}
  (hf:∀ v u s2 x y H2,Inv X pins σ H2 s2→RelV x v→RelV y u→R x y H2→wpAny (model X.prog X.w) X.A (f v u) Q X.xe s2) :
  wpAny (model X.prog X.w) X.A (eval a X.env) (fun v s₁=>wpAny (model X.prog X.w) X.A (eval b X.env) (fun u s₂=>wpAny (model X.prog X.w) X.A (f v u) Q X.xe s₂) X.xe s₁) X.xe s:=by
 refine bV (ha pins s σ H _ I h) fun v s1 ⟨x,H1,I1,r1,q1⟩=>?_
 refine bV (hb pins s1 σ H1 _ I1 q1) fun u s2 ⟨y,H2,I2,r2,q2⟩=>?_
 exact hf v u s2 x y H2 I2 r1 r2 q2
theorem N' {op:Operator} {r:R2} (ho:fq X (binaryOp op) r) (ha:PE X a ta) (hb:PE X b tb):PE X (.BinOp a op b pos) (N_ r ta tb):=by
 intro pins s σ H Q I h
 exact wpAny_BinOp (Ki ha hb I h fun v u s2 x y H2 I2 rx ry q=>ho pins s2 σ H2 x y v u Q I2 rx ry q)
theorem Oa {op:UnaryOp} {r:V→Hp→VK→Prop} (ho:SR X (unaryOp op) r) (ha:PE X a ta):PE X (.UnaryOp op a pos) (W3 r ta):=by
 intro pins s σ H Q I h
 exact UnaryOp_ (bV (ha pins s σ H _ I h) fun v s1 ⟨x,H1,I1,r1,q1⟩=>ho pins s1 σ H1 x v Q I1 r1 q1)
theorem Rl {f:Value→Value→Sem Value} {C:Int→Int→Prop} {g:Int→Int→Int}
  (rule:∀ (i j:Int) (t u:Tok) (s:Shared) (Q:Value→Shared→Prop) (E:Value→Shared→Prop),C i j→Q (.int (g i j) s.toks) { s with toks:=s.toks+1 }→wpAny (model X.prog X.w) X.A (f (.int i t) (.int j u)) Q E s) :
  fq X f (rI C fun i j=>.int (g i j)):=by
 intro pins s σ H x y v u Q I rx ry h
 obtain ⟨i,j,rfl,rfl,hc,q⟩:=h
 obtain ⟨t,rfl⟩:=rx
 obtain ⟨t',rfl⟩:=ry
 exact rule i j t t' s _ _ hc ⟨.int (g i j),H,I.tok _,⟨_,rfl⟩,q⟩
theorem Kj {f:Value→Value→Sem Value} {g:Int→Int→Int}
  (rule:∀ (i j:Int) (t u:Tok) (s:Shared) (Q:Value→Shared→Prop) (E:Value→Shared→Prop),Q (.int (g i j) s.toks) { s with toks:=s.toks+1 }→wpAny (model X.prog X.w) X.A (f (.int i t) (.int j u)) Q E s) :
  fq X f (rz fun i j=>.int (g i j)):=by
 intro pins s σ H x y v u Q I rx ry h
 obtain ⟨i,j,rfl,rfl,q⟩:=h
 obtain ⟨t,rfl⟩:=rx
 obtain ⟨t',rfl⟩:=ry
 exact rule i j t t' s _ _ ⟨.int (g i j),H,I.tok _,⟨_,rfl⟩,q⟩
theorem Kk {f:Value→Value→Sem Value} {g:Int→Int→Bool}
  (rule:∀ (i j:Int) (t u:Tok) (s:Shared) (Q:Value→Shared→Prop) (E:Value→Shared→Prop),Q (.bool (g i j)) s→wpAny (model X.prog X.w) X.A (f (.int i t) (.int j u)) Q E s) :
  fq X f (rz fun i j=>.bl (g i j)):=by
 intro pins s σ H x y v u Q I rx ry h
 obtain ⟨i,j,rfl,rfl,q⟩:=h
 obtain ⟨t,rfl⟩:=rx
 obtain ⟨t',rfl⟩:=ry
 exact rule i j t t' s _ _ ⟨.bl (g i j),H,I,rfl,q⟩
def Ob (i j:Int):Prop:=0 < j∧j < 1073741824
def Oc (i j:Int):Prop:=0≤j∧j≤1000000∧i.natAbs < 2 ^ 64
def Cc (i j:Int):Prop:=(-(2 ^ 64) < i∧i < 2 ^ 64)∨(-(2 ^ 64) < j∧j < 2 ^ 64)
theorem Cc.ok {i j:Int} (h:Cc i j):IntMulOk i j:=by
 rcases h with ⟨h1,h2⟩ | ⟨h1,h2⟩
 · exact .of_left (intBits_le_64 h1 h2)
 · exact .of_right (intBits_le_64 h1 h2)
theorem Kl:fq X (binaryOp .Add) (rz fun i j=>.int (i+j)):=Kj fun _ _ _ _ _ _ _ q=>add_int q
theorem Km:fq X (binaryOp .Sub) (rz fun i j=>.int (i - j)):=Kj fun _ _ _ _ _ _ _ q=>sub_int q
theorem Kn:fq X (binaryOp .Mult) (rI Cc fun i j=>.int (i * j)):=Rl fun _ _ _ _ _ _ _ hc q=>mul_int q hc.ok
theorem FC:fq X (binaryOp .FloorDiv) (rI Ob fun i j=>.int (i / j)):=Rl fun i j _ _ _ _ _ hc q=>by
 have h1:(0:Int) < j:=hc.1
 have h2:j < 1073741824:=hc.2
 exact floordiv_int (by omega) (by rw [Int.fdiv_eq_ediv_of_nonneg i (by omega)]; exact q) (.inl (PyProof.noPylong_small (by omega)))
theorem Ko:fq X (binaryOp .Mod) (rI (fun _ j=>0 < j) fun i j=>.int (i % j)):=Rl fun i j _ _ _ _ _ hc q=>by
 have h1:(0:Int) < j:=hc
 exact mod_int' (by omega) (by rw [Int.fmod_eq_emod_of_nonneg i (by omega)]; exact q)
theorem Kq:fq X (binaryOp .Pow) (rI Oc fun i j=>.int (i ^ j.toNat)):=Rl fun _ _ _ _ _ _ _ hc q=>pow_int_small hc.1 hc.2.1 hc.2.2 q
theorem FD:fq X (inplaceOp .Add) (rz fun i j=>.int (i+j)):=Kj fun _ _ _ _ _ _ _ q=>iadd_int q
theorem W4 {f:Value→Sem Value} {g:Int→Int}
  (rule:∀ (i:Int) (t:Tok) (s:Shared) (Q:Value→Shared→Prop) (E:Value→Shared→Prop),Q (.int (g i) s.toks) { s with toks:=s.toks+1 }→wpAny (model X.prog X.w) X.A (f (.int i t)) Q E s) :
  SR X f (rU fun i=>.int (g i)):=by
 intro pins s σ H x v Q I rx h
 obtain ⟨i,rfl,q⟩:=h
 obtain ⟨t,rfl⟩:=rx
 exact rule i t s _ _ ⟨.int (g i),H,I.tok _,⟨_,rfl⟩,q⟩
theorem Kr:SR X (unaryOp .USub) (rU fun i=>.int (-i)):=W4 fun _ _ _ _ _ q=>neg_int q
end
section
variable {X:Cx} {a b c:Expr} {ta tb tc:TE} {pos:Pos}
theorem Cd {pins:List (Addr×Obj)} {σ:St} {H:Hp} {s:Shared} {Q:VK} {k k':Bool} (I:Inv X pins σ H s) (q:Q (.bl k) H) (e:k=k'):EP X pins σ Q (.bool k') s:=by
 subst e
 exact ⟨.bl k,H,I,rfl,q⟩
theorem Iu:fq X (compareOp .Lt) (rz fun i j=>.bl (decide (i < j))):=Kk fun _ _ _ _ _ _ _ q=>lt_int q
theorem yQ:fq X (compareOp .LtE) (rz fun i j=>.bl (decide (i≤j))):=Kk fun _ _ _ _ _ _ _ q=>le_int q
theorem Od:fq X (compareOp .Gt) (rz fun i j=>.bl (decide (j < i))):=Kk fun _ _ _ _ _ _ _ q=>gt_int q
theorem z9:fq X (compareOp .In) (fun x y H Q=>∃ i j,x = .str i∧y = .str j∧Q (.bl (!(Builtin.Str.occurrences j i 0 j.length 1).isEmpty)) H):=by
 intro pins s σ H x y v u Q I rx ry h
 obtain ⟨i,j,rfl,rfl,q⟩:=h
 obtain ⟨t,rfl⟩:=rx
 obtain ⟨t',rfl⟩:=ry
 exact in_str (Cd I q rfl)
theorem Ks:fq X (compareOp .Is) (fun x y H Q=>y = .br∧Q (.bl (decide (x = .br))) H):=by
 intro pins s σ H x y v u Q I rx ry h
 obtain ⟨rfl,q⟩:=h
 cases ry
 refine is_none_gen (Cd I q ?_)
 cases x <;> first
  | (cases rx; rfl)
  | (obtain ⟨t,rfl⟩:=rx; rfl)
theorem fq.or {f:Value→Value→Sem Value} {r r':R2} (h:fq X f r) (h':fq X f r'):fq X f (fun x y H Q=>r x y H Q∨r' x y H Q):=by
 intro pins s σ H x y v u Q I rx ry q
 rcases q with q | q
 · exact h pins s σ H x y v u Q I rx ry q
 · exact h' pins s σ H x y v u Q I rx ry q
theorem iT (b:Expr) {op:CmpOp} (h:op≠.In:=by decide) (h2:op≠.NotIn:=by decide):behindInMarks op b=false:=by
 have e1:(op == CmpOp.In)=false:=by cases op <;> first | rfl | exact absurd rfl h
 have e2:(op == CmpOp.NotIn)=false:=by cases op <;> first | rfl | exact absurd rfl h2
 cases b <;> simp [behindInMarks,e1,e2]
theorem FH {op:CmpOp} {r:R2} (ho:fq X (compareOp op) r) (ha:PE X a ta) (hb:PE X b tb) (hm:behindInMarks op b=false):PE X (.Compare a [op] [b] pos) (N_ r ta tb):=by
 intro pins s σ H Q I h
 exact wpAny_Compare1 (Ki ha hb I h fun v u s2 x y H2 I2 rx ry q=>ho pins s2 σ H2 x y v u Q I2 rx ry q) hm
def Iv (t:TE):TT:=fun σ H Q=>t σ H fun x H'=>∃ k,x = .bl k∧Q k H'
theorem FJ {op:CmpOp} {r:R2} (ho:fq X (compareOp op) r) (ha:PE X a ta) (hb:PE X b tb) (hm:behindInMarks op b=false):PT X (.Compare a [op] [b] pos) (Iv (N_ r ta tb)):=by
 intro pins s σ H Q I h
 refine wpAny_isTrue_Compare1 (bV (ha pins s σ H _ I h) fun v s1 ⟨x,H1,I1,r1,q1⟩=>bV (hb pins s1 σ H1 _ I1 q1) fun u s2 ⟨y,H2,I2,r2,q2⟩ =>
  bV (ho pins s2 σ H2 x y v u _ I2 r1 r2 q2) fun c s3 ⟨z,H3,I3,r3,k,e,q3⟩=>?_) hm
 subst e
 cases r3
 exact wpAny_truthy_bool ⟨H3,I3,q3⟩
def wR (r r':R2) (ta tb tc:TE):TE:=fun σ H Q=>ta σ H fun x H1=>tb σ H1 fun y H2=>r x y H2 fun z H3=>∃ k,z = .bl k ∧
 (if k=true then tc σ H3 fun w' H4=>r' y w' H4 Q else Q (.bl false) H3)
theorem Ce {op wU:CmpOp} {r r':R2} (ho:fq X (compareOp op) r) (wK:fq X (compareOp wU) r') (ha:PE X a ta) (hb:PE X b tb) (hc:PE X c tc)
  (hm:lastMarks [op,wU] [b,c]=false:=by with_unfolding_all rfl):PE X (.Compare a [op,wU] [b,c] pos) (wR r r' ta tb tc):=by
 intro pins s σ H Q I h
 refine Compare_chain (bV (ha pins s σ H _ I h) fun v s1 ⟨x,H1,I1,r1,q1⟩=>chain_link (bV (hb pins s1 σ H1 _ I1 q1) fun u s2 ⟨y,H2,I2,r2,q2⟩ =>
  bV (ho pins s2 σ H2 x y v u _ I2 r1 r2 q2) fun d s3 ⟨z,H3,I3,r3,k,e,q3⟩=>?_)) hm
 subst e
 cases r3
 refine wpAny_truthy_bool ?_
 cases k with
 | false=>exact ite_ff ⟨.bl false,H3,I3,rfl,q3⟩
 | true=>exact ite_tt (chain_last (bV (hc pins s3 σ H3 _ I3 q3) fun w' s4 ⟨z',H4,I4,r4,q4⟩=>wK pins s4 σ H4 y z' u w' Q I4 r2 r4 q4))
theorem Cf {op wU:CmpOp} {r r':R2} (ho:fq X (compareOp op) r) (wK:fq X (compareOp wU) r') (ha:PE X a ta) (hb:PE X b tb) (hc:PE X c tc)
  (hm:lastMarks [op,wU] [b,c]=false:=by with_unfolding_all rfl):PT X (.Compare a [op,wU] [b,c] pos) (Iv (wR r r' ta tb tc)):=by
 intro pins s σ H Q I h
 refine isTrue_chain (bV (ha pins s σ H _ I h) fun v s1 ⟨x,H1,I1,r1,q1⟩=>test_link (bV (hb pins s1 σ H1 _ I1 q1) fun u s2 ⟨y,H2,I2,r2,q2⟩ =>
  bV (ho pins s2 σ H2 x y v u _ I2 r1 r2 q2) fun d s3 ⟨z,H3,I3,r3,k,e,q3⟩=>?_)) hm
 subst e
 cases r3
 refine wpAny_truthy_bool ?_
 cases k with
 | false =>
   obtain ⟨k',e',q'⟩:=q3
   cases e'
   exact ite_ff ⟨H3,I3,q'⟩
 | true =>
   refine ite_tt (test_last (bV (hc pins s3 σ H3 _ I3 q3) fun w' s4 ⟨z',H4,I4,r4,q4⟩=>bV (wK pins s4 σ H4 y z' u w' _ I4 r2 r4 q4) fun d' s5 ⟨z2,H5,I5,r5,k2,e2,q5⟩=>?_))
   subst e2
   cases r5
   exact wpAny_truthy_bool ⟨H5,I5,q5⟩
theorem lY:(sizeLine:Nat) < 2 ^ 63:=by rw [sizeLine_eq]; decide
theorem wV:fq X (binaryOp .Add) (fun x y H Q=>∃ i j,x = .str i∧y = .str j∧i.length+j.length≤sizeLine∧Q (.str (i ++ j)) H):=by
 intro pins s σ H x y v u Q I rx ry h
 obtain ⟨i,j,rfl,rfl,hz,q⟩:=h
 obtain ⟨t,rfl⟩:=rx
 obtain ⟨t',rfl⟩:=ry
 exact add_str (fun t' tk=>⟨.str (i ++ j),H,I.tok _,⟨_,rfl⟩,q⟩) hz
theorem vals1 {x:V} {us:List Value} (r:Vals [x] us):∃ u,us=[u]∧RelV x u:=by
 cases r with
 | cons r1 r2=>cases r2; exact ⟨_,rfl,r1⟩
theorem vals2 {x y:V} {us:List Value} (r:Vals [x,y] us):∃ u w',us=[u,w']∧RelV x u∧RelV y w':=by
 cases r with
 | cons r1 r2 =>
   cases r2 with
   | cons r3 r4=>cases r4; exact ⟨_,_,rfl,r1,r3⟩
theorem z_ (hc:X.calm=true):cw X (.builtin "min") (fun xs H Q=>∃ i j,xs=[.int i,.int j]∧Q (.int (if j < i then j else i)) H):=by
 intro pins s σ H xs us Q I r h
 obtain ⟨i,j,rfl,q⟩:=h
 obtain ⟨u,w',rfl,⟨t,rfl⟩,⟨t',rfl⟩⟩:=vals2 r
 refine min_two_ints (I.ok.hd hc) fun h' tk k=>⟨_,H,I.kept k,?_,q⟩
 by_cases hj:j < i
 · rw [if_pos hj,if_pos hj]; exact ⟨_,rfl⟩
 · rw [if_neg hj,if_neg hj]; exact ⟨_,rfl⟩
theorem Aa:cw X (.type "int") (fun xs H Q=>(∃ i,xs=[.int i]∧Q (.int i) H)∨∃ k,xs=[.bl k]∧Q (.int (if k then 1 else 0)) H):=by
 intro pins s σ H xs us Q I r h
 rcases h with ⟨i,rfl,q⟩ | ⟨k,rfl,q⟩
 · obtain ⟨u,rfl,t,rfl⟩:=vals1 r
   exact call_int_int ⟨.int i,H,I,⟨_,rfl⟩,q⟩
 · obtain ⟨u,rfl,r1⟩:=vals1 r
   cases r1
   exact call_int_bool ⟨.int (if k then 1 else 0),H,I.tok _,⟨_,rfl⟩,q⟩
end
section
variable {prog:Program} {w:World} {A:Around} {E:Value→Shared→Prop} {s:Shared} {K:PySem.W.Frag} {x dx C f:Addr} {mA:Str→Option Value} {name:Str} {v:Value}
end
theorem kd.some_of {v:V} {o:Option Value} (r:kd (some v) o):∃ u,o=some u∧RelV v u:=by
 cases o with
 | none=>exact (show False from r).elim
 | some u=>exact ⟨u,rfl,r⟩
section
variable {P:Program} {w:World} {H H':Hp} {h h':Heap} {a C dx:Addr} {fs NU:List (Str×V)}
end
structure V0 (K:PySem.W.Frag) (C:Addr):Prop where
 pg:PySem.W.plainGet K C Str.empty=true
 hd:PySem.W.hasDictIn K C=true
 po:PySem.W.plainOver K C=true
 sa:PySem.W.findIn K (.ref C) "__setattr__" = some (some (.builtin "object.__setattr__"))
theorem V0.get {K:PySem.W.Frag} {C:Addr} (c:V0 K C) (f:Str):PySem.W.plainGet K C f=true:=c.pg
section
variable {X:Cx} {pins:List (Addr×Obj)} {σ:St} {H:Hp} {s:Shared} {a C dx:Addr} {fs:List (Str×V)} {f:Str} {v:V} {A:Around} {E:Value→Shared→Prop}
theorem Inv.made (I:Inv X pins σ H s):Inv X pins σ (upd (upd H s.heap.objs.size (.own (s.heap.objs.size+1))) (s.heap.objs.size+1) (.ins C s.heap.objs.size []))
  { s with heap:=(s.heap.push PySem.W.emptyDict).push (PySem.W.instObj C s.heap.objs.size) }:=by
 have e1:(s.heap.push PySem.W.emptyDict).get? s.heap.objs.size=some PySem.W.emptyDict:=nQ s.heap rfl
 have e2:((s.heap.push PySem.W.emptyDict).push (PySem.W.instObj C s.heap.objs.size)).get? (s.heap.objs.size+1)=some (PySem.W.instObj C s.heap.objs.size):=by
  have:=nQ (s.heap.push PySem.W.emptyDict) (o:=PySem.W.instObj C s.heap.objs.size) rfl
  rwa [wI] at this
 have e3:(s.heap.push PySem.W.emptyDict).Ns s.heap.objs.size (fun _=>none):=⟨PySem.W.emptyDict,#[],_,e1,rfl,(fun e he=>absurd he (by simp)),fun _=>rfl⟩
 have I1:=I.laid (a:=s.heap.objs.size) (o:=.own (s.heap.objs.size+1)) (h':=s.heap.push PySem.W.emptyDict) (t':=s.toks) (fun b u q=>dB _ q) (d8 _) ⟨_,e1⟩
 refine I1.laid (a:=s.heap.objs.size+1) (o:=.ins C s.heap.objs.size []) (t':=s.toks) (fun b u q=>dB _ q) (Nat.le_of_eq (wI _ _)) ?_
 have ne:s.heap.objs.size≠s.heap.objs.size+1:=gW (JE _)
 refine ⟨by rw [aD ne,aQ],kK _,ne,e2,fun _=>none,(Heap.Ns1.of_empty e3).at fun o q=>dB _ q,fun _=>True.intro,fun y hy=>absurd rfl hy⟩
theorem FK {prog:Program} {w:World} {env:Env} {e:Expr} {f:Str} {pos:Pos} {s:Shared} {Q:Value→Shared→Prop} (hb:attributeBase e f env (eval e env)=eval e env)
  (h:wpAny (model prog w) A (eval e env) (fun o s₁=>wpAny (model prog w) A (getAttr o f true) Q E s₁) E s):wpAny (model prog w) A (eval (.Attribute e f pos) env) Q E s :=
 Attribute_any_ h (by rw [arm_eval_Attribute,hb])
end
section
variable {X:Cx} {o e value:Expr} {f:Str} {pos pos' qB:Pos} {ta tv:TE}
end
section
variable {X:Cx} {pins:List (Addr×Obj)} {σ:St} {H:Hp} {s:Shared} {A:Around} {E:Value→Shared→Prop} {Q:Value→Shared→Prop} {c:Value} {b:Bool}
end
structure bx (k:Nat) (A:Around):Prop where
 hd:A.handled=none
 dp:A.depth+3 * k+5 < recursionLimit
 un:A.units+16 * k+200 < cLine
theorem bx.mono {j k:Nat} {A:Around} (r:bx k A) (h:j≤k):bx j A:=⟨r.hd,by have:=r.dp; omega,by have:=r.un; omega⟩
theorem bx.deeper {k:Nat} {A:Around} (r:bx (k+1) A) (env:Env):bx k (A.deeper env) :=
 ⟨r.hd,by have:=r.dp; show A.depth+1+3 * k+5 < _; omega,by have:=r.un; show A.units+3+16 * k+200 < _; omega⟩
theorem bx.in1 {k:Nat} {A:Around} (r:bx (k+1) A):bx k A.in1 :=
 ⟨r.hd,by have:=r.dp; show A.depth+3 * k+5 < _; omega,by have:=r.un; show A.units+1+16 * k+200 < _; omega⟩
theorem wW {A:Around} {C:Addr} {us:List Value} {kw:List (Str×Value)}:(A.under (.builtin "type.__call__" ⟨.ref C :: us,kw⟩)).depth=A.depth+1:=by
 first | rfl | simp [Around.under,Code.weight,Code.isCreation,Code.isGuard,Code.isCaller,Code.frames,Code.isFrame,guardIds]
theorem wX {A:Around} {C:Addr} {us:List Value} {kw:List (Str×Value)}:(A.under (.builtin "type.__call__" ⟨.ref C :: us,kw⟩)).units=A.units+1:=by
 first | rfl | simp [Around.under,Code.cUnits,Code.frames,Code.isFrame]
theorem bx.make {k:Nat} {A:Around} (r:bx (k+1) A) (C:Addr) (us:List Value) (kw:List (Str×Value)):bx k (A.under (.builtin "type.__call__" ⟨.ref C :: us,kw⟩)) :=
 ⟨r.hd,by have:=r.dp; rw [wW]; omega,by have:=r.un; rw [wX]; omega⟩
theorem bx.depth {k:Nat} {A:Around} (r:bx k A):A.depth < recursionLimit:=by have:=r.dp; omega
theorem bx.units {k:Nat} {A:Around} (r:bx k A):A.units+64 < cLine:=by have:=r.un; omega
def Kt:TA:=fun _ H Q=>Q [] H
def Cg (ta:TE) (tr:TA):TA:=fun σ H Q=>ta σ H fun x H1=>tr σ H1 fun xs H2=>Q (x :: xs) H2
section
variable {X:Cx} {e:Expr} {es:List Expr} {te:TE} {t:TA} {pos:Pos}
theorem cx:PA X [] Kt:=fun _ _ _ _ H Q I h=>Calls.spliced_nil ⟨[],H,I,.nil,h⟩
theorem bh (ha:PE X e te) (hr:PA X es t) (hs:starEach (e :: es) X.env=(false,eval e X.env) :: starEach es X.env:=by rfl):PA X (e :: es) (Cg te t):=by
 intro pos pins s σ H Q I h
 rw [hs]
 show wpAny _ _ (spliced ((false,eval e X.env) :: backTo pos (starEach es X.env))) _ _ s
 refine Calls.spliced_cons (bV (ha pins s σ H _ I h) fun u s1 ⟨x,H1,I1,r1,q1⟩=>?_)
 exact bV (hr pos pins s1 σ H1 _ I1 q1) fun us s2 ⟨xs,H2,I2,r2,q2⟩=>⟨x :: xs,H2,I2,.cons r1 r2,q2⟩
def SS (t:TA):TE:=fun σ H Q=>t σ H fun xs H1=>xs.length≤sizeLine∧∀ p,H1 p=none→Q (.ref p) (upd H1 p (.tup xs))
def SU (t:TA):TE:=fun σ H Q=>t σ H fun xs H1=>xs.length≤sizeLine∧∀ p,H1 p=none→Q (.ref p) (upd H1 p (.lst xs))
theorem Ku {x1} (h:PA X es t):PE X (.Tuple es x1 pos) (SS t):=by
 intro pins s σ H Q I hq
 refine wpAny_Tuple_spliced (bV (h pos pins s σ H _ I hq) fun us s1 ⟨xs,H1,I1,r,z,q⟩=>⟨by rw [← r.length]; exact z,?_⟩)
 have hf:H1 s1.heap.objs.size=none:=I1.bD.fresh (d8 _)
 refine ⟨.ref s1.heap.objs.size,upd H1 s1.heap.objs.size (.tup xs),I1.laid (t':=s1.toks) (fun b u e=>dB _ e) (d8 _) ?_,rfl,q _ hf⟩
 exact ⟨z,us,r,⟨_,nQ _ rfl,rfl,_,rfl⟩⟩
theorem Kv (h:PA X es t):PE X (.List es pos) (SU t):=by
 intro pins s σ H Q I hq
 refine wpAny_List_spliced (bV (h pos pins s σ H _ I hq) fun us s1 ⟨xs,H1,I1,r,z,q⟩=>⟨by rw [← r.length]; exact z,?_⟩)
 have hf:H1 s1.heap.objs.size=none:=I1.bD.fresh (d8 _)
 refine ⟨.ref s1.heap.objs.size,upd H1 s1.heap.objs.size (.lst xs),I1.laid (t':=s1.toks) (fun b u e=>dB _ e) (d8 _) ?_,rfl,q _ hf⟩
 exact ⟨z,us,0,r,nQ _ rfl⟩
end
abbrev Sp:=List V→Hp→VK→XK→Prop
abbrev wY:=List Env→Hp→Shared→XK→Value→Shared→Prop
structure qC (P:Program) (w:World) (K:PySem.W.Frag) (mg:Str→Option Value) (base:Heap) (A:Around) (outer:List Env) (s:Shared) (H:Hp):Prop where
 frames:A.frames=some outer
 mod:Mod K mg base
 bs:∀ b o,base.get? b=some o→s.heap.get? b=some o∧H b=none
 BO:base.objs.size≤s.heap.objs.size
 kM:s.heap.FunFrames base outer
 Fs:∀ b∈kL outer,H b=none
 bD:jS P w H s.heap
 bare:AllBare s.gens
def CE (outer:List Env) (P:Program) (w:World) (H:Hp) (s:Shared) (Q:VK) (u:Value) (s':Shared):Prop :=
 ∃ v H',s'.os=s.os∧AllBare s'.gens∧Un (kL outer) [] H H' s.heap s'.heap∧jS P w H' s'.heap∧RelV v u∧Q v H'
def CR (CX:wY) (outer:List Env) (P:Program) (w:World) (H:Hp) (s:Shared) (Q:VK) (E:XK) (r:Result) (s':Shared):Prop :=
 match r with
 | .ok (.ret u)=>CE outer P w H s Q u s'
 | .ok _=>False
 | .error e=>CX outer H s E e s'
structure cS (P:Program) (w:World) (K:PySem.W.Frag) (mg:Str→Option Value) (base:Heap) (CX:wY) (k:Nat) (f:Addr) (fd:FuncData) (ps:List Str) (sp:Sp):Prop where
 len:∀ vs H Q E,sp vs H Q E→vs.length=ps.length
 run:∀ (A:Around) (outer:List Env) (s:Shared) (H:Hp) (args:Args) (us:List Value) (vs:List V) (Q:VK) (E:XK),bx k A→qC P w K mg base A outer s H→BindsTo s fd args (ps.zip us)→Vals vs us→sp vs H Q E →
  codeAny (model P w) A (.call (.ref f) args) (CR CX outer P w H s Q E) s
theorem cS.mono {P:Program} {w:World} {K:PySem.W.Frag} {mg:Str→Option Value} {base:Heap} {CX:wY} {j k:Nat} {f:Addr} {fd:FuncData} {ps:List Str} {sp:Sp} (F:cS P w K mg base CX j f fd ps sp) (h:j≤k) :
 cS P w K mg base CX k f fd ps sp:=⟨F.len,fun A outer s H args us vs Q E hr=>F.run A outer s H args us vs Q E (hr.mono h)⟩
theorem cS.imp {P:Program} {w:World} {K:PySem.W.Frag} {mg:Str→Option Value} {base:Heap} {CX:wY} {k:Nat} {f:Addr} {fd:FuncData} {ps:List Str} {sp V1:Sp} (F:cS P w K mg base CX k f fd ps sp)
  (h:∀ vs H Q E,V1 vs H Q E→sp vs H Q E):cS P w K mg base CX k f fd ps V1 :=
 ⟨fun vs H Q E q=>F.len vs H Q E (h _ _ _ _ q),fun A outer s H args us vs Q E hr he hb hv hs=>F.run A outer s H args us vs Q E hr he hb hv (h _ _ _ _ hs)⟩
theorem qC.make {P:Program} {w:World} {K:PySem.W.Frag} {mg:Str→Option Value} {base:Heap} {A:Around} {outer:List Env} {s:Shared} {H:Hp} (e:qC P w K mg base A outer s H) (C:Addr) (us:List Value) (kw:List (Str×Value)) :
 qC P w K mg base (A.under (.builtin "type.__call__" ⟨.ref C :: us,kw⟩)) outer s H:=⟨by first | exact e.frames | (simpa [Around.under,Code.envs,Code.isFrame,pushEnvs] using e.frames),e.mod,e.bs,e.BO,e.kM,e.Fs,e.bD,e.bare⟩
theorem qC.in1 {P:Program} {w:World} {K:PySem.W.Frag} {mg:Str→Option Value} {base:Heap} {A:Around} {outer:List Env} {s:Shared} {H:Hp} (e:qC P w K mg base A outer s H) :
 qC P w K mg base A.in1 outer s H:=⟨e.frames,e.mod,e.bs,e.BO,e.kM,e.Fs,e.bD,e.bare⟩
section
variable {X:Cx} {pins:List (Addr×Obj)} {σ:St} {H:Hp} {s s':Shared}
theorem Inv.Kw (I:Inv X pins σ H s):qC X.prog X.w X.K X.mg X.base X.A X.stack s H :=
 ⟨I.ok.frames,I.ok.mod,I.bs,nB I.ok.BO I.sz,I.stack,I.nW,I.bD,I.bare⟩
theorem Inv.after {Q:VK} {u:Value} (I:Inv X pins σ H s) (h:CE X.stack X.prog X.w H s Q u s'):EP X pins σ Q u s':=by
 obtain ⟨v,H',os,bare,un,bD,r,q⟩:=h
 obtain ⟨hh,g,d,t,Oe⟩:=s'
 obtain rfl:Oe=s.os:=os
 exact ⟨v,H',I.call (h':=hh) (g':=g) (d':=d) (t':=t) (ch:=[]) un bD bare (fun b z=>absurd z (by simp)),r,q⟩
end
def Of (sp:Sp) (FL:List V) (E:XK) (t:TA):TE:=fun σ H Q=>t σ H fun vs H1=>sp (vs ++ FL) H1 Q E
def Binds (K:PySem.W.Frag) (fd:FuncData) (ps:List Str) (ds:List Value):Prop :=
 ∀ (s:Shared) (us:List Value),K.In s.heap→(us ++ ds).length=ps.length→BindsTo s fd ⟨us,[]⟩ (ps.zip (us ++ ds))
theorem Binds.all {K:PySem.W.Frag} {fd:FuncData} {ps:List Str} (h:∀ us:List Value,us.length=ps.length→bindArgs fd ⟨us,[]⟩=pure (ps.zip us)):Binds K fd ps []:=fun s us _ hl=>by
 rw [EY] at hl ⊢
 exact .of_eq (h us hl)
def Passes (CX:wY) (X:Cx) (E:XK):Prop:=∀ (pins:List (Addr×Obj)) (σ:St) (H:Hp) (s:Shared) (e:Value) (s':Shared),Inv X pins σ H s→CX X.stack H s E e s'→X.xe e s'
section
variable {X:Cx} {CX:wY} {k:Nat} {f C:Addr} {fd:FuncData} {ps:List Str} {sp:Sp} {FL:List V} {ds:List Value} {E:XK} {x m:Str} {p pos apos:Pos} {e o:Expr} {es:List Expr} {ta:TE} {t:TA}
theorem Ci {pins:List (Addr×Obj)} {σ:St} {H:Hp} {s:Shared} {Q:VK} {us:List Value} {vs:List V} (F:cS X.prog X.w X.K X.mg X.base CX k f fd ps sp) (hr:bx k X.A) (hb:Binds X.K fd ps ds) (hd:Vals FL ds) (hx:Passes CX X E)
  (I:Inv X pins σ H s) (r:Vals vs us) (h:sp (vs ++ FL) H Q E):wpAny (model X.prog X.w) X.A (call (.ref f) us) (EP X pins σ Q) X.xe s:=by
 have r2:Vals (vs ++ FL) (us ++ ds):=r.append hd
 have hl:(us ++ ds).length=ps.length:=by rw [← r2.length]; exact F.len _ _ _ _ h
 refine wpAny_call (codeAny_mono (F.run X.A X.stack s H ⟨us,[]⟩ (us ++ ds) (vs ++ FL) Q E hr I.Kw (hb s us I.jZ hl) r2 h) fun r s' hq=>?_)
 cases r with
 | error e=>exact hx pins σ H s e s' I hq
 | ok fl =>
   cases fl with
   | ret u=>exact I.after hq
   | _=>exact False.elim hq
theorem kR (F:cS X.prog X.w X.K X.mg X.base CX k f fd ps sp) (hr:bx k X.A) (hg:Gl X x) (hm:X.mg x=some (.ref f)) (hk:PySem.W.keepIn X.K (.ref f)=true) (hb:Binds X.K fd ps ds) (hd:Vals FL ds) (hx:Passes CX X E)
  (ha:PA X (e :: es) t) (lZ:gh x:=by decide) (he:starEach (e :: es) X.env=(false,eval e X.env) :: starEach es X.env:=by rfl) (fg:(backTo pos (starEach es X.env)).any (·.1)=false:=by rfl) :
  PE X (.Call (.Name x p) (e :: es) [] pos) (Of sp FL E t):=by
 intro pins s σ H Q I h
 refine wpAny_Call_Name_kw (gZ I hg hm ?_ lZ)
 refine NO (h₀:=X.base) I.ok.mod.JN hk (bV (ha pos pins s σ H _ I h) fun us s1 ⟨vs,H1,I1,r,q⟩=>⟨I1.jZ,?_⟩) he fg
 exact Ci F hr hb hd hx I1 r q
structure Mk (K:PySem.W.Frag) (C f:Addr):Prop where
 makes:PySem.W.makesIn K C=true
 init:PySem.W.findIn K (.ref C) "__init__" = some (some (.ref f))
 fn:PySem.W.isFn K (.ref f)=true
 kp:PySem.W.keepIn K (.ref C)=true
end
section
variable {X:Cx} {CX:wY} {k:Nat} {f C:Addr} {fd:FuncData} {ps ks:List Str} {sp:Sp} {E:XK} {x m:Str} {p pos apos SV:Pos} {e o:Expr} {es:List Expr} {W5:List Keyword} {te ta:TE} {t tk:TA} {nm:Option Str}
variable {g:List Value→List Value→List Value} {gV:List V→List V→List V}
end
structure aG (N P:List Str) (sc:Scope):Prop where
 kind:sc.kind = .function
 co:sc.isCoroutine=false
 gen:sc.isGenerator=false
 nd:N.Nodup
 pre:N.take P.length=P
 par:∀ x∈P,sc.names.lookup x=some .local∨sc.names.lookup x=some .cell
 Kx:∀ y∈sc.names,y.2≠.free
theorem g7 {N P:List Str} {sc:Scope} (a:sc.kind=.function:=by rfl) (b:sc.isCoroutine=false:=by rfl) (c:sc.isGenerator=false:=by rfl) (d:N.Nodup:=by decide +kernel) (e:N.take P.length=P:=by rfl) (f:∀ x∈P,sc.names.lookup x=some .local∨sc.names.lookup x=some .cell:=by decide +kernel) (g:∀ y∈sc.names,y.2≠.free:=by decide +kernel):aG N P sc:=⟨a,b,c,d,e,f,g⟩
theorem rA {kindOf:Str→Option NameKind} {x:Str}:∀ {binds:List (Str×Value)} {m:Str→Option Value},(∀ v,(x,v)∉binds)→bindL kindOf binds m x=m x
 | [],_,_=>rfl
 | (n,v) :: r,m,h=>by
   unfold bindL
   rw [rA fun w hw=>h w (jX _ hw)]
   split
   · have:x≠n:=by rintro rfl; exact h v iO
     simp [this]
   · rfl
theorem rB {kindOf:Str→Option NameKind} {x:Str}:∀ {binds:List (Str×Value)} {m:Str→Option Value},(∀ v,(x,v)∉binds)→bindC kindOf binds m x=m x
 | [],_,_=>rfl
 | (n,v) :: r,m,h=>by
   unfold bindC
   rw [rB fun w hw=>h w (jX _ hw)]
   split
   · rfl
   · have:x≠n:=by rintro rfl; exact h v iO
     simp [this]
theorem rC {kindOf:Str→Option NameKind} {x:Str} {v:Value}:∀ {P:List Str} {vs:List Value} {i:Nat} {m:Str→Option Value},P.Nodup→P[i]?=some x→vs[i]?=some v→kindOf x=some .local →
  bindL kindOf (P.zip vs) m x=some v
 | [],_,_,_,_,h,_,_=>by simp at h
 | _ :: _,[],_,_,_,_,h,_=>by simp at h
 | p :: P,w :: vs,0,m,nd,h1,h2,hk=>by
   simp at h1 h2; subst h1; subst h2
   show bindL kindOf ((p,w) :: P.zip vs) m p=_
   unfold bindL
   rw [rA fun v hv=>(rm.mp nd).1 (List.of_mem_zip hv).1,if_pos hk]
   simp
 | p :: P,w :: vs,i+1,m,nd,h1,h2,hk=>by
   show bindL kindOf ((p,w) :: P.zip vs) m x=_
   unfold bindL
   exact rC (i:=i) (rm.mp nd).2 (by simpa using h1) (by simpa using h2) hk
theorem rD {kindOf:Str→Option NameKind} {x:Str} {v:Value}:∀ {P:List Str} {vs:List Value} {i:Nat} {m:Str→Option Value},P.Nodup→P[i]?=some x→vs[i]?=some v→kindOf x≠some .local →
  bindC kindOf (P.zip vs) m x=some v
 | [],_,_,_,_,h,_,_=>by simp at h
 | _ :: _,[],_,_,_,_,h,_=>by simp at h
 | p :: P,w :: vs,0,m,nd,h1,h2,hk=>by
   simp at h1 h2; subst h1; subst h2
   show bindC kindOf ((p,w) :: P.zip vs) m p=_
   unfold bindC
   rw [rB fun v hv=>(rm.mp nd).1 (List.of_mem_zip hv).1,if_neg hk]
   simp
 | p :: P,w :: vs,i+1,m,nd,h1,h2,hk=>by
   show bindC kindOf ((p,w) :: P.zip vs) m x=_
   unfold bindC
   exact rD (i:=i) (rm.mp nd).2 (by simpa using h1) (by simpa using h2) hk
def start (N:List Str) (vs:List V):St:=vs.map some ++ List.replicate (N.length - vs.length) none
def d0 (CX:wY) (P:Program) (w:World) (K:PySem.W.Frag) (mg:Str→Option Value) (base:Heap) (N:List Str) (qual:Str) (scope:Scope) (f:Addr) (cd:Value) (A:Around) (outer:List Env) (s:Shared) (H:Hp) (E:XK):Cx where
 prog:=P
 w:=w
 K:=K
 mg:=mg
 base:=base
 A:=A.deeper (envOfC qual scope s.heap.objs.size f cd)
 N:=N
 s₀:=s
 H₀:=H
 env:=envOfC qual scope s.heap.objs.size f cd
 outer:=outer
 stack:=envOfC qual scope s.heap.objs.size f cd :: outer
 ex:=[]
 calm:=true
 fn:=fun _=>true
 pn:=[]
 xe:=fun e s'=>wpAny (model P w) (A.deeper (envOfC qual scope s.heap.objs.size f cd)) (leaving (envOfC qual scope s.heap.objs.size f cd) e) (fun _ Kz=>CX outer H s E e Kz) (fun e' Kz=>CX outer H s E e' Kz) s'
theorem uL {sc:Scope} {n:Nat} {x:Str} (h:sc.names.lookup x=some .cell):∃ c,(cellsFrom n sc.names []).lookup x=some c:=by
 have q:=PySem.W.cellsFrom_some sc.names n [] (.inl h)
 exact Sa.mp q
theorem Ab {CX:wY} {P:Program} {w:World} {K:PySem.W.Frag} {mg:Str→Option Value} {base:Heap} {N ps:List Str} {qual:Str} {scope:Scope} {f:Addr} {cd:Value} {A:Around} {outer:List Env} {s s1:Shared} {H:Hp} {E:XK} {us:List Value} {vs:List V}
  (S:aG N ps scope) (hd:A.handled=none) (e0:qC P w K mg base A outer s H) (hl:vs.length=ps.length) (r:Vals vs us)
  (x:InCallC s s.heap.objs.size (bindL (envOfC qual scope s.heap.objs.size f cd).kindOf (ps.zip us) fun _=>none) (cellsFrom (s.heap.objs.size+1) scope.names []) (bindC (envOfC qual scope s.heap.objs.size f cd).kindOf (ps.zip us) fun _=>none) s1) :
  Inv (d0 CX P w K mg base N qual scope f cd A outer s H E) [] (start N vs) H s1:=by
 have fg:ps.length≤N.length:=by have:=congrArg List.length S.pre; rw [EW] at this; omega
 obtain ⟨h1,tk,rfl,hk⟩:=x.done
 have Og:∀ b:Addr,b∉(d0 CX P w K mg base N qual scope f cd A outer s H E).ex:=fun b z=>absurd (show b∈([]:List Addr) from z) (by simp)
 refine ⟨⟨e0.mod,S.kind,rfl,rfl,d8 _,fun y z c h1 h2=>?_,fun y hy=>?_,fun y c _ h=>?_,fun _=>hd,Around.frames_deeper e0.frames,.inr ⟨rfl,rfl⟩,fun b z=>absurd z (Og b),e0.bs,e0.BO,fun b _ _=>Og b,fun b z=>absurd z (Og b),e0.kM,e0.Fs⟩,
  rfl,e0.bare,Un.kept hk,⟨_,x.toInCall.ns,fun i y v h1 h2 h3=>?_⟩,fun y c h=>⟨_,x.cell y c h⟩,e0.bD.fresh (d8 _),fun y c h=>?_,fun p hp=>absurd (show p∈([]:List (Addr×Obj)) from hp) (by simp),e0.bD.kept hk,?_⟩
 · exact name_of_addr x.apart (Ii h1) (Ii h2)
 · have hy:scope.names.lookup y=some .cell∨scope.names.lookup y=some .free:=hy
   rcases hy with hy | hy
   · exact uL hy
   · exact absurd rfl (S.Kx _ (Ii hy))
 · exact Nat.le_of_lt (x.above y c (Ii h))
 · have hi:i < vs.length:=by
    unfold start at h2
    by_cases hi:i < vs.length
    · exact hi
    · rw [BL (by simpa using hi)] at h2
      rw [JA] at h2
      split at h2 <;> cases h2
   have ha:vs[i]?=some v:=by
    unfold start at h2
    rw [uz (by simpa using hi),nV] at h2
    cases e:vs[i]? with
    | none=>rw [e] at h2; cases h2
    | some a=>rw [e] at h2; cases h2; rfl
   obtain ⟨u,hu,rv⟩:=r.get ha
   have hp:ps[i]?=some y:=by
    rw [← S.pre,List.getElem?_take_of_lt (by omega)]; exact h1
   have V2:ps.Nodup:=by rw [← S.pre]; exact S.nd.sublist (List.take_sublist _ _)
   refine ⟨u,rv,?_⟩
   rcases S.par y (mW hp) with k | k
   · exact .inl ⟨k,rC V2 hp hu k⟩
   · obtain ⟨c,e⟩:=uL (n:=s.heap.objs.size+1) k
     refine .inr ⟨.inl k,c,e,?_⟩
     have q:=x.cell y c e
     rw [rD V2 hp hu (by show scope.names.lookup y≠_; rw [k]; decide)] at q
     exact q
 · exact e0.bD.fresh (Nat.le_of_lt (x.above y c (Ii h)))
 · unfold start
   show _=N.length
   rw [nU,cu,Fh]
   omega
theorem Iw {CX:wY} {P:Program} {w:World} {K:PySem.W.Frag} {mg:Str→Option Value} {base:Heap} {k:Nat} {f:Addr} {name qual:Str} {params:Arguments} {body:List Stmt} {scope:Scope} {dV kV doc pm bE ct oc:Value} {an od:Option Addr}
  {yR:Array (Option Value)} {N ps:List Str} {sp:Sp} (lk:K.lookup f=some ⟨oc,od,.func (PySem.W.fnOf name qual params body scope dV kV doc pm an bE ct),yR⟩) (iL:PySem.W.codeIn K bE qual=true) (S:aG N ps scope)
  (len:∀ vs H Q E,sp vs H Q E→vs.length=ps.length)
  (iU:∀ (A:Around) (outer:List Env) (s:Shared) (H:Hp) (vs:List V) (Q:VK) (E:XK),bx k (A.deeper (envOfC qual scope s.heap.objs.size f bE))→sp vs H Q E →
    ∃ t,nE (d0 CX P w K mg base N qual scope f bE A outer s H E) body t∧t { nx:=fun _ H'=>Q .br H',rt:=Q } (start N vs) H) :
  cS P w K mg base CX (k+1) f (PySem.W.fnOf name qual params body scope dV kV doc pm an bE ct) ps sp:=by
 refine ⟨len,fun A outer s H args us vs Q E hr e0 hb r Iy=>?_⟩
 have hl:=len _ _ _ _ Iy
 have KX:K.In s.heap:=e0.mod.JN.keeps fun b o e=>(e0.bs b o e).1
 have lim:s.heap.NoLimit:=e0.mod.nolimit.keeps fun b o e=>(e0.bs b o e).1
 have Oh:∀ y∈ps.zip us,scope.names.lookup y.1=some .local∨(scope.names.lookup y.1=some .cell∧((cellsFrom (s.heap.objs.size+1) scope.names []).lookup y.1).isSome=true):=fun ⟨n,v⟩ hy=>by
  rcases S.par n (List.of_mem_zip hy).1 with q | q
  · exact .inl q
  · exact .inr ⟨q,PySem.W.cellsFrom_some _ _ _ (.inl q)⟩
 refine codeAny_call_function hr.depth (KX _ _ lk) rfl S.co S.gen rfl (PySem.W.codeRec_of KX iL) (hb _ _ _ _ ?_)
 refine wpAny_newFunctionEnv_cells S.kind Oh fun env he s1 x=>?_
 subst he
 refine ⟨lim.keeps x.toInCall.keep,codeAny_func ?_⟩
 obtain ⟨t,ht,hq⟩:=iU A outer s H vs Q E (hr.deeper _) Iy
 have I:Inv (d0 CX P w K mg base N qual scope f bE A outer s H E) [] (start N vs) H s1:=Ab S hr.hd e0 hl r x
 refine wpAny_mono (ht [] s1 (start N vs) H _ I hq) (fun fl s' hs=>?_) fun e s' hs=>hs
 have fin:∀ {σ':St} {H':Hp} {v:V} {u:Value},Inv (d0 CX P w K mg base N qual scope f bE A outer s H E) [] σ' H' s'→RelV v u→Q v H'→CE outer P w H s Q u s' :=
  fun {σ' H' v u} J rv q=>⟨v,H',J.os,J.bare,J.base,J.bD,rv,q⟩
 cases fl with
 | ret u =>
   obtain ⟨v,σ',H',J,rv,q⟩:=hs
   exact fin J rv q
 | next =>
   obtain ⟨σ',H',J,q⟩:=hs
   exact fin (v:=V.br) (u:=Value.none) J rfl q
 | brk =>
   obtain ⟨_,_,_,q⟩:=hs
   exact False.elim q
 | cont =>
   obtain ⟨_,_,_,q⟩:=hs
   exact False.elim q
section
variable {X:Cx} {x:Str} {p pos:Pos} {e:Expr} {es:List Expr} {t:TA} {id T:String} {r:List V→Hp→VK→Prop}
def V3 (r:List V→Hp→VK→Prop) (t:TA):TE:=fun σ H Q=>t σ H fun vs H1=>r vs H1 Q
theorem kS (hc:cw X (.builtin id) r) (hg:Gl X x) (hm:X.mg x=none) (hv:bootBuiltins x=some (.builtin id)) (ha:PA X (e :: es) t) (hn:x≠"__name__":=by decide) (lZ:gh x:=by decide)
  (he:starEach (e :: es) X.env=(false,eval e X.env) :: starEach es X.env:=by rfl) (fg:(backTo pos (starEach es X.env)).any (·.1)=false:=by rfl):PE X (.Call (.Name x p) (e :: es) [] pos) (V3 r t):=by
 intro pins s σ H Q I h
 refine wpAny_Call_Name_kw (ke I hg hm hv ?_ hn lZ)
 exact PyProof.Rows.callWith_builtin1 (bV (ha pos pins s σ H _ I h) fun us s1 ⟨vs,H1,I1,r1,q1⟩=>hc pins s1 σ H1 vs us Q I1 r1 q1) he fg
theorem rE (hc:cw X (.type T) r) (hg:Gl X x) (hm:X.mg x=none) (hv:bootBuiltins x=some (.type T)) (ha:PA X (e :: es) t) (hn:x≠"__name__":=by decide) (lZ:gh x:=by decide)
  (he:starEach (e :: es) X.env=(false,eval e X.env) :: starEach es X.env:=by rfl) (fg:(backTo pos (starEach es X.env)).any (·.1)=false:=by rfl):PE X (.Call (.Name x p) (e :: es) [] pos) (V3 r t):=by
 intro pins s σ H Q I h
 refine wpAny_Call_Name_kw (ke I hg hm hv ?_ hn lZ)
 exact QX (bV (ha pos pins s σ H _ I h) fun us s1 ⟨vs,H1,I1,r1,q1⟩=>hc pins s1 σ H1 vs us Q I1 r1 q1) he fg
end
end L2
namespace HT
open PySem PyProof.Rows
section
open PySem.SeqAt
open PySem.AutoSeq1 (wpAny_loadPart')
open PySem.MeetsSeq PySem.MeetsSeq2 PySem.MeetsSeq3
end
section
variable {prog:Program} {w:World} {A:Around} {E:Value→Shared→Prop} {s:Shared}
theorem FN {t b:Addr} {vs ws:List Value} {Q:Value→Shared→Prop} (ht:IsTup s.heap t vs.toArray) (hb:IsTup s.heap b ws.toArray) (hv:vs≠[])
  (h1:ws=[]→Q (.ref t) s) (h2:ws≠[]→Q (.ref s.heap.objs.size) { s with heap:=s.heap.push { cls:=.type "tuple",data:=.seq (vs ++ ws).toArray } })
  (n5:vs.length+ws.length≤sizeLine):wpAny (model prog w) A (binaryOp .Add (.ref t) (.ref b)) Q E s:=by
 obtain ⟨⟨cls,dd,data,sl⟩,ho,hc,n,hd⟩:=id ht
 obtain ⟨⟨Oi,Nn,data2,yS⟩,BQ,BR,n2,hd2⟩:=id hb
 simp only at hc hd BR hd2
 subst hc hd BR hd2
 have e:vs.toArray ++ ws.toArray=(vs ++ ws).toArray:=by simp
 by_cases hw:ws=[]
 · exact concat_meets ⟨_,ho,rfl⟩ ⟨_,BQ,rfl⟩ noFill_tuple_add seq_tuple_add Sg Sd (Sb _ _)
    (tuple_addW1 t b vs.toArray ws.toArray n n2 dd Nn sl yS (by simpa using hv) (by simp [hw])) ⟨ho,BQ,h1 hw⟩
 · refine concat_meets ⟨_,ho,rfl⟩ ⟨_,BQ,rfl⟩ noFill_tuple_add seq_tuple_add Sg Sd (Sb _ _)
    (tuple_addW2 t b vs.toArray ws.toArray n n2 dd Nn sl yS (by simpa using hv) (by simpa using hw) (by rw [gS,gS]; exact n5)) ⟨ho,BQ,?_⟩
   rw [e]
   exact h2 hw
def dy (n d:Nat):Option Int→Nat
 | none=>d
 | some v=>if v < 0 then (v+(n:Int)).toNat else min v.toNat n
theorem uM (n d:Nat):dy n d none=d:=rfl
theorem sJ (n d k:Nat):dy n d (some (k:Int))=min k n:=by
 show (if (k:Int) < 0 then ((k:Int)+(n:Int)).toNat else min (k:Int).toNat n)=min k n
 rw [if_neg (by omega),B0]
theorem KA (n d:Nat) (hd:d≤n) (o:Option Int):dy n d o≤n:=by
 cases o with
 | none=>exact hd
 | some v =>
   show (if v < 0 then (v+(n:Int)).toNat else min v.toNat n)≤n
   by_cases hv:v < 0
   · rw [if_pos hv]; omega
   · rw [if_neg hv]; exact Nat.min_le_right _ _
theorem yT (v:Int) (n d:Nat):(if v < 0 then max (v+(n:Int)) 0 else min v (n:Int))=((dy n d (some v):Nat):Int):=by
 show (if v < 0 then max (v+(n:Int)) 0 else min v (n:Int))=(((if v < 0 then (v+(n:Int)).toNat else min v.toNat n):Nat):Int)
 by_cases hv:v < 0
 · simp only [if_pos hv]; omega
 · simp only [if_neg hv]; omega
theorem wZ (lo hi:Option Int) (n:Nat):Builtin.Slice.sliceAdjust lo hi 1 (n:Int)=(((dy n 0 lo:Nat):Int),((dy n n hi:Nat):Int)):=by
 have h1:¬ ((1:Int) < 0):=by omega
 unfold Builtin.Slice.sliceAdjust
 simp only [h1,if_false]
 refine Prod.ext ?_ ?_
 · cases lo with
   | none=>rfl
   | some v=>exact yT v n 0
 · cases hi with
   | none=>rfl
   | some v=>exact yT v n n
theorem w6 (i j:Nat):Builtin.Slice.slicePlaces (i:Int) (j:Int) 1=j - i:=by
 unfold Builtin.Slice.slicePlaces
 have h1:(1:Int) > 0:=by omega
 simp only [h1,if_true,Int.ediv_one]
 split <;> omega
theorem oB {v:Value} {o:Option Int} {Q:Option Int→Shared→Prop} (p:IsPart v o) (h:Q o s):wpAny (model prog w) A (Builtin.Slice.slicePartIndex v) Q E s:=by
 cases p with
 | none=>exact slicePart_none h
 | int i t=>exact slicePart_int h
theorem l0 {sl:Addr} {vl vu:Value} {lo hi:Option Int} {n:Nat} {Q:Int×Int×Nat→Shared→Prop} (hs:s.heap.IsSliceOf sl vl vu .none) (pl:IsPart vl lo) (pu:IsPart vu hi)
  (h:Q (((dy n 0 lo:Nat):Int),1,dy n n hi - dy n 0 lo) s):wpAny (model prog w) A (Builtin.Slice.sliceApplied (.ref sl) (pure (n:Int))) Q E s:=by
 obtain ⟨os,Oj,V4,Rm⟩:=id hs
 unfold Builtin.Slice.sliceApplied Builtin.Slice.sliceFields
 refine wpAny_bind (wpAny_bind (wpAny_field Oj Rm (x:=vl) rfl (wpAny_bind (wpAny_field Oj Rm (x:=vu) rfl (wpAny_bind (wpAny_field Oj Rm (x:=.none) rfl (wpAny_pure ?_)))))))
 refine wpAny_bind (slicePart_none ?_)
 show wpAny _ _ (if ((1:Int) == 0)=true then _ else _) _ _ s
 rw [if_neg (by decide)]
 refine wpAny_bind (oB pl (wpAny_bind (oB pu (wpAny_bind (wpAny_pure ?_)))))
 show wpAny _ _ (match Builtin.Slice.sliceAdjust lo hi 1 (n:Int) with | (lo,hi)=>pure (lo,(1:Int),Builtin.Slice.slicePlaces lo hi 1)) _ _ s
 rw [wZ lo hi n]
 show wpAny _ _ (pure (((dy n 0 lo:Nat):Int),(1:Int),Builtin.Slice.slicePlaces ((dy n 0 lo:Nat):Int) ((dy n n hi:Nat):Int) 1)) _ _ s
 rw [w6]
 exact wpAny_pure h
theorem Cj (xs:Array Value) (i k:Nat):((List.range k).filterMap fun (m:Nat)=>xs[((i:Int)+(m:Int) * 1).toNat]?).toArray=((xs.toList.drop i).take k).toArray:=by
 have e:(fun (m:Nat)=>xs[((i:Int)+(m:Int) * 1).toNat]?)=fun m=>xs[i+m]?:=by
  funext m
  have:((i:Int)+(m:Int) * 1).toNat=i+m:=by omega
  rw [this]
 rw [e]
 have:=pick_run xs i k
 rw [List.filterMap_map] at this
 have e2:((fun x=>xs[x]?) ∘ fun x=>i+x)=fun m=>xs[i+m]?:=rfl
 rw [e2] at this
 rw [this]
theorem kT {t sl:Addr} {items:Array Value} {vl vu:Value} {lo hi:Option Int} {Q:Value→Shared→Prop} (ht:IsTup s.heap t items) (hs:s.heap.IsSliceOf sl vl vu .none) (pl:IsPart vl lo) (pu:IsPart vu hi)
  (hw:¬ (dy items.size 0 lo=0∧dy items.size items.size hi=items.size))
  (h:Q (.ref s.heap.objs.size) { s with heap:=s.heap.push { cls:=.type "tuple",data:=.seq ((items.toList.drop (dy items.size 0 lo)).take (dy items.size items.size hi - dy items.size 0 lo)).toArray } })
  (n5:items.size≤sizeLine):wpAny (model prog w) A (getItem (.ref t) (.ref sl)) Q E s:=by
 have yU:sizeOk (.seq ((items.toList.drop (dy items.size 0 lo)).take (dy items.size items.size hi - dy items.size 0 lo)).toArray):=by
  show ((items.toList.drop (dy items.size 0 lo)).take (dy items.size items.size hi - dy items.size 0 lo)).toArray.size≤sizeLine
  rw [gS,EW,Ij,Fi]
  omega
 have hj:dy items.size items.size hi≤items.size:=KA _ _ (d8 _) hi
 obtain ⟨os,Oj,V4,Rm⟩:=id hs
 have W6:s.TypeIs (.ref sl) "slice":=⟨os,Oj,V4⟩
 unfold getItem
 try with_reducible refine wpAny_holding ?_
 first | refine wpAny_bind (wpAny_pure ?_) | skip
 refine wpAny_bind (wpAny_sequenceKey ht.typeIs (by decide) ?_)
 refine wpAny_bind (wpAny_callSpecial?_slot (name:=Str.ofString "__getitem__") ht.typeIs R8
  (wpAny_call_entry R8 ht.typeIs entry_tuple_getitem ?_ (args_tuple_getitem _ _)))
 show wpAny _ _ (Builtin.Tuple.tupleItemsOf (.ref t) >>= _) _ _ s
 refine wpAny_bind (tupleItemsOf_ ht ?_)
 refine wpAny_bind (wpAny_typeOf W6 ?_)
 rw [if_pos (by decide)]
 refine wpAny_bind (l0 hs pl pu ?_)
 have KC:¬ ((((dy items.size 0 lo:Nat):Int) == 0 && (1:Int) == 1 && (dy items.size items.size hi - dy items.size 0 lo) == items.size)=true):=by
  intro q
  rw [iP,iP] at q
  have q1:((dy items.size 0 lo:Nat):Int)=0:=eq_of_beq q.1.1
  have q2:dy items.size items.size hi - dy items.size 0 lo=items.size:=eq_of_beq q.2
  exact hw ⟨by omega,by omega⟩
 show wpAny _ _ (if (((dy items.size 0 lo:Nat):Int) == 0 && (1:Int) == 1 && (dy items.size items.size hi - dy items.size 0 lo) == items.size)=true then _ else _) _ _ s
 rw [if_neg KC,Cj]
 first
  | exact wpAny_bind (m:=Builtin.Tuple.tupleExact _) (wpAny_newObj_type (wpAny_pure ⟨_,rfl,wpAny_pure h⟩) yU)
  | exact wpAny_bind (m:=Builtin.Tuple.tupleExact _) (wpAny_newObj_type (wpAny_bind (wpAny_pure (wpAny_pure ⟨_,rfl,wpAny_pure h⟩))) yU)
  | exact wpAny_bind (wpAny_bind (m:=Builtin.Tuple.tupleExact _) (wpAny_newObj_type (wpAny_pure (wpAny_pure ⟨_,rfl,wpAny_pure h⟩)) yU))
  | exact wpAny_bind (wpAny_bind (m:=Builtin.Tuple.tupleExact _) (wpAny_newObj_type (wpAny_pure ⟨_,rfl,wpAny_pure h⟩) yU))
end
end HT
namespace L2
open PySem PySem.Spec PyProof.Rows
abbrev TO:=St→Hp→(Option Int→Hp→Prop)→Prop
def PO (X:Cx) (e:Option Expr) (t:TO):Prop :=
 ∀ (pins:List (Addr×Obj)) (s:Shared) (σ:St) (H:Hp) (Q:Option Int→Hp→Prop),Inv X pins σ H s→t σ H Q →
  wpAny (model X.prog X.w) X.A (evalPart e X.env) (fun u s'=>∃ o H',Inv X pins σ H' s'∧IsPart u o∧Q o H') X.xe s
def FQ:TO:=fun _ H Q=>Q none H
def Ol (t:TE):TO:=fun σ H Q=>t σ H fun x H1=>∃ i,x = .int i∧Q (some i) H1
theorem intsAre_of {ns:List Int}:∀ {us:List Value},Vals (ns.map V.int) us→IntsAre us ns:=by
 induction ns with
 | nil=>intro us r; rw [JH] at r; cases r; exact .nil
 | cons n ns ih =>
   intro us r
   rw [jY] at r
   cases r with
   | cons r1 r2 =>
     obtain ⟨t,e⟩:=r1
     subst e
     exact .cons n t (ih r2)
section
variable {X:Cx} {e:Expr} {te:TE} {lo hi:Option Expr} {tl th:TO} {pos p2:Pos}
theorem FR:PO X none FQ:=by
 intro pins s σ H Q I h
 rw [evalPart_none]
 exact wpAny_pure ⟨none,H,I,.none,h⟩
theorem FT (h:PE X e te):PO X (some e) (Ol te):=by
 intro pins s σ H Q I hw
 rw [evalPart_some]
 refine bV (h pins s σ H _ I hw) fun u s1 ⟨x,H1,I1,r1,q1⟩=>?_
 obtain ⟨i,rfl,q⟩:=q1
 obtain ⟨t,rfl⟩:=r1
 exact ⟨some i,H1,I1,.int i t,q⟩
def Ck (X:Cx) (r:V→Option Int→Option Int→Hp→VK→Prop):Prop :=
 ∀ (pins:List (Addr×Obj)) (s:Shared) (σ:St) (H:Hp) (x:V) (v vl vu:Value) (lo hi:Option Int) (sl:Addr) (Q:VK),Inv X pins σ H s→RelV x v→s.heap.IsSliceOf sl vl vu .none→IsPart vl lo→IsPart vu hi→r x lo hi H Q →
  ∃ T id,typeLookup (.type T) "__getitem__" = pure (some (.builtin id))∧s.TypeIs v T∧wpAny (model X.prog X.w) X.A (getItem v (.ref sl)) (EP X pins σ Q) X.xe s
theorem Ck.or {r r':V→Option Int→Option Int→Hp→VK→Prop} (h:Ck X r) (h':Ck X r'):Ck X (fun x lo hi H Q=>r x lo hi H Q∨r' x lo hi H Q):=by
 intro pins s σ H x v vl vu lo hi sl Q I rx hs pl pu q
 rcases q with q | q
 · exact h pins s σ H x v vl vu lo hi sl Q I rx hs pl pu q
 · exact h' pins s σ H x v vl vu lo hi sl Q I rx hs pl pu q
def W7 (r:V→Option Int→Option Int→Hp→VK→Prop) (te:TE) (tl th:TO):TE:=fun σ H Q=>te σ H fun x H1=>tl σ H1 fun l H2=>th σ H2 fun u H3=>r x l u H3 Q
theorem Cm {r:V→Option Int→Option Int→Hp→VK→Prop} (hr:Ck X r) (he:PE X e te) (hl:PO X lo tl) (hu:PO X hi th):PE X (.Subscript e (.Slice lo hi none p2) pos) (W7 r te tl th):=by
 intro pins s σ H Q I h
 refine Subscript_ (bV (he pins s σ H _ I h) fun v s1 ⟨x,H1,I1,r1,q1⟩=>?_)
 refine wpAny_Slice (bV (hl pins s1 σ H1 _ I1 q1) fun vl s2 ⟨l,H2,I2,pl,q2⟩=>bV (hu pins s2 σ H2 _ I2 q2) fun vu s3 ⟨u,H3,I3,pu,q3⟩=>?_)
 rw [evalPart_none]
 refine wpAny_pure ?_
 have I4:Inv X pins σ H3 { s3 with heap:=s3.heap.push { cls:=.type "slice",data:=.fields #[vl,vu,.none] } }:=I3.kept (t':=s3.toks) fun b ob q=>dB _ q
 obtain ⟨T,id,hT,ht,hg⟩:=hr pins { s3 with heap:=s3.heap.push { cls:=.type "slice",data:=.fields #[vl,vu,.none] } } σ H3 x v vl vu l u s3.heap.objs.size Q I4 r1 (Heap.IsSliceOf.new ..) pl pu q3
 show wpAny (model X.prog X.w) X.A (subscriptTail e (.Slice lo hi none p2) v (.ref s3.heap.objs.size)) (EP X pins σ Q) X.xe { s3 with heap:=s3.heap.push { cls:=.type "slice",data:=.fields #[vl,vu,.none] } }
 exact tail_any (ops:=[.ref s3.heap.objs.size,v]) ht hT hg (by with_unfolding_all rfl)
def uN (xs:List V) (lo hi:Option Int):List V:=(xs.drop (HT.dy xs.length 0 lo)).take (HT.dy xs.length xs.length hi - HT.dy xs.length 0 lo)
theorem mX (xs:List V) (lo hi:Option Int):(uN xs lo hi).length≤xs.length:=by
 unfold uN
 rw [EW,Ij]
 omega
def Om (K:PySem.W.Frag):V→Option Int→Option Int→Hp→VK→Prop:=fun x lo hi H Q=>∃ a xs,x = .ref a∧d9 K H a xs ∧
 ¬ (HT.dy xs.length 0 lo=0∧HT.dy xs.length xs.length hi=xs.length)∧∀ p,H p=none→Q (.ref p) (upd H p (.tup (uN xs lo hi)))
theorem KD:Ck X (Om X.K):=by
 intro pins s σ H x v vl vu lo hi sl Q I rx hs pl pu h
 obtain ⟨a,xs,rfl,hx,hw,q⟩:=h
 cases rx
 obtain ⟨aK,r,ht,hz⟩:=I.tuple hx
 have hlen:aK.toArray.size=xs.length:=by rw [gS]; exact r.length.symm
 refine ⟨"tuple",_,R8.lookup,ht.typeIs,?_⟩
 refine HT.kT ht hs pl pu (by rw [hlen]; exact hw) ?_ (by rw [hlen]; exact hz)
 rw [hlen]
 refine ⟨.ref s.heap.objs.size,_,I.laid (t':=s.toks) (o:=.tup (uN xs lo hi)) (fun b ob q=>dB _ q) (d8 _) ?_,rfl,q _ (I.bD.fresh (d8 _))⟩
 exact ⟨nB (mX xs lo hi) hz,_,(r.drop (HT.dy xs.length 0 lo)).take (HT.dy xs.length xs.length hi - HT.dy xs.length 0 lo),IsTup.new _ _⟩
theorem Vals.n6 {xs:List V} {us:List Value} (r:Vals xs us):us=[]↔xs=[]:=by
 cases r with
 | _=>simp
end
def yV (n:Nat) (i:Int):Option Nat:=if 0≤i then (if i < n then some i.toNat else none) else if -(n:Int)≤i then some (i+n).toNat else none
def lQ {α:Type} (xs:List α) (i:Int):Option α:=(yV xs.length i).bind fun j=>xs[j]?
theorem yW {n:Nat} {i:Int} {j:Nat} (h:yV n i=some j):seqIndex? i n=some j∧j < n∧-(n:Int)≤i∧i < n:=by
 unfold yV at h
 by_cases h0:0≤i
 · rw [if_pos h0] at h
   by_cases h1:i < n
   · rw [if_pos h1] at h
     have e:i.toNat=j:=Option.some.inj h
     exact ⟨by rw [seqIndex_of h0 h1,e],by omega,by omega,h1⟩
   · rw [if_neg h1] at h; cases h
 · rw [if_neg h0] at h
   by_cases h1 : -(n:Int)≤i
   · rw [if_pos h1] at h
     have e:(i+n).toNat=j:=Option.some.inj h
     exact ⟨by rw [seqIndex_neg (by omega) h1,e],by omega,h1,by omega⟩
   · rw [if_neg h1] at h; cases h
theorem sL {α:Type} {xs:List α} {i:Int} {v:α} (h:lQ xs i=some v):∃ j,seqIndex? i xs.length=some j∧xs[j]?=some v∧j < xs.length∧-(xs.length:Int)≤i∧i < xs.length:=by
 unfold lQ at h
 cases e:yV xs.length i with
 | none=>rw [e] at h; cases h
 | some j =>
   rw [e] at h
   obtain ⟨h1,h2,h3,h4⟩:=yW e
   exact ⟨j,h1,h,h2,h3,h4⟩
theorem aB {α:Type} {xs:List α} {j:Nat} {v:α} (h:xs[j]?=some v):lQ xs (j:Int)=some v:=by
 have hj:j < xs.length:=(fY.mp h).1
 have e:yV xs.length (j:Int)=some j:=by
  unfold yV
  rw [if_pos (by omega),if_pos (by omega)]; simp
 unfold lQ; rw [e]; exact h
theorem uO {α:Type} (xs:List α) (v:α):lQ (xs ++ [v]) (-1)=some v:=by
 have hl:(xs ++ [v]).length=xs.length+1:=by simp
 have e:yV (xs ++ [v]).length (-1)=some xs.length:=by
  unfold yV
  rw [hl,if_neg (by decide),if_pos (by omega)]
  congr 1
  omega
 unfold lQ
 rw [e]
 show (xs ++ [v])[xs.length]?=some v
 simp
def yX (b:Expr):Prop:=∀ o i,subscripted b false o i=operate [o,i] (getItem o i)
def FU (X:Cx) (r:R2):Prop :=
 ∀ (value slice:Expr) (pins:List (Addr×Obj)) (s:Shared) (σ:St) (H:Hp) (x y:V) (v u:Value) (Q:VK),Inv X pins σ H s→RelV x v→RelV y u→r x y H Q →
  subscripted slice false v u=operate [v,u] (getItem v u)→wpAny (model X.prog X.w) X.A (subscriptTail value slice v u) (EP X pins σ Q) X.xe s
def BS (X:Cx) (id:String) (r:V→List V→Hp→VK→Prop):Prop :=
 ∀ (pins:List (Addr×Obj)) (s:Shared) (σ:St) (H:Hp) (x:V) (xs:List V) (v:Value) (us:List Value) (Q:VK),Inv X pins σ H s→RelV x v→Vals xs us→r x xs H Q →
  wpAny (model X.prog X.w) X.A (call (.builtin id) (v :: us)) (EP X pins σ Q) X.xe s
section
variable {X:Cx} {a b:Expr} {ta tb:TE} {pos:Pos}
theorem FU.or {r r':R2} (h:FU X r) (h':FU X r'):FU X (fun x y H Q=>r x y H Q∨r' x y H Q):=by
 intro value slice pins s σ H x y v u Q I rx ry q hs
 rcases q with q | q
 · exact h value slice pins s σ H x y v u Q I rx ry q hs
 · exact h' value slice pins s σ H x y v u Q I rx ry q hs
theorem BS.or {id:String} {r r':V→List V→Hp→VK→Prop} (h:BS X id r) (h':BS X id r'):BS X id (fun x xs H Q=>r x xs H Q∨r' x xs H Q):=by
 intro pins s σ H x xs v us Q I rx rs q
 rcases q with q | q
 · exact h pins s σ H x xs v us Q I rx rs q
 · exact h' pins s σ H x xs v us Q I rx rs q
theorem Oo {r:R2} (hr:FU X r) (ha:PE X a ta) (hb:PE X b tb) (hs:yX b):PE X (.Subscript a b pos) (N_ r ta tb):=by
 intro pins s σ H Q I h
 exact Subscript_ (Ki ha hb I h fun v u s2 x y H2 I2 rx ry q=>hr a b pins s2 σ H2 x y v u Q I2 rx ry q (hs _ _))
def Oq (K:PySem.W.Frag):R2:=fun x y H Q=>∃ p xs i v,x = .ref p∧y = .int i∧eY K H p xs∧lQ xs i=some v∧Q v H
def Ot (K:PySem.W.Frag):R2:=fun x y H Q=>∃ p xs i v,x = .ref p∧y = .int i∧d9 K H p xs∧lQ xs i=some v∧Q v H
def Ou:R2:=fun x y H Q=>∃ z i c,x = .str z∧y = .int i∧z.length≤sizeLine∧lQ z.cps.toList i=some c∧Q (.str ⟨#[c]⟩) H
theorem FV:FU X (Oq X.K):=by
 intro value slice pins s σ H x y v u Q I rx ry h hs
 obtain ⟨p,xs,i,z,rfl,rfl,hq,he,q⟩:=h
 cases rx
 obtain ⟨t,rfl⟩:=ry
 obtain ⟨aK,r,pl,hz⟩:=I.list hq
 obtain ⟨j,h1,h2,h3,h4,h5⟩:=sL he
 obtain ⟨w,ew,rw'⟩:=r.get h2
 have hl:=r.length
 have hn:=lY
 have fin:EP X pins σ Q w s:=⟨z,H,I,rw',q⟩
 by_cases h0:0≤i
 · have hj:i.toNat=j:=by
    rw [seqIndex_of h0 h5] at h1
    exact Option.some.inj h1
   exact item_listR pl.isList h0 (by omega) (by rw [hj]; simpa using ew) fin hs
 · have hj:(i+(aK.toArray.size:Int)).toNat=j:=by
    rw [seqIndex_neg (by omega) h4] at h1
    rw [gS,← hl]
    exact Option.some.inj h1
   exact subscriptTail_builtinR (x:=w) pl.isList.typeIs slot_list_getitem.lookup
    (wpAny_getItem_list_neg (Q:=fun r s'=>r=w∧EP X pins σ Q r s') pl.isList (by omega) (by rw [gS] <;> omega) (by omega) (by rw [hj]; simpa using ew) ⟨rfl,fin⟩) hs
theorem KG:FU X (Ot X.K):=by
 intro value slice pins s σ H x y v u Q I rx ry h hs
 obtain ⟨p,xs,i,z,rfl,rfl,hq,he,q⟩:=h
 cases rx
 obtain ⟨t,rfl⟩:=ry
 obtain ⟨aK,r,pl,hz⟩:=I.tuple hq
 obtain ⟨j,h1,h2,h3,h4,h5⟩:=sL he
 obtain ⟨w,ew,rw'⟩:=r.get h2
 have hl:=r.length
 have hn:=lY
 have fin:EP X pins σ Q w s:=⟨z,H,I,rw',q⟩
 exact subscriptTail_builtinR (x:=w) pl.typeIs slot_tuple_getitem.lookup
  (getItem_tuple (j:=j) (Q:=fun r s'=>r=w∧EP X pins σ Q r s') pl (by omega) (by omega) (by rw [gS,← hl]; exact h1) (by simpa using ew) ⟨rfl,fin⟩) hs
theorem KH:FU X Ou:=by
 intro value slice pins s σ H x y v u Q I rx ry h hs
 obtain ⟨z,i,c,rfl,rfl,hz,he,q⟩:=h
 obtain ⟨t,rfl⟩:=rx
 obtain ⟨t',rfl⟩:=ry
 obtain ⟨j,h1,h2,h3,h4,h5⟩:=sL he
 have hl:z.cps.toList.length=z.length:=by simp [Str.length]
 rw [hl] at h1 h4 h5
 have hn:=lY
 exact tail_any (typeIs_str s z t) slot_str_getitem.lookup (getItem_str (c:=c) (by
  have e1:decide (i < -(2 ^ 63:Int))=false:=decide_eq_false (by omega)
  have e2:decide (i ≥ 2 ^ 63)=false:=decide_eq_false (by omega)
  rw [e1,e2,Bool.or_false]) (by rw [h1]; simpa using h2) ⟨.str ⟨#[c]⟩,H,I.tok _,⟨_,rfl⟩,q⟩) hs
def V5 (K:PySem.W.Frag):R2:=fun x y H Q=>Oq K x y H Q∨Ot K x y H Q∨Ou x y H Q
theorem KI:FU X (V5 X.K):=FV.or (KG.or KH)
theorem w_ (aK:List Value) (n j:Nat) (u:Value):Obj.mapSeq (·.setIfInBounds j u) { cls:=.type "list",data:=.seq aK.toArray n }={ cls:=.type "list",data:=.seq (aK.set j u).toArray n }:=by
 simp [Obj.mapSeq]
theorem Inv.lst {pins:List (Addr×Obj)} {σ:St} {H:Hp} {s:Shared} {p:Addr} {xs:List V} (I:Inv X pins σ H s) (h:H p=some (.lst xs)) :
  ∃ (aK:List Value) (n:Nat),Vals xs aK∧s.heap.get? p=some { cls:=.type "list",data:=.seq aK.toArray n }∧xs.length≤sizeLine:=by
 obtain ⟨z,aK,n,r,e⟩:=I.bD p _ h
 exact ⟨aK,n,r,e,z⟩
theorem Inv.KJ {pins:List (Addr×Obj)} {σ:St} {H:Hp} {s:Shared} {p:Addr} {xs ys:List V} {aK its':List Value} {n n':Nat} {f:Obj→Obj} (I:Inv X pins σ H s) (h:H p=some (.lst xs))
  (ho:s.heap.get? p=some { cls:=.type "list",data:=.seq aK.toArray n }) (hf:f { cls:=.type "list",data:=.seq aK.toArray n }={ cls:=.type "list",data:=.seq its'.toArray n' }) (r:Vals ys its') (hz:ys.length≤sizeLine) (t:Nat) :
  Inv X pins σ (upd H p (.lst ys)) { s with heap:=s.heap.update p f,toks:=t }:=by
 have e:(s.heap.update p f).get? p=some { cls:=.type "list",data:=.seq its'.toArray n' }:=by
  rw [JB f ho (by rw [hf] <;> rfl),hf]
 refine I.write (x:=p) (e:=p) (by rw [h]; trivial) (.inl rfl) (fun b u hb q=>(Ih _ _ (Ne.symm hb)).trans q) ⟨_,e⟩ ?_
 exact ⟨hz,its',n',r,e⟩
def Ov:V→V→V→Hp→(Hp→Prop)→Prop:=fun o i v H Q=>∃ p xs k j,o = .ref p∧i = .int k∧H p=some (.lst xs)∧yV xs.length k=some j∧Q (upd H p (.lst (xs.set j v)))
theorem set_list:N5 X Ov:=by
 intro pins s σ H o i v ov iv u Q I ro ri rv h
 obtain ⟨p,xs,k,j,rfl,rfl,hp,hj,q⟩:=h
 cases ro
 obtain ⟨t,rfl⟩:=ri
 obtain ⟨aK,n,r,ho,hz⟩:=I.lst hp
 obtain ⟨h1,h2,h3,h4⟩:=yW hj
 have hl:=r.length
 have hn:=lY
 have I':Inv X pins σ (upd H p (.lst (xs.set j v))) { s with heap:=s.heap.update p (Obj.mapSeq (·.setIfInBounds j u)) } :=
  I.KJ hp ho (w_ aK n j u) (r.set rv j) (by rw [JF]; exact hz) s.toks
 by_cases h0:0≤k
 · have hk:k.toNat=j:=by
    rw [seqIndex_of h0 h4] at h1
    exact Option.some.inj h1
   exact PySem.W.ki_setAt ho h0 (by omega) (by rw [gS,← hl]; exact h4) (by rw [hk]; exact ⟨_,I',q⟩)
 · have hk:(k+(aK.toArray.size:Int)).toNat=j:=by
    rw [seqIndex_neg (by omega) h3] at h1
    rw [gS,← hl]
    exact Option.some.inj h1
   exact PySem.W.ki_setBack ho (by omega) (by rw [gS,← hl]; exact h3) (by omega) (by rw [hk]; exact ⟨_,I',q⟩)
theorem sM (lo hi:Option Int) (n:Nat):(sliceBounds lo hi none n).1=((HT.dy n 0 lo:Nat):Int)∧(sliceBounds lo hi none n).2.1=((HT.dy n n hi:Nat):Int)∧(sliceBounds lo hi none n).2.2=1:=by
 refine ⟨?_,?_,rfl⟩
 · cases lo with
   | none=>simp [sliceBounds,HT.dy]
   | some i =>
     simp only [sliceBounds,HT.dy,Option.getD_none,show (1:Int) > 0 by decide,if_true]
     by_cases h:i < 0
     · simp only [h,if_true] <;> omega
     · simp only [h,if_false] <;> omega
 · cases hi with
   | none=>simp [sliceBounds,HT.dy]
   | some i =>
     simp only [sliceBounds,HT.dy,Option.getD_none,show (1:Int) > 0 by decide,if_true]
     by_cases h:i < 0
     · simp only [h,if_true] <;> omega
     · simp only [h,if_false] <;> omega
theorem qD (aK:List Value) (lo hi:Option Int):slicePick aK.toArray lo hi none=((aK.drop (HT.dy aK.length 0 lo)).take (HT.dy aK.length aK.length hi - HT.dy aK.length 0 lo)).toArray:=by
 obtain ⟨h1,h2,h3⟩:=sM lo hi aK.toArray.size
 unfold slicePick
 rw [h1,h2,h3]
 simp only [sliceRange_one,pick_run,gS] <;> rfl
def Ow (K:PySem.W.Frag):V→Option Int→Option Int→Hp→VK→Prop:=fun x lo hi H Q=>∃ a xs,x = .ref a∧eY K H a xs∧∀ p,H p=none→Q (.ref p) (upd H p (.lst (uN xs lo hi)))
theorem FW:Ck X (Ow X.K):=by
 intro pins s σ H x v vl vu lo hi sl Q I rx hs pl pu h
 obtain ⟨a,xs,rfl,hx,q⟩:=h
 cases rx
 obtain ⟨aK,r,ht,hz⟩:=I.list hx
 have hlen:=r.length
 refine ⟨"list",_,slot_list_getitem.lookup,ht.isList.typeIs,?_⟩
 refine wpAny_getItem_list_slice ht.isList hs pl pu .none (by simp) ?_ (by rw [gS] <;> omega)
 rw [qD,← hlen]
 refine ⟨.ref s.heap.objs.size,_,I.laid (t':=s.toks) (o:=.lst (uN xs lo hi)) (fun b ob q=>dB _ q) (d8 _) ?_,rfl,q _ (I.bD.fresh (d8 _))⟩
 exact ⟨nB (mX xs lo hi) hz,_,0,(r.drop (HT.dy xs.length 0 lo)).take (HT.dy xs.length xs.length hi - HT.dy xs.length 0 lo),nQ _ rfl⟩
def iV:V→Bool
 | .br=>true
 | .bl _=>true
 | .int _=>true
 | .str _=>true
 | _=>false
def E5:V→V→Bool
 | .br,.br=>true
 | .bl a,.bl b=>a == b
 | .bl a,.int b=>(if a then 1 else 0) == b
 | .int a,.bl b=>a == (if b then 1 else 0)
 | .int a,.int b=>a == b
 | .str a,.str b=>a == b
 | _,_=>false
theorem KL {A:Around} {s:Shared} {y x:V} {u v:Value} (ry:RelV y u) (rx:RelV x v) (fy:iV y=true) (fx:iV x=true):SeqAt.EqAt A s u v (E5 y x):=by
 cases y with
 | br =>
   cases ry
   cases x with
   | br=>cases rx; exact SeqAt.EqAt.same _
   | bl b=>cases rx; exact SeqAt.EqAt.none_bool b
   | int b=>obtain ⟨t,rfl⟩:=rx; exact SeqAt.EqAt.none_int b t
   | str b=>obtain ⟨t,rfl⟩:=rx; exact SeqAt.EqAt.none_str b t
   | _=>exact absurd (show false=true from fx) nS
 | bl a =>
   cases ry
   cases x with
   | br=>cases rx; exact SeqAt.EqAt.bool_none a
   | bl b=>cases rx; exact SeqAt.EqAt.bool_bool a b
   | int b=>obtain ⟨t,rfl⟩:=rx; exact SeqAt.EqAt.bool_int a b t
   | str b=>obtain ⟨t,rfl⟩:=rx; exact SeqAt.EqAt.bool_str a b t
   | _=>exact absurd (show false=true from fx) nS
 | int a =>
   obtain ⟨t',rfl⟩:=ry
   cases x with
   | br=>cases rx; exact SeqAt.EqAt.int_none a t'
   | bl b=>cases rx; exact SeqAt.EqAt.int_bool a t' b
   | int b=>obtain ⟨t,rfl⟩:=rx; exact SeqAt.EqAt.int_int a t' b t
   | str b=>obtain ⟨t,rfl⟩:=rx; exact SeqAt.EqAt.int_str a t' b t
   | _=>exact absurd (show false=true from fx) nS
 | str a =>
   obtain ⟨t',rfl⟩:=ry
   cases x with
   | br=>cases rx; exact SeqAt.EqAt.str_none a t'
   | bl b=>cases rx; exact SeqAt.EqAt.str_bool a t' b
   | int b=>obtain ⟨t,rfl⟩:=rx; exact SeqAt.EqAt.str_int a t' b t
   | str b=>obtain ⟨t,rfl⟩:=rx; exact SeqAt.EqAt.str_str a t' b t
   | _=>exact absurd (show false=true from fx) nS
 | _=>exact absurd (show false=true from fy) nS
def FY (x:V) (u:Value):Bool:=match u with
 | .none=>E5 .br x
 | .bool b=>E5 (.bl b) x
 | .int i _=>E5 (.int i) x
 | .str z _=>E5 (.str z) x
 | _=>false
theorem Cn {x y:V} {u:Value} (r:RelV y u) (f:iV y=true):FY x u=E5 y x:=by
 cases y with
 | br=>cases r; rfl
 | bl b=>cases r; rfl
 | int i=>obtain ⟨t,rfl⟩:=r; rfl
 | str z=>obtain ⟨t,rfl⟩:=r; rfl
 | _=>exact absurd (show false=true from f) nS
theorem sN {x:V}:∀ {xs:List V} {us:List Value},Vals xs us→xs.all iV=true→us.any (FY x)=xs.any fun y=>E5 y x
 | _,_,.nil,_=>rfl
 | y :: xs,u :: us,.cons r t,f=>by
   rw [uC,iP] at f
   rw [Nk,Nk,Cn r f.1,sN t f.2]
theorem oE {A:Around} {s:Shared} {x:V} {v:Value} (rx:RelV x v) (fx:iV x=true):∀ {xs:List V} {us:List Value},Vals xs us→xs.all iV=true→∀ u∈us,SeqAt.EqAt A s u v (FY x u)
 | _,_,.nil,_=>fun u hu=>by cases hu
 | y :: xs,u :: us,.cons r t,f=>fun u' hu=>by
   rw [uC,iP] at f
   rcases cL.mp hu with rfl | hu
   · rw [Cn r f.1]; exact KL r rx f.1 fx
   · exact oE rx fx t f.2 u' hu
def Rn (x:V) (xs:List V):Bool:=xs.any fun y=>E5 y x
def V6 (K:PySem.W.Frag) (neg:Bool):R2:=fun x y H Q=>∃ p xs,y = .ref p∧(eY K H p xs∨d9 K H p xs)∧iV x=true∧xs.all iV=true∧Q (.bl (if neg then !Rn x xs else Rn x xs)) H
theorem Ac:fq X (compareOp .In) (V6 X.K false):=by
 intro pins s σ H x y v u Q I rx ry h
 obtain ⟨p,xs,rfl,hq,fx,fs,q⟩:=h
 cases ry
 rcases hq with hq | hq
 · obtain ⟨aK,r,pl,hz⟩:=I.list hq
   refine SeqAt.in_listAt (FY x) pl.isList (fun w hw=>oE rx fx r fs w (by simpa using hw)) ⟨.bl _,H,I,rfl,?_⟩
   rw [show aK.toArray.any (FY x)=aK.any (FY x) by simp,sN r fs]
   exact q
 · obtain ⟨aK,r,pl,hz⟩:=I.tuple hq
   refine SeqAt.in_tupleAt (FY x) pl (fun w hw=>oE rx fx r fs w (by simpa using hw)) ⟨.bl _,H,I,rfl,?_⟩
   rw [show aK.toArray.any (FY x)=aK.any (FY x) by simp,sN r fs]
   exact q
theorem sO:cw X (.builtin "len") (fun xs H Q=>∃ p ys,xs=[.ref p]∧(eY X.K H p ys∨d9 X.K H p ys)∧Q (.int ys.length) H):=by
 intro pins s σ H xs us Q I r h
 obtain ⟨p,ys,rfl,hq,q⟩:=h
 obtain ⟨u,rfl,rx⟩:=vals1 r
 cases rx
 have hn:=lY
 rcases hq with hq | hq
 · obtain ⟨aK,r',pl,hz⟩:=I.list hq
   have hlen:=r'.length
   exact Calls.call_len_list pl.isList (by simp only [gS] <;> omega) ⟨.int ys.length,H,I.tok _,⟨s.toks+1,by rw [gS,hlen]⟩,q⟩
 · obtain ⟨aK,r',pl,hz⟩:=I.tuple hq
   have hlen:=r'.length
   exact len_tuple pl (by simp only [gS] <;> omega) ⟨.int ys.length,H,I.tok _,⟨s.toks+1,by rw [gS,hlen]⟩,q⟩
theorem sP:cw X (.builtin "len") (fun xs H Q=>∃ z,xs=[.str z]∧z.length≤sizeLine∧Q (.int z.length) H):=by
 intro pins s σ H xs us Q I r h
 obtain ⟨z,rfl,hz,q⟩:=h
 obtain ⟨u,rfl,t,rfl⟩:=vals1 r
 have hn:=lY
 exact len_str (by omega) ⟨.int z.length,H,I.tok _,⟨_,rfl⟩,q⟩
theorem cw.or {f:Value} {r r':List V→Hp→VK→Prop} (h:cw X f r) (h':cw X f r'):cw X f (fun xs H Q=>r xs H Q∨r' xs H Q):=by
 intro pins s σ H xs us Q I rs q
 rcases q with q | q
 · exact h pins s σ H xs us Q I rs q
 · exact h' pins s σ H xs us Q I rs q
theorem dC:cw X (.type "list") (fun xs H Q=>∃ p ys,xs=[.ref p]∧(eY X.K H p ys∨d9 X.K H p ys)∧∀ l,H l=none→Q (.ref l) (upd H l (.lst ys))):=by
 intro pins s σ H xs us Q I r h
 obtain ⟨p,ys,rfl,hq,q⟩:=h
 obtain ⟨u,rfl,rx⟩:=vals1 r
 cases rx
 have fin:∀ (aK:List Value),Vals ys aK→ys.length≤sizeLine→∀ (h':Heap) (c':Nat),(∀ b o',s.heap.get? b=some o'→h'.get? b=some o') →
   h'.get? s.heap.objs.size=some { cls:=.type "list",dict:=none,data:=.seq aK.toArray c',slots:=#[] }→EP X pins σ Q (.ref s.heap.objs.size) { s with heap:=h' }:=fun aK r' hz h' c' kp e =>
  ⟨.ref s.heap.objs.size,_,I.laid (t':=s.toks) kp (d8 _) (show bQ X.prog X.w _ h' _ (.lst ys) from ⟨hz,aK,c',r',e⟩),rfl,q _ (I.bD.fresh (d8 _))⟩
 rcases hq with hq | hq
 · obtain ⟨aK,r',pl,hz⟩:=I.list hq
   have hlen:=r'.length
   obtain ⟨o,ho,hc,n,hd⟩:=pl.isList
   exact call_list_seq p (.inl rfl) ho hc hd (fun h' c' kp e=>fin aK r' hz h' c' kp e) (by simp only [gS] <;> omega)
 · obtain ⟨aK,r',pl,hz⟩:=I.tuple hq
   have hlen:=r'.length
   obtain ⟨o,ho,hc,n,hd⟩:=pl
   exact call_list_seq p (.inr rfl) ho hc hd (fun h' c' kp e=>fin aK r' hz h' c' kp e) (by simp only [gS] <;> omega)
theorem j0:cw X (.type "tuple") (fun xs H Q=>∃ p ys,xs=[.ref p]∧((eY X.K H p ys∧∀ l,H l=none→Q (.ref l) (upd H l (.tup ys)))∨(d9 X.K H p ys∧Q (.ref p) H))):=by
 intro pins s σ H xs us Q I r h
 obtain ⟨p,ys,rfl,h⟩:=h
 obtain ⟨u,rfl,rx⟩:=vals1 r
 cases rx
 rcases h with ⟨hq,q⟩ | ⟨hq,q⟩
 · obtain ⟨aK,r',pl,hz⟩:=I.list hq
   have hlen:=r'.length
   refine call_tuple_list pl.isList (fun h' kp=>?_) (by simp only [gS] <;> omega)
   have I1:Inv X pins σ H { s with heap:=h' }:=I.kept (t':=s.toks) kp
   have I2:Inv X pins σ (upd H h'.objs.size (.tup ys)) { s with heap:=h'.push { cls:=.type "tuple",data:=.seq aK.toArray } } :=
    I1.laid (t':=s.toks) (fun b o e=>dB _ e) (d8 _) (show bQ X.prog X.w _ _ _ (.tup ys) from ⟨hz,aK,r',IsTup.new _ _⟩)
   exact ⟨.ref h'.objs.size,_,I2,rfl,q _ (I1.bD.fresh (d8 _))⟩
 · obtain ⟨aK,r',pl,hz⟩:=I.tuple hq
   exact call_tuple_same pl ⟨.ref p,H,I,rfl,q⟩
def SW (K:PySem.W.Frag) (T:String) (x:V) (H:Hp):Prop:=match x with
 | .str _=>T="str"
 | .int _=>T="int"
 | .ref p=>(T="list"∧∃ xs,eY K H p xs)∨(T="tuple"∧∃ o,K.lookup p=some o∧o.cls = .type "tuple"∧o.dict=none) ∨
    (T="dict"∧((∃ aZ,H p=some (.dK aZ))∨∃ aZ,H p=some (.dT aZ)))∨(T="set"∧∃ S n,H p=some (.set S n))
 | _=>False
theorem Co {pins:List (Addr×Obj)} {σ:St} {H:Hp} {s:Shared} {T:String} {x:V} {v:Value} (I:Inv X pins σ H s) (r:RelV x v) (ty:SW X.K T x H) :
  s.TypeIs v T∧∀ a,v = .ref a→∃ ob,s.heap.get? a=some ob∧ob.dict=none:=by
 cases x with
 | str z =>
   obtain ⟨t,rfl⟩:=r
   cases (show T="str" from ty)
   exact ⟨typeIs_str s z t,fun _ e=>nomatch e⟩
 | int i =>
   obtain ⟨t,rfl⟩:=r
   cases (show T="int" from ty)
   exact ⟨typeIs_int s i t,fun _ e=>nomatch e⟩
 | ref p =>
   cases r
   rcases ty with ⟨rfl,xs,hq⟩ | ⟨rfl,o,hk,hc,hd⟩ | ⟨rfl,hk⟩ | ⟨rfl,S,n,hk⟩
   · obtain ⟨aK,_,pl,_⟩:=I.list hq
     refine ⟨pl.isList.typeIs,fun a e=>?_⟩
     cases e
     obtain ⟨o,n,e,c,hd,_⟩:=pl
     exact ⟨o,e,hd⟩
   · refine ⟨⟨o,I.jZ p o hk,hc⟩,fun a e=>?_⟩
     cases e
     exact ⟨o,I.jZ _ o hk,hd⟩
   · have z:∃ o,s.heap.get? p=some o∧o.ExactDict:=by
      rcases hk with ⟨aZ,hk⟩ | ⟨aZ,hk⟩
      · obtain ⟨_,_,_,_,o,_,_,e,ex,_⟩:=I.bD p _ hk
        exact ⟨o,e,ex⟩
      · obtain ⟨_,_,_,_,o,_,_,e,ex,_⟩:=I.bD p _ hk
        exact ⟨o,e,ex⟩
     obtain ⟨o,e,ex⟩:=z
     refine ⟨⟨o,e,ex.1⟩,fun a e2=>?_⟩
     cases e2
     exact ⟨o,e,ex.2.1⟩
   · obtain ⟨o,_,_,_,e,ex,_⟩:=I.bD p _ hk
     refine ⟨⟨o,e,ex.1⟩,fun a e2=>?_⟩
     cases e2
     exact ⟨o,e,ex.2.1⟩
 | _=>exact False.elim ty
def SX (K:PySem.W.Frag) (T:String) (r:V→List V→Hp→VK→Prop) (to:TE):TE:=fun σ H Q=>to σ H fun x H1=>SW K T x H1∧r x [] H1 Q
def W8 (K:PySem.W.Frag) (T:String) (r:V→List V→Hp→VK→Prop) (to:TE) (t:TA):TE:=fun σ H Q=>to σ H fun x H1=>SW K T x H1∧t σ H1 fun xs H2=>r x xs H2 Q
variable {o e:Expr} {es:List Expr} {to:TE} {t:TA} {name:Str} {apos bc:Pos} {T id:String} {r:V→List V→Hp→VK→Prop}
theorem KN (pa:PlainAttrs T) (slot:Slot T name id) (KO:typeOf (.builtin id)=pure (.type "method_descriptor")) (hm:BS X id r) (ho:PE X o to)
  (fu:attributeBase o name X.env (eval o X.env)=eval o X.env:=by rfl) (fz:(apos.endLine == bc.line)=true:=by rfl):PE X (.Call (.Attribute o name apos) [] [] bc) (SX X.K T r to):=by
 intro pins s σ H Q I h
 refine wpAny_Call_method0_late fu fz (bV (ho pins s σ H _ I h) fun v s1 ⟨x,H1,I1,r1,ty,q1⟩=>?_)
 obtain ⟨h1,h2⟩:=Co I1 r1 ty
 exact ⟨T,id,pa,slot,KO,h1,h2,Q6 rfl (PySem.evalArgs_none (hm pins s1 σ H1 x [] v [] Q I1 r1 .nil q1))⟩
theorem uP (pa:PlainAttrs T) (slot:Slot T name id) (KO:typeOf (.builtin id)=pure (.type "method_descriptor")) (hm:BS X id r) (ho:PE X o to) (ha:PA X (e :: es) t)
  (fu:attributeBase o name X.env (eval o X.env)=eval o X.env:=by rfl)
  (oF:((backTo bc (starEach (e :: es) X.env)).all (fun x=>!x.1) && (backToKw bc (keywordEach [] X.env)).all (fun x=>x.1.isSome)
    && decide ((e :: es).length+([]:List Keyword).length+(if ([]:List Keyword).isEmpty then 0 else 1) < 30))=true:=by rfl)
  (fz:(apos.endLine == bc.line)=true:=by rfl) (hs:starEach (e :: es) X.env=(false,eval e X.env) :: starEach es X.env:=by rfl) (fB:(backTo bc (starEach es X.env)).any (·.1)=false:=by rfl) :
  PE X (.Call (.Attribute o name apos) (e :: es) [] bc) (W8 X.K T r to t):=by
 intro pins s σ H Q I h
 refine wpAny_Call_method_late fu oF fz rfl (bV (ho pins s σ H _ I h) fun v s1 ⟨x,H1,I1,r1,ty,q1⟩=>?_)
 obtain ⟨h1,h2⟩:=Co I1 r1 ty
 refine ⟨T,id,pa,slot,KO,h1,h2,?_⟩
 have hA:=ha bc pins s1 σ H1 _ I1 q1
 rw [hs] at hA ⊢
 refine Q6 (by show (false || (backTo bc (starEach es X.env)).any (·.1))=false; rw [fB] <;> rfl) (Calls.evalArgs_plain ?_)
 exact bV hA fun us s2 ⟨vs,H2,I2,r2,q2⟩=>hm pins s2 σ H2 x vs v us Q I2 r1 r2 q2
end
def SY (X:Cx) (id:String) (r:V→List V→Hp→VK→Prop):Prop :=
 ∀ (pins:List (Addr×Obj)) (s:Shared) (σ:St) (H:Hp) (x:V) (xs:List V) (v:Value) (us:List Value) (Q:VK),Inv X pins σ H s→RelV x v→Vals xs us→r x xs H Q →
  wpAny (model X.prog X.w) X.A (call (.builtin id) (v :: us)) (EP X pins σ Q) X.xe s
theorem Vals.one:∀ {x:V} {us:List Value},Vals [x] us→∃ u,us=[u]∧RelV x u
 | _,_,.cons r .nil=>⟨_,rfl,r⟩
theorem Vals.two:∀ {x y:V} {us:List Value},Vals [x,y] us→∃ u v,us=[u,v]∧RelV x u∧RelV y v
 | _,_,_,.cons r (.cons q .nil)=>⟨_,_,rfl,r,q⟩
theorem Vals.zero:∀ {us:List Value},Vals [] us→us=[]
 | _,.nil=>rfl
theorem Vals.dropLast {xs:List V} {us:List Value} (h:Vals xs us):Vals xs.dropLast us.dropLast:=by
 induction h with
 | nil=>exact .nil
 | cons r t ih =>
   cases t with
   | nil=>exact .nil
   | cons q t'=>exact .cons r ih
theorem Vals.eraseIdx:∀ {xs:List V} {us:List Value} (i:Nat),Vals xs us→Vals (xs.eraseIdx i) (us.eraseIdx i)
 | _,_,_,.nil=>.nil
 | _,_,0,.cons _ t=>t
 | _,_,i+1,.cons r t=>.cons r (Vals.eraseIdx i t)
theorem xa {α:Type} (l:List α):l.eraseIdx (l.length - 1)=l.dropLast:=by
 induction l with
 | nil=>rfl
 | cons a r ih =>
   cases r with
   | nil=>rfl
   | cons b r =>
     have e:(a :: b :: r).length - 1=((b :: r).length - 1)+1:=by
      have h1:(a :: b :: r).length=r.length+2:=rfl
      have h2:(b :: r).length=r.length+1:=rfl
      omega
     rw [e,List.eraseIdx_cons_succ,ih]
     all_goals rfl
section
variable {X:Cx} {pins:List (Addr×Obj)} {σ:St} {H:Hp} {s:Shared} {l b:Addr} {xs ys zs:List V}
theorem Inv.KP {aK its':List Value} {n:Nat} {f:Array Value→Array Value} {t':Nat} (I:Inv X pins σ H s) (hH:H l=some (.lst xs))
  (e:s.heap.get? l=some { cls:=.type "list",data:=.seq aK.toArray n }) (hf:f aK.toArray=its'.toArray) (hv:Vals ys its') (hz:ys.length≤sizeLine) :
  Inv X pins σ (upd H l (.lst ys)) { s with heap:=s.heap.update l (Obj.mapSeq f),toks:=t' }:=by
 have q:=PySem.IsL.update e f
 rw [hf] at q
 refine I.write (x:=l) (e:=l) (by rw [hH]; exact trivial) (.inl rfl) (fun b' u hb hu=>(Ih s.heap (Obj.mapSeq f) (Ne.symm hb)).trans hu) ⟨_,q⟩ ?_
 exact ⟨hz,its',_,hv,q⟩
theorem Inv.S0 {aK:List Value} {t':Nat} (I:Inv X pins σ H s) (hv:Vals ys aK) (hz:ys.length≤sizeLine) :
  Inv X pins σ (upd H s.heap.objs.size (.lst ys)) { s with heap:=s.heap.push { cls:=.type "list",data:=.seq aK.toArray },toks:=t' } :=
 I.laid (fun _ _ q=>dB _ q) (d8 _) ⟨hz,aK,0,hv,nQ _ rfl⟩
theorem Inv.fresh (I:Inv X pins σ H s):H s.heap.objs.size=none:=I.bD.fresh (d8 _)
theorem Inv.KQ (I:Inv X pins σ H s) (hH:H l=some (.lst xs)):xs.length≤sizeLine∧∃ (aK:List Value) (n:Nat),Vals xs aK∧xs.length=aK.length∧s.heap.get? l=some { cls:=.type "list",data:=.seq aK.toArray n }:=by
 obtain ⟨z,aK,n,r,e⟩:=I.bD l _ hH
 exact ⟨z,aK,n,r,r.length,e⟩
end
section
variable {X:Cx}
def yY:V→List V→Hp→VK→Prop:=fun x vs H Q=>∃ l xs y,x = .ref l∧vs=[y]∧H l=some (.lst xs)∧xs.length < sizeLine∧Q .br (upd H l (.lst (xs ++ [y])))
theorem bf:SY X "list.append" yY:=by
 intro pins s σ H x vs v us Q I rx rv h
 obtain ⟨l,xs,y,rfl,rfl,hH,hz,q⟩:=h
 cases rx
 obtain ⟨u,rfl,ru⟩:=rv.one
 obtain ⟨z,aK,n,r,hl,e⟩:=I.KQ hH
 refine call_meets F.slot_list_append ⟨_,e,rfl⟩ F.entry_list_append (F.args_list_append_2 _ _) (PySem.list_append l aK.toArray n u (by rw [gS]; omega)) ⟨e,?_⟩
 refine ⟨.br,_,I.KP (its':=aK ++ [u]) hH e (by simp) (r.append (.cons ru .nil)) ?_,rfl,q⟩
 rw [nU,Nf]
 omega
def Oy:V→List V→Hp→VK→Prop:=fun x vs H Q=>∃ l xs y,x = .ref l∧vs=[]∧H l=some (.lst xs)∧xs[xs.length - 1]?=some y∧Q y (upd H l (.lst xs.dropLast))
theorem Cp:SY X "list.pop" Oy:=by
 intro pins s σ H x vs v us Q I rx rv h
 obtain ⟨l,xs,y,rfl,rfl,hH,hy,q⟩:=h
 cases rx
 have S3:=rv.zero
 subst S3
 obtain ⟨z,aK,n,r,hl,e⟩:=I.KQ hH
 obtain ⟨u,hu,ru⟩:=r.get hy
 have Oz:aK.toArray[aK.toArray.size - 1]?=some u:=by
  show aK.toArray[aK.length - 1]?=some u
  rw [← Array.getElem?_toList,← hl]
  exact hu
 refine call_meets F.slot_list_pop ⟨_,e,rfl⟩ F.entry_list_pop (F.args_list_pop_1 _) (MeetsSeq.list_pop_last l aK.toArray n u Oz (by rw [gS]; omega)) ⟨e,?_⟩
 refine ⟨y,_,I.KP (its':=aK.dropLast) hH e ?_ r.dropLast ?_,ru,q⟩
 · show aK.toArray.eraseIdxIfInBounds (aK.toArray.size - 1)=aK.dropLast.toArray
   rw [gS,List.eraseIdxIfInBounds_toArray,xa]
 · rw [NL]
   omega
end
section
variable {prog:Program} {w:World} {A:Around} {E:Value→Shared→Prop} {s:Shared}
end
section
variable {X:Cx}
end
end L2
namespace Ro
open PySem PySem.W PySem.Calls PyProof.Rows
theorem nF {P:Params} {h:Heap}:∀ (ns:List Int) (vs:List Value),WellAll P h vs (ns.map WData.int)→IntsAre vs ns:=by
 intro ns
 induction ns with
 | nil =>
   intro vs w
   rw [JH] at w
   cases w
   exact .nil
 | cons n ns ih =>
   intro vs w
   rw [jY] at w
   cases w with
   | cons a b =>
     cases a
     exact .cons _ _ (ih _ b)
theorem Ad {l:OpenLaw} {n:Nat} (hn:l.most=some n) {P:Params} {h:Heap} {args:List WData} {vals:List Value}
  (kf:l.row.toRowW.claim.pre args=true) (OA:WellAll P h vals args) :
  ∃ a vs ns,vals=[Value.ref a]∧args=[WData.list (ns.map WData.int)]∧h.get? a=some { cls:=.type "list",data:=.seq vs.toArray }∧IntsAre vs ns∧ns.length≤n:=by
 have W9:WShape.hasAll [] args [.list .int]=true:=(pre_splitW kf).1
 have hc:l.pre.holds [] { args:=args }=true:=(pre_splitW kf).2
 obtain ⟨d,r,rfl,h1,h2⟩:=hasAllW_cons W9
 obtain rfl:=hasAllW_nil h2
 obtain ⟨xs,rfl,h3⟩:=hasW_list h1
 obtain ⟨ns,rfl⟩:=items_int h3
 have hlen:ns.length≤n:=by
  unfold OpenLaw.pre at hc
  have h4:(WTm.not (.lt (.lit (.int (n:Int))) (.len (.arg 0)))).holds [] { args:=[.list (ns.map .int)] }=true:=by
   have h4:=(holds_andW hc).1
   rw [hn] at h4
   exact h4
  have h5:=condW_of h4 (w_not (w_lt w_lit (w_len_list (w_arg rfl))))
  rw [cu] at h5
  refine Nat.le_of_not_lt fun q=>?_
  have q':(n:Int) < ((ns.length:Nat):Int):=by omega
  first
   | (rw [decide_eq_true q'] at h5; exact absurd h5 (by decide))
   | (simp at h5; omega)
 cases OA with
 | cons w1 w2 =>
   cases w2
   cases w1 with
   | list ho jT=>exact ⟨_,_,ns,rfl,rfl,ho,nF ns _ jT,hlen⟩
theorem Ae (l:OpenLaw) (args:List WData):l.row.toRowW.claim.post args (.bool true) args=true :=
 postW_of (r:=l.row.toRowW) (X:=(true == true))
  (show WShape.has [] (.bool true) .bool=true by first | rfl | decide | simp [WShape.has,WShape.arms,WShape.armsAll])
  (show (WTm.eq .res (.lit (.bool true))).value [] { args:=args,res:=some (.bool true),after:=args }=some (.bool (true == true)) from w_eq_bool (w_res rfl) w_lit) rfl
theorem uQ {l:OpenLaw} {n:Nat} {q:Program} {loose:List Str} {XP:(Str→Option Value)→Heap→Prop} {YP:World→Heap→Prop} {d:DefRec}
  (hn:l.most=some n) (S4:d.params.defaults=[])
  (call:∀ (w:World) (s₀ s₁:Shared) (mg mb:Str→Option Value) (fa:Addr) (o:Obj) (pm cd doc:Value) (a:Addr) (vs:List Value) (ns:List Int),
    Ground q loose [] XP w s₀ mg mb s₁.heap→YP w s₁.heap →
    s₁.heap.get? fa=some o→o.data = .func (docDef d.name d.params d.body d.scope pm cd doc)→s₁.heap.CodeRec cd d.name→mg d.name=some (.ref fa) →
    s₁.heap.get? a=some { cls:=.type "list",data:=.seq vs.toArray }→IntsAre vs ns→ns.length≤n→s₁.gens = #[] →
    codeAny (model l.prog w) callerA (.call (.ref fa) ⟨[.ref a],[]⟩) (fun r s'=>r = .ok (.ret (.bool true))∧OldK s₁.heap s'.heap∧s'.os=s₁.os∧AllBare s'.gens) s₁) :
  WalkO q loose XP YP l.row.toRowW d [] (fun f vs=>PySem.call f vs):=by
 intro w s₀ s₁ mg mb G Y fa o pm cd doc dV kV ho hd iL hD OB hg args vals as kf OC V7 OA V8
 obtain rfl:dV = .none:=Dflts.none hD S4
 obtain rfl:kV = .none:=Dflts.noKw hD
 obtain ⟨a,vs,ns,rfl,rfl,KR,hints,hlen⟩:=Ad hn kf OA
 refine enter_call (codeAny_mono (call w s₀ s₁ mg mb fa o pm cd doc a vs ns G Y ho (fd_plain hd) iL OB KR hints hlen hg) fun r s' hq=>?_)
 obtain ⟨rfl,h2,h3,h4⟩:=hq
 exact ⟨.inl ⟨.bool true,.bool true,[],rfl,fun _=>rfl,.bool true,Ae l _,fun _=>⟨List.Pairwise.nil,fun _ hm=>(nomatch hm)⟩⟩,h2,h3,h4⟩
section
variable {prog:Program} {w:World} {A:Around} {E:Value→Shared→Prop} {s:Shared} {K:Frag}
end
end Ro
namespace L2
open PySem PySem.Spec PyProof.Rows
theorem rF:∀ {vs:List Value} {ns:List Int},IntsAre vs ns→Vals (ns.map V.int) vs
 | _,_,.nil=>.nil
 | _,_,.cons n t h=>.cons ⟨t,rfl⟩ (rF h)
def OD (H:Hp):Prop:=∀ b,H b=none∨∃ o xs,H b=some (.uD o (.lst xs))
theorem Cq {P:Program} {w:World} {K:PySem.W.Frag} {mg mb:Str→Option Value} {CX:wY} {k:Nat} {fa a:Addr} {fd:FuncData} {x:Str} {sp:Sp} {s₁:Shared} {vs:List Value} {ns:List Int}
  (KX:K.In s₁.heap) (KS:s₁.heap.Ns mainGlobals mg) (hb:s₁.heap.Ns builtinsNs mb) (W_:∀ x:Str,x≠"__name__"→mb x=bootBuiltins x) (S6:s₁.heap.NoLimit) (hg:s₁.gens = #[])
  (ha:s₁.heap.get? a=some { cls:=.type "list",data:=.seq vs.toArray }) (hi:IntsAre vs ns) (hl:ns.length≤sizeLine) (hr:bx k callerA)
  (F:∀ base:Heap,K.In base→base.Ns mainGlobals mg→cS P w K mg base CX k fa fd [x] sp) (OE:∀ (s:Shared) (u:Value),BindsTo s fd ⟨[u],[]⟩ [(x,u)])
  (Iy:∀ H:Hp,OD H→eY K H a (ns.map V.int)→sp [.ref a] H (fun v _=>v = .bl true) fun _ _ _=>False)
  (Xa:∀ H e s',CX [] H s₁ (fun _ _ _=>False) e s'→False) :
  codeAny (model P w) callerA (.call (.ref fa) ⟨[.ref a],[]⟩) (fun r s'=>r = .ok (.ret (.bool true))∧OldK s₁.heap s'.heap∧s'.os=s₁.os∧AllBare s'.gens) s₁:=by
 have rv:=rF hi
 have S7:=hi.length
 have core:∀ H:Hp,OD H→eY K H a (ns.map V.int)→jS P w H s₁.heap→(∀ b,H b≠none→b=a)→(H a≠none→K.lookup a=none) →
   codeAny (model P w) callerA (.call (.ref fa) ⟨[.ref a],[]⟩) (fun r s'=>r = .ok (.ret (.bool true))∧OldK s₁.heap s'.heap∧s'.os=s₁.os∧AllBare s'.gens) s₁:=by
  intro H hO hS bD hA hK
  have yZ:∀ {b:Addr} {o:Obj},s₁.heap.get? b=some o→H b=none→(sH s₁.heap H).get? b=some o:=fun e n=>B3 e n
  have Og:∀ {b:Addr} {o:Obj} {es:Array DictEntry} {ep:Nat},s₁.heap.get? b=some o→o.data = .dict es ep→H b=none:=fun {b o es ep} e d=>by
   cases q:H b with
   | none=>rfl
   | some u =>
     have e':b=a:=hA b (by rw [q]; simp)
     subst e'
     rw [ha] at e; cases e
     have d':Data.seq vs.toArray _=Data.dict es ep:=d
     cases d'
  have Rp:∀ {b:Addr} {m:Str→Option Value},s₁.heap.Ns b m→(sH s₁.heap H).Ns b m:=fun {b m} ⟨o,es,ep,e,d,r⟩=>⟨o,es,ep,yZ e (Og e d),d,r⟩
  have V9:K.In (sH s₁.heap H):=fun b o e=>yZ (KX b o e) (by
   cases q:H b with
   | none=>rfl
   | some u =>
     have e':b=a:=hA b (by rw [q]; simp)
     subst e'
     rw [hK (by rw [q]; simp)] at e; cases e)
  have hM:Mod K mg (sH s₁.heap H):=⟨V9,Rp KS,⟨mb,Rp hb,W_⟩,let ⟨mc,h1,h2⟩:=S6; ⟨mc,Rp h1,h2⟩⟩
  have e0:qC P w K mg (sH s₁.heap H) callerA [] s₁ H:=⟨rfl,hM,fun b o e=>Fp e,Nat.le_of_eq (zY _ _),trivial,fun b hb=>absurd (show b∈([]:List Addr) from hb) (by simp),bD,.of_eq hg⟩
  refine codeAny_mono ((F _ V9 (Rp KS)).run callerA [] s₁ H ⟨[.ref a],[]⟩ [.ref a] [.ref a] _ _ hr e0 (OE s₁ (.ref a)) (.cons rfl .nil) (Iy H hO hS)) fun r s' h=>?_
  cases r with
  | error e=>exact (Xa H e s' h).elim
  | ok fl =>
    cases fl with
    | ret u =>
      obtain ⟨v,H',os,bare,un,S8,r',q⟩:=h
      have q':v = .bl true:=q
      subst q'
      obtain rfl:u=Value.bool true:=r'
      refine ⟨rfl,OldK.of_keep fun b o e=>?_,os,bare⟩
      cases q:H b with
      | none=>exact un.keep b o e q (by intro z; exact absurd (show b∈([]:List Addr) from z) (by simp)) (by simp)
      | some u =>
        rcases hO b with z | ⟨ob,xs,z⟩
        · rw [q] at z; cases z
        · have z2:=un.gY b ob _ z
          obtain ⟨e1,_⟩:=bD b _ z
          obtain ⟨e2,_⟩:=S8 b _ z2
          rw [e] at e1; cases e1
          exact e2
    | _=>exact False.elim h
 cases hk:K.lookup a with
 | some o =>
   have e:=KX a o hk
   rw [ha] at e
   cases e
   refine core (fun _=>none) (fun _=>.inl rfl) (.inr ⟨_,vs.toArray,_,hk,rfl,rfl,rfl,by rw [gS,S7]; exact hl,by simpa using rv⟩) (fun b u z=>by have z':(none:Option HO)=some u:=z; cases z') (fun b z=>absurd rfl z) fun z=>absurd rfl z
 | none =>
   refine core (fun b=>if b=a then some (.uD { cls:=.type "list",data:=.seq vs.toArray } (.lst (ns.map V.int))) else none) (fun b=>?_) (.inl (.inr ⟨{ cls:=.type "list",data:=.seq vs.toArray },if_pos rfl⟩)) (fun b u z=>?_) (fun b z=>?_) fun _=>hk
   · by_cases hb:b=a
     · exact .inr ⟨_,_,if_pos hb⟩
     · exact .inl (if_neg hb)
   · by_cases hb:b=a
     · have z':=(if_pos hb).symm.trans z
       cases z'
       subst hb
       exact ⟨ha,by rw [cu]; exact hl,vs,_,rv,ha⟩
     · have z':=(if_neg hb).symm.trans z
       cases z'
   · by_cases hb:b=a
     · exact hb
     · exact absurd (if_neg hb) z
def inClass (s:Stmt) (j:Nat):Stmt:=match s with
 | .ClassDef _ _ _ body _ _ _ _ _ _ _=>body.getD j (.Pass ⟨0,0,0,0⟩)
 | _=>.Pass ⟨0,0,0,0⟩
def eZ (s:Stmt):Arguments:=match s with
 | .FunctionDef _ a _ _ _ _ _ _ _ _=>a
 | _=>{ posonlyargs:=[],args:=[],vararg:=none,kwonlyargs:=[],kw_defaults:=[],kwarg:=none,defaults:=[] }
def cp (s:Stmt):List Stmt:=match s with
 | .FunctionDef _ _ b _ _ _ _ _ _ _=>b
 | _=>[]
def aj (s:Stmt):Scope:=match s with
 | .FunctionDef _ _ _ _ _ _ sc _ _ _=>sc
 | _=>{ kind:=.function,names:=[],isGenerator:=false,isCoroutine:=false }
abbrev iW:wY:=fun _ _ _ _ _ _=>False
abbrev E0:XK:=fun _ _ _=>False
theorem uR {X:Cx}:Passes iW X E0:=fun _ _ _ _ _ _ _ h=>h.elim
structure BU (K:PySem.W.Frag) (x qual:Str) (st:Stmt) (f:Addr) (fd:FuncData):Prop where
 ex:∃ (oc:Value) (od:Option Addr) (kV doc pm:Value) (an:Option Addr) (bE ct:Value) (yR:Array (Option Value)),
  fd=PySem.W.fnOf x qual (eZ st) (cp st) (aj st) .none kV doc pm an bE ct∧K.lookup f=some ⟨oc,od,.func fd,yR⟩∧PySem.W.codeIn K bE qual=true
 kp:PySem.W.keepIn K (.ref f)=true
section
variable {P:Program} {w:World} {K:PySem.W.Frag} {mg:Str→Option Value} {base:Heap}
theorem BU.ok {x qual:Str} {st:Stmt} {f:Addr} {fd:FuncData} {N ps:List Str} {k:Nat} {sp:Sp} (F:BU K x qual st f fd) (S:aG N ps (aj st)) (len:∀ vs H Q E,sp vs H Q E→vs.length=ps.length)
  (iU:∀ (bE:Value) (A:Around) (outer:List Env) (s:Shared) (H:Hp) (vs:List V) (Q:VK) (E:XK),bx k (A.deeper (envOfC qual (aj st) s.heap.objs.size f bE))→sp vs H Q E →
    ∃ t,nE (d0 iW P w K mg base N qual (aj st) f bE A outer s H E).nY (cp st) t∧t { nx:=fun _ H'=>Q .br H',rt:=Q } (start N vs) H):cS P w K mg base iW (k+1) f fd ps sp:=by
 obtain ⟨oc,od,kV,doc,pm,an,bE,ct,yR,rfl,lk,iL⟩:=F.ex
 refine Iw lk iL S len fun A outer s H vs Q E hr Iy=>?_
 obtain ⟨t,h,q⟩:=iU bE A outer s H vs Q E hr Iy
 exact ⟨t,h.nY,q⟩
theorem BU.binds {x qual:Str} {st:Stmt} {f:Addr} {fd:FuncData} {ps:List Str} (F:BU K x qual st f fd)
  (h:∀ (kV doc pm:Value) (an:Option Addr) (bE ct:Value) (us:List Value),us.length=ps.length→bindArgs (PySem.W.fnOf x qual (eZ st) (cp st) (aj st) .none kV doc pm an bE ct) ⟨us,[]⟩=pure (ps.zip us)):Binds K fd ps []:=by
 obtain ⟨oc,od,kV,doc,pm,an,bE,ct,yR,rfl,lk,iL⟩:=F.ex
 exact .all (h kV doc pm an bE ct)
theorem oG {x qual:Str} {st:Stmt} {f:Addr} {oc:Value} {od an:Option Addr} {yR:Array (Option Value)} {kV doc pm bE ct:Value} (l:K.lookup f=some ⟨oc,od,.func (PySem.W.fnOf x qual (eZ st) (cp st) (aj st) .none kV doc pm an bE ct),yR⟩)
 (c:PySem.W.codeIn K bE qual=true) (k:PySem.W.keepIn K (.ref f)=true):BU K x qual st f (PySem.W.fnOf x qual (eZ st) (cp st) (aj st) .none kV doc pm an bE ct):=⟨⟨oc,od,kV,doc,pm,an,bE,ct,yR,rfl,l,c⟩,k⟩
end
theorem Af {n:Nat} (h:n≤1000):n < sizeLine:=Nat.lt_of_le_of_lt h (by decide)
section
variable {X:Cx}
theorem pv (i:Nat) {x:Str} {pos:Pos} (hN:X.N[i]?=some x:=by rfl) (hv:sI X.env.scope x:=by first | exact Or.inl rfl | exact Or.inr (Or.inl rfl) | exact Or.inr (Or.inr rfl)) (hd:gh x:=by decide)
 (iL:uH x:=by decide):PE X (.Name x pos) (JQ i):=di hN hv hd iL
end
theorem OF {A B:Prop} (h:B):if false=true then A else B:=by
 rw [if_neg nS]
 exact h
theorem OG {A B:Prop} (h:A):if true=true then A else B:=by
 rw [if_pos rfl]
 exact h
theorem Cr {c A B:Prop} [Decidable c] (h1:c→A) (h2:¬ c→B):if c then A else B:=by
 by_cases h:c
 · rw [if_pos h]
   exact h1 h
 · rw [if_neg h]
   exact h2 h
def aJ (H H':Hp):Prop:=∀ b o,H b=some o→H' b=some o
theorem aJ.refl (H:Hp):aJ H H:=fun _ _ h=>h
theorem aJ.trans {H H1 H2:Hp} (a:aJ H H1) (b:aJ H1 H2):aJ H H2:=fun c o h=>b c o (a c o h)
theorem aJ.free {H H':Hp} (e:aJ H H') {l:Addr} (h:H' l=Option.none):H l=Option.none:=by
 cases q:H l with
 | none=>rfl
 | some o =>
   rw [e l o q] at h
   cases h
theorem aJ.seq {K:PySem.W.Frag} {H H':Hp} {a:Addr} {xs:List V} (e:aJ H H') (h:eY K H a xs):eY K H' a xs:=by
 rcases h with (h | ⟨o,h⟩) | h
 · exact .inl (.inl (e _ _ h))
 · exact .inl (.inr ⟨o,e _ _ h⟩)
 · exact .inr h
section
theorem g8 {env:Env} {f:Str×NameKind→List (Str×Addr)→Sem (ForInStep (List (Str×Addr)))}:∀ (l:List (Str×NameKind)) (cs:List (Str×Addr)),
  (∀ p∈l,∀ r,(p.2 = .free→∃ c,env.cells.lookup p.1=some c∧f p r=pure (.yield ((p.1,c) :: r)))∧(p.2≠.free→f p r=pure (.yield r))) →
  ∃ cl,forIn l cs f=pure cl∧(∀ y c,cl.lookup y=some c→cs.lookup y=some c∨env.cells.lookup y=some c)∧(∀ y,(cs.lookup y).isSome=true→(cl.lookup y).isSome=true) ∧
   ∀ p∈l,p.2 = .free→(cl.lookup p.1).isSome=true
 | [],cs,_=>⟨cs,by rw [List.forIn_nil],fun _ _ h=>.inl h,fun _ h=>h,fun _ h=>nomatch h⟩
 | p :: l,cs,hf=>by
   have hr:∀ q∈l,∀ r,(q.2 = .free→∃ c,env.cells.lookup q.1=some c∧f q r=pure (.yield ((q.1,c) :: r)))∧(q.2≠.free→f q r=pure (.yield r)):=fun q hq r=>hf q (jX _ hq) r
   by_cases hp:p.2 = .free
   · obtain ⟨c,hc,e⟩:=(hf p iO cs).1 hp
     obtain ⟨cl,h1,h2,h3,h4⟩:=g8 l ((p.1,c) :: cs) hr
     refine ⟨cl,?_,fun y d h=>?_,fun y h=>h3 y ?_,fun q hq Rq=>?_⟩
     · rw [List.forIn_cons,e]
       exact h1
     · rcases h2 y d h with z | z
       · rw [Fl] at z
         cases hy:y == p.1 with
         | true =>
           rw [hy] at z
           have ey:y=p.1:=eq_of_beq hy
           cases z
           rw [ey]
           exact .inr hc
         | false=>rw [hy] at z; exact .inl z
       · exact .inr z
     · rw [Fl]
       cases hy:y == p.1 with
       | true=>rfl
       | false=>exact h
     · rcases cL.mp hq with z | z
       · subst z
         refine h3 _ ?_
         rw [Fl,beq_self_eq_true]
         rfl
       · exact h4 q z Rq
   · have e:=(hf p iO cs).2 hp
     obtain ⟨cl,h1,h2,h3,h4⟩:=g8 l cs hr
     refine ⟨cl,?_,h2,h3,fun q hq Rq=>?_⟩
     · rw [List.forIn_cons,e]
       exact h1
     · rcases cL.mp hq with z | z
       · subst z; exact absurd Rq hp
       · exact h4 q z Rq
theorem iC {scope:Scope} {env:Env} (h:∀ p∈scope.names,p.2 = .free→∃ c,env.cells.lookup p.1=some c) :
  ∃ cl,closureFor scope env=pure cl∧(∀ y c,cl.lookup y=some c→env.cells.lookup y=some c)∧∀ p∈scope.names,p.2 = .free→∃ c,cl.lookup p.1=some c:=by
 have key:∃ cl,closureFor scope env=pure cl∧(∀ y c,cl.lookup y=some c→([]:List (Str×Addr)).lookup y=some c∨env.cells.lookup y=some c)∧(∀ y,(([]:List (Str×Addr)).lookup y).isSome=true→(cl.lookup y).isSome=true) ∧
   ∀ p∈scope.names,p.2 = .free→(cl.lookup p.1).isSome=true:=by
  simp only [closureFor]
  have go:=@g8 env (fun x r=>if x.2 == NameKind.free then (do let c ← cellOf env x.1; pure (ForInStep.yield ((x.1,c) :: r))) else pure (ForInStep.yield r)) scope.names [] ?_
  · obtain ⟨cl,h1,h2⟩:=go
    refine ⟨cl,?_,h2⟩
    first
     | (show (forIn scope.names [] _ >>= fun cs=>pure cs)=_; rw [h1]; rfl)
     | (rw [h1]; rfl)
     | exact congrArg (· >>= pure) h1
  · intro p hp r
    refine ⟨fun hf=>?_,fun hf=>?_⟩
    · obtain ⟨c,hc⟩:=h p hp hf
      refine ⟨c,hc,?_⟩
      have e1:(p.2 == NameKind.free)=true:=by rw [hf]; rfl
      have e2:cellOf env p.1=pure c:=by unfold cellOf; rw [hc]
      rw [e1,if_pos rfl,e2]
      rfl
    · have e1:(p.2 == NameKind.free)=false:=by simpa using hf
      rw [e1,if_neg (by decide)]
 obtain ⟨cl,h1,h2,h3,h4⟩:=key
 refine ⟨cl,h1,fun y c e=>?_,fun p hp hf=>Sa.mp (h4 p hp hf)⟩
 rcases h2 y c e with z | z
 · rw [List.lookup_nil] at z; cases z
 · exact z
theorem kU {scope:Scope} {env:Env} (y:Str):(relabel scope env).names.lookup y =
  (scope.names.lookup y).map fun k=>if (k == .free && env.scope.kind == .function && env.kindOf y == some .cell)=true then .cell else k:=by
 have key:∀ l:List (Str×NameKind),(l.map fun (n,k)=>if (k == NameKind.free && env.scope.kind == .function && env.kindOf n == some .cell) then (n,NameKind.cell) else (n,k)).lookup y =
   (l.lookup y).map fun k=>if (k == .free && env.scope.kind == .function && env.kindOf y == some .cell)=true then .cell else k:=by
  intro l
  induction l with
  | nil=>rfl
  | cons p l ih =>
    obtain ⟨n,k⟩:=p
    rw [jY]
    show List.lookup y ((if (k == NameKind.free && env.scope.kind == .function && env.kindOf n == some .cell)=true then (n,NameKind.cell) else (n,k)) :: _)=_
    by_cases hc:(k == NameKind.free && env.scope.kind == .function && env.kindOf n == some .cell)=true
    · rw [if_pos hc,Fl,Fl]
      cases hy:y == n with
      | true =>
        have ey:y=n:=eq_of_beq hy
        subst ey
        show some NameKind.cell=some (if _ then _ else _)
        rw [if_pos hc]
      | false=>exact ih
    · rw [if_neg hc,Fl,Fl]
      cases hy:y == n with
      | true =>
        have ey:y=n:=eq_of_beq hy
        subst ey
        show some k=some (if _ then _ else _)
        rw [if_neg hc]
      | false=>exact ih
 exact key scope.names
end
def kg (N ts:List Str) (out sc:Scope):Bool :=
 (sc.kind == .function) && sc.names.all (fun p=>(p.2 != .cell) && (p.2 != .free || out.names.lookup p.1 == some .cell || out.names.lookup p.1 == some .free) && (p.2 != .local || sc.names.lookup p.1 == some .local))
   && N.all (fun y=>sc.names.lookup y != some .local) && ts.all (fun y=>sc.names.lookup y == some .local) && decide ((N ++ ts).Nodup)
structure oH (N ts:List Str) (out sc:Scope):Prop where
 kind:sc.kind = .function
 Cs:∀ p∈sc.names,p.2≠.cell
 fr:∀ p∈sc.names,p.2 = .free→out.names.lookup p.1=some .cell∨out.names.lookup p.1=some .free
 names:∀ p∈sc.names,p.2 = .local→sc.names.lookup p.1=some .local
 own:∀ y∈N,sc.names.lookup y≠some .local
 ZW:∀ y∈ts,sc.names.lookup y=some .local
 nd:(N ++ ts).Nodup
theorem rG {N ts:List Str} {out sc:Scope} (h:kg N ts out sc=true):oH N ts out sc:=by
 unfold kg at h
 rw [iP,iP,iP,iP] at h
 obtain ⟨⟨⟨⟨h1,h2⟩,h3⟩,h4⟩,h5⟩:=h
 rw [zU] at h2 h3 h4
 refine ⟨eq_of_beq h1,fun p hp=>?_,fun p hp hf=>?_,fun p hp hl=>?_,fun y hy=>?_,fun y hy=>?_,of_decide_eq_true h5⟩
 · have:=h2 p hp
   rw [iP,iP] at this
   simpa using this.1.1
 · have:=h2 p hp
   rw [iP,iP] at this
   have q:=this.1.2
   rw [hf] at q
   simpa using q
 · have:=h2 p hp
   rw [iP,iP] at this
   have q:=this.2
   rw [hl] at q
   simpa using q
 · simpa using h3 y hy
 · simpa using h4 y hy
def bp (X:Cx) (ts:List Str) (sc:Scope) (cl:List (Str×Addr)) (C:Addr) (fp:List Addr) (s:Shared) (H:Hp):Cx where
 prog:=X.prog
 w:=X.w
 K:=X.K
 mg:=X.mg
 base:=X.base
 A:=X.A
 N:=X.N ++ ts
 s₀:=s
 H₀:=H
 env:=compEnvC sc cl C X.env
 outer:=X.stack
 stack:=X.stack
 ex:=fp
 fn:=fun _=>false
 calm:=X.calm
 pn:=[]
 xe:=fun _ _=>False
section
variable {X:Cx} {pins:List (Addr×Obj)} {σ:St} {H:Hp} {s:Shared} {ts:List Str} {sc:Scope} {cl:List (Str×Addr)} {C D:Addr} {fp:List Addr}
theorem rH (hS:oH X.N ts X.env.scope sc) {y:Str} (h:sI (relabel sc X.env) y):sc.names.lookup y=some .local∨(sc.names.lookup y=some .free∧((relabel sc X.env).names.lookup y=some .cell∨(relabel sc X.env).names.lookup y=some .free)):=by
 have e:=kU (scope:=sc) (env:=X.env) y
 cases hk:sc.names.lookup y with
 | none =>
   rw [hk] at e
   have e':(relabel sc X.env).names.lookup y=none:=e
   rcases h with h | h | h <;> rw [e'] at h <;> cases h
 | some k =>
   have hm:(y,k)∈sc.names:=Ii hk
   rw [hk] at e
   cases k with
   | «local»=>exact .inl rfl
   | cell=>exact absurd rfl (hS.Cs _ hm)
   | free =>
     refine .inr ⟨rfl,?_⟩
     rw [e,Option.map_some]
     by_cases hc:(NameKind.free == .free && X.env.scope.kind == .function && X.env.kindOf y == some .cell)=true
     · rw [if_pos hc]; exact .inl rfl
     · rw [if_neg hc]; exact .inr rfl
   | globalExplicit =>
     have e':(relabel sc X.env).names.lookup y=some .globalExplicit:=e
     rcases h with h | h | h <;> rw [e'] at h <;> cases h
   | globalImplicit =>
     have e':(relabel sc X.env).names.lookup y=some .globalImplicit:=e
     rcases h with h | h | h <;> rw [e'] at h <;> cases h
theorem y7 (I:Inv X pins σ H s) (hf:∀ b∈fp,lW X pins H b):∀ b∈fp,b∉kL X.stack:=fun b hb z=>by
 obtain ⟨_,f1,f2,_⟩:=hf b hb
 rcases cL.mp (I.wL b z) with e | e
 · exact f1 e
 · exact f2 e
theorem FZ (I:Inv X pins σ H s) (hf:∀ b∈fp,lW X pins H b) (KU:∀ b∈fp,∃ o,s.heap.get? b=some o) (hS:oH X.N ts X.env.scope sc)
  (c1:∀ y c,cl.lookup y=some c→X.env.cells.lookup y=some c) (c2:∀ p∈sc.names,p.2 = .free→∃ c,cl.lookup p.1=some c)
  (hC:s.heap.objs.size≤C) (hD:s.heap.objs.size≤D) (Rr:D≠C) {h1:Heap} {m:Str→Option Value} {n:Nat} {t:Nat} (k:∀ b o,s.heap.get? b=some o→h1.get? b=some o) (hn:h1.Ns C m)
  (hd:h1.get? D=some { cls:=.type "list",data:=.seq ([]:List Value).toArray n }) :
  Inv (bp X ts sc cl C fp s H) [] (σ ++ ts.map fun _=>none) (upd H D (.lst [])) { s with heap:=h1,toks:=t }:=by
 have sz:=I.sz
 have S9:∀ b∈fp,b < s.heap.objs.size:=fun b hb=>by obtain ⟨o,e⟩:=KU b hb; exact d7 e
 have B5:∀ y c,cl.lookup y=some c→c < s.heap.objs.size:=fun y c e=>by obtain ⟨v,q⟩:=I.cell y c (c1 y c e); exact q.lt
 have ok:(bp X ts sc cl C fp s H).Ok:=by
  refine ⟨I.ok.mod,hS.kind,I.ok.glob,I.ok.blt,hC,fun x y c e1 e2=>I.ok.inj x y c (c1 x c e1) (c1 y c e2),fun x hx=>?_,fun x c hx=>absurd hx (by simp [bp]),I.ok.hd,I.ok.frames,.inl rfl,fun b hb=>?_,fun b o e=>I.bs b o e,
   nB I.ok.BO sz,fun b o e hb=>?_,y7 I hf,I.stack,fun b hb=>I.nW b hb⟩
  · have hv:sI (relabel sc X.env) x:=by
     rcases hx with hx | hx
     · exact .inr (.inl hx)
     · exact .inr (.inr hx)
    rcases rH hS hv with z | ⟨z,_⟩
    · have e:=kU (scope:=sc) (env:=X.env) x
      rw [z] at e
      have e':(relabel sc X.env).names.lookup x=some .local:=e
      have BV:(relabel sc X.env).names.lookup x=some .cell∨(relabel sc X.env).names.lookup x=some .free:=hx
      rw [e'] at BV
      rcases BV with q | q <;> cases q
    · exact c2 _ (Ii z) rfl
  · exact ⟨fun e=>absurd (nR (S9 b hb) hC) (by have e':b=C:=e; rw [e']; exact E2 _),fun x c e z=>(hf b hb).2.2.2.2.1 x c (c1 x c e) z⟩
  · rcases (hf b hb).2.2.2.1 with z | z
    · exact I.ok.zZ b o e z
    · exact absurd (nR (d7 e) (nB I.ok.BO z)) (E2 _)
 have Xb:H D=none:=I.bD.fresh hD
 refine ⟨ok,rfl,I.bare,Un.laid k hD Xb,⟨m,hn,fun i x v e1 e2 e3=>?_⟩,fun x c e=>?_,?_,fun x c e=>?_,fun p hp=>absurd (show p∈([]:List (Addr×Obj)) from hp) (by simp),I.bD.laid k hD ⟨kK _,[],n,.nil,hd⟩,?_⟩
 · have hi:i < σ.length:=by
    by_cases hi:i < σ.length
    · exact hi
    · rw [BL (by omega),nV] at e2
      cases q:ts[i - σ.length]? with
      | none=>rw [q] at e2; cases e2
      | some a=>rw [q] at e2; cases e2
   have E6:σ[i]?=some (some v):=by rw [uz hi] at e2; exact e2
   have V_:X.N[i]?=some x:=by
    have OH:(X.N ++ ts)[i]?=some x:=e1
    rw [uz (by rw [← I.len]; exact hi)] at OH
    exact OH
   rcases rH hS e3 with z | ⟨z,zr⟩
   · exact absurd z (hS.own x (mW V_))
   · have hm:=Ii z
     have ho:=hS.fr _ hm rfl
     obtain ⟨m0,_,hl⟩:=I.loc
     obtain ⟨u,r,l⟩:=hl i x v V_ E6 (.inr ho)
     obtain ⟨c',NW⟩:=c2 _ hm rfl
     rcases l with ⟨l,_⟩ | ⟨_,c,hc,z2⟩
     · have l':X.env.scope.names.lookup x=some .local:=l
       rw [l'] at ho
       rcases ho with q | q <;> cases q
     · have ec:=c1 x c' NW
       rw [hc] at ec
       cases ec
       exact ⟨u,r,.inr ⟨zr,_,NW,z2.keeps k⟩⟩
 · obtain ⟨v,z⟩:=I.cell x c (c1 x c e)
   exact ⟨v,z.keeps k⟩
 · show upd H D (.lst []) C=none
   rw [aD (Ne.symm Rr)]
   exact I.bD.fresh hC
 · show upd H D (.lst []) c=none
   rw [aD (gW (nR (B5 x c e) hD))]
   exact I.eW x c (c1 x c e)
 · show (σ ++ ts.map fun _=>none).length=(X.N ++ ts).length
   rw [nU,nU,cu,I.len]
theorem uS (I:Inv X pins σ H s) (hf:∀ b∈fp,lW X pins H b) {yN:List (Addr×Obj)} {σ':St} {H':Hp} {s':Shared} (J:Inv (bp X ts sc cl C fp s H) yN σ' H' s'):Inv X pins σ H' s' :=
 I.B7 J.os J.base J.bD J.bare fun b hb=>by
  obtain ⟨_,f1,_,f3,f4,f5⟩:=hf b hb
  exact ⟨f3,f1,f4,f5⟩
end
section
variable {prog:Program} {w:World} {A:Around} {R:Result→Shared→Prop} {s:Shared}
theorem jU {elt target iter:Expr} {ifs:List Expr} {scope:Scope} {pos:Pos} {it acc:Value} {env:Env} (I:Nat→Shared→Prop)
  (turn:∀ n s,I n s→wpAny (model prog w) A (pyNext it) (fun r s₁=>match r with
    | none=>R (.ok .next) s₁
    | some v=>wpAny (model prog w) A (letOwnedTupleGo target it v) (fun _ V'=>wpAny (model prog w) A (assign target env v) (fun _ s₂ =>
       wpAny (model prog w) A (forIn ifs true fun c r=>if r=true then do let ok ← isTrue c env (eval c env); pure (ForInStep.yield ok) else pure (ForInStep.yield r)) (fun ok s₃ =>
        if ok=true then wpAny (model prog w) A (eval elt env) (fun x s₄ =>
         wpAny (model prog w) A (call (.builtin "list.append") [acc,x]) (fun _ s₅=>∃ m,m < n∧I m s₅) (notedBy (model prog w) A env fun e s'=>R (.error e) s') s₄) (notedBy (model prog w) A env fun e s'=>R (.error e) s') s₃
        else ∃ m,m < n∧I m s₃) (notedBy (model prog w) A env fun e s'=>R (.error e) s') s₂) (notedBy (model prog w) A env fun e s'=>R (.error e) s') V')
       (notedBy (model prog w) A env fun e s'=>R (.error e) s') s₁) (notedBy (model prog w) A env fun e s'=>R (.error e) s') s)
  (n:Nat) (h:I n s):codeAny (model prog w) A (.compLoop (.ListComp elt [⟨target,iter,ifs,0⟩] scope pos) 0 it acc env) R s:=by
 refine codeAny_loop rfl I (fun n s hI=>?_) n h
 show wpAny _ A ((compTurn (.ListComp elt [⟨target,iter,ifs,0⟩] scope pos) 0 it acc env).onRaise (fun x=>do noteFrame x env; theTreesLotGoes x)) _ _ s
 refine wpAny_noted ?_
 rw [compTurn_list]
 refine wpAny_bind (wpAny_standAt (wpAny_bind (wpAny_mono (turn n s hI) (fun r s₁ h₁=>?_) fun _ _ h'=>h')))
 cases r with
 | none=>exact wpAny_pure h₁
 | some v =>
   refine wpAny_bind (wpAny_mono h₁ (fun _ V' Xc=>?_) fun _ _ h'=>h')
   refine wpAny_bind (wpAny_mono Xc (fun _ s₂ h₂=>wpAny_bind (wpAny_mono h₂ (fun ok s₃ h₃=>?_) fun _ _ h'=>h')) fun _ _ h'=>h')
   cases ok with
   | false=>exact wpAny_pure ⟨rfl,h₃⟩
   | true =>
     exact wpAny_bind (wpAny_bind (wpAny_mono h₃ (fun x s₄ h₄=>wpAny_bind (wpAny_mono h₄ (fun _ s₅ h₅=>wpAny_pure (wpAny_pure ⟨rfl,h₅⟩)) fun _ _ h'=>h')) fun _ _ h'=>h'))
end
def E7 (X:Cx) (ifs:List Expr) (t:TT):Prop :=
 ∀ (pins:List (Addr×Obj)) (s:Shared) (σ:St) (H:Hp) (Q:Bool→Hp→Prop),Inv X pins σ H s→t σ H Q →
  wpAny (model X.prog X.w) X.A (forIn ifs true fun c r=>if r=true then do let ok ← isTrue c X.env (eval c X.env); pure (ForInStep.yield ok) else pure (ForInStep.yield r)) (TP X pins σ Q) X.xe s
def S_:TT:=fun _ H Q=>Q true H
theorem F0 {X:Cx}:E7 X [] S_:=fun _ _ _ H _ I h=>wpAny_tests_nil ⟨H,I,h⟩
def uT (J:It) (g:TG) (tt:TT) (te:TE) (n:Nat) (σ:St) (D:Addr) (Q:Hp→Prop) (H1:Hp):Prop :=
 ∃ W:Nat→Nat→List V→Hp→Prop,(∃ m,W 0 m [] (upd H1 D (.lst [])))∧∀ i m acc H2,W i m acc H2→H2 D=some (.lst acc) ∧
  ((J.stop i H2∧Q H2)∨(J.go i H2∧acc.length < sizeLine∧∀ x H3,J.Nm i H2 x H3→g x (σ ++ List.replicate n none) H3 fun σ4 H4=>(σ4.length=σ.length+n∧∀ (i:Nat) v,σ[i]?=some (some v)→σ4[i]?=some (some v)) ∧
    tt σ4 H4 fun b H5=>if b=true then te σ4 H5 fun y H6=>H6 D=some (.lst acc)∧∃ m',m' < m∧W (i+1) m' (acc ++ [y]) (upd H6 D (.lst (acc ++ [y]))) else ∃ m',m' < m∧W (i+1) m' acc H5))
section
variable {X:Cx} {pins:List (Addr×Obj)} {σ:St} {H:Hp} {s:Shared} {ts:List Str} {sc:Scope} {cl:List (Str×Addr)} {fp:List Addr}
theorem Ag {Y:Cx} {pl:List (Addr×Obj)} {σ4:St} {H':Hp} {s':Shared} {n:Nat} (I:Inv Y pl σ4 H' s') (hl:σ4.length=σ.length+n) (hs:∀ (i:Nat) v,σ[i]?=some (some v)→σ4[i]?=some (some v)) :
  Inv Y pl (σ ++ List.replicate n none) H' s':=by
 refine I.weak (by rw [nU,Fh,hl]) fun i v e=>?_
 by_cases hi:i < σ.length
 · rw [uz hi] at e
   exact hs i v e
 · rw [BL (by omega),JA] at e
   split at e <;> cases e
theorem uU {elt iter tg:Expr} {ifs:List Expr} {pos:Pos} {it:Addr} {tn:Nat→Heap→Prop} {J:It} {g:TG} {tt:TT} {te:TE} {Q:Hp→Prop} {RR:Value→Addr→Result→Shared→Prop} {E:Value→Shared→Prop}
  (hc:X.calm=true) (I:Inv X pins σ H s) (T:Turn X.prog X.w X.K tg J fp it tn) (st:tn 0 s.heap) (hf:∀ b∈fp,lW X pins H b) (hS:oH X.N ts X.env.scope sc)
  (c1:∀ y c,cl.lookup y=some c→X.env.cells.lookup y=some c) (c2:∀ p∈sc.names,p.2 = .free→∃ c,cl.lookup p.1=some c)
  (hg:∀ C,PG (bp X ts sc cl C fp s H) tg g) (ht:∀ C,E7 (bp X ts sc cl C fp s H) ifs tt) (he:∀ C,PE (bp X ts sc cl C fp s H) elt te)
  (hw:uT J g tt te ts.length σ s.heap.objs.size Q H)
  (fin:∀ (C:Addr) (H':Hp) (s':Shared) (σ':St),s.heap.objs.size≤C→Inv (bp X ts sc cl C fp s H) [] σ' H' s'→Q H'→RR (.ref s.heap.objs.size) C (.ok .next) s') :
  wpAny (model X.prog X.w) X.A (newList []) (fun acc s₃=>wpAny (model X.prog X.w) X.A (newFunctionEnv sc X.env.globals cl [] X.env.qual none .none (some X.env)) (fun OI s₄ =>
   codeAny (model X.prog X.w) X.A (.compStart (.ListComp elt [⟨tg,iter,ifs,0⟩] sc pos) 0 (.ref it) acc { OI with scope:=relabel sc X.env }) (RR acc OI.locals) s₄) E s₃) E s:=by
 obtain ⟨W,⟨m0,w0⟩,turn⟩:=hw
 have S':=T.obj 0 _ st
 have KU:∀ b∈fp,∃ o,s.heap.get? b=some o:=fun b hb=>let ⟨o,e,_⟩:=S' b hb; ⟨o,e⟩
 refine wpAny_newObj_type (wpAny_newFunctionEnv hS.Cs (by intro y hy; simp at hy) (fun h₁ KW F1=>?_) hS.kind)
 dsimp only at KW F1 ⊢
 generalize Ta:s.heap.push { cls:=.type "list",dict:=none,data:=.seq ([]:List Value).toArray }=H2 at KW F1 ⊢
 have hC:H2.objs.size=s.heap.objs.size+1:=by rw [← Ta,wI]
 have Rr:s.heap.objs.size≠H2.objs.size:=by rw [hC]; exact gW (JE _)
 have OJ:s.heap.objs.size≤H2.objs.size:=by rw [hC]; exact JI _
 have below:∀ b,b < s.heap.objs.size→b≠H2.objs.size∧b≠s.heap.objs.size:=fun b hb=>⟨by rw [hC]; exact gW (NP hb),gW hb⟩
 have old:∀ b o,s.heap.get? b=some o→h₁.get? b=some o:=fun b o e=>F1.extBut b o (below b (d7 e)).1 (dB _ (Ta▸dB _ e))
 have Tb:h₁.get? s.heap.objs.size=some { cls:=.type "list",data:=.seq ([]:List Value).toArray }:=F1.extBut _ _ Rr (dB _ (Ta▸nQ _ rfl))
 have OK:tn 0 h₁:=T.keep _ _ _ st fun b hb o e=>old b o e
 have fresh:H s.heap.objs.size=none:=I.bD.fresh (d8 _)
 have sQ:∀ {H':Hp},(∀ b∈fp,H' b=none)→∀ b∈fp,lW (bp X ts sc cl H2.objs.size fp s H) [] H' b:=fun {H'} hn b hb=>by
  obtain ⟨o,e⟩:=KU b hb
  refine ⟨hn b hb,fun z=>?_,y7 I hf b hb,.inl hb,fun x c e z=>(hf b hb).2.2.2.2.1 x c (c1 x c e) z,fun p hp=>absurd (show p∈([]:List (Addr×Obj)) from hp) (by simp)⟩
  have z':b=H2.objs.size:=z
  exact (below b (d7 e)).1 z'
 have Xd:∀ b∈fp,(upd H s.heap.objs.size (.lst [])) b=none:=fun b hb=>by
  obtain ⟨o,e⟩:=KU b hb
  rw [aD (gW (d7 e))]
  exact (hf b hb).1
 have eN:(ts.map fun _=>(none:Option V))=List.replicate ts.length none:=List.map_const'
 have loop:∀ s₃:Shared,s₃={ s with heap:=h₁,toks:=s.toks+([]:List (Str×Value)).length } →
   codeAny (model X.prog X.w) X.A (.compLoop (.ListComp elt [⟨tg,iter,ifs,0⟩] sc pos) 0 (.ref it) (.ref s.heap.objs.size) (compEnvC sc cl H2.objs.size X.env)) (RR (.ref s.heap.objs.size) H2.objs.size) s₃:=by
  rintro s₃ rfl
  have J0:=FZ (ts:=ts) (t:=s.toks+([]:List (Str×Value)).length) I hf KU hS c1 c2 OJ (d8 _) Rr old KW Tb
  rw [eN] at J0
  refine jU (fun n s'=>∃ i acc H',Inv (bp X ts sc cl H2.objs.size fp s H) [] (σ ++ List.replicate ts.length none) H' s'∧tn i s'.heap∧(∀ b∈fp,H' b=none)∧W i n acc H') ?_ m0 ⟨0,[],_,J0,OK,Xd,w0⟩
  rintro n s3 ⟨i,acc,H3,J3,N8,N9,w3⟩
  obtain ⟨ZX,alt⟩:=turn i n acc H3 w3
  rcases alt with ⟨stop,q⟩ | ⟨go,hz,step⟩
  · refine bV (T.done (bp X ts sc cl H2.objs.size fp s H) rfl rfl rfl hc i [] s3 _ H3 _ J3 (sQ N9) N8 stop) fun r s4 ⟨hr,J4⟩=>?_
    subst hr
    exact fin _ H3 s4 _ OJ J4 q
  · refine bV (T.item (bp X ts sc cl H2.objs.size fp s H) rfl rfl rfl hc i [] s3 _ H3 _ J3 (sQ N9) N8 go) fun r s4 ⟨u,hr,h4⟩=>?_
    subst hr
    refine bV h4 fun _ s5 ⟨x,H5,J5,r5,y5,Kh,SQ⟩=>?_
    have Xe:=J5.pinned (sQ SQ) (T.obj _ _ Kh)
    have again:∀ {σ7:St} {H7:Hp} {s7:Shared},Inv (bp X ts sc cl H2.objs.size fp s H) ([] ++ oA fp s5.heap) σ7 H7 s7→(σ7.length=σ.length+ts.length∧∀ (i:Nat) v,σ[i]?=some (some v)→σ7[i]?=some (some v))→∀ KY m',W (i+1) m' KY H7→m' < n →
      ∃ m,m < n∧∃ i acc H',Inv (bp X ts sc cl H2.objs.size fp s H) [] (σ ++ List.replicate ts.length none) H' s7∧tn i s7.heap∧(∀ b∈fp,H' b=none)∧W i m acc H':=fun {σ7 H7 s7} I7 hσ KY m' w7 hm=>by
     refine ⟨m',hm,i+1,KY,H7,Ag I7.kQ hσ.1 hσ.2,T.keep _ _ _ Kh fun b hb o e=>(I7.pin (b,o) (lL _ (lL _ (g6 hb e)))).1,fun b hb=>?_,w7⟩
     obtain ⟨o,e,d⟩:=T.obj _ _ Kh b hb
     exact (I7.pin (b,o) (lL _ (lL _ (g6 hb e)))).2.1
    refine wpAny_mono (hg H2.objs.size _ s5 _ H5 x u _ Xe r5 (step x H5 y5)) (fun _ s6 ⟨σ6,H6,J6,hσ,q6⟩=>?_) fun _ _ z=>False.elim z
    refine wpAny_mono (ht H2.objs.size _ s6 σ6 H6 _ J6 q6) (fun b s7 ⟨H7,J7,q7⟩=>?_) fun _ _ z=>False.elim z
    cases b with
    | false =>
      obtain ⟨m',hm,w7⟩:=q7
      exact again J7 hσ acc m' w7 hm
    | true =>
      show wpAny _ _ _ _ _ _
      refine wpAny_mono (he H2.objs.size _ s7 σ6 H7 _ J7 q7) (fun y s8 ⟨yv,H8,J8,ry,Xf,m',hm,w8⟩=>?_) fun _ _ z=>False.elim z
      refine wpAny_mono (bf (X:=bp X ts sc cl H2.objs.size fp s H) _ s8 σ6 H8 (.ref s.heap.objs.size) [yv] (.ref s.heap.objs.size) [y] (fun v H9=>v = .br∧H9=upd H8 s.heap.objs.size (.lst (acc ++ [yv]))) J8 rfl (.cons ry .nil) ⟨_,acc,yv,rfl,rfl,Xf,hz,rfl,rfl⟩) (fun v9 s9 ⟨v,H9,J9,_,_,e9⟩=>?_) fun _ _ z=>False.elim z
      subst e9
      exact again J9 hσ (acc ++ [yv]) m' w8 hm
 exact codeAny_compStart_list (loop _ rfl) (T.self _ 0 _ _ _ OK (loop _ rfl))
def Ct (n:Nat) (wi:TI) (g:TG) (tt:TT) (te:TE):TE:=fun σ H Q=>wi σ H fun J H1=>∀ D,H1 D=none→uT J g tt te n σ D (Q (.ref D)) H1
theorem uV (I:Inv X pins σ H s) (hS:oH X.N ts X.env.scope sc):∀ p∈sc.names,p.2 = .free→∃ c,X.env.cells.lookup p.1=some c:=fun p hp hf=>by
 rcases hS.fr p hp hf with z | z
 · exact I.ok.has p.1 (.inl z)
 · exact I.ok.has p.1 (.inr z)
theorem F3 {elt iter tg:Expr} {ifs:List Expr} {pos:Pos} {wi:TI} {g:TG} {tt:TT} {te:TE} (hc:X.calm=true) (hS:kg X.N ts X.env.scope sc=true) (hi:PI X tg iter wi)
  (hg:∀ cl C fp s H,PG (bp X ts sc cl C fp s H) tg g) (ht:∀ cl C fp s H,E7 (bp X ts sc cl C fp s H) ifs tt) (he:∀ cl C fp s H,PE (bp X ts sc cl C fp s H) elt te)
  (hs:∀ x,foldedSetIterable iter X.env x=pure x:=by intro _; rfl):PE X (.ListComp elt [⟨tg,iter,ifs,0⟩] sc pos) (Ct ts.length wi g tt te):=by
 intro pins s σ H Q I h
 have S:=rG hS
 obtain ⟨cl,Cu,c1,c2⟩:=iC (uV I S)
 rw [eval_ListComp]
 refine wpAny_comprehension_free (use:=none) rfl hs Cu S.kind S.names ?_
 refine bV (hi pins s σ H _ I h) fun v s1 h1=>bV h1 fun Rj s2 h2=>?_
 obtain ⟨it,fp,tn,J,H2,e,I2,T,BP,f2,q2⟩:=h2
 subst e
 refine uU (E:=X.xe) (RR:=fun acc C=>compPost (model X.prog X.w) X.A X.xe none (EP X pins σ Q) acc C) hc I2 T BP f2 S c1 c2 (fun C=>hg cl C fp s2 H2) (fun C=>ht cl C fp s2 H2) (fun C=>he cl C fp s2 H2) (q2 _ (I2.bD.fresh (d8 _))) ?_
 intro C H' s' σ' hC J' q'
 obtain ⟨m,hn,_⟩:=J'.loc
 refine ⟨m,hn,fun h' sb=>?_⟩
 have I':=uS I2 f2 J'
 have fk:=I2.qA (H':=H') hC J'.free
 obtain ⟨f0,f1,_,f3,f4,f5⟩:=fk
 exact ⟨.ref _,H',I'.turned (t':=s'.toks) (fun b o hb e=>(sb.2 b hb).trans e) f0 f1 f3 f4 f5,rfl,q'⟩
theorem F4 {i:Nat} {y:Str} {py:Pos} {uW:Pos} {elt iter tg:Expr} {ifs:List Expr} {pos:Pos} {wi:TI} {g:TG} {tt:TT} {te:TE} (hN:X.N.Nodup) (hy:X.N[i]?=some y) (hx:Loc X.env.scope y) (hc:X.calm=true) (hS:kg X.N ts X.env.scope sc=true) (hi:PI X tg iter wi)
  (hg:∀ cl C fp s H,PG (bp X ts sc cl C fp s H) tg g) (ht:∀ cl C fp s H,E7 (bp X ts sc cl C fp s H) ifs tt) (he:∀ cl C fp s H,PE (bp X ts sc cl C fp s H) elt te)
  (OL:swapsWith (.ListComp elt [⟨tg,iter,ifs,0⟩] sc pos) (some (.Name y py)) uW.line X.env=pure true:=by rfl)
  (hs:∀ x,foldedSetIterable iter X.env x=pure x:=by intro _; rfl) (hf:X.fn y=true∨X.env.scope.names.lookup y=some .local:=by first | exact .inl rfl | exact .inr rfl | assumption) :
  PS X (.Assign [.Name y py] (.ListComp elt [⟨tg,iter,ifs,0⟩] sc pos) uW) (Fz (Ct ts.length wi g tt te) (iB i)):=by
 intro pins s σ H D I h
 have S:=rG hS
 obtain ⟨cl,Cu,c1,c2⟩:=iC (uV I S)
 rw [exec_Assign_Name_used _ _ _ _ OL]
 refine wpAny_bind (wpAny_standAt (wpAny_bind ?_))
 show wpAny _ X.A (do let _ ← comprehension (.ListComp elt [⟨tg,iter,ifs,0⟩] sc pos) sc X.env _ (newList []) false (eval iter X.env) (some (assign (.Name y py) X.env))) _ _ s
 refine wpAny_bind (wpAny_mono (wpAny_comprehension_free (use:=some (assign (.Name y py) X.env)) (Q:=fun _ s'=>SP X pins D .next s') (E:=X.xe) rfl hs Cu S.kind S.names ?_) (fun _ s' hq=>wpAny_pure (wpAny_pure hq)) fun _ _ e=>e)
 refine bV (hi pins s σ H _ I h) fun v s1 h1=>bV h1 fun Rj s2 h2=>?_
 obtain ⟨it,fp,tn,J,H2,e,I2,T,BP,f2,q2⟩:=h2
 subst e
 refine uU (E:=X.xe) (RR:=fun acc C=>compPost (model X.prog X.w) X.A X.xe (some (assign (.Name y py) X.env)) (fun _ s'=>SP X pins D .next s') acc C) hc I2 T BP f2 S c1 c2 (fun C=>hg cl C fp s2 H2) (fun C=>ht cl C fp s2 H2) (fun C=>he cl C fp s2 H2) (q2 _ (I2.bD.fresh (d8 _))) ?_
 intro C H' s' σ' hC J' q'
 obtain ⟨m,hn,_⟩:=J'.loc
 have I':=uS I2 f2 J'
 have fk:=I2.qA (H':=H') hC J'.free
 obtain ⟨f0,f1,_,f3,f4,f5⟩:=fk
 show wpAny _ X.A (assign (.Name y py) X.env (.ref s2.heap.objs.size)) _ _ s'
 refine wpAny_assign_Name (rq (v:=.ref s2.heap.objs.size) I' hN hy hx rfl (fun s3 I3 ⟨a,sb,ha⟩=>?_) hf)
 have Xg:C≠a:=by
  rcases ha with z | z
  · rw [z]; exact f1
  · exact fun e=>f4 y a z e.symm
 refine ⟨m,hn.sameBut sb Xg,fun h' Xh=>?_⟩
 exact ⟨_,H',I3.turned (t':=s3.toks) (fun b o hb e=>(Xh.2 b hb).trans e) f0 f1 f3 f4 f5,q'⟩
end
def Ru (x:Str):It:=⟨fun i _=>i < x.cps.size,fun i H v H'=>H'=H∧∃ c,x.cps[i]?=some c∧v = .str ⟨#[c]⟩,fun i _=>x.cps.size≤i⟩
theorem cU (x:Str):(strIterType x="str_ascii_iterator")∨(strIterType x="str_iterator"):=by
 unfold strIterType
 cases x.cps.all (· < 128)
 · exact .inr rfl
 · exact .inl rfl
theorem Cv {P:Program} {w:World} {K:PySem.W.Frag} {tg:Expr} (x:Str) (t:Tok) (it:Addr):Turn P w K tg (Ru x) [it] it (fun i h=>h.IsStrIter it (strIterType x) x t i) where
 mem:=by simp
 obj:=fun i h st b hb=>by
  have e:b=it:=by simpa using hb
  subst e
  obtain ⟨o,e,c,d⟩:=st
  exact ⟨o,e,fun v z=>by rw [d] at z; cases z⟩
 keep:=fun i h h' st k=>by
  obtain ⟨o,e,c,d⟩:=st
  exact ⟨o,k it (by simp) o e,c,d⟩
 item:=by
  intro X hP hw hK hc i pins s σ H E I hf st hg
  subst hP hw hK
  obtain ⟨f0,f1,f2,f3,f4,f5⟩:=hf it (by simp)
  have hi:i < x.cps.size:=hg
  have hx:x.cps[i]?=some x.cps[i]:=by simp [hi]
  have fin:∀ h',h'.IsStrIter it (strIterType x) x t (i+1)→Heap.SameBut it s.heap h'→∃ u,(some (Value.str ⟨#[x.cps[i]]⟩ s.toks):Option Value)=some u ∧
    wpAny (model X.prog X.w) X.A (letOwnedTupleGo tg (.ref it) u) (fun _ s2=>∃ y H',Inv X pins σ H' s2∧RelV y u∧(Ru x).Nm i H y H'∧Heap.IsStrIter s2.heap it (strIterType x) x t (i+1)∧∀ b∈[it],H' b=none) E { s with heap:=h',toks:=s.toks+1 }:=fun h' wN sb=>by
   have I1:Inv X pins σ H { s with heap:=h',toks:=s.toks+1 }:=I.turned (t':=s.toks+1) (fun b o hb e=>(sb.2 b hb).trans e) f0 f1 f3 f4 f5
   obtain ⟨o,e,c,d⟩:=id wN
   refine ⟨_,rfl,yP (s:={ s with heap:=h',toks:=s.toks+1 }) e c d ?_ ⟨.str ⟨#[x.cps[i]]⟩,H,I1,⟨_,rfl⟩,⟨rfl,_,hx,rfl⟩,wN,fun b hb=>(hf b hb).1⟩⟩
   rcases cU x with z | z <;> rw [z] <;> decide
  rcases cU x with z | z
  · rw [z] at st fin
    refine wpAny_pyNext_ascii_item st hx fun h' wN sb=>?_
    have:=fin h' wN sb
    rw [← z] at this
    simpa [z] using this
  · rw [z] at st fin
    refine wpAny_pyNext_wide_item st hx fun h' wN sb=>?_
    have:=fin h' wN sb
    simpa [z] using this
 done:=by
  intro X hP hw hK hc i pins s σ H E I hf st hg
  subst hP hw hK
  obtain ⟨f0,f1,f2,f3,f4,f5⟩:=hf it (by simp)
  have hi:x.cps.size≤i:=hg
  have hx:x.cps[i]?=none:=by simp [hi]
  rcases cU x with z | z
  · rw [z] at st
    exact wpAny_pyNext_ascii_end (I.ok.hd hc) st hx fun h' eb=>⟨rfl,I.turned (t':=s.toks) (fun b o hb e=>eb b o hb e) f0 f1 f3 f4 f5⟩
  · rw [z] at st
    exact wpAny_pyNext_wide_end (I.ok.hd hc) st hx fun h' eb=>⟨rfl,I.turned (t':=s.toks) (fun b o hb e=>eb b o hb e) f0 f1 f3 f4 f5⟩
 self:=fun A i s Q E st h=>by
  rcases cU x with z | z
  · rw [z] at st; exact wpAny_pyIter_striter_ascii st h
  · rw [z] at st; exact wpAny_pyIter_striter_wide st h
section
variable {X:Cx} {tg:Expr}
theorem dD (hc:X.calm=true):cw X (.builtin "all") (fun xs H Q=>∃ (p:Addr) (bs:List Bool),xs=[.ref p]∧eY X.K H p (bs.map V.bl)∧Q (.bl (bs.all id)) H):=by
 intro pins s σ H xs us Q I r h
 obtain ⟨p,bs,rfl,hq,q⟩:=h
 obtain ⟨u,rfl,rx⟩:=vals1 r
 cases rx
 obtain ⟨aK,rv,pl,hz⟩:=I.list hq
 refine call_all_walk (wpAny_pyIter_list pl.isList ?_)
 have gj:p < s.heap.objs.size:=by obtain ⟨o,n,e,_⟩:=pl; exact d7 e
 have n8:p≠s.heap.objs.size:=gW gj
 have hh:X.A.in1.handled=none:=I.ok.hd hc
 refine ⟨s.heap.objs.size,_,_,_,_,_,fun i=>bs.getD i true,rfl,Walks.list hh s.heap.objs.size p n8 aK.toArray,⟨⟨_,nQ _ rfl,rfl,rfl⟩,pl.isList.push _⟩,?_,fun h' tk k=>?_⟩
 · intro i v s' Q' E' hP hQ
   have Wa:aK[i]?=some v:=by simpa using hP
   have hb:i < bs.length:=by
    have:=rv.length
    have h2:=(fY.mp Wa).1
    rw [cu] at this
    omega
   obtain ⟨u,e1,r1⟩:=rv.get (i:=i) (x:=.bl bs[i]) (by simp [hb])
   rw [Wa] at e1
   cases e1
   obtain rfl:v=Value.bool bs[i]:=r1
   have e3:bs.getD i true=bs[i]:=by simp [List.getD,hb]
   dsimp only at hQ; rw [e3] at hQ
   exact wpAny_truthy_bool hQ
 · have hl:aK.toArray.size=bs.length:=by have:=rv.length; rw [cu] at this; rw [gS]; omega
   have e:(List.range aK.toArray.size).all (fun i=>bs.getD i true)=bs.all id:=by
    rw [hl,Ni,zU,zU]
    constructor
    · intro h x hx
      obtain ⟨i,hi,e⟩:=List.mem_iff_getElem.mp hx
      have:=h i (EZ.mpr hi)
      simp only [List.getD,lK hi,Option.getD_some] at this
      rw [← e]; exact this
    · intro h i hi
      have Cw:=EZ.mp hi
      simp only [List.getD,lK Cw,Option.getD_some]
      exact h _ (B1 Cw)
   rw [e]
   refine ⟨.bl (bs.all id),H,?_,rfl,q⟩
   have I0:Inv X pins σ H { s with heap:=s.heap.push { cls:=.type "list_iterator",data:=.fields #[.ref p,.int 0 0] } }:=I.kept (t':=s.toks) fun b o e=>dB _ e
   have fk:=I.qA (H':=H) (d8 s.heap.objs.size) I.fresh
   obtain ⟨f0,f1,_,f3,f4,f5⟩:=fk
   exact I0.turned (t':=tk) (fun b o hb e=>k b o (by simpa using hb) e) f0 f1 f3 f4 f5
theorem qF:BS X "str.startswith" (fun x xs H Q=>∃ z y,x = .str z∧xs=[.str y]∧Q (.bl (Txt.startswith z y)) H):=by
 intro pins s σ H x xs v us Q I rx rs h
 obtain ⟨z,y,rfl,rfl,q⟩:=h
 obtain ⟨t,rfl⟩:=rx
 obtain ⟨u,rfl,t',rfl⟩:=vals1 rs
 exact SC.startswith ⟨.bl _,H,I,rfl,q⟩
def OM:V→Option Int→Option Int→Hp→VK→Prop:=fun x lo hi H Q=>∃ z,x = .str z∧z.length≤sizeLine∧Q (.str (Txt.slice z lo hi)) H
theorem KZ:Ck X OM:=by
 intro pins s σ H x v vl vu lo hi sl Q I rx hs pl pu h
 obtain ⟨z,rfl,hz,q⟩:=h
 obtain ⟨t,rfl⟩:=rx
 obtain ⟨o,e,c,d⟩:=hs
 refine ⟨"str",_,slot_str_getitem.lookup,typeIs_str _ _ _,?_⟩
 cases pl with
 | none =>
   cases pu with
   | none=>exact wpAny_getItem_str_slice (l:=none) (u:=none) (st:=none) ⟨o,e,c,d⟩ rfl (post_val_or_str ⟨nB (Txt.slice_le z _ _) hz,fun t' k=>⟨.str _,H,I.tok _,⟨_,rfl⟩,q⟩⟩)
   | int j tj=>exact wpAny_getItem_str_slice (l:=none) (u:=some (j,tj)) (st:=none) ⟨o,e,c,d⟩ rfl (post_val_or_str ⟨nB (Txt.slice_le z _ _) hz,fun t' k=>⟨.str _,H,I.tok _,⟨_,rfl⟩,q⟩⟩)
 | int i ti =>
   cases pu with
   | none=>exact wpAny_getItem_str_slice (l:=some (i,ti)) (u:=none) (st:=none) ⟨o,e,c,d⟩ rfl (post_val_or_str ⟨nB (Txt.slice_le z _ _) hz,fun t' k=>⟨.str _,H,I.tok _,⟨_,rfl⟩,q⟩⟩)
   | int j tj=>exact wpAny_getItem_str_slice (l:=some (i,ti)) (u:=some (j,tj)) (st:=none) ⟨o,e,c,d⟩ rfl (post_val_or_str ⟨nB (Txt.slice_le z _ _) hz,fun t' k=>⟨.str _,H,I.tok _,⟨_,rfl⟩,q⟩⟩)
end
def Walk (J:It) (H1:Hp) (xs:List V):Prop:=∀ (i:Nat) H',aJ H1 H'→(∀ x,xs[i]?=some x→J.go i H')∧(xs.length≤i→J.stop i H')∧(i < xs.length→∀ x Iz,J.Nm i H' x Iz→Iz=H'∧xs[i]?=some x)
theorem uT.map {J:It} {tt:TT} {te:TE} {σ:St} {D:Addr} {Q:Hp→Prop} {H1:Hp} {k:Nat} (xs:List V) (p:V→Bool) (f:V→V) (hk:k=σ.length) (hD:H1 D=none) (hz:xs.length≤sizeLine) (hJ:Walk J H1 xs)
  (ht:∀ (i:Nat) x H' R,xs[i]?=some x→aJ H1 H'→(∀ Iz,aJ H' Iz→R (p x) Iz)→tt (σ ++ [some x]) H' R)
  (he:∀ (i:Nat) x H' R,xs[i]?=some x→p x=true→aJ H1 H'→(∀ Iz,aJ H' Iz→R (f x) Iz)→te (σ ++ [some x]) H' R)
  (hq:∀ H',aJ H1 H'→H' D=some (.lst ((xs.filter p).map f))→Q H'):uT J (iB k) tt te 1 σ D Q H1:=by
 subst hk
 refine ⟨fun i m acc H2=>i≤xs.length∧m=xs.length - i∧acc=((xs.take i).filter p).map f∧aJ H1 H2∧H2 D=some (.lst acc),⟨xs.length,kK _,rfl,by simp,fun b o e=>?_,aQ⟩,?_⟩
 · rw [aD (aU e hD)]; exact e
 · rintro i m acc H2 ⟨hi,rfl,rfl,s2,F5⟩
   refine ⟨F5,?_⟩
   obtain ⟨j1,j2,j3⟩:=hJ i H2 s2
   by_cases gj:i < xs.length
   · refine .inr ⟨j1 xs[i] (by simp [gj]),?_,fun x H3 y=>?_⟩
     · have h1:(((xs.take i).filter p).map f).length≤i:=by
        rw [cu]
        refine nB (List.length_filter_le _ _) ?_
        rw [EW]; omega
       omega
     · obtain ⟨e3,hx⟩:=j3 gj x H3 y
       subst e3
       have eσ:(σ ++ List.replicate 1 none).set σ.length (some x)=σ ++ [some x]:=by
        rw [List.set_append_right _ _ (d8 _),Nat.sub_self]; rfl
       show (((σ ++ List.replicate 1 none).set σ.length (some x)).length=σ.length+1∧_)∧_
       rw [eσ]
       refine ⟨⟨by simp,fun i v h=>?_⟩,?_⟩
       · have Cw:=(fY.mp h).1
         rw [uz Cw]; exact h
       refine ht i x H3 _ hx s2 fun H5 s5=>?_
       have Wb:(xs.take (i+1)).filter p=(xs.take i).filter p ++ (if p x then [x] else []):=take_succ_filter p xs i x hx
       cases hp:p x with
       | false =>
         rw [if_neg nS]
         refine ⟨xs.length - (i+1),by omega,gj,rfl,?_,s2.trans s5,s5 _ _ F5⟩
         rw [Wb,hp]; simp
       | true =>
         rw [if_pos rfl]
         refine he i x H5 _ hx hp (s2.trans s5) fun H6 s6=>?_
         refine ⟨s6 _ _ (s5 _ _ F5),xs.length - (i+1),by omega,gj,rfl,?_,fun b o e=>?_,aQ⟩
         · rw [Wb,hp]; simp
         · rw [aD (aU e hD)]; exact s6 _ _ (s5 _ _ (s2 _ _ e))
   · have e:i=xs.length:=by omega
     subst e
     refine .inl ⟨j2 (d8 _),hq H2 s2 ?_⟩
     rw [F5,List.take_length]
theorem aS {H:Hp} {D:Addr} {o:HO} (h:H D=none):aJ H (upd H D o):=fun b u e=>by rw [aD (aU e h)]; exact e
section
variable {X:Cx} {pins:List (Addr×Obj)} {σ:St} {H H':Hp} {s:Shared} {h':Heap}
theorem Inv.grown {t':Nat} {ch:List Addr} {t:Addr} {o:HO} (I:Inv X pins σ H s) (k:∀ b u,b∉ch→s.heap.get? b=some u→h'.get? b=some u) (hf:∀ b∈ch,lW X pins H b) (ht:s.heap.objs.size≤t)
  (new:bQ X.prog X.w (upd H t o) h' t o):Inv X pins σ (upd H t o) { s with heap:=h',toks:=t' }:=by
 have hn:H t=none:=I.bD.fresh ht
 have B6:∀ b u,H b=some u→b∉ch:=fun b u e z=>by rw [(hf b z).1] at e; cases e
 refine I.step (g':=s.gens) (d':=s.drawn) (ch:=ch) (fun b hb=>?_) (fun b u _ _ hc e _=>k b u hc e) (fun b u _ _ hc e _=>⟨u.slots,k b u hc e⟩) (fun b u _ e n=>?_) (fun b u hc e=>⟨u,k b u hc e⟩)
  (fun b xs e=>?_) (fun b u v e=>?_) (fun b ps e=>⟨#[],?_⟩) (fun m hm=>?_) (fun b u e=>?_) I.bare
 · obtain ⟨_,f1,_,f3,f4,f5⟩:=hf b hb
   exact ⟨f3,f1,f4,f5⟩
 · rw [aD (gW (nR (d7 e) ht))]; exact n
 · rw [aD (aU e hn)]; exact e
 · rw [aD (aU e hn)]; exact e
 · rw [aD (aU e hn),e]; simp
 · obtain ⟨ob,es,ep,ho,r⟩:=hm
   exact ⟨ob,es,ep,k _ ob (fun z=>(hf _ z).2.1 rfl) ho,r⟩
 · by_cases hb:b=t
   · subst hb; rw [aQ] at e; cases e; exact new
   · rw [aD hb] at e
     refine (I.bD b u e).nD (fun c v hc q=>k c v ?_ q) (fun c q=>by rw [aD (aU q hn)]; exact q) fun c xs q=>by rw [aD (aU q hn)]; exact q
     rcases hc with z | z
     · rw [z]; exact B6 b u e
     · exact B6 c _ z
end
def Tc (K:PySem.W.Frag) (a:Addr):It :=
 ⟨fun i H=>∃ xs x,eY K H a xs∧xs[i]?=some x,fun i H v H'=>∃ t x,H t=none∧v = .ref t∧(∀ xs,eY K H a xs→xs[i]?=some x)∧H'=upd H t (.tup [.int (i:Int),x]),fun i H=>∃ xs,eY K H a xs∧xs.length≤i⟩
theorem Ah {P:Program} {w:World} {K:PySem.W.Frag} {elts:List Expr} {x1} {tp:Pos} (a e it:Addr) (n8:e≠it) :
  Turn P w K (.Tuple elts x1 tp) (Tc K a) [e,it] e (fun i h=>(∃ old,IsEnum h e it (i:Int) old)∧h.IsListIter it a i) where
 mem:=by simp
 obj:=fun i h st b hb=>by
  obtain ⟨⟨old,h1⟩,o,h2,c,d⟩:=st
  rcases cL.mp hb with z | z
  · subst z
    exact ⟨_,h1,fun v z=>by cases z⟩
  · have z':b=it:=by simpa using z
    subst z'
    exact ⟨o,h2,fun v z=>by rw [d] at z; cases z⟩
 keep:=fun i h h' st k=>by
  obtain ⟨⟨old,h1⟩,BP⟩:=st
  exact ⟨⟨old,k e (by simp) _ h1⟩,BP.at fun o q=>k it (by simp) o q⟩
 item:=by
  intro X hP hw hK hc i pins s σ H E I hf st hg
  subst hP hw hK
  obtain ⟨xs,x,hq,hx⟩:=hg
  obtain ⟨aK,rv,p,hz⟩:=I.list hq
  obtain ⟨u,hu,ru⟩:=rv.get hx
  obtain ⟨⟨old,h1⟩,BP⟩:=st
  refine wpAny_pyNext_enum_item h1 BP p.isList (x:=u) (by simpa using hu) n8 fun h₁ Iq Td Xi Cy Xj=>?_
  refine ⟨_,rfl,wpAny_letOwnedTupleGo_enum Iq fun h₂ Xk qG=>?_⟩
  have qH:Heap.SameBut e h₁ h₂:=qG
  have gj:e < s.heap.objs.size:=d7 h1
  have Te:s.heap.objs.size≠e:=BN gj
  have kk:∀ b ob,b∉[e,it]→s.heap.get? b=some ob→h₂.get? b=some ob:=fun b ob hb q=>by
   have E3:b≠e:=fun z=>hb (by simp [z])
   have Tf:b≠it:=fun z=>hb (by simp [z])
   exact (qH.2 b E3).trans (Xj b ob E3 Tf q)
  have new:bQ X.prog X.w (upd H s.heap.objs.size (.tup [.int (i:Int),x])) h₂ s.heap.objs.size (.tup [.int (i:Int),x]) :=
   ⟨by show 2≤sizeLine; rw [sizeLine_eq]; decide,[.int i s.toks,u],.cons ⟨_,rfl⟩ (.cons ru .nil),⟨_,(qH.2 _ Te).trans Xi,rfl,_,rfl⟩⟩
  refine ⟨.ref s.heap.objs.size,upd H s.heap.objs.size (.tup [.int (i:Int),x]),I.grown (t':=s.toks+1) kk hf (d8 _) new,rfl,⟨_,x,I.fresh,rfl,fun ys hy=>by rw [I.kN hy hq]; exact hx,rfl⟩,⟨⟨u,?_⟩,?_⟩,fun b hb=>?_⟩
  · have:((i:Int)+1)=((i+1:Nat):Int):=by omega
    rw [← this]; exact Xk
  · obtain ⟨o,q,r⟩:=Td
    exact ⟨o,(qH.2 it (Ne.symm n8)).trans q,r⟩
  · have Tg:b < s.heap.objs.size:=by
     rcases cL.mp hb with z | z
     · subst z; exact gj
     · have z':b=it:=by simpa using z
       subst z'
       obtain ⟨o,q,_⟩:=BP
       exact d7 q
    rw [aD (gW Tg)]
    exact (hf b hb).1
 done:=by
  intro X hP hw hK hc i pins s σ H E I hf st hg
  subst hP hw hK
  obtain ⟨xs,hq,hx⟩:=hg
  obtain ⟨aK,rv,p,hz⟩:=I.list hq
  have hl:=rv.length
  obtain ⟨⟨old,h1⟩,BP⟩:=st
  obtain ⟨f0,f1,f2,f3,f4,f5⟩:=hf it (by simp)
  exact wpAny_pyNext_enum_end (I.ok.hd hc) h1 BP p.isList (by simp; omega) fun h' eb=>⟨rfl,I.turned (t':=s.toks) (fun b o hb q=>eb b o hb q) f0 f1 f3 f4 f5⟩
 self:=fun _ _ _ _ _ st h=>by
  obtain ⟨⟨old,h1⟩,_⟩:=st
  exact wpAny_pyIter_enum h1 h
def ON (K:PySem.W.Frag) (ta:TA):TI:=fun σ H R=>ta σ H fun vs H1=>∃ a,vs=[.ref a]∧(∃ xs,eY K H1 a xs)∧R (Tc K a) H1
section
variable {X:Cx}
theorem boot_enumerate:bootBuiltins "enumerate" = some (.type "enumerate"):=by decide +kernel
theorem F6 {elts:List Expr} {x1} {tp:Pos} {a:Expr} {ta:TA} {p pos:Pos} (hg:Gl X "enumerate") (hm:X.mg "enumerate" = none) (ha:PA X [a] ta) (hs:starEach [a] X.env=[(false,eval a X.env)]:=by rfl) :
  PI X (.Tuple elts x1 tp) (.Call (.Name "enumerate" p) [a] [] pos) (ON X.K ta):=by
 intro pins s σ H R I h
 refine Call_ (ke I hg hm boot_enumerate (QX (bV (ha pos pins s σ H _ I h) fun us s1 ⟨vs,H1,I1,r1,q1⟩=>?_) hs rfl))
 obtain ⟨b,e,⟨xs,hq⟩,q⟩:=q1
 subst e
 obtain ⟨u,rfl,ru⟩:=vals1 r1
 cases ru
 obtain ⟨aK,rv,pl,hz⟩:=I1.list hq
 refine call_enumerate_list pl.isList fun h' he hit n5 hk=>?_
 have I2:Inv X pins σ H1 { s1 with heap:=h' }:=I1.kept (t':=s1.toks) hk
 refine wpAny_pyIter_enum he ?_
 refine ⟨s1.heap.objs.size+1,[s1.heap.objs.size+1,s1.heap.objs.size],_,_,H1,rfl,I2,Ah b _ _ (BN (JE _)),⟨⟨_,he⟩,hit⟩,fun c hc=>?_,q⟩
 rcases cL.mp hc with z | z
 · subst z; exact I1.qA (JI _) (I1.bD.fresh (JI _))
 · have z':c=s1.heap.objs.size:=by simpa using z
   subst z'; exact I1.qA (d8 _) I1.fresh
end
section
variable {X:Cx}
theorem qI (hc:X.calm=true):cw X (.builtin "sum") (fun xs H Q=>∃ (p:Addr) (ns:List Int),xs=[.ref p]∧eY X.K H p (ns.map V.int)∧Q (.int ns.sum) H):=by
 intro pins s σ H xs us Q I r h
 obtain ⟨p,ns,rfl,hq,q⟩:=h
 obtain ⟨u,rfl,rx⟩:=vals1 r
 cases rx
 obtain ⟨aK,rv,pl,hz⟩:=I.list hq
 have hI:IntsAre aK ns:=intsAre_of rv
 obtain ⟨xs,e⟩:=hI.allInts.items
 have hn:=hI.numsOf
 have hl:s.heap.IsList p (intItems xs):=by rw [← e]; exact pl.isList
 refine sum_intListG (I.ok.hd hc) hl fun h' tk t' hk=>?_
 have e2:preSum (numAt xs) xs.size=ns.sum:=by
  rw [preSum_eq,Nd (by simp),← nums_intItems,← e,List.toList_toArray,hn]
 rw [e2]
 exact ⟨.int ns.sum,H,I.kept hk,⟨_,rfl⟩,q⟩
end
end L2
namespace wC
open PySem Builtin Builtin.Str
def bw:Str:="abcdefghijklmnopqrstuvwxyz"
def xb (c:Nat):Bool:=!(occurrences bw ⟨#[c]⟩ 0 bw.length 1).isEmpty
theorem y8:xb 46=false:=by decide +kernel
theorem oI:(("." : String):Str)=⟨#[46]⟩:=by decide +kernel
def bF (x:Str):Bool:=decide (1≤(x.length:Int)) && (decide ((x.length:Int)≤8) && x.cps.toList.all xb)
def l6 (x:Str):Bool:=Txt.startswith x "." && bF (Txt.slice x (some 1) none)
theorem sR {x:Str} (h:bF x=true):x.cps.toList.all xb=true:=by
 unfold bF at h
 rw [iP,iP] at h
 exact h.2.2
theorem xg (x:Str):Txt.startswith (("." : String) ++ x) "." = true:=by
 obtain ⟨⟨l⟩⟩:=x
 rw [oI]
 unfold Txt.startswith subAt
 rw [iP]
 refine ⟨?_,?_⟩
 · apply decide_eq_true
   show 0+1≤(#[46] ++ ({ toList:=l }:Array Nat)).size
   simp
 · show (Array.extract (#[46] ++ ({ toList:=l }:Array Nat)) 0 (0+1) == #[46])=true
   rw [beq_iff_eq]
   apply Array.ext'
   simp
theorem rJ (x:Str):Txt.slice (("." : String) ++ x) (some 1) none=x:=by
 obtain ⟨⟨l⟩⟩:=x
 rw [oI]
 have hl:(Str.length (Str.mk #[46] ++ Str.mk { toList:=l }))=l.length+1:=by
  show (#[46] ++ ({ toList:=l }:Array Nat)).size=_
  simp
 have hi:strSliceIndices (some 1) none 1 (l.length+1)=(List.range l.length).map (fun k=>k+1):=by
  unfold strSliceIndices sliceRange
  simp only [show (1:Int) > 0 by decide,if_true]
  have e0:max 0 (min (if (1:Int) < 0 then 1+((l.length+1:Nat):Int) else 1) ((l.length+1:Nat):Int))=1:=by
   rw [if_neg (by decide)]; omega
  rw [e0]
  by_cases hn:l.length=0
  · rw [hn]; rfl
  · have e1:((1:Int) < ((l.length+1:Nat):Int)):=by omega
    rw [if_pos e1]
    have e2:((((l.length+1:Nat):Int) - 1+1 - 1) / 1).toNat=l.length:=by
     rw [Int.ediv_one]; omega
    rw [e2]
    apply List.map_congr_left
    intro k hk
    omega
 unfold Txt.slice
 rw [hl,hi]
 have n8:¬ (((1:Int) == 1 && (List.map (fun k=>k+1) (List.range l.length)).length == l.length+1)=true):=by
  rw [iP,cu,Fj]
  intro q
  have:=beq_iff_eq.mp q.2
  omega
 rw [if_neg n8]
 congr 1
 apply Array.ext'
 rw [List.toList_toArray]
 show List.filterMap (fun i=>(#[46] ++ ({ toList:=l }:Array Nat))[i]?) (List.map (fun k=>k+1) (List.range l.length))=l
 rw [List.filterMap_map]
 have e:∀ k,((fun i=>(#[46] ++ ({ toList:=l }:Array Nat))[i]?) ∘ fun k=>k+1) k=l[k]?:=fun k=>by
  show (#[46] ++ ({ toList:=l }:Array Nat))[k+1]?=l[k]?
  rw [← Array.getElem?_toList]
  simp
 rw [show ((fun i=>(#[46] ++ ({ toList:=l }:Array Nat))[i]?) ∘ fun k=>k+1)=fun k=>l[k]? from funext e]
 clear e n8 hi hl
 induction l with
 | nil=>rfl
 | cons a r ih =>
   rw [Fm,List.range_succ_eq_map,nP]
   simp only [Q2,List.filterMap_map]
   congr 1
theorem Ai {x:Str} (h:bF x=true):l6 (("." : String) ++ x)=true:=by
 unfold l6
 rw [xg,rJ,h]
 rfl
theorem F7 (x:Str):((("." : String):Str) ++ x).length=x.length+1:=by
 rw [oI]
 show (#[46] ++ x.cps).size=_
 simp [Str.length]
 omega
theorem uX (x:Str):bF (("." : String) ++ x)=false:=by
 unfold bF
 have h:((("." : String):Str) ++ x).cps.toList.all xb=false:=by
  rw [oI]
  show (#[46] ++ x.cps).toList.all xb=false
  simp [y8]
 rw [h,Im,Im]
end wC
namespace VT
open PySem PySem.Spec PyProof.Rows L2
abbrev St:=L2.St
inductive T where
 | br | bl (b:Bool) | int (i:Int) | str (x:Str) | tup (l:List T) | lst (l:List T) | dk (ks:List Key) (vs:List T) | dt (ks:List (List Key)) (vs:List T) | df (o:Obj) (ks:List (List Key)) (vs:List T) | dz (o:Obj) (ks:List Key) (vs:List T) | kt (k:List Key) | ins (C:Addr) (ns:List Str) (vs:List T) | pin (a:Addr) (t:T) | ob (a:Addr) | ty (n:String)
def qJ (K:PySem.W.Frag) (H:Hp) (O:List Addr) (a:Addr) (vs:List V):Prop :=
 (Rd H a (.lst vs)∧a∉O)∨∃ (o:Obj) (aK:Array Value) (n:Nat),K.lookup a=some o∧o.cls = .type "list"∧o.dict=none∧o.data = .seq aK n∧aK.size≤sizeLine∧Vals vs aK.toList
theorem qJ.sq {K:PySem.W.Frag} {H:Hp} {O:List Addr} {a:Addr} {vs:List V} (h:qJ K H O a vs):eY K H a vs:=by
 rcases h with h | h
 · exact .inl h.1
 · exact .inr h
def qK (H:Hp) (O:List Addr) (a:Addr) (u:HO):Prop:=H a=some u∧a∉O
mutual
def At (K:PySem.W.Frag) (H:Hp) (O:List Addr):T→V→Prop
 | .br,v=>v = .br
 | .bl b,v=>v = .bl b
 | .int i,v=>v = .int i
 | .str x,v=>v = .str x
 | .ob a,v=>v = .ref a
 | .ty n,v=>v = .ty n
 | .tup ts,v=>∃ a vs,v = .ref a∧d9 K H a vs∧aE K H O ts vs
 | .lst ts,v=>∃ a vs,v = .ref a∧qJ K H O a vs∧aE K H O ts vs
 | .dk ks ts,v=>∃ a vs,v = .ref a∧ks.length=vs.length∧qK H O a (.dK (ks.zip vs))∧aE K H O ts vs
 | .dt ks ts,v=>∃ a vs,v = .ref a∧ks.length=vs.length∧qK H O a (.dT (ks.zip vs))∧aE K H O ts vs
 | .df o ks ts,v=>∃ a vs,v = .ref a∧ks.length=vs.length∧qK H O a (.uD o (.dT (ks.zip vs)))∧aE K H O ts vs
 | .dz o ks ts,v=>∃ a vs,v = .ref a∧ks.length=vs.length∧qK H O a (.uD o (.dK (ks.zip vs)))∧aE K H O ts vs
 | .kt k,v=>∃ a,v = .ref a∧qK H O a (.tup (k.map kV))
 | .pin a t,v=>v = .ref a∧At K H O t v
 | .ins C ns ts,v=>∃ a dx vs,v = .ref a∧ns.length=vs.length∧qK H O a (.ins C dx (ns.zip vs))∧aE K H O ts vs
def aE (K:PySem.W.Frag) (H:Hp) (O:List Addr):List T→List V→Prop
 | [],vs=>vs=[]
 | t :: ts,vs=>∃ v r,vs=v :: r∧At K H O t v∧aE K H O ts r
end
section
variable {K:PySem.W.Frag} {H H':Hp} {O O':List Addr}
mutual
theorem At.map (hl:∀ a vs,qJ K H O a vs→qJ K H' O' a vs) (ht:∀ a vs,d9 K H a vs→d9 K H' a vs) (hd:∀ a u,qK H O a u→qK H' O' a u):∀ {t:T} {v:V},At K H O t v→At K H' O' t v
 | .br,_,h=>by simpa only [At] using h
 | .bl _,_,h=>by simpa only [At] using h
 | .int _,_,h=>by simpa only [At] using h
 | .str _,_,h=>by simpa only [At] using h
 | .ob _,_,h=>by simpa only [At] using h
 | .ty _,_,h=>by simpa only [At] using h
 | .tup ts,_,h=>by
   simp only [At] at h ⊢
   obtain ⟨a,vs,e,h1,h2⟩:=h
   exact ⟨a,vs,e,ht a vs h1,aE.map hl ht hd h2⟩
 | .lst ts,_,h=>by
   simp only [At] at h ⊢
   obtain ⟨a,vs,e,h1,h2⟩:=h
   exact ⟨a,vs,e,hl a vs h1,aE.map hl ht hd h2⟩
 | .dk ks ts,_,h=>by
   simp only [At] at h ⊢
   obtain ⟨a,vs,e,h0,h1,h2⟩:=h
   exact ⟨a,vs,e,h0,hd _ _ h1,aE.map hl ht hd h2⟩
 | .dt ks ts,_,h=>by
   simp only [At] at h ⊢
   obtain ⟨a,vs,e,h0,h1,h2⟩:=h
   exact ⟨a,vs,e,h0,hd _ _ h1,aE.map hl ht hd h2⟩
 | .df o ks ts,_,h=>by
   simp only [At] at h ⊢
   obtain ⟨a,vs,e,h0,h1,h2⟩:=h
   exact ⟨a,vs,e,h0,hd _ _ h1,aE.map hl ht hd h2⟩
 | .dz o ks ts,_,h=>by
   simp only [At] at h ⊢
   obtain ⟨a,vs,e,h0,h1,h2⟩:=h
   exact ⟨a,vs,e,h0,hd _ _ h1,aE.map hl ht hd h2⟩
 | .kt k,_,h=>by
   simp only [At] at h ⊢
   obtain ⟨a,e,h1⟩:=h
   exact ⟨a,e,hd _ _ h1⟩
 | .pin a t,_,h=>by
   simp only [At] at h ⊢
   exact ⟨h.1,At.map hl ht hd h.2⟩
 | .ins C ns ts,_,h=>by
   simp only [At] at h ⊢
   obtain ⟨a,dx,vs,e,h0,h1,h2⟩:=h
   exact ⟨a,dx,vs,e,h0,hd _ _ h1,aE.map hl ht hd h2⟩
theorem aE.map (hl:∀ a vs,qJ K H O a vs→qJ K H' O' a vs) (ht:∀ a vs,d9 K H a vs→d9 K H' a vs) (hd:∀ a u,qK H O a u→qK H' O' a u):∀ {ts:List T} {vs:List V},aE K H O ts vs→aE K H' O' ts vs
 | [],_,h=>by simpa only [aE] using h
 | t :: ts,_,h=>by
   simp only [aE] at h ⊢
   obtain ⟨v,r,e,h1,h2⟩:=h
   exact ⟨v,r,e,At.map hl ht hd h1,aE.map hl ht hd h2⟩
end
theorem Rd.same {a:Addr} {u:HO} (s:aJ H H') (h:Rd H a u):Rd H' a u:=by
 rcases h with h | ⟨o,h⟩
 · exact .inl (s _ _ h)
 · exact .inr ⟨o,s _ _ h⟩
theorem d9.same {a:Addr} {vs:List V} (s:aJ H H') (h:d9 K H a vs):d9 K H' a vs:=by
 rcases h with h | h
 · exact .inl (Rd.same s h)
 · exact .inr h
theorem qJ.same {a:Addr} {vs:List V} (s:aJ H H') (h:qJ K H O a vs):qJ K H' O a vs:=by
 rcases h with h | h
 · exact .inl ⟨Rd.same s h.1,h.2⟩
 · exact .inr h
theorem At.same {t:T} {v:V} (s:aJ H H') (h:At K H O t v):At K H' O t v:=At.map (fun _ _ q=>q.same s) (fun _ _ q=>d9.same s q) (fun _ _ q=>⟨s _ _ q.1,q.2⟩) h
theorem aE.same {t:List T} {v:List V} (s:aJ H H') (h:aE K H O t v):aE K H' O t v:=aE.map (fun _ _ q=>q.same s) (fun _ _ q=>d9.same s q) (fun _ _ q=>⟨s _ _ q.1,q.2⟩) h
theorem At.bt {t:T} {v:V} (s:∀ a∈O',a∈O) (h:At K H O t v):At K H O' t v :=
 At.map (fun a vs q=>q.elim (fun z=>.inl ⟨z.1,fun m=>z.2 (s a m)⟩) .inr) (fun _ _ q=>q) (fun a _ q=>⟨q.1,fun m=>q.2 (s a m)⟩) h
theorem aE.bt {t:List T} {v:List V} (s:∀ a∈O',a∈O) (h:aE K H O t v):aE K H O' t v :=
 aE.map (fun a vs q=>q.elim (fun z=>.inl ⟨z.1,fun m=>z.2 (s a m)⟩) .inr) (fun _ _ q=>q) (fun a _ q=>⟨q.1,fun m=>q.2 (s a m)⟩) h
theorem Rd.some {a:Addr} {u:HO} (h:Rd H a u):H a≠none:=by
 rcases h with h | ⟨o,h⟩ <;> rw [h] <;> simp
theorem At.more {t:T} {v:V} (s:∀ a∈O',a∈O∨H a=none) (h:At K H O t v):At K H O' t v :=
 At.map (fun a vs q=>q.elim (fun z=>.inl ⟨z.1,fun m=>(s a m).elim z.2 (Rd.some z.1)⟩) .inr) (fun _ _ q=>q) (fun a aZ q=>⟨q.1,fun m=>(s a m).elim q.2 (by rw [q.1]; simp)⟩) h
theorem aE.more {t:List T} {v:List V} (s:∀ a∈O',a∈O∨H a=none) (h:aE K H O t v):aE K H O' t v :=
 aE.map (fun a vs q=>q.elim (fun z=>.inl ⟨z.1,fun m=>(s a m).elim z.2 (Rd.some z.1)⟩) .inr) (fun _ _ q=>q) (fun a aZ q=>⟨q.1,fun m=>(s a m).elim q.2 (by rw [q.1]; simp)⟩) h
def uY:HO→Bool
 | .lst _=>true
 | .dK _=>true
 | .dT _=>true
 | .ins _ _ _=>true
 | _=>false
theorem At.wrote {t:T} {v:V} {a:Addr} {o u:HO} (ha:a∈O) (hu:H a=some u) (hm:uY u=true) (h:At K H O t v):At K (upd H a o) O t v:=by
 have ne:∀ b,b∉O→b≠a:=fun b hb e=>hb (by rw [e]; exact ha)
 refine At.map (fun b vs q=>?_) (fun b vs q=>?_) (fun b aZ q=>?_) h
 · rcases q with q | q
   · refine .inl ⟨?_,q.2⟩
     rcases q.1 with z | ⟨o',z⟩
     · exact .inl (by rw [aD (ne b q.2)]; exact z)
     · exact .inr ⟨o',by rw [aD (ne b q.2)]; exact z⟩
   · exact .inr q
 · rcases q with z | z
   · refine .inl ?_
     rcases z with z | ⟨o',z⟩
     · exact .inl (by rw [aD (Ip z hu (by intro e; subst e; cases hm))]; exact z)
     · exact .inr ⟨o',by rw [aD (Ip z hu (by intro e; subst e; cases hm))]; exact z⟩
   · exact .inr z
 · exact ⟨by rw [aD (ne b q.2)]; exact q.1,q.2⟩
theorem aE.iff {ts:List T}:∀ {vs:List V},aE K H O ts vs↔Paired (fun v t=>At K H O t v) vs ts:=by
 induction ts with
 | nil=>intro vs; simp only [aE]; exact ⟨fun e=>by subst e; exact .nil,fun h=>by cases h; rfl⟩
 | cons t ts ih =>
   intro vs
   simp only [aE]
   constructor
   · rintro ⟨v,r,rfl,h1,h2⟩
     exact .cons h1 (ih.mp h2)
   · intro h
     cases h with
     | cons h1 h2=>exact ⟨_,_,rfl,h1,ih.mpr h2⟩
theorem aE.wrote {t:List T} {v:List V} {a:Addr} {o u:HO} (ha:a∈O) (hu:H a=some u) (hm:uY u=true) (h:aE K H O t v):aE K (upd H a o) O t v :=
 aE.iff.mpr (Paired.nC (aE.iff.mp h) fun _ _ q=>q.wrote ha hu hm)
theorem aE.length {ts:List T} {vs:List V} (h:aE K H O ts vs):vs.length=ts.length:=Paired.length (aE.iff.mp h)
theorem aE.get {ts:List T} {vs:List V} (h:aE K H O ts vs) {i:Nat} {t:T} (e:ts[i]?=some t):∃ v,vs[i]?=some v∧At K H O t v:=by
 have q:=aE.iff.mp h
 clear h
 induction q generalizing i with
 | nil=>simp at e
 | cons r _ ih =>
   cases i with
   | zero=>simp at e; subst e; exact ⟨_,rfl,r⟩
   | succ i=>obtain ⟨v,h1,h2⟩:=ih (i:=i) (by simpa using e); exact ⟨v,by simpa using h1,h2⟩
theorem aE.cons {t:T} {ts:List T} {v:V} {vs:List V} (h:At K H O t v) (hs:aE K H O ts vs):aE K H O (t :: ts) (v :: vs):=by
 simp only [aE]; exact ⟨v,vs,rfl,h,hs⟩
theorem aE.nil:aE K H O [] []:=by simp only [aE]
theorem aE.append {ts us:List T} {vs ws:List V} (h:aE K H O ts vs) (h':aE K H O us ws):aE K H O (ts ++ us) (vs ++ ws):=by
 rw [aE.iff] at h h' ⊢
 induction h with
 | nil=>exact h'
 | cons r _ ih=>exact .cons r ih
theorem aE.drop {ts:List T} {vs:List V} (n:Nat) (h:aE K H O ts vs):aE K H O (ts.drop n) (vs.drop n):=by
 rw [aE.iff] at h ⊢
 induction h generalizing n with
 | nil=>cases n <;> exact .nil
 | cons r t ih=>cases n with
   | zero=>exact .cons r t
   | succ n=>exact ih n
theorem aE.take {ts:List T} {vs:List V} (n:Nat) (h:aE K H O ts vs):aE K H O (ts.take n) (vs.take n):=by
 rw [aE.iff] at h ⊢
 induction h generalizing n with
 | nil=>cases n <;> exact .nil
 | cons r t ih=>cases n with
   | zero=>exact .nil
   | succ n=>exact .cons r (ih n)
theorem aE.set {ts:List T} {vs:List V} {t:T} {v:V} (i:Nat) (h:aE K H O ts vs) (q:At K H O t v):aE K H O (ts.set i t) (vs.set i v):=by
 rw [aE.iff] at h ⊢
 induction h generalizing i with
 | nil=>exact .nil
 | cons r s ih=>cases i with
   | zero=>exact .cons q s
   | succ i=>exact .cons r (ih i)
end
mutual
def l7:T→Bool
 | .tup ts=>sS ts
 | .lst _=>false
 | .dk _ _=>false
 | .dt _ _=>false
 | .df _ _ _=>false
 | .dz _ _ _=>false
 | .kt _=>false
 | .ins _ _ _=>false
 | .pin _ _=>false
 | _=>true
def sS:List T→Bool
 | []=>true
 | t :: ts=>l7 t && sS ts
end
section
variable {K:PySem.W.Frag} {H H':Hp} {O O':List Addr}
mutual
theorem At.l7:∀ {t:T} {v:V},l7 t=true→At K H O t v→At K H O' t v
 | .br,_,_,h=>by simpa only [At] using h
 | .bl _,_,_,h=>by simpa only [At] using h
 | .int _,_,_,h=>by simpa only [At] using h
 | .str _,_,_,h=>by simpa only [At] using h
 | .ob _,_,_,h=>by simpa only [At] using h
 | .ty _,_,_,h=>by simpa only [At] using h
 | .tup ts,_,i,h=>by
   simp only [At] at h ⊢
   simp only [VT.l7] at i
   obtain ⟨a,vs,e,h1,h2⟩:=h
   exact ⟨a,vs,e,h1,aE.l7 i h2⟩
 | .lst ts,_,i,h=>by simp only [VT.l7] at i; cases i
 | .dk _ _,_,i,h=>by simp only [VT.l7] at i; cases i
 | .dt _ _,_,i,h=>by simp only [VT.l7] at i; cases i
 | .df _ _ _,_,i,h=>by simp only [VT.l7] at i; cases i
 | .dz _ _ _,_,i,h=>by simp only [VT.l7] at i; cases i
 | .kt _,_,i,h=>by simp only [VT.l7] at i; cases i
 | .ins _ _ _,_,i,h=>by simp only [VT.l7] at i; cases i
 | .pin _ _,_,i,h=>by simp only [VT.l7] at i; cases i
theorem aE.l7:∀ {ts:List T} {vs:List V},sS ts=true→aE K H O ts vs→aE K H O' ts vs
 | [],_,_,h=>by simpa only [aE] using h
 | t :: ts,_,i,h=>by
   simp only [VT.sS,iP] at i
   simp only [aE] at h ⊢
   obtain ⟨v,r,e,h1,h2⟩:=h
   exact ⟨v,r,e,At.l7 i.1 h1,aE.l7 i.2 h2⟩
end
end
abbrev En:=List (Option (T×Bool))
structure Zc where
 H0:Hp
 P:List (Nat×Addr)
 Ox:List Addr
def Zc.ex (Z:Zc) (a:Addr):Zc:={ Z with Ox:=a :: Z.Ox }
def cy (K:PySem.W.Frag) (H:Hp) (A:List Addr) (a:Addr):T→Prop
 | .lst ts=>∃ vs,H a=some (.lst vs)∧aE K H A ts vs
 | .dk ks ts=>∃ vs,ks.length=vs.length∧H a=some (.dK (ks.zip vs))∧aE K H A ts vs
 | .dt ks ts=>∃ vs,ks.length=vs.length∧H a=some (.dT (ks.zip vs))∧aE K H A ts vs
 | .ins C ns ts=>∃ dx vs,ns.length=vs.length∧H a=some (.ins C dx (ns.zip vs))∧aE K H A ts vs
 | _=>False
def oJ (K:PySem.W.Frag) (H:Hp) (A:List Addr):Option (T×Bool)→Option Addr→Option V→Prop
 | none,o,_=>o=none
 | some (t,false),o,s=>o=none∧∃ v,s=some v∧At K H A t v
 | some (t,true),o,s=>∃ a,o=some a∧s=some (.ref a)∧cy K H A a t
def roots (O:List (Option Addr)):List Addr:=O.filterMap id
def av (Z:Zc) (O:List (Option Addr)):List Addr:=roots O ++ Z.Ox
structure aw (K:PySem.W.Frag) (Z:Zc) (tm:List (T×V)) (O:List (Option Addr)) (ρ:En) (σ:St) (H:Hp):Prop where
 lσ:σ.length=ρ.length
 lO:O.length=ρ.length
 sl:∀ (i:Nat) e,ρ[i]?=some e→∃ o s,O[i]?=some o∧σ[i]?=some s∧oJ K H (av Z O) e o s
 nd:(roots O).Nodup
 own:∀ a∈roots O,(a∈Z.P.map (·.2)∨Z.H0 a=none)∧a∉Z.Ox∧∃ u,H a=some u∧uY u=true
 par:∀ p∈Z.P,O[p.1]?=some (some p.2)
 ox:∀ a∈Z.Ox,H a≠none
 keep:∀ b o,Z.H0 b=some o→b∉Z.P.map (·.2)→H b=some o
 n9:∀ p∈tm,At K H (av Z O) p.1 p.2
section
variable {K:PySem.W.Frag} {Z:Zc} {tm:List (T×V)} {O:List (Option Addr)} {ρ:En} {σ:St} {H H':Hp}
theorem cy.map {A A':List Addr} {a:Addr} {t:T} (h:cy K H A a t) (h1:H' a=H a) (h2:∀ ts vs,aE K H A ts vs→aE K H' A' ts vs):cy K H' A' a t:=by
 cases t with
 | lst ts=>obtain ⟨vs,e,q⟩:=h; exact ⟨vs,h1.trans e,h2 _ _ q⟩
 | dk ks ts=>obtain ⟨vs,l,e,q⟩:=h; exact ⟨vs,l,h1.trans e,h2 _ _ q⟩
 | dt ks ts=>obtain ⟨vs,l,e,q⟩:=h; exact ⟨vs,l,h1.trans e,h2 _ _ q⟩
 | ins C ns ts=>obtain ⟨dx,vs,l,e,q⟩:=h; exact ⟨dx,vs,l,h1.trans e,h2 _ _ q⟩
 | _=>exact h.elim
theorem cy.mut {A:List Addr} {a:Addr} {t:T} (h:cy K H A a t):∃ u,H a=some u∧uY u=true:=by
 cases t with
 | lst ts=>obtain ⟨vs,e,q⟩:=h; exact ⟨_,e,rfl⟩
 | dk ks ts=>obtain ⟨vs,l,e,q⟩:=h; exact ⟨_,e,rfl⟩
 | dt ks ts=>obtain ⟨vs,l,e,q⟩:=h; exact ⟨_,e,rfl⟩
 | ins C ns ts=>obtain ⟨dx,vs,l,e,q⟩:=h; exact ⟨_,e,rfl⟩
 | _=>exact h.elim
theorem cy.bt {A A':List Addr} {a:Addr} {t:T} (h:cy K H A a t) (s:∀ b∈A',b∈A):cy K H A' a t:=h.map rfl fun _ _ q=>q.bt s
theorem cy.same {A:List Addr} {a:Addr} {t:T} (h:cy K H A a t) (s:aJ H H'):cy K H' A a t:=by
 obtain ⟨u,e,_⟩:=h.mut
 exact h.map (by rw [e]; exact s _ _ e) fun _ _ q=>q.same s
theorem cy.at {A:List Addr} {a:Addr} {t:T} (h:cy K H A a t) (n:a∉A):At K H A t (.ref a):=by
 cases t with
 | lst ts=>obtain ⟨vs,e,q⟩:=h; simp only [At]; exact ⟨a,vs,rfl,.inl ⟨.inl e,n⟩,q⟩
 | dk ks ts=>obtain ⟨vs,l,e,q⟩:=h; simp only [At]; exact ⟨a,vs,rfl,l,⟨e,n⟩,q⟩
 | dt ks ts=>obtain ⟨vs,l,e,q⟩:=h; simp only [At]; exact ⟨a,vs,rfl,l,⟨e,n⟩,q⟩
 | ins C ns ts=>obtain ⟨dx,vs,l,e,q⟩:=h; simp only [At]; exact ⟨a,dx,vs,rfl,l,⟨e,n⟩,q⟩
 | _=>exact h.elim
theorem oJ.map {A A':List Addr} {e:Option (T×Bool)} {o:Option Addr} {s:Option V} (h:oJ K H A e o s) (h1:∀ t v,At K H A t v→At K H' A' t v) (h2:∀ a t,o=some a→cy K H A a t→cy K H' A' a t):oJ K H' A' e o s:=by
 match e,h with
 | none,h=>exact h
 | some (t,false),⟨e,v,es,q⟩=>exact ⟨e,v,es,h1 _ _ q⟩
 | some (t,true),⟨a,e,es,q⟩=>exact ⟨a,e,es,h2 _ _ e q⟩
theorem aN {a:Addr}:a∈roots O↔some a∈O:=by
 unfold roots
 rw [List.mem_filterMap]
 exact ⟨fun ⟨x,h,e⟩=>by rw [id] at e; rw [← e]; exact h,fun h=>⟨_,h,rfl⟩⟩
theorem aw.K0 (I:aw K Z tm O ρ σ H):∀ a∈av Z O,H a≠none:=fun a h=>by
 rcases iI.mp h with h | h
 · obtain ⟨_,_,u,e,_⟩:=I.own a h; rw [e]; simp
 · exact I.ox a h
theorem aw.same (I:aw K Z tm O ρ σ H) (s:aJ H H'):aw K Z tm O ρ σ H' :=
 ⟨I.lσ,I.lO,fun i e h=>let ⟨o,w,h1,h2,h3⟩:=I.sl i e h; ⟨o,w,h1,h2,h3.map (fun _ _ q=>q.same s) fun _ _ _ q=>q.same s⟩,I.nd,
   fun a h=>let ⟨h1,h2,u,e,m⟩:=I.own a h; ⟨h1,h2,u,s _ _ e,m⟩,I.par,fun a h=>by
    cases e:H a with
    | none=>exact absurd e (I.ox a h)
    | some u=>rw [s _ _ e]; simp,
   fun b o e n=>s _ _ (I.keep b o e n),fun p hp=>(I.n9 p hp).same s⟩
theorem cj (i:Nat):∀ a∈roots (O.set i none),a∈roots O:=fun a h=>by
 rw [aN] at h ⊢
 rcases NF h with z | z
 · exact z
 · cases z
theorem f_:∀ (O:List (Option Addr)) (i:Nat),(roots O).Nodup→(roots (O.set i none)).Nodup
 | [],i,h=>by simpa using h
 | o :: O,0,h=>by
   cases o with
   | none=>simpa [roots] using h
   | some a=>simp only [roots,Ra,nP,id] at h ⊢; exact (rm.mp h).2
 | o :: O,i+1,h=>by
   have key:=f_ O i
   cases o with
   | none=>simp only [roots,Ng,nP,id] at h ⊢; exact key h
   | some a =>
     simp only [roots,Ng,nP,id] at h ⊢
     rw [rm] at h ⊢
     exact ⟨fun z=>h.1 (cj i a z),key h.2⟩
theorem b8 (i:Nat):∀ a∈av Z (O.set i none),a∈av Z O:=fun a h=>by
 rcases iI.mp h with h | h
 · exact lM _ (cj i a h)
 · exact lL _ h
theorem get_set {α:Type} {l:List α} {i j:Nat} {x y:α} (h:(l.set i x)[j]?=some y):(j=i∧y=x∧i < l.length)∨(j≠i∧l[j]?=some y):=by
 rw [List.getElem?_set] at h
 by_cases e:i=j
 · rw [if_pos e] at h
   by_cases hl:i < l.length
   · rw [if_pos hl] at h
     exact .inl ⟨e.symm,(Option.some.inj h).symm,hl⟩
   · rw [if_neg hl] at h; cases h
 · rw [if_neg e] at h
   exact .inr ⟨fun z=>e z.symm,h⟩
theorem aw.put (I:aw K Z tm O ρ σ H) {i:Nat} {t:T} {v:V} (hp:∀ p∈Z.P,p.1≠i) (hv:At K H (av Z O) t v):aw K Z tm (O.set i none) (ρ.set i (some (t,false))) (σ.set i (some v)) H:=by
 have fw:∀ {t:T} {v:V},At K H (av Z O) t v→At K H (av Z (O.set i none)) t v:=fun q=>q.bt (b8 i)
 refine ⟨by simp [I.lσ],by simp [I.lO],fun j e h=>?_,f_ _ _ I.nd,fun a h=>I.own a (cj i a h),fun p q=>?_,I.ox,I.keep,fun p q=>fw (I.n9 p q)⟩
 · rcases get_set h with ⟨rfl,rfl,hl⟩ | ⟨ne,h⟩
   · exact ⟨none,some v,by rw [yI (by rw [I.lO]; exact hl)],by rw [yI (by rw [I.lσ]; exact hl)],rfl,v,rfl,fw hv⟩
   · obtain ⟨o,s,h1,h2,h3⟩:=I.sl j e h
     exact ⟨o,s,by rw [uI (Ne.symm ne)]; exact h1,by rw [uI (Ne.symm ne)]; exact h2,h3.map (fun _ _ q=>fw q) fun _ _ _ q=>q.bt (b8 i)⟩
 · rw [uI (Ne.symm (hp p q))]; exact I.par p q
theorem aw.forget (I:aw K Z tm O ρ σ H) {i:Nat} (hp:∀ p∈Z.P,p.1≠i):aw K Z tm (O.set i none) (ρ.set i none) σ H:=by
 have fw:∀ {t:T} {v:V},At K H (av Z O) t v→At K H (av Z (O.set i none)) t v:=fun q=>q.bt (b8 i)
 refine ⟨by simp [I.lσ],by simp [I.lO],fun j e h=>?_,f_ _ _ I.nd,fun a h=>I.own a (cj i a h),fun p q=>?_,I.ox,I.keep,fun p q=>fw (I.n9 p q)⟩
 · rcases get_set h with ⟨rfl,rfl,hl⟩ | ⟨ne,h⟩
   · obtain ⟨s,hs⟩:∃ s,σ[j]?=some s:=⟨σ[j]'(by rw [I.lσ]; exact hl),by simp⟩
     exact ⟨none,s,by rw [yI (by rw [I.lO]; exact hl)],hs,rfl⟩
   · obtain ⟨o,s,h1,h2,h3⟩:=I.sl j e h
     exact ⟨o,s,by rw [uI (Ne.symm ne)]; exact h1,h2,h3.map (fun _ _ q=>fw q) fun _ _ _ q=>q.bt (b8 i)⟩
 · rw [uI (Ne.symm (hp p q))]; exact I.par p q
theorem mY:∀ (O:List (Option Addr)) (i:Nat) (a:Addr),a∉roots O→(roots O).Nodup→(roots (O.set i (some a))).Nodup
 | [],i,a,_,h=>by simpa using h
 | o :: O,0,a,n,h=>by
   cases o with
   | none=>simp only [roots,Ra,nP,id] at n h ⊢; exact rm.mpr ⟨n,h⟩
   | some b =>
     simp only [roots,Ra,nP,id] at n h ⊢
     exact rm.mpr ⟨fun z=>n (jX _ z),(rm.mp h).2⟩
 | o :: O,i+1,a,n,h=>by
   have key:=mY O i a
   cases o with
   | none=>simp only [roots,Ng,nP,id] at n h ⊢; exact key n h
   | some b =>
     simp only [roots,Ng,nP,id] at n h ⊢
     rw [rm] at h ⊢
     refine ⟨fun z=>?_,key (fun z=>n (jX _ z)) h.2⟩
     have z':some b∈O.set i (some a):=aN.mp z
     rcases NF z' with q | q
     · exact h.1 (aN.mpr q)
     · exact n (by rw [Option.some.inj q]; exact iO)
theorem uZ {a:Addr} (i:Nat):∀ b∈av Z (O.set i (some a)),b∈av (Z.ex a) O:=fun b h=>by
 rcases iI.mp h with h | h
 · rcases NF (aN.mp h) with z | z
   · exact lM _ (aN.mpr z)
   · exact lL _ (by rw [Option.some.inj z]; exact iO)
 · exact lL _ (jX _ h)
theorem aw.Th {a:Addr} (I:aw K (Z.ex a) tm O ρ σ H) {i:Nat} {t:T} (hp:∀ p∈Z.P,p.1≠i) (hv:cy K H (av (Z.ex a) O) a t) (h0:Z.H0 a=none) (hx:a∉Z.Ox):aw K Z tm (O.set i (some a)) (ρ.set i (some (t,true))) (σ.set i (some (.ref a))) H:=by
 have sub:=uZ (Z:=Z) (O:=O) (a:=a) i
 have fw:∀ {t:T} {v:V},At K H (av (Z.ex a) O) t v→At K H (av Z (O.set i (some a))) t v:=fun q=>q.bt sub
 have na:a∉roots O:=fun z=>(I.own a z).2.1 iO
 refine ⟨by simp [I.lσ],by simp [I.lO],fun j e h=>?_,mY _ _ _ na I.nd,fun b h=>?_,fun p q=>?_,fun b h=>I.ox b (jX _ h),I.keep,fun p q=>fw (I.n9 p q)⟩
 · rcases get_set h with ⟨rfl,rfl,hl⟩ | ⟨ne,h⟩
   · exact ⟨some a,some (.ref a),by rw [yI (by rw [I.lO]; exact hl)],by rw [yI (by rw [I.lσ]; exact hl)],a,rfl,rfl,hv.bt sub⟩
   · obtain ⟨o,s,h1,h2,h3⟩:=I.sl j e h
     exact ⟨o,s,by rw [uI (Ne.symm ne)]; exact h1,by rw [uI (Ne.symm ne)]; exact h2,h3.map (fun _ _ q=>fw q) fun _ _ _ q=>q.bt sub⟩
 · rcases NF (aN.mp h) with z | z
   · obtain ⟨h1,h2,h3⟩:=I.own b (aN.mpr z)
     exact ⟨h1,fun q=>h2 (jX _ q),h3⟩
   · cases z
     exact ⟨.inr h0,hx,hv.mut⟩
 · rw [uI (Ne.symm (hp p q))]; exact I.par p q
theorem aw.uD (I:aw K Z tm O ρ σ H) {i:Nat} {t:T} (hp:∀ p∈Z.P,p.1≠i) (hi:ρ[i]?=some (some (t,true))):aw K Z tm (O.set i none) (ρ.set i (some (t,false))) σ H:=by
 have fw:∀ {t:T} {v:V},At K H (av Z O) t v→At K H (av Z (O.set i none)) t v:=fun q=>q.bt (b8 i)
 obtain ⟨o,s,h1,h2,a,rfl,rfl,hr⟩:=I.sl i _ hi
 have ha:a∈roots O:=aN.mpr (mW h1)
 have na:a∉roots (O.set i none):=fun z=>by
  obtain ⟨j,hj⟩:=NH.mp (aN.mp z)
  rcases get_set hj with ⟨_,q,_⟩ | ⟨ne,q⟩
  · cases q
  · -- two places of one root
    have key:∀ (O:List (Option Addr)) (i j:Nat),i < j→O[i]?=some (some a)→O[j]?=some (some a)→(roots O).Nodup→False:=by
     intro O
     induction O with
     | nil=>intro i j _ h; simp at h
     | cons o O ih =>
       intro i j F8 e1 e2 nd
       cases j with
       | zero=>omega
       | succ j =>
         have E6:O[j]?=some (some a):=by simpa using e2
         cases i with
         | zero =>
           have:o=some a:=by simpa using e1
           subst this
           simp only [roots,nP,id] at nd
           exact (rm.mp nd).1 (aN.mpr (mW E6))
         | succ i =>
           refine ih i j (by omega) (by simpa using e1) E6 ?_
           cases o with
           | none=>simpa [roots] using nd
           | some b=>simp only [roots,nP,id] at nd; exact (rm.mp nd).2
    rcases Nat.lt_or_gt_of_ne ne with l | l
    · exact key O j i l q h1 I.nd
    · exact key O i j l h1 q I.nd
 have Xl:a∉av Z (O.set i none):=fun z=>by
  rcases iI.mp z with z | z
  · exact na z
  · exact (I.own a ha).2.1 z
 refine ⟨by simp [I.lσ],by simp [I.lO],fun j e h=>?_,f_ _ _ I.nd,fun a h=>I.own a (cj i a h),fun p q=>?_,I.ox,I.keep,fun p q=>fw (I.n9 p q)⟩
 · rcases get_set h with ⟨rfl,rfl,hl⟩ | ⟨ne,h⟩
   · exact ⟨none,some (.ref a),by rw [yI (by rw [I.lO]; exact hl)],h2,rfl,.ref a,rfl,(hr.bt (b8 j)).at Xl⟩
   · obtain ⟨o,s,h1,h2,h3⟩:=I.sl j e h
     exact ⟨o,s,by rw [uI (Ne.symm ne)]; exact h1,h2,h3.map (fun _ _ q=>fw q) fun _ _ _ q=>q.bt (b8 i)⟩
 · rw [uI (Ne.symm (hp p q))]; exact I.par p q
theorem aw.wrote (I:aw K Z tm O ρ σ H) {i:Nat} {t t':T} {a:Addr} {u:HO} (hi:ρ[i]?=some (some (t,true))) (hO:O[i]?=some (some a)) (hr:cy K (upd H a u) (av Z O) a t'):aw K Z tm O (ρ.set i (some (t',true))) σ (upd H a u):=by
 have ha:a∈roots O:=aN.mpr (mW hO)
 have F9:a∈av Z O:=lM _ ha
 obtain ⟨hP,hx,u0,e0,m0⟩:=I.own a ha
 have inj:∀ j b,j≠i→O[j]?=some (some b)→b≠a:=by
  intro j b ne hj e
  subst e
  have key:∀ (O:List (Option Addr)) (i j:Nat),i < j→O[i]?=some (some b)→O[j]?=some (some b)→(roots O).Nodup→False:=by
   intro O
   induction O with
   | nil=>intro i j _ h; simp at h
   | cons o O ih =>
     intro i j F8 e1 e2 nd
     cases j with
     | zero=>omega
     | succ j =>
       have E6:O[j]?=some (some b):=by simpa using e2
       cases i with
       | zero =>
         have:o=some b:=by simpa using e1
         subst this
         simp only [roots,nP,id] at nd
         exact (rm.mp nd).1 (aN.mpr (mW E6))
       | succ i =>
         refine ih i j (by omega) (by simpa using e1) E6 ?_
         cases o with
         | none=>simpa [roots] using nd
         | some c=>simp only [roots,nP,id] at nd; exact (rm.mp nd).2
  rcases Nat.lt_or_gt_of_ne ne with l | l
  · exact key O j i l hj hO I.nd
  · exact key O i j l hO hj I.nd
 refine ⟨by simp [I.lσ],by simp [I.lO],fun j e h=>?_,I.nd,fun b h=>?_,I.par,fun b h=>?_,fun b o e n=>?_,fun p q=>(I.n9 p q).wrote F9 e0 m0⟩
 · rcases get_set h with ⟨rfl,rfl,hl⟩ | ⟨ne,h⟩
   · obtain ⟨o,s,h1,h2,a',h4,h5,h6⟩:=I.sl j _ hi
     rw [hO] at h1
     cases h1
     cases h4
     exact ⟨_,s,hO,h2,a,rfl,h5,hr⟩
   · obtain ⟨o,s,h1,h2,h3⟩:=I.sl j e h
     refine ⟨o,s,h1,h2,h3.map (fun _ _ q=>q.wrote F9 e0 m0) fun b t e q=>?_⟩
     subst e
     exact q.map (aD (inj j b ne h1)) fun _ _ z=>z.wrote F9 e0 m0
 · obtain ⟨h1,h2,v,e,m⟩:=I.own b h
   by_cases hb:b=a
   · subst hb; exact ⟨h1,h2,hr.mut⟩
   · exact ⟨h1,h2,v,by rw [aD hb]; exact e,m⟩
 · by_cases hb:b=a
   · subst hb; exact absurd h hx
   · rw [aD hb]; exact I.ox b h
 · by_cases hb:b=a
   · subst hb
     rcases hP with q | q
     · exact absurd q n
     · rw [q] at e; cases e
   · rw [aD hb]; exact I.keep b o e n
theorem aw.fresh (I:aw K Z tm O ρ σ H) {a:Addr} (h:H a=none):a∉av Z O∧a∉Z.Ox∧Z.H0 a=none:=by
 refine ⟨fun z=>I.K0 a z h,fun z=>I.ox a z h,?_⟩
 cases e:Z.H0 a with
 | none=>rfl
 | some o =>
   by_cases hp:a∈Z.P.map (·.2)
   · obtain ⟨p,Rv,rfl⟩:=wJ.mp hp
     obtain ⟨_,_,u,e',_⟩:=I.own p.2 (aN.mpr (mW (I.par p Rv)))
     rw [h] at e'; cases e'
   · rw [I.keep a o e hp] at h; cases h
theorem dq {a:Addr}:∀ b∈av (Z.ex a) O,b∈av Z O∨b=a:=fun b h=>by
 rcases iI.mp h with h | h
 · exact .inl (lM _ h)
 · rcases cL.mp h with h | h
   · exact .inr h
   · exact .inl (lL _ h)
theorem jC {a:Addr}:∀ b∈av Z O,b∈av (Z.ex a) O:=fun b h=>by
 rcases iI.mp h with h | h
 · exact lM _ h
 · exact lL _ (jX _ h)
theorem aw.new (I:aw K Z tm O ρ σ H) {a:Addr} {u:HO} (h:H a=none) (hu:uY u=true):aw K (Z.ex a) tm O ρ σ (upd H a u):=by
 have s:aJ H (upd H a u):=aS h
 have J:=I.same s
 obtain ⟨n1,n2,n3⟩:=I.fresh h
 have mr:∀ b∈av (Z.ex a) O,b∈av Z O∨H b=none:=fun b hb=>(dq b hb).imp id fun e=>by rw [e]; exact h
 have fw:∀ {t:T} {v:V},At K H (av Z O) t v→At K (upd H a u) (av (Z.ex a) O) t v:=fun q=>(q.more mr).same s
 refine ⟨J.lσ,J.lO,fun i e hi=>?_,J.nd,fun b hb=>?_,J.par,fun b hb=>?_,J.keep,fun p hp=>fw (I.n9 p hp)⟩
 · obtain ⟨o,w,h1,h2,h3⟩:=I.sl i e hi
   refine ⟨o,w,h1,h2,h3.map (fun _ _ q=>fw q) fun b t eo q=>?_⟩
   refine cy.same (q.map rfl fun _ _ z=>z.more mr) s
 · obtain ⟨q1,q2,q3⟩:=J.own b hb
   refine ⟨q1,fun z=>?_,q3⟩
   rcases cL.mp z with z | z
   · exact n1 (by rw [← z]; exact lM _ hb)
   · exact q2 z
 · rcases cL.mp hb with z | z
   · rw [z,aQ]; simp
   · exact J.ox b z
theorem aw.Ti {a:Addr} (I:aw K (Z.ex a) tm O ρ σ H):aw K Z tm O ρ σ H :=
 ⟨I.lσ,I.lO,fun i e h=>let ⟨o,w,h1,h2,h3⟩:=I.sl i e h; ⟨o,w,h1,h2,h3.map (fun _ _ q=>q.bt jC) fun _ _ _ q=>q.bt jC⟩,I.nd,
   fun b h=>let ⟨q1,q2,q3⟩:=I.own b h; ⟨q1,fun z=>q2 (jX _ z),q3⟩,I.par,fun b h=>I.ox b (jX _ h),I.keep,fun p hp=>(I.n9 p hp).bt jC⟩
end
inductive Rt where
 | vw (t:T)
 | fr (t:T)
def Rt.t:Rt→T
 | .vw t=>t
 | .fr t=>t
def gT (K:PySem.W.Frag) (H:Hp) (A:List Addr) (t:T) (v:V):Prop:=At K H A t v∨∃ a,v = .ref a∧cy K H A a t
def iX (K:PySem.W.Frag) (Z:Zc) (tm:List (T×V)) (O:List (Option Addr)) (ρ:En) (σ:St) (H:Hp):Rt→V→Prop
 | .vw t,v=>aw K Z tm O ρ σ H∧At K H (av Z O) t v
 | .fr t,v=>∃ a,v = .ref a∧aw K (Z.ex a) tm O ρ σ H∧cy K H (av (Z.ex a) O) a t∧Z.H0 a=none∧a∉Z.Ox
abbrev FE:=En→(T→Prop)→Prop
abbrev FP:=En→(Rt→Prop)→Prop
abbrev FX:=En→(En→Rt→Prop)→Prop
abbrev FB:=En→(Bool→Prop)→Prop
abbrev FA:=En→(List T→Prop)→Prop
section
variable {K:PySem.W.Frag} {Z:Zc} {tm:List (T×V)} {O:List (Option Addr)} {ρ:En} {σ:St} {H H':Hp} {A:List Addr}
theorem gT.same {t:T} {v:V} (s:aJ H H') (h:gT K H A t v):gT K H' A t v:=h.imp (fun q=>q.same s) fun ⟨a,e,q⟩=>⟨a,e,q.same s⟩
theorem gT.lst {ts:List T} {v:V} (h:gT K H A (.lst ts) v):∃ a vs,v = .ref a∧eY K H a vs∧aE K H A ts vs:=by
 rcases h with h | ⟨a,rfl,vs,e,q⟩
 · simp only [At] at h
   obtain ⟨a,vs,rfl,l,q⟩:=h
   exact ⟨a,vs,rfl,l.sq,q⟩
 · exact ⟨a,vs,rfl,eY.of e,q⟩
theorem gT.tup {ts:List T} {v:V} (h:gT K H A (.tup ts) v):∃ a vs,v = .ref a∧d9 K H a vs∧aE K H A ts vs:=by
 rcases h with h | ⟨a,rfl,q⟩
 · simpa only [At] using h
 · exact q.elim
theorem gT.dk {ks:List Key} {ts:List T} {v:V} (h:gT K H A (.dk ks ts) v):∃ a vs,v = .ref a∧ks.length=vs.length∧H a=some (.dK (ks.zip vs))∧aE K H A ts vs:=by
 rcases h with h | ⟨a,rfl,vs,l,e,q⟩
 · simp only [At] at h
   obtain ⟨a,vs,rfl,l,d,q⟩:=h
   exact ⟨a,vs,rfl,l,d.1,q⟩
 · exact ⟨a,vs,rfl,l,e,q⟩
theorem gT.dt {ks:List (List Key)} {ts:List T} {v:V} (h:gT K H A (.dt ks ts) v):∃ a vs,v = .ref a∧ks.length=vs.length∧H a=some (.dT (ks.zip vs))∧aE K H A ts vs:=by
 rcases h with h | ⟨a,rfl,vs,l,e,q⟩
 · simp only [At] at h
   obtain ⟨a,vs,rfl,l,d,q⟩:=h
   exact ⟨a,vs,rfl,l,d.1,q⟩
 · exact ⟨a,vs,rfl,l,e,q⟩
theorem gT.df {o:Obj} {ks:List (List Key)} {ts:List T} {v:V} (h:gT K H A (.df o ks ts) v):∃ a vs,v = .ref a∧ks.length=vs.length∧H a=some (.uD o (.dT (ks.zip vs)))∧aE K H A ts vs:=by
 rcases h with h | ⟨a,rfl,q⟩
 · simp only [At] at h
   obtain ⟨a,vs,rfl,l,d,q⟩:=h
   exact ⟨a,vs,rfl,l,d.1,q⟩
 · exact q.elim
theorem gT.dz {o:Obj} {ks:List Key} {ts:List T} {v:V} (h:gT K H A (.dz o ks ts) v):∃ a vs,v = .ref a∧ks.length=vs.length∧H a=some (.uD o (.dK (ks.zip vs)))∧aE K H A ts vs:=by
 rcases h with h | ⟨a,rfl,q⟩
 · simp only [At] at h
   obtain ⟨a,vs,rfl,l,d,q⟩:=h
   exact ⟨a,vs,rfl,l,d.1,q⟩
 · exact q.elim
theorem gT.kt {k:List Key} {v:V} (h:gT K H A (.kt k) v):∃ a,v = .ref a∧H a=some (.tup (k.map kV)):=by
 rcases h with h | ⟨a,rfl,q⟩
 · simp only [At] at h
   obtain ⟨a,rfl,d⟩:=h
   exact ⟨a,rfl,d.1⟩
 · exact q.elim
theorem gT.ins {C:Addr} {ns:List Str} {ts:List T} {v:V} (h:gT K H A (.ins C ns ts) v):∃ a dx vs,v = .ref a∧ns.length=vs.length∧H a=some (.ins C dx (ns.zip vs))∧aE K H A ts vs:=by
 rcases h with h | ⟨a,rfl,dx,vs,l,e,q⟩
 · simp only [At] at h
   obtain ⟨a,dx,vs,rfl,l,d,q⟩:=h
   exact ⟨a,dx,vs,rfl,l,d.1,q⟩
 · exact ⟨a,dx,vs,rfl,l,e,q⟩
theorem gT.int {i:Int} {v:V} (h:gT K H A (.int i) v):v = .int i:=h.elim (fun q=>by simpa only [At] using q) fun ⟨_,_,q⟩=>q.elim
theorem gT.str {i:Str} {v:V} (h:gT K H A (.str i) v):v = .str i:=h.elim (fun q=>by simpa only [At] using q) fun ⟨_,_,q⟩=>q.elim
theorem gT.bl {i:Bool} {v:V} (h:gT K H A (.bl i) v):v = .bl i:=h.elim (fun q=>by simpa only [At] using q) fun ⟨_,_,q⟩=>q.elim
theorem gT.br {v:V} (h:gT K H A .br v):v = .br:=h.elim (fun q=>by simpa only [At] using q) fun ⟨_,_,q⟩=>q.elim
theorem gT.ob {a:Addr} {v:V} (h:gT K H A (.ob a) v):v = .ref a:=h.elim (fun q=>by simpa only [At] using q) fun ⟨_,_,q⟩=>q.elim
theorem bq {i:Int}:At K H A (.int i) (.int i):=by simp only [At]
theorem cc {i:Str}:At K H A (.str i) (.str i):=by simp only [At]
theorem du {i:Bool}:At K H A (.bl i) (.bl i):=by simp only [At]
theorem l8:At K H A .br .br:=by simp only [At]
theorem bA {ts:List T} {a:Addr} {vs:List V} (h:d9 K H a vs) (q:aE K H A ts vs):At K H A (.tup ts) (.ref a):=by simp only [At]; exact ⟨a,vs,rfl,h,q⟩
theorem iX.env {r:Rt} {v:V} (h:iX K Z tm O ρ σ H r v):aw K Z tm O ρ σ H:=by
 cases r with
 | vw t=>exact h.1
 | fr t=>obtain ⟨a,_,I,_⟩:=h; exact I.Ti
theorem iX.at {r:Rt} {v:V} (h:iX K Z tm O ρ σ H r v):At K H (av Z O) r.t v:=by
 cases r with
 | vw t=>exact h.2
 | fr t =>
   obtain ⟨a,rfl,I,q,_,hx⟩:=h
   refine (q.bt jC).at fun z=>?_
   rcases iI.mp z with z | z
   · exact (I.own a z).2.1 iO
   · exact hx z
theorem aw.Cz (I:aw K Z tm O ρ σ H) {a:Addr} {ts:List T} {vs:List V} (h:H a=none) (q:aE K H (av Z O) ts vs):iX K Z tm O ρ σ (upd H a (.lst vs)) (.fr (.lst ts)) (.ref a):=by
 obtain ⟨n1,n2,n3⟩:=I.fresh h
 exact ⟨a,rfl,I.new h rfl,⟨vs,aQ,(q.more fun b hb=>(dq b hb).imp id fun e=>by rw [e]; exact h).same (aS h)⟩,n3,n2⟩
theorem aw.newD (I:aw K Z tm O ρ σ H) {a:Addr} {ks:List Key} {ts:List T} {vs:List V} (h:H a=none) (hl:ks.length=vs.length) (q:aE K H (av Z O) ts vs):iX K Z tm O ρ σ (upd H a (.dK (ks.zip vs))) (.fr (.dk ks ts)) (.ref a):=by
 obtain ⟨n1,n2,n3⟩:=I.fresh h
 exact ⟨a,rfl,I.new h rfl,⟨vs,hl,aQ,(q.more fun b hb=>(dq b hb).imp id fun e=>by rw [e]; exact h).same (aS h)⟩,n3,n2⟩
end
structure Bx (p:List (T×V)→Prop):Prop where
 h:∀ tm,p tm
section
variable (X:Cx) (Z:Zc)
def lR (tm:List (T×V)) (f:FE):TE:=fun σ H Q=>∃ ρ O q,aw X.K Z tm O ρ σ H∧f ρ q∧∀ t,q t→∀ v H',aJ H H'→gT X.K H' (av Z O) t v→Q v H'
def lE (tm:List (T×V)) (f:FE):TE:=fun σ H Q=>∃ ρ O q,aw X.K Z tm O ρ σ H∧f ρ q∧∀ t,q t→∀ v H',aJ H H'→At X.K H' (av Z O) t v→Q v H'
def lP (tm:List (T×V)) (f:FP):TE:=fun σ H Q=>∃ ρ O q,aw X.K Z tm O ρ σ H∧f ρ q∧∀ r,q r→∀ v H',aJ H H'→iX X.K Z tm O ρ σ H' r v→Q v H'
def lX (tm:List (T×V)) (f:FX):TE:=fun σ H Q=>∃ ρ O q,aw X.K Z tm O ρ σ H∧f ρ q∧∀ ρ' r,q ρ' r→∀ O' v H',iX X.K Z tm O' ρ' σ H' r v→Q v H'
def lB (tm:List (T×V)) (f:FB):TT:=fun σ H Q=>∃ ρ O q,aw X.K Z tm O ρ σ H∧f ρ q∧∀ b,q b→∀ H',aJ H H'→Q b H'
def lA (tm:List (T×V)) (f:FA):TA:=fun σ H Q=>∃ ρ O q,aw X.K Z tm O ρ σ H∧f ρ q∧∀ ts,q ts→∀ vs H',aJ H H'→aE X.K H' (av Z O) ts vs→Q vs H'
def Wc (tm:List (T×V)) (f:FA):TA:=fun σ H Q=>∃ ρ O q,aw X.K Z tm O ρ σ H∧f ρ q∧∀ ts,q ts→∀ vs H',aJ H H'→Paired (fun v t=>gT X.K H' (av Z O) t v) vs ts→Q vs H'
def VR (e:Expr) (f:FE):Prop:=Bx fun tm=>PE X e (lR X Z tm f)
instance {e:Expr} {f:FE}:CoeFun (VR X Z e f) fun _=>∀ tm,PE X e (lR X Z tm f):=⟨fun h=>Bx.h h⟩
def VE (e:Expr) (f:FE):Prop:=Bx fun tm=>PE X e (lE X Z tm f)
instance {e:Expr} {f:FE}:CoeFun (VE X Z e f) fun _=>∀ tm,PE X e (lE X Z tm f):=⟨fun h=>Bx.h h⟩
def VP (e:Expr) (f:FP):Prop:=Bx fun tm=>PE X e (lP X Z tm f)
instance {e:Expr} {f:FP}:CoeFun (VP X Z e f) fun _=>∀ tm,PE X e (lP X Z tm f):=⟨fun h=>Bx.h h⟩
def VX (e:Expr) (f:FX):Prop:=Bx fun tm=>PE X e (lX X Z tm f)
instance {e:Expr} {f:FX}:CoeFun (VX X Z e f) fun _=>∀ tm,PE X e (lX X Z tm f):=⟨fun h=>Bx.h h⟩
def VC (e:Expr) (f:FB):Prop:=Bx fun tm=>PT X e (lB X Z tm f)
instance {e:Expr} {f:FB}:CoeFun (VC X Z e f) fun _=>∀ tm,PT X e (lB X Z tm f):=⟨fun h=>Bx.h h⟩
def VW (e:Expr) (f:FB):Prop:=Bx fun tm=>PW X e (lB X Z tm f)
instance {e:Expr} {f:FB}:CoeFun (VW X Z e f) fun _=>∀ tm,PW X e (lB X Z tm f):=⟨fun h=>Bx.h h⟩
def VA (es:List Expr) (f:FA):Prop:=Bx fun tm=>PA X es (lA X Z tm f)
instance {es:List Expr} {f:FA}:CoeFun (VA X Z es f) fun _=>∀ tm,PA X es (lA X Z tm f):=⟨fun h=>Bx.h h⟩
def E8 (es:List Expr) (f:FA):Prop:=Bx fun tm=>PA X es (Wc X Z tm f)
instance {es:List Expr} {f:FA}:CoeFun (E8 X Z es f) fun _=>∀ tm,PA X es (Wc X Z tm f):=⟨fun h=>Bx.h h⟩
end
theorem PE.weak {X:Cx} {e:Expr} {t t':TE} (h:PE X e t) (hw:∀ σ H Q,t' σ H Q→t σ H Q):PE X e t':=fun pins s σ H Q I q=>h pins s σ H Q I (hw _ _ _ q)
theorem PT.weak {X:Cx} {e:Expr} {t t':TT} (h:PT X e t) (hw:∀ σ H Q,t' σ H Q→t σ H Q):PT X e t':=fun pins s σ H Q I q=>h pins s σ H Q I (hw _ _ _ q)
theorem PW.weak {X:Cx} {e:Expr} {t t':TT} (h:PW X e t) (hw:∀ σ H Q,t' σ H Q→t σ H Q):PW X e t':=fun wh pins s σ H Q I q=>h wh pins s σ H Q I (hw _ _ _ q)
theorem PA.weak {X:Cx} {e:List Expr} {t t':TA} (h:PA X e t) (hw:∀ σ H Q,t' σ H Q→t σ H Q):PA X e t':=fun pos pins s σ H Q I q=>h pos pins s σ H Q I (hw _ _ _ q)
theorem PS.weak {X:Cx} {b:Stmt} {t t':TS} (h:PS X b t) (hw:∀ D σ H,t' D σ H→t D σ H):PS X b t':=fun pins s σ H D I q=>h pins s σ H D I (hw D σ H q)
theorem nE.u3 {X:Cx} {b:List Stmt} {t t':TS} (h:nE X b t) (hw:∀ D σ H,t' D σ H→t D σ H):nE X b t':=fun pins s σ H D I q=>h pins s σ H D I (hw D σ H q)
section
variable {X:Cx} {Z:Zc} {e a b:Expr} {es:List Expr} {pos:Pos}
theorem VE.vr {f:FE} (h:VE X Z e f):VR X Z e f:=.mk fun tm=>PE.weak (h tm) fun σ H Q ⟨ρ,O,q,I,hf,k⟩=>⟨ρ,O,q,I,hf,fun t ht v H' s z=>k t ht v H' s (.inl z)⟩
def fT (f:FP):FE:=fun ρ Q=>f ρ fun r=>Q r.t
def fX (f:FP):FX:=fun ρ Q=>f ρ fun r=>Q ρ r
theorem VP.ve {f:FP} (h:VP X Z e f):VE X Z e (fT f):=.mk fun tm=>PE.weak (h tm) fun σ H Q ⟨ρ,O,q,I,hf,k⟩=>⟨ρ,O,fun r=>q r.t,I,hf,fun r hr v H' s z=>k r.t hr v H' s z.at⟩
theorem VP.vr {f:FP} (h:VP X Z e f):VR X Z e (fT f):=h.ve.vr
theorem VP.vx {f:FP} (h:VP X Z e f):VX X Z e (fX f):=.mk fun tm=>PE.weak (h tm) fun σ H Q ⟨ρ,O,q,I,hf,k⟩=>⟨ρ,O,fun r=>q ρ r,I,hf,fun r hr v H' s z=>k ρ r hr O v H' z⟩
def OP (i:Nat):FE:=fun ρ Q=>match ρ[i]? with
 | some (some (t,false))=>Q t
 | _=>False
def IA (i:Nat):FE:=fun ρ Q=>match ρ[i]? with
 | some (some (t,_))=>Q t
 | _=>False
theorem ak (i:Nat) {x:Str} (hN:X.N[i]?=some x:=by rfl) (hv:sI X.env.scope x:=by first | exact Or.inl rfl | exact Or.inr (Or.inl rfl) | exact Or.inr (Or.inr rfl)) (hd:gh x:=by decide)
  (iL:uH x:=by decide):VE X Z (.Name x pos) (OP i):=.mk fun tm=>PE.weak (di hN hv hd iL) fun σ H Q ⟨ρ,O,q,I,hf,k⟩=>by
 unfold OP at hf
 split at hf
 · rename_i t e
   obtain ⟨o,s,h1,h2,rfl,v,rfl,h3⟩:=I.sl i _ e
   exact ⟨v,h2,k t hf v H (aJ.refl H) h3⟩
 · exact hf.elim
theorem ae (i:Nat) {x:Str} (hN:X.N[i]?=some x:=by rfl) (hv:sI X.env.scope x:=by first | exact Or.inl rfl | exact Or.inr (Or.inl rfl) | exact Or.inr (Or.inr rfl)) (hd:gh x:=by decide)
  (iL:uH x:=by decide):VR X Z (.Name x pos) (IA i):=.mk fun tm=>PE.weak (di hN hv hd iL) fun σ H Q ⟨ρ,O,q,I,hf,k⟩=>by
 unfold IA at hf
 split at hf
 · rename_i t b e
   obtain ⟨o,s,h1,h2,h3⟩:=I.sl i _ e
   cases b with
   | false=>obtain ⟨rfl,v,rfl,h3⟩:=h3; exact ⟨v,h2,k t hf v H (aJ.refl H) (.inl h3)⟩
   | true=>obtain ⟨a,rfl,rfl,h3⟩:=h3; exact ⟨_,h2,k t hf _ H (aJ.refl H) (.inr ⟨a,rfl,h3⟩)⟩
 · exact hf.elim
def fC (t:T):FP:=fun _ Q=>Q (.vw t)
theorem CA {t:T} {v:V} (h:PE X e (tC v)) (ht:∀ H A,At X.K H A t v):VP X Z e (fC t):=.mk fun tm=>PE.weak h fun σ H Q ⟨ρ,O,q,I,hf,k⟩=>k _ hf v H (aJ.refl H) ⟨I,ht _ _⟩
theorem ag {i j pos}:VP X Z (.Constant (.int i) j pos) (fC (.int i)):=CA JR fun _ _=>bq
theorem j4 {i j pos}:VP X Z (.Constant (.bool i) j pos) (fC (.bl i)):=CA NX fun _ _=>du
theorem aq {i j pos}:VP X Z (.Constant (.str i) j pos) (fC (.str i)):=CA JT fun _ _=>cc
theorem iY {j pos}:VP X Z (.Constant .none j pos) (fC .br):=CA JS fun _ _=>l8
theorem eO {x:Str} {t:T} {v:V} {u:Value} (hg:Gl X x) (hm:X.mg x=some u) (r:RelV v u) (ht:∀ H A,At X.K H A t v) (hd:gh x:=by decide):VP X Z (.Name x pos) (fC t):=CA (nX hg hm r hd) ht
def qy (K:PySem.W.Frag) (r:R2) (p:T→T→(Rt→Prop)→Prop):Prop :=
 ∀ (Z:Zc) (tm:List (T×V)) (O:List (Option Addr)) (ρ:En) (σ:St) (H:Hp) (x y:T) (v w:V) (q:Rt→Prop) (Q:VK),aw K Z tm O ρ σ H→gT K H (av Z O) x v→gT K H (av Z O) y w→p x y q →
  (∀ t,q t→∀ u H',aJ H H'→iX K Z tm O ρ σ H' t u→Q u H')→r v w H Q
def f2 (fa fb:FE) (p:T→T→(Rt→Prop)→Prop):FP:=fun ρ Q=>fa ρ fun x=>fb ρ fun y=>p x y Q
theorem two {r:R2} {fa fb:FE} {p:T→T→(Rt→Prop)→Prop} (ho:qy X.K r p) {tm:List (T×V)}:∀ σ H Q,lP X Z tm (f2 fa fb p) σ H Q→N_ r (lR X Z tm fa) (lR X Z tm fb) σ H Q:=fun σ H Q ⟨ρ,O,q,I,hf,k⟩ =>
 ⟨ρ,O,fun x=>fb ρ fun y=>p x y q,I,hf,fun x hx v H1 s1 a1=>⟨ρ,O,fun y=>p x y q,I.same s1,hx,fun y hy w H2 s2 a2 =>
   ho Z tm O ρ σ H2 x y v w q Q ((I.same s1).same s2) (a1.same s2) a2 hy fun t ht u H' s a=>k t ht u H' ((s1.trans s2).trans s) a⟩⟩
theorem l9 {op:Operator} {r:R2} {fa fb:FE} {p:T→T→(Rt→Prop)→Prop} (h:fq X (binaryOp op) r) (ho:qy X.K r p) (ha:VR X Z a fa) (hb:VR X Z b fb):VP X Z (.BinOp a op b pos) (f2 fa fb p) :=
 .mk fun tm=>PE.weak (N' h (ha tm) (hb tm)) (two ho)
theorem oM {op:CmpOp} {r:R2} {fa fb:FE} {p:T→T→(Rt→Prop)→Prop} (h:fq X (compareOp op) r) (ho:qy X.K r p) (ha:VR X Z a fa) (hb:VR X Z b fb) (hm:behindInMarks op b=false):VP X Z (.Compare a [op] [b] pos) (f2 fa fb p) :=
 .mk fun tm=>PE.weak (FH h (ha tm) (hb tm) hm) (two ho)
def sT (f:FP):FB:=fun ρ Q=>f ρ fun r=>match r with
 | .vw (.bl c)=>Q c
 | _=>False
theorem xi {r:Rt} {Q:Bool→Prop} (h:match r with | .vw (.bl c)=>Q c | _=>False):∃ c,r = .vw (.bl c)∧Q c:=by
 split at h
 · exact ⟨_,rfl,h⟩
 · exact h.elim
theorem l_ {op:CmpOp} {r:R2} {fa fb:FE} {p:T→T→(Rt→Prop)→Prop} (h:fq X (compareOp op) r) (ho:qy X.K r p) (ha:VR X Z a fa) (hb:VR X Z b fb) (hm:behindInMarks op b=false):VC X Z (.Compare a [op] [b] pos) (sT (f2 fa fb p)) :=
 .mk fun tm=>PT.weak (FJ h (ha tm) (hb tm) hm) fun σ H Q ⟨ρ,O,q,I,hf,k⟩=>two ho σ H _ ⟨ρ,O,_,I,hf,fun t ht u H' s a=>by
  obtain ⟨c,rfl,hc⟩:=xi ht
  have e:=a.2
  simp only [At] at e
  exact ⟨c,e,k c hc H' s⟩⟩
theorem dj {f:FP} (h:VP X Z e f) (he:∀ whole,isTrue e X.env whole=(do let v ← whole; standAt e.pos; holding [v] (truthy v)):=by intro _; rfl):VC X Z e (sT f) :=
 .mk fun tm=>PT.weak (JU (h tm) he) fun σ H Q ⟨ρ,O,q,I,hf,k⟩=>⟨ρ,O,_,I,hf,fun t ht u H' s a=>by
  obtain ⟨c,rfl,hc⟩:=xi ht
  have e:=a.2
  simp only [At] at e
  exact ⟨c,e,k c hc H' s⟩⟩
def Tj (f g:FB):FB:=fun ρ Q=>f ρ fun c=>if c=true then g ρ Q else Q false
def Xm (f g:FB):FB:=fun ρ Q=>f ρ fun c=>if c=true then Q true else g ρ Q
def Tn (f:FB):FB:=fun ρ Q=>f ρ fun c=>Q (!c)
theorem VW.vc {f:FB} (h:VW X Z e f):VC X Z e f:=.mk fun tm=>PW.pt (h tm)
theorem dc {f:FB} (h:VC X Z a f):VW X Z (.BoolOp .And [a] pos) f:=.mk fun tm=>pw_and1 (h tm)
theorem gk {f:FB} (h:VC X Z a f):VW X Z (.BoolOp .Or [a] pos) f:=.mk fun tm=>pw_or1 (h tm)
theorem ei {rest:List Expr} {f g:FB} (h:VC X Z a f) (h':VW X Z (.BoolOp .And (b :: rest) pos) g):VW X Z (.BoolOp .And (a :: b :: rest) pos) (Tj f g) :=
 .mk fun tm=>PW.weak (pw_and (h tm) (h' tm)) fun σ H Q ⟨ρ,O,q,I,hf,k⟩=>⟨ρ,O,_,I,hf,fun c hc H1 s1=>by
  cases c with
  | true=>rw [if_pos rfl] at hc ⊢; exact ⟨ρ,O,q,I.same s1,hc,fun b hb H' s=>k b hb H' (s1.trans s)⟩
  | false=>rw [if_neg nS] at hc ⊢; exact k false hc H1 s1⟩
theorem iZ {rest:List Expr} {f g:FB} (h:VC X Z a f) (h':VW X Z (.BoolOp .Or (b :: rest) pos) g):VW X Z (.BoolOp .Or (a :: b :: rest) pos) (Xm f g) :=
 .mk fun tm=>PW.weak (pw_or (h tm) (h' tm)) fun σ H Q ⟨ρ,O,q,I,hf,k⟩=>⟨ρ,O,_,I,hf,fun c hc H1 s1=>by
  cases c with
  | true=>rw [if_pos rfl] at hc ⊢; exact k true hc H1 s1
  | false=>rw [if_neg nS] at hc ⊢; exact ⟨ρ,O,q,I.same s1,hc,fun b hb H' s=>k b hb H' (s1.trans s)⟩⟩
theorem dm {f:FB} (h:VC X Z a f):VC X Z (.UnaryOp .Not a pos) (Tn f) :=
 .mk fun tm=>PT.weak (JV (h tm)) fun σ H Q ⟨ρ,O,q,I,hf,k⟩=>⟨ρ,O,_,I,hf,fun c hc H1 s1=>k _ hc H1 s1⟩
def OQ (f g:FP):FP:=fun ρ Q=>f ρ fun r=>match r with
 | .vw (.bl true)=>g ρ Q
 | .vw (.bl false)=>Q (.vw (.bl false))
 | _=>False
def To (f g:FP):FP:=fun ρ Q=>f ρ fun r=>match r with
 | .vw (.bl true)=>Q (.vw (.bl true))
 | .vw (.bl false)=>g ρ Q
 | _=>False
def OR (f:FP):FP:=fun ρ Q=>f ρ fun r=>match r with
 | .vw (.bl c)=>Q (.vw (.bl (!c)))
 | _=>False
theorem sU {op} {f:FP} (h:VP X Z a f):VP X Z (.BoolOp op [a] pos) f:=.mk fun tm=>JW (h tm)
theorem sV {rest:List Expr} {f g:FP} (h:VP X Z a f) (h':VP X Z (.BoolOp .And (b :: rest) pos) g):VP X Z (.BoolOp .And (a :: b :: rest) pos) (OQ f g) :=
 .mk fun tm=>PE.weak (JX (h tm) (h' tm)) fun σ H Q ⟨ρ,O,q,I,hf,k⟩=>⟨ρ,O,_,I,hf,fun r hr v H1 s1 z=>by
  split at hr
  · have e:=z.2; simp only [At] at e
    exact ⟨true,e,by rw [if_pos rfl]; exact ⟨ρ,O,q,I.same s1,hr,fun b hb v H' s=>k b hb v H' (s1.trans s)⟩⟩
  · have e:=z.2; simp only [At] at e
    exact ⟨false,e,by rw [if_neg nS]; exact k _ hr _ H1 s1 ⟨I.same s1,du⟩⟩
  · exact hr.elim⟩
theorem IB {rest:List Expr} {f g:FP} (h:VP X Z a f) (h':VP X Z (.BoolOp .Or (b :: rest) pos) g):VP X Z (.BoolOp .Or (a :: b :: rest) pos) (To f g) :=
 .mk fun tm=>PE.weak (N1 (h tm) (h' tm)) fun σ H Q ⟨ρ,O,q,I,hf,k⟩=>⟨ρ,O,_,I,hf,fun r hr v H1 s1 z=>by
  split at hr
  · have e:=z.2; simp only [At] at e
    exact ⟨true,e,by rw [if_pos rfl]; exact k _ hr _ H1 s1 ⟨I.same s1,du⟩⟩
  · have e:=z.2; simp only [At] at e
    exact ⟨false,e,by rw [if_neg nS]; exact ⟨ρ,O,q,I.same s1,hr,fun b hb v H' s=>k b hb v H' (s1.trans s)⟩⟩
  · exact hr.elim⟩
theorem K1 {f:FP} (h:VP X Z a f):VP X Z (.UnaryOp .Not a pos) (OR f) :=
 .mk fun tm=>PE.weak (JY (h tm)) fun σ H Q ⟨ρ,O,q,I,hf,k⟩=>⟨ρ,O,_,I,hf,fun r hr v H1 s1 z=>by
  split at hr
  · have e:=z.2; simp only [At] at e
    exact ⟨_,e,k _ hr _ H1 s1 ⟨I.same s1,du⟩⟩
  · exact hr.elim⟩
def CB:FA:=fun _ Q=>Q []
def u4 (f:FE) (g:FA):FA:=fun ρ Q=>f ρ fun t=>g ρ fun ts=>Q (t :: ts)
theorem ai:VA X Z [] CB:=.mk fun tm=>PA.weak cx fun σ H Q ⟨ρ,O,q,I,hf,k⟩=>k _ hf [] H (aJ.refl H) aE.nil
theorem aa {f:FE} {g:FA} (h:VE X Z e f) (h':VA X Z es g) (hs:starEach (e :: es) X.env=(false,eval e X.env) :: starEach es X.env:=by rfl):VA X Z (e :: es) (u4 f g) :=
 .mk fun tm=>PA.weak (bh (h tm) (h' tm) hs) fun σ H Q ⟨ρ,O,q,I,hf,k⟩=>⟨ρ,O,_,I,hf,fun t ht v H1 s1 a1=>⟨ρ,O,_,I.same s1,ht,fun ts gU vs H2 s2 a2=>k _ gU _ H2 (s1.trans s2) (aE.cons (a1.same s2) a2)⟩⟩
theorem au:E8 X Z [] CB:=.mk fun tm=>PA.weak cx fun σ H Q ⟨ρ,O,q,I,hf,k⟩=>k _ hf [] H (aJ.refl H) .nil
theorem ao {f:FE} {g:FA} (h:VR X Z e f) (h':E8 X Z es g) (hs:starEach (e :: es) X.env=(false,eval e X.env) :: starEach es X.env:=by rfl):E8 X Z (e :: es) (u4 f g) :=
 .mk fun tm=>PA.weak (bh (h tm) (h' tm) hs) fun σ H Q ⟨ρ,O,q,I,hf,k⟩=>⟨ρ,O,_,I,hf,fun t ht v H1 s1 a1=>⟨ρ,O,_,I.same s1,ht,fun ts gU vs H2 s2 a2=>k _ gU _ H2 (s1.trans s2) (.cons (a1.same s2) a2)⟩⟩
def Tp (g:FA):FP:=fun ρ Q=>g ρ fun ts=>ts.length≤sizeLine∧Q (.vw (.tup ts))
def Tq (g:FA):FP:=fun ρ Q=>g ρ fun ts=>ts.length≤sizeLine∧Q (.fr (.lst ts))
theorem aI {g:FA} {x1} (h:VA X Z es g):VP X Z (.Tuple es x1 pos) (Tp g) :=
 .mk fun tm=>PE.weak (Ku (h tm)) fun σ H Q ⟨ρ,O,q,I,hf,k⟩=>⟨ρ,O,_,I,hf,fun ts gU vs H1 s1 a1=>⟨by rw [a1.length]; exact gU.1,fun p hp=>k _ gU.2 _ _ (s1.trans (aS hp)) ⟨(I.same s1).same (aS hp),bA (d9.of aQ) (a1.same (aS hp))⟩⟩⟩
theorem bW {g:FA} (h:VA X Z es g):VP X Z (.List es pos) (Tq g) :=
 .mk fun tm=>PE.weak (Kv (h tm)) fun σ H Q ⟨ρ,O,q,I,hf,k⟩=>⟨ρ,O,_,I,hf,fun ts gU vs H1 s1 a1=>⟨by rw [a1.length]; exact gU.1,fun p hp=>k _ gU.2 _ _ (s1.trans (aS hp)) ((I.same s1).Cz hp a1)⟩⟩
end
mutual
def eqT:T→T→Bool
 | .br,.br=>true
 | .bl a,.bl b=>a == b
 | .bl a,.int b=>(if a then 1 else 0) == b
 | .int a,.bl b=>a == (if b then 1 else 0)
 | .int a,.int b=>a == b
 | .str a,.str b=>a == b
 | .tup a,.tup b=>fD a b
 | .lst a,.lst b=>fD a b
 | _,_=>false
def fD:List T→List T→Bool
 | [],[]=>true
 | a :: as,b :: bs=>eqT a b && fD as bs
 | _,_=>false
end
mutual
def plainT:T→Bool
 | .tup l=>bG l
 | .lst l=>bG l
 | .dk _ _=>false
 | .dt _ _=>false
 | .df _ _ _=>false
 | .dz _ _ _=>false
 | .kt _=>false
 | .ins _ _ _=>false
 | .pin _ _=>false
 | .ob _=>false
 | .ty _=>false
 | _=>true
def bG:List T→Bool
 | []=>true
 | t :: ts=>plainT t && bG ts
end
mutual
def dep:T→Nat
 | .tup l=>i0 l+1
 | .lst l=>i0 l+1
 | _=>0
def i0:List T→Nat
 | []=>0
 | t :: ts=>max (dep t) (i0 ts)
end
mutual
theorem fE:∀ (t:T),plainT t=true→eqT t t=true
 | .br,_=>by simp [eqT]
 | .bl _,_=>by simp [eqT]
 | .int _,_=>by simp [eqT]
 | .str _,_=>by simp [eqT]
 | .tup l,h=>by simp only [plainT] at h; simp only [eqT]; exact ma l h
 | .lst l,h=>by simp only [plainT] at h; simp only [eqT]; exact ma l h
 | .dk _ _,h=>by simp only [plainT] at h; cases h
 | .dt _ _,h=>by simp only [plainT] at h; cases h
 | .df _ _ _,h=>by simp only [plainT] at h; cases h
 | .dz _ _ _,h=>by simp only [plainT] at h; cases h
 | .kt _,h=>by simp only [plainT] at h; cases h
 | .ins _ _ _,h=>by simp only [plainT] at h; cases h
 | .pin _ _,h=>by simp only [plainT] at h; cases h
 | .ob _,h=>by simp only [plainT] at h; cases h
 | .ty _,h=>by simp only [plainT] at h; cases h
theorem ma:∀ (t:List T),bG t=true→fD t t=true
 | [],_=>by simp [fD]
 | t :: ts,h=>by
   simp only [bG,iP] at h
   simp only [fD,iP]
   exact ⟨fE t h.1,ma ts h.2⟩
end
theorem i4:∀ {a b:List T},fD a b=true→a.length=b.length
 | [],[],_=>rfl
 | a :: as,b :: bs,h=>by simp only [fD,iP] at h; simp [i4 h.2]
 | [],_ :: _,h=>by simp [fD] at h
 | _ :: _,[],h=>by simp [fD] at h
theorem i5:∀ {a b:List T},a.length=b.length→fD a b=(List.range a.length).all fun j=>match a[j]?,b[j]? with
  | some x,some y=>eqT x y
  | _,_=>true
 | [],[],_=>by simp [fD]
 | a :: as,b :: bs,h=>by
   have ih:=i5 (a:=as) (b:=bs) (by simpa using h)
   simp only [fD]
   rw [ih,Fm,List.range_succ_eq_map,uC,List.all_map]
   rfl
 | [],_ :: _,h=>by simp at h
 | _ :: _,[],h=>by simp at h
theorem oN:∀ {a b:List T},fD a b=((List.range (min a.length b.length)).all (fun j=>match a[j]?,b[j]? with
  | some x,some y=>eqT x y
  | _,_=>true) && a.length == b.length)
 | a,b=>by
   by_cases h:a.length=b.length
   · rw [i5 h,h,Nat.min_self]; simp
   · have e:(a.length == b.length)=false:=by simpa using h
     rw [e,Im]
     cases q:fD a b with
     | false=>rfl
     | true=>exact absurd (i4 q) h
section
variable {X:Cx} {pins:List (Addr×Obj)} {σ:St} {H:Hp} {s:Shared} {O O':List Addr}
theorem u5 (I:Inv X pins σ H s) {a:Addr} {xs ys:List V} (h:eY X.K H a xs) (h':d9 X.K H a ys):False:=by
 obtain ⟨aK,_,p,_⟩:=I.list h
 obtain ⟨e7,_,p2,_⟩:=I.tuple h'
 obtain ⟨o,n,e,c,_⟩:=p
 obtain ⟨o2,e2,c2,_⟩:=p2
 rw [e] at e2
 cases e2
 rw [c] at c2
 injection c2 with c2
 exact absurd c2 (by decide)
mutual
theorem At.inj (I:Inv X pins σ H s):∀ {t u:T} {v:V},plainT t=true→plainT u=true→At X.K H O t v→At X.K H O' u v→t=u
 | .br,u,v,_,pu,h,h'=>by
   simp only [At] at h; subst h
   cases u <;> simp only [At] at h' <;> first | rfl | (simp only [plainT] at pu; cases pu; done) | (obtain ⟨_,_,e,_⟩:=h'; cases e) | (cases h'; done)
 | .bl b,u,v,_,pu,h,h'=>by
   simp only [At] at h; subst h
   cases u <;> simp only [At] at h' <;> first | (simp only [plainT] at pu; cases pu; done) | (obtain ⟨_,_,e,_⟩:=h'; cases e; done) | (cases h'; rfl) | (cases h'; done)
 | .int b,u,v,_,pu,h,h'=>by
   simp only [At] at h; subst h
   cases u <;> simp only [At] at h' <;> first | (simp only [plainT] at pu; cases pu; done) | (obtain ⟨_,_,e,_⟩:=h'; cases e; done) | (cases h'; rfl) | (cases h'; done)
 | .str b,u,v,_,pu,h,h'=>by
   simp only [At] at h; subst h
   cases u <;> simp only [At] at h' <;> first | (simp only [plainT] at pu; cases pu; done) | (obtain ⟨_,_,e,_⟩:=h'; cases e; done) | (cases h'; rfl) | (cases h'; done)
 | .dk _ _,_,_,p,_,_,_=>by simp only [plainT] at p; cases p
 | .dt _ _,_,_,p,_,_,_=>by simp only [plainT] at p; cases p
 | .df _ _ _,_,_,p,_,_,_=>by simp only [plainT] at p; cases p
 | .dz _ _ _,_,_,p,_,_,_=>by simp only [plainT] at p; cases p
 | .kt _,_,_,p,_,_,_=>by simp only [plainT] at p; cases p
 | .ins _ _ _,_,_,p,_,_,_=>by simp only [plainT] at p; cases p
 | .pin _ _,_,_,p,_,_,_=>by simp only [plainT] at p; cases p
 | .ob _,_,_,p,_,_,_=>by simp only [plainT] at p; cases p
 | .ty _,_,_,p,_,_,_=>by simp only [plainT] at p; cases p
 | .tup ts,u,v,p,pu,h,h'=>by
   simp only [At] at h
   obtain ⟨a,vs,rfl,h1,h2⟩:=h
   cases u with
   | tup us =>
     simp only [At] at h'
     obtain ⟨b,ws,e,g1,g2⟩:=h'
     cases e
     cases I.lV h1 g1
     simp only [plainT] at p pu
     rw [aE.inj I p pu h2 g2]
   | lst us =>
     simp only [At] at h'
     obtain ⟨b,ws,e,g1,g2⟩:=h'
     cases e
     exact (u5 I g1.sq h1).elim
   | dk _ _=>simp only [plainT] at pu; cases pu
   | dt _ _=>simp only [plainT] at pu; cases pu
   | df _ _ _=>simp only [plainT] at pu; cases pu
   | dz _ _ _=>simp only [plainT] at pu; cases pu
   | kt _=>simp only [plainT] at pu; cases pu
   | ins _ _ _=>simp only [plainT] at pu; cases pu
   | pin _ _=>simp only [plainT] at pu; cases pu
   | ob _=>simp only [plainT] at pu; cases pu
   | ty _=>simp only [plainT] at pu; cases pu
   | _=>simp only [At] at h'; cases h'
 | .lst ts,u,v,p,pu,h,h'=>by
   simp only [At] at h
   obtain ⟨a,vs,rfl,h1,h2⟩:=h
   cases u with
   | lst us =>
     simp only [At] at h'
     obtain ⟨b,ws,e,g1,g2⟩:=h'
     cases e
     cases I.kN h1.sq g1.sq
     simp only [plainT] at p pu
     rw [aE.inj I p pu h2 g2]
   | tup us =>
     simp only [At] at h'
     obtain ⟨b,ws,e,g1,g2⟩:=h'
     cases e
     exact (u5 I h1.sq g1).elim
   | dk _ _=>simp only [plainT] at pu; cases pu
   | dt _ _=>simp only [plainT] at pu; cases pu
   | df _ _ _=>simp only [plainT] at pu; cases pu
   | dz _ _ _=>simp only [plainT] at pu; cases pu
   | kt _=>simp only [plainT] at pu; cases pu
   | ins _ _ _=>simp only [plainT] at pu; cases pu
   | pin _ _=>simp only [plainT] at pu; cases pu
   | ob _=>simp only [plainT] at pu; cases pu
   | ty _=>simp only [plainT] at pu; cases pu
   | _=>simp only [At] at h'; cases h'
theorem aE.inj (I:Inv X pins σ H s):∀ {ts us:List T} {vs:List V},bG ts=true→bG us=true→aE X.K H O ts vs→aE X.K H O' us vs→ts=us
 | [],[],_,_,_,_,_=>rfl
 | [],_ :: _,_,_,_,h,h'=>by simp only [aE] at h h'; subst h; obtain ⟨_,_,e,_⟩:=h'; cases e
 | _ :: _,[],_,_,_,h,h'=>by simp only [aE] at h h'; subst h'; obtain ⟨_,_,e,_⟩:=h; cases e
 | t :: ts,u :: us,_,p,pu,h,h'=>by
   simp only [aE] at h h'
   simp only [bG,iP] at p pu
   obtain ⟨v,r,rfl,h1,h2⟩:=h
   obtain ⟨v',r',e,g1,g2⟩:=h'
   cases e
   rw [At.inj I p.1 pu.1 h1 g1,aE.inj I p.2 pu.2 h2 g2]
end
theorem g9:∀ {ts:List T} {j:Nat} {x:T},ts[j]?=some x→dep x≤i0 ts
 | [],_,_,h=>by simp at h
 | t :: ts,0,x,h=>by simp at h; subst h; simp only [i0]; omega
 | t :: ts,j+1,x,h=>by have:=g9 (ts:=ts) (j:=j) (x:=x) (by simpa using h); simp only [i0]; omega
theorem bB:∀ {ts:List T} {j:Nat} {x:T},bG ts=true→ts[j]?=some x→plainT x=true
 | [],_,_,_,h=>by simp at h
 | t :: ts,0,x,p,h=>by simp at h; subst h; simp only [bG,iP] at p; exact p.1
 | t :: ts,j+1,x,p,h=>by simp only [bG,iP] at p; exact bB (ts:=ts) (j:=j) p.2 (by simpa using h)
theorem in1_units (A:Around):A.in1.units=A.units+1:=by
 first | rfl | simp [Around.in1,Around.units]
theorem gy (I:Inv X pins σ H s) {ts us:List T} {vs ws:List V} {aK e7:List Value} {A:Around} (h1:aE X.K H O ts vs) (h2:aE X.K H O' us ws) (r1:Vals vs aK) (r2:Vals ws e7)
  (key:∀ (j:Nat) x y v w u u',ts[j]?=some x→us[j]?=some y→At X.K H O x v→At X.K H O' y w→RelV v u→RelV w u'→SeqAt.EqAt A s u u' (eqT x y)) :
  ∀ (j:Nat) (g1:j < aK.toArray.size) (g2:j < e7.toArray.size),SeqAt.EqAt A s aK.toArray[j] e7.toArray[j] (match ts[j]?,us[j]? with
   | some x,some y=>eqT x y
   | _,_=>true):=fun j g1 g2=>by
 have l1:=h1.length
 have l2:=h2.length
 have m1:=r1.length
 have m2:=r2.length
 simp only [gS] at g1 g2
 have e1:ts[j]?=some (ts[j]'(by omega)):=by simp
 have e2:us[j]?=some (us[j]'(by omega)):=by simp
 obtain ⟨v,a1,a2⟩:=h1.get e1
 obtain ⟨w,b1,b2⟩:=h2.get e2
 obtain ⟨u,c1,c2⟩:=r1.get a1
 obtain ⟨u',d1,d2⟩:=r2.get b1
 have f1:aK.toArray[j]=u:=by rw [lK (by omega)] at c1; simpa using c1
 have f2:e7.toArray[j]=u':=by rw [lK (by omega)] at d1; simpa using d1
 rw [f1,f2,e1,e2]
 exact key j _ _ v w u u' e1 e2 a2 b2 c2 d2
theorem kh {O:List Addr} (I:Inv X pins σ H s) {u:T} {w:V} {b:Value} (pu:plainT u=true) (hw:At X.K H O u w) (r:RelV w b):(u = .br∧b = .none)∨(∃ c,u = .bl c∧b = .bool c)∨(∃ c t,u = .int c∧b = .int c t)∨(∃ c t,u = .str c∧b = .str c t)∨(∃ l p xs,u = .tup l∧b = .ref p∧s.heap.IsTuple p xs)∨∃ l p xs,u = .lst l∧b = .ref p∧s.heap.IsList p xs:=by
 cases u with
 | tup l=>simp only [At] at hw; obtain ⟨p,ws,rfl,q,_⟩:=hw; cases r; obtain ⟨_,_,p1,_⟩:=I.tuple q; exact .inr (.inr (.inr (.inr (.inl ⟨l,p,_,rfl,rfl,p1⟩))))
 | lst l=>simp only [At] at hw; obtain ⟨p,ws,rfl,q,_⟩:=hw; cases r; obtain ⟨_,_,p1,_⟩:=I.list q.sq; exact .inr (.inr (.inr (.inr (.inr ⟨l,p,_,rfl,rfl,p1.isList⟩))))
 | br=>simp only [At] at hw; subst hw; cases r; exact .inl ⟨rfl,rfl⟩
 | bl c=>simp only [At] at hw; subst hw; cases r; exact .inr (.inl ⟨c,rfl,rfl⟩)
 | int c=>simp only [At] at hw; subst hw; obtain ⟨t,rfl⟩:=r; exact .inr (.inr (.inl ⟨c,t,rfl,rfl⟩))
 | str c=>simp only [At] at hw; subst hw; obtain ⟨t,rfl⟩:=r; exact .inr (.inr (.inr (.inl ⟨c,t,rfl,rfl⟩)))
 | _=>simp only [plainT] at pu; cases pu
theorem sW (I:Inv X pins σ H s):∀ (n:Nat) (t u:T) (v w:V) (a b:Value) (A:Around),dep t≤n→A.units+n < cLine→plainT t=true→plainT u=true→At X.K H O t v→At X.K H O' u w→RelV v a→RelV w b→SeqAt.EqAt A s a b (eqT t u):=by
 intro n
 induction n with
 | zero =>
   intro t u v w a b A hd hu pt pu ht hw rv rw'
   have cM:A.units < cLine:=by omega
   rcases kh I pt ht rv with ⟨rfl,rfl⟩ | ⟨d,rfl,rfl⟩ | ⟨d,t',rfl,rfl⟩ | ⟨d,t',rfl,rfl⟩ | ⟨l,p,xs,rfl,_⟩ | ⟨l,p,xs,rfl,_⟩
   · rcases kh I pu hw rw' with ⟨rfl,rfl⟩ | ⟨c,rfl,rfl⟩ | ⟨c,t,rfl,rfl⟩ | ⟨c,t,rfl,rfl⟩ | ⟨l,p,xs,rfl,rfl,h⟩ | ⟨l,p,xs,rfl,rfl,h⟩ <;> simp only [eqT]
     · exact SeqAt.EqAt.same _
     · exact SeqAt.EqAt.none_bool c
     · exact SeqAt.EqAt.none_int c t
     · exact SeqAt.EqAt.none_str c t
     · exact SeqAt.EqAt.none_tuple h cM
     · exact SeqAt.EqAt.none_list h cM
   · rcases kh I pu hw rw' with ⟨rfl,rfl⟩ | ⟨c,rfl,rfl⟩ | ⟨c,t,rfl,rfl⟩ | ⟨c,t,rfl,rfl⟩ | ⟨l,p,xs,rfl,rfl,h⟩ | ⟨l,p,xs,rfl,rfl,h⟩ <;> simp only [eqT]
     · exact SeqAt.EqAt.bool_none d
     · exact SeqAt.EqAt.bool_bool d c
     · exact SeqAt.EqAt.bool_int d c t
     · exact SeqAt.EqAt.bool_str d c t
     · exact SeqAt.EqAt.bool_tuple d h cM
     · exact SeqAt.EqAt.bool_list d h cM
   · rcases kh I pu hw rw' with ⟨rfl,rfl⟩ | ⟨c,rfl,rfl⟩ | ⟨c,t,rfl,rfl⟩ | ⟨c,t,rfl,rfl⟩ | ⟨l,p,xs,rfl,rfl,h⟩ | ⟨l,p,xs,rfl,rfl,h⟩ <;> simp only [eqT]
     · exact SeqAt.EqAt.int_none d t'
     · exact SeqAt.EqAt.int_bool d t' c
     · exact SeqAt.EqAt.int_int d t' c t
     · exact SeqAt.EqAt.int_str d t' c t
     · exact SeqAt.EqAt.int_tuple d t' h cM
     · exact SeqAt.EqAt.int_list d t' h cM
   · rcases kh I pu hw rw' with ⟨rfl,rfl⟩ | ⟨c,rfl,rfl⟩ | ⟨c,t,rfl,rfl⟩ | ⟨c,t,rfl,rfl⟩ | ⟨l,p,xs,rfl,rfl,h⟩ | ⟨l,p,xs,rfl,rfl,h⟩ <;> simp only [eqT]
     · exact SeqAt.EqAt.str_none d t'
     · exact SeqAt.EqAt.str_bool d t' c
     · exact SeqAt.EqAt.str_int d t' c t
     · exact SeqAt.EqAt.str_str d t' c t
     · exact SeqAt.EqAt.str_tuple d t' h cM
     · exact SeqAt.EqAt.str_list d t' h cM
   · simp only [dep] at hd; omega
   · simp only [dep] at hd; omega
 | succ n ih =>
   intro t u v w a b A hd hu pt pu ht hw rv rw'
   by_cases h0:dep t≤n
   · exact ih t u v w a b A h0 (by omega) pt pu ht hw rv rw'
   · have cM:A.units < cLine:=by omega
     have wD:A.in1.units+n < cLine:=by rw [in1_units]; omega
     cases t with
     | tup l =>
       simp only [plainT] at pt
       simp only [dep] at hd
       have Tr:=ht
       simp only [At] at ht
       obtain ⟨p,vs,rfl,h1,h2⟩:=ht
       cases rv
       obtain ⟨aK,r1,p1,_⟩:=I.tuple h1
       cases u with
       | tup l' =>
         have Ts:=hw
         simp only [At] at hw
         obtain ⟨p',ws,rfl,g1,g2⟩:=hw
         cases rw'
         simp only [plainT] at pu
         by_cases e:p=p'
         · subst e
           have:=At.inj I (t:=.tup l) (u:=.tup l') (by simp only [plainT]; exact pt) (by simp only [plainT]; exact pu) Tr Ts
           rw [← this,fE _ (by simp only [plainT]; exact pt)]
           exact SeqAt.EqAt.same _
         · obtain ⟨e7,r2,p2,_⟩:=I.tuple g1
           refine SeqAt.EqAt.of_refs e ?_
           have:=SeqAt.RcAt.tuples (A:=A) p1 p2 cM (gy I h2 g2 r1 r2 fun j x y v w u u' e1 e2 a1 a2 b1 b2=>ih x y v w u u' A.in1 (nB (g9 e1) (by omega)) wD (bB pt e1) (bB pu e2) a1 a2 b1 b2)
           simp only [eqT]
           rw [oN]
           have e1:=r1.length
           have e2:=r2.length
           have e3:=h2.length
           have e4:=g2.length
           simp only [gS] at this
           rw [← e1,← e2,e3,e4] at this
           exact this
       | _ =>
         rcases kh I pu hw rw' with ⟨e,rfl⟩ | ⟨c,e,rfl⟩ | ⟨c,t,e,rfl⟩ | ⟨c,t,e,rfl⟩ | ⟨l,p,xs,e,rfl,h⟩ | ⟨l,p,xs,e,rfl,h⟩ <;> cases e <;> simp only [eqT]
         all_goals first | exact SeqAt.EqAt.tuple_none p1 cM | exact SeqAt.EqAt.tuple_bool _ p1 cM | exact SeqAt.EqAt.tuple_int _ _ p1 cM | exact SeqAt.EqAt.tuple_str _ _ p1 cM | exact SeqAt.EqAt.tuple_list p1 (by assumption) cM
     | lst l =>
       simp only [plainT] at pt
       simp only [dep] at hd
       have Tr:=ht
       simp only [At] at ht
       obtain ⟨p,vs,rfl,h1,h2⟩:=ht
       cases rv
       obtain ⟨aK,r1,p1,_⟩:=I.list h1.sq
       cases u with
       | lst l' =>
         have Ts:=hw
         simp only [At] at hw
         obtain ⟨p',ws,rfl,g1,g2⟩:=hw
         cases rw'
         simp only [plainT] at pu
         by_cases e:p=p'
         · subst e
           have:=At.inj I (t:=.lst l) (u:=.lst l') (by simp only [plainT]; exact pt) (by simp only [plainT]; exact pu) Tr Ts
           rw [← this,fE _ (by simp only [plainT]; exact pt)]
           exact SeqAt.EqAt.same _
         · obtain ⟨e7,r2,p2,_⟩:=I.list g1.sq
           refine SeqAt.EqAt.of_refs e ?_
           have e1:=r1.length
           have e2:=r2.length
           have e3:=h2.length
           have e4:=g2.length
           by_cases hl:l.length=l'.length
           · have:=SeqAt.RcAt.lists (A:=A) p1.isList p2.isList (by simp only [gS]; omega) cM (gy I h2 g2 r1 r2 fun j x y v w u u' e1 e2 a1 a2 b1 b2=>ih x y v w u u' A.in1 (nB (g9 e1) (by omega)) wD (bB pt e1) (bB pu e2) a1 a2 b1 b2)
             simp only [eqT]
             rw [i5 hl]
             simp only [gS] at this
             rw [← e1,e3] at this
             exact this
           · simp only [eqT]
             have:fD l l'=false:=by
              cases q:fD l l' with
              | false=>rfl
              | true=>exact absurd (i4 q) hl
             rw [this]
             exact SeqAt.RcAt.lists_lengths p1.isList p2.isList (by simp only [gS]; rw [bne_iff_ne]; omega) cM
       | _ =>
         rcases kh I pu hw rw' with ⟨e,rfl⟩ | ⟨c,e,rfl⟩ | ⟨c,t,e,rfl⟩ | ⟨c,t,e,rfl⟩ | ⟨l,p,xs,e,rfl,h⟩ | ⟨l,p,xs,e,rfl,h⟩ <;> cases e <;> simp only [eqT]
         all_goals first | exact SeqAt.EqAt.list_none p1.isList cM | exact SeqAt.EqAt.list_bool _ p1.isList cM | exact SeqAt.EqAt.list_int _ _ p1.isList cM | exact SeqAt.EqAt.list_str _ _ p1.isList cM | exact SeqAt.EqAt.list_tuple p1.isList (by assumption) cM
     | _=>exact absurd (kK n) h0
end
section
variable {X:Cx} {pins:List (Addr×Obj)} {σ:St} {H:Hp} {s:Shared} {O O':List Addr}
theorem K2 (I:Inv X pins σ H s) (t u:T) (v w:V) (a b:Value) (A:Around) (hd:dep t≤100) (hu:A.units+101 < cLine) (pt:plainT t=true) (pu:plainT u=true) (ht:At X.K H O t v) (hw:At X.K H O' u w) (rv:RelV v a) (rw':RelV w b):SeqAt.RcAt A s a b (eqT t u):=by
 have cM:A.units < cLine:=by omega
 have wD:A.in1.units+100 < cLine:=by rw [in1_units]; omega
 cases t with
 | br =>
   simp only [At] at ht; subst ht; cases rv
   cases u with
   | br =>
     simp only [At] at hw; subst hw; cases rw'
     simp only [eqT]
     exact SeqAt.RcAt.none_none
   | bl c =>
     simp only [At] at hw; subst hw; cases rw'
     simp only [eqT]
     exact SeqAt.RcAt.none_bool c
   | int c =>
     simp only [At] at hw; subst hw; obtain ⟨t2,rfl⟩:=rw'
     simp only [eqT]
     exact SeqAt.RcAt.none_int c t2
   | str c =>
     simp only [At] at hw; subst hw; obtain ⟨t2,rfl⟩:=rw'
     simp only [eqT]
     exact SeqAt.RcAt.none_str c t2
   | tup l=>simp only [At] at hw; obtain ⟨p,ws,rfl,q,_⟩:=hw; cases rw'; obtain ⟨_,_,p1,_⟩:=I.tuple q; simp only [eqT]; exact SeqAt.RcAt.none_tuple p1 cM
   | lst l=>simp only [At] at hw; obtain ⟨p,ws,rfl,q,_⟩:=hw; cases rw'; obtain ⟨_,_,p1,_⟩:=I.list q.sq; simp only [eqT]; exact SeqAt.RcAt.none_list p1.isList cM
   | _=>simp only [plainT] at pu; cases pu
 | bl d =>
   simp only [At] at ht; subst ht; cases rv
   cases u with
   | br =>
     simp only [At] at hw; subst hw; cases rw'
     simp only [eqT]
     exact SeqAt.RcAt.bool_none d
   | bl c =>
     simp only [At] at hw; subst hw; cases rw'
     simp only [eqT]
     exact SeqAt.RcAt.bool_bool d c
   | int c =>
     simp only [At] at hw; subst hw; obtain ⟨t2,rfl⟩:=rw'
     simp only [eqT]
     exact SeqAt.RcAt.bool_int d c t2
   | str c =>
     simp only [At] at hw; subst hw; obtain ⟨t2,rfl⟩:=rw'
     simp only [eqT]
     exact SeqAt.RcAt.bool_str d c t2
   | tup l=>simp only [At] at hw; obtain ⟨p,ws,rfl,q,_⟩:=hw; cases rw'; obtain ⟨_,_,p1,_⟩:=I.tuple q; simp only [eqT]; exact SeqAt.RcAt.bool_tuple d p1 cM
   | lst l=>simp only [At] at hw; obtain ⟨p,ws,rfl,q,_⟩:=hw; cases rw'; obtain ⟨_,_,p1,_⟩:=I.list q.sq; simp only [eqT]; exact SeqAt.RcAt.bool_list d p1.isList cM
   | _=>simp only [plainT] at pu; cases pu
 | int d =>
   simp only [At] at ht; subst ht; obtain ⟨t1,rfl⟩:=rv
   cases u with
   | br =>
     simp only [At] at hw; subst hw; cases rw'
     simp only [eqT]
     exact SeqAt.RcAt.int_none d t1
   | bl c =>
     simp only [At] at hw; subst hw; cases rw'
     simp only [eqT]
     exact SeqAt.RcAt.int_bool d t1 c
   | int c =>
     simp only [At] at hw; subst hw; obtain ⟨t2,rfl⟩:=rw'
     simp only [eqT]
     exact SeqAt.RcAt.int_int d t1 c t2
   | str c =>
     simp only [At] at hw; subst hw; obtain ⟨t2,rfl⟩:=rw'
     simp only [eqT]
     exact SeqAt.RcAt.int_str d t1 c t2
   | tup l=>simp only [At] at hw; obtain ⟨p,ws,rfl,q,_⟩:=hw; cases rw'; obtain ⟨_,_,p1,_⟩:=I.tuple q; simp only [eqT]; exact SeqAt.RcAt.int_tuple d t1 p1 cM
   | lst l=>simp only [At] at hw; obtain ⟨p,ws,rfl,q,_⟩:=hw; cases rw'; obtain ⟨_,_,p1,_⟩:=I.list q.sq; simp only [eqT]; exact SeqAt.RcAt.int_list d t1 p1.isList cM
   | _=>simp only [plainT] at pu; cases pu
 | str d =>
   simp only [At] at ht; subst ht; obtain ⟨t1,rfl⟩:=rv
   cases u with
   | br =>
     simp only [At] at hw; subst hw; cases rw'
     simp only [eqT]
     exact SeqAt.RcAt.str_none d t1
   | bl c =>
     simp only [At] at hw; subst hw; cases rw'
     simp only [eqT]
     exact SeqAt.RcAt.str_bool d t1 c
   | int c =>
     simp only [At] at hw; subst hw; obtain ⟨t2,rfl⟩:=rw'
     simp only [eqT]
     exact SeqAt.RcAt.str_int d t1 c t2
   | str c =>
     simp only [At] at hw; subst hw; obtain ⟨t2,rfl⟩:=rw'
     simp only [eqT]
     exact SeqAt.RcAt.str_str d t1 c t2
   | tup l=>simp only [At] at hw; obtain ⟨p,ws,rfl,q,_⟩:=hw; cases rw'; obtain ⟨_,_,p1,_⟩:=I.tuple q; simp only [eqT]; exact SeqAt.RcAt.str_tuple d t1 p1 cM
   | lst l=>simp only [At] at hw; obtain ⟨p,ws,rfl,q,_⟩:=hw; cases rw'; obtain ⟨_,_,p1,_⟩:=I.list q.sq; simp only [eqT]; exact SeqAt.RcAt.str_list d t1 p1.isList cM
   | _=>simp only [plainT] at pu; cases pu
 | tup l =>
   simp only [plainT] at pt
   simp only [dep] at hd
   simp only [At] at ht
   obtain ⟨p,vs,rfl,h1,h2⟩:=ht
   cases rv
   obtain ⟨aK,r1,p1,_⟩:=I.tuple h1
   cases u with
   | br =>
     simp only [At] at hw; subst hw; cases rw'
     simp only [eqT]
     exact SeqAt.RcAt.tuple_none p1 cM
   | bl c =>
     simp only [At] at hw; subst hw; cases rw'
     simp only [eqT]
     exact SeqAt.RcAt.tuple_bool c p1 cM
   | int c =>
     simp only [At] at hw; subst hw; obtain ⟨t2,rfl⟩:=rw'
     simp only [eqT]
     exact SeqAt.RcAt.tuple_int c t2 p1 cM
   | str c =>
     simp only [At] at hw; subst hw; obtain ⟨t2,rfl⟩:=rw'
     simp only [eqT]
     exact SeqAt.RcAt.tuple_str c t2 p1 cM
   | tup l' =>
     simp only [At] at hw
     obtain ⟨p',ws,rfl,g1,g2⟩:=hw
     cases rw'
     obtain ⟨e7,r2,p2,_⟩:=I.tuple g1
     simp only [eqT]
     simp only [plainT] at pu
     have e1:=r1.length
     have e2:=r2.length
     have e3:=h2.length
     have e4:=g2.length
     have:=SeqAt.RcAt.tuples (A:=A) p1 p2 cM (gy I h2 g2 r1 r2 fun j x y v w u u' e1 e2 a1 a2 b1 b2=>sW I 100 x y v w u u' A.in1 (nB (g9 e1) (by omega)) wD (bB pt e1) (bB pu e2) a1 a2 b1 b2)
     simp only [gS] at this
     rw [← e1,← e2,e3,e4] at this
     rw [oN]
     exact this
   | lst l' =>
     simp only [At] at hw
     obtain ⟨p',ws,rfl,g1,g2⟩:=hw
     cases rw'
     obtain ⟨e7,r2,p2,_⟩:=I.list g1.sq
     simp only [eqT]
     exact SeqAt.RcAt.tuple_list p1 p2.isList cM
   | _=>simp only [plainT] at pu; cases pu
 | lst l =>
   simp only [plainT] at pt
   simp only [dep] at hd
   simp only [At] at ht
   obtain ⟨p,vs,rfl,h1,h2⟩:=ht
   cases rv
   obtain ⟨aK,r1,p1,_⟩:=I.list h1.sq
   cases u with
   | br =>
     simp only [At] at hw; subst hw; cases rw'
     simp only [eqT]
     exact SeqAt.RcAt.list_none p1.isList cM
   | bl c =>
     simp only [At] at hw; subst hw; cases rw'
     simp only [eqT]
     exact SeqAt.RcAt.list_bool c p1.isList cM
   | int c =>
     simp only [At] at hw; subst hw; obtain ⟨t2,rfl⟩:=rw'
     simp only [eqT]
     exact SeqAt.RcAt.list_int c t2 p1.isList cM
   | str c =>
     simp only [At] at hw; subst hw; obtain ⟨t2,rfl⟩:=rw'
     simp only [eqT]
     exact SeqAt.RcAt.list_str c t2 p1.isList cM
   | tup l' =>
     simp only [At] at hw
     obtain ⟨p',ws,rfl,g1,g2⟩:=hw
     cases rw'
     obtain ⟨e7,r2,p2,_⟩:=I.tuple g1
     simp only [eqT]
     exact SeqAt.RcAt.list_tuple p1.isList p2 cM
   | lst l' =>
     simp only [At] at hw
     obtain ⟨p',ws,rfl,g1,g2⟩:=hw
     cases rw'
     obtain ⟨e7,r2,p2,_⟩:=I.list g1.sq
     simp only [eqT]
     simp only [plainT] at pu
     have e1:=r1.length
     have e2:=r2.length
     have e3:=h2.length
     have e4:=g2.length
     by_cases hl:l.length=l'.length
     · have:=SeqAt.RcAt.lists (A:=A) p1.isList p2.isList (by simp only [gS]; omega) cM (gy I h2 g2 r1 r2 fun j x y v w u u' e1 e2 a1 a2 b1 b2=>sW I 100 x y v w u u' A.in1 (nB (g9 e1) (by omega)) wD (bB pt e1) (bB pu e2) a1 a2 b1 b2)
       simp only [gS] at this
       rw [← e1,e3] at this
       rw [i5 hl]
       exact this
     · have:fD l l'=false:=by
        cases q:fD l l' with
        | false=>rfl
        | true=>exact absurd (i4 q) hl
       rw [this]
       exact SeqAt.RcAt.lists_lengths p1.isList p2.isList (by simp only [gS]; rw [bne_iff_ne]; omega) cM
   | _=>simp only [plainT] at pu; cases pu
 | _=>simp only [plainT] at pt; cases pt
theorem K3 (I:Inv X pins σ H s) (t u:T) (v w:V) (a b:Value) (A:Around) (hd:dep t≤100) (hu:A.units+101 < cLine) (pt:plainT t=true) (pu:plainT u=true) (ht:At X.K H O t v) (hw:At X.K H O' u w) (rv:RelV v a) (rw':RelV w b):SeqAt.RcNeAt A s a b (!eqT t u):=by
 have cM:A.units < cLine:=by omega
 have wD:A.in1.units+100 < cLine:=by rw [in1_units]; omega
 cases t with
 | br =>
   simp only [At] at ht; subst ht; cases rv
   cases u with
   | br =>
     simp only [At] at hw; subst hw; cases rw'
     simp only [eqT]
     exact SeqAt.RcNeAt.none_none
   | bl c =>
     simp only [At] at hw; subst hw; cases rw'
     simp only [eqT]
     exact SeqAt.RcNeAt.none_bool c
   | int c =>
     simp only [At] at hw; subst hw; obtain ⟨t2,rfl⟩:=rw'
     simp only [eqT]
     exact SeqAt.RcNeAt.none_int c t2
   | str c =>
     simp only [At] at hw; subst hw; obtain ⟨t2,rfl⟩:=rw'
     simp only [eqT]
     exact SeqAt.RcNeAt.none_str c t2
   | tup l=>simp only [At] at hw; obtain ⟨p,ws,rfl,q,_⟩:=hw; cases rw'; obtain ⟨_,_,p1,_⟩:=I.tuple q; simp only [eqT]; exact SeqAt.RcNeAt.none_tuple p1 cM
   | lst l=>simp only [At] at hw; obtain ⟨p,ws,rfl,q,_⟩:=hw; cases rw'; obtain ⟨_,_,p1,_⟩:=I.list q.sq; simp only [eqT]; exact SeqAt.RcNeAt.none_list p1.isList cM
   | _=>simp only [plainT] at pu; cases pu
 | bl d =>
   simp only [At] at ht; subst ht; cases rv
   cases u with
   | br =>
     simp only [At] at hw; subst hw; cases rw'
     simp only [eqT]
     exact SeqAt.RcNeAt.bool_none d
   | bl c =>
     simp only [At] at hw; subst hw; cases rw'
     simp only [eqT]
     exact SeqAt.RcNeAt.bool_bool d c
   | int c =>
     simp only [At] at hw; subst hw; obtain ⟨t2,rfl⟩:=rw'
     simp only [eqT]
     exact SeqAt.RcNeAt.bool_int d c t2
   | str c =>
     simp only [At] at hw; subst hw; obtain ⟨t2,rfl⟩:=rw'
     simp only [eqT]
     exact SeqAt.RcNeAt.bool_str d c t2
   | tup l=>simp only [At] at hw; obtain ⟨p,ws,rfl,q,_⟩:=hw; cases rw'; obtain ⟨_,_,p1,_⟩:=I.tuple q; simp only [eqT]; exact SeqAt.RcNeAt.bool_tuple d p1 cM
   | lst l=>simp only [At] at hw; obtain ⟨p,ws,rfl,q,_⟩:=hw; cases rw'; obtain ⟨_,_,p1,_⟩:=I.list q.sq; simp only [eqT]; exact SeqAt.RcNeAt.bool_list d p1.isList cM
   | _=>simp only [plainT] at pu; cases pu
 | int d =>
   simp only [At] at ht; subst ht; obtain ⟨t1,rfl⟩:=rv
   cases u with
   | br =>
     simp only [At] at hw; subst hw; cases rw'
     simp only [eqT]
     exact SeqAt.RcNeAt.int_none d t1
   | bl c =>
     simp only [At] at hw; subst hw; cases rw'
     simp only [eqT]
     exact SeqAt.RcNeAt.int_bool d t1 c
   | int c =>
     simp only [At] at hw; subst hw; obtain ⟨t2,rfl⟩:=rw'
     simp only [eqT]
     exact SeqAt.RcNeAt.int_int d t1 c t2
   | str c =>
     simp only [At] at hw; subst hw; obtain ⟨t2,rfl⟩:=rw'
     simp only [eqT]
     exact SeqAt.RcNeAt.int_str d t1 c t2
   | tup l=>simp only [At] at hw; obtain ⟨p,ws,rfl,q,_⟩:=hw; cases rw'; obtain ⟨_,_,p1,_⟩:=I.tuple q; simp only [eqT]; exact SeqAt.RcNeAt.int_tuple d t1 p1 cM
   | lst l=>simp only [At] at hw; obtain ⟨p,ws,rfl,q,_⟩:=hw; cases rw'; obtain ⟨_,_,p1,_⟩:=I.list q.sq; simp only [eqT]; exact SeqAt.RcNeAt.int_list d t1 p1.isList cM
   | _=>simp only [plainT] at pu; cases pu
 | str d =>
   simp only [At] at ht; subst ht; obtain ⟨t1,rfl⟩:=rv
   cases u with
   | br =>
     simp only [At] at hw; subst hw; cases rw'
     simp only [eqT]
     exact SeqAt.RcNeAt.str_none d t1
   | bl c =>
     simp only [At] at hw; subst hw; cases rw'
     simp only [eqT]
     exact SeqAt.RcNeAt.str_bool d t1 c
   | int c =>
     simp only [At] at hw; subst hw; obtain ⟨t2,rfl⟩:=rw'
     simp only [eqT]
     exact SeqAt.RcNeAt.str_int d t1 c t2
   | str c =>
     simp only [At] at hw; subst hw; obtain ⟨t2,rfl⟩:=rw'
     simp only [eqT]
     exact SeqAt.RcNeAt.str_str d t1 c t2
   | tup l=>simp only [At] at hw; obtain ⟨p,ws,rfl,q,_⟩:=hw; cases rw'; obtain ⟨_,_,p1,_⟩:=I.tuple q; simp only [eqT]; exact SeqAt.RcNeAt.str_tuple d t1 p1 cM
   | lst l=>simp only [At] at hw; obtain ⟨p,ws,rfl,q,_⟩:=hw; cases rw'; obtain ⟨_,_,p1,_⟩:=I.list q.sq; simp only [eqT]; exact SeqAt.RcNeAt.str_list d t1 p1.isList cM
   | _=>simp only [plainT] at pu; cases pu
 | tup l =>
   simp only [plainT] at pt
   simp only [dep] at hd
   simp only [At] at ht
   obtain ⟨p,vs,rfl,h1,h2⟩:=ht
   cases rv
   obtain ⟨aK,r1,p1,_⟩:=I.tuple h1
   cases u with
   | br =>
     simp only [At] at hw; subst hw; cases rw'
     simp only [eqT]
     exact SeqAt.RcNeAt.tuple_none p1 cM
   | bl c =>
     simp only [At] at hw; subst hw; cases rw'
     simp only [eqT]
     exact SeqAt.RcNeAt.tuple_bool c p1 cM
   | int c =>
     simp only [At] at hw; subst hw; obtain ⟨t2,rfl⟩:=rw'
     simp only [eqT]
     exact SeqAt.RcNeAt.tuple_int c t2 p1 cM
   | str c =>
     simp only [At] at hw; subst hw; obtain ⟨t2,rfl⟩:=rw'
     simp only [eqT]
     exact SeqAt.RcNeAt.tuple_str c t2 p1 cM
   | tup l' =>
     simp only [At] at hw
     obtain ⟨p',ws,rfl,g1,g2⟩:=hw
     cases rw'
     obtain ⟨e7,r2,p2,_⟩:=I.tuple g1
     simp only [eqT]
     simp only [plainT] at pu
     have e1:=r1.length
     have e2:=r2.length
     have e3:=h2.length
     have e4:=g2.length
     have:=SeqAt.RcNeAt.tuples (A:=A) p1 p2 cM (gy I h2 g2 r1 r2 fun j x y v w u u' e1 e2 a1 a2 b1 b2=>sW I 100 x y v w u u' A.in1 (nB (g9 e1) (by omega)) wD (bB pt e1) (bB pu e2) a1 a2 b1 b2)
     simp only [gS] at this
     rw [← e1,← e2,e3,e4] at this
     rw [oN]
     exact this
   | lst l' =>
     simp only [At] at hw
     obtain ⟨p',ws,rfl,g1,g2⟩:=hw
     cases rw'
     obtain ⟨e7,r2,p2,_⟩:=I.list g1.sq
     simp only [eqT]
     exact SeqAt.RcNeAt.tuple_list p1 p2.isList cM
   | _=>simp only [plainT] at pu; cases pu
 | lst l =>
   simp only [plainT] at pt
   simp only [dep] at hd
   simp only [At] at ht
   obtain ⟨p,vs,rfl,h1,h2⟩:=ht
   cases rv
   obtain ⟨aK,r1,p1,_⟩:=I.list h1.sq
   cases u with
   | br =>
     simp only [At] at hw; subst hw; cases rw'
     simp only [eqT]
     exact SeqAt.RcNeAt.list_none p1.isList cM
   | bl c =>
     simp only [At] at hw; subst hw; cases rw'
     simp only [eqT]
     exact SeqAt.RcNeAt.list_bool c p1.isList cM
   | int c =>
     simp only [At] at hw; subst hw; obtain ⟨t2,rfl⟩:=rw'
     simp only [eqT]
     exact SeqAt.RcNeAt.list_int c t2 p1.isList cM
   | str c =>
     simp only [At] at hw; subst hw; obtain ⟨t2,rfl⟩:=rw'
     simp only [eqT]
     exact SeqAt.RcNeAt.list_str c t2 p1.isList cM
   | tup l' =>
     simp only [At] at hw
     obtain ⟨p',ws,rfl,g1,g2⟩:=hw
     cases rw'
     obtain ⟨e7,r2,p2,_⟩:=I.tuple g1
     simp only [eqT]
     exact SeqAt.RcNeAt.list_tuple p1.isList p2 cM
   | lst l' =>
     simp only [At] at hw
     obtain ⟨p',ws,rfl,g1,g2⟩:=hw
     cases rw'
     obtain ⟨e7,r2,p2,_⟩:=I.list g1.sq
     simp only [eqT]
     simp only [plainT] at pu
     have e1:=r1.length
     have e2:=r2.length
     have e3:=h2.length
     have e4:=g2.length
     by_cases hl:l.length=l'.length
     · have:=SeqAt.RcNeAt.lists (A:=A) p1.isList p2.isList (by simp only [gS]; omega) cM (gy I h2 g2 r1 r2 fun j x y v w u u' e1 e2 a1 a2 b1 b2=>sW I 100 x y v w u u' A.in1 (nB (g9 e1) (by omega)) wD (bB pt e1) (bB pu e2) a1 a2 b1 b2)
       simp only [gS] at this
       rw [← e1,e3] at this
       rw [i5 hl]
       exact this
     · have:fD l l'=false:=by
        cases q:fD l l' with
        | false=>rfl
        | true=>exact absurd (i4 q) hl
       rw [this]
       exact SeqAt.RcNeAt.lists_lengths p1.isList p2.isList (by simp only [gS]; rw [bne_iff_ne]; omega) cM
   | _=>simp only [plainT] at pu; cases pu
 | _=>simp only [plainT] at pt; cases pt
theorem gT.bare {K:PySem.W.Frag} {H:Hp} {A:List Addr} {t:T} {v:V} (h:gT K H A t v):At K H [] t v:=by
 rcases h with h | ⟨a,rfl,h⟩
 · exact At.bt (O':=[]) (fun _ z=>absurd z dZ) h
 · exact (cy.bt (A':=[]) h (fun _ z=>absurd z dZ)).at dZ
def F_ (K:PySem.W.Frag) (neg:Bool):R2:=fun x y H Q=>∃ t u,At K H [] t x∧At K H [] u y∧plainT t=true∧plainT u=true∧dep t≤100∧Q (.bl (if neg then !eqT t u else eqT t u)) H
theorem CC (hu:X.A.units+101 < cLine):fq X (compareOp .Eq) (F_ X.K false):=by
 intro pins s σ H x y v u Q I rx ry ⟨t,t',h1,h2,p1,p2,d,q⟩
 exact K2 I t t' x y v u X.A d hu p1 p2 h1 h2 rx ry X.prog X.w X.xe _ ⟨.bl _,H,I,rfl,q⟩
theorem CD (hu:X.A.units+101 < cLine):fq X (compareOp .NotEq) (F_ X.K true):=by
 intro pins s σ H x y v u Q I rx ry ⟨t,t',h1,h2,p1,p2,d,q⟩
 exact K3 I t t' x y v u X.A d hu p1 p2 h1 h2 rx ry X.prog X.w X.xe _ ⟨.bl _,H,I,rfl,q⟩
end
def OS (x y:T) (q:Rt→Prop):Prop:=match x,y with
 | .int i,.int j=>q (.vw (.bl (decide (i=j))))
 | .str i,.str j=>q (.vw (.bl (decide (i=j))))
 | .bl i,.bl j=>q (.vw (.bl (decide (i=j))))
 | x,y=>plainT x=true∧plainT y=true∧dep x≤100∧q (.vw (.bl (eqT x y)))
def OT (x y:T) (q:Rt→Prop):Prop:=match x,y with
 | .int i,.int j=>q (.vw (.bl (!decide (i=j))))
 | .str i,.str j=>q (.vw (.bl (!decide (i=j))))
 | .bl i,.bl j=>q (.vw (.bl (!decide (i=j))))
 | x,y=>plainT x=true∧plainT y=true∧dep x≤100∧q (.vw (.bl (!eqT x y)))
theorem F' {x y:T} {q:Rt→Prop} (h:OS x y q):plainT x=true∧plainT y=true∧dep x≤100∧q (.vw (.bl (eqT x y))):=by
 unfold OS at h
 split at h
 · exact ⟨rfl,rfl,kK _,by simp only [eqT,Q7]; exact h⟩
 · refine ⟨rfl,rfl,kK _,?_⟩
   have e:∀ i j:Str,(i == j)=decide (i=j):=fun i j=>by rw [Ni]; simp
   simp only [eqT,e]; exact h
 · exact ⟨rfl,rfl,kK _,by simp only [eqT,Q7]; exact h⟩
 · exact h
theorem Ga {x y:T} {q:Rt→Prop} (h:OT x y q):plainT x=true∧plainT y=true∧dep x≤100∧q (.vw (.bl (!eqT x y))):=by
 unfold OT at h
 split at h
 · exact ⟨rfl,rfl,kK _,by simp only [eqT,Q7]; exact h⟩
 · refine ⟨rfl,rfl,kK _,?_⟩
   have e:∀ i j:Str,(i == j)=decide (i=j):=fun i j=>by rw [Ni]; simp
   simp only [eqT,e]; exact h
 · exact ⟨rfl,rfl,kK _,by simp only [eqT,Q7]; exact h⟩
 · exact h
theorem CF {K:PySem.W.Frag}:qy K (F_ K false) OS:=by
 intro Z tm O ρ σ H x y v w q Q I h1 h2 h k
 obtain ⟨p1,p2,d,h⟩:=F' h
 exact ⟨x,y,h1.bare,h2.bare,p1,p2,d,k _ h _ H (aJ.refl H) ⟨I,by rw [if_neg nS]; exact du⟩⟩
theorem CG {K:PySem.W.Frag}:qy K (F_ K true) OT:=by
 intro Z tm O ρ σ H x y v w q Q I h1 h2 h k
 obtain ⟨p1,p2,d,h⟩:=Ga h
 exact ⟨x,y,h1.bare,h2.bare,p1,p2,d,k _ h _ H (aJ.refl H) ⟨I,by rw [if_pos rfl]; exact du⟩⟩
def K4 (g:Int→Int→Bool) (x y:T) (q:Rt→Prop):Prop:=match x,y with
 | .int i,.int j=>q (.vw (.bl (g i j)))
 | _,_=>False
section
variable {K:PySem.W.Frag}
end
def K5 (x y:T) (q:Rt→Prop):Prop:=match x,y with
 | .int i,.int j=>q (.vw (.int (i - j)))
 | _,_=>False
theorem Gb {K:PySem.W.Frag}:qy K (rz fun i j=>.int (i - j)) K5:=by
 intro Z tm O ρ σ H x y v w q Q I h1 h2 h k
 unfold K5 at h
 split at h
 · exact ⟨_,_,h1.int,h2.int,k _ h _ H (aJ.refl H) ⟨I,bq⟩⟩
 · exact h.elim
def K6 (x y:T) (q:Rt→Prop):Prop:=match x,y with
 | .int i,.int j=>Cc i j∧q (.vw (.int (i * j)))
 | _,_=>False
theorem Ge {K:PySem.W.Frag}:qy K (rI Cc fun i j=>.int (i * j)) K6:=by
 intro Z tm O ρ σ H x y v w q Q I h1 h2 h k
 unfold K6 at h
 split at h
 · exact ⟨_,_,h1.int,h2.int,h.1,k _ h.2 _ H (aJ.refl H) ⟨I,bq⟩⟩
 · exact h.elim
def K7 (x y:T) (q:Rt→Prop):Prop:=match x,y with
 | .int i,.int j=>(0 < j∧j < 1073741824)∧q (.vw (.int (i / j)))
 | _,_=>False
theorem Gf {K:PySem.W.Frag}:qy K (rI Ob fun i j=>.int (i / j)) K7:=by
 intro Z tm O ρ σ H x y v w q Q I h1 h2 h k
 unfold K7 at h
 split at h
 · exact ⟨_,_,h1.int,h2.int,h.1,k _ h.2 _ H (aJ.refl H) ⟨I,bq⟩⟩
 · exact h.elim
def K8 (x y:T) (q:Rt→Prop):Prop:=match x,y with
 | .int i,.int j=>0 < j∧q (.vw (.int (i % j)))
 | _,_=>False
theorem Gg {K:PySem.W.Frag}:qy K (rI (fun _ j=>0 < j) fun i j=>.int (i % j)) K8:=by
 intro Z tm O ρ σ H x y v w q Q I h1 h2 h k
 unfold K8 at h
 split at h
 · exact ⟨_,_,h1.int,h2.int,h.1,k _ h.2 _ H (aJ.refl H) ⟨I,bq⟩⟩
 · exact h.elim
def K9 (x y:T) (q:Rt→Prop):Prop:=match x,y with
 | .int i,.int j=>(0≤j∧j≤1000000∧i.natAbs < 2 ^ 64)∧q (.vw (.int (i ^ j.toNat)))
 | _,_=>False
theorem Gh {K:PySem.W.Frag}:qy K (rI Oc fun i j=>.int (i ^ j.toNat)) K9:=by
 intro Z tm O ρ σ H x y v w q Q I h1 h2 h k
 unfold K9 at h
 split at h
 · exact ⟨_,_,h1.int,h2.int,h.1,k _ h.2 _ H (aJ.refl H) ⟨I,bq⟩⟩
 · exact h.elim
def Tt (x y:T) (q:Rt→Prop):Prop:=match x,y with
 | .int i,.int j=>q (.vw (.bl (decide (i < j))))
 | _,_=>False
theorem K_ {K:PySem.W.Frag}:qy K (rz fun i j=>.bl (decide (i < j))) Tt:=by
 intro Z tm O ρ σ H x y v w q Q I h1 h2 h k
 unfold Tt at h
 split at h
 · exact ⟨_,_,h1.int,h2.int,k _ h _ H (aJ.refl H) ⟨I,du⟩⟩
 · exact h.elim
def Tu (x y:T) (q:Rt→Prop):Prop:=match x,y with
 | .int i,.int j=>q (.vw (.bl (decide (i≤j))))
 | _,_=>False
theorem K' {K:PySem.W.Frag}:qy K (rz fun i j=>.bl (decide (i≤j))) Tu:=by
 intro Z tm O ρ σ H x y v w q Q I h1 h2 h k
 unfold Tu at h
 split at h
 · exact ⟨_,_,h1.int,h2.int,k _ h _ H (aJ.refl H) ⟨I,du⟩⟩
 · exact h.elim
def Tv (x y:T) (q:Rt→Prop):Prop:=match x,y with
 | .int i,.int j=>q (.vw (.bl (decide (j < i))))
 | _,_=>False
theorem La {K:PySem.W.Frag}:qy K (rz fun i j=>.bl (decide (j < i))) Tv:=by
 intro Z tm O ρ σ H x y v w q Q I h1 h2 h k
 unfold Tv at h
 split at h
 · exact ⟨_,_,h1.int,h2.int,k _ h _ H (aJ.refl H) ⟨I,du⟩⟩
 · exact h.elim
def IC (x y:T) (q:Rt→Prop):Prop:=match x,y with
 | .int i,.int j=>q (.vw (.int (i+j)))
 | _,_=>False
theorem CH {K:PySem.W.Frag}:qy K (rz fun i j=>.int (i+j)) IC:=by
 intro Z tm O ρ σ H x y v w q Q I h1 h2 h k
 unfold IC at h
 split at h
 · exact ⟨_,_,h1.int,h2.int,k _ h _ H (aJ.refl H) ⟨I,bq⟩⟩
 · exact h.elim
def ID (K:PySem.W.Frag):R2:=fun x y H Q=>∃ l b xs zs,x = .ref l∧y = .ref b∧eY K H l xs∧eY K H b zs∧xs.length+zs.length≤sizeLine∧∀ p,H p=none→Q (.ref p) (upd H p (.lst (xs ++ zs)))
def IE (K:PySem.W.Frag):R2:=fun x y H Q=>∃ a b xs ys,x = .ref a∧y = .ref b∧d9 K H a xs∧d9 K H b ys∧xs.length+ys.length≤sizeLine∧(xs=[]→Q (.ref b) H)∧(xs≠[]→ys=[]→Q (.ref a) H)∧(xs≠[]→ys≠[]→∀ p,H p=none→Q (.ref p) (upd H p (.tup (xs ++ ys))))
section
variable {X:Cx}
theorem Gi:fq X (binaryOp .Add) (ID X.K):=by
 intro pins s σ H x y v u Q I rx ry h
 obtain ⟨l,b,xs,zs,rfl,rfl,hH,hB,hz,q⟩:=h
 cases rx
 cases ry
 obtain ⟨aK,r,p1,z1⟩:=I.list hH
 obtain ⟨e7,r2,p2,z2⟩:=I.list hB
 obtain ⟨⟨cls,dd,data,sl⟩,n,ho,hc,_,hd⟩:=p1
 obtain ⟨⟨Oi,Nn,data2,yS⟩,n2,BQ,BR,_,hd2⟩:=p2
 simp only at hc hd BR hd2
 subst hc hd BR hd2
 have l1:=r.length
 have l2:=r2.length
 have e:aK.toArray ++ e7.toArray=(aK ++ e7).toArray:=by simp
 refine concat_meets ⟨_,ho,rfl⟩ ⟨_,BQ,rfl⟩ noFill_list_add seq_list_add PySem.F.slot_list_add PySem.F.entry_list_add (PySem.F.args_list_add_2 _ _) (list_addW l b aK.toArray e7.toArray n n2 dd Nn sl yS (by simp only [gS]; omega)) ⟨ho,BQ,?_⟩
 rw [e]
 exact ⟨.ref _,_,I.S0 (t':=s.toks) (r.append r2) (by rw [nU]; omega),rfl,q _ I.fresh⟩
theorem Gj:fq X (binaryOp .Add) (IE X.K):=by
 intro pins s σ H x y v u Q I rx ry h
 obtain ⟨a,b,xs,ys,rfl,rfl,ha,hb,hz,q0,q1,q2⟩:=h
 cases rx
 cases ry
 obtain ⟨aK,r1,p1,_⟩:=I.tuple ha
 obtain ⟨e7,r2,p2,_⟩:=I.tuple hb
 by_cases hx:xs=[]
 · obtain ⟨⟨cls,dd,data,sl⟩,ho,hc,n,hd⟩:=id p1
   obtain ⟨⟨Oi,Nn,data2,yS⟩,BQ,BR,n2,hd2⟩:=id p2
   simp only at hc hd BR hd2
   subst hc hd BR hd2
   exact concat_meets ⟨_,ho,rfl⟩ ⟨_,BQ,rfl⟩ noFill_tuple_add seq_tuple_add Sg Sd (Sb _ _)
    (tuple_addW0 a b aK.toArray e7.toArray n n2 dd Nn sl yS (by simp [r1.n6.mpr hx])) ⟨ho,BQ,⟨.ref b,H,I,rfl,q0 hx⟩⟩
 · refine HT.FN p1 p2 (fun z=>hx (r1.n6.mp z)) (fun z=>⟨.ref a,H,I,rfl,q1 hx (r2.n6.mp z)⟩) (fun z=>?_) (by rw [← r1.length,← r2.length]; exact hz)
   refine ⟨.ref s.heap.objs.size,_,I.laid (t':=s.toks) (o:=.tup (xs ++ ys)) (fun b ob q=>dB _ q) (d8 _) ?_,rfl,q2 hx (fun w=>z (r2.n6.mpr w)) _ (I.bD.fresh (d8 _))⟩
   exact ⟨by rw [nU]; exact hz,_,r1.append r2,IsTup.new _ _⟩
end
def IF (K:PySem.W.Frag):R2:=fun x y H Q=>rz (fun i j=>.int (i+j)) x y H Q∨(fun x y H Q=>∃ i j,x = .str i∧y = .str j∧i.length+j.length≤sizeLine∧Q (.str (i ++ j)) H) x y H Q∨ID K x y H Q∨IE K x y H Q
theorem Gk {X:Cx}:fq X (binaryOp .Add) (IF X.K):=fq.or Kl (fq.or wV (fq.or Gi Gj))
def Lb (x y:T) (q:Rt→Prop):Prop:=match x,y with
 | .int i,.int j=>q (.vw (.int (i+j)))
 | .str i,.str j=>i.length+j.length≤sizeLine∧q (.vw (.str (i ++ j)))
 | .lst a,.lst b=>a.length+b.length≤sizeLine∧q (.fr (.lst (a ++ b)))
 | .tup a,.tup b=>a.length+b.length≤sizeLine∧q (.vw (.tup (a ++ b)))
 | _,_=>False
theorem Gm {K:PySem.W.Frag}:qy K (IF K) Lb:=by
 intro Z tm O ρ σ H x y v w q Q I h1 h2 h k
 unfold Lb at h
 split at h
 · exact .inl ⟨_,_,h1.int,h2.int,k _ h _ H (aJ.refl H) ⟨I,bq⟩⟩
 · exact .inr (.inl ⟨_,_,h1.str,h2.str,h.1,k _ h.2 _ H (aJ.refl H) ⟨I,cc⟩⟩)
 · obtain ⟨a,vs,rfl,s1,a1⟩:=h1.lst
   obtain ⟨b,ws,rfl,s2,a2⟩:=h2.lst
   exact .inr (.inr (.inl ⟨a,b,vs,ws,rfl,rfl,s1,s2,by rw [a1.length,a2.length]; exact h.1,fun p hp=>k _ h.2 _ _ (aS hp) (I.Cz hp (a1.append a2))⟩))
 · obtain ⟨a,vs,rfl,s1,a1⟩:=h1.tup
   obtain ⟨b,ws,rfl,s2,a2⟩:=h2.tup
   refine .inr (.inr (.inr ⟨a,b,vs,ws,rfl,rfl,s1,s2,by rw [a1.length,a2.length]; exact h.1,fun e=>?_,fun _ e=>?_,fun _ _ p hp=>?_⟩))
   · subst e
     have e:=a1.length
     rename_i xs ys
     have e':xs=[]:=Q3.mp e.symm
     subst e'
     exact k _ h.2 _ H (aJ.refl H) ⟨I,bA s2 a2⟩
   · subst e
     have e:=a2.length
     rename_i xs ys _
     have e':ys=[]:=Q3.mp e.symm
     subst e'
     exact k _ h.2 _ H (aJ.refl H) ⟨I,by rw [EY]; exact bA s1 a1⟩
   · exact k _ h.2 _ _ (aS hp) ⟨I.same (aS hp),bA (d9.of aQ) ((a1.append a2).same (aS hp))⟩
 · exact h.elim
section
variable {X:Cx} {Z:Zc} {e a b:Expr} {es:List Expr} {pos:Pos} {fa fb:FE}
theorem bu (ha:VR X Z a fa) (hb:VR X Z b fb):VP X Z (.BinOp a .Add b pos) (f2 fa fb Lb):=l9 Gk Gm ha hb
theorem ki (ha:VR X Z a fa) (hb:VR X Z b fb):VP X Z (.BinOp a .Sub b pos) (f2 fa fb K5):=l9 Km Gb ha hb
theorem gm (ha:VR X Z a fa) (hb:VR X Z b fb):VP X Z (.BinOp a .Mult b pos) (f2 fa fb K6):=l9 Kn Ge ha hb
theorem a_ (ha:VR X Z a fa) (hb:VR X Z b fb):VP X Z (.BinOp a .FloorDiv b pos) (f2 fa fb K7):=l9 FC Gf ha hb
theorem aT (ha:VR X Z a fa) (hb:VR X Z b fb):VP X Z (.BinOp a .Mod b pos) (f2 fa fb K8):=l9 Ko Gg ha hb
theorem i6 (ha:VR X Z a fa) (hb:VR X Z b fb):VP X Z (.BinOp a .Pow b pos) (f2 fa fb K9):=l9 Kq Gh ha hb
def Tw (f:FE):FP:=fun ρ Q=>f ρ fun x=>match x with
 | .int i=>Q (.vw (.int (-i)))
 | _=>False
theorem kj (ha:VR X Z a fa):VP X Z (.UnaryOp .USub a pos) (Tw fa):=.mk fun tm=>PE.weak (Oa Kr (ha tm)) fun σ H Q ⟨ρ,O,q,I,hf,k⟩=>⟨ρ,O,_,I,hf,fun t ht v H1 s1 a1=>by
 split at ht
 · exact ⟨_,a1.int,k _ ht _ H1 s1 ⟨I.same s1,bq⟩⟩
 · exact ht.elim⟩
theorem rK (hu:X.A.units+101 < cLine) (ha:VR X Z a fa) (hb:VR X Z b fb):VP X Z (.Compare a [.Eq] [b] pos) (f2 fa fb OS):=oM (CC hu) CF ha hb (iT _)
theorem IG (hu:X.A.units+101 < cLine) (ha:VR X Z a fa) (hb:VR X Z b fb):VP X Z (.Compare a [.NotEq] [b] pos) (f2 fa fb OT):=oM (CD hu) CG ha hb (iT _)
theorem OU (ha:VR X Z a fa) (hb:VR X Z b fb):VP X Z (.Compare a [.LtE] [b] pos) (f2 fa fb Tu):=oM yQ K' ha hb (iT _)
theorem bJ (hu:X.A.units+101 < cLine) (ha:VR X Z a fa) (hb:VR X Z b fb):VC X Z (.Compare a [.Eq] [b] pos) (sT (f2 fa fb OS)):=l_ (CC hu) CF ha hb (iT _)
theorem kW (hu:X.A.units+101 < cLine) (ha:VR X Z a fa) (hb:VR X Z b fb):VC X Z (.Compare a [.NotEq] [b] pos) (sT (f2 fa fb OT)):=l_ (CD hu) CG ha hb (iT _)
theorem i7 (ha:VR X Z a fa) (hb:VR X Z b fb):VC X Z (.Compare a [.Lt] [b] pos) (sT (f2 fa fb Tt)):=l_ Iu K_ ha hb (iT _)
theorem mZ (ha:VR X Z a fa) (hb:VR X Z b fb):VC X Z (.Compare a [.Gt] [b] pos) (sT (f2 fa fb Tv)):=l_ Od La ha hb (iT _)
def f3 (fa fb fc:FE) (p p':T→T→(Rt→Prop)→Prop):FP:=fun ρ Q=>fa ρ fun x=>fb ρ fun y=>p x y fun r=>match r with
 | .vw (.bl true)=>fc ρ fun z=>p' y z Q
 | .vw (.bl false)=>Q (.vw (.bl false))
 | _=>False
end
theorem CI {K:PySem.W.Frag} {H:Hp} {A:List Addr} {ts:List T} {vs:List V} {i:Int} {t:T} (h:aE K H A ts vs) (e:lQ ts i=some t):∃ v,lQ vs i=some v∧At K H A t v:=by
 unfold lQ at e ⊢
 rw [h.length]
 cases q:yV ts.length i with
 | none=>rw [q] at e; cases e
 | some j =>
   rw [q] at e
   obtain ⟨v,h1,h2⟩:=h.get (i:=j) e
   exact ⟨v,h1,h2⟩
def Tx (x y:T) (q:Rt→Prop):Prop:=match x,y with
 | .lst ts,.int i=>∃ t,lQ ts i=some t∧q (.vw t)
 | .tup ts,.int i=>∃ t,lQ ts i=some t∧q (.vw t)
 | .str z,.int i=>z.length≤sizeLine∧∃ c,lQ z.cps.toList i=some c∧q (.vw (.str ⟨#[c]⟩))
 | _,_=>False
theorem Lc {K:PySem.W.Frag}:qy K (V5 K) Tx:=by
 intro Z tm O ρ σ H x y v w q Q I h1 h2 h k
 unfold Tx at h
 split at h
 · obtain ⟨t,e,h⟩:=h
   obtain ⟨a,vs,rfl,s1,a1⟩:=h1.lst
   obtain ⟨u,e',a2⟩:=CI a1 e
   exact .inl ⟨a,vs,_,u,rfl,h2.int,s1,e',k _ h _ H (aJ.refl H) ⟨I,a2⟩⟩
 · obtain ⟨t,e,h⟩:=h
   obtain ⟨a,vs,rfl,s1,a1⟩:=h1.tup
   obtain ⟨u,e',a2⟩:=CI a1 e
   exact .inr (.inl ⟨a,vs,_,u,rfl,h2.int,s1,e',k _ h _ H (aJ.refl H) ⟨I,a2⟩⟩)
 · obtain ⟨hz,c,e,h⟩:=h
   exact .inr (.inr ⟨_,_,c,h1.str,h2.int,hz,e,k _ h _ H (aJ.refl H) ⟨I,cc⟩⟩)
 · exact h.elim
section
variable {X:Cx} {Z:Zc} {e a b:Expr} {es:List Expr} {pos:Pos} {fa fb:FE}
theorem aW (ha:VR X Z a fa) (hb:VR X Z b fb) (hs:yX b:=by exact fun _ _=>rfl):VP X Z (.Subscript a b pos) (f2 fa fb Tx) :=
 .mk fun tm=>PE.weak (Oo KI (ha tm) (hb tm) hs) (two Lc)
end
abbrev FO:=En→(Option Int→Prop)→Prop
def lO (X:Cx) (Z:Zc) (tm:List (T×V)) (f:FO):TO:=fun σ H Q=>∃ ρ O q,aw X.K Z tm O ρ σ H∧f ρ q∧∀ o,q o→∀ H',aJ H H'→Q o H'
def VO (X:Cx) (Z:Zc) (e:Option Expr) (f:FO):Prop:=Bx fun tm=>PO X e (lO X Z tm f)
instance {X:Cx} {Z:Zc} {e:Option Expr} {f:FO}:CoeFun (VO X Z e f) fun _=>∀ tm,PO X e (lO X Z tm f):=⟨fun h=>Bx.h h⟩
theorem PO.weak {X:Cx} {e:Option Expr} {t t':TO} (h:PO X e t) (hw:∀ σ H Q,t' σ H Q→t σ H Q):PO X e t':=fun pins s σ H Q I q=>h pins s σ H Q I (hw _ _ _ q)
def Xn:FO:=fun _ Q=>Q none
def Xo (f:FE):FO:=fun ρ Q=>f ρ fun t=>match t with
 | .int i=>Q (some i)
 | _=>False
def nG {α:Type} (xs:List α) (lo hi:Option Int):List α:=(xs.drop (HT.dy xs.length 0 lo)).take (HT.dy xs.length xs.length hi - HT.dy xs.length 0 lo)
theorem aE.cut {K:PySem.W.Frag} {H:Hp} {A:List Addr} {ts:List T} {vs:List V} (h:aE K H A ts vs) (lo hi:Option Int):aE K H A (nG ts lo hi) (uN vs lo hi):=by
 unfold nG uN
 rw [h.length]
 exact (h.drop _).take _
def Tz (K:PySem.W.Frag):V→Option Int→Option Int→Hp→VK→Prop:=fun x lo hi H Q=>Ow K x lo hi H Q∨Om K x lo hi H Q∨OM x lo hi H Q
theorem TB {X:Cx}:Ck X (Tz X.K):=Ck.or FW (Ck.or KD KZ)
def Wd (x:T) (lo hi:Option Int) (q:Rt→Prop):Prop:=match x with
 | .lst ts=>q (.fr (.lst (nG ts lo hi)))
 | .tup ts=>¬ (HT.dy ts.length 0 lo=0∧HT.dy ts.length ts.length hi=ts.length)∧q (.vw (.tup (nG ts lo hi)))
 | .str z=>z.length≤sizeLine∧q (.vw (.str (Txt.slice z lo hi)))
 | _=>False
def Xp (fa:FE) (fl fh:FO):FP:=fun ρ Q=>fa ρ fun x=>fl ρ fun lo=>fh ρ fun hi=>Wd x lo hi Q
section
variable {X:Cx} {Z:Zc} {e a b:Expr} {lo hi:Option Expr} {pos p2:Pos} {fa:FE} {fl fh:FO}
theorem n_:VO X Z none Xn:=.mk fun tm=>PO.weak FR fun σ H Q ⟨ρ,O,q,I,hf,k⟩=>k _ hf H (aJ.refl H)
theorem jD (h:VR X Z e fa):VO X Z (some e) (Xo fa):=.mk fun tm=>PO.weak (FT (h tm)) fun σ H Q ⟨ρ,O,q,I,hf,k⟩=>⟨ρ,O,_,I,hf,fun t ht v H' s z=>by
 split at ht
 · exact ⟨_,z.int,k _ ht H' s⟩
 · exact ht.elim⟩
theorem i8 (he:VR X Z e fa) (hl:VO X Z lo fl) (hh:VO X Z hi fh):VP X Z (.Subscript e (.Slice lo hi none p2) pos) (Xp fa fl fh) :=
 .mk fun tm=>PE.weak (Cm TB (he tm) (hl tm) (hh tm)) fun σ H Q ⟨ρ,O,q,I,hf,k⟩=>⟨ρ,O,_,I,hf,fun x hx v H1 s1 a1=>⟨ρ,O,_,I.same s1,hx,fun l hl H2 s2=>⟨ρ,O,_,(I.same s1).same s2,hl,fun u hu H3 s3=>by
  have J:=((I.same s1).same s2).same s3
  have a3:=(a1.same s2).same s3
  have S:=(s1.trans s2).trans s3
  unfold Wd at hu
  split at hu
  · obtain ⟨p,vs,rfl,q1,q2⟩:=a3.lst
    exact .inl ⟨p,vs,rfl,q1,fun r hr=>k _ hu _ _ (S.trans (aS hr)) (J.Cz hr (q2.cut _ _))⟩
  · obtain ⟨p,vs,rfl,q1,q2⟩:=a3.tup
    refine .inr (.inl ⟨p,vs,rfl,q1,by rw [q2.length]; exact hu.1,fun r hr=>k _ hu.2 _ _ (S.trans (aS hr)) ⟨J.same (aS hr),bA (d9.of aQ) ((q2.cut _ _).same (aS hr))⟩⟩)
  · exact .inr (.inr ⟨_,a3.str,hu.1,k _ hu.2 _ H3 S ⟨J,cc⟩⟩)
  · exact hu.elim⟩⟩⟩
end
def IH (g:FA) (p:List T→(Rt→Prop)→Prop):FP:=fun ρ Q=>g ρ fun ts=>p ts Q
def j5 (K:PySem.W.Frag) (r:List V→Hp→VK→Prop) (p:List T→(Rt→Prop)→Prop):Prop :=
 ∀ (Z:Zc) (tm:List (T×V)) (O:List (Option Addr)) (ρ:En) (σ:St) (H:Hp) (ts:List T) (vs:List V) (q:Rt→Prop) (Q:VK),aw K Z tm O ρ σ H→Paired (fun v t=>gT K H (av Z O) t v) vs ts→p ts q →
  (∀ t,q t→∀ u H',aJ H H'→iX K Z tm O ρ σ H' t u→Q u H')→r vs H Q
section
variable {X:Cx} {Z:Zc} {e a b:Expr} {es:List Expr} {pos p:Pos} {g:FA} {x:Str} {id Ty:String} {r:List V→Hp→VK→Prop} {pp:List T→(Rt→Prop)→Prop}
theorem ay (hc:cw X (.builtin id) r) (ht:j5 X.K r pp) (hg:Gl X x) (hm:X.mg x=none) (hv:bootBuiltins x=some (.builtin id)) (ha:E8 X Z (e :: es) g) (hn:x≠"__name__":=by decide) (lZ:gh x:=by decide)
  (hs:starEach (e :: es) X.env=(false,eval e X.env) :: starEach es X.env:=by rfl) (fg:(backTo pos (starEach es X.env)).any (·.1)=false:=by rfl):VP X Z (.Call (.Name x p) (e :: es) [] pos) (IH g pp) :=
 .mk fun tm=>PE.weak (kS hc hg hm hv (ha tm) hn lZ hs fg) fun σ H Q ⟨ρ,O,q,I,hf,k⟩=>⟨ρ,O,_,I,hf,fun ts gU vs H1 s1 a1=>ht Z tm O ρ σ H1 ts vs q _ (I.same s1) a1 gU fun t h u H' s z=>k t h u H' (s1.trans s) z⟩
theorem dw (hc:cw X (.type Ty) r) (ht:j5 X.K r pp) (hg:Gl X x) (hm:X.mg x=none) (hv:bootBuiltins x=some (.type Ty)) (ha:E8 X Z (e :: es) g) (hn:x≠"__name__":=by decide) (lZ:gh x:=by decide)
  (hs:starEach (e :: es) X.env=(false,eval e X.env) :: starEach es X.env:=by rfl) (fg:(backTo pos (starEach es X.env)).any (·.1)=false:=by rfl):VP X Z (.Call (.Name x p) (e :: es) [] pos) (IH g pp) :=
 .mk fun tm=>PE.weak (rE hc hg hm hv (ha tm) hn lZ hs fg) fun σ H Q ⟨ρ,O,q,I,hf,k⟩=>⟨ρ,O,_,I,hf,fun ts gU vs H1 s1 a1=>ht Z tm O ρ σ H1 ts vs q _ (I.same s1) a1 gU fun t h u H' s z=>k t h u H' (s1.trans s) z⟩
end
def OW (ts:List T) (q:Rt→Prop):Prop:=match ts with
 | [.lst l]=>q (.vw (.int l.length))
 | [.tup l]=>q (.vw (.int l.length))
 | [.str z]=>z.length≤sizeLine∧q (.vw (.int z.length))
 | _=>False
def II (K:PySem.W.Frag):List V→Hp→VK→Prop:=fun xs H Q=>(∃ p ys,xs=[.ref p]∧(eY K H p ys∨d9 K H p ys)∧Q (.int ys.length) H)∨(∃ z,xs=[.str z]∧z.length≤sizeLine∧Q (.int z.length) H)
theorem az {X:Cx}:cw X (.builtin "len") (II X.K):=cw.or sO sP
theorem bY {α β:Type} {F:α→β→Prop} {vs:List α} {t:β} (h:Paired F vs [t]):∃ v,vs=[v]∧F v t:=by
 cases h with
 | cons r q=>cases q; exact ⟨_,rfl,r⟩
theorem Gn {α β:Type} {F:α→β→Prop} {vs:List α} {t u:β} (h:Paired F vs [t,u]):∃ v w,vs=[v,w]∧F v t∧F w u:=by
 cases h with
 | cons r q=>cases q with
   | cons r2 q2=>cases q2; exact ⟨_,_,rfl,r,r2⟩
theorem aA {K:PySem.W.Frag}:j5 K (II K) OW:=by
 intro Z tm O ρ σ H ts vs q Q I h hp k
 unfold OW at hp
 split at hp
 · obtain ⟨v,rfl,a⟩:=bY h
   obtain ⟨p,ws,rfl,q1,q2⟩:=a.lst
   exact .inl ⟨p,ws,rfl,.inl q1,k _ hp _ H (aJ.refl H) ⟨I,by rw [q2.length]; exact bq⟩⟩
 · obtain ⟨v,rfl,a⟩:=bY h
   obtain ⟨p,ws,rfl,q1,q2⟩:=a.tup
   exact .inl ⟨p,ws,rfl,.inr q1,k _ hp _ H (aJ.refl H) ⟨I,by rw [q2.length]; exact bq⟩⟩
 · obtain ⟨v,rfl,a⟩:=bY h
   exact .inr ⟨_,by rw [a.str],hp.1,k _ hp.2 _ H (aJ.refl H) ⟨I,bq⟩⟩
 · exact hp.elim
def IJ (ts:List T) (q:Rt→Prop):Prop:=match ts with
 | [.lst l]=>q (.fr (.lst l))
 | [.tup l]=>q (.fr (.lst l))
 | _=>False
theorem fF {K:PySem.W.Frag}:j5 K (fun xs H Q=>∃ p ys,xs=[.ref p]∧(eY K H p ys∨d9 K H p ys)∧∀ l,H l=none→Q (.ref l) (upd H l (.lst ys))) IJ:=by
 intro Z tm O ρ σ H ts vs q Q I h hp k
 unfold IJ at hp
 split at hp
 · obtain ⟨v,rfl,a⟩:=bY h
   obtain ⟨p,ws,rfl,q1,q2⟩:=a.lst
   exact ⟨p,ws,rfl,.inl q1,fun l hl=>k _ hp _ _ (aS hl) (I.Cz hl q2)⟩
 · obtain ⟨v,rfl,a⟩:=bY h
   obtain ⟨p,ws,rfl,q1,q2⟩:=a.tup
   exact ⟨p,ws,rfl,.inr q1,fun l hl=>k _ hp _ _ (aS hl) (I.Cz hl q2)⟩
 · exact hp.elim
def CJ (ts:List T) (q:Rt→Prop):Prop:=match ts with
 | [.lst l]=>q (.vw (.tup l))
 | [.tup l]=>q (.vw (.tup l))
 | _=>False
theorem m9 {K:PySem.W.Frag}:j5 K (fun xs H Q=>∃ p ys,xs=[.ref p]∧((eY K H p ys∧∀ l,H l=none→Q (.ref l) (upd H l (.tup ys)))∨(d9 K H p ys∧Q (.ref p) H))) CJ:=by
 intro Z tm O ρ σ H ts vs q Q I h hp k
 unfold CJ at hp
 split at hp
 · obtain ⟨v,rfl,a⟩:=bY h
   obtain ⟨p,ws,rfl,q1,q2⟩:=a.lst
   exact ⟨p,ws,rfl,.inl ⟨q1,fun l hl=>k _ hp _ _ (aS hl) ⟨I.same (aS hl),bA (d9.of aQ) (q2.same (aS hl))⟩⟩⟩
 · obtain ⟨v,rfl,a⟩:=bY h
   obtain ⟨p,ws,rfl,q1,q2⟩:=a.tup
   exact ⟨p,ws,rfl,.inr ⟨q1,k _ hp _ H (aJ.refl H) ⟨I,bA q1 q2⟩⟩⟩
 · exact hp.elim
structure IK where
 nx:En→Prop
 rt:En→Rt→Prop
 bk:En→Prop:=fun _=>False
 ct:En→Prop:=fun _=>False
structure Fin (K:PySem.W.Frag) (Z:Zc) (tm:List (T×V)) (d:IK) (D:Ends):Prop where
 nx:∀ O ρ σ H,aw K Z tm O ρ σ H→d.nx ρ→D.nx σ H
 rt:∀ O ρ σ H r v,iX K Z tm O ρ σ H r v→d.rt ρ r→D.rt v H
 bk:∀ O ρ σ H,aw K Z tm O ρ σ H→d.bk ρ→D.bk σ H
 ct:∀ O ρ σ H,aw K Z tm O ρ σ H→d.ct ρ→D.ct σ H
abbrev FS:=IK→En→Prop
def lS (X:Cx) (Z:Zc) (tm:List (T×V)) (g:FS):TS:=fun D σ H=>∃ ρ O d,aw X.K Z tm O ρ σ H∧g d ρ∧Fin X.K Z tm d D
def VS (X:Cx) (Z:Zc) (st:Stmt) (g:FS):Prop:=Bx fun tm=>PS X st (lS X Z tm g)
instance {X:Cx} {Z:Zc} {st:Stmt} {g:FS}:CoeFun (VS X Z st g) fun _=>∀ tm,PS X st (lS X Z tm g):=⟨fun h=>Bx.h h⟩
def jE (X:Cx) (Z:Zc) (st:List Stmt) (g:FS):Prop:=Bx fun tm=>nE X st (lS X Z tm g)
instance {X:Cx} {Z:Zc} {st:List Stmt} {g:FS}:CoeFun (jE X Z st g) fun _=>∀ tm,nE X st (lS X Z tm g):=⟨fun h=>Bx.h h⟩
def aY (Z:Zc) (i:Nat):Prop:=∀ p∈Z.P,p.1≠i
section
variable {X:Cx} {Z:Zc} {st:Stmt} {rest:List Stmt} {g u:FS} {e:Expr} {pos:Pos}
def OX:FS:=fun d ρ=>d.nx ρ
def TC (g u:FS):FS:=fun d ρ=>g { d with nx:=u d } ρ
theorem ax:jE X Z [] OX:=.mk fun tm=>nE.u3 Fv fun D σ H ⟨ρ,O,d,I,h,F⟩=>F.nx O ρ σ H I h
theorem af (h1:VS X Z st g) (h2:jE X Z rest u):jE X Z (st :: rest) (TC g u):=.mk fun tm=>nE.u3 (kO (h1 tm) (h2 tm)) fun D σ H ⟨ρ,O,d,I,h,F⟩ =>
 ⟨ρ,O,{ d with nx:=u d },I,h,⟨fun O' ρ' σ' H' I' h'=>⟨ρ',O',d,I',h',F⟩,F.rt,F.bk,F.ct⟩⟩
theorem ah (h1:VS X Z st g):jE X Z [st] g:=.mk fun tm=>nZ (h1 tm)
theorem jE.weak (h:jE X Z rest g) (hw:∀ d ρ,u d ρ→g d ρ):jE X Z rest u:=.mk fun tm=>nE.u3 (h tm) fun D σ H ⟨ρ,O,d,I,q,F⟩=>⟨ρ,O,d,I,hw d ρ q,F⟩
def OY (f:FX):FS:=fun d ρ=>f ρ fun ρ' _=>d.nx ρ'
theorem aX {f:FX} (h:VX X Z e f) (hs:swapsWith e none pos.line X.env=pure false:=by rfl):VS X Z (.Expr e pos) (OY f):=.mk fun tm=>PS.weak (kP (h tm) hs) fun D σ H ⟨ρ,O,d,I,q,F⟩ =>
 ⟨ρ,O,_,I,q,fun ρ' r hr O' v H' z=>F.nx O' ρ' σ H' z.env hr⟩
def TF (f:FX):FS:=fun d ρ=>f ρ fun ρ' r=>d.rt ρ' r
theorem aH {f:FX} (h:VX X Z e f):VS X Z (.Return (some e) pos) (TF f):=.mk fun tm=>PS.weak (JZ (h tm)) fun D σ H ⟨ρ,O,d,I,q,F⟩ =>
 ⟨ρ,O,_,I,q,fun ρ' r hr O' v H' z=>F.rt O' ρ' σ H' r v z hr⟩
def Xq (c:FB) (g u:FS):FS:=fun d ρ=>c ρ fun b=>if b=true then g d ρ else u d ρ
theorem aP {c:Expr} {fc:FB} {a b:List Stmt} (hc:VC X Z c fc) (ha:jE X Z a g) (hb:jE X Z b u):VS X Z (.If c a b pos) (Xq fc g u):=.mk fun tm=>PS.weak (N4 (hc tm) (ha tm) (hb tm)) fun D σ H ⟨ρ,O,d,I,q,F⟩ =>
 ⟨ρ,O,_,I,q,fun b hb H' s=>by
   cases b with
   | true=>rw [if_pos rfl] at hb ⊢; exact ⟨ρ,O,d,I.same s,hb,F⟩
   | false=>rw [if_neg nS] at hb ⊢; exact ⟨ρ,O,d,I.same s,hb,F⟩⟩
def OZ (i:Nat) (f:FX):FS:=fun d ρ=>f ρ fun ρ' r=>d.nx (ρ'.set i (some (r.t,false)))
def TH (i:Nat) (f:FX):FS:=fun d ρ=>f ρ fun ρ' r=>match r with
 | .fr t=>d.nx (ρ'.set i (some (t,true)))
 | _=>False
theorem aL {i:Nat} {x:Str} {f:FX} {pos':Pos} (hN:X.N.Nodup) (hi:X.N[i]?=some x) (hx:Loc X.env.scope x) (he:VX X Z e f) (hp:aY Z i) (hs:swapsWith e (some (.Name x pos')) pos.line X.env=pure false:=by rfl)
  (hf:X.fn x=true∨X.env.scope.names.lookup x=some .local:=by first | exact .inl rfl | exact .inr rfl | assumption):VS X Z (.Assign [.Name x pos'] e pos) (OZ i f):=.mk fun tm=>PS.weak (wM hN hi hx (he tm) hs hf) fun D σ H ⟨ρ,O,d,I,q,F⟩ =>
 ⟨ρ,O,_,I,q,fun ρ' r hr O' v H' z=>F.nx _ _ _ H' (z.env.put hp z.at) hr⟩
theorem eU {i:Nat} {x:Str} {f:FX} {pos':Pos} (hN:X.N.Nodup) (hi:X.N[i]?=some x) (hx:Loc X.env.scope x) (he:VX X Z e f) (hp:aY Z i) (hs:swapsWith e (some (.Name x pos')) pos.line X.env=pure false:=by rfl)
  (hf:X.fn x=true∨X.env.scope.names.lookup x=some .local:=by first | exact .inl rfl | exact .inr rfl | assumption):VS X Z (.Assign [.Name x pos'] e pos) (TH i f):=.mk fun tm=>PS.weak (wM hN hi hx (he tm) hs hf) fun D σ H ⟨ρ,O,d,I,q,F⟩ =>
 ⟨ρ,O,_,I,q,fun ρ' r hr O' v H' z=>by
   split at hr
   · obtain ⟨a,rfl,J,hR,h0,BV⟩:=z
     exact F.nx _ _ _ H' (J.Th hp hR h0 BV) hr
   · exact hr.elim⟩
def O0 (i:Nat) (f:FE) (p:T→T→(Rt→Prop)→Prop):FS:=fun d ρ=>match ρ[i]? with
 | some (some (x,false))=>f ρ fun y=>p x y fun r=>d.nx (ρ.set i (some (r.t,false)))
 | _=>False
theorem Ld {i:Nat} {x:Str} {f:FE} {op:Operator} {r:R2} {p:T→T→(Rt→Prop)→Prop} {pos':Pos} (hN:X.N.Nodup) (hi:X.N[i]?=some x) (hx:Loc X.env.scope x) (he:VR X Z e f) (ho:fq X (inplaceOp op) r) (ht:qy X.K r p) (hp:aY Z i)
  (hf:X.fn x=true∨X.env.scope.names.lookup x=some .local:=by first | exact .inl rfl | exact .inr rfl | assumption):VS X Z (.AugAssign (.Name x pos') op e pos) (O0 i f p):=.mk fun tm=>PS.weak (Kc hN hi hx (he tm) ho hf) fun D σ H ⟨ρ,O,d,I,q,F⟩=>by
 unfold O0 at q
 split at q
 · rename_i t e0
   obtain ⟨o,s,h1,h2,rfl,v,rfl,h3⟩:=I.sl i _ e0
   refine ⟨v,h2,ρ,O,_,I,q,fun y hy w H1 s1 a1=>?_⟩
   exact ht Z tm O ρ σ H1 t y v w _ _ (I.same s1) (.inl (h3.same s1)) a1 hy fun r hr z H2 s2 k=>F.nx _ _ _ H2 (k.env.put hp k.at) hr
 · exact q.elim
def TJ (is:List Nat) (g:FS):FS:=fun d ρ=>g d (is.foldl (fun ρ i=>match ρ[i]? with
 | some (some (t,true))=>ρ.set i (some (t,false))
 | _=>ρ) ρ)
theorem oO {K:PySem.W.Frag} {tm:List (T×V)}:∀ (is:List Nat) {O:List (Option Addr)} {ρ:En} {σ:St} {H:Hp},(∀ i∈is,aY Z i)→aw K Z tm O ρ σ H→∃ O',aw K Z tm O' (is.foldl (fun ρ i=>match ρ[i]? with
 | some (some (t,true))=>ρ.set i (some (t,false))
 | _=>ρ) ρ) σ H
 | [],O,ρ,σ,H,_,I=>⟨O,I⟩
 | i :: is,O,ρ,σ,H,hp,I=>by
   rw [List.foldl_cons]
   have Rv:∀ j∈is,aY Z j:=fun j hj=>hp j (jX _ hj)
   split
   · rename_i t e
     exact oO is Rv (I.uD (hp i iO) e)
   · exact oO is Rv I
theorem y9 (is:List Nat) (h:jE X Z rest g) (hp:∀ i∈is,aY Z i):jE X Z rest (TJ is g):=.mk fun tm=>nE.u3 (h tm) fun D σ H ⟨ρ,O,d,I,q,F⟩=>let ⟨O',I'⟩:=oO is hp I; ⟨_,O',d,I',q,F⟩
end
section
variable {X:Cx} {Z:Zc} {e a b:Expr} {es:List Expr} {pos apos bc:Pos}
theorem aw.root {K:PySem.W.Frag} {tm:List (T×V)} {O:List (Option Addr)} {ρ:En} {σ:St} {H:Hp} (I:aw K Z tm O ρ σ H) {k:Nat} {t:T} (e:ρ[k]?=some (some (t,true))):∃ a,O[k]?=some (some a)∧σ[k]?=some (some (.ref a))∧cy K H (av Z O) a t:=by
 obtain ⟨o,s,h1,h2,a,rfl,rfl,h3⟩:=I.sl k _ e
 exact ⟨a,h1,h2,h3⟩
def y_ (k:Nat) (g:FA) (p:List T→List T→(List T→T→Prop)→Prop):FX:=fun ρ Q=>match ρ[k]? with
 | some (some (.lst ts,true))=>g ρ fun vs=>p ts vs fun km r=>Q (ρ.set k (some (.lst km,true))) (.vw r)
 | _=>False
def Np (K:PySem.W.Frag) (r:V→List V→Hp→VK→Prop) (p:List T→List T→(List T→T→Prop)→Prop):Prop :=
 ∀ (H:Hp) (A:List Addr) (l:Addr) (xs:List V) (ts us:List T) (vs:List V) (q:List T→T→Prop) (Q:VK),l∈A→H l=some (.lst xs)→aE K H A ts xs→aE K H A us vs→p ts us q →
  (∀ km t,q km t→∀ Rx v,aE K H A km Rx→At K H A t v→Q v (upd H l (.lst Rx)))→r (.ref l) vs H Q
theorem za {r:V→List V→Hp→VK→Prop} {p:List T→List T→(List T→T→Prop)→Prop} (hm:Np X.K r p) {k:Nat} {g:FA} {tm:List (T×V)} {σ:St} {H:Hp} {Q:VK} (h:lX X Z tm (y_ k g p) σ H Q) :
  ∃ l,σ[k]?=some (some (.ref l))∧(∃ xs,eY X.K H l xs)∧lA X Z tm g σ H fun vs H1=>r (.ref l) vs H1 Q:=by
 obtain ⟨ρ,O,q,I,hf,kk⟩:=h
 unfold y_ at hf
 split at hf
 · rename_i ts e0
   obtain ⟨l,h1,h2,xs,h3,h4⟩:=I.root e0
   refine ⟨l,h2,⟨xs,eY.of h3⟩,ρ,O,_,I,hf,fun us S3 vs H1 s1 a1=>?_⟩
   have J:=I.same s1
   have ha:l∈av Z O:=lM _ (aN.mpr (mW h1))
   refine hm H1 (av Z O) l xs ts us vs _ Q ha (s1 _ _ h3) (h4.same s1) a1 S3 fun km t ht Rx v b1 b2=>?_
   exact kk _ _ ht O _ _ ⟨J.wrote e0 h1 ⟨Rx,aQ,b1.wrote ha (s1 _ _ h3) rfl⟩,b2.wrote ha (s1 _ _ h3) rfl⟩
 · exact hf.elim
theorem cP (k:Nat) {x name:Str} {id:String} {p:Pos} {g:FA} {r:V→List V→Hp→VK→Prop} {pp:List T→List T→(List T→T→Prop)→Prop} (slot:Slot "list" name id) (KO:typeOf (.builtin id)=pure (.type "method_descriptor")) (hm:BS X id r) (ht:Np X.K r pp) (ha:VA X Z (e :: es) g)
  (hN:X.N[k]?=some x:=by rfl) (hv:sI X.env.scope x:=by first | exact Or.inl rfl | exact Or.inr (Or.inl rfl) | exact Or.inr (Or.inr rfl)) (hd:gh x:=by decide)
  (iL:uH x:=by decide) (fu:attributeBase (.Name x p) name X.env (eval (.Name x p) X.env)=eval (.Name x p) X.env:=by rfl)
  (oF:((backTo bc (starEach (e :: es) X.env)).all (fun x=>!x.1) && (backToKw bc (keywordEach [] X.env)).all (fun x=>x.1.isSome)
    && decide ((e :: es).length+([]:List Keyword).length+(if ([]:List Keyword).isEmpty then 0 else 1) < 30))=true:=by rfl)
  (fz:(apos.endLine == bc.line)=true:=by rfl) (hs:starEach (e :: es) X.env=(false,eval e X.env) :: starEach es X.env:=by rfl) (fB:(backTo bc (starEach es X.env)).any (·.1)=false:=by rfl) :
  VX X Z (.Call (.Attribute (.Name x p) name apos) (e :: es) [] bc) (y_ k g pp):=.mk fun tm =>
 PE.weak (uP Q5 slot KO hm (di hN hv hd iL) (ha tm) fu oF fz hs fB) fun σ H Q h =>
  let ⟨l,h1,h2,h3⟩:=za ht h; ⟨.ref l,h1,.inl ⟨rfl,h2⟩,h3⟩
theorem CK (k:Nat) {x name:Str} {id:String} {p:Pos} {r:V→List V→Hp→VK→Prop} {pp:List T→List T→(List T→T→Prop)→Prop} (slot:Slot "list" name id) (KO:typeOf (.builtin id)=pure (.type "method_descriptor")) (hm:BS X id r) (ht:Np X.K r pp)
  (hN:X.N[k]?=some x:=by rfl) (hv:sI X.env.scope x:=by first | exact Or.inl rfl | exact Or.inr (Or.inl rfl) | exact Or.inr (Or.inr rfl)) (hd:gh x:=by decide)
  (iL:uH x:=by decide) (fu:attributeBase (.Name x p) name X.env (eval (.Name x p) X.env)=eval (.Name x p) X.env:=by rfl)
  (fz:(apos.endLine == bc.line)=true:=by rfl):VX X Z (.Call (.Attribute (.Name x p) name apos) [] [] bc) (y_ k CB pp):=.mk fun tm =>
 PE.weak (KN Q5 slot KO hm (di hN hv hd iL) fu fz) fun σ H Q h=>by
  obtain ⟨l,h1,h2,ρ,O,q,I,hf,kk⟩:=za ht h
  exact ⟨.ref l,h1,.inl ⟨rfl,h2⟩,kk [] hf [] H (aJ.refl H) aE.nil⟩
def zb (ts us:List T) (q:List T→T→Prop):Prop:=match us with
 | [t]=>ts.length < sizeLine∧q (ts ++ [t]) .br
 | _=>False
theorem ba {K:PySem.W.Frag}:Np K yY zb:=by
 intro H A l xs ts us vs q Q hl hH h1 h2 hp k
 unfold zb at hp
 split at hp
 · obtain ⟨v,rfl,a⟩:=bY (aE.iff.mp h2)
   exact ⟨l,xs,v,rfl,rfl,hH,by rw [h1.length]; exact hp.1,k _ _ hp.2 _ _ (h1.append (aE.cons a aE.nil)) l8⟩
 · exact hp.elim
def TK (ts us:List T) (q:List T→T→Prop):Prop:=us=[]∧∃ t,ts[ts.length - 1]?=some t∧q ts.dropLast t
theorem aE.dropLast {K:PySem.W.Frag} {H:Hp} {A:List Addr} {ts:List T} {vs:List V} (h:aE K H A ts vs):aE K H A ts.dropLast vs.dropLast:=by
 rw [List.dropLast_eq_take,List.dropLast_eq_take,h.length]
 exact h.take _
theorem zc {K:PySem.W.Frag}:Np K Oy TK:=by
 intro H A l xs ts us vs q Q hl hH h1 h2 hp k
 obtain ⟨rfl,t,e1,hq⟩:=hp
 have e:vs=[]:=by simpa only [aE] using h2
 obtain ⟨v,e2,a⟩:=h1.get e1
 exact ⟨l,xs,v,rfl,e,hH,by rw [h1.length]; exact e2,k _ _ hq _ _ h1.dropLast a⟩
def IL (k:Nat) (f fi:FE):FS:=fun d ρ=>match ρ[k]? with
 | some (some (.lst ts,true))=>f ρ fun v=>fi ρ fun i=>match i with
   | .int j=>∃ n,yV ts.length j=some n∧d.nx (ρ.set k (some (.lst (ts.set n v),true)))
   | _=>False
 | _=>False
theorem xj (k:Nat) {x:Str} {p:Pos} {f fi:FE} {i:Expr} {qB:Pos} (he:VE X Z e f) (hi:VR X Z i fi)
  (hN:X.N[k]?=some x:=by rfl) (hv:sI X.env.scope x:=by first | exact Or.inl rfl | exact Or.inr (Or.inl rfl) | exact Or.inr (Or.inr rfl)) (hd:gh x:=by decide)
  (iL:uH x:=by decide)
  (ha:∀ v,assign (.Subscript (.Name x p) i qB) X.env v=(do
    let ov ← holding [v] (eval (.Name x p) X.env)
    let iv ← holding [v,ov] (eval i X.env)
    standAt qB
    holding [v,ov,iv] (setItem ov iv v)
    release [v,ov,iv] []):=by intro _; rfl)
  (hs:swapsWithSole [.Subscript (.Name x p) i qB] e pos.line X.env=pure false:=by rfl) (hw:swappedStores [.Subscript (.Name x p) i qB] e X.env=pure none:=by rfl)
  (h1:(assignEach [.Subscript (.Name x p) i qB] X.env).map (·.2)=[assign (.Subscript (.Name x p) i qB) X.env]:=by rfl):VS X Z (.Assign [.Subscript (.Name x p) i qB] e pos) (IL k f fi):=.mk fun tm =>
 PS.weak (B' (he tm) (Kb (di hN hv hd iL) (hi tm) set_list ha) hs hw h1) fun D σ H ⟨ρ,O,d,I,q,F⟩=>by
  unfold IL at q
  split at q
  · rename_i ts e0
    obtain ⟨l,h1,h2,xs,h3,h4⟩:=I.root e0
    have ha:l∈av Z O:=lM _ (aN.mpr (mW h1))
    refine ⟨ρ,O,_,I,q,fun t ht v H1 s1 a1=>⟨.ref l,h2,ρ,O,_,I.same s1,ht,fun j hj w H2 s2 a2=>?_⟩⟩
    split at hj
    · obtain ⟨n,e1,hj⟩:=hj
      refine ⟨l,xs,_,n,rfl,a2.int,s2 _ _ (s1 _ _ h3),by rw [h4.length]; exact e1,?_⟩
      refine F.nx O _ σ _ (((I.same s1).same s2).wrote (t':=.lst (ts.set n t)) e0 h1 ⟨xs.set n v,aQ,?_⟩) hj
      exact aE.wrote ha (s2 _ _ (s1 _ _ h3)) rfl (((h4.same s1).same s2).set n (a1.same s2))
    · exact hj.elim
  · exact q.elim
theorem aw.give {K:PySem.W.Frag} {tm:List (T×V)} {O:List (Option Addr)} {ρ:En} {σ:St} {H:Hp} (I:aw K Z tm O ρ σ H) {i:Nat} {t:T} (hp:aY Z i) (hi:ρ[i]?=some (some (t,true))):∃ a,σ[i]?=some (some (.ref a))∧iX K Z tm (O.set i none) (ρ.set i none) σ H (.fr t) (.ref a):=by
 obtain ⟨a,h1,h2,h3⟩:=I.root hi
 have ha:a∈roots O:=aN.mpr (mW h1)
 obtain ⟨o1,o2,o3⟩:=I.own a ha
 have J:=I.forget hp
 have J2:=I.uD hp hi
 have na:a∉roots (O.set i none):=fun z=>by
  obtain ⟨o,s,g1,g2,g3,v,g4,g5⟩:=J2.sl i (some (t,false)) (by rw [yI (by rw [← I.lO]; exact (fY.mp h1).1)])
  rw [h2] at g2
  cases g2
  cases g4
  have nn:a∉av Z (O.set i none):=by
   obtain ⟨u,eu,mu⟩:=h3.mut
   cases t with
   | lst ts=>simp only [At] at g5; obtain ⟨b,vs,eb,l,_⟩:=g5; cases eb; rcases l with l | ⟨oo,_,_,lk,_⟩
             · exact l.2
             · exact fun z2=>by
                have key:∀ (O:List (Option Addr)) (i:Nat),O[i]?=some (some a)→(roots O).Nodup→a∉roots (O.set i none):=by
                 intro O
                 induction O with
                 | nil=>intro i h; simp at h
                 | cons o O ih =>
                   intro i h nd
                   cases i with
                   | zero =>
                     have:o=some a:=by simpa using h
                     subst this
                     simp only [roots,Ra,nP,id] at nd ⊢
                     exact (rm.mp nd).1
                   | succ i =>
                     have h':O[i]?=some (some a):=by simpa using h
                     cases o with
                     | none=>simp only [roots,Ng,nP,id] at nd ⊢; exact ih i h' nd
                     | some b =>
                       simp only [roots,Ng,nP,id] at nd ⊢
                       rw [rm] at nd
                       intro z
                       rcases cL.mp z with z | z
                       · exact nd.1 (by rw [← z]; exact aN.mpr (mW h'))
                       · exact ih i h' nd.2 z
                rcases iI.mp z2 with z2 | z2
                · exact key O i h1 I.nd z2
                · exact o2 z2
   | dk ks ts=>simp only [At] at g5; obtain ⟨b,vs,eb,_,d,_⟩:=g5; cases eb; exact d.2
   | dt ks ts=>simp only [At] at g5; obtain ⟨b,vs,eb,_,d,_⟩:=g5; cases eb; exact d.2
   | ins C ns ts=>simp only [At] at g5; obtain ⟨b,dx,vs,eb,_,d,_⟩:=g5; cases eb; exact d.2
   | _=>exact h3.elim
  exact nn (lM _ z)
 have hP:Z.H0 a=none:=by
  rcases o1 with z | z
  · obtain ⟨p,Xr,rfl⟩:=wJ.mp z
    have:=J.par p Xr
    exact absurd (aN.mpr (mW this)) na
  · exact z
 have sub:∀ b∈av (Z.ex a) (O.set i none),b∈av Z O:=fun b hb=>by
  rcases dq b hb with z | z
  · exact b8 i b z
  · rw [z]; exact lM _ ha
 refine ⟨a,h2,a,rfl,⟨J.lσ,J.lO,fun j e h=>?_,J.nd,fun b hb=>?_,J.par,fun b hb=>?_,J.keep,fun p hp=>(I.n9 p hp).bt sub⟩,h3.bt sub,hP,o2⟩
 · rcases get_set h with ⟨rfl,rfl,hl⟩ | ⟨ne,h⟩
   · obtain ⟨o,s,g1,g2,g3⟩:=J.sl j none (by rw [yI hl])
     exact ⟨o,s,g1,g2,g3⟩
   · obtain ⟨o,s,g1,g2,g3⟩:=I.sl j e h
     exact ⟨o,s,by rw [uI (Ne.symm ne)]; exact g1,g2,g3.map (fun _ _ q=>q.bt sub) fun _ _ _ q=>q.bt sub⟩
 · obtain ⟨q1,q2,q3⟩:=J.own b hb
   refine ⟨q1,fun z=>?_,q3⟩
   rcases cL.mp z with z | z
   · exact na (by rw [← z]; exact hb)
   · exact q2 z
 · rcases cL.mp hb with z | z
   · obtain ⟨u,eu,_⟩:=o3; rw [z,eu]; simp
   · exact I.ox b z
def IM (i:Nat):FX:=fun ρ Q=>match ρ[i]? with
 | some (some (t,true))=>Q (ρ.set i none) (.fr t)
 | some (some (t,false))=>Q ρ (.vw t)
 | _=>False
theorem g_ (i:Nat) {x:Str} (hp:aY Z i) (hN:X.N[i]?=some x:=by rfl) (hv:sI X.env.scope x:=by first | exact Or.inl rfl | exact Or.inr (Or.inl rfl) | exact Or.inr (Or.inr rfl)) (hd:gh x:=by decide)
  (iL:uH x:=by decide):VX X Z (.Name x pos) (IM i):=.mk fun tm=>PE.weak (di hN hv hd iL) fun σ H Q ⟨ρ,O,q,I,hf,k⟩=>by
 unfold IM at hf
 split at hf
 · rename_i t e
   obtain ⟨a,h1,h2⟩:=I.give hp e
   exact ⟨_,h1,k _ _ hf _ _ H h2⟩
 · rename_i t e
   obtain ⟨o,s,h1,h2,rfl,v,rfl,h3⟩:=I.sl i _ e
   exact ⟨v,h2,k _ _ hf O v H ⟨I,h3⟩⟩
 · exact hf.elim
end
theorem aw.u6 {K:PySem.W.Frag} {Z:Zc} {tm We:List (T×V)} {O:List (Option Addr)} {ρ:En} {σ:St} {H:Hp} (I:aw K Z tm O ρ σ H) (h:∀ p∈We,At K H (av Z O) p.1 p.2):aw K Z We O ρ σ H :=
 ⟨I.lσ,I.lO,I.sl,I.nd,I.own,I.par,I.ox,I.keep,h⟩
theorem iX.u6 {K:PySem.W.Frag} {Z:Zc} {bL tm:List (T×V)} {O:List (Option Addr)} {ρ:En} {σ:St} {H:Hp} {r:Rt} {v:V} (h:iX K Z (bL ++ tm) O ρ σ H r v):iX K Z tm O ρ σ H r v:=by
 cases r with
 | vw t=>exact ⟨h.1.u6 fun p hp=>h.1.n9 p (lL _ hp),h.2⟩
 | fr t=>obtain ⟨a,e,I,q⟩:=h; exact ⟨a,e,I.u6 fun p hp=>I.n9 p (lL _ hp),q⟩
def Wk (K:PySem.W.Frag) (J:It) (bL:List (T×V)) (ts:List T):Prop:=∀ H A,(∀ a∈A,H a≠none)→(∀ p∈bL,At K H A p.1 p.2)→∀ i:Nat,
 (i < ts.length→J.go i H)∧(ts.length=i→J.stop i H)∧∀ t,ts[i]?=some t→∀ x H',J.Nm i H x H'→aJ H H'∧At K H' A t x
abbrev FI:=En→(List T→Prop)→Prop
def lI (X:Cx) (Z:Zc) (tm:List (T×V)) (f:FI):TI:=fun σ H R=>∃ ρ O q,aw X.K Z tm O ρ σ H∧f ρ q∧∀ ts,q ts→∀ J H' bL,aJ H H'→(∀ p∈bL,At X.K H' (av Z O) p.1 p.2)→Wk X.K J bL ts→R J H'
def VI (X:Cx) (Z:Zc) (tg iter:Expr) (f:FI):Prop:=Bx fun tm=>PI X tg iter (lI X Z tm f)
instance {X:Cx} {Z:Zc} {tg iter:Expr} {f:FI}:CoeFun (VI X Z tg iter f) fun _=>∀ tm,PI X tg iter (lI X Z tm f):=⟨fun h=>Bx.h h⟩
theorem PI.weak {X:Cx} {tg e:Expr} {t t':TI} (h:PI X tg e t) (hw:∀ σ H R,t' σ H R→t σ H R):PI X tg e t':=fun pins s σ H R I q=>h pins s σ H R I (hw _ _ _ q)
theorem PG.weak {X:Cx} {tg:Expr} {t t':TG} (h:PG X tg t) (hw:∀ v σ H Q,t' v σ H Q→t v σ H Q):PG X tg t':=fun pins s σ H v u Q I r q=>h pins s σ H v u Q I r (hw _ _ _ _ q)
theorem B8.weak {X:Cx} {tg:List Expr} {t t':Fw} (h:B8 X tg t) (hw:∀ v σ H Q,t' v σ H Q→t v σ H Q):B8 X tg t':=fun pins s σ H v u Q I r q=>h pins s σ H v u Q I r (hw _ _ _ _ q)
def TL (K:PySem.W.Frag) (tl:TE):TI:=fun σ H R=>tl σ H fun x H1=>(∃ a,x = .ref a∧(∃ xs,eY K H1 a xs)∧R (SM K a) H1)∨(∃ a,x = .ref a∧(∃ xs,d9 K H1 a xs)∧R (SN K a) H1)∨∃ z,x = .str z∧R (Ru z) H1
section
variable {X:Cx} {Z:Zc} {tg:Expr}
theorem Le {l:Expr} {tl:TE} (hl:PE X l tl):PI X tg l (TL X.K tl):=by
 intro pins s σ H R I h
 refine bV (hl pins s σ H _ I h) fun v s1 ⟨x,H1,I1,r1,q1⟩=>?_
 rcases q1 with ⟨a,e,hq,q⟩ | ⟨a,e,hq,q⟩ | ⟨z,e,q⟩
 · subst e
   cases r1
   obtain ⟨xs,hq⟩:=hq
   obtain ⟨aK,rv,p,hz⟩:=I1.list hq
   refine wpAny_pyIter_list p.isList ?_
   refine ⟨s1.heap.objs.size,[s1.heap.objs.size],_,_,H1,rfl,I1.kept (t':=s1.toks) fun b o e=>dB _ e,z6 a _,⟨_,nQ _ rfl,rfl,rfl⟩,fun b hb=>?_,q⟩
   have e:b=s1.heap.objs.size:=by simpa using hb
   subst e
   exact I1.qA (d8 _) (I1.bD.fresh (d8 _))
 · subst e
   cases r1
   obtain ⟨xs,hq⟩:=hq
   obtain ⟨aK,rv,p,hz⟩:=I1.tuple hq
   refine wpAny_pyIter_tuple (show s1.heap.IsTuple a aK.toArray from p) ?_
   refine ⟨s1.heap.objs.size,[s1.heap.objs.size],_,_,H1,rfl,I1.kept (t':=s1.toks) fun b o e=>dB _ e,wO a _,⟨_,nQ _ rfl,rfl,rfl⟩,fun b hb=>?_,q⟩
   have e:b=s1.heap.objs.size:=by simpa using hb
   subst e
   exact I1.qA (d8 _) (I1.bD.fresh (d8 _))
 · subst e
   obtain ⟨t,rfl⟩:=r1
   refine wpAny_pyIter_strU ?_
   have I2:Inv X pins σ H1 { s1 with heap:=s1.heap.push { cls:=.type (strIterType z),data:=.fields #[.str z t,.int 0 0] } }:=I1.kept (t':=s1.toks) fun b o e=>dB _ e
   refine ⟨s1.heap.objs.size,[s1.heap.objs.size],_,_,H1,rfl,I2,Cv z t _,⟨_,nQ _ rfl,rfl,rfl⟩,fun b hb=>?_,q⟩
   have e:b=s1.heap.objs.size:=by simpa using hb
   subst e
   exact I1.qA (d8 _) I1.fresh
def TM (f:FE):FI:=fun ρ Q=>f ρ fun t=>match t with
 | .lst ts=>Q ts
 | .tup ts=>Q ts
 | .str z=>Q (z.cps.toList.map fun c=>.str ⟨#[c]⟩)
 | _=>False
theorem Gp {K:PySem.W.Frag} {a:Addr} {ts:List T}:Wk K (SM K a) [(.lst ts,.ref a)] ts:=fun H A hA h i=>by
 have h:=h _ iO
 simp only [At] at h
 obtain ⟨b,vs,e,l,q⟩:=h
 cases e
 have hl:=q.length
 refine ⟨fun hi=>⟨vs,vs[i]'(by omega),l.sq,by simp⟩,fun hi=>⟨vs,l.sq,by omega⟩,fun t ht x H' y=>?_⟩
 obtain ⟨rfl,y⟩:=y
 obtain ⟨v,e1,e2⟩:=q.get ht
 have:=y vs l.sq
 rw [e1] at this
 cases this
 exact ⟨aJ.refl _,e2⟩
theorem Lf {K:PySem.W.Frag} {a:Addr} {ts:List T}:Wk K (SN K a) [(.tup ts,.ref a)] ts:=fun H A hA h i=>by
 have h:=h _ iO
 simp only [At] at h
 obtain ⟨b,vs,e,l,q⟩:=h
 cases e
 have hl:=q.length
 refine ⟨fun hi=>⟨vs,vs[i]'(by omega),l,by simp⟩,fun hi=>⟨vs,l,by omega⟩,fun t ht x H' y=>?_⟩
 obtain ⟨rfl,y⟩:=y
 obtain ⟨v,e1,e2⟩:=q.get ht
 have:=y vs l
 rw [e1] at this
 cases this
 exact ⟨aJ.refl _,e2⟩
theorem Lg {K:PySem.W.Frag} {z:Str}:Wk K (Ru z) [] (z.cps.toList.map fun c=>T.str ⟨#[c]⟩):=fun H A hA h i=>by
 refine ⟨fun hi=>by rw [cu,Fi] at hi; exact hi,fun hi=>by rw [cu,Fi] at hi; exact Nat.le_of_eq hi,fun t ht x H' y=>?_⟩
 obtain ⟨rfl,c,hc,rfl⟩:=y
 rw [nV,Array.getElem?_toList,hc] at ht
 cases ht
 exact ⟨aJ.refl _,cc⟩
theorem oP {l:Expr} {f:FE} (h:VE X Z l f):VI X Z tg l (TM f):=.mk fun tm=>PI.weak (Le (h tm)) fun σ H R ⟨ρ,O,q,I,hf,k⟩=>⟨ρ,O,_,I,hf,fun t ht v H' s a=>by
 split at ht
 · have a0:=a
   simp only [At] at a
   obtain ⟨p,vs,rfl,l,_⟩:=a
   exact .inl ⟨p,rfl,⟨vs,l.sq⟩,k _ ht _ H' _ s (fun p hp=>by rw [wH.mp hp]; exact a0) Gp⟩
 · have a0:=a
   simp only [At] at a
   obtain ⟨p,vs,rfl,l,_⟩:=a
   exact .inr (.inl ⟨p,rfl,⟨vs,l⟩,k _ ht _ H' _ s (fun p hp=>by rw [wH.mp hp]; exact a0) Lf⟩)
 · have e:=a
   simp only [At] at e
   exact .inr (.inr ⟨_,e,k _ ht _ H' [] s (fun p hp=>nomatch hp) Lg⟩)
 · exact ht.elim⟩
def rangeT (lo:Int) (n:Nat):List T:=(List.range n).map fun i=>T.int (lo+((i:Nat):Int))
theorem CL {K:PySem.W.Frag} {lo:Int} {n:Nat}:Wk K (Rk lo n) [] (rangeT lo n):=fun H A hA h i=>by
 unfold rangeT
 refine ⟨fun hi=>by rw [cu,Fj] at hi; exact hi,fun hi=>by rw [cu,Fj] at hi; exact Nat.le_of_eq hi,fun t ht x H' y=>?_⟩
 obtain ⟨rfl,rfl⟩:=y
 rw [nV] at ht
 cases e:(List.range n)[i]? with
 | none=>rw [e] at ht; cases ht
 | some j =>
   rw [e] at ht
   have hj:j=i:=by
    have:=fY.mp e
    obtain ⟨h1,h2⟩:=this
    simpa using h2.symm
   subst hj
   cases ht
   exact ⟨aJ.refl _,bq⟩
def Wf (ts:List T) (Q:List T→Prop):Prop:=match ts with
 | [.int j]=>-(2 ^ 62)≤j∧j < 2 ^ 62∧Q (rangeT 0 j.toNat)
 | _=>False
def Lh (g:FA) (p:List T→(List T→Prop)→Prop):FI:=fun ρ Q=>g ρ fun ts=>p ts Q
theorem fj {a:Expr} {g:FE} {p pos:Pos} (hg:Gl X "range") (hm:X.mg "range" = none) (ha:VR X Z a g) (hs:starEach [a] X.env=[(false,eval a X.env)]:=by rfl) :
  VI X Z tg (.Call (.Name "range" p) [a] [] pos) (Lh (u4 g CB) Wf):=.mk fun tm=>PI.weak (z7 hg hm ((ao ha au hs) tm) hs) fun σ H R ⟨ρ,O,q,I,hf,k⟩=>⟨ρ,O,_,I,hf,fun ts gU vs H' s a=>by
 unfold Wf at gU
 split at gU
 · obtain ⟨v,rfl,a1⟩:=bY a
   exact ⟨_,by rw [a1.int],gU.1,gU.2.1,k _ gU.2.2 _ H' [] s (fun p hp=>nomatch hp) CL⟩
 · exact gU.elim⟩
abbrev FG:=T→En→(En→Prop)→Prop
abbrev Gq:=List T→En→(En→Prop)→Prop
def lG (X:Cx) (Z:Zc) (tm:List (T×V)) (is:List Nat) (h:FG):TG:=fun v σ H Q=>∃ ρ O t q,aw X.K Z tm O ρ σ H∧At X.K H (av Z O) t v∧h t ρ q∧∀ ρ',q ρ'→∀ O' σ',aw X.K Z tm O' ρ' σ' H→(∀ a∈roots O',a∈roots O)→(∀ (j:Nat),j∉is→O'[j]?=O[j]?)→σ'.length=σ.length→(∀ (j:Nat),j∉is→σ'[j]?=σ[j]?)→Q σ' H
def Wg (X:Cx) (Z:Zc) (tm:List (T×V)) (is:List Nat) (h:Gq):Fw:=fun vs σ H Q=>∃ ρ O ts q,aw X.K Z tm O ρ σ H∧aE X.K H (av Z O) ts vs∧h ts ρ q∧∀ ρ',q ρ'→∀ O' σ',aw X.K Z tm O' ρ' σ' H→(∀ a∈roots O',a∈roots O)→(∀ (j:Nat),j∉is→O'[j]?=O[j]?)→σ'.length=σ.length→(∀ (j:Nat),j∉is→σ'[j]?=σ[j]?)→Q σ' H
def VG (X:Cx) (Z:Zc) (tg:Expr) (is:List Nat) (h:FG):Prop:=Bx fun tm=>PG X tg (lG X Z tm is h)
instance {X:Cx} {Z:Zc} {tg:Expr} {is:List Nat} {h:FG}:CoeFun (VG X Z tg is h) fun _=>∀ tm,PG X tg (lG X Z tm is h):=⟨fun h=>Bx.h h⟩
def O3 (X:Cx) (Z:Zc) (Ry:List Expr) (is:List Nat) (h:Gq):Prop:=Bx fun tm=>B8 X Ry (Wg X Z tm is h)
instance {X:Cx} {Z:Zc} {Ry:List Expr} {is:List Nat} {h:Gq}:CoeFun (O3 X Z Ry is h) fun _=>∀ tm,B8 X Ry (Wg X Z tm is h):=⟨fun h=>Bx.h h⟩
def hName (i:Nat):FG:=fun t ρ Q=>Q (ρ.set i (some (t,false)))
theorem bb {i:Nat} {x:Str} {pos:Pos} (hN:X.N.Nodup) (hi:X.N[i]?=some x) (hx:Loc X.env.scope x) (hp:aY Z i) (hf:X.fn x=true∨X.env.scope.names.lookup x=some .local:=by first | exact .inl rfl | exact .inr rfl | assumption) :
  VG X Z (.Name x pos) [i] (hName i):=.mk fun tm=>PG.weak (Fx hN hi hx hf) fun v σ H Q ⟨ρ,O,t,q,I,a,h,k⟩ =>
 k _ h _ _ (I.put hp a) (cj i) (fun j hj=>uI (fun e=>hj (by simp [e]))) (by simp) fun j hj=>uI (fun e=>hj (by simp [e]))
def TN:Gq:=fun ts ρ Q=>ts=[]∧Q ρ
def IP (h:FG) (hs:Gq):Gq:=fun ts ρ Q=>match ts with
 | t :: r=>h t ρ fun ρ'=>hs r ρ' Q
 | []=>False
def O5 (n:Nat) (h:Gq):FG:=fun t ρ Q=>match t with
 | .tup ts=>ts.length=n∧h ts ρ Q
 | _=>False
theorem e8:O3 X Z [] [] TN:=.mk fun tm=>B8.weak Fy fun vs σ H Q ⟨ρ,O,ts,q,I,a,h,k⟩=>by
 obtain ⟨rfl,h⟩:=h
 have e:vs=[]:=by simpa only [aE] using a
 exact ⟨e,k _ h O σ I (fun _ z=>z) (fun _ _=>rfl) rfl fun _ _=>rfl⟩
theorem bz {e:Expr} {es:List Expr} {is js:List Nat} {h:FG} {hs:Gq} (h1:VG X Z e is h) (h2:O3 X Z es js hs)
  (Xs:(assignEach (e :: es) X.env).map (·.2)=assign e X.env :: (assignEach es X.env).map (·.2):=by rfl):O3 X Z (e :: es) (is ++ js) (IP h hs):=.mk fun tm=>B8.weak (B9 (h1 tm) (h2 tm) Xs) fun vs σ H Q ⟨ρ,O,ts,q,I,a,hh,k⟩=>by
 unfold IP at hh
 split at hh
 · simp only [aE] at a
   obtain ⟨v,r,rfl,a1,a2⟩:=a
   refine ⟨v,r,rfl,ρ,O,_,_,I,a1,hh,fun ρ' hρ O' σ' I' ro eo l e=>⟨ρ',O',_,q,I',a2.bt fun b hb=>?_,hρ,fun ρ2 h2 O2 σ2 I2 Xu Xv l2 e2=>k ρ2 h2 O2 σ2 I2 (fun a z=>ro a (Xu a z)) (fun j hj=>?_) (l2.trans l) fun j hj=>?_⟩⟩
   · rcases iI.mp hb with z | z
     · exact lM _ (ro b z)
     · exact lL _ z
   · rw [iI,not_or] at hj
     exact (Xv j hj.2).trans (eo j hj.1)
   · rw [iI,not_or] at hj
     exact (e2 j hj.2).trans (e j hj.1)
 · exact hh.elim
theorem hU {es:List Expr} {k:Nat} {is:List Nat} {h:Gq} {n:Nat} {pos:Pos} (hc:X.calm=true) (hh:O3 X Z es is h)
  (hn:(assignEach es X.env).length=n:=by rfl) (B_:(assignEach es X.env).findIdx? (·.1)=none:=by rfl):VG X Z (.Tuple es k pos) is (O5 n h):=.mk fun tm=>PG.weak (Ka hc (hh tm) hn B_) fun v σ H Q ⟨ρ,O,t,q,I,a,h',kk⟩=>by
 unfold O5 at h'
 split at h'
 · simp only [At] at a
   obtain ⟨p,vs,rfl,s,a⟩:=a
   exact ⟨p,vs,rfl,s,a.length.trans h'.1,ρ,O,_,q,I,a,h'.2,kk⟩
 · exact h'.elim
def TQ (f:FE) (h:FG):FS:=fun d ρ=>f ρ fun t=>h t ρ d.nx
theorem Li {tg e:Expr} {f:FE} {is:List Nat} {h:FG} {pos:Pos} (he:VE X Z e f) (hg:VG X Z tg is h) (hs:swapsWithSole [tg] e pos.line X.env=pure false:=by rfl) (hw:swappedStores [tg] e X.env=pure none:=by rfl)
  (h1:(assignEach [tg] X.env).map (·.2)=[assign tg X.env]:=by rfl):VS X Z (.Assign [tg] e pos) (TQ f h):=.mk fun tm=>PS.weak (B' (he tm) (hg tm) hs hw h1) fun D σ H ⟨ρ,O,d,I,q,F⟩ =>
 ⟨ρ,O,_,I,q,fun t ht v H' s a=>⟨ρ,O,t,_,I.same s,a,ht,fun ρ' hρ O' σ' I' _ _ _ _=>F.nx O' ρ' σ' H' I' hρ⟩⟩
def u7 (ts:List T) (h:FG) (g:FS):FS:=fun d ρ=>∃ Pv:Nat→En→Prop,Pv 0 ρ∧(∀ (i:Nat) t ρ',ts[i]?=some t→Pv i ρ'→h t ρ' fun ρ2=>g { nx:=Pv (i+1),ct:=Pv (i+1),bk:=d.nx,rt:=d.rt } ρ2)∧∀ ρ',Pv ts.length ρ'→d.nx ρ'
def TR (f:FI) (h:FG) (g:FS):FS:=fun d ρ=>f ρ fun ts=>u7 ts h g d ρ
theorem dF {iter:Expr} {body:List Stmt} {f:FI} {is:List Nat} {h:FG} {g:FS} {pos:Pos} (hp:PassesOwn (model X.prog X.w) X.A X.env X.xe) (hc:X.calm=true) (hi:VI X Z tg iter f) (hg:VG X Z tg is h) (hb:jE X Z body g)
  (hs:∀ x,foldedSetIterable iter X.env x=pure x:=by intro _; rfl):VS X Z (.For tg iter body [] pos) (TR f h g):=by
 refine .mk fun tm pins s σ H D I0 hw=>?_
 obtain ⟨ρ,O,d,I,q,F⟩:=hw
 refine Ke (wi:=lI X Z tm f) (g:=fun v σ H Q=>∃ bL,lG X Z (bL ++ tm) is h v σ H Q) (tb:=fun D σ H=>∃ bL,lS X Z (bL ++ tm) g D σ H) hp hc (hi tm) (fun pins s σ H v u Q I r ⟨bL,z⟩=>hg (bL ++ tm) pins s σ H v u Q I r z) (fun pins s σ H D I ⟨bL,z⟩=>hb (bL ++ tm) pins s σ H D I z) hs pins s σ H D I0 ?_
 refine ⟨ρ,O,_,I,q,fun ts gU J H' bL s a wk=>?_⟩
 obtain ⟨Pv,p0,step,fin⟩:=gU
 have J0:aw X.K Z (bL ++ tm) O ρ σ H':=(I.same s).u6 fun p hp=>by
  rcases iI.mp hp with z | z
  · exact a p z
  · exact (I.same s).n9 p z
 refine ⟨fun i m σ H=>m=ts.length - i∧i≤ts.length∧∃ ρ O,aw X.K Z (bL ++ tm) O ρ σ H∧Pv i ρ,⟨ts.length,by simp,kK _,ρ,O,J0,p0⟩,?_⟩
 rintro i m σ1 H1 ⟨rfl,hi,ρ1,O1,I1,p1⟩
 obtain ⟨w1,w2,w3⟩:=wk H1 (av Z O1) I1.K0 (fun p hp=>I1.n9 p (lM _ hp)) i
 have un:∀ {O:List (Option Addr)} {ρ:En} {σ:St} {H:Hp},aw X.K Z (bL ++ tm) O ρ σ H→aw X.K Z tm O ρ σ H:=fun I=>I.u6 fun p hp=>I.n9 p (lL _ hp)
 by_cases gj:i < ts.length
 · refine .inr ⟨w1 gj,fun σ' H'=>∃ ρ O,aw X.K Z (bL ++ tm) O ρ σ' H'∧Pv (i+1) ρ,fun σ' H' ⟨ρ',O',I',p'⟩=>⟨ts.length - (i+1),by omega,rfl,gj,ρ',O',I',p'⟩,fun x H2 y=>?_⟩
   have e:ts[i]?=some ts[i]:=by simp [gj]
   obtain ⟨s2,a2⟩:=w3 ts[i] e x H2 y
   refine ⟨bL,ρ1,O1,ts[i],_,I1.same s2,a2,step i _ ρ1 e p1,fun ρ2 h2 O2 σ2 I2 _ _ _ _=>⟨bL,ρ2,O2,_,I2,h2,?_⟩⟩
   exact ⟨fun O ρ σ H I p=>⟨ρ,O,I,p⟩,fun O ρ σ H r v z p=>F.rt O ρ σ H r v z.u6 p,fun O ρ σ H I p=>F.nx O ρ σ H (un I) p,fun O ρ σ H I p=>⟨ρ,O,I,p⟩⟩
 · have e:i=ts.length:=by omega
   subst e
   exact .inl ⟨w2 (rfl),F.nx O1 ρ1 σ1 H1 (un I1) (fin ρ1 p1)⟩
def Lj (c:FB) (g:FS):FS:=fun d ρ=>∃ (Pv:Nat→En→Prop),(∃ m,Pv m ρ)∧∀ m ρ',Pv m ρ'→c ρ' fun b=>if b=true then g { nx:=fun ρ2=>∃ m',m' < m∧Pv m' ρ2,ct:=fun ρ2=>∃ m',m' < m∧Pv m' ρ2,bk:=d.nx,rt:=d.rt } ρ' else d.nx ρ'
theorem CM {c:Expr} {body:List Stmt} {fc:FB} {g:FS} {pos:Pos} (hp:PassesOwn (model X.prog X.w) X.A X.env X.xe) (hc:VC X Z c fc) (hb:jE X Z body g):VS X Z (.While c body [] pos) (Lj fc g):=.mk fun tm=>PS.weak (Ca hp (hc tm) (hb tm)) fun D σ H ⟨ρ,O,d,I,q,F⟩=>by
 obtain ⟨Pv,⟨m0,p0⟩,step⟩:=q
 refine ⟨fun m σ H=>∃ ρ O,aw X.K Z tm O ρ σ H∧Pv m ρ,⟨m0,ρ,O,I,p0⟩,?_⟩
 rintro m σ1 H1 ⟨ρ1,O1,I1,p1⟩
 refine ⟨ρ1,O1,_,I1,step m ρ1 p1,fun b hb H2 s2=>?_⟩
 cases b with
 | true =>
   rw [if_pos rfl] at hb ⊢
   refine ⟨fun σ' H'=>∃ m',m' < m∧∃ ρ O,aw X.K Z tm O ρ σ' H'∧Pv m' ρ,fun σ' H' z=>z,ρ1,O1,_,I1.same s2,hb,?_⟩
   exact ⟨fun O ρ σ H I ⟨m',hm,p⟩=>⟨m',hm,ρ,O,I,p⟩,F.rt,F.nx,fun O ρ σ H I ⟨m',hm,p⟩=>⟨m',hm,ρ,O,I,p⟩⟩
 | false =>
   rw [if_neg nS] at hb ⊢
   exact F.nx O1 ρ1 σ1 H2 (I1.same s2) hb
end
theorem ej (O:List (Option Addr)) (n:Nat):roots (O ++ List.replicate n none)=roots O:=by
 unfold roots
 rw [List.filterMap_append]
 have:(List.replicate n (none:Option Addr)).filterMap id=[]:=by
  induction n with
  | zero=>rfl
  | succ n ih=>rw [Q9,nP]; exact ih
 rw [this,EY]
theorem aw.longer {K:PySem.W.Frag} {Z:Zc} {tm:List (T×V)} {O:List (Option Addr)} {ρ:En} {σ:St} {H:Hp} (I:aw K Z tm O ρ σ H) (n:Nat) {τ:St} (hτ:τ.length=n) :
  aw K Z tm (O ++ List.replicate n none) (ρ ++ List.replicate n none) (σ ++ τ) H:=by
 have ea:av Z (O ++ List.replicate n none)=av Z O:=by unfold av; rw [ej]
 refine ⟨by simp [I.lσ,hτ],by simp [I.lO],fun i e h=>?_,by rw [ej]; exact I.nd,fun a h=>I.own a (by rw [ej] at h; exact h),fun p hp=>?_,I.ox,I.keep,fun p hp=>by rw [ea]; exact I.n9 p hp⟩
 · rw [ea]
   by_cases hi:i < ρ.length
   · rw [uz hi] at h
     obtain ⟨o,s,h1,h2,h3⟩:=I.sl i e h
     exact ⟨o,s,by rw [uz (by rw [I.lO]; exact hi)]; exact h1,by rw [uz (by rw [I.lσ]; exact hi)]; exact h2,h3⟩
   · rw [BL (by omega),JA] at h
     split at h
     · rename_i hl
       cases h
       refine ⟨none,τ[i - σ.length]'(by rw [I.lσ,hτ]; exact hl),?_,?_,rfl⟩
       · rw [BL (by rw [I.lO]; omega),JA,if_pos (by rw [I.lO]; exact hl)]
       · rw [BL (by rw [I.lσ]; omega)]; simp
     · cases h
 · have:=I.par p hp
   have hl:=(fY.mp this).1
   rw [uz hl]; exact this
theorem aw.Ll {K:PySem.W.Frag} {Z:Zc} {tm:List (T×V)} {O:List (Option Addr)} {ρ:En} {σ:St} {H:Hp} {a:Addr} {u o:HO} (I:aw K (Z.ex a) tm O ρ σ H) (hu:H a=some u) (hm:uY u=true) (h0:Z.H0 a=none):aw K (Z.ex a) tm O ρ σ (upd H a o):=by
 have F9:a∈av (Z.ex a) O:=lL _ iO
 have nr:∀ b∈roots O,b≠a:=fun b hb e=>(I.own b hb).2.1 (by rw [e]; exact iO)
 refine ⟨I.lσ,I.lO,fun i e h=>?_,I.nd,fun b hb=>?_,I.par,fun b hb=>?_,fun b o' e n=>?_,fun p hp=>(I.n9 p hp).wrote F9 hu hm⟩
 · obtain ⟨o',s,h1,h2,h3⟩:=I.sl i e h
   refine ⟨o',s,h1,h2,h3.map (fun _ _ q=>q.wrote F9 hu hm) fun b t e q=>?_⟩
   subst e
   exact q.map (aD (nr b (aN.mpr (mW h1)))) fun _ _ z=>z.wrote F9 hu hm
 · obtain ⟨q1,q2,v,e,m⟩:=I.own b hb
   exact ⟨q1,q2,v,by rw [aD (nr b hb)]; exact e,m⟩
 · by_cases e:b=a
   · subst e; rw [aQ]; simp
   · rw [aD e]; exact I.ox b hb
 · have:b≠a:=fun e'=>by
    subst e'
    have e2:Z.H0 b=some o':=e
    rw [h0] at e2; cases e2
   rw [aD this]; exact I.keep b o' e n
def eX (h:FG) (fc:FB) (fe:FE) (ρ:En):List T→(List T→Prop)→Prop
 | [],Q=>Q []
 | t :: ts,Q=>h t ρ fun ρ2=>fc ρ2 fun b=>if b=true then fe ρ2 fun u=>eX h fc fe ρ ts fun us=>Q (u :: us) else eX h fc fe ρ ts Q
def zd (n:Nat) (is:List Nat) (f:FI) (h:FG) (fc:FB) (fe:FE):FP:=fun ρ Q=>(is.all fun j=>decide (ρ.length≤j))=true∧f ρ fun ts=>ts.length≤sizeLine∧eX h fc fe (ρ ++ List.replicate n none) ts fun us=>Q (.fr (.lst us))
def O6 (X:Cx) (Z:Zc) (ifs:List Expr) (f:FB):Prop:=Bx fun tm=>E7 X ifs (lB X Z tm f)
instance {X:Cx} {Z:Zc} {ifs:List Expr} {f:FB}:CoeFun (O6 X Z ifs f) fun _=>∀ tm,E7 X ifs (lB X Z tm f):=⟨fun h=>Bx.h h⟩
def Lm:FB:=fun _ Q=>Q true
theorem E7.weak {X:Cx} {e:List Expr} {t t':TT} (h:E7 X e t) (hw:∀ σ H Q,t' σ H Q→t σ H Q):E7 X e t':=fun pins s σ H Q I q=>h pins s σ H Q I (hw _ _ _ q)
section
variable {X:Cx} {Z:Zc}
theorem kX:O6 X Z [] Lm:=.mk fun tm=>E7.weak F0 fun σ H Q ⟨ρ,O,q,I,h,k⟩=>k true h H (aJ.refl H)
def cG (X:Cx) (Z:Zc) (tm:List (T×V)) (is:List Nat) (h:FG):TG:=fun v σ H Q=>∃ D bL,lG X (Z.ex D) (bL ++ tm) is h v σ H Q
def cB (X:Cx) (Z:Zc) (tm:List (T×V)) (f:FB):TT:=fun σ H Q=>∃ D bL,lB X (Z.ex D) (bL ++ tm) f σ H Q
def cE (X:Cx) (Z:Zc) (tm:List (T×V)) (f:FE):TE:=fun σ H Q=>∃ D bL,lE X (Z.ex D) (bL ++ tm) f σ H Q
theorem Ln {K:PySem.W.Frag} {Z:Zc} {tm bL:List (T×V)} {n:Nat} {O:List (Option Addr)} {ρ:En} {σ:St} {H1:Hp} {D:Addr} {J:It} {ts:List T} {h:FG} {fc:FB} {fe:FE} {is:List Nat} {q:Rt→Prop} {Q:VK} (X:Cx) (hK:X.K=K)
  (I:aw K Z (bL ++ tm) O ρ σ H1) (hD:H1 D=none) (wk:Wk K J bL ts) (hz:ts.length≤sizeLine) (Rz:∀ j∈is,ρ.length≤j)
  (hw:eX h fc fe (ρ ++ List.replicate n none) ts fun us=>q (.fr (.lst us)))
  (k:∀ r,q r→∀ v H',aJ H1 H'→iX K Z tm O ρ σ H' r v→Q v H') :
  uT J (cG X Z tm is h) (cB X Z tm fc) (cE X Z tm fe) n σ D (Q (.ref D)) H1:=by
 subst hK
 obtain ⟨n1,n2,n3⟩:=I.fresh hD
 refine ⟨fun i m acc H2=>m=ts.length - i∧i≤ts.length∧aJ H1 H2∧H2 D=some (.lst acc)∧∃ us,aE X.K H2 (av (Z.ex D) O) us acc∧acc.length≤i∧aw X.K (Z.ex D) (bL ++ tm) O ρ σ H2∧eX h fc fe (ρ ++ List.replicate n none) (ts.drop i) fun r=>q (.fr (.lst (us ++ r))),
  ⟨ts.length,by simp,kK _,aS hD,aQ,[],aE.nil,kK _,I.new hD rfl,by simpa using hw⟩,?_⟩
 rintro i m acc H2 ⟨rfl,hi,s2,F5,us,a2,hl,I2,w2⟩
 refine ⟨F5,?_⟩
 obtain ⟨w1,Xw,w3⟩:=wk H2 (av (Z.ex D) O) I2.K0 (fun p hp=>I2.n9 p (lM _ hp)) i
 by_cases gj:i < ts.length
 · refine .inr ⟨w1 gj,by omega,fun x H3 y=>?_⟩
   have e:ts[i]?=some ts[i]:=by simp [gj]
   obtain ⟨s3,a3⟩:=w3 ts[i] e x H3 y
   rw [QZ gj] at w2
   have I3:=(I2.same s3).longer n (τ:=List.replicate n none) (by simp)
   have ea:av (Z.ex D) (O ++ List.replicate n none)=av (Z.ex D) O:=by unfold av; rw [ej]
   refine ⟨D,bL,_,_,ts[i],_,I3,by rw [ea]; exact a3,w2,fun ρ4 Xx O4 σ4 I4 ZY Xy l4 e4=>⟨⟨?_,fun j v hj=>?_⟩,D,bL,ρ4,O4,_,I4,Xx,fun b hb H5 s5=>?_⟩⟩
   · rw [l4]; simp
   · have O7:=(fY.mp hj).1
     have:j∉is:=fun z=>by have:=Rz j z; have:=I.lσ; omega
     rw [e4 j this,uz O7]; exact hj
   · have S5:=(s2.trans s3).trans s5
     have J5:=(I2.same s3).same s5
     cases b with
     | true =>
       rw [if_pos rfl] at hb
       refine OG ⟨D,bL,ρ4,O4,_,I4.same s5,hb,fun u hu y H6 s6 a6=>?_⟩
       have TU:=s6 _ _ (s5 _ _ (s3 _ _ F5))
       refine ⟨TU,ts.length - (i+1),by omega,rfl,gj,fun b o e=>?_,aQ,us ++ [u],?_,by simp; omega,(J5.same s6).Ll TU rfl n3,?_⟩
       · rw [aD (aU e hD)]; exact s6 _ _ (S5 _ _ e)
       · have F9:D∈av (Z.ex D) O:=lL _ iO
         have Xz:At X.K H6 (av (Z.ex D) O) u y:=a6.bt fun b hb=>by
          rcases iI.mp hb with z | z
          · obtain ⟨j,hj⟩:=NH.mp (aN.mp z)
            have O7:=(fY.mp hj).1
            have nj:j∉is:=fun z=>by have:=Rz j z; have:=I.lO; omega
            have:=Xy j nj
            rw [uz O7,hj] at this
            exact lM _ (aN.mpr (mW this))
          · exact lL _ z
         exact aE.wrote F9 TU rfl ((((a2.same s3).same s5).same s6).append (aE.cons Xz aE.nil))
       · have e2:∀ r,(us ++ [u]) ++ r=us ++ (u :: r):=fun r=>by simp
         simp only [e2]
         exact hu
     | false =>
       rw [if_neg nS] at hb
       exact OF ⟨ts.length - (i+1),by omega,rfl,gj,S5,s5 _ _ (s3 _ _ F5),us,(a2.same s3).same s5,by omega,J5,hb⟩
 · have e:i=ts.length:=by omega
   subst e
   refine .inl ⟨Xw (rfl),?_⟩
   rw [List.drop_length] at w2
   simp only [eX,EY] at w2
   refine k _ w2 _ H2 s2 ⟨D,rfl,I2.u6 fun p hp=>I2.n9 p (lL _ hp),⟨acc,F5,a2⟩,n3,n2⟩
theorem ze {tm:List (T×V)} {n:Nat} {is:List Nat} {f:FI} {h:FG} {fc:FB} {fe:FE} {σ:St} {H:Hp} {Q:VK} (hq:lP X Z tm (zd n is f h fc fe) σ H Q):Ct n (lI X Z tm f) (cG X Z tm is h) (cB X Z tm fc) (cE X Z tm fe) σ H Q:=by
 obtain ⟨ρ,O,q,I,⟨Rz,hf⟩,k⟩:=hq
 refine ⟨ρ,O,_,I,hf,fun ts gU J H' bL s a wk D hD=>?_⟩
 have I':aw X.K Z (bL ++ tm) O ρ σ H':=(I.same s).u6 fun p hp=>by
  rcases iI.mp hp with z | z
  · exact a p z
  · exact (I.same s).n9 p z
 refine Ln X rfl I' hD wk gU.1 (fun j hj=>?_) gU.2 fun r hr v H2 s2 z=>k r hr v H2 (s.trans s2) z
 have:=zU.mp Rz j hj
 exact of_decide_eq_true this
variable {ts:List Str} {sc:Scope} {elt iter tg:Expr} {ifs:List Expr} {pos:Pos} {f:FI} {h:FG} {fc:FB} {fe:FE} {is:List Nat}
theorem oa (hc:X.calm=true) (hS:kg X.N ts X.env.scope sc=true) (hi:VI X Z tg iter f) (hg:∀ D cl C fp s H,VG (bp X ts sc cl C fp s H) (Z.ex D) tg is h) (ht:∀ D cl C fp s H,O6 (bp X ts sc cl C fp s H) (Z.ex D) ifs fc)
  (he:∀ D cl C fp s H,VE (bp X ts sc cl C fp s H) (Z.ex D) elt fe) (hs:∀ x,foldedSetIterable iter X.env x=pure x:=by intro _; rfl):VP X Z (.ListComp elt [⟨tg,iter,ifs,0⟩] sc pos) (zd ts.length is f h fc fe):=.mk fun tm =>
 PE.weak (F3 hc hS (hi tm) (fun cl C fp s H pins s' σ H' v u Q I r ⟨D,bL,z⟩=>hg D cl C fp s H (bL ++ tm) pins s' σ H' v u Q I r z) (fun cl C fp s H pins s' σ H' Q I ⟨D,bL,z⟩=>ht D cl C fp s H (bL ++ tm) pins s' σ H' Q I z)
  (fun cl C fp s H pins s' σ H' Q I ⟨D,bL,z⟩=>he D cl C fp s H (bL ++ tm) pins s' σ H' Q I z) hs) fun σ H Q hq=>ze hq
theorem u9 {i:Nat} {y:Str} {py uW:Pos} (hN:X.N.Nodup) (hy:X.N[i]?=some y) (hx:Loc X.env.scope y) (hc:X.calm=true) (hS:kg X.N ts X.env.scope sc=true) (hi:VI X Z tg iter f) (hg:∀ D cl C fp s H,VG (bp X ts sc cl C fp s H) (Z.ex D) tg is h)
  (ht:∀ D cl C fp s H,O6 (bp X ts sc cl C fp s H) (Z.ex D) ifs fc) (he:∀ D cl C fp s H,VE (bp X ts sc cl C fp s H) (Z.ex D) elt fe)
  (OL:swapsWith (.ListComp elt [⟨tg,iter,ifs,0⟩] sc pos) (some (.Name y py)) uW.line X.env=pure true)
  (hs:∀ x,foldedSetIterable iter X.env x=pure x) (hf:X.fn y=true∨X.env.scope.names.lookup y=some .local) (tm:List (T×V)) :
  PS X (.Assign [.Name y py] (.ListComp elt [⟨tg,iter,ifs,0⟩] sc pos) uW) (Fz (lP X Z tm (zd ts.length is f h fc fe)) (iB i)) :=
 PS.weak (F4 hN hy hx hc hS (hi tm) (fun cl C fp s H pins s' σ H' v u Q I r ⟨D,bL,z⟩=>hg D cl C fp s H (bL ++ tm) pins s' σ H' v u Q I r z) (fun cl C fp s H pins s' σ H' Q I ⟨D,bL,z⟩=>ht D cl C fp s H (bL ++ tm) pins s' σ H' Q I z)
  (fun cl C fp s H pins s' σ H' Q I ⟨D,bL,z⟩=>he D cl C fp s H (bL ++ tm) pins s' σ H' Q I z) OL hs hf) fun D σ H hq=>ze hq
theorem Gr {i:Nat} {y:Str} {py uW:Pos} (hN:X.N.Nodup) (hy:X.N[i]?=some y) (hx:Loc X.env.scope y) (hc:X.calm=true) (hS:kg X.N ts X.env.scope sc=true) (hi:VI X Z tg iter f) (hg:∀ D cl C fp s H,VG (bp X ts sc cl C fp s H) (Z.ex D) tg is h)
  (ht:∀ D cl C fp s H,O6 (bp X ts sc cl C fp s H) (Z.ex D) ifs fc) (he:∀ D cl C fp s H,VE (bp X ts sc cl C fp s H) (Z.ex D) elt fe) (hp:aY Z i)
  (OL:swapsWith (.ListComp elt [⟨tg,iter,ifs,0⟩] sc pos) (some (.Name y py)) uW.line X.env=pure true:=by rfl)
  (hs:∀ x,foldedSetIterable iter X.env x=pure x:=by intro _; rfl) (hf:X.fn y=true∨X.env.scope.names.lookup y=some .local:=by first | exact .inl rfl | exact .inr rfl | assumption) :
  VS X Z (.Assign [.Name y py] (.ListComp elt [⟨tg,iter,ifs,0⟩] sc pos) uW) (OZ i (fX (zd ts.length is f h fc fe))):=.mk fun tm =>
 PS.weak (u9 hN hy hx hc hS hi hg ht he OL hs hf tm) fun D σ H ⟨ρ,O,d,I,q,F⟩=>⟨ρ,O,_,I,q,fun r hr v H' s z=>F.nx _ _ _ H' (z.env.put hp z.at) hr⟩
theorem jF {h:FG} {fc:FB} {fe:FE} {ρ:En} {ts:List T} {Q:List T→Prop} (p:T→Bool) (u:T→T) (step:∀ t∈ts,∀ k:List T→Prop,∀ r:List T→Prop,(if p t=true then r [u t] else r [])→h t ρ fun ρ2=>fc ρ2 fun b=>if b=true then fe ρ2 fun x=>r [x] else r [])
  (hq:Q ((ts.filter p).map u)):eX h fc fe ρ ts Q:=by
 induction ts generalizing Q with
 | nil=>exact hq
 | cons t ts ih =>
   have st:=step t iO (fun _=>True) (fun l=>match l with
    | [x]=>eX h fc fe ρ ts fun us=>Q (x :: us)
    | _=>eX h fc fe ρ ts Q)
   have rest:∀ {Q':List T→Prop},Q' ((ts.filter p).map u)→eX h fc fe ρ ts Q':=fun hq=>ih (fun t ht=>step t (jX _ ht)) hq
   simp only [eX]
   refine st ?_
   by_cases hp:p t=true
   · rw [if_pos hp]
     refine rest ?_
     rw [List.filter_cons_of_pos hp] at hq
     exact hq
   · rw [if_neg hp]
     refine rest ?_
     rw [List.filter_cons_of_neg hp] at hq
     exact hq
end
def eA (K:PySem.W.Frag) (H:Hp) (A:List Addr):List Bool→List Addr→List T→List V→Prop
 | [],as,ts,vs=>as=[]∧ts=[]∧vs=[]
 | false :: fs,as,ts,vs=>∃ t km v kH,ts=t :: km∧vs=v :: kH∧At K H A t v∧eA K H A fs as km kH
 | true :: fs,as,ts,vs=>∃ a rL t km kH,as=a :: rL∧ts=t :: km∧vs = .ref a :: kH∧cy K H A a t∧eA K H A fs rL km kH
def O8 (K:PySem.W.Frag) (H:Hp) (as Ox:List Addr) (H':Hp) (us:List T):Rt→V→Prop
 | .vw t,v=>At K H' (as ++ Ox) t v∧Paired (fun a u=>cy K H' (as ++ Ox) a u) as us
 | .fr t,v=>∃ b,v = .ref b∧H b=none∧b∉as∧cy K H' (b :: (as ++ Ox)) b t∧Paired (fun a u=>cy K H' (b :: (as ++ Ox)) a u) as us
abbrev GT:=List T→(List T→Rt→Prop)→Prop
def qL (K:PySem.W.Frag) (fs:List Bool) (G:GT):Sp:=fun vs H Q _=>∃ ts as Ox q,as.Nodup∧(∀ a∈as,a∉Ox)∧(∀ a∈Ox,H a≠none)∧eA K H (as ++ Ox) fs as ts vs∧G ts q ∧
 ∀ us r,q us r→∀ v H',(∀ b o,H b=some o→b∉as→H' b=some o)→O8 K H as Ox H' us r v→Q v H'
def ro:List Bool→List Addr→List (Option Addr)
 | [],_=>[]
 | false :: fs,as=>none :: ro fs as
 | true :: fs,a :: as=>some a :: ro fs as
 | true :: fs,[]=>none :: ro fs []
def pz:List Bool→List Addr→Nat→List (Nat×Addr)
 | [],_,_=>[]
 | false :: fs,as,k=>pz fs as (k+1)
 | true :: fs,a :: as,k=>(k,a) :: pz fs as (k+1)
 | true :: fs,[],k=>pz fs [] (k+1)
def sX:List Bool→List T→En
 | f :: fs,t :: ts=>some (t,f) :: sX fs ts
 | _,_=>[]
def md:List Bool→En→List T
 | [],_=>[]
 | false :: fs,ρ=>md fs ρ.tail
 | true :: fs,some (t,_) :: ρ=>t :: md fs ρ
 | true :: fs,ρ=>.br :: md fs ρ.tail
section
variable {K:PySem.W.Frag} {H:Hp} {A:List Addr}
theorem fG:∀ {fs:List Bool} {as:List Addr} {ts:List T} {vs:List V},eA K H A fs as ts vs→ts.length=fs.length∧vs.length=fs.length∧(ro fs as).length=fs.length∧(sX fs ts).length=fs.length∧roots (ro fs as)=as
 | [],as,ts,vs,h=>by obtain ⟨rfl,rfl,rfl⟩:=h; exact ⟨rfl,rfl,rfl,rfl,rfl⟩
 | false :: fs,as,ts,vs,h=>by
   obtain ⟨t,km,v,kH,rfl,rfl,_,h⟩:=h
   obtain ⟨h1,h2,h3,h4,h5⟩:=fG h
   exact ⟨by simp [h1],by simp [h2],by simp [ro,h3],by simp [sX,h4],by simpa [ro,roots] using h5⟩
 | true :: fs,as,ts,vs,h=>by
   obtain ⟨a,rL,t,km,kH,rfl,rfl,rfl,_,h⟩:=h
   obtain ⟨h1,h2,h3,h4,h5⟩:=fG h
   refine ⟨by simp [h1],by simp [h2],by simp [ro,h3],by simp [sX,h4],?_⟩
   simp only [ro,roots,nP,id] at h5 ⊢
   rw [h5]
theorem oQ:∀ {fs:List Bool} {as:List Addr} {ts:List T} {vs:List V},eA K H A fs as ts vs→∀ (i:Nat) e,(sX fs ts)[i]?=some e→∃ o s,(ro fs as)[i]?=some o∧(vs.map some)[i]?=some s∧oJ K H A e o s
 | [],as,ts,vs,h,i,e,he=>by simp [sX] at he
 | false :: fs,as,ts,vs,h,i,e,he=>by
   obtain ⟨t,km,v,kH,rfl,rfl,a,h⟩:=h
   cases i with
   | zero=>simp only [sX,Q2,Option.some.injEq] at he; subst he; exact ⟨none,some v,rfl,rfl,rfl,v,rfl,a⟩
   | succ i=>exact oQ h i e (by simpa [sX] using he)
 | true :: fs,as,ts,vs,h,i,e,he=>by
   obtain ⟨a,rL,t,km,kH,rfl,rfl,rfl,r,h⟩:=h
   cases i with
   | zero=>simp only [sX,Q2,Option.some.injEq] at he; subst he; exact ⟨some a,some (.ref a),rfl,rfl,a,rfl,rfl,r⟩
   | succ i=>exact oQ h i e (by simpa [sX] using he)
theorem me:∀ {fs:List Bool} {as:List Addr} {ts:List T} {vs:List V},eA K H A fs as ts vs→∀ a∈as,∃ t,cy K H A a t
 | [],as,ts,vs,h,a,ha=>by obtain ⟨rfl,rfl,rfl⟩:=h; cases ha
 | false :: fs,as,ts,vs,h,a,ha=>by obtain ⟨t,km,v,kH,rfl,rfl,_,h⟩:=h; exact me h a ha
 | true :: fs,as,ts,vs,h,a,ha=>by
   obtain ⟨b,rL,t,km,kH,rfl,rfl,rfl,r,h⟩:=h
   rcases cL.mp ha with z | z
   · subst z; exact ⟨t,r⟩
   · exact me h a z
theorem CN:∀ {fs:List Bool} {as:List Addr} {ts:List T} {vs:List V} (k:Nat),eA K H A fs as ts vs→(pz fs as k).map (·.2)=as∧∀ p∈pz fs as k,k≤p.1∧(ro fs as)[p.1 - k]?=some (some p.2)
 | [],as,ts,vs,k,h=>by obtain ⟨rfl,rfl,rfl⟩:=h; exact ⟨rfl,fun _ z=>nomatch z⟩
 | false :: fs,as,ts,vs,k,h=>by
   obtain ⟨t,km,v,kH,rfl,rfl,_,h⟩:=h
   obtain ⟨h1,h2⟩:=CN (k+1) h
   refine ⟨h1,fun p hp=>?_⟩
   obtain ⟨l,e⟩:=h2 p hp
   refine ⟨by omega,?_⟩
   have:p.1 - k=(p.1 - (k+1))+1:=by omega
   rw [this]
   simpa [ro] using e
 | true :: fs,as,ts,vs,k,h=>by
   obtain ⟨a,rL,t,km,kH,rfl,rfl,rfl,_,h⟩:=h
   obtain ⟨h1,h2⟩:=CN (k+1) h
   refine ⟨by simp [pz,h1],fun p hp=>?_⟩
   rcases cL.mp hp with z | z
   · subst z; exact ⟨d8 _,by simp [ro]⟩
   · obtain ⟨l,e⟩:=h2 p z
     refine ⟨by omega,?_⟩
     have:p.1 - k=(p.1 - (k+1))+1:=by omega
     rw [this]
     simpa [ro] using e
theorem sY {R:Addr→T→Prop} {ρ:En}:∀ {fs:List Bool} {as:List Addr} {ts:List T} {vs:List V} (k:Nat),eA K H A fs as ts vs→(∀ p∈pz fs as k,∃ t,ρ[p.1]?=some (some (t,true))∧R p.2 t)→Paired R as (md fs (ρ.drop k))
 | [],as,ts,vs,k,h,_=>by obtain ⟨rfl,rfl,rfl⟩:=h; exact .nil
 | false :: fs,as,ts,vs,k,h,q=>by
   obtain ⟨t,km,v,kH,rfl,rfl,_,h⟩:=h
   have:=sY (k+1) h q
   simp only [md,List.tail_drop]
   exact this
 | true :: fs,as,ts,vs,k,h,q=>by
   obtain ⟨a,rL,t,km,kH,rfl,rfl,rfl,_,h⟩:=h
   have:=sY (ρ:=ρ) (k+1) h fun p hp=>q p (jX _ hp)
   obtain ⟨u,e,r⟩:=q (k,a) iO
   have hk:k < ρ.length:=(fY.mp e).1
   have e2:ρ[k]=some (u,true):=by rw [lK hk] at e; exact Option.some.inj e
   rw [QZ hk,e2]
   exact .cons r this
end
theorem oR {X:Cx} {N:List Str} {fs:List Bool} {as Ox:List Addr} {ts:List T} {vs:List V} {H:Hp} {Q:VK} {q:List T→Rt→Prop} {g:FS} (nd:as.Nodup) (nx:∀ a∈as,a∉Ox) (ox:∀ a∈Ox,H a≠none) (ha:eA X.K H (as ++ Ox) fs as ts vs)
  (kk:∀ us r,q us r→∀ v H',(∀ b o,H b=some o→b∉as→H' b=some o)→O8 X.K H as Ox H' us r v→Q v H')
  (hq:g { nx:=fun ρ=>q (md fs ρ) (.vw .br),rt:=fun ρ r=>q (md fs ρ) r } (sX fs ts ++ List.replicate (N.length - ts.length) none)) :
  lS X ⟨H,pz fs as 0,Ox⟩ [] g { nx:=fun _ H'=>Q .br H',rt:=Q } (start N vs) H:=by
 obtain ⟨K,eK⟩:∃ K,K=X.K:=⟨_,rfl⟩
 unfold lS
 rw [← eK] at ha kk ⊢
 obtain ⟨l1,l2,l3,l4,l5⟩:=fG ha
 obtain ⟨p1,p2⟩:=CN 0 ha
 have ea:av ⟨H,pz fs as 0,Ox⟩ (ro fs as ++ List.replicate (N.length - ts.length) none)=as ++ Ox:=by unfold av; rw [ej,l5]
 have XA:∀ H0 P (O:List (Option Addr)),av ⟨H0,P,Ox⟩ O=roots O ++ Ox:=fun _ _ _=>rfl
 have I0:aw K ⟨H,pz fs as 0,Ox⟩ [] (ro fs as ++ List.replicate (N.length - ts.length) none) (sX fs ts ++ List.replicate (N.length - ts.length) none) (start N vs) H:=by
  refine ⟨?_,?_,fun i e he=>?_,by rw [ej,l5]; exact nd,fun a h=>?_,fun p hp=>?_,ox,fun b o e _=>e,fun p hp=>nomatch hp⟩
  · unfold L2.start; simp [l2,l4,l1]
  · simp [l3,l4]
  · rw [ea]
    by_cases hi:i < fs.length
    · rw [uz (by rw [l4]; exact hi)] at he
      obtain ⟨o,s,h1,h2,h3⟩:=oQ ha i e he
      refine ⟨o,s,by rw [uz (by rw [l3]; exact hi)]; exact h1,?_,h3⟩
      unfold L2.start
      rw [uz (by rw [cu,l2]; exact hi)]; exact h2
    · rw [List.getElem?_append_right (by omega),JA] at he
      split at he
      · rename_i hl
        cases he
        refine ⟨none,none,?_,?_,rfl⟩
        · rw [BL (by omega),JA,if_pos (by rw [l3]; rw [l4] at hl; exact hl)]
        · unfold L2.start
          rw [BL (by rw [cu]; omega),JA,cu,if_pos (by rw [l2]; rw [l4,l1] at hl; exact hl)]
      · cases he
  · rw [ej,l5] at h
    obtain ⟨t,r⟩:=me ha a h
    exact ⟨.inl (by show a∈(pz fs as 0).map (·.2); rw [p1]; exact h),nx a h,r.mut⟩
  · obtain ⟨_,e⟩:=p2 p hp
    rw [Nat.sub_zero] at e
    rw [uz (fY.mp e).1]; exact e
 have fin:∀ {O:List (Option Addr)} {ρ:En} {σ:St} {H':Hp} {Z':Zc},Z'.P=pz fs as 0→aw K Z' [] O ρ σ H'→Paired (fun a u=>cy K H' (av Z' O) a u) as (md fs ρ):=fun {O ρ σ H' Z'} eP I=>by
  have:=sY (ρ:=ρ) (R:=fun a u=>cy K H' (av Z' O) a u) 0 ha fun p hp=>?_
  · rw [List.drop_zero] at this; exact this
  · have e:=I.par p (by rw [eP]; exact hp)
    have hl:=(fY.mp e).1
    have Ss:p.1 < ρ.length:=by rw [← I.lO]; exact hl
    obtain ⟨o,s',h1,h2,h3⟩:=I.sl p.1 ρ[p.1] (by simp)
    rw [e] at h1
    cases h1
    cases q:ρ[p.1] with
    | none=>rw [q] at h3; cases h3
    | some tb =>
      obtain ⟨t,b⟩:=tb
      rw [q] at h3
      cases b with
      | false=>cases h3.1
      | true =>
        obtain ⟨a',e1,_,r⟩:=h3
        cases e1
        exact ⟨t,by rw [← q]; simp,r⟩
 have keep:∀ {O:List (Option Addr)} {ρ:En} {σ:St} {H':Hp} {Z':Zc},Z'.H0=H→Z'.P=pz fs as 0→aw K Z' [] O ρ σ H'→∀ b o,H b=some o→b∉as→H' b=some o:=fun e0 eP I b o e n=>I.keep b o (by rw [e0]; exact e) (by rw [eP,p1]; exact n)
 have sub:∀ {O:List (Option Addr)} {ρ:En} {σ:St} {H':Hp} {Z':Zc},Z'.P=pz fs as 0→aw K Z' [] O ρ σ H'→∀ a∈as,a∈roots O:=fun eP I a h=>by
  have:a∈(pz fs as 0).map (·.2):=by rw [p1]; exact h
  obtain ⟨p,hp,rfl⟩:=wJ.mp this
  exact aN.mpr (mW (I.par p (by rw [eP]; exact hp)))
 refine ⟨_,_,_,I0,hq,⟨fun O ρ σ H' I h=>?_,fun O ρ σ H' r v z h=>?_,fun _ _ _ _ _ h=>h.elim,fun _ _ _ _ _ h=>h.elim⟩⟩
 · have sb:∀ a∈as ++ Ox,a∈av ⟨H,pz fs as 0,Ox⟩ O:=fun a h=>by
    rcases iI.mp h with h | h
    · exact lM _ (sub rfl I a h)
    · exact lL _ h
   exact kk _ _ h .br H' (keep rfl rfl I) ⟨l8,Paired.nC (fin rfl I) fun _ _ q=>q.bt sb⟩
 · cases r with
   | vw t =>
     obtain ⟨I,a⟩:=z
     have sb:∀ a∈as ++ Ox,a∈av ⟨H,pz fs as 0,Ox⟩ O:=fun a h=>by
      rcases iI.mp h with h | h
      · exact lM _ (sub rfl I a h)
      · exact lL _ h
     exact kk _ _ h v H' (keep rfl rfl I) ⟨a.bt sb,Paired.nC (fin rfl I) fun _ _ q=>q.bt sb⟩
   | fr t =>
     obtain ⟨b,rfl,I,hR,h0,hx⟩:=z
     have sb:∀ a∈b :: (as ++ Ox),a∈av (Zc.ex ⟨H,pz fs as 0,Ox⟩ b) O:=fun a h=>by
      rcases cL.mp h with h | h
      · rw [h]; exact lL _ iO
      · rcases iI.mp h with h | h
        · exact lM _ (sub rfl I a h)
        · exact lL _ (jX _ h)
     exact kk _ _ h (.ref b) H' (keep rfl rfl I) ⟨b,rfl,h0,fun hb=>(I.own b (sub rfl I b hb)).2.1 iO,hR.bt sb,Paired.nC (fin rfl I) fun _ _ q=>q.bt sb⟩
section
variable {P:Program} {w:World} {K:PySem.W.Frag} {mg:Str→Option Value} {base:Heap}
theorem TV {x qual:Str} {st:Stmt} {f:Addr} {fd:FuncData} {N ps:List Str} {k:Nat} {fs:List Bool} {G:GT} (F:BU K x qual st f fd) (S:aG N ps (aj st)) (TX:fs.length=ps.length)
  (iU:∀ (bE:Value) (A:Around) (outer:List Env) (s:Shared) (H:Hp) (E:XK) (as Ox:List Addr),bx k (A.deeper (envOfC qual (aj st) s.heap.objs.size f bE))→∀ ts q,ts.length=fs.length→G ts q →
    ∃ g,jE (d0 iW P w K mg base N qual (aj st) f bE A outer s H E).nY ⟨H,pz fs as 0,Ox⟩ (cp st) g∧g { nx:=fun ρ=>q (md fs ρ) (.vw .br),rt:=fun ρ r=>q (md fs ρ) r } (sX fs ts ++ List.replicate (N.length - ts.length) none)) :
  cS P w K mg base iW (k+1) f fd ps (qL K fs G):=by
 refine F.ok S (fun vs H Q E h=>?_) (fun bE A outer s H vs Q E hr h=>?_)
 · obtain ⟨ts,as,Ox,q,_,_,_,ha,_⟩:=h
   rw [← TX]; exact (fG ha).2.1
 · obtain ⟨ts,as,Ox,q,nd,nx,ox,ha,hG,kk⟩:=h
   have l1:=(fG ha).1
   obtain ⟨g,hg,hq⟩:=iU bE A outer s H E as Ox hr ts q l1 hG
   exact ⟨_,hg [],oR nd nx ox ha kk hq⟩
end
def b_ (K:PySem.W.Frag) (n:Nat) (G:List T→(Rt→Prop)→Prop):Sp:=qL K (List.replicate n false) fun ts q=>G ts (q [])
section
variable {K:PySem.W.Frag} {H:Hp} {A:List Addr}
theorem eB:∀ {n:Nat} {ts:List T} {vs:List V},ts.length=n→aE K H A ts vs→eA K H A (List.replicate n false) [] ts vs
 | 0,ts,vs,l,h=>by
   have e:ts=[]:=Q3.mp l
   subst e
   simp only [aE] at h
   exact ⟨rfl,rfl,h⟩
 | n+1,ts,vs,l,h=>by
   cases ts with
   | nil=>simp at l
   | cons t ts =>
     simp only [aE] at h
     obtain ⟨v,r,rfl,h1,h2⟩:=h
     exact ⟨t,ts,v,r,rfl,rfl,h1,eB (by simpa using l) h2⟩
end
theorem aw.IQ {K:PySem.W.Frag} {Z:Zc} {tm:List (T×V)} {O:List (Option Addr)} {ρ:En} {σ:St} {H H':Hp} (I:aw K Z tm O ρ σ H) {a:Addr} (h:H a=none) (s:aJ H H') {u:HO} (hu:H' a=some u):aw K (Z.ex a) tm O ρ σ H':=by
 have J:=I.same s
 obtain ⟨n1,n2,n3⟩:=I.fresh h
 have mr:∀ b∈av (Z.ex a) O,b∈av Z O∨H b=none:=fun b hb=>(dq b hb).imp id fun e=>by rw [e]; exact h
 have fw:∀ {t:T} {v:V},At K H (av Z O) t v→At K H' (av (Z.ex a) O) t v:=fun q=>(q.more mr).same s
 refine ⟨J.lσ,J.lO,fun i e hi=>?_,J.nd,fun b hb=>?_,J.par,fun b hb=>?_,J.keep,fun p hp=>fw (I.n9 p hp)⟩
 · obtain ⟨o,w,h1,h2,h3⟩:=I.sl i e hi
   refine ⟨o,w,h1,h2,h3.map (fun _ _ q=>fw q) fun b t eo q=>?_⟩
   exact cy.same (q.map rfl fun _ _ z=>z.more mr) s
 · obtain ⟨q1,q2,q3⟩:=J.own b hb
   refine ⟨q1,fun z=>?_,q3⟩
   rcases cL.mp z with z | z
   · exact n1 (by rw [← z]; exact lM _ hb)
   · exact q2 z
 · rcases cL.mp hb with z | z
   · rw [z,hu]; simp
   · exact J.ox b z
def Lo (n:Nat) (g:FA) (G:List T→(Rt→Prop)→Prop):FP:=fun ρ Q=>g ρ fun ts=>ts.length=n∧G ts Q
def Lp:Rt→Bool
 | .vw t=>l7 t
 | .fr (.lst ts)=>sS ts
 | _=>false
def Lq (n:Nat) (g:FA) (G:List T→(Rt→Prop)→Prop):FP:=fun ρ Q=>g ρ fun ts=>ts.length=n∧G ts fun r=>Lp r=true∧Q r
section
variable {X:Cx} {Z:Zc} {k n:Nat} {f:Addr} {fd:FuncData} {ps:List Str} {G:List T→(Rt→Prop)→Prop} {x:Str} {p pos:Pos} {e:Expr} {es:List Expr} {g:FA}
theorem zf {tm:List (T×V)} {O:List (Option Addr)} {ρ:En} {σ:St} {H:Hp} {ts:List T} {vs:List V} {q:Rt→Prop} {Q:VK} (I:aw X.K Z tm O ρ σ H) (a:aE X.K H (av Z O) ts vs) (hn:ts.length=n) (hG:G ts q)
  (k:∀ r,q r→∀ v H',aJ H H'→iX X.K Z tm O ρ σ H' r v→Q v H'):b_ X.K n G (vs ++ []) H Q E0:=by
 rw [EY]
 refine ⟨ts,[],av Z O,fun _ r=>q r,JG,fun _ z=>absurd z dZ,I.K0,eB hn a,hG,fun us r hr v H' fr z=>?_⟩
 have s:aJ H H':=fun b o e=>fr b o e dZ
 cases r with
 | vw t=>exact k _ hr v H' s ⟨I.same s,z.1⟩
 | fr t =>
   obtain ⟨b,rfl,hb,_,hR,_⟩:=z
   obtain ⟨n1,n2,n3⟩:=I.fresh hb
   obtain ⟨u,eu,_⟩:=hR.mut
   refine k _ hr _ H' s ⟨b,rfl,I.IQ hb s eu,hR.bt fun c hc=>?_,n3,n2⟩
   rcases dq c hc with z | z
   · exact jX _ z
   · rw [z]; exact iO
theorem aM (F:cS X.prog X.w X.K X.mg X.base iW k f fd ps (b_ X.K n G)) (hr:bx k X.A) (hg:Gl X x) (hm:X.mg x=some (.ref f)) (hk:PySem.W.keepIn X.K (.ref f)=true) (hb:Binds X.K fd ps []) (ha:VA X Z (e :: es) g)
  (lZ:gh x:=by decide) (he:starEach (e :: es) X.env=(false,eval e X.env) :: starEach es X.env:=by rfl) (fg:(backTo pos (starEach es X.env)).any (·.1)=false:=by rfl) :
  VP X Z (.Call (.Name x p) (e :: es) [] pos) (Lo n g G):=.mk fun tm=>PE.weak (kR F hr hg hm hk hb .nil uR (ha tm) lZ he fg) fun σ H Q ⟨ρ,O,q,I,hf,k⟩ =>
 ⟨ρ,O,_,I,hf,fun ts gU vs H1 s1 a1=>zf (I.same s1) a1 gU.1 gU.2 fun r hr v H' s z=>k r hr v H' (s1.trans s) z⟩
theorem gz (F:cS X.prog X.w X.K X.mg X.base iW k f fd ps (b_ X.K n G)) (hr:bx k X.A) (hg:Gl X x) (hm:X.mg x=some (.ref f)) (hk:PySem.W.keepIn X.K (.ref f)=true) (hb:Binds X.K fd ps []) (ha:E8 X Z (e :: es) g)
  (lZ:gh x:=by decide) (he:starEach (e :: es) X.env=(false,eval e X.env) :: starEach es X.env:=by rfl) (fg:(backTo pos (starEach es X.env)).any (·.1)=false:=by rfl) :
  VP X Z (.Call (.Name x p) (e :: es) [] pos) (Lq n g G):=.mk fun tm=>PE.weak (kR F hr hg hm hk hb .nil uR (ha tm) lZ he fg) fun σ H Q ⟨ρ,O,q,I,hf,k⟩ =>
 ⟨ρ,O,_,I,hf,fun ts gU vs H1 s1 a1=>by
   show b_ X.K n G (vs ++ []) H1 Q E0
   rw [EY]
   have J:=I.same s1
   have a2:aE X.K H1 [] ts vs:=aE.iff.mpr (Paired.nC a1 fun _ _ z=>z.bare)
   refine ⟨ts,[],[],fun _ r=>Lp r=true∧q r,JG,fun _ z=>absurd z dZ,fun _ z=>absurd z dZ,eB gU.1 a2,gU.2,fun us r ⟨hi,hr⟩ v H' fr z=>?_⟩
   have s:aJ H1 H':=fun b o e=>fr b o e dZ
   cases r with
   | vw t=>exact k _ hr v H' (s1.trans s) ⟨J.same s,At.l7 hi z.1⟩
   | fr t =>
     obtain ⟨b,rfl,hb,_,hR,_⟩:=z
     obtain ⟨n1,n2,n3⟩:=J.fresh hb
     obtain ⟨u,eu,_⟩:=hR.mut
     cases t with
     | lst ts =>
       obtain ⟨ws,e1,e2⟩:=hR
       exact k _ hr _ H' (s1.trans s) ⟨b,rfl,J.IQ hb s eu,⟨ws,e1,aE.l7 hi e2⟩,n3,n2⟩
     | _=>exact absurd hi (by simp [Lp])⟩
end
def AM (K:PySem.W.Frag) (H:Hp) (A:List Addr) (O:List (Option Addr)) (ρ:En):List (Option Nat)→List T→List V→Prop
 | [],ts,vs=>ts=[]∧vs=[]
 | none :: ms,ts,vs=>∃ t km v kH,ts=t :: km∧vs=v :: kH∧At K H A t v∧AM K H A O ρ ms km kH
 | some k :: ms,ts,vs=>∃ a t km kH,ts=t :: km∧vs = .ref a :: kH∧ρ[k]?=some (some (t,true))∧O[k]?=some (some a)∧AM K H A O ρ ms km kH
def Wh (X:Cx) (Z:Zc) (tm:List (T×V)) (ms:List (Option Nat)) (f:FA):TA:=fun σ H Q=>∃ ρ O q,aw X.K Z tm O ρ σ H∧f ρ q∧∀ ts,q ts→∀ vs H',aJ H H'→AM X.K H' (av Z O) O ρ ms ts vs→Q vs H'
def Lr (X:Cx) (Z:Zc) (es:List Expr) (ms:List (Option Nat)) (f:FA):Prop:=Bx fun tm=>PA X es (Wh X Z tm ms f)
instance {X:Cx} {Z:Zc} {es:List Expr} {ms:List (Option Nat)} {f:FA}:CoeFun (Lr X Z es ms f) fun _=>∀ tm,PA X es (Wh X Z tm ms f):=⟨fun h=>Bx.h h⟩
def CO (i:Nat):FE:=fun ρ Q=>match ρ[i]? with
 | some (some (t,true))=>Q t
 | _=>False
section
variable {X:Cx} {Z:Zc} {e:Expr} {es:List Expr} {g:FA}
theorem sZ:Lr X Z [] [] CB:=.mk fun tm=>PA.weak cx fun σ H Q ⟨ρ,O,q,I,hf,k⟩=>k _ hf [] H (aJ.refl H) ⟨rfl,rfl⟩
theorem i9 {ms:List (Option Nat)} {f:FE} (h:VE X Z e f) (h':Lr X Z es ms g) (hs:starEach (e :: es) X.env=(false,eval e X.env) :: starEach es X.env:=by rfl):Lr X Z (e :: es) (none :: ms) (u4 f g) :=
 .mk fun tm=>PA.weak (bh (h tm) (h' tm) hs) fun σ H Q ⟨ρ,O,q,I,hf,k⟩=>⟨ρ,O,_,I,hf,fun t ht v H1 s1 a1=>⟨ρ,O,_,I.same s1,ht,fun ts gU vs H2 s2 a2=>k _ gU _ H2 (s1.trans s2) ⟨t,ts,v,vs,rfl,rfl,a1.same s2,a2⟩⟩⟩
theorem og (j:Nat) {ms:List (Option Nat)} {y:Str} {py:Pos} (h':Lr X Z es ms g) (hN:X.N[j]?=some y:=by rfl) (hv:sI X.env.scope y:=by first | exact Or.inl rfl | exact Or.inr (Or.inl rfl) | exact Or.inr (Or.inr rfl)) (hd:gh y:=by decide)
  (iL:uH y:=by decide) (hs:starEach (.Name y py :: es) X.env=(false,eval (.Name y py) X.env) :: starEach es X.env:=by rfl):Lr X Z (.Name y py :: es) (some j :: ms) (u4 (CO j) g) :=
 .mk fun tm=>PA.weak (bh (di hN hv hd iL) (h' tm) hs) fun σ H Q ⟨ρ,O,q,I,hf,k⟩=>by
  have RA:CO j ρ fun t=>g ρ fun ts=>q (t :: ts):=hf
  unfold CO at RA
  split at RA
  · rename_i t e0
    obtain ⟨a,h1,h2,h3⟩:=I.root e0
    exact ⟨.ref a,h2,ρ,O,_,I,RA,fun ts gU vs H2 s2 a2=>k _ gU _ H2 s2 ⟨a,t,ts,vs,rfl,rfl,e0,h1,a2⟩⟩
  · exact RA.elim
end
def putK:List Nat→List T→En→En
 | k :: ks,u :: us,ρ=>putK ks us (ρ.set k (some (u,true)))
 | _,_,ρ=>ρ
theorem oU:∀ (ks:List Nat) (us:List T) (ρ:En),(putK ks us ρ).length=ρ.length
 | [],_,_=>rfl
 | _ :: _,[],_=>rfl
 | k :: ks,u :: us,ρ=>by rw [putK,oU]; simp
theorem u_:∀ {ks:List Nat} {us:List T} {ρ:En} {i:Nat} {e:Option (T×Bool)},ks.Nodup→ks.length=us.length→(putK ks us ρ)[i]?=some e→(i∉ks∧ρ[i]?=some e)∨∃ (j:Nat) (u:T),ks[j]?=some i∧us[j]?=some u∧e=some (u,true)
 | [],us,ρ,i,e,_,_,h=>.inl ⟨dZ,h⟩
 | k :: ks,[],ρ,i,e,_,l,h=>by simp at l
 | k :: ks,u :: us,ρ,i,e,nd,l,h=>by
   rw [rm] at nd
   rcases u_ nd.2 (by simpa using l) (show (putK ks us (ρ.set k (some (u,true))))[i]?=some e from h) with ⟨h1,h2⟩ | ⟨j,u',h1,h2,h3⟩
   · rcases get_set h2 with ⟨rfl,rfl,_⟩ | ⟨ne,h2⟩
     · exact .inr ⟨0,u,rfl,rfl,rfl⟩
     · exact .inl ⟨fun z=>by rcases cL.mp z with z | z; exact ne z; exact h1 z,h2⟩
   · exact .inr ⟨j+1,u',by simpa using h1,by simpa using h2,h3⟩
section
variable {K:PySem.W.Frag} {H H':Hp} {A:List Addr}
theorem At.Ls {as:List Addr} {t:T} {v:V} (fr:∀ b o,H b=some o→b∉as→H' b=some o) (sub:∀ a∈as,a∈A) (mu:∀ a∈as,∃ u,H a=some u∧uY u=true) (h:At K H A t v):At K H' A t v:=by
 refine At.map (fun b vs q=>?_) (fun b vs q=>?_) (fun b aZ q=>?_) h
 · rcases q with q | q
   · refine .inl ⟨?_,q.2⟩
     have nb:b∉as:=fun z=>q.2 (sub b z)
     rcases q.1 with z | ⟨o',z⟩
     · exact .inl (fr _ _ z nb)
     · exact .inr ⟨o',fr _ _ z nb⟩
   · exact .inr q
 · rcases q with z | z
   · refine .inl ?_
     have nb:b∉as:=fun m=>by
      obtain ⟨u,eu,mu⟩:=mu b m
      rcases z with z | ⟨o',z⟩
      · rw [z] at eu; cases eu; cases mu
      · rw [z] at eu; cases eu; cases mu
     rcases z with z | ⟨o',z⟩
     · exact .inl (fr _ _ z nb)
     · exact .inr ⟨o',fr _ _ z nb⟩
   · exact .inr z
 · exact ⟨fr _ _ q.1 fun z=>q.2 (sub b z),q.2⟩
theorem AM.args {A':List Addr} {O:List (Option Addr)} {ρ:En} (sub:∀ a∈A',a∈A) (hr:∀ (k:Nat) t,ρ[k]?=some (some (t,true))→∃ a,O[k]?=some (some a)∧cy K H A a t):∀ {ms:List (Option Nat)} {ts:List T} {vs:List V},AM K H A O ρ ms ts vs →
  ∃ as,eA K H A' (ms.map Option.isSome) as ts vs∧Paired (fun a k=>O[k]?=some (some a)) as (ms.filterMap id)
 | [],ts,vs,h=>⟨[],⟨rfl,h.1,h.2⟩,.nil⟩
 | none :: ms,ts,vs,h=>by
   obtain ⟨t,km,v,kH,rfl,rfl,a,h⟩:=h
   obtain ⟨as,h1,h2⟩:=AM.args sub hr h
   exact ⟨as,⟨t,km,v,kH,rfl,rfl,a.bt sub,h1⟩,h2⟩
 | some k :: ms,ts,vs,h=>by
   obtain ⟨a,t,km,kH,rfl,rfl,e0,e1,h⟩:=h
   obtain ⟨as,h1,h2⟩:=AM.args sub hr h
   obtain ⟨a',e2,r⟩:=hr k t e0
   rw [e1] at e2
   cases e2
   exact ⟨a :: as,⟨a,as,t,km,kH,rfl,rfl,rfl,r.bt sub,h1⟩,.cons e1 h2⟩
end
def Lu (ms:List (Option Nat)) (g:FA) (G:GT):FX:=fun ρ Q=>g ρ fun ts=>G ts fun us r=>Q (putK (ms.filterMap id) us ρ) r
section
variable {X:Cx} {Z:Zc} {k:Nat} {f:Addr} {fd:FuncData} {ps:List Str} {fs:List Bool} {G:GT} {x:Str} {p pos:Pos} {e:Expr} {es:List Expr} {g:FA} {ms:List (Option Nat)}
theorem IS {K:PySem.W.Frag} {tm:List (T×V)} {O:List (Option Addr)} {ρ:En} {σ:St} {H:Hp} (I:aw K Z tm O ρ σ H) {i j:Nat} {a:Addr} (h1:O[i]?=some (some a)) (h2:O[j]?=some (some a)):i=j:=by
 have key:∀ (O:List (Option Addr)) (i j:Nat),i < j→O[i]?=some (some a)→O[j]?=some (some a)→(roots O).Nodup→False:=by
  intro O
  induction O with
  | nil=>intro i j _ h; simp at h
  | cons o O ih =>
    intro i j F8 e1 e2 nd
    cases j with
    | zero=>omega
    | succ j =>
      have E6:O[j]?=some (some a):=by simpa using e2
      cases i with
      | zero =>
        have:o=some a:=by simpa using e1
        subst this
        simp only [roots,nP,id] at nd
        exact (rm.mp nd).1 (aN.mpr (mW E6))
      | succ i =>
        refine ih i j (by omega) (by simpa using e1) E6 ?_
        cases o with
        | none=>simpa [roots] using nd
        | some b=>simp only [roots,nP,id] at nd; exact (rm.mp nd).2
 rcases Nat.lt_trichotomy i j with l | l | l
 · exact (key O i j l h1 h2 I.nd).elim
 · exact l
 · exact (key O j i l h2 h1 I.nd).elim
theorem fH {α β:Type} {F:α→β→Prop}:∀ {l₁:List α} {l₂:List β} {a:α},Paired F l₁ l₂→a∈l₁→∃ b∈l₂,F a b
 | _,_,_,.nil,h=>nomatch h
 | _,_,a,.cons r t,h=>by
   rcases cL.mp h with z | z
   · subst z; exact ⟨_,iO,r⟩
   · obtain ⟨b,h1,h2⟩:=fH t z; exact ⟨b,jX _ h1,h2⟩
theorem oV {α β:Type} {F:α→β→Prop}:∀ {l₁:List α} {l₂:List β} {i:Nat} {b:β},Paired F l₁ l₂→l₂[i]?=some b→∃ a,l₁[i]?=some a∧F a b
 | _,_,_,_,.nil,e=>by simp at e
 | _,_,0,_,.cons r _,e=>by simp at e; subst e; exact ⟨_,rfl,r⟩
 | _,_,i+1,b,.cons _ t,e=>by
   obtain ⟨a,h1,h2⟩:=oV (i:=i) (b:=b) t (by simpa using e)
   exact ⟨a,by simpa using h1,h2⟩
theorem i_ {α β:Type} {F:α→β→Prop}:∀ {l₁:List α} {l₂:List β} {i:Nat} {a:α},Paired F l₁ l₂→l₁[i]?=some a→∃ b,l₂[i]?=some b∧F a b
 | _,_,_,_,.nil,e=>by simp at e
 | _,_,0,_,.cons r _,e=>by simp at e; subst e; exact ⟨_,rfl,r⟩
 | _,_,i+1,b,.cons _ t,e=>by
   obtain ⟨a,h1,h2⟩:=i_ (i:=i) (a:=b) t (by simpa using e)
   exact ⟨a,by simpa using h1,h2⟩
theorem aw.called {K:PySem.W.Frag} {Z':Zc} {tm:List (T×V)} {O:List (Option Addr)} {ρ:En} {σ:St} {H H':Hp} {as:List Addr} {ks:List Nat} {us:List T} (I:aw K Z tm O ρ σ H) (hk:Paired (fun a k=>O[k]?=some (some a)) as ks) (nk:ks.Nodup)
  (fr:∀ b o,H b=some o→b∉as→H' b=some o) (hu:Paired (fun a u=>cy K H' (av Z' O) a u) as us)
  (hZ:Z'.H0=Z.H0) (hP:Z'.P=Z.P) (Wi:∀ a∈Z'.Ox,a∉roots O∧H' a≠none) (more:∀ a∈av Z' O,a∈av Z O∨H a=none):aw K Z' tm O (putK ks us ρ) σ H':=by
 have xl:∀ a∈as,a∈roots O:=fun a h=>by obtain ⟨k,_,e⟩:=fH hk h; exact aN.mpr (mW e)
 have sub:∀ a∈as,a∈av Z O:=fun a h=>lM _ (xl a h)
 have TY:∀ a∈as,a∈av Z' O:=fun a h=>lM _ (xl a h)
 have mu:∀ a∈as,∃ u,H a=some u∧uY u=true:=fun a h=>(I.own a (xl a h)).2.2
 have fw:∀ {t:T} {v:V},At K H (av Z O) t v→At K H' (av Z' O) t v:=fun q=>(q.more more).Ls fr TY mu
 have XB:∀ {t:List T} {v:List V},aE K H (av Z O) t v→aE K H' (av Z' O) t v:=fun q=>aE.iff.mpr (Paired.nC (aE.iff.mp q) fun _ _ z=>fw z)
 refine ⟨by rw [oU]; exact I.lσ,by rw [oU]; exact I.lO,fun i e h=>?_,I.nd,fun b hb=>?_,by rw [hP]; exact I.par,fun a ha=>(Wi a ha).2,fun b o e n=>?_,fun p hp=>fw (I.n9 p hp)⟩
 · rcases u_ nk (by rw [← Paired.length hk,Paired.length hu]) h with ⟨h1,h2⟩ | ⟨j,u,h1,h2,rfl⟩
   · obtain ⟨o,s,g1,g2,g3⟩:=I.sl i e h2
     refine ⟨o,s,g1,g2,g3.map (fun _ _ q=>fw q) fun b t eo q=>?_⟩
     subst eo
     have nb:b∉as:=fun m=>by
      obtain ⟨k,Lv,Gs⟩:=fH hk m
      exact h1 (by rw [IS I g1 Gs]; exact Lv)
     obtain ⟨u,eu,_⟩:=q.mut
     exact q.map (by rw [eu]; exact fr _ _ eu nb) fun _ _ z=>XB z
   · obtain ⟨a,ha,r⟩:=oV hu h2
     obtain ⟨k,Lv,Gs⟩:=i_ hk ha
     rw [h1] at Lv
     cases Lv
     have hl:i < ρ.length:=by rw [← I.lO]; exact (fY.mp Gs).1
     obtain ⟨o,s,g1,g2,g3⟩:=I.sl i ρ[i] (by simp)
     rw [Gs] at g1
     cases g1
     refine ⟨some a,s,Gs,g2,a,rfl,?_,r⟩
     cases q:ρ[i] with
     | none=>rw [q] at g3; cases g3
     | some tb =>
       obtain ⟨t,b⟩:=tb
       rw [q] at g3
       cases b with
       | false=>cases g3.1
       | true=>obtain ⟨a',e1,e2,_⟩:=g3; cases e1; exact e2
 · obtain ⟨q1,q2,v,e,m⟩:=I.own b hb
   refine ⟨by rw [hZ,hP]; exact q1,fun z=>(Wi b z).1 hb,?_⟩
   by_cases Wj:b∈as
   · obtain ⟨j,hj⟩:=NH.mp Wj
     obtain ⟨u,_,r⟩:=i_ hu hj
     exact r.mut
   · exact ⟨v,fr _ _ e Wj,m⟩
 · rw [hZ] at e
   rw [hP] at n
   refine fr _ _ (I.keep b o e n) fun m=>?_
   rcases (I.own b (xl b m)).1 with z | z
   · exact n z
   · rw [z] at e; cases e
theorem oW (F:cS X.prog X.w X.K X.mg X.base iW k f fd ps (qL X.K fs G)) (hr:bx k X.A) (hg:Gl X x) (hm:X.mg x=some (.ref f)) (hk:PySem.W.keepIn X.K (.ref f)=true) (hb:Binds X.K fd ps []) (ha:Lr X Z (e :: es) ms g)
  (TX:ms.map Option.isSome=fs:=by rfl) (Lw:(ms.filterMap id).Nodup:=by decide)
  (lZ:gh x:=by decide) (he:starEach (e :: es) X.env=(false,eval e X.env) :: starEach es X.env:=by rfl) (fg:(backTo pos (starEach es X.env)).any (·.1)=false:=by rfl) :
  VX X Z (.Call (.Name x p) (e :: es) [] pos) (Lu ms g G):=.mk fun tm=>PE.weak (kR F hr hg hm hk hb .nil uR (ha tm) lZ he fg) fun σ H Q ⟨ρ,O,q,I,hf,k⟩ =>
 ⟨ρ,O,_,I,hf,fun ts gU vs H1 s1 a1=>by
   subst TX
   show qL X.K _ G (vs ++ []) H1 Q E0
   rw [EY]
   have J:=I.same s1
   obtain ⟨as,h1,h2⟩:=AM.args (A':=av Z O) (fun _ z=>z) (fun k t e=>by obtain ⟨a,q1,q2,q3⟩:=J.root e; exact ⟨a,q1,q3⟩) a1
   have xl:∀ a∈as,a∈roots O:=fun a h=>by obtain ⟨k,_,e⟩:=fH h2 h; exact aN.mpr (mW e)
   have XD:as.Nodup:=by
    clear h1
    have:∀ {as:List Addr} {ks:List Nat},ks.Nodup→Paired (fun a k=>O[k]?=some (some a)) as ks→as.Nodup:=by
     intro as ks nd h
     induction h with
     | nil=>exact JG
     | cons r t ih =>
       rw [rm] at nd ⊢
       refine ⟨fun m=>?_,ih nd.2⟩
       obtain ⟨k',m1,m2⟩:=fH t m
       exact nd.1 (by rw [IS J r m2]; exact m1)
    exact this Lw h2
   have RB:∀ b,b∈as ++ (av Z O).filter (fun b=>decide (b∉as))↔b∈av Z O:=fun b=>by
    rw [iI,NQ]
    constructor
    · rintro (z | z)
      · exact lM _ (xl b z)
      · exact z.1
    · intro z
      by_cases hb:b∈as
      · exact .inl hb
      · exact .inr ⟨z,decide_eq_true hb⟩
   obtain ⟨rL,TZ,Lx⟩:=AM.args (A':=as ++ (av Z O).filter (fun b=>decide (b∉as))) (fun b z=>(RB b).mp z) (fun k t e=>by obtain ⟨a,q1,q2,q3⟩:=J.root e; exact ⟨a,q1,q3⟩) a1
   have ee:rL=as:=by
    have:∀ {as rL:List Addr} {ks:List Nat},Paired (fun a k=>O[k]?=some (some a)) as ks→Paired (fun a k=>O[k]?=some (some a)) rL ks→rL=as:=by
     intro as rL ks h h'
     induction h generalizing rL with
     | nil=>cases h'; rfl
     | cons r t ih =>
       cases h' with
       | cons r' t' =>
         rw [r] at r'
         cases r'
         rw [ih t']
    exact this h2 Lx
   subst ee
   refine ⟨ts,rL,(av Z O).filter (fun b=>decide (b∉rL)),_,XD,fun a h z=>?_,fun a h=>J.K0 a (NQ.mp h).1,TZ,gU,fun us r hr v H' fr z=>?_⟩
   · exact (of_decide_eq_true (NQ.mp z).2) h
   have O9:∀ a∈Z.Ox,a∉roots O∧H' a≠none:=fun a h=>by
    have na:a∉roots O:=fun m=>(J.own a m).2.1 h
    refine ⟨na,?_⟩
    cases e:H1 a with
    | none=>exact absurd e (J.ox a h)
    | some u=>rw [fr _ _ e fun m=>na (xl a m)]; simp
   cases r with
   | vw t =>
     obtain ⟨z1,z2⟩:=z
     exact k _ _ hr O v H' ⟨J.called h2 Lw fr (Paired.nC z2 fun _ _ q=>q.bt fun b hb=>(RB b).mpr hb) rfl rfl O9 fun a h=>.inl h,z1.bt fun b hb=>(RB b).mpr hb⟩
   | fr t =>
     obtain ⟨b,rfl,hb,nb,hR,z2⟩:=z
     obtain ⟨n1,n2,n3⟩:=J.fresh hb
     have sb:∀ c∈av (Z.ex b) O,c∈b :: (rL ++ (av Z O).filter (fun b=>decide (b∉rL))):=fun c hc=>by
      rcases dq c hc with z | z
      · exact jX _ ((RB c).mpr z)
      · rw [z]; exact iO
     refine k _ _ hr O _ H' ⟨b,rfl,J.called h2 Lw fr (Paired.nC z2 fun _ _ q=>q.bt sb) rfl rfl (fun a h=>?_) (fun a h=>(dq a h).imp id fun e=>by rw [e]; exact hb),hR.bt sb,n3,n2⟩
     rcases cL.mp h with z | z
     · subst z
       obtain ⟨u,eu,_⟩:=hR.mut
       exact ⟨fun m=>n1 (lM _ m),by rw [eu]; simp⟩
     · exact O9 a z⟩
end
section
variable (K:PySem.W.Frag)
theorem va:PySem.W.kitOne K (.type "int") (.type "int")=some true:=by kernel_rfl
theorem s_:PySem.W.kitOne K (.type "int") (.type "bool")=some false:=by kernel_rfl
theorem vb:PySem.W.kitOne K (.type "int") (.type "str")=some false:=by kernel_rfl
theorem qM:PySem.W.kitOne K (.type "int") (.type "tuple")=some false:=by kernel_rfl
theorem tf:PySem.W.kitOne K (.type "bool") (.type "int")=some true:=by kernel_rfl
theorem qN:PySem.W.kitOne K (.type "bool") (.type "bool")=some true:=by kernel_rfl
theorem tq:PySem.W.kitOne K (.type "bool") (.type "str")=some false:=by kernel_rfl
theorem oX:PySem.W.kitOne K (.type "bool") (.type "tuple")=some false:=by kernel_rfl
theorem vd:PySem.W.kitOne K (.type "str") (.type "int")=some false:=by kernel_rfl
theorem tu:PySem.W.kitOne K (.type "str") (.type "bool")=some false:=by kernel_rfl
theorem vf:PySem.W.kitOne K (.type "str") (.type "str")=some true:=by kernel_rfl
theorem qO:PySem.W.kitOne K (.type "str") (.type "tuple")=some false:=by kernel_rfl
theorem tw:PySem.W.kitOne K (.type "list") (.type "int")=some false:=by kernel_rfl
theorem qP:PySem.W.kitOne K (.type "list") (.type "bool")=some false:=by kernel_rfl
theorem tD:PySem.W.kitOne K (.type "list") (.type "str")=some false:=by kernel_rfl
theorem oY:PySem.W.kitOne K (.type "list") (.type "tuple")=some false:=by kernel_rfl
theorem qQ:PySem.W.kitOne K (.type "tuple") (.type "int")=some false:=by kernel_rfl
theorem oZ:PySem.W.kitOne K (.type "tuple") (.type "bool")=some false:=by kernel_rfl
theorem qR:PySem.W.kitOne K (.type "tuple") (.type "str")=some false:=by kernel_rfl
theorem nH:PySem.W.kitOne K (.type "tuple") (.type "tuple")=some true:=by kernel_rfl
theorem tE:PySem.W.kitOne K (.type "dict") (.type "int")=some false:=by kernel_rfl
theorem qS:PySem.W.kitOne K (.type "dict") (.type "bool")=some false:=by kernel_rfl
theorem tF:PySem.W.kitOne K (.type "dict") (.type "str")=some false:=by kernel_rfl
theorem o4:PySem.W.kitOne K (.type "dict") (.type "tuple")=some false:=by kernel_rfl
theorem mf:PySem.W.kitOne K (.type "NoneType") (.type "int")=some false:=by kernel_rfl
theorem kY:PySem.W.kitOne K (.type "NoneType") (.type "bool")=some false:=by kernel_rfl
theorem mh:PySem.W.kitOne K (.type "NoneType") (.type "str")=some false:=by kernel_rfl
theorem kn:PySem.W.kitOne K (.type "NoneType") (.type "tuple")=some false:=by kernel_rfl
end
def Wl (K:PySem.W.Frag) (H:Hp):V→String→Prop
 | .br,t=>t="NoneType"
 | .bl _,t=>t="bool"
 | .int _,t=>t="int"
 | .str _,t=>t="str"
 | .ref a,t=>(t="list"∧∃ xs,eY K H a xs)∨(t="tuple"∧∃ xs,d9 K H a xs)∨(t="dict"∧∃ aZ,H a=some (.dK aZ))
 | _,_=>False
def O_ (K:PySem.W.Frag):List V→Hp→VK→Prop:=fun xs H Q=>∃ x n t b,xs=[x,.ty n]∧Wl K H x t∧PySem.W.kitOne K (.type t) (.type n)=some b∧Q (.bl b) H
theorem Aj {X:Cx}:cw X (.builtin "isinstance") (O_ X.K):=by
 intro pins s σ H xs us Q I r h
 obtain ⟨x,n,t,b,rfl,ty,e,q⟩:=h
 obtain ⟨u,w',rfl,rx,ry⟩:=vals2 r
 obtain rfl:w'=Value.type n:=ry
 have fin:∀ tk,EP X pins σ Q (.bool b) { s with toks:=tk }:=fun tk=>⟨.bl b,H,I.tok _,rfl,q⟩
 cases x with
 | br=>cases (show t=_ from ty); cases (show u=Value.none from rx); exact Ik PySem.W.kitx_none I.jZ True.intro e (fun z=>nomatch z) fin
 | bl y=>cases (show t=_ from ty); cases (show u=Value.bool y from rx); exact Ik PySem.W.kitx_bool I.jZ True.intro e (fun z=>nomatch z) fin
 | int i=>cases (show t=_ from ty); obtain ⟨t,q⟩:=(show ∃ t,u=Value.int i t from rx); cases q; exact Ik PySem.W.kitx_int I.jZ True.intro e (fun z=>nomatch z) fin
 | str y=>cases (show t=_ from ty); obtain ⟨t,q⟩:=(show ∃ t,u=Value.str y t from rx); cases q; exact Ik PySem.W.kitx_str I.jZ True.intro e (fun z=>nomatch z) fin
 | ref a =>
   cases (show u=Value.ref a from rx)
   rcases ty with ⟨rfl,xs,hq⟩ | ⟨rfl,xs,hq⟩ | ⟨rfl,aZ,hq⟩
   · obtain ⟨aK,_,p,_⟩:=I.list hq
     obtain ⟨o,n',h1,h2,_⟩:=p
     exact Ik PySem.W.kitx_list I.jZ ⟨o,h1,h2⟩ e (fun z=>nomatch z) fin
   · obtain ⟨aK,_,p,_⟩:=I.tuple hq
     obtain ⟨o,h1,h2,_⟩:=p
     exact Ik PySem.W.kitx_tuple I.jZ ⟨o,h1,h2⟩ e (fun z=>nomatch z) fin
   · obtain ⟨_,_,vs,_,p⟩:=(show bQ X.prog X.w H s.heap a (.dK aZ) from I.bD a _ hq)
     obtain ⟨o,es,ep,h1,h2,_⟩:=p
     exact Ik PySem.W.kitx_dict I.jZ ⟨o,h1,h2.1⟩ e (fun z=>nomatch z) fin
 | _=>exact (show False from ty).elim
def isInt:T→Bool
 | .int _=>true
 | .bl _=>true
 | _=>false
def isBool:T→Bool
 | .bl _=>true
 | _=>false
def isStr:T→Bool
 | .str _=>true
 | _=>false
def isList:T→Bool
 | .lst _=>true
 | _=>false
def Gu:T→Bool
 | .tup _=>true
 | _=>false
def known:T→Bool
 | .dt _ _=>false
 | .df _ _ _=>false
 | .dz _ _ _=>false
 | .kt _=>false
 | .ins _ _ _=>false
 | .pin _ _=>false
 | .ob _=>false
 | .ty _=>false
 | _=>true
def o5 (K:PySem.W.Frag) (n:String) (p:T→Bool):Prop:=∀ H A t v,known t=true→gT K H A t v→∃ ty,Wl K H v ty∧PySem.W.kitOne K (.type ty) (.type n)=some (p t)
theorem vg {K:PySem.W.Frag}:o5 K "int" isInt:=by
 intro H A t v hk h
 cases t with
 | br=>rw [h.br]; exact ⟨_,rfl,mf K⟩
 | bl b=>rw [h.bl]; exact ⟨_,rfl,tf K⟩
 | int b=>rw [h.int]; exact ⟨_,rfl,va K⟩
 | str b=>rw [h.str]; exact ⟨_,rfl,vd K⟩
 | tup l=>obtain ⟨a,vs,rfl,q,_⟩:=h.tup; exact ⟨_,.inr (.inl ⟨rfl,_,q⟩),qQ K⟩
 | lst l=>obtain ⟨a,vs,rfl,q,_⟩:=h.lst; exact ⟨_,.inl ⟨rfl,_,q⟩,tw K⟩
 | dk ks l=>obtain ⟨a,vs,rfl,_,q,_⟩:=h.dk; exact ⟨_,.inr (.inr ⟨rfl,_,q⟩),tE K⟩
 | _=>simp only [known] at hk; cases hk
theorem rM {K:PySem.W.Frag}:o5 K "bool" isBool:=by
 intro H A t v hk h
 cases t with
 | br=>rw [h.br]; exact ⟨_,rfl,kY K⟩
 | bl b=>rw [h.bl]; exact ⟨_,rfl,qN K⟩
 | int b=>rw [h.int]; exact ⟨_,rfl,s_ K⟩
 | str b=>rw [h.str]; exact ⟨_,rfl,tu K⟩
 | tup l=>obtain ⟨a,vs,rfl,q,_⟩:=h.tup; exact ⟨_,.inr (.inl ⟨rfl,_,q⟩),oZ K⟩
 | lst l=>obtain ⟨a,vs,rfl,q,_⟩:=h.lst; exact ⟨_,.inl ⟨rfl,_,q⟩,qP K⟩
 | dk ks l=>obtain ⟨a,vs,rfl,_,q,_⟩:=h.dk; exact ⟨_,.inr (.inr ⟨rfl,_,q⟩),qS K⟩
 | _=>simp only [known] at hk; cases hk
theorem o6 {K:PySem.W.Frag}:o5 K "str" isStr:=by
 intro H A t v hk h
 cases t with
 | br=>rw [h.br]; exact ⟨_,rfl,mh K⟩
 | bl b=>rw [h.bl]; exact ⟨_,rfl,tq K⟩
 | int b=>rw [h.int]; exact ⟨_,rfl,vb K⟩
 | str b=>rw [h.str]; exact ⟨_,rfl,vf K⟩
 | tup l=>obtain ⟨a,vs,rfl,q,_⟩:=h.tup; exact ⟨_,.inr (.inl ⟨rfl,_,q⟩),qR K⟩
 | lst l=>obtain ⟨a,vs,rfl,q,_⟩:=h.lst; exact ⟨_,.inl ⟨rfl,_,q⟩,tD K⟩
 | dk ks l=>obtain ⟨a,vs,rfl,_,q,_⟩:=h.dk; exact ⟨_,.inr (.inr ⟨rfl,_,q⟩),tF K⟩
 | _=>simp only [known] at hk; cases hk
theorem o7 {K:PySem.W.Frag}:o5 K "tuple" Gu:=by
 intro H A t v hk h
 cases t with
 | br=>rw [h.br]; exact ⟨_,rfl,kn K⟩
 | bl b=>rw [h.bl]; exact ⟨_,rfl,oX K⟩
 | int b=>rw [h.int]; exact ⟨_,rfl,qM K⟩
 | str b=>rw [h.str]; exact ⟨_,rfl,qO K⟩
 | tup l=>obtain ⟨a,vs,rfl,q,_⟩:=h.tup; exact ⟨_,.inr (.inl ⟨rfl,_,q⟩),nH K⟩
 | lst l=>obtain ⟨a,vs,rfl,q,_⟩:=h.lst; exact ⟨_,.inl ⟨rfl,_,q⟩,oY K⟩
 | dk ks l=>obtain ⟨a,vs,rfl,_,q,_⟩:=h.dk; exact ⟨_,.inr (.inr ⟨rfl,_,q⟩),o4 K⟩
 | _=>simp only [known] at hk; cases hk
def Pa (f:FE) (p:T→Bool):FP:=fun ρ Q=>f ρ fun t=>known t=true∧Q (.vw (.bl (p t)))
section
variable {X:Cx} {Z:Zc} {e a b c:Expr} {es:List Expr} {pos p p2:Pos} {fa fb Nq:FE}
theorem kZ:bootBuiltins "isinstance" = some (.builtin "isinstance"):=by decide +kernel
theorem e_ {n:String} {y:Str} {q:T→Bool} (hq:o5 X.K n q) (hg:Gl X "isinstance") (hm:X.mg "isinstance" = none) (XE:Gl X y) (XG:X.mg y=none) (XH:bootBuiltins y=some (.type n)) (ha:VR X Z e fa)
  (XI:y≠"__name__":=by decide) (XJ:gh y:=by decide)
  (hs:starEach [e,.Name y p2] X.env=(false,eval e X.env) :: starEach [.Name y p2] X.env:=by rfl) (uE:starEach [.Name y p2] X.env=(false,eval (.Name y p2) X.env) :: starEach [] X.env:=by rfl) (fg:(backTo pos (starEach [.Name y p2] X.env)).any (·.1)=false:=by rfl) :
  VP X Z (.Call (.Name "isinstance" p) [e,.Name y p2] [] pos) (Pa fa q):=.mk fun tm =>
 PE.weak (kS Aj hg hm kZ (bh (ha tm) (bh (Fu (v:=.ty n) XE XG XH rfl XI XJ) cx uE) hs) (by decide) (by decide) hs fg) fun σ H Q ⟨ρ,O,q',I,hf,k⟩=>⟨ρ,O,_,I,hf,fun t ht v H1 s1 a1=>by
  obtain ⟨ty,h1,h2⟩:=hq H1 _ t v ht.1 a1
  exact ⟨v,n,ty,_,rfl,h1,h2,k _ ht.2 _ H1 s1 ⟨I.same s1,du⟩⟩⟩
def j6:T→Bool
 | .br=>true
 | .bl _=>true
 | .int _=>true
 | .str _=>true
 | _=>false
def vh:List T→Bool
 | []=>true
 | t :: ts=>j6 t && vh ts
def xm (x:T):List T→Bool
 | []=>false
 | t :: ts=>eqT t x || xm x ts
theorem mi {K:PySem.W.Frag} {H:Hp} {A:List Addr}:∀ {ts:List T} {vs:List V} {x:T} {v:V},vh ts=true→j6 x=true→aE K H A ts vs→At K H A x v→vs.all iV=true∧iV v=true∧Rn v vs=xm x ts
 | [],vs,x,v,_,fx,h,hx=>by
   simp only [aE] at h; subst h
   refine ⟨rfl,?_,rfl⟩
   cases x <;> simp only [At] at hx <;> first | (subst hx; rfl) | (simp only [j6] at fx; cases fx)
 | t :: ts,vs,x,v,f,fx,h,hx=>by
   simp only [aE] at h
   obtain ⟨u,r,rfl,h1,h2⟩:=h
   simp only [vh,iP] at f
   obtain ⟨i1,i2,i3⟩:=mi f.2 fx h2 hx
   have ft:iV u=true:=by
    cases t <;> simp only [At] at h1 <;> first | (subst h1; rfl) | (have:=f.1; simp only [j6] at this; cases this)
   have e:E5 u v=eqT t x:=by
    cases t <;> simp only [At] at h1 <;> first
     | (have:=f.1; simp only [j6] at this; cases this; done)
     | (subst h1
        cases x <;> simp only [At] at hx <;> first
         | (simp only [j6] at fx; cases fx; done)
         | (subst hx; simp [E5,eqT]; done))
   refine ⟨by simp [ft,i1],i2,?_⟩
   simp only [xm,Rn,Nk]
   rw [e]
   congr 1
def Ly (K:PySem.W.Frag) (neg:Bool):R2:=fun x y H Q=>V6 K neg x y H Q∨∃ i j,x = .str i∧y = .str j∧Q (.bl (if neg then !(!(Builtin.Str.occurrences j i 0 j.length 1).isEmpty) else !(Builtin.Str.occurrences j i 0 j.length 1).isEmpty)) H
theorem xn:fq X (compareOp .In) (Ly X.K false):=by
 intro pins s σ H x y v u Q I rx ry h
 rcases h with h | ⟨i,j,h1,h2,h⟩
 · exact Ac pins s σ H x y v u Q I rx ry h
 · exact z9 pins s σ H x y v u Q I rx ry ⟨i,j,h1,h2,by simpa using h⟩
def CP (i j:Str):Bool:=!(Builtin.Str.occurrences j i 0 j.length 1).isEmpty
def Pb (x y:T) (q:Rt→Prop):Prop:=match y with
 | .lst ts=>j6 x=true∧vh ts=true∧q (.vw (.bl (xm x ts)))
 | .tup ts=>j6 x=true∧vh ts=true∧q (.vw (.bl (xm x ts)))
 | .str j=>∃ i,x = .str i∧q (.vw (.bl (CP i j)))
 | _=>False
theorem xo {K:PySem.W.Frag}:qy K (Ly K false) Pb:=by
 intro Z tm O ρ σ H x y v w q Q I h1 h2 h k
 have x1:j6 x=true→At K H (av Z O) x v:=fun f=>by
  rcases h1 with h | ⟨a,rfl,h⟩
  · exact h
  · cases x <;> first | exact h.elim | (simp only [j6] at f; cases f)
 unfold Pb at h
 split at h
 · obtain ⟨f1,f2,h⟩:=h
   obtain ⟨a,vs,rfl,q1,q2⟩:=h2.lst
   obtain ⟨i1,i2,i3⟩:=mi f2 f1 q2 (x1 f1)
   exact .inl ⟨a,vs,rfl,.inl q1,i2,i1,k _ h _ H (aJ.refl H) ⟨I,by rw [if_neg nS,i3]; exact du⟩⟩
 · obtain ⟨f1,f2,h⟩:=h
   obtain ⟨a,vs,rfl,q1,q2⟩:=h2.tup
   obtain ⟨i1,i2,i3⟩:=mi f2 f1 q2 (x1 f1)
   exact .inl ⟨a,vs,rfl,.inr q1,i2,i1,k _ h _ H (aJ.refl H) ⟨I,by rw [if_neg nS,i3]; exact du⟩⟩
 · obtain ⟨i,rfl,h⟩:=h
   exact .inr ⟨i,_,h1.str,h2.str,k _ h _ H (aJ.refl H) ⟨I,by rw [if_neg nS]; exact du⟩⟩
 · exact h.elim
theorem IT (ha:VR X Z a fa) (hb:VR X Z b fb) (hm:behindInMarks .In b=false:=by rfl):VP X Z (.Compare a [.In] [b] pos) (f2 fa fb Pb):=oM xn xo ha hb hm
theorem zg (ha:VR X Z a fa) (hb:VR X Z b fb) (hm:behindInMarks .In b=false:=by rfl):VC X Z (.Compare a [.In] [b] pos) (sT (f2 fa fb Pb)):=l_ xn xo ha hb hm
def IU:T→Bool
 | .br=>true
 | _=>false
def T1 (x y:T) (q:Rt→Prop):Prop:=match y with
 | .br=>q (.vw (.bl (IU x)))
 | _=>False
theorem Gv {K:PySem.W.Frag} {H:Hp} {A:List Addr} {t:T} {v:V} (h:gT K H A t v):decide (v = .br)=IU t:=by
 cases t with
 | br=>rw [h.br]; rfl
 | bl b=>rw [h.bl]; rfl
 | int b=>rw [h.int]; rfl
 | str b=>rw [h.str]; rfl
 | ob b=>rw [h.ob]; rfl
 | ty b =>
   have:v = .ty b:=h.elim (fun q=>by simpa only [At] using q) fun ⟨_,_,q⟩=>q.elim
   rw [this]; rfl
 | tup l=>obtain ⟨a,vs,rfl,_⟩:=h.tup; rfl
 | lst l=>obtain ⟨a,vs,rfl,_⟩:=h.lst; rfl
 | dk ks l=>obtain ⟨a,vs,rfl,_⟩:=h.dk; rfl
 | dt ks l=>obtain ⟨a,vs,rfl,_⟩:=h.dt; rfl
 | df o ks l=>obtain ⟨a,vs,rfl,_⟩:=h.df; rfl
 | dz o ks l=>obtain ⟨a,vs,rfl,_⟩:=h.dz; rfl
 | kt k=>obtain ⟨a,rfl,_⟩:=h.kt; rfl
 | ins C ns l=>obtain ⟨a,dx,vs,rfl,_⟩:=h.ins; rfl
 | pin a t =>
   have e:v = .ref a:=h.elim (fun q=>by simp only [At] at q; exact q.1) fun ⟨_,_,q⟩=>q.elim
   rw [e]; rfl
theorem Lz {K:PySem.W.Frag}:qy K (fun x y H Q=>y = .br∧Q (.bl (decide (x = .br))) H) T1:=by
 intro Z tm O ρ σ H x y v w q Q I h1 h2 h k
 unfold T1 at h
 split at h
 · exact ⟨h2.br,k _ h _ H (aJ.refl H) ⟨I,by rw [Gv h1]; exact du⟩⟩
 · exact h.elim
theorem rN (ha:VR X Z a fa) (hb:VR X Z b fb):VC X Z (.Compare a [.Is] [b] pos) (sT (f2 fa fb T1)):=l_ Ks Lz ha hb (iT _)
theorem vi {g g':Int→Int→Bool} {tm:List (T×V)} {σ:St} {H:Hp} {Q:VK} (h:lP X Z tm (f3 fa fb Nq (K4 g) (K4 g')) σ H Q):wR (rz fun i j=>.bl (g i j)) (rz fun i j=>.bl (g' i j)) (lR X Z tm fa) (lR X Z tm fb) (lR X Z tm Nq) σ H Q:=by
 obtain ⟨ρ,O,q,I,hf,k⟩:=h
 refine ⟨ρ,O,_,I,hf,fun x hx v H1 s1 a1=>⟨ρ,O,_,I.same s1,hx,fun y hy w H2 s2 a2=>?_⟩⟩
 have J:=(I.same s1).same s2
 unfold K4 at hy
 split at hy
 · rename_i i j
   refine ⟨i,j,(a1.same s2).int,a2.int,_,rfl,?_⟩
   cases e:g i j with
   | true =>
     rw [e] at hy
     refine OG ⟨ρ,O,_,J,hy,fun z hz w3 H3 s3 a3=>?_⟩
     split at hz
     · rename_i e1
       cases e1
       exact ⟨_,_,(a2.same s3).int,a3.int,k _ hz _ H3 ((s1.trans s2).trans s3) ⟨J.same s3,du⟩⟩
     · exact hz.elim
   | false =>
     rw [e] at hy
     exact OF (k _ hy _ H2 (s1.trans s2) ⟨J,du⟩)
 · exact hy.elim
theorem CQ {op wU:CmpOp} {g g':Int→Int→Bool} (ho:fq X (compareOp op) (rz fun i j=>.bl (g i j))) (wK:fq X (compareOp wU) (rz fun i j=>.bl (g' i j))) (ha:VR X Z a fa) (hb:VR X Z b fb) (hc:VR X Z c Nq)
 (hm:lastMarks [op,wU] [b,c]=false:=by with_unfolding_all rfl):VP X Z (.Compare a [op,wU] [b,c] pos) (f3 fa fb Nq (K4 g) (K4 g')):=.mk fun tm=>PE.weak (Ce ho wK (ha tm) (hb tm) (hc tm) hm) fun σ H Q h=>vi h
theorem CS {op wU:CmpOp} {g g':Int→Int→Bool} (ho:fq X (compareOp op) (rz fun i j=>.bl (g i j))) (wK:fq X (compareOp wU) (rz fun i j=>.bl (g' i j))) (ha:VR X Z a fa) (hb:VR X Z b fb) (hc:VR X Z c Nq)
  (hm:lastMarks [op,wU] [b,c]=false:=by with_unfolding_all rfl):VC X Z (.Compare a [op,wU] [b,c] pos) (sT (f3 fa fb Nq (K4 g) (K4 g'))):=.mk fun tm=>PT.weak (Cf ho wK (ha tm) (hb tm) (hc tm) hm) fun σ H Q ⟨ρ,O,q,I,hf,k⟩ =>
 vi ⟨ρ,O,_,I,hf,fun t ht u H' s a=>by
  obtain ⟨c,rfl,hc⟩:=xi ht
  have e:=a.2
  simp only [At] at e
  exact ⟨c,e,k c hc H' s⟩⟩
def m_ (ts:List T):List T:=ts.mapIdx fun i t=>.tup [.int (i:Int),t]
def Pc (f:FE):FI:=fun ρ Q=>f ρ fun t=>match t with
 | .lst ts=>Q (m_ ts)
 | _=>False
theorem Gw {K:PySem.W.Frag} {a:Addr} {ts:List T}:Wk K (Tc K a) [(.lst ts,.ref a)] (m_ ts):=fun H A hA h i=>by
 have h:=h _ iO
 simp only [At] at h
 obtain ⟨b,vs,e,l,q⟩:=h
 cases e
 have hl:=q.length
 have hle:(m_ ts).length=ts.length:=by unfold m_; rw [List.length_mapIdx]
 rw [hle]
 refine ⟨fun hi=>⟨vs,vs[i]'(by omega),l.sq,by simp⟩,fun hi=>⟨vs,l.sq,by omega⟩,fun t ht x H' y=>?_⟩
 obtain ⟨p,u,hp,rfl,hu,rfl⟩:=y
 unfold m_ at ht
 rw [List.getElem?_mapIdx] at ht
 cases e:ts[i]? with
 | none=>rw [e] at ht; cases ht
 | some t' =>
   rw [e] at ht
   cases ht
   obtain ⟨v,e1,e2⟩:=q.get e
   have:=hu vs l.sq
   rw [e1] at this
   cases this
   exact ⟨aS hp,bA (d9.of aQ) (aE.cons bq (aE.cons (e2.same (aS hp)) aE.nil))⟩
theorem hV {elts:List Expr} {x1} {tp:Pos} (hg:Gl X "enumerate") (hm:X.mg "enumerate" = none) (ha:VE X Z a fa) (hs:starEach [a] X.env=[(false,eval a X.env)]:=by rfl) :
  VI X Z (.Tuple elts x1 tp) (.Call (.Name "enumerate" p) [a] [] pos) (Pc fa):=.mk fun tm=>PI.weak (F6 hg hm (bh (ha tm) cx hs) hs) fun σ H R ⟨ρ,O,q,I,hf,k⟩=>⟨ρ,O,_,I,hf,fun t ht v H' s a=>by
 split at ht
 · have a0:=a
   simp only [At] at a
   obtain ⟨p,vs,rfl,l,_⟩:=a
   exact ⟨p,rfl,⟨vs,l.sq⟩,k _ ht _ H' _ s (fun p hp=>by rw [wH.mp hp]; exact a0) Gw⟩
 · exact ht.elim⟩
def cb:List T→Option (List Bool)
 | []=>some []
 | .bl b :: ts=>(cb ts).map (b :: ·)
 | _=>none
def intsOf:List T→Option (List Int)
 | []=>some []
 | .int b :: ts=>(intsOf ts).map (b :: ·)
 | _=>none
theorem CT {K:PySem.W.Frag} {H:Hp} {A:List Addr}:∀ {ts:List T} {bs:List Bool} {vs:List V},cb ts=some bs→aE K H A ts vs→vs=bs.map V.bl
 | [],bs,vs,e,h=>by simp only [cb] at e; cases e; simp only [aE] at h; rw [h]; rfl
 | .bl b :: ts,bs,vs,e,h=>by
   simp only [cb] at e
   cases q:cb ts with
   | none=>rw [q] at e; cases e
   | some cs =>
     rw [q] at e
     cases e
     simp only [aE,At] at h
     obtain ⟨v,r,rfl,rfl,h⟩:=h
     rw [CT q h]; rfl
 | .br :: _,_,_,e,_=>by simp [cb] at e
 | .int _ :: _,_,_,e,_=>by simp [cb] at e
 | .str _ :: _,_,_,e,_=>by simp [cb] at e
 | .tup _ :: _,_,_,e,_=>by simp [cb] at e
 | .lst _ :: _,_,_,e,_=>by simp [cb] at e
 | .dk _ _ :: _,_,_,e,_=>by simp [cb] at e
 | .dt _ _ :: _,_,_,e,_=>by simp [cb] at e
 | .df _ _ _ :: _,_,_,e,_=>by simp [cb] at e
 | .dz _ _ _ :: _,_,_,e,_=>by simp [cb] at e
 | .kt _ :: _,_,_,e,_=>by simp [cb] at e
 | .ins _ _ _ :: _,_,_,e,_=>by simp [cb] at e
 | .pin _ _ :: _,_,_,e,_=>by simp [cb] at e
 | .ob _ :: _,_,_,e,_=>by simp [cb] at e
 | .ty _ :: _,_,_,e,_=>by simp [cb] at e
theorem tG {K:PySem.W.Frag} {H:Hp} {A:List Addr}:∀ {ts:List T} {bs:List Int} {vs:List V},intsOf ts=some bs→aE K H A ts vs→vs=bs.map V.int
 | [],bs,vs,e,h=>by simp only [intsOf] at e; cases e; simp only [aE] at h; rw [h]; rfl
 | .int b :: ts,bs,vs,e,h=>by
   simp only [intsOf] at e
   cases q:intsOf ts with
   | none=>rw [q] at e; cases e
   | some cs =>
     rw [q] at e
     cases e
     simp only [aE,At] at h
     obtain ⟨v,r,rfl,rfl,h⟩:=h
     rw [tG q h]; rfl
 | .br :: _,_,_,e,_=>by simp [intsOf] at e
 | .bl _ :: _,_,_,e,_=>by simp [intsOf] at e
 | .str _ :: _,_,_,e,_=>by simp [intsOf] at e
 | .tup _ :: _,_,_,e,_=>by simp [intsOf] at e
 | .lst _ :: _,_,_,e,_=>by simp [intsOf] at e
 | .dk _ _ :: _,_,_,e,_=>by simp [intsOf] at e
 | .dt _ _ :: _,_,_,e,_=>by simp [intsOf] at e
 | .df _ _ _ :: _,_,_,e,_=>by simp [intsOf] at e
 | .dz _ _ _ :: _,_,_,e,_=>by simp [intsOf] at e
 | .kt _ :: _,_,_,e,_=>by simp [intsOf] at e
 | .ins _ _ _ :: _,_,_,e,_=>by simp [intsOf] at e
 | .pin _ _ :: _,_,_,e,_=>by simp [intsOf] at e
 | .ob _ :: _,_,_,e,_=>by simp [intsOf] at e
 | .ty _ :: _,_,_,e,_=>by simp [intsOf] at e
def Pd (ts:List T) (q:Rt→Prop):Prop:=match ts with
 | [.lst l]=>∃ bs,cb l=some bs∧q (.vw (.bl (bs.all id)))
 | _=>False
theorem jG {K:PySem.W.Frag}:j5 K (fun xs H Q=>∃ (p:Addr) (bs:List Bool),xs=[.ref p]∧eY K H p (bs.map V.bl)∧Q (.bl (bs.all id)) H) Pd:=by
 intro Z tm O ρ σ H ts vs q Q I h hp k
 unfold Pd at hp
 split at hp
 · obtain ⟨bs,e,hp⟩:=hp
   obtain ⟨v,rfl,a⟩:=bY h
   obtain ⟨p,ws,rfl,q1,q2⟩:=a.lst
   rw [CT e q2] at q1
   exact ⟨p,bs,rfl,q1,k _ hp _ H (aJ.refl H) ⟨I,du⟩⟩
 · exact hp.elim
def Pe (ts:List T) (q:Rt→Prop):Prop:=match ts with
 | [.lst l]=>∃ ns,intsOf l=some ns∧q (.vw (.int ns.sum))
 | _=>False
theorem Ak {K:PySem.W.Frag}:j5 K (fun xs H Q=>∃ (p:Addr) (ns:List Int),xs=[.ref p]∧eY K H p (ns.map V.int)∧Q (.int ns.sum) H) Pe:=by
 intro Z tm O ρ σ H ts vs q Q I h hp k
 unfold Pe at hp
 split at hp
 · obtain ⟨bs,e,hp⟩:=hp
   obtain ⟨v,rfl,a⟩:=bY h
   obtain ⟨p,ws,rfl,q1,q2⟩:=a.lst
   rw [tG e q2] at q1
   exact ⟨p,bs,rfl,q1,k _ hp _ H (aJ.refl H) ⟨I,bq⟩⟩
 · exact hp.elim
def IV (ts:List T) (q:Rt→Prop):Prop:=match ts with
 | [.int i,.int j]=>q (.vw (.int (if j < i then j else i)))
 | _=>False
theorem xq {K:PySem.W.Frag}:j5 K (fun xs H Q=>∃ i j,xs=[.int i,.int j]∧Q (.int (if j < i then j else i)) H) IV:=by
 intro Z tm O ρ σ H ts vs q Q I h hp k
 unfold IV at hp
 split at hp
 · obtain ⟨v,w,rfl,a,b⟩:=Gn h
   exact ⟨_,_,by rw [a.int,b.int],k _ hp _ H (aJ.refl H) ⟨I,bq⟩⟩
 · exact hp.elim
def IW (ts:List T) (q:Rt→Prop):Prop:=match ts with
 | [.int i]=>q (.vw (.int i))
 | [.bl b]=>q (.vw (.int (if b then 1 else 0)))
 | _=>False
theorem xr {K:PySem.W.Frag}:j5 K (fun xs H Q=>(∃ i,xs=[.int i]∧Q (.int i) H)∨∃ k,xs=[.bl k]∧Q (.int (if k then 1 else 0)) H) IW:=by
 intro Z tm O ρ σ H ts vs q Q I h hp k
 unfold IW at hp
 split at hp
 · obtain ⟨v,rfl,a⟩:=bY h
   exact .inl ⟨_,by rw [a.int],k _ hp _ H (aJ.refl H) ⟨I,bq⟩⟩
 · obtain ⟨v,rfl,a⟩:=bY h
   exact .inr ⟨_,by rw [a.bl],k _ hp _ H (aJ.refl H) ⟨I,bq⟩⟩
 · exact hp.elim
end
structure Df (K:PySem.W.Frag) (mg:Str→Option Value) (x:Str) (st:Stmt) (ps:List Str) (f:Addr) (fd:FuncData):Prop where
 F:BU K x x st f fd
 m:mg x=some (.ref f)
 b:Binds K fd ps []
def cm (P:Program) (w:World) (K:PySem.W.Frag) (mg:Str→Option Value) (base:Heap) (x:Str) (ps:List Str) (k:Nat) (sp:Sp):Prop :=
 ∃ f fd,mg x=some (.ref f)∧PySem.W.keepIn K (.ref f)=true∧Binds K fd ps []∧cS P w K mg base iW k f fd ps sp
theorem Df.ko {P:Program} {w:World} {K:PySem.W.Frag} {mg:Str→Option Value} {base:Heap} {x:Str} {st:Stmt} {ps:List Str} {f:Addr} {fd:FuncData} {k:Nat} {sp:Sp} (D:Df K mg x st ps f fd) (F:cS P w K mg base iW k f fd ps sp):cm P w K mg base x ps k sp :=
 ⟨f,fd,D.m,D.F.kp,D.b,F⟩
theorem kJ {H:Hp} {Ox:List Addr} {i:Nat}:aY ⟨H,[],Ox⟩ i:=fun _ z=>nomatch z
section
variable {P:Program} {w:World} {K:PySem.W.Frag} {mg:Str→Option Value} {base:Heap}
theorem lU {x qual:Str} {st:Stmt} {f:Addr} {fd:FuncData} {N ps:List Str} {k n:Nat} {G:List T→(Rt→Prop)→Prop} (F:BU K x qual st f fd) (S:aG N ps (aj st)) (hn:n=ps.length)
  (iU:∀ (bE:Value) (A:Around) (outer:List Env) (s:Shared) (H:Hp) (E:XK) (Ox:List Addr),bx k (A.deeper (envOfC qual (aj st) s.heap.objs.size f bE))→∀ ts q,G ts q →
    ∃ g,jE (d0 iW P w K mg base N qual (aj st) f bE A outer s H E).nY ⟨H,[],Ox⟩ (cp st) g∧(ts.length=n→g { nx:=fun _=>q (.vw .br),rt:=fun _ r=>q r } (ts.map (fun t=>some (t,false)) ++ List.replicate (N.length - ts.length) none))) :
  cS P w K mg base iW (k+1) f fd ps (b_ K n G):=by
 have hp:∀ n (as:List Addr) k,pz (List.replicate n false) as k=[]:=by
  intro n
  induction n with
  | zero=>intro as k; rfl
  | succ n ih=>intro as k; exact ih as (k+1)
 have XM:∀ n (ρ:En),md (List.replicate n false) ρ=[]:=by
  intro n
  induction n with
  | zero=>intro ρ; rfl
  | succ n ih=>intro ρ; exact ih ρ.tail
 have he:∀ n (ts:List T),ts.length=n→sX (List.replicate n false) ts=ts.map fun t=>some (t,false):=by
  intro n
  induction n with
  | zero=>intro ts e; cases ts <;> simp_all [sX]
  | succ n ih =>
    intro ts e
    cases ts with
    | nil=>simp at e
    | cons t ts=>rw [Q9,sX,ih ts (by simpa using e)]; rfl
 refine TV F S (by rw [Fh]; exact hn) fun bE A outer s H E as Ox hr ts q hl hG=>?_
 rw [Fh] at hl
 obtain ⟨g,h1,h2⟩:=iU bE A outer s H E Ox hr ts (q []) hG
 refine ⟨g,by rw [hp]; exact h1,?_⟩
 rw [he n ts hl]
 simp only [XM]
 exact h2 hl
end
theorem bx.iM {k:Nat} {A:Around} (r:bx k A):A.units+101 < cLine:=by have:=r.un; omega
theorem o8:bootBuiltins "list" = some (.type "list"):=by decide +kernel
theorem oh:bootBuiltins "tuple" = some (.type "tuple"):=by decide +kernel
theorem zh:bootBuiltins "all" = some (.builtin "all"):=by decide +kernel
theorem Pf:bootBuiltins "sum" = some (.builtin "sum"):=by decide +kernel
theorem IX:bootBuiltins "min" = some (.builtin "min"):=by decide +kernel
theorem CU:bootBuiltins "int" = some (.type "int"):=by decide +kernel
theorem CV:bootBuiltins "bool" = some (.type "bool"):=by decide +kernel
theorem CW:bootBuiltins "str" = some (.type "str"):=by decide +kernel
theorem oi:∀ {fs:List Bool} {as:List Addr} {k:Nat},∀ p∈pz fs as k,k≤p.1∧fs[p.1 - k]?=some true
 | [],_,_,p,hp=>nomatch hp
 | false :: fs,as,k,p,hp=>by
   obtain ⟨h1,h2⟩:=oi (fs:=fs) (as:=as) (k:=k+1) p hp
   refine ⟨by omega,?_⟩
   have:p.1 - k=(p.1 - (k+1))+1:=by omega
   rw [this]; simpa using h2
 | true :: fs,a :: as,k,p,hp=>by
   rcases cL.mp hp with z | z
   · subst z; exact ⟨d8 _,by simp⟩
   · obtain ⟨h1,h2⟩:=oi (fs:=fs) (as:=as) (k:=k+1) p z
     refine ⟨by omega,?_⟩
     have:p.1 - k=(p.1 - (k+1))+1:=by omega
     rw [this]; simpa using h2
 | true :: fs,[],k,p,hp=>by
   obtain ⟨h1,h2⟩:=oi (fs:=fs) (as:=[]) (k:=k+1) p hp
   refine ⟨by omega,?_⟩
   have:p.1 - k=(p.1 - (k+1))+1:=by omega
   rw [this]; simpa using h2
theorem CY {H:Hp} {fs:List Bool} {as Ox:List Addr} {i:Nat} (h:fs[i]?≠some true):aY ⟨H,pz fs as 0,Ox⟩ i:=fun p hp e=>by
 have:=(oi p hp).2
 rw [Nat.sub_zero,e] at this
 exact h this
theorem o9 (lo:Int) (n:Nat):(rangeT lo n).length=n:=by unfold rangeT; rw [cu,Fj]
theorem o_ {lo:Int} {n i:Nat} {t:T} (h:(rangeT lo n)[i]?=some t):i < n∧t = .int (lo+(i:Int)):=by
 unfold rangeT at h
 rw [nV] at h
 cases e:(List.range n)[i]? with
 | none=>rw [e] at h; cases h
 | some j =>
   rw [e] at h
   obtain ⟨h1,h2⟩:=fY.mp e
   rw [List.getElem_range] at h2
   rw [Fj] at h1
   subst h2
   cases h
   exact ⟨h1,rfl⟩
theorem fJ {lo:Int} {n:Nat} {h:FG} {g:FS} {d:IK} {ρ:En} (Pv:Nat→En→Prop) (h0:Pv 0 ρ) (hs:∀ (i:Nat) ρ',i < n→Pv i ρ'→h (.int (lo+(i:Int))) ρ' fun ρ2=>g { nx:=Pv (i+1),ct:=Pv (i+1),bk:=d.nx,rt:=d.rt } ρ2)
 (hd:∀ ρ',Pv n ρ'→d.nx ρ'):u7 (rangeT lo n) h g d ρ:=⟨Pv,h0,fun i t ρ' e p=>by obtain ⟨h1,rfl⟩:=o_ e; exact hs i ρ' h1 p,fun ρ' p=>hd ρ' (by rw [o9] at p; exact p)⟩
theorem vj {α:Type} {f:α→T} {xs:List α} {h:FG} {g:FS} {d:IK} {ρ:En} (Pv:Nat→En→Prop) (h0:Pv 0 ρ) (hs:∀ (i:Nat) x ρ',xs[i]?=some x→Pv i ρ'→h (f x) ρ' fun ρ2=>g { nx:=Pv (i+1),ct:=Pv (i+1),bk:=d.nx,rt:=d.rt } ρ2)
 (hd:∀ ρ',Pv xs.length ρ'→d.nx ρ'):u7 (xs.map f) h g d ρ:=⟨Pv,h0,fun i t ρ' e p=>by
   rw [nV] at e
   cases q:xs[i]? with
   | none=>rw [q] at e; cases e
   | some x=>rw [q] at e; cases e; exact hs i x ρ' q p,fun ρ' p=>hd ρ' (by rw [cu] at p; exact p)⟩
theorem LA {c:Bool} {A B:Prop} (hc:c=true) (h:A):if c=true then A else B:=by rw [if_pos hc]; exact h
theorem ff {c:Bool} {A B:Prop} (hc:c=false) (h:B):if c=true then A else B:=by rw [if_neg (by rw [hc]; exact nS)]; exact h
theorem bX {c A B:Prop} [Decidable c] (h1:c→A) (h2:¬ c→B):if decide c=true then A else B:=by
 by_cases h:c
 · rw [if_pos (decide_eq_true h)]; exact h1 h
 · rw [if_neg (by rw [decide_eq_false h]; exact nS)]; exact h2 h
section
variable {prog:Program} {w:World} {A:Around} {E:Value→Shared→Prop} {s:Shared}
theorem k6 {it t:Addr} {i:Nat} {items:Array Value} {x:Value} {Q:Value→Shared→Prop} (hit:s.heap.IsTupleIter it t i) (ht:s.heap.IsTuple t items) (hx:items[i]?=some x)
  (hQ:∀ h',h'.IsTupleIter it t (i+1)→Heap.SameBut it s.heap h'→Q x { s with heap:=h' }):wpAny (model prog w) A (Builtin.SmallTypes.nextOf (.ref it)) Q E s:=by
 obtain ⟨o,ho,hc,hd⟩:=id hit
 obtain ⟨ol,Gx,_,nl,Gy⟩:=ht
 unfold Builtin.SmallTypes.nextOf
 refine wpAny_bind (wpAny_callSpecial?_slot (name:=Str.ofString "__next__") hit.typeIs QY
  (wpAny_call_entry QY hit.typeIs F.entry_tuple_iterator_next ?_ (F.args_tuple_iterator_next_1 _)))
 show wpAny _ _ (field (.ref it) 0 >>= _) _ _ s
 refine wpAny_bind (wpAny_field ho hd (x:=.ref t) rfl ?_)
 show wpAny _ _ (if (Value.ref t == Value.none)=true then _ else _) _ _ s
 rw [if_neg (show ¬ ((Value.ref t == Value.none)=true) from nS)]
 show wpAny _ _ (field (.ref it) 1 >>= _) _ _ s
 refine wpAny_bind (wpAny_field ho hd (x:=.int i 0) rfl ?_)
 show wpAny _ _ (seqItems? (.ref t) >>= _) _ _ s
 refine wpAny_bind (wpAny_seqItems Gx Gy ?_)
 simp only [B0,hx]
 refine wpAny_bind (wpAny_setField ho hd (by simp) (wpAny_pure ⟨x,rfl,wpAny_pure (hQ _ ?_ (Heap.SameBut.update ..))⟩))
 exact ⟨_,JB _ ho (NI (JD hd _)),(Obj.cls_mapFields ..).trans hc,by
  rw [JD hd]; simp [rawInt]⟩
theorem mj {it t:Addr} {i:Nat} {items:Array Value} {Q:Value→Shared→Prop} (hh:A.handled=none) (hit:s.heap.IsTupleIter it t i) (ht:s.heap.IsTuple t items) (hx:items[i]?=none)
  (hE:∀ h' e,Heap.ExtBut it s.heap h'→(∃ o,h'.get? e=some o∧o.cls = .type "StopIteration")→E (.ref e) { s with heap:=h' }):wpAny (model prog w) A (Builtin.SmallTypes.nextOf (.ref it)) Q E s:=by
 obtain ⟨o,ho,hc,hd⟩:=id hit
 obtain ⟨ol,Gx,_,nl,Gy⟩:=ht
 unfold Builtin.SmallTypes.nextOf
 refine wpAny_bind (wpAny_callSpecial?_slot (name:=Str.ofString "__next__") hit.typeIs QY
  (wpAny_call_entry QY hit.typeIs F.entry_tuple_iterator_next ?_ (F.args_tuple_iterator_next_1 _)))
 show wpAny _ _ (field (.ref it) 0 >>= _) _ _ s
 refine wpAny_bind (wpAny_field ho hd (x:=.ref t) rfl ?_)
 show wpAny _ _ (if (Value.ref t == Value.none)=true then _ else _) _ _ s
 rw [if_neg (show ¬ ((Value.ref t == Value.none)=true) from nS)]
 show wpAny _ _ (field (.ref it) 1 >>= _) _ _ s
 refine wpAny_bind (wpAny_field ho hd (x:=.int i 0) rfl ?_)
 show wpAny _ _ (seqItems? (.ref t) >>= _) _ _ s
 refine wpAny_bind (wpAny_seqItems Gx Gy ?_)
 simp only [B0,hx]
 refine wpAny_bind (wpAny_rule (wpAny_bind (wpAny_setField ho hd (by simp) ?_)))
 show wpAny _ _ (newExc (.type "StopIteration") [] >>= _) _ _ _
 refine wpAny_bind ?_
 simp only [newExc,newTuple]
 refine wpAny_bind (wpAny_newObj_type ?_ (by size_fits))
 refine wpAny_bind (m:=firstArgMember _ _) (wpAny_of_eq (a:=Value.none) (by first | rfl | (simp only [firstArgMember]; rfl)) ?_)
 refine wpAny_newObj_type ?_ (by size_fits)
 simp only [raiseNew]
 refine wpAny_bind (wpAny_handled ?_)
 first | rw [show A.in1.handled=none from hh] | rw [hh]
 refine wpAny_bind (wpAny_pure (wpAny_throw ?_))
 exact hE _ _ (((Heap.SameBut.update ..).extBut.push _).push _) ⟨_,nQ _ rfl,rfl⟩
end
structure Part (prog:Program) (w:World) (i:Addr) (fp:List Addr) (n:Nat) (Pv:Nat→Value→Prop) (st:Nat→Heap→Prop):Prop where
 draws:∀ A:Around,A.handled=none→Draws prog w A i fp n Pv st
 mem:i∈fp
 fld:∀ k h,st k h→∃ o vs,h.get? i=some o∧o.data = .fields vs
theorem Al {prog:Program} {w:World} (it l:Addr) (n8:l≠it) (items:Array Value):Part prog w it [it,l] items.size (fun i v=>items[i]?=some v) (fun i h=>h.IsListIter it l i∧h.IsList l items) :=
 ⟨fun A hh=>Draws.list hh it l n8 items,by simp,fun k h st=>let ⟨⟨o,e,_,d⟩,_⟩:=st; ⟨o,_,e,d⟩⟩
theorem xt {prog:Program} {w:World} (it l:Addr) (n8:l≠it) (items:Array Value):Part prog w it [it,l] items.size (fun i v=>items[i]?=some v) (fun i h=>h.IsTupleIter it l i∧h.IsTuple l items) :=
 ⟨fun A hh=>{ live:=fun _ _ st=>let ⟨o,ho,_⟩:=st.1; ⟨o,ho⟩
              frame:=fun _ _ _ st hk=>⟨let ⟨o,ho,r⟩:=st.1; ⟨o,hk it (by simp) o ho,r⟩,let ⟨o,ho,r⟩:=st.2; ⟨o,hk l (by simp) o ho,r⟩⟩
              item:=fun i s Q E hi st hQ=>k6 st.1 st.2 (x:=items[i]) (by simp [hi]) fun h' T3 RC=>hQ _ h' s.toks (by simp [hi]) ⟨T3,st.2.extBut RC.extBut n8⟩ RC
              done:=fun s Q E st hE=>mj hh st.1 st.2 (by simp) hE },by simp,fun k h st=>let ⟨⟨o,e,_,d⟩,_⟩:=st; ⟨o,_,e,d⟩⟩
theorem CZ {prog:Program} {w:World} (it:Addr) (x:Str) (t:Tok):Part prog w it [it] x.cps.size (fun i v=>∃ c u,x.cps[i]?=some c∧v = .str ⟨#[c]⟩ u) (fun i h=>h.IsStrIter it (strIterType x) x t i):=by
 rcases cU x with z | z
 · rw [z]; exact ⟨fun A hh=>Draws.strAscii hh it x t,by simp,fun k h st=>let ⟨o,e,_,d⟩:=st; ⟨o,_,e,d⟩⟩
 · rw [z]; exact ⟨fun A hh=>Draws.strWide hh it x t,by simp,fun k h st=>let ⟨o,e,_,d⟩:=st; ⟨o,_,e,d⟩⟩
structure Apart (z TI TO i1 i2:Addr) (pb oj:List Addr):Prop where
 TIz:TI≠z
 TOz:TO≠z
 i1z:i1≠z
 i2z:i2≠z
 TITO:TI≠TO
 TIi1:TI≠i1
 TIi2:TI≠i2
 TOi1:TO≠i1
 TOi2:TO≠i2
 i12:i1≠i2
 z1:z∉pb
 z2:z∉oj
 O1:TO∉pb
 O2:TO∉oj
 x1:i2∉pb
 x2:i1∉oj
section
variable {prog:Program} {w:World} {A:Around} {E:Value→Shared→Prop} {s:Shared} {z TI TO i1 i2:Addr} {pb oj:List Addr} {n1 n2:Nat} {P1 P2:Nat→Value→Prop} {S1 S2:Nat→Heap→Prop}
theorem C0 {k:Nat} {a b:Value} {Q:Value→Shared→Prop} (hh:A.handled=none) (D:Apart z TI TO i1 i2 pb oj) (p1:Part prog w i1 pb n1 P1 S1) (p2:Part prog w i2 oj n2 P2 S2)
  (hz:IsZip s.heap z TI TO .none) (Gz:IsPair s.heap TI (.ref i1) (.ref i2)) (GA:IsPair s.heap TO a b) (h1:S1 k s.heap) (h2:S2 k s.heap) (hx:k < n1) (hy:k < n2)
  (hQ:∀ x y h' tk,P1 k x→P2 k y→IsZip h' z TI TO (rawInt s.heap.objs.size)→IsPair h' TO x y→S1 (k+1) h'→S2 (k+1) h'→IsPair h' s.heap.objs.size x y→h'.objs.size=s.heap.objs.size+1 →
    (∀ c o,c≠z→c≠TO→c≠i1→c≠i2→s.heap.get? c=some o→h'.get? c=some o)→Q (.ref s.heap.objs.size) { s with heap:=h',toks:=tk }) :
  wpAny (model prog w) A (Builtin.«zip.__next__» ⟨[.ref z],[]⟩) (fun fin s'=>∃ v,fin = .done (.ret v)∧Q v s') E s:=by
 show wpAny _ _ (field (.ref z) 2 >>= _) _ _ _
 refine wpAny_bind (wpAny_field hz rfl (x:=.bool false) rfl ?_)
 show wpAny _ _ (field (.ref z) 3 >>= _) _ _ _
 refine wpAny_bind (wpAny_field hz rfl (x:=.ref TI) rfl ?_)
 refine wpAny_bind (wpAny_seqItems Gz rfl ?_)
 show wpAny _ _ (Builtin.SmallTypes.ownedTupleIsFree (.ref z) >>= _) _ _ _
 refine wpAny_bind ?_
 unfold Builtin.SmallTypes.ownedTupleIsFree
 refine wpAny_bind (wpAny_field hz rfl (x:=.none) rfl (wpAny_pure ?_))
 simp only [if_true]
 refine wpAny_bind (wpAny_rule ?_)
 refine wpAny_bind (wpAny_field hz rfl (x:=.ref TO) rfl ?_)
 refine wpAny_bind (wpAny_setField_rec hz (by simp) fun h₁ Cy BW=>?_)
 replace Cy:IsZip h₁ z TI TO .ellipsis:=Cy
 refine wpAny_bind ?_
 simp only [List.zipIdx_cons,List.zipIdx_nil,List.forIn_cons,List.forIn_nil]
 have f1:∀ {m h h' c},c∉pb→S1 m h→Heap.SameBut c h h'→S1 m h':=fun {m h h' c} hc st sb=>(p1.draws A hh).frame m h h' st fun b hb o e=>sb.extBut b o (fun q=>hc (q▸hb)) e
 have f2:∀ {m h h' c},c∉oj→S2 m h→Heap.SameBut c h h'→S2 m h':=fun {m h h' c} hc st sb=>(p2.draws A hh).frame m h h' st fun b hb o e=>sb.extBut b o (fun q=>hc (q▸hb)) e
 refine wpAny_bind (wpAny_bind (wpAny_onRaise ?_))
 show wpAny _ _ (Builtin.SmallTypes.nextOf (.ref i1) >>= _) _ _ _
 refine wpAny_bind ((p1.draws _ hh).item k _ _ _ hx (f1 D.z1 h1 BW) fun x h₂ XN px Wm qG=>wpAny_pure ?_)
 replace qG:Heap.SameBut i1 h₁ h₂:=qG
 have C1:IsPair h₂ TO a b:=qG.extBut _ _ D.TOi1 (BW.extBut _ _ D.TOz GA)
 refine wpAny_bind (wpAny_seqItems C1 rfl ?_)
 refine wpAny_bind (wpAny_updateSeq_pair C1 fun h₃ GB wF=>?_)
 replace GB:IsPair h₃ TO x b:=GB
 replace wF:Heap.SameBut TO h₂ h₃:=wF
 refine wpAny_bind (wpAny_letGo (wpAny_pure ?_))
 refine wpAny_bind (wpAny_bind (wpAny_onRaise ?_))
 show wpAny _ _ (Builtin.SmallTypes.nextOf (.ref i2) >>= _) _ _ _
 refine wpAny_bind ((p2.draws _ hh).item k _ _ _ hy (f2 D.O2 (f2 D.x2 (f2 D.z2 h2 BW) qG) wF) fun y h₄ XO py XQ E9=>wpAny_pure ?_)
 replace E9:Heap.SameBut i2 h₃ h₄:=E9
 have Pg:IsPair h₄ TO x b:=E9.extBut _ _ D.TOi2 GB
 refine wpAny_bind (wpAny_seqItems Pg rfl ?_)
 refine wpAny_bind (wpAny_updateSeq_pair Pg fun h₅ GC E_=>?_)
 replace GC:IsPair h₅ TO x y:=GC
 replace E_:Heap.SameBut TO h₄ h₅:=E_
 refine wpAny_bind (wpAny_letGo (wpAny_pure (wpAny_pure ?_)))
 refine wpAny_bind (wpAny_seqItems GC rfl ?_)
 refine wpAny_bind (wpAny_newTuple ?_)
 have n5:h₅.objs.size=s.heap.objs.size:=by rw [E_.1,E9.1,wF.1,qG.1,BW.1]
 have Wn:IsZip h₅ z TI TO .ellipsis:=E_.extBut _ _ D.TOz.symm (E9.extBut _ _ D.i2z.symm (wF.extBut _ _ D.TOz.symm (qG.extBut _ _ D.i1z.symm Cy)))
 have XR:∀ c o,c≠z→c≠TO→c≠i1→c≠i2→s.heap.get? c=some o→h₅.get? c=some o:=fun c o c1 c2 c3 c4 e =>
  E_.extBut _ _ c2 (E9.extBut _ _ c4 (wF.extBut _ _ c2 (qG.extBut _ _ c3 (BW.extBut _ _ c1 e))))
 have XT:S1 (k+1) h₅:=f1 D.O1 (f1 D.x1 (f1 D.O1 Wm wF) E9) E_
 have XU:S2 (k+1) h₅:=f2 D.O2 XQ E_
 have Ph:z < h₅.objs.size:=d7 Wn
 show wpAny _ _ (Builtin.SmallTypes.ownedTupleHandOut (.ref z) (.ref h₅.objs.size) >>= _) _ _ _
 refine wpAny_bind ?_
 unfold Builtin.SmallTypes.ownedTupleHandOut
 have XW:IsZip (h₅.push { cls:=.type "tuple",data:=.seq #[x,y] }) z TI TO .ellipsis:=dB _ Wn
 refine wpAny_bind (wpAny_setField_rec XW (by simp) fun h₇ T4 T5=>?_)
 replace T4:IsZip h₇ z TI TO (rawInt h₅.objs.size):=T4
 refine wpAny_setField_rec T4 (by simp) fun h₈ RD T6=>?_
 replace RD:IsZip h₈ z TI TO (rawInt h₅.objs.size):=RD
 have up:∀ c o,c≠z→h₅.get? c=some o→h₈.get? c=some o:=fun c o c1 e=>T6.extBut _ _ c1 (T5.extBut _ _ c1 (dB _ e))
 have Wo:IsPair h₈ h₅.objs.size x y:=T6.extBut _ _ (BN Ph) (T5.extBut _ _ (BN Ph) (nQ _ rfl))
 have Wq:h₈.objs.size=h₅.objs.size+1:=by rw [T6.1,T5.1,wI]
 have XY:S1 (k+1) h₈:=(p1.draws A hh).frame _ _ _ XT fun b hb o e=>up b o (fun q=>D.z1 (q▸hb)) e
 have XZ:S2 (k+1) h₈:=(p2.draws A hh).frame _ _ _ XU fun b hb o e=>up b o (fun q=>D.z2 (q▸hb)) e
 rw [n5] at RD Wo Wq
 refine wpAny_pure ⟨_,rfl,?_⟩
 show Q (.ref h₅.objs.size) _
 rw [n5]
 exact hQ x y h₈ XO px py RD (up _ _ D.TOz GC) XY XZ Wo Wq fun c o c1 c2 c3 c4 e=>up c o c1 (XR c o c1 c2 c3 c4 e)
theorem GD {k:Nat} {a b:Value} {Q:PySem.Fin→Shared→Prop} (hh:A.handled=none) (D:Apart z TI TO i1 i2 pb oj) (p1:Part prog w i1 pb n1 P1 S1) (p2:Part prog w i2 oj n2 P2 S2)
  (hz:IsZip s.heap z TI TO .none) (Gz:IsPair s.heap TI (.ref i1) (.ref i2)) (GA:IsPair s.heap TO a b) (h1:S1 k s.heap) (h2:S2 k s.heap) (LB:k=n1∨(k < n1∧k=n2))
  (hE:∀ h' tk e,(∀ c o,c≠z→c≠TO→c≠i1→c≠i2→s.heap.get? c=some o→h'.get? c=some o)→(∃ o,h'.get? e=some o∧o.cls = .type "StopIteration")→E (.ref e) { s with heap:=h',toks:=tk }) :
  wpAny (model prog w) A (Builtin.«zip.__next__» ⟨[.ref z],[]⟩) Q E s:=by
 have f1:∀ {m h h' c},c∉pb→S1 m h→Heap.SameBut c h h'→S1 m h':=fun {m h h' c} hc st sb=>(p1.draws A hh).frame m h h' st fun b hb o e=>sb.extBut b o (fun q=>hc (q▸hb)) e
 have f2:∀ {m h h' c},c∉oj→S2 m h→Heap.SameBut c h h'→S2 m h':=fun {m h h' c} hc st sb=>(p2.draws A hh).frame m h h' st fun b hb o e=>sb.extBut b o (fun q=>hc (q▸hb)) e
 show wpAny _ _ (field (.ref z) 2 >>= _) _ _ _
 refine wpAny_bind (wpAny_field hz rfl (x:=.bool false) rfl ?_)
 show wpAny _ _ (field (.ref z) 3 >>= _) _ _ _
 refine wpAny_bind (wpAny_field hz rfl (x:=.ref TI) rfl ?_)
 refine wpAny_bind (wpAny_seqItems Gz rfl ?_)
 show wpAny _ _ (Builtin.SmallTypes.ownedTupleIsFree (.ref z) >>= _) _ _ _
 refine wpAny_bind ?_
 unfold Builtin.SmallTypes.ownedTupleIsFree
 refine wpAny_bind (wpAny_field hz rfl (x:=.none) rfl (wpAny_pure ?_))
 simp only [if_true]
 refine wpAny_bind (wpAny_rule ?_)
 refine wpAny_bind (wpAny_field hz rfl (x:=.ref TO) rfl ?_)
 refine wpAny_bind (wpAny_setField_rec hz (by simp) fun h₁ Cy BW=>?_)
 replace Cy:IsZip h₁ z TI TO .ellipsis:=Cy
 refine wpAny_bind ?_
 simp only [List.zipIdx_cons,List.zipIdx_nil,List.forIn_cons,List.forIn_nil]
 refine wpAny_bind (wpAny_bind (wpAny_onRaise ?_))
 show wpAny _ _ (Builtin.SmallTypes.nextOf (.ref i1) >>= _) _ _ _
 rcases LB with rfl | ⟨gj,rfl⟩
 · refine wpAny_bind ((p1.draws _ hh).done _ _ _ (f1 D.z1 h1 BW) fun h₂ e qG he=>?_)
   obtain ⟨oe,LC,Pj⟩:=he
   have RE:IsZip h₂ z TI TO .ellipsis:=qG _ _ D.i1z.symm Cy
   have T7:e≠z:=fun x=>by subst x; rw [RE] at LC; cases LC; simp at Pj
   refine wpAny_setField_rec RE (by simp) fun h₃ _ wF=>hE h₃ _ e (fun c o c1 _ c3 _ x=>wF.extBut _ _ c1 (qG _ _ c3 (BW.extBut _ _ c1 x))) ⟨oe,wF.extBut _ _ T7 LC,Pj⟩
 · refine wpAny_bind ((p1.draws _ hh).item k _ _ _ gj (f1 D.z1 h1 BW) fun x h₂ XN px Wm qG=>wpAny_pure ?_)
   replace qG:Heap.SameBut i1 h₁ h₂:=qG
   have C1:IsPair h₂ TO a b:=qG.extBut _ _ D.TOi1 (BW.extBut _ _ D.TOz GA)
   refine wpAny_bind (wpAny_seqItems C1 rfl ?_)
   refine wpAny_bind (wpAny_updateSeq_pair C1 fun h₃ GB wF=>?_)
   replace wF:Heap.SameBut TO h₂ h₃:=wF
   refine wpAny_bind (wpAny_letGo (wpAny_pure ?_))
   refine wpAny_bind (wpAny_bind (wpAny_onRaise ?_))
   show wpAny _ _ (Builtin.SmallTypes.nextOf (.ref i2) >>= _) _ _ _
   refine wpAny_bind ((p2.draws _ hh).done _ _ _ (f2 D.O2 (f2 D.x2 (f2 D.z2 h2 BW) qG) wF) fun h₄ e E9 he=>?_)
   obtain ⟨oe,LC,Pj⟩:=he
   have Wr:IsZip h₄ z TI TO .ellipsis:=E9 _ _ D.i2z.symm (wF.extBut _ _ D.TOz.symm (qG.extBut _ _ D.i1z.symm Cy))
   have T7:e≠z:=fun x=>by subst x; rw [Wr] at LC; cases LC; simp at Pj
   refine wpAny_setField_rec Wr (by simp) fun h₅ _ E_=>hE h₅ _ e (fun c o c1 c2 c3 c4 x=>E_.extBut _ _ c1 (E9 _ _ c4 (wF.extBut _ _ c2 (qG.extBut _ _ c3 (BW.extBut _ _ c1 x))))) ⟨oe,E_.extBut _ _ T7 LC,Pj⟩
theorem nI {k:Nat} {a b:Value} {Q:Option Value→Shared→Prop} (hh:A.handled=none) (D:Apart z TI TO i1 i2 pb oj) (p1:Part prog w i1 pb n1 P1 S1) (p2:Part prog w i2 oj n2 P2 S2)
  (hz:IsZip s.heap z TI TO .none) (Gz:IsPair s.heap TI (.ref i1) (.ref i2)) (GA:IsPair s.heap TO a b) (h1:S1 k s.heap) (h2:S2 k s.heap) (hx:k < n1) (hy:k < n2)
  (hQ:∀ x y h' tk,P1 k x→P2 k y→IsZip h' z TI TO (rawInt s.heap.objs.size)→IsPair h' TO x y→S1 (k+1) h'→S2 (k+1) h'→IsPair h' s.heap.objs.size x y→h'.objs.size=s.heap.objs.size+1 →
    (∀ c o,c≠z→c≠TO→c≠i1→c≠i2→s.heap.get? c=some o→h'.get? c=some o)→Q (some (.ref s.heap.objs.size)) { s with heap:=h',toks:=tk }):wpAny (model prog w) A (pyNext (.ref z)) Q E s:=by
 have hT:s.TypeIs (.ref z) "zip":=⟨_,hz,rfl⟩
 unfold pyNext
 exact wpAny_bind (wpAny_attempt (wpAny_callSpecial?_slot (name:=Str.ofString "__next__") hT F.slot_zip_next
  (wpAny_call_entry F.slot_zip_next hT F.entry_zip_next
    (C0 hh D p1 p2 hz Gz GA h1 h2 hx hy fun x y h' tk q1 q2 a1 a2 a3 a4 a5 a6 a7=>wpAny_pure (hQ x y h' tk q1 q2 a1 a2 a3 a4 a5 a6 a7)) (F.args_zip_next_1 _))))
theorem pd {k:Nat} {a b:Value} {Q:Option Value→Shared→Prop} (hh:A.handled=none) (D:Apart z TI TO i1 i2 pb oj) (p1:Part prog w i1 pb n1 P1 S1) (p2:Part prog w i2 oj n2 P2 S2)
  (hz:IsZip s.heap z TI TO .none) (Gz:IsPair s.heap TI (.ref i1) (.ref i2)) (GA:IsPair s.heap TO a b) (h1:S1 k s.heap) (h2:S2 k s.heap) (LB:k=n1∨(k < n1∧k=n2))
  (hQ:∀ h' tk,(∀ c o,c≠z→c≠TO→c≠i1→c≠i2→s.heap.get? c=some o→h'.get? c=some o)→Q none { s with heap:=h',toks:=tk }):wpAny (model prog w) A (pyNext (.ref z)) Q E s:=by
 have hT:s.TypeIs (.ref z) "zip":=⟨_,hz,rfl⟩
 unfold pyNext
 refine wpAny_bind (wpAny_attempt (wpAny_callSpecial?_slot (name:=Str.ofString "__next__") hT F.slot_zip_next
  (wpAny_call_entry F.slot_zip_next hT F.entry_zip_next (GD hh D p1 p2 hz Gz GA h1 h2 LB fun h' tk e hk he=>?_) (F.args_zip_next_1 _))))
 obtain ⟨o,ho,hc⟩:=he
 refine wpAny_bind (wpAny_isInstance (T:="StopIteration") (b:=true) ⟨o,ho,hc⟩ isSubtype_stop ?_)
 exact wpAny_pure (hQ _ _ hk)
end
def T8 (i:Int):Prop:=i.natAbs < 2 ^ 2000
theorem T8.of {i:Int} (h1 : -(10 ^ 200)≤i) (h2:i≤10 ^ 200):T8 i:=by
 unfold T8
 have e:(10:Nat) ^ 200 < 2 ^ 2000:=by decide
 have:i.natAbs≤10 ^ 200:=by
  have e2:((10 ^ 200:Nat):Int)=(10:Int) ^ 200:=by rw [Int.natCast_pow]; rfl
  generalize (10:Nat) ^ 200=m at *
  rw [← e2] at h1 h2
  omega
 exact Nat.lt_of_le_of_lt this e
section
variable {X:Cx}
end
section
variable {X:Cx} {Z:Zc} {a b:Expr} {fa fb:FE} {pos:Pos}
end
def ja (v:Value) (o:Obj) (c:Heap→Prop):Prop:=∀ (prog:Program) (w:World) (A:Around) (E:Value→Shared→Prop) (s:Shared) (Q:Value→Shared→Prop),c s.heap →
 Q (.ref s.heap.objs.size) { s with heap:=s.heap.push o }→wpAny (model prog w) A (pyIter v) Q E s
theorem vk (l:Addr) (items:Array Value):ja (.ref l) { cls:=.type "list_iterator",data:=.fields #[.ref l,.int 0 0] } (fun h=>h.IsList l items):=fun _ _ _ _ _ _ h q=>wpAny_pyIter_list h q
theorem tI (l:Addr) (items:Array Value):ja (.ref l) { cls:=.type "tuple_iterator",data:=.fields #[.ref l,.int 0 0] } (fun h=>h.IsTuple l items):=fun _ _ _ _ _ _ h q=>wpAny_pyIter_tuple h q
theorem xu (x:Str) (t:Tok):ja (.str x t) { cls:=.type (strIterType x),data:=.fields #[.str x t,.int 0 0] } (fun _=>True):=fun _ _ _ _ _ _ _ q=>wpAny_pyIter_strU q
abbrev RF (h:Heap) (o1 o2:Obj):Heap:=((h.push o1).push o2).push { cls:=.type "tuple",data:=.seq #[.ref h.objs.size,.ref (h.push o1).objs.size] }
abbrev RG (h:Heap) (o1 o2:Obj):Heap:=(RF h o1 o2).push { cls:=.type "tuple",data:=.seq #[.none,.none] }
abbrev LD (h:Heap) (o1 o2:Obj):Heap:=(RG h o1 o2).push { cls:=.type "zip",data:=.fields #[.none,.bool false,.bool false,.ref ((h.push o1).push o2).objs.size,.ref (RF h o1 o2).objs.size] }
theorem xv {v1 v2:Value} {o1 o2:Obj} {c1 c2:Heap→Prop} (i1:ja v1 o1 c1) (i2:ja v2 o2 c2) (vm:∀ h o,c2 h→c2 (h.push o)) :
  Meets (Builtin.«zip.__new__» ⟨[.type "zip",v1,v2],[]⟩) (fun _ R s=>c1 s.heap∧c2 s.heap ∧
   R (.ok (.ret (.ref (RG s.heap o1 o2).objs.size))) { s with heap:=LD s.heap o1 o2 }) :=
 .of_wp fun prog w A R s h=>by
  obtain ⟨hp,g,d,tk,os⟩:=s; obtain ⟨Pk,BR,h⟩:=h
  have C2:=sub_zip
  have X2:=vm _ o1 BR
  have I1:∀ (A:Around) (E:Value→Shared→Prop) (Q:Value→Shared→Prop),Q (.ref hp.objs.size) ⟨hp.push o1,g,d,tk,os⟩→wpAny (model prog w) A (pyIter v1) Q E ⟨hp,g,d,tk,os⟩:=fun A E Q q=>i1 prog w A E _ Q Pk q
  have I2:∀ (A:Around) (E:Value→Shared→Prop) (Q:Value→Shared→Prop),Q (.ref (hp.push o1).objs.size) ⟨(hp.push o1).push o2,g,d,tk,os⟩→wpAny (model prog w) A (pyIter v2) Q E ⟨hp.push o1,g,d,tk,os⟩:=fun A E Q q=>i2 prog w A E _ Q X2 q
  wp_walk using I1,I2
  exact ⟨_,rfl,h⟩
section
variable {prog:Program} {w:World} {A:Around} {E:Value→Shared→Prop} {s:Shared}
theorem Am {v1 v2:Value} {o1 o2:Obj} {c1 c2:Heap→Prop} {Q:Value→Shared→Prop} (i1:ja v1 o1 c1) (i2:ja v2 o2 c2) (vm:∀ h o,c2 h→c2 (h.push o)) (h1:c1 s.heap) (h2:c2 s.heap) (T9:o1.isFreed=false) (T_:o2.isFreed=false)
  (h:∀ h',IsZip h' (s.heap.objs.size+4) (s.heap.objs.size+2) (s.heap.objs.size+3) .none→IsPair h' (s.heap.objs.size+2) (.ref s.heap.objs.size) (.ref (s.heap.objs.size+1)) →
    IsPair h' (s.heap.objs.size+3) .none .none→h'.get? s.heap.objs.size=some o1→h'.get? (s.heap.objs.size+1)=some o2→h'.objs.size=s.heap.objs.size+5 →
    (∀ c o,s.heap.get? c=some o→h'.get? c=some o)→Q (.ref (s.heap.objs.size+4)) { s with heap:=h' }) :
  wpAny (model prog w) A (call (.type "zip") [v1,v2]) Q E s:=by
 refine callType_new F.called_zip (by decide) (F.typeCall_zip_2 _ _) (F.newCall_zip_2 _ _) (fun obj=>F.args_object_init_3 obj _ _) F.entry_zip_new
  (xv i1 i2 vm) ⟨h1,h2,?_⟩
 have z1:(s.heap.push o1).objs.size=s.heap.objs.size+1:=wI ..
 have z2:((s.heap.push o1).push o2).objs.size=s.heap.objs.size+2:=by rw [wI,z1]
 have z3:(RF s.heap o1 o2).objs.size=s.heap.objs.size+3:=by rw [wI,z2]
 have z4:(RG s.heap o1 o2).objs.size=s.heap.objs.size+4:=by rw [wI,z3]
 have z5:(LD s.heap o1 o2).objs.size=s.heap.objs.size+5:=by rw [wI,z4]
 have g5:(LD s.heap o1 o2).get? (RG s.heap o1 o2).objs.size=some _:=nQ _ rfl
 have g4:(LD s.heap o1 o2).get? (RF s.heap o1 o2).objs.size=some _:=dB _ (nQ _ rfl)
 have g3:(LD s.heap o1 o2).get? ((s.heap.push o1).push o2).objs.size=some _:=dB _ (dB _ (nQ _ rfl))
 have g2:(LD s.heap o1 o2).get? (s.heap.push o1).objs.size=some _:=dB _ (dB _ (dB _ (nQ _ T_)))
 have g1:(LD s.heap o1 o2).get? s.heap.objs.size=some _:=dB _ (dB _ (dB _ (dB _ (nQ _ T9))))
 show _∧_
 rw [z2,z3,z4] at g5
 rw [z1,z2] at g3
 rw [z3] at g4
 rw [z1] at g2
 rw [z4]
 exact ⟨⟨_,g5,rfl⟩,h _ g5 g3 g4 g1 g2 z5 fun c o x =>
  dB _ (dB _ (dB _ (dB _ (dB _ x))))⟩
end
structure An (P:Program) (w:World) (K:PySem.W.Frag) (i:Addr) (fp:List Addr) (sq:Hp→List V→Prop) (it:Nat→Heap→Prop):Prop where
 part:∀ (X:Cx) (pins:List (Addr×Obj)) (σ:St) (H:Hp) (s:Shared),X.prog=P→X.w=w→X.K=K→Inv X pins σ H s→∀ xs,sq H xs →
  ∃ (Pv:Nat→Value→Prop) (S:Nat→Heap→Prop),Part P w i fp xs.length Pv S∧(∀ k v,Pv k v→∃ x,xs[k]?=some x∧RelV x v)∧(∀ k h,S k h→it k h)∧∀ k,it k s.heap→S k s.heap
 keep:∀ k h h',it k h→(∀ o,h.get? i=some o→h'.get? i=some o)→it k h'
 obj:∀ k h,it k h→∃ o,h.get? i=some o∧∀ v,o.data≠.cell v
 inj:∀ (X:Cx) (pins:List (Addr×Obj)) (σ:St) (H:Hp) (s:Shared),X.K=K→Inv X pins σ H s→∀ xs ys,sq H xs→sq H ys→xs=ys
theorem src_list {P:Program} {w:World} {K:PySem.W.Frag} (i l:Addr) (n8:l≠i):An P w K i [i,l] (fun H xs=>eY K H l xs) (fun k h=>h.IsListIter i l k) where
 part:=fun X pins σ H s hP hw hK I xs hq=>by
  subst hP hw hK
  obtain ⟨aK,rv,p,hz⟩:=I.list hq
  have e:aK.toArray.size=xs.length:=by simp [rv.length]
  refine ⟨_,_,e▸Al i l n8 aK.toArray,fun k v hv=>?_,fun k h st=>st.1,fun k st=>⟨st,p.isList⟩⟩
  have xw:aK[k]?=some v:=by simpa using hv
  have hk:k < xs.length:=by rw [← e]; simp; exact (fY.mp xw).1
  obtain ⟨u,hu,ru⟩:=rv.get (show xs[k]?=some xs[k] by simp)
  rw [xw] at hu
  cases hu
  exact ⟨_,by simp,ru⟩
 keep:=fun k h h' st q=>st.at q
 obj:=fun k h st=>let ⟨o,e,_,d⟩:=st; ⟨o,e,fun v z=>by rw [d] at z; cases z⟩
 inj:=fun X pins σ H s hK I xs ys h1 h2=>by subst hK; exact I.kN h1 h2
theorem src_tuple {P:Program} {w:World} {K:PySem.W.Frag} (i l:Addr) (n8:l≠i):An P w K i [i,l] (fun H xs=>d9 K H l xs) (fun k h=>h.IsTupleIter i l k) where
 part:=fun X pins σ H s hP hw hK I xs hq=>by
  subst hP hw hK
  obtain ⟨aK,rv,p,hz⟩:=I.tuple hq
  have e:aK.toArray.size=xs.length:=by simp [rv.length]
  refine ⟨_,_,e▸xt i l n8 aK.toArray,fun k v hv=>?_,fun k h st=>st.1,fun k st=>⟨st,p⟩⟩
  have xw:aK[k]?=some v:=by simpa using hv
  have hk:k < xs.length:=by rw [← e]; simp; exact (fY.mp xw).1
  obtain ⟨u,hu,ru⟩:=rv.get (show xs[k]?=some xs[k] by simp)
  rw [xw] at hu
  cases hu
  exact ⟨_,by simp,ru⟩
 keep:=fun k h h' st q=>let ⟨o,e,r⟩:=st; ⟨o,q o e,r⟩
 obj:=fun k h st=>let ⟨o,e,_,d⟩:=st; ⟨o,e,fun v z=>by rw [d] at z; cases z⟩
 inj:=fun X pins σ H s hK I xs ys h1 h2=>by subst hK; exact I.lV h1 h2
def xx (x:Str):List V:=x.cps.toList.map fun c=>.str ⟨#[c]⟩
theorem GF {P:Program} {w:World} {K:PySem.W.Frag} (i:Addr) (x:Str) (t:Tok):An P w K i [i] (fun _ xs=>xs=xx x) (fun k h=>h.IsStrIter i (strIterType x) x t k) where
 part:=fun X pins σ H s hP hw hK I xs hq=>by
  subst hP hw hK hq
  have e:x.cps.size=(xx x).length:=by unfold xx; simp
  refine ⟨_,_,e▸CZ i x t,fun k v hv=>?_,fun k h st=>st,fun k st=>st⟩
  obtain ⟨c,u,h1,rfl⟩:=hv
  exact ⟨.str ⟨#[c]⟩,by unfold xx; rw [nV]; simp [h1],u,rfl⟩
 keep:=fun k h h' st q=>let ⟨o,e,r⟩:=st; ⟨o,q o e,r⟩
 obj:=fun k h st=>let ⟨o,e,_,d⟩:=st; ⟨o,e,fun v z=>by rw [d] at z; cases z⟩
 inj:=fun X pins σ H s hK I xs ys h1 h2=>by rw [h1,h2]
section
variable {X:Cx} {pins:List (Addr×Obj)} {σ:St} {H H':Hp} {s:Shared} {h':Heap}
theorem GG {t':Nat} {ch:List Addr} (I:Inv X pins σ H s) (k:∀ b u,b∉ch→s.heap.get? b=some u→h'.get? b=some u) (hf:∀ b∈ch,lW X pins H b):Inv X pins σ H { s with heap:=h',toks:=t' }:=by
 have B6:∀ b u,H b=some u→b∉ch:=fun b u e z=>by rw [(hf b z).1] at e; cases e
 refine I.step (g':=s.gens) (d':=s.drawn) (ch:=ch) (fun b hb=>?_) (fun b u _ _ hc e _=>k b u hc e) (fun b u _ _ hc e _=>⟨u.slots,k b u hc e⟩) (fun b u _ e n=>n) (fun b u hc e=>⟨u,k b u hc e⟩)
  (fun b xs e=>e) (fun b u v e=>e) (fun b ps e=>⟨#[],?_⟩) (fun m hm=>?_) (fun b u e=>?_) I.bare
 · obtain ⟨_,f1,_,f3,f4,f5⟩:=hf b hb
   exact ⟨f3,f1,f4,f5⟩
 · rw [e]; simp
 · obtain ⟨ob,es,ep,ho,r⟩:=hm
   exact ⟨ob,es,ep,k _ ob (fun z=>(hf _ z).2.1 rfl) ho,r⟩
 · refine (I.bD b u e).nD (fun c v hc q=>k c v ?_ q) (fun c q=>q) fun c xs q=>q
   rcases hc with z | z
   · rw [z]; exact B6 b u e
   · exact B6 c _ z
end
def Ua (xy xA:Hp→List V→Prop):It :=
 ⟨fun i H=>∃ xs ys,xy H xs∧xA H ys∧i < xs.length∧i < ys.length,fun i H v H'=>∃ t x y,H t=none∧v = .ref t∧(∀ xs,xy H xs→xs[i]?=some x)∧(∀ ys,xA H ys→ys[i]?=some y)∧H'=upd H t (.tup [x,y]),
   fun i H=>∃ xs ys,xy H xs∧xA H ys∧(i=xs.length∨(i < xs.length∧i=ys.length))⟩
theorem C3 {P:Program} {w:World} {K:PySem.W.Frag} {elts:List Expr} {x1} {tp:Pos} {z TI TO i1 i2:Addr} {pb oj:List Addr} {xy xA:Hp→List V→Prop} {t1 t2:Nat→Heap→Prop} (D:Apart z TI TO i1 i2 pb oj) (p1:An P w K i1 pb xy t1) (p2:An P w K i2 oj xA t2) :
  Turn P w K (.Tuple elts x1 tp) (Ua xy xA) [z,TI,TO,i1,i2] z (fun i h=>IsZip h z TI TO .none∧IsPair h TI (.ref i1) (.ref i2)∧(∃ a b,IsPair h TO a b)∧t1 i h∧t2 i h) where
 mem:=by simp
 obj:=fun i h st b hb=>by
  obtain ⟨h1,h2,⟨a,c,h3⟩,h4,h5⟩:=st
  simp only [cL,dZ,or_false] at hb
  rcases hb with rfl | rfl | rfl | rfl | rfl
  · exact ⟨_,h1,fun v q=>by cases q⟩
  · exact ⟨_,h2,fun v q=>by cases q⟩
  · exact ⟨_,h3,fun v q=>by cases q⟩
  · exact p1.obj i h h4
  · exact p2.obj i h h5
 keep:=fun i h h' st k=>by
  obtain ⟨h1,h2,⟨a,c,h3⟩,h4,h5⟩:=st
  exact ⟨k z (by simp) _ h1,k TI (by simp) _ h2,⟨a,c,k TO (by simp) _ h3⟩,p1.keep i h h' h4 fun o q=>k i1 (by simp) o q,p2.keep i h h' h5 fun o q=>k i2 (by simp) o q⟩
 item:=by
  intro X hP hw hK hc i pins s σ H E I hf st hg
  obtain ⟨xs,ys,RH,RI,l1,l2⟩:=hg
  obtain ⟨h1,h2,⟨a,c,h3⟩,h4,h5⟩:=st
  obtain ⟨P1,S1,q1,v1,b1,f1⟩:=p1.part X pins σ H s hP hw hK I xs RH
  obtain ⟨P2,S2,q2,v2,b2,f2⟩:=p2.part X pins σ H s hP hw hK I ys RI
  refine nI (I.ok.hd hc) D q1 q2 h1 h2 h3 (f1 i h4) (f2 i h5) l1 l2 fun x y h₁ tk px py Cy Ub s1 s2 X3 n5 hk=>?_
  obtain ⟨x',ex,rx⟩:=v1 i x px
  obtain ⟨y',ey,ry⟩:=v2 i y py
  refine ⟨_,rfl,wpAny_letOwnedTupleGo_zip Cy fun h₂ RE qG=>?_⟩
  have qH:Heap.SameBut z h₁ h₂:=qG
  have gj:z < s.heap.objs.size:=d7 h1
  have Te:s.heap.objs.size≠z:=BN gj
  have kk:∀ b ob,b∉[z,TI,TO,i1,i2]→s.heap.get? b=some ob→h₂.get? b=some ob:=fun b ob hb q=>by
   simp only [cL,dZ,or_false,not_or] at hb
   exact (qH.2 b hb.1).trans (hk b ob hb.1 hb.2.2.1 hb.2.2.2.1 hb.2.2.2.2 q)
  have new:bQ X.prog X.w (upd H s.heap.objs.size (.tup [x',y'])) h₂ s.heap.objs.size (.tup [x',y']) :=
   ⟨by show 2≤sizeLine; rw [sizeLine_eq]; decide,[x,y],.cons rx (.cons ry .nil),⟨_,(qH.2 _ Te).trans X3,rfl,_,rfl⟩⟩
  refine ⟨.ref s.heap.objs.size,upd H s.heap.objs.size (.tup [x',y']),I.grown (t':=tk) kk hf (d8 _) new,rfl,⟨_,x',y',I.fresh,rfl,fun zs hz=>by rw [p1.inj X pins σ H s hK I _ _ hz RH]; exact ex,fun zs hz=>by rw [p2.inj X pins σ H s hK I _ _ hz RI]; exact ey,rfl⟩,⟨RE,?_,⟨x,y,?_⟩,?_,?_⟩,fun b hb=>?_⟩
  · exact (qH.2 TI D.TIz).trans (hk TI _ D.TIz D.TITO D.TIi1 D.TIi2 h2)
  · exact (qH.2 TO D.TOz).trans Ub
  · exact p1.keep _ _ _ (b1 _ _ s1) fun o q=>(qH.2 i1 D.i1z).trans q
  · exact p2.keep _ _ _ (b2 _ _ s2) fun o q=>(qH.2 i2 D.i2z).trans q
  · have Tg:b < s.heap.objs.size:=by
     simp only [cL,dZ,or_false] at hb
     rcases hb with rfl | rfl | rfl | rfl | rfl
     · exact gj
     · exact d7 h2
     · exact d7 h3
     · obtain ⟨o,e,_⟩:=p1.obj i _ h4; exact d7 e
     · obtain ⟨o,e,_⟩:=p2.obj i _ h5; exact d7 e
    rw [aD (gW Tg)]
    exact (hf b hb).1
 done:=by
  intro X hP hw hK hc i pins s σ H E I hf st hg
  obtain ⟨xs,ys,RH,RI,he⟩:=hg
  obtain ⟨h1,h2,⟨a,c,h3⟩,h4,h5⟩:=st
  obtain ⟨P1,S1,q1,v1,b1,f1⟩:=p1.part X pins σ H s hP hw hK I xs RH
  obtain ⟨P2,S2,q2,v2,b2,f2⟩:=p2.part X pins σ H s hP hw hK I ys RI
  refine pd (I.ok.hd hc) D q1 q2 h1 h2 h3 (f1 i h4) (f2 i h5) he fun h' tk hk=>⟨rfl,?_⟩
  refine GG (t':=tk) I (fun b u hb q=>?_) hf
  simp only [cL,dZ,or_false,not_or] at hb
  exact hk b u hb.1 hb.2.2.1 hb.2.2.2.1 hb.2.2.2.2 q
 self:=fun _ _ _ _ _ st h=>by
  obtain ⟨h1,_⟩:=st
  exact wpAny_pyIter_zip h1 h
inductive ZK (K:PySem.W.Frag) (H:Hp):V→(Hp→List V→Prop)→Prop where
 | lst {a:Addr} {xs:List V}:eY K H a xs→ZK K H (.ref a) (fun H xs=>eY K H a xs)
 | tup {a:Addr} {xs:List V}:d9 K H a xs→ZK K H (.ref a) (fun H xs=>d9 K H a xs)
 | str (z:Str):ZK K H (.str z) (fun _ xs=>xs=xx z)
theorem IY {X:Cx} {pins:List (Addr×Obj)} {σ:St} {H:Hp} {s:Shared} {x:V} {u:Value} {sq:Hp→List V→Prop} (I:Inv X pins σ H s) (z:ZK X.K H x sq) (r:RelV x u) :
  ∃ (o:Obj) (c:Heap→Prop) (fp:List Addr) (it:Addr→Nat→Heap→Prop),ja u o c∧c s.heap∧(∀ h o,c h→c (h.push o))∧o.isFreed=false∧(∀ b∈fp,b < s.heap.objs.size) ∧
   ∀ i,s.heap.objs.size≤i→An X.prog X.w X.K i (i :: fp) sq (it i)∧∀ h,h.get? i=some o→it i 0 h:=by
 cases z with
 | lst hq =>
   rename_i a xs
   cases r
   obtain ⟨aK,rv,p,hz⟩:=I.list hq
   have hl:a < s.heap.objs.size:=by obtain ⟨o,n,e,_⟩:=p; exact d7 e
   refine ⟨_,_,[a],fun i k h=>h.IsListIter i a k,vk a aK.toArray,p.isList,fun h o q=>Heap.IsList.push q _,rfl,fun b hb=>by rw [wH.mp hb]; exact hl,fun i hi=>⟨src_list i a (gW (nR hl hi)),fun h e=>⟨_,e,rfl,rfl⟩⟩⟩
 | tup hq =>
   rename_i a xs
   cases r
   obtain ⟨aK,rv,p,hz⟩:=I.tuple hq
   have hl:a < s.heap.objs.size:=by obtain ⟨o,e,_⟩:=p; exact d7 e
   refine ⟨_,_,[a],fun i k h=>h.IsTupleIter i a k,tI a aK.toArray,p,fun h o q=>(let ⟨o',e,r⟩:=q; ⟨o',dB _ e,r⟩),rfl,fun b hb=>by rw [wH.mp hb]; exact hl,fun i hi=>⟨src_tuple i a (gW (nR hl hi)),fun h e=>⟨_,e,rfl,rfl⟩⟩⟩
 | str z =>
   obtain ⟨t,rfl⟩:=r
   refine ⟨_,_,[],fun i k h=>h.IsStrIter i (strIterType z) z t k,xu z t,trivial,fun _ _ _=>trivial,rfl,fun b hb=>?_,fun i hi=>⟨GF i z t,fun h e=>⟨_,e,rfl,rfl⟩⟩⟩
   cases hb
theorem nn {a b:Nat} (h:a < b):a≠b:=gW h
theorem C4 {n:Nat} {pb oj:List Addr} (h1:∀ b∈pb,b < n) (h2:∀ b∈oj,b < n):Apart (n+4) (n+2) (n+3) n (n+1) (n :: pb) ((n+1) :: oj):=by
 have k1:∀ b:Nat,n < b→b∉(n :: pb):=fun b hb m=>by
  rcases cL.mp m with q | q
  · exact BN hb q
  · exact E2 _ (Nat.lt_trans hb (h1 b q))
 have k2:∀ b:Nat,n+1 < b→b∉((n+1) :: oj):=fun b hb m=>by
  rcases cL.mp m with q | q
  · exact BN hb q
  · exact E2 _ (Nat.lt_trans (Nat.lt_trans (JE n) hb) (h2 b q))
 have k3:n∉((n+1) :: oj):=fun m=>by
  rcases cL.mp m with q | q
  · exact gW (JE n) q
  · exact E2 _ (h2 n q)
 exact ⟨nn (by omega),nn (by omega),nn (by omega),nn (by omega),nn (by omega),(nn (by omega)).symm,(nn (by omega)).symm,(nn (by omega)).symm,(nn (by omega)).symm,nn (by omega),k1 _ (by omega),k2 _ (by omega),k1 _ (by omega),k2 _ (by omega),k1 _ (by omega),k3⟩
theorem GH {n c:Nat} (h:c∈[n+4,n+2,n+3,n,n+1]):n≤c:=by
 simp only [cL,dZ,or_false] at h
 omega
def Uc (K:PySem.W.Frag) (ta:TA):TI:=fun σ H R=>ta σ H fun vs H1=>∃ x y xy xA,vs=[x,y]∧ZK K H1 x xy∧ZK K H1 y xA∧R (Ua xy xA) H1
section
variable {X:Cx} {Z:Zc}
theorem boot_zip:bootBuiltins "zip" = some (.type "zip"):=by decide +kernel
theorem LF {elts:List Expr} {x1} {tp:Pos} {a b:Expr} {ta:TA} {p pos:Pos} (hg:Gl X "zip") (hm:X.mg "zip" = none) (ha:PA X [a,b] ta) (hs:starEach [a,b] X.env=[(false,eval a X.env),(false,eval b X.env)]) (uE:starEach [b] X.env=[(false,eval b X.env)]) :
  PI X (.Tuple elts x1 tp) (.Call (.Name "zip" p) [a,b] [] pos) (Uc X.K ta):=by
 intro pins s σ H R I h
 refine Call_ (ke I hg hm boot_zip (QX (bV (ha pos pins s σ H _ I h) fun us s1 ⟨vs,H1,I1,r1,q1⟩=>?_) (by rw [hs,uE]) (by rw [uE]; rfl)))
 obtain ⟨x,y,xy,xA,e,k1,k2,q⟩:=q1
 subst e
 obtain ⟨u,w',rfl,ru,rw'⟩:=vals2 r1
 obtain ⟨o1,c1,pb,t1,i1,Pk,X4,T9,LG,z1⟩:=IY I1 k1 ru
 obtain ⟨o2,c2,oj,t2,i2,BR,vm,T_,Fb,z2⟩:=IY I1 k2 rw'
 refine Am i1 i2 vm Pk BR T9 T_ fun h' hz Gz GA g1 g2 n5 hk=>?_
 have I2:Inv X pins σ H1 { s1 with heap:=h' }:=I1.kept (t':=s1.toks) hk
 refine wpAny_pyIter_zip hz ?_
 obtain ⟨S1,a1⟩:=z1 s1.heap.objs.size (d8 _)
 obtain ⟨S2,a2⟩:=z2 (s1.heap.objs.size+1) (JI _)
 have D:Apart (s1.heap.objs.size+4) (s1.heap.objs.size+2) (s1.heap.objs.size+3) s1.heap.objs.size (s1.heap.objs.size+1) (s1.heap.objs.size :: pb) ((s1.heap.objs.size+1) :: oj):=by
  exact C4 LG Fb
 refine ⟨s1.heap.objs.size+4,_,_,_,H1,rfl,I2,C3 D S1 S2,⟨hz,Gz,⟨_,_,GA⟩,a1 _ g1,a2 _ g2⟩,fun c hc=>?_,q⟩
 have Ws:s1.heap.objs.size≤c:=GH hc
 exact I1.qA Ws (I1.bD.fresh Ws)
def LH:T→Option (List T)
 | .lst ts=>some ts
 | .tup ts=>some ts
 | .str z=>some (z.cps.toList.map fun c=>.str ⟨#[c]⟩)
 | _=>none
def pe (xs ys:List T):List T:=List.zipWith (fun a b=>.tup [a,b]) xs ys
def Ud (fa fb:FE):FI:=fun ρ Q=>fa ρ fun x=>fb ρ fun y=>match LH x,LH y with
 | some xs,some ys=>Q (pe xs ys)
 | _,_=>False
theorem IZ {K:PySem.W.Frag} {H:Hp} {A:List Addr} {x:T} {v:V} {xs:List T} (h:At K H A x v) (e:LH x=some xs):∃ sq,ZK K H v sq∧∀ H A,At K H A x v→∃ vs,sq H vs∧aE K H A xs vs:=by
 cases x with
 | lst ts =>
   cases e
   simp only [At] at h
   obtain ⟨a,vs,rfl,l,q⟩:=h
   refine ⟨_,.lst l.sq,fun H A h=>?_⟩
   simp only [At] at h
   obtain ⟨a',kH,e,l',q'⟩:=h
   cases e
   exact ⟨kH,l'.sq,q'⟩
 | tup ts =>
   cases e
   simp only [At] at h
   obtain ⟨a,vs,rfl,l,q⟩:=h
   refine ⟨_,.tup l,fun H A h=>?_⟩
   simp only [At] at h
   obtain ⟨a',kH,e,l',q'⟩:=h
   cases e
   exact ⟨kH,l',q'⟩
 | str z =>
   cases e
   simp only [At] at h
   subst h
   refine ⟨_,.str z,fun H A h=>⟨xx z,rfl,?_⟩⟩
   unfold xx
   generalize z.cps.toList=l
   induction l with
   | nil=>exact aE.nil
   | cons c l ih=>exact aE.cons cc ih
 | _=>cases e
theorem LI {K:PySem.W.Frag} {x y:T} {v w:V} {xs ys:List T} {xy xA:Hp→List V→Prop} (h1:∀ H A,At K H A x v→∃ vs,xy H vs∧aE K H A xs vs) (h2:∀ H A,At K H A y w→∃ vs,xA H vs∧aE K H A ys vs) :
  Wk K (Ua xy xA) [(x,v),(y,w)] (pe xs ys):=fun H A hA h i=>by
 obtain ⟨vs,q1,l1⟩:=h1 H A (h _ iO)
 obtain ⟨ws,q2,l2⟩:=h2 H A (h _ (jX _ iO))
 have e1:=l1.length
 have e2:=l2.length
 have el:(pe xs ys).length=min xs.length ys.length:=by unfold pe; rw [List.length_zipWith]
 rw [el]
 refine ⟨fun hi=>⟨vs,ws,q1,q2,by omega,by omega⟩,fun hi=>⟨vs,ws,q1,q2,by omega⟩,fun t ht x H' y=>?_⟩
 obtain ⟨p,a,b,hp,rfl,ha,hb,rfl⟩:=y
 unfold pe at ht
 rw [List.getElem?_zipWith] at ht
 cases ex:xs[i]? with
 | none=>rw [ex] at ht; cases ht
 | some tx =>
   cases ey:ys[i]? with
   | none=>rw [ex,ey] at ht; cases ht
   | some ty =>
     rw [ex,ey] at ht
     cases ht
     obtain ⟨v1,g1,g2⟩:=l1.get ex
     obtain ⟨v2,g3,g4⟩:=l2.get ey
     have z1:=ha vs q1
     have z2:=hb ws q2
     rw [g1] at z1
     rw [g3] at z2
     cases z1
     cases z2
     exact ⟨aS hp,bA (d9.of aQ) (aE.cons (g2.same (aS hp)) (aE.cons (g4.same (aS hp)) aE.nil))⟩
theorem LJ {elts:List Expr} {x1} {tp p pos:Pos} {a b:Expr} {fa fb:FE} (hg:Gl X "zip") (hm:X.mg "zip" = none) (ha:VE X Z a fa) (hb:VE X Z b fb)
  (hs:starEach [a,b] X.env=[(false,eval a X.env),(false,eval b X.env)]:=by rfl) (uE:starEach [b] X.env=[(false,eval b X.env)]:=by rfl) :
  VI X Z (.Tuple elts x1 tp) (.Call (.Name "zip" p) [a,b] [] pos) (Ud fa fb):=.mk fun tm =>
 PI.weak (LF hg hm (bh (ha tm) (bh (hb tm) cx uE) (by rw [hs,uE])) hs uE) fun σ H R ⟨ρ,O,q,I,hf,k⟩=>⟨ρ,O,_,I,hf,fun x hx v H1 s1 a1=>⟨ρ,O,_,I.same s1,hx,fun y hy w H2 s2 a2=>by
  split at hy
  · rename_i xs ys e1 e2
    obtain ⟨xy,k1,w1⟩:=IZ (a1.same s2) e1
    obtain ⟨xA,k2,w2⟩:=IZ a2 e2
    exact ⟨v,w,xy,xA,rfl,k1,k2,k _ hy _ H2 _ (s1.trans s2) (fun p hp=>by
     rcases cL.mp hp with e | hp
     · rw [e]; exact a1.same s2
     · rw [wH.mp hp]; exact a2) (LI w1 w2)⟩
  · exact hy.elim⟩⟩
end
end VT
namespace HE
open PySem PySem.W PySem.Calls PyProof.Rows
noncomputable def om (tb:String→Option Builtin) (p:Program) (w:World) (n₀:Nat) (ann:Option Value):Nat→SharedT→Thread→Option SharedT
 | 0,_,_=>none
 | n+1,s,t=>match through t with
   | true=>some s
   | false=>match stepOk n₀ ann t with
     | false=>none
     | true=>match stepT (denote tb) p w s t with
       | some (s',t')=>om tb p w n₀ ann n s' t'
       | none=>none
theorem rO {tb:String→Option Builtin} {p:Program} {w:World} {n₀:Nat} {ann:Option Value}:∀ {n:Nat} {s s':SharedT} {t:Thread},om tb p w n₀ ann n s t=some s'→topRun tb p w n₀ ann n s.abs t=some s'.abs
 | 0,_,_,_,h=>by cases h
 | n+1,s,s',t,h=>by
   unfold om at h
   unfold topRun
   cases ht:through t with
   | true=>rw [ht] at h; cases h; rfl
   | false =>
     rw [ht] at h
     cases hk:stepOk n₀ ann t with
     | false=>rw [hk] at h; cases h
     | true =>
       rw [hk] at h
       cases hs:stepT (denote tb) p w s t with
       | none=>rw [hs] at h; cases h
       | some r=>obtain ⟨s₂,t₂⟩:=r; rw [hs] at h; rw [stepT_spec hs]; exact rO h
noncomputable def X5 (l:List Obj):BT:=(l.foldl (fun (p:BT×Nat) o=>(p.1.ins p.2 o,p.2+1)) (.nil,0)).1
noncomputable def d_ (P:Params):BT:=X5 (boot_heap P).objs.toList
noncomputable def Wt (T:BT) (os:OsState):SharedT:=⟨T,11,{},Array.mk [],boot_drawn,boot_toks,os⟩
theorem boot_abs (P:Params):absHeap (d_ P) 11 {}=boot_heap P:=by kernel_rfl
theorem Ao (P:Params):((boot_heap P).isNs mainGlobals,(boot_heap P).objs.size,(boot_heap P).nsMap mainGlobals "__annotations__")=(true,11,some (.ref 6)):=by kernel_rfl
noncomputable def LK (p:Program) (T:BT) (w:World) (M:Nat) (os:OsState):Option SharedT:=om treeTable p w 11 (some (.ref 6)) M (Wt T os) (topStub p)
noncomputable def Kf (as:List Addr) (g:Addr→Option Obj):Frag:=as.filterMap fun a=>(g a).map fun o=>(a,o)
noncomputable def tg (T:BT) (n:Nat) (a:Addr):Option Obj:=match Nat.blt a n with
 | true=>alive ((T.get a).getD default)
 | false=>none
theorem Pl (T:BT) (n:Nat) (life:Life) (a:Addr):(absHeap T n life).get? a=tg T n a:=by
 unfold tg
 cases h:Nat.blt a n with
 | true =>
   have hn:a < n:=Nat.ble_eq.mp h
   cases g:T.get a with
   | some o=>rw [abs_get hn g]; rfl
   | none =>
     have e:=absHeap_at T n life a
     rw [if_pos hn,g] at e
     unfold Heap.get?
     rw [e]
     rfl
 | false =>
   have hn:¬ a < n:=fun z=>by
    have:Nat.blt a n=true:=Nat.ble_eq.mpr z
    rw [h] at this; cases this
   exact abs_get_none hn
abbrev GI (q:Program) (lv:List (Str×WData)) (R:WRecords) (s:Shared):Bool:=xlAt q lv s && recOk R s
noncomputable def lookA (p q:Program) (loose:List Str) (lv:List (Str×WData)) (R:WRecords) (T:BT) (H0:Heap) (w:World) (M:Nat) (os:OsState) :=
 (LK p T w M os).map fun s=>((staticsOk (importedModules p.main.body) H0 s.abs.heap && namesBound p s.abs.heap && gensDone s.abs && laidKept H0 s.abs.heap),
   (openSeen q loose (importedModules p.main.body) (GI q lv R) true s.abs).1,(openSeen q loose (importedModules p.main.body) (GI q lv R) true s.abs).2.1)
noncomputable def lookB (p q:Program) (loose:List Str) (lv:List (Str×WData)) (R:WRecords) (T:BT) (w:World) (M:Nat) (os:OsState) :=
 (LK p T w M os).map fun s=>(openSeen q loose (importedModules p.main.body) (GI q lv R) true s.abs).2.2
noncomputable def lookC {β:Type} (p:Program) (as:List Addr) (F:Frag→β) (T:BT) (w:World) (M:Nat) (os:OsState) :=
 (LK p T w M os).map fun s=>F (Kf as (tg s.tree s.n))
noncomputable def tJ (p:Program) (N:Nat) (w:World) (a:Addr):Option Obj:=(openEnds treeTable p w N).bind (·.heap.get? a)
theorem head {p q:Program} {loose:List Str} {lv:List (Str×WData)} {R:WRecords} {as:List Addr} {N M:Nat} {β:Type} {F:Frag→β} {v:World→β}
  (e:opening p=plainProg p.main.scope.names) (hN:Nat.ble 600 N=true) (f:∀ s,fenceModules? p s=some s) (le:Nat.ble M N=true)
  (ra:∀ (w:World) (os:OsState),lookA p q loose lv R (d_ w.params) (boot_heap w.params) w M os=some (true,(openGood q loose).1,(openGood q loose).2.1))
  (rb:∀ (w:World) (os:OsState),lookB p q loose lv R (d_ w.params) w M os=some (openGood q loose).2.2)
  (rc:∀ (w:World) (os:OsState),lookC p as F (d_ w.params) w M os=some (v w)) :
  LeftO p q loose (GI q lv R) (fun s=>as.map s.heap.get?) (fun w=>as.map (tJ p N w)) N∧∀ w,F (Kf as (tJ p N w))=v w:=by
 have key:∀ w,∃ s,openEnds treeTable p w N=some s∧openSeen q loose (importedModules p.main.body) (GI q lv R) true s=openGood q loose∧F (Kf as s.heap.get?)=v w:=fun w=>by
  obtain ⟨⟨h,gs,d,k,os⟩,e1,e2⟩:=NG.mp (boot_open e hN f w)
  obtain ⟨rfl,rfl,rfl,rfl⟩:h=boot_heap w.params∧gs=Array.mk []∧d=boot_drawn∧k=boot_toks:=by simpa using e2
  obtain ⟨s,r1,r2⟩:=NG.mp (ra w os)
  obtain ⟨s',X6,X7⟩:=NG.mp (rb w os)
  obtain ⟨Kz,Ue,X8⟩:=NG.mp (rc w os)
  obtain rfl:s=s':=Option.some.inj (r1.symm.trans X6)
  obtain rfl:s=Kz:=Option.some.inj (r1.symm.trans Ue)
  have r3:=congrArg (fun x=>x.1) r2
  have r4:openSeen q loose (importedModules p.main.body) (GI q lv R) true s.abs=openGood q loose:=Prod.ext (congrArg (fun x=>x.2.1) r2) (Prod.ext (congrArg (fun x=>x.2.2) r2) X7)
  have r5:F (Kf as s.abs.heap.get?)=v w:=by
   rw [show s.abs.heap.get?=tg s.tree s.n from funext fun a=>Pl _ _ _ a]
   exact X8
  have t1:=rO r1
  have ea:(Wt (d_ w.params) os).abs=⟨boot_heap w.params,Array.mk [],boot_drawn,boot_toks,os⟩:=by
   show (⟨absHeap (d_ w.params) 11 {},_,_,_,_⟩:Shared)=_
   rw [boot_abs]; rfl
  rw [ea] at t1
  have t2:=topRun_mono (N - M) _ _ _ _ t1
  rw [show M+(N - M)=N by have:=Nat.le_of_ble_eq_true le; omega] at t2
  have z:=Ao w.params
  have z1:=congrArg (fun x=>x.1) z
  have z2:=congrArg (fun x=>x.2.1) z
  have z3:=congrArg (fun x=>x.2.2) z
  refine ⟨s.abs,?_,r4,r5⟩
  unfold openEnds
  rw [e1]
  show topFrom treeTable p w N _=_
  unfold topFrom
  dsimp only at z1 z2 z3 ⊢
  rw [z1,z2,z3,t2]
  show (match staticsOk (importedModules p.main.body) (boot_heap w.params) s.abs.heap && namesBound p s.abs.heap && gensDone s.abs && laidKept (boot_heap w.params) s.abs.heap with | true=>_ | false=>_)=_
  have X9:(staticsOk (importedModules p.main.body) (boot_heap w.params) s.abs.heap && namesBound p s.abs.heap && gensDone s.abs && laidKept (boot_heap w.params) s.abs.heap)=true:=r3
  rw [X9]
 refine ⟨fun w=>?_,fun w=>?_⟩
 · obtain ⟨s,a,b,c⟩:=key w
   rw [a]
   have:tJ p N w=s.heap.get?:=by funext x; unfold tJ; rw [a]; rfl
   show some (openSeen q loose (importedModules p.main.body) (GI q lv R) true s,as.map s.heap.get?)=some (openGood q loose,as.map (tJ p N w))
   rw [b,this]
 · obtain ⟨s,a,b,c⟩:=key w
   have:tJ p N w=s.heap.get?:=by funext x; unfold tJ; rw [a]; rfl
   rw [this]
   exact c
theorem kf_in {as:List Addr} {g:Addr→Option Obj} {h:Heap} (e:as.map h.get?=as.map g):(Kf as g).In h:=by
 have key:∀ {as:List Addr},as.map h.get?=as.map g→∀ a o,(Kf as g).lookup a=some o→h.get? a=some o:=by
  intro as
  induction as with
  | nil=>intro _ a o z; cases z
  | cons x as ih =>
    intro e a o z
    rw [jY,jY] at e
    injection e with e1 e2
    unfold Kf at z
    rw [nP] at z
    cases hg:g x with
    | none=>rw [hg] at z; exact ih e2 a o z
    | some o' =>
      rw [hg] at z
      simp only [Option.map_some,Fl] at z
      split at z
      · rename_i q
        have:a=x:=by simpa using q
        subst this
        cases z
        rw [e1,hg]
      · exact ih e2 a o z
 exact fun a o z=>key e a o z
theorem C5 {q:Program} {loose:List Str} {XP:(Str→Option Value)→Heap→Prop} {as:List Addr} {g:World→Addr→Option Obj} {r:RowW} {d:DefRec} {kwd:List (Str×Expr)} {run:Value→List Value→Sem Value}
  (h:WalkO q loose XP (fun w h=>(Kf as (g w)).In h) r d kwd run):WalkX q loose XP (fun s=>as.map s.heap.get?) (fun w=>as.map (g w)) r d kwd run :=
 fun w s₀ s₁ mg mb G y a o pm cd doc dV kV h1 h2 h3 h4 h5 h6 args vals rL L kf OC V7 OA V8=>h w s₀ s₁ mg mb G (fun b o' z=>Laid.keeps L _ _ (kf_in y b o' z)) a o pm cd doc dV kV h1 h2 h3 h4 h5 h6 args vals rL kf OC V7 OA V8
noncomputable def Pm:Stmt→DefRec
 | .FunctionDef n ps b _ _ _ sc _ _ p=>⟨n,ps,b,sc,p⟩
 | _=>⟨Str.empty,default,[],default,default⟩
end HE
lay_quick HE.lookA HE.lookB HE.lookC
namespace VT
open PySem PySem.Spec PyProof.Rows L2
section
variable {X:Cx} {Z:Zc} {o e:Expr} {fo fe:FE} {apos bc:Pos}
def GJ (fo fe:FE):FP:=fun ρ Q=>fo ρ fun x=>match x with
 | .str z=>fe ρ fun y=>match y with
   | .str y=>Q (.vw (.bl (Txt.startswith z y)))
   | _=>False
 | _=>False
theorem Ap (ho:VR X Z o fo) (he:VR X Z e fe) (fu:attributeBase o "startswith" X.env (eval o X.env)=eval o X.env:=by rfl)
  (oF:((backTo bc (starEach [e] X.env)).all (fun x=>!x.1) && (backToKw bc (keywordEach [] X.env)).all (fun x=>x.1.isSome)
    && decide (([e]:List Expr).length+([]:List Keyword).length+(if ([]:List Keyword).isEmpty then 0 else 1) < 30))=true:=by rfl)
  (fz:(apos.endLine == bc.line)=true:=by rfl) (hs:starEach [e] X.env=(false,eval e X.env) :: starEach [] X.env:=by rfl) (fB:(backTo bc (starEach [] X.env)).any (·.1)=false:=by rfl) :
  VP X Z (.Call (.Attribute o "startswith" apos) [e] [] bc) (GJ fo fe):=.mk fun tm =>
 PE.weak (uP PySem.F.plainAttrs_str PySem.F.slot_str_startswith PySem.F.type_str_startswith qF (ho tm) (bh (he tm) cx hs) fu oF fz hs fB) fun σ H Q ⟨ρ,O,q,I,hf,k⟩ =>
  ⟨ρ,O,_,I,hf,fun x hx v H1 s1 a1=>by
    split at hx
    · rename_i z
      have ev:=a1.str
      subst ev
      refine ⟨rfl,ρ,O,_,I.same s1,hx,fun y hy w H2 s2 a2=>?_⟩
      split at hy
      · have ew:=a2.str
        subst ew
        exact ⟨z,_,rfl,rfl,k _ hy _ H2 (s1.trans s2) ⟨(I.same s1).same s2,du⟩⟩
      · exact hy.elim
    · exact hx.elim⟩
end
end VT
namespace VT
open PySem PySem.Spec PyProof.Rows
def LL {K:Type} [DecidableEq K] (l:List K) (v:K):List K:=if v∈l then l else l ++ [v]
def met {K:Type} [DecidableEq K] (val:Nat→K):Nat→List K
 | 0=>[]
 | i+1=>LL (met val i) (val i)
section
variable {K:Type} [DecidableEq K]
theorem zi (val:Nat→K):∀ i,(met val i).length≤i
 | 0=>d8 _
 | i+1=>by
   have:=zi val i
   simp only [met,LL]
   split
   · omega
   · rw [nU,Nf]; omega
theorem GK {l:List K} {v k:K}:k∈LL l v↔k∈l∨k=v:=by
 unfold LL
 split
 · rename_i h
   exact ⟨.inl,fun q=>q.elim id fun e=>e▸h⟩
 · rw [iI,wH]
end
abbrev fZ (led:Bool):Obj:={ cls:=.type "set",dict:=none,data:=.set #[] 0 (.fresh 0 0 led) }
theorem sub_list_set:isSubtype (.type "list") (.type "set")=pure false:=by rw [isSubtype_type]; kernel_rfl
theorem sub_list_frozenset:isSubtype (.type "list") (.type "frozenset")=pure false:=by rw [isSubtype_type]; kernel_rfl
theorem sub_tuple_set:isSubtype (.type "tuple") (.type "set")=pure false:=by rw [isSubtype_type]; kernel_rfl
theorem sub_tuple_frozenset:isSubtype (.type "tuple") (.type "frozenset")=pure false:=by rw [isSubtype_type]; kernel_rfl
section
variable {prog:Program} {w:World} {A:Around} {R:Result→Shared→Prop} {I:Addr} {fp wr:List Addr} {G:Array GenState→Array GenState→Prop} {n:Nat} {P:Nat→Value→Prop} {St:Nat→Shared→Prop}
variable {K:Type} [DecidableEq K] {knd:PySem.KeyKind prog w K}
theorem rP (W:WalksS prog w A.in1 I fp wr G n P St) (S:Addr) (Nr:S∉fp)
  (val:Nat→K) (Ug:∀ i v,P i v→knd.is (val i) v=true∧v.scannable=true) (hb:n+1 < scanBound) :
  ∀ (k i:Nat) (s:Shared),n - i=k→i≤n→St i s →
   s.heap.SetOf knd S (fun k'=>decide (k'∈met val i)) (met val i).length →
   (∀ s',Moved (S :: wr) G s s'→s'.heap.SetOf knd S (fun k'=>decide (k'∈met val n)) (met val n).length→R (.ok (.ret .none)) s') →
   codeAny (model prog w) A (.builtin "set.update.loop" ⟨[.ref S,.ref I],[]⟩) R s:=by
 have Wu:S∉wr:=fun h=>Nr (W.sub _ h)
 have C2:∀ b∈wr,b∈S :: wr:=fun b hb=>jX _ hb
 intro k
 induction k with
 | zero =>
   intro i s hk hi B_ hS hR
   have Pn:i=n:=by omega
   subst Pn
   refine codeAny_builtin PyProof.Rows.F.entry_set_update_loop ?_
   rw [Around.under_plainId R7 _]
   show wpAny _ A.in1 (pyNext (.ref I) >>= _) _ _ s
   refine wpAny_bind (W.done s _ _ B_ fun s' hm=>?_)
   show wpAny _ A.in1 (ret Value.none) _ _ s'
   exact wpAny_pure (hR s' (hm.mono C2) (by
    obtain ⟨o,es,ep,t,ho,rest⟩:=hS
    exact ⟨o,es,ep,t,hm.heap S _ Wu ho,rest⟩))
 | succ k ih =>
   intro i s hk hi B_ hS hR
   have gj:i < n:=by omega
   refine codeAny_builtin PyProof.Rows.F.entry_set_update_loop ?_
   rw [Around.under_plainId R7 _]
   show wpAny _ A.in1 (pyNext (.ref I) >>= _) _ _ s
   refine wpAny_bind (W.item i s _ _ gj B_ fun v s' hP Uh hm=>?_)
   obtain ⟨Lv,Gs⟩:=Ug i v hP
   have C6:s'.heap.SetOf knd S (fun k'=>decide (k'∈met val i)) (met val i).length:=by
    obtain ⟨o,es,ep,tb,ho,rest⟩:=hS
    exact ⟨o,es,ep,tb,hm.heap S _ Wu ho,rest⟩
   show wpAny _ A.in1 (holding [v] (setAdd S v) >>= _) _ _ s'
   refine wpAny_bind (wpAny_holding ?_)
   unfold setAdd
   refine wpAny_holding ?_
   refine wpAny_bind (knd.pyHash (k:=val i) Lv ?_)
   have Po:(met val i).length+1 < scanBound:=by have:=zi val i; omega
   refine wpAny_setAddHashed_of (knd:=knd) (s:={ s' with toks:=s'.toks+1 }) Lv Gs C6 Po fun h' Wv X_=>?_
   have X':h'.SetOf knd S (fun k'=>decide (k'∈met val (i+1))) (met val (i+1)).length :=
    SetOf_congr X_ (fun k'=>by
     simp only [met,GK,Bool.decide_or]) (by
     simp only [met,LL,decide_eq_true_eq]
     split <;> simp)
   refine wpAny_pure ⟨plainId_quiet R7 _,ih (i+1) _ (by omega) gj (W.frame _ s' _ _ Uh (JI _) fun b hb o e=>?_) X' fun Kz Ui Uj=>?_⟩
   · rw [Wv.2 b (fun h:b=S=>Nr (by rw [← h]; exact hb))]; exact e
   · refine hR Kz (Moved.trans W.gtrans ((hm.mono C2).then_heap (JI _) fun b o hb e=>?_) Ui) Uj
     rw [Wv.2 b (fun h:b=S=>hb (by rw [h]; exact iO))]; exact e
end
section
variable {prog:Program} {w:World} {A:Around} {E:Value→Shared→Prop} {s:Shared} {K:Type} [DecidableEq K] {knd:PySem.KeyKind prog w K}
theorem pf {l:Addr} {items:Array Value} {val:Nat→K} {Q:Value→Shared→Prop}
  (hh:A.handled=none) (hl:s.heap.IsList l items) (hi:∀ (i:Nat) (v:Value),items[i]?=some v→knd.is (val i) v=true∧v.scannable=true) (hb:items.size+1 < scanBound)
  (h:∀ (h':Heap) (tk:Nat),h'.SetOf knd s.heap.objs.size (fun k'=>decide (k'∈met val items.size)) (met val items.size).length →
    (∀ b o,b < s.heap.objs.size→s.heap.get? b=some o→h'.get? b=some o)→s.heap.objs.size < h'.objs.size→Q (.ref s.heap.objs.size) { s with heap:=h',toks:=tk }) :
  wpAny (model prog w) A (call (.type "set") [.ref l]) Q E s:=by
 obtain ⟨c,tl,Uk⟩:=wB.mro
 have zj:=wB.made
 have C2:=wB.sub
 refine wpAny_call (codeAny_of_tree ?_)
 show wpAny _ _ (callAny (.type "set") _) _ _ _
 refine wpAny_pure ⟨Rb _ (by decide +kernel),codeAny_builtin F.entry_type_call ?_⟩
 rw [Around.under_plain (weight_type_call_type "set" [.ref l] []) rfl]
 have h1:=wB.notType
 have h2:=wB.canCreate
 have Ya:=PySem.F.typeCall_set_1 (.ref l)
 repeat (any_goals (first | assumption | wp_step))
 refine codeAny_mono (code_set_new_1 (.ref l) (E:=E) (Q₁:=fun obj s₁=>∃ led:Bool,obj = .ref s.heap.objs.size∧s₁={ s with heap:=s.heap.push (fZ led) }) fun led=>⟨led,rfl,rfl⟩) fun r s₁ hr=>?_
 cases r with
 | error e=>exact hr
 | ok fl =>
   cases fl with
   | ret obj =>
     obtain ⟨led,rfl,rfl⟩:=hr
     have hS:(s.heap.push (fZ led)).get? s.heap.objs.size=some (fZ led):=nQ _ rfl
     have hT:Shared.TypeIs { s with heap:=s.heap.push (fZ led) } (.ref s.heap.objs.size) "set":=⟨_,hS,rfl⟩
     have Yb:=wB.init.lookup
     have Tf:=wB.init.bind (.ref s.heap.objs.size)
     repeat (any_goals (first | assumption | wp_step))
     refine codeAny_mono (codeAny_call_builtin (R:=wants (fun r s₂=>r = .none∧∃ h' tk,s₂={ s with heap:=h',toks:=tk } ∧
       h'.SetOf knd s.heap.objs.size (fun k'=>decide (k'∈met val items.size)) (met val items.size).length ∧
       (∀ b o,b < s.heap.objs.size→s.heap.get? b=some o→h'.get? b=some o)) E) wB.init.plain PySem.F.entry_set_init (check_set_init_1 hT ?_)) fun r₂ s₂ LM=>?_
     · obtain ⟨ol,Gx,Cu,nl,Gy⟩:=hl
       obtain ⟨Ul,C7,Pp,xB⟩:=ol
       simp only at Cu Gy
       subst Cu; subst Gy
       have LN:(s.heap.push (fZ led)).get? l=some { cls:=.type "list",dict:=C7,data:=.seq items nl,slots:=xB }:=dB _ Gx
       have Um:=sub_list_set
       have Uo:=sub_list_frozenset
       have n8:(Value.type "list" == Value.type "dict")=false:=by decide
       have GL:(s.heap.push (fZ led)).IsList l items:=⟨_,LN,rfl,nl,rfl⟩
       unfold Builtin.«set.__init__» noKeywords Builtin.Frozenset.updateFrom
       generalize Up:pyIter=PI
       wp_walk
       subst Up
       refine wpAny_pyIter_list GL ?_
       refine wpAny_bind (wpAny_runValue ?_)
       have Pq:l < s.heap.objs.size:=d7 Gx
       have Uq:A.in1.in1.in1.handled=none:=by simp [hh]
       have LO:l≠(s.heap.push (fZ led)).objs.size:=by
        rw [wI]; exact gW (NP Pq)
       have Nr:s.heap.objs.size∉[(s.heap.push (fZ led)).objs.size,l]:=by
        rw [wI]; simp only [cL,wH,dZ,or_false,not_or]
        exact ⟨gW (JE _),BN Pq⟩
       refine rP ((Walks.list Uq _ l LO items).toS) s.heap.objs.size
        Nr val hi hb (items.size - 0) 0 _ (by omega) (kK _)
        ⟨⟨_,nQ _ rfl,rfl,rfl⟩,(GL.push _)⟩ ?hS0 ?hR
       case hS0 =>
        have LP:((s.heap.push (fZ led)).push { cls:=.type "list_iterator",data:=.fields #[.ref l,.int 0 0] }).get? s.heap.objs.size
          = some (fZ led):=dB _ hS
        exact SetOf_congr ((setObjOf_fresh (knd:=knd) led).setOf LP (by unfold scanBound; omega)) (fun _=>by simp [met]) rfl
       case hR =>
        intro s' hm C6
        obtain ⟨h',g',d',C8,Oe⟩:=s'
        have eg:g'=s.gens:=hm.gens
        have ed:d'=s.drawn:=hm.drawn
        have eo:Oe=s.os:=hm.os
        subst eg; subst ed; subst eo
        show wpAny _ _ _ _ _ _
        refine wpAny_pure ?_
        show wpAny _ _ (ret Value.none) _ _ _
        refine wpAny_pure ⟨rfl,h',C8,rfl,C6,fun b o hb e=>?_⟩
        have LG:b≠s.heap.objs.size:=gW hb
        have Fb:b≠(s.heap.push (fZ led)).objs.size:=by
         rw [wI]; exact gW (NP hb)
        exact hm.heap b o (by simp only [cL,wH,dZ,or_false,not_or]; exact ⟨LG,Fb⟩) (dB _ (dB _ e))
     · cases r₂ with
       | error e=>exact LM
       | ok Ur =>
         cases Ur with
         | ret r =>
           obtain ⟨rfl,h',tk,rfl,C6,Pr⟩:=LM
           repeat (any_goals (first | assumption | wp_step))
           refine h _ _ C6 Pr ?_
           obtain ⟨o,_,_,_,ho,_⟩:=C6
           exact d7 ho
         | _=>exact LM.elim
   | _=>exact hr.elim
theorem nJ {l:Addr} {items:Array Value} {val:Nat→K} {Q:Value→Shared→Prop}
  (hh:A.handled=none) (hl:s.heap.IsTuple l items) (hi:∀ (i:Nat) (v:Value),items[i]?=some v→knd.is (val i) v=true∧v.scannable=true) (hb:items.size+1 < scanBound)
  (h:∀ (h':Heap) (tk:Nat),h'.SetOf knd s.heap.objs.size (fun k'=>decide (k'∈met val items.size)) (met val items.size).length →
    (∀ b o,b < s.heap.objs.size→s.heap.get? b=some o→h'.get? b=some o)→s.heap.objs.size < h'.objs.size→Q (.ref s.heap.objs.size) { s with heap:=h',toks:=tk }) :
  wpAny (model prog w) A (call (.type "set") [.ref l]) Q E s:=by
 obtain ⟨c,tl,Uk⟩:=wB.mro
 have zj:=wB.made
 have C2:=wB.sub
 refine wpAny_call (codeAny_of_tree ?_)
 show wpAny _ _ (callAny (.type "set") _) _ _ _
 refine wpAny_pure ⟨Rb _ (by decide +kernel),codeAny_builtin F.entry_type_call ?_⟩
 rw [Around.under_plain (weight_type_call_type "set" [.ref l] []) rfl]
 have h1:=wB.notType
 have h2:=wB.canCreate
 have Ya:=PySem.F.typeCall_set_1 (.ref l)
 repeat (any_goals (first | assumption | wp_step))
 refine codeAny_mono (code_set_new_1 (.ref l) (E:=E) (Q₁:=fun obj s₁=>∃ led:Bool,obj = .ref s.heap.objs.size∧s₁={ s with heap:=s.heap.push (fZ led) }) fun led=>⟨led,rfl,rfl⟩) fun r s₁ hr=>?_
 cases r with
 | error e=>exact hr
 | ok fl =>
   cases fl with
   | ret obj =>
     obtain ⟨led,rfl,rfl⟩:=hr
     have hS:(s.heap.push (fZ led)).get? s.heap.objs.size=some (fZ led):=nQ _ rfl
     have hT:Shared.TypeIs { s with heap:=s.heap.push (fZ led) } (.ref s.heap.objs.size) "set":=⟨_,hS,rfl⟩
     have Yb:=wB.init.lookup
     have Tf:=wB.init.bind (.ref s.heap.objs.size)
     repeat (any_goals (first | assumption | wp_step))
     refine codeAny_mono (codeAny_call_builtin (R:=wants (fun r s₂=>r = .none∧∃ h' tk,s₂={ s with heap:=h',toks:=tk } ∧
       h'.SetOf knd s.heap.objs.size (fun k'=>decide (k'∈met val items.size)) (met val items.size).length ∧
       (∀ b o,b < s.heap.objs.size→s.heap.get? b=some o→h'.get? b=some o)) E) wB.init.plain PySem.F.entry_set_init (check_set_init_1 hT ?_)) fun r₂ s₂ LM=>?_
     · obtain ⟨ol,Gx,Cu,nl,Gy⟩:=hl
       obtain ⟨Ul,C7,Pp,xB⟩:=ol
       simp only at Cu Gy
       subst Cu; subst Gy
       have LN:(s.heap.push (fZ led)).get? l=some { cls:=.type "tuple",dict:=C7,data:=.seq items nl,slots:=xB }:=dB _ Gx
       have Um:=sub_tuple_set
       have Uo:=sub_tuple_frozenset
       have n8:(Value.type "tuple" == Value.type "dict")=false:=by decide
       have GL:(s.heap.push (fZ led)).IsTuple l items:=⟨_,LN,rfl,nl,rfl⟩
       unfold Builtin.«set.__init__» noKeywords Builtin.Frozenset.updateFrom
       generalize Up:pyIter=PI
       wp_walk
       subst Up
       refine wpAny_pyIter_tuple GL ?_
       refine wpAny_bind (wpAny_runValue ?_)
       have Pq:l < s.heap.objs.size:=d7 Gx
       have Uq:A.in1.in1.in1.handled=none:=by simp [hh]
       have LO:l≠(s.heap.push (fZ led)).objs.size:=by
        rw [wI]; exact gW (NP Pq)
       have Nr:s.heap.objs.size∉[(s.heap.push (fZ led)).objs.size,l]:=by
        rw [wI]; simp only [cL,wH,dZ,or_false,not_or]
        exact ⟨gW (JE _),BN Pq⟩
       refine rP ((Walks.tuple Uq _ l LO items).toS) s.heap.objs.size
        Nr val hi hb (items.size - 0) 0 _ (by omega) (kK _)
        ⟨⟨_,nQ _ rfl,rfl,rfl⟩,(GL.push _)⟩ ?hS0 ?hR
       case hS0 =>
        have LP:((s.heap.push (fZ led)).push { cls:=.type "tuple_iterator",data:=.fields #[.ref l,.int 0 0] }).get? s.heap.objs.size
          = some (fZ led):=dB _ hS
        exact SetOf_congr ((setObjOf_fresh (knd:=knd) led).setOf LP (by unfold scanBound; omega)) (fun _=>by simp [met]) rfl
       case hR =>
        intro s' hm C6
        obtain ⟨h',g',d',C8,Oe⟩:=s'
        have eg:g'=s.gens:=hm.gens
        have ed:d'=s.drawn:=hm.drawn
        have eo:Oe=s.os:=hm.os
        subst eg; subst ed; subst eo
        show wpAny _ _ _ _ _ _
        refine wpAny_pure ?_
        show wpAny _ _ (ret Value.none) _ _ _
        refine wpAny_pure ⟨rfl,h',C8,rfl,C6,fun b o hb e=>?_⟩
        have LG:b≠s.heap.objs.size:=gW hb
        have Fb:b≠(s.heap.push (fZ led)).objs.size:=by
         rw [wI]; exact gW (NP hb)
        exact hm.heap b o (by simp only [cL,wH,dZ,or_false,not_or]; exact ⟨LG,Fb⟩) (dB _ (dB _ e))
     · cases r₂ with
       | error e=>exact LM
       | ok Ur =>
         cases Ur with
         | ret r =>
           obtain ⟨rfl,h',tk,rfl,C6,Pr⟩:=LM
           repeat (any_goals (first | assumption | wp_step))
           refine h _ _ C6 Pr ?_
           obtain ⟨o,_,_,_,ho,_⟩:=C6
           exact d7 ho
         | _=>exact LM.elim
   | _=>exact hr.elim
end
end VT
namespace VT
open PySem PySem.Spec PyProof.Rows L2
def LQ (P:Program) (w:World) (a:Addr) (f:Str→Bool) (n:Nat):HO:=.ext fun h=>h.SetOf (PySem.strKind P w) a f n
def once (ys:List Str):List Str:=met (fun i=>ys.getD i Str.empty) ys.length
section
variable {X:Cx}
theorem rQ {ys:List Str} {aK:List Value} (r:Vals (ys.map V.str) aK) (i:Nat) (v:Value) (h:aK.toArray[i]?=some v):(PySem.strKind X.prog X.w).is (ys.getD i Str.empty) v=true∧v.scannable=true:=by
 have h':aK[i]?=some v:=by simpa using h
 have hl:=r.length
 rw [cu] at hl
 have hi:i < ys.length:=by have:=(fY.mp h').1; omega
 obtain ⟨u,hu,ru⟩:=r.get (show (ys.map V.str)[i]?=some (.str ys[i]) by rw [nV,lK hi]; rfl)
 rw [h'] at hu
 cases hu
 obtain ⟨t,rfl⟩:=ru
 refine ⟨?_,rfl⟩
 rw [List.getD_eq_getElem?_getD,lK hi]
 show Value.isStrOf ys[i] (.str ys[i] t)=true
 simp [Value.isStrOf]
theorem qT (hc:X.calm=true):cw X (.type "set") (fun xs H Q=>∃ (p:Addr) (ys:List Str),xs=[.ref p]∧(eY X.K H p (ys.map V.str)∨d9 X.K H p (ys.map V.str))∧ys.length < 4000 ∧
  ∀ a,H a=none→Q (.ref a) (upd H a (LQ X.prog X.w a (fun k=>decide (k∈once ys)) (once ys).length))):=by
 intro pins s σ H xs us Q I r h
 obtain ⟨p,ys,rfl,hq,hl,q⟩:=h
 obtain ⟨u,rfl,ru⟩:=vals1 r
 cases ru
 have fin:∀ (n:Nat),n=ys.length→∀ (h':Heap) (tk:Nat),h'.SetOf (PySem.strKind X.prog X.w) s.heap.objs.size (fun k'=>decide (k'∈met (fun i=>ys.getD i Str.empty) n)) (met (fun i=>ys.getD i Str.empty) n).length →
   (∀ b o,b < s.heap.objs.size→s.heap.get? b=some o→h'.get? b=some o)→EP X pins σ Q (.ref s.heap.objs.size) { s with heap:=h',toks:=tk }:=fun n hn h' tk hS hk=>by
  subst hn
  refine ⟨.ref s.heap.objs.size,_,I.laid (a:=s.heap.objs.size) (t':=tk) (fun b o e=>hk b o (d7 e) e) (d8 _) ?_,rfl,q _ I.fresh⟩
  refine ⟨hS,?_,fun h1 h2 z k=>?_⟩
  · obtain ⟨o,_,_,_,ho,_⟩:=hS
    exact ⟨o,ho⟩
  · obtain ⟨o,es,ep,t,ho,rest⟩:=z
    exact ⟨o,es,ep,t,k o ho,rest⟩
 rcases hq with hq | hq
 · obtain ⟨aK,rv,pl,hz⟩:=I.list hq
   have e:=rv.length
   rw [cu] at e
   exact pf (knd:=PySem.strKind X.prog X.w) (val:=fun i=>ys.getD i Str.empty) (I.ok.hd hc) pl.isList (rQ rv) (by unfold scanBound; simp; omega) fun h' tk hS hk _=>fin _ (by simp [e]) h' tk hS hk
 · obtain ⟨aK,rv,pl,hz⟩:=I.tuple hq
   have e:=rv.length
   rw [cu] at e
   exact nJ (knd:=PySem.strKind X.prog X.w) (val:=fun i=>ys.getD i Str.empty) (I.ok.hd hc) (show s.heap.IsTuple p aK.toArray from pl) (rQ rv) (by unfold scanBound; simp; omega) fun h' tk hS hk _=>fin _ (by simp [e]) h' tk hS hk
theorem qU:cw X (.builtin "len") (fun xs H Q=>∃ a f n,xs=[.ref a]∧H a=some (LQ X.prog X.w a f n)∧Q (.int (n:Int)) H):=by
 intro pins s σ H xs us Q I r h
 obtain ⟨a,f,n,rfl,ha,q⟩:=h
 obtain ⟨u,rfl,ru⟩:=vals1 r
 cases ru
 obtain ⟨⟨o,es,ep,t,ho,hex,hd,_,_,hb,hf,hn⟩,_⟩:=(show bQ X.prog X.w H s.heap a (LQ X.prog X.w a f n) from I.bD a _ ha)
 refine PySem.call_len_set ho hex hd hf (by unfold scanBound at hb; omega) ?_
 rw [hn]
 exact ⟨.int n,H,I.tok _,⟨_,rfl⟩,q⟩
theorem boot_set:bootBuiltins "set" = some (.type "set"):=by decide +kernel
end
section
variable {X:Cx} {Z:Zc} {a:Expr} {fa:FE} {p1 p2 GN Aq:Pos}
def GO (fa:FE):FP:=fun ρ Q=>fa ρ fun x=>∃ ys:List Str,(x = .lst (ys.map .str)∨x = .tup (ys.map .str))∧ys.length < 4000∧Q (.vw (.int ((once ys).length:Int)))
theorem tK {K:PySem.W.Frag} {H:Hp} {A:List Addr}:∀ {ys:List Str} {vs:List V},aE K H A (ys.map T.str) vs→vs=ys.map V.str
 | [],vs,h=>by simpa only [JH,aE] using h
 | y :: ys,vs,h=>by
   simp only [jY,aE] at h
   obtain ⟨v,r,rfl,h1,h2⟩:=h
   simp only [At] at h1
   rw [h1,tK h2]
   rfl
theorem Ar (hc:X.calm=true) (Yc:Gl X "len") (Yd:X.mg "len" = none) (Ye:Gl X "set") (Us:X.mg "set" = none) (ha:VR X Z a fa)
  (he:starEach [.Call (.Name "set" p2) [a] [] Aq] X.env=(false,eval (.Call (.Name "set" p2) [a] [] Aq) X.env) :: starEach [] X.env:=by rfl) (fg:(backTo GN (starEach [] X.env)).any (·.1)=false:=by rfl)
  (Ut:starEach [a] X.env=(false,eval a X.env) :: starEach [] X.env:=by rfl) (Uu:(backTo Aq (starEach [] X.env)).any (·.1)=false:=by rfl) :
  VP X Z (.Call (.Name "len" p1) [.Call (.Name "set" p2) [a] [] Aq] [] GN) (GO fa):=.mk fun tm =>
 PE.weak (kS qU Yc Yd iA (bh (rE (qT hc) Ye Us boot_set (bh (ha tm) cx Ut) (by decide) (by decide) Ut Uu) cx he) (by decide) (by decide) he fg) fun σ H Q ⟨ρ,O,q,I,hf,k⟩ =>
  ⟨ρ,O,_,I,hf,fun x hx v H1 s1 a1=>by
    obtain ⟨ys,hy,hl,hq⟩:=hx
    have src:∃ p,v = .ref p∧(eY X.K H1 p (ys.map V.str)∨d9 X.K H1 p (ys.map V.str)):=by
     rcases hy with rfl | rfl
     · obtain ⟨p,vs,rfl,h1,h2⟩:=a1.lst
       rw [tK h2] at h1
       exact ⟨p,rfl,.inl h1⟩
     · obtain ⟨p,vs,rfl,h1,h2⟩:=a1.tup
       rw [tK h2] at h1
       exact ⟨p,rfl,.inr h1⟩
    obtain ⟨p,rfl,hs⟩:=src
    exact ⟨p,ys,rfl,hs,hl,fun b hb=>⟨b,_,_,rfl,aQ,k _ hq _ _ (s1.trans (aS hb)) ⟨(I.same s1).same (aS hb),bq⟩⟩⟩⟩
end
end VT
namespace L2
open PySem PySem.Spec PyProof.Rows
section
variable (P:Program) (w:World)
end
section
variable {P:Program} {w:World} {H H':Hp} {h h':Heap} {a:Addr} {o:HO}
end
section
variable {P:Program} {w:World} {H:Hp} {h h':Heap} {x e:Addr} {o':HO}
end
section
variable {fs NU ex Sk:List Addr} {H H1 H2:Hp} {h h1 h2 h':Heap} {a x e:Addr} {o:HO}
end
section
variable {X:Cx} {pins:List (Addr×Obj)} {σ:List (Option V)} {H H':Hp} {s:Shared} {h':Heap}
end
section
variable {X:Cx}
variable {a b:Expr} {ta tb:TE} {pos:Pos}
variable {tA NY:TT} {rest:List Expr}
end
section
variable {X:Cx} {pins:List (Addr×Obj)} {σ:St} {H:Hp} {s:Shared} {a:Addr} {xs ys:List V}
end
section
variable {X:Cx} {pins:List (Addr×Obj)} {σ:St} {H:Hp} {s:Shared} {E:Value→Shared→Prop}
end
section
variable {X:Cx} {st:Stmt} {rest:List Stmt} {t u:TS} {e:Expr} {te:TE} {pos:Pos}
end
section
variable {X:Cx} {pos:Pos}
end
section
variable {X:Cx} {pos:Pos}
end
section
variable {X:Cx} {tg:Expr}
end
section
variable {X:Cx} {a b c:Expr} {ta tb tc:TE} {pos:Pos}
end
section
variable {X:Cx} {a b c:Expr} {ta tb tc:TE} {pos:Pos}
end
section
variable {prog:Program} {w:World} {A:Around} {E:Value→Shared→Prop} {s:Shared} {K:PySem.W.Frag} {x dx C f:Addr} {mA:Str→Option Value} {name:Str} {v:Value}
end
section
variable {P:Program} {w:World} {H H':Hp} {h h':Heap} {a C dx:Addr} {fs NU:List (Str×V)}
end
section
variable {X:Cx} {pins:List (Addr×Obj)} {σ:St} {H:Hp} {s:Shared} {a C dx:Addr} {fs:List (Str×V)} {f:Str} {v:V} {A:Around} {E:Value→Shared→Prop}
end
section
variable {X:Cx} {o e value:Expr} {f:Str} {pos pos' qB:Pos} {ta tv:TE}
end
section
variable {X:Cx} {pins:List (Addr×Obj)} {σ:St} {H:Hp} {s:Shared} {A:Around} {E:Value→Shared→Prop} {Q:Value→Shared→Prop} {c:Value} {b:Bool}
end
section
variable {X:Cx} {e:Expr} {es:List Expr} {te:TE} {t:TA} {pos:Pos}
end
section
variable {X:Cx} {pins:List (Addr×Obj)} {σ:St} {H:Hp} {s s':Shared}
end
section
variable {X:Cx} {CX:wY} {k:Nat} {f C:Addr} {fd:FuncData} {ps:List Str} {sp:Sp} {FL:List V} {ds:List Value} {E:XK} {x m:Str} {p pos apos:Pos} {e o:Expr} {es:List Expr} {ta:TE} {t:TA}
end
section
variable {X:Cx} {CX:wY} {k:Nat} {f C:Addr} {fd:FuncData} {ps ks:List Str} {sp:Sp} {E:XK} {x m:Str} {p pos apos SV:Pos} {e o:Expr} {es:List Expr} {W5:List Keyword} {te ta:TE} {t tk:TA} {nm:Option Str}
variable {g:List Value→List Value→List Value} {gV:List V→List V→List V}
end
section
variable {X:Cx} {x:Str} {p pos:Pos} {e:Expr} {es:List Expr} {t:TA} {id T:String} {r:List V→Hp→VK→Prop}
end
section
variable {κ:Type} [DecidableEq κ]
def iN (aZ:List (κ×V)) (k:κ):Option V:=(aZ.find? fun kv=>decide (kv.1=k)).map (·.2)
def putK (aZ:List (κ×V)) (k:κ) (v:V):List (κ×V) :=
 if (aZ.any fun kv=>decide (kv.1=k))=true then aZ.map (fun kv=>if kv.1=k then (kv.1,v) else kv) else aZ ++ [(k,v)]
def I_ (aZ:List (κ×V)) (k:κ):List (κ×V):=aZ.filter fun kv=>decide (kv.1≠k)
theorem k7 {p:κ×V} {r:List (κ×V)} {k:κ} (e:p.1=k):iN (p :: r) k=some p.2:=by simp [iN,Nj,e]
theorem k8 {p:κ×V} {r:List (κ×V)} {k:κ} (e:¬ p.1=k):iN (p :: r) k=iN r k:=by simp [iN,Nj,e]
theorem ph (k:κ):∀ aZ:List (κ×V),(aZ.any fun kv=>decide (kv.1=k))=(iN aZ k).isSome
 | []=>rfl
 | p :: r=>by
   rw [Nk]
   by_cases e:p.1=k
   · simp only [k7 e,decide_eq_true e,Bool.true_or,Option.isSome_some]
   · rw [k8 e,decide_eq_false e,Bool.false_or]; exact ph k r
theorem vn (aZ:List (κ×V)) (k:κ) (v:V):(putK aZ k v).length≤aZ.length+1:=by
 unfold putK
 split
 · rw [cu]; omega
 · rw [nU,Fm,List.length_nil]; omega
theorem C9 {aZ:List (κ×V)} {k:κ} (v:V) (h:iN aZ k=none):putK aZ k v=aZ ++ [(k,v)]:=by
 unfold putK
 rw [ph,h]
 exact if_neg (by decide)
theorem kd.As {o:Option V} {u:Option Value} (r:kd o u):o.isSome=u.isSome:=by
 cases o with
 | none=>cases u with
   | none=>rfl
   | some _=>exact (show False from r).elim
 | some _=>cases u with
   | none=>exact (show False from r).elim
   | some _=>rfl
theorem kd.getD {o:Option V} {u:Option Value} {d:V} {d':Value} (r:kd o u) (rd:RelV d d'):RelV (o.getD d) (u.getD d'):=by
 cases o with
 | none=>cases u with
   | none=>exact rd
   | some _=>exact (show False from r).elim
 | some _=>cases u with
   | none=>exact (show False from r).elim
   | some _=>exact r
theorem KV.val {aZ:List (κ×V)} {vs:List (κ×Value)} (r:KV aZ vs) (k:κ):kd (iN aZ k) (valueAt vs k):=by
 unfold KV at r
 induction r with
 | nil=>exact True.intro
 | @cons p q ps qs h t ih =>
   obtain ⟨h1,h2⟩:=h
   by_cases e:p.1=k
   · have e':q.1=k:=h1.symm.trans e
     have b:valueAt (q :: qs) k=some q.2:=by simp [valueAt,Nj,e']
     rw [k7 e,b]; exact h2
   · have e':¬ q.1=k:=fun z=>e (h1.trans z)
     have b:valueAt (q :: qs) k=valueAt qs k:=by simp [valueAt,Nj,e']
     rw [k8 e,b]; exact ih
theorem KV.any {aZ:List (κ×V)} {vs:List (κ×Value)} (r:KV aZ vs) (k:κ):(aZ.any fun kv=>decide (kv.1=k))=vs.any fun kv=>decide (kv.1=k):=by
 unfold KV at r
 induction r with
 | nil=>rfl
 | cons h t ih=>rw [Nk,Nk,ih,h.1]
theorem KV.LR {aZ:List (κ×V)} {vs:List (κ×Value)} (r:KV aZ vs) (k:κ) {y:V} {u:Value} (ry:RelV y u) :
  KV (aZ.map fun kv=>if kv.1=k then (kv.1,y) else kv) (vs.map fun kv=>if kv.1=k then (kv.1,u) else kv):=by
 unfold KV at r ⊢
 induction r with
 | nil=>exact .nil
 | @cons p q ps qs h t ih =>
   rw [jY,jY]
   refine .cons ?_ ih
   obtain ⟨h1,h2⟩:=h
   by_cases e:p.1=k
   · rw [if_pos e,if_pos (h1.symm.trans e)]; exact ⟨h1,ry⟩
   · rw [if_neg e,if_neg (fun z=>e (h1.trans z))]; exact ⟨h1,h2⟩
theorem KV.put {aZ:List (κ×V)} {vs:List (κ×Value)} (r:KV aZ vs) (k:κ) {y:V} {u:Value} (ry:RelV y u):KV (putK aZ k y) (stored vs k u):=by
 unfold putK stored
 rw [r.any k]
 by_cases e:(vs.any fun kv=>decide (kv.1=k))=true
 · rw [if_pos e,if_pos e]; exact r.LR k ry
 · rw [if_neg e,if_neg e]; exact Paired.snoc r ⟨rfl,ry⟩
theorem KV.drop {aZ:List (κ×V)} {vs:List (κ×Value)} (r:KV aZ vs) (k:κ):KV (I_ aZ k) (without vs k):=by
 unfold KV at r ⊢
 unfold I_ without
 induction r with
 | nil=>exact .nil
 | @cons p q ps qs h t ih =>
   obtain ⟨h1,h2⟩:=h
   rw [List.filter_cons,List.filter_cons]
   by_cases e:p.1=k
   · have a:¬ decide (p.1≠k)=true:=by simp [e]
     have b:¬ decide (q.1≠k)=true:=by simp [h1.symm.trans e]
     rw [if_neg a,if_neg b]; exact ih
   · have e':¬ q.1=k:=fun z=>e (h1.trans z)
     have a:decide (p.1≠k)=true:=by simp [e]
     have b:decide (q.1≠k)=true:=by simp [e']
     rw [if_pos a,if_pos b]; exact .cons ⟨h1,h2⟩ ih
theorem KV.keys {aZ:List (κ×V)} {vs:List (κ×Value)} (r:KV aZ vs):aZ.map (·.1)=vs.map (·.1):=by
 unfold KV at r
 induction r with
 | nil=>rfl
 | cons h t ih=>rw [jY,jY,ih,h.1]
theorem KV.length {aZ:List (κ×V)} {vs:List (κ×Value)} (r:KV aZ vs):aZ.length=vs.length:=Paired.length r
end
theorem vo {P:Program} {w:World} {k:Key} {u:Value} (r:RelV (kV k) u):(bC P w).is k u=true:=by
 cases k with
 | inl i=>obtain ⟨t,e⟩:=(show ∃ t,u=Value.int i t from r); subst e; exact uJ P w i t
 | inr x=>obtain ⟨t,e⟩:=(show ∃ t,u=Value.str x t from r); subst e; exact uK P w x t
theorem rR {P:Program} {w:World}:∀ {ks:List Key} {us:List Value},Vals (ks.map kV) us→ItemsAre (bC P w) ks us
 | [],_,r=>by rw [JH] at r; cases r; exact .nil
 | k :: ks,_,r=>by
   rw [jY] at r
   cases r with
   | cons h t=>exact .cons (vo h) (rR t)
abbrev KT (H:Hp):List (List Key×V)→List (List Key×Addr×Value)→Prop:=Paired fun p q=>p.1=q.1∧H q.2.1=some (.tup (p.1.map kV))∧RelV p.2 q.2.2
theorem KT.val {H:Hp} {aZ:List (List Key×V)} {xs:List (List Key×Addr×Value)} (r:KT H aZ xs) (k:List Key):kd (iN aZ k) ((atKey xs k).map (·.2)):=by
 induction r with
 | nil=>exact True.intro
 | @cons p q ps qs h t ih =>
   obtain ⟨h1,_,h2⟩:=h
   by_cases e:p.1=k
   · have e':q.1=k:=h1.symm.trans e
     have b:atKey (q :: qs) k=some q.2:=by simp [atKey,Nj,e']
     rw [k7 e,b]; exact h2
   · have e':¬ q.1=k:=fun z=>e (h1.trans z)
     have b:atKey (q :: qs) k=atKey qs k:=by simp [atKey,Nj,e']
     rw [k8 e,b]; exact ih
theorem KT.LR {H:Hp} {aZ:List (List Key×V)} {xs:List (List Key×Addr×Value)} (r:KT H aZ xs) (k:List Key) {y:V} {u:Value} (ry:RelV y u) :
  KT H (aZ.map fun kv=>if kv.1=k then (kv.1,y) else kv) (xs.map (putAt k u)):=by
 induction r with
 | nil=>exact .nil
 | @cons p q ps qs h t ih =>
   rw [jY,jY]
   refine .cons ?_ ih
   obtain ⟨h1,h2,h3⟩:=h
   unfold putAt
   by_cases e:p.1=k
   · rw [if_pos e,if_pos (h1.symm.trans e)]; exact ⟨h1,h2,ry⟩
   · rw [if_neg e,if_neg (fun z=>e (h1.trans z))]; exact ⟨h1,h2,h3⟩
theorem KT.put {H:Hp} {aZ:List (List Key×V)} {xs:List (List Key×Addr×Value)} (r:KT H aZ xs) (k:List Key) {b:Addr} {y:V} {u:Value} (hb:H b=some (.tup (k.map kV))) (ry:RelV y u) :
  KT H (putK aZ k y) (storedH xs k b u):=by
 have e:(aZ.any fun kv=>decide (kv.1=k))=(atKey xs k).isSome:=by
  rw [ph,(r.val k).As,Option.isSome_map]
 unfold putK storedH
 rw [e]
 by_cases q:(atKey xs k).isSome=true
 · rw [if_pos q,if_pos q]; exact r.LR k ry
 · rw [if_neg q,if_neg q]; exact Paired.snoc r ⟨rfl,hb,ry⟩
theorem KT.keeps {H H':Hp} {aZ:List (List Key×V)} {xs:List (List Key×Addr×Value)} (r:KT H aZ xs) (ht:∀ b ys,H b=some (.tup ys)→H' b=some (.tup ys)):KT H' aZ xs :=
 Paired.nC r fun _ _ z=>⟨z.1,ht _ _ z.2.1,z.2.2⟩
section
variable {P:Program} {w:World} {H:Hp} {h:Heap} {a:Addr}
theorem Ja {u:HO} (ok:jS P w H h) (e:Rd H a u):bQ P w H h a u:=e.ok ok
theorem vp {aZ:List (Key×V)} (ok:jS P w H h) (e:Rd H a (.dK aZ)):aZ.length≤sizeLine∧(a == sysModules)=false∧∃ vs,KV aZ vs∧h.DictOf (bC P w) a vs :=
 show bQ P w H h a (.dK aZ) from Ja ok e
theorem Pt {aZ:List (Key×V)} (ok:jS P w H h) (e:H a=some (.dK aZ)):aZ.length≤sizeLine∧(a == sysModules)=false∧∃ vs,KV aZ vs∧h.DictOf (bC P w) a vs:=vp ok (.inl e)
theorem xC {ks:List Key} (ok:jS P w H h) (e:H a=some (.tup (ks.map kV))):(tupleKind (bC P w)).is h ks a:=by
 obtain ⟨_,aK,r,o,h1,h2,n,h3⟩:=(show bQ P w H h a (.tup (ks.map kV)) from ok a _ e)
 exact ⟨o,aK.toArray,n,h1,h2,h3,by simpa using rR r⟩
theorem zk {aZ:List (List Key×V)} (ok:jS P w H h) (e:Rd H a (.dT aZ)):aZ.length≤sizeLine∧(a == sysModules)=false ∧
  ∃ xs,KT H aZ xs∧h.DictOfH (tupleKind (bC P w)) a xs:=by
 obtain ⟨z,y,xs,r,o,es,ep,h1,h2,h3,h4,h5⟩:=(show bQ P w H h a (.dT aZ) from Ja ok e)
 refine ⟨z,y,xs,r,o,es,ep,h1,h2,h3,h4,fun x hx=>?_,h5⟩
 have all:∀ {l:List (List Key×V)} {m:List (List Key×Addr×Value)},KT H l m→∀ x∈m,(tupleKind (bC P w)).is h x.1 x.2.1:=by
  intro l m q
  induction q with
  | nil=>intro x hx; exact nomatch hx
  | @cons p q ps qs hq t ih =>
    intro x hx
    rcases cL.mp hx with e | hx
    · subst e
      exact xC ok (by rw [← hq.1]; exact hq.2.1)
    · exact ih x hx
 exact all r x hx
end
def pj (H:Hp) (a:Addr) (y:V) (r:Option V):Prop :=
 (∃ aZ k,Rd H a (.dK aZ)∧y=kV k∧r=iN aZ k)∨∃ aZ k b,Rd H a (.dT aZ)∧y = .ref b∧H b=some (.tup (k.map kV))∧r=iN aZ k
def GP (H:Hp) (a:Addr) (y v:V) (H':Hp):Prop :=
 (∃ aZ k,H a=some (.dK aZ)∧y=kV k∧aZ.length < sizeLine∧H'=upd H a (.dK (putK aZ k v))) ∨
 ∃ aZ k b,H a=some (.dT aZ)∧y = .ref b∧H b=some (.tup (k.map kV))∧aZ.length < sizeLine∧H'=upd H a (.dT (putK aZ k v))
theorem pj.k {H:Hp} {a:Addr} {aZ:List (Key×V)} {k:Key} (e:H a=some (.dK aZ)):pj H a (kV k) (iN aZ k):=.inl ⟨aZ,k,.inl e,rfl,rfl⟩
theorem pj.t {H:Hp} {a b:Addr} {aZ:List (List Key×V)} {k:List Key} (e:H a=some (.dT aZ)) (eb:H b=some (.tup (k.map kV))):pj H a (.ref b) (iN aZ k):=.inr ⟨aZ,k,b,.inl e,rfl,eb,rfl⟩
theorem GP.k {H:Hp} {a:Addr} {aZ:List (Key×V)} {k:Key} {v:V} (e:H a=some (.dK aZ)) (hl:aZ.length < sizeLine):GP H a (kV k) v (upd H a (.dK (putK aZ k v))):=.inl ⟨aZ,k,e,rfl,hl,rfl⟩
theorem GP.t {H:Hp} {a b:Addr} {aZ:List (List Key×V)} {k:List Key} {v:V} (e:H a=some (.dT aZ)) (eb:H b=some (.tup (k.map kV))) (hl:aZ.length < sizeLine) :
 GP H a (.ref b) v (upd H a (.dT (putK aZ k v))):=.inr ⟨aZ,k,b,e,rfl,eb,hl,rfl⟩
section
variable {X:Cx} {pins:List (Addr×Obj)} {σ:St} {H:Hp} {s:Shared} {a:Addr} {y v:V} {u r:Value} {o:Option V} {A:Around} {E:Value→Shared→Prop}
theorem Inv.big (I:Inv X pins σ H s):sysModules < s.heap.objs.size:=by
 have h:mainGlobals < s.heap.objs.size:=(I.mod.glob.keeps I.bk).lt
 exact Nat.lt_trans (by decide) h
theorem Au {Q:Value→Shared→Prop} (hu:A.units+1 < cLine) (I:Inv X pins σ H s) (g:pj H a y (some v)) (ry:RelV y u) (h:∀ w' s',Inv X pins σ H s'→RelV v w'→Q w' s') :
  wpAny (model X.prog X.w) A (getItem (.ref a) u) Q E s:=by
 rcases g with ⟨aZ,k,e,ey,l⟩ | ⟨aZ,k,b,e,ey,eb,l⟩
 · subst ey
   obtain ⟨z,hd,vs,rel,dd⟩:=vp I.bD e
   obtain ⟨w',hw,rw'⟩:=kd.some_of (v:=v) (o:=valueAt vs k) (by rw [l]; exact rel.val k)
   exact wpAny_getItem_of (vo ry) dd.mapOf hw (h w' _ (I.tok _) rw')
 · subst ey
   cases (show u=Value.ref b from ry)
   obtain ⟨z,hd,xs,rel,dd⟩:=zk I.bD e
   obtain ⟨w',hw,rw'⟩:=kd.some_of (v:=v) (o:=(atKey xs k).map (·.2)) (by rw [l]; exact rel.val k)
   obtain ⟨p,hp,vm⟩:=NG.mp hw
   refine wpAny_getItem_heap (tupleKind_room_in1 hu) (xC I.bD eb) dd hp ?_
   rw [vm]
   exact h w' _ (I.tok _) rw'
theorem GQ {h':Heap} {t':Nat} {ob:HO} (I:Inv X pins σ H s) (mu:NR (H a)) (hs:Heap.SameBut a s.heap h') (he:∃ q,h'.get? a=some q) (new:bQ X.prog X.w (upd H a ob) h' a ob) :
  Inv X pins σ (upd H a ob) { s with heap:=h',toks:=t' } :=
 I.write (x:=a) (e:=a) mu (.inl rfl) (fun b q hb z=>(hs.2 b hb).trans z) he new
theorem LS {P:Program} {w:World} {H':Hp} {h':Heap} {aZ:List (Key×V)} {vs:List (Key×Value)} (z:aZ.length≤sizeLine) (hd:(a == sysModules)=false) (rel:KV aZ vs) (dd:h'.DictOf (bC P w) a vs) :
 bQ P w H' h' a (.dK aZ):=⟨z,hd,vs,rel,dd⟩
end
section
variable {X:Cx} {pins:List (Addr×Obj)} {σ:St} {H:Hp} {s:Shared} {a:Addr} {aZ:List (Key×V)} {k:Key} {u:Value} {A:Around} {E:Value→Shared→Prop}
end
def LU (i:Expr):Prop:=∀ ov iv,subscripted i false ov iv=operate [ov,iv] (getItem ov iv)
theorem GR {prog:Program} {w:World} {A:Around} {E:Value→Shared→Prop} {s:Shared} {env:Env} {value slice:Expr} {pos:Pos} {T id:String} {Q:Value→Shared→Prop}
  (hl:typeLookup (.type T) "__getitem__" = pure (some (.builtin id))) (hs:LU slice)
  (h:wpAny (model prog w) A (eval value env) (fun o s₁=>wpAny (model prog w) A (eval slice env) (fun i s₂=>s₂.TypeIs o T∧wpAny (model prog w) A (getItem o i) Q E s₂) E s₁) E s) :
  wpAny (model prog w) A (eval (.Subscript value slice pos) env) Q E s:=by
 refine Subscript_ (wpAny_mono h (fun o s₁ h₁=>wpAny_mono h₁ (fun i s₂ h₂=>?_) fun _ _ x=>x) fun _ _ x=>x)
 obtain ⟨hT,h₂⟩:=h₂
 unfold subscriptTail
 refine wpAny_bind ?_
 rw [getitemInPython_of_ne hT.not_modules]
 refine wpAny_bind (wpAny_specialOf hT hl ?_)
 have fin:wpAny (model prog w) A (subscripted slice false o i) (fun r s₃=>wpAny (model prog w) A (letTemporaryGo value o r >>= fun _=>pure r) Q E s₃) E s₂:=by
  rw [hs o i]
  exact wpAny_operating (wpAny_mono h₂ (fun r s₃ h₃=>wpAny_bind (wpAny_letTemporaryGo (wpAny_pure h₃))) fun _ _ x=>x)
 first
  | exact wpAny_pure (wpAny_bind fin)
  | exact wpAny_bind (wpAny_pure (wpAny_bind fin))
  | exact wpAny_bind fin
theorem vq {X:Cx} {pins:List (Addr×Obj)} {σ:St} {H:Hp} {s:Shared} {a:Addr} {y:V} {o:Option V} (I:Inv X pins σ H s) (g:pj H a y o):s.TypeIs (.ref a) "dict":=by
 rcases g with ⟨aZ,k,e,_,_⟩ | ⟨aZ,k,b,e,_,_,_⟩
 · obtain ⟨_,_,vs,_,dd⟩:=vp I.bD e
   exact dd.typeIs
 · obtain ⟨_,_,xs,_,dd⟩:=zk I.bD e
   exact dd.typeIs
def Pu (td ty:TE):TE:=fun σ H Q=>td σ H fun x H1=>ty σ H1 fun y H2=>∃ a v,x = .ref a∧pj H2 a y (some v)∧Q v H2
section
variable {X:Cx} {o i e value:Expr} {pos pos' qB:Pos} {td ty tv:TE}
theorem GS (hu:X.A.units+1 < cLine) (ho:PE X o td) (hi:PE X i ty) (hs:LU i):PE X (.Subscript o i pos) (Pu td ty):=by
 intro pins s σ H Q I h
 refine GR PySem.F.slot_dict_getitem.lookup hs (bV (ho pins s σ H _ I h) fun u s1 ⟨x,H1,I1,rx,q1⟩=>bV (hi pins s1 σ H1 _ I1 q1) fun iv s2 ⟨y,H2,I2,ry,a,v,ex,g,q2⟩=>?_)
 subst ex
 obtain rfl:u=Value.ref a:=rx
 exact ⟨vq I2 g,Au hu I2 g ry fun w' s3 I3 rw'=>⟨v,H2,I3,rw',q2⟩⟩
end
theorem C_ {P:Program} {w:World} {H:Hp} (h:Heap) (hb:sysModules < h.objs.size):bQ P w H (h.push { cls:=.type "dict",data:=.dict #[] }) h.objs.size (.dK []) :=
 ⟨kK _,beq_eq_false_iff_ne.mpr (Ne.symm (gW hb)),[],.nil,Heap.DictOf.new h⟩
def LV:TE:=fun _ H Q=>∀ p,H p=none→Q (.ref p) (upd H p (.dK []))
section
variable {X:Cx} {pos:Pos}
theorem Dd:PE X (.Dict [] [] pos) LV:=fun pins s σ H Q I h =>
 wpAny_Dict_empty ⟨.ref s.heap.objs.size,_,I.laid (a:=s.heap.objs.size) (o:=.dK []) (t':=s.toks) (fun _ _ q=>dB _ q) (d8 _) (C_ s.heap I.big),rfl,h _ (I.bD.fresh (d8 _))⟩
end
abbrev VV:List (V×V)→List (Value×Value)→Prop:=Paired fun p q=>RelV p.1 q.1∧RelV p.2 q.2
structure M1 (X:Cx) (o:Expr) (m:Str) (apos:Pos) (e:Expr) (bc:Pos):Prop where
 base:attributeBase o m X.env (eval o X.env)=eval o X.env
 Uv:((backTo bc (starEach [e] X.env)).all (fun x=>!x.1) && (backToKw bc (keywordEach [] X.env)).all (fun x=>x.1.isSome)
  && decide (([e]:List Expr).length+([]:List Keyword).length+(if ([]:List Keyword).isEmpty then 0 else 1) < 30))=true
 line:(apos.endLine == bc.line)=true
 trees:backTo bc (starEach [e] X.env)=[(false,eval e X.env)]
structure M2 (X:Cx) (o:Expr) (m:Str) (apos:Pos) (e f:Expr) (bc:Pos):Prop where
 base:attributeBase o m X.env (eval o X.env)=eval o X.env
 Uv:((backTo bc (starEach [e,f] X.env)).all (fun x=>!x.1) && (backToKw bc (keywordEach [] X.env)).all (fun x=>x.1.isSome)
  && decide (([e,f]:List Expr).length+([]:List Keyword).length+(if ([]:List Keyword).isEmpty then 0 else 1) < 30))=true
 line:(apos.endLine == bc.line)=true
 trees:backTo bc (starEach [e,f] X.env)=[(false,eval e X.env),(false,eval f X.env)]
def Ww (H:Hp) (a:Addr):Prop:=(∃ aZ,Rd H a (.dK aZ))∨∃ aZ,Rd H a (.dT aZ)
theorem LW {X:Cx} {pins:List (Addr×Obj)} {σ:St} {H:Hp} {s:Shared} {a:Addr} (I:Inv X pins σ H s) (d:Ww H a) :
  s.TypeIs (.ref a) "dict"∧(∀ b,Value.ref a = .ref b→∃ ob,s.heap.get? b=some ob∧ob.dict=none)∧(a == sysModules)=false:=by
 rcases d with ⟨aZ,e⟩ | ⟨aZ,e⟩
 · obtain ⟨_,hd,vs,_,dd⟩:=vp I.bD e
   refine ⟨dd.typeIs,fun b q=>?_,hd⟩
   cases q
   obtain ⟨ob,_,_,h1,h2,_⟩:=dd
   exact ⟨ob,h1,h2.2.1⟩
 · obtain ⟨_,hd,xs,_,dd⟩:=zk I.bD e
   refine ⟨dd.typeIs,fun b q=>?_,hd⟩
   cases q
   obtain ⟨ob,_,_,h1,h2,_⟩:=dd
   exact ⟨ob,h1,h2.2.1⟩
section
variable {X:Cx} {pins:List (Addr×Obj)} {σ:St} {H:Hp} {s:Shared} {a:Addr} {y d:V} {u r:Value} {o:Option V} {A:Around} {E:Value→Shared→Prop}
theorem LX {Q:Value→Shared→Prop} (hu:A.units+1 < cLine) (I:Inv X pins σ H s) (g:pj H a y o) (ry:RelV y u) (h:∀ w' s',Inv X pins σ H s'→RelV (o.getD .br) w'→Q w' s') :
  wpAny (model X.prog X.w) A (call (.builtin "dict.get") [.ref a,u]) Q E s:=by
 rcases g with ⟨aZ,k,e,ey,l⟩ | ⟨aZ,k,b,e,ey,eb,l⟩
 · subst ey
   obtain ⟨z,hd,vs,rel,dd⟩:=vp I.bD e
   refine call_meetsIn NJ dd.typeIs Sh (Se _ _) (meets_dict_get (bC X.prog X.w) a (vo ry) hd) ⟨_,dd.mapOf,h _ _ (I.tok _) ?_⟩
   rw [l]
   exact (rel.val k).getD rfl
 · subst ey
   cases (show u=Value.ref b from ry)
   obtain ⟨z,hd,xs,rel,dd⟩:=zk I.bD e
   refine call_meetsIn NJ dd.typeIs Sh (Se _ _) (meetsH_dict_get (tupleKind (bC X.prog X.w)) a b hd) ⟨tupleKind_room_in1 hu,k,xs,xC I.bD eb,dd,h _ _ (I.tok _) ?_⟩
   rw [l]
   exact (rel.val k).getD rfl
end
def LY (td ty:TE):TE:=fun σ H Q=>td σ H fun x H1=>∃ a,x = .ref a∧Ww H1 a∧ty σ H1 fun y H2=>∃ o,pj H2 a y o∧Q (o.getD .br) H2
section
variable {X:Cx} {o e f:Expr} {apos bc:Pos} {td ty tx:TE}
theorem De (hu:X.A.units+1 < cLine) (ho:PE X o td) (he:PE X e ty) (m:M1 X o "get" apos e bc):PE X (.Call (.Attribute o "get" apos) [e] [] bc) (LY td ty):=by
 intro pins s σ H Q I h
 refine wpAny_Call_method m.base m.Uv m.line Sf NJ PySem.F.type_dict_get (bV (ho pins s σ H _ I h) fun u s1 ⟨x,H1,I1,rx,a,ex,d,q1⟩=>?_)
 subst ex
 obtain rfl:u=Value.ref a:=rx
 obtain ⟨t1,t2,_⟩:=LW I1 d
 refine ⟨t1,t2,?_⟩
 rw [m.trees]
 refine Q6 rfl (Calls.evalArgs_plain (Calls.spliced_cons (bV (he pins s1 σ H1 _ I1 q1) fun iv s2 ⟨y,H2,I2,ry,ov,g,q2⟩=>Calls.spliced_nil ?_)))
 exact LX hu I2 g ry fun w' s3 I3 rw'=>⟨_,H2,I3,rw',q2⟩
end
section
variable {X:Cx} {pins:List (Addr×Obj)} {σ:St} {H:Hp} {s:Shared} {a:Addr} {aZ:List (Key×V)} {A:Around} {E:Value→Shared→Prop}
end
section
variable {X:Cx} {pins:List (Addr×Obj)} {σ:St} {H:Hp} {s:Shared} {a:Addr} {y:V} {u:Value} {A:Around} {E:Value→Shared→Prop}
end
end L2
namespace Ro
open PySem PySem.W PySem.Calls PyProof.Rows
section
variable {prog:Program} {w:World} {A:Around} {E:Value→Shared→Prop} {s:Shared} {K:Frag}
end
end Ro
namespace L2
open PySem PySem.Spec PyProof.Rows
section
variable {P:Program} {w:World} {K:PySem.W.Frag} {mg:Str→Option Value} {base:Heap}
end
section
variable {X:Cx}
end
section
variable {κ:Type} [DecidableEq κ]
end
end L2
namespace VT
open PySem PySem.Spec PyProof.Rows L2
def Av:T→Option Key
 | .int i=>some (.inl i)
 | .str x=>some (.inr x)
 | _=>none
theorem tO {K:PySem.W.Frag} {H:Hp} {A:List Addr} {t:T} {v:V} {k:Key} (h:gT K H A t v) (e:Av t=some k):v=kV k:=by
 cases t with
 | int i=>cases e; exact h.int
 | str x=>cases e; exact h.str
 | _=>cases e
def gn {α:Type}:List Key→List α→Key→Option α
 | k :: ks,t :: ts,x=>if k=x then some t else gn ks ts x
 | _,_,_=>none
theorem fK:∀ (ks:List Key) (vs:List V) (x:Key),iN (ks.zip vs) x=gn ks vs x
 | [],vs,x=>rfl
 | k :: ks,[],x=>rfl
 | k :: ks,v :: vs,x=>by
   simp only [gn,List.zip_cons_cons]
   by_cases e:k=x
   · rw [if_pos e,k7 (p:=(k,v)) e]
   · rw [if_neg e,k8 (p:=(k,v)) e]; exact fK ks vs x
theorem vt {α:Type} (ts:List α) (x:Key):gn [] ts x=none:=by cases ts <;> rfl
theorem hX {K:PySem.W.Frag} {H:Hp} {A:List Addr}:∀ {ks:List Key} {ts:List T} {vs:List V} {x:Key},aE K H A ts vs→(∀ t,gn ks ts x=some t→∃ v,gn ks vs x=some v∧At K H A t v)∧(gn ks ts x=none→gn ks vs x=none)
 | [],ts,vs,x,h=>by
   rw [vt,vt]
   refine ⟨fun t e=>?_,fun _=>rfl⟩
   cases e
 | k :: ks,[],vs,x,h=>by
   simp only [aE] at h
   subst h
   exact ⟨fun t e=>(by cases e),fun _=>rfl⟩
 | k :: ks,t :: ts,vs,x,h=>by
   simp only [aE] at h
   obtain ⟨v,r,rfl,h1,h2⟩:=h
   simp only [gn]
   by_cases e:k=x
   · rw [if_pos e,if_pos e]
     exact ⟨fun t e=>by cases e; exact ⟨v,rfl,h1⟩,fun q=>by cases q⟩
   · rw [if_neg e,if_neg e]
     exact hX h2
section
variable {X:Cx} {Z:Zc} {e a b:Expr} {fa fb fc:FE} {pos:Pos}
def Pw:FP:=fun _ Q=>Q (.fr (.dk [] []))
theorem GU:VP X Z (.Dict [] [] pos) Pw:=.mk fun tm=>PE.weak Dd fun σ H Q ⟨ρ,O,q,I,hf,k⟩ p hp =>
 k _ hf _ _ (aS hp) (I.newD (ks:=[]) (ts:=[]) (vs:=[]) hp rfl aE.nil)
def Px (fa fb:FE):FP:=fun ρ Q=>fa ρ fun x=>fb ρ fun y=>match x,Av y with
 | .dk ks ts,some k=>∃ t,gn ks ts k=some t∧Q (.vw t)
 | _,_=>False
theorem Dg (hu:X.A.units+1 < cLine) (ha:VR X Z a fa) (hb:VR X Z b fb) (hs:LU b:=by intro _ _; rfl):VP X Z (.Subscript a b pos) (Px fa fb):=.mk fun tm=>PE.weak (GS hu (ha tm) (hb tm) hs) fun σ H Q ⟨ρ,O,q,I,hf,k⟩ =>
 ⟨ρ,O,_,I,hf,fun x hx v H1 s1 a1=>⟨ρ,O,_,I.same s1,hx,fun y hy w H2 s2 a2=>by
   split at hy
   · rename_i ks ts kk e
     obtain ⟨t,e1,hq⟩:=hy
     obtain ⟨l,vs,rfl,hl,hd,hv⟩:=(a1.same s2).dk
     obtain ⟨u,e2,e3⟩:=(hX hv).1 t e1
     rw [tO a2 e]
     exact ⟨l,u,rfl,by rw [← e2,← fK]; exact pj.k hd,k _ hq _ H2 (s1.trans s2) ⟨(I.same s1).same s2,e3⟩⟩
   · exact hy.elim⟩⟩
def Uw (fa fb:FE):FP:=fun ρ Q=>fa ρ fun x=>match x with
 | .dk ks ts=>fb ρ fun y=>match Av y with
   | some k=>Q (.vw ((gn ks ts k).getD .br))
   | none=>False
 | _=>False
theorem zl {K:PySem.W.Frag} {H:Hp} {A:List Addr} {ks:List Key} {ts:List T} {vs:List V} {k:Key} {z:T} {w:V} (h:aE K H A ts vs) (hz:At K H A z w):At K H A ((gn ks ts k).getD z) ((gn ks vs k).getD w):=by
 cases e:gn ks ts k with
 | none=>rw [(hX h).2 e]; exact hz
 | some t=>obtain ⟨v,e1,e2⟩:=(hX h).1 t e; rw [e1]; exact e2
theorem Dh {apos bc:Pos} (hu:X.A.units+1 < cLine) (ha:VR X Z a fa) (hb:VR X Z b fb) (m:M1 X a "get" apos b bc):VP X Z (.Call (.Attribute a "get" apos) [b] [] bc) (Uw fa fb):=.mk fun tm=>PE.weak (De hu (ha tm) (hb tm) m) fun σ H Q ⟨ρ,O,q,I,hf,k⟩ =>
 ⟨ρ,O,_,I,hf,fun x hx v H1 s1 a1=>by
   split at hx
   · rename_i ks ts
     obtain ⟨l,vs,rfl,hl,hd,hv⟩:=a1.dk
     refine ⟨l,rfl,.inl ⟨_,.inl hd⟩,ρ,O,_,I.same s1,hx,fun y hy w H2 s2 a2=>?_⟩
     split at hy
     · rename_i kk e
       rw [tO a2 e]
       refine ⟨_,pj.k (s2 _ _ hd),?_⟩
       rw [fK]
       exact k _ hy _ H2 (s1.trans s2) ⟨(I.same s1).same s2,zl (hv.same s2) l8⟩
     · exact hy.elim
   · exact hx.elim⟩
end
def Jb (w:World) (K:PySem.W.Frag) (e:DictEntry) (p:Str×T):Prop:=e.hash=PyData.keyHash w.params p.1∧(∃ t,e.key = .str p.1 t)∧∃ v,RelV v e.val∧∀ H A,At K H A p.2 v
def zm (w:World) (K:PySem.W.Frag) (a:Addr) (l:List (Str×T)):Prop:=∃ es ep,K.lookup a=some ⟨.type "dict",none,.dict es ep,#[]⟩∧(a == sysModules)=false∧Paired (Jb w K) es.toList l∧(l.map (·.1)).Nodup
theorem ents {P:Program} {w:World} {K:PySem.W.Frag}:∀ {es:List DictEntry} {l:List (Str×T)},Paired (Jb w K) es l →
  ∃ (vs:List V) (us:List (Key×Value)),(∀ H A,aE K H A (l.map (·.2)) vs)∧KV ((l.map fun p=>(Sum.inr p.1:Key)).zip vs) us∧PySem.Pairs (bC P w) es us∧us.map (·.1)=l.map (fun p=>(Sum.inr p.1:Key))∧∀ e∈es,∃ k,(bC P w).is k e.key=true∧e.hash=(bC P w).hash k
 | _,_,.nil=>⟨[],[],fun _ _=>aE.nil,.nil,.nil,rfl,fun _ h=>nomatch h⟩
 | _,_,.cons (a:=e) (b:=p) r t=>by
   obtain ⟨vs,us,h1,h2,h3,h4,h5⟩:=ents (P:=P) t
   obtain ⟨r1,⟨tk,r2⟩,v,r3,r4⟩:=r
   have hk:(bC P w).is (Sum.inr p.1) e.key=true:=by
    rw [r2]
    show Value.isStrOf p.1 (.str p.1 tk)=true
    simp [Value.isStrOf]
   refine ⟨v :: vs,(Sum.inr p.1,e.val) :: us,fun H A=>aE.cons (r4 H A) (h1 H A),.cons ⟨rfl,r3⟩ h2,.cons hk rfl h3,by rw [jY,jY,h4],fun e' he=>?_⟩
   rcases cL.mp he with q | q
   · subst q
     exact ⟨Sum.inr p.1,hk,r1⟩
   · exact h5 e' q
theorem zm.of {X:Cx} {pins:List (Addr×Obj)} {σ:St} {H:Hp} {s:Shared} {a:Addr} {l:List (Str×T)} (I:Inv X pins σ H s) (d:zm X.w X.K a l) :
  ∃ (vs:List V) (us:List (Key×Value)),(∀ H A,aE X.K H A (l.map (·.2)) vs)∧KV ((l.map fun p=>(Sum.inr p.1:Key)).zip vs) us∧s.heap.DictOf (bC X.prog X.w) a us∧(a == sysModules)=false:=by
 obtain ⟨es,ep,lk,hs,hp,nd⟩:=d
 obtain ⟨vs,us,h1,h2,h3,h4,h5⟩:=ents (P:=X.prog) hp
 refine ⟨vs,us,h1,h2,⟨_,es,ep,I.jZ a _ lk,⟨rfl,rfl,rfl⟩,rfl,fun e he=>h5 e (by simpa using he),h3,?_⟩,hs⟩
 rw [h4]
 have e:(l.map fun p=>(Sum.inr p.1:Key))=(l.map (·.1)).map Sum.inr:=by rw [List.map_map]; rfl
 rw [e]
 exact List.Pairwise.map _ (fun a b h z=>h (Sum.inr.inj z)) nd
section
variable {X:Cx} {Z:Zc} {e c:Expr} {fe fc:FE} {x:Str} {p apos bc:Pos} {a:Addr} {l:List (Str×T)}
def GW (l:List (Str×T)) (k:Str):Option T:=gn (l.map fun p=>(Sum.inr p.1:Key)) (l.map (·.2)) (Sum.inr k)
def onStr (t:T) (f:Str→Prop):Prop:=match t with
 | .str k=>f k
 | _=>False
theorem Di {t:T} {f:Str→Prop} (h:onStr t f):∃ k,t = .str k∧f k:=by
 unfold onStr at h
 split at h
 · exact ⟨_,rfl,h⟩
 · exact h.elim
def Ux (l:List (Str×T)) (fe:FE):FP:=fun ρ Q=>fe ρ fun y=>onStr y fun k=>Q (.vw ((GW l k).getD .br))
theorem Dj (hg:Gl X x) (hm:X.mg x=some (.ref a)) (d:zm X.w X.K a l) (he:VR X Z e fe) (m:M1 X (.Name x p) "get" apos e bc) (hd:gh x:=by decide) :
  VP X Z (.Call (.Attribute (.Name x p) "get" apos) [e] [] bc) (Ux l fe):=.mk fun tm pins s σ H Q I ⟨ρ,O,q,E,hf,k⟩=>by
 refine wpAny_Call_method m.base m.Uv m.line Sf NJ PySem.F.type_dict_get (bV (nX hg hm (v:=.ref a) rfl hd pins s σ H (fun v H'=>v = .ref a∧H'=H) I ⟨rfl,rfl⟩) fun u s1 ⟨x',H1,I1,rx,ex,eH⟩=>?_)
 subst ex eH
 obtain rfl:u=Value.ref a:=rx
 obtain ⟨vs,us,h1,h2,dd,hs⟩:=d.of I1
 refine ⟨dd.typeIs,fun b q=>?_,?_⟩
 · cases q
   obtain ⟨ob,_,_,z1,z2,_⟩:=dd
   exact ⟨ob,z1,z2.2.1⟩
 rw [m.trees]
 refine Q6 rfl (Calls.evalArgs_plain (Calls.spliced_cons (bV (he tm pins s1 σ H1 (fun y H2=>∃ t,gT X.K H2 (av Z O) t y∧aJ H1 H2∧onStr t fun k=>q (.vw ((GW l k).getD .br))) I1 ⟨ρ,O,_,E,hf,fun t ht v H' s a1=>⟨t,a1,s,ht⟩⟩) fun iv s2 ⟨y,H2,I2,ry,t,a1,sa,q3⟩=>Calls.spliced_nil ?_)))
 obtain ⟨kk,et,q3⟩:=Di q3
 subst et
 obtain ⟨kH,RJ,TZ,Lx,GX,RC⟩:=d.of I2
 have ey:=a1.str
 subst ey
 refine call_meetsIn NJ GX.typeIs Sh (Se _ _) (meets_dict_get (bC X.prog X.w) a (vo (k:=Sum.inr kk) ry) RC) ⟨_,GX.mapOf,⟨_,H2,I2.tok _,(Lx.val (Sum.inr kk)).getD (d:=.br) rfl,?_⟩⟩
 rw [fK]
 exact k _ q3 _ H2 sa ⟨E.same sa,zl (TZ H2 (av Z O)) l8⟩
end
end VT
namespace Gen
open PySem L2 VT
open wC (bw)
theorem small {n:Nat} (h:n≤1000):n≤sizeLine:=Nat.le_of_lt (Af h)
def gA (n:Int):Nat:=bw.cps.toList.getD (n % 26).toNat 0
theorem vv:bw.cps.toList.length=26:=by decide +kernel
theorem tQ:bw.length=26:=by decide +kernel
theorem gp:bw.length≤sizeLine:=by rw [tQ,sizeLine_eq]; decide
theorem rS (n:Int):lQ bw.cps.toList (n % 26)=some (gA n):=by
 have h0:0≤n % 26:=lN n (by decide)
 have h1:n % 26 < 26:=nA n (by decide)
 unfold gA
 obtain ⟨j,hj⟩:=EU h0
 rw [hj]
 have gj:j < bw.cps.toList.length:=by rw [vv]; omega
 refine aB ?_
 rw [B0,List.getD,lK gj]
 rfl
def qV (c:Int):Int:=c % 1000000000000
def jV (c:Int):Nat:=(1+qV c % 7).toNat
def Aw (c:Int):Nat:=(qV c / 7 % (jV c:Int)).toNat
def tS (c:Int) (k j:Nat):Int:=qV c / 49 / ((j:Int)+1)+(j:Int) * (j:Int)+(if j=Aw c then (k:Int) else 0)
def bR (c:Int) (k n:Nat):Str:=⟨((List.range n).map fun j=>gA (tS c k j)).toArray⟩
def cT (c:Int) (m:Nat):List Str :=
 if qV c / 49 % 3=1 then ((List.range m).map fun k=>bR c k (jV c)).set 1 (bR c 0 (jV c) ++ ⟨#[gA (qV c / 147)]⟩) else (List.range m).map fun k=>bR c k (jV c)
theorem Jc (c:Int):((jV c:Nat):Int)=1+qV c % 7:=by
 unfold jV
 have:0≤qV c % 7:=lN _ (by decide)
 omega
theorem pk (c:Int):1≤jV c∧jV c≤7:=by
 have:=Jc c
 have h0:0≤qV c % 7:=lN _ (by decide)
 have h1:qV c % 7 < 7:=nA _ (by decide)
 omega
theorem Jd (c:Int):((Aw c:Nat):Int)=qV c / 7 % (jV c:Int):=by
 unfold Aw
 have h:=pk c
 have:0≤qV c / 7 % (jV c:Int):=lN _ (by omega)
 omega
theorem Py (c:Int):Aw c < jV c:=by
 have h:=pk c
 have h1:=Jd c
 have:qV c / 7 % (jV c:Int) < jV c:=nA _ (by omega)
 omega
theorem xD (c:Int) (k n:Nat):bR c k (n+1)=bR c k n ++ ⟨#[gA (tS c k n)]⟩:=by
 unfold bR
 rw [List.range_succ,yL]
 show _=Str.mk (_ ++ _)
 congr 1
 simp
theorem fm (c:Int) (k n:Nat):(bR c k n).length=n:=by
 unfold bR Str.length
 simp
theorem xE (c:Int) (m:Nat):(cT c m).length=m:=by
 unfold cT
 split <;> simp
theorem Pz:(10:Int) ^ (12:Int).toNat=1000000000000:=by decide +kernel
inductive pq where
 | nm (x:Str)
 | nu (i:Int)
inductive Ky where
 | fld (x:Str)
 | op (o:pq)
inductive Rw where
 | df (f:Str) (ps:List Str)
 | give (a:pq)
 | put (x:Str) (a:pq)
 | Dk (x:Str) (a:pq) (op:Str) (b:pq)
 | new (x:Str)
 | get (x r:Str) (k:Ky)
 | set (r:Str) (k:Ky) (a:pq)
 | call (x f:Str) (as:List pq)
 | fail (w:Str)
 | LZ (a:pq)
 | RK
 | Ax (a:pq)
 | fin
 | skip
def qW:pq→T
 | .nm x=>.str x
 | .nu i=>.int i
def L0:Ky→T
 | .fld x=>.str ((("." : String):Str) ++ x)
 | .op o=>qW o
def aV:Rw→T
 | .df f ps=>.tup [.str "def",.str f,.tup (ps.map .str)]
 | .give a=>.tup [.str "give",qW a]
 | .put x a=>.tup [.str "put",.str x,qW a]
 | .Dk x a op b=>.tup [.str "do",.str x,qW a,.str op,qW b]
 | .new x=>.tup [.str "new",.str x]
 | .get x r k=>.tup [.str "get",.str x,.str r,L0 k]
 | .set r k a=>.tup [.str "set",.str r,L0 k,qW a]
 | .call x f as=>.tup [.str "call",.str x,.str f,.tup (as.map qW)]
 | .fail w=>.tup [.str "fail",.str w]
 | .LZ a=>.tup [.str "if",qW a]
 | .RK=>.tup [.str "else"]
 | .Ax a=>.tup [.str "while",qW a]
 | .fin=>.tup [.str "end"]
 | .skip=>.tup [.str "skip"]
def cQ (ys:List Str):pq→Prop
 | .nm x=>x∈ys
 | .nu i=>-1000000000000000000000000000000≤i∧i < 1000000000000000000000000000000
def Ay (ys:List Str):Ky→Prop
 | .fld x=>x∈ys
 | .op o=>cQ ys o
abbrev Plan:=List (Str×List Str)
def reckon:List Str:=["plus","minus","times","over","rest","less","same"]
def gB (ys:List Str) (later:Plan):Rw→Prop
 | .put x a=>x∈ys∧cQ ys a
 | .Dk x a op b=>x∈ys∧cQ ys a∧op∈reckon∧cQ ys b
 | .new x=>x∈ys
 | .get x r k=>x∈ys∧r∈ys∧Ay ys k
 | .set r k a=>r∈ys∧Ay ys k∧cQ ys a
 | .call x f as=>x∈ys∧(∃ ps,(f,ps)∈later∧as.length=ps.length)∧∀ a∈as,cQ ys a
 | .fail w=>w∈ys
 | .skip=>True
 | _=>False
def bo (p:Str×List Str):T:=.tup [.str p.1,.tup (p.2.map .str)]
theorem k9 {ys:List Str} (hl:ys.length=6) {n:Int} {m:Nat} (hm:0 < m) (ZZ:m≤6):∃ y∈ys,lQ (ys.map T.str) (n % (m:Int))=some (T.str y):=by
 have h0:0≤n % (m:Int):=lN n (by omega)
 have h1:n % (m:Int) < m:=nA n (by omega)
 obtain ⟨j,hj⟩:=EU h0
 have gj:j < ys.length:=by omega
 refine ⟨ys[j],B1 gj,?_⟩
 rw [hj]
 refine aB ?_
 rw [nV,lK gj]
 rfl
theorem PB:(10:Int) ^ (30:Int).toNat=1000000000000000000000000000000:=by decide +kernel
theorem PC:(10:Int) ^ (9:Int).toNat=1000000000:=by decide +kernel
theorem PD:(10:Int) ^ (6:Int).toNat=1000000:=by decide +kernel
theorem Uy:((("." : String):Str)).length=1:=by decide +kernel
theorem PF (i:Int):∃ op∈reckon,lQ [T.str "plus",T.str "minus",T.str "times",T.str "over",T.str "rest",T.str "less",T.str "same"] (i % 7)=some (T.str op):=by
 have h0:0≤i % 7:=lN i (by decide)
 have h1:i % 7 < 7:=nA i (by decide)
 obtain ⟨j,hj⟩:=EU h0
 rw [hj] at h1 ⊢
 have:j=0∨j=1∨j=2∨j=3∨j=4∨j=5∨j=6:=by omega
 rcases this with rfl | rfl | rfl | rfl | rfl | rfl | rfl
 · exact ⟨"plus",by simp [reckon],aB rfl⟩
 · exact ⟨"minus",by simp [reckon],aB rfl⟩
 · exact ⟨"times",by simp [reckon],aB rfl⟩
 · exact ⟨"over",by simp [reckon],aB rfl⟩
 · exact ⟨"rest",by simp [reckon],aB rfl⟩
 · exact ⟨"less",by simp [reckon],aB rfl⟩
 · exact ⟨"same",by simp [reckon],aB rfl⟩
theorem L1 {ys:List Str} (hl:ys.length=6) (n:Int):∃ y∈ys,lQ (ys.map T.str) (4+n % 2)=some (T.str y):=by
 have h0:0≤n % 2:=lN n (by decide)
 have h1:n % 2 < 2:=nA n (by decide)
 obtain ⟨j,hj⟩:=EU h0
 have gj:4+j < ys.length:=by omega
 refine ⟨ys[4+j],B1 gj,?_⟩
 rw [hj]
 have e:(4:Int)+(j:Int)=((4+j:Nat):Int):=by omega
 rw [e]
 refine aB ?_
 rw [nV,lK gj]
 rfl
def ml (ys:List Str) (pl:Plan) (bH:List Str) (new:List Rw) (dn:List Str):Prop :=
 (∃ o,cQ ys o∧new=[.LZ o]∧dn=bH ++ ([("if" : Str)]:List Str))∨(∃ o,cQ ys o∧new=[.Ax o]∧dn=bH ++ ([("while" : Str)]:List Str)) ∨
 (∃ y,y∈ys∧new=[.Ax (.nm y),.Dk y (.nm y) "minus" (.nu 1)]∧dn=bH ++ ([("while" : Str)]:List Str))∨(∃ s0,bH=s0 ++ ([("if" : Str)]:List Str)∧new=[.RK]∧dn=s0 ++ ([("else" : Str)]:List Str)) ∨
 (∃ s0 x,bH=s0 ++ [x]∧new=[.fin]∧dn=s0)∨(∃ r,gB ys pl r∧new=[r]∧dn=bH)
theorem GY {ys:List Str} {pl:Plan} {bH new dn} (h:ml ys pl bH new dn):new.length+dn.length≤bH.length+3:=by
 rcases h with ⟨o,_,rfl,rfl⟩ | ⟨o,_,rfl,rfl⟩ | ⟨y,_,rfl,rfl⟩ | ⟨s0,rfl,rfl,rfl⟩ | ⟨s0,x,rfl,rfl,rfl⟩ | ⟨r,_,rfl,rfl⟩ <;> simp <;> omega
def mn (ys:List Str) (pl:Plan):Prop:=∀ (k:Nat) f ps,pl[k]?=some (f,ps)→ys[k]?=some f∧∃ (a:Int) (r:Nat),r≤2∧ps=(List.range r).map fun j=>ys.getD ((a+((j:Nat):Int)) % 4).toNat Str.empty
theorem Dl {ys:List Str} (hl:ys.length=6) (n:Int):lQ (ys.map T.str) (n % 4)=some (T.str (ys.getD (n % 4).toNat Str.empty)):=by
 have h0:0≤n % 4:=lN n (by decide)
 have h1:n % 4 < 4:=nA n (by decide)
 obtain ⟨j,hj⟩:=EU h0
 have gj:j < ys.length:=by omega
 rw [hj]
 refine aB ?_
 rw [nV,B0,List.getD,lK gj]
 rfl
inductive Body (ys:List Str) (later:Plan):List Str→List Rw→Prop
 | nil:Body ys later [] []
 | step {bH dn:List Str} {body new:List Rw}:Body ys later bH body→ml ys later bH new dn→Body ys later dn (body ++ new)
inductive Pre (ys:List Str) (pl:Plan):Nat→List Rw→Prop
 | zero:Pre ys pl 0 []
 | succ {k:Nat} {rs:List Rw} {f:Str} {ps:List Str} {bH:List Str} {body:List Rw} {o:pq} {sk:List Rw}:Pre ys pl k rs→pl[k]?=some (f,ps)→Body ys (pl.drop (k+1)) bH body→cQ ys o→(sk=[]∨sk=[.skip]) →
    Pre ys pl (k+1) (rs ++ (.df f ps :: (body ++ (List.replicate bH.length .fin ++ (.give o :: sk)))))
theorem hY {α:Type} {f:α→T} (h:∀ x,plainT (f x)=true):∀ l:List α,bG (l.map f)=true
 | []=>by simp [bG]
 | x :: l=>by simp only [jY,bG,h x,hY h l,Bool.and_self]
theorem fL {α:Type} {f:α→T} {n:Nat} (h:∀ x,dep (f x)≤n):∀ l:List α,i0 (l.map f)≤n
 | []=>by simp [i0]
 | x :: l=>by have:=h x; have:=fL h l; simp only [jY,i0]; omega
theorem xF (p:Str×List Str):plainT (bo p)=true:=by simp [bo,plainT,bG,hY (f:=T.str) (fun _=>by simp [plainT])]
theorem vz (pl:Plan):plainT (.lst (pl.map bo))=true:=by simp only [plainT]; exact hY xF pl
theorem Dm (p:Str×List Str):dep (bo p)≤2:=by
 have:=fL (f:=T.str) (n:=0) (fun _=>by simp [dep]) p.2
 simp only [bo,dep,i0]; omega
theorem Az (pl:Plan):dep (.lst (pl.map bo))≤100:=by have:=fL (f:=bo) (n:=2) Dm pl; simp only [dep]; omega
theorem tT (o:pq):dep (qW o)=0:=by cases o <;> simp [qW,dep]
theorem GZ (o:Ky):dep (L0 o)=0:=by cases o with | fld x=>simp [L0,dep] | op o=>exact tT o
theorem Dn (r:Rw):dep (aV r)≤2:=by
 have h1:=fun l:List Str=>fL (f:=T.str) (n:=0) (fun _=>by simp [dep]) l
 have h2:=fun l:List pq=>fL (f:=qW) (n:=0) (fun o=>by simp [tT]) l
 cases r <;> simp [aV,dep,i0,tT,GZ] <;> first | (rename_i x; have:=h1 x; omega) | (rename_i x; have:=h2 x; omega) | skip
end Gen
namespace cN
open PySem L2 VT Gen wC
def top (i:Nat):Stmt:=PySem.Challenge.pw_slicewise_k06_rows_refused.main.body.getD i (.Pass ⟨0,0,0,0⟩)
abbrev gb:Stmt:=top 17
abbrev jH:Stmt:=top 18
abbrev h_:Stmt:=top 19
abbrev kq:Stmt:=top 20
abbrev pA:Stmt:=top 21
structure RL (mg:Str→Option Value):Prop where
 H:∃ t,mg "H" = some (.int 1000000000000000000000000000000 t)
 G0:∃ t,mg "LETTERS" = some (.str bw t)
 tU:∃ t,mg "LONGEST_NAME" = some (.int 8 t)
 isinstance:mg "isinstance" = none
 int:mg "int" = none
 bool:mg "bool" = none
 str:mg "str" = none
 len:mg "len" = none
 all:mg "all" = none
theorem kr {n:Nat} (h:n≤1000):n≤sizeLine:=small h
def k_:T→Bool
 | .lst _=>false
 | .dk _ _=>false
 | .dt _ _=>false
 | .df _ _ _=>false
 | .dz _ _ _=>false
 | .kt _=>false
 | .ins _ _ _=>false
 | .pin _ _=>false
 | .ob _=>false
 | .ty _=>false
 | _=>true
def AA:T→Bool
 | .int i=>decide (-1000000000000000000000000000000≤i) && decide (i < 1000000000000000000000000000000)
 | _=>false
def cq:T→Bool
 | .str x=>bF x
 | _=>false
def PH (ts:List T) (q:Rt→Prop):Prop:=∃ t,ts=[t]∧k_ t=true∧q (.vw (.bl (AA t)))
def iB (ts:List T) (q:Rt→Prop):Prop:=∃ t,ts=[t]∧k_ t=true∧(∀ x,t = .str x→x.length≤1000)∧q (.vw (.bl (cq t)))
def Dp (r:Rt) (A:Prop) (B:Prop):Prop:=match r with
 | .vw (.bl true)=>A
 | .vw (.bl false)=>B
 | _=>False
theorem Dq {c d:Bool} {q:Rt→Prop} (h:q (.vw (.bl (c && d)))):Dp (.vw (.bl c)) (q (.vw (.bl d))) (q (.vw (.bl false))):=by
 cases c with
 | _=>exact h
theorem vA {c:Bool} {A B:Prop} (h1:c=true→A) (h2:c=false→B):Dp (.vw (.bl c)) A B:=by
 cases c with
 | true=>exact h1 rfl
 | false=>exact h2 rfl
theorem zo:∀ l:List Nat,cb (l.map ((fun t:T=>match t with | .str y=>.bl (CP y bw) | _=>.br) ∘ fun c=>T.str ⟨#[c]⟩))=some (l.map xb)
 | []=>rfl
 | c :: l=>by
   rw [jY,jY]
   show (cb _).map _=_
   rw [zo l]
   rfl
section
variable {P:Program} {w:World} {K:PySem.W.Frag} {mg:Str→Option Value} {base:Heap}
abbrev ng:List Str:=["thing"]
theorem la:aG ng ["thing"] (aj gb):=L2.g7
theorem AB {f:Addr} {fd:FuncData} (D:Df K mg "is_number" gb ["thing"] f fd) (M:RL mg):cm P w K mg base "is_number" ["thing"] 1 (b_ K 1 PH):=by
 refine D.ko (lU D.F la rfl fun bE A outer s H E Ox hr ts q hG=>?_)
 have nd:=la.nd
 obtain ⟨tH,mH⟩:=M.H
 have Wx:∀ {pos},VP (d0 iW P w K mg base ng "is_number" (aj gb) f bE A outer s H E).nY ⟨H,[],Ox⟩ (.Name "H" pos) (fC (.int 1000000000000000000000000000000)):=eO (by rfl) mH (v:=.int 1000000000000000000000000000000) ⟨tH,rfl⟩ fun _ _=>bq
 refine ⟨_,(ah (aH (VP.vx (sV (e_ vg (by rfl) M.isinstance (by rfl) M.int CU (ae 0)) (sV (K1 (e_ rM (by rfl) M.isinstance (by rfl) M.bool CV (ae 0))) (sU (CQ yQ Iu (VP.vr (kj (VP.vr Wx))) (ae 0) (VP.vr Wx)))))))),fun _=>?_⟩
 obtain ⟨t,rfl,ht,hq⟩:=hG
 cases t with
 | br=>exact ⟨rfl,hq⟩
 | bl b=>exact ⟨rfl,rfl,hq⟩
 | str x=>exact ⟨rfl,hq⟩
 | tup l=>exact ⟨rfl,hq⟩
 | int i =>
   refine ⟨rfl,rfl,?_⟩
   have gq:q (.vw (.bl (decide (-1000000000000000000000000000000≤i) && decide (i < 1000000000000000000000000000000)))):=hq
   exact Dq (c:=decide (-1000000000000000000000000000000≤i)) gq
 | _=>cases ht
abbrev mq:List Str:=["thing"]
theorem pB:aG mq ["thing"] (aj jH):=L2.g7
theorem qX:(mq ++ (["sign"]:List Str)).Nodup:=by decide +kernel
theorem G1 {f:Addr} {fd:FuncData} (D:Df K mg "is_name" jH ["thing"] f fd) (M:RL mg):cm P w K mg base "is_name" ["thing"] 1 (b_ K 1 iB):=by
 refine D.ko (lU D.F pB rfl fun bE A outer s H E Ox hr ts q hG=>?_)
 have nd:=pB.nd
 have np:∀ {i:Nat},aY ⟨H,[],Ox⟩ i:=kJ
 obtain ⟨tL,mL⟩:=M.G0
 obtain ⟨tN,mN⟩:=M.tU
 have pC:∀ {pos},VP (d0 iW P w K mg base mq "is_name" (aj jH) f bE A outer s H E).nY ⟨H,[],Ox⟩ (.Name "LONGEST_NAME" pos) (fC (.int 8)):=eO (by rfl) mN (v:=.int 8) ⟨tN,rfl⟩ fun _ _=>bq
 refine ⟨_,(af (aP (VW.vc (iZ (dm (dj (e_ o6 (by rfl) M.isinstance (by rfl) M.str CW (ae 0)))) (gk (dm (CS yQ yQ (VP.vr ag) (VP.vr (ay az aA (by rfl) M.len iA (ao (ae 0) au))) (VP.vr pC))))))
    (ah (aH (VP.vx j4)))
    ax)
   (ah (aH (VP.vx (ay (dD rfl) jG (by rfl) M.all zh (ao (VP.vr (oa (ts:=["sign"]) rfl (by rfl) (oP (ak 0)) (fun _ _ _ _ _ _=>(bb (i:=1) qX rfl (Or.inl rfl) np)) (fun _ _ _ _ _ _=>kX) (fun _ _ _ _ _ _=>(VP.ve (IT (ae 1) (VP.vr (eO (by rfl) mL (v:=.str bw) ⟨tL,rfl⟩ fun _ _=>cc))))))) au)))))),fun _=>?_⟩
 obtain ⟨t,rfl,ht,hx,hq⟩:=hG
 cases t with
 | br=>exact ⟨rfl,hq⟩
 | bl b=>exact ⟨rfl,hq⟩
 | int x=>exact ⟨rfl,hq⟩
 | tup l=>exact ⟨rfl,hq⟩
 | str x =>
   have hl:=hx x rfl
   have gq:q (.vw (.bl (decide (1≤(x.length:Int)) && (decide ((x.length:Int)≤8) && x.cps.toList.all xb)))):=hq
   refine ⟨rfl,kr hl,vA (c:=decide (1≤(x.length:Int))) (fun h1=>?_) (fun h1=>?_)⟩
   · rw [h1,zV] at gq
     refine Cr (fun h2=>?_) (fun h2=>?_)
     · have Lx:(!decide ((x.length:Int)≤8))=true:=h2
       have h3:decide ((x.length:Int)≤8)=false:=by simpa using Lx
       rw [h3,Il] at gq
       exact gq
     · have Lx:¬ (!decide ((x.length:Int)≤8))=true:=h2
       have h3:decide ((x.length:Int)≤8)=true:=by simpa using Lx
       rw [h3,zV] at gq
       refine ⟨rfl,by rw [cu,Fi]; exact kr hl,jF (fun _=>true) (fun t=>match t with | .str y=>.bl (CP y bw) | _=>.br) (fun t ht k r h=>?_) ?_⟩
       · obtain ⟨c,_,rfl⟩:=wJ.mp ht
         exact ⟨_,rfl,h⟩
       · rw [Q_.mpr (fun _ _=>rfl),List.map_map]
         refine ⟨x.cps.toList.map xb,zo x.cps.toList,?_⟩
         rw [List.all_map]
         exact gq
   · rw [h1,Il] at gq
     exact gq
 | _=>cases ht
end
def fM (t:T):Bool:=cq t || AA t
def Dr (ts:List T) (q:Rt→Prop):Prop:=∃ t,ts=[t]∧k_ t=true∧(∀ x,t = .str x→x.length≤1000)∧q (.vw (.bl (fM t)))
section
variable {P:Program} {w:World} {K:PySem.W.Frag} {mg:Str→Option Value} {base:Heap}
abbrev tV:List Str:=["thing"]
theorem j7:aG tV ["thing"] (aj h_):=L2.g7
theorem ku {f:Addr} {fd:FuncData} (D:Df K mg "is_operand" h_ ["thing"] f fd) (c1:cm P w K mg base "is_name" ["thing"] 1 (b_ K 1 iB)) (c2:cm P w K mg base "is_number" ["thing"] 1 (b_ K 1 PH)):cm P w K mg base "is_operand" ["thing"] 2 (b_ K 1 Dr):=by
 obtain ⟨mw,kx,eD,eE,eF,eG⟩:=c1
 obtain ⟨Je,G2,vB,vC,vD,vE⟩:=c2
 refine D.ko (lU D.F j7 rfl fun bE A outer s H E Ox hr ts q hG=>?_)
 have nd:=j7.nd
 refine ⟨_,(ah (aH (VP.vx (IB (aM eG (hr.mono (by decide)) (by rfl) eD eE eF (aa (ak 0) ai)) (sU (aM vE (hr.mono (by decide)) (by rfl) vB vC vD (aa (ak 0) ai))))))),fun _=>?_⟩
 obtain ⟨t,rfl,ht,hx,hq⟩:=hG
 unfold fM at hq
 refine ⟨rfl,t,rfl,ht,hx,vA (c:=cq t) (fun h=>?_) (fun h=>⟨rfl,t,rfl,ht,?_⟩)⟩
 · rw [h,Bool.true_or] at hq; exact hq
 · rw [h,Bool.false_or] at hq; exact hq
end
end cN
namespace VT
open PySem PySem.Spec PyProof.Rows L2
section
variable {X:Cx} {Z:Zc} {a b:Expr} {fa fb:FE} {pos:Pos}
end
end VT
namespace RV
open PySem PySem.Spec PyProof.Rows
def vF (h:Heap) (it l:Addr) (i:Int):Prop:=∃ o,h.get? it=some o∧o.cls = .type "list_reverseiterator"∧o.data = .fields #[.ref l,.int i 0]
section
variable {prog:Program} {w:World} {A:Around} {E:Value→Shared→Prop} {s:Shared}
theorem vF.typeIs {it l:Addr} {i:Int} (h:vF s.heap it l i):s.TypeIs (.ref it) "list_reverseiterator":=let ⟨o,ho,hc,_⟩:=h; ⟨o,ho,hc⟩
end
theorem vF.at {h h':Heap} {it l:Addr} {i:Int} (x:vF h it l i) (k:∀ o,h.get? it=some o→h'.get? it=some o):vF h' it l i:=let ⟨o,ho,r⟩:=x; ⟨o,k o ho,r⟩
section
variable {prog:Program} {w:World} {A:Around} {s:Shared} {R:Result→Shared→Prop}
variable {I:Addr} {fp wr:List Addr} {G:Array GenState→Array GenState→Prop} {n:Nat} {P:Nat→Value→Prop} {St:Nat→Shared→Prop}
def Ends (prog:Program) (w:World) (A:Around) (I:Addr) (wr:List Addr) (G:Array GenState→Array GenState→Prop) (n:Nat) (St:Nat→Shared→Prop):Prop :=
 ∀ (s:Shared) (Q:Option Value→Shared→Prop) (E:Value→Shared→Prop),St n s→(∀ s',Moved wr G s s'→(∃ o,s'.heap.get? I=some o)→Q none s')→wpAny (model prog w) A (pyNext (.ref I)) Q E s
end
section
variable {prog:Program} {w:World} {A:Around} {E:Value→Shared→Prop} {s:Shared}
variable {I:Addr} {fp wr:List Addr} {G:Array GenState→Array GenState→Prop} {n:Nat} {P:Nat→Value→Prop} {St:Nat→Shared→Prop}
end
section
variable {prog:Program} {w:World} {A:Around} {E:Value→Shared→Prop} {s:Shared}
end
end RV
namespace VT
open PySem PySem.Spec PyProof.Rows L2
section
variable {X:Cx}
end
section
variable {X:Cx} {Z:Zc} {a:Expr} {fa:FE} {p1 p2 GN Aq:Pos}
end
theorem zp {n:Nat} (h:n+101 < cLine):n+1 < cLine:=by omega
section
variable {X:Cx} {Z:Zc} {ek ev:Expr} {fk fv:FE} {pos:Pos}
end
section
variable {X:Cx}
end
section
variable {K:PySem.W.Frag} {H:Hp} {A:List Addr}
theorem rT:∀ {ys:List Str} {vs:List V},aE K H A (ys.map T.str) vs→vs=ys.map V.str
 | [],vs,h=>by simpa only [JH,aE] using h
 | y :: ys,vs,h=>by
   simp only [jY,aE] at h
   obtain ⟨v,r,rfl,h1,h2⟩:=h
   simp only [At] at h1
   rw [h1,rT h2]
   rfl
end
section
variable {X:Cx}
theorem AD (hu:X.A.units+101 < cLine):fq X (compareOp .In) (fun x y H Q=>∃ (p q:Addr) (xs:List V) (ys:List Str),x = .ref p∧y = .ref q∧d9 X.K H p xs∧d9 X.K H q (ys.map V.str)∧Q (.bl false) H):=by
 intro pins s σ H x y v u Q I rx ry h
 obtain ⟨p,q,xs,ys,rfl,rfl,h1,h2,hq⟩:=h
 cases rx
 cases ry
 obtain ⟨aK,r,pl,hz⟩:=I.tuple h1
 obtain ⟨e7,r2,Yf,Z0⟩:=I.tuple h2
 have jT:∀ w∈e7.toArray,SeqAt.EqAt X.A.in1 s w (.ref p) false:=by
  intro w hw
  have Yg:w∈e7:=by simpa using hw
  obtain ⟨i,hi⟩:=NH.mp Yg
  have hl:=r2.length
  rw [cu] at hl
  have Yh:i < ys.length:=by have:=(fY.mp hi).1; omega
  obtain ⟨u,cM,ru⟩:=r2.get (show (ys.map V.str)[i]?=some (.str ys[i]) by rw [nV,lK Yh]; rfl)
  rw [hi] at cM
  cases cM
  obtain ⟨t,rfl⟩:=ru
  exact SeqAt.EqAt.str_tuple _ _ pl (by rw [in1_units]; omega)
 refine SeqAt.in_tupleAt (fun _=>false) Yf jT ⟨.bl false,H,I,?_,hq⟩
 show Value.bool _=Value.bool false
 congr 1
 exact Array.any_eq_false.mpr (by simp)
def L3 (x y:T) (q:Rt→Prop):Prop:=match x,y with
 | .tup _,.tup us=>∃ ys:List Str,us=ys.map .str∧q (.vw (.bl false))
 | _,_=>False
theorem G3 {K:PySem.W.Frag}:qy K (fun x y H Q=>∃ (p q:Addr) (xs:List V) (ys:List Str),x = .ref p∧y = .ref q∧d9 K H p xs∧d9 K H q (ys.map V.str)∧Q (.bl false) H) L3:=by
 intro Z tm O ρ σ H x y v w q Q I h1 h2 h k
 unfold L3 at h
 split at h
 · obtain ⟨ys,rfl,h⟩:=h
   obtain ⟨a,vs,rfl,s1,_⟩:=h1.tup
   obtain ⟨b,ws,rfl,s2,a2⟩:=h2.tup
   have e:ws=ys.map V.str:=rT a2
   rw [e] at s2
   exact ⟨a,b,vs,ys,rfl,rfl,s1,s2,k _ h _ H (aJ.refl H) ⟨I,du⟩⟩
 · exact h.elim
def L4 (x y:T) (q:Rt→Prop):Prop:=match x with
 | .tup _=>L3 x y q
 | _=>Pb x y q
def PJ (K:PySem.W.Frag):R2:=fun x y H Q=>Ly K false x y H Q∨∃ (p q:Addr) (xs:List V) (ys:List Str),x = .ref p∧y = .ref q∧d9 K H p xs∧d9 K H q (ys.map V.str)∧Q (.bl false) H
theorem L5 (hu:X.A.units+101 < cLine):fq X (compareOp .In) (PJ X.K):=by
 intro pins s σ H x y v u Q I rx ry h
 rcases h with h | h
 · exact xn pins s σ H x y v u Q I rx ry h
 · exact AD hu pins s σ H x y v u Q I rx ry h
theorem G4 {K:PySem.W.Frag}:qy K (PJ K) L4:=by
 intro Z tm O ρ σ H x y v w q Q I h1 h2 h k
 unfold L4 at h
 split at h
 · exact Or.inr (G3 Z tm O ρ σ H _ y v w q Q I h1 h2 h k)
 · exact Or.inl (xo Z tm O ρ σ H x y v w q Q I h1 h2 h k)
end
section
variable {X:Cx} {Z:Zc} {a b e:Expr} {fa fb:FE} {pos:Pos}
theorem L6 (hu:X.A.units+101 < cLine) (ha:VR X Z a fa) (hb:VR X Z b fb) (hm:behindInMarks .In b=false:=by rfl):VP X Z (.Compare a [.In] [b] pos) (f2 fa fb L4):=oM (L5 hu) G4 ha hb hm
end
abbrev Yi:=En→(List (Key×T)→Prop)→Prop
section
variable {X:Cx} {Z:Zc} {ek ev:Expr} {fk fv:FE} {pos:Pos} {keys:List (Option Expr)} {values:List Expr} {f:Yi}
variable {e:Expr} {apos bc:Pos}
end
section
variable {X:Cx} {Z:Zc} {a b o e i:Expr} {fa fb fe fo fi:FE} {pos apos bc:Pos}
end
def andM (r:Rt) (A B:Prop):Prop:=match r with
 | .vw (.bl true)=>A
 | .vw (.bl false)=>B
 | _=>False
theorem zq {c:Bool} {A B:Prop} (h1:c=true→A) (h2:c=false→B):andM (.vw (.bl c)) A B:=by
 cases c with
 | true=>exact h1 rfl
 | false=>exact h2 rfl
section
variable {X:Cx} {Z:Zc} {k n:Nat} {x:Str} {p pos:Pos} {e:Expr} {es:List Expr} {g:FA}
abbrev GV:=List T→(Rt→Prop)→Prop
def Ds (i n:Nat) (g:FA) (Fn:Addr→GV→Prop):FP:=fun ρ Q=>match ρ[i]? with
 | some (some (.ob f,false))=>∃ G,Fn f G∧g ρ fun ts=>ts.length=n∧G ts Q
 | _=>False
theorem Dt (i:Nat) {Fn:Addr→GV→Prop} (C:∀ f G,Fn f G→PySem.W.keepIn X.K (.ref f)=true∧∃ fd ps,Binds X.K fd ps []∧cS X.prog X.w X.K X.mg X.base iW k f fd ps (b_ X.K n G)) (hr:bx k X.A) (ha:VA X Z (e :: es) g)
  (hN:X.N[i]?=some x:=by rfl) (hv:sI X.env.scope x:=by first | exact Or.inl rfl | exact Or.inr (Or.inl rfl) | exact Or.inr (Or.inr rfl)) (hd:gh x:=by decide)
  (iL:uH x:=by decide) (he:starEach (e :: es) X.env=(false,eval e X.env) :: starEach es X.env:=by rfl) (fg:(backTo pos (starEach es X.env)).any (·.1)=false:=by rfl) :
  VP X Z (.Call (.Name x p) (e :: es) [] pos) (Ds i n g Fn):=.mk fun tm pins s σ H Q I ⟨ρ,O,q,E,hf,kk⟩=>by
 unfold Ds at hf
 split at hf
 · rename_i f e0
   obtain ⟨G,Yj,hf⟩:=hf
   obtain ⟨o,sv,h1,h2,rfl,v,rfl,h3⟩:=E.sl i _ e0
   simp only [At] at h3
   subst h3
   obtain ⟨hk,fd,ps,hb,F⟩:=C f G Yj
   refine wpAny_Call_Name_kw (bV (di hN hv hd iL pins s σ H (fun v H'=>v = .ref f∧H'=H) I ⟨_,h2,rfl,rfl⟩) fun u s1 ⟨v,H1,I1,r,ev,eH⟩=>?_)
   subst ev eH
   obtain rfl:u=Value.ref f:=r
   refine NO (h₀:=X.base) I1.ok.mod.JN hk (bV (ha tm pos pins s1 σ H1 (fun vs H2=>b_ X.K n G (vs ++ []) H2 Q E0) I1 ⟨ρ,O,_,E,hf,fun ts gU vs H2 s2 a2=>zf (E.same s2) a2 gU.1 gU.2 fun r hr v H' s z=>kk r hr v H' (s2.trans s) z⟩) fun us s2 ⟨vs,H2,I2,r2,q2⟩=>⟨I2.jZ,?_⟩) he fg
   exact Ci F hr hb .nil uR I2 r2 q2
 · exact hf.elim
end
end VT
namespace cN
open PySem L2 VT Gen wC
abbrev dG:Stmt:=top 22
abbrev dH:Stmt:=top 23
abbrev eI:Stmt:=top 24
structure L7 (w:World) (K:PySem.W.Frag) (mg:Str→Option Value):Prop where
 m2:RL mg
 xG:∃ t,mg "MOST_PARTS" = some (.int 4 t)
 xH:∃ a,mg "RECKONINGS" = some (.ref a)∧∀ H,d9 K H a [.str "plus",.str "minus",.str "times",.str "over",.str "rest",.str "less",.str "same"]
 isinstance:mg "isinstance" = none
 int:mg "int" = none
 bool:mg "bool" = none
 str:mg "str" = none
 len:mg "len" = none
 all:mg "all" = none
 tuple:mg "tuple" = none
 set:mg "set" = none
 zip:mg "zip" = none
def Du:T→Bool
 | .str x=>l6 x
 | _=>false
def xI (t:T):Bool:=Du t || fM t
def PK:List T:=[.str "plus",.str "minus",.str "times",.str "over",.str "rest",.str "less",.str "same"]
def G5:T→Bool
 | .tup _=>false
 | t=>xm t PK
def G6:T→Bool
 | .tup l=>decide (l.length≤4) && l.all fM
 | _=>false
def strsOf (l:List T):List Str:=l.filterMap fun t=>match t with
 | .str x=>some x
 | _=>none
def Dv:T→Bool
 | .tup l=>(decide (l.length≤4) && l.all fM) && (l.all cq && decide ((once (strsOf l)).length=l.length))
 | _=>false
def lb (t:T):Prop:=(∃ x,t = .str x∧x.length≤100)∨∃ i,t = .int i
def Part (t:T):Prop:=lb t∨∃ l,t = .tup l∧l.length≤10∧∀ u∈l,lb u
theorem lb.flat {t:T} (h:lb t):k_ t=true:=by rcases h with ⟨x,rfl,_⟩ | ⟨i,rfl⟩ <;> rfl
theorem lb.short {t:T} (h:lb t):∀ x,t = .str x→x.length≤1000:=by
 rintro x rfl
 rcases h with ⟨y,e,hy⟩ | ⟨i,e⟩
 · cases e; omega
 · cases e
theorem Part.flat {t:T} (h:Part t):k_ t=true:=by rcases h with h | ⟨l,rfl,_⟩; exact h.flat; rfl
theorem Part.short {t:T} (h:Part t):∀ x,t = .str x→x.length≤1000:=by
 rcases h with h | ⟨l,rfl,_⟩
 · exact h.short
 · intro x e; cases e
def vG (p:T→Bool) (ts:List T) (q:Rt→Prop):Prop:=∃ t,ts=[t]∧Part t∧q (.vw (.bl (p t)))
abbrev L8:=vG Du
abbrev Dw:=vG xI
abbrev L9:=vG G5
abbrev G7:=vG G6
abbrev L_:=vG Dv
theorem nt {b:Bool} (h:(!b)=true):b=false:=by cases b <;> simp_all
theorem nf {b:Bool} (h:¬ (!b)=true):b=true:=by cases b <;> simp_all
theorem pD (p:T→Bool):∀ l:List T,cb (l.map fun t=>T.bl (p t))=some (l.map p)
 | []=>rfl
 | t :: l=>by
   rw [jY,jY]
   show (cb _).map _=_
   rw [pD p l]
   rfl
theorem pF {l:List T} (h:l.all cq=true):l=(strsOf l).map .str:=by
 induction l with
 | nil=>rfl
 | cons t l ih =>
   rw [uC,iP] at h
   cases t with
   | str x =>
     show T.str x :: l=T.str x :: (strsOf l).map T.str
     rw [← ih h.2]
   | _=>cases h.1
section
variable {P:Program} {w:World} {K:PySem.W.Frag} {mg:Str→Option Value} {base:Heap}
abbrev xJ:List Str:=["thing"]
theorem nh:aG xJ ["thing"] (aj kq):=L2.g7
theorem vH {f:Addr} {fd:FuncData} (D:Df K mg "is_field" kq ["thing"] f fd) (M:L7 w K mg) (gC:cm P w K mg base "is_name" ["thing"] 1 (b_ K 1 iB)):cm P w K mg base "is_field" ["thing"] 2 (b_ K 1 L8):=by
 obtain ⟨mw,kx,eD,eE,eF,eG⟩:=gC
 refine D.ko (lU D.F nh rfl fun bE A outer s H E Ox hr ts q hG=>?_)
 have nd:=nh.nd
 refine ⟨_,(ah (aH (VP.vx (sV (e_ o6 (by rfl) M.isinstance (by rfl) M.str CW (ae 0)) (sV (Ap (ae 0) (VP.vr aq)) (sU (aM eG (hr.mono (by decide)) (by rfl) eD eE eF (aa (VP.ve (i8 (ae 0) (jD (VP.vr ag)) n_)) ai)))))))),fun _=>?_⟩
 obtain ⟨t,rfl,ht,hq⟩:=hG
 rcases ht with (⟨x,rfl,hx⟩ | ⟨i,rfl⟩) | ⟨l,rfl,_⟩
 · refine ⟨rfl,?_⟩
   have gq:q (.vw (.bl (Txt.startswith x "." && bF (Txt.slice x (some 1) none)))):=hq
   refine zq (c:=Txt.startswith x ".") (fun h=>?_) (fun h=>?_)
   · rw [h,zV] at gq
     refine ⟨kr (by omega),rfl,_,rfl,rfl,fun y e=>?_,gq⟩
     cases e
     exact nB (Txt.slice_le x _ _) (by omega)
   · rw [h,Il] at gq
     exact gq
 · exact ⟨rfl,hq⟩
 · exact ⟨rfl,hq⟩
abbrev Dx:List Str:=["thing"]
theorem rV:aG Dx ["thing"] (aj pA):=L2.g7
theorem AE {f:Addr} {fd:FuncData} (D:Df K mg "is_key" pA ["thing"] f fd) (M:L7 w K mg) (xK:cm P w K mg base "is_field" ["thing"] 2 (b_ K 1 L8)) (dI:cm P w K mg base "is_operand" ["thing"] 2 (b_ K 1 Dr)):cm P w K mg base "is_key" ["thing"] 3 (b_ K 1 Dw):=by
 obtain ⟨L',Jf,xM,xN,xO,xP⟩:=xK
 obtain ⟨lg,j8,dJ,dM,dN,dO⟩:=dI
 refine D.ko (lU D.F rV rfl fun bE A outer s H E Ox hr ts q hG=>?_)
 have nd:=rV.nd
 refine ⟨_,(ah (aH (VP.vx (IB (aM xP (hr.mono (by decide)) (by rfl) xM xN xO (aa (ak 0) ai)) (sU (aM dO (hr.mono (by decide)) (by rfl) dJ dM dN (aa (ak 0) ai))))))),fun _=>?_⟩
 obtain ⟨t,rfl,ht,hq⟩:=hG
 have gq:q (.vw (.bl (Du t || fM t))):=hq
 refine ⟨rfl,t,rfl,ht,zq (c:=Du t) (fun h=>?_) (fun h=>⟨rfl,t,rfl,ht.flat,ht.short,?_⟩)⟩
 · rw [h,Bool.true_or] at gq; exact gq
 · rw [h,Bool.false_or] at gq; exact gq
abbrev jb:List Str:=["thing"]
theorem iD:aG jb ["thing"] (aj dG):=L2.g7
theorem nK {f:Addr} {fd:FuncData} (D:Df K mg "is_reckoning" dG ["thing"] f fd) (M:L7 w K mg):cm P w K mg base "is_reckoning" ["thing"] 1 (b_ K 1 L9):=by
 refine D.ko (lU D.F iD rfl fun bE A outer s H E Ox hr ts q hG=>?_)
 have nd:=iD.nd
 have hu:=bx.iM hr
 obtain ⟨aR,mR,hR⟩:=M.xH
 have tW:∀ {pos},VP (d0 iW P w K mg base jb "is_reckoning" (aj dG) f bE A outer s H E).nY ⟨H,[],Ox⟩ (.Name "RECKONINGS" pos) (fC (.tup PK)):=eO (by rfl) mR (v:=.ref aR) rfl fun H A=>bA (hR H) (aE.cons cc (aE.cons cc (aE.cons cc (aE.cons cc (aE.cons cc (aE.cons cc (aE.cons cc aE.nil)))))))
 refine ⟨_,(ah (aH (VP.vx (L6 hu (ae 0) (VP.vr tW))))),fun _=>?_⟩
 obtain ⟨t,rfl,ht,hq⟩:=hG
 rcases ht with (⟨x,rfl,hx⟩ | ⟨i,rfl⟩) | ⟨l,rfl,_⟩
 · exact ⟨rfl,rfl,hq⟩
 · exact ⟨rfl,rfl,hq⟩
 · exact ⟨["plus","minus","times","over","rest","less","same"],rfl,hq⟩
abbrev fN:List Str:=["thing"]
theorem iE:aG fN ["thing"] (aj dH):=L2.g7
theorem ky:(fN ++ (["part"]:List Str)).Nodup:=by decide +kernel
theorem nL {f:Addr} {fd:FuncData} (D:Df K mg "are_operands" dH ["thing"] f fd) (M:L7 w K mg) (dI:cm P w K mg base "is_operand" ["thing"] 2 (b_ K 1 Dr)):cm P w K mg base "are_operands" ["thing"] 3 (b_ K 1 G7):=by
 obtain ⟨lg,j8,dJ,dM,dN,dO⟩:=dI
 refine D.ko (lU D.F iE rfl fun bE A outer s H E Ox hr ts q hG=>?_)
 have nd:=iE.nd
 have np:∀ {i:Nat},aY ⟨H,[],Ox⟩ i:=kJ
 obtain ⟨tP,mP⟩:=M.xG
 have tX:∀ {pos},VP (d0 iW P w K mg base fN "are_operands" (aj dH) f bE A outer s H E).nY ⟨H,[],Ox⟩ (.Name "MOST_PARTS" pos) (fC (.int 4)):=eO (by rfl) mP (v:=.int 4) ⟨_,rfl⟩ fun _ _=>bq
 refine ⟨_,(af (aP (VW.vc (iZ (dm (dj (e_ o7 (by rfl) M.isinstance (by rfl) M.tuple oh (ae 0)))) (gk (mZ (VP.vr (ay az aA (by rfl) M.len iA (ao (ae 0) au))) (VP.vr tX)))))
    (ah (aH (VP.vx j4)))
    ax)
   (ah (aH (VP.vx (ay (dD rfl) jG (by rfl) M.all zh (ao (VP.vr (oa (ts:=["part"]) rfl (by rfl) (oP (ak 0)) (fun _ _ _ _ _ _=>(bb (i:=1) ky rfl (Or.inl rfl) np)) (fun _ _ _ _ _ _=>kX) (fun _ _ _ _ _ _=>(VP.ve (aM dO (hr.mono (by decide)) (by rfl) dJ dM dN (aa (ak 1) ai)))))) au)))))),fun _=>?_⟩
 obtain ⟨t,rfl,ht,hq⟩:=hG
 rcases ht with (⟨x,rfl,hx⟩ | ⟨i,rfl⟩) | ⟨l,rfl,hl,hL⟩
 · exact ⟨rfl,hq⟩
 · exact ⟨rfl,hq⟩
 · have gq:q (.vw (.bl (decide (l.length≤4) && l.all fM))):=hq
   refine ⟨rfl,?_⟩
   refine bX (fun h=>?_) (fun h=>?_)
   · have h':(4:Int) < (l.length:Int):=h
     rw [decide_eq_false (by omega),Il] at gq
     exact gq
   · have h':¬ (4:Int) < (l.length:Int):=h
     rw [decide_eq_true (by omega),zV] at gq
     refine ⟨rfl,kr (by omega),jF (fun _=>true) (fun t=>T.bl (fM t)) (fun t ht k r h=>⟨rfl,t,rfl,(hL t ht).flat,(hL t ht).short,h⟩) ?_⟩
     rw [Q_.mpr (fun _ _=>rfl)]
     refine ⟨l.map fM,pD fM l,?_⟩
     rw [List.all_map]
     exact gq
abbrev gD:List Str:=["thing"]
theorem gc:aG gD ["thing"] (aj eI):=L2.g7
theorem jc:(gD ++ (["part"]:List Str)).Nodup:=by decide +kernel
theorem lh {f:Addr} {fd:FuncData} (D:Df K mg "are_parameters" eI ["thing"] f fd) (M:L7 w K mg) (fO:cm P w K mg base "are_operands" ["thing"] 3 (b_ K 1 G7)) (gC:cm P w K mg base "is_name" ["thing"] 1 (b_ K 1 iB)):cm P w K mg base "are_parameters" ["thing"] 4 (b_ K 1 L_):=by
 obtain ⟨pG,nM,fP,fQ,fR,fS⟩:=fO
 obtain ⟨mw,kx,eD,eE,eF,eG⟩:=gC
 refine D.ko (lU D.F gc rfl fun bE A outer s H E Ox hr ts q hG=>?_)
 have nd:=gc.nd
 have hu:=bx.iM hr
 have np:∀ {i:Nat},aY ⟨H,[],Ox⟩ i:=kJ
 refine ⟨_,(af (aP (VW.vc (iZ (dm (dj (aM fS (hr.mono (by decide)) (by rfl) fP fQ fR (aa (ak 0) ai)))) (gk (dm (dj (ay (dD rfl) jG (by rfl) M.all zh (ao (VP.vr (oa (ts:=["part"]) rfl (by rfl) (oP (ak 0)) (fun _ _ _ _ _ _=>(bb (i:=1) jc rfl (Or.inl rfl) np)) (fun _ _ _ _ _ _=>kX) (fun _ _ _ _ _ _=>(VP.ve (aM eG (hr.mono (by decide)) (by rfl) eD eE eF (aa (ak 1) ai)))))) au)))))))
    (ah (aH (VP.vx j4)))
    ax)
   (ah (aH (VP.vx (rK hu (VP.vr (Ar rfl (by rfl) M.len (by rfl) M.set (ae 0))) (VP.vr (ay az aA (by rfl) M.len iA (ao (ae 0) au)))))))),fun _=>?_⟩
 obtain ⟨t,rfl,ht,hq⟩:=hG
 refine ⟨rfl,t,rfl,ht,?_⟩
 rcases ht with (⟨x,rfl,hx⟩ | ⟨i,rfl⟩) | ⟨l,rfl,hl,hL⟩
 · exact hq
 · exact hq
 · have gq:q (.vw (.bl ((decide (l.length≤4) && l.all fM) && (l.all cq && decide ((once (strsOf l)).length=l.length))))):=hq
   refine Cr (fun h=>?_) (fun h=>?_)
   · have h':(!(decide (l.length≤4) && l.all fM))=true:=h
     have h2:(decide (l.length≤4) && l.all fM)=false:=nt h'
     rw [h2,Il] at gq
     exact gq
   · have h':¬ (!(decide (l.length≤4) && l.all fM))=true:=h
     have h2:(decide (l.length≤4) && l.all fM)=true:=nf h'
     rw [h2,zV] at gq
     refine ⟨rfl,kr (by omega),jF (fun _=>true) (fun t=>T.bl (cq t)) (fun t ht k r h=>⟨rfl,t,rfl,(hL t ht).flat,(hL t ht).short,h⟩) ?_⟩
     rw [Q_.mpr (fun _ _=>rfl)]
     refine ⟨l.map cq,pD cq l,?_⟩
     rw [List.all_map]
     refine Cr (fun h3=>?_) (fun h3=>?_)
     · have Uz:(!(l.all cq))=true:=h3
       have h4:l.all cq=false:=nt Uz
       rw [h4,Il] at gq
       exact gq
     · have Uz:¬ (!(l.all cq))=true:=h3
       have h4:l.all cq=true:=nf Uz
       rw [h4,zV] at gq
       refine ⟨strsOf l,.inr (by rw [← pF h4]),?_,?_⟩
       · have:=congrArg List.length (pF h4)
         rw [cu] at this
         omega
       · have e:decide (((once (strsOf l)).length:Int)=(l.length:Int))=decide ((once (strsOf l)).length=l.length):=decide_eq_decide.mpr (by omega)
         show q (.vw (.bl (decide (((once (strsOf l)).length:Int)=(l.length:Int)))))
         rw [e]
         exact gq
end
abbrev pH:Stmt:=top 26
inductive So where
 | nm | op | key | rk | par | ops
def fnName:So→Str
 | .nm=>"is_name"
 | .op=>"is_operand"
 | .key=>"is_key"
 | .rk=>"is_reckoning"
 | .par=>"are_parameters"
 | .ops=>"are_operands"
def dP:So→T→Bool
 | .nm=>cq
 | .op=>fM
 | .key=>xI
 | .rk=>G5
 | .par=>Dv
 | .ops=>G6
def UA:So→List T→(Rt→Prop)→Prop
 | .nm=>iB
 | .op=>Dr
 | .key=>Dw
 | .rk=>L9
 | .par=>L_
 | .ops=>G7
theorem Dy {s:So} {t:T} {q:Rt→Prop} (h:Part t) (hq:q (.vw (.bl (dP s t)))):UA s [t] q:=by
 cases s with
 | nm=>exact ⟨t,rfl,h.flat,h.short,hq⟩
 | op=>exact ⟨t,rfl,h.flat,h.short,hq⟩
 | _=>exact ⟨t,rfl,h,hq⟩
def iF:List (Str×List So):=[("def",[.nm,.par]),("give",[.op]),("put",[.nm,.op]),("do",[.nm,.op,.rk,.op]),("new",[.nm]),("get",[.nm,.nm,.key]),("set",[.nm,.key,.op]),("call",[.nm,.nm,.ops]),("fail",[.nm]),("if",[.op]),("else",[]),("while",[.op]),("end",[]),("skip",[])]
def gE:List (Str×List So)→Str→Option (List So)
 | [],_=>none
 | (k,ss) :: l,x=>if k=x then some ss else gE l x
def dQ (x:Str) (ps:List T):Bool:=match gE iF x with
 | none=>false
 | some ss=>decide (ps.length=ss.length) && (List.zipWith dP ss ps).all id
theorem rW (fo:So→Addr) (x:Str):∀ l:List (Str×List So),GW (l.map fun p=>(p.1,T.tup (p.2.map fun s=>T.ob (fo s)))) x=(gE l x).map fun ss=>T.tup (ss.map fun s=>T.ob (fo s))
 | []=>rfl
 | (k,ss) :: l=>by
   have ih:=rW fo x l
   unfold GW at ih ⊢
   simp only [jY,gn,gE]
   by_cases h:k=x
   · rw [if_pos h,if_pos (by rw [h])]; rfl
   · rw [if_neg h,if_neg (fun z=>h (Sum.inr.inj z))]; exact ih
theorem AF:∀ x ss,gE iF x=some ss→ss.length≤4:=by
 intro x ss
 have:∀ l:List (Str×List So),(∀ p∈l,p.2.length≤4)→gE l x=some ss→ss.length≤4:=by
  intro l
  induction l with
  | nil=>intro _ h; cases h
  | cons p l ih =>
    intro hl h
    obtain ⟨k,s0⟩:=p
    simp only [gE] at h
    split at h
    · cases h; exact hl _ iO
    · exact ih (fun p hp=>hl p (jX _ hp)) h
 exact this iF (by simp [iF])
theorem rX {α:Type} {h:FG} {fe:FE} {ρ:En} {fA:α→T} {b:α→T→Bool}:∀ {ss:List α} {ps:List T} {Q:List T→Prop},(∀ s∈ss,∀ p∈ps,∀ r:T→Prop,r (.bl (b s p))→h (.tup [fA s,p]) ρ fun ρ2=>fe ρ2 r)→Q ((List.zipWith b ss ps).map .bl)→eX h Lm fe ρ (pe (ss.map fA) ps) Q
 | [],ps,Q,_,hq=>by simpa [pe,eX] using hq
 | s :: ss,[],Q,_,hq=>by simpa [pe,eX] using hq
 | s :: ss,p :: ps,Q,step,hq=>by
   show eX h Lm fe ρ (T.tup [fA s,p] :: pe (ss.map fA) ps) Q
   simp only [eX]
   refine step s iO p iO _ ?_
   exact rX (fun s hs p hp=>step s (jX _ hs) p (jX _ hp)) hq
theorem vI:∀ l:List Bool,cb (l.map T.bl)=some l
 | []=>rfl
 | b :: l=>by
   rw [jY]
   show (cb _).map _=_
   rw [vI l]
   rfl
structure Wy (w:World) (K:PySem.W.Frag) (mg:Str→Option Value):Prop extends L7 w K mg where
 PL:∃ (a:Addr) (fo:So→Addr),mg "FORMS" = some (.ref a)∧(∀ s,mg (fnName s)=some (.ref (fo s)))∧zm w K a (iF.map fun p=>(p.1,T.tup (p.2.map fun s=>T.ob (fo s))))
def Ma (ts:List T) (q:Rt→Prop):Prop:=∃ (x:Str) (ps:List T),ts=[.tup (.str x :: ps)]∧ps.length≤10∧(∀ p∈ps,Part p)∧q (.vw (.bl (dQ x ps)))
theorem UB (t:T) (ps:List T):nG (t :: ps) (some 1) none=ps:=by
 unfold nG
 have e:HT.dy (t :: ps).length 0 (some 1)=1:=by
  have:=HT.sJ (t :: ps).length 0 1
  rw [show ((1:Nat):Int)=1 from rfl] at this
  rw [this]
  simp
 rw [e,HT.uM]
 simp
section
variable {P:Program} {w:World} {K:PySem.W.Frag} {mg:Str→Option Value} {base:Heap}
abbrev vJ:List Str:=["row","form"]
theorem rY:aG vJ ["row"] (aj pH):=L2.g7
theorem lj:(vJ ++ (["fits","part"]:List Str)).Nodup:=by decide +kernel
theorem AG {f:Addr} {fd:FuncData} (D:Df K mg "is_row" pH ["row"] f fd) (M:Wy w K mg) (gC:cm P w K mg base "is_name" ["thing"] 1 (b_ K 1 iB)) (dI:cm P w K mg base "is_operand" ["thing"] 2 (b_ K 1 Dr)) (Dz:cm P w K mg base "is_key" ["thing"] 3 (b_ K 1 Dw)) (pI:cm P w K mg base "is_reckoning" ["thing"] 1 (b_ K 1 L9)) (mx:cm P w K mg base "are_parameters" ["thing"] 4 (b_ K 1 L_)) (fO:cm P w K mg base "are_operands" ["thing"] 3 (b_ K 1 G7)):cm P w K mg base "is_row" ["row"] 5 (b_ K 1 Ma):=by
 obtain ⟨mw,kx,eD,eE,eF,eG⟩:=gC
 obtain ⟨lg,j8,dJ,dM,dN,dO⟩:=dI
 obtain ⟨PM,Nt,DA,DB,DC,DD⟩:=Dz
 obtain ⟨DE,BX,pJ,pK,pL,pM⟩:=pI
 obtain ⟨AH,zt,my,mz,mB,mD⟩:=mx
 obtain ⟨pG,nM,fP,fQ,fR,fS⟩:=fO
 refine D.ko (lU D.F rY rfl fun bE A outer s H E Ox hr ts q hG=>?_)
 have nd:=rY.nd
 have hu:=bx.iM hr
 have np:∀ {i:Nat},aY ⟨H,[],Ox⟩ i:=kJ
 obtain ⟨aF,fo,G8,KU,DF⟩:=M.PL
 have Mb:∀ f' G,(∃ s:So,f'=fo s∧G=UA s)→PySem.W.keepIn K (.ref f')=true∧∃ fd ps,Binds K fd ps []∧cS P w K mg base iW 4 f' fd ps (b_ K 1 G):=by
  rintro f' G ⟨s,rfl,rfl⟩
  have h:=KU s
  cases s with
  | nm=>cases eD.symm.trans h; exact ⟨eE,_,_,eF,eG.mono (by decide)⟩
  | op=>cases dJ.symm.trans h; exact ⟨dM,_,_,dN,dO.mono (by decide)⟩
  | key=>cases DA.symm.trans h; exact ⟨DB,_,_,DC,DD.mono (by decide)⟩
  | rk=>cases pJ.symm.trans h; exact ⟨pK,_,_,pL,pM.mono (by decide)⟩
  | par=>cases my.symm.trans h; exact ⟨mz,_,_,mB,mD.mono (by decide)⟩
  | ops=>cases fP.symm.trans h; exact ⟨fQ,_,_,fR,fS.mono (by decide)⟩
 refine ⟨_,(af (aP (VW.vc (iZ (dm (dj (e_ o7 (by rfl) M.isinstance (by rfl) M.tuple oh (ae 0)))) (iZ (bJ hu (VP.vr (ay az aA (by rfl) M.len iA (ao (ae 0) au))) (VP.vr ag)) (gk (dm (dj (e_ o6 (by rfl) M.isinstance (by rfl) M.str CW (VP.vr (aW (ae 0) (VP.vr ag))))))))))
    (ah (aH (VP.vx j4)))
    ax)
   (af (aL (i:=1) nd rfl (Or.inl rfl) (VP.vx (Dj (by rfl) G8 DF (VP.vr (aW (ae 0) (VP.vr ag))) ⟨rfl,rfl,rfl,rfl⟩)) np)
   (af (aP (VW.vc (iZ (rN (ae 1) (VP.vr iY)) (gk (kW hu (VP.vr (ay az aA (by rfl) M.len iA (ao (ae 0) au))) (VP.vr (bu (VP.vr (ay az aA (by rfl) M.len iA (ao (ae 1) au))) (VP.vr ag)))))))
     (ah (aH (VP.vx j4)))
     ax)
   (ah (aH (VP.vx (ay (dD rfl) jG (by rfl) M.all zh (ao (VP.vr (oa (ts:=["fits","part"]) rfl (by rfl) (LJ (by rfl) M.zip (ak 1) (VP.ve (i8 (ae 0) (jD (VP.vr ag)) n_))) (fun _ _ _ _ _ _=>(hU (n:=2) rfl (bz (bb (i:=2) lj rfl (Or.inl rfl) np) (bz (bb (i:=3) lj rfl (Or.inl rfl) np) e8)))) (fun _ _ _ _ _ _=>kX) (fun _ _ _ _ _ _=>(VP.ve (Dt 2 Mb (hr.mono (by decide)) (aa (ak 3) ai)))))) au)))))))),fun _=>?_⟩
 obtain ⟨x,ps,rfl,hl,hP,hq⟩:=hG
 have PN:=rW fo x iF
 refine ⟨rfl,_,aB (j:=0) rfl,rfl,_,aB (j:=0) rfl,?_⟩
 show onStr (T.str x) _
 unfold onStr
 dsimp only
 rw [PN]
 cases hf:gE iF x with
 | none =>
   have hg:dQ x ps=false:=by unfold dQ; rw [hf]
   rw [hg] at hq
   exact hq
 | some ss =>
   have hg:dQ x ps=(decide (ps.length=ss.length) && (List.zipWith dP ss ps).all id):=by unfold dQ; rw [hf]
   rw [hg] at hq
   have Z1:=AF x ss hf
   have el:(((T.str x :: ps).length:Nat):Int)=(ps.length:Int)+1:=by rw [Fm]; omega
   have Wz:(((ss.map fun s=>T.ob (fo s)).length:Nat):Int)=(ss.length:Int):=by rw [cu]
   refine Cr (fun h=>?_) (fun h=>?_)
   · have h':(!decide (((T.str x :: ps).length:Int)=((ss.map fun s=>T.ob (fo s)).length:Int)+1))=true:=h
     have h2:=of_decide_eq_false (nt h')
     rw [el,Wz] at h2
     rw [decide_eq_false (by omega),Il] at hq
     exact hq
   · have h':¬ (!decide (((T.str x :: ps).length:Int)=((ss.map fun s=>T.ob (fo s)).length:Int)+1))=true:=h
     have h2:=of_decide_eq_true (nf h')
     rw [el,Wz] at h2
     rw [decide_eq_true (by omega),zV] at hq
     have UC:¬ (HT.dy (T.str x :: ps).length 0 (some 1)=0∧HT.dy (T.str x :: ps).length (T.str x :: ps).length none=(T.str x :: ps).length):=by
      rintro ⟨z,_⟩
      have:=HT.sJ (T.str x :: ps).length 0 1
      rw [show ((1:Nat):Int)=1 from rfl,z] at this
      simp at this
     refine ⟨rfl,UC,?_⟩
     rw [UB]
     refine ⟨?_,rX (b:=dP) (fun s _ p hp r hr=>?_) ⟨_,vI _,hq⟩⟩
     · show (pe (ss.map fun s=>T.ob (fo s)) ps).length≤sizeLine
       unfold pe
       rw [List.length_zipWith]
       exact kr (by omega)
     · exact ⟨rfl,rfl,UA s,⟨s,rfl,rfl⟩,rfl,Dy (q:=fun x=>r x.t) (hP p hp) hr⟩
end
end cN
namespace Gen
open PySem L2 VT
open wC (bw xb bF)
theorem zu (n:Int):xb (gA n)=true:=by
 have h0:0≤n % 26:=lN n (by decide)
 have h1:n % 26 < 26:=nA n (by decide)
 have h:∀ j < 26,xb (bw.cps.toList.getD j 0)=true:=by decide +kernel
 exact h _ (by omega)
theorem DG {a b:Int} (h:gA a=gA b):a % 26=b % 26:=by
 have a0:0≤a % 26:=lN a (by decide)
 have a1:a % 26 < 26:=nA a (by decide)
 have b0:0≤b % 26:=lN b (by decide)
 have b1:b % 26 < 26:=nA b (by decide)
 have k:∀ i < 26,∀ j < 26,bw.cps.toList.getD i 0=bw.cps.toList.getD j 0→i=j:=by decide +kernel
 have:=k (a % 26).toNat (by omega) (b % 26).toNat (by omega) h
 omega
theorem AI {c:Int} {k k' n:Nat} (hn:Aw c < n) (hk:k < 26) (Pr:k' < 26) (h:bR c k n=bR c k' n):k=k':=by
 have h2:((List.range n).map fun j=>gA (tS c k j))=((List.range n).map fun j=>gA (tS c k' j)):=by
  have:=congrArg (fun y:Str=>y.cps.toList) h
  exact this
 have h3:=congrArg (fun l:List Nat=>l[Aw c]?) h2
 simp only [nV,List.getElem?_range hn,Option.map_some,Option.some.injEq] at h3
 have h4:=DG h3
 unfold tS at h4
 rw [if_pos rfl,if_pos rfl] at h4
 omega
theorem pN {c:Int} {k n:Nat} (h1:1≤n) (h8:n≤8):bF (bR c k n)=true:=by
 unfold bF
 rw [fm,decide_eq_true (by omega),decide_eq_true (by omega),zV,zV]
 show ((List.range n).map fun j=>gA (tS c k j)).all xb=true
 rw [List.all_map]
 exact zU.mpr fun j _=>zu _
theorem DH {x:Str} {n:Int} (h:bF x=true) (hl:x.length≤7):bF (x ++ ⟨#[gA n]⟩)=true:=by
 have hx:=wC.sR h
 have el:(x ++ (⟨#[gA n]⟩:Str)).length=x.length+1:=by
  show (x.cps ++ #[gA n]).size=_
  simp [Str.length]
 unfold bF
 rw [el,decide_eq_true (by omega),decide_eq_true (by omega),zV,zV]
 show (x.cps ++ #[gA n]).toList.all xb=true
 simp only [Array.toList_append,List.all_append,hx,zV]
 simp [zu]
theorem jI (x:Str) (n:Int):(x ++ (⟨#[gA n]⟩:Str)).length=x.length+1:=by
 show (x.cps ++ #[gA n]).size=_
 simp [Str.length]
theorem AJ {c:Int} {m:Nat} {y:Str} (h:y∈cT c m):(∃ k < m,y=bR c k (jV c))∨y=bR c 0 (jV c) ++ ⟨#[gA (qV c / 147)]⟩:=by
 have hz:∀ {y},y∈((List.range m).map fun k=>bR c k (jV c))→∃ k < m,y=bR c k (jV c):=fun h=>by
  obtain ⟨k,hk,rfl⟩:=wJ.mp h
  exact ⟨k,EZ.mp hk,rfl⟩
 unfold cT at h
 split at h
 · rcases NF h with h | h
   · exact .inl (hz h)
   · exact .inr h
 · exact .inl (hz h)
theorem xQ {c:Int} {m:Nat}:∀ y∈cT c m,bF y=true:=by
 intro y hy
 have hs:=pk c
 rcases AJ hy with ⟨k,_,rfl⟩ | rfl
 · exact pN (by omega) (by omega)
 · exact DH (pN (by omega) (by omega)) (by rw [fm]; omega)
theorem vK {c:Int} {m:Nat} (hm:m≤26):(cT c m).Nodup:=by
 have hs:=pk c
 have ha:=Py c
 have base:((List.range m).map fun k=>bR c k (jV c)).Nodup:=by
  rw [List.Nodup,List.pairwise_map]
  refine List.Pairwise.imp_of_mem ?_ (List.nodup_range (n:=m))
  intro a b Yk UD n8 e
  exact n8 (AI ha (by have:=EZ.mp Yk; omega) (by have:=EZ.mp UD; omega) e)
 unfold cT
 split
 · generalize hl:((List.range m).map fun k=>bR c k (jV c))=l at base
   have hv:bR c 0 (jV c) ++ (⟨#[gA (qV c / 147)]⟩:Str)∉l:=by
    intro z
    rw [← hl] at z
    obtain ⟨k,_,e⟩:=wJ.mp z
    have:=congrArg Str.length e
    rw [jI,fm,fm] at this
    omega
   rw [List.Nodup,R']
   rw [List.Nodup,R'] at base
   intro i j hi hj F8
   rw [JF] at hi hj
   have b:=base i j hi hj F8
   rw [List.getElem_set,List.getElem_set]
   split
   · split
     · omega
     · intro z
       exact hv (by rw [z]; exact B1 _)
   · split
     · intro z
       exact hv (by rw [← z]; exact B1 _)
     · exact b
 · exact base
def xR (ys:List Str):Rw→Prop
 | .df f ps=>f∈ys∧ps.length≤2∧ps.Nodup∧∀ p∈ps,p∈ys
 | .give a=>cQ ys a
 | .put x a=>x∈ys∧cQ ys a
 | .Dk x a op b=>x∈ys∧cQ ys a∧op∈reckon∧cQ ys b
 | .new x=>x∈ys
 | .get x r k=>x∈ys∧r∈ys∧Ay ys k
 | .set r k a=>r∈ys∧Ay ys k∧cQ ys a
 | .call x f as=>x∈ys∧f∈ys∧as.length≤2∧∀ a∈as,cQ ys a
 | .fail w=>w∈ys
 | .LZ a=>cQ ys a
 | .Ax a=>cQ ys a
 | _=>True
theorem xS {l:List Str} (nd:l.Nodup) {i j:Nat} (hi:i < l.length) (hj:j < l.length) (e:l[i]=l[j]):i=j:=by
 rw [List.Nodup,R'] at nd
 rcases Nat.lt_trichotomy i j with h | h | h
 · exact absurd e (nd i j hi hj h)
 · exact h
 · exact absurd e.symm (nd j i hj hi h)
theorem AK {ys:List Str} (hl:ys.length=6) (nd:ys.Nodup) {a:Int} {r:Nat} (hr:r≤2):((List.range r).map fun j=>ys.getD ((a+((j:Nat):Int)) % 4).toNat Str.empty).Nodup∧∀ p∈((List.range r).map fun j=>ys.getD ((a+((j:Nat):Int)) % 4).toNat Str.empty),p∈ys:=by
 have hm:∀ j:Nat,((a+(j:Int)) % 4).toNat < ys.length:=fun j=>by
  have h0:0≤(a+(j:Int)) % 4:=lN _ (by decide)
  have h1:(a+(j:Int)) % 4 < 4:=nA _ (by decide)
  omega
 have hg:∀ j:Nat,ys.getD ((a+(j:Int)) % 4).toNat Str.empty=ys[((a+(j:Int)) % 4).toNat]'(hm j):=fun j=>by
  rw [List.getD,lK (hm j)]; rfl
 refine ⟨?_,?_⟩
 · rw [List.Nodup,List.pairwise_map]
   refine List.Pairwise.imp_of_mem ?_ (List.nodup_range (n:=r))
   intro i j hi hj n8 e
   rw [hg,hg] at e
   have:=xS nd _ _ e
   have Cw:=EZ.mp hi
   have O7:=EZ.mp hj
   have a0:0≤(a+(i:Int)) % 4:=lN _ (by decide)
   have b0:0≤(a+(j:Int)) % 4:=lN _ (by decide)
   omega
 · intro p hp
   obtain ⟨j,_,rfl⟩:=wJ.mp hp
   rw [hg]
   exact B1 _
theorem AL {ys:List Str} {pl:Plan} (hp:∀ f ps,(f,ps)∈pl→f∈ys∧ps.length≤2) {r:Rw} (h:gB ys pl r):xR ys r:=by
 cases r <;> first
  | exact h
  | exact h.elim
  | (obtain ⟨h1,⟨ps,h2,h3⟩,h4⟩:=h
     exact ⟨h1,(hp _ _ h2).1,by rw [h3]; exact (hp _ _ h2).2,h4⟩)
theorem Mc {ys:List Str} {pl:Plan} (hp:∀ f ps,(f,ps)∈pl→f∈ys∧ps.length≤2) {bH new dn} (h:ml ys pl bH new dn):∀ r∈new,xR ys r:=by
 rcases h with ⟨o,ho,rfl,_⟩ | ⟨o,ho,rfl,_⟩ | ⟨y,hy,rfl,_⟩ | ⟨s0,_,rfl,_⟩ | ⟨s0,x,_,rfl,_⟩ | ⟨r,hr,rfl,_⟩ <;> intro r' uF
 · simp only [cL,dZ,or_false] at uF; subst uF; exact ho
 · simp only [cL,dZ,or_false] at uF; subst uF; exact ho
 · simp only [cL,dZ,or_false] at uF
   rcases uF with rfl | rfl
   · exact hy
   · exact ⟨hy,hy,by simp [reckon],by decide,by decide⟩
 · simp only [cL,dZ,or_false] at uF; subst uF; trivial
 · simp only [cL,dZ,or_false] at uF; subst uF; trivial
 · simp only [cL,dZ,or_false] at uF; subst uF; exact AL hp hr
theorem G9 {ys:List Str} {pl:Plan} (hp:∀ f ps,(f,ps)∈pl→f∈ys∧ps.length≤2) {bH body} (h:Body ys pl bH body):∀ r∈body,xR ys r:=by
 induction h with
 | nil=>intro r hr; cases hr
 | step _ h2 ih =>
   intro r hr
   rcases iI.mp hr with hr | hr
   · exact ih r hr
   · exact Mc hp h2 r hr
theorem vL {ys:List Str} {pl:Plan} (hl:ys.length=6) (hP:mn ys pl):∀ f ps,(f,ps)∈pl→f∈ys∧ps.length≤2:=by
 intro f ps h
 obtain ⟨k,hk⟩:=List.getElem?_of_mem h
 obtain ⟨h1,a,r,hr,rfl⟩:=hP k f ps hk
 exact ⟨mW h1,by rw [cu,Fj]; exact hr⟩
theorem Md {ys:List Str} {pl:Plan} (hl:ys.length=6) (nd:ys.Nodup) (hP:mn ys pl) {n:Nat} {rs:List Rw} (h:Pre ys pl n rs):∀ r∈rs,xR ys r:=by
 have hp:=vL hl hP
 induction h with
 | zero=>intro r hr; cases hr
 | @succ k rs f ps bH body o sk _ hk hb ho hs ih =>
   intro r hr
   rcases iI.mp hr with hr | hr
   · exact ih r hr
   · rcases List.mem_cons.mp hr with rfl | hr
     · obtain ⟨h1,a,n,hn,rfl⟩:=hP k f ps hk
       have:=AK hl nd (a:=a) hn
       exact ⟨mW h1,by rw [cu,Fj]; exact hn,this.1,this.2⟩
     · rcases iI.mp hr with hr | hr
       · exact G9 (fun f ps h=>hp f ps (List.mem_of_mem_drop h)) hb r hr
       · rcases iI.mp hr with hr | hr
         · rw [(List.mem_replicate.mp hr).2]; trivial
         · rcases cL.mp hr with rfl | hr
           · exact ho
           · rcases hs with rfl | rfl
             · cases hr
             · simp only [cL,dZ,or_false] at hr; subst hr; trivial
end Gen
deriving instance DecidableEq for cN.So
namespace cN
open PySem L2 VT Gen wC
theorem vM {ys:List Str} (nd:ys.Nodup):∀ n,n≤ys.length→met (fun i=>ys.getD i Str.empty) n=ys.take n
 | 0,_=>rfl
 | n+1,h=>by
   have hl:n < ys.length:=by omega
   have ih:=vM nd n (by omega)
   have e:ys.getD n Str.empty=ys[n]:=by rw [List.getD,lK hl]; rfl
   have hn:ys[n]∉ys.take n:=by
    intro z
    obtain ⟨i,hi,he⟩:=List.mem_iff_getElem.mp z
    rw [List.getElem_take] at he
    rw [EW] at hi
    have:=xS nd (by omega) hl he
    omega
   simp only [met,LL,ih,e]
   rw [if_neg (by simpa using hn),List.take_succ_eq_append_getElem hl]
theorem xT {ys:List Str} (nd:ys.Nodup):once ys=ys:=by
 unfold once
 rw [vM nd _ (d8 _),List.take_length]
theorem fU {x:Str} (h:bF x=true):x.length≤8:=by
 unfold bF at h
 simp only [iP,decide_eq_true_eq] at h
 omega
section
variable {ys:List Str}
theorem cV (hn:∀ y∈ys,bF y=true) {o:pq} (h:cQ ys o):fM (qW o)=true∧lb (qW o):=by
 cases o with
 | nm x =>
   have:=hn x h
   exact ⟨by show (bF x || false)=true; rw [this]; rfl,.inl ⟨x,rfl,by have:=fU this; omega⟩⟩
 | nu i =>
   obtain ⟨h1,h2⟩:=h
   exact ⟨by show (false || (decide (-1000000000000000000000000000000≤i) && decide (i < 1000000000000000000000000000000)))=true; rw [decide_eq_true h1,decide_eq_true h2]; rfl,.inr ⟨i,rfl⟩⟩
theorem de (hn:∀ y∈ys,bF y=true) {x:Str} (h:x∈ys):cq (.str x)=true∧lb (.str x):=⟨hn x h,.inl ⟨x,rfl,by have:=fU (hn x h); omega⟩⟩
theorem vN (hn:∀ y∈ys,bF y=true) {k:Ky} (h:Ay ys k):xI (L0 k)=true∧lb (L0 k):=by
 cases k with
 | fld x =>
   have hx:=hn x h
   exact ⟨by show (l6 _ || _)=true; rw [Ai hx]; rfl,.inl ⟨_,rfl,by rw [F7]; have:=fU hx; omega⟩⟩
 | op o =>
   have:=cV hn (o:=o) h
   exact ⟨by show (_ || fM (qW o))=true; rw [this.1,Bool.or_true],this.2⟩
theorem DI {op:Str} (h:op∈reckon):G5 (.str op)=true∧lb (.str op):=by
 simp only [reckon,cL,dZ,or_false] at h
 rcases h with rfl | rfl | rfl | rfl | rfl | rfl | rfl <;> exact ⟨by decide +kernel,.inl ⟨_,rfl,by decide +kernel⟩⟩
theorem pO:∀ ps:List Str,strsOf (ps.map .str)=ps
 | []=>rfl
 | p :: ps=>by
   show p :: strsOf (ps.map .str)=_
   rw [pO ps]
theorem DJ (hn:∀ y∈ys,bF y=true) {ps:List Str} (h2:ps.length≤4) (nd:ps.Nodup) (hp:∀ p∈ps,p∈ys):Dv (.tup (ps.map .str))=true∧Part (.tup (ps.map .str)):=by
 have e1:(ps.map T.str).all cq=true:=zU.mpr fun t ht=>by
  obtain ⟨x,hx,rfl⟩:=wJ.mp ht
  exact (de hn (hp x hx)).1
 have e2:(ps.map T.str).all fM=true:=zU.mpr fun t ht=>by
  have:=zU.mp e1 t ht
  show (cq t || _)=true
  rw [this,Bool.true_or]
 refine ⟨?_,.inr ⟨_,rfl,by rw [cu]; omega,fun u hu=>?_⟩⟩
 · show ((decide _ && _) && (_ && decide _))=true
   rw [e1,e2,pO,xT nd,cu,decide_eq_true (by omega),decide_eq_true rfl]
   rfl
 · obtain ⟨x,hx,rfl⟩:=wJ.mp hu
   exact (de hn (hp x hx)).2
theorem DK (hn:∀ y∈ys,bF y=true) {as:List pq} (h2:as.length≤4) (ha:∀ a∈as,cQ ys a):G6 (.tup (as.map qW))=true∧Part (.tup (as.map qW)):=by
 refine ⟨?_,.inr ⟨_,rfl,by rw [cu]; omega,fun u hu=>?_⟩⟩
 · show (decide _ && _)=true
   rw [decide_eq_true (by rw [cu]; omega),zV]
   refine zU.mpr fun t ht=>?_
   obtain ⟨x,hx,rfl⟩:=wJ.mp ht
   exact (cV hn (ha x hx)).1
 · obtain ⟨x,hx,rfl⟩:=wJ.mp hu
   exact (cV hn (ha x hx)).2
def jd (t:T):Prop:=∃ (x:Str) (ps:List T),t = .tup (.str x :: ps)∧ps.length≤4∧(∀ p∈ps,Part p)∧dQ x ps=true
theorem dg {x:Str} {ss:List So} {ps:List T} (hf:gE iF x=some ss) (hl:ps.length=ss.length) (h4:ps.length≤4) (hp:∀ p∈ps,Part p) (hz:(List.zipWith dP ss ps).all id=true):jd (.tup (.str x :: ps)):=by
 refine ⟨x,ps,rfl,h4,hp,?_⟩
 unfold dQ
 rw [hf]
 show (decide _ && _)=true
 rw [decide_eq_true hl,hz]
 rfl
theorem gF (hn:∀ y∈ys,bF y=true) {r:Rw} (h:xR ys r):jd (aV r):=by
 cases r with
 | df f ps =>
   obtain ⟨h1,h2,h3,h4⟩:=h
   have a:=de hn h1
   have b:=DJ hn (by omega) h3 h4
   refine dg (ss:=[.nm,.par]) (by decide +kernel) rfl (by simp) ?_ ?_
   · simp only [BZ,dZ,false_implies,implies_true,and_true]; exact ⟨.inl a.2,b.2⟩
   · simp only [yJ,yK,uC,B2,dP,a.1,b.1]; rfl
 | give o =>
   have a:=cV hn h
   refine dg (ss:=[.op]) (by decide +kernel) rfl (by simp) ?_ ?_
   · simp only [BZ,dZ,false_implies,implies_true,and_true]; exact .inl a.2
   · simp only [yJ,yK,uC,B2,dP,a.1]; rfl
 | LZ o =>
   have a:=cV hn h
   refine dg (ss:=[.op]) (by decide +kernel) rfl (by simp) ?_ ?_
   · simp only [BZ,dZ,false_implies,implies_true,and_true]; exact .inl a.2
   · simp only [yJ,yK,uC,B2,dP,a.1]; rfl
 | Ax o =>
   have a:=cV hn h
   refine dg (ss:=[.op]) (by decide +kernel) rfl (by simp) ?_ ?_
   · simp only [BZ,dZ,false_implies,implies_true,and_true]; exact .inl a.2
   · simp only [yJ,yK,uC,B2,dP,a.1]; rfl
 | put x o =>
   have a:=de hn h.1
   have b:=cV hn h.2
   refine dg (ss:=[.nm,.op]) (by decide +kernel) rfl (by simp) ?_ ?_
   · simp only [BZ,dZ,false_implies,implies_true,and_true]; exact ⟨.inl a.2,.inl b.2⟩
   · simp only [yJ,yK,uC,B2,dP,a.1,b.1]; rfl
 | Dk x o op o2 =>
   have a:=de hn h.1
   have b:=cV hn h.2.1
   have c:=DI h.2.2.1
   have d:=cV hn h.2.2.2
   refine dg (ss:=[.nm,.op,.rk,.op]) (by decide +kernel) rfl (by simp) ?_ ?_
   · simp only [BZ,dZ,false_implies,implies_true,and_true]; exact ⟨.inl a.2,.inl b.2,.inl c.2,.inl d.2⟩
   · simp only [yJ,yK,uC,B2,dP,a.1,b.1,c.1,d.1]; rfl
 | new x =>
   have a:=de hn h
   refine dg (ss:=[.nm]) (by decide +kernel) rfl (by simp) ?_ ?_
   · simp only [BZ,dZ,false_implies,implies_true,and_true]; exact .inl a.2
   · simp only [yJ,yK,uC,B2,dP,a.1]; rfl
 | fail x =>
   have a:=de hn h
   refine dg (ss:=[.nm]) (by decide +kernel) rfl (by simp) ?_ ?_
   · simp only [BZ,dZ,false_implies,implies_true,and_true]; exact .inl a.2
   · simp only [yJ,yK,uC,B2,dP,a.1]; rfl
 | get x r k =>
   have a:=de hn h.1
   have b:=de hn h.2.1
   have c:=vN hn h.2.2
   refine dg (ss:=[.nm,.nm,.key]) (by decide +kernel) rfl (by simp) ?_ ?_
   · simp only [BZ,dZ,false_implies,implies_true,and_true]; exact ⟨.inl a.2,.inl b.2,.inl c.2⟩
   · simp only [yJ,yK,uC,B2,dP,a.1,b.1,c.1]; rfl
 | set r k o =>
   have a:=de hn h.1
   have b:=vN hn h.2.1
   have c:=cV hn h.2.2
   refine dg (ss:=[.nm,.key,.op]) (by decide +kernel) rfl (by simp) ?_ ?_
   · simp only [BZ,dZ,false_implies,implies_true,and_true]; exact ⟨.inl a.2,.inl b.2,.inl c.2⟩
   · simp only [yJ,yK,uC,B2,dP,a.1,b.1,c.1]; rfl
 | call x f as =>
   have a:=de hn h.1
   have b:=de hn h.2.1
   have c:=DK hn (nB h.2.2.1 (by decide)) h.2.2.2
   refine dg (ss:=[.nm,.nm,.ops]) (by decide +kernel) rfl (by simp) ?_ ?_
   · simp only [BZ,dZ,false_implies,implies_true,and_true]; exact ⟨.inl a.2,.inl b.2,c.2⟩
   · simp only [yJ,yK,uC,B2,dP,a.1,b.1,c.1]; rfl
 | _=>exact dg (ss:=[]) (by decide +kernel) rfl (by decide) (by simp) rfl
end
end cN
namespace Gen
open PySem L2 VT
def wd:Rw→Str
 | .df _ _=>"def"
 | .give _=>"give"
 | .put _ _=>"put"
 | .Dk _ _ _ _=>"do"
 | .new _=>"new"
 | .get _ _ _=>"get"
 | .set _ _ _=>"set"
 | .call _ _ _=>"call"
 | .fail _=>"fail"
 | .LZ _=>"if"
 | .RK=>"else"
 | .Ax _=>"while"
 | .fin=>"end"
 | .skip=>"skip"
def dA (st:List Str) (x:Str):Bool:=match st.getLast? with
 | none=>xm (.str x) [.str "def",.str "skip"]
 | some l=>if x="give" then decide (l="def") else if x="else" then decide (l="if") else if x="end" then !decide (l="def") else !decide (x="def")
def iQ (st:List Str) (x:Str):List Str :=
 if x="def"∨x="if"∨x="while" then st ++ [x] else if x="give"∨x="end" then st.dropLast else if x="else" then st.dropLast ++ [("else" : Str)] else st
theorem tY (x:Str):∀ l:List Str,xm (.str x) (l.map .str)=decide (x∈l)
 | []=>by simp [xm]
 | y :: l=>by
   rw [jY]
   show (eqT (.str y) (.str x) || xm (.str x) (l.map .str))=_
   rw [tY x l]
   show (decide (y=x) || decide (x∈l))=_
   rw [Ni]
   simp only [Bool.or_eq_true,decide_eq_true_eq,cL]
   constructor
   · rintro (h | h)
     · exact .inl h.symm
     · exact .inr h
   · rintro (h | h)
     · exact .inl h.symm
     · exact .inr h
theorem zw (r:Rw):∃ l,aV r = .tup (.str (wd r) :: l):=by cases r <;> exact ⟨_,rfl⟩
theorem eJ {α:Type} {f:α→T} {xs:List α} {h:FG} {g:FS} {d:IK} {ρ:En} (Pv:Nat→En→Prop) (h0:Pv 0 ρ) (hs:∀ (i:Nat) x ρ',xs[i]?=some x→Pv i ρ'→h (.tup [.int (i:Int),f x]) ρ' fun ρ2=>g { nx:=Pv (i+1),ct:=Pv (i+1),bk:=d.nx,rt:=d.rt } ρ2)
 (hd:∀ ρ',Pv xs.length ρ'→d.nx ρ'):u7 (m_ (xs.map f)) h g d ρ:=⟨Pv,h0,fun i t ρ' e p=>by
   unfold m_ at e
   rw [List.getElem?_mapIdx,nV] at e
   cases q:xs[i]? with
   | none=>rw [q] at e; cases e
   | some x=>rw [q] at e; cases e; exact hs i x ρ' q p,fun ρ' p=>hd ρ' (by unfold m_ at p; rw [List.length_mapIdx,cu] at p; exact p)⟩
def AN (o:Option (List Str)) (r:Rw):Option (List Str):=o.bind fun st=>if dA st (wd r)=true then some (iQ st (wd r)) else none
def jW (o:Option (List Str)) (rs:List Rw):Option (List Str):=rs.foldl AN o
theorem jJ (o:Option (List Str)) (a b:List Rw):jW o (a ++ b)=jW (jW o a) b:=List.foldl_append
theorem pP (rs:List Rw):jW none rs=none:=by
 induction rs with
 | nil=>rfl
 | cons r rs ih=>exact ih
theorem rZ {st:List Str} {r:Rw} (h:dA st (wd r)=true):AN (some st) r=some (iQ st (wd r)):=by
 show (if dA st (wd r)=true then _ else _)=_
 rw [if_pos h]
theorem dh {st:List Str} {r:Rw} (h:dA st (wd r)=true):jW (some st) [r]=some (iQ st (wd r)):=rZ h
theorem DM {rs:List Rw} {st:List Str} (h:jW (some []) rs=some st) (i:Nat) {r:Rw} (hr:rs[i]?=some r) :
  ∃ s,jW (some []) (rs.take i)=some s∧dA s (wd r)=true∧jW (some []) (rs.take (i+1))=some (iQ s (wd r)):=by
 have hi:=(fY.mp hr).1
 have e:rs=rs.take i ++ (r :: rs.drop (i+1)):=by
  have hg:=(fY.mp hr).2
  rw [← hg,List.getElem_cons_drop,List.take_append_drop]
 have e2:rs.take (i+1)=rs.take i ++ [r]:=by
  have hg:=(fY.mp hr).2
  rw [← hg,List.take_append_getElem]
 rw [e,jJ] at h
 cases hs:jW (some []) (rs.take i) with
 | none =>
   rw [hs,pP] at h
   cases h
 | some s =>
   rw [hs] at h
   have h':jW (AN (some s) r) (rs.drop (i+1))=some st:=h
   cases hm:dA s (wd r) with
   | false =>
     have:AN (some s) r=none:=by show (if dA s (wd r)=true then _ else _)=_; rw [hm]; rfl
     rw [this,pP] at h'
     cases h'
   | true=>exact ⟨s,rfl,hm,by rw [e2,jJ,hs]; exact dh hm⟩
abbrev oq:Str:="def"
def Hd (x:Str):Prop:=x="if"∨x="while"∨x="else"
theorem Hd.ne {x:Str} (h:Hd x):x≠"def":=by rcases h with rfl | rfl | rfl <;> decide +kernel
theorem r6 {ys:List Str} {pl:Plan} {r:Rw} (h:gB ys pl r):∀ st,st≠[]→dA st (wd r)=true∧iQ st (wd r)=st:=by
 intro st B_
 obtain ⟨l,hl⟩:∃ l,st.getLast?=some l:=by
  cases e:st.getLast? with
  | none=>rw [List.getLast?_eq_none_iff] at e; exact absurd e B_
  | some l=>exact ⟨l,rfl⟩
 have k:∀ x:Str,(x="put"∨x="do"∨x="new"∨x="get"∨x="set"∨x="call"∨x="fail"∨x="skip")→dA st x=true∧iQ st x=st:=by
  intro x hx
  unfold dA iQ
  rw [hl]
  rcases hx with rfl | rfl | rfl | rfl | rfl | rfl | rfl | rfl <;> exact ⟨(by show (if _ then _ else _)=true; rw [if_neg (by decide +kernel),if_neg (by decide +kernel),if_neg (by decide +kernel)]; decide +kernel),(by rw [if_neg (by decide +kernel),if_neg (by decide +kernel),if_neg (by decide +kernel)])⟩
 cases r <;> first
  | exact h.elim
  | exact k _ (by simp [wd])
theorem Me (st:List Str):iQ st "if" = st ++ [("if" : Str)]:=by unfold iQ; rw [if_pos (.inr (.inl rfl))]
theorem r8 (st:List Str):iQ st "while" = st ++ [("while" : Str)]:=by unfold iQ; rw [if_pos (.inr (.inr rfl))]
theorem G_ (st:List Str):iQ st "def" = st ++ [oq]:=by unfold iQ; rw [if_pos (.inl rfl)]
theorem zx (st:List Str):iQ st "end" = st.dropLast:=by unfold iQ; rw [if_neg (by decide +kernel),if_pos (by decide +kernel)]
theorem DN (st:List Str):iQ st "give" = st.dropLast:=by unfold iQ; rw [if_neg (by decide +kernel),if_pos (by decide +kernel)]
theorem DO (st:List Str):iQ st "else" = st.dropLast ++ [("else" : Str)]:=by unfold iQ; rw [if_neg (by decide +kernel),if_neg (by decide +kernel),if_pos rfl]
theorem tZ (st:List Str) (l x:Str) (hx:x="if"∨x="while"):dA (st ++ [l]) x=true:=by
 unfold dA
 rw [NM]
 rcases hx with rfl | rfl <;> (show (if _ then _ else _)=true; rw [if_neg (by decide +kernel),if_neg (by decide +kernel),if_neg (by decide +kernel)]; decide +kernel)
theorem AO (st:List Str):dA (st ++ [("if" : Str)]) "else" = true:=by
 unfold dA
 rw [NM]
 show (if _ then _ else _)=true
 rw [if_neg (by decide +kernel),if_pos rfl]
 decide +kernel
theorem vO (st:List Str) {l:Str} (h:l≠"def"):dA (st ++ [l]) "end" = true:=by
 unfold dA
 rw [NM]
 show (if _ then _ else _)=true
 rw [if_neg (by decide +kernel),if_neg (by decide +kernel),if_pos rfl,decide_eq_false h]
 rfl
theorem AQ (st:List Str):dA (st ++ [oq]) "give" = true:=by
 unfold dA
 rw [NM]
 show (if _ then _ else _)=true
 rw [if_pos rfl]
 decide +kernel
theorem zy {st:List Str} (h:st≠[]):∃ s l,st=s ++ [l]:=⟨st.dropLast,st.getLast h,(List.dropLast_concat_getLast h).symm⟩
theorem G' {ys:List Str} {pl:Plan} {bH new dn} (h:ml ys pl bH new dn) (hs:∀ x∈bH,Hd x) :
  jW (some (oq :: bH)) new=some (oq :: dn)∧∀ x∈dn,Hd x:=by
 have hd:∀ st:List Str,∃ s l,oq :: st=s ++ [l]:=fun st=>zy (by simp)
 rcases h with ⟨o,_,rfl,rfl⟩ | ⟨o,_,rfl,rfl⟩ | ⟨y,_,rfl,rfl⟩ | ⟨s0,rfl,rfl,rfl⟩ | ⟨s0,x,es,rfl,e'⟩ | ⟨r,hr,rfl,e'⟩
 · obtain ⟨s,l,e⟩:=hd bH
   refine ⟨?_,?_⟩
   · rw [dh (st:=oq :: bH) (r:=.LZ o) (by rw [e]; exact tZ s l _ (.inl rfl))]
     show some (iQ _ "if")=_
     rw [Me]; rfl
   · intro x hx
     rcases iI.mp hx with hx | hx
     · exact hs x hx
     · simp only [cL,dZ,or_false] at hx; exact .inl hx
 · obtain ⟨s,l,e⟩:=hd bH
   refine ⟨?_,?_⟩
   · rw [dh (st:=oq :: bH) (r:=.Ax o) (by rw [e]; exact tZ s l _ (.inr rfl))]
     show some (iQ _ "while")=_
     rw [r8]; rfl
   · intro x hx
     rcases iI.mp hx with hx | hx
     · exact hs x hx
     · simp only [cL,dZ,or_false] at hx; exact .inr (.inl hx)
 · obtain ⟨s,l,e⟩:=hd bH
   refine ⟨?_,?_⟩
   · have h1:jW (some (oq :: bH)) [Rw.Ax (.nm y)]=some ((oq :: bH) ++ [("while" : Str)]):=by
      rw [dh (st:=oq :: bH) (r:=.Ax (.nm y)) (by rw [e]; exact tZ s l _ (.inr rfl))]
      show some (iQ _ "while")=_
      rw [r8]
     have h2:=r6 (ys:=[y]) (pl:=[]) (r:=.Dk y (.nm y) "minus" (.nu 1)) ⟨by simp,by simp [cQ],by simp [reckon],by decide,by decide⟩ ((oq :: bH) ++ [("while" : Str)]) (by simp)
     show jW (jW (some (oq :: bH)) [Rw.Ax (.nm y)]) [Rw.Dk y (.nm y) "minus" (.nu 1)]=_
     rw [h1,dh h2.1,h2.2]; rfl
   · intro x hx
     rcases iI.mp hx with hx | hx
     · exact hs x hx
     · simp only [cL,dZ,or_false] at hx; exact .inr (.inl hx)
 · refine ⟨?_,?_⟩
   · have e:oq :: (s0 ++ [("if" : Str)])=(oq :: s0) ++ [("if" : Str)]:=rfl
     rw [e,dh (AO _)]
     show some (iQ _ "else")=_
     rw [DO,JC]; rfl
   · intro x hx
     rcases iI.mp hx with hx | hx
     · exact hs x (lM _ hx)
     · simp only [cL,dZ,or_false] at hx; exact .inr (.inr hx)
 · subst es
   subst e'
   refine ⟨?_,fun y hy=>hs y (lM _ hy)⟩
   have e:oq :: (dn ++ [x])=(oq :: dn) ++ [x]:=rfl
   rw [e,dh (vO _ (hs x (by simp)).ne)]
   show some (iQ _ "end")=_
   rw [zx,JC]
 · subst e'
   have:=r6 hr (oq :: dn) (by simp)
   refine ⟨?_,hs⟩
   rw [dh this.1,this.2]
theorem DP {ys:List Str} {pl:Plan} {bH body} (h:Body ys pl bH body):jW (some [oq]) body=some (oq :: bH)∧∀ x∈bH,Hd x:=by
 induction h with
 | nil=>exact ⟨rfl,fun x hx=>nomatch hx⟩
 | step _ h2 ih =>
   have:=G' h2 ih.2
   exact ⟨by rw [jJ,ih.1]; exact this.1,this.2⟩
theorem vP:∀ (n:Nat) (bH:List Str),bH.length=n→(∀ x∈bH,Hd x)→jW (some (oq :: bH)) (List.replicate n .fin)=some [oq]
 | 0,bH,hl,_=>by
   rw [Q3] at hl
   subst hl
   rfl
 | n+1,bH,hl,hs=>by
   obtain ⟨s,l,rfl⟩:=zy (st:=bH) (by intro z; subst z; cases hl)
   rw [Q9]
   show jW (jW (some ((oq :: s) ++ [l])) [Rw.fin]) (List.replicate n .fin)=_
   rw [dh (vO _ (hs l (by simp)).ne)]
   show jW (some (iQ _ "end")) _=_
   rw [zx,JC]
   exact vP n s (by simpa using hl) fun x hx=>hs x (lM _ hx)
theorem Ha {ys:List Str} {pl:Plan} {n:Nat} {rs:List Rw} (h:Pre ys pl n rs):jW (some []) rs=some []:=by
 induction h with
 | zero=>rfl
 | @succ k rs f ps bH body o sk _ hk hb ho hs ih =>
   rw [jJ,ih]
   show jW (jW (some []) [Rw.df f ps]) _=_
   rw [dh (by show dA [] "def" = true; decide +kernel)]
   show jW (some (iQ [] "def")) _=_
   rw [G_,jJ]
   have hB:=DP hb
   show jW (jW (some [oq]) body) _=_
   rw [hB.1,jJ,vP _ bH rfl hB.2]
   show jW (jW (some ([] ++ [oq])) [Rw.give o]) sk=_
   rw [dh (AQ [])]
   show jW (some (iQ _ "give")) sk=_
   rw [DN,JC]
   rcases hs with rfl | rfl
   · rfl
   · rw [dh (by show dA [] "skip" = true; decide +kernel)]
     show some (iQ [] "skip")=_
     rfl
def qz:List (Str×Nat)→Str→Option Nat
 | [],_=>none
 | (k,i) :: l,f=>if k=f then some i else qz l f
theorem t5 (l m:List (Str×Nat)) (f:Str):qz (l ++ m) f=match qz l f with
  | some i=>some i
  | none=>qz m f:=by
 induction l with
 | nil=>rfl
 | cons p l ih =>
   obtain ⟨k,i⟩:=p
   simp only [Rc,qz]
   by_cases h:k=f
   · rw [if_pos h,if_pos h]
   · rw [if_neg h,if_neg h]; exact ih
def Mf (l:List (Str×Nat)) (i:Nat):Rw→List (Str×Nat)
 | .df f _=>match qz l f with
   | some _=>l
   | none=>l ++ [(f,i)]
 | _=>l
def bg (rs:List Rw):Nat→List (Str×Nat)
 | 0=>[]
 | n+1=>match rs[n]? with
   | some r=>Mf (bg rs n) n r
   | none=>bg rs n
theorem pQ {rs:List Rw} {f:Str} {j:Nat}:∀ n,qz (bg rs n) f=some j→j < n∧∃ ps,rs[j]?=some (.df f ps)
 | 0,h=>nomatch h
 | n+1,h=>by
   have old:qz (bg rs n) f=some j→j < n+1∧∃ ps,rs[j]?=some (.df f ps):=fun h=>by
    have:=pQ n h
    exact ⟨by omega,this.2⟩
   simp only [bg] at h
   split at h
   · rename_i r hr
     cases r with
     | df g ps =>
       simp only [Mf] at h
       split at h
       · exact old h
       · rename_i hn
         rw [t5] at h
         split at h
         · rename_i i hi
           cases h
           exact old hi
         · simp only [qz] at h
           split at h
           · rename_i e
             cases h
             subst e
             exact ⟨by omega,ps,hr⟩
           · cases h
     | _=>exact old h
   · exact old h
theorem mE {rs:List Rw} {f:Str} {i:Nat} {ps:List Str} (hi:rs[i]?=some (.df f ps)):∀ n,i < n→∃ j,qz (bg rs n) f=some j
 | 0,h=>absurd h (by omega)
 | n+1,h=>by
   simp only [bg]
   by_cases e:i=n
   · subst e
     rw [hi]
     simp only [Mf]
     cases ha:qz (bg rs i) f with
     | some j=>exact ⟨j,ha⟩
     | none =>
       refine ⟨i,?_⟩
       simp only
       rw [t5,ha]
       simp only [qz,if_true]
   · obtain ⟨j,hj⟩:=mE hi n (by omega)
     split
     · rename_i r hr
       cases r with
       | df g qs =>
         simp only [Mf]
         split
         · exact ⟨j,hj⟩
         · rw [t5,hj]; exact ⟨j,rfl⟩
       | _=>exact ⟨j,hj⟩
     · exact ⟨j,hj⟩
structure mF (rs:List Rw):Prop where
 un:∀ (i i':Nat) (f:Str) (ps Nu:List Str),rs[i]?=some (Rw.df f ps)→rs[i']?=some (Rw.df f Nu)→i=i'
 ca:∀ (i:Nat) (x f:Str) (as:List pq),rs[i]?=some (Rw.call x f as)→∃ (j:Nat) (ps:List Str),i < j∧rs[j]?=some (Rw.df f ps)∧ps.length=as.length
theorem mF.first {rs:List Rw} (h:mF rs) {i:Nat} {f:Str} {ps:List Str} (hi:rs[i]?=some (.df f ps)):qz (bg rs rs.length) f=some i:=by
 obtain ⟨j,hj⟩:=mE hi rs.length (fY.mp hi).1
 obtain ⟨_,qs,hq⟩:=pQ _ hj
 rw [hj,h.un j i f qs ps hq hi]
def xU (pl:Plan):Rw→Prop
 | .df _ _=>False
 | .call _ f as=>∃ ps,(f,ps)∈pl∧as.length=ps.length
 | _=>True
theorem AR {ys:List Str} {pl:Plan} {r:Rw} (h:gB ys pl r):xU pl r:=by
 cases r <;> first
  | exact trivial
  | exact h.elim
  | exact h.2.1
theorem Hb {ys:List Str} {pl:Plan} {bH body} (h:Body ys pl bH body):∀ r∈body,xU pl r:=by
 induction h with
 | nil=>intro r hr; cases hr
 | step _ h2 ih =>
   intro r hr
   rcases iI.mp hr with hr | hr
   · exact ih r hr
   · rcases h2 with ⟨o,ho,rfl,_⟩ | ⟨o,ho,rfl,_⟩ | ⟨y,hy,rfl,_⟩ | ⟨s0,_,rfl,_⟩ | ⟨s0,x,_,rfl,_⟩ | ⟨r',uF,rfl,_⟩
     · simp only [cL,dZ,or_false] at hr; subst hr; trivial
     · simp only [cL,dZ,or_false] at hr; subst hr; trivial
     · simp only [cL,dZ,or_false] at hr; rcases hr with rfl | rfl <;> trivial
     · simp only [cL,dZ,or_false] at hr; subst hr; trivial
     · simp only [cL,dZ,or_false] at hr; subst hr; trivial
     · simp only [cL,dZ,or_false] at hr; subst hr; exact AR uF
structure UE (pl:Plan) (k:Nat) (rs:List Rw):Prop where
 a:∀ (i:Nat) (f:Str) (ps:List Str),rs[i]?=some (Rw.df f ps)→∃ m,m < k∧pl[m]?=some (f,ps)
 c:∀ (i:Nat) (x f:Str) (as:List pq),rs[i]?=some (Rw.call x f as)→∃ (m:Nat) (ps:List Str),pl[m]?=some (f,ps)∧as.length=ps.length∧(m < k→∃ j,i < j∧rs[j]?=some (Rw.df f ps))
 u:∀ (i i':Nat) (f:Str) (ps Nu:List Str),rs[i]?=some (Rw.df f ps)→rs[i']?=some (Rw.df f Nu)→i=i'
theorem PQ {ys:List Str} {pl:Plan} (nd:ys.Nodup) (hP:mn ys pl) {n:Nat} {rs:List Rw} (h:Pre ys pl n rs):UE pl n rs:=by
 induction h with
 | zero=>exact ⟨fun i f ps h=>by simp at h,fun i x f as h=>by simp at h,fun i i' f ps Nu h=>by simp at h⟩
 | @succ k rs f ps bH body o sk _ hk hb ho hs ih =>
   have Pn:=Hb hb
   generalize PR:body ++ (List.replicate bH.length Rw.fin ++ (Rw.give o :: sk))=rest
   have hR:∀ r∈rest,xU (pl.drop (k+1)) r:=by
    intro r hr
    rw [← PR] at hr
    rcases iI.mp hr with hr | hr
    · exact Pn r hr
    · rcases iI.mp hr with hr | hr
      · rw [(List.mem_replicate.mp hr).2]; trivial
      · rcases cL.mp hr with rfl | hr
        · trivial
        · rcases hs with rfl | rfl
          · cases hr
          · simp only [cL,dZ,or_false] at hr; subst hr; trivial
   have split:∀ i r,(rs ++ Rw.df f ps :: rest)[i]?=some r→rs[i]?=some r∨(i=rs.length∧r = .df f ps)∨(rs.length < i∧r∈rest):=by
    intro i r hi
    rcases Nat.lt_trichotomy i rs.length with h | h | h
    · rw [uz h] at hi; exact .inl hi
    · subst h
      rw [BL (d8 _),Nat.sub_self] at hi
      exact .inr (.inl ⟨rfl,(Option.some.inj hi).symm⟩)
    · rw [BL (by omega)] at hi
      obtain ⟨d,hd⟩:∃ d,i - rs.length=d+1:=⟨i - rs.length - 1,by omega⟩
      rw [hd,List.getElem?_cons_succ] at hi
      exact .inr (.inr ⟨h,mW hi⟩)
   have here:(rs ++ Rw.df f ps :: rest)[rs.length]?=some (.df f ps):=by
    rw [BL (d8 _),Nat.sub_self]; rfl
   have left:∀ j r,rs[j]?=some r→(rs ++ Rw.df f ps :: rest)[j]?=some r:=fun j r h=>by
    rw [uz (fY.mp h).1]; exact h
   have Jg:∀ (i:Nat) (g:Str) (qs:List Str),rs[i]?=some (Rw.df g qs)→g≠f:=by
    intro i g qs hi e
    obtain ⟨m,hm,hp⟩:=ih.a i g qs hi
    have h1:=(hP m g qs hp).1
    have h2:=(hP k f ps hk).1
    rw [e] at h1
    obtain ⟨l1,e1⟩:=fY.mp h1
    obtain ⟨l2,e2⟩:=fY.mp h2
    have:=xS nd l1 l2 (e1.trans e2.symm)
    omega
   refine ⟨fun i g qs hi=>?_,fun i x g as hi=>?_,fun i i' g qs Yl hi Cw=>?_⟩
   · rcases split i _ hi with h | ⟨_,e⟩ | ⟨_,h⟩
     · obtain ⟨m,hm,hp⟩:=ih.a i g qs h
       exact ⟨m,by omega,hp⟩
     · cases e; exact ⟨k,by omega,hk⟩
     · exact (hR _ h).elim
   · rcases split i _ hi with h | ⟨_,e⟩ | ⟨_,h⟩
     · obtain ⟨m,qs,hp,hl,hj⟩:=ih.c i x g as h
       refine ⟨m,qs,hp,hl,fun hm=>?_⟩
       by_cases e:m=k
       · subst e
         rw [hk] at hp
         cases hp
         exact ⟨rs.length,(fY.mp h).1,here⟩
       · obtain ⟨j,h1,h2⟩:=hj (by omega)
         exact ⟨j,h1,left j _ h2⟩
     · cases e
     · obtain ⟨qs,hq,hl⟩:=hR _ h
       obtain ⟨m,hm⟩:=List.getElem?_of_mem hq
       rw [List.getElem?_drop] at hm
       exact ⟨k+1+m,qs,hm,hl,fun z=>absurd z (by omega)⟩
   · rcases split i _ hi with h | ⟨h,e⟩ | ⟨_,h⟩
     · rcases split i' _ Cw with h' | ⟨h',e'⟩ | ⟨_,h'⟩
       · exact ih.u i i' g qs Yl h h'
       · cases e'; exact absurd rfl (Jg i _ _ h)
       · exact (hR _ h').elim
     · rcases split i' _ Cw with h' | ⟨h',e'⟩ | ⟨_,h'⟩
       · cases e; exact absurd rfl (Jg i' _ _ h')
       · omega
       · exact (hR _ h').elim
     · exact (hR _ h).elim
theorem DQ {ys:List Str} {pl:Plan} (nd:ys.Nodup) (hP:mn ys pl) {rs:List Rw} (h:Pre ys pl pl.length rs):mF rs:=by
 have P:=PQ nd hP h
 refine ⟨P.u,fun i x f as hi=>?_⟩
 obtain ⟨m,ps,hp,hl,hj⟩:=P.c i x f as hi
 obtain ⟨j,h1,h2⟩:=hj (fY.mp hp).1
 exact ⟨j,ps,h1,h2,hl.symm⟩
end Gen
namespace VT
open PySem PySem.Spec PyProof.Rows L2
section
variable {X:Cx}
end
section
variable {X:Cx} {Z:Zc} {a b:Expr} {fa fb:FE} {pos:Pos}
end
section
variable {X:Cx} {Z:Zc}
def UG:FS:=fun _ _=>False
theorem kz {st:Stmt}:VS X Z st UG:=.mk fun tm pins s σ H D I ⟨_,_,_,_,h,_⟩=>h.elim
theorem Hc:BS X "dict.setdefault" (fun x xs H Q=>∃ (a:Addr) (aZ:List (Key×V)) (k:Key) (v:V),x = .ref a∧xs=[kV k,v]∧H a=some (.dK aZ)∧aZ.length < sizeLine ∧
  (∀ u,iN aZ k=some u→Q u H)∧(iN aZ k=none→Q v (upd H a (.dK (L2.putK aZ k v))))):=by
 intro pins s σ H x xs v us Q I rx rs h
 obtain ⟨a,aZ,k,y,rfl,rfl,ha,n5,q1,q2⟩:=h
 cases rx
 obtain ⟨u1,u2,rfl,Ym,WA⟩:∃ u1 u2,us=[u1,u2]∧RelV (kV k) u1∧RelV y u2:=by
  cases rs with
  | cons r1 t=>cases t with
    | cons r2 t2=>cases t2; exact ⟨_,_,rfl,r1,r2⟩
 obtain ⟨z,hd,vs,rel,dd⟩:=Pt I.bD ha
 refine call_meetsIn PySem.F.slot_dict_setdefault dd.typeIs PySem.F.entry_dict_setdefault (PySem.F.args_dict_setdefault_3 _ _ _) (kt_meets_setdefault (bC X.prog X.w) a (vo Ym) hd u2) ⟨vs,dd,by rw [← rel.length]; omega,fun v0 hv=>?_,fun hn h' GX hs=>?_⟩
 · have xw:=rel.val k
   rw [hv] at xw
   cases e:iN aZ k with
   | none=>rw [e] at xw; cases xw
   | some w0 =>
     rw [e] at xw
     have hr:RelV w0 v0:=xw
     exact ⟨w0,H,I.tok _,hr,q1 w0 e⟩
 · have xw:=rel.val k
   rw [hn] at xw
   cases e:iN aZ k with
   | some w0=>rw [e] at xw; cases xw
   | none =>
     have he:∃ q,h'.get? a=some q:=let ⟨q,_,_,hq,_⟩:=GX; ⟨q,hq⟩
     have hl:(L2.putK aZ k y).length≤sizeLine:=by have:=vn aZ k y; omega
     exact ⟨y,_,GQ (t':=s.toks+1) I (by rw [ha]; exact True.intro) hs he (LS hl hd (rel.put k WA) GX),WA,q2 e⟩
end
section
variable {X:Cx} {Z:Zc} {e1 e2:Expr} {f1 f2:FE} {apos bc:Pos}
def Jh (n:Nat) (f1 f2:FE):FX:=fun ρ Q=>match ρ[n]? with
 | some (some (.dk ks ts,true))=>f1 ρ fun x=>f2 ρ fun y=>match Av x with
   | some k=>ts.length < 16777216∧match gn ks ts k with
     | some t=>Q ρ (.vw t)
     | none=>Q (ρ.set n (some (.dk (ks ++ [k]) (ts ++ [y]),true))) (.vw y)
   | none=>False
 | _=>False
theorem He (n:Nat) {x:Str} {p:Pos} (h1:VE X Z e1 f1) (h2:VE X Z e2 f2)
  (hN:X.N[n]?=some x:=by rfl) (hv:sI X.env.scope x:=by first | exact Or.inl rfl | exact Or.inr (Or.inl rfl) | exact Or.inr (Or.inr rfl)) (hd:gh x:=by decide)
  (iL:uH x:=by decide) (fu:attributeBase (.Name x p) "setdefault" X.env (eval (.Name x p) X.env)=eval (.Name x p) X.env:=by rfl)
  (oF:((backTo bc (starEach [e1,e2] X.env)).all (fun x=>!x.1) && (backToKw bc (keywordEach [] X.env)).all (fun x=>x.1.isSome)
    && decide (([e1,e2]:List Expr).length+([]:List Keyword).length+(if ([]:List Keyword).isEmpty then 0 else 1) < 30))=true:=by rfl)
  (fz:(apos.endLine == bc.line)=true:=by rfl) (hs:starEach [e1,e2] X.env=(false,eval e1 X.env) :: starEach [e2] X.env:=by rfl) (uE:starEach [e2] X.env=(false,eval e2 X.env) :: starEach [] X.env:=by rfl)
  (fB:(backTo bc (starEach [e2] X.env)).any (·.1)=false:=by rfl) :
  VX X Z (.Call (.Attribute (.Name x p) "setdefault" apos) [e1,e2] [] bc) (Jh n f1 f2):=.mk fun tm =>
 PE.weak (uP Sf PySem.F.slot_dict_setdefault PySem.F.type_dict_setdefault Hc (di hN hv hd iL) (bh (h1 tm) (bh (h2 tm) cx uE) hs) fu oF fz hs fB) fun σ H Q ⟨ρ,O,q,I,hf,kk⟩=>by
  unfold Jh at hf
  split at hf
  · rename_i ks ts e0
    obtain ⟨l,g1,g2,xs,hl,g3,g4⟩:=I.root e0
    have ha:l∈av Z O:=lM _ (aN.mpr (mW g1))
    refine ⟨.ref l,g2,.inr (.inr (.inl ⟨rfl,.inl ⟨_,g3⟩⟩)),ρ,O,_,I,hf,fun t ht v H1 s1 a1=>⟨ρ,O,_,I.same s1,ht,fun y hy w H2 s2 a2=>?_⟩⟩
    split at hy
    · rename_i Nv ek
      obtain ⟨hlen,hy⟩:=hy
      have ev:v=kV Nv:=tO (.inl a1) ek
      subst ev
      have hz:(ks.zip xs).length < sizeLine:=by
       rw [sizeLine_eq,List.length_zip,hl,Nat.min_self,g4.length]
       omega
      have J:=(I.same s1).same s2
      have b4:=(g4.same s1).same s2
      refine ⟨l,ks.zip xs,Nv,w,rfl,rfl,s2 _ _ (s1 _ _ g3),hz,fun u hu=>?_,fun hn=>?_⟩
      · rw [fK] at hu
        cases eg:gn ks ts Nv with
        | none=>rw [(hX b4).2 eg] at hu; cases hu
        | some t0 =>
          rw [eg] at hy
          obtain ⟨v0,e1,e2⟩:=(hX b4).1 t0 eg
          rw [e1] at hu
          cases hu
          exact kk _ _ hy O _ _ ⟨J,e2⟩
      · rw [fK] at hn
        cases eg:gn ks ts Nv with
        | some t0 =>
          obtain ⟨v0,e1,e2⟩:=(hX b4).1 t0 eg
          rw [e1] at hn
          cases hn
        | none =>
          rw [eg] at hy
          have e1:L2.putK (ks.zip xs) Nv w=(ks ++ [Nv]).zip (xs ++ [w]):=by
           rw [C9 _ (by rw [fK]; exact hn),List.zip_append hl]
           rfl
          rw [e1]
          refine kk _ _ hy O _ _ ⟨J.wrote e0 g1 ⟨xs ++ [w],by simp [hl],aQ,?_⟩,a2.wrote ha (s2 _ _ (s1 _ _ g3)) rfl⟩
          exact (b4.append (aE.cons a2 aE.nil)).wrote ha (s2 _ _ (s1 _ _ g3)) rfl
    · exact hy.elim
  · exact hf.elim
end
end VT
namespace cN
open PySem L2 VT Gen wC
abbrev bj:Stmt:=top 31
abbrev cO:Stmt:=top 32
abbrev bZ:Stmt:=top 33
abbrev je:Stmt:=top 34
abbrev gG:Stmt:=top 35
abbrev ck:Stmt:=top 36
abbrev ib:Stmt:=top 37
abbrev eM:Stmt:=top 38
structure xV (w:World) (K:PySem.W.Frag) (mg:Str→Option Value):Prop where
 mG:∃ t,mg "MOST_ROWS" = some (.int 60 t)
 Hf:∃ a,mg "OPENERS" = some (.ref a)∧∀ H,d9 K H a [.str "def",.str "if",.str "while"]
 Hg:∃ a,mg "CLOSERS" = some (.ref a)∧∀ H,d9 K H a [.str "give",.str "end"]
 list:mg "list" = none
 len:mg "len" = none
 enumerate:mg "enumerate" = none
structure Acc (rs:List Rw):Prop where
 n:rs.length≤60
 g:∀ r∈rs,jd (aV r)
 b:jW (some []) rs=some []
 d:mF rs
def Mg (ts:List T) (q:Rt→Prop):Prop:=∃ (st:List Str) (x:Str),ts=[.lst (st.map .str),.str x]∧q (.vw (.bl (dA st x)))
def UH:GT:=fun ts q=>∃ (st:List Str) (x:Str),ts=[.lst (st.map .str),.str x]∧st.length≤1000∧dA st x=true∧q [.lst ((iQ st x).map .str)] (.vw .br)
def xW (ts:List T) (q:Rt→Prop):Prop:=∃ rs:List Rw,ts=[.lst (rs.map aV)]∧(∀ r∈rs,jd (aV r))∧q (.vw .br)
def gH (ts:List T) (q:Rt→Prop):Prop:=∃ rs:List Rw,ts=[.lst (rs.map aV)]∧rs.length≤60∧jW (some []) rs=some []∧q (.vw .br)
def Hh (l:List (Str×Nat)):T:=.dk (l.map fun p=>(Sum.inr p.1:Key)) (l.map fun p=>T.int (p.2:Int))
def xX (ts:List T) (q:Rt→Prop):Prop:=∃ rs:List Rw,ts=[.lst (rs.map aV)]∧rs.length≤60∧q (.fr (Hh (bg rs rs.length)))
def vQ (ts:List T) (q:Rt→Prop):Prop:=∃ (rs:List Rw) (l:List (Str×Nat)) (i:Nat) (x f:Str) (as:List pq) (j:Nat) (ps:List Str),ts=[.lst (rs.map aV),Hh l,.int (i:Int)]∧rs[i]?=some (Rw.call x f as)∧qz l f=some j∧i≤j∧rs[j]?=some (Rw.df f ps)∧ps.length=as.length∧q (.vw (.bl true))
def jK (ts:List T) (q:Rt→Prop):Prop:=∃ rs:List Rw,ts=[.lst (rs.map aV)]∧rs.length≤60∧mF rs∧q (.vw .br)
def t6 (ts:List T) (q:Rt→Prop):Prop:=∃ rs:List Rw,ts=[.lst (rs.map aV)]∧Acc rs∧q (.fr (.lst (rs.map aV)))
theorem ot {rs:List Rw} {i:Nat} {r:Rw} (h:rs[i]?=some r):lQ (rs.map aV) (i:Int)=some (aV r):=aB (by rw [nV,h]; rfl)
theorem pR (l:List (Str×Nat)) (f:Str):gn (l.map fun p=>(Sum.inr p.1:Key)) (l.map fun p=>T.int (p.2:Int)) (Sum.inr f)=(qz l f).map fun i=>T.int (i:Int):=by
 induction l with
 | nil=>rfl
 | cons p l ih =>
   obtain ⟨k,i⟩:=p
   simp only [jY,gn,qz]
   by_cases h:k=f
   · rw [if_pos h,if_pos (by rw [h])]; rfl
   · rw [if_neg h,if_neg (fun z=>h (Sum.inr.inj z))]; exact ih
theorem pS (rs:List Rw):∀ n,(bg rs n).length≤n
 | 0=>d8 _
 | n+1=>by
   have:=pS rs n
   simp only [bg]
   split
   · rename_i r _
     cases r <;> simp only [Mf] <;> first
      | omega
      | (split <;> simp <;> omega)
   · omega
section
variable {P:Program} {w:World} {K:PySem.W.Frag} {mg:Str→Option Value} {base:Heap}
abbrev vR:List Str:=["opened","word"]
theorem ll:aG vR ["opened","word"] (aj je):=L2.g7
theorem t7 {f:Addr} {fd:FuncData} (D:Df K mg "may_stand" je ["opened","word"] f fd) (M:xV w K mg):cm P w K mg base "may_stand" ["opened","word"] 1 (b_ K 2 Mg):=by
 refine D.ko (lU D.F ll rfl fun bE A outer s H E Ox hr ts q hG=>?_)
 have nd:=ll.nd
 have hu:=bx.iM hr
 refine ⟨_,(af (aP (bJ hu (VP.vr (ay az aA (by rfl) M.len iA (ao (ae 0) au))) (VP.vr ag))
    (ah (aH (VP.vx (IT (ae 1) (VP.vr (aI (aa (VP.ve aq) (aa (VP.ve aq) ai))))))))
    ax)
   (af (aP (bJ hu (ae 1) (VP.vr aq))
     (ah (aH (VP.vx (rK hu (VP.vr (aW (ae 0) (VP.vr (kj (VP.vr ag))))) (VP.vr aq)))))
     ax)
   (af (aP (bJ hu (ae 1) (VP.vr aq))
     (ah (aH (VP.vx (rK hu (VP.vr (aW (ae 0) (VP.vr (kj (VP.vr ag))))) (VP.vr aq)))))
     ax)
   (af (aP (bJ hu (ae 1) (VP.vr aq))
     (ah (aH (VP.vx (IG hu (VP.vr (aW (ae 0) (VP.vr (kj (VP.vr ag))))) (VP.vr aq)))))
     ax)
   (ah (aH (VP.vx (IG hu (ae 1) (VP.vr aq))))))))),fun _=>?_⟩
 obtain ⟨st,x,rfl,hq⟩:=hG
 rcases Q8 st with e | ⟨s0,l,e⟩
 · subst e
   exact ⟨small (by simp),rfl,rfl,hq⟩
 · rw [List.concat_eq_append] at e
   have hl:((st.map T.str).length:Int)≠0:=by rw [e]; simp; omega
   have ex:lQ (st.map T.str) (-1)=some (T.str l):=by rw [e,yL]; exact uO _ _
   unfold dA at hq
   rw [e,NM] at hq
   refine ff (c:=decide (((st.map T.str).length:Int)=0)) (decide_eq_false hl) ?_
   have gq:q (.vw (.bl (if x="give" then decide (l="def") else if x="else" then decide (l="if") else if x="end" then !decide (l="def") else !decide (x="def")))):=hq
   refine bX (fun h=>?_) (fun h=>?_)
   · rw [if_pos h] at gq; exact ⟨_,ex,gq⟩
   · rw [if_neg h] at gq
     refine bX (fun h=>?_) (fun h=>?_)
     · rw [if_pos h] at gq; exact ⟨_,ex,gq⟩
     · rw [if_neg h] at gq
       refine bX (fun h=>?_) (fun h=>?_)
       · rw [if_pos h] at gq; exact ⟨_,ex,gq⟩
       · rw [if_neg h] at gq; exact gq
abbrev ic:List Str:=["program","place","row"]
theorem cW:aG ic ["program"] (aj cO):=L2.g7
theorem j9 {f:Addr} {fd:FuncData} (D:Df K mg "check_rows" cO ["program"] f fd) (M:xV w K mg) (pT:cm P w K mg base "is_row" ["row"] 5 (b_ K 1 Ma)):cm P w K mg base "check_rows" ["program"] 6 (b_ K 1 xW):=by
 obtain ⟨DR,AS,pU,pV,pW,pX⟩:=pT
 refine D.ko (lU D.F cW rfl fun bE A outer s H E Ox hr ts q hG=>?_)
 have nd:=cW.nd
 have np:∀ {i:Nat},aY ⟨H,[],Ox⟩ i:=kJ
 refine ⟨_,(ah (dF BM rfl (hV (by rfl) M.enumerate (ak 0)) (hU (n:=2) rfl (bz (bb (i:=1) nd rfl (Or.inl rfl) np) (bz (bb (i:=2) nd rfl (Or.inl rfl) np) e8)))
   (ah (aP (dm (dj (aM pX (hr.mono (by decide)) (by rfl) pU pV pW (aa (ak 2) ai))))
     (ah kz)
     ax)))),fun _=>?_⟩
 obtain ⟨rs,rfl,hg,hq⟩:=hG
 refine eJ (fun i ρ=>∃ b1 b2,ρ=[some (.lst (rs.map aV),false),b1,b2]) ⟨_,_,rfl⟩ ?_ ?_
 · rintro i r ρ hr ⟨b1,b2,rfl⟩
   obtain ⟨x,ps,ex,RM,UI,Yn⟩:=hg r (mW hr)
   refine ⟨rfl,rfl,rfl,x,ps,by rw [← ex],by omega,UI,?_⟩
   rw [Yn]
   exact ⟨_,_,rfl⟩
 · rintro ρ ⟨b1,b2,rfl⟩
   exact hq
abbrev mI:List Str:=["opened","word"]
theorem pY:aG mI ["opened","word"] (aj gG):=L2.g7
theorem xY {f:Addr} {fd:FuncData} (D:Df K mg "go_past" gG ["opened","word"] f fd) (M:xV w K mg):cm P w K mg base "go_past" ["opened","word"] 1 (qL K [true,false] UH):=by
 refine D.ko (TV D.F pY rfl fun bE A outer s H E as Ox hr ts q hl hG=>?_)
 have nd:=pY.nd
 have hu:=bx.iM hr
 obtain ⟨aO,mO,hO⟩:=M.Hf
 obtain ⟨aC,mC,hC⟩:=M.Hg
 have AU:∀ {pos},VP (d0 iW P w K mg base mI "go_past" (aj gG) f bE A outer s H E).nY ⟨H,pz [true,false] as 0,Ox⟩ (.Name "OPENERS" pos) (fC (.tup [.str "def",.str "if",.str "while"])):=eO (by rfl) mO (v:=.ref aO) rfl fun H A=>bA (hO H) (aE.cons cc (aE.cons cc (aE.cons cc aE.nil)))
 have AV:∀ {pos},VP (d0 iW P w K mg base mI "go_past" (aj gG) f bE A outer s H E).nY ⟨H,pz [true,false] as 0,Ox⟩ (.Name "CLOSERS" pos) (fC (.tup [.str "give",.str "end"])):=eO (by rfl) mC (v:=.ref aC) rfl fun H A=>bA (hC H) (aE.cons cc (aE.cons cc aE.nil))
 refine ⟨_,(ah (aP (zg (ae 1) (VP.vr AU))
    (ah (aX (cP 0 uA uB bf ba (aa (ak 1) ai))))
    (ah (aP (zg (ae 1) (VP.vr AV))
      (ah (aX (CK 0 PySem.F.slot_list_pop PySem.F.type_list_pop Cp zc)))
      (ah (aP (bJ hu (ae 1) (VP.vr aq))
        (ah (xj 0 (VP.ve aq) (VP.vr (kj (VP.vr ag)))))
        ax)))))),?_⟩
 obtain ⟨st,x,rfl,hl,hm,hq⟩:=hG
 have e1:xm (.str x) [.str "def",.str "if",.str "while"]=decide (x="def"∨x="if"∨x="while"):=by
  have:=tY x ["def","if","while"]
  rw [show ([.str "def",.str "if",.str "while"]:List T)=(["def","if","while"]:List Str).map .str from rfl,this]
  simp
 have e2:xm (.str x) [.str "give",.str "end"]=decide (x="give"∨x="end"):=by
  have:=tY x ["give","end"]
  rw [show ([.str "give",.str "end"]:List T)=(["give","end"]:List Str).map .str from rfl,this]
  simp
 unfold iQ at hq
 refine ⟨rfl,rfl,?_⟩
 rw [e1]
 refine bX (fun h=>?_) (fun h=>?_)
 · rw [if_pos h] at hq
   refine ⟨(by rw [sizeLine_eq,cu]; omega),?_⟩
   show q [.lst (st.map .str ++ [.str x])] _
   rw [yL] at hq
   exact hq
 · rw [if_neg h] at hq
   refine ⟨rfl,rfl,?_⟩
   rw [e2]
   have ne:(x="give"∨x="end")∨x="else"→∃ s0 l,st=s0 ++ [l]:=fun hx=>by
    rcases Q8 st with e | ⟨s0,l,e⟩
    · subst e
      exfalso
      rcases hx with (rfl | rfl) | rfl <;> exact absurd hm (by decide +kernel)
    · exact ⟨s0,l,by rw [e,R9]⟩
   refine bX (fun h2=>?_) (fun h2=>?_)
   · rw [if_pos h2] at hq
     obtain ⟨s0,l,rfl⟩:=ne (.inl h2)
     refine ⟨rfl,.str l,by simp,?_⟩
     show q [.lst (((s0 ++ [l]).map T.str).dropLast)] _
     rw [JC] at hq
     rw [yL]
     show q [.lst ((s0.map T.str ++ [T.str l]).dropLast)] _
     rw [JC]
     exact hq
   · rw [if_neg h2] at hq
     refine bX (fun h3=>?_) (fun h3=>?_)
     · rw [if_pos h3] at hq
       obtain ⟨s0,l,rfl⟩:=ne (.inr h3)
       have GL:((s0 ++ [l]).map T.str).length=s0.length+1:=by simp
       refine ⟨s0.length,?_,?_⟩
       · unfold yV
         rw [GL,if_neg (by decide),if_pos (by omega)]
         congr 1
         omega
       · show q [.lst (((s0 ++ [l]).map T.str).set s0.length (T.str "else"))] _
         rw [JC] at hq
         have e3:((s0 ++ [l]).map T.str).set s0.length (T.str "else")=(s0 ++ [("else" : Str)]).map T.str:=by simp
         rw [e3]
         exact hq
     · rw [if_neg h3] at hq
       exact hq
abbrev fV:List Str:=["program","opened","place","row"]
theorem cf:aG fV ["program"] (aj bZ):=L2.g7
theorem iG {f:Addr} {fd:FuncData} (D:Df K mg "check_blocks" bZ ["program"] f fd) (M:xV w K mg) (jf:cm P w K mg base "may_stand" ["opened","word"] 1 (b_ K 2 Mg)) (mJ:cm P w K mg base "go_past" ["opened","word"] 1 (qL K [true,false] UH)):cm P w K mg base "check_blocks" ["program"] 3 (b_ K 1 gH):=by
 obtain ⟨vS,t8,jg,jh,ji,jj⟩:=jf
 obtain ⟨AW,xZ,mK,mQ,mT,mU⟩:=mJ
 refine D.ko (lU D.F cf rfl fun bE A outer s H E Ox hr ts q hG=>?_)
 have nd:=cf.nd
 have np:∀ {i:Nat},aY ⟨H,[],Ox⟩ i:=kJ
 refine ⟨_,(af (eU (i:=1) nd rfl (Or.inl rfl) (VP.vx (bW ai)) np)
   (af (dF BM rfl (hV (by rfl) M.enumerate (ak 0)) (hU (n:=2) rfl (bz (bb (i:=2) nd rfl (Or.inl rfl) np) (bz (bb (i:=3) nd rfl (Or.inl rfl) np) e8)))
     (af (aP (dm (dj (gz jj (hr.mono (by decide)) (by rfl) jg jh ji (ao (ae 1) (ao (VP.vr (aW (ae 3) (VP.vr ag))) au)))))
       (ah kz)
       ax)
     (ah (aX (oW mU (hr.mono (by decide)) (by rfl) mK mQ mT (og 1 (i9 (VP.ve (aW (ae 3) (VP.vr ag))) sZ)))))))
   (ah (aP (mZ (VP.vr (ay az aA (by rfl) M.len iA (ao (ae 1) au))) (VP.vr ag))
     (ah kz)
     ax)))),fun _=>?_⟩
 obtain ⟨rs,rfl,hn,hb,hq⟩:=hG
 refine ⟨kK _,?_⟩
 refine eJ (fun i ρ=>∃ b2 b3 st,ρ=[some (.lst (rs.map aV),false),some (.lst (st.map .str),true),b2,b3]∧jW (some []) (rs.take i)=some st∧st.length≤i) ⟨_,_,[],rfl,rfl,kK _⟩ ?_ ?_
 · rintro i r ρ hr ⟨b2,b3,st,rfl,hs,hl⟩
   have hi:=(fY.mp hr).1
   obtain ⟨s',e1,hm,e2⟩:=DM hb i hr
   rw [hs] at e1
   cases e1
   obtain ⟨l,el⟩:=zw r
   rw [el]
   refine ⟨rfl,rfl,_,aB (j:=0) rfl,rfl,st,wd r,rfl,?_⟩
   rw [hm]
   refine ⟨rfl,_,aB (j:=0) rfl,st,wd r,rfl,by omega,hm,?_⟩
   refine ⟨_,_,iQ st (wd r),rfl,e2,?_⟩
   unfold iQ
   split
   · rw [nU]; simp; omega
   · split
     · rw [NL]; omega
     · split
       · rw [nU,NL]; simp
         cases st with
         | nil=>rename_i z; rw [z] at hm; exact absurd hm (by decide +kernel)
         | cons a t=>simp at hl ⊢; omega
       · omega
 · rintro ρ ⟨b2,b3,st,rfl,hs,_⟩
   rw [List.take_length,hb] at hs
   cases hs
   exact hq
abbrev t9:List Str:=["program","firsts","place","row"]
theorem j_:aG t9 ["program"] (aj ib):=L2.g7
theorem qY {f:Addr} {fd:FuncData} (D:Df K mg "first_defs" ib ["program"] f fd) (M:xV w K mg):cm P w K mg base "first_defs" ["program"] 1 (b_ K 1 xX):=by
 refine D.ko (lU D.F j_ rfl fun bE A outer s H E Ox hr ts q hG=>?_)
 have nd:=j_.nd
 have hu:=bx.iM hr
 have np:∀ {i:Nat},aY ⟨H,[],Ox⟩ i:=kJ
 refine ⟨_,(af (eU (i:=1) nd rfl (Or.inl rfl) (VP.vx GU) np)
   (af (dF BM rfl (hV (by rfl) M.enumerate (ak 0)) (hU (n:=2) rfl (bz (bb (i:=2) nd rfl (Or.inl rfl) np) (bz (bb (i:=3) nd rfl (Or.inl rfl) np) e8)))
     (ah (aP (bJ hu (VP.vr (aW (ae 3) (VP.vr ag))) (VP.vr aq))
       (ah (aX (He 1 (VP.ve (aW (ae 3) (VP.vr ag))) (ak 2))))
       ax)))
   (ah (aH (g_ 1 np))))),fun _=>?_⟩
 obtain ⟨rs,rfl,hn,hq⟩:=hG
 refine eJ (fun i ρ=>∃ b2 b3,ρ=[some (.lst (rs.map aV),false),some (Hh (bg rs i),true),b2,b3]) ⟨_,_,rfl⟩ ?_ ?_
 · rintro i r ρ hr ⟨b2,b3,rfl⟩
   have hi:=(fY.mp hr).1
   have hlen:((bg rs i).map fun p=>T.int (p.2:Int)).length < 16777216:=by
    rw [cu]; have:=pS rs i; omega
   have es:bg rs (i+1)=Mf (bg rs i) i r:=by simp only [bg,hr]
   cases r with
   | df g ps =>
     refine ⟨rfl,rfl,_,aB (j:=0) rfl,?_⟩
     refine ⟨_,aB (j:=1) rfl,hlen,?_⟩
     rw [es]
     simp only [Mf]
     rw [pR]
     cases ha:qz (bg rs i) g with
     | some j=>exact ⟨_,_,rfl⟩
     | none =>
       show ∃ b2 b3,_=[_,some (Hh (bg rs i ++ [(g,i)]),true),b2,b3]
       have ef:Hh (bg rs i ++ [(g,i)]) = .dk (((bg rs i).map fun p=>(Sum.inr p.1:Key)) ++ [Sum.inr g]) (((bg rs i).map fun p=>T.int (p.2:Int)) ++ [T.int (i:Int)]):=by
        simp only [Hh,yL,jY,JH]
       rw [ef]
       exact ⟨_,_,rfl⟩
   | _ =>
     refine ⟨rfl,rfl,_,aB (j:=0) rfl,?_⟩
     rw [es]
     exact ⟨_,_,rfl⟩
 · rintro ρ ⟨b2,b3,rfl⟩
   exact hq
abbrev kA:List Str:=["program","firsts","place","row","first"]
theorem eR:aG kA ["program","firsts","place"] (aj eM):=L2.g7
theorem ni {f:Addr} {fd:FuncData} (D:Df K mg "may_call" eM ["program","firsts","place"] f fd) (M:xV w K mg):cm P w K mg base "may_call" ["program","firsts","place"] 1 (b_ K 3 vQ):=by
 refine D.ko (lU D.F eR rfl fun bE A outer s H E Ox hr ts q hG=>?_)
 have nd:=eR.nd
 have hu:=bx.iM hr
 have np:∀ {i:Nat},aY ⟨H,[],Ox⟩ i:=kJ
 have wD:=zp hu
 refine ⟨_,(af (aL (i:=3) nd rfl (Or.inl rfl) (VP.vx (aW (ae 0) (ae 2))) np)
  (af (aL (i:=4) nd rfl (Or.inl rfl) (VP.vx (Dh wD (ae 1) (VP.vr (aW (ae 3) (VP.vr ag))) ⟨rfl,rfl,rfl,rfl⟩)) np)
  (af (aP (VW.vc (iZ (rN (ae 4) (VP.vr iY)) (gk (i7 (ae 4) (ae 2)))))
    (ah (aH (VP.vx j4)))
    ax)
  (ah (aH (VP.vx (rK hu (VP.vr (ay az aA (by rfl) M.len iA (ao (VP.vr (aW (VP.vr (aW (ae 0) (ae 4))) (VP.vr ag))) au))) (VP.vr (ay az aA (by rfl) M.len iA (ao (VP.vr (aW (ae 3) (VP.vr ag))) au)))))))))),fun _=>?_⟩
 obtain ⟨rs,l,i,x,g,as,j,ps,rfl,hi,ha,F8,hj,hl,hq⟩:=hG
 refine ⟨_,ot hi,_,aB (j:=2) rfl,?_⟩
 have ex:=pR l g
 rw [ha] at ex
 dsimp only [Rt.t,Av]
 rw [ex]
 refine ff (c:=decide ((j:Int) < (i:Int))) (decide_eq_false (by omega)) ?_
 refine ⟨_,ot hj,_,aB (j:=2) rfl,_,aB (j:=3) rfl,?_⟩
 show q (.vw (.bl (decide (((ps.map T.str).length:Int)=((as.map qW).length:Int)))))
 rw [cu,cu,decide_eq_true (by omega)]
 exact hq
abbrev gr:List Str:=["program","firsts","place","row"]
theorem cz:aG gr ["program"] (aj ck):=L2.g7
theorem jk {f:Addr} {fd:FuncData} (D:Df K mg "check_calls" ck ["program"] f fd) (M:xV w K mg) (ie:cm P w K mg base "first_defs" ["program"] 1 (b_ K 1 xX)) (kB:cm P w K mg base "may_call" ["program","firsts","place"] 1 (b_ K 3 vQ)):cm P w K mg base "check_calls" ["program"] 3 (b_ K 1 jK):=by
 obtain ⟨t_,qZ,ig,ij,ik,il⟩:=ie
 obtain ⟨x4,vT,kC,kD,kE,kF⟩:=kB
 refine D.ko (lU D.F cz rfl fun bE A outer s H E Ox hr ts q hG=>?_)
 have nd:=cz.nd
 have hu:=bx.iM hr
 have np:∀ {i:Nat},aY ⟨H,[],Ox⟩ i:=kJ
 have wD:=zp hu
 refine ⟨_,(af (aL (i:=1) nd rfl (Or.inl rfl) (VP.vx (aM il (hr.mono (by decide)) (by rfl) ig ij ik (aa (ak 0) ai))) np)
   (ah (dF BM rfl (hV (by rfl) M.enumerate (ak 0)) (hU (n:=2) rfl (bz (bb (i:=2) nd rfl (Or.inl rfl) np) (bz (bb (i:=3) nd rfl (Or.inl rfl) np) e8)))
     (af (aP (VW.vc (ei (bJ hu (VP.vr (aW (ae 3) (VP.vr ag))) (VP.vr aq)) (dc (kW hu (VP.vr (Dg wD (ae 1) (VP.vr (aW (ae 3) (VP.vr ag))))) (ae 2)))))
       (ah kz)
       ax)
     (ah (aP (VW.vc (ei (bJ hu (VP.vr (aW (ae 3) (VP.vr ag))) (VP.vr aq)) (dc (dm (dj (aM kF (hr.mono (by decide)) (by rfl) kC kD kE (aa (ak 0) (aa (ak 1) (aa (ak 2) ai)))))))))
       (ah kz)
       ax)))))),fun _=>?_⟩
 obtain ⟨rs,rfl,hn,hd,hq⟩:=hG
 refine ⟨rfl,rs,rfl,hn,?_⟩
 refine eJ (fun i ρ=>∃ b2 b3,ρ=[some (.lst (rs.map aV),false),some (Hh (bg rs rs.length),false),b2,b3]) ⟨_,_,rfl⟩ ?_ ?_
 · rintro i r ρ hr ⟨b2,b3,rfl⟩
   cases r with
   | df g ps =>
     refine ⟨rfl,rfl,_,aB (j:=0) rfl,_,aB (j:=1) rfl,?_⟩
     have ex:=pR (bg rs rs.length) g
     rw [hd.first hr] at ex
     exact ⟨_,ex,ff (c:=!decide ((i:Int)=(i:Int))) (by simp) ⟨_,aB (j:=0) rfl,_,_,rfl⟩⟩
   | call x g as =>
     obtain ⟨j,ps,F8,hj,hl⟩:=hd.ca i x g as hr
     refine ⟨rfl,rfl,_,aB (j:=0) rfl,_,aB (j:=0) rfl,rfl,rs,_,i,x,g,as,j,ps,rfl,hr,hd.first hj,by omega,hj,hl,?_⟩
     exact ⟨_,_,rfl⟩
   | _=>exact ⟨rfl,rfl,_,aB (j:=0) rfl,_,aB (j:=0) rfl,_,_,rfl⟩
 · rintro ρ ⟨b2,b3,rfl⟩
   exact hq
abbrev bT:List Str:=["rows","program"]
theorem bK:aG bT ["rows"] (aj bj):=L2.g7
theorem gu {f:Addr} {fd:FuncData} (D:Df K mg "program_of" bj ["rows"] f fd) (M:xV w K mg) (dR:cm P w K mg base "check_rows" ["program"] 6 (b_ K 1 xW)) (cA:cm P w K mg base "check_blocks" ["program"] 3 (b_ K 1 gH)) (cX:cm P w K mg base "check_calls" ["program"] 3 (b_ K 1 jK)):cm P w K mg base "program_of" ["rows"] 7 (b_ K 1 t6):=by
 obtain ⟨lp,j',dS,dU,dW,dX⟩:=dR
 obtain ⟨jm,iH,cD,cF,cH,cJ⟩:=cA
 obtain ⟨ka,jo,cY,cZ,c9,c_⟩:=cX
 refine D.ko (lU D.F bK rfl fun bE A outer s H E Ox hr ts q hG=>?_)
 have nd:=bK.nd
 have np:∀ {i:Nat},aY ⟨H,[],Ox⟩ i:=kJ
 obtain ⟨tM,mM⟩:=M.mG
 have eS:∀ {pos},VP (d0 iW P w K mg base bT "program_of" (aj bj) f bE A outer s H E).nY ⟨H,[],Ox⟩ (.Name "MOST_ROWS" pos) (fC (.int 60)):=eO (by rfl) mM (v:=.int 60) ⟨_,rfl⟩ fun _ _=>bq
 refine ⟨_,(af (eU (i:=1) nd rfl (Or.inl rfl) (VP.vx (dw dC fF (by rfl) M.list o8 (ao (ae 0) au))) np)
  (af (aP (mZ (VP.vr (ay az aA (by rfl) M.len iA (ao (ae 1) au))) (VP.vr eS))
    (ah kz)
    ax)
  (af (aX (VP.vx (gz dX (hr.mono (by decide)) (by rfl) dS dU dW (ao (ae 1) au))))
  (af (aX (VP.vx (gz cJ (hr.mono (by decide)) (by rfl) cD cF cH (ao (ae 1) au))))
  (af (aX (VP.vx (gz c_ (hr.mono (by decide)) (by rfl) cY cZ c9 (ao (ae 1) au))))
  (ah (aH (g_ 1 np)))))))),fun _=>?_⟩
 obtain ⟨rs,rfl,hA,hq⟩:=hG
 have hn:=hA.n
 have hl:((rs.map aV).length:Int)=(rs.length:Int):=by rw [cu]
 refine ff (c:=decide ((60:Int) < ((rs.map aV).length:Int))) (decide_eq_false (by omega)) ?_
 exact ⟨rfl,rs,rfl,hA.g,rfl,rfl,rs,rfl,hA.n,hA.b,rfl,rfl,rs,rfl,hA.n,hA.d,rfl,hq⟩
end
end cN
namespace Gen
open PySem L2 VT
def brk (st:List Str):List Rw→Nat→Option Nat
 | [],i=>if st=[] then none else some i
 | r :: rs,i=>if dA st (wd r)=true then brk (iQ st (wd r)) rs (i+1) else some i
theorem Hi {α:Type} {l:List α} {i:Nat} {x:α} (h:l[i]?=some x):l.drop i=x :: l.drop (i+1):=by
 obtain ⟨hi,e⟩:=fY.mp h
 rw [← e]; exact (QZ hi)
def ua (rs:List Rw) (i:Nat) (f:Str) (as:List pq):Bool:=match qz (bg rs rs.length) f with
 | none=>false
 | some j=>if j < i then false else match rs[j]? with
   | some (.df _ ps)=>decide (ps.length=as.length)
   | _=>false
theorem AX {rs:List Rw} {i:Nat} {f:Str} {as:List pq} (h:qz (bg rs rs.length) f=none):ua rs i f as=false:=by unfold ua; rw [h]
theorem r9 {rs:List Rw} {i j:Nat} {f g:Str} {ps:List Str} {as:List pq} (h:qz (bg rs rs.length) f=some j) (hj:rs[j]?=some (.df g ps)):ua rs i f as=if j < i then false else decide (ps.length=as.length):=by
 unfold ua
 rw [h]
 dsimp only
 rw [hj]
theorem zA {c:Bool} {A B:Prop} (hc:c=true) (h:A):if c=true then A else B:=by rw [if_pos hc]; exact h
def dY (rs:List Rw) (i:Nat):Bool:=match rs[i]? with
 | some (.df g _)=>!decide (qz (bg rs rs.length) g=some i)
 | some (.call _ f as)=>!ua rs i f as
 | _=>false
def gI (rs:List Rw):Option Nat:=(List.range rs.length).find? (dY rs)
theorem x5 {rs:List Rw} {i:Nat} (hi:i < rs.length) (h:∀ j < i,dY rs j=false) (hw:dY rs i=true):gI rs=some i:=by
 unfold gI
 rw [List.find?_range_eq_some]
 exact ⟨hw,EZ.mpr hi,fun j hj=>by rw [h j hj]; rfl⟩
theorem pZ {rs:List Rw} (h:∀ j < rs.length,dY rs j=false):gI rs=none:=by
 unfold gI
 rw [List.find?_eq_none]
 intro j hj
 rw [h j (EZ.mp hj)]; simp
theorem Hj {st:List Str} {x:Str} (h:dA st x=true):(iQ st x).length≤st.length+1:=by
 unfold iQ
 split
 · rw [nU]; simp
 · split
   · rw [NL]; omega
   · split
     · rw [nU,NL]; simp
     · omega
end Gen
namespace EX
open PySem PySem.Spec PySem.Calls PyProof.Rows L2
def Flt (h:Heap) (e C:Addr) (dd T:Option Addr) (fl:Value):Prop :=
 ∃ oe vs,h.get? e=some oe∧oe.cls = .ref C∧oe.dict=dd∧oe.data = .fields vs∧1 < vs.size ∧
  match T with
  | none=>vs[1]?=some .none
  | some a=>vs[1]?=some (.ref a)∧a≠e∧∃ oT ts,h.get? a=some oT∧oT.data = .fields ts∧ts[3]?=some fl
structure Kp (fs:List Addr) (e:Addr) (T:Option Addr) (h h':Heap):Prop where
 keep:∀ b o,h.get? b=some o→b≠e→T≠some b→b∉fs→h'.get? b=some o
 slot:∀ b o,h.get? b=some o→b∈fs→b≠e→T≠some b→∃ sl,h'.get? b=some { o with slots:=sl }
theorem Kp.any {fs:List Addr} {e:Addr} {T:Option Addr} {h h':Heap} (k:Kp fs e T h h') {b:Addr} {o:Obj} (q:h.get? b=some o) (h1:b≠e) (h2:T≠some b):∃ sl,h'.get? b=some { o with slots:=sl }:=by
 by_cases z:b∈fs
 · exact k.slot b o q z h1 h2
 · exact ⟨o.slots,k.keep b o q h1 h2 z⟩
theorem Kp.trans {fs:List Addr} {e:Addr} {T T':Option Addr} {h h1 h2:Heap} (a:Kp fs e T h h1) (b:Kp fs e T' h1 h2) (hT:∀ c,T'=some c→h.get? c=none∨T=some c):Kp fs e T h h2 where
 keep:=fun c o q n1 n2 n3=>b.keep c o (a.keep c o q n1 n2 n3) n1 (fun z=>by rcases hT c z with y | y; rw [q] at y; cases y; exact n2 y) n3
 slot:=fun c o q n1 n2 n3=>by
  obtain ⟨sl,q1⟩:=a.slot c o q n1 n2 n3
  obtain ⟨yS,q2⟩:=b.slot c _ q1 n1 n2 (fun z=>by rcases hT c z with y | y; rw [q] at y; cases y; exact n3 y)
  exact ⟨yS,q2⟩
theorem Hk (o:Obj) (f:Array Value→Array Value):(o.mapFields f).dict=o.dict:=by
 obtain ⟨c,d,da,sl⟩:=o
 cases da <;> rfl
section
variable {M:Model} {A:Around} {E:Value→Shared→Prop} {s:Shared} {e C L:Addr} {dd T:Option Addr} {fl:Value} {base:Heap} {env:Env} {outer:List Env}
theorem Flt.Ft {h:Heap} {l:List Env} (F:Flt h e C dd T fl) (hl:h.FunFrames base l):e∉kL l∧∀ a,T=some a→a∉kL l:=by
 obtain ⟨oe,vs,he,hc,hd,AY,n5,hT⟩:=F
 refine ⟨fun z=>?_,fun a ea z=>?_⟩
 · obtain ⟨_,o,ho,hn⟩:=hl.mem z
   rw [he] at ho
   cases ho
   exact hn vs AY
 · subst ea
   obtain ⟨_,_,oT,ts,Hl,Fc,_⟩:=hT
   obtain ⟨_,o,ho,hn⟩:=hl.mem z
   rw [Hl] at ho
   cases ho
   exact hn ts Fc
theorem vU {head:Value} {hn:Bool} {oe:Obj} {vs:Array Value} {Q:Unit→Shared→Prop} (Fd:A.frames=some (env :: outer)) (hl:s.heap.FunFrames base (env :: outer)) (hf:env.frame=some L)
  (he:s.heap.get? e=some oe) (hc:oe.cls = .ref C) (hd:oe.dict=dd) (AY:oe.data = .fields vs) (n5:1 < vs.size)
  (h:∀ h' T',Flt h' e C dd (some T') (rawInt L)→s.heap.get? T'=none→Kp (kL (env :: outer)) e none s.heap h'→Q () { s with heap:=h' }) :
  wpAny M A (do let a ← frameOf env; let pl ← entryPlaceOf L hn; let b ← EntryCells.newEntry head a .none (rawInt L) .none pl; setField (.ref e) 1 b) Q E s:=by
 have ne:e∉kL (env :: outer):=fun z=>by
  obtain ⟨_,o,ho,q⟩:=hl.mem z
  rw [he] at ho
  cases ho
  exact q vs AY
 refine wpAny_bind (wpAny_frameOf_fun Fd hl hf fun h1 so=>?_)
 refine wpAny_bind (wpAny_entryPlaceOf fun pl fg=>?_)
 unfold EntryCells.newEntry newFields
 refine wpAny_bind (wpAny_newObj_type ?_ (fg.sizeOk5 _ _ _ _ _))
 have e1:h1.get? e=some oe:=(so.2.1 e ne).trans he
 generalize hx:([head,Value.ref L,.none,rawInt L,.none] ++ (if pl.isEmpty then List.replicate 6 Value.none else pl))=xs
 have x3:xs.toArray[3]?=some (rawInt L):=by rw [← hx]; simp
 have e2:(h1.push ⟨.type "traceback",none,.fields xs.toArray,#[]⟩).get? e=some oe:=dB _ e1
 refine wpAny_setField e2 AY n5 ?_
 have nT:h1.objs.size≠e:=BN (d7 e1)
 have d3:=JD AY (·.setIfInBounds 1 (Value.ref h1.objs.size))
 refine h _ h1.objs.size ⟨_,_,JB _ e2 (NI d3),(Obj.cls_mapFields _ _).trans hc,?_,d3,by simp [n5],by simp [n5],nT,⟨.type "traceback",none,.fields xs.toArray,#[]⟩,xs.toArray,?_,rfl,x3⟩ (NK (by rw [so.1]; exact d8 _)) ⟨fun b o q n1 _ n3=>?_,fun b o q n1 n2 _=>?_⟩
 · rw [← hd]; exact Hk _ _
 · rw [Ih _ _ (Ne.symm nT)]; exact nQ h1 rfl
 · rw [Ih _ _ (Ne.symm n1)]; exact dB _ ((so.2.1 b n3).trans q)
 · obtain ⟨sl,q2⟩:=so.2.2 b o q
   exact ⟨sl,by rw [Ih _ _ (Ne.symm n2)]; exact dB _ q2⟩
theorem zB {Q:Unit→Shared→Prop} (Fd:A.frames=some (env :: outer)) (hl:s.heap.FunFrames base (env :: outer)) (hf:env.frame=some L) (F:Flt s.heap e C dd T .none)
  (h:∀ h' T',Flt h' e C dd (some T') (rawInt L)→s.heap.get? T'=none→Kp (kL (env :: outer)) e T s.heap h'→Q () { s with heap:=h' }):wpAny M A (noteFrame (.ref e) env) Q E s:=by
 have nf:=F.Ft hl
 obtain ⟨oe,vs,he,hc,hd,AY,n5,hT⟩:=F
 unfold noteFrame
 simp only [hf]
 cases T with
 | none =>
   refine wpAny_bind (wpAny_field he AY hT ?_)
   rw [if_neg (by decide)]
   exact vU Fd hl hf he hc hd AY n5 h
 | some a =>
   obtain ⟨h1,ne,oT,ts,Hl,Fc,h3⟩:=hT
   refine wpAny_bind (wpAny_field he AY h1 ?_)
   rw [if_pos (by simp)]
   refine wpAny_bind (wpAny_field Hl Fc h3 ?_)
   rw [if_neg (by simp [rawInt])]
   refine wpAny_bind (wpAny_setField Hl Fc (R_.mp h3).1 ?_)
   have Ji:∀ b,b≠a→(s.heap.update a (Obj.mapFields (·.setIfInBounds 3 Value.none))).get? b=s.heap.get? b:=fun b hb=>Ih _ _ (Ne.symm hb)
   have RN:=hl.of_keeps (h':=s.heap.update a (Obj.mapFields (·.setIfInBounds 3 Value.none))) fun b o q nn=>⟨o,(Ji b fun z=>by subst z; rw [Hl] at q; cases q; exact nn ts Fc).trans q,rfl⟩
   refine vU (s:={ s with heap:=s.heap.update a (Obj.mapFields (·.setIfInBounds 3 Value.none)) }) Fd RN hf ((Ji e (Ne.symm ne)).trans he) hc hd AY n5 fun h' T' f n k=>h h' T' f ?_ ⟨fun b o q n1 n2 n3=>?_,fun b o q n1 n2 n3=>?_⟩
   · cases q:s.heap.get? T' with
     | none=>rfl
     | some o =>
       by_cases z:T'=a
       · subst z
         have:=JB (Obj.mapFields (·.setIfInBounds 3 Value.none)) Hl (NI (JD Fc _))
         rw [this] at n
         cases n
       · rw [Ji T' z,q] at n; cases n
   · have nb:b≠a:=fun z=>n2 (by rw [z])
     exact k.keep b o ((Ji b nb).trans q) n1 (fun z=>by cases z) n3
   · have nb:b≠a:=fun z=>n3 (by rw [z])
     exact k.slot b o ((Ji b nb).trans q) n1 n2 (fun z=>by cases z)
theorem ub {Q:Unit→Shared→Prop} {a:Addr} (F:Flt s.heap e C dd (some a) fl) (h:∀ h',Flt h' e C dd (some a) .none→Kp [] e (some a) s.heap h'→Q () { s with heap:=h' }):wpAny M A (setFlight (.ref e) none) Q E s:=by
 obtain ⟨oe,vs,he,hc,hd,AY,n5,h1,ne,oT,ts,Hl,Fc,h3⟩:=F
 have z3:=(R_.mp h3).1
 unfold setFlight
 refine wpAny_bind (wpAny_field he AY h1 ?_)
 rw [if_pos (by simp)]
 refine wpAny_setField Hl Fc z3 ?_
 have Ji:∀ (f:Obj→Obj) b,b≠a→(s.heap.update a f).get? b=s.heap.get? b:=fun f b hb=>Ih _ _ (Ne.symm hb)
 refine h _ ⟨oe,vs,(Ji _ e (Ne.symm ne)).trans he,hc,hd,AY,n5,h1,ne,_,_,JB _ Hl (NI (JD Fc _)),JD Fc _,by simp [z3]⟩
  ⟨fun b o q n1 n2 _=>(Ji _ b fun z=>n2 (by rw [z])).trans q,fun b o q n1 _ _=>absurd n1 (by simp)⟩
theorem DS {Q:Unit→Shared→Prop} (Fd:A.frames=some (env :: outer)) (hl:s.heap.FunFrames base (env :: outer)) (hf:env.frame=some L) (F:Flt s.heap e C dd T .none)
  (h:∀ h' T',Flt h' e C dd (some T') .none→s.heap.get? T'=none→Kp (kL (env :: outer)) e T s.heap h'→Q () { s with heap:=h' }):wpAny M A (leaving env (.ref e)) Q E s:=by
 unfold leaving
 refine wpAny_bind (zB Fd hl hf F fun h1 T' f n k=>?_)
 refine ub f fun h2 f2 k2=>h h2 T' f2 n (k.trans ⟨fun b o q n1 n2 _=>k2.keep b o q n1 n2 (by simp),fun b o q _ n2 n3=>⟨o.slots,k2.keep b o q n2 n3 (by simp)⟩⟩ fun c z=>.inl (by cases z; exact n))
end
end EX
namespace EX
open PySem PySem.Spec PySem.Calls PyProof.Rows L2
open PySem.W (findIn typeIn clsIn subIn looks_findIn looks_typeIn looks_subIn looks_clsIn Looks InstAt lookIn findObj)
abbrev Fe:List Value:=[.type "ValueError",.type "Exception",.type "BaseException",.type "object"]
abbrev Yo (nm q:Str) (C N:Addr) (bs bm:List Value) (sn:List Str) (sub:List Value) (ab:Bool) (col:Option Bool) (dd:Option Addr) (k0 k1 k2 k3 k5:Option Value):Obj:=excClassObj nm q C N bs bm true sn sub ab col dd k0 k1 k2 k3 k5 "ValueError.__new__"
structure XC (K:PySem.W.Frag) (C:Addr) (tl:List Addr):Prop where
 obj:∃ nm q N bs sn sub ab col dd k0 k1 k2 k3 k5,K.lookup C=some (Yo nm q C N bs (tl.map .ref ++ Fe) sn sub ab col dd k0 k1 k2 k3 k5)
 tail:∀ a∈tl,∃ c dd cd sl o es ep,K.lookup a=some ⟨c,dd,.cls cd,sl⟩∧K.lookup cd.ns=some o∧o.data = .dict es ep∧StrKeys es∧nsFind es "__init__" = none
theorem lq {K:PySem.W.Frag} {h:Heap} (X:K.In h):∀ {tl:List Addr},(∀ a∈tl,∃ c dd cd sl o es ep,K.lookup a=some ⟨c,dd,.cls cd,sl⟩∧K.lookup cd.ns=some o∧o.data = .dict es ep∧StrKeys es∧nsFind es "__init__" = none)→OwnTail h Fe (tl.map .ref ++ Fe)
 | [],_=>.base
 | a :: tl,q=>by
   obtain ⟨c,dd,cd,sl,o,es,ep,h1,h2,h3,h4,h5⟩:=q a iO
   exact .own (X _ _ h1) ⟨o,es,ep,X _ _ h2,h3,h4,fun _=>rfl⟩ h5 (lq X fun b hb=>q b (jX _ hb))
section
variable {prog:Program} {w:World} {A:Around} {E:Value→Shared→Prop} {h:Heap} {g:Array GenState} {d:Drawn} {t:Nat} {os:OsState} {K:PySem.W.Frag} {C fI:Addr} {tl:List Addr} {rest:List Value}
theorem x6 {Q:PySem.Fin→Shared→Prop} (X:K.In h) (xc:XC K C tl) (hi:findIn K (.ref C) "__init__" = some (some (.ref fI))) (ht:typeIn K (.ref fI)=some (.type "function"))
  (hq:∀ h' e,Heap.MadeExcOf h h' e (.ref C) rest→wpAny (model prog w) A (call (.ref fI) (.ref e :: rest)) (fun r s'=>r = .none∧Q (.done (.ret (.ref e))) s') E ⟨h',g,d,t,os⟩) (hr:rest.length≤sizeLine) :
  wpAny (model prog w) A (Builtin.«type.__call__» ⟨.ref C :: rest,[]⟩) Q E ⟨h,g,d,t,os⟩:=by
 obtain ⟨nm,q,N,bs,sn,sub,ab,col,dd,k0,k1,k2,k3,k5,oK⟩:=xc.obj
 have oC:=X _ _ oK
 have T:=lq X xc.tail
 repeat (first | with_reducible refine wpAny_loadPart_at oC ?_ | with_reducible refine wpAny_madeBy_exc oC ?_ | wp_step)
 refine codeAny_call_builtin_code (Rb _ NN.quiet) (wpAny_check_new_subT NN T oC ?_)
 refine codeAny_exc_new_subT NN T oC ?_ hr
 show wpAny _ _ _ _ _ _
 generalize WB:(⟨.type "tuple",none,.seq rest.toArray 0,#[]⟩:Obj)=tp
 generalize Mh:(⟨.ref C,none,.fields #[.ref h.objs.size,.none,.none,.none,.bool false,.none],#[]⟩:Obj)=oe
 have kk:∀ b o,h.get? b=some o→((h.push tp).push oe).get? b=some o:=fun b o q=>dB _ (dB _ q)
 have X1:K.In ((h.push tp).push oe):=fun b o q=>kk b o (X b o q)
 have Yp:=X1 _ _ oK
 have RO:((h.push tp).push oe).get? (h.objs.size+1)=some oe:=by subst Mh; heap_get
 have Yq:((h.push tp).push oe).get? h.objs.size=some tp:=by subst WB; exact dB _ (Heap.get?_push_at rfl rfl)
 have Yr:(Value.ref C :: (tl.map Value.ref ++ Fe)).contains (.ref C)=true:=by simp
 have ec:oe.cls = .ref C:=by subst Mh; rfl
 unfold isInstance
 repeat (first | (with_reducible refine wpAny_loadPart_at RO ?_; rw [ec]) | (with_reducible refine wpAny_isSubtype_exc Yp ?_; rw [Yr]) | wp_step)
 show wpAny _ _ (typeLookup (.ref C) _) _ _ _
 refine looks_findIn X1 hi _ _ _ _ (fun _ _ z=>z) ?_
 refine wpAny_holding (wpAny_bind (PySem.W.bind_fn X1 _ ht _ _ _ _ (fun _ _ z=>z) ?_))
 refine wpAny_bind (wpAny_mono (hq _ (h.objs.size+1) ⟨kk,NK (JI _),h.objs.size,by rw [RO,← Mh],NK (d8 _),by rw [Yq,← WB]⟩) (fun r s' z=>?_) fun _ _ z=>z)
 obtain ⟨rfl,z⟩:=z
 wp_walk
 exact z
theorem AZ {Q:Value→Shared→Prop} (X:K.In h) (xc:XC K C tl) (hi:findIn K (.ref C) "__init__" = some (some (.ref fI))) (ht:typeIn K (.ref fI)=some (.type "function"))
  (hq:∀ h' e,Heap.MadeExcOf h h' e (.ref C) rest→wpAny (model prog w) (A.under (.builtin "type.__call__" ⟨.ref C :: rest,[]⟩)) (call (.ref fI) (.ref e :: rest)) (fun r s'=>r = .none∧Q (.ref e) s') E ⟨h',g,d,t,os⟩) (hr:rest.length≤sizeLine) :
  wpAny (model prog w) A (call (.ref C) rest) Q E ⟨h,g,d,t,os⟩:=by
 obtain ⟨nm,q,N,bs,sn,sub,ab,col,dd,k0,k1,k2,k3,k5,oK⟩:=id xc.obj
 have oC:=X _ _ oK
 have l1:=tc_lookup
 have l2:=tc_bind (.ref C)
 have lT:(⟨h,g,d,t,os⟩:Shared).TypeIs (.ref C) "type":=⟨_,oC,rfl⟩
 refine wpAny_call (codeAny_of_tree ?_)
 show wpAny _ _ (callAny (.ref C) _) _ _ _
 repeat (any_goals (first | assumption | with_reducible refine wpAny_loadPart_at oC ?_ | wp_step))
 refine ⟨rfl,?_⟩
 exact codeAny_call_builtin_at (Rb _ (by decide +kernel)) entry_typeCall (wpAny_check_type_call_sub oC (x6 X xc hi ht (fun h' e m=>hq h' e m) hr))
end
end EX
namespace EX
open PySem PySem.Spec PySem.Calls PyProof.Rows L2 Builtin Builtin.ObjectAttr
open PySem.W (findIn typeIn clsIn subIn mroIn specialIn takesIn looks_findIn looks_typeIn looks_subIn looks_clsIn looks_mroIn looks_find Looks InstAt lookIn findObj)
structure XF (K:PySem.W.Frag) (C:Addr):Prop where
 ga:findIn K (.ref C) "__getattribute__" = some (some (.builtin "BaseException.__getattribute__"))
 hk:findIn K (.ref C) "__getattr__" = some none
 sa:findIn K (.ref C) "__setattr__" = some (some (.builtin "object.__setattr__"))
 pl:findIn K (.ref C) "place" = some none
 cl:findIn K (.ref C) "__class__" = some (some (.builtin "object.__class__"))
 sub:subIn K (.ref C) (.type "BaseException")=some true
 ob:mroIn K C (.type "object")=some true
 cg:specialIn K (.builtin "object.__class__") "__get__" = some (some (.builtin "getset_descriptor.__get__"))
 ct:takesIn K (.builtin "object.__class__")=some true
section
variable {prog:Program} {w:World} {A:Around} {E:Value→Shared→Prop} {s:Shared} {K:PySem.W.Frag} {C e:Addr} {oe:Obj} {od:Option Obj} {name:Str} {tl:List Addr}
theorem Jj {tk:Tok} {fill expr:Bool} {Q:Value→Shared→Prop} (X:K.In s.heap) (f:XF K C) (I:InstAt s.heap e oe C od)
  (h:wpAny (model prog w) A.in1 (Builtin.«object.__getattribute__» ⟨[.ref e,.str name tk],[]⟩) (fun fin s'=>match fin with | .done (.ret v)=>wpAny (model prog w) A (handedOut v) Q E s' | _=>False) (fun _ _=>False) s) :
  wpAny (model prog w) A (getAttrBy (.ref e) (.str name tk) fill expr) Q E s:=by
 have ex:=F.excAttr_ValueError.ga
 unfold getAttrBy
 refine wpAny_holding (wpAny_bind (I.type.here (wpAny_bind ((looks_findIn X f.ga).here ?_))))
 dsimp only
 have n1:(Value.builtin "BaseException.__getattribute__" == Value.builtin "object.__getattribute__")=false:=by decide +kernel
 rw [show (onTheHeap (Value.ref C) && Value.builtin "BaseException.__getattribute__" == Value.builtin "object.__getattribute__")=false from by rw [n1,Im],if_neg (by decide)]
 unfold getAttrByItsOwn
 have hb:Looks (model prog w) s.heap (hookBefore (.ref C)) none:=PySem.W.looks_hook X (by show findIn K (.ref C) "__getattr__" = some none; exact f.hk)
 refine wpAny_bind (hb.here (wpAny_bind (wpAny_attempt (wpAny_holding ?_))))
 unfold callGetattribute
 rw [show (expr && onTheHeap (Value.builtin "BaseException.__getattribute__"))=false from Im _,if_neg (by decide)]
 unfold boundAndCalled
 rw [ex.bind]
 refine wpAny_bind (wpAny_pure ?_)
 show wpAny _ _ (call (.builtin "BaseException.__getattribute__") [.ref e,.str name tk]) _ _ _
 refine wpAny_call (codeAny_call_builtin ex.plain F.entry_bexc_ga ?_)
 refine @PySem.W.check_slot (model prog w) _ _ s "BaseException.__getattribute__" "BaseException" "__getattribute__" (.ref e) [.str name tk] [] _ (by decide +kernel) (by decide +kernel) (I.type.andThen (looks_subIn X f.sub)) (F.args_bexc_ga _ _) ?_
 refine wpAny_mono h (fun fin s' z=>?_) fun _ _ z=>z.elim
 rcases fin with (_ | _ | _ | _) | _ <;> first | exact z | exact z.elim
theorem vV {tk:Tok} {r:Found} {Q:PySem.Fin→Shared→Prop} (L:Looks (model prog w) s.heap (find (.ref e) (.ref C) name) r) (I:InstAt s.heap e oe C od)
  (h:wpAny (model prog w) A (match r with | .value v=>ret v | .bind g a=>bindTo g a (.ref e) (.ref C) | .missing=>pure (.done (.ret .none))) Q E s) (hr:r≠.missing) :
  wpAny (model prog w) A (Builtin.«object.__getattribute__» ⟨[.ref e,.str name tk],[]⟩) Q E s:=by
 refine wpAny_bind (wpAny_pure (wpAny_bind (wpAny_pure (wpAny_bind (I.type.here (wpAny_bind (L.here ?_)))))))
 cases r with
 | value v=>exact h
 | bind g a=>exact h
 | missing=>exact absurd rfl hr
theorem A0 {v:Value} {dx:Addr} {mA:Str→Option Value} {expr:Bool} {Q:Value→Shared→Prop} (X:K.In s.heap) (f:XF K C) (hd:(clsIn K C).any (·.hasDict)=true) (he:s.heap.get? e=some oe) (hc:oe.cls = .ref C) (KC:PySem.W.notCls oe=true) (Ys:oe.dict=some dx)
  (hn:s.heap.Ns1 dx mA) (hv:mA "place" = some v) (hh:PySem.W.handedIn v=true) (h:Q v { s with toks:=s.toks+1 }):wpAny (model prog w) A (getAttr (.ref e) "place" expr) Q E s:=by
 obtain ⟨oD,es,ep,h1,h2,h3,h4,h5⟩:=id hn
 have I:InstAt s.heap e oe C (some oD):=⟨he,hc,KC,by rw [Ys]; exact h1⟩
 obtain ⟨cd,q1,q2⟩:=PySem.W.any_some hd
 have lk:lookIn "place" oD=some (some v):=by
  have q:=h5 "place"
  rw [hv] at q
  unfold nsFind findBy at q
  unfold lookIn
  rw [h2]
  dsimp only
  rw [← Array.find?_toList] at q
  cases z:es.toList.find? (·.key.isStr "place") with
  | none=>rw [z] at q; cases q
  | some en=>rw [z] at q; cases q; rfl
 have hf:findObj K C (some oD) "place" = some (.value v):=by
  unfold findObj PySem.W.ownOf
  rw [q1,Nh,f.pl,Nh]
  simp only [Nh,q2,if_true,lk]
 unfold getAttr
 refine wpAny_bind (wpAny_mkText ?_)
 refine Jj (s:={ s with toks:=s.toks+1 }) X f I ?_
 refine vV (s:={ s with toks:=s.toks+1 }) (looks_find X I hf) I (wpAny_pure ?_) (by intro z; cases z)
 show wpAny _ _ (handedOut v) _ _ _
 rw [PySem.W.handedOut_of hh]; exact wpAny_pure h
theorem get_cls {Q:Option Value→Shared→Prop} (X:K.In s.heap) (f:XF K C) (Cu:(clsIn K C).isSome=true) (I:InstAt s.heap e oe C od) (h:Q (some (.ref C)) { s with toks:=s.toks+1 }):wpAny (model prog w) A (getAttr? (.ref e) "__class__") Q E s:=by
 have hf:findObj K C od "__class__" = some (.bind (.builtin "getset_descriptor.__get__") (.builtin "object.__class__")):=by
  obtain ⟨cd,hc⟩:=Sa.mp Cu
  unfold findObj
  rw [hc,Nh,f.cl,Nh]
  simp only [f.cg,Nh,f.ct]
 unfold getAttr? getAttrBy?
 refine wpAny_bind (wpAny_mkText (wpAny_bind (wpAny_attempt ?_)))
 refine Jj (s:={ s with toks:=s.toks+1 }) X f I ?_
 refine vV (s:={ s with toks:=s.toks+1 }) (looks_find X I hf) I ?_ (by intro z; cases z)
 show wpAny _ _ (holding [_] (call _ [_,.ref e,.ref C]) >>= ret) _ _ _
 refine wpAny_bind (wpAny_holding (wpAny_call (PySem.W.class_get (s:={ s with toks:=s.toks+1 }) X I f.ob ?_)))
 refine wpAny_pure ?_
 show wpAny _ _ (handedOut (.ref C)) _ _ _
 exact wpAny_pure (wpAny_pure h)
end
end EX
namespace EX
open PySem PySem.Spec PySem.Calls PyProof.Rows L2 Builtin Builtin.ObjectAttr
open PySem.W (findIn typeIn clsIn subIn mroIn specialIn takesIn looks_findIn looks_typeIn looks_subIn looks_clsIn looks_mroIn looks_find Looks InstAt lookIn findObj kitOne KitX)
section
variable {K:PySem.W.Frag} {C e:Addr} {oe:Obj} {tl:List Addr}
theorem XC.cls (xc:XC K C tl):∃ cd,clsIn K C=some cd∧cd.hasDict=true∧cd.mro = .ref C :: (tl.map .ref ++ Fe):=by
 obtain ⟨nm,q,N,bs,sn,sub,ab,col,dd,k0,k1,k2,k3,k5,oK⟩:=xc.obj
 exact ⟨_,by unfold clsIn; rw [oK],rfl,rfl⟩
theorem DT (xc:XC K C tl) (f:XF K C):KitX K (.ref e) (.ref C) (fun h=>∃ oe od,InstAt h e oe C od) where
 ty:=fun _ _ _ ⟨_,_,I⟩=>I.type
 it:=fun _ h X _=>by
  obtain ⟨nm,q,N,bs,sn,sub,ab,col,dd,k0,k1,k2,k3,k5,oK⟩:=xc.obj
  intro A' Q' E' s' k q
  unfold isType loadHead
  exact wpAny_bind (wpAny_loadPart (k _ _ (X _ _ oK)) (wpAny_pure q))
 ne:=fun h tp GX aK n sl X Yt=>by
  obtain ⟨nm,q,N,bs,sn,sub,ab,col,dd,k0,k1,k2,k3,k5,oK⟩:=xc.obj
  refine Bool.eq_false_iff.mpr fun z=>?_
  have z:C=tp:=Value.ref.inj (beq_iff_eq.mp z)
  subst z
  have z2:=Option.some.inj ((X _ _ oK).symm.trans Yt)
  exact absurd (Value.type.inj (congrArg Obj.cls z2)) (by decide)
 ca:=fun X ⟨_,_,I⟩ k=>get_cls X f (by obtain ⟨cd,z,_⟩:=xc.cls; rw [z]; rfl) I k
variable {prog:Program} {w:World} {A:Around} {E:Value→Shared→Prop} {s:Shared} {od:Option Obj}
theorem Hm {c:Value} {b:Bool} {Q:Value→Shared→Prop} (X:K.In s.heap) (xc:XC K C tl) (f:XF K C) (I:InstAt s.heap e oe C od) (hk:kitOne K (.ref C) c=some b) (h:∀ tk,Q (.bool b) { s with toks:=tk }) :
  wpAny (model prog w) A (call (.builtin "isinstance") [.ref e,c]) Q E s :=
 Ik (DT xc f) X ⟨oe,od,I⟩ hk (by intro z; cases z) h
theorem A1 {rest:List Value} {vs:Array Value} {Q:Value→Shared→Prop} (X:K.In s.heap) (xc:XC K C tl) (he:s.heap.get? e=some oe) (hc:oe.cls = .ref C) (hd:oe.data = .fields vs) {t0:Addr} (h0:vs[0]?=some (.ref t0)) (hr:rest.length≤sizeLine)
  (h:∀ h',(∀ b o,b≠e→s.heap.get? b=some o→h'.get? b=some o)→h'.get? e=some (oe.mapFields (·.setIfInBounds 0 (.ref s.heap.objs.size)))→Q .none { s with heap:=h' }) :
  wpAny (model prog w) A (call (.builtin "ValueError.__init__") (.ref e :: rest)) Q E s:=by
 obtain ⟨hp,g,dr,t,os⟩:=s
 dsimp only at X he h
 obtain ⟨nm,q,N,bs,sn,sub,ab,col,dd,k0,k1,k2,k3,k5,oK⟩:=xc.obj
 have oC:=X _ _ oK
 have T:=lq X xc.tail
 have F:=NN
 refine wpAny_call (codeAny_call_builtin F.init.plain F.initEntry (wpAny_check_init_subT F T oC he hc ?_))
 have hz:=(R_.mp h0).1
 unfold Builtin.«BaseException.__init__»
 repeat (any_goals (first | with_reducible refine wpAny_field (dB _ he) hd h0 ?_ | with_reducible refine wpAny_setField (dB _ he) hd hz ?_ | wp_step))
 refine h _ (fun b o nb q=>?_) ?_
 · rw [Ih _ _ (Ne.symm nb)]; exact dB _ q
 · rw [JB _ (dB _ he) (NI (JD hd _))]
end
section
variable {prog:Program} {w:World} {A:Around} {E:Value→Shared→Prop} {s:Shared} {K:PySem.W.Frag} {C e:Addr} {oe:Obj} {tl:List Addr}
theorem r_ (self:Value):∀ tl:List Addr,refuseLoop self "__setattr__" (tl.map .ref ++ Fe)=pure ()
 | []=>F.store_ValueError.passes self
 | a :: tl=>by rw [jY,Rc,refuseLoop_ref]; exact r_ self tl
theorem Hn {v:Value} {tk:Tok} {vs:Array Value} {R:Result→Shared→Prop} (X:K.In s.heap) (xc:XC K C tl) (f:XF K C) (he:s.heap.get? e=some oe) (hc:oe.cls = .ref C) (hd:oe.data = .fields vs) (hn:oe.dict=none)
  (h:∀ h' C8,(∀ b o,b≠e→s.heap.get? b=some o→h'.get? b=some o)→h'.get? e=some { oe with dict:=some s.heap.objs.size }→h'.Ns1 s.heap.objs.size (fun y=>if y="place" then some v else none)→R (.ok (.ret .none)) { s with heap:=h',toks:=C8 }) :
  codeAny (model prog w) A (.call (.builtin "object.__setattr__") ⟨[.ref e,.str "place" tk,v],[]⟩) R s:=by
 have SF:=F.store_ValueError
 obtain ⟨cd,q1,q2,q3⟩:=xc.cls
 have I:InstAt s.heap e oe C none:=⟨he,hc,by unfold PySem.W.notCls; rw [hd],by rw [hn]; trivial⟩
 refine codeAny_call_builtin SF.slot.plain SF.entry (@PySem.W.check_slot (model prog w) _ _ s "object.__setattr__" "object" "__setattr__" (.ref e) [.str "place" tk,v] [] _ SF.kind SF.split (I.type.andThen (looks_mroIn X f.ob)) (SF.args (.ref e) (.str "place" tk) v) ?_)
 have lm:Looks (model prog w) s.heap (mroOf (.ref C)) cd.mro:=(looks_clsIn X q1).andThen .now
 rw [PySem.W.osa_eq,refuse_eq]
 refine wpAny_bind (wpAny_bind (I.type.here (wpAny_bind (lm.here ?_))))
 rw [q3,refuseLoop_ref,r_]
 refine wpAny_pure (wpAny_bind (I.type.here (wpAny_bind ((looks_findIn X f.pl).here (wpAny_bind (wpAny_pure ?_))))))
 unfold storeInOwnDict
 refine wpAny_bind (wpAny_pure (wpAny_bind ?_))
 show wpAny _ _ (instanceDict e true) _ _ _
 unfold instanceDict
 obtain ⟨oc,Z2,Z3,yR⟩:=oe
 dsimp only at hc hd hn
 subst hc hd hn
 refine wpAny_bind (wpAny_loadPart he ?_)
 dsimp only
 refine wpAny_bind ((looks_clsIn X q1).here ?_)
 rw [q2]
 obtain ⟨hp,g,dr,t,os⟩:=s
 dsimp only at X he h
 have e1:(hp.push { cls:=.type "dict",data:=.dict #[] }).get? e=some ⟨.ref C,none,.fields vs,yR⟩:=dB _ he
 have ne:e≠hp.objs.size:=gW (d7 he)
 refine wpAny_bind (wpAny_alloc' (wpAny_bind (wpAny_update' e1 ?_)))
 refine wpAny_pure ?_
 generalize hu:(hp.push { cls:=.type "dict",data:=.dict #[] }).update e (fun o=>{ o with dict:=some hp.objs.size })=h1
 have g1:h1.get? hp.objs.size=some { cls:=.type "dict",data:=.dict #[] }:=by rw [← hu,Heap.get?_update_ne _ _ _ _ ne.symm]; exact Heap.get?_push_at rfl rfl
 have g2:h1.get? e=some ⟨.ref C,some hp.objs.size,.fields vs,yR⟩:=by rw [← hu]; exact JB _ e1 rfl
 have nd:h1.Ns hp.objs.size (fun _=>none):=⟨_,#[],_,g1,rfl,fun a z=>absurd z (by simp),fun _=>rfl⟩
 show wpAny _ _ (storeInDict hp.objs.size (.str "place" tk) "place" v) _ _ _
 unfold storeInDict newKeyGuard
 refine wpAny_bind (wpAny_pure (wpAny_bind (wpAny_nsSet1 (Heap.Ns1.of_empty nd) fun h' JP sb=>?_)))
 obtain ⟨oD,Z4,Z5,z1,z2,z3⟩:=JP.count (Within.cons "place" v Within.nil)
 refine wpAny_bind (wpAny_lookBehind z1 (by rw [z2]; exact pastItsLine_dict (nB z3 (by rw [Fm,List.length_nil,sizeLine_eq]; omega))) ?_)
 refine wpAny_pure (h h' _ (fun b o nb q=>?_) ((sb.2 e ne).trans g2) JP)
 have Yu:b≠hp.objs.size:=gW (d7 q)
 refine (sb.2 b Yu).trans ?_
 rw [← hu,Heap.get?_update_ne _ _ _ _ nb]
 exact dB _ q
theorem A2 {v:Value} {vs:Array Value} {Q:Unit→Shared→Prop} (X:K.In s.heap) (xc:XC K C tl) (f:XF K C) (he:s.heap.get? e=some oe) (hc:oe.cls = .ref C) (hd:oe.data = .fields vs) (hn:oe.dict=none)
  (h:∀ h' C8,(∀ b o,b≠e→s.heap.get? b=some o→h'.get? b=some o)→h'.get? e=some { oe with dict:=some s.heap.objs.size }→h'.Ns1 s.heap.objs.size (fun y=>if y="place" then some v else none)→Q () { s with heap:=h',toks:=C8 }) :
  wpAny (model prog w) A (setAttr (.ref e) "place" v) Q E s:=by
 have I:InstAt s.heap e oe C none:=⟨he,hc,by unfold PySem.W.notCls; rw [hd],by rw [hn]; trivial⟩
 have L:Looks (model prog w) s.heap (specialOf (.ref e) "__setattr__") (some (.builtin "object.__setattr__")):=I.type.andThen (looks_findIn X f.sa)
 unfold setAttr callSpecial?
 refine wpAny_bind (wpAny_mkText (wpAny_bind (wpAny_bind (L.here (s:={ s with toks:=s.toks+1 }) (wpAny_holding ?_)))))
 rw [F.store_ValueError.slot.bind]
 refine wpAny_bind (wpAny_pure (wpAny_bind ?_))
 refine wpAny_call (Hn (s:={ s with toks:=s.toks+1 }) (vs:=vs) X xc f he hc hd hn fun h' C8 k1 k2 k3=>?_)
 exact wpAny_pure (wpAny_pure (h h' C8 k1 k2 k3))
end
end EX
namespace EX
open PySem PySem.Spec PySem.Calls PyProof.Rows L2
open PySem.W (findIn typeIn clsIn subIn mroIn specialIn takesIn looks_findIn Looks InstAt)
theorem Ho:∀ n:Fin 101,((toString (n.val:Int):String):Str).length≤8:=by decide +kernel
theorem DU {H:Hp} {a:Addr} {o:HO} (h:H a=some o):upd H a o=H:=by
 funext b
 unfold upd
 split
 · rename_i z; rw [z,h]
 · rfl
section
variable {X:Cx}
def WC (tv:TE):TE:=fun σ H Q=>tv σ H fun v H1=>∃ i:Int,v = .int i∧0≤i∧i≤100∧∀ x,Q (.str x) H1
theorem zC {a b:Str} {j1 j2:Nat} {p1 p2 p3 p:Pos} {value:Expr} {tv:TE} (hv:PE X value tv) (hl:a.length+b.length≤1000:=by decide +kernel) :
  PE X (.JoinedStr [.Constant (.str a) j1 p1,.FormattedValue value (-1) none p2,.Constant (.str b) j2 p3] p) (WC tv):=by
 intro pins s σ H Q I h
 refine wpAny_JoinedStr ?_
 show Joins _ _ _ [eval (.Constant (.str a) j1 p1) X.env,eval (.FormattedValue value (-1) none p2) X.env,eval (.Constant (.str b) j2 p3) X.env] _ _ _
 refine Calls.Constant_str ⟨a,_,rfl,?_,?_⟩
 · rw [strLen_append]; rw [sizeLine_eq]; show (0:Nat)+_≤_; omega
 refine wpAny_FormattedValue_plain (bV (hv pins _ σ H _ (I.tok _) h) fun u s1 ⟨v,H1,I1,r,i,ev,h0,h1,q⟩=>?_)
 subst ev
 obtain ⟨t,rfl⟩:=r
 have UJ:i.natAbs.log2 < 1920:=by
  have:i.natAbs≤100:=by omega
  exact Nat.lt_of_le_of_lt (Nat.log2_le_self _) (by omega)
 have hi:((toString i:String):Str).length≤8:=by
  have:=Ho ⟨i.toNat,by omega⟩
  rw [show ((i.toNat:Nat):Int)=i from Int.toNat_of_nonneg h0] at this
  exact this
 refine wpAny_formatField_int UJ ⟨_,_,rfl,?_,?_⟩
 · rw [strLen_append,strLen_append,sizeLine_eq]; show (0:Nat)+_+_≤_; omega
 refine Calls.Constant_str ⟨b,_,rfl,?_,?_⟩
 · rw [strLen_append,strLen_append,strLen_append,sizeLine_eq]; show (0:Nat)+_+_+_≤_; omega
 refine ⟨?_,.str _,H1,I1.tok _,⟨_,rfl⟩,q _⟩
 rw [strLen_append,strLen_append,strLen_append,sizeLine_eq]; show (0:Nat)+_+_+_≤_; omega
end
abbrev WD (C:Addr) (dd:Option Addr) (t:Addr):Obj:=⟨.ref C,dd,.fields #[.ref t,.none,.none,.none,.bool false,.none],#[]⟩
def uG (C e:Addr) (dd:Option Addr):Heap→Prop:=fun h=>∃ t,h.get? e=some (WD C dd t)
theorem zD {P:Program} {w:World} {H:Hp} {h:Heap} {C e t:Addr} {dd:Option Addr} (q:h.get? e=some (WD C dd t)):bQ P w H h e (.ext (uG C e dd)) :=
 ⟨⟨t,q⟩,⟨_,q⟩,fun _ _ ⟨t,a⟩ k=>⟨t,k _ a⟩⟩
structure XS (K:PySem.W.Frag) (S:Addr):Prop where
 ga:specialIn K (.ref S) "__getattribute__" = some (some (.builtin "type.__getattribute__"))
 rd:PySem.W.readsIn K S (.type "type")=true
 fi:PySem.W.findCls K (.ref S) (.type "type") "__init__" = some (.val (.builtin "ValueError.__init__"))
theorem lr {fs ex:List Addr} {H H1:Hp} {h h':Heap} {a:Addr} {o:HO} (u:Un fs ex H H1 h h') (n:H1 a=none) (f:h.get? a=none):Un fs ex H (upd H1 a o) h h' where
 keep:=u.keep
 slot:=u.slot
 free:=fun b ob q z x=>by rw [aD (fun e=>by subst e; rw [f] at q; cases q)]; exact u.free b ob q z x
 there:=u.there
 iJ:=fun b xs q=>by have:=u.iJ b xs q; rw [aD (aU this n)]; exact this
 gY:=fun b ob xs q=>by have:=u.gY b ob xs q; rw [aD (aU this n)]; exact this
 iK:=fun b ps q=>by obtain ⟨m,this⟩:=u.iK b ps q; exact ⟨m,by rw [aD (aU this n)]; exact this⟩
theorem jL {P:Program} {w:World} {H:Hp} {h:Heap} {a:Addr} {o:HO} (ok:jS P w H h) (n:H a=none) (new:bQ P w (upd H a o) h a o):jS P w (upd H a o) h:=fun b u q=>by
 by_cases e:b=a
 · subst e; rw [aQ] at q; cases q; exact new
 · rw [aD e] at q
   exact (ok b u q).nD (fun _ _ _ z=>z) (fun c z=>by rw [aD (aU z n)]; exact z) fun c xs z=>by rw [aD (aU z n)]; exact z
section
variable {X:Cx} {C S:Addr} {tl:List Addr}
def Mi (C:Addr) (ta:TA):TE:=fun σ H Q=>ta σ H fun vs H1=>∃ e x,vs=[.ref e,.str x]∧H1 e=some (.ext (uG C e none))∧Q .br H1
theorem p_ {x:Str} {e0:Expr} {es:List Expr} {p1 p2 pos:Pos} {ta:TA} (xs:XS X.K S) (hg:Gl X x) (hm:X.mg x=some (.ref S)) (xc:XC X.K C tl) (ha:PA X (e0 :: es) ta) (hd:gh x:=by decide)
  {pl:Sem Bool} (ht:eval (.Call (.Attribute (.Name x p1) "__init__" p2) (e0 :: es) [] pos) X.env=(do
   let ov ← eval (.Name x p1) X.env
   standAt p2.atName
   let (f,first) ← holding [ov] (getMethod ov "__init__" pl)
   callWith pos f first (backTo pos (starEach (e0 :: es) X.env)) (backToKw pos (keywordEach [] X.env))):=by rfl)
  (B_:starEach (e0 :: es) X.env=(false,eval e0 X.env) :: starEach es X.env:=by rfl) (fg:(backTo pos (starEach es X.env)).any (·.1)=false:=by rfl) :
  PE X (.Call (.Attribute (.Name x p1) "__init__" p2) (e0 :: es) [] pos) (Mi C ta):=by
 intro pins s σ H Q I h
 refine PySem.W.methodCall_KW (pl:=pl) (gZ I hg hm ?_ hd) ht
 refine PySem.W.method_cls I.jZ xs.ga (PySem.W.cls_value I.jZ xs.rd xs.fi (by decide +kernel) ?_)
 refine callWith_builtin1 (bV (ha pos pins _ σ H _ (I.tok _) h) fun us s1 ⟨vs,H1,I1,r,e,y,ev,eh,q⟩=>?_) B_ fg
 subst ev
 obtain ⟨u1,r1,rfl,z1,r⟩:∃ u1 r1,us=u1 :: r1∧RelV (.ref e) u1∧Vals [.str y] r1:=by cases r with | cons a b=>exact ⟨_,_,rfl,a,b⟩
 obtain ⟨u2,r2,rfl,z2,r⟩:∃ u1 r2,r1=u1 :: r2∧RelV (.str y) u1∧Vals [] r2:=by cases r with | cons a b=>exact ⟨_,_,rfl,a,b⟩
 cases r
 obtain rfl:u1=Value.ref e:=z1
 obtain ⟨⟨t,oe⟩,_,_⟩:=I1.bD e _ eh
 refine A1 I1.jZ xc oe rfl rfl rfl (by show (1:Nat)≤sizeLine; rw [sizeLine_eq]; omega) fun h' k1 k2=>?_
 refine ⟨.br,H1,?_,rfl,q⟩
 have:=I1.write (o:=.ext (uG C e none)) (h':=h') (t':=s1.toks) (by rw [eh]; trivial) (.inl rfl) k1 ⟨_,k2⟩ (zD (t:=s1.heap.objs.size) k2)
 rw [DU eh] at this
 exact this
def Yv (C:Addr) (to tv:TE):TS:=fun D σ H=>tv σ H fun y H1=>to σ H1 fun x H2=>∃ e i,y = .int i∧x = .ref e∧H2 e=some (.ext (uG C e none)) ∧
 ∀ dx,H2 dx=none→dx≠e→D.nx σ (upd (upd H2 e (.ext (uG C e (some dx)))) dx (.xd [("place",.int i)]))
theorem DV {o value:Expr} {pos pos':Pos} {to tv:TE} (xc:XC X.K C tl) (f:XF X.K C) (ho:PE X o to) (hv:PE X value tv) (hs:swapsWith value (some (.Attribute o "place" pos')) pos.line X.env=pure false:=by rfl) :
  PS X (.Assign [.Attribute o "place" pos'] value pos) (Yv C to tv):=by
 intro pins s σ H D I h
 refine plainObj_wpAny_Assign_Attribute (bV (hv pins s σ H _ I h) fun u s1 ⟨y,H1,I1,ry,q⟩=>bV (ho pins s1 σ H1 _ I1 q) fun ov s2 ⟨x,H2,I2,rx,e,i,ey,ex,eh,q2⟩=>?_) hs
 subst ey ex
 obtain rfl:ov=Value.ref e:=rx
 obtain ⟨t,rfl⟩:=ry
 obtain ⟨⟨t0,oe⟩,_,_⟩:=I2.bD e _ eh
 refine A2 I2.jZ xc f oe rfl rfl rfl fun h' C8 k1 k2 k3=>?_
 have ne:s2.heap.objs.size≠e:=BN (d7 oe)
 have fr:H2 s2.heap.objs.size=none:=I2.bD.fresh (d8 _)
 refine ⟨σ,_,?_,q2 s2.heap.objs.size fr ne⟩
 have hw:=I2.bD.write (o':=.ext (uG C e (some s2.heap.objs.size))) (h':=h') (e:=e) (by rw [eh]; trivial) (.inl rfl) k1 ⟨_,k2⟩ (zD (t:=t0) k2)
 have uw:=Un.write (fs:=X.fs) (ex:=[]) (o:=.ext (uG C e (some s2.heap.objs.size))) (h':=h') (H:=H2) (x:=e) (e:=e) (by rw [eh]; trivial) (.inl rfl) k1 ⟨_,k2⟩
 have n1:upd H2 e (.ext (uG C e (some s2.heap.objs.size))) s2.heap.objs.size=none:=by rw [aD ne]; exact fr
 refine I2.un (t':=C8) (lr uw n1 (NK (d8 _))) (jL hw n1 ⟨_,k3,fun y=>?_⟩)
 by_cases z:y="place"
 · subst z; show kd (some (V.int i)) (some (Value.int i t)); exact ⟨t,rfl⟩
 · show kd (List.lookup y [("place",V.int i)]) _
   rw [if_neg z,Fl,beq_eq_false_iff_ne.mpr z]
   trivial
end
end EX
namespace EX
open PySem PySem.Spec PySem.Calls PyProof.Rows L2
open PySem.W (findIn typeIn Looks InstAt)
def zE (P:Program) (w:World):wY:=fun outer H s E v s'=>∃ e C dd T H',v = .ref e∧s'.os=s.os∧AllBare s'.gens∧Un (kL outer) [] H H' s.heap s'.heap∧jS P w H' s'.heap∧Flt s'.heap e C dd (some T) .none ∧
 s.heap.get? e=none∧s.heap.get? T=none∧H' e=none∧H' T=none∧E (.ref C) dd H'
def del (H:Hp) (e:Addr):Hp:=fun b=>if b=e then none else H b
theorem lu {H:Hp} {e:Addr}:del H e e=none:=by unfold del; rw [if_pos rfl]
theorem gv {H:Hp} {e b:Addr} (h:b≠e):del H e b=H b:=by unfold del; rw [if_neg h]
theorem Mj {fs ex:List Addr} {H:Hp} {h:Heap} {e:Addr} {φ:Heap→Prop} (q:H e=some (.ext φ)):Un fs ex H (del H e) h h where
 keep:=fun _ _ z _ _ _=>z
 slot:=fun b o z _ _ _=>⟨o.slots,z⟩
 free:=fun b o _ z _=>by by_cases y:b=e; rw [y]; exact lu; rw [gv y]; exact z
 there:=fun b o z _=>⟨o,z⟩
 iJ:=fun b xs z=>by rw [gv (fun y=>by rw [y,q] at z; cases z)]; exact z
 gY:=fun b o u z=>by rw [gv (fun y=>by rw [y,q] at z; cases z)]; exact z
 iK:=fun b ps z=>⟨#[],by rw [gv (fun y=>by rw [y,q] at z; cases z),z]; simp⟩
theorem Hq {P:Program} {w:World} {H:Hp} {h:Heap} {e:Addr} {φ:Heap→Prop} (ok:jS P w H h) (q:H e=some (.ext φ)):jS P w (del H e) h:=fun b u z=>by
 have n:b≠e:=fun y=>by rw [y,lu] at z; cases z
 rw [gv n] at z
 exact (ok b u z).nD (fun _ _ _ y=>y) (fun c y=>by rw [gv (fun x=>by rw [x,q] at y; cases y)]; exact y) fun c xs y=>by rw [gv (fun x=>by rw [x,q] at y; cases y)]; exact y
theorem Hr {h:Heap} {e C:Addr} {dd:Option Addr} (q:uG C e dd h):Flt h e C dd none .none:=let ⟨t,a⟩:=q; ⟨_,_,a,rfl,rfl,rfl,by simp,rfl⟩
theorem jq {P:Program} {w:World} {H:Hp} {h:Heap} {a:Addr} {o:HO} (x:bQ P w H h a o):∃ u,h.get? a=some u:=by
 cases o with
 | lst xs=>obtain ⟨_,_,_,_,e⟩:=x; exact ⟨_,e⟩
 | tup xs=>obtain ⟨_,_,_,_,e,_⟩:=x; exact ⟨_,e⟩
 | dK aZ=>obtain ⟨_,_,_,_,o,_,_,e,_⟩:=x; exact ⟨_,e⟩
 | dT aZ=>obtain ⟨_,_,_,_,o,_,_,e,_⟩:=x; exact ⟨_,e⟩
 | set S n=>obtain ⟨o,_,_,_,e,_⟩:=x; exact ⟨_,e⟩
 | ins C dx fs=>obtain ⟨_,_,_,e,_⟩:=x; exact ⟨_,e⟩
 | own y=>exact x
 | xd fs=>obtain ⟨_,⟨_,_,_,e,_⟩,_⟩:=x; exact ⟨_,e⟩
 | Rf lo hi=>obtain ⟨_,_,_,e⟩:=x; exact ⟨_,e⟩
 | uD ob u=>exact ⟨_,x.1⟩
 | Io ps=>exact ⟨_,show h.get? a=some _ from x⟩
 | met f y=>exact ⟨_,show h.get? a=some _ from x⟩
 | ext φ=>exact x.2.1
theorem Ml {P:Program} {w:World} {K:PySem.W.Frag} {mg:Str→Option Value} {base:Heap} {N:List Str} {qual:Str} {scope:Scope} {f:Addr} {cd:Value} {A:Around} {outer:List Env} {s s':Shared} {H H':Hp} {E:XK} {pins:List (Addr×Obj)} {σ:L2.St}
  {e C:Addr} {dd T:Option Addr} (I:Inv (d0 (zE P w) P w K mg base N qual scope f cd A outer s H E) pins σ H' s') (F:Flt s'.heap e C dd T .none) (he:H' e=none) (hT:∀ a,T=some a→H' a=none)
  (ne:s.heap.get? e=none) (nT:∀ a,T=some a→s.heap.get? a=none) (hE:E (.ref C) dd H'):(d0 (zE P w) P w K mg base N qual scope f cd A outer s H E).xe (.ref e) s':=by
 have st:=I.stack
 have fr:=I.nW
 have Fd:=I.ok.frames
 have nf:=F.Ft st
 refine DS Fd st rfl F fun h2 T2 F2 n2 k=>?_
 have lt:∀ b o,s.heap.get? b=some o→b≠s.heap.objs.size:=fun b o q=>gW (d7 q)
 have cn:∀ b o,s.heap.get? b=some o→b≠e∧T≠some b:=fun b o q=>⟨fun z=>by (rw [z,ne] at q; cases q),fun z=>by (rw [nT b z] at q; cases q)⟩
 have RP:∀ b,b∈kL (envOfC qual scope s.heap.objs.size f cd :: outer)→b=s.heap.objs.size∨b∈kL outer:=fun b hb=>by
  rcases cL.mp (show b∈s.heap.objs.size :: kL outer from hb) with z | z
  · exact .inl z
  · exact .inr z
 have u:Un (kL outer) [] H H' s.heap s'.heap:=I.base
 have hk:∀ b u,H' b=some u→b≠e∧T≠some b∧b∉kL (envOfC qual scope s.heap.objs.size f cd :: outer):=fun b u z=>⟨fun y=>by (rw [y,he] at z; cases z),fun y=>by (rw [hT b y] at z; cases z),fun y=>by (rw [fr b y] at z; cases z)⟩
 refine ⟨e,C,dd,T2,H',rfl,I.os,I.bare,⟨fun b o q n RQ _=>?_,fun b o q n RQ _=>?_,fun b o q n _=>u.free b o q n (by simp),fun b o q _=>?_,u.iJ,u.gY,u.iK⟩,fun b u z=>?_,F2,ne,?_,he,?_,hE⟩
 · exact k.keep b o (u.keep b o q n RQ (by simp)) (cn b o q).1 (cn b o q).2 fun z=>(RP b z).elim (lt b o q) RQ
 · obtain ⟨sl,q1⟩:=u.slot b o q n RQ (by simp)
   obtain ⟨yS,q2⟩:=k.any q1 (cn b o q).1 (cn b o q).2
   exact ⟨yS,q2⟩
 · obtain ⟨o1,q1⟩:=u.there b o q (by simp)
   obtain ⟨sl,q2⟩:=k.any q1 (cn b o q).1 (cn b o q).2
   exact ⟨_,q2⟩
 · refine (I.bD b u z).nD (fun c v hc q=>?_) (fun _ y=>y) fun _ _ y=>y
   have hh:∃ u,H' c=some u:=by
    rcases hc with y | y
    · exact ⟨u,by rw [y]; exact z⟩
    · exact ⟨_,y⟩
   obtain ⟨u',y⟩:=hh
   obtain ⟨n1,Yw,n3⟩:=hk c u' y
   exact k.keep c v q n1 Yw n3
 · cases q:s.heap.get? T2 with
   | none=>rfl
   | some o =>
     obtain ⟨o1,q1⟩:=u.there T2 o q (by simp)
     rw [n2] at q1; cases q1
 · cases q:H' T2 with
   | none=>rfl
   | some o =>
     obtain ⟨o1,q1⟩:=jq (I.bD T2 o q)
     rw [n2] at q1; cases q1
def RS (C:Addr):Sp:=fun vs H Q _=>∃ e i,vs=[.ref e,.int i]∧0≤i∧i≤100∧H e=some (.ext (uG C e none)) ∧
 ∀ dx,H dx=none→dx≠e→Q .br (upd (upd H e (.ext (uG C e (some dx)))) dx (.xd [("place",.int i)]))
structure XP (P:Program) (w:World) (K:PySem.W.Frag) (mg:Str→Option Value) (base:Heap) (x:Str) (C:Addr) (k:Nat):Prop where
 m:mg x=some (.ref C)
 kp:PySem.W.keepIn K (.ref C)=true
 xc:∃ tl,XC K C tl
 init:∃ fI fd,findIn K (.ref C) "__init__" = some (some (.ref fI))∧typeIn K (.ref fI)=some (.type "function")∧Binds K fd ["self","place"] []∧cS P w K mg base iW k fI fd ["self","place"] (RS C)
section
variable {X:Cx} {C:Addr} {k:Nat} {x:Str}
def UK (C:Addr) (t:TA):TE:=fun σ H Q=>t σ H fun vs H1=>∃ i,vs=[.int i]∧0≤i∧i≤100∧∀ e dx,H1 e=none→H1 dx=none→dx≠e→Q (.ref e) (upd (upd H1 e (.ext (uG C e (some dx)))) dx (.xd [("place",.int i)]))
theorem Mm {a:Expr} {es:List Expr} {p pos:Pos} {t:TA} (xp:XP X.prog X.w X.K X.mg X.base x C k) (hr:bx (k+1) X.A) (hg:Gl X x) (ha:PA X (a :: es) t) (lZ:gh x:=by decide)
  (he:starEach (a :: es) X.env=(false,eval a X.env) :: starEach es X.env:=by rfl) (fg:(backTo pos (starEach es X.env)).any (·.1)=false:=by rfl):PE X (.Call (.Name x p) (a :: es) [] pos) (UK C t):=by
 intro pins s σ H Q I h
 obtain ⟨tl,xc⟩:=xp.xc
 obtain ⟨fI,fd,hi,ht,hb,F⟩:=xp.init
 refine wpAny_Call_Name_kw (gZ I hg xp.m ?_ lZ)
 refine NO (h₀:=X.base) I.ok.mod.JN xp.kp (bV (ha pos pins s σ H _ I h) fun us s1 ⟨vs,H1,I1,r,i,ev,h0,h1,q⟩=>⟨I1.jZ,?_⟩) he fg
 subst ev
 obtain ⟨u1,r1,rfl,z1,r⟩:∃ u1 r1,us=u1 :: r1∧RelV (.int i) u1∧Vals [] r1:=by cases r with | cons a b=>exact ⟨_,_,rfl,a,b⟩
 cases r
 refine AZ (g:=s1.gens) (d:=s1.drawn) (t:=s1.toks) (os:=s1.os) I1.jZ xc hi ht (fun h' e hm=>?_) (by show (1:Nat)≤sizeLine; rw [sizeLine_eq]; omega)
 obtain ⟨t0,Mh,_,_⟩:=hm.there
 have n1:H1 e=none:=by
  cases q:H1 e with
  | none=>rfl
  | some o=>obtain ⟨u,z⟩:=jq (I1.bD e o q); rw [hm.new] at z; cases z
 have I2:Inv X pins σ (upd H1 e (.ext (uG C e none))) { s1 with heap:=h' }:=I1.un (t':=s1.toks) (lr (Un.kept hm.keeps) n1 hm.new) (jL (I1.bD.kept hm.keeps) n1 (zD Mh))
 have r2:Vals [V.ref e,.int i] [Value.ref e,u1]:=.cons rfl (.cons z1 .nil)
 refine wpAny_call (codeAny_mono (F.run _ X.stack _ _ ⟨[Value.ref e,u1],[]⟩ [Value.ref e,u1] _ (fun v H2=>v = .br∧Q (.ref e) H2) E0 (hr.make C [u1] []) (I2.Kw.make C [u1] []) (hb _ [Value.ref e,u1] I2.jZ rfl) r2 ⟨e,i,rfl,h0,h1,aQ,fun dx d1 d2=>⟨rfl,?_⟩⟩) fun r s' hq=>?_)
 · have d3:H1 dx=none:=by rw [aD d2] at d1; exact d1
   have:=q e dx n1 d3 d2
   rw [Fo]
   exact this
 · cases r with
   | error e=>exact False.elim hq
   | ok fl =>
     cases fl with
     | ret u =>
       obtain ⟨v,H2,I3,rv,rfl,q2⟩:=I2.after hq
       refine ⟨?_,.ref e,H2,I3,rfl,q2⟩
       exact rv
     | _=>exact False.elim hq
def Mn (X:Cx) (te:TE):TS:=fun _ σ H=>te σ H fun v H1=>∃ e C dd tl,v = .ref e∧XC X.K C tl∧H1 e=some (.ext (uG C e dd)) ∧
 ∀ pins s,Inv X pins σ H1 s→Inv X pins σ (del H1 e) s→Flt s.heap e C dd none .none→X.xe (.ref e) s
theorem vW {e:Expr} {pos:Pos} {te:TE} (hc:X.calm=true) (he:PE X e te):PS X (.Raise (some e) none pos) (Mn X te):=by
 intro pins s σ H D I h
 rw [arm_exec_Raise]
 refine wpAny_bind (wpAny_standAt ?_)
 unfold raiseStmt
 refine wpAny_bind (wpAny_bind (bV (he pins s σ H _ I h) fun v s1 ⟨x,H1,I1,r,e,C,dd,tl,ex,xc,eh,q⟩=>?_))
 subst ex
 obtain rfl:v=Value.ref e:=r
 have hh:=I1.ok.hd hc
 obtain ⟨nm,q',N,bs,sn,sub,ab,col,GX,k0,k1,k2,k3,k5,oK⟩:=xc.obj
 have oC:=I1.jZ _ _ oK
 obtain ⟨⟨t,oe⟩,_,_⟩:=I1.bD e _ eh
 have hE:X.xe (.ref e) s1:=q pins s1 I1 (I1.un (t':=s1.toks) (Mj eh) (Hq I1.bD eh)) (Hr ⟨t,oe⟩)
 have Yx:(Value.ref C :: (tl.map Value.ref ++ Fe)).contains (.type "BaseException")=true:=by simp
 obtain ⟨hp,g,dr,tk,os⟩:=s1
 repeat (first | with_reducible refine wpAny_loadPart_at oe ?_ | with_reducible refine wpAny_loadPart_at oC ?_ | (with_reducible refine wpAny_isSubtype_exc oC ?_; rw [Yx]) | wp_step)
 exact wpAny_raiseNew_none hh hE
end
end EX
namespace EX
open PySem PySem.Spec PySem.Calls PyProof.Rows L2 VT
abbrev WT:=Addr→Option Int→Prop
def Hs (H:Hp) (dd:Option Addr):Option Int→Prop
 | none=>dd=none
 | some i=>∃ d,dd=some d∧H d=some (.xd [("place",.int i)])
def x8 (K:PySem.W.Frag) (n:Nat) (G:WT→List T→(Rt→Prop)→Prop):Sp:=fun vs H Q E=>∃ W,b_ K n (G W) vs H Q E∧∀ C p dd H',aJ H H'→Hs H' dd p→W C p→E (.ref C) dd H'
structure Nw (X:Cx) (Z:Zc) (W:WT):Prop where
 calm:X.calm=true
 own:PassesOwn (model X.prog X.w) X.A X.env X.xe
 P0:Z.P=[]
 H0:Z.H0=X.H₀
 ex:X.ex=[]
 xe:∀ pins σ H s e C dd T p,Inv X pins σ H s→Flt s.heap e C dd T .none→H e=none→(∀ a,T=some a→H a=none)→X.s₀.heap.get? e=none→(∀ a,T=some a→X.s₀.heap.get? a=none)→aJ Z.H0 H→Hs H dd p→W C p→X.xe (.ref e) s
theorem qa {K:PySem.W.Frag} {Z:Zc} {tm:List (T×V)} {O:List (Option Addr)} {ρ:En} {σ:L2.St} {H:Hp} (h:Z.P=[]) (I:aw K Z tm O ρ σ H):aJ Z.H0 H:=fun b o e=>I.keep b o e (by rw [h]; simp)
section
variable {X:Cx} {Z:Zc} {W:WT} {C f:Addr} {fd:FuncData} {ps:List Str} {k n:Nat} {x:Str} {g:FA}
def Mo (W:WT) (C:Addr) (g:FA):FS:=fun _ ρ=>g ρ fun ts=>∃ i:Int,ts=[.int i]∧0≤i∧i≤100∧W C (some i)
theorem jr {a:Expr} {np bc pos:Pos} (hw:Nw X Z W) (xp:XP X.prog X.w X.K X.mg X.base x C k) (hr:bx (k+1) X.A) (hg:Gl X x) (ha:VA X Z [a] g) (lZ:gh x:=by decide)
  (he:starEach [a] X.env=(false,eval a X.env) :: starEach [] X.env:=by rfl) (fg:(backTo bc (starEach [] X.env)).any (·.1)=false:=by rfl) :
  VS X Z (.Raise (some (.Call (.Name x np) [a] [] bc)) none pos) (Mo W C g):=.mk fun tm=>PS.weak (vW hw.calm (Mm xp hr hg (ha tm) lZ he fg)) fun D σ H ⟨ρ,O,d,I,q,F⟩ =>
 ⟨ρ,O,_,I,q,fun ts ⟨i,Yy,h0,h1,hW⟩ vs H1 s1 a1=>by
   subst Yy
   simp only [aE,At] at a1
   obtain ⟨v,r,rfl,rfl,rfl⟩:=a1
   refine ⟨i,rfl,h0,h1,fun e dx n1 n2 n3=>?_⟩
   obtain ⟨tl,xc⟩:=xp.xc
   have eu:upd (upd H1 e (.ext (uG C e (some dx)))) dx (.xd [("place",.int i)]) e=some (.ext (uG C e (some dx))):=by rw [aD (Ne.symm n3),aQ]
   refine ⟨e,C,some dx,tl,rfl,xc,eu,fun pins s J J2 fl=>?_⟩
   have sm:aJ Z.H0 H1:=(qa hw.P0 I).trans s1
   have z0:Z.H0 e=none:=sm.free n1
   refine hw.xe pins σ _ s e C (some dx) none (some i) J2 fl lu (fun _ z=>nomatch z) ?_ (fun _ z=>nomatch z) (fun b o z=>?_) ⟨dx,rfl,by rw [gv n3,aQ]⟩ hW
   · cases q2:X.s₀.heap.get? e with
     | none=>rfl
     | some o =>
       have:=J.base.free e o q2 (by rw [← hw.H0]; exact z0) (by rw [hw.ex]; simp)
       rw [eu] at this; cases this
   · have z1:=sm b o z
     have b1:b≠e:=fun y=>by rw [y,n1] at z1; cases z1
     have b2:b≠dx:=fun y=>by rw [y,n2] at z1; cases z1
     rw [gv b1,aD b2,aD b1]
     exact z1⟩
theorem PU (hw:Nw X Z W):Passes (zE X.prog X.w) X (fun c dd H'=>∃ C p,c = .ref C∧aJ Z.H0 H'∧Hs H' dd p∧W C p):=by
 rintro pins σ H s _ s' I ⟨e,C,dd,T,H',rfl,os,bare,un,bD,fl,n1,n2,n3,n4,C',p,eC,sm,pl,hW⟩
 cases eC
 have J:=I.B7 os un bD bare fun b z=>nomatch z
 have fr:∀ a,s.heap.get? a=none→X.s₀.heap.get? a=none:=fun a z=>by
  cases q:X.s₀.heap.get? a with
  | none=>rfl
  | some o=>obtain ⟨o',q'⟩:=I.base.there a o q (by rw [hw.ex]; simp); rw [z] at q'; cases q'
 exact hw.xe pins σ H' s' e C dd (some T) p J fl n3 (fun a z=>by cases z; exact n4) (fr e n1) (fun a z=>by cases z; exact fr _ n2) sm pl hW
def Mp (n:Nat) (g:FA) (G:WT→List T→(Rt→Prop)→Prop) (W:WT):FS:=fun d ρ=>g ρ fun ts=>ts.length=n∧∃ W',(∀ C p,W' C p→W C p)∧G W' ts fun r=>r = .vw .br∧d.nx ρ
theorem jt {e:Expr} {es:List Expr} {G:WT→List T→(Rt→Prop)→Prop} {p pos pos':Pos} (hw:Nw X Z W) (F:cS X.prog X.w X.K X.mg X.base (zE X.prog X.w) k f fd ps (x8 X.K n G)) (hr:bx k X.A) (hg:Gl X x) (hm:X.mg x=some (.ref f)) (hk:PySem.W.keepIn X.K (.ref f)=true) (hb:Binds X.K fd ps [])
  (ha:E8 X Z (e :: es) g) (lZ:gh x:=by decide) (he:starEach (e :: es) X.env=(false,eval e X.env) :: starEach es X.env:=by rfl) (fg:(backTo pos (starEach es X.env)).any (·.1)=false:=by rfl)
  (hs:swapsWith (.Call (.Name x p) (e :: es) [] pos) none pos'.line X.env=pure false:=by rfl) :
  VS X Z (.Expr (.Call (.Name x p) (e :: es) [] pos) pos') (Mp n g G W):=.mk fun tm=>PS.weak (kP (kR F hr hg hm hk hb .nil (PU hw) (ha tm) lZ he fg) hs) fun D σ H ⟨ρ,O,d,I,q,F⟩ =>
 ⟨ρ,O,_,I,q,fun ts ⟨hn,W',sub,hG⟩ vs H1 s1 a1=>by
   have J:=I.same s1
   have sm:aJ Z.H0 H1:=(qa hw.P0 I).trans s1
   have a2:aE X.K H1 [] ts vs:=aE.iff.mpr (Paired.nC a1 fun _ _ z=>z.bare)
   show x8 X.K n G (vs ++ []) H1 _ _
   rw [EY]
   refine ⟨W',⟨ts,[],[],fun _ r=>r = .vw .br∧d.nx ρ,JG,fun _ z=>absurd z dZ,fun _ z=>absurd z dZ,eB hn a2,hG,fun us r ⟨hr,hd⟩ v H' fr z=>?_⟩,fun C p dd H' s2 pl w=>⟨C,p,rfl,sm.trans s2,pl,sub C p w⟩⟩
   subst hr
   have s2:aJ H1 H':=fun b o e=>fr b o e dZ
   exact F.nx O ρ σ H' (J.same s2) hd⟩
end
section
variable {P:Program} {w:World} {K:PySem.W.Frag} {mg:Str→Option Value} {base:Heap}
def qb (P:Program) (w:World) (K:PySem.W.Frag) (mg:Str→Option Value) (base:Heap) (x:Str) (ps:List Str) (k:Nat) (sp:Sp):Prop :=
 ∃ f fd,mg x=some (.ref f)∧PySem.W.keepIn K (.ref f)=true∧Binds K fd ps []∧cS P w K mg base (zE P w) k f fd ps sp
theorem WE:∀ n (as:List Addr) k,pz (List.replicate n false) as k=[]
 | 0,_,_=>rfl
 | n+1,as,k=>WE n as (k+1)
theorem Jk:∀ n (ρ:En),md (List.replicate n false) ρ=[]
 | 0,_=>rfl
 | n+1,ρ=>Jk n ρ.tail
theorem PV:∀ n (ts:List T),ts.length=n→sX (List.replicate n false) ts=ts.map fun t=>some (t,false)
 | 0,ts,e=>by cases ts <;> simp_all [sX]
 | n+1,[],e=>by simp at e
 | n+1,t :: ts,e=>by rw [Q9,sX,PV n ts (by simpa using e)]; rfl
theorem WG:∀ {n:Nat} {H:Hp} {A as:List Addr} {ts:List T} {vs:List V},eA K H A (List.replicate n false) as ts vs→as=[]
 | 0,_,_,_,_,_,h=>h.1
 | n+1,_,_,_,_,_,h=>let ⟨_,_,_,_,_,_,_,h⟩:=h; WG (n:=n) h
theorem PX {x qual:Str} {st:Stmt} {f:Addr} {fd:FuncData} {N ps:List Str} {k n:Nat} {G:WT→List T→(Rt→Prop)→Prop} (F:BU K x qual st f fd) (S:aG N ps (aj st)) (hn:n=ps.length)
  (iU:∀ (bE:Value) (A:Around) (outer:List Env) (s:Shared) (H:Hp) (E:XK) (Ox:List Addr),bx k (A.deeper (envOfC qual (aj st) s.heap.objs.size f bE))→∀ W ts q,G W ts q→Nw (d0 (zE P w) P w K mg base N qual (aj st) f bE A outer s H E) ⟨H,[],Ox⟩ W →
    ∃ g,jE (d0 (zE P w) P w K mg base N qual (aj st) f bE A outer s H E) ⟨H,[],Ox⟩ (cp st) g∧(ts.length=n→g { nx:=fun _=>q (.vw .br),rt:=fun _ r=>q r } (ts.map (fun t=>some (t,false)) ++ List.replicate (N.length - ts.length) none))) :
  cS P w K mg base (zE P w) (k+1) f fd ps (x8 K n G):=by
 obtain ⟨oc,od,kV,doc,pm,an,bE,ct,yR,rfl,lk,iL⟩:=F.ex
 refine Iw lk iL S (fun vs H Q E h=>?_) fun A outer s H vs Q E hr Iy=>?_
 · obtain ⟨W,⟨ts,as,Ox,q,_,_,_,ha,_⟩,_⟩:=h
   rw [(fG ha).2.1,Fh,hn]
 · obtain ⟨W,⟨ts,as,Ox,q,nd,nx,ox,ha,hG,kk⟩,hE⟩:=Iy
   have l1:=(fG ha).1
   rw [Fh] at l1
   have e0:=WG ha
   subst e0
   have hw:Nw (d0 (zE P w) P w K mg base N qual (aj st) f bE A outer s H E) ⟨H,[],Ox⟩ W :=
    ⟨rfl,PassesOwn.leaving,rfl,rfl,rfl,fun pins σ H' s' e C dd T p I fl h1 h2 h3 h4 sm pl w=>Ml I fl h1 h2 h3 h4 (hE C p dd H' sm pl w)⟩
   obtain ⟨g,h1,h2⟩:=iU bE A outer s H E Ox hr W ts (q []) hG hw
   refine ⟨_,h1 [],?_⟩
   have:=oR (X:=d0 (zE P w) P w K mg base N qual (aj st) f bE A outer s H E) (N:=N) (g:=g) nd nx ox ha kk (by
    rw [PV n ts l1]
    simp only [Jk]
    exact h2 l1)
   rw [WE] at this
   exact this
end
end EX
namespace Ht
open PySem L2 VT Gen wC EX cN
abbrev bj:Stmt:=top 31
abbrev bZ:Stmt:=top 33
abbrev ck:Stmt:=top 36
abbrev eM:Stmt:=top 38
def vQ (ts:List T) (q:Rt→Prop):Prop:=∃ (rs:List Rw) (i:Nat) (x f:Str) (as:List pq),ts=[.lst (rs.map aV),Hh (bg rs rs.length),.int (i:Int)]∧rs[i]?=some (Rw.call x f as)∧q (.vw (.bl (ua rs i f as)))
def gH (cB:Addr) (W:WT) (ts:List T) (q:Rt→Prop):Prop:=∃ rs:List Rw,ts=[.lst (rs.map aV)]∧rs.length≤60∧(match brk [] rs 0 with | none=>q (.vw .br) | some i=>W cB (some (i:Int)))
def jK (cC:Addr) (W:WT) (ts:List T) (q:Rt→Prop):Prop:=∃ rs:List Rw,ts=[.lst (rs.map aV)]∧rs.length≤60∧(match gI rs with | none=>q (.vw .br) | some i=>W cC (some (i:Int)))
def t6 (cB cC:Addr) (W:WT) (ts:List T) (q:Rt→Prop):Prop:=∃ rs:List Rw,ts=[.lst (rs.map aV)]∧rs.length≤60∧(∀ r∈rs,jd (aV r))∧(match brk [] rs 0 with
 | some i=>W cB (some (i:Int))
 | none=>match gI rs with
   | some i=>W cC (some (i:Int))
   | none=>q (.fr (.lst (rs.map aV))))
section
variable {P:Program} {w:World} {K:PySem.W.Frag} {mg:Str→Option Value} {base:Heap} {fW gf:Addr}
abbrev fV:List Str:=["program","opened","place","row"]
theorem cf:aG fV ["program"] (aj bZ):=L2.g7
theorem iG {f:Addr} {fd:FuncData} (D:Df K mg "check_blocks" bZ ["program"] f fd) (M:xV w K mg) (ip:XP P w K mg base "NoBlock" fW 1) (jf:cm P w K mg base "may_stand" ["opened","word"] 1 (b_ K 2 Mg)) (mJ:cm P w K mg base "go_past" ["opened","word"] 1 (qL K [true,false] UH)):qb P w K mg base "check_blocks" ["program"] 3 (x8 K 1 (gH fW)):=by
 obtain ⟨vS,t8,jg,jh,ji,jj⟩:=jf
 obtain ⟨AW,xZ,mK,mQ,mT,mU⟩:=mJ
 refine ⟨f,fd,D.m,D.F.kp,D.b,PX D.F cf rfl fun bE A outer s H E Ox hr W ts q hG hw=>?_⟩
 have nd:=cf.nd
 have np:∀ {i:Nat},aY ⟨H,[],Ox⟩ i:=kJ
 refine ⟨_,(af (eU (i:=1) nd rfl (Or.inl rfl) (VP.vx (bW ai)) np)
   (af (dF hw.own rfl (hV (by rfl) M.enumerate (ak 0)) (hU (n:=2) rfl (bz (bb (i:=2) nd rfl (Or.inl rfl) np) (bz (bb (i:=3) nd rfl (Or.inl rfl) np) e8)))
     (af (aP (dm (dj (gz jj (hr.mono (by decide)) (by rfl) jg jh ji (ao (ae 1) (ao (VP.vr (aW (ae 3) (VP.vr ag))) au)))))
       (ah (jr hw ip (hr.mono (by decide)) (by rfl) (aa (ak 2) ai)))
       ax)
     (ah (aX (oW mU (hr.mono (by decide)) (by rfl) mK mQ mT (og 1 (i9 (VP.ve (aW (ae 3) (VP.vr ag))) sZ)))))))
   (ah (aP (mZ (VP.vr (ay az aA (by rfl) M.len iA (ao (ae 1) au))) (VP.vr ag))
     (ah (jr hw ip (hr.mono (by decide)) (by rfl) (aa (VP.ve (ay az aA (by rfl) M.len iA (ao (ae 0) au))) ai)))
     ax)))),fun _=>?_⟩
 obtain ⟨rs,rfl,hn,hq⟩:=hG
 refine ⟨kK _,?_⟩
 refine eJ (fun i ρ=>∃ b2 b3 st,ρ=[some (.lst (rs.map aV),false),some (.lst (st.map .str),true),b2,b3]∧brk [] rs 0=brk st (rs.drop i) i∧st.length≤i) ⟨_,_,[],rfl,rfl,kK _⟩ ?_ ?_
 · rintro i r ρ hr ⟨b2,b3,st,rfl,hs,hl⟩
   have hi:=(fY.mp hr).1
   rw [Hi hr] at hs
   obtain ⟨l,el⟩:=zw r
   rw [el]
   refine ⟨rfl,rfl,_,aB (j:=0) rfl,rfl,st,wd r,rfl,?_⟩
   cases hm:dA st (wd r) with
   | false =>
     have e2:brk [] rs 0=some i:=by rw [hs]; show (if dA st (wd r)=true then _ else _)=_; rw [hm]; rfl
     rw [e2] at hq
     exact ⟨rfl,(i:Int),rfl,by omega,by omega,hq⟩
   | true =>
     refine ⟨rfl,_,aB (j:=0) rfl,st,wd r,rfl,by omega,hm,?_⟩
     have hg:=Hj hm
     refine ⟨_,_,iQ st (wd r),rfl,?_,by omega⟩
     rw [hs]; show (if dA st (wd r)=true then _ else _)=_; rw [if_pos hm]
 · rintro ρ ⟨b2,b3,st,rfl,hs,hl⟩
   rw [List.drop_length] at hs
   have uE:brk [] rs 0=if st=[] then none else some rs.length:=hs
   rw [uE] at hq
   by_cases he:st=[]
   · rw [if_pos he] at hq
     subst he
     exact hq
   · rw [if_neg he] at hq
     have hp:0 < st.length:=List.length_pos_iff.mpr he
     have RN:((st.map T.str).length:Int)=(st.length:Int):=by rw [cu]
     refine zA (c:=decide ((0:Int) < ((st.map T.str).length:Int))) (decide_eq_true (by omega)) ?_
     have Yz:((rs.map aV).length:Int)=(rs.length:Int):=by rw [cu]
     exact ⟨((rs.map aV).length:Int),rfl,by omega,by omega,by rw [Yz]; exact hq⟩
abbrev kA:List Str:=["program","firsts","place","row","first"]
theorem eR:aG kA ["program","firsts","place"] (aj eM):=L2.g7
theorem ni {f:Addr} {fd:FuncData} (D:Df K mg "may_call" eM ["program","firsts","place"] f fd) (M:xV w K mg):cm P w K mg base "may_call" ["program","firsts","place"] 1 (b_ K 3 vQ):=by
 refine D.ko (lU D.F eR rfl fun bE A outer s H E Ox hr ts q hG=>?_)
 have nd:=eR.nd
 have hu:=bx.iM hr
 have np:∀ {i:Nat},aY ⟨H,[],Ox⟩ i:=kJ
 have wD:=zp hu
 refine ⟨_,(af (aL (i:=3) nd rfl (Or.inl rfl) (VP.vx (aW (ae 0) (ae 2))) np)
   (af (aL (i:=4) nd rfl (Or.inl rfl) (VP.vx (Dh wD (ae 1) (VP.vr (aW (ae 3) (VP.vr ag))) ⟨rfl,rfl,rfl,rfl⟩)) np)
   (af (aP (VW.vc (iZ (rN (ae 4) (VP.vr iY)) (gk (i7 (ae 4) (ae 2)))))
     (ah (aH (VP.vx j4)))
     ax)
   (ah (aH (VP.vx (rK hu (VP.vr (ay az aA (by rfl) M.len iA (ao (VP.vr (aW (VP.vr (aW (ae 0) (ae 4))) (VP.vr ag))) au))) (VP.vr (ay az aA (by rfl) M.len iA (ao (VP.vr (aW (ae 3) (VP.vr ag))) au)))))))))),fun _=>?_⟩
 obtain ⟨rs,i,x,g,as,rfl,hi,hq⟩:=hG
 refine ⟨_,ot hi,_,aB (j:=2) rfl,?_⟩
 have ex:=pR (bg rs rs.length) g
 dsimp only [Rt.t,Av]
 rw [ex]
 cases ha:qz (bg rs rs.length) g with
 | none=>rw [AX ha] at hq; exact hq
 | some j =>
   obtain ⟨_,ps,hj⟩:=pQ rs.length ha
   rw [r9 ha hj] at hq
   by_cases F8:j < i
   · rw [if_pos F8] at hq
     exact zA (c:=decide ((j:Int) < (i:Int))) (decide_eq_true (by omega)) hq
   · rw [if_neg F8] at hq
     refine ff (c:=decide ((j:Int) < (i:Int))) (decide_eq_false (by omega)) ?_
     refine ⟨_,ot hj,_,aB (j:=2) rfl,_,aB (j:=3) rfl,?_⟩
     show q (.vw (.bl (decide (((ps.map T.str).length:Int)=((as.map qW).length:Int)))))
     rw [cu,cu]
     have e:decide ((ps.length:Int)=(as.length:Int))=decide (ps.length=as.length):=by rw [Ni]; simp; omega
     rw [e]
     exact hq
abbrev gr:List Str:=["program","firsts","place","row"]
theorem cz:aG gr ["program"] (aj ck):=L2.g7
theorem jk {f:Addr} {fd:FuncData} (D:Df K mg "check_calls" ck ["program"] f fd) (M:xV w K mg) (jM:XP P w K mg base "NoCall" gf 1) (ie:cm P w K mg base "first_defs" ["program"] 1 (b_ K 1 xX)) (kB:cm P w K mg base "may_call" ["program","firsts","place"] 1 (b_ K 3 vQ)):qb P w K mg base "check_calls" ["program"] 3 (x8 K 1 (jK gf)):=by
 obtain ⟨t_,qZ,ig,ij,ik,il⟩:=ie
 obtain ⟨x4,vT,kC,kD,kE,kF⟩:=kB
 refine ⟨f,fd,D.m,D.F.kp,D.b,PX D.F cz rfl fun bE A outer s H E Ox hr W ts q hG hw=>?_⟩
 have nd:=cz.nd
 have hu:=bx.iM hr
 have np:∀ {i:Nat},aY ⟨H,[],Ox⟩ i:=kJ
 have wD:=zp hu
 refine ⟨_,(af (aL (i:=1) nd rfl (Or.inl rfl) (VP.vx (aM il (hr.mono (by decide)) (by rfl) ig ij ik (aa (ak 0) ai))) np)
   (ah (dF hw.own rfl (hV (by rfl) M.enumerate (ak 0)) (hU (n:=2) rfl (bz (bb (i:=2) nd rfl (Or.inl rfl) np) (bz (bb (i:=3) nd rfl (Or.inl rfl) np) e8)))
     (af (aP (VW.vc (ei (bJ hu (VP.vr (aW (ae 3) (VP.vr ag))) (VP.vr aq)) (dc (kW hu (VP.vr (Dg wD (ae 1) (VP.vr (aW (ae 3) (VP.vr ag))))) (ae 2)))))
       (ah (jr hw jM (hr.mono (by decide)) (by rfl) (aa (ak 2) ai)))
       ax)
     (ah (aP (VW.vc (ei (bJ hu (VP.vr (aW (ae 3) (VP.vr ag))) (VP.vr aq)) (dc (dm (dj (aM kF (hr.mono (by decide)) (by rfl) kC kD kE (aa (ak 0) (aa (ak 1) (aa (ak 2) ai)))))))))
       (ah (jr hw jM (hr.mono (by decide)) (by rfl) (aa (ak 2) ai)))
       ax)))))),fun _=>?_⟩
 obtain ⟨rs,rfl,hn,hq⟩:=hG
 refine ⟨rfl,rs,rfl,hn,?_⟩
 refine eJ (fun i ρ=>∃ b2 b3,ρ=[some (.lst (rs.map aV),false),some (Hh (bg rs rs.length),false),b2,b3]∧∀ j < i,dY rs j=false) ⟨_,_,rfl,fun j hj=>absurd hj (Nat.not_lt_zero _)⟩ ?_ ?_
 · rintro i r ρ hr ⟨b2,b3,rfl,hp⟩
   have hi:=(fY.mp hr).1
   have UL:dY rs i=false→∀ j < i+1,dY rs j=false:=fun h j hj=>by
    rcases Nat.lt_succ_iff_lt_or_eq.mp hj with z | z
    · exact hp j z
    · rw [z]; exact h
   have bad:dY rs i=true→W gf (some (i:Int)):=fun h=>by
    rw [x5 hi hp h] at hq
    exact hq
   cases r with
   | df g ps =>
     refine ⟨rfl,rfl,_,aB (j:=0) rfl,_,aB (j:=1) rfl,?_⟩
     have ex:=pR (bg rs rs.length) g
     obtain ⟨j,ha⟩:=mE hr rs.length hi
     rw [ha] at ex
     refine ⟨_,ex,?_⟩
     have ew:dY rs i = !decide (j=i):=by unfold dY; rw [hr]; dsimp only; rw [ha]; simp
     by_cases WH:j=i
     · refine ff (c:=!decide ((j:Int)=(i:Int))) (by simp; omega) ⟨_,aB (j:=0) rfl,_,_,rfl,UL (by rw [ew,decide_eq_true WH]; rfl)⟩
     · refine zA (c:=!decide ((j:Int)=(i:Int))) (by simp; omega) ⟨(i:Int),rfl,by omega,by omega,bad (by rw [ew,decide_eq_false WH]; rfl)⟩
   | call x g as =>
     have ew:dY rs i = !ua rs i g as:=by unfold dY; rw [hr]
     refine ⟨rfl,rfl,_,aB (j:=0) rfl,_,aB (j:=0) rfl,rfl,rs,i,x,g,as,rfl,hr,?_⟩
     cases hm:ua rs i g as with
     | true=>exact ⟨_,_,rfl,UL (by rw [ew,hm]; rfl)⟩
     | false=>exact ⟨(i:Int),rfl,by omega,by omega,bad (by rw [ew,hm]; rfl)⟩
   | _=>exact ⟨rfl,rfl,_,aB (j:=0) rfl,_,aB (j:=0) rfl,_,_,rfl,UL (by unfold dY; rw [hr])⟩
 · rintro ρ ⟨b2,b3,rfl,hp⟩
   rw [pZ hp] at hq
   exact hq
abbrev bT:List Str:=["rows","program"]
theorem bK:aG bT ["rows"] (aj bj):=L2.g7
theorem gu {f:Addr} {fd:FuncData} (D:Df K mg "program_of" bj ["rows"] f fd) (M:xV w K mg) (dR:cm P w K mg base "check_rows" ["program"] 6 (b_ K 1 xW)) (cA:qb P w K mg base "check_blocks" ["program"] 3 (x8 K 1 (gH fW))) (cX:qb P w K mg base "check_calls" ["program"] 3 (x8 K 1 (jK gf))):qb P w K mg base "program_of" ["rows"] 7 (x8 K 1 (t6 fW gf)):=by
 obtain ⟨lp,j',dS,dU,dW,dX⟩:=dR
 obtain ⟨jm,iH,cD,cF,cH,cJ⟩:=cA
 obtain ⟨ka,jo,cY,cZ,c9,c_⟩:=cX
 refine ⟨f,fd,D.m,D.F.kp,D.b,PX D.F bK rfl fun bE A outer s H E Ox hr W ts q hG hw=>?_⟩
 have nd:=bK.nd
 have np:∀ {i:Nat},aY ⟨H,[],Ox⟩ i:=kJ
 obtain ⟨tM,mM⟩:=M.mG
 have eS:∀ {pos},VP (d0 (zE P w) P w K mg base bT "program_of" (aj bj) f bE A outer s H E) ⟨H,[],Ox⟩ (.Name "MOST_ROWS" pos) (fC (.int 60)):=eO (by rfl) mM (v:=.int 60) ⟨_,rfl⟩ fun _ _=>bq
 refine ⟨_,(af (eU (i:=1) nd rfl (Or.inl rfl) (VP.vx (dw dC fF (by rfl) M.list o8 (ao (ae 0) au))) np)
   (af (aP (mZ (VP.vr (ay az aA (by rfl) M.len iA (ao (ae 1) au))) (VP.vr eS))
     (ah kz)
     ax)
   (af (aX (VP.vx (gz dX (hr.mono (by decide)) (by rfl) dS dU dW (ao (ae 1) au))))
   (af (jt hw cJ (hr.mono (by decide)) (by rfl) cD cF cH (ao (ae 1) au))
   (af (jt hw c_ (hr.mono (by decide)) (by rfl) cY cZ c9 (ao (ae 1) au))
   (ah (aH (g_ 1 np)))))))),fun _=>?_⟩
 obtain ⟨rs,rfl,hn,hA,hq⟩:=hG
 have hl:((rs.map aV).length:Int)=(rs.length:Int):=by rw [cu]
 refine ff (c:=decide ((60:Int) < ((rs.map aV).length:Int))) (decide_eq_false (by omega)) ?_
 refine ⟨rfl,rs,rfl,hA,rfl,rfl,W,fun _ _ z=>z,rs,rfl,hn,?_⟩
 cases hb:brk [] rs 0 with
 | some i=>rw [hb] at hq; exact hq
 | none =>
   rw [hb] at hq
   refine ⟨rfl,rfl,W,fun _ _ z=>z,rs,rfl,hn,?_⟩
   cases hc:gI rs with
   | some i=>rw [hc] at hq; exact hq
   | none =>
     rw [hc] at hq
     exact ⟨rfl,hq⟩
end
end Ht
namespace EX
open PySem PySem.Spec PySem.Calls PyProof.Rows L2
open PySem.W (findIn typeIn Looks InstAt)
def Mq (C e:Addr) (dd:Option Addr):Heap→Prop:=fun h=>∃ oe vs,h.get? e=some oe∧oe.cls = .ref C∧oe.dict=dd∧oe.data = .fields vs
section
variable {X:Cx} {pins:List (Addr×Obj)} {σ:L2.St} {H H1:Hp} {s s1:Shared} {h':Heap} {e:Addr} {T:Option Addr}
theorem x9 (I1:Inv X pins σ H1 s1) (I:Inv X pins σ H s) (st:X.stack=X.env :: X.outer∧X.env.frame=some X.env.locals) (k:Kp (kL X.stack) e T s.heap h') (ne:s1.heap.get? e=none) (nT:∀ a,T=some a→s1.heap.get? a=none)
  (he:H e=none) (hT:∀ a,T=some a→H a=none):Inv X pins σ H { s with heap:=h' }:=by
 have Jl:∀ b o,s1.heap.get? b=some o→b≠e∧T≠some b:=fun b o q=>⟨fun z=>by (rw [z,ne] at q; cases q),fun z=>by (rw [nT b z] at q; cases q)⟩
 have RP:∀ b,b∈kL X.stack→b=X.env.locals∨b∈X.fs:=fun b hb=>by
  rw [st.1] at hb
  unfold kL at hb
  rw [nP,st.2] at hb
  exact cL.mp hb
 have UM:∀ b o,X.s₀.heap.get? b=some o→b∉X.ex→(b≠e∧T≠some b)∧b≠X.env.locals:=fun b o q hx=>by
  obtain ⟨o',q'⟩:=I1.base.there b o q hx
  exact ⟨Jl b o' q',gW (nR (d7 q) I.ok.above)⟩
 have YA:∀ b u,H b=some u→b≠e∧T≠some b∧b∉kL X.stack:=fun b u z=>⟨fun y=>by (rw [y,he] at z; cases z),fun y=>by (rw [hT b y] at z; cases z),fun y=>by (rw [I.nW b y] at z; cases z)⟩
 have cellK:∀ x c v,X.env.cells.lookup x=some c→s.heap.IsCell c v→Heap.IsCell h' c v:=fun x c v q ⟨o,ho,hd⟩=>by
  obtain ⟨v1,o1,Mr,_⟩:=I1.cell x c q
  obtain ⟨n1,n2⟩:=Jl c o1 Mr
  obtain ⟨sl,q2⟩:=k.any ho n1 n2
  exact ⟨_,q2,hd⟩
 refine ⟨I.ok,I.os,I.bare,⟨fun b o q n nf hx=>?_,fun b o q n nf hx=>?_,I.base.free,fun b o q hx=>?_,I.base.iJ,I.base.gY,I.base.iK⟩,?_,fun x c q=>?_,I.free,I.eW,fun p hp=>?_,fun b u z=>?_,I.len⟩
 · obtain ⟨⟨n1,n2⟩,n3⟩:=UM b o q hx
   exact k.keep b o (I.base.keep b o q n nf hx) n1 n2 fun z=>(RP b z).elim n3 nf
 · obtain ⟨⟨n1,n2⟩,n3⟩:=UM b o q hx
   obtain ⟨sl,q1⟩:=I.base.slot b o q n nf hx
   obtain ⟨yS,q2⟩:=k.any q1 n1 n2
   exact ⟨yS,q2⟩
 · obtain ⟨⟨n1,n2⟩,n3⟩:=UM b o q hx
   obtain ⟨o1,q1⟩:=I.base.there b o q hx
   obtain ⟨yS,q2⟩:=k.any q1 n1 n2
   exact ⟨_,q2⟩
 · obtain ⟨m,⟨o,es,ep,ho,hd,r⟩,hl⟩:=I.loc
   obtain ⟨m1,⟨o1,_,_,Mr,_⟩,_⟩:=I1.loc
   obtain ⟨n1,n2⟩:=Jl _ o1 Mr
   obtain ⟨sl,q⟩:=k.any ho n1 n2
   refine ⟨m,⟨_,es,ep,q,hd,r⟩,fun i x v e1 e2 e3=>?_⟩
   obtain ⟨u,rv,l⟩:=hl i x v e1 e2 e3
   refine ⟨u,rv,?_⟩
   rcases l with l | ⟨kk,c,q,z⟩
   · exact .inl l
   · exact .inr ⟨kk,c,q,cellK x c _ q z⟩
 · obtain ⟨v,z⟩:=I.cell x c q
   exact ⟨v,cellK x c v q z⟩
 · obtain ⟨q,n,ne',nf,d⟩:=I.pin p hp
   obtain ⟨q1,_,_,_,_⟩:=I1.pin p hp
   obtain ⟨n1,n2⟩:=Jl _ _ q1
   exact ⟨k.keep p.1 p.2 q n1 n2 fun z=>(RP _ z).elim ne' nf,n,ne',nf,d⟩
 · refine (I.bD b u z).nD (fun c v hc q=>?_) (fun _ y=>y) fun _ _ y=>y
   have hh:∃ u,H c=some u:=by
    rcases hc with y | y
    · exact ⟨u,by rw [y]; exact z⟩
    · exact ⟨_,y⟩
   obtain ⟨u',y⟩:=hh
   obtain ⟨n1,n2,n3⟩:=YA c u' y
   exact k.keep c v q n1 n2 n3
theorem Hu {M:Model} {A:Around} {E:Value→Shared→Prop} {n:Str} {i:Nat} {pos:Pos} {Q:Unit→Shared→Prop} (I:Inv X pins σ H s) (hN:X.N.Nodup) (hi:X.N[i]?=some n) (hl:X.env.scope.names.lookup n=some .local)
  (h:∀ s',Inv X pins (σ.set i none) H s'→Q () s'):wpAny M A (do bindName X.env n .none; unbindBehindTheSuite X.env n pos) Q E s:=by
 obtain ⟨m,hn,YB⟩:=id I.loc
 have JO:(X.env.scope.kind == .class || (X.env.scope.kind == .module && X.env.locals != X.env.globals))=false:=by rw [I.ok.kind]; rfl
 have Ri:i < σ.length:=by rw [I.len]; exact (fY.mp hi).1
 obtain ⟨oL,_,_,VQ,_⟩:=id hn
 refine wpAny_nameGoes_keeps hl hn JO fun h' v JP hs=>h _ ⟨I.ok,I.os,I.bare,⟨fun b o q z hb hx=>?_,fun b o q z hb hx=>?_,I.base.free,fun b o q hx=>?_,I.base.iJ,I.base.gY,I.base.iK⟩,⟨_,JP,fun j y v' e1 e2 e3=>?_⟩,fun y c q=>?_,I.free,I.eW,fun p hp=>?_,fun b ob q=>?_,by simpa using I.len⟩
 · exact (hs.2 b (gW (nR (d7 q) I.ok.above))).trans (I.base.keep b o q z hb hx)
 · obtain ⟨sl,q1⟩:=I.base.slot b o q z hb hx
   exact ⟨sl,(hs.2 b (gW (nR (d7 q) I.ok.above))).trans q1⟩
 · obtain ⟨o',q1⟩:=I.base.there b o q hx
   exact ⟨o',(hs.2 b (gW (nR (d7 q) I.ok.above))).trans q1⟩
 · have hj:j≠i:=fun z=>by
    subst z
    rw [yI Ri] at e2
    cases e2
   rw [uI (Ne.symm hj)] at e2
   obtain ⟨u',r',q⟩:=YB j y v' e1 e2 e3
   refine ⟨u',r',?_⟩
   rcases q with ⟨kk,q⟩ | ⟨kk,c,q,z⟩
   · refine .inl ⟨kk,?_⟩
     have:y≠n:=fun z=>hj (oz hN e1 (z▸hi))
     simp [this,q]
   · exact .inr ⟨kk,c,q,z.sameBut hs (I.B5 y c q)⟩
 · obtain ⟨w',z⟩:=I.cell y c q
   exact ⟨w',z.sameBut hs (I.B5 y c q)⟩
 · obtain ⟨q,z,ne,nf,d⟩:=I.pin p hp
   exact ⟨(hs.2 p.1 ne).trans q,z,ne,nf,d⟩
 · refine (I.bD b ob q).nD (fun c w' hc z=>(hs.2 c ?_).trans z) (fun _ z=>z) fun _ _ z=>z
   rintro rfl
   rcases hc with y | y
   · rw [← y,I.free] at q; cases q
   · rw [I.free] at y; cases y
end
section
variable {prog:Program} {w:World} {A:Around} {E:Value→Shared→Prop} {s:Shared} {K:PySem.W.Frag} {C S e:Addr} {tl ts:List Addr} {oe:Obj}
theorem vX {Q:Bool→Shared→Prop} (X:K.In s.heap) (xc:XC K C tl) (xs:XC K S ts) (hS:C=S∨S∈tl) (he:s.heap.get? e=some oe) (hc:oe.cls = .ref C) (h:Q true s):wpAny (model prog w) A (excMatches (.ref e) (.ref S)) Q E s:=by
 obtain ⟨nm,q',N,bs,sn,sub,ab,col,GX,k0,k1,k2,k3,k5,oK⟩:=xc.obj
 obtain ⟨Z6,Z7,NS,Z8,Z9,YC,Z_,YD,YE,k0S,k1S,k2S,k3S,k5S,YF⟩:=xs.obj
 have oC:=X _ _ oK
 have oS:=X _ _ YF
 have f:=tc_notTuple
 have c1:(Value.ref S :: (ts.map Value.ref ++ Fe)).contains (.type "BaseException")=true:=by simp
 have c2:(Value.ref C :: (tl.map Value.ref ++ Fe)).contains (.ref S)=true:=by
  rcases hS with z | z
  · subst z; simp
  · simp [z]
 obtain ⟨hp,g,dr,tk,os⟩:=s
 unfold excMatches
 repeat (first | (with_reducible refine wpAny_loadPart_at he ?_; rw [hc]) | with_reducible refine wpAny_loadPart_at oS ?_ | (with_reducible refine wpAny_isSubtype_exc oS ?_; rw [c1]) | (with_reducible refine wpAny_isSubtype_exc oC ?_; rw [c2]) | wp_step)
 exact h
end
abbrev Nx (X:Cx) (e:Addr):Cx:={ X with A:=X.A.mark (some (.ref e)),calm:=false }
theorem PY {X:Cx} (ok:X.Ok) (e:Addr):(Nx X e).Ok :=
 ⟨ok.mod,ok.kind,ok.glob,ok.blt,ok.above,ok.inj,ok.has,ok.Nl,(fun z=>by cases z),ok.frames,ok.NV,ok.Sm,ok.bs,ok.BO,ok.zZ,ok.B4,ok.kM,ok.Fs⟩
section
variable {X:Cx} {pins:List (Addr×Obj)} {σ:L2.St} {H:Hp} {s:Shared}
theorem DW (I:Inv X pins σ H s) (e:Addr):Inv (Nx X e) pins σ H s:=⟨PY I.ok e,I.os,I.bare,I.base,I.loc,I.cell,I.free,I.eW,I.pin,I.bD,I.len⟩
theorem A3 {H1:Hp} {s1:Shared} {e:Addr} {o:HO} (I1:Inv X pins σ H1 s1) (I:Inv X pins σ H s) (ne:s1.heap.get? e=none) (hx:X.ex=[]) (n3:H e=none) (new:bQ X.prog X.w (upd H e o) s.heap e o):Inv X pins σ (upd H e o) s:=by
 have Jl:∀ b u,s1.heap.get? b=some u→b≠e:=fun b u q z=>by rw [z,ne] at q; cases q
 have f0:X.s₀.heap.get? e=none:=by
  cases q:X.s₀.heap.get? e with
  | none=>rfl
  | some o=>obtain ⟨o',q'⟩:=I1.base.there e o q (by rw [hx]; simp); rw [ne] at q'; cases q'
 refine ⟨I.ok,I.os,I.bare,lr I.base n3 f0,I.loc,I.cell,?_,fun x c q=>?_,fun p hp=>?_,jL I.bD n3 new,I.len⟩
 · obtain ⟨m1,⟨o1,_,_,Mr,_⟩,_⟩:=I1.loc
   rw [aD (Jl _ _ Mr)]; exact I.free
 · obtain ⟨v1,o1,Mr,_⟩:=I1.cell x c q
   rw [aD (Jl _ _ Mr)]; exact I.eW x c q
 · obtain ⟨q1,_,_,_,_⟩:=I1.pin p hp
   obtain ⟨q,z,r⟩:=I.pin p hp
   exact ⟨q,by rw [aD (Jl _ _ q1)]; exact z,r⟩
theorem DY {e:Addr} (ok:X.Ok) (I:Inv (Nx X e) pins σ H s):Inv X pins σ H s:=⟨ok,I.os,I.bare,I.base,I.loc,I.cell,I.free,I.eW,I.pin,I.bD,I.len⟩
end
section
variable {X:Cx} {S f:Addr} {ts:List Addr} {fd:FuncData} {ps:List Str} {k ix iz jn:Nat} {x z n cl fx:Str} {sp:Sp} {a:Expr} {p0 p1 p2 p3 p4 p5 p6 p7 p8 pos:Pos} {ta:TA}
def UN (K:PySem.W.Frag) (S:Addr) (ix iz jn:Nat) (sp:Sp) (ta:TA):TS:=fun D σ H=>ta σ H fun vs H1=>sp vs H1 (fun v H2=>D.nx (σ.set ix (some v)) H2) fun c dd H2=>∃ C tl,c = .ref C∧XC K C tl∧(C=S∨S∈tl) ∧
 ∀ e,H1 e=none→H2 e=none→D.nx (((σ.set jn (some (.ref e))).set iz (some (.ref e))).set jn none) (upd H2 e (.ext (Mq C e dd)))
theorem Hv (st:X.stack=X.env :: X.outer∧X.env.frame=some X.env.locals) (F:cS X.prog X.w X.K X.mg X.base (zE X.prog X.w) k f fd ps sp) (hr:bx k X.A) (hg:Gl X fx) (hm:X.mg fx=some (.ref f)) (hk:PySem.W.keepIn X.K (.ref f)=true) (hb:Binds X.K fd ps [])
  (ha:∀ E1,PA (X.iS E1) [a] ta) (hN:X.N.Nodup) (UO:X.N[ix]?=some x) (UP:X.N[iz]?=some z) (Ms:X.N[jn]?=some n) (lx:Loc X.env.scope x) (lz:Loc X.env.scope z) (ln:X.env.scope.names.lookup n=some .local)
  (UQ:Gl X cl) (UR:X.mg cl=some (.ref S)) (xs:XC X.K S ts) (jT:∀ y,X.fn y=true) (hex:X.ex=[]) (d1:gh fx:=by decide) (d2:gh cl:=by decide) (d3:gh n:=by decide) (d4:uH n:=by decide)
  (he:starEach [a] X.env=(false,eval a X.env) :: starEach [] X.env:=by rfl) (fg:(backTo p2 (starEach [] X.env)).any (·.1)=false:=by rfl)
  (Mt:swapsWith (.Call (.Name fx p1) [a] [] p2) (some (.Name x p0)) p3.line X.env=pure false:=by rfl) (uE:swapsWith (.Name n p5) (some (.Name z p6)) p7.line X.env=pure false:=by rfl) :
  PS X (.Try [.Assign [.Name x p0] (.Call (.Name fx p1) [a] [] p2) p3] [.ExceptHandler (some (.Name cl p4)) (some n) [.Assign [.Name z p6] (.Name n p5) p7] p8] [] [] pos) (UN X.K S ix iz jn sp ta):=by
 intro pins s σ H D I h
 refine wpAny_Try_except ?_
 generalize YG:(fun (e:Value) (s₁:Shared)=>wpAny (model X.prog X.w) X.A (noteFrame e X.env) (fun _ s₂=>wpAny (model X.prog X.w) X.A (setFlight e none) (fun _ s₃=>wpAny (model X.prog X.w) X.A (handleBy e X.env [.ExceptHandler (some (.Name cl p4)) (some n) [.Assign [.Name z p6] (.Name n p5) p7] p8]) (SP X pins D) X.xe s₃) X.xe s₂) X.xe s₁)=E1
 refine wpAny_execs_cons ?_
 refine wpAny_Assign_Name ?_ Mt
 refine wpAny_Call_Name_kw (gZ I hg hm ?_ d1)
 refine NO (h₀:=X.base) I.ok.mod.JN hk (wpAny_mono (ha E1 p2 pins s σ H _ (I.iS E1) h) (fun us s1 ⟨vs,H1,J1,r,q⟩=>⟨J1.jZ,?_⟩) fun _ _ y=>y) he fg
 have I1:Inv X pins σ H1 s1:=J1.gi
 have hl:us.length=ps.length:=by rw [← r.length]; exact F.len _ _ _ _ q
 have LG:BindsTo s1 fd ⟨us,[]⟩ (ps.zip us):=by have:=hb s1 us I1.jZ (by rw [EY]; exact hl); rw [EY] at this; exact this
 refine wpAny_call (codeAny_mono (F.run X.A X.stack s1 H1 ⟨us,[]⟩ us vs _ _ hr I1.Kw LG r q) fun rr s' hq=>?_)
 cases rr with
 | ok fl =>
   cases fl with
   | ret u =>
     obtain ⟨v,H2,I2,rv,q2⟩:=I1.after hq
     exact iR I2 hN UO lx rv (fun s3 I3=>wpAny_execs_nil (wpAny_execs_nil ⟨_,H2,I3,q2⟩)) (.inl (jT _))
   | _=>exact False.elim hq
 | error ev =>
   obtain ⟨e,C,dd,T,H2,rfl,os,bare,un,bD,fl,n1,n2,n3,n4,C',tl,eC,xc,hS,q3⟩:=hq
   cases eC
   have I2:Inv X pins σ H2 s':=I1.B7 os un bD bare fun b y=>nomatch y
   have n0:H1 e=none:=by
    cases y:H1 e with
    | none=>rfl
    | some o=>obtain ⟨u,y2⟩:=jq (I1.bD e o y); rw [n1] at y2; cases y2
   have Fd:X.A.frames=some (X.env :: X.outer):=by rw [← st.1]; exact I.ok.frames
   have sf:s'.heap.FunFrames X.base (X.env :: X.outer):=by have:=I2.stack; rw [st.1] at this; exact this
   show E1 (.ref e) s'
   rw [← YG]
   refine zB Fd sf st.2 fl fun h2 T2 f2 t2 k2=>?_
   have I3:Inv X pins σ H2 { s' with heap:=h2 }:=x9 I1 I2 st (by rw [st.1]; exact k2) n1 (fun a y=>by cases y; exact n2) n3 (fun a y=>by cases y; exact n4)
   have t3:s1.heap.get? T2=none:=by
    cases y:s1.heap.get? T2 with
    | none=>rfl
    | some o =>
      by_cases y3:∃ u,H1 T2=some u
      · obtain ⟨o',y4⟩:=un.there T2 o y (by simp)
        rw [t2] at y4; cases y4
      · obtain ⟨o',y4⟩:=un.there T2 o y (by simp)
        rw [t2] at y4; cases y4
   have t4:H2 T2=none:=by
    cases y:H2 T2 with
    | none=>rfl
    | some o=>obtain ⟨u,y2⟩:=jq (bD T2 o y); rw [t2] at y2; cases y2
   refine ub (s:={ s' with heap:=h2 }) f2 fun h3 f3 k3=>?_
   have up:∀ {a b:Heap} {T:Addr},Kp [] e (some T) a b→Kp (kL X.stack) e (some T) a b:=fun {a b T} kk=>⟨fun b o q n1 n2 _=>kk.keep b o q n1 n2 (by simp),fun b o q _ n2 n3=>⟨o.slots,kk.keep b o q n2 n3 (by simp)⟩⟩
   have I4:Inv X pins σ H2 { s' with heap:=h3 }:=x9 (s:={ s' with heap:=h2 }) I1 I3 st (up k3) n1 (fun a y=>by cases y; exact t3) n3 (fun a y=>by cases y; exact t4)
   obtain ⟨oe,vs3,RO,YH,oe3,oe4,_⟩:=id f3
   refine wpAny_handleBy_cons (codeAny_handlers_test ?_) (by intro y; cases y)
   refine gZ (X:=Nx X e) (s:={ s' with heap:=h3 }) (DW I4 e) UQ UR ?_ d2
   refine vX (s:={ s' with heap:=h3 }) I4.jZ xc xs hS RO YH ?_
   refine codeAny_handlers_suite_as ?_
   refine ub (s:={ s' with heap:=h3 }) f3 fun h4 f4 k4=>?_
   have I5:Inv X pins σ H2 { s' with heap:=h4 }:=x9 (s:={ s' with heap:=h3 }) I1 I4 st (up k4) n1 (fun a y=>by cases y; exact t3) n3 (fun a y=>by cases y; exact t4)
   obtain ⟨of,YI,WI,of2,YJ,YK,_⟩:=id f4
   have I6:Inv X pins σ (upd H2 e (.ext (Mq C e dd))) { s' with heap:=h4 }:=A3 (s:={ s' with heap:=h4 }) I1 I5 n1 hex n3 ⟨⟨of,YI,WI,of2,YJ,YK⟩,⟨_,WI⟩,fun g1 g2 ⟨o,v,y1,y2⟩ kk=>⟨o,v,kk _ y1,y2⟩⟩
   refine iR I6 hN Ms (.inl ln) (v:=.ref e) rfl (fun s5 I7=>?_) (.inl (jT _))
   have jl:jn < (σ.set jn (some (V.ref e))).length:=by rw [JF,I.len]; exact (fY.mp Ms).1
   have ev:(σ.set jn (some (V.ref e)))[jn]?=some (some (.ref e)):=by rw [yI (by rw [JF] at jl; exact jl)]
   have pw:=wM (X:=(Nx X e).nY) (pos:=p7) (pos':=p6) (e:=.Name n p5) hN UP lz (di (X:=(Nx X e).nY) (i:=jn) Ms (.inl ln) d3 d4) uE (.inl (jT _))
   refine wpAny_execs_cons (wpAny_mono (pw pins s5 _ _ { nx:=fun σ' H'=>σ'=(σ.set jn (some (.ref e))).set iz (some (.ref e))∧H'=upd H2 e (.ext (Mq C e dd)),rt:=fun _ _=>False } ((DW I7 e).iS _) ⟨_,ev,rfl,rfl⟩) (fun fl s6 y=>?_) fun ev s6 y=>?_)
   · cases fl with
     | next =>
       obtain ⟨σ7,H7,I8,rfl,rfl⟩:=y
       refine wpAny_execs_nil ?_
       show wpAny _ _ _ _ _ _
       refine Hu (DY I.ok I8.gi) hN Ms ln fun s8 I9=>⟨_,_,I9,q3 e n0 n3⟩
     | ret u=>obtain ⟨_,_,_,_,_,y⟩:=y; exact y.elim
     | _=>obtain ⟨_,_,_,y⟩:=y; exact y.elim
   · exact False.elim y
end
end EX
namespace VT
open PySem PySem.Spec PyProof.Rows L2
def PZ (f:Str):List Str→List Str
 | []=>[f]
 | n :: ns=>if n=f then n :: ns else n :: PZ f ns
def P4 {α:Type} (f:Str) (u:α):List Str→List α→List α
 | n :: ns,t :: ts=>if n=f then u :: ts else t :: P4 f u ns ts
 | _,_=>[u]
section
variable {K:PySem.W.Frag} {H:Hp} {A:List Addr} {f:Str}
end
section
variable {X:Cx} {Z:Zc} {e:Expr} {es:List Expr} {C:Addr} {f:Str} {pos:Pos}
def L8 (n:Nat) (C:Addr) (f:Str) (fe:FE):FS:=fun d ρ=>match ρ[n]? with
 | some (some (.ins C' ns ts,true))=>C'=C∧fe ρ fun v=>ts.length < 1000∧d.nx (ρ.set n (some (.ins C' (PZ f ns) (P4 f v ns ts),true)))
 | _=>False
def RS (K:PySem.W.Frag) (C:Addr) (n:Nat) (G:List T→(T→Prop)→Prop):Sp:=qL K (true :: List.replicate n false) fun ts q=>match ts with
 | .ins C' [] [] :: us=>C'=C∧G us fun u=>q [u] (.vw .br)
 | _=>False
end
structure Dc (K:PySem.W.Frag) (mg:Str→Option Value) (cls qual:Str) (st:Stmt) (ps:List Str) (C f:Addr) (fd:FuncData):Prop where
 F:BU K "__init__" qual st f fd
 m:mg cls=some (.ref C)
 b:Binds K fd ps []
 M:Mk K C f
def US (P:Program) (w:World) (K:PySem.W.Frag) (mg:Str→Option Value) (base:Heap) (cls:Str) (C:Addr) (ps:List Str) (k n:Nat) (G:List T→(T→Prop)→Prop):Prop :=
 ∃ f fd,Mk K C f∧mg cls=some (.ref C)∧Binds K fd ps []∧cS P w K mg base iW k f fd ps (RS K C n G)
section
variable {P:Program} {w:World} {K:PySem.W.Frag} {mg:Str→Option Value} {base:Heap}
theorem Dc.ko {cls qual:Str} {st:Stmt} {ps:List Str} {C f:Addr} {fd:FuncData} {k n:Nat} {G:List T→(T→Prop)→Prop} (D:Dc K mg cls qual st ps C f fd) (F:cS P w K mg base iW k f fd ps (RS K C n G)):US P w K mg base cls C ps k n G :=
 ⟨f,fd,D.M,D.m,D.b,F⟩
end
section
variable {X:Cx}
end
section
variable {X:Cx} {Z:Zc} {a:Expr} {fa:FE} {p1 apos GN Aq:Pos}
end
structure Hw (K:PySem.W.Frag) (H H':Hp) (Ox:List Addr) (us:List T) (p:Addr) (ls:List Addr):Prop where
 same:aJ H H'
 tup:H' p=some (.tup (ls.map V.ref))
 nd:ls.Nodup
 new:∀ a∈ls,H a=none
 YL:Paired (fun a t=>cy K H' (ls ++ Ox) a t) ls us
structure UT (K:PySem.W.Frag) (Z:Zc) (tm:List (T×V)) (d:IK) (dp:List T→Prop) (D:Ends):Prop where
 fin:Fin K Z tm d D
 dp:∀ us,dp us→∀ p ls H',Hw K Z.H0 H' Z.Ox us p ls→D.rt (.ref p) H'
abbrev P5:=IK→(List T→Prop)→En→Prop
def WJ (X:Cx) (Z:Zc) (tm:List (T×V)) (g:P5):TS:=fun D σ H=>∃ ρ O d dp,aw X.K Z tm O ρ σ H∧g d dp ρ∧UT X.K Z tm d dp D
def Hx (X:Cx) (Z:Zc) (st:List Stmt) (g:P5):Prop:=Bx fun tm=>nE X st (WJ X Z tm g)
instance {X:Cx} {Z:Zc} {st:List Stmt} {g:P5}:CoeFun (Hx X Z st g) fun _=>∀ tm,nE X st (WJ X Z tm g):=⟨fun h=>Bx.h h⟩
section
variable {X:Cx} {Z:Zc} {st:Stmt} {rest:List Stmt} {g:FS} {u:P5} {pos:Pos}
theorem Hx.weak {u':P5} (h:Hx X Z rest u) (hw:∀ d dp ρ,u' d dp ρ→u d dp ρ):Hx X Z rest u':=.mk fun tm=>nE.u3 (h tm) fun D σ H ⟨ρ,O,d,dp,I,q,F⟩=>⟨ρ,O,d,dp,I,hw d dp ρ q,F⟩
end
section
variable {P:Program} {w:World} {K:PySem.W.Frag} {mg:Str→Option Value} {base:Heap}
end
section
variable {X:Cx} {Z:Zc} {k n:Nat} {f:Addr} {fd:FuncData} {ps:List Str} {G:List T→(List T→Prop)→Prop} {x:Str} {p pos:Pos} {e:Expr} {es:List Expr} {g:FA}
def lD (X:Cx) (Z:Zc) (tm:List (T×V)) (f:En→(List T→Prop)→Prop):TE:=fun σ H Q=>∃ ρ O q,aw X.K Z tm O ρ σ H∧f ρ q∧∀ us,q us→∀ p ls H',Hw X.K H H' (av Z O) us p ls→Q (.ref p) H'
def VD (X:Cx) (Z:Zc) (e:Expr) (f:En→(List T→Prop)→Prop):Prop:=Bx fun tm=>PE X e (lD X Z tm f)
instance {X:Cx} {Z:Zc} {e:Expr} {f:En→(List T→Prop)→Prop}:CoeFun (VD X Z e f) fun _=>∀ tm,PE X e (lD X Z tm f):=⟨fun h=>Bx.h h⟩
theorem Hw.at {K:PySem.W.Frag} {tm:List (T×V)} {O:List (Option Addr)} {ρ:En} {σ:St} {H H':Hp} {us:List T} {p:Addr} {ls:List Addr} (I:aw K Z tm O ρ σ H) (D:Hw K H H' (av Z O) us p ls):At K H' (av Z O) (.tup us) (.ref p):=by
 refine bA (d9.of D.tup) (aE.iff.mpr ?_)
 have key:∀ {RU:List Addr} {RJ:List T},(∀ a∈RU,a∈ls)→Paired (fun a t=>cy K H' (ls ++ av Z O) a t) RU RJ→Paired (fun v t=>At K H' (av Z O) t v) (RU.map V.ref) RJ:=by
  intro RU RJ sub h
  induction h with
  | nil=>exact .nil
  | cons r t ih =>
    refine .cons ((r.bt fun b hb=>lL _ hb).at fun z=>?_) (ih fun a ha=>sub a (jX _ ha))
    exact I.K0 _ z (D.new _ (sub _ iO))
 exact key (fun _ h=>h) D.YL
end
section
variable {X:Cx} {Z:Zc}
end
section
variable {X:Cx} {Z:Zc}
end
section
variable {X:Cx} {Z:Zc} {st:Stmt} {bH:List Stmt} {g:FS}
end
section
variable {X:Cx} {Z:Zc} {o e:Expr} {fo fe:FE} {apos bc:Pos}
end
end VT
namespace VT
open PySem PySem.Spec PyProof.Rows L2 PySem.MeetsSeq PySem.SeqAt
section
variable {X:Cx}
end
section
variable {X:Cx} {Z:Zc} {o e:Expr} {fo:FE} {apos bc:Pos}
end
def zF (z:Bool):Value→Bool
 | .bool y=>y == z
 | _=>false
theorem qc:∀ {bs:List Bool} {us:List Value},Vals (bs.map V.bl) us→us=bs.map Value.bool
 | [],_,h=>by cases h; rfl
 | b :: bs,_,h=>by
   cases h with
   | cons r t=>rw [jY,← qc t]; cases r; rfl
theorem uc {K:PySem.W.Frag} {H:Hp} {A:List Addr}:∀ {bs:List Bool} {vs:List V},aE K H A (bs.map .bl) vs→vs=bs.map V.bl
 | [],vs,h=>by simpa only [JH,aE] using h
 | y :: ys,vs,h=>by
   simp only [jY,aE,At] at h
   obtain ⟨v,r,rfl,rfl,h⟩:=h
   rw [uc h]; rfl
section
variable {X:Cx}
theorem A4:BS X "list.count" (fun x xs H Q=>∃ (p:Addr) (ys:List Bool) (z:Bool),x = .ref p∧xs=[.bl z]∧eY X.K H p (ys.map V.bl)∧Q (.int ((ys.countP (· == z):Nat):Int)) H):=by
 intro pins s σ H x xs v us Q I rx rs h
 obtain ⟨p,ys,z,rfl,rfl,hq,q⟩:=h
 cases rx
 obtain ⟨u,rfl,ru⟩:=vals1 rs
 obtain rfl:u=Value.bool z:=ru
 obtain ⟨aK,rv,pl,_⟩:=I.list hq
 obtain ⟨⟨cls,dd,data,sl⟩,ho,hc,n,hd⟩:=pl.isList
 simp only at hc hd
 subst hc hd
 have e:=qc rv
 subst e
 refine call_meets PySem.F.slot_list_count ⟨_,ho,rfl⟩ PySem.F.entry_list_count (PySem.F.args_list_count_2 _ _) (list_countAt p (ys.map Value.bool).toArray n dd sl (.bool z) (zF z)) ⟨ho,fun y hy=>?_,?_⟩
 · have Oz:y∈ys.map Value.bool:=by simpa using hy
   obtain ⟨b,_,rfl⟩:=wJ.mp Oz
   exact EqAt.bool_bool b z
 · have e:((ys.map Value.bool).toArray.toList.countP (zF z))=ys.countP (· == z):=by rw [show (ys.map Value.bool).toArray.toList=ys.map Value.bool from rfl,List.countP_map]; rfl
   rw [e]
   exact ⟨.int ((ys.countP (· == z):Nat):Int),H,I.tok _,⟨_,rfl⟩,q⟩
theorem A5:BS X "list.index" (fun x xs H Q=>∃ (p:Addr) (ys:List Bool) (z:Bool) (j:Nat),x = .ref p∧xs=[.bl z]∧eY X.K H p (ys.map V.bl)∧ys[j]?=some z∧(∀ i,i < j→ys[i]?≠some z)∧ys.length≤1000∧Q (.int (j:Int)) H):=by
 intro pins s σ H x xs v us Q I rx rs h
 obtain ⟨p,ys,z,j,rfl,rfl,hq,hj,KC,hl,q⟩:=h
 cases rx
 obtain ⟨u,rfl,ru⟩:=vals1 rs
 obtain rfl:u=Value.bool z:=ru
 obtain ⟨aK,rv,pl,_⟩:=I.list hq
 obtain ⟨⟨cls,dd,data,sl⟩,ho,hc,n,hd⟩:=pl.isList
 simp only at hc hd
 subst hc hd
 have e:=qc rv
 subst e
 have RW:j < ys.length:=(fY.mp hj).1
 have key:∀ (i:Nat) (hi:i < (ys.map Value.bool).toArray.size),zF z (ys.map Value.bool).toArray[i]=decide (ys[i]?=some z):=by
  intro i hi
  have Cw:i < ys.length:=by simpa using hi
  have e3:(ys.map Value.bool).toArray[i]=Value.bool ys[i]:=by simp
  rw [e3,lK Cw]
  show (ys[i] == z)=_
  rw [Ni]
  simp
 refine call_meets PySem.F.slot_list_index ⟨_,ho,rfl⟩ PySem.F.entry_list_index (PySem.F.args_list_index_2 _ _)
  (list_indexAt p (ys.map Value.bool).toArray n dd sl (.bool z) (zF z) j (by simpa using RW) (by omega) ?_ ?_) ⟨ho,fun y hy=>?_,⟨.int (j:Int),H,I.tok _,⟨_,rfl⟩,q⟩⟩
 · rw [key]; exact decide_eq_true hj
 · intro m hm gj
   rw [key]; exact decide_eq_false (KC m gj)
 · have Oz:y∈ys.map Value.bool:=by simpa using hy
   obtain ⟨b,_,rfl⟩:=wJ.mp Oz
   exact EqAt.bool_bool b z
end
section
variable {X:Cx} {Z:Zc} {o e:Expr} {fo:FE} {apos bc:Pos}
def Hy (fo:FE) (g:FA):FP:=fun ρ Q=>fo ρ fun x=>match x with
 | .lst ts=>g ρ fun y=>∃ (ys:List Bool) (z:Bool),ts=ys.map .bl∧y=[.bl z]∧Q (.vw (.int ((ys.countP (· == z):Nat):Int)))
 | _=>False
theorem vY {g:FA} (ho:VR X Z o fo) (he:E8 X Z [e] g) (fu:attributeBase o "count" X.env (eval o X.env)=eval o X.env:=by rfl)
  (oF:((backTo bc (starEach [e] X.env)).all (fun x=>!x.1) && (backToKw bc (keywordEach [] X.env)).all (fun x=>x.1.isSome)
    && decide (([e]:List Expr).length+([]:List Keyword).length+(if ([]:List Keyword).isEmpty then 0 else 1) < 30))=true:=by rfl)
  (fz:(apos.endLine == bc.line)=true:=by rfl) (hs:starEach [e] X.env=(false,eval e X.env) :: starEach [] X.env:=by rfl) (fB:(backTo bc (starEach [] X.env)).any (·.1)=false:=by rfl) :
  VP X Z (.Call (.Attribute o "count" apos) [e] [] bc) (Hy fo g):=.mk fun tm =>
 PE.weak (uP Q5 PySem.F.slot_list_count PySem.F.type_list_count A4 (ho tm) (he tm) fu oF fz hs fB) fun σ H Q ⟨ρ,O,q,I,hf,k⟩ =>
  ⟨ρ,O,_,I,hf,fun x hx v H1 s1 a1=>by
    split at hx
    · rename_i ts
      obtain ⟨p,vs,rfl,h1,h2⟩:=a1.lst
      refine ⟨.inl ⟨rfl,vs,h1⟩,ρ,O,_,I.same s1,hx,fun y hy w H2 s2 a2=>?_⟩
      obtain ⟨ys,z,rfl,rfl,hq⟩:=hy
      obtain ⟨u,rfl,a3⟩:=bY a2
      have ev:=uc h2
      subst ev
      have eu:=a3.bl
      subst eu
      exact ⟨p,ys,z,rfl,rfl,h1.imp (fun z=>Rd.same s2 z) id,k _ hq _ H2 (s1.trans s2) ⟨(I.same s1).same s2,bq⟩⟩
    · exact hx.elim⟩
def Hz (fo:FE) (g:FA):FP:=fun ρ Q=>fo ρ fun x=>match x with
 | .lst ts=>g ρ fun y=>∃ (ys:List Bool) (z:Bool) (j:Nat),ts=ys.map .bl∧y=[.bl z]∧ys[j]?=some z∧(∀ i,i < j→ys[i]?≠some z)∧ys.length≤1000∧Q (.vw (.int (j:Int)))
 | _=>False
theorem vZ {g:FA} (ho:VR X Z o fo) (he:E8 X Z [e] g) (fu:attributeBase o "index" X.env (eval o X.env)=eval o X.env:=by rfl)
  (oF:((backTo bc (starEach [e] X.env)).all (fun x=>!x.1) && (backToKw bc (keywordEach [] X.env)).all (fun x=>x.1.isSome)
    && decide (([e]:List Expr).length+([]:List Keyword).length+(if ([]:List Keyword).isEmpty then 0 else 1) < 30))=true:=by rfl)
  (fz:(apos.endLine == bc.line)=true:=by rfl) (hs:starEach [e] X.env=(false,eval e X.env) :: starEach [] X.env:=by rfl) (fB:(backTo bc (starEach [] X.env)).any (·.1)=false:=by rfl) :
  VP X Z (.Call (.Attribute o "index" apos) [e] [] bc) (Hz fo g):=.mk fun tm =>
 PE.weak (uP Q5 PySem.F.slot_list_index PySem.F.type_list_index A5 (ho tm) (he tm) fu oF fz hs fB) fun σ H Q ⟨ρ,O,q,I,hf,k⟩ =>
  ⟨ρ,O,_,I,hf,fun x hx v H1 s1 a1=>by
    split at hx
    · rename_i ts
      obtain ⟨p,vs,rfl,h1,h2⟩:=a1.lst
      refine ⟨.inl ⟨rfl,vs,h1⟩,ρ,O,_,I.same s1,hx,fun y hy w H2 s2 a2=>?_⟩
      obtain ⟨ys,z,j,rfl,rfl,hj,KC,hl,hq⟩:=hy
      obtain ⟨u,rfl,a3⟩:=bY a2
      have ev:=uc h2
      subst ev
      have eu:=a3.bl
      subst eu
      exact ⟨p,ys,z,j,rfl,rfl,h1.imp (fun z=>Rd.same s2 z) id,hj,KC,hl,k _ hq _ H2 (s1.trans s2) ⟨(I.same s1).same s2,bq⟩⟩
    · exact hx.elim⟩
end
end VT
namespace EX
open PySem PySem.Spec PySem.Calls PyProof.Rows L2 VT
open PySem.W (kitOne InstAt)
structure YM (K:PySem.W.Frag) (C:Addr):Prop where
 xc:∃ tl,XC K C tl
 xf:XF K C
structure Ex (K:PySem.W.Frag) (H:Hp) (e C:Addr) (dd:Option Addr) (p:Option Int):Prop where
 ex:H e=some (.ext (Mq C e dd))
 pl:Hs H dd p
 kl:YM K C
theorem Ex.same {K:PySem.W.Frag} {H H':Hp} {e C:Addr} {dd:Option Addr} {p:Option Int} (x:Ex K H e C dd p) (s:aJ H H'):Ex K H' e C dd p :=
 ⟨s _ _ x.ex,by cases p with | none=>exact x.pl | some i=>obtain ⟨d,h1,h2⟩:=x.pl; exact ⟨d,h1,s _ _ h2⟩,x.kl⟩
section
variable {X:Cx} {Z:Zc} {e C:Addr} {dd:Option Addr} {pp:Option Int}
theorem HA {pins:List (Addr×Obj)} {σ:L2.St} {H:Hp} {s:Shared} (I:Inv X pins σ H s) (x:Ex X.K H e C dd pp):∃ oe od,InstAt s.heap e oe C od:=by
 obtain ⟨⟨oe,vs,h1,h2,h3,h4⟩,_,_⟩:=I.bD e _ x.ex
 have nc:PySem.W.notCls oe=true:=by unfold PySem.W.notCls; rw [h4]
 cases pp with
 | none =>
   have pl:dd=none:=x.pl
   exact ⟨oe,none,h1,h2,nc,by rw [h3,pl]; trivial⟩
 | some i =>
   obtain ⟨d,rfl,hd⟩:=x.pl
   obtain ⟨mA,⟨o,_,_,ho,_⟩,_⟩:=I.bD d _ hd
   exact ⟨oe,some o,h1,h2,nc,by rw [h3]; exact ho⟩
def UU (K:PySem.W.Frag) (cv:V) (c:Value) (e C:Addr) (dd:Option Addr) (pp:Option Int) (b:Bool):List V→Hp→VK→Prop:=fun xs H Q=>xs=[.ref e,cv]∧Ex K H e C dd pp∧kitOne K (.ref C) c=some b∧Q (.bl b) H
theorem DZ {cv:V} {c:Value} {b:Bool} (rc:∀ u,RelV cv u→u=c):cw X (.builtin "isinstance") (UU X.K cv c e C dd pp b):=by
 rintro pins s σ H xs us Q I r ⟨rfl,x,hk,q⟩
 obtain ⟨u,w',rfl,rx,ry⟩:=vals2 r
 obtain rfl:u=Value.ref e:=rx
 obtain rfl:=rc _ ry
 obtain ⟨oe,od,J⟩:=HA I x
 obtain ⟨tl,xc⟩:=x.kl.xc
 exact Hm I.jZ xc x.kl.xf J hk fun tk=>⟨.bl b,H,I.tok _,rfl,q⟩
def UW (i:Nat) (e:Addr) (b:Bool):FP:=fun ρ Q=>ρ[i]?=some (some (.ob e,false))∧Q (.vw (.bl b))
theorem gw (i:Nat) {x:Str} {ce:Expr} {cv:V} {c:Value} {b:Bool} {p1 p2 pos:Pos} (xz:Ex X.K Z.H0 e C dd pp) (hP:Z.P=[]) (rc:∀ u,RelV cv u→u=c) (hk:kitOne X.K (.ref C) c=some b) (hg:Gl X "isinstance") (hm:X.mg "isinstance" = none) (hc:PE X ce (tC cv))
  (hN:X.N[i]?=some x:=by rfl) (hv:sI X.env.scope x:=by first | exact Or.inl rfl | exact Or.inr (Or.inl rfl) | exact Or.inr (Or.inr rfl)) (hd:gh x:=by decide) (iL:uH x:=by decide)
  (Mt:starEach [.Name x p1,ce] X.env=(false,eval (.Name x p1) X.env) :: starEach [ce] X.env:=by rfl) (uE:starEach [ce] X.env=(false,eval ce X.env) :: starEach [] X.env:=by rfl) (fg:(backTo pos (starEach [ce] X.env)).any (·.1)=false:=by rfl) :
  VP X Z (.Call (.Name "isinstance" p2) [.Name x p1,ce] [] pos) (UW i e b):=.mk fun tm =>
 PE.weak (kS (DZ (e:=e) (C:=C) (dd:=dd) (pp:=pp) rc) hg hm kZ (bh (di hN hv hd iL) (bh hc cx uE) Mt) (by decide) (by decide) Mt fg) fun σ H Q ⟨ρ,O,q,I,hf,k⟩=>by
  obtain ⟨h1,h2⟩:=hf
  obtain ⟨o,s,h3,h4,rfl,v,rfl,h5⟩:=I.sl i _ h1
  simp only [At] at h5
  subst h5
  exact ⟨_,h4,rfl,xz.same (qa hP I),hk,k _ h2 _ H (aJ.refl H) ⟨I,du⟩⟩
def YN (i:Nat) (e:Addr) (n:Int):FP:=fun ρ Q=>ρ[i]?=some (some (.ob e,false))∧Q (.vw (.int n))
theorem D_ (i:Nat) {x:Str} {n:Int} {p1 pos:Pos} (xz:Ex X.K Z.H0 e C dd (some n)) (hP:Z.P=[]) (hN:X.N[i]?=some x:=by rfl) (hv:sI X.env.scope x:=by first | exact Or.inl rfl | exact Or.inr (Or.inl rfl) | exact Or.inr (Or.inr rfl)) (hd:gh x:=by decide) (iL:uH x:=by decide)
  (hb:attributeBase (.Name x p1) "place" X.env (eval (.Name x p1) X.env)=eval (.Name x p1) X.env:=by rfl):VP X Z (.Attribute (.Name x p1) "place" pos) (YN i e n):=.mk fun tm pins s σ H Q J ⟨ρ,O,q,I,hf,k⟩=>by
 obtain ⟨h1,h2⟩:=hf
 obtain ⟨o,s',h3,h4,rfl,v,rfl,h5⟩:=I.sl i _ h1
 simp only [At] at h5
 subst h5
 have xh:=xz.same (qa hP I)
 have pv:=di (pos:=p1) hN hv hd iL pins s σ H (fun v H1=>v = .ref e∧H1=H) J ⟨_,h4,rfl,rfl⟩
 refine FK hb (bV pv fun u s1 ⟨v,H1,J1,rv,e1,e2⟩=>?_)
 subst e1 e2
 obtain rfl:u=Value.ref e:=rv
 obtain ⟨d,rfl,hd⟩:=xh.pl
 obtain ⟨⟨oe,vs,g1,g2,g3,g4⟩,_,_⟩:=J1.bD e _ xh.ex
 obtain ⟨mA,ns,rel⟩:=J1.bD d _ hd
 obtain ⟨tl,xc⟩:=xh.kl.xc
 obtain ⟨cd,c1,c2,_⟩:=xc.cls
 have rp:kd (some (V.int n)) (mA "place"):=rel "place"
 cases hm:mA "place" with
 | none=>rw [hm] at rp; exact rp.elim
 | some u =>
   rw [hm] at rp
   obtain ⟨t,rfl⟩:=(show ∃ t,u=Value.int n t from rp)
   exact A0 J1.jZ xh.kl.xf (by rw [c1]; exact c2) g1 g2 (by unfold PySem.W.notCls; rw [g4]) g3 ns hm rfl ⟨.int n,H1,J1.tok _,⟨t,rfl⟩,k _ h2 _ H1 (aJ.refl H1) ⟨I,bq⟩⟩
end
def RX (K:PySem.W.Frag) (G:Addr→Option Int→(T→Prop)→Prop):Sp:=fun vs H Q _=>∃ e C dd p q,vs=[.ref e]∧Ex K H e C dd p∧G C p q∧∀ t,q t→∀ v H',aJ H H'→At K H' [] t v→Q v H'
section
variable {P:Program} {w:World} {K:PySem.W.Frag} {mg:Str→Option Value} {base:Heap}
theorem YO {x qual:Str} {st:Stmt} {f:Addr} {fd:FuncData} {N ps:List Str} {k:Nat} {G:Addr→Option Int→(T→Prop)→Prop} (F:BU K x qual st f fd) (S:aG N ps (aj st)) (hn:1=ps.length)
  (iU:∀ (bE:Value) (A:Around) (outer:List Env) (s:Shared) (H:Hp) (E:XK),bx k (A.deeper (envOfC qual (aj st) s.heap.objs.size f bE))→∀ e C dd p q,Ex K H e C dd p→G C p q →
    ∃ g,jE (d0 iW P w K mg base N qual (aj st) f bE A outer s H E).nY ⟨H,[],[]⟩ (cp st) g∧g { nx:=fun _=>q .br,rt:=fun _ r=>∃ t,r = .vw t∧q t } (some (.ob e,false) :: List.replicate (N.length - 1) none)) :
  cS P w K mg base iW (k+1) f fd ps (RX K G):=by
 refine F.ok S (fun vs H Q E h=>?_) (fun bE A outer s H vs Q E hr h=>?_)
 · obtain ⟨e,C,dd,p,q,rfl,_⟩:=h
   exact hn
 · obtain ⟨e,C,dd,p,q,rfl,xh,hG,kk⟩:=h
   obtain ⟨g,h1,h2⟩:=iU bE A outer s H E hr e C dd p q xh hG
   refine ⟨_,h1 [],?_⟩
   have ar:eA K H [] [false] [] [.ob e] [.ref e]:=⟨.ob e,[],.ref e,[],rfl,rfl,by simp only [At],rfl,rfl,rfl⟩
   exact oR (X:=(d0 iW P w K mg base N qual (aj st) f bE A outer s H E).nY) (N:=N) (fs:=[false]) (as:=[]) (Ox:=[]) (q:=fun _ r=>∃ t,r = .vw t∧q t) JG (fun _ z=>nomatch z) (fun _ z=>nomatch z) ar
    (fun us r ⟨t,er,hq⟩ v H' fr z=>by subst er; exact kk t hq v H' (fun b o y=>fr b o y (by simp)) z.1) (by
      have e1:g { nx:=fun _=>∃ t,Rt.vw T.br = .vw t∧q t,rt:=fun _ r=>∃ t,r = .vw t∧q t } (some (.ob e,false) :: List.replicate (N.length - 1) none):=by
       have:(∃ t,Rt.vw T.br = .vw t∧q t)=q .br:=by
        apply propext
        constructor
        · rintro ⟨t,y,z⟩; cases y; exact z
        · exact fun z=>⟨_,rfl,z⟩
       rw [this]; exact h2
      exact e1)
end
section
variable {X:Cx} {Z:Zc} {e C f:Addr} {dd:Option Addr} {pp:Option Int} {fd:FuncData} {ps:List Str} {k:Nat}
def Mu (i:Nat) (e C:Addr) (pp:Option Int) (G:Addr→Option Int→(T→Prop)→Prop):FP:=fun ρ Q=>ρ[i]?=some (some (.ob e,false))∧G C pp fun t=>l7 t=true∧Q (.vw t)
theorem v3 (i:Nat) {x y:Str} {p1 p2 pos:Pos} {G:Addr→Option Int→(T→Prop)→Prop} (xz:Ex X.K Z.H0 e C dd pp) (hP:Z.P=[]) (F:cS X.prog X.w X.K X.mg X.base iW k f fd ps (RX X.K G)) (hr:bx k X.A) (hg:Gl X y) (hm:X.mg y=some (.ref f)) (hk:PySem.W.keepIn X.K (.ref f)=true) (hb:Binds X.K fd ps [])
  (hN:X.N[i]?=some x:=by rfl) (hv:sI X.env.scope x:=by first | exact Or.inl rfl | exact Or.inr (Or.inl rfl) | exact Or.inr (Or.inr rfl)) (hd:gh x:=by decide) (iL:uH x:=by decide)
  (lZ:gh y:=by decide) (he:starEach [.Name x p1] X.env=(false,eval (.Name x p1) X.env) :: starEach [] X.env:=by rfl) (fg:(backTo pos (starEach [] X.env)).any (·.1)=false:=by rfl) :
  VP X Z (.Call (.Name y p2) [.Name x p1] [] pos) (Mu i e C pp G):=.mk fun tm=>PE.weak (kR F hr hg hm hk hb .nil uR (bh (di hN hv hd iL) cx he) lZ he fg) fun σ H Q ⟨ρ,O,q,I,hf,kk⟩=>by
 obtain ⟨h1,h2⟩:=hf
 obtain ⟨o,s',h3,h4,rfl,v,rfl,h5⟩:=I.sl i _ h1
 simp only [At] at h5
 subst h5
 refine ⟨_,h4,e,C,dd,pp,_,rfl,xz.same (qa hP I),h2,fun t ⟨hi,hq⟩ v H' s a=>?_⟩
 exact kk _ hq v H' s ⟨I.same s,At.l7 hi a⟩
end
theorem HB {K:PySem.W.Frag} {Z:Zc} {tm:List (T×V)} {O:List (Option Addr)} {ρ:En} {σ:L2.St} {H:Hp} (hP:Z.P=[]) (I:aw K Z tm O ρ σ H) (hv:∀ (i:Nat) (t:T),ρ[i]?≠some (some (t,true))):aw K ⟨H,[],Z.Ox⟩ tm O ρ σ H:=by
 have r0:roots O=[]:=by
  cases hr:roots O with
  | nil=>rfl
  | cons a r =>
    have ha:a∈roots O:=by rw [hr]; exact iO
    obtain ⟨i,hi⟩:=NH.mp (aN.mp ha)
    have hl:=(fY.mp hi).1
    have Ss:i < ρ.length:=by rw [← I.lO]; exact hl
    obtain ⟨o,s,h1,h2,h3⟩:=I.sl i ρ[i] (by simp)
    rw [hi] at h1
    cases h1
    cases q:ρ[i] with
    | none=>rw [q] at h3; cases h3
    | some tb =>
      obtain ⟨t,b⟩:=tb
      rw [q] at h3
      cases b with
      | false=>cases h3.1
      | true=>exact absurd (by rw [← q]; simp) (hv i t)
 refine ⟨I.lσ,I.lO,I.sl,I.nd,fun a ha=>by (rw [r0] at ha; cases ha),fun p hp=>(nomatch hp),I.ox,fun b o y _=>y,I.n9⟩
theorem ju {K:PySem.W.Frag} {Z:Zc} {H0:Hp} {tm:List (T×V)} {O:List (Option Addr)} {ρ:En} {σ:L2.St} {H:Hp} (hP:Z.P=[]) (s:aJ Z.H0 H0) (I:aw K ⟨H0,[],Z.Ox⟩ tm O ρ σ H):aw K Z tm O ρ σ H:=by
 refine ⟨I.lσ,I.lO,I.sl,I.nd,fun a ha=>?_,fun p hp=>by (rw [hP] at hp; cases hp),I.ox,fun b o y _=>I.keep b o (s _ _ y) (by simp),I.n9⟩
 obtain ⟨h1,h2,h3⟩:=I.own a ha
 refine ⟨.inr ?_,h2,h3⟩
 rcases h1 with z | z
 · exact absurd z (by simp)
 · exact s.free z
theorem D' {K:PySem.W.Frag} {Z:Zc} {H0:Hp} {tm:List (T×V)} {d:IK} {D:Ends} (hP:Z.P=[]) (s:aJ Z.H0 H0) (F:VT.Fin K Z tm d D):VT.Fin K ⟨H0,[],Z.Ox⟩ tm d D:=by
 refine ⟨fun O ρ σ H I h=>F.nx O ρ σ H (ju hP s I) h,fun O ρ σ H r v z h=>F.rt O ρ σ H r v ?_ h,fun O ρ σ H I h=>F.bk O ρ σ H (ju hP s I) h,fun O ρ σ H I h=>F.ct O ρ σ H (ju hP s I) h⟩
 cases r with
 | vw t=>exact ⟨ju hP s z.1,z.2⟩
 | fr t =>
   obtain ⟨a,rfl,I,hR,h0,hx⟩:=z
   exact ⟨a,rfl,ju (Z:=Z.ex a) hP s I,hR,s.free h0,hx⟩
theorem Ea {K:PySem.W.Frag} {Z:Zc} {tm:List (T×V)} {O:List (Option Addr)} {ρ:En} {σ:L2.St} {H:Hp} {i:Nat} {s:Option V} (I:aw K Z tm O ρ σ H) (hi:ρ[i]?=some none):aw K Z tm O ρ (σ.set i s) H:=by
 refine ⟨by rw [JF]; exact I.lσ,I.lO,fun j e h=>?_,I.nd,I.own,I.par,I.ox,I.keep,I.n9⟩
 obtain ⟨o,s',h1,h2,h3⟩:=I.sl j e h
 by_cases z:j=i
 · subst z
   rw [hi] at h
   cases h
   exact ⟨o,s,h1,by rw [yI ((fY.mp h2).1)],h3⟩
 · exact ⟨o,s',h1,by rw [uI (Ne.symm z)]; exact h2,h3⟩
section
variable {X:Cx} {Z:Zc} {S f:Addr} {ts:List Addr} {fd:FuncData} {ps:List Str} {k ix iz jn ia:Nat} {x z n cl fx y:Str} {p0 p1 p2 p3 p4 p5 p6 p7 p8 p9 pos:Pos} {rest:List Stmt} {G:WT→List T→(Rt→Prop)→Prop} {g1:FS} {g2:Addr→Addr→Int→FS} {g3:Addr→Addr→FS}
def noOwn (ρ:En):Prop:=∀ (i:Nat) (t:T),ρ[i]?≠some (some (t,true))
def gX (g2:Addr→Addr→Int→FS) (g3:Addr→Addr→FS) (e C:Addr):Option Int→FS
 | some n=>g2 e C n
 | none=>g3 e C
def UX (K:PySem.W.Frag) (S:Addr) (ia ix iz jn:Nat) (G:WT→List T→(Rt→Prop)→Prop) (g1:FS) (g2:Addr→Addr→Int→FS) (g3:Addr→Addr→FS):FS:=fun d ρ=>noOwn ρ∧∃ t W,ρ[ia]?=some (some (t,false))∧G W [t] (fun r=>g1 d (ρ.set ix (some (r.t,false)))) ∧
 ∀ C p,W C p→(∃ tl,XC K C tl∧(C=S∨S∈tl))∧XF K C∧∀ e,gX g2 g3 e C p d (((ρ.set jn (some (.ob e,false))).set iz (some (.ob e,false))).set jn none)
theorem Eb (hP:Z.P=[]) (st:X.stack=X.env :: X.outer∧X.env.frame=some X.env.locals) (F:cS X.prog X.w X.K X.mg X.base (zE X.prog X.w) k f fd ps (x8 X.K 1 G)) (hr:bx k X.A) (hg:Gl X fx) (hm:X.mg fx=some (.ref f)) (hk:PySem.W.keepIn X.K (.ref f)=true) (hb:Binds X.K fd ps [])
  (UQ:Gl X cl) (UR:X.mg cl=some (.ref S)) (xs:XC X.K S ts) (jT:∀ y,X.fn y=true) (hex:X.ex=[])
  (hn:jE X Z rest g1) (hx:∀ e C dd n H0,Ex X.K H0 e C dd (some n)→jE X ⟨H0,[],Z.Ox⟩ rest (g2 e C n)) (YQ:∀ e C dd H0,Ex X.K H0 e C dd none→jE X ⟨H0,[],Z.Ox⟩ rest (g3 e C))
  (hN:X.N.Nodup) (YR:X.N[ia]?=some y:=by rfl) (UO:X.N[ix]?=some x:=by rfl) (UP:X.N[iz]?=some z:=by rfl) (Ms:X.N[jn]?=some n:=by rfl) (vy:sI X.env.scope y:=by first | exact Or.inl rfl | exact Or.inr (Or.inl rfl)) (lx:Loc X.env.scope x:=by exact Or.inl rfl) (lz:Loc X.env.scope z:=by exact Or.inl rfl) (ln:X.env.scope.names.lookup n=some .local:=by rfl)
  (d1:gh fx:=by decide) (d2:gh cl:=by decide) (d3:gh n:=by decide) (d4:uH n:=by decide) (d5:gh y:=by decide) (d6:uH y:=by decide)
  (he:starEach [.Name y p9] X.env=(false,eval (.Name y p9) X.env) :: starEach [] X.env:=by rfl) (fg:(backTo p2 (starEach [] X.env)).any (·.1)=false:=by rfl)
  (Mt:swapsWith (.Call (.Name fx p1) [.Name y p9] [] p2) (some (.Name x p0)) p3.line X.env=pure false:=by rfl) (uE:swapsWith (.Name n p5) (some (.Name z p6)) p7.line X.env=pure false:=by rfl) :
  jE X Z (.Try [.Assign [.Name x p0] (.Call (.Name fx p1) [.Name y p9] [] p2) p3] [.ExceptHandler (some (.Name cl p4)) (some n) [.Assign [.Name z p6] (.Name n p5) p7] p8] [] [] pos :: rest) (UX X.K S ia ix iz jn G g1 g2 g3):=by
 refine .mk fun tm pins s σ H D J ⟨ρ,O,d,I,⟨no,t,W,ht,hG,hW⟩,Fn⟩=>?_
 have pt:=Hv (X:=X) (ix:=ix) (iz:=iz) (jn:=jn) (p0:=p0) (p1:=p1) (p2:=p2) (p3:=p3) (p4:=p4) (p5:=p5) (p6:=p6) (p7:=p7) (p8:=p8) (pos:=pos) (a:=.Name y p9) (ta:=Cg (JQ ia) Kt) st F hr hg hm hk hb (fun E1=>bh (X:=X.iS E1) (di (X:=X.iS E1) YR vy d5 d6) cx he) hN UO UP Ms lx lz ln UQ UR xs jT hex d1 d2 d3 d4 he fg Mt uE
 have R1:∀ pins s σ' H',Inv X pins σ' H' s→((lS X Z tm g1 D σ' H')∨∃ e C dd p H0,Ex X.K H0 e C dd p∧lS X ⟨H0,[],Z.Ox⟩ tm (gX g2 g3 e C p) D σ' H')→wpAny (model X.prog X.w) X.A (execs rest X.env) (SP X pins D) X.xe s:=fun pins s σ' H' J' h=>by
  rcases h with h | ⟨e,C,dd,p,H0,xh,h⟩
  · exact hn tm pins s σ' H' D J' h
  · cases p with
    | some n=>exact hx e C dd n H0 xh tm pins s σ' H' D J' h
    | none=>exact YQ e C dd H0 xh tm pins s σ' H' D J' h
 refine wpAny_execs_cons (bV (pt pins s σ H { D with nx:=fun σ' H'=>(lS X Z tm g1 D σ' H')∨∃ e C dd p H0,Ex X.K H0 e C dd p∧lS X ⟨H0,[],Z.Ox⟩ tm (gX g2 g3 e C p) D σ' H' } J ?_) fun fl s1 q=>?_)
 · obtain ⟨o,s',h3,h4,rfl,v,rfl,h5⟩:=I.sl ia _ ht
   refine ⟨v,h4,W,⟨[t],[],av Z O,fun _ r=>g1 d (ρ.set ix (some (r.t,false))),JG,fun _ z=>absurd z dZ,I.K0,eB rfl (aE.cons h5 aE.nil),hG,fun us r hr v' H' fr zz=>?_⟩,fun C p dd H' sm pl hw=>?_⟩
   · have sm:aJ H H':=fun b o e=>fr b o e dZ
     refine .inl ⟨_,_,d,(I.same sm).put (fun p hp=>by rw [hP] at hp; cases hp) ?_,hr,Fn⟩
     cases r with
     | vw t'=>exact zz.1
     | fr t' =>
       obtain ⟨b,rfl,UD,_,hR,_⟩:=zz
       obtain ⟨n1,n2,n3⟩:=I.fresh UD
       refine (hR.bt fun c hc=>jX _ hc).at fun z=>?_
       rcases iI.mp z with y | y
       · exact absurd y dZ
       · exact n1 y
   · obtain ⟨⟨tl,xc,hS⟩,xf,YS⟩:=hW C p hw
     refine ⟨C,tl,rfl,xc,hS,fun e n1 n2=>.inr ⟨e,C,dd,p,upd H' e (.ext (Mq C e dd)),⟨aQ,?_,⟨tl,xc⟩,xf⟩,?_⟩⟩
     · cases p with
       | none=>exact pl
       | some i =>
         obtain ⟨dx,e1,e2⟩:=pl
         exact ⟨dx,e1,by rw [aD (aU e2 n2)]; exact e2⟩
     · have s2:aJ H (upd H' e (.ext (Mq C e dd))):=fun b o y=>by rw [aD (fun z=>by rw [z,n1] at y; cases y)]; exact sm b o y
       have I2:=HB hP (I.same s2) no
       have vm:∀ i,∀ p∈(⟨upd H' e (.ext (Mq C e dd)),[],Z.Ox⟩:Zc).P,p.1≠i:=fun i p hp=>nomatch hp
       have I3:=((I2.put (i:=jn) (t:=.ob e) (v:=.ref e) (vm _) (by simp only [At])).put (i:=iz) (t:=.ob e) (v:=.ref e) (vm _) (by simp only [At]))
       have I4:=Ea (s:=(none:Option V)) (I3.forget (vm jn)) (by rw [yI (by rw [JF,JF,← I.lσ,J.len]; exact (fY.mp Ms).1)])
       exact ⟨_,_,d,I4,YS e,D' hP ((qa hP I).trans s2) Fn⟩
 · cases fl with
   | next=>obtain ⟨σ',H',J',q⟩:=q; exact R1 pins s1 σ' H' J' q
   | ret v=>exact q
   | _=>exact q
end
end EX
namespace EX
open PySem PySem.Spec PySem.Calls PyProof.Rows L2
open PySem.W (findIn typeIn clsIn subIn mroIn specialIn takesIn kitOne)
def xI:Value→Bool
 | .str _ _=>true
 | _=>false
def P6 (K:PySem.W.Frag) (a:Addr):Bool:=match K.lookup a with
 | some ⟨_,_,.cls cd,_⟩=>(match K.lookup cd.ns with
   | some ⟨_,_,.dict es _,_⟩=>es.toList.all (fun e=>xI e.key) && (nsFind es "__init__").isNone
   | _=>false)
 | _=>false
def RY (K:PySem.W.Frag) (C:Addr) (tl:List Addr):Bool:=match K.lookup C with
 | some ⟨c,_,.cls cd,sl⟩=>c == .type "type" && (cd.mro == (Value.ref C :: (tl.map Value.ref ++ Fe)) && (cd.hasDict && (!cd.hasDel && ((match sl.toList with
   | [_,_,_,_,some v,_]=>v == .builtin "ValueError.__new__"
   | _=>false) && tl.all (P6 K)))))
 | _=>false
theorem Jm {K:PySem.W.Frag} {a:Addr} (h:P6 K a=true):∃ c dd cd sl o es ep,K.lookup a=some ⟨c,dd,.cls cd,sl⟩∧K.lookup cd.ns=some o∧o.data = .dict es ep∧StrKeys es∧nsFind es "__init__" = none:=by
 unfold P6 at h
 split at h
 · rename_i c dd cd sl h1
   split at h
   · rename_i c2 d2 es ep yS h2
     rw [iP] at h
     refine ⟨c,dd,cd,sl,_,es,ep,h1,h2,rfl,fun e he=>?_,Option.isNone_iff_eq_none.mp h.2⟩
     have:=zU.mp h.1 e (by simpa using he)
     cases q:e.key with
     | str n t=>exact ⟨n,t,rfl⟩
     | _=>rw [q] at this; cases this
   · cases h
 · cases h
theorem Jn {K:PySem.W.Frag} {C:Addr} {tl:List Addr} (h:RY K C tl=true):XC K C tl:=by
 unfold RY at h
 split at h
 · rename_i c dd cd sl h1
   simp only [iP] at h
   obtain ⟨e1,e2,e3,e4,e5,e6⟩:=h
   refine ⟨?_,fun a ha=>Jm (zU.mp e6 a ha)⟩
   obtain ⟨nm,bs,mro,ns,q,hd,sn,sub,ab,col,P7⟩:=cd
   have e1:=beq_iff_eq.mp e1
   have e2:=beq_iff_eq.mp e2
   simp only at e2 e3 e4
   subst e1 e2 e3
   have e4:P7=false:=by cases P7 <;> simp_all
   subst e4
   obtain ⟨l⟩:=sl
   match l,e5 with
   | [k0,k1,k2,k3,some v,k5],e5 =>
     have e5:=beq_iff_eq.mp e5
     subst e5
     exact ⟨nm,q,ns,bs,sn,sub,ab,col,dd,k0,k1,k2,k3,k5,h1⟩
 · cases h
def UY (K:PySem.W.Frag) (C:Addr):Bool:=findIn K (.ref C) "__getattribute__" == some (some (.builtin "BaseException.__getattribute__")) && (findIn K (.ref C) "__getattr__" == some none && (findIn K (.ref C) "__setattr__" == some (some (.builtin "object.__setattr__")) &&
 (findIn K (.ref C) "place" == some none && (findIn K (.ref C) "__class__" == some (some (.builtin "object.__class__")) && (subIn K (.ref C) (.type "BaseException") == some true && (mroIn K C (.type "object") == some true &&
 (specialIn K (.builtin "object.__class__") "__get__" == some (some (.builtin "getset_descriptor.__get__")) && takesIn K (.builtin "object.__class__") == some true)))))))
theorem P8 {K:PySem.W.Frag} {C:Addr} (h:UY K C=true):XF K C:=by
 unfold UY at h
 simp only [iP,beq_iff_eq] at h
 obtain ⟨h1,h2,h3,h4,h5,h6,h7,h8,h9⟩:=h
 exact ⟨h1,h2,h3,h4,h5,h6,h7,h8,h9⟩
def YT:PySem.W.CFound→Option Value
 | .val v=>some v
 | _=>none
def UZ (K:PySem.W.Frag) (S:Addr):Bool:=specialIn K (.ref S) "__getattribute__" == some (some (.builtin "type.__getattribute__")) && (PySem.W.readsIn K S (.type "type") && ((PySem.W.findCls K (.ref S) (.type "type") "__init__").bind YT == some (.builtin "ValueError.__init__")))
theorem P9 {K:PySem.W.Frag} {S:Addr} (h:UZ K S=true):XS K S:=by
 unfold UZ at h
 simp only [iP,beq_iff_eq] at h
 obtain ⟨h1,h2,h3⟩:=h
 refine ⟨h1,h2,?_⟩
 cases q:PySem.W.findCls K (.ref S) (.type "type") "__init__" with
 | none=>rw [q] at h3; cases h3
 | some r =>
   rw [q] at h3
   cases r with
   | val v=>rw [show v=Value.builtin "ValueError.__init__" from Option.some.inj h3]
   | get a b c d=>cases h3
def WK (K:PySem.W.Frag) (cl:List Addr) (S:Addr):Bool:=cl.all fun C=>RY K C [S] && (UY K C && (kitOne K (.ref C) (.type "ValueError") == some true && cl.all fun D=>kitOne K (.ref C) (.ref D) == some (decide (C=D))))
theorem kb {K:PySem.W.Frag} {cl:List Addr} {S:Addr} (h:WK K cl S=true):(∀ C∈cl,∀ D∈cl,kitOne K (.ref C) (.ref D)=some (decide (C=D)))∧(∀ C∈cl,kitOne K (.ref C) (.type "ValueError")=some true)∧∀ C∈cl,XC K C [S]∧XF K C:=by
 have h:=zU.mp h
 refine ⟨fun C hC D hD=>?_,fun C hC=>?_,fun C hC=>?_⟩
 · have:=h C hC
   simp only [iP,zU,beq_iff_eq] at this
   exact this.2.2.2 D hD
 · have:=h C hC
   simp only [iP,beq_iff_eq] at this
   exact this.2.2.1
 · have:=h C hC
   simp only [iP] at this
   exact ⟨Jn this.1,P8 this.2.1⟩
end EX
namespace EX
open PySem PySem.Spec PySem.Calls PyProof.Rows L2 VT
open PySem.W (findIn typeIn Looks InstAt)
structure X0 (K:PySem.W.Frag) (mg:Str→Option Value) (x:Str) (C:Addr):Prop where
 m:mg x=some (.ref C)
 kp:PySem.W.keepIn K (.ref C)=true
 xc:∃ tl,XC K C tl
 n0:∃ c dd cd sl o es ep,K.lookup C=some ⟨c,dd,.cls cd,sl⟩∧K.lookup cd.ns=some o∧o.data = .dict es ep∧StrKeys es∧nsFind es "__init__" = none
section
variable {X:Cx} {C:Addr} {x:Str}
def U0 (C:Addr) (t:TA):TE:=fun σ H Q=>t σ H fun vs H1=>∃ y,vs=[.str y]∧∀ e,H1 e=none→Q (.ref e) (upd H1 e (.ext (uG C e none)))
theorem Mv {a:Expr} {es:List Expr} {p pos:Pos} {t:TA} (x0:X0 X.K X.mg x C) (hg:Gl X x) (ha:PA X (a :: es) t) (lZ:gh x:=by decide)
  (he:starEach (a :: es) X.env=(false,eval a X.env) :: starEach es X.env:=by rfl) (fg:(backTo pos (starEach es X.env)).any (·.1)=false:=by rfl):PE X (.Call (.Name x p) (a :: es) [] pos) (U0 C t):=by
 intro pins s σ H Q I h
 obtain ⟨tl,xc⟩:=x0.xc
 refine wpAny_Call_Name_kw (gZ I hg x0.m ?_ lZ)
 refine NO (h₀:=X.base) I.ok.mod.JN x0.kp (bV (ha pos pins s σ H _ I h) fun us s1 ⟨vs,H1,I1,r,y,ev,q⟩=>⟨I1.jZ,?_⟩) he fg
 subst ev
 obtain ⟨u1,r1,rfl,z1,r⟩:∃ u1 r1,us=u1 :: r1∧RelV (.str y) u1∧Vals [] r1:=by cases r with | cons a b=>exact ⟨_,_,rfl,a,b⟩
 cases r
 obtain ⟨nm,qn,N,bs,sn,sub,ab,col,dd,k0,k1,k2,k3,k5,oK⟩:=id xc.obj
 obtain ⟨c,GX,cd,sl,o,es,ep,g1,g2,g3,g4,g5⟩:=x0.n0
 rw [oK] at g1
 cases g1
 refine wpAny_call_exc_subT (g:=s1.gens) (d:=s1.drawn) (t:=s1.toks) (os:=s1.os) NN (lq I1.jZ xc.tail) (I1.jZ _ _ oK) ⟨o,es,ep,I1.jZ _ _ g2,g3,g4,fun _=>rfl⟩ g5 (fun h' e hm=>?_) (by show (1:Nat)≤sizeLine; rw [sizeLine_eq]; omega)
 obtain ⟨t0,Mh,_,_⟩:=hm.there
 have n1:H1 e=none:=by
  cases q:H1 e with
  | none=>rfl
  | some o=>obtain ⟨u,z⟩:=jq (I1.bD e o q); rw [hm.new] at z; cases z
 have I2:Inv X pins σ (upd H1 e (.ext (uG C e none))) { s1 with heap:=h' }:=I1.un (t':=s1.toks) (lr (Un.kept hm.keeps) n1 hm.new) (jL (I1.bD.kept hm.keeps) n1 (zD Mh))
 exact ⟨.ref e,_,I2,rfl,q e n1⟩
end
section
variable {X:Cx} {Z:Zc} {W:WT} {C:Addr} {x:Str}
def HC (W:WT) (C:Addr):FS:=fun _ _=>W C none
theorem A6 {a:Expr} {np bc pos:Pos} {i:Int} (hw:Nw X Z W) (x0:X0 X.K X.mg x C) (hg:Gl X x) (ha:PA X [a] (Cg (WC (tC (.int i))) Kt)) (h0:0≤i:=by decide) (h1:i≤100:=by decide) (lZ:gh x:=by decide)
  (he:starEach [a] X.env=(false,eval a X.env) :: starEach [] X.env:=by rfl) (fg:(backTo bc (starEach [] X.env)).any (·.1)=false:=by rfl) :
  VS X Z (.Raise (some (.Call (.Name x np) [a] [] bc)) none pos) (HC W C):=.mk fun tm=>PS.weak (vW hw.calm (Mv x0 hg ha lZ he fg)) fun D σ H ⟨ρ,O,d,I,hW,F⟩=>by
 refine ⟨i,rfl,h0,h1,fun y=>⟨y,rfl,fun e n1=>?_⟩⟩
 obtain ⟨tl,xc⟩:=x0.xc
 refine ⟨e,C,none,tl,rfl,xc,aQ,fun pins s J J2 fl=>?_⟩
 have sm:aJ Z.H0 H:=qa hw.P0 I
 have z0:Z.H0 e=none:=sm.free n1
 refine hw.xe pins σ _ s e C none none none J2 fl lu (fun _ z=>nomatch z) ?_ (fun _ z=>nomatch z) (fun b o z=>?_) rfl hW
 · cases q2:X.s₀.heap.get? e with
   | none=>rfl
   | some o =>
     have:=J.base.free e o q2 (by rw [← hw.H0]; exact z0) (by rw [hw.ex]; simp)
     rw [aQ] at this; cases this
 · have z1:=sm b o z
   have b1:b≠e:=fun y=>by rw [y,n1] at z1; cases z1
   rw [gv b1,aD b1]
   exact z1
theorem P_ {K:PySem.W.Frag} {mg:Str→Option Value} {C:Addr} {x:Str} {tl:List Addr} (m:mg x=some (.ref C)) (kp:PySem.W.keepIn K (.ref C)=true) (xc:XC K C tl) (h:P6 K C=true):X0 K mg x C:=⟨m,kp,⟨tl,xc⟩,Jm h⟩
end
end EX
namespace Ff
open PySem L2 VT Gen wC EX cN
abbrev bj:Stmt:=top 31
abbrev cO:Stmt:=top 32
def RT (t:T):Prop:=∃ (x:Str) (ps:List T),t = .tup (.str x :: ps)∧ps.length≤10∧∀ p∈ps,Part p
def q8:T→Bool
 | .tup (.str x :: ps)=>dQ x ps
 | _=>false
def bI:List T→Nat→Option Nat
 | [],_=>none
 | t :: l,i=>if q8 t=true then bI l (i+1) else some i
theorem lC {t:T} (h:jd t):RT t∧q8 t=true:=by
 obtain ⟨x,ps,rfl,h1,h2,h3⟩:=h
 exact ⟨⟨x,ps,rfl,by omega,h2⟩,h3⟩
theorem jw:∀ (l:List T) (i:Nat),(∀ t∈l,q8 t=true)→bI l i=none
 | [],_,_=>rfl
 | t :: l,i,h=>by
   unfold bI
   rw [if_pos (h t iO)]
   exact jw l _ fun u hu=>h u (jX _ hu)
def zG (cR:Addr) (W:WT) (ts:List T) (q:Rt→Prop):Prop:=∃ xs:List T,ts=[.lst xs]∧xs.length≤60∧(∀ x∈xs,RT x)∧(match bI xs 0 with | none=>q (.vw .br) | some i=>W cR (some (i:Int)))
def Ec (c0 c1 c2 c3:Addr) (W:WT) (ts:List T) (q:Rt→Prop):Prop:=∃ xs:List T,ts=[.lst xs]∧xs.length≤100∧(∀ x∈xs,RT x)∧(60 < xs.length→W c0 none)∧(xs.length≤60→match bI xs 0 with
 | some i=>W c1 (some (i:Int))
 | none=>∃ rs:List Rw,xs=rs.map aV∧(match brk [] rs 0 with
   | some i=>W c2 (some (i:Int))
   | none=>match gI rs with
     | some i=>W c3 (some (i:Int))
     | none=>q (.fr (.lst (rs.map aV)))))
section
variable {P:Program} {w:World} {K:PySem.W.Frag} {mg:Str→Option Value} {base:Heap} {sd ud fW gf:Addr}
abbrev ic:List Str:=["program","place","row"]
theorem cW:aG ic ["program"] (aj cO):=L2.g7
theorem j9 {f:Addr} {fd:FuncData} (D:Df K mg "check_rows" cO ["program"] f fd) (M:xV w K mg) (qd:XP P w K mg base "NoRow" ud 1) (pT:cm P w K mg base "is_row" ["row"] 5 (b_ K 1 Ma)):qb P w K mg base "check_rows" ["program"] 6 (x8 K 1 (zG ud)):=by
 obtain ⟨DR,AS,pU,pV,pW,pX⟩:=pT
 refine ⟨f,fd,D.m,D.F.kp,D.b,PX D.F cW rfl fun bE A outer s H E Ox hr W ts q hG hw=>?_⟩
 have nd:=cW.nd
 have np:∀ {i:Nat},aY ⟨H,[],Ox⟩ i:=kJ
 refine ⟨_,(ah (dF hw.own rfl (hV (by rfl) M.enumerate (ak 0)) (hU (n:=2) rfl (bz (bb (i:=1) nd rfl (Or.inl rfl) np) (bz (bb (i:=2) nd rfl (Or.inl rfl) np) e8)))
    (ah (aP (dm (dj (aM pX (hr.mono (by decide)) (by rfl) pU pV pW (aa (ak 2) ai))))
      (ah (jr hw qd (hr.mono (by decide)) (by rfl) (aa (ak 1) ai)))
      ax)))),fun _=>?_⟩
 obtain ⟨xs,rfl,hn,uF,hq⟩:=hG
 have e0:xs=xs.map id:=by simp
 rw [e0]
 refine eJ (fun i ρ=>∃ b1 b2,ρ=[some (.lst (xs.map id),false),b1,b2]∧bI xs 0=bI (xs.drop i) i) ⟨_,_,rfl,rfl⟩ ?_ ?_
 · rintro i t ρ ht ⟨b1,b2,rfl,hb⟩
   have hi:=(fY.mp ht).1
   have ed:xs.drop i=t :: xs.drop (i+1):=by
    obtain ⟨h1,h2⟩:=fY.mp ht
    rw [← h2]; exact QZ h1
   rw [ed] at hb
   obtain ⟨x,ps,ex,RM,UI⟩:=uF t (mW ht)
   subst ex
   refine ⟨rfl,rfl,rfl,x,ps,rfl,RM,UI,?_⟩
   cases hg:dQ x ps with
   | true =>
     refine ⟨_,_,rfl,?_⟩
     rw [hb]
     show (if dQ x ps=true then _ else _)=_
     rw [if_pos hg]
   | false =>
     have e2:bI xs 0=some i:=by rw [hb]; show (if dQ x ps=true then _ else _)=_; rw [hg]; rfl
     rw [e2] at hq
     exact ⟨(i:Int),rfl,by omega,by omega,hq⟩
 · rintro ρ ⟨b1,b2,rfl,hb⟩
   rw [List.drop_length] at hb
   have Fb:bI xs 0=none:=hb
   rw [Fb] at hq
   exact hq
abbrev nq:Int:=60
abbrev bT:List Str:=["rows","program"]
theorem bK:aG bT ["rows"] (aj bj):=L2.g7
theorem gu {f:Addr} {fd:FuncData} (D:Df K mg "program_of" bj ["rows"] f fd) (M:xV w K mg) (M1:X0 K mg "TooGreat" sd) (dR:qb P w K mg base "check_rows" ["program"] 6 (x8 K 1 (zG ud))) (cA:qb P w K mg base "check_blocks" ["program"] 3 (x8 K 1 (Ht.gH fW))) (cX:qb P w K mg base "check_calls" ["program"] 3 (x8 K 1 (Ht.jK gf))):qb P w K mg base "program_of" ["rows"] 7 (x8 K 1 (Ec sd ud fW gf)):=by
 obtain ⟨lp,j',dS,dU,dW,dX⟩:=dR
 obtain ⟨jm,iH,cD,cF,cH,cJ⟩:=cA
 obtain ⟨ka,jo,cY,cZ,c9,c_⟩:=cX
 refine ⟨f,fd,D.m,D.F.kp,D.b,PX D.F bK rfl fun bE A outer s H E Ox hr W ts q hG hw=>?_⟩
 have nd:=bK.nd
 have np:∀ {i:Nat},aY ⟨H,[],Ox⟩ i:=kJ
 obtain ⟨tM,ny⟩:=M.mG
 have eS:∀ {pos},VP (d0 (zE P w) P w K mg base bT "program_of" (aj bj) f bE A outer s H E) ⟨H,[],Ox⟩ (.Name "MOST_ROWS" pos) (fC (.int 60)):=eO (by rfl) ny (v:=.int 60) ⟨_,rfl⟩ fun _ _=>bq
 have jx:=M1
 refine ⟨_,(af (eU (i:=1) nd rfl (Or.inl rfl) (VP.vx (dw dC fF (by rfl) M.list o8 (ao (ae 0) au))) np)
   (af (aP (mZ (VP.vr (ay az aA (by rfl) M.len iA (ao (ae 1) au))) (VP.vr eS))
     (ah (A6 (i:=nq) hw jx (by rfl) (bh (zC (nX (by rfl) ny (v:=.int nq) ⟨_,rfl⟩)) cx)))
     ax)
   (af (jt hw dX (hr.mono (by decide)) (by rfl) dS dU dW (ao (ae 1) au))
   (af (jt hw cJ (hr.mono (by decide)) (by rfl) cD cF cH (ao (ae 1) au))
   (af (jt hw c_ (hr.mono (by decide)) (by rfl) cY cZ c9 (ao (ae 1) au))
   (ah (aH (g_ 1 np)))))))),fun _=>?_⟩
 obtain ⟨xs,rfl,P',uF,hg,hq⟩:=hG
 refine bX (fun h=>?_) (fun h=>?_)
 · have h':60 < xs.length:=by omega
   exact hg h'
 · have hn:xs.length≤60:=by omega
   replace hq:=hq hn
   refine ⟨rfl,W,fun _ _ z=>z,xs,rfl,hn,uF,?_⟩
   cases WL:bI xs 0 with
   | some i=>rw [WL] at hq; exact hq
   | none =>
     rw [WL] at hq
     obtain ⟨rs,rfl,hq⟩:=hq
     rw [cu] at hn
     refine ⟨rfl,rfl,W,fun _ _ z=>z,rs,rfl,hn,?_⟩
     cases hb:brk [] rs 0 with
     | some i=>rw [hb] at hq; exact hq
     | none =>
       rw [hb] at hq
       refine ⟨rfl,rfl,W,fun _ _ z=>z,rs,rfl,hn,?_⟩
       cases hc:gI rs with
       | some i=>rw [hc] at hq; exact hq
       | none =>
         rw [hc] at hq
         exact ⟨rfl,hq⟩
end
end Ff
namespace VT
open PySem PySem.Spec PyProof.Rows L2
def Mw:FS:=fun _ _=>False
theorem se {X:Cx} {Z:Zc} {ss:List Stmt}:jE X Z ss Mw:=.mk fun tm=>fun pins s σ H D I h=>by
 obtain ⟨_,_,_,_,q,_⟩:=h
 exact q.elim
end VT
namespace HF
open PySem L2 VT Gen wC EX cN
def top (i:Nat):Stmt:=PySem.Challenge.pw_slicewise_k06_rows_refused.main.body.getD i (.Pass ⟨0,0,0,0⟩)
abbrev gJ:Stmt:=top 40
abbrev lF:Stmt:=top 41
abbrev gK:Stmt:=top 42
abbrev v5:Stmt:=top 43
abbrev s_call:Stmt:=top 44
abbrev jy:Stmt:=top 45
abbrev v7:Stmt:=top 46
abbrev qe:Stmt:=top 47
abbrev gL:Stmt:=top 48
abbrev iq:Stmt:=top 49
abbrev jN:Stmt:=top 50
abbrev jO:Stmt:=top 51
abbrev kc:Stmt:=top 52
abbrev w9:List Str:=["great","row","block","call","text","place","unlike","fault","done"]
structure U1 (K:PySem.W.Frag) (mg:Str→Option Value) (S c0 c1 c2 c3 c4 c5 c6 c7 c8:Addr):Prop where
 mS:mg "SliceError" = some (.ref S)
 m0:mg "TooGreat" = some (.ref c0)
 m1:mg "NoRow" = some (.ref c1)
 m2:mg "NoBlock" = some (.ref c2)
 m3:mg "NoCall" = some (.ref c3)
 m4:mg "NoText" = some (.ref c4)
 m5:mg "NoPlace" = some (.ref c5)
 m6:mg "Unlike" = some (.ref c6)
 m7:mg "NoFault" = some (.ref c7)
 m8:mg "Done" = some (.ref c8)
 xs:XC K S []
 nd:[c0,c1,c2,c3,c4,c5,c6,c7,c8].Nodup
 hk:∀ C∈[c0,c1,c2,c3,c4,c5,c6,c7,c8],∀ D∈[c0,c1,c2,c3,c4,c5,c6,c7,c8],PySem.W.kitOne K (.ref C) (.ref D)=some (decide (C=D))
 hv:∀ C∈[c0,c1,c2,c3,c4,c5,c6,c7,c8],PySem.W.kitOne K (.ref C) (.type "ValueError")=some true
 xk:∀ C∈[c0,c1,c2,c3,c4,c5,c6,c7,c8],XC K C [S]∧XF K C
 isinstance:mg "isinstance" = none
 int:mg "int" = none
 bool:mg "bool" = none
 ValueError:mg "ValueError" = none
def Ed (cl:List Addr) (C:Addr) (p:Option Int) (q:T→Prop):Prop:=∃ i:Nat,cl[i]?=some C∧q (.str (w9.getD i ""))
theorem HG {cl:List Addr} (nd:cl.Nodup) {C:Addr} (h:C∈cl):(cl.map fun D=>decide (C=D)).countP (· == true)=1:=by
 rw [List.countP_map]
 have:((fun x=>x == true) ∘ fun D=>decide (C=D))=fun D=>D == C:=by
  funext D
  simp only [Function.comp]
  by_cases z:C=D
  · subst z; simp
  · have z2:D≠C:=fun y=>z y.symm
    simp [z,z2]
 rw [this]
 exact Nat.le_antisymm (List.nodup_iff_count.mp nd C) (List.count_pos_iff.mpr h)
theorem ir {a:Addr}:∀ u,RelV (.ref a) u→u=Value.ref a:=fun _ z=>z
theorem Qa {n:String}:∀ u,RelV (.ty n) u→u=Value.type n:=fun _ z=>z
section
variable {P:Program} {w:World} {K:PySem.W.Frag} {mg:Str→Option Value} {base:Heap} {S c0 c1 c2 c3 c4 c5 c6 c7 c8:Addr}
abbrev ou:List Str:=["_law_error","_law_some"]
theorem v8:aG ou ["_law_error"] (aj iq):=L2.g7
theorem Ee {f:Addr} {fd:FuncData} (D:Df K mg "_law_which" iq ["_law_error"] f fd) (M:U1 K mg S c0 c1 c2 c3 c4 c5 c6 c7 c8):cm P w K mg base "_law_which" ["_law_error"] 1 (RX K (Ed [c0,c1,c2,c3,c4,c5,c6,c7,c8])):=by
 refine D.ko (YO D.F v8 rfl fun bE A outer s H E hr e C dd p q xz hG=>?_)
 have nd:=v8.nd
 have hu:=bx.iM hr
 have np:∀ {i:Nat},aY ⟨H,[],[]⟩ i:=kJ
 obtain ⟨i,hi,hq⟩:=hG
 have hC:=mW hi
 have v_:=M.hk C hC c0 (by simp)
 have Ef:=M.hk C hC c1 (by simp)
 have x_:=M.hk C hC c2 (by simp)
 have A7:=M.hk C hC c3 (by simp)
 have A8:=M.hk C hC c4 (by simp)
 have ya:=M.hk C hC c5 (by simp)
 have A9:=M.hk C hC c6 (by simp)
 have yb:=M.hk C hC c7 (by simp)
 have HH:=M.hk C hC c8 (by simp)
 have q9:=M.hv C hC
 have pg:∀ {x:Str} {a:Addr} {pos:Pos},mg x=some (.ref a)→(x == ("__debug__" : Str))=false→Gl (d0 iW P w K mg base ou "_law_which" (aj iq) f bE A outer s H E).nY x→PE (d0 iW P w K mg base ou "_law_which" (aj iq) f bE A outer s H E).nY (.Name x pos) (tC (.ref a)):=fun hm hd hg=>nX hg hm rfl hd
 have wa:∀ {pos},_:=fun {pos}=>pg (pos:=pos) M.m0 (by decide) (by rfl)
 have Eg:∀ {pos},_:=fun {pos}=>pg (pos:=pos) M.m1 (by decide) (by rfl)
 have yc:∀ {pos},_:=fun {pos}=>pg (pos:=pos) M.m2 (by decide) (by rfl)
 have A_:∀ {pos},_:=fun {pos}=>pg (pos:=pos) M.m3 (by decide) (by rfl)
 have Ba:∀ {pos},_:=fun {pos}=>pg (pos:=pos) M.m4 (by decide) (by rfl)
 have yd:∀ {pos},_:=fun {pos}=>pg (pos:=pos) M.m5 (by decide) (by rfl)
 have Bb:∀ {pos},_:=fun {pos}=>pg (pos:=pos) M.m6 (by decide) (by rfl)
 have ye:∀ {pos},_:=fun {pos}=>pg (pos:=pos) M.m7 (by decide) (by rfl)
 have HI:∀ {pos},_:=fun {pos}=>pg (pos:=pos) M.m8 (by decide) (by rfl)
 have q_:∀ {pos},PE (d0 iW P w K mg base ou "_law_which" (aj iq) f bE A outer s H E).nY (.Name "ValueError" pos) (tC (.ty "ValueError")):=fun {pos} pins s σ H Q I h=>ke I (by rfl) M.ValueError (by decide +kernel) ⟨.ty "ValueError",H,I,rfl,h⟩
 refine ⟨_,(af (aL (i:=1) nd rfl (Or.inl rfl) (VP.vx (bW (aa (VP.ve (gw 0 xz rfl ir v_ (by rfl) M.isinstance wa)) (aa (VP.ve (gw 0 xz rfl ir Ef (by rfl) M.isinstance Eg)) (aa (VP.ve (gw 0 xz rfl ir x_ (by rfl) M.isinstance yc)) ai))))) np)
   (af (aL (i:=1) nd rfl (Or.inl rfl) (VP.vx (bu (ae 1) (VP.vr (bW (aa (VP.ve (gw 0 xz rfl ir A7 (by rfl) M.isinstance A_)) (aa (VP.ve (gw 0 xz rfl ir A8 (by rfl) M.isinstance Ba)) (aa (VP.ve (gw 0 xz rfl ir ya (by rfl) M.isinstance yd)) ai))))))) np)
   (af (aL (i:=1) nd rfl (Or.inl rfl) (VP.vx (bu (ae 1) (VP.vr (bW (aa (VP.ve (gw 0 xz rfl ir A9 (by rfl) M.isinstance Bb)) (aa (VP.ve (gw 0 xz rfl ir yb (by rfl) M.isinstance ye)) (aa (VP.ve (gw 0 xz rfl ir HH (by rfl) M.isinstance HI)) ai))))))) np)
   (af (aP (VW.vc (iZ (kW hu (VP.vr (vY (ae 1) (ao (VP.vr j4) au))) (VP.vr ag)) (gk (dm (dj (gw 0 xz rfl Qa q9 (by rfl) M.isinstance q_))))))
     (ah (aH (VP.vx aq)))
     ax)
   (ah (aH (VP.vx (aW (VP.vr (bW (aa (VP.ve aq) (aa (VP.ve aq) (aa (VP.ve aq) (aa (VP.ve aq) (aa (VP.ve aq) (aa (VP.ve aq) (aa (VP.ve aq) (aa (VP.ve aq) (aa (VP.ve aq) ai))))))))))) (VP.vr (vZ (ae 1) (ao (VP.vr j4) au))))))))))),?_⟩
 have YU:([c0,c1,c2,c3,c4,c5,c6,c7,c8].map fun D=>decide (C=D)).countP (· == true)=1:=HG M.nd hC
 have gj:i < 9:=(fY.mp hi).1
 refine ⟨rfl,rfl,rfl,small (by simp),rfl,rfl,rfl,small (by simp),small (by simp),rfl,rfl,rfl,small (by simp),small (by simp),?_⟩
 refine ⟨[c0,c1,c2,c3,c4,c5,c6,c7,c8].map fun D=>decide (C=D),true,rfl,rfl,?_⟩
 rw [YU]
 refine ⟨rfl,small (by simp),[c0,c1,c2,c3,c4,c5,c6,c7,c8].map fun D=>decide (C=D),true,i,rfl,rfl,?_,?_,by simp,?_⟩
 · rw [nV,hi]; simp
 · intro j hj
   rw [nV]
   cases YV:[c0,c1,c2,c3,c4,c5,c6,c7,c8][j]? with
   | none=>simp
   | some D =>
     have:C≠D:=fun z=>by
      subst z
      obtain ⟨a1,a2⟩:=fY.mp hi
      obtain ⟨b1,b2⟩:=fY.mp YV
      have:=(List.getElem_inj M.nd).mp (a2.trans b2.symm)
      omega
     simp [this]
 · refine ⟨_,aB (j:=i) (v:=T.str (w9.getD i "")) ?_,_,rfl,hq⟩
   match i,gj with
   | 0,_=>rfl
   | 1,_=>rfl
   | 2,_=>rfl
   | 3,_=>rfl
   | 4,_=>rfl
   | 5,_=>rfl
   | 6,_=>rfl
   | 7,_=>rfl
   | 8,_=>rfl
def HJ (rs:List Rw):T:=match brk [] rs 0 with
 | some i=>.tup [.str "block",.int (i:Int)]
 | none=>match gI rs with
   | some i=>.tup [.str "call",.int (i:Int)]
   | none=>.tup [.str "made",.lst (rs.map aV)]
open Ff (RT q8 bI)
def Qb (ts:List T) (q:Rt→Prop):Prop:=∃ xs:List T,ts=[.lst xs]∧xs.length≤100∧(∀ x∈xs,RT x)∧((60 < xs.length∧q (.vw (.tup [.str "great",.int 0])))∨(xs.length≤60∧∃ i:Nat,bI xs 0=some i∧q (.vw (.tup [.str "row",.int (i:Int)])))∨(xs.length≤60∧bI xs 0=none∧∃ rs:List Rw,xs=rs.map aV∧q (.vw (HJ rs))))
abbrev Bc:List Str:=["_law_rows","_law_error","_law_made","e","_law_word"]
theorem qf:aG Bc ["_law_rows"] (aj jN):=L2.g7
theorem yf {f:Addr} {fd:FuncData} (D:Df K mg "_law_outcome" jN ["_law_rows"] f fd) (M:U1 K mg S c0 c1 c2 c3 c4 c5 c6 c7 c8) (ue:qb P w K mg base "program_of" ["rows"] 7 (x8 K 1 (Ff.Ec c0 c1 c2 c3))) (HK:cm P w K mg base "_law_which" ["_law_error"] 1 (RX K (Ed [c0,c1,c2,c3,c4,c5,c6,c7,c8]))) :
  cm P w K mg base "_law_outcome" ["_law_rows"] 8 (b_ K 1 Qb):=by
 obtain ⟨HL,Fg,uf,ug,uh,ui⟩:=ue
 obtain ⟨RZ,Qc,zH,zI,zJ,zK⟩:=HK
 refine D.ko (lU D.F qf rfl fun bE A outer s H E Ox hr ts q hG=>?_)
 have nd:=qf.nd
 have mS:=M.mS
 have xs:=M.xs
 refine ⟨_,(af (aL (i:=1) nd rfl (Or.inl rfl) (VP.vx iY) kJ)
   (af (aL (i:=2) nd rfl (Or.inl rfl) (VP.vx iY) kJ)
   (Eb (ia:=0) (ix:=2) (iz:=1) (jn:=3) rfl ⟨rfl,rfl⟩ ui (hr.mono (by decide)) (by rfl) uf ug uh (by rfl) mS xs (fun _=>rfl) rfl
   (af (aP (rN (ae 1) (VP.vr iY))
     (ah (aH (VP.vx (aI (aa (VP.ve aq) (aa (ak 2) ai))))))
     ax) se)
   (fun e C dd n H0 xz =>
     (af (aP (rN (ae 1) (VP.vr iY))
       (ah (aH (VP.vx (aI (aa (VP.ve aq) (aa (ak 2) ai))))))
       ax)
     (af (aL (i:=4) nd rfl (Or.inl rfl) (VP.vx (v3 1 xz rfl zK (hr.mono (by decide)) (by rfl) zH zI zJ)) kJ)
     (af (aP (zg (ae 4) (VP.vr (aI (aa (VP.ve aq) (aa (VP.ve aq) (aa (VP.ve aq) ai))))))
       (af (aP (VW.vc (iZ (dm (dj (e_ vg (by rfl) M.isinstance (by rfl) M.int CU (VP.vr (D_ 1 xz rfl))))) (gk (dj (e_ rM (by rfl) M.isinstance (by rfl) M.bool CV (VP.vr (D_ 1 xz rfl)))))))
         (ah (aH (VP.vx (aI (aa (VP.ve aq) (aa (VP.ve ag) ai))))))
         ax)
       (ah (aH (VP.vx (aI (aa (ak 4) (aa (VP.ve (D_ 1 xz rfl)) ai)))))))
       ax)
     (ah (aH (VP.vx (aI (aa (ak 4) (aa (VP.ve ag) ai))))))))))
   (fun e C dd H0 xz =>
     (af (aP (rN (ae 1) (VP.vr iY))
       (ah (aH (VP.vx (aI (aa (VP.ve aq) (aa (ak 2) ai))))))
       ax)
     (af (aL (i:=4) nd rfl (Or.inl rfl) (VP.vx (v3 1 xz rfl zK (hr.mono (by decide)) (by rfl) zH zI zJ)) kJ)
     (af (aP (zg (ae 4) (VP.vr (aI (aa (VP.ve aq) (aa (VP.ve aq) (aa (VP.ve aq) ai))))))
       se
       ax)
     (ah (aH (VP.vx (aI (aa (ak 4) (aa (VP.ve ag) ai)))))))))) nd))),fun _=>?_⟩
 obtain ⟨xs,rfl,P',hR,hq⟩:=hG
 refine ⟨?_,_,fun C p=>(60 < xs.length∧C=c0∧p=none)∨∃ (j:Nat) (wd:Str) (i:Nat),[c0,c1,c2,c3,c4,c5,c6,c7,c8][j]?=some C∧w9.getD j "" = wd∧xm (.str wd) [.str "row",.str "block",.str "call"]=true∧p=some (i:Int)∧xs.length≤60∧q (.vw (.tup [.str wd,.int (i:Int)])),rfl,⟨xs,rfl,P',hR,fun h=>.inl ⟨h,rfl,rfl⟩,fun h=>?_⟩,fun C p hW=>?_⟩
 · intro i t
   match i with
   | 0=>intro z; cases z
   | 1=>intro z; cases z
   | 2=>intro z; cases z
   | 3=>intro z; cases z
   | 4=>intro z; cases z
   | i+5=>intro z; cases z
 · rcases hq with ⟨h1,_⟩ | ⟨_,i,hb,hq⟩ | ⟨_,hb,rs,rfl,hq⟩
   · omega
   · rw [hb]
     exact .inr ⟨1,"row",i,rfl,rfl,by decide +kernel,rfl,h,hq⟩
   · rw [hb]
     refine ⟨rs,rfl,?_⟩
     unfold HJ at hq
     cases U2:brk [] rs 0 with
     | some i=>rw [U2] at hq; exact .inr ⟨2,"block",i,rfl,rfl,by decide +kernel,rfl,h,hq⟩
     | none =>
       cases hc:gI rs with
       | some i=>rw [U2,hc] at hq; exact .inr ⟨3,"call",i,rfl,rfl,by decide +kernel,rfl,h,hq⟩
       | none =>
         rw [U2,hc] at hq
         exact ⟨small (by simp),hq⟩
 · rcases hW with ⟨h1,rfl,rfl⟩ | ⟨j,wd,i,hj,hw,Pn,rfl,_,hq⟩
   · have hC:C∈[C,c1,c2,c3,c4,c5,c6,c7,c8]:=by simp
     obtain ⟨x1,x2⟩:=M.xk C hC
     refine ⟨⟨[S],x1,.inr (by simp)⟩,x2,fun e=>?_⟩
     have YW:q (.vw (.tup [.str "great",.int 0])):=by
      rcases hq with ⟨_,hq⟩ | ⟨h2,_⟩ | ⟨h2,_⟩
      · exact hq
      · omega
      · omega
     refine ⟨rfl,⟨0,rfl,rfl,?_⟩⟩
     refine ⟨small (by simp),rfl,rfl,?_⟩
     refine ff (c:=xm (.str "great") [.str "row",.str "block",.str "call"]) (by decide +kernel) ?_
     exact ⟨small (by simp),YW⟩
   · have hC:=mW hj
     obtain ⟨x1,x2⟩:=M.xk C hC
     refine ⟨⟨[S],x1,.inr (by simp)⟩,x2,fun e=>?_⟩
     refine ⟨rfl,⟨j,hj,rfl,?_⟩⟩
     rw [hw]
     refine ⟨small (by simp),rfl,rfl,?_⟩
     refine zA (c:=xm (.str wd) [.str "row",.str "block",.str "call"]) Pn ?_
     first
      | exact ⟨rfl,rfl,rfl,rfl,rfl,small (by simp),hq⟩
      | exact ⟨rfl,rfl,rfl,rfl,small (by simp),hq⟩
      | exact ⟨rfl,rfl,rfl,rfl,rfl,rfl,small (by simp),hq⟩
      | exact ⟨rfl,rfl,rfl,rfl,rfl,hq⟩
      | exact ⟨rfl,rfl,rfl,rfl,rfl,rfl,hq⟩
end
end HF
namespace eV
open PySem L2 VT Gen
open wC (bw)
def top (i:Nat):Stmt:=PySem.Challenge.pw_slicewise_k06_rows_refused.main.body.getD i (.Pass ⟨0,0,0,0⟩)
abbrev gJ:Stmt:=top 40
abbrev lF:Stmt:=top 41
abbrev gK:Stmt:=top 42
abbrev v5:Stmt:=top 43
abbrev s_call:Stmt:=top 44
abbrev jy:Stmt:=top 45
abbrev v7:Stmt:=top 46
abbrev qe:Stmt:=top 47
abbrev gL:Stmt:=top 48
structure Mx (mg:Str→Option Value):Prop where
 len:mg "len" = none
 range:mg "range" = none
 tuple:mg "tuple" = none
 sum:mg "sum" = none
def Jo (ts:List T) (q:Rt→Prop):Prop:=∃ (ns:List Int) (j:Nat),ts=[.lst (ns.map .int),.int (j:Int)]∧q (.vw (.int (ns.getD j 0)))
def Eh (ts:List T) (q:Rt→Prop):Prop:=∃ (c:Int) (m:Nat),ts=[.int c,.int (m:Int)]∧2≤m∧m≤20∧q (.fr (.lst ((cT c m).map .str)))
section
variable {P:Program} {w:World} {K:PySem.W.Frag} {mg:Str→Option Value} {base:Heap}
abbrev Bd:List Str:=["_law_script","_law_k"]
theorem qg:aG Bd ["_law_script","_law_k"] (aj gJ):=L2.g7
theorem yg {f:Addr} {fd:FuncData} (D:Df K mg "_law_cell_at" gJ ["_law_script","_law_k"] f fd) (M:Mx mg):cm P w K mg base "_law_cell_at" ["_law_script","_law_k"] 1 (b_ K 2 Jo):=by
 refine D.ko (lU D.F qg rfl fun bE A outer s H E Ox hr ts q hG=>?_)
 have nd:=qg.nd
 refine ⟨_,(af (aP (i7 (ae 1) (VP.vr (ay az aA (by rfl) M.len iA (ao (ae 0) au))))
    (ah (aH (VP.vx (aW (ae 0) (ae 1)))))
    ax)
   (ah (aH (VP.vx ag)))),fun _=>?_⟩
 obtain ⟨ns,j,rfl,hq⟩:=hG
 refine Cr (fun h=>?_) (fun h=>?_)
 · have h':(j:Int) < ((ns.map T.int).length:Int):=of_decide_eq_true h
   rw [cu] at h'
   have hj:j < ns.length:=by omega
   refine ⟨.int (ns.getD j 0),aB ?_,hq⟩
   rw [nV,lK hj,List.getD,lK hj]
   rfl
 · have h':¬ ((j:Int) < ((ns.map T.int).length:Int)):=fun z=>h (decide_eq_true z)
   rw [cu] at h'
   have e:ns.getD j 0=0:=by
    rw [List.getD,List.getElem?_eq_none (by omega)]
    rfl
   rw [e] at hq
   exact hq
abbrev HM:List Str:=["_law_cell","_law_many","_law_letters","_law_size","_law_at","_law_words_here","_law_k","_law_word","_law_j","_law_number"]
theorem wb:aG HM ["_law_cell","_law_many"] (aj lF):=L2.g7
theorem Ei {f:Addr} {fd:FuncData} (D:Df K mg "_law_words" lF ["_law_cell","_law_many"] f fd) (M:Mx mg):cm P w K mg base "_law_words" ["_law_cell","_law_many"] 1 (b_ K 2 Eh):=by
 refine D.ko (lU D.F wb rfl fun bE A outer s H E Ox hr ts q hG=>?_)
 have nd:=wb.nd
 have hu:=bx.iM hr
 have np:∀ {i:Nat},aY ⟨H,[],Ox⟩ i:=kJ
 refine ⟨_,(af (aL (i:=2) nd rfl (Or.inl rfl) (VP.vx aq) np)
   (af (aL (i:=0) nd rfl (Or.inl rfl) (VP.vx (aT (ae 0) (VP.vr (i6 (VP.vr ag) (VP.vr ag))))) np)
   (af (aL (i:=3) nd rfl (Or.inl rfl) (VP.vx (bu (VP.vr ag) (VP.vr (aT (ae 0) (VP.vr ag))))) np)
   (af (aL (i:=4) nd rfl (Or.inl rfl) (VP.vx (aT (VP.vr (a_ (ae 0) (VP.vr ag))) (ae 3))) np)
   (af (eU (i:=5) nd rfl (Or.inl rfl) (VP.vx (bW ai)) np)
   (af (dF BM rfl (fj (by rfl) M.range (ae 1)) (bb (i:=6) nd rfl (Or.inl rfl) np)
     (af (aL (i:=7) nd rfl (Or.inl rfl) (VP.vx aq) np)
     (af (dF BM rfl (fj (by rfl) M.range (ae 3)) (bb (i:=8) nd rfl (Or.inl rfl) np)
       (af (aL (i:=9) nd rfl (Or.inl rfl) (VP.vx (bu (VP.vr (a_ (VP.vr (a_ (ae 0) (VP.vr ag))) (VP.vr (bu (ae 8) (VP.vr ag))))) (VP.vr (gm (ae 8) (ae 8))))) np)
       (af (aP (bJ hu (ae 8) (ae 4))
         (ah (Ld (i:=9) nd rfl (Or.inl rfl) (ae 6) FD CH np))
         ax)
       (ah (aL (i:=7) nd rfl (Or.inl rfl) (VP.vx (bu (ae 7) (VP.vr (aW (ae 2) (VP.vr (aT (ae 9) (VP.vr ag))))))) np)))))
     (ah (aX (cP 5 uA uB bf ba (aa (ak 7) ai)))))))
   (af (aP (bJ hu (VP.vr (aT (VP.vr (a_ (ae 0) (VP.vr ag))) (VP.vr ag))) (VP.vr ag))
     (ah (xj 5 (VP.ve (bu (VP.vr (aW (ae 5) (VP.vr ag))) (VP.vr (aW (ae 2) (VP.vr (aT (VP.vr (a_ (ae 0) (VP.vr ag))) (VP.vr ag))))))) (VP.vr ag)))
     ax)
   (ah (aH (g_ 5 np)))))))))),fun _=>?_⟩
 obtain ⟨c,m,rfl,hm2,YX,hq⟩:=hG
 have U3:(10:Int) ^ (12:Int).toNat=1000000000000:=Pz
 have hz:(1:Int)+c % (10:Int) ^ (12:Int).toNat % 7=(jV c:Int):=by rw [U3]; exact (Jc c).symm
 have n5:=pk c
 refine ⟨⟨by decide,by decide,by decide⟩,(by show (0:Int) < 10 ^ (12:Int).toNat; decide),(by show (0:Int) < 7; decide),⟨by decide,by decide⟩,(by show (0:Int) < 1+c % 10 ^ (12:Int).toNat % 7; rw [hz]; omega),kK _,by omega,by omega,?_⟩
 refine fJ (fun k ρ=>∃ kv wv jv nv,ρ=[some (.int (qV c),false),some (.int (m:Int),false),some (.str bw,false),some (.int (jV c:Int),false),some (.int (Aw c:Int),false),some (.lst (((List.range k).map fun k=>bR c k (jV c)).map .str),true),kv,wv,jv,nv]) ⟨none,none,none,none,?_⟩ ?_ ?_
 · have ha:c % (10:Int) ^ (12:Int).toNat / 7 % (1+c % (10:Int) ^ (12:Int).toNat % 7)=(Aw c:Int):=by rw [hz,U3]; exact (Jd c).symm
   show [some (T.int (c % (10:Int) ^ (12:Int).toNat),false),_,_,some (T.int (1+c % (10:Int) ^ (12:Int).toNat % 7),false),some (T.int (c % (10:Int) ^ (12:Int).toNat / 7 % (1+c % (10:Int) ^ (12:Int).toNat % 7)),false),_,_,_,_,_]=_
   rw [ha,hz,U3]
   rfl
 · rintro k ρ hk ⟨kv,wv,jv,nv,rfl⟩
   refine ⟨by omega,by omega,?_⟩
   refine fJ (fun j ρ=>∃ jv nv,ρ=[some (.int (qV c),false),some (.int (m:Int),false),some (.str bw,false),some (.int (jV c:Int),false),some (.int (Aw c:Int),false),some (.lst (((List.range k).map fun k=>bR c k (jV c)).map .str),true),some (.int (0+(k:Int)),false),some (.str (bR c k j),false),jv,nv]) ⟨_,_,rfl⟩ ?_ ?_
   · rintro j ρ hj ⟨jv,nv,rfl⟩
     have O7:j < jV c:=by omega
     refine ⟨⟨by decide,by decide⟩,⟨by show (0:Int) < 0+(j:Int)+1; omega,by show 0+(j:Int)+1 < 1073741824; omega⟩,.inl ⟨by show -(2 ^ 64) < 0+(j:Int); omega,by show 0+(j:Int) < 2 ^ 64; omega⟩,?_⟩
     have last:∀ n:Int,n=tS c k j→∃ c',lQ bw.cps.toList (n % 26)=some c'∧(bR c k j).length+(Str.mk #[c']).length≤sizeLine∧(bR c k j ++ ⟨#[c']⟩)=bR c k (j+1):=by
      rintro n rfl
      refine ⟨_,rS _,?_,(xD c k j).symm⟩
      rw [fm,sizeLine_eq]
      show j+1≤16777216
      omega
     refine bX (fun h=>?_) (fun h=>?_)
     · have U4:j=Aw c:=by have h:(0:Int)+(j:Int)=(Aw c:Int):=h; omega
       obtain ⟨c',h1,h2,h3⟩:=last (qV c / 49 / (0+(j:Int)+1)+(0+(j:Int)) * (0+(j:Int))+(0+(k:Int))) (by unfold tS; rw [if_pos U4]; simp only [Int.zero_add])
       exact ⟨by show (0:Int) < 26; decide,gp,c',h1,h2,_,_,by rw [← h3]; rfl⟩
     · have U4:¬ j=Aw c:=fun z=>h (by show (0:Int)+(j:Int)=(Aw c:Int); omega)
       obtain ⟨c',h1,h2,h3⟩:=last (qV c / 49 / (0+(j:Int)+1)+(0+(j:Int)) * (0+(j:Int))) (by unfold tS; rw [if_neg U4]; simp only [Int.zero_add,Int.add_zero])
       exact ⟨by show (0:Int) < 26; decide,gp,c',h1,h2,_,_,by rw [← h3]; rfl⟩
   · rintro ρ ⟨jv,nv,rfl⟩
     refine ⟨?_,some (.int (0+(k:Int)),false),some (.str (bR c k (jV c)),false),jv,nv,?_⟩
     · rw [cu,cu,Fj,sizeLine_eq]; omega
     · rw [List.range_succ,yL,yL]; rfl
 · rintro ρ ⟨kv,wv,jv,nv,rfl⟩
   refine ⟨⟨by decide,by decide⟩,(by show (0:Int) < 3; decide),bX (fun h=>?_) (fun h=>?_)⟩
   · have hc:qV c / 49 % 3=1:=h
     have e0:lQ (((List.range m).map fun k=>bR c k (jV c)).map T.str) 0=some (T.str (bR c 0 (jV c))):=by
      refine aB (j:=0) ?_
      rw [nV,nV,List.getElem?_range (by omega)]
      rfl
     refine ⟨_,e0,⟨by decide,by decide⟩,(by show (0:Int) < 26; decide),gp,_,rS _,?_,1,?_,?_⟩
     · rw [fm,sizeLine_eq]
       show jV c+1≤16777216
       omega
     · unfold yV
       rw [if_pos (by decide),if_pos (by rw [cu,cu,Fj]; omega)]
       rfl
     · have e:(cT c m).map T.str=(((List.range m).map fun k=>bR c k (jV c)).map T.str).set 1 (T.str (bR c 0 (jV c) ++ ⟨#[gA (qV c / 147)]⟩)):=by
        unfold cT
        rw [if_pos hc,List.map_set]
       rw [e] at hq
       exact hq
   · have hc:¬ qV c / 49 % 3=1:=h
     have e:(cT c m).map T.str=(((List.range m).map fun k=>bR c k (jV c)).map T.str):=by
      unfold cT
      rw [if_neg hc]
     rw [e] at hq
     exact hq
end
def gM (ts:List T) (q:Rt→Prop):Prop:=∃ (n:Int) (ys:List Str),ts=[.int n,.lst (ys.map .str)]∧ys.length=6∧0≤n∧n < 2147483648∧∀ o,cQ ys o→q (.vw (qW o))
def Qd (ts:List T) (q:Rt→Prop):Prop:=∃ (n:Int) (ys:List Str),ts=[.int n,.lst (ys.map .str)]∧ys.length=6∧(∀ y∈ys,y.length≤100)∧0≤n∧n < 2147483648∧∀ k,Ay ys k→q (.vw (L0 k))
def Jp (ts:List T) (q:Rt→Prop):Prop:=∃ (n:Int) (x:Str) (ys:List Str) (pl:Plan),ts=[.int n,.str x,.lst (ys.map .str),.lst (pl.map bo)]∧ys.length=6∧pl≠[]∧pl.length≤3∧(∀ p∈pl,p.2.length≤4)∧x∈ys∧0≤n∧n < 2147483648 ∧
 ∀ f as,gB ys pl (.call x f as)→q (.vw (aV (.call x f as)))
structure Given (ys:List Str) (pl:Plan):Prop where
 y6:ys.length=6
 sm:∀ y∈ys,y.length≤100
 p3:pl.length≤3
 p4:∀ p∈pl,p.2.length≤4
def zL (ts:List T) (q:Rt→Prop):Prop:=∃ (n:Int) (ys:List Str) (pl:Plan),ts=[.int n,.lst (ys.map .str),.lst (pl.map bo)]∧Given ys pl∧0≤n∧n < 2147483648∧∀ r,gB ys pl r→q (.vw (aV r))
section
variable {P:Program} {w:World} {K:PySem.W.Frag} {mg:Str→Option Value} {base:Heap}
abbrev Be:List Str:=["_law_number","_law_words_here"]
theorem qh:aG Be ["_law_number","_law_words_here"] (aj gK):=L2.g7
theorem ku {f:Addr} {fd:FuncData} (D:Df K mg "_law_operand" gK ["_law_number","_law_words_here"] f fd):cm P w K mg base "_law_operand" ["_law_number","_law_words_here"] 1 (b_ K 2 gM):=by
 refine D.ko (lU D.F qh rfl fun bE A outer s H E Ox hr ts q hG=>?_)
 have nd:=qh.nd
 have hu:=bx.iM hr
 refine ⟨_,(af (aP (mZ (VP.vr (aT (ae 0) (VP.vr ag))) (VP.vr ag))
    (ah (aH (VP.vx (aW (ae 1) (VP.vr (aT (VP.vr (a_ (ae 0) (VP.vr ag))) (VP.vr ag)))))))
    ax)
   (af (aP (bJ hu (VP.vr (aT (ae 0) (VP.vr ag))) (VP.vr ag))
     (ah (aH (VP.vx (ki (VP.vr (aT (VP.vr (bu (VP.vr (gm (VP.vr (gm (ae 0) (VP.vr ag))) (VP.vr (i6 (VP.vr ag) (VP.vr ag))))) (ae 0))) (VP.vr (gm (VP.vr ag) (VP.vr (i6 (VP.vr ag) (VP.vr ag))))))) (VP.vr (i6 (VP.vr ag) (VP.vr ag)))))))
     ax)
   (ah (aH (VP.vx (ki (VP.vr (aT (VP.vr (a_ (ae 0) (VP.vr ag))) (VP.vr ag))) (VP.vr ag))))))),fun _=>?_⟩
 obtain ⟨n,ys,rfl,yh,Qe,R0,hq⟩:=hG
 refine ⟨(by show (0:Int) < 3; decide),bX (fun _=>?_) (fun _=>?_)⟩
 · obtain ⟨y,hy,e⟩:=k9 yh (n:=n / 3) (m:=4) (by decide) (by decide)
   exact ⟨⟨by decide,by decide⟩,(by show (0:Int) < 4; decide),_,e,hq (.nm y) hy⟩
 · refine ⟨(by show (0:Int) < 15; decide),bX (fun _=>?_) (fun _=>?_)⟩
   · refine ⟨.inr ⟨by decide,by decide⟩,⟨by decide,by decide,by decide⟩,.inl ⟨by show -(2 ^ 64:Int) < n * 1000003; omega,by show n * 1000003 < (2 ^ 64:Int); omega⟩,⟨by decide,by decide,by decide⟩,.inl ⟨by decide,by decide⟩,(by show (0:Int) < 2 * 10 ^ (30:Int).toNat; decide),⟨by decide,by decide,by decide⟩,hq (.nu _) ?_⟩
     show -1000000000000000000000000000000≤(n * 1000003 * 10 ^ (20:Int).toNat+n) % (2 * 10 ^ (30:Int).toNat) - 10 ^ (30:Int).toNat∧(n * 1000003 * 10 ^ (20:Int).toNat+n) % (2 * 10 ^ (30:Int).toNat) - 10 ^ (30:Int).toNat < 1000000000000000000000000000000
     rw [PB]
     have h0:=lN (n * 1000003 * 10 ^ (20:Int).toNat+n) (show (2 * 1000000000000000000000000000000:Int)≠0 by decide)
     have h1:=nA (n * 1000003 * 10 ^ (20:Int).toNat+n) (show (0:Int) < 2 * 1000000000000000000000000000000 by decide)
     exact ⟨by omega,by omega⟩
   · refine ⟨⟨by decide,by decide⟩,(by show (0:Int) < 9; decide),hq (.nu _) ?_⟩
     show -1000000000000000000000000000000≤n / 3 % 9 - 4∧n / 3 % 9 - 4 < 1000000000000000000000000000000
     have h0:=lN (n / 3) (show (9:Int)≠0 by decide)
     have h1:=nA (n / 3) (show (0:Int) < 9 by decide)
     exact ⟨by omega,by omega⟩
abbrev Qf:List Str:=["_law_number","_law_words_here"]
theorem Ej:aG Qf ["_law_number","_law_words_here"] (aj v5):=L2.g7
theorem My {f:Addr} {fd:FuncData} (D:Df K mg "_law_key" v5 ["_law_number","_law_words_here"] f fd) (c1:cm P w K mg base "_law_operand" ["_law_number","_law_words_here"] 1 (b_ K 2 gM)):cm P w K mg base "_law_key" ["_law_number","_law_words_here"] 2 (b_ K 2 Qd):=by
 obtain ⟨jP,iu,bM,bN,bO,bP⟩:=c1
 refine D.ko (lU D.F Ej rfl fun bE A outer s H E Ox hr ts q hG=>?_)
 have nd:=Ej.nd
 have hu:=bx.iM hr
 refine ⟨_,(af (aP (bJ hu (VP.vr (aT (ae 0) (VP.vr ag))) (VP.vr ag))
    (ah (aH (VP.vx (bu (VP.vr aq) (VP.vr (aW (ae 1) (VP.vr (aT (VP.vr (a_ (ae 0) (VP.vr ag))) (VP.vr ag)))))))))
    ax)
   (ah (aH (VP.vx (aM bP (hr.mono (by decide)) (by rfl) bM bN bO (aa (VP.ve (a_ (ae 0) (VP.vr ag))) (aa (ak 1) ai))))))),fun _=>?_⟩
 obtain ⟨n,ys,rfl,yh,YY,Qe,R0,hq⟩:=hG
 refine ⟨(by show (0:Int) < 2; decide),bX (fun _=>?_) (fun _=>?_)⟩
 · obtain ⟨y,hy,e⟩:=k9 yh (n:=n / 2) (m:=2) (by decide) (by decide)
   refine ⟨⟨by decide,by decide⟩,(by show (0:Int) < 2; decide),_,e,?_,hq (.fld y) hy⟩
   rw [Uy,sizeLine_eq]
   have:=YY y hy
   omega
 · exact ⟨⟨by decide,by decide⟩,rfl,_,ys,rfl,yh,by show 0≤n / 2; omega,by show n / 2 < 2147483648; omega,fun o ho=>hq (.op o) ho⟩
abbrev Mz:List Str:=["_law_number","_law_name","_law_words_here","_law_later","_law_other","_law_parameters","_law_operands","_law_k"]
theorem zM:aG Mz ["_law_number","_law_name","_law_words_here","_law_later"] (aj s_call):=L2.g7
theorem HN {f:Addr} {fd:FuncData} (D:Df K mg "_law_call" s_call ["_law_number","_law_name","_law_words_here","_law_later"] f fd) (M:Mx mg) (c1:cm P w K mg base "_law_operand" ["_law_number","_law_words_here"] 1 (b_ K 2 gM)) :
  cm P w K mg base "_law_call" ["_law_number","_law_name","_law_words_here","_law_later"] 2 (b_ K 4 Jp):=by
 obtain ⟨jP,iu,bM,bN,bO,bP⟩:=c1
 refine D.ko (lU D.F zM rfl fun bE A outer s H E Ox hr ts q hG=>?_)
 have nd:=zM.nd
 have np:∀ {i:Nat},aY ⟨H,[],Ox⟩ i:=kJ
 refine ⟨_,(af (Li (VP.ve (aW (ae 3) (VP.vr (aT (ae 0) (VP.vr (ay az aA (by rfl) M.len iA (ao (ae 3) au))))))) (hU (n:=2) rfl (bz (bb (i:=4) nd rfl (Or.inl rfl) np) (bz (bb (i:=5) nd rfl (Or.inl rfl) np) e8))))
   (af (eU (i:=6) nd rfl (Or.inl rfl) (VP.vx (bW ai)) np)
   (af (dF BM rfl (fj (by rfl) M.range (VP.vr (ay az aA (by rfl) M.len iA (ao (ae 5) au)))) (bb (i:=7) nd rfl (Or.inl rfl) np)
     (ah (aX (cP 6 uA uB bf ba (aa (VP.ve (aM bP (hr.mono (by decide)) (by rfl) bM bN bO (aa (VP.ve (a_ (ae 0) (VP.vr (bu (VP.vr (ay az aA (by rfl) M.len iA (ao (ae 3) au))) (ae 7))))) (aa (ak 2) ai)))) ai)))))
   (ah (aH (VP.vx (aI (aa (VP.ve aq) (aa (ak 1) (aa (ak 4) (aa (VP.ve (dw j0 m9 (by rfl) M.tuple oh (ao (ae 6) au))) ai))))))))))),fun _=>?_⟩
 obtain ⟨n,x,ys,pl,rfl,yh,n8,YZ,RM,hx,Qe,R0,hq⟩:=hG
 have Y0:0 < pl.length:=by cases pl with | nil=>exact absurd rfl n8 | cons a r=>simp
 have eL:((pl.map bo).length:Int)=pl.length:=by rw [cu]
 have h0:0≤n % ((pl.map bo).length:Int):=lN n (by omega)
 have h1:n % ((pl.map bo).length:Int) < pl.length:=by rw [eL]; exact nA n (by omega)
 obtain ⟨j,hj⟩:=EU h0
 have RW:j < pl.length:=by omega
 obtain ⟨p,hp⟩:∃ p:Str×List Str,p=pl[j]:=⟨_,rfl⟩
 obtain ⟨fn,ps⟩:=p
 have Qg:(fn,ps)∈pl:=by rw [hp]; exact B1 RW
 have hps:ps.length≤4:=RM _ Qg
 refine ⟨(by show (0:Int) < ((pl.map bo).length:Int); omega),bo (fn,ps),?_,rfl,?_⟩
 · rw [hj]
   refine aB ?_
   rw [nV,lK RW,← hp]
   rfl
 refine ⟨rfl,kK _,by omega,by show ((ps.map T.str).length:Int) < 2 ^ 62; rw [cu]; omega,?_⟩
 refine fJ (fun k ρ=>∃ kv os as,ρ=[some (.int n,false),some (.str x,false),some (.lst (ys.map .str),false),some (.lst (pl.map bo),false),some (.str fn,false),some (.tup (ps.map .str),false),some (.lst os,true),kv]∧os=as.map qW∧as.length=k∧∀ a∈as,cQ ys a)
  ⟨none,[],[],rfl,rfl,rfl,fun _ z=>nomatch z⟩ ?_ ?_
 · rintro k ρ hk ⟨kv,_,as,rfl,rfl,rfl,jT⟩
   have Pr:as.length < ps.length:=by rw [cu,B0] at hk; exact hk
   clear hk
   refine ⟨⟨by show (0:Int) < ((pl.map bo).length:Int)+(0+(as.length:Int)); omega,by show ((pl.map bo).length:Int)+(0+(as.length:Int)) < 1073741824; omega⟩,rfl,_,ys,rfl,yh,?_,?_,fun o ho=>⟨?_,_,_,as ++ [o],rfl,?_,by simp,fun a ha=>?_⟩⟩
   · exact Int.ediv_nonneg Qe (by omega)
   · exact Int.lt_of_le_of_lt (Int.ediv_le_self _ Qe) R0
   · rw [cu,sizeLine_eq]; omega
   · rw [yL]; rfl
   · rcases iI.mp ha with z | z
     · exact jT a z
     · rw [wH.mp z]; exact ho
 · rintro ρ ⟨kv,_,as,rfl,rfl,hlen,jT⟩
   refine ⟨by show 4≤sizeLine; rw [sizeLine_eq]; decide,hq fn as ⟨hx,⟨ps,Qg,?_⟩,jT⟩⟩
   rw [hlen,cu]; rfl
end
theorem fits {n:Nat} (h:n≤1001):n < sizeLine:=by rw [sizeLine_eq]; omega
theorem kr {n:Nat} (h:n≤8):n≤sizeLine:=small (by omega)
def U5 (q:Rt→Prop) (n:Int) (ys:List Str) (pl:Plan) (y z:Str):FS:=fun d ρ=>(∃ wv,ρ=[some (.int n,false),some (.lst (ys.map .str),false),some (.lst (pl.map bo),false),some (.int (n % 13),false),some (.str y,false),some (.str z,false),some (.int (n / 208),false),wv])∧∀ ρ r,q r→d.rt ρ r
def Qh:GT:=fun ts q=>∃ (rs:List Rw) (bH:List Str) (c:Int) (ys:List Str) (pl:Plan),ts=[.lst (rs.map aV),.lst (bH.map .str),.int c,.lst (ys.map .str),.lst (pl.map bo)]∧Given ys pl∧rs.length≤1000∧bH.length≤1000 ∧
 ∀ new dn,ml ys pl bH new dn→q [.lst ((rs ++ new).map aV),.lst (dn.map .str)] (.vw .br)
section
variable {P:Program} {w:World} {K:PySem.W.Frag} {mg:Str→Option Value} {base:Heap}
abbrev Ek:List Str:=["_law_number","_law_words_here","_law_later","_law_kind","_law_name","_law_other","_law_rest","_law_word"]
theorem sg:aG Ek ["_law_number","_law_words_here","_law_later"] (aj jy):=L2.g7
theorem Bf {f:Addr} {fd:FuncData} (D:Df K mg "_law_simple" jy ["_law_number","_law_words_here","_law_later"] f fd) (c1:cm P w K mg base "_law_operand" ["_law_number","_law_words_here"] 1 (b_ K 2 gM))
  (c2:cm P w K mg base "_law_key" ["_law_number","_law_words_here"] 2 (b_ K 2 Qd)) (c3:cm P w K mg base "_law_call" ["_law_number","_law_name","_law_words_here","_law_later"] 2 (b_ K 4 Jp)) :
  cm P w K mg base "_law_simple" ["_law_number","_law_words_here","_law_later"] 3 (b_ K 3 zL):=by
 obtain ⟨jP,iu,bM,bN,bO,bP⟩:=c1
 obtain ⟨WM,U6,Jq,Jr,Js,Jt⟩:=c2
 obtain ⟨U7,R3,MA,MB,MD,ME⟩:=c3
 refine D.ko (lU D.F sg rfl fun bE A outer s H E Ox hr ts q hG=>?_)
 have nd:=sg.nd
 have hu:=bx.iM hr
 have np:∀ {i:Nat},aY ⟨H,[],Ox⟩ i:=kJ
 obtain ⟨n,ys,pl,rfl,G,Qe,R0,hq⟩:=hG
 obtain ⟨y,hy,ey⟩:=k9 G.y6 (n:=n / 13) (m:=4) (by decide) (by decide)
 obtain ⟨z,hz,ez⟩:=k9 G.y6 (n:=n / 52) (m:=4) (by decide) (by decide)
 refine ⟨_,(af (aL (i:=3) nd rfl (Or.inl rfl) (VP.vx (aT (ae 0) (VP.vr ag))) np)
   (af (aL (i:=4) nd rfl (Or.inl rfl) (VP.vx (aW (ae 1) (VP.vr (aT (VP.vr (a_ (ae 0) (VP.vr ag))) (VP.vr ag))))) np)
   (af (aL (i:=5) nd rfl (Or.inl rfl) (VP.vx (aW (ae 1) (VP.vr (aT (VP.vr (a_ (ae 0) (VP.vr ag))) (VP.vr ag))))) np)
   (af (aL (i:=6) nd rfl (Or.inl rfl) (VP.vx (a_ (ae 0) (VP.vr ag))) np)
   (af (aP (i7 (ae 3) (VP.vr ag))
     (ah (aH (VP.vx (aI (aa (VP.ve aq) (aa (ak 4) (aa (VP.ve (aM bP (hr.mono (by decide)) (by rfl) bM bN bO (aa (ak 6) (aa (ak 1) ai)))) ai)))))))
     ax)
   (af (aP (i7 (ae 3) (VP.vr ag))
     (af (aL (i:=7) nd rfl (Or.inl rfl) (VP.vx (aW (VP.vr (bW (aa (VP.ve aq) (aa (VP.ve aq) (aa (VP.ve aq) (aa (VP.ve aq) (aa (VP.ve aq) (aa (VP.ve aq) (aa (VP.ve aq) ai))))))))) (VP.vr (aT (ae 6) (VP.vr ag))))) np)
     (ah (aH (VP.vx (aI (aa (VP.ve aq) (aa (ak 4) (aa (VP.ve (aM bP (hr.mono (by decide)) (by rfl) bM bN bO (aa (VP.ve (a_ (ae 6) (VP.vr ag))) (aa (ak 1) ai)))) (aa (ak 7) (aa (VP.ve (aM bP (hr.mono (by decide)) (by rfl) bM bN bO (aa (VP.ve (a_ (ae 6) (VP.vr ag))) (aa (ak 1) ai)))) ai))))))))))
     ax)
   (af (aP (bJ hu (ae 3) (VP.vr ag))
     (ah (aH (VP.vx (aI (aa (VP.ve aq) (aa (ak 4) ai))))))
     ax)
   (af (aP (i7 (ae 3) (VP.vr ag))
     (ah (aH (VP.vx (aI (aa (VP.ve aq) (aa (ak 4) (aa (ak 5) (aa (VP.ve (aM Jt (hr.mono (by decide)) (by rfl) Jq Jr Js (aa (ak 6) (aa (ak 1) ai)))) ai))))))))
     ax)
   (af (aP (i7 (ae 3) (VP.vr ag))
     (ah (aH (VP.vx (aI (aa (VP.ve aq) (aa (ak 5) (aa (VP.ve (aM Jt (hr.mono (by decide)) (by rfl) Jq Jr Js (aa (ak 6) (aa (ak 1) ai)))) (aa (VP.ve (aM bP (hr.mono (by decide)) (by rfl) bM bN bO (aa (VP.ve (a_ (ae 6) (VP.vr ag))) (aa (ak 1) ai)))) ai))))))))
     ax)
   (af (aP (VW.vc (ei (bJ hu (ae 3) (VP.vr ag)) (dc (kW hu (ae 2) (VP.vr (bW ai))))))
     (ah (aH (VP.vx (aM ME (hr.mono (by decide)) (by rfl) MA MB MD (aa (ak 6) (aa (ak 4) (aa (ak 1) (aa (ak 2) ai))))))))
     ax)
   (jE.weak (u:=(U5 q n ys pl y z)) (af (aP (VW.vc (ei (bJ hu (ae 3) (VP.vr ag)) (dc (bJ hu (VP.vr (aT (ae 6) (VP.vr ag))) (VP.vr ag)))))
     (ah (aH (VP.vx (aI (aa (VP.ve aq) (aa (VP.ve (aW (ae 1) (VP.vr (bu (VP.vr ag) (VP.vr (aT (VP.vr (a_ (ae 6) (VP.vr ag))) (VP.vr ag))))))) ai))))))
     ax)
   (af (aP (VW.vc (ei (bJ hu (ae 3) (VP.vr ag)) (dc (bJ hu (VP.vr (aT (ae 6) (VP.vr ag))) (VP.vr ag)))))
     (ah (aH (VP.vx (aI (aa (VP.ve aq) ai)))))
     ax)
   (ah (aH (VP.vx (aI (aa (VP.ve aq) (aa (ak 4) (aa (ak 5) ai))))))))) ?w_cutS))))))))))),fun _=>?_⟩
 case w_cutS =>
  rintro d ρ ⟨⟨wv,rfl⟩,kk⟩
  have fin:=kk
  refine bX (fun _=>?_) (fun _=>?_)
  · refine ⟨(by show (0:Int) < 3; decide),bX (fun _=>?_) (fun _=>?_)⟩
    · obtain ⟨x,hx,ex⟩:=L1 G.y6 (n / 208 / 3)
      exact ⟨⟨by decide,by decide⟩,(by show (0:Int) < 2; decide),_,ex,kr (by simp),kk _ _ (hq (.fail x) hx)⟩
    · refine bX (fun _=>?_) (fun _=>⟨kr (by simp),kk _ _ (hq (.put y (.nm z)) ⟨hy,hz⟩)⟩)
      exact ⟨(by show (0:Int) < 2; decide),bX (fun _=>⟨kr (by simp),kk _ _ (hq .skip trivial)⟩) (fun _=>⟨kr (by simp),kk _ _ (hq (.put y (.nm z)) ⟨hy,hz⟩)⟩)⟩
  · refine ff rfl (bX (fun _=>?_) (fun _=>ff rfl ⟨kr (by simp),kk _ _ (hq (.put y (.nm z)) ⟨hy,hz⟩)⟩))
    exact ⟨(by show (0:Int) < 2; decide),bX (fun _=>⟨kr (by simp),kk _ _ (hq .skip trivial)⟩) (fun _=>⟨kr (by simp),kk _ _ (hq (.put y (.nm z)) ⟨hy,hz⟩)⟩)⟩
 have m0:0≤n / 208:=by omega
 have m1:n / 208 < 2147483648:=by omega
 have dv:∀ e:Int,0 < e→0≤n / 208 / e∧n / 208 / e < 2147483648:=fun e he=>⟨Int.ediv_nonneg m0 (by omega),Int.lt_of_le_of_lt (Int.ediv_le_self _ m0) m1⟩
 refine ⟨(by show (0:Int) < 13; decide),⟨by decide,by decide⟩,(by show (0:Int) < 4; decide),_,ey,⟨by decide,by decide⟩,(by show (0:Int) < 4; decide),_,ez,⟨by decide,by decide⟩,?_⟩
 refine bX (fun _=>?_) (fun _=>?_)
 · exact ⟨rfl,_,ys,rfl,G.y6,m0,m1,fun o ho=>⟨kr (by simp),hq (.put y o) ⟨hy,ho⟩⟩⟩
 refine bX (fun _=>?_) (fun _=>?_)
 · obtain ⟨op,Y1,Y2⟩:=PF (n / 208)
   exact ⟨kr (by simp),(by show (0:Int) < 7; decide),_,Y2,⟨by decide,by decide⟩,rfl,_,ys,rfl,G.y6,(dv 7 (by decide)).1,(dv 7 (by decide)).2,fun o ho=>⟨⟨by decide,by decide⟩,rfl,_,ys,rfl,G.y6,(dv 420 (by decide)).1,(dv 420 (by decide)).2,fun o2 BQ=>⟨kr (by simp),hq (.Dk y o op o2) ⟨hy,ho,Y1,BQ⟩⟩⟩⟩
 refine bX (fun _=>⟨kr (by simp),hq (.new y) hy⟩) (fun _=>?_)
 refine bX (fun _=>?_) (fun _=>?_)
 · exact ⟨rfl,_,ys,rfl,G.y6,G.sm,m0,m1,fun k hk=>⟨kr (by simp),hq (.get y z k) ⟨hy,hz,hk⟩⟩⟩
 refine bX (fun _=>?_) (fun _=>?_)
 · exact ⟨rfl,_,ys,rfl,G.y6,G.sm,m0,m1,fun k hk=>⟨⟨by decide,by decide⟩,rfl,_,ys,rfl,G.y6,(dv 90 (by decide)).1,(dv 90 (by decide)).2,fun o ho=>⟨kr (by simp),hq (.set z k o) ⟨hz,hk,ho⟩⟩⟩⟩
 refine bX (fun _=>?_) (fun _=>ff rfl ⟨⟨_,rfl⟩,fun _ _ h=>h⟩)
 refine ⟨kK _,vz pl,rfl,Az pl,?_⟩
 cases pl with
 | nil=>exact ff rfl ⟨⟨_,rfl⟩,fun _ _ h=>h⟩
 | cons p pl=>exact LA rfl ⟨rfl,_,y,ys,p :: pl,rfl,G.y6,by simp,G.p3,G.p4,hy,m0,m1,fun fn as hs=>hq _ hs⟩
end
def El (q:List T→Rt→Prop) (rs:List Rw) (bH:List Str) (c n mv:Int) (ys:List Str) (pl:Plan):FS:=fun d ρ=>(∃ nv,ρ=[some (.lst (rs.map aV),true),some (.lst (bH.map .str),true),some (.int c,false),some (.lst (ys.map .str),false),some (.lst (pl.map bo),false),some (.int n,false),some (.int mv,false),nv]) ∧
 ∀ ρ,q (md [true,true,false,false,false] ρ) (.vw .br)→d.nx ρ
theorem qi (l:List Str):plainT (.lst (l.map .str))=true:=by simp only [plainT]; exact hY (fun _=>by simp [plainT]) l
theorem wc (l:List Str):dep (.lst (l.map .str))≤100:=by have:=fL (f:=T.str) (n:=0) (fun _=>by simp [dep]) l; simp only [dep]; omega
section
variable {P:Program} {w:World} {K:PySem.W.Frag} {mg:Str→Option Value} {base:Heap}
abbrev Qi:List Str:=["_law_rows","_law_stack","_law_cell","_law_words_here","_law_later","_law_number","_law_move","_law_name"]
theorem Em:aG Qi ["_law_rows","_law_stack","_law_cell","_law_words_here","_law_later"] (aj v7):=L2.g7
theorem MF {f:Addr} {fd:FuncData} (D:Df K mg "_law_lay" v7 ["_law_rows","_law_stack","_law_cell","_law_words_here","_law_later"] f fd) (M:Mx mg) (c1:cm P w K mg base "_law_operand" ["_law_number","_law_words_here"] 1 (b_ K 2 gM))
  (c2:cm P w K mg base "_law_simple" ["_law_number","_law_words_here","_law_later"] 3 (b_ K 3 zL)) :
  cm P w K mg base "_law_lay" ["_law_rows","_law_stack","_law_cell","_law_words_here","_law_later"] 4 (qL K [true,true,false,false,false] Qh):=by
 obtain ⟨jP,iu,bM,bN,bO,bP⟩:=c1
 obtain ⟨Qj,Ny,Eo,Ep,Er,Es⟩:=c2
 refine D.ko (TV D.F Em rfl fun bE A outer s H E as Ox hr ts q hl hG=>?_)
 have nd:=Em.nd
 have hu:=bx.iM hr
 obtain ⟨rs,bH,c,ys,pl,rfl,G,hr1,Mt,hq⟩:=hG
 have n0:0≤c / 8 * 48271 % 2147483647:=lN _ (by decide)
 have n1:c / 8 * 48271 % 2147483647 < 2147483647:=nA _ (by decide)
 have n2:c / 8 * 48271 % 2147483647 < 2147483648:=by omega
 have d3:0≤c / 8 * 48271 % 2147483647 / 3∧c / 8 * 48271 % 2147483647 / 3 < 2147483648:=⟨by omega,by omega⟩
 have Bg:(rs.map aV).length < sizeLine:=by rw [cu]; exact fits (by omega)
 have Qk:(bH.map T.str).length < sizeLine:=by rw [cu]; exact fits (by omega)
 have one:∀ {r:Rw} {dn:List Str},ml ys pl bH [r] dn→q [.lst (rs.map aV ++ [aV r]),.lst (dn.map .str)] (.vw .br):=fun {r dn} h=>by
  have:=hq [r] dn h
  rw [yL] at this
  exact this
 have push:∀ x:Str,(bH ++ [x]).map T.str=bH.map T.str ++ [T.str x]:=fun x=>by rw [yL]; rfl
 refine ⟨_,(af (aL (i:=5) nd rfl (Or.inl rfl) (VP.vx (aT (VP.vr (gm (VP.vr (a_ (ae 2) (VP.vr ag))) (VP.vr ag))) (VP.vr ag))) (CY (by decide)))
   (af (aL (i:=6) nd rfl (Or.inl rfl) (VP.vx (aT (ae 2) (VP.vr ag))) (CY (by decide)))
   (jE.weak (u:=(El q rs bH c (c / 8 * 48271 % 2147483647) (c % 8) ys pl)) (ah (aP (VW.vc (ei (bJ hu (ae 6) (VP.vr ag)) (dc (i7 (VP.vr (ay az aA (by rfl) M.len iA (ao (ae 1) au))) (VP.vr ag)))))
     (af (aX (cP 0 uA uB bf ba (aa (VP.ve (aI (aa (VP.ve aq) (aa (VP.ve (aM bP (hr.mono (by decide)) (by rfl) bM bN bO (aa (ak 5) (aa (ak 3) ai)))) ai)))) ai)))
     (ah (aX (cP 1 uA uB bf ba (aa (VP.ve aq) ai)))))
     (jE.weak (u:=(El q rs bH c (c / 8 * 48271 % 2147483647) (c % 8) ys pl)) (ah (aP (VW.vc (ei (bJ hu (ae 6) (VP.vr ag)) (dc (i7 (VP.vr (ay az aA (by rfl) M.len iA (ao (ae 1) au))) (VP.vr ag)))))
       (af (aX (cP 1 uA uB bf ba (aa (VP.ve aq) ai)))
       (ah (aP (bJ hu (VP.vr (aT (ae 5) (VP.vr ag))) (VP.vr ag))
         (ah (aX (cP 0 uA uB bf ba (aa (VP.ve (aI (aa (VP.ve aq) (aa (VP.ve (aM bP (hr.mono (by decide)) (by rfl) bM bN bO (aa (VP.ve (a_ (ae 5) (VP.vr ag))) (aa (ak 3) ai)))) ai)))) ai))))
         (af (aL (i:=7) nd rfl (Or.inl rfl) (VP.vx (aW (ae 3) (VP.vr (aT (VP.vr (a_ (ae 5) (VP.vr ag))) (VP.vr ag))))) (CY (by decide)))
         (af (aX (cP 0 uA uB bf ba (aa (VP.ve (aI (aa (VP.ve aq) (aa (ak 7) ai)))) ai)))
         (ah (aX (cP 0 uA uB bf ba (aa (VP.ve (aI (aa (VP.ve aq) (aa (ak 7) (aa (ak 7) (aa (VP.ve aq) (aa (VP.ve ag) ai))))))) ai)))))))))
       (jE.weak (u:=(El q rs bH c (c / 8 * 48271 % 2147483647) (c % 8) ys pl)) (ah (aP (VW.vc (ei (bJ hu (ae 6) (VP.vr ag)) (ei (kW hu (ae 1) (VP.vr (bW ai))) (dc (bJ hu (VP.vr (aW (ae 1) (VP.vr (kj (VP.vr ag))))) (VP.vr aq))))))
         (af (aX (cP 0 uA uB bf ba (aa (VP.ve (aI (aa (VP.ve aq) ai))) ai)))
         (ah (xj 1 (VP.ve aq) (VP.vr (kj (VP.vr ag))))))
         (jE.weak (u:=(El q rs bH c (c / 8 * 48271 % 2147483647) (c % 8) ys pl)) (ah (aP (VW.vc (ei (bJ hu (ae 6) (VP.vr ag)) (dc (kW hu (ae 1) (VP.vr (bW ai))))))
           (af (aX (cP 0 uA uB bf ba (aa (VP.ve (aI (aa (VP.ve aq) ai))) ai)))
           (ah (aX (CK 1 PySem.F.slot_list_pop PySem.F.type_list_pop Cp zc))))
           (jE.weak (u:=(El q rs bH c (c / 8 * 48271 % 2147483647) (c % 8) ys pl)) (ah (aX (cP 0 uA uB bf ba (aa (VP.ve (aM Es (hr.mono (by decide)) (by rfl) Eo Ep Er (aa (ak 5) (aa (ak 3) (aa (ak 4) ai))))) ai)))) ?w5))) ?w4))) ?w3))) ?w2))) ?w1))),?_⟩
 case w5 =>
  rintro d ρ ⟨⟨nv,rfl⟩,kk⟩
  exact ⟨rfl,_,ys,pl,rfl,G,n0,n2,fun r hs=>⟨Bg,kk _ (one (.inr (.inr (.inr (.inr (.inr ⟨r,hs,rfl,rfl⟩))))))⟩⟩
 case w4 =>
  rintro d ρ ⟨⟨nv,rfl⟩,kk⟩
  refine bX (fun _=>?_) (fun _=>ff rfl ⟨⟨nv,rfl⟩,kk⟩)
  refine ⟨kK _,qi bH,rfl,wc bH,?_⟩
  rcases Q8 bH with e | ⟨s0,x,e⟩
  · subst e; exact ff rfl ⟨⟨nv,rfl⟩,kk⟩
  · have en:eqT (.lst (bH.map .str)) (.lst [])=false:=by rw [e]; cases s0 <;> simp [eqT,fD]
    refine LA (by show (!eqT (.lst (bH.map .str)) (.lst []))=true; rw [en]; rfl) ⟨kr (by simp),Bg,rfl,T.str x,?_,?_⟩
    · rw [e]; simp
    · have e2:(bH.map T.str).dropLast=s0.map T.str:=by rw [e]; simp
      refine kk _ ?_
      show q [.lst (rs.map aV ++ [aV .fin]),.lst ((bH.map T.str).dropLast)] _
      rw [e2]
      exact one (.inr (.inr (.inr (.inr (.inl ⟨s0,x,by rw [e,R9],rfl,rfl⟩)))))
 case w3 =>
  rintro d ρ ⟨⟨nv,rfl⟩,kk⟩
  refine bX (fun _=>?_) (fun _=>ff rfl ⟨⟨nv,rfl⟩,kk⟩)
  refine ⟨kK _,qi bH,rfl,wc bH,?_⟩
  rcases Q8 bH with e | ⟨s0,x,e⟩
  · subst e; exact ff rfl (ff rfl ⟨⟨nv,rfl⟩,kk⟩)
  · have en:eqT (.lst (bH.map .str)) (.lst [])=false:=by rw [e]; cases s0 <;> simp [eqT,fD]
    have ex:lQ (bH.map T.str) (-1)=some (T.str x):=by rw [e,R9,yL]; exact uO _ _
    refine LA (by show (!eqT (.lst (bH.map .str)) (.lst []))=true; rw [en]; rfl) ⟨_,ex,bX (fun hx=>?_) (fun _=>⟨⟨nv,rfl⟩,kk⟩)⟩
    have BV:x="if":=hx
    subst BV
    have GL:(bH.map T.str).length=s0.length+1:=by rw [e]; simp
    refine ⟨kr (by simp),Bg,s0.length,?_,kk _ ?_⟩
    · unfold yV
      rw [GL,if_neg (by decide),if_pos (by omega)]
      congr 1
      omega
    · have e2:(bH.map T.str).set s0.length (T.str "else")=(s0 ++ ([("else" : Str)]:List Str)).map T.str:=by rw [e]; simp
      show q [.lst (rs.map aV ++ [aV .RK]),.lst ((bH.map T.str).set s0.length (T.str "else"))] _
      rw [e2]
      exact one (.inr (.inr (.inr (.inl ⟨s0,by rw [e]; simp,rfl,rfl⟩))))
 case w2 =>
  rintro d ρ ⟨⟨nv,rfl⟩,kk⟩
  refine bX (fun _=>?_) (fun _=>ff rfl ⟨⟨nv,rfl⟩,kk⟩)
  refine bX (fun _=>?_) (fun _=>⟨⟨nv,rfl⟩,kk⟩)
  refine ⟨Qk,(by show (0:Int) < 3; decide),bX (fun _=>?_) (fun _=>?_)⟩
  · refine ⟨⟨by decide,by decide⟩,rfl,_,ys,rfl,G.y6,d3.1,d3.2,fun o ho=>⟨kr (by simp),Bg,kk _ ?_⟩⟩
    have:=one (r:=.Ax o) (.inr (.inl ⟨o,ho,rfl,rfl⟩))
    rw [push] at this
    exact this
  · obtain ⟨y,hy,ey⟩:=k9 G.y6 (n:=c / 8 * 48271 % 2147483647 / 3) (m:=4) (by decide) (by decide)
    refine ⟨⟨by decide,by decide⟩,(by show (0:Int) < 4; decide),_,ey,kr (by simp),Bg,kr (by simp),?_,kk _ ?_⟩
    · rw [nU,cu]; exact fits (by simp; omega)
    · have:=hq [.Ax (.nm y),.Dk y (.nm y) "minus" (.nu 1)] _ (.inr (.inr (.inl ⟨y,hy,rfl,rfl⟩)))
      rw [push,yL] at this
      show q [.lst ((rs.map aV ++ [aV (.Ax (.nm y))]) ++ [aV (.Dk y (.nm y) "minus" (.nu 1))]),_] _
      rw [EV]
      exact this
 case w1 =>
  rintro d ρ ⟨⟨nv,rfl⟩,kk⟩
  refine bX (fun _=>?_) (fun _=>ff rfl ⟨⟨nv,rfl⟩,kk⟩)
  refine bX (fun _=>?_) (fun _=>⟨⟨nv,rfl⟩,kk⟩)
  refine ⟨rfl,_,ys,rfl,G.y6,n0,n2,fun o ho=>⟨kr (by simp),Bg,Qk,kk _ ?_⟩⟩
  have:=one (r:=.LZ o) (.inl ⟨o,ho,rfl,rfl⟩)
  rw [push] at this
  exact this
 exact ⟨⟨by decide,by decide⟩,.inr ⟨by decide,by decide⟩,(by show (0:Int) < 2147483647; decide),(by show (0:Int) < 8; decide),⟨none,rfl⟩,fun _ h=>h⟩
end
def Ju (ts:List T) (q:Rt→Prop):Prop:=∃ (c:Int) (ys:List Str),ts=[.int c,.lst (ys.map .str)]∧ys.length=6∧∀ pl,mn ys pl→1≤pl.length→pl.length≤3→q (.fr (.lst (pl.map bo)))
section
variable {P:Program} {w:World} {K:PySem.W.Frag} {mg:Str→Option Value} {base:Heap}
abbrev Et:List Str:=["_law_cell","_law_words_here","_law_number","_law_plan_here","_law_k","_law_parameters"]
theorem zN:aG Et ["_law_cell","_law_words_here"] (aj qe):=L2.g7
theorem yi:(Et ++ (["_law_j"]:List Str)).Nodup:=by decide +kernel
theorem HP {f:Addr} {fd:FuncData} (D:Df K mg "_law_plan" qe ["_law_cell","_law_words_here"] f fd) (M:Mx mg):cm P w K mg base "_law_plan" ["_law_cell","_law_words_here"] 1 (b_ K 2 Ju):=by
 refine D.ko (lU D.F zN rfl fun bE A outer s H E Ox hr ts q hG=>?_)
 have nd:=zN.nd
 have np:∀ {i:Nat},aY ⟨H,[],Ox⟩ i:=kJ
 refine ⟨_,(af (aL (i:=2) nd rfl (Or.inr rfl) (VP.vx (aT (ae 0) (VP.vr (i6 (VP.vr ag) (VP.vr ag))))) np)
   (af (eU (i:=3) nd rfl (Or.inl rfl) (VP.vx (bW ai)) np)
   (af (dF BM rfl (fj (by rfl) M.range (VP.vr (bu (VP.vr ag) (VP.vr (aT (ae 2) (VP.vr ag)))))) (bb (i:=4) nd rfl (Or.inl rfl) np)
     (af (aL (i:=2) nd rfl (Or.inr rfl) (VP.vx (aT (VP.vr (bu (VP.vr (bu (VP.vr (gm (ae 2) (ae 2))) (VP.vr (gm (VP.vr ag) (ae 2))))) (ae 4))) (VP.vr ag))) np)
     (af (Gr (i:=5) (ts:=["_law_j"]) nd rfl (Or.inl rfl) rfl (by rfl) (fj (by rfl) M.range (VP.vr (aT (ae 2) (VP.vr ag)))) (fun _ _ _ _ _ _=>(bb (i:=6) yi rfl (Or.inl rfl) np)) (fun _ _ _ _ _ _=>kX) (fun _ _ _ _ _ _=>(VP.ve (aW (ae 1) (VP.vr (aT (VP.vr (bu (VP.vr (a_ (ae 2) (VP.vr ag))) (ae 6))) (VP.vr ag)))))) np)
     (ah (aX (cP 3 uA uB bf ba (aa (VP.ve (aI (aa (VP.ve (aW (ae 1) (ae 4))) (aa (VP.ve (dw j0 m9 (by rfl) M.tuple oh (ao (ae 5) au))) ai)))) ai)))))))
   (ah (aH (g_ 3 np)))))),fun _=>?_⟩
 obtain ⟨c,ys,rfl,yh,hq⟩:=hG
 refine ⟨⟨by decide,by decide,by decide⟩,(by show (0:Int) < 10 ^ (9:Int).toNat; decide),kK _,(by show (0:Int) < 3; decide),?_⟩
 have m0:0≤c % (10:Int) ^ (9:Int).toNat:=lN _ (by decide)
 have m1:c % (10:Int) ^ (9:Int).toNat < 1000000000:=by rw [PC]; exact nA _ (by decide)
 have t0:0≤c % (10:Int) ^ (9:Int).toNat % 3:=lN _ (by decide)
 have t1:c % (10:Int) ^ (9:Int).toNat % 3 < 3:=nA _ (by decide)
 refine ⟨(by show -(2 ^ 62:Int)≤1+c % 10 ^ (9:Int).toNat % 3; omega),(by show 1+c % 10 ^ (9:Int).toNat % 3 < (2 ^ 62:Int); omega),?_⟩
 refine fJ (fun k ρ=>∃ n kv pv ts pl,ρ=[some (.int c,false),some (.lst (ys.map .str),false),some (.int n,false),some (.lst ts,true),kv,pv]∧ts=pl.map bo∧0≤n∧n < 2147483648∧pl.length=k∧mn ys pl)
  ⟨_,none,none,_,[],rfl,rfl,m0,by omega,rfl,fun k f ps e=>by simp at e⟩ ?_ ?_
 · rintro k ρ hk ⟨n,kv,pv,_,pl,rfl,rfl,p0,p1,rfl,bD⟩
   have Y3:pl.length < 3:=by omega
   refine ⟨.inl ⟨by omega,by omega⟩,.inl ⟨by decide,by decide⟩,(by show (0:Int) < 2147483647; decide),rfl,(by show (0:Int) < 3; decide),?_⟩
   have g0:0≤(n * n+48271 * n+(0+(pl.length:Int))) % 2147483647:=lN _ (by decide)
   have g1:(n * n+48271 * n+(0+(pl.length:Int))) % 2147483647 < 2147483647:=nA _ (by decide)
   have u0:0≤(n * n+48271 * n+(0+(pl.length:Int))) % 2147483647 % 3:=lN _ (by decide)
   have u1:(n * n+48271 * n+(0+(pl.length:Int))) % 2147483647 % 3 < 3:=nA _ (by decide)
   refine ⟨(by show -(2 ^ 62:Int)≤(n * n+48271 * n+(0+(pl.length:Int))) % 2147483647 % 3; omega),(by show (n * n+48271 * n+(0+(pl.length:Int))) % 2147483647 % 3 < (2 ^ 62:Int); omega),?_⟩
   refine ⟨by rw [o9]; exact small (by show ((n * n+48271 * n+(0+(pl.length:Int))) % 2147483647 % 3).toNat≤1000; omega),?_⟩
   refine jF (fun _=>true) (fun t=>match t with | .int j=>.str (ys.getD (((n * n+48271 * n+(0+(pl.length:Int))) % 2147483647 / 3+j) % 4).toNat Str.empty) | _=>.br) ?_ ?_
   · intro t ht _ r hr
     obtain ⟨i,hi,e⟩:=List.mem_iff_getElem.mp ht
     obtain ⟨_,rfl⟩:=o_ (by rw [lK hi,e]:(rangeT _ _)[i]?=some t)
     rw [if_pos rfl] at hr
     exact ⟨⟨by decide,by decide⟩,(by show (0:Int) < 4; decide),_,Dl yh _,hr⟩
   · generalize JP:(n * n+48271 * n+(0+(pl.length:Int))) % 2147483647=n' at g0 g1 u0 u1
     have WN:pl.length < ys.length:=by omega
     have ek:lQ (ys.map T.str) (0+(pl.length:Int))=some (T.str ys[pl.length]):=by
      rw [Int.zero_add]
      refine aB ?_
      rw [nV,lK WN]
      rfl
     have Y4:(((rangeT 0 (n' % 3).toNat).filter fun _=>true).map fun t=>match t with | .int j=>T.str (ys.getD ((n' / 3+j) % 4).toNat Str.empty) | _=>.br)=((List.range (n' % 3).toNat).map fun j=>ys.getD ((n' / 3+((j:Nat):Int)) % 4).toNat Str.empty).map T.str:=by
      unfold rangeT
      rw [Q_.mpr (fun _ _=>rfl),List.map_map,List.map_map]
      apply List.map_congr_left
      intro j _
      show T.str (ys.getD ((n' / 3+(0+(j:Int))) % 4).toNat Str.empty)=T.str (ys.getD ((n' / 3+(j:Int)) % 4).toNat Str.empty)
      rw [Int.zero_add]
     rw [Y4]
     refine ⟨_,ek,kr (by simp),by rw [cu]; exact fits (by omega),n',_,_,_,pl ++ [(ys[pl.length],(List.range (n' % 3).toNat).map fun j=>ys.getD ((n' / 3+((j:Nat):Int)) % 4).toNat Str.empty)],rfl,?_,g0,by omega,by simp,?_⟩
     · rw [yL]; rfl
     · intro k' f' Nu e
       by_cases gj:k' < pl.length
       · rw [uz gj] at e
         exact bD k' f' Nu e
       · by_cases he:k'=pl.length
         · subst he
           rw [BL (d8 _),Nat.sub_self] at e
           simp only [Q2,Option.some.injEq,Prod.mk.injEq] at e
           obtain ⟨e1,e2⟩:=e
           subst e1 e2
           exact ⟨lK WN,n' / 3,(n' % 3).toNat,by omega,rfl⟩
         · rw [List.getElem?_eq_none (by simp; omega)] at e
           cases e
 · rintro ρ ⟨n,kv,pv,_,pl,rfl,rfl,p0,p1,hlen,bD⟩
   exact hq pl bD (by omega) (by omega)
end
def we (ts:List T) (q:Rt→Prop):Prop:=∃ (ns:List Int) (ys:List Str) (pl:Plan),ts=[.lst (ns.map .int),.lst (ys.map .str),.lst (pl.map bo)]∧ns.length≤63∧Given ys pl∧1≤pl.length ∧
 ∀ rs,Pre ys pl pl.length rs→rs.length≤60→q (.fr (.lst (rs.map aV)))
theorem zO {α:Type} (f:α→T) (ns:List α) (lo hi:Option Int):∃ ms:List α,nG (ns.map f) lo hi=ms.map f∧ms.length≤ns.length:=by
 unfold nG
 rw [cu,← List.map_drop,← List.map_take]
 refine ⟨_,rfl,?_⟩
 rw [EW,Ij]
 omega
theorem Eu {α:Type} (f:α→T) (ts:List α) (k:Nat) (h:k≤ts.length):nG (ts.map f) (some (k:Int)) none=(ts.drop k).map f:=by
 unfold nG
 rw [cu,HT.sJ,HT.uM,Nat.min_eq_left h,← List.map_drop,← List.map_take,Nd (by rw [Ij]; omega)]
theorem ints_map:∀ ms:List Int,intsOf (ms.map T.int)=some ms
 | []=>rfl
 | m :: ms=>by simp only [jY,intsOf,ints_map ms]; rfl
section
variable {P:Program} {w:World} {K:PySem.W.Frag} {mg:Str→Option Value} {base:Heap}
abbrev Bh:List Str:=["_law_cells","_law_words_here","_law_plan_here","_law_rows","_law_k","_law_stack","_law_start","_law_stop","_law_share","_law_cell","_law_word"]
theorem qj:aG Bh ["_law_cells","_law_words_here","_law_plan_here"] (aj gL):=L2.g7
theorem yj {f:Addr} {fd:FuncData} (D:Df K mg "_law_program" gL ["_law_cells","_law_words_here","_law_plan_here"] f fd) (M:Mx mg) (c1:cm P w K mg base "_law_operand" ["_law_number","_law_words_here"] 1 (b_ K 2 gM))
  (c2:cm P w K mg base "_law_lay" ["_law_rows","_law_stack","_law_cell","_law_words_here","_law_later"] 4 (qL K [true,true,false,false,false] Qh)) :
  cm P w K mg base "_law_program" ["_law_cells","_law_words_here","_law_plan_here"] 5 (b_ K 3 we):=by
 obtain ⟨jP,iu,bM,bN,bO,bP⟩:=c1
 obtain ⟨WO,U8,Ql,Qm,Qn,Qo⟩:=c2
 refine D.ko (lU D.F qj rfl fun bE A outer s H E Ox hr ts q hG=>?_)
 have nd:=qj.nd
 have hu:=bx.iM hr
 have np:∀ {i:Nat},aY ⟨H,[],Ox⟩ i:=kJ
 have U9:∀ {is:List Nat},∀ i∈is,aY ⟨H,[],Ox⟩ i:=fun i _=>kJ
 obtain ⟨ns,ys,pl,rfl,KS,G,X4,hq⟩:=hG
 refine ⟨_,(af (eU (i:=3) nd rfl (Or.inl rfl) (VP.vx (bW ai)) np)
   (af (dF BM rfl (fj (by rfl) M.range (VP.vr (ay az aA (by rfl) M.len iA (ao (ae 2) au)))) (bb (i:=4) nd rfl (Or.inl rfl) np)
     (af (aX (cP 3 uA uB bf ba (aa (VP.ve (aI (aa (VP.ve aq) (aa (VP.ve (aW (VP.vr (aW (ae 2) (ae 4))) (VP.vr ag))) (aa (VP.ve (aW (VP.vr (aW (ae 2) (ae 4))) (VP.vr ag))) ai))))) ai)))
     (af (eU (i:=5) nd rfl (Or.inl rfl) (VP.vx (bW ai)) np)
     (af (aL (i:=6) nd rfl (Or.inl rfl) (VP.vx (a_ (VP.vr (gm (ae 4) (VP.vr (ay az aA (by rfl) M.len iA (ao (ae 0) au))))) (VP.vr (ay az aA (by rfl) M.len iA (ao (ae 2) au))))) np)
     (af (aL (i:=7) nd rfl (Or.inl rfl) (VP.vx (a_ (VP.vr (gm (VP.vr (bu (ae 4) (VP.vr ag))) (VP.vr (ay az aA (by rfl) M.len iA (ao (ae 0) au))))) (VP.vr (ay az aA (by rfl) M.len iA (ao (ae 2) au))))) np)
     (af (aL (i:=8) nd rfl (Or.inl rfl) (VP.vx (i8 (ae 0) (jD (ae 6)) (jD (ae 7)))) np)
     (af (dF BM rfl (oP (ak 8)) (bb (i:=9) nd rfl (Or.inl rfl) np)
       (ah (aP (i7 (VP.vr (bu (VP.vr (ay az aA (by rfl) M.len iA (ao (ae 3) au))) (VP.vr (ay az aA (by rfl) M.len iA (ao (ae 5) au))))) (VP.vr (ki (VP.vr ag) (VP.vr (gm (VP.vr ag) (VP.vr (ki (VP.vr (ki (VP.vr (ay az aA (by rfl) M.len iA (ao (ae 2) au))) (VP.vr ag))) (ae 4))))))))
         (ah (aX (oW Qo (hr.mono (by decide)) (by rfl) Ql Qm Qn (og 3 (og 5 (i9 (ak 9) (i9 (ak 1) (i9 (VP.ve (i8 (ae 2) (jD (VP.vr (bu (ae 4) (VP.vr ag)))) n_)) sZ))))))))
         ax)))
     (y9 [5] (af (dF BM rfl (oP (ak 5)) (bb (i:=10) nd rfl (Or.inl rfl) np)
       (ah (aX (cP 3 uA uB bf ba (aa (VP.ve (aI (aa (VP.ve aq) ai))) ai)))))
     (af (aX (cP 3 uA uB bf ba (aa (VP.ve (aI (aa (VP.ve aq) (aa (VP.ve (aM bP (hr.mono (by decide)) (by rfl) bM bN bO (aa (VP.ve (aT (VP.vr (ay (qI rfl) Ak (by rfl) M.sum Pf (ao (ae 8) au))) (VP.vr (i6 (VP.vr ag) (VP.vr ag))))) (aa (ak 1) ai)))) ai)))) ai)))
     (ah (aP (VW.vc (ei (bJ hu (VP.vr (aT (ae 4) (VP.vr ag))) (VP.vr ag)) (dc (bJ hu (VP.vr (aT (VP.vr (ay az aA (by rfl) M.len iA (ao (ae 8) au))) (VP.vr ag))) (VP.vr ag)))))
       (ah (aX (cP 3 uA uB bf ba (aa (VP.ve (aI (aa (VP.ve aq) ai))) ai))))
       ax)))) U9))))))))
   (ah (aH (g_ 3 np))))),fun _=>?_⟩
 have YZ:=G.p3
 have eT:((pl.map bo).length)=pl.length:=cu _
 have eN:((ns.map T.int).length)=ns.length:=cu _
 refine ⟨kK _,by omega,by omega,?_⟩
 refine fJ (fun k ρ=>∃ kv a5 a6 a7 a8 a9 U_ rt rs,ρ=[some (.lst (ns.map .int),false),some (.lst (ys.map .str),false),some (.lst (pl.map bo),false),some (.lst rt,true),kv,a5,a6,a7,a8,a9,U_]∧rt=rs.map aV∧Pre ys pl k rs∧rs.length+3 * (pl.length - k)≤60)
  ⟨none,none,none,none,none,none,none,_,[],rfl,rfl,.zero,by simp; omega⟩ ?_ ?_
 · rintro k ρ hk ⟨kv,a5,a6,a7,a8,a9,U_,_,rs,rfl,rfl,kf,hlen⟩
   rw [eT,B0] at hk
   obtain ⟨p,hp⟩:∃ p:Str×List Str,p=pl[k]:=⟨_,rfl⟩
   obtain ⟨fn,sQ⟩:=p
   have WQ:pl[k]?=some (fn,sQ):=by rw [lK hk,hp]
   have et:lQ (pl.map bo) (0+(k:Int))=some (bo (fn,sQ)):=by
    rw [Int.zero_add]
    refine aB ?_
    rw [nV,WQ]
    rfl
   have Y3:k < 3:=by omega
   have U':(rs.map aV).length < sizeLine:=by rw [cu]; exact fits (by omega)
   refine ⟨_,et,_,aB (j:=0) rfl,_,et,_,aB (j:=1) rfl,kr (by simp),U',kK _,.inl ⟨by show -(2 ^ 64:Int) < 0+(k:Int); omega,by show 0+(k:Int) < (2 ^ 64:Int); omega⟩,⟨by show (0:Int) < ((pl.map bo).length:Int); omega,by show ((pl.map bo).length:Int) < 1073741824; omega⟩,
    .inl ⟨by show -(2 ^ 64:Int) < 0+(k:Int)+1; omega,by show 0+(k:Int)+1 < (2 ^ 64:Int); omega⟩,⟨by show (0:Int) < ((pl.map bo).length:Int); omega,by show ((pl.map bo).length:Int) < 1073741824; omega⟩,?_⟩
   obtain ⟨ms,Va,Us⟩:=zO T.int ns (some ((0+(k:Int)) * ((ns.map T.int).length:Int) / ((pl.map bo).length:Int))) (some ((0+(k:Int)+1) * ((ns.map T.int).length:Int) / ((pl.map bo).length:Int)))
   show u7 (nG (ns.map T.int) (some ((0+(k:Int)) * ((ns.map T.int).length:Int) / ((pl.map bo).length:Int))) (some ((0+(k:Int)+1) * ((ns.map T.int).length:Int) / ((pl.map bo).length:Int)))) _ _ _ _
   rw [Va]
   refine vj (fun i ρ=>∃ b6 b7 b9 Jv rt st body bH,ρ=[some (.lst (ns.map .int),false),some (.lst (ys.map .str),false),some (.lst (pl.map bo),false),some (.lst rt,true),some (.int (0+(k:Int)),false),some (.lst st,true),b6,b7,some (.lst (ms.map .int),false),b9,Jv]∧rt=(rs ++ [Rw.df fn sQ] ++ body).map aV∧st=bH.map .str∧Body ys (pl.drop (k+1)) bH body∧rs.length+1+body.length+bH.length+3 * (pl.length - 1 - k)≤58)
    ⟨_,_,_,_,_,_,[],[],rfl,by simp; rfl,rfl,.nil,by simp; omega⟩ ?_ ?_
   · rintro i z ρ hi ⟨b6,b7,b9,Jv,_,_,body,bH,rfl,rfl,rfl,hB,hb⟩
     refine ⟨.inl ⟨by decide,by decide⟩,bX (fun h=>?_) (fun _=>⟨b6,b7,_,Jv,_,_,body,bH,rfl,rfl,rfl,hB,hb⟩)⟩
     have hg:(((rs ++ [Rw.df fn sQ] ++ body).map aV).length:Int)+((bH.map T.str).length:Int) < 56 - 3 * (((pl.map bo).length:Int) - 1 - (0+(k:Int))):=h
     have Vb:nG (pl.map bo) (some (0+(k:Int)+1)) none=(pl.drop (k+1)).map bo:=by
      have:(0+(k:Int)+1)=((k+1:Nat):Int):=by omega
      rw [this]
      exact Eu bo pl (k+1) hk
     have Ew:(rs ++ [Rw.df fn sQ] ++ body).length=rs.length+1+body.length:=by simp only [nU,Nf]
     rw [cu,cu,eT,Ew] at hg
     refine ⟨rs ++ [Rw.df fn sQ] ++ body,bH,z,ys,pl.drop (k+1),?_,⟨G.y6,G.sm,by rw [Ij]; omega,fun p hp=>G.p4 p (List.mem_of_mem_drop hp)⟩,by rw [Ew]; omega,by omega,fun nw dn Qp=>?_⟩
     · rw [← Vb]; rfl
     · have hlr:=GY Qp
       refine ⟨b6,b7,_,Jv,_,_,body ++ nw,dn,rfl,?_,rfl,.step hB Qp,by rw [nU]; omega⟩
       rw [EV]
   · rintro ρ ⟨b6,b7,b9,Jv,_,_,body,bH,rfl,rfl,rfl,hB,hb⟩
     have Ew:(rs ++ [Rw.df fn sQ] ++ body).length=rs.length+1+body.length:=by simp only [nU,Nf]
     refine vj (f:=T.str) (xs:=bH) (fun i ρ=>∃ Jv rt,ρ=[some (.lst (ns.map .int),false),some (.lst (ys.map .str),false),some (.lst (pl.map bo),false),some (.lst rt,true),some (.int (0+(k:Int)),false),some (.lst (bH.map .str),false),b6,b7,some (.lst (ms.map .int),false),b9,Jv]∧rt=(rs ++ [Rw.df fn sQ] ++ body ++ List.replicate i Rw.fin).map aV)
      ⟨Jv,_,rfl,by simp⟩ ?_ ?_
     · rintro i x ρ hi ⟨Y5,_,rfl,rfl⟩
       have Cw:i < bH.length:=(fY.mp hi).1
       refine ⟨kr (by simp),by rw [cu,nU,Ew,Fh]; exact fits (by omega),_,_,rfl,?_⟩
       rw [List.replicate_succ',← EV,yL (l₂:=[Rw.fin])]
       rfl
     · rintro ρ ⟨Y5,_,rfl,rfl⟩
       have Qq:(rs ++ [Rw.df fn sQ] ++ body ++ List.replicate bH.length Rw.fin).length=rs.length+1+body.length+bH.length:=by rw [nU,Ew,Fh]
       have v0:0≤ms.sum % 10 ^ (6:Int).toNat:=by rw [PD]; exact lN _ (by decide)
       have v1:ms.sum % 10 ^ (6:Int).toNat < 2147483648:=by rw [PD]; have:=nA ms.sum (show (0:Int) < 1000000 by decide); omega
       refine ⟨ms,ints_map ms,⟨by decide,by decide,by decide⟩,(by show (0:Int) < 10 ^ (6:Int).toNat; decide),rfl,_,ys,rfl,G.y6,v0,v1,fun o ho=>⟨kr (by simp),by rw [cu,Qq]; exact fits (by omega),(by show (0:Int) < 2; decide),?_⟩⟩
       have fin:∀ sk:List Rw,(sk=[]∨sk=[Rw.skip])→Pre ys pl (k+1) (rs ++ (Rw.df fn sQ :: (body ++ (List.replicate bH.length Rw.fin ++ (Rw.give o :: sk)))))∧(rs ++ (Rw.df fn sQ :: (body ++ (List.replicate bH.length Rw.fin ++ (Rw.give o :: sk))))).length+3 * (pl.length - (k+1))≤60:=fun sk WR=>by
        refine ⟨.succ kf WQ hB ho WR,?_⟩
        have:sk.length≤1:=by rcases WR with rfl | rfl <;> simp
        simp only [nU,Fm,Fh]
        omega
       have e0:(rs ++ [Rw.df fn sQ] ++ body ++ List.replicate bH.length Rw.fin).map aV ++ [aV (Rw.give o)]=(rs ++ (Rw.df fn sQ :: (body ++ (List.replicate bH.length Rw.fin ++ (Rw.give o :: []))))).map aV:=by
        simp [EV]
       have e1:(rs ++ [Rw.df fn sQ] ++ body ++ List.replicate bH.length Rw.fin).map aV ++ [aV (Rw.give o)] ++ [aV Rw.skip]=(rs ++ (Rw.df fn sQ :: (body ++ (List.replicate bH.length Rw.fin ++ (Rw.give o :: [Rw.skip]))))).map aV:=by
        simp [EV]
       refine bX (fun _=>?_) (fun _=>ff rfl ⟨_,_,_,_,_,_,_,_,_,rfl,e0,fin [] (.inl rfl)⟩)
       refine ⟨(by show (0:Int) < 2; decide),bX (fun _=>?_) (fun _=>⟨_,_,_,_,_,_,_,_,_,rfl,e0,fin [] (.inl rfl)⟩)⟩
       refine ⟨kr (by simp),?_,⟨_,_,_,_,_,_,_,_,_,rfl,e1,fin [.skip] (.inr rfl)⟩⟩
       rw [nU,cu,Qq]
       exact fits (by simp; omega)
 · rintro ρ ⟨kv,a5,a6,a7,a8,a9,U_,_,rs,rfl,rfl,kf,hlen⟩
   rw [eT,B0] at kf
   exact hq rs kf (by omega)
end
end eV
namespace wG
open PySem L2 VT EX
def top (i:Nat):Stmt:=PySem.Challenge.pw_slicewise_k06_rows_refused.main.body.getD i (.Pass ⟨0,0,0,0⟩)
abbrev gN:Stmt:=inClass (top 8) 0
abbrev jz:Stmt:=inClass (top 9) 0
abbrev lH:Stmt:=inClass (top 7) 0
structure DX (K:PySem.W.Frag) (mg:Str→Option Value) (x qual:Str) (st:Stmt) (S C f:Addr) (fd:FuncData):Prop where
 F:BU K "__init__" qual st f fd
 m:mg x=some (.ref C)
 kp:PySem.W.keepIn K (.ref C)=true
 b:Binds K fd ["self","place"] []
 xc:XC K C [S]
 xf:XF K C
 hi:PySem.W.findIn K (.ref C) "__init__" = some (some (.ref f))
 ht:PySem.W.typeIn K (.ref f)=some (.type "function")
theorem yk:aG ["self","place"] ["self","place"] (aj gN):=L2.g7
theorem Bi:aG ["self","place"] ["self","place"] (aj jz):=L2.g7
theorem Ey:aG ["self","place"] ["self","place"] (aj lH):=L2.g7
section
variable {P:Program} {w:World} {K:PySem.W.Frag} {mg:Str→Option Value} {base:Heap} {S C f:Addr} {fd:FuncData}
theorem yl (D:DX K mg "NoBlock" "NoBlock.__init__" gN S C f fd) (xs:XS K S) (mS:mg "SliceError" = some (.ref S)):XP P w K mg base "NoBlock" C 1:=by
 refine ⟨D.m,D.kp,⟨_,D.xc⟩,f,fd,D.hi,D.ht,D.b,D.F.ok yk (fun vs H Q E h=>?_) fun bE A outer s H vs Q E hr h=>?_⟩
 · obtain ⟨e,i,rfl,_⟩:=h; rfl
 · obtain ⟨e,i,rfl,h0,h1,he,hq⟩:=h
   refine ⟨_,kO (kP (p_ xs (by rfl) mS D.xc (bh (pv 0) (bh (zC (pv 1)) cx)))) (nZ (DV D.xc D.xf (pv 0) (pv 1))),?_⟩
   refine ⟨_,rfl,_,rfl,i,rfl,h0,h1,fun x=>⟨e,x,rfl,he,_,rfl,_,rfl,e,i,rfl,rfl,he,hq⟩⟩
theorem Bj (D:DX K mg "NoCall" "NoCall.__init__" jz S C f fd) (xs:XS K S) (mS:mg "SliceError" = some (.ref S)):XP P w K mg base "NoCall" C 1:=by
 refine ⟨D.m,D.kp,⟨_,D.xc⟩,f,fd,D.hi,D.ht,D.b,D.F.ok Bi (fun vs H Q E h=>?_) fun bE A outer s H vs Q E hr h=>?_⟩
 · obtain ⟨e,i,rfl,_⟩:=h; rfl
 · obtain ⟨e,i,rfl,h0,h1,he,hq⟩:=h
   refine ⟨_,kO (kP (p_ xs (by rfl) mS D.xc (bh (pv 0) (bh (zC (pv 1)) cx)))) (nZ (DV D.xc D.xf (pv 0) (pv 1))),?_⟩
   refine ⟨_,rfl,_,rfl,i,rfl,h0,h1,fun x=>⟨e,x,rfl,he,_,rfl,_,rfl,e,i,rfl,rfl,he,hq⟩⟩
theorem Ez (D:DX K mg "NoRow" "NoRow.__init__" lH S C f fd) (xs:XS K S) (mS:mg "SliceError" = some (.ref S)):XP P w K mg base "NoRow" C 1:=by
 refine ⟨D.m,D.kp,⟨_,D.xc⟩,f,fd,D.hi,D.ht,D.b,D.F.ok Ey (fun vs H Q E h=>?_) fun bE A outer s H vs Q E hr h=>?_⟩
 · obtain ⟨e,i,rfl,_⟩:=h; rfl
 · obtain ⟨e,i,rfl,h0,h1,he,hq⟩:=h
   refine ⟨_,kO (kP (p_ xs (by rfl) mS D.xc (bh (pv 0) (bh (zC (pv 1)) cx)))) (nZ (DV D.xc D.xf (pv 0) (pv 1))),?_⟩
   refine ⟨_,rfl,_,rfl,i,rfl,h0,h1,fun x=>⟨e,x,rfl,he,_,rfl,_,rfl,e,i,rfl,rfl,he,hq⟩⟩
end
end wG
namespace VT
open PySem PySem.Spec PyProof.Rows L2
def zP:V→List V→Hp→VK→Prop:=fun x vs H Q=>∃ (l:Addr) (xs:List V) (k:Nat) (y:V),x = .ref l∧vs=[.int (k:Int),y]∧k≤1000∧H l=some (.lst xs)∧xs.length < sizeLine∧Q .br (upd H l (.lst (xs.take k ++ [y] ++ xs.drop k)))
theorem sh:∀ {xs:List V} {us:List Value} (k:Nat),Vals xs us→Vals (xs.take k) (us.take k)
 | _,_,0,_=>.nil
 | _,_,_+1,.nil=>.nil
 | _,_,k+1,.cons r t=>.cons r (sh k t)
theorem si:∀ {xs:List V} {us:List Value} (k:Nat),Vals xs us→Vals (xs.drop k) (us.drop k)
 | _,_,0,h=>h
 | _,_,_+1,.nil=>.nil
 | _,_,k+1,.cons _ t=>si k t
theorem jQ {X:Cx}:SY X "list.insert" zP:=by
 intro pins s σ H x vs v us Q I rx rv h
 obtain ⟨l,xs,k,y,rfl,rfl,hk,hH,hz,q⟩:=h
 cases rx
 obtain ⟨u1,u2,rfl,r1,r2⟩:=vals2 rv
 obtain ⟨t,e1⟩:=(show ∃ t,u1=Value.int (k:Int) t from r1)
 obtain ⟨x,hx⟩:∃ x:Int,x=(k:Int):=⟨_,rfl⟩
 rw [← hx] at e1
 subst e1
 obtain ⟨z,aK,n,r,hl,e⟩:=I.KQ hH
 have Pk:Builtin.List.listFitsIndex x=true:=by
  unfold Builtin.List.listFitsIndex
  rw [iP,decide_eq_true_eq,decide_eq_true_eq]
  exact ⟨by omega,by omega⟩
 have Y6:¬(!Builtin.List.listFitsIndex x)=true:=by rw [Pk]; decide
 have n5:aK.toArray.size≤sizeLine:=by rw [gS]; omega
 have mm:=PySem.AutoSeq1.list_insert_list_int_val_1 l aK.toArray n x t u2 Y6 n5
 refine call_meets F.slot_list_insert ⟨_,e,rfl⟩ F.entry_list_insert (F.args_list_insert_3 _ _ _) mm ⟨e,?_⟩
 refine ⟨.br,_,I.KP (its':=aK.take k ++ [u2] ++ aK.drop k) hH e ?_ (((sh k r).append (.cons r2 .nil)).append (si k r)) ?_,rfl,q⟩
 · have ek:(if x < 0 then (x+(aK.toArray.size:Int)).toNat else min x.toNat aK.toArray.size)=min k aK.length:=by rw [if_neg (by omega),hx,B0,gS]
   show (aK.toArray.extract 0 (if x < 0 then (x+(aK.toArray.size:Int)).toNat else min x.toNat aK.toArray.size)).push u2 ++ aK.toArray.extract (if x < 0 then (x+(aK.toArray.size:Int)).toNat else min x.toNat aK.toArray.size)=_
   rw [ek]
   apply Array.ext'
   simp only [Array.toList_append,Array.toList_push,Array.toList_extract,List.extract_eq_take_drop,List.drop_zero,Nat.sub_zero]
   by_cases Gs:k≤aK.length
   · rw [Nat.min_eq_left Gs]
     simp
     exact Nd (by rw [Ij]; omega)
   · rw [Nat.min_eq_right (by omega),Nd (d8 _),Nd (by omega:aK.length≤k),List.drop_eq_nil_of_le (d8 _),List.drop_eq_nil_of_le (by omega:aK.length≤k)]
     simp
 · rw [nU,nU,EW,Ij,Nf]
   omega
def zQ (ts us:List T) (q:List T→T→Prop):Prop:=match us with
 | [.int i,t]=>0≤i∧i≤1000∧ts.length < sizeLine∧q (ts.take i.toNat ++ [t] ++ ts.drop i.toNat) .br
 | _=>False
theorem iw {K:PySem.W.Frag}:Np K zP zQ:=by
 intro H A l xs ts us vs q Q hl hH h1 h2 hp k
 unfold zQ at hp
 split at hp
 · rename_i i t
   obtain ⟨h0,hi,hz,hq⟩:=hp
   simp only [aE,At] at h2
   obtain ⟨v1,r1,rfl,rfl,v2,r2,rfl,a2,rfl⟩:=h2
   exact ⟨l,xs,i.toNat,v2,rfl,by rw [Int.toNat_of_nonneg h0],by omega,hH,by rw [h1.length]; exact hz,k _ _ hq _ _ (((h1.take i.toNat).append (aE.cons a2 aE.nil)).append (h1.drop i.toNat)) l8⟩
 · exact hp.elim
section
variable {X:Cx}
theorem Bk (hc:X.calm=true):cw X (.builtin "min") (fun xs H Q=>∃ (p:Addr) (ns:List Int),xs=[.ref p]∧eY X.K H p (ns.map V.int)∧0 < ns.length∧∀ m,m∈ns→(∀ i∈ns,m≤i)→Q (.int m) H):=by
 intro pins s σ H xs us Q I r h
 obtain ⟨p,ns,rfl,hq,n8,q⟩:=h
 obtain ⟨u,rfl,rx⟩:=vals1 r
 cases rx
 obtain ⟨aK,rv,pl,hz⟩:=I.list hq
 have hI:IntsAre aK ns:=intsAre_of rv
 obtain ⟨xs,e⟩:=hI.allInts.items
 have KS:ns=xs.toList.map (·.1):=by rw [← hI.numsOf,← nums_intItems,← e]
 have hl:s.heap.IsList p (intItems xs):=by rw [← e]; exact pl.isList
 have n5:0 < xs.size:=by
  have h3:=n8; rw [KS,cu,Fi] at h3; exact h3
 refine min_intList (I.ok.hd hc) hl n5 fun v h' tk hv hk=>?_
 obtain ⟨t,rfl⟩:=intItems_at hv
 obtain ⟨h1,h2⟩:=argBest_lt (numAt xs) (xs.size - 1)
 refine ⟨.int _,H,I.kept hk,⟨_,rfl⟩,q _ ?_ fun a ha=>?_⟩
 · rw [KS,numAt_eq]; exact getD_mem (by rw [cu,Fi]; omega)
 · rw [KS] at ha
   obtain ⟨j,hj,rfl⟩:=mem_getD ha
   rw [cu,Fi] at hj
   rw [← numAt_eq]; exact h2 j (by omega)
def Jw (ts:List T) (q:Rt→Prop):Prop:=match ts with
 | [.lst l]=>∃ ns,intsOf l=some ns∧0 < ns.length∧∀ m,m∈ns→(∀ i∈ns,m≤i)→q (.vw (.int m))
 | _=>False
theorem ym {K:PySem.W.Frag}:j5 K (fun xs H Q=>∃ (p:Addr) (ns:List Int),xs=[.ref p]∧eY K H p (ns.map V.int)∧0 < ns.length∧∀ m,m∈ns→(∀ i∈ns,m≤i)→Q (.int m) H) Jw:=by
 intro Z tm O ρ σ H ts vs q Q I h hp k
 unfold Jw at hp
 split at hp
 · obtain ⟨bs,e,h0,hp⟩:=hp
   obtain ⟨v,rfl,a⟩:=bY h
   obtain ⟨p,ws,rfl,q1,q2⟩:=a.lst
   rw [tG e q2] at q1
   exact ⟨p,bs,rfl,q1,h0,fun m m1 m2=>k _ (hp m m1 m2) _ H (aJ.refl H) ⟨I,bq⟩⟩
 · exact hp.elim
end
end VT
namespace uj
open PySem L2 VT Gen wC
open cN (jd gF dQ Part lb gE iF dP)
open Ff (RT q8 bI)
def top (i:Nat):Stmt:=PySem.Challenge.pw_slicewise_k06_rows_refused.main.body.getD i (.Pass ⟨0,0,0,0⟩)
abbrev gJ:Stmt:=top 40
abbrev lF:Stmt:=top 41
abbrev gK:Stmt:=top 42
abbrev v5:Stmt:=top 43
abbrev s_call:Stmt:=top 44
abbrev jy:Stmt:=top 45
abbrev v7:Stmt:=top 46
abbrev qe:Stmt:=top 47
abbrev gL:Stmt:=top 48
abbrev iq:Stmt:=top 49
abbrev jN:Stmt:=top 50
abbrev jO:Stmt:=top 51
abbrev kc:Stmt:=top 52
structure Vc (mg:Str→Option Value):Prop where
 list:mg "list" = none
 len:mg "len" = none
 min:mg "min" = none
 int:mg "int" = none
def Qr (ts:List T) (q:Rt→Prop):Prop:=∃ (c:Int) (ys:List Str),ts=[.int c,.lst (ys.map .str)]∧ys.length=6∧(∀ y∈ys,bF y=true)∧∀ t:T,RT t→q8 t=false→q (.vw t)
def zR (y z:Str):List T:=[.tup [.str "",.str y],.tup [.str "put",.str y],.tup [.str "put",.str y,.int 1000000000000000000000000000000],.tup [.str "do",.str y,.int 1,.str "more",.int 2],.tup [.str "new",.int 5],.tup [.str "els"],
 .tup [.str "get",.str y,.int 3,.str y],.tup [.str "get",.str y,.str y,.str (("." : String) ++ y ++ ("." : String))],.tup [.str "set",.str y,.str ".",.int 1],
 .tup [.str "call",.str y,.str y,.tup [.str y,.int 1,.int 2,.int 3,.str y]],.tup [.str "def",.str y,.tup [.str y,.str z,.str y]],.tup [.str "skip",.int 0],
 .tup [.str "fail",.str "No"],.tup [.str "give",.str (("." : String) ++ y)],.tup [.str "while"],.tup [.str "def",.str y,.tup [.int 1]],.tup [.str "if",.int (0 - 1000000000000000000000000000000 - 1)]]
theorem HQ (x:Str):bF (x ++ ("." : String))=false:=by
 unfold bF
 have h:(x ++ (("." : String):Str)).cps.toList.all xb=false:=by
  show (x.cps ++ (("." : String):Str).cps).toList.all xb=false
  rw [oI]
  simp [y8]
 rw [h,Im,Im]
theorem sj (a b c:Str):a ++ b ++ c=a ++ (b ++ c):=by
 show Str.mk ((a.cps ++ b.cps) ++ c.cps)=Str.mk (a.cps ++ (b.cps ++ c.cps))
 rw [Array.append_assoc]
theorem HR (x:Str):l6 (("." : String) ++ x ++ ("." : String))=false:=by
 rw [sj]
 unfold l6
 rw [rJ,HQ,Im]
theorem MH (x:Str):bF (("." : String) ++ x ++ ("." : String))=false:=by
 rw [sj]
 exact uX _
theorem jI (a b:Str):(a ++ b).length=a.length+b.length:=by
 show (a.cps ++ b.cps).size=_
 simp [Str.length]
theorem Bl {x:Str} (h:x.length≤100):Part (.str x):=.inl (.inl ⟨x,rfl,h⟩)
theorem wg (i:Int):Part (.int i):=.inl (.inr ⟨i,rfl⟩)
theorem HS {y z:Str} (hy:bF y=true) (hz:bF z=true):∀ t∈zR y z,RT t∧q8 t=false:=by
 have ly:=cN.fU hy
 have lz:=cN.fU hz
 have py:Part (.str y):=Bl (by omega)
 have hd:((("." : String):Str)).length=1:=by decide +kernel
 intro t ht
 simp only [zR,cL,dZ,or_false] at ht
 have pn:∀ p∈([]:List T),Part p:=fun p hp=>nomatch hp
 have pc:∀ {a:T} {l:List T},Part a→(∀ p∈l,Part p)→∀ p∈a :: l,Part p:=fun ha hl p hp=>by
  rcases cL.mp hp with rfl | hp
  · exact ha
  · exact hl p hp
 have mk:∀ {x:Str} {ps:List T},ps.length≤10→(∀ p∈ps,Part p)→dQ x ps=false→RT (.tup (.str x :: ps))∧q8 (.tup (.str x :: ps))=false:=fun h1 h2 h3=>⟨⟨_,_,rfl,h1,h2⟩,h3⟩
 have gd:∀ {x:Str} {ps:List T} {ss},gE iF x=some ss→(decide (ps.length=ss.length) && (List.zipWith dP ss ps).all id)=false→dQ x ps=false:=fun h1 h2=>by unfold dQ; rw [h1]; exact h2
 rcases ht with rfl | rfl | rfl | rfl | rfl | rfl | rfl | rfl | rfl | rfl | rfl | rfl | rfl | rfl | rfl | rfl | rfl
 · exact mk (by simp) (pc py pn) (by unfold dQ; rw [show gE iF "" = none by decide +kernel])
 · exact mk (by simp) (pc py pn) (gd (ss:=[.nm,.op]) (by decide +kernel) rfl)
 · exact mk (by simp) (pc py (pc (wg _) pn)) (gd (ss:=[.nm,.op]) (by decide +kernel) (by simp [dP,cN.fM,cN.cq,cN.AA]))
 · exact mk (by simp) (pc py (pc (wg _) (pc (Bl (by decide +kernel)) (pc (wg _) pn)))) (gd (ss:=[.nm,.op,.rk,.op]) (by decide +kernel) (by simp only [yJ,yK,uC,dP,show cN.G5 (.str "more")=false by decide +kernel]; simp))
 · exact mk (by simp) (pc (wg _) pn) (gd (ss:=[.nm]) (by decide +kernel) rfl)
 · exact mk (by simp) pn (by unfold dQ; rw [show gE iF "els" = none by decide +kernel])
 · exact mk (by simp) (pc py (pc (wg _) (pc py pn))) (gd (ss:=[.nm,.nm,.key]) (by decide +kernel) (by simp [dP,cN.cq]))
 · exact mk (by simp) (pc py (pc py (pc (Bl (by rw [jI,jI,hd]; omega)) pn))) (gd (ss:=[.nm,.nm,.key]) (by decide +kernel) (by simp [dP,cN.xI,cN.Du,cN.fM,cN.cq,cN.AA,HR,MH]))
 · exact mk (by simp) (pc py (pc (Bl (by decide +kernel)) (pc (wg _) pn))) (gd (ss:=[.nm,.key,.op]) (by decide +kernel) (by simp only [yJ,yK,uC,dP,show cN.xI (.str ".")=false by decide +kernel]; simp))
 · exact mk (by simp) (pc py (pc py (pc (.inr ⟨_,rfl,by simp,fun u hu=>by
    simp only [cL,dZ,or_false] at hu
    rcases hu with rfl | rfl | rfl | rfl | rfl
    · exact .inl ⟨_,rfl,by omega⟩
    · exact .inr ⟨_,rfl⟩
    · exact .inr ⟨_,rfl⟩
    · exact .inr ⟨_,rfl⟩
    · exact .inl ⟨_,rfl,by omega⟩⟩) pn))) (gd (ss:=[.nm,.nm,.ops]) (by decide +kernel) (by simp [dP,cN.G6]))
 · exact mk (by simp) (pc py (pc (.inr ⟨_,rfl,by simp,fun u hu=>by
    simp only [cL,dZ,or_false] at hu
    rcases hu with rfl | rfl | rfl
    · exact .inl ⟨_,rfl,by omega⟩
    · exact .inl ⟨_,rfl,by omega⟩
    · exact .inl ⟨_,rfl,by omega⟩⟩) pn)) (gd (ss:=[.nm,.par]) (by decide +kernel) (by
      have e:(once (cN.strsOf [T.str y,T.str z,T.str y])).length≠3:=by
       show (once [y,z,y]).length≠3
       unfold once
       simp only [Fm,List.length_nil,met,LL,List.getD_cons_zero,List.getD_cons_succ]
       by_cases h:z=y
       · subst h; simp
       · have h2:y≠z:=fun e=>h e.symm
         simp [h,h2]
      simp [dP,cN.Dv,e]))
 · exact mk (by simp) (pc (wg _) pn) (gd (ss:=[]) (by decide +kernel) rfl)
 · exact mk (by simp) (pc (Bl (by decide +kernel)) pn) (gd (ss:=[.nm]) (by decide +kernel) (by simp only [yJ,yK,uC,dP,show cN.cq (.str "No")=false by decide +kernel]; simp))
 · exact mk (by simp) (pc (Bl (by rw [jI,hd]; omega)) pn) (gd (ss:=[.op]) (by decide +kernel) (by simp [dP,cN.fM,cN.cq,cN.AA,uX]))
 · exact mk (by simp) pn (gd (ss:=[.op]) (by decide +kernel) rfl)
 · exact mk (by simp) (pc py (pc (.inr ⟨_,rfl,by simp,fun u hu=>by rw [wH.mp hu]; exact .inr ⟨_,rfl⟩⟩) pn)) (gd (ss:=[.nm,.par]) (by decide +kernel) (by simp [dP,cN.Dv,cN.cq]))
 · exact mk (by simp) (pc (wg _) pn) (gd (ss:=[.op]) (by decide +kernel) (by simp [dP,cN.fM,cN.cq,cN.AA]))
theorem EA {ys:List Str} {k:Nat} (h:k < ys.length):lQ (ys.map T.str) (k:Int)=some (.str (ys.getD k "")):=aB (by rw [nV,List.getD,lK h]; rfl)
section
variable {P:Program} {w:World} {K:PySem.W.Frag} {mg:Str→Option Value} {base:Heap}
abbrev Bm:List Str:=["_law_cell","_law_words_here","_law_name","_law_edge","_law_some"]
theorem qk:aG Bm ["_law_cell","_law_words_here"] (aj jO):=L2.g7
theorem yn {f:Addr} {fd:FuncData} (D:Df K mg "_law_bad_row" jO ["_law_cell","_law_words_here"] f fd) (M:Vc mg):cm P w K mg base "_law_bad_row" ["_law_cell","_law_words_here"] 1 (b_ K 2 Qr):=by
 refine D.ko (lU D.F qk rfl fun bE A outer s H E Ox hr ts q hG=>?_)
 have nd:=qk.nd
 have np:∀ {i:Nat},aY ⟨H,[],Ox⟩ i:=kJ
 refine ⟨_,(af (aL (i:=2) nd rfl (Or.inl rfl) (VP.vx (aW (ae 1) (VP.vr (aT (VP.vr (a_ (ae 0) (VP.vr ag))) (VP.vr ag))))) np)
  (af (aL (i:=3) nd rfl (Or.inl rfl) (VP.vx (i6 (VP.vr ag) (VP.vr ag))) np)
  (af (aL (i:=4) nd rfl (Or.inl rfl) (VP.vx (bW (aa (VP.ve (aI (aa (VP.ve aq) (aa (ak 2) ai)))) (aa (VP.ve (aI (aa (VP.ve aq) (aa (ak 2) ai)))) (aa (VP.ve (aI (aa (VP.ve aq) (aa (ak 2) (aa (ak 3) ai))))) (aa (VP.ve (aI (aa (VP.ve aq) (aa (ak 2) (aa (VP.ve ag) (aa (VP.ve aq) (aa (VP.ve ag) ai))))))) (aa (VP.ve (aI (aa (VP.ve aq) (aa (VP.ve ag) ai)))) (aa (VP.ve (aI (aa (VP.ve aq) ai))) ai)))))))) np)
  (af (aL (i:=4) nd rfl (Or.inl rfl) (VP.vx (bu (ae 4) (VP.vr (bW (aa (VP.ve (aI (aa (VP.ve aq) (aa (ak 2) (aa (VP.ve ag) (aa (ak 2) ai)))))) (aa (VP.ve (aI (aa (VP.ve aq) (aa (ak 2) (aa (ak 2) (aa (VP.ve (bu (VP.vr (bu (VP.vr aq) (ae 2))) (VP.vr aq))) ai)))))) (aa (VP.ve (aI (aa (VP.ve aq) (aa (ak 2) (aa (VP.ve aq) (aa (VP.ve ag) ai)))))) ai))))))) np)
  (af (aL (i:=4) nd rfl (Or.inl rfl) (VP.vx (bu (ae 4) (VP.vr (bW (aa (VP.ve (aI (aa (VP.ve aq) (aa (ak 2) (aa (ak 2) (aa (VP.ve (aI (aa (ak 2) (aa (VP.ve ag) (aa (VP.ve ag) (aa (VP.ve ag) (aa (ak 2) ai))))))) ai)))))) (aa (VP.ve (aI (aa (VP.ve aq) (aa (ak 2) (aa (VP.ve (aI (aa (ak 2) (aa (VP.ve (aW (ae 1) (VP.vr ag))) (aa (ak 2) ai))))) ai))))) (aa (VP.ve (aI (aa (VP.ve aq) (aa (VP.ve ag) ai)))) ai))))))) np)
  (af (aL (i:=4) nd rfl (Or.inl rfl) (VP.vx (bu (ae 4) (VP.vr (bW (aa (VP.ve (aI (aa (VP.ve aq) (aa (VP.ve aq) ai)))) (aa (VP.ve (aI (aa (VP.ve aq) (aa (VP.ve (bu (VP.vr aq) (ae 2))) ai)))) (aa (VP.ve (aI (aa (VP.ve aq) ai))) (aa (VP.ve (aI (aa (VP.ve aq) (aa (ak 2) (aa (VP.ve (aI (aa (VP.ve ag) ai))) ai))))) (aa (VP.ve (aI (aa (VP.ve aq) (aa (VP.ve (ki (VP.vr (ki (VP.vr ag) (ae 3))) (VP.vr ag))) ai)))) ai))))))))) np)
  (ah (aH (VP.vx (aW (ae 4) (VP.vr (aT (ae 0) (VP.vr ag))))))))))))),fun _=>?_⟩
 obtain ⟨c,ys,rfl,hy,EB,hq⟩:=hG
 have s0:0≤c / 16 % 4:=lN _ (by decide)
 have s1:c / 16 % 4 < 4:=nA _ (by decide)
 obtain ⟨m,em⟩:=EU s0
 refine ⟨⟨by decide,by decide⟩,(by show (0:Int) < 4; decide),?_⟩
 rw [em]
 refine ⟨_,EA (k:=m) (by omega),?_⟩
 have hn:bF (ys.getD m "")=true:=EB _ (by rw [List.getD,lK (by omega:m < ys.length)]; exact B1 _)
 generalize ys.getD m "" = y at hn ⊢
 have hz:bF (ys.getD 5 "")=true:=EB _ (by rw [List.getD,lK (by omega:5 < ys.length)]; exact B1 _)
 refine ⟨⟨by decide,by decide⟩,?_⟩
 refine ⟨small (by simp),small (by simp),small (by simp),small (by simp),small (by simp),small (by simp),small (by simp),?_⟩
 have ly:=cN.fU hn
 have hd:((("." : String):Str)).length=1:=by decide +kernel
 have l1:((("." : String):Str)).length+y.length≤sizeLine:=small (by omega)
 have l2:((("." : String):Str) ++ y).length+((("." : String):Str)).length≤sizeLine:=small (by rw [jI]; omega)
 refine ⟨small (by simp),l1,l2,small (by simp),small (by simp),small (by simp),small (by simp),?_⟩
 refine ⟨small (by simp),small (by simp),_,EA (k:=5) (by omega),small (by simp),small (by simp),small (by simp),small (by simp),small (by simp),?_⟩
 refine ⟨small (by simp),l1,small (by simp),small (by simp),small (by simp),small (by simp),small (by simp),small (by simp),small (by simp),?_⟩
 have b0:0≤c % 17:=lN _ (by decide)
 have b1:c % 17 < 17:=nA _ (by decide)
 obtain ⟨k,ek⟩:=EU b0
 refine ⟨by show (0:Int) < 17; decide,?_⟩
 rw [ek]
 have hk:k < (zR y (ys.getD 5 "")).length:=by show k < 17; omega
 obtain ⟨r1,r2⟩:=HS hn hz _ (B1 hk)
 exact ⟨_,aB (xs:=zR y (ys.getD 5 "")) (j:=k) (lK hk),hq _ r1 r2⟩
end
end uj
namespace Gen
open PySem L2 VT
theorem zS:∀ (rs:List Rw) (st:List Str) (i:Nat),jW (some st) rs=some []→brk st rs i=none
 | [],st,i,h=>by
   have:st=[]:=Option.some.inj h
   unfold brk; rw [if_pos this]
 | r :: rs,st,i,h=>by
   have h':jW (AN (some st) r) rs=some []:=h
   cases hm:dA st (wd r) with
   | false =>
     have:AN (some st) r=none:=by show (if dA st (wd r)=true then _ else _)=_; rw [hm]; rfl
     rw [this,pP] at h'
     cases h'
   | true =>
     rw [rZ hm] at h'
     unfold brk
     rw [if_pos hm]
     exact zS rs _ _ h'
end Gen
namespace uj
open PySem L2 VT Gen wC
open cN (jd gF dQ Part lb)
open Ff (RT q8 bI jw)
theorem ql:∀ (a:List T) (t:T) (b:List T) (i:Nat),(∀ u∈a,q8 u=true)→q8 t=false→bI (a ++ t :: b) i=some (i+a.length)
 | [],t,b,i,_,h=>by
   show bI (t :: b) i=_
   unfold bI
   rw [h]; rfl
 | u :: a,t,b,i,ha,h=>by
   show bI (u :: (a ++ t :: b)) i=_
   unfold bI
   rw [if_pos (ha u iO),ql a t b (i+1) (fun v hv=>ha v (jX _ hv)) h,Fm]
   congr 1; omega
theorem yo:∀ (l:List T) (i j:Nat),bI l i=some j→∃ a t b,l=a ++ t :: b∧(∀ u∈a,q8 u=true)∧q8 t=false∧j=i+a.length
 | [],i,j,h=>by cases h
 | u :: l,i,j,h=>by
   unfold bI at h
   by_cases hu:q8 u=true
   · rw [if_pos hu] at h
     obtain ⟨a,t,b,rfl,h1,h2,h3⟩:=yo l (i+1) j h
     refine ⟨u :: a,t,b,rfl,fun v hv=>?_,h2,by rw [Fm]; omega⟩
     rcases cL.mp hv with rfl | hv
     · exact hu
     · exact h1 v hv
   · rw [if_neg hu] at h
     exact ⟨[],u,l,rfl,by simp,by simpa using hu,(Option.some.inj h).symm⟩
theorem Bn {xs:List T} {t:T} {k:Nat} (h:∀ u∈xs,q8 u=true) (ht:q8 t=false) (hk:k≤xs.length):bI (xs.take k ++ [t] ++ xs.drop k) 0=some k:=by
 rw [EV]
 show bI (xs.take k ++ t :: xs.drop k) 0=_
 rw [ql _ _ _ _ (fun u hu=>h u (List.mem_of_mem_take hu)) ht,EW]
 congr 1; omega
theorem HU {xs ys:List T} {p:Nat} (h:bI xs 0=some p):bI (xs ++ ys) 0=some p:=by
 obtain ⟨a,t,b,rfl,h1,h2,h3⟩:=yo _ _ _ h
 rw [EV,Rc,ql _ _ _ _ h1 h2,h3]
theorem HV {xs:List T} {t:T} {k p:Nat} (h:bI xs 0=some p) (ht:q8 t=false) (hk:k≤xs.length):bI (xs.take k ++ [t] ++ xs.drop k) 0=some (if k≤p then k else p):=by
 obtain ⟨a,u,b,rfl,h1,h2,h3⟩:=yo _ _ _ h
 rw [Nat.zero_add] at h3
 subst h3
 by_cases hl:k≤a.length
 · rw [if_pos hl,EV]
   show bI (List.take k _ ++ t :: _) 0=_
   rw [ql _ _ _ _ (fun v hv=>?_) ht,EW,Nat.zero_add]
   · congr 1; omega
   · rw [List.take_append_of_le_length hl] at hv
     exact h1 v (List.mem_of_mem_take hv)
 · rw [if_neg hl]
   obtain ⟨m,rfl⟩:∃ m,k=a.length+(m+1):=⟨k - a.length - 1,by omega⟩
   rw [List.take_append,Nd (by omega:a.length≤a.length+(m+1)),show a.length+(m+1) - a.length=m+1 by omega,List.take_succ_cons,EV,EV,Rc,ql _ _ _ _ h1 h2,Nat.zero_add]
theorem EC {rs:List Rw} (h:mF rs):gI rs=none:=by
 refine pZ fun j hj=>?_
 unfold dY
 obtain ⟨r,hr⟩:∃ r,rs[j]?=some r:=⟨_,lK hj⟩
 rw [hr]
 cases r with
 | df g ps =>
   show (!decide _)=false
   rw [h.first hr]; simp
 | call x f as =>
   show (!ua rs j f as)=false
   obtain ⟨i,ps,h1,h2,h3⟩:=h.ca j x f as hr
   rw [r9 (h.first h2) h2,if_neg (by omega),h3]; simp
 | _=>rfl
end uj
namespace uj
open PySem L2 VT Gen wC
open cN (jd gF dQ Part lb)
open Ff (RT q8 bI jw lC)
def HW (ts:List T) (q:Rt→Prop):Prop:=∃ ns:List Int,ts=[.lst (ns.map .int)]∧ns.length≤63∧q (.vw (.bl true))
theorem ints_map:∀ is:List Int,intsOf (is.map T.int)=some is
 | []=>rfl
 | i :: is=>by simp only [jY,intsOf,ints_map is]; rfl
theorem ED {t:T} (h:lb t):l7 t=true∧plainT t=true∧dep t≤0:=by
 rcases h with ⟨x,rfl,_⟩ | ⟨i,rfl⟩ <;> exact ⟨rfl,rfl,d8 _⟩
theorem uk {n:Nat}:∀ {l:List T},(∀ t∈l,l7 t=true∧plainT t=true∧dep t≤n)→sS l=true∧bG l=true∧i0 l≤n
 | [],_=>⟨rfl,rfl,kK _⟩
 | t :: l,h=>by
   obtain ⟨a,b,c⟩:=h t iO
   obtain ⟨a',b',c'⟩:=uk (l:=l) fun u hu=>h u (jX _ hu)
   simp only [sS,bG,i0,a,b,a',b',Bool.and_self,true_and]
   omega
theorem MI {t:T} (h:Part t):l7 t=true∧plainT t=true∧dep t≤1:=by
 rcases h with h | ⟨l,rfl,_,h⟩
 · obtain ⟨a,b,c⟩:=ED h
   exact ⟨a,b,by omega⟩
 · obtain ⟨a,b,c⟩:=uk fun u hu=>ED (h u hu)
   simp only [l7,plainT,dep,a,b,true_and]
   omega
theorem Vd {t:T} (h:RT t):l7 t=true∧plainT t=true∧dep t≤2:=by
 obtain ⟨x,ps,rfl,_,h⟩:=h
 obtain ⟨a,b,c⟩:=uk fun u hu=>MI (h u hu)
 simp only [l7,sS,plainT,bG,dep,i0,a,b,Bool.and_self,true_and]
 omega
theorem Jx {l:List T} (h:∀ t∈l,RT t):sS l=true∧plainT (.lst l)=true∧dep (.lst l)≤100:=by
 obtain ⟨a,b,c⟩:=uk fun u hu=>Vd (h u hu)
 simp only [plainT,dep,a,b,true_and]
 omega
theorem ow {p:T→Prop} {xs:List T} {t:T} {k:Nat} (h:∀ u∈xs,p u) (ht:p t):∀ u∈xs.take k ++ [t] ++ xs.drop k,p u:=by
 intro u hu
 rcases iI.mp hu with hu | hu
 · rcases iI.mp hu with hu | hu
   · exact h u (List.mem_of_mem_take hu)
   · rw [wH.mp hu]; exact ht
 · exact h u (List.mem_of_mem_drop hu)
theorem oy (xs:List T) (t:T) (k:Nat):(xs.take k ++ [t] ++ xs.drop k).length=xs.length+1:=by
 simp only [nU,EW,Ij,Nf]
 omega
structure Gd (rs:List Rw):Prop where
 n:rs.length≤60
 g:∀ r∈rs,jd (aV r)
 b:brk [] rs 0=none
 c:gI rs=none
def ev (ns:List Int) (ys:List Str) (xs:List T) (rs:List Rw) (c:Int) (r:List (Option (T×Bool))):En:=some (.lst (ns.map .int),false) :: some (.lst (ys.map .str),false) :: some (.lst xs,true) :: some (.lst (rs.map aV),false) :: some (.int c,false) :: r
structure Qs (ns:List Int) (ys:List Str) (rs:List Rw):Prop where
 n:ns.length≤63
 y:ys.length=6
 nm:∀ y∈ys,bF y=true
 gd:Gd rs
def Qt (n:Nat):FS:=fun d ρ=>∃ (ns:List Int) (ys:List Str) (xs:List T) (rs:List Rw) (c:Int),ρ=ev ns ys xs rs c [none,none,none,none]∧Qs ns ys rs∧xs.length≤n∧(∀ x∈xs,RT x∧q8 x=true)∧∀ ρ,d.rt ρ (.vw (.bl true))
def Ve:FS:=fun d ρ=>∃ (ns:List Int) (ys:List Str) (xs:List T) (rs:List Rw) (c:Int) (is:List Int) (b6:Option (T×Bool)) (p:Nat),ρ=ev ns ys xs rs c [some (.lst (is.map .int),false),b6,none,none]∧Qs ns ys rs∧xs.length≤64∧(∀ x∈xs,RT x)∧bI xs 0=some p∧(0 < is.length∧∀ m,m∈is→(∀ i∈is,m≤i)→m=(p:Int))∧∀ ρ,d.rt ρ (.vw (.bl true))
def Vf:FS:=fun d ρ=>∃ (ns:List Int) (ys:List Str) (xs:List T) (rs:List Rw) (c:Int) (b5 b6:Option (T×Bool)) (p:Nat),ρ=ev ns ys xs rs c [b5,b6,some (.tup [.str "row",.int (p:Int)],false),none]∧Qs ns ys rs∧xs.length≤70∧(∀ x∈xs,RT x)∧bI xs 0=some p∧∀ ρ,d.rt ρ (.vw (.bl true))
def cutD:FS:=fun d ρ=>∃ (ns:List Int) (ys:List Str) (xs:List T) (rs:List Rw) (c:Int) (b5 b6:Option (T×Bool)) (u:Str) (p:Nat),ρ=ev ns ys xs rs c [b5,b6,some (.tup [.str u,.int (p:Int)],false),none]∧Qs ns ys rs∧xs.length≤70∧(∀ x∈xs,RT x)∧((60 < xs.length∧u="great"∧p=0)∨(xs.length≤60∧u="row"∧bI xs 0=some p))∧∀ ρ,d.rt ρ (.vw (.bl true))
section
variable {P:Program} {w:World} {K:PySem.W.Frag} {mg:Str→Option Value} {base:Heap}
abbrev Qu:List Str:=["_law_script","_law_words_here","_law_rows","_law_good","_law_cell","_law_places","_law_at","_law_due","_law_held"]
theorem EE:aG Qu ["_law_script"] (aj kc):=L2.g7
theorem MJ {f:Addr} {fd:FuncData} (D:Df K mg "law" kc ["_law_script"] f fd) (M:Vc mg) (Bo:cm P w K mg base "_law_cell_at" ["_law_script","_law_k"] 1 (b_ K 2 eV.Jo)) (HX:cm P w K mg base "_law_words" ["_law_cell","_law_many"] 1 (b_ K 2 eV.Eh)) (MK:cm P w K mg base "_law_plan" ["_law_cell","_law_words_here"] 1 (b_ K 2 eV.Ju)) (Bp:cm P w K mg base "_law_program" ["_law_cells","_law_words_here","_law_plan_here"] 5 (b_ K 3 eV.we)) (Bq:cm P w K mg base "_law_bad_row" ["_law_cell","_law_words_here"] 1 (b_ K 2 Qr)) (Br:cm P w K mg base "_law_outcome" ["_law_rows"] 8 (b_ K 1 HF.Qb)):cS P w K mg base iW 9 f fd ["_law_script"] (b_ K 1 HW):=by
 obtain ⟨Nz,MM,gO,gP,gQ,gR⟩:=Bo
 obtain ⟨R4,Qv,m_words,HY,HZ,H_⟩:=HX
 obtain ⟨Vg,R5,MN,MO,MQ,MR⟩:=MK
 obtain ⟨NA,MS,Bs,Bt,Bu,Bv⟩:=Bp
 obtain ⟨NB,MT,sr,su,sx,sy⟩:=Bq
 obtain ⟨NC,MU,sA,sC,sD,sE⟩:=Br
 refine lU D.F EE rfl fun bE A outer s H E Ox hr ts q hG=>?_
 have nd:=EE.nd
 have hu:=bx.iM hr
 have np:∀ {i:Nat},aY ⟨H,[],Ox⟩ i:=kJ
 have U9:∀ {is:List Nat},∀ i∈is,aY ⟨H,[],Ox⟩ i:=fun i _=>kJ
 refine ⟨_,(af (aL (i:=1) nd rfl (Or.inl rfl) (VP.vx (aM H_ (hr.mono (by decide)) (by rfl) m_words HY HZ (aa (VP.ve (aM gR (hr.mono (by decide)) (by rfl) gO gP gQ (aa (ak 0) (aa (VP.ve ag) ai)))) (aa (VP.ve ag) ai)))) np)
   (af (eU (i:=2) nd rfl (Or.inl rfl) (VP.vx (aM Bv (hr.mono (by decide)) (by rfl) Bs Bt Bu (aa (VP.ve (i8 (ae 0) (jD (VP.vr ag)) n_)) (aa (ak 1) (aa (VP.ve (aM MR (hr.mono (by decide)) (by rfl) MN MO MQ (aa (VP.ve (aM gR (hr.mono (by decide)) (by rfl) gO gP gQ (aa (ak 0) (aa (VP.ve ag) ai)))) (aa (ak 1) ai)))) ai))))) np)
   (af (aL (i:=3) nd rfl (Or.inl rfl) (VP.vx (dw dC fF (by rfl) M.list o8 (ao (ae 2) au))) np)
   (af (aL (i:=4) nd rfl (Or.inl rfl) (VP.vx (aT (VP.vr (aM gR (hr.mono (by decide)) (by rfl) gO gP gQ (aa (ak 0) (aa (VP.ve ag) ai)))) (VP.vr (i6 (VP.vr ag) (VP.vr ag))))) np)
   (af (aP (bJ hu (VP.vr (aT (ae 4) (VP.vr ag))) (VP.vr ag))
     (ah (aX (cP 2 Q0 Q1 jQ iw (aa (VP.ve ag) (aa (VP.ve (aI (aa (VP.ve aq) ai))) ai)))))
     ax)
   (jE.weak (u:=((Qt 61))) (af (aP (bJ hu (VP.vr (aT (VP.vr (a_ (ae 4) (VP.vr ag))) (VP.vr ag))) (VP.vr ag))
     (ah (aX (cP 2 Q0 Q1 jQ iw (aa (VP.ve (ay (z_ rfl) xq (by rfl) M.min IX (ao (VP.vr ag) (ao (VP.vr (ay az aA (by rfl) M.len iA (ao (ae 2) au))) au)))) (aa (VP.ve (aI (aa (VP.ve aq) (aa (VP.ve (aW (ae 1) (VP.vr ag))) (aa (VP.ve aq) (aa (VP.ve (aI ai)) ai)))))) ai)))))
     ax)
   (jE.weak (u:=((Qt 62))) (af (aL (i:=5) nd rfl (Or.inl rfl) (VP.vx (bW (aa (VP.ve (aT (VP.vr (aM gR (hr.mono (by decide)) (by rfl) gO gP gQ (aa (ak 0) (aa (VP.ve ag) ai)))) (VP.vr (bu (VP.vr (ay az aA (by rfl) M.len iA (ao (ae 2) au))) (VP.vr ag))))) ai))) np)
   (af (aX (cP 2 Q0 Q1 jQ iw (aa (VP.ve (aW (ae 5) (VP.vr ag))) (aa (VP.ve (aM sy (hr.mono (by decide)) (by rfl) sr su sx (aa (VP.ve (a_ (ae 4) (VP.vr ag))) (aa (ak 1) ai)))) ai))))
   (af (aP (bJ hu (VP.vr (aT (VP.vr (a_ (ae 4) (VP.vr ag))) (VP.vr ag))) (VP.vr ag))
     (af (aL (i:=6) nd rfl (Or.inl rfl) (VP.vx (aT (VP.vr (aM gR (hr.mono (by decide)) (by rfl) gO gP gQ (aa (ak 0) (aa (VP.ve ag) ai)))) (VP.vr (bu (VP.vr (ay az aA (by rfl) M.len iA (ao (ae 2) au))) (VP.vr ag))))) np)
     (af (aX (cP 2 Q0 Q1 jQ iw (aa (ak 6) (aa (VP.ve (aM sy (hr.mono (by decide)) (by rfl) sr su sx (aa (VP.ve (a_ (ae 4) (VP.vr ag))) (aa (ak 1) ai)))) ai))))
     (ah (aL (i:=5) nd rfl (Or.inl rfl) (VP.vx (bW (aa (VP.ve (bu (VP.vr (aW (ae 5) (VP.vr ag))) (VP.vr (dw Aa xr (by rfl) M.int CU (ao (VP.vr (OU (ae 6) (VP.vr (aW (ae 5) (VP.vr ag))))) au))))) (aa (ak 6) ai)))) np))))
     ax)
   (jE.weak (u:=(Ve)) (af (aL (i:=7) nd rfl (Or.inl rfl) (VP.vx (aI (aa (VP.ve aq) (aa (VP.ve (ay (Bk rfl) ym (by rfl) M.min IX (ao (ae 5) au))) ai)))) np)
   (af (aP (bJ hu (VP.vr (aT (VP.vr (a_ (ae 4) (VP.vr ag))) (VP.vr ag))) (VP.vr ag))
     (ah (CM BM (i7 (VP.vr (ay az aA (by rfl) M.len iA (ao (ae 2) au))) (VP.vr (bu (VP.vr ag) (VP.vr (aT (VP.vr (a_ (ae 4) (VP.vr ag))) (VP.vr ag))))))
       (ah (aX (cP 2 uA uB bf ba (aa (VP.ve (aI (aa (VP.ve aq) ai))) ai))))))
     ax)
   (jE.weak (u:=(Vf)) (af (aP (mZ (VP.vr (ay az aA (by rfl) M.len iA (ao (ae 2) au))) (VP.vr ag))
     (ah (aL (i:=7) nd rfl (Or.inl rfl) (VP.vx (aI (aa (VP.ve aq) (aa (VP.ve ag) ai)))) np))
     ax)
   (jE.weak (u:=(cutD)) (y9 [2] (af (aL (i:=8) nd rfl (Or.inl rfl) (VP.vx (dw dC fF (by rfl) M.list o8 (ao (ae 2) au))) np)
   (af (aP (VW.vc (iZ (kW hu (VP.vr (aM sE (hr.mono (by decide)) (by rfl) sA sC sD (aa (ak 2) ai))) (ae 7)) (gk (kW hu (ae 2) (ae 8)))))
     (ah (aH (VP.vx j4)))
     ax)
   (ah (aH (VP.vx (rK hu (VP.vr (aM sE (hr.mono (by decide)) (by rfl) sA sC sD (aa (ak 3) ai))) (VP.vr (aI (aa (VP.ve aq) (aa (ak 3) ai)))))))))) U9) ?w5)) ?w4))) ?w3)))) ?w2)) ?w1)))))),fun _=>?main⟩
 case w1 =>
  rintro d ρ ⟨ns,ys,xs,rs,c,rfl,I,hn,hx,fin⟩
  have hy:=I.y
  refine ⟨⟨by decide,by decide⟩,(by show (0:Int) < 2; decide),?_⟩
  refine bX (fun h=>?_) (fun h=>⟨ns,ys,xs,rs,c,rfl,I,by omega,hx,fin⟩)
  refine ⟨_,EA (k:=0) (by omega),small (by simp),small (by simp),?_⟩
  have y0:ys.getD 0 ""∈ys:=by rw [List.getD,lK (by omega:0 < ys.length)]; exact B1 _
  have Qw:=lC (gF (ys:="nobodyno" :: ys) (fun y hy=>by
   rcases cL.mp hy with rfl | hy
   · decide +kernel
   · exact I.nm y hy) (show xR _ (Rw.call (ys.getD 0 "") "nobodyno" []) from ⟨jX _ y0,by simp,by simp,by simp⟩))
  generalize ek:(if ((xs.length:Int) < 1) then (xs.length:Int) else 1)=k
  have k0:0≤k:=by rw [← ek]; split <;> omega
  have k1:k≤1:=by rw [← ek]; split <;> omega
  refine ⟨k0,by omega,small (by omega),ns,ys,_,rs,c,rfl,I,by rw [oy]; omega,ow hx Qw,fin⟩
 case w2 =>
  rintro d ρ ⟨ns,ys,xs,rs,c,rfl,I,hn,hx,fin⟩
  have hy:=I.y
  have EB:=I.nm
  refine ⟨rfl,ns,3,rfl,(by show (0:Int) < (xs.length:Int)+1; omega),?_⟩
  have p0:0≤ns.getD 3 0 % ((xs.length:Int)+1):=lN _ (by omega)
  have p1:ns.getD 3 0 % ((xs.length:Int)+1) < (xs.length:Int)+1:=nA _ (by omega)
  generalize ns.getD 3 0 % ((xs.length:Int)+1)=p' at p0 p1 ⊢
  obtain ⟨p,rfl⟩:=EU p0
  refine ⟨small (by simp),_,rfl,⟨by decide,by decide⟩,rfl,_,ys,rfl,hy,EB,fun t tR tB=>?_⟩
  refine ⟨p0,by omega,small (by omega),⟨by decide,by decide⟩,(by show (0:Int) < 3; decide),?_⟩
  have BV:∀ x∈xs.take p ++ [t] ++ xs.drop p,RT x:=ow (fun x h=>(hx x h).1) tR
  have hb:=Bn (k:=p) (fun u hu=>(hx u hu).2) tB (by omega)
  have hl:=oy xs t p
  rw [B0]
  dsimp only [Rt.t]
  generalize xs.take p ++ [t] ++ xs.drop p=zs at BV hb hl ⊢
  refine bX (fun h=>?_) (fun h=>⟨ns,ys,zs,rs,c,[(p:Int)],none,p,rfl,I,by omega,BV,hb,⟨by simp,fun m hm _=>by simpa using hm⟩,fin⟩)
  refine ⟨rfl,ns,4,rfl,(by show (0:Int) < (zs.length:Int)+1; omega),?_⟩
  have a0:0≤ns.getD 4 0 % ((zs.length:Int)+1):=lN _ (by omega)
  have a1:ns.getD 4 0 % ((zs.length:Int)+1) < (zs.length:Int)+1:=nA _ (by omega)
  generalize ns.getD 4 0 % ((zs.length:Int)+1)=a' at a0 a1 ⊢
  obtain ⟨a,rfl⟩:=EU a0
  refine ⟨⟨by decide,by decide⟩,rfl,_,ys,rfl,hy,EB,fun t2 Y7 Y8=>?_⟩
  refine ⟨a0,by omega,small (by omega),?_⟩
  have WS:=ow (k:=a) BV Y7
  have Fb:=HV (k:=a) hb Y8 (by omega)
  have RN:=oy zs t2 a
  rw [B0]
  dsimp only [Rt.t]
  generalize zs.take a ++ [t2] ++ zs.drop a=ws at WS Fb RN ⊢
  refine ⟨_,rfl,_,rfl,?_⟩
  refine ⟨small (by simp),ns,ys,ws,rs,c,[(p:Int)+(if decide ((a:Int)≤(p:Int))=true then 1 else 0),(a:Int)],_,(if a≤p then a else p),rfl,I,by omega,WS,Fb,⟨by simp,fun m m1 m2=>?_⟩,fin⟩
  have g1:=m2 _ iO
  have g2:=m2 (a:Int) (by simp)
  simp only [cL,dZ,or_false] at m1
  simp only [decide_eq_true_eq] at g1 m1
  by_cases WU:a≤p
  · have h3:(a:Int)≤(p:Int):=by omega
    rw [if_pos WU]
    rw [if_pos h3] at g1 m1
    omega
  · have h3:¬ (a:Int)≤(p:Int):=by omega
    rw [if_neg WU]
    rw [if_neg h3] at g1 m1
    omega
 case w3 =>
  rintro d ρ ⟨ns,ys,xs,rs,c,is,b6,p,rfl,I,hn,hx,hb,⟨h0,hm⟩,fin⟩
  have hi:intsOf (is.map T.int)=some is:=ints_map is
  refine ⟨is,hi,h0,fun m m1 m2=>?_⟩
  rw [hm m m1 m2]
  refine ⟨small (by simp),⟨by decide,by decide⟩,(by show (0:Int) < 5; decide),?_⟩
  refine bX (fun h=>?_) (fun h=>⟨ns,ys,xs,rs,c,_,_,p,rfl,I,by omega,hx,hb,fin⟩)
  refine ⟨fun m ρ=>∃ xs:List T,ρ=ev ns ys xs rs c [some (.lst (is.map .int),false),b6,some (.tup [.str "row",.int (p:Int)],false),none]∧m=70 - xs.length∧xs.length≤70∧(∀ x∈xs,RT x)∧bI xs 0=some p,⟨_,xs,rfl,rfl,by omega,hx,hb⟩,?_⟩
  rintro m ρ ⟨xs,rfl,rfl,hl,hx,hb⟩
  have c0:0≤c / 120 % 9:=lN _ (by decide)
  have c1:c / 120 % 9 < 9:=nA _ (by decide)
  refine ⟨⟨by decide,by decide⟩,(by show (0:Int) < 9; decide),?_⟩
  refine bX (fun h=>?_) (fun h=>⟨ns,ys,xs,rs,c,_,_,p,rfl,I,by omega,hx,hb,fin⟩)
  refine ⟨small (by simp),small (by omega),_,?_,xs ++ [.tup [.str "skip"]],rfl,rfl,by simp; omega,fun x BV=>?_,HU hb⟩
  · simp; omega
  · rcases iI.mp BV with h1 | h1
    · exact hx x h1
    · rw [wH.mp h1]
      exact ⟨"skip",[],rfl,by simp,fun p hp=>nomatch hp⟩
 case w4 =>
  rintro d ρ ⟨ns,ys,xs,rs,c,b5,b6,p,rfl,I,hn,hx,hb,fin⟩
  refine bX (fun h=>?_) (fun h=>⟨ns,ys,xs,rs,c,b5,b6,_,p,rfl,I,hn,hx,.inr ⟨by omega,rfl,hb⟩,fin⟩)
  exact ⟨small (by simp),ns,ys,xs,rs,c,b5,b6,_,0,rfl,I,hn,hx,.inl ⟨by omega,rfl,rfl⟩,fin⟩
 case w5 =>
  rintro d ρ ⟨ns,ys,xs,rs,c,b5,b6,u,p,rfl,I,hn,hx,hb,fin⟩
  obtain ⟨him,hp,hd⟩:=Jx hx
  have he:=fE _ hp
  have G:=I.gd
  have Jy:∀ t∈rs.map aV,RT t∧q8 t=true:=fun t ht=>by
   obtain ⟨r,hr,rfl⟩:=wJ.mp ht
   exact lC (G.g r hr)
  obtain ⟨Y9,vm,hd2⟩:=Jx fun t ht=>(Jy t ht).1
  have Ut:=fE _ vm
  have zj:∀ ρ':En,d.rt ρ' (.vw (.bl (eqT (.tup [.str "made",.lst (rs.map aV)]) (.tup [.str "made",.lst (rs.map aV)])))):=fun ρ'=>by
   have:eqT (.tup [.str "made",.lst (rs.map aV)]) (.tup [.str "made",.lst (rs.map aV)])=true:=fE _ (by simp only [plainT,bG] at vm ⊢; rw [vm]; rfl)
   rw [this]; exact fin ρ'
  have Qx:HF.HJ rs = .tup [.str "made",.lst (rs.map aV)]:=by unfold HF.HJ; rw [G.b,G.c]
  have ND:plainT (.tup [.str "made",.lst (rs.map aV)])=true∧dep (.tup [.str "made",.lst (rs.map aV)])≤100:=by
   refine ⟨by simp only [plainT,bG] at vm ⊢; rw [vm]; rfl,?_⟩
   have:=fL (f:=aV) (n:=2) Dn rs
   simp only [dep,i0]
   omega
  have hz:(rs.map aV).length≤60:=by rw [cu]; exact G.n
  have eu:eqT (.tup [.str u,.int (p:Int)]) (.tup [.str u,.int (p:Int)])=true:=fE _ rfl
  have ne:(!eqT (.tup [.str u,.int (p:Int)]) (.tup [.str u,.int (p:Int)]))=false:=by rw [eu]; rfl
  have ne2:(!eqT (.lst xs) (.lst xs))=false:=by rw [he]; rfl
  refine ⟨rfl,xs,rfl,by omega,hx,?_⟩
  rcases hb with ⟨h1,rfl,rfl⟩ | ⟨h1,rfl,hb⟩
  · refine .inl ⟨h1,?_⟩
    refine ⟨rfl,rfl,by show dep (.tup [.str _,.int _])≤100; simp [dep,i0],?_⟩
    refine ff (c:=!eqT (.tup [.str "great",.int (0:Int)]) (.tup [.str "great",.int ((0:Nat):Int)])) ne ?_
    refine ⟨hp,hp,hd,?_⟩
    refine ff (c:=!eqT (.lst xs) (.lst xs)) ne2 ?_
    refine ⟨rfl,rs.map aV,rfl,by omega,fun t ht=>(Jy t ht).1,.inr (.inr ⟨hz,jw _ _ fun t ht=>(Jy t ht).2,rs,rfl,?_⟩)⟩
    rw [Qx]
    exact ⟨small (by simp),ND.1,ND.1,ND.2,zj _⟩
  · refine .inr (.inl ⟨h1,p,hb,?_⟩)
    refine ⟨rfl,rfl,by show dep (.tup [.str _,.int _])≤100; simp [dep,i0],?_⟩
    refine ff (c:=!eqT (.tup [.str "row",.int (p:Int)]) (.tup [.str "row",.int ((p:Nat):Int)])) ne ?_
    refine ⟨hp,hp,hd,?_⟩
    refine ff (c:=!eqT (.lst xs) (.lst xs)) ne2 ?_
    refine ⟨rfl,rs.map aV,rfl,by omega,fun t ht=>(Jy t ht).1,.inr (.inr ⟨hz,jw _ _ fun t ht=>(Jy t ht).2,rs,rfl,?_⟩)⟩
    rw [Qx]
    exact ⟨small (by simp),ND.1,ND.1,ND.2,zj _⟩
 case main =>
  obtain ⟨ns,rfl,Y_,hq⟩:=hG
  have yh:(cT (ns.getD 0 0) 6).length=6:=xE _ _
  have EB:∀ y∈cT (ns.getD 0 0) 6,bF y=true:=xQ
  have Lw:(cT (ns.getD 0 0) 6).Nodup:=vK (by decide)
  refine ⟨rfl,ns,0,rfl,rfl,_,6,rfl,by decide,by decide,?_⟩
  generalize cT (ns.getD 0 0) 6=ys at yh EB Lw ⊢
  obtain ⟨ms,Va,Us⟩:=eV.zO T.int ns (some 4) none
  refine ⟨rfl,ns,1,rfl,rfl,_,ys,rfl,yh,fun pl fg h1 h3=>?_⟩
  refine ⟨rfl,ms,ys,pl,by rw [← Va]; rfl,by omega,⟨yh,fun y hy=>by have:=cN.fU (EB y hy); omega,h3,fun p hp=>?_⟩,h1,fun rs kf hlen=>?_⟩
  · have:=(vL yh fg p.1 p.2 hp).2
    omega
  have jT:∀ r∈rs,jd (aV r):=fun r hr=>gF EB (Md yh Lw fg kf r hr)
  have I:Qs ns ys rs:=⟨Y_,yh,EB,hlen,jT,zS rs [] 0 (Ha kf),EC (DQ Lw fg kf)⟩
  have Jy:∀ t∈rs.map aV,RT t∧q8 t=true:=fun t ht=>by
   obtain ⟨r,hr,rfl⟩:=wJ.mp ht
   exact lC (jT r hr)
  have fin:∀ ρ':En,(fun (_:En) (r:Rt)=>q r) ρ' (.vw (.bl true)):=fun _=>hq
  have hz:(rs.map aV).length≤60:=by rw [cu]; exact hlen
  refine ⟨rfl,ns,2,rfl,⟨by decide,by decide⟩,(by show (0:Int) < 1000000000; decide),(by show (0:Int) < 2; decide),?_⟩
  refine bX (fun h=>?_) (fun h=>⟨ns,ys,_,rs,_,rfl,I,by omega,Jy,fin⟩)
  refine ⟨small (by simp),by decide,by decide,small (by omega),ns,ys,_,rs,_,rfl,I,?_,ow Jy ?_,fin⟩
  · rw [oy]; omega
  · exact lC (gF (ys:=ys) EB (show xR _ Rw.fin from trivial))
end
end uj
namespace gg
open PySem L2 VT
theorem Qy {K:PySem.W.Frag} {h:Heap} {mg:Str→Option Value} (X:K.In h) (G:h.Ns mainGlobals mg) {x:Str} {st:Stmt} {ps:List Str} {f:Addr} {oc:Value} {od an:Option Addr} {yR:Array (Option Value)} {kV doc pm bE ct:Value}
  (a:PySem.W.nsIn K mainGlobals x=some (some (.ref f))) (l:K.lookup f=some ⟨oc,od,.func (PySem.W.fnOf x x (eZ st) (cp st) (aj st) .none kV doc pm an bE ct),yR⟩)
  (c:PySem.W.codeIn K bE x=true) (k:PySem.W.keepIn K (.ref f)=true)
  (hb:∀ (kV doc pm:Value) (an:Option Addr) (bE ct:Value) (us:List Value),us.length=ps.length→bindArgs (PySem.W.fnOf x x (eZ st) (cp st) (aj st) .none kV doc pm an bE ct) ⟨us,[]⟩=pure (ps.zip us)) :
  ∃ f fd,Df K mg x st ps f fd:=by
 have F:=oG (st:=st) l c k
 exact ⟨f,_,F,jB X G a,F.binds hb⟩
theorem Vh {C:List Value→Prop} (h:C []):∀ us:List Value,us.length=0→C us
 | [],_=>h
theorem EF {n:Nat} {C:List Value→Prop} (h:∀ a,∀ us:List Value,us.length=n→C (a :: us)):∀ us:List Value,us.length=n+1→C us
 | a :: us,e=>h a us (Nat.succ.inj e)
theorem Qz {C:List Value→Prop} (h:∀ a,C [a]):∀ us:List Value,us.length=1→C us:=EF fun a=>Vh (h a)
theorem wj {C:List Value→Prop} (h:∀ a,C [a]):∀ us:List Value,us.length=1→C us:=Qz h
theorem BY {C:List Value→Prop} (h:∀ a b,C [a,b]):∀ us:List Value,us.length=2→C us:=EF fun a=>wj (h a)
theorem R6 {C:List Value→Prop} (h:∀ a b c,C [a,b,c]):∀ us:List Value,us.length=3→C us:=EF fun a=>BY (h a)
theorem WV {C:List Value→Prop} (h:∀ a b c d,C [a,b,c,d]):∀ us:List Value,us.length=4→C us:=EF fun a=>R6 (h a)
theorem Y' {C:List Value→Prop} (h:∀ a b c d e,C [a,b,c,d,e]):∀ us:List Value,us.length=5→C us:=EF fun a=>WV (h a)
abbrev pE:Program:=PySem.Challenge.pw_slicewise_k06_rows_refused
noncomputable def qE:Program:=PySem.W.view pE [1,2,3,4,5,6,7,8,9,10,12,13,14,15,16,17,18,19,20,21,22,23,24,25,26,28,29,30,31,32,33,34,35,36,37,38,40,41,42,43,44,45,46,47,48,49,50,51,52]
def qm:List Str:=["FORMS"]
def Jz:List Addr:=[0,1,2,3,4,5,6,7,8,9,10,11,12,13,14,15,22,23,24,25,28,35,36,37,40,47,48,49,52,59,60,61,64,71,72,73,76,83,84,85,88,95,96,97,98,99,100,101,102,103,104,107,114,115,116,117,118,119,120,121,122,123,126,133,134,135,136,137,138,139,140,141,142,145,152,153,154,155,156,157,158,159,160,161,164,165,166,167,168,169,170,171,172,173,174,175,176,177,178,179,180,181,182,183,184,185,186,187,188,189,190,191,192,193,194,195,196,197,198,199,200,201,202,203,204,205,206,207,208,209,210,211,212,213,214,215,216,217,218,219,220,221,222,223,224,225,226,227,228,229,230,231,232,233,234,235,236,237,238,239,240,241,242,243,244,245,246,247,248,249,250,251,252,253,254,255,256,257,258,259,260,261,262,263,264,265,266,267,268,269,270,271,272,273,274,275,276,277,278,279,280,281,282,283,284,285,286,287,288,289,290,291,292,293,294,295,296,297,298,299,300,301,302,303,304,305,306,307,308,309,310,311,312,313,314,315,316,317,318,319,320,321,322,323,324,325,326,327,328,329,330,331,332,333,334,335,336,337,338,339,340,341,342,343,344,345,346,347,348,349,350,351,352,353,354,355,356,357,358,359,360,361,362,363,364,365,366,367,368,369,370,371,372,373,374,375,376,377,378,379,380,381]
abbrev OV:=Option (Option Value)
abbrev OO:=Option Obj
abbrev N (K:PySem.W.Frag) (x:Str):=PySem.W.nsIn K mainGlobals x
abbrev Lk (K:PySem.W.Frag) (a:Addr):=List.lookup a K
abbrev R (a:Addr):OV:=some (some (.ref a))
abbrev fo (x q:Str) (st:Stmt) (pm:Value) (c:Addr):OO:=some ⟨.type "function",none,.func (PySem.W.fnOf x q (eZ st) (cp st) (aj st) .none .none .none pm none (.ref c) .none),#[]⟩
abbrev cI (K:PySem.W.Frag) (c:Value) (q:Str):=PySem.W.codeIn K c q
abbrev kI (K:PySem.W.Frag) (f:Addr):=PySem.W.keepIn K (.ref f)
abbrev fI (K:PySem.W.Frag) (c:Addr) (x:Str):=PySem.W.findIn K (.ref c) x
abbrev Q4:=OV×OO×Bool×Bool
noncomputable def q4 (K:PySem.W.Frag) (x:Str) (f c:Addr):Q4:=(N K x,Lk K f,cI K (.ref c) x,kI K f)
noncomputable def v4 (x:Str) (st:Stmt) (f:Addr) (pm:Value) (c:Addr):Q4:=(R f,fo x x st pm c,true,true)
theorem bU {K:PySem.W.Frag} {h:Heap} {mg:Str→Option Value} (X:K.In h) (G:h.Ns mainGlobals mg) {x:Str} {st:Stmt} {ps:List Str} {f c:Addr} {pm:Value} (e:q4 K x f c=v4 x st f pm c)
  (hb:∀ (kV doc pm:Value) (an:Option Addr) (bE ct:Value) (us:List Value),us.length=ps.length→bindArgs (PySem.W.fnOf x x (eZ st) (cp st) (aj st) .none kV doc pm an bE ct) ⟨us,[]⟩=pure (ps.zip us)) :
  ∃ f fd,Df K mg x st ps f fd:=by
 unfold q4 v4 at e
 simp only [Prod.mk.injEq] at e
 exact Qy X G e.1 e.2.1 e.2.2.1 e.2.2.2 hb
abbrev XX:Type:=((((((OV×(OV×OV))×((OV×OV)×(OV×OO)))×((OV×(OO×OV))×((OO×OV)×(OV×OV))))×(((OV×(OV×OV))×((OV×OV)×(OV×OV)))×((OV×(OV×OV))×((OV×OV)×(OV×OV)))))×((((OV×(OV×OV))×((OV×OV)×(OO×OO)))×((OO×(OO×OO))×((OO×OO)×(OO×OO))))×(((OO×(OO×OO))×((OO×OO)×(OO×OV)))×(((OV×OV)×(OV×OV))×((OV×OV)×(OV×OV))))))×(((((OV×(Bool×Bool))×((Bool×Bool)×(Bool×OV)))×((Bool×(OO×Bool))×((Bool×Bool)×(OV×Bool))))×(((OO×(Bool×Bool))×((Bool×OV)×(Bool×OO)))×((Bool×(Bool×Bool))×((OV×OO)×(Bool×Bool)))))×((((Q4×(Q4×Q4))×((Q4×Q4)×(Q4×Q4)))×((Q4×(Q4×Q4))×((Q4×Q4)×(Q4×Q4))))×(((Q4×(Q4×Q4))×((Q4×Q4)×(Q4×Q4)))×(((Q4×Q4)×(Q4×Q4))×((Q4×Q4)×(Q4×Q4)))))))
noncomputable def FF (K:PySem.W.Frag):XX:=((((((N K "H",(N K "LETTERS",N K "LONGEST_NAME")),((N K "MOST_PARTS",N K "MOST_ROWS"),(N K "RECKONINGS",Lk K 164))),((N K "OPENERS",(Lk K 235,N K "CLOSERS")),((Lk K 236,N K "isinstance"),(N K "int",N K "bool")))),(((N K "str",(N K "len",N K "all")),((N K "tuple",N K "set"),(N K "zip",N K "range"))),((N K "sum",(N K "list",N K "enumerate")),((N K "ValueError",N K "min"),(N K "is_name",N K "are_parameters"))))),((((N K "is_operand",(N K "is_reckoning",N K "is_key")),((N K "are_operands",N K "FORMS"),(Lk K 215,Lk K 229))),((Lk K 228,(Lk K 227,Lk K 226)),((Lk K 225,Lk K 224),(Lk K 223,Lk K 222)))),(((Lk K 221,(Lk K 220,Lk K 219)),((Lk K 218,Lk K 217),(Lk K 216,N K "SliceError"))),(((N K "TooGreat",N K "NoRow"),(N K "NoBlock",N K "NoCall")),((N K "NoText",N K "NoPlace"),(N K "Unlike",N K "NoFault")))))),(((((N K "Done",(EX.WK K [37,104,123,142,161,49,61,73,85] 24,EX.UZ K 24)),((EX.RY K 24 [],kI K 37),(EX.P6 K 37,fI K 104 "__init__"))),((PySem.W.isFn K (.ref 101),(Lk K 101,cI K (.ref 100) "NoRow.__init__")),((kI K 101,kI K 104),(fI K 123 "__init__",PySem.W.isFn K (.ref 120))))),(((Lk K 120,(cI K (.ref 119) "NoBlock.__init__",kI K 120)),((kI K 123,fI K 142 "__init__"),(PySem.W.isFn K (.ref 139),Lk K 139))),((cI K (.ref 138) "NoCall.__init__",(kI K 139,kI K 142)),((N K "law",Lk K 381),(cI K (.ref 380) "law",kI K 381))))),((((q4 K "is_number" 171 170,(q4 K "is_name" 176 175,q4 K "is_operand" 183 182)),((q4 K "is_field" 190 189,q4 K "is_key" 197 196),(q4 K "is_reckoning" 204 203,q4 K "are_operands" 209 208))),((q4 K "are_parameters" 214 213,(q4 K "is_row" 234 233,q4 K "may_stand" 264 263)),((q4 K "go_past" 271 270,q4 K "check_rows" 250 249),(q4 K "check_blocks" 257 256,q4 K "first_defs" 285 284)))),(((q4 K "may_call" 292 291,(q4 K "check_calls" 278 277,q4 K "program_of" 243 242)),((q4 K "_law_cell_at" 299 298,q4 K "_law_words" 306 305),(q4 K "_law_operand" 313 312,q4 K "_law_key" 320 319))),(((q4 K "_law_call" 327 326,q4 K "_law_simple" 334 333),(q4 K "_law_lay" 341 340,q4 K "_law_plan" 346 345)),((q4 K "_law_program" 353 352,q4 K "_law_which" 360 359),(q4 K "_law_outcome" 367 366,q4 K "_law_bad_row" 374 373)))))))
noncomputable def VV (w:World):XX:=((((((some (some (.int 1000000000000000000000000000000 389)),(some (some (.str wC.bw 391)),some (some (.int 8 393)))),((some (some (.int 4 395)),some (some (.int 60 495))),(R 164,some ⟨.type "tuple",none,.seq #[.str "plus" 397,.str "minus" 398,.str "times" 399,.str "over" 400,.str "rest" 401,.str "less" 402,.str "same" 403] 0,#[]⟩))),((R 235,(some ⟨.type "tuple",none,.seq #[.str "def" 497,.str "if" 498,.str "while" 499] 0,#[]⟩,R 236)),((some ⟨.type "tuple",none,.seq #[.str "give" 501,.str "end" 502] 0,#[]⟩,some none),(some none,some none)))),(((some none,(some none,some none)),((some none,some none),(some none,some none))),((some none,(some none,some none)),((some none,some none),(R 176,R 214))))),((((R 183,(R 204,R 197)),((R 209,R 215),(some ⟨.type "dict",none,.dict #[⟨PyData.keyHash w.params "def",.str "def" 458,.ref 216⟩,⟨PyData.keyHash w.params "give",.str "give" 459,.ref 217⟩,⟨PyData.keyHash w.params "put",.str "put" 460,.ref 218⟩,⟨PyData.keyHash w.params "do",.str "do" 461,.ref 219⟩,⟨PyData.keyHash w.params "new",.str "new" 462,.ref 220⟩,⟨PyData.keyHash w.params "get",.str "get" 463,.ref 221⟩,⟨PyData.keyHash w.params "set",.str "set" 464,.ref 222⟩,⟨PyData.keyHash w.params "call",.str "call" 465,.ref 223⟩,⟨PyData.keyHash w.params "fail",.str "fail" 466,.ref 224⟩,⟨PyData.keyHash w.params "if",.str "if" 467,.ref 225⟩,⟨PyData.keyHash w.params "else",.str "else" 468,.ref 226⟩,⟨PyData.keyHash w.params "while",.str "while" 469,.ref 227⟩,⟨PyData.keyHash w.params "end",.str "end" 470,.ref 228⟩,⟨PyData.keyHash w.params "skip",.str "skip" 471,.ref 229⟩] 14,#[]⟩,some ⟨.type "tuple",none,.seq #[] 0,#[]⟩))),((some ⟨.type "tuple",none,.seq #[] 0,#[]⟩,(some ⟨.type "tuple",none,.seq #[.ref 183] 0,#[]⟩,some ⟨.type "tuple",none,.seq #[] 0,#[]⟩)),((some ⟨.type "tuple",none,.seq #[.ref 183] 0,#[]⟩,some ⟨.type "tuple",none,.seq #[.ref 176] 0,#[]⟩),(some ⟨.type "tuple",none,.seq #[.ref 176,.ref 176,.ref 209] 0,#[]⟩,some ⟨.type "tuple",none,.seq #[.ref 176,.ref 197,.ref 183] 0,#[]⟩)))),(((some ⟨.type "tuple",none,.seq #[.ref 176,.ref 176,.ref 197] 0,#[]⟩,(some ⟨.type "tuple",none,.seq #[.ref 176] 0,#[]⟩,some ⟨.type "tuple",none,.seq #[.ref 176,.ref 183,.ref 204,.ref 183] 0,#[]⟩)),((some ⟨.type "tuple",none,.seq #[.ref 176,.ref 183] 0,#[]⟩,some ⟨.type "tuple",none,.seq #[.ref 183] 0,#[]⟩),(some ⟨.type "tuple",none,.seq #[.ref 176,.ref 214] 0,#[]⟩,R 24))),(((R 37,R 104),(R 123,R 142)),((R 161,R 49),(R 61,R 73)))))),(((((R 85,(true,true)),((true,true),(true,some (some (.ref 101))))),((true,(fo "__init__" "NoRow.__init__" wG.lH (.str "slicewise.errors" 187) 100,true)),((true,true),(some (some (.ref 120)),true)))),(((fo "__init__" "NoBlock.__init__" wG.gN (.str "slicewise.errors" 187) 119,(true,true)),((true,some (some (.ref 139))),(true,fo "__init__" "NoCall.__init__" wG.jz (.str "slicewise.errors" 187) 138))),((true,(true,true)),((R 381,fo "law" "law" uj.kc (.str "law_slicewise_k06_rows_refused" 578) 380),(true,true))))),((((v4 "is_number" cN.gb 171 (.str "slicewise.rows" 387) 170,(v4 "is_name" cN.jH 176 (.str "slicewise.rows" 387) 175,v4 "is_operand" cN.h_ 183 (.str "slicewise.rows" 387) 182)),((v4 "is_field" cN.kq 190 (.str "slicewise.rows" 387) 189,v4 "is_key" cN.pA 197 (.str "slicewise.rows" 387) 196),(v4 "is_reckoning" cN.dG 204 (.str "slicewise.rows" 387) 203,v4 "are_operands" cN.dH 209 (.str "slicewise.rows" 387) 208))),((v4 "are_parameters" cN.eI 214 (.str "slicewise.rows" 387) 213,(v4 "is_row" cN.pH 234 (.str "slicewise.rows" 387) 233,v4 "may_stand" cN.je 264 (.str "slicewise.programs" 493) 263)),((v4 "go_past" cN.gG 271 (.str "slicewise.programs" 493) 270,v4 "check_rows" Ff.cO 250 (.str "slicewise.programs" 493) 249),(v4 "check_blocks" Ht.bZ 257 (.str "slicewise.programs" 493) 256,v4 "first_defs" cN.ib 285 (.str "slicewise.programs" 493) 284)))),(((v4 "may_call" Ht.eM 292 (.str "slicewise.programs" 493) 291,(v4 "check_calls" Ht.ck 278 (.str "slicewise.programs" 493) 277,v4 "program_of" Ff.bj 243 (.str "slicewise.programs" 493) 242)),((v4 "_law_cell_at" eV.gJ 299 (.str "law_slicewise_k06_rows_refused" 578) 298,v4 "_law_words" eV.lF 306 (.str "law_slicewise_k06_rows_refused" 578) 305),(v4 "_law_operand" eV.gK 313 (.str "law_slicewise_k06_rows_refused" 578) 312,v4 "_law_key" eV.v5 320 (.str "law_slicewise_k06_rows_refused" 578) 319))),(((v4 "_law_call" eV.s_call 327 (.str "law_slicewise_k06_rows_refused" 578) 326,v4 "_law_simple" eV.jy 334 (.str "law_slicewise_k06_rows_refused" 578) 333),(v4 "_law_lay" eV.v7 341 (.str "law_slicewise_k06_rows_refused" 578) 340,v4 "_law_plan" eV.qe 346 (.str "law_slicewise_k06_rows_refused" 578) 345)),((v4 "_law_program" eV.gL 353 (.str "law_slicewise_k06_rows_refused" 578) 352,v4 "_law_which" HF.iq 360 (.str "law_slicewise_k06_rows_refused" 578) 359),(v4 "_law_outcome" HF.jN 367 (.str "law_slicewise_k06_rows_refused" 578) 366,v4 "_law_bad_row" uj.jO 374 (.str "law_slicewise_k06_rows_refused" 578) 373)))))))
theorem yp (w:World) (os:OsState):HE.lookA pE qE qm [] [] (HE.d_ (w.withFollow "special-get-raises" false).params) (PySem.W.boot_heap (w.withFollow "special-get-raises" false).params) (w.withFollow "special-get-raises" false) 3588 os=some (true,(PySem.W.openGood qE qm).1,(PySem.W.openGood qE qm).2.1):=by
 rw [PySem.W.Fast.te2848547177322276819]
 kernel_rfl
theorem Bw (w:World) (os:OsState):HE.lookA pE qE qm [] [] (HE.d_ (w.withFollow "special-get-raises" true).params) (PySem.W.boot_heap (w.withFollow "special-get-raises" true).params) (w.withFollow "special-get-raises" true) 3588 os=some (true,(PySem.W.openGood qE qm).1,(PySem.W.openGood qE qm).2.1):=by
 rw [PySem.W.Fast.te2848547177322276819]
 kernel_rfl
theorem Vi (w:World) (os:OsState):HE.lookA pE qE qm [] [] (HE.d_ (w).params) (PySem.W.boot_heap (w).params) (w) 3588 os=some (true,(PySem.W.openGood qE qm).1,(PySem.W.openGood qE qm).2.1) :=
 PySem.W.byRow2 "special-get-raises" (P:=fun w=>∀ os,HE.lookA pE qE qm [] [] (HE.d_ (w).params) (PySem.W.boot_heap (w).params) (w) 3588 os=some (true,(PySem.W.openGood qE qm).1,(PySem.W.openGood qE qm).2.1)) yp Bw w os
theorem yq (w:World) (os:OsState):HE.lookB pE qE qm [] [] (HE.d_ (w.withFollow "special-get-raises" false).params) (w.withFollow "special-get-raises" false) 3588 os=some (PySem.W.openGood qE qm).2.2:=by
 rw [PySem.W.Fast.te312265020846911052]
 kernel_rfl
theorem By (w:World) (os:OsState):HE.lookB pE qE qm [] [] (HE.d_ (w.withFollow "special-get-raises" true).params) (w.withFollow "special-get-raises" true) 3588 os=some (PySem.W.openGood qE qm).2.2:=by
 rw [PySem.W.Fast.te312265020846911052]
 kernel_rfl
theorem Vj (w:World) (os:OsState):HE.lookB pE qE qm [] [] (HE.d_ (w).params) (w) 3588 os=some (PySem.W.openGood qE qm).2.2 :=
 PySem.W.byRow2 "special-get-raises" (P:=fun w=>∀ os,HE.lookB pE qE qm [] [] (HE.d_ (w).params) (w) 3588 os=some (PySem.W.openGood qE qm).2.2) yq By w os
theorem yr (w:World) (os:OsState):HE.lookC pE Jz FF (HE.d_ (w.withFollow "special-get-raises" false).params) (w.withFollow "special-get-raises" false) 3588 os=some (VV (w.withFollow "special-get-raises" false)):=by
 rw [PySem.W.Fast.te3135357915001837337]
 kernel_rfl
theorem Bz (w:World) (os:OsState):HE.lookC pE Jz FF (HE.d_ (w.withFollow "special-get-raises" true).params) (w.withFollow "special-get-raises" true) 3588 os=some (VV (w.withFollow "special-get-raises" true)):=by
 rw [PySem.W.Fast.te3135357915001837337]
 kernel_rfl
theorem runC (w:World) (os:OsState):HE.lookC pE Jz FF (HE.d_ (w).params) (w) 3588 os=some (VV (w)) :=
 PySem.W.byRow2 "special-get-raises" (P:=fun w=>∀ os,HE.lookC pE Jz FF (HE.d_ (w).params) (w) 3588 os=some (VV (w))) yr Bz w os
theorem MV:PySem.Challenge.rw_slicewise_k06_rows_refused.wellSaid=true:=by kernel_rfl
noncomputable abbrev KE (w:World):PySem.W.Frag:=HE.Kf Jz (HE.tJ pE 7856 w)
noncomputable abbrev dE:DefRec:=HE.Pm uj.kc
theorem hd:PySem.W.LeftO pE qE qm (HE.GI qE [] []) (fun s=>Jz.map s.heap.get?) (fun w=>Jz.map (HE.tJ pE 7856 w)) 7856∧∀ w,FF (KE w)=VV w:=HE.head (p:=pE) (q:=qE) (loose:=qm) (lv:=[]) (R:=[]) (as:=Jz) (N:=7856) (M:=3588) (F:=FF) (v:=VV) (by kernel_rfl) rfl (fun s=>by kernel_rfl) rfl Vi Vj runC
theorem MW {l:PySem.W.OpenLaw} {w:World} {K:PySem.W.Frag} {h:Heap} {mg:Str→Option Value} {fa:Addr} (X:K.In h) (G:h.Ns mainGlobals mg) (WW:mg "law" = some (.ref fa)) (hF:FF K=VV w) :
  ∃ fd:FuncData,(∀ (s:Shared) (v:Value),BindsTo s fd ⟨[v],[]⟩ [("_law_script",v)])∧∀ base:Heap,K.In base→base.Ns mainGlobals mg→cS l.prog w K mg base iW 9 fa fd ["_law_script"] (b_ K 1 uj.HW):=by
 simp only [FF,VV,Prod.mk.injEq] at hF
 obtain ⟨⟨⟨⟨⟨⟨Za,⟨Zb,Zd⟩⟩,⟨⟨Ze,Zf⟩,⟨Vk,Vl⟩⟩⟩,⟨⟨Vm,⟨Vn,Vo⟩⟩,⟨⟨Vp,gx⟩,⟨um,uo⟩⟩⟩⟩,⟨⟨⟨EG,⟨qo,EH⟩⟩,⟨⟨wm,MX⟩,⟨MY,EI⟩⟩⟩,⟨⟨MZ,⟨zT,uq⟩⟩,⟨⟨rf,M0⟩,⟨yt,lJ⟩⟩⟩⟩⟩,⟨⟨⟨⟨rg,⟨nN,BA⟩⟩,⟨⟨nO,Vq⟩,⟨Vr,Ia⟩⟩⟩,⟨⟨Ib,⟨Ic,Ie⟩⟩,⟨⟨M5,M6⟩,⟨M7,M8⟩⟩⟩⟩,⟨⟨⟨M9,⟨M_,M'⟩⟩,⟨⟨Na,Nb⟩,⟨Nc,eQ⟩⟩⟩,⟨⟨⟨nz,wo⟩,⟨qp,sF⟩⟩,⟨⟨BB,yu⟩,⟨BC,yw⟩⟩⟩⟩⟩⟩,⟨⟨⟨⟨⟨Ig,⟨rh,Zg⟩⟩,⟨⟨Zh,wq⟩,⟨jx,EJ⟩⟩⟩,⟨⟨EK,⟨EL,EM⟩⟩,⟨⟨EN,EO⟩,⟨yx,yy⟩⟩⟩⟩,⟨⟨⟨yz,⟨yA,yB⟩⟩,⟨⟨yC,BD⟩,⟨BE,BF⟩⟩⟩,⟨⟨BG,⟨BH,BI⟩⟩,⟨⟨QA,QB⟩,⟨QC,QD⟩⟩⟩⟩⟩,⟨⟨⟨⟨Vs,⟨Vt,Vu⟩⟩,⟨⟨Vv,Vw⟩,⟨Vx,Vy⟩⟩⟩,⟨⟨Vz,⟨VB,VF⟩⟩,⟨⟨QE,QF⟩,⟨QG,QH⟩⟩⟩⟩,⟨⟨⟨QI,⟨QJ,QK⟩⟩,⟨⟨QL,QM⟩,⟨QN,QO⟩⟩⟩,⟨⟨⟨QP,QQ⟩,⟨QR,QS⟩⟩,⟨⟨QT,QU⟩,⟨QV,QW⟩⟩⟩⟩⟩⟩⟩:=hF
 have e:=WW.symm.trans (jB X G QA)
 cases e
 have wt:=oG (st:=wG.lH) EL EM EN
 have ER:wG.DX K mg "NoRow" "NoRow.__init__" wG.lH 24 104 101 _:=⟨wt,jB X G wo,EO,wt.binds (fun _ _ _ _ _ _=>(gg.BY fun _ _=>rfl)),((EX.kb rh).2.2 104 (by simp)).1,((EX.kb rh).2.2 104 (by simp)).2,EJ,beq_iff_eq.mp EK⟩
 have qq:=oG (st:=wG.gN) yz yA yB
 have yD:wG.DX K mg "NoBlock" "NoBlock.__init__" wG.gN 24 123 120 _:=⟨qq,jB X G qp,yC,qq.binds (fun _ _ _ _ _ _=>(gg.BY fun _ _=>rfl)),((EX.kb rh).2.2 123 (by simp)).1,((EX.kb rh).2.2 123 (by simp)).2,yx,beq_iff_eq.mp yy⟩
 have sG:=oG (st:=wG.jz) BF BG BH
 have BJ:wG.DX K mg "NoCall" "NoCall.__init__" wG.jz 24 142 139 _:=⟨sG,jB X G sF,BI,sG.binds (fun _ _ _ _ _ _=>(gg.BY fun _ _=>rfl)),((EX.kb rh).2.2 142 (by simp)).1,((EX.kb rh).2.2 142 (by simp)).2,BD,beq_iff_eq.mp BE⟩
 have M2:cN.RL mg:=⟨⟨_,jB X G Za⟩,⟨_,jB X G Zb⟩,⟨_,jB X G Zd⟩,(kG X G gx),(kG X G um),(kG X G uo),(kG X G EG),(kG X G qo),(kG X G EH)⟩
 have M3:cN.L7 w K mg:=⟨M2,⟨_,jB X G Ze⟩,⟨164,jB X G Vk,fun H=>.inr ⟨_,_,_,Vl,rfl,rfl,Gen.small (by simp),.cons ⟨_,rfl⟩ (.cons ⟨_,rfl⟩ (.cons ⟨_,rfl⟩ (.cons ⟨_,rfl⟩ (.cons ⟨_,rfl⟩ (.cons ⟨_,rfl⟩ (.cons ⟨_,rfl⟩ (.nil)))))))⟩⟩,(kG X G gx),(kG X G um),(kG X G uo),(kG X G EG),(kG X G qo),(kG X G EH),(kG X G wm),(kG X G MX),(kG X G MY)⟩
 have M4:cN.Wy w K mg:=⟨M3,⟨215,fun s=>match s with | .nm=>176 | .op=>183 | .key=>197 | .rk=>204 | .par=>214 | .ops=>209,(jB X G Vq),fun s=>match s with | .nm=>(jB X G yt) | .op=>(jB X G rg) | .key=>(jB X G BA) | .rk=>(jB X G nN) | .par=>(jB X G lJ) | .ops=>(jB X G nO),⟨_,_,Vr,(by first | rfl | decide),.cons ⟨rfl,⟨_,rfl⟩,.ref 216,rfl,fun _ _=>bA (vs:=[V.ref 176,V.ref 214]) (.inr ⟨_,_,_,Nc,rfl,rfl,Gen.small (by simp),.cons rfl (.cons rfl (.nil))⟩) (aE.cons (by simp only [At]) (aE.cons (by simp only [At]) (aE.nil)))⟩ (.cons ⟨rfl,⟨_,rfl⟩,.ref 217,rfl,fun _ _=>bA (vs:=[V.ref 183]) (.inr ⟨_,_,_,Nb,rfl,rfl,Gen.small (by simp),.cons rfl (.nil)⟩) (aE.cons (by simp only [At]) (aE.nil))⟩ (.cons ⟨rfl,⟨_,rfl⟩,.ref 218,rfl,fun _ _=>bA (vs:=[V.ref 176,V.ref 183]) (.inr ⟨_,_,_,Na,rfl,rfl,Gen.small (by simp),.cons rfl (.cons rfl (.nil))⟩) (aE.cons (by simp only [At]) (aE.cons (by simp only [At]) (aE.nil)))⟩ (.cons ⟨rfl,⟨_,rfl⟩,.ref 219,rfl,fun _ _=>bA (vs:=[V.ref 176,V.ref 183,V.ref 204,V.ref 183]) (.inr ⟨_,_,_,M',rfl,rfl,Gen.small (by simp),.cons rfl (.cons rfl (.cons rfl (.cons rfl (.nil))))⟩) (aE.cons (by simp only [At]) (aE.cons (by simp only [At]) (aE.cons (by simp only [At]) (aE.cons (by simp only [At]) (aE.nil)))))⟩ (.cons ⟨rfl,⟨_,rfl⟩,.ref 220,rfl,fun _ _=>bA (vs:=[V.ref 176]) (.inr ⟨_,_,_,M_,rfl,rfl,Gen.small (by simp),.cons rfl (.nil)⟩) (aE.cons (by simp only [At]) (aE.nil))⟩ (.cons ⟨rfl,⟨_,rfl⟩,.ref 221,rfl,fun _ _=>bA (vs:=[V.ref 176,V.ref 176,V.ref 197]) (.inr ⟨_,_,_,M9,rfl,rfl,Gen.small (by simp),.cons rfl (.cons rfl (.cons rfl (.nil)))⟩) (aE.cons (by simp only [At]) (aE.cons (by simp only [At]) (aE.cons (by simp only [At]) (aE.nil))))⟩ (.cons ⟨rfl,⟨_,rfl⟩,.ref 222,rfl,fun _ _=>bA (vs:=[V.ref 176,V.ref 197,V.ref 183]) (.inr ⟨_,_,_,M8,rfl,rfl,Gen.small (by simp),.cons rfl (.cons rfl (.cons rfl (.nil)))⟩) (aE.cons (by simp only [At]) (aE.cons (by simp only [At]) (aE.cons (by simp only [At]) (aE.nil))))⟩ (.cons ⟨rfl,⟨_,rfl⟩,.ref 223,rfl,fun _ _=>bA (vs:=[V.ref 176,V.ref 176,V.ref 209]) (.inr ⟨_,_,_,M7,rfl,rfl,Gen.small (by simp),.cons rfl (.cons rfl (.cons rfl (.nil)))⟩) (aE.cons (by simp only [At]) (aE.cons (by simp only [At]) (aE.cons (by simp only [At]) (aE.nil))))⟩ (.cons ⟨rfl,⟨_,rfl⟩,.ref 224,rfl,fun _ _=>bA (vs:=[V.ref 176]) (.inr ⟨_,_,_,M6,rfl,rfl,Gen.small (by simp),.cons rfl (.nil)⟩) (aE.cons (by simp only [At]) (aE.nil))⟩ (.cons ⟨rfl,⟨_,rfl⟩,.ref 225,rfl,fun _ _=>bA (vs:=[V.ref 183]) (.inr ⟨_,_,_,M5,rfl,rfl,Gen.small (by simp),.cons rfl (.nil)⟩) (aE.cons (by simp only [At]) (aE.nil))⟩ (.cons ⟨rfl,⟨_,rfl⟩,.ref 226,rfl,fun _ _=>bA (vs:=[]) (.inr ⟨_,_,_,Ie,rfl,rfl,Gen.small (by simp),.nil⟩) (aE.nil)⟩ (.cons ⟨rfl,⟨_,rfl⟩,.ref 227,rfl,fun _ _=>bA (vs:=[V.ref 183]) (.inr ⟨_,_,_,Ic,rfl,rfl,Gen.small (by simp),.cons rfl (.nil)⟩) (aE.cons (by simp only [At]) (aE.nil))⟩ (.cons ⟨rfl,⟨_,rfl⟩,.ref 228,rfl,fun _ _=>bA (vs:=[]) (.inr ⟨_,_,_,Ib,rfl,rfl,Gen.small (by simp),.nil⟩) (aE.nil)⟩ (.cons ⟨rfl,⟨_,rfl⟩,.ref 229,rfl,fun _ _=>bA (vs:=[]) (.inr ⟨_,_,_,Ia,rfl,rfl,Gen.small (by simp),.nil⟩) (aE.nil)⟩ (.nil)))))))))))))),by show ([("def" : Str),("give" : Str),("put" : Str),("do" : Str),("new" : Str),("get" : Str),("set" : Str),("call" : Str),("fail" : Str),("if" : Str),("else" : Str),("while" : Str),("end" : Str),("skip" : Str)]).Nodup; decide +kernel⟩⟩⟩
 have MP:cN.xV w K mg:=⟨⟨_,jB X G Zf⟩,⟨235,jB X G Vm,fun H=>.inr ⟨_,_,_,Vn,rfl,rfl,Gen.small (by simp),.cons ⟨_,rfl⟩ (.cons ⟨_,rfl⟩ (.cons ⟨_,rfl⟩ (.nil)))⟩⟩,⟨236,jB X G Vo,fun H=>.inr ⟨_,_,_,Vp,rfl,rfl,Gen.small (by simp),.cons ⟨_,rfl⟩ (.cons ⟨_,rfl⟩ (.nil))⟩⟩,(kG X G zT),(kG X G qo),(kG X G uq)⟩
 have ML:uj.Vc mg:=⟨(kG X G zT),(kG X G qo),(kG X G M0),(kG X G um)⟩
 have MG:eV.Mx mg:=⟨(kG X G qo),(kG X G EI),(kG X G wm),(kG X G MZ)⟩
 have VH:EX.XS K 24:=EX.P9 Zg
 have MC:HF.U1 K mg 24 37 104 123 142 161 49 61 73 85:=⟨jB X G eQ,jB X G nz,jB X G wo,jB X G qp,jB X G sF,jB X G BB,jB X G yu,jB X G BC,jB X G yw,jB X G Ig,EX.Jn Zh,by decide,(EX.kb rh).1,(EX.kb rh).2.1,(EX.kb rh).2.2,(kG X G gx),(kG X G um),(kG X G uo),(kG X G rf)⟩
 have wu:EX.X0 K mg "TooGreat" 37:=EX.P_ (jB X G nz) wq ((EX.kb rh).2.2 37 (by simp)).1 jx
 obtain ⟨f0,fd0,D0⟩:=bU (ps:=["thing"]) X G Vs (fun _ _ _ _ _ _=>(gg.wj fun _=>rfl))
 obtain ⟨f1,fd1,D1⟩:=bU (ps:=["thing"]) X G Vt (fun _ _ _ _ _ _=>(gg.wj fun _=>rfl))
 obtain ⟨f2,fd2,D2⟩:=bU (ps:=["thing"]) X G Vu (fun _ _ _ _ _ _=>(gg.wj fun _=>rfl))
 obtain ⟨f3,fd3,D3⟩:=bU (ps:=["thing"]) X G Vv (fun _ _ _ _ _ _=>(gg.wj fun _=>rfl))
 obtain ⟨f4,fd4,D4⟩:=bU (ps:=["thing"]) X G Vw (fun _ _ _ _ _ _=>(gg.wj fun _=>rfl))
 obtain ⟨f5,fd5,D5⟩:=bU (ps:=["thing"]) X G Vx (fun _ _ _ _ _ _=>(gg.wj fun _=>rfl))
 obtain ⟨f6,fd6,D6⟩:=bU (ps:=["thing"]) X G Vy (fun _ _ _ _ _ _=>(gg.wj fun _=>rfl))
 obtain ⟨f7,fd7,D7⟩:=bU (ps:=["thing"]) X G Vz (fun _ _ _ _ _ _=>(gg.wj fun _=>rfl))
 obtain ⟨f8,fd8,D8⟩:=bU (ps:=["row"]) X G VB (fun _ _ _ _ _ _=>(gg.wj fun _=>rfl))
 obtain ⟨f9,fd9,D9⟩:=bU (ps:=["opened","word"]) X G VF (fun _ _ _ _ _ _=>(gg.BY fun _ _=>rfl))
 obtain ⟨f10,Zi,Zj⟩:=bU (ps:=["opened","word"]) X G QE (fun _ _ _ _ _ _=>(gg.BY fun _ _=>rfl))
 obtain ⟨f11,Zk,Zl⟩:=bU (ps:=["program"]) X G QF (fun _ _ _ _ _ _=>(gg.wj fun _=>rfl))
 obtain ⟨f12,Zm,Zn⟩:=bU (ps:=["program"]) X G QG (fun _ _ _ _ _ _=>(gg.wj fun _=>rfl))
 obtain ⟨f13,Zo,Zp⟩:=bU (ps:=["program"]) X G QH (fun _ _ _ _ _ _=>(gg.wj fun _=>rfl))
 obtain ⟨f14,Zq,Zr⟩:=bU (ps:=["program","firsts","place"]) X G QI (fun _ _ _ _ _ _=>(gg.R6 fun _ _ _=>rfl))
 obtain ⟨f15,Zs,Zt⟩:=bU (ps:=["program"]) X G QJ (fun _ _ _ _ _ _=>(gg.wj fun _=>rfl))
 obtain ⟨f16,Zu,Zv⟩:=bU (ps:=["rows"]) X G QK (fun _ _ _ _ _ _=>(gg.wj fun _=>rfl))
 obtain ⟨f17,Zw,Zx⟩:=bU (ps:=["_law_script","_law_k"]) X G QL (fun _ _ _ _ _ _=>(gg.BY fun _ _=>rfl))
 obtain ⟨f18,Zy,Zz⟩:=bU (ps:=["_law_cell","_law_many"]) X G QM (fun _ _ _ _ _ _=>(gg.BY fun _ _=>rfl))
 obtain ⟨f19,ZA,ZC⟩:=bU (ps:=["_law_number","_law_words_here"]) X G QN (fun _ _ _ _ _ _=>(gg.BY fun _ _=>rfl))
 obtain ⟨f20,ZD,ZE⟩:=bU (ps:=["_law_number","_law_words_here"]) X G QO (fun _ _ _ _ _ _=>(gg.BY fun _ _=>rfl))
 obtain ⟨f21,ZF,ZG⟩:=bU (ps:=["_law_number","_law_name","_law_words_here","_law_later"]) X G QP (fun _ _ _ _ _ _=>(gg.WV fun _ _ _ _=>rfl))
 obtain ⟨f22,ZH,ZI⟩:=bU (ps:=["_law_number","_law_words_here","_law_later"]) X G QQ (fun _ _ _ _ _ _=>(gg.R6 fun _ _ _=>rfl))
 obtain ⟨f23,ZJ,ZL⟩:=bU (ps:=["_law_rows","_law_stack","_law_cell","_law_words_here","_law_later"]) X G QR (fun _ _ _ _ _ _=>(gg.Y' fun _ _ _ _ _=>rfl))
 obtain ⟨f24,ZM,ZN⟩:=bU (ps:=["_law_cell","_law_words_here"]) X G QS (fun _ _ _ _ _ _=>(gg.BY fun _ _=>rfl))
 obtain ⟨f25,ZO,ZP⟩:=bU (ps:=["_law_cells","_law_words_here","_law_plan_here"]) X G QT (fun _ _ _ _ _ _=>(gg.R6 fun _ _ _=>rfl))
 obtain ⟨f26,ZQ,ZR⟩:=bU (ps:=["_law_error"]) X G QU (fun _ _ _ _ _ _=>(gg.wj fun _=>rfl))
 obtain ⟨f27,ZS,ZT⟩:=bU (ps:=["_law_rows"]) X G QV (fun _ _ _ _ _ _=>(gg.wj fun _=>rfl))
 obtain ⟨f28,ZU,ZV⟩:=bU (ps:=["_law_cell","_law_words_here"]) X G QW (fun _ _ _ _ _ _=>(gg.BY fun _ _=>rfl))
 have F:=oG (st:=uj.kc) QB QC QD
 have DL:Df K mg "law" uj.kc ["_law_script"] 381 _:=⟨F,WW,F.binds (fun _ _ _ _ _ _=>Qz fun _=>rfl)⟩
 refine ⟨PySem.W.fnOf "law" "law" (eZ uj.kc) (cp uj.kc) (aj uj.kc) .none (.none) (.none) (.str "law_slicewise_k06_rows_refused" 578) none (.ref 380) (.none),fun s v=>.of_eq rfl,fun base _ _=>?_⟩
 have qd:=wG.Ez (P:=l.prog) (w:=w) (base:=base) ER VH (jB X G eQ)
 have ip:=wG.yl (P:=l.prog) (w:=w) (base:=base) yD VH (jB X G eQ)
 have jM:=wG.Bj (P:=l.prog) (w:=w) (base:=base) BJ VH (jB X G eQ)
 have wx:=cN.AB (P:=l.prog) (w:=w) (base:=base) D0 M2
 have jR:=cN.G1 (P:=l.prog) (w:=w) (base:=base) D1 M2
 have iy:=cN.ku (P:=l.prog) (w:=w) (base:=base) D2 jR wx
 have yE:=cN.vH (P:=l.prog) (w:=w) (base:=base) D3 M3 jR
 have ES:=cN.AE (P:=l.prog) (w:=w) (base:=base) D4 M3 yE iy
 have qr:=cN.nK (P:=l.prog) (w:=w) (base:=base) D5 M3
 have jA:=cN.nL (P:=l.prog) (w:=w) (base:=base) D6 M3 iy
 have mV:=cN.lh (P:=l.prog) (w:=w) (base:=base) D7 M3 jA jR
 have ET:=cN.AG (P:=l.prog) (w:=w) (base:=base) D8 M4 jR iy ES qr mV jA
 have wy:=cN.t7 (P:=l.prog) (w:=w) (base:=base) D9 MP
 have BK:=cN.xY (P:=l.prog) (w:=w) (base:=base) Zj MP
 have ur:=Ff.j9 (P:=l.prog) (w:=w) (base:=base) Zl MP qd ET
 have qt:=Ht.iG (P:=l.prog) (w:=w) (base:=base) Zn MP ip wy BK
 have uu:=cN.qY (P:=l.prog) (w:=w) (base:=base) Zp MP
 have yF:=Ht.ni (P:=l.prog) (w:=w) (base:=base) Zr MP
 have rj:=Ht.jk (P:=l.prog) (w:=w) (base:=base) Zt MP jM uu yF
 have uv:=Ff.gu (P:=l.prog) (w:=w) (base:=base) Zv MP wu ur qt rj
 have qu:=eV.yg (P:=l.prog) (w:=w) (base:=base) Zx MG
 have ux:=eV.Ei (P:=l.prog) (w:=w) (base:=base) Zz MG
 have cK:=eV.ku (P:=l.prog) (w:=w) (base:=base) ZC
 have yG:=eV.My (P:=l.prog) (w:=w) (base:=base) ZE cK
 have wz:=eV.HN (P:=l.prog) (w:=w) (base:=base) ZG MG cK
 have rl:=eV.Bf (P:=l.prog) (w:=w) (base:=base) ZI cK yG wz
 have yH:=eV.MF (P:=l.prog) (w:=w) (base:=base) ZL MG cK rl
 have wA:=eV.HP (P:=l.prog) (w:=w) (base:=base) ZN MG
 have qv:=eV.yj (P:=l.prog) (w:=w) (base:=base) ZP MG cK yH
 have uy:=HF.Ee (P:=l.prog) (w:=w) (base:=base) ZR MC
 have qw:=HF.yf (P:=l.prog) (w:=w) (base:=base) ZT MC uv uy
 have qx:=uj.yn (P:=l.prog) (w:=w) (base:=base) ZV ML
 exact uj.MJ (P:=l.prog) (w:=w) (base:=base) DL ML qu ux wA qv qx qw
theorem walk {l:PySem.W.OpenLaw} {q:Program} {loose:List Str} {XP:(Str→Option Value)→Heap→Prop} {d:DefRec} {K:World→PySem.W.Frag} (hn:l.most=some 63) (S4:d.params.defaults=[])
  (F:∀ (w:World) (mg:Str→Option Value) (fa:Addr) (h:Heap),(K w).In h→h.Ns mainGlobals mg→mg d.name=some (.ref fa) →
    ∃ fd:FuncData,(∀ (s:Shared) (u:Value),BindsTo s fd ⟨[u],[]⟩ [("_law_script",u)])∧∀ base:Heap,(K w).In base→base.Ns mainGlobals mg→cS l.prog w (K w) mg base iW 9 fa fd ["_law_script"] (b_ (K w) 1 uj.HW)) :
  PySem.W.WalkO q loose XP (fun w h=>(K w).In h) l.row.toRowW d [] (fun f vs=>PySem.call f vs):=by
 refine Ro.uQ hn S4 fun w s₀ s₁ mg mb fa o pm cd doc a vs ns G Y ho hd iL OB KR hints hlen hg=>?_
 obtain ⟨fd,hb,hF⟩:=F w mg fa _ Y G.T.g OB
 exact Cq (CX:=iW) (sp:=b_ (K w) 1 uj.HW) (k:=9) Y G.T.g G.T.b G.T.builtins G.T.nolimit hg KR hints (nB hlen (by decide)) ⟨rfl,by decide,by decide⟩ hF hb (fun H _ hS =>
  ⟨[.lst (ns.map .int)],[],[],fun _ r=>r = .vw (.bl true),JG,fun _ z=>(nomatch z),fun _ z=>(nomatch z),eB rfl (aE.cons (by
     simp only [At]
     refine ⟨a,ns.map V.int,rfl,hS.imp (fun z=>⟨z,fun m=>nomatch m⟩) id,?_⟩
     clear hS
     clear hints hlen
     induction ns with
     | nil=>exact aE.nil
     | cons n ns ih=>exact aE.cons bq ih) aE.nil),⟨ns,rfl,hlen,rfl⟩,fun us r hr v H' _ z=>by
     subst hr
     have:=z.1
     simpa only [At] using this⟩) fun _ _ _ z=>z
end gg
open PySem PySem.W PyProof.Rows
set_option maxRecDepth 100000 in
set_option maxHeartbeats 0 in
theorem PySem.Challenge.cw_slicewise_k06_rows_refused_holds : PySem.Challenge.rw_slicewise_k06_rows_refused.Holds := by
 w_on
 refine PySem.W.holds_law gg.MV fun MV=>?_
 refine PySem.W.holds_openX (q:=gg.qE) (loose:=gg.qm) (Xt:=HE.GI gg.qE [] []) (XP:=PySem.W.XL gg.qE []) (d:=gg.dE) (kwd:=[]) (N:=7856) gg.hd.1 (fun s e=>PySem.W.xl_of s (Bool.and_eq_true_iff.mp e).1) PySem.W.XL.keeps (by kernel_rfl) (by kernel_rfl) (by kernel_rfl) (fun s e=>PySem.W.recFacts_of (Bool.and_eq_true_iff.mp e).2) (by kernel_rfl) MV (by kernel_rfl) ⟨rfl,rfl,rfl,rfl,rfl,by decide +kernel⟩ ?hw ?hc
 (case hw=>w_witness2)
 exact HE.C5 (gg.walk (l:=PySem.Challenge.rw_slicewise_k06_rows_refused) (K:=gg.KE) rfl rfl (fun w mg fa h KX G OB=>gg.MW KX G OB (gg.hd.2 w)))
